import PyProof.Rows.All
import Wide.All
import OpenK.AllK
import Wide.FinOn
import Lean
import PyProof.EqAt
import PyProof.EqKinds
import PyProof.TupleCall
import PyProof.NeKinds
import KE.KEqDict
import KE.KRevIter
import PyProof.FactsAll.range_2
import PyProof.ZipIter
import PyProof.FitsReplace
import PyProof.MeetsStr
import PyProof.ListRange
import PyProof.CollectWalk
import PyProof.DictItems
import PyProof.DictItemsLoops
import PyProof.DictValues
import PyProof.DictWalks
import PyProof.StrCalls
import KE.KIsAll
import PyProof.Rows.Range3
import PyProof.Rows.MinMaxN
import PyProof.SumWalkG
import PyProof.MeetsStr2
import PyProof.StrBlockL
import PyProof.Rows.StrNews2
import PyProof.StrLawsOccR
import KE.KIntText
import PyProof.StrLawsIn
import PyProof.Rows.SeqMore2
import PyProof.ListOps
import PyProof.Rows.SeqMore
import PySem.Challenge.RW_quotatree_k39_whole_never_refused
open PySem.W (Frag instObj lookIn plainGet hasDictIn findIn isFn emptyDict specialIn keepIn mroIn kitOne fnOf codeIn excIn nsIn)
open List renaming getElem?_eq_getElem→zA,length_map→zB,getElem?_map→zC,mem_cons_of_mem→zD,map_append→zE,length_append→zF,mem_of_getElem?→zG,mem_cons_self→zH,mem_singleton→zI,mem_map→zJ,mem_cons→zK,getElem_mem→zL,mem_iff_getElem→zM,length_cons→zN,getElem?_append_right→zO,length_filter_le→zP,map_cons→zQ,mem_append_right→zR,take_add_one→zS,getElem?_append_left→zT,mem_append→zU,pairwise_iff_getElem→zV,filter_append→zW,nodup_cons→zX,filter_cons→zY,take_length→zZ,size_toArray→yA,length_take→yB,length_singleton→yC,append_nil→yD,mem_filter→yE,all_eq_true→yF,length_range→yG,not_mem_nil→yH,mem_append_left→yI,find?_cons→yJ,mem_flatten→yK,filter_nil→yL,nodup_nil→yM,map_map→yN,length_nil→yO,foldl_cons→yP,range_succ→yQ,mem_range→yR,any_cons→yS
set_option compiler.extract_closed false
set_option Elab.async false
set_option linter.all false
set_option maxRecDepth 100000
namespace L2
open PySem PySem.Spec PyProof.Rows
abbrev Key:=Sum Int Str
def qfl:Key→Value→Bool
 | .inl k,v=>Value.isInt k v
 | .inr x,v=>Value.isStrOf x v
def keyH (w:World):Key→Int
 | .inl k=>hashInt k
 | .inr x=>hashStr w x
theorem qaw:∀{k:Key} {v:Value},qfl k v=true→(∃i t,k=Sum.inl i∧v=Value.int i t)∨(∃x t,k=Sum.inr x∧v=Value.str x t)
 | .inl i,v,h=>by
  obtain⟨t,e⟩:=Value.isInt_shape (k:=i) (v:=v) h
  exact .inl ⟨i,t,rfl,e⟩
 | .inr x,v,h=>by
  obtain⟨t,e⟩:=Value.isStrOf_shape (x:=x) (v:=v) h
  exact .inr ⟨x,t,rfl,e⟩
theorem keyIs_int (i:Int) (t:Tok):qfl (.inl i) (.int i t)=true:=by simp [qfl,Value.isInt]
theorem keyIs_str (x:Str) (t:Tok):qfl (.inr x) (.str x t)=true:=by simp [qfl,Value.isStrOf]
theorem key_ll (a b:Int):decide ((Sum.inl a:Key)=Sum.inl b)=(a==b):=by
 by_cases e:a=b
 ·subst e;simp
 ·have h:¬(Sum.inl a:Key)=Sum.inl b:=fun q=>e (Sum.inl.inj q)
  rw [decide_eq_false h]
  exact(beq_eq_false_iff_ne.mpr e).symm
theorem key_rr (a b:Str):decide ((Sum.inr a:Key)=Sum.inr b)=decide (a=b):=by
 by_cases e:a=b
 ·subst e;simp
 ·have h:¬(Sum.inr a:Key)=Sum.inr b:=fun q=>e (Sum.inr.inj q)
  rw [decide_eq_false h,decide_eq_false e]
theorem key_lr (a:Int) (b:Str):decide ((Sum.inl a:Key)=Sum.inr b)=false:=decide_eq_false (fun q=>nomatch q)
theorem key_rl (a:Str) (b:Int):decide ((Sum.inr a:Key)=Sum.inl b)=false:=decide_eq_false (fun q=>nomatch q)
def qay (prog:Program) (w:World):PySem.KeyKind prog w Key where
 is:=qfl
 hash:=keyH w
 inj:=fun v a b ha hb=>by
  rcases qaw ha with ⟨i,t,rfl,rfl⟩ |⟨x,t,rfl,rfl⟩
  ·rcases qaw hb with ⟨j,u,rfl,e⟩ |⟨y,u,rfl,e⟩
   ·injection e with e1 _;rw [e1]
   ·exact nomatch e
  ·rcases qaw hb with ⟨j,u,rfl,e⟩ |⟨y,u,rfl,e⟩
   ·exact nomatch e
   ·injection e with e1 _;rw [e1]
 byValue:=fun k v h=>by
  rcases qaw h with ⟨i,t,rfl,rfl⟩ |⟨x,t,rfl,rfl⟩ <;> rfl
 pyHash:=fun hv h=>by
  rcases qaw hv with ⟨i,t,rfl,rfl⟩ |⟨x,t,rfl,rfl⟩
  ·exact wpAny_pyHash_int h
  ·exact wpAny_pyHash_str h
 eqBool:=fun hu hv h=>by
  rcases qaw hu with ⟨i,t,rfl,rfl⟩ |⟨x,t,rfl,rfl⟩
  ·rcases qaw hv with ⟨j,u,rfl,rfl⟩ |⟨y,u,rfl,rfl⟩
   ·rw [key_ll] at h;exact wpAny_eqBool_int h
   ·rw [key_lr] at h;exact SeqAt.EqAt.int_str i t y u _ _ _ _ h
  ·rcases qaw hv with ⟨j,u,rfl,rfl⟩ |⟨y,u,rfl,rfl⟩
   ·rw [key_rl] at h;exact SeqAt.EqAt.str_int x t j u _ _ _ _ h
   ·rw [key_rr] at h;exact wpAny_eqBool_str h
 «strs»:=fun k x t v h=>by
  rcases qaw h with ⟨i,u,rfl,e⟩ |⟨y,u,rfl,e⟩
  ·exact nomatch e
  ·injection e with e1 _
   subst e1
   cases v <;> rfl
theorem mixKind_int (prog:Program) (w:World) (i:Int) (t:Tok):(qay prog w).is (.inl i) (.int i t)=true:=keyIs_int i t
theorem mixKind_str (prog:Program) (w:World) (x:Str) (t:Tok):(qay prog w).is (.inr x) (.str x t)=true:=keyIs_str x t
inductive V where
 |non|bl (b:Bool) |int (i:Int) |str (x:Str) |byt (b:Array UInt8) |flt (b:UInt64) |ref (a:Addr) |ty (n:String)
 deriving DecidableEq
def qb1:V→Value→Prop
 | .non,u=>u=Value.none
 | .bl b,u=>u=Value.bool b
 | .int i,u=>∃t,u=Value.int i t
 | .str x,u=>∃t,u=Value.str x t
 | .byt b,u=>∃t,u=Value.bytes b t
 | .flt b,u=>∃t,u=Value.float b t
 | .ref a,u=>u=Value.ref a
 | .ty n,u=>u=Value.type n
abbrev qb9:List V→List Value→Prop:=Paired qb1
theorem qb9.length {xs:List V} {us:List Value} (r:qb9 xs us):xs.length=us.length:=Paired.length r
theorem qb9.get:∀{xs:List V} {us:List Value} {i:Nat} {x:V},qb9 xs us→xs[i]?=some x→∃u,us[i]?=some u∧qb1 x u
 |_,_,_,_,.nil,e=>by simp at e
 |_,_,0,_,.cons r _,e=>by simp at e;subst e;exact⟨_,rfl,r⟩
 |_,_,i+1,x,.cons _ t,e=>by
  obtain⟨u,h1,h2⟩:=qb9.get (i:=i) (x:=x) t (by simpa using e)
  exact⟨u,by simpa using h1,h2⟩
theorem qb9.set {x:V} {u:Value} (r:qb1 x u):∀{xs:List V} {us:List Value} (i:Nat),qb9 xs us→qb9 (xs.set i x) (us.set i u)
 |_,_,_,.nil=> .nil
 |_,_,0,.cons _ t=> .cons r t
 |_,_,i+1,.cons q t=> .cons q (qb9.set r i t)
theorem qb9.append:∀{xs ys:List V} {us ws:List Value},qb9 xs us→qb9 ys ws→qb9 (xs++ys) (us++ws)
 |_,_,_,_,.nil,s=>s
 |_,_,_,_,.cons r t,s=> .cons r (qb9.append t s)
def RelO:Option V→Option Value→Prop
 |some v,some u=>qb1 v u
 |none,none=>True
 |_,_=>False
def KV {κ:Type}:List (κ × V)→List (κ × Value)→Prop:=Paired fun(p:κ × V) (q:κ × Value)=>p.1=q.1∧qb1 p.2 q.2
def kV:Key→V
 | .inl i=> .int i
 | .inr x=> .str x
inductive HO where
 |lst (xs:List V)
 |tup (xs:List V)
 |dK (kvs:List (Key × V)) |dT (kvs:List (List Key × V))
 |set (S:Int→Bool) (n:Nat)
 |ins (C dx:Addr) (fs:List (Str × V))
 |own (x:Addr)
 |xd (fs:List (Str × V))
 |met (f x:Addr)
 |rng (lo hi:Int)
 |frz (o:Obj) (u:HO)
 |tbl (ps:Array Value)
 |ext (φ:Heap→Prop)
abbrev Hp:=Addr→Option HO
def upd (H:Hp) (a:Addr) (o:HO):Hp:=fun b=>if b=a then some o else H b
theorem qa3 {H:Hp} {a:Addr} {o:HO}:upd H a o a=some o:=by unfold upd;rw [if_pos rfl]
theorem qa6 {H:Hp} {a b:Addr} {o:HO} (h:b≠a):upd H a o b=H b:=by unfold upd;rw [if_neg h]
theorem qb5 {H:Hp} {a:Addr} {o u:HO}:upd (upd H a o) a u=upd H a u:=by
 funext b;unfold upd;split <;> rfl
theorem ne_of {H:Hp} {a b:Addr} {o u:HO} (h:H a=some o) (h':H b=some u) (d:o≠u):a≠b:=by
 intro e;subst e;rw [h] at h';exact d (Option.some.inj h')
theorem qa5 {H:Hp} {a b:Addr} {o:HO} (h:H a=some o) (h':H b=none):a≠b:=by
 intro e;subst e;rw [h] at h';cases h'
section
variable (P : Program) (w : World)
def qbd (H:Hp) (h:Heap) (a:Addr):HO→Prop
 | .lst xs=>xs.length≤sizeLine∧∃(its:List Value) (n:Nat),qb9 xs its∧h.get? a=some {cls:=.type "list",data:=.seq its.toArray n}
 | .tup xs=>xs.length≤sizeLine∧∃its:List Value,qb9 xs its∧IsTup h a its.toArray
 | .dK kvs=>kvs.length≤sizeLine∧(a==sysModules)=false∧∃vs,KV kvs vs∧h.DictOf (qay P w) a vs
 | .dT kvs=>kvs.length≤sizeLine∧(a==sysModules)=false∧∃xs:List (List Key × Addr × Value),
   Paired (fun(p:List Key × V) (q:List Key × Addr × Value)=>p.1=q.1∧H q.2.1=some (.tup (p.1.map kV))∧qb1 p.2 q.2.2) kvs xs∧
   ∃o es ep,h.get? a=some o∧o.ExactDict∧o.data=.dict es ep∧es.toList=xs.map (entryOfKey (tupleKind (qay P w)))∧(xs.map (·.1)).Nodup
 | .set S n=>h.SetOf (intKind P w) a S n
 | .ins C dx fs=>H dx=some (.own a)∧fs.length≤1000∧dx≠a∧h.get? a=some (instObj C dx)∧
   ∃mA,h.Ns1 dx mA∧(∀f,RelO (fs.lookup f) (mA f))∧PySem.Within mA (fs.map (·.1))
 | .own _=>∃o,h.get? a=some o
 | .xd fs=>∃mA,h.Ns1 a mA∧∀f,RelO (fs.lookup f) (mA f)
 | .rng lo hi=>∃t u v,h.get? a=some {cls:=.type "range",data:=.fields #[.int lo t,.int hi u,.int 1 v]}
 | .frz o u=>h.get? a=some o∧qbd H h a u
 | .tbl ps=>h.get? a=some {cls:=.none,data:=.fields ps}
 | .met f x=>h.get? a=some (PySem.W.methodObj (.ref f) (.ref x))
 | .ext φ=>φ h∧(∃o,h.get? a=some o)∧∀h1 h2:Heap,φ h1→(∀o,h1.get? a=some o→h2.get? a=some o)→φ h2
def HOk (H:Hp) (h:Heap):Prop:=∀a o,H a=some o→qbd P w H h a o
end
section
variable {P : Program} {w : World} {H H' : Hp} {h h' : Heap} {a : Addr} {o : HO}
theorem qbd.lt (x:qbd P w H h a o):a < h.objs.size:=by
 cases o with
 |lst xs=>obtain⟨_,_,_,_,e⟩:=x;exact Heap.lt_size e
 |tup xs=>obtain⟨_,_,_,p⟩:=x;exact p.lt
 |dK kvs=>obtain⟨_,_,_,_,o,_,_,e,_⟩:=x;exact Heap.lt_size e
 |dT kvs=>obtain⟨_,_,_,_,o,_,_,e,_⟩:=x;exact Heap.lt_size e
 |set S n=>obtain⟨o,_,_,_,e,_⟩:=x;exact Heap.lt_size e
 |ins C dx fs=>obtain⟨_,_,_,e,_⟩:=x;exact Heap.lt_size e
 |own y=>obtain⟨_,e⟩:=x;exact Heap.lt_size e
 |xd fs=>obtain⟨_,⟨_,_,_,e,_⟩,_⟩:=x;exact Heap.lt_size e
 |rng lo hi=>obtain⟨_,_,_,e⟩:=x;exact Heap.lt_size e
 |frz ob u=>obtain⟨e,_⟩:=x;exact Heap.lt_size e
 |tbl ps=>exact Heap.lt_size (show h.get? a=some _ from x)
 |met f y=>exact Heap.lt_size (show h.get? a=some _ from x)
 |ext φ=>obtain⟨_,⟨_,e⟩,_⟩:=x;exact Heap.lt_size e
theorem Paired.mapP {α β:Type} {F G:α→β→Prop}:∀{l₁:List α} {l₂:List β},Paired F l₁ l₂→(∀a b,F a b→G a b)→Paired G l₁ l₂
 |_,_,.nil,_=> .nil
 |_,_,.cons r t,f=> .cons (f _ _ r) (Paired.mapP t f)
theorem qbd.stay (x:qbd P w H h a o) (k:∀b u,(b=a∨H b=some (.own a))→h.get? b=some u→h'.get? b=some u)
  (ho:∀b,H b=some (.own a)→H' b=some (.own a)) (ht:∀b xs,H b=some (.tup xs)→H' b=some (.tup xs)):qbd P w H' h' a o:=by
 induction o with
 |lst xs=>obtain⟨z,its,n,r,e⟩:=x;exact⟨z,its,n,r,k _ _ (.inl rfl) e⟩
 |tup xs=>obtain⟨z,its,r,ob,e,c⟩:=x;exact⟨z,its,r,ob,k _ _ (.inl rfl) e,c⟩
 |dK kvs=>obtain⟨z,y,vs,r,ob,es,ep,e,c⟩:=x;exact⟨z,y,vs,r,ob,es,ep,k _ _ (.inl rfl) e,c⟩
 |dT kvs=>
  obtain⟨z,y,xs,r,ob,es,ep,e,c⟩:=x
  exact⟨z,y,xs,Paired.mapP r fun p q z=>⟨z.1,ht _ _ z.2.1,z.2.2⟩,ob,es,ep,k _ _ (.inl rfl) e,c⟩
 |set S n=>obtain⟨ob,es,ep,t,e,c⟩:=x;exact⟨ob,es,ep,t,k _ _ (.inl rfl) e,c⟩
 |ins C dx fs=>
  obtain⟨d,z,ne,e,mA,⟨od,es,ep,e2,c⟩,r⟩:=x
  exact⟨ho _ d,z,ne,k _ _ (.inl rfl) e,mA,⟨od,es,ep,k _ _ (.inr d) e2,c⟩,r⟩
 |own y=>obtain⟨ob,e⟩:=x;exact⟨ob,k _ _ (.inl rfl) e⟩
 |xd fs=>obtain⟨mA,⟨od,es,ep,e,c⟩,r⟩:=x;exact⟨mA,⟨od,es,ep,k _ _ (.inl rfl) e,c⟩,r⟩
 |rng lo hi=>obtain⟨t,u,v,e⟩:=x;exact⟨t,u,v,k _ _ (.inl rfl) e⟩
 |frz ob u ih=>obtain⟨e,q⟩:=x;exact⟨k _ _ (.inl rfl) e,ih q⟩
 |tbl ps=>
  have e:h.get? a=some {cls:=.none,data:=.fields ps}:=x
  show h'.get? a=some {cls:=.none,data:=.fields ps}
  exact k a _ (.inl rfl) e
 |met f y=>
  have e:h.get? a=some (PySem.W.methodObj (.ref f) (.ref y)):=x
  show h'.get? a=some (PySem.W.methodObj (.ref f) (.ref y))
  exact k a _ (.inl rfl) e
 |ext φ=>obtain⟨p,⟨o,e⟩,st⟩:=x;exact⟨st _ _ p fun o q=>k _ _ (.inl rfl) q,⟨o,k _ _ (.inl rfl) e⟩,st⟩
theorem HOk.lt (x:HOk P w H h) (e:H a=some o):a < h.objs.size:=(x a o e).lt
theorem HOk.fresh (x:HOk P w H h) (e:h.objs.size≤a):H a=none:=by
 cases q:H a with
 |none=>rfl
 |some u=>exact absurd (Nat.lt_of_lt_of_le (x.lt q) e) (Nat.lt_irrefl _)
theorem HOk.kept (x:HOk P w H h) (k:∀b u,h.get? b=some u→h'.get? b=some u):HOk P w H h':=fun a o e=>
 (x a o e).stay (fun b u _ q=>k b u q) (fun _ q=>q) fun _ _ q=>q
theorem HOk.laid (x:HOk P w H h) (k:∀b u,h.get? b=some u→h'.get? b=some u) (hp:h.objs.size≤a) (new:qbd P w (upd H a o) h' a o):HOk P w (upd H a o) h':=fun b u e=>by
 have hn:=x.fresh hp
 by_cases hb:b=a
 ·subst hb;rw [qa3] at e;cases e;exact new
 ·rw [qa6 hb] at e
  exact(x b u e).stay (fun c v _ q=>k c v q) (fun c q=>by rw [qa6 (qa5 q hn)];exact q) fun c xs q=>by rw [qa6 (qa5 q hn)];exact q
end
def Rd (H:Hp) (a:Addr) (u:HO):Prop:=H a=some u∨∃o,H a=some (.frz o u)
theorem Rd.of {H:Hp} {a:Addr} {u:HO} (h:H a=some u):Rd H a u:=.inl h
theorem Rd.ok {P:Program} {w:World} {H:Hp} {h:Heap} {a:Addr} {u:HO} (r:Rd H a u) (x:HOk P w H h):qbd P w H h a u:=by
 rcases r with r|⟨o,r⟩
 ·exact x a u r
 ·obtain⟨_,q⟩:=x a _ r
  exact q
def Mut:Option HO→Prop
 |some (.lst _)=>True
 |some (.dK _)=>True
 |some (.dT _)=>True
 |some (.set _ _)=>True
 |some (.ins _ _ _)=>True
 |some (.ext _)=>True
 |_=>False
section
variable {P : Program} {w : World} {H : Hp} {h h' : Heap} {x e : Addr} {o' : HO}
theorem HOk.write (ok:HOk P w H h) (mu:Mut (H x)) (he:e=x∨H e=some (.own x)) (k:∀b u,b≠e→h.get? b=some u→h'.get? b=some u) (heo:∃u,h'.get? e=some u)
  (new:qbd P w (upd H x o') h' x o'):HOk P w (upd H x o') h':=fun b u q=>by
 have nown:∀c y,H c=some (.own y)→c≠x:=fun c y r z=>by subst z;rw [r] at mu;exact mu
 have ntup:∀c xs,H c=some (.tup xs)→c≠x:=fun c xs r z=>by subst z;rw [r] at mu;exact mu
 by_cases hb:b=x
 ·subst hb;rw [qa3] at q;cases q;exact new
 ·rw [qa6 hb] at q
  by_cases hbe:b=e
  ·have q':H b=some (.own x):=by
    rcases he with z|z
    ·exact absurd (hbe.trans z) hb
    ·rw [hbe];exact z
   rw [q] at q';cases q'
   obtain⟨v,hv⟩:=heo
   exact⟨v,by rw [hbe];exact hv⟩
  ·refine(ok b u q).stay (fun c v hc r=>k c v ?_ r) (fun c r=>by rw [qa6 (nown c b r)];exact r) fun c xs r=>by rw [qa6 (ntup c xs r)];exact r
   rcases hc with rfl|hc
   ·exact hbe
   ·rintro rfl
    rcases he with z|z
    ·exact nown c b hc z
    ·rw [hc] at z;cases z;exact hb rfl
end
structure Un (fs ex:List Addr) (H H':Hp) (h h':Heap):Prop where
 keep:∀b o,h.get? b=some o→H b=none→b∉fs→b∉ex→h'.get? b=some o
 slot:∀b o,h.get? b=some o→H b=none→b∈fs→b∉ex→∃sl,h'.get? b=some {o with slots:=sl}
 free:∀b o,h.get? b=some o→H b=none→b∉ex→H' b=none
 there:∀b o,h.get? b=some o→b∉ex→∃o',h'.get? b=some o'
 tups:∀b xs,H b=some (.tup xs)→H' b=some (.tup xs)
 frzs:∀b o u,H b=some (.frz o u)→H' b=some (.frz o u)
 tbls:∀b ps,H b=some (.tbl ps)→∃more,H' b=some (.tbl (ps++more))
section
variable {fs fs' ex ex' : List Addr} {H H1 H2 : Hp} {h h1 h2 h' : Heap} {a x e : Addr} {o : HO}
theorem Un.any (u:Un fs ex H H1 h h1) {b:Addr} {ob:Obj} (q:h.get? b=some ob) (n:H b=none) (hx:b∉ex):∃sl,h1.get? b=some {ob with slots:=sl}:=by
 by_cases hb:b∈fs
 ·exact u.slot b ob q n hb hx
 ·exact⟨ob.slots,u.keep b ob q n hb hx⟩
theorem Un.kept (k:∀b u,h.get? b=some u→h'.get? b=some u):Un fs ex H H h h':=
 ⟨fun b ob q _ _ _=>k b ob q,fun b ob q _ _ _=>⟨ob.slots,k b ob q⟩,fun _ _ _ n _=>n,fun b ob q _=>⟨ob,k b ob q⟩,fun _ _ q=>q,fun _ _ _ q=>q,fun _ ps q=>⟨#[],by rw [q];simp⟩⟩
theorem Un.refl:Un fs ex H H h h:=Un.kept fun _ _ q=>q
theorem Un.laid (k:∀b u,h.get? b=some u→h'.get? b=some u) (hp:h.objs.size≤a) (hn:H a=none):Un fs ex H (upd H a o) h h' where
 keep:=fun b u q _ _ _=>k b u q
 slot:=fun b u q _ _ _=>⟨u.slots,k b u q⟩
 free:=fun b u q n _=>by rw [qa6 (Nat.ne_of_lt (Nat.lt_of_lt_of_le (Heap.lt_size q) hp))];exact n
 there:=fun b u q _=>⟨u,k b u q⟩
 tups:=fun b xs q=>by rw [qa6 (qa5 q hn)];exact q
 frzs:=fun b u xs q=>by rw [qa6 (qa5 q hn)];exact q
 tbls:=fun b ps q=>⟨#[],by rw [qa6 (qa5 q hn),q];simp⟩
theorem Un.write (mu:Mut (H x)) (he:e=x∨H e=some (.own x)) (k:∀b u,b≠e→h.get? b=some u→h'.get? b=some u) (heo:∃u,h'.get? e=some u):Un fs ex H (upd H x o) h h':=by
 have hx:∀b,H b=none→b≠x:=fun b n z=>by subst z;rw [n] at mu;exact mu
 have hb:∀b,H b=none→b≠e:=fun b n z=>by
  subst z
  rcases he with r|r
  ·exact hx b n r
  ·rw [n] at r;cases r
 have hm:∀b u,H b=some u→¬Mut (some u)→b≠x:=fun b u q nm z=>by subst z;rw [q] at mu;exact nm mu
 refine⟨fun b u q n _ _=>k b u (hb b n) q,fun b u q n _ _=>⟨u.slots,k b u (hb b n) q⟩,fun b u q n _=>by rw [qa6 (hx b n)];exact n,fun b u q _=>?_,
  fun b xs q=>by rw [qa6 (hm b _ q fun z=>z)];exact q,fun b u xs q=>by rw [qa6 (hm b _ q fun z=>z)];exact q,fun b ps q=>⟨#[],by rw [qa6 (hm b _ q fun z=>z),q];simp⟩⟩
 by_cases hbe:b=e
 ·subst hbe;exact heo
 ·exact⟨u,k b u hbe q⟩
end
def trk (h:Heap) (H:Hp):List Addr:=(List.range h.objs.size).filter fun a=>(H a).isSome
def hidT (h:Heap) (H:Hp):Heap:=PySem.W.hideAll h (trk h H)
theorem hidT_size (h:Heap) (H:Hp):(hidT h H).objs.size=h.objs.size:=PySem.W.hideAll_size _ _
theorem hidT_get {h:Heap} {H:Hp} {b:Addr} {o:Obj} (e:h.get? b=some o) (n:H b=none):(hidT h H).get? b=some o:=
 PySem.W.hideAll_get _ e fun hm=>by
  have q:(H b).isSome=true:=(yE.mp hm).2
  rw [n] at q;simp at q
theorem of_hidT {h:Heap} {H:Hp} {b:Addr} {o:Obj} (e:(hidT h H).get? b=some o):h.get? b=some o∧H b=none:=by
 have e':h.get? b=some o:=PySem.W.of_hideAll (trk h H) e
 refine⟨e',?_⟩
 cases q:H b with
 |none=>rfl
 |some x=>
  have hm:b∈trk h H:=yE.mpr ⟨yR.mpr (Heap.lt_size e'),by simp [q]⟩
  have z:(hidT h H).get? b=none:=PySem.W.hideAll_none (trk h H) hm
  rw [z] at e;cases e
def allNews (g h:Heap) (L:Addr):List (Addr × Obj):=(List.range h.objs.size).filterMap fun a=>if a=L∨(g.get? a).isSome=true then none else (h.get? a).map fun o=>(a,o)
def rest (g h:Heap) (L d:Addr):List (Addr × Obj):=(allNews g h L).filter fun p=>decide (p.1≠d)
structure Mod (K:Frag) (mg:Str→Option Value) (base:Heap):Prop where
 kin:K.In base
 glob:base.Ns mainGlobals mg
 blt:∃mb,base.Ns builtinsNs mb∧∀x:Str,x≠"__name__"→mb x=bootBuiltins x
 nolimit:base.NoLimit
structure Cx where
 prog:Program
 w:World
 K:Frag
 mg:Str→Option Value
 base:Heap
 A:Around
 N:List Str
 s₀:Shared
 H₀:Hp
 env:Env
 outer:List Env
 stack:List Env
 ex:List Addr
 fn:Str→Bool
 calm:Bool
 pn:List (Addr × Obj)
 xe:Value→Shared→Prop
def frs (l:List Env):List Addr:=l.filterMap (·.frame)
abbrev Cx.fs (X:Cx):List Addr:=frs X.outer
def Vis (sc:Scope) (x:Str):Prop:=sc.names.lookup x=some .local∨sc.names.lookup x=some .cell∨sc.names.lookup x=some .free
def Loc (sc:Scope) (x:Str):Prop:=sc.names.lookup x=some .local∨sc.names.lookup x=some .cell
def Look (env:Env) (h:Heap) (m:Str→Option Value) (x:Str) (u:Value):Prop:=
 (env.kindOf x=some .local∧m x=some u)∨((env.kindOf x=some .cell∨env.kindOf x=some .free)∧∃c,env.cells.lookup x=some c∧h.IsCell c (some u))
structure Cx.Ok (X:Cx):Prop where
 mod:Mod X.K X.mg X.base
 kind:X.env.scope.kind=.function
 glob:X.env.globals=mainGlobals
 blt:X.env.builtins=builtinsNs
 above:X.s₀.heap.objs.size≤X.env.locals
 inj:∀x y c,X.env.cells.lookup x=some c→X.env.cells.lookup y=some c→x=y
 has:∀x,(X.env.kindOf x=some .cell∨X.env.kindOf x=some .free)→∃c,X.env.cells.lookup x=some c
 cab:∀x c,X.fn x=true→X.env.cells.lookup x=some c→X.s₀.heap.objs.size≤c
 hd:X.calm=true→X.A.handled=none
 frames:X.A.frames=some X.stack
 stk:X.stack=X.outer∨(X.stack=X.env :: X.outer∧X.env.frame=some X.env.locals)
 exf:∀b∈X.ex,b≠X.env.locals∧∀x c,X.env.cells.lookup x=some c→c≠b
 bs:∀b o,X.base.get? b=some o→X.s₀.heap.get? b=some o∧X.H₀ b=none
 bsz:X.base.objs.size≤X.s₀.heap.objs.size
 noex:∀b o,X.base.get? b=some o→b∉X.ex
 exfs:∀b∈X.ex,b∉X.fs
 funs:X.s₀.heap.FunFrames X.base X.outer
 frf:∀b∈X.fs,X.H₀ b=none
structure Inv (X:Cx) (pins:List (Addr × Obj)) (σ:List (Option V)) (H:Hp) (s:Shared):Prop where
 ok:X.Ok
 os:s.os=X.s₀.os
 bare:AllBare s.gens
 base:Un X.fs X.ex X.H₀ H X.s₀.heap s.heap
 loc:∃m,s.heap.Ns X.env.locals m∧∀(i:Nat) (x:Str) (v:V),X.N[i]?=some x→σ[i]?=some (some v)→Vis X.env.scope x→∃u,qb1 v u∧Look X.env s.heap m x u
 cell:∀x c,X.env.cells.lookup x=some c→∃v,s.heap.IsCell c v
 free:H X.env.locals=none
 freeC:∀x c,X.env.cells.lookup x=some c→H c=none
 pin:∀p∈X.pn++pins,s.heap.get? p.1=some p.2∧H p.1=none∧p.1≠X.env.locals∧p.1∉X.fs∧∀v,p.2.data≠ .cell v
 hok:HOk X.prog X.w H s.heap
 len:σ.length=X.N.length
section
variable {X : Cx} {pins : List (Addr × Obj)} {σ : List (Option V)} {H H' : Hp} {s : Shared} {h' : Heap}
theorem Cx.Ok.nofr (ok:X.Ok) {b:Addr} {o:Obj} (e:X.base.get? b=some o):b∉X.fs:=fun hb=>by
 have:=(ok.funs.mem hb).1
 rw [e] at this;cases this
theorem Inv.bs (I:Inv X pins σ H s):∀b o,X.base.get? b=some o→s.heap.get? b=some o∧H b=none:=fun b o e=>
 ⟨I.base.keep b o (I.ok.bs b o e).1 (I.ok.bs b o e).2 (I.ok.nofr e) (I.ok.noex b o e),I.base.free b o (I.ok.bs b o e).1 (I.ok.bs b o e).2 (I.ok.noex b o e)⟩
theorem Inv.bk (I:Inv X pins σ H s):∀b o,X.base.get? b=some o→s.heap.get? b=some o:=fun b o e=>(I.bs b o e).1
theorem Inv.mod (I:Inv X pins σ H s):Mod X.K X.mg X.base:=I.ok.mod
theorem Inv.kIn (I:Inv X pins σ H s):X.K.In s.heap:=I.ok.mod.kin.keeps I.bk
theorem Inv.lt (I:Inv X pins σ H s):X.env.locals < s.heap.objs.size:=let ⟨_,hn,_⟩:=I.loc;hn.lt
theorem Inv.sz (I:Inv X pins σ H s):X.s₀.heap.objs.size≤s.heap.objs.size:=Nat.le_trans I.ok.above (Nat.le_of_lt I.lt)
theorem Inv.nofs (I:Inv X pins σ H s) {a:Addr} (h:s.heap.objs.size≤a):a∉X.fs:=fun hb=>by
 obtain⟨_,o,ho,_⟩:=I.ok.funs.mem hb
 exact absurd (Nat.lt_of_lt_of_le (Heap.lt_size ho) (Nat.le_trans I.sz h)) (Nat.lt_irrefl _)
theorem Inv.cne (I:Inv X pins σ H s):∀x c,X.env.cells.lookup x=some c→c≠X.env.locals:=fun x c e z=>by
 obtain⟨v,o,ho,hd⟩:=I.cell x c e
 obtain⟨m,⟨o',es,ep,ho',hd',_⟩,_⟩:=I.loc
 rw [z,ho'] at ho;cases ho;rw [hd'] at hd;cases hd
theorem Inv.funs (I:Inv X pins σ H s):s.heap.FunFrames X.base X.outer:=by
 have all:∀(l:List Env),(∀b∈frs l,b∈X.fs)→X.s₀.heap.FunFrames X.base l→s.heap.FunFrames X.base l:=by
  intro l
  induction l with
  |nil=>intro _ _;trivial
  |cons env r ih=>
   intro hs hl
   obtain⟨hk,⟨L,o,hf,hn,ho,hd⟩,hr⟩:=hl
   have hL:L∈X.fs:=hs L (by unfold frs;rw [List.filterMap_cons,hf];exact zH)
   obtain⟨sl,e⟩:=I.base.slot L o ho (I.ok.frf L hL) hL fun z=>I.ok.exfs L z hL
   exact⟨hk,⟨L,_,hf,hn,e,hd⟩,ih (fun b hb=>hs b (by unfold frs;rw [List.filterMap_cons,hf];exact zD _ hb)) hr⟩
 exact all X.outer (fun _ hb=>hb) I.ok.funs
theorem Inv.stack (I:Inv X pins σ H s):s.heap.FunFrames X.base X.stack:=by
 rcases I.ok.stk with e|⟨e,hf⟩
 ·rw [e];exact I.funs
 ·rw [e]
  obtain⟨m,hn,_⟩:=I.loc
  refine .cons (by rw [I.ok.kind];decide) hf hn ?_ I.funs
  exact Heap.get?_none_of_le (Nat.le_trans I.ok.bsz I.ok.above)
theorem Inv.stkSub (I:Inv X pins σ H s):∀b∈frs X.stack,b∈X.env.locals :: X.fs:=fun b hb=>by
 rcases I.ok.stk with e|⟨e,hf⟩
 ·rw [e] at hb;exact zD _ hb
 ·rw [e] at hb
  unfold frs at hb
  rw [List.filterMap_cons,hf] at hb
  exact hb
theorem Inv.stkFree (I:Inv X pins σ H s):∀b∈frs X.stack,H b=none:=fun b hb=>by
 rcases zK.mp (I.stkSub b hb) with e|hb
 ·rw [e];exact I.free
 ·obtain⟨_,o,ho,_⟩:=I.ok.funs.mem hb
  exact I.base.free b o ho (I.ok.frf b hb) fun z=>I.ok.exfs b z hb
theorem Inv.step {g':Array GenState} {t':Nat} {d':Drawn} {ch:List Addr} (I:Inv X pins σ H s)
  (hch:∀b∈ch,(b∈X.ex∨X.s₀.heap.objs.size≤b)∧b≠X.env.locals∧(∀x c,X.env.cells.lookup x=some c→c≠b)∧∀p∈X.pn++pins,p.1≠b)
  (keep:∀b o,b≠X.env.locals→b∉X.fs→b∉ch→s.heap.get? b=some o→H b=none→h'.get? b=some o)
  (slot:∀b o,b≠X.env.locals→b∈X.fs→b∉ch→s.heap.get? b=some o→H b=none→∃sl,h'.get? b=some {o with slots:=sl}) (free:∀b o,b∉ch→s.heap.get? b=some o→H b=none→H' b=none)
  (there:∀b o,b∉ch→s.heap.get? b=some o→∃o',h'.get? b=some o')
  (tups:∀b xs,H b=some (.tup xs)→H' b=some (.tup xs)) (frzs:∀b o u,H b=some (.frz o u)→H' b=some (.frz o u)) (tbls:∀b ps,H b=some (.tbl ps)→∃more,H' b=some (.tbl (ps++more)))
  (ns:∀m,s.heap.Ns X.env.locals m→h'.Ns X.env.locals m) (hok:HOk X.prog X.w H' h') (hg:AllBare g'):
  Inv X pins σ H' {s with heap:=h',gens:=g',drawn:=d',toks:=t'}:=by
 have neL:∀b o,X.s₀.heap.get? b=some o→b≠X.env.locals:=fun b o e=>Nat.ne_of_lt (Nat.lt_of_lt_of_le (Heap.lt_size e) I.ok.above)
 have neC:∀b o,X.s₀.heap.get? b=some o→b∉X.ex→b∉ch:=fun b o e hx hb=>by
  rcases(hch b hb).1 with z|z
  ·exact hx z
  ·exact absurd (Nat.lt_of_lt_of_le (Heap.lt_size e) z) (Nat.lt_irrefl _)
 have cellK:∀x c,X.env.cells.lookup x=some c→∀v,s.heap.IsCell c v→h'.IsCell c v:=fun x c e v ⟨o,ho,hd⟩=>by
  have nch:c∉ch:=fun z=>(hch c z).2.2.1 x c e rfl
  by_cases hc:c∈X.fs
  ·obtain⟨sl,q⟩:=slot c o (I.cne x c e) hc nch ho (I.freeC x c e)
   exact⟨_,q,hd⟩
  ·exact⟨o,keep c o (I.cne x c e) hc nch ho (I.freeC x c e),hd⟩
 refine⟨I.ok,I.os,hg,⟨fun b o e n hb hx=>?_,fun b o e n hb hx=>?_,fun b o e n hx=>?_,fun b o e hx=>?_,fun b xs e=>tups b xs (I.base.tups b xs e),fun b o xs e=>frzs b o xs (I.base.frzs b o xs e),fun b ps e=>?_⟩,?_,fun x c e=>?_,?_,fun x c e=>?_,fun p hp=>?_,hok,I.len⟩
 ·exact keep b o (neL b o e) hb (neC b o e hx) (I.base.keep b o e n hb hx) (I.base.free b o e n hx)
 ·obtain⟨sl,e1⟩:=I.base.slot b o e n hb hx
  obtain⟨sl',e2⟩:=slot b _ (neL b o e) hb (neC b o e hx) e1 (I.base.free b o e n hx)
  exact⟨sl',e2⟩
 ·obtain⟨o',e1⟩:=I.base.there b o e hx
  exact free b o' (neC b o e hx) e1 (I.base.free b o e n hx)
 ·obtain⟨o',e1⟩:=I.base.there b o e hx
  exact there b o' (neC b o e hx) e1
 ·obtain⟨m1,e1⟩:=I.base.tbls b ps e
  obtain⟨m2,e2⟩:=tbls b _ e1
  exact⟨m1++m2,by rw [e2,Array.append_assoc]⟩
 ·obtain⟨m,hn,hl⟩:=I.loc
  refine⟨m,ns m hn,fun i x v e1 e2 e3=>?_⟩
  obtain⟨u,r,l⟩:=hl i x v e1 e2 e3
  refine⟨u,r,?_⟩
  rcases l with l|⟨k,c,e,z⟩
  ·exact .inl l
  ·exact .inr ⟨k,c,e,cellK x c e _ z⟩
 ·obtain⟨v,z⟩:=I.cell x c e
  exact⟨v,cellK x c e v z⟩
 ·obtain⟨m,⟨o,_,_,ho,_⟩,_⟩:=I.loc
  exact free _ o (fun z=>(hch _ z).2.1 rfl) ho I.free
 ·obtain⟨v,o,ho,hd⟩:=I.cell x c e
  exact free c o (fun z=>(hch c z).2.2.1 x c e rfl) ho (I.freeC x c e)
 ·obtain⟨e,n,ne,nf,d⟩:=I.pin p hp
  have nch:p.1∉ch:=fun z=>(hch p.1 z).2.2.2 p hp rfl
  exact⟨keep p.1 p.2 ne nf nch e n,free p.1 p.2 nch e n,ne,nf,d⟩
theorem Inv.un {t':Nat} (I:Inv X pins σ H s) (u:Un X.fs [] H H' s.heap h') (hok:HOk X.prog X.w H' h'):Inv X pins σ H' {s with heap:=h',toks:=t'}:=by
 obtain⟨m,⟨o,es,ep,ho,r⟩,_⟩:=id I.loc
 obtain⟨sl,hL⟩:=u.any ho I.free (by simp)
 exact I.step (g':=s.gens) (d':=s.drawn) (ch:=[]) (fun _ z=>nomatch z) (fun b o _ hb _ e n=>u.keep b o e n hb (by simp)) (fun b o _ hb _ e n=>u.slot b o e n hb (by simp)) (fun b o _ e n=>u.free b o e n (by simp)) (fun b o _ e=>u.there b o e (by simp)) u.tups u.frzs u.tbls (fun m' hm=>by
  obtain⟨o',es',ep',ho',r'⟩:=hm
  rw [ho] at ho';cases ho'
  exact⟨_,es',ep',hL,r'⟩) hok I.bare
theorem Inv.call {g':Array GenState} {t':Nat} {d':Drawn} {ch:List Addr} (I:Inv X pins σ H s) (u:Un (frs X.stack) ch H H' s.heap h') (hok:HOk X.prog X.w H' h') (hg:AllBare g')
  (hch:∀b∈ch,(b∈X.ex∨X.s₀.heap.objs.size≤b)∧b≠X.env.locals∧(∀x c,X.env.cells.lookup x=some c→c≠b)∧∀p∈X.pn++pins,p.1≠b):
  Inv X pins σ H' {s with heap:=h',gens:=g',drawn:=d',toks:=t'}:=by
 obtain⟨m,⟨o,es,ep,ho,r⟩,_⟩:=id I.loc
 obtain⟨sl,hL⟩:=u.any ho I.free fun z=>(hch _ z).2.1 rfl
 exact I.step (ch:=ch) hch (fun b o hL hb hc e n=>u.keep b o e n (fun z=>(zK.mp (I.stkSub b z)).elim hL hb) hc) (fun b o _ _ hc e n=>u.any e n hc) (fun b o hc e n=>u.free b o e n hc) (fun b o hc e=>u.there b o e hc) u.tups u.frzs u.tbls (fun m' hm=>by
  obtain⟨o',es',ep',ho',r'⟩:=hm
  rw [ho] at ho';cases ho'
  exact⟨_,es',ep',hL,r'⟩) hok hg
theorem Inv.turned {t':Nat} {it:Addr} (I:Inv X pins σ H s) (k:∀b o,b≠it→s.heap.get? b=some o→h'.get? b=some o) (hn:H it=none) (hL:it≠X.env.locals)
  (h1:it∈X.ex∨X.s₀.heap.objs.size≤it) (h2:∀x c,X.env.cells.lookup x=some c→c≠it) (h3:∀p∈X.pn++pins,p.1≠it):Inv X pins σ H {s with heap:=h',toks:=t'}:=by
 have nit:∀b u,H b=some u→b≠it:=fun b u e z=>by rw [z,hn] at e;cases e
 refine I.step (g':=s.gens) (d':=s.drawn) (ch:=[it]) (fun b hb=>?_) (fun b o _ _ hc e _=>k b o (fun z=>hc (by simp [z])) e) (fun b o _ _ hc e _=>⟨o.slots,k b o (fun z=>hc (by simp [z])) e⟩) (fun _ _ _ _ n=>n)
  (fun b o hc e=>⟨o,k b o (fun z=>hc (by simp [z])) e⟩) (fun _ _ e=>e) (fun _ _ _ e=>e) (fun b ps e=>⟨#[],by rw [e];simp⟩) (fun m hm=>?_) (fun b u e=>?_) I.bare
 ·have e:b=it:=by simpa using hb
  subst e
  exact⟨h1,hL,h2,h3⟩
 ·obtain⟨o,es,ep,ho,r⟩:=hm
  exact⟨o,es,ep,k _ o (Ne.symm hL) ho,r⟩
 ·refine(I.hok b u e).stay (fun c v hc q=>k c v ?_ q) (fun _ q=>q) fun _ _ q=>q
  rcases hc with z|z
  ·rw [z];exact nit b u e
  ·exact nit c _ z
theorem Inv.tok (I:Inv X pins σ H s) (t:Nat):Inv X pins σ H {s with toks:=t}:=I.un (h':=s.heap) (t':=t) Un.refl I.hok
theorem Inv.kept {t':Nat} (I:Inv X pins σ H s) (k:∀b u,s.heap.get? b=some u→h'.get? b=some u):Inv X pins σ H {s with heap:=h',toks:=t'}:=I.un (Un.kept k) (I.hok.kept k)
theorem Inv.laid {a:Addr} {o:HO} {t':Nat} (I:Inv X pins σ H s) (k:∀b u,s.heap.get? b=some u→h'.get? b=some u) (hp:s.heap.objs.size≤a) (new:qbd X.prog X.w (upd H a o) h' a o):
  Inv X pins σ (upd H a o) {s with heap:=h',toks:=t'}:=I.un (Un.laid k hp (I.hok.fresh hp)) (I.hok.laid k hp new)
theorem Inv.write {x e:Addr} {o:HO} {t':Nat} (I:Inv X pins σ H s) (mu:Mut (H x)) (he:e=x∨H e=some (.own x)) (k:∀b u,b≠e→s.heap.get? b=some u→h'.get? b=some u) (heo:∃u,h'.get? e=some u)
  (new:qbd X.prog X.w (upd H x o) h' x o):Inv X pins σ (upd H x o) {s with heap:=h',toks:=t'}:=I.un (Un.write mu he k heo) (I.hok.write mu he k heo new)
theorem Inv.pins_of {pins':List (Addr × Obj)} (I:Inv X pins σ H s) (h:∀p∈pins',s.heap.get? p.1=some p.2∧H p.1=none∧p.1≠X.env.locals∧p.1∉X.fs∧∀v,p.2.data≠ .cell v):Inv X pins' σ H s:=
 ⟨I.ok,I.os,I.bare,I.base,I.loc,I.cell,I.free,I.freeC,fun p hp=>(zU.mp hp).elim (fun z=>I.pin p (yI _ z)) (h p),I.hok,I.len⟩
theorem nodup_ix {N:List Str} (hN:N.Nodup) {i j:Nat} {x:Str} (a:N[i]?=some x) (b:N[j]?=some x):i=j:=by
 obtain⟨h1,e1⟩:=List.getElem?_eq_some_iff.mp a
 obtain⟨h2,e2⟩:=List.getElem?_eq_some_iff.mp b
 exact(List.getElem_inj hN).mp (e1.trans e2.symm)
theorem store_ok2 {M:Model} {A:Around} {E:Value→Shared→Prop} {i:Nat} {x:Str} {v:V} {u:Value} {Q:Unit→Shared→Prop} (I:Inv X pins σ H s) (hN:X.N.Nodup) (hi:X.N[i]?=some x) (hx:Loc X.env.scope x) (r:qb1 v u)
  (h:∀s',Inv X pins (σ.set i (some v)) H s'→(∃a,Heap.SameBut a s.heap s'.heap∧(a=X.env.locals∨X.env.cells.lookup x=some a))→Q () s') (hf:X.fn x=true∨X.env.scope.names.lookup x=some .local:=by first|exact .inl rfl|exact .inr rfl|assumption):wpAny M A (storeName X.env x u) Q E s:=by
 obtain⟨m,hn,hl⟩:=id I.loc
 have hcls:(X.env.scope.kind==.class ||(X.env.scope.kind==.module && X.env.locals !=X.env.globals))=false:=by rw [I.ok.kind];rfl
 have hiσ:i < σ.length:=by rw [I.len];exact(List.getElem?_eq_some_iff.mp hi).1
 have cne:=I.cne
 have tracked:∀{a:Addr} {h':Heap},(∃o,s.heap.get? a=some o∧H a=none)→Heap.SameBut a s.heap h'→HOk X.prog X.w H h':=fun {a h'} ha hs b ob e=>by
  obtain⟨_,_,hfree⟩:=ha
  refine(I.hok b ob e).stay (fun c w' hc q=>(hs.2 c ?_).trans q) (fun _ q=>q) fun _ _ q=>q
  rintro rfl
  rcases hc with rfl|hc
  ·rw [hfree] at e;cases e
  ·rw [hfree] at hc;cases hc
 rcases hx with hk|hk
 ·refine wpAny_storeName_local hk hn (fun h' hn' hs=>?_) hcls
  obtain⟨oL,_,_,hoL,_⟩:=id hn
  refine h _ ⟨I.ok,I.os,I.bare,⟨fun b o e n hb hx=>?_,fun b o e n hb hx=>?_,I.base.free,fun b o e hx=>?_,I.base.tups,I.base.frzs,I.base.tbls⟩,⟨_,hn',fun j y v' e1 e2 e3=>?_⟩,fun y c e=>?_,I.free,I.freeC,fun p hp=>?_,tracked ⟨oL,hoL,I.free⟩ hs,by simpa using I.len⟩ ⟨_,hs,.inl rfl⟩
  ·exact(hs.2 b (Nat.ne_of_lt (Nat.lt_of_lt_of_le (Heap.lt_size e) I.ok.above))).trans (I.base.keep b o e n hb hx)
  ·obtain⟨sl,e1⟩:=I.base.slot b o e n hb hx
   exact⟨sl,(hs.2 b (Nat.ne_of_lt (Nat.lt_of_lt_of_le (Heap.lt_size e) I.ok.above))).trans e1⟩
  ·obtain⟨o',e1⟩:=I.base.there b o e hx
   exact⟨o',(hs.2 b (Nat.ne_of_lt (Nat.lt_of_lt_of_le (Heap.lt_size e) I.ok.above))).trans e1⟩
  ·by_cases hj:j=i
   ·subst hj
    rw [hi] at e1;cases e1
    rw [List.getElem?_set_self hiσ] at e2
    cases e2
    exact⟨u,r,.inl ⟨hk,by simp⟩⟩
   ·rw [List.getElem?_set_ne (Ne.symm hj)] at e2
    obtain⟨u',r',q⟩:=hl j y v' e1 e2 e3
    refine⟨u',r',?_⟩
    rcases q with ⟨k,e⟩ |⟨k,c,e,z⟩
    ·refine .inl ⟨k,?_⟩
     have:y≠x:=fun e=>hj (nodup_ix hN e1 (e ▸ hi))
     simp [this,e]
    ·exact .inr ⟨k,c,e,z.sameBut hs (cne y c e)⟩
  ·obtain⟨w',z⟩:=I.cell y c e
   exact⟨w',z.sameBut hs (cne y c e)⟩
  ·obtain⟨e,n,ne,nf,d⟩:=I.pin p hp
   exact⟨(hs.2 p.1 ne).trans e,n,ne,nf,d⟩
 ·have hfn:X.fn x=true:=by
   rcases hf with z|z
   ·exact z
   ·rw [z] at hk;cases hk
  obtain⟨c,hc⟩:=I.ok.has x (.inl hk)
  obtain⟨w',z⟩:=I.cell x c hc
  refine wpAny_storeName_cell I.ok.kind hk hc z (fun h' hc' hs=>?_)
  obtain⟨oc,hoc,hocd⟩:=id z
  refine h {s with heap:=h'} ⟨I.ok,I.os,I.bare,⟨fun b o e n hb hx=>?_,fun b o e n hb hx=>?_,I.base.free,fun b o e hx=>?_,I.base.tups,I.base.frzs,I.base.tbls⟩,⟨m,hn.sameBut hs (Ne.symm (cne x c hc)),fun j y v' e1 e2 e3=>?_⟩,fun y c' e=>?_,I.free,I.freeC,fun p hp=>?_,tracked ⟨oc,hoc,I.freeC x c hc⟩ hs,by simpa using I.len⟩ ⟨c,hs,.inr hc⟩
  ·exact(hs.2 b (Nat.ne_of_lt (Nat.lt_of_lt_of_le (Heap.lt_size e) (I.ok.cab x c hfn hc)))).trans (I.base.keep b o e n hb hx)
  ·obtain⟨sl,e1⟩:=I.base.slot b o e n hb hx
   exact⟨sl,(hs.2 b (Nat.ne_of_lt (Nat.lt_of_lt_of_le (Heap.lt_size e) (I.ok.cab x c hfn hc)))).trans e1⟩
  ·obtain⟨o',e1⟩:=I.base.there b o e hx
   exact⟨o',(hs.2 b (Nat.ne_of_lt (Nat.lt_of_lt_of_le (Heap.lt_size e) (I.ok.cab x c hfn hc)))).trans e1⟩
  ·by_cases hj:j=i
   ·subst hj
    rw [hi] at e1;cases e1
    rw [List.getElem?_set_self hiσ] at e2
    cases e2
    exact⟨u,r,.inr ⟨.inl hk,c,hc,hc'⟩⟩
   ·rw [List.getElem?_set_ne (Ne.symm hj)] at e2
    obtain⟨u',r',q⟩:=hl j y v' e1 e2 e3
    refine⟨u',r',?_⟩
    rcases q with q|⟨k,c',e,z'⟩
    ·exact .inl q
    ·refine .inr ⟨k,c',e,z'.sameBut hs ?_⟩
     rintro rfl
     exact hj (nodup_ix hN e1 (I.ok.inj _ _ _ e hc ▸ hi))
  ·by_cases hcc:c'=c
   ·subst hcc;exact⟨_,hc'⟩
   ·obtain⟨w2,z2⟩:=I.cell y c' e
    exact⟨w2,z2.sameBut hs hcc⟩
  ·obtain⟨e,n,ne,nf,d⟩:=I.pin p hp
   refine⟨(hs.2 p.1 ?_).trans e,n,ne,nf,d⟩
   intro q
   rw [q,hoc] at e
   have q':oc=p.2:=Option.some.inj e
   exact d w' (by rw [←q'];exact hocd)
theorem qdv {M:Model} {A:Around} {E:Value→Shared→Prop} {i:Nat} {x:Str} {v:V} {u:Value} {Q:Unit→Shared→Prop} (I:Inv X pins σ H s) (hN:X.N.Nodup) (hi:X.N[i]?=some x) (hx:Loc X.env.scope x) (r:qb1 v u)
  (h:∀s',Inv X pins (σ.set i (some v)) H s'→Q () s') (hf:X.fn x=true∨X.env.scope.names.lookup x=some .local:=by first|exact .inl rfl|exact .inr rfl|assumption):wpAny M A (storeName X.env x u) Q E s:=
 store_ok2 I hN hi hx r (fun s' I' _=>h s' I') hf
theorem Inv.call' {s':Shared} {ch:List Addr} (I:Inv X pins σ H s) (ho:s'.os=s.os) (u:Un (frs X.stack) ch H H' s.heap s'.heap) (hok:HOk X.prog X.w H' s'.heap) (hg:AllBare s'.gens)
  (hch:∀b∈ch,(b∈X.ex∨X.s₀.heap.objs.size≤b)∧b≠X.env.locals∧(∀x c,X.env.cells.lookup x=some c→c≠b)∧∀p∈X.pn++pins,p.1≠b):Inv X pins σ H' s':=by
 obtain⟨h',g',d',t',o'⟩:=s'
 have e:o'=s.os:=ho
 subst e
 exact I.call (g':=g') (t':=t') (d':=d') u hok hg hch
end
abbrev XK:=Value→Option Addr→Hp→Prop
abbrev St:=List (Option V)
abbrev VK:=V→Hp→Prop
abbrev TE:=St→Hp→VK→Prop
abbrev TT:=St→Hp→(Bool→Hp→Prop)→Prop
abbrev TA:=St→Hp→(List V→Hp→Prop)→Prop
structure Ends where
 nx:St→Hp→Prop
 rt:VK
 bk:St→Hp→Prop:=fun _ _=>False
 ct:St→Hp→Prop:=fun _ _=>False
abbrev TS:=Ends→St→Hp→Prop
def EP (X:Cx) (pins:List (Addr × Obj)) (σ:St) (Q:VK) (u:Value) (s':Shared):Prop:=∃v H',Inv X pins σ H' s'∧qb1 v u∧Q v H'
def TP (X:Cx) (pins:List (Addr × Obj)) (σ:St) (Q:Bool→Hp→Prop) (b:Bool) (s':Shared):Prop:=∃H',Inv X pins σ H' s'∧Q b H'
def AP (X:Cx) (pins:List (Addr × Obj)) (σ:St) (Q:List V→Hp→Prop) (us:List Value) (s':Shared):Prop:=∃vs H',Inv X pins σ H' s'∧qb9 vs us∧Q vs H'
def SP (X:Cx) (pins:List (Addr × Obj)) (D:Ends) (f:Flow) (s':Shared):Prop:=
 match f with
 | .next=>∃σ' H',Inv X pins σ' H' s'∧D.nx σ' H'
 | .brk=>∃σ' H',Inv X pins σ' H' s'∧D.bk σ' H'
 | .cont=>∃σ' H',Inv X pins σ' H' s'∧D.ct σ' H'
 | .ret u=>∃v σ' H',Inv X pins σ' H' s'∧qb1 v u∧D.rt v H'
def PE (X:Cx) (e:Expr) (t:TE):Prop:=
 ∀(pins:List (Addr × Obj)) (s:Shared) (σ:St) (H:Hp) (Q:VK),Inv X pins σ H s→t σ H Q→wpAny (model X.prog X.w) X.A (eval e X.env) (EP X pins σ Q) X.xe s
def PT (X:Cx) (e:Expr) (t:TT):Prop:=
 ∀(pins:List (Addr × Obj)) (s:Shared) (σ:St) (H:Hp) (Q:Bool→Hp→Prop),Inv X pins σ H s→t σ H Q→wpAny (model X.prog X.w) X.A (isTrue e X.env (eval e X.env)) (TP X pins σ Q) X.xe s
def PW (X:Cx) (e:Expr) (t:TT):Prop:=
 ∀(whole:Sem Value) (pins:List (Addr × Obj)) (s:Shared) (σ:St) (H:Hp) (Q:Bool→Hp→Prop),Inv X pins σ H s→t σ H Q→wpAny (model X.prog X.w) X.A (isTrue e X.env whole) (TP X pins σ Q) X.xe s
theorem PW.pt {X:Cx} {e:Expr} {t:TT} (h:PW X e t):PT X e t:=h _
def PA (X:Cx) (es:List Expr) (t:TA):Prop:=
 ∀(pos:Pos) (pins:List (Addr × Obj)) (s:Shared) (σ:St) (H:Hp) (Q:List V→Hp→Prop),Inv X pins σ H s→t σ H Q→wpAny (model X.prog X.w) X.A (spliced (backTo pos (starEach es X.env))) (AP X pins σ Q) X.xe s
def PS (X:Cx) (st:Stmt) (t:TS):Prop:=
 ∀(pins:List (Addr × Obj)) (s:Shared) (σ:St) (H:Hp) (D:Ends),Inv X pins σ H s→t D σ H→wpAny (model X.prog X.w) X.A (exec st X.env) (SP X pins D) X.xe s
def PSs (X:Cx) (st:List Stmt) (t:TS):Prop:=
 ∀(pins:List (Addr × Obj)) (s:Shared) (σ:St) (H:Hp) (D:Ends),Inv X pins σ H s→t D σ H→wpAny (model X.prog X.w) X.A (execs st X.env) (SP X pins D) X.xe s
theorem thn {α:Type} {t:Sem α} {Q Q':α→Shared→Prop} {M:Model} {A:Around} {E:Value→Shared→Prop} {s:Shared} (h:wpAny M A t Q E s) (hQ:∀a s,Q a s→Q' a s):wpAny M A t Q' E s:=wpAny_mono h hQ fun _ _ x=>x
section
variable {X : Cx}
theorem bin {a b:Expr} {ta tb:TE} (ha:PE X a ta) (hb:PE X b tb) {pins:List (Addr × Obj)} {s:Shared} {σ:St} {H:Hp} {R:V→V→Hp→Prop} (I:Inv X pins σ H s) (h:ta σ H fun x H1=>tb σ H1 fun y H2=>R x y H2)
  {α:Type} {Q:α→Shared→Prop} {f:Value→Value→Sem α}
  (hf:∀v u s2 x y H2,Inv X pins σ H2 s2→qb1 x v→qb1 y u→R x y H2→wpAny (model X.prog X.w) X.A (f v u) Q X.xe s2):
  wpAny (model X.prog X.w) X.A (eval a X.env) (fun v s₁=>wpAny (model X.prog X.w) X.A (eval b X.env) (fun u s₂=>wpAny (model X.prog X.w) X.A (f v u) Q X.xe s₂) X.xe s₁) X.xe s:=by
 refine thn (ha pins s σ H _ I h) fun v s1 ⟨x,H1,I1,r1,q1⟩=>?_
 refine thn (hb pins s1 σ H1 _ I1 q1) fun u s2 ⟨y,H2,I2,r2,q2⟩=>?_
 exact hf v u s2 x y H2 I2 r1 r2 q2
def tVar (i:Nat):TE:=fun σ H Q=>∃v,σ[i]?=some (some v)∧Q v H
def tC (v:V):TE:=fun _ H Q=>Q v H
theorem pe_var {i:Nat} {x:Str} {pos:Pos} (hN:X.N[i]?=some x) (hv:Vis X.env.scope x) (hd:(x==("__debug__" :Str))=false:=by decide) (hcd:(x==("__classdict__" :Str))=false:=by decide):PE X (.Name x pos) (tVar i):=by
 intro pins s σ H Q I h
 obtain⟨v,e,h⟩:=h
 obtain⟨m,hn,hl⟩:=I.loc
 obtain⟨u,r,l⟩:=hl i x v hN e hv
 have fin:EP X pins σ Q u s:=⟨v,H,I,r,h⟩
 rcases l with ⟨hk,hm⟩ |⟨hk,c,hc,hcell⟩
 ·exact wpAny_Name (wpAny_loadName_local I.ok.kind hk hn hm fin) hd
 ·rcases hk with hk|hk
  ·exact wpAny_Name (wpAny_loadName_cell I.ok.kind hk hc hcell fin) hd
  ·exact wpAny_Name (wpAny_loadName_free I.ok.kind hk hc hcell fin hcd) hd
theorem qa8 {i j pos}:PE X (.Constant (.int i) j pos) (tC (.int i)):=fun _ _ _ H _ I h=>wpAny_Constant_int ⟨.int i,H,I.tok _,⟨_,rfl⟩,h⟩
theorem qd5 {b j pos}:PE X (.Constant (.bool b) j pos) (tC (.bl b)):=fun _ _ _ H _ I h=>Constant_bool ⟨.bl b,H,I,rfl,h⟩
theorem qcv {j pos}:PE X (.Constant .none j pos) (tC .non):=fun _ _ _ H _ I h=>Constant_none ⟨.non,H,I,rfl,h⟩
theorem qcq {x j pos}:PE X (.Constant (.str x) j pos) (tC (.str x)):=fun _ _ _ H _ I h=>Calls.Constant_str ⟨.str x,H,I.tok _,⟨_,rfl⟩,h⟩
def Gl (X:Cx) (x:Str):Prop:=X.env.kindOf x=some .globalImplicit
theorem qd7 {E:Value→Shared→Prop} {pins:List (Addr × Obj)} {s:Shared} {σ:St} {H:Hp} {x:Str} {u:Value} {pos:Pos} {Q:Value→Shared→Prop} (I:Inv X pins σ H s) (hg:Gl X x) (hm:X.mg x=some u) (h:Q u s)
  (hd:(x==("__debug__" :Str))=false:=by decide):wpAny (model X.prog X.w) X.A (eval (.Name x pos) X.env) Q E s:=
 Calls.Name_function_global I.ok.kind hg (Calls.loadGlobal_global (by rw [I.ok.glob];exact I.mod.glob.keeps I.bk) hm h) hd
theorem qeh {E:Value→Shared→Prop} {pins:List (Addr × Obj)} {s:Shared} {σ:St} {H:Hp} {x:Str} {u:Value} {pos:Pos} {Q:Value→Shared→Prop} (I:Inv X pins σ H s) (hg:Gl X x) (hm:X.mg x=none) (hv:bootBuiltins x=some u) (h:Q u s)
  (hn:x≠"__name__":=by decide) (hd:(x==("__debug__" :Str))=false:=by decide):wpAny (model X.prog X.w) X.A (eval (.Name x pos) X.env) Q E s:=by
 obtain⟨mb,h1,h2⟩:=I.mod.blt
 exact Calls.Name_function_global I.ok.kind hg (Calls.loadGlobal_builtin (by rw [I.ok.glob];exact I.mod.glob.keeps I.bk) hm (by rw [I.ok.blt];exact h1.keeps I.bk) ((h2 x hn).trans hv) h) hd
theorem qdm {x:Str} {v:V} {u:Value} {pos:Pos} (hg:Gl X x) (hm:X.mg x=some u) (r:qb1 v u) (hd:(x==("__debug__" :Str))=false:=by decide):PE X (.Name x pos) (tC v):=
 fun _ _ _ H _ I h=>qd7 I hg hm ⟨v,H,I,r,h⟩ hd
theorem qco {x:Str} {v:V} {u:Value} {pos:Pos} (hg:Gl X x) (hm:X.mg x=none) (hv:bootBuiltins x=some u) (r:qb1 v u) (hn:x≠"__name__":=by decide) (hd:(x==("__debug__" :Str))=false:=by decide):PE X (.Name x pos) (tC v):=
 fun _ _ _ H _ I h=>qeh I hg hm hv ⟨v,H,I,r,h⟩ hn hd
variable {a b : Expr} {ta tb : TE} {pos : Pos}
def PC (X:Cx) (op:CmpOp) (a b:Expr) (t:TE):Prop:=
 ∀(pins:List (Addr × Obj)) (s:Shared) (σ:St) (H:Hp) (Q:VK),Inv X pins σ H s→t σ H Q→
  wpAny (model X.prog X.w) X.A (eval a X.env) (fun v s₁=>wpAny (model X.prog X.w) X.A (eval b X.env) (fun u s₂=>wpAny (model X.prog X.w) X.A (compareOp op v u) (EP X pins σ Q) X.xe s₂) X.xe s₁) X.xe s
def tB (t:TE):TT:=fun σ H Q=>t σ H fun x H1=>∃c,x=.bl c∧Q c H1
theorem pe_cmp {op:CmpOp} {t:TE} (h:PC X op a b t) (h1:behindInMarks op b=false:=by first|exact nobehind _ (by decide) (by decide) |rfl):PE X (.Compare a [op] [b] pos) t:=fun pins s σ H Q I hw=>wpAny_Compare1 (h pins s σ H Q I hw) h1
theorem pt_cmp {op:CmpOp} {t:TE} (h:PC X op a b t) (h1:behindInMarks op b=false:=by first|exact nobehind _ (by decide) (by decide) |rfl):PT X (.Compare a [op] [b] pos) (tB t):=by
 intro pins s σ H Q I hw
 refine wpAny_isTrue_Compare1 (thn (h pins s σ H _ I hw) fun v s1 h1=>thn h1 fun u s2 h2=>thn h2 fun c s3 ⟨x,H1,I1,r1,q1⟩=>?_) h1
 obtain⟨d,rfl,q⟩:=q1
 cases r1
 exact wpAny_truthy_bool ⟨H1,I1,q⟩
theorem qbo {e:Expr} {t:TE} (h:PE X e t) (he:∀whole,isTrue e X.env whole=(do let v←whole;standAt e.pos;holding [v] (truthy v)):=by intro _;rfl):PT X e (tB t):=by
 intro pins s σ H Q I hw
 refine isTrue_plain (thn (h pins s σ H _ I hw) fun v s1 ⟨x,H1,I1,r1,q1⟩=>?_) (he _)
 obtain⟨d,rfl,q⟩:=q1
 cases r1
 exact wpAny_truthy_bool ⟨H1,I1,q⟩
variable {tA tB' : TT} {rest : List Expr}
def tAnd (t u:TT):TT:=fun σ H Q=>t σ H fun c H1=>if c=true then u σ H1 Q else Q false H1
def tOr (t u:TT):TT:=fun σ H Q=>t σ H fun c H1=>if c=true then Q true H1 else u σ H1 Q
def tNot (t:TT):TT:=fun σ H Q=>t σ H fun c H1=>Q (!c) H1
theorem pw_and1 (ha:PT X a tA):PW X (.BoolOp .And [a] pos) tA:=by
 intro wh pins s σ H Q I h
 refine isTrue_and (thn (ha pins s σ H Q I h) fun c s1 e=>?_)
 cases c with
 |true=>exact isTrue_and_nil e
 |false=>exact e
theorem pw_or1 (ha:PT X a tA):PW X (.BoolOp .Or [a] pos) tA:=by
 intro wh pins s σ H Q I h
 refine isTrue_or (thn (ha pins s σ H Q I h) fun c s1 e=>?_)
 cases c with
 |false=>exact isTrue_or_nil e
 |true=>exact e
theorem pw_and (ha:PT X a tA) (hb:PW X (.BoolOp .And (b :: rest) pos) tB'):PW X (.BoolOp .And (a :: b :: rest) pos) (tAnd tA tB'):=by
 intro wh pins s σ H Q I h
 refine isTrue_and (thn (ha pins s σ H _ I h) fun c s1 ⟨H1,I1,q1⟩=>?_)
 cases c with
 |true=>exact hb wh pins s1 σ H1 Q I1 q1
 |false=>exact⟨H1,I1,q1⟩
theorem pw_or (ha:PT X a tA) (hb:PW X (.BoolOp .Or (b :: rest) pos) tB'):PW X (.BoolOp .Or (a :: b :: rest) pos) (tOr tA tB'):=by
 intro wh pins s σ H Q I h
 refine isTrue_or (thn (ha pins s σ H _ I h) fun c s1 ⟨H1,I1,q1⟩=>?_)
 cases c with
 |true=>exact⟨H1,I1,q1⟩
 |false=>exact hb wh pins s1 σ H1 Q I1 q1
theorem qci (ha:PT X a tA):PT X (.UnaryOp .Not a pos) (tNot tA):=by
 intro pins s σ H Q I h
 exact isTrue_not (ha pins s σ H (fun c H1=>Q (!c) H1) I h)
def tAndV (ta tb:TE):TE:=fun σ H Q=>ta σ H fun x H1=>∃c,x=.bl c∧if c=true then tb σ H1 Q else Q (.bl false) H1
def tOrV (ta tb:TE):TE:=fun σ H Q=>ta σ H fun x H1=>∃c,x=.bl c∧if c=true then Q (.bl true) H1 else tb σ H1 Q
def tNotV (ta:TE):TE:=fun σ H Q=>ta σ H fun x H1=>∃c,x=.bl c∧Q (.bl (!c)) H1
theorem qea {op} {t:TE} (h:PE X a t):PE X (.BoolOp op [a] pos) t:=fun pins s σ H Q I hw=>BoolOp_one (h pins s σ H Q I hw)
theorem qew (ha:PE X a ta) (hb:PE X (.BoolOp .And (b :: rest) pos) tb):PE X (.BoolOp .And (a :: b :: rest) pos) (tAndV ta tb):=by
 intro pins s σ H Q I h
 refine BoolOp_and (thn (ha pins s σ H _ I h) fun v s1 ⟨x,H1,I1,r1,q1⟩=>?_)
 obtain⟨c,rfl,q1⟩:=q1
 cases r1
 refine wpAny_truthy_bool ?_
 cases c with
 |true=>exact hb pins s1 σ H1 Q I1 q1
 |false=>exact⟨.bl false,H1,I1,rfl,q1⟩
theorem pe_or (ha:PE X a ta) (hb:PE X (.BoolOp .Or (b :: rest) pos) tb):PE X (.BoolOp .Or (a :: b :: rest) pos) (tOrV ta tb):=by
 intro pins s σ H Q I h
 refine BoolOp_or (thn (ha pins s σ H _ I h) fun v s1 ⟨x,H1,I1,r1,q1⟩=>?_)
 obtain⟨c,rfl,q1⟩:=q1
 cases r1
 refine wpAny_truthy_bool ?_
 cases c with
 |false=>exact hb pins s1 σ H1 Q I1 q1
 |true=>exact⟨.bl true,H1,I1,rfl,q1⟩
theorem pe_not (ha:PE X a ta):PE X (.UnaryOp .Not a pos) (tNotV ta):=by
 intro pins s σ H Q I h
 refine UnaryOp_ (thn (ha pins s σ H _ I h) fun v s1 ⟨x,H1,I1,r1,q1⟩=>?_)
 obtain⟨c,rfl,q1⟩:=q1
 cases r1
 exact not_of (wpAny_truthy_bool ⟨.bl (!c),H1,I1,rfl,q1⟩)
end
def SqL (K:Frag) (H:Hp) (a:Addr) (xs:List V):Prop:=
 Rd H a (.lst xs)∨
  ∃(o:Obj) (its:Array Value) (n:Nat),K.lookup a=some o∧o.cls=.type "list"∧o.dict=none∧o.data=.seq its n∧its.size≤sizeLine∧qb9 xs its.toList
def SqT (K:Frag) (H:Hp) (a:Addr) (xs:List V):Prop:=
 Rd H a (.tup xs)∨
  ∃(o:Obj) (its:Array Value) (n:Nat),K.lookup a=some o∧o.cls=.type "tuple"∧o.data=.seq its n∧its.size≤sizeLine∧qb9 xs its.toList
def absV:Value→Option V
 | .none=>some .non
 | .bool b=>some (.bl b)
 | .int i _=>some (.int i)
 | .str x _=>some (.str x)
 | .bytes b _=>some (.byt b)
 | .float b _=>some (.flt b)
 | .ref a=>some (.ref a)
 | .type n=>some (.ty n)
 |_=>none
theorem qb1.abs {x:V} {u:Value} (r:qb1 x u):absV u=some x:=by
 cases x with
 |non=>cases r;rfl
 |bl _=>cases r;rfl
 |int _=>obtain⟨t,rfl⟩:=r;rfl
 |str _=>obtain⟨t,rfl⟩:=r;rfl
 |byt _=>obtain⟨t,rfl⟩:=r;rfl
 |flt _=>obtain⟨t,rfl⟩:=r;rfl
 |ref _=>cases r;rfl
 |ty _=>cases r;rfl
theorem qb1.inj {x y:V} {u:Value} (r:qb1 x u) (q:qb1 y u):x=y:=Option.some.inj (r.abs.symm.trans q.abs)
theorem qb9.inj:∀{xs ys:List V} {us:List Value},qb9 xs us→qb9 ys us→xs=ys
 |_,_,_,.nil,.nil=>rfl
 |_,_,_,.cons r t,.cons r' t'=>by rw [r.inj r',qb9.inj t t']
section
variable {X : Cx} {pins : List (Addr × Obj)} {σ : St} {H : Hp} {s : Shared} {a : Addr} {xs ys : List V}
theorem SqL.of {K:Frag} (h:H a=some (.lst xs)):SqL K H a xs:=.inl (.inl h)
theorem SqT.of {K:Frag} (h:H a=some (.tup xs)):SqT K H a xs:=.inl (.inl h)
theorem Inv.list (I:Inv X pins σ H s) (h:SqL X.K H a xs):∃its:List Value,qb9 xs its∧PlainL s.heap a its.toArray∧xs.length≤sizeLine:=by
 rcases h with h|⟨o,its,n,hk,hc,hd,hs,hz,r⟩
 ·obtain⟨z,its,n,r,e⟩:=h.ok I.hok
  exact⟨its,r,⟨_,n,e,rfl,rfl,rfl⟩,z⟩
 ·refine⟨its.toList,r,⟨o,n,I.kIn a o hk,hc,hd,by simpa using hs⟩,?_⟩
  have e:=r.length
  simp only [Array.length_toList] at e
  omega
theorem Inv.tuple (I:Inv X pins σ H s) (h:SqT X.K H a xs):∃its:List Value,qb9 xs its∧IsTup s.heap a its.toArray∧xs.length≤sizeLine:=by
 rcases h with h|⟨o,its,n,hk,hc,hs,hz,r⟩
 ·obtain⟨z,its,r,p⟩:=h.ok I.hok
  exact⟨its,r,p,z⟩
 ·refine⟨its.toList,r,⟨o,I.kIn a o hk,hc,n,by simpa using hs⟩,?_⟩
  have e:=r.length
  simp only [Array.length_toList] at e
  omega
theorem Inv.list_inj (I:Inv X pins σ H s) (h:SqL X.K H a xs) (h':SqL X.K H a ys):xs=ys:=by
 obtain⟨its,r,⟨o,n,e,_,_,d⟩,_⟩:=I.list h
 obtain⟨its',r',⟨o',n',e',_,_,d'⟩,_⟩:=I.list h'
 rw [e] at e';cases e'
 rw [d] at d'
 injection d' with d1 _
 have:its=its':=by simpa using congrArg Array.toList d1
 subst this
 exact r.inj r'
end
abbrev Cx.wish (X:Cx) (E:Value→Shared→Prop):Cx:={X with xe:=E}
abbrev Cx.nox (X:Cx):Cx:=X.wish fun _ _=>False
theorem Cx.Ok.wish {X:Cx} (ok:X.Ok) (E:Value→Shared→Prop):(X.wish E).Ok:=
 ⟨ok.mod,ok.kind,ok.glob,ok.blt,ok.above,ok.inj,ok.has,ok.cab,ok.hd,ok.frames,ok.stk,ok.exf,ok.bs,ok.bsz,ok.noex,ok.exfs,ok.funs,ok.frf⟩
theorem Cx.Ok.unwish {X:Cx} {E:Value→Shared→Prop} (ok:(X.wish E).Ok):X.Ok:=
 ⟨ok.mod,ok.kind,ok.glob,ok.blt,ok.above,ok.inj,ok.has,ok.cab,ok.hd,ok.frames,ok.stk,ok.exf,ok.bs,ok.bsz,ok.noex,ok.exfs,ok.funs,ok.frf⟩
section
variable {X : Cx} {pins : List (Addr × Obj)} {σ : St} {H : Hp} {s : Shared} {E : Value → Shared → Prop}
theorem Inv.wish (I:Inv X pins σ H s) (E:Value→Shared→Prop):Inv (X.wish E) pins σ H s:=⟨I.ok.wish E,I.os,I.bare,I.base,I.loc,I.cell,I.free,I.freeC,I.pin,I.hok,I.len⟩
theorem Inv.unwish (I:Inv (X.wish E) pins σ H s):Inv X pins σ H s:=⟨I.ok.unwish,I.os,I.bare,I.base,I.loc,I.cell,I.free,I.freeC,I.pin,I.hok,I.len⟩
theorem SP.unwish {D:Ends} {f:Flow} {s':Shared} (h:SP (X.wish E) pins D f s'):SP X pins D f s':=by
 cases f with
 |next=>obtain⟨σ',H',I,q⟩:=h;exact⟨σ',H',I.unwish,q⟩
 |brk=>obtain⟨σ',H',I,q⟩:=h;exact⟨σ',H',I.unwish,q⟩
 |cont=>obtain⟨σ',H',I,q⟩:=h;exact⟨σ',H',I.unwish,q⟩
 |ret u=>obtain⟨v,σ',H',I,r,q⟩:=h;exact⟨v,σ',H',I.unwish,r,q⟩
theorem PSs.nox {st:List Stmt} {t:TS} (h:PSs X.nox st t):PSs X st t:=fun pins s σ H D I hw=>
 wpAny_mono (h pins s σ H D (I.wish _) hw) (fun _ _ q=>q.unwish) fun _ _ z=>False.elim z
end
section
variable {X : Cx} {st : Stmt} {rest : List Stmt} {t u : TS} {e : Expr} {te : TE} {pos : Pos}
def tNext:TS:=fun D σ H=>D.nx σ H
def tSeq (t u:TS):TS:=fun D σ H=>t {D with nx:=u D} σ H
theorem qal:PSs X [] tNext:=fun _ _ σ H _ I h=>wpAny_execs_nil ⟨σ,H,I,h⟩
theorem qa2 (h1:PS X st t) (h2:PSs X rest u):PSs X (st :: rest) (tSeq t u):=by
 intro pins s σ H D I h
 refine wpAny_execs_cons (thn (h1 pins s σ H {D with nx:=u D} I h) fun f s1 q=>?_)
 cases f with
 |next=>
  obtain⟨σ',H',I',q⟩:=q
  exact h2 pins s1 σ' H' D I' q
 |ret v=>exact q
 |brk=>exact q
 |cont=>exact q
theorem qa4 (h1:PS X st t):PSs X [st] t:=by
 intro pins s σ H D I h
 refine wpAny_execs_cons (thn (h1 pins s σ H D I h) fun f s1 q=>?_)
 cases f with
 |next=>exact wpAny_execs_nil q
 |ret v=>exact q
 |brk=>exact q
 |cont=>exact q
theorem Inv.quiet {pins:List (Addr × Obj)} {σ:St} {H:Hp} {s:Shared} (I:Inv X pins σ H s):interactive X.env=false:=by simp [interactive,I.ok.kind]
def tDrop (te:TE):TS:=fun D σ H=>te σ H fun _ H1=>D.nx σ H1
theorem qas (he:PE X e te) (hs:swapsWith e none pos.line X.env=pure false:=by rfl):PS X (.Expr e pos) (tDrop te):=by
 intro pins s σ H D I h
 exact wpAny_Expr_any (thn (he pins s σ H _ I h) fun v s1 ⟨x,H1,I1,r1,q1⟩=>⟨σ,H1,I1,q1⟩) I.quiet hs
def tRet (te:TE):TS:=fun D σ H=>te σ H D.rt
theorem qae (he:PE X e te):PS X (.Return (some e) pos) (tRet te):=by
 intro pins s σ H D I h
 exact wpAny_Return_some (thn (he pins s σ H _ I h) fun v s1 ⟨x,H1,I1,r1,q1⟩=>⟨x,σ,H1,I1,r1,q1⟩)
def tIfS (c:TT) (t u:TS):TS:=fun D σ H=>c σ H fun b H1=>if b=true then t D σ H1 else u D σ H1
theorem qbb {c:Expr} {a b:List Stmt} {tc:TT} (hc:PT X c tc) (ha:PSs X a t) (hb:PSs X b u):PS X (.If c a b pos) (tIfS tc t u):=by
 intro pins s σ H D I h
 refine wpAny_If (thn (hc pins s σ H _ I h) fun d s1 ⟨H1,I1,q1⟩=>?_)
 cases d with
 |true=>exact ha pins s1 σ H1 D I1 q1
 |false=>exact hb pins s1 σ H1 D I1 q1
end
abbrev TG:=V→St→Hp→(St→Hp→Prop)→Prop
abbrev TGs:=List V→St→Hp→(St→Hp→Prop)→Prop
def PG (X:Cx) (target:Expr) (t:TG):Prop:=
 ∀(pins:List (Addr × Obj)) (s:Shared) (σ:St) (H:Hp) (v:V) (u:Value) (Q:St→Hp→Prop),Inv X pins σ H s→qb1 v u→t v σ H Q→
  wpAny (model X.prog X.w) X.A (assign target X.env u) (fun _ s'=>∃σ' H',Inv X pins σ' H' s'∧Q σ' H') X.xe s
def PGs (X:Cx) (ts:List Expr) (t:TGs):Prop:=
 ∀(pins:List (Addr × Obj)) (s:Shared) (σ:St) (H:Hp) (vs:List V) (us:List Value) (Q:St→Hp→Prop),Inv X pins σ H s→qb9 vs us→t vs σ H Q→
  wpAny (model X.prog X.w) X.A (assignInOrder ((assignEach ts X.env).map (·.2)) us) (fun _ s'=>∃σ' H',Inv X pins σ' H' s'∧Q σ' H') X.xe s
section
variable {X : Cx} {pos : Pos}
def gName (i:Nat):TG:=fun v σ H Q=>Q (σ.set i (some v)) H
theorem qav {i:Nat} {x:Str} (hN:X.N.Nodup) (hi:X.N[i]?=some x) (hx:Loc X.env.scope x) (hf:X.fn x=true∨X.env.scope.names.lookup x=some .local:=by first|exact .inl rfl|exact .inr rfl|assumption):PG X (.Name x pos) (gName i):=by
 intro pins s σ H v u Q I r h
 exact wpAny_assign_Name (qdv I hN hi hx r (fun s' I'=>⟨_,H,I',h⟩) hf)
def gNil:TGs:=fun vs σ H Q=>vs=[]∧Q σ H
def gCons (t:TG) (u:TGs):TGs:=fun vs σ H Q=>∃v r,vs=v :: r∧t v σ H fun σ' H'=>u r σ' H' Q
theorem pgs_nil:PGs X [] gNil:=by
 intro pins s σ H vs us Q I r h
 obtain⟨e,h⟩:=h
 subst e
 cases r
 exact assignInOrder_nil ⟨σ,H,I,h⟩
theorem pgs_cons {e:Expr} {es:List Expr} {t:TG} {u:TGs} (h1:PG X e t) (h2:PGs X es u)
  (hs:(assignEach (e :: es) X.env).map (·.2)=assign e X.env ::(assignEach es X.env).map (·.2):=by rfl):PGs X (e :: es) (gCons t u):=by
 intro pins s σ H vs us Q I r h
 obtain⟨v,vr,e1,h⟩:=h
 subst e1
 cases r with
 |cons r rr=>
  rw [hs]
  refine assignInOrder_cons (thn (h1 pins s σ H _ _ _ I r h) fun _ s1 ⟨σ1,H1,I1,q1⟩=>?_)
  exact h2 pins s1 σ1 H1 _ _ Q I1 rr q1
def gTup (K:Frag) (n:Nat) (t:TGs):TG:=fun v σ H Q=>∃a xs,v=.ref a∧SqT K H a xs∧xs.length=n∧t xs σ H Q
theorem pg_tup {es:List Expr} {k:Nat} {t:TGs} {n:Nat} (hc:X.calm=true) (h:PGs X es t)
  (hn:(assignEach es X.env).length=n:=by rfl) (hst:(assignEach es X.env).findIdx? (·.1)=none:=by rfl):PG X (.Tuple es k pos) (gTup X.K n t):=by
 intro pins s σ H v u Q I r hw
 obtain⟨a,xs,e1,hq,hl,hw⟩:=hw
 subst e1
 cases r
 obtain⟨its,rv,ht,hz⟩:=I.tuple hq
 refine assign_Tuple_tuple (I.ok.hd hc) ht (by simp [hn,←hl,rv.length]) hst fun h' hx=>?_
 have I1:Inv X pins σ H {s with heap:=h'}:=I.kept (t':=s.toks) fun b o e=>hx b o (Nat.ne_of_lt (Heap.lt_size e)) e
 exact h pins _ σ H xs _ Q I1 (by simpa using rv) hw
def tAsg (te:TE) (g:TG):TS:=fun D σ H=>te σ H fun x H1=>g x σ H1 D.nx
theorem qag {i:Nat} {x:Str} {e:Expr} {te:TE} {pos':Pos} (hN:X.N.Nodup) (hi:X.N[i]?=some x) (hx:Loc X.env.scope x) (he:PE X e te) (hs:swapsWith e (some (.Name x pos')) pos.line X.env=pure false:=by rfl) (hf:X.fn x=true∨X.env.scope.names.lookup x=some .local:=by first|exact .inl rfl|exact .inr rfl|assumption):
  PS X (.Assign [.Name x pos'] e pos) (tAsg te (gName i)):=by
 intro pins s σ H D I h
 refine wpAny_Assign_Name (thn (he pins s σ H _ I h) fun v s1 ⟨y,H1,I1,r1,q1⟩=>?_) hs
 exact qdv I1 hN hi hx r1 (fun s2 I2=>⟨_,H1,I2,q1⟩) hf
end
section
variable {X : Cx} {pos : Pos}
def tWhile (c:TT) (tb:TS):TS:=fun D σ H=>∃W:Nat→St→Hp→Prop,(∃m,W m σ H)∧∀m σ H,W m σ H→
 c σ H fun b H1=>if b=true then ∃N:St→Hp→Prop,(∀σ' H',N σ' H'→∃m',m' < m∧W m' σ' H')∧tb {D with nx:=N,ct:=N,bk:=D.nx} σ H1 else D.nx σ H1
theorem ps_while {c:Expr} {body:List Stmt} {tc:TT} {tb:TS} (hp:PassesOwn (model X.prog X.w) X.A X.env X.xe) (hc:PT X c tc) (hb:PSs X body tb):PS X (.While c body [] pos) (tWhile tc tb):=by
 intro pins s σ H D I h
 obtain⟨W,⟨m0,w0⟩,turn⟩:=h
 refine wpAny_While (codeAny_whileLoop (fun n s'=>∃σ' H',Inv X pins σ' H' s'∧W n σ' H') ?_ m0 ⟨σ,H,I,w0⟩)
 rintro n s1 ⟨σ1,H1,I1,w1⟩
 refine wpAny_passesOwn hp (thn (hc pins s1 σ1 H1 _ I1 (turn n σ1 H1 w1)) fun b s2 ⟨H2,I2,q2⟩=>?_)
 cases b with
 |true=>
  obtain⟨N,hN,q2⟩:=q2
  rw [if_pos rfl]
  refine wpAny_passesOwn hp (thn (hb pins s2 σ1 H2 _ I2 q2) fun f s3 q3=>?_)
  cases f with
  |next=>
   obtain⟨σ3,H3,I3,n3⟩:=q3
   obtain⟨m',hm,w3⟩:=hN σ3 H3 n3
   exact⟨m',hm,σ3,H3,I3,w3⟩
  |cont=>
   obtain⟨σ3,H3,I3,n3⟩:=q3
   obtain⟨m',hm,w3⟩:=hN σ3 H3 n3
   exact⟨m',hm,σ3,H3,I3,w3⟩
  |brk=>exact q3
  |ret v=>exact q3
 |false=>
  rw [if_neg Bool.false_ne_true]
  exact wpAny_execs_nil ⟨σ1,H2,I2,q2⟩
end
structure It where
 go:Nat→Hp→Prop
 yld:Nat→Hp→V→Hp→Prop
 stop:Nat→Hp→Prop
def FpOk (X:Cx) (pins:List (Addr × Obj)) (H:Hp) (b:Addr):Prop:=
 H b=none∧b≠X.env.locals∧b∉X.fs∧(b∈X.ex∨X.s₀.heap.objs.size≤b)∧(∀x c,X.env.cells.lookup x=some c→c≠b)∧∀p∈X.pn++pins,p.1≠b
theorem Inv.fpOk {X:Cx} {pins:List (Addr × Obj)} {σ:St} {H H':Hp} {s:Shared} {b:Addr} (I:Inv X pins σ H s) (hb:s.heap.objs.size≤b) (hn:H' b=none):FpOk X pins H' b:=by
 refine⟨hn,Nat.ne_of_gt (Nat.lt_of_lt_of_le I.lt hb),I.nofs hb,.inr (Nat.le_trans I.sz hb),fun x c e z=>?_,fun p hp z=>?_⟩
 ·obtain⟨v,q⟩:=I.cell x c e
  exact absurd (Nat.lt_of_lt_of_le q.lt (by rw [z];exact hb)) (Nat.lt_irrefl _)
 ·exact absurd (Nat.lt_of_lt_of_le (Heap.lt_size (I.pin p hp).1) (by rw [z];exact hb)) (Nat.lt_irrefl _)
structure Turn (P:Program) (w:World) (K:Frag) (tg:Expr) (J:It) (fp:List Addr) (it:Addr) (tn:Nat→Heap→Prop):Prop where
 mem:it∈fp
 obj:∀i h,tn i h→∀b∈fp,∃o,h.get? b=some o∧∀v,o.data≠ .cell v
 keep:∀i h h',tn i h→(∀b∈fp,∀o,h.get? b=some o→h'.get? b=some o)→tn i h'
 item:∀(X:Cx),X.prog=P→X.w=w→X.K=K→X.calm=true→∀(i:Nat) (pins:List (Addr × Obj)) (s:Shared) (σ:St) (H:Hp) (E:Value→Shared→Prop),Inv X pins σ H s→(∀b∈fp,FpOk X pins H b)→tn i s.heap→J.go i H→
  wpAny (model P w) X.A (pyNext (.ref it)) (fun r s1=>∃u,r=some u∧
   wpAny (model P w) X.A (letOwnedTupleGo tg (.ref it) u) (fun _ s2=>∃x H',Inv X pins σ H' s2∧qb1 x u∧J.yld i H x H'∧tn (i+1) s2.heap∧∀b∈fp,H' b=none) E s1) E s
 done:∀(X:Cx),X.prog=P→X.w=w→X.K=K→X.calm=true→∀(i:Nat) (pins:List (Addr × Obj)) (s:Shared) (σ:St) (H:Hp) (E:Value→Shared→Prop),Inv X pins σ H s→(∀b∈fp,FpOk X pins H b)→tn i s.heap→J.stop i H→
  wpAny (model P w) X.A (pyNext (.ref it)) (fun r s1=>r=none∧Inv X pins σ H s1) E s
 self:∀(A:Around) (i:Nat) (s:Shared) (Q:Value→Shared→Prop) (E:Value→Shared→Prop),tn i s.heap→Q (.ref it) s→wpAny (model P w) A (pyIter (.ref it)) Q E s
abbrev TI:=St→Hp→(It→Hp→Prop)→Prop
def PIE (X:Cx) (pins:List (Addr × Obj)) (σ:St) (tg:Expr) (R:It→Hp→Prop) (itv:Value) (s2:Shared):Prop:=
 ∃(it:Addr) (fp:List Addr) (tn:Nat→Heap→Prop) (J:It) (H':Hp),itv=.ref it∧Inv X pins σ H' s2∧Turn X.prog X.w X.K tg J fp it tn∧tn 0 s2.heap∧(∀b∈fp,FpOk X pins H' b)∧R J H'
def PI (X:Cx) (tg iter:Expr) (wi:TI):Prop:=
 ∀(pins:List (Addr × Obj)) (s:Shared) (σ:St) (H:Hp) (R:It→Hp→Prop),Inv X pins σ H s→wi σ H R→
  wpAny (model X.prog X.w) X.A (eval iter X.env) (fun v s1=>wpAny (model X.prog X.w) X.A (pyIter v) (PIE X pins σ tg R) X.xe s1) X.xe s
theorem go_of {M:Model} {A:Around} {E:Value→Shared→Prop} {s:Shared} {tg:Expr} {it:Addr} {u:Value} {o:Obj} {n:String} {vs:Array Value} {Q:Unit→Shared→Prop} (ho:s.heap.get? it=some o) (hc:o.cls=.type n) (hd:o.data=.fields vs)
  (hn: ["enumerate","zip","dict_itemiterator","dict_reverseitemiterator","odict_iterator","itertools.zip_longest","itertools.pairwise"].contains n=false) (hQ:Q () s):wpAny M A (letOwnedTupleGo tg (.ref it) u) Q E s:=by
 unfold letOwnedTupleGo
 cases tg <;> first
  |exact wpAny_pure hQ
  |(cases u <;> first
    |exact wpAny_pure hQ
    |(refine wpAny_bind (wpAny_load ho ?_)
      rw [hc,hd]
      show wpAny M A (if (["enumerate","zip","dict_itemiterator","dict_reverseitemiterator","odict_iterator","itertools.zip_longest","itertools.pairwise"].contains n && vs[0]?==some (rawInt _))=true then _ else _) Q E s
      rw [if_neg (by intro h;rw [hn,Bool.false_and] at h;cases h)]
      exact wpAny_pure hQ))
def Itl (K:Frag) (a:Addr):It:=
 ⟨fun i H=>∃xs x,SqL K H a xs∧xs[i]?=some x,fun i H x H'=>H'=H∧∀xs,SqL K H a xs→xs[i]?=some x,fun i H=>∃xs,SqL K H a xs∧xs.length≤i⟩
def Itr (lo:Int) (n:Nat):It:=⟨fun i _=>i < n,fun i H x H'=>H'=H∧x=.int (lo+i),fun i _=>n≤i⟩
theorem turn_list {P:Program} {w:World} {K:Frag} {tg:Expr} (a it:Addr):Turn P w K tg (Itl K a) [it] it (fun i h=>h.IsListIter it a i) where
 mem:=by simp
 obj:=fun i h st b hb=>by
  have e:b=it:=by simpa using hb
  subst e
  obtain⟨o,e,c,d⟩:=st
  exact⟨o,e,fun v z=>by rw [d] at z;cases z⟩
 keep:=fun i h h' st k=>st.at fun o e=>k it (by simp) o e
 item:=by
  intro X hP hw hK hc i pins s σ H E I hf st hg
  subst hP hw hK
  obtain⟨xs,x,hq,hx⟩:=hg
  obtain⟨its,rv,p,hz⟩:=I.list hq
  obtain⟨u,hu,ru⟩:=rv.get hx
  obtain⟨f0,f1,f2,f3,f4,f5⟩:=hf it (by simp)
  refine wpAny_pyNext_list_item st p.isList (x:=u) (by simpa using hu) fun h' st' sb=>?_
  have I1:Inv X pins σ H {s with heap:=h'}:=I.turned (t':=s.toks) (fun b o hb e=>(sb.2 b hb).trans e) f0 f1 f3 f4 f5
  obtain⟨o,e,c,d⟩:=id st'
  exact⟨u,rfl,go_of (s:={s with heap:=h'}) e c d (by decide) ⟨x,H,I1,ru,⟨rfl,fun ys hy=>by rw [I.list_inj hy hq];exact hx⟩,st',fun b hb=>(hf b hb).1⟩⟩
 done:=by
  intro X hP hw hK hc i pins s σ H E I hf st hg
  subst hP hw hK
  obtain⟨xs,hq,hx⟩:=hg
  obtain⟨its,rv,p,hz⟩:=I.list hq
  obtain⟨f0,f1,f2,f3,f4,f5⟩:=hf it (by simp)
  have hl:=rv.length
  exact wpAny_pyNext_list_end (I.ok.hd hc) st p.isList (by simp;omega) fun h' eb=>⟨rfl,I.turned (t':=s.toks) (fun b o hb e=>eb b o hb e) f0 f1 f3 f4 f5⟩
 self:=fun _ _ _ _ _ st h=>wpAny_pyIter_listiter st h
theorem turn_range {P:Program} {w:World} {K:Frag} {tg:Expr} (it:Addr) (lo:Int) (n:Nat):Turn P w K tg (Itr lo n) [it] it (fun i h=>IsRangeIter h it (lo+(i:Nat)*1) ((n:Int) - (i:Nat)) 1) where
 mem:=by simp
 obj:=fun i h st b hb=>by
  have e:b=it:=by simpa using hb
  subst e
  exact⟨_,st,fun v z=>by
   have z':Data.fields _=Data.cell v:=z
   cases z'⟩
 keep:=fun i h h' st k=>k it (by simp) _ st
 item:=by
  intro X hP hw hK hc i pins s σ H E I hf st hg
  subst hP hw hK
  obtain⟨f0,f1,f2,f3,f4,f5⟩:=hf it (by simp)
  have W:=Walks.range (prog:=X.prog) (w:=X.w) (I.ok.hd hc) it lo 1 n
  refine W.item i s _ _ hg st fun v h' tk hv st' kk=>?_
  obtain⟨t,rfl⟩:=hv
  have I1:Inv X pins σ H {s with heap:=h',toks:=tk}:=I.turned (fun b o hb e=>kk b o (by simpa using hb) e) f0 f1 f3 f4 f5
  refine⟨_,rfl,go_of (s:={s with heap:=h',toks:=tk}) (n:="range_iterator") st' rfl rfl (by decide) ⟨.int (lo+i),H,I1,⟨t,?_⟩,⟨rfl,rfl⟩,st',fun b hb=>(hf b hb).1⟩⟩
  rw [Int.mul_one]
 done:=by
  intro X hP hw hK hc i pins s σ H E I hf st hg
  subst hP hw hK
  obtain⟨f0,f1,f2,f3,f4,f5⟩:=hf it (by simp)
  exact wpAny_pyNext_range_end (I.ok.hd hc) st (by have:n≤i:=hg;omega) fun h' eb=>⟨rfl,I.turned (t':=s.toks) (fun b o hb e=>eb b o hb e) f0 f1 f3 f4 f5⟩
 self:=fun _ _ _ _ _ st h=>wpAny_pyIter_rangeiter st h
section
variable {X : Cx} {tg : Expr}
def iList (K:Frag) (tl:TE):TI:=fun σ H R=>tl σ H fun x H1=>∃a,x=.ref a∧(∃xs,SqL K H1 a xs)∧R (Itl K a) H1
theorem qb6 {l:Expr} {tl:TE} (hl:PE X l tl):PI X tg l (iList X.K tl):=by
 intro pins s σ H R I h
 refine thn (hl pins s σ H _ I h) fun v s1 ⟨x,H1,I1,r1,q1⟩=>?_
 obtain⟨a,e,⟨xs,hq⟩,q⟩:=q1
 subst e
 cases r1
 obtain⟨its,rv,p,hz⟩:=I1.list hq
 refine wpAny_pyIter_list p.isList ?_
 refine⟨s1.heap.objs.size, [s1.heap.objs.size],_,_,H1,rfl,I1.kept (t':=s1.toks) fun b o e=>Heap.get?_push_of_some _ e,turn_list a _,⟨_,Heap.get?_push_size _ rfl,rfl,rfl⟩,fun b hb=>?_,q⟩
 have e:b=s1.heap.objs.size:=by simpa using hb
 subst e
 exact I1.fpOk (Nat.le_refl _) (I1.hok.fresh (Nat.le_refl _))
theorem range_it {pins:List (Addr × Obj)} {σ:St} {H:Hp} {s:Shared} {R:It→Hp→Prop} {E:Value→Shared→Prop} {lo hi:Int} {t u v:Tok} {tk:Nat} (I:Inv X pins σ H s) (h1: -(2^62)≤lo) (h2:lo < 2^62) (h3: -(2^62)≤hi) (h4:hi < 2^62)
  (q:R (Itr lo (hi - lo).toNat) H):wpAny (model X.prog X.w) X.A (pyIter (.ref s.heap.objs.size)) (PIE X pins σ tg R) E {s with heap:=s.heap.push {cls:=.type "range",data:=.fields #[.int lo t,.int hi u,.int 1 v]},toks:=tk}:=by
 refine wpAny_pyIter_range (IsRange.new ..) (small_one h1 h2 h3 h4) ?_
 have I1:Inv X pins σ H {s with heap:=s.heap.push {cls:=.type "range",data:=.fields #[.int lo t,.int hi u,.int 1 v]},toks:=tk}:=I.kept fun b o e=>Heap.get?_push_of_some _ e
 refine⟨(s.heap.push {cls:=.type "range",data:=.fields #[.int lo t,.int hi u,.int 1 v]}).objs.size, [(s.heap.push {cls:=.type "range",data:=.fields #[.int lo t,.int hi u,.int 1 v]}).objs.size],_,_,H,rfl,
  I1.kept (t':=tk) fun b o e=>Heap.get?_push_of_some _ e,turn_range _ lo (hi - lo).toNat,?_,fun b hb=>?_,q⟩
 ·have e1:lo+((0:Nat):Int)*1=lo:=by simp
  have e2:(((hi - lo).toNat:Nat):Int) - ((0:Nat):Int)=Builtin.Range.rangeSize lo hi 1:=by rw [rangeSize_one];split <;> omega
  show IsRangeIter _ _ (lo+((0:Nat):Int)*1) ((((hi - lo).toNat:Nat):Int) - ((0:Nat):Int)) 1
  rw [e1,e2]
  exact Heap.get?_push_size _ rfl
 ·have e:b=(s.heap.push {cls:=.type "range",data:=.fields #[.int lo t,.int hi u,.int 1 v]}).objs.size:=by simpa using hb
  subst e
  exact I1.fpOk (Nat.le_refl _) (I1.hok.fresh (Nat.le_refl _))
def iRng1 (ta:TA):TI:=fun σ H R=>ta σ H fun vs H1=>∃j:Int,vs=[.int j]∧-(2^62)≤j∧j < 2^62∧R (Itr 0 j.toNat) H1
def iRng2 (ta:TA):TI:=fun σ H R=>ta σ H fun vs H1=>∃i j:Int,vs=[.int i,.int j]∧(-(2^62)≤i∧i < 2^62∧-(2^62)≤j∧j < 2^62)∧R (Itr i (j - i).toNat) H1
theorem qb7 {a:Expr} {ta:TA} {p pos:Pos} (hg:Gl X "range") (hm:X.mg "range" =none) (ha:PA X [a] ta) (hs:starEach [a] X.env=[(false,eval a X.env)]:=by rfl):PI X tg (.Call (.Name "range" p) [a] [] pos) (iRng1 ta):=by
 intro pins s σ H R I h
 refine Call_ (qeh I hg hm boot_range (PyProof.Rows.callWith_type1 (thn (ha pos pins s σ H _ I h) fun us s1 ⟨vs,H1,I1,r1,q1⟩=>?_) hs rfl))
 obtain⟨j,e,q1,q2,q⟩:=q1
 subst e
 cases r1 with
 |cons r rr=>
  cases rr
  obtain⟨t,rfl⟩:=r
  exact call_range_1 (range_it I1 (by omega) (by omega) q1 q2 (by simpa using q))
theorem pi_range2 {a b:Expr} {ta:TA} {p pos:Pos} (hg:Gl X "range") (hm:X.mg "range" =none) (ha:PA X [a,b] ta) (hs:starEach [a,b] X.env=[(false,eval a X.env),(false,eval b X.env)]:=by rfl) (hs2:starEach [b] X.env=[(false,eval b X.env)]:=by rfl):
  PI X tg (.Call (.Name "range" p) [a,b] [] pos) (iRng2 ta):=by
 intro pins s σ H R I h
 refine Call_ (qeh I hg hm boot_range (PyProof.Rows.callWith_type1 (thn (ha pos pins s σ H _ I h) fun us s1 ⟨vs,H1,I1,r1,q1⟩=>?_) (by rw [hs,hs2]) (by rw [hs2];rfl)))
 obtain⟨i,j,e,⟨q1,q2,q3,q4⟩,q⟩:=q1
 subst e
 cases r1 with
 |cons r rr=>
  cases rr with
  |cons r' rr=>
   cases rr
   obtain⟨t,rfl⟩:=r
   obtain⟨t',rfl⟩:=r'
   exact call_range_2 (range_it I1 q1 q2 q3 q4 q)
def tFor (wi:TI) (g:TG) (tb:TS):TS:=fun D σ H=>wi σ H fun J H1=>∃W:Nat→Nat→St→Hp→Prop,(∃m,W 0 m σ H1)∧∀i m σ H,W i m σ H→
 (J.stop i H∧D.nx σ H)∨(J.go i H∧∃N:St→Hp→Prop,(∀σ' H',N σ' H'→∃m',m' < m∧W (i+1) m' σ' H')∧∀x H',J.yld i H x H'→g x σ H' fun σ2 H2=>tb {D with nx:=N,ct:=N,bk:=D.nx} σ2 H2)
def qc9 (fp:List Addr) (h:Heap):List (Addr × Obj):=fp.filterMap fun b=>(h.get? b).map fun o=>(b,o)
theorem qc2 {fp:List Addr} {h:Heap} {b:Addr} {o:Obj} (hb:b∈fp) (e:h.get? b=some o):(b,o)∈qc9 fp h:=List.mem_filterMap.mpr ⟨b,hb,by rw [e];rfl⟩
theorem of_pinsAt {fp:List Addr} {h:Heap} {p:Addr × Obj} (hp:p∈qc9 fp h):p.1∈fp∧h.get? p.1=some p.2:=by
 obtain⟨b,hb,e⟩:=List.mem_filterMap.mp hp
 cases q:h.get? b with
 |none=>rw [q] at e;cases e
 |some o=>
  rw [q] at e
  have e':(b,o)=p:=Option.some.inj e
  subst e'
  exact⟨hb,q⟩
theorem Inv.pinned {pins:List (Addr × Obj)} {σ:St} {H:Hp} {s:Shared} {fp:List Addr} (I:Inv X pins σ H s) (hf:∀b∈fp,FpOk X pins H b) (ho:∀b∈fp,∃o,s.heap.get? b=some o∧∀v,o.data≠ .cell v):Inv X (pins++qc9 fp s.heap) σ H s:=
 I.pins_of fun p hp=>(zU.mp hp).elim (fun z=>I.pin p (zR _ z)) fun z=>by
  obtain⟨hb,e⟩:=of_pinsAt z
  obtain⟨f0,f1,f2,_⟩:=hf p.1 hb
  obtain⟨o,e',d⟩:=ho p.1 hb
  rw [e] at e';cases e'
  exact⟨e,f0,f1,f2,d⟩
theorem Inv.unpinned {pins pl:List (Addr × Obj)} {σ:St} {H:Hp} {s:Shared} (I:Inv X (pins++pl) σ H s):Inv X pins σ H s:=I.pins_of fun p hp=>I.pin p (zR _ (yI _ hp))
theorem qbf {iter:Expr} {body:List Stmt} {wi:TI} {g:TG} {tb:TS} {pos:Pos} (hp:PassesOwn (model X.prog X.w) X.A X.env X.xe) (hc:X.calm=true) (hi:PI X tg iter wi) (hg:PG X tg g) (hb:PSs X body tb)
  (hs:∀x,foldedSetIterable iter X.env x=pure x:=by intro _;rfl):PS X (.For tg iter body [] pos) (tFor wi g tb):=by
 intro pins s σ H D I h
 refine wpAny_For (thn (hi pins s σ H _ I h) fun v s1 h1=>thn h1 fun itv s2 h2=>?_) hs
 obtain⟨it,fp,tn,J,H2,e,I2,T,st2,f2,W,⟨m0,w0⟩,turn⟩:=h2
 subst e
 have stat:∀{H':Hp},(∀b∈fp,H' b=none)→∀b∈fp,FpOk X pins H' b:=fun hn b hb=>⟨hn b hb,(f2 b hb).2⟩
 refine codeAny_forLoop_any (fun n s'=>∃i σ' H',Inv X pins σ' H' s'∧tn i s'.heap∧(∀b∈fp,H' b=none)∧W i n σ' H') ?_ m0 ⟨0,σ,H2,I2,st2,fun b hb=>(f2 b hb).1,w0⟩
 rintro n s3 ⟨i,σ3,H3,I3,st3,fr3,w3⟩
 rcases turn i n σ3 H3 w3 with ⟨stop,qn⟩ |⟨go,N,hN,step⟩
 ·refine wpAny_passesOwn hp (thn (T.done X rfl rfl rfl hc i pins s3 σ3 H3 X.xe I3 (stat fr3) st3 stop) fun r s4 ⟨hr,I4⟩=>?_)
  subst hr
  exact wpAny_execs_nil ⟨σ3,H3,I4,qn⟩
 ·refine wpAny_passesOwn hp (thn (T.item X rfl rfl rfl hc i pins s3 σ3 H3 X.xe I3 (stat fr3) st3 go) fun r s4 ⟨u,hr,h4⟩=>?_)
  subst hr
  refine wpAny_passesOwn hp (thn h4 fun _ s5 ⟨x,H5,I5,r5,y5,st5,fr5⟩=>?_)
  have I5':=I5.pinned (stat fr5) (T.obj _ _ st5)
  refine wpAny_passesOwn hp (thn (hg _ s5 σ3 H5 x u _ I5' r5 (step x H5 y5)) fun _ s6 ⟨σ6,H6,I6,q6⟩=>?_)
  refine wpAny_passesOwn hp (thn (hb _ s6 σ6 H6 _ I6 q6) fun f s7 q7=>?_)
  have again:∀{σ7:St} {H7:Hp},Inv X (pins++qc9 fp s5.heap) σ7 H7 s7→N σ7 H7→∃m,m < n∧∃i σ' H',Inv X pins σ' H' s7∧tn i s7.heap∧(∀b∈fp,H' b=none)∧W i m σ' H':=fun {σ7 H7} I7 n7=>by
   obtain⟨m',hm,w7⟩:=hN σ7 H7 n7
   refine⟨m',hm,i+1,σ7,H7,I7.unpinned,T.keep _ _ _ st5 fun b hb o e=>(I7.pin (b,o) (zR _ (zR _ (qc2 hb e)))).1,fun b hb=>?_,w7⟩
   obtain⟨o,e,d⟩:=T.obj _ _ st5 b hb
   exact(I7.pin (b,o) (zR _ (zR _ (qc2 hb e)))).2.1
  cases f with
  |next=>obtain⟨σ7,H7,I7,n7⟩:=q7;exact again I7 n7
  |cont=>obtain⟨σ7,H7,I7,n7⟩:=q7;exact again I7 n7
  |brk=>obtain⟨σ7,H7,I7,q7⟩:=q7;exact⟨σ7,H7,I7.unpinned,q7⟩
  |ret v=>obtain⟨x7,σ7,H7,I7,r7,q7⟩:=q7;exact⟨x7,σ7,H7,I7.unpinned,r7,q7⟩
end
theorem for_list {K:Frag} {a:Addr} {xs:List V} {g:TG} {tb:TS} {D:Ends} {σ:St} {H:Hp} (Pv:Nat→St→Hp→Prop) (h0:Pv 0 σ H) (hl:∀i σ H,i≤xs.length→Pv i σ H→SqL K H a xs)
  (hs:∀i x σ H,xs[i]?=some x→Pv i σ H→g x σ H fun σ2 H2=>tb {D with nx:=Pv (i+1),ct:=Pv (i+1),bk:=D.nx} σ2 H2) (hd:∀σ H,Pv xs.length σ H→D.nx σ H):
  ∃W:Nat→Nat→St→Hp→Prop,(∃m,W 0 m σ H)∧∀i m σ H,W i m σ H→
   ((Itl K a).stop i H∧D.nx σ H)∨((Itl K a).go i H∧∃N:St→Hp→Prop,(∀σ' H',N σ' H'→∃m',m' < m∧W (i+1) m' σ' H')∧∀x H',(Itl K a).yld i H x H'→g x σ H' fun σ2 H2=>tb {D with nx:=N,ct:=N,bk:=D.nx} σ2 H2):=by
 refine⟨fun i m σ H=>m=xs.length - i∧i≤xs.length∧Pv i σ H,⟨xs.length,by simp,Nat.zero_le _,h0⟩,?_⟩
 rintro i m σ H ⟨rfl,hi,p⟩
 have q:=hl i σ H hi p
 by_cases hlt:i < xs.length
 ·refine .inr ⟨⟨xs,xs[i],q,by simp [hlt]⟩,Pv (i+1),fun σ' H' p'=>⟨xs.length - (i+1),by omega,rfl,hlt,p'⟩,fun x H' y=>?_⟩
  obtain⟨e,y⟩:=y
  subst e
  exact hs i x σ _ (y xs q) p
 ·have e:i=xs.length:=by omega
  subst e
  exact .inl ⟨⟨xs,q,Nat.le_refl _⟩,hd σ H p⟩
theorem for_range {lo:Int} {n:Nat} {g:TG} {tb:TS} {D:Ends} {σ:St} {H:Hp} (Pv:Nat→St→Hp→Prop) (h0:Pv 0 σ H)
  (hs:∀i σ H,i < n→Pv i σ H→g (.int (lo+i)) σ H fun σ2 H2=>tb {D with nx:=Pv (i+1),ct:=Pv (i+1),bk:=D.nx} σ2 H2) (hd:∀σ H,Pv n σ H→D.nx σ H):
  ∃W:Nat→Nat→St→Hp→Prop,(∃m,W 0 m σ H)∧∀i m σ H,W i m σ H→
   ((Itr lo n).stop i H∧D.nx σ H)∨((Itr lo n).go i H∧∃N:St→Hp→Prop,(∀σ' H',N σ' H'→∃m',m' < m∧W (i+1) m' σ' H')∧∀x H',(Itr lo n).yld i H x H'→g x σ H' fun σ2 H2=>tb {D with nx:=N,ct:=N,bk:=D.nx} σ2 H2):=by
 refine⟨fun i m σ H=>m=n - i∧i≤n∧Pv i σ H,⟨n,by simp,Nat.zero_le _,h0⟩,?_⟩
 rintro i m σ H ⟨rfl,hi,p⟩
 by_cases hlt:i < n
 ·refine .inr ⟨hlt,Pv (i+1),fun σ' H' p'=>⟨n - (i+1),by omega,rfl,hlt,p'⟩,fun x H' y=>?_⟩
  obtain⟨e,y⟩:=y
  subst e y
  exact hs i σ _ hlt p
 ·have e:i=n:=by omega
  subst e
  exact .inl ⟨Nat.le_refl _,hd σ H p⟩
theorem while_by {c:TT} {tb:TS} {D:Ends} {σ:St} {H:Hp} (Pv:St→Hp→Prop) (μ:St→Hp→Nat) (h0:Pv σ H)
  (hs:∀σ H,Pv σ H→c σ H fun b H1=>if b=true then tb {D with nx:=fun σ' H'=>Pv σ' H'∧μ σ' H' < μ σ H,ct:=fun σ' H'=>Pv σ' H'∧μ σ' H' < μ σ H,bk:=D.nx} σ H1 else D.nx σ H1)
  (mono:∀σ H Q Q',(∀b H1,Q b H1→Q' b H1)→c σ H Q→c σ H Q'):tWhile c tb D σ H:=by
 refine⟨fun m σ H=>m=μ σ H∧Pv σ H,⟨_,rfl,h0⟩,?_⟩
 rintro m σ H ⟨rfl,p⟩
 refine mono σ H _ _ (fun b H1 q=>?_) (hs σ H p)
 cases b with
 |true=>exact⟨_,fun σ' H' ⟨p',l⟩=>⟨_,l,rfl,p'⟩,q⟩
 |false=>exact q
abbrev R2:=V→V→Hp→VK→Prop
def OpR (X:Cx) (f:Value→Value→Sem Value) (r:R2):Prop:=
 ∀(pins:List (Addr × Obj)) (s:Shared) (σ:St) (H:Hp) (x y:V) (v u:Value) (Q:VK),Inv X pins σ H s→qb1 x v→qb1 y u→r x y H Q→
  wpAny (model X.prog X.w) X.A (f v u) (EP X pins σ Q) X.xe s
def qby (X:Cx) (f:Value) (r:List V→Hp→VK→Prop):Prop:=
 ∀(pins:List (Addr × Obj)) (s:Shared) (σ:St) (H:Hp) (xs:List V) (us:List Value) (Q:VK),Inv X pins σ H s→qb9 xs us→r xs H Q→
  wpAny (model X.prog X.w) X.A (call f us) (EP X pins σ Q) X.xe s
def tOp (r:R2) (ta tb:TE):TE:=fun σ H Q=>ta σ H fun x H1=>tb σ H1 fun y H2=>r x y H2 Q
def rI (C:Int→Int→Prop) (g:Int→Int→V):R2:=fun x y H Q=>∃i j,x=.int i∧y=.int j∧C i j∧Q (g i j) H
def rI0 (g:Int→Int→V):R2:=fun x y H Q=>∃i j,x=.int i∧y=.int j∧Q (g i j) H
section
variable {X : Cx} {a b c : Expr} {ta tb tc : TE} {pos : Pos}
theorem binT (ha:PE X a ta) (hb:PE X b tb) {pins:List (Addr × Obj)} {s:Shared} {σ:St} {H:Hp} {R:V→V→Hp→Prop} (I:Inv X pins σ H s)
  (h:ta σ H fun x H1=>tb σ H1 fun y H2=>R x y H2) {Q:Value→Shared→Prop} {f:Value→Value→Sem Value}
  (hf:∀v u s2 x y H2,Inv X pins σ H2 s2→qb1 x v→qb1 y u→R x y H2→wpAny (model X.prog X.w) X.A (f v u) Q X.xe s2):
  wpAny (model X.prog X.w) X.A (eval a X.env) (fun v s₁=>wpAny (model X.prog X.w) X.A (eval b X.env) (fun u s₂=>wpAny (model X.prog X.w) X.A (f v u) Q X.xe s₂) X.xe s₁) X.xe s:=by
 refine thn (ha pins s σ H _ I h) fun v s1 ⟨x,H1,I1,r1,q1⟩=>?_
 refine thn (hb pins s1 σ H1 _ I1 q1) fun u s2 ⟨y,H2,I2,r2,q2⟩=>?_
 exact hf v u s2 x y H2 I2 r1 r2 q2
theorem qak {op:Operator} {r:R2} (ho:OpR X (binaryOp op) r) (ha:PE X a ta) (hb:PE X b tb):PE X (.BinOp a op b pos) (tOp r ta tb):=by
 intro pins s σ H Q I h
 exact wpAny_BinOp (binT ha hb I h fun v u s2 x y H2 I2 rx ry q=>ho pins s2 σ H2 x y v u Q I2 rx ry q)
theorem opI {f:Value→Value→Sem Value} {C:Int→Int→Prop} {g:Int→Int→Int}
  (rule:∀(i j:Int) (t u:Tok) (s:Shared) (Q:Value→Shared→Prop) (E:Value→Shared→Prop),C i j→Q (.int (g i j) s.toks) {s with toks:=s.toks+1}→wpAny (model X.prog X.w) X.A (f (.int i t) (.int j u)) Q E s):
  OpR X f (rI C fun i j=> .int (g i j)):=by
 intro pins s σ H x y v u Q I rx ry h
 obtain⟨i,j,rfl,rfl,hc,q⟩:=h
 obtain⟨t,rfl⟩:=rx
 obtain⟨t',rfl⟩:=ry
 exact rule i j t t' s _ _ hc ⟨.int (g i j),H,I.tok _,⟨_,rfl⟩,q⟩
theorem opI0 {f:Value→Value→Sem Value} {g:Int→Int→Int}
  (rule:∀(i j:Int) (t u:Tok) (s:Shared) (Q:Value→Shared→Prop) (E:Value→Shared→Prop),Q (.int (g i j) s.toks) {s with toks:=s.toks+1}→wpAny (model X.prog X.w) X.A (f (.int i t) (.int j u)) Q E s):
  OpR X f (rI0 fun i j=> .int (g i j)):=by
 intro pins s σ H x y v u Q I rx ry h
 obtain⟨i,j,rfl,rfl,q⟩:=h
 obtain⟨t,rfl⟩:=rx
 obtain⟨t',rfl⟩:=ry
 exact rule i j t t' s _ _ ⟨.int (g i j),H,I.tok _,⟨_,rfl⟩,q⟩
theorem opB0 {f:Value→Value→Sem Value} {g:Int→Int→Bool}
  (rule:∀(i j:Int) (t u:Tok) (s:Shared) (Q:Value→Shared→Prop) (E:Value→Shared→Prop),Q (.bool (g i j)) s→wpAny (model X.prog X.w) X.A (f (.int i t) (.int j u)) Q E s):
  OpR X f (rI0 fun i j=> .bl (g i j)):=by
 intro pins s σ H x y v u Q I rx ry h
 obtain⟨i,j,rfl,rfl,q⟩:=h
 obtain⟨t,rfl⟩:=rx
 obtain⟨t',rfl⟩:=ry
 exact rule i j t t' s _ _ ⟨.bl (g i j),H,I,rfl,q⟩
def CPow (i j:Int):Prop:=0≤j∧j≤1000000∧i.natAbs < 2^64
theorem qaz:OpR X (binaryOp .Add) (rI0 fun i j=> .int (i+j)):=opI0 fun _ _ _ _ _ _ _ q=>add_int q
theorem qex:OpR X (binaryOp .Sub) (rI0 fun i j=> .int (i - j)):=opI0 fun _ _ _ _ _ _ _ q=>sub_int q
theorem qbz:OpR X (binaryOp .Mod) (rI (fun _ j=>0 < j) fun i j=> .int (i%j)):=opI fun i j _ _ _ _ _ hc q=>by
 have h1:(0:Int) < j:=hc
 exact mod_int' (by omega) (by rw [Int.fmod_eq_emod_of_nonneg i (by omega)];exact q)
theorem op_pow:OpR X (binaryOp .Pow) (rI CPow fun i j=> .int (i^j.toNat)):=opI fun _ _ _ _ _ _ _ hc q=>pow_int_small hc.1 hc.2.1 hc.2.2 q
end
def scal:V→V→Bool
 | .non,.non=>true| .non,.int _=>true| .int _,.non=>true| .non,.bl _=>true| .bl _,.non=>true| .non,.str _=>true| .str _,.non=>true
 | .int _,.int _=>true| .bl _,.bl _=>true| .str _,.str _=>true| .byt _,.byt _=>true
 | .int _,.str _=>true| .str _,.int _=>true| .bl _,.str _=>true| .str _,.bl _=>true
 |_,_=>false
def rEq:R2:=fun x y H Q=>scal x y=true∧Q (.bl (decide (x=y))) H
def rNe:R2:=fun x y H Q=>scal x y=true∧Q (.bl (!decide (x=y))) H
theorem dec_int {i j:Int}:decide (V.int i=V.int j)=(i==j):=by
 rw [Bool.eq_iff_iff]
 simp
theorem dec_bl {i j:Bool}:decide (V.bl i=V.bl j)=(i==j):=by
 rw [Bool.eq_iff_iff]
 simp
theorem dec_str {i j:Str}:decide (V.str i=V.str j)=(i==j):=by
 rw [Bool.eq_iff_iff]
 simp
theorem dec_byt {i j:Array UInt8}:decide (V.byt i=V.byt j)=(i.toList==j.toList):=by
 rw [Bool.eq_iff_iff]
 cases i
 cases j
 simp
section
variable {X : Cx} {a b c : Expr} {ta tb tc : TE} {pos : Pos}
theorem qax {pins:List (Addr × Obj)} {σ:St} {H:Hp} {s:Shared} {Q:VK} {k k':Bool} (I:Inv X pins σ H s) (q:Q (.bl k) H) (e:k=k'):EP X pins σ Q (.bool k') s:=by
 subst e
 exact⟨.bl k,H,I,rfl,q⟩
theorem qdu:OpR X (compareOp .Eq) rEq:=by
 intro pins s σ H x y v u Q I rx ry h
 obtain⟨hs,q⟩:=h
 cases x with
 |non=>
  cases rx
  cases y with
  |non=>cases ry;exact PySem.EqNone.eq_none_none (qax I q (by simp))
  |bl j=>cases ry;exact PySem.EqNone.eq_none_bool (qax I q (by simp))
  |int j=>obtain⟨t',rfl⟩:=ry;exact PySem.EqNone.eq_none_int (qax I q (by simp))
  |str j=>obtain⟨t',rfl⟩:=ry;exact PySem.EqNone.eq_none_str (qax I q (by simp))
  |_=>exact absurd (show false=true from hs) Bool.false_ne_true
 |bl i=>
  cases rx
  cases y with
  |non=>cases ry;exact PySem.EqNone.eq_bool_none (qax I q (by simp))
  |bl j=>cases ry;exact eq_bool (qax I q dec_bl)
  |str j=>obtain⟨t',rfl⟩:=ry;exact PySem.EqMixed.eq_bool_str (qax I q (by simp))
  |_=>exact absurd (show false=true from hs) Bool.false_ne_true
 |int i=>
  obtain⟨t,rfl⟩:=rx
  cases y with
  |non=>cases ry;exact PySem.EqNone.eq_int_none (qax I q (by simp))
  |int j=>obtain⟨t',rfl⟩:=ry;exact eq_int (qax I q dec_int)
  |str j=>obtain⟨t',rfl⟩:=ry;exact PySem.EqMixed.eq_int_str (qax I q (by simp))
  |_=>exact absurd (show false=true from hs) Bool.false_ne_true
 |str i=>
  obtain⟨t,rfl⟩:=rx
  cases y with
  |non=>cases ry;exact PySem.EqNone.eq_str_none (qax I q (by simp))
  |bl j=>cases ry;exact PySem.EqMixed.eq_str_bool (qax I q (by simp))
  |int j=>obtain⟨t',rfl⟩:=ry;exact PySem.EqMixed.eq_str_int (qax I q (by simp))
  |str j=>obtain⟨t',rfl⟩:=ry;exact eq_str (qax I q dec_str)
  |_=>exact absurd (show false=true from hs) Bool.false_ne_true
 |byt i=>
  obtain⟨t,rfl⟩:=rx
  cases y with
  |byt j=>obtain⟨t',rfl⟩:=ry;exact PySem.W.eq_bytes (qax I q dec_byt)
  |_=>exact absurd (show false=true from hs) Bool.false_ne_true
 |_=>cases y <;> exact absurd (show false=true from hs) Bool.false_ne_true
theorem op_ne:OpR X (compareOp .NotEq) rNe:=by
 intro pins s σ H x y v u Q I rx ry h
 obtain⟨hs,q⟩:=h
 cases x with
 |non=>
  cases rx
  cases y with
  |non=>cases ry;exact PySem.EqNone.ne_none_none (qax I q (by simp))
  |bl j=>cases ry;exact PySem.EqNone.ne_none_bool (qax I q (by simp))
  |int j=>obtain⟨t',rfl⟩:=ry;exact PySem.EqNone.ne_none_int (qax I q (by simp))
  |str j=>obtain⟨t',rfl⟩:=ry;exact PySem.EqNone.ne_none_str (qax I q (by simp))
  |_=>exact absurd (show false=true from hs) Bool.false_ne_true
 |bl i=>
  cases rx
  cases y with
  |non=>cases ry;exact PySem.EqNone.ne_bool_none (qax I q (by simp))
  |bl j=>cases ry;exact ne_bool (qax I q (congrArg not dec_bl))
  |str j=>obtain⟨t',rfl⟩:=ry;exact PySem.EqMixed.ne_bool_str (qax I q (by simp))
  |_=>exact absurd (show false=true from hs) Bool.false_ne_true
 |int i=>
  obtain⟨t,rfl⟩:=rx
  cases y with
  |non=>cases ry;exact PySem.EqNone.ne_int_none (qax I q (by simp))
  |int j=>obtain⟨t',rfl⟩:=ry;exact ne_int (qax I q (congrArg not dec_int))
  |str j=>obtain⟨t',rfl⟩:=ry;exact PySem.EqMixed.ne_int_str (qax I q (by simp))
  |_=>exact absurd (show false=true from hs) Bool.false_ne_true
 |str i=>
  obtain⟨t,rfl⟩:=rx
  cases y with
  |non=>cases ry;exact PySem.EqNone.ne_str_none (qax I q (by simp))
  |bl j=>cases ry;exact PySem.EqMixed.ne_str_bool (qax I q (by simp))
  |int j=>obtain⟨t',rfl⟩:=ry;exact PySem.EqMixed.ne_str_int (qax I q (by simp))
  |str j=>obtain⟨t',rfl⟩:=ry;exact ne_str (qax I q (congrArg not dec_str))
  |_=>exact absurd (show false=true from hs) Bool.false_ne_true
 |byt i=>
  obtain⟨t,rfl⟩:=rx
  cases y with
  |byt j=>obtain⟨t',rfl⟩:=ry;exact PySem.W.ne_bytes (qax I q (congrArg not dec_byt))
  |_=>exact absurd (show false=true from hs) Bool.false_ne_true
 |_=>cases y <;> exact absurd (show false=true from hs) Bool.false_ne_true
theorem op_lt:OpR X (compareOp .Lt) (rI0 fun i j=> .bl (decide (i < j))):=opB0 fun _ _ _ _ _ _ _ q=>lt_int q
theorem op_le:OpR X (compareOp .LtE) (rI0 fun i j=> .bl (decide (i≤j))):=opB0 fun _ _ _ _ _ _ _ q=>le_int q
theorem qfj:OpR X (compareOp .Gt) (rI0 fun i j=> .bl (decide (j < i))):=opB0 fun _ _ _ _ _ _ _ q=>gt_int q
theorem op_ge:OpR X (compareOp .GtE) (rI0 fun i j=> .bl (decide (j≤i))):=opB0 fun _ _ _ _ _ _ _ q=>ge_int q
theorem op_in_str:OpR X (compareOp .In) (fun x y H Q=>∃i j,x=.str i∧y=.str j∧Q (.bl (!(Builtin.Str.occurrences j i 0 j.length 1).isEmpty)) H):=by
 intro pins s σ H x y v u Q I rx ry h
 obtain⟨i,j,rfl,rfl,q⟩:=h
 obtain⟨t,rfl⟩:=rx
 obtain⟨t',rfl⟩:=ry
 exact in_str (qax I q rfl)
theorem op_isN:OpR X (compareOp .Is) (fun x y H Q=>y=.non∧Q (.bl (decide (x=.non))) H):=by
 intro pins s σ H x y v u Q I rx ry h
 obtain⟨rfl,q⟩:=h
 cases ry
 refine is_none_gen (qax I q ?_)
 cases x <;> first
  |(cases rx;rfl)
  |(obtain⟨t,rfl⟩:=rx;rfl)
theorem op_notN:OpR X (compareOp .IsNot) (fun x y H Q=>y=.non∧Q (.bl (!decide (x=.non))) H):=by
 intro pins s σ H x y v u Q I rx ry h
 obtain⟨rfl,q⟩:=h
 cases ry
 refine isnot_none_gen (qax I q ?_)
 cases x <;> first
  |(cases rx;rfl)
  |(obtain⟨t,rfl⟩:=rx;rfl)
theorem qat (b:Expr) {op:CmpOp} (h:op≠ .In:=by decide) (h2:op≠ .NotIn:=by decide):behindInMarks op b=false:=by
 have e1:(op==CmpOp.In)=false:=by cases op <;> first|rfl|exact absurd rfl h
 have e2:(op==CmpOp.NotIn)=false:=by cases op <;> first|rfl|exact absurd rfl h2
 cases b <;> simp [behindInMarks,e1,e2]
theorem qdn {op:CmpOp} {r:R2} (ho:OpR X (compareOp op) r) (ha:PE X a ta) (hb:PE X b tb) (hm:behindInMarks op b=false):PE X (.Compare a [op] [b] pos) (tOp r ta tb):=by
 intro pins s σ H Q I h
 exact wpAny_Compare1 (binT ha hb I h fun v u s2 x y H2 I2 rx ry q=>ho pins s2 σ H2 x y v u Q I2 rx ry q) hm
def tTest (t:TE):TT:=fun σ H Q=>t σ H fun x H'=>∃k,x=.bl k∧Q k H'
theorem qan {op:CmpOp} {r:R2} (ho:OpR X (compareOp op) r) (ha:PE X a ta) (hb:PE X b tb) (hm:behindInMarks op b=false):PT X (.Compare a [op] [b] pos) (tTest (tOp r ta tb)):=by
 intro pins s σ H Q I h
 refine wpAny_isTrue_Compare1 (thn (ha pins s σ H _ I h) fun v s1 ⟨x,H1,I1,r1,q1⟩=>thn (hb pins s1 σ H1 _ I1 q1) fun u s2 ⟨y,H2,I2,r2,q2⟩=>
  thn (ho pins s2 σ H2 x y v u _ I2 r1 r2 q2) fun c s3 ⟨z,H3,I3,r3,k,e,q3⟩=>?_) hm
 subst e
 cases r3
 exact wpAny_truthy_bool ⟨H3,I3,q3⟩
def tChain (r r':R2) (ta tb tc:TE):TE:=fun σ H Q=>ta σ H fun x H1=>tb σ H1 fun y H2=>r x y H2 fun z H3=>∃k,z=.bl k∧
 (if k=true then tc σ H3 fun w' H4=>r' y w' H4 Q else Q (.bl false) H3)
theorem pe_chain {op op':CmpOp} {r r':R2} (ho:OpR X (compareOp op) r) (ho':OpR X (compareOp op') r') (ha:PE X a ta) (hb:PE X b tb) (hc:PE X c tc)
  (hm:lastMarks [op,op'] [b,c]=false:=by with_unfolding_all rfl):PE X (.Compare a [op,op'] [b,c] pos) (tChain r r' ta tb tc):=by
 intro pins s σ H Q I h
 refine Compare_chain (thn (ha pins s σ H _ I h) fun v s1 ⟨x,H1,I1,r1,q1⟩=>chain_link (thn (hb pins s1 σ H1 _ I1 q1) fun u s2 ⟨y,H2,I2,r2,q2⟩=>
  thn (ho pins s2 σ H2 x y v u _ I2 r1 r2 q2) fun d s3 ⟨z,H3,I3,r3,k,e,q3⟩=>?_)) hm
 subst e
 cases r3
 refine wpAny_truthy_bool ?_
 cases k with
 |false=>exact ite_ff ⟨.bl false,H3,I3,rfl,q3⟩
 |true=>exact ite_tt (chain_last (thn (hc pins s3 σ H3 _ I3 q3) fun w' s4 ⟨z',H4,I4,r4,q4⟩=>ho' pins s4 σ H4 y z' u w' Q I4 r2 r4 q4))
theorem line63:(sizeLine:Nat) < 2^63:=by rw [sizeLine_eq];decide
theorem op_add_str:OpR X (binaryOp .Add) (fun x y H Q=>∃i j,x=.str i∧y=.str j∧i.length+j.length≤sizeLine∧Q (.str (i++j)) H):=by
 intro pins s σ H x y v u Q I rx ry h
 obtain⟨i,j,rfl,rfl,hz,q⟩:=h
 obtain⟨t,rfl⟩:=rx
 obtain⟨t',rfl⟩:=ry
 exact add_str (fun t' tk=>⟨.str (i++j),H,I.tok _,⟨_,rfl⟩,q⟩) hz
theorem vals1 {x:V} {us:List Value} (r:qb9 [x] us):∃u,us=[u]∧qb1 x u:=by
 cases r with
 |cons r1 r2=>cases r2;exact⟨_,rfl,r1⟩
theorem vals2 {x y:V} {us:List Value} (r:qb9 [x,y] us):∃u w',us=[u,w']∧qb1 x u∧qb1 y w':=by
 cases r with
 |cons r1 r2=>
  cases r2 with
  |cons r3 r4=>cases r4;exact⟨_,_,rfl,r1,r3⟩
theorem call_max2 (hc:X.calm=true):qby X (.builtin "max") (fun xs H Q=>∃i j,xs=[.int i,.int j]∧Q (.int (if j > i then j else i)) H):=by
 intro pins s σ H xs us Q I r h
 obtain⟨i,j,rfl,q⟩:=h
 obtain⟨u,w',rfl,⟨t,rfl⟩,⟨t',rfl⟩⟩:=vals2 r
 refine max_two_ints (I.ok.hd hc) fun h' tk k=>⟨_,H,I.kept k,?_,q⟩
 by_cases hj:j > i
 ·rw [if_pos hj,if_pos hj];exact⟨_,rfl⟩
 ·rw [if_neg hj,if_neg hj];exact⟨_,rfl⟩
theorem call_min2 (hc:X.calm=true):qby X (.builtin "min") (fun xs H Q=>∃i j,xs=[.int i,.int j]∧Q (.int (if j < i then j else i)) H):=by
 intro pins s σ H xs us Q I r h
 obtain⟨i,j,rfl,q⟩:=h
 obtain⟨u,w',rfl,⟨t,rfl⟩,⟨t',rfl⟩⟩:=vals2 r
 refine min_two_ints (I.ok.hd hc) fun h' tk k=>⟨_,H,I.kept k,?_,q⟩
 by_cases hj:j < i
 ·rw [if_pos hj,if_pos hj];exact⟨_,rfl⟩
 ·rw [if_neg hj,if_neg hj];exact⟨_,rfl⟩
end
structure ObjM (h:Heap) (x dx C:Addr) (mA:Str→Option Value):Prop where
 obj:h.get? x=some (instObj C dx)
 ns:h.Ns1 dx mA
 ne:dx≠x
theorem lookIn_ns {h:Heap} {dx:Addr} {mA:Str→Option Value} (n:h.Ns1 dx mA):∃od,h.get? dx=some od∧∀name,lookIn name od=some (mA name):=by
 obtain⟨o,es,ep,ho,hd,hk,_,hm⟩:=n
 refine⟨o,ho,fun name=>?_⟩
 have e:=hm name
 unfold nsFind findBy at e
 rw [←Array.find?_toList] at e
 unfold lookIn
 rw [hd]
 dsimp only
 split
 ·rename_i y q
  rw [q] at e
  exact congrArg some e
 ·rename_i q
  rw [q] at e
  have a:es.toList.any (·.refKey)=false:=by
   rw [List.any_eq_false]
   intro y hy
   obtain⟨z,t,hkey⟩:=hk y (Array.mem_toList_iff.mp hy)
   simp [DictEntry.refKey,hkey]
  have a':¬es.toList.any (·.refKey)=true:=by rw [a];exact Bool.false_ne_true
  rw [if_neg a']
  exact congrArg some e
theorem ObjM.look {h:Heap} {x dx C:Addr} {mA:Str→Option Value} (I:ObjM h x dx C mA):∃od,PySem.W.InstAt h x (instObj C dx) C (some od)∧∀name,lookIn name od=some (mA name):=
 let ⟨od,ho,hl⟩:=lookIn_ns I.ns
 ⟨od,⟨I.obj,rfl,rfl,ho⟩,hl⟩
section
variable {prog : Program} {w : World} {A : Around} {E : Value → Shared → Prop} {s : Shared} {K : Frag} {x dx C f : Addr} {mA : Str → Option Value} {name : Str} {v : Value}
theorem get_map {expr:Bool} {Q:Value→Shared→Prop} (X:K.In s.heap) (I:ObjM s.heap x dx C mA) (hg:plainGet K C name=true) (hh:hasDictIn K C=true)
  (ha:findIn K (.ref C) name=some none) (hv:mA name=some v) (hv':PySem.W.handedIn v=true) (h:Q v {s with toks:=s.toks+1}):
  wpAny (model prog w) A (getAttr (.ref x) name expr) Q E s:=by
 obtain⟨od,J,hl⟩:=I.look
 exact PySem.W.get_value X J (PySem.W.plainGet_of hg).1 (PySem.W.findObj_own hh ha rfl (by rw [hl,hv])) hv' h
theorem get_meth {pl:Sem Bool} {Q:Value × List Value→Shared→Prop} (X:K.In s.heap) (I:ObjM s.heap x dx C mA) (hg:plainGet K C name=true)
  (hf:findIn K (.ref C) name=some (some (.ref f))) (ht:isFn K (.ref f)=true) (hv:mA name=none) (h:Q (.ref f, [.ref x]) s):
  wpAny (model prog w) A (getMethod (.ref x) name pl) Q E s:=by
 obtain⟨od,J,hl⟩:=I.look
 exact PySem.W.method_fn X J (PySem.W.plainGet_of hg).1 (PySem.W.plainGet_of hg).2 hf (beq_iff_eq.mp ht) (by show (lookIn name od).map (·.isSome)=some false;rw [hl,hv];rfl) h
theorem set_map {ns:List Str} {Q:Unit→Shared→Prop} (X:K.In s.heap) (I:ObjM s.heap x dx C mA)
  (hs:findIn K (.ref C) "__setattr__" =some (some (.builtin "object.__setattr__"))) (hp:PySem.W.plainOver K C=true) (ht:PySem.W.takerIn K C name=some none) (hh:hasDictIn K C=true)
  (hw:PySem.Within mA ns) (hsz:ns.length≤sizeLine)
  (h:∀h',ObjM h' x dx C (fun y=>if y=name then some v else mA y)→Heap.SameBut dx s.heap h'→Q () {s with heap:=h',toks:=s.toks+2}):
  wpAny (model prog w) A (setAttr (.ref x) name v) Q E s:=by
 obtain⟨od,J,hl⟩:=I.look
 refine PySem.W.set_plain X J hs (PySem.W.osa_open (s:={s with toks:=s.toks+1}) (r:=none) X J hp ht fun b=>?_)
 obtain⟨cd,hc,hd'⟩:=PySem.W.any_some hh
 have hx:s.heap.get? x=some ⟨.ref C,some dx,.plain,#[]⟩:=I.obj
 refine wpAny_bind (wpAny_pure (wpAny_bind (wpAny_bind (wpAny_loadPart hx (wpAny_bind (PySem.W.Looks.here (s:={s with toks:=s.toks+1}) (PySem.W.looks_clsIn X hc) ?_))))))
 rw [hd']
 refine wpAny_pure (a:=some dx) (wpAny_bind (wpAny_pure (wpAny_bind ?_)))
 refine wpAny_nsSet1 (s:={s with toks:=s.toks+1}) I.ns fun h' hn2 hs2=>?_
 obtain⟨oD,esD,epD,hoD,hdD,hcD⟩:=hn2.count (PySem.Within.cons name v hw)
 refine wpAny_bind (wpAny_lookBehind hoD (by rw [hdD];exact pastItsLine_dict (Nat.le_trans hcD (by rw [zN];omega))) ?_)
 exact wpAny_pure (h _ ⟨(hs2.2 _ (Ne.symm I.ne)).trans I.obj,hn2,I.ne⟩ hs2)
theorem make_map {R:Result→Shared→Prop} {vs:List Value} {kw:List (Str × Value)} (X:K.In s.heap) (hm:PySem.W.makesIn K C=true)
  (hi:findIn K (.ref C) "__init__" =some (some (.ref f))) (hf:PySem.W.typeIn K (.ref f)=some (.type "function"))
  (h:codeAny (model prog w) (A.under (.builtin "type.__call__" ⟨.ref C :: vs,kw⟩)) (.call (.ref f) ⟨.ref (s.heap.objs.size+1) :: vs,kw⟩) (PySem.W.InitBack (s.heap.objs.size+1) R)
   {s with heap:=(s.heap.push emptyDict).push (instObj C s.heap.objs.size)}):
  codeAny (model prog w) A (.call (.ref C) ⟨vs,kw⟩) R s:=by
 obtain⟨hh,g,d,t,os⟩:=s
 exact PySem.W.make_core (PySem.W.makes_of X hm) (PySem.W.looks_findIn X hi) (fun self=>PySem.W.bind_fn X self hf) (.inl rfl) h
end
def qdr (f:Str) (v:V):List (Str × V)→List (Str × V)
 | []=> [(f,v)]
 |(g,x) :: r=>if g=f then (g,v) :: r else (g,x) :: qdr f v r
theorem qee (f g:Str) (v:V):∀fs:List (Str × V),(qdr f v fs).lookup g=if g=f then some v else fs.lookup g
 | []=>by
  show List.lookup g [(f,v)]=_
  by_cases h:g=f
  ·have hb:(g==f)=true:=beq_iff_eq.mpr h
   simp only [List.lookup,hb,if_pos h]
  ·have hb:(g==f)=false:=beq_eq_false_iff_ne.mpr h
   simp only [List.lookup,hb,if_neg h]
 |(k,x) :: r=>by
  have ih:=qee f g v r
  rw [show qdr f v ((k,x) :: r)=(if k=f then (k,v) :: r else (k,x) :: qdr f v r) from rfl]
  by_cases hk:k=f
  ·rw [if_pos hk]
   by_cases h:g=k
   ·have hb:(g==k)=true:=beq_iff_eq.mpr h
    simp only [List.lookup,hb,if_pos (h.trans hk)]
   ·have hb:(g==k)=false:=beq_eq_false_iff_ne.mpr h
    simp only [List.lookup,hb,if_neg (fun e:g=f=>h (e.trans hk.symm))]
  ·rw [if_neg hk]
   by_cases h:g=k
   ·have hb:(g==k)=true:=beq_iff_eq.mpr h
    simp only [List.lookup,hb,if_neg (fun e:g=f=>hk (h.symm.trans e))]
   ·have hb:(g==k)=false:=beq_eq_false_iff_ne.mpr h
    simp only [List.lookup,hb]
    exact ih
theorem qei (f:Str) (v:V):∀fs:List (Str × V),f∈(qdr f v fs).map (·.1)∧∀g,g∈fs.map (·.1)→g∈(qdr f v fs).map (·.1)
 | []=>⟨by simp [qdr],fun g h=>by simp at h⟩
 |(k,x) :: r=>by
  obtain⟨i1,i2⟩:=qei f v r
  rw [show qdr f v ((k,x) :: r)=(if k=f then (k,v) :: r else (k,x) :: qdr f v r) from rfl]
  by_cases hk:k=f
  ·rw [if_pos hk]
   subst hk
   exact⟨by simp,fun g h=>by simpa using h⟩
  ·rw [if_neg hk]
   refine⟨?_,fun g h=>?_⟩
   ·rw [zQ]
    exact zD _ i1
   ·rw [zQ] at h ⊢
    rcases zK.mp h with e|e
    ·exact zK.mpr (.inl e)
    ·exact zD _ (i2 g e)
theorem qeg (f:Str) (v:V):∀fs:List (Str × V),(qdr f v fs).length≤fs.length+1
 | []=>by simp [qdr]
 |(k,x) :: r=>by
  have ih:=qeg f v r
  rw [show qdr f v ((k,x) :: r)=(if k=f then (k,v) :: r else (k,x) :: qdr f v r) from rfl]
  by_cases hk:k=f
  ·rw [if_pos hk,zN,zN];omega
  ·rw [if_neg hk,zN,zN];omega
theorem RelO.some_of {v:V} {o:Option Value} (r:RelO (some v) o):∃u,o=some u∧qb1 v u:=by
 cases o with
 |none=>exact(show False from r).elim
 |some u=>exact⟨u,rfl,r⟩
theorem RelO.none_of {o:Option Value} (r:RelO none o):o=none:=by
 cases o with
 |none=>rfl
 |some u=>exact(show False from r).elim
theorem handed_of {v:V} {u:Value} (r:qb1 v u):PySem.W.handedIn u=true:=by
 cases v with
 |non=>cases (show u=Value.none from r);rfl
 |bl b=>cases (show u=Value.bool b from r);rfl
 |int i=>obtain⟨t,e⟩:=(show ∃t,u=Value.int i t from r);cases e;rfl
 |str x=>obtain⟨t,e⟩:=(show ∃t,u=Value.str x t from r);cases e;rfl
 |byt b=>obtain⟨t,e⟩:=(show ∃t,u=Value.bytes b t from r);cases e;rfl
 |flt b=>obtain⟨t,e⟩:=(show ∃t,u=Value.float b t from r);cases e;rfl
 |ref a=>cases (show u=Value.ref a from r);rfl
 |ty n=>cases (show u=Value.type n from r);rfl
section
variable {P : Program} {w : World} {H H' : Hp} {h h' : Heap} {a C dx : Addr} {fs fs' : List (Str × V)}
theorem qfm (hok:HOk P w H h) (e:H a=some (.ins C dx fs)):∃mA,ObjM h a dx C mA∧(∀f,RelO (fs.lookup f) (mA f))∧PySem.Within mA (fs.map (·.1))∧fs.length≤1000∧H dx=some (.own a):=by
 obtain⟨d,z,ne,ob,mA,n,r,q⟩:=(show qbd P w H h a (.ins C dx fs) from hok a _ e)
 exact⟨mA,⟨ob,n,ne⟩,r,q,z,d⟩
end
structure Cls (K:Frag) (C:Addr):Prop where
 pg:plainGet K C Str.empty=true
 hd:hasDictIn K C=true
 po:PySem.W.plainOver K C=true
 sa:findIn K (.ref C) "__setattr__" =some (some (.builtin "object.__setattr__"))
theorem Cls.get {K:Frag} {C:Addr} (c:Cls K C) (f:Str):plainGet K C f=true:=c.pg
def qaj (K:Frag) (C:Addr) (f:Str):Prop:=findIn K (.ref C) f=some none
theorem qaj.taker {K:Frag} {C:Addr} {f:Str} (n:qaj K C f):PySem.W.takerIn K C f=some none:=by
 unfold PySem.W.takerIn
 rw [show findIn K (.ref C) f=some none from n]
 rfl
structure Con (K:Frag) (C:Addr) (f:Str) (v:V) (u:Value):Prop where
 at_:findIn K (.ref C) f=some (some u)
 rel:qb1 v u
 get:specialIn K u "__get__" =some none
 cp:PySem.W.copiedNames.contains f=false
structure Meth (K:Frag) (C:Addr) (m:Str) (f:Addr):Prop where
 at_:findIn K (.ref C) m=some (some (.ref f))
 fn:isFn K (.ref f)=true
 kp:keepIn K (.ref f)=true
section
variable {X : Cx} {pins : List (Addr × Obj)} {σ : St} {H : Hp} {s : Shared} {a C dx : Addr} {fs : List (Str × V)} {f : Str} {v : V} {A : Around} {E : Value → Shared → Prop}
theorem qf0 {b:Bool} {Q:Value→Shared→Prop} (I:Inv X pins σ H s) (e:H a=some (.ins C dx fs)) (c:Cls X.K C) (n:qaj X.K C f) (l:fs.lookup f=some v)
  (h:∀u s',Inv X pins σ H s'→qb1 v u→Q u s'):wpAny (model X.prog X.w) A (getAttr (.ref a) f b) Q E s:=by
 obtain⟨mA,O,r,_,_,_⟩:=qfm I.hok e
 obtain⟨u,hu,ru⟩:=RelO.some_of (v:=v) (o:=mA f) (by rw [←l];exact r f)
 exact get_map I.kIn O (c.get f) c.hd n hu (handed_of ru) (h u _ (I.tok _) ru)
theorem qcz {m:Str} {g:Addr} {pl:Sem Bool} {Q:Value × List Value→Shared→Prop} (I:Inv X pins σ H s) (e:H a=some (.ins C dx fs)) (c:Cls X.K C) (k:Meth X.K C m g) (l:fs.lookup m=none)
  (h:Q (.ref g, [.ref a]) s):wpAny (model X.prog X.w) A (getMethod (.ref a) m pl) Q E s:=by
 obtain⟨mA,O,r,_,_,_⟩:=qfm I.hok e
 have hn:mA m=none:=RelO.none_of (by rw [←l];exact r m)
 exact get_meth I.kIn O (c.get m) k.at_ k.fn hn h
theorem qeu {y:V} {u:Value} {Q:Unit→Shared→Prop} (I:Inv X pins σ H s) (e:H a=some (.ins C dx fs)) (c:Cls X.K C) (n:qaj X.K C f) (hl:fs.length < 1000) (ry:qb1 y u)
  (h:∀s',Inv X pins σ (upd H a (.ins C dx (qdr f y fs))) s'→Q () s'):wpAny (model X.prog X.w) A (setAttr (.ref a) f u) Q E s:=by
 obtain⟨mA,O,r,wi,_,ho⟩:=qfm I.hok e
 have hz:(fs.map (·.1)).length≤sizeLine:=by rw [zB,sizeLine_eq];omega
 refine set_map I.kIn O c.sa c.po n.taker c.hd wi hz fun h' O' sb=>h _ ?_
 have hd:∃o,h'.get? dx=some o:=let ⟨o,_,_,e',_⟩:=O'.ns;⟨o,e'⟩
 refine I.write (x:=a) (e:=dx) (by rw [e];exact True.intro) (.inr ho) (fun b q hb z=>(sb.2 b hb).trans z) hd ?_
 refine⟨by rw [qa6 O.ne];exact ho,?_,O.ne,O'.obj,_,O'.ns,fun g=>?_,fun g hg=>?_⟩
 ·have:=qeg f y fs;omega
 ·show RelO ((qdr f y fs).lookup g) (if g=f then some u else mA g)
  rw [qee]
  by_cases q:g=f
  ·rw [if_pos q,if_pos q];exact ry
  ·rw [if_neg q,if_neg q];exact r g
 ·by_cases q:g=f
  ·rw [q];exact(qei f y fs).1
  ·refine(qei f y fs).2 g (wi g fun z=>hg ?_)
   show (if g=f then some u else mA g)=none
   rw [if_neg q];exact z
theorem Inv.made (I:Inv X pins σ H s):Inv X pins σ (upd (upd H s.heap.objs.size (.own (s.heap.objs.size+1))) (s.heap.objs.size+1) (.ins C s.heap.objs.size []))
  {s with heap:=(s.heap.push emptyDict).push (instObj C s.heap.objs.size)}:=by
 have e1:(s.heap.push emptyDict).get? s.heap.objs.size=some emptyDict:=Heap.get?_push_size s.heap rfl
 have e2:((s.heap.push emptyDict).push (instObj C s.heap.objs.size)).get? (s.heap.objs.size+1)=some (instObj C s.heap.objs.size):=by
  have:=Heap.get?_push_size (s.heap.push emptyDict) (o:=instObj C s.heap.objs.size) rfl
  rwa [Heap.size_push] at this
 have e3:(s.heap.push emptyDict).Ns s.heap.objs.size (fun _=>none):=⟨emptyDict,#[],_,e1,rfl,(fun e he=>absurd he (by simp)),fun _=>rfl⟩
 have I1:=I.laid (a:=s.heap.objs.size) (o:=.own (s.heap.objs.size+1)) (h':=s.heap.push emptyDict) (t':=s.toks) (fun b u q=>Heap.get?_push_of_some _ q) (Nat.le_refl _) ⟨_,e1⟩
 refine I1.laid (a:=s.heap.objs.size+1) (o:=.ins C s.heap.objs.size []) (t':=s.toks) (fun b u q=>Heap.get?_push_of_some _ q) (Nat.le_of_eq (Heap.size_push _ _)) ?_
 have ne:s.heap.objs.size≠s.heap.objs.size+1:=Nat.ne_of_lt (Nat.lt_succ_self _)
 refine⟨by rw [qa6 ne,qa3],Nat.zero_le _,ne,e2,fun _=>none,(Heap.Ns1.of_empty e3).at fun o q=>Heap.get?_push_of_some _ q,fun _=>True.intro,fun y hy=>absurd rfl hy⟩
theorem attr_of {prog:Program} {w:World} {env:Env} {e:Expr} {f:Str} {pos:Pos} {s:Shared} {Q:Value→Shared→Prop} (hb:attributeBase e f env (eval e env)=eval e env)
  (h:wpAny (model prog w) A (eval e env) (fun o s₁=>wpAny (model prog w) A (getAttr o f true) Q E s₁) E s):wpAny (model prog w) A (eval (.Attribute e f pos) env) Q E s:=
 Attribute_any_ h (by rw [arm_eval_Attribute,hb])
end
def tFld (K:Frag) (ta:TE) (f:Str):TE:=fun σ H Q=>ta σ H fun x H1=>∃a C dx fs v,x=.ref a∧H1 a=some (.ins C dx fs)∧Cls K C∧qaj K C f∧fs.lookup f=some v∧Q v H1
def sFld (K:Frag) (ta tv:TE) (f:Str):TS:=fun D σ H=>tv σ H fun y H1=>ta σ H1 fun x H2=>∃a C dx fs,x=.ref a∧H2 a=some (.ins C dx fs)∧Cls K C∧qaj K C f∧fs.length < 1000∧
 D.nx σ (upd H2 a (.ins C dx (qdr f y fs)))
def InOp (X:Cx) (op:Operator) (rd:V→V→Hp→VK→Prop):Prop:=
 ∀(pins:List (Addr × Obj)) (s:Shared) (σ:St) (H:Hp) (x y:V) (u v:Value) (Q:VK),Inv X pins σ H s→qb1 x u→qb1 y v→rd x y H Q→wpAny (model X.prog X.w) X.A (inplaceOp op u v) (EP X pins σ Q) X.xe s
def sFldAug (K:Frag) (ta tv:TE) (rd:V→V→Hp→VK→Prop) (f:Str):TS:=fun D σ H=>ta σ H fun x H1=>∃a C dx fs v,x=.ref a∧H1 a=some (.ins C dx fs)∧Cls K C∧qaj K C f∧fs.lookup f=some v∧
 tv σ H1 fun y H2=>rd v y H2 fun z H3=>∃dx' fs',H3 a=some (.ins C dx' fs')∧fs'.length < 1000∧D.nx σ (upd H3 a (.ins C dx' (qdr f z fs')))
section
variable {X : Cx} {o e value : Expr} {f : Str} {pos pos' tpos : Pos} {ta tv : TE}
theorem qao (he:PE X e ta) (hb:attributeBase e f X.env (eval e X.env)=eval e X.env):PE X (.Attribute e f pos) (tFld X.K ta f):=by
 intro pins s σ H Q I h
 refine attr_of hb (thn (he pins s σ H _ I h) fun u s1 ⟨x,H1,I1,rx,a,C,dx,fs,v,ex,ea,c,n,l,q⟩=>?_)
 subst ex
 obtain rfl:u=Value.ref a:=rx
 exact qf0 I1 ea c n l fun u' s2 I2 ru=>⟨v,H1,I2,ru,q⟩
theorem qc8 (ha:PE X o ta) (hv:PE X value tv) (hs:swapsWith value (some (.Attribute o f pos')) pos.line X.env=pure false):PS X (.Assign [.Attribute o f pos'] value pos) (sFld X.K ta tv f):=by
 intro pins s σ H D I h
 refine plainObj_wpAny_Assign_Attribute (thn (hv pins s σ H _ I h) fun u s1 ⟨y,H1,I1,ry,q⟩=>thn (ha pins s1 σ H1 _ I1 q) fun ov s2 ⟨x,H2,I2,rx,a,C,dx,fs,ex,ea,c,n,l,q2⟩=>?_) hs
 subst ex
 obtain rfl:ov=Value.ref a:=rx
 exact qeu I2 ea c n l ry fun s3 I3=>⟨σ,_,I3,q2⟩
theorem ps_fldaug {op:Operator} {rd:V→V→Hp→VK→Prop} (ha:PE X o ta) (hv:PE X value tv) (hop:InOp X op rd):PS X (.AugAssign (.Attribute o f tpos) op value pos) (sFldAug X.K ta tv rd f):=by
 intro pins s σ H D I h
 refine wpAny_AugAssign_AttributeAny (thn (ha pins s σ H _ I h) fun ov s1 ⟨x,H1,I1,rx,a,C,dx,fs,v,ex,ea,c,n,l,q⟩=>?_)
 subst ex
 obtain rfl:ov=Value.ref a:=rx
 refine qf0 I1 ea c n l fun u s2 I2 ru=>thn (hv pins s2 σ H1 _ I2 q) fun w3 s3 ⟨y,H2,I3,ry,q3⟩=>thn (hop pins s3 σ H2 v y u w3 _ I3 ru ry q3) fun w4 s4 ⟨z,H3,I4,rz,dx',fs',ea',l',q4⟩=>?_
 exact qeu I4 ea' c n l' rz fun s5 I5=>⟨σ,_,I5,q4⟩
def rAdd:V→V→Hp→VK→Prop:=fun x y H Q=>∃i j,x=.int i∧y=.int j∧Q (.int (i+j)) H
theorem in_add:InOp X .Add rAdd:=by
 rintro pins s σ H x y u v Q I rx ry ⟨i,j,rfl,rfl,q⟩
 obtain⟨t,rfl⟩:=(show ∃t,u=Value.int i t from rx)
 obtain⟨t',rfl⟩:=(show ∃t',v=Value.int j t' from ry)
 exact PyProof.Rows.iadd_int ⟨.int (i+j),H,I.tok _,⟨_,rfl⟩,q⟩
theorem methcall_of {pl:Sem Bool} {m:Str} {apos:Pos} {args:List Expr} {pins:List (Addr × Obj)} {s:Shared} {σ:St} {H:Hp} {Q:Value→Shared→Prop} {te:TE} (he:PE X e te) (I:Inv X pins σ H s)
  (h:te σ H fun x H1=>∃a C dx fs g,x=.ref a∧H1 a=some (.ins C dx fs)∧Cls X.K C∧Meth X.K C m g∧fs.lookup m=none∧
   ∀s1,Inv X pins σ H1 s1→wpAny (model X.prog X.w) X.A (callWith pos (.ref g) [.ref a] (backTo pos (starEach args X.env)) (backToKw pos (keywordEach [] X.env))) Q X.xe s1)
  (ht:eval (.Call (.Attribute e m apos) args [] pos) X.env=(do
   let ov←eval e X.env
   standAt apos.atName
   let (f,first)←holding [ov] (getMethod ov m pl)
   callWith pos f first (backTo pos (starEach args X.env)) (backToKw pos (keywordEach [] X.env)))):
  wpAny (model X.prog X.w) X.A (eval (.Call (.Attribute e m apos) args [] pos) X.env) Q X.xe s:=by
 refine PySem.W.methodCall_KW (pl:=pl) (thn (he pins s σ H _ I h) fun u s1 ⟨x,H1,I1,rx,a,C,dx,fs,g,ex,ea,c,k,l,q⟩=>?_) ht
 subst ex
 obtain rfl:u=Value.ref a:=rx
 exact qcz I1 ea c k l (q s1 I1)
end
section
variable {X : Cx} {pins : List (Addr × Obj)} {σ : St} {H : Hp} {s : Shared} {A : Around} {E : Value → Shared → Prop} {Q : Value → Shared → Prop} {c : Value} {b : Bool}
inductive TyOf (K:Frag) (H:Hp):V→Value→Prop where
 |non:TyOf K H .non (.type "NoneType")
 |bl (x:Bool):TyOf K H (.bl x) (.type "bool")
 |int (i:Int):TyOf K H (.int i) (.type "int")
 |str (x:Str):TyOf K H (.str x) (.type "str")
 |flt (x:UInt64):TyOf K H (.flt x) (.type "float")
 |lst {a:Addr} {xs:List V} (e:H a=some (.lst xs)):TyOf K H (.ref a) (.type "list")
 |frz {a:Addr} {o:Obj} {xs:List V} (e:H a=some (.frz o (.lst xs))):TyOf K H (.ref a) (.type "list")
 |tup {a:Addr} {xs:List V} (e:H a=some (.tup xs)):TyOf K H (.ref a) (.type "tuple")
 |dK {a:Addr} {kvs:List (Key × V)} (e:H a=some (.dK kvs)):TyOf K H (.ref a) (.type "dict")
 |dT {a:Addr} {kvs:List (List Key × V)} (e:H a=some (.dT kvs)):TyOf K H (.ref a) (.type "dict")
 |ins {a C dx:Addr} {fs:List (Str × V)} (e:H a=some (.ins C dx fs)) (cl:Cls K C) (ha:findIn K (.ref C) "__class__" =some (some (.builtin "object.__class__")))
   (hn:specialIn K (.builtin "object.__class__") "__get__" =some (some (.builtin "getset_descriptor.__get__"))) (htk:PySem.W.takesIn K (.builtin "object.__class__")=some true)
   (hm:mroIn K C (.type "object")=some true):TyOf K H (.ref a) (.ref C)
theorem isinst_ok {x:V} {u t:Value} (I:Inv X pins σ H s) (rx:qb1 x u) (ty:TyOf X.K H x t) (e:kitOne X.K t c=some b) (h:∀tk,Q (.bool b) {s with toks:=tk}):
  wpAny (model X.prog X.w) A (call (.builtin "isinstance") [u,c]) Q E s:=by
 cases ty with
 |non=>cases (show u=Value.none from rx);exact PySem.W.kia_one PySem.W.kitx_none I.kIn True.intro e (fun z=>nomatch z) h
 |bl y=>cases (show u=Value.bool y from rx);exact PySem.W.kia_one PySem.W.kitx_bool I.kIn True.intro e (fun z=>nomatch z) h
 |int i=>obtain⟨t,q⟩:=(show ∃t,u=Value.int i t from rx);cases q;exact PySem.W.kia_one PySem.W.kitx_int I.kIn True.intro e (fun z=>nomatch z) h
 |str y=>obtain⟨t,q⟩:=(show ∃t,u=Value.str y t from rx);cases q;exact PySem.W.kia_one PySem.W.kitx_str I.kIn True.intro e (fun z=>nomatch z) h
 |flt y=>obtain⟨t,q⟩:=(show ∃t,u=Value.float y t from rx);cases q;exact PySem.W.kia_one PySem.W.kitx_float I.kIn True.intro e (fun z=>nomatch z) h
 | @lst a xs ea=>
  cases (show u=Value.ref a from rx)
  obtain⟨_,_,n,_,h1⟩:=(show qbd X.prog X.w H s.heap a (.lst xs) from I.hok a _ ea)
  exact PySem.W.kia_one PySem.W.kitx_list I.kIn ⟨_,h1,rfl⟩ e (fun z=>nomatch z) h
 | @frz a ob xs ea=>
  cases (show u=Value.ref a from rx)
  obtain⟨_,_,_,n,_,h1⟩:=(show qbd X.prog X.w H s.heap a (.frz ob (.lst xs)) from I.hok a _ ea)
  exact PySem.W.kia_one PySem.W.kitx_list I.kIn ⟨_,h1,rfl⟩ e (fun z=>nomatch z) h
 | @tup a xs ea=>
  cases (show u=Value.ref a from rx)
  obtain⟨_,_,_,p⟩:=(show qbd X.prog X.w H s.heap a (.tup xs) from I.hok a _ ea)
  obtain⟨o,h1,h2,_⟩:=p
  exact PySem.W.kia_one PySem.W.kitx_tuple I.kIn ⟨o,h1,h2⟩ e (fun z=>nomatch z) h
 | @dK a kvs ea=>
  cases (show u=Value.ref a from rx)
  obtain⟨_,_,vs,_,p⟩:=(show qbd X.prog X.w H s.heap a (.dK kvs) from I.hok a _ ea)
  obtain⟨o,es,ep,h1,h2,_⟩:=p
  exact PySem.W.kia_one PySem.W.kitx_dict I.kIn ⟨o,h1,h2.1⟩ e (fun z=>nomatch z) h
 | @dT a kvs ea=>
  cases (show u=Value.ref a from rx)
  obtain⟨_,_,xs,_,o,es,ep,h1,h2,_⟩:=(show qbd X.prog X.w H s.heap a (.dT kvs) from I.hok a _ ea)
  exact PySem.W.kia_one PySem.W.kitx_dict I.kIn ⟨o,h1,h2.1⟩ e (fun z=>nomatch z) h
 | @ins a C dx fs ea cl ha hn htk hm=>
  cases (show u=Value.ref a from rx)
  obtain⟨mA,O,_⟩:=qfm I.hok ea
  obtain⟨od,J,_⟩:=O.look
  exact PySem.W.kia_one (PySem.W.kitx_own (cl.get _) cl.hd ha hn htk hm) I.kIn J e (fun z=>nomatch z) h
end
structure Room (k:Nat) (A:Around):Prop where
 hd:A.handled=none
 dp:A.depth+3*k+5 < recursionLimit
 un:A.units+16*k+200 < cLine
theorem Room.mono {j k:Nat} {A:Around} (r:Room k A) (h:j≤k):Room j A:=⟨r.hd,by have:=r.dp;omega,by have:=r.un;omega⟩
theorem Room.deeper {k:Nat} {A:Around} (r:Room (k+1) A) (env:Env):Room k (A.deeper env):=
 ⟨r.hd,by have:=r.dp;show A.depth+1+3*k+5 < _;omega,by have:=r.un;show A.units+3+16*k+200 < _;omega⟩
theorem make_depth {A:Around} {C:Addr} {us:List Value} {kw:List (Str × Value)}:(A.under (.builtin "type.__call__" ⟨.ref C :: us,kw⟩)).depth=A.depth+1:=by
 first|rfl|simp [Around.under,Code.weight,Code.isCreation,Code.isGuard,Code.isCaller,Code.frames,Code.isFrame,guardIds]
theorem make_units {A:Around} {C:Addr} {us:List Value} {kw:List (Str × Value)}:(A.under (.builtin "type.__call__" ⟨.ref C :: us,kw⟩)).units=A.units+1:=by
 first|rfl|simp [Around.under,Code.cUnits,Code.frames,Code.isFrame]
theorem Room.make {k:Nat} {A:Around} (r:Room (k+1) A) (C:Addr) (us:List Value) (kw:List (Str × Value)):Room k (A.under (.builtin "type.__call__" ⟨.ref C :: us,kw⟩)):=
 ⟨r.hd,by have:=r.dp;rw [make_depth];omega,by have:=r.un;rw [make_units];omega⟩
theorem Room.depth {k:Nat} {A:Around} (r:Room k A):A.depth < recursionLimit:=by have:=r.dp;omega
theorem Room.units {k:Nat} {A:Around} (r:Room k A):A.units+64 < cLine:=by have:=r.un;omega
def tNil:TA:=fun _ H Q=>Q [] H
def tCons (ta:TE) (tr:TA):TA:=fun σ H Q=>ta σ H fun x H1=>tr σ H1 fun xs H2=>Q (x :: xs) H2
section
variable {X : Cx} {e : Expr} {es : List Expr} {te : TE} {t : TA} {pos : Pos}
theorem qa1:PA X [] tNil:=fun _ _ _ _ H Q I h=>Calls.spliced_nil ⟨[],H,I,.nil,h⟩
theorem qa0 (ha:PE X e te) (hr:PA X es t) (hs:starEach (e :: es) X.env=(false,eval e X.env) :: starEach es X.env:=by rfl):PA X (e :: es) (tCons te t):=by
 intro pos pins s σ H Q I h
 rw [hs]
 show wpAny _ _ (spliced ((false,eval e X.env) :: backTo pos (starEach es X.env))) _ _ s
 refine Calls.spliced_cons (thn (ha pins s σ H _ I h) fun u s1 ⟨x,H1,I1,r1,q1⟩=>?_)
 exact thn (hr pos pins s1 σ H1 _ I1 q1) fun us s2 ⟨xs,H2,I2,r2,q2⟩=>⟨x :: xs,H2,I2,.cons r1 r2,q2⟩
def tTup (t:TA):TE:=fun σ H Q=>t σ H fun xs H1=>xs.length≤sizeLine∧∀p,H1 p=none→Q (.ref p) (upd H1 p (.tup xs))
def tLst (t:TA):TE:=fun σ H Q=>t σ H fun xs H1=>xs.length≤sizeLine∧∀p,H1 p=none→Q (.ref p) (upd H1 p (.lst xs))
theorem pe_tup {x1} (h:PA X es t):PE X (.Tuple es x1 pos) (tTup t):=by
 intro pins s σ H Q I hq
 refine wpAny_Tuple_spliced (thn (h pos pins s σ H _ I hq) fun us s1 ⟨xs,H1,I1,r,z,q⟩=>⟨by rw [←r.length];exact z,?_⟩)
 have hf:H1 s1.heap.objs.size=none:=I1.hok.fresh (Nat.le_refl _)
 refine⟨.ref s1.heap.objs.size,upd H1 s1.heap.objs.size (.tup xs),I1.laid (t':=s1.toks) (fun b u e=>Heap.get?_push_of_some _ e) (Nat.le_refl _) ?_,rfl,q _ hf⟩
 exact⟨z,us,r,⟨_,Heap.get?_push_size _ rfl,rfl,_,rfl⟩⟩
theorem qc3 (h:PA X es t):PE X (.List es pos) (tLst t):=by
 intro pins s σ H Q I hq
 refine wpAny_List_spliced (thn (h pos pins s σ H _ I hq) fun us s1 ⟨xs,H1,I1,r,z,q⟩=>⟨by rw [←r.length];exact z,?_⟩)
 have hf:H1 s1.heap.objs.size=none:=I1.hok.fresh (Nat.le_refl _)
 refine⟨.ref s1.heap.objs.size,upd H1 s1.heap.objs.size (.lst xs),I1.laid (t':=s1.toks) (fun b u e=>Heap.get?_push_of_some _ e) (Nat.le_refl _) ?_,rfl,q _ hf⟩
 exact⟨z,us,0,r,Heap.get?_push_size _ rfl⟩
end
abbrev Sp:=List V→Hp→VK→XK→Prop
abbrev CXT:=List Env→Hp→Shared→XK→Value→Shared→Prop
structure Env0 (P:Program) (w:World) (K:Frag) (mg:Str→Option Value) (base:Heap) (A:Around) (outer:List Env) (s:Shared) (H:Hp):Prop where
 frames:A.frames=some outer
 mod:Mod K mg base
 bs:∀b o,base.get? b=some o→s.heap.get? b=some o∧H b=none
 bsz:base.objs.size≤s.heap.objs.size
 funs:s.heap.FunFrames base outer
 frf:∀b∈frs outer,H b=none
 hok:HOk P w H s.heap
 bare:AllBare s.gens
def CE (outer:List Env) (P:Program) (w:World) (H:Hp) (s:Shared) (Q:VK) (u:Value) (s':Shared):Prop:=
 ∃v H',s'.os=s.os∧AllBare s'.gens∧Un (frs outer) [] H H' s.heap s'.heap∧HOk P w H' s'.heap∧qb1 v u∧Q v H'
def CR (CX:CXT) (outer:List Env) (P:Program) (w:World) (H:Hp) (s:Shared) (Q:VK) (E:XK) (r:Result) (s':Shared):Prop:=
 match r with
 | .ok (.ret u)=>CE outer P w H s Q u s'
 | .ok _=>False
 | .error e=>CX outer H s E e s'
structure FnOk (P:Program) (w:World) (K:Frag) (mg:Str→Option Value) (base:Heap) (CX:CXT) (k:Nat) (f:Addr) (fd:FuncData) (ps:List Str) (sp:Sp):Prop where
 len:∀vs H Q E,sp vs H Q E→vs.length=ps.length
 run:∀(A:Around) (outer:List Env) (s:Shared) (H:Hp) (args:Args) (us:List Value) (vs:List V) (Q:VK) (E:XK),Room k A→Env0 P w K mg base A outer s H→BindsTo s fd args (ps.zip us)→qb9 vs us→sp vs H Q E→
  codeAny (model P w) A (.call (.ref f) args) (CR CX outer P w H s Q E) s
theorem FnOk.mono {P:Program} {w:World} {K:Frag} {mg:Str→Option Value} {base:Heap} {CX:CXT} {j k:Nat} {f:Addr} {fd:FuncData} {ps:List Str} {sp:Sp} (F:FnOk P w K mg base CX j f fd ps sp) (h:j≤k):
  FnOk P w K mg base CX k f fd ps sp:=⟨F.len,fun A outer s H args us vs Q E hr=>F.run A outer s H args us vs Q E (hr.mono h)⟩
theorem FnOk.imp {P:Program} {w:World} {K:Frag} {mg:Str→Option Value} {base:Heap} {CX:CXT} {k:Nat} {f:Addr} {fd:FuncData} {ps:List Str} {sp sp':Sp} (F:FnOk P w K mg base CX k f fd ps sp)
  (h:∀vs H Q E,sp' vs H Q E→sp vs H Q E):FnOk P w K mg base CX k f fd ps sp':=
 ⟨fun vs H Q E q=>F.len vs H Q E (h _ _ _ _ q),fun A outer s H args us vs Q E hr he hb hv hs=>F.run A outer s H args us vs Q E hr he hb hv (h _ _ _ _ hs)⟩
theorem Env0.make {P:Program} {w:World} {K:Frag} {mg:Str→Option Value} {base:Heap} {A:Around} {outer:List Env} {s:Shared} {H:Hp} (e:Env0 P w K mg base A outer s H) (C:Addr) (us:List Value) (kw:List (Str × Value)):
  Env0 P w K mg base (A.under (.builtin "type.__call__" ⟨.ref C :: us,kw⟩)) outer s H:=⟨by first|exact e.frames|(simpa [Around.under,Code.envs,Code.isFrame,pushEnvs] using e.frames),e.mod,e.bs,e.bsz,e.funs,e.frf,e.hok,e.bare⟩
section
variable {X : Cx} {pins : List (Addr × Obj)} {σ : St} {H : Hp} {s s' : Shared}
theorem Inv.env0 (I:Inv X pins σ H s):Env0 X.prog X.w X.K X.mg X.base X.A X.stack s H:=
 ⟨I.ok.frames,I.ok.mod,I.bs,Nat.le_trans I.ok.bsz I.sz,I.stack,I.stkFree,I.hok,I.bare⟩
theorem Inv.after {Q:VK} {u:Value} (I:Inv X pins σ H s) (h:CE X.stack X.prog X.w H s Q u s'):EP X pins σ Q u s':=by
 obtain⟨v,H',os,bare,un,hok,r,q⟩:=h
 obtain⟨hh,g,d,t,os'⟩:=s'
 obtain rfl:os'=s.os:=os
 exact⟨v,H',I.call (h':=hh) (g':=g) (d':=d) (t':=t) (ch:=[]) un hok bare (fun b z=>absurd z (by simp)),r,q⟩
end
def tCall (sp:Sp) (dvs:List V) (E:XK) (t:TA):TE:=fun σ H Q=>t σ H fun vs H1=>sp (vs++dvs) H1 Q E
def tMeth (C:Addr) (m:Str) (sp:Sp) (dvs:List V) (E:XK) (ta:TE) (t:TA):TE:=fun σ H Q=>ta σ H fun x H1=>∃a dx fs,x=.ref a∧H1 a=some (.ins C dx fs)∧fs.lookup m=none∧
 t σ H1 fun vs H2=>sp (x ::(vs++dvs)) H2 Q E
def tMake (C:Addr) (sp:Sp) (dvs:List V) (E:XK) (t:TA):TE:=fun σ H Q=>t σ H fun vs H1=>∀x dx,H1 x=none→H1 dx=none→dx≠x→
 sp (.ref x ::(vs++dvs)) (upd (upd H1 dx (.own x)) x (.ins C dx [])) (fun v H2=>v=.non∧Q (.ref x) H2) E
def qah (K:Frag) (fd:FuncData) (ps:List Str) (ds:List Value):Prop:=
 ∀(s:Shared) (us:List Value),K.In s.heap→(us++ds).length=ps.length→BindsTo s fd ⟨us, []⟩ (ps.zip (us++ds))
theorem qah.all {K:Frag} {fd:FuncData} {ps:List Str} (h:∀us:List Value,us.length=ps.length→bindArgs fd ⟨us, []⟩=pure (ps.zip us)):qah K fd ps []:=fun s us _ hl=>by
 rw [yD] at hl ⊢
 exact .of_eq (h us hl)
def qeq (CX:CXT) (X:Cx) (E:XK):Prop:=∀(pins:List (Addr × Obj)) (σ:St) (H:Hp) (s:Shared) (e:Value) (s':Shared),Inv X pins σ H s→CX X.stack H s E e s'→X.xe e s'
section
variable {X : Cx} {CX : CXT} {k : Nat} {f C : Addr} {fd : FuncData} {ps : List Str} {sp : Sp} {dvs : List V} {ds : List Value} {E : XK} {x m : Str} {p pos apos : Pos} {e o : Expr} {es : List Expr} {ta : TE} {t : TA}
theorem run_fn {pins:List (Addr × Obj)} {σ:St} {H:Hp} {s:Shared} {Q:VK} {us:List Value} {vs:List V} (F:FnOk X.prog X.w X.K X.mg X.base CX k f fd ps sp) (hr:Room k X.A) (hb:qah X.K fd ps ds) (hd:qb9 dvs ds) (hx:qeq CX X E)
  (I:Inv X pins σ H s) (r:qb9 vs us) (h:sp (vs++dvs) H Q E):wpAny (model X.prog X.w) X.A (call (.ref f) us) (EP X pins σ Q) X.xe s:=by
 have r2:qb9 (vs++dvs) (us++ds):=r.append hd
 have hl:(us++ds).length=ps.length:=by rw [←r2.length];exact F.len _ _ _ _ h
 refine wpAny_call (codeAny_mono (F.run X.A X.stack s H ⟨us, []⟩ (us++ds) (vs++dvs) Q E hr I.env0 (hb s us I.kIn hl) r2 h) fun r s' hq=>?_)
 cases r with
 |error e=>exact hx pins σ H s e s' I hq
 |ok fl=>
  cases fl with
  |ret u=>exact I.after hq
  |next=>exact False.elim hq
  |brk=>exact False.elim hq
  |cont=>exact False.elim hq
theorem qaa (F:FnOk X.prog X.w X.K X.mg X.base CX k f fd ps sp) (hr:Room k X.A) (hg:Gl X x) (hm:X.mg x=some (.ref f)) (hk:keepIn X.K (.ref f)=true) (hb:qah X.K fd ps ds) (hd:qb9 dvs ds) (hx:qeq CX X E)
  (ha:PA X (e :: es) t) (hdb:(x==("__debug__" :Str))=false:=by decide) (he:starEach (e :: es) X.env=(false,eval e X.env) :: starEach es X.env:=by rfl) (hpl:(backTo pos (starEach es X.env)).any (·.1)=false:=by rfl):
  PE X (.Call (.Name x p) (e :: es) [] pos) (tCall sp dvs E t):=by
 intro pins s σ H Q I h
 refine wpAny_Call_Name_kw (qd7 I hg hm ?_ hdb)
 refine PySem.W.callWith_K (h₀:=X.base) I.ok.mod.kin hk (thn (ha pos pins s σ H _ I h) fun us s1 ⟨vs,H1,I1,r,q⟩=>⟨I1.kIn,?_⟩) he hpl
 exact run_fn F hr hb hd hx I1 r q
theorem qcc {pl:Sem Bool} (he:PE X o ta) (c:Cls X.K C) (hm:Meth X.K C m f) (F:FnOk X.prog X.w X.K X.mg X.base CX k f fd ps sp) (hr:Room k X.A) (hb:qah X.K fd ps ds) (hd:qb9 dvs ds) (hx:qeq CX X E) (ha:PA X (e :: es) t)
  (hst:starEach (e :: es) X.env=(false,eval e X.env) :: starEach es X.env:=by rfl) (hpl:(backTo pos (starEach es X.env)).any (·.1)=false:=by rfl)
  (ht:eval (.Call (.Attribute o m apos) (e :: es) [] pos) X.env=(do
   let ov←eval o X.env
   standAt apos.atName
   let (f,first)←holding [ov] (getMethod ov m pl)
   callWith pos f first (backTo pos (starEach (e :: es) X.env)) (backToKw pos (keywordEach [] X.env))):=by rfl):
  PE X (.Call (.Attribute o m apos) (e :: es) [] pos) (tMeth C m sp dvs E ta t):=by
 intro pins s σ H Q I h
 refine PySem.W.methodCall_KW (pl:=pl) (thn (he pins s σ H _ I h) fun u s1 ⟨x,H1,I1,rx,a,dx,fs,ex,ea,l,q⟩=>?_) ht
 subst ex
 obtain rfl:u=Value.ref a:=rx
 refine qcz I1 ea c hm l ?_
 refine PySem.W.callWith_K (first:=[.ref a]) (h₀:=X.base) I.ok.mod.kin hm.kp (thn (ha pos pins s1 σ H1 _ I1 q) fun us s2 ⟨vs,H2,I2,r,q2⟩=>⟨I2.kIn,?_⟩) hst hpl
 exact run_fn (us:=.ref a :: us) (vs:=.ref a :: vs) F hr hb hd hx I2 (.cons rfl r) q2
theorem qdc {pl:Sem Bool} (he:PE X o ta) (c:Cls X.K C) (hm:Meth X.K C m f) (F:FnOk X.prog X.w X.K X.mg X.base CX k f fd ps sp) (hr:Room k X.A) (hb:qah X.K fd ps ds) (hd:qb9 dvs ds) (hx:qeq CX X E)
  (ht:eval (.Call (.Attribute o m apos) [] [] pos) X.env=(do
   let ov←eval o X.env
   standAt apos.atName
   let (f,first)←holding [ov] (getMethod ov m pl)
   callWith pos f first (backTo pos (starEach [] X.env)) (backToKw pos (keywordEach [] X.env))):=by rfl):
  PE X (.Call (.Attribute o m apos) [] [] pos) (tMeth C m sp dvs E ta tNil):=by
 intro pins s σ H Q I h
 refine PySem.W.methodCall_KW (pl:=pl) (thn (he pins s σ H _ I h) fun u s1 ⟨x,H1,I1,rx,a,dx,fs,ex,ea,l,q⟩=>?_) ht
 subst ex
 obtain rfl:u=Value.ref a:=rx
 refine qcz I1 ea c hm l ?_
 exact PySem.W.callWith_K0 (first:=[.ref a]) I1.kIn hm.kp (run_fn (us:=[.ref a]) (vs:=[.ref a]) F hr hb hd hx I1 (.cons rfl .nil) q)
structure Mk (K:Frag) (C f:Addr):Prop where
 makes:PySem.W.makesIn K C=true
 init:findIn K (.ref C) "__init__" =some (some (.ref f))
 fn:isFn K (.ref f)=true
 kp:keepIn K (.ref C)=true
theorem run_make {pins:List (Addr × Obj)} {σ:St} {H:Hp} {s:Shared} {Q:VK} {us:List Value} {vs:List V} (M:Mk X.K C f) (F:FnOk X.prog X.w X.K X.mg X.base CX k f fd ps sp) (hr:Room (k+1) X.A) (hb:qah X.K fd ps ds) (hd:qb9 dvs ds)
  (hx:qeq CX X E) (I:Inv X pins σ H s) (r:qb9 vs us)
  (h:∀x dx,H x=none→H dx=none→dx≠x→sp (.ref x ::(vs++dvs)) (upd (upd H dx (.own x)) x (.ins C dx [])) (fun v H2=>v=.non∧Q (.ref x) H2) E):
  wpAny (model X.prog X.w) X.A (call (.ref C) us) (EP X pins σ Q) X.xe s:=by
 have hq:=h (s.heap.objs.size+1) s.heap.objs.size (I.hok.fresh (Nat.le_succ _)) (I.hok.fresh (Nat.le_refl _)) (Nat.ne_of_lt (Nat.lt_succ_self _))
 have I2:=Inv.made (C:=C) I
 have r2:qb9 (V.ref (s.heap.objs.size+1) ::(vs++dvs)) (Value.ref (s.heap.objs.size+1) ::(us++ds)):=.cons rfl (r.append hd)
 have hl:(Value.ref (s.heap.objs.size+1) :: us++ds).length=ps.length:=by
  have e:=r2.length
  rw [F.len _ _ _ _ hq] at e
  exact e.symm
 refine wpAny_call (make_map (f:=f) I.kIn M.makes M.init (beq_iff_eq.mp M.fn) (codeAny_mono (F.run _ X.stack _ _ ⟨Value.ref (s.heap.objs.size+1) :: us, []⟩ (Value.ref (s.heap.objs.size+1) ::(us++ds)) _ _ E (hr.make C us [])
  (I2.env0.make C us []) (hb _ (Value.ref (s.heap.objs.size+1) :: us) I2.kIn hl) r2 hq) fun r s' hq'=>?_))
 cases r with
 |error e=>exact hx pins σ _ _ e s' I2 hq'
 |ok fl=>
  cases fl with
  |ret u=>
   obtain⟨v,H',I3,rv,ev,q3⟩:=I2.after hq'
   subst ev
   exact⟨rv,⟨V.ref (s.heap.objs.size+1),H',I3,rfl,q3⟩⟩
  |next=>exact False.elim hq'
  |brk=>exact False.elim hq'
  |cont=>exact False.elim hq'
theorem qfh (M:Mk X.K C f) (F:FnOk X.prog X.w X.K X.mg X.base CX k f fd ps sp) (hr:Room (k+1) X.A) (hg:Gl X x) (hm:X.mg x=some (.ref C)) (hb:qah X.K fd ps ds) (hd:qb9 dvs ds) (hx:qeq CX X E)
  (ha:PA X (e :: es) t) (hdb:(x==("__debug__" :Str))=false:=by decide) (he:starEach (e :: es) X.env=(false,eval e X.env) :: starEach es X.env:=by rfl) (hpl:(backTo pos (starEach es X.env)).any (·.1)=false:=by rfl):
  PE X (.Call (.Name x p) (e :: es) [] pos) (tMake C sp dvs E t):=by
 intro pins s σ H Q I h
 refine wpAny_Call_Name_kw (qd7 I hg hm ?_ hdb)
 refine PySem.W.callWith_K (h₀:=X.base) I.ok.mod.kin M.kp (thn (ha pos pins s σ H _ I h) fun us s1 ⟨vs,H1,I1,r,q⟩=>⟨I1.kIn,?_⟩) he hpl
 exact run_make M F hr hb hd hx I1 r q
end
section
variable {X : Cx} {CX : CXT} {k : Nat} {f C : Addr} {fd : FuncData} {ps ks : List Str} {sp : Sp} {E : XK} {x m : Str} {p pos apos kpos : Pos} {e o : Expr} {es : List Expr} {kws : List Keyword} {te ta : TE} {t tk : TA} {nm : Option Str}
structure KBinds (K:Frag) (fd:FuncData) (ps ks:List Str) (g:List Value→List Value→List Value) (gV:List V→List V→List V):Prop where
 to:∀(s:Shared) (us ws:List Value),K.In s.heap→(g us ws).length=ps.length→BindsTo s fd ⟨us,ks.zip ws⟩ (ps.zip (g us ws))
 rel:∀{vs:List V} {us:List Value} {zs:List V} {ws:List Value},qb9 vs us→qb9 zs ws→qb9 (gV vs zs) (g us ws)
variable {g : List Value → List Value → List Value} {gV : List V → List V → List V}
end
structure FnScope (N P:List Str) (sc:Scope):Prop where
 kind:sc.kind=.function
 co:sc.isCoroutine=false
 gen:sc.isGenerator=false
 nd:N.Nodup
 pre:N.take P.length=P
 par:∀x∈P,sc.names.lookup x=some .local∨sc.names.lookup x=some .cell
 nofree:∀y∈sc.names,y.2≠ .free
theorem bindL_out {kindOf:Str→Option NameKind} {x:Str}:∀{binds:List (Str × Value)} {m:Str→Option Value},(∀v,(x,v)∉binds)→bindL kindOf binds m x=m x
 | [],_,_=>rfl
 |(n,v) :: r,m,h=>by
  unfold bindL
  rw [bindL_out fun w hw=>h w (zD _ hw)]
  split
  ·have:x≠n:=by rintro rfl;exact h v zH
   simp [this]
  ·rfl
theorem bindC_out {kindOf:Str→Option NameKind} {x:Str}:∀{binds:List (Str × Value)} {m:Str→Option Value},(∀v,(x,v)∉binds)→bindC kindOf binds m x=m x
 | [],_,_=>rfl
 |(n,v) :: r,m,h=>by
  unfold bindC
  rw [bindC_out fun w hw=>h w (zD _ hw)]
  split
  ·rfl
  ·have:x≠n:=by rintro rfl;exact h v zH
   simp [this]
theorem bindL_get {kindOf:Str→Option NameKind} {x:Str} {v:Value}:∀{P:List Str} {vs:List Value} {i:Nat} {m:Str→Option Value},P.Nodup→P[i]?=some x→vs[i]?=some v→kindOf x=some .local→
  bindL kindOf (P.zip vs) m x=some v
 | [],_,_,_,_,h,_,_=>by simp at h
 |_ :: _, [],_,_,_,_,h,_=>by simp at h
 |p :: P,w :: vs,0,m,nd,h1,h2,hk=>by
  simp at h1 h2;subst h1;subst h2
  show bindL kindOf ((p,w) :: P.zip vs) m p=_
  unfold bindL
  rw [bindL_out fun v hv=>(zX.mp nd).1 (List.of_mem_zip hv).1,if_pos hk]
  simp
 |p :: P,w :: vs,i+1,m,nd,h1,h2,hk=>by
  show bindL kindOf ((p,w) :: P.zip vs) m x=_
  unfold bindL
  exact bindL_get (i:=i) (zX.mp nd).2 (by simpa using h1) (by simpa using h2) hk
theorem bindC_get {kindOf:Str→Option NameKind} {x:Str} {v:Value}:∀{P:List Str} {vs:List Value} {i:Nat} {m:Str→Option Value},P.Nodup→P[i]?=some x→vs[i]?=some v→kindOf x≠some .local→
  bindC kindOf (P.zip vs) m x=some v
 | [],_,_,_,_,h,_,_=>by simp at h
 |_ :: _, [],_,_,_,_,h,_=>by simp at h
 |p :: P,w :: vs,0,m,nd,h1,h2,hk=>by
  simp at h1 h2;subst h1;subst h2
  show bindC kindOf ((p,w) :: P.zip vs) m p=_
  unfold bindC
  rw [bindC_out fun v hv=>(zX.mp nd).1 (List.of_mem_zip hv).1,if_neg hk]
  simp
 |p :: P,w :: vs,i+1,m,nd,h1,h2,hk=>by
  show bindC kindOf ((p,w) :: P.zip vs) m x=_
  unfold bindC
  exact bindC_get (i:=i) (zX.mp nd).2 (by simpa using h1) (by simpa using h2) hk
def start (N:List Str) (vs:List V):St:=vs.map some++List.replicate (N.length - vs.length) none
def cxOf (CX:CXT) (P:Program) (w:World) (K:Frag) (mg:Str→Option Value) (base:Heap) (N:List Str) (qual:Str) (scope:Scope) (f:Addr) (cd:Value) (A:Around) (outer:List Env) (s:Shared) (H:Hp) (E:XK):Cx where
 prog:=P
 w:=w
 K:=K
 mg:=mg
 base:=base
 A:=A.deeper (envOfC qual scope s.heap.objs.size f cd)
 N:=N
 s₀:=s
 H₀:=H
 env:=envOfC qual scope s.heap.objs.size f cd
 outer:=outer
 stack:=envOfC qual scope s.heap.objs.size f cd :: outer
 ex:=[]
 calm:=true
 fn:=fun _=>true
 pn:=[]
 xe:=fun e s'=>wpAny (model P w) (A.deeper (envOfC qual scope s.heap.objs.size f cd)) (leaving (envOfC qual scope s.heap.objs.size f cd) e) (fun _ s''=>CX outer H s E e s'') (fun e' s''=>CX outer H s E e' s'') s'
theorem cell_has {sc:Scope} {n:Nat} {x:Str} (h:sc.names.lookup x=some .cell):∃c,(cellsFrom n sc.names []).lookup x=some c:=by
 have q:=PySem.W.cellsFrom_some sc.names n [] (.inl h)
 exact Option.isSome_iff_exists.mp q
theorem inv_start {CX:CXT} {P:Program} {w:World} {K:Frag} {mg:Str→Option Value} {base:Heap} {N ps:List Str} {qual:Str} {scope:Scope} {f:Addr} {cd:Value} {A:Around} {outer:List Env} {s s1:Shared} {H:Hp} {E:XK} {us:List Value} {vs:List V}
  (S:FnScope N ps scope) (hd:A.handled=none) (e0:Env0 P w K mg base A outer s H) (hl:vs.length=ps.length) (r:qb9 vs us)
  (x:InCallC s s.heap.objs.size (bindL (envOfC qual scope s.heap.objs.size f cd).kindOf (ps.zip us) fun _=>none) (cellsFrom (s.heap.objs.size+1) scope.names []) (bindC (envOfC qual scope s.heap.objs.size f cd).kindOf (ps.zip us) fun _=>none) s1):
  Inv (cxOf CX P w K mg base N qual scope f cd A outer s H E) [] (start N vs) H s1:=by
 have hpl:ps.length≤N.length:=by have:=congrArg List.length S.pre;rw [yB] at this;omega
 obtain⟨h1,tk,rfl,hk⟩:=x.done
 have noA:∀b:Addr,b∉(cxOf CX P w K mg base N qual scope f cd A outer s H E).ex:=fun b z=>absurd (show b∈([]:List Addr) from z) (by simp)
 refine⟨⟨e0.mod,S.kind,rfl,rfl,Nat.le_refl _,fun y z c h1 h2=>?_,fun y hy=>?_,fun y c _ h=>?_,fun _=>hd,Around.frames_deeper e0.frames,.inr ⟨rfl,rfl⟩,fun b z=>absurd z (noA b),e0.bs,e0.bsz,fun b _ _=>noA b,fun b z=>absurd z (noA b),e0.funs,e0.frf⟩,
  rfl,e0.bare,Un.kept hk,⟨_,x.toInCall.ns,fun i y v h1 h2 h3=>?_⟩,fun y c h=>⟨_,x.cell y c h⟩,e0.hok.fresh (Nat.le_refl _),fun y c h=>?_,fun p hp=>absurd (show p∈([]:List (Addr × Obj)) from hp) (by simp),e0.hok.kept hk,?_⟩
 ·exact name_of_addr x.apart (PySem.mem_of_lookup h1) (PySem.mem_of_lookup h2)
 ·have hy:scope.names.lookup y=some .cell∨scope.names.lookup y=some .free:=hy
  rcases hy with hy|hy
  ·exact cell_has hy
  ·exact absurd rfl (S.nofree _ (PySem.mem_of_lookup hy))
 ·exact Nat.le_of_lt (x.above y c (PySem.mem_of_lookup h))
 ·have hi:i < vs.length:=by
   unfold start at h2
   by_cases hi:i < vs.length
   ·exact hi
   ·rw [zO (by simpa using hi)] at h2
    rw [List.getElem?_replicate] at h2
    split at h2 <;> cases h2
  have ha:vs[i]?=some v:=by
   unfold start at h2
   rw [zT (by simpa using hi),zC] at h2
   cases e:vs[i]? with
   |none=>rw [e] at h2;cases h2
   |some a=>rw [e] at h2;cases h2;rfl
  obtain⟨u,hu,rv⟩:=r.get ha
  have hp:ps[i]?=some y:=by
   rw [←S.pre,List.getElem?_take_of_lt (by omega)];exact h1
  have ndP:ps.Nodup:=by rw [←S.pre];exact S.nd.sublist (List.take_sublist _ _)
  refine⟨u,rv,?_⟩
  rcases S.par y (zG hp) with k|k
  ·exact .inl ⟨k,bindL_get ndP hp hu k⟩
  ·obtain⟨c,e⟩:=cell_has (n:=s.heap.objs.size+1) k
   refine .inr ⟨.inl k,c,e,?_⟩
   have q:=x.cell y c e
   rw [bindC_get ndP hp hu (by show scope.names.lookup y≠_;rw [k];decide)] at q
   exact q
 ·exact e0.hok.fresh (Nat.le_of_lt (x.above y c (PySem.mem_of_lookup h)))
 ·unfold start
  show _=N.length
  rw [zF,zB,List.length_replicate]
  omega
theorem fn_of {CX:CXT} {P:Program} {w:World} {K:Frag} {mg:Str→Option Value} {base:Heap} {k:Nat} {f:Addr} {name qual:Str} {params:Arguments} {body:List Stmt} {scope:Scope} {dV kV doc pm cdv ct oc:Value} {an od:Option Addr}
  {osl:Array (Option Value)} {N ps:List Str} {sp:Sp} (lk:K.lookup f=some ⟨oc,od,.func (fnOf name qual params body scope dV kV doc pm an cdv ct),osl⟩) (hcd:codeIn K cdv qual=true) (S:FnScope N ps scope)
  (len:∀vs H Q E,sp vs H Q E→vs.length=ps.length)
  (hbody:∀(A:Around) (outer:List Env) (s:Shared) (H:Hp) (vs:List V) (Q:VK) (E:XK),Room k (A.deeper (envOfC qual scope s.heap.objs.size f cdv))→sp vs H Q E→
   ∃t,PSs (cxOf CX P w K mg base N qual scope f cdv A outer s H E) body t∧t {nx:=fun _ H'=>Q .non H',rt:=Q} (start N vs) H):
  FnOk P w K mg base CX (k+1) f (fnOf name qual params body scope dV kV doc pm an cdv ct) ps sp:=by
 refine⟨len,fun A outer s H args us vs Q E hr e0 hb r hsp=>?_⟩
 have hl:=len _ _ _ _ hsp
 have KX:K.In s.heap:=e0.mod.kin.keeps fun b o e=>(e0.bs b o e).1
 have lim:s.heap.NoLimit:=e0.mod.nolimit.keeps fun b o e=>(e0.bs b o e).1
 have hkind:∀y∈ps.zip us,scope.names.lookup y.1=some .local∨(scope.names.lookup y.1=some .cell∧((cellsFrom (s.heap.objs.size+1) scope.names []).lookup y.1).isSome=true):=fun⟨n,v⟩ hy=>by
  rcases S.par n (List.of_mem_zip hy).1 with q|q
  ·exact .inl q
  ·exact .inr ⟨q,PySem.W.cellsFrom_some _ _ _ (.inl q)⟩
 refine codeAny_call_function hr.depth (KX _ _ lk) rfl S.co S.gen rfl (PySem.W.codeRec_of KX hcd) (hb _ _ _ _ ?_)
 refine wpAny_newFunctionEnv_cells S.kind hkind fun env he s1 x=>?_
 subst he
 refine⟨lim.keeps x.toInCall.keep,codeAny_func ?_⟩
 obtain⟨t,ht,hq⟩:=hbody A outer s H vs Q E (hr.deeper _) hsp
 have I:Inv (cxOf CX P w K mg base N qual scope f cdv A outer s H E) [] (start N vs) H s1:=inv_start S hr.hd e0 hl r x
 refine wpAny_mono (ht [] s1 (start N vs) H _ I hq) (fun fl s' hs=>?_) fun e s' hs=>hs
 have fin:∀{σ':St} {H':Hp} {v:V} {u:Value},Inv (cxOf CX P w K mg base N qual scope f cdv A outer s H E) [] σ' H' s'→qb1 v u→Q v H'→CE outer P w H s Q u s':=
  fun {σ' H' v u} J rv q=>⟨v,H',J.os,J.bare,J.base,J.hok,rv,q⟩
 cases fl with
 |ret u=>
  obtain⟨v,σ',H',J,rv,q⟩:=hs
  exact fin J rv q
 |next=>
  obtain⟨σ',H',J,q⟩:=hs
  exact fin (v:=V.non) (u:=Value.none) J rfl q
 |brk=>
  obtain⟨_,_,_,q⟩:=hs
  exact False.elim q
 |cont=>
  obtain⟨_,_,_,q⟩:=hs
  exact False.elim q
section
variable {X : Cx} {x : Str} {p pos : Pos} {e : Expr} {es : List Expr} {t : TA} {id T : String} {r : List V → Hp → VK → Prop}
def tCB (r:List V→Hp→VK→Prop) (t:TA):TE:=fun σ H Q=>t σ H fun vs H1=>r vs H1 Q
theorem qad (hc:qby X (.builtin id) r) (hg:Gl X x) (hm:X.mg x=none) (hv:bootBuiltins x=some (.builtin id)) (ha:PA X (e :: es) t) (hn:x≠"__name__":=by decide) (hdb:(x==("__debug__" :Str))=false:=by decide)
  (he:starEach (e :: es) X.env=(false,eval e X.env) :: starEach es X.env:=by rfl) (hpl:(backTo pos (starEach es X.env)).any (·.1)=false:=by rfl):PE X (.Call (.Name x p) (e :: es) [] pos) (tCB r t):=by
 intro pins s σ H Q I h
 refine wpAny_Call_Name_kw (qeh I hg hm hv ?_ hn hdb)
 exact PyProof.Rows.callWith_builtin1 (thn (ha pos pins s σ H _ I h) fun us s1 ⟨vs,H1,I1,r1,q1⟩=>hc pins s1 σ H1 vs us Q I1 r1 q1) he hpl
theorem qbw (hc:qby X (.type T) r) (hg:Gl X x) (hm:X.mg x=none) (hv:bootBuiltins x=some (.type T)) (ha:PA X (e :: es) t) (hn:x≠"__name__":=by decide) (hdb:(x==("__debug__" :Str))=false:=by decide)
  (he:starEach (e :: es) X.env=(false,eval e X.env) :: starEach es X.env:=by rfl) (hpl:(backTo pos (starEach es X.env)).any (·.1)=false:=by rfl):PE X (.Call (.Name x p) (e :: es) [] pos) (tCB r t):=by
 intro pins s σ H Q I h
 refine wpAny_Call_Name_kw (qeh I hg hm hv ?_ hn hdb)
 exact PyProof.Rows.callWith_type1 (thn (ha pos pins s σ H _ I h) fun us s1 ⟨vs,H1,I1,r1,q1⟩=>hc pins s1 σ H1 vs us Q I1 r1 q1) he hpl
end
end L2
namespace HT
open PySem PyProof.Rows
section
open PySem.SeqAt
open PySem.AutoSeq1 (wpAny_loadPart')
open PySem.MeetsSeq PySem.MeetsSeq2 PySem.MeetsSeq3
end
section
variable {prog : Program} {w : World} {A : Around} {E : Value → Shared → Prop} {s : Shared}
end
end HT
namespace L2
open PySem PySem.Spec PyProof.Rows
abbrev TO:=St→Hp→(Option Int→Hp→Prop)→Prop
section
variable {X : Cx} {e : Expr} {te : TE} {lo hi : Option Expr} {tl th : TO} {pos p2 : Pos}
end
def ixN (n:Nat) (i:Int):Option Nat:=if 0≤i then (if i < n then some i.toNat else none) else if -(n:Int)≤i then some (i+n).toNat else none
def atI {α:Type} (xs:List α) (i:Int):Option α:=(ixN xs.length i).bind fun j=>xs[j]?
theorem ixN_seq {n:Nat} {i:Int} {j:Nat} (h:ixN n i=some j):seqIndex? i n=some j∧j < n∧-(n:Int)≤i∧i < n:=by
 unfold ixN at h
 by_cases h0:0≤i
 ·rw [if_pos h0] at h
  by_cases h1:i < n
  ·rw [if_pos h1] at h
   have e:i.toNat=j:=Option.some.inj h
   exact⟨by rw [seqIndex_of h0 h1,e],by omega,by omega,h1⟩
  ·rw [if_neg h1] at h;cases h
 ·rw [if_neg h0] at h
  by_cases h1: -(n:Int)≤i
  ·rw [if_pos h1] at h
   have e:(i+n).toNat=j:=Option.some.inj h
   exact⟨by rw [seqIndex_neg (by omega) h1,e],by omega,h1,by omega⟩
  ·rw [if_neg h1] at h;cases h
theorem atI_get {α:Type} {xs:List α} {i:Int} {v:α} (h:atI xs i=some v):∃j,seqIndex? i xs.length=some j∧xs[j]?=some v∧j < xs.length∧-(xs.length:Int)≤i∧i < xs.length:=by
 unfold atI at h
 cases e:ixN xs.length i with
 |none=>rw [e] at h;cases h
 |some j=>
  rw [e] at h
  obtain⟨h1,h2,h3,h4⟩:=ixN_seq e
  exact⟨j,h1,h,h2,h3,h4⟩
theorem qb3 {α:Type} {xs:List α} {j:Nat} {v:α} (h:xs[j]?=some v):atI xs (j:Int)=some v:=by
 have hj:j < xs.length:=(List.getElem?_eq_some_iff.mp h).1
 have e:ixN xs.length (j:Int)=some j:=by
  unfold ixN
  rw [if_pos (by omega),if_pos (by omega)];simp
 unfold atI;rw [e];exact h
def PlainIx (b:Expr):Prop:=∀o i,subscripted b false o i=operate [o,i] (getItem o i)
def IxR (X:Cx) (r:R2):Prop:=
 ∀(value slice:Expr) (pins:List (Addr × Obj)) (s:Shared) (σ:St) (H:Hp) (x y:V) (v u:Value) (Q:VK),Inv X pins σ H s→qb1 x v→qb1 y u→r x y H Q→
  subscripted slice false v u=operate [v,u] (getItem v u)→wpAny (model X.prog X.w) X.A (subscriptTail value slice v u) (EP X pins σ Q) X.xe s
def MtR (X:Cx) (id:String) (r:V→List V→Hp→VK→Prop):Prop:=
 ∀(pins:List (Addr × Obj)) (s:Shared) (σ:St) (H:Hp) (x:V) (xs:List V) (v:Value) (us:List Value) (Q:VK),Inv X pins σ H s→qb1 x v→qb9 xs us→r x xs H Q→
  wpAny (model X.prog X.w) X.A (call (.builtin id) (v :: us)) (EP X pins σ Q) X.xe s
section
variable {X : Cx} {a b : Expr} {ta tb : TE} {pos : Pos}
theorem qb4 {r:R2} (hr:IxR X r) (ha:PE X a ta) (hb:PE X b tb) (hs:PlainIx b):PE X (.Subscript a b pos) (tOp r ta tb):=by
 intro pins s σ H Q I h
 exact Subscript_ (binT ha hb I h fun v u s2 x y H2 I2 rx ry q=>hr a b pins s2 σ H2 x y v u Q I2 rx ry q (hs _ _))
def rIxL (K:Frag):R2:=fun x y H Q=>∃p xs i v,x=.ref p∧y=.int i∧SqL K H p xs∧atI xs i=some v∧Q v H
def rIxT (K:Frag):R2:=fun x y H Q=>∃p xs i v,x=.ref p∧y=.int i∧SqT K H p xs∧atI xs i=some v∧Q v H
def rIxS:R2:=fun x y H Q=>∃z i c,x=.str z∧y=.int i∧z.length≤sizeLine∧atI z.cps.toList i=some c∧Q (.str ⟨#[c]⟩) H
theorem qam:IxR X (rIxL X.K):=by
 intro value slice pins s σ H x y v u Q I rx ry h hs
 obtain⟨p,xs,i,z,rfl,rfl,hq,he,q⟩:=h
 cases rx
 obtain⟨t,rfl⟩:=ry
 obtain⟨its,r,pl,hz⟩:=I.list hq
 obtain⟨j,h1,h2,h3,h4,h5⟩:=atI_get he
 obtain⟨w,ew,rw'⟩:=r.get h2
 have hl:=r.length
 have hn:=line63
 have fin:EP X pins σ Q w s:=⟨z,H,I,rw',q⟩
 by_cases h0:0≤i
 ·have hj:i.toNat=j:=by
   rw [seqIndex_of h0 h5] at h1
   exact Option.some.inj h1
  exact item_listR pl.isList h0 (by omega) (by rw [hj];simpa using ew) fin hs
 ·have hj:(i+(its.toArray.size:Int)).toNat=j:=by
   rw [seqIndex_neg (by omega) h4] at h1
   rw [yA,←hl]
   exact Option.some.inj h1
  exact subscriptTail_builtinR (x:=w) pl.isList.typeIs slot_list_getitem.lookup
   (wpAny_getItem_list_neg (Q:=fun r s'=>r=w∧EP X pins σ Q r s') pl.isList (by omega) (by rw [yA] <;> omega) (by omega) (by rw [hj];simpa using ew) ⟨rfl,fin⟩) hs
theorem ix_tup:IxR X (rIxT X.K):=by
 intro value slice pins s σ H x y v u Q I rx ry h hs
 obtain⟨p,xs,i,z,rfl,rfl,hq,he,q⟩:=h
 cases rx
 obtain⟨t,rfl⟩:=ry
 obtain⟨its,r,pl,hz⟩:=I.tuple hq
 obtain⟨j,h1,h2,h3,h4,h5⟩:=atI_get he
 obtain⟨w,ew,rw'⟩:=r.get h2
 have hl:=r.length
 have hn:=line63
 have fin:EP X pins σ Q w s:=⟨z,H,I,rw',q⟩
 exact subscriptTail_builtinR (x:=w) pl.typeIs slot_tuple_getitem.lookup
  (getItem_tuple (j:=j) (Q:=fun r s'=>r=w∧EP X pins σ Q r s') pl (by omega) (by omega) (by rw [yA,←hl];exact h1) (by simpa using ew) ⟨rfl,fin⟩) hs
theorem ix_str:IxR X rIxS:=by
 intro value slice pins s σ H x y v u Q I rx ry h hs
 obtain⟨z,i,c,rfl,rfl,hz,he,q⟩:=h
 obtain⟨t,rfl⟩:=rx
 obtain⟨t',rfl⟩:=ry
 obtain⟨j,h1,h2,h3,h4,h5⟩:=atI_get he
 have hl:z.cps.toList.length=z.length:=by simp [Str.length]
 rw [hl] at h1 h4 h5
 have hn:=line63
 exact tail_any (typeIs_str s z t) slot_str_getitem.lookup (getItem_str (c:=c) (by
  have e1:decide (i < -(2^63:Int))=false:=decide_eq_false (by omega)
  have e2:decide (i≥2^63)=false:=decide_eq_false (by omega)
  rw [e1,e2,Bool.or_false]) (by rw [h1];simpa using h2) ⟨.str ⟨#[c]⟩,H,I.tok _,⟨_,rfl⟩,q⟩) hs
def qdh:V→Bool
 | .non=>true
 | .bl _=>true
 | .int _=>true
 | .str _=>true
 |_=>false
def eqV:V→V→Bool
 | .non,.non=>true
 | .bl a,.bl b=>a==b
 | .bl a,.int b=>(if a then 1 else 0)==b
 | .int a,.bl b=>a==(if b then 1 else 0)
 | .int a,.int b=>a==b
 | .str a,.str b=>a==b
 |_,_=>false
theorem eqAt_V {A:Around} {s:Shared} {y x:V} {u v:Value} (ry:qb1 y u) (rx:qb1 x v) (fy:qdh y=true) (fx:qdh x=true):SeqAt.EqAt A s u v (eqV y x):=by
 cases y with
 |non=>
  cases ry
  cases x with
  |non=>cases rx;exact SeqAt.EqAt.same _
  |bl b=>cases rx;exact SeqAt.EqAt.none_bool b
  |int b=>obtain⟨t,rfl⟩:=rx;exact SeqAt.EqAt.none_int b t
  |str b=>obtain⟨t,rfl⟩:=rx;exact SeqAt.EqAt.none_str b t
  |_=>exact absurd (show false=true from fx) Bool.false_ne_true
 |bl a=>
  cases ry
  cases x with
  |non=>cases rx;exact SeqAt.EqAt.bool_none a
  |bl b=>cases rx;exact SeqAt.EqAt.bool_bool a b
  |int b=>obtain⟨t,rfl⟩:=rx;exact SeqAt.EqAt.bool_int a b t
  |str b=>obtain⟨t,rfl⟩:=rx;exact SeqAt.EqAt.bool_str a b t
  |_=>exact absurd (show false=true from fx) Bool.false_ne_true
 |int a=>
  obtain⟨t',rfl⟩:=ry
  cases x with
  |non=>cases rx;exact SeqAt.EqAt.int_none a t'
  |bl b=>cases rx;exact SeqAt.EqAt.int_bool a t' b
  |int b=>obtain⟨t,rfl⟩:=rx;exact SeqAt.EqAt.int_int a t' b t
  |str b=>obtain⟨t,rfl⟩:=rx;exact SeqAt.EqAt.int_str a t' b t
  |_=>exact absurd (show false=true from fx) Bool.false_ne_true
 |str a=>
  obtain⟨t',rfl⟩:=ry
  cases x with
  |non=>cases rx;exact SeqAt.EqAt.str_none a t'
  |bl b=>cases rx;exact SeqAt.EqAt.str_bool a t' b
  |int b=>obtain⟨t,rfl⟩:=rx;exact SeqAt.EqAt.str_int a t' b t
  |str b=>obtain⟨t,rfl⟩:=rx;exact SeqAt.EqAt.str_str a t' b t
  |_=>exact absurd (show false=true from fx) Bool.false_ne_true
 |_=>exact absurd (show false=true from fy) Bool.false_ne_true
def eqU (x:V) (u:Value):Bool:=match u with
 | .none=>eqV .non x
 | .bool b=>eqV (.bl b) x
 | .int i _=>eqV (.int i) x
 | .str z _=>eqV (.str z) x
 |_=>false
theorem eqU_of {x y:V} {u:Value} (r:qb1 y u) (f:qdh y=true):eqU x u=eqV y x:=by
 cases y with
 |non=>cases r;rfl
 |bl b=>cases r;rfl
 |int i=>obtain⟨t,rfl⟩:=r;rfl
 |str z=>obtain⟨t,rfl⟩:=r;rfl
 |_=>exact absurd (show false=true from f) Bool.false_ne_true
theorem qen {x:V}:∀{xs:List V} {us:List Value},qb9 xs us→xs.all qdh=true→us.any (eqU x)=xs.any fun y=>eqV y x
 |_,_,.nil,_=>rfl
 |y :: xs,u :: us,.cons r t,f=>by
  rw [List.all_cons,Bool.and_eq_true] at f
  rw [yS,yS,eqU_of r f.1,qen t f.2]
theorem qde {A:Around} {s:Shared} {x:V} {v:Value} (rx:qb1 x v) (fx:qdh x=true):∀{xs:List V} {us:List Value},qb9 xs us→xs.all qdh=true→∀u∈us,SeqAt.EqAt A s u v (eqU x u)
 |_,_,.nil,_=>fun u hu=>by cases hu
 |y :: xs,u :: us,.cons r t,f=>fun u' hu=>by
  rw [List.all_cons,Bool.and_eq_true] at f
  rcases zK.mp hu with rfl|hu
  ·rw [eqU_of r f.1];exact eqAt_V r rx f.1 fx
  ·exact qde rx fx t f.2 u' hu
def inV (x:V) (xs:List V):Bool:=xs.any fun y=>eqV y x
def rIn (K:Frag) (neg:Bool):R2:=fun x y H Q=>∃p xs,y=.ref p∧(SqL K H p xs∨SqT K H p xs)∧qdh x=true∧xs.all qdh=true∧Q (.bl (if neg then !inV x xs else inV x xs)) H
theorem op_in_seq:OpR X (compareOp .In) (rIn X.K false):=by
 intro pins s σ H x y v u Q I rx ry h
 obtain⟨p,xs,rfl,hq,fx,fs,q⟩:=h
 cases ry
 rcases hq with hq|hq
 ·obtain⟨its,r,pl,hz⟩:=I.list hq
  refine SeqAt.in_listAt (eqU x) pl.isList (fun w hw=>qde rx fx r fs w (by simpa using hw)) ⟨.bl _,H,I,rfl,?_⟩
  rw [show its.toArray.any (eqU x)=its.any (eqU x) by simp,qen r fs]
  exact q
 ·obtain⟨its,r,pl,hz⟩:=I.tuple hq
  refine SeqAt.in_tupleAt (eqU x) pl (fun w hw=>qde rx fx r fs w (by simpa using hw)) ⟨.bl _,H,I,rfl,?_⟩
  rw [show its.toArray.any (eqU x)=its.any (eqU x) by simp,qen r fs]
  exact q
theorem op_notIn_seq:OpR X (compareOp .NotIn) (rIn X.K true):=by
 intro pins s σ H x y v u Q I rx ry h
 obtain⟨p,xs,rfl,hq,fx,fs,q⟩:=h
 cases ry
 rcases hq with hq|hq
 ·obtain⟨its,r,pl,hz⟩:=I.list hq
  refine SeqAt.notIn_listAt (eqU x) pl.isList (fun w hw=>qde rx fx r fs w (by simpa using hw)) ⟨.bl _,H,I,rfl,?_⟩
  rw [show its.toArray.any (eqU x)=its.any (eqU x) by simp,qen r fs]
  exact q
 ·obtain⟨its,r,pl,hz⟩:=I.tuple hq
  refine SeqAt.notIn_tupleAt (eqU x) pl (fun w hw=>qde rx fx r fs w (by simpa using hw)) ⟨.bl _,H,I,rfl,?_⟩
  rw [show its.toArray.any (eqU x)=its.any (eqU x) by simp,qen r fs]
  exact q
theorem call_len_seq:qby X (.builtin "len") (fun xs H Q=>∃p ys,xs=[.ref p]∧(SqL X.K H p ys∨SqT X.K H p ys)∧Q (.int ys.length) H):=by
 intro pins s σ H xs us Q I r h
 obtain⟨p,ys,rfl,hq,q⟩:=h
 obtain⟨u,rfl,rx⟩:=vals1 r
 cases rx
 have hn:=line63
 rcases hq with hq|hq
 ·obtain⟨its,r',pl,hz⟩:=I.list hq
  have hlen:=r'.length
  exact Calls.call_len_list pl.isList (by simp only [yA] <;> omega) ⟨.int ys.length,H,I.tok _,⟨s.toks+1,by rw [yA,hlen]⟩,q⟩
 ·obtain⟨its,r',pl,hz⟩:=I.tuple hq
  have hlen:=r'.length
  exact len_tuple pl (by simp only [yA] <;> omega) ⟨.int ys.length,H,I.tok _,⟨s.toks+1,by rw [yA,hlen]⟩,q⟩
theorem call_len_str:qby X (.builtin "len") (fun xs H Q=>∃z,xs=[.str z]∧z.length≤sizeLine∧Q (.int z.length) H):=by
 intro pins s σ H xs us Q I r h
 obtain⟨z,rfl,hz,q⟩:=h
 obtain⟨u,rfl,t,rfl⟩:=vals1 r
 have hn:=line63
 exact len_str (by omega) ⟨.int z.length,H,I.tok _,⟨_,rfl⟩,q⟩
theorem call_list_of:qby X (.type "list") (fun xs H Q=>∃p ys,xs=[.ref p]∧(SqL X.K H p ys∨SqT X.K H p ys)∧∀l,H l=none→Q (.ref l) (upd H l (.lst ys))):=by
 intro pins s σ H xs us Q I r h
 obtain⟨p,ys,rfl,hq,q⟩:=h
 obtain⟨u,rfl,rx⟩:=vals1 r
 cases rx
 have fin:∀(its:List Value),qb9 ys its→ys.length≤sizeLine→∀(h':Heap) (c':Nat),(∀b o',s.heap.get? b=some o'→h'.get? b=some o')→
   h'.get? s.heap.objs.size=some {cls:=.type "list",dict:=none,data:=.seq its.toArray c',slots:=#[]}→EP X pins σ Q (.ref s.heap.objs.size) {s with heap:=h'}:=fun its r' hz h' c' kp e=>
  ⟨.ref s.heap.objs.size,_,I.laid (t':=s.toks) kp (Nat.le_refl _) (show qbd X.prog X.w _ h' _ (.lst ys) from⟨hz,its,c',r',e⟩),rfl,q _ (I.hok.fresh (Nat.le_refl _))⟩
 rcases hq with hq|hq
 ·obtain⟨its,r',pl,hz⟩:=I.list hq
  have hlen:=r'.length
  obtain⟨o,ho,hc,n,hd⟩:=pl.isList
  exact call_list_seq p (.inl rfl) ho hc hd (fun h' c' kp e=>fin its r' hz h' c' kp e) (by simp only [yA] <;> omega)
 ·obtain⟨its,r',pl,hz⟩:=I.tuple hq
  have hlen:=r'.length
  obtain⟨o,ho,hc,n,hd⟩:=pl
  exact call_list_seq p (.inr rfl) ho hc hd (fun h' c' kp e=>fin its r' hz h' c' kp e) (by simp only [yA] <;> omega)
def tyV (K:Frag) (T:String) (x:V) (H:Hp):Prop:=match x with
 | .str _=>T= "str"
 | .int _=>T= "int"
 | .ref p=>(T= "list"∧∃xs,SqL K H p xs)∨(T= "tuple"∧∃o,K.lookup p=some o∧o.cls=.type "tuple"∧o.dict=none)∨
   (T= "dict"∧((∃kvs,H p=some (.dK kvs))∨∃kvs,H p=some (.dT kvs)))∨(T= "set"∧∃S n,H p=some (.set S n))
 |_=>False
theorem tyV_is {pins:List (Addr × Obj)} {σ:St} {H:Hp} {s:Shared} {T:String} {x:V} {v:Value} (I:Inv X pins σ H s) (r:qb1 x v) (ty:tyV X.K T x H):
  s.TypeIs v T∧∀a,v=.ref a→∃ob,s.heap.get? a=some ob∧ob.dict=none:=by
 cases x with
 |str z=>
  obtain⟨t,rfl⟩:=r
  cases (show T= "str" from ty)
  exact⟨typeIs_str s z t,fun _ e=>nomatch e⟩
 |int i=>
  obtain⟨t,rfl⟩:=r
  cases (show T= "int" from ty)
  exact⟨typeIs_int s i t,fun _ e=>nomatch e⟩
 |ref p=>
  cases r
  rcases ty with ⟨rfl,xs,hq⟩ |⟨rfl,o,hk,hc,hd⟩ |⟨rfl,hk⟩ |⟨rfl,S,n,hk⟩
  ·obtain⟨its,_,pl,_⟩:=I.list hq
   refine⟨pl.isList.typeIs,fun a e=>?_⟩
   cases e
   obtain⟨o,n,e,c,hd,_⟩:=pl
   exact⟨o,e,hd⟩
  ·refine⟨⟨o,I.kIn p o hk,hc⟩,fun a e=>?_⟩
   cases e
   exact⟨o,I.kIn _ o hk,hd⟩
  ·have z:∃o,s.heap.get? p=some o∧o.ExactDict:=by
    rcases hk with ⟨kvs,hk⟩ |⟨kvs,hk⟩
    ·obtain⟨_,_,_,_,o,_,_,e,ex,_⟩:=I.hok p _ hk
     exact⟨o,e,ex⟩
    ·obtain⟨_,_,_,_,o,_,_,e,ex,_⟩:=I.hok p _ hk
     exact⟨o,e,ex⟩
   obtain⟨o,e,ex⟩:=z
   refine⟨⟨o,e,ex.1⟩,fun a e2=>?_⟩
   cases e2
   exact⟨o,e,ex.2.1⟩
  ·obtain⟨o,_,_,_,e,ex,_⟩:=I.hok p _ hk
   refine⟨⟨o,e,ex.1⟩,fun a e2=>?_⟩
   cases e2
   exact⟨o,e,ex.2.1⟩
 |_=>exact False.elim ty
def tBM (K:Frag) (T:String) (r:V→List V→Hp→VK→Prop) (to:TE) (t:TA):TE:=fun σ H Q=>to σ H fun x H1=>tyV K T x H1∧t σ H1 fun xs H2=>r x xs H2 Q
variable {o e : Expr} {es : List Expr} {to : TE} {t : TA} {name : Str} {apos cpos : Pos} {T id : String} {r : V → List V → Hp → VK → Prop}
theorem qeb (pa:PlainAttrs T) (slot:Slot T name id) (hty:typeOf (.builtin id)=pure (.type "method_descriptor")) (hm:MtR X id r) (ho:PE X o to) (ha:PA X (e :: es) t)
  (hbase:attributeBase o name X.env (eval o X.env)=eval o X.env:=by rfl)
  (hfew:((backTo cpos (starEach (e :: es) X.env)).all (fun x=>!x.1) && (backToKw cpos (keywordEach [] X.env)).all (fun x=>x.1.isSome)
   && decide ((e :: es).length+([]:List Keyword).length+(if ([]:List Keyword).isEmpty then 0 else 1) < 30))=true:=by rfl)
  (hline:(apos.endLine==cpos.line)=true:=by rfl) (hs:starEach (e :: es) X.env=(false,eval e X.env) :: starEach es X.env:=by rfl) (hplain:(backTo cpos (starEach es X.env)).any (·.1)=false:=by rfl):
  PE X (.Call (.Attribute o name apos) (e :: es) [] cpos) (tBM X.K T r to t):=by
 intro pins s σ H Q I h
 refine wpAny_Call_method_late hbase hfew hline rfl (thn (ho pins s σ H _ I h) fun v s1 ⟨x,H1,I1,r1,ty,q1⟩=>?_)
 obtain⟨h1,h2⟩:=tyV_is I1 r1 ty
 refine⟨T,id,pa,slot,hty,h1,h2,?_⟩
 have hA:=ha cpos pins s1 σ H1 _ I1 q1
 rw [hs] at hA ⊢
 refine Calls.callWith_builtin (by show (false ||(backTo cpos (starEach es X.env)).any (·.1))=false;rw [hplain] <;> rfl) (Calls.evalArgs_plain ?_)
 exact thn hA fun us s2 ⟨vs,H2,I2,r2,q2⟩=>hm pins s2 σ H2 x vs v us Q I2 r1 r2 q2
end
def MtM (X:Cx) (id:String) (r:V→List V→Hp→VK→Prop):Prop:=
 ∀(pins:List (Addr × Obj)) (s:Shared) (σ:St) (H:Hp) (x:V) (xs:List V) (v:Value) (us:List Value) (Q:VK),Inv X pins σ H s→qb1 x v→qb9 xs us→r x xs H Q→
  wpAny (model X.prog X.w) X.A (call (.builtin id) (v :: us)) (EP X pins σ Q) X.xe s
theorem qb9.one:∀{x:V} {us:List Value},qb9 [x] us→∃u,us=[u]∧qb1 x u
 |_,_,.cons r .nil=>⟨_,rfl,r⟩
section
variable {X : Cx} {pins : List (Addr × Obj)} {σ : St} {H : Hp} {s : Shared} {l b : Addr} {xs ys zs : List V}
theorem Inv.lset {its its':List Value} {n:Nat} {f:Array Value→Array Value} {t':Nat} (I:Inv X pins σ H s) (hH:H l=some (.lst xs))
  (e:s.heap.get? l=some {cls:=.type "list",data:=.seq its.toArray n}) (hf:f its.toArray=its'.toArray) (hv:qb9 ys its') (hz:ys.length≤sizeLine):
  Inv X pins σ (upd H l (.lst ys)) {s with heap:=s.heap.update l (Obj.mapSeq f),toks:=t'}:=by
 have q:=PySem.IsL.update e f
 rw [hf] at q
 refine I.write (x:=l) (e:=l) (by rw [hH];exact trivial) (.inl rfl) (fun b' u hb hu=>(Heap.get?_update_other s.heap (Obj.mapSeq f) (Ne.symm hb)).trans hu) ⟨_,q⟩ ?_
 exact⟨hz,its',_,hv,q⟩
theorem Inv.lnew {its:List Value} {t':Nat} (I:Inv X pins σ H s) (hv:qb9 ys its) (hz:ys.length≤sizeLine):
  Inv X pins σ (upd H s.heap.objs.size (.lst ys)) {s with heap:=s.heap.push {cls:=.type "list",data:=.seq its.toArray},toks:=t'}:=
 I.laid (fun _ _ q=>Heap.get?_push_of_some _ q) (Nat.le_refl _) ⟨hz,its,0,hv,Heap.get?_push_size _ rfl⟩
theorem Inv.lstM (I:Inv X pins σ H s) (hH:H l=some (.lst xs)):xs.length≤sizeLine∧∃(its:List Value) (n:Nat),qb9 xs its∧xs.length=its.length∧s.heap.get? l=some {cls:=.type "list",data:=.seq its.toArray n}:=by
 obtain⟨z,its,n,r,e⟩:=I.hok l _ hH
 exact⟨z,its,n,r,r.length,e⟩
theorem notLongL {n:Nat} (h:n≤sizeLine):Builtin.List.listTooLong n=false:=by
 unfold Builtin.List.listTooLong
 exact decide_eq_false (by omega)
end
section
variable {X : Cx}
def rAppend:V→List V→Hp→VK→Prop:=fun x vs H Q=>∃l xs y,x=.ref l∧vs=[y]∧H l=some (.lst xs)∧xs.length < sizeLine∧Q .non (upd H l (.lst (xs++ [y])))
theorem qb8:MtM X "list.append" rAppend:=by
 intro pins s σ H x vs v us Q I rx rv h
 obtain⟨l,xs,y,rfl,rfl,hH,hz,q⟩:=h
 cases rx
 obtain⟨u,rfl,ru⟩:=rv.one
 obtain⟨z,its,n,r,hl,e⟩:=I.lstM hH
 refine call_meets F.slot_list_append ⟨_,e,rfl⟩ F.entry_list_append (F.args_list_append_2 _ _) (PySem.list_append l its.toArray n u (by rw [yA];omega)) ⟨e,?_⟩
 refine⟨.non,_,I.lset (its':=its++ [u]) hH e (by simp) (r.append (.cons ru .nil)) ?_,rfl,q⟩
 rw [zF,yC]
 omega
def rExtend:V→List V→Hp→VK→Prop:=fun x vs H Q=>∃l b xs zs,x=.ref l∧vs=[.ref b]∧H l=some (.lst xs)∧H b=some (.lst zs)∧xs.length+zs.length≤sizeLine∧Q .non (upd H l (.lst (xs++zs)))
theorem mt_extend:MtM X "list.extend" rExtend:=by
 intro pins s σ H x vs v us Q I rx rv h
 obtain⟨l,b,xs,zs,rfl,rfl,hH,hB,hz,q⟩:=h
 cases rx
 obtain⟨u,rfl,ru⟩:=rv.one
 cases ru
 obtain⟨z,its,n,r,hl,e⟩:=I.lstM hH
 obtain⟨z2,its2,n2,r2,hl2,e2⟩:=I.lstM hB
 have hsz:its.toArray.size+its2.toArray.size≤sizeLine:=by rw [yA,yA];omega
 have hlong:¬(!its.toArray.isEmpty && Builtin.List.listTooLong (its.toArray.size+its2.toArray.size))=true:=by
  rw [notLongL hsz,Bool.and_false]
  exact Bool.false_ne_true
 refine call_meets F.slot_list_extend ⟨_,e,rfl⟩ F.entry_list_extend (F.args_list_extend_2 _ _)
  (AutoSeq1.list_extend_list_list_0 l its.toArray n b its2.toArray n2 hlong (by rw [yA];omega) (by omega)) ⟨e,e2,?_⟩
 refine⟨.non,_,I.lset (its':=its++its2) hH e (by simp) (r.append r2) ?_,rfl,q⟩
 rw [zF]
 omega
def rRep:R2:=fun x y H Q=>∃l k xs,x=.ref l∧y=.int k∧H l=some (.lst xs)∧-(2^63)≤k∧k < 2^63∧xs.length*k.toNat≤sizeLine∧
 ∀p,H p=none→Q (.ref p) (upd H p (.lst (List.replicate k.toNat xs).flatten))
end
section
variable {prog : Program} {w : World} {A : Around} {E : Value → Shared → Prop} {s : Shared}
set_option maxRecDepth 100000 in
end
section
variable {X : Cx}
end
end L2
namespace Att
open PySem PySem.W PySem.Calls PyProof.Rows
theorem qej {P:Params} {h:Heap}:∀(ns:List Int) (vs:List Value),WellAll P h vs (ns.map WData.int)→IntsAre vs ns:=by
 intro ns
 induction ns with
 |nil=>
  intro vs w
  rw [List.map_nil] at w
  cases w
  exact .nil
 |cons n ns ih=>
  intro vs w
  rw [zQ] at w
  cases w with
  |cons a b=>
   cases a
   exact .cons _ _ (ih _ b)
theorem script_of {l:OpenLaw} {n:Nat} (hn:l.most=some n) {P:Params} {h:Heap} {args:List WData} {vals:List Value}
  (hpre:l.row.toRowW.claim.pre args=true) (hwl:WellAll P h vals args):
  ∃a vs ns,vals=[Value.ref a]∧args=[WData.list (ns.map WData.int)]∧h.get? a=some {cls:=.type "list",data:=.seq vs.toArray}∧IntsAre vs ns∧ns.length≤n:=by
 have hsh:WShape.hasAll [] args [.list .int]=true:=(pre_splitW hpre).1
 have hc:l.pre.holds [] {args:=args}=true:=(pre_splitW hpre).2
 obtain⟨d,r,rfl,h1,h2⟩:=hasAllW_cons hsh
 obtain rfl:=hasAllW_nil h2
 obtain⟨xs,rfl,h3⟩:=hasW_list h1
 obtain⟨ns,rfl⟩:=items_int h3
 have hlen:ns.length≤n:=by
  unfold OpenLaw.pre at hc
  have h4:(WTm.not (.lt (.lit (.int (n:Int))) (.len (.arg 0)))).holds [] {args:=[.list (ns.map .int)]}=true:=by
   have h4:=(holds_andW hc).1
   rw [hn] at h4
   exact h4
  have h5:=condW_of h4 (w_not (w_lt w_lit (w_len_list (w_arg rfl))))
  rw [zB] at h5
  refine Nat.le_of_not_lt fun q=>?_
  have q':(n:Int) <((ns.length:Nat):Int):=by omega
  first
   |(rw [decide_eq_true q'] at h5;exact absurd h5 (by decide))
   |(simp at h5;omega)
 cases hwl with
 |cons w1 w2=>
  cases w2
  cases w1 with
  |list ho hall=>exact⟨_,_,ns,rfl,rfl,ho,qej ns _ hall,hlen⟩
theorem post_true (l:OpenLaw) (args:List WData):l.row.toRowW.claim.post args (.bool true) args=true:=
 postW_of (r:=l.row.toRowW) (X:=(true==true))
  (show WShape.has [] (.bool true) .bool=true by first|rfl|decide|simp [WShape.has,WShape.arms,WShape.armsAll])
  (show (WTm.eq .res (.lit (.bool true))).value [] {args:=args,res:=some (.bool true),after:=args}=some (.bool (true==true)) from w_eq_bool (w_res rfl) w_lit) rfl
theorem attach_call {l:OpenLaw} {n:Nat} {q:Program} {loose:List Str} {XP:(Str→Option Value)→Heap→Prop} {YP:World→Heap→Prop} {d:DefRec}
  (hn:l.most=some n) (hdf:d.params.defaults=[])
  (call:∀(w:World) (s₀ s₁:Shared) (mg mb:Str→Option Value) (fa:Addr) (o:Obj) (pm cd doc:Value) (a:Addr) (vs:List Value) (ns:List Int),
   Ground q loose [] XP w s₀ mg mb s₁.heap→YP w s₁.heap→
   s₁.heap.get? fa=some o→o.data=.func (docDef d.name d.params d.body d.scope pm cd doc)→s₁.heap.CodeRec cd d.name→mg d.name=some (.ref fa)→
   s₁.heap.get? a=some {cls:=.type "list",data:=.seq vs.toArray}→IntsAre vs ns→ns.length≤n→s₁.gens= #[]→
   codeAny (model l.prog w) callerA (.call (.ref fa) ⟨[.ref a], []⟩) (fun r s'=>r=.ok (.ret (.bool true))∧OldK s₁.heap s'.heap∧s'.os=s₁.os∧AllBare s'.gens) s₁):
  WalkO q loose XP YP l.row.toRowW d [] (fun f vs=>PySem.call f vs):=by
 intro w s₀ s₁ mg mb G Y fa o pm cd doc dV kV ho hd hcd hD hmg hg args vals as hpre hlay hrd hwl hlo
 obtain rfl:dV=.none:=Dflts.none hD hdf
 obtain rfl:kV=.none:=Dflts.noKw hD
 obtain⟨a,vs,ns,rfl,rfl,hobj,hints,hlen⟩:=script_of hn hpre hwl
 refine enter_call (codeAny_mono (call w s₀ s₁ mg mb fa o pm cd doc a vs ns G Y ho (fd_plain hd) hcd hmg hobj hints hlen hg) fun r s' hq=>?_)
 obtain⟨rfl,h2,h3,h4⟩:=hq
 exact⟨.inl ⟨.bool true,.bool true, [],rfl,fun _=>rfl,.bool true,post_true l _,fun _=>⟨List.Pairwise.nil,fun _ hm=>(nomatch hm)⟩⟩,h2,h3,h4⟩
section
variable {prog : Program} {w : World} {A : Around} {E : Value → Shared → Prop} {s : Shared} {K : Frag}
end
end Att
namespace L2
open PySem PySem.Spec PyProof.Rows
theorem vals_ints:∀{vs:List Value} {ns:List Int},IntsAre vs ns→qb9 (ns.map V.int) vs
 |_,_,.nil=> .nil
 |_,_,.cons n t h=> .cons ⟨t,rfl⟩ (vals_ints h)
def Only (H:Hp):Prop:=∀b,H b=none∨∃o xs,H b=some (.frz o (.lst xs))
theorem law_call {P:Program} {w:World} {K:Frag} {mg mb:Str→Option Value} {CX:CXT} {k:Nat} {fa a:Addr} {fd:FuncData} {x:Str} {sp:Sp} {s₁:Shared} {vs:List Value} {ns:List Int}
  (KX:K.In s₁.heap) (hns:s₁.heap.Ns mainGlobals mg) (hb:s₁.heap.Ns builtinsNs mb) (hbb:∀x:Str,x≠"__name__"→mb x=bootBuiltins x) (hlim:s₁.heap.NoLimit) (hg:s₁.gens= #[])
  (ha:s₁.heap.get? a=some {cls:=.type "list",data:=.seq vs.toArray}) (hi:IntsAre vs ns) (hl:ns.length≤sizeLine) (hr:Room k callerA)
  (F:∀base:Heap,K.In base→base.Ns mainGlobals mg→FnOk P w K mg base CX k fa fd [x] sp) (hbind:∀(s:Shared) (u:Value),BindsTo s fd ⟨[u], []⟩ [(x,u)])
  (hsp:∀H:Hp,Only H→SqL K H a (ns.map V.int)→sp [.ref a] H (fun v _=>v=.bl true) fun _ _ _=>False)
  (hCX:∀H e s',CX [] H s₁ (fun _ _ _=>False) e s'→False):
  codeAny (model P w) callerA (.call (.ref fa) ⟨[.ref a], []⟩) (fun r s'=>r=.ok (.ret (.bool true))∧OldK s₁.heap s'.heap∧s'.os=s₁.os∧AllBare s'.gens) s₁:=by
 have rv:=vals_ints hi
 have lenV:=hi.length
 have core:∀H:Hp,Only H→SqL K H a (ns.map V.int)→HOk P w H s₁.heap→(∀b,H b≠none→b=a)→(H a≠none→K.lookup a=none)→
   codeAny (model P w) callerA (.call (.ref fa) ⟨[.ref a], []⟩) (fun r s'=>r=.ok (.ret (.bool true))∧OldK s₁.heap s'.heap∧s'.os=s₁.os∧AllBare s'.gens) s₁:=by
  intro H hO hS hok hA hK
  have base_of:∀{b:Addr} {o:Obj},s₁.heap.get? b=some o→H b=none→(hidT s₁.heap H).get? b=some o:=fun e n=>hidT_get e n
  have noA:∀{b:Addr} {o:Obj} {es:Array DictEntry} {ep:Nat},s₁.heap.get? b=some o→o.data=.dict es ep→H b=none:=fun {b o es ep} e d=>by
   cases q:H b with
   |none=>rfl
   |some u=>
    have e':b=a:=hA b (by rw [q];simp)
    subst e'
    rw [ha] at e;cases e
    have d':Data.seq vs.toArray _=Data.dict es ep:=d
    cases d'
  have nsK:∀{b:Addr} {m:Str→Option Value},s₁.heap.Ns b m→(hidT s₁.heap H).Ns b m:=fun {b m} ⟨o,es,ep,e,d,r⟩=>⟨o,es,ep,base_of e (noA e d),d,r⟩
  have hKb:K.In (hidT s₁.heap H):=fun b o e=>base_of (KX b o e) (by
   cases q:H b with
   |none=>rfl
   |some u=>
    have e':b=a:=hA b (by rw [q];simp)
    subst e'
    rw [hK (by rw [q];simp)] at e;cases e)
  have hM:Mod K mg (hidT s₁.heap H):=⟨hKb,nsK hns,⟨mb,nsK hb,hbb⟩,let ⟨mc,h1,h2⟩:=hlim;⟨mc,nsK h1,h2⟩⟩
  have e0:Env0 P w K mg (hidT s₁.heap H) callerA [] s₁ H:=⟨rfl,hM,fun b o e=>of_hidT e,Nat.le_of_eq (hidT_size _ _),trivial,fun b hb=>absurd (show b∈([]:List Addr) from hb) (by simp),hok,.of_eq hg⟩
  refine codeAny_mono ((F _ hKb (nsK hns)).run callerA [] s₁ H ⟨[.ref a], []⟩ [.ref a] [.ref a] _ _ hr e0 (hbind s₁ (.ref a)) (.cons rfl .nil) (hsp H hO hS)) fun r s' h=>?_
  cases r with
  |error e=>exact(hCX H e s' h).elim
  |ok fl=>
   cases fl with
   |next=>exact False.elim h
   |brk=>exact False.elim h
   |cont=>exact False.elim h
   |ret u=>
    obtain⟨v,H',os,bare,un,hok',r',q⟩:=h
    have q':v=.bl true:=q
    subst q'
    obtain rfl:u=Value.bool true:=r'
    refine⟨rfl,OldK.of_keep fun b o e=>?_,os,bare⟩
    cases q:H b with
    |none=>exact un.keep b o e q (by intro z;exact absurd (show b∈([]:List Addr) from z) (by simp)) (by simp)
    |some u=>
     rcases hO b with z|⟨ob,xs,z⟩
     ·rw [q] at z;cases z
     ·have z2:=un.frzs b ob _ z
      obtain⟨e1,_⟩:=hok b _ z
      obtain⟨e2,_⟩:=hok' b _ z2
      rw [e] at e1;cases e1
      exact e2
 cases hk:K.lookup a with
 |some o=>
  have e:=KX a o hk
  rw [ha] at e
  cases e
  refine core (fun _=>none) (fun _=> .inl rfl) (.inr ⟨_,vs.toArray,_,hk,rfl,rfl,rfl,by rw [yA,lenV];exact hl,by simpa using rv⟩) (fun b u z=>by have z':(none:Option HO)=some u:=z;cases z') (fun b z=>absurd rfl z) fun z=>absurd rfl z
 |none=>
  refine core (fun b=>if b=a then some (.frz {cls:=.type "list",data:=.seq vs.toArray} (.lst (ns.map V.int))) else none) (fun b=>?_) (.inl (.inr ⟨{cls:=.type "list",data:=.seq vs.toArray},if_pos rfl⟩)) (fun b u z=>?_) (fun b z=>?_) fun _=>hk
  ·by_cases hb:b=a
   ·exact .inr ⟨_,_,if_pos hb⟩
   ·exact .inl (if_neg hb)
  ·by_cases hb:b=a
   ·have z':=(if_pos hb).symm.trans z
    cases z'
    subst hb
    exact⟨ha,by rw [zB];exact hl,vs,_,rv,ha⟩
   ·have z':=(if_neg hb).symm.trans z
    cases z'
  ·by_cases hb:b=a
   ·exact hb
   ·exact absurd (if_neg hb) z
theorem walk_of {l:PySem.W.OpenLaw} {n k:Nat} {q:Program} {loose:List Str} {XP:(Str→Option Value)→Heap→Prop} {YP:World→Heap→Prop} {d:DefRec} {K:Params→Frag} {CX:World→CXT} {sp:World→Sp} {x:Str}
  (hn:l.most=some n) (hn2:n≤sizeLine) (hdf:d.params.defaults=[]) (hr:Room k callerA)
  (hY:∀(w:World) (h:Heap),YP w h→(K w.params).In h)
  (F:∀(w:World) (mg:Str→Option Value) (fa:Addr) (h:Heap),(K w.params).In h→h.Ns mainGlobals mg→mg d.name=some (.ref fa)→
   ∃fd:FuncData,(∀(s:Shared) (u:Value),BindsTo s fd ⟨[u], []⟩ [(x,u)])∧
    ∀base:Heap,(K w.params).In base→base.Ns mainGlobals mg→FnOk l.prog w (K w.params) mg base (CX w) k fa fd [x] (sp w))
  (hsp:∀(w:World) (H:Hp) (a:Addr) (ns:List Int),ns.length≤n→Only H→SqL (K w.params) H a (ns.map V.int)→sp w [.ref a] H (fun v _=>v=.bl true) fun _ _ _=>False)
  (hCX:∀(w:World) (H:Hp) (s:Shared) (e:Value) (s':Shared),CX w [] H s (fun _ _ _=>False) e s'→False):
  PySem.W.WalkO q loose XP YP l.row.toRowW d [] (fun f vs=>PySem.call f vs):=by
 refine Att.attach_call hn hdf fun w s₀ s₁ mg mb fa o pm cd doc a vs ns G Y ho hd hcd hmg hobj hints hlen hg=>?_
 have KX:=hY w _ Y
 obtain⟨fd,hb,hF⟩:=F w mg fa _ KX G.T.g hmg
 exact law_call KX G.T.g G.T.b G.T.builtins G.T.nolimit hg hobj hints (Nat.le_trans hlen hn2) hr hF hb (fun H hO hS=>hsp w H a ns hlen hO hS) fun H e s'=>hCX w H s₁ e s'
def qbx (s:Stmt):Arguments:=match s with
 | .FunctionDef _ a _ _ _ _ _ _ _ _=>a
 |_=>{posonlyargs:=[],args:=[],vararg:=none,kwonlyargs:=[],kw_defaults:=[],kwarg:=none,defaults:=[]}
def qbj (s:Stmt):List Stmt:=match s with
 | .FunctionDef _ _ b _ _ _ _ _ _ _=>b
 |_=> []
def qa7 (s:Stmt):Scope:=match s with
 | .FunctionDef _ _ _ _ _ _ sc _ _ _=>sc
 |_=>{kind:=.function,names:=[],isGenerator:=false,isCoroutine:=false}
abbrev CX0:CXT:=fun _ _ _ _ _ _=>False
abbrev E0:XK:=fun _ _ _=>False
theorem qaf {X:Cx}:qeq CX0 X E0:=fun _ _ _ _ _ _ _ h=>h.elim
structure Fun (K:Frag) (x qual:Str) (st:Stmt) (f:Addr) (fd:FuncData):Prop where
 ex:∃(oc:Value) (od:Option Addr) (kV doc pm:Value) (an:Option Addr) (cdv ct:Value) (osl:Array (Option Value)),
  fd=fnOf x qual (qbx st) (qbj st) (qa7 st) .none kV doc pm an cdv ct∧K.lookup f=some ⟨oc,od,.func fd,osl⟩∧codeIn K cdv qual=true
 kp:keepIn K (.ref f)=true
section
variable {P : Program} {w : World} {K : Frag} {mg : Str → Option Value} {base : Heap}
theorem Fun.ok {x qual:Str} {st:Stmt} {f:Addr} {fd:FuncData} {N ps:List Str} {k:Nat} {sp:Sp} (F:Fun K x qual st f fd) (S:FnScope N ps (qa7 st)) (len:∀vs H Q E,sp vs H Q E→vs.length=ps.length)
  (hbody:∀(cdv:Value) (A:Around) (outer:List Env) (s:Shared) (H:Hp) (vs:List V) (Q:VK) (E:XK),Room k (A.deeper (envOfC qual (qa7 st) s.heap.objs.size f cdv))→sp vs H Q E→
   ∃t,PSs (cxOf CX0 P w K mg base N qual (qa7 st) f cdv A outer s H E).nox (qbj st) t∧t {nx:=fun _ H'=>Q .non H',rt:=Q} (start N vs) H):FnOk P w K mg base CX0 (k+1) f fd ps sp:=by
 obtain⟨oc,od,kV,doc,pm,an,cdv,ct,osl,rfl,lk,hcd⟩:=F.ex
 refine fn_of lk hcd S len fun A outer s H vs Q E hr hsp=>?_
 obtain⟨t,h,q⟩:=hbody cdv A outer s H vs Q E hr hsp
 exact⟨t,h.nox,q⟩
theorem Fun.binds {x qual:Str} {st:Stmt} {f:Addr} {fd:FuncData} {ps:List Str} (F:Fun K x qual st f fd)
  (h:∀(kV doc pm:Value) (an:Option Addr) (cdv ct:Value) (us:List Value),us.length=ps.length→bindArgs (fnOf x qual (qbx st) (qbj st) (qa7 st) .none kV doc pm an cdv ct) ⟨us, []⟩=pure (ps.zip us)):qah K fd ps []:=by
 obtain⟨oc,od,kV,doc,pm,an,cdv,ct,osl,rfl,lk,hcd⟩:=F.ex
 exact .all (h kV doc pm an cdv ct)
theorem fun_mk {x qual:Str} {st:Stmt} {f:Addr} {oc:Value} {od an:Option Addr} {osl:Array (Option Value)} {kV doc pm cdv ct:Value} (l:K.lookup f=some ⟨oc,od,.func (fnOf x qual (qbx st) (qbj st) (qa7 st) .none kV doc pm an cdv ct),osl⟩)
  (c:codeIn K cdv qual=true) (k:keepIn K (.ref f)=true):Fun K x qual st f (fnOf x qual (qbx st) (qbj st) (qa7 st) .none kV doc pm an cdv ct):=⟨⟨oc,od,kV,doc,pm,an,cdv,ct,osl,rfl,l,c⟩,k⟩
end
theorem qc5 {A:Around} {k:Nat} (hr:Room k A):A.units+1 < cLine:=Nat.lt_of_le_of_lt (Nat.add_le_add_left (by decide:1≤64) _) hr.units
section
variable {X : Cx}
theorem pv (i:Nat) {x:Str} {pos:Pos} (hN:X.N[i]?=some x:=by rfl) (hv:Vis X.env.scope x:=by first|exact Or.inl rfl|exact Or.inr (Or.inl rfl) |exact Or.inr (Or.inr rfl)) (hd:(x==("__debug__" :Str))=false:=by decide)
  (hcd:(x==("__classdict__" :Str))=false:=by decide):PE X (.Name x pos) (tVar i):=pe_var hN hv hd hcd
end
theorem iteF {A B:Prop} (h:B):if false=true then A else B:=by
 rw [if_neg Bool.false_ne_true]
 exact h
theorem iteT {A B:Prop} (h:A):if true=true then A else B:=by
 rw [if_pos rfl]
 exact h
def qaq (H H':Hp):Prop:=∀b o,H b=some o→H' b=some o
theorem qaq.refl (H:Hp):qaq H H:=fun _ _ h=>h
theorem qaq.trans {H H1 H2:Hp} (a:qaq H H1) (b:qaq H1 H2):qaq H H2:=fun c o h=>b c o (a c o h)
theorem qaq.free {H H':Hp} (e:qaq H H') {l:Addr} (h:H' l=Option.none):H l=Option.none:=by
 cases q:H l with
 |none=>rfl
 |some o=>
  rw [e l o q] at h
  cases h
theorem qaq.seq {K:Frag} {H H':Hp} {a:Addr} {xs:List V} (e:qaq H H') (h:SqL K H a xs):SqL K H' a xs:=by
 rcases h with (h|⟨o,h⟩) |h
 ·exact .inl (.inl (e _ _ h))
 ·exact .inl (.inr ⟨o,e _ _ h⟩)
 ·exact .inr h
end L2
namespace My
open PySem PySem.Spec PyProof.Rows L2
section
variable {X : Cx}
theorem bits600 {k:Int} (h:k.natAbs < 2^600):Builtin.Int.intBits k≤2^20:=
 Nat.le_trans (PyProof.Rows.intBits_le (k:=600) h) (by decide)
def CBig (i j:Int):Prop:=i.natAbs < 2^600∧j.natAbs < 2^600
theorem qbh:OpR X (binaryOp .Mult) (rI CBig fun i j=> .int (i*j)):=opI fun _ _ _ _ _ _ _ hc q=>mul_int q (IntMulOk.of_bits (bits600 hc.1) (bits600 hc.2))
def CDivB (i j:Int):Prop:=j≠0∧j.natAbs < 2^600
theorem noPy {x y:Int} (h:y.natAbs < 2^600):Builtin.divisionGoesByPylong x y=false:=by
 refine PyProof.noPylong_of_log2 ?_
 by_cases h0:y.natAbs=0
 ·rw [h0];decide+kernel
 ·have h30:y.natAbs.log2 < 600:=(Nat.log2_lt h0).mpr h
  omega
theorem qca:OpR X (binaryOp .FloorDiv) (rI CDivB fun i j=> .int (i.fdiv j)):=opI fun _ _ _ _ _ _ _ hc q=>floordiv_int hc.1 q (.inl (noPy hc.2))
end
theorem qab {H:Hp} {p:Addr} (h:H p=none) (o:HO):qaq H (upd H p o):=fun b u q=>by rw [qa6 (qa5 q h)];exact q
def cell (ns:List Int) (k:Int):Int:=(ns[k.toNat]?).getD 0
theorem cell_at {ns:List Int} {k:Int} (h0:0≤k) (h:k <(ns.length:Int)):atI (ns.map V.int) k=some (.int (cell ns k)):=by
 have hk:k.toNat < ns.length:=by omega
 have ek:k=((k.toNat:Nat):Int):=by omega
 have q:atI (ns.map V.int) ((k.toNat:Nat):Int)=some (.int ns[k.toNat]):=qb3 (by rw [zC,zA hk] <;> rfl)
 rw [←ek] at q
 rw [q]
 unfold cell
 rw [zA hk]
 rfl
section
variable {X : Cx}
end
end My
set_option maxHeartbeats 1000000
namespace My
open PySem PySem.Spec PyProof.Rows L2
section
variable {X : Cx} {pins : List (Addr × Obj)} {σ : L2.St} {H : Hp} {s : Shared} {h' : Heap}
structure Rec (X:Cx) (pins:List (Addr × Obj)) (H:Hp) (h:Heap) (b:Addr):Prop where
 nw:X.s₀.heap.get? b=none
 un:H b=none
 pin:∀p∈X.pn++pins,p.1≠b
 ob:∃o vs,h.get? b=some o∧o.data=.fields vs
theorem Rec.loc (I:Inv X pins σ H s) {b:Addr} (r:Rec X pins H s.heap b):b≠X.env.locals:=fun z=>by
 obtain⟨o,vs,e,d⟩:=r.ob
 obtain⟨m,⟨o',es,ep,e',d',_⟩,_⟩:=I.loc
 rw [z,e'] at e;cases e;rw [d'] at d;cases d
theorem Rec.cel (I:Inv X pins σ H s) {b:Addr} (r:Rec X pins H s.heap b):∀x c,X.env.cells.lookup x=some c→c≠b:=fun x c hc z=>by
 obtain⟨o,vs,e,d⟩:=r.ob
 obtain⟨v,o',e',d'⟩:=I.cell x c hc
 rw [z,e] at e';cases e';rw [d] at d';cases d'
theorem Rec.frs (I:Inv X pins σ H s) {b:Addr} (r:Rec X pins H s.heap b):b∉frs X.stack:=fun z=>by
 obtain⟨o,vs,e,d⟩:=r.ob
 obtain⟨_,o',e',d'⟩:=I.stack.mem z
 rw [e] at e';cases e';exact d' vs d
theorem Inv.marks {ch:List Addr} {t':Nat} (I:Inv X pins σ H s) (hch:∀b∈ch,Rec X pins H s.heap b)
  (k1:∀b o,b∉frs X.stack→b∉ch→s.heap.get? b=some o→h'.get? b=some o)
  (k2:∀b o,b∉ch→s.heap.get? b=some o→∃sl,h'.get? b=some {o with slots:=sl}):Inv X pins σ H {s with heap:=h',toks:=t'}:=by
 have sub:∀b,b≠X.env.locals→b∉X.fs→b∉frs X.stack:=fun b h1 h2 z=>(zK.mp (I.stkSub b z)).elim h1 h2
 have neL:∀b o,X.s₀.heap.get? b=some o→b≠X.env.locals:=fun b o e=>Nat.ne_of_lt (Nat.lt_of_lt_of_le (Heap.lt_size e) I.ok.above)
 have neC:∀b o,X.s₀.heap.get? b=some o→b∉ch:=fun b o e z=>by rw [(hch b z).nw] at e;cases e
 have cel:∀x c,X.env.cells.lookup x=some c→∀v,s.heap.IsCell c v→h'.IsCell c v:=fun x c e v ⟨o,ho,hd⟩=>by
  obtain⟨sl,q⟩:=k2 c o (fun z=>(hch c z).cel I x c e rfl) ho
  exact⟨_,q,hd⟩
 refine⟨I.ok,I.os,I.bare,⟨fun b o e n hb hx=>k1 b o (sub b (neL b o e) hb) (neC b o e) (I.base.keep b o e n hb hx),fun b o e n hb hx=>?_,I.base.free,fun b o e hx=>?_,I.base.tups,I.base.frzs,I.base.tbls⟩,
  ?_,fun x c e=>?_,I.free,I.freeC,fun p hp=>?_,fun a o e=>?_,I.len⟩
 ·obtain⟨sl,e1⟩:=I.base.slot b o e n hb hx
  obtain⟨sl',e2⟩:=k2 b _ (neC b o e) e1
  exact⟨sl',e2⟩
 ·obtain⟨o',e1⟩:=I.base.there b o e hx
  obtain⟨sl',e2⟩:=k2 b _ (neC b o e) e1
  exact⟨_,e2⟩
 ·obtain⟨m,hm,hl⟩:=I.loc
  have hm':h'.Ns X.env.locals m:=by
   obtain⟨o,es,ep,e,r⟩:=hm
   obtain⟨sl,q⟩:=k2 _ o (fun z=>(hch _ z).loc I rfl) e
   exact⟨_,es,ep,q,r⟩
  refine⟨m,hm',fun i x v e1 e2 e3=>?_⟩
  obtain⟨u,r,l⟩:=hl i x v e1 e2 e3
  refine⟨u,r,?_⟩
  rcases l with l|⟨k,c,e,z⟩
  ·exact .inl l
  ·exact .inr ⟨k,c,e,cel x c e _ z⟩
 ·obtain⟨v,z⟩:=I.cell x c e
  exact⟨v,cel x c e v z⟩
 ·obtain⟨e,n,ne,nf,d⟩:=I.pin p hp
  exact⟨k1 p.1 p.2 (sub p.1 ne nf) (fun z=>(hch p.1 z).pin p hp rfl) e,n,ne,nf,d⟩
 ·refine(I.hok a o e).stay (fun b u hb q=>k1 b u ?_ ?_ q) (fun _ q=>q) fun _ _ q=>q
  ·intro z
   have n:=I.stkFree b z
   rcases hb with rfl|hb
   ·rw [n] at e;cases e
   ·rw [n] at hb;cases hb
  ·intro z
   have n:=(hch b z).un
   rcases hb with rfl|hb
   ·rw [n] at e;cases e
   ·rw [n] at hb;cases hb
theorem obj_there {P:Program} {w:World} {H:Hp} {h:Heap} {a:Addr} {o:HO} (x:qbd P w H h a o):∃ob,h.get? a=some ob:=by
 cases o with
 |lst xs=>obtain⟨_,_,_,_,e⟩:=x;exact⟨_,e⟩
 |tup xs=>obtain⟨_,_,_,ob,e,_⟩:=x;exact⟨_,e⟩
 |dK kvs=>obtain⟨_,_,_,_,o,_,_,e,_⟩:=x;exact⟨_,e⟩
 |dT kvs=>obtain⟨_,_,_,_,o,_,_,e,_⟩:=x;exact⟨_,e⟩
 |set S n=>obtain⟨o,_,_,_,e,_⟩:=x;exact⟨_,e⟩
 |ins C dx fs=>obtain⟨_,_,_,e,_⟩:=x;exact⟨_,e⟩
 |own y=>exact x
 |xd fs=>obtain⟨_,⟨_,_,_,e,_⟩,_⟩:=x;exact⟨_,e⟩
 |rng lo hi=>obtain⟨_,_,_,e⟩:=x;exact⟨_,e⟩
 |frz ob u=>obtain⟨e,_⟩:=x;exact⟨_,e⟩
 |tbl ps=>exact⟨_,(show h.get? a=some _ from x)⟩
 |met f y=>exact⟨_,(show h.get? a=some _ from x)⟩
 |ext φ=>obtain⟨_,e,_⟩:=x;exact e
theorem un_of {P:Program} {w:World} {H:Hp} {h:Heap} {a:Addr} (x:HOk P w H h) (e:h.get? a=none):H a=none:=by
 cases q:H a with
 |none=>rfl
 |some o=>obtain⟨ob,z⟩:=obj_there (x a o q);rw [e] at z;cases z
theorem new_of (I:Inv X pins σ H s) (hex:X.ex=[]) {b:Addr} (e:s.heap.get? b=none):X.s₀.heap.get? b=none:=by
 cases q:X.s₀.heap.get? b with
 |none=>rfl
 |some o=>obtain⟨o',z⟩:=I.base.there b o q (by rw [hex];simp);rw [e] at z;cases z
def XNew (h:Heap) (e:Addr) (C:Value) (d:Option Addr):Prop:=
 ∃oe vs,h.get? e=some oe∧oe.cls=C∧oe.dict=d∧oe.data=.fields vs∧vs[1]?=some .none
def XTr (h:Heap) (e:Addr) (C:Value) (d:Option Addr) (fl:Value) (T:Addr):Prop:=
 ∃oe vs oT ts,h.get? e=some oe∧oe.cls=C∧oe.dict=d∧oe.data=.fields vs∧vs[1]?=some (.ref T)∧T≠e∧h.get? T=some oT∧oT.data=.fields ts∧ts[3]?=some fl
def XIn (X:Cx) (pins:List (Addr × Obj)) (H:Hp) (h:Heap) (e:Addr) (C:Value) (d:Option Addr):Prop:=
 Rec X pins H h e∧(XNew h e C d∨∃T,Rec X pins H h T∧∃fl,XTr h e C d fl T)
def qeo (X:Cx) (pins:List (Addr × Obj)) (H:Hp) (h:Heap) (e:Addr) (C:Value) (d:Option Addr) (fl:Value):Prop:=
 Rec X pins H h e∧∃T,Rec X pins H h T∧XTr h e C d fl T
theorem dict_mapF (f:Array Value→Array Value) (o:Obj):(o.mapFields f).dict=o.dict:=by
 obtain⟨c,d,dt,sl⟩:=o
 cases dt <;> rfl
theorem entry_x {M:Model} {A:Around} {E:Value→Shared→Prop} {e:Addr} {C:Value} {d:Option Addr} {head:Value} {hadNext:Bool} {Q:Unit→Shared→Prop}
  (I:Inv X pins σ H s) (hA:A.frames=some X.stack) (hst:X.stack=X.env :: X.outer) (hf:X.env.frame=some X.env.locals) (r:Rec X pins H s.heap e)
  (ho:∃oe vs,s.heap.get? e=some oe∧oe.cls=C∧oe.dict=d∧oe.data=.fields vs∧1 < vs.size)
  (h:∀s',Inv X pins σ H s'→qeo X pins H s'.heap e C d (rawInt X.env.locals)→Q () s'):
  wpAny M A (do let a←frameOf X.env;let pl←entryPlaceOf X.env.locals hadNext;let b←EntryCells.newEntry head a .none (rawInt X.env.locals) .none pl;setField (.ref e) 1 b) Q E s:=by
 obtain⟨oe,vs,he,hc,hdd,hd,hsz⟩:=ho
 have hl:=I.stack
 rw [hst] at hl hA
 have ne:e∉L2.frs X.stack:=r.frs I
 refine wpAny_bind (wpAny_frameOf_fun hA hl hf fun h₁ hs₁=>wpAny_bind (wpAny_entryPlaceOf fun pl hpl=>?_))
 unfold EntryCells.newEntry newFields
 refine wpAny_bind (wpAny_newObj_type ?_ (hpl.sizeOk5 _ _ _ _ _))
 rw [←hst] at hs₁
 have he1:h₁.get? e=some oe:=(hs₁.2.1 e ne).trans he
 generalize hN:({cls:=.type "traceback",dict:=none,data:=.fields ([head,.ref X.env.locals,.none,rawInt X.env.locals,.none]++(if pl.isEmpty then List.replicate 6 Value.none else pl)).toArray}:Obj)=N
 have he2:(h₁.push N).get? e=some oe:=Heap.get?_push_of_some _ he1
 refine wpAny_setField he2 hd hsz (h _ ?_ ?_)
 ·refine Inv.marks (s:=s) (ch:=[e]) (t':=s.toks) I (fun b hb=>by rw [zI.mp hb];exact r) (fun b o h1 h2 q=>?_) fun b o h2 q=>?_
  ·have hb:b≠e:=fun z=>h2 (by simp [z])
   rw [Heap.get?_update_other _ _ (Ne.symm hb)]
   exact Heap.get?_push_of_some _ ((hs₁.2.1 b h1).trans q)
  ·have hb:b≠e:=fun z=>h2 (by simp [z])
   obtain⟨sl,q1⟩:=hs₁.2.2 b o q
   exact⟨sl,by rw [Heap.get?_update_other _ _ (Ne.symm hb)];exact Heap.get?_push_of_some _ q1⟩
 ·have sz1:h₁.objs.size=s.heap.objs.size:=hs₁.1
  have hTe:h₁.objs.size≠e:=Nat.ne_of_gt (Heap.lt_size he1)
  have d3:=Obj.data_mapFields hd (·.setIfInBounds 1 (Value.ref h₁.objs.size))
  have e3:=Heap.get?_update_self (Obj.mapFields (·.setIfInBounds 1 (Value.ref h₁.objs.size))) he2 (Obj.isFreed_of_fields d3)
  have nf:N.isFreed=false:=by rw [←hN];rfl
  have t3:=(Heap.get?_update_other (h₁.push N) (Obj.mapFields (·.setIfInBounds 1 (Value.ref h₁.objs.size))) (Ne.symm hTe)).trans (Heap.get?_push_size h₁ nf)
  have rT:Rec X pins H ((h₁.push N).update e (Obj.mapFields (·.setIfInBounds 1 (Value.ref h₁.objs.size)))) h₁.objs.size:=by
   refine⟨Heap.get?_none_of_le (by rw [sz1];exact I.sz),I.hok.fresh (by rw [sz1];exact Nat.le_refl _),fun p hp z=>?_,⟨N,_,t3,by rw [←hN]⟩⟩
   obtain⟨q,_⟩:=I.pin p hp
   have w:=Heap.lt_size q
   rw [z,sz1] at w
   exact absurd w (Nat.lt_irrefl _)
  refine⟨⟨r.nw,r.un,r.pin,⟨_,_,e3,d3⟩⟩,h₁.objs.size,rT,_,_,N,_,e3,(Obj.cls_mapFields _ _).trans hc,?_,d3,by simp [hsz],hTe,t3,by rw [←hN],?_⟩
  ·rw [←hdd];exact dict_mapF _ _
  ·first|(simp;done) |(rcases hpl with rfl|⟨_,_,_,_,_,_,_,rfl⟩ <;> simp)
theorem note_x {M:Model} {A:Around} {E:Value→Shared→Prop} {e:Addr} {C:Value} {d:Option Addr} {Q:Unit→Shared→Prop}
  (I:Inv X pins σ H s) (hA:A.frames=some X.stack) (hst:X.stack=X.env :: X.outer) (hf:X.env.frame=some X.env.locals) (x:XIn X pins H s.heap e C d)
  (h:∀s',Inv X pins σ H s'→qeo X pins H s'.heap e C d (rawInt X.env.locals)→Q () s'):wpAny M A (noteFrame (.ref e) X.env) Q E s:=by
 obtain⟨r,x⟩:=x
 unfold noteFrame
 simp only [hf]
 rcases x with ⟨oe,vs,he,hc,hdd,hd,h1⟩ |⟨T,rT,fl,oe,vs,oT,ts,he,hc,hdd,hd,h1,hTe,hT,hdT,h3⟩
 ·refine wpAny_bind (wpAny_field he hd h1 ?_)
  rw [if_neg (by decide)]
  exact entry_x I hA hst hf r ⟨oe,vs,he,hc,hdd,hd,(Array.getElem?_eq_some_iff.mp h1).1⟩ h
 ·refine wpAny_bind (wpAny_field he hd h1 ?_)
  rw [if_pos (show (Value.ref T !=Value.none)=true from by simp)]
  refine wpAny_bind (wpAny_field hT hdT h3 ?_)
  by_cases qf:(fl==rawInt X.env.locals)=true
  ·rw [if_pos qf]
   have ef:fl=rawInt X.env.locals:=eq_of_beq qf
   rw [ef] at h3
   exact wpAny_pure (h s I ⟨r,T,rT,oe,vs,oT,ts,he,hc,hdd,hd,h1,hTe,hT,hdT,h3⟩)
  ·rw [if_neg qf]
   refine wpAny_bind (wpAny_setField hT hdT (Array.getElem?_eq_some_iff.mp h3).1 ?_)
   have oth:∀b,b≠T→(s.heap.update T (Obj.mapFields (·.setIfInBounds 3 Value.none))).get? b=s.heap.get? b:=fun b hb=>Heap.get?_update_other _ _ (Ne.symm hb)
   have J:Inv X pins σ H {s with heap:=s.heap.update T (Obj.mapFields (·.setIfInBounds 3 Value.none))}:=
    Inv.marks (s:=s) (ch:=[T]) (t':=s.toks) I (fun b hb=>by rw [zI.mp hb];exact rT) (fun b o _ h2 q=>(oth b fun z=>h2 (by simp [z])).trans q) fun b o h2 q=>⟨o.slots,(oth b fun z=>h2 (by simp [z])).trans q⟩
   have he':=(oth e (Ne.symm hTe)).trans he
   exact entry_x J hA hst hf ⟨r.nw,r.un,r.pin,⟨oe,vs,he',hd⟩⟩ ⟨oe,vs,he',hc,hdd,hd,(Array.getElem?_eq_some_iff.mp h1).1⟩ h
theorem flight_g (fr:Option Addr) {M:Model} {A:Around} {E:Value→Shared→Prop} {e:Addr} {C fl:Value} {d:Option Addr} {Q:Unit→Shared→Prop}
  (I:Inv X pins σ H s) (x:qeo X pins H s.heap e C d fl)
  (h:∀s',Inv X pins σ H s'→qeo X pins H s'.heap e C d (fr.elim Value.none fun f=>rawInt f)→Q () s'):wpAny M A (setFlight (.ref e) fr) Q E s:=by
 obtain⟨r,T,rT,oe,vs,oT,ts,he,hc,hdd,hd,h1,hTe,hT,hdT,h3⟩:=x
 have hsz:=(Array.getElem?_eq_some_iff.mp h3).1
 unfold setFlight
 refine wpAny_bind (wpAny_field he hd h1 ?_)
 rw [if_pos (show (Value.ref T !=Value.none)=true from by simp)]
 refine wpAny_setField hT hdT hsz (h _ ?_ ?_)
 all_goals have oth:∀b,b≠T→(s.heap.update T (Obj.mapFields (·.setIfInBounds 3 (fr.elim Value.none fun f=>rawInt f)))).get? b=s.heap.get? b:=fun b hb=>Heap.get?_update_other _ _ (Ne.symm hb)
 ·exact Inv.marks (s:=s) (ch:=[T]) (t':=s.toks) I (fun b hb=>by rw [zI.mp hb];exact rT) (fun b o _ h2 q=>(oth b fun z=>h2 (by simp [z])).trans q) fun b o h2 q=>⟨o.slots,(oth b fun z=>h2 (by simp [z])).trans q⟩
 ·have he':=(oth e (Ne.symm hTe)).trans he
  have d3:=Obj.data_mapFields hdT (·.setIfInBounds 3 (fr.elim Value.none fun f=>rawInt f))
  have hT':=Heap.get?_update_self (Obj.mapFields (·.setIfInBounds 3 (fr.elim Value.none fun f=>rawInt f))) hT (Obj.isFreed_of_fields d3)
  exact⟨⟨r.nw,r.un,r.pin,⟨oe,vs,he',hd⟩⟩,T,⟨rT.nw,rT.un,rT.pin,⟨_,_,hT',d3⟩⟩,oe,vs,_,_,he',hc,hdd,hd,h1,hTe,hT',d3,by simp [hsz]⟩
theorem flight_x {M:Model} {A:Around} {E:Value→Shared→Prop} {e:Addr} {C fl:Value} {d:Option Addr} {Q:Unit→Shared→Prop}
  (I:Inv X pins σ H s) (x:qeo X pins H s.heap e C d fl)
  (h:∀s',Inv X pins σ H s'→qeo X pins H s'.heap e C d .none→Q () s'):wpAny M A (setFlight (.ref e) none) Q E s:=flight_g none I x h
theorem qeo.xin {h:Heap} {e:Addr} {C fl:Value} {d:Option Addr} (x:qeo X pins H h e C d fl):XIn X pins H h e C d:=
 let ⟨r,T,rT,q⟩:=x
 ⟨r,.inr ⟨T,rT,_,q⟩⟩
theorem qeo.xinL {h:Heap} {e:Addr} {C:Value} {d:Option Addr} (x:qeo X pins H h e C d (rawInt X.env.locals)):XIn X pins H h e C d:=x.xin
def CX1 (P:Program) (w:World):CXT:=fun outer H s E e s'=>∃(a:Addr) (C:Value) (d:Option Addr) (H':Hp),e=.ref a∧s'.os=s.os∧AllBare s'.gens∧Un (L2.frs outer) [] H H' s.heap s'.heap∧HOk P w H' s'.heap∧
 s.heap.get? a=none∧H' a=none∧(∃T,s.heap.get? T=none∧H' T=none∧XTr s'.heap a C d .none T)∧E C d H'
def Xes (X:Cx) (W:L2.St→XK):Prop:=∀(pins:List (Addr × Obj)) (σ:L2.St) (H:Hp) (s:Shared) (a:Addr) (C:Value) (d:Option Addr),Inv X pins σ H s→XIn X pins H s.heap a C d→W σ C d H→X.xe (.ref a) s
theorem xes_call {W:L2.St→XK} (h:Xes X W) (hex:X.ex=[]) {e:Value} {s':Shared} (I:Inv X pins σ H s) (q:CX1 X.prog X.w X.stack H s (W σ) e s'):X.xe e s':=by
 obtain⟨a,C,d,H',rfl,os,bare,un,hok,la,na,⟨T,lT,nT,x⟩,w⟩:=q
 have J:Inv X pins σ H' s':=I.call' (ch:=[]) os un hok bare (fun b z=>absurd z (by simp))
 have pn:∀b,s.heap.get? b=none→∀p∈X.pn++pins,p.1≠b:=fun b lb p hp z=>by
  have w:=(I.pin p hp).1
  rw [z,lb] at w
  cases w
 obtain⟨oe,vs,oT,ts,he,hc,hdd,hd,h1,hTe,hT,hdT,h3⟩:=id x
 exact h pins σ H' s' a C d J ⟨⟨new_of I hex la,na,pn a la,⟨oe,vs,he,hd⟩⟩,.inr ⟨T,⟨new_of I hex lT,nT,pn T lT,⟨oT,ts,hT,hdT⟩⟩,_,x⟩⟩ w
end
section
variable {X : Cx} {pins : List (Addr × Obj)} {σ : L2.St} {H : Hp} {s : Shared} {W : L2.St → XK}
def XSt (X:Cx) (W:L2.St→XK) (e:Value) (s:Shared):Prop:=∃(a:Addr) (C:Value) (d:Option Addr) (σ:L2.St) (H:Hp),e=.ref a∧Inv X [] σ H s∧XIn X [] H s.heap a C d∧W σ C d H
abbrev xw (X:Cx) (W:L2.St→XK):Cx:=X.wish (XSt X W)
theorem Rec.less {h:Heap} {b:Addr} (r:Rec X pins H h b):Rec X [] H h b:=⟨r.nw,r.un,fun p hp=>r.pin p (by rw [yD] at hp;exact yI _ hp),r.ob⟩
theorem XIn.less {h:Heap} {a:Addr} {C:Value} {d:Option Addr} (x:XIn X pins H h a C d):XIn X [] H h a C d:=by
 obtain⟨r,x⟩:=x
 rcases x with x|⟨T,rT,x⟩
 ·exact⟨r.less,.inl x⟩
 ·exact⟨r.less,.inr ⟨T,rT.less,x⟩⟩
theorem Rec.unwish {E:Value→Shared→Prop} {h:Heap} {b:Addr} (r:Rec (X.wish E) pins H h b):Rec X pins H h b:=⟨r.nw,r.un,r.pin,r.ob⟩
theorem XIn.unwish {E:Value→Shared→Prop} {h:Heap} {a:Addr} {C:Value} {d:Option Addr} (x:XIn (X.wish E) pins H h a C d):XIn X pins H h a C d:=by
 obtain⟨r,x⟩:=x
 rcases x with x|⟨T,rT,x⟩
 ·exact⟨r.unwish,.inl x⟩
 ·exact⟨r.unwish,.inr ⟨T,rT.unwish,x⟩⟩
theorem qar:Xes (xw X W) W:=fun pins σ H s a C d I x w=>⟨a,C,d,σ,H,rfl,I.unwish.pins_of (fun _ z=>nomatch z),x.unwish.less,w⟩
theorem qec (hst:X.stack=X.env :: X.outer) (hf:X.env.frame=some X.env.locals):PassesOwn (model X.prog X.w) X.A X.env (XSt X W):=by
 rintro e s' ⟨a,C,d,σ,H,rfl,I,x,w⟩
 show wpAny _ _ (noteFrame (.ref a) X.env) _ _ s'
 refine note_x I I.ok.frames hst hf x fun s2 I2 x2=>?_
 obtain⟨r,T,rT,oe,vs,oT,ts,he,hc,hdd,hd,h1,r2⟩:=id x2
 unfold cameBackBy
 refine wpAny_bind (wpAny_field he hd h1 ?_)
 have fin:wpAny (model X.prog X.w) X.A (setFlight (.ref a) X.env.frame) (fun _ s''=>XSt X W (.ref a) s'') (XSt X W) s2:=by
  rw [hf]
  exact flight_g (some X.env.locals) I2 x2 fun s3 I3 x3=>⟨a,C,d,σ,H,rfl,I3,qeo.xinL x3,w⟩
 first
  |(rw [if_neg (show ¬((Value.ref T==Value.none)=true) from by simp)];exact fin)
  |(rw [if_neg (show ¬((Value.ref T==Value.none)=true) from by simp)];exact wpAny_bind (wpAny_pure fin))
  |(refine wpAny_bind ?_;rw [if_neg (show ¬((Value.ref T==Value.none)=true) from by simp)];exact wpAny_pure fin)
theorem PSs.xes {st:List Stmt} {t:TS} (hx:Xes X W) (h:PSs (xw X W) st t):PSs X st t:=fun pins s σ H D I hw=>
 wpAny_mono (h pins s σ H D (I.wish _) hw) (fun _ _ q=>q.unwish) fun _ _ ⟨a,C,d,σ',H',e,I',x,w⟩=>by subst e;exact hx [] σ' H' _ a C d I' x w
end
section
variable {P : Program} {w : World} {K : Frag} {mg : Str → Option Value} {base : Heap}
theorem xes_fn {N:List Str} {qual:Str} {scope:Scope} {f:Addr} {cd:Value} {A:Around} {outer:List Env} {s:Shared} {H:Hp} {E:XK}:
  Xes (cxOf (CX1 P w) P w K mg base N qual scope f cd A outer s H E) (fun _=>E):=by
 intro pins σ H1 s1 a C d I x wE
 show wpAny _ _ (leaving _ _) _ _ s1
 unfold leaving
 refine wpAny_bind (note_x I I.ok.frames rfl rfl x fun s2 I2 x2=>flight_x I2 x2 fun s3 I3 x3=>?_)
 obtain⟨r,T,rT,xt⟩:=x3
 exact⟨a,C,d,H1,rfl,I3.os,I3.bare,I3.base,I3.hok,r.nw,r.un,⟨T,rT.nw,rT.un,xt⟩,wE⟩
theorem okX {x qual:Str} {st:Stmt} {f:Addr} {fd:FuncData} {N ps:List Str} {k:Nat} {sp:Sp} (F:Fun K x qual st f fd) (S:FnScope N ps (qa7 st)) (len:∀vs H Q E,sp vs H Q E→vs.length=ps.length)
  (hbody:∀(cdv:Value) (A:Around) (outer:List Env) (s:Shared) (H:Hp) (vs:List V) (Q:VK) (E:XK),Room k (A.deeper (envOfC qual (qa7 st) s.heap.objs.size f cdv))→sp vs H Q E→
   ∃t,PSs (xw (cxOf (CX1 P w) P w K mg base N qual (qa7 st) f cdv A outer s H E) (fun _=>E)) (qbj st) t∧t {nx:=fun _ H'=>Q .non H',rt:=Q} (start N vs) H):FnOk P w K mg base (CX1 P w) (k+1) f fd ps sp:=by
 obtain⟨oc,od,kV,doc,pm,an,cdv,ct,osl,rfl,lk,hcd⟩:=F.ex
 refine fn_of lk hcd S len fun A outer s H vs Q E hr hsp=>?_
 obtain⟨t,ht,q⟩:=hbody cdv A outer s H vs Q E hr hsp
 exact⟨t,PSs.xes xes_fn ht,q⟩
end
section
variable {X : Cx} {k : Nat} {f : Addr} {fd : FuncData} {ps : List Str} {sp : Sp} {dvs : List V} {ds : List Value} {W : L2.St → XK} {x : Str} {p pos : Pos} {e : Expr} {es : List Expr} {t : TA}
def tCallX (sp:Sp) (dvs:List V) (W:L2.St→XK) (t:TA):TE:=fun σ H Q=>t σ H fun vs H1=>sp (vs++dvs) H1 Q (W σ)
theorem run_fnX {pins:List (Addr × Obj)} {σ:L2.St} {H:Hp} {s:Shared} {Q:VK} {us:List Value} {vs:List V} (F:FnOk X.prog X.w X.K X.mg X.base (CX1 X.prog X.w) k f fd ps sp) (hr:Room k X.A) (hb:qah X.K fd ps ds) (hd:qb9 dvs ds) (hx:Xes X W) (hex:X.ex=[])
  (I:Inv X pins σ H s) (r:qb9 vs us) (h:sp (vs++dvs) H Q (W σ)):wpAny (model X.prog X.w) X.A (call (.ref f) us) (EP X pins σ Q) X.xe s:=by
 have r2:qb9 (vs++dvs) (us++ds):=r.append hd
 have hl:(us++ds).length=ps.length:=by rw [←r2.length];exact F.len _ _ _ _ h
 refine wpAny_call (codeAny_mono (F.run X.A X.stack s H ⟨us, []⟩ (us++ds) (vs++dvs) Q (W σ) hr I.env0 (hb s us I.kIn hl) r2 h) fun r s' hq=>?_)
 match r,hq with
 | .error e,hq=>exact xes_call hx hex I hq
 | .ok (.ret u),hq=>exact I.after hq
 | .ok .next,hq=>exact False.elim hq
 | .ok .brk,hq=>exact False.elim hq
 | .ok .cont,hq=>exact False.elim hq
theorem qc0 (F:FnOk X.prog X.w X.K X.mg X.base (CX1 X.prog X.w) k f fd ps sp) (hr:Room k X.A) (hg:Gl X x) (hm:X.mg x=some (.ref f)) (hk:keepIn X.K (.ref f)=true) (hb:qah X.K fd ps ds) (hd:qb9 dvs ds) (hx:Xes X W)
  (ha:PA X (e :: es) t) (hex:X.ex=[]:=by rfl) (hdb:(x==("__debug__" :Str))=false:=by decide) (he:starEach (e :: es) X.env=(false,eval e X.env) :: starEach es X.env:=by rfl) (hpl:(backTo pos (starEach es X.env)).any (·.1)=false:=by rfl):
  PE X (.Call (.Name x p) (e :: es) [] pos) (tCallX sp dvs W t):=by
 intro pins s σ H Q I h
 refine wpAny_Call_Name_kw (qd7 I hg hm ?_ hdb)
 refine PySem.W.callWith_K (h₀:=X.base) I.ok.mod.kin hk (thn (ha pos pins s σ H _ I h) fun us s1 ⟨vs,H1,I1,r,q⟩=>⟨I1.kIn,?_⟩) he hpl
 exact run_fnX F hr hb hd hx hex I1 r q
end
structure XCls (K:Frag) (C:Addr):Prop where
 ob:∃(nm q:Str) (N:Addr) (bs bm:List Value) (hdct:Bool) (sn:List Str) (sub:List Value) (ab:Bool) (col:Option Bool) (dd:Option Addr) (k0 k1 k2 k3 k5:Option Value) (mN:Str→Option Value),
  K.lookup C=some (excClassObj nm q C N bs bm hdct sn sub ab col dd k0 k1 k2 k3 k5 "ValueError.__new__")∧(∀h:Heap,K.In h→h.Ns N mN)∧mN "__init__" =none∧
  ∀h:Heap,K.In h→OwnTail h [.type "ValueError",.type "Exception",.type "BaseException",.type "object"] bm
section
variable {X : Cx} {x : Str} {C : Addr} {W : L2.St → XK} {np cpos pos : Pos} {e : Expr} {es : List Expr} {t : TA}
def tRaise (t:TA) (C:Addr) (W:L2.St→XK):TS:=fun _ σ H=>t σ H fun xs H1=>xs.length≤sizeLine∧W σ (.ref C) none H1
theorem qbv (hc:X.calm=true) (M:XCls X.K C) (hg:Gl X x) (hm:X.mg x=some (.ref C)) (hx:Xes X W) (ha:PA X (e :: es) t) (hex:X.ex=[]:=by rfl) (hdb:(x==("__debug__" :Str))=false:=by decide)
  (he:starEach (e :: es) X.env=(false,eval e X.env) :: starEach es X.env:=by rfl) (hpl:(backTo cpos (starEach es X.env)).any (·.1)=false:=by rfl):
  PS X (.Raise (some (.Call (.Name x np) (e :: es) [] cpos)) none pos) (tRaise t C W):=by
 intro pins s σ H D I h
 obtain⟨nm,q,N,bs,bm,hdct,sn,sub,ab,col,dd,k0,k1,k2,k3,k5,mN,hC,hN,hni,T⟩:=M.ob
 refine wpAny_Raise_call_subU (C:=C) (nm:=nm) (q:=q) (N:=N) (bs:=bs) (bm:=bm) (hdct:=hdct) (sn:=sn) (sub:=sub) (ab:=ab) (col:=col) (dd:=dd) (k0:=k0) (k1:=k1) (k2:=k2) (k3:=k3) (k5:=k5)
  PySem.F.excBase_ValueError (by decide) PySem.F.excBase_ValueError (mN:=mN) ((T _ I.kIn).hasType PySem.F.excBase_ValueError.hasBase) (I.ok.hd hc) ?_ hni ?_
 ·rw [he];show (false ||(backTo cpos (starEach es X.env)).any (·.1))=false;rw [hpl];rfl
 ·refine qd7 I hg hm ⟨rfl,?_⟩ hdb
  have z:=ha cpos pins s σ H _ I h
  rw [he] at z ⊢
  refine Calls.evalArgs_plain (wpAny_mono z (fun us s2 ⟨vs,H2,I2,r,hl,q⟩=>⟨rfl,by rw [←r.length];exact hl,I2.kIn _ _ hC,hN _ I2.kIn,T _ I2.kIn,fun h' a m=>?_⟩) fun _ _ y=>y)
  obtain⟨tp,ea,_,_⟩:=m.there
  have J:Inv X pins σ H2 {s2 with heap:=h'}:=I2.kept (t':=s2.toks) m.keeps
  refine hx pins σ H2 _ a (.ref C) none J ⟨⟨new_of I2 hex m.new,un_of I2.hok m.new,fun p hp y=>?_,⟨_,_,ea,rfl⟩⟩,.inl ⟨_,_,ea,rfl,rfl,rfl,rfl⟩⟩ q
  have w:=(I2.pin p hp).1
  rw [y,m.new] at w
  cases w
end
section
variable {X : Cx} {pins : List (Addr × Obj)} {σ : L2.St} {H : Hp} {s : Shared}
abbrev pnd (X:Cx) (pins:List (Addr × Obj)):Cx:={X with pn:=X.pn++pins}
abbrev suite (X:Cx) (a:Addr):Cx:={X with A:=X.A.mark (some (.ref a)),calm:=false,xe:=fun _ _=>False}
def XO (a:Addr) (C:Value) (d:Option Addr):HO:=.ext fun h=>∃(oe:Obj) (vs:Array Value),h.get? a=some oe∧oe.cls=C∧oe.dict=d∧oe.data=.fields vs
end
section
variable {X : Cx}
def tCut (t:TS):TS:=fun D σ H=>∃J:L2.St→Hp→Prop,t {D with nx:=J} σ H∧∀σ' H',J σ' H'→D.nx σ' H'
theorem qcj {st:Stmt} {t:TS} (h:PS X st t):PS X st (tCut t):=by
 intro pins s σ H D I ⟨J,hw,k⟩
 refine wpAny_mono (h pins s σ H _ I hw) (fun f s' q=>?_) fun _ _ z=>z
 cases f with
 |next=>obtain⟨σ',H',I',z⟩:=q;exact⟨σ',H',I',k _ _ z⟩
 |brk=>exact q
 |cont=>exact q
 |ret u=>exact q
end
section
variable {X : Cx}
end
theorem qcs {K:Frag} {C:Addr} (q:excIn K C [.type "ValueError",.type "Exception",.type "BaseException",.type "object"] "ValueError.__new__" =true):XCls K C:=by
 unfold excIn at q
 split at q
 ·rename_i dd cd sl ho
  split at q
  ·rename_i C' bm k0 k1 k2 k3 n k5 hm hs
   simp only [Bool.and_eq_true,beq_iff_eq,Bool.not_eq_true'] at q
   obtain⟨⟨⟨⟨⟨rfl,rfl⟩,hdel⟩,ht⟩,hok⟩,hni⟩:=q
   obtain⟨nm,bs,mro,ns,qn,hd,sn,sub,ab,col,del⟩:=cd
   dsimp only at hm hdel hok hni
   subst hm hdel
   have hsl:sl= #[k0,k1,k2,k3,some (.builtin "ValueError.__new__"),k5]:=by
    obtain⟨l⟩:=sl
    simp only at hs
    rw [hs]
   subst hsl
   unfold PySem.W.nsOkIn at hok
   split at hok
   ·rename_i c1 d1 es ep sl1 hN
    have hSK:StrKeys es:=fun e he=>by
     have z:=Array.all_eq_true_iff_forall_mem.mp hok e he
     split at z
     ·rename_i n t q;exact⟨n,t,q⟩
     ·cases z
    have hNs:∀h:Heap,K.In h→h.Ns ns (fun x=>nsFind es x):=fun h X=>⟨_,es,ep,X _ _ hN,rfl,hSK,fun _=>rfl⟩
    refine⟨nm,qn,ns,bs,bm,hd,sn,sub,ab,col,dd,k0,k1,k2,k3,k5,fun x=>nsFind es x,ho,hNs,?_,fun h X=>PySem.W.tail_of_in X ht⟩
    unfold nsIn at hni
    rw [hN] at hni
    dsimp only at hni
    split at hni
    ·cases hni
    ·rename_i hf
     show nsFind es "__init__" =none
     unfold nsFind findBy
     rw [←Array.find?_toList,hf]
     rfl
   ·cases hok
  ·cases q
 ·cases q
def TyX (K:Frag) (H:Hp) (x:V) (t:Value) (b:Bool):Prop:=TyOf K H x t∨∃(a:Addr) (d:Option Addr),x=.ref a∧H a=some (XO a t d)∧b=true
def rIsi (K:Frag):List V→Hp→VK→Prop:=fun xs H Q=>∃(x c:V) (u t:Value) (b:Bool),xs=[x,c]∧qb1 c u∧(∀u',qb1 c u'→u'=u)∧TyX K H x t b∧kitOne K t u=some b∧Q (.bl b) H
theorem isi_yes {prog:Program} {w:World} {A:Around} {E:Value→Shared→Prop} {s:Shared} {Q:Value→Shared→Prop} {K:Frag} {a:Addr} {t c:Value} (KX:K.In s.heap) (hp:∃o,s.heap.get? a=some o∧o.cls=t) (e:kitOne K t c=some true)
  (h:Q (.bool true) s):wpAny (model prog w) A (call (.builtin "isinstance") [.ref a,c]) Q E s:=by
 refine call_isinstance_of ?_ (by intro q;cases q)
 obtain⟨h0,g,d,tt,os⟩:=s
 obtain⟨o,ho,hc⟩:=hp
 have LT:PySem.W.Looks (model prog w) h0 (typeOf (.ref a)) t:=hc ▸ (PySem.W.Looks.ld ho).andThen .now
 unfold kitOne at e
 unfold Builtin.«isinstance.nested»
 refine wpAny_bind (LT.at ?_)
 by_cases q:(t==c)=true
 ·rw [if_pos q]
  first
   |exact wpAny_bind (wpAny_rule (wpAny_pure h))
   |exact wpAny_bind (wpAny_rule h)
 ·rw [if_neg q] at e
  rw [if_neg q]
  obtain⟨hty,his,hsub⟩:=PySem.W.kit_cls (M:=model prog w) KX e
  have LI:PySem.W.Looks (model prog w) h0 (isInstance (.ref a) c) true:=LT.andThen hsub
  refine wpAny_bind (hty.at ?_)
  rw [if_pos (by decide)]
  k_delta "plainIsInstance"
  refine wpAny_bind (wpAny_bind (his.at ?_))
  simp only [Bool.not_true,Bool.false_eq_true,if_false]
  refine wpAny_bind (LI.at ?_)
  first
   |exact wpAny_pure (wpAny_pure h)
   |(simp only [if_true];first|exact wpAny_pure (wpAny_pure h) |exact wpAny_pure h|exact wpAny_bind (wpAny_pure (wpAny_pure h)))
theorem qda {X:Cx}:Xes X (fun _ _ _ _=>False):=fun _ _ _ _ _ _ _ _ _ w=>w.elim
section
variable {X : Cx}
theorem qbq:qby X (.builtin "isinstance") (rIsi X.K):=by
 intro pins s σ H xs us Q I hv h
 obtain⟨x,c,u,t,b,rfl,hu,hu',ty,e,q⟩:=h
 cases hv with
 |cons r1 hv=>
  cases hv with
  |cons r2 hv=>
   cases hv
   rename_i v1 v2
   rw [hu' v2 r2]
   rcases ty with ty|⟨a,d,rfl,ea,rfl⟩
   ·exact isinst_ok I r1 ty e fun tk=>⟨.bl b,H,I.tok tk,rfl,q⟩
   ·cases r1
    obtain⟨⟨oe,vs,h1,h2,_⟩,_⟩:=(show qbd X.prog X.w H s.heap a (XO a t d) from I.hok a _ ea)
    exact isi_yes I.kIn ⟨oe,h1,h2⟩ e ⟨.bl true,H,I,rfl,q⟩
def rIsN:R2:=fun x y H Q=>y=.non∧Q (.bl (decide (x=.non))) H
def rNotN:R2:=fun x y H Q=>y=.non∧Q (.bl (!decide (x=.non))) H
def rLen (K:Frag):List V→Hp→VK→Prop:=fun xs H Q=>∃p ys,xs=[.ref p]∧(SqL K H p ys∨SqT K H p ys)∧Q (.int ys.length) H
theorem qau:qby X (.builtin "len") (rLen X.K):=call_len_seq
theorem op_isNN:OpR X (compareOp .Is) rIsN:=op_isN
theorem qfi:OpR X (compareOp .IsNot) rNotN:=op_notN
end
section
variable {K : Frag} {H : Hp} {Q : VK}
theorem r_isi {x:V} {T:String} {t:Value} {b:Bool} (ty:TyOf K H x t) (e:kitOne K t (.type T)=some b) (h:Q (.bl b) H):rIsi K [x,.ty T] H Q:=⟨x,_,_,t,b,rfl,rfl,fun _ z=>z,.inl ty,e,h⟩
end
section
variable {K : Frag}
theorem kit_int_int:kitOne K (.type "int") (.type "int")=some true:=by rfl
theorem kit_int_bool:kitOne K (.type "int") (.type "bool")=some false:=by rfl
theorem kit_str_str:kitOne K (.type "str") (.type "str")=some true:=by rfl
theorem kit_non_int:kitOne K (.type "NoneType") (.type "int")=some false:=by rfl
theorem kit_lst_lst:kitOne K (.type "list") (.type "list")=some true:=by rfl
theorem kit_dct_dct:kitOne K (.type "dict") (.type "dict")=some true:=by rfl
end
section
variable {K : Frag} {σ σ' : L2.St} {H H1 : Hp} {Q : VK} {D : Ends} {ta tb te : TE} {t u : TS} {c c' : TT} {ar : TA} {v x y : V} {i j : Nat}
theorem qac {N:List Str} {vs:List V} (e:start N vs=σ) (h:t D σ H):t D (start N vs) H:=e ▸ h
theorem r_var (e:σ[i]?=some (some v)) (h:Q v H):tVar i σ H Q:=⟨v,e,h⟩
theorem r_c (h:Q v H):tC v σ H Q:=h
theorem r_op {r:R2} (h:ta σ H fun x H1=>tb σ H1 fun y H2=>r x y H2 Q):tOp r ta tb σ H Q:=h
theorem r_I0 {g:Int→Int→V} {i j:Int} (h:Q (g i j) H):rI0 g (.int i) (.int j) H Q:=⟨i,j,rfl,rfl,h⟩
theorem r_I {C:Int→Int→Prop} {g:Int→Int→V} {i j:Int} (hc:C i j) (h:Q (g i j) H):rI C g (.int i) (.int j) H Q:=⟨i,j,rfl,rfl,hc,h⟩
theorem r_eqI {i j:Int} (h:Q (.bl (decide (i=j))) H):rEq (.int i) (.int j) H Q:=⟨rfl,by
 have e:decide (V.int i=V.int j)=decide (i=j):=by by_cases z:i=j <;> simp [z]
 rw [e];exact h⟩
theorem r_eqS {i j:Str} (h:Q (.bl (decide (i=j))) H):rEq (.str i) (.str j) H Q:=⟨rfl,by
 have e:decide (V.str i=V.str j)=decide (i=j):=by by_cases z:i=j <;> simp [z]
 rw [e];exact h⟩
theorem r_exb {b:Bool} {Q:Bool→Prop} (h:Q b):∃k,V.bl b=.bl k∧Q k:=⟨b,rfl,h⟩
theorem r_test {Q:Bool→Hp→Prop} (h:te σ H fun x H'=>∃k,x=.bl k∧Q k H'):tTest te σ H Q:=h
theorem r_tB {Q:Bool→Hp→Prop} (h:te σ H fun x H'=>∃k,x=.bl k∧Q k H'):tB te σ H Q:=h
theorem r_and {Q:Bool→Hp→Prop} (h:c σ H fun b H1=>if b=true then c' σ H1 Q else Q false H1):tAnd c c' σ H Q:=h
theorem r_or {Q:Bool→Hp→Prop} (h:c σ H fun b H1=>if b=true then Q true H1 else c' σ H1 Q):tOr c c' σ H Q:=h
theorem r_not {Q:Bool→Hp→Prop} (h:c σ H fun b H1=>Q (!b) H1):tNot c σ H Q:=h
theorem r_andV (h:ta σ H fun x H1=>∃k,x=.bl k∧if k=true then tb σ H1 Q else Q (.bl false) H1):tAndV ta tb σ H Q:=h
theorem r_orV (h:ta σ H fun x H1=>∃k,x=.bl k∧if k=true then Q (.bl true) H1 else tb σ H1 Q):tOrV ta tb σ H Q:=h
theorem r_notV (h:ta σ H fun x H1=>∃k,x=.bl k∧Q (.bl (!k)) H1):tNotV ta σ H Q:=h
theorem r_next (h:D.nx σ H):tNext D σ H:=h
theorem r_seq (h:t {nx:=u D,rt:=D.rt,bk:=D.bk,ct:=D.ct} σ H):tSeq t u D σ H:=h
theorem r_drop (h:te σ H fun _ H1=>D.nx σ H1):tDrop te D σ H:=h
theorem r_ret (h:te σ H D.rt):tRet te D σ H:=h
theorem r_if (h:c σ H fun b H1=>if b=true then t D σ H1 else u D σ H1):tIfS c t u D σ H:=h
theorem r_asg {g:TG} (h:te σ H fun x H1=>g x σ H1 D.nx):tAsg te g D σ H:=h
theorem r_name {Q:L2.St→Hp→Prop} (e:σ.set i (some v)=σ') (h:Q σ' H):gName i v σ H Q:=by subst e;exact h
theorem r_gnil {Q:L2.St→Hp→Prop} (h:Q σ H):gNil [] σ H Q:=⟨rfl,h⟩
theorem r_gcons {g:TG} {gs:TGs} {vs:List V} {Q:L2.St→Hp→Prop} (h:g v σ H fun σ' H'=>gs vs σ' H' Q):gCons g gs (v :: vs) σ H Q:=⟨v,vs,rfl,h⟩
theorem r_gtup {n:Nat} {gs:TGs} {a:Addr} {xs:List V} {Q:L2.St→Hp→Prop} (hS:SqT K H a xs) (hn:xs.length=n) (h:gs xs σ H Q):gTup K n gs (.ref a) σ H Q:=⟨a,xs,rfl,hS,hn,h⟩
theorem r_nx {f b c:L2.St→Hp→Prop} {r:VK} (h:f σ H):Ends.nx {nx:=f,rt:=r,bk:=b,ct:=c} σ H:=h
theorem r_rt {f b c:L2.St→Hp→Prop} {r:VK} (h:r v H):Ends.rt {nx:=f,rt:=r,bk:=b,ct:=c} v H:=h
theorem r_nil {Q:List V→Hp→Prop} (h:Q [] H):tNil σ H Q:=h
theorem r_cons {Q:List V→Hp→Prop} (h:te σ H fun x H1=>ar σ H1 fun xs H2=>Q (x :: xs) H2):tCons te ar σ H Q:=h
theorem r_tup (h:ar σ H fun xs H1=>xs.length≤sizeLine∧∀p,H1 p=none→Q (.ref p) (upd H1 p (.tup xs))):tTup ar σ H Q:=h
theorem r_lst (h:ar σ H fun xs H1=>xs.length≤sizeLine∧∀p,H1 p=none→Q (.ref p) (upd H1 p (.lst xs))):tLst ar σ H Q:=h
theorem r_new {xs:List V} {A:Prop} (hn:xs.length≤sizeLine) (h:A):xs.length≤sizeLine∧A:=⟨hn,h⟩
theorem r_call {sp:Sp} {E:XK} (h:ar σ H fun vs H1=>sp vs H1 Q E):tCall sp [] E ar σ H Q:=by
 have e:(fun vs H1=>sp (vs++ []) H1 Q E)=fun vs H1=>sp vs H1 Q E:=by funext vs H1;rw [yD]
 show ar σ H fun vs H1=>sp (vs++ []) H1 Q E
 rw [e];exact h
theorem r_callX {sp:Sp} {W:L2.St→XK} (h:ar σ H fun vs H1=>sp vs H1 Q (W σ)):tCallX sp [] W ar σ H Q:=by
 have e:(fun vs H1=>sp (vs++ []) H1 Q (W σ))=fun vs H1=>sp vs H1 Q (W σ):=by funext vs H1;rw [yD]
 show ar σ H fun vs H1=>sp (vs++ []) H1 Q (W σ)
 rw [e];exact h
theorem r_cb {r:List V→Hp→VK→Prop} (h:ar σ H fun vs H1=>r vs H1 Q):tCB r ar σ H Q:=h
theorem r_raise {C:Addr} {W:L2.St→XK} (h:ar σ H fun xs H1=>xs.length≤sizeLine∧W σ (.ref C) none H1):tRaise ar C W D σ H:=h
theorem qbn {p:Addr} {xs:List V} {k:Int} (hS:SqL K H p xs) (e:atI xs k=some v) (h:Q v H):rIxL K (.ref p) (.int k) H Q:=⟨p,xs,k,v,rfl,rfl,hS,e,h⟩
theorem r_ixT {p:Addr} {xs:List V} {k:Int} (hS:SqT K H p xs) (e:atI xs k=some v) (h:Q v H):rIxT K (.ref p) (.int k) H Q:=⟨p,xs,k,v,rfl,rfl,hS,e,h⟩
theorem r_fresh {R:Addr→Prop} (h:∀p,H p=none→R p):∀p,H p=none→R p:=h
theorem r_menu {p:Addr} {xs:List Int} {r:Int} (hS:SqL K H p (xs.map V.int)) (h0:0≤r) (h1:r < xs.length) (h:∀m,m∈xs→Q (.int m) H):rIxL K (.ref p) (.int r) H Q:=by
 have hk:r.toNat < xs.length:=by omega
 have ek:r=((r.toNat:Nat):Int):=by omega
 have q:atI (xs.map V.int) ((r.toNat:Nat):Int)=some (.int xs[r.toNat]):=qb3 (by rw [zC,zA hk] <;> rfl)
 rw [←ek] at q
 exact⟨p,_,r,_,rfl,rfl,hS,q,h _ (zL hk)⟩
theorem r_cut0 (h:t {nx:=D.nx,rt:=D.rt,bk:=D.bk,ct:=D.ct} σ H):tCut t D σ H:=⟨D.nx,h,fun _ _ z=>z⟩
theorem qff (J:L2.St→Hp→Prop) (h:t {nx:=J,rt:=D.rt,bk:=D.bk,ct:=D.ct} σ H) (k:∀σ' H',J σ' H'→D.nx σ' H'):tCut t D σ H:=⟨J,h,k⟩
theorem r_lenL {p:Addr} {ys:List V} (hS:SqL K H p ys) (h:Q (.int ys.length) H):rLen K [.ref p] H Q:=⟨p,ys,rfl,.inl hS,h⟩
theorem r_isNn (h:Q (.bl true) H):rIsN .non .non H Q:=⟨rfl,h⟩
theorem r_notNn (h:Q (.bl false) H):rNotN .non .non H Q:=⟨rfl,h⟩
end
section
variable {K : Frag} {σ : L2.St} {H : Hp} {D : Ends} {wi : TI} {g : TG} {tb : TS} {tl : TE} {ta : TA}
def FOR (J:It) (g:TG) (tb:TS) (D:Ends) (σ:L2.St) (H:Hp):Prop:=∃W:Nat→Nat→L2.St→Hp→Prop,(∃m,W 0 m σ H)∧∀i m σ H,W i m σ H→
 (J.stop i H∧D.nx σ H)∨(J.go i H∧∃N:L2.St→Hp→Prop,(∀σ' H',N σ' H'→∃m',m' < m∧W (i+1) m' σ' H')∧∀x H',J.yld i H x H'→g x σ H' fun σ2 H2=>tb {D with nx:=N,ct:=N,bk:=D.nx} σ2 H2)
def rItL (K:Frag) (x:V) (H:Hp) (R:It→Hp→Prop):Prop:=∃a,x=.ref a∧(∃xs,SqL K H a xs)∧R (Itl K a) H
def rItR (vs:List V) (H:Hp) (R:It→Hp→Prop):Prop:=∃j:Int,vs=[.int j]∧-(2^62)≤j∧j < 2^62∧R (Itr 0 j.toNat) H
theorem r_for (h:wi σ H fun J H1=>FOR J g tb D σ H1):tFor wi g tb D σ H:=h
theorem r_iL {R:It→Hp→Prop} (h:tl σ H fun x H1=>rItL K x H1 R):iList K tl σ H R:=h
theorem r_iR {R:It→Hp→Prop} (h:ta σ H fun vs H1=>rItR vs H1 R):iRng1 ta σ H R:=h
theorem r_itL {a:Addr} {xs:List V} {R:It→Hp→Prop} (hS:SqL K H a xs) (h:R (Itl K a) H):rItL K (.ref a) H R:=⟨a,rfl,⟨xs,hS⟩,h⟩
theorem r_itR {j:Int} {R:It→Hp→Prop} (h0: -(2^62)≤j) (h1:j < 2^62) (h:R (Itr 0 j.toNat) H):rItR [.int j] H R:=⟨j,rfl,h0,h1,h⟩
theorem qf2 {a:Addr} {xs:List V} (Pv:Nat→L2.St→Hp→Prop) (h0:Pv 0 σ H) (hl:∀i σ H,i≤xs.length→Pv i σ H→SqL K H a xs)
  (hs:∀i x σ H,xs[i]?=some x→Pv i σ H→g x σ H fun σ2 H2=>tb {nx:=Pv (i+1),rt:=D.rt,bk:=D.nx,ct:=Pv (i+1)} σ2 H2) (hd:∀σ H,Pv xs.length σ H→D.nx σ H):FOR (Itl K a) g tb D σ H:=for_list Pv h0 hl hs hd
theorem qc4 {lo:Int} {n:Nat} (Pv:Nat→L2.St→Hp→Prop) (h0:Pv 0 σ H)
  (hs:∀(i:Nat) σ H,i < n→Pv i σ H→g (.int (lo+i)) σ H fun σ2 H2=>tb {nx:=Pv (i+1),rt:=D.rt,bk:=D.nx,ct:=Pv (i+1)} σ2 H2) (hd:∀σ H,Pv n σ H→D.nx σ H):FOR (Itr lo n) g tb D σ H:=for_range Pv h0 hs hd
end
theorem qa9 {H:Hp} {a p:Addr} {o o':HO} (h:H a=some o) (n:H p=none):upd H p o' a=some o:=by rw [qa6 (qa5 h n)];exact h
theorem sqL_new {K:Frag} {H:Hp} {a p:Addr} {o:HO} {xs:List V} (h:SqL K H a xs) (n:H p=none):SqL K (upd H p o) a xs:=(qab n o).seq h
theorem qdb {H0 H:Hp} {p:Addr} {o:HO} (h:qaq H0 H) (n:H p=none):qaq H0 (upd H p o):=h.trans (qab n o)
theorem i_t {c A B:Prop} [Decidable c] (h:c) (hA:A):if decide c=true then A else B:=by rw [decide_eq_true h];exact iteT hA
theorem i_f {c A B:Prop} [Decidable c] (h:¬c) (hB:B):if decide c=true then A else B:=by rw [decide_eq_false h];exact iteF hB
theorem i_2 {c A B:Prop} [Decidable c] (h1:c→A) (h2:¬c→B):if decide c=true then A else B:=by
 by_cases h:c
 ·exact i_t h (h1 h)
 ·exact i_f h (h2 h)
theorem i_nT {A B:Prop} (h:B):if (!true)=true then A else B:=h
theorem i_nF {A B:Prop} (h:A):if (!false)=true then A else B:=iteT h
theorem i_b2 {b:Bool} {A B:Prop} (h1:b=true→A) (h2:b=false→B):if b=true then A else B:=by
 cases b
 ·exact iteF (h2 rfl)
 ·exact iteT (h1 rfl)
def AllC {α:Type} (f:α→Prop):List α→Prop
 | []=>True
 |a :: l=>f a∧AllC f l
theorem AllC.mem {α:Type} {f:α→Prop}:∀{l:List α},AllC f l→∀a∈l,f a
 | [],_,_,h=>absurd h (by simp)
 |b :: l,h,a,m=>by
  rcases zK.mp m with rfl|m
  ·exact h.1
  ·exact AllC.mem h.2 a m
def qb2 (caps:List Nat) (σ:L2.St):L2.St:=caps.map fun j=>(σ[j]?).getD none
def rApp (acc:Addr) (N:Hp→Prop) (y:V) (H:Hp):Prop:=∃ys,H acc=some (.lst ys)∧ys.length < sizeLine∧N (upd H acc (.lst (ys++ [y])))
def COMP (J:It) (caps:List Nat) (tt:TT) (te:TE) (acc:Addr) (σ:L2.St) (H:Hp) (Q:VK):Prop:=∃W:Nat→Nat→Hp→Prop,(∃m,W 0 m H)∧∀i m H,W i m H→
 (J.stop i H∧Q (.ref acc) H)∨(J.go i H∧∃N:Hp→Prop,(∀H',N H'→∃m',m' < m∧W (i+1) m' H')∧∀v H',J.yld i H v H'→tt (some v :: qb2 caps σ) H' fun b H2=>
  if b=true then te (some v :: qb2 caps σ) H2 fun y H3=>rApp acc N y H3 else N H2)
abbrev CT (α:Type):=Addr→Shared→Hp→List Addr→α
def tComp (wi:TI) (caps:List Nat) (tt:CT TT) (te:CT TE):TE:=fun σ H Q=>wi σ H fun J H1=>∀(C:Addr) (s:Shared) (H0:Hp) (fp:List Addr) (acc:Addr),H1 acc=none→COMP J caps (tt C s H0 fp) (te C s H0 fp) acc σ (upd H1 acc (.lst [])) Q
def tTrue:TT:=fun _ H Q=>Q true H
def PIfs (X:Cx) (ifs:List Expr) (t:TT):Prop:=
 ∀(pins:List (Addr × Obj)) (s:Shared) (σ:L2.St) (H:Hp) (Q:Bool→Hp→Prop),Inv X pins σ H s→t σ H Q→
  wpAny (model X.prog X.w) X.A (forIn ifs true fun c r=>if r=true then do let ok←isTrue c X.env (eval c X.env);pure (ForInStep.yield ok) else pure (ForInStep.yield r)) (TP X pins σ Q) X.xe s
theorem qd3 {X:Cx}:PIfs X [] tTrue:=fun pins s σ H Q I h=>wpAny_tests_nil ⟨H,I,h⟩
theorem qds {X:Cx} {c:Expr} {t:TT} (h:PT X c t):PIfs X [c] t:=fun pins s σ H Q I hw=>wpAny_tests_one (h pins s σ H Q I hw)
def cxC (X:Cx) (N:List Str) (scope:Scope) (cl:List (Str × Addr)) (C:Addr) (s:Shared) (H:Hp) (fp:List Addr):Cx where
 prog:=X.prog
 w:=X.w
 K:=X.K
 mg:=X.mg
 base:=X.base
 A:=X.A
 N:=N
 s₀:=s
 H₀:=H
 env:=compEnvC scope cl C X.env
 outer:=X.stack
 stack:=X.stack
 ex:=fp
 fn:=fun _=>false
 calm:=X.calm
 pn:=[]
 xe:=fun _ _=>False
structure Caps (X:Cx) (x:Str) (scope:Scope) (cl:List (Str × Addr)) (caps:List Nat) (cn:List Str):Prop where
 clos:closureFor scope X.env=pure cl
 kind:scope.kind=.function
 cell:∀y∈scope.names,y.2≠ .cell
 names:∀y∈scope.names,y.2=.local→scope.names.lookup y.1=some .local
 tg:scope.names.lookup x=some .local
 sub:∀y c,cl.lookup y=some c→X.env.cells.lookup y=some c
 has:∀y,((relabel scope X.env).names.lookup y=some .cell∨(relabel scope X.env).names.lookup y=some .free)→∃c,cl.lookup y=some c
 len:caps.length=cn.length
 cap:∀(k:Nat) (y:Str) (j:Nat),cn[k]?=some y→caps[k]?=some j→X.N[j]?=some y∧X.env.kindOf y=some .cell∧(relabel scope X.env).names.lookup y=some .cell∧X.env.scope.names.lookup y=some .cell∧∃c,cl.lookup y=some c
 nd:(x :: cn).Nodup
section
variable {X : Cx} {pins : List (Addr × Obj)} {σ : L2.St} {H : Hp} {s : Shared}
theorem Inv.comp {x:Str} {scope:Scope} {cl:List (Str × Addr)} {caps:List Nat} {cn:List Str} (Cp:Caps X x scope cl caps cn) (I:Inv X pins σ H s) {fp:List Addr} (hf:∀b∈fp,FpOk X pins H b) (hlt:∀b∈fp,b < s.heap.objs.size) {h₁:Heap} {t':Nat}
  (hns:h₁.Ns s.heap.objs.size (fun _=>none)) (k:∀b o,s.heap.get? b=some o→h₁.get? b=some o):
  Inv (cxC X (x :: cn) scope cl s.heap.objs.size s H fp) [] (none :: qb2 caps σ) H {s with heap:=h₁,toks:=t'}:=by
 have cne:∀y c,cl.lookup y=some c→∃v,s.heap.IsCell c v:=fun y c e=>I.cell y c (Cp.sub y c e)
 have ltC:∀y c,cl.lookup y=some c→c < s.heap.objs.size:=fun y c e=>let ⟨v,q⟩:=cne y c e;q.lt
 have isC:∀c v,s.heap.IsCell c v→h₁.IsCell c v:=fun c v ⟨o,e,d⟩=>⟨o,k c o e,d⟩
 refine⟨⟨I.ok.mod,Cp.kind,I.ok.glob,I.ok.blt,Nat.le_refl _,fun y z c e1 e2=>I.ok.inj y z c (Cp.sub y c e1) (Cp.sub z c e2),fun y hy=>Cp.has y hy,fun y c z=>(Bool.false_ne_true z).elim,I.ok.hd,I.ok.frames,.inl rfl,
  fun b hb=>⟨Nat.ne_of_lt (hlt b hb),fun y c e z=>?_⟩,I.bs,Nat.le_trans I.ok.bsz I.sz,fun b o e hb=>?_,fun b hb z=>?_,I.stack,I.stkFree⟩,
  rfl,I.bare,Un.kept k,⟨_,hns,fun i y v e1 e2 e3=>?_⟩,fun y c e=>?_,I.hok.fresh (Nat.le_refl _),fun y c e=>I.freeC y c (Cp.sub y c e),fun p hp=>absurd (show p∈([]:List (Addr × Obj)) from hp) (by simp),I.hok.kept k,?_⟩
 ·exact(hf b hb).2.2.2.2.1 y c (Cp.sub y c e) z
 ·rcases(hf b hb).2.2.2.1 with z|z
  ·exact I.ok.noex b o e z
  ·exact absurd (Nat.lt_of_lt_of_le (Heap.lt_size e) (Nat.le_trans I.ok.bsz z)) (Nat.lt_irrefl _)
 ·rcases zK.mp (I.stkSub b z) with z|z
  ·exact(hf b hb).2.1 z
  ·exact(hf b hb).2.2.1 z
 ·cases i with
  |zero=>cases e2
  |succ i=>
   have e1':cn[i]?=some y:=by simpa [cxC] using e1
   have e2':(qb2 caps σ)[i]?=some (some v):=by simpa using e2
   unfold qb2 at e2'
   rw [zC] at e2'
   obtain⟨j,hj,ej⟩:=Option.map_eq_some_iff.mp e2'
   obtain⟨c1,c2,c3,c5,c,c4⟩:=Cp.cap i y j e1' hj
   cases hs:σ[j]? with
   |none=>rw [hs] at ej;cases ej
   |some w=>
    rw [hs] at ej
    have ej':w=some v:=ej
    subst ej'
    obtain⟨m,hn,hl⟩:=I.loc
    obtain⟨u,r,l⟩:=hl j y v c1 hs (.inr (.inl c5))
    refine⟨u,r,.inr ⟨.inl c3,c,c4,?_⟩⟩
    rcases l with ⟨l,_⟩ |⟨_,c',e',q⟩
    ·rw [c2] at l;cases l
    ·rw [Cp.sub y c c4] at e'
     cases e'
     exact isC _ _ q
 ·obtain⟨v,q⟩:=cne y c e
  exact⟨v,isC c v q⟩
 ·show (none :: qb2 caps σ).length=(x :: cn).length
  rw [zN,zN]
  unfold qb2
  rw [zB,Cp.len]
theorem Inv.uncomp {N:List Str} {scope:Scope} {cl:List (Str × Addr)} {C:Addr} {σ':L2.St} {H':Hp} {s':Shared} {fp:List Addr} (I:Inv X pins σ H s) (hf:∀b∈fp,FpOk X pins H b) (hC:C=s.heap.objs.size)
  (J:Inv (cxC X N scope cl C s H fp) [] σ' H' s') {h':Heap} (sb:Heap.SameBut C s'.heap h'):Inv X pins σ H' {s' with heap:=h'}:=by
 have ne:∀b o,s.heap.get? b=some o→b≠C:=fun b o e=>by rw [hC];exact Nat.ne_of_lt (Heap.lt_size e)
 have u:Un (frs X.stack) fp H H' s.heap s'.heap:=J.base
 have hok:HOk X.prog X.w H' h':=fun b o e=>by
  refine(J.hok b o e).stay (fun c u' hc q=>(sb.2 c ?_).trans q) (fun _ q=>q) fun _ _ q=>q
  intro z
  have n:H' C=none:=J.free
  rcases hc with hc|hc
  ·rw [←hc,z,n] at e;cases e
  ·rw [z,n] at hc;cases hc
 refine I.call' (s':={s' with heap:=h'}) (ch:=fp) J.os ⟨fun b o e n hb hx=>(sb.2 b (ne b o e)).trans (u.keep b o e n hb hx),fun b o e n hb hx=>?_,u.free,fun b o e hx=>?_,u.tups,u.frzs,u.tbls⟩ hok J.bare fun b hb=>?_
 ·obtain⟨sl,q⟩:=u.slot b o e n hb hx
  exact⟨sl,(sb.2 b (ne b o e)).trans q⟩
 ·obtain⟨o',q⟩:=u.there b o e hx
  exact⟨o',(sb.2 b (ne b o e)).trans q⟩
 ·obtain⟨f0,f1,f2,f3,f4,f5⟩:=hf b hb
  exact⟨f3,f1,f4,f5⟩
end
section
variable {X : Cx}
theorem qbt {elt iter:Expr} {x:Str} {px:Pos} {ifs:List Expr} {scope:Scope} {cl:List (Str × Addr)} {pos:Pos} {caps:List Nat} {cn:List Str} {wi:TI} {tt:CT TT} {te:CT TE} (Cp:Caps X x scope cl caps cn) (hc:X.calm=true)
  (hi:PI X (.Name x px) iter wi) (ht:∀C s H fp,PIfs (cxC X (x :: cn) scope cl C s H fp) ifs (tt C s H fp)) (he:∀C s H fp,PE (cxC X (x :: cn) scope cl C s H fp) elt (te C s H fp))
  (hs:∀x,foldedSetIterable iter X.env x=pure x:=by intro _;rfl):
  PE X (.ListComp elt [⟨.Name x px,iter,ifs,0⟩] scope pos) (tComp wi caps tt te):=by
 intro pins s σ H Q I h
 rw [eval_ListComp]
 refine wpAny_comprehension_free (use:=none) rfl hs Cp.clos Cp.kind Cp.names (thn (hi pins s σ H _ I h) fun v s1 h1=>thn h1 fun itv s2 h2=>?_)
 obtain⟨it,fp,tn,J,H2,e,I2,T,st2,f2,R⟩:=h2
 subst e
 have hacc:H2 s2.heap.objs.size=none:=I2.hok.fresh (Nat.le_refl _)
 refine wpAny_newObj_type ?_
 have I3:Inv X pins σ (upd H2 s2.heap.objs.size (.lst [])) {s2 with heap:=s2.heap.push {cls:=.type "list",dict:=none,data:=.seq ([]:List Value).toArray}}:=Inv.lnew (its:=[]) (t':=s2.toks) I2 .nil (Nat.zero_le _)
 have lt2:∀b∈fp,b < s2.heap.objs.size:=fun b hb=>let ⟨o,e,_⟩:=T.obj _ _ st2 b hb;Heap.lt_size e
 have f3:∀b∈fp,FpOk X pins (upd H2 s2.heap.objs.size (.lst [])) b:=fun b hb=>⟨by rw [qa6 (Nat.ne_of_lt (lt2 b hb))];exact(f2 b hb).1,(f2 b hb).2⟩
 have st3:tn 0 (s2.heap.push {cls:=.type "list",dict:=none,data:=.seq ([]:List Value).toArray}):=T.keep _ _ _ st2 fun b _ o e=>Heap.get?_push_of_some _ e
 generalize hs3:({s2 with heap:=s2.heap.push {cls:=.type "list",dict:=none,data:=.seq ([]:List Value).toArray}}:Shared)=s3 at I3 ⊢
 have st3':tn 0 s3.heap:=by rw [←hs3];exact st3
 generalize s2.heap.objs.size=acc at hacc I3 f3 ⊢
 obtain⟨W,⟨m0,w0⟩,turn⟩:=R s3.heap.objs.size s3 (upd H2 acc (.lst [])) fp acc hacc
 have lt3:∀b∈fp,b < s3.heap.objs.size:=fun b hb=>let ⟨o,e,_⟩:=T.obj _ _ st3' b hb;Heap.lt_size e
 clear st3 hs3
 refine wpAny_newFunctionEnv Cp.cell (by intro y hy;simp at hy) (fun h₁ hns hsb=>?_) Cp.kind
 have k1:∀b o,s3.heap.get? b=some o→h₁.get? b=some o:=fun b o e=>hsb.extBut b o (Nat.ne_of_lt (Heap.lt_size e)) (Heap.get?_push_of_some _ e)
 have I4:Inv (cxC X (x :: cn) scope cl s3.heap.objs.size s3 (upd H2 acc (.lst [])) fp) [] (none :: qb2 caps σ) (upd H2 acc (.lst [])) {s3 with heap:=h₁,toks:=s3.toks+([]:List (Str × Value)).length}:=
  Inv.comp Cp I3 f3 lt3 hns k1
 have st4:tn 0 h₁:=T.keep _ _ _ st3' fun b _ o e=>k1 b o e
 generalize hX:cxC X (x :: cn) scope cl s3.heap.objs.size s3 (upd H2 acc (.lst [])) fp=X' at I4
 have stat:∀{H':Hp},(∀b∈fp,H' b=none)→∀b∈fp,FpOk X' [] H' b:=fun hn b hb=>by
  subst hX
  obtain⟨g0,g1,g2,g3,g4,g5⟩:=f3 b hb
  refine⟨hn b hb,Nat.ne_of_lt (lt3 b hb),fun z=>?_,.inl hb,fun y c e=>g4 y c (Cp.sub y c e),fun p hp=>absurd (show p∈([]:List (Addr × Obj)) from hp) (by simp)⟩
  rcases zK.mp (I3.stkSub b z) with z|z
  ·exact g1 z
  ·exact g2 z
 have core:codeAny (model X.prog X.w) X.A (.compLoop (.ListComp elt [⟨.Name x px,iter,ifs,0⟩] scope pos) 0 (.ref it) (.ref acc) (compEnvC scope cl s3.heap.objs.size X.env))
   (compPost (model X.prog X.w) X.A X.xe none (EP X pins σ Q) (.ref acc) s3.heap.objs.size) {s3 with heap:=h₁,toks:=s3.toks+([]:List (Str × Value)).length}:=by
  refine codeAny_loop rfl (fun n s'=>∃i a H',Inv X' [] (a :: qb2 caps σ) H' s'∧tn i s'.heap∧(∀b∈fp,H' b=none)∧W i n H') (fun n s5 hI=>?_) m0 ⟨0,none,_,I4,st4,fun b hb=>(f3 b hb).1,w0⟩
  obtain⟨i,a0,H5,I5,st5,fr5,w5⟩:=hI
  show wpAny _ _ ((compTurn _ 0 _ _ _).onRaise _) _ _ s5
  refine wpAny_noted ?_
  rw [compTurn_list]
  refine wpAny_bind (wpAny_standAt (wpAny_bind ?_))
  have aX:X'.A=X.A:=by subst hX;rfl
  have pX:X'.prog=X.prog:=by subst hX;rfl
  have wX:X'.w=X.w:=by subst hX;rfl
  have kX:X'.K=X.K:=by subst hX;rfl
  have cX:X'.calm=true:=by subst hX;exact hc
  have eX:X'.env=compEnvC scope cl s3.heap.objs.size X.env:=by subst hX;rfl
  rcases turn i n H5 w5 with ⟨stop,qn⟩ |⟨go,N,hN,step⟩
  ·have z:=T.done X' pX wX kX cX i [] s5 _ H5 (fun _ _=>False) I5 (stat fr5) st5 stop
   rw [aX] at z
   refine wpAny_mono z (fun r s6 ⟨hr,I6⟩=>?_) fun _ _ q=>q.elim
   subst hr
   subst hX
   obtain⟨m,hm,_⟩:=id I6.loc
   exact wpAny_pure ⟨m,hm,fun h' sb=>⟨.ref acc,H5,Inv.uncomp I3 f3 rfl I6 sb,rfl,qn⟩⟩
  ·have z:=T.item X' pX wX kX cX i [] s5 _ H5 (fun _ _=>False) I5 (stat fr5) st5 go
   rw [aX] at z
   refine wpAny_mono z (fun r s6 ⟨u,hr,h6⟩=>?_) fun _ _ q=>q.elim
   subst hr
   refine wpAny_bind (wpAny_mono h6 (fun _ s7 ⟨v,H7,I7,r7,y7,st7,fr7⟩=>?_) fun _ _ q=>q.elim)
   have I7':=I7.pinned (stat fr7) (T.obj _ _ st7)
   have asg:wpAny (model X.prog X.w) X.A (assign (.Name x px) (compEnvC scope cl s3.heap.objs.size X.env) u) (fun _ s8=>Inv X' ([]++qc9 fp s7.heap) (some v :: qb2 caps σ) H7 s8) (fun _ _=>False) s7:=by
    subst hX
    exact wpAny_assign_Name (qdv (X:=cxC X (x :: cn) scope cl s3.heap.objs.size s3 (upd H2 acc (.lst [])) fp) (i:=0) I7' Cp.nd rfl (.inl (lookup_relabel_local Cp.tg)) r7 (fun s' I'=>I') (.inr (lookup_relabel_local Cp.tg)))
   refine wpAny_bind (wpAny_mono asg (fun _ s8 I8=>?_) fun _ _ q=>q.elim)
   have tst:wpAny (model X.prog X.w) X.A (forIn ifs true fun c r=>if r=true then do let ok←isTrue c (compEnvC scope cl s3.heap.objs.size X.env) (eval c (compEnvC scope cl s3.heap.objs.size X.env));pure (ForInStep.yield ok) else pure (ForInStep.yield r))
     (TP X' ([]++qc9 fp s7.heap) (some v :: qb2 caps σ) (fun b H9=>if b=true then te s3.heap.objs.size s3 (upd H2 acc (.lst [])) fp (some v :: qb2 caps σ) H9 (fun y H3=>rApp acc N y H3) else N H9)) (fun _ _=>False) s8:=by
    subst hX
    exact ht _ _ _ _ _ s8 _ H7 _ I8 (step v H7 y7)
   refine wpAny_bind (wpAny_mono tst (fun b s9 ⟨H9,I9,q9⟩=>?_) fun _ _ q=>q.elim)
   have fin:∀{a:Option V} {H10:Hp} {s10:Shared},Inv X' ([]++qc9 fp s7.heap) (a :: qb2 caps σ) H10 s10→N H10→∃m',m' < n∧∃i a H',Inv X' [] (a :: qb2 caps σ) H' s10∧tn i s10.heap∧(∀b∈fp,H' b=none)∧W i m' H':=fun {a H10 s10} I10 n10=>
    let ⟨m',hm,w10⟩:=hN _ n10
    ⟨m',hm,i+1,a,H10,I10.unpinned,T.keep _ _ _ st7 fun b hb o e=>(I10.pin (b,o) (zR _ (zR _ (qc2 hb e)))).1,fun b hb=>by
     obtain⟨o,e,d⟩:=T.obj _ _ st7 b hb
     exact(I10.pin (b,o) (zR _ (zR _ (qc2 hb e)))).2.1,w10⟩
   cases b with
   |false=>exact wpAny_pure ⟨rfl,fin I9 q9⟩
   |true=>
    have elt':wpAny (model X.prog X.w) X.A (eval elt (compEnvC scope cl s3.heap.objs.size X.env)) (EP X' ([]++qc9 fp s7.heap) (some v :: qb2 caps σ) (fun y H3=>rApp acc N y H3)) (fun _ _=>False) s9:=by
     subst hX
     exact he _ _ _ _ _ s9 _ H9 _ I9 q9
    refine wpAny_bind (wpAny_bind (wpAny_mono elt' (fun y s10 ⟨w,H10,I10,r10,ys,ha,hz,q10⟩=>?_) fun _ _ q=>q.elim))
    have app:wpAny (model X.prog X.w) X.A (call (.builtin "list.append") [.ref acc,y]) (EP X' ([]++qc9 fp s7.heap) (some v :: qb2 caps σ) fun _ H11=>H11=upd H10 acc (.lst (ys++ [w]))) (fun _ _=>False) s10:=by
     subst hX
     exact qb8 (X:=cxC X (x :: cn) scope cl s3.heap.objs.size s3 (upd H2 acc (.lst [])) fp) _ s10 _ H10 (.ref acc) [w] (.ref acc) [y] _ I10 rfl (.cons r10 .nil) ⟨acc,ys,w,rfl,rfl,ha,hz,rfl⟩
    refine wpAny_bind (wpAny_mono app (fun _ s11 ⟨_,H11,I11,_,e11⟩=>?_) fun _ _ q=>q.elim)
    subst e11
    exact wpAny_pure (wpAny_pure ⟨rfl,fin I11 q10⟩)
 exact codeAny_compStart_list core (T.self _ 0 _ _ _ st4 core)
def Its (x:Str):It:=⟨fun i _=>i < x.cps.size,fun i H v H'=>H'=H∧∃c,x.cps[i]?=some c∧v=.str ⟨#[c]⟩,fun i _=>i=x.cps.size⟩
theorem turn_str {P:Program} {w:World} {K:Frag} {y:Str} {py:Pos} (x:Str) (t:Tok) (it:Addr) (ty:String) (W:∀A:Around,A.handled=none→Walks P w A it [it] [it] x.cps.size (SignAt x) (fun i h=>h.IsStrIter it ty x t i))
  (hself:∀(A:Around) (i:Nat) (s:Shared) (Q:Value→Shared→Prop) (E:Value→Shared→Prop),s.heap.IsStrIter it ty x t i→Q (.ref it) s→wpAny (model P w) A (pyIter (.ref it)) Q E s):
  Turn P w K (.Name y py) (Its x) [it] it (fun i h=>h.IsStrIter it ty x t i) where
 mem:=by simp
 obj:=fun i h st b hb=>by
  have e:b=it:=by simpa using hb
  subst e
  obtain⟨o,e,c,d⟩:=st
  exact⟨o,e,fun v z=>by rw [d] at z;cases z⟩
 keep:=fun i h h' ⟨o,e,r⟩ k=>⟨o,k it (by simp) o e,r⟩
 item:=by
  intro X hP hw hK hc i pins s σ H E I hf st hg
  subst hP hw hK
  obtain⟨f0,f1,f2,f3,f4,f5⟩:=hf it (by simp)
  refine(W X.A (I.ok.hd hc)).item i s _ _ hg st fun v h' tk hv st' k=>?_
  have I1:Inv X pins σ H {s with heap:=h',toks:=tk}:=I.turned (t':=tk) (fun b o hb e=>k b o (fun z=>hb (by simpa using z)) e) f0 f1 f3 f4 f5
  obtain⟨c,u,hx,rfl⟩:=hv
  exact⟨_,rfl,wpAny_pure ⟨.str ⟨#[c]⟩,H,I1,⟨_,rfl⟩,⟨rfl,c,hx,rfl⟩,st',fun b hb=>(hf b hb).1⟩⟩
 done:=by
  intro X hP hw hK hc i pins s σ H E I hf st hg
  subst hP hw hK
  have hg':i=x.cps.size:=hg
  subst hg'
  obtain⟨f0,f1,f2,f3,f4,f5⟩:=hf it (by simp)
  exact(W X.A (I.ok.hd hc)).done s _ _ st fun h' tk k=>⟨rfl,I.turned (t':=tk) (fun b o hb e=>k b o (fun z=>hb (by simpa using z)) e) f0 f1 f3 f4 f5⟩
 self:=hself
def rItS (v:V) (H:Hp) (R:It→Hp→Prop):Prop:=∃x,v=.str x∧R (Its x) H
def iStr (tl:TE):TI:=fun σ H R=>tl σ H fun v H1=>rItS v H1 R
end
end My
namespace L2
open PySem PySem.Spec PyProof.Rows
section
variable {κ : Type} [DecidableEq κ]
def qc7 (kvs:List (κ × V)) (k:κ):Option V:=(kvs.find? fun kv=>decide (kv.1=k)).map (·.2)
def qcu (kvs:List (κ × V)) (k:κ) (v:V):List (κ × V):=
 if (kvs.any fun kv=>decide (kv.1=k))=true then kvs.map (fun kv=>if kv.1=k then (kv.1,v) else kv) else kvs++ [(k,v)]
theorem qbk {p:κ × V} {r:List (κ × V)} {k:κ} (e:p.1=k):qc7 (p :: r) k=some p.2:=by simp [qc7,yJ,e]
theorem qbl {p:κ × V} {r:List (κ × V)} {k:κ} (e:¬p.1=k):qc7 (p :: r) k=qc7 r k:=by simp [qc7,yJ,e]
theorem qc6 (k:κ):∀kvs:List (κ × V),(kvs.any fun kv=>decide (kv.1=k))=(qc7 kvs k).isSome
 | []=>rfl
 |p :: r=>by
  rw [yS]
  by_cases e:p.1=k
  ·simp only [qbk e,decide_eq_true e,Bool.true_or,Option.isSome_some]
  ·rw [qbl e,decide_eq_false e,Bool.false_or];exact qc6 k r
theorem valV_map (k j:κ) (y:V):∀kvs:List (κ × V),qc7 (kvs.map fun kv=>if kv.1=k then (kv.1,y) else kv) j=(qc7 kvs j).map fun x=>if j=k then y else x
 | []=>rfl
 |p :: r=>by
  have ih:=valV_map k j y r
  rw [zQ]
  by_cases h:p.1=k
  ·rw [if_pos h]
   by_cases e:p.1=j
   ·rw [qbk (p:=(p.1,y)) e,qbk e,Option.map_some,if_pos (e.symm.trans h)]
   ·rw [qbl (p:=(p.1,y)) e,qbl e,ih]
  ·rw [if_neg h]
   by_cases e:p.1=j
   ·rw [qbk (p:=p) e,qbk e,Option.map_some,if_neg (fun z=>h (e.trans z))]
   ·rw [qbl (p:=p) e,qbl e,ih]
theorem valV_snoc (k j:κ) (y:V):∀kvs:List (κ × V),qc7 kvs k=none→qc7 (kvs++ [(k,y)]) j=if j=k then some y else qc7 kvs j
 | [],_=>by
  by_cases e:k=j
  ·rw [if_pos e.symm];exact qbk (p:=(k,y)) e
  ·rw [if_neg (fun z=>e z.symm)];exact qbl (p:=(k,y)) e
 |p :: r,hn=>by
  rw [List.cons_append]
  have hk:¬p.1=k:=fun z=>by rw [qbk z] at hn;cases hn
  rw [qbl hk] at hn
  have ih:=valV_snoc k j y r hn
  by_cases e:p.1=j
  ·rw [qbk e,qbk e,if_neg (fun z=>hk (e.trans z))]
  ·rw [qbl e,qbl e,ih]
theorem valV_put (kvs:List (κ × V)) (k j:κ) (y:V):qc7 (qcu kvs k y) j=if j=k then some y else qc7 kvs j:=by
 unfold qcu
 by_cases a:(kvs.any fun kv=>decide (kv.1=k))=true
 ·rw [if_pos a,valV_map]
  rw [qc6] at a
  by_cases e:j=k
  ·obtain⟨x,hx⟩:=Option.isSome_iff_exists.mp a
   rw [if_pos e,e,hx,Option.map_some,if_pos rfl]
  ·rw [if_neg e]
   cases qc7 kvs j with
   |none=>rfl
   |some x=>rw [Option.map_some,if_neg e]
 ·rw [if_neg a]
  refine valV_snoc k j y kvs ?_
  rw [qc6] at a
  cases q:qc7 kvs k with
  |none=>rfl
  |some x=>rw [q] at a;exact(a rfl).elim
theorem qbu (kvs:List (κ × V)) (k:κ) (v:V):(qcu kvs k v).length≤kvs.length+1:=by
 unfold qcu
 split
 ·rw [zB];omega
 ·rw [zF,zN,yO];omega
theorem qdw {kvs:List (κ × V)} {k:κ} (v:V) (h:qc7 kvs k=none):qcu kvs k v=kvs++ [(k,v)]:=by
 unfold qcu
 rw [qc6,h]
 exact if_neg (by decide)
theorem RelO.isSome_eq {o:Option V} {u:Option Value} (r:RelO o u):o.isSome=u.isSome:=by
 cases o with
 |none=>cases u with
  |none=>rfl
  |some _=>exact(show False from r).elim
 |some _=>cases u with
  |none=>exact(show False from r).elim
  |some _=>rfl
theorem RelO.getD {o:Option V} {u:Option Value} {d:V} {d':Value} (r:RelO o u) (rd:qb1 d d'):qb1 (o.getD d) (u.getD d'):=by
 cases o with
 |none=>cases u with
  |none=>exact rd
  |some _=>exact(show False from r).elim
 |some _=>cases u with
  |none=>exact(show False from r).elim
  |some _=>exact r
theorem KV.val {kvs:List (κ × V)} {vs:List (κ × Value)} (r:KV kvs vs) (k:κ):RelO (qc7 kvs k) (valueAt vs k):=by
 unfold KV at r
 induction r with
 |nil=>exact True.intro
 | @cons p q ps qs h t ih=>
  obtain⟨h1,h2⟩:=h
  by_cases e:p.1=k
  ·have e':q.1=k:=h1.symm.trans e
   have b:valueAt (q :: qs) k=some q.2:=by simp [valueAt,yJ,e']
   rw [qbk e,b];exact h2
  ·have e':¬q.1=k:=fun z=>e (h1.trans z)
   have b:valueAt (q :: qs) k=valueAt qs k:=by simp [valueAt,yJ,e']
   rw [qbl e,b];exact ih
theorem KV.any {kvs:List (κ × V)} {vs:List (κ × Value)} (r:KV kvs vs) (k:κ):(kvs.any fun kv=>decide (kv.1=k))=vs.any fun kv=>decide (kv.1=k):=by
 unfold KV at r
 induction r with
 |nil=>rfl
 |cons h t ih=>rw [yS,yS,ih,h.1]
theorem KV.repl {kvs:List (κ × V)} {vs:List (κ × Value)} (r:KV kvs vs) (k:κ) {y:V} {u:Value} (ry:qb1 y u):
  KV (kvs.map fun kv=>if kv.1=k then (kv.1,y) else kv) (vs.map fun kv=>if kv.1=k then (kv.1,u) else kv):=by
 unfold KV at r ⊢
 induction r with
 |nil=>exact .nil
 | @cons p q ps qs h t ih=>
  rw [zQ,zQ]
  refine .cons ?_ ih
  obtain⟨h1,h2⟩:=h
  by_cases e:p.1=k
  ·rw [if_pos e,if_pos (h1.symm.trans e)];exact⟨h1,ry⟩
  ·rw [if_neg e,if_neg (fun z=>e (h1.trans z))];exact⟨h1,h2⟩
theorem KV.put {kvs:List (κ × V)} {vs:List (κ × Value)} (r:KV kvs vs) (k:κ) {y:V} {u:Value} (ry:qb1 y u):KV (qcu kvs k y) (stored vs k u):=by
 unfold qcu stored
 rw [r.any k]
 by_cases e:(vs.any fun kv=>decide (kv.1=k))=true
 ·rw [if_pos e,if_pos e];exact r.repl k ry
 ·rw [if_neg e,if_neg e];exact Paired.snoc r ⟨rfl,ry⟩
theorem KV.keys {kvs:List (κ × V)} {vs:List (κ × Value)} (r:KV kvs vs):kvs.map (·.1)=vs.map (·.1):=by
 unfold KV at r
 induction r with
 |nil=>rfl
 |cons h t ih=>rw [zQ,zQ,ih,h.1]
theorem KV.length {kvs:List (κ × V)} {vs:List (κ × Value)} (r:KV kvs vs):kvs.length=vs.length:=Paired.length r
end
theorem kV_is {P:Program} {w:World} {k:Key} {u:Value} (r:qb1 (kV k) u):(qay P w).is k u=true:=by
 cases k with
 |inl i=>obtain⟨t,e⟩:=(show ∃t,u=Value.int i t from r);subst e;exact mixKind_int P w i t
 |inr x=>obtain⟨t,e⟩:=(show ∃t,u=Value.str x t from r);subst e;exact mixKind_str P w x t
theorem items_are {P:Program} {w:World}:∀{ks:List Key} {us:List Value},qb9 (ks.map kV) us→ItemsAre (qay P w) ks us
 | [],_,r=>by rw [List.map_nil] at r;cases r;exact .nil
 |k :: ks,_,r=>by
  rw [zQ] at r
  cases r with
  |cons h t=>exact .cons (kV_is h) (items_are t)
abbrev KT (H:Hp):List (List Key × V)→List (List Key × Addr × Value)→Prop:=Paired fun p q=>p.1=q.1∧H q.2.1=some (.tup (p.1.map kV))∧qb1 p.2 q.2.2
theorem KT.val {H:Hp} {kvs:List (List Key × V)} {xs:List (List Key × Addr × Value)} (r:KT H kvs xs) (k:List Key):RelO (qc7 kvs k) ((atKey xs k).map (·.2)):=by
 induction r with
 |nil=>exact True.intro
 | @cons p q ps qs h t ih=>
  obtain⟨h1,_,h2⟩:=h
  by_cases e:p.1=k
  ·have e':q.1=k:=h1.symm.trans e
   have b:atKey (q :: qs) k=some q.2:=by simp [atKey,yJ,e']
   rw [qbk e,b];exact h2
  ·have e':¬q.1=k:=fun z=>e (h1.trans z)
   have b:atKey (q :: qs) k=atKey qs k:=by simp [atKey,yJ,e']
   rw [qbl e,b];exact ih
theorem KT.repl {H:Hp} {kvs:List (List Key × V)} {xs:List (List Key × Addr × Value)} (r:KT H kvs xs) (k:List Key) {y:V} {u:Value} (ry:qb1 y u):
  KT H (kvs.map fun kv=>if kv.1=k then (kv.1,y) else kv) (xs.map (putAt k u)):=by
 induction r with
 |nil=>exact .nil
 | @cons p q ps qs h t ih=>
  rw [zQ,zQ]
  refine .cons ?_ ih
  obtain⟨h1,h2,h3⟩:=h
  unfold putAt
  by_cases e:p.1=k
  ·rw [if_pos e,if_pos (h1.symm.trans e)];exact⟨h1,h2,ry⟩
  ·rw [if_neg e,if_neg (fun z=>e (h1.trans z))];exact⟨h1,h2,h3⟩
theorem KT.put {H:Hp} {kvs:List (List Key × V)} {xs:List (List Key × Addr × Value)} (r:KT H kvs xs) (k:List Key) {b:Addr} {y:V} {u:Value} (hb:H b=some (.tup (k.map kV))) (ry:qb1 y u):
  KT H (qcu kvs k y) (storedH xs k b u):=by
 have e:(kvs.any fun kv=>decide (kv.1=k))=(atKey xs k).isSome:=by
  rw [qc6,(r.val k).isSome_eq,Option.isSome_map]
 unfold qcu storedH
 rw [e]
 by_cases q:(atKey xs k).isSome=true
 ·rw [if_pos q,if_pos q];exact r.repl k ry
 ·rw [if_neg q,if_neg q];exact Paired.snoc r ⟨rfl,hb,ry⟩
theorem KT.keeps {H H':Hp} {kvs:List (List Key × V)} {xs:List (List Key × Addr × Value)} (r:KT H kvs xs) (ht:∀b ys,H b=some (.tup ys)→H' b=some (.tup ys)):KT H' kvs xs:=
 Paired.mapP r fun _ _ z=>⟨z.1,ht _ _ z.2.1,z.2.2⟩
section
variable {P : Program} {w : World} {H : Hp} {h : Heap} {a : Addr}
theorem rd_of {u:HO} (ok:HOk P w H h) (e:Rd H a u):qbd P w H h a u:=e.ok ok
theorem dk_rd {kvs:List (Key × V)} (ok:HOk P w H h) (e:Rd H a (.dK kvs)):kvs.length≤sizeLine∧(a==sysModules)=false∧∃vs,KV kvs vs∧h.DictOf (qay P w) a vs:=
 show qbd P w H h a (.dK kvs) from rd_of ok e
theorem dk_of {kvs:List (Key × V)} (ok:HOk P w H h) (e:H a=some (.dK kvs)):kvs.length≤sizeLine∧(a==sysModules)=false∧∃vs,KV kvs vs∧h.DictOf (qay P w) a vs:=dk_rd ok (.inl e)
theorem key_of {ks:List Key} (ok:HOk P w H h) (e:H a=some (.tup (ks.map kV))):(tupleKind (qay P w)).is h ks a:=by
 obtain⟨_,its,r,o,h1,h2,n,h3⟩:=(show qbd P w H h a (.tup (ks.map kV)) from ok a _ e)
 exact⟨o,its.toArray,n,h1,h2,h3,by simpa using items_are r⟩
theorem dt_rd {kvs:List (List Key × V)} (ok:HOk P w H h) (e:Rd H a (.dT kvs)):kvs.length≤sizeLine∧(a==sysModules)=false∧
  ∃xs,KT H kvs xs∧h.DictOfH (tupleKind (qay P w)) a xs:=by
 obtain⟨z,y,xs,r,o,es,ep,h1,h2,h3,h4,h5⟩:=(show qbd P w H h a (.dT kvs) from rd_of ok e)
 refine⟨z,y,xs,r,o,es,ep,h1,h2,h3,h4,fun x hx=>?_,h5⟩
 have all:∀{l:List (List Key × V)} {m:List (List Key × Addr × Value)},KT H l m→∀x∈m,(tupleKind (qay P w)).is h x.1 x.2.1:=by
  intro l m q
  induction q with
  |nil=>intro x hx;exact nomatch hx
  | @cons p q ps qs hq t ih=>
   intro x hx
   rcases zK.mp hx with e|hx
   ·subst e
    exact key_of ok (by rw [←hq.1];exact hq.2.1)
   ·exact ih x hx
 exact all r x hx
theorem dt_of {kvs:List (List Key × V)} (ok:HOk P w H h) (e:H a=some (.dT kvs)):kvs.length≤sizeLine∧(a==sysModules)=false∧
  ∃xs,KT H kvs xs∧h.DictOfH (tupleKind (qay P w)) a xs:=dt_rd ok (.inl e)
end
def DGet (H:Hp) (a:Addr) (y:V) (r:Option V):Prop:=
 (∃kvs k,Rd H a (.dK kvs)∧y=kV k∧r=qc7 kvs k)∨∃kvs k b,Rd H a (.dT kvs)∧y=.ref b∧H b=some (.tup (k.map kV))∧r=qc7 kvs k
def DPut (H:Hp) (a:Addr) (y v:V) (H':Hp):Prop:=
 (∃kvs k,H a=some (.dK kvs)∧y=kV k∧kvs.length < sizeLine∧H'=upd H a (.dK (qcu kvs k v)))∨
 ∃kvs k b,H a=some (.dT kvs)∧y=.ref b∧H b=some (.tup (k.map kV))∧kvs.length < sizeLine∧H'=upd H a (.dT (qcu kvs k v))
theorem DPut.k {H:Hp} {a:Addr} {kvs:List (Key × V)} {k:Key} {v:V} (e:H a=some (.dK kvs)) (hl:kvs.length < sizeLine):DPut H a (kV k) v (upd H a (.dK (qcu kvs k v))):=.inl ⟨kvs,k,e,rfl,hl,rfl⟩
theorem DPut.t {H:Hp} {a b:Addr} {kvs:List (List Key × V)} {k:List Key} {v:V} (e:H a=some (.dT kvs)) (eb:H b=some (.tup (k.map kV))) (hl:kvs.length < sizeLine):
  DPut H a (.ref b) v (upd H a (.dT (qcu kvs k v))):=.inr ⟨kvs,k,b,e,rfl,eb,hl,rfl⟩
section
variable {X : Cx} {pins : List (Addr × Obj)} {σ : St} {H : Hp} {s : Shared} {a : Addr} {y v : V} {u r : Value} {o : Option V} {A : Around} {E : Value → Shared → Prop}
theorem Inv.big (I:Inv X pins σ H s):sysModules < s.heap.objs.size:=by
 have h:mainGlobals < s.heap.objs.size:=(I.mod.glob.keeps I.bk).lt
 exact Nat.lt_trans (by decide) h
theorem d_getItem {Q:Value→Shared→Prop} (hu:A.units+1 < cLine) (I:Inv X pins σ H s) (g:DGet H a y (some v)) (ry:qb1 y u) (h:∀w' s',Inv X pins σ H s'→qb1 v w'→Q w' s'):
  wpAny (model X.prog X.w) A (getItem (.ref a) u) Q E s:=by
 rcases g with ⟨kvs,k,e,ey,l⟩ |⟨kvs,k,b,e,ey,eb,l⟩
 ·subst ey
  obtain⟨z,hd,vs,rel,dd⟩:=dk_rd I.hok e
  obtain⟨w',hw,rw'⟩:=RelO.some_of (v:=v) (o:=valueAt vs k) (by rw [l];exact rel.val k)
  exact wpAny_getItem_of (kV_is ry) dd.mapOf hw (h w' _ (I.tok _) rw')
 ·subst ey
  cases (show u=Value.ref b from ry)
  obtain⟨z,hd,xs,rel,dd⟩:=dt_rd I.hok e
  obtain⟨w',hw,rw'⟩:=RelO.some_of (v:=v) (o:=(atKey xs k).map (·.2)) (by rw [l];exact rel.val k)
  obtain⟨p,hp,hp2⟩:=Option.map_eq_some_iff.mp hw
  refine wpAny_getItem_heap (tupleKind_room_in1 hu) (key_of I.hok eb) dd hp ?_
  rw [hp2]
  exact h w' _ (I.tok _) rw'
theorem d_in {Q:Value→Shared→Prop} (hu:A.units+1 < cLine) (I:Inv X pins σ H s) (g:DGet H a y o) (ry:qb1 y u) (h:∀s',Inv X pins σ H s'→Q (.bool o.isSome) s'):
  wpAny (model X.prog X.w) A (compareOp .In u (.ref a)) Q E s:=by
 rcases g with ⟨kvs,k,e,ey,l⟩ |⟨kvs,k,b,e,ey,eb,l⟩
 ·subst ey
  obtain⟨z,hd,vs,rel,dd⟩:=dk_rd I.hok e
  refine wpAny_in_of (kV_is ry) hd dd.mapOf ?_
  rw [←(rel.val k).isSome_eq,←l]
  exact h _ (I.tok _)
 ·subst ey
  cases (show u=Value.ref b from ry)
  obtain⟨z,hd,xs,rel,dd⟩:=dt_rd I.hok e
  refine wpAny_in_heap (tupleKind_room_in1 hu) (key_of I.hok eb) hd dd ?_
  have q:=(rel.val k).isSome_eq
  rw [Option.isSome_map] at q
  rw [←q,←l]
  exact h _ (I.tok _)
theorem d_write {h':Heap} {t':Nat} {ob:HO} (I:Inv X pins σ H s) (mu:Mut (H a)) (hs:Heap.SameBut a s.heap h') (he:∃q,h'.get? a=some q) (new:qbd X.prog X.w (upd H a ob) h' a ob):
  Inv X pins σ (upd H a ob) {s with heap:=h',toks:=t'}:=
 I.write (x:=a) (e:=a) mu (.inl rfl) (fun b q hb z=>(hs.2 b hb).trans z) he new
theorem dk_new {P:Program} {w:World} {H':Hp} {h':Heap} {kvs:List (Key × V)} {vs:List (Key × Value)} (z:kvs.length≤sizeLine) (hd:(a==sysModules)=false) (rel:KV kvs vs) (dd:h'.DictOf (qay P w) a vs):
  qbd P w H' h' a (.dK kvs):=⟨z,hd,vs,rel,dd⟩
theorem d_setItem {H':Hp} {Q:Unit→Shared→Prop} (hu:A.units+1 < cLine) (I:Inv X pins σ H s) (g:DPut H a y v H') (ry:qb1 y u) (rv:qb1 v r) (h:∀s',Inv X pins σ H' s'→Q () s'):
  wpAny (model X.prog X.w) A (setItem (.ref a) u r) Q E s:=by
 rcases g with ⟨kvs,k,e,ey,l,eH⟩ |⟨kvs,k,b,e,ey,eb,l,eH⟩
 ·subst ey eH
  obtain⟨z,hd,vs,rel,dd⟩:=dk_of I.hok e
  have hz:vs.length≤sizeLine:=by rw [←rel.length];exact z
  have hl:(qcu kvs k v).length≤sizeLine:=by have:=qbu kvs k v;omega
  refine wpAny_setItem_pairs (hsz:=hz) (kV_is ry) dd fun h' dd' hs=>h _ ?_
  have he:∃q,h'.get? a=some q:=let ⟨q,_,_,hq,_⟩:=dd';⟨q,hq⟩
  exact d_write I (by rw [e];exact True.intro) hs he (dk_new hl hd (rel.put k rv) dd')
 ·subst ey eH
  cases (show u=Value.ref b from ry)
  obtain⟨z,hd,xs,rel,dd⟩:=dt_of I.hok e
  have hz:xs.length≤sizeLine:=by rw [←Paired.length rel];exact z
  have hl:(qcu kvs k v).length≤sizeLine:=by have:=qbu kvs k v;omega
  refine wpAny_setItem_heap (hsz:=hz) (tupleKind_room_in1 hu) (key_of I.hok eb) dd fun h' dd' hs=>h _ ?_
  obtain⟨q,es,ep,hq,h2,h3,h4,_,h5⟩:=dd'
  refine d_write I (by rw [e];exact True.intro) hs ⟨q,hq⟩ ⟨hl,hd,_,(rel.put k eb rv).keeps fun c ys ec=>?_,q,es,ep,hq,h2,h3,h4,h5⟩
  rw [qa6 (ne_of ec e (fun z=>nomatch z))]
  exact ec
end
section
variable {X : Cx} {pins : List (Addr × Obj)} {σ : St} {H : Hp} {s : Shared} {a : Addr} {kvs : List (Key × V)} {k : Key} {u : Value} {A : Around} {E : Value → Shared → Prop}
theorem d_len {Q:Value→Shared→Prop} (I:Inv X pins σ H s) (e:Rd H a (.dK kvs)) (h:∀t s',Inv X pins σ H s'→Q (.int kvs.length t) s'):wpAny (model X.prog X.w) A (call (.builtin "len") [.ref a]) Q E s:=by
 obtain⟨z,hd,vs,rel,dd⟩:=dk_rd I.hok e
 refine call_len_dict hd dd (by rw [←rel.length];rw [sizeLine_eq] at z;omega) ?_
 rw [←rel.length]
 exact h _ _ (I.tok _)
end
def NoSl (i:Expr):Prop:=∀ov iv,subscripted i false ov iv=operate [ov,iv] (getItem ov iv)
theorem subD_of {prog:Program} {w:World} {A:Around} {E:Value→Shared→Prop} {s:Shared} {env:Env} {value slice:Expr} {pos:Pos} {T id:String} {Q:Value→Shared→Prop}
  (hl:typeLookup (.type T) "__getitem__" =pure (some (.builtin id))) (hs:NoSl slice)
  (h:wpAny (model prog w) A (eval value env) (fun o s₁=>wpAny (model prog w) A (eval slice env) (fun i s₂=>s₂.TypeIs o T∧wpAny (model prog w) A (getItem o i) Q E s₂) E s₁) E s):
  wpAny (model prog w) A (eval (.Subscript value slice pos) env) Q E s:=by
 refine Subscript_ (wpAny_mono h (fun o s₁ h₁=>wpAny_mono h₁ (fun i s₂ h₂=>?_) fun _ _ x=>x) fun _ _ x=>x)
 obtain⟨hT,h₂⟩:=h₂
 unfold subscriptTail
 refine wpAny_bind ?_
 rw [getitemInPython_of_ne hT.not_modules]
 refine wpAny_bind (wpAny_specialOf hT hl ?_)
 have fin:wpAny (model prog w) A (subscripted slice false o i) (fun r s₃=>wpAny (model prog w) A (letTemporaryGo value o r >>= fun _=>pure r) Q E s₃) E s₂:=by
  rw [hs o i]
  exact wpAny_operating (wpAny_mono h₂ (fun r s₃ h₃=>wpAny_bind (wpAny_letTemporaryGo (wpAny_pure h₃))) fun _ _ x=>x)
 first
  |exact wpAny_pure (wpAny_bind fin)
  |exact wpAny_bind (wpAny_pure (wpAny_bind fin))
  |exact wpAny_bind fin
theorem dict_typeIs {X:Cx} {pins:List (Addr × Obj)} {σ:St} {H:Hp} {s:Shared} {a:Addr} {y:V} {o:Option V} (I:Inv X pins σ H s) (g:DGet H a y o):s.TypeIs (.ref a) "dict":=by
 rcases g with ⟨kvs,k,e,_,_⟩ |⟨kvs,k,b,e,_,_,_⟩
 ·obtain⟨_,_,vs,_,dd⟩:=dk_rd I.hok e
  exact dd.typeIs
 ·obtain⟨_,_,xs,_,dd⟩:=dt_rd I.hok e
  exact dd.typeIs
def tDGet (td ty:TE):TE:=fun σ H Q=>td σ H fun x H1=>ty σ H1 fun y H2=>∃a v,x=.ref a∧DGet H2 a y (some v)∧Q v H2
def tDIn (ty td:TE):TE:=fun σ H Q=>ty σ H fun y H1=>td σ H1 fun x H2=>∃a o,x=.ref a∧DGet H2 a y o∧Q (.bl o.isSome) H2
def sDPut (td ty tv:TE):TS:=fun D σ H=>tv σ H fun v H1=>td σ H1 fun x H2=>ty σ H2 fun y H3=>∃a H4,x=.ref a∧DPut H3 a y v H4∧D.nx σ H4
section
variable {X : Cx} {o i e value : Expr} {pos pos' tpos : Pos} {td ty tv : TE}
theorem qbs (hu:X.A.units+1 < cLine) (ho:PE X o td) (hi:PE X i ty) (hs:NoSl i):PE X (.Subscript o i pos) (tDGet td ty):=by
 intro pins s σ H Q I h
 refine subD_of PySem.F.slot_dict_getitem.lookup hs (thn (ho pins s σ H _ I h) fun u s1 ⟨x,H1,I1,rx,q1⟩=>thn (hi pins s1 σ H1 _ I1 q1) fun iv s2 ⟨y,H2,I2,ry,a,v,ex,g,q2⟩=>?_)
 subst ex
 obtain rfl:u=Value.ref a:=rx
 exact⟨dict_typeIs I2 g,d_getItem hu I2 g ry fun w' s3 I3 rw'=>⟨v,H2,I3,rw',q2⟩⟩
theorem pc_din (hu:X.A.units+1 < cLine) (hi:PE X i ty) (ho:PE X o td):PC X .In i o (tDIn ty td):=by
 intro pins s σ H Q I h
 refine thn (hi pins s σ H _ I h) fun iv s1 ⟨y,H1,I1,ry,q1⟩=>thn (ho pins s1 σ H1 _ I1 q1) fun u s2 ⟨x,H2,I2,rx,a,ov,ex,g,q2⟩=>?_
 subst ex
 obtain rfl:u=Value.ref a:=rx
 exact d_in hu I2 g ry fun s3 I3=>⟨.bl ov.isSome,H2,I3,rfl,q2⟩
theorem qdl (hu:X.A.units+1 < cLine) (ho:PE X o td) (hi:PE X i ty) (hv:PE X value tv) (hs:swapsWith value (some (.Subscript o i pos')) pos.line X.env=pure false):
  PS X (.Assign [.Subscript o i pos'] value pos) (sDPut td ty tv):=by
 intro pins s σ H D I h
 refine wpAny_Assign_Subscript (thn (hv pins s σ H _ I h) fun r s1 ⟨v,H1,I1,rv,q1⟩=>thn (ho pins s1 σ H1 _ I1 q1) fun u s2 ⟨x,H2,I2,rx,q2⟩=>thn (hi pins s2 σ H2 _ I2 q2) fun iv s3 ⟨y,H3,I3,ry,a,H4,ex,g,q3⟩=>?_) hs
 subst ex
 obtain rfl:u=Value.ref a:=rx
 exact d_setItem hu I3 g ry rv fun s4 I4=>⟨σ,H4,I4,q3⟩
end
theorem dk_empty {P:Program} {w:World} {H:Hp} (h:Heap) (hb:sysModules < h.objs.size):qbd P w H (h.push {cls:=.type "dict",data:=.dict #[]}) h.objs.size (.dK []):=
 ⟨Nat.zero_le _,beq_eq_false_iff_ne.mpr (Ne.symm (Nat.ne_of_lt hb)), [],.nil,Heap.DictOf.new h⟩
theorem dt_empty {P:Program} {w:World} {H:Hp} (h:Heap) (hb:sysModules < h.objs.size):qbd P w H (h.push {cls:=.type "dict",data:=.dict #[]}) h.objs.size (.dT []):=
 ⟨Nat.zero_le _,beq_eq_false_iff_ne.mpr (Ne.symm (Nat.ne_of_lt hb)), [],.nil,_,#[],0,Heap.get?_push_size _ rfl,⟨rfl,rfl,rfl⟩,rfl,rfl,yM⟩
def tDNewK:TE:=fun _ H Q=>∀p,H p=none→Q (.ref p) (upd H p (.dK []))
def tDNewT:TE:=fun _ H Q=>∀p,H p=none→Q (.ref p) (upd H p (.dT []))
section
variable {X : Cx} {pos : Pos}
theorem qdx:PE X (.Dict [] [] pos) tDNewK:=fun pins s σ H Q I h=>
 wpAny_Dict_empty ⟨.ref s.heap.objs.size,_,I.laid (a:=s.heap.objs.size) (o:=.dK []) (t':=s.toks) (fun _ _ q=>Heap.get?_push_of_some _ q) (Nat.le_refl _) (dk_empty s.heap I.big),rfl,h _ (I.hok.fresh (Nat.le_refl _))⟩
theorem pe_dnewT:PE X (.Dict [] [] pos) tDNewT:=fun pins s σ H Q I h=>
 wpAny_Dict_empty ⟨.ref s.heap.objs.size,_,I.laid (a:=s.heap.objs.size) (o:=.dT []) (t':=s.toks) (fun _ _ q=>Heap.get?_push_of_some _ q) (Nat.le_refl _) (dt_empty s.heap I.big),rfl,h _ (I.hok.fresh (Nat.le_refl _))⟩
end
def tPairs:List (TE × TE)→St→Hp→(List (V × V)→Hp→Prop)→Prop
 | [],_,H,Q=>Q [] H
 |(tk,tv) :: r,σ,H,Q=>tk σ H fun x H1=>tv σ H1 fun y H2=>tPairs r σ H2 fun ps H3=>Q ((x,y) :: ps) H3
abbrev VV:List (V × V)→List (Value × Value)→Prop:=Paired fun p q=>qb1 p.1 q.1∧qb1 p.2 q.2
def PPs (X:Cx) (pos:Pos) (keys:List (Option Expr)) (values:List Expr) (trs:List (TE × TE)):Prop:=
 ∀(pins:List (Addr × Obj)) (s:Shared) (σ:St) (H:Hp) (Q:List (V × V)→Hp→Prop),Inv X pins σ H s→tPairs trs σ H Q→
  wpAny (model X.prog X.w) X.A (evalPairs (pairTrees keys values X.env pos)) (fun vs s'=>∃ps H',Inv X pins σ H' s'∧VV ps vs∧Q ps H') X.xe s
theorem pps_nil {X:Cx} {pos:Pos}:PPs X pos [] [] []:=fun pins s σ H Q I h=>pairTrees_nil_walk ⟨[],H,I,.nil,h⟩
theorem pps_cons {X:Cx} {pos:Pos} {k v:Expr} {ks:List (Option Expr)} {vs:List Expr} {tk tv:TE} {trs:List (TE × TE)} (hk:PE X k tk) (hv:PE X v tv) (hr:PPs X pos ks vs trs):
  PPs X pos (some k :: ks) (v :: vs) ((tk,tv) :: trs):=fun pins s σ H Q I h=>
 pairTrees_cons_walk (thn (hk pins s σ H _ I h) fun u s1 ⟨x,H1,I1,rx,q1⟩=>thn (hv pins s1 σ H1 _ I1 q1) fun w2 s2 ⟨y,H2,I2,ry,q2⟩=>
  thn (hr pins s2 σ H2 _ I2 q2) fun ws s3 ⟨ps,H3,I3,rel,q3⟩=>⟨(x,y) :: ps,H3,I3,.cons ⟨rx,ry⟩ rel,q3⟩)
def qey (kvs more:List (Key × V)):List (Key × V):=more.foldl (fun acc kv=>qcu acc kv.1 kv.2) kvs
theorem KV.merge:∀{more:List (Key × V)} {rs:List (Key × Value)} {kvs:List (Key × V)} {vs:List (Key × Value)},KV more rs→KV kvs vs→KV (qey kvs more) (merged vs rs):=by
 intro more rs kvs vs r
 unfold KV at r
 induction r generalizing kvs vs with
 |nil=>intro q;exact q
 | @cons p q ps qs h t ih=>
  intro r0
  have e:KV (qcu kvs p.1 p.2) (stored vs q.1 q.2):=by
   have:=r0.put p.1 h.2
   rw [←h.1];exact this
  exact ih e
theorem qdf:∀(more kvs:List (Key × V)),(qey kvs more).length≤kvs.length+more.length
 | [],kvs=>by show kvs.length≤kvs.length+0;omega
 |p :: r,kvs=>by
  have h1:=qdf r (qcu kvs p.1 p.2)
  have h2:=qbu kvs p.1 p.2
  show (qey (qcu kvs p.1 p.2) r).length≤_
  rw [zN];omega
theorem qf4 {P:Program} {w:World}:∀{kvs:List (Key × V)} {ws:List (Value × Value)},VV (kvs.map fun kv=>(kV kv.1,kv.2)) ws→∃rs,Carries (qay P w) ws rs∧KV kvs rs
 | [],_,r=>by rw [List.map_nil] at r;cases r;exact⟨[],True.intro,.nil⟩
 |p :: kvs,_,r=>by
  rw [zQ] at r
  cases r with
  | @cons a b as bs h t=>
   obtain⟨rs,c,q⟩:=qf4 (P:=P) (w:=w) t
   obtain⟨b1,b2⟩:=b
   exact⟨(p.1,b2) :: rs,⟨kV_is h.1,rfl,c⟩,.cons ⟨rfl,h.2⟩ q⟩
def tDisp (trs:List (TE × TE)):TE:=fun σ H Q=>∀p,H p=none→tPairs trs σ (upd H p (.dK [])) fun ps H2=>H2 p=some (.dK [])∧∃kvs:List (Key × V),ps=kvs.map (fun kv=>(kV kv.1,kv.2))∧kvs.length≤15∧Q (.ref p) (upd H2 p (.dK (qey [] kvs)))
theorem pe_disp {X:Cx} {pos:Pos} {keys:List (Option Expr)} {values:List Expr} {trs:List (TE × TE)} (h:PPs X pos keys values trs) (hall:keys.all (·.isSome)=true) (hl:keys.length=values.length) (h0:keys≠ [])
  (h15:keys.length≤15):PE X (.Dict keys values pos) (tDisp trs):=by
 intro pins s σ H Q I q
 have hn:=I.hok.fresh (Nat.le_refl s.heap.objs.size)
 have I1:=I.laid (a:=s.heap.objs.size) (o:=.dK []) (h':=s.heap.push {cls:=.type "dict",data:=.dict #[]}) (t':=s.toks) (fun _ _ q=>Heap.get?_push_of_some _ q) (Nat.le_refl _) (dk_empty s.heap I.big)
 refine wpAny_Dict_walk (knd:=qay X.prog X.w) hall hl h0 h15 (thn (h pins _ σ _ _ I1 (q _ hn)) fun ws s2 ⟨ps,H2,I2,rel,e,kvs,ep,lk,q2⟩=>?_)
 subst ep
 obtain⟨rs,c,rk⟩:=qf4 (P:=X.prog) (w:=X.w) rel
 obtain⟨z,hd,vs0,r0,dd⟩:=dk_of I2.hok e
 cases r0
 refine⟨rs,c,dd,fun h' dd' hs=>⟨.ref s.heap.objs.size,_,?_,rfl,q2⟩⟩
 have hz:(qey [] kvs).length≤sizeLine:=by
  have h1:=qdf kvs []
  rw [yO] at h1
  rw [sizeLine_eq];omega
 have he:∃q,h'.get? s.heap.objs.size=some q:=let ⟨q,_,_,hq,_⟩:=dd';⟨q,hq⟩
 exact d_write I2 (by rw [e];exact True.intro) hs he (dk_new hz hd (rk.merge .nil) dd')
structure M1 (X:Cx) (o:Expr) (m:Str) (apos:Pos) (e:Expr) (cpos:Pos):Prop where
 base:attributeBase o m X.env (eval o X.env)=eval o X.env
 few:((backTo cpos (starEach [e] X.env)).all (fun x=>!x.1) && (backToKw cpos (keywordEach [] X.env)).all (fun x=>x.1.isSome)
  && decide (([e]:List Expr).length+([]:List Keyword).length+(if ([]:List Keyword).isEmpty then 0 else 1) < 30))=true
 line:(apos.endLine==cpos.line)=true
 trees:backTo cpos (starEach [e] X.env)=[(false,eval e X.env)]
structure M2 (X:Cx) (o:Expr) (m:Str) (apos:Pos) (e f:Expr) (cpos:Pos):Prop where
 base:attributeBase o m X.env (eval o X.env)=eval o X.env
 few:((backTo cpos (starEach [e,f] X.env)).all (fun x=>!x.1) && (backToKw cpos (keywordEach [] X.env)).all (fun x=>x.1.isSome)
  && decide (([e,f]:List Expr).length+([]:List Keyword).length+(if ([]:List Keyword).isEmpty then 0 else 1) < 30))=true
 line:(apos.endLine==cpos.line)=true
 trees:backTo cpos (starEach [e,f] X.env)=[(false,eval e X.env),(false,eval f X.env)]
def IsD (H:Hp) (a:Addr):Prop:=(∃kvs,Rd H a (.dK kvs))∨∃kvs,Rd H a (.dT kvs)
theorem isD_at {X:Cx} {pins:List (Addr × Obj)} {σ:St} {H:Hp} {s:Shared} {a:Addr} (I:Inv X pins σ H s) (d:IsD H a):
  s.TypeIs (.ref a) "dict"∧(∀b,Value.ref a=.ref b→∃ob,s.heap.get? b=some ob∧ob.dict=none)∧(a==sysModules)=false:=by
 rcases d with ⟨kvs,e⟩ |⟨kvs,e⟩
 ·obtain⟨_,hd,vs,_,dd⟩:=dk_rd I.hok e
  refine⟨dd.typeIs,fun b q=>?_,hd⟩
  cases q
  obtain⟨ob,_,_,h1,h2,_⟩:=dd
  exact⟨ob,h1,h2.2.1⟩
 ·obtain⟨_,hd,xs,_,dd⟩:=dt_rd I.hok e
  refine⟨dd.typeIs,fun b q=>?_,hd⟩
  cases q
  obtain⟨ob,_,_,h1,h2,_⟩:=dd
  exact⟨ob,h1,h2.2.1⟩
section
variable {X : Cx} {pins : List (Addr × Obj)} {σ : St} {H : Hp} {s : Shared} {a : Addr} {y d : V} {u r : Value} {o : Option V} {A : Around} {E : Value → Shared → Prop}
theorem d_get2 {Q:Value→Shared→Prop} (hu:A.units+1 < cLine) (I:Inv X pins σ H s) (g:DGet H a y o) (ry:qb1 y u) (rd:qb1 d r) (h:∀w' s',Inv X pins σ H s'→qb1 (o.getD d) w'→Q w' s'):
  wpAny (model X.prog X.w) A (call (.builtin "dict.get") [.ref a,u,r]) Q E s:=by
 rcases g with ⟨kvs,k,e,ey,l⟩ |⟨kvs,k,b,e,ey,eb,l⟩
 ·subst ey
  obtain⟨z,hd,vs,rel,dd⟩:=dk_rd I.hok e
  refine call_meetsIn PySem.F.slot_dict_get dd.typeIs PySem.F.entry_dict_get (PySem.F.args_dict_get_3 _ _ _) (meets_dict_get_default (qay X.prog X.w) a (kV_is ry) hd r) ⟨_,dd.mapOf,h _ _ (I.tok _) ?_⟩
  rw [l]
  exact(rel.val k).getD rd
 ·subst ey
  cases (show u=Value.ref b from ry)
  obtain⟨z,hd,xs,rel,dd⟩:=dt_rd I.hok e
  refine call_meetsIn PySem.F.slot_dict_get dd.typeIs PySem.F.entry_dict_get (PySem.F.args_dict_get_3 _ _ _) (meetsH_dict_get_default (tupleKind (qay X.prog X.w)) a b hd r) ⟨tupleKind_room_in1 hu,k,xs,key_of I.hok eb,dd,h _ _ (I.tok _) ?_⟩
  rw [l]
  exact(rel.val k).getD rd
end
def tDGet2 (td ty tx:TE):TE:=fun σ H Q=>td σ H fun x H1=>∃a,x=.ref a∧IsD H1 a∧ty σ H1 fun y H2=>tx σ H2 fun z H3=>∃o,DGet H3 a y o∧Q (o.getD z) H3
section
variable {X : Cx} {o e f : Expr} {apos cpos : Pos} {td ty tx : TE}
theorem pe_dget2 (hu:X.A.units+1 < cLine) (ho:PE X o td) (he:PE X e ty) (hf:PE X f tx) (m:M2 X o "get" apos e f cpos):PE X (.Call (.Attribute o "get" apos) [e,f] [] cpos) (tDGet2 td ty tx):=by
 intro pins s σ H Q I h
 refine wpAny_Call_method m.base m.few m.line PySem.F.plainAttrs_dict PySem.F.slot_dict_get PySem.F.type_dict_get (thn (ho pins s σ H _ I h) fun u s1 ⟨x,H1,I1,rx,a,ex,d,q1⟩=>?_)
 subst ex
 obtain rfl:u=Value.ref a:=rx
 obtain⟨t1,t2,_⟩:=isD_at I1 d
 refine⟨t1,t2,?_⟩
 rw [m.trees]
 refine Calls.callWith_builtin rfl (Calls.evalArgs_plain (Calls.spliced_cons (thn (he pins s1 σ H1 _ I1 q1) fun iv s2 ⟨y,H2,I2,ry,q2⟩=>
  Calls.spliced_cons (thn (hf pins s2 σ H2 _ I2 q2) fun fv s3 ⟨z,H3,I3,rz,ov,g,q3⟩=>Calls.spliced_nil ?_))))
 exact d_get2 hu I3 g ry rz fun w' s4 I4 rw'=>⟨_,H3,I4,rw',q3⟩
end
section
variable {X : Cx} {pins : List (Addr × Obj)} {σ : St} {H : Hp} {s : Shared} {a : Addr} {kvs : List (Key × V)} {A : Around} {E : Value → Shared → Prop}
theorem d_copyOf {Q:Value→Shared→Prop} (I:Inv X pins σ H s) (e:Rd H a (.dK kvs)) (h:∀p s',H p=none→Inv X pins σ (upd H p (.dK kvs)) s'→Q (.ref p) s'):wpAny (model X.prog X.w) A (call (.type "dict") [.ref a]) Q E s:=by
 obtain⟨z,hd,vs,rel,dd⟩:=dk_rd I.hok e
 refine kt_call_dict hd dd (by rw [←rel.length];exact z) fun h' dd' hs=>?_
 refine h _ _ (I.hok.fresh (Nat.le_refl _)) (I.laid (a:=s.heap.objs.size) (o:=.dK kvs) (t':=s.toks) (fun b q hq=>?_) (Nat.le_refl _) (dk_new z (beq_eq_false_iff_ne.mpr (Ne.symm (Nat.ne_of_lt I.big))) rel dd'))
 exact(hs.2 b (Nat.ne_of_lt (Heap.lt_size hq))).trans (Heap.get?_push_of_some _ hq)
end
section
variable {X : Cx} {pins : List (Addr × Obj)} {σ : St} {H : Hp} {s : Shared} {a : Addr} {y : V} {u : Value} {A : Around} {E : Value → Shared → Prop}
end
section
variable {X : Cx}
theorem call_lenD:qby X (.builtin "len") (fun xs H Q=>∃a kvs,xs=[V.ref a]∧H a=some (.dK kvs)∧Q (.int kvs.length) H):=by
 intro pins s σ H xs us Q I r h
 obtain⟨a,kvs,rfl,ha,q⟩:=h
 obtain⟨u,rfl,ru⟩:=vals1 r
 cases ru
 exact d_len I (.inl ha) fun t s' I'=>⟨.int kvs.length,H,I',⟨t,rfl⟩,q⟩
end
section
variable {κ : Type} [DecidableEq κ]
theorem valV_not {kvs:List (κ × V)} {k:κ} (h:qc7 kvs k=none):¬k∈kvs.map (·.1):=by
 intro m
 obtain⟨p,hp,e⟩:=zJ.mp m
 have q:(kvs.any fun kv=>decide (kv.1=k))=true:=List.any_eq_true.mpr ⟨p,hp,decide_eq_true e⟩
 rw [qc6,h] at q
 exact absurd q (by simp)
theorem valV_in {kvs:List (κ × V)} {k:κ} {v:V} (h:qc7 kvs k=some v):k∈kvs.map (·.1):=by
 have q:(kvs.any fun kv=>decide (kv.1=k))=true:=by
  rw [qc6,h]
  all_goals rfl
 obtain⟨p,hp,e⟩:=List.any_eq_true.mp q
 exact zJ.mpr ⟨p,hp,of_decide_eq_true e⟩
theorem nd_snoc:∀{l:List κ} {k:κ},l.Nodup→¬k∈l→(l++ [k]).Nodup
 | [],k,_,_=>by simp
 |a :: r,k,h,hk=>by
  obtain⟨h1,h2⟩:=zX.mp h
  show (a ::(r++ [k])).Nodup
  refine zX.mpr ⟨fun m=>?_,nd_snoc h2 fun m=>hk (zK.mpr (Or.inr m))⟩
  rcases zU.mp m with q|q
  ·exact h1 q
  ·exact hk (zK.mpr (Or.inl (zI.mp q).symm))
theorem nd_putK {kvs:List (κ × V)} {k:κ} (v:V) (hn:(kvs.map (·.1)).Nodup) (h:qc7 kvs k=none):((qcu kvs k v).map (·.1)).Nodup:=by
 rw [qdw v h,zE]
 exact nd_snoc hn (valV_not h)
end
end L2
namespace My
open PySem PySem.Spec PyProof.Rows L2
theorem qcy {α:Type} {β:Type} [BEq α] [LawfulBEq α]:∀{l:List (α × β)} {x:α} {v:β},l.lookup x=some v→(x,v)∈l
 |(a,b) :: l,x,v,h=>by
  rw [List.lookup_cons] at h
  cases e:x==a with
  |true=>rw [e] at h;have e':=eq_of_beq e;have h':b=v:=Option.some.inj h;subst e' h';exact zH
  |false=>rw [e] at h;exact zD _ (qcy h)
theorem qbc {X:Cx} {x:Str} {scope:Scope} {cl:List (Str × Addr)} {caps:List Nat} {cn:List Str} (h1:closureFor scope X.env=pure cl) (h2:scope.kind=.function) (h3:scope.names.all (fun p=>p.2 !=.cell)=true)
  (h4:scope.names.all (fun p=>p.2 !=.local || scope.names.lookup p.1==some .local)=true) (h5:scope.names.lookup x=some .local) (h6:AllC (fun p=>X.env.cells.lookup p.1=some p.2) cl)
  (h7:(relabel scope X.env).names.all (fun p=>!(p.2==.cell || p.2==.free) ||(cl.lookup p.1).isSome)=true) (h8:caps.length=cn.length)
  (h9:AllC (fun p=>X.N[p.1]?=some p.2∧X.env.kindOf p.2=some .cell∧(relabel scope X.env).names.lookup p.2=some .cell∧X.env.scope.names.lookup p.2=some .cell∧∃c,cl.lookup p.2=some c) (caps.zip cn)) (h10:(x :: cn).Nodup):Caps X x scope cl caps cn:=by
 refine⟨h1,h2,fun y hy z=>?_,fun y hy z=>?_,h5,fun y c e=>AllC.mem h6 _ (qcy e),fun y hy=>?_,h8,fun k y j e1 e2=>?_,h10⟩
 ·have q:=yF.mp h3 y hy
  rw [z] at q
  cases q
 ·have q:=yF.mp h4 y hy
  rw [z] at q
  simpa using q
 ·have m:∃k,(y,k)∈(relabel scope X.env).names∧(k=.cell∨k=.free):=by
   rcases hy with hy|hy
   ·exact⟨_,qcy hy,.inl rfl⟩
   ·exact⟨_,qcy hy,.inr rfl⟩
  obtain⟨k,hm,hk⟩:=m
  have q:=yF.mp h7 _ hm
  have hk':(k==NameKind.cell || k==NameKind.free)=true:=by rcases hk with rfl|rfl <;> decide
  rw [hk'] at q
  exact Option.isSome_iff_exists.mp (by simpa using q)
 ·refine AllC.mem h9 (j,y) ?_
  have hz:(caps.zip cn)[k]?=some (j,y):=by rw [List.getElem?_zip_eq_some];exact⟨e2,e1⟩
  exact zG hz
section
variable {X : Cx}
theorem pi_str {l:Expr} {tl:TE} {y:Str} {py:Pos} (hl:PE X l tl):PI X (.Name y py) l (iStr tl):=by
 intro pins s σ H R I h
 refine thn (hl pins s σ H _ I h) fun u s1 ⟨v,H1,I1,r,x,ev,q⟩=>?_
 subst ev
 obtain⟨t,rfl⟩:=r
 have hn:H1 s1.heap.objs.size=none:=I1.hok.fresh (Nat.le_refl _)
 have fp:∀b∈ [s1.heap.objs.size],FpOk X pins H1 b:=fun b hb=>by
  have e:b=s1.heap.objs.size:=by simpa using hb
  subst e
  exact I1.fpOk (Nat.le_refl _) hn
 cases ha:x.cps.all (·< 128)
 ·exact wpAny_pyIter_wide ha ⟨_, [s1.heap.objs.size],fun i h=>h.IsStrIter s1.heap.objs.size "str_iterator" x t i,Its x,H1,rfl,I1.kept (t':=s1.toks) (fun _ _ e=>Heap.get?_push_of_some _ e),
   turn_str x t _ _ (fun A hA=>Walks.strWide hA _ x t) fun A i s' Q' E' st hq=>wpAny_pyIter_striter_wide st hq,⟨_,Heap.get?_push_size _ rfl,rfl,rfl⟩,fp,q⟩
 ·exact wpAny_pyIter_ascii ha ⟨_, [s1.heap.objs.size],fun i h=>h.IsStrIter s1.heap.objs.size "str_ascii_iterator" x t i,Its x,H1,rfl,I1.kept (t':=s1.toks) (fun _ _ e=>Heap.get?_push_of_some _ e),
   turn_str x t _ _ (fun A hA=>Walks.strAscii hA _ x t) fun A i s' Q' E' st hq=>wpAny_pyIter_striter_ascii st hq,⟨_,Heap.get?_push_size _ rfl,rfl,rfl⟩,fp,q⟩
def rAll (K:Frag):List V→Hp→VK→Prop:=fun xs H Q=>∃(p:Addr) (bs:List Bool),xs=[.ref p]∧SqL K H p (bs.map V.bl)∧Q (.bl (bs.all id)) H
theorem all_range (bs:List Bool):((List.range bs.length).all fun i=>(bs[i]?).getD true)=bs.all id:=by
 rw [Bool.eq_iff_iff,yF,yF]
 constructor
 ·intro h b hb
  obtain⟨i,hi,e⟩:=zM.mp hb
  have q:=h i (yR.mpr hi)
  rw [zA hi,e] at q
  exact q
 ·intro h i hi
  have hi':=yR.mp hi
  rw [zA hi']
  exact h _ (zL hi')
theorem call_allB (hc:X.calm=true):qby X (.builtin "all") (rAll X.K):=by
 intro pins s σ H xs us Q I hv h
 obtain⟨p,bs,rfl,hS,q⟩:=h
 obtain⟨u,rfl,ru⟩:=hv.one
 cases ru
 obtain⟨its,rv,pl,hz⟩:=I.list hS
 have hl:=pl.isList
 have hlt:p < s.heap.objs.size:=by obtain⟨_,e,_⟩:=hl;exact Heap.lt_size e
 have hlen:=rv.length
 rw [zB] at hlen
 refine call_all_walk (wpAny_pyIter_list hl ?_)
 refine⟨s.heap.objs.size, [s.heap.objs.size,p], [s.heap.objs.size],its.toArray.size,_,_,fun i=>(bs[i]?).getD true,rfl,Walks.list (A:=X.A.in1) (I.ok.hd hc) _ p (Nat.ne_of_lt hlt) its.toArray,⟨⟨_,Heap.get?_push_size _ rfl,rfl,rfl⟩,hl.push _⟩,fun i v s' Q' E' hP hQ=>?_,fun h' tk hk=>?_⟩
 ·have hi:its[i]?=some v:=by simpa using hP
  have hb:i < bs.length:=by rw [hlen];exact(List.getElem?_eq_some_iff.mp hi).1
  have hx:(bs.map V.bl)[i]?=some (.bl bs[i]):=by rw [zC,zA hb];rfl
  obtain⟨u,e,r⟩:=rv.get hx
  rw [hi] at e
  cases e
  cases r
  dsimp only at hQ
  rw [zA hb] at hQ
  exact wpAny_truthy_bool hQ
 ·have e:((List.range its.toArray.size).all fun i=>(bs[i]?).getD true)=bs.all id:=by
   rw [yA,←hlen];exact all_range bs
  rw [e]
  exact⟨.bl _,H,I.kept (t':=tk) (fun b o eb=>hk b o (fun hm=>by have z:=Heap.lt_size eb;rw [zI.mp hm] at z;exact Nat.lt_irrefl _ z) (Heap.get?_push_of_some _ eb)),rfl,q⟩
def rCatS:R2:=fun x y H Q=>∃i j,x=.str i∧y=.str j∧i.length+j.length≤sizeLine∧Q (.str (i++j)) H
theorem op_catS:OpR X (binaryOp .Add) rCatS:=op_add_str
def rInS:R2:=fun x y H Q=>∃i j,x=.str i∧y=.str j∧Q (.bl (!(Builtin.Str.occurrences j i 0 j.length 1).isEmpty)) H
theorem op_inS:OpR X (compareOp .In) rInS:=op_in_str
def rLenS:List V→Hp→VK→Prop:=fun xs H Q=>∃z,xs=[.str z]∧z.length≤sizeLine∧Q (.int z.length) H
theorem call_lenS:qby X (.builtin "len") rLenS:=call_len_str
end
section
variable {K : Frag} {H : Hp} {Q : VK} {σ : L2.St}
theorem r_chain {r r':R2} {ta tb tc:TE} (h:ta σ H fun x H1=>tb σ H1 fun y H2=>r x y H2 fun z H3=>∃k,z=.bl k∧(if k=true then tc σ H3 fun w' H4=>r' y w' H4 Q else Q (.bl false) H3)):tChain r r' ta tb tc σ H Q:=h
theorem r_all {p:Addr} {bs:List Bool} (hS:SqL K H p (bs.map V.bl)) (h:Q (.bl (bs.all id)) H):rAll K [.ref p] H Q:=⟨p,bs,rfl,hS,h⟩
theorem r_catS {i j:Str} (hn:i.length+j.length≤sizeLine) (h:Q (.str (i++j)) H):rCatS (.str i) (.str j) H Q:=⟨i,j,rfl,rfl,hn,h⟩
theorem r_inS {i j:Str} (h:Q (.bl (!(Builtin.Str.occurrences j i 0 j.length 1).isEmpty)) H):rInS (.str i) (.str j) H Q:=⟨i,j,rfl,rfl,h⟩
theorem r_lenS {z:Str} (hn:z.length≤sizeLine) (h:Q (.int z.length) H):rLenS [.str z] H Q:=⟨z,rfl,hn,h⟩
theorem r_ixS {z:Str} {i:Int} {c:Nat} (hn:z.length≤sizeLine) (e:atI z.cps.toList i=some c) (h:Q (.str ⟨#[c]⟩) H):rIxS (.str z) (.int i) H Q:=⟨z,i,c,rfl,rfl,hn,e,h⟩
theorem r_iS {tl:TE} {R:It→Hp→Prop} (h:tl σ H fun v H1=>rItS v H1 R):iStr tl σ H R:=h
theorem r_itS {x:Str} {R:It→Hp→Prop} (h:R (Its x) H):rItS (.str x) H R:=⟨x,rfl,h⟩
theorem r_comp {wi:TI} {caps:List Nat} {tt:CT TT} {te:CT TE} (h:wi σ H fun J H1=>∀(C:Addr) (s:Shared) (H0:Hp) (fp:List Addr) (acc:Addr),H1 acc=none→COMP J caps (tt C s H0 fp) (te C s H0 fp) acc σ (upd H1 acc (.lst [])) Q):tComp wi caps tt te σ H Q:=h
theorem r_true {Q:Bool→Hp→Prop} (h:Q true H):tTrue σ H Q:=h
theorem r_app {acc:Addr} {N:Hp→Prop} {y:V} {ys:List V} (ha:H acc=some (.lst ys)) (hz:ys.length < sizeLine) (h:N (upd H acc (.lst (ys++ [y])))):rApp acc N y H:=⟨ys,ha,hz,h⟩
theorem c_by {J:It} {caps:List Nat} {tt:TT} {te:TE} {acc:Addr} (n:Nat) (Pv:Nat→Hp→Prop) (h0:Pv 0 H) (hgo:∀i H,i < n→Pv i H→J.go i H) (hst:∀H,Pv n H→J.stop n H)
  (hs:∀i H v H',i < n→Pv i H→J.yld i H v H'→tt (some v :: qb2 caps σ) H' fun b H2=>if b=true then te (some v :: qb2 caps σ) H2 fun y H3=>rApp acc (Pv (i+1)) y H3 else Pv (i+1) H2)
  (hd:∀H,Pv n H→Q (.ref acc) H):COMP J caps tt te acc σ H Q:=by
 refine⟨fun i m H=>m=n - i∧i≤n∧Pv i H,⟨n,rfl,Nat.zero_le _,h0⟩,?_⟩
 rintro i m H ⟨rfl,hi,p⟩
 by_cases hlt:i < n
 ·exact .inr ⟨hgo i H hlt p,Pv (i+1),fun H' p'=>⟨n - (i+1),by omega,rfl,hlt,p'⟩,fun v H' y=>hs i H v H' hlt p y⟩
 ·have e:i=n:=by omega
  subst e
  exact .inl ⟨hst H p,hd H p⟩
end
section
variable {X : Cx}
def rRep:R2:=fun x y H Q=>∃z n,x=.str z∧y=.int n∧0≤n∧n≤1∧Q (.str (if n < 1 then Str.empty else z)) H
def rIntB:List V→Hp→VK→Prop:=fun xs H Q=>∃b:Bool,xs=[.bl b]∧Q (.int (if b then 1 else 0)) H
theorem call_intB:qby X (.type "int") rIntB:=by
 intro pins s σ H xs us Q I r h
 obtain⟨b,rfl,q⟩:=h
 cases r with
 |cons r1 r2=>
  cases r2
  cases r1
  exact call_int_bool ⟨.int _,H,I.tok _,⟨_,rfl⟩,q⟩
end
section
variable {H : Hp} {Q : VK}
theorem r_intB {b:Bool} (h:Q (.int (if b then 1 else 0)) H):rIntB [.bl b] H Q:=⟨b,rfl,h⟩
end
section
variable {prog : Program} {w : World} {A : Around} {E : Value → Shared → Prop} {h : Heap} {g : Array GenState} {d : Drawn} {t : Nat} {os : OsState}
variable {nm q : Str} {C N fI : Addr} {bs bm bmB : List Value} {hdct : Bool} {sn : List Str} {sub : List Value} {ab : Bool} {col : Option Bool} {dd : Option Addr} {k0 k1 k2 k3 k5 : Option Value} {B Bn newId nid initId inN : String} {bmN : List Value}
def qcp (h:Heap) (C:Addr) (rest:List Value):Heap:=(h.push {cls:=.type "tuple",data:=.seq rest.toArray}).push {cls:=.ref C,data:=.fields #[.ref h.objs.size,.none,.none,.none,.bool false,.none]}
theorem qes (Fn:ExcBaseFacts Bn newId inN bmN) (hBn:bmB.contains (.type Bn)=true) (F:ExcBaseFacts B nid initId bmB) (T:OwnTail h bmB bm) {mN:Str→Option Value} {rest:List Value} {Q:Fin→Shared→Prop}
  (hC:h.get? C=some (excClassObj nm q C N bs bm hdct sn sub ab col dd k0 k1 k2 k3 k5 newId)) (hn:h.Ns N mN) (hni:mN "__init__" =some (.ref fI))
  (hb:PySem.W.Looks (model prog w) (qcp h C rest) (bindSpecial (.ref fI) (.ref (h.objs.size+1))) (.ref fI, [.ref (h.objs.size+1)]))
  (hq:wpAny (model prog w) A (call (.ref fI) (.ref (h.objs.size+1) :: rest)) (fun v s'=>v=.none∧Q (.done (.ret (.ref (h.objs.size+1)))) s') E ⟨qcp h C rest,g,d,t,os⟩) (hrest:rest.length≤sizeLine:=by size_fits):
  wpAny (model prog w) A (Builtin.«type.__call__» ⟨.ref C :: rest, []⟩) Q E ⟨h,g,d,t,os⟩:=by
 repeat (first|with_reducible refine wpAny_loadPart_at hC ?_|with_reducible refine wpAny_madeBy_exc hC ?_|wp_step)
 refine codeAny_call_builtin_code (Code.quiet_builtin _ Fn.quiet) (wpAny_check_new_subU Fn hBn T hC ?_)
 refine codeAny_exc_new_subU Fn hBn F T hC ?_ hrest
 show wpAny _ _ _ _ _ _
 have hC₁:=Heap.get?_push_of_some {cls:=.ref C,data:=.fields #[.ref h.objs.size,.none,.none,.none,.bool false,.none]}
  (Heap.get?_push_of_some {cls:=.type "tuple",data:=.seq rest.toArray} hC)
 have hn₁:((h.push {cls:=.type "tuple",data:=.seq rest.toArray}).push {cls:=.ref C,data:=.fields #[.ref h.objs.size,.none,.none,.none,.bool false,.none]}).Ns N mN:=
  let ⟨o,es,ep,e,r⟩:=hn;⟨o,es,ep,Heap.get?_push_of_some _ (Heap.get?_push_of_some _ e),r⟩
 have hget:((h.push {cls:=.type "tuple",data:=.seq rest.toArray}).push
   {cls:=.ref C,data:=.fields #[.ref h.objs.size,.none,.none,.none,.bool false,.none]}).get? (h.objs.size+1)=some
   {cls:=.ref C,data:=.fields #[.ref h.objs.size,.none,.none,.none,.bool false,.none]}:=by heap_get
 have hcC:(Value.ref C :: bm).contains (.ref C)=true:=by simp
 have T₁:=T.keeps (h':=(h.push {cls:=.type "tuple",data:=.seq rest.toArray}).push {cls:=.ref C,data:=.fields #[.ref h.objs.size,.none,.none,.none,.bool false,.none]})
  fun b o e=>Heap.get?_push_of_some _ (Heap.get?_push_of_some _ e)
 unfold isInstance
 repeat (first|with_reducible refine wpAny_loadPart_at hget ?_|(with_reducible refine wpAny_isSubtype_exc hC₁ ?_;rw [hcC]) |wp_step)
 show wpAny _ _ (typeLookup (.ref C) _) _ _ _
 refine wpAny_typeLookup_tail hC₁ hn₁ T₁ F.mroIs F.init.lookup ?_
 rw [hni]
 refine wpAny_holding (wpAny_bind (hb.at ?_))
 refine wpAny_bind (wpAny_mono hq (fun v s' ⟨ev,q⟩=>?_) fun _ _ x=>x)
 subst ev
 wp_walk
 exact q
theorem qfo (Fn:ExcBaseFacts Bn newId inN bmN) (hBn:bmB.contains (.type Bn)=true) (F:ExcBaseFacts B nid initId bmB) (T:OwnTail h bmB bm) {mN:Str→Option Value} {rest:List Value} {Q:Value→Shared→Prop}
  (hC:h.get? C=some (excClassObj nm q C N bs bm hdct sn sub ab col dd k0 k1 k2 k3 k5 newId)) (hn:h.Ns N mN) (hni:mN "__init__" =some (.ref fI))
  (hb:PySem.W.Looks (model prog w) (qcp h C rest) (bindSpecial (.ref fI) (.ref (h.objs.size+1))) (.ref fI, [.ref (h.objs.size+1)]))
  (hq:wpAny (model prog w) (A.under (.builtin "type.__call__" ⟨.ref C :: rest, []⟩)) (call (.ref fI) (.ref (h.objs.size+1) :: rest)) (fun v s'=>v=.none∧Q (.ref (h.objs.size+1)) s') E ⟨qcp h C rest,g,d,t,os⟩) (hrest:rest.length≤sizeLine:=by size_fits):
  wpAny (model prog w) A (call (.ref C) rest) Q E ⟨h,g,d,t,os⟩:=by
 have f1:=tc_lookup
 have f2:=tc_bind (.ref C)
 have hT:(⟨h,g,d,t,os⟩:Shared).TypeIs (.ref C) "type":=⟨_,hC,rfl⟩
 refine wpAny_call (codeAny_of_tree ?_)
 show wpAny _ _ (callAny (.ref C) _) _ _ _
 repeat (any_goals (first|assumption|with_reducible refine wpAny_loadPart_at hC ?_|wp_step))
 refine⟨rfl,?_⟩
 refine codeAny_call_builtin_at (Code.quiet_builtin _ (by decide+kernel)) entry_typeCall (wpAny_check_type_call_sub hC (qes (hrest:=hrest) Fn hBn F T hC hn hni hb ?_))
 exact hq
theorem qev {env:Env} {M:Model} {s:Shared} {x:Sem Value} {Q:Flow→Shared→Prop} (hbase:bm.contains (.type "BaseException")=true) (hh:A.handled=none)
  (h:wpAny M A x (fun v s₁=>∃e oe,v=.ref e∧s₁.heap.get? C=some (excClassObj nm q C N bs bm hdct sn sub ab col dd k0 k1 k2 k3 k5 newId)∧
   s₁.heap.get? e=some oe∧oe.cls=.ref C∧(∃vs,oe.data=.fields vs∧vs[1]?=some .none)∧E (.ref e) s₁) E s):
  wpAny M A (raiseStmt env (some x) none) Q E s:=by
 have hcB:(Value.ref C :: bm).contains (.type "BaseException")=true:=by rw [List.contains_cons,hbase,Bool.or_true]
 unfold raiseStmt
 refine wpAny_bind (wpAny_mono h (fun v s₁ h₁=>?_) fun _ _ x=>x)
 obtain⟨e,oe,rfl,hC,he,hcls,⟨vs,hd,h1⟩,hE⟩:=h₁
 obtain⟨hp,g,d,tk,os⟩:=s₁
 obtain⟨oc,odd,oda,osl⟩:=oe
 obtain rfl:oc=.ref C:=hcls
 obtain rfl:oda=.fields vs:=hd
 repeat (first|with_reducible refine wpAny_loadPart_at he ?_|with_reducible refine wpAny_loadPart_at hC ?_|(with_reducible refine wpAny_isSubtype_exc hC ?_;rw [hcB]) |wp_step)
 rw [h1]
 refine wpAny_pure ?_
 rw [if_neg (by decide)]
 exact wpAny_pure (wpAny_raiseNew_none hh hE)
theorem qep {env:Env} {s:Shared} (Fn:ExcBaseFacts Bn newId inN bmN) (hBn:bmB.contains (.type Bn)=true) (F:ExcBaseFacts B nid initId bmB) {mN:Str→Option Value} {x:Str} {np cpos pos:Pos} {args:List Expr} {Q:Flow→Shared→Prop}
  (hbase:bm.contains (.type "BaseException")=true) (hh:A.handled=none) (hplain:(backTo cpos (starEach args env)).any (·.1)=false) (hni:mN "__init__" =some (.ref fI))
  (h:wpAny (model prog w) A (eval (.Name x np) env) (fun f s₁=>f=.ref C∧wpAny (model prog w) A (evalArgs (.ref C) true (backTo cpos (starEach args env)) [])
   (fun a s₂=>a.kw=[]∧a.pos.length≤sizeLine∧s₂.heap.get? C=some (excClassObj nm q C N bs bm hdct sn sub ab col dd k0 k1 k2 k3 k5 newId)∧s₂.heap.Ns N mN∧OwnTail s₂.heap bmB bm∧
    PySem.W.Looks (model prog w) (qcp s₂.heap C a.pos) (bindSpecial (.ref fI) (.ref (s₂.heap.objs.size+1))) (.ref fI, [.ref (s₂.heap.objs.size+1)])∧
    wpAny (model prog w) (A.under (.builtin "type.__call__" ⟨.ref C :: a.pos, []⟩)) (call (.ref fI) (.ref (s₂.heap.objs.size+1) :: a.pos))
     (fun v s'=>v=.none∧s'.heap.get? C=some (excClassObj nm q C N bs bm hdct sn sub ab col dd k0 k1 k2 k3 k5 newId)∧(∃oe,s'.heap.get? (s₂.heap.objs.size+1)=some oe∧oe.cls=.ref C∧∃vs,oe.data=.fields vs∧vs[1]?=some .none)∧E (.ref (s₂.heap.objs.size+1)) s') E {s₂ with heap:=qcp s₂.heap C a.pos}) E s₁) E s):
  wpAny (model prog w) A (exec (.Raise (some (.Call (.Name x np) args [] cpos)) none pos) env) Q E s:=by
 rw [arm_exec_Raise]
 first
  |refine wpAny_bind (wpAny_standAt (qev (C:=C) (nm:=nm) (q:=q) (N:=N) (bs:=bs) (bm:=bm) (hdct:=hdct) (sn:=sn) (sub:=sub) (ab:=ab) (col:=col) (dd:=dd) (k0:=k0) (k1:=k1) (k2:=k2) (k3:=k3) (k5:=k5) (newId:=newId) hbase hh (wpAny_bind (wpAny_mono (wpAny_Call_ofName (wpAny_mono h (fun f s₁ h₁=>?_) fun _ _ x=>x)) (fun v s₃ h₃=>wpAny_bind (wpAny_standAt (wpAny_pure h₃))) fun _ _ x=>x))))
  |(simp only [evalOpt,Option.map];refine wpAny_bind (wpAny_standAt (qev (C:=C) (nm:=nm) (q:=q) (N:=N) (bs:=bs) (bm:=bm) (hdct:=hdct) (sn:=sn) (sub:=sub) (ab:=ab) (col:=col) (dd:=dd) (k0:=k0) (k1:=k1) (k2:=k2) (k3:=k3) (k5:=k5) (newId:=newId) hbase hh (wpAny_bind (wpAny_mono (wpAny_Call_ofName (wpAny_mono h (fun f s₁ h₁=>?_) fun _ _ x=>x)) (fun v s₃ h₃=>wpAny_bind (wpAny_standAt (wpAny_pure h₃))) fun _ _ x=>x)))))
 obtain⟨rfl,h₁⟩:=h₁
 unfold callWith
 refine wpAny_bind (wpAny_holding (wpAny_mono h₁ (fun a s₂ h₂=>wpAny_bind (wpAny_standAt ?_)) fun _ _ x=>x))
 obtain⟨apos,akw⟩:=a
 obtain⟨hkw,hlen,hC,hn,T,hb,h₂⟩:=h₂
 obtain rfl:akw=[]:=hkw
 obtain⟨hp,g,d,tk,os⟩:=s₂
 simp only [hplain]
 refine wpAny_bind (wpAny_keeperOf_exc hC ?_)
 refine wpAny_bind (qfo (hrest:=hlen) Fn hBn F T hC hn hni hb (wpAny_mono h₂ (fun v s' ⟨e1,e2,⟨oe,e3,e4,e6⟩,e5⟩=>⟨e1,wpAny_bind (wpAny_holding (wpAny_point (wpAny_pure ?_)))⟩) fun _ _ x=>x))
 exact⟨_,oe,rfl,e2,e3,e4,e6,e5⟩
end
def onlyVE:List Value→Bool
 | .ref _ :: r=>onlyVE r
 | [.type a,.type b,.type c,.type e]=>a== "ValueError" && b== "Exception" && c== "BaseException" && e== "object"
 |_=>false
def overVE (K:Frag) (C:Addr):Bool:=(PySem.W.clsIn K C).any fun cd=>onlyVE cd.mro
section
variable {prog : Program} {w : World} {A : Around} {E : Value → Shared → Prop} {s : Shared} {K : Frag} {x C : Addr} {o : Obj} {name : Str} {v : Value} {R : Result → Shared → Prop}
open PySem.W in
end
section
variable {prog : Program} {w : World} {A : Around} {E : Value → Shared → Prop} {s : Shared} {K : Frag} {x C : Addr} {ox : Obj} {od : Option Obj} {name : Str} {v : Value} {R : Result → Shared → Prop}
open PySem.W in
open PySem.W in
open PySem.W in
open PySem.W in
structure XAt (K:Frag) (C:Addr):Prop where
 ga:findIn K (.ref C) "__getattribute__" =some (some (.builtin "BaseException.__getattribute__"))
 gn:findIn K (.ref C) "__getattr__" =some none
 mb:mroIn K C (.type "BaseException")=some true
 mo:mroIn K C (.type "object")=some true
 hd:hasDictIn K C=true
 cl:findIn K (.ref C) "__class__" =some (some (.builtin "object.__class__"))
 sp:specialIn K (.builtin "object.__class__") "__get__" =some (some (.builtin "getset_descriptor.__get__"))
 tk:PySem.W.takesIn K (.builtin "object.__class__")=some true
 sa:findIn K (.ref C) "__setattr__" =some (some (.builtin "object.__setattr__"))
 po:overVE K C=true
open PySem.W in
open PySem.W in
end
def XS (a C:Addr) (d:Option Addr):HO:=.ext fun h=>∃(oe:Obj) (vs:Array Value),h.get? a=some oe∧oe.cls=.ref C∧oe.dict=d∧oe.data=.fields vs∧vs[1]?=some .none∧(∃t0:Addr,vs[0]?=some (.ref t0))∧∀dx,d=some dx→dx≠a
section
variable {X : Cx} {pins : List (Addr × Obj)} {σ : L2.St} {H : Hp} {s : Shared} {a C dx : Addr} {fs : List (Str × V)} {f : Str} {v y : V} {u : Value} {A : Around} {E : Value → Shared → Prop}
theorem xs_ok {P:Program} {w:World} {H:Hp} {h:Heap} {d:Option Addr} (x:∃(oe:Obj) (vs:Array Value),h.get? a=some oe∧oe.cls=.ref C∧oe.dict=d∧oe.data=.fields vs∧vs[1]?=some .none∧(∃t0:Addr,vs[0]?=some (.ref t0))∧∀dx,d=some dx→dx≠a):qbd P w H h a (XS a C d):=by
 obtain⟨oe,vs,h1,h2⟩:=id x
 exact⟨x,⟨oe,h1⟩,fun h1 h2 ⟨oe,vs,z,zz⟩ k=>⟨oe,vs,k _ z,zz⟩⟩
theorem xs_get {P:Program} {w:World} {h:Heap} {d:Option Addr} (x:HOk P w H h) (e:H a=some (XS a C d)):∃(oe:Obj) (vs:Array Value),h.get? a=some oe∧oe.cls=.ref C∧oe.dict=d∧oe.data=.fields vs∧vs[1]?=some .none∧(∃t0:Addr,vs[0]?=some (.ref t0))∧∀dx,d=some dx→dx≠a:=
 (show qbd P w H h a (XS a C d) from x a _ e).1
end
def del (H:Hp) (a:Addr):Hp:=fun b=>if b=a then none else H b
theorem qd0 {H:Hp} {a:Addr}:del H a a=none:=by unfold del;rw [if_pos rfl]
theorem qd4 {H:Hp} {a b:Addr} (h:b≠a):del H a b=H b:=by unfold del;rw [if_neg h]
section
variable {X : Cx} {pins : List (Addr × Obj)} {σ : L2.St} {H : Hp} {s : Shared} {a : Addr} {φ : Heap → Prop}
theorem Inv.del (I:Inv X pins σ H s) (e:H a=some (.ext φ)):Inv X pins σ (My.del H a) s:=by
 have ne:∀b o,H b=some o→(∀φ,o≠ .ext φ)→b≠a:=fun b o q d z=>by rw [z,e] at q;cases q;exact d _ rfl
 refine⟨I.ok,I.os,I.bare,⟨I.base.keep,I.base.slot,fun b o q n hx=>?_,I.base.there,fun b xs q=>?_,fun b o u q=>?_,fun b ps q=>?_⟩,I.loc,I.cell,?_,fun x c q=>?_,fun p hp=>?_,fun b o q=>?_,I.len⟩
 ·have z:=I.base.free b o q n hx
  by_cases hb:b=a
  ·rw [hb];exact qd0
  ·rw [qd4 hb];exact z
 ·have z:=I.base.tups b xs q
  rw [qd4 (ne _ _ z (by intro φ y;cases y))];exact z
 ·have z:=I.base.frzs b o u q
  rw [qd4 (ne _ _ z (by intro φ y;cases y))];exact z
 ·obtain⟨more,z⟩:=I.base.tbls b ps q
  exact⟨more,by rw [qd4 (ne _ _ z (by intro φ y;cases y))];exact z⟩
 ·by_cases hb:X.env.locals=a
  ·rw [hb];exact qd0
  ·rw [qd4 hb];exact I.free
 ·by_cases hb:c=a
  ·rw [hb];exact qd0
  ·rw [qd4 hb];exact I.freeC x c q
 ·obtain⟨z,n,l⟩:=I.pin p hp
  refine⟨z,?_,l⟩
  by_cases hb:p.1=a
  ·rw [hb];exact qd0
  ·rw [qd4 hb];exact n
 ·have hb:b≠a:=fun z=>by rw [z,qd0] at q;cases q
  rw [qd4 hb] at q
  exact(I.hok b o q).stay (fun _ _ _ q=>q) (fun c q=>by rw [qd4 (ne _ _ q (by intro φ y;cases y))];exact q) fun c xs q=>by rw [qd4 (ne _ _ q (by intro φ y;cases y))];exact q
end
structure XClI (K:Frag) (C f:Addr):Prop where
 ob:∃(nm q:Str) (N:Addr) (bs bm:List Value) (hdct:Bool) (sn:List Str) (sub:List Value) (ab:Bool) (col:Option Bool) (dd:Option Addr) (k0 k1 k2 k3 k5:Option Value) (mN:Str→Option Value),
  K.lookup C=some (excClassObj nm q C N bs bm hdct sn sub ab col dd k0 k1 k2 k3 k5 "ValueError.__new__")∧(∀h:Heap,K.In h→h.Ns N mN)∧mN "__init__" =some (.ref f)∧
  ∀h:Heap,K.In h→OwnTail h [.type "ValueError",.type "Exception",.type "BaseException",.type "object"] bm
 fn:isFn K (.ref f)=true
section
variable {X : Cx} {k : Nat} {f : Addr} {fd : FuncData} {ps : List Str} {sp : Sp} {x : Str} {C : Addr} {W : L2.St → XK} {np cpos pos : Pos} {e : Expr} {es : List Expr} {t : TA} {CX : CXT}
def tRaiseI (t:TA) (C:Addr) (sp:Sp) (W:L2.St→XK):TS:=fun _ σ H=>t σ H fun xs H1=>xs.length≤sizeLine∧∀a,H1 a=none→sp (.ref a :: xs) (upd H1 a (XS a C none)) (fun v H2=>v=.non∧∃d,H2 a=some (XS a C d)∧W σ (.ref C) d (My.del H2 a)) E0
theorem ps_raiseI (hc:X.calm=true) (M:XClI X.K C f) (F:FnOk X.prog X.w X.K X.mg X.base CX0 k f fd ps sp) (hr:Room (k+1) X.A) (hb:qah X.K fd ps []) (hg:Gl X x) (hm:X.mg x=some (.ref C)) (hx:Xes X W) (ha:PA X (e :: es) t) (hex:X.ex=[]:=by rfl) (hdb:(x==("__debug__" :Str))=false:=by decide)
  (he:starEach (e :: es) X.env=(false,eval e X.env) :: starEach es X.env:=by rfl) (hpl:(backTo cpos (starEach es X.env)).any (·.1)=false:=by rfl):
  PS X (.Raise (some (.Call (.Name x np) (e :: es) [] cpos)) none pos) (tRaiseI t C sp W):=by
 intro pins s σ H D I h
 obtain⟨nm,q,N,bs,bm,hdct,sn,sub,ab,col,dd,k0,k1,k2,k3,k5,mN,hC,hN,hni,T⟩:=M.ob
 refine qep (C:=C) (fI:=f) (nm:=nm) (q:=q) (N:=N) (bs:=bs) (bm:=bm) (hdct:=hdct) (sn:=sn) (sub:=sub) (ab:=ab) (col:=col) (dd:=dd) (k0:=k0) (k1:=k1) (k2:=k2) (k3:=k3) (k5:=k5)
  PySem.F.excBase_ValueError (by decide) PySem.F.excBase_ValueError (mN:=mN) ((T _ I.kIn).hasType PySem.F.excBase_ValueError.hasBase) (I.ok.hd hc) ?_ hni ?_
 ·rw [he];show (false ||(backTo cpos (starEach es X.env)).any (·.1))=false;rw [hpl];rfl
 ·refine qd7 I hg hm ⟨rfl,?_⟩ hdb
  have z:=ha cpos pins s σ H _ I h
  rw [he] at z ⊢
  refine Calls.evalArgs_plain (wpAny_mono z (fun us s2 ⟨vs,H2,I2,r,hl,q⟩=>?_) fun _ _ y=>y)
  have ea:(qcp s2.heap C us).get? (s2.heap.objs.size+1)=some {cls:=.ref C,data:=.fields #[.ref s2.heap.objs.size,.none,.none,.none,.bool false,.none]}:=by
   have:=Heap.get?_push_size (s2.heap.push {cls:=.type "tuple",data:=.seq us.toArray}) (o:={cls:=.ref C,data:=.fields #[.ref s2.heap.objs.size,.none,.none,.none,.bool false,.none]}) rfl
   rwa [Heap.size_push] at this
  have hn:H2 (s2.heap.objs.size+1)=none:=I2.hok.fresh (Nat.le_succ _)
  have I3:Inv X pins σ (upd H2 (s2.heap.objs.size+1) (XS (s2.heap.objs.size+1) C none)) {s2 with heap:=qcp s2.heap C us}:=
   I2.laid (t':=s2.toks) (fun b o y=>Heap.get?_push_of_some _ (Heap.get?_push_of_some _ y)) (Nat.le_succ _) (xs_ok ⟨_,_,ea,rfl,rfl,rfl,rfl,⟨_,rfl⟩,fun dx y=>by cases y⟩)
  have q:=q _ hn
  refine⟨rfl,by rw [←r.length];exact hl,I2.kIn _ _ hC,hN _ I2.kIn,T _ I2.kIn,PySem.W.bind_fn I3.kIn _ (beq_iff_eq.mp M.fn),?_⟩
  have r2:qb9 (V.ref (s2.heap.objs.size+1) :: vs) (Value.ref (s2.heap.objs.size+1) :: us):=.cons rfl r
  have hln:(Value.ref (s2.heap.objs.size+1) :: us++ []).length=ps.length:=by rw [yD,←r2.length];exact F.len _ _ _ _ q
  have hb':=hb {s2 with heap:=qcp s2.heap C us} (Value.ref (s2.heap.objs.size+1) :: us) I3.kIn hln
  rw [yD] at hb'
  refine wpAny_call (codeAny_mono (F.run _ X.stack _ _ ⟨Value.ref (s2.heap.objs.size+1) :: us, []⟩ (Value.ref (s2.heap.objs.size+1) :: us) _ _ E0 (hr.make C us []) (I3.env0.make C us []) hb' r2 q) fun r s' hq'=>?_)
  cases r with
  |error e=>exact False.elim hq'
  |ok fl=>
   cases fl with
   |ret u=>
    obtain⟨v,H',I4,rv,ev,d,e4,q4⟩:=I3.after hq'
    subst ev
    obtain⟨oe,ws,g1,g2,g3,g4,g5,g6,g7⟩:=xs_get I4.hok e4
    refine⟨rv,I4.kIn _ _ hC,⟨oe,g1,g2,ws,g4,g5⟩,?_⟩
    have new:s2.heap.get? (s2.heap.objs.size+1)=none:=Heap.get?_none_of_le (Nat.le_succ _)
    refine hx pins σ _ _ _ (.ref C) d (Inv.del I4 e4) ⟨⟨new_of I2 hex new,qd0,fun p hp y=>?_,⟨_,_,g1,g4⟩⟩,.inl ⟨_,_,g1,g2,g3,g4,g5⟩⟩ q4
    have w:=(I2.pin p hp).1
    rw [y,new] at w
    cases w
   |next=>exact False.elim hq'
   |brk=>exact False.elim hq'
   |cont=>exact False.elim hq'
end
section
variable {X : Cx}
inductive PJ (X:Cx):List Expr→List TE→Prop
 |nil:PJ X [] []
 |cons {e:Expr} {es:List Expr} {t:TE} {ts:List TE} (h:PE X e t) (r:PJ X es ts):PJ X (e :: es) (t :: ts)
end
section
variable {σ : L2.St} {H : Hp} {Q : VK} {te t : TE} {r : List TE} {z out : Str}
end
section
variable {prog : Program} {w : World} {A : Around} {E : Value → Shared → Prop} {h : Heap} {g : Array GenState} {d : Drawn} {t : Nat} {os : OsState}
variable {nm q : Str} {C N : Addr} {bs bm bmB : List Value} {hdct : Bool} {sn : List Str} {sub : List Value} {ab : Bool} {col : Option Bool} {dd : Option Addr} {k0 k1 k2 k3 k5 : Option Value} {B newId nid initId : String}
end
structure XBase (K:Frag) (T:Addr):Prop where
 ga:specialIn K (.ref T) "__getattribute__" =some (some (.builtin "type.__getattribute__"))
 rd:PySem.W.readsIn K T (.type "type")=true
 at_:PySem.W.findCls K (.ref T) (.type "type") "__init__" =some (.val (.builtin "ValueError.__init__"))
section
variable {X : Cx} {C T f : Addr} {x : Str} {p apos cpos : Pos} {e : Expr} {es : List Expr} {t : TA}
end
section
variable {X : Cx} {o e value : Expr} {f : Str} {pos pos' : Pos} {ta tv : TE}
end
section
variable {K : Frag} {σ : L2.St} {H : Hp} {Q : VK} {D : Ends} {ta tv : TE} {f : Str} {a C dx c : Addr} {d : Option Addr} {fs : List (Str × V)} {v y : V} {b : Bool}
end
open PySem.MeetsSeq PySem.MeetsSeq2 PySem.MeetsSeq3 PySem.SeqRoads2
abbrev lo (dd:Option Addr) (xs:Array Value) (n:Nat) (sl:Array (Option Value)):Obj:={cls:=.type "list",dict:=dd,data:=.seq xs n,slots:=sl}
section
variable {P : Program} {w : World} {A : Around} {s : Shared} {l b : Addr} {k : Bool}
end
end My
namespace My
open PySem PySem.Spec PyProof.Rows L2
inductive DEq (K:Frag) (H:Hp):Nat→V→V→Bool→Prop
 |same {n:Nat} {a:Addr}:DEq K H n (.ref a) (.ref a) true
 |qf1 {n:Nat} {x y:V} (hx:qdh x=true) (hy:qdh y=true):DEq K H n x y (eqV x y)
 |ls {n:Nat} {a b:Addr} {xs ys:List V} {e:Nat→Bool} (ha:SqL K H a xs) (hb:SqL K H b ys) (ne:a≠b) (hl:xs.length=ys.length)
   (he:∀j (h1:j < xs.length) (h2:j < ys.length),DEq K H n xs[j] ys[j] (e j)):DEq K H (n+1) (.ref a) (.ref b) ((List.range xs.length).all e)
 |lsN {n:Nat} {a b:Addr} {xs ys:List V} (ha:SqL K H a xs) (hb:SqL K H b ys) (ne:a≠b) (hl:xs.length≠ys.length):DEq K H (n+1) (.ref a) (.ref b) false
 |ts {n:Nat} {a b:Addr} {xs ys:List V} {e:Nat→Bool} (ha:SqT K H a xs) (hb:SqT K H b ys) (ne:a≠b)
   (he:∀j (h1:j < xs.length) (h2:j < ys.length),DEq K H n xs[j] ys[j] (e j)):DEq K H (n+1) (.ref a) (.ref b) ((List.range (min xs.length ys.length)).all e && xs.length==ys.length)
 |dd {n:Nat} {a b:Addr} {ka kb:List (Key × V)} (ha:Rd H a (.dK ka)) (hb:Rd H b (.dK kb)) (ne:a≠b) (fa:∀p∈ka,qdh p.2=true) (fb:∀p∈kb,qdh p.2=true):
   DEq K H (n+1) (.ref a) (.ref b) (ka.length==kb.length && ka.all fun p=>(qc7 kb p.1).elim false (eqV p.2))
theorem valV_mem {kvs:List (Key × V)} {k:Key} {v:V} (h:qc7 kvs k=some v):(k,v)∈kvs:=by
 unfold qc7 at h
 obtain⟨p,hp,rfl⟩:=Option.map_eq_some_iff.mp h
 have e:=List.find?_some hp
 have e':p.1=k:=of_decide_eq_true e
 subst e'
 exact List.mem_of_find?_eq_some hp
section
variable {X : Cx} {pins : List (Addr × Obj)} {σ : L2.St} {H : Hp} {s : Shared}
theorem PlainL.isList {h:Heap} {a:Addr} {its:Array Value} (p:PlainL h a its):h.IsList a its:=by
 obtain⟨o,n,e,c,d,t⟩:=p
 exact⟨o,e,c,n,t⟩
end
section
variable {X : Cx}
def rListOf (K:Frag):List V→Hp→VK→Prop:=fun xs H Q=>∃p ys,xs=[.ref p]∧(SqL K H p ys∨SqT K H p ys)∧∀l,H l=none→Q (.ref l) (upd H l (.lst ys))
theorem qf7:qby X (.type "list") (rListOf X.K):=call_list_of
end
section
variable {K : Frag} {σ : L2.St} {H : Hp} {Q : VK} {p l b : Addr} {ys xs zs : List V} {to : TE} {t : TA} {T : String} {r : V → List V → Hp → VK → Prop} {x v : V}
theorem r_listL (h:SqL K H p ys) (q:∀l,H l=none→Q (.ref l) (upd H l (.lst ys))):rListOf K [.ref p] H Q:=⟨p,ys,rfl,.inl h,q⟩
theorem r_bm (h:to σ H fun x H1=>tyV K T x H1∧t σ H1 fun xs H2=>r x xs H2 Q):tBM K T r to t σ H Q:=h
theorem r_tyL {P:Prop} (h:SqL K H p ys) (q:P):tyV K "list" (.ref p) H∧P:=⟨.inl ⟨rfl,_,h⟩,q⟩
theorem r_append (h:H l=some (.lst xs)) (hz:xs.length < sizeLine) (q:Q .non (upd H l (.lst (xs++ [v])))):rAppend (.ref l) [v] H Q:=⟨l,xs,v,rfl,rfl,h,hz,q⟩
end
def initIn (K:Frag) (C f:Addr):Bool:=match K.lookup C with
 |some ⟨.type "type",_,.cls cd,sl⟩=>(match cd.mro,sl.toList with
  | .ref C' :: bm, [_,_,_,_,some (.builtin n),_]=>C'==C && n== "ValueError.__new__" && !cd.hasDel && PySem.W.tailIn K [.type "ValueError",.type "Exception",.type "BaseException",.type "object"] bm && PySem.W.nsOkIn K cd.ns && nsIn K cd.ns "__init__" ==some (some (.ref f))
  |_,_=>false)
 |_=>false
theorem xcli_of {K:Frag} {C f:Addr} (q:initIn K C f=true) (hf:isFn K (.ref f)=true):XClI K C f:=by
 refine⟨?_,hf⟩
 unfold initIn at q
 split at q
 ·rename_i dd cd sl ho
  split at q
  ·rename_i C' bm k0 k1 k2 k3 n k5 hm hs
   simp only [Bool.and_eq_true,beq_iff_eq,Bool.not_eq_true'] at q
   obtain⟨⟨⟨⟨⟨rfl,rfl⟩,hdel⟩,ht⟩,hok⟩,hni⟩:=q
   obtain⟨nm,bs,mro,ns,qn,hd,sn,sub,ab,col,del⟩:=cd
   dsimp only at hm hdel hok hni
   subst hm hdel
   have hsl:sl= #[k0,k1,k2,k3,some (.builtin "ValueError.__new__"),k5]:=by
    obtain⟨l⟩:=sl
    simp only at hs
    rw [hs]
   subst hsl
   unfold PySem.W.nsOkIn at hok
   split at hok
   ·rename_i c1 d1 es ep sl1 hN
    have hSK:StrKeys es:=fun e he=>by
     have z:=Array.all_eq_true_iff_forall_mem.mp hok e he
     split at z
     ·rename_i n t q;exact⟨n,t,q⟩
     ·cases z
    have hNs:∀h:Heap,K.In h→h.Ns ns (fun x=>nsFind es x):=fun h X=>⟨_,es,ep,X _ _ hN,rfl,hSK,fun _=>rfl⟩
    refine⟨nm,qn,ns,bs,bm,hd,sn,sub,ab,col,dd,k0,k1,k2,k3,k5,fun x=>nsFind es x,ho,hNs,?_,fun h X=>PySem.W.tail_of_in X ht⟩
    unfold nsIn at hni
    rw [hN] at hni
    dsimp only at hni
    split at hni
    ·rename_i hf
     show nsFind es "__init__" =some (.ref f)
     unfold nsFind findBy
     rw [←Array.find?_toList,hf]
     exact congrArg some (Option.some.inj (Option.some.inj hni))
    ·first|(split at hni <;> cases hni) |simp at hni
   ·cases hok
  ·cases q
 ·cases q
structure RoomH (k:Nat) (A:Around):Prop where
 dp:A.depth+3*k+5 < recursionLimit
 un:A.units+16*k+200 < cLine
structure FnOkH (P:Program) (w:World) (K:Frag) (mg:Str→Option Value) (base:Heap) (k:Nat) (f:Addr) (fd:FuncData) (ps:List Str) (sp:Sp):Prop where
 len:∀vs H Q E,sp vs H Q E→vs.length=ps.length
 run:∀(a:Addr) (A:Around) (outer:List Env) (s:Shared) (H:Hp) (args:Args) (us:List Value) (vs:List V) (Q:VK) (E:XK),RoomH k A→A.handled=some (.ref a)→Env0 P w K mg base A outer s H→BindsTo s fd args (ps.zip us)→qb9 vs us→sp vs H Q E→
  codeAny (model P w) A (.call (.ref f) args) (CR CX0 outer P w H s Q E) s
section
variable {X : Cx} {k : Nat} {f a : Addr} {fd : FuncData} {ps : List Str} {sp : Sp} {x : Str} {p pos : Pos} {e : Expr} {es : List Expr} {t : TA}
end
section
variable {X : Cx}
end
section
variable {K : Frag} {H : Hp} {Q : VK} {a b : Addr} {n : Nat} {k : Bool}
end
section
variable {K : Frag} {σ : L2.St} {H : Hp} {Q : VK} {D : Ends} {ta tv : TE} {t : TA} {f : Str} {C : Addr}
end
section
variable {K : Frag} {cs : List Addr} {i j : Nat} {c e : Addr}
end
def SameBut (L:Addr) (H H':Hp):Prop:=∀b o,b≠L→H b=some o→H' b=some o
theorem SameBut.at {H H':Hp} {L:Addr} {o:HO} (e:SameBut L H H'):SameBut L H (upd H' L o):=fun b u hb q=>by
 rw [qa6 hb];exact e b u hb q
theorem SameBut.of {H H':Hp} {L:Addr} (s:qaq H H'):SameBut L H H':=fun b u _ q=>s b u q
section
variable {K : Frag} {H : Hp} {Q : VK} {a C c : Addr} {d : Option Addr} {b : Bool}
end
def NoFrz (H:Hp) (a:Addr):Prop:=∀o u,H a≠some (.frz o u)
section
variable {X : Cx} {pins : List (Addr × Obj)} {σ : L2.St} {H H' : Hp} {s : Shared} {a : Addr} {kvs : List (Key × V)} {o : Obj}
theorem Inv.freeze (I:Inv X pins σ H s) (e:H a=some (.dK kvs)) (ho:s.heap.get? a=some o):Inv X pins σ (upd H a (.frz o (.dK kvs))) s:=by
 have ok:=I.hok a _ e
 have z:=I.write (x:=a) (e:=a) (o:=.frz o (.dK kvs)) (h':=s.heap) (t':=s.toks) (by rw [e];exact True.intro) (.inl rfl) (fun _ _ _ q=>q) ⟨o,ho⟩ ⟨ho,ok⟩
 exact z
theorem Inv.thaw (I:Inv X pins σ H s) (e:H a=some (.frz o (.dK kvs))) (n0:NoFrz X.H₀ a):Inv X pins σ (upd H a (.dK kvs)) s:=by
 have ne:∀b,H b=none→b≠a:=fun b q z=>by subst z;rw [e] at q;cases q
 have nk:∀b u,H b=some u→(∀o' u',u≠ .frz o' u')→b≠a:=fun b u q z w=>by subst w;rw [e] at q;cases q;exact z _ _ rfl
 refine⟨I.ok,I.os,I.bare,⟨I.base.keep,I.base.slot,fun b ob q n hx=>?_,I.base.there,fun b xs q=>?_,fun b ob u q=>?_,fun b ps q=>?_⟩,I.loc,I.cell,?_,fun x c q=>?_,fun p hp=>?_,fun b u q=>?_,I.len⟩
 ·have z:=I.base.free b ob q n hx
  rw [qa6 (ne b z)];exact z
 ·have z:=I.base.tups b xs q
  rw [qa6 (nk b _ z (by intro _ _ h;cases h))];exact z
 ·have z:=I.base.frzs b ob u q
  rw [qa6 (fun w=>by subst w;exact n0 _ _ q)];exact z
 ·obtain⟨m,z⟩:=I.base.tbls b ps q
  exact⟨m,by rw [qa6 (nk b _ z (by intro _ _ h;cases h))];exact z⟩
 ·have z:=I.free
  rw [qa6 (ne _ z)];exact z
 ·have z:=I.freeC x c q
  rw [qa6 (ne _ z)];exact z
 ·obtain⟨p1,p2,p3⟩:=I.pin p hp
  exact⟨p1,by rw [qa6 (ne _ p2)];exact p2,p3⟩
 ·by_cases hb:b=a
  ·subst hb
   rw [qa3] at q
   cases q
   exact(I.hok b _ e).2
  ·rw [qa6 hb] at q
   exact(I.hok b u q).stay (fun _ _ _ r=>r) (fun c r=>by rw [qa6 (nk c _ r (by intro _ _ h;cases h))];exact r) fun c xs r=>by rw [qa6 (nk c _ r (by intro _ _ h;cases h))];exact r
def Thaw (H0 H H':Hp):Prop:=H'=H∨∃a o kvs,H a=some (.frz o (.dK kvs))∧NoFrz H0 a∧H'=upd H a (.dK kvs)
theorem Inv.thawed (I:Inv X pins σ H s) (t:Thaw X.H₀ H H'):Inv X pins σ H' s:=by
 rcases t with rfl|⟨a,o,kvs,e,n,rfl⟩
 ·exact I
 ·exact Inv.thaw I e n
end
section
variable {X : Cx} {st : Stmt} {e : Expr} {t : TS} {te : TE}
def thE (H0:Hp) (D:Ends):Ends:={nx:=fun σ H=>∃H',Thaw H0 H H'∧D.nx σ H',rt:=fun v H=>∃H',Thaw H0 H H'∧D.rt v H',bk:=fun σ H=>∃H',Thaw H0 H H'∧D.bk σ H',ct:=fun σ H=>∃H',Thaw H0 H H'∧D.ct σ H'}
def tThA (H0:Hp) (t:TS):TS:=fun D σ H=>t (thE H0 D) σ H
theorem ps_thA (h:PS X st t):PS X st (tThA X.H₀ t):=fun pins s σ H D I q=>thn (h pins s σ H _ I q) fun f s' hs=>by
 cases f with
 |next=>obtain⟨σ',H1,J,H2,th,q⟩:=hs;exact⟨σ',H2,Inv.thawed J th,q⟩
 |brk=>obtain⟨σ',H1,J,H2,th,q⟩:=hs;exact⟨σ',H2,Inv.thawed J th,q⟩
 |cont=>obtain⟨σ',H1,J,H2,th,q⟩:=hs;exact⟨σ',H2,Inv.thawed J th,q⟩
 |ret u=>obtain⟨v,σ',H1,J,r,H2,th,q⟩:=hs;exact⟨v,σ',H2,Inv.thawed J th,r,q⟩
def tThV (H0:Hp) (t:TE):TE:=fun σ H Q=>t σ H fun v H1=>∃H',Thaw H0 H1 H'∧Q v H'
theorem pe_thV (h:PE X e te):PE X e (tThV X.H₀ te):=fun pins s σ H Q I q=>thn (h pins s σ H _ I q) fun u s' ⟨v,H1,J,r,H2,th,q⟩=>⟨v,H2,Inv.thawed J th,r,q⟩
end
theorem kvget {κ:Type} {kvs:List (κ × V)} {vs:List (κ × Value)} (r:KV kvs vs):∀{i:Nat} {k:κ} {v:V},kvs[i]?=some (k,v)→∃u,vs[i]?=some (k,u)∧qb1 v u:=by
 induction r with
 |nil=>intro i k v e;simp at e
 |cons h t ih=>
  intro i k v e
  cases i with
  |zero=>
   simp only [List.getElem?_cons_zero,Option.some.injEq] at e ⊢
   subst e
   obtain⟨h1,h2⟩:=h
   exact⟨_,Prod.ext h1.symm rfl,h2⟩
  |succ i=>
   simp only [List.getElem?_cons_succ] at e ⊢
   exact ih e
theorem kV_rel {k:Key} {u:Value} (h:qfl k u=true):qb1 (kV k) u:=by
 rcases qaw h with ⟨i,t,rfl,rfl⟩ |⟨x,t,rfl,rfl⟩
 ·exact⟨t,rfl⟩
 ·exact⟨t,rfl⟩
def ItD (d:Addr) (o:Obj) (kvs:List (Key × V)):It:=
 ⟨fun i H=>H d=some (.frz o (.dK kvs))∧i < kvs.length,fun i H x H'=>H'=H∧∃k v,kvs[i]?=some (k,v)∧x=kV k,fun i H=>H d=some (.frz o (.dK kvs))∧kvs.length≤i⟩
theorem frz_at {P:Program} {w:World} {H:Hp} {h:Heap} {d:Addr} {o:Obj} {kvs:List (Key × V)} {es:Array DictEntry} {ep:Nat} (ok:HOk P w H h) (e:H d=some (.frz o (.dK kvs))) (hd:o.data=.dict es ep):
  ∃vs,KV kvs vs∧h.DictAt (qay P w) d vs ep:=by
 obtain⟨ho,_,_,vs,rel,o',es',ep',ho',ex,hd',ks,ps,nd⟩:=ok d _ e
 rw [ho] at ho'
 cases ho'
 rw [hd] at hd'
 cases hd'
 exact⟨vs,rel,o,es,ho,ex,hd,ks,ps,nd⟩
theorem turn_dict {P:Program} {w:World} {K:Frag} {tg:Expr} {o:Obj} {kvs:List (Key × V)} {es:Array DictEntry} {ep:Nat} (d it:Addr) (hd:o.data=.dict es ep):Turn P w K tg (ItD d o kvs) [it] it (fun i h=>h.IsKeyIter it d i kvs.length ep) where
 mem:=by simp
 obj:=fun i h st b hb=>by
  have e:b=it:=by simpa using hb
  subst e
  obtain⟨ob,e,c,dd⟩:=st
  exact⟨ob,e,fun v z=>by rw [dd] at z;cases z⟩
 keep:=fun i h h' st k=>st.at fun ob e=>k it (by simp) ob e
 item:=by
  intro X hP hw hK hc i pins s σ H E I hf st hg
  subst hP hw hK
  obtain⟨hfz,hi⟩:=hg
  obtain⟨vs,rel,dat⟩:=frz_at I.hok hfz hd
  obtain⟨f0,f1,f2,f3,f4,f5⟩:=hf it (by simp)
  have hl:=rel.length
  obtain⟨u,hu,ru⟩:=kvget rel (i:=i) (k:=kvs[i].1) (v:=kvs[i].2) (by rw [zA hi])
  rw [hl] at st
  refine wpAny_pyNext_dict_item st dat hu fun key h' hkey st' hs'=>?_
  have I1:Inv X pins σ H {s with heap:=h'}:=I.turned (t':=s.toks) (fun b ob hb e=>hs'.extBut b ob hb e) f0 f1 f3 f4 f5
  obtain⟨ob,e,c,dd⟩:=id st'
  exact⟨key,rfl,go_of (s:={s with heap:=h'}) e c dd (by decide) ⟨kV kvs[i].1,H,I1,kV_rel hkey,⟨rfl,kvs[i].1,kvs[i].2,zA hi,rfl⟩,by rw [hl];exact st',fun b hb=>(hf b hb).1⟩⟩
 done:=by
  intro X hP hw hK hc i pins s σ H E I hf st hg
  subst hP hw hK
  obtain⟨hfz,hi⟩:=hg
  obtain⟨vs,rel,dat⟩:=frz_at I.hok hfz hd
  obtain⟨f0,f1,f2,f3,f4,f5⟩:=hf it (by simp)
  have hl:=rel.length
  rw [hl] at st hi
  exact wpAny_pyNext_dict_end (I.ok.hd hc) st dat (by simpa using hi) fun h' eb=>⟨rfl,I.turned (t':=s.toks) (fun b ob hb e=>eb b ob hb e) f0 f1 f3 f4 f5⟩
 self:=fun _ _ _ _ _ st h=>wpAny_pyIter_keyiter st h
def rItD (x:V) (H:Hp) (R:It→Hp→Prop):Prop:=∃a kvs,x=.ref a∧((H a=some (.dK kvs)∧∀o,R (ItD a o kvs) (upd H a (.frz o (.dK kvs))))∨∃o,H a=some (.frz o (.dK kvs))∧R (ItD a o kvs) H)
def iDict (td:TE):TI:=fun σ H R=>td σ H fun x H1=>rItD x H1 R
theorem dat_of {P:Program} {w:World} {H:Hp} {h:Heap} {d:Addr} {kvs:List (Key × V)} (ok:qbd P w H h d (.dK kvs)):∃o es ep vs,h.get? d=some o∧o.data=.dict es ep∧KV kvs vs∧h.DictAt (qay P w) d vs ep∧(d==sysModules)=false:=by
 obtain⟨_,hs,vs,rel,o,es,ep,ho,ex,hd,ks,ps,nd⟩:=ok
 exact⟨o,es,ep,vs,ho,hd,rel,⟨o,es,ho,ex,hd,ks,ps,nd⟩,hs⟩
theorem qe9 {X:Cx} {tg l:Expr} {tl:TE} (hl:PE X l tl):PI X tg l (iDict tl):=by
 intro pins s σ H R I h
 refine thn (hl pins s σ H _ I h) fun v s1 ⟨x,H1,I1,r1,q1⟩=>?_
 obtain⟨a,kvs,e,q⟩:=q1
 subst e
 cases r1
 have ok:qbd X.prog X.w H1 s1.heap a (.dK kvs):=by
  rcases q with ⟨e,_⟩ |⟨o,e,_⟩
  ·exact I1.hok a _ e
  ·exact(I1.hok a _ e).2
 obtain⟨o,es,ep,vs,ho,hd,rel,dat,hs⟩:=dat_of ok
 have hlen:=rel.length
 refine wpAny_pyIter_dict hs dat ?_
 have it0:(s1.heap.push {cls:=.type "dict_keyiterator",data:=.fields #[.ref a,.int 0 0,.int vs.length 0,.int ep 0]}).IsKeyIter s1.heap.objs.size a 0 kvs.length ep:=by
  rw [hlen];exact⟨_,Heap.get?_push_size _ rfl,rfl,rfl⟩
 rcases q with ⟨e,q⟩ |⟨o',e,q⟩
 ·have I2:=Inv.freeze I1 e ho
  refine⟨s1.heap.objs.size, [s1.heap.objs.size],_,_,_,rfl,I2.kept (t':=s1.toks) fun b ob e=>Heap.get?_push_of_some _ e,turn_dict (kvs:=kvs) a _ hd,it0,fun b hb=>?_,q o⟩
  have e:b=s1.heap.objs.size:=by simpa using hb
  subst e
  exact I2.fpOk (Nat.le_refl _) (I2.hok.fresh (Nat.le_refl _))
 ·have eo:o'=o:=by
   have z:=(I1.hok a _ e).1
   rw [ho] at z
   cases z
   rfl
  subst eo
  refine⟨s1.heap.objs.size, [s1.heap.objs.size],_,_,_,rfl,I1.kept (t':=s1.toks) fun b ob e=>Heap.get?_push_of_some _ e,turn_dict (kvs:=kvs) a _ hd,it0,fun b hb=>?_,q⟩
  have e:b=s1.heap.objs.size:=by simpa using hb
  subst e
  exact I1.fpOk (Nat.le_refl _) (I1.hok.fresh (Nat.le_refl _))
section
variable {σ : L2.St} {H H' : Hp} {D : Ends} {t : TS} {te tl : TE} {Q : VK} {g : TG} {tb : TS} {a : Addr} {o : Obj} {kvs : List (Key × V)} {H0 : Hp} {v : V}
theorem r_thA (h:t (thE H0 D) σ H):tThA H0 t D σ H:=h
theorem r_thNx (th:Thaw H0 H H') (h:D.nx σ H'):(thE H0 D).nx σ H:=⟨H',th,h⟩
theorem r_thV (h:te σ H fun v H1=>∃H',Thaw H0 H1 H'∧Q v H'):tThV H0 te σ H Q:=h
theorem thaw1 (e:H a=some (.frz o (.dK kvs))) (n:NoFrz H0 a):Thaw H0 H (upd H a (.dK kvs)):=.inr ⟨a,o,kvs,e,n,rfl⟩
theorem r_iD {R:It→Hp→Prop} (h:tl σ H fun x H1=>rItD x H1 R):iDict tl σ H R:=h
theorem r_itD {R:It→Hp→Prop} (e:H a=some (.dK kvs)) (h:∀o,R (ItD a o kvs) (upd H a (.frz o (.dK kvs)))):rItD (.ref a) H R:=⟨a,kvs,rfl,.inl ⟨e,h⟩⟩
theorem f_dict (Pv:Nat→L2.St→Hp→Prop) (h0:Pv 0 σ H) (hl:∀i σ H,i≤kvs.length→Pv i σ H→H a=some (.frz o (.dK kvs)))
  (hs:∀i k v σ H,kvs[i]?=some (k,v)→Pv i σ H→g (kV k) σ H fun σ2 H2=>tb {nx:=Pv (i+1),rt:=D.rt,bk:=D.nx,ct:=Pv (i+1)} σ2 H2) (hd:∀σ H,Pv kvs.length σ H→D.nx σ H):FOR (ItD a o kvs) g tb D σ H:=by
 refine⟨fun i m σ H=>m=kvs.length - i∧i≤kvs.length∧Pv i σ H,⟨kvs.length,rfl,Nat.zero_le _,h0⟩,?_⟩
 rintro i m σ H ⟨rfl,hi,p⟩
 have q:=hl i σ H hi p
 by_cases hlt:i < kvs.length
 ·refine .inr ⟨⟨q,hlt⟩,Pv (i+1),fun σ' H' p'=>⟨kvs.length - (i+1),by omega,rfl,hlt,p'⟩,fun x H' y=>?_⟩
  obtain⟨e,k,v,hk,rfl⟩:=y
  subst e
  exact hs i k v σ _ hk p
 ·have e:i=kvs.length:=Nat.le_antisymm hi (Nat.le_of_not_lt hlt)
  subst e
  exact .inl ⟨⟨q,Nat.le_refl _⟩,hd σ H p⟩
end
theorem objOk_get {P:Program} {w:World} {H:Hp} {h:Heap} {a:Addr} {o:HO} (x:qbd P w H h a o):∃u,h.get? a=some u:=by
 induction o with
 |lst xs=>obtain⟨_,_,_,_,e⟩:=x;exact⟨_,e⟩
 |tup xs=>obtain⟨_,_,_,ob,e,_⟩:=x;exact⟨_,e⟩
 |dK kvs=>obtain⟨_,_,_,_,o,_,_,e,_⟩:=x;exact⟨_,e⟩
 |dT kvs=>obtain⟨_,_,_,_,o,_,_,e,_⟩:=x;exact⟨_,e⟩
 |set S n=>obtain⟨o,_,_,_,e,_⟩:=x;exact⟨_,e⟩
 |ins C dx fs=>obtain⟨_,_,_,e,_⟩:=x;exact⟨_,e⟩
 |own y=>exact x
 |xd fs=>obtain⟨_,⟨_,_,_,e,_⟩,_⟩:=x;exact⟨_,e⟩
 |rng lo hi=>obtain⟨_,_,_,e⟩:=x;exact⟨_,e⟩
 |frz ob u ih=>exact⟨_,x.1⟩
 |tbl ps=>exact⟨_,x⟩
 |met f y=>exact⟨_,x⟩
 |ext φ=>exact x.2.1
theorem Inv.laidN {X:Cx} {pins:List (Addr × Obj)} {σ:L2.St} {H:Hp} {s:Shared} {h':Heap} {a:Addr} {o:HO} {t':Nat} (I:Inv X pins σ H s) (k:∀b u,s.heap.get? b=some u→h'.get? b=some u) (hg:s.heap.get? a=none) (new:qbd X.prog X.w (upd H a o) h' a o):
  H a=none∧Inv X pins σ (upd H a o) {s with heap:=h',toks:=t'}:=by
 have hn:H a=none:=by
  cases q:H a with
  |none=>rfl
  |some u=>obtain⟨v,e⟩:=objOk_get (I.hok a u q);rw [hg] at e;cases e
 refine⟨hn,I.un ⟨fun b u q _ _ _=>k b u q,fun b u q _ _ _=>⟨u.slots,k b u q⟩,fun b u q n _=>by rw [qa6 (fun z=>by subst z;rw [hg] at q;cases q)];exact n,fun b u q _=>⟨u,k b u q⟩,fun b xs q=>by rw [qa6 (qa5 q hn)];exact q,
  fun b u xs q=>by rw [qa6 (qa5 q hn)];exact q,fun b ps q=>⟨#[],by rw [qa6 (qa5 q hn),q];simp⟩⟩ fun b u e=>?_⟩
 by_cases hb:b=a
 ·subst hb;rw [qa3] at e;cases e;exact new
 ·rw [qa6 hb] at e
  exact(I.hok b u e).stay (fun c v _ q=>k c v q) (fun c q=>by rw [qa6 (qa5 q hn)];exact q) fun c xs q=>by rw [qa6 (qa5 q hn)];exact q
section
variable {X : Cx}
def rDictCp:List V→Hp→VK→Prop:=fun xs H Q=>∃p kvs,xs=[.ref p]∧Rd H p (.dK kvs)∧∀q,H q=none→Q (.ref q) (upd H q (.dK kvs))
theorem qd1:qby X (.type "dict") rDictCp:=by
 intro pins s σ H xs us Q I hv h
 obtain⟨p,kvs,rfl,e,q⟩:=h
 obtain⟨u,rfl,ru⟩:=hv.one
 cases ru
 exact d_copyOf I e fun l s' hl I'=>⟨.ref l,_,I',rfl,q l hl⟩
theorem strs_of:∀{ss:List Str} {us:List Value},qb9 (ss.map V.str) us→StrsAre us ss
 | [],_,r=>by cases r;exact .nil
 |x :: ss,_,r=>by
  cases r with
  |cons h t=>obtain⟨k,rfl⟩:=h;exact .cons x k (strs_of t)
theorem qe0:∀{us:List Value} {ss:List Str},StrsAre us ss→qb9 (ss.map V.str) us
 |_,_,.nil=> .nil
 |_,_,.cons x t h=> .cons ⟨t,rfl⟩ (qe0 h)
def rSortL (K:Frag):List V→Hp→VK→Prop:=fun xs H Q=>∃p ss,xs=[.ref p]∧SqL K H p (ss.map V.str)∧ss.length < 64∧∀l ss',H l=none→ss'.Perm ss→sortedS ss'=true→Q (.ref l) (upd H l (.lst (ss'.map V.str)))
theorem qf5:qby X (.builtin "sorted") (rSortL X.K):=by
 intro pins s σ H xs us Q I hv h
 obtain⟨p,ss,rfl,hS,hz,q⟩:=h
 obtain⟨u,rfl,ru⟩:=hv.one
 cases ru
 obtain⟨its,rv,pl,hz'⟩:=I.list hS
 have hlen:=rv.length
 rw [zB] at hlen
 refine sorted_strs (vs:=its) (PlainL.isList pl) (strs_of rv) (by omega) fun out ss' a1 a2 a3=>?_
 obtain⟨e,he⟩:=sortedAll_at s.heap its out
 have hl2:=a2.length_eq
 have I2:=I.laid (a:=s.heap.objs.size+1) (o:=.lst (ss'.map V.str)) (t':=s.toks) (fun b ob hb=>sortedAll_old hb) (Nat.le_succ _) ⟨by rw [zB,sizeLine_eq];omega,out.toList,e,qe0 a1,by simpa [seqObj] using he⟩
 exact⟨.ref _,_,I2,rfl,q _ ss' (I.hok.fresh (Nat.le_succ _)) a2 a3⟩
def rSortD:List V→Hp→VK→Prop:=fun xs H Q=>∃p kvs ss,xs=[.ref p]∧Rd H p (.dK kvs)∧kvs.map (·.1)=ss.map Sum.inr∧ss.length < 64∧∀l ss',H l=none→ss'.Perm ss→sortedS ss'=true→Q (.ref l) (upd H l (.lst (ss'.map V.str)))
theorem strs_keys {ss:List Str} {us:List Value} (hl:us.length=ss.length) (h:∀(j:Nat) (u:Value),us[j]?=some u→∃x,ss[j]?=some x∧qfl (.inr x) u=true):StrsAre us ss:=by
 induction us generalizing ss with
 |nil=>cases ss with
  |nil=>exact .nil
  |cons _ _=>simp at hl
 |cons u us ih=>cases ss with
  |nil=>simp at hl
  |cons x ss=>
   obtain⟨y,hy,hk⟩:=h 0 u rfl
   simp only [List.getElem?_cons_zero,Option.some.injEq] at hy
   subst hy
   rcases qaw hk with ⟨i,t,e,_⟩ |⟨z,t,e,rfl⟩
   ·cases e
   ·cases e
    exact .cons x t (ih (by simpa using hl) fun j v hv=>by have:=h (j+1) v (by simpa using hv);simpa using this)
theorem qf6 (hc:X.calm=true):qby X (.builtin "sorted") rSortD:=by
 intro pins s σ H xs us Q I hv h
 obtain⟨p,kvs,ss,rfl,hR,hk,hz,q⟩:=h
 obtain⟨u,rfl,ru⟩:=hv.one
 cases ru
 obtain⟨o,es,ep,vs,ho,hd,rel,dat,hs⟩:=dat_of (hR.ok I.hok)
 have hlen:=rel.length
 have hks:=rel.keys
 have hl2:kvs.length=ss.length:=by have:=congrArg List.length hk;simpa using this
 refine Calls.call_function_entry kind_sorted plain_sorted entry_sorted (args_sorted1 _) ?_
 unfold Builtin.«sorted»
 refine wpAny_bind (m:=checkCount "sorted" 1 1 _) (wpAny_pure ?_)
 refine wpAny_bind (PySem.W.kdu_collect (A:=X.A.in1) (PySem.W.kdl_dict (knd:=qay X.prog X.w) (kvs:=vs) (ep:=ep) hs) (I.ok.hd hc) dat (by rw [sizeLine_eq];omega) fun h' tk acc hkeep hacc=>?_)
 have hal:acc.toList.length=vs.length:=by rw [Array.length_toList];exact hacc.1
 refine wpAny_bind (wpAny_newList ?_ (by rw [hal,sizeLine_eq];omega))
 have hS:StrsAre acc.toList ss:=by
  refine strs_keys (by omega) fun j v hv=>?_
  obtain⟨k,x,hx,hkv⟩:=hacc.2 j v (by rw [←Array.getElem?_toList];exact hv)
  have e1:(vs.map (·.1))[j]?=some k:=by rw [zC,hx];rfl
  rw [←hks,hk,zC] at e1
  obtain⟨z,hz1,rfl⟩:=Option.map_eq_some_iff.mp e1
  exact⟨z,hz1,hkv⟩
 have hoL:(h'.push {cls:=.type "list",data:=.seq acc.toList.toArray}).get? h'.objs.size=some (seqObj "list" acc.toList.toArray 0):=Heap.get?_push_size _ rfl
 refine wpAny_bind (wpAny_holding (wpAny_call_entry slot_list_sort ⟨_,hoL,rfl⟩ entry_list_sort (list_sort_treeK strKind_oneLt hoL hS.keysOf (fun v₁ v₂ rest e=>keyKind_strs (by rw [←e];exact hS)) (by omega) fun st' a1 a2=>⟨_,rfl,?_⟩) (args_list_sort _)))
 obtain⟨ss',b1,b2,b3⟩:=sorted_out_str hS a1 a2
 obtain⟨e,he⟩:=sortedHeap_at (out:=(arrOf st').map (·.2)) hoL
 have hl3:=b2.length_eq
 have hg:s.heap.get? h'.objs.size=none:=by
  cases q:s.heap.get? h'.objs.size with
  |none=>rfl
  |some ob=>exact absurd (Heap.lt_size (hkeep _ _ q)) (Nat.lt_irrefl _)
 obtain⟨hn,I2⟩:=Inv.laidN I (h':=sortedHeap (h'.push {cls:=.type "list",data:=.seq acc.toList.toArray}) h'.objs.size acc.toList ((arrOf st').map (·.2))) (a:=h'.objs.size) (o:=.lst (ss'.map V.str)) (t':=tk) (fun b ob hb=>by
  have hb':=hkeep b ob hb
  rw [sortedHeap_old (Nat.ne_of_lt (Heap.lt_size hb')) (by rw [size_push'];exact Nat.lt_succ_of_lt (Heap.lt_size hb'))]
  exact Heap.get?_push_of_some _ hb') hg ⟨by rw [zB,sizeLine_eq];omega,((arrOf st').map (·.2)).toList,e,qe0 b1,by rw [Array.toArray_toList];exact he⟩
 exact wpAny_pure ⟨_,rfl,.ref _,_,I2,rfl,q _ ss' hn b2 b3⟩
end
section
variable {K : Frag} {H : Hp} {Q : VK} {p : Addr} {kvs : List (Key × V)} {ss : List Str}
theorem r_dictCp (e:Rd H p (.dK kvs)) (h:∀q,H q=none→Q (.ref q) (upd H q (.dK kvs))):rDictCp [.ref p] H Q:=⟨p,kvs,rfl,e,h⟩
theorem r_sortL (e:SqL K H p (ss.map V.str)) (hz:ss.length < 64) (h:∀l ss',H l=none→ss'.Perm ss→sortedS ss'=true→Q (.ref l) (upd H l (.lst (ss'.map V.str)))):rSortL K [.ref p] H Q:=⟨p,ss,rfl,e,hz,h⟩
theorem r_sortD (e:Rd H p (.dK kvs)) (hk:kvs.map (·.1)=ss.map Sum.inr) (hz:ss.length < 64) (h:∀l ss',H l=none→ss'.Perm ss→sortedS ss'=true→Q (.ref l) (upd H l (.lst (ss'.map V.str)))):rSortD [.ref p] H Q:=⟨p,kvs,ss,rfl,e,hk,hz,h⟩
end
structure AD (kvs:List (Key × V)) (f:Str→Option Int):Prop where
 nd:(kvs.map (·.1)).Nodup
 sh:∀p∈kvs,∃z i,p=(Sum.inr z,V.int i)
 get:∀z,qc7 kvs (Sum.inr z)=(f z).map V.int
def noF:Str→Option Int:=fun _=>none
def putF' (f:Str→Option Int) (z:Str) (i:Int):Str→Option Int:=fun y=>if y=z then some i else f y
theorem AD.nil:AD [] noF:=⟨yM,fun p hp=>absurd hp (by simp),fun z=>rfl⟩
theorem AD.cast {kvs:List (Key × V)} {f g:Str→Option Int} (h:AD kvs f) (e:∀z,f z=g z):AD kvs g:=⟨h.nd,h.sh,fun z=>by rw [h.get,e]⟩
theorem putK_keys {kvs:List (Key × V)} {k:Key} {v:V} (h:qc7 kvs k≠none):(qcu kvs k v).map (·.1)=kvs.map (·.1):=by
 unfold qcu
 have e:(kvs.any fun kv=>decide (kv.1=k))=true:=by rw [qc6];cases q:qc7 kvs k with
  |none=>exact absurd q h
  |some _=>rfl
 rw [if_pos e,yN]
 apply List.map_congr_left
 intro p _
 show (if p.1=k then (p.1,v) else p).1=p.1
 split <;> rfl
theorem putK_mem {kvs:List (Key × V)} {k:Key} {v:V} {p:Key × V} (h:p∈qcu kvs k v):p=(k,v)∨p∈kvs:=by
 unfold qcu at h
 split at h
 ·obtain⟨q,hq,e⟩:=zJ.mp h
  split at e
  ·rename_i ek;subst ek;exact .inl e.symm
  ·subst e;exact .inr hq
 ·rcases zU.mp h with h|h
  ·exact .inr h
  ·exact .inl (by simpa using h)
theorem AD.put {kvs:List (Key × V)} {f:Str→Option Int} (h:AD kvs f) (z:Str) (i:Int):AD (qcu kvs (Sum.inr z) (.int i)) (putF' f z i):=by
 refine⟨?_,fun p hp=>?_,fun y=>?_⟩
 ·cases q:qc7 kvs (Sum.inr z) with
  |none=>exact nd_putK _ h.nd q
  |some v=>rw [putK_keys (by rw [q];simp)];exact h.nd
 ·rcases putK_mem hp with rfl|hp
  ·exact⟨z,i,rfl⟩
  ·exact h.sh p hp
 ·rw [valV_put]
  unfold putF'
  by_cases e:y=z
  ·subst e;rw [if_pos rfl,if_pos rfl];rfl
  ·rw [if_neg (fun q=>e (Sum.inr.inj q)),if_neg e];exact h.get y
theorem qe1 {kvs:List (Key × V)} (nd:(kvs.map (·.1)).Nodup) {k:Key} {v:V} (h:(k,v)∈kvs):qc7 kvs k=some v:=by
 induction kvs with
 |nil=>simp at h
 |cons p r ih=>
  rw [zQ,zX] at nd
  rcases zK.mp h with rfl|h
  ·exact qbk rfl
  ·have ne:¬p.1=k:=fun e=>nd.1 (e ▸ zJ.mpr ⟨(k,v),h,rfl⟩)
   rw [qbl ne]
   exact ih nd.2 h
theorem AD.mem {kvs:List (Key × V)} {f:Str→Option Int} (h:AD kvs f) {k:Key} {v:V} (hm:(k,v)∈kvs):∃z n,k=Sum.inr z∧v=.int n∧f z=some n:=by
 obtain⟨z,n,e⟩:=h.sh _ hm
 cases e
 have q:=qe1 h.nd hm
 rw [h.get] at q
 cases hf:f z with
 |none=>rw [hf] at q;cases q
 |some m=>rw [hf] at q;cases q;exact⟨z,_,rfl,rfl,hf⟩
def qdg (kvs:List (Key × V)):List Str:=kvs.filterMap fun p=>match p.1 with| .inr z=>some z| .inl _=>none
theorem AD.keys {kvs:List (Key × V)} {f:Str→Option Int} (h:AD kvs f):kvs.map (·.1)=(qdg kvs).map Sum.inr:=by
 have sh:=h.sh
 clear h
 induction kvs with
 |nil=>rfl
 |cons p r ih=>
  obtain⟨z,i,rfl⟩:=sh p (zH ..)
  show Sum.inr z :: r.map (·.1)=(z :: qdg r).map Sum.inr
  rw [zQ,ih fun q hq=>sh q (zD _ hq)]
theorem AD.klen {kvs:List (Key × V)} {f:Str→Option Int} (h:AD kvs f):(qdg kvs).length=kvs.length:=by
 have:=congrArg List.length h.keys
 simpa using this.symm
theorem AD.knd {kvs:List (Key × V)} {f:Str→Option Int} (h:AD kvs f):(qdg kvs).Nodup:=by
 have nd:=h.nd
 rw [h.keys] at nd
 exact List.Pairwise.imp (fun ne e=>ne (congrArg Sum.inr e)) (List.pairwise_map.mp nd)
theorem AD.kin {kvs:List (Key × V)} {f:Str→Option Int} (h:AD kvs f) (z:Str):z∈qdg kvs↔f z≠none:=by
 constructor
 ·intro hz
  have hm:(Sum.inr z:Key)∈kvs.map (·.1):=by rw [h.keys];exact zJ.mpr ⟨z,hz,rfl⟩
  obtain⟨⟨k,v⟩,hp,e⟩:=zJ.mp hm
  dsimp only at e
  subst e
  obtain⟨z',n,e1,_,hf⟩:=h.mem hp
  cases e1
  rw [hf];simp
 ·intro hf
  cases q:f z with
  |none=>exact absurd q hf
  |some n=>
   have hv:=h.get z
   rw [q] at hv
   have hm:=valV_in hv
   rw [h.keys] at hm
   obtain⟨y,hy,e⟩:=zJ.mp hm
   cases e
   exact hy
theorem nd_le:∀{l m:List Str},l.Nodup→(∀a∈l,a∈m)→l.length≤m.length
 | [],_,_,_=>Nat.zero_le _
 |a :: l,m,nd,h=>by
  have ha:=h a (zH ..)
  rw [zX] at nd
  have q:=nd_le (l:=l) (m:=m.erase a) nd.2 fun b hb=>(List.mem_erase_of_ne (fun(e:b=a)=>nd.1 (by rw [←e];exact hb))).mpr (h b (zD _ hb))
  rw [List.length_erase_of_mem ha] at q
  have:0 < m.length:=List.length_pos_of_mem ha
  simp only [zN]
  omega
theorem AD.le {kvs:List (Key × V)} {f:Str→Option Int} (h:AD kvs f) {ws:List Str} (hs:∀z,f z≠none→z∈ws):kvs.length≤ws.length:=by
 rw [←h.klen]
 exact nd_le h.knd fun z hz=>hs z ((h.kin z).mp hz)
theorem AD.at {kvs:List (Key × V)} {f:Str→Option Int} (h:AD kvs f) {i:Nat} {k:Key} {v:V} (e:kvs[i]?=some (k,v)):∃z n,k=Sum.inr z∧v=.int n∧f z=some n∧(qdg kvs)[i]?=some z:=by
 obtain⟨z,n,rfl,rfl,hf⟩:=h.mem (zG e)
 refine⟨z,n,rfl,rfl,hf,?_⟩
 have q:(kvs.map (·.1))[i]?=some (Sum.inr z):=by rw [zC,e];rfl
 rw [h.keys,zC] at q
 obtain⟨y,hy,e⟩:=Option.map_eq_some_iff.mp q
 cases e
 exact hy
def leS (a b:Str):Prop:=ltCps b.cps.toList a.cps.toList=false
theorem qcx {a b:Str}:leS a b↔a.cps.toList≤b.cps.toList:=by
 unfold leS
 rw [ltCps_eq,decide_eq_false_iff_not]
 exact List.not_lt
theorem leS_refl (a:Str):leS a a:=qcx.mpr (List.le_refl _)
theorem leS_trans {a b c:Str} (h:leS a b) (h':leS b c):leS a c:=qcx.mpr (List.le_trans (qcx.mp h) (qcx.mp h'))
theorem leS_anti {a b:Str} (h:leS a b) (h':leS b a):a=b:=by
 have e:=List.le_antisymm (qcx.mp h) (qcx.mp h')
 obtain⟨⟨x⟩⟩:=a
 obtain⟨⟨y⟩⟩:=b
 have e':x=y:=e
 subst e'
 rfl
theorem rising_pw:∀{p:Str} {l:List Str},risingS p l=true→(p :: l).Pairwise leS
 |p, [],_=>List.pairwise_singleton _ _
 |p,x :: r,h=>by
  have h':(!ltCps x.cps.toList p.cps.toList && risingS x r)=true:=h
  rw [Bool.and_eq_true,Bool.not_eq_true'] at h'
  have q:=rising_pw h'.2
  refine List.pairwise_cons.mpr ⟨fun y hy=>?_,q⟩
  rcases zK.mp hy with rfl|hy
  ·exact h'.1
  ·exact leS_trans h'.1 (List.rel_of_pairwise_cons q hy)
theorem qe5:∀{l:List Str},sortedS l=true→l.Pairwise leS
 | [],_=>List.Pairwise.nil
 |x :: r,h=>rising_pw h
def gN (f:Str→Option Int) (z:Str):Int:=(f z).getD 0
def qf8 (f g:Str→Option Int):Str→Option Int:=fun y=>match g y with|none=>f y|some b=>some (gN f y+b)
def qce (f:Str→Option Int):Str→Option Int:=fun y=>match f y with|none=>none|some a=>if 0 < a then some a else none
theorem gN_get {kvs:List (Key × V)} {f:Str→Option Int} (h:AD kvs f) (z:Str):(qc7 kvs (Sum.inr z)).getD (.int 0)=.int (gN f z):=by
 rw [h.get]
 unfold gN
 cases f z <;> rfl
theorem qbi {l:List Str} {i:Nat} {z:Str} (h:l[i]?=some z) (y:Str):y∈l.take (i+1)↔y∈l.take i∨y=z:=by
 rw [zS,h,zU]
 simp
section
variable {prog : Program} {w : World} {A : Around} {s : Shared} {E Q : Value → Shared → Prop} {r : Addr} {n : Int} {t u v : Tok}
end
section
variable {X : Cx}
end
section
variable {σ : L2.St} {H : Hp} {D : Ends} {Q : VK} {g : TG} {tb : TS} {ta : TA} {j : Int} {p : Addr} {n : Nat}
end
section
variable {K : Frag} {σ : L2.St} {H H' : Hp} {Q : VK} {D : Ends} {td ty tx tv : TE} {a b p : Addr} {kvs kb : List (Key × V)} {f : Str → Option Int} {z : Str} {n : Int} {v : V} {o : Obj}
def rDG (a:Addr) (y z:V) (H:Hp) (Q:VK):Prop:=∃o,DGet H a y o∧Q (o.getD z) H
def kDG2 (ty tx:TE) (σ:L2.St) (Q:VK) (x:V) (H:Hp):Prop:=∃a,x=.ref a∧IsD H a∧ty σ H fun y H2=>tx σ H2 fun z H3=>rDG a y z H3 Q
theorem r_dg2 (h:td σ H fun x H1=>kDG2 ty tx σ Q x H1):tDGet2 td ty tx σ H Q:=h
theorem r_dg2a (d:Rd H a (.dK kvs)) (h:ty σ H fun y H2=>tx σ H2 fun z H3=>rDG a y z H3 Q):kDG2 ty tx σ Q (.ref a) H:=⟨a,rfl,.inl ⟨kvs,d⟩,h⟩
theorem r_dg2b (d:Rd H a (.dK kvs)) (A:AD kvs f) (h:Q (.int (gN f z)) H):rDG a (.str z) (.int 0) H Q:=by
 refine⟨qc7 kvs (Sum.inr z),.inl ⟨kvs,Sum.inr z,d,rfl,rfl⟩,?_⟩
 rw [gN_get A]
 exact h
def rDGk (x y:V) (H:Hp) (Q:VK):Prop:=∃a v,x=.ref a∧DGet H a y (some v)∧Q v H
theorem r_dg (h:td σ H fun x H1=>ty σ H1 fun y H2=>rDGk x y H2 Q):tDGet td ty σ H Q:=h
theorem r_dgk (d:Rd H a (.dK kvs)) (A:AD kvs f) (e:f z=some n) (h:Q (.int n) H):rDGk (.ref a) (.str z) H Q:=
 ⟨a,.int n,rfl,.inl ⟨kvs,Sum.inr z,d,rfl,by rw [A.get,e];rfl⟩,h⟩
def rDP (x y v:V) (H:Hp) (D:Ends) (σ:L2.St):Prop:=∃a H4,x=.ref a∧DPut H a y v H4∧D.nx σ H4
theorem r_dp (h:tv σ H fun v H1=>td σ H1 fun x H2=>ty σ H2 fun y H3=>rDP x y v H3 D σ):sDPut td ty tv D σ H:=h
theorem r_dpk (e:H a=some (.dK kvs)) (hz:kvs.length < sizeLine) (h:D.nx σ (upd H a (.dK (qcu kvs (Sum.inr z) v)))):rDP (.ref a) (.str z) v H D σ:=⟨a,_,rfl,DPut.k (k:=Sum.inr z) e hz,h⟩
def rDI (x y:V) (H:Hp) (Q:VK):Prop:=∃a o,x=.ref a∧DGet H a y o∧Q (.bl o.isSome) H
theorem r_di (h:ty σ H fun y H1=>td σ H1 fun x H2=>rDI x y H2 Q):tDIn ty td σ H Q:=h
theorem r_dnew (h:∀p,H p=none→Q (.ref p) (upd H p (.dK []))):tDNewK σ H Q:=h
theorem qdd (e:H a=some (.dK kvs)):NoFrz H a:=fun o u z=>by rw [e] at z;cases z
theorem rd_new (d:Rd H a (.dK kvs)) (n:H p=none) {u:HO}:Rd (upd H p u) a (.dK kvs):=by
 rcases d with d|⟨o,d⟩
 ·exact .inl (qa9 d n)
 ·exact .inr ⟨o,qa9 d n⟩
theorem rd_in (d:Rd H b (.dK kb)) (ea:H a=some (.dK kvs)) (sb:SameBut a H H') (fz:H' a=some (.frz o (.dK kvs))):Rd H' b (.dK kb):=by
 by_cases e:b=a
 ·subst e
  rcases d with d|⟨o',d⟩
  ·rw [ea] at d;cases d;exact .inr ⟨o,fz⟩
  ·rw [ea] at d;cases d
 ·rcases d with d|⟨o',d⟩
  ·exact .inl (sb _ _ e d)
  ·exact .inr ⟨o',sb _ _ e d⟩
theorem qct (e:H a=some (.dK kvs)) (sb:SameBut a H H'):qaq H (upd H' a (.dK kvs)):=fun b u q=>by
 by_cases h:b=a
 ·subst h;rw [qa3];rw [e] at q;exact q
 ·rw [qa6 h];exact sb b u h q
theorem sb_frz (e:H a=some (.dK kvs)):SameBut a H (upd H a (.frz o (.dK kvs))):=fun b u h q=>by rw [qa6 h];exact q
theorem sb_put {l:Addr} {u:HO} (sb:SameBut a H H') (n:H l=none):SameBut a H (upd H' l u):=fun b w h q=>by
 rw [qa6 (qa5 q n)];exact sb b w h q
theorem qbe {l:Addr} {u:HO} (s:qaq H H') (n:H l=none):qaq H (upd H' l u):=fun b w q=>by rw [qa6 (qa5 q n)];exact s b w q
end
def viol (f g:Str→Option Int) (y:Str):Prop:=f y≠none∧gN g y < gN f y
theorem qdi {f g:Str→Option Int} {ws:List Str} (hf:∀z,f z≠none→z∈ws) (hg:∀z,g z≠none→z∈ws) (z:Str) (h:qf8 f g z≠none):z∈ws:=by
 unfold qf8 at h
 cases e:g z with
 |none=>rw [e] at h;exact hf z h
 |some b=>exact hg z (by rw [e];simp)
theorem step_put {l:List Str} {i:Nat} {z:Str} (h:l[i]?=some z) (F G:Str→Option Int) {v:Int} (hv:F z=some v) (y:Str):putF' (fun y=>if y∈l.take i then F y else G y) z v y=if y∈l.take (i+1) then F y else G y:=by
 unfold putF'
 by_cases e:y=z
 ·subst e
  rw [if_pos rfl,if_pos ((qbi h y).mpr (.inr rfl)),hv]
 ·rw [if_neg e]
  by_cases e2:y∈l.take i
  ·rw [if_pos ((qbi h y).mpr (.inl e2))];exact if_pos e2
  ·rw [if_neg (fun q=>((qbi h y).mp q).elim e2 e)];exact if_neg e2
theorem step_no {l:List Str} {i:Nat} {z:Str} (h:l[i]?=some z) (F G:Str→Option Int) (hv:F z=G z) (y:Str):(if y∈l.take i then F y else G y)=if y∈l.take (i+1) then F y else G y:=by
 by_cases e2:y∈l.take i
 ·rw [if_pos e2,if_pos ((qbi h y).mpr (.inl e2))]
 ·rw [if_neg e2]
  by_cases e:y=z
  ·subst e
   rw [if_pos ((qbi h y).mpr (.inr rfl)),hv]
  ·rw [if_neg (fun q=>((qbi h y).mp q).elim e2 e)]
theorem step_end {kvs:List (Key × V)} {g:Str→Option Int} (hB:AD kvs g) (F G:Str→Option Int) (hn:∀y,g y=none→F y=G y) (y:Str):(if y∈(qdg kvs).take kvs.length then F y else G y)=F y:=by
 rw [←hB.klen,zZ]
 by_cases e:y∈qdg kvs
 ·rw [if_pos e]
 ·rw [if_neg e]
  refine(hn y ?_).symm
  cases hf:g y with
  |none=>rfl
  |some n=>exact absurd ((hB.kin y).mpr (by rw [hf];simp)) e
section
variable {X : Cx}
theorem qe7 {elt iter:Expr} {x y:Str} {px py:Pos} {ifs:List Expr} {scope:Scope} {cl:List (Str × Addr)} {pos spos:Pos} {caps:List Nat} {cn:List Str} {wi:TI} {tt:CT TT} {te:CT TE} {j:Nat} (Cp:Caps X x scope cl caps cn) (hc:X.calm=true)
  (hN:X.N.Nodup) (hy:X.N[j]?=some y) (hly:X.env.scope.names.lookup y=some .local)
  (hi:PI X (.Name x px) iter wi) (ht:∀C s H fp,PIfs (cxC X (x :: cn) scope cl C s H fp) ifs (tt C s H fp)) (he:∀C s H fp,PE (cxC X (x :: cn) scope cl C s H fp) elt (te C s H fp))
  (hsw:swapsWith (.ListComp elt [⟨.Name x px,iter,ifs,0⟩] scope pos) (some (.Name y py)) spos.line X.env=pure true:=by rfl) (hs:∀x,foldedSetIterable iter X.env x=pure x:=by intro _;rfl):
  PS X (.Assign [.Name y py] (.ListComp elt [⟨.Name x px,iter,ifs,0⟩] scope pos) spos) (tAsg (tComp wi caps tt te) (gName j)):=by
 intro pins s σ H D I h
 replace h:tComp wi caps tt te σ H (fun v H1=>D.nx (σ.set j (some v)) H1):=h
 rw [exec_Assign_Name_used _ _ _ _ hsw]
 refine wpAny_bind (wpAny_standAt (wpAny_bind ?_))
 show wpAny _ X.A (do let _←comprehension (.ListComp elt [⟨.Name x px,iter,ifs,0⟩] scope pos) scope X.env _ (newList []) false (eval iter X.env) (some (assign (.Name y py) X.env))) _ _ s
 refine wpAny_bind (wpAny_mono (wpAny_comprehension_free (use:=some (assign (.Name y py) X.env)) (Q:=fun _ s'=>SP X pins D .next s') rfl hs Cp.clos Cp.kind Cp.names
  (thn (hi pins s σ H _ I h) fun v s1 h1=>thn h1 fun itv s2 h2=>?_)) (fun _ s' hq=>wpAny_pure (wpAny_pure hq)) fun _ _ e=>e)
 obtain⟨it,fp,tn,J,H2,e,I2,T,st2,f2,R⟩:=h2
 subst e
 have hacc:H2 s2.heap.objs.size=none:=I2.hok.fresh (Nat.le_refl _)
 refine wpAny_newObj_type ?_
 have I3:Inv X pins σ (upd H2 s2.heap.objs.size (.lst [])) {s2 with heap:=s2.heap.push {cls:=.type "list",dict:=none,data:=.seq ([]:List Value).toArray}}:=Inv.lnew (its:=[]) (t':=s2.toks) I2 .nil (Nat.zero_le _)
 have lt2:∀b∈fp,b < s2.heap.objs.size:=fun b hb=>let ⟨o,e,_⟩:=T.obj _ _ st2 b hb;Heap.lt_size e
 have f3:∀b∈fp,FpOk X pins (upd H2 s2.heap.objs.size (.lst [])) b:=fun b hb=>⟨by rw [qa6 (Nat.ne_of_lt (lt2 b hb))];exact(f2 b hb).1,(f2 b hb).2⟩
 have st3:tn 0 (s2.heap.push {cls:=.type "list",dict:=none,data:=.seq ([]:List Value).toArray}):=T.keep _ _ _ st2 fun b _ o e=>Heap.get?_push_of_some _ e
 generalize hs3:({s2 with heap:=s2.heap.push {cls:=.type "list",dict:=none,data:=.seq ([]:List Value).toArray}}:Shared)=s3 at I3 ⊢
 have st3':tn 0 s3.heap:=by rw [←hs3];exact st3
 generalize s2.heap.objs.size=acc at hacc I3 f3 ⊢
 obtain⟨W,⟨m0,w0⟩,turn⟩:=R s3.heap.objs.size s3 (upd H2 acc (.lst [])) fp acc hacc
 have lt3:∀b∈fp,b < s3.heap.objs.size:=fun b hb=>let ⟨o,e,_⟩:=T.obj _ _ st3' b hb;Heap.lt_size e
 clear st3 hs3
 refine wpAny_newFunctionEnv Cp.cell (by intro y hy;simp at hy) (fun h₁ hns hsb=>?_) Cp.kind
 have k1:∀b o,s3.heap.get? b=some o→h₁.get? b=some o:=fun b o e=>hsb.extBut b o (Nat.ne_of_lt (Heap.lt_size e)) (Heap.get?_push_of_some _ e)
 have I4:Inv (cxC X (x :: cn) scope cl s3.heap.objs.size s3 (upd H2 acc (.lst [])) fp) [] (none :: qb2 caps σ) (upd H2 acc (.lst [])) {s3 with heap:=h₁,toks:=s3.toks+([]:List (Str × Value)).length}:=
  Inv.comp Cp I3 f3 lt3 hns k1
 have st4:tn 0 h₁:=T.keep _ _ _ st3' fun b _ o e=>k1 b o e
 generalize hX:cxC X (x :: cn) scope cl s3.heap.objs.size s3 (upd H2 acc (.lst [])) fp=X' at I4
 have stat:∀{H':Hp},(∀b∈fp,H' b=none)→∀b∈fp,FpOk X' [] H' b:=fun hn b hb=>by
  subst hX
  obtain⟨g0,g1,g2,g3,g4,g5⟩:=f3 b hb
  refine⟨hn b hb,Nat.ne_of_lt (lt3 b hb),fun z=>?_,.inl hb,fun y c e=>g4 y c (Cp.sub y c e),fun p hp=>absurd (show p∈([]:List (Addr × Obj)) from hp) (by simp)⟩
  rcases zK.mp (I3.stkSub b z) with z|z
  ·exact g1 z
  ·exact g2 z
 have core:codeAny (model X.prog X.w) X.A (.compLoop (.ListComp elt [⟨.Name x px,iter,ifs,0⟩] scope pos) 0 (.ref it) (.ref acc) (compEnvC scope cl s3.heap.objs.size X.env))
   (compPost (model X.prog X.w) X.A X.xe (some (assign (.Name y py) X.env)) (fun _ s'=>SP X pins D .next s') (.ref acc) s3.heap.objs.size) {s3 with heap:=h₁,toks:=s3.toks+([]:List (Str × Value)).length}:=by
  refine codeAny_loop rfl (fun n s'=>∃i a H',Inv X' [] (a :: qb2 caps σ) H' s'∧tn i s'.heap∧(∀b∈fp,H' b=none)∧W i n H') (fun n s5 hI=>?_) m0 ⟨0,none,_,I4,st4,fun b hb=>(f3 b hb).1,w0⟩
  obtain⟨i,a0,H5,I5,st5,fr5,w5⟩:=hI
  show wpAny _ _ ((compTurn _ 0 _ _ _).onRaise _) _ _ s5
  refine wpAny_noted ?_
  rw [compTurn_list]
  refine wpAny_bind (wpAny_standAt (wpAny_bind ?_))
  have aX:X'.A=X.A:=by subst hX;rfl
  have pX:X'.prog=X.prog:=by subst hX;rfl
  have wX:X'.w=X.w:=by subst hX;rfl
  have kX:X'.K=X.K:=by subst hX;rfl
  have cX:X'.calm=true:=by subst hX;exact hc
  have eX:X'.env=compEnvC scope cl s3.heap.objs.size X.env:=by subst hX;rfl
  rcases turn i n H5 w5 with ⟨stop,qn⟩ |⟨go,N,hN,step⟩
  ·have z:=T.done X' pX wX kX cX i [] s5 _ H5 (fun _ _=>False) I5 (stat fr5) st5 stop
   rw [aX] at z
   refine wpAny_mono z (fun r s6 ⟨hr,I6⟩=>?_) fun _ _ q=>q.elim
   subst hr
   subst hX
   obtain⟨m,hm,_⟩:=id I6.loc
   have J0:Inv X pins σ H5 s6:=Inv.uncomp I3 f3 rfl I6 (h':=s6.heap) ⟨rfl,fun _ _=>rfl⟩
   have fC:FpOk X pins H5 s3.heap.objs.size:=I3.fpOk (Nat.le_refl _) I6.free
   refine wpAny_pure ?_
   show wpAny _ X.A (assign (.Name y py) X.env (.ref acc)) _ _ s6
   refine wpAny_assign_Name (store_ok2 (X:=X) (v:=.ref acc) J0 hN hy (.inl hly) rfl (fun s7 I7 ⟨a,sb,ha⟩=>?_) (.inr hly))
   have nC:s3.heap.objs.size≠a:=by
    rcases ha with rfl|ha
    ·exact fC.2.1
    ·exact(fC.2.2.2.2.1 y a ha).symm
   refine⟨m,hm.sameBut sb nC,fun h' sb'=>⟨_,H5,?_,qn⟩⟩
   exact I7.turned (t':=s7.toks) (fun b o hb e=>(sb'.2 b hb).trans e) fC.1 fC.2.1 fC.2.2.2.1 fC.2.2.2.2.1 fC.2.2.2.2.2
  ·have z:=T.item X' pX wX kX cX i [] s5 _ H5 (fun _ _=>False) I5 (stat fr5) st5 go
   rw [aX] at z
   refine wpAny_mono z (fun r s6 ⟨u,hr,h6⟩=>?_) fun _ _ q=>q.elim
   subst hr
   refine wpAny_bind (wpAny_mono h6 (fun _ s7 ⟨v,H7,I7,r7,y7,st7,fr7⟩=>?_) fun _ _ q=>q.elim)
   have I7':=I7.pinned (stat fr7) (T.obj _ _ st7)
   have asg:wpAny (model X.prog X.w) X.A (assign (.Name x px) (compEnvC scope cl s3.heap.objs.size X.env) u) (fun _ s8=>Inv X' ([]++qc9 fp s7.heap) (some v :: qb2 caps σ) H7 s8) (fun _ _=>False) s7:=by
    subst hX
    exact wpAny_assign_Name (qdv (X:=cxC X (x :: cn) scope cl s3.heap.objs.size s3 (upd H2 acc (.lst [])) fp) (i:=0) I7' Cp.nd rfl (.inl (lookup_relabel_local Cp.tg)) r7 (fun s' I'=>I') (.inr (lookup_relabel_local Cp.tg)))
   refine wpAny_bind (wpAny_mono asg (fun _ s8 I8=>?_) fun _ _ q=>q.elim)
   have tst:wpAny (model X.prog X.w) X.A (forIn ifs true fun c r=>if r=true then do let ok←isTrue c (compEnvC scope cl s3.heap.objs.size X.env) (eval c (compEnvC scope cl s3.heap.objs.size X.env));pure (ForInStep.yield ok) else pure (ForInStep.yield r))
     (TP X' ([]++qc9 fp s7.heap) (some v :: qb2 caps σ) (fun b H9=>if b=true then te s3.heap.objs.size s3 (upd H2 acc (.lst [])) fp (some v :: qb2 caps σ) H9 (fun y H3=>rApp acc N y H3) else N H9)) (fun _ _=>False) s8:=by
    subst hX
    exact ht _ _ _ _ _ s8 _ H7 _ I8 (step v H7 y7)
   refine wpAny_bind (wpAny_mono tst (fun b s9 ⟨H9,I9,q9⟩=>?_) fun _ _ q=>q.elim)
   have fin:∀{a:Option V} {H10:Hp} {s10:Shared},Inv X' ([]++qc9 fp s7.heap) (a :: qb2 caps σ) H10 s10→N H10→∃m',m' < n∧∃i a H',Inv X' [] (a :: qb2 caps σ) H' s10∧tn i s10.heap∧(∀b∈fp,H' b=none)∧W i m' H':=fun {a H10 s10} I10 n10=>
    let ⟨m',hm,w10⟩:=hN _ n10
    ⟨m',hm,i+1,a,H10,I10.unpinned,T.keep _ _ _ st7 fun b hb o e=>(I10.pin (b,o) (zR _ (zR _ (qc2 hb e)))).1,fun b hb=>by
     obtain⟨o,e,d⟩:=T.obj _ _ st7 b hb
     exact(I10.pin (b,o) (zR _ (zR _ (qc2 hb e)))).2.1,w10⟩
   cases b with
   |false=>exact wpAny_pure ⟨rfl,fin I9 q9⟩
   |true=>
    have elt':wpAny (model X.prog X.w) X.A (eval elt (compEnvC scope cl s3.heap.objs.size X.env)) (EP X' ([]++qc9 fp s7.heap) (some v :: qb2 caps σ) (fun y H3=>rApp acc N y H3)) (fun _ _=>False) s9:=by
     subst hX
     exact he _ _ _ _ _ s9 _ H9 _ I9 q9
    refine wpAny_bind (wpAny_bind (wpAny_mono elt' (fun y s10 ⟨w,H10,I10,r10,ys,ha,hz,q10⟩=>?_) fun _ _ q=>q.elim))
    have app:wpAny (model X.prog X.w) X.A (call (.builtin "list.append") [.ref acc,y]) (EP X' ([]++qc9 fp s7.heap) (some v :: qb2 caps σ) fun _ H11=>H11=upd H10 acc (.lst (ys++ [w]))) (fun _ _=>False) s10:=by
     subst hX
     exact qb8 (X:=cxC X (x :: cn) scope cl s3.heap.objs.size s3 (upd H2 acc (.lst [])) fp) _ s10 _ H10 (.ref acc) [w] (.ref acc) [y] _ I10 rfl (.cons r10 .nil) ⟨acc,ys,w,rfl,rfl,ha,hz,rfl⟩
    refine wpAny_bind (wpAny_mono app (fun _ s11 ⟨_,H11,I11,_,e11⟩=>?_) fun _ _ q=>q.elim)
    subst e11
    exact wpAny_pure (wpAny_pure ⟨rfl,fin I11 q10⟩)
 exact codeAny_compStart_list core (T.self _ 0 _ _ _ st4 core)
end
section
variable {X : Cx} {pins : List (Addr × Obj)} {σ : L2.St} {H : Hp} {s : Shared} {h' : Heap}
theorem Inv.turnedL {t':Nat} {ch:List Addr} (I:Inv X pins σ H s) (hf:∀b∈ch,FpOk X pins H b) (k:∀b o,b∉ch→s.heap.get? b=some o→h'.get? b=some o):Inv X pins σ H {s with heap:=h',toks:=t'}:=by
 have nit:∀b u,H b=some u→b∉ch:=fun b u e z=>by rw [(hf b z).1] at e;cases e
 refine I.step (g':=s.gens) (d':=s.drawn) (ch:=ch) (fun b hb=>⟨(hf b hb).2.2.2.1,(hf b hb).2.1,(hf b hb).2.2.2.2.1,(hf b hb).2.2.2.2.2⟩) (fun b o _ _ hc e _=>k b o hc e) (fun b o _ _ hc e _=>⟨o.slots,k b o hc e⟩) (fun _ _ _ _ n=>n)
  (fun b o hc e=>⟨o,k b o hc e⟩) (fun _ _ e=>e) (fun _ _ _ e=>e) (fun b ps e=>⟨#[],by rw [e];simp⟩) (fun m hm=>?_) (fun b u e=>?_) I.bare
 ·obtain⟨o,es,ep,ho,r⟩:=hm
  exact⟨o,es,ep,k _ o (fun z=>(hf _ z).2.1 rfl) ho,r⟩
 ·refine(I.hok b u e).stay (fun c v hc q=>k c v ?_ q) (fun _ q=>q) fun _ _ q=>q
  rcases hc with rfl|hc
  ·exact nit _ _ e
  ·exact nit _ _ hc
theorem Inv.turnedT {t':Nat} {ch:List Addr} {T:Addr} {ob:HO} (I:Inv X pins σ H s) (hf:∀b∈ch,FpOk X pins H b) (k:∀b o,b∉ch→s.heap.get? b=some o→h'.get? b=some o) (hT:s.heap.get? T=none) (hn:H T=none) (new:qbd X.prog X.w (upd H T ob) h' T ob):
  Inv X pins σ (upd H T ob) {s with heap:=h',toks:=t'}:=by
 have nit:∀b u,H b=some u→b∉ch:=fun b u e z=>by rw [(hf b z).1] at e;cases e
 refine I.step (g':=s.gens) (d':=s.drawn) (ch:=ch) (fun b hb=>⟨(hf b hb).2.2.2.1,(hf b hb).2.1,(hf b hb).2.2.2.2.1,(hf b hb).2.2.2.2.2⟩) (fun b o _ _ hc e _=>k b o hc e) (fun b o _ _ hc e _=>⟨o.slots,k b o hc e⟩)
  (fun b o _ e n=>by rw [qa6 (fun z=>by subst z;rw [hT] at e;cases e)];exact n)
  (fun b o hc e=>⟨o,k b o hc e⟩) (fun b xs e=>by rw [qa6 (qa5 e hn)];exact e) (fun b o u e=>by rw [qa6 (qa5 e hn)];exact e) (fun b ps e=>⟨#[],by rw [qa6 (qa5 e hn),e];simp⟩) (fun m hm=>?_) (fun b u e=>?_) I.bare
 ·obtain⟨o,es,ep,ho,r⟩:=hm
  exact⟨o,es,ep,k _ o (fun z=>(hf _ z).2.1 rfl) ho,r⟩
 ·by_cases hb:b=T
  ·subst hb;rw [qa3] at e;cases e;exact new
  ·rw [qa6 hb] at e
   refine(I.hok b u e).stay (fun c v hc q=>k c v ?_ q) (fun c q=>by rw [qa6 (qa5 q hn)];exact q) fun c xs q=>by rw [qa6 (qa5 q hn)];exact q
   rcases hc with rfl|hc
   ·exact nit _ _ e
   ·exact nit _ _ hc
end
def ItZ (K:Frag) (l1 l2:Addr) (xs ys:List V):It:=
 ⟨fun i H=>SqL K H l1 xs∧SqL K H l2 ys∧i < xs.length∧i < ys.length,fun i H v H'=>∃T x y,H T=none∧xs[i]?=some x∧ys[i]?=some y∧v=.ref T∧H'=upd H T (.tup [x,y]),fun i H=>SqL K H l1 xs∧SqL K H l2 ys∧(xs.length≤i∨ys.length≤i)⟩
def ZSt (z TI TO i1 i2 l1 l2:Addr) (i:Nat) (h:Heap):Prop:=IsZip h z TI TO .none∧IsPair h TI (.ref i1) (.ref i2)∧(∃a b,IsPair h TO a b)∧h.IsListIter i1 l1 i∧h.IsListIter i2 l2 i
theorem turn_zip {P:Program} {w:World} {K:Frag} {elts:List Expr} {kk:Nat} {tp:Pos} {z TI TO i1 i2 l1 l2:Addr} (D:ZipApart z TI TO i1 i2 l1 l2) (xs ys:List V):
  Turn P w K (.Tuple elts kk tp) (ItZ K l1 l2 xs ys) [z,TI,TO,i1,i2] z (ZSt z TI TO i1 i2 l1 l2) where
 mem:=by simp
 obj:=fun i h st b hb=>by
  obtain⟨hz,hTI,⟨a,c,hTO⟩,⟨o1,e1,_,d1⟩,o2,e2,_,d2⟩:=st
  simp only [zK,yH,or_false] at hb
  rcases hb with rfl|rfl|rfl|rfl|rfl
  ·exact⟨_,hz,fun v q=>by have q':Data.fields _=Data.cell v:=q;cases q'⟩
  ·exact⟨_,hTI,fun v q=>by have q':Data.seq _ _=Data.cell v:=q;cases q'⟩
  ·exact⟨_,hTO,fun v q=>by have q':Data.seq _ _=Data.cell v:=q;cases q'⟩
  ·exact⟨o1,e1,fun v q=>by rw [d1] at q;cases q⟩
  ·exact⟨o2,e2,fun v q=>by rw [d2] at q;cases q⟩
 keep:=fun i h h' st k=>by
  obtain⟨hz,hTI,⟨a,c,hTO⟩,h1,h2⟩:=st
  exact⟨k z (by simp) _ hz,k TI (by simp) _ hTI,⟨a,c,k TO (by simp) _ hTO⟩,h1.at fun o e=>k i1 (by simp) o e,h2.at fun o e=>k i2 (by simp) o e⟩
 item:=by
  intro X hP hw hK hc i pins s σ H E I hf st hg
  subst hP hw hK
  obtain⟨hz,hTI,⟨a,c,hTO⟩,h1,h2⟩:=st
  obtain⟨q1,q2,g1,g2⟩:=hg
  obtain⟨us,r1,p1,_⟩:=I.list q1
  obtain⟨ws,r2,p2,_⟩:=I.list q2
  obtain⟨u1,hu1,ru1⟩:=r1.get (zA g1)
  obtain⟨u2,hu2,ru2⟩:=r2.get (zA g2)
  refine wpAny_pyNext_zip_item D hz hTI hTO h1 h2 (PlainL.isList p1) (PlainL.isList p2) (x:=u1) (y:=u2) (by simpa using hu1) (by simpa using hu2) fun h' b1 b2 b3 b4 b5 b6 hk=>?_
  have hn:H s.heap.objs.size=none:=I.hok.fresh (Nat.le_refl _)
  have lt:∀{b:Addr} {o:Obj},s.heap.get? b=some o→b≠s.heap.objs.size:=fun e=>Nat.ne_of_lt (Heap.lt_size e)
  have nz:z≠s.heap.objs.size:=lt hz
  have hg0:s.heap.get? s.heap.objs.size=none:=Heap.get?_none_of_le (Nat.le_refl _)
  have I1:Inv X pins σ (upd H s.heap.objs.size (.tup [xs[i],ys[i]])) {s with heap:=h'}:=Inv.turnedT (t':=s.toks) (ch:=[z,TO,i1,i2]) I
   (fun b hb=>hf b (by simp only [zK,yH,or_false] at hb ⊢;rcases hb with e|e|e|e <;> simp [e]))
   (fun b o hb e=>hk b o (fun q=>hb (by simp [q])) (fun q=>hb (by simp [q])) (fun q=>hb (by simp [q])) (fun q=>hb (by simp [q])) e) hg0 hn
   ⟨by show 2≤16777216;decide, [u1,u2],.cons ru1 (.cons ru2 .nil),⟨_,b5,rfl,_,rfl⟩⟩
  refine⟨.ref s.heap.objs.size,rfl,wpAny_letOwnedTupleGo_zip (s:={s with heap:=h'}) b1 fun h2' c1 hs2=>?_⟩
  have hfz:=hf z (by simp)
  have I2:Inv X pins σ (upd H s.heap.objs.size (.tup [xs[i],ys[i]])) {s with heap:=h2'}:=I1.turned (t':=s.toks) (fun b o hb e=>(hs2.2 b hb).trans e) (by rw [qa6 nz];exact hfz.1) hfz.2.1 hfz.2.2.2.1 hfz.2.2.2.2.1 hfz.2.2.2.2.2
  refine⟨.ref s.heap.objs.size,_,I2,rfl,⟨s.heap.objs.size,xs[i],ys[i],hn,zA g1,zA g2,rfl,rfl⟩,
   ⟨c1,hs2.extBut _ _ D.TIz (hk _ _ D.TIz D.TITO D.TIi1 D.TIi2 hTI),⟨_,_,hs2.extBut _ _ D.TOz b2⟩,b3.extBut hs2.extBut D.i1z,b4.extBut hs2.extBut D.i2z⟩,fun b hb=>?_⟩
  have e:b≠s.heap.objs.size:=by
   simp only [zK,yH,or_false] at hb
   obtain⟨o1,e1,_⟩:=h1
   obtain⟨o2,e2,_⟩:=h2
   rcases hb with rfl|rfl|rfl|rfl|rfl
   ·exact nz
   ·exact lt hTI
   ·exact lt hTO
   ·exact lt e1
   ·exact lt e2
  rw [qa6 e]
  exact(hf b hb).1
 done:=by
  intro X hP hw hK hc i pins s σ H E I hf st hg
  subst hP hw hK
  obtain⟨hz,hTI,⟨a,c,hTO⟩,h1,h2⟩:=st
  obtain⟨q1,q2,g⟩:=hg
  obtain⟨us,r1,p1,_⟩:=I.list q1
  obtain⟨ws,r2,p2,_⟩:=I.list q2
  have l1:=r1.length
  have l2:=r2.length
  exact wpAny_pyNext_zip_end (I.ok.hd hc) D hz hTI hTO h1 h2 (PlainL.isList p1) (PlainL.isList p2) (g.elim (fun g=> .inl (by simp;omega)) fun g=> .inr (by simp;omega)) fun h' hk=>
   ⟨rfl,Inv.turnedL (t':=s.toks) (ch:=[z,TO,i1,i2]) I (fun b hb=>hf b (by simp only [zK,yH,or_false] at hb ⊢;rcases hb with e|e|e|e <;> simp [e]))
    fun b o hb e=>hk b o (fun q=>hb (by simp [q])) (fun q=>hb (by simp [q])) (fun q=>hb (by simp [q])) (fun q=>hb (by simp [q])) e⟩
 self:=fun _ _ _ _ _ st h=>wpAny_pyIter_zip st.1 h
def rItZ (K:Frag) (vs:List V) (H:Hp) (R:It→Hp→Prop):Prop:=∃l1 l2 xs ys,vs=[.ref l1,.ref l2]∧SqL K H l1 xs∧SqL K H l2 ys∧R (ItZ K l1 l2 xs ys) H
def iZip (K:Frag) (ta:TA):TI:=fun σ H R=>ta σ H fun vs H1=>rItZ K vs H1 R
theorem boot_zip:bootBuiltins "zip" =some (.type "zip"):=by decide+kernel
theorem pi_zip {X:Cx} {elts:List Expr} {kk:Nat} {tp:Pos} {a b:Expr} {ta:TA} {p pos:Pos} (hg:Gl X "zip") (hm:X.mg "zip" =none) (ha:PA X [a,b] ta) (hs:starEach [a,b] X.env=[(false,eval a X.env),(false,eval b X.env)]:=by rfl) (hs2:starEach [b] X.env=[(false,eval b X.env)]:=by rfl):
  PI X (.Tuple elts kk tp) (.Call (.Name "zip" p) [a,b] [] pos) (iZip X.K ta):=by
 intro pins s σ H R I h
 refine Call_ (qeh I hg hm boot_zip (PyProof.Rows.callWith_type1 (thn (ha pos pins s σ H _ I h) fun us s1 ⟨vs,H1,I1,r1,q1⟩=>?_) (by rw [hs,hs2]) (by rw [hs2];rfl)))
 obtain⟨l1,l2,xs,ys,rfl,g1,g2,q⟩:=q1
 cases r1 with
 |cons r rr=>
  cases rr with
  |cons r' rr=>
   cases rr
   cases r
   cases r'
   obtain⟨us,v1,p1,_⟩:=I1.list g1
   obtain⟨ws,v2,p2,_⟩:=I1.list g2
   have t1:=PlainL.isList p1
   have t2:=PlainL.isList p2
   have lt1:l1 < s1.heap.objs.size:=by obtain⟨_,e,_⟩:=t1;exact Heap.lt_size e
   have lt2:l2 < s1.heap.objs.size:=by obtain⟨_,e,_⟩:=t2;exact Heap.lt_size e
   refine call_zip_2 t1 t2 fun h' hz hTI hTO hi1 hi2 hsz hk=>?_
   have I2:Inv X pins σ H1 {s1 with heap:=h'}:=I1.kept (t':=s1.toks) fun b o e=>hk b o e
   refine wpAny_pyIter_zip (s:={s1 with heap:=h'}) hz ?_
   refine⟨s1.heap.objs.size+4,_,_,_,H1,rfl,I2,turn_zip (zipApart_new lt1 lt2) xs ys,⟨hz,hTI,⟨_,_,hTO⟩,hi1,hi2⟩,fun b hb=>?_,q⟩
   have le:s1.heap.objs.size≤b:=by
    simp only [zK,yH,or_false] at hb
    rcases hb with rfl|rfl|rfl|rfl|rfl <;> omega
   exact I1.fpOk le (I1.hok.fresh le)
section
variable {K : Frag} {σ : L2.St} {H : Hp} {D : Ends} {g : TG} {tb : TS} {ta : TA} {l1 l2 : Addr} {xs ys : List V}
theorem r_iZ {R:It→Hp→Prop} (h:ta σ H fun vs H1=>rItZ K vs H1 R):iZip K ta σ H R:=h
theorem r_itZ {R:It→Hp→Prop} (e1:SqL K H l1 xs) (e2:SqL K H l2 ys) (h:R (ItZ K l1 l2 xs ys) H):rItZ K [.ref l1,.ref l2] H R:=⟨l1,l2,xs,ys,rfl,e1,e2,h⟩
theorem f_zip (hxy:xs.length=ys.length) (Pv:Nat→L2.St→Hp→Prop) (h0:Pv 0 σ H) (hl:∀i σ H,Pv i σ H→SqL K H l1 xs∧SqL K H l2 ys)
  (hs:∀i x y T σ H,xs[i]?=some x→ys[i]?=some y→Pv i σ H→H T=none→g (.ref T) σ (upd H T (.tup [x,y])) fun σ2 H2=>tb {nx:=Pv (i+1),rt:=D.rt,bk:=D.nx,ct:=Pv (i+1)} σ2 H2) (hd:∀σ H,Pv xs.length σ H→D.nx σ H):FOR (ItZ K l1 l2 xs ys) g tb D σ H:=by
 refine⟨fun i m σ H=>m=xs.length - i∧i≤xs.length∧Pv i σ H,⟨xs.length,rfl,Nat.zero_le _,h0⟩,?_⟩
 rintro i m σ H ⟨rfl,hi,p⟩
 obtain⟨q1,q2⟩:=hl i σ H p
 by_cases hlt:i < xs.length
 ·refine .inr ⟨⟨q1,q2,hlt,by omega⟩,Pv (i+1),fun σ' H' p'=>⟨xs.length - (i+1),by omega,rfl,hlt,p'⟩,fun v H' e=>?_⟩
  obtain⟨T,x,y,hT,hx,hy,rfl,rfl⟩:=e
  exact hs i x y T σ H hx hy p hT
 ·have e:i=xs.length:=by omega
  subst e
  exact .inl ⟨⟨q1,q2,.inl (Nat.le_refl _)⟩,hd σ H p⟩
end
section
variable {prog : Program} {w : World} {A : Around} {E : Value → Shared → Prop} {s : Shared}
theorem set_exact {l:Addr} {items:Array Value} {n:Nat} {k:Int} {t:Tok} {v:Value} {Q:Unit→Shared→Prop} (ho:s.heap.get? l=some {cls:=.type "list",data:=.seq items n}) (h0:0≤k) (hk:k < items.size) (hfit:k < 2^63)
  (q:Q () {s with heap:=s.heap.update l (Obj.mapSeq fun a=>a.setIfInBounds k.toNat v)}):wpAny (model prog w) A (setItem (.ref l) (.int k t) v) Q E s:=by
 have hT:s.TypeIs (.ref l) "list":=⟨_,ho,rfl⟩
 unfold setItem
 try with_reducible refine wpAny_holding ?_
 first|refine wpAny_bind (wpAny_pure ?_) |skip
 refine wpAny_bind (wpAny_sequenceKey hT (by decide) ?_)
 refine wpAny_bind (wpAny_callSpecial?_slot (name:=Str.ofString "__setitem__") hT slot_list_setitem (wpAny_call_entry slot_list_setitem hT entry_list_setitem ?_ (args_list_setitem _ _ _)))
 show wpAny _ _ (Builtin.List.listSubscript? (.int k t) >>= _) _ _ s
 refine wpAny_bind (wpAny_listSubscript_int (fitsIndex_of h0 hfit) ?_)
 clear hfit
 obtain⟨j,rfl⟩:=Int.eq_ofNat_of_zero_le h0
 have hj:j < items.size:=by omega
 have hx:items[j]?=some items[j]:=Array.getElem?_eq_getElem hj
 show wpAny _ _ ((seqItemAt l j >>= fun r=>pure (r.map (j,·))) >>= _) _ _ s
 refine wpAny_bind (wpAny_bind (wpAny_seqItemAt ho rfl (wpAny_pure ?_)))
 rw [hx]
 show wpAny _ _ (setSeqItemAt l j v >>= _) _ _ s
 refine wpAny_bind (wpAny_setSeqItemAt ho rfl ?_)
 first
 |exact wpAny_bind (wpAny_pure (wpAny_pure ⟨.none,rfl,wpAny_pure q⟩))
 |exact wpAny_pure ⟨.none,rfl,wpAny_pure q⟩
end
def rLP (x y v:V) (H:Hp) (D:Ends) (σ:L2.St):Prop:=∃l xs k,x=.ref l∧y=.int (k:Nat)∧H l=some (.lst xs)∧k < xs.length∧D.nx σ (upd H l (.lst (xs.set k v)))
def sLPut (td ty tv:TE):TS:=fun D σ H=>tv σ H fun v H1=>td σ H1 fun x H2=>ty σ H2 fun y H3=>rLP x y v H3 D σ
theorem ps_lput {X:Cx} {o i value:Expr} {pos pos':Pos} {td ty tv:TE} (ho:PE X o td) (hi:PE X i ty) (hv:PE X value tv) (hs:swapsWith value (some (.Subscript o i pos')) pos.line X.env=pure false):PS X (.Assign [.Subscript o i pos'] value pos) (sLPut td ty tv):=by
 intro pins s σ H D I h
 refine wpAny_Assign_Subscript (thn (hv pins s σ H _ I h) fun r s1 ⟨v,H1,I1,rv,q1⟩=>thn (ho pins s1 σ H1 _ I1 q1) fun u s2 ⟨x,H2,I2,rx,q2⟩=>thn (hi pins s2 σ H2 _ I2 q2) fun iv s3 ⟨y,H3,I3,ry,q3⟩=>?_) hs
 obtain⟨l,xs,k,rfl,rfl,hl,hk,q⟩:=q3
 obtain rfl:u=Value.ref l:=rx
 obtain⟨t,rfl⟩:=ry
 obtain⟨z,its,n,rr,hlen,e⟩:=I3.lstM hl
 have hz:xs.length≤16777216:=z
 refine set_exact e (Int.natCast_nonneg k) (by simp;omega) (by omega) ?_
 rw [Int.toNat_natCast]
 exact⟨σ,_,I3.lset (its':=its.set k r) (ys:=xs.set k v) (t':=s3.toks) hl e (by simp) (rr.set rv k) (by rw [List.length_set];exact z),q⟩
section
variable {X : Cx}
def tAlt (t1 t2:TE):TE:=fun σ H Q=>t1 σ H Q∨t2 σ H Q
theorem pe_alt {e:Expr} {t1 t2:TE} (h1:PE X e t1) (h2:PE X e t2):PE X e (tAlt t1 t2):=fun pins s σ H Q I h=>h.elim (h1 pins s σ H Q I) (h2 pins s σ H Q I)
def rMax:List V→Hp→VK→Prop:=fun xs H Q=>∃i j,xs=[.int i,.int j]∧Q (.int (if j > i then j else i)) H
def rMin:List V→Hp→VK→Prop:=fun xs H Q=>∃i j,xs=[.int i,.int j]∧Q (.int (if j < i then j else i)) H
theorem call_maxR (hc:X.calm=true):qby X (.builtin "max") rMax:=call_max2 hc
theorem qel (hc:X.calm=true):qby X (.builtin "min") rMin:=call_min2 hc
end
section
variable {K : Frag} {σ : L2.St} {H : Hp} {Q : VK} {D : Ends} {td ty tv t1 t2 : TE} {l : Addr} {xs : List V} {ss : List Str} {k : Nat} {v : V} {z : Str} {i j : Int}
theorem r_lp (h:tv σ H fun v H1=>td σ H1 fun x H2=>ty σ H2 fun y H3=>rLP x y v H3 D σ):sLPut td ty tv D σ H:=h
theorem r_lpk (e:H l=some (.lst xs)) (hk:k < xs.length) (h:D.nx σ (upd H l (.lst (xs.set k v)))) {y:Int} (ey:y=(k:Int)):rLP (.ref l) (.int y) v H D σ:=by subst ey;exact⟨l,xs,k,rfl,rfl,e,hk,h⟩
theorem r_alt1 (h:t1 σ H Q):tAlt t1 t2 σ H Q:=.inl h
theorem r_alt2 (h:t2 σ H Q):tAlt t1 t2 σ H Q:=.inr h
theorem r_max (h:Q (.int (if j > i then j else i)) H):rMax [.int i,.int j] H Q:=⟨i,j,rfl,h⟩
theorem r_min (h:Q (.int (if j < i then j else i)) H):rMin [.int i,.int j] H Q:=⟨i,j,rfl,h⟩
end
section
variable {K : Frag} {σ : L2.St} {H : Hp} {Q : VK} {D : Ends} {ta tv : TE} {t : TA} {a C dx : Addr} {fs : List (Str × V)} {f m : Str} {v y : V} {sp : Sp} {dvs : List V} {E : XK}
def kMk (C:Addr) (sp:Sp) (dvs:List V) (E:XK) (Q:VK) (vs:List V) (H:Hp):Prop:=∀x dx,H x=none→H dx=none→dx≠x→sp (.ref x ::(vs++dvs)) (upd (upd H dx (.own x)) x (.ins C dx [])) (fun v H2=>v=.non∧Q (.ref x) H2) E
theorem r_mk (h:t σ H fun vs H1=>kMk C sp dvs E Q vs H1):tMake C sp dvs E t σ H Q:=h
def kMt (C:Addr) (m:Str) (sp:Sp) (dvs:List V) (E:XK) (t:TA) (σ:L2.St) (Q:VK) (x:V) (H:Hp):Prop:=∃a dx fs,x=.ref a∧H a=some (.ins C dx fs)∧fs.lookup m=none∧t σ H fun vs H2=>sp (x ::(vs++dvs)) H2 Q E
theorem r_mt (h:ta σ H fun x H1=>kMt C m sp dvs E t σ Q x H1):tMeth C m sp dvs E ta t σ H Q:=h
theorem r_mtk (e:H a=some (.ins C dx fs)) (l:fs.lookup m=none) (h:t σ H fun vs H2=>sp (.ref a ::(vs++dvs)) H2 Q E):kMt C m sp dvs E t σ Q (.ref a) H:=⟨a,dx,fs,rfl,e,l,h⟩
def kFl (K:Frag) (f:Str) (Q:VK) (x:V) (H:Hp):Prop:=∃a C dx fs v,x=.ref a∧H a=some (.ins C dx fs)∧Cls K C∧qaj K C f∧fs.lookup f=some v∧Q v H
theorem r_fl (h:ta σ H fun x H1=>kFl K f Q x H1):tFld K ta f σ H Q:=h
theorem r_flk (e:H a=some (.ins C dx fs)) (c:Cls K C) (n:qaj K C f) (l:fs.lookup f=some v) (h:Q v H):kFl K f Q (.ref a) H:=⟨a,C,dx,fs,v,rfl,e,c,n,l,h⟩
def kFs (K:Frag) (f:Str) (y:V) (D:Ends) (σ:L2.St) (x:V) (H:Hp):Prop:=∃a C dx fs,x=.ref a∧H a=some (.ins C dx fs)∧Cls K C∧qaj K C f∧fs.length < 1000∧D.nx σ (upd H a (.ins C dx (qdr f y fs)))
theorem r_fs (h:tv σ H fun y H1=>ta σ H1 fun x H2=>kFs K f y D σ x H2):sFld K ta tv f D σ H:=h
theorem qe6 (e:H a=some (.ins C dx fs)) (c:Cls K C) (n:qaj K C f) (hz:fs.length < 1000) (h:D.nx σ (upd H a (.ins C dx (qdr f y fs)))):kFs K f y D σ (.ref a) H:=⟨a,C,dx,fs,rfl,e,c,n,hz,h⟩
end
structure IsC (K:Frag) (C:Addr):Prop where
 ha:findIn K (.ref C) "__class__" =some (some (.builtin "object.__class__"))
 hn:specialIn K (.builtin "object.__class__") "__get__" =some (some (.builtin "getset_descriptor.__get__"))
 htk:PySem.W.takesIn K (.builtin "object.__class__")=some true
 hm:mroIn K C (.type "object")=some true
section
variable {X : Cx} {k : Nat} {f C : Addr} {fd : FuncData} {ps : List Str} {sp : Sp} {dvs : List V} {ds : List Value} {W : L2.St → XK} {x m : Str} {p pos apos : Pos} {e o : Expr} {es : List Expr} {ta : TE} {t : TA}
def tMethX (C:Addr) (m:Str) (sp:Sp) (dvs:List V) (W:L2.St→XK) (ta:TE) (t:TA):TE:=fun σ H Q=>ta σ H fun x H1=>∃a dx fs,x=.ref a∧H1 a=some (.ins C dx fs)∧fs.lookup m=none∧t σ H1 fun vs H2=>sp (x ::(vs++dvs)) H2 Q (W σ)
theorem qap {pl:Sem Bool} (he:PE X o ta) (c:Cls X.K C) (hm:Meth X.K C m f) (F:FnOk X.prog X.w X.K X.mg X.base (CX1 X.prog X.w) k f fd ps sp) (hr:Room k X.A) (hb:qah X.K fd ps ds) (hd:qb9 dvs ds) (hx:Xes X W) (ha:PA X (e :: es) t) (hex:X.ex=[]:=by rfl)
  (hst:starEach (e :: es) X.env=(false,eval e X.env) :: starEach es X.env:=by rfl) (hpl:(backTo pos (starEach es X.env)).any (·.1)=false:=by rfl)
  (ht:eval (.Call (.Attribute o m apos) (e :: es) [] pos) X.env=(do
   let ov←eval o X.env
   standAt apos.atName
   let (f,first)←holding [ov] (getMethod ov m pl)
   callWith pos f first (backTo pos (starEach (e :: es) X.env)) (backToKw pos (keywordEach [] X.env))):=by rfl):
  PE X (.Call (.Attribute o m apos) (e :: es) [] pos) (tMethX C m sp dvs W ta t):=by
 intro pins s σ H Q I h
 refine PySem.W.methodCall_KW (pl:=pl) (thn (he pins s σ H _ I h) fun u s1 ⟨x,H1,I1,rx,a,dx,fs,ex,ea,l,q⟩=>?_) ht
 subst ex
 obtain rfl:u=Value.ref a:=rx
 refine qcz I1 ea c hm l (PySem.W.callWith_K (first:=[.ref a]) (h₀:=X.base) I.ok.mod.kin hm.kp (thn (ha pos pins s1 σ H1 _ I1 q) fun us s2 ⟨vs,H2,I2,r,q2⟩=>⟨I2.kIn,?_⟩) hst hpl)
 exact run_fnX (us:=.ref a :: us) (vs:=.ref a :: vs) F hr hb hd hx hex I2 (.cons rfl r) q2
def tMakeX (C:Addr) (sp:Sp) (dvs:List V) (W:L2.St→XK) (t:TA):TE:=fun σ H Q=>t σ H fun vs H1=>∀x dx,H1 x=none→H1 dx=none→dx≠x→sp (.ref x ::(vs++dvs)) (upd (upd H1 dx (.own x)) x (.ins C dx [])) (fun v H2=>v=.non∧Q (.ref x) H2) (W σ)
theorem run_makeX {pins:List (Addr × Obj)} {σ:L2.St} {H:Hp} {s:Shared} {Q:VK} {us:List Value} {vs:List V} (M:Mk X.K C f) (F:FnOk X.prog X.w X.K X.mg X.base (CX1 X.prog X.w) k f fd ps sp) (hr:Room (k+1) X.A) (hb:qah X.K fd ps ds) (hd:qb9 dvs ds)
  (hx:Xes X W) (hex:X.ex=[]) (I:Inv X pins σ H s) (r:qb9 vs us)
  (h:∀x dx,H x=none→H dx=none→dx≠x→sp (.ref x ::(vs++dvs)) (upd (upd H dx (.own x)) x (.ins C dx [])) (fun v H2=>v=.non∧Q (.ref x) H2) (W σ)):
  wpAny (model X.prog X.w) X.A (call (.ref C) us) (EP X pins σ Q) X.xe s:=by
 have hq:=h (s.heap.objs.size+1) s.heap.objs.size (I.hok.fresh (Nat.le_succ _)) (I.hok.fresh (Nat.le_refl _)) (Nat.ne_of_lt (Nat.lt_succ_self _))
 have I2:=Inv.made (C:=C) I
 have r2:qb9 (V.ref (s.heap.objs.size+1) ::(vs++dvs)) (Value.ref (s.heap.objs.size+1) ::(us++ds)):=.cons rfl (r.append hd)
 have hl:(Value.ref (s.heap.objs.size+1) :: us++ds).length=ps.length:=by
  have e:=r2.length
  rw [F.len _ _ _ _ hq] at e
  exact e.symm
 refine wpAny_call (make_map (f:=f) I.kIn M.makes M.init (beq_iff_eq.mp M.fn) (codeAny_mono (F.run _ X.stack _ _ ⟨Value.ref (s.heap.objs.size+1) :: us, []⟩ (Value.ref (s.heap.objs.size+1) ::(us++ds)) _ _ (W σ) (hr.make C us [])
  (I2.env0.make C us []) (hb _ (Value.ref (s.heap.objs.size+1) :: us) I2.kIn hl) r2 hq) fun r s' hq'=>?_))
 cases r with
 |error e=>exact xes_call hx hex I2 hq'
 |ok fl=>
  cases fl with
  |ret u=>
   obtain⟨v,H',I3,rv,ev,q3⟩:=I2.after hq'
   subst ev
   exact⟨rv,⟨V.ref (s.heap.objs.size+1),H',I3,rfl,q3⟩⟩
  |next=>exact False.elim hq'
  |brk=>exact False.elim hq'
  |cont=>exact False.elim hq'
theorem pe_makeX (M:Mk X.K C f) (F:FnOk X.prog X.w X.K X.mg X.base (CX1 X.prog X.w) k f fd ps sp) (hr:Room (k+1) X.A) (hg:Gl X x) (hm:X.mg x=some (.ref C)) (hb:qah X.K fd ps ds) (hd:qb9 dvs ds) (hx:Xes X W)
  (ha:PA X (e :: es) t) (hex:X.ex=[]:=by rfl) (hdb:(x==("__debug__" :Str))=false:=by decide) (he:starEach (e :: es) X.env=(false,eval e X.env) :: starEach es X.env:=by rfl) (hpl:(backTo pos (starEach es X.env)).any (·.1)=false:=by rfl):
  PE X (.Call (.Name x p) (e :: es) [] pos) (tMakeX C sp dvs W t):=by
 intro pins s σ H Q I h
 refine wpAny_Call_Name_kw (qd7 I hg hm ?_ hdb)
 refine PySem.W.callWith_K (h₀:=X.base) I.ok.mod.kin M.kp (thn (ha pos pins s σ H _ I h) fun us s1 ⟨vs,H1,I1,r,q⟩=>⟨I1.kIn,?_⟩) he hpl
 exact run_makeX M F hr hb hd hx hex I1 r q
end
structure FunD (K:Frag) (x qual:Str) (st:Stmt) (f:Addr) (fd:FuncData) (T:Addr) (items:Array Value):Prop where
 ex:∃(oc:Value) (od:Option Addr) (kV doc pm:Value) (an:Option Addr) (cdv ct:Value) (osl:Array (Option Value)),
  fd=fnOf x qual (qbx st) (qbj st) (qa7 st) (.ref T) kV doc pm an cdv ct∧K.lookup f=some ⟨oc,od,.func fd,osl⟩∧codeIn K cdv qual=true
 kp:keepIn K (.ref f)=true
 tup:∃(o:Obj) (n:Nat),K.lookup T=some o∧o.data=.seq items n
section
variable {P : Program} {w : World} {K : Frag} {mg : Str → Option Value} {base : Heap} {x qual : Str} {st : Stmt} {f T : Addr} {fd : FuncData} {N ps : List Str} {k : Nat} {sp : Sp} {items : Array Value}
theorem FunD.ok (F:FunD K x qual st f fd T items) (S:FnScope N ps (qa7 st)) (len:∀vs H Q E,sp vs H Q E→vs.length=ps.length)
  (hbody:∀(cdv:Value) (A:Around) (outer:List Env) (s:Shared) (H:Hp) (vs:List V) (Q:VK) (E:XK),Room k (A.deeper (envOfC qual (qa7 st) s.heap.objs.size f cdv))→sp vs H Q E→
   ∃t,PSs (cxOf CX0 P w K mg base N qual (qa7 st) f cdv A outer s H E).nox (qbj st) t∧t {nx:=fun _ H'=>Q .non H',rt:=Q} (start N vs) H):FnOk P w K mg base CX0 (k+1) f fd ps sp:=by
 obtain⟨oc,od,kV,doc,pm,an,cdv,ct,osl,rfl,lk,hcd⟩:=F.ex
 refine fn_of lk hcd S len fun A outer s H vs Q E hr hsp=>?_
 obtain⟨t,h,q⟩:=hbody cdv A outer s H vs Q E hr hsp
 exact⟨t,h.nox,q⟩
theorem FunD.binds (F:FunD K x qual st f fd T items) {ds:List Value} (h:∀(kV doc pm:Value) (an:Option Addr) (cdv ct:Value) (us:List Value),(us++ds).length=ps.length→
   bindArgs (fnOf x qual (qbx st) (qbj st) (qa7 st) (.ref T) kV doc pm an cdv ct) ⟨us, []⟩=pure (ps.zip (us++ds))∨
   ∃g:Option (Array Value)→Sem (List (Str × Value)),bindArgs (fnOf x qual (qbx st) (qbj st) (qa7 st) (.ref T) kV doc pm an cdv ct) ⟨us, []⟩=seqItems? (.ref T) >>= g∧g (some items)=pure (ps.zip (us++ds))):qah K fd ps ds:=by
 obtain⟨oc,od,kV,doc,pm,an,cdv,ct,osl,rfl,lk,hcd⟩:=F.ex
 obtain⟨o,n,hT,hd⟩:=F.tup
 intro s us KX hl
 rcases h kV doc pm an cdv ct us hl with h|⟨g,h1,h2⟩
 ·exact .of_eq h
 ·exact BindsTo.of_defaults (T:=T) rfl (KX _ _ hT) hd h1 h2
end
section
variable {K : Frag} {σ : L2.St} {H : Hp} {Q : VK} {ta : TE} {t : TA} {a C dx : Addr} {fs : List (Str × V)} {m : Str} {sp : Sp} {dvs : List V} {W : L2.St → XK}
def kMtX (C:Addr) (m:Str) (sp:Sp) (dvs:List V) (W:L2.St→XK) (t:TA) (σ:L2.St) (Q:VK) (x:V) (H:Hp):Prop:=∃a dx fs,x=.ref a∧H a=some (.ins C dx fs)∧fs.lookup m=none∧t σ H fun vs H2=>sp (x ::(vs++dvs)) H2 Q (W σ)
theorem r_mtX (h:ta σ H fun x H1=>kMtX C m sp dvs W t σ Q x H1):tMethX C m sp dvs W ta t σ H Q:=h
theorem r_mtkX (e:H a=some (.ins C dx fs)) (l:fs.lookup m=none) (h:t σ H fun vs H2=>sp (.ref a ::(vs++dvs)) H2 Q (W σ)):kMtX C m sp dvs W t σ Q (.ref a) H:=⟨a,dx,fs,rfl,e,l,h⟩
def kMkX (C:Addr) (sp:Sp) (dvs:List V) (W:L2.St→XK) (σ:L2.St) (Q:VK) (vs:List V) (H:Hp):Prop:=∀x dx,H x=none→H dx=none→dx≠x→sp (.ref x ::(vs++dvs)) (upd (upd H dx (.own x)) x (.ins C dx [])) (fun v H2=>v=.non∧Q (.ref x) H2) (W σ)
theorem r_mkX (h:t σ H fun vs H1=>kMkX C sp dvs W σ Q vs H1):tMakeX C sp dvs W t σ H Q:=h
end
section
variable {prog : Program} {w : World} {A : Around} {E : Value → Shared → Prop} {s : Shared} {it l : Addr} {its : Array Value}
end
section
variable {X : Cx}
end
section
variable {K : Frag} {σ : L2.St} {H : Hp} {Q : VK} {ta : TA} {p : Addr} {ys : List V}
end
section
variable {prog : Program} {w : World} {A : Around} {E : Value → Shared → Prop}
end
section
variable {X : Cx} {pos : Pos}
end
def kDs (p:Addr) (Q:VK) (x y:V) (H2:Hp):Prop:=H2 p=some (.dK [])∧∃kvs:List (Key × V), [(x,y)]=kvs.map (fun kv=>(kV kv.1,kv.2))∧kvs.length≤15∧Q (.ref p) (upd H2 p (.dK (qey [] kvs)))
theorem r_disp1 {σ:L2.St} {H:Hp} {Q:VK} {tk tv:TE} (h:∀p,H p=none→tk σ (upd H p (.dK [])) fun x H1=>tv σ H1 fun y H2=>kDs p Q x y H2):tDisp [(tk,tv)] σ H Q:=fun p hp=>h p hp
theorem r_ds {H:Hp} {Q:VK} {p:Addr} {z:Str} {y:V} (e:H p=some (.dK [])) (h:Q (.ref p) (upd H p (.dK [(Sum.inr z,y)]))):kDs p Q (.str z) y H:=⟨e, [(Sum.inr z,y)],rfl,Nat.le_of_ble_eq_true rfl,h⟩
section
variable {P : Program} {w : World} {K : Frag} {mg : Str → Option Value} {base : Heap} {x qual : Str} {st : Stmt} {f T : Addr} {fd : FuncData} {N ps : List Str} {k : Nat} {sp : Sp} {items : Array Value}
theorem okDX (F:FunD K x qual st f fd T items) (S:FnScope N ps (qa7 st)) (len:∀vs H Q E,sp vs H Q E→vs.length=ps.length)
  (hbody:∀(cdv:Value) (A:Around) (outer:List Env) (s:Shared) (H:Hp) (vs:List V) (Q:VK) (E:XK),Room k (A.deeper (envOfC qual (qa7 st) s.heap.objs.size f cdv))→sp vs H Q E→
   ∃t,PSs (xw (cxOf (CX1 P w) P w K mg base N qual (qa7 st) f cdv A outer s H E) (fun _=>E)) (qbj st) t∧t {nx:=fun _ H'=>Q .non H',rt:=Q} (start N vs) H):FnOk P w K mg base (CX1 P w) (k+1) f fd ps sp:=by
 obtain⟨oc,od,kV,doc,pm,an,cdv,ct,osl,rfl,lk,hcd⟩:=F.ex
 refine fn_of lk hcd S len fun A outer s H vs Q E hr hsp=>?_
 obtain⟨t,ht,q⟩:=hbody cdv A outer s H vs Q E hr hsp
 exact⟨t,PSs.xes xes_fn ht,q⟩
theorem funD_mk {oc:Value} {od an:Option Addr} {osl:Array (Option Value)} {kV doc pm cdv ct:Value} {o:Obj} {n:Nat} (l:K.lookup f=some ⟨oc,od,.func (fnOf x qual (qbx st) (qbj st) (qa7 st) (.ref T) kV doc pm an cdv ct),osl⟩)
  (c:codeIn K cdv qual=true) (kp:keepIn K (.ref f)=true) (t:K.lookup T=some o) (hd:o.data=.seq items n):FunD K x qual st f (fnOf x qual (qbx st) (qbj st) (qa7 st) (.ref T) kV doc pm an cdv ct) T items:=
 ⟨⟨oc,od,kV,doc,pm,an,cdv,ct,osl,rfl,l,c⟩,kp,o,n,t,hd⟩
end
def oK (hs:List (Str × Addr)):List (Key × V):=hs.map fun p=>(Sum.inr p.1,.ref p.2)
def qcw:List (Str × Addr)→Str→Option Addr
 | [],_=>none
 |p :: r,z=>if p.1=z then some p.2 else qcw r z
theorem qf9 (z:Str):∀hs:List (Str × Addr),qc7 (oK hs) (Sum.inr z)=(qcw hs z).map V.ref
 | []=>rfl
 |p :: r=>by
  have ih:=qf9 z r
  unfold qc7 oK at ih ⊢
  rw [zQ,yJ]
  by_cases h:p.1=z
  ·have e:decide ((Sum.inr p.1:Key)=Sum.inr z)=true:=by rw [h];exact decide_eq_true rfl
   simp only [e,qcw,if_pos h]
   rfl
  ·have e:decide ((Sum.inr p.1:Key)=Sum.inr z)=false:=decide_eq_false fun q=>h (Sum.inr.inj q)
   simp only [e,qcw,if_neg h]
   exact ih
theorem qez {z:Str}:∀{hs:List (Str × Addr)},qcw hs z=none↔z∉hs.map (·.1)
 | []=>by simp [qcw]
 |p :: r=>by
  have ih:=qez (z:=z) (hs:=r)
  unfold qcw
  by_cases q:p.1=z
  ·rw [if_pos q]
   simp [q]
  ·rw [if_neg q,ih]
   simp [Ne.symm q,fun e:z=p.1=>q e.symm]
theorem lookO_of {z:Str} {h:Addr}:∀{hs:List (Str × Addr)},(hs.map (·.1)).Nodup→(z,h)∈hs→qcw hs z=some h
 |p :: r,nd,m=>by
  rw [zQ,zX] at nd
  unfold qcw
  rcases zK.mp m with e|e
  ·rw [←e,if_pos rfl]
  ·have q:p.1≠z:=fun q=>nd.1 (by rw [q];exact zJ.mpr ⟨(z,h),e,rfl⟩)
   rw [if_neg q]
   exact lookO_of nd.2 e
theorem putK_oK {hs:List (Str × Addr)} {z:Str} {h:Addr} (n:qcw hs z=none):qcu (oK hs) (Sum.inr z) (.ref h)=oK (hs++ [(z,h)]):=by
 have hn:=qez.mp n
 have e:((oK hs).any fun kv=>decide (kv.1=Sum.inr z))=false:=by
  rw [List.any_eq_false]
  intro kv hkv
  obtain⟨p,hp,rfl⟩:=zJ.mp hkv
  intro q
  have q':=Sum.inr.inj (of_decide_eq_true q)
  exact hn (zJ.mpr ⟨p,hp,q'⟩)
 unfold qcu
 rw [if_neg (by rw [e];decide)]
 unfold oK
 rw [zE];rfl
section
variable {K : Frag} {σ : L2.St} {H H' : Hp} {Q : VK} {D : Ends} {a h : Addr} {hs : List (Str × Addr)} {z : Str}
theorem r_diO (d:Rd H a (.dK (oK hs))) (q:Q (.bl (qcw hs z).isSome) H):rDI (.ref a) (.str z) H Q:=by
 refine⟨a,qc7 (oK hs) (Sum.inr z),rfl,.inl ⟨_,Sum.inr z,d,rfl,rfl⟩,?_⟩
 rw [qf9,Option.isSome_map]
 exact q
theorem r_dgO (d:Rd H a (.dK (oK hs))) (e:qcw hs z=some h) (q:Q (.ref h) H):rDGk (.ref a) (.str z) H Q:=
 ⟨a,.ref h,rfl,.inl ⟨_,Sum.inr z,d,rfl,by rw [qf9,e];rfl⟩,q⟩
end
end My
set_option exponentiation.threshold 2000
namespace My
open PySem PySem.Spec PyProof.Rows L2
section
variable {X : Cx}
end
section
variable {σ : L2.St} {H : Hp} {Q : VK} {te : TE} {i : Int}
end
end My
set_option maxHeartbeats 3200000
namespace My
open PySem PySem.Spec PyProof.Rows L2
section
variable {P : Program} {w : World} {A : Around}
theorem sk_is (z:Str) (t:Tok):(strKind P w).is z (.str z t)=true:=by
 show Value.isStrOf z (.str z t)=true
 simp [Value.isStrOf]
theorem take_in {zs:List Str} {i:Nat} {z:Str} (nd:zs.Nodup) (h:zs[i]?=some z):(zs.take i).contains z=false:=by
 rw [←Bool.not_eq_true,List.contains_iff_mem]
 intro m
 obtain⟨j,hj,e⟩:=zM.mp m
 obtain⟨hi,e2⟩:=List.getElem?_eq_some_iff.mp h
 rw [yB] at hj
 rw [List.getElem_take] at e
 exact(zV.mp nd) j i (by omega) hi (by omega) (by rw [e,e2])
theorem take_next {zs:List Str} {i:Nat} {z:Str} (h:zs[i]?=some z) (y:Str):((zs.take i).contains y || decide (y=z))=(zs.take (i+1)).contains y:=by
 rw [zS,h,Bool.eq_iff_iff,Bool.or_eq_true,List.contains_iff_mem,List.contains_iff_mem,zU,decide_eq_true_iff]
 simp
theorem setT_loop {R:Result→Shared→Prop} {it c:Addr} {fp wr:List Addr} {G:Array GenState→Array GenState→Prop} {zs:List Str} {pv:Nat→Value→Prop} {St:Nat→Shared→Prop}
  (W:WalksS P w A.in1 it fp wr G zs.length pv St) (hc:c∉fp) (nd:zs.Nodup) (hv:∀i v,pv i v→∃z t,zs[i]?=some z∧v=.str z t) (hb:zs.length+1 < scanBound):
  ∀(k i:Nat) (s:Shared),zs.length - i=k→i≤zs.length→St i s→s.heap.SetOf (strKind P w) c (fun y=>(zs.take i).contains y) i→
   (∀s',Moved (c :: wr) G s s'→s'.heap.SetOf (strKind P w) c (fun y=>(zs.take zs.length).contains y) zs.length→R (.ok (.ret .none)) s')→
   codeAny (model P w) A (.builtin "set.update.loop" ⟨[.ref c,.ref it], []⟩) R s:=by
 have cw:c∉wr:=fun h=>hc (W.sub _ h)
 have qba:∀{n:Nat} {S:Str→Bool} {s s':Shared},Moved wr G s s'→s.heap.SetOf (strKind P w) c S n→s'.heap.SetOf (strKind P w) c S n:=fun hm hS=>by
  obtain⟨o,es,ep,t,ho,rest⟩:=hS
  exact⟨o,es,ep,t,hm.heap c _ cw ho,rest⟩
 intro k
 induction k with
 |zero=>
  intro i s hk hi st hS hR
  have e:i=zs.length:=by omega
  subst e
  refine codeAny_builtin PyProof.Rows.F.entry_set_update_loop ?_
  rw [Around.under_plainId PyProof.Rows.F.plain_set_update_loop]
  show wpAny _ _ (pyNext (.ref it) >>= _) _ _ _
  refine wpAny_bind (W.done s _ _ st fun s1 hm=>?_)
  exact wpAny_pure (hR s1 (hm.mono fun b h=>zD _ h) (qba hm hS))
 |succ k ih=>
  intro i s hk hi st hS hR
  have lt:i < zs.length:=by omega
  refine codeAny_builtin PyProof.Rows.F.entry_set_update_loop ?_
  rw [Around.under_plainId PyProof.Rows.F.plain_set_update_loop]
  show wpAny _ _ (pyNext (.ref it) >>= _) _ _ _
  refine wpAny_bind (W.item i s _ _ lt st fun v s1 hp st1 hm=>?_)
  obtain⟨z,t,hz,rfl⟩:=hv i v hp
  have S1:=qba hm hS
  show wpAny _ _ (holding [Value.str z t] (setAdd c (.str z t)) >>= _) _ _ _
  refine wpAny_bind (wpAny_holding ?_)
  unfold setAdd
  refine wpAny_holding (wpAny_bind ((strKind P w).pyHash (k:=z) (sk_is z t) ?_))
  refine wpAny_setAddHashed_of (knd:=strKind P w) (s:={s1 with toks:=s1.toks+1}) (sk_is z t) rfl S1 (by omega) fun h2 sb S2=>?_
  have S3:h2.SetOf (strKind P w) c (fun y=>(zs.take (i+1)).contains y) (i+1):=SetOf_congr S2 (take_next hz) (by simp only [take_in nd hz];rfl)
  refine wpAny_pure ⟨plainId_quiet PyProof.Rows.F.plain_set_update_loop _,ih (i+1) _ (by omega) lt (W.frame _ s1 _ _ st1 (Nat.le_succ _) fun b h o e=>?_) S3 fun s4 hm4 S4=>?_⟩
  ·rw [sb.2 b fun q=>hc (q ▸ h)];exact e
  ·refine hR s4 (Moved.trans W.gtrans ((hm.mono fun b h=>zD _ h).then_heap (Nat.le_succ _) fun b o h e=>?_) hm4) S4
   rw [sb.2 b fun q=>h (q ▸ zH)];exact e
abbrev setO (led:Bool):Obj:={cls:=.type "set",dict:=none,data:=.set #[] 0 (.fresh 0 0 led)}
theorem setT_call {E:Value→Shared→Prop} {s:Shared} {l:Addr} {items:Array Value} {zs:List Str} {Q:Value→Shared→Prop} (hh:A.handled=none) (hl:s.heap.IsList l items) (hi:StrsAre items.toList zs) (nd:zs.Nodup) (hb:zs.length+1 < scanBound)
  (h:∀(h':Heap) (tk:Nat),h'.SetOf (strKind P w) s.heap.objs.size (fun y=>(zs.take zs.length).contains y) zs.length→(∀b o,b < s.heap.objs.size→s.heap.get? b=some o→h'.get? b=some o)→Q (.ref s.heap.objs.size) {s with heap:=h',toks:=tk}):
  wpAny (model P w) A (call (.type "set") [.ref l]) Q E s:=by
 obtain⟨c,tl,hmro⟩:=PySem.F.called_set.mro
 have hmade:=PySem.F.called_set.made
 have hsub:=PySem.F.called_set.sub
 refine wpAny_call (codeAny_of_tree ?_)
 show wpAny _ _ (callAny (.type "set") _) _ _ _
 refine wpAny_pure ⟨Code.quiet_builtin _ (by decide+kernel),codeAny_builtin PySem.F.entry_type_call ?_⟩
 rw [Around.under_plain (weight_type_call_type "set" [.ref l] []) rfl]
 have h1:=PySem.F.called_set.notType
 have h2:=PySem.F.called_set.canCreate
 have hct:=PySem.F.typeCall_set_1 (.ref l)
 repeat any_goals first|assumption|wp_step
 refine codeAny_mono (code_set_new_1 (.ref l) (E:=E) (Q₁:=fun x s1=>∃led:Bool,x=.ref s.heap.objs.size∧s1={s with heap:=s.heap.push (setO led)}) fun led=>⟨led,rfl,rfl⟩) fun r s1 hr=>?_
 cases r with
 |error e=>exact hr
 |ok fl=>
  cases fl with
  |ret obj=>
   obtain⟨led,rfl,rfl⟩:=hr
   have hS:(s.heap.push (setO led)).get? s.heap.objs.size=some (setO led):=Heap.get?_push_size _ rfl
   have hT:Shared.TypeIs {s with heap:=s.heap.push (setO led)} (.ref s.heap.objs.size) "set":=⟨_,hS,rfl⟩
   have hli:=PySem.F.called_set.init.lookup
   have hbi:=PySem.F.called_set.init.bind (.ref s.heap.objs.size)
   repeat any_goals first|assumption|wp_step
   refine codeAny_mono (codeAny_call_builtin (R:=wants (fun x s2=>x=.none∧∃h' tk,s2={s with heap:=h',toks:=tk}∧h'.SetOf (strKind P w) s.heap.objs.size (fun y=>(zs.take zs.length).contains y) zs.length∧(∀b o,b < s.heap.objs.size→s.heap.get? b=some o→h'.get? b=some o)) E) PySem.F.called_set.init.plain PySem.F.entry_set_init (check_set_init_1 hT ?_)) fun r2 s2 hr2=>?_
   ·obtain⟨ol,hol,hcl,nl,hdl⟩:=hl
    obtain⟨ocls,odict,odata,oslots⟩:=ol
    dsimp only at hcl hdl
    subst hcl hdl
    have hol':=Heap.get?_push_of_some (setO led) hol
    have q1:=PySem.F.sub_list_set
    have q2:=PySem.F.sub_list_frozenset
    have q3:(Value.type "list" ==Value.type "dict")=false:=by decide
    have hl1:(s.heap.push (setO led)).IsList l items:=⟨_,hol',rfl,nl,rfl⟩
    unfold Builtin.«set.__init__» noKeywords Builtin.Frozenset.updateFrom
    generalize hPI:pyIter=PI
    wp_walk
    subst hPI
    refine wpAny_pyIter_list hl1 (wpAny_bind (wpAny_runValue ?_))
    have lS:l < s.heap.objs.size:=Heap.lt_size hol
    have h3:A.in1.in1.in1.handled=none:=by simp [hh]
    have nI:l≠(s.heap.push (setO led)).objs.size:=by
     rw [Heap.size_push];exact Nat.ne_of_lt (Nat.lt_succ_of_lt lS)
    have nS:s.heap.objs.size∉ [(s.heap.push (setO led)).objs.size,l]:=by
     rw [Heap.size_push]
     intro z
     simp only [zK,yH,or_false] at z
     rcases z with z|z
     ·exact absurd z (Nat.ne_of_lt (Nat.lt_succ_self _))
     ·rw [z] at lS;exact Nat.lt_irrefl _ lS
    have ez:items.size=zs.length:=by
     have:=hi.length
     simpa using this
    have W:WalksS P w A.in1.in1.in1 _ _ _ _ items.size _ _:=(Walks.list h3 _ l nI items).toS
    rw [ez] at W
    refine setT_loop (zs:=zs) W nS nd (fun i v hv=>?_) hb (zs.length - 0) 0 _ (by omega) (Nat.zero_le _) ⟨⟨_,Heap.get?_push_size _ rfl,rfl,rfl⟩,hl1.push _⟩ ?_ ?_
    ·obtain⟨y,t,e1,e2⟩:=hi.item i v (by rw [Array.getElem?_toList];exact hv)
     exact⟨y,t,e2,e1⟩
    ·have hget:=Heap.get?_push_of_some {cls:=.type "list_iterator",data:=.fields #[.ref l,.int 0 0]} hS
     exact SetOf_congr ((setObjOf_fresh (knd:=strKind P w) led).setOf hget (by unfold scanBound;omega)) (fun _=>rfl) rfl
    ·intro s4 hm hS4
     obtain⟨h4,g4,d4,tk4,os4⟩:=s4
     have eg:g4=s.gens:=hm.gens
     have ed:d4=s.drawn:=hm.drawn
     have eo:os4=s.os:=hm.os
     subst eg ed eo
     refine wpAny_pure ?_
     refine wpAny_pure ⟨rfl,h4,tk4,rfl,hS4,fun b o hb' e=>?_⟩
     refine hm.heap b o (fun z=>?_) (Heap.get?_push_of_some _ (Heap.get?_push_of_some _ e))
     rw [Heap.size_push] at z
     simp only [zK,yH,or_false] at z
     rcases z with z|z
     ·rw [z] at hb';exact Nat.lt_irrefl _ hb'
     ·rw [z] at hb';exact Nat.lt_irrefl _ (Nat.lt_trans (Nat.lt_succ_self _) hb')
   ·cases r2 with
    |error e=>exact hr2
    |ok fl2=>
     cases fl2 with
     |ret r=>
      obtain⟨rfl,h',tk,rfl,hS',hk'⟩:=hr2
      repeat any_goals first|assumption|wp_step
      exact h _ _ hS' hk'
     |next=>exact hr2.elim
     |brk=>exact hr2.elim
     |cont=>exact hr2.elim
  |next=>exact hr.elim
  |brk=>exact hr.elim
  |cont=>exact hr.elim
end
def SetT (P:Program) (w:World) (c:Addr) (n:Nat):HO:=.ext fun h=>∃S,h.SetOf (strKind P w) c S n
def rSetT (P:Program) (w:World) (K:Frag):List V→Hp→VK→Prop:=fun xs H Q=>∃(p:Addr) (zs:List Str),xs=[.ref p]∧SqL K H p (zs.map V.str)∧zs.Nodup∧zs.length≤60∧∀c,H c=none→Q (.ref c) (upd H c (SetT P w c zs.length))
def rLenT (P:Program) (w:World):List V→Hp→VK→Prop:=fun xs H Q=>∃c n,xs=[.ref c]∧H c=some (SetT P w c n)∧Q (.int n) H
section
variable {X : Cx}
theorem call_setT (hc:X.calm=true:=by rfl):qby X (.type "set") (rSetT X.prog X.w X.K):=by
 intro pins s σ H xs us Q I hv h
 obtain⟨p,zs,rfl,hS,nd,hz,q⟩:=h
 obtain⟨u,rfl,ru⟩:=hv.one
 cases ru
 obtain⟨its,rv,pl,hz'⟩:=I.list hS
 refine setT_call (I.ok.hd hc) (PlainL.isList pl) (zs:=zs) (by simpa using strs_of rv) nd (by unfold scanBound;omega) fun h' tk hT hk=>?_
 have hg:=hT
 obtain⟨o,es,ep,t,ho,_⟩:=hg
 exact⟨.ref _,_,I.laid (a:=s.heap.objs.size) (o:=SetT X.prog X.w s.heap.objs.size zs.length) (t':=tk) (fun b ob e=>hk b ob (Heap.lt_size e) e) (Nat.le_refl _) ⟨⟨_,hT⟩,⟨o,ho⟩,fun h1 h2 ⟨S,o1,r1,r2,r3,e1,rest⟩ k=>⟨S,o1,r1,r2,r3,k _ e1,rest⟩⟩,rfl,q _ (I.hok.fresh (Nat.le_refl _))⟩
theorem call_lenT:qby X (.builtin "len") (rLenT X.prog X.w):=by
 intro pins s σ H xs us Q I hv h
 obtain⟨c,n,rfl,e,q⟩:=h
 obtain⟨u,rfl,ru⟩:=hv.one
 cases ru
 obtain⟨⟨S,o,es,ep,t,ho,hx,hd,_,_,hb,hf,rfl⟩,_⟩:=I.hok c _ e
 refine call_len_set ho hx hd hf (by unfold scanBound at hb;omega) ⟨.int es.size,H,I.tok _,⟨_,rfl⟩,q⟩
end
section
variable {P : Program} {w : World} {K : Frag} {H : Hp} {Q : VK}
theorem r_setT {p:Addr} {zs:List Str} (hS:SqL K H p (zs.map V.str)) (nd:zs.Nodup) (hz:zs.length≤60) (h:∀c,H c=none→Q (.ref c) (upd H c (SetT P w c zs.length))):rSetT P w K [.ref p] H Q:=⟨p,zs,rfl,hS,nd,hz,h⟩
theorem r_lenT2 {c:Addr} {n:Nat} (e:H c=some (SetT P w c n)) (h:Q (.int n) H):rLenT P w [.ref c] H Q:=⟨c,n,rfl,e,h⟩
end
def rLenD:List V→Hp→VK→Prop:=fun xs H Q=>∃a kvs,xs=[V.ref a]∧H a=some (.dK kvs)∧Q (.int kvs.length) H
theorem call_lenDD {X:Cx}:qby X (.builtin "len") rLenD:=L2.call_lenD
theorem r_lenD {H:Hp} {Q:VK} {a:Addr} {kvs:List (Key × V)} (e:H a=some (.dK kvs)) (h:Q (.int kvs.length) H):rLenD [.ref a] H Q:=⟨a,kvs,rfl,e,h⟩
end My
set_option maxHeartbeats 1000000
namespace My
open PySem PySem.Spec PyProof.Rows L2
section
variable {X : Cx}
end
section
variable {σ : L2.St} {H : Hp} {D : Ends} {g : TG} {tb : TS} {tl : TE} {a : Addr} {o : Obj} {kvs : List (Key × V)} {Q : VK}
end
section
variable {X : Cx}
end
section
variable {X : Cx}
end
section
variable {σ : L2.St} {H : Hp} {tl : TE} {a : Addr} {kvs : List (Key × V)} {Q : VK}
end
end My
namespace My
open PySem PySem.Spec PyProof.Rows L2 PyProof
section
variable {X : Cx}
end
end My
namespace My
open PySem PySem.Spec PyProof.Rows L2
section
variable {X : Cx}
end
section
variable {X : Cx}
inductive OddV (K:Frag) (H:Hp):V→Prop
 |non:OddV K H .non
 |bl (b:Bool):OddV K H (.bl b)
 |int (i:Int):OddV K H (.int i)
 |lst {a:Addr} {xs:List V} (h:SqL K H a xs):OddV K H (.ref a)
 |tup {a:Addr} {xs:List V} (h:SqT K H a xs):OddV K H (.ref a)
 |dct {a:Addr} {kvs:List (Key × V)} (h:H a=some (.dK kvs)):OddV K H (.ref a)
end
section
variable {K : Frag} {H : Hp} {Q : VK}
theorem qfn {y:Str}:∀nm:List Str,inV (.str y) (nm.map V.str)=decide (y∈nm)
 | []=>rfl
 |z :: r=>by
  have ih:=qfn (y:=y) r
  unfold inV at ih ⊢
  rw [zQ,yS,ih]
  by_cases c:z=y
  ·subst c
   rw [show eqV (V.str z) (V.str z)=true from beq_self_eq_true z,decide_eq_true (zH ..)]
   rfl
  ·rw [show eqV (V.str z) (V.str y)=false from beq_false_of_ne c,Bool.false_or]
   by_cases m:y∈r
   ·rw [decide_eq_true m,decide_eq_true (zD _ m)]
   ·rw [decide_eq_false m,decide_eq_false fun h=>(zK.mp h).elim (fun e=>c e.symm) m]
theorem flat_strs (nm:List Str):(nm.map V.str).all qdh=true:=by
 rw [List.all_map]
 exact yF.mpr fun _ _=>rfl
theorem r_inSs {p:Addr} {y:Str} {nm:List Str} (h:SqL K H p (nm.map V.str)) (q:Q (.bl (decide (y∈nm))) H):rIn K false (.str y) (.ref p) H Q:=⟨p,_,rfl,.inl h,rfl,flat_strs nm,by rw [qfn];exact q⟩
end
def ItrS (lo:Int) (n:Nat):It:=⟨fun i _=>i < n,fun i H x H'=>H'=H∧x=.int (lo+i*2),fun i _=>n≤i⟩
theorem turn_rngS {P:Program} {w:World} {K:Frag} {tg:Expr} (it:Addr) (lo:Int) (n:Nat):Turn P w K tg (ItrS lo n) [it] it (fun i h=>IsRangeIter h it (lo+(i:Nat)*2) ((n:Int) - (i:Nat)) 2) where
 mem:=by simp
 obj:=fun i h st b hb=>by
  have e:b=it:=by simpa using hb
  subst e
  exact⟨_,st,fun v z=>by have z':Data.fields _=Data.cell v:=z;cases z'⟩
 keep:=fun i h h' st k=>k it (by simp) _ st
 item:=by
  intro X hP hw hK hc i pins s σ H E I hf st hg
  subst hP hw hK
  obtain⟨f0,f1,f2,f3,f4,f5⟩:=hf it (by simp)
  have W:=Walks.range (prog:=X.prog) (w:=X.w) (I.ok.hd hc) it lo 2 n
  refine W.item i s _ _ hg st fun v h' tk hv st' kk=>?_
  obtain⟨t,rfl⟩:=hv
  have I1:Inv X pins σ H {s with heap:=h',toks:=tk}:=I.turned (fun b o hb e=>kk b o (by simpa using hb) e) f0 f1 f3 f4 f5
  exact⟨_,rfl,go_of (s:={s with heap:=h',toks:=tk}) (n:="range_iterator") st' rfl rfl (by decide) ⟨.int (lo+i*2),H,I1,⟨t,rfl⟩,⟨rfl,rfl⟩,st',fun b hb=>(hf b hb).1⟩⟩
 done:=by
  intro X hP hw hK hc i pins s σ H E I hf st hg
  subst hP hw hK
  obtain⟨f0,f1,f2,f3,f4,f5⟩:=hf it (by simp)
  exact wpAny_pyNext_range_end (I.ok.hd hc) st (by have:n≤i:=hg;omega) fun h' eb=>⟨rfl,I.turned (t':=s.toks) (fun b o hb e=>eb b o hb e) f0 f1 f3 f4 f5⟩
 self:=fun _ _ _ _ _ st h=>wpAny_pyIter_rangeiter st h
def cntS (i j:Int):Nat:=((j - i+1) / 2).toNat
theorem cntS_size {i j:Int}:Builtin.Range.rangeSize i j 2=((cntS i j:Nat):Int):=by
 unfold Builtin.Range.rangeSize cntS
 rw [if_pos (by decide)]
 split <;> omega
def rItS2 (vs:List V) (H:Hp) (R:It→Hp→Prop):Prop:=∃i j:Int,vs=[.int i,.int j,.int 2]∧(-(2^30)≤i∧i < 2^30∧-(2^30)≤j∧j < 2^30)∧R (ItrS i (cntS i j)) H
def iRng3 (ta:TA):TI:=fun σ H R=>ta σ H fun vs H1=>rItS2 vs H1 R
section
variable {X : Cx} {tg : Expr}
theorem pi_range3 {a b c:Expr} {ta:TA} {p pos:Pos} (hg:Gl X "range") (hm:X.mg "range" =none) (ha:PA X [a,b,c] ta) (hs:starEach [a,b,c] X.env=[(false,eval a X.env),(false,eval b X.env),(false,eval c X.env)]:=by rfl) (hs2:starEach [b,c] X.env=[(false,eval b X.env),(false,eval c X.env)]:=by rfl):
  PI X tg (.Call (.Name "range" p) [a,b,c] [] pos) (iRng3 ta):=by
 intro pins s σ H R I h
 refine Call_ (qeh I hg hm boot_range (PyProof.Rows.callWith_type1 (thn (ha pos pins s σ H _ I h) fun us s1 ⟨vs,H1,I1,r1,q1⟩=>?_) (by rw [hs,hs2]) (by rw [hs2];rfl)))
 obtain⟨i,j,e,⟨q1,q2,q3,q4⟩,q⟩:=q1
 subst e
 cases r1 with
 |cons r rr=>
  cases rr with
  |cons r' rr=>
   cases rr with
   |cons r'' rr=>
    cases rr
    obtain⟨t,rfl⟩:=r
    obtain⟨t',rfl⟩:=r'
    obtain⟨t'',rfl⟩:=r''
    refine call_range_3 (by decide) ?_ (Or.inl (PyProof.noPylong_small (by decide)))
    have sm:Builtin.Range.small i j 2=true:=by
     unfold Builtin.Range.small
     rw [cntS_size]
     unfold cntS
     simp only [Builtin.Range.rangeFitsLong,Bool.and_eq_true,Bool.or_eq_true,decide_eq_true_eq,beq_iff_eq,show (2:Int) > 0 by decide,if_true]
     omega
    refine wpAny_pyIter_range (IsRange.new ..) sm ?_
    have I2:Inv X pins σ H1 {s1 with heap:=s1.heap.push {cls:=.type "range",data:=.fields #[.int i t,.int j t',.int 2 t'']},toks:=s1.toks}:=I1.kept fun b o e=>Heap.get?_push_of_some _ e
    refine⟨(s1.heap.push {cls:=.type "range",data:=.fields #[.int i t,.int j t',.int 2 t'']}).objs.size, [(s1.heap.push {cls:=.type "range",data:=.fields #[.int i t,.int j t',.int 2 t'']}).objs.size],_,_,H1,rfl,
     I2.kept (t':=s1.toks) fun b o e=>Heap.get?_push_of_some _ e,turn_rngS _ i (cntS i j),?_,fun b hb=>?_,q⟩
    ·have e1:i+((0:Nat):Int)*2=i:=by simp
     have e2:((cntS i j:Nat):Int) - ((0:Nat):Int)=Builtin.Range.rangeSize i j 2:=by rw [cntS_size];simp
     show IsRangeIter _ _ (i+((0:Nat):Int)*2) (((cntS i j:Nat):Int) - ((0:Nat):Int)) 2
     rw [e1,e2]
     exact Heap.get?_push_size _ rfl
    ·have e:b=(s1.heap.push {cls:=.type "range",data:=.fields #[.int i t,.int j t',.int 2 t'']}).objs.size:=by simpa using hb
     subst e
     exact I2.fpOk (Nat.le_refl _) (I2.hok.fresh (Nat.le_refl _))
end
section
variable {K : Frag} {σ : L2.St} {H : Hp} {D : Ends} {Q : VK} {g : TG} {tb : TS} {ta : TA} {tl : TE}
theorem r_iR3 {R:It→Hp→Prop} (h:ta σ H fun vs H1=>rItS2 vs H1 R):iRng3 ta σ H R:=h
theorem r_itS2 {R:It→Hp→Prop} {i j:Int} (h1: -(2^30)≤i) (h2:i < 2^30) (h3: -(2^30)≤j) (h4:j < 2^30) (h:R (ItrS i (cntS i j)) H):rItS2 [.int i,.int j,.int 2] H R:=⟨i,j,rfl,⟨h1,h2,h3,h4⟩,h⟩
theorem f_rngS {lo:Int} {n:Nat} (Pv:Nat→L2.St→Hp→Prop) (h0:Pv 0 σ H)
  (hs:∀(i:Nat) σ H,i < n→Pv i σ H→g (.int (lo+i*2)) σ H fun σ2 H2=>tb {nx:=Pv (i+1),rt:=D.rt,bk:=D.nx,ct:=Pv (i+1)} σ2 H2) (hd:∀σ H,Pv n σ H→D.nx σ H):FOR (ItrS lo n) g tb D σ H:=by
 refine⟨fun i m σ H=>m=n - i∧i≤n∧Pv i σ H,⟨n,rfl,Nat.zero_le _,h0⟩,?_⟩
 rintro i m σ H ⟨rfl,hi,p⟩
 by_cases hlt:i < n
 ·refine .inr ⟨hlt,Pv (i+1),fun σ' H' p'=>⟨n - (i+1),by omega,rfl,hlt,p'⟩,fun x H' y=>?_⟩
  obtain⟨rfl,rfl⟩:=y
  exact hs i σ _ hlt p
 ·have:i=n:=by omega
  subst this
  exact .inl ⟨Nat.le_refl _,hd σ H p⟩
end
theorem ints_of:∀{ns:List Int} {its:List Value},qb9 (ns.map V.int) its→∃ys:List (Int × Tok),its=ys.map (fun p=>Value.int p.1 p.2)∧ys.map (·.1)=ns
 | [],_,r=>by cases r;exact⟨[],rfl,rfl⟩
 |n :: ns,_,r=>by
  cases r with
  |cons h t=>
   obtain⟨tk,rfl⟩:=h
   obtain⟨ys,e1,e2⟩:=ints_of t
   exact⟨(n,tk) :: ys,by rw [e1];rfl,by rw [zQ,e2]⟩
theorem items_of (ys:List (Int × Tok)):(ys.map (fun p=>Value.int p.1 p.2)).toArray=intItems ys.toArray:=by
 unfold intItems
 simp
def rMaxL (K:Frag):List V→Hp→VK→Prop:=fun xs H Q=>∃(p:Addr) (ns:List Int),xs=[.ref p]∧SqL K H p (ns.map V.int)∧0 < ns.length∧∀m,m∈ns→(∀a∈ns,a≤m)→Q (.int m) H
def rSumL (K:Frag):List V→Hp→VK→Prop:=fun xs H Q=>∃(p:Addr) (ns:List Int),xs=[.ref p]∧SqL K H p (ns.map V.int)∧Q (.int ns.sum) H
section
variable {X : Cx}
theorem qem (hc:X.calm=true):qby X (.builtin "max") (rMaxL X.K):=by
 intro pins s σ H xs us Q I hv h
 obtain⟨p,ns,rfl,hS,hn,q⟩:=h
 obtain⟨u,rfl,ru⟩:=hv.one
 cases ru
 obtain⟨its,rv,pl,hz⟩:=I.list hS
 have hl:=pl.isList
 obtain⟨ys,rfl,rfl⟩:=ints_of rv
 rw [items_of] at hl
 have hsz:0 < ys.toArray.size:=by rw [zB] at hn;simpa using hn
 refine max_intList (I.ok.hd hc) hl hsz fun v h' tk hv hk=>?_
 obtain⟨t,rfl⟩:=intItems_at hv
 obtain⟨h1,h2⟩:=argBest_gt (numAt ys.toArray) (ys.toArray.size - 1)
 refine⟨.int _,H,I.kept (t':=tk) hk,⟨t,rfl⟩,q _ ?_ fun a ha=>?_⟩
 ·rw [numAt_eq]
  have hsy:ys.toArray.size=ys.length:=by simp
  exact getD_mem (show _ <(List.map (fun x:Int × Tok=>x.fst) ys).length by rw [zB];omega)
 ·obtain⟨j,hj,rfl⟩:=mem_getD ha
  rw [zB] at hj
  have z:=h2 j (by have:ys.toArray.size=ys.length:=(by simp);omega)
  rw [numAt_eq ys.toArray j] at z
  exact z
theorem qe8 (ns:List Int):∀k,k≤ns.length→preSum (fun i=>(ns[i]?).getD 0) k=(ns.take k).sum
 |0,_=>by simp [preSum]
 |k+1,h=>by
  have hk:k < ns.length:=by omega
  show preSum _ k+(ns[k]?).getD 0=_
  rw [qe8 ns k (by omega),zS,zA hk,List.sum_append]
  simp
theorem call_sumL (hc:X.calm=true):qby X (.builtin "sum") (rSumL X.K):=by
 intro pins s σ H xs us Q I hv h
 obtain⟨p,ns,rfl,hS,q⟩:=h
 obtain⟨u,rfl,ru⟩:=hv.one
 cases ru
 obtain⟨its,rv,pl,hz⟩:=I.list hS
 have hl:=pl.isList
 have hlt:p < s.heap.objs.size:=by obtain⟨_,e,_⟩:=hl;exact Heap.lt_size e
 have hlen:=rv.length
 rw [zB] at hlen
 refine call_sum_walkG (wpAny_pyIter_list hl ?_)
 refine⟨s.heap.objs.size, [s.heap.objs.size,p], [s.heap.objs.size],its.toArray.size,_,_,fun i=>(ns[i]?).getD 0,rfl,Walks.list (A:=X.A.in1) (I.ok.hd hc) _ p (Nat.ne_of_lt hlt) its.toArray,⟨⟨_,Heap.get?_push_size _ rfl,rfl,rfl⟩,hl.push _⟩,fun b hb=>?_,fun i v hP=>?_,fun h' tk t' hk=>?_⟩
 ·have e:(s.heap.push {cls:=.type "list_iterator",data:=.fields #[.ref p,.int 0 0]}).objs.size=s.heap.objs.size+1:=by simp [Heap.push]
  rcases zK.mp hb with rfl|hb
  ·show _ <(s.heap.push _).objs.size
   rw [e];omega
  ·rw [zI.mp hb]
   show _ <(s.heap.push _).objs.size
   rw [e];exact Nat.lt_succ_of_lt hlt
 ·have hi:its[i]?=some v:=by simpa using hP
  have hb:i < ns.length:=by rw [hlen];exact(List.getElem?_eq_some_iff.mp hi).1
  have hx:(ns.map V.int)[i]?=some (.int ns[i]):=by rw [zC,zA hb];rfl
  obtain⟨u,e,r⟩:=rv.get hx
  rw [hi] at e
  cases e
  obtain⟨t,rfl⟩:=r
  exact⟨t,by show Value.int ns[i] t=Value.int ((ns[i]?).getD 0) t;rw [zA hb];rfl⟩
 ·have e:preSum (fun i=>(ns[i]?).getD 0) its.toArray.size=ns.sum:=by
   rw [yA,←hlen,qe8 ns _ (Nat.le_refl _),zZ]
  rw [e]
  exact⟨.int _,H,I.kept (t':=tk) (fun b o eb=>hk b o (fun hm=>by have z:=Heap.lt_size eb;rw [zI.mp hm] at z;exact Nat.lt_irrefl _ z) (Heap.get?_push_of_some _ eb)),⟨_,rfl⟩,q⟩
end
section
variable {K : Frag} {H : Hp} {Q : VK} {p : Addr} {ns : List Int}
theorem r_maxL (hS:SqL K H p (ns.map V.int)) (hn:0 < ns.length) (h:∀m,m∈ns→(∀a∈ns,a≤m)→Q (.int m) H):rMaxL K [.ref p] H Q:=⟨p,ns,rfl,hS,hn,h⟩
theorem r_sumL (hS:SqL K H p (ns.map V.int)) (h:Q (.int ns.sum) H):rSumL K [.ref p] H Q:=⟨p,ns,rfl,hS,h⟩
end
section
variable {X : Cx} {pins : List (Addr × Obj)} {σ : L2.St} {H : Hp} {s : Shared}
end
section
variable {X : Cx}
end
section
variable {K : Frag} {σ : L2.St} {H : Hp} {Q : VK}
end
def XB (X:Cx) (E:XK) (e:Value) (s':Shared):Prop:=∃(a:Addr) (C:Value) (d:Option Addr) (σ':L2.St) (H':Hp),e=.ref a∧Inv X [] σ' H' s'∧E C d H'∧
 ∃(T:Addr) (fl:Value) (σ1:L2.St) (H1:Hp) (s1:Shared),Inv X [] σ1 H1 s1∧s1.heap.get? a=none∧s1.heap.get? T=none∧H' a=none∧H' T=none∧XTr s'.heap a C d fl T
abbrev xb (X:Cx) (E:XK):Cx:=X.wish (XB X E)
section
variable {X : Cx} {E : XK} {k : Nat} {f : Addr} {fd : FuncData} {ps : List Str} {sp : Sp} {dvs : List V} {ds : List Value} {x : Str} {p pos : Pos} {e : Expr} {es : List Expr} {t : TA}
end
section
variable {X : Cx} {pins : List (Addr × Obj)} {σ : L2.St} {H : Hp} {s : Shared}
end
section
variable {X : Cx}
end
end My
namespace My
open PySem PySem.Spec PyProof.Rows L2 PyProof PySem.Builtin.Str
section
variable {X : Cx}
end
section
variable {K : Frag} {H : Hp} {Q : VK} {z y : Str}
end
end My
namespace My
open PySem PySem.Spec PyProof.Rows L2 PyProof PySem.Builtin.Str PySem.StrLaws
end My
namespace My
open PySem PySem.Spec PyProof.Rows L2 PyProof PySem.Builtin.Str PySem.NumText
end My
namespace My
open PySem PySem.Spec PyProof.Rows L2 PyProof PySem.Builtin.Str
section
variable {X : Cx}
end
section
variable {K : Frag} {H : Hp} {Q : VK}
end
end My
namespace My
open PySem PySem.Spec PyProof.Rows L2 PySem.Builtin
section
variable {prog : Program} {w : World} {A : Around} {E : Value → Shared → Prop} {s : Shared} {it d : Addr} {i ep : Nat} {od : Obj} {es : Array DictEntry}
theorem rawKey (hit:s.heap.IsKeyIter it d i es.size ep) (hod:s.heap.get? d=some od) (hdd:od.data=.dict es ep) {Q:Option Value→Shared→Prop} (hi:i < es.size)
  (hQ:∀h',h'.IsKeyIter it d (i+1) es.size ep→Heap.SameBut it s.heap h'→Q (some es[i].key) {s with heap:=h'}):wpAny (model prog w) A (pyNext (.ref it)) Q E s:=by
 obtain⟨o,ho,hc,hd⟩:=id hit
 have up:(s.heap.update it (Obj.mapFields (·.setIfInBounds 1 (rawInt ((i:Int)+1))))).IsKeyIter it d (i+1) es.size ep:=by
  refine⟨_,Heap.get?_update_self _ ho (Obj.isFreed_of_fields (Obj.data_mapFields hd _)),?_,?_⟩
  ·rw [Obj.cls_mapFields];exact hc
  ·rw [Obj.data_mapFields hd];simp [rawInt]
 have own:Dict_items.ownsTuple "dict_keyiterator" =false:=by decide
 have n1:¬((Value.ref d==Value.none)=true):=Bool.false_ne_true
 unfold pyNext
 refine wpAny_bind (wpAny_attempt (wpAny_callSpecial?_slot (name:=Str.ofString "__next__") hit.typeIs F.slot_dict_keyiterator_next (wpAny_call_entry F.slot_dict_keyiterator_next hit.typeIs F.entry_dict_keyiterator_next ?_ (F.args_dict_keyiterator_next_1 _))))
 refine wpAny_bind (wpAny_pure (wpAny_bind (wpAny_bind (wpAny_bind (wpAny_typeNameOfWhole_keyiter hit.typeIs (wpAny_pure (wpAny_bind (wpAny_fieldsOf ho hd ?_))))))))
 rw [own,if_neg Bool.false_ne_true]
 show wpAny _ _ (ite ((Value.ref d==Value.none)=true) _ _) _ _ s
 rw [if_neg n1]
 refine wpAny_bind (wpAny_pure (wpAny_bind (wpAny_dictEntries hod hdd ?_)))
 rw [if_neg (by simp)]
 refine wpAny_bind (wpAny_pure (wpAny_bind (wpAny_dictEpoch hod hdd ?_)))
 rw [if_neg (by simp)]
 refine wpAny_pure ?_
 have eg:(if (i:Int) < 0 then none else es[(i:Int).toNat]?)=some es[i]:=by rw [if_neg (by omega),Int.toNat_natCast];exact Array.getElem?_eq_getElem hi
 dsimp only
 rw [eg]
 dsimp only
 refine wpAny_bind (wpAny_bind (wpAny_typeNameOfWhole_keyiter hit.typeIs (wpAny_pure ?_)))
 refine wpAny_bind (wpAny_isOneOf_keyiter hit.typeIs ?_)
 rw [own]
 refine wpAny_bind (wpAny_setField ho hd (by simp) ?_)
 refine wpAny_bind (wpAny_holding ?_)
 refine wpAny_bind (wpAny_isOneOf_keyiter (s:={s with heap:=s.heap.update it (Obj.mapFields (·.setIfInBounds 1 (rawInt ((i:Int)+1))))}) up.typeIs ?_)
 exact wpAny_pure (wpAny_pure ⟨_,rfl,wpAny_pure (hQ _ up (Heap.SameBut.update ..))⟩)
theorem rawKeyEnd (hh:A.handled=none) (hit:s.heap.IsKeyIter it d i es.size ep) (hod:s.heap.get? d=some od) (hdd:od.data=.dict es ep) {Q:Option Value→Shared→Prop} (hi:es.size≤i)
  (hQ:∀h',Heap.ExtBut it s.heap h'→Q none {s with heap:=h'}):wpAny (model prog w) A (pyNext (.ref it)) Q E s:=by
 obtain⟨o,ho,hc,hd⟩:=id hit
 have own:Dict_items.ownsTuple "dict_keyiterator" =false:=by decide
 have n1:¬((Value.ref d==Value.none)=true):=Bool.false_ne_true
 unfold pyNext
 refine wpAny_bind (wpAny_attempt (wpAny_callSpecial?_slot (name:=Str.ofString "__next__") hit.typeIs F.slot_dict_keyiterator_next (wpAny_call_entry F.slot_dict_keyiterator_next hit.typeIs F.entry_dict_keyiterator_next ?_ (F.args_dict_keyiterator_next_1 _))))
 refine wpAny_bind (wpAny_pure (wpAny_bind (wpAny_bind (wpAny_bind (wpAny_typeNameOfWhole_keyiter hit.typeIs (wpAny_pure (wpAny_bind (wpAny_fieldsOf ho hd ?_))))))))
 rw [own,if_neg Bool.false_ne_true]
 show wpAny _ _ (ite ((Value.ref d==Value.none)=true) _ _) _ _ s
 rw [if_neg n1]
 refine wpAny_bind (wpAny_pure (wpAny_bind (wpAny_dictEntries hod hdd ?_)))
 rw [if_neg (by simp)]
 refine wpAny_bind (wpAny_pure (wpAny_bind (wpAny_dictEpoch hod hdd ?_)))
 rw [if_neg (by simp)]
 refine wpAny_pure ?_
 have eg:(if (i:Int) < 0 then none else es[(i:Int).toNat]?)=none:=by rw [if_neg (by omega),Int.toNat_natCast];exact Array.getElem?_eq_none hi
 dsimp only
 rw [eg]
 dsimp only
 refine wpAny_bind (wpAny_bind (wpAny_typeNameOfWhole_keyiter hit.typeIs (wpAny_pure ?_)))
 rw [own]
 refine wpAny_bind (wpAny_setField ho hd (by simp) (wpAny_bind ?_))
 unfold newExc newTuple
 refine wpAny_bind (wpAny_newObj_type ?_ (by size_fits))
 refine wpAny_bind (m:=firstArgMember _ _) (wpAny_of_eq (a:=Value.none) (by first|rfl|(simp only [firstArgMember];rfl)) (wpAny_newObj_type ?_ (by size_fits)))
 unfold raiseNew
 refine wpAny_bind (wpAny_handled ?_)
 rw [show A.in1.handled=none from hh]
 refine wpAny_bind (wpAny_pure (wpAny_throw ?_))
 refine wpAny_bind (wpAny_isInstance (T:="StopIteration") (b:=true) ⟨_,Heap.get?_push_size _ rfl,rfl⟩ isSubtype_stop ?_)
 exact wpAny_pure (hQ _ (((Heap.SameBut.update ..).extBut.push _).push _))
theorem rawIter {Q:Value→Shared→Prop} (hd:(d==sysModules)=false) (hod:s.heap.get? d=some od) (hx:od.ExactDict) (hdd:od.data=.dict es ep)
  (hQ:Q (.ref s.heap.objs.size) {s with heap:=s.heap.push {cls:=.type "dict_keyiterator",data:=.fields #[.ref d,.int 0 0,.int es.size 0,.int ep 0]}}):wpAny (model prog w) A (pyIter (.ref d)) Q E s:=by
 have hT:s.TypeIs (.ref d) "dict":=⟨od,hod,hx.1⟩
 refine wpAny_pyIter_slot hT F.slot_dict_iter (wpAny_call_entry F.slot_dict_iter hT F.entry_dict_iter ?_ (F.args_dict_iter_1 _))
 unfold Builtin.«dict.__iter__» Builtin.Dict.dictSlotNone
 refine wpAny_bind (wpAny_bind (wpAny_notOrdered_dict hT (wpAny_pure ?_)))
 unfold Builtin.Dict.showsAll
 dsimp only
 refine wpAny_bind (wpAny_pure (wpAny_bind ?_))
 rw [if_neg (by rw [hd];exact Bool.false_ne_true)]
 refine wpAny_pure (wpAny_bind (wpAny_dictEntries hod hdd (wpAny_bind (wpAny_dictEpoch hod hdd (wpAny_bind (wpAny_newObj_type (wpAny_pure ⟨_,rfl,"dict_keyiterator",_,⟨_,Heap.get?_push_size _ rfl,rfl⟩,F.slot_dict_keyiterator_next.lookup,?_⟩)))))))
 simpa [rawInt] using hQ
end
end My
namespace My
open PySem PySem.Spec PyProof.Rows L2
section
variable {X : Cx} {pins : List (Addr × Obj)} {σ : L2.St} {H : Hp} {s : Shared} {a : Addr} {kvs : List (List Key × V)} {o : Obj}
theorem Inv.freezeT (I:Inv X pins σ H s) (e:H a=some (.dT kvs)) (ho:s.heap.get? a=some o):Inv X pins σ (upd H a (.frz o (.dT kvs))) s:=by
 have ok:=I.hok a _ e
 have z:=I.write (x:=a) (e:=a) (o:=.frz o (.dT kvs)) (h':=s.heap) (t':=s.toks) (by rw [e];exact True.intro) (.inl rfl) (fun _ _ _ q=>q) ⟨o,ho⟩ ⟨ho,ok.stay (fun _ _ _ r=>r) (fun c r=>by
  rw [qa6 (fun w=>by subst w;rw [e] at r;cases r)];exact r) fun c xs r=>by
  rw [qa6 (fun w=>by subst w;rw [e] at r;cases r)];exact r⟩
 exact z
end
theorem entT {P:Program} {w:World} {H:Hp} {h:Heap} {a:Addr} {kvs:List (List Key × V)} (ok:qbd P w H h a (.dT kvs)):∃o es ep,h.get? a=some o∧o.ExactDict∧o.data=.dict es ep∧es.size=kvs.length∧(a==sysModules)=false∧
  ∀(i:Nat) (hi:i < es.size) k v,kvs[i]?=some (k,v)→∃b,es[i].key=.ref b∧H b=some (.tup (k.map kV))∧qb1 v es[i].val:=by
 obtain⟨_,y,xs,r,o,es,ep,h1,h2,h3,h4,_⟩:=ok
 have key:∀{l:List (List Key × V)} {m:List (List Key × Addr × Value)},KT H l m→l.length=m.length∧∀(i:Nat) k v,l[i]?=some (k,v)→∃q,m[i]?=some q∧H q.2.1=some (.tup (k.map kV))∧qb1 v q.2.2:=by
  intro l m q
  induction q with
  |nil=>exact⟨rfl,fun i k v e=>by simp at e⟩
  | @cons p q ps qs hq t ih=>
   refine⟨by rw [zN,zN,ih.1],fun i k v e=>?_⟩
   cases i with
   |zero=>
    simp only [List.getElem?_cons_zero,Option.some.injEq] at e ⊢
    subst e
    exact⟨q,rfl,hq.2.1,hq.2.2⟩
   |succ i=>
    simp only [List.getElem?_cons_succ] at e ⊢
    exact ih.2 i k v e
 obtain⟨kl,kg⟩:=key r
 have hs:es.size=xs.length:=by
  have:=congrArg List.length h4
  rw [zB] at this
  simpa using this
 refine⟨o,es,ep,h1,h2,h3,by omega,y,fun i hi k v e=>?_⟩
 obtain⟨q,hq,hb,hv⟩:=kg i k v e
 have e1:es[i]?=some (entryOfKey (tupleKind (qay P w)) q):=by
  rw [←Array.getElem?_toList,h4,zC,hq];rfl
 have e2:es[i]=entryOfKey (tupleKind (qay P w)) q:=by
  rw [Array.getElem?_eq_getElem hi] at e1
  exact Option.some.inj e1
 rw [e2]
 exact⟨q.2.1,rfl,hb,hv⟩
def ItDT (d:Addr) (o:Obj) (kvs:List (List Key × V)):It:=
 ⟨fun i H=>H d=some (.frz o (.dT kvs))∧i < kvs.length,fun i H x H'=>H'=H∧∃k v b,kvs[i]?=some (k,v)∧x=.ref b∧H b=some (.tup (k.map kV)),fun i H=>H d=some (.frz o (.dT kvs))∧kvs.length≤i⟩
theorem turn_dT {P:Program} {w:World} {K:Frag} {tg:Expr} {o:Obj} {kvs:List (List Key × V)} {es:Array DictEntry} {ep:Nat} (d it:Addr) (hd:o.data=.dict es ep):Turn P w K tg (ItDT d o kvs) [it] it (fun i h=>h.IsKeyIter it d i kvs.length ep) where
 mem:=by simp
 obj:=fun i h st b hb=>by
  have e:b=it:=by simpa using hb
  subst e
  obtain⟨ob,e,c,dd⟩:=st
  exact⟨ob,e,fun v z=>by rw [dd] at z;cases z⟩
 keep:=fun i h h' st k=>st.at fun ob e=>k it (by simp) ob e
 item:=by
  intro X hP hw hK hc i pins s σ H E I hf st hg
  subst hP hw hK
  obtain⟨hfz,hi⟩:=hg
  obtain⟨ho,okd⟩:=I.hok d _ hfz
  obtain⟨o',es',ep',ho',hx,hd',hsz,hsy,get⟩:=entT okd
  rw [ho] at ho'
  cases ho'
  rw [hd] at hd'
  cases hd'
  obtain⟨f0,f1,f2,f3,f4,f5⟩:=hf it (by simp)
  obtain⟨b,hb,hbt,_⟩:=get i (by omega) kvs[i].1 kvs[i].2 (by rw [zA hi])
  rw [←hsz] at st
  refine rawKey st ho hd (by omega) fun h' st' hs'=>?_
  have I1:Inv X pins σ H {s with heap:=h'}:=I.turned (t':=s.toks) (fun b ob hb e=>hs'.extBut b ob hb e) f0 f1 f3 f4 f5
  obtain⟨ob,e,c,dd⟩:=id st'
  rw [hb]
  exact⟨_,rfl,go_of (s:={s with heap:=h'}) e c dd (by decide) ⟨.ref b,H,I1,rfl,⟨rfl,kvs[i].1,kvs[i].2,b,zA hi,rfl,hbt⟩,by rw [←hsz];exact st',fun b hb=>(hf b hb).1⟩⟩
 done:=by
  intro X hP hw hK hc i pins s σ H E I hf st hg
  subst hP hw hK
  obtain⟨hfz,hi⟩:=hg
  obtain⟨ho,okd⟩:=I.hok d _ hfz
  obtain⟨o',es',ep',ho',hx,hd',hsz,hsy,get⟩:=entT okd
  rw [ho] at ho'
  cases ho'
  rw [hd] at hd'
  cases hd'
  obtain⟨f0,f1,f2,f3,f4,f5⟩:=hf it (by simp)
  rw [←hsz] at st
  exact rawKeyEnd (I.ok.hd hc) st ho hd (by omega) fun h' eb=>⟨rfl,I.turned (t':=s.toks) (fun b ob hb e=>eb b ob hb e) f0 f1 f3 f4 f5⟩
 self:=fun _ _ _ _ _ st h=>wpAny_pyIter_keyiter st h
def rItDT (x:V) (H:Hp) (R:It→Hp→Prop):Prop:=∃a kvs,x=.ref a∧H a=some (.dT kvs)∧∀o,R (ItDT a o kvs) (upd H a (.frz o (.dT kvs)))
def iDictT (td:TE):TI:=fun σ H R=>td σ H fun x H1=>rItDT x H1 R
theorem pi_dictT {X:Cx} {tg l:Expr} {tl:TE} (hl:PE X l tl):PI X tg l (iDictT tl):=by
 intro pins s σ H R I h
 refine thn (hl pins s σ H _ I h) fun v s1 ⟨x,H1,I1,r1,q1⟩=>?_
 obtain⟨a,kvs,e,ea,q⟩:=q1
 subst e
 cases r1
 obtain⟨o,es,ep,ho,hx,hd,hsz,hsy,get⟩:=entT (I1.hok a _ ea)
 refine rawIter hsy ho hx hd ?_
 have it0:(s1.heap.push {cls:=.type "dict_keyiterator",data:=.fields #[.ref a,.int 0 0,.int es.size 0,.int ep 0]}).IsKeyIter s1.heap.objs.size a 0 kvs.length ep:=by
  rw [←hsz];exact⟨_,Heap.get?_push_size _ rfl,rfl,rfl⟩
 have I2:=Inv.freezeT I1 ea ho
 refine⟨s1.heap.objs.size, [s1.heap.objs.size],_,_,_,rfl,I2.kept (t':=s1.toks) fun b ob e=>Heap.get?_push_of_some _ e,turn_dT (kvs:=kvs) a _ hd,it0,fun b hb=>?_,q o⟩
 have e:b=s1.heap.objs.size:=by simpa using hb
 subst e
 exact I2.fpOk (Nat.le_refl _) (I2.hok.fresh (Nat.le_refl _))
section
variable {X : Cx}
end
end My
namespace My
open PySem PySem.Spec PyProof.Rows L2 PyProof PySem.SeqAt
section
variable {X : Cx}
end
section
variable {K : Frag} {H : Hp} {Q : VK}
end
end My
namespace My
open PySem PySem.Spec PyProof.Rows L2
section
variable {X : Cx}
end
section
variable {K : Frag} {H : Hp} {Q : VK}
end
section
variable {X : Cx}
end
end My
namespace My
open PySem PySem.Spec PyProof.Rows L2 PyProof PySem.SeqAt
section
variable {X : Cx}
end
section
variable {K : Frag} {H : Hp} {Q : VK}
end
end My
namespace My
open PySem PySem.Spec PyProof.Rows L2
theorem ints_keys {ns:List Int} {us:List Value} (hl:us.length=ns.length) (h:∀(j:Nat) (u:Value),us[j]?=some u→∃x,ns[j]?=some x∧qfl (.inl x) u=true):IntsAre us ns:=by
 induction us generalizing ns with
 |nil=>cases ns with
  |nil=>exact .nil
  |cons _ _=>simp at hl
 |cons u us ih=>cases ns with
  |nil=>simp at hl
  |cons x ns=>
   obtain⟨y,hy,hk⟩:=h 0 u rfl
   simp only [List.getElem?_cons_zero,Option.some.injEq] at hy
   subst hy
   rcases qaw hk with ⟨i,t,e,rfl⟩ |⟨z,t,e,_⟩
   ·cases e
    exact .cons x t (ih (by simpa using hl) fun j v hv=>by have:=h (j+1) v (by simpa using hv);simpa using this)
   ·cases e
theorem qet:∀{vs:List Value} {ns:List Int},IntsAre vs ns→qb9 (ns.map V.int) vs
 |_,_,.nil=> .nil
 |_,_,.cons x t h=> .cons ⟨t,rfl⟩ (qet h)
section
variable {X : Cx}
def rSortI:List V→Hp→VK→Prop:=fun xs H Q=>∃(p:Addr) (kvs:List (Key × V)) (ns:List Int),xs=[.ref p]∧Rd H p (.dK kvs)∧kvs.map (·.1)=ns.map Sum.inl∧ns.length < 64∧∀(l:Addr) (ns':List Int),H l=none→ns'.Perm ns→ns'.Pairwise (·≤·)→Q (.ref l) (upd H l (.lst (ns'.map V.int)))
theorem call_sortI (hc:X.calm=true):qby X (.builtin "sorted") rSortI:=by
 intro pins s σ H xs us Q I hv h
 obtain⟨p,kvs,ns,rfl,hR,hk,hz,q⟩:=h
 obtain⟨u,rfl,ru⟩:=hv.one
 cases ru
 obtain⟨o,es,ep,vs,ho,hd,rel,dat,hs⟩:=dat_of (hR.ok I.hok)
 have hlen:=rel.length
 have hks:=rel.keys
 have hl2:kvs.length=ns.length:=by have:=congrArg List.length hk;simpa using this
 refine Calls.call_function_entry kind_sorted plain_sorted entry_sorted (args_sorted1 _) ?_
 unfold Builtin.«sorted»
 refine wpAny_bind (m:=checkCount "sorted" 1 1 _) (wpAny_pure ?_)
 refine wpAny_bind (PySem.W.kdu_collect (A:=X.A.in1) (PySem.W.kdl_dict (knd:=qay X.prog X.w) (kvs:=vs) (ep:=ep) hs) (I.ok.hd hc) dat (by rw [sizeLine_eq];omega) fun h' tk acc hkeep hacc=>?_)
 have hal:acc.toList.length=vs.length:=by rw [Array.length_toList];exact hacc.1
 refine wpAny_bind (wpAny_newList ?_ (by rw [hal,sizeLine_eq];omega))
 have hS:IntsAre acc.toList ns:=by
  refine ints_keys (by omega) fun j v hv=>?_
  obtain⟨k,x,hx,hkv⟩:=hacc.2 j v (by rw [←Array.getElem?_toList];exact hv)
  have e1:(vs.map (·.1))[j]?=some k:=by rw [zC,hx];rfl
  rw [←hks,hk,zC] at e1
  obtain⟨z,hz1,rfl⟩:=Option.map_eq_some_iff.mp e1
  exact⟨z,hz1,hkv⟩
 have hoL:(h'.push {cls:=.type "list",data:=.seq acc.toList.toArray}).get? h'.objs.size=some (seqObj "list" acc.toList.toArray 0):=Heap.get?_push_size _ rfl
 refine wpAny_bind (wpAny_holding (wpAny_call_entry slot_list_sort ⟨_,hoL,rfl⟩ entry_list_sort (list_sort_tree hoL hS (by omega) fun out ns' b1 b2 b3=>⟨_,rfl,?_⟩) (args_list_sort _)))
 obtain⟨e,he⟩:=sortedHeap_at (out:=out) hoL
 have hl3:=b2.length_eq
 have hg:s.heap.get? h'.objs.size=none:=by
  cases q:s.heap.get? h'.objs.size with
  |none=>rfl
  |some ob=>exact absurd (Heap.lt_size (hkeep _ _ q)) (Nat.lt_irrefl _)
 obtain⟨hn,I2⟩:=Inv.laidN I (h':=sortedHeap (h'.push {cls:=.type "list",data:=.seq acc.toList.toArray}) h'.objs.size acc.toList out) (a:=h'.objs.size) (o:=.lst (ns'.map V.int)) (t':=tk) (fun b ob hb=>by
  have hb':=hkeep b ob hb
  rw [sortedHeap_old (Nat.ne_of_lt (Heap.lt_size hb')) (by rw [size_push'];exact Nat.lt_succ_of_lt (Heap.lt_size hb'))]
  exact Heap.get?_push_of_some _ hb') hg ⟨by rw [zB,sizeLine_eq];omega,out.toList,e,qet b1,by rw [Array.toArray_toList];exact he⟩
 exact wpAny_pure ⟨_,rfl,.ref _,_,I2,rfl,q _ ns' hn b2 b3⟩
end
section
variable {K : Frag} {H : Hp} {Q : VK} {D : Ends} {σ : L2.St} {p a dx C : Addr} {kvs : List (Key × V)} {ns : List Int} {n : Int} {v y : V} {f : Str} {fs : List (Str × V)} {ta tv : TE}
theorem r_sortI (e:Rd H p (.dK kvs)) (hk:kvs.map (·.1)=ns.map Sum.inl) (hz:ns.length < 64) (h:∀(l:Addr) (ns':List Int),H l=none→ns'.Perm ns→ns'.Pairwise (·≤·)→Q (.ref l) (upd H l (.lst (ns'.map V.int)))):rSortI [.ref p] H Q:=⟨p,kvs,ns,rfl,e,hk,hz,h⟩
theorem r_dpI (e:H a=some (.dK kvs)) (hz:kvs.length < sizeLine) (h:D.nx σ (upd H a (.dK (qcu kvs (Sum.inl n) v)))):rDP (.ref a) (.int n) v H D σ:=⟨a,_,rfl,DPut.k (k:=Sum.inl n) e hz,h⟩
theorem r_dgI (d:Rd H a (.dK kvs)) (e:qc7 kvs (Sum.inl n)=some v) (h:Q v H):rDGk (.ref a) (.int n) H Q:=⟨a,v,rfl,.inl ⟨kvs,Sum.inl n,d,rfl,e.symm⟩,h⟩
theorem r_fa (h:ta σ H fun x H1=>∃a C dx fs v,x=.ref a∧H1 a=some (.ins C dx fs)∧Cls K C∧qaj K C f∧fs.lookup f=some v∧
 tv σ H1 fun y H2=>rAdd v y H2 fun z H3=>∃dx' fs',H3 a=some (.ins C dx' fs')∧fs'.length < 1000∧D.nx σ (upd H3 a (.ins C dx' (qdr f z fs')))):sFldAug K ta tv rAdd f D σ H:=h
theorem r_addI {i j:Int} (h:Q (.int (i+j)) H):rAdd (.int i) (.int j) H Q:=⟨i,j,rfl,rfl,h⟩
end
end My
set_option maxHeartbeats 4000000
set_option exponentiation.threshold 1000
namespace Our
open PySem L2 My
def top (i:Nat):PySem.Stmt:=PySem.Challenge.pw_quotatree_k39_whole_never_refused.main.body.getD i (.Pass ⟨0,0,0,0⟩)
def qbm:PySem.Stmt→Nat→PySem.Stmt
 | .ClassDef _ _ _ body _ _ _ _ _ _ _,j=>body.getD j (.Pass ⟨0,0,0,0⟩)
 |s,_=>s
abbrev s_is_whole:PySem.Stmt:=top 16
abbrev s_is_name:PySem.Stmt:=top 17
abbrev s_is_whole_from:PySem.Stmt:=top 18
abbrev s_is_amount:PySem.Stmt:=top 20
abbrev s_amounts_of:PySem.Stmt:=top 21
abbrev s_above_nought:PySem.Stmt:=top 22
abbrev s_amount_of:PySem.Stmt:=top 23
abbrev s_added:PySem.Stmt:=top 24
abbrev s_beyond:PySem.Stmt:=top 25
abbrev s_total_of:PySem.Stmt:=top 26
abbrev s_made:PySem.Stmt:=top 30
abbrev s_holds_beneath:PySem.Stmt:=top 31
abbrev s_held_by:PySem.Stmt:=top 32
abbrev s_taking:PySem.Stmt:=top 34
abbrev s_used:PySem.Stmt:=top 35
abbrev s_fixed:PySem.Stmt:=top 36
abbrev s_rooms_left:PySem.Stmt:=top 37
abbrev s_first_lack:PySem.Stmt:=top 38
abbrev s_reason:PySem.Stmt:=top 39
abbrev s_are_wares:PySem.Stmt:=top 48
abbrev s_check_name:PySem.Stmt:=top 49
abbrev s_read_house:PySem.Stmt:=top 50
abbrev s_check_promises:PySem.Stmt:=top 51
abbrev s_cell:PySem.Stmt:=top 54
abbrev s_mix:PySem.Stmt:=top 55
abbrev s_names:PySem.Stmt:=top 57
abbrev s_elders:PySem.Stmt:=top 58
abbrev s_line:PySem.Stmt:=top 59
abbrev s_told:PySem.Stmt:=top 60
abbrev s_parts:PySem.Stmt:=top 61
abbrev s_promises:PySem.Stmt:=top 62
abbrev s_limits:PySem.Stmt:=top 63
abbrev s_tree:PySem.Stmt:=top 64
abbrev s_within:PySem.Stmt:=top 65
abbrev s_granted:PySem.Stmt:=top 66
abbrev s_deed:PySem.Stmt:=top 67
abbrev s_law:PySem.Stmt:=top 68
abbrev s_House_init:PySem.Stmt:=qbm (top 47) 0
abbrev s_Tree_init:PySem.Stmt:=qbm (top 52) 0
abbrev s_Tree_found:PySem.Stmt:=qbm (top 52) 1
abbrev s_Tree_wares:PySem.Stmt:=qbm (top 52) 2
abbrev s_Tree_names:PySem.Stmt:=qbm (top 52) 3
abbrev s_Tree_has:PySem.Stmt:=qbm (top 52) 4
abbrev s_Tree_check_house:PySem.Stmt:=qbm (top 52) 5
abbrev s_Tree_house_of:PySem.Stmt:=qbm (top 52) 6
abbrev s_Tree_elder_of:PySem.Stmt:=qbm (top 52) 7
abbrev s_Tree_promise_of:PySem.Stmt:=qbm (top 52) 8
abbrev s_Tree_cap_of:PySem.Stmt:=qbm (top 52) 9
abbrev s_Tree_kids:PySem.Stmt:=qbm (top 52) 11
abbrev s_Tree_line:PySem.Stmt:=qbm (top 52) 12
abbrev s_Tree_beneath:PySem.Stmt:=qbm (top 52) 13
abbrev s_Tree_promised_beneath:PySem.Stmt:=qbm (top 52) 14
abbrev s_Tree_check_more:PySem.Stmt:=qbm (top 52) 16
abbrev s_Hold_init:PySem.Stmt:=qbm (top 28) 0
abbrev s_Hold_is_sure:PySem.Stmt:=qbm (top 28) 1
abbrev s_Hold_may_end:PySem.Stmt:=qbm (top 28) 2
abbrev s_Loan_is_sure:PySem.Stmt:=qbm (top 29) 0
abbrev s_Loan_may_end:PySem.Stmt:=qbm (top 29) 1
abbrev s_Store_init:PySem.Stmt:=qbm (top 41) 0
abbrev s_Store_put:PySem.Stmt:=qbm (top 41) 1
abbrev s_Store_keeps:PySem.Stmt:=qbm (top 41) 2
abbrev s_Store_numbers:PySem.Stmt:=qbm (top 41) 5
abbrev s_Store_under:PySem.Stmt:=qbm (top 41) 6
abbrev s_Store_at_house:PySem.Stmt:=qbm (top 41) 7
abbrev s_Store_promised_but:PySem.Stmt:=qbm (top 41) 10
abbrev s_Store_too_much:PySem.Stmt:=qbm (top 41) 12
abbrev s_Store_check_fits:PySem.Stmt:=qbm (top 41) 14
abbrev s_i_NoPromise:PySem.Stmt:=qbm (top 12) 0
set_option genSizeOf false in
set_option genInjectivity false in
structure Ad where
 f_is_whole:Addr
 fd_is_whole:FuncData
 f_is_name:Addr
 fd_is_name:FuncData
 f_is_whole_from:Addr
 fd_is_whole_from:FuncData
 f_is_amount:Addr
 fd_is_amount:FuncData
 f_amounts_of:Addr
 fd_amounts_of:FuncData
 f_above_nought:Addr
 fd_above_nought:FuncData
 f_amount_of:Addr
 fd_amount_of:FuncData
 f_added:Addr
 fd_added:FuncData
 f_beyond:Addr
 fd_beyond:FuncData
 f_total_of:Addr
 fd_total_of:FuncData
 f_made:Addr
 fd_made:FuncData
 f_holds_beneath:Addr
 fd_holds_beneath:FuncData
 f_held_by:Addr
 fd_held_by:FuncData
 f_taking:Addr
 fd_taking:FuncData
 f_used:Addr
 fd_used:FuncData
 f_fixed:Addr
 fd_fixed:FuncData
 f_rooms_left:Addr
 fd_rooms_left:FuncData
 f_first_lack:Addr
 fd_first_lack:FuncData
 f_reason:Addr
 fd_reason:FuncData
 f_are_wares:Addr
 fd_are_wares:FuncData
 f_check_name:Addr
 fd_check_name:FuncData
 f_read_house:Addr
 fd_read_house:FuncData
 f_check_promises:Addr
 fd_check_promises:FuncData
 f_cell:Addr
 fd_cell:FuncData
 f_mix:Addr
 fd_mix:FuncData
 f_names:Addr
 fd_names:FuncData
 f_elders:Addr
 fd_elders:FuncData
 f_line:Addr
 fd_line:FuncData
 f_told:Addr
 fd_told:FuncData
 f_parts:Addr
 fd_parts:FuncData
 f_promises:Addr
 fd_promises:FuncData
 f_limits:Addr
 fd_limits:FuncData
 f_tree:Addr
 fd_tree:FuncData
 f_within:Addr
 fd_within:FuncData
 f_granted:Addr
 fd_granted:FuncData
 f_deed:Addr
 fd_deed:FuncData
 f_law:Addr
 fd_law:FuncData
 f_House_init:Addr
 fd_House_init:FuncData
 f_Tree_init:Addr
 fd_Tree_init:FuncData
 t_Tree_init:Addr
 v0_Tree_init:Value
 f_Tree_found:Addr
 fd_Tree_found:FuncData
 t_Tree_found:Addr
 v0_Tree_found:Value
 f_Tree_wares:Addr
 fd_Tree_wares:FuncData
 f_Tree_names:Addr
 fd_Tree_names:FuncData
 f_Tree_has:Addr
 fd_Tree_has:FuncData
 f_Tree_check_house:Addr
 fd_Tree_check_house:FuncData
 f_Tree_house_of:Addr
 fd_Tree_house_of:FuncData
 f_Tree_elder_of:Addr
 fd_Tree_elder_of:FuncData
 f_Tree_promise_of:Addr
 fd_Tree_promise_of:FuncData
 f_Tree_cap_of:Addr
 fd_Tree_cap_of:FuncData
 f_Tree_kids:Addr
 fd_Tree_kids:FuncData
 f_Tree_line:Addr
 fd_Tree_line:FuncData
 f_Tree_beneath:Addr
 fd_Tree_beneath:FuncData
 f_Tree_promised_beneath:Addr
 fd_Tree_promised_beneath:FuncData
 f_Tree_check_more:Addr
 fd_Tree_check_more:FuncData
 f_Hold_init:Addr
 fd_Hold_init:FuncData
 f_Hold_is_sure:Addr
 fd_Hold_is_sure:FuncData
 f_Hold_may_end:Addr
 fd_Hold_may_end:FuncData
 f_Loan_is_sure:Addr
 fd_Loan_is_sure:FuncData
 f_Loan_may_end:Addr
 fd_Loan_may_end:FuncData
 f_Store_init:Addr
 fd_Store_init:FuncData
 f_Store_put:Addr
 fd_Store_put:FuncData
 f_Store_keeps:Addr
 fd_Store_keeps:FuncData
 f_Store_numbers:Addr
 fd_Store_numbers:FuncData
 f_Store_under:Addr
 fd_Store_under:FuncData
 t_Store_under:Addr
 v0_Store_under:Value
 f_Store_at_house:Addr
 fd_Store_at_house:FuncData
 f_Store_promised_but:Addr
 fd_Store_promised_but:FuncData
 f_Store_too_much:Addr
 fd_Store_too_much:FuncData
 f_Store_check_fits:Addr
 fd_Store_check_fits:FuncData
 f_i_NoPromise:Addr
 fd_i_NoPromise:FuncData
 c_House:Addr
 c_Tree:Addr
 c_Hold:Addr
 c_Loan:Addr
 c_Store:Addr
 c_TreeError:Addr
 c_NoName:Addr
 c_Taken:Addr
 c_NoHouse:Addr
 c_NoPromise:Addr
 c_NoWare:Addr
 c_NoAmount:Addr
 c_NoNumber:Addr
 c_TooMany:Addr
 c_TooDeep:Addr
 u_LETTERS:Value
 u_LONGEST_NAME:Value
 u_MOST_WARES:Value
 u_MOST_HOUSES:Value
 u_LONGEST_LINE:Value
 u_GREATEST_WEIGHT:Value
structure Tx (K:Frag) (mg:Str→Option Value) (d:Ad):Prop where
 F_is_whole:Fun K "is_whole" "is_whole" s_is_whole d.f_is_whole d.fd_is_whole
 m_is_whole:mg "is_whole" =some (.ref d.f_is_whole)
 b_is_whole:qah K d.fd_is_whole ["thing"] []
 F_is_name:Fun K "is_name" "is_name" s_is_name d.f_is_name d.fd_is_name
 m_is_name:mg "is_name" =some (.ref d.f_is_name)
 b_is_name:qah K d.fd_is_name ["thing"] []
 F_is_whole_from:Fun K "is_whole_from" "is_whole_from" s_is_whole_from d.f_is_whole_from d.fd_is_whole_from
 m_is_whole_from:mg "is_whole_from" =some (.ref d.f_is_whole_from)
 b_is_whole_from:qah K d.fd_is_whole_from ["thing","least","most"] []
 F_is_amount:Fun K "is_amount" "is_amount" s_is_amount d.f_is_amount d.fd_is_amount
 m_is_amount:mg "is_amount" =some (.ref d.f_is_amount)
 b_is_amount:qah K d.fd_is_amount ["thing"] []
 F_amounts_of:Fun K "amounts_of" "amounts_of" s_amounts_of d.f_amounts_of d.fd_amounts_of
 m_amounts_of:mg "amounts_of" =some (.ref d.f_amounts_of)
 b_amounts_of:qah K d.fd_amounts_of ["handed","wares"] []
 F_above_nought:Fun K "above_nought" "above_nought" s_above_nought d.f_above_nought d.fd_above_nought
 m_above_nought:mg "above_nought" =some (.ref d.f_above_nought)
 b_above_nought:qah K d.fd_above_nought ["amounts"] []
 F_amount_of:Fun K "amount_of" "amount_of" s_amount_of d.f_amount_of d.fd_amount_of
 m_amount_of:mg "amount_of" =some (.ref d.f_amount_of)
 b_amount_of:qah K d.fd_amount_of ["amounts","ware"] []
 F_added:Fun K "added" "added" s_added d.f_added d.fd_added
 m_added:mg "added" =some (.ref d.f_added)
 b_added:qah K d.fd_added ["one","other"] []
 F_beyond:Fun K "beyond" "beyond" s_beyond d.f_beyond d.fd_beyond
 m_beyond:mg "beyond" =some (.ref d.f_beyond)
 b_beyond:qah K d.fd_beyond ["one","other"] []
 F_total_of:Fun K "total_of" "total_of" s_total_of d.f_total_of d.fd_total_of
 m_total_of:mg "total_of" =some (.ref d.f_total_of)
 b_total_of:qah K d.fd_total_of ["many"] []
 F_made:Fun K "made" "made" s_made d.f_made d.fd_made
 m_made:mg "made" =some (.ref d.f_made)
 b_made:qah K d.fd_made ["number","house","amounts","rank","turns","sure"] []
 F_holds_beneath:Fun K "holds_beneath" "holds_beneath" s_holds_beneath d.f_holds_beneath d.fd_holds_beneath
 m_holds_beneath:mg "holds_beneath" =some (.ref d.f_holds_beneath)
 b_holds_beneath:qah K d.fd_holds_beneath ["tree","holds","house"] []
 F_held_by:Fun K "held_by" "held_by" s_held_by d.f_held_by d.fd_held_by
 m_held_by:mg "held_by" =some (.ref d.f_held_by)
 b_held_by:qah K d.fd_held_by ["holds"] []
 F_taking:Fun K "taking" "taking" s_taking d.f_taking d.fd_taking
 m_taking:mg "taking" =some (.ref d.f_taking)
 b_taking:qah K d.fd_taking ["tree","holds","house","ware"] []
 F_used:Fun K "used" "used" s_used d.f_used d.fd_used
 m_used:mg "used" =some (.ref d.f_used)
 b_used:qah K d.fd_used ["tree","holds","house"] []
 F_fixed:Fun K "fixed" "fixed" s_fixed d.f_fixed d.fd_fixed
 m_fixed:mg "fixed" =some (.ref d.f_fixed)
 b_fixed:qah K d.fd_fixed ["holds","rank","sure"] []
 F_rooms_left:Fun K "rooms_left" "rooms_left" s_rooms_left d.f_rooms_left d.fd_rooms_left
 m_rooms_left:mg "rooms_left" =some (.ref d.f_rooms_left)
 b_rooms_left:qah K d.fd_rooms_left ["tree","holds","line","amounts"] []
 F_first_lack:Fun K "first_lack" "first_lack" s_first_lack d.f_first_lack d.fd_first_lack
 m_first_lack:mg "first_lack" =some (.ref d.f_first_lack)
 b_first_lack:qah K d.fd_first_lack ["tree","holds","line","amounts"] []
 F_reason:Fun K "reason" "reason" s_reason d.f_reason d.fd_reason
 m_reason:mg "reason" =some (.ref d.f_reason)
 b_reason:qah K d.fd_reason ["tree","holds","house","amounts","rank","sure"] []
 F_are_wares:Fun K "are_wares" "are_wares" s_are_wares d.f_are_wares d.fd_are_wares
 m_are_wares:mg "are_wares" =some (.ref d.f_are_wares)
 b_are_wares:qah K d.fd_are_wares ["thing"] []
 F_check_name:Fun K "check_name" "check_name" s_check_name d.f_check_name d.fd_check_name
 m_check_name:mg "check_name" =some (.ref d.f_check_name)
 b_check_name:qah K d.fd_check_name ["thing"] []
 F_read_house:Fun K "read_house" "read_house" s_read_house d.f_read_house d.fd_read_house
 m_read_house:mg "read_house" =some (.ref d.f_read_house)
 b_read_house:qah K d.fd_read_house ["wares","elder","promise","cap","weight"] []
 F_check_promises:Fun K "check_promises" "check_promises" s_check_promises d.f_check_promises d.fd_check_promises
 m_check_promises:mg "check_promises" =some (.ref d.f_check_promises)
 b_check_promises:qah K d.fd_check_promises ["name","promises","cap"] []
 F_cell:Fun K "_law_cell" "_law_cell" s_cell d.f_cell d.fd_cell
 m_cell:mg "_law_cell" =some (.ref d.f_cell)
 b_cell:qah K d.fd_cell ["_law_script","_law_k"] []
 F_mix:Fun K "_law_mix" "_law_mix" s_mix d.f_mix d.fd_mix
 m_mix:mg "_law_mix" =some (.ref d.f_mix)
 b_mix:qah K d.fd_mix ["_law_cell_here","_law_k","_law_many"] []
 F_names:Fun K "_law_names" "_law_names" s_names d.f_names d.fd_names
 m_names:mg "_law_names" =some (.ref d.f_names)
 b_names:qah K d.fd_names ["_law_cell_here","_law_many"] []
 F_elders:Fun K "_law_elders" "_law_elders" s_elders d.f_elders d.fd_elders
 m_elders:mg "_law_elders" =some (.ref d.f_elders)
 b_elders:qah K d.fd_elders ["_law_script","_law_start","_law_many"] []
 F_line:Fun K "_law_line" "_law_line" s_line d.f_line d.fd_line
 m_line:mg "_law_line" =some (.ref d.f_line)
 b_line:qah K d.fd_line ["_law_elders_here","_law_at"] []
 F_told:Fun K "_law_told" "_law_told" s_told d.f_told d.fd_told
 m_told:mg "_law_told" =some (.ref d.f_told)
 b_told:qah K d.fd_told ["_law_wares","_law_parts_here"] []
 F_parts:Fun K "_law_parts" "_law_parts" s_parts d.f_parts d.fd_parts
 m_parts:mg "_law_parts" =some (.ref d.f_parts)
 b_parts:qah K d.fd_parts ["_law_cell_here","_law_kinds","_law_scale"] []
 F_promises:Fun K "_law_promises" "_law_promises" s_promises d.f_promises d.fd_promises
 m_promises:mg "_law_promises" =some (.ref d.f_promises)
 b_promises:qah K d.fd_promises ["_law_script","_law_houses","_law_kinds"] []
 F_limits:Fun K "_law_limits" "_law_limits" s_limits d.f_limits d.fd_limits
 m_limits:mg "_law_limits" =some (.ref d.f_limits)
 b_limits:qah K d.fd_limits ["_law_script","_law_elders_here","_law_promises_here","_law_kinds"] []
 F_tree:Fun K "_law_tree" "_law_tree" s_tree d.f_tree d.fd_tree
 m_tree:mg "_law_tree" =some (.ref d.f_tree)
 b_tree:qah K d.fd_tree ["_law_names_here","_law_wares","_law_elders_here","_law_promises_here","_law_caps"] []
 F_within:Fun K "_law_within" "_law_within" s_within d.f_within d.fd_within
 m_within:mg "_law_within" =some (.ref d.f_within)
 b_within:qah K d.fd_within ["_law_cell_here","_law_left"] []
 F_granted:Fun K "_law_granted" "_law_granted" s_granted d.f_granted d.fd_granted
 m_granted:mg "_law_granted" =some (.ref d.f_granted)
 b_granted:qah K d.fd_granted ["_law_tree_here","_law_store","_law_name","_law_wares","_law_parts_here","_law_rank"] []
 F_deed:Fun K "_law_deed" "_law_deed" s_deed d.f_deed d.fd_deed
 m_deed:mg "_law_deed" =some (.ref d.f_deed)
 b_deed:qah K d.fd_deed ["_law_cell_here","_law_tree_here","_law_store","_law_names_here","_law_wares","_law_left"] []
 F_law:Fun K "law" "law" s_law d.f_law d.fd_law
 m_law:mg "law" =some (.ref d.f_law)
 F_House_init:Fun K "__init__" "House.__init__" s_House_init d.f_House_init d.fd_House_init
 b_House_init:qah K d.fd_House_init ["self","elder","promise","cap","weight"] []
 F_Tree_init:My.FunD K "__init__" "Tree.__init__" s_Tree_init d.f_Tree_init d.fd_Tree_init d.t_Tree_init #[d.v0_Tree_init]
 b_Tree_init:qah K d.fd_Tree_init ["self","wares","name","promise","cap","weight"] []
 b1_Tree_init:qah K d.fd_Tree_init ["self","wares","name","promise","cap","weight"] [d.v0_Tree_init]
 rd_Tree_init:qb9 [.int 1] [d.v0_Tree_init]
 F_Tree_found:My.FunD K "found" "Tree.found" s_Tree_found d.f_Tree_found d.fd_Tree_found d.t_Tree_found #[d.v0_Tree_found]
 b_Tree_found:qah K d.fd_Tree_found ["self","name","elder","promise","cap","weight"] []
 b1_Tree_found:qah K d.fd_Tree_found ["self","name","elder","promise","cap","weight"] [d.v0_Tree_found]
 rd_Tree_found:qb9 [.int 1] [d.v0_Tree_found]
 F_Tree_wares:Fun K "wares" "Tree.wares" s_Tree_wares d.f_Tree_wares d.fd_Tree_wares
 b_Tree_wares:qah K d.fd_Tree_wares ["self"] []
 F_Tree_names:Fun K "names" "Tree.names" s_Tree_names d.f_Tree_names d.fd_Tree_names
 b_Tree_names:qah K d.fd_Tree_names ["self"] []
 F_Tree_has:Fun K "has" "Tree.has" s_Tree_has d.f_Tree_has d.fd_Tree_has
 b_Tree_has:qah K d.fd_Tree_has ["self","thing"] []
 F_Tree_check_house:Fun K "check_house" "Tree.check_house" s_Tree_check_house d.f_Tree_check_house d.fd_Tree_check_house
 b_Tree_check_house:qah K d.fd_Tree_check_house ["self","thing"] []
 F_Tree_house_of:Fun K "house_of" "Tree.house_of" s_Tree_house_of d.f_Tree_house_of d.fd_Tree_house_of
 b_Tree_house_of:qah K d.fd_Tree_house_of ["self","name"] []
 F_Tree_elder_of:Fun K "elder_of" "Tree.elder_of" s_Tree_elder_of d.f_Tree_elder_of d.fd_Tree_elder_of
 b_Tree_elder_of:qah K d.fd_Tree_elder_of ["self","name"] []
 F_Tree_promise_of:Fun K "promise_of" "Tree.promise_of" s_Tree_promise_of d.f_Tree_promise_of d.fd_Tree_promise_of
 b_Tree_promise_of:qah K d.fd_Tree_promise_of ["self","name"] []
 F_Tree_cap_of:Fun K "cap_of" "Tree.cap_of" s_Tree_cap_of d.f_Tree_cap_of d.fd_Tree_cap_of
 b_Tree_cap_of:qah K d.fd_Tree_cap_of ["self","name"] []
 F_Tree_kids:Fun K "kids" "Tree.kids" s_Tree_kids d.f_Tree_kids d.fd_Tree_kids
 b_Tree_kids:qah K d.fd_Tree_kids ["self","name"] []
 F_Tree_line:Fun K "line" "Tree.line" s_Tree_line d.f_Tree_line d.fd_Tree_line
 b_Tree_line:qah K d.fd_Tree_line ["self","name"] []
 F_Tree_beneath:Fun K "beneath" "Tree.beneath" s_Tree_beneath d.f_Tree_beneath d.fd_Tree_beneath
 b_Tree_beneath:qah K d.fd_Tree_beneath ["self","name"] []
 F_Tree_promised_beneath:Fun K "promised_beneath" "Tree.promised_beneath" s_Tree_promised_beneath d.f_Tree_promised_beneath d.fd_Tree_promised_beneath
 b_Tree_promised_beneath:qah K d.fd_Tree_promised_beneath ["self","name"] []
 F_Tree_check_more:Fun K "check_more" "Tree.check_more" s_Tree_check_more d.f_Tree_check_more d.fd_Tree_check_more
 b_Tree_check_more:qah K d.fd_Tree_check_more ["self","names","more"] []
 F_Hold_init:Fun K "__init__" "Hold.__init__" s_Hold_init d.f_Hold_init d.fd_Hold_init
 b_Hold_init:qah K d.fd_Hold_init ["self","number","house","amounts","rank","turns"] []
 F_Hold_is_sure:Fun K "is_sure" "Hold.is_sure" s_Hold_is_sure d.f_Hold_is_sure d.fd_Hold_is_sure
 b_Hold_is_sure:qah K d.fd_Hold_is_sure ["self"] []
 F_Hold_may_end:Fun K "may_end" "Hold.may_end" s_Hold_may_end d.f_Hold_may_end d.fd_Hold_may_end
 b_Hold_may_end:qah K d.fd_Hold_may_end ["self","rank","sure"] []
 F_Loan_is_sure:Fun K "is_sure" "Loan.is_sure" s_Loan_is_sure d.f_Loan_is_sure d.fd_Loan_is_sure
 b_Loan_is_sure:qah K d.fd_Loan_is_sure ["self"] []
 F_Loan_may_end:Fun K "may_end" "Loan.may_end" s_Loan_may_end d.f_Loan_may_end d.fd_Loan_may_end
 b_Loan_may_end:qah K d.fd_Loan_may_end ["self","rank","sure"] []
 F_Store_init:Fun K "__init__" "Store.__init__" s_Store_init d.f_Store_init d.fd_Store_init
 b_Store_init:qah K d.fd_Store_init ["self","tree"] []
 F_Store_put:Fun K "put" "Store.put" s_Store_put d.f_Store_put d.fd_Store_put
 b_Store_put:qah K d.fd_Store_put ["self","house","amounts","rank","turns","sure"] []
 F_Store_keeps:Fun K "keeps" "Store.keeps" s_Store_keeps d.f_Store_keeps d.fd_Store_keeps
 b_Store_keeps:qah K d.fd_Store_keeps ["self","thing"] []
 F_Store_numbers:Fun K "numbers" "Store.numbers" s_Store_numbers d.f_Store_numbers d.fd_Store_numbers
 b_Store_numbers:qah K d.fd_Store_numbers ["self"] []
 F_Store_under:My.FunD K "under" "Store.under" s_Store_under d.f_Store_under d.fd_Store_under d.t_Store_under #[d.v0_Store_under]
 b_Store_under:qah K d.fd_Store_under ["self","house"] []
 b1_Store_under:qah K d.fd_Store_under ["self","house"] [d.v0_Store_under]
 rd_Store_under:qb9 [.non] [d.v0_Store_under]
 F_Store_at_house:Fun K "at_house" "Store.at_house" s_Store_at_house d.f_Store_at_house d.fd_Store_at_house
 b_Store_at_house:qah K d.fd_Store_at_house ["self","house"] []
 F_Store_promised_but:Fun K "promised_but" "Store.promised_but" s_Store_promised_but d.f_Store_promised_but d.fd_Store_promised_but
 b_Store_promised_but:qah K d.fd_Store_promised_but ["self","house","but"] []
 F_Store_too_much:Fun K "too_much" "Store.too_much" s_Store_too_much d.f_Store_too_much d.fd_Store_too_much
 b_Store_too_much:qah K d.fd_Store_too_much ["self","house","amounts","but"] []
 F_Store_check_fits:Fun K "check_fits" "Store.check_fits" s_Store_check_fits d.f_Store_check_fits d.fd_Store_check_fits
 b_Store_check_fits:qah K d.fd_Store_check_fits ["self","house","amounts","but"] []
 F_i_NoPromise:Fun K "__init__" "NoPromise.__init__" s_i_NoPromise d.f_i_NoPromise d.fd_i_NoPromise
 XI_NoPromise:My.XClI K d.c_NoPromise d.f_i_NoPromise
 b_i_NoPromise:qah K d.fd_i_NoPromise ["self","house","ware"] []
 m_House:mg "House" =some (.ref d.c_House)
 m_Tree:mg "Tree" =some (.ref d.c_Tree)
 m_Hold:mg "Hold" =some (.ref d.c_Hold)
 m_Loan:mg "Loan" =some (.ref d.c_Loan)
 m_Store:mg "Store" =some (.ref d.c_Store)
 m_TreeError:mg "TreeError" =some (.ref d.c_TreeError)
 m_NoName:mg "NoName" =some (.ref d.c_NoName)
 m_Taken:mg "Taken" =some (.ref d.c_Taken)
 m_NoHouse:mg "NoHouse" =some (.ref d.c_NoHouse)
 m_NoPromise:mg "NoPromise" =some (.ref d.c_NoPromise)
 m_NoWare:mg "NoWare" =some (.ref d.c_NoWare)
 m_NoAmount:mg "NoAmount" =some (.ref d.c_NoAmount)
 m_NoNumber:mg "NoNumber" =some (.ref d.c_NoNumber)
 m_TooMany:mg "TooMany" =some (.ref d.c_TooMany)
 m_TooDeep:mg "TooDeep" =some (.ref d.c_TooDeep)
 m_LETTERS:mg "LETTERS" =some d.u_LETTERS
 r_LETTERS:qb1 (.str "abcdefghijklmnopqrstuvwxyz") d.u_LETTERS
 m_LONGEST_NAME:mg "LONGEST_NAME" =some d.u_LONGEST_NAME
 r_LONGEST_NAME:qb1 (.int 8) d.u_LONGEST_NAME
 m_MOST_WARES:mg "MOST_WARES" =some d.u_MOST_WARES
 r_MOST_WARES:qb1 (.int 6) d.u_MOST_WARES
 m_MOST_HOUSES:mg "MOST_HOUSES" =some d.u_MOST_HOUSES
 r_MOST_HOUSES:qb1 (.int 40) d.u_MOST_HOUSES
 m_LONGEST_LINE:mg "LONGEST_LINE" =some d.u_LONGEST_LINE
 r_LONGEST_LINE:qb1 (.int 12) d.u_LONGEST_LINE
 m_GREATEST_WEIGHT:mg "GREATEST_WEIGHT" =some d.u_GREATEST_WEIGHT
 r_GREATEST_WEIGHT:qb1 (.int 1000) d.u_GREATEST_WEIGHT
 z_all:mg "all" =none
 z_bool:mg "bool" =none
 z_dict:mg "dict" =none
 z_int:mg "int" =none
 z_isinstance:mg "isinstance" =none
 z_len:mg "len" =none
 z_list:mg "list" =none
 z_max:mg "max" =none
 z_min:mg "min" =none
 z_range:mg "range" =none
 z_set:mg "set" =none
 z_sorted:mg "sorted" =none
 z_str:mg "str" =none
 z_sum:mg "sum" =none
 z_zip:mg "zip" =none
 ME_Hold_is_sure:Meth K d.c_Hold "is_sure" d.f_Hold_is_sure
 ME_Loan_is_sure:Meth K d.c_Loan "is_sure" d.f_Loan_is_sure
 CL_Store:Cls K d.c_Store
 MK_Store:Mk K d.c_Store d.f_Store_init
 ME_Hold_may_end:Meth K d.c_Hold "may_end" d.f_Hold_may_end
 ME_Loan_may_end:Meth K d.c_Loan "may_end" d.f_Loan_may_end
 CL_House:Cls K d.c_House
 CL_Tree:Cls K d.c_Tree
 MK_House:Mk K d.c_House d.f_House_init
 MK_Tree:Mk K d.c_Tree d.f_Tree_init
 CL_Hold:Cls K d.c_Hold
 CL_Loan:Cls K d.c_Loan
 MK_Hold:Mk K d.c_Hold d.f_Hold_init
 MK_Loan:Mk K d.c_Loan d.f_Hold_init
 ME_Tree_found:Meth K d.c_Tree "found" d.f_Tree_found
 ME_Tree_wares:Meth K d.c_Tree "wares" d.f_Tree_wares
 ME_Tree_names:Meth K d.c_Tree "names" d.f_Tree_names
 ME_Tree_has:Meth K d.c_Tree "has" d.f_Tree_has
 ME_Tree_check_house:Meth K d.c_Tree "check_house" d.f_Tree_check_house
 ME_Tree_house_of:Meth K d.c_Tree "house_of" d.f_Tree_house_of
 ME_Tree_elder_of:Meth K d.c_Tree "elder_of" d.f_Tree_elder_of
 ME_Tree_promise_of:Meth K d.c_Tree "promise_of" d.f_Tree_promise_of
 ME_Tree_cap_of:Meth K d.c_Tree "cap_of" d.f_Tree_cap_of
 ME_Tree_kids:Meth K d.c_Tree "kids" d.f_Tree_kids
 ME_Tree_line:Meth K d.c_Tree "line" d.f_Tree_line
 ME_Tree_beneath:Meth K d.c_Tree "beneath" d.f_Tree_beneath
 ME_Tree_promised_beneath:Meth K d.c_Tree "promised_beneath" d.f_Tree_promised_beneath
 ME_Tree_check_more:Meth K d.c_Tree "check_more" d.f_Tree_check_more
 ME_Store_put:Meth K d.c_Store "put" d.f_Store_put
 ME_Store_keeps:Meth K d.c_Store "keeps" d.f_Store_keeps
 ME_Store_numbers:Meth K d.c_Store "numbers" d.f_Store_numbers
 ME_Store_under:Meth K d.c_Store "under" d.f_Store_under
 ME_Store_at_house:Meth K d.c_Store "at_house" d.f_Store_at_house
 ME_Store_promised_but:Meth K d.c_Store "promised_but" d.f_Store_promised_but
 ME_Store_too_much:Meth K d.c_Store "too_much" d.f_Store_too_much
 ME_Store_check_fits:Meth K d.c_Store "check_fits" d.f_Store_check_fits
 NA_Store_tree:findIn K (.ref d.c_Store) "tree" =some none
 NA_Store_holds:findIn K (.ref d.c_Store) "holds" =some none
 NA_Store_last:findIn K (.ref d.c_Store) "last" =some none
 NA_House_elder:findIn K (.ref d.c_House) "elder" =some none
 NA_House_promise:findIn K (.ref d.c_House) "promise" =some none
 NA_House_cap:findIn K (.ref d.c_House) "cap" =some none
 NA_House_weight:findIn K (.ref d.c_House) "weight" =some none
 NA_Tree_sorted_wares:findIn K (.ref d.c_Tree) "sorted_wares" =some none
 NA_Tree_houses:findIn K (.ref d.c_Tree) "houses" =some none
 NA_Hold_number:findIn K (.ref d.c_Hold) "number" =some none
 NA_Hold_house:findIn K (.ref d.c_Hold) "house" =some none
 NA_Hold_amounts:findIn K (.ref d.c_Hold) "amounts" =some none
 NA_Hold_rank:findIn K (.ref d.c_Hold) "rank" =some none
 NA_Hold_turns:findIn K (.ref d.c_Hold) "turns" =some none
 NA_Loan_number:findIn K (.ref d.c_Loan) "number" =some none
 NA_Loan_house:findIn K (.ref d.c_Loan) "house" =some none
 NA_Loan_amounts:findIn K (.ref d.c_Loan) "amounts" =some none
 NA_Loan_rank:findIn K (.ref d.c_Loan) "rank" =some none
 NA_Loan_turns:findIn K (.ref d.c_Loan) "turns" =some none
 X_NoHouse:My.XCls K d.c_NoHouse
 X_NoAmount:My.XCls K d.c_NoAmount
 X_NoWare:My.XCls K d.c_NoWare
 X_NoName:My.XCls K d.c_NoName
 X_NoNumber:My.XCls K d.c_NoNumber
 X_Taken:My.XCls K d.c_Taken
 X_TooMany:My.XCls K d.c_TooMany
 X_TooDeep:My.XCls K d.c_TooDeep
def eV:Option Str→V
 |none=> .non
 |some z=> .str z
structure Ho where
 el:Option Str
 pa:Addr
 kp:List (Key × V)
 fp:Str→Option Int
 ca:Addr
 kc:List (Key × V)
 fc:Str→Option Int
 w:Int
structure He where
 n:Str
 a:Addr
 x:Ho
structure Ts where
 sw:Addr
 ws:List Str
 hs:Addr
 hl:List He
def fsH (x:Ho):List (Str × V):=[("elder",eV x.el),("promise",.ref x.pa),("cap",.ref x.ca),("weight",.int x.w)]
def HoAt (d:Ad) (H:Hp) (a:Addr) (x:Ho):Prop:=(∃dx,H a=some (.ins d.c_House dx (fsH x)))∧H x.pa=some (.dK x.kp)∧AD x.kp x.fp∧H x.ca=some (.dK x.kc)∧AD x.kc x.fc
theorem HoAt.same {d:Ad} {H H':Hp} {a:Addr} {x:Ho} (h:HoAt d H a x) (s:qaq H H'):HoAt d H' a x:=⟨let ⟨dx,e⟩:=h.1;⟨dx,s _ _ e⟩,s _ _ h.2.1,h.2.2.1,s _ _ h.2.2.2.1,h.2.2.2.2⟩
def Ts.keys (S:Ts):List (Str × Addr):=S.hl.map fun e=>(e.n,e.a)
def Ts.at (S:Ts) (z:Str):Option He:=S.hl.find? fun e=>decide (e.n=z)
def fsT (S:Ts):List (Str × V):=[("sorted_wares",.ref S.sw),("houses",.ref S.hs)]
def qd2 (d:Ad) (H:Hp) (t:Addr) (S:Ts):Prop:=(∃dx,H t=some (.ins d.c_Tree dx (fsT S)))∧H S.sw=some (.lst (S.ws.map V.str))∧H S.hs=some (.dK (oK S.keys))∧(S.hl.map (·.n)).Nodup∧S.hl.length≤60∧∀e∈S.hl,HoAt d H e.a e.x
theorem qd2.same {d:Ad} {H H':Hp} {t:Addr} {S:Ts} (h:qd2 d H t S) (s:qaq H H'):qd2 d H' t S:=
 ⟨let ⟨dx,e⟩:=h.1;⟨dx,s _ _ e⟩,s _ _ h.2.1,s _ _ h.2.2.1,h.2.2.2.1,h.2.2.2.2.1,fun e he=>(h.2.2.2.2.2 e he).same s⟩
theorem qd6 (S:Ts) (z:Str):qcw S.keys z=(S.at z).map (·.a):=by
 obtain⟨sw,ws,hs,hl⟩:=S
 unfold Ts.keys Ts.at
 dsimp only
 induction hl with
 |nil=>rfl
 |cons e r ih=>
  rw [zQ,yJ]
  unfold qcw
  by_cases q:e.n=z
  ·rw [if_pos q,decide_eq_true q];rfl
  ·rw [if_neg q,decide_eq_false q];exact ih
theorem qbr {S:Ts} {z:Str} {e:He} (h:S.at z=some e):e∈S.hl∧e.n=z:=⟨List.mem_of_find?_eq_some h,by have:=List.find?_some h;simpa using this⟩
def NotS (K:Frag) (H:Hp) (x:V):Prop:=∃t,TyOf K H x t∧kitOne K t (.type "str")=some false
def qdj (K:Frag) (H:Hp) (x:V):Prop:=(∃z,x=.str z)∨(NotS K H x∧∀z,x≠ .str z)
def who (S:Ts):V→Option He
 | .str z=>S.at z
 |_=>none
theorem qcn {S:Ts} {x:V} (h:∀z,x≠ .str z):who S x=none:=by
 cases x <;> first|rfl|(rename_i z;exact absurd rfl (h z))
def sp_Tree_has (K:Frag) (d:Ad):Sp:=fun vs H Q _=>∃(t:Addr) (S:Ts) (x:V),vs=[.ref t,x]∧qd2 d H t S∧qdj K H x∧Q (.bl (who S x).isSome) H
def sp_Tree_check_house (K:Frag) (d:Ad):Sp:=fun vs H Q E=>∃(t:Addr) (S:Ts) (x:V),vs=[.ref t,x]∧qd2 d H t S∧qdj K H x∧(∀e,who S x=some e→Q .non H)∧(who S x=none→E (.ref d.c_NoHouse) none H)
def sp_Tree_house_of (K:Frag) (d:Ad):Sp:=fun vs H Q E=>∃(t:Addr) (S:Ts) (x:V),vs=[.ref t,x]∧qd2 d H t S∧qdj K H x∧(∀e,who S x=some e→Q (.ref e.a) H)∧(who S x=none→E (.ref d.c_NoHouse) none H)
def sp_Tree_elder_of (K:Frag) (d:Ad):Sp:=fun vs H Q E=>∃(t:Addr) (S:Ts) (x:V),vs=[.ref t,x]∧qd2 d H t S∧qdj K H x∧(∀e,who S x=some e→Q (eV e.x.el) H)∧(who S x=none→E (.ref d.c_NoHouse) none H)
def sp_Tree_promise_of (K:Frag) (d:Ad):Sp:=fun vs H Q E=>∃(t:Addr) (S:Ts) (x:V),vs=[.ref t,x]∧qd2 d H t S∧qdj K H x∧(∀e,who S x=some e→∀p,H p=none→Q (.ref p) (upd H p (.dK e.x.kp)))∧(who S x=none→E (.ref d.c_NoHouse) none H)
def sp_Tree_cap_of (K:Frag) (d:Ad):Sp:=fun vs H Q E=>∃(t:Addr) (S:Ts) (x:V),vs=[.ref t,x]∧qd2 d H t S∧qdj K H x∧(∀e,who S x=some e→∀p,H p=none→Q (.ref p) (upd H p (.dK e.x.kc)))∧(who S x=none→E (.ref d.c_NoHouse) none H)
theorem r_notNs {H:Hp} {Q:VK} {a:Str} (h:Q (.bl true) H):rNotN (.str a) .non H Q:=⟨rfl,h⟩
theorem TyOf.same {K:Frag} {H H':Hp} {x:V} {t:Value} (h:TyOf K H x t) (s:qaq H H'):TyOf K H' x t:=by
 cases h with
 |non=>exact .non
 |bl b=>exact .bl b
 |int i=>exact .int i
 |str z=>exact .str z
 |flt z=>exact .flt z
 |lst e=>exact .lst (s _ _ e)
 |frz e=>exact .frz (s _ _ e)
 |tup e=>exact .tup (s _ _ e)
 |dK e=>exact .dK (s _ _ e)
 |dT e=>exact .dT (s _ _ e)
 |ins e c a n k m=>exact .ins (s _ _ e) c a n k m
theorem qdj.same {K:Frag} {H H':Hp} {x:V} (h:qdj K H x) (s:qaq H H'):qdj K H' x:=by
 rcases h with h|⟨⟨t,a,b⟩,n⟩
 ·exact .inl h
 ·exact .inr ⟨⟨t,TyOf.same a s,b⟩,n⟩
inductive LineOf (S:Ts):Str→List Str→Prop
 |top {z:Str} {e:He} (h:S.at z=some e) (n:e.x.el=none):LineOf S z [z]
 |up {z y:Str} {e:He} {zs:List Str} (h:S.at z=some e) (n:e.x.el=some y) (r:LineOf S y zs):LineOf S z (z :: zs)
def RestOf (S:Ts):Option Str→List Str→Prop
 |none,zs=>zs=[]
 |some y,zs=>LineOf S y zs
theorem LineOf.open {S:Ts} {z:Str} {zs:List Str} (h:LineOf S z zs):∃e r,S.at z=some e∧zs=z :: r∧RestOf S e.x.el r:=by
 cases h with
 |top h n=>exact⟨_, [],h,rfl,by rw [n];rfl⟩
 |up h n r=>exact⟨_,_,h,rfl,by rw [n];exact r⟩
def lenAt (l:Addr) (H:Hp):Nat:=match H l with
 |some (.lst xs)=>xs.length
 |_=>0
theorem lenAt_eq {l:Addr} {H:Hp} {xs:List V} (e:H l=some (.lst xs)):lenAt l H=xs.length:=by unfold lenAt;rw [e]
def sp_Tree_line (K:Frag) (d:Ad):Sp:=fun vs H Q E=>∃(t:Addr) (S:Ts) (x:V),vs=[.ref t,x]∧qd2 d H t S∧
 ((∃z zs,x=.str z∧LineOf S z zs∧zs.length≤1000∧∀l,H l=none→Q (.ref l) (upd H l (.lst (zs.map V.str))))∨(qdj K H x∧who S x=none∧∀l,H l=none→E (.ref d.c_NoHouse) none (upd H l (.lst [x]))))
def qb0 (S:Ts) (z:Str):List Str:=(S.hl.filter fun e=>decide (e.x.el=some z)).map (·.n)
def sp_Tree_kids (K:Frag) (d:Ad):Sp:=fun vs H Q E=>∃(t:Addr) (S:Ts) (x:V),vs=[.ref t,x]∧qd2 d H t S∧qdj K H x∧(∀e,who S x=some e→∀l ss H',qaq H H'→H l=none→H' l=some (.lst (ss.map V.str))→ss.Perm (qb0 S e.n)→PyProof.Rows.sortedS ss=true→Q (.ref l) H')∧(who S x=none→E (.ref d.c_NoHouse) none H)
def sp_amount_of (K:Frag) (d:Ad):Sp:=fun vs H Q _=>∃(a:Addr) (kvs:List (Key × V)) (f:Str→Option Int) (z:Str),vs=[.ref a,.str z]∧Rd H a (.dK kvs)∧AD kvs f∧Q (.int (gN f z)) H
def sp_above_nought (K:Frag) (d:Ad):Sp:=fun vs H Q _=>∃(a:Addr) (kvs:List (Key × V)) (f:Str→Option Int),vs=[.ref a]∧H a=some (.dK kvs)∧AD kvs f∧kvs.length≤1000∧
 ∀l k' H',qaq H H'→H l=none→H' l=some (.dK k')→AD k' (qce f)→Q (.ref l) H'
def sp_added (K:Frag) (d:Ad):Sp:=fun vs H Q _=>∃(a b:Addr) (ka kb:List (Key × V)) (f g:Str→Option Int),vs=[.ref a,.ref b]∧Rd H a (.dK ka)∧H b=some (.dK kb)∧AD ka f∧AD kb g∧ka.length≤1000∧kb.length≤1000∧
 ∀l k' H',qaq H H'→H l=none→H' l=some (.dK k')→AD k' (qf8 f g)→Q (.ref l) H'
def sp_beyond (K:Frag) (d:Ad):Sp:=fun vs H Q _=>∃(a b:Addr) (ka kb:List (Key × V)) (f g:Str→Option Int),vs=[.ref a,.ref b]∧Rd H a (.dK ka)∧Rd H b (.dK kb)∧AD ka f∧AD kb g∧ka.length < 64∧
 (∀H',qaq H H'→(∀y,¬viol f g y)→Q .non H')∧∀z H',qaq H H'→viol f g z→(∀y,viol f g y→leS z y)→Q (.str z) H'
structure Pt where
 a:Addr
 k:List (Key × V)
 f:Str→Option Int
def qer (ts:List Pt):Str→Option Int:=ts.foldl (fun f t=>qf8 f t.f) noF
def PtOk (H:Hp) (ws:List Str) (t:Pt):Prop:=H t.a=some (.dK t.k)∧AD t.k t.f∧∀z,t.f z≠none→z∈ws
def sp_total_of (K:Frag) (d:Ad):Sp:=fun vs H Q _=>∃(L:Addr) (ts:List Pt) (ws:List Str),vs=[.ref L]∧SqL K H L (ts.map fun t=> .ref t.a)∧ws.length≤100∧(∀t∈ts,PtOk H ws t)∧
 ∀l k' H',qaq H H'→H l=none→H' l=some (.dK k')→AD k' (qer ts)→Q (.ref l) H'
section
variable {K : Frag} {d : Ad} {H : Hp} {Q : VK} {E : XK}
theorem u_amount {a:Addr} {kvs:List (Key × V)} {f:Str→Option Int} {z:Str} (hR:Rd H a (.dK kvs)) (hA:AD kvs f) (q:Q (.int (gN f z)) H):sp_amount_of K d [.ref a,.str z] H Q E:=⟨a,kvs,f,z,rfl,hR,hA,q⟩
end
local macro_rules | `(tactic| walk_at "kit") => `(tactic| (with_reducible (first
 |assumption|exact kit_int_int|exact kit_int_bool|exact kit_str_str
 |exact kit_non_int|exact kit_lst_lst|exact kit_dct_dct)))
local macro_rules | `(tactic| walk_at "ty") => `(tactic| (first
 |(with_reducible assumption) |(with_reducible exact TyOf.int _) |(with_reducible exact TyOf.bl _) |(with_reducible exact TyOf.str _)
 |(with_reducible exact TyOf.non) |((with_reducible refine' TyOf.tup ?h);(case h=>walk_at "heap")) |((with_reducible refine' TyOf.lst ?h);(case h=>walk_at "heap")) |((with_reducible refine' TyOf.dK ?h);(case h=>walk_at "heap"))))
local macro_rules | `(tactic| walk_at "heap") => `(tactic| first
 |with_reducible assumption|with_reducible exact qa3|((with_reducible refine' qa9 ?h ?n);(case n=>with_reducible assumption);(case h=>walk_at "heap")))
local macro_rules | `(tactic| walk_at "sqL") => `(tactic| first
 |with_reducible assumption|((with_reducible refine' sqL_new ?h ?n);(case n=>with_reducible assumption);(case h=>walk_at "sqL")) |((with_reducible refine' SqL.of ?h);(case h=>walk_at "heap")))
local macro_rules | `(tactic| walk_at "sqT") => `(tactic| first
 |with_reducible assumption|((with_reducible refine' SqT.of ?h);(case h=>walk_at "heap")))
local macro_rules | `(tactic| walk_at "side") => `(tactic| first
 |assumption|exact rfl|omega|decide
 |(simp only [zN,yO,zB];omega) |exact⟨by omega,by omega⟩ |exact⟨by decide,by decide⟩ |exact⟨by omega,by assumption⟩
 |exact⟨by assumption,by assumption⟩ |exact⟨by decide,by assumption⟩ |exact⟨by decide,by decide,by decide⟩)
local macro_rules | `(tactic| walk_at "size") => `(tactic| (first
 |assumption|(simp only [zN,yO,zB,yB];first|decide|(show _≤16777216;omega) |(show _ < 16777216;omega)) |(show _≤16777216;omega) |(show _ < 16777216;omega)))
local macro_rules | `(tactic| walk_at "sp") => `(tactic| fail)
local macro_rules | `(tactic| walk_at "r1") => `(tactic| first
 |(with_reducible refine r_var (by with_unfolding_all exact rfl) ?_) |(with_reducible first|refine r_c ?_|refine r_op ?_|refine r_I0 ?_) |((with_reducible refine r_I ?hc ?_);(case hc=>walk_at "side")) |(with_reducible first|refine r_eqI ?_|refine r_eqS ?_|refine r_exb ?_|refine r_test ?_|refine r_tB ?_|refine r_and ?_|refine r_or ?_|refine r_not ?_|refine r_andV ?_|refine r_orV ?_|refine r_notV ?_|refine r_next ?_|refine r_seq ?_|refine r_drop ?_|refine r_ret ?_|refine r_if ?_|refine r_asg ?_)
 |(with_reducible refine r_name (by with_unfolding_all (simp only [List.set];exact rfl)) ?_) |(with_reducible first|refine r_gnil ?_|refine r_gcons ?_) |((with_reducible refine' r_gtup ?s ?n ?_);(case s=>walk_at "sqT");(case n=>exact rfl)) |(with_reducible first|refine r_for ?_|refine r_iL ?_|refine r_iR ?_)
 |((with_reducible refine' r_itL ?s ?_);(case s=>walk_at "sqL")) |((with_reducible refine' r_itR ?s ?t ?_);(case s=>walk_at "side");(case t=>walk_at "side")) |(with_reducible first|refine r_nx ?_|refine r_rt ?_|refine r_nil ?_|refine r_cons ?_|refine r_tup ?_|refine r_lst ?_) |((with_reducible refine r_new ?n ?_);(case n=>(simp only [zN,yO];decide)))
 |((with_reducible refine r_fresh ?_);intro p hp) |(with_reducible first|refine r_call ?_|refine r_callX ?_|refine r_cb ?_|refine r_raise ?_) |((with_reducible refine' r_ixT ?s ?e ?_);(case s=>walk_at "sqT");(case e=>exact rfl)) |(with_reducible first|refine r_comp ?_|refine r_true ?_|refine r_iS ?_|refine r_itS ?_|refine r_inS ?_)
 |((with_reducible refine' r_app ?a ?z ?_);(case a=>walk_at "heap");(case z=>walk_at "size")) |((with_reducible refine' r_catS ?z ?_);(case z=>walk_at "size")) |((with_reducible refine' r_lenS ?z ?_);(case z=>walk_at "size")) |(with_reducible refine r_chain ?_)
 |((with_reducible refine' r_lenL ?s ?_);(case s=>walk_at "sqL")) |(with_reducible first|refine r_isNn ?_|refine r_notNn ?_) |((with_reducible refine' r_isi ?t ?k ?_);(case t=>walk_at "ty");(case k=>walk_at "kit")) |(with_reducible first|refine i_nT ?_|refine i_nF ?_|refine iteT ?_|refine iteF ?_)
 |((with_reducible refine i_t ?c ?_);(case c=>walk_at "side")) |((with_reducible refine i_f ?c ?_);(case c=>walk_at "side")) |walk_at "sp")
local macro_rules | `(tactic| walk_at "g") => `(tactic| repeat walk_at "r1")
local macro_rules|`(tactic|left)=>`(tactic|walk_at "g")
local macro_rules | `(tactic| walk_at "d") => `(tactic| try dsimp only [L2.cxOf, L2.Cx.nox, L2.Cx.wish, My.xw, pnd, suite])
local macro_rules | `(tactic| walk_at "rd") => `(tactic| first
 |with_reducible assumption|((with_reducible refine' rd_new ?h ?n);(case n=>with_reducible assumption);(case h=>walk_at "rd")) |((with_reducible refine' Rd.of ?h);(case h=>walk_at "heap")))
local macro_rules | `(tactic| walk_at "same") => `(tactic| first
 |with_reducible assumption|exact qaq.refl _|((with_reducible refine' qdb ?h ?n);(case n=>with_reducible assumption);(case h=>walk_at "same")))
local macro_rules | `(tactic| walk_at "sp") => `(tactic| first
 |((with_reducible refine r_disp1 ?_);intro p hp) |((with_reducible refine' r_ds ?e ?_);(case e=>walk_at "heap")) |((with_reducible refine' u_amount ?r ?a ?_);(case r=>walk_at "rd");(case a=>with_reducible assumption)) |(with_reducible refine r_intB ?_)
 |((with_reducible refine' qbn ?s ?e ?_);(case s=>walk_at "sqL");(case e=>exact rfl)) |(with_reducible refine r_dg2 ?_) |((with_reducible refine' r_dg2a ?r ?_);(case r=>walk_at "rd")) |((with_reducible refine' r_dg2b ?r ?a ?_);(case r=>walk_at "rd");(case a=>with_reducible assumption))
 |(with_reducible refine r_dg ?_) |((with_reducible refine' r_dgk ?r ?a ?e ?_);(case r=>walk_at "rd");(case a=>with_reducible assumption);(case e=>with_reducible assumption)) |(with_reducible refine r_dp ?_) |((with_reducible refine' r_dpk ?e ?z ?_);(case e=>walk_at "heap");(case z=>walk_at "size"))
 |((with_reducible refine r_dnew ?_);intro p hp) |(with_reducible first|refine r_thA ?_|refine r_iD ?_) |((with_reducible refine' r_dictCp ?e ?_);(case e=>walk_at "rd");intro p hp) |(with_reducible first|refine r_iZ ?_|refine r_lp ?_|refine r_max ?_|refine r_min ?_|refine r_mtX ?_)
 |((with_reducible refine' r_mtkX ?e ?l ?_);(case e=>walk_at "heap");(case l=>exact rfl)) |(with_reducible refine r_mkX ?_) |((with_reducible refine' r_mtk ?e ?l ?_);(case e=>walk_at "heap");(case l=>exact rfl)) |(with_reducible first|refine r_notNs ?_|refine r_di ?_)
 |((with_reducible refine' r_diO ?r ?_);(case r=>walk_at "rd")) |(with_reducible first|refine r_mk ?_|refine r_mt ?_|refine r_fl ?_|refine r_fs ?_) |((with_reducible refine' r_flk ?e ?c ?n ?l ?_);(case e=>walk_at "heap");(case c=>with_reducible assumption);(case n=>with_reducible assumption);(case l=>exact rfl)) |((with_reducible refine' qe6 ?e ?c ?n ?z ?_);(case e=>walk_at "heap");(case c=>with_reducible assumption);(case n=>with_reducible assumption);(case z=>(show _ < 1000;decide)))
 |(with_reducible refine r_bm ?_) |((with_reducible refine' r_tyL ?s ?_);(case s=>walk_at "sqL")) |((with_reducible refine' r_append ?h ?z ?_);(case h=>walk_at "heap");(case z=>walk_at "size")))
theorem sc_is_whole:FnScope ["thing"] ["thing"] (qa7 s_is_whole):=⟨rfl,rfl,rfl,by decide+kernel,rfl,by decide+kernel,by decide+kernel⟩
theorem sc_is_name:FnScope ["thing"] ["thing"] (qa7 s_is_name):=⟨rfl,rfl,rfl,by decide+kernel,rfl,by decide+kernel,by decide+kernel⟩
theorem sc_is_whole_from:FnScope ["thing","least","most"] ["thing","least","most"] (qa7 s_is_whole_from):=⟨rfl,rfl,rfl,by decide+kernel,rfl,by decide+kernel,by decide+kernel⟩
theorem sc_is_amount:FnScope ["thing"] ["thing"] (qa7 s_is_amount):=⟨rfl,rfl,rfl,by decide+kernel,rfl,by decide+kernel,by decide+kernel⟩
theorem sc_amounts_of:FnScope ["handed","wares","key","ware"] ["handed","wares"] (qa7 s_amounts_of):=⟨rfl,rfl,rfl,by decide+kernel,rfl,by decide+kernel,by decide+kernel⟩
theorem sc_above_nought:FnScope ["amounts","told","ware"] ["amounts"] (qa7 s_above_nought):=⟨rfl,rfl,rfl,by decide+kernel,rfl,by decide+kernel,by decide+kernel⟩
theorem sc_amount_of:FnScope ["amounts","ware"] ["amounts","ware"] (qa7 s_amount_of):=⟨rfl,rfl,rfl,by decide+kernel,rfl,by decide+kernel,by decide+kernel⟩
theorem sc_added:FnScope ["one","other","told","ware"] ["one","other"] (qa7 s_added):=⟨rfl,rfl,rfl,by decide+kernel,rfl,by decide+kernel,by decide+kernel⟩
theorem sc_beyond:FnScope ["one","other","ware"] ["one","other"] (qa7 s_beyond):=⟨rfl,rfl,rfl,by decide+kernel,rfl,by decide+kernel,by decide+kernel⟩
theorem sc_total_of:FnScope ["many","total","amounts"] ["many"] (qa7 s_total_of):=⟨rfl,rfl,rfl,by decide+kernel,rfl,by decide+kernel,by decide+kernel⟩
theorem sc_made:FnScope ["number","house","amounts","rank","turns","sure"] ["number","house","amounts","rank","turns","sure"] (qa7 s_made):=⟨rfl,rfl,rfl,by decide+kernel,rfl,by decide+kernel,by decide+kernel⟩
theorem sc_holds_beneath:FnScope ["tree","holds","house","names"] ["tree","holds","house"] (qa7 s_holds_beneath):=⟨rfl,rfl,rfl,by decide+kernel,rfl,by decide+kernel,by decide+kernel⟩
theorem sc_held_by:FnScope ["holds"] ["holds"] (qa7 s_held_by):=⟨rfl,rfl,rfl,by decide+kernel,rfl,by decide+kernel,by decide+kernel⟩
theorem sc_taking:FnScope ["tree","holds","house","ware","there"] ["tree","holds","house","ware"] (qa7 s_taking):=⟨rfl,rfl,rfl,by decide+kernel,rfl,by decide+kernel,by decide+kernel⟩
theorem sc_used:FnScope ["tree","holds","house"] ["tree","holds","house"] (qa7 s_used):=⟨rfl,rfl,rfl,by decide+kernel,rfl,by decide+kernel,by decide+kernel⟩
theorem sc_fixed:FnScope ["holds","rank","sure"] ["holds","rank","sure"] (qa7 s_fixed):=⟨rfl,rfl,rfl,by decide+kernel,rfl,by decide+kernel,by decide+kernel⟩
theorem sc_rooms_left:FnScope ["tree","holds","line","amounts","rooms","at","cap","use","ware"] ["tree","holds","line","amounts"] (qa7 s_rooms_left):=⟨rfl,rfl,rfl,by decide+kernel,rfl,by decide+kernel,by decide+kernel⟩
theorem sc_first_lack:FnScope ["tree","holds","line","amounts","rooms","place"] ["tree","holds","line","amounts"] (qa7 s_first_lack):=⟨rfl,rfl,rfl,by decide+kernel,rfl,by decide+kernel,by decide+kernel⟩
theorem sc_reason:FnScope ["tree","holds","house","amounts","rank","sure"] ["tree","holds","house","amounts","rank","sure"] (qa7 s_reason):=⟨rfl,rfl,rfl,by decide+kernel,rfl,by decide+kernel,by decide+kernel⟩
theorem sc_are_wares:FnScope ["thing"] ["thing"] (qa7 s_are_wares):=⟨rfl,rfl,rfl,by decide+kernel,rfl,by decide+kernel,by decide+kernel⟩
theorem sc_check_name:FnScope ["thing"] ["thing"] (qa7 s_check_name):=⟨rfl,rfl,rfl,by decide+kernel,rfl,by decide+kernel,by decide+kernel⟩
theorem sc_read_house:FnScope ["wares","elder","promise","cap","weight","own_promise","own_cap"] ["wares","elder","promise","cap","weight"] (qa7 s_read_house):=⟨rfl,rfl,rfl,by decide+kernel,rfl,by decide+kernel,by decide+kernel⟩
theorem sc_check_promises:FnScope ["name","promises","cap","ware"] ["name","promises","cap"] (qa7 s_check_promises):=⟨rfl,rfl,rfl,by decide+kernel,rfl,by decide+kernel,by decide+kernel⟩
theorem sc_cell:FnScope ["_law_script","_law_k","_law_number"] ["_law_script","_law_k"] (qa7 s_cell):=⟨rfl,rfl,rfl,by decide+kernel,rfl,by decide+kernel,by decide+kernel⟩
theorem sc_mix:FnScope ["_law_cell_here","_law_k","_law_many","_law_number"] ["_law_cell_here","_law_k","_law_many"] (qa7 s_mix):=⟨rfl,rfl,rfl,by decide+kernel,rfl,by decide+kernel,by decide+kernel⟩
theorem sc_names:FnScope ["_law_cell_here","_law_many","_law_letters","_law_long","_law_at","_law_stride","_law_names_here","_law_k","_law_word","_law_j","_law_step"] ["_law_cell_here","_law_many"] (qa7 s_names):=⟨rfl,rfl,rfl,by decide+kernel,rfl,by decide+kernel,by decide+kernel⟩
theorem sc_elders:FnScope ["_law_script","_law_start","_law_many","_law_row","_law_elders_here","_law_k"] ["_law_script","_law_start","_law_many"] (qa7 s_elders):=⟨rfl,rfl,rfl,by decide+kernel,rfl,by decide+kernel,by decide+kernel⟩
theorem sc_line:FnScope ["_law_elders_here","_law_at","_law_line_here"] ["_law_elders_here","_law_at"] (qa7 s_line):=⟨rfl,rfl,rfl,by decide+kernel,rfl,by decide+kernel,by decide+kernel⟩
theorem sc_told:FnScope ["_law_wares","_law_parts_here","_law_found","_law_ware","_law_part"] ["_law_wares","_law_parts_here"] (qa7 s_told):=⟨rfl,rfl,rfl,by decide+kernel,rfl,by decide+kernel,by decide+kernel⟩
theorem sc_parts:FnScope ["_law_cell_here","_law_kinds","_law_scale","_law_parts_here","_law_j","_law_part"] ["_law_cell_here","_law_kinds","_law_scale"] (qa7 s_parts):=⟨rfl,rfl,rfl,by decide+kernel,rfl,by decide+kernel,by decide+kernel⟩
theorem sc_promises:FnScope ["_law_script","_law_houses","_law_kinds","_law_scale","_law_found","_law_at","_law_cell_here","_law_parts_here"] ["_law_script","_law_houses","_law_kinds"] (qa7 s_promises):=⟨rfl,rfl,rfl,by decide+kernel,rfl,by decide+kernel,by decide+kernel⟩
theorem sc_limits:FnScope ["_law_script","_law_elders_here","_law_promises_here","_law_kinds","_law_caps","_law_at","_law_j","_law_some","_law_more"] ["_law_script","_law_elders_here","_law_promises_here","_law_kinds"] (qa7 s_limits):=⟨rfl,rfl,rfl,by decide+kernel,rfl,by decide+kernel,by decide+kernel⟩
theorem sc_tree:FnScope ["_law_names_here","_law_wares","_law_elders_here","_law_promises_here","_law_caps","_law_tree_here","_law_k"] ["_law_names_here","_law_wares","_law_elders_here","_law_promises_here","_law_caps"] (qa7 s_tree):=⟨rfl,rfl,rfl,by decide+kernel,rfl,by decide+kernel,by decide+kernel⟩
theorem sc_within:FnScope ["_law_cell_here","_law_left","_law_parts_here","_law_j","_law_part","_law_one"] ["_law_cell_here","_law_left"] (qa7 s_within):=⟨rfl,rfl,rfl,by decide+kernel,rfl,by decide+kernel,by decide+kernel⟩
theorem sc_granted:FnScope ["_law_tree_here","_law_store","_law_name","_law_wares","_law_parts_here","_law_rank"] ["_law_tree_here","_law_store","_law_name","_law_wares","_law_parts_here","_law_rank"] (qa7 s_granted):=⟨rfl,rfl,rfl,by decide+kernel,rfl,by decide+kernel,by decide+kernel⟩
theorem sc_deed:FnScope ["_law_cell_here","_law_tree_here","_law_store","_law_names_here","_law_wares","_law_left","_law_at","_law_parts_here","_law_rank","_law_loan"] ["_law_cell_here","_law_tree_here","_law_store","_law_names_here","_law_wares","_law_left"] (qa7 s_deed):=⟨rfl,rfl,rfl,by decide+kernel,rfl,by decide+kernel,by decide+kernel⟩
theorem sc_law:FnScope ["_law_script","_law_houses","_law_kinds","_law_names_here","_law_wares","_law_elders_here","_law_promises_here","_law_tree_here","_law_store","_law_left","_law_k","_law_at"] ["_law_script"] (qa7 s_law):=⟨rfl,rfl,rfl,by decide+kernel,rfl,by decide+kernel,by decide+kernel⟩
theorem sc_House_init:FnScope ["self","elder","promise","cap","weight"] ["self","elder","promise","cap","weight"] (qa7 s_House_init):=⟨rfl,rfl,rfl,by decide+kernel,rfl,by decide+kernel,by decide+kernel⟩
theorem sc_Tree_init:FnScope ["self","wares","name","promise","cap","weight","house"] ["self","wares","name","promise","cap","weight"] (qa7 s_Tree_init):=⟨rfl,rfl,rfl,by decide+kernel,rfl,by decide+kernel,by decide+kernel⟩
theorem sc_Tree_found:FnScope ["self","name","elder","promise","cap","weight","house","elders"] ["self","name","elder","promise","cap","weight"] (qa7 s_Tree_found):=⟨rfl,rfl,rfl,by decide+kernel,rfl,by decide+kernel,by decide+kernel⟩
theorem sc_Tree_has:FnScope ["self","thing"] ["self","thing"] (qa7 s_Tree_has):=⟨rfl,rfl,rfl,by decide+kernel,rfl,by decide+kernel,by decide+kernel⟩
theorem sc_Tree_check_house:FnScope ["self","thing"] ["self","thing"] (qa7 s_Tree_check_house):=⟨rfl,rfl,rfl,by decide+kernel,rfl,by decide+kernel,by decide+kernel⟩
theorem sc_Tree_house_of:FnScope ["self","name"] ["self","name"] (qa7 s_Tree_house_of):=⟨rfl,rfl,rfl,by decide+kernel,rfl,by decide+kernel,by decide+kernel⟩
theorem sc_Tree_elder_of:FnScope ["self","name"] ["self","name"] (qa7 s_Tree_elder_of):=⟨rfl,rfl,rfl,by decide+kernel,rfl,by decide+kernel,by decide+kernel⟩
theorem sc_Tree_promise_of:FnScope ["self","name"] ["self","name"] (qa7 s_Tree_promise_of):=⟨rfl,rfl,rfl,by decide+kernel,rfl,by decide+kernel,by decide+kernel⟩
theorem sc_Tree_cap_of:FnScope ["self","name"] ["self","name"] (qa7 s_Tree_cap_of):=⟨rfl,rfl,rfl,by decide+kernel,rfl,by decide+kernel,by decide+kernel⟩
theorem sc_Tree_kids:FnScope ["self","name"] ["self","name"] (qa7 s_Tree_kids):=⟨rfl,rfl,rfl,by decide+kernel,rfl,by decide+kernel,by decide+kernel⟩
theorem sc_Tree_line:FnScope ["self","name","told","elder"] ["self","name"] (qa7 s_Tree_line):=⟨rfl,rfl,rfl,by decide+kernel,rfl,by decide+kernel,by decide+kernel⟩
theorem sc_Tree_beneath:FnScope ["self","name","told","kid"] ["self","name"] (qa7 s_Tree_beneath):=⟨rfl,rfl,rfl,by decide+kernel,rfl,by decide+kernel,by decide+kernel⟩
theorem sc_Tree_promised_beneath:FnScope ["self","name"] ["self","name"] (qa7 s_Tree_promised_beneath):=⟨rfl,rfl,rfl,by decide+kernel,rfl,by decide+kernel,by decide+kernel⟩
theorem sc_Tree_check_more:FnScope ["self","names","more","name"] ["self","names","more"] (qa7 s_Tree_check_more):=⟨rfl,rfl,rfl,by decide+kernel,rfl,by decide+kernel,by decide+kernel⟩
theorem sc_Hold_init:FnScope ["self","number","house","amounts","rank","turns"] ["self","number","house","amounts","rank","turns"] (qa7 s_Hold_init):=⟨rfl,rfl,rfl,by decide+kernel,rfl,by decide+kernel,by decide+kernel⟩
theorem sc_Hold_is_sure:FnScope ["self"] ["self"] (qa7 s_Hold_is_sure):=⟨rfl,rfl,rfl,by decide+kernel,rfl,by decide+kernel,by decide+kernel⟩
theorem sc_Hold_may_end:FnScope ["self","rank","sure"] ["self","rank","sure"] (qa7 s_Hold_may_end):=⟨rfl,rfl,rfl,by decide+kernel,rfl,by decide+kernel,by decide+kernel⟩
theorem sc_Loan_is_sure:FnScope ["self"] ["self"] (qa7 s_Loan_is_sure):=⟨rfl,rfl,rfl,by decide+kernel,rfl,by decide+kernel,by decide+kernel⟩
theorem sc_Loan_may_end:FnScope ["self","rank","sure"] ["self","rank","sure"] (qa7 s_Loan_may_end):=⟨rfl,rfl,rfl,by decide+kernel,rfl,by decide+kernel,by decide+kernel⟩
theorem sc_Store_init:FnScope ["self","tree"] ["self","tree"] (qa7 s_Store_init):=⟨rfl,rfl,rfl,by decide+kernel,rfl,by decide+kernel,by decide+kernel⟩
theorem sc_Store_put:FnScope ["self","house","amounts","rank","turns","sure"] ["self","house","amounts","rank","turns","sure"] (qa7 s_Store_put):=⟨rfl,rfl,rfl,by decide+kernel,rfl,by decide+kernel,by decide+kernel⟩
theorem sc_Store_keeps:FnScope ["self","thing"] ["self","thing"] (qa7 s_Store_keeps):=⟨rfl,rfl,rfl,by decide+kernel,rfl,by decide+kernel,by decide+kernel⟩
theorem sc_Store_numbers:FnScope ["self"] ["self"] (qa7 s_Store_numbers):=⟨rfl,rfl,rfl,by decide+kernel,rfl,by decide+kernel,by decide+kernel⟩
theorem sc_Store_under:FnScope ["self","house","holds"] ["self","house"] (qa7 s_Store_under):=⟨rfl,rfl,rfl,by decide+kernel,rfl,by decide+kernel,by decide+kernel⟩
theorem sc_Store_at_house:FnScope ["self","house"] ["self","house"] (qa7 s_Store_at_house):=⟨rfl,rfl,rfl,by decide+kernel,rfl,by decide+kernel,by decide+kernel⟩
theorem sc_Store_promised_but:FnScope ["self","house","but","holds"] ["self","house","but"] (qa7 s_Store_promised_but):=⟨rfl,rfl,rfl,by decide+kernel,rfl,by decide+kernel,by decide+kernel⟩
theorem sc_Store_too_much:FnScope ["self","house","amounts","but"] ["self","house","amounts","but"] (qa7 s_Store_too_much):=⟨rfl,rfl,rfl,by decide+kernel,rfl,by decide+kernel,by decide+kernel⟩
theorem sc_Store_check_fits:FnScope ["self","house","amounts","but","ware"] ["self","house","amounts","but"] (qa7 s_Store_check_fits):=⟨rfl,rfl,rfl,by decide+kernel,rfl,by decide+kernel,by decide+kernel⟩
variable {P : Program} {w : World} {K : Frag} {mg : Str → Option Value} {base : Heap} {d : Ad} (T : Tx K mg d)
include T in
theorem ok_Tree_has:FnOk P w K mg base CX0 1 d.f_Tree_has d.fd_Tree_has ["self","thing"] (sp_Tree_has K d):=by
 refine T.F_Tree_has.ok sc_Tree_has (fun vs H Q E h=>?_) (fun cdv A outer s H vs Q E hr h=>?_)
 ·obtain⟨t,S,x,rfl,_⟩:=h;rfl
 obtain⟨t,S,x,rfl,hT,hx,q⟩:=h
 refine⟨_,(qa4 (qae (qew (qad qbq rfl T.z_isinstance PyProof.Rows.boot_isinstance (qa0 (pv 1) (qa0 (qco (v:=.ty "str") rfl T.z_str PyProof.Rows.boot_str rfl) qa1))) (qea (pe_cmp (pc_din (qc5 hr) (pv 1) (qao (pv 0) rfl))))))),?_⟩
 walk_at "d"
 refine qac (σ:=[some (.ref t),some (x)]) rfl ?_
 obtain⟨⟨dx,ht⟩,hw,hh,nd,hz,hE⟩:=hT
 have ct:=T.CL_Tree
 have nh:qaj K d.c_Tree "houses":=T.NA_Tree_houses
 rcases hx with ⟨z,rfl⟩ |⟨⟨ty,ht1,ht2⟩,nz⟩
 ·left
  rw [qd6,Option.isSome_map]
  exact q
 ·left
  rw [qcn nz] at q
  exact q
include T in
theorem ok_Tree_check_house:FnOk P w K mg base (My.CX1 P w) 2 d.f_Tree_check_house d.fd_Tree_check_house ["self","thing"] (sp_Tree_check_house K d):=by
 refine okX T.F_Tree_check_house sc_Tree_check_house (fun vs H Q E h=>?_) (fun cdv A outer s H vs Q E hr h=>?_)
 ·obtain⟨t,S,x,rfl,_⟩:=h;rfl
 obtain⟨t,S,x,rfl,hT,hx,q1,q2⟩:=h
 refine⟨_,(qa4 (qbb (qci (qbo (qcc (pv 0) T.CL_Tree T.ME_Tree_has ((ok_Tree_has T).mono (by decide)) hr T.b_Tree_has .nil qaf (qa0 (pv 1) qa1)))) (qa4 (qbv rfl T.X_NoHouse rfl T.m_NoHouse qar (qa0 qcq qa1))) qal)),?_⟩
 walk_at "d"
 refine qac (σ:=[some (.ref t),some (x)]) rfl ?_
 have hT0:=hT
 obtain⟨⟨dx,ht⟩,hw,hh,nd,hz,hE⟩:=hT
 have ct:=T.CL_Tree
 have nh:qaj K d.c_Tree "houses":=T.NA_Tree_houses
 left
 refine⟨t,S,x,rfl,hT0,hx,?_⟩
 cases hw':who S x with
 |none=>
  left
  show if (!false)=true then _ else _
  left
  exact q2 hw'
 |some e=>
  left
  exact q1 e hw'
include T in
theorem ok_Tree_house_of:FnOk P w K mg base (My.CX1 P w) 3 d.f_Tree_house_of d.fd_Tree_house_of ["self","name"] (sp_Tree_house_of K d):=by
 refine okX T.F_Tree_house_of sc_Tree_house_of (fun vs H Q E h=>?_) (fun cdv A outer s H vs Q E hr h=>?_)
 ·obtain⟨t,S,x,rfl,_⟩:=h;rfl
 obtain⟨t,S,x,rfl,hT,hx,q1,q2⟩:=h
 refine⟨_,(qa2 (qas (qap (pv 0) T.CL_Tree T.ME_Tree_check_house ((ok_Tree_check_house T).mono (by decide)) hr T.b_Tree_check_house .nil qar (qa0 (pv 1) qa1)))
  (qa4 (qae (qbs (qc5 hr) (qao (pv 0) rfl) (pv 1) (fun _ _=>rfl))))),?_⟩
 walk_at "d"
 refine qac (σ:=[some (.ref t),some (x)]) rfl ?_
 have hT0:=hT
 obtain⟨⟨dx,ht⟩,hw,hh,nd,hz,hE⟩:=hT
 have ct:=T.CL_Tree
 have nh:qaj K d.c_Tree "houses":=T.NA_Tree_houses
 left
 refine⟨t,S,x,rfl,hT0,hx,fun e he=>?_,q2⟩
 have hz':∃z,x=.str z:=by
  rcases hx with h|⟨_,nz⟩
  ·exact h
  ·rw [qcn nz] at he;cases he
 obtain⟨z,rfl⟩:=hz'
 left
 refine r_dgO (.inl hh) (h:=e.a) (by rw [qd6];show (S.at z).map _=_;rw [show S.at z=some e from he];rfl) ?_
 left
 exact q1 e he
include T in
theorem ok_Tree_elder_of:FnOk P w K mg base (My.CX1 P w) 4 d.f_Tree_elder_of d.fd_Tree_elder_of ["self","name"] (sp_Tree_elder_of K d):=by
 refine okX T.F_Tree_elder_of sc_Tree_elder_of (fun vs H Q E h=>?_) (fun cdv A outer s H vs Q E hr h=>?_)
 ·obtain⟨t,S,x,rfl,_⟩:=h;rfl
 obtain⟨t,S,x,rfl,hT,hx,q1,q2⟩:=h
 refine⟨_,(qa4 (qae (qao (qap (pv 0) T.CL_Tree T.ME_Tree_house_of ((ok_Tree_house_of T).mono (by decide)) hr T.b_Tree_house_of .nil qar (qa0 (pv 1) qa1)) rfl))),?_⟩
 walk_at "d"
 refine qac (σ:=[some (.ref t),some (x)]) rfl ?_
 have hT0:=hT
 obtain⟨⟨dx,ht⟩,hw,hh,nd,hz,hE⟩:=hT
 have ct:=T.CL_Tree
 have nh:qaj K d.c_Tree "houses":=T.NA_Tree_houses
 left
 refine⟨t,S,x,rfl,hT0,hx,fun e he=>?_,q2⟩
 obtain⟨z,rfl⟩:∃z,x=.str z:=by
  rcases hx with h|⟨_,nz⟩
  ·exact h
  ·rw [qcn nz] at he;cases he
 obtain⟨⟨dh,ho⟩,hp,hpA,hc,hcA⟩:=hE e (qbr he).1
 have ch:=T.CL_House
 have nf:qaj K d.c_House "elder":=T.NA_House_elder
 have hRp:Rd H e.x.pa (.dK e.x.kp):=.inl hp
 have hRc:Rd H e.x.ca (.dK e.x.kc):=.inl hc
 left
 exact q1 e he
include T in
theorem ok_Tree_promise_of:FnOk P w K mg base (My.CX1 P w) 4 d.f_Tree_promise_of d.fd_Tree_promise_of ["self","name"] (sp_Tree_promise_of K d):=by
 refine okX T.F_Tree_promise_of sc_Tree_promise_of (fun vs H Q E h=>?_) (fun cdv A outer s H vs Q E hr h=>?_)
 ·obtain⟨t,S,x,rfl,_⟩:=h;rfl
 obtain⟨t,S,x,rfl,hT,hx,q1,q2⟩:=h
 refine⟨_,(qa4 (qae (qbw qd1 rfl T.z_dict PyProof.Rows.boot_dict (qa0 (qao (qap (pv 0) T.CL_Tree T.ME_Tree_house_of ((ok_Tree_house_of T).mono (by decide)) hr T.b_Tree_house_of .nil qar (qa0 (pv 1) qa1)) rfl) qa1)))),?_⟩
 walk_at "d"
 refine qac (σ:=[some (.ref t),some (x)]) rfl ?_
 have hT0:=hT
 obtain⟨⟨dx,ht⟩,hw,hh,nd,hz,hE⟩:=hT
 have ct:=T.CL_Tree
 have nh:qaj K d.c_Tree "houses":=T.NA_Tree_houses
 left
 refine⟨t,S,x,rfl,hT0,hx,fun e he=>?_,q2⟩
 obtain⟨z,rfl⟩:∃z,x=.str z:=by
  rcases hx with h|⟨_,nz⟩
  ·exact h
  ·rw [qcn nz] at he;cases he
 obtain⟨⟨dh,ho⟩,hp,hpA,hc,hcA⟩:=hE e (qbr he).1
 have ch:=T.CL_House
 have nf:qaj K d.c_House "promise":=T.NA_House_promise
 have hRp:Rd H e.x.pa (.dK e.x.kp):=.inl hp
 have hRc:Rd H e.x.ca (.dK e.x.kc):=.inl hc
 left
 rename_i p hp
 exact q1 e he p hp
include T in
theorem ok_amount_of:FnOk P w K mg base CX0 1 d.f_amount_of d.fd_amount_of ["amounts","ware"] (sp_amount_of K d):=by
 refine T.F_amount_of.ok sc_amount_of (fun vs H Q E h=>?_) (fun cdv A outer s H vs Q E hr h=>?_)
 ·obtain⟨a,kvs,f,z,rfl,_⟩:=h;rfl
 obtain⟨a,kvs,f,z,rfl,hR,hA,q⟩:=h
 refine⟨_,(qa4 (qae (pe_dget2 (qc5 hr) (pv 0) (pv 1) qa8 ⟨rfl,rfl,rfl,rfl⟩))),?_⟩
 walk_at "d"
 refine qac (σ:=[some (.ref a),some (.str z)]) rfl ?_
 left
 exact q
include T in
theorem ok_above_nought:FnOk P w K mg base CX0 1 d.f_above_nought d.fd_above_nought ["amounts"] (sp_above_nought K d):=by
 refine T.F_above_nought.ok sc_above_nought (fun vs H Q E h=>?_) (fun cdv A outer s H vs Q E hr h=>?_)
 ·obtain⟨a,kvs,f,rfl,_⟩:=h;rfl
 obtain⟨a,kvs,f,rfl,hH,hA,hz,q⟩:=h
 refine⟨_,(qa2 (qag (i:=1) sc_above_nought.nd rfl (Or.inl rfl) qdx)
  (qa2 (ps_thA (qbf PassesOwn.never rfl (qe9 (pv 0)) (qav (i:=2) sc_above_nought.nd rfl (Or.inl rfl)) (qa4 (qcj (qbb (qan qfj (qbs (qc5 hr) (pv 0) (pv 2) (fun _ _=>rfl)) qa8 (qat _)) (qa4 (qdl (qc5 hr) (pv 1) (pv 2) (qbs (qc5 hr) (pv 0) (pv 2) (fun _ _=>rfl)) rfl)) qal)))))
  (qa4 (qae (pv 1))))),?_⟩
 walk_at "d"
 refine qac (σ:=[some (.ref a),none,none]) rfl ?_
 left
 rename_i l hl
 have ea:=qa9 (o':=.dK []) hH hl
 have nla:l≠a:=(qa5 hH hl).symm
 refine r_itD ea fun o=>?_
 refine f_dict (fun i σ H'=>∃(k':List (Key × V)) (w:Option V),σ=[some (.ref a),some (.ref l),w]∧SameBut a H H'∧H' a=some (.frz o (.dK kvs))∧H' l=some (.dK k')∧k'.length≤i∧AD k' (fun y=>if y∈(qdg kvs).take i then qce f y else none))
  ⟨[],none,rfl,SameBut.at (SameBut.of (qab hl _)),qa3,by rw [qa6 nla];exact qa3,Nat.le_refl _,AD.nil.cast fun z=>by simp [noF]⟩ ?_ ?_ ?_
 ·rintro i σ H' _ ⟨k',w,rfl,sb,fz,hl',_⟩;exact fz
 ·rintro i k v σ H' hk ⟨k',w,rfl,sb,fz,hl',hlen,hA'⟩
  obtain⟨z,n,rfl,rfl,hf,hzi⟩:=hA.at hk
  have hi:i < kvs.length:=(List.getElem?_eq_some_iff.mp hk).1
  have hRd:Rd H' a (.dK kvs):=.inr ⟨o,fz⟩
  show gName _ (.str z) _ _ _
  left
  refine r_cut0 ?_
  left
  refine i_2 (fun c=>?_) (fun c=>?_)
  ·left
   refine⟨_,_,rfl,?_,by rw [qa6 nla.symm];exact fz,qa3,?_,(hA'.put z n).cast fun y=>?_⟩
   ·exact sb_put sb hl
   ·have:=qbu k' (Sum.inr z) (.int n);omega
   ·exact step_put hzi (qce f) (fun _=>none) (by unfold qce;rw [hf];exact if_pos c) y
  ·left
   refine⟨_,_,rfl,sb,fz,hl',by omega,hA'.cast fun y=>?_⟩
   exact step_no hzi (qce f) (fun _=>none) (by unfold qce;rw [hf];exact if_neg c) y
 ·rintro σ H' ⟨k',w,rfl,sb,fz,hl',_,hA'⟩
  refine r_thNx (thaw1 fz (qdd hH)) ?_
  left
  refine q l k' _ (qct hH sb) hl (by rw [qa6 nla];exact hl') (hA'.cast fun y=>?_)
  exact step_end hA (qce f) (fun _=>none) (fun y e=>by unfold qce;rw [e]) y
include T in
theorem ok_added:FnOk P w K mg base CX0 2 d.f_added d.fd_added ["one","other"] (sp_added K d):=by
 refine T.F_added.ok sc_added (fun vs H Q E h=>?_) (fun cdv A outer s H vs Q E hr h=>?_)
 ·obtain⟨a,b,ka,kb,f,g,rfl,_⟩:=h;rfl
 obtain⟨a,b,ka,kb,f,g,rfl,hRa,hb,hA,hB,za,zb,q⟩:=h
 refine⟨_,(qa2 (qag (i:=2) sc_added.nd rfl (Or.inl rfl) (qbw qd1 rfl T.z_dict PyProof.Rows.boot_dict (qa0 (pv 0) qa1)))
  (qa2 (ps_thA (qbf PassesOwn.never rfl (qe9 (pv 1)) (qav (i:=3) sc_added.nd rfl (Or.inl rfl)) (qa4 (qdl (qc5 hr) (pv 2) (pv 3) (qak qaz (qaa ((ok_amount_of T).mono (by decide)) hr rfl T.m_amount_of T.F_amount_of.kp T.b_amount_of .nil qaf (qa0 (pv 0) (qa0 (pv 3) qa1))) (qbs (qc5 hr) (pv 1) (pv 3) (fun _ _=>rfl))) rfl))))
  (qa4 (qae (pv 2))))),?_⟩
 walk_at "d"
 refine qac (σ:=[some (.ref a),some (.ref b),none,none]) rfl ?_
 left
 rename_i l hl
 have eb:=qa9 (o':=.dK ka) hb hl
 have nlb:l≠b:=(qa5 hb hl).symm
 refine r_itD eb fun o=>?_
 refine f_dict (fun i σ H'=>∃(k':List (Key × V)) (w:Option V),σ=[some (.ref a),some (.ref b),some (.ref l),w]∧SameBut b H H'∧H' b=some (.frz o (.dK kb))∧H' l=some (.dK k')∧k'.length≤1000+i∧AD k' (fun y=>if y∈(qdg kb).take i then qf8 f g y else f y))
  ⟨ka,none,rfl,SameBut.at (SameBut.of (qab hl _)),qa3,by rw [qa6 nlb];exact qa3,by omega,hA.cast fun z=>by simp⟩ ?_ ?_ ?_
 ·rintro i σ H' _ ⟨k',w,rfl,sb,fz,hl',_⟩;exact fz
 ·rintro i k v σ H' hk ⟨k',w,rfl,sb,fz,hl',hlen,hA'⟩
  obtain⟨z,n,rfl,rfl,hf,hzi⟩:=hB.at hk
  have hi:i < kb.length:=(List.getElem?_eq_some_iff.mp hk).1
  have hRb:Rd H' b (.dK kb):=.inr ⟨o,fz⟩
  have hRa':Rd H' a (.dK ka):=rd_in hRa hb sb fz
  show gName _ (.str z) _ _ _
  left
  refine⟨_,_,rfl,sb_put sb hl,by rw [qa6 nlb.symm];exact fz,qa3,?_,(hA'.put z _).cast fun y=>?_⟩
  ·have:=qbu k' (Sum.inr z) (.int (gN f z+n));omega
  ·exact step_put hzi (qf8 f g) f (by unfold qf8;rw [hf]) y
 ·rintro σ H' ⟨k',w,rfl,sb,fz,hl',_,hA'⟩
  refine r_thNx (thaw1 fz (qdd hb)) ?_
  left
  refine q l k' _ (qct hb sb) hl (by rw [qa6 nlb];exact hl') (hA'.cast fun y=>?_)
  exact step_end hB (qf8 f g) f (fun y e=>by unfold qf8;rw [e]) y
include T in
theorem ok_beyond:FnOk P w K mg base CX0 2 d.f_beyond d.fd_beyond ["one","other"] (sp_beyond K d):=by
 refine T.F_beyond.ok sc_beyond (fun vs H Q E h=>?_) (fun cdv A outer s H vs Q E hr h=>?_)
 ·obtain⟨a,b,ka,kb,f,g,rfl,_⟩:=h;rfl
 obtain⟨a,b,ka,kb,f,g,rfl,hRa,hRb,hA,hB,za,qn,qs⟩:=h
 refine⟨_,(qa2 (qbf PassesOwn.never rfl (qb6 (qad (qf6 rfl) rfl T.z_sorted PyProof.Rows.boot_sorted (qa0 (pv 0) qa1))) (qav (i:=2) sc_beyond.nd rfl (Or.inl rfl)) (qa4 (qbb (qan qfj (qbs (qc5 hr) (pv 0) (pv 2) (fun _ _=>rfl)) (qaa ((ok_amount_of T).mono (by decide)) hr rfl T.m_amount_of T.F_amount_of.kp T.b_amount_of .nil qaf (qa0 (pv 1) (qa0 (pv 2) qa1))) (qat _)) (qa4 (qae (pv 2))) qal)))
  (qa4 (qae qcv))),?_⟩
 walk_at "d"
 refine qac (σ:=[some (.ref a),some (.ref b),none]) rfl ?_
 left
 refine r_sortD hRa hA.keys (by rw [hA.klen];exact za) fun l ss hl hp hs=>?_
 have pw:=qe5 hs
 have hin:∀y,y∈ss↔f y≠none:=fun y=>(hp.mem_iff).trans (hA.kin y)
 left
 have sm:=qab hl (.lst (ss.map V.str))
 have hRa':=rd_new hRa hl (u:=.lst (ss.map V.str))
 have hRb':=rd_new hRb hl (u:=.lst (ss.map V.str))
 refine qf2 (xs:=ss.map V.str) (fun i σ H'=>H'=upd H l (.lst (ss.map V.str))∧(∃w,σ=[some (.ref a),some (.ref b),w])∧∀j y,j < i→ss[j]?=some y→¬viol f g y) ⟨rfl,⟨_,rfl⟩,fun j y hj=>absurd hj (Nat.not_lt_zero j)⟩ ?_ ?_ ?_
 ·rintro i σ H' _ ⟨rfl,_⟩;exact SqL.of qa3
 ·rintro i v σ H' hv ⟨rfl,⟨w,rfl⟩,hno⟩
  rw [zC] at hv
  obtain⟨z,hz,rfl⟩:=Option.map_eq_some_iff.mp hv
  have hfz:=(hin z).mp (zG hz)
  obtain⟨n,hn⟩:∃n,f z=some n:=by
   cases e:f z with
   |none=>exact absurd e hfz
   |some n=>exact⟨n,rfl⟩
  have gz:gN f z=n:=by unfold gN;rw [hn];rfl
  left
  refine i_2 (fun c=>?_) (fun c=>?_)
  ·left
   refine qs z _ sm ⟨hfz,by rw [gz];exact c⟩ fun y hy=>?_
   obtain⟨j,hj,e⟩:=zM.mp ((hin y).mpr hy.1)
   have hji:i≤j:=by
    rcases Nat.lt_or_ge j i with h|h
    ·exact absurd hy (hno j y h (by rw [zA hj,e]))
    ·exact h
   obtain⟨hi,ez⟩:=List.getElem?_eq_some_iff.mp hz
   rcases Nat.eq_or_lt_of_le hji with h|h
   ·subst h;rw [ez] at e;subst e;exact leS_refl _
   ·have:=zV.mp pw i j hi hj h
    rw [ez,e] at this;exact this
  ·left
   refine⟨rfl,⟨_,rfl⟩,fun j y hj hy=>?_⟩
   rcases Nat.lt_or_ge j i with h|h
   ·exact hno j y h hy
   ·have e:j=i:=by omega
    subst e
    rw [hz] at hy
    cases hy
    exact fun hv=>c (by have:=hv.2;rw [gz] at this;exact this)
 ·rintro σ H' ⟨rfl,⟨w,rfl⟩,hno⟩
  left
  refine qn _ sm fun y hy=>?_
  obtain⟨j,hj,e⟩:=zM.mp ((hin y).mpr hy.1)
  exact hno j y (by rw [zB];exact hj) (by rw [zA hj,e]) hy
theorem sum_sup {ts:List Pt} {ws:List Str} (h:∀t∈ts,∀z,t.f z≠none→z∈ws):∀f0:Str→Option Int,(∀z,f0 z≠none→z∈ws)→∀z,ts.foldl (fun f t=>qf8 f t.f) f0 z≠none→z∈ws:=by
 induction ts with
 |nil=>intro f0 h0 z hz;exact h0 z hz
 |cons t ts ih=>intro f0 h0 z hz;exact ih (fun t' ht=>h t' (zD _ ht)) (qf8 f0 t.f) (qdi h0 (h t (zH ..))) z hz
include T in
theorem ok_total_of:FnOk P w K mg base CX0 3 d.f_total_of d.fd_total_of ["many"] (sp_total_of K d):=by
 refine T.F_total_of.ok sc_total_of (fun vs H Q E h=>?_) (fun cdv A outer s H vs Q E hr h=>?_)
 ·obtain⟨L,ts,ws,rfl,_⟩:=h;rfl
 obtain⟨L,ts,ws,rfl,hS,hw,hts,q⟩:=h
 refine⟨_,(qa2 (qag (i:=1) sc_total_of.nd rfl (Or.inl rfl) qdx)
  (qa2 (qbf PassesOwn.never rfl (qb6 (pv 0)) (qav (i:=2) sc_total_of.nd rfl (Or.inl rfl)) (qa4 (qag (i:=1) sc_total_of.nd rfl (Or.inl rfl) (qaa ((ok_added T).mono (by decide)) hr rfl T.m_added T.F_added.kp T.b_added .nil qaf (qa0 (pv 1) (qa0 (pv 2) qa1))))))
  (qa4 (qae (pv 1))))),?_⟩
 walk_at "d"
 refine qac (σ:=[some (.ref L),none,none]) rfl ?_
 left
 rename_i l0 hl0
 refine qf2 (xs:=ts.map fun t=> .ref t.a) (fun i σ H'=>∃(l:Addr) (k':List (Key × V)) (w:Option V),σ=[some (.ref L),some (.ref l),w]∧qaq H H'∧H l=none∧H' l=some (.dK k')∧AD k' (qer (ts.take i))) ⟨l0, [],none,rfl,qab hl0 _,hl0,qa3,AD.nil⟩ ?_ ?_ ?_
 ·rintro i σ H' _ ⟨l,k',w,rfl,sm,_⟩;exact sm.seq hS
 ·rintro i v σ H' hv ⟨l,k',w,rfl,sm,hl,hl',hA'⟩
  rw [zC] at hv
  obtain⟨t,ht,rfl⟩:=Option.map_eq_some_iff.mp hv
  have hm:=zG ht
  obtain⟨h1,h2,h3⟩:=hts t hm
  have sup:∀z,qer (ts.take i) z≠none→z∈ws:=sum_sup (fun t' ht'=>(hts t' (List.mem_of_mem_take ht')).2.2) noF (fun z h=>absurd rfl h)
  have c1:=hA'.le sup
  have c2:=h2.le h3
  left
  refine⟨l,t.a,k',t.k,qer (ts.take i),t.f,rfl,.inl hl',sm _ _ h1,hA',h2,by omega,by omega,fun l2 k2 H2 sm2 hl2 e2 hA2=>?_⟩
  left
  refine⟨l2,k2,_,rfl,sm.trans sm2,sm.free hl2,e2,?_⟩
  have e:ts.take (i+1)=ts.take i++ [t]:=by rw [zS,ht];rfl
  rw [e]
  unfold qer
  rw [List.foldl_append]
  exact hA2
 ·rintro σ H' ⟨l,k',w,rfl,sm,hl,hl',hA'⟩
  rw [zB,zZ] at hA'
  left
  exact q l k' H' sm hl hl' hA'
include T in
theorem ok_Tree_line:FnOk P w K mg base (My.CX1 P w) 5 d.f_Tree_line d.fd_Tree_line ["self","name"] (sp_Tree_line K d):=by
 refine okX T.F_Tree_line sc_Tree_line (fun vs H Q E h=>?_) (fun cdv A outer s H vs Q E hr h=>?_)
 ·obtain⟨t,S,x,rfl,_⟩:=h;rfl
 obtain⟨t,S,x,rfl,hT,q⟩:=h
 refine⟨_,(qa2 (qag (i:=2) sc_Tree_line.nd rfl (Or.inl rfl) (qc3 (qa0 (pv 1) qa1)))
  (qa2 (qag (i:=3) sc_Tree_line.nd rfl (Or.inl rfl) (qap (pv 0) T.CL_Tree T.ME_Tree_elder_of ((ok_Tree_elder_of T).mono (by decide)) hr T.b_Tree_elder_of .nil qar (qa0 (pv 1) qa1)))
  (qa2 (ps_while (qec rfl rfl) (qan qfi (pv 3) qcv (qat _)) (qa2 (qas (qeb PySem.F.plainAttrs_list PySem.F.slot_list_append PySem.F.type_list_append qb8 (pv 2) (qa0 (pv 3) qa1)))
  (qa4 (qag (i:=3) sc_Tree_line.nd rfl (Or.inl rfl) (qap (pv 0) T.CL_Tree T.ME_Tree_elder_of ((ok_Tree_elder_of T).mono (by decide)) hr T.b_Tree_elder_of .nil qar (qa0 (pv 3) qa1))))))
  (qa4 (qae (pv 2)))))),?_⟩
 walk_at "d"
 refine qac (σ:=[some (.ref t),some (x),none,none]) rfl ?_
 have ct:=T.CL_Tree
 obtain⟨dx,ht⟩:=hT.1
 left
 rename_i l hl
 have sl:=qab hl (.lst [x])
 rcases q with ⟨z,zs,rfl,hL,hz,q⟩ |⟨hx,hn,q⟩
 ·obtain⟨e0,r0,h0,rfl,hr0⟩:=hL.open
  refine⟨t,S,.str z,rfl,hT.same sl,.inl ⟨z,rfl⟩,fun e he=>?_,fun he=>?_⟩
  ·have ee:e0=e:=Option.some.inj (h0.symm.trans he)
   subst ee
   left
   refine while_by (fun σ H'=>∃(ys rs:List Str) (o:Option Str),σ=[some (.ref t),some (.str z),some (.ref l),some (eV o)]∧H'=upd H l (.lst (ys.map V.str))∧ys++rs=z :: r0∧RestOf S o rs) (fun _ H'=>(r0.length+1) - lenAt l H') ⟨[z],r0,_,rfl,rfl,rfl,hr0⟩ ?_ ?_
   ·rintro σ H' ⟨ys,rs,o,rfl,rfl,hyr,hR⟩
    have hlen:=congrArg List.length hyr
    rw [zF,zN] at hlen
    have hz2:(z :: r0).length≤1000:=hz
    rw [zN] at hz2
    cases o with
    |none=>
     have:rs=[]:=hR
     subst this
     rw [yD] at hyr
     subst hyr
     rw [show eV none=V.non from rfl]
     left
     exact q l hl
    |some y=>
     obtain⟨e1,r1,h1,rfl,hr1⟩:=LineOf.open hR
     have sy:=qab hl (.lst (ys.map V.str))
     have eL:upd H l (.lst (ys.map V.str)) l=some (.lst (ys.map V.str)):=qa3
     have hzz:(ys.map V.str).length < sizeLine:=by rw [zB];show _ < 16777216;omega
     rw [show eV (some y)=V.str y from rfl]
     left
     rw [qb5]
     have s2:=qab hl (.lst (ys.map V.str++ [.str y]))
     have ht2:=s2 _ _ ht
     left
     refine⟨t,S,.str y,rfl,hT.same s2,.inl ⟨y,rfl⟩,fun e he=>?_,fun he=>?_⟩
     ·have ee:e1=e:=Option.some.inj (h1.symm.trans he)
      subst ee
      left
      rw [zN] at hlen
      refine⟨⟨ys++ [y],r1,_,rfl,by rw [zE];rfl,by rw [List.append_assoc];exact hyr,hr1⟩,?_⟩
      have g1:=lenAt_eq eL
      have g2:lenAt l (upd H l (.lst (ys.map V.str++ [V.str y])))=(ys.map V.str++ [V.str y]).length:=lenAt_eq qa3
      rw [zF,zB] at g2
      rw [zB] at g1
      rw [g1,g2]
      simp only [zN,yO]
      omega
     ·rw [show who S (.str y)=some e1 from h1] at he;cases he
   ·rintro σ H' Q1 Q2 hm ⟨v,hv,w,k,hk,hq⟩
    exact⟨v,hv,w,k,hk,hm _ _ hq⟩
  ·rw [show who S (.str z)=some e0 from h0] at he;cases he
 ·refine⟨t,S,x,rfl,hT.same sl,hx.same sl,fun e he=>?_,fun _=>q l hl⟩
  rw [hn] at he;cases he
theorem at_of {S:Ts} {e:He} (nd:(S.hl.map (·.n)).Nodup) (h:e∈S.hl):S.at e.n=some e:=by
 have q:qcw S.keys e.n=some e.a:=lookO_of (by unfold Ts.keys;rw [yN];exact nd) (zJ.mpr ⟨e,h,rfl⟩)
 unfold Ts.at
 revert nd h
 obtain⟨sw,ws,hs,hl⟩:=S
 dsimp only
 clear q
 intro nd h
 induction hl with
 |nil=>simp at h
 |cons y r ih=>
  rw [zQ,zX] at nd
  rw [yJ]
  rcases zK.mp h with h|h
  ·subst h;rw [decide_eq_true rfl]
  ·have ne:y.n≠e.n:=fun z=>nd.1 (by rw [z];exact zJ.mpr ⟨e,h,rfl⟩)
   rw [decide_eq_false ne]
   exact ih nd.2 h
theorem keys_at {S:Ts} {i:Nat} {k:Key} {v:V} (h:(oK S.keys)[i]?=some (k,v)):∃e,S.hl[i]?=some e∧k=Sum.inr e.n∧v=.ref e.a:=by
 unfold oK Ts.keys at h
 rw [zC,zC] at h
 cases q:S.hl[i]? with
 |none=>rw [q] at h;cases h
 |some e=>rw [q] at h;cases h;exact⟨e,rfl,rfl,rfl⟩
theorem qdz (S:Ts):(oK S.keys).length=S.hl.length:=by unfold oK Ts.keys;rw [zB,zB]
theorem dec_el {o:Option Str} {z:Str}:decide (eV o=V.str z)=decide (o=some z):=by
 cases o with
 |none=>rfl
 |some y=>
  by_cases h:y=z
  ·subst h;show decide (V.str y=V.str y)=_;rw [decide_eq_true rfl,decide_eq_true rfl]
  ·rw [decide_eq_false (fun q=>h (by cases q;rfl)),decide_eq_false (fun q=>h (Option.some.inj q))]
theorem scal_el {o:Option Str} {z:Str}:scal (eV o) (V.str z)=true:=by cases o <;> rfl
include T in
theorem ok_Tree_kids:FnOk P w K mg base (My.CX1 P w) 3 d.f_Tree_kids d.fd_Tree_kids ["self","name"] (sp_Tree_kids K d):=by
 refine okX T.F_Tree_kids sc_Tree_kids (fun vs H Q E h=>?_) (fun cdv A outer s H vs Q E hr h=>?_)
 ·obtain⟨t,S,x,rfl,_⟩:=h;rfl
 obtain⟨t,S,x,rfl,hT,hx,q1,q2⟩:=h
 refine⟨_,(qa2 (qas (qap (pv 0) T.CL_Tree T.ME_Tree_check_house ((ok_Tree_check_house T).mono (by decide)) hr T.b_Tree_check_house .nil qar (qa0 (pv 1) qa1)))
  (qa4 (qae (qad qf5 rfl T.z_sorted PyProof.Rows.boot_sorted (qa0 (pe_thV (qbt (caps:=[0,1]) (cn:=["self","name"]) (qbc rfl rfl (by rfl) (by rfl) rfl ⟨rfl,⟨rfl,trivial⟩⟩ (by rfl) rfl ⟨⟨rfl,rfl,rfl,rfl,_,rfl⟩,⟨⟨rfl,rfl,rfl,rfl,_,rfl⟩,trivial⟩⟩ (by decide)) rfl (qe9 (qao (pv 0) rfl)) (fun _ _ _ _=>(qds (qan qdu (qao (qbs (qc5 hr) (qao (pv 1) rfl) (pv 0) (fun _ _=>rfl)) rfl) (pv 2) (qat _)))) (fun _ _ _ _=>(pv 0)))) qa1))))),?_⟩
 walk_at "d"
 dsimp only [cxC]
 refine qac (σ:=[some (.ref t),some (x)]) rfl ?_
 have hT0:=hT
 obtain⟨⟨dx,ht⟩,hw,hh,nd,hz,hE⟩:=hT
 have ct:=T.CL_Tree
 have ch:=T.CL_House
 have nh:qaj K d.c_Tree "houses":=T.NA_Tree_houses
 have nf:qaj K d.c_House "elder":=T.NA_House_elder
 left
 refine⟨t,S,x,rfl,hT0,hx,fun e he=>?_,q2⟩
 obtain⟨z,rfl⟩:∃z,x=.str z:=by
  rcases hx with h|⟨_,nz⟩
  ·exact h
  ·rw [qcn nz] at he;cases he
 obtain⟨hme,rfl⟩:=qbr he
 left
 refine r_thV ?_
 left
 refine r_itD hh fun o=>?_
 intro C s0 H0 fp na hna
 have hF:upd H S.hs (.frz o (.dK (oK S.keys))) S.hs=some (.frz o (.dK (oK S.keys))):=qa3
 have sb:SameBut S.hs H (upd H S.hs (.frz o (.dK (oK S.keys)))):=sb_frz hh
 have ht2:=sb _ _ (ne_of ht hh (by intro z;cases z)) ht
 have hna0:H na=none:=by
  by_cases z:na=S.hs
  ·subst z;rw [hF] at hna;cases hna
  ·rw [qa6 z] at hna;exact hna
 have hE2:∀e∈S.hl,∃dx,upd H S.hs (.frz o (.dK (oK S.keys))) e.a=some (.ins d.c_House dx (fsH e.x)):=fun e he=>by
  obtain⟨⟨dx,q⟩,_⟩:=hE e he
  exact⟨dx,sb _ _ (ne_of q hh (by intro z;cases z)) q⟩
 generalize upd H S.hs (.frz o (.dK (oK S.keys)))=HF at*
 refine c_by S.hl.length (fun i H'=>H'=upd HF na (.lst ((((S.hl.take i).filter fun y=>decide (y.x.el=some e.n)).map (·.n)).map V.str))) rfl ?_ ?_ ?_ ?_
 ·rintro i H' hi rfl
  exact⟨qa9 hF hna,by rw [qdz];exact hi⟩
 ·rintro H' rfl
  exact⟨qa9 hF hna,by rw [qdz];exact Nat.le_refl _⟩
 ·rintro i H' v H'' hi rfl ⟨rfl,k,v',hk,rfl⟩
  obtain⟨y,hy,rfl,rfl⟩:=keys_at hk
  have hym:=zG hy
  obtain⟨dy,hya⟩:=hE2 y hym
  have nx:(S.hl.take (i+1)).filter (fun y=>decide (y.x.el=some e.n))=(S.hl.take i).filter (fun y=>decide (y.x.el=some e.n))++(if decide (y.x.el=some e.n)=true then [y] else []):=by
   rw [zS,hy,zW]
   congr 1
   simp only [Option.toList_some,zY,yL]
  have hlen:((S.hl.take i).filter (fun y=>decide (y.x.el=some e.n))).length≤S.hl.length:=Nat.le_trans (zP ..) (by rw [yB];omega)
  left
  refine r_dgO (h:=y.a) (rd_new (.inr ⟨o,hF⟩) hna) (by rw [qd6,at_of nd hym];rfl) ?_
  left
  refine⟨scal_el,?_⟩
  rw [dec_el]
  refine⟨_,rfl,?_⟩
  refine i_2 (fun c=>?_) (fun c=>?_)
  ·left
   rw [qb5,nx,if_pos (decide_eq_true c),zE,zE];rfl
  ·rw [nx,if_neg (by rw [decide_eq_false c];decide),yD]
 rintro H' rfl
 rw [zZ]
 have nns:na≠S.hs:=fun z=>by subst z;rw [hF] at hna;cases hna
 have eN:upd (upd HF na (.lst ((qb0 S e.n).map V.str))) S.hs (.dK (oK S.keys)) na=some (.lst ((qb0 S e.n).map V.str)):=by rw [qa6 nns];exact qa3
 have sm:qaq H (upd (upd HF na (.lst ((qb0 S e.n).map V.str))) S.hs (.dK (oK S.keys))):=qct hh (sb_put sb hna0)
 have hkl:(qb0 S e.n).length≤60:=by unfold qb0;rw [zB];exact Nat.le_trans (zP ..) hz
 refine⟨_,thaw1 (qa9 hF hna) (qdd hh),?_⟩
 show tNil _ (upd (upd HF na (.lst ((qb0 S e.n).map V.str))) S.hs (.dK (oK S.keys))) _
 generalize upd (upd HF na (.lst ((qb0 S e.n).map V.str))) S.hs (.dK (oK S.keys))=H3 at*
 left
 refine r_sortL (SqL.of eN) (by omega) fun l ss hl hp hs=>?_
 left
 exact q1 e he l ss _ (qdb sm hl) (sm.free hl) qa3 hp hs
theorem r_extend {H:Hp} {Q:VK} {l b:Addr} {xs zs:List V} (h:H l=some (.lst xs)) (hb:H b=some (.lst zs)) (hz:xs.length+zs.length≤sizeLine) (q:Q .non (upd H l (.lst (xs++zs)))):rExtend (.ref l) [.ref b] H Q:=⟨l,b,xs,zs,rfl,rfl,h,hb,hz,q⟩
def qf1 (parts:List (Str × List Str)):List Str:=(parts.map (·.2)).flatten
def Ben (S:Ts):Nat→Str→List Str→Prop
 |0,z,zs=>∃parts:List (Str × List Str),(parts.map (·.1)).Perm (qb0 S z)∧zs=z :: qf1 parts∧∀p∈parts,False
 |n+1,z,zs=>∃parts:List (Str × List Str),(parts.map (·.1)).Perm (qb0 S z)∧zs=z :: qf1 parts∧∀p∈parts,Ben S n p.1 p.2
def BenP (S:Ts):Nat→Str→List Str→Prop
 |0,z,zs=>∃(parts:List (Str × List Str)) (rest:List Str),(parts.map (·.1)++rest).Perm (qb0 S z)∧zs=z :: qf1 parts∧∀p∈parts,False
 |n+1,z,zs=>∃(parts:List (Str × List Str)) (rest:List Str),(parts.map (·.1)++rest).Perm (qb0 S z)∧zs=z :: qf1 parts∧∀p∈parts,BenP S n p.1 p.2
theorem Ben.part {S:Ts}:∀{n:Nat} {z:Str} {zs:List Str},Ben S n z zs→BenP S n z zs
 |0,_,_,⟨parts,a,b,c⟩=>⟨parts, [],by rw [yD];exact a,b,c⟩
 |n+1,_,_,⟨parts,a,b,c⟩=>⟨parts, [],by rw [yD];exact a,b,fun p hp=>Ben.part (c p hp)⟩
def BenK (S:Ts):Nat→Str→List Str→Prop
 |0,_,_=>False
 |n+1,z,zs=>Ben S n z zs
theorem ben_of {S:Ts} {n:Nat} {z:Str} {parts:List (Str × List Str)} (h:(parts.map (·.1)).Perm (qb0 S z)) (hp:∀p∈parts,BenK S n p.1 p.2):Ben S n z (z :: qf1 parts):=by
 cases n with
 |zero=>exact⟨parts,h,rfl,hp⟩
 |succ n=>exact⟨parts,h,rfl,hp⟩
theorem benP_of {S:Ts} {n:Nat} {z:Str} {parts:List (Str × List Str)} {rest:List Str} (h:(parts.map (·.1)++rest).Perm (qb0 S z)) (hp:∀p∈parts,BenK S n p.1 p.2):BenP S n z (z :: qf1 parts):=by
 cases n with
 |zero=>exact⟨parts,rest,h,rfl,hp⟩
 |succ n=>exact⟨parts,rest,h,rfl,fun p q=>Ben.part (hp p q)⟩
def Slim (S:Ts):Prop:=∀n z zs,BenP S n z zs→zs.length≤1000
def Dep (S:Ts):Nat→Str→Prop
 |0,z=>qb0 S z=[]
 |n+1,z=>∀y∈qb0 S z,Dep S n y
def sp_ben (n:Nat) (K:Frag) (d:Ad):Sp:=fun vs H Q E=>∃(t:Addr) (S:Ts) (x:V),vs=[.ref t,x]∧qd2 d H t S∧Slim S∧qdj K H x∧(∀e,who S x=some e→Dep S n e.n∧∀l zs H',qaq H H'→H l=none→H' l=some (.lst (zs.map V.str))→Ben S n e.n zs→Q (.ref l) H')∧(who S x=none→∀l,H l=none→E (.ref d.c_NoHouse) none (upd H l (.lst [x])))
theorem kid_at {S:Ts} {y z:Str} (nd:(S.hl.map (·.n)).Nodup) (h:y∈qb0 S z):∃e,S.at y=some e∧e.n=y:=by
 obtain⟨e,he,rfl⟩:=zJ.mp h
 exact⟨e,at_of nd (yE.mp he).1,rfl⟩
theorem flat_app (a b:List (Str × List Str)):qf1 (a++b)=qf1 a++qf1 b:=by unfold qf1;rw [zE,List.flatten_append]
theorem ben_step {P:Program} {w:World} {K:Frag} {mg:Str→Option Value} {base:Heap} {d:Ad} (T:Tx K mg d) (n:Nat) (spi:Sp) (IH:FnOk P w K mg base (My.CX1 P w) (3+n) d.f_Tree_beneath d.fd_Tree_beneath ["self","name"] spi)
  (use:∀(t:Addr) (S:Ts) (z y:Str) (e:He) (H:Hp) (Q:VK) (E:XK),qd2 d H t S→Slim S→Dep S n z→y∈qb0 S z→S.at y=some e→e.n=y→(∀l zs H',qaq H H'→H l=none→H' l=some (.lst (zs.map V.str))→BenK S n y zs→Q (.ref l) H')→spi [.ref t,.str y] H Q E):
  FnOk P w K mg base (My.CX1 P w) (3+n+1) d.f_Tree_beneath d.fd_Tree_beneath ["self","name"] (sp_ben n K d):=by
 refine okX T.F_Tree_beneath sc_Tree_beneath (fun vs H Q E h=>?_) (fun cdv A outer s H vs Q E hr h=>?_)
 ·obtain⟨t,S,x,rfl,_⟩:=h;rfl
 obtain⟨t,S,x,rfl,hT,hS,hx,q1,q2⟩:=h
 refine⟨_,(qa2 (qag (i:=2) sc_Tree_beneath.nd rfl (Or.inl rfl) (qc3 (qa0 (pv 1) qa1)))
  (qa2 (qbf (qec rfl rfl) rfl (qb6 (qap (pv 0) T.CL_Tree T.ME_Tree_kids ((ok_Tree_kids T).mono (by omega)) hr T.b_Tree_kids .nil qar (qa0 (pv 1) qa1))) (qav (i:=3) sc_Tree_beneath.nd rfl (Or.inl rfl)) (qa4 (qas (qeb PySem.F.plainAttrs_list PySem.F.slot_list_extend PySem.F.type_list_extend mt_extend (pv 2) (qa0 (qap (pv 0) T.CL_Tree T.ME_Tree_beneath IH hr T.b_Tree_beneath .nil qar (qa0 (pv 3) qa1)) qa1)))))
  (qa4 (qae (pv 2))))),?_⟩
 walk_at "d"
 refine qac (σ:=[some (.ref t),some (x),none,none]) rfl ?_
 have ct:=T.CL_Tree
 obtain⟨dx,ht⟩:=hT.1
 have nd:=hT.2.2.2.1
 left
 rename_i lt hlt
 have sl:=qab hlt (.lst [x])
 refine⟨t,S,x,rfl,hT.same sl,hx.same sl,fun e he=>?_,fun he=>q2 he lt hlt⟩
 obtain⟨hD,q⟩:=q1 e he
 obtain⟨z,rfl⟩:∃z,x=.str z:=by
  rcases hx with h|⟨_,nz⟩
  ·exact h
  ·rw [qcn nz] at he;cases he
 obtain⟨hme,rfl⟩:=qbr he
 intro lk ss H1 s1 hlk ek hp hs
 have eT:=s1 _ _ (qa3 (H:=H) (a:=lt) (o:=.lst [V.str e.n]))
 left
 have ntk:lk≠lt:=fun z=>by subst z;rw [qa3] at hlk;cases hlk
 refine qf2 (xs:=ss.map V.str) (fun i σ H'=>∃(parts:List (Str × List Str)) (w:Option V),σ=[some (.ref t),some (.str e.n),some (.ref lt),w]∧parts.map (·.1)=ss.take i∧(∀p∈parts,BenK S n p.1 p.2)∧qaq H H'∧H' lk=some (.lst (ss.map V.str))∧H' lt=some (.lst ((e.n :: qf1 parts).map V.str)))
  ⟨[],_,rfl,rfl,fun p hp=>absurd hp (by simp),sl.trans s1,ek,eT⟩ ?_ ?_ ?_
 ·rintro i σ H' _ ⟨parts,w,_,_,_,_,ek',_⟩;exact SqL.of ek'
 ·rintro i v σ H' hv ⟨parts,w,rfl,hps,hB,sm,ek',eT'⟩
  rw [zC] at hv
  obtain⟨y,hy,rfl⟩:=Option.map_eq_some_iff.mp hv
  have hyk:y∈qb0 S e.n:=hp.mem_iff.mp (zG hy)
  obtain⟨ey,h1,h2⟩:=kid_at nd hyk
  have ht':=sm _ _ ht
  left
  refine use t S e.n y ey H' _ _ (hT.same sm) hS hD hyk h1 h2 fun l zs H2 s2 hl el hBy=>?_
  have eT2:=s2 _ _ eT'
  have hps2:(parts++ [(y,zs)]).map (·.1)=ss.take (i+1):=by rw [zE,hps,zS,hy];rfl
  have hB2:∀p∈parts++ [(y,zs)],BenK S n p.1 p.2:=fun p hp=>by
   rcases zU.mp hp with h|h
   ·exact hB p h
   ·have:=zI.mp h
    subst this;exact hBy
  have ef:qf1 (parts++ [(y,zs)])=qf1 parts++zs:=by rw [flat_app];congr 1;simp [qf1]
  have hlen:=hS _ _ _ (benP_of (n:=n) (z:=e.n) (parts:=parts++ [(y,zs)]) (rest:=ss.drop (i+1)) (by rw [hps2,List.take_append_drop];exact hp) hB2)
  rw [ef,zN,zF] at hlen
  left
  refine r_extend eT2 el (by rw [zB,zB,zN];show _≤16777216;omega) ?_
  left
  refine⟨parts++ [(y,zs)],_,rfl,hps2,hB2,qbe (sm.trans s2) hlt,by rw [qa6 ntk];exact s2 _ _ ek',?_⟩
  rw [ef,←zE];exact qa3
 ·rintro σ H' ⟨parts,w,rfl,hps,hB,sm,ek',eT'⟩
  rw [zB,zZ] at hps
  left
  exact q lt _ H' sm hlt eT' (ben_of (by rw [hps];exact hp) hB)
theorem ok_none {P:Program} {w:World} {K:Frag} {mg:Str→Option Value} {base:Heap} {CX:CXT} {k:Nat} {f:Addr} {fd:FuncData} {ps:List Str}:FnOk P w K mg base CX k f fd ps (fun _ _ _ _=>False):=
 ⟨fun _ _ _ _ h=>h.elim,fun _ _ _ _ _ _ _ _ _ _ _ _ _ h=>h.elim⟩
theorem ok_ben {P:Program} {w:World} {K:Frag} {mg:Str→Option Value} {base:Heap} {d:Ad} (T:Tx K mg d):∀n:Nat,FnOk P w K mg base (My.CX1 P w) (3+n+1) d.f_Tree_beneath d.fd_Tree_beneath ["self","name"] (sp_ben n K d)
 |0=>ben_step T 0 (fun _ _ _ _=>False) ok_none fun t S z y e H Q E _ _ hD hy _ _ _=>by
  have:qb0 S z=[]:=hD
  rw [this] at hy;simp at hy
 |n+1=>ben_step T (n+1) (sp_ben n K d) (ok_ben T n) fun t S z y e H Q E hT hS hD hy h1 h2 q=>by
  refine⟨t,S,.str y,rfl,hT,hS,.inl ⟨y,rfl⟩,fun e' he'=>?_,fun he'=>?_⟩
  ·have ee:e=e':=Option.some.inj (h1.symm.trans he')
   subst ee
   rw [h2]
   exact⟨hD y hy,fun l zs H' sm hl el hB=>q l zs H' sm hl el hB⟩
  ·rw [show who S (.str y)=some e from h1] at he';cases he'
def sp_Tree_beneath (K:Frag) (d:Ad):Sp:=sp_ben 12 K d
include T in
theorem ok_Tree_beneath:FnOk P w K mg base (My.CX1 P w) 16 d.f_Tree_beneath d.fd_Tree_beneath ["self","name"] (sp_Tree_beneath K d):=ok_ben T 12
def upS (S:Ts) (y:Str):Option Str:=(S.at y).bind fun e=>e.x.el
def anc (S:Ts):Nat→Str→Option Str
 |0,y=>some y
 |k+1,y=>(upS S y).bind (anc S k)
theorem qd9 {S:Ts}:∀(i j:Nat) (y:Str),anc S (i+j) y=(anc S i y).bind (anc S j)
 |0,j,y=>by rw [Nat.zero_add];rfl
 |i+1,j,y=>by
  rw [show i+1+j=(i+j)+1 by omega]
  show (upS S y).bind (anc S (i+j))=((upS S y).bind (anc S i)).bind (anc S j)
  cases upS S y with
  |none=>rfl
  |some u=>exact qd9 i j u
def WF (S:Ts):Prop:=(S.hl.map (·.n)).Nodup∧∀e∈S.hl,∃zs,LineOf S e.n zs
theorem up_of {S:Ts} {z:Str} {e:He} (h:S.at z=some e):upS S z=e.x.el:=by unfold upS;rw [h];rfl
theorem line_end {S:Ts} {z:Str} {zs:List Str} (h:LineOf S z zs):anc S zs.length z=none:=by
 induction h with
 |top h n=>show (upS S _).bind _=none;rw [up_of h,n];rfl
 |up h n r ih=>show (upS S _).bind _=none;rw [up_of h,n];exact ih
theorem no_cycle {S:Ts} (w:WF S) {k:Nat} {z:Str}:anc S (k+1) z≠some z:=by
 intro c
 cases hz:S.at z with
 |none=>
  have:anc S (k+1) z=none:=by show (upS S z).bind _=none;unfold upS;rw [hz];rfl
  rw [this] at c;cases c
 |some e=>
  obtain⟨zs,hl⟩:=w.2 e (qbr hz).1
  rw [(qbr hz).2] at hl
  have he:=line_end hl
  have rep:∀m,anc S (m*(k+1)) z=some z:=by
   intro m
   induction m with
   |zero=>rw [Nat.zero_mul];rfl
   |succ m ih=>rw [Nat.succ_mul,qd9,ih];exact c
  have h1:=rep zs.length
  have h2:zs.length*(k+1)=zs.length+zs.length*k:=by rw [Nat.mul_add,Nat.mul_one];omega
  rw [h2,qd9,he] at h1
  cases h1
theorem kid_up {S:Ts} (w:WF S) {y z:Str} (h:y∈qb0 S z):upS S y=some z:=by
 obtain⟨e,he,rfl⟩:=zJ.mp h
 obtain⟨hm,hd⟩:=yE.mp he
 unfold upS
 rw [at_of w.1 hm]
 exact of_decide_eq_true hd
theorem kids_nodup {S:Ts} (w:WF S) (z:Str):(qb0 S z).Nodup:=by
 unfold qb0
 exact List.Nodup.sublist (List.Sublist.map _ List.filter_sublist) w.1
theorem ben_anc {S:Ts} (w:WF S):∀{n:Nat} {z:Str} {zs:List Str},BenP S n z zs→∀y∈zs,∃k,anc S k y=some z
 |0,z,_,⟨parts,rest,hp,rfl,hb⟩,y,hy=>by
  rcases zK.mp hy with rfl|hy
  ·exact⟨0,rfl⟩
  ·obtain⟨l,hl,_⟩:=yK.mp hy
   obtain⟨p,hpp,_⟩:=zJ.mp hl
   exact(hb p hpp).elim
 |n+1,z,_,⟨parts,rest,hp,rfl,hb⟩,y,hy=>by
  rcases zK.mp hy with rfl|hy
  ·exact⟨0,rfl⟩
  ·obtain⟨l,hl,hyl⟩:=yK.mp hy
   obtain⟨p,hpp,rfl⟩:=zJ.mp hl
   obtain⟨k,hk⟩:=ben_anc w (hb p hpp) y hyl
   have hu:=kid_up w (hp.mem_iff.mp (yI _ (zJ.mpr ⟨p,hpp,rfl⟩)))
   exact⟨k+1,by rw [qd9,hk];show (upS S p.1).bind _=_;rw [hu];rfl⟩
theorem apart {S:Ts} (w:WF S) {p q z y:Str} {i j:Nat} (hp:upS S p=some z) (hq:upS S q=some z) (ne:p≠q) (hi:anc S i y=some p) (hj:anc S j y=some q) (le:i≤j):False:=by
 obtain⟨c,rfl⟩:=Nat.exists_eq_add_of_le le
 rw [qd9,hi] at hj
 have hj':anc S c p=some q:=hj
 cases c with
 |zero=>exact ne (Option.some.inj hj')
 |succ c=>
  have h1:(upS S p).bind (anc S c)=some q:=hj'
  rw [hp] at h1
  have h2:anc S c z=some q:=h1
  refine no_cycle w (k:=c) (z:=z) ?_
  rw [qd9,h2]
  show (upS S q).bind _=_
  rw [hq];rfl
theorem qed {S:Ts} (w:WF S) {z:Str}:∀{parts:List (Str × List Str)},(parts.map (·.1)).Nodup→(∀p∈parts,upS S p.1=some z)→(∀p∈parts,p.2.Nodup∧∀y∈p.2,∃k,anc S k y=some p.1)→(qf1 parts).Nodup
 | [],_,_,_=>yM
 |p :: r,nd,hu,hb=>by
  rw [zQ,zX] at nd
  have ih:=qed w (z:=z) nd.2 (fun q hq=>hu q (zD _ hq)) fun q hq=>hb q (zD _ hq)
  show (p.2++qf1 r).Nodup
  rw [List.nodup_append]
  refine⟨(hb p (zH ..)).1,ih,fun a ha b hbm e=>?_⟩
  subst e
  obtain⟨l,hl,hal⟩:=yK.mp hbm
  obtain⟨q,hq,rfl⟩:=zJ.mp hl
  obtain⟨i,hi⟩:=(hb p (zH ..)).2 a ha
  obtain⟨j,hj⟩:=(hb q (zD _ hq)).2 a hal
  have ne:p.1≠q.1:=fun z=>nd.1 (by rw [z];exact zJ.mpr ⟨q,hq,rfl⟩)
  have up:=hu p (zH ..)
  have uq:=hu q (zD _ hq)
  rcases Nat.le_total i j with h|h
  ·exact apart w up uq ne hi hj h
  ·exact apart w uq up ne.symm hj hi h
theorem qcm {S:Ts} (w:WF S):∀{n:Nat} {z:Str} {zs:List Str},BenP S n z zs→zs.Nodup∧∀y∈zs,y=z∨y∈S.hl.map (·.n)
 |0,z,_,⟨parts,rest,hp,rfl,hb⟩=>by
  have:parts=[]:=by
   cases parts with
   |nil=>rfl
   |cons p r=>exact(hb p (zH ..)).elim
  subst this
  exact⟨by simp [qf1],fun y hy=> .inl (by simpa [qf1] using hy)⟩
 |n+1,z,_,⟨parts,rest,hp,rfl,hb⟩=>by
  have kd:=kids_nodup w z
  have hk:∀p∈parts,p.1∈qb0 S z:=fun p h=>hp.mem_iff.mp (yI _ (zJ.mpr ⟨p,h,rfl⟩))
  have hu:∀p∈parts,upS S p.1=some z:=fun p h=>kid_up w (hk p h)
  have hn:(parts.map (·.1)).Nodup:=(List.nodup_append.mp (hp.nodup_iff.mpr kd)).1
  have fl:=qed w (z:=z) hn hu fun p h=>⟨(qcm w (hb p h)).1,ben_anc w (hb p h)⟩
  refine⟨zX.mpr ⟨fun hm=>?_,fl⟩,fun y hy=>?_⟩
  ·obtain⟨l,hl,hal⟩:=yK.mp hm
   obtain⟨q,hq,rfl⟩:=zJ.mp hl
   obtain⟨k,hk'⟩:=ben_anc w (hb q hq) z hal
   refine no_cycle w (k:=k) (z:=z) ?_
   rw [qd9,hk']
   show (upS S q.1).bind _=_
   rw [hu q hq];rfl
  ·rcases zK.mp hy with rfl|hy
   ·exact .inl rfl
   ·obtain⟨l,hl,hal⟩:=yK.mp hy
    obtain⟨q,hq,rfl⟩:=zJ.mp hl
    have hq1:q.1∈S.hl.map (·.n):=by
     obtain⟨e,he,e1⟩:=zJ.mp (hk q hq)
     rw [←e1];exact zJ.mpr ⟨e,(yE.mp he).1,rfl⟩
    rcases(qcm w (hb q hq)).2 y hal with rfl|h
    ·exact .inr hq1
    ·exact .inr h
theorem slim_of {S:Ts} (w:WF S) (hz:S.hl.length≤60):Slim S:=fun n z zs h=>by
 obtain⟨nd,hm⟩:=qcm w h
 have:=nd_le (m:=z :: S.hl.map (·.n)) nd fun y hy=>by
  rcases hm y hy with rfl|h
  ·exact zH ..
  ·exact zD _ h
 rw [zN,zB] at this
 omega
def ptOf (S:Ts) (y:Str):Pt:=match S.at y with
 |some e=>⟨e.x.pa,e.x.kp,e.x.fp⟩
 |none=>⟨0, [],noF⟩
theorem qfg {S:Ts} {y:Str} {e:He} (h:S.at y=some e):ptOf S y=⟨e.x.pa,e.x.kp,e.x.fp⟩:=by unfold ptOf;rw [h]
def qfp (S:Ts):Prop:=S.ws.length≤100∧∀e∈S.hl,∀z,e.x.fp z≠none→z∈S.ws
def sp_Tree_promised_beneath (K:Frag) (d:Ad):Sp:=fun vs H Q E=>∃(t:Addr) (S:Ts) (x:V),vs=[.ref t,x]∧qd2 d H t S∧WF S∧qfp S∧qdj K H x∧
 (∀e,who S x=some e→Dep S 12 e.n∧∀l zs k' H',qaq H H'→H l=none→H' l=some (.dK k')→Ben S 12 e.n zs→AD k' (qer (zs.map (ptOf S)))→Q (.ref l) H')∧(who S x=none→∀l,H l=none→E (.ref d.c_NoHouse) none (upd H l (.lst [x])))
include T in
theorem ok_Tree_promised_beneath:FnOk P w K mg base (My.CX1 P w) 17 d.f_Tree_promised_beneath d.fd_Tree_promised_beneath ["self","name"] (sp_Tree_promised_beneath K d):=by
 refine okX T.F_Tree_promised_beneath sc_Tree_promised_beneath (fun vs H Q E h=>?_) (fun cdv A outer s H vs Q E hr h=>?_)
 ·obtain⟨t,S,x,rfl,_⟩:=h;rfl
 obtain⟨t,S,x,rfl,hT,hW,hO,hx,q1,q2⟩:=h
 refine⟨_,(qa4 (qae (qaa ((ok_total_of T).mono (by decide)) hr rfl T.m_total_of T.F_total_of.kp T.b_total_of .nil qaf (qa0 (qbt (caps:=[0]) (cn:=["self"]) (qbc rfl rfl (by rfl) (by rfl) rfl ⟨rfl,trivial⟩ (by rfl) rfl ⟨⟨rfl,rfl,rfl,rfl,_,rfl⟩,trivial⟩ (by decide)) rfl (qb6 (qap (pv 0) T.CL_Tree T.ME_Tree_beneath ((ok_Tree_beneath T).mono (by decide)) hr T.b_Tree_beneath .nil qar (qa0 (pv 1) qa1))) (fun _ _ _ _=>qd3) (fun _ _ _ _=>(qao (qbs (qc5 hr) (qao (pv 1) rfl) (pv 0) (fun _ _=>rfl)) rfl))) qa1)))),?_⟩
 walk_at "d"
 dsimp only [cxC]
 refine qac (σ:=[some (.ref t),some (x)]) rfl ?_
 have ct:=T.CL_Tree
 have ch:=T.CL_House
 have nh:qaj K d.c_Tree "houses":=T.NA_Tree_houses
 have nf:qaj K d.c_House "promise":=T.NA_House_promise
 obtain⟨dx,ht⟩:=hT.1
 have nd:=hT.2.2.2.1
 left
 refine⟨t,S,x,rfl,hT,slim_of hW hT.2.2.2.2.1,hx,fun e he=>⟨(q1 e he).1,?_⟩,q2⟩
 obtain⟨hD,q⟩:=q1 e he
 intro lb zs H1 s1 hlb eb hB
 left
 have hT1:=hT.same s1
 obtain⟨⟨_,ht1⟩,hw,hh,_,hz,hE⟩:=hT1
 have hbn:=qcm hW (Ben.part hB)
 have hzs:=slim_of hW hz 12 _ _ (Ben.part hB)
 have hin:∀y∈zs,∃ey,S.at y=some ey∧ey∈S.hl:=fun y hy=>by
  have hy':y∈S.hl.map (·.n):=by
   rcases hbn.2 y hy with rfl|h
   ·obtain⟨z,rfl⟩:∃z,x=.str z:=by
     rcases hx with h|⟨_,nz⟩
     ·exact h
     ·rw [qcn nz] at he;cases he
    exact zJ.mpr ⟨e,(qbr he).1,rfl⟩
   ·exact h
  obtain⟨ey,hm,rfl⟩:=zJ.mp hy'
  exact⟨ey,at_of nd hm,hm⟩
 intro C s0 H0 fp na hna
 refine c_by zs.length (fun i H'=>H'=upd H1 na (.lst (((zs.take i).map (ptOf S)).map fun u=> .ref u.a))) rfl ?_ ?_ ?_ ?_
 ·rintro i H' hi rfl
  exact⟨_,.str zs[i],SqL.of (qa9 eb hna),by rw [zC,zA hi];rfl⟩
 ·rintro H' rfl
  exact⟨_,SqL.of (qa9 eb hna),by rw [zB];exact Nat.le_refl _⟩
 ·rintro i H' v H'' hi rfl ⟨rfl,hy⟩
  have hv:=hy _ (SqL.of (qa9 eb hna))
  rw [zC,zA hi] at hv
  cases hv
  obtain⟨ey,h1,hm⟩:=hin _ (zL hi)
  obtain⟨⟨dy,hya⟩,_⟩:=hE ey hm
  left
  refine r_dgO (h:=ey.a) (rd_new (.inl hh) hna) (by rw [qd6,h1];rfl) ?_
  left
  rw [qb5,zS,zA hi]
  congr 2
  simp only [Option.toList_some,zE,zQ,List.map_nil,qfg h1]
 rintro H' rfl
 rw [zZ]
 have s2:=qab hna (.lst ((zs.map (ptOf S)).map fun u=>V.ref u.a))
 have eN:upd H1 na (.lst ((zs.map (ptOf S)).map fun u=>V.ref u.a)) na=some (.lst ((zs.map (ptOf S)).map fun u=>V.ref u.a)):=qa3
 left
 refine⟨na,zs.map (ptOf S),S.ws,rfl,SqL.of eN,hO.1,fun u hu=>?_,fun l k' H2 s3 hl el hA=>q l zs k' H2 ((s1.trans s2).trans s3) ((s1.trans s2).free hl) el hB hA⟩
 obtain⟨y,hy,rfl⟩:=zJ.mp hu
 obtain⟨ey,h1,hm⟩:=hin y hy
 obtain⟨_,hp,hA,_⟩:=hE ey hm
 rw [qfg h1]
 exact⟨s2 _ _ hp,hA,hO.2 ey hm⟩
include T in
theorem ok_i_NoPromise:FnOk P w K mg base CX0 1 d.f_i_NoPromise d.fd_i_NoPromise ["self","house","ware"] (fun _ _ _ _=>False):=ok_none
def sp_check_promises (K:Frag) (d:Ad):Sp:=fun vs H Q _=>∃(x:V) (a b:Addr) (ka kb:List (Key × V)) (f g:Str→Option Int),vs=[x,.ref a,.ref b]∧Rd H a (.dK ka)∧Rd H b (.dK kb)∧AD ka f∧AD kb g∧ka.length < 64∧(∀z n,f z=some n→n≤gN g z)∧∀H',qaq H H'→Q .non H'
include T in
theorem ok_check_promises:FnOk P w K mg base (My.CX1 P w) 3 d.f_check_promises d.fd_check_promises ["name","promises","cap"] (sp_check_promises K d):=by
 refine okX T.F_check_promises sc_check_promises (fun vs H Q E h=>?_) (fun cdv A outer s H vs Q E hr h=>?_)
 ·obtain⟨x,a,b,ka,kb,f,g,rfl,_⟩:=h;rfl
 obtain⟨x,a,b,ka,kb,f,g,rfl,ha,hb,hf,hg,hz,hw,q⟩:=h
 refine⟨_,(qa2 (qag (i:=3) sc_check_promises.nd rfl (Or.inl rfl) (qaa ((ok_beyond T).mono (by decide)) hr rfl T.m_beyond T.F_beyond.kp T.b_beyond .nil qaf (qa0 (pv 1) (qa0 (pv 2) qa1))))
  (qa4 (qbb (qan qfi (pv 3) qcv (qat _)) (qa4 (ps_raiseI rfl T.XI_NoPromise ((ok_i_NoPromise T).mono (by decide)) hr T.b_i_NoPromise rfl T.m_NoPromise qar (qa0 (pv 0) (qa0 (pv 3) qa1)))) qal))),?_⟩
 walk_at "d"
 refine qac (σ:=[some (x),some (.ref a),some (.ref b),none]) rfl ?_
 left
 refine⟨a,b,ka,kb,f,g,rfl,ha,hb,hf,hg,hz,fun H' sm _=>?_,fun z H' sm hv _=>?_⟩
 ·left
  exact q _ sm
 ·obtain⟨h1,h2⟩:=hv
  cases e:f z with
  |none=>exact absurd e h1
  |some n=>
   have h3:=hw z n e
   have h4:gN f z=n:=by unfold gN;rw [e];rfl
   omega
def sp_Tree_check_more (K:Frag) (d:Ad):Sp:=fun vs H Q _=>∃(t lb m:Addr) (S:Ts) (zs:List Str) (km:List (Key × V)) (fm:Str→Option Int),vs=[.ref t,.ref lb,.ref m]∧qd2 d H t S∧WF S∧qfp S∧SqL K H lb (zs.map V.str)∧H m=some (.dK km)∧AD km fm∧S.ws.length≤50∧(∀z,fm z≠none→z∈S.ws)∧
 (∀y∈zs,∃e,S.at y=some e∧Dep S 12 y∧∀bs,Ben S 12 y bs→∀z n,qf8 (qer (bs.map (ptOf S))) fm z=some n→n≤gN e.x.fc z)∧∀H',qaq H H'→Q .non H'
include T in
theorem ok_Tree_check_more:FnOk P w K mg base (My.CX1 P w) 18 d.f_Tree_check_more d.fd_Tree_check_more ["self","names","more"] (sp_Tree_check_more K d):=by
 refine okX T.F_Tree_check_more sc_Tree_check_more (fun vs H Q E h=>?_) (fun cdv A outer s H vs Q E hr h=>?_)
 ·obtain⟨t,lb,m,S,zs,km,fm,rfl,_⟩:=h;rfl
 obtain⟨t,lb,m,S,zs,km,fm,rfl,hT,hW,hO,hL,hm,hA,hws,hfm,hy,q⟩:=h
 refine⟨_,(qa4 (qbf (qec rfl rfl) rfl (qb6 (pv 1)) (qav (i:=3) sc_Tree_check_more.nd rfl (Or.inl rfl)) (qa4 (qas (qc0 ((ok_check_promises T).mono (by decide)) hr rfl T.m_check_promises T.F_check_promises.kp T.b_check_promises .nil qar (qa0 (pv 3) (qa0 (qaa ((ok_added T).mono (by decide)) hr rfl T.m_added T.F_added.kp T.b_added .nil qaf (qa0 (qap (pv 0) T.CL_Tree T.ME_Tree_promised_beneath ((ok_Tree_promised_beneath T).mono (by decide)) hr T.b_Tree_promised_beneath .nil qar (qa0 (pv 3) qa1)) (qa0 (pv 2) qa1))) (qa0 (qao (qbs (qc5 hr) (qao (pv 0) rfl) (pv 3) (fun _ _=>rfl)) rfl) qa1)))))))),?_⟩
 walk_at "d"
 refine qac (σ:=[some (.ref t),some (.ref lb),some (.ref m),none]) rfl ?_
 have ct:=T.CL_Tree
 have ch:=T.CL_House
 have nh:qaj K d.c_Tree "houses":=T.NA_Tree_houses
 have nf:qaj K d.c_House "cap":=T.NA_House_cap
 left
 refine qf2 (xs:=zs.map V.str) (fun i σ H'=>qaq H H'∧∃w,σ=[some (.ref t),some (.ref lb),some (.ref m),w]) ⟨qaq.refl _,_,rfl⟩ ?_ ?_ ?_
 ·rintro i σ H' _ ⟨sm,_⟩;exact sm.seq hL
 ·rintro i v σ H' hv ⟨sm,w,rfl⟩
  rw [zC] at hv
  obtain⟨y,hyi,rfl⟩:=Option.map_eq_some_iff.mp hv
  obtain⟨e,h1,hD,hb⟩:=hy y (zG hyi)
  obtain⟨dx,ht⟩:=(hT.same sm).1
  left
  have sup:∀bs:List Str,(∀b∈bs,∃eb,S.at b=some eb∧eb∈S.hl)→∀z,qer (bs.map (ptOf S)) z≠none→z∈S.ws:=fun bs hbs=>by
   refine sum_sup (fun u hu z hz=>?_) noF (fun z hz=>absurd rfl hz)
   obtain⟨b,hb1,rfl⟩:=zJ.mp hu
   obtain⟨eb,h3,h4⟩:=hbs b hb1
   rw [qfg h3] at hz
   exact hO.2 eb h4 z hz
  refine⟨t,S,.str y,rfl,hT.same sm,hW,hO,.inl ⟨y,rfl⟩,fun e' he'=>?_,fun hn=>?_⟩
  ·have ee:e=e':=Option.some.inj (h1.symm.trans he')
   subst ee
   have hme:=qbr h1
   rw [hme.2]
   refine⟨hD,fun l bs k' H2 s2 hl el hB hA2=>?_⟩
   have hbs:∀b∈bs,∃eb,S.at b=some eb∧eb∈S.hl:=fun b hb1=>by
    have hb2:b∈S.hl.map (·.n):=by
     rcases(qcm hW (Ben.part hB)).2 b hb1 with rfl|h
     ·exact zJ.mpr ⟨e,hme.1,hme.2⟩
     ·exact h
    obtain⟨eb,h3,rfl⟩:=zJ.mp hb2
    exact⟨eb,at_of hW.1 h3,h3⟩
   have l1:=hA2.le (sup bs hbs)
   have l2:=hA.le hfm
   left
   refine⟨l,m,k',km,_,fm,rfl,.inl el,(sm.trans s2) _ _ hm,hA2,hA,by omega,by omega,fun lx kx H3 s3 hlx elx hA3=>?_⟩
   have sx:=(sm.trans s2).trans s3
   obtain⟨⟨dx3,ht3⟩,_,hh3,_,_,hE3⟩:=hT.same sx
   obtain⟨⟨dh,ho⟩,_,_,hc,hcA⟩:=hE3 e hme.1
   left
   refine r_dgO (h:=e.a) (.inl hh3) (by rw [qd6,h1];rfl) ?_
   left
   refine⟨.str y,lx,e.x.ca,kx,e.x.kc,_,e.x.fc,rfl,.inl elx,.inl hc,hA3,hcA,?_,hb bs hB,fun H4 s4=>⟨sx.trans s4,_,rfl⟩⟩
   have l3:=hA3.le (ws:=S.ws) (qdi (sup bs hbs) hfm)
   omega
  ·rw [show who S (.str y)=some e from h1] at hn;cases hn
 ·rintro σ H' ⟨sm,w,rfl⟩
  left
  exact q _ sm
def sp_is_whole (K:Frag) (d:Ad):Sp:=fun vs H Q _=>(∃i:Int,vs=[.int i]∧Q (.bl true) H)∨(vs=[.non]∧Q (.bl false) H)
def sp_is_whole_from (K:Frag) (d:Ad):Sp:=fun vs H Q _=>∃i a b:Int,vs=[.int i,.int a,.int b]∧a≤i∧i≤b∧Q (.bl true) H
def sp_is_amount (K:Frag) (d:Ad):Sp:=fun vs H Q _=>∃i:Int,vs=[.int i]∧0≤i∧i≤10^30∧Q (.bl true) H
include T in
theorem ok_is_whole:FnOk P w K mg base CX0 1 d.f_is_whole d.fd_is_whole ["thing"] (sp_is_whole K d):=by
 refine T.F_is_whole.ok sc_is_whole (fun vs H Q E h=>?_) (fun cdv A outer s H vs Q E hr h=>?_)
 ·rcases h with ⟨i,rfl,_⟩ |⟨rfl,_⟩ <;> rfl
 rcases h with ⟨i,rfl,q⟩ |⟨rfl,q⟩
 ·refine⟨_,(qa4 (qae (qew (qad qbq rfl T.z_isinstance PyProof.Rows.boot_isinstance (qa0 (pv 0) (qa0 (qco (v:=.ty "int") rfl T.z_int PyProof.Rows.boot_int rfl) qa1))) (qea (pe_not (qad qbq rfl T.z_isinstance PyProof.Rows.boot_isinstance (qa0 (pv 0) (qa0 (qco (v:=.ty "bool") rfl T.z_bool PyProof.Rows.boot_bool rfl) qa1)))))))),?_⟩
  walk_at "d"
  refine qac (σ:=[some (.int i)]) rfl ?_
  left
  exact q
 refine⟨_,(qa4 (qae (qew (qad qbq rfl T.z_isinstance PyProof.Rows.boot_isinstance (qa0 (pv 0) (qa0 (qco (v:=.ty "int") rfl T.z_int PyProof.Rows.boot_int rfl) qa1))) (qea (pe_not (qad qbq rfl T.z_isinstance PyProof.Rows.boot_isinstance (qa0 (pv 0) (qa0 (qco (v:=.ty "bool") rfl T.z_bool PyProof.Rows.boot_bool rfl) qa1)))))))),?_⟩
 walk_at "d"
 refine qac (σ:=[some (.non)]) rfl ?_
 left
 exact q
include T in
theorem ok_is_whole_from:FnOk P w K mg base CX0 2 d.f_is_whole_from d.fd_is_whole_from ["thing","least","most"] (sp_is_whole_from K d):=by
 refine T.F_is_whole_from.ok sc_is_whole_from (fun vs H Q E h=>?_) (fun cdv A outer s H vs Q E hr h=>?_)
 ·obtain⟨i,a,b,rfl,_⟩:=h;rfl
 obtain⟨i,a,b,rfl,h1,h2,q⟩:=h
 refine⟨_,(qa4 (qae (qew (qaa ((ok_is_whole T).mono (by decide)) hr rfl T.m_is_whole T.F_is_whole.kp T.b_is_whole .nil qaf (qa0 (pv 0) qa1)) (qea (pe_chain op_le op_le (pv 1) (pv 0) (pv 2)))))),?_⟩
 walk_at "d"
 refine qac (σ:=[some (.int i),some (.int a),some (.int b)]) rfl ?_
 left
 refine .inl ⟨i,rfl,?_⟩
 left
 rw [decide_eq_true h2]
 exact q
include T in
theorem ok_is_amount:FnOk P w K mg base CX0 3 d.f_is_amount d.fd_is_amount ["thing"] (sp_is_amount K d):=by
 refine T.F_is_amount.ok sc_is_amount (fun vs H Q E h=>?_) (fun cdv A outer s H vs Q E hr h=>?_)
 ·obtain⟨i,rfl,_⟩:=h;rfl
 obtain⟨i,rfl,h1,h2,q⟩:=h
 refine⟨_,(qa4 (qae (qaa ((ok_is_whole_from T).mono (by decide)) hr rfl T.m_is_whole_from T.F_is_whole_from.kp T.b_is_whole_from .nil qaf (qa0 (pv 0) (qa0 qa8 (qa0 (qak op_pow qa8 qa8) qa1)))))),?_⟩
 walk_at "d"
 refine qac (σ:=[some (.int i)]) rfl ?_
 left
 refine⟨i,0,_,rfl,h1,?_,?_⟩
 ·exact h2
 left
 exact q
theorem qfn {z:Str} {ws:List Str} (h:z∈ws):inV (.str z) (ws.map V.str)=true:=by
 unfold inV
 rw [List.any_eq_true]
 exact⟨.str z,zJ.mpr ⟨z,h,rfl⟩,by simp [eqV]⟩
theorem r_notInT {K:Frag} {H:Hp} {Q:VK} {p:Addr} {z:Str} {ws:List Str} (hS:SqL K H p (ws.map V.str)) (h:z∈ws) (q:Q (.bl false) H):rIn K true (.str z) (.ref p) H Q:=by
 refine⟨p,_,rfl,.inl hS,rfl,?_,?_⟩
 ·rw [yF]
  intro x hx
  obtain⟨y,_,rfl⟩:=zJ.mp hx
  rfl
 ·rw [qfn h];exact q
def sp_amounts_of (K:Frag) (d:Ad):Sp:=fun vs H Q _=>∃(a w:Addr) (k:List (Key × V)) (f:Str→Option Int) (ws:List Str),vs=[.ref a,.ref w]∧H a=some (.dK k)∧AD k f∧k.length≤1000∧H w=some (.lst (ws.map V.str))∧(∀z n,f z=some n→z∈ws∧0≤n∧n≤10^30)∧
 ∀l k' H',qaq H H'→H l=none→H' l=some (.dK k')→AD k' (qce f)→Q (.ref l) H'
include T in
theorem ok_amounts_of:FnOk P w K mg base (My.CX1 P w) 4 d.f_amounts_of d.fd_amounts_of ["handed","wares"] (sp_amounts_of K d):=by
 refine okX T.F_amounts_of sc_amounts_of (fun vs H Q E h=>?_) (fun cdv A outer s H vs Q E hr h=>?_)
 ·obtain⟨a,w,k,f,ws,rfl,_⟩:=h;rfl
 obtain⟨a,w,kvs,f,ws,rfl,ha,hA,hz,hw,hf,q⟩:=h
 refine⟨_,(qa2 (qbb (qci (qbo (qad qbq rfl T.z_isinstance PyProof.Rows.boot_isinstance (qa0 (pv 0) (qa0 (qco (v:=.ty "dict") rfl T.z_dict PyProof.Rows.boot_dict rfl) qa1))))) (qa4 (qbv rfl T.X_NoAmount rfl T.m_NoAmount qar (qa0 qcq qa1))) qal)
  (qa2 (ps_thA (qbf (qec rfl rfl) rfl (qe9 (pv 0)) (qav (i:=2) sc_amounts_of.nd rfl (Or.inl rfl)) (qa4 (qbb (PW.pt (pw_or (qci (qbo (qad qbq rfl T.z_isinstance PyProof.Rows.boot_isinstance (qa0 (pv 2) (qa0 (qco (v:=.ty "str") rfl T.z_str PyProof.Rows.boot_str rfl) qa1))))) (pw_or1 (qan op_notIn_seq (pv 2) (pv 1) (by rfl))))) (qa4 (qbv rfl T.X_NoWare rfl T.m_NoWare qar (qa0 qcq qa1))) qal))))
  (qa2 (ps_thA (qbf (qec rfl rfl) rfl (qe9 (pv 0)) (qav (i:=3) sc_amounts_of.nd rfl (Or.inl rfl)) (qa4 (qbb (qci (qbo (qaa ((ok_is_amount T).mono (by decide)) hr rfl T.m_is_amount T.F_is_amount.kp T.b_is_amount .nil qaf (qa0 (qbs (qc5 hr) (pv 0) (pv 3) (fun _ _=>rfl)) qa1)))) (qa4 (qbv rfl T.X_NoAmount rfl T.m_NoAmount qar (qa0 qcq qa1))) qal))))
  (qa4 (qae (qaa ((ok_above_nought T).mono (by decide)) hr rfl T.m_above_nought T.F_above_nought.kp T.b_above_nought .nil qaf (qa0 (pv 0) qa1))))))),?_⟩
 walk_at "d"
 refine qac (σ:=[some (.ref a),some (.ref w),none,none]) rfl ?_
 left
 refine r_itD ha fun o=>?_
 have hwa:w≠a:=ne_of hw ha (by intro z;cases z)
 refine f_dict (fun i σ H'=>H'=upd H a (.frz o (.dK kvs))∧∃w2 w3,σ=[some (.ref a),some (.ref w),w2,w3]) ⟨rfl,_,_,rfl⟩ ?_ ?_ ?_
 ·rintro i σ H' _ ⟨rfl,_⟩;exact qa3
 ·rintro i k v σ H' hk ⟨rfl,w2,w3,rfl⟩
  obtain⟨z,n,rfl,rfl,hfz,hzi⟩:=hA.at hk
  have hw':upd H a (.frz o (.dK kvs)) w=some (.lst (ws.map V.str)):=by rw [qa6 hwa];exact hw
  show gName _ (.str z) _ _ _
  left
  refine r_notInT (SqL.of hw') (hf z n hfz).1 ?_
  left
  exact⟨rfl,_,_,rfl⟩
 ·rintro σ H' ⟨rfl,w2,w3,rfl⟩
  refine r_thNx (thaw1 qa3 (qdd ha)) ?_
  have s2:=qct ha (sb_frz (o:=o) ha)
  have ha2:upd (upd H a (.frz o (.dK kvs))) a (.dK kvs) a=some (.dK kvs):=qa3
  generalize upd (upd H a (.frz o (.dK kvs))) a (.dK kvs)=H2 at*
  left
  refine r_itD ha2 fun o2=>?_
  refine f_dict (fun i σ H'=>H'=upd H2 a (.frz o2 (.dK kvs))∧∃w3,σ=[some (.ref a),some (.ref w),w2,w3]) ⟨rfl,_,rfl⟩ ?_ ?_ ?_
  ·rintro i σ H' _ ⟨rfl,_⟩;exact qa3
  ·rintro i k v σ H' hk ⟨rfl,w3,rfl⟩
   obtain⟨z,n,rfl,rfl,hfz,hzi⟩:=hA.at hk
   have hRd:Rd (upd H2 a (.frz o2 (.dK kvs))) a (.dK kvs):=.inr ⟨o2,qa3⟩
   show gName _ (.str z) _ _ _
   left
   refine⟨n,rfl,(hf z n hfz).2.1,(hf z n hfz).2.2,?_⟩
   left
   exact⟨rfl,_,rfl⟩
  ·rintro σ H' ⟨rfl,w3,rfl⟩
   refine r_thNx (thaw1 qa3 ?_) ?_
   ·exact qdd ha
   have s3:=qct ha2 (sb_frz (o:=o2) ha2)
   have ha3:upd (upd H2 a (.frz o2 (.dK kvs))) a (.dK kvs) a=some (.dK kvs):=qa3
   generalize upd (upd H2 a (.frz o2 (.dK kvs))) a (.dK kvs)=H3 at*
   left
   refine⟨a,kvs,f,rfl,ha3,hA,hz,fun l k' H4 s4 hl el hA4=>?_⟩
   left
   exact q l k' H4 ((s2.trans s3).trans s4) ((s2.trans s3).free hl) el hA4
def sp_House_init (K:Frag) (d:Ad):Sp:=fun vs H Q _=>∃(x dx:Addr) (o:Ho),vs=[.ref x,eV o.el,.ref o.pa,.ref o.ca,.int o.w]∧H x=some (.ins d.c_House dx [])∧∀H',H' x=some (.ins d.c_House dx (fsH o))→SameBut x H H'→Q .non H'
include T in
theorem ok_House_init:FnOk P w K mg base CX0 1 d.f_House_init d.fd_House_init ["self","elder","promise","cap","weight"] (sp_House_init K d):=by
 refine T.F_House_init.ok sc_House_init (fun vs H Q E h=>?_) (fun cdv A outer s H vs Q E hr h=>?_)
 ·obtain⟨x,dx,o,rfl,_⟩:=h;rfl
 obtain⟨x,dx,o,rfl,hx,q⟩:=h
 refine⟨_,(qa2 (qc8 (pv 0) (pv 1) rfl)
  (qa2 (qc8 (pv 0) (pv 2) rfl)
  (qa2 (qc8 (pv 0) (pv 3) rfl)
  (qa4 (qc8 (pv 0) (pv 4) rfl))))),?_⟩
 walk_at "d"
 refine qac (σ:=[some (.ref x),some (eV o.el),some (.ref o.pa),some (.ref o.ca),some (.int o.w)]) rfl ?_
 have cl:=T.CL_House
 have n1:qaj K d.c_House "elder":=T.NA_House_elder
 have n2:qaj K d.c_House "promise":=T.NA_House_promise
 have n3:qaj K d.c_House "cap":=T.NA_House_cap
 have n4:qaj K d.c_House "weight":=T.NA_House_weight
 left
 refine qe6 qa3 cl n2 (by show 1 < 1000;decide) ?_
 left
 refine qe6 qa3 cl n3 (by show 2 < 1000;decide) ?_
 left
 refine qe6 qa3 cl n4 (by show 3 < 1000;decide) ?_
 left
 refine q _ (by rw [qa3];rfl) fun b u hb e=>?_
 rw [qa6 hb,qa6 hb,qa6 hb,qa6 hb]
 exact e
def sp_read_house (K:Frag) (d:Ad):Sp:=fun vs H Q _=>∃(w a b:Addr) (el:Option Str) (ws:List Str) (ka kb:List (Key × V)) (f g:Str→Option Int) (wt:Int),vs=[.ref w,eV el,.ref a,.ref b,.int wt]∧H w=some (.lst (ws.map V.str))∧
 H a=some (.dK ka)∧AD ka f∧ka.length≤1000∧H b=some (.dK kb)∧AD kb g∧kb.length≤1000∧(∀z n,f z=some n→z∈ws∧0≤n∧n≤10^30)∧(∀z n,g z=some n→z∈ws∧0≤n∧n≤10^30)∧1≤wt∧wt≤1000∧
 ∀h o H',qaq H H'→H h=none→H o.pa=none→H o.ca=none→HoAt d H' h o→o.el=el→o.w=wt→(∀z,o.fp z=qce f z)→(∀z,o.fc z=qce g z)→Q (.ref h) H'
include T in
theorem ok_read_house:FnOk P w K mg base (My.CX1 P w) 5 d.f_read_house d.fd_read_house ["wares","elder","promise","cap","weight"] (sp_read_house K d):=by
 refine okX T.F_read_house sc_read_house (fun vs H Q E h=>?_) (fun cdv A outer s H vs Q E hr h=>?_)
 ·obtain⟨w,a,b,el,ws,ka,kb,f,g,wt,rfl,_⟩:=h;rfl
 obtain⟨w,a,b,el,ws,ka,kb,f,g,wt,rfl,hw,ha,hA,hz,hb,hB,hz2,hf,hg,w0,w1,q⟩:=h
 refine⟨_,(qa2 (qag (i:=5) sc_read_house.nd rfl (Or.inl rfl) (qc0 ((ok_amounts_of T).mono (by decide)) hr rfl T.m_amounts_of T.F_amounts_of.kp T.b_amounts_of .nil qar (qa0 (pv 2) (qa0 (pv 0) qa1))))
  (qa2 (qag (i:=6) sc_read_house.nd rfl (Or.inl rfl) (qc0 ((ok_amounts_of T).mono (by decide)) hr rfl T.m_amounts_of T.F_amounts_of.kp T.b_amounts_of .nil qar (qa0 (pv 3) (qa0 (pv 0) qa1))))
  (qa2 (qbb (qci (qbo (qaa ((ok_is_whole_from T).mono (by decide)) hr rfl T.m_is_whole_from T.F_is_whole_from.kp T.b_is_whole_from .nil qaf (qa0 (pv 4) (qa0 qa8 (qa0 (qdm rfl T.m_GREATEST_WEIGHT T.r_GREATEST_WEIGHT) qa1)))))) (qa4 (qbv rfl T.X_NoNumber rfl T.m_NoNumber qar (qa0 qcq qa1))) qal)
  (qa4 (qae (qfh T.MK_House ((ok_House_init T).mono (by decide)) hr rfl T.m_House T.b_House_init .nil qaf (qa0 (pv 1) (qa0 (pv 5) (qa0 (pv 6) (qa0 (pv 4) qa1)))))))))),?_⟩
 walk_at "d"
 refine qac (σ:=[some (.ref w),some (eV el),some (.ref a),some (.ref b),some (.int wt),none,none]) rfl ?_
 left
 refine⟨a,w,ka,f,ws,rfl,ha,hA,hz,hw,hf,fun lp kp H1 s1 hlp ep hAp=>?_⟩
 left
 refine⟨b,w,kb,g,ws,rfl,s1 _ _ hb,hB,hz2,s1 _ _ hw,hg,fun lc kc H2 s2 hlc ec hAc=>?_⟩
 left
 refine⟨wt,1,1000,rfl,w0,w1,?_⟩
 left
 intro x dx hx hdx ne
 have ep2:=s2 _ _ ep
 refine⟨x,dx,⟨el,lp,kp,qce f,lc,kc,qce g,wt⟩,rfl,qa3,fun H3 ex sb=>⟨rfl,?_⟩⟩
 have s3:qaq H2 H3:=fun c o hc=>sb c o (qa5 hc hx) (by rw [qa6 (qa5 hc hx),qa6 (qa5 hc hdx)];exact hc)
 left
 exact q x ⟨el,lp,kp,qce f,lc,kc,qce g,wt⟩ H3 ((s1.trans s2).trans s3) ((s1.trans s2).free hx) hlp (s1.free hlc) ⟨⟨dx,ex⟩,s3 _ _ ep2,hAp,s3 _ _ ec,hAc⟩ rfl rfl (fun _=>rfl) fun _=>rfl
theorem qbe {H H':Hp} {a:Addr} {o:HO} (s:qaq H H') (n:H a=none):qaq H (upd H' a o):=fun b u e=>by rw [qa6 (qa5 e n)];exact s b u e
def isL (c:Nat):Bool:=decide (97≤c) && decide (c≤122)
theorem inL:∀c:Nat,c < 128→(!(Builtin.Str.occurrences (Str.ofString "abcdefghijklmnopqrstuvwxyz") ⟨#[c]⟩ 0 (Str.ofString "abcdefghijklmnopqrstuvwxyz").length 1).isEmpty)=isL c:=by decide+kernel
def qdq (x:Str):List Nat:=x.cps.toList
def qd8 (x:Str):Bool:=decide (1≤x.length) && decide (x.length≤8) && (qdq x).all isL
theorem len_codes (x:Str):(qdq x).length=x.length:=by simp [qdq,Str.length]
theorem goodS_of {z:Str} (h:qd8 z=true):1≤z.length∧z.length≤8∧∀c∈qdq z,isL c=true:=by
 unfold qd8 at h
 rw [Bool.and_eq_true,Bool.and_eq_true,yF] at h
 exact⟨of_decide_eq_true h.1.1,of_decide_eq_true h.1.2,h.2⟩
theorem isL_lt {c:Nat} (h:isL c=true):c < 128:=by
 unfold isL at h
 rw [Bool.and_eq_true] at h
 have:=of_decide_eq_true h.2
 omega
def sp_is_name (K:Frag) (d:Ad):Sp:=fun vs H Q _=>∃z,vs=[.str z]∧qd8 z=true∧∀H',qaq H H'→Q (.bl true) H'
include T in
theorem ok_is_name:FnOk P w K mg base CX0 1 d.f_is_name d.fd_is_name ["thing"] (sp_is_name K d):=by
 refine T.F_is_name.ok sc_is_name (fun vs H Q E h=>?_) (fun cdv A outer s H vs Q E hr h=>?_)
 ·obtain⟨z,rfl,_⟩:=h;rfl
 obtain⟨z,rfl,hg,q⟩:=h
 obtain⟨h1,h8,hL⟩:=goodS_of hg
 have lz:=len_codes z
 refine⟨_,(qa2 (qbb (qci (qbo (qad qbq rfl T.z_isinstance PyProof.Rows.boot_isinstance (qa0 (pv 0) (qa0 (qco (v:=.ty "str") rfl T.z_str PyProof.Rows.boot_str rfl) qa1))))) (qa4 (qae qd5)) qal)
  (qa2 (qbb (PW.pt (pw_or (qan op_lt (qad call_lenS rfl T.z_len PySem.boot_len (qa0 (pv 0) qa1)) qa8 (qat _)) (pw_or1 (qan qfj (qad call_lenS rfl T.z_len PySem.boot_len (qa0 (pv 0) qa1)) (qdm rfl T.m_LONGEST_NAME T.r_LONGEST_NAME) (qat _))))) (qa4 (qae qd5)) qal)
  (qa4 (qae (qad (call_allB rfl) rfl T.z_all PyProof.Rows.boot_all (qa0 (qbt (caps:=[]) (cn:=[]) (qbc rfl rfl (by rfl) (by rfl) rfl trivial (by rfl) rfl trivial (by decide)) rfl (pi_str (pv 0)) (fun _ _ _ _=>qd3) (fun _ _ _ _=>(qdn op_inS (pv 0) (qdm rfl T.m_LETTERS T.r_LETTERS) (by rfl)))) qa1)))))),?_⟩
 walk_at "d"
 try dsimp only [cxC]
 refine qac (σ:=[some (.str z)]) rfl ?_
 left
 intro C s0 H0 fp acc hacc
 refine c_by z.length (fun i H'=>H'=upd H acc (.lst (((qdq z).take i).map fun c=>V.bl (isL c)))) (by simp) (fun i H' hi _=>hi) (fun H' _=>rfl) ?_ ?_
 ·rintro i H' v H'' hi rfl ⟨rfl,c,hc,rfl⟩
  have hc':(qdq z)[i]?=some c:=by unfold qdq;rw [Array.getElem?_toList];exact hc
  have c128:=isL_lt (hL c (zG hc'))
  left
  rw [inL c c128,qb5]
  congr 2
  rw [zS,hc',zE]
  rfl
 ·rintro H' rfl
  left
  have e1:((qdq z).take z.length).map (fun c=>V.bl (isL c))=((qdq z).map isL).map V.bl:=by
   rw [←lz,zZ,yN];rfl
  rw [e1]
  refine r_all (bs:=(qdq z).map isL) (SqL.of qa3) ?_
  have e2:((qdq z).map isL).all id=true:=by
   rw [List.all_map,yF]
   exact hL
  rw [e2]
  left
  exact q _ (qab hacc _)
def sp_check_name (K:Frag) (d:Ad):Sp:=fun vs H Q _=>∃z,vs=[.str z]∧qd8 z=true∧∀H',qaq H H'→Q .non H'
include T in
theorem ok_check_name:FnOk P w K mg base (My.CX1 P w) 2 d.f_check_name d.fd_check_name ["thing"] (sp_check_name K d):=by
 refine okX T.F_check_name sc_check_name (fun vs H Q E h=>?_) (fun cdv A outer s H vs Q E hr h=>?_)
 ·obtain⟨z,rfl,_⟩:=h;rfl
 obtain⟨z,rfl,hg,q⟩:=h
 refine⟨_,(qa4 (qbb (qci (qbo (qaa ((ok_is_name T).mono (by decide)) hr rfl T.m_is_name T.F_is_name.kp T.b_is_name .nil qaf (qa0 (pv 0) qa1)))) (qa4 (qbv rfl T.X_NoName rfl T.m_NoName qar (qa0 qcq qa1))) qal)),?_⟩
 walk_at "d"
 refine qac (σ:=[some (.str z)]) rfl ?_
 left
 refine⟨z,rfl,hg,fun H' sm=>?_⟩
 left
 exact q _ sm
structure GoodT (ws:List Str):Prop where
 lo:1≤ws.length
 hi:ws.length≤6
 ok:∀z∈ws,qd8 z=true
 nd:ws.Nodup
def sp_are_wares (K:Frag) (d:Ad):Sp:=fun vs H Q _=>∃(a:Addr) (ws:List Str),vs=[.ref a]∧H a=some (.lst (ws.map V.str))∧GoodT ws∧∀H',qaq H H'→Q (.bl true) H'
include T in
theorem ok_are_wares:FnOk P w K mg base CX0 2 d.f_are_wares d.fd_are_wares ["thing"] (sp_are_wares K d):=by
 refine T.F_are_wares.ok sc_are_wares (fun vs H Q E h=>?_) (fun cdv A outer s H vs Q E hr h=>?_)
 ·obtain⟨a,ws,rfl,_⟩:=h;rfl
 obtain⟨a,ws,rfl,ha,g,q⟩:=h
 have g1:=g.lo
 have g2:=g.hi
 have hl:(ws.map V.str).length=ws.length:=zB _
 refine⟨_,(qa2 (qbb (PW.pt (pw_or (qci (qbo (qad qbq rfl T.z_isinstance PyProof.Rows.boot_isinstance (qa0 (pv 0) (qa0 (qco (v:=.ty "list") rfl T.z_list PyProof.Rows.boot_list rfl) qa1))))) (pw_or (qan op_lt (qad qau rfl T.z_len PySem.boot_len (qa0 (pv 0) qa1)) qa8 (qat _)) (pw_or1 (qan qfj (qad qau rfl T.z_len PySem.boot_len (qa0 (pv 0) qa1)) (qdm rfl T.m_MOST_WARES T.r_MOST_WARES) (qat _)))))) (qa4 (qae qd5)) qal)
  (qa4 (qae (qew (qad (call_allB rfl) rfl T.z_all PyProof.Rows.boot_all (qa0 (qbt (caps:=[]) (cn:=[]) (qbc rfl rfl (by rfl) (by rfl) rfl trivial (by rfl) rfl trivial (by decide)) rfl (qb6 (pv 0)) (fun _ _ _ _=>qd3) (fun _ _ _ _=>(qaa ((ok_is_name T).mono (by decide)) hr rfl T.m_is_name T.F_is_name.kp T.b_is_name .nil qaf (qa0 (pv 0) qa1)))) qa1)) (qea (qdn qdu (qad call_lenT rfl T.z_len PySem.boot_len (qa0 (qbw call_setT rfl T.z_set PyProof.Rows.boot_set (qa0 (pv 0) qa1)) qa1)) (qad qau rfl T.z_len PySem.boot_len (qa0 (pv 0) qa1)) (qat _))))))),?_⟩
 walk_at "d"
 try dsimp only [cxC]
 refine qac (σ:=[some (.ref a)]) rfl ?_
 left
 intro C s0 H0 fp acc hacc
 refine c_by ws.length (fun i H'=>qaq H H'∧H' acc=some (.lst ((List.replicate i true).map V.bl))) ⟨qab hacc _,qa3⟩ ?_ ?_ ?_ ?_
 ·rintro i H' hi ⟨sm,_⟩
  exact⟨_,.str ws[i],SqL.of (sm _ _ ha),by rw [zC,zA hi];rfl⟩
 ·rintro H' ⟨sm,_⟩
  exact⟨_,SqL.of (sm _ _ ha),by rw [hl];exact Nat.le_refl _⟩
 ·rintro i H' v H'' hi ⟨sm,ea⟩ ⟨rfl,hy⟩
  have hv:=hy _ (SqL.of (sm _ _ ha))
  rw [zC,zA hi] at hv
  cases hv
  left
  refine⟨ws[i],rfl,g.ok _ (zL hi),fun H2 s2=>?_⟩
  refine⟨_,s2 _ _ ea,by rw [zB,List.length_replicate];show _ < 16777216;omega,qbe (sm.trans s2) hacc,?_⟩
  rw [qa3,List.replicate_succ',zE];rfl
 rintro H' ⟨sm,ea⟩
 left
 refine r_all (bs:=List.replicate ws.length true) (SqL.of ea) ?_
 have e2:(List.replicate ws.length true).all id=true:=by simp
 rw [e2]
 left
 refine r_setT (zs:=ws) (SqL.of (sm _ _ ha)) g.nd (by omega) fun c hc=>?_
 left
 refine r_lenT2 qa3 ?_
 left
 refine r_lenL (SqL.of (qa9 (sm _ _ ha) hc)) ?_
 left
 rw [hl,decide_eq_true rfl]
 exact q _ (sm.trans (qab hc _))
def Fin (ws:List Str) (f:Str→Option Int):Prop:=∀z n,f z=some n→z∈ws∧0≤n∧n≤10^30
theorem posF_some {f:Str→Option Int} {y:Str} {n:Int} (h:qce f y=some n):f y=some n∧0 < n:=by
 unfold qce at h
 cases e:f y with
 |none=>rw [e] at h;cases h
 |some m=>
  rw [e] at h
  by_cases c:0 < m
  ·have h':some m=some n:=by simpa [c] using h
   cases h'
   exact⟨rfl,c⟩
  ·exact absurd h (by simp [c])
theorem qdp {ws:List Str} {f:Str→Option Int} (hf:Fin ws f) (y:Str):gN (qce f) y=gN f y:=by
 unfold gN qce
 cases e:f y with
 |none=>rfl
 |some m=>
  have:=(hf y m e).2.1
  by_cases c:0 < m
  ·simp [c]
  ·have z:m=0:=by omega
   subst z
   rfl
theorem pos_le {ws:List Str} {f g:Str→Option Int} (hg:Fin ws g) (h:∀y,gN f y≤gN g y):∀z n,qce f z=some n→n≤gN (qce g) z:=fun z n e=>by
 have e1:=(posF_some e).1
 have:=h z
 rw [qdp hg]
 unfold gN at this ⊢
 rw [e1] at this
 exact this
theorem pos_in {ws:List Str} {f:Str→Option Int} (hf:Fin ws f):∀z,qce f z≠none→z∈ws:=fun z h=>by
 cases e:qce f z with
 |none=>exact absurd e h
 |some n=>exact(hf z n (posF_some e).1).1
def sp_Tree_init (K:Frag) (d:Ad):Sp:=fun vs H Q _=>∃(x dx w a b:Addr) (z:Str) (ws:List Str) (ka kb:List (Key × V)) (f g:Str→Option Int) (wt:Int),vs=[.ref x,.ref w,.str z,.ref a,.ref b,.int wt]∧H x=some (.ins d.c_Tree dx [])∧
 H w=some (.lst (ws.map V.str))∧GoodT ws∧qd8 z=true∧H a=some (.dK ka)∧AD ka f∧ka.length≤1000∧H b=some (.dK kb)∧AD kb g∧kb.length≤1000∧Fin ws f∧Fin ws g∧1≤wt∧wt≤1000∧(∀y,gN f y≤gN g y)∧
 ∀(S:Ts) (e:He) H',SameBut x H H'→qd2 d H' x S→H S.hs=none→H S.sw=none→H e.a=none→H e.x.pa=none→H e.x.ca=none→S.hl=[e]→e.n=z→e.x.el=none→e.x.w=wt→(∀y,e.x.fp y=qce f y)→(∀y,e.x.fc y=qce g y)→S.ws.Perm ws→PyProof.Rows.sortedS S.ws=true→Q .non H'
include T in
theorem ok_Tree_init:FnOk P w K mg base (My.CX1 P w) 6 d.f_Tree_init d.fd_Tree_init ["self","wares","name","promise","cap","weight"] (sp_Tree_init K d):=by
 refine okDX T.F_Tree_init sc_Tree_init (fun vs H Q E h=>?_) (fun cdv A outer s H vs Q E hr h=>?_)
 ·obtain⟨x,dx,w,a,b,z,ws,ka,kb,f,g,wt,rfl,_⟩:=h;rfl
 obtain⟨x,dx,w,a,b,z,ws,ka,kb,f,g,wt,rfl,hx,hw,gt,gz,ha,hA,za,hb,hB,zb,ff,fg,w0,w1,le,q⟩:=h
 have g2:=gt.hi
 refine⟨_,(qa2 (qbb (qci (qbo (qaa ((ok_are_wares T).mono (by decide)) hr rfl T.m_are_wares T.F_are_wares.kp T.b_are_wares .nil qaf (qa0 (pv 1) qa1)))) (qa4 (qbv rfl T.X_NoWare rfl T.m_NoWare qar (qa0 qcq qa1))) qal)
  (qa2 (qas (qc0 ((ok_check_name T).mono (by decide)) hr rfl T.m_check_name T.F_check_name.kp T.b_check_name .nil qar (qa0 (pv 2) qa1)))
  (qa2 (qag (i:=6) sc_Tree_init.nd rfl (Or.inl rfl) (qc0 ((ok_read_house T).mono (by decide)) hr rfl T.m_read_house T.F_read_house.kp T.b_read_house .nil qar (qa0 (pv 1) (qa0 qcv (qa0 (pv 3) (qa0 (pv 4) (qa0 (pv 5) qa1)))))))
  (qa2 (qas (qc0 ((ok_check_promises T).mono (by decide)) hr rfl T.m_check_promises T.F_check_promises.kp T.b_check_promises .nil qar (qa0 (pv 2) (qa0 (qao (pv 6) rfl) (qa0 (qao (pv 6) rfl) qa1)))))
  (qa2 (qc8 (pv 0) (qad qf5 rfl T.z_sorted PyProof.Rows.boot_sorted (qa0 (pv 1) qa1)) rfl)
  (qa4 (qc8 (pv 0) (pe_disp (pps_cons (pv 2) (pv 6) pps_nil) rfl rfl (by simp) (by decide)) rfl))))))),?_⟩
 walk_at "d"
 refine qac (σ:=[some (.ref x),some (.ref w),some (.str z),some (.ref a),some (.ref b),some (.int wt),none]) rfl ?_
 have ct:=T.CL_Tree
 have ch:=T.CL_House
 have n1:qaj K d.c_Tree "sorted_wares":=T.NA_Tree_sorted_wares
 have n2:qaj K d.c_Tree "houses":=T.NA_Tree_houses
 have n3:qaj K d.c_House "promise":=T.NA_House_promise
 have n4:qaj K d.c_House "cap":=T.NA_House_cap
 left
 refine⟨w,ws,rfl,hw,gt,fun H1 s1=>?_⟩
 left
 refine⟨z,rfl,gz,fun H2 s2=>?_⟩
 have t2:=s1.trans s2
 left
 refine⟨w,a,b,none,ws,ka,kb,f,g,wt,rfl,t2 _ _ hw,t2 _ _ ha,hA,za,t2 _ _ hb,hB,zb,ff,fg,w0,w1,fun h o H3 s3 nh np nc hO eel ew efp efc=>?_⟩
 obtain⟨⟨dh,ho⟩,hp,hpA,hc,hcA⟩:=id hO
 have efp':o.fp=qce f:=funext efp
 have efc':o.fc=qce g:=funext efc
 have lk:o.kp.length≤ws.length:=hpA.le (by rw [efp'];exact pos_in ff)
 left
 refine⟨.str z,o.pa,o.ca,o.kp,o.kc,o.fp,o.fc,rfl,.inl hp,.inl hc,hpA,hcA,by omega,by rw [efp',efc'];exact pos_le fg le,fun H4 s4=>?_⟩
 have t4:=(t2.trans s3).trans s4
 have hx4:=t4 _ _ hx
 have hO4:=hO.same s4
 left
 refine r_sortL (SqL.of (t4 _ _ hw)) (by omega) fun l ss hl hpm hs=>?_
 left
 rename_i p hpp
 rw [qb5]
 refine qe6 (qa9 qa3 hpp) ct n2 (by show 1 < 1000;decide) ?_
 left
 have npx:p≠x:=fun e=>by subst e;rw [qa3] at hpp;cases hpp
 have np4':upd H4 l (.lst (ss.map V.str)) p=none:=by rw [qa6 npx] at hpp;exact hpp
 have nlx:x≠l:=qa5 hx4 hl
 have npl:p≠l:=fun e=>by subst e;rw [qa3] at np4';cases np4'
 have np4:H4 p=none:=by rw [qa6 npl] at np4';exact np4'
 have sF:∀b u,b≠x→H4 b=some u→upd (upd (upd (upd H4 l (.lst (ss.map V.str))) x (.ins d.c_Tree dx (qdr "sorted_wares" (V.ref l) []))) p (.dK [(Sum.inr z,V.ref h)])) x (.ins d.c_Tree dx (qdr "houses" (V.ref p) (qdr "sorted_wares" (V.ref l) []))) b=some u:=fun b u hb e=>by
  rw [qa6 hb,qa6 (qa5 e np4),qa6 hb,qa6 (qa5 e hl)];exact e
 obtain⟨⟨dh4,ho4⟩,hp4,hpA4,hc4,hcA4⟩:=hO4
 refine q ⟨l,ss,p, [⟨z,h,o⟩]⟩ ⟨z,h,o⟩ _ (fun b u hb e=>sF b u hb (t4 _ _ e)) ⟨⟨dx,by rw [qa3];rfl⟩,?_,?_,zX.mpr ⟨by simp,yM⟩,by show 1≤60;decide,fun e he=>?_⟩ (t4.free np4) (t4.free hl) (t2.free nh) (t2.free np) (t2.free nc) rfl rfl eel ew efp efc hpm hs
 ·show upd _ _ _ l=_
  rw [qa6 nlx.symm,qa6 npl.symm,qa6 nlx.symm,qa3]
 ·show upd _ _ _ p=_
  rw [qa6 npx,qa3]
  rfl
 ·have e':e=⟨z,h,o⟩:=by simpa using he
  subst e'
  have n1:∀{b:Addr} {u:HO},H4 b=some u→u≠ .ins d.c_Tree dx []→b≠x:=fun e1 e2 e3=>by
   subst e3;rw [hx4] at e1;exact e2 (Option.some.inj e1).symm
  refine⟨⟨dh4,sF _ _ (n1 ho4 fun e=>?_) ho4⟩,sF _ _ (n1 hp4 fun e=>by cases e) hp4,hpA4,sF _ _ (n1 hc4 fun e=>by cases e) hc4,hcA4⟩
  have:=congrArg (fun u:HO=>match u with| .ins _ _ fs=>fs.length|_=>0) e
  simp [fsH] at this
def upL (el:Nat→Nat):Nat→Nat→List Nat
 |0,k=> [k]
 |f+1,k=>k ::(if k=0 then [] else upL el f (el k))
def qai (el:Nat→Nat) (k:Nat):List Nat:=upL el k k
def Low (el:Nat→Nat) (n:Nat):Prop:=∀k,0 < k→k < n→el k < k
theorem upL_eq {el:Nat→Nat} {n:Nat} (lo:Low el n):∀(f k:Nat),k < n→k≤f→upL el f k=qai el k:=by
 intro f
 induction f using Nat.strongRecOn with
 |ind f ih=>
  intro k kn kf
  cases f with
  |zero=>have:k=0:=(by omega);subst this;rfl
  |succ f=>
   cases k with
   |zero=>rfl
   |succ k=>
    have l:=lo (k+1) (by omega) kn
    show (k+1) ::(if k+1=0 then [] else upL el f (el (k+1)))=(k+1) ::(if k+1=0 then [] else upL el k (el (k+1)))
    rw [if_neg (by omega),if_neg (by omega),ih f (by omega) (el (k+1)) (by omega) (by omega)]
    rcases Nat.lt_or_ge k f with h|h
    ·rw [ih k (by omega) (el (k+1)) (by omega) (by omega)]
    ·have:f=k:=by omega
     subst this
     rw [ih f (by omega) (el (f+1)) (by omega) (by omega)]
theorem qck (el:Nat→Nat):qai el 0=[0]:=rfl
theorem qc1 {el:Nat→Nat} {n k:Nat} (lo:Low el n) (k0:0 < k) (kn:k < n):qai el k=k :: qai el (el k):=by
 cases k with
 |zero=>omega
 |succ k=>
  have l:=lo (k+1) k0 kn
  show (k+1) ::(if k+1=0 then [] else upL el k (el (k+1)))=_
  rw [if_neg (by omega),upL_eq lo k _ (by omega) (by omega)]
theorem qef {el:Nat→Nat} {n:Nat} (lo:Low el n):∀k,k < n→(qai el k).length≤k+1:=by
 intro k
 induction k using Nat.strongRecOn with
 |ind k ih=>
  intro kn
  cases k with
  |zero=>exact Nat.le_refl _
  |succ k=>
   have l:=lo (k+1) (by omega) kn
   rw [qc1 lo (by omega) kn,zN]
   have:=ih (el (k+1)) l (by omega)
   omega
theorem qcl {el:Nat→Nat} {n k:Nat} (lo:Low el n) (kn:k < n):k∈qai el k:=by
 cases k with
 |zero=>exact zH ..
 |succ k=>rw [qc1 lo (by omega) kn];exact zH ..
theorem qdy {el:Nat→Nat} {n:Nat} (lo:Low el n):∀k,k < n→∀j∈qai el k,j≤k:=by
 intro k
 induction k using Nat.strongRecOn with
 |ind k ih=>
  intro kn j hj
  cases k with
  |zero=>rw [qck] at hj;simp at hj;omega
  |succ k=>
   have l:=lo (k+1) (by omega) kn
   rw [qc1 lo (by omega) kn] at hj
   rcases zK.mp hj with h|h
   ·omega
   ·have:=ih (el (k+1)) l (by omega) j h
    omega
theorem lineN_in {el:Nat→Nat} {n:Nat} (lo:Low el n) {j:Nat} (j0:0 < j):∀k,k < n→j∈qai el k→el j∈qai el k:=by
 intro k
 induction k using Nat.strongRecOn with
 |ind k ih=>
  intro kn hj
  cases k with
  |zero=>rw [qck] at hj;simp at hj;omega
  |succ k=>
   have l:=lo (k+1) (by omega) kn
   rw [qc1 lo (by omega) kn] at hj ⊢
   rcases zK.mp hj with h|h
   ·subst h;exact zD _ (qcl lo (by omega))
   ·exact zD _ (ih (el (k+1)) l (by omega) h)
structure Pl (S:Ts) (nm:Nat→Str) (el:Nat→Nat) (n:Nat):Prop where
 len:S.hl.length=n
 nam:∀k e,S.hl[k]?=some e→e.n=nm k∧e.x.el=if k=0 then none else some (nm (el k))
 inj:∀i j,i < n→j < n→nm i=nm j→i=j
 low:Low el n
section
variable {S : Ts} {nm : Nat → Str} {el : Nat → Nat} {n : Nat}
theorem Pl.get (p:Pl S nm el n) {k:Nat} (kn:k < n):∃e,S.hl[k]?=some e∧e.n=nm k∧e.x.el=if k=0 then none else some (nm (el k)):=by
 have h:k < S.hl.length:=by rw [p.len];exact kn
 have e:=zA h
 exact⟨_,e,p.nam k _ e⟩
theorem Pl.ix (p:Pl S nm el n) {e:He} (h:e∈S.hl):∃k,k < n∧S.hl[k]?=some e∧e.n=nm k∧e.x.el=if k=0 then none else some (nm (el k)):=by
 obtain⟨k,hk,q⟩:=zM.mp h
 have e1:S.hl[k]?=some e:=by rw [zA hk,q]
 exact⟨k,by rw [←p.len];exact hk,e1,p.nam k e e1⟩
theorem Pl.nodup (p:Pl S nm el n):(S.hl.map (·.n)).Nodup:=by
 show List.Pairwise _ _
 rw [List.pairwise_map,zV]
 intro i j hi hj lt q
 have h1:=(p.nam i _ (zA hi)).1
 have h2:=(p.nam j _ (zA hj)).1
 have:=p.inj i j (by rw [←p.len];exact hi) (by rw [←p.len];exact hj) (by rw [←h1,←h2];exact q)
 omega
theorem Pl.at (p:Pl S nm el n) {k:Nat} (kn:k < n):∃e,S.at (nm k)=some e∧S.hl[k]?=some e∧e.x.el=if k=0 then none else some (nm (el k)):=by
 obtain⟨e,h1,h2,h3⟩:=p.get kn
 have:=at_of p.nodup (zG h1)
 rw [h2] at this
 exact⟨e,this,h1,h3⟩
theorem Pl.line (p:Pl S nm el n):∀k,k < n→LineOf S (nm k) ((qai el k).map nm):=by
 intro k
 induction k using Nat.strongRecOn with
 |ind k ih=>
  intro kn
  obtain⟨e,h1,_,h3⟩:=p.at kn
  cases k with
  |zero=>exact .top h1 h3
  |succ k=>
   have l:=p.low (k+1) (by omega) kn
   rw [if_neg (by omega)] at h3
   rw [qc1 p.low (by omega) kn,zQ]
   exact .up h1 h3 (ih _ l (by omega))
theorem Pl.wf (p:Pl S nm el n):WF S:=⟨p.nodup,fun e he=>by
 obtain⟨k,kn,_,h,_⟩:=p.ix he
 rw [h]
 exact⟨_,p.line k kn⟩⟩
theorem Pl.kid (p:Pl S nm el n) {j:Nat} {y:Str} (jn:j < n) (h:y∈qb0 S (nm j)):∃k,0 < k∧k < n∧el k=j∧y=nm k:=by
 obtain⟨e,he,rfl⟩:=zJ.mp h
 obtain⟨hm,hd⟩:=yE.mp he
 obtain⟨k,kn,_,h1,h2⟩:=p.ix hm
 have hd':e.x.el=some (nm j):=of_decide_eq_true hd
 rw [h2] at hd'
 by_cases z:k=0
 ·rw [if_pos z] at hd';cases hd'
 ·rw [if_neg z] at hd'
  have l:=p.low k (by omega) kn
  exact⟨k,by omega,kn,p.inj _ _ (by omega) jn (Option.some.inj hd'),h1⟩
theorem Pl.dep (p:Pl S nm el n):∀m j,j < n→n≤j+m+1→Dep S m (nm j):=by
 intro m
 induction m with
 |zero=>
  intro j jn hn
  show qb0 S (nm j)=[]
  cases e:qb0 S (nm j) with
  |nil=>rfl
  |cons y r=>
   obtain⟨k,k0,kn,ke,_⟩:=p.kid jn (y:=y) (by rw [e];exact zH ..)
   have:=p.low k k0 kn
   omega
 |succ m ih=>
  intro j jn hn y hy
  obtain⟨k,k0,kn,ke,rfl⟩:=p.kid jn hy
  have:=p.low k k0 kn
  exact ih k kn (by omega)
theorem Pl.ben (p:Pl S nm el n):∀(m j:Nat) (zs:List Str),j < n→BenP S m (nm j) zs→∀y∈zs,∃k,k < n∧y=nm k∧j∈qai el k:=by
 intro m
 induction m with
 |zero=>
  rintro j _ jn ⟨parts,rest,hp,rfl,hb⟩ y hy
  rcases zK.mp hy with h|h
  ·exact⟨j,jn,h,qcl p.low jn⟩
  ·obtain⟨l,hl,_⟩:=yK.mp h
   obtain⟨q,hq,_⟩:=zJ.mp hl
   exact(hb q hq).elim
 |succ m ih=>
  rintro j _ jn ⟨parts,rest,hp,rfl,hb⟩ y hy
  rcases zK.mp hy with h|h
  ·exact⟨j,jn,h,qcl p.low jn⟩
  ·obtain⟨l,hl,hyl⟩:=yK.mp h
   obtain⟨q,hq,rfl⟩:=zJ.mp hl
   obtain⟨k,k0,kn,ke,e⟩:=p.kid jn (hp.mem_iff.mp (yI _ (zJ.mpr ⟨q,hq,rfl⟩)))
   have hB:=hb q hq
   rw [e] at hB
   obtain⟨i,i1,i2,i3⟩:=ih k q.2 kn hB y hyl
   refine⟨i,i1,i2,?_⟩
   have:=lineN_in p.low k0 i i1 i3
   rw [ke] at this
   exact this
end
def qcd:Nat→(Nat→Int)→Int
 |0,_=>0
 |n+1,f=>qcd n f+f n
theorem sumR_le {f g:Nat→Int}:∀{n:Nat},(∀k,k < n→f k≤g k)→qcd n f≤qcd n g
 |0,_=>Int.le_refl _
 |n+1,h=>by
  have h1:=sumR_le (n:=n) fun k hk=>h k (by omega)
  have h2:=h n (by omega)
  show qcd n f+f n≤qcd n g+g n
  omega
theorem sumR_mono {f:Nat→Int} {n m:Nat} (hm:n≤m) (h:∀k,k < m→0≤f k):qcd n f≤qcd m f:=by
 induction m with
 |zero=>have:n=0:=(by omega);subst this;exact Int.le_refl _
 |succ m ih=>
  rcases Nat.lt_or_ge n (m+1) with c|c
  ·have h1:=ih (by omega) fun k hk=>h k (by omega)
   have h2:=h m (by omega)
   show _≤qcd m f+f m
   omega
  ·have:n=m+1:=by omega
   subst this;exact Int.le_refl _
def sumL (f:Nat→Int):List Nat→Int
 | []=>0
 |k :: r=>f k+sumL f r
theorem sumL_perm {f:Nat→Int} {a b:List Nat} (h:a.Perm b):sumL f a=sumL f b:=by
 induction h with
 |nil=>rfl
 |cons x _ ih=>show _+_=_+_;rw [ih]
 |swap x y l=>show f y+(f x+sumL f l)=f x+(f y+sumL f l);omega
 |trans _ _ h1 h2=>rw [h1,h2]
theorem qfe {f:Nat→Int}:∀{n:Nat} {ks:List Nat},ks.Nodup→(∀k∈ks,k < n)→(∀k,k < n→0≤f k)→sumL f ks≤qcd n f
 |0,ks,_,h,_=>by
  cases ks with
  |nil=>exact Int.le_refl _
  |cons k r=>exact absurd (h k (zH ..)) (by omega)
 |n+1,ks,nd,h,p=>by
  show _≤qcd n f+f n
  by_cases m:n∈ks
  ·rw [sumL_perm (List.perm_cons_erase m)]
   have nd2:=nd.erase n
   have:=qfe (n:=n) nd2 (fun k hk=>by
    have h1:=h k (List.mem_of_mem_erase hk)
    have:k≠n:=fun z=>by subst z;exact(List.Nodup.not_mem_erase nd) hk
    omega) fun k hk=>p k (by omega)
   show f n+_≤_
   omega
  ·have:=qfe (n:=n) nd (fun k hk=>by
    have h1:=h k hk
    have:k≠n:=fun z=>m (z ▸ hk)
    omega) fun k hk=>p k (by omega)
   have:=p n (by omega)
   omega
theorem gN_add (f g:Str→Option Int) (z:Str):gN (qf8 f g) z=gN f z+gN g z:=by
 unfold gN qf8
 cases e:g z with
 |none=>simp
 |some b=>rfl
theorem gN_sum (z:Str):∀(ts:List Pt) (f0:Str→Option Int),gN (ts.foldl (fun f t=>qf8 f t.f) f0) z=gN f0 z+(ts.map fun t=>gN t.f z).sum
 | [],f0=>by simp
 |t :: ts,f0=>by
  rw [yP,gN_sum z ts,gN_add,zQ,List.sum_cons]
  omega
section
variable {S : Ts} {nm : Nat → Str} {el : Nat → Nat} {n : Nat}
theorem Pl.sums (p:Pl S nm el n) {v:Str} {pr:Nat→Int} (hp:∀k e,S.hl[k]?=some e→gN e.x.fp v=pr k) (h0:∀k,k < n→0≤pr k) {m j:Nat} {bs:List Str} (jn:j < n) (hb:Ben S m (nm j) bs):
  gN (qer (bs.map (ptOf S))) v≤qcd n fun k=>if j∈qai el k then pr k else 0:=by
 have nd:=(qcm p.wf hb.part).1
 have hk:=p.ben m j bs jn hb.part
 have key:∀bs:List Str,bs.Nodup→(∀y∈bs,∃k,k < n∧y=nm k∧j∈qai el k)→∃ks:List Nat,ks.Nodup∧(∀k∈ks,k < n∧nm k∈bs)∧((bs.map (ptOf S)).map fun t=>gN t.f v).sum=sumL (fun k=>if j∈qai el k then pr k else 0) ks:=by
  intro bs
  induction bs with
  |nil=>intro _ _;exact⟨[],yM,fun k hk=>absurd hk (by simp),rfl⟩
  |cons y r ih=>
   intro nd h
   rw [zX] at nd
   obtain⟨ks,k1,k2,k3⟩:=ih nd.2 fun y' hy=>h y' (zD _ hy)
   obtain⟨k,kn,rfl,kj⟩:=h y (zH ..)
   obtain⟨e,e1,e2,_⟩:=p.at kn
   refine⟨k :: ks,zX.mpr ⟨fun m=>nd.1 (k2 k m).2,k1⟩,fun k' hk'=>?_,?_⟩
   ·rcases zK.mp hk' with rfl|hk'
    ·exact⟨kn,zH ..⟩
    ·exact⟨(k2 k' hk').1,zD _ (k2 k' hk').2⟩
   ·rw [zQ,zQ,List.sum_cons,k3,qfg e1]
    show gN e.x.fp v+_=(if j∈qai el k then pr k else 0)+_
    rw [hp k e e2,if_pos kj]
 obtain⟨ks,k1,k2,k3⟩:=key bs nd hk
 unfold qer
 rw [gN_sum,k3]
 have z:gN noF v=0:=rfl
 rw [z,Int.zero_add]
 exact qfe k1 (fun k hk=>(k2 k hk).1) fun k hk=>by
  split
  ·exact h0 k hk
  ·exact Int.le_refl _
end
theorem ad_oK {k:List (Key × V)} {f:Str→Option Int} (hk:AD k f) {ks:List (Str × Addr)} {z:Str} {h:Addr} (hl:qcw ks z=some h):HO.dK k≠ .dK (oK ks):=fun e=>by
 have e2:k=oK ks:=by injection e
 subst e2
 have g1:=hk.get z
 rw [qf9,hl] at g1
 cases hf:f z with
 |none=>rw [hf] at g1;cases g1
 |some n=>rw [hf] at g1;cases g1
def sp_Tree_found (K:Frag) (d:Ad):Sp:=fun vs H Q E=>∃(t a b:Addr) (S:Ts) (z:Str) (xe:V) (ka kb:List (Key × V)) (f g:Str→Option Int) (wt:Int),vs=[.ref t,.str z,xe,.ref a,.ref b,.int wt]∧qd2 d H t S∧qd8 z=true∧S.at z=none∧qdj K H xe∧
 (who S xe=none→∀H',qaq H H'→E (.ref d.c_NoHouse) none H')∧
 ∀e,who S xe=some e→WF S∧qfp S∧S.ws.length≤50∧H a=some (.dK ka)∧AD ka f∧ka.length≤1000∧H b=some (.dK kb)∧AD kb g∧kb.length≤1000∧Fin S.ws f∧Fin S.ws g∧1≤wt∧wt≤1000∧S.hl.length < 40∧
  (∃zs,LineOf S e.n zs∧zs.length < 12∧∀y∈zs,∃e',S.at y=some e'∧Dep S 12 y∧∀bs,Ben S 12 y bs→∀v n,qf8 (qer (bs.map (ptOf S))) (qce f) v=some n→n≤gN e'.x.fc v)∧(∀y,gN f y≤gN g y)∧
  ∀(e2:He) H',SameBut S.hs H H'→H e2.a=none→H e2.x.pa=none→H e2.x.ca=none→qd2 d H' t {S with hl:=S.hl++ [e2]}→e2.n=z→e2.x.el=some e.n→e2.x.w=wt→(∀y,e2.x.fp y=qce f y)→(∀y,e2.x.fc y=qce g y)→Q .non H'
include T in
theorem ok_Tree_found:FnOk P w K mg base (My.CX1 P w) 19 d.f_Tree_found d.fd_Tree_found ["self","name","elder","promise","cap","weight"] (sp_Tree_found K d):=by
 refine okDX T.F_Tree_found sc_Tree_found (fun vs H Q E h=>?_) (fun cdv A outer s H vs Q E hr h=>?_)
 ·obtain⟨t,a,b,S,z,xe,ka,kb,f,g,wt,rfl,_⟩:=h;rfl
 obtain⟨t,a,b,S,z,xe,ka,kb,f,g,wt,rfl,hT,gz,nz,hx,q2,q1⟩:=h
 refine⟨_,(qa2 (qas (qc0 ((ok_check_name T).mono (by decide)) hr rfl T.m_check_name T.F_check_name.kp T.b_check_name .nil qar (qa0 (pv 1) qa1)))
  (qa2 (qbb (qbo (qcc (pv 0) T.CL_Tree T.ME_Tree_has ((ok_Tree_has T).mono (by decide)) hr T.b_Tree_has .nil qaf (qa0 (pv 1) qa1))) (qa4 (qbv rfl T.X_Taken rfl T.m_Taken qar (qa0 qcq qa1))) qal)
  (qa2 (qas (qap (pv 0) T.CL_Tree T.ME_Tree_check_house ((ok_Tree_check_house T).mono (by decide)) hr T.b_Tree_check_house .nil qar (qa0 (pv 2) qa1)))
  (qa2 (qag (i:=6) sc_Tree_found.nd rfl (Or.inl rfl) (qc0 ((ok_read_house T).mono (by decide)) hr rfl T.m_read_house T.F_read_house.kp T.b_read_house .nil qar (qa0 (qao (pv 0) rfl) (qa0 (pv 2) (qa0 (pv 3) (qa0 (pv 4) (qa0 (pv 5) qa1)))))))
  (qa2 (qbb (qan op_ge (qad call_lenDD rfl T.z_len PySem.boot_len (qa0 (qao (pv 0) rfl) qa1)) (qdm rfl T.m_MOST_HOUSES T.r_MOST_HOUSES) (qat _)) (qa4 (qbv rfl T.X_TooMany rfl T.m_TooMany qar (qa0 qcq qa1))) qal)
  (qa2 (qag (i:=7) sc_Tree_found.nd rfl (Or.inl rfl) (qap (pv 0) T.CL_Tree T.ME_Tree_line ((ok_Tree_line T).mono (by decide)) hr T.b_Tree_line .nil qar (qa0 (pv 2) qa1)))
  (qa2 (qbb (qan op_ge (qad qau rfl T.z_len PySem.boot_len (qa0 (pv 7) qa1)) (qdm rfl T.m_LONGEST_LINE T.r_LONGEST_LINE) (qat _)) (qa4 (qbv rfl T.X_TooDeep rfl T.m_TooDeep qar (qa0 qcq qa1))) qal)
  (qa2 (qas (qc0 ((ok_check_promises T).mono (by decide)) hr rfl T.m_check_promises T.F_check_promises.kp T.b_check_promises .nil qar (qa0 (pv 1) (qa0 (qao (pv 6) rfl) (qa0 (qao (pv 6) rfl) qa1)))))
  (qa2 (qas (qap (pv 0) T.CL_Tree T.ME_Tree_check_more ((ok_Tree_check_more T).mono (by decide)) hr T.b_Tree_check_more .nil qar (qa0 (pv 7) (qa0 (qao (pv 6) rfl) qa1))))
  (qa4 (qdl (qc5 hr) (qao (pv 0) rfl) (pv 1) (pv 6) rfl))))))))))),?_⟩
 walk_at "d"
 refine qac (σ:=[some (.ref t),some (.str z),some (xe),some (.ref a),some (.ref b),some (.int wt),none,none]) rfl ?_
 have ct:=T.CL_Tree
 have ch:=T.CL_House
 have n1:qaj K d.c_Tree "sorted_wares":=T.NA_Tree_sorted_wares
 have n2:qaj K d.c_Tree "houses":=T.NA_Tree_houses
 have n3:qaj K d.c_House "promise":=T.NA_House_promise
 have n4:qaj K d.c_House "cap":=T.NA_House_cap
 left
 refine⟨z,rfl,gz,fun H1 s1=>?_⟩
 have hT1:=hT.same s1
 obtain⟨dx,ht⟩:=id hT1.1
 left
 refine⟨t,S,.str z,rfl,hT1,.inl ⟨z,rfl⟩,?_⟩
 rw [show who S (.str z)=none from nz]
 left
 show if false=true then _ else _
 left
 refine⟨t,S,xe,rfl,hT1,hx.same s1,fun e he=>?_,fun he=>q2 he H1 s1⟩
 obtain⟨hW,hO,hws,ha,hA,za,hb,hB,zb,ff,fg,w0,w1,h40,⟨zs,hL,hz12,hy⟩,le,q⟩:=q1 e he
 obtain⟨y,rfl⟩:∃y,xe=.str y:=by
  rcases hx with h|⟨_,nz'⟩
  ·exact h
  ·rw [qcn nz'] at he;cases he
 have ey:e.n=y:=(qbr he).2
 have hsw:=hT1.2.1
 left
 refine⟨S.sw,a,b,some y,S.ws,ka,kb,f,g,wt,rfl,hsw,s1 _ _ ha,hA,za,s1 _ _ hb,hB,zb,ff,fg,w0,w1,fun h o H3 s3 nh np nc hOo eel ew efp efc=>?_⟩
 obtain⟨⟨dh,ho⟩,hp,hpA,hc,hcA⟩:=id hOo
 have efp':o.fp=qce f:=funext efp
 have efc':o.fc=qce g:=funext efc
 have lk:o.kp.length≤S.ws.length:=hpA.le (by rw [efp'];exact pos_in ff)
 have hT3:=hT1.same s3
 obtain⟨⟨dx3,ht3⟩,hw3,hh3,nd3,hz3,hE3⟩:=id hT3
 left
 refine r_lenD hh3 ?_
 rw [qdz]
 left
 refine⟨t,S,.str y,rfl,hT3,.inl ⟨y,zs,rfl,by rw [←ey];exact hL,by omega,fun l hl=>?_⟩⟩
 have s4:=qab hl (.lst (zs.map V.str))
 have eL:upd H3 l (.lst (zs.map V.str)) l=some (.lst (zs.map V.str)):=qa3
 have hzl:(zs.map V.str).length=zs.length:=zB _
 generalize upd H3 l (.lst (zs.map V.str))=H4 at*
 have ho4:=s4 _ _ ho
 have hp4:=s4 _ _ hp
 have hc4:=s4 _ _ hc
 left
 refine⟨.str z,o.pa,o.ca,o.kp,o.kc,o.fp,o.fc,rfl,.inl hp4,.inl hc4,hpA,hcA,by omega,by rw [efp',efc'];exact pos_le fg le,fun H5 s5=>?_⟩
 have s35:=s4.trans s5
 have ho5:=s35 _ _ ho
 have hT5:=hT3.same s35
 obtain⟨dx5,ht5⟩:=id hT5.1
 left
 refine⟨t,l,o.pa,S,zs,o.kp,o.fp,rfl,hT5,hW,hO,SqL.of (s5 _ _ eL),s35 _ _ hp,hpA,hws,by rw [efp'];exact pos_in ff,by rw [efp'];exact hy,fun H6 s6=>?_⟩
 have s36:=s35.trans s6
 have s16:=s3.trans s36
 have s06:=s1.trans s16
 obtain⟨⟨dx6,ht6⟩,hw6,hh6,nd6,hz6,hE6⟩:=hT3.same s36
 left
 have lkn:qcw S.keys z=none:=by rw [qd6,nz];rfl
 have hksz:(oK S.keys).length < sizeLine:=by rw [qdz];show _ < 16777216;omega
 refine r_dpk hh6 hksz ?_
 rw [putK_oK lkn]
 left
 have sF:∀b u,b≠S.hs→H6 b=some u→upd H6 S.hs (.dK (oK (S.keys++ [(z,h)]))) b=some u:=fun b u hb e=>by rw [qa6 hb];exact e
 have nH:∀{b:Addr} {u:HO},H6 b=some u→u≠ .dK (oK S.keys)→b≠S.hs:=fun e1 e2 e3=>by
  subst e3;rw [hh6] at e1;exact e2 (Option.some.inj e1).symm
 have hT1':=hT1
 have fresh:∀{b:Addr} {u:HO},H1 b=none→H6 b=some u→b≠S.hs:=fun e1 _ e3=>by
  subst e3;rw [hT1'.2.2.1] at e1;cases e1
 refine q ⟨z,h,o⟩ _ (fun b u hb e=>sF b u hb (s06 _ _ e)) (s1.free nh) (s1.free np) (s1.free nc) ⟨⟨dx6,sF _ _ (nH ht6 (by intro e;cases e)) ht6⟩,sF _ _ (nH hw6 (by intro e;cases e)) hw6,?_,?_,?_,fun e1 he1=>?_⟩ rfl (by rw [ey];exact eel) ew efp efc
 ·show upd _ _ _ S.hs=some (.dK (oK (Ts.keys _)))
  rw [qa3]
  unfold Ts.keys
  rw [zE];rfl
 ·show (List.map _ (S.hl++ [_])).Nodup
  rw [zE,List.nodup_append]
  refine⟨nd6,zX.mpr ⟨by simp,yM⟩,fun x hx1 y' hy1 e=>?_⟩
  have:y'=z:=by simpa using hy1
  subst this
  subst e
  obtain⟨e2,m2,rfl⟩:=zJ.mp hx1
  rw [at_of nd6 m2] at nz
  cases nz
 ·show (S.hl++ [_]).length≤60
  rw [zF]
  show _+1≤60
  omega
 ·rcases zU.mp he1 with m|m
  ·obtain⟨⟨dy,hy1⟩,hy2,hy3,hy4,hy5⟩:=hE6 e1 m
   have no:∀{k:List (Key × V)} {f:Str→Option Int},AD k f→HO.dK k≠ .dK (oK S.keys):=fun hk=>ad_oK hk (z:=e1.n) (h:=e1.a) (by rw [qd6,at_of nd6 m];rfl)
   exact⟨⟨dy,sF _ _ (nH hy1 (by intro e;cases e)) hy1⟩,sF _ _ (nH hy2 (no hy3)) hy2,hy3,sF _ _ (nH hy4 (no hy5)) hy4,hy5⟩
  ·have:e1=⟨z,h,o⟩:=by simpa using m
   subst this
   have h6:=s36 _ _ ho
   refine⟨⟨dh,sF _ _ (fresh nh h6) h6⟩,sF _ _ (fresh np (s36 _ _ hp)) (s36 _ _ hp),hpA,sF _ _ (fresh nc (s36 _ _ hc)) (s36 _ _ hc),hcA⟩
abbrev ABC:Str:=Str.ofString "abcdefghijklmnopqrstuvwxyz"
def letc (i:Int):Nat:=97+(i%26).toNat
theorem letAt (g:Int):atI ABC.cps.toList (g%26)=some (letc g):=by
 have e0:=Int.emod_nonneg g (show (26:Int)≠0 by decide)
 have e1:=Int.emod_lt_of_pos g (show (0:Int) < 26 by decide)
 have h:∀k:Nat,k < 26→ABC.cps.toList[k]?=some (97+k):=by decide+kernel
 have e:g%26=(((g%26).toNat:Nat):Int):=by omega
 rw [e]
 rw [qb3 (h (g%26).toNat (by omega))]
 rfl
theorem letc_isL (g:Int):isL (letc g)=true:=by
 have e0:=Int.emod_nonneg g (show (26:Int)≠0 by decide)
 have e1:=Int.emod_lt_of_pos g (show (0:Int) < 26 by decide)
 unfold isL letc
 rw [Bool.and_eq_true,decide_eq_true_iff,decide_eq_true_iff]
 omega
theorem letc_inj {g g':Int} (h:letc g=letc g'):g%26=g'%26:=by
 have e0:=Int.emod_nonneg g (show (26:Int)≠0 by decide)
 have f0:=Int.emod_nonneg g' (show (26:Int)≠0 by decide)
 unfold letc at h
 omega
def ofL (l:List Nat):Str:=⟨l.toArray⟩
theorem qek (l:List Nat):qdq (ofL l)=l:=by simp [qdq,ofL]
theorem qfk {l m:List Nat} (h:ofL l=ofL m):l=m:=by rw [←qek l,←qek m,h]
theorem ofL_snoc (l:List Nat) (c:Nat):ofL l++(⟨#[c]⟩:Str)=ofL (l++ [c]):=by
 have e:(ofL l++(⟨#[c]⟩:Str)).cps=(ofL (l++ [c])).cps:=by
  rw [Str.cps_append]
  simp [ofL]
 exact congrArg Str.mk e
theorem qdo (l:List Nat):(ofL l).length=l.length:=by simp [ofL,Str.length]
def iV (e:Nat):V:=.int (e:Int)
def FinB (ws:List Str) (B:Int) (f:Str→Option Int):Prop:=∀z n,f z=some n→z∈ws∧0≤n∧n≤B
def elN (es:List Nat) (k:Nat):Nat:=(es[k - 1]?).getD 0
def ptN (ts:List Pt) (k:Nat) (v:Str):Int:=match ts[k]? with
 |some t=>gN t.f v
 |none=>0
theorem lineN_pw {el:Nat→Nat} {n:Nat} (lo:Low el n):∀k,k < n→(qai el k).Pairwise (fun a b=>b < a):=by
 intro k
 induction k using Nat.strongRecOn with
 |ind k ih=>
  intro kn
  cases k with
  |zero=>rw [qck];exact List.pairwise_singleton ..
  |succ k=>
   have l:=lo (k+1) (by omega) kn
   rw [qc1 lo (by omega) kn,List.pairwise_cons]
   refine⟨fun a ha=>?_,ih _ l (by omega)⟩
   have:=qdy lo (el (k+1)) (by omega) a ha
   omega
structure PL where
 lw:Addr
 ln:Addr
 le:Addr
 lp:Addr
 lc:Addr
 ws:List Str
 nm:List Str
 es:List Nat
 tp:List Pt
 tc:List Pt
structure PlF (P:PL):Prop where
 w1:1≤P.ws.length
 w3:P.ws.length≤3
 wg:∀z∈P.ws,qd8 z=true
 wn:P.ws.Nodup
 nl:P.nm.length=P.es.length+1
 n12:P.nm.length≤12
 ng:∀z∈P.nm,qd8 z=true
 nn:P.nm.Nodup
 lo:∀(k e:Nat),P.es[k]?=some e→e≤k∧e≤10
 pl:P.tp.length=P.nm.length
 cl:P.tc.length=P.nm.length
 pa:∀t∈P.tp,AD t.k t.f∧FinB P.ws (10^30) t.f
 ca:∀t∈P.tc,AD t.k t.f∧FinB P.ws (10^30) t.f
 le:∀(j:Nat) (t:Pt),P.tc[j]?=some t→∀v∈P.ws,(qcd P.tp.length fun k=>if j∈qai (elN P.es) k then ptN P.tp k v else 0)≤gN t.f v
theorem elN_low {es:List Nat} (lo:∀(k e:Nat),es[k]?=some e→e≤k) (n:Nat):Low (elN es) n:=fun k k0 kn=>by
 unfold elN
 cases e:es[k - 1]? with
 |none=>exact k0
 |some a=>have:=lo _ _ e;show a < k;omega
theorem elN_at {es:List Nat} {b:Nat} (hb:b < es.length):elN es (b+1)=es[b]:=by unfold elN;rw [Nat.add_sub_cancel,zA hb];rfl
theorem FinB.fin {ws:List Str} {B:Int} {f:Str→Option Int} (h:FinB ws B f) (hB:B≤10^30):Fin ws f:=fun z n e=>by
 obtain⟨a,b,c⟩:=h z n e
 exact⟨a,b,by omega⟩
theorem fin_perm {ws ws':List Str} {f:Str→Option Int} (h:Fin ws f) (p:ws'.Perm ws):Fin ws' f:=fun z n e=>by
 obtain⟨a,b,c⟩:=h z n e
 exact⟨p.mem_iff.mpr a,b,c⟩
def nmF (P:PL) (k:Nat):Str:=(P.nm[k]?).getD (ofL [])
def tfF (ts:List Pt) (k:Nat):Str→Option Int:=match ts[k]? with
 |some t=>t.f
 |none=>noF
theorem ptN_eq (ts:List Pt) (k:Nat) (v:Str):ptN ts k v=gN (tfF ts k) v:=by
 unfold ptN tfF
 cases ts[k]? <;> rfl
structure TInv (S:Ts) (P:PL) (n:Nat) (wt:Nat→Int):Prop where
 pl:Pl S (nmF P) (elN P.es) n
 wp:S.ws.Perm P.ws
 ws:PyProof.Rows.sortedS S.ws=true
 da:∀(k:Nat) (e:He),S.hl[k]?=some e→(∀v,e.x.fp v=qce (tfF P.tp k) v)∧(∀v,e.x.fc v=qce (tfF P.tc k) v)∧e.x.w=wt k
theorem qdt {P:PL} {k:Nat} (h:k < P.nm.length):nmF P k=P.nm[k]:=by unfold nmF;rw [zA h];rfl
theorem nmF_inj {P:PL} (f:PlF P) {n:Nat} (hn:n≤P.nm.length):∀i j,i < n→j < n→nmF P i=nmF P j→i=j:=fun i j hi hj e=>by
 rw [qdt (by omega),qdt (by omega)] at e
 rcases Nat.lt_trichotomy i j with h|h|h
 ·exact absurd e ((zV.mp f.nn) i j (by omega) (by omega) h)
 ·exact h
 ·exact absurd e.symm ((zV.mp f.nn) j i (by omega) (by omega) h)
theorem PlF.low {P:PL} (f:PlF P) (n:Nat):Low (elN P.es) n:=elN_low (fun k e h=>(f.lo k e h).1) n
theorem qe2 {P:PL} (f:PlF P) {k:Nat} (hk:k < P.nm.length):∃t,P.tp[k]?=some t∧t∈P.tp∧tfF P.tp k=t.f∧AD t.k t.f∧Fin P.ws t.f:=by
 have h:k < P.tp.length:=by rw [f.pl];exact hk
 have e:=zA h
 refine⟨_,e,zL h,by unfold tfF;rw [e],(f.pa _ (zL h)).1,(f.pa _ (zL h)).2.fin (by decide)⟩
theorem tc_fin {P:PL} (f:PlF P) {k:Nat} (hk:k < P.nm.length):∃t,P.tc[k]?=some t∧t∈P.tc∧tfF P.tc k=t.f∧AD t.k t.f∧Fin P.ws t.f:=by
 have h:k < P.tc.length:=by rw [f.cl];exact hk
 have e:=zA h
 refine⟨_,e,zL h,by unfold tfF;rw [e],(f.ca _ (zL h)).1,(f.ca _ (zL h)).2.fin (by decide)⟩
theorem fin_nn {ws:List Str} {f:Str→Option Int} (h:Fin ws f) (v:Str):0≤gN f v:=by
 unfold gN
 cases e:f v with
 |none=>exact Int.le_refl _
 |some n=>exact(h v n e).2.1
theorem fin_out {ws:List Str} {f:Str→Option Int} (h:Fin ws f) {v:Str} (hv:v∉ws):gN f v=0:=by
 unfold gN
 cases e:f v with
 |none=>rfl
 |some n=>exact absurd (h v n e).1 hv
theorem pr_nn {P:PL} (f:PlF P) {k:Nat} (hk:k < P.nm.length) (v:Str):0≤gN (tfF P.tp k) v:=by
 obtain⟨t,_,_,e,_,h⟩:=qe2 f hk
 rw [e];exact fin_nn h v
theorem cap_ge {P:PL} (f:PlF P) {j:Nat} (hj:j < P.nm.length) (v:Str):(qcd P.nm.length fun k=>if j∈qai (elN P.es) k then gN (tfF P.tp k) v else 0)≤gN (tfF P.tc j) v:=by
 obtain⟨t,e1,e2,e3,e4,e5⟩:=tc_fin f hj
 rw [e3]
 by_cases hv:v∈P.ws
 ·have z:=f.le j t e1 v hv
  rw [f.pl] at z
  have:(fun k=>if j∈qai (elN P.es) k then ptN P.tp k v else 0)=fun k=>if j∈qai (elN P.es) k then gN (tfF P.tp k) v else 0:=funext fun k=>by rw [ptN_eq]
  rw [this] at z
  exact z
 ·have z:(qcd P.nm.length fun k=>if j∈qai (elN P.es) k then gN (tfF P.tp k) v else 0)≤qcd P.nm.length fun _=>0:=sumR_le fun k hk=>by
   split
   ·obtain⟨t',_,_,q,_,h⟩:=qe2 f hk
    rw [q,fin_out h hv];exact Int.le_refl _
   ·exact Int.le_refl _
  have z0:∀n,(qcd n fun _=>0)=0:=fun n=>by
   induction n with
   |zero=>rfl
   |succ n ih=>show qcd n _+0=0;rw [ih];rfl
  rw [z0] at z
  have:=fin_nn e5 v
  omega
theorem own_le {P:PL} (f:PlF P) {k:Nat} (hk:k < P.nm.length) (v:Str):gN (tfF P.tp k) v≤gN (tfF P.tc k) v:=by
 have z:=cap_ge f hk v
 have h:gN (tfF P.tp k) v≤qcd P.nm.length fun i=>if k∈qai (elN P.es) i then gN (tfF P.tp i) v else 0:=by
  have h1:sumL (fun i=>if k∈qai (elN P.es) i then gN (tfF P.tp i) v else 0) [k]≤qcd P.nm.length fun i=>if k∈qai (elN P.es) i then gN (tfF P.tp i) v else 0:=
   qfe (zX.mpr ⟨by simp,yM⟩) (fun i hi=>by have:i=k:=(by simpa using hi);omega) fun i hi=>by
    split
    ·exact pr_nn f hi v
    ·exact Int.le_refl _
  have h2:sumL (fun i=>if k∈qai (elN P.es) i then gN (tfF P.tp i) v else 0) [k]=gN (tfF P.tp k) v:=by
   show (if k∈qai (elN P.es) k then gN (tfF P.tp k) v else 0)+0=_
   rw [if_pos (qcl (f.low P.nm.length) hk),Int.add_zero]
  omega
 omega
theorem TInv.ask {S:Ts} {P:PL} {k:Nat} {wt:Nat→Int} (h:TInv S P k wt) (f:PlF P) (k0:0 < k) (kn:k < P.nm.length):∃e,S.at (nmF P (elN P.es k))=some e∧e.n=nmF P (elN P.es k)∧WF S∧qfp S∧S.ws.length≤50∧S.hl.length < 40∧S.at (nmF P k)=none∧
  ∃zs,LineOf S e.n zs∧zs.length < 12∧∀y∈zs,∃e',S.at y=some e'∧Dep S 12 y∧∀bs,Ben S 12 y bs→∀v n,qf8 (qer (bs.map (ptOf S))) (qce (tfF P.tp k)) v=some n→n≤gN e'.x.fc v:=by
 have low:=f.low P.nm.length
 have lk:=low k k0 kn
 have n12:=f.n12
 obtain⟨e,h1,h2,h3⟩:=h.pl.at lk
 have en:e.n=nmF P (elN P.es k):=(qbr h1).2
 refine⟨e,h1,en,h.pl.wf,⟨by have:=h.wp.length_eq;have:=f.w3;omega,fun e' he z hz=>?_⟩,by have:=h.wp.length_eq;have:=f.w3;omega,by rw [h.pl.len];omega,?_,(qai (elN P.es) (elN P.es k)).map (nmF P),by rw [en];exact h.pl.line _ lk,?_,fun y hy=>?_⟩
 ·obtain⟨i,hi,q,_⟩:=h.pl.ix he
  obtain⟨t,_,_,q2,_,q3⟩:=qe2 f (k:=i) (by omega)
  rw [(h.da i e' q).1,q2] at hz
  exact h.wp.mem_iff.mpr (pos_in q3 z hz)
 ·cases c:S.at (nmF P k) with
  |none=>rfl
  |some e'=>
   obtain⟨i,hi,_,q,_⟩:=h.pl.ix (qbr c).1
   have:=nmF_inj f (n:=P.nm.length) (Nat.le_refl _) i k (by omega) kn (by rw [←q,(qbr c).2])
   omega
 ·rw [zB]
  have hl:=qef low (elN P.es k) (by omega)
  have:elN P.es k≤10:=by
   obtain⟨b,rfl⟩:∃b,k=b+1:=⟨k - 1,by omega⟩
   have hb:b < P.es.length:=by have:=f.nl;omega
   rw [elN_at hb]
   exact(f.lo b _ (zA hb)).2
  omega
 ·obtain⟨j,hj,rfl⟩:=zJ.mp hy
  have jl:=qdy low (elN P.es k) (by omega) j hj
  have jk:j < k:=by omega
  obtain⟨e',q1,q2,_⟩:=h.pl.at jk
  refine⟨e',q1,h.pl.dep 12 j jk (by omega),fun bs hb v n hn=>?_⟩
  have hs:=h.pl.sums (v:=v) (pr:=fun i=>gN (tfF P.tp i) v) (fun i e2 he2=>?_) (fun i hi=>pr_nn f (by omega) v) jk hb
  ·have g1:n=gN (qf8 (qer (bs.map (ptOf S))) (qce (tfF P.tp k))) v:=by unfold gN;rw [hn];rfl
   obtain⟨t,_,_,t3,_,t5⟩:=qe2 f kn
   rw [gN_add,t3,qdp t5,←t3] at g1
   obtain⟨u,_,_,u3,_,u5⟩:=tc_fin f (k:=j) (by omega)
   have fc:e'.x.fc=qce u.f:=by rw [←u3];exact funext (h.da j e' q2).2.1
   rw [fc,qdp u5,←u3]
   have cg:=cap_ge f (j:=j) (by omega) v
   have mono:=sumR_mono (f:=fun i=>if j∈qai (elN P.es) i then gN (tfF P.tp i) v else 0) (n:=k+1) (m:=P.nm.length) (by omega) fun i hi=>by
    try dsimp only
    split
    ·exact pr_nn f hi v
    ·exact Int.le_refl _
   have top:(qcd (k+1) fun i=>if j∈qai (elN P.es) i then gN (tfF P.tp i) v else 0)=(qcd k fun i=>if j∈qai (elN P.es) i then gN (tfF P.tp i) v else 0)+gN (tfF P.tp k) v:=by
    show qcd k _+(if j∈qai (elN P.es) k then gN (tfF P.tp k) v else 0)=_
    rw [if_pos]
    rw [qc1 low k0 kn]
    exact zD _ hj
   omega
  ·obtain⟨t,_,_,t3,_,t5⟩:=qe2 f (k:=i) (by have:=(List.getElem?_eq_some_iff.mp he2).1;rw [h.pl.len] at this;omega)
   rw [show e2.x.fp=qce (tfF P.tp i) from funext (h.da i e2 he2).1,t3]
   exact qdp t5 v
theorem TInv.next {S:Ts} {P:PL} {k:Nat} {wt:Nat→Int} (h:TInv S P k wt) (f:PlF P) (k0:0 < k) (kn:k < P.nm.length) {e2:He} {w:Int} (en:e2.n=nmF P k) (el:e2.x.el=some (nmF P (elN P.es k))) (ew:e2.x.w=w) (ep:∀v,e2.x.fp v=qce (tfF P.tp k) v) (ec:∀v,e2.x.fc v=qce (tfF P.tc k) v):
  TInv {S with hl:=S.hl++ [e2]} P (k+1) (fun i=>if i=k then w else wt i):=by
 have hl:=h.pl.len
 have split:∀(i:Nat) (e:He),(S.hl++ [e2])[i]?=some e→(i < k∧S.hl[i]?=some e)∨(i=k∧e=e2):=fun i e he=>by
  rcases Nat.lt_or_ge i S.hl.length with c|c
  ·rw [zT c] at he
   exact .inl ⟨by omega,he⟩
  ·have:=(List.getElem?_eq_some_iff.mp he).1
   rw [zF,yC] at this
   have ei:i=S.hl.length:=by omega
   rw [zO c,ei,Nat.sub_self] at he
   exact .inr ⟨by omega,by simpa using he.symm⟩
 refine⟨⟨by show (S.hl++ [e2]).length=_;rw [zF,hl];rfl,fun i e he=>?_,nmF_inj f (by omega),fun i i0 ik=>f.low P.nm.length i i0 (by omega)⟩,h.wp,h.ws,fun i e he=>?_⟩
 ·rcases split i e he with ⟨a,b⟩ |⟨rfl,rfl⟩
  ·exact h.pl.nam i e b
  ·exact⟨en,by rw [if_neg (by omega)];exact el⟩
 ·rcases split i e he with ⟨a,b⟩ |⟨rfl,rfl⟩
  ·obtain⟨x,y,z⟩:=h.da i e b
   exact⟨x,y,by rw [if_neg (by omega)];exact z⟩
  ·exact⟨ep,ec,by rw [if_pos rfl];exact ew⟩
structure Apart (S:Ts) (t q:Addr):Prop where
 t:t≠q
 sw:S.sw≠q
 hs:S.hs≠q
 ho:∀e∈S.hl,e.a≠q∧e.x.pa≠q∧e.x.ca≠q
theorem qd2.put {d:Ad} {H:Hp} {t q:Addr} {S:Ts} {o:HO} (h:qd2 d H t S) (a:Apart S t q):qd2 d (upd H q o) t S:=by
 obtain⟨⟨dx,h1⟩,h2,h3,h4,h5,h6⟩:=h
 refine⟨⟨dx,by rw [qa6 a.t];exact h1⟩,by rw [qa6 a.sw];exact h2,by rw [qa6 a.hs];exact h3,h4,h5,fun e he=>?_⟩
 obtain⟨⟨dy,g1⟩,g2,g3,g4,g5⟩:=h6 e he
 obtain⟨n1,n2,n3⟩:=a.ho e he
 exact⟨⟨dy,by rw [qa6 n1];exact g1⟩,by rw [qa6 n2];exact g2,g3,by rw [qa6 n3];exact g4,g5⟩
theorem qd2.apart {d:Ad} {H:Hp} {t q:Addr} {S:Ts} (h:qd2 d H t S) (n:H q=none):Apart S t q:=by
 obtain⟨⟨dx,h1⟩,h2,h3,h4,h5,h6⟩:=h
 exact⟨qa5 h1 n,qa5 h2 n,qa5 h3 n,fun e he=>by
  obtain⟨⟨dy,g1⟩,g2,g3,g4,g5⟩:=h6 e he
  exact⟨qa5 g1 n,qa5 g2 n,qa5 g4 n⟩⟩
theorem sort_eq {ss ss':List Str} (h:ss.Perm ss') (a:PyProof.Rows.sortedS ss=true) (b:PyProof.Rows.sortedS ss'=true):ss=ss':=
 List.Perm.eq_of_pairwise (le:=leS) (fun x y _ _ h1 h2=>leS_anti h1 h2) (qe5 a) (qe5 b) h
theorem pl_one {S:Ts} {P:PL} {e:He} (f:PlF P) (hl:S.hl=[e]) (en:e.n=nmF P 0) (el:e.x.el=none):Pl S (nmF P) (elN P.es) 1:=by
 refine⟨by rw [hl];rfl,fun k e' he=>?_,fun i j hi hj _=>by omega,fun k k0 k1=>by omega⟩
 rw [hl] at he
 have hk:=(List.getElem?_eq_some_iff.mp he).1
 have e0:k=0:=by rw [yC] at hk;omega
 subst e0
 have:e'=e:=by simpa using he.symm
 subst this
 exact⟨en,el⟩
theorem TInv.cast {S:Ts} {P:PL} {n:Nat} {wt wt':Nat→Int} (h:TInv S P n wt) (e:∀j,j < n→wt j=wt' j):TInv S P n wt':=⟨h.pl,h.wp,h.ws,fun k x hx=>by
 have hk:=(List.getElem?_eq_some_iff.mp hx).1
 rw [h.pl.len] at hk
 obtain⟨a,b,c⟩:=h.da k x hx
 exact⟨a,b,c.trans (e k hk)⟩⟩
def tV:Option Int→V
 |none=> .non
 |some n=> .int n
def qf3 (d:Ad) (s:Bool):Addr:=if s=true then d.c_Hold else d.c_Loan
def fsB (n:Int) (z:Str) (m:Addr) (r:Int) (t:Option Int):List (Str × V):=[("number",.int n),("house",.str z),("amounts",.ref m),("rank",.int r),("turns",tV t)]
theorem clsOk {K:Frag} {mg:Str→Option Value} {d:Ad} (T:Tx K mg d) (s:Bool):Cls K (qf3 d s)∧qaj K (qf3 d s) "number"∧qaj K (qf3 d s) "house"∧qaj K (qf3 d s) "amounts"∧qaj K (qf3 d s) "rank"∧qaj K (qf3 d s) "turns":=by
 cases s
 ·exact⟨T.CL_Loan,T.NA_Loan_number,T.NA_Loan_house,T.NA_Loan_amounts,T.NA_Loan_rank,T.NA_Loan_turns⟩
 ·exact⟨T.CL_Hold,T.NA_Hold_number,T.NA_Hold_house,T.NA_Hold_amounts,T.NA_Hold_rank,T.NA_Hold_turns⟩
def sp_Hold_init (K:Frag) (d:Ad):Sp:=fun vs H Q _=>∃(x dx a:Addr) (s:Bool) (n:Int) (z:Str) (k:List (Key × V)) (r:Int) (t:Option Int),vs=[.ref x,.int n,.str z,.ref a,.int r,tV t]∧H x=some (.ins (qf3 d s) dx [])∧H a=some (.dK k)∧
 ∀m H',H m=none→H' x=some (.ins (qf3 d s) dx (fsB n z m r t))→H' m=some (.dK k)→SameBut x H H'→Q .non H'
include T in
theorem ok_Hold_init:FnOk P w K mg base CX0 1 d.f_Hold_init d.fd_Hold_init ["self","number","house","amounts","rank","turns"] (sp_Hold_init K d):=by
 refine T.F_Hold_init.ok sc_Hold_init (fun vs H Q E h=>?_) (fun cdv A outer s H vs Q E hr h=>?_)
 ·obtain⟨x,dx,a,s,n,z,k,r,t,rfl,_⟩:=h;rfl
 obtain⟨x,dx,a,s,n,z,k,r,t,rfl,hx,ha,q⟩:=h
 refine⟨_,(qa2 (qc8 (pv 0) (pv 1) rfl)
  (qa2 (qc8 (pv 0) (pv 2) rfl)
  (qa2 (qc8 (pv 0) (qbw qd1 rfl T.z_dict PyProof.Rows.boot_dict (qa0 (pv 3) qa1)) rfl)
  (qa2 (qc8 (pv 0) (pv 4) rfl)
  (qa4 (qc8 (pv 0) (pv 5) rfl)))))),?_⟩
 walk_at "d"
 refine qac (σ:=[some (.ref x),some (.int n),some (.str z),some (.ref a),some (.int r),some (tV t)]) rfl ?_
 obtain⟨cl,n1,n2,n3,n4,n5⟩:=clsOk T s
 left
 refine qe6 qa3 cl n2 (by show 1 < 1000;decide) ?_
 rw [qb5]
 have nxa:a≠x:=fun z=>by subst z;rw [hx] at ha;cases ha
 have hRa:Rd (upd H x (.ins (qf3 d s) dx (qdr "house" (.str z) (qdr "number" (.int n) [])))) a (.dK k):=.inl (by rw [qa6 nxa];exact ha)
 left
 rename_i m hm
 have nmx:m≠x:=fun z=>by subst z;rw [qa3] at hm;cases hm
 have hm0:H m=none:=by rw [qa6 nmx] at hm;exact hm
 refine qe6 (qa9 qa3 hm) cl n3 (by show 2 < 1000;decide) ?_
 left
 refine qe6 qa3 cl n4 (by show 3 < 1000;decide) ?_
 left
 refine qe6 qa3 cl n5 (by show 4 < 1000;decide) ?_
 left
 refine q m _ hm0 (by rw [qa3];rfl) (by rw [qa6 nmx,qa6 nmx,qa6 nmx];exact qa3) fun b o hb e=>?_
 rw [qa6 hb,qa6 hb,qa6 hb,qa6 (qa5 e hm0),qa6 hb]
 exact e
def InW (ws:List Str) (f:Str→Option Int):Prop:=∀z,f z≠none→z∈ws
structure Rr where
 p:Addr
 e:Addr
 n:Int
 i:Nat
 k:List (Key × V)
 f:Str→Option Int
 r:Int
 s:Bool
structure Ob where
 R:Rr
 o:Addr
 m:Addr
 t:Option Int
structure ObAt (d:Ad) (H:Hp) (P:PL) (b:Ob):Prop where
 obj:∃dx,H b.o=some (.ins (qf3 d b.R.s) dx (fsB b.R.n (nmF P b.R.i) b.m b.R.r b.t))
 amt:H b.m=some (.dK b.R.k)
 ad:AD b.R.k b.R.f
 inw:InW P.ws b.R.f
 il:b.R.i < P.nm.length
theorem ObAt.same {d:Ad} {H H':Hp} {P:PL} {b:Ob} (h:ObAt d H P b) (s:qaq H H'):ObAt d H' P b:=⟨let ⟨dx,e⟩:=h.obj;⟨dx,s _ _ e⟩,s _ _ h.amt,h.ad,h.inw,h.il⟩
theorem line_kid {el:Nat→Nat} {n:Nat} (lo:Low el n) {j:Nat}:∀k,k < n→j∈qai el k→j≠k→∃c,0 < c∧c < n∧el c=j∧c∈qai el k:=by
 intro k
 induction k using Nat.strongRecOn with
 |ind k ih=>
  intro kn hj ne
  cases k with
  |zero=>rw [qck] at hj;simp at hj;omega
  |succ k=>
   have l:=lo (k+1) (by omega) kn
   rw [qc1 lo (by omega) kn] at hj ⊢
   rcases zK.mp hj with h|h
   ·exact absurd h ne
   ·by_cases c:j=el (k+1)
    ·exact⟨k+1,by omega,kn,c.symm,zH ..⟩
    ·obtain⟨x,x0,x1,x2,x3⟩:=ih (el (k+1)) l (by omega) h c
     exact⟨x,x0,x1,x2,zD _ x3⟩
theorem Pl.isKid {S:Ts} {nm:Nat→Str} {el:Nat→Nat} {n:Nat} (p:Pl S nm el n) {c:Nat} (c0:0 < c) (cn:c < n):nm c∈qb0 S (nm (el c)):=by
 obtain⟨e,h1,h2,h3⟩:=p.get cn
 rw [if_neg (by omega)] at h3
 rw [←h2]
 exact zJ.mpr ⟨e,yE.mpr ⟨zG h1,decide_eq_true h3⟩,rfl⟩
theorem flat_in {parts:List (Str × List Str)} {q:Str × List Str} {y:Str} (hq:q∈parts) (hy:y∈q.2):y∈qf1 parts:=yK.mpr ⟨q.2,zJ.mpr ⟨q,hq,rfl⟩,hy⟩
theorem Pl.allBen {S:Ts} {nm:Nat→Str} {el:Nat→Nat} {n:Nat} (p:Pl S nm el n):∀(m j:Nat) (zs:List Str),j < n→Ben S m (nm j) zs→∀k,k < n→j∈qai el k→nm k∈zs:=by
 intro m
 induction m with
 |zero=>
  rintro j _ jn ⟨parts,hp,rfl,hb⟩ k kn hk
  by_cases c:j=k
  ·rw [c];exact zH ..
  ·obtain⟨x,x0,x1,x2,x3⟩:=line_kid p.low k kn hk c
   have z:=p.isKid x0 x1
   rw [x2] at z
   obtain⟨q,hq,_⟩:=zJ.mp (hp.mem_iff.mpr z)
   exact(hb q hq).elim
 |succ m ih=>
  rintro j _ jn ⟨parts,hp,rfl,hb⟩ k kn hk
  by_cases c:j=k
  ·rw [c];exact zH ..
  ·obtain⟨x,x0,x1,x2,x3⟩:=line_kid p.low k kn hk c
   have z:=p.isKid x0 x1
   rw [x2] at z
   obtain⟨q,hq,e⟩:=zJ.mp (hp.mem_iff.mpr z)
   have hB:=hb q hq
   rw [e] at hB
   exact zD _ (flat_in hq (ih x q.2 x1 hB k kn x3))
theorem Pl.benIff {S:Ts} {nm:Nat→Str} {el:Nat→Nat} {n:Nat} (p:Pl S nm el n) {m j:Nat} {zs:List Str} (jn:j < n) (h:Ben S m (nm j) zs) {k:Nat} (kn:k < n):nm k∈zs↔j∈qai el k:=by
 refine⟨fun hk=>?_,p.allBen m j zs jn h k kn⟩
 obtain⟨i,i1,i2,i3⟩:=p.ben m j zs jn h.part _ hk
 rw [p.inj k i kn i1 i2]
 exact i3
def bsV (bs:List Ob):List V:=bs.map fun b=> .ref b.o
def inZ (P:PL) (zs:List Str) (b:Ob):Bool:=decide (nmF P b.R.i∈zs)
def sp_holds_beneath (K:Frag) (d:Ad):Sp:=fun vs H Q _=>∃(t lh:Addr) (S:Ts) (P:PL) (bs:List Ob) (z:Str) (e:He),vs=[.ref t,.ref lh,.str z]∧qd2 d H t S∧WF S∧S.at z=some e∧Dep S 12 z∧H lh=some (.lst (bsV bs))∧bs.length≤63∧(∀b∈bs,ObAt d H P b)∧
 ∀(l:Addr) (zs:List Str) H',qaq H H'→H l=none→Ben S 12 z zs→H' l=some (.lst (bsV (bs.filter (inZ P zs))))→Q (.ref l) H'
include T in
theorem ok_holds_beneath:FnOk P w K mg base CX0 17 d.f_holds_beneath d.fd_holds_beneath ["tree","holds","house"] (sp_holds_beneath K d):=by
 refine T.F_holds_beneath.ok sc_holds_beneath (fun vs H Q E h=>?_) (fun cdv A outer s H vs Q E hr h=>?_)
 ·obtain⟨t,lh,S,P,bs,z,e,rfl,_⟩:=h;rfl
 obtain⟨t,lh,S,P,bs,z,e,rfl,hT,hW,ae,hD,hL,h63,hB,q⟩:=h
 have een:=(qbr ae).2
 refine⟨_,(qa2 (qag (i:=3) sc_holds_beneath.nd rfl (Or.inr rfl) (qap (W:=fun _ _ _ _=>False) (pv 0) T.CL_Tree T.ME_Tree_beneath ((ok_Tree_beneath T).mono (by decide)) hr T.b_Tree_beneath .nil qda (qa0 (pv 2) qa1)))
  (qa4 (qae (qbt (caps:=[3]) (cn:=["names"]) (qbc rfl rfl (by rfl) (by rfl) rfl ⟨rfl,trivial⟩ (by rfl) rfl ⟨⟨rfl,rfl,rfl,rfl,_,rfl⟩,trivial⟩ (by decide)) rfl (qb6 (pv 1)) (fun _ _ _ _=>(qds (qan op_in_seq (qao (pv 0) rfl) (pv 1) (by rfl)))) (fun _ _ _ _=>(pv 0)))))),?_⟩
 walk_at "d"
 try dsimp only [cxC]
 refine qac (σ:=[some (.ref t),some (.ref lh),some (.str z),none]) rfl ?_
 have ct:=T.CL_Tree
 obtain⟨dx,ht⟩:=id hT.1
 left
 refine⟨t,S,.str z,rfl,hT,slim_of hW hT.2.2.2.2.1,.inl ⟨_,rfl⟩,fun e' he'=>?_,fun hn=>?_⟩
 rotate_left
 ·rw [show who S (.str z)=some e from ae] at hn;cases hn
 have ee:e=e':=Option.some.inj (ae.symm.trans he')
 subst ee
 rw [een]
 refine⟨hD,fun lb zs H1 s1 hlb elb hBen=>?_⟩
 have hL1:=s1 _ _ hL
 have hB1:∀b∈bs,ObAt d H1 P b:=fun b hb=>(hB b hb).same s1
 clear hT hD he' ht hL hB
 left
 intro C s0 H0 fp acc hacc
 refine c_by bs.length (fun i H'=>H'=upd H1 acc (.lst (bsV ((bs.take i).filter (inZ P zs))))) rfl ?_ ?_ ?_ ?_
 ·rintro i H' hi rfl
  exact⟨_,.ref bs[i].o,SqL.of (qa9 hL1 hacc),by unfold bsV;rw [zC,zA hi];rfl⟩
 ·rintro H' rfl
  exact⟨_,SqL.of (qa9 hL1 hacc),by unfold bsV;rw [zB];exact Nat.le_refl _⟩
 ·rintro i H' v H'' hi rfl ⟨rfl,hy⟩
  have hv:=hy _ (SqL.of (qa9 hL1 hacc))
  unfold bsV at hv
  rw [zC,zA hi] at hv
  cases hv
  have hb:=hB1 _ (zL hi)
  have tk:bs.take (i+1)=bs.take i++ [bs[i]]:=by rw [zS,zA hi];rfl
  generalize hbi:bs[i]=b at*
  obtain⟨dx,hbo⟩:=hb.obj
  have hbo':=qa9 (o':=.lst (bsV ((bs.take i).filter (inZ P zs)))) hbo hacc
  have elb':=qa9 (o':=.lst (bsV ((bs.take i).filter (inZ P zs)))) elb hacc
  obtain⟨cl,n1,n2,n3,n4,n5⟩:=clsOk T b.R.s
  have zl:(bsV ((bs.take i).filter (inZ P zs))).length < sizeLine:=by
   unfold bsV
   rw [zB]
   have h1:=zP (inZ P zs) (bs.take i)
   rw [yB] at h1
   show _ < 16777216
   omega
  left
  refine r_inSs (SqL.of elb') ?_
  by_cases m:nmF P b.R.i∈zs
  ·rw [decide_eq_true m]
   left
   rw [qb5,tk,zW,zY,if_pos (show inZ P zs b=true from decide_eq_true m)]
   congr 2
   unfold bsV
   rw [zE];rfl
  ·rw [decide_eq_false m]
   left
   rw [tk,zW,zY,if_neg (show ¬inZ P zs b=true by rw [show inZ P zs b=false from decide_eq_false m];decide),yL,yD]
 rintro H' rfl
 rw [zZ]
 left
 exact q acc zs _ (s1.trans (qab hacc _)) (s1.free hacc) hBen qa3
def obPt (b:Ob):Pt:=⟨b.m,b.R.k,b.R.f⟩
def sp_held_by (K:Frag) (d:Ad):Sp:=fun vs H Q _=>∃(lh:Addr) (P:PL) (bs:List Ob),vs=[.ref lh]∧H lh=some (.lst (bsV bs))∧bs.length≤63∧P.ws.length≤3∧(∀b∈bs,ObAt d H P b)∧
 ∀(l:Addr) (k:List (Key × V)) H',qaq H H'→H l=none→H' l=some (.dK k)→AD k (qer (bs.map obPt))→Q (.ref l) H'
include T in
theorem ok_held_by:FnOk P w K mg base CX0 4 d.f_held_by d.fd_held_by ["holds"] (sp_held_by K d):=by
 refine T.F_held_by.ok sc_held_by (fun vs H Q E h=>?_) (fun cdv A outer s H vs Q E hr h=>?_)
 ·obtain⟨lh,P,bs,rfl,_⟩:=h;rfl
 obtain⟨lh,P,bs,rfl,hL,h63,w3,hB,q⟩:=h
 refine⟨_,(qa4 (qae (qaa ((ok_total_of T).mono (by decide)) hr rfl T.m_total_of T.F_total_of.kp T.b_total_of .nil qaf (qa0 (qbt (caps:=[]) (cn:=[]) (qbc rfl rfl (by rfl) (by rfl) rfl trivial (by rfl) rfl trivial (by decide)) rfl (qb6 (pv 0)) (fun _ _ _ _=>qd3) (fun _ _ _ _=>(qao (pv 0) rfl))) qa1)))),?_⟩
 walk_at "d"
 try dsimp only [cxC]
 refine qac (σ:=[some (.ref lh)]) rfl ?_
 left
 intro C s0 H0 fp acc hacc
 refine c_by bs.length (fun i H'=>H'=upd H acc (.lst (((bs.take i).map obPt).map fun u=> .ref u.a))) rfl ?_ ?_ ?_ ?_
 ·rintro i H' hi rfl
  exact⟨_,.ref bs[i].o,SqL.of (qa9 hL hacc),by unfold bsV;rw [zC,zA hi];rfl⟩
 ·rintro H' rfl
  exact⟨_,SqL.of (qa9 hL hacc),by unfold bsV;rw [zB];exact Nat.le_refl _⟩
 ·rintro i H' v H'' hi rfl ⟨rfl,hy⟩
  have hv:=hy _ (SqL.of (qa9 hL hacc))
  unfold bsV at hv
  rw [zC,zA hi] at hv
  cases hv
  have hb:=hB _ (zL hi)
  have tk:bs.take (i+1)=bs.take i++ [bs[i]]:=by rw [zS,zA hi];rfl
  generalize hbi:bs[i]=b at*
  obtain⟨dx,hbo⟩:=hb.obj
  have hbo':=qa9 (o':=.lst (((bs.take i).map obPt).map fun u=> .ref u.a)) hbo hacc
  obtain⟨cl,n1,n2,n3,n4,n5⟩:=clsOk T b.R.s
  left
  rw [qb5,tk,zE,zE]
  rfl
 rintro H' rfl
 rw [zZ]
 have s2:=qab hacc (.lst ((bs.map obPt).map fun u=>V.ref u.a))
 have eN:upd H acc (.lst ((bs.map obPt).map fun u=>V.ref u.a)) acc=some (.lst ((bs.map obPt).map fun u=>V.ref u.a)):=qa3
 left
 refine⟨acc,bs.map obPt,P.ws,rfl,SqL.of eN,by omega,fun u hu=>?_,fun l k' H2 s3 hl el hA=>q l k' H2 (s2.trans s3) (s2.free hl) el hA⟩
 obtain⟨b,hb,rfl⟩:=zJ.mp hu
 have hb':=hB b hb
 exact⟨s2 _ _ hb'.amt,hb'.ad,hb'.inw⟩
def sp_used (K:Frag) (d:Ad):Sp:=fun vs H Q _=>∃(t lh:Addr) (S:Ts) (P:PL) (bs:List Ob) (z:Str) (e:He),vs=[.ref t,.ref lh,.str z]∧qd2 d H t S∧WF S∧S.at z=some e∧Dep S 12 z∧H lh=some (.lst (bsV bs))∧bs.length≤63∧P.ws.length≤3∧(∀b∈bs,ObAt d H P b)∧
 ∀(l:Addr) (zs:List Str) (k:List (Key × V)) H',qaq H H'→H l=none→Ben S 12 z zs→H' l=some (.dK k)→AD k (qer ((bs.filter (inZ P zs)).map obPt))→Q (.ref l) H'
include T in
theorem ok_used:FnOk P w K mg base CX0 18 d.f_used d.fd_used ["tree","holds","house"] (sp_used K d):=by
 refine T.F_used.ok sc_used (fun vs H Q E h=>?_) (fun cdv A outer s H vs Q E hr h=>?_)
 ·obtain⟨t,lh,S,P,bs,z,e,rfl,_⟩:=h;rfl
 obtain⟨t,lh,S,P,bs,z,e,rfl,hT,hW,ae,hD,hL,h63,w3,hB,q⟩:=h
 refine⟨_,(qa4 (qae (qaa ((ok_held_by T).mono (by decide)) hr rfl T.m_held_by T.F_held_by.kp T.b_held_by .nil qaf (qa0 (qaa ((ok_holds_beneath T).mono (by decide)) hr rfl T.m_holds_beneath T.F_holds_beneath.kp T.b_holds_beneath .nil qaf (qa0 (pv 0) (qa0 (pv 1) (qa0 (pv 2) qa1)))) qa1)))),?_⟩
 walk_at "d"
 refine qac (σ:=[some (.ref t),some (.ref lh),some (.str z)]) rfl ?_
 left
 refine⟨t,lh,S,P,bs,z,e,rfl,hT,hW,ae,hD,hL,h63,hB,fun l zs H1 s1 hl hBen el=>?_⟩
 left
 refine⟨l,P,_,rfl,el,Nat.le_trans (zP ..) h63,w3,fun b hb=>(hB b (yE.mp hb).1).same s1,fun l2 k H2 s2 hl2 el2 hA=>?_⟩
 exact q l2 zs k H2 (s1.trans s2) (s1.free hl2) hBen el2 hA
theorem inV_nat {k:Nat}:∀L:List Nat,inV (.int ((k:Nat):Int)) (L.map iV)=decide (k∈L)
 | []=>rfl
 |z :: r=>by
  have ih:=inV_nat (k:=k) r
  unfold inV at ih ⊢
  rw [zQ,yS,ih]
  by_cases c:z=k
  ·subst c
   rw [show eqV (iV z) (V.int ((z:Nat):Int))=true from beq_self_eq_true _,decide_eq_true (zH ..)]
   rfl
  ·rw [show eqV (iV z) (V.int ((k:Nat):Int))=false from beq_false_of_ne fun e=>c (by omega),Bool.false_or]
   by_cases m:k∈r
   ·rw [decide_eq_true m,decide_eq_true (zD _ m)]
   ·rw [decide_eq_false m,decide_eq_false fun h=>(zK.mp h).elim (fun e=>c e.symm) m]
theorem flat_nats (L:List Nat):(L.map iV).all qdh=true:=by
 rw [List.all_map]
 exact yF.mpr fun _ _=>rfl
theorem r_inN {K:Frag} {H:Hp} {Q:VK} {p:Addr} {k:Nat} {ki:Int} {L:List Nat} (h:SqL K H p (L.map iV)) (e:((k:Nat):Int)=ki) (q:Q (.bl (decide (k∈L))) H):rIn K false (.int ki) (.ref p) H Q:=⟨p,_,rfl,.inl h,rfl,flat_nats L,by rw [←e,inV_nat];exact q⟩
theorem ObAt.put {d:Ad} {H:Hp} {P:PL} {b:Ob} {q:Addr} {o:HO} (h:ObAt d H P b) (n1:b.o≠q) (n2:b.m≠q):ObAt d (upd H q o) P b:=⟨let ⟨dx,e⟩:=h.obj;⟨dx,by rw [qa6 n1];exact e⟩,by rw [qa6 n2];exact h.amt,h.ad,h.inw,h.il⟩
def sp_cell (K:Frag) (d:Ad):Sp:=fun vs H Q _=>∃(a:Addr) (ns:List Int) (k:Int),vs=[.ref a,.int k]∧SqL K H a (ns.map V.int)∧0≤k∧k≤1000∧ns.length≤63∧∀c:Int,Q (.int c) H
def sp_mix (K:Frag) (d:Ad):Sp:=fun vs H Q _=>∃c k m:Int,vs=[.int c,.int k,.int m]∧0≤k∧k≤100000∧1≤m∧m≤2000000∧∀r:Int,0≤r→r < m→Q (.int r) H
section
variable {K : Frag} {d : Ad} {H : Hp} {Q : VK} {E : XK}
theorem qcf {c k m:Int} (k0:0≤k) (k1:k≤100000) (m0:1≤m) (m1:m≤2000000) (q:∀r:Int,0≤r→r < m→Q (.int r) H):sp_mix K d [.int c,.int k,.int m] H Q E:=⟨c,k,m,rfl,k0,k1,m0,m1,q⟩
end
include T in
theorem ok_cell:FnOk P w K mg base CX0 1 d.f_cell d.fd_cell ["_law_script","_law_k"] (sp_cell K d):=by
 refine T.F_cell.ok sc_cell (fun vs H Q E h=>?_) (fun cdv A outer s H vs Q E hr h=>?_)
 ·obtain⟨a,ns,k,rfl,_⟩:=h;rfl
 obtain⟨a,ns,k,rfl,hS,k0,k1,hn,q⟩:=h
 refine⟨_,(qa2 (qbb (qan op_lt (pv 1) (qad qau rfl T.z_len PySem.boot_len (qa0 (pv 0) qa1)) (qat _)) (qa4 (qae (qb4 qam (pv 0) (pv 1) (fun _ _=>rfl)))) qal)
  (qa2 (qag (i:=2) sc_cell.nd rfl (Or.inl rfl) (qak qaz (qak qbh qa8 (pv 1)) qa8))
  (qa2 (qcj (qbb (qan qfj (qad qau rfl T.z_len PySem.boot_len (qa0 (pv 0) qa1)) qa8 (qat _)) (qa4 (qag (i:=2) sc_cell.nd rfl (Or.inl rfl) (qak qaz (pv 2) (qak qbh (qak qbz (qb4 qam (pv 0) (qak qbz (qak qaz (qak qbh (pv 1) (pv 1)) qa8) (qad qau rfl T.z_len PySem.boot_len (qa0 (pv 0) qa1))) (fun _ _=>rfl)) qa8) (qak qaz (pv 1) qa8))))) qal))
  (qa4 (qae (qak qbz (qak qaz (qak qbh (pv 2) qa8) (qak qbh qa8 (pv 1))) qa8)))))),?_⟩
 walk_at "d"
 refine qac (σ:=[some (.ref a),some (.int k),none]) rfl ?_
 left
 have hl:(ns.map V.int).length=ns.length:=zB _
 refine i_2 (fun c=>?_) (fun c=>?_)
 ·rw [hl] at c
  left
  refine qbn hS (cell_at k0 c) ?_
  left
  exact q _
 ·have ks:k.natAbs < 2^600:=Nat.lt_of_le_of_lt (show k.natAbs≤1000 by omega) (by decide)
  left
  refine qff (fun σ' H'=>H'=H∧∃m:Int,σ'=[some (.ref a),some (.int k),some (.int m)]∧m.natAbs < 2^600) ?_ ?_
  ·left
   rw [hl]
   refine i_2 (fun c2=>?_) (fun c2=>?_)
   ·left
    rw [hl]
    have e0:=Int.emod_nonneg (k*k+1) (show ((ns.length:Nat):Int)≠0 by omega)
    have e1:=Int.emod_lt_of_pos (k*k+1) (show (0:Int) <((ns.length:Nat):Int) by omega)
    generalize (k*k+1)%((ns.length:Nat):Int)=r at*
    left
    refine qbn hS (cell_at e0 e1) ?_
    generalize cell ns r=x
    left
    have f0:=Int.emod_nonneg x (show (1000003:Int)≠0 by decide)
    have f1:=Int.emod_lt_of_pos x (show (0:Int) < 1000003 by decide)
    generalize x%1000003=y at*
    left
    refine⟨rfl,_,rfl,?_⟩
    have:y*(k+1)≤1000003*1001:=Int.mul_le_mul (by omega) (by omega) (by omega) (by decide)
    have:0≤y*(k+1):=Int.mul_nonneg f0 (by omega)
    exact Nat.lt_of_le_of_lt (show _≤10^12 by omega) (by decide)
   ·left
    exact⟨rfl,_,rfl,Nat.lt_of_le_of_lt (show _≤10^12 by omega) (by decide)⟩
  ·rintro σ' H' ⟨rfl,m,rfl,hm⟩
   left
   exact q _
include T in
theorem ok_mix:FnOk P w K mg base CX0 1 d.f_mix d.fd_mix ["_law_cell_here","_law_k","_law_many"] (sp_mix K d):=by
 refine T.F_mix.ok sc_mix (fun vs H Q E h=>?_) (fun cdv A outer s H vs Q E hr h=>?_)
 ·obtain⟨c,k,m,rfl,_⟩:=h;rfl
 obtain⟨c,k,m,rfl,k0,k1,m0,m1,q⟩:=h
 refine⟨_,(qa2 (qag (i:=3) sc_mix.nd rfl (Or.inl rfl) (qak qbz (qak qaz (qak qbz (pv 0) qa8) (qak qbh qa8 (pv 1))) qa8))
  (qa2 (qag (i:=3) sc_mix.nd rfl (Or.inl rfl) (qak qbz (qak qbh (qak qbz (qak qbh (pv 3) (pv 3)) qa8) qa8) qa8))
  (qa4 (qae (qak qbz (qak qca (pv 3) qa8) (pv 2)))))),?_⟩
 walk_at "d"
 refine qac (σ:=[some (.int c),some (.int k),some (.int m),none]) rfl ?_
 left
 have a0:=Int.emod_nonneg (c%2147483629+104729*k) (show (2147483629:Int)≠0 by decide)
 have a1:=Int.emod_lt_of_pos (c%2147483629+104729*k) (show (0:Int) < 2147483629 by decide)
 generalize (c%2147483629+104729*k)%2147483629=u at*
 left
 have n0:=Int.emod_nonneg (u*u) (show (2147483629:Int)≠0 by decide)
 have n1:=Int.emod_lt_of_pos (u*u) (show (0:Int) < 2147483629 by decide)
 generalize u*u%2147483629=y at*
 left
 exact q _ (Int.emod_nonneg _ (by omega)) (Int.emod_lt_of_pos _ (by omega))
def stpJ (c:Int) (j:Nat):Int:=(c.fdiv 256%1000003).fdiv (0+(j:Int)+1)+(0+(j:Int))*(0+(j:Int))
def nmJ (c A S k:Int) (j:Nat):Nat:=letc (if 0+(j:Int)=A then stpJ c j+S*k else stpJ c j)
def nmB (c A S:Int) (L:Nat) (k:Nat):List Nat:=(List.range L).map (nmJ c A S (0+(k:Int)))
def nmD (c A S:Int) (L:Nat) (k:Nat):List Nat:=nmB c A S L (k - 1)++ [letc (c.fdiv 1536+(k:Int))]
def nmE (c A S:Int) (L b:Nat) (k:Nat):Str:=if k%2=1∧k < b then ofL (nmD c A S L k) else ofL (nmB c A S L k)
theorem qbp (c A S:Int) (L k:Nat):(nmB c A S L k).length=L:=by unfold nmB;rw [zB,yG]
theorem nmB_isL (c A S:Int) (L k:Nat):∀x∈nmB c A S L k,isL x=true:=fun x hx=>by
 unfold nmB at hx
 obtain⟨j,_,rfl⟩:=zJ.mp hx
 exact letc_isL _
theorem nmB_inj {c A S:Int} {L k k':Nat} (a0:0≤A) (a1:A < L) (hS:S=1∨S=7∨S=11∨S=25) (h0:k≤12) (h1:k'≤12) (h:nmB c A S L k=nmB c A S L k'):k=k':=by
 have hj:=congrArg (fun l:List Nat=>l[A.toNat]?) h
 unfold nmB at hj
 simp only [zC] at hj
 rw [List.getElem?_range (by omega)] at hj
 have hj':nmJ c A S (0+(k:Int)) A.toNat=nmJ c A S (0+(k':Int)) A.toNat:=by simpa using hj
 unfold nmJ at hj'
 rw [if_pos (by omega),if_pos (by omega)] at hj'
 have z:=letc_inj hj'
 generalize stpJ c A.toNat=x at z
 rcases hS with rfl|rfl|rfl|rfl <;> omega
theorem good_ofL {l:List Nat} (h1:1≤l.length) (h8:l.length≤8) (h:∀x∈l,isL x=true):qd8 (ofL l)=true:=by
 unfold qd8
 rw [qdo,qek,Bool.and_eq_true,Bool.and_eq_true,decide_eq_true_iff,decide_eq_true_iff,yF]
 exact⟨⟨h1,h8⟩,h⟩
theorem nmE_good {c A S:Int} {L b k:Nat} (l0:1≤L) (l1:L≤8) (lb:b=0∨L < 8):qd8 (nmE c A S L b k)=true:=by
 unfold nmE
 split
 ·rename_i hc
  refine good_ofL ?_ ?_ fun x hx=>?_
  ·unfold nmD;rw [zF,qbp];omega
  ·unfold nmD;rw [zF,qbp];show L+1≤8;omega
  ·unfold nmD at hx
   rcases zU.mp hx with h|h
   ·exact nmB_isL _ _ _ _ _ x h
   ·rw [zI.mp h];exact letc_isL _
 ·exact good_ofL (by rw [qbp];exact l0) (by rw [qbp];exact l1) (nmB_isL _ _ _ _ _)
theorem nmE_inj {c A S:Int} {L b k k':Nat} (a0:0≤A) (a1:A < L) (hS:S=1∨S=7∨S=11∨S=25) (h0:k≤12) (h1:k'≤12) (h:nmE c A S L b k=nmE c A S L b k'):k=k':=by
 unfold nmE at h
 split at h <;> split at h
 ·rename_i c1 c2
  have z:=qfk h
  unfold nmD at z
  have:=nmB_inj a0 a1 hS (by omega) (by omega) (List.append_inj_left z (by rw [qbp,qbp]))
  omega
 ·have z:=congrArg List.length (qfk h)
  unfold nmD at z
  rw [zF,qbp,qbp,yC] at z
  omega
 ·have z:=congrArg List.length (qfk h)
  unfold nmD at z
  rw [zF,qbp,qbp,yC] at z
  omega
 ·exact nmB_inj a0 a1 hS h0 h1 (qfk h)
theorem nmE_nodup {c A S:Int} {L b n:Nat} (a0:0≤A) (a1:A < L) (hS:S=1∨S=7∨S=11∨S=25) (hn:n≤12):((List.range n).map (nmE c A S L b)).Nodup:=by
 show List.Pairwise _ _
 rw [List.pairwise_map]
 refine List.Pairwise.imp_of_mem (R:=fun a b=>a < b) (fun {x y} hx hy lt e=>?_) List.pairwise_lt_range
 have h1:=yR.mp hx
 have h2:=yR.mp hy
 have:=nmE_inj a0 a1 hS (by omega) (by omega) e
 omega
theorem nmE_zero (c A S:Int) (L k:Nat):nmE c A S L 0 k=ofL (nmB c A S L k):=by unfold nmE;rw [if_neg (by omega)]
structure Nms (ss:List Str) (n:Nat):Prop where
 len:ss.length=n
 nd:ss.Nodup
 good:∀z∈ss,qd8 z=true
 sh:∀(y z:Str),ss[0]?=some y→z∈ss→z.length≤y.length+1
theorem nmE_len (c A S:Int) (L b k:Nat):(nmE c A S L b k).length≤L+1:=by
 unfold nmE
 split
 ·rw [qdo];unfold nmD;rw [zF,qbp];exact Nat.le_refl _
 ·rw [qdo,qbp];exact Nat.le_succ _
theorem nmE_len0 (c A S:Int) (L b:Nat):(nmE c A S L b 0).length=L:=by
 unfold nmE
 rw [if_neg (by omega),qdo,qbp]
theorem nmE_nms {c A S:Int} {L b n:Nat} (a0:0≤A) (a1:A < L) (hS:S=1∨S=7∨S=11∨S=25) (hn:n≤12) (l0:1≤L) (l1:L≤8) (lb:b=0∨L < 8):Nms ((List.range n).map (nmE c A S L b)) n:=
 ⟨by rw [zB,yG],nmE_nodup a0 a1 hS hn,fun z hz=>by
  obtain⟨k,_,rfl⟩:=zJ.mp hz
  exact nmE_good l0 l1 lb,fun y z h0 hz=>by
  obtain⟨k,_,rfl⟩:=zJ.mp hz
  rw [zC] at h0
  obtain⟨k0,hk0,rfl⟩:=Option.map_eq_some_iff.mp h0
  have e0:k0=0:=by
   obtain⟨h1,h2⟩:=List.getElem?_eq_some_iff.mp hk0
   rw [List.getElem_range] at h2
   exact h2.symm
  rw [e0,nmE_len0]
  exact nmE_len _ _ _ _ _ _⟩
def sp_names (K:Frag) (d:Ad):Sp:=fun vs H Q _=>∃c m:Int,vs=[.int c,.int m]∧1≤m∧m≤12∧∀(l:Addr) (ss:List Str) (H':Hp),qaq H H'→H' l=some (.lst (ss.map V.str))→Nms ss m.toNat→Q (.ref l) H'
include T in
theorem ok_names:FnOk P w K mg base CX0 1 d.f_names d.fd_names ["_law_cell_here","_law_many"] (sp_names K d):=by
 refine T.F_names.ok sc_names (fun vs H Q E h=>?_) (fun cdv A outer s H vs Q E hr h=>?_)
 ·obtain⟨c,m,rfl,_⟩:=h;rfl
 obtain⟨c,m,rfl,m0,m1,q⟩:=h
 refine⟨_,(qa2 (qag (i:=2) sc_names.nd rfl (Or.inl rfl) qcq)
  (qa2 (qag (i:=3) sc_names.nd rfl (Or.inl rfl) (qak qaz qa8 (qak qbz (pv 0) qa8)))
  (qa2 (qag (i:=4) sc_names.nd rfl (Or.inl rfl) (qak qbz (qak qca (pv 0) qa8) (pv 3)))
  (qa2 (qag (i:=5) sc_names.nd rfl (Or.inl rfl) (qb4 qam (qc3 (qa0 qa8 (qa0 qa8 (qa0 qa8 (qa0 qa8 qa1))))) (qak qbz (qak qca (pv 0) qa8) qa8) (fun _ _=>rfl)))
  (qa2 (qag (i:=6) sc_names.nd rfl (Or.inl rfl) (qc3 qa1))
  (qa2 (qbf PassesOwn.never rfl (qb7 rfl T.z_range (qa0 (pv 1) qa1)) (qav (i:=7) sc_names.nd rfl (Or.inl rfl)) (qa2 (qag (i:=8) sc_names.nd rfl (Or.inl rfl) qcq)
  (qa2 (qbf PassesOwn.never rfl (qb7 rfl T.z_range (qa0 (pv 3) qa1)) (qav (i:=9) sc_names.nd rfl (Or.inl rfl)) (qa2 (qag (i:=10) sc_names.nd rfl (Or.inl rfl) (qak qaz (qak qca (qak qbz (qak qca (pv 0) qa8) qa8) (qak qaz (pv 9) qa8)) (qak qbh (pv 9) (pv 9))))
  (qa2 (qcj (qbb (qan qdu (pv 9) (pv 4) (qat _)) (qa4 (qag (i:=10) sc_names.nd rfl (Or.inl rfl) (qak qaz (pv 10) (qak qbh (pv 5) (pv 7))))) qal))
  (qa4 (qag (i:=8) sc_names.nd rfl (Or.inl rfl) (qak op_catS (pv 8) (qb4 ix_str (pv 2) (qak qbz (pv 10) qa8) (fun _ _=>rfl))))))))
  (qa4 (qas (qeb PySem.F.plainAttrs_list PySem.F.slot_list_append PySem.F.type_list_append qb8 (pv 6) (qa0 (pv 8) qa1)))))))
  (qa2 (qcj (qbb (PW.pt (pw_and (qan qdu (qak qbz (qak qca (pv 0) qa8) qa8) qa8 (qat _)) (pw_and1 (qan op_lt (pv 3) qa8 (qat _))))) (qa4 (qbf PassesOwn.never rfl (pi_range3 rfl T.z_range (qa0 qa8 (qa0 (pv 1) (qa0 qa8 qa1)))) (qav (i:=7) sc_names.nd rfl (Or.inl rfl)) (qa4 (ps_lput (pv 6) (pv 7) (qak op_catS (qb4 qam (pv 6) (qak qex (pv 7) qa8) (fun _ _=>rfl)) (qb4 ix_str (pv 2) (qak qbz (qak qaz (qak qca (pv 0) qa8) (pv 7)) qa8) (fun _ _=>rfl))) rfl)))) qal))
  (qa4 (qae (pv 6)))))))))),?_⟩
 walk_at "d"
 refine qac (σ:=[some (.int c),some (.int m),none,none,none,none,none,none,none,none,none]) rfl ?_
 left
 rename_i pS hpS
 have l0:=Int.emod_nonneg c (show (8:Int)≠0 by decide)
 have l1:=Int.emod_lt_of_pos c (show (0:Int) < 8 by decide)
 obtain⟨L,eL⟩:∃L:Nat,1+c%8=(L:Int):=⟨(1+c%8).toNat,by omega⟩
 have L1:1≤L:=by omega
 have L8:L≤8:=by omega
 rw [eL]
 have A0:=Int.emod_nonneg (c.fdiv 8) (show ((L:Nat):Int)≠0 by omega)
 have A1:=Int.emod_lt_of_pos (c.fdiv 8) (show (0:Int) <((L:Nat):Int) by omega)
 generalize c.fdiv 8%((L:Nat):Int)=A at*
 refine r_menu (xs:=[1,7,11,25]) (SqL.of qa3) (Int.emod_nonneg _ (by decide)) (by show _ <(4:Int);exact Int.emod_lt_of_pos _ (by decide)) fun S hS=>?_
 have hS:S=1∨S=7∨S=11∨S=25:=by simpa using hS
 have Ss:S.natAbs < 2^600:=Nat.lt_of_le_of_lt (show S.natAbs≤25 by omega) (by decide)
 have e1:((L:Nat):Int).toNat=L:=by omega
 clear l0 l1 eL
 left
 rename_i nl hnl
 have s1:=qab hpS (.lst [.int 1,.int 7,.int 11,.int 25])
 generalize upd H pS (.lst [.int 1,.int 7,.int 11,.int 25])=H1 at*
 have hn0:H nl=none:=s1.free hnl
 generalize hLi:((L:Nat):Int)=Li at*
 refine qc4 (fun i σ H'=>∃(w1 w2 w3 w4:Option V),σ=[some (V.int c),some (V.int m),some (V.str ABC),some (V.int Li),some (V.int A),some (V.int S),some (V.ref nl),w1,w2,w3,w4]∧qaq H H'∧H' nl=some (.lst (((List.range i).map (nmE c A S L 0)).map V.str)))
  ⟨_,_,_,_,rfl,s1.trans (qab hnl _),qa3⟩ ?_ ?_
 ·rintro i σ H' hi ⟨w1,w2,w3,w4,rfl,sm,en⟩
  have ki:((0:Int)+(i:Int)).natAbs < 2^600:=Nat.lt_of_le_of_lt (show ((0:Int)+(i:Int)).natAbs≤12 by omega) (by decide)
  left
  rw [e1]
  refine qc4 (fun j σ H2=>H2=H'∧∃(w3 w4:Option V),σ=[some (V.int c),some (V.int m),some (V.str ABC),some (V.int Li),some (V.int A),some (V.int S),some (V.ref nl),some (V.int (0+(i:Int))),some (V.str (ofL ((List.range j).map (nmJ c A S (0+(i:Int)))))),w3,w4])
   ⟨rfl,_,_,rfl⟩ ?_ ?_
  ·rintro j σ H2 hj ⟨rfl,w3,w4,rfl⟩
   have kj:((0:Int)+(j:Int)).natAbs < 2^600:=Nat.lt_of_le_of_lt (show ((0:Int)+(j:Int)).natAbs≤8 by omega) (by decide)
   have lz:(ofL ((List.range j).map (nmJ c A S (0+(i:Int))))).length=j:=by rw [qdo,zB,yG]
   have ee:(List.range (j+1)).map (nmJ c A S (0+(i:Int)))=(List.range j).map (nmJ c A S (0+(i:Int)))++ [nmJ c A S (0+(i:Int)) j]:=by rw [yQ,zE];rfl
   have eJ:nmJ c A S (0+(i:Int)) j=letc (if 0+(j:Int)=A then stpJ c j+S*(0+(i:Int)) else stpJ c j):=rfl
   generalize hzw:ofL ((List.range j).map (nmJ c A S (0+(i:Int))))=zw at*
   left
   refine qff (fun σ' H3=>H3=H2∧σ'=[some (V.int c),some (V.int m),some (V.str ABC),some (V.int Li),some (V.int A),some (V.int S),some (V.ref nl),some (V.int (0+(i:Int))),some (V.str zw),some (V.int (0+(j:Int))),some (V.int (if 0+(j:Int)=A then stpJ c j+S*(0+(i:Int)) else stpJ c j))]) ?_ ?_
   ·left
    refine i_2 (fun c2=>?_) (fun c2=>?_)
    ·rw [if_pos c2]
     left
     exact⟨rfl,rfl⟩
    ·rw [if_neg c2]
     left
     exact⟨rfl,rfl⟩
   ·rintro σ' H3 ⟨rfl,rfl⟩
    left
    refine r_ixS (by decide) (letAt _) ?_
    refine r_catS ?_ ?_
    ·rw [lz];show _+1≤16777216;omega
    left
    have ez:ofL ((List.range (j+1)).map (nmJ c A S (0+(i:Int))))=zw++⟨#[letc (if 0+(j:Int)=A then stpJ c j+S*(0+(i:Int)) else stpJ c j)]⟩:=by rw [ee,eJ,←ofL_snoc,hzw]
    rw [ez]
    exact⟨rfl,_,_,rfl⟩
  ·rintro σ H2 ⟨rfl,w3,w4,rfl⟩
   have hss:(((List.range i).map (nmE c A S L 0)).map V.str).length < sizeLine:=by
    rw [zB,zB,yG];show _ < 16777216;omega
   left
   refine⟨_,_,_,_,rfl,qbe sm hn0,?_⟩
   rw [qa3,yQ,zE,zE]
   have:nmE c A S L 0 i=ofL ((List.range L).map (nmJ c A S (0+(i:Int)))):=nmE_zero c A S L i
   rw [List.map_singleton,List.map_singleton,this]
 ·rintro σ H' ⟨w1,w2,w3,w4,rfl,sm,en⟩
  left
  refine qff (fun σ' H2=>∃(ss:List Str) (w1 w2 w3 w4:Option V),σ'=[some (V.int c),some (V.int m),some (V.str ABC),some (V.int Li),some (V.int A),some (V.int S),some (V.ref nl),w1,w2,w3,w4]∧qaq H H2∧H2 nl=some (.lst (ss.map V.str))∧Nms ss m.toNat) ?_ ?_
  ·have fin:∃(ss':List Str) (w1' w2' w3' w4':Option V), [some (V.int c),some (V.int m),some (V.str ABC),some (V.int Li),some (V.int A),some (V.int S),some (V.ref nl),w1,w2,w3,w4]=[some (V.int c),some (V.int m),some (V.str ABC),some (V.int Li),some (V.int A),some (V.int S),some (V.ref nl),w1',w2',w3',w4']∧qaq H H'∧H' nl=some (.lst (ss'.map V.str))∧Nms ss' m.toNat:=
    ⟨_,_,_,_,_,rfl,sm,en,nmE_nms A0 (by omega) hS (by omega) L1 L8 (.inl rfl)⟩
   left
   refine i_2 (fun c1=>?_) (fun c1=>?_)
   ·left
    refine i_2 (fun c2=>?_) (fun c2=>?_)
    ·left
     refine r_iR3 ?_
     left
     refine r_itS2 (by decide) (by decide) (by omega) (by omega) ?_
     refine f_rngS (fun i σ H2=>∃(w1 w2 w3 w4:Option V),σ=[some (V.int c),some (V.int m),some (V.str ABC),some (V.int Li),some (V.int A),some (V.int S),some (V.ref nl),w1,w2,w3,w4]∧qaq H H2∧H2 nl=some (.lst (((List.range m.toNat).map (nmE c A S L (2*i))).map V.str)))
      ⟨_,_,_,_,rfl,sm,en⟩ ?_ ?_
     ·rintro i σ H2 hi ⟨w1,w2,w3,w4,rfl,sm,en⟩
      have hc:i < cntS 1 m:=hi
      unfold cntS at hc
      have h1:i*2 < m.toNat:=by omega
      have h2:i*2+1 < m.toNat:=by omega
      have eB:nmE c A S L (2*i) (i*2)=ofL (nmB c A S L (i*2)):=by unfold nmE;rw [if_neg (by omega)]
      left
      refine qbn (SqL.of en) (v:=.str (ofL (nmB c A S L (i*2)))) ?_ ?_
      ·rw [show (1:Int)+(i:Int)*2 - 1=((i*2:Nat):Int) by omega,←eB]
       exact qb3 (by rw [zC,zC,List.getElem?_range h1];rfl)
      left
      refine r_ixS (by decide) (letAt _) ?_
      refine r_catS ?_ ?_
      ·rw [qdo,qbp];show _+1≤16777216;omega
      left
      refine r_lpk en (k:=i*2+1) (by rw [zB,zB,yG];exact h2) ?_ (by omega)
      left
      refine⟨_,_,_,_,rfl,qbe sm hn0,?_⟩
      rw [qa3]
      refine congrArg (fun l=>some (HO.lst l)) ?_
      rw [ofL_snoc,show nmB c A S L (i*2)++ [letc (c.fdiv 1536+(1+(i:Int)*2))]=nmD c A S L (i*2+1) by unfold nmD;rw [show i*2+1 - 1=i*2 by omega,show ((i*2+1:Nat):Int)=1+(i:Int)*2 by omega]]
      rw [←List.map_set]
      refine congrArg (List.map V.str) (List.ext_getElem (by rw [List.length_set,zB,zB]) fun j g1 g2=>?_)
      rw [List.getElem_set,List.getElem_map,List.getElem_map,List.getElem_range]
      by_cases ej:i*2+1=j
      ·rw [if_pos ej,←ej]
       unfold nmE
       rw [if_pos (by omega)]
      ·rw [if_neg ej]
       unfold nmE
       by_cases cj:j%2=1∧j < 2*i
       ·rw [if_pos cj,if_pos (by omega)]
       ·rw [if_neg cj,if_neg (by omega)]
     ·rintro σ H2 ⟨w1,w2,w3,w4,rfl,sm,en⟩
      left
      exact⟨_,_,_,_,_,rfl,sm,en,nmE_nms A0 (by omega) hS (by omega) L1 L8 (.inr (by omega))⟩
    ·left
     exact fin
   ·left
    exact fin
  ·rintro σ' H2 ⟨ss,w1,w2,w3,w4,rfl,sm,en,hl⟩
   left
   exact q nl ss H2 sm en hl
def sp_elders (K:Frag) (d:Ad):Sp:=fun vs H Q _=>∃(a:Addr) (ns:List Int) (st:Int) (n:Nat),vs=[.ref a,.int st,.int (n:Int)]∧SqL K H a (ns.map V.int)∧ns.length≤63∧0≤st∧st≤100∧1≤n∧n≤12∧
 ∀(l:Addr) (es:List Nat) (H':Hp),qaq H H'→H' l=some (.lst ((0 :: es).map iV))→es.length+1=n→(∀(k e:Nat),es[k]?=some e→e≤k∧e≤10)→Q (.ref l) H'
theorem es_snoc {es:List Nat} {x:Nat} (h:∀(k e:Nat),es[k]?=some e→e≤k∧e≤10) (hx:x≤es.length) (h10:x≤10):∀(k e:Nat),(es++ [x])[k]?=some e→e≤k∧e≤10:=fun k e hk=>by
 by_cases c:k < es.length
 ·rw [zT c] at hk
  exact h k e hk
 ·rw [zO (by omega)] at hk
  by_cases z:k - es.length=0
  ·rw [z] at hk
   have:x=e:=by simpa using hk
   subst this
   exact⟨by omega,h10⟩
  ·rw [List.getElem?_eq_none (by rw [yC];omega)] at hk
   cases hk
include T in
theorem ok_elders:FnOk P w K mg base CX0 2 d.f_elders d.fd_elders ["_law_script","_law_start","_law_many"] (sp_elders K d):=by
 refine T.F_elders.ok sc_elders (fun vs H Q E h=>?_) (fun cdv A outer s H vs Q E hr h=>?_)
 ·obtain⟨a,ns,st,n,rfl,_⟩:=h;rfl
 obtain⟨a,ns,st,n,rfl,hS,h63,st0,st1,n1,n12,q⟩:=h
 refine⟨_,(qa2 (qag (i:=3) sc_elders.nd rfl (Or.inl rfl) (qdn qdu (qaa ((ok_mix T).mono (by decide)) hr rfl T.m_mix T.F_mix.kp T.b_mix .nil qaf (qa0 (qaa ((ok_cell T).mono (by decide)) hr rfl T.m_cell T.F_cell.kp T.b_cell .nil qaf (qa0 (pv 0) (qa0 (pv 1) qa1))) (qa0 qa8 (qa0 qa8 qa1)))) qa8 (qat _)))
  (qa2 (qag (i:=4) sc_elders.nd rfl (Or.inl rfl) (qc3 (qa0 qa8 qa1)))
  (qa2 (qbf PassesOwn.never rfl (pi_range2 rfl T.z_range (qa0 qa8 (qa0 (pv 2) qa1))) (qav (i:=5) sc_elders.nd rfl (Or.inl rfl)) (qa4 (qcj (qbb (qbo (pv 3)) (qa4 (qas (qeb PySem.F.plainAttrs_list PySem.F.slot_list_append PySem.F.type_list_append qb8 (pv 4) (qa0 (qak qex (pv 5) qa8) qa1)))) (qa4 (qas (qeb PySem.F.plainAttrs_list PySem.F.slot_list_append PySem.F.type_list_append qb8 (pv 4) (qa0 (qaa ((ok_mix T).mono (by decide)) hr rfl T.m_mix T.F_mix.kp T.b_mix .nil qaf (qa0 (qaa ((ok_cell T).mono (by decide)) hr rfl T.m_cell T.F_cell.kp T.b_cell .nil qaf (qa0 (pv 0) (qa0 (qak qaz (pv 1) (pv 5)) qa1))) (qa0 qa8 (qa0 (pv 5) qa1)))) qa1))))))))
  (qa4 (qae (pv 4)))))),?_⟩
 walk_at "d"
 refine qac (σ:=[some (.ref a),some (.int st),some (.int (n:Int)),none,none,none]) rfl ?_
 left
 refine⟨a,ns,st,rfl,hS,st0,by omega,h63,fun c0=>?_⟩
 left
 refine qcf (by decide) (by decide) (by decide) (by decide) fun r r0 r1=>?_
 left
 rename_i l hl
 unfold iRng2
 left
 refine⟨1,_,rfl,⟨by decide,by decide,by omega,by omega⟩,?_⟩
 refine qc4 (fun i σ H'=>∃(es:List Nat) (w:Option V),σ=[some (V.ref a),some (V.int st),some (V.int (n:Int)),some (V.bl (decide (r=0))),some (V.ref l),w]∧qaq H H'∧H' l=some (.lst ((0 :: es).map iV))∧es.length=i∧∀(k e:Nat),es[k]?=some e→e≤k∧e≤10)
  ⟨[],_,rfl,qab hl _,qa3,rfl,fun k e h=>by simp at h⟩ ?_ ?_
 ·rintro i σ H' hi ⟨es,w,rfl,sm,el,hlen,hes⟩
  have hi:i <((n:Int) - 1).toNat:=hi
  have zl:((0 :: es).map iV).length < sizeLine:=by rw [zB,zN];show _ < 16777216;omega
  have hS':=sm.seq hS
  have push:∀(x:Nat) (v:V),v=iV x→x≤i→∃(es':List Nat) (w:Option V), [some (V.ref a),some (V.int st),some (V.int (n:Int)),some (V.bl (decide (r=0))),some (V.ref l),some (V.int (1+(i:Int)))]=[some (V.ref a),some (V.int st),some (V.int (n:Int)),some (V.bl (decide (r=0))),some (V.ref l),w]∧qaq H (upd H' l (.lst ((0 :: es).map iV++ [v])))∧upd H' l (.lst ((0 :: es).map iV++ [v])) l=some (.lst ((0 :: es').map iV))∧es'.length=i+1∧∀(k e:Nat),es'[k]?=some e→e≤k∧e≤10:=fun x v ev hx=>
   ⟨es++ [x],_,rfl,qbe sm hl,by rw [qa3,ev,←List.cons_append,zE];rfl,by rw [zF,hlen];rfl,es_snoc hes (by omega) (by omega)⟩
  left
  refine r_cut0 ?_
  left
  by_cases c:r=0
  ·rw [decide_eq_true c]
   rw [decide_eq_true c] at push
   left
   exact push i _ (by show V.int (1+(i:Int) - 1)=V.int ((i:Nat):Int);rw [show (1:Int)+(i:Int) - 1=((i:Nat):Int) by omega]) (Nat.le_refl _)
  ·rw [decide_eq_false c]
   rw [decide_eq_false c] at push
   left
   refine⟨a,ns,st+(1+(i:Int)),rfl,hS',by omega,by omega,h63,fun c1=>?_⟩
   left
   refine qcf (by decide) (by decide) (by omega) (by omega) fun r2 a0 a1=>?_
   left
   exact push r2.toNat _ (by show V.int r2=V.int ((r2.toNat:Nat):Int);rw [Int.toNat_of_nonneg a0]) (by omega)
 ·rintro σ H' ⟨es,w,rfl,sm,el,hlen,hes⟩
  left
  exact q l es H' sm el (by omega) hes
def sp_line (K:Frag) (d:Ad):Sp:=fun vs H Q _=>∃(le:Addr) (es:List Nat) (k:Nat),vs=[.ref le,.int (k:Int)]∧H le=some (.lst ((0 :: es).map iV))∧(∀(k e:Nat),es[k]?=some e→e≤k)∧k < es.length+1∧k≤12∧
 ∀l:Addr,H l=none→Q (.ref l) (upd H l (.lst ((qai (elN es) k).map iV)))
def measA (σ:L2.St):Nat:=match σ[1]? with
 |some (some (V.int a))=>a.toNat
 |_=>0
include T in
theorem ok_line:FnOk P w K mg base CX0 1 d.f_line d.fd_line ["_law_elders_here","_law_at"] (sp_line K d):=by
 refine T.F_line.ok sc_line (fun vs H Q E h=>?_) (fun cdv A outer s H vs Q E hr h=>?_)
 ·obtain⟨le,es,k,rfl,_⟩:=h;rfl
 obtain⟨le,es,k,rfl,hE,lo,hk,k12,q⟩:=h
 have low:=elN_low lo (es.length+1)
 refine⟨_,(qa2 (qag (i:=2) sc_line.nd rfl (Or.inl rfl) (qc3 (qa0 (pv 1) qa1)))
  (qa2 (ps_while PassesOwn.never (qan qfj (pv 1) qa8 (qat _)) (qa2 (qag (i:=1) sc_line.nd rfl (Or.inl rfl) (qb4 qam (pv 0) (pv 1) (fun _ _=>rfl)))
  (qa4 (qas (qeb PySem.F.plainAttrs_list PySem.F.slot_list_append PySem.F.type_list_append qb8 (pv 2) (qa0 (pv 1) qa1))))))
  (qa4 (qae (pv 2))))),?_⟩
 walk_at "d"
 refine qac (σ:=[some (.ref le),some (.int (k:Int)),none]) rfl ?_
 left
 rename_i l hl
 have nel:le≠l:=qa5 hE hl
 refine while_by (fun σ H'=>∃(j:Nat) (pre:List Nat),σ=[some (V.ref le),some (V.int (j:Int)),some (V.ref l)]∧H'=upd H l (.lst ((pre++ [j]).map iV))∧j≤k∧pre++qai (elN es) j=qai (elN es) k∧pre.length+j≤k) (fun σ _=>measA σ) ?_ ?_ ?_
 ·exact⟨k, [],rfl,rfl,Nat.le_refl _,rfl,by simp⟩
 ·rintro σ H1 ⟨j,pre,rfl,rfl,hj,hp,hpl⟩
  have zl:((pre++ [j]).map iV).length < sizeLine:=by rw [zB,zF,yC];show _ < 16777216;omega
  have hE':upd H l (.lst ((pre++ [j]).map iV)) le=some (.lst ((0 :: es).map iV)):=qa9 hE hl
  left
  refine i_2 (fun c=>?_) (fun c=>?_)
  ·have hb:j - 1 < es.length:=by omega
   have ej:elN es j=es[j - 1]:=by
    have:=elN_at (es:=es) (b:=j - 1) hb
    rw [show j - 1+1=j by omega] at this
    exact this
   have lj:=low j (by omega) (by omega)
   have xe:atI ((0 :: es).map iV) ((j:Nat):Int)=some (V.int ((elN es j:Nat):Int)):=by
    rw [ej]
    refine qb3 ?_
    obtain⟨b,rfl⟩:∃b,j=b+1:=⟨j - 1,by omega⟩
    rw [zC,List.getElem?_cons_succ,zA (by omega)]
    rfl
   left
   refine qbn (SqL.of hE') xe ?_
   left
   refine⟨⟨elN es j,pre++ [j],rfl,?_,by omega,?_,by rw [zF,yC];omega⟩,?_⟩
   ·rw [qb5,zE (l₁:=pre++ [j])];rfl
   ·have hu:=qc1 low (show 0 < j by omega) (show j < es.length+1 by omega)
    rw [←hp,hu,List.append_assoc];rfl
   ·show ((elN es j:Nat):Int).toNat <((j:Nat):Int).toNat
    omega
  ·have z:j=0:=by omega
   subst z
   left
   rw [qck] at hp
   rw [hp]
   exact q l hl
 ·rintro σ H1 Q1 Q2 h ⟨v,e,a,b,e1,e2,d,e3,q⟩
  exact⟨v,e,a,b,e1,e2,d,e3,h _ _ q⟩
def tdS (f:Str→Option Int) (p:Str × Int):Str→Option Int:=if 0 < p.2 then putF' f p.1 p.2 else f
def tdP (k:List (Key × V)) (p:Str × Int):List (Key × V):=if 0 < p.2 then qcu k (Sum.inr p.1) (.int p.2) else k
def tdF (l:List (Str × Int)):Str→Option Int:=l.foldl tdS noF
def tdK (l:List (Str × Int)):List (Key × V):=l.foldl tdP []
theorem td_snoc (l:List (Str × Int)) (p:Str × Int):tdF (l++ [p])=tdS (tdF l) p∧tdK (l++ [p])=tdP (tdK l) p:=by
 unfold tdF tdK
 rw [List.foldl_append,List.foldl_append]
 exact⟨rfl,rfl⟩
theorem td_ad0:∀(l:List (Str × Int)) {k:List (Key × V)} {f:Str→Option Int},AD k f→AD (l.foldl tdP k) (l.foldl tdS f)
 | [],_,_,h=>h
 |p :: l,k,f,h=>by
  rw [yP,yP]
  refine td_ad0 l ?_
  unfold tdP tdS
  by_cases c:0 < p.2
  ·rw [if_pos c,if_pos c];exact h.put _ _
  ·rw [if_neg c,if_neg c];exact h
theorem qfa (l:List (Str × Int)):AD (tdK l) (tdF l):=td_ad0 l AD.nil
theorem td_len0:∀(l:List (Str × Int)) (k:List (Key × V)),(l.foldl tdP k).length≤k.length+l.length
 | [],k=>Nat.le_refl _
 |p :: l,k=>by
  rw [yP,zN]
  have h:=td_len0 l (tdP k p)
  have:(tdP k p).length≤k.length+1:=by
   unfold tdP
   by_cases c:0 < p.2
   ·rw [if_pos c];have:=qbu k (Sum.inr p.1) (.int p.2);omega
   ·rw [if_neg c];omega
  omega
theorem td_len (l:List (Str × Int)):(tdK l).length≤l.length:=by
 have:=td_len0 l []
 rw [yO,Nat.zero_add] at this
 exact this
theorem td_miss:∀(l:List (Str × Int)) (f:Str→Option Int) (z:Str),z∉l.map (·.1)→l.foldl tdS f z=f z
 | [],_,_,_=>rfl
 |p :: l,f,z,h=>by
  rw [zQ,zK,not_or] at h
  rw [yP,td_miss l _ z h.2]
  unfold tdS
  by_cases c:0 < p.2
  ·rw [if_pos c];unfold putF';rw [if_neg h.1]
  ·rw [if_neg c]
theorem td_hit:∀(l:List (Str × Int)) (f:Str→Option Int) (p:Str × Int),(l.map (·.1)).Nodup→p∈l→f p.1=none→l.foldl tdS f p.1=if 0 < p.2 then some p.2 else none
 | [],_,_,_,h,_=>absurd h (by simp)
 |x :: l,f,p,nd,h,hf=>by
  rw [zQ,zX] at nd
  rw [yP]
  rcases zK.mp h with e|e
  ·subst e
   rw [td_miss l _ _ nd.1]
   unfold tdS
   by_cases c:0 < p.2
   ·rw [if_pos c,if_pos c];unfold putF';rw [if_pos rfl]
   ·rw [if_neg c,if_neg c];exact hf
  ·have ne:p.1≠x.1:=fun z=>nd.1 (z ▸ zJ.mpr ⟨p,e,rfl⟩)
   refine td_hit l _ p nd.2 e ?_
   unfold tdS
   by_cases c:0 < x.2
   ·rw [if_pos c];unfold putF';rw [if_neg ne];exact hf
   ·rw [if_neg c];exact hf
theorem zip_fst {ws:List Str} {ps:List Int} (h:ws.length=ps.length):(ws.zip ps).map (·.1)=ws:=by
 rw [List.map_fst_zip (by omega)]
theorem tdF_at {ws:List Str} {ps:List Int} (h:ws.length=ps.length) (nd:ws.Nodup) {j:Nat} (h1:j < ws.length) (h2:j < ps.length):tdF (ws.zip ps) ws[j]=if 0 < ps[j] then some ps[j] else none:=by
 have hm:(ws[j],ps[j])∈ws.zip ps:=by
  refine zM.mpr ⟨j,by rw [List.length_zip];omega,?_⟩
  rw [List.getElem_zip]
 exact td_hit (ws.zip ps) noF (ws[j],ps[j]) (by rw [zip_fst h];exact nd) hm rfl
theorem tdF_in {ws:List Str} {ps:List Int} (h:ws.length=ps.length):InW ws (tdF (ws.zip ps)):=fun z hz=>by
 apply Classical.byContradiction
 intro c
 exact hz (td_miss (ws.zip ps) noF z (by rw [zip_fst h];exact c))
theorem qfb {ws:List Str} {ps:List Int} {B:Int} (h:ws.length=ps.length) (nd:ws.Nodup) (hp:∀p∈ps,p≤B):FinB ws B (tdF (ws.zip ps)):=fun z n e=>by
 have hz:=tdF_in h z (by rw [e];simp)
 obtain⟨j,hj,rfl⟩:=zM.mp hz
 have hj2:j < ps.length:=by omega
 rw [tdF_at h nd hj hj2] at e
 by_cases c:0 < ps[j]
 ·rw [if_pos c] at e
  have e:ps[j]=n:=Option.some.inj e
  exact⟨hz,by omega,by rw [←e];exact hp _ (zL hj2)⟩
 ·rw [if_neg c] at e;cases e
theorem tdF_gN {ws:List Str} {ps:List Int} (h:ws.length=ps.length) (nd:ws.Nodup) (h0:∀p∈ps,0≤p) {j:Nat} (h1:j < ws.length) (h2:j < ps.length):gN (tdF (ws.zip ps)) ws[j]=ps[j]:=by
 unfold gN
 rw [tdF_at h nd h1 h2]
 have:=h0 _ (zL h2)
 by_cases c:0 < ps[j]
 ·rw [if_pos c];rfl
 ·rw [if_neg c];show (0:Int)=_;omega
def sp_told (K:Frag) (d:Ad):Sp:=fun vs H Q _=>∃(lw lp:Addr) (ws:List Str) (ps:List Int),vs=[.ref lw,.ref lp]∧SqL K H lw (ws.map V.str)∧SqL K H lp (ps.map V.int)∧ws.length=ps.length∧ws.length≤100∧
 ∀(l:Addr) (H':Hp),qaq H H'→H l=none→H' l=some (.dK (tdK (ws.zip ps)))→Q (.ref l) H'
include T in
theorem ok_told:FnOk P w K mg base CX0 1 d.f_told d.fd_told ["_law_wares","_law_parts_here"] (sp_told K d):=by
 refine T.F_told.ok sc_told (fun vs H Q E h=>?_) (fun cdv A outer s H vs Q E hr h=>?_)
 ·obtain⟨lw,lp,ws,ps,rfl,_⟩:=h;rfl
 obtain⟨lw,lp,ws,ps,rfl,hW,hP,hwp,h100,q⟩:=h
 refine⟨_,(qa2 (qag (i:=2) sc_told.nd rfl (Or.inl rfl) qdx)
  (qa2 (qbf PassesOwn.never rfl (pi_zip rfl T.z_zip (qa0 (pv 0) (qa0 (pv 1) qa1))) (pg_tup rfl (pgs_cons (qav (i:=3) sc_told.nd rfl (Or.inl rfl)) (pgs_cons (qav (i:=4) sc_told.nd rfl (Or.inl rfl)) pgs_nil))) (qa4 (qcj (qbb (qan qfj (pv 4) qa8 (qat _)) (qa4 (qdl (qc5 hr) (pv 2) (pv 3) (pv 4) rfl)) qal))))
  (qa4 (qae (pv 2))))),?_⟩
 walk_at "d"
 refine qac (σ:=[some (.ref lw),some (.ref lp),none,none,none]) rfl ?_
 left
 rename_i l hl
 have s1:=qab hl (.dK [])
 refine r_itZ (s1.seq hW) (s1.seq hP) ?_
 refine f_zip (by rw [zB,zB];exact hwp) (fun i σ H'=>∃w1 w2:Option V,σ=[some (V.ref lw),some (V.ref lp),some (V.ref l),w1,w2]∧qaq H H'∧H' l=some (.dK (tdK ((ws.zip ps).take i)))) ⟨_,_,rfl,s1,qa3⟩ ?_ ?_ ?_
 ·rintro i σ H' ⟨w1,w2,rfl,sm,el⟩
  exact⟨sm.seq hW,sm.seq hP⟩
 ·rintro i x y Tt σ H' hx hy ⟨w1,w2,rfl,sm,el⟩ hTt
  rw [zC] at hx hy
  obtain⟨z,hz,rfl⟩:=Option.map_eq_some_iff.mp hx
  obtain⟨n,hn,rfl⟩:=Option.map_eq_some_iff.mp hy
  have hzn:(ws.zip ps)[i]?=some (z,n):=by rw [List.getElem?_zip_eq_some];exact⟨hz,hn⟩
  have tk:(ws.zip ps).take (i+1)=(ws.zip ps).take i++ [(z,n)]:=by rw [zS,hzn];rfl
  have st:=td_snoc ((ws.zip ps).take i) (z,n)
  rw [←tk] at st
  have s2:=qab hTt (.tup [.str z,.int n])
  have el2:=s2 _ _ el
  have tT:upd H' Tt (.tup [.str z,.int n]) Tt=some (.tup [.str z,.int n]):=qa3
  generalize upd H' Tt (.tup [.str z,.int n])=H2 at*
  have kl:(tdK ((ws.zip ps).take i)).length < sizeLine:=by
   have:=td_len ((ws.zip ps).take i)
   rw [yB,List.length_zip] at this
   show _ < 16777216
   omega
  rw [st.2]
  unfold tdP
  clear hx hy hz hn hzn tk st
  left
  refine r_cut0 ?_
  left
  refine i_2 (fun c=>?_) (fun c=>?_)
  ·left
   exact⟨_,_,rfl,qbe (sm.trans s2) hl,by rw [qa3,if_pos c]⟩
  ·left
   exact⟨_,_,rfl,sm.trans s2,by rw [if_neg c];exact el2⟩
 ·rintro σ H' ⟨w1,w2,rfl,sm,el⟩
  left
  rw [zB,show (ws.zip ps).take ws.length=ws.zip ps from List.take_of_length_le (by rw [List.length_zip];omega)] at el
  exact q l H' sm hl el
structure Sc (sc:Int):Prop where
 lo:1≤sc
 hi:sc≤10^28
structure PpOk (p:Int):Prop where
 lo:0≤p
 hi:p≤5*10^28
structure XuOk (x:Int):Prop where
 hi:x≤4*10^28
def sp_parts (K:Frag) (d:Ad):Sp:=fun vs H Q _=>∃(c sc:Int) (k:Nat),vs=[.int c,.int (k:Int),.int sc]∧1≤k∧k≤3∧Sc sc∧
 ∀(l:Addr) (ps:List Int) (H':Hp),qaq H H'→H l=none→H' l=some (.lst (ps.map V.int))→ps.length=k→(∀p∈ps,PpOk p)→Q (.ref l) H'
include T in
theorem ok_parts:FnOk P w K mg base CX0 2 d.f_parts d.fd_parts ["_law_cell_here","_law_kinds","_law_scale"] (sp_parts K d):=by
 refine T.F_parts.ok sc_parts (fun vs H Q E h=>?_) (fun cdv A outer s H vs Q E hr h=>?_)
 ·obtain⟨c,sc,k,rfl,_⟩:=h;rfl
 obtain⟨c,sc,k,rfl,k1,k3,hsc,q⟩:=h
 refine⟨_,(qa2 (qag (i:=3) sc_parts.nd rfl (Or.inl rfl) (qc3 qa1))
  (qa2 (qbf PassesOwn.never rfl (qb7 rfl T.z_range (qa0 (pv 1) qa1)) (qav (i:=4) sc_parts.nd rfl (Or.inl rfl)) (qa2 (qag (i:=5) sc_parts.nd rfl (Or.inl rfl) (qak qaz (qak qaz (qak qbh (qaa ((ok_mix T).mono (by decide)) hr rfl T.m_mix T.F_mix.kp T.b_mix .nil qaf (qa0 (pv 0) (qa0 (qak qaz qa8 (qak qbh qa8 (pv 4))) (qa0 qa8 qa1)))) (pv 2)) qa8) (qaa ((ok_mix T).mono (by decide)) hr rfl T.m_mix T.F_mix.kp T.b_mix .nil qaf (qa0 (pv 0) (qa0 (qak qaz qa8 (qak qbh qa8 (pv 4))) (qa0 qa8 qa1))))))
  (qa4 (qas (qeb PySem.F.plainAttrs_list PySem.F.slot_list_append PySem.F.type_list_append qb8 (pv 3) (qa0 (qak qbh (pv 5) (qad (qel rfl) rfl T.z_min PyProof.Rows.boot_min (qa0 qa8 (qa0 (qaa ((ok_mix T).mono (by decide)) hr rfl T.m_mix T.F_mix.kp T.b_mix .nil qaf (qa0 (pv 0) (qa0 (qak qaz qa8 (pv 4)) (qa0 qa8 qa1)))) qa1)))) qa1))))))
  (qa2 (qcj (qbb (qan qdu (qad (qem rfl) rfl T.z_max PyProof.Rows.boot_max (qa0 (pv 3) qa1)) qa8 (qat _)) (qa4 (ps_lput (pv 3) (qaa ((ok_mix T).mono (by decide)) hr rfl T.m_mix T.F_mix.kp T.b_mix .nil qaf (qa0 (pv 0) (qa0 qa8 (qa0 (pv 1) qa1)))) (pv 2) rfl)) qal))
  (qa4 (qae (pv 3)))))),?_⟩
 walk_at "d"
 refine qac (σ:=[some (.int c),some (.int (k:Int)),some (.int sc),none,none,none]) rfl ?_
 have ek:((k:Nat):Int).toNat=k:=by omega
 generalize hki:((k:Nat):Int)=ki at*
 have sb:sc.natAbs < 2^200:=by
  have a:=hsc.lo
  have b:=hsc.hi
  exact Nat.lt_of_le_of_lt (show sc.natAbs≤10^28 by omega) (by decide)
 have s0:0≤sc:=by have:=hsc.lo;omega
 have sb6:sc.natAbs < 2^600:=Nat.lt_trans sb (by decide)
 left
 rename_i l hl
 rw [ek]
 refine qc4 (fun i σ H'=>∃(ps:List Int) (w1 w2:Option V),σ=[some (V.int c),some (V.int ki),some (V.int sc),some (V.ref l),w1,w2]∧H'=upd H l (.lst (ps.map V.int))∧ps.length=i∧∀p∈ps,PpOk p) ⟨[],_,_,rfl,rfl,rfl,fun p h=>by simp at h⟩ ?_ ?_
 ·rintro i σ H' hi ⟨ps,w1,w2,rfl,rfl,hlen,hp⟩
  have zl:(ps.map V.int).length < sizeLine:=by rw [zB];show _ < 16777216;omega
  have b2:((2:Int)).natAbs < 2^600∧((0:Int)+(i:Int)).natAbs < 2^600:=⟨by decide,Nat.lt_of_le_of_lt (show ((0:Int)+(i:Int)).natAbs≤5 by omega) (by decide)⟩
  left
  refine qcf (by omega) (by omega) (by decide) (by decide) fun r r0 r1=>?_
  have rb:r.natAbs < 2^600:=Nat.lt_of_le_of_lt (show r.natAbs≤5 by omega) (by decide)
  left
  refine qcf (by omega) (by omega) (by decide) (by decide) fun r2 a0 a1=>?_
  left
  refine qcf (by omega) (by omega) (by decide) (by decide) fun r3 d0 d1=>?_
  have x0:0≤r*sc:=Int.mul_nonneg r0 s0
  have xu:XuOk (r*sc):=⟨Int.mul_le_mul (show r≤4 by omega) hsc.hi s0 (by decide)⟩
  have xb:(r*sc).natAbs < 2^300:=by
   rw [Int.natAbs_mul]
   exact Nat.lt_of_le_of_lt (Nat.mul_le_mul (show r.natAbs≤5 by omega) (Nat.le_of_lt sb)) (by decide)
  generalize r*sc=x at*
  have yb:(x+1+r2).natAbs < 2^600:=Nat.lt_of_le_of_lt (show (x+1+r2).natAbs≤2^300+10 by omega) (by decide)
  have y0:0≤x+1+r2:=by omega
  have yu:PpOk (x+1+r2):=⟨y0,by have:=xu.hi;omega⟩
  generalize x+1+r2=y at*
  left
  have m0:(if r3 < 1 then r3 else (1:Int))=0∨(if r3 < 1 then r3 else (1:Int))=1:=by split <;> omega
  have m1:(if r3 < 1 then r3 else (1:Int)).natAbs < 2^600:=Nat.lt_of_le_of_lt (show _≤5 by split <;> omega) (by decide)
  generalize (if r3 < 1 then r3 else (1:Int))=z at*
  refine⟨ps++ [y*z],_,_,rfl,by rw [qb5,zE];rfl,by rw [zF,hlen];rfl,fun p h=>?_⟩
  rcases zU.mp h with h|h
  ·exact hp p h
  ·rw [zI.mp h]
   rcases m0 with e|e
   ·rw [e,Int.mul_zero];exact⟨by decide,by decide⟩
   ·rw [e,Int.mul_one];exact yu
 ·rintro σ H' ⟨ps,w1,w2,rfl,rfl,hlen,hp⟩
  left
  refine qff (fun σ' H'=>∃(ps:List Int) (w1 w2:Option V),σ'=[some (V.int c),some (V.int ki),some (V.int sc),some (V.ref l),w1,w2]∧H'=upd H l (.lst (ps.map V.int))∧ps.length=k∧∀p∈ps,PpOk p) ?_ ?_
  ·left
   refine r_maxL (SqL.of qa3) (by omega) fun m _ _=>?_
   left
   refine i_2 (fun c0=>?_) (fun c0=>?_)
   ·left
    refine qcf (by decide) (by decide) (by omega) (by omega) fun r r0 r1=>?_
    refine r_lpk qa3 (k:=r.toNat) (by rw [zB];omega) ?_ (by omega)
    left
    refine⟨ps.set r.toNat sc,_,_,rfl,by rw [qb5,←List.map_set],by rw [List.length_set];exact hlen,fun p h=>?_⟩
    rcases List.mem_or_eq_of_mem_set h with h|h
    ·exact hp p h
    ·rw [h];exact⟨s0,by have:=hsc.hi;omega⟩
   ·left
    exact⟨ps,_,_,rfl,rfl,hlen,hp⟩
  ·rintro σ' H' ⟨ps,w1,w2,rfl,rfl,hlen,hp⟩
   left
   exact q l ps _ (qab hl _) hl qa3 hlen hp
include T in
theorem ok_Tree_cap_of:FnOk P w K mg base (My.CX1 P w) 4 d.f_Tree_cap_of d.fd_Tree_cap_of ["self","name"] (sp_Tree_cap_of K d):=by
 refine okX T.F_Tree_cap_of sc_Tree_cap_of (fun vs H Q E h=>?_) (fun cdv A outer s H vs Q E hr h=>?_)
 ·obtain⟨t,S,x,rfl,_⟩:=h;rfl
 obtain⟨t,S,x,rfl,hT,hx,q1,q2⟩:=h
 refine⟨_,(qa4 (qae (qbw qd1 rfl T.z_dict PyProof.Rows.boot_dict (qa0 (qao (qap (pv 0) T.CL_Tree T.ME_Tree_house_of ((ok_Tree_house_of T).mono (by decide)) hr T.b_Tree_house_of .nil qar (qa0 (pv 1) qa1)) rfl) qa1)))),?_⟩
 walk_at "d"
 refine qac (σ:=[some (.ref t),some (x)]) rfl ?_
 have hT0:=hT
 obtain⟨⟨dx,ht⟩,hw,hh,nd,hz,hE⟩:=hT
 have ct:=T.CL_Tree
 have nh:qaj K d.c_Tree "houses":=T.NA_Tree_houses
 left
 refine⟨t,S,x,rfl,hT0,hx,fun e he=>?_,q2⟩
 obtain⟨z,rfl⟩:∃z,x=.str z:=by
  rcases hx with h|⟨_,nz⟩
  ·exact h
  ·rw [qcn nz] at he;cases he
 obtain⟨⟨dh,ho⟩,hp,hpA,hc,hcA⟩:=hE e (qbr he).1
 have ch:=T.CL_House
 have nf:qaj K d.c_House "cap":=T.NA_House_cap
 have hRp:Rd H e.x.pa (.dK e.x.kp):=.inl hp
 have hRc:Rd H e.x.ca (.dK e.x.kc):=.inl hc
 left
 rename_i p hp
 exact q1 e he p hp
def sp_Hold_may_end (K:Frag) (d:Ad):Sp:=fun vs H Q _=>∃x y z:V,vs=[x,y,z]∧Q (.bl false) H
def sp_Loan_may_end (K:Frag) (d:Ad):Sp:=fun vs H Q _=>∃(o m dx:Addr) (n:Int) (z:Str) (rk:Int) (t:Option Int) (r:Int) (s:Bool),vs=[.ref o,.int r,.bl s]∧H o=some (.ins d.c_Loan dx (fsB n z m rk t))∧Q (.bl (s || decide (rk < r))) H
include T in
theorem ok_Hold_may_end:FnOk P w K mg base CX0 1 d.f_Hold_may_end d.fd_Hold_may_end ["self","rank","sure"] (sp_Hold_may_end K d):=by
 refine T.F_Hold_may_end.ok sc_Hold_may_end (fun vs H Q E h=>?_) (fun cdv A outer s H vs Q E hr h=>?_)
 ·obtain⟨x,y,z,rfl,_⟩:=h;rfl
 obtain⟨x,y,z,rfl,q⟩:=h
 refine⟨_,(qa4 (qae qd5)),?_⟩
 walk_at "d"
 refine qac (σ:=[some (x),some (y),some (z)]) rfl ?_
 left
 exact q
include T in
theorem ok_Loan_may_end:FnOk P w K mg base CX0 1 d.f_Loan_may_end d.fd_Loan_may_end ["self","rank","sure"] (sp_Loan_may_end K d):=by
 refine T.F_Loan_may_end.ok sc_Loan_may_end (fun vs H Q E h=>?_) (fun cdv A outer s H vs Q E hr h=>?_)
 ·obtain⟨o,m,dx,n,z,rk,t,r,s,rfl,_⟩:=h;rfl
 obtain⟨o,m,dx,n,z,rk,t,r,b,rfl,ho,q⟩:=h
 refine⟨_,(qa4 (qae (pe_or (pv 2) (qea (qdn op_lt (qao (pv 0) rfl) (pv 1) (qat _)))))),?_⟩
 walk_at "d"
 refine qac (σ:=[some (.ref o),some (.int r),some (.bl b)]) rfl ?_
 have c:=T.CL_Loan
 have n4:qaj K d.c_Loan "rank":=T.NA_Loan_rank
 unfold fsB at ho
 left
 refine i_b2 (fun e=>?_) (fun e=>?_)
 ·subst e
  left
  exact q
 ·subst e
  left
  exact q
def qba (r:Int) (s:Bool) (b:Ob):Bool:=b.R.s || !(s || decide (b.R.r < r))
def sp_fixed (K:Frag) (d:Ad):Sp:=fun vs H Q _=>∃(lh:Addr) (P:PL) (bs:List Ob) (r:Int) (s:Bool),vs=[.ref lh,.int r,.bl s]∧H lh=some (.lst (bsV bs))∧bs.length≤63∧(∀b∈bs,ObAt d H P b)∧
 ∀(l:Addr),H l=none→Q (.ref l) (upd H l (.lst (bsV (bs.filter (qba r s)))))
include T in
theorem ok_fixed:FnOk P w K mg base CX0 2 d.f_fixed d.fd_fixed ["holds","rank","sure"] (sp_fixed K d):=by
 refine T.F_fixed.ok sc_fixed (fun vs H Q E h=>?_) (fun cdv A outer s H vs Q E hr h=>?_)
 ·obtain⟨lh,P,bs,r,s,rfl,_⟩:=h;rfl
 obtain⟨lh,P,bs,r,s',rfl,hL,h63,hB,q⟩:=h
 refine⟨_,(qa4 (qae (qbt (caps:=[1,2]) (cn:=["rank","sure"]) (qbc rfl rfl (by rfl) (by rfl) rfl ⟨rfl,⟨rfl,trivial⟩⟩ (by rfl) rfl ⟨⟨rfl,rfl,rfl,rfl,_,rfl⟩,⟨⟨rfl,rfl,rfl,rfl,_,rfl⟩,trivial⟩⟩ (by decide)) rfl (qb6 (pv 0)) (fun _ _ _ _=>(qds (qci (qbo (pe_alt (qcc (pv 0) T.CL_Hold T.ME_Hold_may_end ((ok_Hold_may_end T).mono (by decide)) hr T.b_Hold_may_end .nil qaf (qa0 (pv 1) (qa0 (pv 2) qa1))) (qcc (pv 0) T.CL_Loan T.ME_Loan_may_end ((ok_Loan_may_end T).mono (by decide)) hr T.b_Loan_may_end .nil qaf (qa0 (pv 1) (qa0 (pv 2) qa1)))))))) (fun _ _ _ _=>(pv 0))))),?_⟩
 walk_at "d"
 try dsimp only [cxC]
 refine qac (σ:=[some (.ref lh),some (.int r),some (.bl s')]) rfl ?_
 left
 intro C s0 H0 fp acc hacc
 refine c_by bs.length (fun i H'=>H'=upd H acc (.lst (bsV ((bs.take i).filter (qba r s'))))) rfl ?_ ?_ ?_ ?_
 ·rintro i H' hi rfl
  exact⟨_,.ref bs[i].o,SqL.of (qa9 hL hacc),by unfold bsV;rw [zC,zA hi];rfl⟩
 ·rintro H' rfl
  exact⟨_,SqL.of (qa9 hL hacc),by unfold bsV;rw [zB];exact Nat.le_refl _⟩
 ·rintro i H' v H'' hi rfl ⟨rfl,hy⟩
  have hv:=hy _ (SqL.of (qa9 hL hacc))
  unfold bsV at hv
  rw [zC,zA hi] at hv
  cases hv
  have hb:=hB _ (zL hi)
  have tk:bs.take (i+1)=bs.take i++ [bs[i]]:=by rw [zS,zA hi];rfl
  generalize hbi:bs[i]=b at*
  obtain⟨dx,hbo⟩:=hb.obj
  have hbo':=qa9 (o':=.lst (bsV ((bs.take i).filter (qba r s')))) hbo hacc
  have zl:(bsV ((bs.take i).filter (qba r s'))).length < sizeLine:=by
   unfold bsV
   rw [zB]
   have h1:=zP (qba r s') (bs.take i)
   rw [yB] at h1
   show _ < 16777216
   omega
  have yes:qba r s' b=true→upd (upd H acc (.lst (bsV ((bs.take i).filter (qba r s'))))) acc (.lst (bsV ((bs.take i).filter (qba r s'))++ [.ref b.o]))=upd H acc (.lst (bsV ((bs.take (i+1)).filter (qba r s')))):=fun e=>by
   rw [qb5,tk,zW,zY,if_pos e]
   congr 2
   unfold bsV
   rw [zE];rfl
  have no:qba r s' b=false→upd H acc (.lst (bsV ((bs.take i).filter (qba r s'))))=upd H acc (.lst (bsV ((bs.take (i+1)).filter (qba r s')))):=fun e=>by
   rw [tk,zW,zY,if_neg (by rw [e];exact Bool.false_ne_true),yL,yD]
  cases hs:b.R.s with
  |true=>
   rw [hs,show qf3 d true=d.c_Hold from rfl] at hbo'
   left
   refine r_alt1 ?_
   left
   refine⟨_,_,_,rfl,?_⟩
   left
   exact yes (by unfold qba;rw [hs];rfl)
  |false=>
   rw [hs,show qf3 d false=d.c_Loan from rfl] at hbo'
   left
   refine r_alt2 ?_
   left
   refine⟨b.o,b.m,dx,b.R.n,nmF P b.R.i,b.R.r,b.t,r,s',rfl,hbo',?_⟩
   cases hq:(s' || decide (b.R.r < r)) with
   |true=>
    left
    exact no (by unfold qba;rw [hs,hq];rfl)
   |false=>
    left
    exact yes (by unfold qba;rw [hs,hq];rfl)
 rintro H' rfl
 rw [zZ]
 left
 exact q acc hacc
theorem r_dpT {H:Hp} {a b:Addr} {kvs:List (List Key × V)} {k:List Key} {v:V} {D:Ends} {σ:L2.St} (e:H a=some (.dT kvs)) (eb:H b=some (.tup (k.map kV))) (hz:kvs.length < sizeLine) (h:D.nx σ (upd H a (.dT (qcu kvs k v)))):rDP (.ref a) (.ref b) v H D σ:=⟨a,_,rfl,DPut.t e eb hz,h⟩
theorem r_dgT {H:Hp} {Q:VK} {a b:Addr} {kvs:List (List Key × V)} {k:List Key} {v:V} (d:Rd H a (.dT kvs)) (eb:H b=some (.tup (k.map kV))) (e:qc7 kvs k=some v) (h:Q v H):rDGk (.ref a) (.ref b) H Q:=⟨a,v,rfl,.inr ⟨kvs,k,b,d,rfl,eb,e.symm⟩,h⟩
theorem r_dnewT {σ:L2.St} {H:Hp} {Q:VK} (h:∀p,H p=none→Q (.ref p) (upd H p (.dT []))):tDNewT σ H Q:=h
theorem qdw {κ:Type} [DecidableEq κ] {kvs:List (κ × V)} {k:κ} {v:V} (h:k∉kvs.map (·.1)):qcu kvs k v=kvs++ [(k,v)]:=by
 unfold qcu
 rw [if_neg]
 intro e
 obtain⟨x,hx,hk⟩:=List.any_eq_true.mp e
 exact h (zJ.mpr ⟨x,hx,of_decide_eq_true hk⟩)
def qch (z:Str) (ss:List Str) (val:Str→Int):List (List Key × V):=ss.map fun w=>([Sum.inr z,Sum.inr w],V.int (val w))
def qcb (P:PL) (js:List Nat) (ss:List Str) (val:Nat→Str→Int):List (List Key × V):=js.flatMap fun j=>qch (nmF P j) ss (val j)
def fcOf (S:Ts) (z:Str):Str→Option Int:=match S.at z with
 |some e=>e.x.fc
 |none=>noF
def useF (P:PL) (bs:List Ob) (j:Nat):Str→Option Int:=qer ((bs.filter fun b=>decide (j∈qai (elN P.es) b.R.i)).map obPt)
def qbg (S:Ts) (P:PL) (bs:List Ob) (f:Str→Option Int) (j:Nat) (w:Str):Int:=gN (fcOf S (nmF P j)) w - gN (useF P bs j) w - gN f w
structure WdAt (K:Frag) (d:Ad) (H:Hp) (t lh:Addr) (S:Ts) (P:PL) (bs:List Ob) (n:Nat):Prop where
 tr:qd2 d H t S
 wf:WF S
 pl:Pl S (nmF P) (elN P.es) n
 nn:P.nm.length=n
 hs:∀j,j < n→(∃e,S.at (nmF P j)=some e)∧Dep S 12 (nmF P j)
 w3:P.ws.length≤3
 h:H lh=some (.lst (bsV bs))
 h63:bs.length≤63
 ob:∀b∈bs,ObAt d H P b
theorem WdAt.same {K:Frag} {d:Ad} {H H':Hp} {t lh:Addr} {S:Ts} {P:PL} {bs:List Ob} {n:Nat} (h:WdAt K d H t lh S P bs n) (s:qaq H H'):WdAt K d H' t lh S P bs n:=⟨h.tr.same s,h.wf,h.pl,h.nn,h.hs,h.w3,s _ _ h.h,h.h63,fun b hb=>(h.ob b hb).same s⟩
theorem rm_in {P:PL} {js:List Nat} {ss:List Str} {val:Nat→Str→Int} {k:List Key} (h:k∈(qcb P js ss val).map (·.1)):∃j∈js,∃w∈ss,k=[Sum.inr (nmF P j),Sum.inr w]:=by
 obtain⟨x,hx,rfl⟩:=zJ.mp h
 obtain⟨j,hj,hx⟩:=List.mem_flatMap.mp hx
 obtain⟨w,hw,rfl⟩:=zJ.mp hx
 exact⟨j,hj,w,hw,rfl⟩
theorem rm_len (P:PL) (js:List Nat) (ss:List Str) (val:Nat→Str→Int):(qcb P js ss val).length=js.length*ss.length:=by
 induction js with
 |nil=>simp [qcb]
 |cons j r ih=>
  show (qch (nmF P j) ss (val j)++qcb P r ss val).length=_
  rw [zF,ih,zN,Nat.succ_mul]
  unfold qch
  rw [zB]
  omega
def sp_rooms_left (K:Frag) (d:Ad):Sp:=fun vs H Q _=>∃(t lh ll am:Addr) (S:Ts) (P:PL) (bs:List Ob) (n:Nat) (js:List Nat) (ka:List (Key × V)) (f:Str→Option Int) (ss:List Str),vs=[.ref t,.ref lh,.ref ll,.ref am]∧WdAt K d H t lh S P bs n∧
 H ll=some (.lst (js.map fun j=>V.str (nmF P j)))∧(∀j∈js,j < n)∧js.Nodup∧js.length≤12∧H am=some (.dK ka)∧AD ka f∧ss.Perm (qdg ka)∧PyProof.Rows.sortedS ss=true∧ss.length≤6∧
 ∀(rm:Addr) H',qaq H H'→H rm=none→H' rm=some (.dT (qcb P js ss (qbg S P bs f)))→Q (.ref rm) H'
include T in
theorem ok_rooms_left:FnOk P w K mg base CX0 19 d.f_rooms_left d.fd_rooms_left ["tree","holds","line","amounts"] (sp_rooms_left K d):=by
 refine T.F_rooms_left.ok sc_rooms_left (fun vs H Q E h=>?_) (fun cdv A outer s H vs Q E hr h=>?_)
 ·obtain⟨t,lh,ll,am,S,P,bs,n,js,ka,f,ss,rfl,_⟩:=h;rfl
 obtain⟨t,lh,ll,am,S,P,bs,n,js,ka,f,ss,rfl,hW,hl,jn,jd,j12,ha,hA,hp,hs,s6,q⟩:=h
 refine⟨_,(qa2 (qag (i:=4) sc_rooms_left.nd rfl (Or.inl rfl) pe_dnewT)
  (qa2 (qbf PassesOwn.never rfl (qb6 (pv 2)) (qav (i:=5) sc_rooms_left.nd rfl (Or.inl rfl)) (qa2 (qag (i:=6) sc_rooms_left.nd rfl (Or.inl rfl) (qap (W:=fun _ _ _ _=>False) (pv 0) T.CL_Tree T.ME_Tree_cap_of ((ok_Tree_cap_of T).mono (by decide)) hr T.b_Tree_cap_of .nil qda (qa0 (pv 5) qa1)))
  (qa2 (qag (i:=7) sc_rooms_left.nd rfl (Or.inl rfl) (qaa ((ok_used T).mono (by decide)) hr rfl T.m_used T.F_used.kp T.b_used .nil qaf (qa0 (pv 0) (qa0 (pv 1) (qa0 (pv 5) qa1)))))
  (qa4 (qbf PassesOwn.never rfl (qb6 (qad (qf6 rfl) rfl T.z_sorted PyProof.Rows.boot_sorted (qa0 (pv 3) qa1))) (qav (i:=8) sc_rooms_left.nd rfl (Or.inl rfl)) (qa4 (qdl (qc5 hr) (pv 4) (pe_tup (qa0 (pv 5) (qa0 (pv 8) qa1))) (qak qex (qak qex (qaa ((ok_amount_of T).mono (by decide)) hr rfl T.m_amount_of T.F_amount_of.kp T.b_amount_of .nil qaf (qa0 (pv 6) (qa0 (pv 8) qa1))) (qaa ((ok_amount_of T).mono (by decide)) hr rfl T.m_amount_of T.F_amount_of.kp T.b_amount_of .nil qaf (qa0 (pv 7) (qa0 (pv 8) qa1)))) (qbs (qc5 hr) (pv 3) (pv 8) (fun _ _=>rfl))) rfl)))))))
  (qa4 (qae (pv 4))))),?_⟩
 walk_at "d"
 refine qac (σ:=[some (.ref t),some (.ref lh),some (.ref ll),some (.ref am),none,none,none,none,none]) rfl ?_
 left
 refine r_dnewT fun rm hrm=>?_
 have s1:=qab hrm (.dT [])
 have e1:upd H rm (.dT []) rm=some (.dT (qcb P [] ss (qbg S P bs f))):=qa3
 have l1:=s1 _ _ hl
 generalize upd H rm (.dT [])=H1 at*
 have snd:ss.Nodup:=hp.nodup_iff.mpr hA.knd
 have sk:∀w∈ss,∃m,f w=some m:=fun w hw=>by
  have z:=(hA.kin w).mp (hp.mem_iff.mp hw)
  cases e:f w with
  |none=>exact absurd e z
  |some m=>exact⟨m,rfl⟩
 have kl:ka.length≤6:=by have:=hp.length_eq;have:=hA.klen;omega
 left
 refine qf2 (xs:=js.map fun j=>V.str (nmF P j)) (fun i σ H'=>∃w1 w2 w3 w4:Option V,σ=[some (.ref t),some (.ref lh),some (.ref ll),some (.ref am),some (.ref rm),w1,w2,w3,w4]∧qaq H H'∧H' rm=some (.dT (qcb P (js.take i) ss (qbg S P bs f))))
  ⟨_,_,_,_,rfl,s1,e1⟩ ?_ ?_ ?_
 ·rintro i σ H' _ ⟨w1,w2,w3,w4,rfl,sm,_⟩
  exact SqL.of (sm _ _ hl)
 ·rintro i v σ H' hv ⟨w1,w2,w3,w4,rfl,sm,er⟩
  rw [zC] at hv
  obtain⟨j,hj,rfl⟩:=Option.map_eq_some_iff.mp hv
  have hi:=(List.getElem?_eq_some_iff.mp hj).1
  have hjm:=zG hj
  have hjn:=jn j hjm
  have tk:js.take (i+1)=js.take i++ [j]:=by rw [zS,hj];rfl
  have hnt:j∉js.take i:=fun hm=>by
   obtain⟨b,hb,e⟩:=zM.mp hm
   rw [yB] at hb
   rw [List.getElem_take] at e
   obtain⟨g1,g2⟩:=List.getElem?_eq_some_iff.mp hj
   exact(zV.mp jd) b i (by omega) hi (by omega) (e.trans g2.symm)
  have hW1:=hW.same sm
  obtain⟨⟨e,ae⟩,dp⟩:=hW.hs j hjn
  have ct:=T.CL_Tree
  obtain⟨dx,ht⟩:=id hW1.tr.1
  left
  refine⟨t,S,.str (nmF P j),rfl,hW1.tr,.inl ⟨_,rfl⟩,fun e' he' p hp'=>?_,fun hn=>by rw [show who S (.str (nmF P j))=some e from ae] at hn;cases hn⟩
  have ee:e=e':=Option.some.inj (ae.symm.trans he')
  subst ee
  have hcA:AD e.x.kc e.x.fc:=(hW1.tr.2.2.2.2.2 e (qbr ae).1).2.2.2.2
  have efc:fcOf S (nmF P j)=e.x.fc:=by unfold fcOf;rw [ae]
  have s2:=sm.trans (qab hp' (.dK e.x.kc))
  have ec:upd H' p (.dK e.x.kc) p=some (.dK e.x.kc):=qa3
  have er2:=qa9 (o':=.dK e.x.kc) er hp'
  generalize upd H' p (.dK e.x.kc)=H2 at*
  have hW2:=hW.same s2
  clear hW1 ht hp'
  left
  refine⟨t,lh,S,P,bs,nmF P j,e,rfl,hW2.tr,hW.wf,ae,dp,hW2.h,hW.h63,hW.w3,hW2.ob,fun lu zs ku H3 s3 hlu hBen eu hAu=>?_⟩
  have euf:(bs.filter (inZ P zs)).map obPt=(bs.filter fun b=>decide (j∈qai (elN P.es) b.R.i)).map obPt:=by
   congr 1
   refine List.filter_congr fun b hb=>?_
   unfold inZ
   have:=hW.pl.benIff hjn hBen (k:=b.R.i) (by have:=(hW.ob b hb).il;rw [hW.nn] at this;exact this)
   exact decide_eq_decide.mpr this
  rw [euf] at hAu
  change AD ku (useF P bs j) at hAu
  have s23:=s2.trans s3
  have ec3:=s3 _ _ ec
  have er3:=s3 _ _ er2
  have ha3:=s23 _ _ ha
  clear hBen euf hW2 hlu s2 s3 ec er2 er
  left
  refine r_sortD (.inl ha3) hA.keys (by have:=hA.klen;omega) fun ls ss' hls hp2 hs2=>?_
  have ess:ss'=ss:=sort_eq (hp2.trans hp.symm) hs2 hs
  subst ess
  have s4:=s23.trans (qab hls (.lst (ss'.map V.str)))
  have el:upd H3 ls (.lst (ss'.map V.str)) ls=some (.lst (ss'.map V.str)):=qa3
  have ec4:=qa9 (o':=.lst (ss'.map V.str)) ec3 hls
  have er4:=qa9 (o':=.lst (ss'.map V.str)) er3 hls
  have eu4:=qa9 (o':=.lst (ss'.map V.str)) eu hls
  have nrl:rm≠ls:=qa5 er3 hls
  generalize upd H3 ls (.lst (ss'.map V.str))=H4 at*
  clear hp2 hs2 hls s23 ec3 er3 eu ha3
  left
  refine qf2 (xs:=ss'.map V.str) (fun c σ H5=>∃w4:Option V,σ=[some (.ref t),some (.ref lh),some (.ref ll),some (.ref am),some (.ref rm),some (.str (nmF P j)),some (.ref p),some (.ref lu),w4]∧SameBut rm H4 H5∧H5 rm=some (.dT (qcb P (js.take i) ss' (qbg S P bs f)++qch (nmF P j) (ss'.take c) (qbg S P bs f j))))
   ⟨_,rfl,fun b o _ e=>e,by rw [er4];unfold qch;simp⟩ ?_ ?_ ?_
  ·rintro c σ H5 _ ⟨w4,rfl,sb,_⟩
   exact SqL.of (sb _ _ nrl.symm el)
  ·rintro c v σ H5 hv5 ⟨w4,rfl,sb,er5⟩
   rw [zC] at hv5
   obtain⟨w,hw,rfl⟩:=Option.map_eq_some_iff.mp hv5
   have hc:=(List.getElem?_eq_some_iff.mp hw).1
   obtain⟨m,fm⟩:=sk w (zG hw)
   have hRp:Rd H5 p (.dK e.x.kc):=.inl (sb _ _ (fun z=>by subst z;rw [er4] at ec4;cases ec4) ec4)
   have hRu:Rd H5 lu (.dK ku):=.inl (sb _ _ (fun z=>by subst z;rw [er4] at eu4;cases eu4) eu4)
   have ha4:=s4 _ _ ha
   have hRa:Rd H5 am (.dK ka):=.inl (sb _ _ (fun z=>by subst z;rw [er4] at ha4;cases ha4) ha4)
   left
   rename_i p5 hp5
   have er6:=qa9 (o':=.tup [V.str (nmF P j),V.str w]) er5 hp5
   have tkw:ss'.take (c+1)=ss'.take c++ [w]:=by rw [zS,hw];rfl
   have wnt:w∉ss'.take c:=fun hm=>by
    obtain⟨b,hb,e'⟩:=zM.mp hm
    rw [yB] at hb
    rw [List.getElem_take] at e'
    obtain⟨g1,g2⟩:=List.getElem?_eq_some_iff.mp hw
    exact(zV.mp snd) b c (by omega) hc (by omega) (e'.trans g2.symm)
   have nin:([Sum.inr (nmF P j),Sum.inr w]:List Key)∉(qcb P (js.take i) ss' (qbg S P bs f)++qch (nmF P j) (ss'.take c) (qbg S P bs f j)).map (·.1):=fun hm=>by
    rw [zE] at hm
    rcases zU.mp hm with hm|hm
    ·obtain⟨j',hj',w',_,e'⟩:=rm_in hm
     have e1:nmF P j=nmF P j':=by
      have:=(List.cons.inj e').1
      exact Sum.inr.inj this
     have:=hW.pl.inj j j' hjn (jn j' (List.mem_of_mem_take hj')) e1
     subst this
     exact hnt hj'
    ·unfold qch at hm
     rw [yN] at hm
     obtain⟨w',hw',e'⟩:=zJ.mp hm
     have e2:w'=w:=Sum.inr.inj (List.cons.inj (List.cons.inj e').2).1
     exact wnt (e2 ▸ hw')
   have gf:gN f w=m:=by unfold gN;rw [fm];rfl
   have ev:gN e.x.fc w - gN (useF P bs j) w - m=qbg S P bs f j w:=by unfold qbg;rw [efc,gf]
   rw [ev]
   have sz:(qcb P (js.take i) ss' (qbg S P bs f)++qch (nmF P j) (ss'.take c) (qbg S P bs f j)).length < sizeLine:=by
    rw [zF,rm_len]
    unfold qch
    rw [zB,yB,yB]
    have:min i js.length*ss'.length≤12*6:=Nat.mul_le_mul (by omega) s6
    show _ < 16777216
    omega
   refine r_dpT (k:=[Sum.inr (nmF P j),Sum.inr w]) er6 qa3 sz ?_
   rw [qdw nin]
   left
   refine⟨_,rfl,fun b o hb e'=>?_,?_⟩
   ·rw [qa6 hb,qa6 (qa5 (sb b o hb e') hp5)]
    exact sb b o hb e'
   ·rw [qa3,tkw,List.append_assoc]
    unfold qch
    rw [zE]
    rfl
  ·rintro σ H5 ⟨w4,rfl,sb,er5⟩
   rw [zB,zZ] at er5
   refine⟨_,_,_,_,rfl,fun b o hb=>?_,?_⟩
   ·exact sb _ _ (fun z=>by subst z;rw [hrm] at hb;cases hb) (s4 _ _ hb)
   ·rw [er5,tk]
    unfold qcb
    rw [List.flatMap_append]
    simp
 ·rintro σ H' ⟨w1,w2,w3,w4,rfl,sm,er⟩
  rw [zB,zZ] at er
  left
  exact q rm H' sm hrm er
structure Pr where
 a:Addr
 n:Int
 x:Int
def prV (ps:List Pr):List V:=ps.map fun p=> .ref p.a
def PrAt (H:Hp) (p:Pr):Prop:=H p.a=some (.tup [.int p.n,.int p.x])
def prN (ps:List Pr):List (Int × Int):=ps.map fun p=>(p.n,p.x)
def takeN (v:Str) (bs:List Ob):List (Int × Int):=(bs.filter fun b=>decide (0 < gN b.R.f v)).map fun b=>(b.R.n,gN b.R.f v)
def sp_taking (K:Frag) (d:Ad):Sp:=fun vs H Q _=>∃(t lh:Addr) (S:Ts) (P:PL) (bs:List Ob) (z v:Str) (e:He),vs=[.ref t,.ref lh,.str z,.str v]∧qd2 d H t S∧WF S∧S.at z=some e∧Dep S 12 z∧H lh=some (.lst (bsV bs))∧bs.length≤63∧(∀b∈bs,ObAt d H P b)∧
 ∀(l:Addr) (zs:List Str) (ps:List Pr) (H':Hp),qaq H H'→H l=none→Ben S 12 z zs→H' l=some (.lst (prV ps))→(∀p∈ps,PrAt H' p∧H p.a=none)→prN ps=takeN v (bs.filter (inZ P zs))→ps.length≤63→Q (.ref l) H'
theorem gN_pos {f:Str→Option Int} {v:Str} (h:0 < gN f v):f v=some (gN f v):=by
 unfold gN at h ⊢
 cases e:f v with
 |none=>rw [e] at h;exact absurd h (by decide)
 |some n=>rfl
include T in
theorem ok_taking:FnOk P w K mg base CX0 18 d.f_taking d.fd_taking ["tree","holds","house","ware"] (sp_taking K d):=by
 refine T.F_taking.ok sc_taking (fun vs H Q E h=>?_) (fun cdv A outer s H vs Q E hr h=>?_)
 ·obtain⟨t,lh,S,P,bs,z,v,e,rfl,_⟩:=h;rfl
 obtain⟨t,lh,S,P,bs,z,v,e,rfl,hT,hW,ae,hD,hL,h63,hB,q⟩:=h
 refine⟨_,(qa2 (qe7 (j:=4) (caps:=[3]) (cn:=["ware"]) (qbc rfl rfl (by rfl) (by rfl) rfl ⟨rfl,trivial⟩ (by rfl) rfl ⟨⟨rfl,rfl,rfl,rfl,_,rfl⟩,trivial⟩ (by decide)) rfl sc_taking.nd rfl rfl (qb6 (qaa ((ok_holds_beneath T).mono (by decide)) hr rfl T.m_holds_beneath T.F_holds_beneath.kp T.b_holds_beneath .nil qaf (qa0 (pv 0) (qa0 (pv 1) (qa0 (pv 2) qa1))))) (fun _ _ _ _=>(qds (qan qfj (qaa ((ok_amount_of T).mono (by decide)) hr rfl T.m_amount_of T.F_amount_of.kp T.b_amount_of .nil qaf (qa0 (qao (pv 0) rfl) (qa0 (pv 1) qa1))) qa8 (qat _)))) (fun _ _ _ _=>(pv 0)))
  (qa4 (qae (qbt (caps:=[3]) (cn:=["ware"]) (qbc rfl rfl (by rfl) (by rfl) rfl ⟨rfl,trivial⟩ (by rfl) rfl ⟨⟨rfl,rfl,rfl,rfl,_,rfl⟩,trivial⟩ (by decide)) rfl (qb6 (pv 4)) (fun _ _ _ _=>qd3) (fun _ _ _ _=>(pe_tup (qa0 (qao (pv 0) rfl) (qa0 (qbs (qc5 hr) (qao (pv 0) rfl) (pv 1) (fun _ _=>rfl)) qa1)))))))),?_⟩
 walk_at "d"
 try dsimp only [cxC]
 refine qac (σ:=[some (.ref t),some (.ref lh),some (.str z),some (.str v),none]) rfl ?_
 left
 refine⟨t,lh,S,P,bs,z,e,rfl,hT,hW,ae,hD,hL,h63,hB,fun l1 zs H1 s1 hl1 hBen el1=>?_⟩
 have hB1:∀b∈bs.filter (inZ P zs),ObAt d H1 P b:=fun b hb=>(hB b (yE.mp hb).1).same s1
 have h63':(bs.filter (inZ P zs)).length≤63:=Nat.le_trans (zP ..) h63
 have q1:∀(l:Addr) (ps:List Pr) (H':Hp),qaq H H'→H l=none→H' l=some (.lst (prV ps))→(∀p∈ps,PrAt H' p∧H p.a=none)→prN ps=takeN v (bs.filter (inZ P zs))→ps.length≤63→Q (.ref l) H':=fun l ps H' a b c d e f=>q l zs ps H' a b hBen c d e f
 clear q
 generalize bs.filter (inZ P zs)=cs at*
 clear hT hD hL hB
 left
 intro C s0 H0 fp acc hacc
 refine c_by cs.length (fun i H'=>H'=upd H1 acc (.lst (bsV ((cs.take i).filter fun b=>decide (0 < gN b.R.f v))))) rfl ?_ ?_ ?_ ?_
 ·rintro i H' hi rfl
  exact⟨_,.ref cs[i].o,SqL.of (qa9 el1 hacc),by unfold bsV;rw [zC,zA hi];rfl⟩
 ·rintro H' rfl
  exact⟨_,SqL.of (qa9 el1 hacc),by unfold bsV;rw [zB];exact Nat.le_refl _⟩
 ·rintro i H' u H'' hi rfl ⟨rfl,hy⟩
  have hv:=hy _ (SqL.of (qa9 el1 hacc))
  unfold bsV at hv
  rw [zC,zA hi] at hv
  cases hv
  have hb:=hB1 _ (zL hi)
  have tk:cs.take (i+1)=cs.take i++ [cs[i]]:=by rw [zS,zA hi];rfl
  generalize hbi:cs[i]=b at*
  obtain⟨dx,hbo⟩:=hb.obj
  have hbo':=qa9 (o':=.lst (bsV ((cs.take i).filter fun b=>decide (0 < gN b.R.f v)))) hbo hacc
  have hbm:Rd (upd H1 acc (.lst (bsV ((cs.take i).filter fun b=>decide (0 < gN b.R.f v))))) b.m (.dK b.R.k):=.inl (qa9 hb.amt hacc)
  have hAb:=hb.ad
  obtain⟨cl,n1,n2,n3,n4,n5⟩:=clsOk T b.R.s
  have zl:(bsV ((cs.take i).filter fun b=>decide (0 < gN b.R.f v))).length < sizeLine:=by
   unfold bsV
   rw [zB]
   have h1:=zP (fun b:Ob=>decide (0 < gN b.R.f v)) (cs.take i)
   rw [yB] at h1
   show _ < 16777216
   omega
  left
  refine i_2 (fun c=>?_) (fun c=>?_)
  ·left
   rw [qb5,tk,zW,zY,if_pos (decide_eq_true c)]
   congr 2
   unfold bsV
   rw [zE];rfl
  ·left
   rw [tk,zW,zY,if_neg (by rw [decide_eq_false c];decide),yL,yD]
 rintro H' rfl
 rw [zZ]
 have s2:=qab hacc (.lst (bsV (cs.filter fun b=>decide (0 < gN b.R.f v))))
 have e2:upd H1 acc (.lst (bsV (cs.filter fun b=>decide (0 < gN b.R.f v)))) acc=some (.lst (bsV (cs.filter fun b=>decide (0 < gN b.R.f v)))):=qa3
 generalize upd H1 acc (.lst (bsV (cs.filter fun b=>decide (0 < gN b.R.f v))))=H2 at*
 have hB2:∀b∈cs.filter (fun b=>decide (0 < gN b.R.f v)),ObAt d H2 P b∧0 < gN b.R.f v:=fun b hb=>⟨(hB1 b (yE.mp hb).1).same s2,of_decide_eq_true (yE.mp hb).2⟩
 have h63'':(cs.filter fun b=>decide (0 < gN b.R.f v)).length≤63:=Nat.le_trans (zP ..) h63'
 have q':∀(l:Addr) (ps:List Pr) (H':Hp),qaq H2 H'→H2 l=none→H' l=some (.lst (prV ps))→(∀p∈ps,PrAt H' p∧H2 p.a=none)→prN ps=(cs.filter fun b=>decide (0 < gN b.R.f v)).map (fun b=>(b.R.n,gN b.R.f v))→ps.length≤63→Q (.ref l) H':=fun l ps H' sm hl el hp hn h6=>
  q1 l ps H' ((s1.trans s2).trans sm) ((s1.trans s2).free hl) el (fun p h=>⟨(hp p h).1,(s1.trans s2).free (hp p h).2⟩) hn h6
 generalize cs.filter (fun b=>decide (0 < gN b.R.f v))=ds at*
 clear q1 hB1 el1 hacc hBen s1 s2
 left
 intro C s0 H0 fp acc2 hacc2
 refine c_by ds.length (fun i H'=>∃ps:List Pr,qaq H2 H'∧H' acc2=some (.lst (prV ps))∧prN ps=(ds.take i).map (fun b=>(b.R.n,gN b.R.f v))∧∀p∈ps,PrAt H' p∧H2 p.a=none) ⟨[],qab hacc2 _,qa3,rfl,fun p h=>by simp at h⟩ ?_ ?_ ?_ ?_
 ·rintro i H' hi ⟨ps,sm,_⟩
  exact⟨_,.ref ds[i].o,SqL.of (sm _ _ e2),by unfold bsV;rw [zC,zA hi];rfl⟩
 ·rintro H' ⟨ps,sm,_⟩
  exact⟨_,SqL.of (sm _ _ e2),by unfold bsV;rw [zB];exact Nat.le_refl _⟩
 ·rintro i H' u H'' hi ⟨ps,sm,ea,hn,hp⟩ ⟨rfl,hy⟩
  have hv:=hy _ (SqL.of (sm _ _ e2))
  unfold bsV at hv
  rw [zC,zA hi] at hv
  cases hv
  obtain⟨hb0,hpos⟩:=hB2 _ (zL hi)
  have hb:=hb0.same sm
  have tk:ds.take (i+1)=ds.take i++ [ds[i]]:=by rw [zS,zA hi];rfl
  have hpl:ps.length=i:=by
   have:=congrArg List.length hn
   unfold prN at this
   rw [zB,zB,yB] at this
   omega
  generalize hbi:ds[i]=b at*
  obtain⟨dx,hbo⟩:=hb.obj
  have hbm:Rd H'' b.m (.dK b.R.k):=.inl hb.amt
  have hAb:=hb.ad
  have hfv:=gN_pos hpos
  generalize hgx:gN b.R.f v=gx at*
  obtain⟨cl,n1,n2,n3,n4,n5⟩:=clsOk T b.R.s
  have zl:(prV ps).length < sizeLine:=by unfold prV;rw [zB];show _ < 16777216;omega
  left
  rename_i p hp0
  have s3:=qab hp0 (.tup [.int b.R.n,.int gx])
  have ea3:=s3 _ _ ea
  refine⟨ps++ [⟨p,b.R.n,gx⟩],qbe (sm.trans s3) hacc2,by rw [qa3];unfold prV;rw [zE];rfl,?_,fun x hx=>?_⟩
  ·unfold prN at hn ⊢
   rw [zE,hn,tk,zE,List.map_singleton,List.map_singleton,hgx]
  ·rcases zU.mp hx with h|h
   ·have h1:=s3 _ _ (hp x h).1
    exact⟨by show upd _ acc2 _ x.a=_;rw [qa6 (ne_of h1 ea3 (by simp))];exact h1,(hp x h).2⟩
   ·rw [zI.mp h]
    exact⟨by show upd _ acc2 _ p=_;rw [qa6 (qa5 ea hp0).symm];exact qa3,sm.free hp0⟩
 rintro H' ⟨ps,sm,ea,hn,hp⟩
 rw [zZ] at hn
 left
 exact q' acc2 ps H' sm hacc2 ea hp hn (by
  have:=congrArg List.length hn
  unfold prN at this
  rw [zB,zB] at this
  omega)
def sp_first_lack (K:Frag) (d:Ad):Sp:=fun vs H Q _=>∃(t lh ll am:Addr) (S:Ts) (P:PL) (bs:List Ob) (n:Nat) (js:List Nat) (ka:List (Key × V)) (f:Str→Option Int) (ss:List Str),vs=[.ref t,.ref lh,.ref ll,.ref am]∧WdAt K d H t lh S P bs n∧
 H ll=some (.lst (js.map fun j=>V.str (nmF P j)))∧(∀j∈js,j < n)∧js.Nodup∧js.length≤12∧H am=some (.dK ka)∧AD ka f∧ss.Perm (qdg ka)∧PyProof.Rows.sortedS ss=true∧ss.length≤6∧
 ((∀j∈js,∀w∈ss,0≤qbg S P bs f j w)→∀H',qaq H H'→Q .non H')∧
 ∀(a b j:Nat) (w:Str),js[a]?=some j→ss[b]?=some w→(∀(a' j':Nat) (w':Str),a' < a→js[a']?=some j'→w'∈ss→0≤qbg S P bs f j' w')→(∀(b':Nat) (w':Str),b' < b→ss[b']?=some w'→0≤qbg S P bs f j w')→qbg S P bs f j w < 0→∀(p l:Addr) (ps:List Pr) H',qaq H H'→H p=none→H' p=some (.tup [.str (nmF P j),.str w,.ref l])→H l=none→H' l=some (.lst (prV ps))→(∀p∈ps,PrAt H' p∧H p.a=none)→prN ps=takeN w (bs.filter fun b=>decide (j∈qai (elN P.es) b.R.i))→Q (.ref p) H'
theorem qcg (z:Str) (ss:List Str) (val:Str→Int):(qch z ss val).length=ss.length:=by unfold qch;rw [zB]
theorem rmRow_at {z:Str} {ss:List Str} {val:Str→Int} {b:Nat} {w:Str} (h:ss[b]?=some w):(qch z ss val)[b]?=some (([Sum.inr z,Sum.inr w]:List Key),V.int (val w)):=by
 unfold qch
 rw [zC,h];rfl
theorem rm_pos {P:PL} {ss:List Str} {val:Nat→Str→Int} {w:Str} {b:Nat} (hb:ss[b]?=some w):∀{js:List Nat} {a j:Nat},js[a]?=some j→(qcb P js ss val)[a*ss.length+b]?=some (([Sum.inr (nmF P j),Sum.inr w]:List Key),V.int (val j w))
 | [],a,j,h=>by simp at h
 |x :: js,0,j,h=>by
  have e:x=j:=by simpa using h
  subst e
  have hl:=(List.getElem?_eq_some_iff.mp hb).1
  show (qch (nmF P x) ss (val x)++qcb P js ss val)[0*ss.length+b]?=_
  rw [Nat.zero_mul,Nat.zero_add,zT (by rw [qcg];exact hl)]
  exact rmRow_at hb
 |x :: js,a+1,j,h=>by
  have h':js[a]?=some j:=by simpa using h
  show (qch (nmF P x) ss (val x)++qcb P js ss val)[(a+1)*ss.length+b]?=_
  rw [Nat.succ_mul,zO (by rw [qcg];omega),qcg,show a*ss.length+ss.length+b - ss.length=a*ss.length+b by omega]
  exact rm_pos hb h'
theorem rm_place {P:PL} {ss:List Str} {val:Nat→Str→Int} {k:List Key} {v:V}:∀{js:List Nat} {i:Nat},(qcb P js ss val)[i]?=some (k,v)→∃(a b j:Nat) (w:Str),i=a*ss.length+b∧js[a]?=some j∧ss[b]?=some w∧k=[Sum.inr (nmF P j),Sum.inr w]∧v=.int (val j w)
 | [],i,h=>by
  have h:([]:List (List Key × V))[i]?=some (k,v):=h
  simp at h
 |x :: js,i,h=>by
  have h:(qch (nmF P x) ss (val x)++qcb P js ss val)[i]?=some (k,v):=h
  by_cases c:i < ss.length
  ·rw [zT (by rw [qcg];exact c)] at h
   have e:=zA c
   rw [rmRow_at e] at h
   cases h
   exact⟨0,i,x,ss[i],by omega,rfl,e,rfl,rfl⟩
  ·rw [zO (by rw [qcg];omega),qcg] at h
   obtain⟨a,b,j,w,e,ha,hb,hk,hv⟩:=rm_place h
   exact⟨a+1,b,j,w,by rw [Nat.succ_mul];omega,by simpa using ha,hb,hk,hv⟩
theorem rm_nd {P:PL} {js:List Nat} {ss:List Str} {val:Nat→Str→Int} (inj:∀i∈js,∀j∈js,nmF P i=nmF P j→i=j) (jd:js.Nodup) (sd:ss.Nodup):((qcb P js ss val).map (·.1)).Nodup:=by
 induction js with
 |nil=>exact yM
 |cons j r ih=>
  show ((qch (nmF P j) ss (val j)++qcb P r ss val).map (·.1)).Nodup
  rw [zX] at jd
  rw [zE]
  refine List.nodup_append.mpr ⟨?_,ih (fun a ha b hb=>inj a (zD _ ha) b (zD _ hb)) jd.2,fun a ha b hb e=>?_⟩
  ·unfold qch
   rw [yN]
   show List.Pairwise _ _
   rw [List.pairwise_map]
   exact List.Pairwise.imp (fun {x y} h e=>h (Sum.inr.inj (List.cons.inj (List.cons.inj e).2).1)) sd
  ·unfold qch at ha
   rw [yN] at ha
   obtain⟨w,_,rfl⟩:=zJ.mp ha
   obtain⟨j',hj',w',_,e'⟩:=rm_in hb
   have e1:nmF P j=nmF P j':=Sum.inr.inj (List.cons.inj (e.trans e')).1
   have:=inj j (zH ..) j' (zD _ hj') e1
   subst this
   exact jd.1 hj'
theorem valV_at {κ:Type} [DecidableEq κ] {kvs:List (κ × V)} (nd:(kvs.map (·.1)).Nodup) {i:Nat} {k:κ} {v:V} (h:kvs[i]?=some (k,v)):qc7 kvs k=some v:=by
 induction kvs generalizing i with
 |nil=>simp at h
 |cons x r ih=>
  rw [zQ,zX] at nd
  cases i with
  |zero=>
   simp only [List.getElem?_cons_zero,Option.some.injEq] at h
   subst h
   unfold qc7
   simp
  |succ i=>
   simp only [List.getElem?_cons_succ] at h
   have hne:¬x.1=k:=fun e=>nd.1 (e ▸ zJ.mpr ⟨(k,v),zG h,rfl⟩)
   have z:=ih nd.2 h
   unfold qc7 at z ⊢
   simpa [yJ,hne] using z
theorem r_itDT {a:Addr} {H:Hp} {kvs:List (List Key × V)} {R:It→Hp→Prop} (e:H a=some (.dT kvs)) (h:∀o,R (ItDT a o kvs) (upd H a (.frz o (.dT kvs)))):rItDT (.ref a) H R:=⟨a,kvs,rfl,e,h⟩
theorem r_iDT {tl:TE} {σ:L2.St} {H:Hp} {R:It→Hp→Prop} (h:tl σ H fun x H1=>rItDT x H1 R):iDictT tl σ H R:=h
theorem f_dictT {D:Ends} {σ:L2.St} {H:Hp} {g:TG} {tb:TS} {a:Addr} {o:Obj} {kvs:List (List Key × V)} (Pv:Nat→L2.St→Hp→Prop) (h0:Pv 0 σ H) (hl:∀i σ H,i≤kvs.length→Pv i σ H→H a=some (.frz o (.dT kvs)))
  (hs:∀i k v b σ H,kvs[i]?=some (k,v)→H b=some (.tup (k.map kV))→Pv i σ H→g (.ref b) σ H fun σ2 H2=>tb {nx:=Pv (i+1),rt:=D.rt,bk:=D.nx,ct:=Pv (i+1)} σ2 H2) (hd:∀σ H,Pv kvs.length σ H→D.nx σ H):FOR (ItDT a o kvs) g tb D σ H:=by
 refine⟨fun i m σ H=>m=kvs.length - i∧i≤kvs.length∧Pv i σ H,⟨kvs.length,rfl,Nat.zero_le _,h0⟩,?_⟩
 rintro i m σ H ⟨rfl,hi,p⟩
 have q:=hl i σ H hi p
 by_cases hlt:i < kvs.length
 ·refine .inr ⟨⟨q,hlt⟩,Pv (i+1),fun σ' H' p'=>⟨kvs.length - (i+1),by omega,rfl,hlt,p'⟩,fun x H' y=>?_⟩
  obtain⟨e,k,v,b,hk,rfl,hb⟩:=y
  subst e
  exact hs i k v b σ _ hk hb p
 ·have e:i=kvs.length:=Nat.le_antisymm hi (Nat.le_of_not_lt hlt)
  subst e
  exact .inl ⟨⟨q,Nat.le_refl _⟩,hd σ H p⟩
include T in
theorem ok_first_lack:FnOk P w K mg base CX0 20 d.f_first_lack d.fd_first_lack ["tree","holds","line","amounts"] (sp_first_lack K d):=by
 refine T.F_first_lack.ok sc_first_lack (fun vs H Q E h=>?_) (fun cdv A outer s H vs Q E hr h=>?_)
 ·obtain⟨t,lh,ll,am,S,P,bs,n,js,ka,f,ss,rfl,_⟩:=h;rfl
 obtain⟨t,lh,ll,am,S,P,bs,n,js,ka,f,ss,rfl,hW,hl,jn,jd,j12,ha,hA,hp,hs,s6,qn,q⟩:=h
 refine⟨_,(qa2 (qag (i:=4) sc_first_lack.nd rfl (Or.inl rfl) (qaa ((ok_rooms_left T).mono (by decide)) hr rfl T.m_rooms_left T.F_rooms_left.kp T.b_rooms_left .nil qaf (qa0 (pv 0) (qa0 (pv 1) (qa0 (pv 2) (qa0 (pv 3) qa1))))))
  (qa2 (qbf PassesOwn.never rfl (pi_dictT (pv 4)) (qav (i:=5) sc_first_lack.nd rfl (Or.inl rfl)) (qa4 (qbb (qan op_lt (qbs (qc5 hr) (pv 4) (pv 5) (fun _ _=>rfl)) qa8 (qat _)) (qa4 (qae (pe_tup (qa0 (qb4 ix_tup (pv 5) qa8 (fun _ _=>rfl)) (qa0 (qb4 ix_tup (pv 5) qa8 (fun _ _=>rfl)) (qa0 (qaa ((ok_taking T).mono (by decide)) hr rfl T.m_taking T.F_taking.kp T.b_taking .nil qaf (qa0 (pv 0) (qa0 (pv 1) (qa0 (qb4 ix_tup (pv 5) qa8 (fun _ _=>rfl)) (qa0 (qb4 ix_tup (pv 5) qa8 (fun _ _=>rfl)) qa1))))) qa1)))))) qal)))
  (qa4 (qae qcv)))),?_⟩
 walk_at "d"
 refine qac (σ:=[some (.ref t),some (.ref lh),some (.ref ll),some (.ref am),none,none]) rfl ?_
 left
 refine⟨t,lh,ll,am,S,P,bs,n,js,ka,f,ss,rfl,hW,hl,jn,jd,j12,ha,hA,hp,hs,s6,fun rm H1 s1 hrm er=>?_⟩
 have snd:ss.Nodup:=hp.nodup_iff.mpr hA.knd
 have knd:=rm_nd (val:=qbg S P bs f) (fun a ha b hb e=>hW.pl.inj a b (jn a ha) (jn b hb) e) jd snd
 have hput:∀{a b j:Nat} {w:Str},js[a]?=some j→ss[b]?=some w→(qcb P js ss (qbg S P bs f))[a*ss.length+b]?=some (([Sum.inr (nmF P j),Sum.inr w]:List Key),V.int (qbg S P bs f j w)):=fun ha hb=>rm_pos hb ha
 have hget:∀{i:Nat} {k:List Key} {v:V},(qcb P js ss (qbg S P bs f))[i]?=some (k,v)→∃(a b j:Nat) (w:Str),i=a*ss.length+b∧js[a]?=some j∧ss[b]?=some w∧k=[Sum.inr (nmF P j),Sum.inr w]∧v=.int (qbg S P bs f j w):=fun h=>rm_place h
 generalize qcb P js ss (qbg S P bs f)=kvs at*
 left
 refine r_iDT ?_
 left
 refine r_itDT er fun o=>?_
 have sF:∀{H':Hp},qaq (upd H1 rm (.frz o (.dT kvs))) H'→qaq H H':=fun s b u hb=>s b u (by rw [qa6 (fun z=>by subst z;rw [hrm] at hb;cases hb)];exact s1 b u hb)
 refine f_dictT (fun i σ H'=>H'=upd H1 rm (.frz o (.dT kvs))∧(∃w:Option V,σ=[some (.ref t),some (.ref lh),some (.ref ll),some (.ref am),some (.ref rm),w])∧∀(i' j:Nat) (w:Str),i' < i→kvs[i']?=some (([Sum.inr (nmF P j),Sum.inr w]:List Key),V.int (qbg S P bs f j w))→0≤qbg S P bs f j w)
  ⟨rfl,⟨_,rfl⟩,fun i' j w h=>absurd h (by omega)⟩ ?_ ?_ ?_
 ·rintro i σ H' _ ⟨rfl,_⟩
  exact qa3
 ·rintro i k v b σ H' hk hb ⟨rfl,⟨w0,rfl⟩,hall⟩
  obtain⟨a0,b0,j,w,rfl,ha0,hb0,rfl,rfl⟩:=hget hk
  have hj:=zG ha0
  have hb0l:=(List.getElem?_eq_some_iff.mp hb0).1
  have hv:=valV_at knd hk
  have hb:upd H1 rm (.frz o (.dT kvs)) b=some (.tup [.str (nmF P j),.str w]):=hb
  have hR:Rd (upd H1 rm (.frz o (.dT kvs))) rm (.dT kvs):=.inr ⟨o,qa3⟩
  left
  refine r_dgT (k:=[Sum.inr (nmF P j),Sum.inr w]) hR hb hv ?_
  left
  refine i_2 (fun c=>?_) (fun c=>?_)
  ·have hW1:=hW.same (sF (qaq.refl _))
   obtain⟨⟨e,ae⟩,dp⟩:=hW.hs j (jn j hj)
   left
   refine⟨t,lh,S,P,bs,nmF P j,w,e,rfl,hW1.tr,hW.wf,ae,dp,hW1.h,hW.h63,hW1.ob,fun l zs ps H2 s2 hl2 hBen el hp2 hn2 _=>?_⟩
   have euf:bs.filter (inZ P zs)=bs.filter fun b=>decide (j∈qai (elN P.es) b.R.i):=by
    refine List.filter_congr fun b hb=>?_
    unfold inZ
    have:=hW.pl.benIff (jn j hj) hBen (k:=b.R.i) (by have:=(hW.ob b hb).il;rw [hW.nn] at this;exact this)
    exact decide_eq_decide.mpr this
   rw [euf] at hn2
   left
   rename_i p3 hp3
   have free:∀{a:Addr},upd H1 rm (.frz o (.dT kvs)) a=none→H a=none:=fun {a} h=>(sF (qaq.refl _)).free h
   have f1:∀(a' j':Nat) (w':Str),a' < a0→js[a']?=some j'→w'∈ss→0≤qbg S P bs f j' w':=fun a' j' w' h1 h2 h3=>by
    obtain⟨b',hb',e'⟩:=zM.mp h3
    have h4:ss[b']?=some w':=by rw [zA hb',e']
    refine hall (a'*ss.length+b') j' w' ?_ (hput h2 h4)
    have:=Nat.mul_le_mul_right ss.length (show a'+1≤a0 by omega)
    rw [Nat.succ_mul] at this
    omega
   have f2:∀(b':Nat) (w':Str),b' < b0→ss[b']?=some w'→0≤qbg S P bs f j w':=fun b' w' h1 h2=>hall (a0*ss.length+b') j w' (by omega) (hput ha0 h2)
   exact q a0 b0 j w ha0 hb0 f1 f2 c p3 l ps _ (qdb (sF s2) hp3) (free (s2.free hp3)) qa3 (free hl2) (qa9 el hp3) (fun x hx=>⟨qa9 (hp2 x hx).1 hp3,free (hp2 x hx).2⟩) hn2
  ·left
   refine⟨rfl,⟨_,rfl⟩,fun i' j' w' hi' hk'=>?_⟩
   by_cases e:i'=a0*ss.length+b0
   ·subst e
    rw [hk] at hk'
    obtain⟨e1,e2⟩:=Prod.mk.inj (Option.some.inj hk')
    have e3:qbg S P bs f j w=qbg S P bs f j' w':=V.int.inj e2
    omega
   ·exact hall i' j' w' (by omega) hk'
 ·rintro σ H' ⟨rfl,⟨w0,rfl⟩,hall⟩
  left
  refine qn (fun j hj w hw=>?_) _ (sF (qaq.refl _))
  obtain⟨a0,ha0,e0⟩:=zM.mp hj
  obtain⟨b0,hb0,e1⟩:=zM.mp hw
  have hi:=hput (a:=a0) (b:=b0) (j:=j) (w:=w) (by rw [zA ha0,e0]) (by rw [zA hb0,e1])
  exact hall _ j w (List.getElem?_eq_some_iff.mp hi).1 hi
theorem WdAt.fix {K:Frag} {d:Ad} {H:Hp} {t lh l:Addr} {S:Ts} {P:PL} {bs:List Ob} {n:Nat} (h:WdAt K d H t lh S P bs n) (hl:H l=none) (r:Int) (s:Bool):WdAt K d (upd H l (.lst (bsV (bs.filter (qba r s))))) t l S P (bs.filter (qba r s)) n:=by
 have s1:=qab hl (.lst (bsV (bs.filter (qba r s))))
 have z:=h.same s1
 exact⟨z.tr,z.wf,z.pl,z.nn,z.hs,z.w3,qa3,Nat.le_trans (zP ..) z.h63,fun b hb=>z.ob b (yE.mp hb).1⟩
def sp_reason (K:Frag) (d:Ad):Sp:=fun vs H Q _=>∃(t lh am:Addr) (S:Ts) (P:PL) (bs:List Ob) (n j:Nat) (ka:List (Key × V)) (f:Str→Option Int) (ss:List Str) (r:Int) (s:Bool),vs=[.ref t,.ref lh,.str (nmF P j),.ref am,.int r,.bl s]∧WdAt K d H t lh S P bs n∧n≤12∧j < n∧
 H am=some (.dK ka)∧AD ka f∧ss.Perm (qdg ka)∧PyProof.Rows.sortedS ss=true∧ss.length≤6∧
 ((∀i∈qai (elN P.es) j,∀w∈ss,0≤qbg S P (bs.filter (qba r s)) f i w)→∀H',qaq H H'→Q .non H')∧
 ∀(a b i:Nat) (w:Str),(qai (elN P.es) j)[a]?=some i→ss[b]?=some w→(∀(a' j':Nat) (w':Str),a' < a→(qai (elN P.es) j)[a']?=some j'→w'∈ss→0≤qbg S P (bs.filter (qba r s)) f j' w')→(∀(b':Nat) (w':Str),b' < b→ss[b']?=some w'→0≤qbg S P (bs.filter (qba r s)) f i w')→qbg S P (bs.filter (qba r s)) f i w < 0→∀(p l:Addr) (ps:List Pr) H',qaq H H'→H p=none→H' p=some (.tup [.str (nmF P i),.str w,.ref l])→H l=none→H' l=some (.lst (prV ps))→(∀p∈ps,PrAt H' p∧H p.a=none)→prN ps=takeN w ((bs.filter (qba r s)).filter fun b=>decide (i∈qai (elN P.es) b.R.i))→Q (.ref p) H'
include T in
theorem ok_reason:FnOk P w K mg base CX0 21 d.f_reason d.fd_reason ["tree","holds","house","amounts","rank","sure"] (sp_reason K d):=by
 refine T.F_reason.ok sc_reason (fun vs H Q E h=>?_) (fun cdv A outer s H vs Q E hr h=>?_)
 ·obtain⟨t,lh,am,S,P,bs,n,j,ka,f,ss,r,s,rfl,_⟩:=h;rfl
 obtain⟨t,lh,am,S,P,bs,n,j,ka,f,ss,r,s',rfl,hW,n12,jn,ha,hA,hp,hs,s6,qn,q⟩:=h
 refine⟨_,(qa4 (qae (qaa ((ok_first_lack T).mono (by decide)) hr rfl T.m_first_lack T.F_first_lack.kp T.b_first_lack .nil qaf (qa0 (pv 0) (qa0 (qaa ((ok_fixed T).mono (by decide)) hr rfl T.m_fixed T.F_fixed.kp T.b_fixed .nil qaf (qa0 (pv 1) (qa0 (pv 4) (qa0 (pv 5) qa1)))) (qa0 (qap (W:=fun _ _ _ _=>False) (pv 0) T.CL_Tree T.ME_Tree_line ((ok_Tree_line T).mono (by decide)) hr T.b_Tree_line .nil qda (qa0 (pv 2) qa1)) (qa0 (pv 3) qa1))))))),?_⟩
 walk_at "d"
 refine qac (σ:=[some (.ref t),some (.ref lh),some (.str (nmF P j)),some (.ref am),some (.int r),some (.bl s')]) rfl ?_
 left
 refine⟨lh,P,bs,r,s',rfl,hW.h,hW.h63,hW.ob,fun lf hlf=>?_⟩
 have hW1:=hW.fix hlf r s'
 have s1:=qab hlf (.lst (bsV (bs.filter (qba r s'))))
 generalize upd H lf (.lst (bsV (bs.filter (qba r s'))))=H1 at*
 have ct:=T.CL_Tree
 obtain⟨dx,ht⟩:=id hW1.tr.1
 left
 refine⟨t,S,.str (nmF P j),rfl,hW1.tr,.inl ⟨nmF P j,(qai (elN P.es) j).map (nmF P),rfl,hW.pl.line j jn,by rw [zB];have:=qef hW.pl.low j jn;omega,fun ll hll=>?_⟩⟩
 have lle:=qdy hW.pl.low j jn
 have lnd:(qai (elN P.es) j).Nodup:=List.Pairwise.imp (fun h z=>by omega) (lineN_pw hW.pl.low j jn)
 have l12:(qai (elN P.es) j).length≤12:=by have:=qef hW.pl.low j jn;omega
 have lself:=qcl hW.pl.low jn
 have s2:=s1.trans (qab hll (.lst (((qai (elN P.es) j).map (nmF P)).map V.str)))
 have hW2:=hW1.same (qab hll (.lst (((qai (elN P.es) j).map (nmF P)).map V.str)))
 have el:upd H1 ll (.lst (((qai (elN P.es) j).map (nmF P)).map V.str)) ll=some (.lst ((qai (elN P.es) j).map fun i=>V.str (nmF P i))):=by rw [qa3,yN];rfl
 generalize upd H1 ll (.lst (((qai (elN P.es) j).map (nmF P)).map V.str))=H2 at*
 clear hW1 s1 hll ht
 generalize qai (elN P.es) j=L at*
 left
 exact⟨t,lf,ll,am,S,P,bs.filter (qba r s'),n,L,ka,f,ss,rfl,hW2,el,fun i hi=>by have:=lle i hi;omega,lnd,l12,s2 _ _ ha,hA,hp,hs,s6,fun h H' s=>qn h H' (s2.trans s),fun a b i w hi hw f1 f2 c p l ps H' s3 hp' e1 hl e2 hps hn=>q a b i w hi hw f1 f2 c p l ps H' (s2.trans s3) (s2.free hp') e1 (s2.free hl) e2 (fun x hx=>⟨(hps x hx).1,s2.free (hps x hx).2⟩) hn⟩
def SB (ls:List Addr) (H H':Hp):Prop:=∀b o,H b=some o→b∉ls→H' b=some o
abbrev Pq:=Addr × List Int
def qsV (qs:List Pq):List V:=qs.map fun q=> .ref q.1
def atQ (qs:List Pq) (k j:Nat):Int:=match qs[k]? with
 |some q=>(q.2[j]?).getD 0
 |none=>0
structure QsAt (H1 H:Hp) (lp:Addr) (kd:Nat) (qs:List Pq):Prop where
 top:H lp=some (.lst (qsV qs))
 row:∀q∈qs,H q.1=some (.lst (q.2.map V.int))∧H1 q.1=none∧q.1≠lp
 nd:(qs.map (·.1)).Nodup
 val:∀q∈qs,q.2.length=kd∧∀x∈q.2,0≤x∧x≤10^30
def qfd (el:Nat→Nat) (qs:List Pq) (n h j:Nat):Int:=qcd n fun k=>if h∈qai el k then atQ qs k j else 0
theorem qdk {f g:Nat→Int}:∀{n:Nat},(∀k,k < n→f k=g k)→qcd n f=qcd n g
 |0,_=>rfl
 |n+1,h=>by
  show qcd n f+f n=qcd n g+g n
  rw [qdk fun k hk=>h k (by omega),h n (by omega)]
theorem atQ_old {qs:List Pq} {q:Pq} {k j:Nat} (h:k < qs.length):atQ (qs++ [q]) k j=atQ qs k j:=by
 unfold atQ
 rw [zT h]
theorem atQ_new {qs:List Pq} {q:Pq} {j:Nat}:atQ (qs++ [q]) qs.length j=(q.2[j]?).getD 0:=by
 unfold atQ
 rw [zO (Nat.le_refl _),Nat.sub_self]
 rfl
def CsAt (H:Hp) (kd:Nat) (cs:List Pq):Prop:=∀c∈cs,H c.1=some (.lst (c.2.map V.int))∧c.2.length=kd∧∀x∈c.2,0≤x∧x≤10^30
theorem CsAt.same {H H':Hp} {kd:Nat} {cs:List Pq} (h:CsAt H kd cs) (s:qaq H H'):CsAt H' kd cs:=fun c hc=>⟨s _ _ (h c hc).1,(h c hc).2⟩
def csD (cs:List Pq) (k:Nat):List Int:=match cs[k]? with
 |some c=>c.2
 |none=> []
def csA (cs:List Pq) (k:Nat):Addr:=match cs[k]? with
 |some c=>c.1
 |none=>0
def csT (ws:List Str) (cs:List Pq):List Pt:=cs.map fun c=>⟨0,tdK (ws.zip c.2),tdF (ws.zip c.2)⟩
theorem CsAt.at {H:Hp} {kd:Nat} {cs:List Pq} (h:CsAt H kd cs) {k:Nat} (hk:k < cs.length):H (csA cs k)=some (.lst ((csD cs k).map V.int))∧(csD cs k).length=kd∧(∀x∈csD cs k,0≤x∧x≤10^30)∧atI (qsV cs) ((k:Nat):Int)=some (.ref (csA cs k)):=by
 have e:=zA hk
 have z:=h _ (zL hk)
 unfold csA csD
 rw [e]
 exact⟨z.1,z.2.1,z.2.2,qb3 (by unfold qsV;rw [zC,e];rfl)⟩
theorem csT_at {ws:List Str} {cs:List Pq} {k:Nat} (hk:k < cs.length):(csT ws cs)[k]?=some ⟨0,tdK (ws.zip (csD cs k)),tdF (ws.zip (csD cs k))⟩:=by
 have e:=zA hk
 unfold csT csD
 rw [zC,e];rfl
def mkP (ws nm:List Str) (es:List Nat) (ts:List Pt) (cs:List Pq):PL:=⟨0,0,0,0,0,ws,nm,es,ts,csT ws cs⟩
theorem mkP_ok {H:Hp} {ws nm:List Str} {es:List Nat} {ts:List Pt} {qs cs:List Pq} (hcl:cs.length=es.length+1) (hcs:CsAt H ws.length cs) (hw:Nms ws ws.length) (w1:1≤ws.length) (w3:ws.length≤3) (hn:Nms nm (es.length+1)) (h11:es.length≤11) (lo:∀(k e:Nat),es[k]?=some e→e≤k∧e≤10)
  (hts:ts.map (fun t=>(t.k,t.f))=qs.map fun q=>(tdK (ws.zip q.2),tdF (ws.zip q.2))) (hql:qs.length=es.length+1) (hq:∀q∈qs,q.2.length=ws.length∧∀x∈q.2,0≤x∧x≤10^30) (hs:∀h j,h < es.length+1→j < ws.length→qfd (elN es) qs (es.length+1) h j≤atQ cs h j):PlF (mkP ws nm es ts cs):=by
 have htl:ts.length=es.length+1:=by have:=congrArg List.length hts;rw [zB,zB] at this;omega
 have htk:∀(k:Nat) (t:Pt),ts[k]?=some t→∃q,qs[k]?=some q∧t.k=tdK (ws.zip q.2)∧t.f=tdF (ws.zip q.2):=fun k t ht=>by
  have z:=congrArg (fun l=>l[k]?) hts
  simp only [zC,ht] at z
  cases e:qs[k]? with
  |none=>rw [e] at z;cases z
  |some q=>
   rw [e] at z
   have z':(t.k,t.f)=(tdK (ws.zip q.2),tdF (ws.zip q.2)):=Option.some.inj z
   exact⟨q,rfl,(Prod.mk.inj z').1,(Prod.mk.inj z').2⟩
 refine⟨w1,w3,hw.good,hw.nd,hn.len,by show nm.length≤12;rw [hn.len];omega,hn.good,hn.nd,lo,by show ts.length=nm.length;rw [hn.len];exact htl,by show (csT ws cs).length=nm.length;unfold csT;rw [zB,hn.len];exact hcl,fun t ht=>?_,fun t ht=>?_,fun j t ht v hv=>?_⟩
 ·obtain⟨k,hk,e⟩:=zM.mp ht
  obtain⟨q,h1,h2,h3⟩:=htk k t (by rw [←e];exact zA hk)
  rw [h2,h3]
  exact⟨qfa _,qfb (hq q (zG h1)).1.symm hw.nd fun p hp=>((hq q (zG h1)).2 p hp).2⟩
 ·obtain⟨c,hc,rfl⟩:=zJ.mp ht
  exact⟨qfa _,qfb (hcs c hc).2.1.symm hw.nd fun p hp=>((hcs c hc).2.2 p hp).2⟩
 ·have hj:j < es.length+1:=by
   have:=(List.getElem?_eq_some_iff.mp ht).1
   rw [show (mkP ws nm es ts cs).tc=csT ws cs from rfl] at this
   unfold csT at this
   rw [zB] at this
   omega
  have e:t=⟨0,tdK (ws.zip (csD cs j)),tdF (ws.zip (csD cs j))⟩:=Option.some.inj (ht.symm.trans (csT_at (by omega)))
  subst e
  obtain⟨_,cl,cb,_⟩:=hcs.at (show j < cs.length by omega)
  obtain⟨a,ha,rfl⟩:=zM.mp hv
  have ha:a < ws.length:=ha
  have g9:gN (tdF (ws.zip (csD cs j))) ws[a]=atQ cs j a:=by
   rw [tdF_gN cl.symm hw.nd (fun p hp=>(cb p hp).1) ha (by rw [cl];exact ha)]
   have e:=zA (show j < cs.length by omega)
   unfold atQ
   rw [e]
   show _=((cs[j]'(by omega)).2[a]?).getD 0
   have e2:csD cs j=(cs[j]'(by omega)).2:=by unfold csD;rw [e]
   rw [←e2,zA (by rw [cl];exact ha)];rfl
  show (qcd ts.length fun k=>if j∈qai (elN es) k then ptN ts k ws[a] else 0)≤gN (tdF (ws.zip (csD cs j))) ws[a]
  rw [g9,htl]
  refine Int.le_trans (Int.le_of_eq ?_) (hs j a hj ha)
  unfold qfd
  refine qdk fun k hk=>?_
  have hkt:k < ts.length:=by omega
  obtain⟨q,h1,h2,h3⟩:=htk k ts[k] (zA hkt)
  have hqm:=hq q (zG h1)
  have e1:ptN ts k ws[a]=atQ qs k a:=by
   unfold ptN atQ
   rw [zA hkt,h1]
   show gN ts[k].f ws[a]=(q.2[a]?).getD 0
   rw [h3,tdF_gN hqm.1.symm hw.nd (fun p hp=>(hqm.2 p hp).1) ha (by omega),zA (by omega)]
   rfl
  rw [e1]
def stK (bs:List Ob):List (Key × V):=bs.map fun b=>(Sum.inl b.R.n,V.ref b.o)
structure StAt (d:Ad) (H:Hp) (so t hd:Addr) (P:PL) (bs:List Ob):Prop where
 obj:∃dx,H so=some (.ins d.c_Store dx [("tree",.ref t),("holds",.ref hd),("last",.int ((bs.length:Nat):Int))])
 hds:H hd=some (.dK (stK bs))
 ob:∀b∈bs,ObAt d H P b
 nu:∀(i:Nat) (b:Ob),bs[i]?=some b→b.R.n=((i:Nat):Int)+1
 l63:bs.length≤60
theorem StAt.same {d:Ad} {H H':Hp} {so t hd:Addr} {P:PL} {bs:List Ob} (h:StAt d H so t hd P bs) (s:qaq H H'):StAt d H' so t hd P bs:=⟨let ⟨dx,e⟩:=h.obj;⟨dx,s _ _ e⟩,s _ _ h.hds,fun b hb=>(h.ob b hb).same s,h.nu,h.l63⟩
theorem StAt.keys {d:Ad} {H:Hp} {so t hd:Addr} {P:PL} {bs:List Ob} (h:StAt d H so t hd P bs):(stK bs).map (·.1)=(bs.map fun b=>b.R.n).map Sum.inl:=by
 unfold stK
 rw [yN,yN];rfl
theorem num_sort {bs:List Ob} (nu:∀(i:Nat) (b:Ob),bs[i]?=some b→b.R.n=((i:Nat):Int)+1):(bs.map fun b=>b.R.n).Pairwise (·≤·):=by
 refine zV.mpr fun i j hi hj ij=>?_
 rw [zB] at hi hj
 rw [List.getElem_map,List.getElem_map,nu i _ (zA hi),nu j _ (zA hj)]
 omega
theorem sortI_eq:∀{l l':List Int},l.Perm l'→l.Pairwise (·≤·)→l'.Pairwise (·≤·)→l=l':=fun h a b=>List.Perm.eq_of_pairwise (fun _ _ _ _ h1 h2=>Int.le_antisymm h1 h2) a b h
def b_num (b:Ob):Int:=b.R.n
theorem valV_st {bs:List Ob} (nu:∀(i:Nat) (b:Ob),bs[i]?=some b→b.R.n=((i:Nat):Int)+1) {i:Nat} {b:Ob} (h:bs[i]?=some b):qc7 (stK bs) (Sum.inl b.R.n)=some (.ref b.o):=by
 refine qe1 ?_ ?_
 ·unfold stK
  rw [yN]
  refine(List.pairwise_map.mpr ?_:List.Nodup _)
  refine zV.mpr fun i j hi hj ij e=>?_
  have e:b_num bs[i]=b_num bs[j]:=Sum.inl.inj e
  unfold b_num at e
  rw [nu i _ (zA hi),nu j _ (zA hj)] at e
  omega
 ·exact zJ.mpr ⟨b,zG h,rfl⟩
def sp_Store_numbers (K:Frag) (d:Ad):Sp:=fun vs H Q _=>∃(so t hd:Addr) (P:PL) (bs:List Ob),vs=[.ref so]∧StAt d H so t hd P bs∧∀l,H l=none→Q (.ref l) (upd H l (.lst ((bs.map fun b=>b.R.n).map V.int)))
include T in
theorem ok_Store_numbers:FnOk P w K mg base CX0 1 d.f_Store_numbers d.fd_Store_numbers ["self"] (sp_Store_numbers K d):=by
 refine T.F_Store_numbers.ok sc_Store_numbers (fun vs H Q E h=>?_) (fun cdv A outer s H vs Q E hr h=>?_)
 ·obtain⟨so,t,hd,P,bs,rfl,_⟩:=h;rfl
 obtain⟨so,t,hd,P,bs,rfl,hS,q⟩:=h
 refine⟨_,(qa4 (qae (qad (call_sortI rfl) rfl T.z_sorted PyProof.Rows.boot_sorted (qa0 (qao (pv 0) rfl) qa1)))),?_⟩
 walk_at "d"
 refine qac (σ:=[some (.ref so)]) rfl ?_
 have cs:=T.CL_Store
 have n2:qaj K d.c_Store "holds":=T.NA_Store_holds
 obtain⟨dx,ho⟩:=hS.obj
 have l63:=hS.l63
 left
 refine r_sortI (.inl hS.hds) hS.keys (by rw [zB];omega) fun l ns hl hp hs=>?_
 rw [sortI_eq hp hs (num_sort hS.nu)]
 left
 exact q l hl
def sp_Store_under (K:Frag) (d:Ad):Sp:=fun vs H Q _=>∃(so t hd:Addr) (P:PL) (bs:List Ob),vs=[.ref so,.non]∧StAt d H so t hd P bs∧∀l H',qaq H H'→H l=none→H' l=some (.lst (bsV bs))→Q (.ref l) H'
include T in
theorem ok_Store_under:FnOk P w K mg base CX0 18 d.f_Store_under d.fd_Store_under ["self","house"] (sp_Store_under K d):=by
 refine T.F_Store_under.ok sc_Store_under (fun vs H Q E h=>?_) (fun cdv A outer s H vs Q E hr h=>?_)
 ·obtain⟨so,t,hd,P,bs,rfl,_⟩:=h;rfl
 obtain⟨so,t,hd,P,bs,rfl,hS,q⟩:=h
 refine⟨_,(qa2 (qe7 (j:=2) (caps:=[0]) (cn:=["self"]) (qbc rfl rfl (by rfl) (by rfl) rfl ⟨rfl,trivial⟩ (by rfl) rfl ⟨⟨rfl,rfl,rfl,rfl,_,rfl⟩,trivial⟩ (by decide)) rfl sc_Store_under.nd rfl rfl (qb6 (qdc (pv 0) T.CL_Store T.ME_Store_numbers ((ok_Store_numbers T).mono (by decide)) hr T.b_Store_numbers .nil qaf)) (fun _ _ _ _=>qd3) (fun _ _ _ _=>(qbs (qc5 hr) (qao (pv 1) rfl) (pv 0) (fun _ _=>rfl))))
  (qa2 (qbb (qan op_isNN (pv 1) qcv (qat _)) (qa4 (qae (pv 2))) qal)
  (qa4 (qae (qaa ((ok_holds_beneath T).mono (by decide)) hr rfl T.m_holds_beneath T.F_holds_beneath.kp T.b_holds_beneath .nil qaf (qa0 (qao (pv 0) rfl) (qa0 (pv 2) (qa0 (pv 1) qa1)))))))),?_⟩
 walk_at "d"
 try dsimp only [cxC]
 refine qac (σ:=[some (.ref so),some (.non),none]) rfl ?_
 have cs:=T.CL_Store
 have n2:qaj K d.c_Store "holds":=T.NA_Store_holds
 obtain⟨dx,ho⟩:=hS.obj
 have l63:=hS.l63
 left
 refine⟨so,t,hd,P,bs,rfl,hS,fun l1 hl1=>?_⟩
 have s1:=qab hl1 (.lst ((bs.map fun b=>b.R.n).map V.int))
 have e1:upd H l1 (.lst ((bs.map fun b=>b.R.n).map V.int)) l1=some (.lst ((bs.map fun b=>b.R.n).map V.int)):=qa3
 generalize upd H l1 (.lst ((bs.map fun b=>b.R.n).map V.int))=H1 at*
 have hS1:=hS.same s1
 have ho1:=s1 _ _ ho
 left
 intro C s0 H0 fp acc hacc
 refine c_by bs.length (fun i H'=>H'=upd H1 acc (.lst (bsV (bs.take i)))) rfl ?_ ?_ ?_ ?_
 ·rintro i H' hi rfl
  exact⟨_,.int bs[i].R.n,SqL.of (qa9 e1 hacc),by rw [zC,zC,zA hi];rfl⟩
 ·rintro H' rfl
  exact⟨_,SqL.of (qa9 e1 hacc),by rw [zB,zB];exact Nat.le_refl _⟩
 ·rintro i H' v H'' hi rfl ⟨rfl,hy⟩
  have hv:=hy _ (SqL.of (qa9 e1 hacc))
  rw [zC,zC,zA hi] at hv
  cases hv
  have tk:bs.take (i+1)=bs.take i++ [bs[i]]:=by rw [zS,zA hi];rfl
  have hvv:=valV_st hS.nu (zA hi)
  generalize bs[i]=b at*
  have ho2:=qa9 (o':=.lst (bsV (bs.take i))) ho1 hacc
  have hd2:=qa9 (o':=.lst (bsV (bs.take i))) hS1.hds hacc
  have zl:(bsV (bs.take i)).length < sizeLine:=by unfold bsV;rw [zB,yB];show _ < 16777216;omega
  left
  refine r_dgI (.inl hd2) hvv ?_
  left
  rw [qb5,tk]
  unfold bsV
  rw [zE];rfl
 rintro H' rfl
 rw [zZ]
 left
 exact q acc _ (s1.trans (qab hacc _)) (s1.free hacc) qa3
structure WrAt (K:Frag) (d:Ad) (H:Hp) (t:Addr) (S:Ts) (P:PL) (n:Nat):Prop where
 tr:qd2 d H t S
 wf:WF S
 pl:Pl S (nmF P) (elN P.es) n
 nn:P.nm.length=n
 hs:∀j,j < n→(∃e,S.at (nmF P j)=some e)∧Dep S 12 (nmF P j)
 w3:P.ws.length≤3
theorem WrAt.same {K:Frag} {d:Ad} {H H':Hp} {t:Addr} {S:Ts} {P:PL} {n:Nat} (h:WrAt K d H t S P n) (s:qaq H H'):WrAt K d H' t S P n:=⟨h.tr.same s,h.wf,h.pl,h.nn,h.hs,h.w3⟩
def atH (h:Nat) (b:Ob):Bool:=decide (b.R.i=h)
def sp_Store_at_house (K:Frag) (d:Ad):Sp:=fun vs H Q _=>∃(so t hd:Addr) (S:Ts) (P:PL) (bs:List Ob) (n h:Nat),vs=[.ref so,.str (nmF P h)]∧StAt d H so t hd P bs∧WrAt K d H t S P n∧h < n∧∀l H',qaq H H'→H l=none→H' l=some (.lst (bsV (bs.filter (atH h))))→Q (.ref l) H'
include T in
theorem ok_Store_at_house:FnOk P w K mg base CX0 19 d.f_Store_at_house d.fd_Store_at_house ["self","house"] (sp_Store_at_house K d):=by
 refine T.F_Store_at_house.ok sc_Store_at_house (fun vs H Q E h=>?_) (fun cdv A outer s H vs Q E hr h=>?_)
 ·obtain⟨so,t,hd,S,P,bs,n,h,rfl,_⟩:=h;rfl
 obtain⟨so,t,hd,S,P,bs,n,h,rfl,hS,hW,hn,q⟩:=h
 refine⟨_,(qa2 (qas (qap (W:=fun _ _ _ _=>False) (qao (pv 0) rfl) T.CL_Tree T.ME_Tree_check_house ((ok_Tree_check_house T).mono (by decide)) hr T.b_Tree_check_house .nil qda (qa0 (pv 1) qa1)))
  (qa4 (qae (qbt (caps:=[1]) (cn:=["house"]) (qbc rfl rfl (by rfl) (by rfl) rfl ⟨rfl,trivial⟩ (by rfl) rfl ⟨⟨rfl,rfl,rfl,rfl,_,rfl⟩,trivial⟩ (by decide)) rfl (qb6 (qdc (pv 0) T.CL_Store T.ME_Store_under ((ok_Store_under T).mono (by decide)) hr T.b1_Store_under T.rd_Store_under qaf)) (fun _ _ _ _=>(qds (qan qdu (qao (pv 0) rfl) (pv 1) (qat _)))) (fun _ _ _ _=>(pv 0)))))),?_⟩
 walk_at "d"
 try dsimp only [cxC]
 refine qac (σ:=[some (.ref so),some (.str (nmF P h))]) rfl ?_
 have cs:=T.CL_Store
 have ct:=T.CL_Tree
 have n1:qaj K d.c_Store "tree":=T.NA_Store_tree
 obtain⟨dx,ho⟩:=hS.obj
 obtain⟨dt,ht⟩:=id hW.tr.1
 obtain⟨⟨eh,aeh⟩,_⟩:=hW.hs h hn
 have l63:=hS.l63
 left
 refine⟨t,S,.str (nmF P h),rfl,hW.tr,.inl ⟨_,rfl⟩,fun e he=>?_,fun wn=>?_⟩
 ·skip
  left
  refine⟨so,t,hd,P,bs,rfl,hS,fun l1 H1 s1 hl1 e1=>?_⟩
  have hB1:∀b∈bs,ObAt d H1 P b:=fun b hb=>(hS.ob b hb).same s1
  left
  intro C s0 H0 fp acc hacc
  refine c_by bs.length (fun i H'=>H'=upd H1 acc (.lst (bsV ((bs.take i).filter (atH h))))) rfl ?_ ?_ ?_ ?_
  ·rintro i H' hi rfl
   exact⟨_,.ref bs[i].o,SqL.of (qa9 e1 hacc),by unfold bsV;rw [zC,zA hi];rfl⟩
  ·rintro H' rfl
   exact⟨_,SqL.of (qa9 e1 hacc),by unfold bsV;rw [zB];exact Nat.le_refl _⟩
  ·rintro i H' v H'' hi rfl ⟨rfl,hy⟩
   have hv:=hy _ (SqL.of (qa9 e1 hacc))
   unfold bsV at hv
   rw [zC,zA hi] at hv
   cases hv
   have hb:=hB1 _ (zL hi)
   have tk:bs.take (i+1)=bs.take i++ [bs[i]]:=by rw [zS,zA hi];rfl
   generalize bs[i]=b at*
   obtain⟨dx,hbo⟩:=hb.obj
   have hbo':=qa9 (o':=.lst (bsV ((bs.take i).filter (atH h)))) hbo hacc
   obtain⟨cl,q1,q2,q3,q4,q5⟩:=clsOk T b.R.s
   have ein:(nmF P b.R.i=nmF P h)=(b.R.i=h):=propext ⟨fun e=>hW.pl.inj _ _ (by have:=hb.il;have:=hW.nn;omega) hn e,fun e=>by rw [e]⟩
   have zl:(bsV ((bs.take i).filter (atH h))).length < sizeLine:=by
    unfold bsV
    rw [zB]
    have h1:=zP (atH h) (bs.take i)
    rw [yB] at h1
    show _ < 16777216
    omega
   left
   simp only [ein]
   by_cases c:b.R.i=h
   ·rw [decide_eq_true c]
    left
    rw [qb5,tk,zW,zY,if_pos (show atH h b=true from decide_eq_true c)]
    unfold bsV
    rw [zE];rfl
   ·rw [decide_eq_false c]
    left
    rw [tk,zW,zY,if_neg (by unfold atH;rw [decide_eq_false c];exact Bool.false_ne_true),yL,yD]
  rintro H' rfl
  rw [zZ]
  left
  exact q acc _ (s1.trans (qab hacc _)) (s1.free hacc) qa3
 ·exact absurd (show who S (.str (nmF P h))=some eh from aeh) (by rw [wn];intro z;cases z)
def sp_Store_keeps (K:Frag) (d:Ad):Sp:=fun vs H Q _=>∃x:V,vs=[x,.non]∧Q (.bl false) H
include T in
theorem ok_Store_keeps:FnOk P w K mg base CX0 2 d.f_Store_keeps d.fd_Store_keeps ["self","thing"] (sp_Store_keeps K d):=by
 refine T.F_Store_keeps.ok sc_Store_keeps (fun vs H Q E h=>?_) (fun cdv A outer s H vs Q E hr h=>?_)
 ·obtain⟨x,rfl,_⟩:=h;rfl
 obtain⟨x,rfl,q⟩:=h
 refine⟨_,(qa4 (qae (qew (qaa ((ok_is_whole T).mono (by decide)) hr rfl T.m_is_whole T.F_is_whole.kp T.b_is_whole .nil qaf (qa0 (pv 1) qa1)) (qea (pe_cmp (pc_din (qc5 hr) (pv 1) (qao (pv 0) rfl))))))),?_⟩
 walk_at "d"
 refine qac (σ:=[some (x),some (.non)]) rfl ?_
 left
 refine .inr ⟨rfl,?_⟩
 left
 exact q
def sp_Hold_is_sure (K:Frag) (d:Ad):Sp:=fun vs H Q _=>∃x:V,vs=[x]∧Q (.bl true) H
include T in
theorem ok_Hold_is_sure:FnOk P w K mg base CX0 1 d.f_Hold_is_sure d.fd_Hold_is_sure ["self"] (sp_Hold_is_sure K d):=by
 refine T.F_Hold_is_sure.ok sc_Hold_is_sure (fun vs H Q E h=>?_) (fun cdv A outer s H vs Q E hr h=>?_)
 ·obtain⟨x,rfl,_⟩:=h;rfl
 obtain⟨x,rfl,q⟩:=h
 refine⟨_,(qa4 (qae qd5)),?_⟩
 walk_at "d"
 refine qac (σ:=[some (x)]) rfl ?_
 left
 exact q
def sp_Loan_is_sure (K:Frag) (d:Ad):Sp:=fun vs H Q _=>∃x:V,vs=[x]∧Q (.bl false) H
include T in
theorem ok_Loan_is_sure:FnOk P w K mg base CX0 1 d.f_Loan_is_sure d.fd_Loan_is_sure ["self"] (sp_Loan_is_sure K d):=by
 refine T.F_Loan_is_sure.ok sc_Loan_is_sure (fun vs H Q E h=>?_) (fun cdv A outer s H vs Q E hr h=>?_)
 ·obtain⟨x,rfl,_⟩:=h;rfl
 obtain⟨x,rfl,q⟩:=h
 refine⟨_,(qa4 (qae qd5)),?_⟩
 walk_at "d"
 refine qac (σ:=[some (x)]) rfl ?_
 left
 exact q
def qe3 (h:Nat) (b:Ob):Bool:=atH h b && b.R.s
def sp_Store_promised_but (K:Frag) (d:Ad):Sp:=fun vs H Q _=>∃(so t hd:Addr) (S:Ts) (P:PL) (bs:List Ob) (n h:Nat),vs=[.ref so,.str (nmF P h),.non]∧StAt d H so t hd P bs∧WrAt K d H t S P n∧h < n∧∀l k H',qaq H H'→H l=none→H' l=some (.dK k)→AD k (qer ((bs.filter (qe3 h)).map obPt))→Q (.ref l) H'
include T in
theorem ok_Store_promised_but:FnOk P w K mg base CX0 20 d.f_Store_promised_but d.fd_Store_promised_but ["self","house","but"] (sp_Store_promised_but K d):=by
 refine T.F_Store_promised_but.ok sc_Store_promised_but (fun vs H Q E h=>?_) (fun cdv A outer s H vs Q E hr h=>?_)
 ·obtain⟨so,t,hd,S,P,bs,n,h,rfl,_⟩:=h;rfl
 obtain⟨so,t,hd,S,P,bs,n,h,rfl,hS,hW,hn,q⟩:=h
 refine⟨_,(qa2 (qe7 (j:=3) (caps:=[]) (cn:=[]) (qbc rfl rfl (by rfl) (by rfl) rfl trivial (by rfl) rfl trivial (by decide)) rfl sc_Store_promised_but.nd rfl rfl (qb6 (qcc (pv 0) T.CL_Store T.ME_Store_at_house ((ok_Store_at_house T).mono (by decide)) hr T.b_Store_at_house .nil qaf (qa0 (pv 1) qa1))) (fun _ _ _ _=>(qds (qbo (pe_alt (qdc (pv 0) T.CL_Hold T.ME_Hold_is_sure ((ok_Hold_is_sure T).mono (by decide)) hr T.b_Hold_is_sure .nil qaf) (qdc (pv 0) T.CL_Loan T.ME_Loan_is_sure ((ok_Loan_is_sure T).mono (by decide)) hr T.b_Loan_is_sure .nil qaf))))) (fun _ _ _ _=>(pv 0)))
  (qa2 (qcj (qbb (qbo (qcc (pv 0) T.CL_Store T.ME_Store_keeps ((ok_Store_keeps T).mono (by decide)) hr T.b_Store_keeps .nil qaf (qa0 (pv 2) qa1))) (qa4 (qe7 (j:=3) (caps:=[2]) (cn:=["but"]) (qbc rfl rfl (by rfl) (by rfl) rfl ⟨rfl,trivial⟩ (by rfl) rfl ⟨⟨rfl,rfl,rfl,rfl,_,rfl⟩,trivial⟩ (by decide)) rfl sc_Store_promised_but.nd rfl rfl (qb6 (pv 3)) (fun _ _ _ _=>(qds (qan op_ne (qao (pv 0) rfl) (pv 1) (qat _)))) (fun _ _ _ _=>(pv 0)))) qal))
  (qa4 (qae (qaa ((ok_held_by T).mono (by decide)) hr rfl T.m_held_by T.F_held_by.kp T.b_held_by .nil qaf (qa0 (pv 3) qa1)))))),?_⟩
 walk_at "d"
 try dsimp only [cxC]
 refine qac (σ:=[some (.ref so),some (.str (nmF P h)),some (.non),none]) rfl ?_
 have cs:=T.CL_Store
 obtain⟨dx,ho⟩:=hS.obj
 have l63:=hS.l63
 left
 refine⟨so,t,hd,S,P,bs,n,h,rfl,hS,hW,hn,fun l1 H1 s1 hl1 e1=>?_⟩
 have efl:(bs.filter (qe3 h))=(bs.filter (atH h)).filter fun b=>b.R.s:=by rw [List.filter_filter];exact List.filter_congr fun b _=>by unfold qe3;rw [Bool.and_comm]
 have hB1:∀b∈bs.filter (atH h),ObAt d H1 P b:=fun b hb=>(hS.ob b (yE.mp hb).1).same s1
 have l1le:(bs.filter (atH h)).length≤60:=Nat.le_trans (zP ..) l63
 have ho1:=s1 _ _ ho
 have w3:=hW.w3
 rw [efl] at q
 generalize bs.filter (atH h)=cs1 at*
 left
 intro C s0 H0 fp acc hacc
 refine c_by cs1.length (fun i H'=>H'=upd H1 acc (.lst (bsV ((cs1.take i).filter fun b=>b.R.s)))) rfl ?_ ?_ ?_ ?_
 ·rintro i H' hi rfl
  exact⟨_,.ref cs1[i].o,SqL.of (qa9 e1 hacc),by unfold bsV;rw [zC,zA hi];rfl⟩
 ·rintro H' rfl
  exact⟨_,SqL.of (qa9 e1 hacc),by unfold bsV;rw [zB];exact Nat.le_refl _⟩
 ·rintro i H' v H'' hi rfl ⟨rfl,hy⟩
  have hv:=hy _ (SqL.of (qa9 e1 hacc))
  unfold bsV at hv
  rw [zC,zA hi] at hv
  cases hv
  have hb:=hB1 _ (zL hi)
  have tk:cs1.take (i+1)=cs1.take i++ [cs1[i]]:=by rw [zS,zA hi];rfl
  generalize cs1[i]=b at*
  obtain⟨dx,hbo⟩:=hb.obj
  have hbo':=qa9 (o':=.lst (bsV ((cs1.take i).filter fun b=>b.R.s))) hbo hacc
  have zl:(bsV ((cs1.take i).filter fun b=>b.R.s)).length < sizeLine:=by
   unfold bsV
   rw [zB]
   have h1:=zP (fun b:Ob=>b.R.s) (cs1.take i)
   rw [yB] at h1
   show _ < 16777216
   omega
  cases hs:b.R.s with
  |true=>
   rw [hs,show qf3 d true=d.c_Hold from rfl] at hbo'
   left
   refine r_alt1 ?_
   left
   refine⟨_,rfl,?_⟩
   left
   rw [qb5,tk,zW,zY,if_pos hs]
   unfold bsV
   rw [zE];rfl
  |false=>
   rw [hs,show qf3 d false=d.c_Loan from rfl] at hbo'
   left
   refine r_alt2 ?_
   left
   refine⟨_,rfl,?_⟩
   left
   rw [tk,zW,zY,if_neg (by rw [hs];exact Bool.false_ne_true),yL,yD]
 rintro H' rfl
 rw [zZ]
 have s2:=s1.trans (qab hacc (.lst (bsV (cs1.filter fun b=>b.R.s))))
 have e2:upd H1 acc (.lst (bsV (cs1.filter fun b=>b.R.s))) acc=some (.lst (bsV (cs1.filter fun b=>b.R.s))):=qa3
 have hB2:∀b∈cs1.filter (fun b=>b.R.s),ObAt d (upd H1 acc (.lst (bsV (cs1.filter fun b=>b.R.s)))) P b:=fun b hb=>(hB1 b (yE.mp hb).1).same (qab hacc _)
 have ho2:=qa9 (o':=.lst (bsV (cs1.filter fun b=>b.R.s))) ho1 hacc
 have l2le:(cs1.filter fun b=>b.R.s).length≤60:=Nat.le_trans (zP ..) l1le
 generalize upd H1 acc (.lst (bsV (cs1.filter fun b=>b.R.s)))=H2 at*
 generalize (cs1.filter fun b=>b.R.s)=ds at*
 left
 refine qff (fun σ' H'=>H'=H2∧σ'=[some (V.ref so),some (.str (nmF P h)),some .non,some (.ref acc)]) ?_ ?_
 ·left
  refine⟨_,rfl,?_⟩
  left
  exact⟨rfl,rfl⟩
 rintro σ' H' ⟨rfl,rfl⟩
 left
 refine⟨acc,P,ds,rfl,e2,by omega,w3,hB2,fun l k H3 s3 hl el hA=>?_⟩
 left
 exact q l k H3 (s2.trans s3) (s2.free hl) el hA
theorem sumF_sup {ws:List Str}:∀(ts:List Pt) (f0:Str→Option Int),(∀z,f0 z≠none→z∈ws)→(∀t∈ts,∀z,t.f z≠none→z∈ws)→∀z,(ts.foldl (fun f t=>qf8 f t.f) f0) z≠none→z∈ws
 | [],_,h,_=>h
 |t :: ts,_,h,ht=>sumF_sup ts _ (qdi h (ht t (zH ..))) fun x hx=>ht x (zD _ hx)
theorem sumO_sup {d:Ad} {H:Hp} {P:PL} {bs:List Ob} (h:∀b∈bs,ObAt d H P b):∀z,qer (bs.map obPt) z≠none→z∈P.ws:=sumF_sup _ _ (fun z hz=>absurd rfl hz) fun t ht z hz=>by
 obtain⟨b,hb,rfl⟩:=zJ.mp ht
 exact(h b hb).inw z hz
def Fits (S:Ts) (P:PL) (bs:List Ob) (h:Nat) (f:Str→Option Int):Prop:=∀e,S.at (nmF P h)=some e→∀y,¬viol (qf8 (qer ((bs.filter (qe3 h)).map obPt)) f) e.x.fp y
def sp_Store_too_much (K:Frag) (d:Ad):Sp:=fun vs H Q _=>∃(so t hd am:Addr) (S:Ts) (P:PL) (bs:List Ob) (n h:Nat) (k:List (Key × V)) (f:Str→Option Int),vs=[.ref so,.str (nmF P h),.ref am,.non]∧StAt d H so t hd P bs∧WrAt K d H t S P n∧h < n∧H am=some (.dK k)∧AD k f∧InW P.ws f∧Fits S P bs h f∧∀H',qaq H H'→Q .non H'
include T in
theorem ok_Store_too_much:FnOk P w K mg base CX0 21 d.f_Store_too_much d.fd_Store_too_much ["self","house","amounts","but"] (sp_Store_too_much K d):=by
 refine T.F_Store_too_much.ok sc_Store_too_much (fun vs H Q E h=>?_) (fun cdv A outer s H vs Q E hr h=>?_)
 ·obtain⟨so,t,hd,am,S,P,bs,n,h,k,f,rfl,_⟩:=h;rfl
 obtain⟨so,t,hd,am,S,P,bs,n,h,k,f,rfl,hS,hW,hn,ham,hA,hI,hF,q⟩:=h
 refine⟨_,(qa4 (qae (qaa ((ok_beyond T).mono (by decide)) hr rfl T.m_beyond T.F_beyond.kp T.b_beyond .nil qaf (qa0 (qaa ((ok_added T).mono (by decide)) hr rfl T.m_added T.F_added.kp T.b_added .nil qaf (qa0 (qcc (pv 0) T.CL_Store T.ME_Store_promised_but ((ok_Store_promised_but T).mono (by decide)) hr T.b_Store_promised_but .nil qaf (qa0 (pv 1) (qa0 (pv 3) qa1))) (qa0 (pv 2) qa1))) (qa0 (qap (W:=fun _ _ _ _=>False) (qao (pv 0) rfl) T.CL_Tree T.ME_Tree_promise_of ((ok_Tree_promise_of T).mono (by decide)) hr T.b_Tree_promise_of .nil qda (qa0 (pv 1) qa1)) qa1))))),?_⟩
 walk_at "d"
 refine qac (σ:=[some (.ref so),some (.str (nmF P h)),some (.ref am),some (.non)]) rfl ?_
 have cs:=T.CL_Store
 have ct:=T.CL_Tree
 have n1:qaj K d.c_Store "tree":=T.NA_Store_tree
 obtain⟨dx,ho⟩:=hS.obj
 obtain⟨dt,ht⟩:=id hW.tr.1
 obtain⟨⟨eh,aeh⟩,_⟩:=hW.hs h hn
 have w3:=hW.w3
 have kl:=hA.le hI
 left
 refine⟨so,t,hd,S,P,bs,n,h,rfl,hS,hW,hn,fun l1 k1 H1 s1 hl1 e1 hA1=>?_⟩
 have sup1:=sumO_sup (bs:=bs.filter (qe3 h)) fun b hb=>hS.ob b (yE.mp hb).1
 have kl1:=hA1.le sup1
 left
 refine⟨l1,am,k1,k,_,f,rfl,.inl e1,s1 _ _ ham,hA1,hA,by omega,by omega,fun l2 k2 H2 s2 hl2 e2 hA2=>?_⟩
 have t2:=s1.trans s2
 have ho2:=t2 _ _ ho
 have ht2:=t2 _ _ ht
 have kl2:=hA2.le (qdi sup1 hI)
 left
 refine⟨t,S,.str (nmF P h),rfl,hW.tr.same t2,.inl ⟨_,rfl⟩,fun e he p hp=>?_,fun wn=>?_⟩
 ·have ee:e=eh:=Option.some.inj ((show S.at (nmF P h)=some e from he).symm.trans aeh)
  subst ee
  obtain⟨_,hp0,hpA,_,_⟩:=(hW.tr.same t2).2.2.2.2.2 e (qbr he).1
  have e3:upd H2 p (.dK e.x.kp) p=some (.dK e.x.kp):=qa3
  have e23:=qa9 (o':=.dK e.x.kp) e2 hp
  have t3:=t2.trans (qab hp (.dK e.x.kp))
  generalize upd H2 p (.dK e.x.kp)=H3 at*
  left
  refine⟨l2,p,k2,e.x.kp,_,e.x.fp,rfl,.inl e23,.inl e3,hA2,hpA,by omega,fun H4 s4 _=>?_,fun z H4 s4 hv _=>absurd hv (hF e he z)⟩
  left
  exact q _ (t3.trans s4)
 ·exact absurd (show who S (.str (nmF P h))=some eh from aeh) (by rw [wn];intro z;cases z)
def sp_Store_check_fits (K:Frag) (d:Ad):Sp:=fun vs H Q _=>∃(so t hd am:Addr) (S:Ts) (P:PL) (bs:List Ob) (n h:Nat) (k:List (Key × V)) (f:Str→Option Int),vs=[.ref so,.str (nmF P h),.ref am,.non]∧StAt d H so t hd P bs∧WrAt K d H t S P n∧h < n∧H am=some (.dK k)∧AD k f∧InW P.ws f∧Fits S P bs h f∧∀H',qaq H H'→Q .non H'
include T in
theorem ok_Store_check_fits:FnOk P w K mg base (My.CX1 P w) 22 d.f_Store_check_fits d.fd_Store_check_fits ["self","house","amounts","but"] (sp_Store_check_fits K d):=by
 refine okX T.F_Store_check_fits sc_Store_check_fits (fun vs H Q E h=>?_) (fun cdv A outer s H vs Q E hr h=>?_)
 ·obtain⟨so,t,hd,am,S,P,bs,n,h,k,f,rfl,_⟩:=h;rfl
 obtain⟨so,t,hd,am,S,P,bs,n,h,k,f,rfl,hS,hW,hn,ham,hA,hI,hF,q⟩:=h
 refine⟨_,(qa2 (qag (i:=4) sc_Store_check_fits.nd rfl (Or.inl rfl) (qcc (pv 0) T.CL_Store T.ME_Store_too_much ((ok_Store_too_much T).mono (by decide)) hr T.b_Store_too_much .nil qaf (qa0 (pv 1) (qa0 (pv 2) (qa0 (pv 3) qa1)))))
  (qa4 (qbb (qan qfi (pv 4) qcv (qat _)) (qa4 (ps_raiseI rfl T.XI_NoPromise ((ok_i_NoPromise T).mono (by decide)) hr T.b_i_NoPromise rfl T.m_NoPromise qar (qa0 (pv 1) (qa0 (pv 4) qa1)))) qal))),?_⟩
 walk_at "d"
 refine qac (σ:=[some (.ref so),some (.str (nmF P h)),some (.ref am),some (.non),none]) rfl ?_
 have cs:=T.CL_Store
 obtain⟨dx,ho⟩:=hS.obj
 left
 refine⟨so,t,hd,am,S,P,bs,n,h,k,f,rfl,hS,hW,hn,ham,hA,hI,hF,fun H1 s1=>?_⟩
 left
 exact q _ s1
def sp_made (K:Frag) (d:Ad):Sp:=fun vs H Q _=>∃(n:Int) (z:Str) (a:Addr) (k:List (Key × V)) (r:Int) (s:Bool),vs=[.int n,.str z,.ref a,.int r,.non,.bl s]∧H a=some (.dK k)∧∀x m H',qaq H H'→H x=none→H m=none→(∃dx,H' x=some (.ins (qf3 d s) dx (fsB n z m r none)))→H' m=some (.dK k)→Q (.ref x) H'
include T in
theorem ok_made:FnOk P w K mg base CX0 3 d.f_made d.fd_made ["number","house","amounts","rank","turns","sure"] (sp_made K d):=by
 refine T.F_made.ok sc_made (fun vs H Q E h=>?_) (fun cdv A outer s H vs Q E hr h=>?_)
 ·obtain⟨n,z,a,k,r,s,rfl,_⟩:=h;rfl
 obtain⟨n,z,a,k,r,s',rfl,ha,q⟩:=h
 refine⟨_,(qa2 (qbb (qbo (pv 5)) (qa4 (qae (qfh T.MK_Hold ((ok_Hold_init T).mono (by decide)) hr rfl T.m_Hold T.b_Hold_init .nil qaf (qa0 (pv 0) (qa0 (pv 1) (qa0 (pv 2) (qa0 (pv 3) (qa0 (pv 4) qa1)))))))) qal)
  (qa4 (qae (qfh T.MK_Loan ((ok_Hold_init T).mono (by decide)) hr rfl T.m_Loan T.b_Hold_init .nil qaf (qa0 (pv 0) (qa0 (pv 1) (qa0 (pv 2) (qa0 (pv 3) (qa0 (pv 4) qa1))))))))),?_⟩
 walk_at "d"
 refine qac (σ:=[some (.int n),some (.str z),some (.ref a),some (.int r),some (.non),some (.bl s')]) rfl ?_
 have fin:∀(x dx m:Addr) (H3:Hp),H x=none→H dx=none→upd (upd H dx (.own x)) x (.ins (qf3 d s') dx []) m=none→H3 x=some (.ins (qf3 d s') dx (fsB n z m r none))→H3 m=some (.dK k)→SameBut x (upd (upd H dx (.own x)) x (.ins (qf3 d s') dx [])) H3→Q (.ref x) H3:=fun x dx m H3 hx hdx hm ex em sb=>by
  have nmx:m≠x:=fun z=>by subst z;rw [qa3] at hm;cases hm
  rw [qa6 nmx] at hm
  have hm0:H m=none:=by
   by_cases e:m=dx
   ·subst e;exact hdx
   ·rw [qa6 e] at hm;exact hm
  exact q x m H3 (fun b o hb=>sb b o (qa5 hb hx) (by rw [qa6 (qa5 hb hx),qa6 (qa5 hb hdx)];exact hb)) hx hm0 ⟨dx,ex⟩ em
 left
 refine i_b2 (fun hs=>?_) (fun hs=>?_)
 ·have ec:qf3 d s'=d.c_Hold:=by rw [hs];rfl
  left
  intro x dx hx hdx ne
  refine⟨x,dx,a,s',n,z,k,r,none,rfl,by rw [ec];exact qa3,by rw [qa6 (qa5 ha hx),qa6 (qa5 ha hdx)];exact ha,fun m H3 hm ex em sb=>⟨rfl,?_⟩⟩
  rw [←ec] at hm sb
  left
  exact fin x dx m H3 hx hdx hm ex em sb
 ·have ec:qf3 d s'=d.c_Loan:=by rw [hs];rfl
  left
  intro x dx hx hdx ne
  refine⟨x,dx,a,s',n,z,k,r,none,rfl,by rw [ec];exact qa3,by rw [qa6 (qa5 ha hx),qa6 (qa5 ha hdx)];exact ha,fun m H3 hm ex em sb=>⟨rfl,?_⟩⟩
  rw [←ec] at hm sb
  left
  exact fin x dx m H3 hx hdx hm ex em sb
def fsS (t hd:Addr) (n:Int):List (Str × V):=[("tree",.ref t),("holds",.ref hd),("last",.int n)]
def sp_Store_init (K:Frag) (d:Ad):Sp:=fun vs H Q _=>∃(x dx t:Addr),vs=[.ref x,.ref t]∧H x=some (.ins d.c_Store dx [])∧∀hd H',H hd=none→H' x=some (.ins d.c_Store dx (fsS t hd 0))→H' hd=some (.dK [])→SameBut x H H'→Q .non H'
include T in
theorem ok_Store_init:FnOk P w K mg base CX0 1 d.f_Store_init d.fd_Store_init ["self","tree"] (sp_Store_init K d):=by
 refine T.F_Store_init.ok sc_Store_init (fun vs H Q E h=>?_) (fun cdv A outer s H vs Q E hr h=>?_)
 ·obtain⟨x,dx,t,rfl,_⟩:=h;rfl
 obtain⟨x,dx,t,rfl,hx,q⟩:=h
 refine⟨_,(qa2 (qc8 (pv 0) (pv 1) rfl)
  (qa2 (qc8 (pv 0) qdx rfl)
  (qa4 (qc8 (pv 0) qa8 rfl)))),?_⟩
 walk_at "d"
 refine qac (σ:=[some (.ref x),some (.ref t)]) rfl ?_
 have cl:=T.CL_Store
 have n1:qaj K d.c_Store "tree":=T.NA_Store_tree
 have n2:qaj K d.c_Store "holds":=T.NA_Store_holds
 have n3:qaj K d.c_Store "last":=T.NA_Store_last
 left
 rename_i m hm
 have nmx:m≠x:=fun z=>by subst z;rw [qa3] at hm;cases hm
 have hm0:H m=none:=by rw [qa6 nmx] at hm;exact hm
 refine qe6 (qa9 qa3 hm) cl n2 (by show 1 < 1000;decide) ?_
 left
 refine qe6 qa3 cl n3 (by show 2 < 1000;decide) ?_
 left
 refine q m _ hm0 (by rw [qa3];rfl) (by rw [qa6 nmx,qa6 nmx];exact qa3) fun b o hb e=>?_
 rw [qa6 hb,qa6 hb,qa6 (qa5 e hm0),qa6 hb]
 exact e
theorem st_new {bs:List Ob} (nu:∀(i:Nat) (b:Ob),bs[i]?=some b→b.R.n=((i:Nat):Int)+1):qc7 (stK bs) (Sum.inl (((bs.length:Nat):Int)+1))=none:=by
 cases e:qc7 (stK bs) (Sum.inl (((bs.length:Nat):Int)+1)) with
 |none=>rfl
 |some v=>
  have:=valV_mem e
  unfold stK at this
  obtain⟨b,hb,eb⟩:=zJ.mp this
  obtain⟨i,hi,e2⟩:=zM.mp hb
  have h1:=nu i b (by rw [←e2];exact zA hi)
  have h2:b.R.n=((bs.length:Nat):Int)+1:=Sum.inl.inj (Prod.mk.inj eb).1
  omega
theorem stK_put {bs:List Ob} (nu:∀(i:Nat) (b:Ob),bs[i]?=some b→b.R.n=((i:Nat):Int)+1) {b:Ob} (hb:b.R.n=((bs.length:Nat):Int)+1):qcu (stK bs) (Sum.inl (((bs.length:Nat):Int)+1)) (.ref b.o)=stK (bs++ [b]):=by
 rw [L2.qdw _ (st_new nu)]
 unfold stK
 rw [zE,←hb];rfl
theorem ObAt.ne {d:Ad} {H:Hp} {P:PL} {b:Ob} {so hd t dx:Addr} {n:Int} {kvs:List (Key × V)} (h:ObAt d H P b) (ho:H so=some (.ins d.c_Store dx (fsS t hd n))) (hh:H hd=some (.dK kvs)):b.o≠so∧b.o≠hd∧b.m≠so:=by
 obtain⟨dx',e⟩:=h.obj
 refine⟨fun z=>?_,fun z=>?_,fun z=>?_⟩
 ·rw [z,ho] at e
  injection e with e
  injection e with _ _ e
  exact absurd (congrArg List.length e) (show ¬((3:Nat)=5) by decide)
 ·rw [z,hh] at e;cases e
 ·have e2:=h.amt
  rw [z,ho] at e2;cases e2
def rOf (n:Int) (h:Nat) (k:List (Key × V)) (f:Str→Option Int) (r:Int) (s:Bool):Rr:=⟨0,0,n,h,k,f,r,s⟩
def sp_Store_put (K:Frag) (d:Ad):Sp:=fun vs H Q _=>∃(so t hd am:Addr) (S:Ts) (P:PL) (bs:List Ob) (n h:Nat) (k:List (Key × V)) (f:Str→Option Int) (r:Int) (s:Bool),vs=[.ref so,.str (nmF P h),.ref am,.int r,.non,.bl s]∧StAt d H so t hd P bs∧(∀b∈bs,b.m≠hd)∧am≠hd∧bs.length < 60∧WrAt K d H t S P n∧h < n∧H am=some (.dK k)∧AD k f∧InW P.ws f∧(s=true→Fits S P bs h f)∧
 ∀(b:Ob) H',StAt d H' so t hd P (bs++ [b])→(∀x∈bs++ [b],x.m≠hd)→SB [so,hd] H H'→b.R=rOf (((bs.length:Nat):Int)+1) h k f r s→Q (.int (((bs.length:Nat):Int)+1)) H'
include T in
theorem ok_Store_put:FnOk P w K mg base CX0 23 d.f_Store_put d.fd_Store_put ["self","house","amounts","rank","turns","sure"] (sp_Store_put K d):=by
 refine T.F_Store_put.ok sc_Store_put (fun vs H Q E h=>?_) (fun cdv A outer s H vs Q E hr h=>?_)
 ·obtain⟨so,t,hd,am,S,P,bs,n,h,k,f,r,s,rfl,_⟩:=h;rfl
 obtain⟨so,t,hd,am,S,P,bs,n,h,k,f,r,s',rfl,hS,hm,nam,l59,hW,hn,ham,hA,hI,hF,q⟩:=h
 refine⟨_,(qa2 (qas (qap (W:=fun _ _ _ _=>False) (qao (pv 0) rfl) T.CL_Tree T.ME_Tree_check_house ((ok_Tree_check_house T).mono (by decide)) hr T.b_Tree_check_house .nil qda (qa0 (pv 1) qa1)))
  (qa2 (qcj (qbb (qbo (pv 5)) (qa4 (qas (qap (W:=fun _ _ _ _=>False) (pv 0) T.CL_Store T.ME_Store_check_fits ((ok_Store_check_fits T).mono (by decide)) hr T.b_Store_check_fits .nil qda (qa0 (pv 1) (qa0 (pv 2) (qa0 qcv qa1)))))) qal))
  (qa2 (ps_fldaug (pv 0) qa8 in_add)
  (qa2 (qdl (qc5 hr) (qao (pv 0) rfl) (qao (pv 0) rfl) (qaa ((ok_made T).mono (by decide)) hr rfl T.m_made T.F_made.kp T.b_made .nil qaf (qa0 (qao (pv 0) rfl) (qa0 (pv 1) (qa0 (pv 2) (qa0 (pv 3) (qa0 (pv 4) (qa0 (pv 5) qa1))))))) rfl)
  (qa4 (qae (qao (pv 0) rfl))))))),?_⟩
 walk_at "d"
 refine qac (σ:=[some (.ref so),some (.str (nmF P h)),some (.ref am),some (.int r),some (.non),some (.bl s')]) rfl ?_
 have cs:=T.CL_Store
 have ct:=T.CL_Tree
 have n1:qaj K d.c_Store "tree":=T.NA_Store_tree
 have n2:qaj K d.c_Store "holds":=T.NA_Store_holds
 have n3:qaj K d.c_Store "last":=T.NA_Store_last
 obtain⟨dx,ho⟩:=hS.obj
 obtain⟨dt,ht⟩:=id hW.tr.1
 obtain⟨⟨eh,aeh⟩,_⟩:=hW.hs h hn
 left
 refine⟨t,S,.str (nmF P h),rfl,hW.tr,.inl ⟨_,rfl⟩,fun e he=>?_,fun wn=>absurd (show who S (.str (nmF P h))=some eh from aeh) (by rw [wn];intro z;cases z)⟩
 left
 refine qff (fun σ' H'=>qaq H H'∧σ'=[some (V.ref so),some (.str (nmF P h)),some (.ref am),some (.int r),some .non,some (.bl s')]) ?_ ?_
 ·left
  refine i_b2 (fun hs=>?_) (fun hs=>?_)
  ·left
   refine⟨so,t,hd,am,S,P,bs,n,h,k,f,rfl,hS,hW,hn,ham,hA,hI,hF hs,fun H1 s1=>?_⟩
   left
   exact⟨s1,rfl⟩
  ·left
   exact⟨qaq.refl _,rfl⟩
 rintro σ' H1 ⟨s1,rfl⟩
 have hS1:=hS.same s1
 have ho1:=s1 _ _ ho
 have ham1:=s1 _ _ ham
 generalize hL:((bs.length:Nat):Int)=L at*
 clear ho ht hF
 left
 refine r_fa ?_
 left
 refine⟨so,_,_,_,_,rfl,ho1,cs,n3,rfl,?_⟩
 left
 refine r_addI ?_
 refine⟨_,_,ho1,(by show 3 < 1000;decide),?_⟩
 have epf:qdr "last" (.int (L+1)) [("tree",V.ref t),("holds",.ref hd),("last",.int L)]=fsS t hd (L+1):=rfl
 rw [epf]
 have ho2:upd H1 so (.ins d.c_Store dx (fsS t hd (L+1))) so=some (.ins d.c_Store dx (fsS t hd (L+1))):=qa3
 have nhs:hd≠so:=fun z=>by have:=hS1.hds;rw [z,ho1] at this;cases this
 have nas:am≠so:=fun z=>by rw [z,ho1] at ham1;cases ham1
 have hd2:upd H1 so (.ins d.c_Store dx (fsS t hd (L+1))) hd=some (.dK (stK bs)):=by rw [qa6 nhs];exact hS1.hds
 have ham2:upd H1 so (.ins d.c_Store dx (fsS t hd (L+1))) am=some (.dK k):=by rw [qa6 nas];exact ham1
 have hB2:∀b∈bs,ObAt d (upd H1 so (.ins d.c_Store dx (fsS t hd (L+1)))) P b:=fun b hb=>(hS1.ob b hb).put ((hS1.ob b hb).ne (n:=L) ho1 hS1.hds).1 ((hS1.ob b hb).ne (n:=L) ho1 hS1.hds).2.2
 have sb2:SB [so,hd] H (upd H1 so (.ins d.c_Store dx (fsS t hd (L+1)))):=fun b o hb hn=>by
  rw [qa6 (fun z=>hn (by rw [z];exact zH ..))]
  exact s1 _ _ hb
 generalize upd H1 so (.ins d.c_Store dx (fsS t hd (L+1)))=H2 at*
 unfold fsS at ho2
 left
 refine⟨L+1,nmF P h,am,k,r,s',rfl,ham2,fun x m H3 s3 hx hm3 ⟨dx3,ex⟩ em=>?_⟩
 have ho3:=s3 _ _ ho2
 have hd3:=s3 _ _ hd2
 have nxd:x≠hd:=(qa5 hd2 hx).symm
 have nmd:m≠hd:=(qa5 hd2 hm3).symm
 left
 refine r_dpI hd3 (by unfold stK;rw [zB];show _ < 16777216;omega) ?_
 have er:(⟨rOf (L+1) h k f r s',x,m,none⟩:Ob).R.n=((bs.length:Nat):Int)+1:=by rw [hL];rfl
 have ek:=stK_put hS.nu er
 rw [hL] at ek
 rw [ek]
 have ho4:upd H3 hd (.dK (stK (bs++ [⟨rOf (L+1) h k f r s',x,m,none⟩]))) so=some (.ins d.c_Store dx [("tree",V.ref t),("holds",.ref hd),("last",.int (L+1))]):=by rw [qa6 nhs.symm];exact ho3
 left
 refine q ⟨rOf (L+1) h k f r s',x,m,none⟩ _ ⟨⟨dx,?_⟩,qa3,fun b hb=>?_,fun i b hb=>?_,by rw [zF];show _+1≤60;omega⟩ (fun b hb=>?_) (fun b o hb hn=>?_) rfl
 ·rw [ho4,zF,←hL];rfl
 ·rcases zU.mp hb with hb|hb
  ·have h3:=(hB2 b hb).same s3
   refine h3.put (fun z=>?_) (hm b hb)
   obtain⟨_,e⟩:=h3.obj
   rw [z,hd3] at e;cases e
  ·rw [zI.mp hb]
   exact⟨⟨dx3,by rw [qa6 nxd];exact ex⟩,by rw [qa6 nmd];exact em,hA,hI,by show h < _;rw [hW.nn];exact hn⟩
 ·by_cases c:i < bs.length
  ·rw [zT c] at hb
   exact hS.nu i b hb
  ·rw [zO (by omega)] at hb
   obtain⟨c2,e2⟩:=List.getElem?_eq_some_iff.mp hb
   have c2:i - bs.length < 1:=c2
   have ei:i=bs.length:=by omega
   subst ei
   have:b=⟨rOf (L+1) h k f r s',x,m,none⟩:=by
    rw [←e2]
    simp
   rw [this,hL];rfl
 ·rcases zU.mp hb with hb|hb
  ·exact hm b hb
  ·rw [zI.mp hb];exact nmd
 ·have n3':b≠hd:=fun z=>hn (by rw [z];exact zD _ (zH ..))
  rw [qa6 n3']
  exact s3 _ _ (sb2 b o hb hn)
theorem qfc (f g:Nat→Int):∀n,qcd n (fun k=>f k+g k)=qcd n f+qcd n g
 |0=>rfl
 |n+1=>by
  show qcd n (fun k=>f k+g k)+(f n+g n)=qcd n f+f n+(qcd n g+g n)
  rw [qfc f g n];omega
theorem sumR_zero:∀n,qcd n (fun _=>0)=0
 |0=>rfl
 |n+1=>by show qcd n (fun _=>0)+0=0;rw [sumR_zero n];rfl
theorem sumR_at (x:Int) {i:Nat}:∀n,qcd n (fun k=>if i=k then x else 0)=if i < n then x else 0
 |0=>rfl
 |n+1=>by
  show qcd n (fun k=>if i=k then x else 0)+(if i=n then x else 0)=_
  rw [sumR_at x n]
  by_cases c:i=n
  ·subst c;rw [if_neg (by omega),if_pos rfl,if_pos (by omega)];omega
  ·by_cases c2:i < n
   ·rw [if_pos c2,if_neg c,if_pos (by omega)];omega
   ·rw [if_neg c2,if_neg c,if_neg (by omega)];omega
def qcr (bs:List Ob) (k:Nat) (w:Str):Int:=((bs.filter (qe3 k)).map fun b=>gN b.R.f w).sum
theorem held_cons (b:Ob) (bs:List Ob) (k:Nat) (w:Str):qcr (b :: bs) k w=(if b.R.i=k then (if b.R.s=true then gN b.R.f w else 0) else 0)+qcr bs k w:=by
 unfold qcr
 rw [zY]
 by_cases c:b.R.i=k
 ·by_cases c2:b.R.s=true
  ·rw [if_pos (by unfold qe3 atH;rw [decide_eq_true c,c2];rfl),if_pos c,if_pos c2,zQ,List.sum_cons]
  ·rw [if_neg (by unfold qe3;rw [Bool.eq_false_iff.mpr c2,Bool.and_false];exact Bool.false_ne_true),if_pos c,if_neg c2];omega
 ·rw [if_neg (by unfold qe3 atH;rw [decide_eq_false c];exact Bool.false_ne_true),if_neg c];omega
theorem use_held {el:Nat→Nat} {n i:Nat} {r:Int} {w:Str}:∀{bs:List Ob},(∀b∈bs,b.R.i < n)→(((bs.filter (qba r true)).filter fun b=>decide (i∈qai el b.R.i)).map fun b=>gN b.R.f w).sum=qcd n fun k=>if i∈qai el k then qcr bs k w else 0
 | [],_=>by
  have:(fun k=>if i∈qai el k then qcr [] k w else 0)=fun _=>(0:Int):=funext fun k=>by split <;> rfl
  rw [this,sumR_zero];rfl
 |b :: bs,hb=>by
  have ih:=use_held (el:=el) (n:=n) (i:=i) (r:=r) (w:=w) (bs:=bs) fun x hx=>hb x (zD _ hx)
  have hi:=hb b (zH ..)
  have e:(fun k=>if i∈qai el k then qcr (b :: bs) k w else 0)=fun k=>(if b.R.i=k then (if i∈qai el b.R.i then (if b.R.s=true then gN b.R.f w else 0) else 0) else 0)+(if i∈qai el k then qcr bs k w else 0):=funext fun k=>by
   rw [held_cons]
   by_cases c:b.R.i=k
   ·subst c
    rw [if_pos rfl,if_pos rfl]
    split <;> omega
   ·rw [if_neg c,if_neg c]
    split <;> omega
  rw [e,qfc,sumR_at,if_pos hi,←ih]
  have es:qba r true b=b.R.s:=by unfold qba;rw [Bool.true_or];cases b.R.s <;> rfl
  rw [zY,es]
  by_cases c:b.R.s=true
  ·rw [if_pos c,if_pos c,zY]
   by_cases c2:i∈qai el b.R.i
   ·rw [if_pos (decide_eq_true c2),if_pos c2,zQ,List.sum_cons]
   ·rw [if_neg (by rw [decide_eq_false c2];exact Bool.false_ne_true),if_neg c2];omega
  ·rw [if_neg c,if_neg c]
   have:(if i∈qai el b.R.i then (0:Int) else 0)=0:=by split <;> rfl
   rw [this];omega
structure LvOk (S:Ts) (P:PL) (bs:List Ob) (qs cs ls:List Pq):Prop where
 n12:P.nm.length≤12
 ql:qs.length=P.nm.length
 cl:cs.length=P.nm.length
 ll:ls.length=P.nm.length
 sum:∀h j,h < P.nm.length→j < P.ws.length→qfd (elN P.es) qs P.nm.length h j≤atQ cs h j
 lf:∀k,k < P.nm.length→∀(j:Nat) (hj:j < P.ws.length),atQ ls k j=atQ qs k j - qcr bs k P.ws[j]
 nn:∀k j,0≤atQ ls k j
 fp:∀h,h < P.nm.length→∀e,S.at (nmF P h)=some e→∀(j:Nat) (hj:j < P.ws.length),gN e.x.fp P.ws[j]=atQ qs h j
 fc:∀h,h < P.nm.length→∀(j:Nat) (hj:j < P.ws.length),gN (fcOf S (nmF P h)) P.ws[j]=atQ cs h j
 il:∀b∈bs,b.R.i < P.nm.length
theorem LvOk.room {S:Ts} {P:PL} {bs:List Ob} {qs cs ls:List Pq} (v:LvOk S P bs qs cs ls) (low:Low (elN P.es) P.nm.length) {h i j:Nat} {r:Int} {f:Str→Option Int} (hn:h < P.nm.length) (hi:i∈qai (elN P.es) h) (hj:j < P.ws.length) (hf:gN f P.ws[j]≤atQ ls h j):0≤qbg S P (bs.filter (qba r true)) f i P.ws[j]:=by
 have hin:i < P.nm.length:=by have:=qdy low h hn i hi;omega
 unfold qbg
 rw [v.fc i hin j hj]
 have eu:gN (useF P (bs.filter (qba r true)) i) P.ws[j]=qcd P.nm.length fun k=>if i∈qai (elN P.es) k then qcr bs k P.ws[j] else 0:=by
  unfold useF qer
  rw [gN_sum,show gN noF P.ws[j]=0 from rfl,Int.zero_add,yN]
  exact use_held v.il
 rw [eu]
 have e2:qfd (elN P.es) qs P.nm.length i j=qcd P.nm.length (fun k=>(if i∈qai (elN P.es) k then qcr bs k P.ws[j] else 0)+(if i∈qai (elN P.es) k then atQ ls k j else 0)):=by
  unfold qfd
  refine qdk fun k hk=>?_
  have:=v.lf k hk j hj
  split <;> omega
 rw [qfc] at e2
 have h3:=v.sum i j hin hj
 have h4:atQ ls h j≤qcd P.nm.length (fun k=>if i∈qai (elN P.es) k then atQ ls k j else 0):=by
  have h5:=sumR_le (n:=P.nm.length) (f:=fun k=>if h=k then atQ ls h j else 0) (g:=fun k=>if i∈qai (elN P.es) k then atQ ls k j else 0) fun k _=>by
   by_cases c:h=k
   ·subst c;rw [if_pos rfl,if_pos hi];exact Int.le_refl _
   ·rw [if_neg c]
    split
    ·exact v.nn k j
    ·exact Int.le_refl _
  rw [sumR_at,if_pos hn] at h5
  exact h5
 omega
theorem LvOk.fits {S:Ts} {P:PL} {bs:List Ob} {qs cs ls:List Pq} (v:LvOk S P bs qs cs ls) {d:Ad} {H:Hp} (hB:∀b∈bs,ObAt d H P b) {h:Nat} {f:Str→Option Int} (hn:h < P.nm.length) (hI:InW P.ws f) (hf:∀(j:Nat) (hj:j < P.ws.length),gN f P.ws[j]≤atQ ls h j):Fits S P bs h f:=fun e he y hv=>by
 obtain⟨h1,h2⟩:=hv
 have hy:=qdi (sumO_sup (bs:=bs.filter (qe3 h)) fun b hb=>hB b (yE.mp hb).1) hI y h1
 obtain⟨j,hj,rfl⟩:=zM.mp hy
 rw [v.fp h hn e he j hj,gN_add] at h2
 have e3:gN (qer ((bs.filter (qe3 h)).map obPt)) P.ws[j]=qcr bs h P.ws[j]:=by
  unfold qer qcr
  rw [gN_sum,show gN noF P.ws[j]=0 from rfl,Int.zero_add,yN];rfl
 rw [e3] at h2
 have h3:=v.lf h hn j hj
 have h4:=hf j hj
 omega
theorem held_snoc (bs:List Ob) (b:Ob) (k:Nat) (w:Str):qcr (bs++ [b]) k w=qcr bs k w+(if b.R.i=k then (if b.R.s=true then gN b.R.f w else 0) else 0):=by
 have e:qcr (bs++ [b]) k w=qcr bs k w+qcr [b] k w:=by
  unfold qcr
  rw [zW,zE,List.sum_append]
 rw [e,held_cons]
 show _+(_+0)=_
 omega
theorem pw_rising:∀{p:Str} {l:List Str},(p :: l).Pairwise leS→PyProof.Rows.risingS p l=true
 |p, [],_=>rfl
 |p,x :: r,h=>by
  have h1:=List.rel_of_pairwise_cons h (zH ..)
  unfold PyProof.Rows.risingS
  rw [Bool.and_eq_true,Bool.not_eq_true']
  exact⟨h1,pw_rising (List.Pairwise.of_cons h)⟩
theorem ins_ex (x:Str):∀{l:List Str},l.Pairwise leS→∃l':List Str,l'.Perm (x :: l)∧l'.Pairwise leS
 | [],_=>⟨[x],List.Perm.refl _,List.pairwise_singleton _ _⟩
 |y :: r,h=>by
  by_cases c:leS x y
  ·refine⟨x :: y :: r,List.Perm.refl _,List.pairwise_cons.mpr ⟨fun z hz=>?_,h⟩⟩
   rcases zK.mp hz with rfl|hz
   ·exact c
   ·exact leS_trans c (List.rel_of_pairwise_cons h hz)
  ·have c':leS y x:=qcx.mpr ((List.le_total _ _).resolve_left fun z=>c (qcx.mpr z))
   obtain⟨l',hp,hl⟩:=ins_ex x (List.Pairwise.of_cons h)
   refine⟨y :: l',(hp.cons y).trans (List.Perm.swap x y r),List.pairwise_cons.mpr ⟨fun z hz=>?_,hl⟩⟩
   rcases zK.mp (hp.mem_iff.mp hz) with rfl|hz
   ·exact c'
   ·exact List.rel_of_pairwise_cons h hz
theorem sort_ex:∀ss:List Str,∃ss':List Str,ss'.Perm ss∧PyProof.Rows.sortedS ss'=true:=fun ss=>by
 have:∃ss':List Str,ss'.Perm ss∧ss'.Pairwise leS:=by
  induction ss with
  |nil=>exact⟨[],List.Perm.refl _,List.Pairwise.nil⟩
  |cons x r ih=>
   obtain⟨r',hp,hr⟩:=ih
   obtain⟨l',hp',hl⟩:=ins_ex x hr
   exact⟨l',hp'.trans (hp.cons x),hl⟩
 obtain⟨l,hp,hl⟩:=this
 refine⟨l,hp,?_⟩
 cases l with
 |nil=>rfl
 |cons x r=>exact pw_rising hl
def PsOk (qs:List Pq):Prop:=∀q∈qs,∀x∈q.2,PpOk x
theorem PpOk.nb {p:Int} (h:PpOk p):p.natAbs < 2^600:=Nat.lt_of_le_of_lt (show p.natAbs≤5*10^28 by have:=h.lo;have:=h.hi;omega) (by decide)
def sp_promises (K:Frag) (d:Ad):Sp:=fun vs H Q _=>∃(a:Addr) (ns:List Int) (nh kd:Nat),vs=[.ref a,.int (nh:Int),.int (kd:Int)]∧SqL K H a (ns.map V.int)∧ns.length≤63∧1≤nh∧nh≤6∧1≤kd∧kd≤3∧
 ∀(l:Addr) (qs:List Pq) H',qaq H H'→H' l=some (.lst (qsV qs))→qs.length=nh→(∀q∈qs,H' q.1=some (.lst (q.2.map V.int))∧q.2.length=kd)→PsOk qs→Q (.ref l) H'
include T in
theorem ok_promises:FnOk P w K mg base CX0 3 d.f_promises d.fd_promises ["_law_script","_law_houses","_law_kinds"] (sp_promises K d):=by
 refine T.F_promises.ok sc_promises (fun vs H Q E h=>?_) (fun cdv A outer s H vs Q E hr h=>?_)
 ·obtain⟨a,ns,nh,kd,rfl,_⟩:=h;rfl
 obtain⟨a,ns,nh,kd,rfl,hS,h63,n1,n6,k1,k3,q⟩:=h
 refine⟨_,(qa2 (qag (i:=3) sc_promises.nd rfl (Or.inl rfl) (qb4 qam (qc3 (qa0 qa8 (qa0 qa8 (qa0 qa8 (qa0 (qak op_pow qa8 qa8) qa1))))) (qaa ((ok_mix T).mono (by decide)) hr rfl T.m_mix T.F_mix.kp T.b_mix .nil qaf (qa0 (qaa ((ok_cell T).mono (by decide)) hr rfl T.m_cell T.F_cell.kp T.b_cell .nil qaf (qa0 (pv 0) (qa0 qa8 qa1))) (qa0 qa8 (qa0 qa8 qa1)))) (fun _ _=>rfl)))
  (qa2 (qag (i:=4) sc_promises.nd rfl (Or.inl rfl) (qc3 qa1))
  (qa2 (qbf PassesOwn.never rfl (qb7 rfl T.z_range (qa0 (pv 1) qa1)) (qav (i:=5) sc_promises.nd rfl (Or.inl rfl)) (qa2 (qag (i:=6) sc_promises.nd rfl (Or.inr rfl) (qaa ((ok_cell T).mono (by decide)) hr rfl T.m_cell T.F_cell.kp T.b_cell .nil qaf (qa0 (pv 0) (qa0 (qak qaz qa8 (pv 5)) qa1))))
  (qa2 (qag (i:=7) sc_promises.nd rfl (Or.inl rfl) (qaa ((ok_parts T).mono (by decide)) hr rfl T.m_parts T.F_parts.kp T.b_parts .nil qaf (qa0 (pv 6) (qa0 (pv 2) (qa0 (pv 3) qa1)))))
  (qa4 (qas (qeb PySem.F.plainAttrs_list PySem.F.slot_list_append PySem.F.type_list_append qb8 (pv 4) (qa0 (qbt (caps:=[6]) (cn:=["_law_cell_here"]) (qbc rfl rfl (by rfl) (by rfl) rfl ⟨rfl,trivial⟩ (by rfl) rfl ⟨⟨rfl,rfl,rfl,rfl,_,rfl⟩,trivial⟩ (by decide)) rfl (qb6 (pv 7)) (fun _ _ _ _=>qd3) (fun _ _ _ _=>(qak qbh (pv 0) (qad (qel rfl) rfl T.z_min PyProof.Rows.boot_min (qa0 qa8 (qa0 (qaa ((ok_mix T).mono (by decide)) hr rfl T.m_mix T.F_mix.kp T.b_mix .nil qaf (qa0 (pv 1) (qa0 qa8 (qa0 qa8 qa1)))) qa1)))))) qa1)))))))
  (qa4 (qae (pv 4)))))),?_⟩
 walk_at "d"
 try dsimp only [cxC]
 refine qac (σ:=[some (.ref a),some (.int (nh:Int)),some (.int (kd:Int)),none,none,none,none,none]) rfl ?_
 have en:((nh:Nat):Int).toNat=nh:=by omega
 generalize hni:((nh:Nat):Int)=ni at*
 generalize hki:((kd:Nat):Int)=ki at*
 have ni0:0≤ni:=by omega
 have ni1:ni≤6:=by omega
 generalize hp28:(10:Int)^Int.toNat 28=c28
 left
 rename_i pm hpm
 have e28:(10:Int)^Int.toNat 28=10^28:=rfl
 have s1:=qab hpm (.lst [.int 1,.int 1,.int 1000000007,.int (10^Int.toNat 28)])
 have e1:upd H pm (.lst [.int 1,.int 1,.int 1000000007,.int (10^Int.toNat 28)]) pm=some (.lst [.int 1,.int 1,.int 1000000007,.int (10^Int.toNat 28)]):=qa3
 generalize upd H pm (.lst [.int 1,.int 1,.int 1000000007,.int (10^Int.toNat 28)])=H1 at*
 refine⟨a,ns,9,rfl,s1.seq hS,by decide,by decide,h63,fun c9=>?_⟩
 left
 refine qcf (by decide) (by decide) (by decide) (by decide) fun r r0 r1=>?_
 refine r_menu (xs:=[1,1,1000000007,10^Int.toNat 28]) (SqL.of e1) r0 r1 fun sc hm=>?_
 have hsc:Sc sc:=by
  simp only [zK,yH,or_false] at hm
  rw [e28] at hm
  exact⟨by omega,by omega⟩
 clear hm r0 r1 e1 hp28 e28
 left
 rename_i l hl
 have s2:=s1.trans (qab hl (.lst []))
 have e2:upd H1 l (.lst []) l=some (.lst (qsV [])):=qa3
 have hl0:=s1.free hl
 generalize upd H1 l (.lst [])=H2 at*
 rw [en]
 refine qc4 (fun i σ H'=>∃(qs:List Pq) (w1 w2 w3:Option V),σ=[some (V.ref a),some (V.int ni),some (V.int ki),some (V.int sc),some (V.ref l),w1,w2,w3]∧qaq H H'∧H' l=some (.lst (qsV qs))∧qs.length=i∧(∀q∈qs,H' q.1=some (.lst (q.2.map V.int))∧q.2.length=kd∧q.1≠l)∧PsOk qs)
  ⟨[],_,_,_,rfl,s2,e2,rfl,fun q h=>by simp at h,fun q h=>by simp at h⟩ ?_ ?_
 ·rintro i σ H' hi ⟨qs,w1,w2,w3,rfl,sm,el,hql,hq,ho⟩
  rw [Int.zero_add]
  clear s1 s2 e2
  have zq:(qsV qs).length < sizeLine:=by unfold qsV;rw [zB];show _ < 16777216;omega
  left
  refine⟨a,ns,10+((i:Nat):Int),rfl,sm.seq hS,by omega,by omega,h63,fun ci=>?_⟩
  left
  refine⟨ci,sc,kd,by rw [hki],k1,k3,hsc,fun lp ps H3 s3 hlp elp hpl hpo=>?_⟩
  have el3:=s3 _ _ el
  left
  intro C s0 H0 fp acc hacc
  refine c_by ps.length (fun i H'=>∃us:List Int,H'=upd H3 acc (.lst (us.map V.int))∧us.length=i∧∀u∈us,PpOk u) ⟨[],rfl,rfl,fun u h=>by simp at h⟩ ?_ ?_ ?_ ?_
  ·rintro i H' hi ⟨us,rfl,_⟩
   exact⟨_,.int ps[i],SqL.of (qa9 elp hacc),by rw [zC,zA hi];rfl⟩
  ·rintro H' ⟨us,rfl,_⟩
   exact⟨_,SqL.of (qa9 elp hacc),by rw [zB];exact Nat.le_refl _⟩
  ·rintro j H' v H'' hj ⟨us,rfl,hul,huo⟩ ⟨rfl,hy⟩
   have hv:=hy _ (SqL.of (qa9 elp hacc))
   rw [zC,zA hj] at hv
   cases hv
   have ok:=hpo _ (zL hj)
   generalize ps[j]=p at*
   have pb:=ok.nb
   have zu:(us.map V.int).length < sizeLine:=by rw [zB];show _ < 16777216;omega
   left
   refine qcf (by decide) (by decide) (by decide) (by decide) fun r3 d0 d1=>?_
   left
   have m0:(if r3 < 1 then r3 else (1:Int))=0∨(if r3 < 1 then r3 else (1:Int))=1:=by split <;> omega
   have m1:(if r3 < 1 then r3 else (1:Int)).natAbs < 2^600:=Nat.lt_of_le_of_lt (show _≤5 by split <;> omega) (by decide)
   generalize (if r3 < 1 then r3 else (1:Int))=z at*
   left
   refine⟨us++ [p*z],by rw [qb5,zE];rfl,by rw [zF,hul];rfl,fun u h=>?_⟩
   rcases zU.mp h with h|h
   ·exact huo u h
   ·rw [zI.mp h]
    rcases m0 with e|e
    ·rw [e,Int.mul_zero];exact⟨by decide,by decide⟩
    ·rw [e,Int.mul_one];exact ok
  rintro H4 ⟨us,rfl,hul,huo⟩
  have na:acc≠l:=(qa5 el3 hacc).symm
  have s4:=(sm.trans s3).trans (qab hacc (.lst (us.map V.int)))
  have el4:=qa9 (o':=.lst (us.map V.int)) el3 hacc
  have ea:upd H3 acc (.lst (us.map V.int)) acc=some (.lst (us.map V.int)):=qa3
  have hq4:∀q∈qs,upd H3 acc (.lst (us.map V.int)) q.1=some (.lst (q.2.map V.int)):=fun q h=>qa9 (s3 _ _ (hq q h).1) hacc
  generalize upd H3 acc (.lst (us.map V.int))=H5 at*
  left
  refine⟨qs++ [(acc,us)],_,_,_,rfl,qbe s4 hl0,by rw [qa3];unfold qsV;rw [zE];rfl,by rw [zF,hql];rfl,fun q h=>?_,fun q h=>?_⟩
  ·rcases zU.mp h with h|h
   ·exact⟨by rw [qa6 (hq q h).2.2];exact hq4 q h,(hq q h).2⟩
   ·rw [zI.mp h]
    exact⟨by rw [qa6 na];exact ea,by show us.length=kd;omega,na⟩
  ·rcases zU.mp h with h|h
   ·exact ho q h
   ·rw [zI.mp h];exact huo
 ·rintro σ H' ⟨qs,w1,w2,w3,rfl,sm,el,hql,hq,ho⟩
  left
  exact q l qs H' sm el hql (fun q h=>⟨(hq q h).1,(hq q h).2.1⟩) ho
theorem qe4 (el:Nat→Nat) (qs:List Pq) (h j:Nat):∀n,(((List.range n).filter fun k=>decide (h∈qai el k)).map fun k=>atQ qs k j).sum=qfd el qs n h j
 |0=>rfl
 |n+1=>by
  have ih:=qe4 el qs h j n
  rw [yQ,zW,zE,List.sum_append,ih]
  show qfd el qs n h j+_=qfd el qs n h j+(if h∈qai el n then atQ qs n j else 0)
  congr 1
  by_cases c:h∈qai el n
  ·rw [if_pos c,zY,if_pos (decide_eq_true c),yL,zQ,List.map_nil,List.sum_cons,List.sum_nil,Int.add_zero]
  ·rw [if_neg c,zY,if_neg (by rw [decide_eq_false c];exact Bool.false_ne_true),yL];rfl
theorem atQ_ok {qs:List Pq} (h:PsOk qs) (k j:Nat):PpOk (atQ qs k j):=by
 unfold atQ
 cases e:qs[k]? with
 |none=>exact(⟨by decide,by decide⟩:PpOk 0)
 |some q=>
  show PpOk ((q.2[j]?).getD 0)
  cases e2:q.2[j]? with
  |none=>exact(⟨by decide,by decide⟩:PpOk 0)
  |some x=>exact h q (zG e) x (zG e2)
theorem sumQ_bd {el:Nat→Nat} {qs:List Pq} (h:PsOk qs) (i j:Nat):∀n:Nat,0≤qfd el qs n i j∧qfd el qs n i j≤n*(5*10^28)
 |0=>⟨Int.le_refl _,Int.le_refl _⟩
 |n+1=>by
  obtain⟨i1,i2⟩:=sumQ_bd (el:=el) h i j n
  have hp:=atQ_ok h n j
  have h1:=hp.lo
  have h2:=hp.hi
  have e:(((n+1:Nat)):Int)=(n:Int)+1:=by omega
  rw [e]
  show 0≤qfd el qs n i j+(if i∈qai el n then atQ qs n j else 0)∧qfd el qs n i j+(if i∈qai el n then atQ qs n j else 0)≤_
  split <;> exact⟨by omega,by omega⟩
def sp_tree (K:Frag) (d:Ad):Sp:=fun vs H Q _=>∃(ln lw le lq lc:Addr) (qs cs:List Pq) (nm ws:List Str) (es:List Nat),vs=[.ref ln,.ref lw,.ref le,.ref lq,.ref lc]∧H ln=some (.lst (nm.map V.str))∧H lw=some (.lst (ws.map V.str))∧H le=some (.lst ((0 :: es).map iV))∧H lq=some (.lst (qsV qs))∧qs.length=es.length+1∧CsAt H ws.length qs∧H lc=some (.lst (qsV cs))∧cs.length=es.length+1∧CsAt H ws.length cs∧
 Nms nm (es.length+1)∧Nms ws ws.length∧1≤ws.length∧ws.length≤3∧es.length≤11∧(∀(k e:Nat),es[k]?=some e→e≤k∧e≤10)∧(∀h j,h < es.length+1→j < ws.length→qfd (elN es) qs (es.length+1) h j≤atQ cs h j)∧
 ∀(t:Addr) (S:Ts) (P:PL) (wt:Nat→Int) (H':Hp),qaq H H'→P.nm=nm→P.ws=ws→P.es=es→P.tp=csT ws qs→P.tc=csT ws cs→PlF P→qd2 d H' t S→TInv S P nm.length wt→Q (.ref t) H'
include T in
theorem ok_tree:FnOk P w K mg base CX0 20 d.f_tree d.fd_tree ["_law_names_here","_law_wares","_law_elders_here","_law_promises_here","_law_caps"] (sp_tree K d):=by
 refine T.F_tree.ok sc_tree (fun vs H Q E h=>?_) (fun cdv A outer s H vs Q E hr h=>?_)
 ·obtain⟨ln,lw,le,lq,lc,qs,cs,nm,ws,es,rfl,_⟩:=h;rfl
 obtain⟨ln,lw,le,lq,lc,qs,cs,nm,ws,es,rfl,hN,hW,hE,hQ,hql,hq9,hC,hcl,h9,hn,hw,w1,w3,h11,lo,hsum,q⟩:=h
 refine⟨_,(qa2 (qag (i:=5) sc_tree.nd rfl (Or.inl rfl) (pe_makeX (W:=fun _ _ _ _=>False) T.MK_Tree ((ok_Tree_init T).mono (by decide)) hr rfl T.m_Tree T.b1_Tree_init T.rd_Tree_init qda (qa0 (qbw qf7 rfl T.z_list PyProof.Rows.boot_list (qa0 (pv 1) qa1)) (qa0 (qb4 qam (pv 0) qa8 (fun _ _=>rfl)) (qa0 (qaa ((ok_told T).mono (by decide)) hr rfl T.m_told T.F_told.kp T.b_told .nil qaf (qa0 (pv 1) (qa0 (qb4 qam (pv 3) qa8 (fun _ _=>rfl)) qa1))) (qa0 (qaa ((ok_told T).mono (by decide)) hr rfl T.m_told T.F_told.kp T.b_told .nil qaf (qa0 (pv 1) (qa0 (qb4 qam (pv 4) qa8 (fun _ _=>rfl)) qa1))) qa1))))))
  (qa2 (qbf PassesOwn.never rfl (pi_range2 rfl T.z_range (qa0 qa8 (qa0 (qad qau rfl T.z_len PySem.boot_len (qa0 (pv 0) qa1)) qa1))) (qav (i:=6) sc_tree.nd rfl (Or.inl rfl)) (qa4 (qas (qap (W:=fun _ _ _ _=>False) (pv 5) T.CL_Tree T.ME_Tree_found ((ok_Tree_found T).mono (by decide)) hr T.b_Tree_found .nil qda (qa0 (qb4 qam (pv 0) (pv 6) (fun _ _=>rfl)) (qa0 (qb4 qam (pv 0) (qb4 qam (pv 2) (pv 6) (fun _ _=>rfl)) (fun _ _=>rfl)) (qa0 (qaa ((ok_told T).mono (by decide)) hr rfl T.m_told T.F_told.kp T.b_told .nil qaf (qa0 (pv 1) (qa0 (qb4 qam (pv 3) (pv 6) (fun _ _=>rfl)) qa1))) (qa0 (qaa ((ok_told T).mono (by decide)) hr rfl T.m_told T.F_told.kp T.b_told .nil qaf (qa0 (pv 1) (qa0 (qb4 qam (pv 4) (pv 6) (fun _ _=>rfl)) qa1))) (qa0 (qak qaz qa8 (pv 6)) qa1)))))))))
  (qa4 (qae (pv 5))))),?_⟩
 walk_at "d"
 try dsimp only [cxC]
 refine qac (σ:=[some (.ref ln),some (.ref lw),some (.ref le),some (.ref lq),some (.ref lc),none,none]) rfl ?_
 have ct:=T.CL_Tree
 have pf:PlF (mkP ws nm es (csT ws qs) cs):=mkP_ok (qs:=qs) hcl h9 hw w1 w3 hn h11 lo (by unfold csT;rw [yN];rfl) hql (fun q h=>(hq9 q h).2) hsum
 have hlen:=hn.len
 have etp:(mkP ws nm es (csT ws qs) cs).tp=csT ws qs:=rfl
 have etc:(mkP ws nm es (csT ws qs) cs).tc=csT ws cs:=rfl
 have ews:(mkP ws nm es (csT ws qs) cs).ws=ws:=rfl
 have enm:(mkP ws nm es (csT ws qs) cs).nm=nm:=rfl
 have ees:(mkP ws nm es (csT ws qs) cs).es=es:=rfl
 generalize mkP ws nm es (csT ws qs) cs=P at*
 subst ews enm ees
 have nlq:P.nm.length=qs.length:=by have:=pf.nl;omega
 have tqE:∀{k:Nat} {tp:Pt},k < P.nm.length→P.tp[k]?=some tp→tp=⟨0,tdK (P.ws.zip (csD qs k)),tdF (P.ws.zip (csD qs k))⟩:=fun hk h=>Option.some.inj (h.symm.trans (by rw [etp];exact csT_at (by omega)))
 have nlc:P.nm.length=cs.length:=by have:=pf.nl;omega
 have tcE:∀k,k < P.nm.length→tfF P.tc k=tdF (P.ws.zip (csD cs k)):=fun k hk=>by unfold tfF;rw [etc,csT_at (by omega)]
 have tcF:∀k,k < P.nm.length→Fin P.ws (tdF (P.ws.zip (csD cs k))):=fun k hk=>(qfb (h9.at (by omega)).2.1.symm hw.nd fun p hp=>((h9.at (by omega)).2.2.1 p hp).2).fin (by decide)
 have tcL:∀k,k < P.nm.length→(tdK (P.ws.zip (csD cs k))).length≤1000:=fun k hk=>by
  have:=td_len (P.ws.zip (csD cs k))
  rw [List.length_zip] at this
  omega
 have nl:=pf.nl
 have n12:=pf.n12
 have gt:GoodT P.ws:=⟨pf.w1,by have:=pf.w3;omega,pf.wg,pf.wn⟩
 have hz0:P.nm[0]?=some (nmF P 0):=by rw [qdt (by omega)];exact zA (by omega)
 have gz:qd8 (nmF P 0)=true:=pf.ng _ (zG hz0)
 have xn0:atI (P.nm.map V.str) 0=some (.str (nmF P 0)):=qb3 (j:=0) (by rw [zC,hz0];rfl)
 obtain⟨tp,tp1,tp2,tp3,tp4,tp5⟩:=qe2 pf (k:=0) (by omega)
 have etq:=tqE (by omega) tp1
 obtain⟨hq0,hq0l,_,xq0⟩:=hq9.at (k:=0) (by omega)
 have xq0:atI (qsV qs) 0=some (.ref (csA qs 0)):=xq0
 obtain⟨h90,h90l,_,xc0⟩:=h9.at (k:=0) (by omega)
 have xc0:atI (qsV cs) 0=some (.ref (csA cs 0)):=xc0
 have lp1:tp.k.length≤1000:=by have:=tp4.le (fun z hz=>by cases e:tp.f z with|none=>exact absurd e hz|some n=>exact(tp5 z n e).1);omega
 subst etq
 have tp3:tfF P.tp 0=tdF (P.ws.zip (csD qs 0)):=tp3
 have tp4:AD (tdK (P.ws.zip (csD qs 0))) (tdF (P.ws.zip (csD qs 0))):=tp4
 have ole:=own_le pf (k:=0) (by omega)
 rw [tcE 0 (by omega)] at ole
 left
 refine r_listL (SqL.of hW) fun h0 hh0=>?_
 have s3:=qab hh0 (.lst (P.ws.map V.str))
 have e0:upd H h0 (.lst (P.ws.map V.str)) h0=some (.lst (P.ws.map V.str)):=qa3
 generalize upd H h0 (.lst (P.ws.map V.str))=H3 at*
 have s03:=s3
 left
 refine qbn (SqL.of (s03 _ _ hN)) xn0 ?_
 left
 refine qbn (SqL.of (s03 _ _ hQ)) xq0 ?_
 left
 refine⟨lw,csA qs 0,P.ws,csD qs 0,rfl,SqL.of (s03 _ _ hW),SqL.of (s03 _ _ hq0),hq0l.symm,by omega,fun h1 H3' s3' hh1 e1=>?_⟩
 have s03':=s03.trans s3'
 have e03:=s3' _ _ e0
 left
 refine qbn (SqL.of (s03' _ _ hC)) xc0 ?_
 left
 refine⟨lw,csA cs 0,P.ws,csD cs 0,rfl,SqL.of (s03' _ _ hW),SqL.of (s03' _ _ h90),h90l.symm,by omega,fun h2 H4 s4 hh2 e2=>?_⟩
 have s04:=s03'.trans s4
 have e1:=s4 _ _ e1
 have e04:=s4 _ _ e03
 left
 intro x dx hx hdx ne
 have sN:∀b u,H4 b=some u→upd (upd H4 dx (.own x)) x (.ins d.c_Tree dx []) b=some u:=fun b u e=>by rw [qa6 (qa5 e hx),qa6 (qa5 e hdx)];exact e
 refine⟨x,dx,h0,h1,h2,nmF P 0,P.ws,tdK (P.ws.zip (csD qs 0)),tdK (P.ws.zip (csD cs 0)),tdF (P.ws.zip (csD qs 0)),tdF (P.ws.zip (csD cs 0)),1,rfl,qa3,sN _ _ e04,gt,gz,sN _ _ e1,tp4,lp1,sN _ _ e2,qfa _,tcL 0 (by omega),tp5,tcF 0 (by omega),by decide,by decide,fun y=>by rw [←tp3];exact ole y,fun S e H5 sb hTr hs' f1 f2 f3 f4 hl en' ee ew' efp efc hpm hso=>⟨rfl,?_⟩⟩
 have s5:qaq H4 H5:=fun b u e=>sb b u (qa5 e hx) (sN b u e)
 have fr:H4 S.hs=none:=by
  cases r:H4 S.hs with
  |none=>rfl
  |some u=>rw [sN _ _ r] at hs';cases hs'
 have s05:=s04.trans s5
 have hs2:H S.hs=none:=s04.free fr
 have tI:TInv S P (1+0) (fun k=>1+(k:Int)):=⟨pl_one pf hl en' ee,hpm,hso,fun k e' he=>by
  rw [hl] at he
  have hk:=(List.getElem?_eq_some_iff.mp he).1
  have e0:k=0:=by rw [yC] at hk;omega
  subst e0
  have:e'=e:=by simpa using he.symm
  subst this
  exact⟨by rw [tp3];exact efp,by rw [tcE 0 (by omega)];exact efc,by rw [ew'];rfl⟩⟩
 have hnl2:(P.nm.map V.str).length=P.nm.length:=zB _
 have hrn1:((((P.nm.map V.str).length:Nat):Int) - 1).toNat=P.nm.length - 1:=by rw [hnl2];omega
 have en5:=s05 _ _ hN
 clear sN fr hs' sb f1 f2 f3 f4 hpm hso efp efc ew' ee hl en' s5 s4 s3 e0 e1 e2 e04 hx hdx ne hh0 hh2 xc0 tp4 tp5 tp1 tp2 tp3 lp1 ole gt xn0 gz hz0 xq0 s03 s03' s04 e03 hh1
 left
 unfold iRng2
 left
 refine⟨1,_,rfl,⟨by decide,by decide,by rw [hnl2];omega,by rw [hnl2];omega⟩,?_⟩
 rw [hrn1]
 refine qc4 (fun i σ H'=>∃(w:Option V) (S':Ts),σ=[some (V.ref ln),some (V.ref lw),some (V.ref le),some (V.ref lq),some (V.ref lc),some (V.ref x),w]∧H S'.hs=none∧qd2 d H' x S'∧TInv S' P (1+i) (fun k=>1+(k:Int))∧qaq H H') ⟨_,S,rfl,hs2,hTr,tI,s05⟩ ?_ ?_
 ·rintro i σ H' hi ⟨w,S',rfl,hs1,hT',hI',sm⟩
  clear hTr tI s05 hs2 en5
  have kn:1+i < P.nm.length:=by omega
  obtain⟨e',ae,een,hWf,hOw,hw50,h40,nk,line⟩:=hI'.ask pf (by omega) kn
  obtain⟨tp,tp1,tp2,tp3,tp4,tp5⟩:=qe2 pf kn
  have low:=pf.low P.nm.length (1+i) (by omega) kn
  have hb:i < P.es.length:=by omega
  have eb:elN P.es (1+i)=P.es[i]:=by rw [Nat.add_comm 1 i];exact elN_at hb
  have xe:atI ((0 :: P.es).map iV) (((1+i:Nat)):Int)=some (V.int ((elN P.es (1+i):Nat):Int)):=by rw [eb];exact qb3 (by rw [Nat.add_comm 1 i,zQ,List.getElem?_cons_succ,zC,zA hb];rfl)
  have xn2:atI (P.nm.map V.str) ((elN P.es (1+i):Nat):Int)=some (.str (nmF P (elN P.es (1+i)))):=by rw [qdt (by omega)];exact qb3 (by rw [zC,zA (by omega)];rfl)
  have etq:=tqE kn tp1
  obtain⟨hqk,hqkl,_,xq⟩:=hq9.at (k:=1+i) (by omega)
  obtain⟨h9k,h9kl,_,xc⟩:=h9.at (k:=1+i) (by omega)
  have xn:atI (P.nm.map V.str) (((1+i:Nat)):Int)=some (.str (nmF P (1+i))):=by rw [qdt kn];exact qb3 (by rw [zC,zA kn];rfl)
  have gzk:qd8 (nmF P (1+i))=true:=by rw [qdt kn];exact pf.ng _ (zL kn)
  have lp1:tp.k.length≤1000:=by have:=tp4.le (fun z hz=>by cases e:tp.f z with|none=>exact absurd e hz|some n=>exact(tp5 z n e).1);omega
  subst etq
  have tp3:tfF P.tp (1+i)=tdF (P.ws.zip (csD qs (1+i))):=tp3
  have tp4:AD (tdK (P.ws.zip (csD qs (1+i)))) (tdF (P.ws.zip (csD qs (1+i)))):=tp4
  have ole:=own_le pf kn
  rw [tcE _ kn] at ole
  have kw0:1≤1+(((1+i:Nat)):Int):=by omega
  have kw1:1+(((1+i:Nat)):Int)≤1000:=by omega
  rw [show (1:Int)+(i:Int)=(((1+i:Nat)):Int) by omega]
  generalize ((elN P.es (1+i):Nat):Int)=ej at xe xn2
  generalize hki:(((1+i:Nat)):Int)=ki at*
  have s0':=sm
  obtain⟨dx',ht'⟩:=id hT'.1
  clear hrn1 hnl2
  left
  refine qbn (SqL.of (s0' _ _ hN)) xn ?_
  left
  refine qbn (SqL.of (s0' _ _ hE)) xe ?_
  left
  refine qbn (SqL.of (s0' _ _ hN)) xn2 ?_
  left
  refine qbn (SqL.of (s0' _ _ hQ)) xq ?_
  left
  refine⟨lw,csA qs (1+i),P.ws,csD qs (1+i),rfl,SqL.of (s0' _ _ hW),SqL.of (s0' _ _ hqk),hqkl.symm,by omega,fun h1 H3 s3 hh1 e1=>?_⟩
  have s03:=s0'.trans s3
  have ht3:=s3 _ _ ht'
  left
  refine qbn (SqL.of (s03 _ _ hC)) xc ?_
  left
  refine⟨lw,csA cs (1+i),P.ws,csD cs (1+i),rfl,SqL.of (s03 _ _ hW),SqL.of (s03 _ _ h9k),h9kl.symm,by omega,fun h2 H4 s4' hh2 e2=>?_⟩
  have e1:=s4' _ _ e1
  have s4:=s3.trans s4'
  left
  refine⟨x,h1,h2,S',nmF P (1+i),.str (nmF P (elN P.es (1+i))),tdK (P.ws.zip (csD qs (1+i))),tdK (P.ws.zip (csD cs (1+i))),tdF (P.ws.zip (csD qs (1+i))),tdF (P.ws.zip (csD cs (1+i))),1+ki,rfl,hT'.same s4,gzk,nk,.inl ⟨_,rfl⟩,fun hn=>?_,fun e3 he3=>?_⟩
  ·rw [show who S' (.str (nmF P (elN P.es (1+i))))=some e' from ae] at hn;cases hn
  ·have e33:e'=e3:=Option.some.inj (ae.symm.trans he3)
   subst e33
   refine⟨hWf,hOw,hw50,e1,tp4,lp1,e2,qfa _,tcL _ kn,fin_perm tp5 hI'.wp,fin_perm (tcF _ kn) hI'.wp,kw0,kw1,h40,by rw [←tp3];exact line,fun y=>by rw [←tp3];exact ole y,fun e4 H5 sb f1 f2 f3 hT5 n1 n2 n3 n4 n5=>?_⟩
   left
   refine⟨_,{S' with hl:=S'.hl++ [e4]},rfl,hs1,hT5,(hI'.next pf (by omega) kn n1 (by rw [n2,een]) n3 (by rw [tp3];exact n4) (by rw [tcE _ kn];exact n5)).cast fun j hj=>?_,fun b u e=>sb b u (qa5 e hs1) ((sm.trans s4) b u e)⟩
   split
   ·rename_i ej;rw [ej,hki]
   ·rfl
 rintro σ H' ⟨w,S',rfl,hs1,hT',hI',sm⟩
 left
 exact q x S' P _ H' sm rfl rfl rfl etp etc pf hT' (by rw [show P.nm.length=1+(P.nm.length - 1) by omega];exact hI')
structure SqOk (x:Int):Prop where
 lo:0≤x
 hi:x≤6*(5*10^28)
structure MmOk (x:Int):Prop where
 lo:0≤x
 hi:x≤10^28
def sp_limits (K:Frag) (d:Ad):Sp:=fun vs H Q _=>∃(a le lq:Addr) (ns:List Int) (es:List Nat) (qs:List Pq) (kd:Nat),vs=[.ref a,.ref le,.ref lq,.int (kd:Int)]∧SqL K H a (ns.map V.int)∧ns.length≤63∧H le=some (.lst ((0 :: es).map iV))∧(∀(k e:Nat),es[k]?=some e→e≤k)∧es.length≤5∧H lq=some (.lst (qsV qs))∧qs.length=es.length+1∧(∀q∈qs,H q.1=some (.lst (q.2.map V.int))∧q.2.length=kd)∧PsOk qs∧1≤kd∧kd≤3∧
 ∀(l:Addr) (cs:List Pq) H',qaq H H'→H' l=some (.lst (qsV cs))→cs.length=es.length+1→CsAt H' kd cs→(∀h j,h < es.length+1→j < kd→qfd (elN es) qs (es.length+1) h j≤atQ cs h j)→Q (.ref l) H'
include T in
theorem ok_limits:FnOk P w K mg base CX0 3 d.f_limits d.fd_limits ["_law_script","_law_elders_here","_law_promises_here","_law_kinds"] (sp_limits K d):=by
 refine T.F_limits.ok sc_limits (fun vs H Q E h=>?_) (fun cdv A outer s H vs Q E hr h=>?_)
 ·obtain⟨a,le,lq,ns,es,qs,kd,rfl,_⟩:=h;rfl
 obtain⟨a,le,lq,ns,es,qs,kd,rfl,hS,h63,hE,lo,h5,hQ,hql,hq,ho,k1,k3,q⟩:=h
 refine⟨_,(qa2 (qag (i:=4) sc_limits.nd rfl (Or.inl rfl) (qc3 qa1))
  (qa2 (qbf PassesOwn.never rfl (qb7 rfl T.z_range (qa0 (qad qau rfl T.z_len PySem.boot_len (qa0 (pv 1) qa1)) qa1)) (qav (i:=5) sc_limits.nd rfl (Or.inr rfl)) (qa2 (qas (qeb PySem.F.plainAttrs_list PySem.F.slot_list_append PySem.F.type_list_append qb8 (pv 4) (qa0 (qc3 qa1) qa1)))
  (qa4 (qbf PassesOwn.never rfl (qb7 rfl T.z_range (qa0 (pv 3) qa1)) (qav (i:=6) sc_limits.nd rfl (Or.inr rfl)) (qa2 (qag (i:=7) sc_limits.nd rfl (Or.inl rfl) (qad (call_sumL rfl) rfl T.z_sum PyProof.Rows.boot_sum (qa0 (qbt (caps:=[1,2,5,6]) (cn:=["_law_elders_here","_law_promises_here","_law_at","_law_j"]) (qbc rfl rfl (by rfl) (by rfl) rfl ⟨rfl,⟨rfl,⟨rfl,⟨rfl,trivial⟩⟩⟩⟩ (by rfl) rfl ⟨⟨rfl,rfl,rfl,rfl,_,rfl⟩,⟨⟨rfl,rfl,rfl,rfl,_,rfl⟩,⟨⟨rfl,rfl,rfl,rfl,_,rfl⟩,⟨⟨rfl,rfl,rfl,rfl,_,rfl⟩,trivial⟩⟩⟩⟩ (by decide)) rfl (qb7 rfl T.z_range (qa0 (qad qau rfl T.z_len PySem.boot_len (qa0 (pv 1) qa1)) qa1)) (fun _ _ _ _=>(qds (qan op_in_seq (pv 3) (qaa ((ok_line T).mono (by decide)) hr rfl T.m_line T.F_line.kp T.b_line .nil qaf (qa0 (pv 1) (qa0 (pv 0) qa1))) (by rfl)))) (fun _ _ _ _=>(qb4 qam (qb4 qam (pv 2) (pv 0) (fun _ _=>rfl)) (pv 4) (fun _ _=>rfl)))) qa1)))
  (qa2 (qag (i:=8) sc_limits.nd rfl (Or.inl rfl) (qb4 qam (qc3 (qa0 qa8 (qa0 qa8 (qa0 qa8 (qa0 qa8 (qa0 qa8 (qa0 (qak op_pow qa8 qa8) qa1))))))) (qaa ((ok_mix T).mono (by decide)) hr rfl T.m_mix T.F_mix.kp T.b_mix .nil qaf (qa0 (qaa ((ok_cell T).mono (by decide)) hr rfl T.m_cell T.F_cell.kp T.b_cell .nil qaf (qa0 (pv 0) (qa0 qa8 qa1))) (qa0 (qak qaz (qak qbh qa8 (pv 5)) (pv 6)) (qa0 qa8 qa1)))) (fun _ _=>rfl)))
  (qa4 (qas (qeb PySem.F.plainAttrs_list PySem.F.slot_list_append PySem.F.type_list_append qb8 (qb4 qam (pv 4) (pv 5) (fun _ _=>rfl)) (qa0 (qak qaz (pv 7) (pv 8)) qa1))))))))))
  (qa4 (qae (pv 4))))),?_⟩
 walk_at "d"
 try dsimp only [cxC]
 refine qac (σ:=[some (.ref a),some (.ref le),some (.ref lq),some (.int (kd:Int)),none,none,none,none,none]) rfl ?_
 have ek:((kd:Nat):Int).toNat=kd:=by omega
 have hle:((0 :: es).map iV).length=es.length+1:=by rw [zB,zN]
 have xq:∀{k:Nat} (hk:k < qs.length),atI (qsV qs) ((k:Nat):Int)=some (.ref qs[k].1):=fun hk=>qb3 (by unfold qsV;rw [zC,zA hk];rfl)
 have xj:∀{k j:Nat} (hk:k < qs.length),j < kd→atI (qs[k].2.map V.int) ((j:Nat):Int)=some (.int (atQ qs k j)):=fun {k j} hk hj=>qb3 (by
  have hl:=(hq _ (zL hk)).2
  unfold atQ
  rw [zC,zA (by omega),zA hk]
  show _=some (V.int ((qs[k].2[j]?).getD 0))
  rw [zA (by omega)];rfl)
 generalize hki:((kd:Nat):Int)=ki at*
 have kb:1≤ki∧ki≤3:=by omega
 left
 rename_i lc hlc
 have s1:=qab hlc (.lst [])
 have e1:upd H lc (.lst []) lc=some (.lst (qsV [])):=qa3
 generalize upd H lc (.lst [])=H1 at*
 have hE1:=s1 _ _ hE
 left
 rw [hle,Int.toNat_natCast]
 refine qc4 (fun i σ H'=>∃(cs:List Pq) (w1 w2 w3 w4:Option V),σ=[some (V.ref a),some (V.ref le),some (V.ref lq),some (V.int ki),some (V.ref lc),w1,w2,w3,w4]∧qaq H H'∧QsAt H H' lc kd cs∧cs.length=i∧∀h j,h < i→j < kd→qfd (elN es) qs (es.length+1) h j≤atQ cs h j)
  ⟨[],_,_,_,_,rfl,s1,⟨e1,fun q hq=>by simp at hq,yM,fun q hq=>by simp at hq⟩,rfl,fun h j hh=>absurd hh (by omega)⟩ ?_ ?_
 ·rintro i σ H' hi ⟨cs,w1,w2,w3,w4,rfl,sm,hC,hcl,hle'⟩
  rw [Int.zero_add]
  have ib:((i:Nat):Int).natAbs < 2^600:=Nat.lt_of_le_of_lt (show ((i:Nat):Int).natAbs≤12 by omega) (by decide)
  generalize hii:((i:Nat):Int)=ii at*
  have i5:0≤ii∧ii≤5:=by omega
  have etop:=hC.top
  have zq:(qsV cs).length < sizeLine:=by unfold qsV;rw [zB];show _ < 16777216;omega
  clear s1 e1 hE1
  left
  rename_i pi hpi
  have npl:pi≠lc:=(qa5 etop hpi).symm
  have npq:∀q∈cs,q.1≠pi:=fun q h=>qa5 (hC.row q h).1 hpi
  have fpi:=sm.free hpi
  have e3lc:(upd (upd H' pi (.lst [])) lc (.lst (qsV cs++ [.ref pi]))) lc=some (.lst (qsV cs++ [.ref pi])):=qa3
  have e3pi:(upd (upd H' pi (.lst [])) lc (.lst (qsV cs++ [.ref pi]))) pi=some (.lst (([]:List Int).map V.int)):=by rw [qa6 npl];exact qa3
  have e3q:∀q∈cs,(upd (upd H' pi (.lst [])) lc (.lst (qsV cs++ [.ref pi]))) q.1=some (.lst (q.2.map V.int)):=fun q h=>by rw [qa6 (hC.row q h).2.2,qa6 (npq q h)];exact(hC.row q h).1
  have sm3:qaq H (upd (upd H' pi (.lst [])) lc (.lst (qsV cs++ [.ref pi]))):=qbe (qdb sm hpi) hlc
  generalize upd (upd H' pi (.lst [])) lc (.lst (qsV cs++ [.ref pi]))=H3 at*
  have xpi:atI (qsV cs++ [V.ref pi]) ii=some (.ref pi):=by
   rw [←hii]
   refine qb3 ?_
   rw [zO (by unfold qsV;rw [zB];omega)]
   unfold qsV
   rw [zB,hcl,Nat.sub_self]
   rfl
  have row1:=fun q h=>(hC.row q h).2
  have nd1:=hC.nd
  have val1:=hC.val
  clear hC etop zq sm hpi
  rw [ek]
  refine qc4 (fun j σ H4=>∃(cur:List Int) (w2 w3 w4:Option V),σ=[some (V.ref a),some (V.ref le),some (V.ref lq),some (V.int ki),some (V.ref lc),some (V.int ii),w2,w3,w4]∧qaq H H4∧H4 lc=some (.lst (qsV cs++ [.ref pi]))∧H4 pi=some (.lst (cur.map V.int))∧(∀q∈cs,H4 q.1=some (.lst (q.2.map V.int)))∧cur.length=j∧(∀x∈cur,0≤x∧x≤10^30)∧∀j',j' < j→qfd (elN es) qs (es.length+1) i j'≤(cur[j']?).getD 0)
   ⟨[],_,_,_,rfl,sm3,e3lc,e3pi,e3q,rfl,fun x h=>by simp at h,fun j' h=>absurd h (by omega)⟩ ?_ ?_
  ·rintro j σ H4 hj ⟨cur,w2,w3,w4,rfl,sm4,e4lc,e4pi,e4q,hcul,hcur,hcs⟩
   rw [Int.zero_add]
   have hE4:=sm4 _ _ hE
   have hQ4:=sm4 _ _ hQ
   have sqo:SqOk (qfd (elN es) qs (es.length+1) i j):=by
    obtain⟨b1,b2⟩:=sumQ_bd (el:=elN es) ho i j (es.length+1)
    have:(((es.length+1:Nat)):Int)≤6:=by omega
    exact⟨b1,by omega⟩
   have hf:=qe4 (elN es) qs i j (es.length+1)
   generalize hsq:qfd (elN es) qs (es.length+1) i j=sq at*
   have xjj:∀{k:Nat} (hk:k < qs.length),atI (qs[k].2.map V.int) ((j:Nat):Int)=some (.int (atQ qs k j)):=fun hk=>xj hk hj
   have j3:0≤((j:Nat):Int)∧((j:Nat):Int)≤2:=by omega
   generalize hjj:((j:Nat):Int)=jj at*
   have zc:(cur.map V.int).length < sizeLine:=by rw [zB];show _ < 16777216;omega
   clear e3lc e3pi e3q sm3
   left
   rw [hle]
   left
   intro C s0 H0 fp acc hacc
   refine c_by (es.length+1) (fun c H5=>qaq H4 H5∧H5 acc=some (.lst ((((List.range c).filter fun k=>decide (i∈qai (elN es) k)).map fun k=>atQ qs k j).map V.int))) ⟨qab hacc _,qa3⟩ ?_ ?_ ?_ ?_
   ·rintro c H5 hc _
    show c <(((es.length+1:Nat)):Int).toNat
    omega
   ·rintro H5 _
    show (((es.length+1:Nat)):Int).toNat≤es.length+1
    omega
   ·rintro c H5 v H6 hc ⟨s5,ea⟩ ⟨rfl,rfl⟩
    rw [Int.zero_add]
    have hcq:c < qs.length:=by omega
    have zl:((((List.range c).filter fun k=>decide (i∈qai (elN es) k)).map fun k=>atQ qs k j).map V.int).length < sizeLine:=by
     rw [zB,zB]
     have h1:=zP (fun k=>decide (i∈qai (elN es) k)) (List.range c)
     rw [yG] at h1
     show _ < 16777216
     omega
    left
    refine⟨le,es,c,rfl,s5 _ _ hE4,lo,by omega,by omega,fun l3 hl3=>?_⟩
    have s6:=qab hl3 (.lst ((qai (elN es) c).map iV))
    have e6:upd H6 l3 (.lst ((qai (elN es) c).map iV)) l3=some (.lst ((qai (elN es) c).map iV)):=qa3
    have ea6:=s6 _ _ ea
    generalize upd H6 l3 (.lst ((qai (elN es) c).map iV))=H7 at*
    have s57:=s5.trans s6
    left
    refine r_inN (SqL.of e6) hii ?_
    by_cases c2:i∈qai (elN es) c
    ·rw [decide_eq_true c2]
     left
     refine qbn (SqL.of (s57 _ _ hQ4)) (xq hcq) ?_
     left
     refine qbn (SqL.of ((sm4.trans s57) _ _ (hq _ (zL hcq)).1)) (xjj hcq) ?_
     left
     refine⟨qbe s57 hacc,?_⟩
     rw [qa3,yQ,zW,zY,if_pos (decide_eq_true c2),zE,zE];rfl
    ·rw [decide_eq_false c2]
     left
     refine⟨s57,?_⟩
     rw [ea6,yQ,zW,zY,if_neg (by rw [decide_eq_false c2];exact Bool.false_ne_true),yL,yD]
   rintro H5 ⟨s5,ea⟩
   left
   refine r_sumL (SqL.of ea) ?_
   rw [hf]
   have e5lc:=s5 _ _ e4lc
   have e5pi:=s5 _ _ e4pi
   have e5q:∀q∈cs,H5 q.1=some (.lst (q.2.map V.int)):=fun q h=>s5 _ _ (e4q q h)
   have sm5:=sm4.trans s5
   clear ea e4lc e4pi e4q sm4 s5 hE4 hQ4 hf
   left
   rename_i pm hpm
   have s6:=qab hpm (.lst [.int 0,.int 0,.int 0,.int 1,.int 2,.int (10^Int.toNat 28)])
   have e6:upd H5 pm (.lst [.int 0,.int 0,.int 0,.int 1,.int 2,.int (10^Int.toNat 28)]) pm=some (.lst [.int 0,.int 0,.int 0,.int 1,.int 2,.int (10^Int.toNat 28)]):=qa3
   generalize upd H5 pm (.lst [.int 0,.int 0,.int 0,.int 1,.int 2,.int (10^Int.toNat 28)])=H6 at*
   refine⟨a,ns,15,rfl,(sm5.trans s6).seq hS,by decide,by decide,h63,fun c15=>?_⟩
   left
   refine qcf (by omega) (by omega) (by decide) (by decide) fun r r0 r1=>?_
   refine r_menu (xs:=[0,0,0,1,2,10^Int.toNat 28]) (SqL.of e6) r0 r1 fun m hm=>?_
   have mb:MmOk m:=by
    have:m=0∨m=1∨m=2∨m=10^Int.toNat 28:=by simpa using hm
    have e28:(10:Int)^Int.toNat 28=10^28:=rfl
    rw [e28] at this
    exact⟨by omega,by omega⟩
   have sm6:=sm5.trans s6
   have e6lc:=s6 _ _ e5lc
   have e6pi:=s6 _ _ e5pi
   clear hm r0 r1 e6
   left
   refine qbn (SqL.of e6lc) xpi ?_
   left
   refine⟨cur++ [sq+m],_,_,_,rfl,qbe sm6 fpi,by rw [qa6 npl.symm];exact e6lc,by rw [qa3,zE];rfl,fun q h=>by rw [qa6 (npq q h)];exact s6 _ _ (e5q q h),by rw [zF,hcul];rfl,fun y hy=>?_,fun j' hj'=>?_⟩
   ·rcases zU.mp hy with h|h
    ·exact hcur y h
    ·rw [zI.mp h]
     have a1:=sqo.lo
     have a2:=sqo.hi
     have a3:=mb.lo
     have a4:=mb.hi
     exact⟨by omega,by omega⟩
   ·by_cases c:j'=j
    ·subst c
     rw [zO (by omega),hcul,Nat.sub_self]
     show _≤sq+m
     rw [hsq]
     have a3:=mb.lo
     omega
    ·rw [zT (by omega)]
     exact hcs j' (by omega)
  ·rintro σ H4 ⟨cur,w2,w3,w4,rfl,sm4,e4lc,e4pi,e4q,hcul,hcur,hcs⟩
   refine⟨cs++ [(pi,cur)],_,_,_,_,rfl,sm4,⟨by rw [e4lc];unfold qsV;rw [zE];rfl,fun q hq=>?_,?_,fun q hq=>?_⟩,by rw [zF,hcl];rfl,fun h j hh hj=>?_⟩
   ·rcases zU.mp hq with z|z
    ·exact⟨e4q q z,row1 q z⟩
    ·rw [zI.mp z];exact⟨e4pi,fpi,npl⟩
   ·rw [zE]
    exact List.nodup_append.mpr ⟨nd1,zX.mpr ⟨by simp,yM⟩,fun a ha b hb=>by
     have eb:b=pi:=by simpa using hb
     obtain⟨q,hq,rfl⟩:=zJ.mp ha
     rw [eb]
     exact npq q hq⟩
   ·rcases zU.mp hq with z|z
    ·exact val1 q z
    ·rw [zI.mp z];exact⟨hcul,hcur⟩
   ·by_cases c:h=i
    ·subst c
     rw [show atQ (cs++ [(pi,cur)]) h j=(cur[j]?).getD 0 by rw [←hcl];exact atQ_new]
     exact hcs j hj
    ·rw [atQ_old (by omega)]
     exact hle' h j (by omega) hj
 ·rintro σ H' ⟨cs,w1,w2,w3,w4,rfl,sm,hC,hcl,hle'⟩
  left
  exact q lc cs H' sm hC.top hcl (fun c hc=>⟨(hC.row c hc).1,hC.val c hc⟩) hle'
def Wi (us ps:List Int):Prop:=ps.length=us.length∧∀(j:Nat) (x:Int),ps[j]?=some x→∃u,us[j]?=some u∧0≤x∧x≤u
structure UOk (x:Int):Prop where
 lo:0≤x
 hi:x≤5*10^28
def sp_within (K:Frag) (d:Ad):Sp:=fun vs H Q _=>∃(c:Int) (ll:Addr) (us:List Int),vs=[.int c,.ref ll]∧H ll=some (.lst (us.map V.int))∧1≤us.length∧us.length≤3∧(∀u∈us,UOk u)∧
 ∀(l:Addr) (ps:List Int) H',qaq H H'→H' l=some (.lst (ps.map V.int))→Wi us ps→Q (.ref l) H'
include T in
theorem ok_within:FnOk P w K mg base CX0 2 d.f_within d.fd_within ["_law_cell_here","_law_left"] (sp_within K d):=by
 refine T.F_within.ok sc_within (fun vs H Q E h=>?_) (fun cdv A outer s H vs Q E hr h=>?_)
 ·obtain⟨c,ll,us,rfl,_⟩:=h;rfl
 obtain⟨c,ll,us,rfl,hL,u1,u3,hu,q⟩:=h
 refine⟨_,(qa2 (qag (i:=2) sc_within.nd rfl (Or.inr rfl) (qc3 qa1))
  (qa2 (qbf PassesOwn.never rfl (qb7 rfl T.z_range (qa0 (qad qau rfl T.z_len PySem.boot_len (qa0 (pv 1) qa1)) qa1)) (qav (i:=3) sc_within.nd rfl (Or.inl rfl)) (qa2 (qag (i:=4) sc_within.nd rfl (Or.inl rfl) (qc3 (qa0 (qb4 qam (pv 1) (pv 3) (fun _ _=>rfl)) (qa0 (qb4 qam (pv 1) (pv 3) (fun _ _=>rfl)) (qa0 (qak qbz (qaa ((ok_mix T).mono (by decide)) hr rfl T.m_mix T.F_mix.kp T.b_mix .nil qaf (qa0 (pv 0) (qa0 (qak qaz qa8 (pv 3)) (qa0 qa8 qa1)))) (qak qaz (qb4 qam (pv 1) (pv 3) (fun _ _=>rfl)) qa8)) (qa0 (qak qca (qb4 qam (pv 1) (pv 3) (fun _ _=>rfl)) qa8) qa1))))))
  (qa4 (qas (qeb PySem.F.plainAttrs_list PySem.F.slot_list_append PySem.F.type_list_append qb8 (pv 2) (qa0 (qb4 qam (pv 4) (qaa ((ok_mix T).mono (by decide)) hr rfl T.m_mix T.F_mix.kp T.b_mix .nil qaf (qa0 (pv 0) (qa0 (qak qaz qa8 (pv 3)) (qa0 qa8 qa1)))) (fun _ _=>rfl)) qa1))))))
  (qa2 (qcj (qbb (qan qdu (qaa ((ok_mix T).mono (by decide)) hr rfl T.m_mix T.F_mix.kp T.b_mix .nil qaf (qa0 (pv 0) (qa0 qa8 (qa0 qa8 qa1)))) qa8 (qat _)) (qa2 (qag (i:=5) sc_within.nd rfl (Or.inr rfl) (qaa ((ok_mix T).mono (by decide)) hr rfl T.m_mix T.F_mix.kp T.b_mix .nil qaf (qa0 (pv 0) (qa0 qa8 (qa0 (qad qau rfl T.z_len PySem.boot_len (qa0 (pv 1) qa1)) qa1)))))
  (qa4 (qag (i:=2) sc_within.nd rfl (Or.inr rfl) (qbt (caps:=[2,5]) (cn:=["_law_parts_here","_law_one"]) (qbc rfl rfl (by rfl) (by rfl) rfl ⟨rfl,⟨rfl,trivial⟩⟩ (by rfl) rfl ⟨⟨rfl,rfl,rfl,rfl,_,rfl⟩,⟨⟨rfl,rfl,rfl,rfl,_,rfl⟩,trivial⟩⟩ (by decide)) rfl (qb7 rfl T.z_range (qa0 (qad qau rfl T.z_len PySem.boot_len (qa0 (pv 1) qa1)) qa1)) (fun _ _ _ _=>qd3) (fun _ _ _ _=>(qak qbh (qb4 qam (pv 1) (pv 0) (fun _ _=>rfl)) (qbw call_intB rfl T.z_int PyProof.Rows.boot_int (qa0 (qdn qdu (pv 0) (pv 2) (qat _)) qa1)))))))) qal))
  (qa4 (qae (pv 2)))))),?_⟩
 walk_at "d"
 try dsimp only [cxC]
 refine qac (σ:=[some (.int c),some (.ref ll),none,none,none,none]) rfl ?_
 have lu:((us.map V.int).length:Int)=((us.length:Nat):Int):=by rw [zB]
 have en:((us.length:Nat):Int).toNat=us.length:=by omega
 generalize hni:((us.length:Nat):Int)=ni at*
 have n13:1≤ni∧ni≤3:=by omega
 left
 rename_i l hl
 have s1:=qab hl (.lst [])
 have e1:upd H l (.lst []) l=some (.lst (([]:List Int).map V.int)):=qa3
 generalize upd H l (.lst [])=H1 at*
 have hL1:=s1 _ _ hL
 left
 rw [lu]
 left
 rw [en]
 refine qc4 (fun i σ H'=>∃(ps:List Int) (w1 w2 w3:Option V),σ=[some (V.int c),some (V.ref ll),some (V.ref l),w1,w2,w3]∧qaq H H'∧H' l=some (.lst (ps.map V.int))∧ps.length=i∧∀(j:Nat) (x:Int),ps[j]?=some x→∃u,us[j]?=some u∧0≤x∧x≤u)
  ⟨[],_,_,_,rfl,s1,e1,rfl,fun j x h=>by simp at h⟩ ?_ ?_
 ·rintro i σ H' hi ⟨ps,w1,w2,w3,rfl,sm,el,hpl,hp⟩
  rw [Int.zero_add]
  have hL':=sm _ _ hL
  have hui:=zA hi
  have xi:atI (us.map V.int) ((i:Nat):Int)=some (.int us[i]):=qb3 (by rw [zC,hui];rfl)
  have ok:=hu _ (zL hi)
  generalize us[i]=u at*
  have ub:u.natAbs < 2^600:=Nat.lt_of_le_of_lt (show u.natAbs≤5*10^28 by have:=ok.lo;have:=ok.hi;omega) (by decide)
  have u0:=ok.lo
  have i3:0≤((i:Nat):Int)∧((i:Nat):Int)≤2:=by omega
  generalize hii:((i:Nat):Int)=ii at*
  have zl:(ps.map V.int).length < sizeLine:=by rw [zB];show _ < 16777216;omega
  clear s1 e1 hL1 ok
  left
  refine qbn (SqL.of hL') xi ?_
  left
  refine qbn (SqL.of hL') xi ?_
  left
  refine qcf (by omega) (by omega) (by decide) (by decide) fun r r0 r1=>?_
  left
  refine qbn (SqL.of hL') xi ?_
  left
  refine qbn (SqL.of hL') xi ?_
  left
  rename_i pm hpm
  refine qcf (by omega) (by omega) (by decide) (by decide) fun r2 a0 a1=>?_
  refine r_menu (xs:=[u,u,r%(u+1),u.fdiv 2]) (SqL.of qa3) a0 a1 fun x hx=>?_
  have hxu:0≤x∧x≤u:=by
   have ed:u.fdiv 2=u / 2:=Int.fdiv_eq_ediv_of_nonneg u (by decide)
   have m0:=Int.emod_nonneg r (show u+1≠0 by omega)
   have m1:=Int.emod_lt_of_pos r (show 0 < u+1 by omega)
   simp only [zK,yH,or_false] at hx
   rw [ed] at hx
   omega
  have s2:=qab hpm (.lst [.int u,.int u,.int (r%(u+1)),.int (u.fdiv 2)])
  generalize upd H' pm (.lst [.int u,.int u,.int (r%(u+1)),.int (u.fdiv 2)])=H2 at*
  have el2:=s2 _ _ el
  left
  refine⟨ps++ [x],_,_,_,rfl,qbe (sm.trans s2) hl,by rw [qa3,zE];rfl,by rw [zF,hpl];rfl,fun j y hy=>?_⟩
  by_cases cj:j < ps.length
  ·rw [zT cj] at hy
   exact hp j y hy
  ·rw [zO (by omega)] at hy
   obtain⟨c1,c2⟩:=List.getElem?_eq_some_iff.mp hy
   have c1:j - ps.length < 1:=c1
   have ej:j=i:=by omega
   subst ej
   have:y=x:=by rw [←c2];simp
   subst this
   exact⟨u,hui,hxu⟩
 rintro σ H' ⟨ps,w1,w2,w3,rfl,sm,el,hpl,hp⟩
 clear s1 e1 hL1
 have hL':=sm _ _ hL
 left
 refine qff (fun σ' H2=>∃(l2:Addr) (ps:List Int) (w1 w2 w3:Option V),σ'=[some (V.int c),some (V.ref ll),some (V.ref l2),w1,w2,w3]∧qaq H H2∧H2 l2=some (.lst (ps.map V.int))∧Wi us ps) ?_ ?_
 ·left
  refine qcf (by decide) (by decide) (by decide) (by decide) fun r r0 r1=>?_
  left
  refine i_2 (fun c1=>?_) (fun c1=>?_)
  ·left
   rw [lu]
   refine qcf (by decide) (by decide) (by omega) (by omega) fun o o0 o1=>?_
   clear o0 o1 r0 r1 c1
   left
   rw [lu]
   left
   intro C s0 H0 fp acc hacc
   refine c_by us.length (fun i H2=>∃qs:List Int,H2=upd H' acc (.lst (qs.map V.int))∧qs.length=i∧∀(j:Nat) (x:Int),qs[j]?=some x→∃u,us[j]?=some u∧0≤x∧x≤u) ⟨[],rfl,rfl,fun j x h=>by simp at h⟩ ?_ ?_ ?_ ?_
   ·rintro i H2 hi _
    show i < ni.toNat
    omega
   ·rintro H2 _
    show ni.toNat≤us.length
    omega
   ·rintro i H2 v H3 hi ⟨qs,rfl,hql,hqs⟩ ⟨rfl,rfl⟩
    rw [Int.zero_add]
    have hip:i < ps.length:=by omega
    have xi:atI (ps.map V.int) ((i:Nat):Int)=some (.int ps[i]):=qb3 (by rw [zC,zA hip];rfl)
    obtain⟨u,hu1,hu2,hu3⟩:=hp i _ (zA hip)
    have uo:=hu u (zG hu1)
    generalize ps[i]=x at*
    have xb:x.natAbs < 2^600:=Nat.lt_of_le_of_lt (show x.natAbs≤5*10^28 by have:=uo.hi;omega) (by decide)
    have zl:(qs.map V.int).length < sizeLine:=by rw [zB];show _ < 16777216;omega
    have el2:=qa9 (o':=.lst (qs.map V.int)) el hacc
    clear uo
    left
    refine qbn (SqL.of el2) xi ?_
    left
    have m0:(if decide (((i:Nat):Int)=o)=true then (1:Int) else 0)=0∨(if decide (((i:Nat):Int)=o)=true then (1:Int) else 0)=1:=by split <;> omega
    generalize (if decide (((i:Nat):Int)=o)=true then (1:Int) else 0)=z at*
    refine⟨qs++ [x*z],by rw [qb5,zE];rfl,by rw [zF,hql];rfl,fun j y hy=>?_⟩
    by_cases cj:j < qs.length
    ·rw [zT cj] at hy
     exact hqs j y hy
    ·rw [zO (by omega)] at hy
     obtain⟨d1,d2⟩:=List.getElem?_eq_some_iff.mp hy
     have d1:j - qs.length < 1:=d1
     have ej:j=i:=by omega
     subst ej
     have:y=x*z:=by rw [←d2];simp
     subst this
     refine⟨u,hu1,?_⟩
     rcases m0 with e|e
     ·rw [e,Int.mul_zero];exact⟨Int.le_refl _,by omega⟩
     ·rw [e,Int.mul_one];exact⟨hu2,hu3⟩
   rintro H2 ⟨qs,rfl,hql,hqs⟩
   left
   exact⟨acc,qs,_,_,_,rfl,sm.trans (qab hacc _),qa3,hql,hqs⟩
  ·left
   exact⟨l,ps,_,_,_,rfl,sm,el,hpl,hp⟩
 rintro σ' H2 ⟨l2,ps2,w1,w2,w3,rfl,s2,e2,h2⟩
 left
 exact q l2 ps2 H2 s2 e2 h2
def sp_granted (K:Frag) (d:Ad):Sp:=fun vs H Q _=>∃(t so hd lw lp:Addr) (S:Ts) (P:PL) (bs:List Ob) (h:Nat) (ps:List Int) (r:Int),vs=[.ref t,.ref so,.str (nmF P h),.ref lw,.ref lp,.int r]∧StAt d H so t hd P bs∧WrAt K d H t S P P.nm.length∧P.nm.length≤12∧h < P.nm.length∧H lw=some (.lst (P.ws.map V.str))∧H lp=some (.lst (ps.map V.int))∧ps.length=P.ws.length∧1≤ps.length∧
 (∀i∈qai (elN P.es) h,∀w∈P.ws,0≤qbg S P (bs.filter (qba r true)) (tdF (P.ws.zip ps)) i w)∧∀H',qaq H H'→Q (.bl true) H'
include T in
theorem ok_granted:FnOk P w K mg base CX0 22 d.f_granted d.fd_granted ["_law_tree_here","_law_store","_law_name","_law_wares","_law_parts_here","_law_rank"] (sp_granted K d):=by
 refine T.F_granted.ok sc_granted (fun vs H Q E h=>?_) (fun cdv A outer s H vs Q E hr h=>?_)
 ·obtain⟨t,so,hd,lw,lp,S,P,bs,h,ps,r,rfl,_⟩:=h;rfl
 obtain⟨t,so,hd,lw,lp,S,P,bs,h,ps,r,rfl,hS,hW,n12,hn,hlw,hlp,hpl,p1,hall,q⟩:=h
 have w3:=hW.w3
 obtain⟨ss,sp,ssort⟩:=sort_ex (qdg (tdK (P.ws.zip ps)))
 have s6:ss.length≤6:=by
  have e1:=sp.length_eq
  have e2:=(qfa (P.ws.zip ps)).klen
  have e3:(tdK (P.ws.zip ps)).length≤0+(P.ws.zip ps).length:=td_len0 (P.ws.zip ps) []
  have e4:(P.ws.zip ps).length≤P.ws.length:=by rw [List.length_zip];omega
  omega
 have sin:∀w∈ss,w∈P.ws:=fun w hw=>tdF_in hpl.symm w (((qfa (P.ws.zip ps)).kin w).mp (sp.mem_iff.mp hw))
 refine⟨_,(qa2 (qbb (qan qdu (qad (qem rfl) rfl T.z_max PyProof.Rows.boot_max (qa0 (pv 4) qa1)) qa8 (qat _)) (qa4 (qae qd5)) qal)
  (qa4 (qae (qdn op_isNN (qaa ((ok_reason T).mono (by decide)) hr rfl T.m_reason T.F_reason.kp T.b_reason .nil qaf (qa0 (pv 0) (qa0 (qdc (pv 1) T.CL_Store T.ME_Store_under ((ok_Store_under T).mono (by decide)) hr T.b1_Store_under T.rd_Store_under qaf) (qa0 (pv 2) (qa0 (qaa ((ok_told T).mono (by decide)) hr rfl T.m_told T.F_told.kp T.b_told .nil qaf (qa0 (pv 3) (qa0 (pv 4) qa1))) (qa0 (pv 5) (qa0 qd5 qa1))))))) qcv (qat _))))),?_⟩
 walk_at "d"
 refine qac (σ:=[some (.ref t),some (.ref so),some (.str (nmF P h)),some (.ref lw),some (.ref lp),some (.int r)]) rfl ?_
 have cs:=T.CL_Store
 obtain⟨dx,ho⟩:=hS.obj
 have l63:=hS.l63
 left
 refine r_maxL (SqL.of hlp) (by omega) fun m _ _=>?_
 left
 refine i_2 (fun c=>?_) (fun c=>?_)
 ·left
  exact q _ (qaq.refl _)
 ·left
  refine⟨so,t,hd,P,bs,rfl,hS,fun lh H1 s1 hl1 e1=>?_⟩
  left
  refine⟨lw,lp,P.ws,ps,rfl,SqL.of (s1 _ _ hlw),SqL.of (s1 _ _ hlp),hpl.symm,by omega,fun am H2 s2 ham eam=>?_⟩
  have t2:=s1.trans s2
  have hWd:WdAt K d H2 t lh S P bs P.nm.length:=⟨hW.tr.same t2,hW.wf,hW.pl,rfl,hW.hs,w3,s2 _ _ e1,by omega,fun b hb=>(hS.ob b hb).same t2⟩
  left
  refine⟨t,lh,am,S,P,bs,P.nm.length,h,_,_,ss,r,true,rfl,hWd,n12,hn,eam,qfa _,sp,ssort,s6,fun _ H3 s3=>?_,fun a b i w ha hb _ _ hlt=>?_⟩
  ·left
   exact q _ (t2.trans s3)
  ·exact absurd (hall i (zG ha) w (sin w (zG hb))) (by omega)
theorem qd2.sb2 {d:Ad} {H H':Hp} {t p q:Addr} {S:Ts} (h:qd2 d H t S) (a:Apart S t p) (b:Apart S t q) (sb:SB [p,q] H H'):qd2 d H' t S:=by
 have go:∀x o,H x=some o→x≠p→x≠q→H' x=some o:=fun x o e n1 n2=>sb x o e fun m=>by
  rcases zK.mp m with m|m
  ·exact n1 m
  ·exact n2 (zI.mp m)
 obtain⟨⟨dx,h1⟩,h2,h3,h4,h5,h6⟩:=h
 refine⟨⟨dx,go _ _ h1 a.t b.t⟩,go _ _ h2 a.sw b.sw,go _ _ h3 a.hs b.hs,h4,h5,fun e he=>?_⟩
 obtain⟨⟨dy,g1⟩,g2,g3,g4,g5⟩:=h6 e he
 obtain⟨n1,n2,n3⟩:=a.ho e he
 obtain⟨m1,m2,m3⟩:=b.ho e he
 exact⟨⟨dy,go _ _ g1 n1 m1⟩,go _ _ g2 n2 m2,g3,go _ _ g4 n3 m3,g5⟩
structure LvAt (K:Frag) (d:Ad) (H0 H:Hp) (so t hd ln lw ll:Addr) (S:Ts) (P:PL) (bs:List Ob) (qs cs ls:List Pq):Prop where
 st:StAt d H so t hd P bs
 mh:∀b∈bs,b.m≠hd
 wr:WrAt K d H t S P P.nm.length
 a1:Apart S t so
 a2:Apart S t hd
 a3:Apart S t ll
 hn:H ln=some (.lst (P.nm.map V.str))
 hw:H lw=some (.lst (P.ws.map V.str))
 hl:H ll=some (.lst (qsV ls))
 rw:∀q∈ls,H q.1=some (.lst (q.2.map V.int))∧q.2.length=P.ws.length∧(∀x∈q.2,UOk x)∧q.1≠ll
 s0:qaq H0 H
 f1:H0 so=none
 f2:H0 hd=none
 f3:H0 ll=none
 nh:ln≠ll∧lw≠ll
 ok:LvOk S P bs qs cs ls
theorem LvAt.same {K:Frag} {d:Ad} {H0 H H':Hp} {so t hd ln lw ll:Addr} {S:Ts} {P:PL} {bs:List Ob} {qs cs ls:List Pq} (v:LvAt K d H0 H so t hd ln lw ll S P bs qs cs ls) (s:qaq H H'):LvAt K d H0 H' so t hd ln lw ll S P bs qs cs ls:=
 ⟨v.st.same s,v.mh,v.wr.same s,v.a1,v.a2,v.a3,s _ _ v.hn,s _ _ v.hw,s _ _ v.hl,fun q hq=>⟨s _ _ (v.rw q hq).1,(v.rw q hq).2⟩,v.s0.trans s,v.f1,v.f2,v.f3,v.nh,v.ok⟩
theorem LvAt.put {K:Frag} {d:Ad} {H0 H H':Hp} {so t hd ln lw ll:Addr} {S:Ts} {P:PL} {bs bs':List Ob} {qs cs ls:List Pq} (v:LvAt K d H0 H so t hd ln lw ll S P bs qs cs ls) (st:StAt d H' so t hd P bs') (mh:∀b∈bs',b.m≠hd) (sb:SB [so,hd] H H') (ok:LvOk S P bs' qs cs ls):LvAt K d H0 H' so t hd ln lw ll S P bs' qs cs ls:=by
 obtain⟨dx,ho⟩:=v.st.obj
 have hh:=v.st.hds
 have lst:∀{x:Addr} {xs:List V},H x=some (.lst xs)→H' x=some (.lst xs):=fun {x xs} e=>sb x _ e fun m=>by
  rcases zK.mp m with m|m
  ·rw [m,ho] at e;cases e
  ·rw [zI.mp m,hh] at e;cases e
 exact⟨st,mh,⟨v.wr.tr.sb2 v.a1 v.a2 sb,v.wr.wf,v.wr.pl,v.wr.nn,v.wr.hs,v.wr.w3⟩,v.a1,v.a2,v.a3,lst v.hn,lst v.hw,lst v.hl,fun q hq=>⟨lst (v.rw q hq).1,(v.rw q hq).2⟩,(fun b o e=>sb b o (v.s0 _ _ e) fun m=>by
  rcases zK.mp m with m|m
  ·rw [m,v.f1] at e;cases e
  ·rw [zI.mp m,v.f2] at e;cases e),v.f1,v.f2,v.f3,v.nh,ok⟩
theorem LvAt.put2 {K:Frag} {d:Ad} {H0 H H6 H7:Hp} {so t hd ln lw ll acc:Addr} {S:Ts} {P:PL} {bs bs':List Ob} {qs cs ls:List Pq} {h:Nat} {us:List Int} (v:LvAt K d H0 H so t hd ln lw ll S P bs qs cs ls) (st:StAt d H6 so t hd P bs') (mh:∀b∈bs',b.m≠hd) (sb:SB [so,hd] H H6) (s7:qaq H6 H7) (e7:H7 acc=some (.lst (us.map V.int))) (na:acc≠ll) (hl:us.length=P.ws.length) (hu:∀x∈us,UOk x) (ok:LvOk S P bs' qs cs (ls.set h (acc,us))):LvAt K d H0 (upd H7 ll (.lst ((qsV ls).set h (.ref acc)))) so t hd ln lw ll S P bs' qs cs (ls.set h (acc,us)):=by
 obtain⟨dx,ho⟩:=v.st.obj
 have hh:=v.st.hds
 have lst:∀{x:Addr} {xs:List V},H x=some (.lst xs)→H7 x=some (.lst xs):=fun {x xs} e=>s7 _ _ (sb x _ e fun m=>by
  rcases zK.mp m with m|m
  ·rw [m,ho] at e;cases e
  ·rw [zI.mp m,hh] at e;cases e)
 have st7:=st.same s7
 have hl7:=lst v.hl
 obtain⟨dx7,ho7⟩:=st7.obj
 have n1:so≠ll:=fun z=>by rw [z,hl7] at ho7;cases ho7
 have n2:hd≠ll:=fun z=>by have:=st7.hds;rw [z,hl7] at this;cases this
 have wr7:qd2 d H7 t S:=(v.wr.tr.sb2 v.a1 v.a2 sb).same s7
 refine⟨⟨⟨dx7,by rw [qa6 n1];exact ho7⟩,by rw [qa6 n2];exact st7.hds,fun b hb=>?_,st.nu,st.l63⟩,mh,⟨wr7.put v.a3,v.wr.wf,v.wr.pl,v.wr.nn,v.wr.hs,v.wr.w3⟩,v.a1,v.a2,v.a3,by rw [qa6 v.nh.1];exact lst v.hn,by rw [qa6 v.nh.2];exact lst v.hw,by rw [qa3];unfold qsV;rw [List.map_set],fun q hq=>?_,fun b o e=>?_,v.f1,v.f2,v.f3,v.nh,ok⟩
 ·have hb7:=st7.ob b hb
  refine hb7.put (fun z=>?_) (fun z=>?_)
  ·obtain⟨_,e⟩:=hb7.obj
   rw [z,hl7] at e;cases e
  ·have e:=hb7.amt
   rw [z,hl7] at e;cases e
 ·rcases List.mem_or_eq_of_mem_set hq with hq|hq
  ·obtain⟨g1,g2,g3,g4⟩:=v.rw q hq
   exact⟨by rw [qa6 g4];exact lst g1,g2,g3,g4⟩
  ·rw [hq]
   exact⟨by rw [qa6 na];exact e7,hl,hu,na⟩
 ·have nb:b≠ll:=fun z=>by rw [z,v.f3] at e;cases e
  rw [qa6 nb]
  refine s7 _ _ (sb b o (v.s0 _ _ e) fun m=>?_)
  rcases zK.mp m with m|m
  ·rw [m,v.f1] at e;cases e
  ·rw [zI.mp m,v.f2] at e;cases e
theorem LvOk.loan {S:Ts} {P:PL} {bs:List Ob} {qs cs ls:List Pq} (v:LvOk S P bs qs cs ls) {b:Ob} (hs:b.R.s=false) (hi:b.R.i < P.nm.length):LvOk S P (bs++ [b]) qs cs ls:=
 ⟨v.n12,v.ql,v.cl,v.ll,v.sum,fun k hk j hj=>by
  rw [held_snoc,hs,v.lf k hk j hj]
  have:(if b.R.i=k then (if false=true then gN b.R.f P.ws[j] else 0) else 0)=(0:Int):=by split <;> rfl
  rw [this,Int.add_zero],v.nn,v.fp,v.fc,fun x hx=>by
  rcases zU.mp hx with hx|hx
  ·exact v.il x hx
  ·rw [zI.mp hx];exact hi⟩
theorem atQ_set {ls:List Pq} {h k j:Nat} {q:Pq} (hh:h < ls.length):atQ (ls.set h q) k j=if k=h then (q.2[j]?).getD 0 else atQ ls k j:=by
 unfold atQ
 rw [List.getElem?_set]
 by_cases c:h=k
 ·subst c;rw [if_pos rfl,if_pos hh,if_pos rfl]
 ·rw [if_neg c,if_neg (fun e=>c e.symm)]
theorem LvOk.sure {S:Ts} {P:PL} {bs:List Ob} {qs cs ls:List Pq} (v:LvOk S P bs qs cs ls) {b:Ob} {a:Addr} {us:List Int} {f:Str→Option Int} (hs:b.R.s=true) (hi:b.R.i < P.nm.length) (ef:b.R.f=f) (hu:∀(j:Nat) (hj:j < P.ws.length),(us[j]?).getD 0=atQ ls b.R.i j - gN f P.ws[j]) (h0:∀j:Nat,0≤(us[j]?).getD 0):LvOk S P (bs++ [b]) qs cs (ls.set b.R.i (a,us)):=
 ⟨v.n12,v.ql,v.cl,by rw [List.length_set];exact v.ll,v.sum,fun k hk j hj=>by
  rw [held_snoc,hs,if_pos rfl,atQ_set (by rw [v.ll];exact hi),ef]
  have h1:=v.lf k hk j hj
  by_cases c:k=b.R.i
  ·subst c
   rw [if_pos rfl,if_pos rfl]
   have h2:=hu j hj
   show (us[j]?).getD 0=_
   omega
  ·rw [if_neg c,if_neg (fun e=>c e.symm)]
   omega,fun k j=>by
  rw [atQ_set (by rw [v.ll];exact hi)]
  split
  ·exact h0 j
  ·exact v.nn k j,v.fp,v.fc,fun x hx=>by
  rcases zU.mp hx with hx|hx
  ·exact v.il x hx
  ·rw [zI.mp hx];exact hi⟩
theorem row_at {K:Frag} {d:Ad} {H0 H:Hp} {so t hd ln lw ll:Addr} {S:Ts} {P:PL} {bs:List Ob} {qs cs ls:List Pq} (v:LvAt K d H0 H so t hd ln lw ll S P bs qs cs ls) {h:Nat} (hh:h < P.nm.length):∃q∈ls,ls[h]?=some q∧atI (qsV ls) ((h:Nat):Int)=some (.ref q.1)∧∀(j:Nat) (x:Int),q.2[j]?=some x→atQ ls h j=x:=by
 have hl:h < ls.length:=by rw [v.ok.ll];exact hh
 refine⟨ls[h],zL hl,zA hl,qb3 (by unfold qsV;rw [zC,zA hl];rfl),fun j x hx=>?_⟩
 unfold atQ
 rw [zA hl]
 show (ls[h].2[j]?).getD 0=x
 rw [hx];rfl
theorem gN_wi {P:PL} (nd:P.ws.Nodup) {us ps:List Int} (hu:us.length=P.ws.length) (w:Wi us ps) {j:Nat} (hj:j < P.ws.length):gN (tdF (P.ws.zip ps)) P.ws[j]=(ps[j]?).getD 0∧(ps[j]?).getD 0≤(us[j]?).getD 0∧0≤(ps[j]?).getD 0:=by
 have hp:j < ps.length:=by rw [w.1];omega
 obtain⟨u,e1,e2,e3⟩:=w.2 j _ (zA hp)
 refine⟨?_,?_,?_⟩
 ·rw [tdF_gN (by rw [w.1];exact hu.symm) nd (fun p hp=>by
   obtain⟨i,hi,e⟩:=zM.mp hp
   obtain⟨u,_,h2,_⟩:=w.2 i p (by rw [←e];exact zA hi)
   exact h2) hj hp,zA hp];rfl
 ·rw [zA hp,e1];exact e3
 ·rw [zA hp];exact e2
def sp_deed (K:Frag) (d:Ad):Sp:=fun vs H Q _=>∃(c:Int) (H0:Hp) (so t hd ln lw ll:Addr) (S:Ts) (P:PL) (bs:List Ob) (qs cs ls:List Pq),vs=[.int c,.ref t,.ref so,.ref ln,.ref lw,.ref ll]∧LvAt K d H0 H so t hd ln lw ll S P bs qs cs ls∧bs.length < 60∧1≤P.nm.length∧1≤P.ws.length∧P.ws.Nodup∧Low (elN P.es) P.nm.length∧
 ∀bs' ls' H',LvAt K d H0 H' so t hd ln lw ll S P bs' qs cs ls'→bs'.length≤bs.length+1→Q (.bl true) H'
theorem LvAt.grant {K:Frag} {d:Ad} {H0 H:Hp} {so t hd ln lw ll:Addr} {S:Ts} {P:PL} {bs:List Ob} {qs cs ls:List Pq} (v:LvAt K d H0 H so t hd ln lw ll S P bs qs cs ls) (nd:P.ws.Nodup) (low:Low (elN P.es) P.nm.length) {h:Nat} (hh:h < P.nm.length) {q:Pq} (hq:q∈ls) (ha:∀(j:Nat) (x:Int),q.2[j]?=some x→atQ ls h j=x) {ps:List Int} (w:Wi q.2 ps) (r:Int):∀i∈qai (elN P.es) h,∀w∈P.ws,0≤qbg S P (bs.filter (qba r true)) (tdF (P.ws.zip ps)) i w:=fun i hi z hz=>by
 obtain⟨j,hj,rfl⟩:=zM.mp hz
 refine v.ok.room low hh hi hj ?_
 have hl:=(v.rw q hq).2.1
 obtain⟨e1,e2,_⟩:=gN_wi nd hl w hj
 rw [e1,ha j _ (zA (by omega))]
 rw [zA (show j < q.2.length by omega)] at e2
 exact e2
theorem Wi.self {us:List Int} (h:∀u∈us,UOk u):Wi us us:=⟨rfl,fun j x hx=>⟨x,hx,(h x (zG hx)).lo,Int.le_refl _⟩⟩
include T in
theorem ok_deed:FnOk P w K mg base CX0 24 d.f_deed d.fd_deed ["_law_cell_here","_law_tree_here","_law_store","_law_names_here","_law_wares","_law_left"] (sp_deed K d):=by
 refine T.F_deed.ok sc_deed (fun vs H Q E h=>?_) (fun cdv A outer s H vs Q E hr h=>?_)
 ·obtain⟨c,H0,so,t,hd,ln,lw,ll,S,P,bs,qs,cs,ls,rfl,_⟩:=h;rfl
 obtain⟨c,H0,so,t,hd,ln,lw,ll,S,P,bs,qs,cs,ls,rfl,v,l59,n1,w1,nd,low,q⟩:=h
 have w3:=v.wr.w3
 have n12:=v.ok.n12
 refine⟨_,(qa2 (qag (i:=6) sc_deed.nd rfl (Or.inr rfl) (qaa ((ok_mix T).mono (by decide)) hr rfl T.m_mix T.F_mix.kp T.b_mix .nil qaf (qa0 (pv 0) (qa0 qa8 (qa0 (qad qau rfl T.z_len PySem.boot_len (qa0 (pv 3) qa1)) qa1)))))
  (qa2 (qag (i:=7) sc_deed.nd rfl (Or.inr rfl) (qaa ((ok_within T).mono (by decide)) hr rfl T.m_within T.F_within.kp T.b_within .nil qaf (qa0 (pv 0) (qa0 (qb4 qam (pv 5) (pv 6) (fun _ _=>rfl)) qa1))))
  (qa2 (qag (i:=8) sc_deed.nd rfl (Or.inl rfl) (qaa ((ok_mix T).mono (by decide)) hr rfl T.m_mix T.F_mix.kp T.b_mix .nil qaf (qa0 (pv 0) (qa0 qa8 (qa0 qa8 qa1)))))
  (qa2 (qcj (qbb (qan qdu (qaa ((ok_mix T).mono (by decide)) hr rfl T.m_mix T.F_mix.kp T.b_mix .nil qaf (qa0 (pv 0) (qa0 qa8 (qa0 qa8 qa1)))) qa8 (qat _)) (qa4 (qbb (qci (qbo (qaa ((ok_granted T).mono (by decide)) hr rfl T.m_granted T.F_granted.kp T.b_granted .nil qaf (qa0 (pv 1) (qa0 (pv 2) (qa0 (qb4 qam (pv 3) (pv 6) (fun _ _=>rfl)) (qa0 (pv 4) (qa0 (pv 7) (qa0 (pv 8) qa1))))))))) (qa4 (qae qd5)) qal)) qal))
  (qa2 (qcj (qbb (qan qdu (qaa ((ok_mix T).mono (by decide)) hr rfl T.m_mix T.F_mix.kp T.b_mix .nil qaf (qa0 (pv 0) (qa0 qa8 (qa0 qa8 qa1)))) qa8 (qat _)) (qa2 (qag (i:=9) sc_deed.nd rfl (Or.inl rfl) (qaa ((ok_told T).mono (by decide)) hr rfl T.m_told T.F_told.kp T.b_told .nil qaf (qa0 (pv 4) (qa0 (qaa ((ok_parts T).mono (by decide)) hr rfl T.m_parts T.F_parts.kp T.b_parts .nil qaf (qa0 (pv 0) (qa0 (qad qau rfl T.z_len PySem.boot_len (qa0 (pv 4) qa1)) (qa0 (qb4 qam (qc3 (qa0 qa8 (qa0 (qak op_pow qa8 qa8) qa1))) (qaa ((ok_mix T).mono (by decide)) hr rfl T.m_mix T.F_mix.kp T.b_mix .nil qaf (qa0 (pv 0) (qa0 qa8 (qa0 qa8 qa1)))) (fun _ _=>rfl)) qa1)))) qa1))))
  (qa4 (qas (qcc (pv 2) T.CL_Store T.ME_Store_put ((ok_Store_put T).mono (by decide)) hr T.b_Store_put .nil qaf (qa0 (qb4 qam (pv 3) (pv 6) (fun _ _=>rfl)) (qa0 (pv 9) (qa0 (pv 8) (qa0 qcv (qa0 qd5 qa1))))))))) (qa4 (qcj (qbb (qan qfj (qad (qem rfl) rfl T.z_max PyProof.Rows.boot_max (qa0 (pv 7) qa1)) qa8 (qat _)) (qa2 (qas (qcc (pv 2) T.CL_Store T.ME_Store_put ((ok_Store_put T).mono (by decide)) hr T.b_Store_put .nil qaf (qa0 (qb4 qam (pv 3) (pv 6) (fun _ _=>rfl)) (qa0 (qaa ((ok_told T).mono (by decide)) hr rfl T.m_told T.F_told.kp T.b_told .nil qaf (qa0 (pv 4) (qa0 (pv 7) qa1))) (qa0 (pv 8) (qa0 qcv (qa0 qd5 qa1)))))))
  (qa4 (ps_lput (pv 5) (pv 6) (qbt (caps:=[5,6,7]) (cn:=["_law_left","_law_at","_law_parts_here"]) (qbc rfl rfl (by rfl) (by rfl) rfl ⟨rfl,⟨rfl,⟨rfl,trivial⟩⟩⟩ (by rfl) rfl ⟨⟨rfl,rfl,rfl,rfl,_,rfl⟩,⟨⟨rfl,rfl,rfl,rfl,_,rfl⟩,⟨⟨rfl,rfl,rfl,rfl,_,rfl⟩,trivial⟩⟩⟩ (by decide)) rfl (qb7 rfl T.z_range (qa0 (qad qau rfl T.z_len PySem.boot_len (qa0 (pv 7) qa1)) qa1)) (fun _ _ _ _=>qd3) (fun _ _ _ _=>(qak qex (qb4 qam (qb4 qam (pv 1) (pv 2) (fun _ _=>rfl)) (pv 0) (fun _ _=>rfl)) (qb4 qam (pv 3) (pv 0) (fun _ _=>rfl))))) rfl))) qal)))))
  (qa4 (qae qd5))))))),?_⟩
 walk_at "d"
 try dsimp only [cxC]
 refine qac (σ:=[some (.int c),some (.ref t),some (.ref so),some (.ref ln),some (.ref lw),some (.ref ll),none,none,none,none]) rfl ?_
 have hln:=v.hn
 have hlw:=v.hw
 have hll:=v.hl
 have cst:=T.CL_Store
 have nl:(((P.nm.map V.str).length:Nat):Int)=((P.nm.length:Nat):Int):=by rw [zB]
 have wl:(((P.ws.map V.str).length:Nat):Int)=((P.ws.length:Nat):Int):=by rw [zB]
 left
 rw [nl]
 refine qcf (by decide) (by decide) (by omega) (by omega) fun rh h0 h1=>?_
 obtain⟨h,rfl⟩:=Int.eq_ofNat_of_zero_le h0
 have hh:h < P.nm.length:=by omega
 obtain⟨qh,hqm,hqg,xh,hqa⟩:=row_at v hh
 obtain⟨hrow,hrl,hro,hrn⟩:=v.rw qh hqm
 have xn:atI (P.nm.map V.str) ((h:Nat):Int)=some (.str (nmF P h)):=by rw [qdt hh];exact qb3 (by rw [zC,zA hh];rfl)
 clear h0 h1
 generalize hhi:((h:Nat):Int)=hi at*
 left
 refine qbn (SqL.of hll) xh ?_
 left
 refine⟨c,qh.1,qh.2,rfl,hrow,by omega,by omega,hro,fun lp ps H1 s1 elp hwi=>?_⟩
 have v1:=v.same s1
 have hpl:ps.length=P.ws.length:=by rw [hwi.1];exact hrl
 left
 refine qcf (by decide) (by decide) (by decide) (by decide) fun r ra rb=>?_
 clear hln hlw hll ra rb
 left
 refine qff (fun σ' H2=>σ'=[some (V.int c),some (V.ref t),some (V.ref so),some (V.ref ln),some (V.ref lw),some (V.ref ll),some (V.int hi),some (V.ref lp),some (V.int r),none]∧qaq H1 H2) ?_ ?_
 ·left
  refine qcf (by decide) (by decide) (by decide) (by decide) fun r2 _ _=>?_
  left
  refine i_2 (fun c2=>?_) (fun c2=>?_)
  ·have hln1:=v1.hn
   left
   refine qbn (SqL.of hln1) xn ?_
   left
   refine⟨t,so,hd,lw,lp,S,P,bs,h,ps,r,rfl,v1.st,v1.wr,n12,hh,v1.hw,elp,hpl,by omega,v.grant nd low hh hqm hqa hwi r,fun H2 s2=>?_⟩
   left
   exact⟨rfl,s2⟩
  ·left
   exact⟨rfl,qaq.refl _⟩
 rintro σ' H2 ⟨rfl,s12⟩
 have v2:=v1.same s12
 have elp2:=s12 _ _ elp
 have hln2:=v2.hn
 have hlw2:=v2.hw
 have hll2:=v2.hl
 obtain⟨dxs,hos⟩:=v2.st.obj
 generalize ((bs.length:Nat):Int)=bl at hos
 clear v1 elp
 left
 refine qff (fun σ' H3=>(∃w:Option V,σ'=[some (V.int c),some (V.ref t),some (V.ref so),some (V.ref ln),some (V.ref lw),some (V.ref ll),some (V.int hi),some (V.ref lp),some (V.int r),w])∧∃bs' ls',LvAt K d H0 H3 so t hd ln lw ll S P bs' qs cs ls'∧bs'.length≤bs.length+1) ?_ ?_
 ·left
  refine qcf (by decide) (by decide) (by decide) (by decide) fun r3 rc rd=>?_
  clear rc rd
  left
  refine i_2 (fun c3=>?_) (fun c3=>?_)
  ·left
   rename_i pm hpm
   rw [wl]
   have e28:(10:Int)^Int.toNat 28=10^28:=rfl
   have s3:=qab hpm (.lst [.int 1,.int (10^Int.toNat 28)])
   have e3:upd H2 pm (.lst [.int 1,.int (10^Int.toNat 28)]) pm=some (.lst [.int 1,.int (10^Int.toNat 28)]):=qa3
   generalize upd H2 pm (.lst [.int 1,.int (10^Int.toNat 28)])=H3 at*
   refine qcf (by decide) (by decide) (by decide) (by decide) fun r4 a0 a1=>?_
   refine r_menu (xs:=[1,10^Int.toNat 28]) (SqL.of e3) a0 a1 fun sc hm=>?_
   have hsc:Sc sc:=by
    simp only [zK,yH,or_false] at hm
    rw [e28] at hm
    exact⟨by omega,by omega⟩
   clear hm a0 a1 e3 e28
   have v3:=v2.same s3
   have hos3:=s3 _ _ hos
   left
   refine⟨c,sc,P.ws.length,rfl,w1,w3,hsc,fun lo us H4 s4 hlo elo hul huo=>?_⟩
   have v4:=v3.same s4
   have hos4:=s4 _ _ hos3
   left
   refine⟨lw,lo,P.ws,us,rfl,SqL.of v4.hw,SqL.of elo,hul.symm,by omega,fun am H5 s5 ham eam=>?_⟩
   have v5:=v4.same s5
   have hos5:=s5 _ _ hos4
   have hln5:=v5.hn
   have nam:am≠hd:=(qa5 v4.st.hds ham).symm
   clear v2 v3 v4 hos3 hos4 hln2 hlw2 hll2
   left
   refine qbn (SqL.of hln5) xn ?_
   left
   refine⟨so,t,hd,am,S,P,bs,P.nm.length,h,_,_,r,false,rfl,v5.st,v5.mh,nam,l59,v5.wr,hh,eam,qfa _,tdF_in hul.symm,(fun z=>by cases z),fun b H6 st6 mh6 sb6 eb=>?_⟩
   left
   exact⟨⟨_,rfl⟩,bs++ [b],ls,v5.put st6 mh6 sb6 (v5.ok.loan (by rw [eb];rfl) (by rw [eb];exact hh)),by rw [zF];exact Nat.le_refl _⟩
  ·left
   refine r_cut0 ?_
   left
   refine r_maxL (SqL.of elp2) (by omega) fun m ma mb=>?_
   clear ma mb c3
   left
   refine i_2 (fun c4=>?_) (fun c4=>?_)
   ·clear c4
    left
    refine qbn (SqL.of hln2) xn ?_
    left
    refine⟨lw,lp,P.ws,ps,rfl,SqL.of hlw2,SqL.of elp2,hpl.symm,by omega,fun am H5 s5 ham eam=>?_⟩
    have v5:=v2.same s5
    have nam:am≠hd:=(qa5 v2.st.hds ham).symm
    have elp5:=s5 _ _ elp2
    have hos5:=s5 _ _ hos
    have fits:Fits S P bs h (tdF (P.ws.zip ps)):=v5.ok.fits v5.st.ob hh (tdF_in hpl.symm) fun j hj=>by
     obtain⟨e1,e2,_⟩:=gN_wi nd hrl hwi hj
     rw [e1,hqa j _ (zA (by omega))]
     rw [zA (show j < qh.2.length by omega)] at e2
     exact e2
    left
    refine⟨so,t,hd,am,S,P,bs,P.nm.length,h,_,_,r,true,rfl,v5.st,v5.mh,nam,l59,v5.wr,hh,eam,qfa _,tdF_in hpl.symm,fun _=>fits,fun b H6 st6 mh6 sb6 eb=>?_⟩
    obtain⟨dx5,ho5⟩:=v5.st.obj
    have lst:∀{x:Addr} {xs:List V},H5 x=some (.lst xs)→H6 x=some (.lst xs):=fun {x xs} e=>sb6 x _ e fun m=>by
     rcases zK.mp m with m|m
     ·rw [m,ho5] at e;cases e
     ·rw [zI.mp m,v5.st.hds] at e;cases e
    have elp6:=lst elp5
    have hll6:=lst v5.hl
    have hrow6:=lst (v5.rw qh hqm).1
    have pl:(((ps.map V.int).length:Nat):Int)=((P.ws.length:Nat):Int):=by rw [zB,hpl]
    have pw:((P.ws.length:Nat):Int).toNat=P.ws.length:=by omega
    have pw0:0≤((P.ws.length:Nat):Int)∧((P.ws.length:Nat):Int)≤3:=by omega
    clear wl nl
    generalize hwi3:((P.ws.length:Nat):Int)=wi at*
    left
    rw [pl]
    left
    intro C s0 H00 fp acc hacc
    refine c_by P.ws.length (fun i H7=>H7=upd H6 acc (.lst (((List.range i).map fun j=>(qh.2[j]?).getD 0 - (ps[j]?).getD 0).map V.int))) rfl ?_ ?_ ?_ ?_
    ·rintro i H7 hi' _
     show i < wi.toNat
     omega
    ·rintro H7 _
     show wi.toNat≤P.ws.length
     omega
    ·rintro i H7 vv H8 hi' rfl ⟨rfl,rfl⟩
     rw [Int.zero_add]
     have xi:atI (qh.2.map V.int) ((i:Nat):Int)=some (.int ((qh.2[i]?).getD 0)):=qb3 (by rw [zC,zA (by omega)];rfl)
     have xp:atI (ps.map V.int) ((i:Nat):Int)=some (.int ((ps[i]?).getD 0)):=qb3 (by rw [zC,zA (by omega)];rfl)
     have zl:(((List.range i).map fun j=>(qh.2[j]?).getD 0 - (ps[j]?).getD 0).map V.int).length < sizeLine:=by rw [zB,zB,yG];show _ < 16777216;omega
     left
     refine qbn (SqL.of (qa9 hll6 hacc)) xh ?_
     left
     refine qbn (SqL.of (qa9 hrow6 hacc)) xi ?_
     left
     refine qbn (SqL.of (qa9 elp6 hacc)) xp ?_
     left
     rw [qb5,yQ,zE,zE];rfl
    rintro H7 rfl
    have hil:=v5.ok.ll
    have s7:=qab hacc (.lst (((List.range P.ws.length).map fun j=>(qh.2[j]?).getD 0 - (ps[j]?).getD 0).map V.int))
    have e7:upd H6 acc (.lst (((List.range P.ws.length).map fun j=>(qh.2[j]?).getD 0 - (ps[j]?).getD 0).map V.int)) acc=some (.lst (((List.range P.ws.length).map fun j=>(qh.2[j]?).getD 0 - (ps[j]?).getD 0).map V.int)):=qa3
    have nal:acc≠ll:=(qa5 hll6 hacc).symm
    generalize upd H6 acc (.lst (((List.range P.ws.length).map fun j=>(qh.2[j]?).getD 0 - (ps[j]?).getD 0).map V.int))=H7 at*
    have hll7:=s7 _ _ hll6
    left
    refine r_lpk hll7 (k:=h) (by unfold qsV;rw [zB];omega) ?_ hhi.symm
    left
    have hbi:b.R.i=h:=by rw [eb];rfl
    have gj:∀j:Nat,j < P.ws.length→(((List.range P.ws.length).map fun j=>(qh.2[j]?).getD 0 - (ps[j]?).getD 0)[j]?).getD 0=(qh.2[j]?).getD 0 - (ps[j]?).getD 0:=fun j hj=>by rw [zC,List.getElem?_range hj];rfl
    have gu:∀j:Nat,j < P.ws.length→UOk ((qh.2[j]?).getD 0 - (ps[j]?).getD 0):=fun j hj=>by
     obtain⟨_,e2,e3⟩:=gN_wi nd hrl hwi hj
     have hq2:j < qh.2.length:=by omega
     have uo:=hro _ (zL hq2)
     rw [zA hq2] at e2 ⊢
     have e2:(ps[j]?).getD 0≤qh.2[j]:=e2
     have u2:=uo.hi
     exact⟨show 0≤qh.2[j] - (ps[j]?).getD 0 by omega,show qh.2[j] - (ps[j]?).getD 0≤_ by omega⟩
    have ok':=v5.ok.sure (b:=b) (a:=acc) (us:=(List.range P.ws.length).map fun j=>(qh.2[j]?).getD 0 - (ps[j]?).getD 0) (f:=tdF (P.ws.zip ps)) (by rw [eb];rfl) (by rw [hbi];exact hh) (by rw [eb];rfl) (fun j hj=>by
     obtain⟨e1,_,_⟩:=gN_wi nd hrl hwi hj
     have hq2:j < qh.2.length:=by omega
     rw [gj j hj,e1,hbi,hqa j _ (zA hq2),zA hq2];rfl) (fun j=>by
     by_cases hj:j < P.ws.length
     ·rw [gj j hj];exact(gu j hj).lo
     ·rw [List.getElem?_eq_none (by rw [zB,yG];omega)];exact Int.le_refl _)
    rw [hbi] at ok'
    refine⟨⟨_,rfl⟩,bs++ [b],_,v5.put2 st6 mh6 sb6 s7 e7 nal (by rw [zB,yG]) (fun x hx=>?_) ok',by rw [zF];exact Nat.le_refl _⟩
    obtain⟨j,hj,rfl⟩:=zJ.mp hx
    exact gu j (yR.mp hj)
   ·left
    exact⟨⟨_,rfl⟩,bs,ls,v2,by omega⟩
 rintro σ' H3 ⟨⟨w,rfl⟩,bs',ls',v3,hb⟩
 left
 exact q bs' ls' H3 v3 hb
theorem LvOk.start {H:Hp} {S:Ts} {P:PL} {wt:Nat→Int} {qs cs ls:List Pq} (hI:TInv S P P.nm.length wt) (pf:PlF P) (etp:P.tp=csT P.ws qs) (etc:P.tc=csT P.ws cs) (hql:qs.length=P.nm.length) (hcl:cs.length=P.nm.length) (hq:CsAt H P.ws.length qs) (hc:CsAt H P.ws.length cs) (hs:∀h j,h < P.nm.length→j < P.ws.length→qfd (elN P.es) qs P.nm.length h j≤atQ cs h j) (hl:ls.map (·.2)=qs.map (·.2)) (n12:P.nm.length≤12) (ho:PsOk qs):LvOk S P [] qs cs ls:=by
 have hll:ls.length=qs.length:=by have:=congrArg List.length hl;rw [zB,zB] at this;exact this
 have eq:∀k j,atQ ls k j=atQ qs k j:=fun k j=>by
  have:=congrArg (fun l:List (List Int)=>l[k]?) hl
  simp only [zC] at this
  unfold atQ
  cases e1:ls[k]? with
  |none=>
   rw [e1] at this
   cases e2:qs[k]? with
   |none=>rfl
   |some y=>rw [e2] at this;cases this
  |some x=>
   rw [e1] at this
   cases e2:qs[k]? with
   |none=>rw [e2] at this;cases this
   |some y=>
    rw [e2] at this
    have:x.2=y.2:=Option.some.inj this
    show (x.2[j]?).getD 0=(y.2[j]?).getD 0
    rw [this]
 have col:∀{cs:List Pq} {h j:Nat},cs.length=P.nm.length→CsAt H P.ws.length cs→h < P.nm.length→(hj:j < P.ws.length)→Fin P.ws (tdF (P.ws.zip (csD cs h)))∧gN (tdF (P.ws.zip (csD cs h))) P.ws[j]=atQ cs h j:=fun {cs h j} hcl hc hh hj=>by
  have hkc:h < cs.length:=by omega
  obtain⟨_,cl,cb,_⟩:=hc.at hkc
  refine⟨(qfb cl.symm pf.wn fun p hp=>(cb p hp).2).fin (by decide),?_⟩
  rw [tdF_gN cl.symm pf.wn (fun p hp=>(cb p hp).1) hj (by omega)]
  have e0:=zA hkc
  unfold atQ
  rw [e0]
  show _=((cs[h]'hkc).2[j]?).getD 0
  have e2:csD cs h=(cs[h]'hkc).2:=by unfold csD;rw [e0]
  rw [←e2,zA (by omega)];rfl
 have at':∀h,h < P.nm.length→∀e,S.at (nmF P h)=some e→S.hl[h]?=some e:=fun h hh e ae=>by
  obtain⟨k,hk,ek⟩:=zM.mp (qbr ae).1
  have e1:=zA hk
  rw [ek] at e1
  have hkn:k < P.nm.length:=by have:=hI.pl.len;omega
  have:=(hI.pl.nam k e e1).1
  have ekh:k=h:=hI.pl.inj k h hkn hh (by rw [←this];exact(qbr ae).2)
  rw [←ekh];exact e1
 refine⟨n12,hql,hcl,by omega,hs,fun k hk j hj=>?_,fun k j=>?_,fun h hh e ae j hj=>?_,fun h hh j hj=>?_,fun b hb=>by simp at hb⟩
 ·rw [eq]
  show _=_ - (0:Int)
  omega
 ·rw [eq];exact(atQ_ok ho k j).lo
 ·obtain⟨fin,g⟩:=col hql hq hh hj
  have efp:=(hI.da h e (at' h hh e ae)).1
  have e1:gN e.x.fp P.ws[j]=gN (qce (tfF P.tp h)) P.ws[j]:=by unfold gN;rw [efp]
  have e2:tfF P.tp h=tdF (P.ws.zip (csD qs h)):=by unfold tfF;rw [etp,csT_at (by omega)]
  rw [e1,e2,qdp fin,g]
 ·obtain⟨fin,g⟩:=col hcl hc hh hj
  obtain⟨e,ae,_,_⟩:=hI.pl.at hh
  have efc:=(hI.da h e (at' h hh e ae)).2.1
  unfold fcOf
  rw [ae]
  show gN e.x.fc P.ws[j]=_
  have e1:gN e.x.fc P.ws[j]=gN (qce (tfF P.tc h)) P.ws[j]:=by unfold gN;rw [efc]
  have e2:tfF P.tc h=tdF (P.ws.zip (csD cs h)):=by unfold tfF;rw [etc,csT_at (by omega)]
  rw [e1,e2,qdp fin,g]
def sp_law0 (K:Frag):Sp:=fun vs H Q _=>∃(a:Addr) (ns:List Int),vs=[.ref a]∧SqL K H a (ns.map V.int)∧ns.length≤63∧∀H',Q (.bl true) H'
def sp_law (K:Frag) (d:Ad):Sp:=sp_law0 K
include T in
theorem ok_law:FnOk P w K mg base CX0 25 d.f_law d.fd_law ["_law_script"] (sp_law K d):=by
 refine T.F_law.ok sc_law (fun vs H Q E h=>?_) (fun cdv A outer s H vs Q E hr h=>?_)
 ·obtain⟨a,ns,rfl,_⟩:=h;rfl
 obtain⟨a,ns,rfl,hS,h63,q⟩:=h
 refine⟨_,(qa2 (qag (i:=1) sc_law.nd rfl (Or.inl rfl) (qak qaz qa8 (qaa ((ok_mix T).mono (by decide)) hr rfl T.m_mix T.F_mix.kp T.b_mix .nil qaf (qa0 (qaa ((ok_cell T).mono (by decide)) hr rfl T.m_cell T.F_cell.kp T.b_cell .nil qaf (qa0 (pv 0) (qa0 qa8 qa1))) (qa0 qa8 (qa0 qa8 qa1))))))
  (qa2 (qag (i:=2) sc_law.nd rfl (Or.inl rfl) (qak qaz qa8 (qaa ((ok_mix T).mono (by decide)) hr rfl T.m_mix T.F_mix.kp T.b_mix .nil qaf (qa0 (qaa ((ok_cell T).mono (by decide)) hr rfl T.m_cell T.F_cell.kp T.b_cell .nil qaf (qa0 (pv 0) (qa0 qa8 qa1))) (qa0 qa8 (qa0 qa8 qa1))))))
  (qa2 (qag (i:=3) sc_law.nd rfl (Or.inl rfl) (qaa ((ok_names T).mono (by decide)) hr rfl T.m_names T.F_names.kp T.b_names .nil qaf (qa0 (qaa ((ok_cell T).mono (by decide)) hr rfl T.m_cell T.F_cell.kp T.b_cell .nil qaf (qa0 (pv 0) (qa0 qa8 qa1))) (qa0 (pv 1) qa1))))
  (qa2 (qag (i:=4) sc_law.nd rfl (Or.inl rfl) (qaa ((ok_names T).mono (by decide)) hr rfl T.m_names T.F_names.kp T.b_names .nil qaf (qa0 (qaa ((ok_cell T).mono (by decide)) hr rfl T.m_cell T.F_cell.kp T.b_cell .nil qaf (qa0 (pv 0) (qa0 qa8 qa1))) (qa0 (pv 2) qa1))))
  (qa2 (qag (i:=5) sc_law.nd rfl (Or.inl rfl) (qaa ((ok_elders T).mono (by decide)) hr rfl T.m_elders T.F_elders.kp T.b_elders .nil qaf (qa0 (pv 0) (qa0 qa8 (qa0 (pv 1) qa1)))))
  (qa2 (qag (i:=6) sc_law.nd rfl (Or.inl rfl) (qaa ((ok_promises T).mono (by decide)) hr rfl T.m_promises T.F_promises.kp T.b_promises .nil qaf (qa0 (pv 0) (qa0 (pv 1) (qa0 (pv 2) qa1)))))
  (qa2 (qag (i:=7) sc_law.nd rfl (Or.inl rfl) (qaa ((ok_tree T).mono (by decide)) hr rfl T.m_tree T.F_tree.kp T.b_tree .nil qaf (qa0 (pv 3) (qa0 (pv 4) (qa0 (pv 5) (qa0 (pv 6) (qa0 (qaa ((ok_limits T).mono (by decide)) hr rfl T.m_limits T.F_limits.kp T.b_limits .nil qaf (qa0 (pv 0) (qa0 (pv 5) (qa0 (pv 6) (qa0 (pv 2) qa1))))) qa1)))))))
  (qa2 (qag (i:=8) sc_law.nd rfl (Or.inl rfl) (qfh T.MK_Store ((ok_Store_init T).mono (by decide)) hr rfl T.m_Store T.b_Store_init .nil qaf (qa0 (pv 7) qa1)))
  (qa2 (qe7 (j:=9) (caps:=[]) (cn:=[]) (qbc rfl rfl (by rfl) (by rfl) rfl trivial (by rfl) rfl trivial (by decide)) rfl sc_law.nd rfl rfl (qb6 (pv 6)) (fun _ _ _ _=>qd3) (fun _ _ _ _=>(qbw qf7 rfl T.z_list PyProof.Rows.boot_list (qa0 (pv 0) qa1))))
  (qa2 (qbf PassesOwn.never rfl (qb7 rfl T.z_range (qa0 (qad (call_maxR rfl) rfl T.z_max PyProof.Rows.boot_max (qa0 qa8 (qa0 (qad (qel rfl) rfl T.z_min PyProof.Rows.boot_min (qa0 qa8 (qa0 (qak qex (qad qau rfl T.z_len PySem.boot_len (qa0 (pv 0) qa1)) qa8) qa1))) qa1))) qa1)) (qav (i:=10) sc_law.nd rfl (Or.inl rfl)) (qa4 (qbb (qci (qbo (qaa ((ok_deed T).mono (by decide)) hr rfl T.m_deed T.F_deed.kp T.b_deed .nil qaf (qa0 (qaa ((ok_cell T).mono (by decide)) hr rfl T.m_cell T.F_cell.kp T.b_cell .nil qaf (qa0 (pv 0) (qa0 (qak qaz qa8 (pv 10)) qa1))) (qa0 (pv 7) (qa0 (pv 8) (qa0 (pv 3) (qa0 (pv 4) (qa0 (pv 9) qa1))))))))) (qa4 (qae qd5)) qal)))
  (qa2 (qbf PassesOwn.never rfl (qb7 rfl T.z_range (qa0 (pv 1) qa1)) (qav (i:=11) sc_law.nd rfl (Or.inl rfl)) (qa4 (qbb (qci (qbo (qaa ((ok_granted T).mono (by decide)) hr rfl T.m_granted T.F_granted.kp T.b_granted .nil qaf (qa0 (pv 7) (qa0 (pv 8) (qa0 (qb4 qam (pv 3) (pv 11) (fun _ _=>rfl)) (qa0 (pv 4) (qa0 (qb4 qam (pv 9) (pv 11) (fun _ _=>rfl)) (qa0 qa8 qa1))))))))) (qa4 (qae qd5)) qal)))
  (qa4 (qae qd5))))))))))))),?_⟩
 walk_at "d"
 try dsimp only [cxC]
 refine qac (σ:=[some (.ref a),none,none,none,none,none,none,none,none,none,none,none]) rfl ?_
 have ct:=T.CL_Tree
 left
 refine⟨a,ns,1,rfl,hS,by decide,by decide,h63,fun c1=>?_⟩
 left
 refine qcf (by decide) (by decide) (by decide) (by decide) fun r1 r10 r11=>?_
 obtain⟨nh,enh⟩:∃nh:Nat,1+r1=(nh:Int):=⟨(1+r1).toNat,by omega⟩
 have n1:1≤nh:=by omega
 have n6:nh≤6:=by omega
 have n12:nh≤12:=by omega
 left
 rw [enh]
 clear enh r10 r11
 left
 refine⟨a,ns,1,rfl,hS,by decide,by decide,h63,fun c2=>?_⟩
 left
 refine qcf (by decide) (by decide) (by decide) (by decide) fun r3 r30 r31=>?_
 obtain⟨kd,ekd⟩:∃kd:Nat,1+r3=(kd:Int):=⟨(1+r3).toNat,by omega⟩
 have k1:1≤kd:=by omega
 have k3:kd≤3:=by omega
 left
 rw [ekd]
 clear ekd r30 r31
 left
 refine⟨a,ns,0,rfl,hS,by decide,by decide,h63,fun c3=>?_⟩
 left
 refine⟨c3,(nh:Int),rfl,by omega,by omega,fun ln nm H1 s1 eln hnm=>?_⟩
 rw [Int.toNat_natCast] at hnm
 have hS1:=s1.seq hS
 left
 refine⟨a,ns,2,rfl,hS1,by decide,by decide,h63,fun c4=>?_⟩
 left
 refine⟨c4,(kd:Int),rfl,by omega,by omega,fun lw ws H2 s2 elw hws=>?_⟩
 rw [Int.toNat_natCast] at hws
 have hS2:=s2.seq hS1
 have eln2:=s2 _ _ eln
 left
 refine⟨a,ns,3,nh,rfl,hS2,h63,by decide,by decide,n1,n12,fun le es H3 s3 ele hes hlo=>?_⟩
 have hS3:=s3.seq hS2
 have eln3:=s3 _ _ eln2
 have elw3:=s3 _ _ elw
 left
 refine⟨a,ns,nh,kd,rfl,hS3,h63,n1,n6,k1,k3,fun lq qs H4 s4 elq hql hq ho=>?_⟩
 have hS4:=s4.seq hS3
 have eln4:=s4 _ _ eln3
 have elw4:=s4 _ _ elw3
 have ele4:=s4 _ _ ele
 clear hS1 hS2 hS3 eln eln2 eln3 elw elw3 ele s1 s2 s3 s4 hS
 have lo1:∀(k e:Nat),es[k]?=some e→e≤k:=fun k e h=>(hlo k e h).1
 left
 refine⟨a,le,lq,ns,es,qs,kd,rfl,hS4,h63,ele4,lo1,by omega,elq,by omega,hq,ho,k1,k3,fun lc cs H5 s5 elc hcl hCs hsum=>?_⟩
 have hS5:=s5.seq hS4
 have eln5:=s5 _ _ eln4
 have elw5:=s5 _ _ elw4
 have ele5:=s5 _ _ ele4
 have elq5:=s5 _ _ elq
 have hq5:∀q∈qs,H5 q.1=some (.lst (q.2.map V.int))∧q.2.length=kd:=fun q h=>⟨s5 _ _ (hq q h).1,(hq q h).2⟩
 clear hS4 eln4 elw4 ele4 elq hq s5
 have wl:=hws.len
 have nl:=hnm.len
 subst wl
 have hQs:CsAt H5 ws.length qs:=fun q h=>⟨(hq5 q h).1,(hq5 q h).2,fun x hx=>⟨(ho q h x hx).lo,Int.le_trans (ho q h x hx).hi (by decide)⟩⟩
 left
 refine⟨ln,lw,le,lq,lc,qs,cs,nm,ws,es,rfl,eln5,elw5,ele5,elq5,by omega,hQs,elc,hcl,hCs,by rw [show es.length+1=nh by omega];exact hnm,hws,k1,k3,by omega,hlo,hsum,fun t S P wt H6 s6 enm ews ees etp etc pf hT hI=>?_⟩
 subst enm ews ees
 have hS6:=s6.seq hS5
 have eln6:=s6 _ _ eln5
 have elw6:=s6 _ _ elw5
 have elq6:=s6 _ _ elq5
 have hQ6:=hQs.same s6
 have hC6:=hCs.same s6
 have hne:P.nm.length=P.es.length+1:=by omega
 have n12':P.nm.length≤12:=by omega
 have hnd:=hws.nd
 have low:=elN_low lo1 P.nm.length
 have hpl:=hI.pl
 have hok:∀ls:List Pq,ls.map (·.2)=qs.map (·.2)→LvOk S P [] qs cs ls:=fun ls hl=>LvOk.start (H:=H6) hI pf etp etc (by omega) (by omega) hQ6 hC6 (by rw [hne];exact hsum) hl n12' ho
 have hhs:∀j,j < P.nm.length→(∃e,S.at (nmF P j)=some e)∧Dep S 12 (nmF P j):=fun j hj=>by
  obtain⟨e,ae,_,_⟩:=hI.pl.at hj
  exact⟨⟨e,ae⟩,hI.pl.dep 12 j hj (by have:=pf.n12;omega)⟩
 clear hS5 eln5 elw5 ele5 elq5 hq5 elc hCs hsum hQs hC6 etp etc hI pf s6 hlo
 generalize hni:((nh:Nat):Int)=ni at*
 generalize hkd:((P.ws.length:Nat):Int)=kdi at*
 left
 intro so dx hso hdx ne
 refine⟨so,dx,t,rfl,qa3,fun hd H7 hhd ex7 ed7 sb7=>⟨rfl,?_⟩⟩
 have nds:hd≠so:=fun z=>by subst z;rw [qa3] at hhd;cases hhd
 rw [qa6 nds] at hhd
 have hd6:H6 hd=none:=by
  by_cases e:hd=dx
  ·subst e;exact hdx
  ·rw [qa6 e] at hhd;exact hhd
 have s7:qaq H6 H7:=fun b o hb=>sb7 b o (qa5 hb hso) (by rw [qa6 (qa5 hb hso),qa6 (qa5 hb hdx)];exact hb)
 have a1:=hT.apart hso
 have a2:=hT.apart hd6
 have st7:StAt d H7 so t hd P []:=⟨⟨dx,ex7⟩,ed7,fun b hb=>by simp at hb,fun i b hb=>by simp at hb,by show 0≤60;decide⟩
 have eln7:=s7 _ _ eln6
 have elw7:=s7 _ _ elw6
 have elq7:=s7 _ _ elq6
 have hQ7:=hQ6.same s7
 have hT7:=hT.same s7
 clear sb7 ex7 ed7 hhd hdx ne
 left
 intro C s0 H0 fp ll hll
 refine c_by qs.length (fun i H'=>∃ls:List Pq,qaq H7 H'∧H' ll=some (.lst (qsV ls))∧ls.map (·.2)=(qs.take i).map (·.2)∧∀q∈ls,H' q.1=some (.lst (q.2.map V.int))∧q.1≠ll) ⟨[],qab hll _,qa3,rfl,fun q h=>by simp at h⟩ ?_ ?_ ?_ ?_
 ·rintro i H' hi ⟨ls,sm,_⟩
  exact⟨_,.ref qs[i].1,SqL.of (sm _ _ elq7),by unfold qsV;rw [zC,zA hi];rfl⟩
 ·rintro H' ⟨ls,sm,_⟩
  exact⟨_,SqL.of (sm _ _ elq7),by unfold qsV;rw [zB];exact Nat.le_refl _⟩
 ·rintro i H' v H'' hi ⟨ls,sm,el,hls,hr⟩ ⟨rfl,hv⟩
  have hv:=hv _ (SqL.of (sm _ _ elq7))
  unfold qsV at hv
  rw [zC,zA hi] at hv
  cases hv
  have tk:qs.take (i+1)=qs.take i++ [qs[i]]:=by rw [zS,zA hi];rfl
  have hqi:=sm _ _ (hQ7 _ (zL hi)).1
  have lsl:ls.length=i:=by have:=congrArg List.length hls;rw [zB,zB,yB] at this;omega
  generalize qs[i]=qi at*
  left
  refine r_listL (SqL.of hqi) fun l2 hl2=>?_
  have el2:=qa9 (o':=.lst (qi.2.map V.int)) el hl2
  have n2:l2≠ll:=(qa5 el hl2).symm
  have zl:(qsV ls).length < sizeLine:=by unfold qsV;rw [zB];show _ < 16777216;omega
  left
  refine⟨ls++ [(l2,qi.2)],qbe (qdb sm hl2) hll,by rw [qa3];unfold qsV;rw [zE];rfl,by rw [zE,hls,tk,zE];rfl,fun q h=>?_⟩
  rcases zU.mp h with h|h
  ·exact⟨by rw [qa6 (hr q h).2];exact qa9 (hr q h).1 hl2,(hr q h).2⟩
  ·rw [zI.mp h]
   exact⟨by rw [qa6 n2];exact qa3,n2⟩
 rintro H8 ⟨ls,s8,ell,hls,hr⟩
 rw [zZ] at hls
 have hll6:=s7.free hll
 have hrw:∀q∈ls,H8 q.1=some (.lst (q.2.map V.int))∧q.2.length=P.ws.length∧(∀x∈q.2,UOk x)∧q.1≠ll:=fun q h=>by
  have hm:q.2∈qs.map (·.2):=by rw [←hls];exact zJ.mpr ⟨q,h,rfl⟩
  obtain⟨q',hq',e⟩:=zJ.mp hm
  refine⟨(hr q h).1,?_,fun x hx=>?_,(hr q h).2⟩
  ·rw [←e];exact(hQ6 q' hq').2.1
  ·rw [←e] at hx;exact⟨(ho q' hq' x hx).lo,(ho q' hq' x hx).hi⟩
 have hv:LvAt K d H6 H8 so t hd ln lw ll S P [] qs cs ls:=⟨st7.same s8,fun b hb=>by simp at hb,⟨hT7.same s8,hpl.wf,hpl,rfl,hhs,k3⟩,a1,a2,hT.apart hll6,s8 _ _ eln7,s8 _ _ elw7,ell,hrw,s7.trans s8,hso,hd6,hll6,⟨qa5 eln6 hll6,qa5 elw6 hll6⟩,hok ls hls⟩
 clear hr hrw hls ell s8 s7 st7 eln7 elw7 elq7 hQ7 hT7 hQ6 eln6 elw6 elq6 hT hok hpl hhs a1 a2 hll6 hd6 hso hll nds
 have hS8:=hv.s0.seq hS6
 have lns:(((ns.map V.int).length:Nat):Int)=((ns.length:Nat):Int):=by rw [zB]
 have ln63:((ns.length:Nat):Int)≤63:=by omega
 left
 rw [lns]
 generalize ((ns.length:Nat):Int)=nsi at*
 left
 refine qc4 (fun i σ H'=>∃(bs:List Ob) (ls:List Pq) (w:Option V),σ=[some (V.ref a),some (V.int ni),some (V.int kdi),some (V.ref ln),some (V.ref lw),some (V.ref le),some (V.ref lq),some (V.ref t),some (V.ref so),some (V.ref ll),w,none]∧LvAt K d H6 H' so t hd ln lw ll S P bs qs cs ls∧bs.length≤i) ⟨[],ls,_,rfl,hv,Nat.le_refl _⟩ ?_ ?_
 ·rintro i σ H' hi ⟨bs,ls,w,rfl,v,hb⟩
  have hi28:i < 28:=by
   have:(if (if nsi - 16 < 28 then nsi - 16 else 28) > 4 then (if nsi - 16 < 28 then nsi - 16 else 28) else (4:Int))≤28:=by split <;> split <;> omega
   omega
  rw [Int.zero_add]
  clear hi
  left
  refine⟨a,ns,16+((i:Nat):Int),rfl,v.s0.seq hS6,by omega,by omega,h63,fun ci=>?_⟩
  left
  refine⟨ci,H6,so,t,hd,ln,lw,ll,S,P,bs,qs,cs,ls,rfl,v,by omega,by omega,k1,hnd,low,fun bs' ls' H'' v' hb'=>?_⟩
  left
  exact⟨bs',ls',_,rfl,v',by omega⟩
 rintro σ H' ⟨bs,ls,w,rfl,v,_⟩
 clear hv hS8
 have eni:ni.toNat=P.nm.length:=by omega
 have ni0:0≤ni:=by omega
 have ni6:ni≤6:=by omega
 left
 rw [eni]
 refine qc4 (fun i σ H''=>(∃w2:Option V,σ=[some (V.ref a),some (V.int ni),some (V.int kdi),some (V.ref ln),some (V.ref lw),some (V.ref le),some (V.ref lq),some (V.ref t),some (V.ref so),some (V.ref ll),w,w2])∧qaq H' H'') ⟨⟨_,rfl⟩,qaq.refl _⟩ ?_ ?_
 ·rintro i σ H'' hi ⟨⟨w2,rfl⟩,sm⟩
  rw [Int.zero_add]
  have v2:=v.same sm
  obtain⟨qi,hqm,hqg,xq,hqa⟩:=row_at v2 hi
  obtain⟨hrow,hrl,hro,_⟩:=v2.rw qi hqm
  have xn:atI (P.nm.map V.str) ((i:Nat):Int)=some (.str (nmF P i)):=by rw [qdt hi];exact qb3 (by rw [zC,zA hi];rfl)
  have hn2:=v2.hn
  have hl2:=v2.hl
  left
  refine qbn (SqL.of hn2) xn ?_
  left
  refine qbn (SqL.of hl2) xq ?_
  left
  refine⟨t,so,hd,lw,qi.1,S,P,bs,i,qi.2,0,rfl,v2.st,v2.wr,n12',hi,v2.hw,hrow,hrl,by omega,v2.grant hnd low hi hqm hqa (Wi.self hro) 0,fun H3 s3=>?_⟩
  left
  exact⟨⟨_,rfl⟩,sm.trans s3⟩
 rintro σ H'' ⟨⟨w2,rfl⟩,sm⟩
 left
 exact q _
structure Fz (K:Frag) (n:Str) (s:Stmt) (f:Addr) (fd:FuncData):Prop where
 a:nsIn K mainGlobals n=some (some (.ref f))
 F:Fun K n n s f fd
structure Fm (K:Frag) (c:Addr) (n q:Str) (s:Stmt) (f:Addr) (fd:FuncData):Prop where
 a:findIn K (.ref c) n=some (some (.ref f))
 F:Fun K n q s f fd
theorem Fz.m {K:Frag} {n:Str} {s:Stmt} {f:Addr} {fd:FuncData} {h:Heap} {mg:Str→Option Value} (g:Fz K n s f fd) (X:K.In h) (G:h.Ns mainGlobals mg):mg n=some (.ref f):=PySem.W.mg_of X G g.a
theorem ln1 {p:List Value→Prop} (h:∀x0:Value,p [x0]) (us:List Value) (e:us.length=1):p us:=by
 match us,e with
 | [x0],_=>exact h x0
theorem ln2 {p:List Value→Prop} (h:∀x0 x1:Value,p [x0,x1]) (us:List Value) (e:us.length=2):p us:=by
 match us,e with
 | [x0,x1],_=>exact h x0 x1
theorem ln3 {p:List Value→Prop} (h:∀x0 x1 x2:Value,p [x0,x1,x2]) (us:List Value) (e:us.length=3):p us:=by
 match us,e with
 | [x0,x1,x2],_=>exact h x0 x1 x2
theorem ln4 {p:List Value→Prop} (h:∀x0 x1 x2 x3:Value,p [x0,x1,x2,x3]) (us:List Value) (e:us.length=4):p us:=by
 match us,e with
 | [x0,x1,x2,x3],_=>exact h x0 x1 x2 x3
theorem ln5 {p:List Value→Prop} (h:∀x0 x1 x2 x3 x4:Value,p [x0,x1,x2,x3,x4]) (us:List Value) (e:us.length=5):p us:=by
 match us,e with
 | [x0,x1,x2,x3,x4],_=>exact h x0 x1 x2 x3 x4
theorem ln6 {p:List Value→Prop} (h:∀x0 x1 x2 x3 x4 x5:Value,p [x0,x1,x2,x3,x4,x5]) (us:List Value) (e:us.length=6):p us:=by
 match us,e with
 | [x0,x1,x2,x3,x4,x5],_=>exact h x0 x1 x2 x3 x4 x5
theorem txt_mk {K:Frag} {h:Heap} {mg:Str→Option Value} {fa:Addr} {f_z0 f_z1 f_z2 f_z3 f_z4 f_z5 f_z6 f_z7 f_z8 f_z9 f_z10 f_z11 f_z12 f_z13 f_z14 f_z15 f_z16 f_z17 f_z18 f_z19 f_z20 f_z21 f_z22 f_z23 f_z24 f_z25 f_z26 f_z27 f_z28 f_z29 f_z30 f_z31 f_z32 f_z33 f_z34 f_z35 f_law f_z37 f_z38 f_z39 f_z40 f_z41 f_z42 f_z43 f_z44 f_z45 f_z46 f_z47 f_z48 f_z49 f_z50 f_z51 f_z52 f_z53 f_z54 f_z55 f_z56 f_z57 f_z58 f_z59 f_z60 f_z61 f_z62 f_z63 f_z64 f_z65 f_z66 f_z67 c_House c_Tree c_Hold c_Loan c_Store c_TreeError c_NoName c_Taken c_NoHouse c_NoPromise c_NoWare c_NoAmount c_NoNumber c_TooMany c_TooDeep:Addr} {d_z0 d_z1 d_z2 d_z3 d_z4 d_z5 d_z6 d_z7 d_z8 d_z9 d_z10 d_z11 d_z12 d_z13 d_z14 d_z15 d_z16 d_z17 d_z18 d_z19 d_z20 d_z21 d_z22 d_z23 d_z24 d_z25 d_z26 d_z27 d_z28 d_z29 d_z30 d_z31 d_z32 d_z33 d_z34 d_z35 d_law d_z37 d_z40 d_z41 d_z42 d_z43 d_z44 d_z45 d_z46 d_z47 d_z48 d_z49 d_z50 d_z51 d_z52 d_z53 d_z54 d_z55 d_z56 d_z57 d_z58 d_z59 d_z60 d_z61 d_z63 d_z64 d_z65 d_z66 d_z67:FuncData} (X:K.In h) (G:h.Ns mainGlobals mg) (hfa:mg "law" =some (.ref fa))
  (g_z0:Fz K "is_whole" s_is_whole f_z0 d_z0)
  (g_z1:Fz K "is_name" s_is_name f_z1 d_z1)
  (g_z2:Fz K "is_whole_from" s_is_whole_from f_z2 d_z2)
  (g_z3:Fz K "is_amount" s_is_amount f_z3 d_z3)
  (g_z4:Fz K "amounts_of" s_amounts_of f_z4 d_z4)
  (g_z5:Fz K "above_nought" s_above_nought f_z5 d_z5)
  (g_z6:Fz K "amount_of" s_amount_of f_z6 d_z6)
  (g_z7:Fz K "added" s_added f_z7 d_z7)
  (g_z8:Fz K "beyond" s_beyond f_z8 d_z8)
  (g_z9:Fz K "total_of" s_total_of f_z9 d_z9)
  (g_z10:Fz K "made" s_made f_z10 d_z10)
  (g_z11:Fz K "holds_beneath" s_holds_beneath f_z11 d_z11)
  (g_z12:Fz K "held_by" s_held_by f_z12 d_z12)
  (g_z13:Fz K "taking" s_taking f_z13 d_z13)
  (g_z14:Fz K "used" s_used f_z14 d_z14)
  (g_z15:Fz K "fixed" s_fixed f_z15 d_z15)
  (g_z16:Fz K "rooms_left" s_rooms_left f_z16 d_z16)
  (g_z17:Fz K "first_lack" s_first_lack f_z17 d_z17)
  (g_z18:Fz K "reason" s_reason f_z18 d_z18)
  (g_z19:Fz K "are_wares" s_are_wares f_z19 d_z19)
  (g_z20:Fz K "check_name" s_check_name f_z20 d_z20)
  (g_z21:Fz K "read_house" s_read_house f_z21 d_z21)
  (g_z22:Fz K "check_promises" s_check_promises f_z22 d_z22)
  (g_z23:Fz K "_law_cell" s_cell f_z23 d_z23)
  (g_z24:Fz K "_law_mix" s_mix f_z24 d_z24)
  (g_z25:Fz K "_law_names" s_names f_z25 d_z25)
  (g_z26:Fz K "_law_elders" s_elders f_z26 d_z26)
  (g_z27:Fz K "_law_line" s_line f_z27 d_z27)
  (g_z28:Fz K "_law_told" s_told f_z28 d_z28)
  (g_z29:Fz K "_law_parts" s_parts f_z29 d_z29)
  (g_z30:Fz K "_law_promises" s_promises f_z30 d_z30)
  (g_z31:Fz K "_law_limits" s_limits f_z31 d_z31)
  (g_z32:Fz K "_law_tree" s_tree f_z32 d_z32)
  (g_z33:Fz K "_law_within" s_within f_z33 d_z33)
  (g_z34:Fz K "_law_granted" s_granted f_z34 d_z34)
  (g_z35:Fz K "_law_deed" s_deed f_z35 d_z35)
  (g_law:Fz K "law" s_law f_law d_law)
  (g_z37:Fm K c_House "__init__" "House.__init__" s_House_init f_z37 d_z37)
  {od_z38 an_z38:Option Addr} {sl_z38:Array (Option Value)} {oc_z38 kV_z38 dc_z38 pm_z38 cd_z38 ct_z38 v0_Tree_init:Value} {t_z38:Addr}
  (a_z38:findIn K (.ref c_Tree) "__init__" =some (some (.ref f_z38))) (l_z38:K.lookup f_z38=some ⟨oc_z38,od_z38,.func (fnOf "__init__" "Tree.__init__" (qbx s_Tree_init) (qbj s_Tree_init) (qa7 s_Tree_init) (.ref t_z38) kV_z38 dc_z38 pm_z38 an_z38 cd_z38 ct_z38),sl_z38⟩) (c_z38:codeIn K cd_z38 "Tree.__init__" =true) (k_z38:keepIn K (.ref f_z38)=true)
  {ob_z38:Obj} {nn_z38:Nat} (tt_z38:K.lookup t_z38=some ob_z38) (td_z38:ob_z38.data=.seq #[v0_Tree_init] nn_z38) (rd_z38:qb9 [.int 1] [v0_Tree_init])
  {od_z39 an_z39:Option Addr} {sl_z39:Array (Option Value)} {oc_z39 kV_z39 dc_z39 pm_z39 cd_z39 ct_z39 v0_Tree_found:Value} {t_z39:Addr}
  (a_z39:findIn K (.ref c_Tree) "found" =some (some (.ref f_z39))) (l_z39:K.lookup f_z39=some ⟨oc_z39,od_z39,.func (fnOf "found" "Tree.found" (qbx s_Tree_found) (qbj s_Tree_found) (qa7 s_Tree_found) (.ref t_z39) kV_z39 dc_z39 pm_z39 an_z39 cd_z39 ct_z39),sl_z39⟩) (c_z39:codeIn K cd_z39 "Tree.found" =true) (k_z39:keepIn K (.ref f_z39)=true)
  {ob_z39:Obj} {nn_z39:Nat} (tt_z39:K.lookup t_z39=some ob_z39) (td_z39:ob_z39.data=.seq #[v0_Tree_found] nn_z39) (rd_z39:qb9 [.int 1] [v0_Tree_found])
  (g_z40:Fm K c_Tree "wares" "Tree.wares" s_Tree_wares f_z40 d_z40)
  (g_z41:Fm K c_Tree "names" "Tree.names" s_Tree_names f_z41 d_z41)
  (g_z42:Fm K c_Tree "has" "Tree.has" s_Tree_has f_z42 d_z42)
  (g_z43:Fm K c_Tree "check_house" "Tree.check_house" s_Tree_check_house f_z43 d_z43)
  (g_z44:Fm K c_Tree "house_of" "Tree.house_of" s_Tree_house_of f_z44 d_z44)
  (g_z45:Fm K c_Tree "elder_of" "Tree.elder_of" s_Tree_elder_of f_z45 d_z45)
  (g_z46:Fm K c_Tree "promise_of" "Tree.promise_of" s_Tree_promise_of f_z46 d_z46)
  (g_z47:Fm K c_Tree "cap_of" "Tree.cap_of" s_Tree_cap_of f_z47 d_z47)
  (g_z48:Fm K c_Tree "kids" "Tree.kids" s_Tree_kids f_z48 d_z48)
  (g_z49:Fm K c_Tree "line" "Tree.line" s_Tree_line f_z49 d_z49)
  (g_z50:Fm K c_Tree "beneath" "Tree.beneath" s_Tree_beneath f_z50 d_z50)
  (g_z51:Fm K c_Tree "promised_beneath" "Tree.promised_beneath" s_Tree_promised_beneath f_z51 d_z51)
  (g_z52:Fm K c_Tree "check_more" "Tree.check_more" s_Tree_check_more f_z52 d_z52)
  (g_z53:Fm K c_Hold "__init__" "Hold.__init__" s_Hold_init f_z53 d_z53)
  (g_z54:Fm K c_Hold "is_sure" "Hold.is_sure" s_Hold_is_sure f_z54 d_z54)
  (g_z55:Fm K c_Hold "may_end" "Hold.may_end" s_Hold_may_end f_z55 d_z55)
  (g_z56:Fm K c_Loan "is_sure" "Loan.is_sure" s_Loan_is_sure f_z56 d_z56)
  (g_z57:Fm K c_Loan "may_end" "Loan.may_end" s_Loan_may_end f_z57 d_z57)
  (g_z58:Fm K c_Store "__init__" "Store.__init__" s_Store_init f_z58 d_z58)
  (g_z59:Fm K c_Store "put" "Store.put" s_Store_put f_z59 d_z59)
  (g_z60:Fm K c_Store "keeps" "Store.keeps" s_Store_keeps f_z60 d_z60)
  (g_z61:Fm K c_Store "numbers" "Store.numbers" s_Store_numbers f_z61 d_z61)
  {od_z62 an_z62:Option Addr} {sl_z62:Array (Option Value)} {oc_z62 kV_z62 dc_z62 pm_z62 cd_z62 ct_z62 v0_Store_under:Value} {t_z62:Addr}
  (a_z62:findIn K (.ref c_Store) "under" =some (some (.ref f_z62))) (l_z62:K.lookup f_z62=some ⟨oc_z62,od_z62,.func (fnOf "under" "Store.under" (qbx s_Store_under) (qbj s_Store_under) (qa7 s_Store_under) (.ref t_z62) kV_z62 dc_z62 pm_z62 an_z62 cd_z62 ct_z62),sl_z62⟩) (c_z62:codeIn K cd_z62 "Store.under" =true) (k_z62:keepIn K (.ref f_z62)=true)
  {ob_z62:Obj} {nn_z62:Nat} (tt_z62:K.lookup t_z62=some ob_z62) (td_z62:ob_z62.data=.seq #[v0_Store_under] nn_z62) (rd_z62:qb9 [.non] [v0_Store_under])
  (g_z63:Fm K c_Store "at_house" "Store.at_house" s_Store_at_house f_z63 d_z63)
  (g_z64:Fm K c_Store "promised_but" "Store.promised_but" s_Store_promised_but f_z64 d_z64)
  (g_z65:Fm K c_Store "too_much" "Store.too_much" s_Store_too_much f_z65 d_z65)
  (g_z66:Fm K c_Store "check_fits" "Store.check_fits" s_Store_check_fits f_z66 d_z66)
  (g_z67:Fm K c_NoPromise "__init__" "NoPromise.__init__" s_i_NoPromise f_z67 d_z67)
  (qi_z67:initIn K c_NoPromise f_z67=true) (hi_z67:isFn K (.ref f_z67)=true)
  (a_House:nsIn K mainGlobals "House" =some (some (.ref c_House)))
  (a_Tree:nsIn K mainGlobals "Tree" =some (some (.ref c_Tree)))
  (a_Hold:nsIn K mainGlobals "Hold" =some (some (.ref c_Hold)))
  (a_Loan:nsIn K mainGlobals "Loan" =some (some (.ref c_Loan)))
  (a_Store:nsIn K mainGlobals "Store" =some (some (.ref c_Store)))
  (a_TreeError:nsIn K mainGlobals "TreeError" =some (some (.ref c_TreeError)))
  (a_NoName:nsIn K mainGlobals "NoName" =some (some (.ref c_NoName)))
  (a_Taken:nsIn K mainGlobals "Taken" =some (some (.ref c_Taken)))
  (a_NoHouse:nsIn K mainGlobals "NoHouse" =some (some (.ref c_NoHouse)))
  (a_NoPromise:nsIn K mainGlobals "NoPromise" =some (some (.ref c_NoPromise)))
  (a_NoWare:nsIn K mainGlobals "NoWare" =some (some (.ref c_NoWare)))
  (a_NoAmount:nsIn K mainGlobals "NoAmount" =some (some (.ref c_NoAmount)))
  (a_NoNumber:nsIn K mainGlobals "NoNumber" =some (some (.ref c_NoNumber)))
  (a_TooMany:nsIn K mainGlobals "TooMany" =some (some (.ref c_TooMany)))
  (a_TooDeep:nsIn K mainGlobals "TooDeep" =some (some (.ref c_TooDeep)))
  {u_LETTERS:Value} (a_LETTERS:nsIn K mainGlobals "LETTERS" =some (some u_LETTERS)) (r_LETTERS:qb1 (.str "abcdefghijklmnopqrstuvwxyz") u_LETTERS)
  {u_LONGEST_NAME:Value} (a_LONGEST_NAME:nsIn K mainGlobals "LONGEST_NAME" =some (some u_LONGEST_NAME)) (r_LONGEST_NAME:qb1 (.int 8) u_LONGEST_NAME)
  {u_MOST_WARES:Value} (a_MOST_WARES:nsIn K mainGlobals "MOST_WARES" =some (some u_MOST_WARES)) (r_MOST_WARES:qb1 (.int 6) u_MOST_WARES)
  {u_MOST_HOUSES:Value} (a_MOST_HOUSES:nsIn K mainGlobals "MOST_HOUSES" =some (some u_MOST_HOUSES)) (r_MOST_HOUSES:qb1 (.int 40) u_MOST_HOUSES)
  {u_LONGEST_LINE:Value} (a_LONGEST_LINE:nsIn K mainGlobals "LONGEST_LINE" =some (some u_LONGEST_LINE)) (r_LONGEST_LINE:qb1 (.int 12) u_LONGEST_LINE)
  {u_GREATEST_WEIGHT:Value} (a_GREATEST_WEIGHT:nsIn K mainGlobals "GREATEST_WEIGHT" =some (some u_GREATEST_WEIGHT)) (r_GREATEST_WEIGHT:qb1 (.int 1000) u_GREATEST_WEIGHT)
  (q_NoHouse:excIn K c_NoHouse [.type "ValueError",.type "Exception",.type "BaseException",.type "object"] "ValueError.__new__" =true)
  (q_NoAmount:excIn K c_NoAmount [.type "ValueError",.type "Exception",.type "BaseException",.type "object"] "ValueError.__new__" =true)
  (q_NoWare:excIn K c_NoWare [.type "ValueError",.type "Exception",.type "BaseException",.type "object"] "ValueError.__new__" =true)
  (q_NoName:excIn K c_NoName [.type "ValueError",.type "Exception",.type "BaseException",.type "object"] "ValueError.__new__" =true)
  (q_NoNumber:excIn K c_NoNumber [.type "ValueError",.type "Exception",.type "BaseException",.type "object"] "ValueError.__new__" =true)
  (q_Taken:excIn K c_Taken [.type "ValueError",.type "Exception",.type "BaseException",.type "object"] "ValueError.__new__" =true)
  (q_TooMany:excIn K c_TooMany [.type "ValueError",.type "Exception",.type "BaseException",.type "object"] "ValueError.__new__" =true)
  (q_TooDeep:excIn K c_TooDeep [.type "ValueError",.type "Exception",.type "BaseException",.type "object"] "ValueError.__new__" =true)
  (ME_Hold_is_sure:Meth K c_Hold "is_sure" f_z54)
  (ME_Loan_is_sure:Meth K c_Loan "is_sure" f_z56)
  (CL_Store:Cls K c_Store)
  (MK_Store:Mk K c_Store f_z58)
  (ME_Hold_may_end:Meth K c_Hold "may_end" f_z55)
  (ME_Loan_may_end:Meth K c_Loan "may_end" f_z57)
  (CL_House:Cls K c_House)
  (CL_Tree:Cls K c_Tree)
  (MK_House:Mk K c_House f_z37)
  (MK_Tree:Mk K c_Tree f_z38)
  (CL_Hold:Cls K c_Hold)
  (CL_Loan:Cls K c_Loan)
  (MK_Hold:Mk K c_Hold f_z53)
  (MK_Loan:Mk K c_Loan f_z53)
  (ME_Tree_found:Meth K c_Tree "found" f_z39)
  (ME_Tree_wares:Meth K c_Tree "wares" f_z40)
  (ME_Tree_names:Meth K c_Tree "names" f_z41)
  (ME_Tree_has:Meth K c_Tree "has" f_z42)
  (ME_Tree_check_house:Meth K c_Tree "check_house" f_z43)
  (ME_Tree_house_of:Meth K c_Tree "house_of" f_z44)
  (ME_Tree_elder_of:Meth K c_Tree "elder_of" f_z45)
  (ME_Tree_promise_of:Meth K c_Tree "promise_of" f_z46)
  (ME_Tree_cap_of:Meth K c_Tree "cap_of" f_z47)
  (ME_Tree_kids:Meth K c_Tree "kids" f_z48)
  (ME_Tree_line:Meth K c_Tree "line" f_z49)
  (ME_Tree_beneath:Meth K c_Tree "beneath" f_z50)
  (ME_Tree_promised_beneath:Meth K c_Tree "promised_beneath" f_z51)
  (ME_Tree_check_more:Meth K c_Tree "check_more" f_z52)
  (ME_Store_put:Meth K c_Store "put" f_z59)
  (ME_Store_keeps:Meth K c_Store "keeps" f_z60)
  (ME_Store_numbers:Meth K c_Store "numbers" f_z61)
  (ME_Store_under:Meth K c_Store "under" f_z62)
  (ME_Store_at_house:Meth K c_Store "at_house" f_z63)
  (ME_Store_promised_but:Meth K c_Store "promised_but" f_z64)
  (ME_Store_too_much:Meth K c_Store "too_much" f_z65)
  (ME_Store_check_fits:Meth K c_Store "check_fits" f_z66)
  (NA_Store_tree:findIn K (.ref c_Store) "tree" =some none)
  (NA_Store_holds:findIn K (.ref c_Store) "holds" =some none)
  (NA_Store_last:findIn K (.ref c_Store) "last" =some none)
  (NA_House_elder:findIn K (.ref c_House) "elder" =some none)
  (NA_House_promise:findIn K (.ref c_House) "promise" =some none)
  (NA_House_cap:findIn K (.ref c_House) "cap" =some none)
  (NA_House_weight:findIn K (.ref c_House) "weight" =some none)
  (NA_Tree_sorted_wares:findIn K (.ref c_Tree) "sorted_wares" =some none)
  (NA_Tree_houses:findIn K (.ref c_Tree) "houses" =some none)
  (NA_Hold_number:findIn K (.ref c_Hold) "number" =some none)
  (NA_Hold_house:findIn K (.ref c_Hold) "house" =some none)
  (NA_Hold_amounts:findIn K (.ref c_Hold) "amounts" =some none)
  (NA_Hold_rank:findIn K (.ref c_Hold) "rank" =some none)
  (NA_Hold_turns:findIn K (.ref c_Hold) "turns" =some none)
  (NA_Loan_number:findIn K (.ref c_Loan) "number" =some none)
  (NA_Loan_house:findIn K (.ref c_Loan) "house" =some none)
  (NA_Loan_amounts:findIn K (.ref c_Loan) "amounts" =some none)
  (NA_Loan_rank:findIn K (.ref c_Loan) "rank" =some none)
  (NA_Loan_turns:findIn K (.ref c_Loan) "turns" =some none)
  (y_all:nsIn K mainGlobals "all" =some none)
  (y_bool:nsIn K mainGlobals "bool" =some none)
  (y_dict:nsIn K mainGlobals "dict" =some none)
  (y_int:nsIn K mainGlobals "int" =some none)
  (y_isinstance:nsIn K mainGlobals "isinstance" =some none)
  (y_len:nsIn K mainGlobals "len" =some none)
  (y_list:nsIn K mainGlobals "list" =some none)
  (y_max:nsIn K mainGlobals "max" =some none)
  (y_min:nsIn K mainGlobals "min" =some none)
  (y_range:nsIn K mainGlobals "range" =some none)
  (y_set:nsIn K mainGlobals "set" =some none)
  (y_sorted:nsIn K mainGlobals "sorted" =some none)
  (y_str:nsIn K mainGlobals "str" =some none)
  (y_sum:nsIn K mainGlobals "sum" =some none)
  (y_zip:nsIn K mainGlobals "zip" =some none)
  :∃d:Ad,Tx K mg d∧fa=d.f_law∧∀(s:Shared) (v:Value),BindsTo s d.fd_law ⟨[v], []⟩ [("_law_script",v)]:=by
 have e:=hfa.symm.trans (g_law.m X G)
 cases e
 have Fl:=g_law.F
 obtain⟨_,_,_,_,_,_,_,_,_,rfl,_,_⟩:=Fl.ex
 have F_z38:=funD_mk (st:=s_Tree_init) l_z38 c_z38 k_z38 tt_z38 td_z38
 have b_z38:qah K _ ["self","wares","name","promise","cap","weight"] []:=F_z38.binds (ps:=["self","wares","name","promise","cap","weight"]) fun _ _ _ _ _ _ us hl=>by have e:us.length=6:=(by simpa using hl);clear hl;revert us e;exact ln6 fun _ _ _ _ _ _=>by first|exact .inl rfl|exact .inr ⟨_,rfl,rfl⟩
 have b1_z38:qah K _ ["self","wares","name","promise","cap","weight"] [v0_Tree_init]:=F_z38.binds (ps:=["self","wares","name","promise","cap","weight"]) fun _ _ _ _ _ _ us hl=>by have e:us.length=5:=(by simpa using hl);clear hl;revert us e;exact ln5 fun _ _ _ _ _=>by first|exact .inl rfl|exact .inr ⟨_,rfl,rfl⟩
 have F_z39:=funD_mk (st:=s_Tree_found) l_z39 c_z39 k_z39 tt_z39 td_z39
 have b_z39:qah K _ ["self","name","elder","promise","cap","weight"] []:=F_z39.binds (ps:=["self","name","elder","promise","cap","weight"]) fun _ _ _ _ _ _ us hl=>by have e:us.length=6:=(by simpa using hl);clear hl;revert us e;exact ln6 fun _ _ _ _ _ _=>by first|exact .inl rfl|exact .inr ⟨_,rfl,rfl⟩
 have b1_z39:qah K _ ["self","name","elder","promise","cap","weight"] [v0_Tree_found]:=F_z39.binds (ps:=["self","name","elder","promise","cap","weight"]) fun _ _ _ _ _ _ us hl=>by have e:us.length=5:=(by simpa using hl);clear hl;revert us e;exact ln5 fun _ _ _ _ _=>by first|exact .inl rfl|exact .inr ⟨_,rfl,rfl⟩
 have F_z62:=funD_mk (st:=s_Store_under) l_z62 c_z62 k_z62 tt_z62 td_z62
 have b_z62:qah K _ ["self","house"] []:=F_z62.binds (ps:=["self","house"]) fun _ _ _ _ _ _ us hl=>by have e:us.length=2:=(by simpa using hl);clear hl;revert us e;exact ln2 fun _ _=>by first|exact .inl rfl|exact .inr ⟨_,rfl,rfl⟩
 have b1_z62:qah K _ ["self","house"] [v0_Store_under]:=F_z62.binds (ps:=["self","house"]) fun _ _ _ _ _ _ us hl=>by have e:us.length=1:=(by simpa using hl);clear hl;revert us e;exact ln1 fun _=>by first|exact .inl rfl|exact .inr ⟨_,rfl,rfl⟩
 refine⟨⟨_,_,_,_,_,_,_,_,_,_,_,_,_,_,_,_,_,_,_,_,_,_,_,_,_,_,_,_,_,_,_,_,_,_,_,_,_,_,_,_,_,_,_,_,_,_,_,_,_,_,_,_,_,_,_,_,_,_,_,_,_,_,_,_,_,_,_,_,_,_,_,_,_,_,_,_,_,_,t_z38,v0_Tree_init,_,_,t_z39,v0_Tree_found,_,_,_,_,_,_,_,_,_,_,_,_,_,_,_,_,_,_,_,_,_,_,_,_,_,_,_,_,_,_,_,_,_,_,_,_,_,_,_,_,_,_,_,_,_,_,t_z62,v0_Store_under,_,_,_,_,_,_,_,_,_,_,c_House,c_Tree,c_Hold,c_Loan,c_Store,c_TreeError,c_NoName,c_Taken,c_NoHouse,c_NoPromise,c_NoWare,c_NoAmount,c_NoNumber,c_TooMany,c_TooDeep,u_LETTERS,u_LONGEST_NAME,u_MOST_WARES,u_MOST_HOUSES,u_LONGEST_LINE,u_GREATEST_WEIGHT⟩,⟨g_z0.F,g_z0.m X G,g_z0.F.binds fun _ _ _ _ _ _=>ln1 fun _=>rfl,g_z1.F,g_z1.m X G,g_z1.F.binds fun _ _ _ _ _ _=>ln1 fun _=>rfl,g_z2.F,g_z2.m X G,g_z2.F.binds fun _ _ _ _ _ _=>ln3 fun _ _ _=>rfl,g_z3.F,g_z3.m X G,g_z3.F.binds fun _ _ _ _ _ _=>ln1 fun _=>rfl,g_z4.F,g_z4.m X G,g_z4.F.binds fun _ _ _ _ _ _=>ln2 fun _ _=>rfl,g_z5.F,g_z5.m X G,g_z5.F.binds fun _ _ _ _ _ _=>ln1 fun _=>rfl,g_z6.F,g_z6.m X G,g_z6.F.binds fun _ _ _ _ _ _=>ln2 fun _ _=>rfl,g_z7.F,g_z7.m X G,g_z7.F.binds fun _ _ _ _ _ _=>ln2 fun _ _=>rfl,g_z8.F,g_z8.m X G,g_z8.F.binds fun _ _ _ _ _ _=>ln2 fun _ _=>rfl,g_z9.F,g_z9.m X G,g_z9.F.binds fun _ _ _ _ _ _=>ln1 fun _=>rfl,g_z10.F,g_z10.m X G,g_z10.F.binds fun _ _ _ _ _ _=>ln6 fun _ _ _ _ _ _=>rfl,g_z11.F,g_z11.m X G,g_z11.F.binds fun _ _ _ _ _ _=>ln3 fun _ _ _=>rfl,g_z12.F,g_z12.m X G,g_z12.F.binds fun _ _ _ _ _ _=>ln1 fun _=>rfl,g_z13.F,g_z13.m X G,g_z13.F.binds fun _ _ _ _ _ _=>ln4 fun _ _ _ _=>rfl,g_z14.F,g_z14.m X G,g_z14.F.binds fun _ _ _ _ _ _=>ln3 fun _ _ _=>rfl,g_z15.F,g_z15.m X G,g_z15.F.binds fun _ _ _ _ _ _=>ln3 fun _ _ _=>rfl,g_z16.F,g_z16.m X G,g_z16.F.binds fun _ _ _ _ _ _=>ln4 fun _ _ _ _=>rfl,g_z17.F,g_z17.m X G,g_z17.F.binds fun _ _ _ _ _ _=>ln4 fun _ _ _ _=>rfl,g_z18.F,g_z18.m X G,g_z18.F.binds fun _ _ _ _ _ _=>ln6 fun _ _ _ _ _ _=>rfl,g_z19.F,g_z19.m X G,g_z19.F.binds fun _ _ _ _ _ _=>ln1 fun _=>rfl,g_z20.F,g_z20.m X G,g_z20.F.binds fun _ _ _ _ _ _=>ln1 fun _=>rfl,g_z21.F,g_z21.m X G,g_z21.F.binds fun _ _ _ _ _ _=>ln5 fun _ _ _ _ _=>rfl,g_z22.F,g_z22.m X G,g_z22.F.binds fun _ _ _ _ _ _=>ln3 fun _ _ _=>rfl,g_z23.F,g_z23.m X G,g_z23.F.binds fun _ _ _ _ _ _=>ln2 fun _ _=>rfl,g_z24.F,g_z24.m X G,g_z24.F.binds fun _ _ _ _ _ _=>ln3 fun _ _ _=>rfl,g_z25.F,g_z25.m X G,g_z25.F.binds fun _ _ _ _ _ _=>ln2 fun _ _=>rfl,g_z26.F,g_z26.m X G,g_z26.F.binds fun _ _ _ _ _ _=>ln3 fun _ _ _=>rfl,g_z27.F,g_z27.m X G,g_z27.F.binds fun _ _ _ _ _ _=>ln2 fun _ _=>rfl,g_z28.F,g_z28.m X G,g_z28.F.binds fun _ _ _ _ _ _=>ln2 fun _ _=>rfl,g_z29.F,g_z29.m X G,g_z29.F.binds fun _ _ _ _ _ _=>ln3 fun _ _ _=>rfl,g_z30.F,g_z30.m X G,g_z30.F.binds fun _ _ _ _ _ _=>ln3 fun _ _ _=>rfl,g_z31.F,g_z31.m X G,g_z31.F.binds fun _ _ _ _ _ _=>ln4 fun _ _ _ _=>rfl,g_z32.F,g_z32.m X G,g_z32.F.binds fun _ _ _ _ _ _=>ln5 fun _ _ _ _ _=>rfl,g_z33.F,g_z33.m X G,g_z33.F.binds fun _ _ _ _ _ _=>ln2 fun _ _=>rfl,g_z34.F,g_z34.m X G,g_z34.F.binds fun _ _ _ _ _ _=>ln6 fun _ _ _ _ _ _=>rfl,g_z35.F,g_z35.m X G,g_z35.F.binds fun _ _ _ _ _ _=>ln6 fun _ _ _ _ _ _=>rfl,Fl,g_law.m X G,g_z37.F,g_z37.F.binds fun _ _ _ _ _ _=>ln5 fun _ _ _ _ _=>rfl,F_z38,b_z38,b1_z38,rd_z38,F_z39,b_z39,b1_z39,rd_z39,g_z40.F,g_z40.F.binds fun _ _ _ _ _ _=>ln1 fun _=>rfl,g_z41.F,g_z41.F.binds fun _ _ _ _ _ _=>ln1 fun _=>rfl,g_z42.F,g_z42.F.binds fun _ _ _ _ _ _=>ln2 fun _ _=>rfl,g_z43.F,g_z43.F.binds fun _ _ _ _ _ _=>ln2 fun _ _=>rfl,g_z44.F,g_z44.F.binds fun _ _ _ _ _ _=>ln2 fun _ _=>rfl,g_z45.F,g_z45.F.binds fun _ _ _ _ _ _=>ln2 fun _ _=>rfl,g_z46.F,g_z46.F.binds fun _ _ _ _ _ _=>ln2 fun _ _=>rfl,g_z47.F,g_z47.F.binds fun _ _ _ _ _ _=>ln2 fun _ _=>rfl,g_z48.F,g_z48.F.binds fun _ _ _ _ _ _=>ln2 fun _ _=>rfl,g_z49.F,g_z49.F.binds fun _ _ _ _ _ _=>ln2 fun _ _=>rfl,g_z50.F,g_z50.F.binds fun _ _ _ _ _ _=>ln2 fun _ _=>rfl,g_z51.F,g_z51.F.binds fun _ _ _ _ _ _=>ln2 fun _ _=>rfl,g_z52.F,g_z52.F.binds fun _ _ _ _ _ _=>ln3 fun _ _ _=>rfl,g_z53.F,g_z53.F.binds fun _ _ _ _ _ _=>ln6 fun _ _ _ _ _ _=>rfl,g_z54.F,g_z54.F.binds fun _ _ _ _ _ _=>ln1 fun _=>rfl,g_z55.F,g_z55.F.binds fun _ _ _ _ _ _=>ln3 fun _ _ _=>rfl,g_z56.F,g_z56.F.binds fun _ _ _ _ _ _=>ln1 fun _=>rfl,g_z57.F,g_z57.F.binds fun _ _ _ _ _ _=>ln3 fun _ _ _=>rfl,g_z58.F,g_z58.F.binds fun _ _ _ _ _ _=>ln2 fun _ _=>rfl,g_z59.F,g_z59.F.binds fun _ _ _ _ _ _=>ln6 fun _ _ _ _ _ _=>rfl,g_z60.F,g_z60.F.binds fun _ _ _ _ _ _=>ln2 fun _ _=>rfl,g_z61.F,g_z61.F.binds fun _ _ _ _ _ _=>ln1 fun _=>rfl,F_z62,b_z62,b1_z62,rd_z62,g_z63.F,g_z63.F.binds fun _ _ _ _ _ _=>ln2 fun _ _=>rfl,g_z64.F,g_z64.F.binds fun _ _ _ _ _ _=>ln3 fun _ _ _=>rfl,g_z65.F,g_z65.F.binds fun _ _ _ _ _ _=>ln4 fun _ _ _ _=>rfl,g_z66.F,g_z66.F.binds fun _ _ _ _ _ _=>ln4 fun _ _ _ _=>rfl,g_z67.F,xcli_of qi_z67 hi_z67,g_z67.F.binds fun _ _ _ _ _ _=>ln3 fun _ _ _=>rfl,PySem.W.mg_of X G a_House,PySem.W.mg_of X G a_Tree,PySem.W.mg_of X G a_Hold,PySem.W.mg_of X G a_Loan,PySem.W.mg_of X G a_Store,PySem.W.mg_of X G a_TreeError,PySem.W.mg_of X G a_NoName,PySem.W.mg_of X G a_Taken,PySem.W.mg_of X G a_NoHouse,PySem.W.mg_of X G a_NoPromise,PySem.W.mg_of X G a_NoWare,PySem.W.mg_of X G a_NoAmount,PySem.W.mg_of X G a_NoNumber,PySem.W.mg_of X G a_TooMany,PySem.W.mg_of X G a_TooDeep,PySem.W.mg_of X G a_LETTERS,r_LETTERS,PySem.W.mg_of X G a_LONGEST_NAME,r_LONGEST_NAME,PySem.W.mg_of X G a_MOST_WARES,r_MOST_WARES,PySem.W.mg_of X G a_MOST_HOUSES,r_MOST_HOUSES,PySem.W.mg_of X G a_LONGEST_LINE,r_LONGEST_LINE,PySem.W.mg_of X G a_GREATEST_WEIGHT,r_GREATEST_WEIGHT,PySem.W.mg_none_of X G y_all,PySem.W.mg_none_of X G y_bool,PySem.W.mg_none_of X G y_dict,PySem.W.mg_none_of X G y_int,PySem.W.mg_none_of X G y_isinstance,PySem.W.mg_none_of X G y_len,PySem.W.mg_none_of X G y_list,PySem.W.mg_none_of X G y_max,PySem.W.mg_none_of X G y_min,PySem.W.mg_none_of X G y_range,PySem.W.mg_none_of X G y_set,PySem.W.mg_none_of X G y_sorted,PySem.W.mg_none_of X G y_str,PySem.W.mg_none_of X G y_sum,PySem.W.mg_none_of X G y_zip,ME_Hold_is_sure,ME_Loan_is_sure,CL_Store,MK_Store,ME_Hold_may_end,ME_Loan_may_end,CL_House,CL_Tree,MK_House,MK_Tree,CL_Hold,CL_Loan,MK_Hold,MK_Loan,ME_Tree_found,ME_Tree_wares,ME_Tree_names,ME_Tree_has,ME_Tree_check_house,ME_Tree_house_of,ME_Tree_elder_of,ME_Tree_promise_of,ME_Tree_cap_of,ME_Tree_kids,ME_Tree_line,ME_Tree_beneath,ME_Tree_promised_beneath,ME_Tree_check_more,ME_Store_put,ME_Store_keeps,ME_Store_numbers,ME_Store_under,ME_Store_at_house,ME_Store_promised_but,ME_Store_too_much,ME_Store_check_fits,NA_Store_tree,NA_Store_holds,NA_Store_last,NA_House_elder,NA_House_promise,NA_House_cap,NA_House_weight,NA_Tree_sorted_wares,NA_Tree_houses,NA_Hold_number,NA_Hold_house,NA_Hold_amounts,NA_Hold_rank,NA_Hold_turns,NA_Loan_number,NA_Loan_house,NA_Loan_amounts,NA_Loan_rank,NA_Loan_turns,qcs q_NoHouse,qcs q_NoAmount,qcs q_NoWare,qcs q_NoName,qcs q_NoNumber,qcs q_Taken,qcs q_TooMany,qcs q_TooDeep⟩,rfl,fun s v=> .of_eq rfl⟩
theorem walk {l:PySem.W.OpenLaw} {q:Program} {loose:List Str} {XP:(Str→Option Value)→Heap→Prop} {YP:World→Heap→Prop} {e:DefRec} {K:Params→Frag} (hn:l.most=some 63) (hdf:e.params.defaults=[]) (hlaw:e.name= "law")
  (hY:∀(w:World) (h:Heap),YP w h→(K w.params).In h)
  (F:∀(w:World) (mg:Str→Option Value) (fa:Addr) (h:Heap),(K w.params).In h→h.Ns mainGlobals mg→mg "law" =some (.ref fa)→∃d:Ad,Tx (K w.params) mg d∧fa=d.f_law∧∀(s:Shared) (v:Value),BindsTo s d.fd_law ⟨[v], []⟩ [("_law_script",v)]):
  PySem.W.WalkO q loose XP YP l.row.toRowW e [] (fun f vs=>PySem.call f vs):=by
 refine L2.walk_of (n:=63) (k:=25) (x:="_law_script") (CX:=fun _=>CX0) (sp:=fun w=>sp_law0 (K w.params)) hn (by decide) hdf ⟨rfl,by decide,by decide⟩ hY (fun w mg fa h KX G hm=>?_) (fun _ _ a ns hl _ hS=>⟨a,ns,rfl,hS,hl,fun _=>rfl⟩) fun _ _ _ _ _ z=>z
 rw [hlaw] at hm
 obtain⟨d,T,rfl,hb⟩:=F w mg fa h KX G hm
 exact⟨d.fd_law,hb,fun base _ _=>(ok_law (P:=l.prog) (w:=w) (base:=base) T).imp fun vs H Q E q=>q⟩
end Our
namespace PySem.W.Fast
def tw1023813366473974721:=0
def tw17131437995282084671:=0
def tw8532496103826477159:=0
def tw14137943058928936113:=0
def tw5258220108512729691:=0
def tw2563157333900908106:=0
def tw10632414310430496115:=0
def tw5209828390783701458:=0
def tw13044533382228422348:=0
def tw15351134658430620095:=0
def tw4339247841561311133:=0
def tw5603987734355078477:=0
def tw897428027981007804:=0
def tw5905407690943825517:=0
def tw17995203762608713013:=0
def tw12156634651886687235:=0
def tw16557627361007690537:=0
def tw12148433655400812542:=0
def tw16888963926526882541:=0
def tw16258841440013915481:=0
def tw6073001314739279877:=0
def tw11415234568254035357:=0
def tw4669601971365649987:=0
def tw2885930580076931767:=0
def tw619396459409786623:=0
def tw12255636684962145816:=0
def tw17501506100427633007:=0
def tw3129908514722421398:=0
def tw10745066630924131462:=0
def tw15438025443712556636:=0
def tw5312895449424678864:=0
def tw17572866034852535212:=0
def tw5822411922348736489:=0
def tw1224930841376735563:=0
def tw6654681493959592354:=0
def tw15216883760374776507:=0
def tw10627240619733615681:=0
def tw3618145084750802636:=0
def tw6358434371001111975:=0
def tw3594337459140937951:=0
def tw17048085838722210318:=0
def tw4606397618999112258:=0
def tw9825968908233328360:=0
def tw17034072072472415588:=0
def tw8472441926198504813:=0
def tw13049219730350741983:=0
def tw11182122514680661787:=0
def tw15112500555750794590:=0
def tw14876376366517259113:=0
def tw10512162661743378992:=0
def tw2545346539518647179:=0
def tw8568418151669475716:=0
def tw11419164941918012374:=0
def tw6782928264091909310:=0
def tw968253953814867599:=0
def tw8022839214760504479:=0
def tw2528465300135482505:=0
def tw3323394711105431729:=0
def tw9114598409498414296:=0
def tw16774074735210775772:=0
def tw14646307234072025195:=0
def tw8861657203258714713:=0
def tw17107870960300861000:=0
def tw9484827478444074653:=0
def tw4999647408659335558:=0
def tw13890284567195311954:=0
def tw3311858041947347540:=0
def tw3999147298171208290:=0
def tw15851062823110742120:=0
def tw12904007449560090063:=0
def tw16377966805513039443:=0
def tw14157044893695340499:=0
def tw3549882859673107460:=0
def tw11339576249778232519:=0
def tw4102362028701516754:=0
def tw8064634739813719116:=0
def tw17926545020013543671:=0
def tw5126792740161792775:=0
def tw5514087647222154496:=0
def tw5889892610360987692:=0
def tw3631675686081392666:=0
def tw17749254128136041927:=0
def tw5121345465728837343:=0
def tw13429162250026775117:=0
def tw2652491711535093495:=0
def tw7134521718631134627:=0
def tw6436885669493237878:=0
def tw2793340929680451586:=0
def tw4296833900332158040:=0
def tw14622163947103541459:=0
def tw12259305660032441146:=0
def tw9890787125157540529:=0
def tw3444654080370571672:=0
def tw12419175771831702566:=0
def tw3927108774261921337:=0
def tw18040119723290696565:=0
def tw3403891601757581064:=0
def tw16563034611476318569:=0
def tw11974416364259661244:=0
def tw13218450142144833737:=0
def tw11321657672862439249:=0
def tw16431115157993774398:=0
def tw16336579837164004989:=0
def tw11797186834406182091:=0
def tw13040437921503962140:=0
def tw18165443857400528920:=0
def tw17121128433661662026:=0
def tw457903715105804475:=0
def tw8268047898821071068:=0
def tw3124014971782342670:=0
def tw3202019118912845326:=0
def tw12667666588581080913:=0
def tw4373478690734727025:=0
def tw13718361820151885838:=0
def tw2140027528822188055:=0
def tw16390285934434719531:=0
def tw8564002728240575184:=0
def tw11819598803261304863:=0
def tw540058289076271130:=0
def tw18324715797054031637:=0
def tw12798306693077977140:=0
def tw18386864250548123235:=0
def tw3300048380754871595:=0
def tw7509416194902441916:=0
def tw11286249273784011764:=0
def tw13347000549939168730:=0
def tw8951682743880000699:=0
def tw10127200867557814190:=0
def tw10222537716675576115:=0
def tw6013601185874359069:=0
def tw6204162904466954132:=0
def tw8545412670556531270:=0
def tw9986673266277843414:=0
def tw10792684348609346951:=0
def tw18104648017335875851:=0
def tw396566721557611368:=0
def tw13709884126082479954:=0
def tw8731077187209910964:=0
def tw4610196673049301532:=0
def tw6966946864190741015:=0
def tw1994529903902123400:=0
def tw9376073332345507664:=0
def tw8363491134919080854:=0
def tw2638337237531644482:=0
def tw1794468828419678792:=0
def tw12212925071235602222:=0
def tw7399605154033423405:=0
def tw4493901968323050546:=0
def tw9093971124789534119:=0
def tw3361413521467627721:=0
def tw12025976961114897830:=0
def tw11841327274252143940:=0
def tw4842289737938367118:=0
def tw3948339701982106016:=0
def tw3548801712336815262:=0
def tw16208340206259281360:=0
def tw14081503795722958474:=0
def tw10021268116888578749:=0
def tw2040686223644159154:=0
def tw7623798387394482871:=0
def tw10321819783288136058:=0
def tw17294579822879391617:=0
def tw4752902382983608537:=0
def tw4048936131927733506:=0
def tw14260615569325676673:=0
def tw13812202583276211071:=0
def tw1788552775062251074:=0
def tw16594403769209917647:=0
def tw9167529785438139728:=0
def tw6684395375741522211:=0
def tw18273516351995488835:=0
def tw16713151726679756760:=0
def tw3921246554262120382:=0
def tw728443303746808177:=0
def tw3113268101331372146:=0
def tw4719365571671388076:=0
def tw10227333890368255525:=0
def tw2692334831704433201:=0
def tw1951426815549438970:=0
def tw15853373775203761266:=0
def tw7211344335901115709:=0
def tw6720500004624669856:=0
def tw12587067747242081363:=0
def tw13325764196287847005:=0
def tw5676255143787083989:=0
def tw5627737286093492421:=0
def tw11264446113698694271:=0
def tw7429636291411121659:=0
def tw13004422958842168736:=0
def tw297302605105183395:=0
def tw14612222218280487422:=0
def tw11933695875024380465:=0
def tw1868170220455709644:=0
def tw8371285058262876980:=0
def tw11188016621731396491:=0
def tw7362696856742300596:=0
def tw13221428885501228358:=0
def tw230548005445221171:=0
def tw13220410401127687567:=0
def tw6422596335956569960:=0
def tw1716348122545597729:=0
def tw11837509867951436334:=0
def tw5493383306537182177:=0
def tw16968259197847835553:=0
def tw17171631030435916917:=0
def tw12682895362205805925:=0
def tw855651425032252877:=0
def tw4485289971474538544:=0
def tw536103692706902863:=0
def tw5957291438193652466:=0
def tw17588465204365619761:=0
def tw986975961306303002:=0
def tw8318448282545776946:=0
def tw4187610033721664858:=0
def tw2746492978008260810:=0
def tw12790837965655388244:=0
def tw9845325233529476360:=0
def tw8942862492972544567:=0
def tw8577283808510978236:=0
def tw11970267957208928486:=0
def tw11012889665316124989:=0
def tw426226317433924110:=0
def tw2585358794064709917:=0
def tw13934794005393031055:=0
def tw14848240697352508573:=0
def tw12448930229432153422:=0
def tw9592928111429957543:=0
def tw10965202608267204294:=0
def tw4510942600289579827:=0
def tw3866703600078712206:=0
def tw3275388973104841265:=0
def tw10522984237836373633:=0
def tw8130565147819738669:=0
def tw10279448184348606600:=0
def tw8439931609860259412:=0
def tw206430569492829568:=0
def tw1633223003150202276:=0
def tw15374187798775003759:=0
def tw5802170581038832355:=0
def tw781538834744043361:=0
def tw2300015769576839319:=0
def tw6028672317215077148:=0
def tw11932654896554063643:=0
def tw13073727550345059205:=0
def tw2594555301633229199:=0
def tw18414998092408328464:=0
def tw12991108209131004768:=0
def tw3349205655311421582:=0
def tw18280428416536951299:=0
def tw6178584522590341950:=0
def tw637186690746081254:=0
def tw4511072820256428413:=0
def tw12565933603046651180:=0
def tw17314148648687181489:=0
def tw2218787205429300753:=0
def tw16103364162492300871:=0
def tw2768891531242047825:=0
def tw14084110526016555632:=0
def tw9572112062414052445:=0
def tw16338426481339170012:=0
def tw10327905568378309391:=0
def tw12689125135356558821:=0
def tw15750638224080847816:=0
def tw11614371377196336236:=0
def tw18198272990007382632:=0
def tw16612231850500444019:=0
def tw3026368344966200646:=0
def tw15367197142303539089:=0
def tw4041363820734233138:=0
def tw1716891051830281341:=0
def tw10838927851336949023:=0
def tw15450819116145992844:=0
def tw7269816223663797948:=0
def tw9861597085481172267:=0
def tw14530861700577809945:=0
def tw6699568924837259905:=0
def tw9598709796313172112:=0
def tw15493026994835102796:=0
def tw3465864096228089682:=0
def tw4504131568298111692:=0
def tw431460123149639292:=0
def tw3279169542627562955:=0
def tw14661832856341314165:=0
def tw8833879707866217184:=0
def tw17932658633915576643:=0
def tw6613007993375320856:=0
def tw16813798288916461350:=0
def tw15738109110419638958:=0
def tw11811127835665095355:=0
def tw1747277599344024193:=0
def tw16983223847890739738:=0
def tw15133275721719019046:=0
def tw15441035252510363628:=0
def tw5949354391715974753:=0
def tw956551776510829552:=0
def tw14199390667299898987:=0
def tw5518174678884025450:=0
def tw8322568346102853386:=0
def tw6686846298694129929:=0
def tw5502456564432458504:=0
def tw3768716528852590162:=0
def tw3376771335077647108:=0
def tw1163497078501020340:=0
def tw11364424085249543912:=0
def tw9421047785685613344:=0
def tw9151120724891915231:=0
def tw11899069150198252851:=0
def tw7226760759428153829:=0
def tw13354446198997754506:=0
def tw8157200869937385021:=0
def tw12919165969635665564:=0
def tw9936812365617295738:=0
def tw9928655655695435772:=0
def tw6788378699061098907:=0
def tw13983470212358086295:=0
def tw6131473907333923077:=0
def tw17925714221680441823:=0
def tw6126363478580285001:=0
def tw7911633800581447355:=0
def tw10421678424671353498:=0
def tw7631356100901210038:=0
def tw17725920314609672535:=0
def tw870336080503558492:=0
def tw41236710213015645:=0
def tw16653313413128272026:=0
def tw3412575487693313235:=0
def tw3471118975218463603:=0
def tw17788480439551736085:=0
def tw8172270125628130295:=0
def tw11096693631300083686:=0
def tw14446771596597857789:=0
def tw9264312991030043005:=0
def tw9107533398676370291:=0
def tw12241207497939614538:=0
def tw5985387820058273820:=0
def tw8075605157438484700:=0
def tw7157341579026370580:=0
def tw2578675262682408358:=0
def tw15545148194698032589:=0
def tw6606964251730898900:=0
def tw149667941026923756:=0
def tw15804975663855299204:=0
def tw7511055923527997187:=0
def tw18209802352104462052:=0
def tw1959872923400296069:=0
def tw6927763786039111625:=0
def tw4947941891109496222:=0
def tw17755818923007082203:=0
def tw105318710022282586:=0
def tw5958336440423809291:=0
def tw5226936486942719868:=0
def tw17583502618550415179:=0
def tw11433424916833423445:=0
def tw10023229104043831501:=0
def tw4230779156153996586:=0
def tw9587488213787158940:=0
def tw5934515278519351207:=0
def tw1945980698123168074:=0
def tw15856246448236270553:=0
def tw1439871740947888621:=0
def tw10891585791700982572:=0
def tw3555328051247019272:=0
def tw16069044636641582100:=0
def tw7696396552292497253:=0
def tw6152477400246349547:=0
def tw2489680699071187447:=0
def tw17436125217385384080:=0
def tw13020915075871626741:=0
def tw11913850504902760913:=0
def tw11619909747177904407:=0
def tw10192244675704332092:=0
def tw7584567756175199556:=0
def tw10378268144264590091:=0
def tw9959460234211593274:=0
def tw8235931025688275087:=0
def tw7839843376825454126:=0
def tw5799559851271711961:=0
def tw5745818547026818338:=0
def tw3510270555818905527:=0
def tw1810499861302363574:=0
def tw127107674612433766:=0
def tw12128826963215464624:=0
def tw11513369737318055953:=0
def tw10667765612303851482:=0
def tw14294179659999062325:=0
def tw13815883669016249173:=0
def tw4440702566830469347:=0
def tw15979282990536831447:=0
def tw12042302280824359401:=0
def tw10810136428273231813:=0
def tw8535566849074173586:=0
def tw10794869879102293859:=0
def tw2714915689200075561:=0
def tw2407155271672921933:=0
def tw6263267785652752072:=0
def tw468933227986189156:=0
def tw14395539286059195281:=0
def tw12294041381425123849:=0
def tw12242299263266383982:=0
def tw12208894525471474470:=0
def tw10737904540546551383:=0
def tw14317044994592636029:=0
def tw7557058479620772759:=0
def tw6241630592850311169:=0
def tw3828037016318268798:=0
def tw14366525172027712494:=0
def tw7126627073909454428:=0
def tw14842713162974094419:=0
def tw12184961997274212705:=0
def tw11160872671874489774:=0
def tw10273714033596820658:=0
def tw7859062269542867345:=0
def tw3956144257309606763:=0
def tw18178911016341427069:=0
def tw7417289760855275046:=0
def tw15428375631966444715:=0
def tw5083498422162432595:=0
def tw14291898939194849605:=0
def tw12445505382244911041:=0
def tw5642594444864946813:=0
def tw3696377446780284903:=0
def tw7193661162464215244:=0
def tw15366061606986150646:=0
def tw9959523691616660734:=0
def tw18425915992585085270:=0
def tw18065851582143887601:=0
def tw17653094023276729072:=0
def tw14011144519868972437:=0
def tw6551624765877188092:=0
def tw15173366974764964274:=0
def tw9697850273111259014:=0
def tw5666246496390340906:=0
def tw2676992439301155733:=0
def tw17062538212931875964:=0
def tw13433495360370254283:=0
def tw11058459572366427695:=0
def tw2845271317838132303:=0
def tw2513138863758000337:=0
def tw12082543946093903223:=0
def tw1146689762001388019:=0
def tw15725745209312352931:=0
def tw17896054942035401864:=0
def tw10963037378503590522:=0
def tw1470662391185220037:=0
def tw11454844567078974364:=0
def tw5687072168212795368:=0
def tw3375557332257350860:=0
def tw13944987363311182509:=0
def tw407691142599455256:=0
def tw4995734665292460600:=0
def tw4228134584396825756:=0
def tw11015177876253521032:=0
def tw4757573059564225643:=0
def tw16025715406756789252:=0
def tw1836083342825936680:=0
def tw12933059050132148209:=0
def tw13885981586297313081:=0
def tw6936578102212271566:=0
def tw17483395413319535762:=0
def tw17352976552474465817:=0
def tw6930260874951544246:=0
def tw452583097026357532:=0
def tw18221233715570440476:=0
def tw15714733005505633771:=0
def tw12490060508266613810:=0
def tw7069093377991647694:=0
def tw18433228449577045363:=0
def tw12605098973891504110:=0
def tw6009544973170964706:=0
def tw14708257165601955283:=0
def tw11491762099844480196:=0
def tw7955180715831421000:=0
def tw6660841266852337937:=0
def tw15252735956047667649:=0
def tw12846112202489966505:=0
def tw5225627599583851543:=0
def tw2307631013586667710:=0
def tw13938058705222201966:=0
def tw13845545743592592116:=0
def tw12517355655063031106:=0
def tw10172079564542923906:=0
def tw16529828179325598338:=0
def tw9619667060272110482:=0
def tw5032932787522281261:=0
def tw3959676191333877911:=0
def tw18075766203803429618:=0
def tw12552187671588593530:=0
def tw9084555022430870695:=0
def tw18310779839943246914:=0
def tw5044000119727151848:=0
def tw12725838103017974634:=0
def tw15448806108381563344:=0
def tw3805394811668294967:=0
def tw14646874496052109385:=0
def tw5388540285780646044:=0
def tw9179160843223083957:=0
def tw12874004238558581166:=0
def tw15685745629717232524:=0
def tw8672058338922288971:=0
def tw530957752972792711:=0
def tw2081998841905500403:=0
def tw14181760146390126658:=0
def tw5961132542070486936:=0
def tw4660421767265430157:=0
def tw13869246599962558622:=0
def tw3583548861338874009:=0
def tw206507748168545025:=0
def tw7696386526259520548:=0
def tw5379957921763020092:=0
def tw15960983729177615845:=0
def tw17761260961066926492:=0
def tw3674199006701052621:=0
def tw17872709581957309730:=0
def tw5745293270422791418:=0
def tw2688740822888063344:=0
def tw17404567927098468163:=0
def tw6509284644823366383:=0
def tw17037373958307696754:=0
def tw16238198938646766321:=0
def tw12451872382075621154:=0
def tw13664097654323933211:=0
def tw5099956240384097794:=0
def tw10792503098931853017:=0
def tw5915676516329585408:=0
def tw4699563057847184426:=0
def tw14203727895876872595:=0
def tw13624037725226552587:=0
def tw13345761319383627347:=0
def tw6204356033410497363:=0
def tw5320141704276699105:=0
def tw4258300446338196436:=0
def tw17655555147581099174:=0
def tw17008865714028786187:=0
def tw13494937359777523494:=0
def tw9039791394458707557:=0
def tw8679934717532893506:=0
def tw8041953847304031203:=0
def tw7293992434525908293:=0
def tw6440907976708513593:=0
def tw6386965046768946549:=0
def tw5254917662235725800:=0
def tw4564721802524820628:=0
def tw18076033301541310210:=0
def tw17008439365226406699:=0
def tw11382415887184876291:=0
def tw17029657211713100295:=0
def tw9965851294505598236:=0
def tw3142757415086619466:=0
def tw2115883749734295501:=0
def tw17286509554736088241:=0
def tw14544914915820023042:=0
def tw1332050228450005783:=0
def tw12598395714171552065:=0
def tw12329864570240695404:=0
def tw9218151083804356191:=0
def tw16938134812886484529:=0
def tw15967093310828255137:=0
def tw1457611510233934982:=0
def tw11263026954428653258:=0
def tw939966561144253613:=0
def tw7713299700224579430:=0
def tw7427660709458504975:=0
def tw5527587826585328936:=0
def tw4400830915934615950:=0
def tw1604302805895149197:=0
def tw15529138262034476275:=0
def tw14050648401958308659:=0
def tw13289674241546841795:=0
def tw11813013299803578216:=0
def tw1118047782916144646:=0
def tw9770720771245915881:=0
def tw1866436459819096220:=0
def tw17222113728352454816:=0
def tw14374924760904762277:=0
def tw11610990685913397308:=0
def tw15463946086822049110:=0
def tw9233328588341747377:=0
def tw8444345348603881324:=0
def tw6429447188102028283:=0
def tw9630584823383386443:=0
def tw14397232892769262554:=0
def tw11737326440175937761:=0
def tw9931366230367917879:=0
def tw510916270634759052:=0
def tw4644820868457535931:=0
def tw1996773644219575873:=0
def tw16549671205875191966:=0
def tw15907829582996578499:=0
def tw14770918402522194347:=0
def tw13454421577056003908:=0
def tw11363989115404254156:=0
def tw11359375601249926965:=0
def tw10978286987812789482:=0
def tw8506768833292994781:=0
def tw9396479526360960445:=0
def tw934768307614447641:=0
def tw7348745069583533332:=0
def tw7288016368639500525:=0
def tw7190447393553363931:=0
def tw6617752092164210230:=0
def tw6072290357261515460:=0
def tw4602311001719453046:=0
def tw4554932101434361441:=0
def tw3252751996986256948:=0
def tw18017354007681632565:=0
def tw17679109870550166914:=0
def tw1583023555759827906:=0
def tw14625618565684772796:=0
def tw14499017921907816099:=0
def tw13641636473672269987:=0
def tw12599823396569094261:=0
def tw12080946530873649291:=0
def tw10670512763300803391:=0
def tw8297529730616705319:=0
def tw7871264877617138913:=0
def tw7041743756476057624:=0
def tw4928293127330283150:=0
def tw3255158409269640417:=0
def tw2942949347247582038:=0
def tw17653747806023705186:=0
def tw17202718053163098156:=0
def tw16162494309296495080:=0
def tw15259904602136364389:=0
def tw1348378582671451002:=0
def tw12739124611155774341:=0
def tw11469745087833907802:=0
def tw10677218304917359849:=0
def tw10626138739548599878:=0
def tw1055470280160708412:=0
def tw4217670518490825009:=0
def tw4493527022164216731:=0
def tw4488348311898376268:=0
def tw3932996213463020169:=0
def tw10372967114180907996:=0
def tw956705862498046645:=0
def tw869418531906685713:=0
def tw8307980099337933613:=0
def tw6810802996179950816:=0
def tw325690260181483252:=0
def tw2779170686236564836:=0
def tw2123359696689324328:=0
def tw18003205113331684034:=0
def tw17917506047478549204:=0
def tw1285589082369222425:=0
def tw1077009873919098595:=0
def tw9263862418053852046:=0
def tw8091711183502667492:=0
def tw5972959140038409938:=0
def tw5934548503452576367:=0
def tw4823314501661403550:=0
def tw4473540303673123873:=0
def tw3711987018092425558:=0
def tw2663856567033534908:=0
def tw2643232126390711367:=0
def tw2122378251460194061:=0
def tw16818903269996467657:=0
def tw15493940193238856044:=0
def tw153892035909026224:=0
def tw14885344692527195364:=0
def tw13243144014253593505:=0
def tw12271679000248934152:=0
def tw18245503878673601719:=0
def tw17558493344892247971:=0
def tw11022154482506408441:=0
def tw9922801842134933016:=0
def tw9824618198567457235:=0
def tw9678780733959659890:=0
def tw9636038725224426373:=0
def tw9430813260299257776:=0
def tw936654993016471409:=0
def tw9360998373620199606:=0
def tw9353672733142337411:=0
def tw9220478041656732847:=0
def tw9096999617911345767:=0
def tw909583914619311730:=0
def tw9058399271357354679:=0
def tw8814996883820586407:=0
def tw878064514896484347:=0
def tw8678101170000045551:=0
def tw8587261172772043504:=0
def tw8026402546885904104:=0
def tw8014394690465231473:=0
def tw8013737342140124803:=0
def tw7930954184595834812:=0
def tw7924538225848626484:=0
def tw7882205255567625751:=0
def tw7862577497666314286:=0
def tw7563426604301844073:=0
def tw7467497511575100905:=0
def tw7421268718139105940:=0
def tw7314776020311998938:=0
def tw7236102868488029334:=0
def tw7064689703593958018:=0
def tw6956653863788878344:=0
def tw6918666134033621408:=0
def tw6853937046425758914:=0
def tw6814116549876096830:=0
def tw6733206188067707885:=0
def tw671647393011612185:=0
def tw6716180728811032359:=0
def tw6613262888665901513:=0
def tw6610983022114446313:=0
def tw6595207176855476163:=0
def tw653687570333561391:=0
def tw6505016368018796680:=0
def tw6472945376979712851:=0
def tw6426852201394541541:=0
def tw6417950110546652099:=0
def tw6312888396198875211:=0
def tw6227867517418352486:=0
def tw6190786781586688258:=0
def tw618772822244662225:=0
def tw6100041637654240298:=0
def tw6064964984477535932:=0
def tw5950035846139498810:=0
def tw5710016686050292847:=0
def tw5701885760809879223:=0
def tw5604255664651786577:=0
def tw554183707284327133:=0
def tw5491979477767964452:=0
def tw5463753850561369588:=0
def tw5459897207124746376:=0
def tw5261482180457253861:=0
def tw5202739424407580637:=0
def tw5151955397323455059:=0
def tw5058719939417004112:=0
def tw494455336247967330:=0
def tw4815655531197737245:=0
def tw4795908210022163441:=0
def tw4773825133034948209:=0
def tw4717990002481823763:=0
def tw4692728535754474089:=0
def tw4673074697793078288:=0
def tw4666566123716381988:=0
def tw4641534396552927280:=0
def tw4606899501511763791:=0
def tw4594102658926198959:=0
def tw447714896664615292:=0
def tw4475720238274561564:=0
def tw4358449030279827828:=0
def tw4343555495745059285:=0
def tw4328624778151214882:=0
def tw4230292192908223050:=0
def tw4204966389687910656:=0
def tw4170135529287999913:=0
def tw413577807951365347:=0
def tw4030521954894841412:=0
def tw3909948248914491048:=0
def tw3875706361367546875:=0
def tw3842765937446155061:=0
def tw3783431705526213360:=0
def tw3764693248600947675:=0
def tw374484666565169415:=0
def tw3675389601110307462:=0
def tw3649519875839584479:=0
def tw363885633469475857:=0
def tw3495914657000131123:=0
def tw3391915078569560953:=0
def tw332450583129092726:=0
def tw3283734116495625160:=0
def tw3283017918432180405:=0
def tw3173221656914966464:=0
def tw3109549010864854069:=0
def tw3047612481859448058:=0
def tw2975203968811434762:=0
def tw2859678856603313291:=0
def tw2829561059074155486:=0
def tw2811574488297842330:=0
def tw2792381888479388411:=0
def tw272963185073799845:=0
def tw2610111156241694453:=0
def tw2578344195166326598:=0
def tw2564303838772883594:=0
def tw2331865668764034383:=0
def tw2168779011191581545:=0
def tw2082395874532688414:=0
def tw2018898292103478237:=0
def tw1993089311114360801:=0
def tw1926596444726570897:=0
def tw1921267477347906723:=0
def tw18404293674132173649:=0
def tw18365127986929548228:=0
def tw18316120339070856479:=0
def tw18304884083523210243:=0
def tw18248126187458392846:=0
def tw18089835065604604968:=0
def tw17981856802373396060:=0
def tw17714364186608186625:=0
def tw17687227333756215147:=0
def tw1759001482588557791:=0
def tw17495077068688447892:=0
def tw17488274685562009535:=0
def tw17446770409501136648:=0
def tw17071128810375466652:=0
def tw1697848893502546641:=0
def tw16969056602907416435:=0
def tw16968775266281625876:=0
def tw16861823182724322386:=0
def tw16837784912584944094:=0
def tw16826279815932539056:=0
def tw16682230764490994972:=0
def tw16674432433292048402:=0
def tw16512643415788919339:=0
def tw16499876486534437773:=0
def tw16430396088758467941:=0
def tw16362073958946686991:=0
def tw16325229191928269120:=0
def tw1632427714286568877:=0
def tw16152247263148575470:=0
def tw16128534420004136710:=0
def tw1607674476012057072:=0
def tw1601418535054780077:=0
def tw15913103945586344330:=0
def tw1590152529451768869:=0
def tw15836908355151716568:=0
def tw15821237184914115492:=0
def tw15808932726505670365:=0
def tw15706673850869087535:=0
def tw15545355338860105995:=0
def tw15402276353833326492:=0
def tw15395226993566012024:=0
def tw15372638438214251052:=0
def tw15356802416904588820:=0
def tw1524689240105532857:=0
def tw15193784781175697607:=0
def tw15081792585132935478:=0
def tw15035304190984202526:=0
def tw15032002104775465714:=0
def tw150302743692289879:=0
def tw15015103988619082825:=0
def tw14956115238074615421:=0
def tw14920510488178929712:=0
def tw14861763998325000082:=0
def tw14808822636557092924:=0
def tw1470667491834525370:=0
def tw14689899042718317795:=0
def tw14645584143272377627:=0
def tw14476138889558009646:=0
def tw14426229666944342753:=0
def tw14402058896489701746:=0
def tw14400201817004358690:=0
def tw14337911089473730841:=0
def tw14250391939467300669:=0
def tw14140013335334214552:=0
def tw14120097130116201200:=0
def tw14047328856436695513:=0
def tw14037189408704231020:=0
def tw1397113104385778637:=0
def tw13959090281819359912:=0
def tw13815339814920157389:=0
def tw13754662495585006194:=0
def tw13713534105688355006:=0
def tw13653557657961263405:=0
def tw13636007993446309275:=0
def tw13513923082782379966:=0
def tw13348386426711526829:=0
def tw13272909932508530091:=0
def tw13229803493025897127:=0
def tw13216955591984259452:=0
def tw13195442567081457281:=0
def tw13181812447964227026:=0
def tw13128810636789890491:=0
def tw13109973389511536356:=0
def tw13058174339093752625:=0
def tw12966364447735055833:=0
def tw12963470084423293428:=0
def tw12852091660220680903:=0
def tw12745219021398424262:=0
def tw12729776878298353295:=0
def tw12601356722502656696:=0
def tw1255059373417260934:=0
def tw12478580037901921435:=0
def tw12178565793463419890:=0
def tw12155445890603702806:=0
def tw12004777811770131652:=0
def tw11967608733427909635:=0
def tw11955475047586203204:=0
def tw11914678482259610797:=0
def tw11752353222840927663:=0
def tw11732400983588370735:=0
def tw11727908031083983832:=0
def tw11722305382467567475:=0
def tw1160079460178078779:=0
def tw11456567548313767710:=0
def tw11336052085625025963:=0
def tw1122198299395413295:=0
def tw11162832102808320427:=0
def tw1108755231471095342:=0
def tw10953339678350237073:=0
def tw10879624336543443756:=0
def tw10733435570227458336:=0
def tw10725732684208750953:=0
def tw1071638395725846618:=0
def tw10709410811992720226:=0
def tw10651631946455721285:=0
def tw10355266893971883552:=0
def tw10236596278337624311:=0
def tw10204643935743450044:=0
end PySem.W.Fast
open PySem PySem.W PyProof.Rows
set_option maxRecDepth 100000 in
set_option maxHeartbeats 0 in
theorem PySem.Challenge.cw_quotatree_k39_whole_never_refused_holds : PySem.Challenge.rw_quotatree_k39_whole_never_refused.Holds := by
 w_on;o_law;k_head;(case hw=>w_witness2)
 k_fill
 refine Our.walk (l:=PySem.Challenge.rw_quotatree_k39_whole_never_refused) rfl rfl rfl (fun w h Y=>PySem.W.kIn_of Y) ?F
 case F=>
  intro w mg fa h KX G hmg
  refine' Our.txt_mk KX G hmg ?g_z0 ?g_z1 ?g_z2 ?g_z3 ?g_z4 ?g_z5 ?g_z6 ?g_z7 ?g_z8 ?g_z9 ?g_z10 ?g_z11 ?g_z12 ?g_z13 ?g_z14 ?g_z15 ?g_z16 ?g_z17 ?g_z18 ?g_z19 ?g_z20 ?g_z21 ?g_z22 ?g_z23 ?g_z24 ?g_z25 ?g_z26 ?g_z27 ?g_z28 ?g_z29 ?g_z30 ?g_z31 ?g_z32 ?g_z33 ?g_z34 ?g_z35 ?g_law ?g_z37 ?a_z38 ?l_z38 ?c_z38 ?k_z38 ?tt_z38 ?td_z38 ?rd_z38 ?a_z39 ?l_z39 ?c_z39 ?k_z39 ?tt_z39 ?td_z39 ?rd_z39 ?g_z40 ?g_z41 ?g_z42 ?g_z43 ?g_z44 ?g_z45 ?g_z46 ?g_z47 ?g_z48 ?g_z49 ?g_z50 ?g_z51 ?g_z52 ?g_z53 ?g_z54 ?g_z55 ?g_z56 ?g_z57 ?g_z58 ?g_z59 ?g_z60 ?g_z61 ?a_z62 ?l_z62 ?c_z62 ?k_z62 ?tt_z62 ?td_z62 ?rd_z62 ?g_z63 ?g_z64 ?g_z65 ?g_z66 ?g_z67 ?qi_z67 ?hi_z67 ?a_House ?a_Tree ?a_Hold ?a_Loan ?a_Store ?a_TreeError ?a_NoName ?a_Taken ?a_NoHouse ?a_NoPromise ?a_NoWare ?a_NoAmount ?a_NoNumber ?a_TooMany ?a_TooDeep ?a_LETTERS ?r_LETTERS ?a_LONGEST_NAME ?r_LONGEST_NAME ?a_MOST_WARES ?r_MOST_WARES ?a_MOST_HOUSES ?r_MOST_HOUSES ?a_LONGEST_LINE ?r_LONGEST_LINE ?a_GREATEST_WEIGHT ?r_GREATEST_WEIGHT ?q_NoHouse ?q_NoAmount ?q_NoWare ?q_NoName ?q_NoNumber ?q_Taken ?q_TooMany ?q_TooDeep ?ME_Hold_is_sure ?ME_Loan_is_sure ?CL_Store ?MK_Store ?ME_Hold_may_end ?ME_Loan_may_end ?CL_House ?CL_Tree ?MK_House ?MK_Tree ?CL_Hold ?CL_Loan ?MK_Hold ?MK_Loan ?ME_Tree_found ?ME_Tree_wares ?ME_Tree_names ?ME_Tree_has ?ME_Tree_check_house ?ME_Tree_house_of ?ME_Tree_elder_of ?ME_Tree_promise_of ?ME_Tree_cap_of ?ME_Tree_kids ?ME_Tree_line ?ME_Tree_beneath ?ME_Tree_promised_beneath ?ME_Tree_check_more ?ME_Store_put ?ME_Store_keeps ?ME_Store_numbers ?ME_Store_under ?ME_Store_at_house ?ME_Store_promised_but ?ME_Store_too_much ?ME_Store_check_fits ?NA_Store_tree ?NA_Store_holds ?NA_Store_last ?NA_House_elder ?NA_House_promise ?NA_House_cap ?NA_House_weight ?NA_Tree_sorted_wares ?NA_Tree_houses ?NA_Hold_number ?NA_Hold_house ?NA_Hold_amounts ?NA_Hold_rank ?NA_Hold_turns ?NA_Loan_number ?NA_Loan_house ?NA_Loan_amounts ?NA_Loan_rank ?NA_Loan_turns ?y_all ?y_bool ?y_dict ?y_int ?y_isinstance ?y_len ?y_list ?y_max ?y_min ?y_range ?y_set ?y_sorted ?y_str ?y_sum ?y_zip
  (case a_House=>k_is)
  (case a_Tree=>k_is)
  (case a_Hold=>k_is)
  (case a_Loan=>k_is)
  (case a_Store=>k_is)
  (case a_TreeError=>k_is)
  (case a_NoName=>k_is)
  (case a_Taken=>k_is)
  (case a_NoHouse=>k_is)
  (case a_NoPromise=>k_is)
  (case a_NoWare=>k_is)
  (case a_NoAmount=>k_is)
  (case a_NoNumber=>k_is)
  (case a_TooMany=>k_is)
  (case a_TooDeep=>k_is)
  all_goals try (refine' ⟨?a,L2.fun_mk ?l ?c ?k⟩;(case a=>k_is);(case l=>k_is);(case c=>k_is);(case k=>k_is))
  (case a_z38=>k_is);(case l_z38=>k_is);(case c_z38=>k_is);(case k_z38=>k_is)
  (case tt_z38=>k_is);(case td_z38=>first|rfl|k_is);(case rd_z38=>first|exact .cons ⟨_,rfl⟩ .nil|exact .cons rfl .nil)
  (case a_z39=>k_is);(case l_z39=>k_is);(case c_z39=>k_is);(case k_z39=>k_is)
  (case tt_z39=>k_is);(case td_z39=>first|rfl|k_is);(case rd_z39=>first|exact .cons ⟨_,rfl⟩ .nil|exact .cons rfl .nil)
  (case a_z62=>k_is);(case l_z62=>k_is);(case c_z62=>k_is);(case k_z62=>k_is)
  (case tt_z62=>k_is);(case td_z62=>first|rfl|k_is);(case rd_z62=>first|exact .cons ⟨_,rfl⟩ .nil|exact .cons rfl .nil)
  (case qi_z67=>kernel_rfl);(case hi_z67=>k_is)
  (case a_LETTERS=>k_is)
  (case r_LETTERS=>exact⟨_,rfl⟩)
  (case a_LONGEST_NAME=>k_is)
  (case r_LONGEST_NAME=>exact⟨_,rfl⟩)
  (case a_MOST_WARES=>k_is)
  (case r_MOST_WARES=>exact⟨_,rfl⟩)
  (case a_MOST_HOUSES=>k_is)
  (case r_MOST_HOUSES=>exact⟨_,rfl⟩)
  (case a_LONGEST_LINE=>k_is)
  (case r_LONGEST_LINE=>exact⟨_,rfl⟩)
  (case a_GREATEST_WEIGHT=>k_is)
  (case r_GREATEST_WEIGHT=>exact⟨_,rfl⟩)
  (case q_NoHouse=>k_exc)
  (case q_NoAmount=>k_exc)
  (case q_NoWare=>k_exc)
  (case q_NoName=>k_exc)
  (case q_NoNumber=>k_exc)
  (case q_Taken=>k_exc)
  (case q_TooMany=>k_exc)
  (case q_TooDeep=>k_exc)
  (case ME_Hold_is_sure=>(constructor <;> first|k_is|kernel_rfl))
  (case ME_Loan_is_sure=>(constructor <;> first|k_is|kernel_rfl))
  (case CL_Store=>(constructor <;> first|k_is|kernel_rfl))
  (case MK_Store=>(constructor <;> first|k_is|kernel_rfl))
  (case ME_Hold_may_end=>(constructor <;> first|k_is|kernel_rfl))
  (case ME_Loan_may_end=>(constructor <;> first|k_is|kernel_rfl))
  (case CL_House=>(constructor <;> first|k_is|kernel_rfl))
  (case CL_Tree=>(constructor <;> first|k_is|kernel_rfl))
  (case MK_House=>(constructor <;> first|k_is|kernel_rfl))
  (case MK_Tree=>(constructor <;> first|k_is|kernel_rfl))
  (case CL_Hold=>(constructor <;> first|k_is|kernel_rfl))
  (case CL_Loan=>(constructor <;> first|k_is|kernel_rfl))
  (case MK_Hold=>(constructor <;> first|k_is|kernel_rfl))
  (case MK_Loan=>(constructor <;> first|k_is|kernel_rfl))
  (case ME_Tree_found=>(constructor <;> first|k_is|kernel_rfl))
  (case ME_Tree_wares=>(constructor <;> first|k_is|kernel_rfl))
  (case ME_Tree_names=>(constructor <;> first|k_is|kernel_rfl))
  (case ME_Tree_has=>(constructor <;> first|k_is|kernel_rfl))
  (case ME_Tree_check_house=>(constructor <;> first|k_is|kernel_rfl))
  (case ME_Tree_house_of=>(constructor <;> first|k_is|kernel_rfl))
  (case ME_Tree_elder_of=>(constructor <;> first|k_is|kernel_rfl))
  (case ME_Tree_promise_of=>(constructor <;> first|k_is|kernel_rfl))
  (case ME_Tree_cap_of=>(constructor <;> first|k_is|kernel_rfl))
  (case ME_Tree_kids=>(constructor <;> first|k_is|kernel_rfl))
  (case ME_Tree_line=>(constructor <;> first|k_is|kernel_rfl))
  (case ME_Tree_beneath=>(constructor <;> first|k_is|kernel_rfl))
  (case ME_Tree_promised_beneath=>(constructor <;> first|k_is|kernel_rfl))
  (case ME_Tree_check_more=>(constructor <;> first|k_is|kernel_rfl))
  (case ME_Store_put=>(constructor <;> first|k_is|kernel_rfl))
  (case ME_Store_keeps=>(constructor <;> first|k_is|kernel_rfl))
  (case ME_Store_numbers=>(constructor <;> first|k_is|kernel_rfl))
  (case ME_Store_under=>(constructor <;> first|k_is|kernel_rfl))
  (case ME_Store_at_house=>(constructor <;> first|k_is|kernel_rfl))
  (case ME_Store_promised_but=>(constructor <;> first|k_is|kernel_rfl))
  (case ME_Store_too_much=>(constructor <;> first|k_is|kernel_rfl))
  (case ME_Store_check_fits=>(constructor <;> first|k_is|kernel_rfl))
  (case NA_Store_tree=>k_is)
  (case NA_Store_holds=>k_is)
  (case NA_Store_last=>k_is)
  (case NA_House_elder=>k_is)
  (case NA_House_promise=>k_is)
  (case NA_House_cap=>k_is)
  (case NA_House_weight=>k_is)
  (case NA_Tree_sorted_wares=>k_is)
  (case NA_Tree_houses=>k_is)
  (case NA_Hold_number=>k_is)
  (case NA_Hold_house=>k_is)
  (case NA_Hold_amounts=>k_is)
  (case NA_Hold_rank=>k_is)
  (case NA_Hold_turns=>k_is)
  (case NA_Loan_number=>k_is)
  (case NA_Loan_house=>k_is)
  (case NA_Loan_amounts=>k_is)
  (case NA_Loan_rank=>k_is)
  (case NA_Loan_turns=>k_is)
  (case y_all=>k_is)
  (case y_bool=>k_is)
  (case y_dict=>k_is)
  (case y_int=>k_is)
  (case y_isinstance=>k_is)
  (case y_len=>k_is)
  (case y_list=>k_is)
  (case y_max=>k_is)
  (case y_min=>k_is)
  (case y_range=>k_is)
  (case y_set=>k_is)
  (case y_sorted=>k_is)
  (case y_str=>k_is)
  (case y_sum=>k_is)
  (case y_zip=>k_is)
