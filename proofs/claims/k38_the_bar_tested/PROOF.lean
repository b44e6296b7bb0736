import PyProof.Rows.All
import Wide.All
import OpenK.AllK
import Wide.FinOn
import Lean
import PyProof.EqAt
import PyProof.EqKinds
import PyProof.TupleCall
import PyProof.NeKinds
import KE.KEqDict
import KE.KRevIter
import PyProof.FactsAll.range_2
import PyProof.ZipIter
import PyProof.FitsReplace
import PyProof.MeetsStr
import PyProof.ListRange
import PyProof.CollectWalk
import PyProof.DictItems
import PyProof.DictItemsLoops
import PyProof.DictValues
import PyProof.DictWalks
import PyProof.StrCalls
import KE.KIsAll
import PyProof.Rows.Range3
import PyProof.Rows.MinMaxN
import PyProof.SumWalkG
import PyProof.MeetsStr2
import PyProof.StrBlockL
import PyProof.Rows.StrNews2
import PyProof.StrLawsOccR
import KE.KIntText
import PyProof.StrLawsIn
import PyProof.Rows.SeqMore2
import PyProof.ListOps
import PyProof.Rows.SeqMore
import PySem.Challenge.RW_quotatree_k38_the_bar_tested
open PySem.W (Frag instObj lookIn plainGet hasDictIn findIn isFn emptyDict specialIn keepIn mroIn kitOne fnOf codeIn excIn nsIn)
open List renaming getElem?_eq_getElem→zA,length_map→zB,getElem?_map→zC,mem_of_getElem?→zD,map_append→zE,mem_cons_of_mem→zF,length_append→zG,mem_singleton→zH,mem_cons_self→zI,getElem_mem→zJ,mem_iff_getElem→zK,mem_map→zL,length_cons→zM,mem_append→zN,mem_append_right→zO,size_toArray→zP,take_add_one→zQ,mem_cons→zR,map_cons→zS,length_take→zT,length_filter_le→zU,take_length→zV,getElem?_append_right→zW,nodup_cons→zX,filter_cons→zY,pairwise_iff_getElem→zZ,length_singleton→yA,getElem?_append_left→yB,filter_append→yC,append_nil→yD,all_eq_true→yE,mem_filter→yF,getElem?_eq_none→yG,nodup_nil→yH,mem_append_left→yI,length_range→yJ,nodup_append→yK,not_mem_nil→yL,find?_cons→yM,mem_flatten→yN,map_map→yO,filter_nil→yP,length_nil→yQ,getElem_map→yR,sum_cons→yS,foldl_cons→yT,length_zip→yU,mem_range→yV,any_cons→yW,all_cons→yX
set_option compiler.extract_closed false
set_option Elab.async false
set_option linter.all false
set_option maxRecDepth 100000
namespace L2
open PySem PySem.Spec PyProof.Rows
abbrev Key:=Sum Int Str
def keyIs:Key→Value→Bool
 | .inl k,v=>Value.isInt k v
 | .inr x,v=>Value.isStrOf x v
def keyH (w:World):Key→Int
 | .inl k=>hashInt k
 | .inr x=>hashStr w x
theorem qb3:∀{k:Key} {v:Value},keyIs k v=true→(∃i t,k=Sum.inl i∧v=Value.int i t)∨(∃x t,k=Sum.inr x∧v=Value.str x t)
 | .inl i,v,h=>by
  obtain⟨t,e⟩:=Value.isInt_shape (k:=i) (v:=v) h
  exact .inl ⟨i,t,rfl,e⟩
 | .inr x,v,h=>by
  obtain⟨t,e⟩:=Value.isStrOf_shape (x:=x) (v:=v) h
  exact .inr ⟨x,t,rfl,e⟩
theorem keyIs_int (i:Int) (t:Tok):keyIs (.inl i) (.int i t)=true:=by simp [keyIs,Value.isInt]
theorem keyIs_str (x:Str) (t:Tok):keyIs (.inr x) (.str x t)=true:=by simp [keyIs,Value.isStrOf]
theorem key_ll (a b:Int):decide ((Sum.inl a:Key)=Sum.inl b)=(a==b):=by
 by_cases e:a=b
 ·subst e;simp
 ·have h:¬(Sum.inl a:Key)=Sum.inl b:=fun q=>e (Sum.inl.inj q)
  rw [decide_eq_false h]
  exact(beq_eq_false_iff_ne.mpr e).symm
theorem key_rr (a b:Str):decide ((Sum.inr a:Key)=Sum.inr b)=decide (a=b):=by
 by_cases e:a=b
 ·subst e;simp
 ·have h:¬(Sum.inr a:Key)=Sum.inr b:=fun q=>e (Sum.inr.inj q)
  rw [decide_eq_false h,decide_eq_false e]
theorem key_lr (a:Int) (b:Str):decide ((Sum.inl a:Key)=Sum.inr b)=false:=decide_eq_false (fun q=>nomatch q)
theorem key_rl (a:Str) (b:Int):decide ((Sum.inr a:Key)=Sum.inl b)=false:=decide_eq_false (fun q=>nomatch q)
def qb6 (prog:Program) (w:World):PySem.KeyKind prog w Key where
 is:=keyIs
 hash:=keyH w
 inj:=fun v a b ha hb=>by
  rcases qb3 ha with ⟨i,t,rfl,rfl⟩ |⟨x,t,rfl,rfl⟩
  ·rcases qb3 hb with ⟨j,u,rfl,e⟩ |⟨y,u,rfl,e⟩
   ·injection e with e1 _;rw [e1]
   ·exact nomatch e
  ·rcases qb3 hb with ⟨j,u,rfl,e⟩ |⟨y,u,rfl,e⟩
   ·exact nomatch e
   ·injection e with e1 _;rw [e1]
 byValue:=fun k v h=>by
  rcases qb3 h with ⟨i,t,rfl,rfl⟩ |⟨x,t,rfl,rfl⟩ <;> rfl
 pyHash:=fun hv h=>by
  rcases qb3 hv with ⟨i,t,rfl,rfl⟩ |⟨x,t,rfl,rfl⟩
  ·exact wpAny_pyHash_int h
  ·exact wpAny_pyHash_str h
 eqBool:=fun hu hv h=>by
  rcases qb3 hu with ⟨i,t,rfl,rfl⟩ |⟨x,t,rfl,rfl⟩
  ·rcases qb3 hv with ⟨j,u,rfl,rfl⟩ |⟨y,u,rfl,rfl⟩
   ·rw [key_ll] at h;exact wpAny_eqBool_int h
   ·rw [key_lr] at h;exact SeqAt.EqAt.int_str i t y u _ _ _ _ h
  ·rcases qb3 hv with ⟨j,u,rfl,rfl⟩ |⟨y,u,rfl,rfl⟩
   ·rw [key_rl] at h;exact SeqAt.EqAt.str_int x t j u _ _ _ _ h
   ·rw [key_rr] at h;exact wpAny_eqBool_str h
 «strs»:=fun k x t v h=>by
  rcases qb3 h with ⟨i,u,rfl,e⟩ |⟨y,u,rfl,e⟩
  ·exact nomatch e
  ·injection e with e1 _
   subst e1
   cases v <;> rfl
theorem mixKind_int (prog:Program) (w:World) (i:Int) (t:Tok):(qb6 prog w).is (.inl i) (.int i t)=true:=keyIs_int i t
theorem mixKind_str (prog:Program) (w:World) (x:Str) (t:Tok):(qb6 prog w).is (.inr x) (.str x t)=true:=keyIs_str x t
inductive V where
 |non|bl (b:Bool) |int (i:Int) |str (x:Str) |byt (b:Array UInt8) |flt (b:UInt64) |ref (a:Addr) |ty (n:String)
 deriving DecidableEq
def qba:V→Value→Prop
 | .non,u=>u=Value.none
 | .bl b,u=>u=Value.bool b
 | .int i,u=>∃t,u=Value.int i t
 | .str x,u=>∃t,u=Value.str x t
 | .byt b,u=>∃t,u=Value.bytes b t
 | .flt b,u=>∃t,u=Value.float b t
 | .ref a,u=>u=Value.ref a
 | .ty n,u=>u=Value.type n
abbrev qb9:List V→List Value→Prop:=Paired qba
theorem qb9.length {xs:List V} {us:List Value} (r:qb9 xs us):xs.length=us.length:=Paired.length r
theorem qb9.get:∀{xs:List V} {us:List Value} {i:Nat} {x:V},qb9 xs us→xs[i]?=some x→∃u,us[i]?=some u∧qba x u
 |_,_,_,_,.nil,e=>by simp at e
 |_,_,0,_,.cons r _,e=>by simp at e;subst e;exact⟨_,rfl,r⟩
 |_,_,i+1,x,.cons _ t,e=>by
  obtain⟨u,h1,h2⟩:=qb9.get (i:=i) (x:=x) t (by simpa using e)
  exact⟨u,by simpa using h1,h2⟩
theorem qb9.set {x:V} {u:Value} (r:qba x u):∀{xs:List V} {us:List Value} (i:Nat),qb9 xs us→qb9 (xs.set i x) (us.set i u)
 |_,_,_,.nil=> .nil
 |_,_,0,.cons _ t=> .cons r t
 |_,_,i+1,.cons q t=> .cons q (qb9.set r i t)
theorem qb9.append:∀{xs ys:List V} {us ws:List Value},qb9 xs us→qb9 ys ws→qb9 (xs++ys) (us++ws)
 |_,_,_,_,.nil,s=>s
 |_,_,_,_,.cons r t,s=> .cons r (qb9.append t s)
theorem qb9.take:∀{xs:List V} {us:List Value} (n:Nat),qb9 xs us→qb9 (xs.take n) (us.take n)
 |_,_,0,_=> .nil
 |_,_,_+1,.nil=> .nil
 |_,_,n+1,.cons r t=> .cons r (qb9.take n t)
theorem qb9.drop:∀{xs:List V} {us:List Value} (n:Nat),qb9 xs us→qb9 (xs.drop n) (us.drop n)
 |_,_,0,r=>r
 |_,_,_+1,.nil=> .nil
 |_,_,n+1,.cons _ t=>qb9.drop n t
def qg9:Option V→Option Value→Prop
 |some v,some u=>qba v u
 |none,none=>True
 |_,_=>False
def KV {κ:Type}:List (κ × V)→List (κ × Value)→Prop:=Paired fun(p:κ × V) (q:κ × Value)=>p.1=q.1∧qba p.2 q.2
def kV:Key→V
 | .inl i=> .int i
 | .inr x=> .str x
inductive HO where
 |lst (xs:List V)
 |tup (xs:List V)
 |dK (kvs:List (Key × V)) |dT (kvs:List (List Key × V))
 |set (S:Int→Bool) (n:Nat)
 |ins (C dx:Addr) (fs:List (Str × V))
 |own (x:Addr)
 |xd (fs:List (Str × V))
 |met (f x:Addr)
 |rng (lo hi:Int)
 |frz (o:Obj) (u:HO)
 |tbl (ps:Array Value)
 |ext (φ:Heap→Prop)
abbrev Hp:=Addr→Option HO
def upd (H:Hp) (a:Addr) (o:HO):Hp:=fun b=>if b=a then some o else H b
theorem qa1 {H:Hp} {a:Addr} {o:HO}:upd H a o a=some o:=by unfold upd;rw [if_pos rfl]
theorem qa9 {H:Hp} {a b:Addr} {o:HO} (h:b≠a):upd H a o b=H b:=by unfold upd;rw [if_neg h]
theorem qbb {H:Hp} {a:Addr} {o u:HO}:upd (upd H a o) a u=upd H a u:=by
 funext b;unfold upd;split <;> rfl
theorem ne_of {H:Hp} {a b:Addr} {o u:HO} (h:H a=some o) (h':H b=some u) (d:o≠u):a≠b:=by
 intro e;subst e;rw [h] at h';exact d (Option.some.inj h')
theorem qa7 {H:Hp} {a b:Addr} {o:HO} (h:H a=some o) (h':H b=none):a≠b:=by
 intro e;subst e;rw [h] at h';cases h'
section
variable (P : Program) (w : World)
def qbi (H:Hp) (h:Heap) (a:Addr):HO→Prop
 | .lst xs=>xs.length≤sizeLine∧∃(its:List Value) (n:Nat),qb9 xs its∧h.get? a=some {cls:=.type "list",data:=.seq its.toArray n}
 | .tup xs=>xs.length≤sizeLine∧∃its:List Value,qb9 xs its∧IsTup h a its.toArray
 | .dK kvs=>kvs.length≤sizeLine∧(a==sysModules)=false∧∃vs,KV kvs vs∧h.DictOf (qb6 P w) a vs
 | .dT kvs=>kvs.length≤sizeLine∧(a==sysModules)=false∧∃xs:List (List Key × Addr × Value),
   Paired (fun(p:List Key × V) (q:List Key × Addr × Value)=>p.1=q.1∧H q.2.1=some (.tup (p.1.map kV))∧qba p.2 q.2.2) kvs xs∧
   ∃o es ep,h.get? a=some o∧o.ExactDict∧o.data=.dict es ep∧es.toList=xs.map (entryOfKey (tupleKind (qb6 P w)))∧(xs.map (·.1)).Nodup
 | .set S n=>h.SetOf (intKind P w) a S n
 | .ins C dx fs=>H dx=some (.own a)∧fs.length≤1000∧dx≠a∧h.get? a=some (instObj C dx)∧
   ∃mA,h.Ns1 dx mA∧(∀f,qg9 (fs.lookup f) (mA f))∧PySem.Within mA (fs.map (·.1))
 | .own _=>∃o,h.get? a=some o
 | .xd fs=>∃mA,h.Ns1 a mA∧∀f,qg9 (fs.lookup f) (mA f)
 | .rng lo hi=>∃t u v,h.get? a=some {cls:=.type "range",data:=.fields #[.int lo t,.int hi u,.int 1 v]}
 | .frz o u=>h.get? a=some o∧qbi H h a u
 | .tbl ps=>h.get? a=some {cls:=.none,data:=.fields ps}
 | .met f x=>h.get? a=some (PySem.W.methodObj (.ref f) (.ref x))
 | .ext φ=>φ h∧(∃o,h.get? a=some o)∧∀h1 h2:Heap,φ h1→(∀o,h1.get? a=some o→h2.get? a=some o)→φ h2
def HOk (H:Hp) (h:Heap):Prop:=∀a o,H a=some o→qbi P w H h a o
end
section
variable {P : Program} {w : World} {H H' : Hp} {h h' : Heap} {a : Addr} {o : HO}
theorem qbi.lt (x:qbi P w H h a o):a < h.objs.size:=by
 cases o with
 |lst xs=>obtain⟨_,_,_,_,e⟩:=x;exact Heap.lt_size e
 |tup xs=>obtain⟨_,_,_,p⟩:=x;exact p.lt
 |dK kvs=>obtain⟨_,_,_,_,o,_,_,e,_⟩:=x;exact Heap.lt_size e
 |dT kvs=>obtain⟨_,_,_,_,o,_,_,e,_⟩:=x;exact Heap.lt_size e
 |set S n=>obtain⟨o,_,_,_,e,_⟩:=x;exact Heap.lt_size e
 |ins C dx fs=>obtain⟨_,_,_,e,_⟩:=x;exact Heap.lt_size e
 |own y=>obtain⟨_,e⟩:=x;exact Heap.lt_size e
 |xd fs=>obtain⟨_,⟨_,_,_,e,_⟩,_⟩:=x;exact Heap.lt_size e
 |rng lo hi=>obtain⟨_,_,_,e⟩:=x;exact Heap.lt_size e
 |frz ob u=>obtain⟨e,_⟩:=x;exact Heap.lt_size e
 |tbl ps=>exact Heap.lt_size (show h.get? a=some _ from x)
 |met f y=>exact Heap.lt_size (show h.get? a=some _ from x)
 |ext φ=>obtain⟨_,⟨_,e⟩,_⟩:=x;exact Heap.lt_size e
theorem Paired.mapP {α β:Type} {F G:α→β→Prop}:∀{l₁:List α} {l₂:List β},Paired F l₁ l₂→(∀a b,F a b→G a b)→Paired G l₁ l₂
 |_,_,.nil,_=> .nil
 |_,_,.cons r t,f=> .cons (f _ _ r) (Paired.mapP t f)
theorem qbi.stay (x:qbi P w H h a o) (k:∀b u,(b=a∨H b=some (.own a))→h.get? b=some u→h'.get? b=some u)
  (ho:∀b,H b=some (.own a)→H' b=some (.own a)) (ht:∀b xs,H b=some (.tup xs)→H' b=some (.tup xs)):qbi P w H' h' a o:=by
 induction o with
 |lst xs=>obtain⟨z,its,n,r,e⟩:=x;exact⟨z,its,n,r,k _ _ (.inl rfl) e⟩
 |tup xs=>obtain⟨z,its,r,ob,e,c⟩:=x;exact⟨z,its,r,ob,k _ _ (.inl rfl) e,c⟩
 |dK kvs=>obtain⟨z,y,vs,r,ob,es,ep,e,c⟩:=x;exact⟨z,y,vs,r,ob,es,ep,k _ _ (.inl rfl) e,c⟩
 |dT kvs=>
  obtain⟨z,y,xs,r,ob,es,ep,e,c⟩:=x
  exact⟨z,y,xs,Paired.mapP r fun p q z=>⟨z.1,ht _ _ z.2.1,z.2.2⟩,ob,es,ep,k _ _ (.inl rfl) e,c⟩
 |set S n=>obtain⟨ob,es,ep,t,e,c⟩:=x;exact⟨ob,es,ep,t,k _ _ (.inl rfl) e,c⟩
 |ins C dx fs=>
  obtain⟨d,z,ne,e,mA,⟨od,es,ep,e2,c⟩,r⟩:=x
  exact⟨ho _ d,z,ne,k _ _ (.inl rfl) e,mA,⟨od,es,ep,k _ _ (.inr d) e2,c⟩,r⟩
 |own y=>obtain⟨ob,e⟩:=x;exact⟨ob,k _ _ (.inl rfl) e⟩
 |xd fs=>obtain⟨mA,⟨od,es,ep,e,c⟩,r⟩:=x;exact⟨mA,⟨od,es,ep,k _ _ (.inl rfl) e,c⟩,r⟩
 |rng lo hi=>obtain⟨t,u,v,e⟩:=x;exact⟨t,u,v,k _ _ (.inl rfl) e⟩
 |frz ob u ih=>obtain⟨e,q⟩:=x;exact⟨k _ _ (.inl rfl) e,ih q⟩
 |tbl ps=>
  have e:h.get? a=some {cls:=.none,data:=.fields ps}:=x
  show h'.get? a=some {cls:=.none,data:=.fields ps}
  exact k a _ (.inl rfl) e
 |met f y=>
  have e:h.get? a=some (PySem.W.methodObj (.ref f) (.ref y)):=x
  show h'.get? a=some (PySem.W.methodObj (.ref f) (.ref y))
  exact k a _ (.inl rfl) e
 |ext φ=>obtain⟨p,⟨o,e⟩,st⟩:=x;exact⟨st _ _ p fun o q=>k _ _ (.inl rfl) q,⟨o,k _ _ (.inl rfl) e⟩,st⟩
theorem HOk.lt (x:HOk P w H h) (e:H a=some o):a < h.objs.size:=(x a o e).lt
theorem HOk.fresh (x:HOk P w H h) (e:h.objs.size≤a):H a=none:=by
 cases q:H a with
 |none=>rfl
 |some u=>exact absurd (Nat.lt_of_lt_of_le (x.lt q) e) (Nat.lt_irrefl _)
theorem HOk.kept (x:HOk P w H h) (k:∀b u,h.get? b=some u→h'.get? b=some u):HOk P w H h':=fun a o e=>
 (x a o e).stay (fun b u _ q=>k b u q) (fun _ q=>q) fun _ _ q=>q
theorem HOk.laid (x:HOk P w H h) (k:∀b u,h.get? b=some u→h'.get? b=some u) (hp:h.objs.size≤a) (new:qbi P w (upd H a o) h' a o):HOk P w (upd H a o) h':=fun b u e=>by
 have hn:=x.fresh hp
 by_cases hb:b=a
 ·subst hb;rw [qa1] at e;cases e;exact new
 ·rw [qa9 hb] at e
  exact(x b u e).stay (fun c v _ q=>k c v q) (fun c q=>by rw [qa9 (qa7 q hn)];exact q) fun c xs q=>by rw [qa9 (qa7 q hn)];exact q
end
def Rd (H:Hp) (a:Addr) (u:HO):Prop:=H a=some u∨∃o,H a=some (.frz o u)
theorem Rd.of {H:Hp} {a:Addr} {u:HO} (h:H a=some u):Rd H a u:=.inl h
theorem Rd.ok {P:Program} {w:World} {H:Hp} {h:Heap} {a:Addr} {u:HO} (r:Rd H a u) (x:HOk P w H h):qbi P w H h a u:=by
 rcases r with r|⟨o,r⟩
 ·exact x a u r
 ·obtain⟨_,q⟩:=x a _ r
  exact q
def Mut:Option HO→Prop
 |some (.lst _)=>True
 |some (.dK _)=>True
 |some (.dT _)=>True
 |some (.set _ _)=>True
 |some (.ins _ _ _)=>True
 |some (.ext _)=>True
 |_=>False
section
variable {P : Program} {w : World} {H : Hp} {h h' : Heap} {x e : Addr} {o' : HO}
theorem HOk.write (ok:HOk P w H h) (mu:Mut (H x)) (he:e=x∨H e=some (.own x)) (k:∀b u,b≠e→h.get? b=some u→h'.get? b=some u) (heo:∃u,h'.get? e=some u)
  (new:qbi P w (upd H x o') h' x o'):HOk P w (upd H x o') h':=fun b u q=>by
 have nown:∀c y,H c=some (.own y)→c≠x:=fun c y r z=>by subst z;rw [r] at mu;exact mu
 have ntup:∀c xs,H c=some (.tup xs)→c≠x:=fun c xs r z=>by subst z;rw [r] at mu;exact mu
 by_cases hb:b=x
 ·subst hb;rw [qa1] at q;cases q;exact new
 ·rw [qa9 hb] at q
  by_cases hbe:b=e
  ·have q':H b=some (.own x):=by
    rcases he with z|z
    ·exact absurd (hbe.trans z) hb
    ·rw [hbe];exact z
   rw [q] at q';cases q'
   obtain⟨v,hv⟩:=heo
   exact⟨v,by rw [hbe];exact hv⟩
  ·refine(ok b u q).stay (fun c v hc r=>k c v ?_ r) (fun c r=>by rw [qa9 (nown c b r)];exact r) fun c xs r=>by rw [qa9 (ntup c xs r)];exact r
   rcases hc with rfl|hc
   ·exact hbe
   ·rintro rfl
    rcases he with z|z
    ·exact nown c b hc z
    ·rw [hc] at z;cases z;exact hb rfl
end
structure Un (fs ex:List Addr) (H H':Hp) (h h':Heap):Prop where
 keep:∀b o,h.get? b=some o→H b=none→b∉fs→b∉ex→h'.get? b=some o
 slot:∀b o,h.get? b=some o→H b=none→b∈fs→b∉ex→∃sl,h'.get? b=some {o with slots:=sl}
 free:∀b o,h.get? b=some o→H b=none→b∉ex→H' b=none
 there:∀b o,h.get? b=some o→b∉ex→∃o',h'.get? b=some o'
 tups:∀b xs,H b=some (.tup xs)→H' b=some (.tup xs)
 frzs:∀b o u,H b=some (.frz o u)→H' b=some (.frz o u)
 tbls:∀b ps,H b=some (.tbl ps)→∃more,H' b=some (.tbl (ps++more))
section
variable {fs fs' ex ex' : List Addr} {H H1 H2 : Hp} {h h1 h2 h' : Heap} {a x e : Addr} {o : HO}
theorem Un.any (u:Un fs ex H H1 h h1) {b:Addr} {ob:Obj} (q:h.get? b=some ob) (n:H b=none) (hx:b∉ex):∃sl,h1.get? b=some {ob with slots:=sl}:=by
 by_cases hb:b∈fs
 ·exact u.slot b ob q n hb hx
 ·exact⟨ob.slots,u.keep b ob q n hb hx⟩
theorem Un.kept (k:∀b u,h.get? b=some u→h'.get? b=some u):Un fs ex H H h h':=
 ⟨fun b ob q _ _ _=>k b ob q,fun b ob q _ _ _=>⟨ob.slots,k b ob q⟩,fun _ _ _ n _=>n,fun b ob q _=>⟨ob,k b ob q⟩,fun _ _ q=>q,fun _ _ _ q=>q,fun _ ps q=>⟨#[],by rw [q];simp⟩⟩
theorem Un.refl:Un fs ex H H h h:=Un.kept fun _ _ q=>q
theorem Un.laid (k:∀b u,h.get? b=some u→h'.get? b=some u) (hp:h.objs.size≤a) (hn:H a=none):Un fs ex H (upd H a o) h h' where
 keep:=fun b u q _ _ _=>k b u q
 slot:=fun b u q _ _ _=>⟨u.slots,k b u q⟩
 free:=fun b u q n _=>by rw [qa9 (Nat.ne_of_lt (Nat.lt_of_lt_of_le (Heap.lt_size q) hp))];exact n
 there:=fun b u q _=>⟨u,k b u q⟩
 tups:=fun b xs q=>by rw [qa9 (qa7 q hn)];exact q
 frzs:=fun b u xs q=>by rw [qa9 (qa7 q hn)];exact q
 tbls:=fun b ps q=>⟨#[],by rw [qa9 (qa7 q hn),q];simp⟩
theorem Un.write (mu:Mut (H x)) (he:e=x∨H e=some (.own x)) (k:∀b u,b≠e→h.get? b=some u→h'.get? b=some u) (heo:∃u,h'.get? e=some u):Un fs ex H (upd H x o) h h':=by
 have hx:∀b,H b=none→b≠x:=fun b n z=>by subst z;rw [n] at mu;exact mu
 have hb:∀b,H b=none→b≠e:=fun b n z=>by
  subst z
  rcases he with r|r
  ·exact hx b n r
  ·rw [n] at r;cases r
 have hm:∀b u,H b=some u→¬Mut (some u)→b≠x:=fun b u q nm z=>by subst z;rw [q] at mu;exact nm mu
 refine⟨fun b u q n _ _=>k b u (hb b n) q,fun b u q n _ _=>⟨u.slots,k b u (hb b n) q⟩,fun b u q n _=>by rw [qa9 (hx b n)];exact n,fun b u q _=>?_,
  fun b xs q=>by rw [qa9 (hm b _ q fun z=>z)];exact q,fun b u xs q=>by rw [qa9 (hm b _ q fun z=>z)];exact q,fun b ps q=>⟨#[],by rw [qa9 (hm b _ q fun z=>z),q];simp⟩⟩
 by_cases hbe:b=e
 ·subst hbe;exact heo
 ·exact⟨u,k b u hbe q⟩
end
def trk (h:Heap) (H:Hp):List Addr:=(List.range h.objs.size).filter fun a=>(H a).isSome
def hidT (h:Heap) (H:Hp):Heap:=PySem.W.hideAll h (trk h H)
theorem hidT_size (h:Heap) (H:Hp):(hidT h H).objs.size=h.objs.size:=PySem.W.hideAll_size _ _
theorem hidT_get {h:Heap} {H:Hp} {b:Addr} {o:Obj} (e:h.get? b=some o) (n:H b=none):(hidT h H).get? b=some o:=
 PySem.W.hideAll_get _ e fun hm=>by
  have q:(H b).isSome=true:=(yF.mp hm).2
  rw [n] at q;simp at q
theorem of_hidT {h:Heap} {H:Hp} {b:Addr} {o:Obj} (e:(hidT h H).get? b=some o):h.get? b=some o∧H b=none:=by
 have e':h.get? b=some o:=PySem.W.of_hideAll (trk h H) e
 refine⟨e',?_⟩
 cases q:H b with
 |none=>rfl
 |some x=>
  have hm:b∈trk h H:=yF.mpr ⟨yV.mpr (Heap.lt_size e'),by simp [q]⟩
  have z:(hidT h H).get? b=none:=PySem.W.hideAll_none (trk h H) hm
  rw [z] at e;cases e
def allNews (g h:Heap) (L:Addr):List (Addr × Obj):=(List.range h.objs.size).filterMap fun a=>if a=L∨(g.get? a).isSome=true then none else (h.get? a).map fun o=>(a,o)
def rest (g h:Heap) (L d:Addr):List (Addr × Obj):=(allNews g h L).filter fun p=>decide (p.1≠d)
structure Mod (K:Frag) (mg:Str→Option Value) (base:Heap):Prop where
 kin:K.In base
 glob:base.Ns mainGlobals mg
 blt:∃mb,base.Ns builtinsNs mb∧∀x:Str,x≠"__name__"→mb x=bootBuiltins x
 nolimit:base.NoLimit
structure Cx where
 prog:Program
 w:World
 K:Frag
 mg:Str→Option Value
 base:Heap
 A:Around
 N:List Str
 s₀:Shared
 H₀:Hp
 env:Env
 outer:List Env
 stack:List Env
 ex:List Addr
 fn:Str→Bool
 calm:Bool
 pn:List (Addr × Obj)
 xe:Value→Shared→Prop
def frs (l:List Env):List Addr:=l.filterMap (·.frame)
abbrev Cx.fs (X:Cx):List Addr:=frs X.outer
def Vis (sc:Scope) (x:Str):Prop:=sc.names.lookup x=some .local∨sc.names.lookup x=some .cell∨sc.names.lookup x=some .free
def Loc (sc:Scope) (x:Str):Prop:=sc.names.lookup x=some .local∨sc.names.lookup x=some .cell
def Look (env:Env) (h:Heap) (m:Str→Option Value) (x:Str) (u:Value):Prop:=
 (env.kindOf x=some .local∧m x=some u)∨((env.kindOf x=some .cell∨env.kindOf x=some .free)∧∃c,env.cells.lookup x=some c∧h.IsCell c (some u))
structure Cx.Ok (X:Cx):Prop where
 mod:Mod X.K X.mg X.base
 kind:X.env.scope.kind=.function
 glob:X.env.globals=mainGlobals
 blt:X.env.builtins=builtinsNs
 above:X.s₀.heap.objs.size≤X.env.locals
 inj:∀x y c,X.env.cells.lookup x=some c→X.env.cells.lookup y=some c→x=y
 has:∀x,(X.env.kindOf x=some .cell∨X.env.kindOf x=some .free)→∃c,X.env.cells.lookup x=some c
 cab:∀x c,X.fn x=true→X.env.cells.lookup x=some c→X.s₀.heap.objs.size≤c
 hd:X.calm=true→X.A.handled=none
 frames:X.A.frames=some X.stack
 stk:X.stack=X.outer∨(X.stack=X.env :: X.outer∧X.env.frame=some X.env.locals)
 exf:∀b∈X.ex,b≠X.env.locals∧∀x c,X.env.cells.lookup x=some c→c≠b
 bs:∀b o,X.base.get? b=some o→X.s₀.heap.get? b=some o∧X.H₀ b=none
 bsz:X.base.objs.size≤X.s₀.heap.objs.size
 noex:∀b o,X.base.get? b=some o→b∉X.ex
 exfs:∀b∈X.ex,b∉X.fs
 funs:X.s₀.heap.FunFrames X.base X.outer
 frf:∀b∈X.fs,X.H₀ b=none
structure Inv (X:Cx) (pins:List (Addr × Obj)) (σ:List (Option V)) (H:Hp) (s:Shared):Prop where
 ok:X.Ok
 os:s.os=X.s₀.os
 bare:AllBare s.gens
 base:Un X.fs X.ex X.H₀ H X.s₀.heap s.heap
 loc:∃m,s.heap.Ns X.env.locals m∧∀(i:Nat) (x:Str) (v:V),X.N[i]?=some x→σ[i]?=some (some v)→Vis X.env.scope x→∃u,qba v u∧Look X.env s.heap m x u
 cell:∀x c,X.env.cells.lookup x=some c→∃v,s.heap.IsCell c v
 free:H X.env.locals=none
 freeC:∀x c,X.env.cells.lookup x=some c→H c=none
 pin:∀p∈X.pn++pins,s.heap.get? p.1=some p.2∧H p.1=none∧p.1≠X.env.locals∧p.1∉X.fs∧∀v,p.2.data≠ .cell v
 hok:HOk X.prog X.w H s.heap
 len:σ.length=X.N.length
section
variable {X : Cx} {pins : List (Addr × Obj)} {σ : List (Option V)} {H H' : Hp} {s : Shared} {h' : Heap}
theorem Cx.Ok.nofr (ok:X.Ok) {b:Addr} {o:Obj} (e:X.base.get? b=some o):b∉X.fs:=fun hb=>by
 have:=(ok.funs.mem hb).1
 rw [e] at this;cases this
theorem Inv.bs (I:Inv X pins σ H s):∀b o,X.base.get? b=some o→s.heap.get? b=some o∧H b=none:=fun b o e=>
 ⟨I.base.keep b o (I.ok.bs b o e).1 (I.ok.bs b o e).2 (I.ok.nofr e) (I.ok.noex b o e),I.base.free b o (I.ok.bs b o e).1 (I.ok.bs b o e).2 (I.ok.noex b o e)⟩
theorem Inv.bk (I:Inv X pins σ H s):∀b o,X.base.get? b=some o→s.heap.get? b=some o:=fun b o e=>(I.bs b o e).1
theorem Inv.mod (I:Inv X pins σ H s):Mod X.K X.mg X.base:=I.ok.mod
theorem Inv.kIn (I:Inv X pins σ H s):X.K.In s.heap:=I.ok.mod.kin.keeps I.bk
theorem Inv.lt (I:Inv X pins σ H s):X.env.locals < s.heap.objs.size:=let ⟨_,hn,_⟩:=I.loc;hn.lt
theorem Inv.sz (I:Inv X pins σ H s):X.s₀.heap.objs.size≤s.heap.objs.size:=Nat.le_trans I.ok.above (Nat.le_of_lt I.lt)
theorem Inv.nofs (I:Inv X pins σ H s) {a:Addr} (h:s.heap.objs.size≤a):a∉X.fs:=fun hb=>by
 obtain⟨_,o,ho,_⟩:=I.ok.funs.mem hb
 exact absurd (Nat.lt_of_lt_of_le (Heap.lt_size ho) (Nat.le_trans I.sz h)) (Nat.lt_irrefl _)
theorem Inv.cne (I:Inv X pins σ H s):∀x c,X.env.cells.lookup x=some c→c≠X.env.locals:=fun x c e z=>by
 obtain⟨v,o,ho,hd⟩:=I.cell x c e
 obtain⟨m,⟨o',es,ep,ho',hd',_⟩,_⟩:=I.loc
 rw [z,ho'] at ho;cases ho;rw [hd'] at hd;cases hd
theorem Inv.funs (I:Inv X pins σ H s):s.heap.FunFrames X.base X.outer:=by
 have all:∀(l:List Env),(∀b∈frs l,b∈X.fs)→X.s₀.heap.FunFrames X.base l→s.heap.FunFrames X.base l:=by
  intro l
  induction l with
  |nil=>intro _ _;trivial
  |cons env r ih=>
   intro hs hl
   obtain⟨hk,⟨L,o,hf,hn,ho,hd⟩,hr⟩:=hl
   have hL:L∈X.fs:=hs L (by unfold frs;rw [List.filterMap_cons,hf];exact zI)
   obtain⟨sl,e⟩:=I.base.slot L o ho (I.ok.frf L hL) hL fun z=>I.ok.exfs L z hL
   exact⟨hk,⟨L,_,hf,hn,e,hd⟩,ih (fun b hb=>hs b (by unfold frs;rw [List.filterMap_cons,hf];exact zF _ hb)) hr⟩
 exact all X.outer (fun _ hb=>hb) I.ok.funs
theorem Inv.stack (I:Inv X pins σ H s):s.heap.FunFrames X.base X.stack:=by
 rcases I.ok.stk with e|⟨e,hf⟩
 ·rw [e];exact I.funs
 ·rw [e]
  obtain⟨m,hn,_⟩:=I.loc
  refine .cons (by rw [I.ok.kind];decide) hf hn ?_ I.funs
  exact Heap.get?_none_of_le (Nat.le_trans I.ok.bsz I.ok.above)
theorem Inv.stkSub (I:Inv X pins σ H s):∀b∈frs X.stack,b∈X.env.locals :: X.fs:=fun b hb=>by
 rcases I.ok.stk with e|⟨e,hf⟩
 ·rw [e] at hb;exact zF _ hb
 ·rw [e] at hb
  unfold frs at hb
  rw [List.filterMap_cons,hf] at hb
  exact hb
theorem Inv.stkFree (I:Inv X pins σ H s):∀b∈frs X.stack,H b=none:=fun b hb=>by
 rcases zR.mp (I.stkSub b hb) with e|hb
 ·rw [e];exact I.free
 ·obtain⟨_,o,ho,_⟩:=I.ok.funs.mem hb
  exact I.base.free b o ho (I.ok.frf b hb) fun z=>I.ok.exfs b z hb
theorem Inv.step {g':Array GenState} {t':Nat} {d':Drawn} {ch:List Addr} (I:Inv X pins σ H s)
  (hch:∀b∈ch,(b∈X.ex∨X.s₀.heap.objs.size≤b)∧b≠X.env.locals∧(∀x c,X.env.cells.lookup x=some c→c≠b)∧∀p∈X.pn++pins,p.1≠b)
  (keep:∀b o,b≠X.env.locals→b∉X.fs→b∉ch→s.heap.get? b=some o→H b=none→h'.get? b=some o)
  (slot:∀b o,b≠X.env.locals→b∈X.fs→b∉ch→s.heap.get? b=some o→H b=none→∃sl,h'.get? b=some {o with slots:=sl}) (free:∀b o,b∉ch→s.heap.get? b=some o→H b=none→H' b=none)
  (there:∀b o,b∉ch→s.heap.get? b=some o→∃o',h'.get? b=some o')
  (tups:∀b xs,H b=some (.tup xs)→H' b=some (.tup xs)) (frzs:∀b o u,H b=some (.frz o u)→H' b=some (.frz o u)) (tbls:∀b ps,H b=some (.tbl ps)→∃more,H' b=some (.tbl (ps++more)))
  (ns:∀m,s.heap.Ns X.env.locals m→h'.Ns X.env.locals m) (hok:HOk X.prog X.w H' h') (hg:AllBare g'):
  Inv X pins σ H' {s with heap:=h',gens:=g',drawn:=d',toks:=t'}:=by
 have neL:∀b o,X.s₀.heap.get? b=some o→b≠X.env.locals:=fun b o e=>Nat.ne_of_lt (Nat.lt_of_lt_of_le (Heap.lt_size e) I.ok.above)
 have neC:∀b o,X.s₀.heap.get? b=some o→b∉X.ex→b∉ch:=fun b o e hx hb=>by
  rcases(hch b hb).1 with z|z
  ·exact hx z
  ·exact absurd (Nat.lt_of_lt_of_le (Heap.lt_size e) z) (Nat.lt_irrefl _)
 have cellK:∀x c,X.env.cells.lookup x=some c→∀v,s.heap.IsCell c v→h'.IsCell c v:=fun x c e v ⟨o,ho,hd⟩=>by
  have nch:c∉ch:=fun z=>(hch c z).2.2.1 x c e rfl
  by_cases hc:c∈X.fs
  ·obtain⟨sl,q⟩:=slot c o (I.cne x c e) hc nch ho (I.freeC x c e)
   exact⟨_,q,hd⟩
  ·exact⟨o,keep c o (I.cne x c e) hc nch ho (I.freeC x c e),hd⟩
 refine⟨I.ok,I.os,hg,⟨fun b o e n hb hx=>?_,fun b o e n hb hx=>?_,fun b o e n hx=>?_,fun b o e hx=>?_,fun b xs e=>tups b xs (I.base.tups b xs e),fun b o xs e=>frzs b o xs (I.base.frzs b o xs e),fun b ps e=>?_⟩,?_,fun x c e=>?_,?_,fun x c e=>?_,fun p hp=>?_,hok,I.len⟩
 ·exact keep b o (neL b o e) hb (neC b o e hx) (I.base.keep b o e n hb hx) (I.base.free b o e n hx)
 ·obtain⟨sl,e1⟩:=I.base.slot b o e n hb hx
  obtain⟨sl',e2⟩:=slot b _ (neL b o e) hb (neC b o e hx) e1 (I.base.free b o e n hx)
  exact⟨sl',e2⟩
 ·obtain⟨o',e1⟩:=I.base.there b o e hx
  exact free b o' (neC b o e hx) e1 (I.base.free b o e n hx)
 ·obtain⟨o',e1⟩:=I.base.there b o e hx
  exact there b o' (neC b o e hx) e1
 ·obtain⟨m1,e1⟩:=I.base.tbls b ps e
  obtain⟨m2,e2⟩:=tbls b _ e1
  exact⟨m1++m2,by rw [e2,Array.append_assoc]⟩
 ·obtain⟨m,hn,hl⟩:=I.loc
  refine⟨m,ns m hn,fun i x v e1 e2 e3=>?_⟩
  obtain⟨u,r,l⟩:=hl i x v e1 e2 e3
  refine⟨u,r,?_⟩
  rcases l with l|⟨k,c,e,z⟩
  ·exact .inl l
  ·exact .inr ⟨k,c,e,cellK x c e _ z⟩
 ·obtain⟨v,z⟩:=I.cell x c e
  exact⟨v,cellK x c e v z⟩
 ·obtain⟨m,⟨o,_,_,ho,_⟩,_⟩:=I.loc
  exact free _ o (fun z=>(hch _ z).2.1 rfl) ho I.free
 ·obtain⟨v,o,ho,hd⟩:=I.cell x c e
  exact free c o (fun z=>(hch c z).2.2.1 x c e rfl) ho (I.freeC x c e)
 ·obtain⟨e,n,ne,nf,d⟩:=I.pin p hp
  have nch:p.1∉ch:=fun z=>(hch p.1 z).2.2.2 p hp rfl
  exact⟨keep p.1 p.2 ne nf nch e n,free p.1 p.2 nch e n,ne,nf,d⟩
theorem Inv.un {t':Nat} (I:Inv X pins σ H s) (u:Un X.fs [] H H' s.heap h') (hok:HOk X.prog X.w H' h'):Inv X pins σ H' {s with heap:=h',toks:=t'}:=by
 obtain⟨m,⟨o,es,ep,ho,r⟩,_⟩:=id I.loc
 obtain⟨sl,hL⟩:=u.any ho I.free (by simp)
 exact I.step (g':=s.gens) (d':=s.drawn) (ch:=[]) (fun _ z=>nomatch z) (fun b o _ hb _ e n=>u.keep b o e n hb (by simp)) (fun b o _ hb _ e n=>u.slot b o e n hb (by simp)) (fun b o _ e n=>u.free b o e n (by simp)) (fun b o _ e=>u.there b o e (by simp)) u.tups u.frzs u.tbls (fun m' hm=>by
  obtain⟨o',es',ep',ho',r'⟩:=hm
  rw [ho] at ho';cases ho'
  exact⟨_,es',ep',hL,r'⟩) hok I.bare
theorem Inv.call {g':Array GenState} {t':Nat} {d':Drawn} {ch:List Addr} (I:Inv X pins σ H s) (u:Un (frs X.stack) ch H H' s.heap h') (hok:HOk X.prog X.w H' h') (hg:AllBare g')
  (hch:∀b∈ch,(b∈X.ex∨X.s₀.heap.objs.size≤b)∧b≠X.env.locals∧(∀x c,X.env.cells.lookup x=some c→c≠b)∧∀p∈X.pn++pins,p.1≠b):
  Inv X pins σ H' {s with heap:=h',gens:=g',drawn:=d',toks:=t'}:=by
 obtain⟨m,⟨o,es,ep,ho,r⟩,_⟩:=id I.loc
 obtain⟨sl,hL⟩:=u.any ho I.free fun z=>(hch _ z).2.1 rfl
 exact I.step (ch:=ch) hch (fun b o hL hb hc e n=>u.keep b o e n (fun z=>(zR.mp (I.stkSub b z)).elim hL hb) hc) (fun b o _ _ hc e n=>u.any e n hc) (fun b o hc e n=>u.free b o e n hc) (fun b o hc e=>u.there b o e hc) u.tups u.frzs u.tbls (fun m' hm=>by
  obtain⟨o',es',ep',ho',r'⟩:=hm
  rw [ho] at ho';cases ho'
  exact⟨_,es',ep',hL,r'⟩) hok hg
theorem Inv.turned {t':Nat} {it:Addr} (I:Inv X pins σ H s) (k:∀b o,b≠it→s.heap.get? b=some o→h'.get? b=some o) (hn:H it=none) (hL:it≠X.env.locals)
  (h1:it∈X.ex∨X.s₀.heap.objs.size≤it) (h2:∀x c,X.env.cells.lookup x=some c→c≠it) (h3:∀p∈X.pn++pins,p.1≠it):Inv X pins σ H {s with heap:=h',toks:=t'}:=by
 have nit:∀b u,H b=some u→b≠it:=fun b u e z=>by rw [z,hn] at e;cases e
 refine I.step (g':=s.gens) (d':=s.drawn) (ch:=[it]) (fun b hb=>?_) (fun b o _ _ hc e _=>k b o (fun z=>hc (by simp [z])) e) (fun b o _ _ hc e _=>⟨o.slots,k b o (fun z=>hc (by simp [z])) e⟩) (fun _ _ _ _ n=>n)
  (fun b o hc e=>⟨o,k b o (fun z=>hc (by simp [z])) e⟩) (fun _ _ e=>e) (fun _ _ _ e=>e) (fun b ps e=>⟨#[],by rw [e];simp⟩) (fun m hm=>?_) (fun b u e=>?_) I.bare
 ·have e:b=it:=by simpa using hb
  subst e
  exact⟨h1,hL,h2,h3⟩
 ·obtain⟨o,es,ep,ho,r⟩:=hm
  exact⟨o,es,ep,k _ o (Ne.symm hL) ho,r⟩
 ·refine(I.hok b u e).stay (fun c v hc q=>k c v ?_ q) (fun _ q=>q) fun _ _ q=>q
  rcases hc with z|z
  ·rw [z];exact nit b u e
  ·exact nit c _ z
theorem Inv.tok (I:Inv X pins σ H s) (t:Nat):Inv X pins σ H {s with toks:=t}:=I.un (h':=s.heap) (t':=t) Un.refl I.hok
theorem Inv.kept {t':Nat} (I:Inv X pins σ H s) (k:∀b u,s.heap.get? b=some u→h'.get? b=some u):Inv X pins σ H {s with heap:=h',toks:=t'}:=I.un (Un.kept k) (I.hok.kept k)
theorem Inv.laid {a:Addr} {o:HO} {t':Nat} (I:Inv X pins σ H s) (k:∀b u,s.heap.get? b=some u→h'.get? b=some u) (hp:s.heap.objs.size≤a) (new:qbi X.prog X.w (upd H a o) h' a o):
  Inv X pins σ (upd H a o) {s with heap:=h',toks:=t'}:=I.un (Un.laid k hp (I.hok.fresh hp)) (I.hok.laid k hp new)
theorem Inv.write {x e:Addr} {o:HO} {t':Nat} (I:Inv X pins σ H s) (mu:Mut (H x)) (he:e=x∨H e=some (.own x)) (k:∀b u,b≠e→s.heap.get? b=some u→h'.get? b=some u) (heo:∃u,h'.get? e=some u)
  (new:qbi X.prog X.w (upd H x o) h' x o):Inv X pins σ (upd H x o) {s with heap:=h',toks:=t'}:=I.un (Un.write mu he k heo) (I.hok.write mu he k heo new)
theorem Inv.pins_of {pins':List (Addr × Obj)} (I:Inv X pins σ H s) (h:∀p∈pins',s.heap.get? p.1=some p.2∧H p.1=none∧p.1≠X.env.locals∧p.1∉X.fs∧∀v,p.2.data≠ .cell v):Inv X pins' σ H s:=
 ⟨I.ok,I.os,I.bare,I.base,I.loc,I.cell,I.free,I.freeC,fun p hp=>(zN.mp hp).elim (fun z=>I.pin p (yI _ z)) (h p),I.hok,I.len⟩
theorem nodup_ix {N:List Str} (hN:N.Nodup) {i j:Nat} {x:Str} (a:N[i]?=some x) (b:N[j]?=some x):i=j:=by
 obtain⟨h1,e1⟩:=List.getElem?_eq_some_iff.mp a
 obtain⟨h2,e2⟩:=List.getElem?_eq_some_iff.mp b
 exact(List.getElem_inj hN).mp (e1.trans e2.symm)
theorem store_ok2 {M:Model} {A:Around} {E:Value→Shared→Prop} {i:Nat} {x:Str} {v:V} {u:Value} {Q:Unit→Shared→Prop} (I:Inv X pins σ H s) (hN:X.N.Nodup) (hi:X.N[i]?=some x) (hx:Loc X.env.scope x) (r:qba v u)
  (h:∀s',Inv X pins (σ.set i (some v)) H s'→(∃a,Heap.SameBut a s.heap s'.heap∧(a=X.env.locals∨X.env.cells.lookup x=some a))→Q () s') (hf:X.fn x=true∨X.env.scope.names.lookup x=some .local:=by first|exact .inl rfl|exact .inr rfl|assumption):wpAny M A (storeName X.env x u) Q E s:=by
 obtain⟨m,hn,hl⟩:=id I.loc
 have hcls:(X.env.scope.kind==.class ||(X.env.scope.kind==.module && X.env.locals !=X.env.globals))=false:=by rw [I.ok.kind];rfl
 have hiσ:i < σ.length:=by rw [I.len];exact(List.getElem?_eq_some_iff.mp hi).1
 have cne:=I.cne
 have tracked:∀{a:Addr} {h':Heap},(∃o,s.heap.get? a=some o∧H a=none)→Heap.SameBut a s.heap h'→HOk X.prog X.w H h':=fun {a h'} ha hs b ob e=>by
  obtain⟨_,_,hfree⟩:=ha
  refine(I.hok b ob e).stay (fun c w' hc q=>(hs.2 c ?_).trans q) (fun _ q=>q) fun _ _ q=>q
  rintro rfl
  rcases hc with rfl|hc
  ·rw [hfree] at e;cases e
  ·rw [hfree] at hc;cases hc
 rcases hx with hk|hk
 ·refine wpAny_storeName_local hk hn (fun h' hn' hs=>?_) hcls
  obtain⟨oL,_,_,hoL,_⟩:=id hn
  refine h _ ⟨I.ok,I.os,I.bare,⟨fun b o e n hb hx=>?_,fun b o e n hb hx=>?_,I.base.free,fun b o e hx=>?_,I.base.tups,I.base.frzs,I.base.tbls⟩,⟨_,hn',fun j y v' e1 e2 e3=>?_⟩,fun y c e=>?_,I.free,I.freeC,fun p hp=>?_,tracked ⟨oL,hoL,I.free⟩ hs,by simpa using I.len⟩ ⟨_,hs,.inl rfl⟩
  ·exact(hs.2 b (Nat.ne_of_lt (Nat.lt_of_lt_of_le (Heap.lt_size e) I.ok.above))).trans (I.base.keep b o e n hb hx)
  ·obtain⟨sl,e1⟩:=I.base.slot b o e n hb hx
   exact⟨sl,(hs.2 b (Nat.ne_of_lt (Nat.lt_of_lt_of_le (Heap.lt_size e) I.ok.above))).trans e1⟩
  ·obtain⟨o',e1⟩:=I.base.there b o e hx
   exact⟨o',(hs.2 b (Nat.ne_of_lt (Nat.lt_of_lt_of_le (Heap.lt_size e) I.ok.above))).trans e1⟩
  ·by_cases hj:j=i
   ·subst hj
    rw [hi] at e1;cases e1
    rw [List.getElem?_set_self hiσ] at e2
    cases e2
    exact⟨u,r,.inl ⟨hk,by simp⟩⟩
   ·rw [List.getElem?_set_ne (Ne.symm hj)] at e2
    obtain⟨u',r',q⟩:=hl j y v' e1 e2 e3
    refine⟨u',r',?_⟩
    rcases q with ⟨k,e⟩ |⟨k,c,e,z⟩
    ·refine .inl ⟨k,?_⟩
     have:y≠x:=fun e=>hj (nodup_ix hN e1 (e ▸ hi))
     simp [this,e]
    ·exact .inr ⟨k,c,e,z.sameBut hs (cne y c e)⟩
  ·obtain⟨w',z⟩:=I.cell y c e
   exact⟨w',z.sameBut hs (cne y c e)⟩
  ·obtain⟨e,n,ne,nf,d⟩:=I.pin p hp
   exact⟨(hs.2 p.1 ne).trans e,n,ne,nf,d⟩
 ·have hfn:X.fn x=true:=by
   rcases hf with z|z
   ·exact z
   ·rw [z] at hk;cases hk
  obtain⟨c,hc⟩:=I.ok.has x (.inl hk)
  obtain⟨w',z⟩:=I.cell x c hc
  refine wpAny_storeName_cell I.ok.kind hk hc z (fun h' hc' hs=>?_)
  obtain⟨oc,hoc,hocd⟩:=id z
  refine h {s with heap:=h'} ⟨I.ok,I.os,I.bare,⟨fun b o e n hb hx=>?_,fun b o e n hb hx=>?_,I.base.free,fun b o e hx=>?_,I.base.tups,I.base.frzs,I.base.tbls⟩,⟨m,hn.sameBut hs (Ne.symm (cne x c hc)),fun j y v' e1 e2 e3=>?_⟩,fun y c' e=>?_,I.free,I.freeC,fun p hp=>?_,tracked ⟨oc,hoc,I.freeC x c hc⟩ hs,by simpa using I.len⟩ ⟨c,hs,.inr hc⟩
  ·exact(hs.2 b (Nat.ne_of_lt (Nat.lt_of_lt_of_le (Heap.lt_size e) (I.ok.cab x c hfn hc)))).trans (I.base.keep b o e n hb hx)
  ·obtain⟨sl,e1⟩:=I.base.slot b o e n hb hx
   exact⟨sl,(hs.2 b (Nat.ne_of_lt (Nat.lt_of_lt_of_le (Heap.lt_size e) (I.ok.cab x c hfn hc)))).trans e1⟩
  ·obtain⟨o',e1⟩:=I.base.there b o e hx
   exact⟨o',(hs.2 b (Nat.ne_of_lt (Nat.lt_of_lt_of_le (Heap.lt_size e) (I.ok.cab x c hfn hc)))).trans e1⟩
  ·by_cases hj:j=i
   ·subst hj
    rw [hi] at e1;cases e1
    rw [List.getElem?_set_self hiσ] at e2
    cases e2
    exact⟨u,r,.inr ⟨.inl hk,c,hc,hc'⟩⟩
   ·rw [List.getElem?_set_ne (Ne.symm hj)] at e2
    obtain⟨u',r',q⟩:=hl j y v' e1 e2 e3
    refine⟨u',r',?_⟩
    rcases q with q|⟨k,c',e,z'⟩
    ·exact .inl q
    ·refine .inr ⟨k,c',e,z'.sameBut hs ?_⟩
     rintro rfl
     exact hj (nodup_ix hN e1 (I.ok.inj _ _ _ e hc ▸ hi))
  ·by_cases hcc:c'=c
   ·subst hcc;exact⟨_,hc'⟩
   ·obtain⟨w2,z2⟩:=I.cell y c' e
    exact⟨w2,z2.sameBut hs hcc⟩
  ·obtain⟨e,n,ne,nf,d⟩:=I.pin p hp
   refine⟨(hs.2 p.1 ?_).trans e,n,ne,nf,d⟩
   intro q
   rw [q,hoc] at e
   have q':oc=p.2:=Option.some.inj e
   exact d w' (by rw [←q'];exact hocd)
theorem qef {M:Model} {A:Around} {E:Value→Shared→Prop} {i:Nat} {x:Str} {v:V} {u:Value} {Q:Unit→Shared→Prop} (I:Inv X pins σ H s) (hN:X.N.Nodup) (hi:X.N[i]?=some x) (hx:Loc X.env.scope x) (r:qba v u)
  (h:∀s',Inv X pins (σ.set i (some v)) H s'→Q () s') (hf:X.fn x=true∨X.env.scope.names.lookup x=some .local:=by first|exact .inl rfl|exact .inr rfl|assumption):wpAny M A (storeName X.env x u) Q E s:=
 store_ok2 I hN hi hx r (fun s' I' _=>h s' I') hf
theorem Inv.call' {s':Shared} {ch:List Addr} (I:Inv X pins σ H s) (ho:s'.os=s.os) (u:Un (frs X.stack) ch H H' s.heap s'.heap) (hok:HOk X.prog X.w H' s'.heap) (hg:AllBare s'.gens)
  (hch:∀b∈ch,(b∈X.ex∨X.s₀.heap.objs.size≤b)∧b≠X.env.locals∧(∀x c,X.env.cells.lookup x=some c→c≠b)∧∀p∈X.pn++pins,p.1≠b):Inv X pins σ H' s':=by
 obtain⟨h',g',d',t',o'⟩:=s'
 have e:o'=s.os:=ho
 subst e
 exact I.call (g':=g') (t':=t') (d':=d') u hok hg hch
end
abbrev XK:=Value→Option Addr→Hp→Prop
abbrev St:=List (Option V)
abbrev VK:=V→Hp→Prop
abbrev TE:=St→Hp→VK→Prop
abbrev TT:=St→Hp→(Bool→Hp→Prop)→Prop
abbrev TA:=St→Hp→(List V→Hp→Prop)→Prop
structure Ends where
 nx:St→Hp→Prop
 rt:VK
 bk:St→Hp→Prop:=fun _ _=>False
 ct:St→Hp→Prop:=fun _ _=>False
abbrev TS:=Ends→St→Hp→Prop
def EP (X:Cx) (pins:List (Addr × Obj)) (σ:St) (Q:VK) (u:Value) (s':Shared):Prop:=∃v H',Inv X pins σ H' s'∧qba v u∧Q v H'
def TP (X:Cx) (pins:List (Addr × Obj)) (σ:St) (Q:Bool→Hp→Prop) (b:Bool) (s':Shared):Prop:=∃H',Inv X pins σ H' s'∧Q b H'
def AP (X:Cx) (pins:List (Addr × Obj)) (σ:St) (Q:List V→Hp→Prop) (us:List Value) (s':Shared):Prop:=∃vs H',Inv X pins σ H' s'∧qb9 vs us∧Q vs H'
def SP (X:Cx) (pins:List (Addr × Obj)) (D:Ends) (f:Flow) (s':Shared):Prop:=
 match f with
 | .next=>∃σ' H',Inv X pins σ' H' s'∧D.nx σ' H'
 | .brk=>∃σ' H',Inv X pins σ' H' s'∧D.bk σ' H'
 | .cont=>∃σ' H',Inv X pins σ' H' s'∧D.ct σ' H'
 | .ret u=>∃v σ' H',Inv X pins σ' H' s'∧qba v u∧D.rt v H'
def PE (X:Cx) (e:Expr) (t:TE):Prop:=
 ∀(pins:List (Addr × Obj)) (s:Shared) (σ:St) (H:Hp) (Q:VK),Inv X pins σ H s→t σ H Q→wpAny (model X.prog X.w) X.A (eval e X.env) (EP X pins σ Q) X.xe s
def PT (X:Cx) (e:Expr) (t:TT):Prop:=
 ∀(pins:List (Addr × Obj)) (s:Shared) (σ:St) (H:Hp) (Q:Bool→Hp→Prop),Inv X pins σ H s→t σ H Q→wpAny (model X.prog X.w) X.A (isTrue e X.env (eval e X.env)) (TP X pins σ Q) X.xe s
def PW (X:Cx) (e:Expr) (t:TT):Prop:=
 ∀(whole:Sem Value) (pins:List (Addr × Obj)) (s:Shared) (σ:St) (H:Hp) (Q:Bool→Hp→Prop),Inv X pins σ H s→t σ H Q→wpAny (model X.prog X.w) X.A (isTrue e X.env whole) (TP X pins σ Q) X.xe s
theorem PW.pt {X:Cx} {e:Expr} {t:TT} (h:PW X e t):PT X e t:=h _
def PA (X:Cx) (es:List Expr) (t:TA):Prop:=
 ∀(pos:Pos) (pins:List (Addr × Obj)) (s:Shared) (σ:St) (H:Hp) (Q:List V→Hp→Prop),Inv X pins σ H s→t σ H Q→wpAny (model X.prog X.w) X.A (spliced (backTo pos (starEach es X.env))) (AP X pins σ Q) X.xe s
def PS (X:Cx) (st:Stmt) (t:TS):Prop:=
 ∀(pins:List (Addr × Obj)) (s:Shared) (σ:St) (H:Hp) (D:Ends),Inv X pins σ H s→t D σ H→wpAny (model X.prog X.w) X.A (exec st X.env) (SP X pins D) X.xe s
def PSs (X:Cx) (st:List Stmt) (t:TS):Prop:=
 ∀(pins:List (Addr × Obj)) (s:Shared) (σ:St) (H:Hp) (D:Ends),Inv X pins σ H s→t D σ H→wpAny (model X.prog X.w) X.A (execs st X.env) (SP X pins D) X.xe s
theorem thn {α:Type} {t:Sem α} {Q Q':α→Shared→Prop} {M:Model} {A:Around} {E:Value→Shared→Prop} {s:Shared} (h:wpAny M A t Q E s) (hQ:∀a s,Q a s→Q' a s):wpAny M A t Q' E s:=wpAny_mono h hQ fun _ _ x=>x
section
variable {X : Cx}
theorem bin {a b:Expr} {ta tb:TE} (ha:PE X a ta) (hb:PE X b tb) {pins:List (Addr × Obj)} {s:Shared} {σ:St} {H:Hp} {R:V→V→Hp→Prop} (I:Inv X pins σ H s) (h:ta σ H fun x H1=>tb σ H1 fun y H2=>R x y H2)
  {α:Type} {Q:α→Shared→Prop} {f:Value→Value→Sem α}
  (hf:∀v u s2 x y H2,Inv X pins σ H2 s2→qba x v→qba y u→R x y H2→wpAny (model X.prog X.w) X.A (f v u) Q X.xe s2):
  wpAny (model X.prog X.w) X.A (eval a X.env) (fun v s₁=>wpAny (model X.prog X.w) X.A (eval b X.env) (fun u s₂=>wpAny (model X.prog X.w) X.A (f v u) Q X.xe s₂) X.xe s₁) X.xe s:=by
 refine thn (ha pins s σ H _ I h) fun v s1 ⟨x,H1,I1,r1,q1⟩=>?_
 refine thn (hb pins s1 σ H1 _ I1 q1) fun u s2 ⟨y,H2,I2,r2,q2⟩=>?_
 exact hf v u s2 x y H2 I2 r1 r2 q2
def tVar (i:Nat):TE:=fun σ H Q=>∃v,σ[i]?=some (some v)∧Q v H
def tC (v:V):TE:=fun _ H Q=>Q v H
theorem pe_var {i:Nat} {x:Str} {pos:Pos} (hN:X.N[i]?=some x) (hv:Vis X.env.scope x) (hd:(x==("__debug__" :Str))=false:=by decide) (hcd:(x==("__classdict__" :Str))=false:=by decide):PE X (.Name x pos) (tVar i):=by
 intro pins s σ H Q I h
 obtain⟨v,e,h⟩:=h
 obtain⟨m,hn,hl⟩:=I.loc
 obtain⟨u,r,l⟩:=hl i x v hN e hv
 have fin:EP X pins σ Q u s:=⟨v,H,I,r,h⟩
 rcases l with ⟨hk,hm⟩ |⟨hk,c,hc,hcell⟩
 ·exact wpAny_Name (wpAny_loadName_local I.ok.kind hk hn hm fin) hd
 ·rcases hk with hk|hk
  ·exact wpAny_Name (wpAny_loadName_cell I.ok.kind hk hc hcell fin) hd
  ·exact wpAny_Name (wpAny_loadName_free I.ok.kind hk hc hcell fin hcd) hd
theorem qa5 {i j pos}:PE X (.Constant (.int i) j pos) (tC (.int i)):=fun _ _ _ H _ I h=>wpAny_Constant_int ⟨.int i,H,I.tok _,⟨_,rfl⟩,h⟩
theorem pe_bl {b j pos}:PE X (.Constant (.bool b) j pos) (tC (.bl b)):=fun _ _ _ H _ I h=>Constant_bool ⟨.bl b,H,I,rfl,h⟩
theorem qdo {j pos}:PE X (.Constant .none j pos) (tC .non):=fun _ _ _ H _ I h=>Constant_none ⟨.non,H,I,rfl,h⟩
theorem qck {x j pos}:PE X (.Constant (.str x) j pos) (tC (.str x)):=fun _ _ _ H _ I h=>Calls.Constant_str ⟨.str x,H,I.tok _,⟨_,rfl⟩,h⟩
def Gl (X:Cx) (x:Str):Prop:=X.env.kindOf x=some .globalImplicit
theorem qdt {E:Value→Shared→Prop} {pins:List (Addr × Obj)} {s:Shared} {σ:St} {H:Hp} {x:Str} {u:Value} {pos:Pos} {Q:Value→Shared→Prop} (I:Inv X pins σ H s) (hg:Gl X x) (hm:X.mg x=some u) (h:Q u s)
  (hd:(x==("__debug__" :Str))=false:=by decide):wpAny (model X.prog X.w) X.A (eval (.Name x pos) X.env) Q E s:=
 Calls.Name_function_global I.ok.kind hg (Calls.loadGlobal_global (by rw [I.ok.glob];exact I.mod.glob.keeps I.bk) hm h) hd
theorem qe2 {E:Value→Shared→Prop} {pins:List (Addr × Obj)} {s:Shared} {σ:St} {H:Hp} {x:Str} {u:Value} {pos:Pos} {Q:Value→Shared→Prop} (I:Inv X pins σ H s) (hg:Gl X x) (hm:X.mg x=none) (hv:bootBuiltins x=some u) (h:Q u s)
  (hn:x≠"__name__":=by decide) (hd:(x==("__debug__" :Str))=false:=by decide):wpAny (model X.prog X.w) X.A (eval (.Name x pos) X.env) Q E s:=by
 obtain⟨mb,h1,h2⟩:=I.mod.blt
 exact Calls.Name_function_global I.ok.kind hg (Calls.loadGlobal_builtin (by rw [I.ok.glob];exact I.mod.glob.keeps I.bk) hm (by rw [I.ok.blt];exact h1.keeps I.bk) ((h2 x hn).trans hv) h) hd
theorem qe5 {x:Str} {v:V} {u:Value} {pos:Pos} (hg:Gl X x) (hm:X.mg x=some u) (r:qba v u) (hd:(x==("__debug__" :Str))=false:=by decide):PE X (.Name x pos) (tC v):=
 fun _ _ _ H _ I h=>qdt I hg hm ⟨v,H,I,r,h⟩ hd
theorem qdb {x:Str} {v:V} {u:Value} {pos:Pos} (hg:Gl X x) (hm:X.mg x=none) (hv:bootBuiltins x=some u) (r:qba v u) (hn:x≠"__name__":=by decide) (hd:(x==("__debug__" :Str))=false:=by decide):PE X (.Name x pos) (tC v):=
 fun _ _ _ H _ I h=>qe2 I hg hm hv ⟨v,H,I,r,h⟩ hn hd
variable {a b : Expr} {ta tb : TE} {pos : Pos}
def PC (X:Cx) (op:CmpOp) (a b:Expr) (t:TE):Prop:=
 ∀(pins:List (Addr × Obj)) (s:Shared) (σ:St) (H:Hp) (Q:VK),Inv X pins σ H s→t σ H Q→
  wpAny (model X.prog X.w) X.A (eval a X.env) (fun v s₁=>wpAny (model X.prog X.w) X.A (eval b X.env) (fun u s₂=>wpAny (model X.prog X.w) X.A (compareOp op v u) (EP X pins σ Q) X.xe s₂) X.xe s₁) X.xe s
def tB (t:TE):TT:=fun σ H Q=>t σ H fun x H1=>∃c,x=.bl c∧Q c H1
theorem pe_cmp {op:CmpOp} {t:TE} (h:PC X op a b t) (h1:behindInMarks op b=false:=by first|exact nobehind _ (by decide) (by decide) |rfl):PE X (.Compare a [op] [b] pos) t:=fun pins s σ H Q I hw=>wpAny_Compare1 (h pins s σ H Q I hw) h1
theorem pt_cmp {op:CmpOp} {t:TE} (h:PC X op a b t) (h1:behindInMarks op b=false:=by first|exact nobehind _ (by decide) (by decide) |rfl):PT X (.Compare a [op] [b] pos) (tB t):=by
 intro pins s σ H Q I hw
 refine wpAny_isTrue_Compare1 (thn (h pins s σ H _ I hw) fun v s1 h1=>thn h1 fun u s2 h2=>thn h2 fun c s3 ⟨x,H1,I1,r1,q1⟩=>?_) h1
 obtain⟨d,rfl,q⟩:=q1
 cases r1
 exact wpAny_truthy_bool ⟨H1,I1,q⟩
theorem qci {e:Expr} {t:TE} (h:PE X e t) (he:∀whole,isTrue e X.env whole=(do let v←whole;standAt e.pos;holding [v] (truthy v)):=by intro _;rfl):PT X e (tB t):=by
 intro pins s σ H Q I hw
 refine isTrue_plain (thn (h pins s σ H _ I hw) fun v s1 ⟨x,H1,I1,r1,q1⟩=>?_) (he _)
 obtain⟨d,rfl,q⟩:=q1
 cases r1
 exact wpAny_truthy_bool ⟨H1,I1,q⟩
variable {tA tB' : TT} {rest : List Expr}
def tAnd (t u:TT):TT:=fun σ H Q=>t σ H fun c H1=>if c=true then u σ H1 Q else Q false H1
def tOr (t u:TT):TT:=fun σ H Q=>t σ H fun c H1=>if c=true then Q true H1 else u σ H1 Q
def tNot (t:TT):TT:=fun σ H Q=>t σ H fun c H1=>Q (!c) H1
theorem pw_and1 (ha:PT X a tA):PW X (.BoolOp .And [a] pos) tA:=by
 intro wh pins s σ H Q I h
 refine isTrue_and (thn (ha pins s σ H Q I h) fun c s1 e=>?_)
 cases c with
 |true=>exact isTrue_and_nil e
 |false=>exact e
theorem pw_or1 (ha:PT X a tA):PW X (.BoolOp .Or [a] pos) tA:=by
 intro wh pins s σ H Q I h
 refine isTrue_or (thn (ha pins s σ H Q I h) fun c s1 e=>?_)
 cases c with
 |false=>exact isTrue_or_nil e
 |true=>exact e
theorem pw_and (ha:PT X a tA) (hb:PW X (.BoolOp .And (b :: rest) pos) tB'):PW X (.BoolOp .And (a :: b :: rest) pos) (tAnd tA tB'):=by
 intro wh pins s σ H Q I h
 refine isTrue_and (thn (ha pins s σ H _ I h) fun c s1 ⟨H1,I1,q1⟩=>?_)
 cases c with
 |true=>exact hb wh pins s1 σ H1 Q I1 q1
 |false=>exact⟨H1,I1,q1⟩
theorem pw_or (ha:PT X a tA) (hb:PW X (.BoolOp .Or (b :: rest) pos) tB'):PW X (.BoolOp .Or (a :: b :: rest) pos) (tOr tA tB'):=by
 intro wh pins s σ H Q I h
 refine isTrue_or (thn (ha pins s σ H _ I h) fun c s1 ⟨H1,I1,q1⟩=>?_)
 cases c with
 |true=>exact⟨H1,I1,q1⟩
 |false=>exact hb wh pins s1 σ H1 Q I1 q1
theorem qd9 (ha:PT X a tA):PT X (.UnaryOp .Not a pos) (tNot tA):=by
 intro pins s σ H Q I h
 exact isTrue_not (ha pins s σ H (fun c H1=>Q (!c) H1) I h)
def tAndV (ta tb:TE):TE:=fun σ H Q=>ta σ H fun x H1=>∃c,x=.bl c∧if c=true then tb σ H1 Q else Q (.bl false) H1
def tNotV (ta:TE):TE:=fun σ H Q=>ta σ H fun x H1=>∃c,x=.bl c∧Q (.bl (!c)) H1
theorem pe_one {op} {t:TE} (h:PE X a t):PE X (.BoolOp op [a] pos) t:=fun pins s σ H Q I hw=>BoolOp_one (h pins s σ H Q I hw)
theorem pe_and (ha:PE X a ta) (hb:PE X (.BoolOp .And (b :: rest) pos) tb):PE X (.BoolOp .And (a :: b :: rest) pos) (tAndV ta tb):=by
 intro pins s σ H Q I h
 refine BoolOp_and (thn (ha pins s σ H _ I h) fun v s1 ⟨x,H1,I1,r1,q1⟩=>?_)
 obtain⟨c,rfl,q1⟩:=q1
 cases r1
 refine wpAny_truthy_bool ?_
 cases c with
 |true=>exact hb pins s1 σ H1 Q I1 q1
 |false=>exact⟨.bl false,H1,I1,rfl,q1⟩
theorem pe_not (ha:PE X a ta):PE X (.UnaryOp .Not a pos) (tNotV ta):=by
 intro pins s σ H Q I h
 refine UnaryOp_ (thn (ha pins s σ H _ I h) fun v s1 ⟨x,H1,I1,r1,q1⟩=>?_)
 obtain⟨c,rfl,q1⟩:=q1
 cases r1
 exact not_of (wpAny_truthy_bool ⟨.bl (!c),H1,I1,rfl,q1⟩)
end
def SqL (K:Frag) (H:Hp) (a:Addr) (xs:List V):Prop:=
 Rd H a (.lst xs)∨
  ∃(o:Obj) (its:Array Value) (n:Nat),K.lookup a=some o∧o.cls=.type "list"∧o.dict=none∧o.data=.seq its n∧its.size≤sizeLine∧qb9 xs its.toList
def SqT (K:Frag) (H:Hp) (a:Addr) (xs:List V):Prop:=
 Rd H a (.tup xs)∨
  ∃(o:Obj) (its:Array Value) (n:Nat),K.lookup a=some o∧o.cls=.type "tuple"∧o.data=.seq its n∧its.size≤sizeLine∧qb9 xs its.toList
def absV:Value→Option V
 | .none=>some .non
 | .bool b=>some (.bl b)
 | .int i _=>some (.int i)
 | .str x _=>some (.str x)
 | .bytes b _=>some (.byt b)
 | .float b _=>some (.flt b)
 | .ref a=>some (.ref a)
 | .type n=>some (.ty n)
 |_=>none
theorem qba.abs {x:V} {u:Value} (r:qba x u):absV u=some x:=by
 cases x with
 |non=>cases r;rfl
 |bl _=>cases r;rfl
 |int _=>obtain⟨t,rfl⟩:=r;rfl
 |str _=>obtain⟨t,rfl⟩:=r;rfl
 |byt _=>obtain⟨t,rfl⟩:=r;rfl
 |flt _=>obtain⟨t,rfl⟩:=r;rfl
 |ref _=>cases r;rfl
 |ty _=>cases r;rfl
theorem qba.inj {x y:V} {u:Value} (r:qba x u) (q:qba y u):x=y:=Option.some.inj (r.abs.symm.trans q.abs)
theorem qb9.inj:∀{xs ys:List V} {us:List Value},qb9 xs us→qb9 ys us→xs=ys
 |_,_,_,.nil,.nil=>rfl
 |_,_,_,.cons r t,.cons r' t'=>by rw [r.inj r',qb9.inj t t']
section
variable {X : Cx} {pins : List (Addr × Obj)} {σ : St} {H : Hp} {s : Shared} {a : Addr} {xs ys : List V}
theorem SqL.of {K:Frag} (h:H a=some (.lst xs)):SqL K H a xs:=.inl (.inl h)
theorem SqT.of {K:Frag} (h:H a=some (.tup xs)):SqT K H a xs:=.inl (.inl h)
theorem Inv.list (I:Inv X pins σ H s) (h:SqL X.K H a xs):∃its:List Value,qb9 xs its∧PlainL s.heap a its.toArray∧xs.length≤sizeLine:=by
 rcases h with h|⟨o,its,n,hk,hc,hd,hs,hz,r⟩
 ·obtain⟨z,its,n,r,e⟩:=h.ok I.hok
  exact⟨its,r,⟨_,n,e,rfl,rfl,rfl⟩,z⟩
 ·refine⟨its.toList,r,⟨o,n,I.kIn a o hk,hc,hd,by simpa using hs⟩,?_⟩
  have e:=r.length
  simp only [Array.length_toList] at e
  omega
theorem Inv.tuple (I:Inv X pins σ H s) (h:SqT X.K H a xs):∃its:List Value,qb9 xs its∧IsTup s.heap a its.toArray∧xs.length≤sizeLine:=by
 rcases h with h|⟨o,its,n,hk,hc,hs,hz,r⟩
 ·obtain⟨z,its,r,p⟩:=h.ok I.hok
  exact⟨its,r,p,z⟩
 ·refine⟨its.toList,r,⟨o,I.kIn a o hk,hc,n,by simpa using hs⟩,?_⟩
  have e:=r.length
  simp only [Array.length_toList] at e
  omega
theorem Inv.list_inj (I:Inv X pins σ H s) (h:SqL X.K H a xs) (h':SqL X.K H a ys):xs=ys:=by
 obtain⟨its,r,⟨o,n,e,_,_,d⟩,_⟩:=I.list h
 obtain⟨its',r',⟨o',n',e',_,_,d'⟩,_⟩:=I.list h'
 rw [e] at e';cases e'
 rw [d] at d'
 injection d' with d1 _
 have:its=its':=by simpa using congrArg Array.toList d1
 subst this
 exact r.inj r'
end
abbrev Cx.wish (X:Cx) (E:Value→Shared→Prop):Cx:={X with xe:=E}
abbrev Cx.nox (X:Cx):Cx:=X.wish fun _ _=>False
theorem Cx.Ok.wish {X:Cx} (ok:X.Ok) (E:Value→Shared→Prop):(X.wish E).Ok:=
 ⟨ok.mod,ok.kind,ok.glob,ok.blt,ok.above,ok.inj,ok.has,ok.cab,ok.hd,ok.frames,ok.stk,ok.exf,ok.bs,ok.bsz,ok.noex,ok.exfs,ok.funs,ok.frf⟩
theorem Cx.Ok.unwish {X:Cx} {E:Value→Shared→Prop} (ok:(X.wish E).Ok):X.Ok:=
 ⟨ok.mod,ok.kind,ok.glob,ok.blt,ok.above,ok.inj,ok.has,ok.cab,ok.hd,ok.frames,ok.stk,ok.exf,ok.bs,ok.bsz,ok.noex,ok.exfs,ok.funs,ok.frf⟩
section
variable {X : Cx} {pins : List (Addr × Obj)} {σ : St} {H : Hp} {s : Shared} {E : Value → Shared → Prop}
theorem Inv.wish (I:Inv X pins σ H s) (E:Value→Shared→Prop):Inv (X.wish E) pins σ H s:=⟨I.ok.wish E,I.os,I.bare,I.base,I.loc,I.cell,I.free,I.freeC,I.pin,I.hok,I.len⟩
theorem Inv.unwish (I:Inv (X.wish E) pins σ H s):Inv X pins σ H s:=⟨I.ok.unwish,I.os,I.bare,I.base,I.loc,I.cell,I.free,I.freeC,I.pin,I.hok,I.len⟩
theorem SP.unwish {D:Ends} {f:Flow} {s':Shared} (h:SP (X.wish E) pins D f s'):SP X pins D f s':=by
 cases f with
 |next=>obtain⟨σ',H',I,q⟩:=h;exact⟨σ',H',I.unwish,q⟩
 |brk=>obtain⟨σ',H',I,q⟩:=h;exact⟨σ',H',I.unwish,q⟩
 |cont=>obtain⟨σ',H',I,q⟩:=h;exact⟨σ',H',I.unwish,q⟩
 |ret u=>obtain⟨v,σ',H',I,r,q⟩:=h;exact⟨v,σ',H',I.unwish,r,q⟩
theorem PSs.nox {st:List Stmt} {t:TS} (h:PSs X.nox st t):PSs X st t:=fun pins s σ H D I hw=>
 wpAny_mono (h pins s σ H D (I.wish _) hw) (fun _ _ q=>q.unwish) fun _ _ z=>False.elim z
end
section
variable {X : Cx} {st : Stmt} {rest : List Stmt} {t u : TS} {e : Expr} {te : TE} {pos : Pos}
def tNext:TS:=fun D σ H=>D.nx σ H
def tSeq (t u:TS):TS:=fun D σ H=>t {D with nx:=u D} σ H
theorem qan:PSs X [] tNext:=fun _ _ σ H _ I h=>wpAny_execs_nil ⟨σ,H,I,h⟩
theorem qa3 (h1:PS X st t) (h2:PSs X rest u):PSs X (st :: rest) (tSeq t u):=by
 intro pins s σ H D I h
 refine wpAny_execs_cons (thn (h1 pins s σ H {D with nx:=u D} I h) fun f s1 q=>?_)
 cases f with
 |next=>
  obtain⟨σ',H',I',q⟩:=q
  exact h2 pins s1 σ' H' D I' q
 |ret v=>exact q
 |brk=>exact q
 |cont=>exact q
theorem qa6 (h1:PS X st t):PSs X [st] t:=by
 intro pins s σ H D I h
 refine wpAny_execs_cons (thn (h1 pins s σ H D I h) fun f s1 q=>?_)
 cases f with
 |next=>exact wpAny_execs_nil q
 |ret v=>exact q
 |brk=>exact q
 |cont=>exact q
theorem Inv.quiet {pins:List (Addr × Obj)} {σ:St} {H:Hp} {s:Shared} (I:Inv X pins σ H s):interactive X.env=false:=by simp [interactive,I.ok.kind]
def tDrop (te:TE):TS:=fun D σ H=>te σ H fun _ H1=>D.nx σ H1
theorem qay (he:PE X e te) (hs:swapsWith e none pos.line X.env=pure false:=by rfl):PS X (.Expr e pos) (tDrop te):=by
 intro pins s σ H D I h
 exact wpAny_Expr_any (thn (he pins s σ H _ I h) fun v s1 ⟨x,H1,I1,r1,q1⟩=>⟨σ,H1,I1,q1⟩) I.quiet hs
def tRet (te:TE):TS:=fun D σ H=>te σ H D.rt
theorem qaj (he:PE X e te):PS X (.Return (some e) pos) (tRet te):=by
 intro pins s σ H D I h
 exact wpAny_Return_some (thn (he pins s σ H _ I h) fun v s1 ⟨x,H1,I1,r1,q1⟩=>⟨x,σ,H1,I1,r1,q1⟩)
def tIfS (c:TT) (t u:TS):TS:=fun D σ H=>c σ H fun b H1=>if b=true then t D σ H1 else u D σ H1
theorem qbc {c:Expr} {a b:List Stmt} {tc:TT} (hc:PT X c tc) (ha:PSs X a t) (hb:PSs X b u):PS X (.If c a b pos) (tIfS tc t u):=by
 intro pins s σ H D I h
 refine wpAny_If (thn (hc pins s σ H _ I h) fun d s1 ⟨H1,I1,q1⟩=>?_)
 cases d with
 |true=>exact ha pins s1 σ H1 D I1 q1
 |false=>exact hb pins s1 σ H1 D I1 q1
end
abbrev TG:=V→St→Hp→(St→Hp→Prop)→Prop
abbrev TGs:=List V→St→Hp→(St→Hp→Prop)→Prop
def PG (X:Cx) (target:Expr) (t:TG):Prop:=
 ∀(pins:List (Addr × Obj)) (s:Shared) (σ:St) (H:Hp) (v:V) (u:Value) (Q:St→Hp→Prop),Inv X pins σ H s→qba v u→t v σ H Q→
  wpAny (model X.prog X.w) X.A (assign target X.env u) (fun _ s'=>∃σ' H',Inv X pins σ' H' s'∧Q σ' H') X.xe s
def PGs (X:Cx) (ts:List Expr) (t:TGs):Prop:=
 ∀(pins:List (Addr × Obj)) (s:Shared) (σ:St) (H:Hp) (vs:List V) (us:List Value) (Q:St→Hp→Prop),Inv X pins σ H s→qb9 vs us→t vs σ H Q→
  wpAny (model X.prog X.w) X.A (assignInOrder ((assignEach ts X.env).map (·.2)) us) (fun _ s'=>∃σ' H',Inv X pins σ' H' s'∧Q σ' H') X.xe s
section
variable {X : Cx} {pos : Pos}
def gName (i:Nat):TG:=fun v σ H Q=>Q (σ.set i (some v)) H
theorem qam {i:Nat} {x:Str} (hN:X.N.Nodup) (hi:X.N[i]?=some x) (hx:Loc X.env.scope x) (hf:X.fn x=true∨X.env.scope.names.lookup x=some .local:=by first|exact .inl rfl|exact .inr rfl|assumption):PG X (.Name x pos) (gName i):=by
 intro pins s σ H v u Q I r h
 exact wpAny_assign_Name (qef I hN hi hx r (fun s' I'=>⟨_,H,I',h⟩) hf)
def gNil:TGs:=fun vs σ H Q=>vs=[]∧Q σ H
def gCons (t:TG) (u:TGs):TGs:=fun vs σ H Q=>∃v r,vs=v :: r∧t v σ H fun σ' H'=>u r σ' H' Q
theorem qep:PGs X [] gNil:=by
 intro pins s σ H vs us Q I r h
 obtain⟨e,h⟩:=h
 subst e
 cases r
 exact assignInOrder_nil ⟨σ,H,I,h⟩
theorem qbl {e:Expr} {es:List Expr} {t:TG} {u:TGs} (h1:PG X e t) (h2:PGs X es u)
  (hs:(assignEach (e :: es) X.env).map (·.2)=assign e X.env ::(assignEach es X.env).map (·.2):=by rfl):PGs X (e :: es) (gCons t u):=by
 intro pins s σ H vs us Q I r h
 obtain⟨v,vr,e1,h⟩:=h
 subst e1
 cases r with
 |cons r rr=>
  rw [hs]
  refine assignInOrder_cons (thn (h1 pins s σ H _ _ _ I r h) fun _ s1 ⟨σ1,H1,I1,q1⟩=>?_)
  exact h2 pins s1 σ1 H1 _ _ Q I1 rr q1
def gTup (K:Frag) (n:Nat) (t:TGs):TG:=fun v σ H Q=>∃a xs,v=.ref a∧SqT K H a xs∧xs.length=n∧t xs σ H Q
theorem pg_tup {es:List Expr} {k:Nat} {t:TGs} {n:Nat} (hc:X.calm=true) (h:PGs X es t)
  (hn:(assignEach es X.env).length=n:=by rfl) (hst:(assignEach es X.env).findIdx? (·.1)=none:=by rfl):PG X (.Tuple es k pos) (gTup X.K n t):=by
 intro pins s σ H v u Q I r hw
 obtain⟨a,xs,e1,hq,hl,hw⟩:=hw
 subst e1
 cases r
 obtain⟨its,rv,ht,hz⟩:=I.tuple hq
 refine assign_Tuple_tuple (I.ok.hd hc) ht (by simp [hn,←hl,rv.length]) hst fun h' hx=>?_
 have I1:Inv X pins σ H {s with heap:=h'}:=I.kept (t':=s.toks) fun b o e=>hx b o (Nat.ne_of_lt (Heap.lt_size e)) e
 exact h pins _ σ H xs _ Q I1 (by simpa using rv) hw
def tAsg (te:TE) (g:TG):TS:=fun D σ H=>te σ H fun x H1=>g x σ H1 D.nx
theorem ps_asg {tg e:Expr} {te:TE} {g:TG} (he:PE X e te) (hg:PG X tg g) (hs:swapsWithSole [tg] e pos.line X.env=pure false:=by rfl) (hw:swappedStores [tg] e X.env=pure none:=by rfl)
  (h1:(assignEach [tg] X.env).map (·.2)=[assign tg X.env]:=by rfl):PS X (.Assign [tg] e pos) (tAsg te g):=by
 intro pins s σ H D I h
 refine wpAny_Assign_stores (thn (he pins s σ H _ I h) fun v s1 ⟨x,H1,I1,r1,q1⟩=>?_) hs hw
 rw [h1]
 exact thn (hg pins s1 σ H1 x v _ I1 r1 q1) fun _ s2 q=>q
theorem qad {i:Nat} {x:Str} {e:Expr} {te:TE} {pos':Pos} (hN:X.N.Nodup) (hi:X.N[i]?=some x) (hx:Loc X.env.scope x) (he:PE X e te) (hs:swapsWith e (some (.Name x pos')) pos.line X.env=pure false:=by rfl) (hf:X.fn x=true∨X.env.scope.names.lookup x=some .local:=by first|exact .inl rfl|exact .inr rfl|assumption):
  PS X (.Assign [.Name x pos'] e pos) (tAsg te (gName i)):=by
 intro pins s σ H D I h
 refine wpAny_Assign_Name (thn (he pins s σ H _ I h) fun v s1 ⟨y,H1,I1,r1,q1⟩=>?_) hs
 exact qef I1 hN hi hx r1 (fun s2 I2=>⟨_,H1,I2,q1⟩) hf
end
section
variable {X : Cx} {pos : Pos}
def tWhile (c:TT) (tb:TS):TS:=fun D σ H=>∃W:Nat→St→Hp→Prop,(∃m,W m σ H)∧∀m σ H,W m σ H→
 c σ H fun b H1=>if b=true then ∃N:St→Hp→Prop,(∀σ' H',N σ' H'→∃m',m' < m∧W m' σ' H')∧tb {D with nx:=N,ct:=N,bk:=D.nx} σ H1 else D.nx σ H1
theorem ps_while {c:Expr} {body:List Stmt} {tc:TT} {tb:TS} (hp:PassesOwn (model X.prog X.w) X.A X.env X.xe) (hc:PT X c tc) (hb:PSs X body tb):PS X (.While c body [] pos) (tWhile tc tb):=by
 intro pins s σ H D I h
 obtain⟨W,⟨m0,w0⟩,turn⟩:=h
 refine wpAny_While (codeAny_whileLoop (fun n s'=>∃σ' H',Inv X pins σ' H' s'∧W n σ' H') ?_ m0 ⟨σ,H,I,w0⟩)
 rintro n s1 ⟨σ1,H1,I1,w1⟩
 refine wpAny_passesOwn hp (thn (hc pins s1 σ1 H1 _ I1 (turn n σ1 H1 w1)) fun b s2 ⟨H2,I2,q2⟩=>?_)
 cases b with
 |true=>
  obtain⟨N,hN,q2⟩:=q2
  rw [if_pos rfl]
  refine wpAny_passesOwn hp (thn (hb pins s2 σ1 H2 _ I2 q2) fun f s3 q3=>?_)
  cases f with
  |next=>
   obtain⟨σ3,H3,I3,n3⟩:=q3
   obtain⟨m',hm,w3⟩:=hN σ3 H3 n3
   exact⟨m',hm,σ3,H3,I3,w3⟩
  |cont=>
   obtain⟨σ3,H3,I3,n3⟩:=q3
   obtain⟨m',hm,w3⟩:=hN σ3 H3 n3
   exact⟨m',hm,σ3,H3,I3,w3⟩
  |brk=>exact q3
  |ret v=>exact q3
 |false=>
  rw [if_neg Bool.false_ne_true]
  exact wpAny_execs_nil ⟨σ1,H2,I2,q2⟩
end
structure It where
 go:Nat→Hp→Prop
 yld:Nat→Hp→V→Hp→Prop
 stop:Nat→Hp→Prop
def qgb (X:Cx) (pins:List (Addr × Obj)) (H:Hp) (b:Addr):Prop:=
 H b=none∧b≠X.env.locals∧b∉X.fs∧(b∈X.ex∨X.s₀.heap.objs.size≤b)∧(∀x c,X.env.cells.lookup x=some c→c≠b)∧∀p∈X.pn++pins,p.1≠b
theorem Inv.fpOk {X:Cx} {pins:List (Addr × Obj)} {σ:St} {H H':Hp} {s:Shared} {b:Addr} (I:Inv X pins σ H s) (hb:s.heap.objs.size≤b) (hn:H' b=none):qgb X pins H' b:=by
 refine⟨hn,Nat.ne_of_gt (Nat.lt_of_lt_of_le I.lt hb),I.nofs hb,.inr (Nat.le_trans I.sz hb),fun x c e z=>?_,fun p hp z=>?_⟩
 ·obtain⟨v,q⟩:=I.cell x c e
  exact absurd (Nat.lt_of_lt_of_le q.lt (by rw [z];exact hb)) (Nat.lt_irrefl _)
 ·exact absurd (Nat.lt_of_lt_of_le (Heap.lt_size (I.pin p hp).1) (by rw [z];exact hb)) (Nat.lt_irrefl _)
structure Turn (P:Program) (w:World) (K:Frag) (tg:Expr) (J:It) (fp:List Addr) (it:Addr) (tn:Nat→Heap→Prop):Prop where
 mem:it∈fp
 obj:∀i h,tn i h→∀b∈fp,∃o,h.get? b=some o∧∀v,o.data≠ .cell v
 keep:∀i h h',tn i h→(∀b∈fp,∀o,h.get? b=some o→h'.get? b=some o)→tn i h'
 item:∀(X:Cx),X.prog=P→X.w=w→X.K=K→X.calm=true→∀(i:Nat) (pins:List (Addr × Obj)) (s:Shared) (σ:St) (H:Hp) (E:Value→Shared→Prop),Inv X pins σ H s→(∀b∈fp,qgb X pins H b)→tn i s.heap→J.go i H→
  wpAny (model P w) X.A (pyNext (.ref it)) (fun r s1=>∃u,r=some u∧
   wpAny (model P w) X.A (letOwnedTupleGo tg (.ref it) u) (fun _ s2=>∃x H',Inv X pins σ H' s2∧qba x u∧J.yld i H x H'∧tn (i+1) s2.heap∧∀b∈fp,H' b=none) E s1) E s
 done:∀(X:Cx),X.prog=P→X.w=w→X.K=K→X.calm=true→∀(i:Nat) (pins:List (Addr × Obj)) (s:Shared) (σ:St) (H:Hp) (E:Value→Shared→Prop),Inv X pins σ H s→(∀b∈fp,qgb X pins H b)→tn i s.heap→J.stop i H→
  wpAny (model P w) X.A (pyNext (.ref it)) (fun r s1=>r=none∧Inv X pins σ H s1) E s
 self:∀(A:Around) (i:Nat) (s:Shared) (Q:Value→Shared→Prop) (E:Value→Shared→Prop),tn i s.heap→Q (.ref it) s→wpAny (model P w) A (pyIter (.ref it)) Q E s
abbrev TI:=St→Hp→(It→Hp→Prop)→Prop
def PIE (X:Cx) (pins:List (Addr × Obj)) (σ:St) (tg:Expr) (R:It→Hp→Prop) (itv:Value) (s2:Shared):Prop:=
 ∃(it:Addr) (fp:List Addr) (tn:Nat→Heap→Prop) (J:It) (H':Hp),itv=.ref it∧Inv X pins σ H' s2∧Turn X.prog X.w X.K tg J fp it tn∧tn 0 s2.heap∧(∀b∈fp,qgb X pins H' b)∧R J H'
def PI (X:Cx) (tg iter:Expr) (wi:TI):Prop:=
 ∀(pins:List (Addr × Obj)) (s:Shared) (σ:St) (H:Hp) (R:It→Hp→Prop),Inv X pins σ H s→wi σ H R→
  wpAny (model X.prog X.w) X.A (eval iter X.env) (fun v s1=>wpAny (model X.prog X.w) X.A (pyIter v) (PIE X pins σ tg R) X.xe s1) X.xe s
theorem go_of {M:Model} {A:Around} {E:Value→Shared→Prop} {s:Shared} {tg:Expr} {it:Addr} {u:Value} {o:Obj} {n:String} {vs:Array Value} {Q:Unit→Shared→Prop} (ho:s.heap.get? it=some o) (hc:o.cls=.type n) (hd:o.data=.fields vs)
  (hn: ["enumerate","zip","dict_itemiterator","dict_reverseitemiterator","odict_iterator","itertools.zip_longest","itertools.pairwise"].contains n=false) (hQ:Q () s):wpAny M A (letOwnedTupleGo tg (.ref it) u) Q E s:=by
 unfold letOwnedTupleGo
 cases tg <;> first
  |exact wpAny_pure hQ
  |(cases u <;> first
    |exact wpAny_pure hQ
    |(refine wpAny_bind (wpAny_load ho ?_)
      rw [hc,hd]
      show wpAny M A (if (["enumerate","zip","dict_itemiterator","dict_reverseitemiterator","odict_iterator","itertools.zip_longest","itertools.pairwise"].contains n && vs[0]?==some (rawInt _))=true then _ else _) Q E s
      rw [if_neg (by intro h;rw [hn,Bool.false_and] at h;cases h)]
      exact wpAny_pure hQ))
def Itl (K:Frag) (a:Addr):It:=
 ⟨fun i H=>∃xs x,SqL K H a xs∧xs[i]?=some x,fun i H x H'=>H'=H∧∀xs,SqL K H a xs→xs[i]?=some x,fun i H=>∃xs,SqL K H a xs∧xs.length≤i⟩
def Itr (lo:Int) (n:Nat):It:=⟨fun i _=>i < n,fun i H x H'=>H'=H∧x=.int (lo+i),fun i _=>n≤i⟩
theorem turn_list {P:Program} {w:World} {K:Frag} {tg:Expr} (a it:Addr):Turn P w K tg (Itl K a) [it] it (fun i h=>h.IsListIter it a i) where
 mem:=by simp
 obj:=fun i h st b hb=>by
  have e:b=it:=by simpa using hb
  subst e
  obtain⟨o,e,c,d⟩:=st
  exact⟨o,e,fun v z=>by rw [d] at z;cases z⟩
 keep:=fun i h h' st k=>st.at fun o e=>k it (by simp) o e
 item:=by
  intro X hP hw hK hc i pins s σ H E I hf st hg
  subst hP hw hK
  obtain⟨xs,x,hq,hx⟩:=hg
  obtain⟨its,rv,p,hz⟩:=I.list hq
  obtain⟨u,hu,ru⟩:=rv.get hx
  obtain⟨f0,f1,f2,f3,f4,f5⟩:=hf it (by simp)
  refine wpAny_pyNext_list_item st p.isList (x:=u) (by simpa using hu) fun h' st' sb=>?_
  have I1:Inv X pins σ H {s with heap:=h'}:=I.turned (t':=s.toks) (fun b o hb e=>(sb.2 b hb).trans e) f0 f1 f3 f4 f5
  obtain⟨o,e,c,d⟩:=id st'
  exact⟨u,rfl,go_of (s:={s with heap:=h'}) e c d (by decide) ⟨x,H,I1,ru,⟨rfl,fun ys hy=>by rw [I.list_inj hy hq];exact hx⟩,st',fun b hb=>(hf b hb).1⟩⟩
 done:=by
  intro X hP hw hK hc i pins s σ H E I hf st hg
  subst hP hw hK
  obtain⟨xs,hq,hx⟩:=hg
  obtain⟨its,rv,p,hz⟩:=I.list hq
  obtain⟨f0,f1,f2,f3,f4,f5⟩:=hf it (by simp)
  have hl:=rv.length
  exact wpAny_pyNext_list_end (I.ok.hd hc) st p.isList (by simp;omega) fun h' eb=>⟨rfl,I.turned (t':=s.toks) (fun b o hb e=>eb b o hb e) f0 f1 f3 f4 f5⟩
 self:=fun _ _ _ _ _ st h=>wpAny_pyIter_listiter st h
theorem turn_range {P:Program} {w:World} {K:Frag} {tg:Expr} (it:Addr) (lo:Int) (n:Nat):Turn P w K tg (Itr lo n) [it] it (fun i h=>IsRangeIter h it (lo+(i:Nat)*1) ((n:Int) - (i:Nat)) 1) where
 mem:=by simp
 obj:=fun i h st b hb=>by
  have e:b=it:=by simpa using hb
  subst e
  exact⟨_,st,fun v z=>by
   have z':Data.fields _=Data.cell v:=z
   cases z'⟩
 keep:=fun i h h' st k=>k it (by simp) _ st
 item:=by
  intro X hP hw hK hc i pins s σ H E I hf st hg
  subst hP hw hK
  obtain⟨f0,f1,f2,f3,f4,f5⟩:=hf it (by simp)
  have W:=Walks.range (prog:=X.prog) (w:=X.w) (I.ok.hd hc) it lo 1 n
  refine W.item i s _ _ hg st fun v h' tk hv st' kk=>?_
  obtain⟨t,rfl⟩:=hv
  have I1:Inv X pins σ H {s with heap:=h',toks:=tk}:=I.turned (fun b o hb e=>kk b o (by simpa using hb) e) f0 f1 f3 f4 f5
  refine⟨_,rfl,go_of (s:={s with heap:=h',toks:=tk}) (n:="range_iterator") st' rfl rfl (by decide) ⟨.int (lo+i),H,I1,⟨t,?_⟩,⟨rfl,rfl⟩,st',fun b hb=>(hf b hb).1⟩⟩
  rw [Int.mul_one]
 done:=by
  intro X hP hw hK hc i pins s σ H E I hf st hg
  subst hP hw hK
  obtain⟨f0,f1,f2,f3,f4,f5⟩:=hf it (by simp)
  exact wpAny_pyNext_range_end (I.ok.hd hc) st (by have:n≤i:=hg;omega) fun h' eb=>⟨rfl,I.turned (t':=s.toks) (fun b o hb e=>eb b o hb e) f0 f1 f3 f4 f5⟩
 self:=fun _ _ _ _ _ st h=>wpAny_pyIter_rangeiter st h
section
variable {X : Cx} {tg : Expr}
def iList (K:Frag) (tl:TE):TI:=fun σ H R=>tl σ H fun x H1=>∃a,x=.ref a∧(∃xs,SqL K H1 a xs)∧R (Itl K a) H1
theorem qax {l:Expr} {tl:TE} (hl:PE X l tl):PI X tg l (iList X.K tl):=by
 intro pins s σ H R I h
 refine thn (hl pins s σ H _ I h) fun v s1 ⟨x,H1,I1,r1,q1⟩=>?_
 obtain⟨a,e,⟨xs,hq⟩,q⟩:=q1
 subst e
 cases r1
 obtain⟨its,rv,p,hz⟩:=I1.list hq
 refine wpAny_pyIter_list p.isList ?_
 refine⟨s1.heap.objs.size, [s1.heap.objs.size],_,_,H1,rfl,I1.kept (t':=s1.toks) fun b o e=>Heap.get?_push_of_some _ e,turn_list a _,⟨_,Heap.get?_push_size _ rfl,rfl,rfl⟩,fun b hb=>?_,q⟩
 have e:b=s1.heap.objs.size:=by simpa using hb
 subst e
 exact I1.fpOk (Nat.le_refl _) (I1.hok.fresh (Nat.le_refl _))
theorem range_it {pins:List (Addr × Obj)} {σ:St} {H:Hp} {s:Shared} {R:It→Hp→Prop} {E:Value→Shared→Prop} {lo hi:Int} {t u v:Tok} {tk:Nat} (I:Inv X pins σ H s) (h1: -(2^62)≤lo) (h2:lo < 2^62) (h3: -(2^62)≤hi) (h4:hi < 2^62)
  (q:R (Itr lo (hi - lo).toNat) H):wpAny (model X.prog X.w) X.A (pyIter (.ref s.heap.objs.size)) (PIE X pins σ tg R) E {s with heap:=s.heap.push {cls:=.type "range",data:=.fields #[.int lo t,.int hi u,.int 1 v]},toks:=tk}:=by
 refine wpAny_pyIter_range (IsRange.new ..) (small_one h1 h2 h3 h4) ?_
 have I1:Inv X pins σ H {s with heap:=s.heap.push {cls:=.type "range",data:=.fields #[.int lo t,.int hi u,.int 1 v]},toks:=tk}:=I.kept fun b o e=>Heap.get?_push_of_some _ e
 refine⟨(s.heap.push {cls:=.type "range",data:=.fields #[.int lo t,.int hi u,.int 1 v]}).objs.size, [(s.heap.push {cls:=.type "range",data:=.fields #[.int lo t,.int hi u,.int 1 v]}).objs.size],_,_,H,rfl,
  I1.kept (t':=tk) fun b o e=>Heap.get?_push_of_some _ e,turn_range _ lo (hi - lo).toNat,?_,fun b hb=>?_,q⟩
 ·have e1:lo+((0:Nat):Int)*1=lo:=by simp
  have e2:(((hi - lo).toNat:Nat):Int) - ((0:Nat):Int)=Builtin.Range.rangeSize lo hi 1:=by rw [rangeSize_one];split <;> omega
  show IsRangeIter _ _ (lo+((0:Nat):Int)*1) ((((hi - lo).toNat:Nat):Int) - ((0:Nat):Int)) 1
  rw [e1,e2]
  exact Heap.get?_push_size _ rfl
 ·have e:b=(s.heap.push {cls:=.type "range",data:=.fields #[.int lo t,.int hi u,.int 1 v]}).objs.size:=by simpa using hb
  subst e
  exact I1.fpOk (Nat.le_refl _) (I1.hok.fresh (Nat.le_refl _))
def iRng1 (ta:TA):TI:=fun σ H R=>ta σ H fun vs H1=>∃j:Int,vs=[.int j]∧-(2^62)≤j∧j < 2^62∧R (Itr 0 j.toNat) H1
def iRng2 (ta:TA):TI:=fun σ H R=>ta σ H fun vs H1=>∃i j:Int,vs=[.int i,.int j]∧(-(2^62)≤i∧i < 2^62∧-(2^62)≤j∧j < 2^62)∧R (Itr i (j - i).toNat) H1
theorem qb8 {a:Expr} {ta:TA} {p pos:Pos} (hg:Gl X "range") (hm:X.mg "range" =none) (ha:PA X [a] ta) (hs:starEach [a] X.env=[(false,eval a X.env)]:=by rfl):PI X tg (.Call (.Name "range" p) [a] [] pos) (iRng1 ta):=by
 intro pins s σ H R I h
 refine Call_ (qe2 I hg hm boot_range (PyProof.Rows.callWith_type1 (thn (ha pos pins s σ H _ I h) fun us s1 ⟨vs,H1,I1,r1,q1⟩=>?_) hs rfl))
 obtain⟨j,e,q1,q2,q⟩:=q1
 subst e
 cases r1 with
 |cons r rr=>
  cases rr
  obtain⟨t,rfl⟩:=r
  exact call_range_1 (range_it I1 (by omega) (by omega) q1 q2 (by simpa using q))
theorem qeo {a b:Expr} {ta:TA} {p pos:Pos} (hg:Gl X "range") (hm:X.mg "range" =none) (ha:PA X [a,b] ta) (hs:starEach [a,b] X.env=[(false,eval a X.env),(false,eval b X.env)]:=by rfl) (hs2:starEach [b] X.env=[(false,eval b X.env)]:=by rfl):
  PI X tg (.Call (.Name "range" p) [a,b] [] pos) (iRng2 ta):=by
 intro pins s σ H R I h
 refine Call_ (qe2 I hg hm boot_range (PyProof.Rows.callWith_type1 (thn (ha pos pins s σ H _ I h) fun us s1 ⟨vs,H1,I1,r1,q1⟩=>?_) (by rw [hs,hs2]) (by rw [hs2];rfl)))
 obtain⟨i,j,e,⟨q1,q2,q3,q4⟩,q⟩:=q1
 subst e
 cases r1 with
 |cons r rr=>
  cases rr with
  |cons r' rr=>
   cases rr
   obtain⟨t,rfl⟩:=r
   obtain⟨t',rfl⟩:=r'
   exact call_range_2 (range_it I1 q1 q2 q3 q4 q)
def tFor (wi:TI) (g:TG) (tb:TS):TS:=fun D σ H=>wi σ H fun J H1=>∃W:Nat→Nat→St→Hp→Prop,(∃m,W 0 m σ H1)∧∀i m σ H,W i m σ H→
 (J.stop i H∧D.nx σ H)∨(J.go i H∧∃N:St→Hp→Prop,(∀σ' H',N σ' H'→∃m',m' < m∧W (i+1) m' σ' H')∧∀x H',J.yld i H x H'→g x σ H' fun σ2 H2=>tb {D with nx:=N,ct:=N,bk:=D.nx} σ2 H2)
def qbv (fp:List Addr) (h:Heap):List (Addr × Obj):=fp.filterMap fun b=>(h.get? b).map fun o=>(b,o)
theorem qbq {fp:List Addr} {h:Heap} {b:Addr} {o:Obj} (hb:b∈fp) (e:h.get? b=some o):(b,o)∈qbv fp h:=List.mem_filterMap.mpr ⟨b,hb,by rw [e];rfl⟩
theorem of_pinsAt {fp:List Addr} {h:Heap} {p:Addr × Obj} (hp:p∈qbv fp h):p.1∈fp∧h.get? p.1=some p.2:=by
 obtain⟨b,hb,e⟩:=List.mem_filterMap.mp hp
 cases q:h.get? b with
 |none=>rw [q] at e;cases e
 |some o=>
  rw [q] at e
  have e':(b,o)=p:=Option.some.inj e
  subst e'
  exact⟨hb,q⟩
theorem Inv.pinned {pins:List (Addr × Obj)} {σ:St} {H:Hp} {s:Shared} {fp:List Addr} (I:Inv X pins σ H s) (hf:∀b∈fp,qgb X pins H b) (ho:∀b∈fp,∃o,s.heap.get? b=some o∧∀v,o.data≠ .cell v):Inv X (pins++qbv fp s.heap) σ H s:=
 I.pins_of fun p hp=>(zN.mp hp).elim (fun z=>I.pin p (zO _ z)) fun z=>by
  obtain⟨hb,e⟩:=of_pinsAt z
  obtain⟨f0,f1,f2,_⟩:=hf p.1 hb
  obtain⟨o,e',d⟩:=ho p.1 hb
  rw [e] at e';cases e'
  exact⟨e,f0,f1,f2,d⟩
theorem Inv.unpinned {pins pl:List (Addr × Obj)} {σ:St} {H:Hp} {s:Shared} (I:Inv X (pins++pl) σ H s):Inv X pins σ H s:=I.pins_of fun p hp=>I.pin p (zO _ (yI _ hp))
theorem qb2 {iter:Expr} {body:List Stmt} {wi:TI} {g:TG} {tb:TS} {pos:Pos} (hp:PassesOwn (model X.prog X.w) X.A X.env X.xe) (hc:X.calm=true) (hi:PI X tg iter wi) (hg:PG X tg g) (hb:PSs X body tb)
  (hs:∀x,foldedSetIterable iter X.env x=pure x:=by intro _;rfl):PS X (.For tg iter body [] pos) (tFor wi g tb):=by
 intro pins s σ H D I h
 refine wpAny_For (thn (hi pins s σ H _ I h) fun v s1 h1=>thn h1 fun itv s2 h2=>?_) hs
 obtain⟨it,fp,tn,J,H2,e,I2,T,st2,f2,W,⟨m0,w0⟩,turn⟩:=h2
 subst e
 have stat:∀{H':Hp},(∀b∈fp,H' b=none)→∀b∈fp,qgb X pins H' b:=fun hn b hb=>⟨hn b hb,(f2 b hb).2⟩
 refine codeAny_forLoop_any (fun n s'=>∃i σ' H',Inv X pins σ' H' s'∧tn i s'.heap∧(∀b∈fp,H' b=none)∧W i n σ' H') ?_ m0 ⟨0,σ,H2,I2,st2,fun b hb=>(f2 b hb).1,w0⟩
 rintro n s3 ⟨i,σ3,H3,I3,st3,fr3,w3⟩
 rcases turn i n σ3 H3 w3 with ⟨stop,qn⟩ |⟨go,N,hN,step⟩
 ·refine wpAny_passesOwn hp (thn (T.done X rfl rfl rfl hc i pins s3 σ3 H3 X.xe I3 (stat fr3) st3 stop) fun r s4 ⟨hr,I4⟩=>?_)
  subst hr
  exact wpAny_execs_nil ⟨σ3,H3,I4,qn⟩
 ·refine wpAny_passesOwn hp (thn (T.item X rfl rfl rfl hc i pins s3 σ3 H3 X.xe I3 (stat fr3) st3 go) fun r s4 ⟨u,hr,h4⟩=>?_)
  subst hr
  refine wpAny_passesOwn hp (thn h4 fun _ s5 ⟨x,H5,I5,r5,y5,st5,fr5⟩=>?_)
  have I5':=I5.pinned (stat fr5) (T.obj _ _ st5)
  refine wpAny_passesOwn hp (thn (hg _ s5 σ3 H5 x u _ I5' r5 (step x H5 y5)) fun _ s6 ⟨σ6,H6,I6,q6⟩=>?_)
  refine wpAny_passesOwn hp (thn (hb _ s6 σ6 H6 _ I6 q6) fun f s7 q7=>?_)
  have again:∀{σ7:St} {H7:Hp},Inv X (pins++qbv fp s5.heap) σ7 H7 s7→N σ7 H7→∃m,m < n∧∃i σ' H',Inv X pins σ' H' s7∧tn i s7.heap∧(∀b∈fp,H' b=none)∧W i m σ' H':=fun {σ7 H7} I7 n7=>by
   obtain⟨m',hm,w7⟩:=hN σ7 H7 n7
   refine⟨m',hm,i+1,σ7,H7,I7.unpinned,T.keep _ _ _ st5 fun b hb o e=>(I7.pin (b,o) (zO _ (zO _ (qbq hb e)))).1,fun b hb=>?_,w7⟩
   obtain⟨o,e,d⟩:=T.obj _ _ st5 b hb
   exact(I7.pin (b,o) (zO _ (zO _ (qbq hb e)))).2.1
  cases f with
  |next=>obtain⟨σ7,H7,I7,n7⟩:=q7;exact again I7 n7
  |cont=>obtain⟨σ7,H7,I7,n7⟩:=q7;exact again I7 n7
  |brk=>obtain⟨σ7,H7,I7,q7⟩:=q7;exact⟨σ7,H7,I7.unpinned,q7⟩
  |ret v=>obtain⟨x7,σ7,H7,I7,r7,q7⟩:=q7;exact⟨x7,σ7,H7,I7.unpinned,r7,q7⟩
end
theorem for_list {K:Frag} {a:Addr} {xs:List V} {g:TG} {tb:TS} {D:Ends} {σ:St} {H:Hp} (Pv:Nat→St→Hp→Prop) (h0:Pv 0 σ H) (hl:∀i σ H,i≤xs.length→Pv i σ H→SqL K H a xs)
  (hs:∀i x σ H,xs[i]?=some x→Pv i σ H→g x σ H fun σ2 H2=>tb {D with nx:=Pv (i+1),ct:=Pv (i+1),bk:=D.nx} σ2 H2) (hd:∀σ H,Pv xs.length σ H→D.nx σ H):
  ∃W:Nat→Nat→St→Hp→Prop,(∃m,W 0 m σ H)∧∀i m σ H,W i m σ H→
   ((Itl K a).stop i H∧D.nx σ H)∨((Itl K a).go i H∧∃N:St→Hp→Prop,(∀σ' H',N σ' H'→∃m',m' < m∧W (i+1) m' σ' H')∧∀x H',(Itl K a).yld i H x H'→g x σ H' fun σ2 H2=>tb {D with nx:=N,ct:=N,bk:=D.nx} σ2 H2):=by
 refine⟨fun i m σ H=>m=xs.length - i∧i≤xs.length∧Pv i σ H,⟨xs.length,by simp,Nat.zero_le _,h0⟩,?_⟩
 rintro i m σ H ⟨rfl,hi,p⟩
 have q:=hl i σ H hi p
 by_cases hlt:i < xs.length
 ·refine .inr ⟨⟨xs,xs[i],q,by simp [hlt]⟩,Pv (i+1),fun σ' H' p'=>⟨xs.length - (i+1),by omega,rfl,hlt,p'⟩,fun x H' y=>?_⟩
  obtain⟨e,y⟩:=y
  subst e
  exact hs i x σ _ (y xs q) p
 ·have e:i=xs.length:=by omega
  subst e
  exact .inl ⟨⟨xs,q,Nat.le_refl _⟩,hd σ H p⟩
theorem for_range {lo:Int} {n:Nat} {g:TG} {tb:TS} {D:Ends} {σ:St} {H:Hp} (Pv:Nat→St→Hp→Prop) (h0:Pv 0 σ H)
  (hs:∀i σ H,i < n→Pv i σ H→g (.int (lo+i)) σ H fun σ2 H2=>tb {D with nx:=Pv (i+1),ct:=Pv (i+1),bk:=D.nx} σ2 H2) (hd:∀σ H,Pv n σ H→D.nx σ H):
  ∃W:Nat→Nat→St→Hp→Prop,(∃m,W 0 m σ H)∧∀i m σ H,W i m σ H→
   ((Itr lo n).stop i H∧D.nx σ H)∨((Itr lo n).go i H∧∃N:St→Hp→Prop,(∀σ' H',N σ' H'→∃m',m' < m∧W (i+1) m' σ' H')∧∀x H',(Itr lo n).yld i H x H'→g x σ H' fun σ2 H2=>tb {D with nx:=N,ct:=N,bk:=D.nx} σ2 H2):=by
 refine⟨fun i m σ H=>m=n - i∧i≤n∧Pv i σ H,⟨n,by simp,Nat.zero_le _,h0⟩,?_⟩
 rintro i m σ H ⟨rfl,hi,p⟩
 by_cases hlt:i < n
 ·refine .inr ⟨hlt,Pv (i+1),fun σ' H' p'=>⟨n - (i+1),by omega,rfl,hlt,p'⟩,fun x H' y=>?_⟩
  obtain⟨e,y⟩:=y
  subst e y
  exact hs i σ _ hlt p
 ·have e:i=n:=by omega
  subst e
  exact .inl ⟨Nat.le_refl _,hd σ H p⟩
theorem while_by {c:TT} {tb:TS} {D:Ends} {σ:St} {H:Hp} (Pv:St→Hp→Prop) (μ:St→Hp→Nat) (h0:Pv σ H)
  (hs:∀σ H,Pv σ H→c σ H fun b H1=>if b=true then tb {D with nx:=fun σ' H'=>Pv σ' H'∧μ σ' H' < μ σ H,ct:=fun σ' H'=>Pv σ' H'∧μ σ' H' < μ σ H,bk:=D.nx} σ H1 else D.nx σ H1)
  (mono:∀σ H Q Q',(∀b H1,Q b H1→Q' b H1)→c σ H Q→c σ H Q'):tWhile c tb D σ H:=by
 refine⟨fun m σ H=>m=μ σ H∧Pv σ H,⟨_,rfl,h0⟩,?_⟩
 rintro m σ H ⟨rfl,p⟩
 refine mono σ H _ _ (fun b H1 q=>?_) (hs σ H p)
 cases b with
 |true=>exact⟨_,fun σ' H' ⟨p',l⟩=>⟨_,l,rfl,p'⟩,q⟩
 |false=>exact q
abbrev R2:=V→V→Hp→VK→Prop
def OpR (X:Cx) (f:Value→Value→Sem Value) (r:R2):Prop:=
 ∀(pins:List (Addr × Obj)) (s:Shared) (σ:St) (H:Hp) (x y:V) (v u:Value) (Q:VK),Inv X pins σ H s→qba x v→qba y u→r x y H Q→
  wpAny (model X.prog X.w) X.A (f v u) (EP X pins σ Q) X.xe s
def UnR (X:Cx) (f:Value→Sem Value) (r:V→Hp→VK→Prop):Prop:=
 ∀(pins:List (Addr × Obj)) (s:Shared) (σ:St) (H:Hp) (x:V) (v:Value) (Q:VK),Inv X pins σ H s→qba x v→r x H Q→
  wpAny (model X.prog X.w) X.A (f v) (EP X pins σ Q) X.xe s
def qcd (X:Cx) (f:Value) (r:List V→Hp→VK→Prop):Prop:=
 ∀(pins:List (Addr × Obj)) (s:Shared) (σ:St) (H:Hp) (xs:List V) (us:List Value) (Q:VK),Inv X pins σ H s→qb9 xs us→r xs H Q→
  wpAny (model X.prog X.w) X.A (call f us) (EP X pins σ Q) X.xe s
def tOp (r:R2) (ta tb:TE):TE:=fun σ H Q=>ta σ H fun x H1=>tb σ H1 fun y H2=>r x y H2 Q
def tUn (r:V→Hp→VK→Prop) (ta:TE):TE:=fun σ H Q=>ta σ H fun x H1=>r x H1 Q
def rI (C:Int→Int→Prop) (g:Int→Int→V):R2:=fun x y H Q=>∃i j,x=.int i∧y=.int j∧C i j∧Q (g i j) H
def rI0 (g:Int→Int→V):R2:=fun x y H Q=>∃i j,x=.int i∧y=.int j∧Q (g i j) H
def rU (g:Int→V):V→Hp→VK→Prop:=fun x H Q=>∃i,x=.int i∧Q (g i) H
section
variable {X : Cx} {a b c : Expr} {ta tb tc : TE} {pos : Pos}
theorem binT (ha:PE X a ta) (hb:PE X b tb) {pins:List (Addr × Obj)} {s:Shared} {σ:St} {H:Hp} {R:V→V→Hp→Prop} (I:Inv X pins σ H s)
  (h:ta σ H fun x H1=>tb σ H1 fun y H2=>R x y H2) {Q:Value→Shared→Prop} {f:Value→Value→Sem Value}
  (hf:∀v u s2 x y H2,Inv X pins σ H2 s2→qba x v→qba y u→R x y H2→wpAny (model X.prog X.w) X.A (f v u) Q X.xe s2):
  wpAny (model X.prog X.w) X.A (eval a X.env) (fun v s₁=>wpAny (model X.prog X.w) X.A (eval b X.env) (fun u s₂=>wpAny (model X.prog X.w) X.A (f v u) Q X.xe s₂) X.xe s₁) X.xe s:=by
 refine thn (ha pins s σ H _ I h) fun v s1 ⟨x,H1,I1,r1,q1⟩=>?_
 refine thn (hb pins s1 σ H1 _ I1 q1) fun u s2 ⟨y,H2,I2,r2,q2⟩=>?_
 exact hf v u s2 x y H2 I2 r1 r2 q2
theorem qah {op:Operator} {r:R2} (ho:OpR X (binaryOp op) r) (ha:PE X a ta) (hb:PE X b tb):PE X (.BinOp a op b pos) (tOp r ta tb):=by
 intro pins s σ H Q I h
 exact wpAny_BinOp (binT ha hb I h fun v u s2 x y H2 I2 rx ry q=>ho pins s2 σ H2 x y v u Q I2 rx ry q)
theorem pe_un {op:UnaryOp} {r:V→Hp→VK→Prop} (ho:UnR X (unaryOp op) r) (ha:PE X a ta):PE X (.UnaryOp op a pos) (tUn r ta):=by
 intro pins s σ H Q I h
 exact UnaryOp_ (thn (ha pins s σ H _ I h) fun v s1 ⟨x,H1,I1,r1,q1⟩=>ho pins s1 σ H1 x v Q I1 r1 q1)
theorem opI {f:Value→Value→Sem Value} {C:Int→Int→Prop} {g:Int→Int→Int}
  (rule:∀(i j:Int) (t u:Tok) (s:Shared) (Q:Value→Shared→Prop) (E:Value→Shared→Prop),C i j→Q (.int (g i j) s.toks) {s with toks:=s.toks+1}→wpAny (model X.prog X.w) X.A (f (.int i t) (.int j u)) Q E s):
  OpR X f (rI C fun i j=> .int (g i j)):=by
 intro pins s σ H x y v u Q I rx ry h
 obtain⟨i,j,rfl,rfl,hc,q⟩:=h
 obtain⟨t,rfl⟩:=rx
 obtain⟨t',rfl⟩:=ry
 exact rule i j t t' s _ _ hc ⟨.int (g i j),H,I.tok _,⟨_,rfl⟩,q⟩
theorem opI0 {f:Value→Value→Sem Value} {g:Int→Int→Int}
  (rule:∀(i j:Int) (t u:Tok) (s:Shared) (Q:Value→Shared→Prop) (E:Value→Shared→Prop),Q (.int (g i j) s.toks) {s with toks:=s.toks+1}→wpAny (model X.prog X.w) X.A (f (.int i t) (.int j u)) Q E s):
  OpR X f (rI0 fun i j=> .int (g i j)):=by
 intro pins s σ H x y v u Q I rx ry h
 obtain⟨i,j,rfl,rfl,q⟩:=h
 obtain⟨t,rfl⟩:=rx
 obtain⟨t',rfl⟩:=ry
 exact rule i j t t' s _ _ ⟨.int (g i j),H,I.tok _,⟨_,rfl⟩,q⟩
theorem opB0 {f:Value→Value→Sem Value} {g:Int→Int→Bool}
  (rule:∀(i j:Int) (t u:Tok) (s:Shared) (Q:Value→Shared→Prop) (E:Value→Shared→Prop),Q (.bool (g i j)) s→wpAny (model X.prog X.w) X.A (f (.int i t) (.int j u)) Q E s):
  OpR X f (rI0 fun i j=> .bl (g i j)):=by
 intro pins s σ H x y v u Q I rx ry h
 obtain⟨i,j,rfl,rfl,q⟩:=h
 obtain⟨t,rfl⟩:=rx
 obtain⟨t',rfl⟩:=ry
 exact rule i j t t' s _ _ ⟨.bl (g i j),H,I,rfl,q⟩
def CPow (i j:Int):Prop:=0≤j∧j≤1000000∧i.natAbs < 2^64
theorem qas:OpR X (binaryOp .Add) (rI0 fun i j=> .int (i+j)):=opI0 fun _ _ _ _ _ _ _ q=>add_int q
theorem qed:OpR X (binaryOp .Sub) (rI0 fun i j=> .int (i - j)):=opI0 fun _ _ _ _ _ _ _ q=>sub_int q
theorem qc3:OpR X (binaryOp .Mod) (rI (fun _ j=>0 < j) fun i j=> .int (i%j)):=opI fun i j _ _ _ _ _ hc q=>by
 have h1:(0:Int) < j:=hc
 exact mod_int' (by omega) (by rw [Int.fmod_eq_emod_of_nonneg i (by omega)];exact q)
theorem op_pow:OpR X (binaryOp .Pow) (rI CPow fun i j=> .int (i^j.toNat)):=opI fun _ _ _ _ _ _ _ hc q=>pow_int_small hc.1 hc.2.1 hc.2.2 q
theorem unI {f:Value→Sem Value} {g:Int→Int}
  (rule:∀(i:Int) (t:Tok) (s:Shared) (Q:Value→Shared→Prop) (E:Value→Shared→Prop),Q (.int (g i) s.toks) {s with toks:=s.toks+1}→wpAny (model X.prog X.w) X.A (f (.int i t)) Q E s):
  UnR X f (rU fun i=> .int (g i)):=by
 intro pins s σ H x v Q I rx h
 obtain⟨i,rfl,q⟩:=h
 obtain⟨t,rfl⟩:=rx
 exact rule i t s _ _ ⟨.int (g i),H,I.tok _,⟨_,rfl⟩,q⟩
theorem un_neg:UnR X (unaryOp .USub) (rU fun i=> .int (-i)):=unI fun _ _ _ _ _ q=>neg_int q
end
def scal:V→V→Bool
 | .non,.non=>true| .non,.int _=>true| .int _,.non=>true| .non,.bl _=>true| .bl _,.non=>true| .non,.str _=>true| .str _,.non=>true
 | .int _,.int _=>true| .bl _,.bl _=>true| .str _,.str _=>true| .byt _,.byt _=>true
 | .int _,.str _=>true| .str _,.int _=>true| .bl _,.str _=>true| .str _,.bl _=>true
 |_,_=>false
def rEq:R2:=fun x y H Q=>scal x y=true∧Q (.bl (decide (x=y))) H
theorem dec_int {i j:Int}:decide (V.int i=V.int j)=(i==j):=by
 rw [Bool.eq_iff_iff]
 simp
theorem dec_bl {i j:Bool}:decide (V.bl i=V.bl j)=(i==j):=by
 rw [Bool.eq_iff_iff]
 simp
theorem dec_str {i j:Str}:decide (V.str i=V.str j)=(i==j):=by
 rw [Bool.eq_iff_iff]
 simp
theorem dec_byt {i j:Array UInt8}:decide (V.byt i=V.byt j)=(i.toList==j.toList):=by
 rw [Bool.eq_iff_iff]
 cases i
 cases j
 simp
section
variable {X : Cx} {a b c : Expr} {ta tb tc : TE} {pos : Pos}
theorem qc4 {pins:List (Addr × Obj)} {σ:St} {H:Hp} {s:Shared} {Q:VK} {k k':Bool} (I:Inv X pins σ H s) (q:Q (.bl k) H) (e:k=k'):EP X pins σ Q (.bool k') s:=by
 subst e
 exact⟨.bl k,H,I,rfl,q⟩
theorem qd3:OpR X (compareOp .Eq) rEq:=by
 intro pins s σ H x y v u Q I rx ry h
 obtain⟨hs,q⟩:=h
 cases x with
 |non=>
  cases rx
  cases y with
  |non=>cases ry;exact PySem.EqNone.eq_none_none (qc4 I q (by simp))
  |bl j=>cases ry;exact PySem.EqNone.eq_none_bool (qc4 I q (by simp))
  |int j=>obtain⟨t',rfl⟩:=ry;exact PySem.EqNone.eq_none_int (qc4 I q (by simp))
  |str j=>obtain⟨t',rfl⟩:=ry;exact PySem.EqNone.eq_none_str (qc4 I q (by simp))
  |_=>exact absurd (show false=true from hs) Bool.false_ne_true
 |bl i=>
  cases rx
  cases y with
  |non=>cases ry;exact PySem.EqNone.eq_bool_none (qc4 I q (by simp))
  |bl j=>cases ry;exact eq_bool (qc4 I q dec_bl)
  |str j=>obtain⟨t',rfl⟩:=ry;exact PySem.EqMixed.eq_bool_str (qc4 I q (by simp))
  |_=>exact absurd (show false=true from hs) Bool.false_ne_true
 |int i=>
  obtain⟨t,rfl⟩:=rx
  cases y with
  |non=>cases ry;exact PySem.EqNone.eq_int_none (qc4 I q (by simp))
  |int j=>obtain⟨t',rfl⟩:=ry;exact eq_int (qc4 I q dec_int)
  |str j=>obtain⟨t',rfl⟩:=ry;exact PySem.EqMixed.eq_int_str (qc4 I q (by simp))
  |_=>exact absurd (show false=true from hs) Bool.false_ne_true
 |str i=>
  obtain⟨t,rfl⟩:=rx
  cases y with
  |non=>cases ry;exact PySem.EqNone.eq_str_none (qc4 I q (by simp))
  |bl j=>cases ry;exact PySem.EqMixed.eq_str_bool (qc4 I q (by simp))
  |int j=>obtain⟨t',rfl⟩:=ry;exact PySem.EqMixed.eq_str_int (qc4 I q (by simp))
  |str j=>obtain⟨t',rfl⟩:=ry;exact eq_str (qc4 I q dec_str)
  |_=>exact absurd (show false=true from hs) Bool.false_ne_true
 |byt i=>
  obtain⟨t,rfl⟩:=rx
  cases y with
  |byt j=>obtain⟨t',rfl⟩:=ry;exact PySem.W.eq_bytes (qc4 I q dec_byt)
  |_=>exact absurd (show false=true from hs) Bool.false_ne_true
 |_=>cases y <;> exact absurd (show false=true from hs) Bool.false_ne_true
theorem op_lt:OpR X (compareOp .Lt) (rI0 fun i j=> .bl (decide (i < j))):=opB0 fun _ _ _ _ _ _ _ q=>lt_int q
theorem op_le:OpR X (compareOp .LtE) (rI0 fun i j=> .bl (decide (i≤j))):=opB0 fun _ _ _ _ _ _ _ q=>le_int q
theorem qf9:OpR X (compareOp .Gt) (rI0 fun i j=> .bl (decide (j < i))):=opB0 fun _ _ _ _ _ _ _ q=>gt_int q
theorem op_ge:OpR X (compareOp .GtE) (rI0 fun i j=> .bl (decide (j≤i))):=opB0 fun _ _ _ _ _ _ _ q=>ge_int q
theorem op_in_str:OpR X (compareOp .In) (fun x y H Q=>∃i j,x=.str i∧y=.str j∧Q (.bl (!(Builtin.Str.occurrences j i 0 j.length 1).isEmpty)) H):=by
 intro pins s σ H x y v u Q I rx ry h
 obtain⟨i,j,rfl,rfl,q⟩:=h
 obtain⟨t,rfl⟩:=rx
 obtain⟨t',rfl⟩:=ry
 exact in_str (qc4 I q rfl)
theorem op_notN:OpR X (compareOp .IsNot) (fun x y H Q=>y=.non∧Q (.bl (!decide (x=.non))) H):=by
 intro pins s σ H x y v u Q I rx ry h
 obtain⟨rfl,q⟩:=h
 cases ry
 refine isnot_none_gen (qc4 I q ?_)
 cases x <;> first
  |(cases rx;rfl)
  |(obtain⟨t,rfl⟩:=rx;rfl)
theorem qap (b:Expr) {op:CmpOp} (h:op≠ .In:=by decide) (h2:op≠ .NotIn:=by decide):behindInMarks op b=false:=by
 have e1:(op==CmpOp.In)=false:=by cases op <;> first|rfl|exact absurd rfl h
 have e2:(op==CmpOp.NotIn)=false:=by cases op <;> first|rfl|exact absurd rfl h2
 cases b <;> simp [behindInMarks,e1,e2]
theorem qd1 {op:CmpOp} {r:R2} (ho:OpR X (compareOp op) r) (ha:PE X a ta) (hb:PE X b tb) (hm:behindInMarks op b=false):PE X (.Compare a [op] [b] pos) (tOp r ta tb):=by
 intro pins s σ H Q I h
 exact wpAny_Compare1 (binT ha hb I h fun v u s2 x y H2 I2 rx ry q=>ho pins s2 σ H2 x y v u Q I2 rx ry q) hm
def tTest (t:TE):TT:=fun σ H Q=>t σ H fun x H'=>∃k,x=.bl k∧Q k H'
theorem qak {op:CmpOp} {r:R2} (ho:OpR X (compareOp op) r) (ha:PE X a ta) (hb:PE X b tb) (hm:behindInMarks op b=false):PT X (.Compare a [op] [b] pos) (tTest (tOp r ta tb)):=by
 intro pins s σ H Q I h
 refine wpAny_isTrue_Compare1 (thn (ha pins s σ H _ I h) fun v s1 ⟨x,H1,I1,r1,q1⟩=>thn (hb pins s1 σ H1 _ I1 q1) fun u s2 ⟨y,H2,I2,r2,q2⟩=>
  thn (ho pins s2 σ H2 x y v u _ I2 r1 r2 q2) fun c s3 ⟨z,H3,I3,r3,k,e,q3⟩=>?_) hm
 subst e
 cases r3
 exact wpAny_truthy_bool ⟨H3,I3,q3⟩
def tChain (r r':R2) (ta tb tc:TE):TE:=fun σ H Q=>ta σ H fun x H1=>tb σ H1 fun y H2=>r x y H2 fun z H3=>∃k,z=.bl k∧
 (if k=true then tc σ H3 fun w' H4=>r' y w' H4 Q else Q (.bl false) H3)
theorem pe_chain {op op':CmpOp} {r r':R2} (ho:OpR X (compareOp op) r) (ho':OpR X (compareOp op') r') (ha:PE X a ta) (hb:PE X b tb) (hc:PE X c tc)
  (hm:lastMarks [op,op'] [b,c]=false:=by with_unfolding_all rfl):PE X (.Compare a [op,op'] [b,c] pos) (tChain r r' ta tb tc):=by
 intro pins s σ H Q I h
 refine Compare_chain (thn (ha pins s σ H _ I h) fun v s1 ⟨x,H1,I1,r1,q1⟩=>chain_link (thn (hb pins s1 σ H1 _ I1 q1) fun u s2 ⟨y,H2,I2,r2,q2⟩=>
  thn (ho pins s2 σ H2 x y v u _ I2 r1 r2 q2) fun d s3 ⟨z,H3,I3,r3,k,e,q3⟩=>?_)) hm
 subst e
 cases r3
 refine wpAny_truthy_bool ?_
 cases k with
 |false=>exact ite_ff ⟨.bl false,H3,I3,rfl,q3⟩
 |true=>exact ite_tt (chain_last (thn (hc pins s3 σ H3 _ I3 q3) fun w' s4 ⟨z',H4,I4,r4,q4⟩=>ho' pins s4 σ H4 y z' u w' Q I4 r2 r4 q4))
theorem line63:(sizeLine:Nat) < 2^63:=by rw [sizeLine_eq];decide
theorem op_add_str:OpR X (binaryOp .Add) (fun x y H Q=>∃i j,x=.str i∧y=.str j∧i.length+j.length≤sizeLine∧Q (.str (i++j)) H):=by
 intro pins s σ H x y v u Q I rx ry h
 obtain⟨i,j,rfl,rfl,hz,q⟩:=h
 obtain⟨t,rfl⟩:=rx
 obtain⟨t',rfl⟩:=ry
 exact add_str (fun t' tk=>⟨.str (i++j),H,I.tok _,⟨_,rfl⟩,q⟩) hz
theorem vals1 {x:V} {us:List Value} (r:qb9 [x] us):∃u,us=[u]∧qba x u:=by
 cases r with
 |cons r1 r2=>cases r2;exact⟨_,rfl,r1⟩
theorem vals2 {x y:V} {us:List Value} (r:qb9 [x,y] us):∃u w',us=[u,w']∧qba x u∧qba y w':=by
 cases r with
 |cons r1 r2=>
  cases r2 with
  |cons r3 r4=>cases r4;exact⟨_,_,rfl,r1,r3⟩
theorem call_max2 (hc:X.calm=true):qcd X (.builtin "max") (fun xs H Q=>∃i j,xs=[.int i,.int j]∧Q (.int (if j > i then j else i)) H):=by
 intro pins s σ H xs us Q I r h
 obtain⟨i,j,rfl,q⟩:=h
 obtain⟨u,w',rfl,⟨t,rfl⟩,⟨t',rfl⟩⟩:=vals2 r
 refine max_two_ints (I.ok.hd hc) fun h' tk k=>⟨_,H,I.kept k,?_,q⟩
 by_cases hj:j > i
 ·rw [if_pos hj,if_pos hj];exact⟨_,rfl⟩
 ·rw [if_neg hj,if_neg hj];exact⟨_,rfl⟩
theorem call_min2 (hc:X.calm=true):qcd X (.builtin "min") (fun xs H Q=>∃i j,xs=[.int i,.int j]∧Q (.int (if j < i then j else i)) H):=by
 intro pins s σ H xs us Q I r h
 obtain⟨i,j,rfl,q⟩:=h
 obtain⟨u,w',rfl,⟨t,rfl⟩,⟨t',rfl⟩⟩:=vals2 r
 refine min_two_ints (I.ok.hd hc) fun h' tk k=>⟨_,H,I.kept k,?_,q⟩
 by_cases hj:j < i
 ·rw [if_pos hj,if_pos hj];exact⟨_,rfl⟩
 ·rw [if_neg hj,if_neg hj];exact⟨_,rfl⟩
end
structure ObjM (h:Heap) (x dx C:Addr) (mA:Str→Option Value):Prop where
 obj:h.get? x=some (instObj C dx)
 ns:h.Ns1 dx mA
 ne:dx≠x
theorem lookIn_ns {h:Heap} {dx:Addr} {mA:Str→Option Value} (n:h.Ns1 dx mA):∃od,h.get? dx=some od∧∀name,lookIn name od=some (mA name):=by
 obtain⟨o,es,ep,ho,hd,hk,_,hm⟩:=n
 refine⟨o,ho,fun name=>?_⟩
 have e:=hm name
 unfold nsFind findBy at e
 rw [←Array.find?_toList] at e
 unfold lookIn
 rw [hd]
 dsimp only
 split
 ·rename_i y q
  rw [q] at e
  exact congrArg some e
 ·rename_i q
  rw [q] at e
  have a:es.toList.any (·.refKey)=false:=by
   rw [List.any_eq_false]
   intro y hy
   obtain⟨z,t,hkey⟩:=hk y (Array.mem_toList_iff.mp hy)
   simp [DictEntry.refKey,hkey]
  have a':¬es.toList.any (·.refKey)=true:=by rw [a];exact Bool.false_ne_true
  rw [if_neg a']
  exact congrArg some e
theorem ObjM.look {h:Heap} {x dx C:Addr} {mA:Str→Option Value} (I:ObjM h x dx C mA):∃od,PySem.W.InstAt h x (instObj C dx) C (some od)∧∀name,lookIn name od=some (mA name):=
 let ⟨od,ho,hl⟩:=lookIn_ns I.ns
 ⟨od,⟨I.obj,rfl,rfl,ho⟩,hl⟩
section
variable {prog : Program} {w : World} {A : Around} {E : Value → Shared → Prop} {s : Shared} {K : Frag} {x dx C f : Addr} {mA : Str → Option Value} {name : Str} {v : Value}
theorem get_map {expr:Bool} {Q:Value→Shared→Prop} (X:K.In s.heap) (I:ObjM s.heap x dx C mA) (hg:plainGet K C name=true) (hh:hasDictIn K C=true)
  (ha:findIn K (.ref C) name=some none) (hv:mA name=some v) (hv':PySem.W.handedIn v=true) (h:Q v {s with toks:=s.toks+1}):
  wpAny (model prog w) A (getAttr (.ref x) name expr) Q E s:=by
 obtain⟨od,J,hl⟩:=I.look
 exact PySem.W.get_value X J (PySem.W.plainGet_of hg).1 (PySem.W.findObj_own hh ha rfl (by rw [hl,hv])) hv' h
theorem get_meth {pl:Sem Bool} {Q:Value × List Value→Shared→Prop} (X:K.In s.heap) (I:ObjM s.heap x dx C mA) (hg:plainGet K C name=true)
  (hf:findIn K (.ref C) name=some (some (.ref f))) (ht:isFn K (.ref f)=true) (hv:mA name=none) (h:Q (.ref f, [.ref x]) s):
  wpAny (model prog w) A (getMethod (.ref x) name pl) Q E s:=by
 obtain⟨od,J,hl⟩:=I.look
 exact PySem.W.method_fn X J (PySem.W.plainGet_of hg).1 (PySem.W.plainGet_of hg).2 hf (beq_iff_eq.mp ht) (by show (lookIn name od).map (·.isSome)=some false;rw [hl,hv];rfl) h
theorem set_map {ns:List Str} {Q:Unit→Shared→Prop} (X:K.In s.heap) (I:ObjM s.heap x dx C mA)
  (hs:findIn K (.ref C) "__setattr__" =some (some (.builtin "object.__setattr__"))) (hp:PySem.W.plainOver K C=true) (ht:PySem.W.takerIn K C name=some none) (hh:hasDictIn K C=true)
  (hw:PySem.Within mA ns) (hsz:ns.length≤sizeLine)
  (h:∀h',ObjM h' x dx C (fun y=>if y=name then some v else mA y)→Heap.SameBut dx s.heap h'→Q () {s with heap:=h',toks:=s.toks+2}):
  wpAny (model prog w) A (setAttr (.ref x) name v) Q E s:=by
 obtain⟨od,J,hl⟩:=I.look
 refine PySem.W.set_plain X J hs (PySem.W.osa_open (s:={s with toks:=s.toks+1}) (r:=none) X J hp ht fun b=>?_)
 obtain⟨cd,hc,hd'⟩:=PySem.W.any_some hh
 have hx:s.heap.get? x=some ⟨.ref C,some dx,.plain,#[]⟩:=I.obj
 refine wpAny_bind (wpAny_pure (wpAny_bind (wpAny_bind (wpAny_loadPart hx (wpAny_bind (PySem.W.Looks.here (s:={s with toks:=s.toks+1}) (PySem.W.looks_clsIn X hc) ?_))))))
 rw [hd']
 refine wpAny_pure (a:=some dx) (wpAny_bind (wpAny_pure (wpAny_bind ?_)))
 refine wpAny_nsSet1 (s:={s with toks:=s.toks+1}) I.ns fun h' hn2 hs2=>?_
 obtain⟨oD,esD,epD,hoD,hdD,hcD⟩:=hn2.count (PySem.Within.cons name v hw)
 refine wpAny_bind (wpAny_lookBehind hoD (by rw [hdD];exact pastItsLine_dict (Nat.le_trans hcD (by rw [zM];omega))) ?_)
 exact wpAny_pure (h _ ⟨(hs2.2 _ (Ne.symm I.ne)).trans I.obj,hn2,I.ne⟩ hs2)
theorem make_map {R:Result→Shared→Prop} {vs:List Value} {kw:List (Str × Value)} (X:K.In s.heap) (hm:PySem.W.makesIn K C=true)
  (hi:findIn K (.ref C) "__init__" =some (some (.ref f))) (hf:PySem.W.typeIn K (.ref f)=some (.type "function"))
  (h:codeAny (model prog w) (A.under (.builtin "type.__call__" ⟨.ref C :: vs,kw⟩)) (.call (.ref f) ⟨.ref (s.heap.objs.size+1) :: vs,kw⟩) (PySem.W.InitBack (s.heap.objs.size+1) R)
   {s with heap:=(s.heap.push emptyDict).push (instObj C s.heap.objs.size)}):
  codeAny (model prog w) A (.call (.ref C) ⟨vs,kw⟩) R s:=by
 obtain⟨hh,g,d,t,os⟩:=s
 exact PySem.W.make_core (PySem.W.makes_of X hm) (PySem.W.looks_findIn X hi) (fun self=>PySem.W.bind_fn X self hf) (.inl rfl) h
end
def qel (f:Str) (v:V):List (Str × V)→List (Str × V)
 | []=> [(f,v)]
 |(g,x) :: r=>if g=f then (g,v) :: r else (g,x) :: qel f v r
theorem qet (f g:Str) (v:V):∀fs:List (Str × V),(qel f v fs).lookup g=if g=f then some v else fs.lookup g
 | []=>by
  show List.lookup g [(f,v)]=_
  by_cases h:g=f
  ·have hb:(g==f)=true:=beq_iff_eq.mpr h
   simp only [List.lookup,hb,if_pos h]
  ·have hb:(g==f)=false:=beq_eq_false_iff_ne.mpr h
   simp only [List.lookup,hb,if_neg h]
 |(k,x) :: r=>by
  have ih:=qet f g v r
  rw [show qel f v ((k,x) :: r)=(if k=f then (k,v) :: r else (k,x) :: qel f v r) from rfl]
  by_cases hk:k=f
  ·rw [if_pos hk]
   by_cases h:g=k
   ·have hb:(g==k)=true:=beq_iff_eq.mpr h
    simp only [List.lookup,hb,if_pos (h.trans hk)]
   ·have hb:(g==k)=false:=beq_eq_false_iff_ne.mpr h
    simp only [List.lookup,hb,if_neg (fun e:g=f=>h (e.trans hk.symm))]
  ·rw [if_neg hk]
   by_cases h:g=k
   ·have hb:(g==k)=true:=beq_iff_eq.mpr h
    simp only [List.lookup,hb,if_neg (fun e:g=f=>hk (h.symm.trans e))]
   ·have hb:(g==k)=false:=beq_eq_false_iff_ne.mpr h
    simp only [List.lookup,hb]
    exact ih
theorem qev (f:Str) (v:V):∀fs:List (Str × V),f∈(qel f v fs).map (·.1)∧∀g,g∈fs.map (·.1)→g∈(qel f v fs).map (·.1)
 | []=>⟨by simp [qel],fun g h=>by simp at h⟩
 |(k,x) :: r=>by
  obtain⟨i1,i2⟩:=qev f v r
  rw [show qel f v ((k,x) :: r)=(if k=f then (k,v) :: r else (k,x) :: qel f v r) from rfl]
  by_cases hk:k=f
  ·rw [if_pos hk]
   subst hk
   exact⟨by simp,fun g h=>by simpa using h⟩
  ·rw [if_neg hk]
   refine⟨?_,fun g h=>?_⟩
   ·rw [zS]
    exact zF _ i1
   ·rw [zS] at h ⊢
    rcases zR.mp h with e|e
    ·exact zR.mpr (.inl e)
    ·exact zF _ (i2 g e)
theorem qeu (f:Str) (v:V):∀fs:List (Str × V),(qel f v fs).length≤fs.length+1
 | []=>by simp [qel]
 |(k,x) :: r=>by
  have ih:=qeu f v r
  rw [show qel f v ((k,x) :: r)=(if k=f then (k,v) :: r else (k,x) :: qel f v r) from rfl]
  by_cases hk:k=f
  ·rw [if_pos hk,zM,zM];omega
  ·rw [if_neg hk,zM,zM];omega
theorem qg9.some_of {v:V} {o:Option Value} (r:qg9 (some v) o):∃u,o=some u∧qba v u:=by
 cases o with
 |none=>exact(show False from r).elim
 |some u=>exact⟨u,rfl,r⟩
theorem qg9.none_of {o:Option Value} (r:qg9 none o):o=none:=by
 cases o with
 |none=>rfl
 |some u=>exact(show False from r).elim
theorem handed_of {v:V} {u:Value} (r:qba v u):PySem.W.handedIn u=true:=by
 cases v with
 |non=>cases (show u=Value.none from r);rfl
 |bl b=>cases (show u=Value.bool b from r);rfl
 |int i=>obtain⟨t,e⟩:=(show ∃t,u=Value.int i t from r);cases e;rfl
 |str x=>obtain⟨t,e⟩:=(show ∃t,u=Value.str x t from r);cases e;rfl
 |byt b=>obtain⟨t,e⟩:=(show ∃t,u=Value.bytes b t from r);cases e;rfl
 |flt b=>obtain⟨t,e⟩:=(show ∃t,u=Value.float b t from r);cases e;rfl
 |ref a=>cases (show u=Value.ref a from r);rfl
 |ty n=>cases (show u=Value.type n from r);rfl
section
variable {P : Program} {w : World} {H H' : Hp} {h h' : Heap} {a C dx : Addr} {fs fs' : List (Str × V)}
theorem qg5 (hok:HOk P w H h) (e:H a=some (.ins C dx fs)):∃mA,ObjM h a dx C mA∧(∀f,qg9 (fs.lookup f) (mA f))∧PySem.Within mA (fs.map (·.1))∧fs.length≤1000∧H dx=some (.own a):=by
 obtain⟨d,z,ne,ob,mA,n,r,q⟩:=(show qbi P w H h a (.ins C dx fs) from hok a _ e)
 exact⟨mA,⟨ob,n,ne⟩,r,q,z,d⟩
end
structure Cls (K:Frag) (C:Addr):Prop where
 pg:plainGet K C Str.empty=true
 hd:hasDictIn K C=true
 po:PySem.W.plainOver K C=true
 sa:findIn K (.ref C) "__setattr__" =some (some (.builtin "object.__setattr__"))
theorem Cls.get {K:Frag} {C:Addr} (c:Cls K C) (f:Str):plainGet K C f=true:=c.pg
def qaw (K:Frag) (C:Addr) (f:Str):Prop:=findIn K (.ref C) f=some none
theorem qaw.taker {K:Frag} {C:Addr} {f:Str} (n:qaw K C f):PySem.W.takerIn K C f=some none:=by
 unfold PySem.W.takerIn
 rw [show findIn K (.ref C) f=some none from n]
 rfl
structure Con (K:Frag) (C:Addr) (f:Str) (v:V) (u:Value):Prop where
 at_:findIn K (.ref C) f=some (some u)
 rel:qba v u
 get:specialIn K u "__get__" =some none
 cp:PySem.W.copiedNames.contains f=false
structure Meth (K:Frag) (C:Addr) (m:Str) (f:Addr):Prop where
 at_:findIn K (.ref C) m=some (some (.ref f))
 fn:isFn K (.ref f)=true
 kp:keepIn K (.ref f)=true
section
variable {X : Cx} {pins : List (Addr × Obj)} {σ : St} {H : Hp} {s : Shared} {a C dx : Addr} {fs : List (Str × V)} {f : Str} {v : V} {A : Around} {E : Value → Shared → Prop}
theorem getattr_ok {b:Bool} {Q:Value→Shared→Prop} (I:Inv X pins σ H s) (e:H a=some (.ins C dx fs)) (c:Cls X.K C) (n:qaw X.K C f) (l:fs.lookup f=some v)
  (h:∀u s',Inv X pins σ H s'→qba v u→Q u s'):wpAny (model X.prog X.w) A (getAttr (.ref a) f b) Q E s:=by
 obtain⟨mA,O,r,_,_,_⟩:=qg5 I.hok e
 obtain⟨u,hu,ru⟩:=qg9.some_of (v:=v) (o:=mA f) (by rw [←l];exact r f)
 exact get_map I.kIn O (c.get f) c.hd n hu (handed_of ru) (h u _ (I.tok _) ru)
theorem qe7 {m:Str} {g:Addr} {pl:Sem Bool} {Q:Value × List Value→Shared→Prop} (I:Inv X pins σ H s) (e:H a=some (.ins C dx fs)) (c:Cls X.K C) (k:Meth X.K C m g) (l:fs.lookup m=none)
  (h:Q (.ref g, [.ref a]) s):wpAny (model X.prog X.w) A (getMethod (.ref a) m pl) Q E s:=by
 obtain⟨mA,O,r,_,_,_⟩:=qg5 I.hok e
 have hn:mA m=none:=qg9.none_of (by rw [←l];exact r m)
 exact get_meth I.kIn O (c.get m) k.at_ k.fn hn h
theorem setattr_ok {y:V} {u:Value} {Q:Unit→Shared→Prop} (I:Inv X pins σ H s) (e:H a=some (.ins C dx fs)) (c:Cls X.K C) (n:qaw X.K C f) (hl:fs.length < 1000) (ry:qba y u)
  (h:∀s',Inv X pins σ (upd H a (.ins C dx (qel f y fs))) s'→Q () s'):wpAny (model X.prog X.w) A (setAttr (.ref a) f u) Q E s:=by
 obtain⟨mA,O,r,wi,_,ho⟩:=qg5 I.hok e
 have hz:(fs.map (·.1)).length≤sizeLine:=by rw [zB,sizeLine_eq];omega
 refine set_map I.kIn O c.sa c.po n.taker c.hd wi hz fun h' O' sb=>h _ ?_
 have hd:∃o,h'.get? dx=some o:=let ⟨o,_,_,e',_⟩:=O'.ns;⟨o,e'⟩
 refine I.write (x:=a) (e:=dx) (by rw [e];exact True.intro) (.inr ho) (fun b q hb z=>(sb.2 b hb).trans z) hd ?_
 refine⟨by rw [qa9 O.ne];exact ho,?_,O.ne,O'.obj,_,O'.ns,fun g=>?_,fun g hg=>?_⟩
 ·have:=qeu f y fs;omega
 ·show qg9 ((qel f y fs).lookup g) (if g=f then some u else mA g)
  rw [qet]
  by_cases q:g=f
  ·rw [if_pos q,if_pos q];exact ry
  ·rw [if_neg q,if_neg q];exact r g
 ·by_cases q:g=f
  ·rw [q];exact(qev f y fs).1
  ·refine(qev f y fs).2 g (wi g fun z=>hg ?_)
   show (if g=f then some u else mA g)=none
   rw [if_neg q];exact z
theorem Inv.made (I:Inv X pins σ H s):Inv X pins σ (upd (upd H s.heap.objs.size (.own (s.heap.objs.size+1))) (s.heap.objs.size+1) (.ins C s.heap.objs.size []))
  {s with heap:=(s.heap.push emptyDict).push (instObj C s.heap.objs.size)}:=by
 have e1:(s.heap.push emptyDict).get? s.heap.objs.size=some emptyDict:=Heap.get?_push_size s.heap rfl
 have e2:((s.heap.push emptyDict).push (instObj C s.heap.objs.size)).get? (s.heap.objs.size+1)=some (instObj C s.heap.objs.size):=by
  have:=Heap.get?_push_size (s.heap.push emptyDict) (o:=instObj C s.heap.objs.size) rfl
  rwa [Heap.size_push] at this
 have e3:(s.heap.push emptyDict).Ns s.heap.objs.size (fun _=>none):=⟨emptyDict,#[],_,e1,rfl,(fun e he=>absurd he (by simp)),fun _=>rfl⟩
 have I1:=I.laid (a:=s.heap.objs.size) (o:=.own (s.heap.objs.size+1)) (h':=s.heap.push emptyDict) (t':=s.toks) (fun b u q=>Heap.get?_push_of_some _ q) (Nat.le_refl _) ⟨_,e1⟩
 refine I1.laid (a:=s.heap.objs.size+1) (o:=.ins C s.heap.objs.size []) (t':=s.toks) (fun b u q=>Heap.get?_push_of_some _ q) (Nat.le_of_eq (Heap.size_push _ _)) ?_
 have ne:s.heap.objs.size≠s.heap.objs.size+1:=Nat.ne_of_lt (Nat.lt_succ_self _)
 refine⟨by rw [qa9 ne,qa1],Nat.zero_le _,ne,e2,fun _=>none,(Heap.Ns1.of_empty e3).at fun o q=>Heap.get?_push_of_some _ q,fun _=>True.intro,fun y hy=>absurd rfl hy⟩
theorem attr_of {prog:Program} {w:World} {env:Env} {e:Expr} {f:Str} {pos:Pos} {s:Shared} {Q:Value→Shared→Prop} (hb:attributeBase e f env (eval e env)=eval e env)
  (h:wpAny (model prog w) A (eval e env) (fun o s₁=>wpAny (model prog w) A (getAttr o f true) Q E s₁) E s):wpAny (model prog w) A (eval (.Attribute e f pos) env) Q E s:=
 Attribute_any_ h (by rw [arm_eval_Attribute,hb])
end
def tFld (K:Frag) (ta:TE) (f:Str):TE:=fun σ H Q=>ta σ H fun x H1=>∃a C dx fs v,x=.ref a∧H1 a=some (.ins C dx fs)∧Cls K C∧qaw K C f∧fs.lookup f=some v∧Q v H1
def sFld (K:Frag) (ta tv:TE) (f:Str):TS:=fun D σ H=>tv σ H fun y H1=>ta σ H1 fun x H2=>∃a C dx fs,x=.ref a∧H2 a=some (.ins C dx fs)∧Cls K C∧qaw K C f∧fs.length < 1000∧
 D.nx σ (upd H2 a (.ins C dx (qel f y fs)))
section
variable {X : Cx} {o e value : Expr} {f : Str} {pos pos' tpos : Pos} {ta tv : TE}
theorem qbh (he:PE X e ta) (hb:attributeBase e f X.env (eval e X.env)=eval e X.env):PE X (.Attribute e f pos) (tFld X.K ta f):=by
 intro pins s σ H Q I h
 refine attr_of hb (thn (he pins s σ H _ I h) fun u s1 ⟨x,H1,I1,rx,a,C,dx,fs,v,ex,ea,c,n,l,q⟩=>?_)
 subst ex
 obtain rfl:u=Value.ref a:=rx
 exact getattr_ok I1 ea c n l fun u' s2 I2 ru=>⟨v,H1,I2,ru,q⟩
theorem qda (ha:PE X o ta) (hv:PE X value tv) (hs:swapsWith value (some (.Attribute o f pos')) pos.line X.env=pure false):PS X (.Assign [.Attribute o f pos'] value pos) (sFld X.K ta tv f):=by
 intro pins s σ H D I h
 refine plainObj_wpAny_Assign_Attribute (thn (hv pins s σ H _ I h) fun u s1 ⟨y,H1,I1,ry,q⟩=>thn (ha pins s1 σ H1 _ I1 q) fun ov s2 ⟨x,H2,I2,rx,a,C,dx,fs,ex,ea,c,n,l,q2⟩=>?_) hs
 subst ex
 obtain rfl:ov=Value.ref a:=rx
 exact setattr_ok I2 ea c n l ry fun s3 I3=>⟨σ,_,I3,q2⟩
theorem methcall_of {pl:Sem Bool} {m:Str} {apos:Pos} {args:List Expr} {pins:List (Addr × Obj)} {s:Shared} {σ:St} {H:Hp} {Q:Value→Shared→Prop} {te:TE} (he:PE X e te) (I:Inv X pins σ H s)
  (h:te σ H fun x H1=>∃a C dx fs g,x=.ref a∧H1 a=some (.ins C dx fs)∧Cls X.K C∧Meth X.K C m g∧fs.lookup m=none∧
   ∀s1,Inv X pins σ H1 s1→wpAny (model X.prog X.w) X.A (callWith pos (.ref g) [.ref a] (backTo pos (starEach args X.env)) (backToKw pos (keywordEach [] X.env))) Q X.xe s1)
  (ht:eval (.Call (.Attribute e m apos) args [] pos) X.env=(do
   let ov←eval e X.env
   standAt apos.atName
   let (f,first)←holding [ov] (getMethod ov m pl)
   callWith pos f first (backTo pos (starEach args X.env)) (backToKw pos (keywordEach [] X.env)))):
  wpAny (model X.prog X.w) X.A (eval (.Call (.Attribute e m apos) args [] pos) X.env) Q X.xe s:=by
 refine PySem.W.methodCall_KW (pl:=pl) (thn (he pins s σ H _ I h) fun u s1 ⟨x,H1,I1,rx,a,C,dx,fs,g,ex,ea,c,k,l,q⟩=>?_) ht
 subst ex
 obtain rfl:u=Value.ref a:=rx
 exact qe7 I1 ea c k l (q s1 I1)
end
section
variable {X : Cx} {pins : List (Addr × Obj)} {σ : St} {H : Hp} {s : Shared} {A : Around} {E : Value → Shared → Prop} {Q : Value → Shared → Prop} {c : Value} {b : Bool}
inductive TyOf (K:Frag) (H:Hp):V→Value→Prop where
 |non:TyOf K H .non (.type "NoneType")
 |bl (x:Bool):TyOf K H (.bl x) (.type "bool")
 |int (i:Int):TyOf K H (.int i) (.type "int")
 |str (x:Str):TyOf K H (.str x) (.type "str")
 |flt (x:UInt64):TyOf K H (.flt x) (.type "float")
 |lst {a:Addr} {xs:List V} (e:H a=some (.lst xs)):TyOf K H (.ref a) (.type "list")
 |frz {a:Addr} {o:Obj} {xs:List V} (e:H a=some (.frz o (.lst xs))):TyOf K H (.ref a) (.type "list")
 |tup {a:Addr} {xs:List V} (e:H a=some (.tup xs)):TyOf K H (.ref a) (.type "tuple")
 |dK {a:Addr} {kvs:List (Key × V)} (e:H a=some (.dK kvs)):TyOf K H (.ref a) (.type "dict")
 |dT {a:Addr} {kvs:List (List Key × V)} (e:H a=some (.dT kvs)):TyOf K H (.ref a) (.type "dict")
 |ins {a C dx:Addr} {fs:List (Str × V)} (e:H a=some (.ins C dx fs)) (cl:Cls K C) (ha:findIn K (.ref C) "__class__" =some (some (.builtin "object.__class__")))
   (hn:specialIn K (.builtin "object.__class__") "__get__" =some (some (.builtin "getset_descriptor.__get__"))) (htk:PySem.W.takesIn K (.builtin "object.__class__")=some true)
   (hm:mroIn K C (.type "object")=some true):TyOf K H (.ref a) (.ref C)
theorem isinst_ok {x:V} {u t:Value} (I:Inv X pins σ H s) (rx:qba x u) (ty:TyOf X.K H x t) (e:kitOne X.K t c=some b) (h:∀tk,Q (.bool b) {s with toks:=tk}):
  wpAny (model X.prog X.w) A (call (.builtin "isinstance") [u,c]) Q E s:=by
 cases ty with
 |non=>cases (show u=Value.none from rx);exact PySem.W.kia_one PySem.W.kitx_none I.kIn True.intro e (fun z=>nomatch z) h
 |bl y=>cases (show u=Value.bool y from rx);exact PySem.W.kia_one PySem.W.kitx_bool I.kIn True.intro e (fun z=>nomatch z) h
 |int i=>obtain⟨t,q⟩:=(show ∃t,u=Value.int i t from rx);cases q;exact PySem.W.kia_one PySem.W.kitx_int I.kIn True.intro e (fun z=>nomatch z) h
 |str y=>obtain⟨t,q⟩:=(show ∃t,u=Value.str y t from rx);cases q;exact PySem.W.kia_one PySem.W.kitx_str I.kIn True.intro e (fun z=>nomatch z) h
 |flt y=>obtain⟨t,q⟩:=(show ∃t,u=Value.float y t from rx);cases q;exact PySem.W.kia_one PySem.W.kitx_float I.kIn True.intro e (fun z=>nomatch z) h
 | @lst a xs ea=>
  cases (show u=Value.ref a from rx)
  obtain⟨_,_,n,_,h1⟩:=(show qbi X.prog X.w H s.heap a (.lst xs) from I.hok a _ ea)
  exact PySem.W.kia_one PySem.W.kitx_list I.kIn ⟨_,h1,rfl⟩ e (fun z=>nomatch z) h
 | @frz a ob xs ea=>
  cases (show u=Value.ref a from rx)
  obtain⟨_,_,_,n,_,h1⟩:=(show qbi X.prog X.w H s.heap a (.frz ob (.lst xs)) from I.hok a _ ea)
  exact PySem.W.kia_one PySem.W.kitx_list I.kIn ⟨_,h1,rfl⟩ e (fun z=>nomatch z) h
 | @tup a xs ea=>
  cases (show u=Value.ref a from rx)
  obtain⟨_,_,_,p⟩:=(show qbi X.prog X.w H s.heap a (.tup xs) from I.hok a _ ea)
  obtain⟨o,h1,h2,_⟩:=p
  exact PySem.W.kia_one PySem.W.kitx_tuple I.kIn ⟨o,h1,h2⟩ e (fun z=>nomatch z) h
 | @dK a kvs ea=>
  cases (show u=Value.ref a from rx)
  obtain⟨_,_,vs,_,p⟩:=(show qbi X.prog X.w H s.heap a (.dK kvs) from I.hok a _ ea)
  obtain⟨o,es,ep,h1,h2,_⟩:=p
  exact PySem.W.kia_one PySem.W.kitx_dict I.kIn ⟨o,h1,h2.1⟩ e (fun z=>nomatch z) h
 | @dT a kvs ea=>
  cases (show u=Value.ref a from rx)
  obtain⟨_,_,xs,_,o,es,ep,h1,h2,_⟩:=(show qbi X.prog X.w H s.heap a (.dT kvs) from I.hok a _ ea)
  exact PySem.W.kia_one PySem.W.kitx_dict I.kIn ⟨o,h1,h2.1⟩ e (fun z=>nomatch z) h
 | @ins a C dx fs ea cl ha hn htk hm=>
  cases (show u=Value.ref a from rx)
  obtain⟨mA,O,_⟩:=qg5 I.hok ea
  obtain⟨od,J,_⟩:=O.look
  exact PySem.W.kia_one (PySem.W.kitx_own (cl.get _) cl.hd ha hn htk hm) I.kIn J e (fun z=>nomatch z) h
end
structure Room (k:Nat) (A:Around):Prop where
 hd:A.handled=none
 dp:A.depth+3*k+5 < recursionLimit
 un:A.units+16*k+200 < cLine
theorem Room.mono {j k:Nat} {A:Around} (r:Room k A) (h:j≤k):Room j A:=⟨r.hd,by have:=r.dp;omega,by have:=r.un;omega⟩
theorem Room.deeper {k:Nat} {A:Around} (r:Room (k+1) A) (env:Env):Room k (A.deeper env):=
 ⟨r.hd,by have:=r.dp;show A.depth+1+3*k+5 < _;omega,by have:=r.un;show A.units+3+16*k+200 < _;omega⟩
theorem make_depth {A:Around} {C:Addr} {us:List Value} {kw:List (Str × Value)}:(A.under (.builtin "type.__call__" ⟨.ref C :: us,kw⟩)).depth=A.depth+1:=by
 first|rfl|simp [Around.under,Code.weight,Code.isCreation,Code.isGuard,Code.isCaller,Code.frames,Code.isFrame,guardIds]
theorem make_units {A:Around} {C:Addr} {us:List Value} {kw:List (Str × Value)}:(A.under (.builtin "type.__call__" ⟨.ref C :: us,kw⟩)).units=A.units+1:=by
 first|rfl|simp [Around.under,Code.cUnits,Code.frames,Code.isFrame]
theorem Room.make {k:Nat} {A:Around} (r:Room (k+1) A) (C:Addr) (us:List Value) (kw:List (Str × Value)):Room k (A.under (.builtin "type.__call__" ⟨.ref C :: us,kw⟩)):=
 ⟨r.hd,by have:=r.dp;rw [make_depth];omega,by have:=r.un;rw [make_units];omega⟩
theorem Room.depth {k:Nat} {A:Around} (r:Room k A):A.depth < recursionLimit:=by have:=r.dp;omega
theorem Room.units {k:Nat} {A:Around} (r:Room k A):A.units+64 < cLine:=by have:=r.un;omega
def tNil:TA:=fun _ H Q=>Q [] H
def tCons (ta:TE) (tr:TA):TA:=fun σ H Q=>ta σ H fun x H1=>tr σ H1 fun xs H2=>Q (x :: xs) H2
section
variable {X : Cx} {e : Expr} {es : List Expr} {te : TE} {t : TA} {pos : Pos}
theorem qa2:PA X [] tNil:=fun _ _ _ _ H Q I h=>Calls.spliced_nil ⟨[],H,I,.nil,h⟩
theorem qa0 (ha:PE X e te) (hr:PA X es t) (hs:starEach (e :: es) X.env=(false,eval e X.env) :: starEach es X.env:=by rfl):PA X (e :: es) (tCons te t):=by
 intro pos pins s σ H Q I h
 rw [hs]
 show wpAny _ _ (spliced ((false,eval e X.env) :: backTo pos (starEach es X.env))) _ _ s
 refine Calls.spliced_cons (thn (ha pins s σ H _ I h) fun u s1 ⟨x,H1,I1,r1,q1⟩=>?_)
 exact thn (hr pos pins s1 σ H1 _ I1 q1) fun us s2 ⟨xs,H2,I2,r2,q2⟩=>⟨x :: xs,H2,I2,.cons r1 r2,q2⟩
def tTup (t:TA):TE:=fun σ H Q=>t σ H fun xs H1=>xs.length≤sizeLine∧∀p,H1 p=none→Q (.ref p) (upd H1 p (.tup xs))
def tLst (t:TA):TE:=fun σ H Q=>t σ H fun xs H1=>xs.length≤sizeLine∧∀p,H1 p=none→Q (.ref p) (upd H1 p (.lst xs))
theorem qc1 {x1} (h:PA X es t):PE X (.Tuple es x1 pos) (tTup t):=by
 intro pins s σ H Q I hq
 refine wpAny_Tuple_spliced (thn (h pos pins s σ H _ I hq) fun us s1 ⟨xs,H1,I1,r,z,q⟩=>⟨by rw [←r.length];exact z,?_⟩)
 have hf:H1 s1.heap.objs.size=none:=I1.hok.fresh (Nat.le_refl _)
 refine⟨.ref s1.heap.objs.size,upd H1 s1.heap.objs.size (.tup xs),I1.laid (t':=s1.toks) (fun b u e=>Heap.get?_push_of_some _ e) (Nat.le_refl _) ?_,rfl,q _ hf⟩
 exact⟨z,us,r,⟨_,Heap.get?_push_size _ rfl,rfl,_,rfl⟩⟩
theorem qbe (h:PA X es t):PE X (.List es pos) (tLst t):=by
 intro pins s σ H Q I hq
 refine wpAny_List_spliced (thn (h pos pins s σ H _ I hq) fun us s1 ⟨xs,H1,I1,r,z,q⟩=>⟨by rw [←r.length];exact z,?_⟩)
 have hf:H1 s1.heap.objs.size=none:=I1.hok.fresh (Nat.le_refl _)
 refine⟨.ref s1.heap.objs.size,upd H1 s1.heap.objs.size (.lst xs),I1.laid (t':=s1.toks) (fun b u e=>Heap.get?_push_of_some _ e) (Nat.le_refl _) ?_,rfl,q _ hf⟩
 exact⟨z,us,0,r,Heap.get?_push_size _ rfl⟩
end
abbrev Sp:=List V→Hp→VK→XK→Prop
abbrev CXT:=List Env→Hp→Shared→XK→Value→Shared→Prop
structure Env0 (P:Program) (w:World) (K:Frag) (mg:Str→Option Value) (base:Heap) (A:Around) (outer:List Env) (s:Shared) (H:Hp):Prop where
 frames:A.frames=some outer
 mod:Mod K mg base
 bs:∀b o,base.get? b=some o→s.heap.get? b=some o∧H b=none
 bsz:base.objs.size≤s.heap.objs.size
 funs:s.heap.FunFrames base outer
 frf:∀b∈frs outer,H b=none
 hok:HOk P w H s.heap
 bare:AllBare s.gens
def CE (outer:List Env) (P:Program) (w:World) (H:Hp) (s:Shared) (Q:VK) (u:Value) (s':Shared):Prop:=
 ∃v H',s'.os=s.os∧AllBare s'.gens∧Un (frs outer) [] H H' s.heap s'.heap∧HOk P w H' s'.heap∧qba v u∧Q v H'
def CR (CX:CXT) (outer:List Env) (P:Program) (w:World) (H:Hp) (s:Shared) (Q:VK) (E:XK) (r:Result) (s':Shared):Prop:=
 match r with
 | .ok (.ret u)=>CE outer P w H s Q u s'
 | .ok _=>False
 | .error e=>CX outer H s E e s'
structure FnOk (P:Program) (w:World) (K:Frag) (mg:Str→Option Value) (base:Heap) (CX:CXT) (k:Nat) (f:Addr) (fd:FuncData) (ps:List Str) (sp:Sp):Prop where
 len:∀vs H Q E,sp vs H Q E→vs.length=ps.length
 run:∀(A:Around) (outer:List Env) (s:Shared) (H:Hp) (args:Args) (us:List Value) (vs:List V) (Q:VK) (E:XK),Room k A→Env0 P w K mg base A outer s H→BindsTo s fd args (ps.zip us)→qb9 vs us→sp vs H Q E→
  codeAny (model P w) A (.call (.ref f) args) (CR CX outer P w H s Q E) s
theorem FnOk.mono {P:Program} {w:World} {K:Frag} {mg:Str→Option Value} {base:Heap} {CX:CXT} {j k:Nat} {f:Addr} {fd:FuncData} {ps:List Str} {sp:Sp} (F:FnOk P w K mg base CX j f fd ps sp) (h:j≤k):
  FnOk P w K mg base CX k f fd ps sp:=⟨F.len,fun A outer s H args us vs Q E hr=>F.run A outer s H args us vs Q E (hr.mono h)⟩
theorem FnOk.imp {P:Program} {w:World} {K:Frag} {mg:Str→Option Value} {base:Heap} {CX:CXT} {k:Nat} {f:Addr} {fd:FuncData} {ps:List Str} {sp sp':Sp} (F:FnOk P w K mg base CX k f fd ps sp)
  (h:∀vs H Q E,sp' vs H Q E→sp vs H Q E):FnOk P w K mg base CX k f fd ps sp':=
 ⟨fun vs H Q E q=>F.len vs H Q E (h _ _ _ _ q),fun A outer s H args us vs Q E hr he hb hv hs=>F.run A outer s H args us vs Q E hr he hb hv (h _ _ _ _ hs)⟩
theorem Env0.make {P:Program} {w:World} {K:Frag} {mg:Str→Option Value} {base:Heap} {A:Around} {outer:List Env} {s:Shared} {H:Hp} (e:Env0 P w K mg base A outer s H) (C:Addr) (us:List Value) (kw:List (Str × Value)):
  Env0 P w K mg base (A.under (.builtin "type.__call__" ⟨.ref C :: us,kw⟩)) outer s H:=⟨by first|exact e.frames|(simpa [Around.under,Code.envs,Code.isFrame,pushEnvs] using e.frames),e.mod,e.bs,e.bsz,e.funs,e.frf,e.hok,e.bare⟩
section
variable {X : Cx} {pins : List (Addr × Obj)} {σ : St} {H : Hp} {s s' : Shared}
theorem Inv.env0 (I:Inv X pins σ H s):Env0 X.prog X.w X.K X.mg X.base X.A X.stack s H:=
 ⟨I.ok.frames,I.ok.mod,I.bs,Nat.le_trans I.ok.bsz I.sz,I.stack,I.stkFree,I.hok,I.bare⟩
theorem Inv.after {Q:VK} {u:Value} (I:Inv X pins σ H s) (h:CE X.stack X.prog X.w H s Q u s'):EP X pins σ Q u s':=by
 obtain⟨v,H',os,bare,un,hok,r,q⟩:=h
 obtain⟨hh,g,d,t,os'⟩:=s'
 obtain rfl:os'=s.os:=os
 exact⟨v,H',I.call (h':=hh) (g':=g) (d':=d) (t':=t) (ch:=[]) un hok bare (fun b z=>absurd z (by simp)),r,q⟩
end
def tCall (sp:Sp) (dvs:List V) (E:XK) (t:TA):TE:=fun σ H Q=>t σ H fun vs H1=>sp (vs++dvs) H1 Q E
def tMeth (C:Addr) (m:Str) (sp:Sp) (dvs:List V) (E:XK) (ta:TE) (t:TA):TE:=fun σ H Q=>ta σ H fun x H1=>∃a dx fs,x=.ref a∧H1 a=some (.ins C dx fs)∧fs.lookup m=none∧
 t σ H1 fun vs H2=>sp (x ::(vs++dvs)) H2 Q E
def tMake (C:Addr) (sp:Sp) (dvs:List V) (E:XK) (t:TA):TE:=fun σ H Q=>t σ H fun vs H1=>∀x dx,H1 x=none→H1 dx=none→dx≠x→
 sp (.ref x ::(vs++dvs)) (upd (upd H1 dx (.own x)) x (.ins C dx [])) (fun v H2=>v=.non∧Q (.ref x) H2) E
def qao (K:Frag) (fd:FuncData) (ps:List Str) (ds:List Value):Prop:=
 ∀(s:Shared) (us:List Value),K.In s.heap→(us++ds).length=ps.length→BindsTo s fd ⟨us, []⟩ (ps.zip (us++ds))
theorem qao.all {K:Frag} {fd:FuncData} {ps:List Str} (h:∀us:List Value,us.length=ps.length→bindArgs fd ⟨us, []⟩=pure (ps.zip us)):qao K fd ps []:=fun s us _ hl=>by
 rw [yD] at hl ⊢
 exact .of_eq (h us hl)
def qfl (CX:CXT) (X:Cx) (E:XK):Prop:=∀(pins:List (Addr × Obj)) (σ:St) (H:Hp) (s:Shared) (e:Value) (s':Shared),Inv X pins σ H s→CX X.stack H s E e s'→X.xe e s'
section
variable {X : Cx} {CX : CXT} {k : Nat} {f C : Addr} {fd : FuncData} {ps : List Str} {sp : Sp} {dvs : List V} {ds : List Value} {E : XK} {x m : Str} {p pos apos : Pos} {e o : Expr} {es : List Expr} {ta : TE} {t : TA}
theorem run_fn {pins:List (Addr × Obj)} {σ:St} {H:Hp} {s:Shared} {Q:VK} {us:List Value} {vs:List V} (F:FnOk X.prog X.w X.K X.mg X.base CX k f fd ps sp) (hr:Room k X.A) (hb:qao X.K fd ps ds) (hd:qb9 dvs ds) (hx:qfl CX X E)
  (I:Inv X pins σ H s) (r:qb9 vs us) (h:sp (vs++dvs) H Q E):wpAny (model X.prog X.w) X.A (call (.ref f) us) (EP X pins σ Q) X.xe s:=by
 have r2:qb9 (vs++dvs) (us++ds):=r.append hd
 have hl:(us++ds).length=ps.length:=by rw [←r2.length];exact F.len _ _ _ _ h
 refine wpAny_call (codeAny_mono (F.run X.A X.stack s H ⟨us, []⟩ (us++ds) (vs++dvs) Q E hr I.env0 (hb s us I.kIn hl) r2 h) fun r s' hq=>?_)
 cases r with
 |error e=>exact hx pins σ H s e s' I hq
 |ok fl=>
  cases fl with
  |ret u=>exact I.after hq
  |next=>exact False.elim hq
  |brk=>exact False.elim hq
  |cont=>exact False.elim hq
theorem qaa (F:FnOk X.prog X.w X.K X.mg X.base CX k f fd ps sp) (hr:Room k X.A) (hg:Gl X x) (hm:X.mg x=some (.ref f)) (hk:keepIn X.K (.ref f)=true) (hb:qao X.K fd ps ds) (hd:qb9 dvs ds) (hx:qfl CX X E)
  (ha:PA X (e :: es) t) (hdb:(x==("__debug__" :Str))=false:=by decide) (he:starEach (e :: es) X.env=(false,eval e X.env) :: starEach es X.env:=by rfl) (hpl:(backTo pos (starEach es X.env)).any (·.1)=false:=by rfl):
  PE X (.Call (.Name x p) (e :: es) [] pos) (tCall sp dvs E t):=by
 intro pins s σ H Q I h
 refine wpAny_Call_Name_kw (qdt I hg hm ?_ hdb)
 refine PySem.W.callWith_K (h₀:=X.base) I.ok.mod.kin hk (thn (ha pos pins s σ H _ I h) fun us s1 ⟨vs,H1,I1,r,q⟩=>⟨I1.kIn,?_⟩) he hpl
 exact run_fn F hr hb hd hx I1 r q
theorem pe_meth {pl:Sem Bool} (he:PE X o ta) (c:Cls X.K C) (hm:Meth X.K C m f) (F:FnOk X.prog X.w X.K X.mg X.base CX k f fd ps sp) (hr:Room k X.A) (hb:qao X.K fd ps ds) (hd:qb9 dvs ds) (hx:qfl CX X E) (ha:PA X (e :: es) t)
  (hst:starEach (e :: es) X.env=(false,eval e X.env) :: starEach es X.env:=by rfl) (hpl:(backTo pos (starEach es X.env)).any (·.1)=false:=by rfl)
  (ht:eval (.Call (.Attribute o m apos) (e :: es) [] pos) X.env=(do
   let ov←eval o X.env
   standAt apos.atName
   let (f,first)←holding [ov] (getMethod ov m pl)
   callWith pos f first (backTo pos (starEach (e :: es) X.env)) (backToKw pos (keywordEach [] X.env))):=by rfl):
  PE X (.Call (.Attribute o m apos) (e :: es) [] pos) (tMeth C m sp dvs E ta t):=by
 intro pins s σ H Q I h
 refine PySem.W.methodCall_KW (pl:=pl) (thn (he pins s σ H _ I h) fun u s1 ⟨x,H1,I1,rx,a,dx,fs,ex,ea,l,q⟩=>?_) ht
 subst ex
 obtain rfl:u=Value.ref a:=rx
 refine qe7 I1 ea c hm l ?_
 refine PySem.W.callWith_K (first:=[.ref a]) (h₀:=X.base) I.ok.mod.kin hm.kp (thn (ha pos pins s1 σ H1 _ I1 q) fun us s2 ⟨vs,H2,I2,r,q2⟩=>⟨I2.kIn,?_⟩) hst hpl
 exact run_fn (us:=.ref a :: us) (vs:=.ref a :: vs) F hr hb hd hx I2 (.cons rfl r) q2
structure Mk (K:Frag) (C f:Addr):Prop where
 makes:PySem.W.makesIn K C=true
 init:findIn K (.ref C) "__init__" =some (some (.ref f))
 fn:isFn K (.ref f)=true
 kp:keepIn K (.ref C)=true
theorem run_make {pins:List (Addr × Obj)} {σ:St} {H:Hp} {s:Shared} {Q:VK} {us:List Value} {vs:List V} (M:Mk X.K C f) (F:FnOk X.prog X.w X.K X.mg X.base CX k f fd ps sp) (hr:Room (k+1) X.A) (hb:qao X.K fd ps ds) (hd:qb9 dvs ds)
  (hx:qfl CX X E) (I:Inv X pins σ H s) (r:qb9 vs us)
  (h:∀x dx,H x=none→H dx=none→dx≠x→sp (.ref x ::(vs++dvs)) (upd (upd H dx (.own x)) x (.ins C dx [])) (fun v H2=>v=.non∧Q (.ref x) H2) E):
  wpAny (model X.prog X.w) X.A (call (.ref C) us) (EP X pins σ Q) X.xe s:=by
 have hq:=h (s.heap.objs.size+1) s.heap.objs.size (I.hok.fresh (Nat.le_succ _)) (I.hok.fresh (Nat.le_refl _)) (Nat.ne_of_lt (Nat.lt_succ_self _))
 have I2:=Inv.made (C:=C) I
 have r2:qb9 (V.ref (s.heap.objs.size+1) ::(vs++dvs)) (Value.ref (s.heap.objs.size+1) ::(us++ds)):=.cons rfl (r.append hd)
 have hl:(Value.ref (s.heap.objs.size+1) :: us++ds).length=ps.length:=by
  have e:=r2.length
  rw [F.len _ _ _ _ hq] at e
  exact e.symm
 refine wpAny_call (make_map (f:=f) I.kIn M.makes M.init (beq_iff_eq.mp M.fn) (codeAny_mono (F.run _ X.stack _ _ ⟨Value.ref (s.heap.objs.size+1) :: us, []⟩ (Value.ref (s.heap.objs.size+1) ::(us++ds)) _ _ E (hr.make C us [])
  (I2.env0.make C us []) (hb _ (Value.ref (s.heap.objs.size+1) :: us) I2.kIn hl) r2 hq) fun r s' hq'=>?_))
 cases r with
 |error e=>exact hx pins σ _ _ e s' I2 hq'
 |ok fl=>
  cases fl with
  |ret u=>
   obtain⟨v,H',I3,rv,ev,q3⟩:=I2.after hq'
   subst ev
   exact⟨rv,⟨V.ref (s.heap.objs.size+1),H',I3,rfl,q3⟩⟩
  |next=>exact False.elim hq'
  |brk=>exact False.elim hq'
  |cont=>exact False.elim hq'
theorem pe_make (M:Mk X.K C f) (F:FnOk X.prog X.w X.K X.mg X.base CX k f fd ps sp) (hr:Room (k+1) X.A) (hg:Gl X x) (hm:X.mg x=some (.ref C)) (hb:qao X.K fd ps ds) (hd:qb9 dvs ds) (hx:qfl CX X E)
  (ha:PA X (e :: es) t) (hdb:(x==("__debug__" :Str))=false:=by decide) (he:starEach (e :: es) X.env=(false,eval e X.env) :: starEach es X.env:=by rfl) (hpl:(backTo pos (starEach es X.env)).any (·.1)=false:=by rfl):
  PE X (.Call (.Name x p) (e :: es) [] pos) (tMake C sp dvs E t):=by
 intro pins s σ H Q I h
 refine wpAny_Call_Name_kw (qdt I hg hm ?_ hdb)
 refine PySem.W.callWith_K (h₀:=X.base) I.ok.mod.kin M.kp (thn (ha pos pins s σ H _ I h) fun us s1 ⟨vs,H1,I1,r,q⟩=>⟨I1.kIn,?_⟩) he hpl
 exact run_make M F hr hb hd hx I1 r q
end
section
variable {X : Cx} {CX : CXT} {k : Nat} {f C : Addr} {fd : FuncData} {ps ks : List Str} {sp : Sp} {E : XK} {x m : Str} {p pos apos kpos : Pos} {e o : Expr} {es : List Expr} {kws : List Keyword} {te ta : TE} {t tk : TA} {nm : Option Str}
structure KBinds (K:Frag) (fd:FuncData) (ps ks:List Str) (g:List Value→List Value→List Value) (gV:List V→List V→List V):Prop where
 to:∀(s:Shared) (us ws:List Value),K.In s.heap→(g us ws).length=ps.length→BindsTo s fd ⟨us,ks.zip ws⟩ (ps.zip (g us ws))
 rel:∀{vs:List V} {us:List Value} {zs:List V} {ws:List Value},qb9 vs us→qb9 zs ws→qb9 (gV vs zs) (g us ws)
variable {g : List Value → List Value → List Value} {gV : List V → List V → List V}
end
structure FnScope (N P:List Str) (sc:Scope):Prop where
 kind:sc.kind=.function
 co:sc.isCoroutine=false
 gen:sc.isGenerator=false
 nd:N.Nodup
 pre:N.take P.length=P
 par:∀x∈P,sc.names.lookup x=some .local∨sc.names.lookup x=some .cell
 nofree:∀y∈sc.names,y.2≠ .free
theorem bindL_out {kindOf:Str→Option NameKind} {x:Str}:∀{binds:List (Str × Value)} {m:Str→Option Value},(∀v,(x,v)∉binds)→bindL kindOf binds m x=m x
 | [],_,_=>rfl
 |(n,v) :: r,m,h=>by
  unfold bindL
  rw [bindL_out fun w hw=>h w (zF _ hw)]
  split
  ·have:x≠n:=by rintro rfl;exact h v zI
   simp [this]
  ·rfl
theorem bindC_out {kindOf:Str→Option NameKind} {x:Str}:∀{binds:List (Str × Value)} {m:Str→Option Value},(∀v,(x,v)∉binds)→bindC kindOf binds m x=m x
 | [],_,_=>rfl
 |(n,v) :: r,m,h=>by
  unfold bindC
  rw [bindC_out fun w hw=>h w (zF _ hw)]
  split
  ·rfl
  ·have:x≠n:=by rintro rfl;exact h v zI
   simp [this]
theorem bindL_get {kindOf:Str→Option NameKind} {x:Str} {v:Value}:∀{P:List Str} {vs:List Value} {i:Nat} {m:Str→Option Value},P.Nodup→P[i]?=some x→vs[i]?=some v→kindOf x=some .local→
  bindL kindOf (P.zip vs) m x=some v
 | [],_,_,_,_,h,_,_=>by simp at h
 |_ :: _, [],_,_,_,_,h,_=>by simp at h
 |p :: P,w :: vs,0,m,nd,h1,h2,hk=>by
  simp at h1 h2;subst h1;subst h2
  show bindL kindOf ((p,w) :: P.zip vs) m p=_
  unfold bindL
  rw [bindL_out fun v hv=>(zX.mp nd).1 (List.of_mem_zip hv).1,if_pos hk]
  simp
 |p :: P,w :: vs,i+1,m,nd,h1,h2,hk=>by
  show bindL kindOf ((p,w) :: P.zip vs) m x=_
  unfold bindL
  exact bindL_get (i:=i) (zX.mp nd).2 (by simpa using h1) (by simpa using h2) hk
theorem bindC_get {kindOf:Str→Option NameKind} {x:Str} {v:Value}:∀{P:List Str} {vs:List Value} {i:Nat} {m:Str→Option Value},P.Nodup→P[i]?=some x→vs[i]?=some v→kindOf x≠some .local→
  bindC kindOf (P.zip vs) m x=some v
 | [],_,_,_,_,h,_,_=>by simp at h
 |_ :: _, [],_,_,_,_,h,_=>by simp at h
 |p :: P,w :: vs,0,m,nd,h1,h2,hk=>by
  simp at h1 h2;subst h1;subst h2
  show bindC kindOf ((p,w) :: P.zip vs) m p=_
  unfold bindC
  rw [bindC_out fun v hv=>(zX.mp nd).1 (List.of_mem_zip hv).1,if_neg hk]
  simp
 |p :: P,w :: vs,i+1,m,nd,h1,h2,hk=>by
  show bindC kindOf ((p,w) :: P.zip vs) m x=_
  unfold bindC
  exact bindC_get (i:=i) (zX.mp nd).2 (by simpa using h1) (by simpa using h2) hk
def qee (N:List Str) (vs:List V):St:=vs.map some++List.replicate (N.length - vs.length) none
def cxOf (CX:CXT) (P:Program) (w:World) (K:Frag) (mg:Str→Option Value) (base:Heap) (N:List Str) (qual:Str) (scope:Scope) (f:Addr) (cd:Value) (A:Around) (outer:List Env) (s:Shared) (H:Hp) (E:XK):Cx where
 prog:=P
 w:=w
 K:=K
 mg:=mg
 base:=base
 A:=A.deeper (envOfC qual scope s.heap.objs.size f cd)
 N:=N
 s₀:=s
 H₀:=H
 env:=envOfC qual scope s.heap.objs.size f cd
 outer:=outer
 stack:=envOfC qual scope s.heap.objs.size f cd :: outer
 ex:=[]
 calm:=true
 fn:=fun _=>true
 pn:=[]
 xe:=fun e s'=>wpAny (model P w) (A.deeper (envOfC qual scope s.heap.objs.size f cd)) (leaving (envOfC qual scope s.heap.objs.size f cd) e) (fun _ s''=>CX outer H s E e s'') (fun e' s''=>CX outer H s E e' s'') s'
theorem cell_has {sc:Scope} {n:Nat} {x:Str} (h:sc.names.lookup x=some .cell):∃c,(cellsFrom n sc.names []).lookup x=some c:=by
 have q:=PySem.W.cellsFrom_some sc.names n [] (.inl h)
 exact Option.isSome_iff_exists.mp q
theorem inv_start {CX:CXT} {P:Program} {w:World} {K:Frag} {mg:Str→Option Value} {base:Heap} {N ps:List Str} {qual:Str} {scope:Scope} {f:Addr} {cd:Value} {A:Around} {outer:List Env} {s s1:Shared} {H:Hp} {E:XK} {us:List Value} {vs:List V}
  (S:FnScope N ps scope) (hd:A.handled=none) (e0:Env0 P w K mg base A outer s H) (hl:vs.length=ps.length) (r:qb9 vs us)
  (x:InCallC s s.heap.objs.size (bindL (envOfC qual scope s.heap.objs.size f cd).kindOf (ps.zip us) fun _=>none) (cellsFrom (s.heap.objs.size+1) scope.names []) (bindC (envOfC qual scope s.heap.objs.size f cd).kindOf (ps.zip us) fun _=>none) s1):
  Inv (cxOf CX P w K mg base N qual scope f cd A outer s H E) [] (qee N vs) H s1:=by
 have hpl:ps.length≤N.length:=by have:=congrArg List.length S.pre;rw [zT] at this;omega
 obtain⟨h1,tk,rfl,hk⟩:=x.done
 have noA:∀b:Addr,b∉(cxOf CX P w K mg base N qual scope f cd A outer s H E).ex:=fun b z=>absurd (show b∈([]:List Addr) from z) (by simp)
 refine⟨⟨e0.mod,S.kind,rfl,rfl,Nat.le_refl _,fun y z c h1 h2=>?_,fun y hy=>?_,fun y c _ h=>?_,fun _=>hd,Around.frames_deeper e0.frames,.inr ⟨rfl,rfl⟩,fun b z=>absurd z (noA b),e0.bs,e0.bsz,fun b _ _=>noA b,fun b z=>absurd z (noA b),e0.funs,e0.frf⟩,
  rfl,e0.bare,Un.kept hk,⟨_,x.toInCall.ns,fun i y v h1 h2 h3=>?_⟩,fun y c h=>⟨_,x.cell y c h⟩,e0.hok.fresh (Nat.le_refl _),fun y c h=>?_,fun p hp=>absurd (show p∈([]:List (Addr × Obj)) from hp) (by simp),e0.hok.kept hk,?_⟩
 ·exact name_of_addr x.apart (PySem.mem_of_lookup h1) (PySem.mem_of_lookup h2)
 ·have hy:scope.names.lookup y=some .cell∨scope.names.lookup y=some .free:=hy
  rcases hy with hy|hy
  ·exact cell_has hy
  ·exact absurd rfl (S.nofree _ (PySem.mem_of_lookup hy))
 ·exact Nat.le_of_lt (x.above y c (PySem.mem_of_lookup h))
 ·have hi:i < vs.length:=by
   unfold qee at h2
   by_cases hi:i < vs.length
   ·exact hi
   ·rw [zW (by simpa using hi)] at h2
    rw [List.getElem?_replicate] at h2
    split at h2 <;> cases h2
  have ha:vs[i]?=some v:=by
   unfold qee at h2
   rw [yB (by simpa using hi),zC] at h2
   cases e:vs[i]? with
   |none=>rw [e] at h2;cases h2
   |some a=>rw [e] at h2;cases h2;rfl
  obtain⟨u,hu,rv⟩:=r.get ha
  have hp:ps[i]?=some y:=by
   rw [←S.pre,List.getElem?_take_of_lt (by omega)];exact h1
  have ndP:ps.Nodup:=by rw [←S.pre];exact S.nd.sublist (List.take_sublist _ _)
  refine⟨u,rv,?_⟩
  rcases S.par y (zD hp) with k|k
  ·exact .inl ⟨k,bindL_get ndP hp hu k⟩
  ·obtain⟨c,e⟩:=cell_has (n:=s.heap.objs.size+1) k
   refine .inr ⟨.inl k,c,e,?_⟩
   have q:=x.cell y c e
   rw [bindC_get ndP hp hu (by show scope.names.lookup y≠_;rw [k];decide)] at q
   exact q
 ·exact e0.hok.fresh (Nat.le_of_lt (x.above y c (PySem.mem_of_lookup h)))
 ·unfold qee
  show _=N.length
  rw [zG,zB,List.length_replicate]
  omega
theorem fn_of {CX:CXT} {P:Program} {w:World} {K:Frag} {mg:Str→Option Value} {base:Heap} {k:Nat} {f:Addr} {name qual:Str} {params:Arguments} {body:List Stmt} {scope:Scope} {dV kV doc pm cdv ct oc:Value} {an od:Option Addr}
  {osl:Array (Option Value)} {N ps:List Str} {sp:Sp} (lk:K.lookup f=some ⟨oc,od,.func (fnOf name qual params body scope dV kV doc pm an cdv ct),osl⟩) (hcd:codeIn K cdv qual=true) (S:FnScope N ps scope)
  (len:∀vs H Q E,sp vs H Q E→vs.length=ps.length)
  (hbody:∀(A:Around) (outer:List Env) (s:Shared) (H:Hp) (vs:List V) (Q:VK) (E:XK),Room k (A.deeper (envOfC qual scope s.heap.objs.size f cdv))→sp vs H Q E→
   ∃t,PSs (cxOf CX P w K mg base N qual scope f cdv A outer s H E) body t∧t {nx:=fun _ H'=>Q .non H',rt:=Q} (qee N vs) H):
  FnOk P w K mg base CX (k+1) f (fnOf name qual params body scope dV kV doc pm an cdv ct) ps sp:=by
 refine⟨len,fun A outer s H args us vs Q E hr e0 hb r hsp=>?_⟩
 have hl:=len _ _ _ _ hsp
 have KX:K.In s.heap:=e0.mod.kin.keeps fun b o e=>(e0.bs b o e).1
 have lim:s.heap.NoLimit:=e0.mod.nolimit.keeps fun b o e=>(e0.bs b o e).1
 have hkind:∀y∈ps.zip us,scope.names.lookup y.1=some .local∨(scope.names.lookup y.1=some .cell∧((cellsFrom (s.heap.objs.size+1) scope.names []).lookup y.1).isSome=true):=fun⟨n,v⟩ hy=>by
  rcases S.par n (List.of_mem_zip hy).1 with q|q
  ·exact .inl q
  ·exact .inr ⟨q,PySem.W.cellsFrom_some _ _ _ (.inl q)⟩
 refine codeAny_call_function hr.depth (KX _ _ lk) rfl S.co S.gen rfl (PySem.W.codeRec_of KX hcd) (hb _ _ _ _ ?_)
 refine wpAny_newFunctionEnv_cells S.kind hkind fun env he s1 x=>?_
 subst he
 refine⟨lim.keeps x.toInCall.keep,codeAny_func ?_⟩
 obtain⟨t,ht,hq⟩:=hbody A outer s H vs Q E (hr.deeper _) hsp
 have I:Inv (cxOf CX P w K mg base N qual scope f cdv A outer s H E) [] (qee N vs) H s1:=inv_start S hr.hd e0 hl r x
 refine wpAny_mono (ht [] s1 (qee N vs) H _ I hq) (fun fl s' hs=>?_) fun e s' hs=>hs
 have fin:∀{σ':St} {H':Hp} {v:V} {u:Value},Inv (cxOf CX P w K mg base N qual scope f cdv A outer s H E) [] σ' H' s'→qba v u→Q v H'→CE outer P w H s Q u s':=
  fun {σ' H' v u} J rv q=>⟨v,H',J.os,J.bare,J.base,J.hok,rv,q⟩
 cases fl with
 |ret u=>
  obtain⟨v,σ',H',J,rv,q⟩:=hs
  exact fin J rv q
 |next=>
  obtain⟨σ',H',J,q⟩:=hs
  exact fin (v:=V.non) (u:=Value.none) J rfl q
 |brk=>
  obtain⟨_,_,_,q⟩:=hs
  exact False.elim q
 |cont=>
  obtain⟨_,_,_,q⟩:=hs
  exact False.elim q
section
variable {X : Cx} {x : Str} {p pos : Pos} {e : Expr} {es : List Expr} {t : TA} {id T : String} {r : List V → Hp → VK → Prop}
def tCB (r:List V→Hp→VK→Prop) (t:TA):TE:=fun σ H Q=>t σ H fun vs H1=>r vs H1 Q
theorem qae (hc:qcd X (.builtin id) r) (hg:Gl X x) (hm:X.mg x=none) (hv:bootBuiltins x=some (.builtin id)) (ha:PA X (e :: es) t) (hn:x≠"__name__":=by decide) (hdb:(x==("__debug__" :Str))=false:=by decide)
  (he:starEach (e :: es) X.env=(false,eval e X.env) :: starEach es X.env:=by rfl) (hpl:(backTo pos (starEach es X.env)).any (·.1)=false:=by rfl):PE X (.Call (.Name x p) (e :: es) [] pos) (tCB r t):=by
 intro pins s σ H Q I h
 refine wpAny_Call_Name_kw (qe2 I hg hm hv ?_ hn hdb)
 exact PyProof.Rows.callWith_builtin1 (thn (ha pos pins s σ H _ I h) fun us s1 ⟨vs,H1,I1,r1,q1⟩=>hc pins s1 σ H1 vs us Q I1 r1 q1) he hpl
theorem qc2 (hc:qcd X (.type T) r) (hg:Gl X x) (hm:X.mg x=none) (hv:bootBuiltins x=some (.type T)) (ha:PA X (e :: es) t) (hn:x≠"__name__":=by decide) (hdb:(x==("__debug__" :Str))=false:=by decide)
  (he:starEach (e :: es) X.env=(false,eval e X.env) :: starEach es X.env:=by rfl) (hpl:(backTo pos (starEach es X.env)).any (·.1)=false:=by rfl):PE X (.Call (.Name x p) (e :: es) [] pos) (tCB r t):=by
 intro pins s σ H Q I h
 refine wpAny_Call_Name_kw (qe2 I hg hm hv ?_ hn hdb)
 exact PyProof.Rows.callWith_type1 (thn (ha pos pins s σ H _ I h) fun us s1 ⟨vs,H1,I1,r1,q1⟩=>hc pins s1 σ H1 vs us Q I1 r1 q1) he hpl
end
end L2
namespace HT
open PySem PyProof.Rows
section
open PySem.SeqAt
open PySem.AutoSeq1 (wpAny_loadPart')
open PySem.MeetsSeq PySem.MeetsSeq2 PySem.MeetsSeq3
end
section
variable {prog : Program} {w : World} {A : Around} {E : Value → Shared → Prop} {s : Shared}
def sIx (n d:Nat):Option Int→Nat
 |none=>d
 |some v=>if v < 0 then (v+(n:Int)).toNat else min v.toNat n
end
end HT
namespace L2
open PySem PySem.Spec PyProof.Rows
abbrev TO:=St→Hp→(Option Int→Hp→Prop)→Prop
def PO (X:Cx) (e:Option Expr) (t:TO):Prop:=
 ∀(pins:List (Addr × Obj)) (s:Shared) (σ:St) (H:Hp) (Q:Option Int→Hp→Prop),Inv X pins σ H s→t σ H Q→
  wpAny (model X.prog X.w) X.A (evalPart e X.env) (fun u s'=>∃o H',Inv X pins σ H' s'∧IsPart u o∧Q o H') X.xe s
def tNoPart:TO:=fun _ H Q=>Q none H
def tPart (t:TE):TO:=fun σ H Q=>t σ H fun x H1=>∃i,x=.int i∧Q (some i) H1
section
variable {X : Cx} {e : Expr} {te : TE} {lo hi : Option Expr} {tl th : TO} {pos p2 : Pos}
theorem qd0:PO X none tNoPart:=by
 intro pins s σ H Q I h
 rw [evalPart_none]
 exact wpAny_pure ⟨none,H,I,.none,h⟩
theorem qcz (h:PE X e te):PO X (some e) (tPart te):=by
 intro pins s σ H Q I hw
 rw [evalPart_some]
 refine thn (h pins s σ H _ I hw) fun u s1 ⟨x,H1,I1,r1,q1⟩=>?_
 obtain⟨i,rfl,q⟩:=q1
 obtain⟨t,rfl⟩:=r1
 exact⟨some i,H1,I1,.int i t,q⟩
def SlR (X:Cx) (r:V→Option Int→Option Int→Hp→VK→Prop):Prop:=
 ∀(pins:List (Addr × Obj)) (s:Shared) (σ:St) (H:Hp) (x:V) (v vl vu:Value) (lo hi:Option Int) (sl:Addr) (Q:VK),Inv X pins σ H s→qba x v→s.heap.IsSliceOf sl vl vu .none→IsPart vl lo→IsPart vu hi→r x lo hi H Q→
  ∃T id,typeLookup (.type T) "__getitem__" =pure (some (.builtin id))∧s.TypeIs v T∧wpAny (model X.prog X.w) X.A (getItem v (.ref sl)) (EP X pins σ Q) X.xe s
def tSl (r:V→Option Int→Option Int→Hp→VK→Prop) (te:TE) (tl th:TO):TE:=fun σ H Q=>te σ H fun x H1=>tl σ H1 fun l H2=>th σ H2 fun u H3=>r x l u H3 Q
theorem qca {r:V→Option Int→Option Int→Hp→VK→Prop} (hr:SlR X r) (he:PE X e te) (hl:PO X lo tl) (hu:PO X hi th):PE X (.Subscript e (.Slice lo hi none p2) pos) (tSl r te tl th):=by
 intro pins s σ H Q I h
 refine Subscript_ (thn (he pins s σ H _ I h) fun v s1 ⟨x,H1,I1,r1,q1⟩=>?_)
 refine wpAny_Slice (thn (hl pins s1 σ H1 _ I1 q1) fun vl s2 ⟨l,H2,I2,pl,q2⟩=>thn (hu pins s2 σ H2 _ I2 q2) fun vu s3 ⟨u,H3,I3,pu,q3⟩=>?_)
 rw [evalPart_none]
 refine wpAny_pure ?_
 have I4:Inv X pins σ H3 {s3 with heap:=s3.heap.push {cls:=.type "slice",data:=.fields #[vl,vu,.none]}}:=I3.kept (t':=s3.toks) fun b ob q=>Heap.get?_push_of_some _ q
 obtain⟨T,id,hT,ht,hg⟩:=hr pins {s3 with heap:=s3.heap.push {cls:=.type "slice",data:=.fields #[vl,vu,.none]}} σ H3 x v vl vu l u s3.heap.objs.size Q I4 r1 (Heap.IsSliceOf.new ..) pl pu q3
 show wpAny (model X.prog X.w) X.A (subscriptTail e (.Slice lo hi none p2) v (.ref s3.heap.objs.size)) (EP X pins σ Q) X.xe {s3 with heap:=s3.heap.push {cls:=.type "slice",data:=.fields #[vl,vu,.none]}}
 exact tail_any (ops:=[.ref s3.heap.objs.size,v]) ht hT hg (by with_unfolding_all rfl)
def cutV (xs:List V) (lo hi:Option Int):List V:=(xs.drop (HT.sIx xs.length 0 lo)).take (HT.sIx xs.length xs.length hi - HT.sIx xs.length 0 lo)
theorem qez (xs:List V) (lo hi:Option Int):(cutV xs lo hi).length≤xs.length:=by
 unfold cutV
 rw [zT,List.length_drop]
 omega
end
def ixN (n:Nat) (i:Int):Option Nat:=if 0≤i then (if i < n then some i.toNat else none) else if -(n:Int)≤i then some (i+n).toNat else none
def atI {α:Type} (xs:List α) (i:Int):Option α:=(ixN xs.length i).bind fun j=>xs[j]?
theorem ixN_seq {n:Nat} {i:Int} {j:Nat} (h:ixN n i=some j):seqIndex? i n=some j∧j < n∧-(n:Int)≤i∧i < n:=by
 unfold ixN at h
 by_cases h0:0≤i
 ·rw [if_pos h0] at h
  by_cases h1:i < n
  ·rw [if_pos h1] at h
   have e:i.toNat=j:=Option.some.inj h
   exact⟨by rw [seqIndex_of h0 h1,e],by omega,by omega,h1⟩
  ·rw [if_neg h1] at h;cases h
 ·rw [if_neg h0] at h
  by_cases h1: -(n:Int)≤i
  ·rw [if_pos h1] at h
   have e:(i+n).toNat=j:=Option.some.inj h
   exact⟨by rw [seqIndex_neg (by omega) h1,e],by omega,h1,by omega⟩
  ·rw [if_neg h1] at h;cases h
theorem atI_get {α:Type} {xs:List α} {i:Int} {v:α} (h:atI xs i=some v):∃j,seqIndex? i xs.length=some j∧xs[j]?=some v∧j < xs.length∧-(xs.length:Int)≤i∧i < xs.length:=by
 unfold atI at h
 cases e:ixN xs.length i with
 |none=>rw [e] at h;cases h
 |some j=>
  rw [e] at h
  obtain⟨h1,h2,h3,h4⟩:=ixN_seq e
  exact⟨j,h1,h,h2,h3,h4⟩
theorem qar {α:Type} {xs:List α} {j:Nat} {v:α} (h:xs[j]?=some v):atI xs (j:Int)=some v:=by
 have hj:j < xs.length:=(List.getElem?_eq_some_iff.mp h).1
 have e:ixN xs.length (j:Int)=some j:=by
  unfold ixN
  rw [if_pos (by omega),if_pos (by omega)];simp
 unfold atI;rw [e];exact h
def PlainIx (b:Expr):Prop:=∀o i,subscripted b false o i=operate [o,i] (getItem o i)
def IxR (X:Cx) (r:R2):Prop:=
 ∀(value slice:Expr) (pins:List (Addr × Obj)) (s:Shared) (σ:St) (H:Hp) (x y:V) (v u:Value) (Q:VK),Inv X pins σ H s→qba x v→qba y u→r x y H Q→
  subscripted slice false v u=operate [v,u] (getItem v u)→wpAny (model X.prog X.w) X.A (subscriptTail value slice v u) (EP X pins σ Q) X.xe s
def MtR (X:Cx) (id:String) (r:V→List V→Hp→VK→Prop):Prop:=
 ∀(pins:List (Addr × Obj)) (s:Shared) (σ:St) (H:Hp) (x:V) (xs:List V) (v:Value) (us:List Value) (Q:VK),Inv X pins σ H s→qba x v→qb9 xs us→r x xs H Q→
  wpAny (model X.prog X.w) X.A (call (.builtin id) (v :: us)) (EP X pins σ Q) X.xe s
section
variable {X : Cx} {a b : Expr} {ta tb : TE} {pos : Pos}
theorem qal {r:R2} (hr:IxR X r) (ha:PE X a ta) (hb:PE X b tb) (hs:PlainIx b):PE X (.Subscript a b pos) (tOp r ta tb):=by
 intro pins s σ H Q I h
 exact Subscript_ (binT ha hb I h fun v u s2 x y H2 I2 rx ry q=>hr a b pins s2 σ H2 x y v u Q I2 rx ry q (hs _ _))
def rIxL (K:Frag):R2:=fun x y H Q=>∃p xs i v,x=.ref p∧y=.int i∧SqL K H p xs∧atI xs i=some v∧Q v H
def rIxT (K:Frag):R2:=fun x y H Q=>∃p xs i v,x=.ref p∧y=.int i∧SqT K H p xs∧atI xs i=some v∧Q v H
def rIxS:R2:=fun x y H Q=>∃z i c,x=.str z∧y=.int i∧z.length≤sizeLine∧atI z.cps.toList i=some c∧Q (.str ⟨#[c]⟩) H
theorem qai:IxR X (rIxL X.K):=by
 intro value slice pins s σ H x y v u Q I rx ry h hs
 obtain⟨p,xs,i,z,rfl,rfl,hq,he,q⟩:=h
 cases rx
 obtain⟨t,rfl⟩:=ry
 obtain⟨its,r,pl,hz⟩:=I.list hq
 obtain⟨j,h1,h2,h3,h4,h5⟩:=atI_get he
 obtain⟨w,ew,rw'⟩:=r.get h2
 have hl:=r.length
 have hn:=line63
 have fin:EP X pins σ Q w s:=⟨z,H,I,rw',q⟩
 by_cases h0:0≤i
 ·have hj:i.toNat=j:=by
   rw [seqIndex_of h0 h5] at h1
   exact Option.some.inj h1
  exact item_listR pl.isList h0 (by omega) (by rw [hj];simpa using ew) fin hs
 ·have hj:(i+(its.toArray.size:Int)).toNat=j:=by
   rw [seqIndex_neg (by omega) h4] at h1
   rw [zP,←hl]
   exact Option.some.inj h1
  exact subscriptTail_builtinR (x:=w) pl.isList.typeIs slot_list_getitem.lookup
   (wpAny_getItem_list_neg (Q:=fun r s'=>r=w∧EP X pins σ Q r s') pl.isList (by omega) (by rw [zP] <;> omega) (by omega) (by rw [hj];simpa using ew) ⟨rfl,fin⟩) hs
theorem qb4:IxR X (rIxT X.K):=by
 intro value slice pins s σ H x y v u Q I rx ry h hs
 obtain⟨p,xs,i,z,rfl,rfl,hq,he,q⟩:=h
 cases rx
 obtain⟨t,rfl⟩:=ry
 obtain⟨its,r,pl,hz⟩:=I.tuple hq
 obtain⟨j,h1,h2,h3,h4,h5⟩:=atI_get he
 obtain⟨w,ew,rw'⟩:=r.get h2
 have hl:=r.length
 have hn:=line63
 have fin:EP X pins σ Q w s:=⟨z,H,I,rw',q⟩
 exact subscriptTail_builtinR (x:=w) pl.typeIs slot_tuple_getitem.lookup
  (getItem_tuple (j:=j) (Q:=fun r s'=>r=w∧EP X pins σ Q r s') pl (by omega) (by omega) (by rw [zP,←hl];exact h1) (by simpa using ew) ⟨rfl,fin⟩) hs
theorem ix_str:IxR X rIxS:=by
 intro value slice pins s σ H x y v u Q I rx ry h hs
 obtain⟨z,i,c,rfl,rfl,hz,he,q⟩:=h
 obtain⟨t,rfl⟩:=rx
 obtain⟨t',rfl⟩:=ry
 obtain⟨j,h1,h2,h3,h4,h5⟩:=atI_get he
 have hl:z.cps.toList.length=z.length:=by simp [Str.length]
 rw [hl] at h1 h4 h5
 have hn:=line63
 exact tail_any (typeIs_str s z t) slot_str_getitem.lookup (getItem_str (c:=c) (by
  have e1:decide (i < -(2^63:Int))=false:=decide_eq_false (by omega)
  have e2:decide (i≥2^63)=false:=decide_eq_false (by omega)
  rw [e1,e2,Bool.or_false]) (by rw [h1];simpa using h2) ⟨.str ⟨#[c]⟩,H,I.tok _,⟨_,rfl⟩,q⟩) hs
theorem slice_bounds (lo hi:Option Int) (n:Nat):(sliceBounds lo hi none n).1=((HT.sIx n 0 lo:Nat):Int)∧(sliceBounds lo hi none n).2.1=((HT.sIx n n hi:Nat):Int)∧(sliceBounds lo hi none n).2.2=1:=by
 refine⟨?_,?_,rfl⟩
 ·cases lo with
  |none=>simp [sliceBounds,HT.sIx]
  |some i=>
   simp only [sliceBounds,HT.sIx,Option.getD_none,show (1:Int) > 0 by decide,if_true]
   by_cases h:i < 0
   ·simp only [h,if_true] <;> omega
   ·simp only [h,if_false] <;> omega
 ·cases hi with
  |none=>simp [sliceBounds,HT.sIx]
  |some i=>
   simp only [sliceBounds,HT.sIx,Option.getD_none,show (1:Int) > 0 by decide,if_true]
   by_cases h:i < 0
   ·simp only [h,if_true] <;> omega
   ·simp only [h,if_false] <;> omega
theorem qfv (its:List Value) (lo hi:Option Int):slicePick its.toArray lo hi none=((its.drop (HT.sIx its.length 0 lo)).take (HT.sIx its.length its.length hi - HT.sIx its.length 0 lo)).toArray:=by
 obtain⟨h1,h2,h3⟩:=slice_bounds lo hi its.toArray.size
 unfold slicePick
 rw [h1,h2,h3]
 simp only [sliceRange_one,pick_run,zP] <;> rfl
def rSlL (K:Frag):V→Option Int→Option Int→Hp→VK→Prop:=fun x lo hi H Q=>∃a xs,x=.ref a∧SqL K H a xs∧∀p,H p=none→Q (.ref p) (upd H p (.lst (cutV xs lo hi)))
theorem qcx:SlR X (rSlL X.K):=by
 intro pins s σ H x v vl vu lo hi sl Q I rx hs pl pu h
 obtain⟨a,xs,rfl,hx,q⟩:=h
 cases rx
 obtain⟨its,r,ht,hz⟩:=I.list hx
 have hlen:=r.length
 refine⟨"list",_,slot_list_getitem.lookup,ht.isList.typeIs,?_⟩
 refine wpAny_getItem_list_slice ht.isList hs pl pu .none (by simp) ?_ (by rw [zP] <;> omega)
 rw [qfv,←hlen]
 refine⟨.ref s.heap.objs.size,_,I.laid (t':=s.toks) (o:=.lst (cutV xs lo hi)) (fun b ob q=>Heap.get?_push_of_some _ q) (Nat.le_refl _) ?_,rfl,q _ (I.hok.fresh (Nat.le_refl _))⟩
 exact⟨Nat.le_trans (qez xs lo hi) hz,_,0,(r.drop (HT.sIx xs.length 0 lo)).take (HT.sIx xs.length xs.length hi - HT.sIx xs.length 0 lo),Heap.get?_push_size _ rfl⟩
def qdn:V→Bool
 | .non=>true
 | .bl _=>true
 | .int _=>true
 | .str _=>true
 |_=>false
def eqV:V→V→Bool
 | .non,.non=>true
 | .bl a,.bl b=>a==b
 | .bl a,.int b=>(if a then 1 else 0)==b
 | .int a,.bl b=>a==(if b then 1 else 0)
 | .int a,.int b=>a==b
 | .str a,.str b=>a==b
 |_,_=>false
theorem eqAt_V {A:Around} {s:Shared} {y x:V} {u v:Value} (ry:qba y u) (rx:qba x v) (fy:qdn y=true) (fx:qdn x=true):SeqAt.EqAt A s u v (eqV y x):=by
 cases y with
 |non=>
  cases ry
  cases x with
  |non=>cases rx;exact SeqAt.EqAt.same _
  |bl b=>cases rx;exact SeqAt.EqAt.none_bool b
  |int b=>obtain⟨t,rfl⟩:=rx;exact SeqAt.EqAt.none_int b t
  |str b=>obtain⟨t,rfl⟩:=rx;exact SeqAt.EqAt.none_str b t
  |_=>exact absurd (show false=true from fx) Bool.false_ne_true
 |bl a=>
  cases ry
  cases x with
  |non=>cases rx;exact SeqAt.EqAt.bool_none a
  |bl b=>cases rx;exact SeqAt.EqAt.bool_bool a b
  |int b=>obtain⟨t,rfl⟩:=rx;exact SeqAt.EqAt.bool_int a b t
  |str b=>obtain⟨t,rfl⟩:=rx;exact SeqAt.EqAt.bool_str a b t
  |_=>exact absurd (show false=true from fx) Bool.false_ne_true
 |int a=>
  obtain⟨t',rfl⟩:=ry
  cases x with
  |non=>cases rx;exact SeqAt.EqAt.int_none a t'
  |bl b=>cases rx;exact SeqAt.EqAt.int_bool a t' b
  |int b=>obtain⟨t,rfl⟩:=rx;exact SeqAt.EqAt.int_int a t' b t
  |str b=>obtain⟨t,rfl⟩:=rx;exact SeqAt.EqAt.int_str a t' b t
  |_=>exact absurd (show false=true from fx) Bool.false_ne_true
 |str a=>
  obtain⟨t',rfl⟩:=ry
  cases x with
  |non=>cases rx;exact SeqAt.EqAt.str_none a t'
  |bl b=>cases rx;exact SeqAt.EqAt.str_bool a t' b
  |int b=>obtain⟨t,rfl⟩:=rx;exact SeqAt.EqAt.str_int a t' b t
  |str b=>obtain⟨t,rfl⟩:=rx;exact SeqAt.EqAt.str_str a t' b t
  |_=>exact absurd (show false=true from fx) Bool.false_ne_true
 |_=>exact absurd (show false=true from fy) Bool.false_ne_true
def eqU (x:V) (u:Value):Bool:=match u with
 | .none=>eqV .non x
 | .bool b=>eqV (.bl b) x
 | .int i _=>eqV (.int i) x
 | .str z _=>eqV (.str z) x
 |_=>false
theorem eqU_of {x y:V} {u:Value} (r:qba y u) (f:qdn y=true):eqU x u=eqV y x:=by
 cases y with
 |non=>cases r;rfl
 |bl b=>cases r;rfl
 |int i=>obtain⟨t,rfl⟩:=r;rfl
 |str z=>obtain⟨t,rfl⟩:=r;rfl
 |_=>exact absurd (show false=true from f) Bool.false_ne_true
theorem qf3 {x:V}:∀{xs:List V} {us:List Value},qb9 xs us→xs.all qdn=true→us.any (eqU x)=xs.any fun y=>eqV y x
 |_,_,.nil,_=>rfl
 |y :: xs,u :: us,.cons r t,f=>by
  rw [yX,Bool.and_eq_true] at f
  rw [yW,yW,eqU_of r f.1,qf3 t f.2]
theorem qe0 {A:Around} {s:Shared} {x:V} {v:Value} (rx:qba x v) (fx:qdn x=true):∀{xs:List V} {us:List Value},qb9 xs us→xs.all qdn=true→∀u∈us,SeqAt.EqAt A s u v (eqU x u)
 |_,_,.nil,_=>fun u hu=>by cases hu
 |y :: xs,u :: us,.cons r t,f=>fun u' hu=>by
  rw [yX,Bool.and_eq_true] at f
  rcases zR.mp hu with rfl|hu
  ·rw [eqU_of r f.1];exact eqAt_V r rx f.1 fx
  ·exact qe0 rx fx t f.2 u' hu
def inV (x:V) (xs:List V):Bool:=xs.any fun y=>eqV y x
def rIn (K:Frag) (neg:Bool):R2:=fun x y H Q=>∃p xs,y=.ref p∧(SqL K H p xs∨SqT K H p xs)∧qdn x=true∧xs.all qdn=true∧Q (.bl (if neg then !inV x xs else inV x xs)) H
theorem qdc:OpR X (compareOp .In) (rIn X.K false):=by
 intro pins s σ H x y v u Q I rx ry h
 obtain⟨p,xs,rfl,hq,fx,fs,q⟩:=h
 cases ry
 rcases hq with hq|hq
 ·obtain⟨its,r,pl,hz⟩:=I.list hq
  refine SeqAt.in_listAt (eqU x) pl.isList (fun w hw=>qe0 rx fx r fs w (by simpa using hw)) ⟨.bl _,H,I,rfl,?_⟩
  rw [show its.toArray.any (eqU x)=its.any (eqU x) by simp,qf3 r fs]
  exact q
 ·obtain⟨its,r,pl,hz⟩:=I.tuple hq
  refine SeqAt.in_tupleAt (eqU x) pl (fun w hw=>qe0 rx fx r fs w (by simpa using hw)) ⟨.bl _,H,I,rfl,?_⟩
  rw [show its.toArray.any (eqU x)=its.any (eqU x) by simp,qf3 r fs]
  exact q
theorem qcl:OpR X (compareOp .NotIn) (rIn X.K true):=by
 intro pins s σ H x y v u Q I rx ry h
 obtain⟨p,xs,rfl,hq,fx,fs,q⟩:=h
 cases ry
 rcases hq with hq|hq
 ·obtain⟨its,r,pl,hz⟩:=I.list hq
  refine SeqAt.notIn_listAt (eqU x) pl.isList (fun w hw=>qe0 rx fx r fs w (by simpa using hw)) ⟨.bl _,H,I,rfl,?_⟩
  rw [show its.toArray.any (eqU x)=its.any (eqU x) by simp,qf3 r fs]
  exact q
 ·obtain⟨its,r,pl,hz⟩:=I.tuple hq
  refine SeqAt.notIn_tupleAt (eqU x) pl (fun w hw=>qe0 rx fx r fs w (by simpa using hw)) ⟨.bl _,H,I,rfl,?_⟩
  rw [show its.toArray.any (eqU x)=its.any (eqU x) by simp,qf3 r fs]
  exact q
theorem call_len_seq:qcd X (.builtin "len") (fun xs H Q=>∃p ys,xs=[.ref p]∧(SqL X.K H p ys∨SqT X.K H p ys)∧Q (.int ys.length) H):=by
 intro pins s σ H xs us Q I r h
 obtain⟨p,ys,rfl,hq,q⟩:=h
 obtain⟨u,rfl,rx⟩:=vals1 r
 cases rx
 have hn:=line63
 rcases hq with hq|hq
 ·obtain⟨its,r',pl,hz⟩:=I.list hq
  have hlen:=r'.length
  exact Calls.call_len_list pl.isList (by simp only [zP] <;> omega) ⟨.int ys.length,H,I.tok _,⟨s.toks+1,by rw [zP,hlen]⟩,q⟩
 ·obtain⟨its,r',pl,hz⟩:=I.tuple hq
  have hlen:=r'.length
  exact len_tuple pl (by simp only [zP] <;> omega) ⟨.int ys.length,H,I.tok _,⟨s.toks+1,by rw [zP,hlen]⟩,q⟩
theorem call_len_str:qcd X (.builtin "len") (fun xs H Q=>∃z,xs=[.str z]∧z.length≤sizeLine∧Q (.int z.length) H):=by
 intro pins s σ H xs us Q I r h
 obtain⟨z,rfl,hz,q⟩:=h
 obtain⟨u,rfl,t,rfl⟩:=vals1 r
 have hn:=line63
 exact len_str (by omega) ⟨.int z.length,H,I.tok _,⟨_,rfl⟩,q⟩
theorem call_list_of:qcd X (.type "list") (fun xs H Q=>∃p ys,xs=[.ref p]∧(SqL X.K H p ys∨SqT X.K H p ys)∧∀l,H l=none→Q (.ref l) (upd H l (.lst ys))):=by
 intro pins s σ H xs us Q I r h
 obtain⟨p,ys,rfl,hq,q⟩:=h
 obtain⟨u,rfl,rx⟩:=vals1 r
 cases rx
 have fin:∀(its:List Value),qb9 ys its→ys.length≤sizeLine→∀(h':Heap) (c':Nat),(∀b o',s.heap.get? b=some o'→h'.get? b=some o')→
   h'.get? s.heap.objs.size=some {cls:=.type "list",dict:=none,data:=.seq its.toArray c',slots:=#[]}→EP X pins σ Q (.ref s.heap.objs.size) {s with heap:=h'}:=fun its r' hz h' c' kp e=>
  ⟨.ref s.heap.objs.size,_,I.laid (t':=s.toks) kp (Nat.le_refl _) (show qbi X.prog X.w _ h' _ (.lst ys) from⟨hz,its,c',r',e⟩),rfl,q _ (I.hok.fresh (Nat.le_refl _))⟩
 rcases hq with hq|hq
 ·obtain⟨its,r',pl,hz⟩:=I.list hq
  have hlen:=r'.length
  obtain⟨o,ho,hc,n,hd⟩:=pl.isList
  exact call_list_seq p (.inl rfl) ho hc hd (fun h' c' kp e=>fin its r' hz h' c' kp e) (by simp only [zP] <;> omega)
 ·obtain⟨its,r',pl,hz⟩:=I.tuple hq
  have hlen:=r'.length
  obtain⟨o,ho,hc,n,hd⟩:=pl
  exact call_list_seq p (.inr rfl) ho hc hd (fun h' c' kp e=>fin its r' hz h' c' kp e) (by simp only [zP] <;> omega)
def tyV (K:Frag) (T:String) (x:V) (H:Hp):Prop:=match x with
 | .str _=>T= "str"
 | .int _=>T= "int"
 | .ref p=>(T= "list"∧∃xs,SqL K H p xs)∨(T= "tuple"∧∃o,K.lookup p=some o∧o.cls=.type "tuple"∧o.dict=none)∨
   (T= "dict"∧((∃kvs,H p=some (.dK kvs))∨∃kvs,H p=some (.dT kvs)))∨(T= "set"∧∃S n,H p=some (.set S n))
 |_=>False
theorem tyV_is {pins:List (Addr × Obj)} {σ:St} {H:Hp} {s:Shared} {T:String} {x:V} {v:Value} (I:Inv X pins σ H s) (r:qba x v) (ty:tyV X.K T x H):
  s.TypeIs v T∧∀a,v=.ref a→∃ob,s.heap.get? a=some ob∧ob.dict=none:=by
 cases x with
 |str z=>
  obtain⟨t,rfl⟩:=r
  cases (show T= "str" from ty)
  exact⟨typeIs_str s z t,fun _ e=>nomatch e⟩
 |int i=>
  obtain⟨t,rfl⟩:=r
  cases (show T= "int" from ty)
  exact⟨typeIs_int s i t,fun _ e=>nomatch e⟩
 |ref p=>
  cases r
  rcases ty with ⟨rfl,xs,hq⟩ |⟨rfl,o,hk,hc,hd⟩ |⟨rfl,hk⟩ |⟨rfl,S,n,hk⟩
  ·obtain⟨its,_,pl,_⟩:=I.list hq
   refine⟨pl.isList.typeIs,fun a e=>?_⟩
   cases e
   obtain⟨o,n,e,c,hd,_⟩:=pl
   exact⟨o,e,hd⟩
  ·refine⟨⟨o,I.kIn p o hk,hc⟩,fun a e=>?_⟩
   cases e
   exact⟨o,I.kIn _ o hk,hd⟩
  ·have z:∃o,s.heap.get? p=some o∧o.ExactDict:=by
    rcases hk with ⟨kvs,hk⟩ |⟨kvs,hk⟩
    ·obtain⟨_,_,_,_,o,_,_,e,ex,_⟩:=I.hok p _ hk
     exact⟨o,e,ex⟩
    ·obtain⟨_,_,_,_,o,_,_,e,ex,_⟩:=I.hok p _ hk
     exact⟨o,e,ex⟩
   obtain⟨o,e,ex⟩:=z
   refine⟨⟨o,e,ex.1⟩,fun a e2=>?_⟩
   cases e2
   exact⟨o,e,ex.2.1⟩
  ·obtain⟨o,_,_,_,e,ex,_⟩:=I.hok p _ hk
   refine⟨⟨o,e,ex.1⟩,fun a e2=>?_⟩
   cases e2
   exact⟨o,e,ex.2.1⟩
 |_=>exact False.elim ty
def tBM (K:Frag) (T:String) (r:V→List V→Hp→VK→Prop) (to:TE) (t:TA):TE:=fun σ H Q=>to σ H fun x H1=>tyV K T x H1∧t σ H1 fun xs H2=>r x xs H2 Q
variable {o e : Expr} {es : List Expr} {to : TE} {t : TA} {name : Str} {apos cpos : Pos} {T id : String} {r : V → List V → Hp → VK → Prop}
theorem qd2 (pa:PlainAttrs T) (slot:Slot T name id) (hty:typeOf (.builtin id)=pure (.type "method_descriptor")) (hm:MtR X id r) (ho:PE X o to) (ha:PA X (e :: es) t)
  (hbase:attributeBase o name X.env (eval o X.env)=eval o X.env:=by rfl)
  (hfew:((backTo cpos (starEach (e :: es) X.env)).all (fun x=>!x.1) && (backToKw cpos (keywordEach [] X.env)).all (fun x=>x.1.isSome)
   && decide ((e :: es).length+([]:List Keyword).length+(if ([]:List Keyword).isEmpty then 0 else 1) < 30))=true:=by rfl)
  (hline:(apos.endLine==cpos.line)=true:=by rfl) (hs:starEach (e :: es) X.env=(false,eval e X.env) :: starEach es X.env:=by rfl) (hplain:(backTo cpos (starEach es X.env)).any (·.1)=false:=by rfl):
  PE X (.Call (.Attribute o name apos) (e :: es) [] cpos) (tBM X.K T r to t):=by
 intro pins s σ H Q I h
 refine wpAny_Call_method_late hbase hfew hline rfl (thn (ho pins s σ H _ I h) fun v s1 ⟨x,H1,I1,r1,ty,q1⟩=>?_)
 obtain⟨h1,h2⟩:=tyV_is I1 r1 ty
 refine⟨T,id,pa,slot,hty,h1,h2,?_⟩
 have hA:=ha cpos pins s1 σ H1 _ I1 q1
 rw [hs] at hA ⊢
 refine Calls.callWith_builtin (by show (false ||(backTo cpos (starEach es X.env)).any (·.1))=false;rw [hplain] <;> rfl) (Calls.evalArgs_plain ?_)
 exact thn hA fun us s2 ⟨vs,H2,I2,r2,q2⟩=>hm pins s2 σ H2 x vs v us Q I2 r1 r2 q2
end
def MtM (X:Cx) (id:String) (r:V→List V→Hp→VK→Prop):Prop:=
 ∀(pins:List (Addr × Obj)) (s:Shared) (σ:St) (H:Hp) (x:V) (xs:List V) (v:Value) (us:List Value) (Q:VK),Inv X pins σ H s→qba x v→qb9 xs us→r x xs H Q→
  wpAny (model X.prog X.w) X.A (call (.builtin id) (v :: us)) (EP X pins σ Q) X.xe s
theorem qb9.one:∀{x:V} {us:List Value},qb9 [x] us→∃u,us=[u]∧qba x u
 |_,_,.cons r .nil=>⟨_,rfl,r⟩
theorem qb9.reverse {xs:List V} {us:List Value} (h:qb9 xs us):qb9 xs.reverse us.reverse:=by
 induction h with
 |nil=>exact .nil
 |cons r t ih=>rw [List.reverse_cons,List.reverse_cons];exact qb9.append ih (.cons r .nil)
section
variable {X : Cx} {pins : List (Addr × Obj)} {σ : St} {H : Hp} {s : Shared} {l b : Addr} {xs ys zs : List V}
theorem Inv.lset {its its':List Value} {n:Nat} {f:Array Value→Array Value} {t':Nat} (I:Inv X pins σ H s) (hH:H l=some (.lst xs))
  (e:s.heap.get? l=some {cls:=.type "list",data:=.seq its.toArray n}) (hf:f its.toArray=its'.toArray) (hv:qb9 ys its') (hz:ys.length≤sizeLine):
  Inv X pins σ (upd H l (.lst ys)) {s with heap:=s.heap.update l (Obj.mapSeq f),toks:=t'}:=by
 have q:=PySem.IsL.update e f
 rw [hf] at q
 refine I.write (x:=l) (e:=l) (by rw [hH];exact trivial) (.inl rfl) (fun b' u hb hu=>(Heap.get?_update_other s.heap (Obj.mapSeq f) (Ne.symm hb)).trans hu) ⟨_,q⟩ ?_
 exact⟨hz,its',_,hv,q⟩
theorem Inv.lnew {its:List Value} {t':Nat} (I:Inv X pins σ H s) (hv:qb9 ys its) (hz:ys.length≤sizeLine):
  Inv X pins σ (upd H s.heap.objs.size (.lst ys)) {s with heap:=s.heap.push {cls:=.type "list",data:=.seq its.toArray},toks:=t'}:=
 I.laid (fun _ _ q=>Heap.get?_push_of_some _ q) (Nat.le_refl _) ⟨hz,its,0,hv,Heap.get?_push_size _ rfl⟩
theorem Inv.lstM (I:Inv X pins σ H s) (hH:H l=some (.lst xs)):xs.length≤sizeLine∧∃(its:List Value) (n:Nat),qb9 xs its∧xs.length=its.length∧s.heap.get? l=some {cls:=.type "list",data:=.seq its.toArray n}:=by
 obtain⟨z,its,n,r,e⟩:=I.hok l _ hH
 exact⟨z,its,n,r,r.length,e⟩
theorem notLongL {n:Nat} (h:n≤sizeLine):Builtin.List.listTooLong n=false:=by
 unfold Builtin.List.listTooLong
 exact decide_eq_false (by omega)
end
section
variable {X : Cx}
def rAppend:V→List V→Hp→VK→Prop:=fun x vs H Q=>∃l xs y,x=.ref l∧vs=[y]∧H l=some (.lst xs)∧xs.length < sizeLine∧Q .non (upd H l (.lst (xs++ [y])))
theorem qat:MtM X "list.append" rAppend:=by
 intro pins s σ H x vs v us Q I rx rv h
 obtain⟨l,xs,y,rfl,rfl,hH,hz,q⟩:=h
 cases rx
 obtain⟨u,rfl,ru⟩:=rv.one
 obtain⟨z,its,n,r,hl,e⟩:=I.lstM hH
 refine call_meets F.slot_list_append ⟨_,e,rfl⟩ F.entry_list_append (F.args_list_append_2 _ _) (PySem.list_append l its.toArray n u (by rw [zP];omega)) ⟨e,?_⟩
 refine⟨.non,_,I.lset (its':=its++ [u]) hH e (by simp) (r.append (.cons ru .nil)) ?_,rfl,q⟩
 rw [zG,yA]
 omega
def rExtend:V→List V→Hp→VK→Prop:=fun x vs H Q=>∃l b xs zs,x=.ref l∧vs=[.ref b]∧H l=some (.lst xs)∧H b=some (.lst zs)∧xs.length+zs.length≤sizeLine∧Q .non (upd H l (.lst (xs++zs)))
theorem mt_extend:MtM X "list.extend" rExtend:=by
 intro pins s σ H x vs v us Q I rx rv h
 obtain⟨l,b,xs,zs,rfl,rfl,hH,hB,hz,q⟩:=h
 cases rx
 obtain⟨u,rfl,ru⟩:=rv.one
 cases ru
 obtain⟨z,its,n,r,hl,e⟩:=I.lstM hH
 obtain⟨z2,its2,n2,r2,hl2,e2⟩:=I.lstM hB
 have hsz:its.toArray.size+its2.toArray.size≤sizeLine:=by rw [zP,zP];omega
 have hlong:¬(!its.toArray.isEmpty && Builtin.List.listTooLong (its.toArray.size+its2.toArray.size))=true:=by
  rw [notLongL hsz,Bool.and_false]
  exact Bool.false_ne_true
 refine call_meets F.slot_list_extend ⟨_,e,rfl⟩ F.entry_list_extend (F.args_list_extend_2 _ _)
  (AutoSeq1.list_extend_list_list_0 l its.toArray n b its2.toArray n2 hlong (by rw [zP];omega) (by omega)) ⟨e,e2,?_⟩
 refine⟨.non,_,I.lset (its':=its++its2) hH e (by simp) (r.append r2) ?_,rfl,q⟩
 rw [zG]
 omega
def rRep:R2:=fun x y H Q=>∃l k xs,x=.ref l∧y=.int k∧H l=some (.lst xs)∧-(2^63)≤k∧k < 2^63∧xs.length*k.toNat≤sizeLine∧
 ∀p,H p=none→Q (.ref p) (upd H p (.lst (List.replicate k.toNat xs).flatten))
end
section
variable {prog : Program} {w : World} {A : Around} {E : Value → Shared → Prop} {s : Shared}
set_option maxRecDepth 100000 in
end
section
variable {X : Cx}
end
end L2
namespace Att
open PySem PySem.W PySem.Calls PyProof.Rows
theorem qew {P:Params} {h:Heap}:∀(ns:List Int) (vs:List Value),WellAll P h vs (ns.map WData.int)→IntsAre vs ns:=by
 intro ns
 induction ns with
 |nil=>
  intro vs w
  rw [List.map_nil] at w
  cases w
  exact .nil
 |cons n ns ih=>
  intro vs w
  rw [zS] at w
  cases w with
  |cons a b=>
   cases a
   exact .cons _ _ (ih _ b)
theorem script_of {l:OpenLaw} {n:Nat} (hn:l.most=some n) {P:Params} {h:Heap} {args:List WData} {vals:List Value}
  (hpre:l.row.toRowW.claim.pre args=true) (hwl:WellAll P h vals args):
  ∃a vs ns,vals=[Value.ref a]∧args=[WData.list (ns.map WData.int)]∧h.get? a=some {cls:=.type "list",data:=.seq vs.toArray}∧IntsAre vs ns∧ns.length≤n:=by
 have hsh:WShape.hasAll [] args [.list .int]=true:=(pre_splitW hpre).1
 have hc:l.pre.holds [] {args:=args}=true:=(pre_splitW hpre).2
 obtain⟨d,r,rfl,h1,h2⟩:=hasAllW_cons hsh
 obtain rfl:=hasAllW_nil h2
 obtain⟨xs,rfl,h3⟩:=hasW_list h1
 obtain⟨ns,rfl⟩:=items_int h3
 have hlen:ns.length≤n:=by
  unfold OpenLaw.pre at hc
  have h4:(WTm.not (.lt (.lit (.int (n:Int))) (.len (.arg 0)))).holds [] {args:=[.list (ns.map .int)]}=true:=by
   have h4:=(holds_andW hc).1
   rw [hn] at h4
   exact h4
  have h5:=condW_of h4 (w_not (w_lt w_lit (w_len_list (w_arg rfl))))
  rw [zB] at h5
  refine Nat.le_of_not_lt fun q=>?_
  have q':(n:Int) <((ns.length:Nat):Int):=by omega
  first
   |(rw [decide_eq_true q'] at h5;exact absurd h5 (by decide))
   |(simp at h5;omega)
 cases hwl with
 |cons w1 w2=>
  cases w2
  cases w1 with
  |list ho hall=>exact⟨_,_,ns,rfl,rfl,ho,qew ns _ hall,hlen⟩
theorem post_true (l:OpenLaw) (args:List WData):l.row.toRowW.claim.post args (.bool true) args=true:=
 postW_of (r:=l.row.toRowW) (X:=(true==true))
  (show WShape.has [] (.bool true) .bool=true by first|rfl|decide|simp [WShape.has,WShape.arms,WShape.armsAll])
  (show (WTm.eq .res (.lit (.bool true))).value [] {args:=args,res:=some (.bool true),after:=args}=some (.bool (true==true)) from w_eq_bool (w_res rfl) w_lit) rfl
theorem attach_call {l:OpenLaw} {n:Nat} {q:Program} {loose:List Str} {XP:(Str→Option Value)→Heap→Prop} {YP:World→Heap→Prop} {d:DefRec}
  (hn:l.most=some n) (hdf:d.params.defaults=[])
  (call:∀(w:World) (s₀ s₁:Shared) (mg mb:Str→Option Value) (fa:Addr) (o:Obj) (pm cd doc:Value) (a:Addr) (vs:List Value) (ns:List Int),
   Ground q loose [] XP w s₀ mg mb s₁.heap→YP w s₁.heap→
   s₁.heap.get? fa=some o→o.data=.func (docDef d.name d.params d.body d.scope pm cd doc)→s₁.heap.CodeRec cd d.name→mg d.name=some (.ref fa)→
   s₁.heap.get? a=some {cls:=.type "list",data:=.seq vs.toArray}→IntsAre vs ns→ns.length≤n→s₁.gens= #[]→
   codeAny (model l.prog w) callerA (.call (.ref fa) ⟨[.ref a], []⟩) (fun r s'=>r=.ok (.ret (.bool true))∧OldK s₁.heap s'.heap∧s'.os=s₁.os∧AllBare s'.gens) s₁):
  WalkO q loose XP YP l.row.toRowW d [] (fun f vs=>PySem.call f vs):=by
 intro w s₀ s₁ mg mb G Y fa o pm cd doc dV kV ho hd hcd hD hmg hg args vals as hpre hlay hrd hwl hlo
 obtain rfl:dV=.none:=Dflts.none hD hdf
 obtain rfl:kV=.none:=Dflts.noKw hD
 obtain⟨a,vs,ns,rfl,rfl,hobj,hints,hlen⟩:=script_of hn hpre hwl
 refine enter_call (codeAny_mono (call w s₀ s₁ mg mb fa o pm cd doc a vs ns G Y ho (fd_plain hd) hcd hmg hobj hints hlen hg) fun r s' hq=>?_)
 obtain⟨rfl,h2,h3,h4⟩:=hq
 exact⟨.inl ⟨.bool true,.bool true, [],rfl,fun _=>rfl,.bool true,post_true l _,fun _=>⟨List.Pairwise.nil,fun _ hm=>(nomatch hm)⟩⟩,h2,h3,h4⟩
section
variable {prog : Program} {w : World} {A : Around} {E : Value → Shared → Prop} {s : Shared} {K : Frag}
end
end Att
namespace L2
open PySem PySem.Spec PyProof.Rows
theorem vals_ints:∀{vs:List Value} {ns:List Int},IntsAre vs ns→qb9 (ns.map V.int) vs
 |_,_,.nil=> .nil
 |_,_,.cons n t h=> .cons ⟨t,rfl⟩ (vals_ints h)
def Only (H:Hp):Prop:=∀b,H b=none∨∃o xs,H b=some (.frz o (.lst xs))
theorem law_call {P:Program} {w:World} {K:Frag} {mg mb:Str→Option Value} {CX:CXT} {k:Nat} {fa a:Addr} {fd:FuncData} {x:Str} {sp:Sp} {s₁:Shared} {vs:List Value} {ns:List Int}
  (KX:K.In s₁.heap) (hns:s₁.heap.Ns mainGlobals mg) (hb:s₁.heap.Ns builtinsNs mb) (hbb:∀x:Str,x≠"__name__"→mb x=bootBuiltins x) (hlim:s₁.heap.NoLimit) (hg:s₁.gens= #[])
  (ha:s₁.heap.get? a=some {cls:=.type "list",data:=.seq vs.toArray}) (hi:IntsAre vs ns) (hl:ns.length≤sizeLine) (hr:Room k callerA)
  (F:∀base:Heap,K.In base→base.Ns mainGlobals mg→FnOk P w K mg base CX k fa fd [x] sp) (hbind:∀(s:Shared) (u:Value),BindsTo s fd ⟨[u], []⟩ [(x,u)])
  (hsp:∀H:Hp,Only H→SqL K H a (ns.map V.int)→sp [.ref a] H (fun v _=>v=.bl true) fun _ _ _=>False)
  (hCX:∀H e s',CX [] H s₁ (fun _ _ _=>False) e s'→False):
  codeAny (model P w) callerA (.call (.ref fa) ⟨[.ref a], []⟩) (fun r s'=>r=.ok (.ret (.bool true))∧OldK s₁.heap s'.heap∧s'.os=s₁.os∧AllBare s'.gens) s₁:=by
 have rv:=vals_ints hi
 have lenV:=hi.length
 have core:∀H:Hp,Only H→SqL K H a (ns.map V.int)→HOk P w H s₁.heap→(∀b,H b≠none→b=a)→(H a≠none→K.lookup a=none)→
   codeAny (model P w) callerA (.call (.ref fa) ⟨[.ref a], []⟩) (fun r s'=>r=.ok (.ret (.bool true))∧OldK s₁.heap s'.heap∧s'.os=s₁.os∧AllBare s'.gens) s₁:=by
  intro H hO hS hok hA hK
  have base_of:∀{b:Addr} {o:Obj},s₁.heap.get? b=some o→H b=none→(hidT s₁.heap H).get? b=some o:=fun e n=>hidT_get e n
  have noA:∀{b:Addr} {o:Obj} {es:Array DictEntry} {ep:Nat},s₁.heap.get? b=some o→o.data=.dict es ep→H b=none:=fun {b o es ep} e d=>by
   cases q:H b with
   |none=>rfl
   |some u=>
    have e':b=a:=hA b (by rw [q];simp)
    subst e'
    rw [ha] at e;cases e
    have d':Data.seq vs.toArray _=Data.dict es ep:=d
    cases d'
  have nsK:∀{b:Addr} {m:Str→Option Value},s₁.heap.Ns b m→(hidT s₁.heap H).Ns b m:=fun {b m} ⟨o,es,ep,e,d,r⟩=>⟨o,es,ep,base_of e (noA e d),d,r⟩
  have hKb:K.In (hidT s₁.heap H):=fun b o e=>base_of (KX b o e) (by
   cases q:H b with
   |none=>rfl
   |some u=>
    have e':b=a:=hA b (by rw [q];simp)
    subst e'
    rw [hK (by rw [q];simp)] at e;cases e)
  have hM:Mod K mg (hidT s₁.heap H):=⟨hKb,nsK hns,⟨mb,nsK hb,hbb⟩,let ⟨mc,h1,h2⟩:=hlim;⟨mc,nsK h1,h2⟩⟩
  have e0:Env0 P w K mg (hidT s₁.heap H) callerA [] s₁ H:=⟨rfl,hM,fun b o e=>of_hidT e,Nat.le_of_eq (hidT_size _ _),trivial,fun b hb=>absurd (show b∈([]:List Addr) from hb) (by simp),hok,.of_eq hg⟩
  refine codeAny_mono ((F _ hKb (nsK hns)).run callerA [] s₁ H ⟨[.ref a], []⟩ [.ref a] [.ref a] _ _ hr e0 (hbind s₁ (.ref a)) (.cons rfl .nil) (hsp H hO hS)) fun r s' h=>?_
  cases r with
  |error e=>exact(hCX H e s' h).elim
  |ok fl=>
   cases fl with
   |next=>exact False.elim h
   |brk=>exact False.elim h
   |cont=>exact False.elim h
   |ret u=>
    obtain⟨v,H',os,bare,un,hok',r',q⟩:=h
    have q':v=.bl true:=q
    subst q'
    obtain rfl:u=Value.bool true:=r'
    refine⟨rfl,OldK.of_keep fun b o e=>?_,os,bare⟩
    cases q:H b with
    |none=>exact un.keep b o e q (by intro z;exact absurd (show b∈([]:List Addr) from z) (by simp)) (by simp)
    |some u=>
     rcases hO b with z|⟨ob,xs,z⟩
     ·rw [q] at z;cases z
     ·have z2:=un.frzs b ob _ z
      obtain⟨e1,_⟩:=hok b _ z
      obtain⟨e2,_⟩:=hok' b _ z2
      rw [e] at e1;cases e1
      exact e2
 cases hk:K.lookup a with
 |some o=>
  have e:=KX a o hk
  rw [ha] at e
  cases e
  refine core (fun _=>none) (fun _=> .inl rfl) (.inr ⟨_,vs.toArray,_,hk,rfl,rfl,rfl,by rw [zP,lenV];exact hl,by simpa using rv⟩) (fun b u z=>by have z':(none:Option HO)=some u:=z;cases z') (fun b z=>absurd rfl z) fun z=>absurd rfl z
 |none=>
  refine core (fun b=>if b=a then some (.frz {cls:=.type "list",data:=.seq vs.toArray} (.lst (ns.map V.int))) else none) (fun b=>?_) (.inl (.inr ⟨{cls:=.type "list",data:=.seq vs.toArray},if_pos rfl⟩)) (fun b u z=>?_) (fun b z=>?_) fun _=>hk
  ·by_cases hb:b=a
   ·exact .inr ⟨_,_,if_pos hb⟩
   ·exact .inl (if_neg hb)
  ·by_cases hb:b=a
   ·have z':=(if_pos hb).symm.trans z
    cases z'
    subst hb
    exact⟨ha,by rw [zB];exact hl,vs,_,rv,ha⟩
   ·have z':=(if_neg hb).symm.trans z
    cases z'
  ·by_cases hb:b=a
   ·exact hb
   ·exact absurd (if_neg hb) z
theorem walk_of {l:PySem.W.OpenLaw} {n k:Nat} {q:Program} {loose:List Str} {XP:(Str→Option Value)→Heap→Prop} {YP:World→Heap→Prop} {d:DefRec} {K:Params→Frag} {CX:World→CXT} {sp:World→Sp} {x:Str}
  (hn:l.most=some n) (hn2:n≤sizeLine) (hdf:d.params.defaults=[]) (hr:Room k callerA)
  (hY:∀(w:World) (h:Heap),YP w h→(K w.params).In h)
  (F:∀(w:World) (mg:Str→Option Value) (fa:Addr) (h:Heap),(K w.params).In h→h.Ns mainGlobals mg→mg d.name=some (.ref fa)→
   ∃fd:FuncData,(∀(s:Shared) (u:Value),BindsTo s fd ⟨[u], []⟩ [(x,u)])∧
    ∀base:Heap,(K w.params).In base→base.Ns mainGlobals mg→FnOk l.prog w (K w.params) mg base (CX w) k fa fd [x] (sp w))
  (hsp:∀(w:World) (H:Hp) (a:Addr) (ns:List Int),ns.length≤n→Only H→SqL (K w.params) H a (ns.map V.int)→sp w [.ref a] H (fun v _=>v=.bl true) fun _ _ _=>False)
  (hCX:∀(w:World) (H:Hp) (s:Shared) (e:Value) (s':Shared),CX w [] H s (fun _ _ _=>False) e s'→False):
  PySem.W.WalkO q loose XP YP l.row.toRowW d [] (fun f vs=>PySem.call f vs):=by
 refine Att.attach_call hn hdf fun w s₀ s₁ mg mb fa o pm cd doc a vs ns G Y ho hd hcd hmg hobj hints hlen hg=>?_
 have KX:=hY w _ Y
 obtain⟨fd,hb,hF⟩:=F w mg fa _ KX G.T.g hmg
 exact law_call KX G.T.g G.T.b G.T.builtins G.T.nolimit hg hobj hints (Nat.le_trans hlen hn2) hr hF hb (fun H hO hS=>hsp w H a ns hlen hO hS) fun H e s'=>hCX w H s₁ e s'
def qcg (s:Stmt):Arguments:=match s with
 | .FunctionDef _ a _ _ _ _ _ _ _ _=>a
 |_=>{posonlyargs:=[],args:=[],vararg:=none,kwonlyargs:=[],kw_defaults:=[],kwarg:=none,defaults:=[]}
def qbt (s:Stmt):List Stmt:=match s with
 | .FunctionDef _ _ b _ _ _ _ _ _ _=>b
 |_=> []
def qab (s:Stmt):Scope:=match s with
 | .FunctionDef _ _ _ _ _ _ sc _ _ _=>sc
 |_=>{kind:=.function,names:=[],isGenerator:=false,isCoroutine:=false}
abbrev CX0:CXT:=fun _ _ _ _ _ _=>False
abbrev E0:XK:=fun _ _ _=>False
theorem qag {X:Cx}:qfl CX0 X E0:=fun _ _ _ _ _ _ _ h=>h.elim
structure Fun (K:Frag) (x qual:Str) (st:Stmt) (f:Addr) (fd:FuncData):Prop where
 ex:∃(oc:Value) (od:Option Addr) (kV doc pm:Value) (an:Option Addr) (cdv ct:Value) (osl:Array (Option Value)),
  fd=fnOf x qual (qcg st) (qbt st) (qab st) .none kV doc pm an cdv ct∧K.lookup f=some ⟨oc,od,.func fd,osl⟩∧codeIn K cdv qual=true
 kp:keepIn K (.ref f)=true
section
variable {P : Program} {w : World} {K : Frag} {mg : Str → Option Value} {base : Heap}
theorem Fun.ok {x qual:Str} {st:Stmt} {f:Addr} {fd:FuncData} {N ps:List Str} {k:Nat} {sp:Sp} (F:Fun K x qual st f fd) (S:FnScope N ps (qab st)) (len:∀vs H Q E,sp vs H Q E→vs.length=ps.length)
  (hbody:∀(cdv:Value) (A:Around) (outer:List Env) (s:Shared) (H:Hp) (vs:List V) (Q:VK) (E:XK),Room k (A.deeper (envOfC qual (qab st) s.heap.objs.size f cdv))→sp vs H Q E→
   ∃t,PSs (cxOf CX0 P w K mg base N qual (qab st) f cdv A outer s H E).nox (qbt st) t∧t {nx:=fun _ H'=>Q .non H',rt:=Q} (qee N vs) H):FnOk P w K mg base CX0 (k+1) f fd ps sp:=by
 obtain⟨oc,od,kV,doc,pm,an,cdv,ct,osl,rfl,lk,hcd⟩:=F.ex
 refine fn_of lk hcd S len fun A outer s H vs Q E hr hsp=>?_
 obtain⟨t,h,q⟩:=hbody cdv A outer s H vs Q E hr hsp
 exact⟨t,h.nox,q⟩
theorem Fun.binds {x qual:Str} {st:Stmt} {f:Addr} {fd:FuncData} {ps:List Str} (F:Fun K x qual st f fd)
  (h:∀(kV doc pm:Value) (an:Option Addr) (cdv ct:Value) (us:List Value),us.length=ps.length→bindArgs (fnOf x qual (qcg st) (qbt st) (qab st) .none kV doc pm an cdv ct) ⟨us, []⟩=pure (ps.zip us)):qao K fd ps []:=by
 obtain⟨oc,od,kV,doc,pm,an,cdv,ct,osl,rfl,lk,hcd⟩:=F.ex
 exact .all (h kV doc pm an cdv ct)
theorem fun_mk {x qual:Str} {st:Stmt} {f:Addr} {oc:Value} {od an:Option Addr} {osl:Array (Option Value)} {kV doc pm cdv ct:Value} (l:K.lookup f=some ⟨oc,od,.func (fnOf x qual (qcg st) (qbt st) (qab st) .none kV doc pm an cdv ct),osl⟩)
  (c:codeIn K cdv qual=true) (k:keepIn K (.ref f)=true):Fun K x qual st f (fnOf x qual (qcg st) (qbt st) (qab st) .none kV doc pm an cdv ct):=⟨⟨oc,od,kV,doc,pm,an,cdv,ct,osl,rfl,l,c⟩,k⟩
end
theorem qd4 {A:Around} {k:Nat} (hr:Room k A):A.units+1 < cLine:=Nat.lt_of_le_of_lt (Nat.add_le_add_left (by decide:1≤64) _) hr.units
section
variable {X : Cx}
theorem pv (i:Nat) {x:Str} {pos:Pos} (hN:X.N[i]?=some x:=by rfl) (hv:Vis X.env.scope x:=by first|exact Or.inl rfl|exact Or.inr (Or.inl rfl) |exact Or.inr (Or.inr rfl)) (hd:(x==("__debug__" :Str))=false:=by decide)
  (hcd:(x==("__classdict__" :Str))=false:=by decide):PE X (.Name x pos) (tVar i):=pe_var hN hv hd hcd
end
theorem iteF {A B:Prop} (h:B):if false=true then A else B:=by
 rw [if_neg Bool.false_ne_true]
 exact h
theorem iteT {A B:Prop} (h:A):if true=true then A else B:=by
 rw [if_pos rfl]
 exact h
def qaq (H H':Hp):Prop:=∀b o,H b=some o→H' b=some o
theorem qaq.refl (H:Hp):qaq H H:=fun _ _ h=>h
theorem qaq.trans {H H1 H2:Hp} (a:qaq H H1) (b:qaq H1 H2):qaq H H2:=fun c o h=>b c o (a c o h)
theorem qaq.free {H H':Hp} (e:qaq H H') {l:Addr} (h:H' l=Option.none):H l=Option.none:=by
 cases q:H l with
 |none=>rfl
 |some o=>
  rw [e l o q] at h
  cases h
theorem qaq.seq {K:Frag} {H H':Hp} {a:Addr} {xs:List V} (e:qaq H H') (h:SqL K H a xs):SqL K H' a xs:=by
 rcases h with (h|⟨o,h⟩) |h
 ·exact .inl (.inl (e _ _ h))
 ·exact .inl (.inr ⟨o,e _ _ h⟩)
 ·exact .inr h
end L2
namespace My
open PySem PySem.Spec PyProof.Rows L2
section
variable {X : Cx}
theorem bits600 {k:Int} (h:k.natAbs < 2^600):Builtin.Int.intBits k≤2^20:=
 Nat.le_trans (PyProof.Rows.intBits_le (k:=600) h) (by decide)
def CBig (i j:Int):Prop:=i.natAbs < 2^600∧j.natAbs < 2^600
theorem qbj:OpR X (binaryOp .Mult) (rI CBig fun i j=> .int (i*j)):=opI fun _ _ _ _ _ _ _ hc q=>mul_int q (IntMulOk.of_bits (bits600 hc.1) (bits600 hc.2))
def CDivB (i j:Int):Prop:=j≠0∧j.natAbs < 2^600
theorem noPy {x y:Int} (h:y.natAbs < 2^600):Builtin.divisionGoesByPylong x y=false:=by
 refine PyProof.noPylong_of_log2 ?_
 by_cases h0:y.natAbs=0
 ·rw [h0];decide+kernel
 ·have h30:y.natAbs.log2 < 600:=(Nat.log2_lt h0).mpr h
  omega
theorem qcm:OpR X (binaryOp .FloorDiv) (rI CDivB fun i j=> .int (i.fdiv j)):=opI fun _ _ _ _ _ _ _ hc q=>floordiv_int hc.1 q (.inl (noPy hc.2))
end
theorem qa8 {H:Hp} {p:Addr} (h:H p=none) (o:HO):qaq H (upd H p o):=fun b u q=>by rw [qa9 (qa7 q h)];exact q
theorem same_tup {K:Frag} {H H':Hp} {a:Addr} {xs:List V} (e:qaq H H') (h:SqT K H a xs):SqT K H' a xs:=by
 rcases h with (h|⟨o,h⟩) |h
 ·exact .inl (.inl (e _ _ h))
 ·exact .inl (.inr ⟨o,e _ _ h⟩)
 ·exact .inr h
def cell (ns:List Int) (k:Int):Int:=(ns[k.toNat]?).getD 0
theorem cell_at {ns:List Int} {k:Int} (h0:0≤k) (h:k <(ns.length:Int)):atI (ns.map V.int) k=some (.int (cell ns k)):=by
 have hk:k.toNat < ns.length:=by omega
 have ek:k=((k.toNat:Nat):Int):=by omega
 have q:atI (ns.map V.int) ((k.toNat:Nat):Int)=some (.int ns[k.toNat]):=qar (by rw [zC,zA hk] <;> rfl)
 rw [←ek] at q
 rw [q]
 unfold cell
 rw [zA hk]
 rfl
section
variable {X : Cx}
end
end My
set_option maxHeartbeats 1000000
namespace My
open PySem PySem.Spec PyProof.Rows L2
section
variable {X : Cx} {pins : List (Addr × Obj)} {σ : L2.St} {H : Hp} {s : Shared} {h' : Heap}
structure Rec (X:Cx) (pins:List (Addr × Obj)) (H:Hp) (h:Heap) (b:Addr):Prop where
 nw:X.s₀.heap.get? b=none
 un:H b=none
 pin:∀p∈X.pn++pins,p.1≠b
 ob:∃o vs,h.get? b=some o∧o.data=.fields vs
theorem Rec.loc (I:Inv X pins σ H s) {b:Addr} (r:Rec X pins H s.heap b):b≠X.env.locals:=fun z=>by
 obtain⟨o,vs,e,d⟩:=r.ob
 obtain⟨m,⟨o',es,ep,e',d',_⟩,_⟩:=I.loc
 rw [z,e'] at e;cases e;rw [d'] at d;cases d
theorem Rec.cel (I:Inv X pins σ H s) {b:Addr} (r:Rec X pins H s.heap b):∀x c,X.env.cells.lookup x=some c→c≠b:=fun x c hc z=>by
 obtain⟨o,vs,e,d⟩:=r.ob
 obtain⟨v,o',e',d'⟩:=I.cell x c hc
 rw [z,e] at e';cases e';rw [d] at d';cases d'
theorem Rec.frs (I:Inv X pins σ H s) {b:Addr} (r:Rec X pins H s.heap b):b∉frs X.stack:=fun z=>by
 obtain⟨o,vs,e,d⟩:=r.ob
 obtain⟨_,o',e',d'⟩:=I.stack.mem z
 rw [e] at e';cases e';exact d' vs d
theorem Inv.marks {ch:List Addr} {t':Nat} (I:Inv X pins σ H s) (hch:∀b∈ch,Rec X pins H s.heap b)
  (k1:∀b o,b∉frs X.stack→b∉ch→s.heap.get? b=some o→h'.get? b=some o)
  (k2:∀b o,b∉ch→s.heap.get? b=some o→∃sl,h'.get? b=some {o with slots:=sl}):Inv X pins σ H {s with heap:=h',toks:=t'}:=by
 have sub:∀b,b≠X.env.locals→b∉X.fs→b∉frs X.stack:=fun b h1 h2 z=>(zR.mp (I.stkSub b z)).elim h1 h2
 have neL:∀b o,X.s₀.heap.get? b=some o→b≠X.env.locals:=fun b o e=>Nat.ne_of_lt (Nat.lt_of_lt_of_le (Heap.lt_size e) I.ok.above)
 have neC:∀b o,X.s₀.heap.get? b=some o→b∉ch:=fun b o e z=>by rw [(hch b z).nw] at e;cases e
 have cel:∀x c,X.env.cells.lookup x=some c→∀v,s.heap.IsCell c v→h'.IsCell c v:=fun x c e v ⟨o,ho,hd⟩=>by
  obtain⟨sl,q⟩:=k2 c o (fun z=>(hch c z).cel I x c e rfl) ho
  exact⟨_,q,hd⟩
 refine⟨I.ok,I.os,I.bare,⟨fun b o e n hb hx=>k1 b o (sub b (neL b o e) hb) (neC b o e) (I.base.keep b o e n hb hx),fun b o e n hb hx=>?_,I.base.free,fun b o e hx=>?_,I.base.tups,I.base.frzs,I.base.tbls⟩,
  ?_,fun x c e=>?_,I.free,I.freeC,fun p hp=>?_,fun a o e=>?_,I.len⟩
 ·obtain⟨sl,e1⟩:=I.base.slot b o e n hb hx
  obtain⟨sl',e2⟩:=k2 b _ (neC b o e) e1
  exact⟨sl',e2⟩
 ·obtain⟨o',e1⟩:=I.base.there b o e hx
  obtain⟨sl',e2⟩:=k2 b _ (neC b o e) e1
  exact⟨_,e2⟩
 ·obtain⟨m,hm,hl⟩:=I.loc
  have hm':h'.Ns X.env.locals m:=by
   obtain⟨o,es,ep,e,r⟩:=hm
   obtain⟨sl,q⟩:=k2 _ o (fun z=>(hch _ z).loc I rfl) e
   exact⟨_,es,ep,q,r⟩
  refine⟨m,hm',fun i x v e1 e2 e3=>?_⟩
  obtain⟨u,r,l⟩:=hl i x v e1 e2 e3
  refine⟨u,r,?_⟩
  rcases l with l|⟨k,c,e,z⟩
  ·exact .inl l
  ·exact .inr ⟨k,c,e,cel x c e _ z⟩
 ·obtain⟨v,z⟩:=I.cell x c e
  exact⟨v,cel x c e v z⟩
 ·obtain⟨e,n,ne,nf,d⟩:=I.pin p hp
  exact⟨k1 p.1 p.2 (sub p.1 ne nf) (fun z=>(hch p.1 z).pin p hp rfl) e,n,ne,nf,d⟩
 ·refine(I.hok a o e).stay (fun b u hb q=>k1 b u ?_ ?_ q) (fun _ q=>q) fun _ _ q=>q
  ·intro z
   have n:=I.stkFree b z
   rcases hb with rfl|hb
   ·rw [n] at e;cases e
   ·rw [n] at hb;cases hb
  ·intro z
   have n:=(hch b z).un
   rcases hb with rfl|hb
   ·rw [n] at e;cases e
   ·rw [n] at hb;cases hb
theorem obj_there {P:Program} {w:World} {H:Hp} {h:Heap} {a:Addr} {o:HO} (x:qbi P w H h a o):∃ob,h.get? a=some ob:=by
 cases o with
 |lst xs=>obtain⟨_,_,_,_,e⟩:=x;exact⟨_,e⟩
 |tup xs=>obtain⟨_,_,_,ob,e,_⟩:=x;exact⟨_,e⟩
 |dK kvs=>obtain⟨_,_,_,_,o,_,_,e,_⟩:=x;exact⟨_,e⟩
 |dT kvs=>obtain⟨_,_,_,_,o,_,_,e,_⟩:=x;exact⟨_,e⟩
 |set S n=>obtain⟨o,_,_,_,e,_⟩:=x;exact⟨_,e⟩
 |ins C dx fs=>obtain⟨_,_,_,e,_⟩:=x;exact⟨_,e⟩
 |own y=>exact x
 |xd fs=>obtain⟨_,⟨_,_,_,e,_⟩,_⟩:=x;exact⟨_,e⟩
 |rng lo hi=>obtain⟨_,_,_,e⟩:=x;exact⟨_,e⟩
 |frz ob u=>obtain⟨e,_⟩:=x;exact⟨_,e⟩
 |tbl ps=>exact⟨_,(show h.get? a=some _ from x)⟩
 |met f y=>exact⟨_,(show h.get? a=some _ from x)⟩
 |ext φ=>obtain⟨_,e,_⟩:=x;exact e
theorem un_of {P:Program} {w:World} {H:Hp} {h:Heap} {a:Addr} (x:HOk P w H h) (e:h.get? a=none):H a=none:=by
 cases q:H a with
 |none=>rfl
 |some o=>obtain⟨ob,z⟩:=obj_there (x a o q);rw [e] at z;cases z
theorem new_of (I:Inv X pins σ H s) (hex:X.ex=[]) {b:Addr} (e:s.heap.get? b=none):X.s₀.heap.get? b=none:=by
 cases q:X.s₀.heap.get? b with
 |none=>rfl
 |some o=>obtain⟨o',z⟩:=I.base.there b o q (by rw [hex];simp);rw [e] at z;cases z
def XNew (h:Heap) (e:Addr) (C:Value) (d:Option Addr):Prop:=
 ∃oe vs,h.get? e=some oe∧oe.cls=C∧oe.dict=d∧oe.data=.fields vs∧vs[1]?=some .none
def XTr (h:Heap) (e:Addr) (C:Value) (d:Option Addr) (fl:Value) (T:Addr):Prop:=
 ∃oe vs oT ts,h.get? e=some oe∧oe.cls=C∧oe.dict=d∧oe.data=.fields vs∧vs[1]?=some (.ref T)∧T≠e∧h.get? T=some oT∧oT.data=.fields ts∧ts[3]?=some fl
def XIn (X:Cx) (pins:List (Addr × Obj)) (H:Hp) (h:Heap) (e:Addr) (C:Value) (d:Option Addr):Prop:=
 Rec X pins H h e∧(XNew h e C d∨∃T,Rec X pins H h T∧∃fl,XTr h e C d fl T)
def qf4 (X:Cx) (pins:List (Addr × Obj)) (H:Hp) (h:Heap) (e:Addr) (C:Value) (d:Option Addr) (fl:Value):Prop:=
 Rec X pins H h e∧∃T,Rec X pins H h T∧XTr h e C d fl T
theorem dict_mapF (f:Array Value→Array Value) (o:Obj):(o.mapFields f).dict=o.dict:=by
 obtain⟨c,d,dt,sl⟩:=o
 cases dt <;> rfl
theorem entry_x {M:Model} {A:Around} {E:Value→Shared→Prop} {e:Addr} {C:Value} {d:Option Addr} {head:Value} {hadNext:Bool} {Q:Unit→Shared→Prop}
  (I:Inv X pins σ H s) (hA:A.frames=some X.stack) (hst:X.stack=X.env :: X.outer) (hf:X.env.frame=some X.env.locals) (r:Rec X pins H s.heap e)
  (ho:∃oe vs,s.heap.get? e=some oe∧oe.cls=C∧oe.dict=d∧oe.data=.fields vs∧1 < vs.size)
  (h:∀s',Inv X pins σ H s'→qf4 X pins H s'.heap e C d (rawInt X.env.locals)→Q () s'):
  wpAny M A (do let a←frameOf X.env;let pl←entryPlaceOf X.env.locals hadNext;let b←EntryCells.newEntry head a .none (rawInt X.env.locals) .none pl;setField (.ref e) 1 b) Q E s:=by
 obtain⟨oe,vs,he,hc,hdd,hd,hsz⟩:=ho
 have hl:=I.stack
 rw [hst] at hl hA
 have ne:e∉L2.frs X.stack:=r.frs I
 refine wpAny_bind (wpAny_frameOf_fun hA hl hf fun h₁ hs₁=>wpAny_bind (wpAny_entryPlaceOf fun pl hpl=>?_))
 unfold EntryCells.newEntry newFields
 refine wpAny_bind (wpAny_newObj_type ?_ (hpl.sizeOk5 _ _ _ _ _))
 rw [←hst] at hs₁
 have he1:h₁.get? e=some oe:=(hs₁.2.1 e ne).trans he
 generalize hN:({cls:=.type "traceback",dict:=none,data:=.fields ([head,.ref X.env.locals,.none,rawInt X.env.locals,.none]++(if pl.isEmpty then List.replicate 6 Value.none else pl)).toArray}:Obj)=N
 have he2:(h₁.push N).get? e=some oe:=Heap.get?_push_of_some _ he1
 refine wpAny_setField he2 hd hsz (h _ ?_ ?_)
 ·refine Inv.marks (s:=s) (ch:=[e]) (t':=s.toks) I (fun b hb=>by rw [zH.mp hb];exact r) (fun b o h1 h2 q=>?_) fun b o h2 q=>?_
  ·have hb:b≠e:=fun z=>h2 (by simp [z])
   rw [Heap.get?_update_other _ _ (Ne.symm hb)]
   exact Heap.get?_push_of_some _ ((hs₁.2.1 b h1).trans q)
  ·have hb:b≠e:=fun z=>h2 (by simp [z])
   obtain⟨sl,q1⟩:=hs₁.2.2 b o q
   exact⟨sl,by rw [Heap.get?_update_other _ _ (Ne.symm hb)];exact Heap.get?_push_of_some _ q1⟩
 ·have sz1:h₁.objs.size=s.heap.objs.size:=hs₁.1
  have hTe:h₁.objs.size≠e:=Nat.ne_of_gt (Heap.lt_size he1)
  have d3:=Obj.data_mapFields hd (·.setIfInBounds 1 (Value.ref h₁.objs.size))
  have e3:=Heap.get?_update_self (Obj.mapFields (·.setIfInBounds 1 (Value.ref h₁.objs.size))) he2 (Obj.isFreed_of_fields d3)
  have nf:N.isFreed=false:=by rw [←hN];rfl
  have t3:=(Heap.get?_update_other (h₁.push N) (Obj.mapFields (·.setIfInBounds 1 (Value.ref h₁.objs.size))) (Ne.symm hTe)).trans (Heap.get?_push_size h₁ nf)
  have rT:Rec X pins H ((h₁.push N).update e (Obj.mapFields (·.setIfInBounds 1 (Value.ref h₁.objs.size)))) h₁.objs.size:=by
   refine⟨Heap.get?_none_of_le (by rw [sz1];exact I.sz),I.hok.fresh (by rw [sz1];exact Nat.le_refl _),fun p hp z=>?_,⟨N,_,t3,by rw [←hN]⟩⟩
   obtain⟨q,_⟩:=I.pin p hp
   have w:=Heap.lt_size q
   rw [z,sz1] at w
   exact absurd w (Nat.lt_irrefl _)
  refine⟨⟨r.nw,r.un,r.pin,⟨_,_,e3,d3⟩⟩,h₁.objs.size,rT,_,_,N,_,e3,(Obj.cls_mapFields _ _).trans hc,?_,d3,by simp [hsz],hTe,t3,by rw [←hN],?_⟩
  ·rw [←hdd];exact dict_mapF _ _
  ·first|(simp;done) |(rcases hpl with rfl|⟨_,_,_,_,_,_,_,rfl⟩ <;> simp)
theorem note_x {M:Model} {A:Around} {E:Value→Shared→Prop} {e:Addr} {C:Value} {d:Option Addr} {Q:Unit→Shared→Prop}
  (I:Inv X pins σ H s) (hA:A.frames=some X.stack) (hst:X.stack=X.env :: X.outer) (hf:X.env.frame=some X.env.locals) (x:XIn X pins H s.heap e C d)
  (h:∀s',Inv X pins σ H s'→qf4 X pins H s'.heap e C d (rawInt X.env.locals)→Q () s'):wpAny M A (noteFrame (.ref e) X.env) Q E s:=by
 obtain⟨r,x⟩:=x
 unfold noteFrame
 simp only [hf]
 rcases x with ⟨oe,vs,he,hc,hdd,hd,h1⟩ |⟨T,rT,fl,oe,vs,oT,ts,he,hc,hdd,hd,h1,hTe,hT,hdT,h3⟩
 ·refine wpAny_bind (wpAny_field he hd h1 ?_)
  rw [if_neg (by decide)]
  exact entry_x I hA hst hf r ⟨oe,vs,he,hc,hdd,hd,(Array.getElem?_eq_some_iff.mp h1).1⟩ h
 ·refine wpAny_bind (wpAny_field he hd h1 ?_)
  rw [if_pos (show (Value.ref T !=Value.none)=true from by simp)]
  refine wpAny_bind (wpAny_field hT hdT h3 ?_)
  by_cases qf:(fl==rawInt X.env.locals)=true
  ·rw [if_pos qf]
   have ef:fl=rawInt X.env.locals:=eq_of_beq qf
   rw [ef] at h3
   exact wpAny_pure (h s I ⟨r,T,rT,oe,vs,oT,ts,he,hc,hdd,hd,h1,hTe,hT,hdT,h3⟩)
  ·rw [if_neg qf]
   refine wpAny_bind (wpAny_setField hT hdT (Array.getElem?_eq_some_iff.mp h3).1 ?_)
   have oth:∀b,b≠T→(s.heap.update T (Obj.mapFields (·.setIfInBounds 3 Value.none))).get? b=s.heap.get? b:=fun b hb=>Heap.get?_update_other _ _ (Ne.symm hb)
   have J:Inv X pins σ H {s with heap:=s.heap.update T (Obj.mapFields (·.setIfInBounds 3 Value.none))}:=
    Inv.marks (s:=s) (ch:=[T]) (t':=s.toks) I (fun b hb=>by rw [zH.mp hb];exact rT) (fun b o _ h2 q=>(oth b fun z=>h2 (by simp [z])).trans q) fun b o h2 q=>⟨o.slots,(oth b fun z=>h2 (by simp [z])).trans q⟩
   have he':=(oth e (Ne.symm hTe)).trans he
   exact entry_x J hA hst hf ⟨r.nw,r.un,r.pin,⟨oe,vs,he',hd⟩⟩ ⟨oe,vs,he',hc,hdd,hd,(Array.getElem?_eq_some_iff.mp h1).1⟩ h
theorem flight_g (fr:Option Addr) {M:Model} {A:Around} {E:Value→Shared→Prop} {e:Addr} {C fl:Value} {d:Option Addr} {Q:Unit→Shared→Prop}
  (I:Inv X pins σ H s) (x:qf4 X pins H s.heap e C d fl)
  (h:∀s',Inv X pins σ H s'→qf4 X pins H s'.heap e C d (fr.elim Value.none fun f=>rawInt f)→Q () s'):wpAny M A (setFlight (.ref e) fr) Q E s:=by
 obtain⟨r,T,rT,oe,vs,oT,ts,he,hc,hdd,hd,h1,hTe,hT,hdT,h3⟩:=x
 have hsz:=(Array.getElem?_eq_some_iff.mp h3).1
 unfold setFlight
 refine wpAny_bind (wpAny_field he hd h1 ?_)
 rw [if_pos (show (Value.ref T !=Value.none)=true from by simp)]
 refine wpAny_setField hT hdT hsz (h _ ?_ ?_)
 all_goals have oth:∀b,b≠T→(s.heap.update T (Obj.mapFields (·.setIfInBounds 3 (fr.elim Value.none fun f=>rawInt f)))).get? b=s.heap.get? b:=fun b hb=>Heap.get?_update_other _ _ (Ne.symm hb)
 ·exact Inv.marks (s:=s) (ch:=[T]) (t':=s.toks) I (fun b hb=>by rw [zH.mp hb];exact rT) (fun b o _ h2 q=>(oth b fun z=>h2 (by simp [z])).trans q) fun b o h2 q=>⟨o.slots,(oth b fun z=>h2 (by simp [z])).trans q⟩
 ·have he':=(oth e (Ne.symm hTe)).trans he
  have d3:=Obj.data_mapFields hdT (·.setIfInBounds 3 (fr.elim Value.none fun f=>rawInt f))
  have hT':=Heap.get?_update_self (Obj.mapFields (·.setIfInBounds 3 (fr.elim Value.none fun f=>rawInt f))) hT (Obj.isFreed_of_fields d3)
  exact⟨⟨r.nw,r.un,r.pin,⟨oe,vs,he',hd⟩⟩,T,⟨rT.nw,rT.un,rT.pin,⟨_,_,hT',d3⟩⟩,oe,vs,_,_,he',hc,hdd,hd,h1,hTe,hT',d3,by simp [hsz]⟩
theorem flight_x {M:Model} {A:Around} {E:Value→Shared→Prop} {e:Addr} {C fl:Value} {d:Option Addr} {Q:Unit→Shared→Prop}
  (I:Inv X pins σ H s) (x:qf4 X pins H s.heap e C d fl)
  (h:∀s',Inv X pins σ H s'→qf4 X pins H s'.heap e C d .none→Q () s'):wpAny M A (setFlight (.ref e) none) Q E s:=flight_g none I x h
theorem qf4.xin {h:Heap} {e:Addr} {C fl:Value} {d:Option Addr} (x:qf4 X pins H h e C d fl):XIn X pins H h e C d:=
 let ⟨r,T,rT,q⟩:=x
 ⟨r,.inr ⟨T,rT,_,q⟩⟩
theorem qf4.xinL {h:Heap} {e:Addr} {C:Value} {d:Option Addr} (x:qf4 X pins H h e C d (rawInt X.env.locals)):XIn X pins H h e C d:=x.xin
def CX1 (P:Program) (w:World):CXT:=fun outer H s E e s'=>∃(a:Addr) (C:Value) (d:Option Addr) (H':Hp),e=.ref a∧s'.os=s.os∧AllBare s'.gens∧Un (L2.frs outer) [] H H' s.heap s'.heap∧HOk P w H' s'.heap∧
 s.heap.get? a=none∧H' a=none∧(∃T,s.heap.get? T=none∧H' T=none∧XTr s'.heap a C d .none T)∧E C d H'
def Xes (X:Cx) (W:L2.St→XK):Prop:=∀(pins:List (Addr × Obj)) (σ:L2.St) (H:Hp) (s:Shared) (a:Addr) (C:Value) (d:Option Addr),Inv X pins σ H s→XIn X pins H s.heap a C d→W σ C d H→X.xe (.ref a) s
theorem xes_call {W:L2.St→XK} (h:Xes X W) (hex:X.ex=[]) {e:Value} {s':Shared} (I:Inv X pins σ H s) (q:CX1 X.prog X.w X.stack H s (W σ) e s'):X.xe e s':=by
 obtain⟨a,C,d,H',rfl,os,bare,un,hok,la,na,⟨T,lT,nT,x⟩,w⟩:=q
 have J:Inv X pins σ H' s':=I.call' (ch:=[]) os un hok bare (fun b z=>absurd z (by simp))
 have pn:∀b,s.heap.get? b=none→∀p∈X.pn++pins,p.1≠b:=fun b lb p hp z=>by
  have w:=(I.pin p hp).1
  rw [z,lb] at w
  cases w
 obtain⟨oe,vs,oT,ts,he,hc,hdd,hd,h1,hTe,hT,hdT,h3⟩:=id x
 exact h pins σ H' s' a C d J ⟨⟨new_of I hex la,na,pn a la,⟨oe,vs,he,hd⟩⟩,.inr ⟨T,⟨new_of I hex lT,nT,pn T lT,⟨oT,ts,hT,hdT⟩⟩,_,x⟩⟩ w
end
section
variable {X : Cx} {pins : List (Addr × Obj)} {σ : L2.St} {H : Hp} {s : Shared} {W : L2.St → XK}
def XSt (X:Cx) (W:L2.St→XK) (e:Value) (s:Shared):Prop:=∃(a:Addr) (C:Value) (d:Option Addr) (σ:L2.St) (H:Hp),e=.ref a∧Inv X [] σ H s∧XIn X [] H s.heap a C d∧W σ C d H
abbrev xw (X:Cx) (W:L2.St→XK):Cx:=X.wish (XSt X W)
theorem Rec.less {h:Heap} {b:Addr} (r:Rec X pins H h b):Rec X [] H h b:=⟨r.nw,r.un,fun p hp=>r.pin p (by rw [yD] at hp;exact yI _ hp),r.ob⟩
theorem XIn.less {h:Heap} {a:Addr} {C:Value} {d:Option Addr} (x:XIn X pins H h a C d):XIn X [] H h a C d:=by
 obtain⟨r,x⟩:=x
 rcases x with x|⟨T,rT,x⟩
 ·exact⟨r.less,.inl x⟩
 ·exact⟨r.less,.inr ⟨T,rT.less,x⟩⟩
theorem Rec.unwish {E:Value→Shared→Prop} {h:Heap} {b:Addr} (r:Rec (X.wish E) pins H h b):Rec X pins H h b:=⟨r.nw,r.un,r.pin,r.ob⟩
theorem XIn.unwish {E:Value→Shared→Prop} {h:Heap} {a:Addr} {C:Value} {d:Option Addr} (x:XIn (X.wish E) pins H h a C d):XIn X pins H h a C d:=by
 obtain⟨r,x⟩:=x
 rcases x with x|⟨T,rT,x⟩
 ·exact⟨r.unwish,.inl x⟩
 ·exact⟨r.unwish,.inr ⟨T,rT.unwish,x⟩⟩
theorem qaz:Xes (xw X W) W:=fun pins σ H s a C d I x w=>⟨a,C,d,σ,H,rfl,I.unwish.pins_of (fun _ z=>nomatch z),x.unwish.less,w⟩
theorem qeq (hst:X.stack=X.env :: X.outer) (hf:X.env.frame=some X.env.locals):PassesOwn (model X.prog X.w) X.A X.env (XSt X W):=by
 rintro e s' ⟨a,C,d,σ,H,rfl,I,x,w⟩
 show wpAny _ _ (noteFrame (.ref a) X.env) _ _ s'
 refine note_x I I.ok.frames hst hf x fun s2 I2 x2=>?_
 obtain⟨r,T,rT,oe,vs,oT,ts,he,hc,hdd,hd,h1,r2⟩:=id x2
 unfold cameBackBy
 refine wpAny_bind (wpAny_field he hd h1 ?_)
 have fin:wpAny (model X.prog X.w) X.A (setFlight (.ref a) X.env.frame) (fun _ s''=>XSt X W (.ref a) s'') (XSt X W) s2:=by
  rw [hf]
  exact flight_g (some X.env.locals) I2 x2 fun s3 I3 x3=>⟨a,C,d,σ,H,rfl,I3,qf4.xinL x3,w⟩
 first
  |(rw [if_neg (show ¬((Value.ref T==Value.none)=true) from by simp)];exact fin)
  |(rw [if_neg (show ¬((Value.ref T==Value.none)=true) from by simp)];exact wpAny_bind (wpAny_pure fin))
  |(refine wpAny_bind ?_;rw [if_neg (show ¬((Value.ref T==Value.none)=true) from by simp)];exact wpAny_pure fin)
theorem PSs.xes {st:List Stmt} {t:TS} (hx:Xes X W) (h:PSs (xw X W) st t):PSs X st t:=fun pins s σ H D I hw=>
 wpAny_mono (h pins s σ H D (I.wish _) hw) (fun _ _ q=>q.unwish) fun _ _ ⟨a,C,d,σ',H',e,I',x,w⟩=>by subst e;exact hx [] σ' H' _ a C d I' x w
end
section
variable {P : Program} {w : World} {K : Frag} {mg : Str → Option Value} {base : Heap}
theorem xes_fn {N:List Str} {qual:Str} {scope:Scope} {f:Addr} {cd:Value} {A:Around} {outer:List Env} {s:Shared} {H:Hp} {E:XK}:
  Xes (cxOf (CX1 P w) P w K mg base N qual scope f cd A outer s H E) (fun _=>E):=by
 intro pins σ H1 s1 a C d I x wE
 show wpAny _ _ (leaving _ _) _ _ s1
 unfold leaving
 refine wpAny_bind (note_x I I.ok.frames rfl rfl x fun s2 I2 x2=>flight_x I2 x2 fun s3 I3 x3=>?_)
 obtain⟨r,T,rT,xt⟩:=x3
 exact⟨a,C,d,H1,rfl,I3.os,I3.bare,I3.base,I3.hok,r.nw,r.un,⟨T,rT.nw,rT.un,xt⟩,wE⟩
theorem okX {x qual:Str} {st:Stmt} {f:Addr} {fd:FuncData} {N ps:List Str} {k:Nat} {sp:Sp} (F:Fun K x qual st f fd) (S:FnScope N ps (qab st)) (len:∀vs H Q E,sp vs H Q E→vs.length=ps.length)
  (hbody:∀(cdv:Value) (A:Around) (outer:List Env) (s:Shared) (H:Hp) (vs:List V) (Q:VK) (E:XK),Room k (A.deeper (envOfC qual (qab st) s.heap.objs.size f cdv))→sp vs H Q E→
   ∃t,PSs (xw (cxOf (CX1 P w) P w K mg base N qual (qab st) f cdv A outer s H E) (fun _=>E)) (qbt st) t∧t {nx:=fun _ H'=>Q .non H',rt:=Q} (qee N vs) H):FnOk P w K mg base (CX1 P w) (k+1) f fd ps sp:=by
 obtain⟨oc,od,kV,doc,pm,an,cdv,ct,osl,rfl,lk,hcd⟩:=F.ex
 refine fn_of lk hcd S len fun A outer s H vs Q E hr hsp=>?_
 obtain⟨t,ht,q⟩:=hbody cdv A outer s H vs Q E hr hsp
 exact⟨t,PSs.xes xes_fn ht,q⟩
end
section
variable {X : Cx} {k : Nat} {f : Addr} {fd : FuncData} {ps : List Str} {sp : Sp} {dvs : List V} {ds : List Value} {W : L2.St → XK} {x : Str} {p pos : Pos} {e : Expr} {es : List Expr} {t : TA}
def tCallX (sp:Sp) (dvs:List V) (W:L2.St→XK) (t:TA):TE:=fun σ H Q=>t σ H fun vs H1=>sp (vs++dvs) H1 Q (W σ)
theorem run_fnX {pins:List (Addr × Obj)} {σ:L2.St} {H:Hp} {s:Shared} {Q:VK} {us:List Value} {vs:List V} (F:FnOk X.prog X.w X.K X.mg X.base (CX1 X.prog X.w) k f fd ps sp) (hr:Room k X.A) (hb:qao X.K fd ps ds) (hd:qb9 dvs ds) (hx:Xes X W) (hex:X.ex=[])
  (I:Inv X pins σ H s) (r:qb9 vs us) (h:sp (vs++dvs) H Q (W σ)):wpAny (model X.prog X.w) X.A (call (.ref f) us) (EP X pins σ Q) X.xe s:=by
 have r2:qb9 (vs++dvs) (us++ds):=r.append hd
 have hl:(us++ds).length=ps.length:=by rw [←r2.length];exact F.len _ _ _ _ h
 refine wpAny_call (codeAny_mono (F.run X.A X.stack s H ⟨us, []⟩ (us++ds) (vs++dvs) Q (W σ) hr I.env0 (hb s us I.kIn hl) r2 h) fun r s' hq=>?_)
 match r,hq with
 | .error e,hq=>exact xes_call hx hex I hq
 | .ok (.ret u),hq=>exact I.after hq
 | .ok .next,hq=>exact False.elim hq
 | .ok .brk,hq=>exact False.elim hq
 | .ok .cont,hq=>exact False.elim hq
theorem qcb (F:FnOk X.prog X.w X.K X.mg X.base (CX1 X.prog X.w) k f fd ps sp) (hr:Room k X.A) (hg:Gl X x) (hm:X.mg x=some (.ref f)) (hk:keepIn X.K (.ref f)=true) (hb:qao X.K fd ps ds) (hd:qb9 dvs ds) (hx:Xes X W)
  (ha:PA X (e :: es) t) (hex:X.ex=[]:=by rfl) (hdb:(x==("__debug__" :Str))=false:=by decide) (he:starEach (e :: es) X.env=(false,eval e X.env) :: starEach es X.env:=by rfl) (hpl:(backTo pos (starEach es X.env)).any (·.1)=false:=by rfl):
  PE X (.Call (.Name x p) (e :: es) [] pos) (tCallX sp dvs W t):=by
 intro pins s σ H Q I h
 refine wpAny_Call_Name_kw (qdt I hg hm ?_ hdb)
 refine PySem.W.callWith_K (h₀:=X.base) I.ok.mod.kin hk (thn (ha pos pins s σ H _ I h) fun us s1 ⟨vs,H1,I1,r,q⟩=>⟨I1.kIn,?_⟩) he hpl
 exact run_fnX F hr hb hd hx hex I1 r q
end
structure XCls (K:Frag) (C:Addr):Prop where
 ob:∃(nm q:Str) (N:Addr) (bs bm:List Value) (hdct:Bool) (sn:List Str) (sub:List Value) (ab:Bool) (col:Option Bool) (dd:Option Addr) (k0 k1 k2 k3 k5:Option Value) (mN:Str→Option Value),
  K.lookup C=some (excClassObj nm q C N bs bm hdct sn sub ab col dd k0 k1 k2 k3 k5 "ValueError.__new__")∧(∀h:Heap,K.In h→h.Ns N mN)∧mN "__init__" =none∧
  ∀h:Heap,K.In h→OwnTail h [.type "ValueError",.type "Exception",.type "BaseException",.type "object"] bm
section
variable {X : Cx} {x : Str} {C : Addr} {W : L2.St → XK} {np cpos pos : Pos} {e : Expr} {es : List Expr} {t : TA}
def tRaise (t:TA) (C:Addr) (W:L2.St→XK):TS:=fun _ σ H=>t σ H fun xs H1=>xs.length≤sizeLine∧W σ (.ref C) none H1
theorem qbz (hc:X.calm=true) (M:XCls X.K C) (hg:Gl X x) (hm:X.mg x=some (.ref C)) (hx:Xes X W) (ha:PA X (e :: es) t) (hex:X.ex=[]:=by rfl) (hdb:(x==("__debug__" :Str))=false:=by decide)
  (he:starEach (e :: es) X.env=(false,eval e X.env) :: starEach es X.env:=by rfl) (hpl:(backTo cpos (starEach es X.env)).any (·.1)=false:=by rfl):
  PS X (.Raise (some (.Call (.Name x np) (e :: es) [] cpos)) none pos) (tRaise t C W):=by
 intro pins s σ H D I h
 obtain⟨nm,q,N,bs,bm,hdct,sn,sub,ab,col,dd,k0,k1,k2,k3,k5,mN,hC,hN,hni,T⟩:=M.ob
 refine wpAny_Raise_call_subU (C:=C) (nm:=nm) (q:=q) (N:=N) (bs:=bs) (bm:=bm) (hdct:=hdct) (sn:=sn) (sub:=sub) (ab:=ab) (col:=col) (dd:=dd) (k0:=k0) (k1:=k1) (k2:=k2) (k3:=k3) (k5:=k5)
  PySem.F.excBase_ValueError (by decide) PySem.F.excBase_ValueError (mN:=mN) ((T _ I.kIn).hasType PySem.F.excBase_ValueError.hasBase) (I.ok.hd hc) ?_ hni ?_
 ·rw [he];show (false ||(backTo cpos (starEach es X.env)).any (·.1))=false;rw [hpl];rfl
 ·refine qdt I hg hm ⟨rfl,?_⟩ hdb
  have z:=ha cpos pins s σ H _ I h
  rw [he] at z ⊢
  refine Calls.evalArgs_plain (wpAny_mono z (fun us s2 ⟨vs,H2,I2,r,hl,q⟩=>⟨rfl,by rw [←r.length];exact hl,I2.kIn _ _ hC,hN _ I2.kIn,T _ I2.kIn,fun h' a m=>?_⟩) fun _ _ y=>y)
  obtain⟨tp,ea,_,_⟩:=m.there
  have J:Inv X pins σ H2 {s2 with heap:=h'}:=I2.kept (t':=s2.toks) m.keeps
  refine hx pins σ H2 _ a (.ref C) none J ⟨⟨new_of I2 hex m.new,un_of I2.hok m.new,fun p hp y=>?_,⟨_,_,ea,rfl⟩⟩,.inl ⟨_,_,ea,rfl,rfl,rfl,rfl⟩⟩ q
  have w:=(I2.pin p hp).1
  rw [y,m.new] at w
  cases w
end
section
variable {X : Cx} {pins : List (Addr × Obj)} {σ : L2.St} {H : Hp} {s : Shared}
abbrev pnd (X:Cx) (pins:List (Addr × Obj)):Cx:={X with pn:=X.pn++pins}
abbrev suite (X:Cx) (a:Addr):Cx:={X with A:=X.A.mark (some (.ref a)),calm:=false,xe:=fun _ _=>False}
def XO (a:Addr) (C:Value) (d:Option Addr):HO:=.ext fun h=>∃(oe:Obj) (vs:Array Value),h.get? a=some oe∧oe.cls=C∧oe.dict=d∧oe.data=.fields vs
end
section
variable {X : Cx}
def tCut (t:TS):TS:=fun D σ H=>∃J:L2.St→Hp→Prop,t {D with nx:=J} σ H∧∀σ' H',J σ' H'→D.nx σ' H'
theorem qce {st:Stmt} {t:TS} (h:PS X st t):PS X st (tCut t):=by
 intro pins s σ H D I ⟨J,hw,k⟩
 refine wpAny_mono (h pins s σ H _ I hw) (fun f s' q=>?_) fun _ _ z=>z
 cases f with
 |next=>obtain⟨σ',H',I',z⟩:=q;exact⟨σ',H',I',k _ _ z⟩
 |brk=>exact q
 |cont=>exact q
 |ret u=>exact q
end
section
variable {X : Cx}
end
theorem qd7 {K:Frag} {C:Addr} (q:excIn K C [.type "ValueError",.type "Exception",.type "BaseException",.type "object"] "ValueError.__new__" =true):XCls K C:=by
 unfold excIn at q
 split at q
 ·rename_i dd cd sl ho
  split at q
  ·rename_i C' bm k0 k1 k2 k3 n k5 hm hs
   simp only [Bool.and_eq_true,beq_iff_eq,Bool.not_eq_true'] at q
   obtain⟨⟨⟨⟨⟨rfl,rfl⟩,hdel⟩,ht⟩,hok⟩,hni⟩:=q
   obtain⟨nm,bs,mro,ns,qn,hd,sn,sub,ab,col,del⟩:=cd
   dsimp only at hm hdel hok hni
   subst hm hdel
   have hsl:sl= #[k0,k1,k2,k3,some (.builtin "ValueError.__new__"),k5]:=by
    obtain⟨l⟩:=sl
    simp only at hs
    rw [hs]
   subst hsl
   unfold PySem.W.nsOkIn at hok
   split at hok
   ·rename_i c1 d1 es ep sl1 hN
    have hSK:StrKeys es:=fun e he=>by
     have z:=Array.all_eq_true_iff_forall_mem.mp hok e he
     split at z
     ·rename_i n t q;exact⟨n,t,q⟩
     ·cases z
    have hNs:∀h:Heap,K.In h→h.Ns ns (fun x=>nsFind es x):=fun h X=>⟨_,es,ep,X _ _ hN,rfl,hSK,fun _=>rfl⟩
    refine⟨nm,qn,ns,bs,bm,hd,sn,sub,ab,col,dd,k0,k1,k2,k3,k5,fun x=>nsFind es x,ho,hNs,?_,fun h X=>PySem.W.tail_of_in X ht⟩
    unfold nsIn at hni
    rw [hN] at hni
    dsimp only at hni
    split at hni
    ·cases hni
    ·rename_i hf
     show nsFind es "__init__" =none
     unfold nsFind findBy
     rw [←Array.find?_toList,hf]
     rfl
   ·cases hok
  ·cases q
 ·cases q
def TyX (K:Frag) (H:Hp) (x:V) (t:Value) (b:Bool):Prop:=TyOf K H x t∨∃(a:Addr) (d:Option Addr),x=.ref a∧H a=some (XO a t d)∧b=true
def rIsi (K:Frag):List V→Hp→VK→Prop:=fun xs H Q=>∃(x c:V) (u t:Value) (b:Bool),xs=[x,c]∧qba c u∧(∀u',qba c u'→u'=u)∧TyX K H x t b∧kitOne K t u=some b∧Q (.bl b) H
theorem isi_yes {prog:Program} {w:World} {A:Around} {E:Value→Shared→Prop} {s:Shared} {Q:Value→Shared→Prop} {K:Frag} {a:Addr} {t c:Value} (KX:K.In s.heap) (hp:∃o,s.heap.get? a=some o∧o.cls=t) (e:kitOne K t c=some true)
  (h:Q (.bool true) s):wpAny (model prog w) A (call (.builtin "isinstance") [.ref a,c]) Q E s:=by
 refine call_isinstance_of ?_ (by intro q;cases q)
 obtain⟨h0,g,d,tt,os⟩:=s
 obtain⟨o,ho,hc⟩:=hp
 have LT:PySem.W.Looks (model prog w) h0 (typeOf (.ref a)) t:=hc ▸ (PySem.W.Looks.ld ho).andThen .now
 unfold kitOne at e
 unfold Builtin.«isinstance.nested»
 refine wpAny_bind (LT.at ?_)
 by_cases q:(t==c)=true
 ·rw [if_pos q]
  first
   |exact wpAny_bind (wpAny_rule (wpAny_pure h))
   |exact wpAny_bind (wpAny_rule h)
 ·rw [if_neg q] at e
  rw [if_neg q]
  obtain⟨hty,his,hsub⟩:=PySem.W.kit_cls (M:=model prog w) KX e
  have LI:PySem.W.Looks (model prog w) h0 (isInstance (.ref a) c) true:=LT.andThen hsub
  refine wpAny_bind (hty.at ?_)
  rw [if_pos (by decide)]
  k_delta "plainIsInstance"
  refine wpAny_bind (wpAny_bind (his.at ?_))
  simp only [Bool.not_true,Bool.false_eq_true,if_false]
  refine wpAny_bind (LI.at ?_)
  first
   |exact wpAny_pure (wpAny_pure h)
   |(simp only [if_true];first|exact wpAny_pure (wpAny_pure h) |exact wpAny_pure h|exact wpAny_bind (wpAny_pure (wpAny_pure h)))
theorem qfc {X:Cx}:Xes X (fun _ _ _ _=>False):=fun _ _ _ _ _ _ _ _ _ w=>w.elim
section
variable {X : Cx}
theorem qc5:qcd X (.builtin "isinstance") (rIsi X.K):=by
 intro pins s σ H xs us Q I hv h
 obtain⟨x,c,u,t,b,rfl,hu,hu',ty,e,q⟩:=h
 cases hv with
 |cons r1 hv=>
  cases hv with
  |cons r2 hv=>
   cases hv
   rename_i v1 v2
   rw [hu' v2 r2]
   rcases ty with ty|⟨a,d,rfl,ea,rfl⟩
   ·exact isinst_ok I r1 ty e fun tk=>⟨.bl b,H,I.tok tk,rfl,q⟩
   ·cases r1
    obtain⟨⟨oe,vs,h1,h2,_⟩,_⟩:=(show qbi X.prog X.w H s.heap a (XO a t d) from I.hok a _ ea)
    exact isi_yes I.kIn ⟨oe,h1,h2⟩ e ⟨.bl true,H,I,rfl,q⟩
def rNotN:R2:=fun x y H Q=>y=.non∧Q (.bl (!decide (x=.non))) H
def rLen (K:Frag):List V→Hp→VK→Prop:=fun xs H Q=>∃p ys,xs=[.ref p]∧(SqL K H p ys∨SqT K H p ys)∧Q (.int ys.length) H
theorem qau:qcd X (.builtin "len") (rLen X.K):=call_len_seq
theorem qdx:OpR X (compareOp .IsNot) rNotN:=op_notN
end
section
variable {K : Frag} {H : Hp} {Q : VK}
theorem r_isi {x:V} {T:String} {t:Value} {b:Bool} (ty:TyOf K H x t) (e:kitOne K t (.type T)=some b) (h:Q (.bl b) H):rIsi K [x,.ty T] H Q:=⟨x,_,_,t,b,rfl,rfl,fun _ z=>z,.inl ty,e,h⟩
end
section
variable {K : Frag}
theorem kit_int_int:kitOne K (.type "int") (.type "int")=some true:=by rfl
theorem kit_int_bool:kitOne K (.type "int") (.type "bool")=some false:=by rfl
theorem qg4:kitOne K (.type "bool") (.type "bool")=some true:=by rfl
theorem kit_str_str:kitOne K (.type "str") (.type "str")=some true:=by rfl
theorem kit_lst_lst:kitOne K (.type "list") (.type "list")=some true:=by rfl
theorem kit_dct_dct:kitOne K (.type "dict") (.type "dict")=some true:=by rfl
end
section
variable {K : Frag} {σ σ' : L2.St} {H H1 : Hp} {Q : VK} {D : Ends} {ta tb te : TE} {t u : TS} {c c' : TT} {ar : TA} {v x y : V} {i j : Nat}
theorem qaf {N:List Str} {vs:List V} (e:qee N vs=σ) (h:t D σ H):t D (qee N vs) H:=e ▸ h
theorem r_var (e:σ[i]?=some (some v)) (h:Q v H):tVar i σ H Q:=⟨v,e,h⟩
theorem r_c (h:Q v H):tC v σ H Q:=h
theorem r_op {r:R2} (h:ta σ H fun x H1=>tb σ H1 fun y H2=>r x y H2 Q):tOp r ta tb σ H Q:=h
theorem r_un {r:V→Hp→VK→Prop} (h:ta σ H fun x H1=>r x H1 Q):tUn r ta σ H Q:=h
theorem r_I0 {g:Int→Int→V} {i j:Int} (h:Q (g i j) H):rI0 g (.int i) (.int j) H Q:=⟨i,j,rfl,rfl,h⟩
theorem r_I {C:Int→Int→Prop} {g:Int→Int→V} {i j:Int} (hc:C i j) (h:Q (g i j) H):rI C g (.int i) (.int j) H Q:=⟨i,j,rfl,rfl,hc,h⟩
theorem r_U {g:Int→V} {i:Int} (h:Q (g i) H):rU g (.int i) H Q:=⟨i,rfl,h⟩
theorem r_eqI {i j:Int} (h:Q (.bl (decide (i=j))) H):rEq (.int i) (.int j) H Q:=⟨rfl,by
 have e:decide (V.int i=V.int j)=decide (i=j):=by by_cases z:i=j <;> simp [z]
 rw [e];exact h⟩
theorem r_eqB {i j:Bool} (h:Q (.bl (decide (i=j))) H):rEq (.bl i) (.bl j) H Q:=⟨rfl,by
 have e:decide (V.bl i=V.bl j)=decide (i=j):=by by_cases z:i=j <;> simp [z]
 rw [e];exact h⟩
theorem r_exb {b:Bool} {Q:Bool→Prop} (h:Q b):∃k,V.bl b=.bl k∧Q k:=⟨b,rfl,h⟩
theorem r_test {Q:Bool→Hp→Prop} (h:te σ H fun x H'=>∃k,x=.bl k∧Q k H'):tTest te σ H Q:=h
theorem r_tB {Q:Bool→Hp→Prop} (h:te σ H fun x H'=>∃k,x=.bl k∧Q k H'):tB te σ H Q:=h
theorem r_and {Q:Bool→Hp→Prop} (h:c σ H fun b H1=>if b=true then c' σ H1 Q else Q false H1):tAnd c c' σ H Q:=h
theorem r_or {Q:Bool→Hp→Prop} (h:c σ H fun b H1=>if b=true then Q true H1 else c' σ H1 Q):tOr c c' σ H Q:=h
theorem r_not {Q:Bool→Hp→Prop} (h:c σ H fun b H1=>Q (!b) H1):tNot c σ H Q:=h
theorem r_andV (h:ta σ H fun x H1=>∃k,x=.bl k∧if k=true then tb σ H1 Q else Q (.bl false) H1):tAndV ta tb σ H Q:=h
theorem r_notV (h:ta σ H fun x H1=>∃k,x=.bl k∧Q (.bl (!k)) H1):tNotV ta σ H Q:=h
theorem r_next (h:D.nx σ H):tNext D σ H:=h
theorem r_seq (h:t {nx:=u D,rt:=D.rt,bk:=D.bk,ct:=D.ct} σ H):tSeq t u D σ H:=h
theorem r_drop (h:te σ H fun _ H1=>D.nx σ H1):tDrop te D σ H:=h
theorem r_ret (h:te σ H D.rt):tRet te D σ H:=h
theorem r_if (h:c σ H fun b H1=>if b=true then t D σ H1 else u D σ H1):tIfS c t u D σ H:=h
theorem r_asg {g:TG} (h:te σ H fun x H1=>g x σ H1 D.nx):tAsg te g D σ H:=h
theorem r_name {Q:L2.St→Hp→Prop} (e:σ.set i (some v)=σ') (h:Q σ' H):gName i v σ H Q:=by subst e;exact h
theorem r_gnil {Q:L2.St→Hp→Prop} (h:Q σ H):gNil [] σ H Q:=⟨rfl,h⟩
theorem r_gcons {g:TG} {gs:TGs} {vs:List V} {Q:L2.St→Hp→Prop} (h:g v σ H fun σ' H'=>gs vs σ' H' Q):gCons g gs (v :: vs) σ H Q:=⟨v,vs,rfl,h⟩
theorem r_gtup {n:Nat} {gs:TGs} {a:Addr} {xs:List V} {Q:L2.St→Hp→Prop} (hS:SqT K H a xs) (hn:xs.length=n) (h:gs xs σ H Q):gTup K n gs (.ref a) σ H Q:=⟨a,xs,rfl,hS,hn,h⟩
theorem r_nx {f b c:L2.St→Hp→Prop} {r:VK} (h:f σ H):Ends.nx {nx:=f,rt:=r,bk:=b,ct:=c} σ H:=h
theorem r_rt {f b c:L2.St→Hp→Prop} {r:VK} (h:r v H):Ends.rt {nx:=f,rt:=r,bk:=b,ct:=c} v H:=h
theorem r_nil {Q:List V→Hp→Prop} (h:Q [] H):tNil σ H Q:=h
theorem r_cons {Q:List V→Hp→Prop} (h:te σ H fun x H1=>ar σ H1 fun xs H2=>Q (x :: xs) H2):tCons te ar σ H Q:=h
theorem r_tup (h:ar σ H fun xs H1=>xs.length≤sizeLine∧∀p,H1 p=none→Q (.ref p) (upd H1 p (.tup xs))):tTup ar σ H Q:=h
theorem r_lst (h:ar σ H fun xs H1=>xs.length≤sizeLine∧∀p,H1 p=none→Q (.ref p) (upd H1 p (.lst xs))):tLst ar σ H Q:=h
theorem r_new {xs:List V} {A:Prop} (hn:xs.length≤sizeLine) (h:A):xs.length≤sizeLine∧A:=⟨hn,h⟩
theorem r_call {sp:Sp} {E:XK} (h:ar σ H fun vs H1=>sp vs H1 Q E):tCall sp [] E ar σ H Q:=by
 have e:(fun vs H1=>sp (vs++ []) H1 Q E)=fun vs H1=>sp vs H1 Q E:=by funext vs H1;rw [yD]
 show ar σ H fun vs H1=>sp (vs++ []) H1 Q E
 rw [e];exact h
theorem r_callX {sp:Sp} {W:L2.St→XK} (h:ar σ H fun vs H1=>sp vs H1 Q (W σ)):tCallX sp [] W ar σ H Q:=by
 have e:(fun vs H1=>sp (vs++ []) H1 Q (W σ))=fun vs H1=>sp vs H1 Q (W σ):=by funext vs H1;rw [yD]
 show ar σ H fun vs H1=>sp (vs++ []) H1 Q (W σ)
 rw [e];exact h
theorem r_cb {r:List V→Hp→VK→Prop} (h:ar σ H fun vs H1=>r vs H1 Q):tCB r ar σ H Q:=h
theorem r_raise {C:Addr} {W:L2.St→XK} (h:ar σ H fun xs H1=>xs.length≤sizeLine∧W σ (.ref C) none H1):tRaise ar C W D σ H:=h
theorem qb0 {p:Addr} {xs:List V} {k:Int} (hS:SqL K H p xs) (e:atI xs k=some v) (h:Q v H):rIxL K (.ref p) (.int k) H Q:=⟨p,xs,k,v,rfl,rfl,hS,e,h⟩
theorem r_ixT {p:Addr} {xs:List V} {k:Int} (hS:SqT K H p xs) (e:atI xs k=some v) (h:Q v H):rIxT K (.ref p) (.int k) H Q:=⟨p,xs,k,v,rfl,rfl,hS,e,h⟩
theorem r_fresh {R:Addr→Prop} (h:∀p,H p=none→R p):∀p,H p=none→R p:=h
theorem qff {p:Addr} {xs:List Int} {r:Int} (hS:SqL K H p (xs.map V.int)) (h0:0≤r) (h1:r < xs.length) (h:∀m,m∈xs→Q (.int m) H):rIxL K (.ref p) (.int r) H Q:=by
 have hk:r.toNat < xs.length:=by omega
 have ek:r=((r.toNat:Nat):Int):=by omega
 have q:atI (xs.map V.int) ((r.toNat:Nat):Int)=some (.int xs[r.toNat]):=qar (by rw [zC,zA hk] <;> rfl)
 rw [←ek] at q
 exact⟨p,_,r,_,rfl,rfl,hS,q,h _ (zJ hk)⟩
theorem r_cut0 (h:t {nx:=D.nx,rt:=D.rt,bk:=D.bk,ct:=D.ct} σ H):tCut t D σ H:=⟨D.nx,h,fun _ _ z=>z⟩
theorem qek (J:L2.St→Hp→Prop) (h:t {nx:=J,rt:=D.rt,bk:=D.bk,ct:=D.ct} σ H) (k:∀σ' H',J σ' H'→D.nx σ' H'):tCut t D σ H:=⟨J,h,k⟩
theorem r_lenL {p:Addr} {ys:List V} (hS:SqL K H p ys) (h:Q (.int ys.length) H):rLen K [.ref p] H Q:=⟨p,ys,rfl,.inl hS,h⟩
theorem r_notNn (h:Q (.bl false) H):rNotN .non .non H Q:=⟨rfl,h⟩
theorem r_notNr {a:Addr} (h:Q (.bl true) H):rNotN (.ref a) .non H Q:=⟨rfl,h⟩
end
section
variable {K : Frag} {σ : L2.St} {H : Hp} {D : Ends} {wi : TI} {g : TG} {tb : TS} {tl : TE} {ta : TA}
def FOR (J:It) (g:TG) (tb:TS) (D:Ends) (σ:L2.St) (H:Hp):Prop:=∃W:Nat→Nat→L2.St→Hp→Prop,(∃m,W 0 m σ H)∧∀i m σ H,W i m σ H→
 (J.stop i H∧D.nx σ H)∨(J.go i H∧∃N:L2.St→Hp→Prop,(∀σ' H',N σ' H'→∃m',m' < m∧W (i+1) m' σ' H')∧∀x H',J.yld i H x H'→g x σ H' fun σ2 H2=>tb {D with nx:=N,ct:=N,bk:=D.nx} σ2 H2)
def rItL (K:Frag) (x:V) (H:Hp) (R:It→Hp→Prop):Prop:=∃a,x=.ref a∧(∃xs,SqL K H a xs)∧R (Itl K a) H
def rItR (vs:List V) (H:Hp) (R:It→Hp→Prop):Prop:=∃j:Int,vs=[.int j]∧-(2^62)≤j∧j < 2^62∧R (Itr 0 j.toNat) H
theorem r_for (h:wi σ H fun J H1=>FOR J g tb D σ H1):tFor wi g tb D σ H:=h
theorem r_iL {R:It→Hp→Prop} (h:tl σ H fun x H1=>rItL K x H1 R):iList K tl σ H R:=h
theorem r_iR {R:It→Hp→Prop} (h:ta σ H fun vs H1=>rItR vs H1 R):iRng1 ta σ H R:=h
theorem r_itL {a:Addr} {xs:List V} {R:It→Hp→Prop} (hS:SqL K H a xs) (h:R (Itl K a) H):rItL K (.ref a) H R:=⟨a,rfl,⟨xs,hS⟩,h⟩
theorem r_itR {j:Int} {R:It→Hp→Prop} (h0: -(2^62)≤j) (h1:j < 2^62) (h:R (Itr 0 j.toNat) H):rItR [.int j] H R:=⟨j,rfl,h0,h1,h⟩
theorem qd6 {a:Addr} {xs:List V} (Pv:Nat→L2.St→Hp→Prop) (h0:Pv 0 σ H) (hl:∀i σ H,i≤xs.length→Pv i σ H→SqL K H a xs)
  (hs:∀i x σ H,xs[i]?=some x→Pv i σ H→g x σ H fun σ2 H2=>tb {nx:=Pv (i+1),rt:=D.rt,bk:=D.nx,ct:=Pv (i+1)} σ2 H2) (hd:∀σ H,Pv xs.length σ H→D.nx σ H):FOR (Itl K a) g tb D σ H:=for_list Pv h0 hl hs hd
theorem qby {lo:Int} {n:Nat} (Pv:Nat→L2.St→Hp→Prop) (h0:Pv 0 σ H)
  (hs:∀(i:Nat) σ H,i < n→Pv i σ H→g (.int (lo+i)) σ H fun σ2 H2=>tb {nx:=Pv (i+1),rt:=D.rt,bk:=D.nx,ct:=Pv (i+1)} σ2 H2) (hd:∀σ H,Pv n σ H→D.nx σ H):FOR (Itr lo n) g tb D σ H:=for_range Pv h0 hs hd
end
theorem qa4 {H:Hp} {a p:Addr} {o o':HO} (h:H a=some o) (n:H p=none):upd H p o' a=some o:=by rw [qa9 (qa7 h n)];exact h
theorem sqL_new {K:Frag} {H:Hp} {a p:Addr} {o:HO} {xs:List V} (h:SqL K H a xs) (n:H p=none):SqL K (upd H p o) a xs:=(qa8 n o).seq h
theorem sqT_new {K:Frag} {H:Hp} {a p:Addr} {o:HO} {xs:List V} (h:SqT K H a xs) (n:H p=none):SqT K (upd H p o) a xs:=same_tup (qa8 n o) h
theorem qb7 {H0 H:Hp} {p:Addr} {o:HO} (h:qaq H0 H) (n:H p=none):qaq H0 (upd H p o):=h.trans (qa8 n o)
theorem i_t {c A B:Prop} [Decidable c] (h:c) (hA:A):if decide c=true then A else B:=by rw [decide_eq_true h];exact iteT hA
theorem i_f {c A B:Prop} [Decidable c] (h:¬c) (hB:B):if decide c=true then A else B:=by rw [decide_eq_false h];exact iteF hB
theorem i_2 {c A B:Prop} [Decidable c] (h1:c→A) (h2:¬c→B):if decide c=true then A else B:=by
 by_cases h:c
 ·exact i_t h (h1 h)
 ·exact i_f h (h2 h)
theorem i_nT {A B:Prop} (h:B):if (!true)=true then A else B:=h
theorem i_nF {A B:Prop} (h:A):if (!false)=true then A else B:=iteT h
theorem i_b2 {b:Bool} {A B:Prop} (h1:b=true→A) (h2:b=false→B):if b=true then A else B:=by
 cases b
 ·exact iteF (h2 rfl)
 ·exact iteT (h1 rfl)
def AllC {α:Type} (f:α→Prop):List α→Prop
 | []=>True
 |a :: l=>f a∧AllC f l
theorem AllC.mem {α:Type} {f:α→Prop}:∀{l:List α},AllC f l→∀a∈l,f a
 | [],_,_,h=>absurd h (by simp)
 |b :: l,h,a,m=>by
  rcases zR.mp m with rfl|m
  ·exact h.1
  ·exact AllC.mem h.2 a m
def qbf (caps:List Nat) (σ:L2.St):L2.St:=caps.map fun j=>(σ[j]?).getD none
def rApp (acc:Addr) (N:Hp→Prop) (y:V) (H:Hp):Prop:=∃ys,H acc=some (.lst ys)∧ys.length < sizeLine∧N (upd H acc (.lst (ys++ [y])))
def COMP (J:It) (caps:List Nat) (tt:TT) (te:TE) (acc:Addr) (σ:L2.St) (H:Hp) (Q:VK):Prop:=∃W:Nat→Nat→Hp→Prop,(∃m,W 0 m H)∧∀i m H,W i m H→
 (J.stop i H∧Q (.ref acc) H)∨(J.go i H∧∃N:Hp→Prop,(∀H',N H'→∃m',m' < m∧W (i+1) m' H')∧∀v H',J.yld i H v H'→tt (some v :: qbf caps σ) H' fun b H2=>
  if b=true then te (some v :: qbf caps σ) H2 fun y H3=>rApp acc N y H3 else N H2)
abbrev CT (α:Type):=Addr→Shared→Hp→List Addr→α
def tComp (wi:TI) (caps:List Nat) (tt:CT TT) (te:CT TE):TE:=fun σ H Q=>wi σ H fun J H1=>∀(C:Addr) (s:Shared) (H0:Hp) (fp:List Addr) (acc:Addr),H1 acc=none→COMP J caps (tt C s H0 fp) (te C s H0 fp) acc σ (upd H1 acc (.lst [])) Q
def tTrue:TT:=fun _ H Q=>Q true H
def PIfs (X:Cx) (ifs:List Expr) (t:TT):Prop:=
 ∀(pins:List (Addr × Obj)) (s:Shared) (σ:L2.St) (H:Hp) (Q:Bool→Hp→Prop),Inv X pins σ H s→t σ H Q→
  wpAny (model X.prog X.w) X.A (forIn ifs true fun c r=>if r=true then do let ok←isTrue c X.env (eval c X.env);pure (ForInStep.yield ok) else pure (ForInStep.yield r)) (TP X pins σ Q) X.xe s
theorem qcj {X:Cx}:PIfs X [] tTrue:=fun pins s σ H Q I h=>wpAny_tests_nil ⟨H,I,h⟩
theorem qec {X:Cx} {c:Expr} {t:TT} (h:PT X c t):PIfs X [c] t:=fun pins s σ H Q I hw=>wpAny_tests_one (h pins s σ H Q I hw)
def cxC (X:Cx) (N:List Str) (scope:Scope) (cl:List (Str × Addr)) (C:Addr) (s:Shared) (H:Hp) (fp:List Addr):Cx where
 prog:=X.prog
 w:=X.w
 K:=X.K
 mg:=X.mg
 base:=X.base
 A:=X.A
 N:=N
 s₀:=s
 H₀:=H
 env:=compEnvC scope cl C X.env
 outer:=X.stack
 stack:=X.stack
 ex:=fp
 fn:=fun _=>false
 calm:=X.calm
 pn:=[]
 xe:=fun _ _=>False
structure Caps (X:Cx) (x:Str) (scope:Scope) (cl:List (Str × Addr)) (caps:List Nat) (cn:List Str):Prop where
 clos:closureFor scope X.env=pure cl
 kind:scope.kind=.function
 cell:∀y∈scope.names,y.2≠ .cell
 names:∀y∈scope.names,y.2=.local→scope.names.lookup y.1=some .local
 tg:scope.names.lookup x=some .local
 sub:∀y c,cl.lookup y=some c→X.env.cells.lookup y=some c
 has:∀y,((relabel scope X.env).names.lookup y=some .cell∨(relabel scope X.env).names.lookup y=some .free)→∃c,cl.lookup y=some c
 len:caps.length=cn.length
 cap:∀(k:Nat) (y:Str) (j:Nat),cn[k]?=some y→caps[k]?=some j→X.N[j]?=some y∧X.env.kindOf y=some .cell∧(relabel scope X.env).names.lookup y=some .cell∧X.env.scope.names.lookup y=some .cell∧∃c,cl.lookup y=some c
 nd:(x :: cn).Nodup
section
variable {X : Cx} {pins : List (Addr × Obj)} {σ : L2.St} {H : Hp} {s : Shared}
theorem Inv.comp {x:Str} {scope:Scope} {cl:List (Str × Addr)} {caps:List Nat} {cn:List Str} (Cp:Caps X x scope cl caps cn) (I:Inv X pins σ H s) {fp:List Addr} (hf:∀b∈fp,qgb X pins H b) (hlt:∀b∈fp,b < s.heap.objs.size) {h₁:Heap} {t':Nat}
  (hns:h₁.Ns s.heap.objs.size (fun _=>none)) (k:∀b o,s.heap.get? b=some o→h₁.get? b=some o):
  Inv (cxC X (x :: cn) scope cl s.heap.objs.size s H fp) [] (none :: qbf caps σ) H {s with heap:=h₁,toks:=t'}:=by
 have cne:∀y c,cl.lookup y=some c→∃v,s.heap.IsCell c v:=fun y c e=>I.cell y c (Cp.sub y c e)
 have ltC:∀y c,cl.lookup y=some c→c < s.heap.objs.size:=fun y c e=>let ⟨v,q⟩:=cne y c e;q.lt
 have isC:∀c v,s.heap.IsCell c v→h₁.IsCell c v:=fun c v ⟨o,e,d⟩=>⟨o,k c o e,d⟩
 refine⟨⟨I.ok.mod,Cp.kind,I.ok.glob,I.ok.blt,Nat.le_refl _,fun y z c e1 e2=>I.ok.inj y z c (Cp.sub y c e1) (Cp.sub z c e2),fun y hy=>Cp.has y hy,fun y c z=>(Bool.false_ne_true z).elim,I.ok.hd,I.ok.frames,.inl rfl,
  fun b hb=>⟨Nat.ne_of_lt (hlt b hb),fun y c e z=>?_⟩,I.bs,Nat.le_trans I.ok.bsz I.sz,fun b o e hb=>?_,fun b hb z=>?_,I.stack,I.stkFree⟩,
  rfl,I.bare,Un.kept k,⟨_,hns,fun i y v e1 e2 e3=>?_⟩,fun y c e=>?_,I.hok.fresh (Nat.le_refl _),fun y c e=>I.freeC y c (Cp.sub y c e),fun p hp=>absurd (show p∈([]:List (Addr × Obj)) from hp) (by simp),I.hok.kept k,?_⟩
 ·exact(hf b hb).2.2.2.2.1 y c (Cp.sub y c e) z
 ·rcases(hf b hb).2.2.2.1 with z|z
  ·exact I.ok.noex b o e z
  ·exact absurd (Nat.lt_of_lt_of_le (Heap.lt_size e) (Nat.le_trans I.ok.bsz z)) (Nat.lt_irrefl _)
 ·rcases zR.mp (I.stkSub b z) with z|z
  ·exact(hf b hb).2.1 z
  ·exact(hf b hb).2.2.1 z
 ·cases i with
  |zero=>cases e2
  |succ i=>
   have e1':cn[i]?=some y:=by simpa [cxC] using e1
   have e2':(qbf caps σ)[i]?=some (some v):=by simpa using e2
   unfold qbf at e2'
   rw [zC] at e2'
   obtain⟨j,hj,ej⟩:=Option.map_eq_some_iff.mp e2'
   obtain⟨c1,c2,c3,c5,c,c4⟩:=Cp.cap i y j e1' hj
   cases hs:σ[j]? with
   |none=>rw [hs] at ej;cases ej
   |some w=>
    rw [hs] at ej
    have ej':w=some v:=ej
    subst ej'
    obtain⟨m,hn,hl⟩:=I.loc
    obtain⟨u,r,l⟩:=hl j y v c1 hs (.inr (.inl c5))
    refine⟨u,r,.inr ⟨.inl c3,c,c4,?_⟩⟩
    rcases l with ⟨l,_⟩ |⟨_,c',e',q⟩
    ·rw [c2] at l;cases l
    ·rw [Cp.sub y c c4] at e'
     cases e'
     exact isC _ _ q
 ·obtain⟨v,q⟩:=cne y c e
  exact⟨v,isC c v q⟩
 ·show (none :: qbf caps σ).length=(x :: cn).length
  rw [zM,zM]
  unfold qbf
  rw [zB,Cp.len]
theorem Inv.uncomp {N:List Str} {scope:Scope} {cl:List (Str × Addr)} {C:Addr} {σ':L2.St} {H':Hp} {s':Shared} {fp:List Addr} (I:Inv X pins σ H s) (hf:∀b∈fp,qgb X pins H b) (hC:C=s.heap.objs.size)
  (J:Inv (cxC X N scope cl C s H fp) [] σ' H' s') {h':Heap} (sb:Heap.SameBut C s'.heap h'):Inv X pins σ H' {s' with heap:=h'}:=by
 have ne:∀b o,s.heap.get? b=some o→b≠C:=fun b o e=>by rw [hC];exact Nat.ne_of_lt (Heap.lt_size e)
 have u:Un (frs X.stack) fp H H' s.heap s'.heap:=J.base
 have hok:HOk X.prog X.w H' h':=fun b o e=>by
  refine(J.hok b o e).stay (fun c u' hc q=>(sb.2 c ?_).trans q) (fun _ q=>q) fun _ _ q=>q
  intro z
  have n:H' C=none:=J.free
  rcases hc with hc|hc
  ·rw [←hc,z,n] at e;cases e
  ·rw [z,n] at hc;cases hc
 refine I.call' (s':={s' with heap:=h'}) (ch:=fp) J.os ⟨fun b o e n hb hx=>(sb.2 b (ne b o e)).trans (u.keep b o e n hb hx),fun b o e n hb hx=>?_,u.free,fun b o e hx=>?_,u.tups,u.frzs,u.tbls⟩ hok J.bare fun b hb=>?_
 ·obtain⟨sl,q⟩:=u.slot b o e n hb hx
  exact⟨sl,(sb.2 b (ne b o e)).trans q⟩
 ·obtain⟨o',q⟩:=u.there b o e hx
  exact⟨o',(sb.2 b (ne b o e)).trans q⟩
 ·obtain⟨f0,f1,f2,f3,f4,f5⟩:=hf b hb
  exact⟨f3,f1,f4,f5⟩
end
section
variable {X : Cx}
theorem qbp {elt iter:Expr} {x:Str} {px:Pos} {ifs:List Expr} {scope:Scope} {cl:List (Str × Addr)} {pos:Pos} {caps:List Nat} {cn:List Str} {wi:TI} {tt:CT TT} {te:CT TE} (Cp:Caps X x scope cl caps cn) (hc:X.calm=true)
  (hi:PI X (.Name x px) iter wi) (ht:∀C s H fp,PIfs (cxC X (x :: cn) scope cl C s H fp) ifs (tt C s H fp)) (he:∀C s H fp,PE (cxC X (x :: cn) scope cl C s H fp) elt (te C s H fp))
  (hs:∀x,foldedSetIterable iter X.env x=pure x:=by intro _;rfl):
  PE X (.ListComp elt [⟨.Name x px,iter,ifs,0⟩] scope pos) (tComp wi caps tt te):=by
 intro pins s σ H Q I h
 rw [eval_ListComp]
 refine wpAny_comprehension_free (use:=none) rfl hs Cp.clos Cp.kind Cp.names (thn (hi pins s σ H _ I h) fun v s1 h1=>thn h1 fun itv s2 h2=>?_)
 obtain⟨it,fp,tn,J,H2,e,I2,T,st2,f2,R⟩:=h2
 subst e
 have hacc:H2 s2.heap.objs.size=none:=I2.hok.fresh (Nat.le_refl _)
 refine wpAny_newObj_type ?_
 have I3:Inv X pins σ (upd H2 s2.heap.objs.size (.lst [])) {s2 with heap:=s2.heap.push {cls:=.type "list",dict:=none,data:=.seq ([]:List Value).toArray}}:=Inv.lnew (its:=[]) (t':=s2.toks) I2 .nil (Nat.zero_le _)
 have lt2:∀b∈fp,b < s2.heap.objs.size:=fun b hb=>let ⟨o,e,_⟩:=T.obj _ _ st2 b hb;Heap.lt_size e
 have f3:∀b∈fp,qgb X pins (upd H2 s2.heap.objs.size (.lst [])) b:=fun b hb=>⟨by rw [qa9 (Nat.ne_of_lt (lt2 b hb))];exact(f2 b hb).1,(f2 b hb).2⟩
 have st3:tn 0 (s2.heap.push {cls:=.type "list",dict:=none,data:=.seq ([]:List Value).toArray}):=T.keep _ _ _ st2 fun b _ o e=>Heap.get?_push_of_some _ e
 generalize hs3:({s2 with heap:=s2.heap.push {cls:=.type "list",dict:=none,data:=.seq ([]:List Value).toArray}}:Shared)=s3 at I3 ⊢
 have st3':tn 0 s3.heap:=by rw [←hs3];exact st3
 generalize s2.heap.objs.size=acc at hacc I3 f3 ⊢
 obtain⟨W,⟨m0,w0⟩,turn⟩:=R s3.heap.objs.size s3 (upd H2 acc (.lst [])) fp acc hacc
 have lt3:∀b∈fp,b < s3.heap.objs.size:=fun b hb=>let ⟨o,e,_⟩:=T.obj _ _ st3' b hb;Heap.lt_size e
 clear st3 hs3
 refine wpAny_newFunctionEnv Cp.cell (by intro y hy;simp at hy) (fun h₁ hns hsb=>?_) Cp.kind
 have k1:∀b o,s3.heap.get? b=some o→h₁.get? b=some o:=fun b o e=>hsb.extBut b o (Nat.ne_of_lt (Heap.lt_size e)) (Heap.get?_push_of_some _ e)
 have I4:Inv (cxC X (x :: cn) scope cl s3.heap.objs.size s3 (upd H2 acc (.lst [])) fp) [] (none :: qbf caps σ) (upd H2 acc (.lst [])) {s3 with heap:=h₁,toks:=s3.toks+([]:List (Str × Value)).length}:=
  Inv.comp Cp I3 f3 lt3 hns k1
 have st4:tn 0 h₁:=T.keep _ _ _ st3' fun b _ o e=>k1 b o e
 generalize hX:cxC X (x :: cn) scope cl s3.heap.objs.size s3 (upd H2 acc (.lst [])) fp=X' at I4
 have stat:∀{H':Hp},(∀b∈fp,H' b=none)→∀b∈fp,qgb X' [] H' b:=fun hn b hb=>by
  subst hX
  obtain⟨g0,g1,g2,g3,g4,g5⟩:=f3 b hb
  refine⟨hn b hb,Nat.ne_of_lt (lt3 b hb),fun z=>?_,.inl hb,fun y c e=>g4 y c (Cp.sub y c e),fun p hp=>absurd (show p∈([]:List (Addr × Obj)) from hp) (by simp)⟩
  rcases zR.mp (I3.stkSub b z) with z|z
  ·exact g1 z
  ·exact g2 z
 have core:codeAny (model X.prog X.w) X.A (.compLoop (.ListComp elt [⟨.Name x px,iter,ifs,0⟩] scope pos) 0 (.ref it) (.ref acc) (compEnvC scope cl s3.heap.objs.size X.env))
   (compPost (model X.prog X.w) X.A X.xe none (EP X pins σ Q) (.ref acc) s3.heap.objs.size) {s3 with heap:=h₁,toks:=s3.toks+([]:List (Str × Value)).length}:=by
  refine codeAny_loop rfl (fun n s'=>∃i a H',Inv X' [] (a :: qbf caps σ) H' s'∧tn i s'.heap∧(∀b∈fp,H' b=none)∧W i n H') (fun n s5 hI=>?_) m0 ⟨0,none,_,I4,st4,fun b hb=>(f3 b hb).1,w0⟩
  obtain⟨i,a0,H5,I5,st5,fr5,w5⟩:=hI
  show wpAny _ _ ((compTurn _ 0 _ _ _).onRaise _) _ _ s5
  refine wpAny_noted ?_
  rw [compTurn_list]
  refine wpAny_bind (wpAny_standAt (wpAny_bind ?_))
  have aX:X'.A=X.A:=by subst hX;rfl
  have pX:X'.prog=X.prog:=by subst hX;rfl
  have wX:X'.w=X.w:=by subst hX;rfl
  have kX:X'.K=X.K:=by subst hX;rfl
  have cX:X'.calm=true:=by subst hX;exact hc
  have eX:X'.env=compEnvC scope cl s3.heap.objs.size X.env:=by subst hX;rfl
  rcases turn i n H5 w5 with ⟨stop,qn⟩ |⟨go,N,hN,step⟩
  ·have z:=T.done X' pX wX kX cX i [] s5 _ H5 (fun _ _=>False) I5 (stat fr5) st5 stop
   rw [aX] at z
   refine wpAny_mono z (fun r s6 ⟨hr,I6⟩=>?_) fun _ _ q=>q.elim
   subst hr
   subst hX
   obtain⟨m,hm,_⟩:=id I6.loc
   exact wpAny_pure ⟨m,hm,fun h' sb=>⟨.ref acc,H5,Inv.uncomp I3 f3 rfl I6 sb,rfl,qn⟩⟩
  ·have z:=T.item X' pX wX kX cX i [] s5 _ H5 (fun _ _=>False) I5 (stat fr5) st5 go
   rw [aX] at z
   refine wpAny_mono z (fun r s6 ⟨u,hr,h6⟩=>?_) fun _ _ q=>q.elim
   subst hr
   refine wpAny_bind (wpAny_mono h6 (fun _ s7 ⟨v,H7,I7,r7,y7,st7,fr7⟩=>?_) fun _ _ q=>q.elim)
   have I7':=I7.pinned (stat fr7) (T.obj _ _ st7)
   have asg:wpAny (model X.prog X.w) X.A (assign (.Name x px) (compEnvC scope cl s3.heap.objs.size X.env) u) (fun _ s8=>Inv X' ([]++qbv fp s7.heap) (some v :: qbf caps σ) H7 s8) (fun _ _=>False) s7:=by
    subst hX
    exact wpAny_assign_Name (qef (X:=cxC X (x :: cn) scope cl s3.heap.objs.size s3 (upd H2 acc (.lst [])) fp) (i:=0) I7' Cp.nd rfl (.inl (lookup_relabel_local Cp.tg)) r7 (fun s' I'=>I') (.inr (lookup_relabel_local Cp.tg)))
   refine wpAny_bind (wpAny_mono asg (fun _ s8 I8=>?_) fun _ _ q=>q.elim)
   have tst:wpAny (model X.prog X.w) X.A (forIn ifs true fun c r=>if r=true then do let ok←isTrue c (compEnvC scope cl s3.heap.objs.size X.env) (eval c (compEnvC scope cl s3.heap.objs.size X.env));pure (ForInStep.yield ok) else pure (ForInStep.yield r))
     (TP X' ([]++qbv fp s7.heap) (some v :: qbf caps σ) (fun b H9=>if b=true then te s3.heap.objs.size s3 (upd H2 acc (.lst [])) fp (some v :: qbf caps σ) H9 (fun y H3=>rApp acc N y H3) else N H9)) (fun _ _=>False) s8:=by
    subst hX
    exact ht _ _ _ _ _ s8 _ H7 _ I8 (step v H7 y7)
   refine wpAny_bind (wpAny_mono tst (fun b s9 ⟨H9,I9,q9⟩=>?_) fun _ _ q=>q.elim)
   have fin:∀{a:Option V} {H10:Hp} {s10:Shared},Inv X' ([]++qbv fp s7.heap) (a :: qbf caps σ) H10 s10→N H10→∃m',m' < n∧∃i a H',Inv X' [] (a :: qbf caps σ) H' s10∧tn i s10.heap∧(∀b∈fp,H' b=none)∧W i m' H':=fun {a H10 s10} I10 n10=>
    let ⟨m',hm,w10⟩:=hN _ n10
    ⟨m',hm,i+1,a,H10,I10.unpinned,T.keep _ _ _ st7 fun b hb o e=>(I10.pin (b,o) (zO _ (zO _ (qbq hb e)))).1,fun b hb=>by
     obtain⟨o,e,d⟩:=T.obj _ _ st7 b hb
     exact(I10.pin (b,o) (zO _ (zO _ (qbq hb e)))).2.1,w10⟩
   cases b with
   |false=>exact wpAny_pure ⟨rfl,fin I9 q9⟩
   |true=>
    have elt':wpAny (model X.prog X.w) X.A (eval elt (compEnvC scope cl s3.heap.objs.size X.env)) (EP X' ([]++qbv fp s7.heap) (some v :: qbf caps σ) (fun y H3=>rApp acc N y H3)) (fun _ _=>False) s9:=by
     subst hX
     exact he _ _ _ _ _ s9 _ H9 _ I9 q9
    refine wpAny_bind (wpAny_bind (wpAny_mono elt' (fun y s10 ⟨w,H10,I10,r10,ys,ha,hz,q10⟩=>?_) fun _ _ q=>q.elim))
    have app:wpAny (model X.prog X.w) X.A (call (.builtin "list.append") [.ref acc,y]) (EP X' ([]++qbv fp s7.heap) (some v :: qbf caps σ) fun _ H11=>H11=upd H10 acc (.lst (ys++ [w]))) (fun _ _=>False) s10:=by
     subst hX
     exact qat (X:=cxC X (x :: cn) scope cl s3.heap.objs.size s3 (upd H2 acc (.lst [])) fp) _ s10 _ H10 (.ref acc) [w] (.ref acc) [y] _ I10 rfl (.cons r10 .nil) ⟨acc,ys,w,rfl,rfl,ha,hz,rfl⟩
    refine wpAny_bind (wpAny_mono app (fun _ s11 ⟨_,H11,I11,_,e11⟩=>?_) fun _ _ q=>q.elim)
    subst e11
    exact wpAny_pure (wpAny_pure ⟨rfl,fin I11 q10⟩)
 exact codeAny_compStart_list core (T.self _ 0 _ _ _ st4 core)
def Its (x:Str):It:=⟨fun i _=>i < x.cps.size,fun i H v H'=>H'=H∧∃c,x.cps[i]?=some c∧v=.str ⟨#[c]⟩,fun i _=>i=x.cps.size⟩
theorem turn_str {P:Program} {w:World} {K:Frag} {y:Str} {py:Pos} (x:Str) (t:Tok) (it:Addr) (ty:String) (W:∀A:Around,A.handled=none→Walks P w A it [it] [it] x.cps.size (SignAt x) (fun i h=>h.IsStrIter it ty x t i))
  (hself:∀(A:Around) (i:Nat) (s:Shared) (Q:Value→Shared→Prop) (E:Value→Shared→Prop),s.heap.IsStrIter it ty x t i→Q (.ref it) s→wpAny (model P w) A (pyIter (.ref it)) Q E s):
  Turn P w K (.Name y py) (Its x) [it] it (fun i h=>h.IsStrIter it ty x t i) where
 mem:=by simp
 obj:=fun i h st b hb=>by
  have e:b=it:=by simpa using hb
  subst e
  obtain⟨o,e,c,d⟩:=st
  exact⟨o,e,fun v z=>by rw [d] at z;cases z⟩
 keep:=fun i h h' ⟨o,e,r⟩ k=>⟨o,k it (by simp) o e,r⟩
 item:=by
  intro X hP hw hK hc i pins s σ H E I hf st hg
  subst hP hw hK
  obtain⟨f0,f1,f2,f3,f4,f5⟩:=hf it (by simp)
  refine(W X.A (I.ok.hd hc)).item i s _ _ hg st fun v h' tk hv st' k=>?_
  have I1:Inv X pins σ H {s with heap:=h',toks:=tk}:=I.turned (t':=tk) (fun b o hb e=>k b o (fun z=>hb (by simpa using z)) e) f0 f1 f3 f4 f5
  obtain⟨c,u,hx,rfl⟩:=hv
  exact⟨_,rfl,wpAny_pure ⟨.str ⟨#[c]⟩,H,I1,⟨_,rfl⟩,⟨rfl,c,hx,rfl⟩,st',fun b hb=>(hf b hb).1⟩⟩
 done:=by
  intro X hP hw hK hc i pins s σ H E I hf st hg
  subst hP hw hK
  have hg':i=x.cps.size:=hg
  subst hg'
  obtain⟨f0,f1,f2,f3,f4,f5⟩:=hf it (by simp)
  exact(W X.A (I.ok.hd hc)).done s _ _ st fun h' tk k=>⟨rfl,I.turned (t':=tk) (fun b o hb e=>k b o (fun z=>hb (by simpa using z)) e) f0 f1 f3 f4 f5⟩
 self:=hself
def rItS (v:V) (H:Hp) (R:It→Hp→Prop):Prop:=∃x,v=.str x∧R (Its x) H
def iStr (tl:TE):TI:=fun σ H R=>tl σ H fun v H1=>rItS v H1 R
end
end My
namespace L2
open PySem PySem.Spec PyProof.Rows
section
variable {κ : Type} [DecidableEq κ]
def qcp (kvs:List (κ × V)) (k:κ):Option V:=(kvs.find? fun kv=>decide (kv.1=k)).map (·.2)
def qdm (kvs:List (κ × V)) (k:κ) (v:V):List (κ × V):=
 if (kvs.any fun kv=>decide (kv.1=k))=true then kvs.map (fun kv=>if kv.1=k then (kv.1,v) else kv) else kvs++ [(k,v)]
theorem qbn {p:κ × V} {r:List (κ × V)} {k:κ} (e:p.1=k):qcp (p :: r) k=some p.2:=by simp [qcp,yM,e]
theorem qbo {p:κ × V} {r:List (κ × V)} {k:κ} (e:¬p.1=k):qcp (p :: r) k=qcp r k:=by simp [qcp,yM,e]
theorem qch (k:κ):∀kvs:List (κ × V),(kvs.any fun kv=>decide (kv.1=k))=(qcp kvs k).isSome
 | []=>rfl
 |p :: r=>by
  rw [yW]
  by_cases e:p.1=k
  ·simp only [qbn e,decide_eq_true e,Bool.true_or,Option.isSome_some]
  ·rw [qbo e,decide_eq_false e,Bool.false_or];exact qch k r
theorem valV_map (k j:κ) (y:V):∀kvs:List (κ × V),qcp (kvs.map fun kv=>if kv.1=k then (kv.1,y) else kv) j=(qcp kvs j).map fun x=>if j=k then y else x
 | []=>rfl
 |p :: r=>by
  have ih:=valV_map k j y r
  rw [zS]
  by_cases h:p.1=k
  ·rw [if_pos h]
   by_cases e:p.1=j
   ·rw [qbn (p:=(p.1,y)) e,qbn e,Option.map_some,if_pos (e.symm.trans h)]
   ·rw [qbo (p:=(p.1,y)) e,qbo e,ih]
  ·rw [if_neg h]
   by_cases e:p.1=j
   ·rw [qbn (p:=p) e,qbn e,Option.map_some,if_neg (fun z=>h (e.trans z))]
   ·rw [qbo (p:=p) e,qbo e,ih]
theorem valV_snoc (k j:κ) (y:V):∀kvs:List (κ × V),qcp kvs k=none→qcp (kvs++ [(k,y)]) j=if j=k then some y else qcp kvs j
 | [],_=>by
  by_cases e:k=j
  ·rw [if_pos e.symm];exact qbn (p:=(k,y)) e
  ·rw [if_neg (fun z=>e z.symm)];exact qbo (p:=(k,y)) e
 |p :: r,hn=>by
  rw [List.cons_append]
  have hk:¬p.1=k:=fun z=>by rw [qbn z] at hn;cases hn
  rw [qbo hk] at hn
  have ih:=valV_snoc k j y r hn
  by_cases e:p.1=j
  ·rw [qbn e,qbn e,if_neg (fun z=>hk (e.trans z))]
  ·rw [qbo e,qbo e,ih]
theorem valV_put (kvs:List (κ × V)) (k j:κ) (y:V):qcp (qdm kvs k y) j=if j=k then some y else qcp kvs j:=by
 unfold qdm
 by_cases a:(kvs.any fun kv=>decide (kv.1=k))=true
 ·rw [if_pos a,valV_map]
  rw [qch] at a
  by_cases e:j=k
  ·obtain⟨x,hx⟩:=Option.isSome_iff_exists.mp a
   rw [if_pos e,e,hx,Option.map_some,if_pos rfl]
  ·rw [if_neg e]
   cases qcp kvs j with
   |none=>rfl
   |some x=>rw [Option.map_some,if_neg e]
 ·rw [if_neg a]
  refine valV_snoc k j y kvs ?_
  rw [qch] at a
  cases q:qcp kvs k with
  |none=>rfl
  |some x=>rw [q] at a;exact(a rfl).elim
theorem qbx (kvs:List (κ × V)) (k:κ) (v:V):(qdm kvs k v).length≤kvs.length+1:=by
 unfold qdm
 split
 ·rw [zB];omega
 ·rw [zG,zM,yQ];omega
theorem qfz {kvs:List (κ × V)} {k:κ} (v:V) (h:qcp kvs k=none):qdm kvs k v=kvs++ [(k,v)]:=by
 unfold qdm
 rw [qch,h]
 exact if_neg (by decide)
theorem qg9.isSome_eq {o:Option V} {u:Option Value} (r:qg9 o u):o.isSome=u.isSome:=by
 cases o with
 |none=>cases u with
  |none=>rfl
  |some _=>exact(show False from r).elim
 |some _=>cases u with
  |none=>exact(show False from r).elim
  |some _=>rfl
theorem qg9.getD {o:Option V} {u:Option Value} {d:V} {d':Value} (r:qg9 o u) (rd:qba d d'):qba (o.getD d) (u.getD d'):=by
 cases o with
 |none=>cases u with
  |none=>exact rd
  |some _=>exact(show False from r).elim
 |some _=>cases u with
  |none=>exact(show False from r).elim
  |some _=>exact r
theorem KV.val {kvs:List (κ × V)} {vs:List (κ × Value)} (r:KV kvs vs) (k:κ):qg9 (qcp kvs k) (valueAt vs k):=by
 unfold KV at r
 induction r with
 |nil=>exact True.intro
 | @cons p q ps qs h t ih=>
  obtain⟨h1,h2⟩:=h
  by_cases e:p.1=k
  ·have e':q.1=k:=h1.symm.trans e
   have b:valueAt (q :: qs) k=some q.2:=by simp [valueAt,yM,e']
   rw [qbn e,b];exact h2
  ·have e':¬q.1=k:=fun z=>e (h1.trans z)
   have b:valueAt (q :: qs) k=valueAt qs k:=by simp [valueAt,yM,e']
   rw [qbo e,b];exact ih
theorem KV.any {kvs:List (κ × V)} {vs:List (κ × Value)} (r:KV kvs vs) (k:κ):(kvs.any fun kv=>decide (kv.1=k))=vs.any fun kv=>decide (kv.1=k):=by
 unfold KV at r
 induction r with
 |nil=>rfl
 |cons h t ih=>rw [yW,yW,ih,h.1]
theorem KV.repl {kvs:List (κ × V)} {vs:List (κ × Value)} (r:KV kvs vs) (k:κ) {y:V} {u:Value} (ry:qba y u):
  KV (kvs.map fun kv=>if kv.1=k then (kv.1,y) else kv) (vs.map fun kv=>if kv.1=k then (kv.1,u) else kv):=by
 unfold KV at r ⊢
 induction r with
 |nil=>exact .nil
 | @cons p q ps qs h t ih=>
  rw [zS,zS]
  refine .cons ?_ ih
  obtain⟨h1,h2⟩:=h
  by_cases e:p.1=k
  ·rw [if_pos e,if_pos (h1.symm.trans e)];exact⟨h1,ry⟩
  ·rw [if_neg e,if_neg (fun z=>e (h1.trans z))];exact⟨h1,h2⟩
theorem KV.put {kvs:List (κ × V)} {vs:List (κ × Value)} (r:KV kvs vs) (k:κ) {y:V} {u:Value} (ry:qba y u):KV (qdm kvs k y) (stored vs k u):=by
 unfold qdm stored
 rw [r.any k]
 by_cases e:(vs.any fun kv=>decide (kv.1=k))=true
 ·rw [if_pos e,if_pos e];exact r.repl k ry
 ·rw [if_neg e,if_neg e];exact Paired.snoc r ⟨rfl,ry⟩
theorem KV.keys {kvs:List (κ × V)} {vs:List (κ × Value)} (r:KV kvs vs):kvs.map (·.1)=vs.map (·.1):=by
 unfold KV at r
 induction r with
 |nil=>rfl
 |cons h t ih=>rw [zS,zS,ih,h.1]
theorem KV.length {kvs:List (κ × V)} {vs:List (κ × Value)} (r:KV kvs vs):kvs.length=vs.length:=Paired.length r
end
theorem kV_is {P:Program} {w:World} {k:Key} {u:Value} (r:qba (kV k) u):(qb6 P w).is k u=true:=by
 cases k with
 |inl i=>obtain⟨t,e⟩:=(show ∃t,u=Value.int i t from r);subst e;exact mixKind_int P w i t
 |inr x=>obtain⟨t,e⟩:=(show ∃t,u=Value.str x t from r);subst e;exact mixKind_str P w x t
theorem items_are {P:Program} {w:World}:∀{ks:List Key} {us:List Value},qb9 (ks.map kV) us→ItemsAre (qb6 P w) ks us
 | [],_,r=>by rw [List.map_nil] at r;cases r;exact .nil
 |k :: ks,_,r=>by
  rw [zS] at r
  cases r with
  |cons h t=>exact .cons (kV_is h) (items_are t)
abbrev KT (H:Hp):List (List Key × V)→List (List Key × Addr × Value)→Prop:=Paired fun p q=>p.1=q.1∧H q.2.1=some (.tup (p.1.map kV))∧qba p.2 q.2.2
theorem KT.val {H:Hp} {kvs:List (List Key × V)} {xs:List (List Key × Addr × Value)} (r:KT H kvs xs) (k:List Key):qg9 (qcp kvs k) ((atKey xs k).map (·.2)):=by
 induction r with
 |nil=>exact True.intro
 | @cons p q ps qs h t ih=>
  obtain⟨h1,_,h2⟩:=h
  by_cases e:p.1=k
  ·have e':q.1=k:=h1.symm.trans e
   have b:atKey (q :: qs) k=some q.2:=by simp [atKey,yM,e']
   rw [qbn e,b];exact h2
  ·have e':¬q.1=k:=fun z=>e (h1.trans z)
   have b:atKey (q :: qs) k=atKey qs k:=by simp [atKey,yM,e']
   rw [qbo e,b];exact ih
theorem KT.repl {H:Hp} {kvs:List (List Key × V)} {xs:List (List Key × Addr × Value)} (r:KT H kvs xs) (k:List Key) {y:V} {u:Value} (ry:qba y u):
  KT H (kvs.map fun kv=>if kv.1=k then (kv.1,y) else kv) (xs.map (putAt k u)):=by
 induction r with
 |nil=>exact .nil
 | @cons p q ps qs h t ih=>
  rw [zS,zS]
  refine .cons ?_ ih
  obtain⟨h1,h2,h3⟩:=h
  unfold putAt
  by_cases e:p.1=k
  ·rw [if_pos e,if_pos (h1.symm.trans e)];exact⟨h1,h2,ry⟩
  ·rw [if_neg e,if_neg (fun z=>e (h1.trans z))];exact⟨h1,h2,h3⟩
theorem KT.put {H:Hp} {kvs:List (List Key × V)} {xs:List (List Key × Addr × Value)} (r:KT H kvs xs) (k:List Key) {b:Addr} {y:V} {u:Value} (hb:H b=some (.tup (k.map kV))) (ry:qba y u):
  KT H (qdm kvs k y) (storedH xs k b u):=by
 have e:(kvs.any fun kv=>decide (kv.1=k))=(atKey xs k).isSome:=by
  rw [qch,(r.val k).isSome_eq,Option.isSome_map]
 unfold qdm storedH
 rw [e]
 by_cases q:(atKey xs k).isSome=true
 ·rw [if_pos q,if_pos q];exact r.repl k ry
 ·rw [if_neg q,if_neg q];exact Paired.snoc r ⟨rfl,hb,ry⟩
theorem KT.keeps {H H':Hp} {kvs:List (List Key × V)} {xs:List (List Key × Addr × Value)} (r:KT H kvs xs) (ht:∀b ys,H b=some (.tup ys)→H' b=some (.tup ys)):KT H' kvs xs:=
 Paired.mapP r fun _ _ z=>⟨z.1,ht _ _ z.2.1,z.2.2⟩
section
variable {P : Program} {w : World} {H : Hp} {h : Heap} {a : Addr}
theorem rd_of {u:HO} (ok:HOk P w H h) (e:Rd H a u):qbi P w H h a u:=e.ok ok
theorem qfa {kvs:List (Key × V)} (ok:HOk P w H h) (e:Rd H a (.dK kvs)):kvs.length≤sizeLine∧(a==sysModules)=false∧∃vs,KV kvs vs∧h.DictOf (qb6 P w) a vs:=
 show qbi P w H h a (.dK kvs) from rd_of ok e
theorem dk_of {kvs:List (Key × V)} (ok:HOk P w H h) (e:H a=some (.dK kvs)):kvs.length≤sizeLine∧(a==sysModules)=false∧∃vs,KV kvs vs∧h.DictOf (qb6 P w) a vs:=qfa ok (.inl e)
theorem key_of {ks:List Key} (ok:HOk P w H h) (e:H a=some (.tup (ks.map kV))):(tupleKind (qb6 P w)).is h ks a:=by
 obtain⟨_,its,r,o,h1,h2,n,h3⟩:=(show qbi P w H h a (.tup (ks.map kV)) from ok a _ e)
 exact⟨o,its.toArray,n,h1,h2,h3,by simpa using items_are r⟩
theorem dt_rd {kvs:List (List Key × V)} (ok:HOk P w H h) (e:Rd H a (.dT kvs)):kvs.length≤sizeLine∧(a==sysModules)=false∧
  ∃xs,KT H kvs xs∧h.DictOfH (tupleKind (qb6 P w)) a xs:=by
 obtain⟨z,y,xs,r,o,es,ep,h1,h2,h3,h4,h5⟩:=(show qbi P w H h a (.dT kvs) from rd_of ok e)
 refine⟨z,y,xs,r,o,es,ep,h1,h2,h3,h4,fun x hx=>?_,h5⟩
 have all:∀{l:List (List Key × V)} {m:List (List Key × Addr × Value)},KT H l m→∀x∈m,(tupleKind (qb6 P w)).is h x.1 x.2.1:=by
  intro l m q
  induction q with
  |nil=>intro x hx;exact nomatch hx
  | @cons p q ps qs hq t ih=>
   intro x hx
   rcases zR.mp hx with e|hx
   ·subst e
    exact key_of ok (by rw [←hq.1];exact hq.2.1)
   ·exact ih x hx
 exact all r x hx
theorem dt_of {kvs:List (List Key × V)} (ok:HOk P w H h) (e:H a=some (.dT kvs)):kvs.length≤sizeLine∧(a==sysModules)=false∧
  ∃xs,KT H kvs xs∧h.DictOfH (tupleKind (qb6 P w)) a xs:=dt_rd ok (.inl e)
end
def DGet (H:Hp) (a:Addr) (y:V) (r:Option V):Prop:=
 (∃kvs k,Rd H a (.dK kvs)∧y=kV k∧r=qcp kvs k)∨∃kvs k b,Rd H a (.dT kvs)∧y=.ref b∧H b=some (.tup (k.map kV))∧r=qcp kvs k
def DPut (H:Hp) (a:Addr) (y v:V) (H':Hp):Prop:=
 (∃kvs k,H a=some (.dK kvs)∧y=kV k∧kvs.length < sizeLine∧H'=upd H a (.dK (qdm kvs k v)))∨
 ∃kvs k b,H a=some (.dT kvs)∧y=.ref b∧H b=some (.tup (k.map kV))∧kvs.length < sizeLine∧H'=upd H a (.dT (qdm kvs k v))
theorem DPut.k {H:Hp} {a:Addr} {kvs:List (Key × V)} {k:Key} {v:V} (e:H a=some (.dK kvs)) (hl:kvs.length < sizeLine):DPut H a (kV k) v (upd H a (.dK (qdm kvs k v))):=.inl ⟨kvs,k,e,rfl,hl,rfl⟩
theorem DPut.t {H:Hp} {a b:Addr} {kvs:List (List Key × V)} {k:List Key} {v:V} (e:H a=some (.dT kvs)) (eb:H b=some (.tup (k.map kV))) (hl:kvs.length < sizeLine):
  DPut H a (.ref b) v (upd H a (.dT (qdm kvs k v))):=.inr ⟨kvs,k,b,e,rfl,eb,hl,rfl⟩
section
variable {X : Cx} {pins : List (Addr × Obj)} {σ : St} {H : Hp} {s : Shared} {a : Addr} {y v : V} {u r : Value} {o : Option V} {A : Around} {E : Value → Shared → Prop}
theorem Inv.big (I:Inv X pins σ H s):sysModules < s.heap.objs.size:=by
 have h:mainGlobals < s.heap.objs.size:=(I.mod.glob.keeps I.bk).lt
 exact Nat.lt_trans (by decide) h
theorem d_getItem {Q:Value→Shared→Prop} (hu:A.units+1 < cLine) (I:Inv X pins σ H s) (g:DGet H a y (some v)) (ry:qba y u) (h:∀w' s',Inv X pins σ H s'→qba v w'→Q w' s'):
  wpAny (model X.prog X.w) A (getItem (.ref a) u) Q E s:=by
 rcases g with ⟨kvs,k,e,ey,l⟩ |⟨kvs,k,b,e,ey,eb,l⟩
 ·subst ey
  obtain⟨z,hd,vs,rel,dd⟩:=qfa I.hok e
  obtain⟨w',hw,rw'⟩:=qg9.some_of (v:=v) (o:=valueAt vs k) (by rw [l];exact rel.val k)
  exact wpAny_getItem_of (kV_is ry) dd.mapOf hw (h w' _ (I.tok _) rw')
 ·subst ey
  cases (show u=Value.ref b from ry)
  obtain⟨z,hd,xs,rel,dd⟩:=dt_rd I.hok e
  obtain⟨w',hw,rw'⟩:=qg9.some_of (v:=v) (o:=(atKey xs k).map (·.2)) (by rw [l];exact rel.val k)
  obtain⟨p,hp,hp2⟩:=Option.map_eq_some_iff.mp hw
  refine wpAny_getItem_heap (tupleKind_room_in1 hu) (key_of I.hok eb) dd hp ?_
  rw [hp2]
  exact h w' _ (I.tok _) rw'
theorem d_in {Q:Value→Shared→Prop} (hu:A.units+1 < cLine) (I:Inv X pins σ H s) (g:DGet H a y o) (ry:qba y u) (h:∀s',Inv X pins σ H s'→Q (.bool o.isSome) s'):
  wpAny (model X.prog X.w) A (compareOp .In u (.ref a)) Q E s:=by
 rcases g with ⟨kvs,k,e,ey,l⟩ |⟨kvs,k,b,e,ey,eb,l⟩
 ·subst ey
  obtain⟨z,hd,vs,rel,dd⟩:=qfa I.hok e
  refine wpAny_in_of (kV_is ry) hd dd.mapOf ?_
  rw [←(rel.val k).isSome_eq,←l]
  exact h _ (I.tok _)
 ·subst ey
  cases (show u=Value.ref b from ry)
  obtain⟨z,hd,xs,rel,dd⟩:=dt_rd I.hok e
  refine wpAny_in_heap (tupleKind_room_in1 hu) (key_of I.hok eb) hd dd ?_
  have q:=(rel.val k).isSome_eq
  rw [Option.isSome_map] at q
  rw [←q,←l]
  exact h _ (I.tok _)
theorem d_write {h':Heap} {t':Nat} {ob:HO} (I:Inv X pins σ H s) (mu:Mut (H a)) (hs:Heap.SameBut a s.heap h') (he:∃q,h'.get? a=some q) (new:qbi X.prog X.w (upd H a ob) h' a ob):
  Inv X pins σ (upd H a ob) {s with heap:=h',toks:=t'}:=
 I.write (x:=a) (e:=a) mu (.inl rfl) (fun b q hb z=>(hs.2 b hb).trans z) he new
theorem dk_new {P:Program} {w:World} {H':Hp} {h':Heap} {kvs:List (Key × V)} {vs:List (Key × Value)} (z:kvs.length≤sizeLine) (hd:(a==sysModules)=false) (rel:KV kvs vs) (dd:h'.DictOf (qb6 P w) a vs):
  qbi P w H' h' a (.dK kvs):=⟨z,hd,vs,rel,dd⟩
theorem d_setItem {H':Hp} {Q:Unit→Shared→Prop} (hu:A.units+1 < cLine) (I:Inv X pins σ H s) (g:DPut H a y v H') (ry:qba y u) (rv:qba v r) (h:∀s',Inv X pins σ H' s'→Q () s'):
  wpAny (model X.prog X.w) A (setItem (.ref a) u r) Q E s:=by
 rcases g with ⟨kvs,k,e,ey,l,eH⟩ |⟨kvs,k,b,e,ey,eb,l,eH⟩
 ·subst ey eH
  obtain⟨z,hd,vs,rel,dd⟩:=dk_of I.hok e
  have hz:vs.length≤sizeLine:=by rw [←rel.length];exact z
  have hl:(qdm kvs k v).length≤sizeLine:=by have:=qbx kvs k v;omega
  refine wpAny_setItem_pairs (hsz:=hz) (kV_is ry) dd fun h' dd' hs=>h _ ?_
  have he:∃q,h'.get? a=some q:=let ⟨q,_,_,hq,_⟩:=dd';⟨q,hq⟩
  exact d_write I (by rw [e];exact True.intro) hs he (dk_new hl hd (rel.put k rv) dd')
 ·subst ey eH
  cases (show u=Value.ref b from ry)
  obtain⟨z,hd,xs,rel,dd⟩:=dt_of I.hok e
  have hz:xs.length≤sizeLine:=by rw [←Paired.length rel];exact z
  have hl:(qdm kvs k v).length≤sizeLine:=by have:=qbx kvs k v;omega
  refine wpAny_setItem_heap (hsz:=hz) (tupleKind_room_in1 hu) (key_of I.hok eb) dd fun h' dd' hs=>h _ ?_
  obtain⟨q,es,ep,hq,h2,h3,h4,_,h5⟩:=dd'
  refine d_write I (by rw [e];exact True.intro) hs ⟨q,hq⟩ ⟨hl,hd,_,(rel.put k eb rv).keeps fun c ys ec=>?_,q,es,ep,hq,h2,h3,h4,h5⟩
  rw [qa9 (ne_of ec e (fun z=>nomatch z))]
  exact ec
end
section
variable {X : Cx} {pins : List (Addr × Obj)} {σ : St} {H : Hp} {s : Shared} {a : Addr} {kvs : List (Key × V)} {k : Key} {u : Value} {A : Around} {E : Value → Shared → Prop}
theorem d_len {Q:Value→Shared→Prop} (I:Inv X pins σ H s) (e:Rd H a (.dK kvs)) (h:∀t s',Inv X pins σ H s'→Q (.int kvs.length t) s'):wpAny (model X.prog X.w) A (call (.builtin "len") [.ref a]) Q E s:=by
 obtain⟨z,hd,vs,rel,dd⟩:=qfa I.hok e
 refine call_len_dict hd dd (by rw [←rel.length];rw [sizeLine_eq] at z;omega) ?_
 rw [←rel.length]
 exact h _ _ (I.tok _)
end
def NoSl (i:Expr):Prop:=∀ov iv,subscripted i false ov iv=operate [ov,iv] (getItem ov iv)
theorem subD_of {prog:Program} {w:World} {A:Around} {E:Value→Shared→Prop} {s:Shared} {env:Env} {value slice:Expr} {pos:Pos} {T id:String} {Q:Value→Shared→Prop}
  (hl:typeLookup (.type T) "__getitem__" =pure (some (.builtin id))) (hs:NoSl slice)
  (h:wpAny (model prog w) A (eval value env) (fun o s₁=>wpAny (model prog w) A (eval slice env) (fun i s₂=>s₂.TypeIs o T∧wpAny (model prog w) A (getItem o i) Q E s₂) E s₁) E s):
  wpAny (model prog w) A (eval (.Subscript value slice pos) env) Q E s:=by
 refine Subscript_ (wpAny_mono h (fun o s₁ h₁=>wpAny_mono h₁ (fun i s₂ h₂=>?_) fun _ _ x=>x) fun _ _ x=>x)
 obtain⟨hT,h₂⟩:=h₂
 unfold subscriptTail
 refine wpAny_bind ?_
 rw [getitemInPython_of_ne hT.not_modules]
 refine wpAny_bind (wpAny_specialOf hT hl ?_)
 have fin:wpAny (model prog w) A (subscripted slice false o i) (fun r s₃=>wpAny (model prog w) A (letTemporaryGo value o r >>= fun _=>pure r) Q E s₃) E s₂:=by
  rw [hs o i]
  exact wpAny_operating (wpAny_mono h₂ (fun r s₃ h₃=>wpAny_bind (wpAny_letTemporaryGo (wpAny_pure h₃))) fun _ _ x=>x)
 first
  |exact wpAny_pure (wpAny_bind fin)
  |exact wpAny_bind (wpAny_pure (wpAny_bind fin))
  |exact wpAny_bind fin
theorem dict_typeIs {X:Cx} {pins:List (Addr × Obj)} {σ:St} {H:Hp} {s:Shared} {a:Addr} {y:V} {o:Option V} (I:Inv X pins σ H s) (g:DGet H a y o):s.TypeIs (.ref a) "dict":=by
 rcases g with ⟨kvs,k,e,_,_⟩ |⟨kvs,k,b,e,_,_,_⟩
 ·obtain⟨_,_,vs,_,dd⟩:=qfa I.hok e
  exact dd.typeIs
 ·obtain⟨_,_,xs,_,dd⟩:=dt_rd I.hok e
  exact dd.typeIs
def tDGet (td ty:TE):TE:=fun σ H Q=>td σ H fun x H1=>ty σ H1 fun y H2=>∃a v,x=.ref a∧DGet H2 a y (some v)∧Q v H2
def tDIn (ty td:TE):TE:=fun σ H Q=>ty σ H fun y H1=>td σ H1 fun x H2=>∃a o,x=.ref a∧DGet H2 a y o∧Q (.bl o.isSome) H2
def sDPut (td ty tv:TE):TS:=fun D σ H=>tv σ H fun v H1=>td σ H1 fun x H2=>ty σ H2 fun y H3=>∃a H4,x=.ref a∧DPut H3 a y v H4∧D.nx σ H4
section
variable {X : Cx} {o i e value : Expr} {pos pos' tpos : Pos} {td ty tv : TE}
theorem qc7 (hu:X.A.units+1 < cLine) (ho:PE X o td) (hi:PE X i ty) (hs:NoSl i):PE X (.Subscript o i pos) (tDGet td ty):=by
 intro pins s σ H Q I h
 refine subD_of PySem.F.slot_dict_getitem.lookup hs (thn (ho pins s σ H _ I h) fun u s1 ⟨x,H1,I1,rx,q1⟩=>thn (hi pins s1 σ H1 _ I1 q1) fun iv s2 ⟨y,H2,I2,ry,a,v,ex,g,q2⟩=>?_)
 subst ex
 obtain rfl:u=Value.ref a:=rx
 exact⟨dict_typeIs I2 g,d_getItem hu I2 g ry fun w' s3 I3 rw'=>⟨v,H2,I3,rw',q2⟩⟩
theorem pc_din (hu:X.A.units+1 < cLine) (hi:PE X i ty) (ho:PE X o td):PC X .In i o (tDIn ty td):=by
 intro pins s σ H Q I h
 refine thn (hi pins s σ H _ I h) fun iv s1 ⟨y,H1,I1,ry,q1⟩=>thn (ho pins s1 σ H1 _ I1 q1) fun u s2 ⟨x,H2,I2,rx,a,ov,ex,g,q2⟩=>?_
 subst ex
 obtain rfl:u=Value.ref a:=rx
 exact d_in hu I2 g ry fun s3 I3=>⟨.bl ov.isSome,H2,I3,rfl,q2⟩
theorem qem (hu:X.A.units+1 < cLine) (ho:PE X o td) (hi:PE X i ty) (hv:PE X value tv) (hs:swapsWith value (some (.Subscript o i pos')) pos.line X.env=pure false):
  PS X (.Assign [.Subscript o i pos'] value pos) (sDPut td ty tv):=by
 intro pins s σ H D I h
 refine wpAny_Assign_Subscript (thn (hv pins s σ H _ I h) fun r s1 ⟨v,H1,I1,rv,q1⟩=>thn (ho pins s1 σ H1 _ I1 q1) fun u s2 ⟨x,H2,I2,rx,q2⟩=>thn (hi pins s2 σ H2 _ I2 q2) fun iv s3 ⟨y,H3,I3,ry,a,H4,ex,g,q3⟩=>?_) hs
 subst ex
 obtain rfl:u=Value.ref a:=rx
 exact d_setItem hu I3 g ry rv fun s4 I4=>⟨σ,H4,I4,q3⟩
end
theorem dk_empty {P:Program} {w:World} {H:Hp} (h:Heap) (hb:sysModules < h.objs.size):qbi P w H (h.push {cls:=.type "dict",data:=.dict #[]}) h.objs.size (.dK []):=
 ⟨Nat.zero_le _,beq_eq_false_iff_ne.mpr (Ne.symm (Nat.ne_of_lt hb)), [],.nil,Heap.DictOf.new h⟩
theorem dt_empty {P:Program} {w:World} {H:Hp} (h:Heap) (hb:sysModules < h.objs.size):qbi P w H (h.push {cls:=.type "dict",data:=.dict #[]}) h.objs.size (.dT []):=
 ⟨Nat.zero_le _,beq_eq_false_iff_ne.mpr (Ne.symm (Nat.ne_of_lt hb)), [],.nil,_,#[],0,Heap.get?_push_size _ rfl,⟨rfl,rfl,rfl⟩,rfl,rfl,yH⟩
def tDNewK:TE:=fun _ H Q=>∀p,H p=none→Q (.ref p) (upd H p (.dK []))
def tDNewT:TE:=fun _ H Q=>∀p,H p=none→Q (.ref p) (upd H p (.dT []))
section
variable {X : Cx} {pos : Pos}
theorem qg1:PE X (.Dict [] [] pos) tDNewK:=fun pins s σ H Q I h=>
 wpAny_Dict_empty ⟨.ref s.heap.objs.size,_,I.laid (a:=s.heap.objs.size) (o:=.dK []) (t':=s.toks) (fun _ _ q=>Heap.get?_push_of_some _ q) (Nat.le_refl _) (dk_empty s.heap I.big),rfl,h _ (I.hok.fresh (Nat.le_refl _))⟩
theorem pe_dnewT:PE X (.Dict [] [] pos) tDNewT:=fun pins s σ H Q I h=>
 wpAny_Dict_empty ⟨.ref s.heap.objs.size,_,I.laid (a:=s.heap.objs.size) (o:=.dT []) (t':=s.toks) (fun _ _ q=>Heap.get?_push_of_some _ q) (Nat.le_refl _) (dt_empty s.heap I.big),rfl,h _ (I.hok.fresh (Nat.le_refl _))⟩
end
def tPairs:List (TE × TE)→St→Hp→(List (V × V)→Hp→Prop)→Prop
 | [],_,H,Q=>Q [] H
 |(tk,tv) :: r,σ,H,Q=>tk σ H fun x H1=>tv σ H1 fun y H2=>tPairs r σ H2 fun ps H3=>Q ((x,y) :: ps) H3
abbrev VV:List (V × V)→List (Value × Value)→Prop:=Paired fun p q=>qba p.1 q.1∧qba p.2 q.2
def PPs (X:Cx) (pos:Pos) (keys:List (Option Expr)) (values:List Expr) (trs:List (TE × TE)):Prop:=
 ∀(pins:List (Addr × Obj)) (s:Shared) (σ:St) (H:Hp) (Q:List (V × V)→Hp→Prop),Inv X pins σ H s→tPairs trs σ H Q→
  wpAny (model X.prog X.w) X.A (evalPairs (pairTrees keys values X.env pos)) (fun vs s'=>∃ps H',Inv X pins σ H' s'∧VV ps vs∧Q ps H') X.xe s
theorem pps_nil {X:Cx} {pos:Pos}:PPs X pos [] [] []:=fun pins s σ H Q I h=>pairTrees_nil_walk ⟨[],H,I,.nil,h⟩
theorem pps_cons {X:Cx} {pos:Pos} {k v:Expr} {ks:List (Option Expr)} {vs:List Expr} {tk tv:TE} {trs:List (TE × TE)} (hk:PE X k tk) (hv:PE X v tv) (hr:PPs X pos ks vs trs):
  PPs X pos (some k :: ks) (v :: vs) ((tk,tv) :: trs):=fun pins s σ H Q I h=>
 pairTrees_cons_walk (thn (hk pins s σ H _ I h) fun u s1 ⟨x,H1,I1,rx,q1⟩=>thn (hv pins s1 σ H1 _ I1 q1) fun w2 s2 ⟨y,H2,I2,ry,q2⟩=>
  thn (hr pins s2 σ H2 _ I2 q2) fun ws s3 ⟨ps,H3,I3,rel,q3⟩=>⟨(x,y) :: ps,H3,I3,.cons ⟨rx,ry⟩ rel,q3⟩)
def qfh (kvs more:List (Key × V)):List (Key × V):=more.foldl (fun acc kv=>qdm acc kv.1 kv.2) kvs
theorem KV.merge:∀{more:List (Key × V)} {rs:List (Key × Value)} {kvs:List (Key × V)} {vs:List (Key × Value)},KV more rs→KV kvs vs→KV (qfh kvs more) (merged vs rs):=by
 intro more rs kvs vs r
 unfold KV at r
 induction r generalizing kvs vs with
 |nil=>intro q;exact q
 | @cons p q ps qs h t ih=>
  intro r0
  have e:KV (qdm kvs p.1 p.2) (stored vs q.1 q.2):=by
   have:=r0.put p.1 h.2
   rw [←h.1];exact this
  exact ih e
theorem qe1:∀(more kvs:List (Key × V)),(qfh kvs more).length≤kvs.length+more.length
 | [],kvs=>by show kvs.length≤kvs.length+0;omega
 |p :: r,kvs=>by
  have h1:=qe1 r (qdm kvs p.1 p.2)
  have h2:=qbx kvs p.1 p.2
  show (qfh (qdm kvs p.1 p.2) r).length≤_
  rw [zM];omega
theorem qfj {P:Program} {w:World}:∀{kvs:List (Key × V)} {ws:List (Value × Value)},VV (kvs.map fun kv=>(kV kv.1,kv.2)) ws→∃rs,Carries (qb6 P w) ws rs∧KV kvs rs
 | [],_,r=>by rw [List.map_nil] at r;cases r;exact⟨[],True.intro,.nil⟩
 |p :: kvs,_,r=>by
  rw [zS] at r
  cases r with
  | @cons a b as bs h t=>
   obtain⟨rs,c,q⟩:=qfj (P:=P) (w:=w) t
   obtain⟨b1,b2⟩:=b
   exact⟨(p.1,b2) :: rs,⟨kV_is h.1,rfl,c⟩,.cons ⟨rfl,h.2⟩ q⟩
def tDisp (trs:List (TE × TE)):TE:=fun σ H Q=>∀p,H p=none→tPairs trs σ (upd H p (.dK [])) fun ps H2=>H2 p=some (.dK [])∧∃kvs:List (Key × V),ps=kvs.map (fun kv=>(kV kv.1,kv.2))∧kvs.length≤15∧Q (.ref p) (upd H2 p (.dK (qfh [] kvs)))
theorem pe_disp {X:Cx} {pos:Pos} {keys:List (Option Expr)} {values:List Expr} {trs:List (TE × TE)} (h:PPs X pos keys values trs) (hall:keys.all (·.isSome)=true) (hl:keys.length=values.length) (h0:keys≠ [])
  (h15:keys.length≤15):PE X (.Dict keys values pos) (tDisp trs):=by
 intro pins s σ H Q I q
 have hn:=I.hok.fresh (Nat.le_refl s.heap.objs.size)
 have I1:=I.laid (a:=s.heap.objs.size) (o:=.dK []) (h':=s.heap.push {cls:=.type "dict",data:=.dict #[]}) (t':=s.toks) (fun _ _ q=>Heap.get?_push_of_some _ q) (Nat.le_refl _) (dk_empty s.heap I.big)
 refine wpAny_Dict_walk (knd:=qb6 X.prog X.w) hall hl h0 h15 (thn (h pins _ σ _ _ I1 (q _ hn)) fun ws s2 ⟨ps,H2,I2,rel,e,kvs,ep,lk,q2⟩=>?_)
 subst ep
 obtain⟨rs,c,rk⟩:=qfj (P:=X.prog) (w:=X.w) rel
 obtain⟨z,hd,vs0,r0,dd⟩:=dk_of I2.hok e
 cases r0
 refine⟨rs,c,dd,fun h' dd' hs=>⟨.ref s.heap.objs.size,_,?_,rfl,q2⟩⟩
 have hz:(qfh [] kvs).length≤sizeLine:=by
  have h1:=qe1 kvs []
  rw [yQ] at h1
  rw [sizeLine_eq];omega
 have he:∃q,h'.get? s.heap.objs.size=some q:=let ⟨q,_,_,hq,_⟩:=dd';⟨q,hq⟩
 exact d_write I2 (by rw [e];exact True.intro) hs he (dk_new hz hd (rk.merge .nil) dd')
structure M1 (X:Cx) (o:Expr) (m:Str) (apos:Pos) (e:Expr) (cpos:Pos):Prop where
 base:attributeBase o m X.env (eval o X.env)=eval o X.env
 few:((backTo cpos (starEach [e] X.env)).all (fun x=>!x.1) && (backToKw cpos (keywordEach [] X.env)).all (fun x=>x.1.isSome)
  && decide (([e]:List Expr).length+([]:List Keyword).length+(if ([]:List Keyword).isEmpty then 0 else 1) < 30))=true
 line:(apos.endLine==cpos.line)=true
 trees:backTo cpos (starEach [e] X.env)=[(false,eval e X.env)]
structure M2 (X:Cx) (o:Expr) (m:Str) (apos:Pos) (e f:Expr) (cpos:Pos):Prop where
 base:attributeBase o m X.env (eval o X.env)=eval o X.env
 few:((backTo cpos (starEach [e,f] X.env)).all (fun x=>!x.1) && (backToKw cpos (keywordEach [] X.env)).all (fun x=>x.1.isSome)
  && decide (([e,f]:List Expr).length+([]:List Keyword).length+(if ([]:List Keyword).isEmpty then 0 else 1) < 30))=true
 line:(apos.endLine==cpos.line)=true
 trees:backTo cpos (starEach [e,f] X.env)=[(false,eval e X.env),(false,eval f X.env)]
def IsD (H:Hp) (a:Addr):Prop:=(∃kvs,Rd H a (.dK kvs))∨∃kvs,Rd H a (.dT kvs)
theorem isD_at {X:Cx} {pins:List (Addr × Obj)} {σ:St} {H:Hp} {s:Shared} {a:Addr} (I:Inv X pins σ H s) (d:IsD H a):
  s.TypeIs (.ref a) "dict"∧(∀b,Value.ref a=.ref b→∃ob,s.heap.get? b=some ob∧ob.dict=none)∧(a==sysModules)=false:=by
 rcases d with ⟨kvs,e⟩ |⟨kvs,e⟩
 ·obtain⟨_,hd,vs,_,dd⟩:=qfa I.hok e
  refine⟨dd.typeIs,fun b q=>?_,hd⟩
  cases q
  obtain⟨ob,_,_,h1,h2,_⟩:=dd
  exact⟨ob,h1,h2.2.1⟩
 ·obtain⟨_,hd,xs,_,dd⟩:=dt_rd I.hok e
  refine⟨dd.typeIs,fun b q=>?_,hd⟩
  cases q
  obtain⟨ob,_,_,h1,h2,_⟩:=dd
  exact⟨ob,h1,h2.2.1⟩
section
variable {X : Cx} {pins : List (Addr × Obj)} {σ : St} {H : Hp} {s : Shared} {a : Addr} {y d : V} {u r : Value} {o : Option V} {A : Around} {E : Value → Shared → Prop}
theorem d_get2 {Q:Value→Shared→Prop} (hu:A.units+1 < cLine) (I:Inv X pins σ H s) (g:DGet H a y o) (ry:qba y u) (rd:qba d r) (h:∀w' s',Inv X pins σ H s'→qba (o.getD d) w'→Q w' s'):
  wpAny (model X.prog X.w) A (call (.builtin "dict.get") [.ref a,u,r]) Q E s:=by
 rcases g with ⟨kvs,k,e,ey,l⟩ |⟨kvs,k,b,e,ey,eb,l⟩
 ·subst ey
  obtain⟨z,hd,vs,rel,dd⟩:=qfa I.hok e
  refine call_meetsIn PySem.F.slot_dict_get dd.typeIs PySem.F.entry_dict_get (PySem.F.args_dict_get_3 _ _ _) (meets_dict_get_default (qb6 X.prog X.w) a (kV_is ry) hd r) ⟨_,dd.mapOf,h _ _ (I.tok _) ?_⟩
  rw [l]
  exact(rel.val k).getD rd
 ·subst ey
  cases (show u=Value.ref b from ry)
  obtain⟨z,hd,xs,rel,dd⟩:=dt_rd I.hok e
  refine call_meetsIn PySem.F.slot_dict_get dd.typeIs PySem.F.entry_dict_get (PySem.F.args_dict_get_3 _ _ _) (meetsH_dict_get_default (tupleKind (qb6 X.prog X.w)) a b hd r) ⟨tupleKind_room_in1 hu,k,xs,key_of I.hok eb,dd,h _ _ (I.tok _) ?_⟩
  rw [l]
  exact(rel.val k).getD rd
end
def tDGet2 (td ty tx:TE):TE:=fun σ H Q=>td σ H fun x H1=>∃a,x=.ref a∧IsD H1 a∧ty σ H1 fun y H2=>tx σ H2 fun z H3=>∃o,DGet H3 a y o∧Q (o.getD z) H3
section
variable {X : Cx} {o e f : Expr} {apos cpos : Pos} {td ty tx : TE}
theorem pe_dget2 (hu:X.A.units+1 < cLine) (ho:PE X o td) (he:PE X e ty) (hf:PE X f tx) (m:M2 X o "get" apos e f cpos):PE X (.Call (.Attribute o "get" apos) [e,f] [] cpos) (tDGet2 td ty tx):=by
 intro pins s σ H Q I h
 refine wpAny_Call_method m.base m.few m.line PySem.F.plainAttrs_dict PySem.F.slot_dict_get PySem.F.type_dict_get (thn (ho pins s σ H _ I h) fun u s1 ⟨x,H1,I1,rx,a,ex,d,q1⟩=>?_)
 subst ex
 obtain rfl:u=Value.ref a:=rx
 obtain⟨t1,t2,_⟩:=isD_at I1 d
 refine⟨t1,t2,?_⟩
 rw [m.trees]
 refine Calls.callWith_builtin rfl (Calls.evalArgs_plain (Calls.spliced_cons (thn (he pins s1 σ H1 _ I1 q1) fun iv s2 ⟨y,H2,I2,ry,q2⟩=>
  Calls.spliced_cons (thn (hf pins s2 σ H2 _ I2 q2) fun fv s3 ⟨z,H3,I3,rz,ov,g,q3⟩=>Calls.spliced_nil ?_))))
 exact d_get2 hu I3 g ry rz fun w' s4 I4 rw'=>⟨_,H3,I4,rw',q3⟩
end
section
variable {X : Cx} {pins : List (Addr × Obj)} {σ : St} {H : Hp} {s : Shared} {a : Addr} {kvs : List (Key × V)} {A : Around} {E : Value → Shared → Prop}
theorem d_copyOf {Q:Value→Shared→Prop} (I:Inv X pins σ H s) (e:Rd H a (.dK kvs)) (h:∀p s',H p=none→Inv X pins σ (upd H p (.dK kvs)) s'→Q (.ref p) s'):wpAny (model X.prog X.w) A (call (.type "dict") [.ref a]) Q E s:=by
 obtain⟨z,hd,vs,rel,dd⟩:=qfa I.hok e
 refine kt_call_dict hd dd (by rw [←rel.length];exact z) fun h' dd' hs=>?_
 refine h _ _ (I.hok.fresh (Nat.le_refl _)) (I.laid (a:=s.heap.objs.size) (o:=.dK kvs) (t':=s.toks) (fun b q hq=>?_) (Nat.le_refl _) (dk_new z (beq_eq_false_iff_ne.mpr (Ne.symm (Nat.ne_of_lt I.big))) rel dd'))
 exact(hs.2 b (Nat.ne_of_lt (Heap.lt_size hq))).trans (Heap.get?_push_of_some _ hq)
end
section
variable {X : Cx} {pins : List (Addr × Obj)} {σ : St} {H : Hp} {s : Shared} {a : Addr} {y : V} {u : Value} {A : Around} {E : Value → Shared → Prop}
end
section
variable {X : Cx}
theorem call_lenD:qcd X (.builtin "len") (fun xs H Q=>∃a kvs,xs=[V.ref a]∧H a=some (.dK kvs)∧Q (.int kvs.length) H):=by
 intro pins s σ H xs us Q I r h
 obtain⟨a,kvs,rfl,ha,q⟩:=h
 obtain⟨u,rfl,ru⟩:=vals1 r
 cases ru
 exact d_len I (.inl ha) fun t s' I'=>⟨.int kvs.length,H,I',⟨t,rfl⟩,q⟩
end
section
variable {κ : Type} [DecidableEq κ]
theorem valV_not {kvs:List (κ × V)} {k:κ} (h:qcp kvs k=none):¬k∈kvs.map (·.1):=by
 intro m
 obtain⟨p,hp,e⟩:=zL.mp m
 have q:(kvs.any fun kv=>decide (kv.1=k))=true:=List.any_eq_true.mpr ⟨p,hp,decide_eq_true e⟩
 rw [qch,h] at q
 exact absurd q (by simp)
theorem valV_in {kvs:List (κ × V)} {k:κ} {v:V} (h:qcp kvs k=some v):k∈kvs.map (·.1):=by
 have q:(kvs.any fun kv=>decide (kv.1=k))=true:=by
  rw [qch,h]
  all_goals rfl
 obtain⟨p,hp,e⟩:=List.any_eq_true.mp q
 exact zL.mpr ⟨p,hp,of_decide_eq_true e⟩
theorem nd_snoc:∀{l:List κ} {k:κ},l.Nodup→¬k∈l→(l++ [k]).Nodup
 | [],k,_,_=>by simp
 |a :: r,k,h,hk=>by
  obtain⟨h1,h2⟩:=zX.mp h
  show (a ::(r++ [k])).Nodup
  refine zX.mpr ⟨fun m=>?_,nd_snoc h2 fun m=>hk (zR.mpr (Or.inr m))⟩
  rcases zN.mp m with q|q
  ·exact h1 q
  ·exact hk (zR.mpr (Or.inl (zH.mp q).symm))
theorem nd_putK {kvs:List (κ × V)} {k:κ} (v:V) (hn:(kvs.map (·.1)).Nodup) (h:qcp kvs k=none):((qdm kvs k v).map (·.1)).Nodup:=by
 rw [qfz v h,zE]
 exact nd_snoc hn (valV_not h)
end
end L2
namespace My
open PySem PySem.Spec PyProof.Rows L2
theorem qdj {α:Type} {β:Type} [BEq α] [LawfulBEq α]:∀{l:List (α × β)} {x:α} {v:β},l.lookup x=some v→(x,v)∈l
 |(a,b) :: l,x,v,h=>by
  rw [List.lookup_cons] at h
  cases e:x==a with
  |true=>rw [e] at h;have e':=eq_of_beq e;have h':b=v:=Option.some.inj h;subst e' h';exact zI
  |false=>rw [e] at h;exact zF _ (qdj h)
theorem qb1 {X:Cx} {x:Str} {scope:Scope} {cl:List (Str × Addr)} {caps:List Nat} {cn:List Str} (h1:closureFor scope X.env=pure cl) (h2:scope.kind=.function) (h3:scope.names.all (fun p=>p.2 !=.cell)=true)
  (h4:scope.names.all (fun p=>p.2 !=.local || scope.names.lookup p.1==some .local)=true) (h5:scope.names.lookup x=some .local) (h6:AllC (fun p=>X.env.cells.lookup p.1=some p.2) cl)
  (h7:(relabel scope X.env).names.all (fun p=>!(p.2==.cell || p.2==.free) ||(cl.lookup p.1).isSome)=true) (h8:caps.length=cn.length)
  (h9:AllC (fun p=>X.N[p.1]?=some p.2∧X.env.kindOf p.2=some .cell∧(relabel scope X.env).names.lookup p.2=some .cell∧X.env.scope.names.lookup p.2=some .cell∧∃c,cl.lookup p.2=some c) (caps.zip cn)) (h10:(x :: cn).Nodup):Caps X x scope cl caps cn:=by
 refine⟨h1,h2,fun y hy z=>?_,fun y hy z=>?_,h5,fun y c e=>AllC.mem h6 _ (qdj e),fun y hy=>?_,h8,fun k y j e1 e2=>?_,h10⟩
 ·have q:=yE.mp h3 y hy
  rw [z] at q
  cases q
 ·have q:=yE.mp h4 y hy
  rw [z] at q
  simpa using q
 ·have m:∃k,(y,k)∈(relabel scope X.env).names∧(k=.cell∨k=.free):=by
   rcases hy with hy|hy
   ·exact⟨_,qdj hy,.inl rfl⟩
   ·exact⟨_,qdj hy,.inr rfl⟩
  obtain⟨k,hm,hk⟩:=m
  have q:=yE.mp h7 _ hm
  have hk':(k==NameKind.cell || k==NameKind.free)=true:=by rcases hk with rfl|rfl <;> decide
  rw [hk'] at q
  exact Option.isSome_iff_exists.mp (by simpa using q)
 ·refine AllC.mem h9 (j,y) ?_
  have hz:(caps.zip cn)[k]?=some (j,y):=by rw [List.getElem?_zip_eq_some];exact⟨e2,e1⟩
  exact zD hz
section
variable {X : Cx}
theorem pi_str {l:Expr} {tl:TE} {y:Str} {py:Pos} (hl:PE X l tl):PI X (.Name y py) l (iStr tl):=by
 intro pins s σ H R I h
 refine thn (hl pins s σ H _ I h) fun u s1 ⟨v,H1,I1,r,x,ev,q⟩=>?_
 subst ev
 obtain⟨t,rfl⟩:=r
 have hn:H1 s1.heap.objs.size=none:=I1.hok.fresh (Nat.le_refl _)
 have fp:∀b∈ [s1.heap.objs.size],qgb X pins H1 b:=fun b hb=>by
  have e:b=s1.heap.objs.size:=by simpa using hb
  subst e
  exact I1.fpOk (Nat.le_refl _) hn
 cases ha:x.cps.all (·< 128)
 ·exact wpAny_pyIter_wide ha ⟨_, [s1.heap.objs.size],fun i h=>h.IsStrIter s1.heap.objs.size "str_iterator" x t i,Its x,H1,rfl,I1.kept (t':=s1.toks) (fun _ _ e=>Heap.get?_push_of_some _ e),
   turn_str x t _ _ (fun A hA=>Walks.strWide hA _ x t) fun A i s' Q' E' st hq=>wpAny_pyIter_striter_wide st hq,⟨_,Heap.get?_push_size _ rfl,rfl,rfl⟩,fp,q⟩
 ·exact wpAny_pyIter_ascii ha ⟨_, [s1.heap.objs.size],fun i h=>h.IsStrIter s1.heap.objs.size "str_ascii_iterator" x t i,Its x,H1,rfl,I1.kept (t':=s1.toks) (fun _ _ e=>Heap.get?_push_of_some _ e),
   turn_str x t _ _ (fun A hA=>Walks.strAscii hA _ x t) fun A i s' Q' E' st hq=>wpAny_pyIter_striter_ascii st hq,⟨_,Heap.get?_push_size _ rfl,rfl,rfl⟩,fp,q⟩
def rAll (K:Frag):List V→Hp→VK→Prop:=fun xs H Q=>∃(p:Addr) (bs:List Bool),xs=[.ref p]∧SqL K H p (bs.map V.bl)∧Q (.bl (bs.all id)) H
theorem all_range (bs:List Bool):((List.range bs.length).all fun i=>(bs[i]?).getD true)=bs.all id:=by
 rw [Bool.eq_iff_iff,yE,yE]
 constructor
 ·intro h b hb
  obtain⟨i,hi,e⟩:=zK.mp hb
  have q:=h i (yV.mpr hi)
  rw [zA hi,e] at q
  exact q
 ·intro h i hi
  have hi':=yV.mp hi
  rw [zA hi']
  exact h _ (zJ hi')
theorem call_allB (hc:X.calm=true):qcd X (.builtin "all") (rAll X.K):=by
 intro pins s σ H xs us Q I hv h
 obtain⟨p,bs,rfl,hS,q⟩:=h
 obtain⟨u,rfl,ru⟩:=hv.one
 cases ru
 obtain⟨its,rv,pl,hz⟩:=I.list hS
 have hl:=pl.isList
 have hlt:p < s.heap.objs.size:=by obtain⟨_,e,_⟩:=hl;exact Heap.lt_size e
 have hlen:=rv.length
 rw [zB] at hlen
 refine call_all_walk (wpAny_pyIter_list hl ?_)
 refine⟨s.heap.objs.size, [s.heap.objs.size,p], [s.heap.objs.size],its.toArray.size,_,_,fun i=>(bs[i]?).getD true,rfl,Walks.list (A:=X.A.in1) (I.ok.hd hc) _ p (Nat.ne_of_lt hlt) its.toArray,⟨⟨_,Heap.get?_push_size _ rfl,rfl,rfl⟩,hl.push _⟩,fun i v s' Q' E' hP hQ=>?_,fun h' tk hk=>?_⟩
 ·have hi:its[i]?=some v:=by simpa using hP
  have hb:i < bs.length:=by rw [hlen];exact(List.getElem?_eq_some_iff.mp hi).1
  have hx:(bs.map V.bl)[i]?=some (.bl bs[i]):=by rw [zC,zA hb];rfl
  obtain⟨u,e,r⟩:=rv.get hx
  rw [hi] at e
  cases e
  cases r
  dsimp only at hQ
  rw [zA hb] at hQ
  exact wpAny_truthy_bool hQ
 ·have e:((List.range its.toArray.size).all fun i=>(bs[i]?).getD true)=bs.all id:=by
   rw [zP,←hlen];exact all_range bs
  rw [e]
  exact⟨.bl _,H,I.kept (t':=tk) (fun b o eb=>hk b o (fun hm=>by have z:=Heap.lt_size eb;rw [zH.mp hm] at z;exact Nat.lt_irrefl _ z) (Heap.get?_push_of_some _ eb)),rfl,q⟩
def rCatS:R2:=fun x y H Q=>∃i j,x=.str i∧y=.str j∧i.length+j.length≤sizeLine∧Q (.str (i++j)) H
theorem qg2:OpR X (binaryOp .Add) rCatS:=op_add_str
def rInS:R2:=fun x y H Q=>∃i j,x=.str i∧y=.str j∧Q (.bl (!(Builtin.Str.occurrences j i 0 j.length 1).isEmpty)) H
theorem op_inS:OpR X (compareOp .In) rInS:=op_in_str
def rLenS:List V→Hp→VK→Prop:=fun xs H Q=>∃z,xs=[.str z]∧z.length≤sizeLine∧Q (.int z.length) H
theorem call_lenS:qcd X (.builtin "len") rLenS:=call_len_str
end
section
variable {K : Frag} {H : Hp} {Q : VK} {σ : L2.St}
theorem r_sl {r:V→Option Int→Option Int→Hp→VK→Prop} {te:TE} {tl th:TO} (h:te σ H fun x H1=>tl σ H1 fun l H2=>th σ H2 fun u H3=>r x l u H3 Q):tSl r te tl th σ H Q:=h
theorem r_noPart {Q:Option Int→Hp→Prop} (h:Q none H):tNoPart σ H Q:=h
theorem r_part {te:TE} {Q:Option Int→Hp→Prop} (h:te σ H fun x H1=>∃i,x=.int i∧Q (some i) H1):tPart te σ H Q:=h
theorem r_exi {i:Int} {Q:Int→Prop} (h:Q i):∃j,V.int i=.int j∧Q j:=⟨i,rfl,h⟩
theorem r_chain {r r':R2} {ta tb tc:TE} (h:ta σ H fun x H1=>tb σ H1 fun y H2=>r x y H2 fun z H3=>∃k,z=.bl k∧(if k=true then tc σ H3 fun w' H4=>r' y w' H4 Q else Q (.bl false) H3)):tChain r r' ta tb tc σ H Q:=h
theorem r_all {p:Addr} {bs:List Bool} (hS:SqL K H p (bs.map V.bl)) (h:Q (.bl (bs.all id)) H):rAll K [.ref p] H Q:=⟨p,bs,rfl,hS,h⟩
theorem r_catS {i j:Str} (hn:i.length+j.length≤sizeLine) (h:Q (.str (i++j)) H):rCatS (.str i) (.str j) H Q:=⟨i,j,rfl,rfl,hn,h⟩
theorem r_inS {i j:Str} (h:Q (.bl (!(Builtin.Str.occurrences j i 0 j.length 1).isEmpty)) H):rInS (.str i) (.str j) H Q:=⟨i,j,rfl,rfl,h⟩
theorem r_lenS {z:Str} (hn:z.length≤sizeLine) (h:Q (.int z.length) H):rLenS [.str z] H Q:=⟨z,rfl,hn,h⟩
theorem r_ixS {z:Str} {i:Int} {c:Nat} (hn:z.length≤sizeLine) (e:atI z.cps.toList i=some c) (h:Q (.str ⟨#[c]⟩) H):rIxS (.str z) (.int i) H Q:=⟨z,i,c,rfl,rfl,hn,e,h⟩
theorem r_iS {tl:TE} {R:It→Hp→Prop} (h:tl σ H fun v H1=>rItS v H1 R):iStr tl σ H R:=h
theorem r_itS {x:Str} {R:It→Hp→Prop} (h:R (Its x) H):rItS (.str x) H R:=⟨x,rfl,h⟩
theorem r_comp {wi:TI} {caps:List Nat} {tt:CT TT} {te:CT TE} (h:wi σ H fun J H1=>∀(C:Addr) (s:Shared) (H0:Hp) (fp:List Addr) (acc:Addr),H1 acc=none→COMP J caps (tt C s H0 fp) (te C s H0 fp) acc σ (upd H1 acc (.lst [])) Q):tComp wi caps tt te σ H Q:=h
theorem r_true {Q:Bool→Hp→Prop} (h:Q true H):tTrue σ H Q:=h
theorem r_app {acc:Addr} {N:Hp→Prop} {y:V} {ys:List V} (ha:H acc=some (.lst ys)) (hz:ys.length < sizeLine) (h:N (upd H acc (.lst (ys++ [y])))):rApp acc N y H:=⟨ys,ha,hz,h⟩
theorem qf7 {J:It} {caps:List Nat} {tt:TT} {te:TE} {acc:Addr} (n:Nat) (Pv:Nat→Hp→Prop) (h0:Pv 0 H) (hgo:∀i H,i < n→Pv i H→J.go i H) (hst:∀H,Pv n H→J.stop n H)
  (hs:∀i H v H',i < n→Pv i H→J.yld i H v H'→tt (some v :: qbf caps σ) H' fun b H2=>if b=true then te (some v :: qbf caps σ) H2 fun y H3=>rApp acc (Pv (i+1)) y H3 else Pv (i+1) H2)
  (hd:∀H,Pv n H→Q (.ref acc) H):COMP J caps tt te acc σ H Q:=by
 refine⟨fun i m H=>m=n - i∧i≤n∧Pv i H,⟨n,rfl,Nat.zero_le _,h0⟩,?_⟩
 rintro i m H ⟨rfl,hi,p⟩
 by_cases hlt:i < n
 ·exact .inr ⟨hgo i H hlt p,Pv (i+1),fun H' p'=>⟨n - (i+1),by omega,rfl,hlt,p'⟩,fun v H' y=>hs i H v H' hlt p y⟩
 ·have e:i=n:=by omega
  subst e
  exact .inl ⟨hst H p,hd H p⟩
end
section
variable {X : Cx}
def rRep:R2:=fun x y H Q=>∃z n,x=.str z∧y=.int n∧0≤n∧n≤1∧Q (.str (if n < 1 then Str.empty else z)) H
end
section
variable {H : Hp} {Q : VK}
end
section
variable {prog : Program} {w : World} {A : Around} {E : Value → Shared → Prop} {h : Heap} {g : Array GenState} {d : Drawn} {t : Nat} {os : OsState}
variable {nm q : Str} {C N fI : Addr} {bs bm bmB : List Value} {hdct : Bool} {sn : List Str} {sub : List Value} {ab : Bool} {col : Option Bool} {dd : Option Addr} {k0 k1 k2 k3 k5 : Option Value} {B Bn newId nid initId inN : String} {bmN : List Value}
def qd5 (h:Heap) (C:Addr) (rest:List Value):Heap:=(h.push {cls:=.type "tuple",data:=.seq rest.toArray}).push {cls:=.ref C,data:=.fields #[.ref h.objs.size,.none,.none,.none,.bool false,.none]}
theorem qf8 (Fn:ExcBaseFacts Bn newId inN bmN) (hBn:bmB.contains (.type Bn)=true) (F:ExcBaseFacts B nid initId bmB) (T:OwnTail h bmB bm) {mN:Str→Option Value} {rest:List Value} {Q:Fin→Shared→Prop}
  (hC:h.get? C=some (excClassObj nm q C N bs bm hdct sn sub ab col dd k0 k1 k2 k3 k5 newId)) (hn:h.Ns N mN) (hni:mN "__init__" =some (.ref fI))
  (hb:PySem.W.Looks (model prog w) (qd5 h C rest) (bindSpecial (.ref fI) (.ref (h.objs.size+1))) (.ref fI, [.ref (h.objs.size+1)]))
  (hq:wpAny (model prog w) A (call (.ref fI) (.ref (h.objs.size+1) :: rest)) (fun v s'=>v=.none∧Q (.done (.ret (.ref (h.objs.size+1)))) s') E ⟨qd5 h C rest,g,d,t,os⟩) (hrest:rest.length≤sizeLine:=by size_fits):
  wpAny (model prog w) A (Builtin.«type.__call__» ⟨.ref C :: rest, []⟩) Q E ⟨h,g,d,t,os⟩:=by
 repeat (first|with_reducible refine wpAny_loadPart_at hC ?_|with_reducible refine wpAny_madeBy_exc hC ?_|wp_step)
 refine codeAny_call_builtin_code (Code.quiet_builtin _ Fn.quiet) (wpAny_check_new_subU Fn hBn T hC ?_)
 refine codeAny_exc_new_subU Fn hBn F T hC ?_ hrest
 show wpAny _ _ _ _ _ _
 have hC₁:=Heap.get?_push_of_some {cls:=.ref C,data:=.fields #[.ref h.objs.size,.none,.none,.none,.bool false,.none]}
  (Heap.get?_push_of_some {cls:=.type "tuple",data:=.seq rest.toArray} hC)
 have hn₁:((h.push {cls:=.type "tuple",data:=.seq rest.toArray}).push {cls:=.ref C,data:=.fields #[.ref h.objs.size,.none,.none,.none,.bool false,.none]}).Ns N mN:=
  let ⟨o,es,ep,e,r⟩:=hn;⟨o,es,ep,Heap.get?_push_of_some _ (Heap.get?_push_of_some _ e),r⟩
 have hget:((h.push {cls:=.type "tuple",data:=.seq rest.toArray}).push
   {cls:=.ref C,data:=.fields #[.ref h.objs.size,.none,.none,.none,.bool false,.none]}).get? (h.objs.size+1)=some
   {cls:=.ref C,data:=.fields #[.ref h.objs.size,.none,.none,.none,.bool false,.none]}:=by heap_get
 have hcC:(Value.ref C :: bm).contains (.ref C)=true:=by simp
 have T₁:=T.keeps (h':=(h.push {cls:=.type "tuple",data:=.seq rest.toArray}).push {cls:=.ref C,data:=.fields #[.ref h.objs.size,.none,.none,.none,.bool false,.none]})
  fun b o e=>Heap.get?_push_of_some _ (Heap.get?_push_of_some _ e)
 unfold isInstance
 repeat (first|with_reducible refine wpAny_loadPart_at hget ?_|(with_reducible refine wpAny_isSubtype_exc hC₁ ?_;rw [hcC]) |wp_step)
 show wpAny _ _ (typeLookup (.ref C) _) _ _ _
 refine wpAny_typeLookup_tail hC₁ hn₁ T₁ F.mroIs F.init.lookup ?_
 rw [hni]
 refine wpAny_holding (wpAny_bind (hb.at ?_))
 refine wpAny_bind (wpAny_mono hq (fun v s' ⟨ev,q⟩=>?_) fun _ _ x=>x)
 subst ev
 wp_walk
 exact q
theorem qg7 (Fn:ExcBaseFacts Bn newId inN bmN) (hBn:bmB.contains (.type Bn)=true) (F:ExcBaseFacts B nid initId bmB) (T:OwnTail h bmB bm) {mN:Str→Option Value} {rest:List Value} {Q:Value→Shared→Prop}
  (hC:h.get? C=some (excClassObj nm q C N bs bm hdct sn sub ab col dd k0 k1 k2 k3 k5 newId)) (hn:h.Ns N mN) (hni:mN "__init__" =some (.ref fI))
  (hb:PySem.W.Looks (model prog w) (qd5 h C rest) (bindSpecial (.ref fI) (.ref (h.objs.size+1))) (.ref fI, [.ref (h.objs.size+1)]))
  (hq:wpAny (model prog w) (A.under (.builtin "type.__call__" ⟨.ref C :: rest, []⟩)) (call (.ref fI) (.ref (h.objs.size+1) :: rest)) (fun v s'=>v=.none∧Q (.ref (h.objs.size+1)) s') E ⟨qd5 h C rest,g,d,t,os⟩) (hrest:rest.length≤sizeLine:=by size_fits):
  wpAny (model prog w) A (call (.ref C) rest) Q E ⟨h,g,d,t,os⟩:=by
 have f1:=tc_lookup
 have f2:=tc_bind (.ref C)
 have hT:(⟨h,g,d,t,os⟩:Shared).TypeIs (.ref C) "type":=⟨_,hC,rfl⟩
 refine wpAny_call (codeAny_of_tree ?_)
 show wpAny _ _ (callAny (.ref C) _) _ _ _
 repeat (any_goals (first|assumption|with_reducible refine wpAny_loadPart_at hC ?_|wp_step))
 refine⟨rfl,?_⟩
 refine codeAny_call_builtin_at (Code.quiet_builtin _ (by decide+kernel)) entry_typeCall (wpAny_check_type_call_sub hC (qf8 (hrest:=hrest) Fn hBn F T hC hn hni hb ?_))
 exact hq
theorem qfe {env:Env} {M:Model} {s:Shared} {x:Sem Value} {Q:Flow→Shared→Prop} (hbase:bm.contains (.type "BaseException")=true) (hh:A.handled=none)
  (h:wpAny M A x (fun v s₁=>∃e oe,v=.ref e∧s₁.heap.get? C=some (excClassObj nm q C N bs bm hdct sn sub ab col dd k0 k1 k2 k3 k5 newId)∧
   s₁.heap.get? e=some oe∧oe.cls=.ref C∧(∃vs,oe.data=.fields vs∧vs[1]?=some .none)∧E (.ref e) s₁) E s):
  wpAny M A (raiseStmt env (some x) none) Q E s:=by
 have hcB:(Value.ref C :: bm).contains (.type "BaseException")=true:=by rw [List.contains_cons,hbase,Bool.or_true]
 unfold raiseStmt
 refine wpAny_bind (wpAny_mono h (fun v s₁ h₁=>?_) fun _ _ x=>x)
 obtain⟨e,oe,rfl,hC,he,hcls,⟨vs,hd,h1⟩,hE⟩:=h₁
 obtain⟨hp,g,d,tk,os⟩:=s₁
 obtain⟨oc,odd,oda,osl⟩:=oe
 obtain rfl:oc=.ref C:=hcls
 obtain rfl:oda=.fields vs:=hd
 repeat (first|with_reducible refine wpAny_loadPart_at he ?_|with_reducible refine wpAny_loadPart_at hC ?_|(with_reducible refine wpAny_isSubtype_exc hC ?_;rw [hcB]) |wp_step)
 rw [h1]
 refine wpAny_pure ?_
 rw [if_neg (by decide)]
 exact wpAny_pure (wpAny_raiseNew_none hh hE)
theorem qf6 {env:Env} {s:Shared} (Fn:ExcBaseFacts Bn newId inN bmN) (hBn:bmB.contains (.type Bn)=true) (F:ExcBaseFacts B nid initId bmB) {mN:Str→Option Value} {x:Str} {np cpos pos:Pos} {args:List Expr} {Q:Flow→Shared→Prop}
  (hbase:bm.contains (.type "BaseException")=true) (hh:A.handled=none) (hplain:(backTo cpos (starEach args env)).any (·.1)=false) (hni:mN "__init__" =some (.ref fI))
  (h:wpAny (model prog w) A (eval (.Name x np) env) (fun f s₁=>f=.ref C∧wpAny (model prog w) A (evalArgs (.ref C) true (backTo cpos (starEach args env)) [])
   (fun a s₂=>a.kw=[]∧a.pos.length≤sizeLine∧s₂.heap.get? C=some (excClassObj nm q C N bs bm hdct sn sub ab col dd k0 k1 k2 k3 k5 newId)∧s₂.heap.Ns N mN∧OwnTail s₂.heap bmB bm∧
    PySem.W.Looks (model prog w) (qd5 s₂.heap C a.pos) (bindSpecial (.ref fI) (.ref (s₂.heap.objs.size+1))) (.ref fI, [.ref (s₂.heap.objs.size+1)])∧
    wpAny (model prog w) (A.under (.builtin "type.__call__" ⟨.ref C :: a.pos, []⟩)) (call (.ref fI) (.ref (s₂.heap.objs.size+1) :: a.pos))
     (fun v s'=>v=.none∧s'.heap.get? C=some (excClassObj nm q C N bs bm hdct sn sub ab col dd k0 k1 k2 k3 k5 newId)∧(∃oe,s'.heap.get? (s₂.heap.objs.size+1)=some oe∧oe.cls=.ref C∧∃vs,oe.data=.fields vs∧vs[1]?=some .none)∧E (.ref (s₂.heap.objs.size+1)) s') E {s₂ with heap:=qd5 s₂.heap C a.pos}) E s₁) E s):
  wpAny (model prog w) A (exec (.Raise (some (.Call (.Name x np) args [] cpos)) none pos) env) Q E s:=by
 rw [arm_exec_Raise]
 first
  |refine wpAny_bind (wpAny_standAt (qfe (C:=C) (nm:=nm) (q:=q) (N:=N) (bs:=bs) (bm:=bm) (hdct:=hdct) (sn:=sn) (sub:=sub) (ab:=ab) (col:=col) (dd:=dd) (k0:=k0) (k1:=k1) (k2:=k2) (k3:=k3) (k5:=k5) (newId:=newId) hbase hh (wpAny_bind (wpAny_mono (wpAny_Call_ofName (wpAny_mono h (fun f s₁ h₁=>?_) fun _ _ x=>x)) (fun v s₃ h₃=>wpAny_bind (wpAny_standAt (wpAny_pure h₃))) fun _ _ x=>x))))
  |(simp only [evalOpt,Option.map];refine wpAny_bind (wpAny_standAt (qfe (C:=C) (nm:=nm) (q:=q) (N:=N) (bs:=bs) (bm:=bm) (hdct:=hdct) (sn:=sn) (sub:=sub) (ab:=ab) (col:=col) (dd:=dd) (k0:=k0) (k1:=k1) (k2:=k2) (k3:=k3) (k5:=k5) (newId:=newId) hbase hh (wpAny_bind (wpAny_mono (wpAny_Call_ofName (wpAny_mono h (fun f s₁ h₁=>?_) fun _ _ x=>x)) (fun v s₃ h₃=>wpAny_bind (wpAny_standAt (wpAny_pure h₃))) fun _ _ x=>x)))))
 obtain⟨rfl,h₁⟩:=h₁
 unfold callWith
 refine wpAny_bind (wpAny_holding (wpAny_mono h₁ (fun a s₂ h₂=>wpAny_bind (wpAny_standAt ?_)) fun _ _ x=>x))
 obtain⟨apos,akw⟩:=a
 obtain⟨hkw,hlen,hC,hn,T,hb,h₂⟩:=h₂
 obtain rfl:akw=[]:=hkw
 obtain⟨hp,g,d,tk,os⟩:=s₂
 simp only [hplain]
 refine wpAny_bind (wpAny_keeperOf_exc hC ?_)
 refine wpAny_bind (qg7 (hrest:=hlen) Fn hBn F T hC hn hni hb (wpAny_mono h₂ (fun v s' ⟨e1,e2,⟨oe,e3,e4,e6⟩,e5⟩=>⟨e1,wpAny_bind (wpAny_holding (wpAny_point (wpAny_pure ?_)))⟩) fun _ _ x=>x))
 exact⟨_,oe,rfl,e2,e3,e4,e6,e5⟩
end
def onlyVE:List Value→Bool
 | .ref _ :: r=>onlyVE r
 | [.type a,.type b,.type c,.type e]=>a== "ValueError" && b== "Exception" && c== "BaseException" && e== "object"
 |_=>false
def overVE (K:Frag) (C:Addr):Bool:=(PySem.W.clsIn K C).any fun cd=>onlyVE cd.mro
section
variable {prog : Program} {w : World} {A : Around} {E : Value → Shared → Prop} {s : Shared} {K : Frag} {x C : Addr} {o : Obj} {name : Str} {v : Value} {R : Result → Shared → Prop}
open PySem.W in
end
section
variable {prog : Program} {w : World} {A : Around} {E : Value → Shared → Prop} {s : Shared} {K : Frag} {x C : Addr} {ox : Obj} {od : Option Obj} {name : Str} {v : Value} {R : Result → Shared → Prop}
open PySem.W in
open PySem.W in
open PySem.W in
open PySem.W in
structure XAt (K:Frag) (C:Addr):Prop where
 ga:findIn K (.ref C) "__getattribute__" =some (some (.builtin "BaseException.__getattribute__"))
 gn:findIn K (.ref C) "__getattr__" =some none
 mb:mroIn K C (.type "BaseException")=some true
 mo:mroIn K C (.type "object")=some true
 hd:hasDictIn K C=true
 cl:findIn K (.ref C) "__class__" =some (some (.builtin "object.__class__"))
 sp:specialIn K (.builtin "object.__class__") "__get__" =some (some (.builtin "getset_descriptor.__get__"))
 tk:PySem.W.takesIn K (.builtin "object.__class__")=some true
 sa:findIn K (.ref C) "__setattr__" =some (some (.builtin "object.__setattr__"))
 po:overVE K C=true
open PySem.W in
open PySem.W in
end
def XS (a C:Addr) (d:Option Addr):HO:=.ext fun h=>∃(oe:Obj) (vs:Array Value),h.get? a=some oe∧oe.cls=.ref C∧oe.dict=d∧oe.data=.fields vs∧vs[1]?=some .none∧(∃t0:Addr,vs[0]?=some (.ref t0))∧∀dx,d=some dx→dx≠a
section
variable {X : Cx} {pins : List (Addr × Obj)} {σ : L2.St} {H : Hp} {s : Shared} {a C dx : Addr} {fs : List (Str × V)} {f : Str} {v y : V} {u : Value} {A : Around} {E : Value → Shared → Prop}
theorem xs_ok {P:Program} {w:World} {H:Hp} {h:Heap} {d:Option Addr} (x:∃(oe:Obj) (vs:Array Value),h.get? a=some oe∧oe.cls=.ref C∧oe.dict=d∧oe.data=.fields vs∧vs[1]?=some .none∧(∃t0:Addr,vs[0]?=some (.ref t0))∧∀dx,d=some dx→dx≠a):qbi P w H h a (XS a C d):=by
 obtain⟨oe,vs,h1,h2⟩:=id x
 exact⟨x,⟨oe,h1⟩,fun h1 h2 ⟨oe,vs,z,zz⟩ k=>⟨oe,vs,k _ z,zz⟩⟩
theorem xs_get {P:Program} {w:World} {h:Heap} {d:Option Addr} (x:HOk P w H h) (e:H a=some (XS a C d)):∃(oe:Obj) (vs:Array Value),h.get? a=some oe∧oe.cls=.ref C∧oe.dict=d∧oe.data=.fields vs∧vs[1]?=some .none∧(∃t0:Addr,vs[0]?=some (.ref t0))∧∀dx,d=some dx→dx≠a:=
 (show qbi P w H h a (XS a C d) from x a _ e).1
end
def del (H:Hp) (a:Addr):Hp:=fun b=>if b=a then none else H b
theorem qdk {H:Hp} {a:Addr}:del H a a=none:=by unfold del;rw [if_pos rfl]
theorem qdp {H:Hp} {a b:Addr} (h:b≠a):del H a b=H b:=by unfold del;rw [if_neg h]
section
variable {X : Cx} {pins : List (Addr × Obj)} {σ : L2.St} {H : Hp} {s : Shared} {a : Addr} {φ : Heap → Prop}
theorem Inv.del (I:Inv X pins σ H s) (e:H a=some (.ext φ)):Inv X pins σ (My.del H a) s:=by
 have ne:∀b o,H b=some o→(∀φ,o≠ .ext φ)→b≠a:=fun b o q d z=>by rw [z,e] at q;cases q;exact d _ rfl
 refine⟨I.ok,I.os,I.bare,⟨I.base.keep,I.base.slot,fun b o q n hx=>?_,I.base.there,fun b xs q=>?_,fun b o u q=>?_,fun b ps q=>?_⟩,I.loc,I.cell,?_,fun x c q=>?_,fun p hp=>?_,fun b o q=>?_,I.len⟩
 ·have z:=I.base.free b o q n hx
  by_cases hb:b=a
  ·rw [hb];exact qdk
  ·rw [qdp hb];exact z
 ·have z:=I.base.tups b xs q
  rw [qdp (ne _ _ z (by intro φ y;cases y))];exact z
 ·have z:=I.base.frzs b o u q
  rw [qdp (ne _ _ z (by intro φ y;cases y))];exact z
 ·obtain⟨more,z⟩:=I.base.tbls b ps q
  exact⟨more,by rw [qdp (ne _ _ z (by intro φ y;cases y))];exact z⟩
 ·by_cases hb:X.env.locals=a
  ·rw [hb];exact qdk
  ·rw [qdp hb];exact I.free
 ·by_cases hb:c=a
  ·rw [hb];exact qdk
  ·rw [qdp hb];exact I.freeC x c q
 ·obtain⟨z,n,l⟩:=I.pin p hp
  refine⟨z,?_,l⟩
  by_cases hb:p.1=a
  ·rw [hb];exact qdk
  ·rw [qdp hb];exact n
 ·have hb:b≠a:=fun z=>by rw [z,qdk] at q;cases q
  rw [qdp hb] at q
  exact(I.hok b o q).stay (fun _ _ _ q=>q) (fun c q=>by rw [qdp (ne _ _ q (by intro φ y;cases y))];exact q) fun c xs q=>by rw [qdp (ne _ _ q (by intro φ y;cases y))];exact q
end
structure XClI (K:Frag) (C f:Addr):Prop where
 ob:∃(nm q:Str) (N:Addr) (bs bm:List Value) (hdct:Bool) (sn:List Str) (sub:List Value) (ab:Bool) (col:Option Bool) (dd:Option Addr) (k0 k1 k2 k3 k5:Option Value) (mN:Str→Option Value),
  K.lookup C=some (excClassObj nm q C N bs bm hdct sn sub ab col dd k0 k1 k2 k3 k5 "ValueError.__new__")∧(∀h:Heap,K.In h→h.Ns N mN)∧mN "__init__" =some (.ref f)∧
  ∀h:Heap,K.In h→OwnTail h [.type "ValueError",.type "Exception",.type "BaseException",.type "object"] bm
 fn:isFn K (.ref f)=true
section
variable {X : Cx} {k : Nat} {f : Addr} {fd : FuncData} {ps : List Str} {sp : Sp} {x : Str} {C : Addr} {W : L2.St → XK} {np cpos pos : Pos} {e : Expr} {es : List Expr} {t : TA} {CX : CXT}
def tRaiseI (t:TA) (C:Addr) (sp:Sp) (W:L2.St→XK):TS:=fun _ σ H=>t σ H fun xs H1=>xs.length≤sizeLine∧∀a,H1 a=none→sp (.ref a :: xs) (upd H1 a (XS a C none)) (fun v H2=>v=.non∧∃d,H2 a=some (XS a C d)∧W σ (.ref C) d (My.del H2 a)) E0
theorem ps_raiseI (hc:X.calm=true) (M:XClI X.K C f) (F:FnOk X.prog X.w X.K X.mg X.base CX0 k f fd ps sp) (hr:Room (k+1) X.A) (hb:qao X.K fd ps []) (hg:Gl X x) (hm:X.mg x=some (.ref C)) (hx:Xes X W) (ha:PA X (e :: es) t) (hex:X.ex=[]:=by rfl) (hdb:(x==("__debug__" :Str))=false:=by decide)
  (he:starEach (e :: es) X.env=(false,eval e X.env) :: starEach es X.env:=by rfl) (hpl:(backTo cpos (starEach es X.env)).any (·.1)=false:=by rfl):
  PS X (.Raise (some (.Call (.Name x np) (e :: es) [] cpos)) none pos) (tRaiseI t C sp W):=by
 intro pins s σ H D I h
 obtain⟨nm,q,N,bs,bm,hdct,sn,sub,ab,col,dd,k0,k1,k2,k3,k5,mN,hC,hN,hni,T⟩:=M.ob
 refine qf6 (C:=C) (fI:=f) (nm:=nm) (q:=q) (N:=N) (bs:=bs) (bm:=bm) (hdct:=hdct) (sn:=sn) (sub:=sub) (ab:=ab) (col:=col) (dd:=dd) (k0:=k0) (k1:=k1) (k2:=k2) (k3:=k3) (k5:=k5)
  PySem.F.excBase_ValueError (by decide) PySem.F.excBase_ValueError (mN:=mN) ((T _ I.kIn).hasType PySem.F.excBase_ValueError.hasBase) (I.ok.hd hc) ?_ hni ?_
 ·rw [he];show (false ||(backTo cpos (starEach es X.env)).any (·.1))=false;rw [hpl];rfl
 ·refine qdt I hg hm ⟨rfl,?_⟩ hdb
  have z:=ha cpos pins s σ H _ I h
  rw [he] at z ⊢
  refine Calls.evalArgs_plain (wpAny_mono z (fun us s2 ⟨vs,H2,I2,r,hl,q⟩=>?_) fun _ _ y=>y)
  have ea:(qd5 s2.heap C us).get? (s2.heap.objs.size+1)=some {cls:=.ref C,data:=.fields #[.ref s2.heap.objs.size,.none,.none,.none,.bool false,.none]}:=by
   have:=Heap.get?_push_size (s2.heap.push {cls:=.type "tuple",data:=.seq us.toArray}) (o:={cls:=.ref C,data:=.fields #[.ref s2.heap.objs.size,.none,.none,.none,.bool false,.none]}) rfl
   rwa [Heap.size_push] at this
  have hn:H2 (s2.heap.objs.size+1)=none:=I2.hok.fresh (Nat.le_succ _)
  have I3:Inv X pins σ (upd H2 (s2.heap.objs.size+1) (XS (s2.heap.objs.size+1) C none)) {s2 with heap:=qd5 s2.heap C us}:=
   I2.laid (t':=s2.toks) (fun b o y=>Heap.get?_push_of_some _ (Heap.get?_push_of_some _ y)) (Nat.le_succ _) (xs_ok ⟨_,_,ea,rfl,rfl,rfl,rfl,⟨_,rfl⟩,fun dx y=>by cases y⟩)
  have q:=q _ hn
  refine⟨rfl,by rw [←r.length];exact hl,I2.kIn _ _ hC,hN _ I2.kIn,T _ I2.kIn,PySem.W.bind_fn I3.kIn _ (beq_iff_eq.mp M.fn),?_⟩
  have r2:qb9 (V.ref (s2.heap.objs.size+1) :: vs) (Value.ref (s2.heap.objs.size+1) :: us):=.cons rfl r
  have hln:(Value.ref (s2.heap.objs.size+1) :: us++ []).length=ps.length:=by rw [yD,←r2.length];exact F.len _ _ _ _ q
  have hb':=hb {s2 with heap:=qd5 s2.heap C us} (Value.ref (s2.heap.objs.size+1) :: us) I3.kIn hln
  rw [yD] at hb'
  refine wpAny_call (codeAny_mono (F.run _ X.stack _ _ ⟨Value.ref (s2.heap.objs.size+1) :: us, []⟩ (Value.ref (s2.heap.objs.size+1) :: us) _ _ E0 (hr.make C us []) (I3.env0.make C us []) hb' r2 q) fun r s' hq'=>?_)
  cases r with
  |error e=>exact False.elim hq'
  |ok fl=>
   cases fl with
   |ret u=>
    obtain⟨v,H',I4,rv,ev,d,e4,q4⟩:=I3.after hq'
    subst ev
    obtain⟨oe,ws,g1,g2,g3,g4,g5,g6,g7⟩:=xs_get I4.hok e4
    refine⟨rv,I4.kIn _ _ hC,⟨oe,g1,g2,ws,g4,g5⟩,?_⟩
    have new:s2.heap.get? (s2.heap.objs.size+1)=none:=Heap.get?_none_of_le (Nat.le_succ _)
    refine hx pins σ _ _ _ (.ref C) d (Inv.del I4 e4) ⟨⟨new_of I2 hex new,qdk,fun p hp y=>?_,⟨_,_,g1,g4⟩⟩,.inl ⟨_,_,g1,g2,g3,g4,g5⟩⟩ q4
    have w:=(I2.pin p hp).1
    rw [y,new] at w
    cases w
   |next=>exact False.elim hq'
   |brk=>exact False.elim hq'
   |cont=>exact False.elim hq'
end
section
variable {X : Cx}
inductive PJ (X:Cx):List Expr→List TE→Prop
 |nil:PJ X [] []
 |cons {e:Expr} {es:List Expr} {t:TE} {ts:List TE} (h:PE X e t) (r:PJ X es ts):PJ X (e :: es) (t :: ts)
end
section
variable {σ : L2.St} {H : Hp} {Q : VK} {te t : TE} {r : List TE} {z out : Str}
end
section
variable {prog : Program} {w : World} {A : Around} {E : Value → Shared → Prop} {h : Heap} {g : Array GenState} {d : Drawn} {t : Nat} {os : OsState}
variable {nm q : Str} {C N : Addr} {bs bm bmB : List Value} {hdct : Bool} {sn : List Str} {sub : List Value} {ab : Bool} {col : Option Bool} {dd : Option Addr} {k0 k1 k2 k3 k5 : Option Value} {B newId nid initId : String}
end
structure XBase (K:Frag) (T:Addr):Prop where
 ga:specialIn K (.ref T) "__getattribute__" =some (some (.builtin "type.__getattribute__"))
 rd:PySem.W.readsIn K T (.type "type")=true
 at_:PySem.W.findCls K (.ref T) (.type "type") "__init__" =some (.val (.builtin "ValueError.__init__"))
section
variable {X : Cx} {C T f : Addr} {x : Str} {p apos cpos : Pos} {e : Expr} {es : List Expr} {t : TA}
end
section
variable {X : Cx} {o e value : Expr} {f : Str} {pos pos' : Pos} {ta tv : TE}
end
section
variable {K : Frag} {σ : L2.St} {H : Hp} {Q : VK} {D : Ends} {ta tv : TE} {f : Str} {a C dx c : Addr} {d : Option Addr} {fs : List (Str × V)} {v y : V} {b : Bool}
end
open PySem.MeetsSeq PySem.MeetsSeq2 PySem.MeetsSeq3 PySem.SeqRoads2
def EqW (P:Program) (w:World) (A:Around) (s:Shared) (y x:Value) (b:Bool):Prop:=∀(E:Value→Shared→Prop) (Q:Bool→Shared→Prop),Q b s→wpAny (model P w) A (eqBool y x) Q E s
def opN:Bool→CmpOp
 |false=> .Eq
 |true=> .NotEq
def RcW (P:Program) (w:World) (A:Around) (s:Shared) (ne:Bool) (y x:Value) (b:Bool):Prop:=∀(E:Value→Shared→Prop) (Q:Value→Shared→Prop),Q (.bool b) s→wpAny (model P w) A (richCompare (opN ne) y x) Q E s
def codeN:Bool→Int
 |false=>2
 |true=>3
abbrev lo (dd:Option Addr) (xs:Array Value) (n:Nat) (sl:Array (Option Value)):Obj:={cls:=.type "list",dict:=dd,data:=.seq xs n,slots:=sl}
abbrev tob (dd:Option Addr) (xs:Array Value) (n:Nat) (sl:Array (Option Value)):Obj:={cls:=.type "tuple",dict:=dd,data:=.seq xs n,slots:=sl}
section
variable {P : Program} {w : World} {A : Around} {s : Shared} {l b : Addr} {k : Bool}
theorem EqW.of {y x:Value} (h:SeqAt.EqAt A s y x k):EqW P w A s y x k:=fun E Q q=>h P w E Q q
theorem EqW.refs (hn:l≠b) (h:RcW P w A s false (.ref l) (.ref b) k):EqW P w A s (.ref l) (.ref b) k:=fun E Q q=>by
 unfold eqBool
 refine wpAny_holding (wpAny_ite_split (fun z=>?_) fun _=>wpAny_bind (h E _ (wpAny_truthy_bool q)))
 have z':=eq_of_beq z
 injection z' with z'
 exact absurd z' hn
abbrev Fin1 (P:Program) (w:World) (A:Around) (R:Result→Shared→Prop):PySem.Fin→Shared→Prop:=fun f s'=>match f with| .done r=>R (.ok r) s'| .again c=>c.quiet=true∧codeAny (model P w) A c R s'
theorem loopW (ne:Bool) {xs ys:Array Value} {n m:Nat} {d1 d2:Option Addr} {s1 s2:Array (Option Value)} (hz:xs.size=ys.size) (f:Nat→Bool) (r:Nat):∀(i:Nat),xs.size - i=r→∀(A:Around) (R:Result→Shared→Prop) (s:Shared),s.heap.get? l=some (lo d1 xs n s1)→s.heap.get? b=some (lo d2 ys m s2)→
  (∀j (h1:j < xs.size) (h2:j < ys.size),EqW P w A.in1 s xs[j] ys[j] (f j))→R (.ok (.ret (.bool (ne !=((List.range xs.size).drop i).all f)))) s→
  wpAny (model P w) A.in1 (Builtin.«list.__eq__.loop» ⟨[.ref l,.ref b,rawInt i,rawInt (codeN ne)], []⟩) (Fin1 P w A R) (fun e s'=>R (.error e) s') s:=by
 induction r with
 |zero=>
  intro i hr A R s hl hb he q
  obtain⟨hp,g,d,tk,os⟩:=s
  have t1:xs[((i:Nat):Int).toNat]?=none:=by simp;omega
  have t2:ys[((i:Nat):Int).toNat]?=none:=by simp;omega
  have t3:(List.range xs.size).drop i=[]:=by simp;omega
  rw [t3] at q
  cases ne with
  |false=>
   wp_walk using AutoSeq1.wpAny_loadPart' hl,AutoSeq1.wpAny_loadPart' hb
   rw [t1,t2]
   wp_walk using AutoSeq1.wpAny_loadPart' hl,AutoSeq1.wpAny_loadPart' hb
   show R (.ok (.ret (.bool (xs.size==ys.size)))) _
   rw [hz]
   simpa using q
  |true=>
   wp_walk using AutoSeq1.wpAny_loadPart' hl,AutoSeq1.wpAny_loadPart' hb
   rw [t1,t2]
   wp_walk using AutoSeq1.wpAny_loadPart' hl,AutoSeq1.wpAny_loadPart' hb
   show R (.ok (.ret (.bool (xs.size !=ys.size)))) _
   rw [hz]
   simpa using q
 |succ r ih=>
  intro i hr A R s hl hb he q
  obtain⟨hp,g,d,tk,os⟩:=s
  have j1:i < xs.size:=by omega
  have j2:i < ys.size:=by omega
  have t1:xs[((i:Nat):Int).toNat]?=some xs[i]:=by simp [j1]
  have t2:ys[((i:Nat):Int).toNat]?=some ys[i]:=by simp [j2]
  have t3:(List.range xs.size).drop i=i ::(List.range xs.size).drop (i+1):=by simp [List.drop_eq_getElem_cons,j1]
  have t4:((i:Int)+1)=((i+1:Nat):Int):=by push_cast;rfl
  rw [t3,yX] at q
  cases ne with
  |false=>
   wp_walk using AutoSeq1.wpAny_loadPart' hl,AutoSeq1.wpAny_loadPart' hb
   rw [t1,t2]
   refine wpAny_bind (he i j1 j2 _ _ ?_)
   cases hf:f i with
   |true=>
    rw [hf] at q
    wp_walk
    rw [t4]
    refine⟨plainId_quiet plain_eq_loop _,codeAny_builtin entry_eq_loop ?_⟩
    rw [Around.under_plainId plain_eq_loop _]
    exact ih (i+1) (by omega) A R _ hl hb he (by simpa using q)
   |false=>
    rw [hf] at q
    wp_walk using AutoSeq1.wpAny_loadPart' hl,AutoSeq1.wpAny_loadPart' hb
    rw [t1,t2]
    wp_walk
    simpa using q
  |true=>
   wp_walk using AutoSeq1.wpAny_loadPart' hl,AutoSeq1.wpAny_loadPart' hb
   rw [t1,t2]
   refine wpAny_bind (he i j1 j2 _ _ ?_)
   cases hf:f i with
   |true=>
    rw [hf] at q
    wp_walk
    rw [t4]
    refine⟨plainId_quiet plain_eq_loop _,codeAny_builtin entry_eq_loop ?_⟩
    rw [Around.under_plainId plain_eq_loop _]
    exact ih (i+1) (by omega) A R _ hl hb he (by simpa using q)
   |false=>
    rw [hf] at q
    wp_walk using AutoSeq1.wpAny_loadPart' hl,AutoSeq1.wpAny_loadPart' hb
    rw [t1,t2]
    wp_walk
    simpa using q
theorem listW (ne:Bool) {xs ys:Array Value} {n m:Nat} {d1 d2:Option Addr} {s1 s2:Array (Option Value)} (hz:xs.size=ys.size) (f:Nat→Bool) {R:Result→Shared→Prop} (hl:s.heap.get? l=some (lo d1 xs n s1)) (hb:s.heap.get? b=some (lo d2 ys m s2))
  (he:∀j (h1:j < xs.size) (h2:j < ys.size),EqW P w A.in1 s xs[j] ys[j] (f j)) (q:R (.ok (.ret (.bool (ne !=(List.range xs.size).all f)))) s):
  wpAny (model P w) A.in1 ((if ne=true then Builtin.«list.__ne__» else Builtin.«list.__eq__») ⟨[.ref l,.ref b], []⟩) (Fin1 P w A R) (fun e s'=>R (.error e) s') s:=by
 obtain⟨hp,g,d,tk,os⟩:=s
 have f3:=AutoSeq1.sub_list_list
 have z0:¬(xs.size !=ys.size)=true:=by simp [hz]
 cases ne with
 |false=>
  show wpAny _ _ (Builtin.«list.__eq__» _) _ _ _
  wp_walk using AutoSeq1.wpAny_loadPart' hl,AutoSeq1.wpAny_loadPart' hb
  refine⟨plainId_quiet plain_eq_loop _,codeAny_builtin entry_eq_loop ?_⟩
  rw [Around.under_plainId plain_eq_loop _]
  exact loopW false hz f _ 0 rfl A R _ hl hb he (by simpa using q)
 |true=>
  show wpAny _ _ (Builtin.«list.__ne__» _) _ _ _
  wp_walk using AutoSeq1.wpAny_loadPart' hl,AutoSeq1.wpAny_loadPart' hb
  refine⟨plainId_quiet plain_eq_loop _,codeAny_builtin entry_eq_loop ?_⟩
  rw [Around.under_plainId plain_eq_loop _]
  exact loopW true hz f _ 0 rfl A R _ hl hb he (by simpa using q)
theorem callW {T id:String} {name:Str} {B:Builtin} {self:Value} {rest:List Value} {E Q:Value→Shared→Prop} (slot:Slot T name id) (hT:s.TypeIs self T) (entry:entryFor table id=some B) (args:argsOk id ⟨self :: rest, []⟩)
  (h:wpAny (model P w) A.in1 (B ⟨self :: rest, []⟩) (Fin1 P w A (wants Q E)) (fun e s'=>wants Q E (.error e) s') s):wpAny (model P w) A (call (.builtin id) (self :: rest)) Q E s:=
 wpAny_call (codeAny_call_builtin slot.plain entry (slot.check _ _ _ _ _ _ _ _ hT args h))
theorem RcW.lists (ne:Bool) {xs ys:Array Value} {f:Nat→Bool} (hl:s.heap.IsList l xs) (hb:s.heap.IsList b ys) (hz:xs.size=ys.size) (hu:A.units < cLine) (he:∀j (h1:j < xs.size) (h2:j < ys.size),EqW P w A.in1 s xs[j] ys[j] (f j)):
  RcW P w A s ne (.ref l) (.ref b) (ne !=(List.range xs.size).all f):=fun E Q q=>by
 obtain⟨⟨c1,d1,e1,s1⟩,ho,hc,n,hd⟩:=id hl
 obtain⟨⟨c2,d2,e2,s2⟩,ho2,hc2,m,hd2⟩:=id hb
 simp only at hc hd hc2 hd2
 subst hc hd hc2 hd2
 have q':Value.bool (ne !=(List.range xs.size).all f)≠Value.notImplemented∧Q (.bool (ne !=(List.range xs.size).all f)) s:=⟨(fun x=>nomatch x),q⟩
 cases ne with
 |false=>exact wpAny_richCompare_same_room (op:=.Eq) ⟨_,ho,rfl⟩ ⟨_,ho2,rfl⟩ F.slot_list_eq (callW F.slot_list_eq ⟨_,ho,rfl⟩ F.entry_list_eq (F.args_list_eq_2 _ _) (listW (R:=wants (fun v s'=>v≠ .notImplemented∧Q v s') E) false hz f ho ho2 he q')) hu
 |true=>exact wpAny_richCompare_same_room (op:=.NotEq) ⟨_,ho,rfl⟩ ⟨_,ho2,rfl⟩ F.slot_list_ne (callW F.slot_list_ne ⟨_,ho,rfl⟩ F.entry_list_ne (F.args_list_ne_2 _ _) (listW (R:=wants (fun v s'=>v≠ .notImplemented∧Q v s') E) true hz f ho ho2 he q')) hu
theorem RcW.listsN (ne:Bool) {xs ys:Array Value} (hl:s.heap.IsList l xs) (hb:s.heap.IsList b ys) (hz:(xs.size !=ys.size)=true) (hu:A.units < cLine):RcW P w A s ne (.ref l) (.ref b) (ne !=false):=fun E Q q=>by
 cases ne with
 |false=>exact SeqAt.RcAt.lists_lengths hl hb hz hu P w E Q q
 |true=>exact SeqAt.RcNeAt.lists_lengths hl hb hz hu P w E Q q
theorem tupW (ne:Bool) {xs ys:Array Value} {n m:Nat} {d1 d2:Option Addr} {s1 s2:Array (Option Value)} (f:Nat→Bool) {E Q:Value→Shared→Prop} (hl:s.heap.get? l=some (tob d1 xs n s1)) (hb:s.heap.get? b=some (tob d2 ys m s2))
  (he:∀j (h1:j < xs.size) (h2:j < ys.size),EqW P w A.in1 s xs[j] ys[j] (f j)) (q:Q (.bool (ne !=((List.range (min xs.size ys.size)).all f && xs.size==ys.size))) s):
  wpAny (model P w) A.in1 ((if ne=true then Builtin.«tuple.__ne__» else Builtin.«tuple.__eq__») ⟨[.ref l,.ref b], []⟩) (fun fin s'=>∃v,fin=.done (.ret v)∧Q v s') E s:=by
 obtain⟨hp,g,d,tk,os⟩:=s
 have f2:=AutoSeq1.sub_tuple_tuple
 have hZ:(xs.toList.zip ys.toList).length=min xs.size ys.size:=by simp
 have turn:∀(x y:Value) (rest:List (Value × Value)) (i:Nat),(x,y) :: rest=(xs.toList.zip ys.toList).drop i→∃(h1:i < xs.size) (h2:i < ys.size),x=xs[i]∧y=ys[i]∧rest=(xs.toList.zip ys.toList).drop (i+1)∧(List.range (min xs.size ys.size)).drop i=i ::(List.range (min xs.size ys.size)).drop (i+1):=fun x y rest i hz=>by
  have hlt:i <(xs.toList.zip ys.toList).length:=by
   rcases Nat.lt_or_ge i (xs.toList.zip ys.toList).length with z|z
   ·exact z
   ·rw [List.drop_of_length_le z] at hz;cases hz
  have hm:i < min xs.size ys.size:=hZ ▸ hlt
  have h1:i < xs.size:=Nat.lt_of_lt_of_le hm (Nat.min_le_left _ _)
  have h2:i < ys.size:=Nat.lt_of_lt_of_le hm (Nat.min_le_right _ _)
  rw [List.drop_eq_getElem_cons hlt] at hz
  injection hz with hxy hrest
  exact⟨h1,h2,by have:=congrArg Prod.fst hxy;simpa using this,by have:=congrArg Prod.snd hxy;simpa using this,hrest,by simp [List.drop_eq_getElem_cons,hm]⟩
 have last:∀i:Nat, []=(xs.toList.zip ys.toList).drop i→(List.range (min xs.size ys.size)).drop i=[]:=fun i hz=>by
  have hge:min xs.size ys.size≤i:=by
   rcases Nat.lt_or_ge i (xs.toList.zip ys.toList).length with z|z
   ·rw [List.drop_eq_getElem_cons z] at hz;cases hz
   ·exact hZ ▸ z
  exact List.drop_of_length_le (by simpa using hge)
 cases ne with
 |false=>
  show wpAny _ _ (Builtin.«tuple.__eq__» _) _ _ _
  wp_walk using AutoSeq1.wpAny_loadPart' hl,AutoSeq1.wpAny_loadPart' hb,wpAny_forIn_list _ (fun rest c s'=>c.1=none∧s'=⟨hp,g,d,tk,os⟩∧∃i,rest=(xs.toList.zip ys.toList).drop i∧Q (.bool (((List.range (min xs.size ys.size)).drop i).all f && xs.size==ys.size)) ⟨hp,g,d,tk,os⟩) _
  case turn=>
   rintro⟨x,y⟩ rest c s' ⟨hc,rfl,i,hz,hR⟩
   obtain⟨h1,h2,rfl,rfl,hrest,hd⟩:=turn x y rest i hz
   rw [hd,yX] at hR
   refine wpAny_bind (he i h1 h2 _ _ ?_)
   cases hf:f i with
   |true=>
    rw [hf] at hR
    wp_walk
    exact⟨rfl,rfl,i+1,hrest,by simpa using hR⟩
   |false=>
    rw [hf] at hR
    wp_walk
    exact⟨_,rfl,by simpa using hR⟩
  case fin=>
   rintro⟨c1,c2⟩ s' ⟨hc,rfl,i,hz,hR⟩
   simp only at hc
   subst hc
   rw [last i hz] at hR
   wp_walk
   exact⟨_,rfl,by simpa [Builtin.Tuple.tupleCompareSizes] using hR⟩
  case h=>exact⟨rfl,rfl,0,rfl,by simpa using q⟩
 |true=>
  show wpAny _ _ (Builtin.«tuple.__ne__» _) _ _ _
  wp_walk using AutoSeq1.wpAny_loadPart' hl,AutoSeq1.wpAny_loadPart' hb,wpAny_forIn_list _ (fun rest c s'=>c.1=none∧s'=⟨hp,g,d,tk,os⟩∧∃i,rest=(xs.toList.zip ys.toList).drop i∧Q (.bool (!(((List.range (min xs.size ys.size)).drop i).all f && xs.size==ys.size))) ⟨hp,g,d,tk,os⟩) _
  case turn=>
   rintro⟨x,y⟩ rest c s' ⟨hc,rfl,i,hz,hR⟩
   obtain⟨h1,h2,rfl,rfl,hrest,hd⟩:=turn x y rest i hz
   rw [hd,yX] at hR
   refine wpAny_bind (he i h1 h2 _ _ ?_)
   cases hf:f i with
   |true=>
    rw [hf] at hR
    wp_walk
    exact⟨rfl,rfl,i+1,hrest,by simpa using hR⟩
   |false=>
    rw [hf] at hR
    wp_walk
    exact⟨_,rfl,by simpa using hR⟩
  case fin=>
   rintro⟨c1,c2⟩ s' ⟨hc,rfl,i,hz,hR⟩
   simp only at hc
   subst hc
   rw [last i hz] at hR
   wp_walk
   exact⟨_,rfl,by simpa [Builtin.Tuple.tupleCompareSizes,bne] using hR⟩
  case h=>exact⟨rfl,rfl,0,rfl,by simpa using q⟩
theorem RcW.tuples (ne:Bool) {xs ys:Array Value} {f:Nat→Bool} (hl:s.heap.IsTuple l xs) (hb:s.heap.IsTuple b ys) (hu:A.units < cLine) (he:∀j (h1:j < xs.size) (h2:j < ys.size),EqW P w A.in1 s xs[j] ys[j] (f j)):
  RcW P w A s ne (.ref l) (.ref b) (ne !=((List.range (min xs.size ys.size)).all f && xs.size==ys.size)):=fun E Q q=>by
 obtain⟨⟨c1,d1,e1,s1⟩,ho,hc,n,hd⟩:=id hl
 obtain⟨⟨c2,d2,e2,s2⟩,ho2,hc2,m,hd2⟩:=id hb
 simp only at hc hd hc2 hd2
 subst hc hd hc2 hd2
 cases ne with
 |false=>exact wpAny_richCompare_same_room (op:=.Eq) ⟨_,ho,rfl⟩ ⟨_,ho2,rfl⟩ F.slot_tuple_eq (wpAny_call_entry F.slot_tuple_eq ⟨_,ho,rfl⟩ F.entry_tuple_eq (tupW (Q:=fun v s'=>v≠ .notImplemented∧Q v s') false f ho ho2 he ⟨(fun x=>nomatch x),q⟩) (F.args_tuple_eq_2 _ _)) hu
 |true=>exact wpAny_richCompare_same_room (op:=.NotEq) ⟨_,ho,rfl⟩ ⟨_,ho2,rfl⟩ F.slot_tuple_ne (wpAny_call_entry F.slot_tuple_ne ⟨_,ho,rfl⟩ F.entry_tuple_ne (tupW (Q:=fun v s'=>v≠ .notImplemented∧Q v s') true f ho ho2 he ⟨(fun x=>nomatch x),q⟩) (F.args_tuple_ne_2 _ _)) hu
end
end My
namespace My
open PySem PySem.Spec PyProof.Rows L2
inductive DEq (K:Frag) (H:Hp):Nat→V→V→Bool→Prop
 |same {n:Nat} {a:Addr}:DEq K H n (.ref a) (.ref a) true
 |flat {n:Nat} {x y:V} (hx:qdn x=true) (hy:qdn y=true):DEq K H n x y (eqV x y)
 |ls {n:Nat} {a b:Addr} {xs ys:List V} {e:Nat→Bool} (ha:SqL K H a xs) (hb:SqL K H b ys) (ne:a≠b) (hl:xs.length=ys.length)
   (he:∀j (h1:j < xs.length) (h2:j < ys.length),DEq K H n xs[j] ys[j] (e j)):DEq K H (n+1) (.ref a) (.ref b) ((List.range xs.length).all e)
 |lsN {n:Nat} {a b:Addr} {xs ys:List V} (ha:SqL K H a xs) (hb:SqL K H b ys) (ne:a≠b) (hl:xs.length≠ys.length):DEq K H (n+1) (.ref a) (.ref b) false
 |ts {n:Nat} {a b:Addr} {xs ys:List V} {e:Nat→Bool} (ha:SqT K H a xs) (hb:SqT K H b ys) (ne:a≠b)
   (he:∀j (h1:j < xs.length) (h2:j < ys.length),DEq K H n xs[j] ys[j] (e j)):DEq K H (n+1) (.ref a) (.ref b) ((List.range (min xs.length ys.length)).all e && xs.length==ys.length)
 |dd {n:Nat} {a b:Addr} {ka kb:List (Key × V)} (ha:Rd H a (.dK ka)) (hb:Rd H b (.dK kb)) (ne:a≠b) (fa:∀p∈ka,qdn p.2=true) (fb:∀p∈kb,qdn p.2=true):
   DEq K H (n+1) (.ref a) (.ref b) (ka.length==kb.length && ka.all fun p=>(qcp kb p.1).elim false (eqV p.2))
theorem qfm {xs:List V} {us:List Value} (r:qb9 xs us) {j:Nat} (h1:j < xs.length) (h2:j < us.length):qba xs[j] us[j]:=by
 obtain⟨u,e,ru⟩:=r.get (zA h1)
 rw [zA h2] at e
 cases e
 exact ru
theorem valV_mem {kvs:List (Key × V)} {k:Key} {v:V} (h:qcp kvs k=some v):(k,v)∈kvs:=by
 unfold qcp at h
 obtain⟨p,hp,rfl⟩:=Option.map_eq_some_iff.mp h
 have e:=List.find?_some hp
 have e':p.1=k:=of_decide_eq_true e
 subst e'
 exact List.mem_of_find?_eq_some hp
theorem hits_of {A:Around} {s:Shared} {kb:List (Key × V)} {vb:List (Key × Value)} (rb:KV kb vb) (fb:∀p∈kb,qdn p.2=true) {ka:List (Key × V)} {va:List (Key × Value)} (ra:KV ka va) (fa:∀p∈ka,qdn p.2=true):
  PySem.W.KeqHits A s vb va (ka.all fun p=>(qcp kb p.1).elim false (eqV p.2)):=by
 induction ra with
 |nil=>exact .nil
 | @cons p q l1 l2 h t ih=>
  obtain⟨k,v⟩:=p
  obtain⟨k',u⟩:=q
  obtain⟨e,ru⟩:=h
  dsimp only at e ru
  subst e
  have z:=rb.val k
  rw [yX]
  have ih':=ih fun p hp=>fa p (zF _ hp)
  cases hv:qcp kb k with
  |none=>
   rw [hv] at z
   have hn:valueAt vb k=none:=qg9.none_of z
   exact .miss hn
  |some y=>
   rw [hv] at z
   cases hu:valueAt vb k with
   |none=>rw [hu] at z;exact z.elim
   |some yu=>
    rw [hu] at z
    exact .hit hu (eqAt_V ru z (fa _ (zI ..)) (fb _ (valV_mem hv))) ih'
section
variable {X : Cx} {pins : List (Addr × Obj)} {σ : L2.St} {H : Hp} {s : Shared}
theorem PlainL.isList {h:Heap} {a:Addr} {its:Array Value} (p:PlainL h a its):h.IsList a its:=by
 obtain⟨o,n,e,c,d,t⟩:=p
 exact⟨o,e,c,n,t⟩
theorem deq_ok (I:Inv X pins σ H s) {n:Nat} {x y:V} {k:Bool} (q:DEq X.K H n x y k):∀(A:Around) (u v:Value),qba x u→qba y v→A.units+n < cLine→
  EqW X.prog X.w A s u v k∧∀a b,x=.ref a→y=.ref b→a≠b→∀ne:Bool,RcW X.prog X.w A s ne (.ref a) (.ref b) (ne !=k):=by
 have both:∀{A:Around} {a b:Addr} {k:Bool},a≠b→(∀ne:Bool,RcW X.prog X.w A s ne (.ref a) (.ref b) (ne !=k))→
   EqW X.prog X.w A s (.ref a) (.ref b) k∧∀a' b',V.ref a=.ref a'→V.ref b=.ref b'→a'≠b'→∀ne:Bool,RcW X.prog X.w A s ne (.ref a') (.ref b') (ne !=k):=fun {A a b k} ne R=>
  ⟨EqW.refs ne (by have z:=R false;simpa using z),fun a' b' e1 e2 _=>by cases e1;cases e2;exact R⟩
 induction q with
 | @same n a=>
  intro A u v ru rv hu
  obtain rfl:u=Value.ref a:=ru
  obtain rfl:v=Value.ref a:=rv
  exact⟨EqW.of (SeqAt.EqAt.same _),fun a' b' e1 e2 ne=>by cases e1;cases e2;exact absurd rfl ne⟩
 |flat hx hy=>
  intro A u v ru rv hu
  exact⟨EqW.of (eqAt_V ru rv hx hy),fun a b e _ _=>by subst e;cases hx⟩
 | @ls n a b xs ys e ha hb ne hl he ih=>
  intro A u v ru rv hu
  obtain rfl:u=Value.ref a:=ru
  obtain rfl:v=Value.ref b:=rv
  obtain⟨its,r1,p1,_⟩:=I.list ha
  obtain⟨its2,r2,p2,_⟩:=I.list hb
  have l1:=r1.length
  have l2:=r2.length
  refine both ne fun nb=>?_
  have z:=RcW.lists (P:=X.prog) (w:=X.w) (A:=A) (s:=s) nb (f:=e) (PlainL.isList p1) (PlainL.isList p2) (by rw [zP,zP];omega) (by omega) fun j h1 h2=>by
   have k1:j < its.length:=by simpa using h1
   have k2:j < its2.length:=by simpa using h2
   have w:=(ih j (by omega) (by omega) A.in1 its[j] its2[j] (qfm r1 (by omega) k1) (qfm r2 (by omega) k2) (by show A.units+1+n < cLine;omega)).1
   simpa using w
  rw [zP,←l1] at z
  exact z
 | @lsN n a b xs ys ha hb ne hl=>
  intro A u v ru rv hu
  obtain rfl:u=Value.ref a:=ru
  obtain rfl:v=Value.ref b:=rv
  obtain⟨its,r1,p1,_⟩:=I.list ha
  obtain⟨its2,r2,p2,_⟩:=I.list hb
  have l1:=r1.length
  have l2:=r2.length
  exact both ne fun nb=>RcW.listsN nb (PlainL.isList p1) (PlainL.isList p2) (by rw [zP,zP];simp;omega) (by omega)
 | @ts n a b xs ys e ha hb ne he ih=>
  intro A u v ru rv hu
  obtain rfl:u=Value.ref a:=ru
  obtain rfl:v=Value.ref b:=rv
  obtain⟨its,r1,p1,_⟩:=I.tuple ha
  obtain⟨its2,r2,p2,_⟩:=I.tuple hb
  have l1:=r1.length
  have l2:=r2.length
  refine both ne fun nb=>?_
  have z:=RcW.tuples (P:=X.prog) (w:=X.w) (A:=A) (s:=s) nb (f:=e) p1 p2 (by omega) fun j h1 h2=>by
   have k1:j < its.length:=by simpa using h1
   have k2:j < its2.length:=by simpa using h2
   have w:=(ih j (by omega) (by omega) A.in1 its[j] its2[j] (qfm r1 (by omega) k1) (qfm r2 (by omega) k2) (by show A.units+1+n < cLine;omega)).1
   simpa using w
  rw [zP,zP,←l1,←l2] at z
  exact z
 | @dd n a b ka kb ha hb ne fa fb=>
  intro A u v ru rv hu
  obtain rfl:u=Value.ref a:=ru
  obtain rfl:v=Value.ref b:=rv
  obtain⟨_,ga,va,ra,da⟩:=qfa I.hok ha
  obtain⟨_,gb,vb,rb,db⟩:=qfa I.hok hb
  have l1:=ra.length
  have l2:=rb.length
  refine both ne fun nb E Q q=>?_
  have hits:=hits_of (A:=A.in1) (s:=s) rb fb ra fa
  rw [l1,l2] at q
  cases nb with
  |false=>exact PySem.W.keq_eq ga gb da db (by omega) (fun _=>hits) (by simpa using q)
  |true=>exact PySem.W.keq_ne ga gb da db (by omega) (fun _=>hits) (by simpa using q)
def rEqD (K:Frag):R2:=fun x y H Q=>∃a b n k,x=.ref a∧y=.ref b∧a≠b∧n≤8∧DEq K H n (.ref a) (.ref b) k∧Q (.bl k) H
theorem op_eqD (hu:X.A.units+8 < cLine):OpR X (compareOp .Eq) (rEqD X.K):=by
 intro pins s σ H x y v u Q I rx ry h
 obtain⟨a,b,n,k,rfl,rfl,ne,hn,q,z⟩:=h
 cases rx
 cases ry
 have r:=(deq_ok I q X.A _ _ rfl rfl (by omega)).2 a b rfl rfl ne false X.xe (EP X pins σ Q)
 rw [Bool.false_bne] at r
 exact r ⟨.bl k,H,I,rfl,z⟩
end
section
variable {X : Cx}
def rListOf (K:Frag):List V→Hp→VK→Prop:=fun xs H Q=>∃p ys,xs=[.ref p]∧(SqL K H p ys∨SqT K H p ys)∧∀l,H l=none→Q (.ref l) (upd H l (.lst ys))
theorem qdl:qcd X (.type "list") (rListOf X.K):=call_list_of
end
section
variable {K : Frag} {σ : L2.St} {H : Hp} {Q : VK} {p l b : Addr} {ys xs zs : List V} {to : TE} {t : TA} {T : String} {r : V → List V → Hp → VK → Prop} {x v : V}
theorem qfx (h:SqL K H p ys) (q:∀l,H l=none→Q (.ref l) (upd H l (.lst ys))):rListOf K [.ref p] H Q:=⟨p,ys,rfl,.inl h,q⟩
theorem r_bm (h:to σ H fun x H1=>tyV K T x H1∧t σ H1 fun xs H2=>r x xs H2 Q):tBM K T r to t σ H Q:=h
theorem r_tyL {P:Prop} (h:SqL K H p ys) (q:P):tyV K "list" (.ref p) H∧P:=⟨.inl ⟨rfl,_,h⟩,q⟩
theorem r_append (h:H l=some (.lst xs)) (hz:xs.length < sizeLine) (q:Q .non (upd H l (.lst (xs++ [v])))):rAppend (.ref l) [v] H Q:=⟨l,xs,v,rfl,rfl,h,hz,q⟩
end
def initIn (K:Frag) (C f:Addr):Bool:=match K.lookup C with
 |some ⟨.type "type",_,.cls cd,sl⟩=>(match cd.mro,sl.toList with
  | .ref C' :: bm, [_,_,_,_,some (.builtin n),_]=>C'==C && n== "ValueError.__new__" && !cd.hasDel && PySem.W.tailIn K [.type "ValueError",.type "Exception",.type "BaseException",.type "object"] bm && PySem.W.nsOkIn K cd.ns && nsIn K cd.ns "__init__" ==some (some (.ref f))
  |_,_=>false)
 |_=>false
theorem xcli_of {K:Frag} {C f:Addr} (q:initIn K C f=true) (hf:isFn K (.ref f)=true):XClI K C f:=by
 refine⟨?_,hf⟩
 unfold initIn at q
 split at q
 ·rename_i dd cd sl ho
  split at q
  ·rename_i C' bm k0 k1 k2 k3 n k5 hm hs
   simp only [Bool.and_eq_true,beq_iff_eq,Bool.not_eq_true'] at q
   obtain⟨⟨⟨⟨⟨rfl,rfl⟩,hdel⟩,ht⟩,hok⟩,hni⟩:=q
   obtain⟨nm,bs,mro,ns,qn,hd,sn,sub,ab,col,del⟩:=cd
   dsimp only at hm hdel hok hni
   subst hm hdel
   have hsl:sl= #[k0,k1,k2,k3,some (.builtin "ValueError.__new__"),k5]:=by
    obtain⟨l⟩:=sl
    simp only at hs
    rw [hs]
   subst hsl
   unfold PySem.W.nsOkIn at hok
   split at hok
   ·rename_i c1 d1 es ep sl1 hN
    have hSK:StrKeys es:=fun e he=>by
     have z:=Array.all_eq_true_iff_forall_mem.mp hok e he
     split at z
     ·rename_i n t q;exact⟨n,t,q⟩
     ·cases z
    have hNs:∀h:Heap,K.In h→h.Ns ns (fun x=>nsFind es x):=fun h X=>⟨_,es,ep,X _ _ hN,rfl,hSK,fun _=>rfl⟩
    refine⟨nm,qn,ns,bs,bm,hd,sn,sub,ab,col,dd,k0,k1,k2,k3,k5,fun x=>nsFind es x,ho,hNs,?_,fun h X=>PySem.W.tail_of_in X ht⟩
    unfold nsIn at hni
    rw [hN] at hni
    dsimp only at hni
    split at hni
    ·rename_i hf
     show nsFind es "__init__" =some (.ref f)
     unfold nsFind findBy
     rw [←Array.find?_toList,hf]
     exact congrArg some (Option.some.inj (Option.some.inj hni))
    ·first|(split at hni <;> cases hni) |simp at hni
   ·cases hok
  ·cases q
 ·cases q
structure RoomH (k:Nat) (A:Around):Prop where
 dp:A.depth+3*k+5 < recursionLimit
 un:A.units+16*k+200 < cLine
structure FnOkH (P:Program) (w:World) (K:Frag) (mg:Str→Option Value) (base:Heap) (k:Nat) (f:Addr) (fd:FuncData) (ps:List Str) (sp:Sp):Prop where
 len:∀vs H Q E,sp vs H Q E→vs.length=ps.length
 run:∀(a:Addr) (A:Around) (outer:List Env) (s:Shared) (H:Hp) (args:Args) (us:List Value) (vs:List V) (Q:VK) (E:XK),RoomH k A→A.handled=some (.ref a)→Env0 P w K mg base A outer s H→BindsTo s fd args (ps.zip us)→qb9 vs us→sp vs H Q E→
  codeAny (model P w) A (.call (.ref f) args) (CR CX0 outer P w H s Q E) s
section
variable {X : Cx} {k : Nat} {f a : Addr} {fd : FuncData} {ps : List Str} {sp : Sp} {x : Str} {p pos : Pos} {e : Expr} {es : List Expr} {t : TA}
end
section
variable {X : Cx}
def rNeD (K:Frag):R2:=fun x y H Q=>∃a b n k,x=.ref a∧y=.ref b∧a≠b∧n≤8∧DEq K H n (.ref a) (.ref b) k∧Q (.bl (!k)) H
theorem op_neD (hu:X.A.units+8 < cLine):OpR X (compareOp .NotEq) (rNeD X.K):=by
 intro pins s σ H x y v u Q I rx ry h
 obtain⟨a,b,n,k,rfl,rfl,ne,hn,q,z⟩:=h
 cases rx
 cases ry
 have r:=(deq_ok I q X.A _ _ rfl rfl (by omega)).2 a b rfl rfl ne true X.xe (EP X pins σ Q)
 rw [Bool.true_bne] at r
 exact r ⟨.bl (!k),H,I,rfl,z⟩
end
section
variable {K : Frag} {H : Hp} {Q : VK} {a b : Addr} {n : Nat} {k : Bool}
theorem r_eqD (ne:a≠b) (hn:n≤8) (q:DEq K H n (.ref a) (.ref b) k) (h:Q (.bl k) H):rEqD K (.ref a) (.ref b) H Q:=⟨a,b,n,k,rfl,rfl,ne,hn,q,h⟩
theorem r_neD (ne:a≠b) (hn:n≤8) (q:DEq K H n (.ref a) (.ref b) k) (h:Q (.bl (!k)) H):rNeD K (.ref a) (.ref b) H Q:=⟨a,b,n,k,rfl,rfl,ne,hn,q,h⟩
end
section
variable {K : Frag} {σ : L2.St} {H : Hp} {Q : VK} {D : Ends} {ta tv : TE} {t : TA} {f : Str} {C : Addr}
end
theorem hu8 {k:Nat} {A:Around} (r:Room k A):A.units+8 < cLine:=by have:=r.un;omega
section
variable {K : Frag} {cs : List Addr} {i j : Nat} {c e : Addr}
end
def DEqs (K:Frag) (H:Hp) (n:Nat):List V→List V→Prop
 | [], []=>True
 |x :: xs,y :: ys=>DEq K H n x y true∧DEqs K H n xs ys
 |_,_=>False
theorem DEqs.len {K:Frag} {H:Hp} {n:Nat}:∀{xs ys:List V},DEqs K H n xs ys→xs.length=ys.length
 | [], [],_=>rfl
 |_ :: _,_ :: _,h=>congrArg (·+1) (DEqs.len h.2)
 | [],_ :: _,h=>h.elim
 |_ :: _, [],h=>h.elim
theorem DEqs.get {K:Frag} {H:Hp} {n:Nat}:∀{xs ys:List V},DEqs K H n xs ys→∀j (h1:j < xs.length) (h2:j < ys.length),DEq K H n xs[j] ys[j] true
 | [], [],_,j,h1,_=>absurd h1 (Nat.not_lt_zero j)
 |_ :: _,_ :: _,h,0,_,_=>h.1
 |_ :: _,_ :: _,h,j+1,h1,h2=>DEqs.get h.2 j (Nat.lt_of_succ_lt_succ h1) (Nat.lt_of_succ_lt_succ h2)
 | [],_ :: _,h,_,_,_=>h.elim
 |_ :: _, [],h,_,_,_=>h.elim
theorem deq_list {K:Frag} {H:Hp} {n:Nat} {a b:Addr} {xs ys:List V} (ha:SqL K H a xs) (hb:SqL K H b ys) (ne:a≠b) (h:DEqs K H n xs ys):DEq K H (n+1) (.ref a) (.ref b) true:=by
 have z:=DEq.ls (n:=n) (e:=fun _=>true) ha hb ne h.len h.get
 have e:(List.range xs.length).all (fun _=>true)=true:=by simp
 rw [e] at z
 exact z
def SameBut (L:Addr) (H H':Hp):Prop:=∀b o,b≠L→H b=some o→H' b=some o
theorem SameBut.at {H H':Hp} {L:Addr} {o:HO} (e:SameBut L H H'):SameBut L H (upd H' L o):=fun b u hb q=>by
 rw [qa9 hb];exact e b u hb q
theorem SameBut.of {H H':Hp} {L:Addr} (s:qaq H H'):SameBut L H H':=fun b u _ q=>s b u q
section
variable {K : Frag} {H : Hp} {Q : VK} {a C c : Addr} {d : Option Addr} {b : Bool}
end
def NoFrz (H:Hp) (a:Addr):Prop:=∀o u,H a≠some (.frz o u)
section
variable {X : Cx} {pins : List (Addr × Obj)} {σ : L2.St} {H H' : Hp} {s : Shared} {a : Addr} {kvs : List (Key × V)} {o : Obj}
theorem Inv.freeze (I:Inv X pins σ H s) (e:H a=some (.dK kvs)) (ho:s.heap.get? a=some o):Inv X pins σ (upd H a (.frz o (.dK kvs))) s:=by
 have ok:=I.hok a _ e
 have z:=I.write (x:=a) (e:=a) (o:=.frz o (.dK kvs)) (h':=s.heap) (t':=s.toks) (by rw [e];exact True.intro) (.inl rfl) (fun _ _ _ q=>q) ⟨o,ho⟩ ⟨ho,ok⟩
 exact z
theorem Inv.thaw (I:Inv X pins σ H s) (e:H a=some (.frz o (.dK kvs))) (n0:NoFrz X.H₀ a):Inv X pins σ (upd H a (.dK kvs)) s:=by
 have ne:∀b,H b=none→b≠a:=fun b q z=>by subst z;rw [e] at q;cases q
 have nk:∀b u,H b=some u→(∀o' u',u≠ .frz o' u')→b≠a:=fun b u q z w=>by subst w;rw [e] at q;cases q;exact z _ _ rfl
 refine⟨I.ok,I.os,I.bare,⟨I.base.keep,I.base.slot,fun b ob q n hx=>?_,I.base.there,fun b xs q=>?_,fun b ob u q=>?_,fun b ps q=>?_⟩,I.loc,I.cell,?_,fun x c q=>?_,fun p hp=>?_,fun b u q=>?_,I.len⟩
 ·have z:=I.base.free b ob q n hx
  rw [qa9 (ne b z)];exact z
 ·have z:=I.base.tups b xs q
  rw [qa9 (nk b _ z (by intro _ _ h;cases h))];exact z
 ·have z:=I.base.frzs b ob u q
  rw [qa9 (fun w=>by subst w;exact n0 _ _ q)];exact z
 ·obtain⟨m,z⟩:=I.base.tbls b ps q
  exact⟨m,by rw [qa9 (nk b _ z (by intro _ _ h;cases h))];exact z⟩
 ·have z:=I.free
  rw [qa9 (ne _ z)];exact z
 ·have z:=I.freeC x c q
  rw [qa9 (ne _ z)];exact z
 ·obtain⟨p1,p2,p3⟩:=I.pin p hp
  exact⟨p1,by rw [qa9 (ne _ p2)];exact p2,p3⟩
 ·by_cases hb:b=a
  ·subst hb
   rw [qa1] at q
   cases q
   exact(I.hok b _ e).2
  ·rw [qa9 hb] at q
   exact(I.hok b u q).stay (fun _ _ _ r=>r) (fun c r=>by rw [qa9 (nk c _ r (by intro _ _ h;cases h))];exact r) fun c xs r=>by rw [qa9 (nk c _ r (by intro _ _ h;cases h))];exact r
def Thaw (H0 H H':Hp):Prop:=H'=H∨∃a o kvs,H a=some (.frz o (.dK kvs))∧NoFrz H0 a∧H'=upd H a (.dK kvs)
theorem Inv.thawed (I:Inv X pins σ H s) (t:Thaw X.H₀ H H'):Inv X pins σ H' s:=by
 rcases t with rfl|⟨a,o,kvs,e,n,rfl⟩
 ·exact I
 ·exact Inv.thaw I e n
end
section
variable {X : Cx} {st : Stmt} {e : Expr} {t : TS} {te : TE}
def thE (H0:Hp) (D:Ends):Ends:={nx:=fun σ H=>∃H',Thaw H0 H H'∧D.nx σ H',rt:=fun v H=>∃H',Thaw H0 H H'∧D.rt v H',bk:=fun σ H=>∃H',Thaw H0 H H'∧D.bk σ H',ct:=fun σ H=>∃H',Thaw H0 H H'∧D.ct σ H'}
def tThA (H0:Hp) (t:TS):TS:=fun D σ H=>t (thE H0 D) σ H
theorem ps_thA (h:PS X st t):PS X st (tThA X.H₀ t):=fun pins s σ H D I q=>thn (h pins s σ H _ I q) fun f s' hs=>by
 cases f with
 |next=>obtain⟨σ',H1,J,H2,th,q⟩:=hs;exact⟨σ',H2,Inv.thawed J th,q⟩
 |brk=>obtain⟨σ',H1,J,H2,th,q⟩:=hs;exact⟨σ',H2,Inv.thawed J th,q⟩
 |cont=>obtain⟨σ',H1,J,H2,th,q⟩:=hs;exact⟨σ',H2,Inv.thawed J th,q⟩
 |ret u=>obtain⟨v,σ',H1,J,r,H2,th,q⟩:=hs;exact⟨v,σ',H2,Inv.thawed J th,r,q⟩
def tThV (H0:Hp) (t:TE):TE:=fun σ H Q=>t σ H fun v H1=>∃H',Thaw H0 H1 H'∧Q v H'
theorem pe_thV (h:PE X e te):PE X e (tThV X.H₀ te):=fun pins s σ H Q I q=>thn (h pins s σ H _ I q) fun u s' ⟨v,H1,J,r,H2,th,q⟩=>⟨v,H2,Inv.thawed J th,r,q⟩
end
theorem kvget {κ:Type} {kvs:List (κ × V)} {vs:List (κ × Value)} (r:KV kvs vs):∀{i:Nat} {k:κ} {v:V},kvs[i]?=some (k,v)→∃u,vs[i]?=some (k,u)∧qba v u:=by
 induction r with
 |nil=>intro i k v e;simp at e
 |cons h t ih=>
  intro i k v e
  cases i with
  |zero=>
   simp only [List.getElem?_cons_zero,Option.some.injEq] at e ⊢
   subst e
   obtain⟨h1,h2⟩:=h
   exact⟨_,Prod.ext h1.symm rfl,h2⟩
  |succ i=>
   simp only [List.getElem?_cons_succ] at e ⊢
   exact ih e
theorem kV_rel {k:Key} {u:Value} (h:keyIs k u=true):qba (kV k) u:=by
 rcases qb3 h with ⟨i,t,rfl,rfl⟩ |⟨x,t,rfl,rfl⟩
 ·exact⟨t,rfl⟩
 ·exact⟨t,rfl⟩
def ItD (d:Addr) (o:Obj) (kvs:List (Key × V)):It:=
 ⟨fun i H=>H d=some (.frz o (.dK kvs))∧i < kvs.length,fun i H x H'=>H'=H∧∃k v,kvs[i]?=some (k,v)∧x=kV k,fun i H=>H d=some (.frz o (.dK kvs))∧kvs.length≤i⟩
theorem frz_at {P:Program} {w:World} {H:Hp} {h:Heap} {d:Addr} {o:Obj} {kvs:List (Key × V)} {es:Array DictEntry} {ep:Nat} (ok:HOk P w H h) (e:H d=some (.frz o (.dK kvs))) (hd:o.data=.dict es ep):
  ∃vs,KV kvs vs∧h.DictAt (qb6 P w) d vs ep:=by
 obtain⟨ho,_,_,vs,rel,o',es',ep',ho',ex,hd',ks,ps,nd⟩:=ok d _ e
 rw [ho] at ho'
 cases ho'
 rw [hd] at hd'
 cases hd'
 exact⟨vs,rel,o,es,ho,ex,hd,ks,ps,nd⟩
theorem turn_dict {P:Program} {w:World} {K:Frag} {tg:Expr} {o:Obj} {kvs:List (Key × V)} {es:Array DictEntry} {ep:Nat} (d it:Addr) (hd:o.data=.dict es ep):Turn P w K tg (ItD d o kvs) [it] it (fun i h=>h.IsKeyIter it d i kvs.length ep) where
 mem:=by simp
 obj:=fun i h st b hb=>by
  have e:b=it:=by simpa using hb
  subst e
  obtain⟨ob,e,c,dd⟩:=st
  exact⟨ob,e,fun v z=>by rw [dd] at z;cases z⟩
 keep:=fun i h h' st k=>st.at fun ob e=>k it (by simp) ob e
 item:=by
  intro X hP hw hK hc i pins s σ H E I hf st hg
  subst hP hw hK
  obtain⟨hfz,hi⟩:=hg
  obtain⟨vs,rel,dat⟩:=frz_at I.hok hfz hd
  obtain⟨f0,f1,f2,f3,f4,f5⟩:=hf it (by simp)
  have hl:=rel.length
  obtain⟨u,hu,ru⟩:=kvget rel (i:=i) (k:=kvs[i].1) (v:=kvs[i].2) (by rw [zA hi])
  rw [hl] at st
  refine wpAny_pyNext_dict_item st dat hu fun key h' hkey st' hs'=>?_
  have I1:Inv X pins σ H {s with heap:=h'}:=I.turned (t':=s.toks) (fun b ob hb e=>hs'.extBut b ob hb e) f0 f1 f3 f4 f5
  obtain⟨ob,e,c,dd⟩:=id st'
  exact⟨key,rfl,go_of (s:={s with heap:=h'}) e c dd (by decide) ⟨kV kvs[i].1,H,I1,kV_rel hkey,⟨rfl,kvs[i].1,kvs[i].2,zA hi,rfl⟩,by rw [hl];exact st',fun b hb=>(hf b hb).1⟩⟩
 done:=by
  intro X hP hw hK hc i pins s σ H E I hf st hg
  subst hP hw hK
  obtain⟨hfz,hi⟩:=hg
  obtain⟨vs,rel,dat⟩:=frz_at I.hok hfz hd
  obtain⟨f0,f1,f2,f3,f4,f5⟩:=hf it (by simp)
  have hl:=rel.length
  rw [hl] at st hi
  exact wpAny_pyNext_dict_end (I.ok.hd hc) st dat (by simpa using hi) fun h' eb=>⟨rfl,I.turned (t':=s.toks) (fun b ob hb e=>eb b ob hb e) f0 f1 f3 f4 f5⟩
 self:=fun _ _ _ _ _ st h=>wpAny_pyIter_keyiter st h
def rItD (x:V) (H:Hp) (R:It→Hp→Prop):Prop:=∃a kvs,x=.ref a∧((H a=some (.dK kvs)∧∀o,R (ItD a o kvs) (upd H a (.frz o (.dK kvs))))∨∃o,H a=some (.frz o (.dK kvs))∧R (ItD a o kvs) H)
def iDict (td:TE):TI:=fun σ H R=>td σ H fun x H1=>rItD x H1 R
theorem dat_of {P:Program} {w:World} {H:Hp} {h:Heap} {d:Addr} {kvs:List (Key × V)} (ok:qbi P w H h d (.dK kvs)):∃o es ep vs,h.get? d=some o∧o.data=.dict es ep∧KV kvs vs∧h.DictAt (qb6 P w) d vs ep∧(d==sysModules)=false:=by
 obtain⟨_,hs,vs,rel,o,es,ep,ho,ex,hd,ks,ps,nd⟩:=ok
 exact⟨o,es,ep,vs,ho,hd,rel,⟨o,es,ho,ex,hd,ks,ps,nd⟩,hs⟩
theorem qe4 {X:Cx} {tg l:Expr} {tl:TE} (hl:PE X l tl):PI X tg l (iDict tl):=by
 intro pins s σ H R I h
 refine thn (hl pins s σ H _ I h) fun v s1 ⟨x,H1,I1,r1,q1⟩=>?_
 obtain⟨a,kvs,e,q⟩:=q1
 subst e
 cases r1
 have ok:qbi X.prog X.w H1 s1.heap a (.dK kvs):=by
  rcases q with ⟨e,_⟩ |⟨o,e,_⟩
  ·exact I1.hok a _ e
  ·exact(I1.hok a _ e).2
 obtain⟨o,es,ep,vs,ho,hd,rel,dat,hs⟩:=dat_of ok
 have hlen:=rel.length
 refine wpAny_pyIter_dict hs dat ?_
 have it0:(s1.heap.push {cls:=.type "dict_keyiterator",data:=.fields #[.ref a,.int 0 0,.int vs.length 0,.int ep 0]}).IsKeyIter s1.heap.objs.size a 0 kvs.length ep:=by
  rw [hlen];exact⟨_,Heap.get?_push_size _ rfl,rfl,rfl⟩
 rcases q with ⟨e,q⟩ |⟨o',e,q⟩
 ·have I2:=Inv.freeze I1 e ho
  refine⟨s1.heap.objs.size, [s1.heap.objs.size],_,_,_,rfl,I2.kept (t':=s1.toks) fun b ob e=>Heap.get?_push_of_some _ e,turn_dict (kvs:=kvs) a _ hd,it0,fun b hb=>?_,q o⟩
  have e:b=s1.heap.objs.size:=by simpa using hb
  subst e
  exact I2.fpOk (Nat.le_refl _) (I2.hok.fresh (Nat.le_refl _))
 ·have eo:o'=o:=by
   have z:=(I1.hok a _ e).1
   rw [ho] at z
   cases z
   rfl
  subst eo
  refine⟨s1.heap.objs.size, [s1.heap.objs.size],_,_,_,rfl,I1.kept (t':=s1.toks) fun b ob e=>Heap.get?_push_of_some _ e,turn_dict (kvs:=kvs) a _ hd,it0,fun b hb=>?_,q⟩
  have e:b=s1.heap.objs.size:=by simpa using hb
  subst e
  exact I1.fpOk (Nat.le_refl _) (I1.hok.fresh (Nat.le_refl _))
section
variable {σ : L2.St} {H H' : Hp} {D : Ends} {t : TS} {te tl : TE} {Q : VK} {g : TG} {tb : TS} {a : Addr} {o : Obj} {kvs : List (Key × V)} {H0 : Hp} {v : V}
theorem r_thA (h:t (thE H0 D) σ H):tThA H0 t D σ H:=h
theorem r_thNx (th:Thaw H0 H H') (h:D.nx σ H'):(thE H0 D).nx σ H:=⟨H',th,h⟩
theorem r_thV (h:te σ H fun v H1=>∃H',Thaw H0 H1 H'∧Q v H'):tThV H0 te σ H Q:=h
theorem thaw1 (e:H a=some (.frz o (.dK kvs))) (n:NoFrz H0 a):Thaw H0 H (upd H a (.dK kvs)):=.inr ⟨a,o,kvs,e,n,rfl⟩
theorem r_iD {R:It→Hp→Prop} (h:tl σ H fun x H1=>rItD x H1 R):iDict tl σ H R:=h
theorem r_itD {R:It→Hp→Prop} (e:H a=some (.dK kvs)) (h:∀o,R (ItD a o kvs) (upd H a (.frz o (.dK kvs)))):rItD (.ref a) H R:=⟨a,kvs,rfl,.inl ⟨e,h⟩⟩
theorem f_dict (Pv:Nat→L2.St→Hp→Prop) (h0:Pv 0 σ H) (hl:∀i σ H,i≤kvs.length→Pv i σ H→H a=some (.frz o (.dK kvs)))
  (hs:∀i k v σ H,kvs[i]?=some (k,v)→Pv i σ H→g (kV k) σ H fun σ2 H2=>tb {nx:=Pv (i+1),rt:=D.rt,bk:=D.nx,ct:=Pv (i+1)} σ2 H2) (hd:∀σ H,Pv kvs.length σ H→D.nx σ H):FOR (ItD a o kvs) g tb D σ H:=by
 refine⟨fun i m σ H=>m=kvs.length - i∧i≤kvs.length∧Pv i σ H,⟨kvs.length,rfl,Nat.zero_le _,h0⟩,?_⟩
 rintro i m σ H ⟨rfl,hi,p⟩
 have q:=hl i σ H hi p
 by_cases hlt:i < kvs.length
 ·refine .inr ⟨⟨q,hlt⟩,Pv (i+1),fun σ' H' p'=>⟨kvs.length - (i+1),by omega,rfl,hlt,p'⟩,fun x H' y=>?_⟩
  obtain⟨e,k,v,hk,rfl⟩:=y
  subst e
  exact hs i k v σ _ hk p
 ·have e:i=kvs.length:=Nat.le_antisymm hi (Nat.le_of_not_lt hlt)
  subst e
  exact .inl ⟨⟨q,Nat.le_refl _⟩,hd σ H p⟩
end
theorem objOk_get {P:Program} {w:World} {H:Hp} {h:Heap} {a:Addr} {o:HO} (x:qbi P w H h a o):∃u,h.get? a=some u:=by
 induction o with
 |lst xs=>obtain⟨_,_,_,_,e⟩:=x;exact⟨_,e⟩
 |tup xs=>obtain⟨_,_,_,ob,e,_⟩:=x;exact⟨_,e⟩
 |dK kvs=>obtain⟨_,_,_,_,o,_,_,e,_⟩:=x;exact⟨_,e⟩
 |dT kvs=>obtain⟨_,_,_,_,o,_,_,e,_⟩:=x;exact⟨_,e⟩
 |set S n=>obtain⟨o,_,_,_,e,_⟩:=x;exact⟨_,e⟩
 |ins C dx fs=>obtain⟨_,_,_,e,_⟩:=x;exact⟨_,e⟩
 |own y=>exact x
 |xd fs=>obtain⟨_,⟨_,_,_,e,_⟩,_⟩:=x;exact⟨_,e⟩
 |rng lo hi=>obtain⟨_,_,_,e⟩:=x;exact⟨_,e⟩
 |frz ob u ih=>exact⟨_,x.1⟩
 |tbl ps=>exact⟨_,x⟩
 |met f y=>exact⟨_,x⟩
 |ext φ=>exact x.2.1
theorem Inv.laidN {X:Cx} {pins:List (Addr × Obj)} {σ:L2.St} {H:Hp} {s:Shared} {h':Heap} {a:Addr} {o:HO} {t':Nat} (I:Inv X pins σ H s) (k:∀b u,s.heap.get? b=some u→h'.get? b=some u) (hg:s.heap.get? a=none) (new:qbi X.prog X.w (upd H a o) h' a o):
  H a=none∧Inv X pins σ (upd H a o) {s with heap:=h',toks:=t'}:=by
 have hn:H a=none:=by
  cases q:H a with
  |none=>rfl
  |some u=>obtain⟨v,e⟩:=objOk_get (I.hok a u q);rw [hg] at e;cases e
 refine⟨hn,I.un ⟨fun b u q _ _ _=>k b u q,fun b u q _ _ _=>⟨u.slots,k b u q⟩,fun b u q n _=>by rw [qa9 (fun z=>by subst z;rw [hg] at q;cases q)];exact n,fun b u q _=>⟨u,k b u q⟩,fun b xs q=>by rw [qa9 (qa7 q hn)];exact q,
  fun b u xs q=>by rw [qa9 (qa7 q hn)];exact q,fun b ps q=>⟨#[],by rw [qa9 (qa7 q hn),q];simp⟩⟩ fun b u e=>?_⟩
 by_cases hb:b=a
 ·subst hb;rw [qa1] at e;cases e;exact new
 ·rw [qa9 hb] at e
  exact(I.hok b u e).stay (fun c v _ q=>k c v q) (fun c q=>by rw [qa9 (qa7 q hn)];exact q) fun c xs q=>by rw [qa9 (qa7 q hn)];exact q
section
variable {X : Cx}
def rDictCp:List V→Hp→VK→Prop:=fun xs H Q=>∃p kvs,xs=[.ref p]∧Rd H p (.dK kvs)∧∀q,H q=none→Q (.ref q) (upd H q (.dK kvs))
theorem qea:qcd X (.type "dict") rDictCp:=by
 intro pins s σ H xs us Q I hv h
 obtain⟨p,kvs,rfl,e,q⟩:=h
 obtain⟨u,rfl,ru⟩:=hv.one
 cases ru
 exact d_copyOf I e fun l s' hl I'=>⟨.ref l,_,I',rfl,q l hl⟩
theorem qfu:∀{ss:List Str} {us:List Value},qb9 (ss.map V.str) us→StrsAre us ss
 | [],_,r=>by cases r;exact .nil
 |x :: ss,_,r=>by
  cases r with
  |cons h t=>obtain⟨k,rfl⟩:=h;exact .cons x k (qfu t)
theorem qeh:∀{us:List Value} {ss:List Str},StrsAre us ss→qb9 (ss.map V.str) us
 |_,_,.nil=> .nil
 |_,_,.cons x t h=> .cons ⟨t,rfl⟩ (qeh h)
def rSortL (K:Frag):List V→Hp→VK→Prop:=fun xs H Q=>∃p ss,xs=[.ref p]∧SqL K H p (ss.map V.str)∧ss.length < 64∧∀l ss',H l=none→ss'.Perm ss→sortedS ss'=true→Q (.ref l) (upd H l (.lst (ss'.map V.str)))
theorem qe9:qcd X (.builtin "sorted") (rSortL X.K):=by
 intro pins s σ H xs us Q I hv h
 obtain⟨p,ss,rfl,hS,hz,q⟩:=h
 obtain⟨u,rfl,ru⟩:=hv.one
 cases ru
 obtain⟨its,rv,pl,hz'⟩:=I.list hS
 have hlen:=rv.length
 rw [zB] at hlen
 refine sorted_strs (vs:=its) (PlainL.isList pl) (qfu rv) (by omega) fun out ss' a1 a2 a3=>?_
 obtain⟨e,he⟩:=sortedAll_at s.heap its out
 have hl2:=a2.length_eq
 have I2:=I.laid (a:=s.heap.objs.size+1) (o:=.lst (ss'.map V.str)) (t':=s.toks) (fun b ob hb=>sortedAll_old hb) (Nat.le_succ _) ⟨by rw [zB,sizeLine_eq];omega,out.toList,e,qeh a1,by simpa [seqObj] using he⟩
 exact⟨.ref _,_,I2,rfl,q _ ss' (I.hok.fresh (Nat.le_succ _)) a2 a3⟩
def rSortD:List V→Hp→VK→Prop:=fun xs H Q=>∃p kvs ss,xs=[.ref p]∧Rd H p (.dK kvs)∧kvs.map (·.1)=ss.map Sum.inr∧ss.length < 64∧∀l ss',H l=none→ss'.Perm ss→sortedS ss'=true→Q (.ref l) (upd H l (.lst (ss'.map V.str)))
theorem strs_keys {ss:List Str} {us:List Value} (hl:us.length=ss.length) (h:∀(j:Nat) (u:Value),us[j]?=some u→∃x,ss[j]?=some x∧keyIs (.inr x) u=true):StrsAre us ss:=by
 induction us generalizing ss with
 |nil=>cases ss with
  |nil=>exact .nil
  |cons _ _=>simp at hl
 |cons u us ih=>cases ss with
  |nil=>simp at hl
  |cons x ss=>
   obtain⟨y,hy,hk⟩:=h 0 u rfl
   simp only [List.getElem?_cons_zero,Option.some.injEq] at hy
   subst hy
   rcases qb3 hk with ⟨i,t,e,_⟩ |⟨z,t,e,rfl⟩
   ·cases e
   ·cases e
    exact .cons x t (ih (by simpa using hl) fun j v hv=>by have:=h (j+1) v (by simpa using hv);simpa using this)
theorem qfk (hc:X.calm=true):qcd X (.builtin "sorted") rSortD:=by
 intro pins s σ H xs us Q I hv h
 obtain⟨p,kvs,ss,rfl,hR,hk,hz,q⟩:=h
 obtain⟨u,rfl,ru⟩:=hv.one
 cases ru
 obtain⟨o,es,ep,vs,ho,hd,rel,dat,hs⟩:=dat_of (hR.ok I.hok)
 have hlen:=rel.length
 have hks:=rel.keys
 have hl2:kvs.length=ss.length:=by have:=congrArg List.length hk;simpa using this
 refine Calls.call_function_entry kind_sorted plain_sorted entry_sorted (args_sorted1 _) ?_
 unfold Builtin.«sorted»
 refine wpAny_bind (m:=checkCount "sorted" 1 1 _) (wpAny_pure ?_)
 refine wpAny_bind (PySem.W.kdu_collect (A:=X.A.in1) (PySem.W.kdl_dict (knd:=qb6 X.prog X.w) (kvs:=vs) (ep:=ep) hs) (I.ok.hd hc) dat (by rw [sizeLine_eq];omega) fun h' tk acc hkeep hacc=>?_)
 have hal:acc.toList.length=vs.length:=by rw [Array.length_toList];exact hacc.1
 refine wpAny_bind (wpAny_newList ?_ (by rw [hal,sizeLine_eq];omega))
 have hS:StrsAre acc.toList ss:=by
  refine strs_keys (by omega) fun j v hv=>?_
  obtain⟨k,x,hx,hkv⟩:=hacc.2 j v (by rw [←Array.getElem?_toList];exact hv)
  have e1:(vs.map (·.1))[j]?=some k:=by rw [zC,hx];rfl
  rw [←hks,hk,zC] at e1
  obtain⟨z,hz1,rfl⟩:=Option.map_eq_some_iff.mp e1
  exact⟨z,hz1,hkv⟩
 have hoL:(h'.push {cls:=.type "list",data:=.seq acc.toList.toArray}).get? h'.objs.size=some (seqObj "list" acc.toList.toArray 0):=Heap.get?_push_size _ rfl
 refine wpAny_bind (wpAny_holding (wpAny_call_entry slot_list_sort ⟨_,hoL,rfl⟩ entry_list_sort (list_sort_treeK strKind_oneLt hoL hS.keysOf (fun v₁ v₂ rest e=>keyKind_strs (by rw [←e];exact hS)) (by omega) fun st' a1 a2=>⟨_,rfl,?_⟩) (args_list_sort _)))
 obtain⟨ss',b1,b2,b3⟩:=sorted_out_str hS a1 a2
 obtain⟨e,he⟩:=sortedHeap_at (out:=(arrOf st').map (·.2)) hoL
 have hl3:=b2.length_eq
 have hg:s.heap.get? h'.objs.size=none:=by
  cases q:s.heap.get? h'.objs.size with
  |none=>rfl
  |some ob=>exact absurd (Heap.lt_size (hkeep _ _ q)) (Nat.lt_irrefl _)
 obtain⟨hn,I2⟩:=Inv.laidN I (h':=sortedHeap (h'.push {cls:=.type "list",data:=.seq acc.toList.toArray}) h'.objs.size acc.toList ((arrOf st').map (·.2))) (a:=h'.objs.size) (o:=.lst (ss'.map V.str)) (t':=tk) (fun b ob hb=>by
  have hb':=hkeep b ob hb
  rw [sortedHeap_old (Nat.ne_of_lt (Heap.lt_size hb')) (by rw [size_push'];exact Nat.lt_succ_of_lt (Heap.lt_size hb'))]
  exact Heap.get?_push_of_some _ hb') hg ⟨by rw [zB,sizeLine_eq];omega,((arrOf st').map (·.2)).toList,e,qeh b1,by rw [Array.toArray_toList];exact he⟩
 exact wpAny_pure ⟨_,rfl,.ref _,_,I2,rfl,q _ ss' hn b2 b3⟩
end
section
variable {K : Frag} {H : Hp} {Q : VK} {p : Addr} {kvs : List (Key × V)} {ss : List Str}
theorem r_dictCp (e:Rd H p (.dK kvs)) (h:∀q,H q=none→Q (.ref q) (upd H q (.dK kvs))):rDictCp [.ref p] H Q:=⟨p,kvs,rfl,e,h⟩
theorem r_sortL (e:SqL K H p (ss.map V.str)) (hz:ss.length < 64) (h:∀l ss',H l=none→ss'.Perm ss→sortedS ss'=true→Q (.ref l) (upd H l (.lst (ss'.map V.str)))):rSortL K [.ref p] H Q:=⟨p,ss,rfl,e,hz,h⟩
theorem r_sortD (e:Rd H p (.dK kvs)) (hk:kvs.map (·.1)=ss.map Sum.inr) (hz:ss.length < 64) (h:∀l ss',H l=none→ss'.Perm ss→sortedS ss'=true→Q (.ref l) (upd H l (.lst (ss'.map V.str)))):rSortD [.ref p] H Q:=⟨p,kvs,ss,rfl,e,hk,hz,h⟩
end
structure AD (kvs:List (Key × V)) (f:Str→Option Int):Prop where
 nd:(kvs.map (·.1)).Nodup
 sh:∀p∈kvs,∃z i,p=(Sum.inr z,V.int i)
 get:∀z,qcp kvs (Sum.inr z)=(f z).map V.int
def noF:Str→Option Int:=fun _=>none
def putF' (f:Str→Option Int) (z:Str) (i:Int):Str→Option Int:=fun y=>if y=z then some i else f y
theorem AD.nil:AD [] noF:=⟨yH,fun p hp=>absurd hp (by simp),fun z=>rfl⟩
theorem AD.cast {kvs:List (Key × V)} {f g:Str→Option Int} (h:AD kvs f) (e:∀z,f z=g z):AD kvs g:=⟨h.nd,h.sh,fun z=>by rw [h.get,e]⟩
theorem putK_keys {kvs:List (Key × V)} {k:Key} {v:V} (h:qcp kvs k≠none):(qdm kvs k v).map (·.1)=kvs.map (·.1):=by
 unfold qdm
 have e:(kvs.any fun kv=>decide (kv.1=k))=true:=by rw [qch];cases q:qcp kvs k with
  |none=>exact absurd q h
  |some _=>rfl
 rw [if_pos e,yO]
 apply List.map_congr_left
 intro p _
 show (if p.1=k then (p.1,v) else p).1=p.1
 split <;> rfl
theorem putK_mem {kvs:List (Key × V)} {k:Key} {v:V} {p:Key × V} (h:p∈qdm kvs k v):p=(k,v)∨p∈kvs:=by
 unfold qdm at h
 split at h
 ·obtain⟨q,hq,e⟩:=zL.mp h
  split at e
  ·rename_i ek;subst ek;exact .inl e.symm
  ·subst e;exact .inr hq
 ·rcases zN.mp h with h|h
  ·exact .inr h
  ·exact .inl (by simpa using h)
theorem AD.put {kvs:List (Key × V)} {f:Str→Option Int} (h:AD kvs f) (z:Str) (i:Int):AD (qdm kvs (Sum.inr z) (.int i)) (putF' f z i):=by
 refine⟨?_,fun p hp=>?_,fun y=>?_⟩
 ·cases q:qcp kvs (Sum.inr z) with
  |none=>exact nd_putK _ h.nd q
  |some v=>rw [putK_keys (by rw [q];simp)];exact h.nd
 ·rcases putK_mem hp with rfl|hp
  ·exact⟨z,i,rfl⟩
  ·exact h.sh p hp
 ·rw [valV_put]
  unfold putF'
  by_cases e:y=z
  ·subst e;rw [if_pos rfl,if_pos rfl];rfl
  ·rw [if_neg (fun q=>e (Sum.inr.inj q)),if_neg e];exact h.get y
theorem valV_of_mem {kvs:List (Key × V)} (nd:(kvs.map (·.1)).Nodup) {k:Key} {v:V} (h:(k,v)∈kvs):qcp kvs k=some v:=by
 induction kvs with
 |nil=>simp at h
 |cons p r ih=>
  rw [zS,zX] at nd
  rcases zR.mp h with rfl|h
  ·exact qbn rfl
  ·have ne:¬p.1=k:=fun e=>nd.1 (e ▸ zL.mpr ⟨(k,v),h,rfl⟩)
   rw [qbo ne]
   exact ih nd.2 h
theorem AD.mem {kvs:List (Key × V)} {f:Str→Option Int} (h:AD kvs f) {k:Key} {v:V} (hm:(k,v)∈kvs):∃z n,k=Sum.inr z∧v=.int n∧f z=some n:=by
 obtain⟨z,n,e⟩:=h.sh _ hm
 cases e
 have q:=valV_of_mem h.nd hm
 rw [h.get] at q
 cases hf:f z with
 |none=>rw [hf] at q;cases q
 |some m=>rw [hf] at q;cases q;exact⟨z,_,rfl,rfl,hf⟩
def qbu (kvs:List (Key × V)):List Str:=kvs.filterMap fun p=>match p.1 with| .inr z=>some z| .inl _=>none
theorem AD.keys {kvs:List (Key × V)} {f:Str→Option Int} (h:AD kvs f):kvs.map (·.1)=(qbu kvs).map Sum.inr:=by
 have sh:=h.sh
 clear h
 induction kvs with
 |nil=>rfl
 |cons p r ih=>
  obtain⟨z,i,rfl⟩:=sh p (zI ..)
  show Sum.inr z :: r.map (·.1)=(z :: qbu r).map Sum.inr
  rw [zS,ih fun q hq=>sh q (zF _ hq)]
theorem AD.klen {kvs:List (Key × V)} {f:Str→Option Int} (h:AD kvs f):(qbu kvs).length=kvs.length:=by
 have:=congrArg List.length h.keys
 simpa using this.symm
theorem AD.knd {kvs:List (Key × V)} {f:Str→Option Int} (h:AD kvs f):(qbu kvs).Nodup:=by
 have nd:=h.nd
 rw [h.keys] at nd
 exact List.Pairwise.imp (fun ne e=>ne (congrArg Sum.inr e)) (List.pairwise_map.mp nd)
theorem AD.kin {kvs:List (Key × V)} {f:Str→Option Int} (h:AD kvs f) (z:Str):z∈qbu kvs↔f z≠none:=by
 constructor
 ·intro hz
  have hm:(Sum.inr z:Key)∈kvs.map (·.1):=by rw [h.keys];exact zL.mpr ⟨z,hz,rfl⟩
  obtain⟨⟨k,v⟩,hp,e⟩:=zL.mp hm
  dsimp only at e
  subst e
  obtain⟨z',n,e1,_,hf⟩:=h.mem hp
  cases e1
  rw [hf];simp
 ·intro hf
  cases q:f z with
  |none=>exact absurd q hf
  |some n=>
   have hv:=h.get z
   rw [q] at hv
   have hm:=valV_in hv
   rw [h.keys] at hm
   obtain⟨y,hy,e⟩:=zL.mp hm
   cases e
   exact hy
theorem nd_le:∀{l m:List Str},l.Nodup→(∀a∈l,a∈m)→l.length≤m.length
 | [],_,_,_=>Nat.zero_le _
 |a :: l,m,nd,h=>by
  have ha:=h a (zI ..)
  rw [zX] at nd
  have q:=nd_le (l:=l) (m:=m.erase a) nd.2 fun b hb=>(List.mem_erase_of_ne (fun(e:b=a)=>nd.1 (by rw [←e];exact hb))).mpr (h b (zF _ hb))
  rw [List.length_erase_of_mem ha] at q
  have:0 < m.length:=List.length_pos_of_mem ha
  simp only [zM]
  omega
theorem AD.le {kvs:List (Key × V)} {f:Str→Option Int} (h:AD kvs f) {ws:List Str} (hs:∀z,f z≠none→z∈ws):kvs.length≤ws.length:=by
 rw [←h.klen]
 exact nd_le h.knd fun z hz=>hs z ((h.kin z).mp hz)
theorem AD.at {kvs:List (Key × V)} {f:Str→Option Int} (h:AD kvs f) {i:Nat} {k:Key} {v:V} (e:kvs[i]?=some (k,v)):∃z n,k=Sum.inr z∧v=.int n∧f z=some n∧(qbu kvs)[i]?=some z:=by
 obtain⟨z,n,rfl,rfl,hf⟩:=h.mem (zD e)
 refine⟨z,n,rfl,rfl,hf,?_⟩
 have q:(kvs.map (·.1))[i]?=some (Sum.inr z):=by rw [zC,e];rfl
 rw [h.keys,zC] at q
 obtain⟨y,hy,e⟩:=Option.map_eq_some_iff.mp q
 cases e
 exact hy
def leS (a b:Str):Prop:=ltCps b.cps.toList a.cps.toList=false
theorem qdf {a b:Str}:leS a b↔a.cps.toList≤b.cps.toList:=by
 unfold leS
 rw [ltCps_eq,decide_eq_false_iff_not]
 exact List.not_lt
theorem leS_refl (a:Str):leS a a:=qdf.mpr (List.le_refl _)
theorem leS_trans {a b c:Str} (h:leS a b) (h':leS b c):leS a c:=qdf.mpr (List.le_trans (qdf.mp h) (qdf.mp h'))
theorem leS_anti {a b:Str} (h:leS a b) (h':leS b a):a=b:=by
 have e:=List.le_antisymm (qdf.mp h) (qdf.mp h')
 obtain⟨⟨x⟩⟩:=a
 obtain⟨⟨y⟩⟩:=b
 have e':x=y:=e
 subst e'
 rfl
theorem rising_pw:∀{p:Str} {l:List Str},risingS p l=true→(p :: l).Pairwise leS
 |p, [],_=>List.pairwise_singleton _ _
 |p,x :: r,h=>by
  have h':(!ltCps x.cps.toList p.cps.toList && risingS x r)=true:=h
  rw [Bool.and_eq_true,Bool.not_eq_true'] at h'
  have q:=rising_pw h'.2
  refine List.pairwise_cons.mpr ⟨fun y hy=>?_,q⟩
  rcases zR.mp hy with rfl|hy
  ·exact h'.1
  ·exact leS_trans h'.1 (List.rel_of_pairwise_cons q hy)
theorem qej:∀{l:List Str},sortedS l=true→l.Pairwise leS
 | [],_=>List.Pairwise.nil
 |x :: r,h=>rising_pw h
def gN (f:Str→Option Int) (z:Str):Int:=(f z).getD 0
def qfb (f g:Str→Option Int):Str→Option Int:=fun y=>match g y with|none=>f y|some b=>some (gN f y+b)
def qct (f:Str→Option Int):Str→Option Int:=fun y=>match f y with|none=>none|some a=>if 0 < a then some a else none
theorem gN_get {kvs:List (Key × V)} {f:Str→Option Int} (h:AD kvs f) (z:Str):(qcp kvs (Sum.inr z)).getD (.int 0)=.int (gN f z):=by
 rw [h.get]
 unfold gN
 cases f z <;> rfl
theorem qbk {l:List Str} {i:Nat} {z:Str} (h:l[i]?=some z) (y:Str):y∈l.take (i+1)↔y∈l.take i∨y=z:=by
 rw [zQ,h,zN]
 simp
theorem qg8:bootBuiltins "reversed" =some (.type "reversed"):=by decide+kernel
section
variable {prog : Program} {w : World} {A : Around} {s : Shared} {E Q : Value → Shared → Prop} {r : Addr} {n : Int} {t u v : Tok}
end
section
variable {X : Cx}
end
section
variable {σ : L2.St} {H : Hp} {D : Ends} {Q : VK} {g : TG} {tb : TS} {ta : TA} {j : Int} {p : Addr} {n : Nat}
end
section
variable {K : Frag} {σ : L2.St} {H H' : Hp} {Q : VK} {D : Ends} {td ty tx tv : TE} {a b p : Addr} {kvs kb : List (Key × V)} {f : Str → Option Int} {z : Str} {n : Int} {v : V} {o : Obj}
def rDG (a:Addr) (y z:V) (H:Hp) (Q:VK):Prop:=∃o,DGet H a y o∧Q (o.getD z) H
def kDG2 (ty tx:TE) (σ:L2.St) (Q:VK) (x:V) (H:Hp):Prop:=∃a,x=.ref a∧IsD H a∧ty σ H fun y H2=>tx σ H2 fun z H3=>rDG a y z H3 Q
theorem r_dg2 (h:td σ H fun x H1=>kDG2 ty tx σ Q x H1):tDGet2 td ty tx σ H Q:=h
theorem r_dg2a (d:Rd H a (.dK kvs)) (h:ty σ H fun y H2=>tx σ H2 fun z H3=>rDG a y z H3 Q):kDG2 ty tx σ Q (.ref a) H:=⟨a,rfl,.inl ⟨kvs,d⟩,h⟩
theorem r_dg2b (d:Rd H a (.dK kvs)) (A:AD kvs f) (h:Q (.int (gN f z)) H):rDG a (.str z) (.int 0) H Q:=by
 refine⟨qcp kvs (Sum.inr z),.inl ⟨kvs,Sum.inr z,d,rfl,rfl⟩,?_⟩
 rw [gN_get A]
 exact h
def rDGk (x y:V) (H:Hp) (Q:VK):Prop:=∃a v,x=.ref a∧DGet H a y (some v)∧Q v H
theorem r_dg (h:td σ H fun x H1=>ty σ H1 fun y H2=>rDGk x y H2 Q):tDGet td ty σ H Q:=h
theorem r_dgk (d:Rd H a (.dK kvs)) (A:AD kvs f) (e:f z=some n) (h:Q (.int n) H):rDGk (.ref a) (.str z) H Q:=
 ⟨a,.int n,rfl,.inl ⟨kvs,Sum.inr z,d,rfl,by rw [A.get,e];rfl⟩,h⟩
def rDP (x y v:V) (H:Hp) (D:Ends) (σ:L2.St):Prop:=∃a H4,x=.ref a∧DPut H a y v H4∧D.nx σ H4
theorem r_dp (h:tv σ H fun v H1=>td σ H1 fun x H2=>ty σ H2 fun y H3=>rDP x y v H3 D σ):sDPut td ty tv D σ H:=h
theorem r_dpk (e:H a=some (.dK kvs)) (hz:kvs.length < sizeLine) (h:D.nx σ (upd H a (.dK (qdm kvs (Sum.inr z) v)))):rDP (.ref a) (.str z) v H D σ:=⟨a,_,rfl,DPut.k (k:=Sum.inr z) e hz,h⟩
def rDI (x y:V) (H:Hp) (Q:VK):Prop:=∃a o,x=.ref a∧DGet H a y o∧Q (.bl o.isSome) H
theorem r_di (h:ty σ H fun y H1=>td σ H1 fun x H2=>rDI x y H2 Q):tDIn ty td σ H Q:=h
theorem r_dnew (h:∀p,H p=none→Q (.ref p) (upd H p (.dK []))):tDNewK σ H Q:=h
theorem qdy (e:H a=some (.dK kvs)):NoFrz H a:=fun o u z=>by rw [e] at z;cases z
theorem noFrz_none (e:H a=none):NoFrz H a:=fun o u z=>by rw [e] at z;cases z
theorem rd_new (d:Rd H a (.dK kvs)) (n:H p=none) {u:HO}:Rd (upd H p u) a (.dK kvs):=by
 rcases d with d|⟨o,d⟩
 ·exact .inl (qa4 d n)
 ·exact .inr ⟨o,qa4 d n⟩
theorem rd_in (d:Rd H b (.dK kb)) (ea:H a=some (.dK kvs)) (sb:SameBut a H H') (fz:H' a=some (.frz o (.dK kvs))):Rd H' b (.dK kb):=by
 by_cases e:b=a
 ·subst e
  rcases d with d|⟨o',d⟩
  ·rw [ea] at d;cases d;exact .inr ⟨o,fz⟩
  ·rw [ea] at d;cases d
 ·rcases d with d|⟨o',d⟩
  ·exact .inl (sb _ _ e d)
  ·exact .inr ⟨o',sb _ _ e d⟩
theorem qcq (e:H a=some (.dK kvs)) (sb:SameBut a H H'):qaq H (upd H' a (.dK kvs)):=fun b u q=>by
 by_cases h:b=a
 ·subst h;rw [qa1];rw [e] at q;exact q
 ·rw [qa9 h];exact sb b u h q
theorem sb_frz (e:H a=some (.dK kvs)):SameBut a H (upd H a (.frz o (.dK kvs))):=fun b u h q=>by rw [qa9 h];exact q
theorem sb_put {l:Addr} {u:HO} (sb:SameBut a H H') (n:H l=none):SameBut a H (upd H' l u):=fun b w h q=>by
 rw [qa9 (qa7 q n)];exact sb b w h q
theorem qav {l:Addr} {u:HO} (s:qaq H H') (n:H l=none):qaq H (upd H' l u):=fun b w q=>by rw [qa9 (qa7 q n)];exact s b w q
end
def viol (f g:Str→Option Int) (y:Str):Prop:=f y≠none∧gN g y < gN f y
theorem addF_sup {f g:Str→Option Int} {ws:List Str} (hf:∀z,f z≠none→z∈ws) (hg:∀z,g z≠none→z∈ws) (z:Str) (h:qfb f g z≠none):z∈ws:=by
 unfold qfb at h
 cases e:g z with
 |none=>rw [e] at h;exact hf z h
 |some b=>exact hg z (by rw [e];simp)
theorem step_put {l:List Str} {i:Nat} {z:Str} (h:l[i]?=some z) (F G:Str→Option Int) {v:Int} (hv:F z=some v) (y:Str):putF' (fun y=>if y∈l.take i then F y else G y) z v y=if y∈l.take (i+1) then F y else G y:=by
 unfold putF'
 by_cases e:y=z
 ·subst e
  rw [if_pos rfl,if_pos ((qbk h y).mpr (.inr rfl)),hv]
 ·rw [if_neg e]
  by_cases e2:y∈l.take i
  ·rw [if_pos ((qbk h y).mpr (.inl e2))];exact if_pos e2
  ·rw [if_neg (fun q=>((qbk h y).mp q).elim e2 e)];exact if_neg e2
theorem step_no {l:List Str} {i:Nat} {z:Str} (h:l[i]?=some z) (F G:Str→Option Int) (hv:F z=G z) (y:Str):(if y∈l.take i then F y else G y)=if y∈l.take (i+1) then F y else G y:=by
 by_cases e2:y∈l.take i
 ·rw [if_pos e2,if_pos ((qbk h y).mpr (.inl e2))]
 ·rw [if_neg e2]
  by_cases e:y=z
  ·subst e
   rw [if_pos ((qbk h y).mpr (.inr rfl)),hv]
  ·rw [if_neg (fun q=>((qbk h y).mp q).elim e2 e)]
theorem step_end {kvs:List (Key × V)} {g:Str→Option Int} (hB:AD kvs g) (F G:Str→Option Int) (hn:∀y,g y=none→F y=G y) (y:Str):(if y∈(qbu kvs).take kvs.length then F y else G y)=F y:=by
 rw [←hB.klen,zV]
 by_cases e:y∈qbu kvs
 ·rw [if_pos e]
 ·rw [if_neg e]
  refine(hn y ?_).symm
  cases hf:g y with
  |none=>rfl
  |some n=>exact absurd ((hB.kin y).mpr (by rw [hf];simp)) e
section
variable {X : Cx}
theorem qdr {elt iter:Expr} {x y:Str} {px py:Pos} {ifs:List Expr} {scope:Scope} {cl:List (Str × Addr)} {pos spos:Pos} {caps:List Nat} {cn:List Str} {wi:TI} {tt:CT TT} {te:CT TE} {j:Nat} (Cp:Caps X x scope cl caps cn) (hc:X.calm=true)
  (hN:X.N.Nodup) (hy:X.N[j]?=some y) (hly:X.env.scope.names.lookup y=some .local)
  (hi:PI X (.Name x px) iter wi) (ht:∀C s H fp,PIfs (cxC X (x :: cn) scope cl C s H fp) ifs (tt C s H fp)) (he:∀C s H fp,PE (cxC X (x :: cn) scope cl C s H fp) elt (te C s H fp))
  (hsw:swapsWith (.ListComp elt [⟨.Name x px,iter,ifs,0⟩] scope pos) (some (.Name y py)) spos.line X.env=pure true:=by rfl) (hs:∀x,foldedSetIterable iter X.env x=pure x:=by intro _;rfl):
  PS X (.Assign [.Name y py] (.ListComp elt [⟨.Name x px,iter,ifs,0⟩] scope pos) spos) (tAsg (tComp wi caps tt te) (gName j)):=by
 intro pins s σ H D I h
 replace h:tComp wi caps tt te σ H (fun v H1=>D.nx (σ.set j (some v)) H1):=h
 rw [exec_Assign_Name_used _ _ _ _ hsw]
 refine wpAny_bind (wpAny_standAt (wpAny_bind ?_))
 show wpAny _ X.A (do let _←comprehension (.ListComp elt [⟨.Name x px,iter,ifs,0⟩] scope pos) scope X.env _ (newList []) false (eval iter X.env) (some (assign (.Name y py) X.env))) _ _ s
 refine wpAny_bind (wpAny_mono (wpAny_comprehension_free (use:=some (assign (.Name y py) X.env)) (Q:=fun _ s'=>SP X pins D .next s') rfl hs Cp.clos Cp.kind Cp.names
  (thn (hi pins s σ H _ I h) fun v s1 h1=>thn h1 fun itv s2 h2=>?_)) (fun _ s' hq=>wpAny_pure (wpAny_pure hq)) fun _ _ e=>e)
 obtain⟨it,fp,tn,J,H2,e,I2,T,st2,f2,R⟩:=h2
 subst e
 have hacc:H2 s2.heap.objs.size=none:=I2.hok.fresh (Nat.le_refl _)
 refine wpAny_newObj_type ?_
 have I3:Inv X pins σ (upd H2 s2.heap.objs.size (.lst [])) {s2 with heap:=s2.heap.push {cls:=.type "list",dict:=none,data:=.seq ([]:List Value).toArray}}:=Inv.lnew (its:=[]) (t':=s2.toks) I2 .nil (Nat.zero_le _)
 have lt2:∀b∈fp,b < s2.heap.objs.size:=fun b hb=>let ⟨o,e,_⟩:=T.obj _ _ st2 b hb;Heap.lt_size e
 have f3:∀b∈fp,qgb X pins (upd H2 s2.heap.objs.size (.lst [])) b:=fun b hb=>⟨by rw [qa9 (Nat.ne_of_lt (lt2 b hb))];exact(f2 b hb).1,(f2 b hb).2⟩
 have st3:tn 0 (s2.heap.push {cls:=.type "list",dict:=none,data:=.seq ([]:List Value).toArray}):=T.keep _ _ _ st2 fun b _ o e=>Heap.get?_push_of_some _ e
 generalize hs3:({s2 with heap:=s2.heap.push {cls:=.type "list",dict:=none,data:=.seq ([]:List Value).toArray}}:Shared)=s3 at I3 ⊢
 have st3':tn 0 s3.heap:=by rw [←hs3];exact st3
 generalize s2.heap.objs.size=acc at hacc I3 f3 ⊢
 obtain⟨W,⟨m0,w0⟩,turn⟩:=R s3.heap.objs.size s3 (upd H2 acc (.lst [])) fp acc hacc
 have lt3:∀b∈fp,b < s3.heap.objs.size:=fun b hb=>let ⟨o,e,_⟩:=T.obj _ _ st3' b hb;Heap.lt_size e
 clear st3 hs3
 refine wpAny_newFunctionEnv Cp.cell (by intro y hy;simp at hy) (fun h₁ hns hsb=>?_) Cp.kind
 have k1:∀b o,s3.heap.get? b=some o→h₁.get? b=some o:=fun b o e=>hsb.extBut b o (Nat.ne_of_lt (Heap.lt_size e)) (Heap.get?_push_of_some _ e)
 have I4:Inv (cxC X (x :: cn) scope cl s3.heap.objs.size s3 (upd H2 acc (.lst [])) fp) [] (none :: qbf caps σ) (upd H2 acc (.lst [])) {s3 with heap:=h₁,toks:=s3.toks+([]:List (Str × Value)).length}:=
  Inv.comp Cp I3 f3 lt3 hns k1
 have st4:tn 0 h₁:=T.keep _ _ _ st3' fun b _ o e=>k1 b o e
 generalize hX:cxC X (x :: cn) scope cl s3.heap.objs.size s3 (upd H2 acc (.lst [])) fp=X' at I4
 have stat:∀{H':Hp},(∀b∈fp,H' b=none)→∀b∈fp,qgb X' [] H' b:=fun hn b hb=>by
  subst hX
  obtain⟨g0,g1,g2,g3,g4,g5⟩:=f3 b hb
  refine⟨hn b hb,Nat.ne_of_lt (lt3 b hb),fun z=>?_,.inl hb,fun y c e=>g4 y c (Cp.sub y c e),fun p hp=>absurd (show p∈([]:List (Addr × Obj)) from hp) (by simp)⟩
  rcases zR.mp (I3.stkSub b z) with z|z
  ·exact g1 z
  ·exact g2 z
 have core:codeAny (model X.prog X.w) X.A (.compLoop (.ListComp elt [⟨.Name x px,iter,ifs,0⟩] scope pos) 0 (.ref it) (.ref acc) (compEnvC scope cl s3.heap.objs.size X.env))
   (compPost (model X.prog X.w) X.A X.xe (some (assign (.Name y py) X.env)) (fun _ s'=>SP X pins D .next s') (.ref acc) s3.heap.objs.size) {s3 with heap:=h₁,toks:=s3.toks+([]:List (Str × Value)).length}:=by
  refine codeAny_loop rfl (fun n s'=>∃i a H',Inv X' [] (a :: qbf caps σ) H' s'∧tn i s'.heap∧(∀b∈fp,H' b=none)∧W i n H') (fun n s5 hI=>?_) m0 ⟨0,none,_,I4,st4,fun b hb=>(f3 b hb).1,w0⟩
  obtain⟨i,a0,H5,I5,st5,fr5,w5⟩:=hI
  show wpAny _ _ ((compTurn _ 0 _ _ _).onRaise _) _ _ s5
  refine wpAny_noted ?_
  rw [compTurn_list]
  refine wpAny_bind (wpAny_standAt (wpAny_bind ?_))
  have aX:X'.A=X.A:=by subst hX;rfl
  have pX:X'.prog=X.prog:=by subst hX;rfl
  have wX:X'.w=X.w:=by subst hX;rfl
  have kX:X'.K=X.K:=by subst hX;rfl
  have cX:X'.calm=true:=by subst hX;exact hc
  have eX:X'.env=compEnvC scope cl s3.heap.objs.size X.env:=by subst hX;rfl
  rcases turn i n H5 w5 with ⟨stop,qn⟩ |⟨go,N,hN,step⟩
  ·have z:=T.done X' pX wX kX cX i [] s5 _ H5 (fun _ _=>False) I5 (stat fr5) st5 stop
   rw [aX] at z
   refine wpAny_mono z (fun r s6 ⟨hr,I6⟩=>?_) fun _ _ q=>q.elim
   subst hr
   subst hX
   obtain⟨m,hm,_⟩:=id I6.loc
   have J0:Inv X pins σ H5 s6:=Inv.uncomp I3 f3 rfl I6 (h':=s6.heap) ⟨rfl,fun _ _=>rfl⟩
   have fC:qgb X pins H5 s3.heap.objs.size:=I3.fpOk (Nat.le_refl _) I6.free
   refine wpAny_pure ?_
   show wpAny _ X.A (assign (.Name y py) X.env (.ref acc)) _ _ s6
   refine wpAny_assign_Name (store_ok2 (X:=X) (v:=.ref acc) J0 hN hy (.inl hly) rfl (fun s7 I7 ⟨a,sb,ha⟩=>?_) (.inr hly))
   have nC:s3.heap.objs.size≠a:=by
    rcases ha with rfl|ha
    ·exact fC.2.1
    ·exact(fC.2.2.2.2.1 y a ha).symm
   refine⟨m,hm.sameBut sb nC,fun h' sb'=>⟨_,H5,?_,qn⟩⟩
   exact I7.turned (t':=s7.toks) (fun b o hb e=>(sb'.2 b hb).trans e) fC.1 fC.2.1 fC.2.2.2.1 fC.2.2.2.2.1 fC.2.2.2.2.2
  ·have z:=T.item X' pX wX kX cX i [] s5 _ H5 (fun _ _=>False) I5 (stat fr5) st5 go
   rw [aX] at z
   refine wpAny_mono z (fun r s6 ⟨u,hr,h6⟩=>?_) fun _ _ q=>q.elim
   subst hr
   refine wpAny_bind (wpAny_mono h6 (fun _ s7 ⟨v,H7,I7,r7,y7,st7,fr7⟩=>?_) fun _ _ q=>q.elim)
   have I7':=I7.pinned (stat fr7) (T.obj _ _ st7)
   have asg:wpAny (model X.prog X.w) X.A (assign (.Name x px) (compEnvC scope cl s3.heap.objs.size X.env) u) (fun _ s8=>Inv X' ([]++qbv fp s7.heap) (some v :: qbf caps σ) H7 s8) (fun _ _=>False) s7:=by
    subst hX
    exact wpAny_assign_Name (qef (X:=cxC X (x :: cn) scope cl s3.heap.objs.size s3 (upd H2 acc (.lst [])) fp) (i:=0) I7' Cp.nd rfl (.inl (lookup_relabel_local Cp.tg)) r7 (fun s' I'=>I') (.inr (lookup_relabel_local Cp.tg)))
   refine wpAny_bind (wpAny_mono asg (fun _ s8 I8=>?_) fun _ _ q=>q.elim)
   have tst:wpAny (model X.prog X.w) X.A (forIn ifs true fun c r=>if r=true then do let ok←isTrue c (compEnvC scope cl s3.heap.objs.size X.env) (eval c (compEnvC scope cl s3.heap.objs.size X.env));pure (ForInStep.yield ok) else pure (ForInStep.yield r))
     (TP X' ([]++qbv fp s7.heap) (some v :: qbf caps σ) (fun b H9=>if b=true then te s3.heap.objs.size s3 (upd H2 acc (.lst [])) fp (some v :: qbf caps σ) H9 (fun y H3=>rApp acc N y H3) else N H9)) (fun _ _=>False) s8:=by
    subst hX
    exact ht _ _ _ _ _ s8 _ H7 _ I8 (step v H7 y7)
   refine wpAny_bind (wpAny_mono tst (fun b s9 ⟨H9,I9,q9⟩=>?_) fun _ _ q=>q.elim)
   have fin:∀{a:Option V} {H10:Hp} {s10:Shared},Inv X' ([]++qbv fp s7.heap) (a :: qbf caps σ) H10 s10→N H10→∃m',m' < n∧∃i a H',Inv X' [] (a :: qbf caps σ) H' s10∧tn i s10.heap∧(∀b∈fp,H' b=none)∧W i m' H':=fun {a H10 s10} I10 n10=>
    let ⟨m',hm,w10⟩:=hN _ n10
    ⟨m',hm,i+1,a,H10,I10.unpinned,T.keep _ _ _ st7 fun b hb o e=>(I10.pin (b,o) (zO _ (zO _ (qbq hb e)))).1,fun b hb=>by
     obtain⟨o,e,d⟩:=T.obj _ _ st7 b hb
     exact(I10.pin (b,o) (zO _ (zO _ (qbq hb e)))).2.1,w10⟩
   cases b with
   |false=>exact wpAny_pure ⟨rfl,fin I9 q9⟩
   |true=>
    have elt':wpAny (model X.prog X.w) X.A (eval elt (compEnvC scope cl s3.heap.objs.size X.env)) (EP X' ([]++qbv fp s7.heap) (some v :: qbf caps σ) (fun y H3=>rApp acc N y H3)) (fun _ _=>False) s9:=by
     subst hX
     exact he _ _ _ _ _ s9 _ H9 _ I9 q9
    refine wpAny_bind (wpAny_bind (wpAny_mono elt' (fun y s10 ⟨w,H10,I10,r10,ys,ha,hz,q10⟩=>?_) fun _ _ q=>q.elim))
    have app:wpAny (model X.prog X.w) X.A (call (.builtin "list.append") [.ref acc,y]) (EP X' ([]++qbv fp s7.heap) (some v :: qbf caps σ) fun _ H11=>H11=upd H10 acc (.lst (ys++ [w]))) (fun _ _=>False) s10:=by
     subst hX
     exact qat (X:=cxC X (x :: cn) scope cl s3.heap.objs.size s3 (upd H2 acc (.lst [])) fp) _ s10 _ H10 (.ref acc) [w] (.ref acc) [y] _ I10 rfl (.cons r10 .nil) ⟨acc,ys,w,rfl,rfl,ha,hz,rfl⟩
    refine wpAny_bind (wpAny_mono app (fun _ s11 ⟨_,H11,I11,_,e11⟩=>?_) fun _ _ q=>q.elim)
    subst e11
    exact wpAny_pure (wpAny_pure ⟨rfl,fin I11 q10⟩)
 exact codeAny_compStart_list core (T.self _ 0 _ _ _ st4 core)
end
section
variable {X : Cx} {pins : List (Addr × Obj)} {σ : L2.St} {H : Hp} {s : Shared} {h' : Heap}
theorem Inv.turnedL {t':Nat} {ch:List Addr} (I:Inv X pins σ H s) (hf:∀b∈ch,qgb X pins H b) (k:∀b o,b∉ch→s.heap.get? b=some o→h'.get? b=some o):Inv X pins σ H {s with heap:=h',toks:=t'}:=by
 have nit:∀b u,H b=some u→b∉ch:=fun b u e z=>by rw [(hf b z).1] at e;cases e
 refine I.step (g':=s.gens) (d':=s.drawn) (ch:=ch) (fun b hb=>⟨(hf b hb).2.2.2.1,(hf b hb).2.1,(hf b hb).2.2.2.2.1,(hf b hb).2.2.2.2.2⟩) (fun b o _ _ hc e _=>k b o hc e) (fun b o _ _ hc e _=>⟨o.slots,k b o hc e⟩) (fun _ _ _ _ n=>n)
  (fun b o hc e=>⟨o,k b o hc e⟩) (fun _ _ e=>e) (fun _ _ _ e=>e) (fun b ps e=>⟨#[],by rw [e];simp⟩) (fun m hm=>?_) (fun b u e=>?_) I.bare
 ·obtain⟨o,es,ep,ho,r⟩:=hm
  exact⟨o,es,ep,k _ o (fun z=>(hf _ z).2.1 rfl) ho,r⟩
 ·refine(I.hok b u e).stay (fun c v hc q=>k c v ?_ q) (fun _ q=>q) fun _ _ q=>q
  rcases hc with rfl|hc
  ·exact nit _ _ e
  ·exact nit _ _ hc
theorem Inv.turnedT {t':Nat} {ch:List Addr} {T:Addr} {ob:HO} (I:Inv X pins σ H s) (hf:∀b∈ch,qgb X pins H b) (k:∀b o,b∉ch→s.heap.get? b=some o→h'.get? b=some o) (hT:s.heap.get? T=none) (hn:H T=none) (new:qbi X.prog X.w (upd H T ob) h' T ob):
  Inv X pins σ (upd H T ob) {s with heap:=h',toks:=t'}:=by
 have nit:∀b u,H b=some u→b∉ch:=fun b u e z=>by rw [(hf b z).1] at e;cases e
 refine I.step (g':=s.gens) (d':=s.drawn) (ch:=ch) (fun b hb=>⟨(hf b hb).2.2.2.1,(hf b hb).2.1,(hf b hb).2.2.2.2.1,(hf b hb).2.2.2.2.2⟩) (fun b o _ _ hc e _=>k b o hc e) (fun b o _ _ hc e _=>⟨o.slots,k b o hc e⟩)
  (fun b o _ e n=>by rw [qa9 (fun z=>by subst z;rw [hT] at e;cases e)];exact n)
  (fun b o hc e=>⟨o,k b o hc e⟩) (fun b xs e=>by rw [qa9 (qa7 e hn)];exact e) (fun b o u e=>by rw [qa9 (qa7 e hn)];exact e) (fun b ps e=>⟨#[],by rw [qa9 (qa7 e hn),e];simp⟩) (fun m hm=>?_) (fun b u e=>?_) I.bare
 ·obtain⟨o,es,ep,ho,r⟩:=hm
  exact⟨o,es,ep,k _ o (fun z=>(hf _ z).2.1 rfl) ho,r⟩
 ·by_cases hb:b=T
  ·subst hb;rw [qa1] at e;cases e;exact new
  ·rw [qa9 hb] at e
   refine(I.hok b u e).stay (fun c v hc q=>k c v ?_ q) (fun c q=>by rw [qa9 (qa7 q hn)];exact q) fun c xs q=>by rw [qa9 (qa7 q hn)];exact q
   rcases hc with rfl|hc
   ·exact nit _ _ e
   ·exact nit _ _ hc
end
def ItZ (K:Frag) (l1 l2:Addr) (xs ys:List V):It:=
 ⟨fun i H=>SqL K H l1 xs∧SqL K H l2 ys∧i < xs.length∧i < ys.length,fun i H v H'=>∃T x y,H T=none∧xs[i]?=some x∧ys[i]?=some y∧v=.ref T∧H'=upd H T (.tup [x,y]),fun i H=>SqL K H l1 xs∧SqL K H l2 ys∧(xs.length≤i∨ys.length≤i)⟩
def ZSt (z TI TO i1 i2 l1 l2:Addr) (i:Nat) (h:Heap):Prop:=IsZip h z TI TO .none∧IsPair h TI (.ref i1) (.ref i2)∧(∃a b,IsPair h TO a b)∧h.IsListIter i1 l1 i∧h.IsListIter i2 l2 i
theorem turn_zip {P:Program} {w:World} {K:Frag} {elts:List Expr} {kk:Nat} {tp:Pos} {z TI TO i1 i2 l1 l2:Addr} (D:ZipApart z TI TO i1 i2 l1 l2) (xs ys:List V):
  Turn P w K (.Tuple elts kk tp) (ItZ K l1 l2 xs ys) [z,TI,TO,i1,i2] z (ZSt z TI TO i1 i2 l1 l2) where
 mem:=by simp
 obj:=fun i h st b hb=>by
  obtain⟨hz,hTI,⟨a,c,hTO⟩,⟨o1,e1,_,d1⟩,o2,e2,_,d2⟩:=st
  simp only [zR,yL,or_false] at hb
  rcases hb with rfl|rfl|rfl|rfl|rfl
  ·exact⟨_,hz,fun v q=>by have q':Data.fields _=Data.cell v:=q;cases q'⟩
  ·exact⟨_,hTI,fun v q=>by have q':Data.seq _ _=Data.cell v:=q;cases q'⟩
  ·exact⟨_,hTO,fun v q=>by have q':Data.seq _ _=Data.cell v:=q;cases q'⟩
  ·exact⟨o1,e1,fun v q=>by rw [d1] at q;cases q⟩
  ·exact⟨o2,e2,fun v q=>by rw [d2] at q;cases q⟩
 keep:=fun i h h' st k=>by
  obtain⟨hz,hTI,⟨a,c,hTO⟩,h1,h2⟩:=st
  exact⟨k z (by simp) _ hz,k TI (by simp) _ hTI,⟨a,c,k TO (by simp) _ hTO⟩,h1.at fun o e=>k i1 (by simp) o e,h2.at fun o e=>k i2 (by simp) o e⟩
 item:=by
  intro X hP hw hK hc i pins s σ H E I hf st hg
  subst hP hw hK
  obtain⟨hz,hTI,⟨a,c,hTO⟩,h1,h2⟩:=st
  obtain⟨q1,q2,g1,g2⟩:=hg
  obtain⟨us,r1,p1,_⟩:=I.list q1
  obtain⟨ws,r2,p2,_⟩:=I.list q2
  obtain⟨u1,hu1,ru1⟩:=r1.get (zA g1)
  obtain⟨u2,hu2,ru2⟩:=r2.get (zA g2)
  refine wpAny_pyNext_zip_item D hz hTI hTO h1 h2 (PlainL.isList p1) (PlainL.isList p2) (x:=u1) (y:=u2) (by simpa using hu1) (by simpa using hu2) fun h' b1 b2 b3 b4 b5 b6 hk=>?_
  have hn:H s.heap.objs.size=none:=I.hok.fresh (Nat.le_refl _)
  have lt:∀{b:Addr} {o:Obj},s.heap.get? b=some o→b≠s.heap.objs.size:=fun e=>Nat.ne_of_lt (Heap.lt_size e)
  have nz:z≠s.heap.objs.size:=lt hz
  have hg0:s.heap.get? s.heap.objs.size=none:=Heap.get?_none_of_le (Nat.le_refl _)
  have I1:Inv X pins σ (upd H s.heap.objs.size (.tup [xs[i],ys[i]])) {s with heap:=h'}:=Inv.turnedT (t':=s.toks) (ch:=[z,TO,i1,i2]) I
   (fun b hb=>hf b (by simp only [zR,yL,or_false] at hb ⊢;rcases hb with e|e|e|e <;> simp [e]))
   (fun b o hb e=>hk b o (fun q=>hb (by simp [q])) (fun q=>hb (by simp [q])) (fun q=>hb (by simp [q])) (fun q=>hb (by simp [q])) e) hg0 hn
   ⟨by show 2≤16777216;decide, [u1,u2],.cons ru1 (.cons ru2 .nil),⟨_,b5,rfl,_,rfl⟩⟩
  refine⟨.ref s.heap.objs.size,rfl,wpAny_letOwnedTupleGo_zip (s:={s with heap:=h'}) b1 fun h2' c1 hs2=>?_⟩
  have hfz:=hf z (by simp)
  have I2:Inv X pins σ (upd H s.heap.objs.size (.tup [xs[i],ys[i]])) {s with heap:=h2'}:=I1.turned (t':=s.toks) (fun b o hb e=>(hs2.2 b hb).trans e) (by rw [qa9 nz];exact hfz.1) hfz.2.1 hfz.2.2.2.1 hfz.2.2.2.2.1 hfz.2.2.2.2.2
  refine⟨.ref s.heap.objs.size,_,I2,rfl,⟨s.heap.objs.size,xs[i],ys[i],hn,zA g1,zA g2,rfl,rfl⟩,
   ⟨c1,hs2.extBut _ _ D.TIz (hk _ _ D.TIz D.TITO D.TIi1 D.TIi2 hTI),⟨_,_,hs2.extBut _ _ D.TOz b2⟩,b3.extBut hs2.extBut D.i1z,b4.extBut hs2.extBut D.i2z⟩,fun b hb=>?_⟩
  have e:b≠s.heap.objs.size:=by
   simp only [zR,yL,or_false] at hb
   obtain⟨o1,e1,_⟩:=h1
   obtain⟨o2,e2,_⟩:=h2
   rcases hb with rfl|rfl|rfl|rfl|rfl
   ·exact nz
   ·exact lt hTI
   ·exact lt hTO
   ·exact lt e1
   ·exact lt e2
  rw [qa9 e]
  exact(hf b hb).1
 done:=by
  intro X hP hw hK hc i pins s σ H E I hf st hg
  subst hP hw hK
  obtain⟨hz,hTI,⟨a,c,hTO⟩,h1,h2⟩:=st
  obtain⟨q1,q2,g⟩:=hg
  obtain⟨us,r1,p1,_⟩:=I.list q1
  obtain⟨ws,r2,p2,_⟩:=I.list q2
  have l1:=r1.length
  have l2:=r2.length
  exact wpAny_pyNext_zip_end (I.ok.hd hc) D hz hTI hTO h1 h2 (PlainL.isList p1) (PlainL.isList p2) (g.elim (fun g=> .inl (by simp;omega)) fun g=> .inr (by simp;omega)) fun h' hk=>
   ⟨rfl,Inv.turnedL (t':=s.toks) (ch:=[z,TO,i1,i2]) I (fun b hb=>hf b (by simp only [zR,yL,or_false] at hb ⊢;rcases hb with e|e|e|e <;> simp [e]))
    fun b o hb e=>hk b o (fun q=>hb (by simp [q])) (fun q=>hb (by simp [q])) (fun q=>hb (by simp [q])) (fun q=>hb (by simp [q])) e⟩
 self:=fun _ _ _ _ _ st h=>wpAny_pyIter_zip st.1 h
def rItZ (K:Frag) (vs:List V) (H:Hp) (R:It→Hp→Prop):Prop:=∃l1 l2 xs ys,vs=[.ref l1,.ref l2]∧SqL K H l1 xs∧SqL K H l2 ys∧R (ItZ K l1 l2 xs ys) H
def iZip (K:Frag) (ta:TA):TI:=fun σ H R=>ta σ H fun vs H1=>rItZ K vs H1 R
theorem boot_zip:bootBuiltins "zip" =some (.type "zip"):=by decide+kernel
theorem pi_zip {X:Cx} {elts:List Expr} {kk:Nat} {tp:Pos} {a b:Expr} {ta:TA} {p pos:Pos} (hg:Gl X "zip") (hm:X.mg "zip" =none) (ha:PA X [a,b] ta) (hs:starEach [a,b] X.env=[(false,eval a X.env),(false,eval b X.env)]:=by rfl) (hs2:starEach [b] X.env=[(false,eval b X.env)]:=by rfl):
  PI X (.Tuple elts kk tp) (.Call (.Name "zip" p) [a,b] [] pos) (iZip X.K ta):=by
 intro pins s σ H R I h
 refine Call_ (qe2 I hg hm boot_zip (PyProof.Rows.callWith_type1 (thn (ha pos pins s σ H _ I h) fun us s1 ⟨vs,H1,I1,r1,q1⟩=>?_) (by rw [hs,hs2]) (by rw [hs2];rfl)))
 obtain⟨l1,l2,xs,ys,rfl,g1,g2,q⟩:=q1
 cases r1 with
 |cons r rr=>
  cases rr with
  |cons r' rr=>
   cases rr
   cases r
   cases r'
   obtain⟨us,v1,p1,_⟩:=I1.list g1
   obtain⟨ws,v2,p2,_⟩:=I1.list g2
   have t1:=PlainL.isList p1
   have t2:=PlainL.isList p2
   have lt1:l1 < s1.heap.objs.size:=by obtain⟨_,e,_⟩:=t1;exact Heap.lt_size e
   have lt2:l2 < s1.heap.objs.size:=by obtain⟨_,e,_⟩:=t2;exact Heap.lt_size e
   refine call_zip_2 t1 t2 fun h' hz hTI hTO hi1 hi2 hsz hk=>?_
   have I2:Inv X pins σ H1 {s1 with heap:=h'}:=I1.kept (t':=s1.toks) fun b o e=>hk b o e
   refine wpAny_pyIter_zip (s:={s1 with heap:=h'}) hz ?_
   refine⟨s1.heap.objs.size+4,_,_,_,H1,rfl,I2,turn_zip (zipApart_new lt1 lt2) xs ys,⟨hz,hTI,⟨_,_,hTO⟩,hi1,hi2⟩,fun b hb=>?_,q⟩
   have le:s1.heap.objs.size≤b:=by
    simp only [zR,yL,or_false] at hb
    rcases hb with rfl|rfl|rfl|rfl|rfl <;> omega
   exact I1.fpOk le (I1.hok.fresh le)
section
variable {K : Frag} {σ : L2.St} {H : Hp} {D : Ends} {g : TG} {tb : TS} {ta : TA} {l1 l2 : Addr} {xs ys : List V}
theorem r_iZ {R:It→Hp→Prop} (h:ta σ H fun vs H1=>rItZ K vs H1 R):iZip K ta σ H R:=h
theorem r_itZ {R:It→Hp→Prop} (e1:SqL K H l1 xs) (e2:SqL K H l2 ys) (h:R (ItZ K l1 l2 xs ys) H):rItZ K [.ref l1,.ref l2] H R:=⟨l1,l2,xs,ys,rfl,e1,e2,h⟩
theorem f_zip (hxy:xs.length=ys.length) (Pv:Nat→L2.St→Hp→Prop) (h0:Pv 0 σ H) (hl:∀i σ H,Pv i σ H→SqL K H l1 xs∧SqL K H l2 ys)
  (hs:∀i x y T σ H,xs[i]?=some x→ys[i]?=some y→Pv i σ H→H T=none→g (.ref T) σ (upd H T (.tup [x,y])) fun σ2 H2=>tb {nx:=Pv (i+1),rt:=D.rt,bk:=D.nx,ct:=Pv (i+1)} σ2 H2) (hd:∀σ H,Pv xs.length σ H→D.nx σ H):FOR (ItZ K l1 l2 xs ys) g tb D σ H:=by
 refine⟨fun i m σ H=>m=xs.length - i∧i≤xs.length∧Pv i σ H,⟨xs.length,rfl,Nat.zero_le _,h0⟩,?_⟩
 rintro i m σ H ⟨rfl,hi,p⟩
 obtain⟨q1,q2⟩:=hl i σ H p
 by_cases hlt:i < xs.length
 ·refine .inr ⟨⟨q1,q2,hlt,by omega⟩,Pv (i+1),fun σ' H' p'=>⟨xs.length - (i+1),by omega,rfl,hlt,p'⟩,fun v H' e=>?_⟩
  obtain⟨T,x,y,hT,hx,hy,rfl,rfl⟩:=e
  exact hs i x y T σ H hx hy p hT
 ·have e:i=xs.length:=by omega
  subst e
  exact .inl ⟨⟨q1,q2,.inl (Nat.le_refl _)⟩,hd σ H p⟩
end
section
variable {prog : Program} {w : World} {A : Around} {E : Value → Shared → Prop} {s : Shared}
theorem set_exact {l:Addr} {items:Array Value} {n:Nat} {k:Int} {t:Tok} {v:Value} {Q:Unit→Shared→Prop} (ho:s.heap.get? l=some {cls:=.type "list",data:=.seq items n}) (h0:0≤k) (hk:k < items.size) (hfit:k < 2^63)
  (q:Q () {s with heap:=s.heap.update l (Obj.mapSeq fun a=>a.setIfInBounds k.toNat v)}):wpAny (model prog w) A (setItem (.ref l) (.int k t) v) Q E s:=by
 have hT:s.TypeIs (.ref l) "list":=⟨_,ho,rfl⟩
 unfold setItem
 try with_reducible refine wpAny_holding ?_
 first|refine wpAny_bind (wpAny_pure ?_) |skip
 refine wpAny_bind (wpAny_sequenceKey hT (by decide) ?_)
 refine wpAny_bind (wpAny_callSpecial?_slot (name:=Str.ofString "__setitem__") hT slot_list_setitem (wpAny_call_entry slot_list_setitem hT entry_list_setitem ?_ (args_list_setitem _ _ _)))
 show wpAny _ _ (Builtin.List.listSubscript? (.int k t) >>= _) _ _ s
 refine wpAny_bind (wpAny_listSubscript_int (fitsIndex_of h0 hfit) ?_)
 clear hfit
 obtain⟨j,rfl⟩:=Int.eq_ofNat_of_zero_le h0
 have hj:j < items.size:=by omega
 have hx:items[j]?=some items[j]:=Array.getElem?_eq_getElem hj
 show wpAny _ _ ((seqItemAt l j >>= fun r=>pure (r.map (j,·))) >>= _) _ _ s
 refine wpAny_bind (wpAny_bind (wpAny_seqItemAt ho rfl (wpAny_pure ?_)))
 rw [hx]
 show wpAny _ _ (setSeqItemAt l j v >>= _) _ _ s
 refine wpAny_bind (wpAny_setSeqItemAt ho rfl ?_)
 first
 |exact wpAny_bind (wpAny_pure (wpAny_pure ⟨.none,rfl,wpAny_pure q⟩))
 |exact wpAny_pure ⟨.none,rfl,wpAny_pure q⟩
end
def rLP (x y v:V) (H:Hp) (D:Ends) (σ:L2.St):Prop:=∃l xs k,x=.ref l∧y=.int (k:Nat)∧H l=some (.lst xs)∧k < xs.length∧D.nx σ (upd H l (.lst (xs.set k v)))
def sLPut (td ty tv:TE):TS:=fun D σ H=>tv σ H fun v H1=>td σ H1 fun x H2=>ty σ H2 fun y H3=>rLP x y v H3 D σ
theorem ps_lput {X:Cx} {o i value:Expr} {pos pos':Pos} {td ty tv:TE} (ho:PE X o td) (hi:PE X i ty) (hv:PE X value tv) (hs:swapsWith value (some (.Subscript o i pos')) pos.line X.env=pure false):PS X (.Assign [.Subscript o i pos'] value pos) (sLPut td ty tv):=by
 intro pins s σ H D I h
 refine wpAny_Assign_Subscript (thn (hv pins s σ H _ I h) fun r s1 ⟨v,H1,I1,rv,q1⟩=>thn (ho pins s1 σ H1 _ I1 q1) fun u s2 ⟨x,H2,I2,rx,q2⟩=>thn (hi pins s2 σ H2 _ I2 q2) fun iv s3 ⟨y,H3,I3,ry,q3⟩=>?_) hs
 obtain⟨l,xs,k,rfl,rfl,hl,hk,q⟩:=q3
 obtain rfl:u=Value.ref l:=rx
 obtain⟨t,rfl⟩:=ry
 obtain⟨z,its,n,rr,hlen,e⟩:=I3.lstM hl
 have hz:xs.length≤16777216:=z
 refine set_exact e (Int.natCast_nonneg k) (by simp;omega) (by omega) ?_
 rw [Int.toNat_natCast]
 exact⟨σ,_,I3.lset (its':=its.set k r) (ys:=xs.set k v) (t':=s3.toks) hl e (by simp) (rr.set rv k) (by rw [List.length_set];exact z),q⟩
section
variable {X : Cx}
def rMax:List V→Hp→VK→Prop:=fun xs H Q=>∃i j,xs=[.int i,.int j]∧Q (.int (if j > i then j else i)) H
def rMin:List V→Hp→VK→Prop:=fun xs H Q=>∃i j,xs=[.int i,.int j]∧Q (.int (if j < i then j else i)) H
theorem qf2 (hc:X.calm=true):qcd X (.builtin "max") rMax:=call_max2 hc
theorem call_minR (hc:X.calm=true):qcd X (.builtin "min") rMin:=call_min2 hc
end
section
variable {K : Frag} {σ : L2.St} {H : Hp} {Q : VK} {D : Ends} {td ty tv t1 t2 : TE} {l : Addr} {xs : List V} {ss : List Str} {k : Nat} {v : V} {z : Str} {i j : Int}
theorem r_lp (h:tv σ H fun v H1=>td σ H1 fun x H2=>ty σ H2 fun y H3=>rLP x y v H3 D σ):sLPut td ty tv D σ H:=h
theorem r_lpk (e:H l=some (.lst xs)) (hk:k < xs.length) (h:D.nx σ (upd H l (.lst (xs.set k v)))) {y:Int} (ey:y=(k:Int)):rLP (.ref l) (.int y) v H D σ:=by subst ey;exact⟨l,xs,k,rfl,rfl,e,hk,h⟩
theorem r_max (h:Q (.int (if j > i then j else i)) H):rMax [.int i,.int j] H Q:=⟨i,j,rfl,h⟩
theorem r_min (h:Q (.int (if j < i then j else i)) H):rMin [.int i,.int j] H Q:=⟨i,j,rfl,h⟩
end
section
variable {K : Frag} {σ : L2.St} {H : Hp} {Q : VK} {D : Ends} {ta tv : TE} {t : TA} {a C dx : Addr} {fs : List (Str × V)} {f m : Str} {v y : V} {sp : Sp} {dvs : List V} {E : XK}
def kMk (C:Addr) (sp:Sp) (dvs:List V) (E:XK) (Q:VK) (vs:List V) (H:Hp):Prop:=∀x dx,H x=none→H dx=none→dx≠x→sp (.ref x ::(vs++dvs)) (upd (upd H dx (.own x)) x (.ins C dx [])) (fun v H2=>v=.non∧Q (.ref x) H2) E
theorem r_mk (h:t σ H fun vs H1=>kMk C sp dvs E Q vs H1):tMake C sp dvs E t σ H Q:=h
def kMt (C:Addr) (m:Str) (sp:Sp) (dvs:List V) (E:XK) (t:TA) (σ:L2.St) (Q:VK) (x:V) (H:Hp):Prop:=∃a dx fs,x=.ref a∧H a=some (.ins C dx fs)∧fs.lookup m=none∧t σ H fun vs H2=>sp (x ::(vs++dvs)) H2 Q E
theorem r_mt (h:ta σ H fun x H1=>kMt C m sp dvs E t σ Q x H1):tMeth C m sp dvs E ta t σ H Q:=h
theorem r_mtk (e:H a=some (.ins C dx fs)) (l:fs.lookup m=none) (h:t σ H fun vs H2=>sp (.ref a ::(vs++dvs)) H2 Q E):kMt C m sp dvs E t σ Q (.ref a) H:=⟨a,dx,fs,rfl,e,l,h⟩
def kFl (K:Frag) (f:Str) (Q:VK) (x:V) (H:Hp):Prop:=∃a C dx fs v,x=.ref a∧H a=some (.ins C dx fs)∧Cls K C∧qaw K C f∧fs.lookup f=some v∧Q v H
theorem r_fl (h:ta σ H fun x H1=>kFl K f Q x H1):tFld K ta f σ H Q:=h
theorem r_flk (e:H a=some (.ins C dx fs)) (c:Cls K C) (n:qaw K C f) (l:fs.lookup f=some v) (h:Q v H):kFl K f Q (.ref a) H:=⟨a,C,dx,fs,v,rfl,e,c,n,l,h⟩
def kFs (K:Frag) (f:Str) (y:V) (D:Ends) (σ:L2.St) (x:V) (H:Hp):Prop:=∃a C dx fs,x=.ref a∧H a=some (.ins C dx fs)∧Cls K C∧qaw K C f∧fs.length < 1000∧D.nx σ (upd H a (.ins C dx (qel f y fs)))
theorem r_fs (h:tv σ H fun y H1=>ta σ H1 fun x H2=>kFs K f y D σ x H2):sFld K ta tv f D σ H:=h
theorem qfy (e:H a=some (.ins C dx fs)) (c:Cls K C) (n:qaw K C f) (hz:fs.length < 1000) (h:D.nx σ (upd H a (.ins C dx (qel f y fs)))):kFs K f y D σ (.ref a) H:=⟨a,C,dx,fs,rfl,e,c,n,hz,h⟩
end
structure IsC (K:Frag) (C:Addr):Prop where
 ha:findIn K (.ref C) "__class__" =some (some (.builtin "object.__class__"))
 hn:specialIn K (.builtin "object.__class__") "__get__" =some (some (.builtin "getset_descriptor.__get__"))
 htk:PySem.W.takesIn K (.builtin "object.__class__")=some true
 hm:mroIn K C (.type "object")=some true
section
variable {X : Cx} {k : Nat} {f C : Addr} {fd : FuncData} {ps : List Str} {sp : Sp} {dvs : List V} {ds : List Value} {W : L2.St → XK} {x m : Str} {p pos apos : Pos} {e o : Expr} {es : List Expr} {ta : TE} {t : TA}
def tMethX (C:Addr) (m:Str) (sp:Sp) (dvs:List V) (W:L2.St→XK) (ta:TE) (t:TA):TE:=fun σ H Q=>ta σ H fun x H1=>∃a dx fs,x=.ref a∧H1 a=some (.ins C dx fs)∧fs.lookup m=none∧t σ H1 fun vs H2=>sp (x ::(vs++dvs)) H2 Q (W σ)
theorem qb5 {pl:Sem Bool} (he:PE X o ta) (c:Cls X.K C) (hm:Meth X.K C m f) (F:FnOk X.prog X.w X.K X.mg X.base (CX1 X.prog X.w) k f fd ps sp) (hr:Room k X.A) (hb:qao X.K fd ps ds) (hd:qb9 dvs ds) (hx:Xes X W) (ha:PA X (e :: es) t) (hex:X.ex=[]:=by rfl)
  (hst:starEach (e :: es) X.env=(false,eval e X.env) :: starEach es X.env:=by rfl) (hpl:(backTo pos (starEach es X.env)).any (·.1)=false:=by rfl)
  (ht:eval (.Call (.Attribute o m apos) (e :: es) [] pos) X.env=(do
   let ov←eval o X.env
   standAt apos.atName
   let (f,first)←holding [ov] (getMethod ov m pl)
   callWith pos f first (backTo pos (starEach (e :: es) X.env)) (backToKw pos (keywordEach [] X.env))):=by rfl):
  PE X (.Call (.Attribute o m apos) (e :: es) [] pos) (tMethX C m sp dvs W ta t):=by
 intro pins s σ H Q I h
 refine PySem.W.methodCall_KW (pl:=pl) (thn (he pins s σ H _ I h) fun u s1 ⟨x,H1,I1,rx,a,dx,fs,ex,ea,l,q⟩=>?_) ht
 subst ex
 obtain rfl:u=Value.ref a:=rx
 refine qe7 I1 ea c hm l (PySem.W.callWith_K (first:=[.ref a]) (h₀:=X.base) I.ok.mod.kin hm.kp (thn (ha pos pins s1 σ H1 _ I1 q) fun us s2 ⟨vs,H2,I2,r,q2⟩=>⟨I2.kIn,?_⟩) hst hpl)
 exact run_fnX (us:=.ref a :: us) (vs:=.ref a :: vs) F hr hb hd hx hex I2 (.cons rfl r) q2
def tMakeX (C:Addr) (sp:Sp) (dvs:List V) (W:L2.St→XK) (t:TA):TE:=fun σ H Q=>t σ H fun vs H1=>∀x dx,H1 x=none→H1 dx=none→dx≠x→sp (.ref x ::(vs++dvs)) (upd (upd H1 dx (.own x)) x (.ins C dx [])) (fun v H2=>v=.non∧Q (.ref x) H2) (W σ)
theorem run_makeX {pins:List (Addr × Obj)} {σ:L2.St} {H:Hp} {s:Shared} {Q:VK} {us:List Value} {vs:List V} (M:Mk X.K C f) (F:FnOk X.prog X.w X.K X.mg X.base (CX1 X.prog X.w) k f fd ps sp) (hr:Room (k+1) X.A) (hb:qao X.K fd ps ds) (hd:qb9 dvs ds)
  (hx:Xes X W) (hex:X.ex=[]) (I:Inv X pins σ H s) (r:qb9 vs us)
  (h:∀x dx,H x=none→H dx=none→dx≠x→sp (.ref x ::(vs++dvs)) (upd (upd H dx (.own x)) x (.ins C dx [])) (fun v H2=>v=.non∧Q (.ref x) H2) (W σ)):
  wpAny (model X.prog X.w) X.A (call (.ref C) us) (EP X pins σ Q) X.xe s:=by
 have hq:=h (s.heap.objs.size+1) s.heap.objs.size (I.hok.fresh (Nat.le_succ _)) (I.hok.fresh (Nat.le_refl _)) (Nat.ne_of_lt (Nat.lt_succ_self _))
 have I2:=Inv.made (C:=C) I
 have r2:qb9 (V.ref (s.heap.objs.size+1) ::(vs++dvs)) (Value.ref (s.heap.objs.size+1) ::(us++ds)):=.cons rfl (r.append hd)
 have hl:(Value.ref (s.heap.objs.size+1) :: us++ds).length=ps.length:=by
  have e:=r2.length
  rw [F.len _ _ _ _ hq] at e
  exact e.symm
 refine wpAny_call (make_map (f:=f) I.kIn M.makes M.init (beq_iff_eq.mp M.fn) (codeAny_mono (F.run _ X.stack _ _ ⟨Value.ref (s.heap.objs.size+1) :: us, []⟩ (Value.ref (s.heap.objs.size+1) ::(us++ds)) _ _ (W σ) (hr.make C us [])
  (I2.env0.make C us []) (hb _ (Value.ref (s.heap.objs.size+1) :: us) I2.kIn hl) r2 hq) fun r s' hq'=>?_))
 cases r with
 |error e=>exact xes_call hx hex I2 hq'
 |ok fl=>
  cases fl with
  |ret u=>
   obtain⟨v,H',I3,rv,ev,q3⟩:=I2.after hq'
   subst ev
   exact⟨rv,⟨V.ref (s.heap.objs.size+1),H',I3,rfl,q3⟩⟩
  |next=>exact False.elim hq'
  |brk=>exact False.elim hq'
  |cont=>exact False.elim hq'
theorem pe_makeX (M:Mk X.K C f) (F:FnOk X.prog X.w X.K X.mg X.base (CX1 X.prog X.w) k f fd ps sp) (hr:Room (k+1) X.A) (hg:Gl X x) (hm:X.mg x=some (.ref C)) (hb:qao X.K fd ps ds) (hd:qb9 dvs ds) (hx:Xes X W)
  (ha:PA X (e :: es) t) (hex:X.ex=[]:=by rfl) (hdb:(x==("__debug__" :Str))=false:=by decide) (he:starEach (e :: es) X.env=(false,eval e X.env) :: starEach es X.env:=by rfl) (hpl:(backTo pos (starEach es X.env)).any (·.1)=false:=by rfl):
  PE X (.Call (.Name x p) (e :: es) [] pos) (tMakeX C sp dvs W t):=by
 intro pins s σ H Q I h
 refine wpAny_Call_Name_kw (qdt I hg hm ?_ hdb)
 refine PySem.W.callWith_K (h₀:=X.base) I.ok.mod.kin M.kp (thn (ha pos pins s σ H _ I h) fun us s1 ⟨vs,H1,I1,r,q⟩=>⟨I1.kIn,?_⟩) he hpl
 exact run_makeX M F hr hb hd hx hex I1 r q
end
structure FunD (K:Frag) (x qual:Str) (st:Stmt) (f:Addr) (fd:FuncData) (T:Addr) (items:Array Value):Prop where
 ex:∃(oc:Value) (od:Option Addr) (kV doc pm:Value) (an:Option Addr) (cdv ct:Value) (osl:Array (Option Value)),
  fd=fnOf x qual (qcg st) (qbt st) (qab st) (.ref T) kV doc pm an cdv ct∧K.lookup f=some ⟨oc,od,.func fd,osl⟩∧codeIn K cdv qual=true
 kp:keepIn K (.ref f)=true
 tup:∃(o:Obj) (n:Nat),K.lookup T=some o∧o.data=.seq items n
section
variable {P : Program} {w : World} {K : Frag} {mg : Str → Option Value} {base : Heap} {x qual : Str} {st : Stmt} {f T : Addr} {fd : FuncData} {N ps : List Str} {k : Nat} {sp : Sp} {items : Array Value}
theorem FunD.binds (F:FunD K x qual st f fd T items) {ds:List Value} (h:∀(kV doc pm:Value) (an:Option Addr) (cdv ct:Value) (us:List Value),(us++ds).length=ps.length→
   bindArgs (fnOf x qual (qcg st) (qbt st) (qab st) (.ref T) kV doc pm an cdv ct) ⟨us, []⟩=pure (ps.zip (us++ds))∨
   ∃g:Option (Array Value)→Sem (List (Str × Value)),bindArgs (fnOf x qual (qcg st) (qbt st) (qab st) (.ref T) kV doc pm an cdv ct) ⟨us, []⟩=seqItems? (.ref T) >>= g∧g (some items)=pure (ps.zip (us++ds))):qao K fd ps ds:=by
 obtain⟨oc,od,kV,doc,pm,an,cdv,ct,osl,rfl,lk,hcd⟩:=F.ex
 obtain⟨o,n,hT,hd⟩:=F.tup
 intro s us KX hl
 rcases h kV doc pm an cdv ct us hl with h|⟨g,h1,h2⟩
 ·exact .of_eq h
 ·exact BindsTo.of_defaults (T:=T) rfl (KX _ _ hT) hd h1 h2
end
section
variable {K : Frag} {σ : L2.St} {H : Hp} {Q : VK} {ta : TE} {t : TA} {a C dx : Addr} {fs : List (Str × V)} {m : Str} {sp : Sp} {dvs : List V} {W : L2.St → XK}
def kMtX (C:Addr) (m:Str) (sp:Sp) (dvs:List V) (W:L2.St→XK) (t:TA) (σ:L2.St) (Q:VK) (x:V) (H:Hp):Prop:=∃a dx fs,x=.ref a∧H a=some (.ins C dx fs)∧fs.lookup m=none∧t σ H fun vs H2=>sp (x ::(vs++dvs)) H2 Q (W σ)
theorem r_mtX (h:ta σ H fun x H1=>kMtX C m sp dvs W t σ Q x H1):tMethX C m sp dvs W ta t σ H Q:=h
theorem r_mtkX (e:H a=some (.ins C dx fs)) (l:fs.lookup m=none) (h:t σ H fun vs H2=>sp (.ref a ::(vs++dvs)) H2 Q (W σ)):kMtX C m sp dvs W t σ Q (.ref a) H:=⟨a,dx,fs,rfl,e,l,h⟩
def kMkX (C:Addr) (sp:Sp) (dvs:List V) (W:L2.St→XK) (σ:L2.St) (Q:VK) (vs:List V) (H:Hp):Prop:=∀x dx,H x=none→H dx=none→dx≠x→sp (.ref x ::(vs++dvs)) (upd (upd H dx (.own x)) x (.ins C dx [])) (fun v H2=>v=.non∧Q (.ref x) H2) (W σ)
theorem r_mkX (h:t σ H fun vs H1=>kMkX C sp dvs W σ Q vs H1):tMakeX C sp dvs W t σ H Q:=h
end
theorem nolen_lr:typeLookup (.type "list_reverseiterator") "__len__" =pure none:=by rw [typeLookup_type,builtinLookup_eq_fast];kernel_rfl
theorem hint_lr:typeLookup (.type "list_reverseiterator") "__length_hint__" =pure (some (.builtin "list_reverseiterator.__length_hint__")):=by rw [typeLookup_type,builtinLookup_eq_fast];kernel_rfl
section
variable {prog : Program} {w : World} {A : Around} {E : Value → Shared → Prop} {s : Shared} {it l : Addr} {its : Array Value}
abbrev BackOf (its acc:Array Value):Prop:=ItemsOf (fun i v=>its[its.size - 1 - i]?=some v) acc its.size
def qc0 (acc:Array Value) (c:Nat):Obj:={cls:=.type "list",dict:=none,data:=.seq acc c,slots:=#[]}
theorem extend_back {R:Result→Shared→Prop} {tl:Addr} {res:Value} {c0:Nat} (calm:A.handled=none) (hl:s.heap.IsList l its) (hit:s.heap.IsRevIter it l ((its.size:Int) - 1)) (li:l≠it) (ti:tl≠it) (tn:tl≠l)
  (ht:s.heap.get? tl=some (qc0 #[] c0)) (hz:its.size≤sizeLine)
  (fin:∀h' tk acc c,(∀b o,b≠tl→b≠it→s.heap.get? b=some o→h'.get? b=some o)→h'.get? tl=some (qc0 acc c)→BackOf its acc→R (.ok (.ret res)) {s with heap:=h',toks:=tk}):
  wpAny (model prog w) A.in1 (Builtin.List.listExtendWith (.ref tl) (.ref it) res)
   (fun z s'=>match z with| .done f=>R (.ok f) s'| .again c'=>c'.quiet=true∧codeAny (model prog w) A c' R s') (fun e s'=>R (.error e) s') s:=by
 have W:=(Walks.listRev (prog:=prog) (w:=w) (A:=A.in1) calm it l li its).toS
 have h0:0≤its.size∧s.heap.IsRevIter it l ((its.size:Int) - 1 - ((0:Nat):Int))∧s.heap.IsList l its:=⟨Nat.zero_le _,by simpa using hit,hl⟩
 have off:tl∉ [it,l]:=by
  intro q
  rcases zR.mp q with q|q
  ·exact ti q
  ·exact tn (zH.mp q)
 unfold Builtin.List.listExtendWith
 refine wpAny_bind (wpAny_typeOf hit.typeIs ?_)
 have k1:Builtin.List.listSameRef (.ref tl) (.ref it)=false:=by simp [Builtin.List.listSameRef,ti]
 rw [if_neg (by rw [k1];decide)]
 refine wpAny_bind (W.self 0 _ _ _ h0 (wpAny_bind (wpAny_holding ?_)))
 unfold Builtin.List.listLengthHint
 refine wpAny_bind (wpAny_specialOf hit.typeIs nolen_lr ?_)
 show wpAny _ _ (specialOf (Value.ref it) (Str.ofString "__length_hint__") >>= _) _ _ _
 refine wpAny_bind (wpAny_specialOf hit.typeIs hint_lr ?_)
 generalize hid:("list_reverseiterator.__length_hint__" :String)=nameOf
 wp_delta
 rw [show splitId nameOf=some ("list_reverseiterator","__length_hint__") from by subst hid;decide+kernel]
 subst hid
 refine wpAny_bind (wpAny_isInstance (b:=true) hit.typeIs (by rw [isSubtype_type];kernel_rfl) (wpAny_pure ?_))
 rw [if_neg (by decide)]
 refine wpAny_pure ⟨plainId_quiet F.plain_extend_loop _,codeAny_extend_loopS W hz tl off res its.size 0 _ #[] c0 rfl (Nat.zero_le _) h0 ht (ItemsOf.nil _) fun s' acc c hm hs hacc=>?_⟩
 rw [Moved.eq_with hm]
 refine fin s'.heap s'.toks acc c (fun b o n1 n2 e=>hm.heap b o (fun q=>?_) e) hs hacc
 rcases zR.mp q with q|q
 ·exact n1 q
 ·exact n2 (zH.mp q)
theorem call_listRev {Q:Value→Shared→Prop} (calm:A.handled=none) (hl:s.heap.IsList l its) (hit:s.heap.IsRevIter it l ((its.size:Int) - 1)) (li:l≠it) (hz:its.size≤sizeLine)
  (fin:∀h' tk acc c,(∀b o,b≠it→s.heap.get? b=some o→h'.get? b=some o)→h'.get? s.heap.objs.size=some (qc0 acc c)→BackOf its acc→Q (.ref s.heap.objs.size) {s with heap:=h',toks:=tk}):
  wpAny (model prog w) A (call (.type "list") [.ref it]) Q E s:=by
 refine callType_codes (Q₁:=fun o s1=>o=.ref s.heap.objs.size∧s1={s with heap:=s.heap.push (qc0 #[] 0)}) F.called_list (F.typeCall_list_1 _) F.entry_list_init (code_list_new _ ⟨rfl,rfl⟩) fun o s1 q=>?_
 obtain⟨rfl,rfl⟩:=q
 have e0:(s.heap.push (qc0 #[] 0)).get? s.heap.objs.size=some (qc0 #[] 0):=Heap.get?_push_size _ rfl
 have up:∀b o,s.heap.get? b=some o→(s.heap.push (qc0 #[] 0)).get? b=some o:=fun b o e=>Heap.get?_push_of_some _ e
 have ni:s.heap.objs.size≠it:=fun z=>by
  obtain⟨o,ho,_⟩:=hit
  exact absurd (Heap.lt_size ho) (by rw [z];exact Nat.lt_irrefl _)
 have nl:s.heap.objs.size≠l:=fun z=>by
  obtain⟨o,ho,_⟩:=hl
  exact absurd (Heap.lt_size ho) (by rw [z];exact Nat.lt_irrefl _)
 refine⟨⟨_,e0,rfl⟩,F.args_list_init_2 _ _,?_⟩
 show wpAny _ _ (do let old←Builtin.List.listItems (.ref s.heap.objs.size);Builtin.List.listUpdate (.ref s.heap.objs.size) (fun _=>#[]);letGo old.toList.reverse;Builtin.List.listExtendWith (.ref s.heap.objs.size) (.ref it) .none) _ _ _
 refine wpAny_bind ?_
 unfold Builtin.List.listItems
 refine wpAny_bind (wpAny_seqItems e0 rfl (wpAny_pure ?_))
 show wpAny _ _ (updateSeq s.heap.objs.size (fun _=>#[]) >>= fun _=>letGo (#[]:Array Value).toList.reverse >>= fun _=>Builtin.List.listExtendWith (.ref s.heap.objs.size) (.ref it) .none) _ _ _
 refine wpAny_bind (wpAny_updateSeq e0 rfl ?_)
 have e1:=Heap.get?_update_self (Obj.mapSeq (fun _=>(#[]:Array Value))) e0 rfl
 have oth:∀b o,b≠s.heap.objs.size→s.heap.get? b=some o→((s.heap.push (qc0 #[] 0)).update s.heap.objs.size (Obj.mapSeq (fun _=>(#[]:Array Value)))).get? b=some o:=
  fun b o hb e=>(Heap.get?_update_other _ _ (Ne.symm hb)).trans (up b o e)
 refine wpAny_bind (wpAny_letGo ?_)
 refine extend_back calm (hl.at fun o e=>oth _ o nl.symm e) (hit.at fun o e=>oth _ o ni.symm e) li ni nl e1 hz fun h' tk acc c kp e2 hb=>?_
 refine⟨rfl,fin h' tk acc c (fun b o n e=>kp b o ?_ n (oth b o ?_ e)) e2 hb⟩
 ·exact Nat.ne_of_lt (Heap.lt_size e)
 ·exact Nat.ne_of_lt (Heap.lt_size e)
end
section
variable {X : Cx}
def kLr (K:Frag) (Q:VK) (vs:List V) (H1:Hp):Prop:=∃p ys,vs=[.ref p]∧SqL K H1 p ys∧∀l,H1 l=none→Q (.ref l) (upd H1 l (.lst ys.reverse))
def tListRev (K:Frag) (ta:TA):TE:=fun σ H Q=>ta σ H fun vs H1=>kLr K Q vs H1
theorem vals_back {ys:List V} {us:List Value} {acc:Array Value} (r:qb9 ys us) (h:BackOf us.toArray acc):qb9 ys.reverse acc.toList:=by
 have hn:us.toArray.size=us.length:=by simp
 have e:acc.toList=us.reverse:=by
  refine List.ext_getElem? fun i=>?_
  have hs:acc.size=us.length:=by rw [h.1,hn]
  by_cases hi:i < us.length
  ·have hi':i < acc.size:=by omega
   have q:=h.2 i acc[i] (by rw [Array.getElem?_eq_getElem hi'])
   rw [List.getElem?_reverse hi]
   rw [hn] at q
   have q2:us[us.length - 1 - i]?=some acc[i]:=by simpa using q
   rw [q2,Array.getElem?_toList,Array.getElem?_eq_getElem hi']
  ·rw [yG (by simp;omega),yG (by simp;omega)]
 rw [e]
 exact r.reverse
theorem qfg {a:Expr} {ta:TA} {p p2 pos pos2:Pos} (calm:X.calm=true) (hgl:Gl X "list") (hml:X.mg "list" =none) (hg:Gl X "reversed") (hm:X.mg "reversed" =none) (ha:PA X [a] ta) (hs:starEach [a] X.env=[(false,eval a X.env)]:=by rfl)
  (he:starEach [Expr.Call (.Name "reversed" p2) [a] [] pos2] X.env=[(false,eval (.Call (.Name "reversed" p2) [a] [] pos2) X.env)]:=by rfl):
  PE X (.Call (.Name "list" p) [.Call (.Name "reversed" p2) [a] [] pos2] [] pos) (tListRev X.K ta):=by
 intro pins s σ H Q I h
 refine wpAny_Call_Name_kw (qe2 I hgl hml PyProof.Rows.boot_list ?_)
 refine PyProof.Rows.callWith_type1 ?_ he rfl
 rw [he]
 refine Calls.spliced_cons ?_
 refine Call_ (qe2 I hg hm qg8 (PyProof.Rows.callWith_type1 (thn (ha pos2 pins s σ H _ I h) fun us s1 ⟨vs,H1,I1,r1,q1⟩=>?_) hs rfl))
 obtain⟨b,ys,rfl,hb,q⟩:=q1
 obtain⟨x,rfl,rx⟩:=r1.one
 cases rx
 obtain⟨ws,r2,p2,hz⟩:=I1.list hb
 have hL:s1.heap.IsList b ws.toArray:=PlainL.isList p2
 refine call_reversed_list hL ?_
 refine Calls.spliced_nil ?_
 have hlt:b < s1.heap.objs.size:=by obtain⟨o,ho,_⟩:=hL;exact Heap.lt_size ho
 have hL2:(s1.heap.push (revObj b ((ws.toArray.size:Int) - 1))).IsList b ws.toArray:=hL.at fun o e=>Heap.get?_push_of_some _ e
 refine call_listRev (its:=ws.toArray) (I1.ok.hd calm) hL2 ⟨_,Heap.get?_push_size _ rfl,rfl,rfl⟩ (Nat.ne_of_lt hlt) (by rw [zP,←r2.length];exact hz) fun h' tk acc c kp e2 hbk=>?_
 have hD:s1.heap.objs.size≤(s1.heap.push (revObj b ((ws.toArray.size:Int) - 1))).objs.size:=by simp [Heap.push]
 refine⟨.ref (s1.heap.push (revObj b ((ws.toArray.size:Int) - 1))).objs.size,_,I1.laid (t':=tk) (fun d o e=>kp d o (Nat.ne_of_lt (Heap.lt_size e)) (Heap.get?_push_of_some _ e)) hD (show qbi X.prog X.w _ h' _ (.lst ys.reverse) from⟨by rw [List.length_reverse];exact hz,acc.toList,c,vals_back r2 hbk,?_⟩),rfl,q _ (I1.hok.fresh hD)⟩
 exact e2
end
section
variable {K : Frag} {σ : L2.St} {H : Hp} {Q : VK} {ta : TA} {p : Addr} {ys : List V}
theorem r_lrev (h:ta σ H fun vs H1=>kLr K Q vs H1):tListRev K ta σ H Q:=h
theorem r_lrevk (e:SqL K H p ys) (h:∀l,H l=none→Q (.ref l) (upd H l (.lst ys.reverse))):kLr K Q [.ref p] H:=⟨p,ys,rfl,e,h⟩
end
section
variable {prog : Program} {w : World} {A : Around} {E : Value → Shared → Prop}
theorem drawL {j l:Addr} {xs:List Value} (ne:l≠j):∀(todo:List Value) (i:Nat) (s:Shared) (Q:List Value→Shared→Prop),xs.drop i=todo→s.heap.IsListIter j l i→s.heap.IsList l xs.toArray→
  (∀h',h'.IsListIter j l (i+todo.length)→(∀b o,b≠j→s.heap.get? b=some o→h'.get? b=some o)→Q todo {s with heap:=h'})→wpAny (model prog w) A (draw (.ref j) todo.length) Q E s
 | [],i,s,Q,_,st,_,q=>by
  show wpAny _ _ (pure []) _ _ _
  exact wpAny_pure (q s.heap st fun _ _ _ e=>e)
 |x :: todo,i,s,Q,hd,st,hl,q=>by
  have hx:xs[i]?=some x:=by
   have z:=congrArg (fun l=>l[0]?) hd
   simpa using z
  have hd2:xs.drop (i+1)=todo:=by
   have z:=congrArg (List.drop 1) hd
   simpa [List.drop_drop] using z
  show wpAny _ _ (pyNext (.ref j) >>= _) _ _ _
  refine wpAny_bind (wpAny_pyNext_list_item st hl (x:=x) (by simpa using hx) fun h1 st1 sb=>?_)
  have kp:∀b o,b≠j→s.heap.get? b=some o→h1.get? b=some o:=fun b o hb e=>(sb.2 b hb).trans e
  refine wpAny_bind (wpAny_holding (drawL ne todo (i+1) _ _ hd2 st1 (hl.at fun o e=>kp _ o ne e) fun h2 st2 kp2=>wpAny_pure ?_))
  refine q h2 ?_ fun b o hb e=>kp2 b o hb (kp b o hb e)
  rw [zM,show i+(todo.length+1)=i+1+todo.length by omega]
  exact st2
theorem assignL {s:Shared} {env:Env} {elts:List Expr} {x1} {pos:Pos} {l:Addr} {xs:List Value} {Q:Unit→Shared→Prop} (calm:A.handled=none) (hl:s.heap.IsList l xs.toArray) (hn:(assignEach elts env).length=xs.length) (hst:(assignEach elts env).findIdx? (·.1)=none)
  (q:∀h',(∀b o,s.heap.get? b=some o→h'.get? b=some o)→wpAny (model prog w) A (assignInOrder ((assignEach elts env).map (·.2)) xs) Q E {s with heap:=h'}):wpAny (model prog w) A (assign (.Tuple elts x1 pos) env (.ref l)) Q E s:=by
 have ne:l≠s.heap.objs.size:=by obtain⟨o,ho,_⟩:=hl;exact Nat.ne_of_lt (Heap.lt_size ho)
 rw [assign_Tuple]
 refine wpAny_bind (wpAny_standAt ?_)
 unfold unpack
 rw [hn,hst]
 refine wpAny_bind (wpAny_holding ?_)
 unfold unpackItems notIterableAtAll
 refine wpAny_bind (wpAny_bind (wpAny_specialOf hl.typeIs F.slot_list_iter.lookup (wpAny_pure ?_)))
 simp only [Bool.false_eq_true,if_false]
 have hl1:(s.heap.push {cls:=.type "list_iterator",data:=.fields #[.ref l,.int 0 0]}).IsList l xs.toArray:=hl.at fun o e=>Heap.get?_push_of_some _ e
 refine wpAny_bind (wpAny_holding (wpAny_pyIter_list hl (wpAny_bind (wpAny_holding (drawL ne xs 0 _ _ (by simp) ⟨_,Heap.get?_push_size _ rfl,rfl,rfl⟩ hl1 fun h1 st1 kp=>?_)))))
 rw [if_neg (Nat.lt_irrefl _)]
 refine wpAny_bind (wpAny_holding (wpAny_pyNext_list_end calm st1 (hl1.at fun o e=>kp _ o ne e) (by simp) fun h2 kp2=>?_))
 simp only [Option.isSome_none,Bool.false_eq_true,if_false]
 refine wpAny_pure (q h2 fun b o e=>?_)
 have nb:b≠s.heap.objs.size:=Nat.ne_of_lt (Heap.lt_size e)
 exact kp2 b o nb (kp b o nb (Heap.get?_push_of_some _ e))
end
section
variable {X : Cx} {pos : Pos}
def gLst (K:Frag) (n:Nat) (t:TGs):TG:=fun v σ H Q=>∃a xs,v=.ref a∧SqL K H a xs∧xs.length=n∧t xs σ H Q
theorem pg_lst {es:List Expr} {k:Nat} {t:TGs} {n:Nat} (hc:X.calm=true) (h:PGs X es t) (hn:(assignEach es X.env).length=n:=by rfl) (hst:(assignEach es X.env).findIdx? (·.1)=none:=by rfl):PG X (.Tuple es k pos) (gLst X.K n t):=by
 intro pins s σ H v u Q I r hw
 obtain⟨a,xs,rfl,hq,hl,hw⟩:=hw
 cases r
 obtain⟨ws,rv,pl,_⟩:=I.list hq
 refine assignL (I.ok.hd hc) (PlainL.isList pl) (by rw [hn,←hl,rv.length]) hst fun h' kp=>?_
 exact h pins _ σ H xs _ Q (I.kept (t':=s.toks) kp) rv hw
end
theorem r_glst {K:Frag} {σ:L2.St} {H:Hp} {a:Addr} {xs:List V} {n:Nat} {t:TGs} {Q:L2.St→Hp→Prop} (s:SqL K H a xs) (hn:xs.length=n) (h:t xs σ H Q):gLst K n t (.ref a) σ H Q:=⟨a,xs,rfl,s,hn,h⟩
def kDs (p:Addr) (Q:VK) (x y:V) (H2:Hp):Prop:=H2 p=some (.dK [])∧∃kvs:List (Key × V), [(x,y)]=kvs.map (fun kv=>(kV kv.1,kv.2))∧kvs.length≤15∧Q (.ref p) (upd H2 p (.dK (qfh [] kvs)))
theorem r_disp1 {σ:L2.St} {H:Hp} {Q:VK} {tk tv:TE} (h:∀p,H p=none→tk σ (upd H p (.dK [])) fun x H1=>tv σ H1 fun y H2=>kDs p Q x y H2):tDisp [(tk,tv)] σ H Q:=fun p hp=>h p hp
theorem r_ds {H:Hp} {Q:VK} {p:Addr} {z:Str} {y:V} (e:H p=some (.dK [])) (h:Q (.ref p) (upd H p (.dK [(Sum.inr z,y)]))):kDs p Q (.str z) y H:=⟨e, [(Sum.inr z,y)],rfl,Nat.le_of_ble_eq_true rfl,h⟩
section
variable {P : Program} {w : World} {K : Frag} {mg : Str → Option Value} {base : Heap} {x qual : Str} {st : Stmt} {f T : Addr} {fd : FuncData} {N ps : List Str} {k : Nat} {sp : Sp} {items : Array Value}
theorem okDX (F:FunD K x qual st f fd T items) (S:FnScope N ps (qab st)) (len:∀vs H Q E,sp vs H Q E→vs.length=ps.length)
  (hbody:∀(cdv:Value) (A:Around) (outer:List Env) (s:Shared) (H:Hp) (vs:List V) (Q:VK) (E:XK),Room k (A.deeper (envOfC qual (qab st) s.heap.objs.size f cdv))→sp vs H Q E→
   ∃t,PSs (xw (cxOf (CX1 P w) P w K mg base N qual (qab st) f cdv A outer s H E) (fun _=>E)) (qbt st) t∧t {nx:=fun _ H'=>Q .non H',rt:=Q} (qee N vs) H):FnOk P w K mg base (CX1 P w) (k+1) f fd ps sp:=by
 obtain⟨oc,od,kV,doc,pm,an,cdv,ct,osl,rfl,lk,hcd⟩:=F.ex
 refine fn_of lk hcd S len fun A outer s H vs Q E hr hsp=>?_
 obtain⟨t,ht,q⟩:=hbody cdv A outer s H vs Q E hr hsp
 exact⟨t,PSs.xes xes_fn ht,q⟩
theorem funD_mk {oc:Value} {od an:Option Addr} {osl:Array (Option Value)} {kV doc pm cdv ct:Value} {o:Obj} {n:Nat} (l:K.lookup f=some ⟨oc,od,.func (fnOf x qual (qcg st) (qbt st) (qab st) (.ref T) kV doc pm an cdv ct),osl⟩)
  (c:codeIn K cdv qual=true) (kp:keepIn K (.ref f)=true) (t:K.lookup T=some o) (hd:o.data=.seq items n):FunD K x qual st f (fnOf x qual (qcg st) (qbt st) (qab st) (.ref T) kV doc pm an cdv ct) T items:=
 ⟨⟨oc,od,kV,doc,pm,an,cdv,ct,osl,rfl,l,c⟩,kp,o,n,t,hd⟩
end
def oK (hs:List (Str × Addr)):List (Key × V):=hs.map fun p=>(Sum.inr p.1,.ref p.2)
def qde:List (Str × Addr)→Str→Option Addr
 | [],_=>none
 |p :: r,z=>if p.1=z then some p.2 else qde r z
theorem qfn (z:Str):∀hs:List (Str × Addr),qcp (oK hs) (Sum.inr z)=(qde hs z).map V.ref
 | []=>rfl
 |p :: r=>by
  have ih:=qfn z r
  unfold qcp oK at ih ⊢
  rw [zS,yM]
  by_cases h:p.1=z
  ·have e:decide ((Sum.inr p.1:Key)=Sum.inr z)=true:=by rw [h];exact decide_eq_true rfl
   simp only [e,qde,if_pos h]
   rfl
  ·have e:decide ((Sum.inr p.1:Key)=Sum.inr z)=false:=decide_eq_false fun q=>h (Sum.inr.inj q)
   simp only [e,qde,if_neg h]
   exact ih
theorem qfi {z:Str}:∀{hs:List (Str × Addr)},qde hs z=none↔z∉hs.map (·.1)
 | []=>by simp [qde]
 |p :: r=>by
  have ih:=qfi (z:=z) (hs:=r)
  unfold qde
  by_cases q:p.1=z
  ·rw [if_pos q]
   simp [q]
  ·rw [if_neg q,ih]
   simp [Ne.symm q,fun e:z=p.1=>q e.symm]
theorem lookO_of {z:Str} {h:Addr}:∀{hs:List (Str × Addr)},(hs.map (·.1)).Nodup→(z,h)∈hs→qde hs z=some h
 |p :: r,nd,m=>by
  rw [zS,zX] at nd
  unfold qde
  rcases zR.mp m with e|e
  ·rw [←e,if_pos rfl]
  ·have q:p.1≠z:=fun q=>nd.1 (by rw [q];exact zL.mpr ⟨(z,h),e,rfl⟩)
   rw [if_neg q]
   exact lookO_of nd.2 e
theorem putK_oK {hs:List (Str × Addr)} {z:Str} {h:Addr} (n:qde hs z=none):qdm (oK hs) (Sum.inr z) (.ref h)=oK (hs++ [(z,h)]):=by
 have hn:=qfi.mp n
 have e:((oK hs).any fun kv=>decide (kv.1=Sum.inr z))=false:=by
  rw [List.any_eq_false]
  intro kv hkv
  obtain⟨p,hp,rfl⟩:=zL.mp hkv
  intro q
  have q':=Sum.inr.inj (of_decide_eq_true q)
  exact hn (zL.mpr ⟨p,hp,q'⟩)
 unfold qdm
 rw [if_neg (by rw [e];decide)]
 unfold oK
 rw [zE];rfl
section
variable {K : Frag} {σ : L2.St} {H H' : Hp} {Q : VK} {D : Ends} {a h : Addr} {hs : List (Str × Addr)} {z : Str}
theorem r_diO (d:Rd H a (.dK (oK hs))) (q:Q (.bl (qde hs z).isSome) H):rDI (.ref a) (.str z) H Q:=by
 refine⟨a,qcp (oK hs) (Sum.inr z),rfl,.inl ⟨_,Sum.inr z,d,rfl,rfl⟩,?_⟩
 rw [qfn,Option.isSome_map]
 exact q
theorem r_dgO (d:Rd H a (.dK (oK hs))) (e:qde hs z=some h) (q:Q (.ref h) H):rDGk (.ref a) (.str z) H Q:=
 ⟨a,.ref h,rfl,.inl ⟨_,Sum.inr z,d,rfl,by rw [qfn,e];rfl⟩,q⟩
end
end My
set_option exponentiation.threshold 2000
namespace My
open PySem PySem.Spec PyProof.Rows L2
section
variable {X : Cx}
end
section
variable {σ : L2.St} {H : Hp} {Q : VK} {te : TE} {i : Int}
end
end My
set_option maxHeartbeats 3200000
namespace My
open PySem PySem.Spec PyProof.Rows L2
section
variable {P : Program} {w : World} {A : Around}
theorem sk_is (z:Str) (t:Tok):(strKind P w).is z (.str z t)=true:=by
 show Value.isStrOf z (.str z t)=true
 simp [Value.isStrOf]
theorem take_in {zs:List Str} {i:Nat} {z:Str} (nd:zs.Nodup) (h:zs[i]?=some z):(zs.take i).contains z=false:=by
 rw [←Bool.not_eq_true,List.contains_iff_mem]
 intro m
 obtain⟨j,hj,e⟩:=zK.mp m
 obtain⟨hi,e2⟩:=List.getElem?_eq_some_iff.mp h
 rw [zT] at hj
 rw [List.getElem_take] at e
 exact(zZ.mp nd) j i (by omega) hi (by omega) (by rw [e,e2])
theorem take_next {zs:List Str} {i:Nat} {z:Str} (h:zs[i]?=some z) (y:Str):((zs.take i).contains y || decide (y=z))=(zs.take (i+1)).contains y:=by
 rw [zQ,h,Bool.eq_iff_iff,Bool.or_eq_true,List.contains_iff_mem,List.contains_iff_mem,zN,decide_eq_true_iff]
 simp
theorem setT_loop {R:Result→Shared→Prop} {it c:Addr} {fp wr:List Addr} {G:Array GenState→Array GenState→Prop} {zs:List Str} {pv:Nat→Value→Prop} {St:Nat→Shared→Prop}
  (W:WalksS P w A.in1 it fp wr G zs.length pv St) (hc:c∉fp) (nd:zs.Nodup) (hv:∀i v,pv i v→∃z t,zs[i]?=some z∧v=.str z t) (hb:zs.length+1 < scanBound):
  ∀(k i:Nat) (s:Shared),zs.length - i=k→i≤zs.length→St i s→s.heap.SetOf (strKind P w) c (fun y=>(zs.take i).contains y) i→
   (∀s',Moved (c :: wr) G s s'→s'.heap.SetOf (strKind P w) c (fun y=>(zs.take zs.length).contains y) zs.length→R (.ok (.ret .none)) s')→
   codeAny (model P w) A (.builtin "set.update.loop" ⟨[.ref c,.ref it], []⟩) R s:=by
 have cw:c∉wr:=fun h=>hc (W.sub _ h)
 have stays:∀{n:Nat} {S:Str→Bool} {s s':Shared},Moved wr G s s'→s.heap.SetOf (strKind P w) c S n→s'.heap.SetOf (strKind P w) c S n:=fun hm hS=>by
  obtain⟨o,es,ep,t,ho,rest⟩:=hS
  exact⟨o,es,ep,t,hm.heap c _ cw ho,rest⟩
 intro k
 induction k with
 |zero=>
  intro i s hk hi st hS hR
  have e:i=zs.length:=by omega
  subst e
  refine codeAny_builtin PyProof.Rows.F.entry_set_update_loop ?_
  rw [Around.under_plainId PyProof.Rows.F.plain_set_update_loop]
  show wpAny _ _ (pyNext (.ref it) >>= _) _ _ _
  refine wpAny_bind (W.done s _ _ st fun s1 hm=>?_)
  exact wpAny_pure (hR s1 (hm.mono fun b h=>zF _ h) (stays hm hS))
 |succ k ih=>
  intro i s hk hi st hS hR
  have lt:i < zs.length:=by omega
  refine codeAny_builtin PyProof.Rows.F.entry_set_update_loop ?_
  rw [Around.under_plainId PyProof.Rows.F.plain_set_update_loop]
  show wpAny _ _ (pyNext (.ref it) >>= _) _ _ _
  refine wpAny_bind (W.item i s _ _ lt st fun v s1 hp st1 hm=>?_)
  obtain⟨z,t,hz,rfl⟩:=hv i v hp
  have S1:=stays hm hS
  show wpAny _ _ (holding [Value.str z t] (setAdd c (.str z t)) >>= _) _ _ _
  refine wpAny_bind (wpAny_holding ?_)
  unfold setAdd
  refine wpAny_holding (wpAny_bind ((strKind P w).pyHash (k:=z) (sk_is z t) ?_))
  refine wpAny_setAddHashed_of (knd:=strKind P w) (s:={s1 with toks:=s1.toks+1}) (sk_is z t) rfl S1 (by omega) fun h2 sb S2=>?_
  have S3:h2.SetOf (strKind P w) c (fun y=>(zs.take (i+1)).contains y) (i+1):=SetOf_congr S2 (take_next hz) (by simp only [take_in nd hz];rfl)
  refine wpAny_pure ⟨plainId_quiet PyProof.Rows.F.plain_set_update_loop _,ih (i+1) _ (by omega) lt (W.frame _ s1 _ _ st1 (Nat.le_succ _) fun b h o e=>?_) S3 fun s4 hm4 S4=>?_⟩
  ·rw [sb.2 b fun q=>hc (q ▸ h)];exact e
  ·refine hR s4 (Moved.trans W.gtrans ((hm.mono fun b h=>zF _ h).then_heap (Nat.le_succ _) fun b o h e=>?_) hm4) S4
   rw [sb.2 b fun q=>h (q ▸ zI)];exact e
abbrev setO (led:Bool):Obj:={cls:=.type "set",dict:=none,data:=.set #[] 0 (.fresh 0 0 led)}
theorem setT_call {E:Value→Shared→Prop} {s:Shared} {l:Addr} {items:Array Value} {zs:List Str} {Q:Value→Shared→Prop} (hh:A.handled=none) (hl:s.heap.IsList l items) (hi:StrsAre items.toList zs) (nd:zs.Nodup) (hb:zs.length+1 < scanBound)
  (h:∀(h':Heap) (tk:Nat),h'.SetOf (strKind P w) s.heap.objs.size (fun y=>(zs.take zs.length).contains y) zs.length→(∀b o,b < s.heap.objs.size→s.heap.get? b=some o→h'.get? b=some o)→Q (.ref s.heap.objs.size) {s with heap:=h',toks:=tk}):
  wpAny (model P w) A (call (.type "set") [.ref l]) Q E s:=by
 obtain⟨c,tl,hmro⟩:=PySem.F.called_set.mro
 have hmade:=PySem.F.called_set.made
 have hsub:=PySem.F.called_set.sub
 refine wpAny_call (codeAny_of_tree ?_)
 show wpAny _ _ (callAny (.type "set") _) _ _ _
 refine wpAny_pure ⟨Code.quiet_builtin _ (by decide+kernel),codeAny_builtin PySem.F.entry_type_call ?_⟩
 rw [Around.under_plain (weight_type_call_type "set" [.ref l] []) rfl]
 have h1:=PySem.F.called_set.notType
 have h2:=PySem.F.called_set.canCreate
 have hct:=PySem.F.typeCall_set_1 (.ref l)
 repeat any_goals first|assumption|wp_step
 refine codeAny_mono (code_set_new_1 (.ref l) (E:=E) (Q₁:=fun x s1=>∃led:Bool,x=.ref s.heap.objs.size∧s1={s with heap:=s.heap.push (setO led)}) fun led=>⟨led,rfl,rfl⟩) fun r s1 hr=>?_
 cases r with
 |error e=>exact hr
 |ok fl=>
  cases fl with
  |ret obj=>
   obtain⟨led,rfl,rfl⟩:=hr
   have hS:(s.heap.push (setO led)).get? s.heap.objs.size=some (setO led):=Heap.get?_push_size _ rfl
   have hT:Shared.TypeIs {s with heap:=s.heap.push (setO led)} (.ref s.heap.objs.size) "set":=⟨_,hS,rfl⟩
   have hli:=PySem.F.called_set.init.lookup
   have hbi:=PySem.F.called_set.init.bind (.ref s.heap.objs.size)
   repeat any_goals first|assumption|wp_step
   refine codeAny_mono (codeAny_call_builtin (R:=wants (fun x s2=>x=.none∧∃h' tk,s2={s with heap:=h',toks:=tk}∧h'.SetOf (strKind P w) s.heap.objs.size (fun y=>(zs.take zs.length).contains y) zs.length∧(∀b o,b < s.heap.objs.size→s.heap.get? b=some o→h'.get? b=some o)) E) PySem.F.called_set.init.plain PySem.F.entry_set_init (check_set_init_1 hT ?_)) fun r2 s2 hr2=>?_
   ·obtain⟨ol,hol,hcl,nl,hdl⟩:=hl
    obtain⟨ocls,odict,odata,oslots⟩:=ol
    dsimp only at hcl hdl
    subst hcl hdl
    have hol':=Heap.get?_push_of_some (setO led) hol
    have q1:=PySem.F.sub_list_set
    have q2:=PySem.F.sub_list_frozenset
    have q3:(Value.type "list" ==Value.type "dict")=false:=by decide
    have hl1:(s.heap.push (setO led)).IsList l items:=⟨_,hol',rfl,nl,rfl⟩
    unfold Builtin.«set.__init__» noKeywords Builtin.Frozenset.updateFrom
    generalize hPI:pyIter=PI
    wp_walk
    subst hPI
    refine wpAny_pyIter_list hl1 (wpAny_bind (wpAny_runValue ?_))
    have lS:l < s.heap.objs.size:=Heap.lt_size hol
    have h3:A.in1.in1.in1.handled=none:=by simp [hh]
    have nI:l≠(s.heap.push (setO led)).objs.size:=by
     rw [Heap.size_push];exact Nat.ne_of_lt (Nat.lt_succ_of_lt lS)
    have nS:s.heap.objs.size∉ [(s.heap.push (setO led)).objs.size,l]:=by
     rw [Heap.size_push]
     intro z
     simp only [zR,yL,or_false] at z
     rcases z with z|z
     ·exact absurd z (Nat.ne_of_lt (Nat.lt_succ_self _))
     ·rw [z] at lS;exact Nat.lt_irrefl _ lS
    have ez:items.size=zs.length:=by
     have:=hi.length
     simpa using this
    have W:WalksS P w A.in1.in1.in1 _ _ _ _ items.size _ _:=(Walks.list h3 _ l nI items).toS
    rw [ez] at W
    refine setT_loop (zs:=zs) W nS nd (fun i v hv=>?_) hb (zs.length - 0) 0 _ (by omega) (Nat.zero_le _) ⟨⟨_,Heap.get?_push_size _ rfl,rfl,rfl⟩,hl1.push _⟩ ?_ ?_
    ·obtain⟨y,t,e1,e2⟩:=hi.item i v (by rw [Array.getElem?_toList];exact hv)
     exact⟨y,t,e2,e1⟩
    ·have hget:=Heap.get?_push_of_some {cls:=.type "list_iterator",data:=.fields #[.ref l,.int 0 0]} hS
     exact SetOf_congr ((setObjOf_fresh (knd:=strKind P w) led).setOf hget (by unfold scanBound;omega)) (fun _=>rfl) rfl
    ·intro s4 hm hS4
     obtain⟨h4,g4,d4,tk4,os4⟩:=s4
     have eg:g4=s.gens:=hm.gens
     have ed:d4=s.drawn:=hm.drawn
     have eo:os4=s.os:=hm.os
     subst eg ed eo
     refine wpAny_pure ?_
     refine wpAny_pure ⟨rfl,h4,tk4,rfl,hS4,fun b o hb' e=>?_⟩
     refine hm.heap b o (fun z=>?_) (Heap.get?_push_of_some _ (Heap.get?_push_of_some _ e))
     rw [Heap.size_push] at z
     simp only [zR,yL,or_false] at z
     rcases z with z|z
     ·rw [z] at hb';exact Nat.lt_irrefl _ hb'
     ·rw [z] at hb';exact Nat.lt_irrefl _ (Nat.lt_trans (Nat.lt_succ_self _) hb')
   ·cases r2 with
    |error e=>exact hr2
    |ok fl2=>
     cases fl2 with
     |ret r=>
      obtain⟨rfl,h',tk,rfl,hS',hk'⟩:=hr2
      repeat any_goals first|assumption|wp_step
      exact h _ _ hS' hk'
     |next=>exact hr2.elim
     |brk=>exact hr2.elim
     |cont=>exact hr2.elim
  |next=>exact hr.elim
  |brk=>exact hr.elim
  |cont=>exact hr.elim
end
def SetT (P:Program) (w:World) (c:Addr) (n:Nat):HO:=.ext fun h=>∃S,h.SetOf (strKind P w) c S n
def rSetT (P:Program) (w:World) (K:Frag):List V→Hp→VK→Prop:=fun xs H Q=>∃(p:Addr) (zs:List Str),xs=[.ref p]∧SqL K H p (zs.map V.str)∧zs.Nodup∧zs.length≤60∧∀c,H c=none→Q (.ref c) (upd H c (SetT P w c zs.length))
def rLenT (P:Program) (w:World):List V→Hp→VK→Prop:=fun xs H Q=>∃c n,xs=[.ref c]∧H c=some (SetT P w c n)∧Q (.int n) H
section
variable {X : Cx}
theorem call_setT (hc:X.calm=true:=by rfl):qcd X (.type "set") (rSetT X.prog X.w X.K):=by
 intro pins s σ H xs us Q I hv h
 obtain⟨p,zs,rfl,hS,nd,hz,q⟩:=h
 obtain⟨u,rfl,ru⟩:=hv.one
 cases ru
 obtain⟨its,rv,pl,hz'⟩:=I.list hS
 refine setT_call (I.ok.hd hc) (PlainL.isList pl) (zs:=zs) (by simpa using qfu rv) nd (by unfold scanBound;omega) fun h' tk hT hk=>?_
 have hg:=hT
 obtain⟨o,es,ep,t,ho,_⟩:=hg
 exact⟨.ref _,_,I.laid (a:=s.heap.objs.size) (o:=SetT X.prog X.w s.heap.objs.size zs.length) (t':=tk) (fun b ob e=>hk b ob (Heap.lt_size e) e) (Nat.le_refl _) ⟨⟨_,hT⟩,⟨o,ho⟩,fun h1 h2 ⟨S,o1,r1,r2,r3,e1,rest⟩ k=>⟨S,o1,r1,r2,r3,k _ e1,rest⟩⟩,rfl,q _ (I.hok.fresh (Nat.le_refl _))⟩
theorem call_lenT:qcd X (.builtin "len") (rLenT X.prog X.w):=by
 intro pins s σ H xs us Q I hv h
 obtain⟨c,n,rfl,e,q⟩:=h
 obtain⟨u,rfl,ru⟩:=hv.one
 cases ru
 obtain⟨⟨S,o,es,ep,t,ho,hx,hd,_,_,hb,hf,rfl⟩,_⟩:=I.hok c _ e
 refine call_len_set ho hx hd hf (by unfold scanBound at hb;omega) ⟨.int es.size,H,I.tok _,⟨_,rfl⟩,q⟩
end
section
variable {P : Program} {w : World} {K : Frag} {H : Hp} {Q : VK}
theorem r_setT {p:Addr} {zs:List Str} (hS:SqL K H p (zs.map V.str)) (nd:zs.Nodup) (hz:zs.length≤60) (h:∀c,H c=none→Q (.ref c) (upd H c (SetT P w c zs.length))):rSetT P w K [.ref p] H Q:=⟨p,zs,rfl,hS,nd,hz,h⟩
theorem r_lenT2 {c:Addr} {n:Nat} (e:H c=some (SetT P w c n)) (h:Q (.int n) H):rLenT P w [.ref c] H Q:=⟨c,n,rfl,e,h⟩
end
def rLenD:List V→Hp→VK→Prop:=fun xs H Q=>∃a kvs,xs=[V.ref a]∧H a=some (.dK kvs)∧Q (.int kvs.length) H
theorem call_lenDD {X:Cx}:qcd X (.builtin "len") rLenD:=L2.call_lenD
theorem r_lenD {H:Hp} {Q:VK} {a:Addr} {kvs:List (Key × V)} (e:H a=some (.dK kvs)) (h:Q (.int kvs.length) H):rLenD [.ref a] H Q:=⟨a,kvs,rfl,e,h⟩
end My
set_option maxHeartbeats 1000000
namespace My
open PySem PySem.Spec PyProof.Rows L2
section
variable {X : Cx}
end
section
variable {σ : L2.St} {H : Hp} {D : Ends} {g : TG} {tb : TS} {tl : TE} {a : Addr} {o : Obj} {kvs : List (Key × V)} {Q : VK}
end
section
variable {X : Cx}
end
section
variable {X : Cx}
end
section
variable {σ : L2.St} {H : Hp} {tl : TE} {a : Addr} {kvs : List (Key × V)} {Q : VK}
end
end My
namespace My
open PySem PySem.Spec PyProof.Rows L2 PyProof
section
variable {X : Cx}
end
end My
namespace My
open PySem PySem.Spec PyProof.Rows L2
section
variable {X : Cx}
end
section
variable {X : Cx}
inductive OddV (K:Frag) (H:Hp):V→Prop
 |non:OddV K H .non
 |bl (b:Bool):OddV K H (.bl b)
 |int (i:Int):OddV K H (.int i)
 |lst {a:Addr} {xs:List V} (h:SqL K H a xs):OddV K H (.ref a)
 |tup {a:Addr} {xs:List V} (h:SqT K H a xs):OddV K H (.ref a)
 |dct {a:Addr} {kvs:List (Key × V)} (h:H a=some (.dK kvs)):OddV K H (.ref a)
end
section
variable {K : Frag} {H : Hp} {Q : VK}
theorem qex {y:Str}:∀nm:List Str,inV (.str y) (nm.map V.str)=decide (y∈nm)
 | []=>rfl
 |z :: r=>by
  have ih:=qex (y:=y) r
  unfold inV at ih ⊢
  rw [zS,yW,ih]
  by_cases c:z=y
  ·subst c
   rw [show eqV (V.str z) (V.str z)=true from beq_self_eq_true z,decide_eq_true (zI ..)]
   rfl
  ·rw [show eqV (V.str z) (V.str y)=false from beq_false_of_ne c,Bool.false_or]
   by_cases m:y∈r
   ·rw [decide_eq_true m,decide_eq_true (zF _ m)]
   ·rw [decide_eq_false m,decide_eq_false fun h=>(zR.mp h).elim (fun e=>c e.symm) m]
theorem flat_strs (nm:List Str):(nm.map V.str).all qdn=true:=by
 rw [List.all_map]
 exact yE.mpr fun _ _=>rfl
theorem r_inSs {p:Addr} {y:Str} {nm:List Str} (h:SqL K H p (nm.map V.str)) (q:Q (.bl (decide (y∈nm))) H):rIn K false (.str y) (.ref p) H Q:=⟨p,_,rfl,.inl h,rfl,flat_strs nm,by rw [qex];exact q⟩
end
def ItrS (lo:Int) (n:Nat):It:=⟨fun i _=>i < n,fun i H x H'=>H'=H∧x=.int (lo+i*2),fun i _=>n≤i⟩
theorem turn_rngS {P:Program} {w:World} {K:Frag} {tg:Expr} (it:Addr) (lo:Int) (n:Nat):Turn P w K tg (ItrS lo n) [it] it (fun i h=>IsRangeIter h it (lo+(i:Nat)*2) ((n:Int) - (i:Nat)) 2) where
 mem:=by simp
 obj:=fun i h st b hb=>by
  have e:b=it:=by simpa using hb
  subst e
  exact⟨_,st,fun v z=>by have z':Data.fields _=Data.cell v:=z;cases z'⟩
 keep:=fun i h h' st k=>k it (by simp) _ st
 item:=by
  intro X hP hw hK hc i pins s σ H E I hf st hg
  subst hP hw hK
  obtain⟨f0,f1,f2,f3,f4,f5⟩:=hf it (by simp)
  have W:=Walks.range (prog:=X.prog) (w:=X.w) (I.ok.hd hc) it lo 2 n
  refine W.item i s _ _ hg st fun v h' tk hv st' kk=>?_
  obtain⟨t,rfl⟩:=hv
  have I1:Inv X pins σ H {s with heap:=h',toks:=tk}:=I.turned (fun b o hb e=>kk b o (by simpa using hb) e) f0 f1 f3 f4 f5
  exact⟨_,rfl,go_of (s:={s with heap:=h',toks:=tk}) (n:="range_iterator") st' rfl rfl (by decide) ⟨.int (lo+i*2),H,I1,⟨t,rfl⟩,⟨rfl,rfl⟩,st',fun b hb=>(hf b hb).1⟩⟩
 done:=by
  intro X hP hw hK hc i pins s σ H E I hf st hg
  subst hP hw hK
  obtain⟨f0,f1,f2,f3,f4,f5⟩:=hf it (by simp)
  exact wpAny_pyNext_range_end (I.ok.hd hc) st (by have:n≤i:=hg;omega) fun h' eb=>⟨rfl,I.turned (t':=s.toks) (fun b o hb e=>eb b o hb e) f0 f1 f3 f4 f5⟩
 self:=fun _ _ _ _ _ st h=>wpAny_pyIter_rangeiter st h
def cntS (i j:Int):Nat:=((j - i+1) / 2).toNat
theorem cntS_size {i j:Int}:Builtin.Range.rangeSize i j 2=((cntS i j:Nat):Int):=by
 unfold Builtin.Range.rangeSize cntS
 rw [if_pos (by decide)]
 split <;> omega
def rItS2 (vs:List V) (H:Hp) (R:It→Hp→Prop):Prop:=∃i j:Int,vs=[.int i,.int j,.int 2]∧(-(2^30)≤i∧i < 2^30∧-(2^30)≤j∧j < 2^30)∧R (ItrS i (cntS i j)) H
def iRng3 (ta:TA):TI:=fun σ H R=>ta σ H fun vs H1=>rItS2 vs H1 R
section
variable {X : Cx} {tg : Expr}
theorem pi_range3 {a b c:Expr} {ta:TA} {p pos:Pos} (hg:Gl X "range") (hm:X.mg "range" =none) (ha:PA X [a,b,c] ta) (hs:starEach [a,b,c] X.env=[(false,eval a X.env),(false,eval b X.env),(false,eval c X.env)]:=by rfl) (hs2:starEach [b,c] X.env=[(false,eval b X.env),(false,eval c X.env)]:=by rfl):
  PI X tg (.Call (.Name "range" p) [a,b,c] [] pos) (iRng3 ta):=by
 intro pins s σ H R I h
 refine Call_ (qe2 I hg hm boot_range (PyProof.Rows.callWith_type1 (thn (ha pos pins s σ H _ I h) fun us s1 ⟨vs,H1,I1,r1,q1⟩=>?_) (by rw [hs,hs2]) (by rw [hs2];rfl)))
 obtain⟨i,j,e,⟨q1,q2,q3,q4⟩,q⟩:=q1
 subst e
 cases r1 with
 |cons r rr=>
  cases rr with
  |cons r' rr=>
   cases rr with
   |cons r'' rr=>
    cases rr
    obtain⟨t,rfl⟩:=r
    obtain⟨t',rfl⟩:=r'
    obtain⟨t'',rfl⟩:=r''
    refine call_range_3 (by decide) ?_ (Or.inl (PyProof.noPylong_small (by decide)))
    have sm:Builtin.Range.small i j 2=true:=by
     unfold Builtin.Range.small
     rw [cntS_size]
     unfold cntS
     simp only [Builtin.Range.rangeFitsLong,Bool.and_eq_true,Bool.or_eq_true,decide_eq_true_eq,beq_iff_eq,show (2:Int) > 0 by decide,if_true]
     omega
    refine wpAny_pyIter_range (IsRange.new ..) sm ?_
    have I2:Inv X pins σ H1 {s1 with heap:=s1.heap.push {cls:=.type "range",data:=.fields #[.int i t,.int j t',.int 2 t'']},toks:=s1.toks}:=I1.kept fun b o e=>Heap.get?_push_of_some _ e
    refine⟨(s1.heap.push {cls:=.type "range",data:=.fields #[.int i t,.int j t',.int 2 t'']}).objs.size, [(s1.heap.push {cls:=.type "range",data:=.fields #[.int i t,.int j t',.int 2 t'']}).objs.size],_,_,H1,rfl,
     I2.kept (t':=s1.toks) fun b o e=>Heap.get?_push_of_some _ e,turn_rngS _ i (cntS i j),?_,fun b hb=>?_,q⟩
    ·have e1:i+((0:Nat):Int)*2=i:=by simp
     have e2:((cntS i j:Nat):Int) - ((0:Nat):Int)=Builtin.Range.rangeSize i j 2:=by rw [cntS_size];simp
     show IsRangeIter _ _ (i+((0:Nat):Int)*2) (((cntS i j:Nat):Int) - ((0:Nat):Int)) 2
     rw [e1,e2]
     exact Heap.get?_push_size _ rfl
    ·have e:b=(s1.heap.push {cls:=.type "range",data:=.fields #[.int i t,.int j t',.int 2 t'']}).objs.size:=by simpa using hb
     subst e
     exact I2.fpOk (Nat.le_refl _) (I2.hok.fresh (Nat.le_refl _))
end
section
variable {K : Frag} {σ : L2.St} {H : Hp} {D : Ends} {Q : VK} {g : TG} {tb : TS} {ta : TA} {tl : TE}
theorem r_iR3 {R:It→Hp→Prop} (h:ta σ H fun vs H1=>rItS2 vs H1 R):iRng3 ta σ H R:=h
theorem r_itS2 {R:It→Hp→Prop} {i j:Int} (h1: -(2^30)≤i) (h2:i < 2^30) (h3: -(2^30)≤j) (h4:j < 2^30) (h:R (ItrS i (cntS i j)) H):rItS2 [.int i,.int j,.int 2] H R:=⟨i,j,rfl,⟨h1,h2,h3,h4⟩,h⟩
theorem f_rngS {lo:Int} {n:Nat} (Pv:Nat→L2.St→Hp→Prop) (h0:Pv 0 σ H)
  (hs:∀(i:Nat) σ H,i < n→Pv i σ H→g (.int (lo+i*2)) σ H fun σ2 H2=>tb {nx:=Pv (i+1),rt:=D.rt,bk:=D.nx,ct:=Pv (i+1)} σ2 H2) (hd:∀σ H,Pv n σ H→D.nx σ H):FOR (ItrS lo n) g tb D σ H:=by
 refine⟨fun i m σ H=>m=n - i∧i≤n∧Pv i σ H,⟨n,rfl,Nat.zero_le _,h0⟩,?_⟩
 rintro i m σ H ⟨rfl,hi,p⟩
 by_cases hlt:i < n
 ·refine .inr ⟨hlt,Pv (i+1),fun σ' H' p'=>⟨n - (i+1),by omega,rfl,hlt,p'⟩,fun x H' y=>?_⟩
  obtain⟨rfl,rfl⟩:=y
  exact hs i σ _ hlt p
 ·have:i=n:=by omega
  subst this
  exact .inl ⟨Nat.le_refl _,hd σ H p⟩
end
theorem ints_of:∀{ns:List Int} {its:List Value},qb9 (ns.map V.int) its→∃ys:List (Int × Tok),its=ys.map (fun p=>Value.int p.1 p.2)∧ys.map (·.1)=ns
 | [],_,r=>by cases r;exact⟨[],rfl,rfl⟩
 |n :: ns,_,r=>by
  cases r with
  |cons h t=>
   obtain⟨tk,rfl⟩:=h
   obtain⟨ys,e1,e2⟩:=ints_of t
   exact⟨(n,tk) :: ys,by rw [e1];rfl,by rw [zS,e2]⟩
theorem items_of (ys:List (Int × Tok)):(ys.map (fun p=>Value.int p.1 p.2)).toArray=intItems ys.toArray:=by
 unfold intItems
 simp
def rMinL (K:Frag):List V→Hp→VK→Prop:=fun xs H Q=>∃(p:Addr) (ns:List Int),xs=[.ref p]∧SqL K H p (ns.map V.int)∧0 < ns.length∧∀m,m∈ns→(∀a∈ns,m≤a)→Q (.int m) H
def rMaxL (K:Frag):List V→Hp→VK→Prop:=fun xs H Q=>∃(p:Addr) (ns:List Int),xs=[.ref p]∧SqL K H p (ns.map V.int)∧0 < ns.length∧∀m,m∈ns→(∀a∈ns,a≤m)→Q (.int m) H
def rSumL (K:Frag):List V→Hp→VK→Prop:=fun xs H Q=>∃(p:Addr) (ns:List Int),xs=[.ref p]∧SqL K H p (ns.map V.int)∧Q (.int ns.sum) H
section
variable {X : Cx}
theorem call_minL (hc:X.calm=true):qcd X (.builtin "min") (rMinL X.K):=by
 intro pins s σ H xs us Q I hv h
 obtain⟨p,ns,rfl,hS,hn,q⟩:=h
 obtain⟨u,rfl,ru⟩:=hv.one
 cases ru
 obtain⟨its,rv,pl,hz⟩:=I.list hS
 have hl:=pl.isList
 obtain⟨ys,rfl,rfl⟩:=ints_of rv
 rw [items_of] at hl
 have hsz:0 < ys.toArray.size:=by rw [zB] at hn;simpa using hn
 refine min_intList (I.ok.hd hc) hl hsz fun v h' tk hv hk=>?_
 obtain⟨t,rfl⟩:=intItems_at hv
 obtain⟨h1,h2⟩:=argBest_lt (numAt ys.toArray) (ys.toArray.size - 1)
 refine⟨.int _,H,I.kept (t':=tk) hk,⟨t,rfl⟩,q _ ?_ fun a ha=>?_⟩
 ·rw [numAt_eq]
  have hsy:ys.toArray.size=ys.length:=by simp
  exact getD_mem (show _ <(List.map (fun x:Int × Tok=>x.fst) ys).length by rw [zB];omega)
 ·obtain⟨j,hj,rfl⟩:=mem_getD ha
  rw [zB] at hj
  have z:=h2 j (by have:ys.toArray.size=ys.length:=(by simp);omega)
  rw [numAt_eq ys.toArray j] at z
  exact z
theorem call_maxL (hc:X.calm=true):qcd X (.builtin "max") (rMaxL X.K):=by
 intro pins s σ H xs us Q I hv h
 obtain⟨p,ns,rfl,hS,hn,q⟩:=h
 obtain⟨u,rfl,ru⟩:=hv.one
 cases ru
 obtain⟨its,rv,pl,hz⟩:=I.list hS
 have hl:=pl.isList
 obtain⟨ys,rfl,rfl⟩:=ints_of rv
 rw [items_of] at hl
 have hsz:0 < ys.toArray.size:=by rw [zB] at hn;simpa using hn
 refine max_intList (I.ok.hd hc) hl hsz fun v h' tk hv hk=>?_
 obtain⟨t,rfl⟩:=intItems_at hv
 obtain⟨h1,h2⟩:=argBest_gt (numAt ys.toArray) (ys.toArray.size - 1)
 refine⟨.int _,H,I.kept (t':=tk) hk,⟨t,rfl⟩,q _ ?_ fun a ha=>?_⟩
 ·rw [numAt_eq]
  have hsy:ys.toArray.size=ys.length:=by simp
  exact getD_mem (show _ <(List.map (fun x:Int × Tok=>x.fst) ys).length by rw [zB];omega)
 ·obtain⟨j,hj,rfl⟩:=mem_getD ha
  rw [zB] at hj
  have z:=h2 j (by have:ys.toArray.size=ys.length:=(by simp);omega)
  rw [numAt_eq ys.toArray j] at z
  exact z
theorem qen (ns:List Int):∀k,k≤ns.length→preSum (fun i=>(ns[i]?).getD 0) k=(ns.take k).sum
 |0,_=>by simp [preSum]
 |k+1,h=>by
  have hk:k < ns.length:=by omega
  show preSum _ k+(ns[k]?).getD 0=_
  rw [qen ns k (by omega),zQ,zA hk,List.sum_append]
  simp
theorem qf1 (hc:X.calm=true):qcd X (.builtin "sum") (rSumL X.K):=by
 intro pins s σ H xs us Q I hv h
 obtain⟨p,ns,rfl,hS,q⟩:=h
 obtain⟨u,rfl,ru⟩:=hv.one
 cases ru
 obtain⟨its,rv,pl,hz⟩:=I.list hS
 have hl:=pl.isList
 have hlt:p < s.heap.objs.size:=by obtain⟨_,e,_⟩:=hl;exact Heap.lt_size e
 have hlen:=rv.length
 rw [zB] at hlen
 refine call_sum_walkG (wpAny_pyIter_list hl ?_)
 refine⟨s.heap.objs.size, [s.heap.objs.size,p], [s.heap.objs.size],its.toArray.size,_,_,fun i=>(ns[i]?).getD 0,rfl,Walks.list (A:=X.A.in1) (I.ok.hd hc) _ p (Nat.ne_of_lt hlt) its.toArray,⟨⟨_,Heap.get?_push_size _ rfl,rfl,rfl⟩,hl.push _⟩,fun b hb=>?_,fun i v hP=>?_,fun h' tk t' hk=>?_⟩
 ·have e:(s.heap.push {cls:=.type "list_iterator",data:=.fields #[.ref p,.int 0 0]}).objs.size=s.heap.objs.size+1:=by simp [Heap.push]
  rcases zR.mp hb with rfl|hb
  ·show _ <(s.heap.push _).objs.size
   rw [e];omega
  ·rw [zH.mp hb]
   show _ <(s.heap.push _).objs.size
   rw [e];exact Nat.lt_succ_of_lt hlt
 ·have hi:its[i]?=some v:=by simpa using hP
  have hb:i < ns.length:=by rw [hlen];exact(List.getElem?_eq_some_iff.mp hi).1
  have hx:(ns.map V.int)[i]?=some (.int ns[i]):=by rw [zC,zA hb];rfl
  obtain⟨u,e,r⟩:=rv.get hx
  rw [hi] at e
  cases e
  obtain⟨t,rfl⟩:=r
  exact⟨t,by show Value.int ns[i] t=Value.int ((ns[i]?).getD 0) t;rw [zA hb];rfl⟩
 ·have e:preSum (fun i=>(ns[i]?).getD 0) its.toArray.size=ns.sum:=by
   rw [zP,←hlen,qen ns _ (Nat.le_refl _),zV]
  rw [e]
  exact⟨.int _,H,I.kept (t':=tk) (fun b o eb=>hk b o (fun hm=>by have z:=Heap.lt_size eb;rw [zH.mp hm] at z;exact Nat.lt_irrefl _ z) (Heap.get?_push_of_some _ eb)),⟨_,rfl⟩,q⟩
end
section
variable {K : Frag} {H : Hp} {Q : VK} {p : Addr} {ns : List Int}
theorem r_minL (hS:SqL K H p (ns.map V.int)) (hn:0 < ns.length) (h:∀m,m∈ns→(∀a∈ns,m≤a)→Q (.int m) H):rMinL K [.ref p] H Q:=⟨p,ns,rfl,hS,hn,h⟩
theorem r_maxL (hS:SqL K H p (ns.map V.int)) (hn:0 < ns.length) (h:∀m,m∈ns→(∀a∈ns,a≤m)→Q (.int m) H):rMaxL K [.ref p] H Q:=⟨p,ns,rfl,hS,hn,h⟩
theorem r_sumL (hS:SqL K H p (ns.map V.int)) (h:Q (.int ns.sum) H):rSumL K [.ref p] H Q:=⟨p,ns,rfl,hS,h⟩
end
def COMP2 (J:It) (g:TG) (te:TE) (acc:Addr) (H:Hp) (Q:VK):Prop:=∃W:Nat→Nat→Hp→Prop,(∃m,W 0 m H)∧∀i m H,W i m H→
 (J.stop i H∧Q (.ref acc) H)∨(J.go i H∧∃N:Hp→Prop,(∀H',N H'→∃m',m' < m∧W (i+1) m' H')∧∀v H',J.yld i H v H'→∀a b:Option V,g v [a,b] H' fun σ2 H2=>te σ2 H2 fun y H3=>rApp acc N y H3)
def tComp2 (wi:TI) (g:CT TG) (te:CT TE):TE:=fun σ H Q=>wi σ H fun J H1=>∀(C:Addr) (s:Shared) (H0:Hp) (fp:List Addr) (acc:Addr),H1 acc=none→COMP2 J (g C s H0 fp) (te C s H0 fp) acc (upd H1 acc (.lst [])) Q
section
variable {X : Cx} {pins : List (Addr × Obj)} {σ : L2.St} {H : Hp} {s : Shared}
theorem Inv.comp2 {x y:Str} {scope:Scope} {cl:List (Str × Addr)} (Cp:Caps X x scope cl [] []) (I:Inv X pins σ H s) {fp:List Addr} (hf:∀b∈fp,qgb X pins H b) (hlt:∀b∈fp,b < s.heap.objs.size) {h₁:Heap} {t':Nat}
  (hns:h₁.Ns s.heap.objs.size (fun _=>none)) (k:∀b o,s.heap.get? b=some o→h₁.get? b=some o):
  Inv (cxC X [x,y] scope cl s.heap.objs.size s H fp) [] [none,none] H {s with heap:=h₁,toks:=t'}:=by
 have J:=Inv.comp Cp I hf hlt (t':=t') hns k
 have o:=J.ok
 refine⟨⟨o.mod,o.kind,o.glob,o.blt,o.above,o.inj,o.has,o.cab,o.hd,o.frames,o.stk,o.exf,o.bs,o.bsz,o.noex,o.exfs,o.funs,o.frf⟩,J.os,J.bare,J.base,?_,J.cell,J.free,J.freeC,J.pin,J.hok,rfl⟩
 refine⟨_,hns,fun i z v e1 e2 e3=>?_⟩
 match i with
 |0=>cases e2
 |1=>cases e2
 |i+2=>simp at e2
theorem two_of {σ:L2.St} (h:σ.length=2):∃a b,σ=[a,b]:=by
 match σ,h with
 | [a,b],_=>exact⟨a,b,rfl⟩
end
section
variable {X : Cx}
theorem pe_comp2 {elt iter tg:Expr} {x y:Str} {scope:Scope} {cl:List (Str × Addr)} {pos:Pos} {wi:TI} {g:CT TG} {te:CT TE} (Cp:Caps X x scope cl [] []) (hc:X.calm=true)
  (hi:PI X tg iter wi) (hg:∀C s H fp,PG (cxC X [x,y] scope cl C s H fp) tg (g C s H fp)) (he:∀C s H fp,PE (cxC X [x,y] scope cl C s H fp) elt (te C s H fp))
  (hs:∀x,foldedSetIterable iter X.env x=pure x:=by intro _;rfl):
  PE X (.ListComp elt [⟨tg,iter, [],0⟩] scope pos) (tComp2 wi g te):=by
 intro pins s σ H Q I h
 rw [eval_ListComp]
 refine wpAny_comprehension_free (use:=none) rfl hs Cp.clos Cp.kind Cp.names (thn (hi pins s σ H _ I h) fun v s1 h1=>thn h1 fun itv s2 h2=>?_)
 obtain⟨it,fp,tn,J,H2,e,I2,T,st2,f2,R⟩:=h2
 subst e
 have hacc:H2 s2.heap.objs.size=none:=I2.hok.fresh (Nat.le_refl _)
 refine wpAny_newObj_type ?_
 have I3:Inv X pins σ (upd H2 s2.heap.objs.size (.lst [])) {s2 with heap:=s2.heap.push {cls:=.type "list",dict:=none,data:=.seq ([]:List Value).toArray}}:=Inv.lnew (its:=[]) (t':=s2.toks) I2 .nil (Nat.zero_le _)
 have lt2:∀b∈fp,b < s2.heap.objs.size:=fun b hb=>let ⟨o,e,_⟩:=T.obj _ _ st2 b hb;Heap.lt_size e
 have f3:∀b∈fp,qgb X pins (upd H2 s2.heap.objs.size (.lst [])) b:=fun b hb=>⟨by rw [qa9 (Nat.ne_of_lt (lt2 b hb))];exact(f2 b hb).1,(f2 b hb).2⟩
 have st3:tn 0 (s2.heap.push {cls:=.type "list",dict:=none,data:=.seq ([]:List Value).toArray}):=T.keep _ _ _ st2 fun b _ o e=>Heap.get?_push_of_some _ e
 generalize hs3:({s2 with heap:=s2.heap.push {cls:=.type "list",dict:=none,data:=.seq ([]:List Value).toArray}}:Shared)=s3 at I3 ⊢
 have st3':tn 0 s3.heap:=by rw [←hs3];exact st3
 generalize s2.heap.objs.size=acc at hacc I3 f3 ⊢
 obtain⟨W,⟨m0,w0⟩,turn⟩:=R s3.heap.objs.size s3 (upd H2 acc (.lst [])) fp acc hacc
 have lt3:∀b∈fp,b < s3.heap.objs.size:=fun b hb=>let ⟨o,e,_⟩:=T.obj _ _ st3' b hb;Heap.lt_size e
 clear st3 hs3
 refine wpAny_newFunctionEnv Cp.cell (by intro y hy;simp at hy) (fun h₁ hns hsb=>?_) Cp.kind
 have k1:∀b o,s3.heap.get? b=some o→h₁.get? b=some o:=fun b o e=>hsb.extBut b o (Nat.ne_of_lt (Heap.lt_size e)) (Heap.get?_push_of_some _ e)
 have I4:Inv (cxC X [x,y] scope cl s3.heap.objs.size s3 (upd H2 acc (.lst [])) fp) [] [none,none] (upd H2 acc (.lst [])) {s3 with heap:=h₁,toks:=s3.toks+([]:List (Str × Value)).length}:=
  Inv.comp2 Cp I3 f3 lt3 hns k1
 have st4:tn 0 h₁:=T.keep _ _ _ st3' fun b _ o e=>k1 b o e
 generalize hX:cxC X [x,y] scope cl s3.heap.objs.size s3 (upd H2 acc (.lst [])) fp=X' at I4
 have nX:X'.N=[x,y]:=by subst hX;rfl
 have stat:∀{H':Hp},(∀b∈fp,H' b=none)→∀b∈fp,qgb X' [] H' b:=fun hn b hb=>by
  subst hX
  obtain⟨g0,g1,g2,g3,g4,g5⟩:=f3 b hb
  refine⟨hn b hb,Nat.ne_of_lt (lt3 b hb),fun z=>?_,.inl hb,fun y c e=>g4 y c (Cp.sub y c e),fun p hp=>absurd (show p∈([]:List (Addr × Obj)) from hp) (by simp)⟩
  rcases zR.mp (I3.stkSub b z) with z|z
  ·exact g1 z
  ·exact g2 z
 have core:codeAny (model X.prog X.w) X.A (.compLoop (.ListComp elt [⟨tg,iter, [],0⟩] scope pos) 0 (.ref it) (.ref acc) (compEnvC scope cl s3.heap.objs.size X.env))
   (compPost (model X.prog X.w) X.A X.xe none (EP X pins σ Q) (.ref acc) s3.heap.objs.size) {s3 with heap:=h₁,toks:=s3.toks+([]:List (Str × Value)).length}:=by
  refine codeAny_loop rfl (fun n s'=>∃i a b H',Inv X' [] [a,b] H' s'∧tn i s'.heap∧(∀b∈fp,H' b=none)∧W i n H') (fun n s5 hI=>?_) m0 ⟨0,none,none,_,I4,st4,fun b hb=>(f3 b hb).1,w0⟩
  obtain⟨i,a0,b0,H5,I5,st5,fr5,w5⟩:=hI
  show wpAny _ _ ((compTurn _ 0 _ _ _).onRaise _) _ _ s5
  refine wpAny_noted ?_
  rw [compTurn_list]
  refine wpAny_bind (wpAny_standAt (wpAny_bind ?_))
  have aX:X'.A=X.A:=by subst hX;rfl
  have pX:X'.prog=X.prog:=by subst hX;rfl
  have wX:X'.w=X.w:=by subst hX;rfl
  have kX:X'.K=X.K:=by subst hX;rfl
  have cX:X'.calm=true:=by subst hX;exact hc
  have eX:X'.env=compEnvC scope cl s3.heap.objs.size X.env:=by subst hX;rfl
  rcases turn i n H5 w5 with ⟨stop,qn⟩ |⟨go,N,hN,step⟩
  ·have z:=T.done X' pX wX kX cX i [] s5 _ H5 (fun _ _=>False) I5 (stat fr5) st5 stop
   rw [aX] at z
   refine wpAny_mono z (fun r s6 ⟨hr,I6⟩=>?_) fun _ _ q=>q.elim
   subst hr
   subst hX
   obtain⟨m,hm,_⟩:=id I6.loc
   exact wpAny_pure ⟨m,hm,fun h' sb=>⟨.ref acc,H5,Inv.uncomp I3 f3 rfl I6 sb,rfl,qn⟩⟩
  ·have z:=T.item X' pX wX kX cX i [] s5 _ H5 (fun _ _=>False) I5 (stat fr5) st5 go
   rw [aX] at z
   refine wpAny_mono z (fun r s6 ⟨u,hr,h6⟩=>?_) fun _ _ q=>q.elim
   subst hr
   refine wpAny_bind (wpAny_mono h6 (fun _ s7 ⟨v,H7,I7,r7,y7,st7,fr7⟩=>?_) fun _ _ q=>q.elim)
   have I7':=I7.pinned (stat fr7) (T.obj _ _ st7)
   have asg:wpAny (model X.prog X.w) X.A (assign tg (compEnvC scope cl s3.heap.objs.size X.env) u) (fun _ s8=>∃σ8 H8,Inv X' ([]++qbv fp s7.heap) σ8 H8 s8∧te s3.heap.objs.size s3 (upd H2 acc (.lst [])) fp σ8 H8 fun y H3=>rApp acc N y H3) (fun _ _=>False) s7:=by
    subst hX
    exact hg _ _ _ _ _ s7 _ H7 v u _ I7' r7 (step v H7 y7 a0 b0)
   refine wpAny_bind (wpAny_mono asg (fun _ s8 ⟨σ8,H8,I8,q8⟩=>?_) fun _ _ q=>q.elim)
   have fin:∀{σ9:L2.St} {H10:Hp} {s10:Shared},Inv X' ([]++qbv fp s7.heap) σ9 H10 s10→N H10→∃m',m' < n∧∃i a b H',Inv X' [] [a,b] H' s10∧tn i s10.heap∧(∀b∈fp,H' b=none)∧W i m' H':=fun {σ9 H10 s10} I10 n10=>by
    obtain⟨m',hm,w10⟩:=hN _ n10
    obtain⟨a,b,rfl⟩:=two_of (by have:=I10.len;rw [nX] at this;exact this)
    exact⟨m',hm,i+1,a,b,H10,I10.unpinned,T.keep _ _ _ st7 fun b hb o e=>(I10.pin (b,o) (zO _ (zO _ (qbq hb e)))).1,fun b hb=>by
     obtain⟨o,e,d⟩:=T.obj _ _ st7 b hb
     exact(I10.pin (b,o) (zO _ (zO _ (qbq hb e)))).2.1,w10⟩
   refine wpAny_bind (wpAny_mono (wpAny_tests_nil (Q:=fun b s9=>b=true∧s9=s8) ⟨rfl,rfl⟩) (fun b s9 ⟨e1,e2⟩=>?_) fun _ _ q=>q)
   subst e1 e2
   have elt':wpAny (model X.prog X.w) X.A (eval elt (compEnvC scope cl s3.heap.objs.size X.env)) (EP X' ([]++qbv fp s7.heap) σ8 (fun y H3=>rApp acc N y H3)) (fun _ _=>False) s9:=by
    subst hX
    exact he _ _ _ _ _ s9 _ H8 _ I8 q8
   refine wpAny_bind (wpAny_bind (wpAny_mono elt' (fun y s10 ⟨w,H10,I10,r10,ys,ha,hz,q10⟩=>?_) fun _ _ q=>q.elim))
   have app:wpAny (model X.prog X.w) X.A (call (.builtin "list.append") [.ref acc,y]) (EP X' ([]++qbv fp s7.heap) σ8 fun _ H11=>H11=upd H10 acc (.lst (ys++ [w]))) (fun _ _=>False) s10:=by
    subst hX
    exact qat (X:=cxC X [x,_] scope cl s3.heap.objs.size s3 (upd H2 acc (.lst [])) fp) _ s10 _ H10 (.ref acc) [w] (.ref acc) [y] _ I10 rfl (.cons r10 .nil) ⟨acc,ys,w,rfl,rfl,ha,hz,rfl⟩
   refine wpAny_bind (wpAny_mono app (fun _ s11 ⟨_,H11,I11,_,e11⟩=>?_) fun _ _ q=>q.elim)
   subst e11
   exact wpAny_pure (wpAny_pure ⟨rfl,fin I11 q10⟩)
 exact codeAny_compStart_list core (T.self _ 0 _ _ _ st4 core)
end
section
variable {K : Frag} {σ : L2.St} {H : Hp} {Q : VK}
theorem r_comp2 {wi:TI} {g:CT TG} {te:CT TE} (h:wi σ H fun J H1=>∀(C:Addr) (s:Shared) (H0:Hp) (fp:List Addr) (acc:Addr),H1 acc=none→COMP2 J (g C s H0 fp) (te C s H0 fp) acc (upd H1 acc (.lst [])) Q):tComp2 wi g te σ H Q:=h
theorem c2_by {J:It} {g:TG} {te:TE} {acc:Addr} (n:Nat) (Pv:Nat→Hp→Prop) (h0:Pv 0 H) (hgo:∀i H,i < n→Pv i H→J.go i H) (hst:∀H,Pv n H→J.stop n H)
  (hs:∀i H v H' (a b:Option V),i < n→Pv i H→J.yld i H v H'→g v [a,b] H' fun σ2 H2=>te σ2 H2 fun y H3=>rApp acc (Pv (i+1)) y H3)
  (hd:∀H,Pv n H→Q (.ref acc) H):COMP2 J g te acc H Q:=by
 refine⟨fun i m H=>m=n - i∧i≤n∧Pv i H,⟨n,rfl,Nat.zero_le _,h0⟩,?_⟩
 rintro i m H ⟨rfl,hi,p⟩
 by_cases hlt:i < n
 ·exact .inr ⟨hgo i H hlt p,Pv (i+1),fun H' p'=>⟨n - (i+1),by omega,rfl,hlt,p'⟩,fun v H' y a b=>hs i H v H' a b hlt p y⟩
 ·have e:i=n:=by omega
  subst e
  exact .inl ⟨hst H p,hd H p⟩
end
def XB (X:Cx) (E:XK) (e:Value) (s':Shared):Prop:=∃(a:Addr) (C:Value) (d:Option Addr) (σ':L2.St) (H':Hp),e=.ref a∧Inv X [] σ' H' s'∧E C d H'∧
 ∃(T:Addr) (fl:Value) (σ1:L2.St) (H1:Hp) (s1:Shared),Inv X [] σ1 H1 s1∧s1.heap.get? a=none∧s1.heap.get? T=none∧H' a=none∧H' T=none∧XTr s'.heap a C d fl T
abbrev xb (X:Cx) (E:XK):Cx:=X.wish (XB X E)
section
variable {X : Cx} {E : XK} {k : Nat} {f : Addr} {fd : FuncData} {ps : List Str} {sp : Sp} {dvs : List V} {ds : List Value} {x : Str} {p pos : Pos} {e : Expr} {es : List Expr} {t : TA}
end
section
variable {X : Cx} {pins : List (Addr × Obj)} {σ : L2.St} {H : Hp} {s : Shared}
end
section
variable {X : Cx}
end
end My
namespace My
open PySem PySem.Spec PyProof.Rows L2 PyProof PySem.Builtin.Str
section
variable {X : Cx}
end
section
variable {K : Frag} {H : Hp} {Q : VK} {z y : Str}
end
end My
namespace My
open PySem PySem.Spec PyProof.Rows L2 PyProof PySem.Builtin.Str PySem.StrLaws
def hits (l:List Nat) (c:Nat) (is:List Nat):List Nat:=is.filter fun i=>decide (l[i]?=some c)
end My
namespace My
open PySem PySem.Spec PyProof.Rows L2 PyProof PySem.Builtin.Str PySem.NumText
end My
namespace My
open PySem PySem.Spec PyProof.Rows L2 PyProof PySem.Builtin.Str
section
variable {X : Cx}
end
section
variable {K : Frag} {H : Hp} {Q : VK}
end
end My
namespace My
open PySem PySem.Spec PyProof.Rows L2 PySem.Builtin
section
variable {prog : Program} {w : World} {A : Around} {E : Value → Shared → Prop} {s : Shared} {it d : Addr} {i ep : Nat} {od : Obj} {es : Array DictEntry}
theorem rawKey (hit:s.heap.IsKeyIter it d i es.size ep) (hod:s.heap.get? d=some od) (hdd:od.data=.dict es ep) {Q:Option Value→Shared→Prop} (hi:i < es.size)
  (hQ:∀h',h'.IsKeyIter it d (i+1) es.size ep→Heap.SameBut it s.heap h'→Q (some es[i].key) {s with heap:=h'}):wpAny (model prog w) A (pyNext (.ref it)) Q E s:=by
 obtain⟨o,ho,hc,hd⟩:=id hit
 have up:(s.heap.update it (Obj.mapFields (·.setIfInBounds 1 (rawInt ((i:Int)+1))))).IsKeyIter it d (i+1) es.size ep:=by
  refine⟨_,Heap.get?_update_self _ ho (Obj.isFreed_of_fields (Obj.data_mapFields hd _)),?_,?_⟩
  ·rw [Obj.cls_mapFields];exact hc
  ·rw [Obj.data_mapFields hd];simp [rawInt]
 have own:Dict_items.ownsTuple "dict_keyiterator" =false:=by decide
 have n1:¬((Value.ref d==Value.none)=true):=Bool.false_ne_true
 unfold pyNext
 refine wpAny_bind (wpAny_attempt (wpAny_callSpecial?_slot (name:=Str.ofString "__next__") hit.typeIs F.slot_dict_keyiterator_next (wpAny_call_entry F.slot_dict_keyiterator_next hit.typeIs F.entry_dict_keyiterator_next ?_ (F.args_dict_keyiterator_next_1 _))))
 refine wpAny_bind (wpAny_pure (wpAny_bind (wpAny_bind (wpAny_bind (wpAny_typeNameOfWhole_keyiter hit.typeIs (wpAny_pure (wpAny_bind (wpAny_fieldsOf ho hd ?_))))))))
 rw [own,if_neg Bool.false_ne_true]
 show wpAny _ _ (ite ((Value.ref d==Value.none)=true) _ _) _ _ s
 rw [if_neg n1]
 refine wpAny_bind (wpAny_pure (wpAny_bind (wpAny_dictEntries hod hdd ?_)))
 rw [if_neg (by simp)]
 refine wpAny_bind (wpAny_pure (wpAny_bind (wpAny_dictEpoch hod hdd ?_)))
 rw [if_neg (by simp)]
 refine wpAny_pure ?_
 have eg:(if (i:Int) < 0 then none else es[(i:Int).toNat]?)=some es[i]:=by rw [if_neg (by omega),Int.toNat_natCast];exact Array.getElem?_eq_getElem hi
 dsimp only
 rw [eg]
 dsimp only
 refine wpAny_bind (wpAny_bind (wpAny_typeNameOfWhole_keyiter hit.typeIs (wpAny_pure ?_)))
 refine wpAny_bind (wpAny_isOneOf_keyiter hit.typeIs ?_)
 rw [own]
 refine wpAny_bind (wpAny_setField ho hd (by simp) ?_)
 refine wpAny_bind (wpAny_holding ?_)
 refine wpAny_bind (wpAny_isOneOf_keyiter (s:={s with heap:=s.heap.update it (Obj.mapFields (·.setIfInBounds 1 (rawInt ((i:Int)+1))))}) up.typeIs ?_)
 exact wpAny_pure (wpAny_pure ⟨_,rfl,wpAny_pure (hQ _ up (Heap.SameBut.update ..))⟩)
theorem rawKeyEnd (hh:A.handled=none) (hit:s.heap.IsKeyIter it d i es.size ep) (hod:s.heap.get? d=some od) (hdd:od.data=.dict es ep) {Q:Option Value→Shared→Prop} (hi:es.size≤i)
  (hQ:∀h',Heap.ExtBut it s.heap h'→Q none {s with heap:=h'}):wpAny (model prog w) A (pyNext (.ref it)) Q E s:=by
 obtain⟨o,ho,hc,hd⟩:=id hit
 have own:Dict_items.ownsTuple "dict_keyiterator" =false:=by decide
 have n1:¬((Value.ref d==Value.none)=true):=Bool.false_ne_true
 unfold pyNext
 refine wpAny_bind (wpAny_attempt (wpAny_callSpecial?_slot (name:=Str.ofString "__next__") hit.typeIs F.slot_dict_keyiterator_next (wpAny_call_entry F.slot_dict_keyiterator_next hit.typeIs F.entry_dict_keyiterator_next ?_ (F.args_dict_keyiterator_next_1 _))))
 refine wpAny_bind (wpAny_pure (wpAny_bind (wpAny_bind (wpAny_bind (wpAny_typeNameOfWhole_keyiter hit.typeIs (wpAny_pure (wpAny_bind (wpAny_fieldsOf ho hd ?_))))))))
 rw [own,if_neg Bool.false_ne_true]
 show wpAny _ _ (ite ((Value.ref d==Value.none)=true) _ _) _ _ s
 rw [if_neg n1]
 refine wpAny_bind (wpAny_pure (wpAny_bind (wpAny_dictEntries hod hdd ?_)))
 rw [if_neg (by simp)]
 refine wpAny_bind (wpAny_pure (wpAny_bind (wpAny_dictEpoch hod hdd ?_)))
 rw [if_neg (by simp)]
 refine wpAny_pure ?_
 have eg:(if (i:Int) < 0 then none else es[(i:Int).toNat]?)=none:=by rw [if_neg (by omega),Int.toNat_natCast];exact Array.getElem?_eq_none hi
 dsimp only
 rw [eg]
 dsimp only
 refine wpAny_bind (wpAny_bind (wpAny_typeNameOfWhole_keyiter hit.typeIs (wpAny_pure ?_)))
 rw [own]
 refine wpAny_bind (wpAny_setField ho hd (by simp) (wpAny_bind ?_))
 unfold newExc newTuple
 refine wpAny_bind (wpAny_newObj_type ?_ (by size_fits))
 refine wpAny_bind (m:=firstArgMember _ _) (wpAny_of_eq (a:=Value.none) (by first|rfl|(simp only [firstArgMember];rfl)) (wpAny_newObj_type ?_ (by size_fits)))
 unfold raiseNew
 refine wpAny_bind (wpAny_handled ?_)
 rw [show A.in1.handled=none from hh]
 refine wpAny_bind (wpAny_pure (wpAny_throw ?_))
 refine wpAny_bind (wpAny_isInstance (T:="StopIteration") (b:=true) ⟨_,Heap.get?_push_size _ rfl,rfl⟩ isSubtype_stop ?_)
 exact wpAny_pure (hQ _ (((Heap.SameBut.update ..).extBut.push _).push _))
theorem rawIter {Q:Value→Shared→Prop} (hd:(d==sysModules)=false) (hod:s.heap.get? d=some od) (hx:od.ExactDict) (hdd:od.data=.dict es ep)
  (hQ:Q (.ref s.heap.objs.size) {s with heap:=s.heap.push {cls:=.type "dict_keyiterator",data:=.fields #[.ref d,.int 0 0,.int es.size 0,.int ep 0]}}):wpAny (model prog w) A (pyIter (.ref d)) Q E s:=by
 have hT:s.TypeIs (.ref d) "dict":=⟨od,hod,hx.1⟩
 refine wpAny_pyIter_slot hT F.slot_dict_iter (wpAny_call_entry F.slot_dict_iter hT F.entry_dict_iter ?_ (F.args_dict_iter_1 _))
 unfold Builtin.«dict.__iter__» Builtin.Dict.dictSlotNone
 refine wpAny_bind (wpAny_bind (wpAny_notOrdered_dict hT (wpAny_pure ?_)))
 unfold Builtin.Dict.showsAll
 dsimp only
 refine wpAny_bind (wpAny_pure (wpAny_bind ?_))
 rw [if_neg (by rw [hd];exact Bool.false_ne_true)]
 refine wpAny_pure (wpAny_bind (wpAny_dictEntries hod hdd (wpAny_bind (wpAny_dictEpoch hod hdd (wpAny_bind (wpAny_newObj_type (wpAny_pure ⟨_,rfl,"dict_keyiterator",_,⟨_,Heap.get?_push_size _ rfl,rfl⟩,F.slot_dict_keyiterator_next.lookup,?_⟩)))))))
 simpa [rawInt] using hQ
end
end My
namespace My
open PySem PySem.Spec PyProof.Rows L2
section
variable {X : Cx} {pins : List (Addr × Obj)} {σ : L2.St} {H : Hp} {s : Shared} {a : Addr} {kvs : List (List Key × V)} {o : Obj}
theorem Inv.freezeT (I:Inv X pins σ H s) (e:H a=some (.dT kvs)) (ho:s.heap.get? a=some o):Inv X pins σ (upd H a (.frz o (.dT kvs))) s:=by
 have ok:=I.hok a _ e
 have z:=I.write (x:=a) (e:=a) (o:=.frz o (.dT kvs)) (h':=s.heap) (t':=s.toks) (by rw [e];exact True.intro) (.inl rfl) (fun _ _ _ q=>q) ⟨o,ho⟩ ⟨ho,ok.stay (fun _ _ _ r=>r) (fun c r=>by
  rw [qa9 (fun w=>by subst w;rw [e] at r;cases r)];exact r) fun c xs r=>by
  rw [qa9 (fun w=>by subst w;rw [e] at r;cases r)];exact r⟩
 exact z
end
theorem entT {P:Program} {w:World} {H:Hp} {h:Heap} {a:Addr} {kvs:List (List Key × V)} (ok:qbi P w H h a (.dT kvs)):∃o es ep,h.get? a=some o∧o.ExactDict∧o.data=.dict es ep∧es.size=kvs.length∧(a==sysModules)=false∧
  ∀(i:Nat) (hi:i < es.size) k v,kvs[i]?=some (k,v)→∃b,es[i].key=.ref b∧H b=some (.tup (k.map kV))∧qba v es[i].val:=by
 obtain⟨_,y,xs,r,o,es,ep,h1,h2,h3,h4,_⟩:=ok
 have key:∀{l:List (List Key × V)} {m:List (List Key × Addr × Value)},KT H l m→l.length=m.length∧∀(i:Nat) k v,l[i]?=some (k,v)→∃q,m[i]?=some q∧H q.2.1=some (.tup (k.map kV))∧qba v q.2.2:=by
  intro l m q
  induction q with
  |nil=>exact⟨rfl,fun i k v e=>by simp at e⟩
  | @cons p q ps qs hq t ih=>
   refine⟨by rw [zM,zM,ih.1],fun i k v e=>?_⟩
   cases i with
   |zero=>
    simp only [List.getElem?_cons_zero,Option.some.injEq] at e ⊢
    subst e
    exact⟨q,rfl,hq.2.1,hq.2.2⟩
   |succ i=>
    simp only [List.getElem?_cons_succ] at e ⊢
    exact ih.2 i k v e
 obtain⟨kl,kg⟩:=key r
 have hs:es.size=xs.length:=by
  have:=congrArg List.length h4
  rw [zB] at this
  simpa using this
 refine⟨o,es,ep,h1,h2,h3,by omega,y,fun i hi k v e=>?_⟩
 obtain⟨q,hq,hb,hv⟩:=kg i k v e
 have e1:es[i]?=some (entryOfKey (tupleKind (qb6 P w)) q):=by
  rw [←Array.getElem?_toList,h4,zC,hq];rfl
 have e2:es[i]=entryOfKey (tupleKind (qb6 P w)) q:=by
  rw [Array.getElem?_eq_getElem hi] at e1
  exact Option.some.inj e1
 rw [e2]
 exact⟨q.2.1,rfl,hb,hv⟩
def ItDT (d:Addr) (o:Obj) (kvs:List (List Key × V)):It:=
 ⟨fun i H=>H d=some (.frz o (.dT kvs))∧i < kvs.length,fun i H x H'=>H'=H∧∃k v b,kvs[i]?=some (k,v)∧x=.ref b∧H b=some (.tup (k.map kV)),fun i H=>H d=some (.frz o (.dT kvs))∧kvs.length≤i⟩
theorem turn_dT {P:Program} {w:World} {K:Frag} {tg:Expr} {o:Obj} {kvs:List (List Key × V)} {es:Array DictEntry} {ep:Nat} (d it:Addr) (hd:o.data=.dict es ep):Turn P w K tg (ItDT d o kvs) [it] it (fun i h=>h.IsKeyIter it d i kvs.length ep) where
 mem:=by simp
 obj:=fun i h st b hb=>by
  have e:b=it:=by simpa using hb
  subst e
  obtain⟨ob,e,c,dd⟩:=st
  exact⟨ob,e,fun v z=>by rw [dd] at z;cases z⟩
 keep:=fun i h h' st k=>st.at fun ob e=>k it (by simp) ob e
 item:=by
  intro X hP hw hK hc i pins s σ H E I hf st hg
  subst hP hw hK
  obtain⟨hfz,hi⟩:=hg
  obtain⟨ho,okd⟩:=I.hok d _ hfz
  obtain⟨o',es',ep',ho',hx,hd',hsz,hsy,get⟩:=entT okd
  rw [ho] at ho'
  cases ho'
  rw [hd] at hd'
  cases hd'
  obtain⟨f0,f1,f2,f3,f4,f5⟩:=hf it (by simp)
  obtain⟨b,hb,hbt,_⟩:=get i (by omega) kvs[i].1 kvs[i].2 (by rw [zA hi])
  rw [←hsz] at st
  refine rawKey st ho hd (by omega) fun h' st' hs'=>?_
  have I1:Inv X pins σ H {s with heap:=h'}:=I.turned (t':=s.toks) (fun b ob hb e=>hs'.extBut b ob hb e) f0 f1 f3 f4 f5
  obtain⟨ob,e,c,dd⟩:=id st'
  rw [hb]
  exact⟨_,rfl,go_of (s:={s with heap:=h'}) e c dd (by decide) ⟨.ref b,H,I1,rfl,⟨rfl,kvs[i].1,kvs[i].2,b,zA hi,rfl,hbt⟩,by rw [←hsz];exact st',fun b hb=>(hf b hb).1⟩⟩
 done:=by
  intro X hP hw hK hc i pins s σ H E I hf st hg
  subst hP hw hK
  obtain⟨hfz,hi⟩:=hg
  obtain⟨ho,okd⟩:=I.hok d _ hfz
  obtain⟨o',es',ep',ho',hx,hd',hsz,hsy,get⟩:=entT okd
  rw [ho] at ho'
  cases ho'
  rw [hd] at hd'
  cases hd'
  obtain⟨f0,f1,f2,f3,f4,f5⟩:=hf it (by simp)
  rw [←hsz] at st
  exact rawKeyEnd (I.ok.hd hc) st ho hd (by omega) fun h' eb=>⟨rfl,I.turned (t':=s.toks) (fun b ob hb e=>eb b ob hb e) f0 f1 f3 f4 f5⟩
 self:=fun _ _ _ _ _ st h=>wpAny_pyIter_keyiter st h
def rItDT (x:V) (H:Hp) (R:It→Hp→Prop):Prop:=∃a kvs,x=.ref a∧H a=some (.dT kvs)∧∀o,R (ItDT a o kvs) (upd H a (.frz o (.dT kvs)))
def iDictT (td:TE):TI:=fun σ H R=>td σ H fun x H1=>rItDT x H1 R
theorem pi_dictT {X:Cx} {tg l:Expr} {tl:TE} (hl:PE X l tl):PI X tg l (iDictT tl):=by
 intro pins s σ H R I h
 refine thn (hl pins s σ H _ I h) fun v s1 ⟨x,H1,I1,r1,q1⟩=>?_
 obtain⟨a,kvs,e,ea,q⟩:=q1
 subst e
 cases r1
 obtain⟨o,es,ep,ho,hx,hd,hsz,hsy,get⟩:=entT (I1.hok a _ ea)
 refine rawIter hsy ho hx hd ?_
 have it0:(s1.heap.push {cls:=.type "dict_keyiterator",data:=.fields #[.ref a,.int 0 0,.int es.size 0,.int ep 0]}).IsKeyIter s1.heap.objs.size a 0 kvs.length ep:=by
  rw [←hsz];exact⟨_,Heap.get?_push_size _ rfl,rfl,rfl⟩
 have I2:=Inv.freezeT I1 ea ho
 refine⟨s1.heap.objs.size, [s1.heap.objs.size],_,_,_,rfl,I2.kept (t':=s1.toks) fun b ob e=>Heap.get?_push_of_some _ e,turn_dT (kvs:=kvs) a _ hd,it0,fun b hb=>?_,q o⟩
 have e:b=s1.heap.objs.size:=by simpa using hb
 subst e
 exact I2.fpOk (Nat.le_refl _) (I2.hok.fresh (Nat.le_refl _))
section
variable {X : Cx}
end
end My
namespace My
open PySem PySem.Spec PyProof.Rows L2 PyProof PySem.SeqAt
def isTx (z:Str):Value→Bool
 | .str a _=>a==z
 |_=>false
theorem isTx_at (z:Str):∀{us:List Value} {ss:List Str},StrsAre us ss→∀(j:Nat) (h1:j < us.length) (h2:j < ss.length),isTx z us[j]=(ss[j]==z)
 |_,_,.nil,j,h1,_=>absurd h1 (Nat.not_lt_zero j)
 |_,_,.cons x t h,0,_,_=>rfl
 |_,_,.cons x t h,j+1,h1,h2=>isTx_at z h j (Nat.lt_of_succ_lt_succ h1) (Nat.lt_of_succ_lt_succ h2)
theorem isTx_eq {A:Around} {s:Shared} (z:Str) (t:Tok):∀{us:List Value} {ss:List Str},StrsAre us ss→∀y∈us,EqAt A s y (.str z t) (isTx z y)
 |_,_,.nil,y,h=>by simp at h
 |_,_,.cons x u r,y,h=>by
  rcases zR.mp h with rfl|h
  ·exact EqAt.str_str x u z t
  ·exact isTx_eq z t r y h
theorem idx_ne {z:Str}:∀{ss:List Str} {j:Nat} (h:j < ss.length),j < ss.idxOf z→ss[j]≠z
 | [],j,h,_=>absurd h (Nat.not_lt_zero j)
 |x :: ss,0,_,hj=>fun e=>by
  have e:x=z:=e
  rw [List.idxOf_cons,e] at hj
  simp at hj
 |x :: ss,j+1,h,hj=>by
  rw [List.idxOf_cons] at hj
  cases c:(x==z) with
  |true=>rw [c] at hj;simp at hj
  |false=>
   rw [c] at hj
   exact idx_ne (Nat.lt_of_succ_lt_succ h) (by simpa using hj)
section
variable {X : Cx}
def rIdxS (K:Frag):V→List V→Hp→VK→Prop:=fun x xs H Q=>∃(l:Addr) (ss:List Str) (z:Str),x=.ref l∧xs=[.str z]∧SqL K H l (ss.map V.str)∧z∈ss∧Q (.int ((ss.idxOf z:Nat):Int)) H
theorem mt_idxS:MtR X "list.index" (rIdxS X.K):=by
 intro pins s σ H x xs v us Q I rx rv h
 obtain⟨l,ss,z,rfl,rfl,hS,hz,q⟩:=h
 cases rx
 obtain⟨u,rfl,ru⟩:=rv.one
 obtain⟨t,rfl⟩:=ru
 obtain⟨its,r1,pl,hz'⟩:=I.list hS
 have sa:=qfu r1
 have hlen:=r1.length
 rw [zB] at hlen
 obtain⟨⟨cls,dd,data,sl⟩,ho,hc,n,hd⟩:=id pl.isList
 simp only at hc hd
 subst hc hd
 have hj:ss.idxOf z < ss.length:=List.idxOf_lt_length_iff.mpr hz
 have hz2:ss.length≤16777216:=by rw [zB] at hz';exact hz'
 refine call_meets PySem.F.slot_list_index ⟨_,ho,rfl⟩ PySem.F.entry_list_index (PySem.F.args_list_index_2 _ _)
  (list_indexAt l its.toArray n dd sl (.str z t) (isTx z) (ss.idxOf z) (by simp;omega) (by omega) ?_ ?_) ⟨ho,fun y hy=>isTx_eq z t sa y (by simpa using hy),.int ((ss.idxOf z:Nat):Int),H,I.tok _,⟨_,rfl⟩,q⟩
 ·show isTx z its[ss.idxOf z]=true
  rw [isTx_at z sa _ (by omega) hj]
  simpa using List.getElem_idxOf hj
 ·intro j hjs hlt
  show isTx z its[j]=false
  rw [isTx_at z sa j (by simpa using hjs) (by omega)]
  exact beq_false_of_ne (idx_ne _ hlt)
end
section
variable {K : Frag} {H : Hp} {Q : VK}
theorem r_idxS {l:Addr} {ss:List Str} {j:Nat} (h:SqL K H l (ss.map V.str)) (nd:ss.Nodup) (hj:j < ss.length) (q:Q (.int (j:Int)) H):rIdxS K (.ref l) [.str ss[j]] H Q:=⟨l,ss,ss[j],rfl,rfl,h,zJ hj,by
 have e:ss.idxOf ss[j]=j:=List.Nodup.idxOf_getElem nd j hj
 rw [e];exact q⟩
end
end My
namespace My
open PySem PySem.Spec PyProof.Rows L2
section
variable {X : Cx}
end
section
variable {K : Frag} {H : Hp} {Q : VK}
end
section
variable {X : Cx}
def rEqP (K:Frag):R2:=fun x y H Q=>rEqD K x y H Q∨∃a xs,x=.ref a∧y=.non∧SqT K H a xs∧Q (.bl false) H
theorem op_eqP (hu:X.A.units+8 < cLine):OpR X (compareOp .Eq) (rEqP X.K):=by
 intro pins s σ H x y v u Q I rx ry h
 rcases h with h|⟨a,xs,rfl,rfl,hS,q⟩
 ·exact op_eqD hu pins s σ H x y v u Q I rx ry h
 ·cases rx
  cases ry
  obtain⟨its,r1,p1,_⟩:=I.tuple hS
  exact SeqAt.RcAt.tuple_none p1 (by omega) X.prog X.w X.xe (EP X pins σ Q) ⟨.bl false,H,I,rfl,q⟩
end
end My
namespace My
open PySem PySem.Spec PyProof.Rows L2 PyProof PySem.SeqAt
section
variable {X : Cx}
def rAddL (K:Frag):R2:=fun x y H Q=>∃a b xs ys,x=.ref a∧y=.ref b∧SqL K H a xs∧SqL K H b ys∧xs.length+ys.length≤sizeLine∧∀p,H p=none→Q (.ref p) (upd H p (.lst (xs++ys)))
theorem qdd:OpR X (binaryOp .Add) (rAddL X.K):=by
 intro pins s σ H x y v u Q I rx ry h
 obtain⟨a,b,xs,ys,rfl,rfl,hx,hy,hz,q⟩:=h
 cases rx
 cases ry
 obtain⟨its,r1,p1,z1⟩:=I.list hx
 obtain⟨its2,r2,p2,z2⟩:=I.list hy
 have l1:=r1.length
 have l2:=r2.length
 obtain⟨⟨cls,dd,data,sl⟩,ho,hc,n,hd⟩:=id (PlainL.isList p1)
 obtain⟨⟨cls2,dd2,data2,sl2⟩,ho2,hc2,n2,hd2⟩:=id (PlainL.isList p2)
 simp only at hc hd hc2 hd2
 subst hc hd hc2 hd2
 have e:its.toArray++its2.toArray=(its++its2).toArray:=by simp
 refine concat_meets ⟨_,ho,rfl⟩ ⟨_,ho2,rfl⟩ noFill_list_add seq_list_add PySem.F.slot_list_add PySem.F.entry_list_add (PySem.F.args_list_add_2 _ _) (list_addW a b its.toArray its2.toArray n n2 dd dd2 sl sl2 (by rw [zP,zP];omega)) ⟨ho,ho2,?_⟩
 rw [e]
 refine⟨.ref s.heap.objs.size,_,I.laid (t':=s.toks) (o:=.lst (xs++ys)) (fun b ob q=>Heap.get?_push_of_some _ q) (Nat.le_refl _) ?_,rfl,q _ (I.hok.fresh (Nat.le_refl _))⟩
 exact⟨by rw [zG];exact hz,_,0,r1.append r2,Heap.get?_push_size _ rfl⟩
end
section
variable {K : Frag} {H : Hp} {Q : VK}
theorem qdw {a b:Addr} {xs ys:List V} (hx:SqL K H a xs) (hy:SqL K H b ys) (hz:xs.length+ys.length≤sizeLine) (q:∀p,H p=none→Q (.ref p) (upd H p (.lst (xs++ys)))):rAddL K (.ref a) (.ref b) H Q:=⟨a,b,xs,ys,rfl,rfl,hx,hy,hz,q⟩
end
end My
set_option maxHeartbeats 4000000
set_option exponentiation.threshold 1000
namespace Our
open PySem L2 My
def top (i:Nat):PySem.Stmt:=PySem.Challenge.pw_quotatree_k38_the_bar_tested.main.body.getD i (.Pass ⟨0,0,0,0⟩)
def qdi:PySem.Stmt→Nat→PySem.Stmt
 | .ClassDef _ _ _ body _ _ _ _ _ _ _,j=>body.getD j (.Pass ⟨0,0,0,0⟩)
 |s,_=>s
abbrev s_is_whole:PySem.Stmt:=top 15
abbrev s_is_name:PySem.Stmt:=top 16
abbrev s_is_whole_from:PySem.Stmt:=top 17
abbrev s_is_amount:PySem.Stmt:=top 19
abbrev s_amounts_of:PySem.Stmt:=top 20
abbrev s_above_nought:PySem.Stmt:=top 21
abbrev s_amount_of:PySem.Stmt:=top 22
abbrev s_added:PySem.Stmt:=top 23
abbrev s_beyond:PySem.Stmt:=top 24
abbrev s_total_of:PySem.Stmt:=top 25
abbrev s_holds_beneath:PySem.Stmt:=top 29
abbrev s_held_by:PySem.Stmt:=top 30
abbrev s_taking:PySem.Stmt:=top 32
abbrev s_used:PySem.Stmt:=top 33
abbrev s_rooms_left:PySem.Stmt:=top 34
abbrev s_first_lack:PySem.Stmt:=top 35
abbrev s_bar:PySem.Stmt:=top 36
abbrev s_is_bar:PySem.Stmt:=top 37
abbrev s_are_wares:PySem.Stmt:=top 44
abbrev s_check_name:PySem.Stmt:=top 45
abbrev s_read_house:PySem.Stmt:=top 46
abbrev s_check_promises:PySem.Stmt:=top 47
abbrev s_cell:PySem.Stmt:=top 50
abbrev s_mix:PySem.Stmt:=top 51
abbrev s_names:PySem.Stmt:=top 53
abbrev s_elders:PySem.Stmt:=top 54
abbrev s_line:PySem.Stmt:=top 55
abbrev s_told:PySem.Stmt:=top 56
abbrev s_parts:PySem.Stmt:=top 57
abbrev s_rows:PySem.Stmt:=top 58
abbrev s_objects:PySem.Stmt:=top 59
abbrev s_promises:PySem.Stmt:=top 60
abbrev s_tree:PySem.Stmt:=top 61
abbrev s_sum:PySem.Stmt:=top 62
abbrev s_caps:PySem.Stmt:=top 63
abbrev s_taken:PySem.Stmt:=top 64
abbrev s_new:PySem.Stmt:=top 65
abbrev s_l_bar:PySem.Stmt:=top 66
abbrev s_least:PySem.Stmt:=top 67
abbrev s_move:PySem.Stmt:=top 68
abbrev s_spoiled:PySem.Stmt:=top 69
abbrev s_paper:PySem.Stmt:=top 70
abbrev s_right:PySem.Stmt:=top 71
abbrev s_law:PySem.Stmt:=top 72
abbrev s_House_init:PySem.Stmt:=qdi (top 43) 0
abbrev s_Tree_init:PySem.Stmt:=qdi (top 48) 0
abbrev s_Tree_found:PySem.Stmt:=qdi (top 48) 1
abbrev s_Tree_wares:PySem.Stmt:=qdi (top 48) 2
abbrev s_Tree_names:PySem.Stmt:=qdi (top 48) 3
abbrev s_Tree_has:PySem.Stmt:=qdi (top 48) 4
abbrev s_Tree_check_house:PySem.Stmt:=qdi (top 48) 5
abbrev s_Tree_house_of:PySem.Stmt:=qdi (top 48) 6
abbrev s_Tree_elder_of:PySem.Stmt:=qdi (top 48) 7
abbrev s_Tree_cap_of:PySem.Stmt:=qdi (top 48) 9
abbrev s_Tree_kids:PySem.Stmt:=qdi (top 48) 11
abbrev s_Tree_line:PySem.Stmt:=qdi (top 48) 12
abbrev s_Tree_beneath:PySem.Stmt:=qdi (top 48) 13
abbrev s_Tree_promised_beneath:PySem.Stmt:=qdi (top 48) 14
abbrev s_Tree_check_more:PySem.Stmt:=qdi (top 48) 16
abbrev s_Hold_init:PySem.Stmt:=qdi (top 27) 0
abbrev s_i_NoPromise:PySem.Stmt:=qdi (top 11) 0
set_option genSizeOf false in
set_option genInjectivity false in
structure Ad where
 f_is_whole:Addr
 fd_is_whole:FuncData
 f_is_name:Addr
 fd_is_name:FuncData
 f_is_whole_from:Addr
 fd_is_whole_from:FuncData
 f_is_amount:Addr
 fd_is_amount:FuncData
 f_amounts_of:Addr
 fd_amounts_of:FuncData
 f_above_nought:Addr
 fd_above_nought:FuncData
 f_amount_of:Addr
 fd_amount_of:FuncData
 f_added:Addr
 fd_added:FuncData
 f_beyond:Addr
 fd_beyond:FuncData
 f_total_of:Addr
 fd_total_of:FuncData
 f_holds_beneath:Addr
 fd_holds_beneath:FuncData
 f_held_by:Addr
 fd_held_by:FuncData
 f_taking:Addr
 fd_taking:FuncData
 f_used:Addr
 fd_used:FuncData
 f_rooms_left:Addr
 fd_rooms_left:FuncData
 f_first_lack:Addr
 fd_first_lack:FuncData
 f_bar:Addr
 fd_bar:FuncData
 f_is_bar:Addr
 fd_is_bar:FuncData
 f_are_wares:Addr
 fd_are_wares:FuncData
 f_check_name:Addr
 fd_check_name:FuncData
 f_read_house:Addr
 fd_read_house:FuncData
 f_check_promises:Addr
 fd_check_promises:FuncData
 f_cell:Addr
 fd_cell:FuncData
 f_mix:Addr
 fd_mix:FuncData
 f_names:Addr
 fd_names:FuncData
 f_elders:Addr
 fd_elders:FuncData
 f_line:Addr
 fd_line:FuncData
 f_told:Addr
 fd_told:FuncData
 f_parts:Addr
 fd_parts:FuncData
 f_rows:Addr
 fd_rows:FuncData
 f_objects:Addr
 fd_objects:FuncData
 f_promises:Addr
 fd_promises:FuncData
 f_tree:Addr
 fd_tree:FuncData
 f_sum:Addr
 fd_sum:FuncData
 f_caps:Addr
 fd_caps:FuncData
 f_taken:Addr
 fd_taken:FuncData
 f_new:Addr
 fd_new:FuncData
 f_l_bar:Addr
 fd_l_bar:FuncData
 f_least:Addr
 fd_least:FuncData
 f_move:Addr
 fd_move:FuncData
 f_spoiled:Addr
 fd_spoiled:FuncData
 f_paper:Addr
 fd_paper:FuncData
 f_right:Addr
 fd_right:FuncData
 f_law:Addr
 fd_law:FuncData
 f_House_init:Addr
 fd_House_init:FuncData
 f_Tree_init:Addr
 fd_Tree_init:FuncData
 t_Tree_init:Addr
 v0_Tree_init:Value
 f_Tree_found:Addr
 fd_Tree_found:FuncData
 t_Tree_found:Addr
 v0_Tree_found:Value
 f_Tree_wares:Addr
 fd_Tree_wares:FuncData
 f_Tree_names:Addr
 fd_Tree_names:FuncData
 f_Tree_has:Addr
 fd_Tree_has:FuncData
 f_Tree_check_house:Addr
 fd_Tree_check_house:FuncData
 f_Tree_house_of:Addr
 fd_Tree_house_of:FuncData
 f_Tree_elder_of:Addr
 fd_Tree_elder_of:FuncData
 f_Tree_cap_of:Addr
 fd_Tree_cap_of:FuncData
 f_Tree_kids:Addr
 fd_Tree_kids:FuncData
 f_Tree_line:Addr
 fd_Tree_line:FuncData
 f_Tree_beneath:Addr
 fd_Tree_beneath:FuncData
 f_Tree_promised_beneath:Addr
 fd_Tree_promised_beneath:FuncData
 f_Tree_check_more:Addr
 fd_Tree_check_more:FuncData
 f_Hold_init:Addr
 fd_Hold_init:FuncData
 f_i_NoPromise:Addr
 fd_i_NoPromise:FuncData
 c_House:Addr
 c_Tree:Addr
 c_Hold:Addr
 c_Loan:Addr
 c_TreeError:Addr
 c_NoName:Addr
 c_Taken:Addr
 c_NoHouse:Addr
 c_NoPromise:Addr
 c_NoWare:Addr
 c_NoAmount:Addr
 c_NoNumber:Addr
 c_TooMany:Addr
 c_TooDeep:Addr
 u_LETTERS:Value
 u_LONGEST_NAME:Value
 u_MOST_WARES:Value
 u_MOST_HOUSES:Value
 u_LONGEST_LINE:Value
 u_GREATEST_WEIGHT:Value
structure Tx (K:Frag) (mg:Str→Option Value) (d:Ad):Prop where
 F_is_whole:Fun K "is_whole" "is_whole" s_is_whole d.f_is_whole d.fd_is_whole
 m_is_whole:mg "is_whole" =some (.ref d.f_is_whole)
 b_is_whole:qao K d.fd_is_whole ["thing"] []
 F_is_name:Fun K "is_name" "is_name" s_is_name d.f_is_name d.fd_is_name
 m_is_name:mg "is_name" =some (.ref d.f_is_name)
 b_is_name:qao K d.fd_is_name ["thing"] []
 F_is_whole_from:Fun K "is_whole_from" "is_whole_from" s_is_whole_from d.f_is_whole_from d.fd_is_whole_from
 m_is_whole_from:mg "is_whole_from" =some (.ref d.f_is_whole_from)
 b_is_whole_from:qao K d.fd_is_whole_from ["thing","least","most"] []
 F_is_amount:Fun K "is_amount" "is_amount" s_is_amount d.f_is_amount d.fd_is_amount
 m_is_amount:mg "is_amount" =some (.ref d.f_is_amount)
 b_is_amount:qao K d.fd_is_amount ["thing"] []
 F_amounts_of:Fun K "amounts_of" "amounts_of" s_amounts_of d.f_amounts_of d.fd_amounts_of
 m_amounts_of:mg "amounts_of" =some (.ref d.f_amounts_of)
 b_amounts_of:qao K d.fd_amounts_of ["handed","wares"] []
 F_above_nought:Fun K "above_nought" "above_nought" s_above_nought d.f_above_nought d.fd_above_nought
 m_above_nought:mg "above_nought" =some (.ref d.f_above_nought)
 b_above_nought:qao K d.fd_above_nought ["amounts"] []
 F_amount_of:Fun K "amount_of" "amount_of" s_amount_of d.f_amount_of d.fd_amount_of
 m_amount_of:mg "amount_of" =some (.ref d.f_amount_of)
 b_amount_of:qao K d.fd_amount_of ["amounts","ware"] []
 F_added:Fun K "added" "added" s_added d.f_added d.fd_added
 m_added:mg "added" =some (.ref d.f_added)
 b_added:qao K d.fd_added ["one","other"] []
 F_beyond:Fun K "beyond" "beyond" s_beyond d.f_beyond d.fd_beyond
 m_beyond:mg "beyond" =some (.ref d.f_beyond)
 b_beyond:qao K d.fd_beyond ["one","other"] []
 F_total_of:Fun K "total_of" "total_of" s_total_of d.f_total_of d.fd_total_of
 m_total_of:mg "total_of" =some (.ref d.f_total_of)
 b_total_of:qao K d.fd_total_of ["many"] []
 F_holds_beneath:Fun K "holds_beneath" "holds_beneath" s_holds_beneath d.f_holds_beneath d.fd_holds_beneath
 m_holds_beneath:mg "holds_beneath" =some (.ref d.f_holds_beneath)
 b_holds_beneath:qao K d.fd_holds_beneath ["tree","holds","house"] []
 F_held_by:Fun K "held_by" "held_by" s_held_by d.f_held_by d.fd_held_by
 m_held_by:mg "held_by" =some (.ref d.f_held_by)
 b_held_by:qao K d.fd_held_by ["holds"] []
 F_taking:Fun K "taking" "taking" s_taking d.f_taking d.fd_taking
 m_taking:mg "taking" =some (.ref d.f_taking)
 b_taking:qao K d.fd_taking ["tree","holds","house","ware"] []
 F_used:Fun K "used" "used" s_used d.f_used d.fd_used
 m_used:mg "used" =some (.ref d.f_used)
 b_used:qao K d.fd_used ["tree","holds","house"] []
 F_rooms_left:Fun K "rooms_left" "rooms_left" s_rooms_left d.f_rooms_left d.fd_rooms_left
 m_rooms_left:mg "rooms_left" =some (.ref d.f_rooms_left)
 b_rooms_left:qao K d.fd_rooms_left ["tree","holds","line","amounts"] []
 F_first_lack:Fun K "first_lack" "first_lack" s_first_lack d.f_first_lack d.fd_first_lack
 m_first_lack:mg "first_lack" =some (.ref d.f_first_lack)
 b_first_lack:qao K d.fd_first_lack ["tree","holds","line","amounts"] []
 F_bar:Fun K "bar" "bar" s_bar d.f_bar d.fd_bar
 m_bar:mg "bar" =some (.ref d.f_bar)
 b_bar:qao K d.fd_bar ["tree","holds","house","elder"] []
 F_is_bar:Fun K "is_bar" "is_bar" s_is_bar d.f_is_bar d.fd_is_bar
 m_is_bar:mg "is_bar" =some (.ref d.f_is_bar)
 b_is_bar:qao K d.fd_is_bar ["tree","holds","house","elder","paper"] []
 F_are_wares:Fun K "are_wares" "are_wares" s_are_wares d.f_are_wares d.fd_are_wares
 m_are_wares:mg "are_wares" =some (.ref d.f_are_wares)
 b_are_wares:qao K d.fd_are_wares ["thing"] []
 F_check_name:Fun K "check_name" "check_name" s_check_name d.f_check_name d.fd_check_name
 m_check_name:mg "check_name" =some (.ref d.f_check_name)
 b_check_name:qao K d.fd_check_name ["thing"] []
 F_read_house:Fun K "read_house" "read_house" s_read_house d.f_read_house d.fd_read_house
 m_read_house:mg "read_house" =some (.ref d.f_read_house)
 b_read_house:qao K d.fd_read_house ["wares","elder","promise","cap","weight"] []
 F_check_promises:Fun K "check_promises" "check_promises" s_check_promises d.f_check_promises d.fd_check_promises
 m_check_promises:mg "check_promises" =some (.ref d.f_check_promises)
 b_check_promises:qao K d.fd_check_promises ["name","promises","cap"] []
 F_cell:Fun K "_law_cell" "_law_cell" s_cell d.f_cell d.fd_cell
 m_cell:mg "_law_cell" =some (.ref d.f_cell)
 b_cell:qao K d.fd_cell ["_law_script","_law_k"] []
 F_mix:Fun K "_law_mix" "_law_mix" s_mix d.f_mix d.fd_mix
 m_mix:mg "_law_mix" =some (.ref d.f_mix)
 b_mix:qao K d.fd_mix ["_law_cell_here","_law_k","_law_many"] []
 F_names:Fun K "_law_names" "_law_names" s_names d.f_names d.fd_names
 m_names:mg "_law_names" =some (.ref d.f_names)
 b_names:qao K d.fd_names ["_law_cell_here","_law_many"] []
 F_elders:Fun K "_law_elders" "_law_elders" s_elders d.f_elders d.fd_elders
 m_elders:mg "_law_elders" =some (.ref d.f_elders)
 b_elders:qao K d.fd_elders ["_law_script","_law_start","_law_many"] []
 F_line:Fun K "_law_line" "_law_line" s_line d.f_line d.fd_line
 m_line:mg "_law_line" =some (.ref d.f_line)
 b_line:qao K d.fd_line ["_law_elders_here","_law_at"] []
 F_told:Fun K "_law_told" "_law_told" s_told d.f_told d.fd_told
 m_told:mg "_law_told" =some (.ref d.f_told)
 b_told:qao K d.fd_told ["_law_wares","_law_parts_here"] []
 F_parts:Fun K "_law_parts" "_law_parts" s_parts d.f_parts d.fd_parts
 m_parts:mg "_law_parts" =some (.ref d.f_parts)
 b_parts:qao K d.fd_parts ["_law_cell_here","_law_kinds","_law_scale"] []
 F_rows:Fun K "_law_rows" "_law_rows" s_rows d.f_rows d.fd_rows
 m_rows:mg "_law_rows" =some (.ref d.f_rows)
 b_rows:qao K d.fd_rows ["_law_script","_law_start","_law_houses","_law_kinds"] []
 F_objects:Fun K "_law_objects" "_law_objects" s_objects d.f_objects d.fd_objects
 m_objects:mg "_law_objects" =some (.ref d.f_objects)
 b_objects:qao K d.fd_objects ["_law_rows_here","_law_names_here","_law_wares"] []
 F_promises:Fun K "_law_promises" "_law_promises" s_promises d.f_promises d.fd_promises
 m_promises:mg "_law_promises" =some (.ref d.f_promises)
 b_promises:qao K d.fd_promises ["_law_cell_here","_law_elders_here","_law_caps_here"] []
 F_tree:Fun K "_law_tree" "_law_tree" s_tree d.f_tree d.fd_tree
 m_tree:mg "_law_tree" =some (.ref d.f_tree)
 b_tree:qao K d.fd_tree ["_law_cell_here","_law_names_here","_law_wares","_law_elders_here","_law_caps_here"] []
 F_sum:Fun K "_law_sum" "_law_sum" s_sum d.f_sum d.fd_sum
 m_sum:mg "_law_sum" =some (.ref d.f_sum)
 b_sum:qao K d.fd_sum ["_law_rows_here","_law_elders_here","_law_at","_law_j"] []
 F_caps:Fun K "_law_caps" "_law_caps" s_caps d.f_caps d.fd_caps
 m_caps:mg "_law_caps" =some (.ref d.f_caps)
 b_caps:qao K d.fd_caps ["_law_cell_here","_law_elders_here","_law_kinds","_law_least_here"] []
 F_taken:Fun K "_law_taken" "_law_taken" s_taken d.f_taken d.fd_taken
 m_taken:mg "_law_taken" =some (.ref d.f_taken)
 b_taken:qao K d.fd_taken ["_law_rows_here","_law_elders_here","_law_at","_law_j"] []
 F_new:Fun K "_law_new" "_law_new" s_new d.f_new d.fd_new
 m_new:mg "_law_new" =some (.ref d.f_new)
 b_new:qao K d.fd_new ["_law_elders_here","_law_home","_law_elder"] []
 F_l_bar:Fun K "_law_bar" "_law_bar" s_l_bar d.f_l_bar d.fd_l_bar
 m_l_bar:mg "_law_bar" =some (.ref d.f_l_bar)
 b_l_bar:qao K d.fd_l_bar ["_law_names_here","_law_wares","_law_elders_here","_law_caps_here","_law_rows_here","_law_home","_law_elder"] []
 F_least:Fun K "_law_least" "_law_least" s_least d.f_least d.fd_least
 m_least:mg "_law_least" =some (.ref d.f_least)
 b_least:qao K d.fd_least ["_law_rows_here","_law_elders_here","_law_kinds","_law_home","_law_elder"] []
 F_move:Fun K "_law_move" "_law_move" s_move d.f_move d.fd_move
 m_move:mg "_law_move" =some (.ref d.f_move)
 b_move:qao K d.fd_move ["_law_cell_here","_law_elders_here"] []
 F_spoiled:Fun K "_law_spoiled" "_law_spoiled" s_spoiled d.f_spoiled d.fd_spoiled
 m_spoiled:mg "_law_spoiled" =some (.ref d.f_spoiled)
 b_spoiled:qao K d.fd_spoiled ["_law_cell_here","_law_holders"] []
 F_paper:Fun K "_law_paper" "_law_paper" s_paper d.f_paper d.fd_paper
 m_paper:mg "_law_paper" =some (.ref d.f_paper)
 b_paper:qao K d.fd_paper ["_law_cell_here","_law_due","_law_names_here","_law_wares","_law_elders_here","_law_rows_here"] []
 F_right:Fun K "_law_right" "_law_right" s_right d.f_right d.fd_right
 m_right:mg "_law_right" =some (.ref d.f_right)
 b_right:qao K d.fd_right ["_law_tree_here","_law_holds","_law_home","_law_elder","_law_paper_here","_law_due"] []
 F_law:Fun K "law" "law" s_law d.f_law d.fd_law
 m_law:mg "law" =some (.ref d.f_law)
 F_House_init:Fun K "__init__" "House.__init__" s_House_init d.f_House_init d.fd_House_init
 b_House_init:qao K d.fd_House_init ["self","elder","promise","cap","weight"] []
 F_Tree_init:My.FunD K "__init__" "Tree.__init__" s_Tree_init d.f_Tree_init d.fd_Tree_init d.t_Tree_init #[d.v0_Tree_init]
 b_Tree_init:qao K d.fd_Tree_init ["self","wares","name","promise","cap","weight"] []
 b1_Tree_init:qao K d.fd_Tree_init ["self","wares","name","promise","cap","weight"] [d.v0_Tree_init]
 rd_Tree_init:qb9 [.int 1] [d.v0_Tree_init]
 F_Tree_found:My.FunD K "found" "Tree.found" s_Tree_found d.f_Tree_found d.fd_Tree_found d.t_Tree_found #[d.v0_Tree_found]
 b_Tree_found:qao K d.fd_Tree_found ["self","name","elder","promise","cap","weight"] []
 b1_Tree_found:qao K d.fd_Tree_found ["self","name","elder","promise","cap","weight"] [d.v0_Tree_found]
 rd_Tree_found:qb9 [.int 1] [d.v0_Tree_found]
 F_Tree_wares:Fun K "wares" "Tree.wares" s_Tree_wares d.f_Tree_wares d.fd_Tree_wares
 b_Tree_wares:qao K d.fd_Tree_wares ["self"] []
 F_Tree_names:Fun K "names" "Tree.names" s_Tree_names d.f_Tree_names d.fd_Tree_names
 b_Tree_names:qao K d.fd_Tree_names ["self"] []
 F_Tree_has:Fun K "has" "Tree.has" s_Tree_has d.f_Tree_has d.fd_Tree_has
 b_Tree_has:qao K d.fd_Tree_has ["self","thing"] []
 F_Tree_check_house:Fun K "check_house" "Tree.check_house" s_Tree_check_house d.f_Tree_check_house d.fd_Tree_check_house
 b_Tree_check_house:qao K d.fd_Tree_check_house ["self","thing"] []
 F_Tree_house_of:Fun K "house_of" "Tree.house_of" s_Tree_house_of d.f_Tree_house_of d.fd_Tree_house_of
 b_Tree_house_of:qao K d.fd_Tree_house_of ["self","name"] []
 F_Tree_elder_of:Fun K "elder_of" "Tree.elder_of" s_Tree_elder_of d.f_Tree_elder_of d.fd_Tree_elder_of
 b_Tree_elder_of:qao K d.fd_Tree_elder_of ["self","name"] []
 F_Tree_cap_of:Fun K "cap_of" "Tree.cap_of" s_Tree_cap_of d.f_Tree_cap_of d.fd_Tree_cap_of
 b_Tree_cap_of:qao K d.fd_Tree_cap_of ["self","name"] []
 F_Tree_kids:Fun K "kids" "Tree.kids" s_Tree_kids d.f_Tree_kids d.fd_Tree_kids
 b_Tree_kids:qao K d.fd_Tree_kids ["self","name"] []
 F_Tree_line:Fun K "line" "Tree.line" s_Tree_line d.f_Tree_line d.fd_Tree_line
 b_Tree_line:qao K d.fd_Tree_line ["self","name"] []
 F_Tree_beneath:Fun K "beneath" "Tree.beneath" s_Tree_beneath d.f_Tree_beneath d.fd_Tree_beneath
 b_Tree_beneath:qao K d.fd_Tree_beneath ["self","name"] []
 F_Tree_promised_beneath:Fun K "promised_beneath" "Tree.promised_beneath" s_Tree_promised_beneath d.f_Tree_promised_beneath d.fd_Tree_promised_beneath
 b_Tree_promised_beneath:qao K d.fd_Tree_promised_beneath ["self","name"] []
 F_Tree_check_more:Fun K "check_more" "Tree.check_more" s_Tree_check_more d.f_Tree_check_more d.fd_Tree_check_more
 b_Tree_check_more:qao K d.fd_Tree_check_more ["self","names","more"] []
 F_Hold_init:Fun K "__init__" "Hold.__init__" s_Hold_init d.f_Hold_init d.fd_Hold_init
 b_Hold_init:qao K d.fd_Hold_init ["self","number","house","amounts","rank","turns"] []
 F_i_NoPromise:Fun K "__init__" "NoPromise.__init__" s_i_NoPromise d.f_i_NoPromise d.fd_i_NoPromise
 XI_NoPromise:My.XClI K d.c_NoPromise d.f_i_NoPromise
 b_i_NoPromise:qao K d.fd_i_NoPromise ["self","house","ware"] []
 m_House:mg "House" =some (.ref d.c_House)
 m_Tree:mg "Tree" =some (.ref d.c_Tree)
 m_Hold:mg "Hold" =some (.ref d.c_Hold)
 m_Loan:mg "Loan" =some (.ref d.c_Loan)
 m_TreeError:mg "TreeError" =some (.ref d.c_TreeError)
 m_NoName:mg "NoName" =some (.ref d.c_NoName)
 m_Taken:mg "Taken" =some (.ref d.c_Taken)
 m_NoHouse:mg "NoHouse" =some (.ref d.c_NoHouse)
 m_NoPromise:mg "NoPromise" =some (.ref d.c_NoPromise)
 m_NoWare:mg "NoWare" =some (.ref d.c_NoWare)
 m_NoAmount:mg "NoAmount" =some (.ref d.c_NoAmount)
 m_NoNumber:mg "NoNumber" =some (.ref d.c_NoNumber)
 m_TooMany:mg "TooMany" =some (.ref d.c_TooMany)
 m_TooDeep:mg "TooDeep" =some (.ref d.c_TooDeep)
 m_LETTERS:mg "LETTERS" =some d.u_LETTERS
 r_LETTERS:qba (.str "abcdefghijklmnopqrstuvwxyz") d.u_LETTERS
 m_LONGEST_NAME:mg "LONGEST_NAME" =some d.u_LONGEST_NAME
 r_LONGEST_NAME:qba (.int 8) d.u_LONGEST_NAME
 m_MOST_WARES:mg "MOST_WARES" =some d.u_MOST_WARES
 r_MOST_WARES:qba (.int 6) d.u_MOST_WARES
 m_MOST_HOUSES:mg "MOST_HOUSES" =some d.u_MOST_HOUSES
 r_MOST_HOUSES:qba (.int 40) d.u_MOST_HOUSES
 m_LONGEST_LINE:mg "LONGEST_LINE" =some d.u_LONGEST_LINE
 r_LONGEST_LINE:qba (.int 12) d.u_LONGEST_LINE
 m_GREATEST_WEIGHT:mg "GREATEST_WEIGHT" =some d.u_GREATEST_WEIGHT
 r_GREATEST_WEIGHT:qba (.int 1000) d.u_GREATEST_WEIGHT
 z_all:mg "all" =none
 z_bool:mg "bool" =none
 z_dict:mg "dict" =none
 z_int:mg "int" =none
 z_isinstance:mg "isinstance" =none
 z_len:mg "len" =none
 z_list:mg "list" =none
 z_max:mg "max" =none
 z_min:mg "min" =none
 z_range:mg "range" =none
 z_reversed:mg "reversed" =none
 z_set:mg "set" =none
 z_sorted:mg "sorted" =none
 z_str:mg "str" =none
 z_sum:mg "sum" =none
 z_zip:mg "zip" =none
 CL_House:Cls K d.c_House
 CL_Tree:Cls K d.c_Tree
 MK_House:Mk K d.c_House d.f_House_init
 MK_Tree:Mk K d.c_Tree d.f_Tree_init
 CL_Hold:Cls K d.c_Hold
 CL_Loan:Cls K d.c_Loan
 MK_Hold:Mk K d.c_Hold d.f_Hold_init
 MK_Loan:Mk K d.c_Loan d.f_Hold_init
 ME_Tree_found:Meth K d.c_Tree "found" d.f_Tree_found
 ME_Tree_wares:Meth K d.c_Tree "wares" d.f_Tree_wares
 ME_Tree_names:Meth K d.c_Tree "names" d.f_Tree_names
 ME_Tree_has:Meth K d.c_Tree "has" d.f_Tree_has
 ME_Tree_check_house:Meth K d.c_Tree "check_house" d.f_Tree_check_house
 ME_Tree_house_of:Meth K d.c_Tree "house_of" d.f_Tree_house_of
 ME_Tree_elder_of:Meth K d.c_Tree "elder_of" d.f_Tree_elder_of
 ME_Tree_cap_of:Meth K d.c_Tree "cap_of" d.f_Tree_cap_of
 ME_Tree_kids:Meth K d.c_Tree "kids" d.f_Tree_kids
 ME_Tree_line:Meth K d.c_Tree "line" d.f_Tree_line
 ME_Tree_beneath:Meth K d.c_Tree "beneath" d.f_Tree_beneath
 ME_Tree_promised_beneath:Meth K d.c_Tree "promised_beneath" d.f_Tree_promised_beneath
 ME_Tree_check_more:Meth K d.c_Tree "check_more" d.f_Tree_check_more
 NA_House_elder:findIn K (.ref d.c_House) "elder" =some none
 NA_House_promise:findIn K (.ref d.c_House) "promise" =some none
 NA_House_cap:findIn K (.ref d.c_House) "cap" =some none
 NA_House_weight:findIn K (.ref d.c_House) "weight" =some none
 NA_Tree_sorted_wares:findIn K (.ref d.c_Tree) "sorted_wares" =some none
 NA_Tree_houses:findIn K (.ref d.c_Tree) "houses" =some none
 NA_Hold_number:findIn K (.ref d.c_Hold) "number" =some none
 NA_Hold_house:findIn K (.ref d.c_Hold) "house" =some none
 NA_Hold_amounts:findIn K (.ref d.c_Hold) "amounts" =some none
 NA_Hold_rank:findIn K (.ref d.c_Hold) "rank" =some none
 NA_Hold_turns:findIn K (.ref d.c_Hold) "turns" =some none
 NA_Loan_number:findIn K (.ref d.c_Loan) "number" =some none
 NA_Loan_house:findIn K (.ref d.c_Loan) "house" =some none
 NA_Loan_amounts:findIn K (.ref d.c_Loan) "amounts" =some none
 NA_Loan_rank:findIn K (.ref d.c_Loan) "rank" =some none
 NA_Loan_turns:findIn K (.ref d.c_Loan) "turns" =some none
 X_NoHouse:My.XCls K d.c_NoHouse
 X_NoAmount:My.XCls K d.c_NoAmount
 X_NoWare:My.XCls K d.c_NoWare
 X_NoName:My.XCls K d.c_NoName
 X_NoNumber:My.XCls K d.c_NoNumber
 X_Taken:My.XCls K d.c_Taken
 X_TooMany:My.XCls K d.c_TooMany
 X_TooDeep:My.XCls K d.c_TooDeep
def eV:Option Str→V
 |none=> .non
 |some z=> .str z
structure Ho where
 el:Option Str
 pa:Addr
 kp:List (Key × V)
 fp:Str→Option Int
 ca:Addr
 kc:List (Key × V)
 fc:Str→Option Int
 w:Int
structure He where
 n:Str
 a:Addr
 x:Ho
structure Ts where
 sw:Addr
 ws:List Str
 hs:Addr
 hl:List He
def fsH (x:Ho):List (Str × V):=[("elder",eV x.el),("promise",.ref x.pa),("cap",.ref x.ca),("weight",.int x.w)]
def HoAt (d:Ad) (H:Hp) (a:Addr) (x:Ho):Prop:=(∃dx,H a=some (.ins d.c_House dx (fsH x)))∧H x.pa=some (.dK x.kp)∧AD x.kp x.fp∧H x.ca=some (.dK x.kc)∧AD x.kc x.fc
theorem HoAt.same {d:Ad} {H H':Hp} {a:Addr} {x:Ho} (h:HoAt d H a x) (s:qaq H H'):HoAt d H' a x:=⟨let ⟨dx,e⟩:=h.1;⟨dx,s _ _ e⟩,s _ _ h.2.1,h.2.2.1,s _ _ h.2.2.2.1,h.2.2.2.2⟩
def Ts.keys (S:Ts):List (Str × Addr):=S.hl.map fun e=>(e.n,e.a)
def Ts.at (S:Ts) (z:Str):Option He:=S.hl.find? fun e=>decide (e.n=z)
def fsT (S:Ts):List (Str × V):=[("sorted_wares",.ref S.sw),("houses",.ref S.hs)]
def qf5 (d:Ad) (H:Hp) (t:Addr) (S:Ts):Prop:=(∃dx,H t=some (.ins d.c_Tree dx (fsT S)))∧H S.sw=some (.lst (S.ws.map V.str))∧H S.hs=some (.dK (oK S.keys))∧(S.hl.map (·.n)).Nodup∧S.hl.length≤60∧∀e∈S.hl,HoAt d H e.a e.x
theorem qf5.same {d:Ad} {H H':Hp} {t:Addr} {S:Ts} (h:qf5 d H t S) (s:qaq H H'):qf5 d H' t S:=
 ⟨let ⟨dx,e⟩:=h.1;⟨dx,s _ _ e⟩,s _ _ h.2.1,s _ _ h.2.2.1,h.2.2.2.1,h.2.2.2.2.1,fun e he=>(h.2.2.2.2.2 e he).same s⟩
theorem qds (S:Ts) (z:Str):qde S.keys z=(S.at z).map (·.a):=by
 obtain⟨sw,ws,hs,hl⟩:=S
 unfold Ts.keys Ts.at
 dsimp only
 induction hl with
 |nil=>rfl
 |cons e r ih=>
  rw [zS,yM]
  unfold qde
  by_cases q:e.n=z
  ·rw [if_pos q,decide_eq_true q];rfl
  ·rw [if_neg q,decide_eq_false q];exact ih
theorem qc9 {S:Ts} {z:Str} {e:He} (h:S.at z=some e):e∈S.hl∧e.n=z:=⟨List.mem_of_find?_eq_some h,by have:=List.find?_some h;simpa using this⟩
def NotS (K:Frag) (H:Hp) (x:V):Prop:=∃t,TyOf K H x t∧kitOne K t (.type "str")=some false
def qeb (K:Frag) (H:Hp) (x:V):Prop:=(∃z,x=.str z)∨(NotS K H x∧∀z,x≠ .str z)
def who (S:Ts):V→Option He
 | .str z=>S.at z
 |_=>none
theorem qd8 {S:Ts} {x:V} (h:∀z,x≠ .str z):who S x=none:=by
 cases x <;> first|rfl|(rename_i z;exact absurd rfl (h z))
def sp_Tree_has (K:Frag) (d:Ad):Sp:=fun vs H Q _=>∃(t:Addr) (S:Ts) (x:V),vs=[.ref t,x]∧qf5 d H t S∧qeb K H x∧Q (.bl (who S x).isSome) H
def sp_Tree_check_house (K:Frag) (d:Ad):Sp:=fun vs H Q E=>∃(t:Addr) (S:Ts) (x:V),vs=[.ref t,x]∧qf5 d H t S∧qeb K H x∧(∀e,who S x=some e→Q .non H)∧(who S x=none→E (.ref d.c_NoHouse) none H)
def sp_Tree_house_of (K:Frag) (d:Ad):Sp:=fun vs H Q E=>∃(t:Addr) (S:Ts) (x:V),vs=[.ref t,x]∧qf5 d H t S∧qeb K H x∧(∀e,who S x=some e→Q (.ref e.a) H)∧(who S x=none→E (.ref d.c_NoHouse) none H)
def sp_Tree_elder_of (K:Frag) (d:Ad):Sp:=fun vs H Q E=>∃(t:Addr) (S:Ts) (x:V),vs=[.ref t,x]∧qf5 d H t S∧qeb K H x∧(∀e,who S x=some e→Q (eV e.x.el) H)∧(who S x=none→E (.ref d.c_NoHouse) none H)
def sp_Tree_cap_of (K:Frag) (d:Ad):Sp:=fun vs H Q E=>∃(t:Addr) (S:Ts) (x:V),vs=[.ref t,x]∧qf5 d H t S∧qeb K H x∧(∀e,who S x=some e→∀p,H p=none→Q (.ref p) (upd H p (.dK e.x.kc)))∧(who S x=none→E (.ref d.c_NoHouse) none H)
theorem r_notNs {H:Hp} {Q:VK} {a:Str} (h:Q (.bl true) H):rNotN (.str a) .non H Q:=⟨rfl,h⟩
theorem TyOf.same {K:Frag} {H H':Hp} {x:V} {t:Value} (h:TyOf K H x t) (s:qaq H H'):TyOf K H' x t:=by
 cases h with
 |non=>exact .non
 |bl b=>exact .bl b
 |int i=>exact .int i
 |str z=>exact .str z
 |flt z=>exact .flt z
 |lst e=>exact .lst (s _ _ e)
 |frz e=>exact .frz (s _ _ e)
 |tup e=>exact .tup (s _ _ e)
 |dK e=>exact .dK (s _ _ e)
 |dT e=>exact .dT (s _ _ e)
 |ins e c a n k m=>exact .ins (s _ _ e) c a n k m
theorem qeb.same {K:Frag} {H H':Hp} {x:V} (h:qeb K H x) (s:qaq H H'):qeb K H' x:=by
 rcases h with h|⟨⟨t,a,b⟩,n⟩
 ·exact .inl h
 ·exact .inr ⟨⟨t,TyOf.same a s,b⟩,n⟩
inductive LineOf (S:Ts):Str→List Str→Prop
 |top {z:Str} {e:He} (h:S.at z=some e) (n:e.x.el=none):LineOf S z [z]
 |up {z y:Str} {e:He} {zs:List Str} (h:S.at z=some e) (n:e.x.el=some y) (r:LineOf S y zs):LineOf S z (z :: zs)
def RestOf (S:Ts):Option Str→List Str→Prop
 |none,zs=>zs=[]
 |some y,zs=>LineOf S y zs
theorem LineOf.open {S:Ts} {z:Str} {zs:List Str} (h:LineOf S z zs):∃e r,S.at z=some e∧zs=z :: r∧RestOf S e.x.el r:=by
 cases h with
 |top h n=>exact⟨_, [],h,rfl,by rw [n];rfl⟩
 |up h n r=>exact⟨_,_,h,rfl,by rw [n];exact r⟩
def lenAt (l:Addr) (H:Hp):Nat:=match H l with
 |some (.lst xs)=>xs.length
 |_=>0
theorem lenAt_eq {l:Addr} {H:Hp} {xs:List V} (e:H l=some (.lst xs)):lenAt l H=xs.length:=by unfold lenAt;rw [e]
def sp_Tree_line (K:Frag) (d:Ad):Sp:=fun vs H Q E=>∃(t:Addr) (S:Ts) (x:V),vs=[.ref t,x]∧qf5 d H t S∧
 ((∃z zs,x=.str z∧LineOf S z zs∧zs.length≤1000∧∀l,H l=none→Q (.ref l) (upd H l (.lst (zs.map V.str))))∨(qeb K H x∧who S x=none∧∀l,H l=none→E (.ref d.c_NoHouse) none (upd H l (.lst [x]))))
def qbd (S:Ts) (z:Str):List Str:=(S.hl.filter fun e=>decide (e.x.el=some z)).map (·.n)
def sp_Tree_kids (K:Frag) (d:Ad):Sp:=fun vs H Q E=>∃(t:Addr) (S:Ts) (x:V),vs=[.ref t,x]∧qf5 d H t S∧qeb K H x∧(∀e,who S x=some e→∀l ss H',qaq H H'→H l=none→H' l=some (.lst (ss.map V.str))→ss.Perm (qbd S e.n)→PyProof.Rows.sortedS ss=true→Q (.ref l) H')∧(who S x=none→E (.ref d.c_NoHouse) none H)
def sp_amount_of (K:Frag) (d:Ad):Sp:=fun vs H Q _=>∃(a:Addr) (kvs:List (Key × V)) (f:Str→Option Int) (z:Str),vs=[.ref a,.str z]∧Rd H a (.dK kvs)∧AD kvs f∧Q (.int (gN f z)) H
def sp_above_nought (K:Frag) (d:Ad):Sp:=fun vs H Q _=>∃(a:Addr) (kvs:List (Key × V)) (f:Str→Option Int),vs=[.ref a]∧H a=some (.dK kvs)∧AD kvs f∧kvs.length≤1000∧
 ∀l k' H',qaq H H'→H l=none→H' l=some (.dK k')→AD k' (qct f)→Q (.ref l) H'
def sp_added (K:Frag) (d:Ad):Sp:=fun vs H Q _=>∃(a b:Addr) (ka kb:List (Key × V)) (f g:Str→Option Int),vs=[.ref a,.ref b]∧Rd H a (.dK ka)∧H b=some (.dK kb)∧AD ka f∧AD kb g∧ka.length≤1000∧kb.length≤1000∧
 ∀l k' H',qaq H H'→H l=none→H' l=some (.dK k')→AD k' (qfb f g)→Q (.ref l) H'
def sp_beyond (K:Frag) (d:Ad):Sp:=fun vs H Q _=>∃(a b:Addr) (ka kb:List (Key × V)) (f g:Str→Option Int),vs=[.ref a,.ref b]∧Rd H a (.dK ka)∧Rd H b (.dK kb)∧AD ka f∧AD kb g∧ka.length < 64∧
 (∀H',qaq H H'→(∀y,¬viol f g y)→Q .non H')∧∀z H',qaq H H'→viol f g z→(∀y,viol f g y→leS z y)→Q (.str z) H'
structure Pt where
 a:Addr
 k:List (Key × V)
 f:Str→Option Int
def sumF (ts:List Pt):Str→Option Int:=ts.foldl (fun f t=>qfb f t.f) noF
def PtOk (H:Hp) (ws:List Str) (t:Pt):Prop:=H t.a=some (.dK t.k)∧AD t.k t.f∧∀z,t.f z≠none→z∈ws
def sp_total_of (K:Frag) (d:Ad):Sp:=fun vs H Q _=>∃(L:Addr) (ts:List Pt) (ws:List Str),vs=[.ref L]∧SqL K H L (ts.map fun t=> .ref t.a)∧ws.length≤100∧(∀t∈ts,PtOk H ws t)∧
 ∀l k' H',qaq H H'→H l=none→H' l=some (.dK k')→AD k' (sumF ts)→Q (.ref l) H'
section
variable {K : Frag} {d : Ad} {H : Hp} {Q : VK} {E : XK}
theorem u_amount {a:Addr} {kvs:List (Key × V)} {f:Str→Option Int} {z:Str} (hR:Rd H a (.dK kvs)) (hA:AD kvs f) (q:Q (.int (gN f z)) H):sp_amount_of K d [.ref a,.str z] H Q E:=⟨a,kvs,f,z,rfl,hR,hA,q⟩
end
local macro_rules | `(tactic| walk_at "kit") => `(tactic| (with_reducible (first
 |assumption|exact kit_int_int|exact kit_int_bool|exact qg4
 |exact kit_str_str|exact kit_lst_lst|exact kit_dct_dct)))
local macro_rules | `(tactic| walk_at "ty") => `(tactic| (first
 |(with_reducible assumption) |(with_reducible exact TyOf.int _) |(with_reducible exact TyOf.bl _) |(with_reducible exact TyOf.str _)
 |(with_reducible exact TyOf.non) |((with_reducible refine' TyOf.tup ?h);(case h=>walk_at "heap")) |((with_reducible refine' TyOf.lst ?h);(case h=>walk_at "heap")) |((with_reducible refine' TyOf.dK ?h);(case h=>walk_at "heap"))))
local macro_rules | `(tactic| walk_at "heap") => `(tactic| first
 |with_reducible assumption|with_reducible exact qa1|((with_reducible refine' qa4 ?h ?n);(case n=>with_reducible assumption);(case h=>walk_at "heap")))
local macro_rules | `(tactic| walk_at "sqL") => `(tactic| first
 |with_reducible assumption|((with_reducible refine' sqL_new ?h ?n);(case n=>with_reducible assumption);(case h=>walk_at "sqL")) |((with_reducible refine' SqL.of ?h);(case h=>walk_at "heap")))
local macro_rules | `(tactic| walk_at "sqT") => `(tactic| first
 |with_reducible assumption|((with_reducible refine' sqT_new ?h ?n);(case n=>with_reducible assumption);(case h=>walk_at "sqT")) |((with_reducible refine' SqT.of ?h);(case h=>walk_at "heap")))
local macro_rules | `(tactic| walk_at "side") => `(tactic| first
 |assumption|exact rfl|omega|decide
 |(simp only [zM,yQ,zB];omega) |exact⟨by omega,by omega⟩ |exact⟨by decide,by decide⟩ |exact⟨by omega,by assumption⟩
 |exact⟨by assumption,by assumption⟩ |exact⟨by decide,by assumption⟩ |exact⟨by decide,by decide,by decide⟩)
local macro_rules | `(tactic| walk_at "size") => `(tactic| (first
 |assumption|(simp only [zM,yQ,zB,zT];first|decide|(show _≤16777216;omega) |(show _ < 16777216;omega)) |(show _≤16777216;omega) |(show _ < 16777216;omega)))
local macro_rules | `(tactic| walk_at "sp") => `(tactic| fail)
local macro_rules | `(tactic| walk_at "r1") => `(tactic| first
 |(with_reducible refine r_var (by with_unfolding_all exact rfl) ?_) |(with_reducible first|refine r_c ?_|refine r_op ?_|refine r_un ?_|refine r_I0 ?_|refine r_U ?_) |((with_reducible refine r_I ?hc ?_);(case hc=>walk_at "side")) |(with_reducible first|refine r_eqI ?_|refine r_eqB ?_|refine r_exb ?_|refine r_test ?_|refine r_tB ?_|refine r_and ?_|refine r_or ?_|refine r_not ?_|refine r_andV ?_|refine r_notV ?_|refine r_next ?_|refine r_seq ?_|refine r_drop ?_|refine r_ret ?_|refine r_if ?_|refine r_asg ?_)
 |(with_reducible refine r_name (by with_unfolding_all (simp only [List.set];exact rfl)) ?_) |(with_reducible first|refine r_gnil ?_|refine r_gcons ?_) |((with_reducible refine' r_gtup ?s ?n ?_);(case s=>walk_at "sqT");(case n=>exact rfl)) |(with_reducible first|refine r_for ?_|refine r_iL ?_|refine r_iR ?_)
 |((with_reducible refine' r_itL ?s ?_);(case s=>walk_at "sqL")) |((with_reducible refine' r_itR ?s ?t ?_);(case s=>walk_at "side");(case t=>walk_at "side")) |(with_reducible first|refine r_nx ?_|refine r_rt ?_|refine r_nil ?_|refine r_cons ?_|refine r_tup ?_|refine r_lst ?_) |((with_reducible refine r_new ?n ?_);(case n=>(simp only [zM,yQ];decide)))
 |((with_reducible refine r_fresh ?_);intro p hp) |(with_reducible first|refine r_call ?_|refine r_callX ?_|refine r_cb ?_|refine r_raise ?_) |((with_reducible refine' r_ixT ?s ?e ?_);(case s=>walk_at "sqT");(case e=>exact rfl)) |(with_reducible first|refine r_comp ?_|refine r_true ?_|refine r_iS ?_|refine r_itS ?_|refine r_inS ?_)
 |((with_reducible refine' r_app ?a ?z ?_);(case a=>walk_at "heap");(case z=>walk_at "size")) |((with_reducible refine' r_catS ?z ?_);(case z=>walk_at "size")) |((with_reducible refine' r_lenS ?z ?_);(case z=>walk_at "size")) |(with_reducible first|refine r_sl ?_|refine r_noPart ?_|refine r_part ?_|refine r_exi ?_|refine r_chain ?_)
 |((with_reducible refine' r_lenL ?s ?_);(case s=>walk_at "sqL")) |(with_reducible first|refine r_notNn ?_|refine r_notNr ?_) |((with_reducible refine' r_isi ?t ?k ?_);(case t=>walk_at "ty");(case k=>walk_at "kit")) |(with_reducible first|refine i_nT ?_|refine i_nF ?_|refine iteT ?_|refine iteF ?_)
 |((with_reducible refine i_t ?c ?_);(case c=>walk_at "side")) |((with_reducible refine i_f ?c ?_);(case c=>walk_at "side")) |walk_at "sp")
local macro_rules | `(tactic| walk_at "g") => `(tactic| repeat walk_at "r1")
local macro_rules|`(tactic|left)=>`(tactic|walk_at "g")
local macro_rules | `(tactic| walk_at "d") => `(tactic| try dsimp only [L2.cxOf, L2.Cx.nox, L2.Cx.wish, My.xw, pnd, suite])
local macro_rules | `(tactic| walk_at "rd") => `(tactic| first
 |with_reducible assumption|((with_reducible refine' rd_new ?h ?n);(case n=>with_reducible assumption);(case h=>walk_at "rd")) |((with_reducible refine' Rd.of ?h);(case h=>walk_at "heap")))
local macro_rules | `(tactic| walk_at "same") => `(tactic| first
 |with_reducible assumption|exact qaq.refl _|((with_reducible refine' qb7 ?h ?n);(case n=>with_reducible assumption);(case h=>walk_at "same")))
local macro_rules | `(tactic| walk_at "sp") => `(tactic| first
 |((with_reducible refine r_disp1 ?_);intro p hp) |((with_reducible refine' r_ds ?e ?_);(case e=>walk_at "heap")) |((with_reducible refine' r_glst ?s ?n ?_);(case s=>walk_at "sqL");(case n=>exact rfl)) |(with_reducible refine r_lrev ?_)
 |((with_reducible refine' r_lrevk ?s ?_);(case s=>walk_at "sqL");intro p hp) |((with_reducible refine' u_amount ?r ?a ?_);(case r=>walk_at "rd");(case a=>with_reducible assumption)) |((with_reducible refine' qb0 ?s ?e ?_);(case s=>walk_at "sqL");(case e=>exact rfl)) |(with_reducible refine r_dg2 ?_)
 |((with_reducible refine' r_dg2a ?r ?_);(case r=>walk_at "rd")) |((with_reducible refine' r_dg2b ?r ?a ?_);(case r=>walk_at "rd");(case a=>with_reducible assumption)) |(with_reducible refine r_dg ?_) |((with_reducible refine' r_dgk ?r ?a ?e ?_);(case r=>walk_at "rd");(case a=>with_reducible assumption);(case e=>with_reducible assumption))
 |(with_reducible refine r_dp ?_) |((with_reducible refine' r_dpk ?e ?z ?_);(case e=>walk_at "heap");(case z=>walk_at "size")) |((with_reducible refine r_dnew ?_);intro p hp) |(with_reducible first|refine r_thA ?_|refine r_iD ?_)
 |((with_reducible refine' r_dictCp ?e ?_);(case e=>walk_at "rd");intro p hp) |(with_reducible first|refine r_iZ ?_|refine r_lp ?_|refine r_max ?_|refine r_min ?_|refine r_mtX ?_) |((with_reducible refine' r_mtkX ?e ?l ?_);(case e=>walk_at "heap");(case l=>exact rfl)) |(with_reducible refine r_mkX ?_)
 |((with_reducible refine' r_mtk ?e ?l ?_);(case e=>walk_at "heap");(case l=>exact rfl)) |(with_reducible first|refine r_notNs ?_|refine r_di ?_) |((with_reducible refine' r_diO ?r ?_);(case r=>walk_at "rd")) |(with_reducible first|refine r_mk ?_|refine r_mt ?_|refine r_fl ?_|refine r_fs ?_)
 |((with_reducible refine' r_flk ?e ?c ?n ?l ?_);(case e=>walk_at "heap");(case c=>with_reducible assumption);(case n=>with_reducible assumption);(case l=>exact rfl)) |((with_reducible refine' qfy ?e ?c ?n ?z ?_);(case e=>walk_at "heap");(case c=>with_reducible assumption);(case n=>with_reducible assumption);(case z=>(show _ < 1000;decide))) |(with_reducible refine r_bm ?_) |((with_reducible refine' r_tyL ?s ?_);(case s=>walk_at "sqL"))
 |((with_reducible refine' r_append ?h ?z ?_);(case h=>walk_at "heap");(case z=>walk_at "size")))
theorem sc_is_whole:FnScope ["thing"] ["thing"] (qab s_is_whole):=⟨rfl,rfl,rfl,by decide+kernel,rfl,by decide+kernel,by decide+kernel⟩
theorem sc_is_name:FnScope ["thing"] ["thing"] (qab s_is_name):=⟨rfl,rfl,rfl,by decide+kernel,rfl,by decide+kernel,by decide+kernel⟩
theorem sc_is_whole_from:FnScope ["thing","least","most"] ["thing","least","most"] (qab s_is_whole_from):=⟨rfl,rfl,rfl,by decide+kernel,rfl,by decide+kernel,by decide+kernel⟩
theorem sc_is_amount:FnScope ["thing"] ["thing"] (qab s_is_amount):=⟨rfl,rfl,rfl,by decide+kernel,rfl,by decide+kernel,by decide+kernel⟩
theorem sc_amounts_of:FnScope ["handed","wares","key","ware"] ["handed","wares"] (qab s_amounts_of):=⟨rfl,rfl,rfl,by decide+kernel,rfl,by decide+kernel,by decide+kernel⟩
theorem sc_above_nought:FnScope ["amounts","told","ware"] ["amounts"] (qab s_above_nought):=⟨rfl,rfl,rfl,by decide+kernel,rfl,by decide+kernel,by decide+kernel⟩
theorem sc_amount_of:FnScope ["amounts","ware"] ["amounts","ware"] (qab s_amount_of):=⟨rfl,rfl,rfl,by decide+kernel,rfl,by decide+kernel,by decide+kernel⟩
theorem sc_added:FnScope ["one","other","told","ware"] ["one","other"] (qab s_added):=⟨rfl,rfl,rfl,by decide+kernel,rfl,by decide+kernel,by decide+kernel⟩
theorem sc_beyond:FnScope ["one","other","ware"] ["one","other"] (qab s_beyond):=⟨rfl,rfl,rfl,by decide+kernel,rfl,by decide+kernel,by decide+kernel⟩
theorem sc_total_of:FnScope ["many","total","amounts"] ["many"] (qab s_total_of):=⟨rfl,rfl,rfl,by decide+kernel,rfl,by decide+kernel,by decide+kernel⟩
theorem sc_holds_beneath:FnScope ["tree","holds","house","names"] ["tree","holds","house"] (qab s_holds_beneath):=⟨rfl,rfl,rfl,by decide+kernel,rfl,by decide+kernel,by decide+kernel⟩
theorem sc_held_by:FnScope ["holds"] ["holds"] (qab s_held_by):=⟨rfl,rfl,rfl,by decide+kernel,rfl,by decide+kernel,by decide+kernel⟩
theorem sc_taking:FnScope ["tree","holds","house","ware","there"] ["tree","holds","house","ware"] (qab s_taking):=⟨rfl,rfl,rfl,by decide+kernel,rfl,by decide+kernel,by decide+kernel⟩
theorem sc_used:FnScope ["tree","holds","house"] ["tree","holds","house"] (qab s_used):=⟨rfl,rfl,rfl,by decide+kernel,rfl,by decide+kernel,by decide+kernel⟩
theorem sc_rooms_left:FnScope ["tree","holds","line","amounts","rooms","at","cap","use","ware"] ["tree","holds","line","amounts"] (qab s_rooms_left):=⟨rfl,rfl,rfl,by decide+kernel,rfl,by decide+kernel,by decide+kernel⟩
theorem sc_first_lack:FnScope ["tree","holds","line","amounts","rooms","place"] ["tree","holds","line","amounts"] (qab s_first_lack):=⟨rfl,rfl,rfl,by decide+kernel,rfl,by decide+kernel,by decide+kernel⟩
theorem sc_bar:FnScope ["tree","holds","house","elder","own_line","new_elders"] ["tree","holds","house","elder"] (qab s_bar):=⟨rfl,rfl,rfl,by decide+kernel,rfl,by decide+kernel,by decide+kernel⟩
theorem sc_is_bar:FnScope ["tree","holds","house","elder","paper"] ["tree","holds","house","elder","paper"] (qab s_is_bar):=⟨rfl,rfl,rfl,by decide+kernel,rfl,by decide+kernel,by decide+kernel⟩
theorem sc_are_wares:FnScope ["thing"] ["thing"] (qab s_are_wares):=⟨rfl,rfl,rfl,by decide+kernel,rfl,by decide+kernel,by decide+kernel⟩
theorem sc_check_name:FnScope ["thing"] ["thing"] (qab s_check_name):=⟨rfl,rfl,rfl,by decide+kernel,rfl,by decide+kernel,by decide+kernel⟩
theorem sc_read_house:FnScope ["wares","elder","promise","cap","weight","own_promise","own_cap"] ["wares","elder","promise","cap","weight"] (qab s_read_house):=⟨rfl,rfl,rfl,by decide+kernel,rfl,by decide+kernel,by decide+kernel⟩
theorem sc_check_promises:FnScope ["name","promises","cap","ware"] ["name","promises","cap"] (qab s_check_promises):=⟨rfl,rfl,rfl,by decide+kernel,rfl,by decide+kernel,by decide+kernel⟩
theorem sc_cell:FnScope ["_law_script","_law_k","_law_number"] ["_law_script","_law_k"] (qab s_cell):=⟨rfl,rfl,rfl,by decide+kernel,rfl,by decide+kernel,by decide+kernel⟩
theorem sc_mix:FnScope ["_law_cell_here","_law_k","_law_many","_law_number"] ["_law_cell_here","_law_k","_law_many"] (qab s_mix):=⟨rfl,rfl,rfl,by decide+kernel,rfl,by decide+kernel,by decide+kernel⟩
theorem sc_names:FnScope ["_law_cell_here","_law_many","_law_letters","_law_long","_law_at","_law_stride","_law_names_here","_law_k","_law_word","_law_j","_law_step"] ["_law_cell_here","_law_many"] (qab s_names):=⟨rfl,rfl,rfl,by decide+kernel,rfl,by decide+kernel,by decide+kernel⟩
theorem sc_elders:FnScope ["_law_script","_law_start","_law_many","_law_rows_here","_law_elders_here","_law_k"] ["_law_script","_law_start","_law_many"] (qab s_elders):=⟨rfl,rfl,rfl,by decide+kernel,rfl,by decide+kernel,by decide+kernel⟩
theorem sc_line:FnScope ["_law_elders_here","_law_at","_law_line_here"] ["_law_elders_here","_law_at"] (qab s_line):=⟨rfl,rfl,rfl,by decide+kernel,rfl,by decide+kernel,by decide+kernel⟩
theorem sc_told:FnScope ["_law_wares","_law_parts_here","_law_found","_law_ware","_law_part"] ["_law_wares","_law_parts_here"] (qab s_told):=⟨rfl,rfl,rfl,by decide+kernel,rfl,by decide+kernel,by decide+kernel⟩
theorem sc_parts:FnScope ["_law_cell_here","_law_kinds","_law_scale","_law_parts_here","_law_j","_law_part"] ["_law_cell_here","_law_kinds","_law_scale"] (qab s_parts):=⟨rfl,rfl,rfl,by decide+kernel,rfl,by decide+kernel,by decide+kernel⟩
theorem sc_rows:FnScope ["_law_script","_law_start","_law_houses","_law_kinds","_law_scale","_law_number","_law_rows_here","_law_k","_law_cell_here","_law_parts_here","_law_sure"] ["_law_script","_law_start","_law_houses","_law_kinds"] (qab s_rows):=⟨rfl,rfl,rfl,by decide+kernel,rfl,by decide+kernel,by decide+kernel⟩
theorem sc_objects:FnScope ["_law_rows_here","_law_names_here","_law_wares","_law_found","_law_number","_law_at","_law_parts_here","_law_rank","_law_sure","_law_turns"] ["_law_rows_here","_law_names_here","_law_wares"] (qab s_objects):=⟨rfl,rfl,rfl,by decide+kernel,rfl,by decide+kernel,by decide+kernel⟩
theorem sc_promises:FnScope ["_law_cell_here","_law_elders_here","_law_caps_here","_law_left","_law_promises_here","_law_at","_law_line_here","_law_j","_law_room","_law_part","_law_house"] ["_law_cell_here","_law_elders_here","_law_caps_here"] (qab s_promises):=⟨rfl,rfl,rfl,by decide+kernel,rfl,by decide+kernel,by decide+kernel⟩
theorem sc_tree:FnScope ["_law_cell_here","_law_names_here","_law_wares","_law_elders_here","_law_caps_here","_law_due","_law_tree_here","_law_k"] ["_law_cell_here","_law_names_here","_law_wares","_law_elders_here","_law_caps_here"] (qab s_tree):=⟨rfl,rfl,rfl,by decide+kernel,rfl,by decide+kernel,by decide+kernel⟩
theorem sc_sum:FnScope ["_law_rows_here","_law_elders_here","_law_at","_law_j"] ["_law_rows_here","_law_elders_here","_law_at","_law_j"] (qab s_sum):=⟨rfl,rfl,rfl,by decide+kernel,rfl,by decide+kernel,by decide+kernel⟩
theorem sc_caps:FnScope ["_law_cell_here","_law_elders_here","_law_kinds","_law_least_here","_law_caps_here","_law_spots","_law_at","_law_j","_law_cap"] ["_law_cell_here","_law_elders_here","_law_kinds","_law_least_here"] (qab s_caps):=⟨rfl,rfl,rfl,by decide+kernel,rfl,by decide+kernel,by decide+kernel⟩
theorem sc_taken:FnScope ["_law_rows_here","_law_elders_here","_law_at","_law_j"] ["_law_rows_here","_law_elders_here","_law_at","_law_j"] (qab s_taken):=⟨rfl,rfl,rfl,by decide+kernel,rfl,by decide+kernel,by decide+kernel⟩
theorem sc_new:FnScope ["_law_elders_here","_law_home","_law_elder","_law_own"] ["_law_elders_here","_law_home","_law_elder"] (qab s_new):=⟨rfl,rfl,rfl,by decide+kernel,rfl,by decide+kernel,by decide+kernel⟩
theorem sc_l_bar:FnScope ["_law_names_here","_law_wares","_law_elders_here","_law_caps_here","_law_rows_here","_law_home","_law_elder","_law_moved","_law_order","_law_at","_law_ware","_law_j","_law_holders"] ["_law_names_here","_law_wares","_law_elders_here","_law_caps_here","_law_rows_here","_law_home","_law_elder"] (qab s_l_bar):=⟨rfl,rfl,rfl,by decide+kernel,rfl,by decide+kernel,by decide+kernel⟩
theorem sc_least:FnScope ["_law_rows_here","_law_elders_here","_law_kinds","_law_home","_law_elder","_law_fresh","_law_least_here","_law_at","_law_j","_law_some"] ["_law_rows_here","_law_elders_here","_law_kinds","_law_home","_law_elder"] (qab s_least):=⟨rfl,rfl,rfl,by decide+kernel,rfl,by decide+kernel,by decide+kernel⟩
theorem sc_move:FnScope ["_law_cell_here","_law_elders_here","_law_home","_law_able"] ["_law_cell_here","_law_elders_here"] (qab s_move):=⟨rfl,rfl,rfl,by decide+kernel,rfl,by decide+kernel,by decide+kernel⟩
theorem sc_spoiled:FnScope ["_law_cell_here","_law_holders","_law_way","_law_at","_law_step"] ["_law_cell_here","_law_holders"] (qab s_spoiled):=⟨rfl,rfl,rfl,by decide+kernel,rfl,by decide+kernel,by decide+kernel⟩
theorem sc_paper:FnScope ["_law_cell_here","_law_due","_law_names_here","_law_wares","_law_elders_here","_law_rows_here","_law_at","_law_j","_law_paper_here","_law_way"] ["_law_cell_here","_law_due","_law_names_here","_law_wares","_law_elders_here","_law_rows_here"] (qab s_paper):=⟨rfl,rfl,rfl,by decide+kernel,rfl,by decide+kernel,by decide+kernel⟩
theorem sc_right:FnScope ["_law_tree_here","_law_holds","_law_home","_law_elder","_law_paper_here","_law_due","_law_handed","_law_found"] ["_law_tree_here","_law_holds","_law_home","_law_elder","_law_paper_here","_law_due"] (qab s_right):=⟨rfl,rfl,rfl,by decide+kernel,rfl,by decide+kernel,by decide+kernel⟩
theorem sc_law:FnScope ["_law_script","_law_houses","_law_kinds","_law_names_here","_law_wares","_law_elders_here","_law_rows_here","_law_home","_law_elder","_law_caps_here","_law_tree_here","_law_holds","_law_due","_law_papers","_law_at","_law_j","_law_paper_here"] ["_law_script"] (qab s_law):=⟨rfl,rfl,rfl,by decide+kernel,rfl,by decide+kernel,by decide+kernel⟩
theorem sc_House_init:FnScope ["self","elder","promise","cap","weight"] ["self","elder","promise","cap","weight"] (qab s_House_init):=⟨rfl,rfl,rfl,by decide+kernel,rfl,by decide+kernel,by decide+kernel⟩
theorem sc_Tree_init:FnScope ["self","wares","name","promise","cap","weight","house"] ["self","wares","name","promise","cap","weight"] (qab s_Tree_init):=⟨rfl,rfl,rfl,by decide+kernel,rfl,by decide+kernel,by decide+kernel⟩
theorem sc_Tree_found:FnScope ["self","name","elder","promise","cap","weight","house","elders"] ["self","name","elder","promise","cap","weight"] (qab s_Tree_found):=⟨rfl,rfl,rfl,by decide+kernel,rfl,by decide+kernel,by decide+kernel⟩
theorem sc_Tree_has:FnScope ["self","thing"] ["self","thing"] (qab s_Tree_has):=⟨rfl,rfl,rfl,by decide+kernel,rfl,by decide+kernel,by decide+kernel⟩
theorem sc_Tree_check_house:FnScope ["self","thing"] ["self","thing"] (qab s_Tree_check_house):=⟨rfl,rfl,rfl,by decide+kernel,rfl,by decide+kernel,by decide+kernel⟩
theorem sc_Tree_house_of:FnScope ["self","name"] ["self","name"] (qab s_Tree_house_of):=⟨rfl,rfl,rfl,by decide+kernel,rfl,by decide+kernel,by decide+kernel⟩
theorem sc_Tree_elder_of:FnScope ["self","name"] ["self","name"] (qab s_Tree_elder_of):=⟨rfl,rfl,rfl,by decide+kernel,rfl,by decide+kernel,by decide+kernel⟩
theorem sc_Tree_cap_of:FnScope ["self","name"] ["self","name"] (qab s_Tree_cap_of):=⟨rfl,rfl,rfl,by decide+kernel,rfl,by decide+kernel,by decide+kernel⟩
theorem sc_Tree_kids:FnScope ["self","name"] ["self","name"] (qab s_Tree_kids):=⟨rfl,rfl,rfl,by decide+kernel,rfl,by decide+kernel,by decide+kernel⟩
theorem sc_Tree_line:FnScope ["self","name","told","elder"] ["self","name"] (qab s_Tree_line):=⟨rfl,rfl,rfl,by decide+kernel,rfl,by decide+kernel,by decide+kernel⟩
theorem sc_Tree_beneath:FnScope ["self","name","told","kid"] ["self","name"] (qab s_Tree_beneath):=⟨rfl,rfl,rfl,by decide+kernel,rfl,by decide+kernel,by decide+kernel⟩
theorem sc_Tree_promised_beneath:FnScope ["self","name"] ["self","name"] (qab s_Tree_promised_beneath):=⟨rfl,rfl,rfl,by decide+kernel,rfl,by decide+kernel,by decide+kernel⟩
theorem sc_Tree_check_more:FnScope ["self","names","more","name"] ["self","names","more"] (qab s_Tree_check_more):=⟨rfl,rfl,rfl,by decide+kernel,rfl,by decide+kernel,by decide+kernel⟩
theorem sc_Hold_init:FnScope ["self","number","house","amounts","rank","turns"] ["self","number","house","amounts","rank","turns"] (qab s_Hold_init):=⟨rfl,rfl,rfl,by decide+kernel,rfl,by decide+kernel,by decide+kernel⟩
variable {P : Program} {w : World} {K : Frag} {mg : Str → Option Value} {base : Heap} {d : Ad} (T : Tx K mg d)
include T in
theorem ok_Tree_has:FnOk P w K mg base CX0 1 d.f_Tree_has d.fd_Tree_has ["self","thing"] (sp_Tree_has K d):=by
 refine T.F_Tree_has.ok sc_Tree_has (fun vs H Q E h=>?_) (fun cdv A outer s H vs Q E hr h=>?_)
 ·obtain⟨t,S,x,rfl,_⟩:=h;rfl
 obtain⟨t,S,x,rfl,hT,hx,q⟩:=h
 refine⟨_,(qa6 (qaj (pe_and (qae qc5 rfl T.z_isinstance PyProof.Rows.boot_isinstance (qa0 (pv 1) (qa0 (qdb (v:=.ty "str") rfl T.z_str PyProof.Rows.boot_str rfl) qa2))) (pe_one (pe_cmp (pc_din (qd4 hr) (pv 1) (qbh (pv 0) rfl))))))),?_⟩
 walk_at "d"
 refine qaf (σ:=[some (.ref t),some (x)]) rfl ?_
 obtain⟨⟨dx,ht⟩,hw,hh,nd,hz,hE⟩:=hT
 have ct:=T.CL_Tree
 have nh:qaw K d.c_Tree "houses":=T.NA_Tree_houses
 rcases hx with ⟨z,rfl⟩ |⟨⟨ty,ht1,ht2⟩,nz⟩
 ·left
  rw [qds,Option.isSome_map]
  exact q
 ·left
  rw [qd8 nz] at q
  exact q
include T in
theorem ok_Tree_check_house:FnOk P w K mg base (My.CX1 P w) 2 d.f_Tree_check_house d.fd_Tree_check_house ["self","thing"] (sp_Tree_check_house K d):=by
 refine okX T.F_Tree_check_house sc_Tree_check_house (fun vs H Q E h=>?_) (fun cdv A outer s H vs Q E hr h=>?_)
 ·obtain⟨t,S,x,rfl,_⟩:=h;rfl
 obtain⟨t,S,x,rfl,hT,hx,q1,q2⟩:=h
 refine⟨_,(qa6 (qbc (qd9 (qci (pe_meth (pv 0) T.CL_Tree T.ME_Tree_has ((ok_Tree_has T).mono (by decide)) hr T.b_Tree_has .nil qag (qa0 (pv 1) qa2)))) (qa6 (qbz rfl T.X_NoHouse rfl T.m_NoHouse qaz (qa0 qck qa2))) qan)),?_⟩
 walk_at "d"
 refine qaf (σ:=[some (.ref t),some (x)]) rfl ?_
 have hT0:=hT
 obtain⟨⟨dx,ht⟩,hw,hh,nd,hz,hE⟩:=hT
 have ct:=T.CL_Tree
 have nh:qaw K d.c_Tree "houses":=T.NA_Tree_houses
 left
 refine⟨t,S,x,rfl,hT0,hx,?_⟩
 cases hw':who S x with
 |none=>
  left
  show if (!false)=true then _ else _
  left
  exact q2 hw'
 |some e=>
  left
  exact q1 e hw'
include T in
theorem ok_Tree_house_of:FnOk P w K mg base (My.CX1 P w) 3 d.f_Tree_house_of d.fd_Tree_house_of ["self","name"] (sp_Tree_house_of K d):=by
 refine okX T.F_Tree_house_of sc_Tree_house_of (fun vs H Q E h=>?_) (fun cdv A outer s H vs Q E hr h=>?_)
 ·obtain⟨t,S,x,rfl,_⟩:=h;rfl
 obtain⟨t,S,x,rfl,hT,hx,q1,q2⟩:=h
 refine⟨_,(qa3 (qay (qb5 (pv 0) T.CL_Tree T.ME_Tree_check_house ((ok_Tree_check_house T).mono (by decide)) hr T.b_Tree_check_house .nil qaz (qa0 (pv 1) qa2)))
  (qa6 (qaj (qc7 (qd4 hr) (qbh (pv 0) rfl) (pv 1) (fun _ _=>rfl))))),?_⟩
 walk_at "d"
 refine qaf (σ:=[some (.ref t),some (x)]) rfl ?_
 have hT0:=hT
 obtain⟨⟨dx,ht⟩,hw,hh,nd,hz,hE⟩:=hT
 have ct:=T.CL_Tree
 have nh:qaw K d.c_Tree "houses":=T.NA_Tree_houses
 left
 refine⟨t,S,x,rfl,hT0,hx,fun e he=>?_,q2⟩
 have hz':∃z,x=.str z:=by
  rcases hx with h|⟨_,nz⟩
  ·exact h
  ·rw [qd8 nz] at he;cases he
 obtain⟨z,rfl⟩:=hz'
 left
 refine r_dgO (.inl hh) (h:=e.a) (by rw [qds];show (S.at z).map _=_;rw [show S.at z=some e from he];rfl) ?_
 left
 exact q1 e he
include T in
theorem ok_Tree_elder_of:FnOk P w K mg base (My.CX1 P w) 4 d.f_Tree_elder_of d.fd_Tree_elder_of ["self","name"] (sp_Tree_elder_of K d):=by
 refine okX T.F_Tree_elder_of sc_Tree_elder_of (fun vs H Q E h=>?_) (fun cdv A outer s H vs Q E hr h=>?_)
 ·obtain⟨t,S,x,rfl,_⟩:=h;rfl
 obtain⟨t,S,x,rfl,hT,hx,q1,q2⟩:=h
 refine⟨_,(qa6 (qaj (qbh (qb5 (pv 0) T.CL_Tree T.ME_Tree_house_of ((ok_Tree_house_of T).mono (by decide)) hr T.b_Tree_house_of .nil qaz (qa0 (pv 1) qa2)) rfl))),?_⟩
 walk_at "d"
 refine qaf (σ:=[some (.ref t),some (x)]) rfl ?_
 have hT0:=hT
 obtain⟨⟨dx,ht⟩,hw,hh,nd,hz,hE⟩:=hT
 have ct:=T.CL_Tree
 have nh:qaw K d.c_Tree "houses":=T.NA_Tree_houses
 left
 refine⟨t,S,x,rfl,hT0,hx,fun e he=>?_,q2⟩
 obtain⟨z,rfl⟩:∃z,x=.str z:=by
  rcases hx with h|⟨_,nz⟩
  ·exact h
  ·rw [qd8 nz] at he;cases he
 obtain⟨⟨dh,ho⟩,hp,hpA,hc,hcA⟩:=hE e (qc9 he).1
 have ch:=T.CL_House
 have nf:qaw K d.c_House "elder":=T.NA_House_elder
 have hRp:Rd H e.x.pa (.dK e.x.kp):=.inl hp
 have hRc:Rd H e.x.ca (.dK e.x.kc):=.inl hc
 left
 exact q1 e he
include T in
theorem ok_amount_of:FnOk P w K mg base CX0 1 d.f_amount_of d.fd_amount_of ["amounts","ware"] (sp_amount_of K d):=by
 refine T.F_amount_of.ok sc_amount_of (fun vs H Q E h=>?_) (fun cdv A outer s H vs Q E hr h=>?_)
 ·obtain⟨a,kvs,f,z,rfl,_⟩:=h;rfl
 obtain⟨a,kvs,f,z,rfl,hR,hA,q⟩:=h
 refine⟨_,(qa6 (qaj (pe_dget2 (qd4 hr) (pv 0) (pv 1) qa5 ⟨rfl,rfl,rfl,rfl⟩))),?_⟩
 walk_at "d"
 refine qaf (σ:=[some (.ref a),some (.str z)]) rfl ?_
 left
 exact q
include T in
theorem ok_above_nought:FnOk P w K mg base CX0 1 d.f_above_nought d.fd_above_nought ["amounts"] (sp_above_nought K d):=by
 refine T.F_above_nought.ok sc_above_nought (fun vs H Q E h=>?_) (fun cdv A outer s H vs Q E hr h=>?_)
 ·obtain⟨a,kvs,f,rfl,_⟩:=h;rfl
 obtain⟨a,kvs,f,rfl,hH,hA,hz,q⟩:=h
 refine⟨_,(qa3 (qad (i:=1) sc_above_nought.nd rfl (Or.inl rfl) qg1)
  (qa3 (ps_thA (qb2 PassesOwn.never rfl (qe4 (pv 0)) (qam (i:=2) sc_above_nought.nd rfl (Or.inl rfl)) (qa6 (qce (qbc (qak qf9 (qc7 (qd4 hr) (pv 0) (pv 2) (fun _ _=>rfl)) qa5 (qap _)) (qa6 (qem (qd4 hr) (pv 1) (pv 2) (qc7 (qd4 hr) (pv 0) (pv 2) (fun _ _=>rfl)) rfl)) qan)))))
  (qa6 (qaj (pv 1))))),?_⟩
 walk_at "d"
 refine qaf (σ:=[some (.ref a),none,none]) rfl ?_
 left
 rename_i l hl
 have ea:=qa4 (o':=.dK []) hH hl
 have nla:l≠a:=(qa7 hH hl).symm
 refine r_itD ea fun o=>?_
 refine f_dict (fun i σ H'=>∃(k':List (Key × V)) (w:Option V),σ=[some (.ref a),some (.ref l),w]∧SameBut a H H'∧H' a=some (.frz o (.dK kvs))∧H' l=some (.dK k')∧k'.length≤i∧AD k' (fun y=>if y∈(qbu kvs).take i then qct f y else none))
  ⟨[],none,rfl,SameBut.at (SameBut.of (qa8 hl _)),qa1,by rw [qa9 nla];exact qa1,Nat.le_refl _,AD.nil.cast fun z=>by simp [noF]⟩ ?_ ?_ ?_
 ·rintro i σ H' _ ⟨k',w,rfl,sb,fz,hl',_⟩;exact fz
 ·rintro i k v σ H' hk ⟨k',w,rfl,sb,fz,hl',hlen,hA'⟩
  obtain⟨z,n,rfl,rfl,hf,hzi⟩:=hA.at hk
  have hi:i < kvs.length:=(List.getElem?_eq_some_iff.mp hk).1
  have hRd:Rd H' a (.dK kvs):=.inr ⟨o,fz⟩
  show gName _ (.str z) _ _ _
  left
  refine r_cut0 ?_
  left
  refine i_2 (fun c=>?_) (fun c=>?_)
  ·left
   refine⟨_,_,rfl,?_,by rw [qa9 nla.symm];exact fz,qa1,?_,(hA'.put z n).cast fun y=>?_⟩
   ·exact sb_put sb hl
   ·have:=qbx k' (Sum.inr z) (.int n);omega
   ·exact step_put hzi (qct f) (fun _=>none) (by unfold qct;rw [hf];exact if_pos c) y
  ·left
   refine⟨_,_,rfl,sb,fz,hl',by omega,hA'.cast fun y=>?_⟩
   exact step_no hzi (qct f) (fun _=>none) (by unfold qct;rw [hf];exact if_neg c) y
 ·rintro σ H' ⟨k',w,rfl,sb,fz,hl',_,hA'⟩
  refine r_thNx (thaw1 fz (qdy hH)) ?_
  left
  refine q l k' _ (qcq hH sb) hl (by rw [qa9 nla];exact hl') (hA'.cast fun y=>?_)
  exact step_end hA (qct f) (fun _=>none) (fun y e=>by unfold qct;rw [e]) y
include T in
theorem ok_added:FnOk P w K mg base CX0 2 d.f_added d.fd_added ["one","other"] (sp_added K d):=by
 refine T.F_added.ok sc_added (fun vs H Q E h=>?_) (fun cdv A outer s H vs Q E hr h=>?_)
 ·obtain⟨a,b,ka,kb,f,g,rfl,_⟩:=h;rfl
 obtain⟨a,b,ka,kb,f,g,rfl,hRa,hb,hA,hB,za,zb,q⟩:=h
 refine⟨_,(qa3 (qad (i:=2) sc_added.nd rfl (Or.inl rfl) (qc2 qea rfl T.z_dict PyProof.Rows.boot_dict (qa0 (pv 0) qa2)))
  (qa3 (ps_thA (qb2 PassesOwn.never rfl (qe4 (pv 1)) (qam (i:=3) sc_added.nd rfl (Or.inl rfl)) (qa6 (qem (qd4 hr) (pv 2) (pv 3) (qah qas (qaa ((ok_amount_of T).mono (by decide)) hr rfl T.m_amount_of T.F_amount_of.kp T.b_amount_of .nil qag (qa0 (pv 0) (qa0 (pv 3) qa2))) (qc7 (qd4 hr) (pv 1) (pv 3) (fun _ _=>rfl))) rfl))))
  (qa6 (qaj (pv 2))))),?_⟩
 walk_at "d"
 refine qaf (σ:=[some (.ref a),some (.ref b),none,none]) rfl ?_
 left
 rename_i l hl
 have eb:=qa4 (o':=.dK ka) hb hl
 have nlb:l≠b:=(qa7 hb hl).symm
 refine r_itD eb fun o=>?_
 refine f_dict (fun i σ H'=>∃(k':List (Key × V)) (w:Option V),σ=[some (.ref a),some (.ref b),some (.ref l),w]∧SameBut b H H'∧H' b=some (.frz o (.dK kb))∧H' l=some (.dK k')∧k'.length≤1000+i∧AD k' (fun y=>if y∈(qbu kb).take i then qfb f g y else f y))
  ⟨ka,none,rfl,SameBut.at (SameBut.of (qa8 hl _)),qa1,by rw [qa9 nlb];exact qa1,by omega,hA.cast fun z=>by simp⟩ ?_ ?_ ?_
 ·rintro i σ H' _ ⟨k',w,rfl,sb,fz,hl',_⟩;exact fz
 ·rintro i k v σ H' hk ⟨k',w,rfl,sb,fz,hl',hlen,hA'⟩
  obtain⟨z,n,rfl,rfl,hf,hzi⟩:=hB.at hk
  have hi:i < kb.length:=(List.getElem?_eq_some_iff.mp hk).1
  have hRb:Rd H' b (.dK kb):=.inr ⟨o,fz⟩
  have hRa':Rd H' a (.dK ka):=rd_in hRa hb sb fz
  show gName _ (.str z) _ _ _
  left
  refine⟨_,_,rfl,sb_put sb hl,by rw [qa9 nlb.symm];exact fz,qa1,?_,(hA'.put z _).cast fun y=>?_⟩
  ·have:=qbx k' (Sum.inr z) (.int (gN f z+n));omega
  ·exact step_put hzi (qfb f g) f (by unfold qfb;rw [hf]) y
 ·rintro σ H' ⟨k',w,rfl,sb,fz,hl',_,hA'⟩
  refine r_thNx (thaw1 fz (qdy hb)) ?_
  left
  refine q l k' _ (qcq hb sb) hl (by rw [qa9 nlb];exact hl') (hA'.cast fun y=>?_)
  exact step_end hB (qfb f g) f (fun y e=>by unfold qfb;rw [e]) y
include T in
theorem ok_beyond:FnOk P w K mg base CX0 2 d.f_beyond d.fd_beyond ["one","other"] (sp_beyond K d):=by
 refine T.F_beyond.ok sc_beyond (fun vs H Q E h=>?_) (fun cdv A outer s H vs Q E hr h=>?_)
 ·obtain⟨a,b,ka,kb,f,g,rfl,_⟩:=h;rfl
 obtain⟨a,b,ka,kb,f,g,rfl,hRa,hRb,hA,hB,za,qn,qs⟩:=h
 refine⟨_,(qa3 (qb2 PassesOwn.never rfl (qax (qae (qfk rfl) rfl T.z_sorted PyProof.Rows.boot_sorted (qa0 (pv 0) qa2))) (qam (i:=2) sc_beyond.nd rfl (Or.inl rfl)) (qa6 (qbc (qak qf9 (qc7 (qd4 hr) (pv 0) (pv 2) (fun _ _=>rfl)) (qaa ((ok_amount_of T).mono (by decide)) hr rfl T.m_amount_of T.F_amount_of.kp T.b_amount_of .nil qag (qa0 (pv 1) (qa0 (pv 2) qa2))) (qap _)) (qa6 (qaj (pv 2))) qan)))
  (qa6 (qaj qdo))),?_⟩
 walk_at "d"
 refine qaf (σ:=[some (.ref a),some (.ref b),none]) rfl ?_
 left
 refine r_sortD hRa hA.keys (by rw [hA.klen];exact za) fun l ss hl hp hs=>?_
 have pw:=qej hs
 have hin:∀y,y∈ss↔f y≠none:=fun y=>(hp.mem_iff).trans (hA.kin y)
 left
 have sm:=qa8 hl (.lst (ss.map V.str))
 have hRa':=rd_new hRa hl (u:=.lst (ss.map V.str))
 have hRb':=rd_new hRb hl (u:=.lst (ss.map V.str))
 refine qd6 (xs:=ss.map V.str) (fun i σ H'=>H'=upd H l (.lst (ss.map V.str))∧(∃w,σ=[some (.ref a),some (.ref b),w])∧∀j y,j < i→ss[j]?=some y→¬viol f g y) ⟨rfl,⟨_,rfl⟩,fun j y hj=>absurd hj (Nat.not_lt_zero j)⟩ ?_ ?_ ?_
 ·rintro i σ H' _ ⟨rfl,_⟩;exact SqL.of qa1
 ·rintro i v σ H' hv ⟨rfl,⟨w,rfl⟩,hno⟩
  rw [zC] at hv
  obtain⟨z,hz,rfl⟩:=Option.map_eq_some_iff.mp hv
  have hfz:=(hin z).mp (zD hz)
  obtain⟨n,hn⟩:∃n,f z=some n:=by
   cases e:f z with
   |none=>exact absurd e hfz
   |some n=>exact⟨n,rfl⟩
  have gz:gN f z=n:=by unfold gN;rw [hn];rfl
  left
  refine i_2 (fun c=>?_) (fun c=>?_)
  ·left
   refine qs z _ sm ⟨hfz,by rw [gz];exact c⟩ fun y hy=>?_
   obtain⟨j,hj,e⟩:=zK.mp ((hin y).mpr hy.1)
   have hji:i≤j:=by
    rcases Nat.lt_or_ge j i with h|h
    ·exact absurd hy (hno j y h (by rw [zA hj,e]))
    ·exact h
   obtain⟨hi,ez⟩:=List.getElem?_eq_some_iff.mp hz
   rcases Nat.eq_or_lt_of_le hji with h|h
   ·subst h;rw [ez] at e;subst e;exact leS_refl _
   ·have:=zZ.mp pw i j hi hj h
    rw [ez,e] at this;exact this
  ·left
   refine⟨rfl,⟨_,rfl⟩,fun j y hj hy=>?_⟩
   rcases Nat.lt_or_ge j i with h|h
   ·exact hno j y h hy
   ·have e:j=i:=by omega
    subst e
    rw [hz] at hy
    cases hy
    exact fun hv=>c (by have:=hv.2;rw [gz] at this;exact this)
 ·rintro σ H' ⟨rfl,⟨w,rfl⟩,hno⟩
  left
  refine qn _ sm fun y hy=>?_
  obtain⟨j,hj,e⟩:=zK.mp ((hin y).mpr hy.1)
  exact hno j y (by rw [zB];exact hj) (by rw [zA hj,e]) hy
theorem sum_sup {ts:List Pt} {ws:List Str} (h:∀t∈ts,∀z,t.f z≠none→z∈ws):∀f0:Str→Option Int,(∀z,f0 z≠none→z∈ws)→∀z,ts.foldl (fun f t=>qfb f t.f) f0 z≠none→z∈ws:=by
 induction ts with
 |nil=>intro f0 h0 z hz;exact h0 z hz
 |cons t ts ih=>intro f0 h0 z hz;exact ih (fun t' ht=>h t' (zF _ ht)) (qfb f0 t.f) (addF_sup h0 (h t (zI ..))) z hz
include T in
theorem ok_total_of:FnOk P w K mg base CX0 3 d.f_total_of d.fd_total_of ["many"] (sp_total_of K d):=by
 refine T.F_total_of.ok sc_total_of (fun vs H Q E h=>?_) (fun cdv A outer s H vs Q E hr h=>?_)
 ·obtain⟨L,ts,ws,rfl,_⟩:=h;rfl
 obtain⟨L,ts,ws,rfl,hS,hw,hts,q⟩:=h
 refine⟨_,(qa3 (qad (i:=1) sc_total_of.nd rfl (Or.inl rfl) qg1)
  (qa3 (qb2 PassesOwn.never rfl (qax (pv 0)) (qam (i:=2) sc_total_of.nd rfl (Or.inl rfl)) (qa6 (qad (i:=1) sc_total_of.nd rfl (Or.inl rfl) (qaa ((ok_added T).mono (by decide)) hr rfl T.m_added T.F_added.kp T.b_added .nil qag (qa0 (pv 1) (qa0 (pv 2) qa2))))))
  (qa6 (qaj (pv 1))))),?_⟩
 walk_at "d"
 refine qaf (σ:=[some (.ref L),none,none]) rfl ?_
 left
 rename_i l0 hl0
 refine qd6 (xs:=ts.map fun t=> .ref t.a) (fun i σ H'=>∃(l:Addr) (k':List (Key × V)) (w:Option V),σ=[some (.ref L),some (.ref l),w]∧qaq H H'∧H l=none∧H' l=some (.dK k')∧AD k' (sumF (ts.take i))) ⟨l0, [],none,rfl,qa8 hl0 _,hl0,qa1,AD.nil⟩ ?_ ?_ ?_
 ·rintro i σ H' _ ⟨l,k',w,rfl,sm,_⟩;exact sm.seq hS
 ·rintro i v σ H' hv ⟨l,k',w,rfl,sm,hl,hl',hA'⟩
  rw [zC] at hv
  obtain⟨t,ht,rfl⟩:=Option.map_eq_some_iff.mp hv
  have hm:=zD ht
  obtain⟨h1,h2,h3⟩:=hts t hm
  have sup:∀z,sumF (ts.take i) z≠none→z∈ws:=sum_sup (fun t' ht'=>(hts t' (List.mem_of_mem_take ht')).2.2) noF (fun z h=>absurd rfl h)
  have c1:=hA'.le sup
  have c2:=h2.le h3
  left
  refine⟨l,t.a,k',t.k,sumF (ts.take i),t.f,rfl,.inl hl',sm _ _ h1,hA',h2,by omega,by omega,fun l2 k2 H2 sm2 hl2 e2 hA2=>?_⟩
  left
  refine⟨l2,k2,_,rfl,sm.trans sm2,sm.free hl2,e2,?_⟩
  have e:ts.take (i+1)=ts.take i++ [t]:=by rw [zQ,ht];rfl
  rw [e]
  unfold sumF
  rw [List.foldl_append]
  exact hA2
 ·rintro σ H' ⟨l,k',w,rfl,sm,hl,hl',hA'⟩
  rw [zB,zV] at hA'
  left
  exact q l k' H' sm hl hl' hA'
include T in
theorem ok_Tree_line:FnOk P w K mg base (My.CX1 P w) 5 d.f_Tree_line d.fd_Tree_line ["self","name"] (sp_Tree_line K d):=by
 refine okX T.F_Tree_line sc_Tree_line (fun vs H Q E h=>?_) (fun cdv A outer s H vs Q E hr h=>?_)
 ·obtain⟨t,S,x,rfl,_⟩:=h;rfl
 obtain⟨t,S,x,rfl,hT,q⟩:=h
 refine⟨_,(qa3 (qad (i:=2) sc_Tree_line.nd rfl (Or.inl rfl) (qbe (qa0 (pv 1) qa2)))
  (qa3 (qad (i:=3) sc_Tree_line.nd rfl (Or.inl rfl) (qb5 (pv 0) T.CL_Tree T.ME_Tree_elder_of ((ok_Tree_elder_of T).mono (by decide)) hr T.b_Tree_elder_of .nil qaz (qa0 (pv 1) qa2)))
  (qa3 (ps_while (qeq rfl rfl) (qak qdx (pv 3) qdo (qap _)) (qa3 (qay (qd2 PySem.F.plainAttrs_list PySem.F.slot_list_append PySem.F.type_list_append qat (pv 2) (qa0 (pv 3) qa2)))
  (qa6 (qad (i:=3) sc_Tree_line.nd rfl (Or.inl rfl) (qb5 (pv 0) T.CL_Tree T.ME_Tree_elder_of ((ok_Tree_elder_of T).mono (by decide)) hr T.b_Tree_elder_of .nil qaz (qa0 (pv 3) qa2))))))
  (qa6 (qaj (pv 2)))))),?_⟩
 walk_at "d"
 refine qaf (σ:=[some (.ref t),some (x),none,none]) rfl ?_
 have ct:=T.CL_Tree
 obtain⟨dx,ht⟩:=hT.1
 left
 rename_i l hl
 have sl:=qa8 hl (.lst [x])
 rcases q with ⟨z,zs,rfl,hL,hz,q⟩ |⟨hx,hn,q⟩
 ·obtain⟨e0,r0,h0,rfl,hr0⟩:=hL.open
  refine⟨t,S,.str z,rfl,hT.same sl,.inl ⟨z,rfl⟩,fun e he=>?_,fun he=>?_⟩
  ·have ee:e0=e:=Option.some.inj (h0.symm.trans he)
   subst ee
   left
   refine while_by (fun σ H'=>∃(ys rs:List Str) (o:Option Str),σ=[some (.ref t),some (.str z),some (.ref l),some (eV o)]∧H'=upd H l (.lst (ys.map V.str))∧ys++rs=z :: r0∧RestOf S o rs) (fun _ H'=>(r0.length+1) - lenAt l H') ⟨[z],r0,_,rfl,rfl,rfl,hr0⟩ ?_ ?_
   ·rintro σ H' ⟨ys,rs,o,rfl,rfl,hyr,hR⟩
    have hlen:=congrArg List.length hyr
    rw [zG,zM] at hlen
    have hz2:(z :: r0).length≤1000:=hz
    rw [zM] at hz2
    cases o with
    |none=>
     have:rs=[]:=hR
     subst this
     rw [yD] at hyr
     subst hyr
     rw [show eV none=V.non from rfl]
     left
     exact q l hl
    |some y=>
     obtain⟨e1,r1,h1,rfl,hr1⟩:=LineOf.open hR
     have sy:=qa8 hl (.lst (ys.map V.str))
     have eL:upd H l (.lst (ys.map V.str)) l=some (.lst (ys.map V.str)):=qa1
     have hzz:(ys.map V.str).length < sizeLine:=by rw [zB];show _ < 16777216;omega
     rw [show eV (some y)=V.str y from rfl]
     left
     rw [qbb]
     have s2:=qa8 hl (.lst (ys.map V.str++ [.str y]))
     have ht2:=s2 _ _ ht
     left
     refine⟨t,S,.str y,rfl,hT.same s2,.inl ⟨y,rfl⟩,fun e he=>?_,fun he=>?_⟩
     ·have ee:e1=e:=Option.some.inj (h1.symm.trans he)
      subst ee
      left
      rw [zM] at hlen
      refine⟨⟨ys++ [y],r1,_,rfl,by rw [zE];rfl,by rw [List.append_assoc];exact hyr,hr1⟩,?_⟩
      have g1:=lenAt_eq eL
      have g2:lenAt l (upd H l (.lst (ys.map V.str++ [V.str y])))=(ys.map V.str++ [V.str y]).length:=lenAt_eq qa1
      rw [zG,zB] at g2
      rw [zB] at g1
      rw [g1,g2]
      simp only [zM,yQ]
      omega
     ·rw [show who S (.str y)=some e1 from h1] at he;cases he
   ·rintro σ H' Q1 Q2 hm ⟨v,hv,w,k,hk,hq⟩
    exact⟨v,hv,w,k,hk,hm _ _ hq⟩
  ·rw [show who S (.str z)=some e0 from h0] at he;cases he
 ·refine⟨t,S,x,rfl,hT.same sl,hx.same sl,fun e he=>?_,fun _=>q l hl⟩
  rw [hn] at he;cases he
theorem at_of {S:Ts} {e:He} (nd:(S.hl.map (·.n)).Nodup) (h:e∈S.hl):S.at e.n=some e:=by
 have q:qde S.keys e.n=some e.a:=lookO_of (by unfold Ts.keys;rw [yO];exact nd) (zL.mpr ⟨e,h,rfl⟩)
 unfold Ts.at
 revert nd h
 obtain⟨sw,ws,hs,hl⟩:=S
 dsimp only
 clear q
 intro nd h
 induction hl with
 |nil=>simp at h
 |cons y r ih=>
  rw [zS,zX] at nd
  rw [yM]
  rcases zR.mp h with h|h
  ·subst h;rw [decide_eq_true rfl]
  ·have ne:y.n≠e.n:=fun z=>nd.1 (by rw [z];exact zL.mpr ⟨e,h,rfl⟩)
   rw [decide_eq_false ne]
   exact ih nd.2 h
theorem keys_at {S:Ts} {i:Nat} {k:Key} {v:V} (h:(oK S.keys)[i]?=some (k,v)):∃e,S.hl[i]?=some e∧k=Sum.inr e.n∧v=.ref e.a:=by
 unfold oK Ts.keys at h
 rw [zC,zC] at h
 cases q:S.hl[i]? with
 |none=>rw [q] at h;cases h
 |some e=>rw [q] at h;cases h;exact⟨e,rfl,rfl,rfl⟩
theorem qeg (S:Ts):(oK S.keys).length=S.hl.length:=by unfold oK Ts.keys;rw [zB,zB]
theorem dec_el {o:Option Str} {z:Str}:decide (eV o=V.str z)=decide (o=some z):=by
 cases o with
 |none=>rfl
 |some y=>
  by_cases h:y=z
  ·subst h;show decide (V.str y=V.str y)=_;rw [decide_eq_true rfl,decide_eq_true rfl]
  ·rw [decide_eq_false (fun q=>h (by cases q;rfl)),decide_eq_false (fun q=>h (Option.some.inj q))]
theorem scal_el {o:Option Str} {z:Str}:scal (eV o) (V.str z)=true:=by cases o <;> rfl
include T in
theorem ok_Tree_kids:FnOk P w K mg base (My.CX1 P w) 3 d.f_Tree_kids d.fd_Tree_kids ["self","name"] (sp_Tree_kids K d):=by
 refine okX T.F_Tree_kids sc_Tree_kids (fun vs H Q E h=>?_) (fun cdv A outer s H vs Q E hr h=>?_)
 ·obtain⟨t,S,x,rfl,_⟩:=h;rfl
 obtain⟨t,S,x,rfl,hT,hx,q1,q2⟩:=h
 refine⟨_,(qa3 (qay (qb5 (pv 0) T.CL_Tree T.ME_Tree_check_house ((ok_Tree_check_house T).mono (by decide)) hr T.b_Tree_check_house .nil qaz (qa0 (pv 1) qa2)))
  (qa6 (qaj (qae qe9 rfl T.z_sorted PyProof.Rows.boot_sorted (qa0 (pe_thV (qbp (caps:=[0,1]) (cn:=["self","name"]) (qb1 rfl rfl (by rfl) (by rfl) rfl ⟨rfl,⟨rfl,trivial⟩⟩ (by rfl) rfl ⟨⟨rfl,rfl,rfl,rfl,_,rfl⟩,⟨⟨rfl,rfl,rfl,rfl,_,rfl⟩,trivial⟩⟩ (by decide)) rfl (qe4 (qbh (pv 0) rfl)) (fun _ _ _ _=>(qec (qak qd3 (qbh (qc7 (qd4 hr) (qbh (pv 1) rfl) (pv 0) (fun _ _=>rfl)) rfl) (pv 2) (qap _)))) (fun _ _ _ _=>(pv 0)))) qa2))))),?_⟩
 walk_at "d"
 dsimp only [cxC]
 refine qaf (σ:=[some (.ref t),some (x)]) rfl ?_
 have hT0:=hT
 obtain⟨⟨dx,ht⟩,hw,hh,nd,hz,hE⟩:=hT
 have ct:=T.CL_Tree
 have ch:=T.CL_House
 have nh:qaw K d.c_Tree "houses":=T.NA_Tree_houses
 have nf:qaw K d.c_House "elder":=T.NA_House_elder
 left
 refine⟨t,S,x,rfl,hT0,hx,fun e he=>?_,q2⟩
 obtain⟨z,rfl⟩:∃z,x=.str z:=by
  rcases hx with h|⟨_,nz⟩
  ·exact h
  ·rw [qd8 nz] at he;cases he
 obtain⟨hme,rfl⟩:=qc9 he
 left
 refine r_thV ?_
 left
 refine r_itD hh fun o=>?_
 intro C s0 H0 fp na hna
 have hF:upd H S.hs (.frz o (.dK (oK S.keys))) S.hs=some (.frz o (.dK (oK S.keys))):=qa1
 have sb:SameBut S.hs H (upd H S.hs (.frz o (.dK (oK S.keys)))):=sb_frz hh
 have ht2:=sb _ _ (ne_of ht hh (by intro z;cases z)) ht
 have hna0:H na=none:=by
  by_cases z:na=S.hs
  ·subst z;rw [hF] at hna;cases hna
  ·rw [qa9 z] at hna;exact hna
 have hE2:∀e∈S.hl,∃dx,upd H S.hs (.frz o (.dK (oK S.keys))) e.a=some (.ins d.c_House dx (fsH e.x)):=fun e he=>by
  obtain⟨⟨dx,q⟩,_⟩:=hE e he
  exact⟨dx,sb _ _ (ne_of q hh (by intro z;cases z)) q⟩
 generalize upd H S.hs (.frz o (.dK (oK S.keys)))=HF at*
 refine qf7 S.hl.length (fun i H'=>H'=upd HF na (.lst ((((S.hl.take i).filter fun y=>decide (y.x.el=some e.n)).map (·.n)).map V.str))) rfl ?_ ?_ ?_ ?_
 ·rintro i H' hi rfl
  exact⟨qa4 hF hna,by rw [qeg];exact hi⟩
 ·rintro H' rfl
  exact⟨qa4 hF hna,by rw [qeg];exact Nat.le_refl _⟩
 ·rintro i H' v H'' hi rfl ⟨rfl,k,v',hk,rfl⟩
  obtain⟨y,hy,rfl,rfl⟩:=keys_at hk
  have hym:=zD hy
  obtain⟨dy,hya⟩:=hE2 y hym
  have nx:(S.hl.take (i+1)).filter (fun y=>decide (y.x.el=some e.n))=(S.hl.take i).filter (fun y=>decide (y.x.el=some e.n))++(if decide (y.x.el=some e.n)=true then [y] else []):=by
   rw [zQ,hy,yC]
   congr 1
   simp only [Option.toList_some,zY,yP]
  have hlen:((S.hl.take i).filter (fun y=>decide (y.x.el=some e.n))).length≤S.hl.length:=Nat.le_trans (zU ..) (by rw [zT];omega)
  left
  refine r_dgO (h:=y.a) (rd_new (.inr ⟨o,hF⟩) hna) (by rw [qds,at_of nd hym];rfl) ?_
  left
  refine⟨scal_el,?_⟩
  rw [dec_el]
  refine⟨_,rfl,?_⟩
  refine i_2 (fun c=>?_) (fun c=>?_)
  ·left
   rw [qbb,nx,if_pos (decide_eq_true c),zE,zE];rfl
  ·rw [nx,if_neg (by rw [decide_eq_false c];decide),yD]
 rintro H' rfl
 rw [zV]
 have nns:na≠S.hs:=fun z=>by subst z;rw [hF] at hna;cases hna
 have eN:upd (upd HF na (.lst ((qbd S e.n).map V.str))) S.hs (.dK (oK S.keys)) na=some (.lst ((qbd S e.n).map V.str)):=by rw [qa9 nns];exact qa1
 have sm:qaq H (upd (upd HF na (.lst ((qbd S e.n).map V.str))) S.hs (.dK (oK S.keys))):=qcq hh (sb_put sb hna0)
 have hkl:(qbd S e.n).length≤60:=by unfold qbd;rw [zB];exact Nat.le_trans (zU ..) hz
 refine⟨_,thaw1 (qa4 hF hna) (qdy hh),?_⟩
 show tNil _ (upd (upd HF na (.lst ((qbd S e.n).map V.str))) S.hs (.dK (oK S.keys))) _
 generalize upd (upd HF na (.lst ((qbd S e.n).map V.str))) S.hs (.dK (oK S.keys))=H3 at*
 left
 refine r_sortL (SqL.of eN) (by omega) fun l ss hl hp hs=>?_
 left
 exact q1 e he l ss _ (qb7 sm hl) (sm.free hl) qa1 hp hs
theorem r_extend {H:Hp} {Q:VK} {l b:Addr} {xs zs:List V} (h:H l=some (.lst xs)) (hb:H b=some (.lst zs)) (hz:xs.length+zs.length≤sizeLine) (q:Q .non (upd H l (.lst (xs++zs)))):rExtend (.ref l) [.ref b] H Q:=⟨l,b,xs,zs,rfl,rfl,h,hb,hz,q⟩
def flat (parts:List (Str × List Str)):List Str:=(parts.map (·.2)).flatten
def Ben (S:Ts):Nat→Str→List Str→Prop
 |0,z,zs=>∃parts:List (Str × List Str),(parts.map (·.1)).Perm (qbd S z)∧zs=z :: flat parts∧∀p∈parts,False
 |n+1,z,zs=>∃parts:List (Str × List Str),(parts.map (·.1)).Perm (qbd S z)∧zs=z :: flat parts∧∀p∈parts,Ben S n p.1 p.2
def BenP (S:Ts):Nat→Str→List Str→Prop
 |0,z,zs=>∃(parts:List (Str × List Str)) (rest:List Str),(parts.map (·.1)++rest).Perm (qbd S z)∧zs=z :: flat parts∧∀p∈parts,False
 |n+1,z,zs=>∃(parts:List (Str × List Str)) (rest:List Str),(parts.map (·.1)++rest).Perm (qbd S z)∧zs=z :: flat parts∧∀p∈parts,BenP S n p.1 p.2
theorem Ben.part {S:Ts}:∀{n:Nat} {z:Str} {zs:List Str},Ben S n z zs→BenP S n z zs
 |0,_,_,⟨parts,a,b,c⟩=>⟨parts, [],by rw [yD];exact a,b,c⟩
 |n+1,_,_,⟨parts,a,b,c⟩=>⟨parts, [],by rw [yD];exact a,b,fun p hp=>Ben.part (c p hp)⟩
def BenK (S:Ts):Nat→Str→List Str→Prop
 |0,_,_=>False
 |n+1,z,zs=>Ben S n z zs
theorem ben_of {S:Ts} {n:Nat} {z:Str} {parts:List (Str × List Str)} (h:(parts.map (·.1)).Perm (qbd S z)) (hp:∀p∈parts,BenK S n p.1 p.2):Ben S n z (z :: flat parts):=by
 cases n with
 |zero=>exact⟨parts,h,rfl,hp⟩
 |succ n=>exact⟨parts,h,rfl,hp⟩
theorem benP_of {S:Ts} {n:Nat} {z:Str} {parts:List (Str × List Str)} {rest:List Str} (h:(parts.map (·.1)++rest).Perm (qbd S z)) (hp:∀p∈parts,BenK S n p.1 p.2):BenP S n z (z :: flat parts):=by
 cases n with
 |zero=>exact⟨parts,rest,h,rfl,hp⟩
 |succ n=>exact⟨parts,rest,h,rfl,fun p q=>Ben.part (hp p q)⟩
def Slim (S:Ts):Prop:=∀n z zs,BenP S n z zs→zs.length≤1000
def Dep (S:Ts):Nat→Str→Prop
 |0,z=>qbd S z=[]
 |n+1,z=>∀y∈qbd S z,Dep S n y
def sp_ben (n:Nat) (K:Frag) (d:Ad):Sp:=fun vs H Q E=>∃(t:Addr) (S:Ts) (x:V),vs=[.ref t,x]∧qf5 d H t S∧Slim S∧qeb K H x∧(∀e,who S x=some e→Dep S n e.n∧∀l zs H',qaq H H'→H l=none→H' l=some (.lst (zs.map V.str))→Ben S n e.n zs→Q (.ref l) H')∧(who S x=none→∀l,H l=none→E (.ref d.c_NoHouse) none (upd H l (.lst [x])))
theorem kid_at {S:Ts} {y z:Str} (nd:(S.hl.map (·.n)).Nodup) (h:y∈qbd S z):∃e,S.at y=some e∧e.n=y:=by
 obtain⟨e,he,rfl⟩:=zL.mp h
 exact⟨e,at_of nd (yF.mp he).1,rfl⟩
theorem flat_app (a b:List (Str × List Str)):flat (a++b)=flat a++flat b:=by unfold flat;rw [zE,List.flatten_append]
theorem ben_step {P:Program} {w:World} {K:Frag} {mg:Str→Option Value} {base:Heap} {d:Ad} (T:Tx K mg d) (n:Nat) (spi:Sp) (IH:FnOk P w K mg base (My.CX1 P w) (3+n) d.f_Tree_beneath d.fd_Tree_beneath ["self","name"] spi)
  (use:∀(t:Addr) (S:Ts) (z y:Str) (e:He) (H:Hp) (Q:VK) (E:XK),qf5 d H t S→Slim S→Dep S n z→y∈qbd S z→S.at y=some e→e.n=y→(∀l zs H',qaq H H'→H l=none→H' l=some (.lst (zs.map V.str))→BenK S n y zs→Q (.ref l) H')→spi [.ref t,.str y] H Q E):
  FnOk P w K mg base (My.CX1 P w) (3+n+1) d.f_Tree_beneath d.fd_Tree_beneath ["self","name"] (sp_ben n K d):=by
 refine okX T.F_Tree_beneath sc_Tree_beneath (fun vs H Q E h=>?_) (fun cdv A outer s H vs Q E hr h=>?_)
 ·obtain⟨t,S,x,rfl,_⟩:=h;rfl
 obtain⟨t,S,x,rfl,hT,hS,hx,q1,q2⟩:=h
 refine⟨_,(qa3 (qad (i:=2) sc_Tree_beneath.nd rfl (Or.inl rfl) (qbe (qa0 (pv 1) qa2)))
  (qa3 (qb2 (qeq rfl rfl) rfl (qax (qb5 (pv 0) T.CL_Tree T.ME_Tree_kids ((ok_Tree_kids T).mono (by omega)) hr T.b_Tree_kids .nil qaz (qa0 (pv 1) qa2))) (qam (i:=3) sc_Tree_beneath.nd rfl (Or.inl rfl)) (qa6 (qay (qd2 PySem.F.plainAttrs_list PySem.F.slot_list_extend PySem.F.type_list_extend mt_extend (pv 2) (qa0 (qb5 (pv 0) T.CL_Tree T.ME_Tree_beneath IH hr T.b_Tree_beneath .nil qaz (qa0 (pv 3) qa2)) qa2)))))
  (qa6 (qaj (pv 2))))),?_⟩
 walk_at "d"
 refine qaf (σ:=[some (.ref t),some (x),none,none]) rfl ?_
 have ct:=T.CL_Tree
 obtain⟨dx,ht⟩:=hT.1
 have nd:=hT.2.2.2.1
 left
 rename_i lt hlt
 have sl:=qa8 hlt (.lst [x])
 refine⟨t,S,x,rfl,hT.same sl,hx.same sl,fun e he=>?_,fun he=>q2 he lt hlt⟩
 obtain⟨hD,q⟩:=q1 e he
 obtain⟨z,rfl⟩:∃z,x=.str z:=by
  rcases hx with h|⟨_,nz⟩
  ·exact h
  ·rw [qd8 nz] at he;cases he
 obtain⟨hme,rfl⟩:=qc9 he
 intro lk ss H1 s1 hlk ek hp hs
 have eT:=s1 _ _ (qa1 (H:=H) (a:=lt) (o:=.lst [V.str e.n]))
 left
 have ntk:lk≠lt:=fun z=>by subst z;rw [qa1] at hlk;cases hlk
 refine qd6 (xs:=ss.map V.str) (fun i σ H'=>∃(parts:List (Str × List Str)) (w:Option V),σ=[some (.ref t),some (.str e.n),some (.ref lt),w]∧parts.map (·.1)=ss.take i∧(∀p∈parts,BenK S n p.1 p.2)∧qaq H H'∧H' lk=some (.lst (ss.map V.str))∧H' lt=some (.lst ((e.n :: flat parts).map V.str)))
  ⟨[],_,rfl,rfl,fun p hp=>absurd hp (by simp),sl.trans s1,ek,eT⟩ ?_ ?_ ?_
 ·rintro i σ H' _ ⟨parts,w,_,_,_,_,ek',_⟩;exact SqL.of ek'
 ·rintro i v σ H' hv ⟨parts,w,rfl,hps,hB,sm,ek',eT'⟩
  rw [zC] at hv
  obtain⟨y,hy,rfl⟩:=Option.map_eq_some_iff.mp hv
  have hyk:y∈qbd S e.n:=hp.mem_iff.mp (zD hy)
  obtain⟨ey,h1,h2⟩:=kid_at nd hyk
  have ht':=sm _ _ ht
  left
  refine use t S e.n y ey H' _ _ (hT.same sm) hS hD hyk h1 h2 fun l zs H2 s2 hl el hBy=>?_
  have eT2:=s2 _ _ eT'
  have hps2:(parts++ [(y,zs)]).map (·.1)=ss.take (i+1):=by rw [zE,hps,zQ,hy];rfl
  have hB2:∀p∈parts++ [(y,zs)],BenK S n p.1 p.2:=fun p hp=>by
   rcases zN.mp hp with h|h
   ·exact hB p h
   ·have:=zH.mp h
    subst this;exact hBy
  have ef:flat (parts++ [(y,zs)])=flat parts++zs:=by rw [flat_app];congr 1;simp [flat]
  have hlen:=hS _ _ _ (benP_of (n:=n) (z:=e.n) (parts:=parts++ [(y,zs)]) (rest:=ss.drop (i+1)) (by rw [hps2,List.take_append_drop];exact hp) hB2)
  rw [ef,zM,zG] at hlen
  left
  refine r_extend eT2 el (by rw [zB,zB,zM];show _≤16777216;omega) ?_
  left
  refine⟨parts++ [(y,zs)],_,rfl,hps2,hB2,qav (sm.trans s2) hlt,by rw [qa9 ntk];exact s2 _ _ ek',?_⟩
  rw [ef,←zE];exact qa1
 ·rintro σ H' ⟨parts,w,rfl,hps,hB,sm,ek',eT'⟩
  rw [zB,zV] at hps
  left
  exact q lt _ H' sm hlt eT' (ben_of (by rw [hps];exact hp) hB)
theorem ok_none {P:Program} {w:World} {K:Frag} {mg:Str→Option Value} {base:Heap} {CX:CXT} {k:Nat} {f:Addr} {fd:FuncData} {ps:List Str}:FnOk P w K mg base CX k f fd ps (fun _ _ _ _=>False):=
 ⟨fun _ _ _ _ h=>h.elim,fun _ _ _ _ _ _ _ _ _ _ _ _ _ h=>h.elim⟩
theorem ok_ben {P:Program} {w:World} {K:Frag} {mg:Str→Option Value} {base:Heap} {d:Ad} (T:Tx K mg d):∀n:Nat,FnOk P w K mg base (My.CX1 P w) (3+n+1) d.f_Tree_beneath d.fd_Tree_beneath ["self","name"] (sp_ben n K d)
 |0=>ben_step T 0 (fun _ _ _ _=>False) ok_none fun t S z y e H Q E _ _ hD hy _ _ _=>by
  have:qbd S z=[]:=hD
  rw [this] at hy;simp at hy
 |n+1=>ben_step T (n+1) (sp_ben n K d) (ok_ben T n) fun t S z y e H Q E hT hS hD hy h1 h2 q=>by
  refine⟨t,S,.str y,rfl,hT,hS,.inl ⟨y,rfl⟩,fun e' he'=>?_,fun he'=>?_⟩
  ·have ee:e=e':=Option.some.inj (h1.symm.trans he')
   subst ee
   rw [h2]
   exact⟨hD y hy,fun l zs H' sm hl el hB=>q l zs H' sm hl el hB⟩
  ·rw [show who S (.str y)=some e from h1] at he';cases he'
def sp_Tree_beneath (K:Frag) (d:Ad):Sp:=sp_ben 12 K d
include T in
theorem ok_Tree_beneath:FnOk P w K mg base (My.CX1 P w) 16 d.f_Tree_beneath d.fd_Tree_beneath ["self","name"] (sp_Tree_beneath K d):=ok_ben T 12
def upS (S:Ts) (y:Str):Option Str:=(S.at y).bind fun e=>e.x.el
def anc (S:Ts):Nat→Str→Option Str
 |0,y=>some y
 |k+1,y=>(upS S y).bind (anc S k)
theorem qdv {S:Ts}:∀(i j:Nat) (y:Str),anc S (i+j) y=(anc S i y).bind (anc S j)
 |0,j,y=>by rw [Nat.zero_add];rfl
 |i+1,j,y=>by
  rw [show i+1+j=(i+j)+1 by omega]
  show (upS S y).bind (anc S (i+j))=((upS S y).bind (anc S i)).bind (anc S j)
  cases upS S y with
  |none=>rfl
  |some u=>exact qdv i j u
def WF (S:Ts):Prop:=(S.hl.map (·.n)).Nodup∧∀e∈S.hl,∃zs,LineOf S e.n zs
theorem up_of {S:Ts} {z:Str} {e:He} (h:S.at z=some e):upS S z=e.x.el:=by unfold upS;rw [h];rfl
theorem line_end {S:Ts} {z:Str} {zs:List Str} (h:LineOf S z zs):anc S zs.length z=none:=by
 induction h with
 |top h n=>show (upS S _).bind _=none;rw [up_of h,n];rfl
 |up h n r ih=>show (upS S _).bind _=none;rw [up_of h,n];exact ih
theorem no_cycle {S:Ts} (w:WF S) {k:Nat} {z:Str}:anc S (k+1) z≠some z:=by
 intro c
 cases hz:S.at z with
 |none=>
  have:anc S (k+1) z=none:=by show (upS S z).bind _=none;unfold upS;rw [hz];rfl
  rw [this] at c;cases c
 |some e=>
  obtain⟨zs,hl⟩:=w.2 e (qc9 hz).1
  rw [(qc9 hz).2] at hl
  have he:=line_end hl
  have rep:∀m,anc S (m*(k+1)) z=some z:=by
   intro m
   induction m with
   |zero=>rw [Nat.zero_mul];rfl
   |succ m ih=>rw [Nat.succ_mul,qdv,ih];exact c
  have h1:=rep zs.length
  have h2:zs.length*(k+1)=zs.length+zs.length*k:=by rw [Nat.mul_add,Nat.mul_one];omega
  rw [h2,qdv,he] at h1
  cases h1
theorem kid_up {S:Ts} (w:WF S) {y z:Str} (h:y∈qbd S z):upS S y=some z:=by
 obtain⟨e,he,rfl⟩:=zL.mp h
 obtain⟨hm,hd⟩:=yF.mp he
 unfold upS
 rw [at_of w.1 hm]
 exact of_decide_eq_true hd
theorem kids_nodup {S:Ts} (w:WF S) (z:Str):(qbd S z).Nodup:=by
 unfold qbd
 exact List.Nodup.sublist (List.Sublist.map _ List.filter_sublist) w.1
theorem ben_anc {S:Ts} (w:WF S):∀{n:Nat} {z:Str} {zs:List Str},BenP S n z zs→∀y∈zs,∃k,anc S k y=some z
 |0,z,_,⟨parts,rest,hp,rfl,hb⟩,y,hy=>by
  rcases zR.mp hy with rfl|hy
  ·exact⟨0,rfl⟩
  ·obtain⟨l,hl,_⟩:=yN.mp hy
   obtain⟨p,hpp,_⟩:=zL.mp hl
   exact(hb p hpp).elim
 |n+1,z,_,⟨parts,rest,hp,rfl,hb⟩,y,hy=>by
  rcases zR.mp hy with rfl|hy
  ·exact⟨0,rfl⟩
  ·obtain⟨l,hl,hyl⟩:=yN.mp hy
   obtain⟨p,hpp,rfl⟩:=zL.mp hl
   obtain⟨k,hk⟩:=ben_anc w (hb p hpp) y hyl
   have hu:=kid_up w (hp.mem_iff.mp (yI _ (zL.mpr ⟨p,hpp,rfl⟩)))
   exact⟨k+1,by rw [qdv,hk];show (upS S p.1).bind _=_;rw [hu];rfl⟩
theorem apart {S:Ts} (w:WF S) {p q z y:Str} {i j:Nat} (hp:upS S p=some z) (hq:upS S q=some z) (ne:p≠q) (hi:anc S i y=some p) (hj:anc S j y=some q) (le:i≤j):False:=by
 obtain⟨c,rfl⟩:=Nat.exists_eq_add_of_le le
 rw [qdv,hi] at hj
 have hj':anc S c p=some q:=hj
 cases c with
 |zero=>exact ne (Option.some.inj hj')
 |succ c=>
  have h1:(upS S p).bind (anc S c)=some q:=hj'
  rw [hp] at h1
  have h2:anc S c z=some q:=h1
  refine no_cycle w (k:=c) (z:=z) ?_
  rw [qdv,h2]
  show (upS S q).bind _=_
  rw [hq];rfl
theorem qer {S:Ts} (w:WF S) {z:Str}:∀{parts:List (Str × List Str)},(parts.map (·.1)).Nodup→(∀p∈parts,upS S p.1=some z)→(∀p∈parts,p.2.Nodup∧∀y∈p.2,∃k,anc S k y=some p.1)→(flat parts).Nodup
 | [],_,_,_=>yH
 |p :: r,nd,hu,hb=>by
  rw [zS,zX] at nd
  have ih:=qer w (z:=z) nd.2 (fun q hq=>hu q (zF _ hq)) fun q hq=>hb q (zF _ hq)
  show (p.2++flat r).Nodup
  rw [yK]
  refine⟨(hb p (zI ..)).1,ih,fun a ha b hbm e=>?_⟩
  subst e
  obtain⟨l,hl,hal⟩:=yN.mp hbm
  obtain⟨q,hq,rfl⟩:=zL.mp hl
  obtain⟨i,hi⟩:=(hb p (zI ..)).2 a ha
  obtain⟨j,hj⟩:=(hb q (zF _ hq)).2 a hal
  have ne:p.1≠q.1:=fun z=>nd.1 (by rw [z];exact zL.mpr ⟨q,hq,rfl⟩)
  have up:=hu p (zI ..)
  have uq:=hu q (zF _ hq)
  rcases Nat.le_total i j with h|h
  ·exact apart w up uq ne hi hj h
  ·exact apart w uq up ne.symm hj hi h
theorem qcw {S:Ts} (w:WF S):∀{n:Nat} {z:Str} {zs:List Str},BenP S n z zs→zs.Nodup∧∀y∈zs,y=z∨y∈S.hl.map (·.n)
 |0,z,_,⟨parts,rest,hp,rfl,hb⟩=>by
  have:parts=[]:=by
   cases parts with
   |nil=>rfl
   |cons p r=>exact(hb p (zI ..)).elim
  subst this
  exact⟨by simp [flat],fun y hy=> .inl (by simpa [flat] using hy)⟩
 |n+1,z,_,⟨parts,rest,hp,rfl,hb⟩=>by
  have kd:=kids_nodup w z
  have hk:∀p∈parts,p.1∈qbd S z:=fun p h=>hp.mem_iff.mp (yI _ (zL.mpr ⟨p,h,rfl⟩))
  have hu:∀p∈parts,upS S p.1=some z:=fun p h=>kid_up w (hk p h)
  have hn:(parts.map (·.1)).Nodup:=(yK.mp (hp.nodup_iff.mpr kd)).1
  have fl:=qer w (z:=z) hn hu fun p h=>⟨(qcw w (hb p h)).1,ben_anc w (hb p h)⟩
  refine⟨zX.mpr ⟨fun hm=>?_,fl⟩,fun y hy=>?_⟩
  ·obtain⟨l,hl,hal⟩:=yN.mp hm
   obtain⟨q,hq,rfl⟩:=zL.mp hl
   obtain⟨k,hk'⟩:=ben_anc w (hb q hq) z hal
   refine no_cycle w (k:=k) (z:=z) ?_
   rw [qdv,hk']
   show (upS S q.1).bind _=_
   rw [hu q hq];rfl
  ·rcases zR.mp hy with rfl|hy
   ·exact .inl rfl
   ·obtain⟨l,hl,hal⟩:=yN.mp hy
    obtain⟨q,hq,rfl⟩:=zL.mp hl
    have hq1:q.1∈S.hl.map (·.n):=by
     obtain⟨e,he,e1⟩:=zL.mp (hk q hq)
     rw [←e1];exact zL.mpr ⟨e,(yF.mp he).1,rfl⟩
    rcases(qcw w (hb q hq)).2 y hal with rfl|h
    ·exact .inr hq1
    ·exact .inr h
theorem slim_of {S:Ts} (w:WF S) (hz:S.hl.length≤60):Slim S:=fun n z zs h=>by
 obtain⟨nd,hm⟩:=qcw w h
 have:=nd_le (m:=z :: S.hl.map (·.n)) nd fun y hy=>by
  rcases hm y hy with rfl|h
  ·exact zI ..
  ·exact zF _ h
 rw [zM,zB] at this
 omega
def ptOf (S:Ts) (y:Str):Pt:=match S.at y with
 |some e=>⟨e.x.pa,e.x.kp,e.x.fp⟩
 |none=>⟨0, [],noF⟩
theorem qg0 {S:Ts} {y:Str} {e:He} (h:S.at y=some e):ptOf S y=⟨e.x.pa,e.x.kp,e.x.fp⟩:=by unfold ptOf;rw [h]
def qga (S:Ts):Prop:=S.ws.length≤100∧∀e∈S.hl,∀z,e.x.fp z≠none→z∈S.ws
def sp_Tree_promised_beneath (K:Frag) (d:Ad):Sp:=fun vs H Q E=>∃(t:Addr) (S:Ts) (x:V),vs=[.ref t,x]∧qf5 d H t S∧WF S∧qga S∧qeb K H x∧
 (∀e,who S x=some e→Dep S 12 e.n∧∀l zs k' H',qaq H H'→H l=none→H' l=some (.dK k')→Ben S 12 e.n zs→AD k' (sumF (zs.map (ptOf S)))→Q (.ref l) H')∧(who S x=none→∀l,H l=none→E (.ref d.c_NoHouse) none (upd H l (.lst [x])))
include T in
theorem ok_Tree_promised_beneath:FnOk P w K mg base (My.CX1 P w) 17 d.f_Tree_promised_beneath d.fd_Tree_promised_beneath ["self","name"] (sp_Tree_promised_beneath K d):=by
 refine okX T.F_Tree_promised_beneath sc_Tree_promised_beneath (fun vs H Q E h=>?_) (fun cdv A outer s H vs Q E hr h=>?_)
 ·obtain⟨t,S,x,rfl,_⟩:=h;rfl
 obtain⟨t,S,x,rfl,hT,hW,hO,hx,q1,q2⟩:=h
 refine⟨_,(qa6 (qaj (qaa ((ok_total_of T).mono (by decide)) hr rfl T.m_total_of T.F_total_of.kp T.b_total_of .nil qag (qa0 (qbp (caps:=[0]) (cn:=["self"]) (qb1 rfl rfl (by rfl) (by rfl) rfl ⟨rfl,trivial⟩ (by rfl) rfl ⟨⟨rfl,rfl,rfl,rfl,_,rfl⟩,trivial⟩ (by decide)) rfl (qax (qb5 (pv 0) T.CL_Tree T.ME_Tree_beneath ((ok_Tree_beneath T).mono (by decide)) hr T.b_Tree_beneath .nil qaz (qa0 (pv 1) qa2))) (fun _ _ _ _=>qcj) (fun _ _ _ _=>(qbh (qc7 (qd4 hr) (qbh (pv 1) rfl) (pv 0) (fun _ _=>rfl)) rfl))) qa2)))),?_⟩
 walk_at "d"
 dsimp only [cxC]
 refine qaf (σ:=[some (.ref t),some (x)]) rfl ?_
 have ct:=T.CL_Tree
 have ch:=T.CL_House
 have nh:qaw K d.c_Tree "houses":=T.NA_Tree_houses
 have nf:qaw K d.c_House "promise":=T.NA_House_promise
 obtain⟨dx,ht⟩:=hT.1
 have nd:=hT.2.2.2.1
 left
 refine⟨t,S,x,rfl,hT,slim_of hW hT.2.2.2.2.1,hx,fun e he=>⟨(q1 e he).1,?_⟩,q2⟩
 obtain⟨hD,q⟩:=q1 e he
 intro lb zs H1 s1 hlb eb hB
 left
 have hT1:=hT.same s1
 obtain⟨⟨_,ht1⟩,hw,hh,_,hz,hE⟩:=hT1
 have hbn:=qcw hW (Ben.part hB)
 have hzs:=slim_of hW hz 12 _ _ (Ben.part hB)
 have hin:∀y∈zs,∃ey,S.at y=some ey∧ey∈S.hl:=fun y hy=>by
  have hy':y∈S.hl.map (·.n):=by
   rcases hbn.2 y hy with rfl|h
   ·obtain⟨z,rfl⟩:∃z,x=.str z:=by
     rcases hx with h|⟨_,nz⟩
     ·exact h
     ·rw [qd8 nz] at he;cases he
    exact zL.mpr ⟨e,(qc9 he).1,rfl⟩
   ·exact h
  obtain⟨ey,hm,rfl⟩:=zL.mp hy'
  exact⟨ey,at_of nd hm,hm⟩
 intro C s0 H0 fp na hna
 refine qf7 zs.length (fun i H'=>H'=upd H1 na (.lst (((zs.take i).map (ptOf S)).map fun u=> .ref u.a))) rfl ?_ ?_ ?_ ?_
 ·rintro i H' hi rfl
  exact⟨_,.str zs[i],SqL.of (qa4 eb hna),by rw [zC,zA hi];rfl⟩
 ·rintro H' rfl
  exact⟨_,SqL.of (qa4 eb hna),by rw [zB];exact Nat.le_refl _⟩
 ·rintro i H' v H'' hi rfl ⟨rfl,hy⟩
  have hv:=hy _ (SqL.of (qa4 eb hna))
  rw [zC,zA hi] at hv
  cases hv
  obtain⟨ey,h1,hm⟩:=hin _ (zJ hi)
  obtain⟨⟨dy,hya⟩,_⟩:=hE ey hm
  left
  refine r_dgO (h:=ey.a) (rd_new (.inl hh) hna) (by rw [qds,h1];rfl) ?_
  left
  rw [qbb,zQ,zA hi]
  congr 2
  simp only [Option.toList_some,zE,zS,List.map_nil,qg0 h1]
 rintro H' rfl
 rw [zV]
 have s2:=qa8 hna (.lst ((zs.map (ptOf S)).map fun u=>V.ref u.a))
 have eN:upd H1 na (.lst ((zs.map (ptOf S)).map fun u=>V.ref u.a)) na=some (.lst ((zs.map (ptOf S)).map fun u=>V.ref u.a)):=qa1
 left
 refine⟨na,zs.map (ptOf S),S.ws,rfl,SqL.of eN,hO.1,fun u hu=>?_,fun l k' H2 s3 hl el hA=>q l zs k' H2 ((s1.trans s2).trans s3) ((s1.trans s2).free hl) el hB hA⟩
 obtain⟨y,hy,rfl⟩:=zL.mp hu
 obtain⟨ey,h1,hm⟩:=hin y hy
 obtain⟨_,hp,hA,_⟩:=hE ey hm
 rw [qg0 h1]
 exact⟨s2 _ _ hp,hA,hO.2 ey hm⟩
include T in
theorem ok_i_NoPromise:FnOk P w K mg base CX0 1 d.f_i_NoPromise d.fd_i_NoPromise ["self","house","ware"] (fun _ _ _ _=>False):=ok_none
def sp_check_promises (K:Frag) (d:Ad):Sp:=fun vs H Q _=>∃(x:V) (a b:Addr) (ka kb:List (Key × V)) (f g:Str→Option Int),vs=[x,.ref a,.ref b]∧Rd H a (.dK ka)∧Rd H b (.dK kb)∧AD ka f∧AD kb g∧ka.length < 64∧(∀z n,f z=some n→n≤gN g z)∧∀H',qaq H H'→Q .non H'
include T in
theorem ok_check_promises:FnOk P w K mg base (My.CX1 P w) 3 d.f_check_promises d.fd_check_promises ["name","promises","cap"] (sp_check_promises K d):=by
 refine okX T.F_check_promises sc_check_promises (fun vs H Q E h=>?_) (fun cdv A outer s H vs Q E hr h=>?_)
 ·obtain⟨x,a,b,ka,kb,f,g,rfl,_⟩:=h;rfl
 obtain⟨x,a,b,ka,kb,f,g,rfl,ha,hb,hf,hg,hz,hw,q⟩:=h
 refine⟨_,(qa3 (qad (i:=3) sc_check_promises.nd rfl (Or.inl rfl) (qaa ((ok_beyond T).mono (by decide)) hr rfl T.m_beyond T.F_beyond.kp T.b_beyond .nil qag (qa0 (pv 1) (qa0 (pv 2) qa2))))
  (qa6 (qbc (qak qdx (pv 3) qdo (qap _)) (qa6 (ps_raiseI rfl T.XI_NoPromise ((ok_i_NoPromise T).mono (by decide)) hr T.b_i_NoPromise rfl T.m_NoPromise qaz (qa0 (pv 0) (qa0 (pv 3) qa2)))) qan))),?_⟩
 walk_at "d"
 refine qaf (σ:=[some (x),some (.ref a),some (.ref b),none]) rfl ?_
 left
 refine⟨a,b,ka,kb,f,g,rfl,ha,hb,hf,hg,hz,fun H' sm _=>?_,fun z H' sm hv _=>?_⟩
 ·left
  exact q _ sm
 ·obtain⟨h1,h2⟩:=hv
  cases e:f z with
  |none=>exact absurd e h1
  |some n=>
   have h3:=hw z n e
   have h4:gN f z=n:=by unfold gN;rw [e];rfl
   omega
def sp_Tree_check_more (K:Frag) (d:Ad):Sp:=fun vs H Q _=>∃(t lb m:Addr) (S:Ts) (zs:List Str) (km:List (Key × V)) (fm:Str→Option Int),vs=[.ref t,.ref lb,.ref m]∧qf5 d H t S∧WF S∧qga S∧SqL K H lb (zs.map V.str)∧H m=some (.dK km)∧AD km fm∧S.ws.length≤50∧(∀z,fm z≠none→z∈S.ws)∧
 (∀y∈zs,∃e,S.at y=some e∧Dep S 12 y∧∀bs,Ben S 12 y bs→∀z n,qfb (sumF (bs.map (ptOf S))) fm z=some n→n≤gN e.x.fc z)∧∀H',qaq H H'→Q .non H'
include T in
theorem ok_Tree_check_more:FnOk P w K mg base (My.CX1 P w) 18 d.f_Tree_check_more d.fd_Tree_check_more ["self","names","more"] (sp_Tree_check_more K d):=by
 refine okX T.F_Tree_check_more sc_Tree_check_more (fun vs H Q E h=>?_) (fun cdv A outer s H vs Q E hr h=>?_)
 ·obtain⟨t,lb,m,S,zs,km,fm,rfl,_⟩:=h;rfl
 obtain⟨t,lb,m,S,zs,km,fm,rfl,hT,hW,hO,hL,hm,hA,hws,hfm,hy,q⟩:=h
 refine⟨_,(qa6 (qb2 (qeq rfl rfl) rfl (qax (pv 1)) (qam (i:=3) sc_Tree_check_more.nd rfl (Or.inl rfl)) (qa6 (qay (qcb ((ok_check_promises T).mono (by decide)) hr rfl T.m_check_promises T.F_check_promises.kp T.b_check_promises .nil qaz (qa0 (pv 3) (qa0 (qaa ((ok_added T).mono (by decide)) hr rfl T.m_added T.F_added.kp T.b_added .nil qag (qa0 (qb5 (pv 0) T.CL_Tree T.ME_Tree_promised_beneath ((ok_Tree_promised_beneath T).mono (by decide)) hr T.b_Tree_promised_beneath .nil qaz (qa0 (pv 3) qa2)) (qa0 (pv 2) qa2))) (qa0 (qbh (qc7 (qd4 hr) (qbh (pv 0) rfl) (pv 3) (fun _ _=>rfl)) rfl) qa2)))))))),?_⟩
 walk_at "d"
 refine qaf (σ:=[some (.ref t),some (.ref lb),some (.ref m),none]) rfl ?_
 have ct:=T.CL_Tree
 have ch:=T.CL_House
 have nh:qaw K d.c_Tree "houses":=T.NA_Tree_houses
 have nf:qaw K d.c_House "cap":=T.NA_House_cap
 left
 refine qd6 (xs:=zs.map V.str) (fun i σ H'=>qaq H H'∧∃w,σ=[some (.ref t),some (.ref lb),some (.ref m),w]) ⟨qaq.refl _,_,rfl⟩ ?_ ?_ ?_
 ·rintro i σ H' _ ⟨sm,_⟩;exact sm.seq hL
 ·rintro i v σ H' hv ⟨sm,w,rfl⟩
  rw [zC] at hv
  obtain⟨y,hyi,rfl⟩:=Option.map_eq_some_iff.mp hv
  obtain⟨e,h1,hD,hb⟩:=hy y (zD hyi)
  obtain⟨dx,ht⟩:=(hT.same sm).1
  left
  have sup:∀bs:List Str,(∀b∈bs,∃eb,S.at b=some eb∧eb∈S.hl)→∀z,sumF (bs.map (ptOf S)) z≠none→z∈S.ws:=fun bs hbs=>by
   refine sum_sup (fun u hu z hz=>?_) noF (fun z hz=>absurd rfl hz)
   obtain⟨b,hb1,rfl⟩:=zL.mp hu
   obtain⟨eb,h3,h4⟩:=hbs b hb1
   rw [qg0 h3] at hz
   exact hO.2 eb h4 z hz
  refine⟨t,S,.str y,rfl,hT.same sm,hW,hO,.inl ⟨y,rfl⟩,fun e' he'=>?_,fun hn=>?_⟩
  ·have ee:e=e':=Option.some.inj (h1.symm.trans he')
   subst ee
   have hme:=qc9 h1
   rw [hme.2]
   refine⟨hD,fun l bs k' H2 s2 hl el hB hA2=>?_⟩
   have hbs:∀b∈bs,∃eb,S.at b=some eb∧eb∈S.hl:=fun b hb1=>by
    have hb2:b∈S.hl.map (·.n):=by
     rcases(qcw hW (Ben.part hB)).2 b hb1 with rfl|h
     ·exact zL.mpr ⟨e,hme.1,hme.2⟩
     ·exact h
    obtain⟨eb,h3,rfl⟩:=zL.mp hb2
    exact⟨eb,at_of hW.1 h3,h3⟩
   have l1:=hA2.le (sup bs hbs)
   have l2:=hA.le hfm
   left
   refine⟨l,m,k',km,_,fm,rfl,.inl el,(sm.trans s2) _ _ hm,hA2,hA,by omega,by omega,fun lx kx H3 s3 hlx elx hA3=>?_⟩
   have sx:=(sm.trans s2).trans s3
   obtain⟨⟨dx3,ht3⟩,_,hh3,_,_,hE3⟩:=hT.same sx
   obtain⟨⟨dh,ho⟩,_,_,hc,hcA⟩:=hE3 e hme.1
   left
   refine r_dgO (h:=e.a) (.inl hh3) (by rw [qds,h1];rfl) ?_
   left
   refine⟨.str y,lx,e.x.ca,kx,e.x.kc,_,e.x.fc,rfl,.inl elx,.inl hc,hA3,hcA,?_,hb bs hB,fun H4 s4=>⟨sx.trans s4,_,rfl⟩⟩
   have l3:=hA3.le (ws:=S.ws) (addF_sup (sup bs hbs) hfm)
   omega
  ·rw [show who S (.str y)=some e from h1] at hn;cases hn
 ·rintro σ H' ⟨sm,w,rfl⟩
  left
  exact q _ sm
def sp_is_whole (K:Frag) (d:Ad):Sp:=fun vs H Q _=>∃i:Int,vs=[.int i]∧Q (.bl true) H
def sp_is_whole_from (K:Frag) (d:Ad):Sp:=fun vs H Q _=>∃i a b:Int,vs=[.int i,.int a,.int b]∧a≤i∧i≤b∧Q (.bl true) H
def sp_is_amount (K:Frag) (d:Ad):Sp:=fun vs H Q _=>∃i:Int,vs=[.int i]∧0≤i∧i≤10^30∧Q (.bl true) H
include T in
theorem ok_is_whole:FnOk P w K mg base CX0 1 d.f_is_whole d.fd_is_whole ["thing"] (sp_is_whole K d):=by
 refine T.F_is_whole.ok sc_is_whole (fun vs H Q E h=>?_) (fun cdv A outer s H vs Q E hr h=>?_)
 ·obtain⟨i,rfl,_⟩:=h;rfl
 obtain⟨i,rfl,q⟩:=h
 refine⟨_,(qa6 (qaj (pe_and (qae qc5 rfl T.z_isinstance PyProof.Rows.boot_isinstance (qa0 (pv 0) (qa0 (qdb (v:=.ty "int") rfl T.z_int PyProof.Rows.boot_int rfl) qa2))) (pe_one (pe_not (qae qc5 rfl T.z_isinstance PyProof.Rows.boot_isinstance (qa0 (pv 0) (qa0 (qdb (v:=.ty "bool") rfl T.z_bool PyProof.Rows.boot_bool rfl) qa2)))))))),?_⟩
 walk_at "d"
 refine qaf (σ:=[some (.int i)]) rfl ?_
 left
 exact q
include T in
theorem ok_is_whole_from:FnOk P w K mg base CX0 2 d.f_is_whole_from d.fd_is_whole_from ["thing","least","most"] (sp_is_whole_from K d):=by
 refine T.F_is_whole_from.ok sc_is_whole_from (fun vs H Q E h=>?_) (fun cdv A outer s H vs Q E hr h=>?_)
 ·obtain⟨i,a,b,rfl,_⟩:=h;rfl
 obtain⟨i,a,b,rfl,h1,h2,q⟩:=h
 refine⟨_,(qa6 (qaj (pe_and (qaa ((ok_is_whole T).mono (by decide)) hr rfl T.m_is_whole T.F_is_whole.kp T.b_is_whole .nil qag (qa0 (pv 0) qa2)) (pe_one (pe_chain op_le op_le (pv 1) (pv 0) (pv 2)))))),?_⟩
 walk_at "d"
 refine qaf (σ:=[some (.int i),some (.int a),some (.int b)]) rfl ?_
 left
 refine⟨i,rfl,?_⟩
 left
 rw [decide_eq_true h2]
 exact q
include T in
theorem ok_is_amount:FnOk P w K mg base CX0 3 d.f_is_amount d.fd_is_amount ["thing"] (sp_is_amount K d):=by
 refine T.F_is_amount.ok sc_is_amount (fun vs H Q E h=>?_) (fun cdv A outer s H vs Q E hr h=>?_)
 ·obtain⟨i,rfl,_⟩:=h;rfl
 obtain⟨i,rfl,h1,h2,q⟩:=h
 refine⟨_,(qa6 (qaj (qaa ((ok_is_whole_from T).mono (by decide)) hr rfl T.m_is_whole_from T.F_is_whole_from.kp T.b_is_whole_from .nil qag (qa0 (pv 0) (qa0 qa5 (qa0 (qah op_pow qa5 qa5) qa2)))))),?_⟩
 walk_at "d"
 refine qaf (σ:=[some (.int i)]) rfl ?_
 left
 refine⟨i,0,_,rfl,h1,?_,?_⟩
 ·exact h2
 left
 exact q
theorem qex {z:Str} {ws:List Str} (h:z∈ws):inV (.str z) (ws.map V.str)=true:=by
 unfold inV
 rw [List.any_eq_true]
 exact⟨.str z,zL.mpr ⟨z,h,rfl⟩,by simp [eqV]⟩
theorem r_notInT {K:Frag} {H:Hp} {Q:VK} {p:Addr} {z:Str} {ws:List Str} (hS:SqL K H p (ws.map V.str)) (h:z∈ws) (q:Q (.bl false) H):rIn K true (.str z) (.ref p) H Q:=by
 refine⟨p,_,rfl,.inl hS,rfl,?_,?_⟩
 ·rw [yE]
  intro x hx
  obtain⟨y,_,rfl⟩:=zL.mp hx
  rfl
 ·rw [qex h];exact q
def sp_amounts_of (K:Frag) (d:Ad):Sp:=fun vs H Q _=>∃(a w:Addr) (k:List (Key × V)) (f:Str→Option Int) (ws:List Str),vs=[.ref a,.ref w]∧H a=some (.dK k)∧AD k f∧k.length≤1000∧H w=some (.lst (ws.map V.str))∧(∀z n,f z=some n→z∈ws∧0≤n∧n≤10^30)∧
 ∀l k' H',qaq H H'→H l=none→H' l=some (.dK k')→AD k' (qct f)→Q (.ref l) H'
include T in
theorem ok_amounts_of:FnOk P w K mg base (My.CX1 P w) 4 d.f_amounts_of d.fd_amounts_of ["handed","wares"] (sp_amounts_of K d):=by
 refine okX T.F_amounts_of sc_amounts_of (fun vs H Q E h=>?_) (fun cdv A outer s H vs Q E hr h=>?_)
 ·obtain⟨a,w,k,f,ws,rfl,_⟩:=h;rfl
 obtain⟨a,w,kvs,f,ws,rfl,ha,hA,hz,hw,hf,q⟩:=h
 refine⟨_,(qa3 (qbc (qd9 (qci (qae qc5 rfl T.z_isinstance PyProof.Rows.boot_isinstance (qa0 (pv 0) (qa0 (qdb (v:=.ty "dict") rfl T.z_dict PyProof.Rows.boot_dict rfl) qa2))))) (qa6 (qbz rfl T.X_NoAmount rfl T.m_NoAmount qaz (qa0 qck qa2))) qan)
  (qa3 (ps_thA (qb2 (qeq rfl rfl) rfl (qe4 (pv 0)) (qam (i:=2) sc_amounts_of.nd rfl (Or.inl rfl)) (qa6 (qbc (PW.pt (pw_or (qd9 (qci (qae qc5 rfl T.z_isinstance PyProof.Rows.boot_isinstance (qa0 (pv 2) (qa0 (qdb (v:=.ty "str") rfl T.z_str PyProof.Rows.boot_str rfl) qa2))))) (pw_or1 (qak qcl (pv 2) (pv 1) (by rfl))))) (qa6 (qbz rfl T.X_NoWare rfl T.m_NoWare qaz (qa0 qck qa2))) qan))))
  (qa3 (ps_thA (qb2 (qeq rfl rfl) rfl (qe4 (pv 0)) (qam (i:=3) sc_amounts_of.nd rfl (Or.inl rfl)) (qa6 (qbc (qd9 (qci (qaa ((ok_is_amount T).mono (by decide)) hr rfl T.m_is_amount T.F_is_amount.kp T.b_is_amount .nil qag (qa0 (qc7 (qd4 hr) (pv 0) (pv 3) (fun _ _=>rfl)) qa2)))) (qa6 (qbz rfl T.X_NoAmount rfl T.m_NoAmount qaz (qa0 qck qa2))) qan))))
  (qa6 (qaj (qaa ((ok_above_nought T).mono (by decide)) hr rfl T.m_above_nought T.F_above_nought.kp T.b_above_nought .nil qag (qa0 (pv 0) qa2))))))),?_⟩
 walk_at "d"
 refine qaf (σ:=[some (.ref a),some (.ref w),none,none]) rfl ?_
 left
 refine r_itD ha fun o=>?_
 have hwa:w≠a:=ne_of hw ha (by intro z;cases z)
 refine f_dict (fun i σ H'=>H'=upd H a (.frz o (.dK kvs))∧∃w2 w3,σ=[some (.ref a),some (.ref w),w2,w3]) ⟨rfl,_,_,rfl⟩ ?_ ?_ ?_
 ·rintro i σ H' _ ⟨rfl,_⟩;exact qa1
 ·rintro i k v σ H' hk ⟨rfl,w2,w3,rfl⟩
  obtain⟨z,n,rfl,rfl,hfz,hzi⟩:=hA.at hk
  have hw':upd H a (.frz o (.dK kvs)) w=some (.lst (ws.map V.str)):=by rw [qa9 hwa];exact hw
  show gName _ (.str z) _ _ _
  left
  refine r_notInT (SqL.of hw') (hf z n hfz).1 ?_
  left
  exact⟨rfl,_,_,rfl⟩
 ·rintro σ H' ⟨rfl,w2,w3,rfl⟩
  refine r_thNx (thaw1 qa1 (qdy ha)) ?_
  have s2:=qcq ha (sb_frz (o:=o) ha)
  have ha2:upd (upd H a (.frz o (.dK kvs))) a (.dK kvs) a=some (.dK kvs):=qa1
  generalize upd (upd H a (.frz o (.dK kvs))) a (.dK kvs)=H2 at*
  left
  refine r_itD ha2 fun o2=>?_
  refine f_dict (fun i σ H'=>H'=upd H2 a (.frz o2 (.dK kvs))∧∃w3,σ=[some (.ref a),some (.ref w),w2,w3]) ⟨rfl,_,rfl⟩ ?_ ?_ ?_
  ·rintro i σ H' _ ⟨rfl,_⟩;exact qa1
  ·rintro i k v σ H' hk ⟨rfl,w3,rfl⟩
   obtain⟨z,n,rfl,rfl,hfz,hzi⟩:=hA.at hk
   have hRd:Rd (upd H2 a (.frz o2 (.dK kvs))) a (.dK kvs):=.inr ⟨o2,qa1⟩
   show gName _ (.str z) _ _ _
   left
   refine⟨n,rfl,(hf z n hfz).2.1,(hf z n hfz).2.2,?_⟩
   left
   exact⟨rfl,_,rfl⟩
  ·rintro σ H' ⟨rfl,w3,rfl⟩
   refine r_thNx (thaw1 qa1 ?_) ?_
   ·exact qdy ha
   have s3:=qcq ha2 (sb_frz (o:=o2) ha2)
   have ha3:upd (upd H2 a (.frz o2 (.dK kvs))) a (.dK kvs) a=some (.dK kvs):=qa1
   generalize upd (upd H2 a (.frz o2 (.dK kvs))) a (.dK kvs)=H3 at*
   left
   refine⟨a,kvs,f,rfl,ha3,hA,hz,fun l k' H4 s4 hl el hA4=>?_⟩
   left
   exact q l k' H4 ((s2.trans s3).trans s4) ((s2.trans s3).free hl) el hA4
def sp_House_init (K:Frag) (d:Ad):Sp:=fun vs H Q _=>∃(x dx:Addr) (o:Ho),vs=[.ref x,eV o.el,.ref o.pa,.ref o.ca,.int o.w]∧H x=some (.ins d.c_House dx [])∧∀H',H' x=some (.ins d.c_House dx (fsH o))→SameBut x H H'→Q .non H'
include T in
theorem ok_House_init:FnOk P w K mg base CX0 1 d.f_House_init d.fd_House_init ["self","elder","promise","cap","weight"] (sp_House_init K d):=by
 refine T.F_House_init.ok sc_House_init (fun vs H Q E h=>?_) (fun cdv A outer s H vs Q E hr h=>?_)
 ·obtain⟨x,dx,o,rfl,_⟩:=h;rfl
 obtain⟨x,dx,o,rfl,hx,q⟩:=h
 refine⟨_,(qa3 (qda (pv 0) (pv 1) rfl)
  (qa3 (qda (pv 0) (pv 2) rfl)
  (qa3 (qda (pv 0) (pv 3) rfl)
  (qa6 (qda (pv 0) (pv 4) rfl))))),?_⟩
 walk_at "d"
 refine qaf (σ:=[some (.ref x),some (eV o.el),some (.ref o.pa),some (.ref o.ca),some (.int o.w)]) rfl ?_
 have cl:=T.CL_House
 have n1:qaw K d.c_House "elder":=T.NA_House_elder
 have n2:qaw K d.c_House "promise":=T.NA_House_promise
 have n3:qaw K d.c_House "cap":=T.NA_House_cap
 have n4:qaw K d.c_House "weight":=T.NA_House_weight
 left
 refine qfy qa1 cl n2 (by show 1 < 1000;decide) ?_
 left
 refine qfy qa1 cl n3 (by show 2 < 1000;decide) ?_
 left
 refine qfy qa1 cl n4 (by show 3 < 1000;decide) ?_
 left
 refine q _ (by rw [qa1];rfl) fun b u hb e=>?_
 rw [qa9 hb,qa9 hb,qa9 hb,qa9 hb]
 exact e
def sp_read_house (K:Frag) (d:Ad):Sp:=fun vs H Q _=>∃(w a b:Addr) (el:Option Str) (ws:List Str) (ka kb:List (Key × V)) (f g:Str→Option Int) (wt:Int),vs=[.ref w,eV el,.ref a,.ref b,.int wt]∧H w=some (.lst (ws.map V.str))∧
 H a=some (.dK ka)∧AD ka f∧ka.length≤1000∧H b=some (.dK kb)∧AD kb g∧kb.length≤1000∧(∀z n,f z=some n→z∈ws∧0≤n∧n≤10^30)∧(∀z n,g z=some n→z∈ws∧0≤n∧n≤10^30)∧1≤wt∧wt≤1000∧
 ∀h o H',qaq H H'→H h=none→H o.pa=none→H o.ca=none→HoAt d H' h o→o.el=el→o.w=wt→(∀z,o.fp z=qct f z)→(∀z,o.fc z=qct g z)→Q (.ref h) H'
include T in
theorem ok_read_house:FnOk P w K mg base (My.CX1 P w) 5 d.f_read_house d.fd_read_house ["wares","elder","promise","cap","weight"] (sp_read_house K d):=by
 refine okX T.F_read_house sc_read_house (fun vs H Q E h=>?_) (fun cdv A outer s H vs Q E hr h=>?_)
 ·obtain⟨w,a,b,el,ws,ka,kb,f,g,wt,rfl,_⟩:=h;rfl
 obtain⟨w,a,b,el,ws,ka,kb,f,g,wt,rfl,hw,ha,hA,hz,hb,hB,hz2,hf,hg,w0,w1,q⟩:=h
 refine⟨_,(qa3 (qad (i:=5) sc_read_house.nd rfl (Or.inl rfl) (qcb ((ok_amounts_of T).mono (by decide)) hr rfl T.m_amounts_of T.F_amounts_of.kp T.b_amounts_of .nil qaz (qa0 (pv 2) (qa0 (pv 0) qa2))))
  (qa3 (qad (i:=6) sc_read_house.nd rfl (Or.inl rfl) (qcb ((ok_amounts_of T).mono (by decide)) hr rfl T.m_amounts_of T.F_amounts_of.kp T.b_amounts_of .nil qaz (qa0 (pv 3) (qa0 (pv 0) qa2))))
  (qa3 (qbc (qd9 (qci (qaa ((ok_is_whole_from T).mono (by decide)) hr rfl T.m_is_whole_from T.F_is_whole_from.kp T.b_is_whole_from .nil qag (qa0 (pv 4) (qa0 qa5 (qa0 (qe5 rfl T.m_GREATEST_WEIGHT T.r_GREATEST_WEIGHT) qa2)))))) (qa6 (qbz rfl T.X_NoNumber rfl T.m_NoNumber qaz (qa0 qck qa2))) qan)
  (qa6 (qaj (pe_make T.MK_House ((ok_House_init T).mono (by decide)) hr rfl T.m_House T.b_House_init .nil qag (qa0 (pv 1) (qa0 (pv 5) (qa0 (pv 6) (qa0 (pv 4) qa2)))))))))),?_⟩
 walk_at "d"
 refine qaf (σ:=[some (.ref w),some (eV el),some (.ref a),some (.ref b),some (.int wt),none,none]) rfl ?_
 left
 refine⟨a,w,ka,f,ws,rfl,ha,hA,hz,hw,hf,fun lp kp H1 s1 hlp ep hAp=>?_⟩
 left
 refine⟨b,w,kb,g,ws,rfl,s1 _ _ hb,hB,hz2,s1 _ _ hw,hg,fun lc kc H2 s2 hlc ec hAc=>?_⟩
 left
 refine⟨wt,1,1000,rfl,w0,w1,?_⟩
 left
 intro x dx hx hdx ne
 have ep2:=s2 _ _ ep
 refine⟨x,dx,⟨el,lp,kp,qct f,lc,kc,qct g,wt⟩,rfl,qa1,fun H3 ex sb=>⟨rfl,?_⟩⟩
 have s3:qaq H2 H3:=fun c o hc=>sb c o (qa7 hc hx) (by rw [qa9 (qa7 hc hx),qa9 (qa7 hc hdx)];exact hc)
 left
 exact q x ⟨el,lp,kp,qct f,lc,kc,qct g,wt⟩ H3 ((s1.trans s2).trans s3) ((s1.trans s2).free hx) hlp (s1.free hlc) ⟨⟨dx,ex⟩,s3 _ _ ep2,hAp,s3 _ _ ec,hAc⟩ rfl rfl (fun _=>rfl) fun _=>rfl
theorem qav {H H':Hp} {a:Addr} {o:HO} (s:qaq H H') (n:H a=none):qaq H (upd H' a o):=fun b u e=>by rw [qa9 (qa7 e n)];exact s b u e
def isL (c:Nat):Bool:=decide (97≤c) && decide (c≤122)
theorem inL:∀c:Nat,c < 128→(!(Builtin.Str.occurrences (Str.ofString "abcdefghijklmnopqrstuvwxyz") ⟨#[c]⟩ 0 (Str.ofString "abcdefghijklmnopqrstuvwxyz").length 1).isEmpty)=isL c:=by decide+kernel
def qe8 (x:Str):List Nat:=x.cps.toList
def qdu (x:Str):Bool:=decide (1≤x.length) && decide (x.length≤8) && (qe8 x).all isL
theorem len_codes (x:Str):(qe8 x).length=x.length:=by simp [qe8,Str.length]
theorem qg6 {z:Str} (h:qdu z=true):1≤z.length∧z.length≤8∧∀c∈qe8 z,isL c=true:=by
 unfold qdu at h
 rw [Bool.and_eq_true,Bool.and_eq_true,yE] at h
 exact⟨of_decide_eq_true h.1.1,of_decide_eq_true h.1.2,h.2⟩
theorem isL_lt {c:Nat} (h:isL c=true):c < 128:=by
 unfold isL at h
 rw [Bool.and_eq_true] at h
 have:=of_decide_eq_true h.2
 omega
def sp_is_name (K:Frag) (d:Ad):Sp:=fun vs H Q _=>∃z,vs=[.str z]∧qdu z=true∧∀H',qaq H H'→Q (.bl true) H'
include T in
theorem ok_is_name:FnOk P w K mg base CX0 1 d.f_is_name d.fd_is_name ["thing"] (sp_is_name K d):=by
 refine T.F_is_name.ok sc_is_name (fun vs H Q E h=>?_) (fun cdv A outer s H vs Q E hr h=>?_)
 ·obtain⟨z,rfl,_⟩:=h;rfl
 obtain⟨z,rfl,hg,q⟩:=h
 obtain⟨h1,h8,hL⟩:=qg6 hg
 have lz:=len_codes z
 refine⟨_,(qa3 (qbc (qd9 (qci (qae qc5 rfl T.z_isinstance PyProof.Rows.boot_isinstance (qa0 (pv 0) (qa0 (qdb (v:=.ty "str") rfl T.z_str PyProof.Rows.boot_str rfl) qa2))))) (qa6 (qaj pe_bl)) qan)
  (qa3 (qbc (PW.pt (pw_or (qak op_lt (qae call_lenS rfl T.z_len PySem.boot_len (qa0 (pv 0) qa2)) qa5 (qap _)) (pw_or1 (qak qf9 (qae call_lenS rfl T.z_len PySem.boot_len (qa0 (pv 0) qa2)) (qe5 rfl T.m_LONGEST_NAME T.r_LONGEST_NAME) (qap _))))) (qa6 (qaj pe_bl)) qan)
  (qa6 (qaj (qae (call_allB rfl) rfl T.z_all PyProof.Rows.boot_all (qa0 (qbp (caps:=[]) (cn:=[]) (qb1 rfl rfl (by rfl) (by rfl) rfl trivial (by rfl) rfl trivial (by decide)) rfl (pi_str (pv 0)) (fun _ _ _ _=>qcj) (fun _ _ _ _=>(qd1 op_inS (pv 0) (qe5 rfl T.m_LETTERS T.r_LETTERS) (by rfl)))) qa2)))))),?_⟩
 walk_at "d"
 try dsimp only [cxC]
 refine qaf (σ:=[some (.str z)]) rfl ?_
 left
 intro C s0 H0 fp acc hacc
 refine qf7 z.length (fun i H'=>H'=upd H acc (.lst (((qe8 z).take i).map fun c=>V.bl (isL c)))) (by simp) (fun i H' hi _=>hi) (fun H' _=>rfl) ?_ ?_
 ·rintro i H' v H'' hi rfl ⟨rfl,c,hc,rfl⟩
  have hc':(qe8 z)[i]?=some c:=by unfold qe8;rw [Array.getElem?_toList];exact hc
  have c128:=isL_lt (hL c (zD hc'))
  left
  rw [inL c c128,qbb]
  congr 2
  rw [zQ,hc',zE]
  rfl
 ·rintro H' rfl
  left
  have e1:((qe8 z).take z.length).map (fun c=>V.bl (isL c))=((qe8 z).map isL).map V.bl:=by
   rw [←lz,zV,yO];rfl
  rw [e1]
  refine r_all (bs:=(qe8 z).map isL) (SqL.of qa1) ?_
  have e2:((qe8 z).map isL).all id=true:=by
   rw [List.all_map,yE]
   exact hL
  rw [e2]
  left
  exact q _ (qa8 hacc _)
def sp_check_name (K:Frag) (d:Ad):Sp:=fun vs H Q _=>∃z,vs=[.str z]∧qdu z=true∧∀H',qaq H H'→Q .non H'
include T in
theorem ok_check_name:FnOk P w K mg base (My.CX1 P w) 2 d.f_check_name d.fd_check_name ["thing"] (sp_check_name K d):=by
 refine okX T.F_check_name sc_check_name (fun vs H Q E h=>?_) (fun cdv A outer s H vs Q E hr h=>?_)
 ·obtain⟨z,rfl,_⟩:=h;rfl
 obtain⟨z,rfl,hg,q⟩:=h
 refine⟨_,(qa6 (qbc (qd9 (qci (qaa ((ok_is_name T).mono (by decide)) hr rfl T.m_is_name T.F_is_name.kp T.b_is_name .nil qag (qa0 (pv 0) qa2)))) (qa6 (qbz rfl T.X_NoName rfl T.m_NoName qaz (qa0 qck qa2))) qan)),?_⟩
 walk_at "d"
 refine qaf (σ:=[some (.str z)]) rfl ?_
 left
 refine⟨z,rfl,hg,fun H' sm=>?_⟩
 left
 exact q _ sm
structure GoodT (ws:List Str):Prop where
 lo:1≤ws.length
 hi:ws.length≤6
 ok:∀z∈ws,qdu z=true
 nd:ws.Nodup
def sp_are_wares (K:Frag) (d:Ad):Sp:=fun vs H Q _=>∃(a:Addr) (ws:List Str),vs=[.ref a]∧H a=some (.lst (ws.map V.str))∧GoodT ws∧∀H',qaq H H'→Q (.bl true) H'
include T in
theorem ok_are_wares:FnOk P w K mg base CX0 2 d.f_are_wares d.fd_are_wares ["thing"] (sp_are_wares K d):=by
 refine T.F_are_wares.ok sc_are_wares (fun vs H Q E h=>?_) (fun cdv A outer s H vs Q E hr h=>?_)
 ·obtain⟨a,ws,rfl,_⟩:=h;rfl
 obtain⟨a,ws,rfl,ha,g,q⟩:=h
 have g1:=g.lo
 have g2:=g.hi
 have hl:(ws.map V.str).length=ws.length:=zB _
 refine⟨_,(qa3 (qbc (PW.pt (pw_or (qd9 (qci (qae qc5 rfl T.z_isinstance PyProof.Rows.boot_isinstance (qa0 (pv 0) (qa0 (qdb (v:=.ty "list") rfl T.z_list PyProof.Rows.boot_list rfl) qa2))))) (pw_or (qak op_lt (qae qau rfl T.z_len PySem.boot_len (qa0 (pv 0) qa2)) qa5 (qap _)) (pw_or1 (qak qf9 (qae qau rfl T.z_len PySem.boot_len (qa0 (pv 0) qa2)) (qe5 rfl T.m_MOST_WARES T.r_MOST_WARES) (qap _)))))) (qa6 (qaj pe_bl)) qan)
  (qa6 (qaj (pe_and (qae (call_allB rfl) rfl T.z_all PyProof.Rows.boot_all (qa0 (qbp (caps:=[]) (cn:=[]) (qb1 rfl rfl (by rfl) (by rfl) rfl trivial (by rfl) rfl trivial (by decide)) rfl (qax (pv 0)) (fun _ _ _ _=>qcj) (fun _ _ _ _=>(qaa ((ok_is_name T).mono (by decide)) hr rfl T.m_is_name T.F_is_name.kp T.b_is_name .nil qag (qa0 (pv 0) qa2)))) qa2)) (pe_one (qd1 qd3 (qae call_lenT rfl T.z_len PySem.boot_len (qa0 (qc2 call_setT rfl T.z_set PyProof.Rows.boot_set (qa0 (pv 0) qa2)) qa2)) (qae qau rfl T.z_len PySem.boot_len (qa0 (pv 0) qa2)) (qap _))))))),?_⟩
 walk_at "d"
 try dsimp only [cxC]
 refine qaf (σ:=[some (.ref a)]) rfl ?_
 left
 intro C s0 H0 fp acc hacc
 refine qf7 ws.length (fun i H'=>qaq H H'∧H' acc=some (.lst ((List.replicate i true).map V.bl))) ⟨qa8 hacc _,qa1⟩ ?_ ?_ ?_ ?_
 ·rintro i H' hi ⟨sm,_⟩
  exact⟨_,.str ws[i],SqL.of (sm _ _ ha),by rw [zC,zA hi];rfl⟩
 ·rintro H' ⟨sm,_⟩
  exact⟨_,SqL.of (sm _ _ ha),by rw [hl];exact Nat.le_refl _⟩
 ·rintro i H' v H'' hi ⟨sm,ea⟩ ⟨rfl,hy⟩
  have hv:=hy _ (SqL.of (sm _ _ ha))
  rw [zC,zA hi] at hv
  cases hv
  left
  refine⟨ws[i],rfl,g.ok _ (zJ hi),fun H2 s2=>?_⟩
  refine⟨_,s2 _ _ ea,by rw [zB,List.length_replicate];show _ < 16777216;omega,qav (sm.trans s2) hacc,?_⟩
  rw [qa1,List.replicate_succ',zE];rfl
 rintro H' ⟨sm,ea⟩
 left
 refine r_all (bs:=List.replicate ws.length true) (SqL.of ea) ?_
 have e2:(List.replicate ws.length true).all id=true:=by simp
 rw [e2]
 left
 refine r_setT (zs:=ws) (SqL.of (sm _ _ ha)) g.nd (by omega) fun c hc=>?_
 left
 refine r_lenT2 qa1 ?_
 left
 refine r_lenL (SqL.of (qa4 (sm _ _ ha) hc)) ?_
 left
 rw [hl,decide_eq_true rfl]
 exact q _ (sm.trans (qa8 hc _))
def Fin (ws:List Str) (f:Str→Option Int):Prop:=∀z n,f z=some n→z∈ws∧0≤n∧n≤10^30
theorem posF_some {f:Str→Option Int} {y:Str} {n:Int} (h:qct f y=some n):f y=some n∧0 < n:=by
 unfold qct at h
 cases e:f y with
 |none=>rw [e] at h;cases h
 |some m=>
  rw [e] at h
  by_cases c:0 < m
  ·have h':some m=some n:=by simpa [c] using h
   cases h'
   exact⟨rfl,c⟩
  ·exact absurd h (by simp [c])
theorem qey {ws:List Str} {f:Str→Option Int} (hf:Fin ws f) (y:Str):gN (qct f) y=gN f y:=by
 unfold gN qct
 cases e:f y with
 |none=>rfl
 |some m=>
  have:=(hf y m e).2.1
  by_cases c:0 < m
  ·simp [c]
  ·have z:m=0:=by omega
   subst z
   rfl
theorem pos_le {ws:List Str} {f g:Str→Option Int} (hg:Fin ws g) (h:∀y,gN f y≤gN g y):∀z n,qct f z=some n→n≤gN (qct g) z:=fun z n e=>by
 have e1:=(posF_some e).1
 have:=h z
 rw [qey hg]
 unfold gN at this ⊢
 rw [e1] at this
 exact this
theorem pos_in {ws:List Str} {f:Str→Option Int} (hf:Fin ws f):∀z,qct f z≠none→z∈ws:=fun z h=>by
 cases e:qct f z with
 |none=>exact absurd e h
 |some n=>exact(hf z n (posF_some e).1).1
def sp_Tree_init (K:Frag) (d:Ad):Sp:=fun vs H Q _=>∃(x dx w a b:Addr) (z:Str) (ws:List Str) (ka kb:List (Key × V)) (f g:Str→Option Int) (wt:Int),vs=[.ref x,.ref w,.str z,.ref a,.ref b,.int wt]∧H x=some (.ins d.c_Tree dx [])∧
 H w=some (.lst (ws.map V.str))∧GoodT ws∧qdu z=true∧H a=some (.dK ka)∧AD ka f∧ka.length≤1000∧H b=some (.dK kb)∧AD kb g∧kb.length≤1000∧Fin ws f∧Fin ws g∧1≤wt∧wt≤1000∧(∀y,gN f y≤gN g y)∧
 ∀(S:Ts) (e:He) H',SameBut x H H'→qf5 d H' x S→H S.hs=none→H S.sw=none→H e.a=none→H e.x.pa=none→H e.x.ca=none→S.hl=[e]→e.n=z→e.x.el=none→e.x.w=wt→(∀y,e.x.fp y=qct f y)→(∀y,e.x.fc y=qct g y)→S.ws.Perm ws→PyProof.Rows.sortedS S.ws=true→Q .non H'
include T in
theorem ok_Tree_init:FnOk P w K mg base (My.CX1 P w) 6 d.f_Tree_init d.fd_Tree_init ["self","wares","name","promise","cap","weight"] (sp_Tree_init K d):=by
 refine okDX T.F_Tree_init sc_Tree_init (fun vs H Q E h=>?_) (fun cdv A outer s H vs Q E hr h=>?_)
 ·obtain⟨x,dx,w,a,b,z,ws,ka,kb,f,g,wt,rfl,_⟩:=h;rfl
 obtain⟨x,dx,w,a,b,z,ws,ka,kb,f,g,wt,rfl,hx,hw,gt,gz,ha,hA,za,hb,hB,zb,ff,fg,w0,w1,le,q⟩:=h
 have g2:=gt.hi
 refine⟨_,(qa3 (qbc (qd9 (qci (qaa ((ok_are_wares T).mono (by decide)) hr rfl T.m_are_wares T.F_are_wares.kp T.b_are_wares .nil qag (qa0 (pv 1) qa2)))) (qa6 (qbz rfl T.X_NoWare rfl T.m_NoWare qaz (qa0 qck qa2))) qan)
  (qa3 (qay (qcb ((ok_check_name T).mono (by decide)) hr rfl T.m_check_name T.F_check_name.kp T.b_check_name .nil qaz (qa0 (pv 2) qa2)))
  (qa3 (qad (i:=6) sc_Tree_init.nd rfl (Or.inl rfl) (qcb ((ok_read_house T).mono (by decide)) hr rfl T.m_read_house T.F_read_house.kp T.b_read_house .nil qaz (qa0 (pv 1) (qa0 qdo (qa0 (pv 3) (qa0 (pv 4) (qa0 (pv 5) qa2)))))))
  (qa3 (qay (qcb ((ok_check_promises T).mono (by decide)) hr rfl T.m_check_promises T.F_check_promises.kp T.b_check_promises .nil qaz (qa0 (pv 2) (qa0 (qbh (pv 6) rfl) (qa0 (qbh (pv 6) rfl) qa2)))))
  (qa3 (qda (pv 0) (qae qe9 rfl T.z_sorted PyProof.Rows.boot_sorted (qa0 (pv 1) qa2)) rfl)
  (qa6 (qda (pv 0) (pe_disp (pps_cons (pv 2) (pv 6) pps_nil) rfl rfl (by simp) (by decide)) rfl))))))),?_⟩
 walk_at "d"
 refine qaf (σ:=[some (.ref x),some (.ref w),some (.str z),some (.ref a),some (.ref b),some (.int wt),none]) rfl ?_
 have ct:=T.CL_Tree
 have ch:=T.CL_House
 have n1:qaw K d.c_Tree "sorted_wares":=T.NA_Tree_sorted_wares
 have n2:qaw K d.c_Tree "houses":=T.NA_Tree_houses
 have n3:qaw K d.c_House "promise":=T.NA_House_promise
 have n4:qaw K d.c_House "cap":=T.NA_House_cap
 left
 refine⟨w,ws,rfl,hw,gt,fun H1 s1=>?_⟩
 left
 refine⟨z,rfl,gz,fun H2 s2=>?_⟩
 have t2:=s1.trans s2
 left
 refine⟨w,a,b,none,ws,ka,kb,f,g,wt,rfl,t2 _ _ hw,t2 _ _ ha,hA,za,t2 _ _ hb,hB,zb,ff,fg,w0,w1,fun h o H3 s3 nh np nc hO eel ew efp efc=>?_⟩
 obtain⟨⟨dh,ho⟩,hp,hpA,hc,hcA⟩:=id hO
 have efp':o.fp=qct f:=funext efp
 have efc':o.fc=qct g:=funext efc
 have lk:o.kp.length≤ws.length:=hpA.le (by rw [efp'];exact pos_in ff)
 left
 refine⟨.str z,o.pa,o.ca,o.kp,o.kc,o.fp,o.fc,rfl,.inl hp,.inl hc,hpA,hcA,by omega,by rw [efp',efc'];exact pos_le fg le,fun H4 s4=>?_⟩
 have t4:=(t2.trans s3).trans s4
 have hx4:=t4 _ _ hx
 have hO4:=hO.same s4
 left
 refine r_sortL (SqL.of (t4 _ _ hw)) (by omega) fun l ss hl hpm hs=>?_
 left
 rename_i p hpp
 rw [qbb]
 refine qfy (qa4 qa1 hpp) ct n2 (by show 1 < 1000;decide) ?_
 left
 have npx:p≠x:=fun e=>by subst e;rw [qa1] at hpp;cases hpp
 have np4':upd H4 l (.lst (ss.map V.str)) p=none:=by rw [qa9 npx] at hpp;exact hpp
 have nlx:x≠l:=qa7 hx4 hl
 have npl:p≠l:=fun e=>by subst e;rw [qa1] at np4';cases np4'
 have np4:H4 p=none:=by rw [qa9 npl] at np4';exact np4'
 have sF:∀b u,b≠x→H4 b=some u→upd (upd (upd (upd H4 l (.lst (ss.map V.str))) x (.ins d.c_Tree dx (qel "sorted_wares" (V.ref l) []))) p (.dK [(Sum.inr z,V.ref h)])) x (.ins d.c_Tree dx (qel "houses" (V.ref p) (qel "sorted_wares" (V.ref l) []))) b=some u:=fun b u hb e=>by
  rw [qa9 hb,qa9 (qa7 e np4),qa9 hb,qa9 (qa7 e hl)];exact e
 obtain⟨⟨dh4,ho4⟩,hp4,hpA4,hc4,hcA4⟩:=hO4
 refine q ⟨l,ss,p, [⟨z,h,o⟩]⟩ ⟨z,h,o⟩ _ (fun b u hb e=>sF b u hb (t4 _ _ e)) ⟨⟨dx,by rw [qa1];rfl⟩,?_,?_,zX.mpr ⟨by simp,yH⟩,by show 1≤60;decide,fun e he=>?_⟩ (t4.free np4) (t4.free hl) (t2.free nh) (t2.free np) (t2.free nc) rfl rfl eel ew efp efc hpm hs
 ·show upd _ _ _ l=_
  rw [qa9 nlx.symm,qa9 npl.symm,qa9 nlx.symm,qa1]
 ·show upd _ _ _ p=_
  rw [qa9 npx,qa1]
  rfl
 ·have e':e=⟨z,h,o⟩:=by simpa using he
  subst e'
  have n1:∀{b:Addr} {u:HO},H4 b=some u→u≠ .ins d.c_Tree dx []→b≠x:=fun e1 e2 e3=>by
   subst e3;rw [hx4] at e1;exact e2 (Option.some.inj e1).symm
  refine⟨⟨dh4,sF _ _ (n1 ho4 fun e=>?_) ho4⟩,sF _ _ (n1 hp4 fun e=>by cases e) hp4,hpA4,sF _ _ (n1 hc4 fun e=>by cases e) hc4,hcA4⟩
  have:=congrArg (fun u:HO=>match u with| .ins _ _ fs=>fs.length|_=>0) e
  simp [fsH] at this
def upL (el:Nat→Nat):Nat→Nat→List Nat
 |0,k=> [k]
 |f+1,k=>k ::(if k=0 then [] else upL el f (el k))
def qac (el:Nat→Nat) (k:Nat):List Nat:=upL el k k
def Low (el:Nat→Nat) (n:Nat):Prop:=∀k,0 < k→k < n→el k < k
theorem upL_eq {el:Nat→Nat} {n:Nat} (lo:Low el n):∀(f k:Nat),k < n→k≤f→upL el f k=qac el k:=by
 intro f
 induction f using Nat.strongRecOn with
 |ind f ih=>
  intro k kn kf
  cases f with
  |zero=>have:k=0:=(by omega);subst this;rfl
  |succ f=>
   cases k with
   |zero=>rfl
   |succ k=>
    have l:=lo (k+1) (by omega) kn
    show (k+1) ::(if k+1=0 then [] else upL el f (el (k+1)))=(k+1) ::(if k+1=0 then [] else upL el k (el (k+1)))
    rw [if_neg (by omega),if_neg (by omega),ih f (by omega) (el (k+1)) (by omega) (by omega)]
    rcases Nat.lt_or_ge k f with h|h
    ·rw [ih k (by omega) (el (k+1)) (by omega) (by omega)]
    ·have:f=k:=by omega
     subst this
     rw [ih f (by omega) (el (f+1)) (by omega) (by omega)]
theorem qcu (el:Nat→Nat):qac el 0=[0]:=rfl
theorem qcc {el:Nat→Nat} {n k:Nat} (lo:Low el n) (k0:0 < k) (kn:k < n):qac el k=k :: qac el (el k):=by
 cases k with
 |zero=>omega
 |succ k=>
  have l:=lo (k+1) k0 kn
  show (k+1) ::(if k+1=0 then [] else upL el k (el (k+1)))=_
  rw [if_neg (by omega),upL_eq lo k _ (by omega) (by omega)]
theorem qcf {el:Nat→Nat} {n:Nat} (lo:Low el n):∀k,k < n→(qac el k).length≤k+1:=by
 intro k
 induction k using Nat.strongRecOn with
 |ind k ih=>
  intro kn
  cases k with
  |zero=>exact Nat.le_refl _
  |succ k=>
   have l:=lo (k+1) (by omega) kn
   rw [qcc lo (by omega) kn,zM]
   have:=ih (el (k+1)) l (by omega)
   omega
theorem qcv {el:Nat→Nat} {n k:Nat} (lo:Low el n) (kn:k < n):k∈qac el k:=by
 cases k with
 |zero=>exact zI ..
 |succ k=>rw [qcc lo (by omega) kn];exact zI ..
theorem qcn {el:Nat→Nat} {n:Nat} (lo:Low el n):∀k,k < n→∀j∈qac el k,j≤k:=by
 intro k
 induction k using Nat.strongRecOn with
 |ind k ih=>
  intro kn j hj
  cases k with
  |zero=>rw [qcu] at hj;simp at hj;omega
  |succ k=>
   have l:=lo (k+1) (by omega) kn
   rw [qcc lo (by omega) kn] at hj
   rcases zR.mp hj with h|h
   ·omega
   ·have:=ih (el (k+1)) l (by omega) j h
    omega
theorem lineN_in {el:Nat→Nat} {n:Nat} (lo:Low el n) {j:Nat} (j0:0 < j):∀k,k < n→j∈qac el k→el j∈qac el k:=by
 intro k
 induction k using Nat.strongRecOn with
 |ind k ih=>
  intro kn hj
  cases k with
  |zero=>rw [qcu] at hj;simp at hj;omega
  |succ k=>
   have l:=lo (k+1) (by omega) kn
   rw [qcc lo (by omega) kn] at hj ⊢
   rcases zR.mp hj with h|h
   ·subst h;exact zF _ (qcv lo (by omega))
   ·exact zF _ (ih (el (k+1)) l (by omega) h)
structure Pl (S:Ts) (nm:Nat→Str) (el:Nat→Nat) (n:Nat):Prop where
 len:S.hl.length=n
 nam:∀k e,S.hl[k]?=some e→e.n=nm k∧e.x.el=if k=0 then none else some (nm (el k))
 inj:∀i j,i < n→j < n→nm i=nm j→i=j
 low:Low el n
section
variable {S : Ts} {nm : Nat → Str} {el : Nat → Nat} {n : Nat}
theorem Pl.get (p:Pl S nm el n) {k:Nat} (kn:k < n):∃e,S.hl[k]?=some e∧e.n=nm k∧e.x.el=if k=0 then none else some (nm (el k)):=by
 have h:k < S.hl.length:=by rw [p.len];exact kn
 have e:=zA h
 exact⟨_,e,p.nam k _ e⟩
theorem Pl.ix (p:Pl S nm el n) {e:He} (h:e∈S.hl):∃k,k < n∧S.hl[k]?=some e∧e.n=nm k∧e.x.el=if k=0 then none else some (nm (el k)):=by
 obtain⟨k,hk,q⟩:=zK.mp h
 have e1:S.hl[k]?=some e:=by rw [zA hk,q]
 exact⟨k,by rw [←p.len];exact hk,e1,p.nam k e e1⟩
theorem Pl.nodup (p:Pl S nm el n):(S.hl.map (·.n)).Nodup:=by
 show List.Pairwise _ _
 rw [List.pairwise_map,zZ]
 intro i j hi hj lt q
 have h1:=(p.nam i _ (zA hi)).1
 have h2:=(p.nam j _ (zA hj)).1
 have:=p.inj i j (by rw [←p.len];exact hi) (by rw [←p.len];exact hj) (by rw [←h1,←h2];exact q)
 omega
theorem Pl.at (p:Pl S nm el n) {k:Nat} (kn:k < n):∃e,S.at (nm k)=some e∧S.hl[k]?=some e∧e.x.el=if k=0 then none else some (nm (el k)):=by
 obtain⟨e,h1,h2,h3⟩:=p.get kn
 have:=at_of p.nodup (zD h1)
 rw [h2] at this
 exact⟨e,this,h1,h3⟩
theorem Pl.line (p:Pl S nm el n):∀k,k < n→LineOf S (nm k) ((qac el k).map nm):=by
 intro k
 induction k using Nat.strongRecOn with
 |ind k ih=>
  intro kn
  obtain⟨e,h1,_,h3⟩:=p.at kn
  cases k with
  |zero=>exact .top h1 h3
  |succ k=>
   have l:=p.low (k+1) (by omega) kn
   rw [if_neg (by omega)] at h3
   rw [qcc p.low (by omega) kn,zS]
   exact .up h1 h3 (ih _ l (by omega))
theorem Pl.wf (p:Pl S nm el n):WF S:=⟨p.nodup,fun e he=>by
 obtain⟨k,kn,_,h,_⟩:=p.ix he
 rw [h]
 exact⟨_,p.line k kn⟩⟩
theorem Pl.kid (p:Pl S nm el n) {j:Nat} {y:Str} (jn:j < n) (h:y∈qbd S (nm j)):∃k,0 < k∧k < n∧el k=j∧y=nm k:=by
 obtain⟨e,he,rfl⟩:=zL.mp h
 obtain⟨hm,hd⟩:=yF.mp he
 obtain⟨k,kn,_,h1,h2⟩:=p.ix hm
 have hd':e.x.el=some (nm j):=of_decide_eq_true hd
 rw [h2] at hd'
 by_cases z:k=0
 ·rw [if_pos z] at hd';cases hd'
 ·rw [if_neg z] at hd'
  have l:=p.low k (by omega) kn
  exact⟨k,by omega,kn,p.inj _ _ (by omega) jn (Option.some.inj hd'),h1⟩
theorem Pl.dep (p:Pl S nm el n):∀m j,j < n→n≤j+m+1→Dep S m (nm j):=by
 intro m
 induction m with
 |zero=>
  intro j jn hn
  show qbd S (nm j)=[]
  cases e:qbd S (nm j) with
  |nil=>rfl
  |cons y r=>
   obtain⟨k,k0,kn,ke,_⟩:=p.kid jn (y:=y) (by rw [e];exact zI ..)
   have:=p.low k k0 kn
   omega
 |succ m ih=>
  intro j jn hn y hy
  obtain⟨k,k0,kn,ke,rfl⟩:=p.kid jn hy
  have:=p.low k k0 kn
  exact ih k kn (by omega)
theorem Pl.ben (p:Pl S nm el n):∀(m j:Nat) (zs:List Str),j < n→BenP S m (nm j) zs→∀y∈zs,∃k,k < n∧y=nm k∧j∈qac el k:=by
 intro m
 induction m with
 |zero=>
  rintro j _ jn ⟨parts,rest,hp,rfl,hb⟩ y hy
  rcases zR.mp hy with h|h
  ·exact⟨j,jn,h,qcv p.low jn⟩
  ·obtain⟨l,hl,_⟩:=yN.mp h
   obtain⟨q,hq,_⟩:=zL.mp hl
   exact(hb q hq).elim
 |succ m ih=>
  rintro j _ jn ⟨parts,rest,hp,rfl,hb⟩ y hy
  rcases zR.mp hy with h|h
  ·exact⟨j,jn,h,qcv p.low jn⟩
  ·obtain⟨l,hl,hyl⟩:=yN.mp h
   obtain⟨q,hq,rfl⟩:=zL.mp hl
   obtain⟨k,k0,kn,ke,e⟩:=p.kid jn (hp.mem_iff.mp (yI _ (zL.mpr ⟨q,hq,rfl⟩)))
   have hB:=hb q hq
   rw [e] at hB
   obtain⟨i,i1,i2,i3⟩:=ih k q.2 kn hB y hyl
   refine⟨i,i1,i2,?_⟩
   have:=lineN_in p.low k0 i i1 i3
   rw [ke] at this
   exact this
end
def qdq:Nat→(Nat→Int)→Int
 |0,_=>0
 |n+1,f=>qdq n f+f n
theorem sumR_le {f g:Nat→Int}:∀{n:Nat},(∀k,k < n→f k≤g k)→qdq n f≤qdq n g
 |0,_=>Int.le_refl _
 |n+1,h=>by
  have h1:=sumR_le (n:=n) fun k hk=>h k (by omega)
  have h2:=h n (by omega)
  show qdq n f+f n≤qdq n g+g n
  omega
theorem sumR_nn {f:Nat→Int}:∀{n:Nat},(∀k,k < n→0≤f k)→0≤qdq n f
 |0,_=>Int.le_refl _
 |n+1,h=>by
  have h1:=sumR_nn (n:=n) fun k hk=>h k (by omega)
  have h2:=h n (by omega)
  show 0≤qdq n f+f n
  omega
theorem sumR_mono {f:Nat→Int} {n m:Nat} (hm:n≤m) (h:∀k,k < m→0≤f k):qdq n f≤qdq m f:=by
 induction m with
 |zero=>have:n=0:=(by omega);subst this;exact Int.le_refl _
 |succ m ih=>
  rcases Nat.lt_or_ge n (m+1) with c|c
  ·have h1:=ih (by omega) fun k hk=>h k (by omega)
   have h2:=h m (by omega)
   show _≤qdq m f+f m
   omega
  ·have:n=m+1:=by omega
   subst this;exact Int.le_refl _
def sumL (f:Nat→Int):List Nat→Int
 | []=>0
 |k :: r=>f k+sumL f r
theorem sumL_perm {f:Nat→Int} {a b:List Nat} (h:a.Perm b):sumL f a=sumL f b:=by
 induction h with
 |nil=>rfl
 |cons x _ ih=>show _+_=_+_;rw [ih]
 |swap x y l=>show f y+(f x+sumL f l)=f x+(f y+sumL f l);omega
 |trans _ _ h1 h2=>rw [h1,h2]
theorem qft {f:Nat→Int}:∀{n:Nat} {ks:List Nat},ks.Nodup→(∀k∈ks,k < n)→(∀k,k < n→0≤f k)→sumL f ks≤qdq n f
 |0,ks,_,h,_=>by
  cases ks with
  |nil=>exact Int.le_refl _
  |cons k r=>exact absurd (h k (zI ..)) (by omega)
 |n+1,ks,nd,h,p=>by
  show _≤qdq n f+f n
  by_cases m:n∈ks
  ·rw [sumL_perm (List.perm_cons_erase m)]
   have nd2:=nd.erase n
   have:=qft (n:=n) nd2 (fun k hk=>by
    have h1:=h k (List.mem_of_mem_erase hk)
    have:k≠n:=fun z=>by subst z;exact(List.Nodup.not_mem_erase nd) hk
    omega) fun k hk=>p k (by omega)
   show f n+_≤_
   omega
  ·have:=qft (n:=n) nd (fun k hk=>by
    have h1:=h k hk
    have:k≠n:=fun z=>m (z ▸ hk)
    omega) fun k hk=>p k (by omega)
   have:=p n (by omega)
   omega
theorem gN_add (f g:Str→Option Int) (z:Str):gN (qfb f g) z=gN f z+gN g z:=by
 unfold gN qfb
 cases e:g z with
 |none=>simp
 |some b=>rfl
theorem gN_sum (z:Str):∀(ts:List Pt) (f0:Str→Option Int),gN (ts.foldl (fun f t=>qfb f t.f) f0) z=gN f0 z+(ts.map fun t=>gN t.f z).sum
 | [],f0=>by simp
 |t :: ts,f0=>by
  rw [yT,gN_sum z ts,gN_add,zS,yS]
  omega
section
variable {S : Ts} {nm : Nat → Str} {el : Nat → Nat} {n : Nat}
theorem Pl.sums (p:Pl S nm el n) {v:Str} {pr:Nat→Int} (hp:∀k e,S.hl[k]?=some e→gN e.x.fp v=pr k) (h0:∀k,k < n→0≤pr k) {m j:Nat} {bs:List Str} (jn:j < n) (hb:Ben S m (nm j) bs):
  gN (sumF (bs.map (ptOf S))) v≤qdq n fun k=>if j∈qac el k then pr k else 0:=by
 have nd:=(qcw p.wf hb.part).1
 have hk:=p.ben m j bs jn hb.part
 have key:∀bs:List Str,bs.Nodup→(∀y∈bs,∃k,k < n∧y=nm k∧j∈qac el k)→∃ks:List Nat,ks.Nodup∧(∀k∈ks,k < n∧nm k∈bs)∧((bs.map (ptOf S)).map fun t=>gN t.f v).sum=sumL (fun k=>if j∈qac el k then pr k else 0) ks:=by
  intro bs
  induction bs with
  |nil=>intro _ _;exact⟨[],yH,fun k hk=>absurd hk (by simp),rfl⟩
  |cons y r ih=>
   intro nd h
   rw [zX] at nd
   obtain⟨ks,k1,k2,k3⟩:=ih nd.2 fun y' hy=>h y' (zF _ hy)
   obtain⟨k,kn,rfl,kj⟩:=h y (zI ..)
   obtain⟨e,e1,e2,_⟩:=p.at kn
   refine⟨k :: ks,zX.mpr ⟨fun m=>nd.1 (k2 k m).2,k1⟩,fun k' hk'=>?_,?_⟩
   ·rcases zR.mp hk' with rfl|hk'
    ·exact⟨kn,zI ..⟩
    ·exact⟨(k2 k' hk').1,zF _ (k2 k' hk').2⟩
   ·rw [zS,zS,yS,k3,qg0 e1]
    show gN e.x.fp v+_=(if j∈qac el k then pr k else 0)+_
    rw [hp k e e2,if_pos kj]
 obtain⟨ks,k1,k2,k3⟩:=key bs nd hk
 unfold sumF
 rw [gN_sum,k3]
 have z:gN noF v=0:=rfl
 rw [z,Int.zero_add]
 exact qft k1 (fun k hk=>(k2 k hk).1) fun k hk=>by
  split
  ·exact h0 k hk
  ·exact Int.le_refl _
end
theorem ad_oK {k:List (Key × V)} {f:Str→Option Int} (hk:AD k f) {ks:List (Str × Addr)} {z:Str} {h:Addr} (hl:qde ks z=some h):HO.dK k≠ .dK (oK ks):=fun e=>by
 have e2:k=oK ks:=by injection e
 subst e2
 have g1:=hk.get z
 rw [qfn,hl] at g1
 cases hf:f z with
 |none=>rw [hf] at g1;cases g1
 |some n=>rw [hf] at g1;cases g1
def sp_Tree_found (K:Frag) (d:Ad):Sp:=fun vs H Q E=>∃(t a b:Addr) (S:Ts) (z:Str) (xe:V) (ka kb:List (Key × V)) (f g:Str→Option Int) (wt:Int),vs=[.ref t,.str z,xe,.ref a,.ref b,.int wt]∧qf5 d H t S∧qdu z=true∧S.at z=none∧qeb K H xe∧
 (who S xe=none→∀H',qaq H H'→E (.ref d.c_NoHouse) none H')∧
 ∀e,who S xe=some e→WF S∧qga S∧S.ws.length≤50∧H a=some (.dK ka)∧AD ka f∧ka.length≤1000∧H b=some (.dK kb)∧AD kb g∧kb.length≤1000∧Fin S.ws f∧Fin S.ws g∧1≤wt∧wt≤1000∧S.hl.length < 40∧
  (∃zs,LineOf S e.n zs∧zs.length < 12∧∀y∈zs,∃e',S.at y=some e'∧Dep S 12 y∧∀bs,Ben S 12 y bs→∀v n,qfb (sumF (bs.map (ptOf S))) (qct f) v=some n→n≤gN e'.x.fc v)∧(∀y,gN f y≤gN g y)∧
  ∀(e2:He) H',SameBut S.hs H H'→H e2.a=none→H e2.x.pa=none→H e2.x.ca=none→qf5 d H' t {S with hl:=S.hl++ [e2]}→e2.n=z→e2.x.el=some e.n→e2.x.w=wt→(∀y,e2.x.fp y=qct f y)→(∀y,e2.x.fc y=qct g y)→Q .non H'
include T in
theorem ok_Tree_found:FnOk P w K mg base (My.CX1 P w) 19 d.f_Tree_found d.fd_Tree_found ["self","name","elder","promise","cap","weight"] (sp_Tree_found K d):=by
 refine okDX T.F_Tree_found sc_Tree_found (fun vs H Q E h=>?_) (fun cdv A outer s H vs Q E hr h=>?_)
 ·obtain⟨t,a,b,S,z,xe,ka,kb,f,g,wt,rfl,_⟩:=h;rfl
 obtain⟨t,a,b,S,z,xe,ka,kb,f,g,wt,rfl,hT,gz,nz,hx,q2,q1⟩:=h
 refine⟨_,(qa3 (qay (qcb ((ok_check_name T).mono (by decide)) hr rfl T.m_check_name T.F_check_name.kp T.b_check_name .nil qaz (qa0 (pv 1) qa2)))
  (qa3 (qbc (qci (pe_meth (pv 0) T.CL_Tree T.ME_Tree_has ((ok_Tree_has T).mono (by decide)) hr T.b_Tree_has .nil qag (qa0 (pv 1) qa2))) (qa6 (qbz rfl T.X_Taken rfl T.m_Taken qaz (qa0 qck qa2))) qan)
  (qa3 (qay (qb5 (pv 0) T.CL_Tree T.ME_Tree_check_house ((ok_Tree_check_house T).mono (by decide)) hr T.b_Tree_check_house .nil qaz (qa0 (pv 2) qa2)))
  (qa3 (qad (i:=6) sc_Tree_found.nd rfl (Or.inl rfl) (qcb ((ok_read_house T).mono (by decide)) hr rfl T.m_read_house T.F_read_house.kp T.b_read_house .nil qaz (qa0 (qbh (pv 0) rfl) (qa0 (pv 2) (qa0 (pv 3) (qa0 (pv 4) (qa0 (pv 5) qa2)))))))
  (qa3 (qbc (qak op_ge (qae call_lenDD rfl T.z_len PySem.boot_len (qa0 (qbh (pv 0) rfl) qa2)) (qe5 rfl T.m_MOST_HOUSES T.r_MOST_HOUSES) (qap _)) (qa6 (qbz rfl T.X_TooMany rfl T.m_TooMany qaz (qa0 qck qa2))) qan)
  (qa3 (qad (i:=7) sc_Tree_found.nd rfl (Or.inl rfl) (qb5 (pv 0) T.CL_Tree T.ME_Tree_line ((ok_Tree_line T).mono (by decide)) hr T.b_Tree_line .nil qaz (qa0 (pv 2) qa2)))
  (qa3 (qbc (qak op_ge (qae qau rfl T.z_len PySem.boot_len (qa0 (pv 7) qa2)) (qe5 rfl T.m_LONGEST_LINE T.r_LONGEST_LINE) (qap _)) (qa6 (qbz rfl T.X_TooDeep rfl T.m_TooDeep qaz (qa0 qck qa2))) qan)
  (qa3 (qay (qcb ((ok_check_promises T).mono (by decide)) hr rfl T.m_check_promises T.F_check_promises.kp T.b_check_promises .nil qaz (qa0 (pv 1) (qa0 (qbh (pv 6) rfl) (qa0 (qbh (pv 6) rfl) qa2)))))
  (qa3 (qay (qb5 (pv 0) T.CL_Tree T.ME_Tree_check_more ((ok_Tree_check_more T).mono (by decide)) hr T.b_Tree_check_more .nil qaz (qa0 (pv 7) (qa0 (qbh (pv 6) rfl) qa2))))
  (qa6 (qem (qd4 hr) (qbh (pv 0) rfl) (pv 1) (pv 6) rfl))))))))))),?_⟩
 walk_at "d"
 refine qaf (σ:=[some (.ref t),some (.str z),some (xe),some (.ref a),some (.ref b),some (.int wt),none,none]) rfl ?_
 have ct:=T.CL_Tree
 have ch:=T.CL_House
 have n1:qaw K d.c_Tree "sorted_wares":=T.NA_Tree_sorted_wares
 have n2:qaw K d.c_Tree "houses":=T.NA_Tree_houses
 have n3:qaw K d.c_House "promise":=T.NA_House_promise
 have n4:qaw K d.c_House "cap":=T.NA_House_cap
 left
 refine⟨z,rfl,gz,fun H1 s1=>?_⟩
 have hT1:=hT.same s1
 obtain⟨dx,ht⟩:=id hT1.1
 left
 refine⟨t,S,.str z,rfl,hT1,.inl ⟨z,rfl⟩,?_⟩
 rw [show who S (.str z)=none from nz]
 left
 show if false=true then _ else _
 left
 refine⟨t,S,xe,rfl,hT1,hx.same s1,fun e he=>?_,fun he=>q2 he H1 s1⟩
 obtain⟨hW,hO,hws,ha,hA,za,hb,hB,zb,ff,fg,w0,w1,h40,⟨zs,hL,hz12,hy⟩,le,q⟩:=q1 e he
 obtain⟨y,rfl⟩:∃y,xe=.str y:=by
  rcases hx with h|⟨_,nz'⟩
  ·exact h
  ·rw [qd8 nz'] at he;cases he
 have ey:e.n=y:=(qc9 he).2
 have hsw:=hT1.2.1
 left
 refine⟨S.sw,a,b,some y,S.ws,ka,kb,f,g,wt,rfl,hsw,s1 _ _ ha,hA,za,s1 _ _ hb,hB,zb,ff,fg,w0,w1,fun h o H3 s3 nh np nc hOo eel ew efp efc=>?_⟩
 obtain⟨⟨dh,ho⟩,hp,hpA,hc,hcA⟩:=id hOo
 have efp':o.fp=qct f:=funext efp
 have efc':o.fc=qct g:=funext efc
 have lk:o.kp.length≤S.ws.length:=hpA.le (by rw [efp'];exact pos_in ff)
 have hT3:=hT1.same s3
 obtain⟨⟨dx3,ht3⟩,hw3,hh3,nd3,hz3,hE3⟩:=id hT3
 left
 refine r_lenD hh3 ?_
 rw [qeg]
 left
 refine⟨t,S,.str y,rfl,hT3,.inl ⟨y,zs,rfl,by rw [←ey];exact hL,by omega,fun l hl=>?_⟩⟩
 have s4:=qa8 hl (.lst (zs.map V.str))
 have eL:upd H3 l (.lst (zs.map V.str)) l=some (.lst (zs.map V.str)):=qa1
 have hzl:(zs.map V.str).length=zs.length:=zB _
 generalize upd H3 l (.lst (zs.map V.str))=H4 at*
 have ho4:=s4 _ _ ho
 have hp4:=s4 _ _ hp
 have hc4:=s4 _ _ hc
 left
 refine⟨.str z,o.pa,o.ca,o.kp,o.kc,o.fp,o.fc,rfl,.inl hp4,.inl hc4,hpA,hcA,by omega,by rw [efp',efc'];exact pos_le fg le,fun H5 s5=>?_⟩
 have s35:=s4.trans s5
 have ho5:=s35 _ _ ho
 have hT5:=hT3.same s35
 obtain⟨dx5,ht5⟩:=id hT5.1
 left
 refine⟨t,l,o.pa,S,zs,o.kp,o.fp,rfl,hT5,hW,hO,SqL.of (s5 _ _ eL),s35 _ _ hp,hpA,hws,by rw [efp'];exact pos_in ff,by rw [efp'];exact hy,fun H6 s6=>?_⟩
 have s36:=s35.trans s6
 have s16:=s3.trans s36
 have s06:=s1.trans s16
 obtain⟨⟨dx6,ht6⟩,hw6,hh6,nd6,hz6,hE6⟩:=hT3.same s36
 left
 have lkn:qde S.keys z=none:=by rw [qds,nz];rfl
 have hksz:(oK S.keys).length < sizeLine:=by rw [qeg];show _ < 16777216;omega
 refine r_dpk hh6 hksz ?_
 rw [putK_oK lkn]
 left
 have sF:∀b u,b≠S.hs→H6 b=some u→upd H6 S.hs (.dK (oK (S.keys++ [(z,h)]))) b=some u:=fun b u hb e=>by rw [qa9 hb];exact e
 have nH:∀{b:Addr} {u:HO},H6 b=some u→u≠ .dK (oK S.keys)→b≠S.hs:=fun e1 e2 e3=>by
  subst e3;rw [hh6] at e1;exact e2 (Option.some.inj e1).symm
 have hT1':=hT1
 have fresh:∀{b:Addr} {u:HO},H1 b=none→H6 b=some u→b≠S.hs:=fun e1 _ e3=>by
  subst e3;rw [hT1'.2.2.1] at e1;cases e1
 refine q ⟨z,h,o⟩ _ (fun b u hb e=>sF b u hb (s06 _ _ e)) (s1.free nh) (s1.free np) (s1.free nc) ⟨⟨dx6,sF _ _ (nH ht6 (by intro e;cases e)) ht6⟩,sF _ _ (nH hw6 (by intro e;cases e)) hw6,?_,?_,?_,fun e1 he1=>?_⟩ rfl (by rw [ey];exact eel) ew efp efc
 ·show upd _ _ _ S.hs=some (.dK (oK (Ts.keys _)))
  rw [qa1]
  unfold Ts.keys
  rw [zE];rfl
 ·show (List.map _ (S.hl++ [_])).Nodup
  rw [zE,yK]
  refine⟨nd6,zX.mpr ⟨by simp,yH⟩,fun x hx1 y' hy1 e=>?_⟩
  have:y'=z:=by simpa using hy1
  subst this
  subst e
  obtain⟨e2,m2,rfl⟩:=zL.mp hx1
  rw [at_of nd6 m2] at nz
  cases nz
 ·show (S.hl++ [_]).length≤60
  rw [zG]
  show _+1≤60
  omega
 ·rcases zN.mp he1 with m|m
  ·obtain⟨⟨dy,hy1⟩,hy2,hy3,hy4,hy5⟩:=hE6 e1 m
   have no:∀{k:List (Key × V)} {f:Str→Option Int},AD k f→HO.dK k≠ .dK (oK S.keys):=fun hk=>ad_oK hk (z:=e1.n) (h:=e1.a) (by rw [qds,at_of nd6 m];rfl)
   exact⟨⟨dy,sF _ _ (nH hy1 (by intro e;cases e)) hy1⟩,sF _ _ (nH hy2 (no hy3)) hy2,hy3,sF _ _ (nH hy4 (no hy5)) hy4,hy5⟩
  ·have:e1=⟨z,h,o⟩:=by simpa using m
   subst this
   have h6:=s36 _ _ ho
   refine⟨⟨dh,sF _ _ (fresh nh h6) h6⟩,sF _ _ (fresh np (s36 _ _ hp)) (s36 _ _ hp),hpA,sF _ _ (fresh nc (s36 _ _ hc)) (s36 _ _ hc),hcA⟩
abbrev ABC:Str:=Str.ofString "abcdefghijklmnopqrstuvwxyz"
def letc (i:Int):Nat:=97+(i%26).toNat
theorem letAt (g:Int):atI ABC.cps.toList (g%26)=some (letc g):=by
 have e0:=Int.emod_nonneg g (show (26:Int)≠0 by decide)
 have e1:=Int.emod_lt_of_pos g (show (0:Int) < 26 by decide)
 have h:∀k:Nat,k < 26→ABC.cps.toList[k]?=some (97+k):=by decide+kernel
 have e:g%26=(((g%26).toNat:Nat):Int):=by omega
 rw [e]
 rw [qar (h (g%26).toNat (by omega))]
 rfl
theorem letc_isL (g:Int):isL (letc g)=true:=by
 have e0:=Int.emod_nonneg g (show (26:Int)≠0 by decide)
 have e1:=Int.emod_lt_of_pos g (show (0:Int) < 26 by decide)
 unfold isL letc
 rw [Bool.and_eq_true,decide_eq_true_iff,decide_eq_true_iff]
 omega
theorem letc_inj {g g':Int} (h:letc g=letc g'):g%26=g'%26:=by
 have e0:=Int.emod_nonneg g (show (26:Int)≠0 by decide)
 have f0:=Int.emod_nonneg g' (show (26:Int)≠0 by decide)
 unfold letc at h
 omega
def ofL (l:List Nat):Str:=⟨l.toArray⟩
theorem qf0 (l:List Nat):qe8 (ofL l)=l:=by simp [qe8,ofL]
theorem qg3 {l m:List Nat} (h:ofL l=ofL m):l=m:=by rw [←qf0 l,←qf0 m,h]
theorem ofL_snoc (l:List Nat) (c:Nat):ofL l++(⟨#[c]⟩:Str)=ofL (l++ [c]):=by
 have e:(ofL l++(⟨#[c]⟩:Str)).cps=(ofL (l++ [c])).cps:=by
  rw [Str.cps_append]
  simp [ofL]
 exact congrArg Str.mk e
theorem qe6 (l:List Nat):(ofL l).length=l.length:=by simp [ofL,Str.length]
def iV (e:Nat):V:=.int (e:Int)
def FinB (ws:List Str) (B:Int) (f:Str→Option Int):Prop:=∀z n,f z=some n→z∈ws∧0≤n∧n≤B
def elN (es:List Nat) (k:Nat):Nat:=(es[k - 1]?).getD 0
def ptN (ts:List Pt) (k:Nat) (v:Str):Int:=match ts[k]? with
 |some t=>gN t.f v
 |none=>0
theorem lineN_pw {el:Nat→Nat} {n:Nat} (lo:Low el n):∀k,k < n→(qac el k).Pairwise (fun a b=>b < a):=by
 intro k
 induction k using Nat.strongRecOn with
 |ind k ih=>
  intro kn
  cases k with
  |zero=>rw [qcu];exact List.pairwise_singleton ..
  |succ k=>
   have l:=lo (k+1) (by omega) kn
   rw [qcc lo (by omega) kn,List.pairwise_cons]
   refine⟨fun a ha=>?_,ih _ l (by omega)⟩
   have:=qcn lo (el (k+1)) (by omega) a ha
   omega
structure PL where
 lw:Addr
 ln:Addr
 le:Addr
 lp:Addr
 lc:Addr
 ws:List Str
 nm:List Str
 es:List Nat
 tp:List Pt
 tc:List Pt
structure PlF (P:PL):Prop where
 w1:1≤P.ws.length
 w3:P.ws.length≤3
 wg:∀z∈P.ws,qdu z=true
 wn:P.ws.Nodup
 nl:P.nm.length=P.es.length+1
 n12:P.nm.length≤12
 ng:∀z∈P.nm,qdu z=true
 nn:P.nm.Nodup
 lo:∀(k e:Nat),P.es[k]?=some e→e≤k∧e≤10
 pl:P.tp.length=P.nm.length
 cl:P.tc.length=P.nm.length
 pa:∀t∈P.tp,AD t.k t.f∧FinB P.ws (10^30) t.f
 ca:∀t∈P.tc,AD t.k t.f∧FinB P.ws (10^30) t.f
 le:∀(j:Nat) (t:Pt),P.tc[j]?=some t→∀v∈P.ws,(qdq P.tp.length fun k=>if j∈qac (elN P.es) k then ptN P.tp k v else 0)≤gN t.f v
theorem qdg {es:List Nat} (lo:∀(k e:Nat),es[k]?=some e→e≤k) (n:Nat):Low (elN es) n:=fun k k0 kn=>by
 unfold elN
 cases e:es[k - 1]? with
 |none=>exact k0
 |some a=>have:=lo _ _ e;show a < k;omega
theorem elN_at {es:List Nat} {b:Nat} (hb:b < es.length):elN es (b+1)=es[b]:=by unfold elN;rw [Nat.add_sub_cancel,zA hb];rfl
theorem FinB.fin {ws:List Str} {B:Int} {f:Str→Option Int} (h:FinB ws B f) (hB:B≤10^30):Fin ws f:=fun z n e=>by
 obtain⟨a,b,c⟩:=h z n e
 exact⟨a,b,by omega⟩
theorem fin_perm {ws ws':List Str} {f:Str→Option Int} (h:Fin ws f) (p:ws'.Perm ws):Fin ws' f:=fun z n e=>by
 obtain⟨a,b,c⟩:=h z n e
 exact⟨p.mem_iff.mpr a,b,c⟩
def nmF (P:PL) (k:Nat):Str:=(P.nm[k]?).getD (ofL [])
def tfF (ts:List Pt) (k:Nat):Str→Option Int:=match ts[k]? with
 |some t=>t.f
 |none=>noF
theorem ptN_eq (ts:List Pt) (k:Nat) (v:Str):ptN ts k v=gN (tfF ts k) v:=by
 unfold ptN tfF
 cases ts[k]? <;> rfl
structure TInv (S:Ts) (P:PL) (n:Nat) (wt:Nat→Int):Prop where
 pl:Pl S (nmF P) (elN P.es) n
 wp:S.ws.Perm P.ws
 ws:PyProof.Rows.sortedS S.ws=true
 da:∀(k:Nat) (e:He),S.hl[k]?=some e→(∀v,e.x.fp v=qct (tfF P.tp k) v)∧(∀v,e.x.fc v=qct (tfF P.tc k) v)∧e.x.w=wt k
theorem qdz {P:PL} {k:Nat} (h:k < P.nm.length):nmF P k=P.nm[k]:=by unfold nmF;rw [zA h];rfl
theorem nmF_inj {P:PL} (f:PlF P) {n:Nat} (hn:n≤P.nm.length):∀i j,i < n→j < n→nmF P i=nmF P j→i=j:=fun i j hi hj e=>by
 rw [qdz (by omega),qdz (by omega)] at e
 rcases Nat.lt_trichotomy i j with h|h|h
 ·exact absurd e ((zZ.mp f.nn) i j (by omega) (by omega) h)
 ·exact h
 ·exact absurd e.symm ((zZ.mp f.nn) j i (by omega) (by omega) h)
theorem PlF.low {P:PL} (f:PlF P) (n:Nat):Low (elN P.es) n:=qdg (fun k e h=>(f.lo k e h).1) n
theorem qei {P:PL} (f:PlF P) {k:Nat} (hk:k < P.nm.length):∃t,P.tp[k]?=some t∧t∈P.tp∧tfF P.tp k=t.f∧AD t.k t.f∧Fin P.ws t.f:=by
 have h:k < P.tp.length:=by rw [f.pl];exact hk
 have e:=zA h
 refine⟨_,e,zJ h,by unfold tfF;rw [e],(f.pa _ (zJ h)).1,(f.pa _ (zJ h)).2.fin (by decide)⟩
theorem tc_fin {P:PL} (f:PlF P) {k:Nat} (hk:k < P.nm.length):∃t,P.tc[k]?=some t∧t∈P.tc∧tfF P.tc k=t.f∧AD t.k t.f∧Fin P.ws t.f:=by
 have h:k < P.tc.length:=by rw [f.cl];exact hk
 have e:=zA h
 refine⟨_,e,zJ h,by unfold tfF;rw [e],(f.ca _ (zJ h)).1,(f.ca _ (zJ h)).2.fin (by decide)⟩
theorem fin_nn {ws:List Str} {f:Str→Option Int} (h:Fin ws f) (v:Str):0≤gN f v:=by
 unfold gN
 cases e:f v with
 |none=>exact Int.le_refl _
 |some n=>exact(h v n e).2.1
theorem fin_out {ws:List Str} {f:Str→Option Int} (h:Fin ws f) {v:Str} (hv:v∉ws):gN f v=0:=by
 unfold gN
 cases e:f v with
 |none=>rfl
 |some n=>exact absurd (h v n e).1 hv
theorem pr_nn {P:PL} (f:PlF P) {k:Nat} (hk:k < P.nm.length) (v:Str):0≤gN (tfF P.tp k) v:=by
 obtain⟨t,_,_,e,_,h⟩:=qei f hk
 rw [e];exact fin_nn h v
theorem cap_ge {P:PL} (f:PlF P) {j:Nat} (hj:j < P.nm.length) (v:Str):(qdq P.nm.length fun k=>if j∈qac (elN P.es) k then gN (tfF P.tp k) v else 0)≤gN (tfF P.tc j) v:=by
 obtain⟨t,e1,e2,e3,e4,e5⟩:=tc_fin f hj
 rw [e3]
 by_cases hv:v∈P.ws
 ·have z:=f.le j t e1 v hv
  rw [f.pl] at z
  have:(fun k=>if j∈qac (elN P.es) k then ptN P.tp k v else 0)=fun k=>if j∈qac (elN P.es) k then gN (tfF P.tp k) v else 0:=funext fun k=>by rw [ptN_eq]
  rw [this] at z
  exact z
 ·have z:(qdq P.nm.length fun k=>if j∈qac (elN P.es) k then gN (tfF P.tp k) v else 0)≤qdq P.nm.length fun _=>0:=sumR_le fun k hk=>by
   split
   ·obtain⟨t',_,_,q,_,h⟩:=qei f hk
    rw [q,fin_out h hv];exact Int.le_refl _
   ·exact Int.le_refl _
  have z0:∀n,(qdq n fun _=>0)=0:=fun n=>by
   induction n with
   |zero=>rfl
   |succ n ih=>show qdq n _+0=0;rw [ih];rfl
  rw [z0] at z
  have:=fin_nn e5 v
  omega
theorem own_le {P:PL} (f:PlF P) {k:Nat} (hk:k < P.nm.length) (v:Str):gN (tfF P.tp k) v≤gN (tfF P.tc k) v:=by
 have z:=cap_ge f hk v
 have h:gN (tfF P.tp k) v≤qdq P.nm.length fun i=>if k∈qac (elN P.es) i then gN (tfF P.tp i) v else 0:=by
  have h1:sumL (fun i=>if k∈qac (elN P.es) i then gN (tfF P.tp i) v else 0) [k]≤qdq P.nm.length fun i=>if k∈qac (elN P.es) i then gN (tfF P.tp i) v else 0:=
   qft (zX.mpr ⟨by simp,yH⟩) (fun i hi=>by have:i=k:=(by simpa using hi);omega) fun i hi=>by
    split
    ·exact pr_nn f hi v
    ·exact Int.le_refl _
  have h2:sumL (fun i=>if k∈qac (elN P.es) i then gN (tfF P.tp i) v else 0) [k]=gN (tfF P.tp k) v:=by
   show (if k∈qac (elN P.es) k then gN (tfF P.tp k) v else 0)+0=_
   rw [if_pos (qcv (f.low P.nm.length) hk),Int.add_zero]
  omega
 omega
theorem TInv.ask {S:Ts} {P:PL} {k:Nat} {wt:Nat→Int} (h:TInv S P k wt) (f:PlF P) (k0:0 < k) (kn:k < P.nm.length):∃e,S.at (nmF P (elN P.es k))=some e∧e.n=nmF P (elN P.es k)∧WF S∧qga S∧S.ws.length≤50∧S.hl.length < 40∧S.at (nmF P k)=none∧
  ∃zs,LineOf S e.n zs∧zs.length < 12∧∀y∈zs,∃e',S.at y=some e'∧Dep S 12 y∧∀bs,Ben S 12 y bs→∀v n,qfb (sumF (bs.map (ptOf S))) (qct (tfF P.tp k)) v=some n→n≤gN e'.x.fc v:=by
 have low:=f.low P.nm.length
 have lk:=low k k0 kn
 have n12:=f.n12
 obtain⟨e,h1,h2,h3⟩:=h.pl.at lk
 have en:e.n=nmF P (elN P.es k):=(qc9 h1).2
 refine⟨e,h1,en,h.pl.wf,⟨by have:=h.wp.length_eq;have:=f.w3;omega,fun e' he z hz=>?_⟩,by have:=h.wp.length_eq;have:=f.w3;omega,by rw [h.pl.len];omega,?_,(qac (elN P.es) (elN P.es k)).map (nmF P),by rw [en];exact h.pl.line _ lk,?_,fun y hy=>?_⟩
 ·obtain⟨i,hi,q,_⟩:=h.pl.ix he
  obtain⟨t,_,_,q2,_,q3⟩:=qei f (k:=i) (by omega)
  rw [(h.da i e' q).1,q2] at hz
  exact h.wp.mem_iff.mpr (pos_in q3 z hz)
 ·cases c:S.at (nmF P k) with
  |none=>rfl
  |some e'=>
   obtain⟨i,hi,_,q,_⟩:=h.pl.ix (qc9 c).1
   have:=nmF_inj f (n:=P.nm.length) (Nat.le_refl _) i k (by omega) kn (by rw [←q,(qc9 c).2])
   omega
 ·rw [zB]
  have hl:=qcf low (elN P.es k) (by omega)
  have:elN P.es k≤10:=by
   obtain⟨b,rfl⟩:∃b,k=b+1:=⟨k - 1,by omega⟩
   have hb:b < P.es.length:=by have:=f.nl;omega
   rw [elN_at hb]
   exact(f.lo b _ (zA hb)).2
  omega
 ·obtain⟨j,hj,rfl⟩:=zL.mp hy
  have jl:=qcn low (elN P.es k) (by omega) j hj
  have jk:j < k:=by omega
  obtain⟨e',q1,q2,_⟩:=h.pl.at jk
  refine⟨e',q1,h.pl.dep 12 j jk (by omega),fun bs hb v n hn=>?_⟩
  have hs:=h.pl.sums (v:=v) (pr:=fun i=>gN (tfF P.tp i) v) (fun i e2 he2=>?_) (fun i hi=>pr_nn f (by omega) v) jk hb
  ·have g1:n=gN (qfb (sumF (bs.map (ptOf S))) (qct (tfF P.tp k))) v:=by unfold gN;rw [hn];rfl
   obtain⟨t,_,_,t3,_,t5⟩:=qei f kn
   rw [gN_add,t3,qey t5,←t3] at g1
   obtain⟨u,_,_,u3,_,u5⟩:=tc_fin f (k:=j) (by omega)
   have fc:e'.x.fc=qct u.f:=by rw [←u3];exact funext (h.da j e' q2).2.1
   rw [fc,qey u5,←u3]
   have cg:=cap_ge f (j:=j) (by omega) v
   have mono:=sumR_mono (f:=fun i=>if j∈qac (elN P.es) i then gN (tfF P.tp i) v else 0) (n:=k+1) (m:=P.nm.length) (by omega) fun i hi=>by
    try dsimp only
    split
    ·exact pr_nn f hi v
    ·exact Int.le_refl _
   have top:(qdq (k+1) fun i=>if j∈qac (elN P.es) i then gN (tfF P.tp i) v else 0)=(qdq k fun i=>if j∈qac (elN P.es) i then gN (tfF P.tp i) v else 0)+gN (tfF P.tp k) v:=by
    show qdq k _+(if j∈qac (elN P.es) k then gN (tfF P.tp k) v else 0)=_
    rw [if_pos]
    rw [qcc low k0 kn]
    exact zF _ hj
   omega
  ·obtain⟨t,_,_,t3,_,t5⟩:=qei f (k:=i) (by have:=(List.getElem?_eq_some_iff.mp he2).1;rw [h.pl.len] at this;omega)
   rw [show e2.x.fp=qct (tfF P.tp i) from funext (h.da i e2 he2).1,t3]
   exact qey t5 v
theorem TInv.next {S:Ts} {P:PL} {k:Nat} {wt:Nat→Int} (h:TInv S P k wt) (f:PlF P) (k0:0 < k) (kn:k < P.nm.length) {e2:He} {w:Int} (en:e2.n=nmF P k) (el:e2.x.el=some (nmF P (elN P.es k))) (ew:e2.x.w=w) (ep:∀v,e2.x.fp v=qct (tfF P.tp k) v) (ec:∀v,e2.x.fc v=qct (tfF P.tc k) v):
  TInv {S with hl:=S.hl++ [e2]} P (k+1) (fun i=>if i=k then w else wt i):=by
 have hl:=h.pl.len
 have split:∀(i:Nat) (e:He),(S.hl++ [e2])[i]?=some e→(i < k∧S.hl[i]?=some e)∨(i=k∧e=e2):=fun i e he=>by
  rcases Nat.lt_or_ge i S.hl.length with c|c
  ·rw [yB c] at he
   exact .inl ⟨by omega,he⟩
  ·have:=(List.getElem?_eq_some_iff.mp he).1
   rw [zG,yA] at this
   have ei:i=S.hl.length:=by omega
   rw [zW c,ei,Nat.sub_self] at he
   exact .inr ⟨by omega,by simpa using he.symm⟩
 refine⟨⟨by show (S.hl++ [e2]).length=_;rw [zG,hl];rfl,fun i e he=>?_,nmF_inj f (by omega),fun i i0 ik=>f.low P.nm.length i i0 (by omega)⟩,h.wp,h.ws,fun i e he=>?_⟩
 ·rcases split i e he with ⟨a,b⟩ |⟨rfl,rfl⟩
  ·exact h.pl.nam i e b
  ·exact⟨en,by rw [if_neg (by omega)];exact el⟩
 ·rcases split i e he with ⟨a,b⟩ |⟨rfl,rfl⟩
  ·obtain⟨x,y,z⟩:=h.da i e b
   exact⟨x,y,by rw [if_neg (by omega)];exact z⟩
  ·exact⟨ep,ec,by rw [if_pos rfl];exact ew⟩
structure Apart (S:Ts) (t q:Addr):Prop where
 t:t≠q
 sw:S.sw≠q
 hs:S.hs≠q
 ho:∀e∈S.hl,e.a≠q∧e.x.pa≠q∧e.x.ca≠q
theorem sort_eq {ss ss':List Str} (h:ss.Perm ss') (a:PyProof.Rows.sortedS ss=true) (b:PyProof.Rows.sortedS ss'=true):ss=ss':=
 List.Perm.eq_of_pairwise (le:=leS) (fun x y _ _ h1 h2=>leS_anti h1 h2) (qej a) (qej b) h
theorem pl_one {S:Ts} {P:PL} {e:He} (f:PlF P) (hl:S.hl=[e]) (en:e.n=nmF P 0) (el:e.x.el=none):Pl S (nmF P) (elN P.es) 1:=by
 refine⟨by rw [hl];rfl,fun k e' he=>?_,fun i j hi hj _=>by omega,fun k k0 k1=>by omega⟩
 rw [hl] at he
 have hk:=(List.getElem?_eq_some_iff.mp he).1
 have e0:k=0:=by rw [yA] at hk;omega
 subst e0
 have:e'=e:=by simpa using he.symm
 subst this
 exact⟨en,el⟩
theorem TInv.cast {S:Ts} {P:PL} {n:Nat} {wt wt':Nat→Int} (h:TInv S P n wt) (e:∀j,j < n→wt j=wt' j):TInv S P n wt':=⟨h.pl,h.wp,h.ws,fun k x hx=>by
 have hk:=(List.getElem?_eq_some_iff.mp hx).1
 rw [h.pl.len] at hk
 obtain⟨a,b,c⟩:=h.da k x hx
 exact⟨a,b,c.trans (e k hk)⟩⟩
def tV:Option Int→V
 |none=> .non
 |some n=> .int n
def clsC (d:Ad) (s:Bool):Addr:=if s=true then d.c_Hold else d.c_Loan
def fsB (n:Int) (z:Str) (m:Addr) (r:Int) (t:Option Int):List (Str × V):=[("number",.int n),("house",.str z),("amounts",.ref m),("rank",.int r),("turns",tV t)]
theorem clsOk {K:Frag} {mg:Str→Option Value} {d:Ad} (T:Tx K mg d) (s:Bool):Cls K (clsC d s)∧qaw K (clsC d s) "number"∧qaw K (clsC d s) "house"∧qaw K (clsC d s) "amounts"∧qaw K (clsC d s) "rank"∧qaw K (clsC d s) "turns":=by
 cases s
 ·exact⟨T.CL_Loan,T.NA_Loan_number,T.NA_Loan_house,T.NA_Loan_amounts,T.NA_Loan_rank,T.NA_Loan_turns⟩
 ·exact⟨T.CL_Hold,T.NA_Hold_number,T.NA_Hold_house,T.NA_Hold_amounts,T.NA_Hold_rank,T.NA_Hold_turns⟩
def sp_Hold_init (K:Frag) (d:Ad):Sp:=fun vs H Q _=>∃(x dx a:Addr) (s:Bool) (n:Int) (z:Str) (k:List (Key × V)) (r:Int) (t:Option Int),vs=[.ref x,.int n,.str z,.ref a,.int r,tV t]∧H x=some (.ins (clsC d s) dx [])∧H a=some (.dK k)∧
 ∀m H',H m=none→H' x=some (.ins (clsC d s) dx (fsB n z m r t))→H' m=some (.dK k)→SameBut x H H'→Q .non H'
include T in
theorem ok_Hold_init:FnOk P w K mg base CX0 1 d.f_Hold_init d.fd_Hold_init ["self","number","house","amounts","rank","turns"] (sp_Hold_init K d):=by
 refine T.F_Hold_init.ok sc_Hold_init (fun vs H Q E h=>?_) (fun cdv A outer s H vs Q E hr h=>?_)
 ·obtain⟨x,dx,a,s,n,z,k,r,t,rfl,_⟩:=h;rfl
 obtain⟨x,dx,a,s,n,z,k,r,t,rfl,hx,ha,q⟩:=h
 refine⟨_,(qa3 (qda (pv 0) (pv 1) rfl)
  (qa3 (qda (pv 0) (pv 2) rfl)
  (qa3 (qda (pv 0) (qc2 qea rfl T.z_dict PyProof.Rows.boot_dict (qa0 (pv 3) qa2)) rfl)
  (qa3 (qda (pv 0) (pv 4) rfl)
  (qa6 (qda (pv 0) (pv 5) rfl)))))),?_⟩
 walk_at "d"
 refine qaf (σ:=[some (.ref x),some (.int n),some (.str z),some (.ref a),some (.int r),some (tV t)]) rfl ?_
 obtain⟨cl,n1,n2,n3,n4,n5⟩:=clsOk T s
 left
 refine qfy qa1 cl n2 (by show 1 < 1000;decide) ?_
 rw [qbb]
 have nxa:a≠x:=fun z=>by subst z;rw [hx] at ha;cases ha
 have hRa:Rd (upd H x (.ins (clsC d s) dx (qel "house" (.str z) (qel "number" (.int n) [])))) a (.dK k):=.inl (by rw [qa9 nxa];exact ha)
 left
 rename_i m hm
 have nmx:m≠x:=fun z=>by subst z;rw [qa1] at hm;cases hm
 have hm0:H m=none:=by rw [qa9 nmx] at hm;exact hm
 refine qfy (qa4 qa1 hm) cl n3 (by show 2 < 1000;decide) ?_
 left
 refine qfy qa1 cl n4 (by show 3 < 1000;decide) ?_
 left
 refine qfy qa1 cl n5 (by show 4 < 1000;decide) ?_
 left
 refine q m _ hm0 (by rw [qa1];rfl) (by rw [qa9 nmx,qa9 nmx,qa9 nmx];exact qa1) fun b o hb e=>?_
 rw [qa9 hb,qa9 hb,qa9 hb,qa9 (qa7 e hm0),qa9 hb]
 exact e
def InW (ws:List Str) (f:Str→Option Int):Prop:=∀z,f z≠none→z∈ws
structure Rr where
 p:Addr
 e:Addr
 n:Int
 i:Nat
 k:List (Key × V)
 f:Str→Option Int
 r:Int
 s:Bool
structure Ob where
 R:Rr
 o:Addr
 m:Addr
 t:Option Int
structure ObAt (d:Ad) (H:Hp) (P:PL) (b:Ob):Prop where
 obj:∃dx,H b.o=some (.ins (clsC d b.R.s) dx (fsB b.R.n (nmF P b.R.i) b.m b.R.r b.t))
 amt:H b.m=some (.dK b.R.k)
 ad:AD b.R.k b.R.f
 inw:InW P.ws b.R.f
 il:b.R.i < P.nm.length
theorem ObAt.same {d:Ad} {H H':Hp} {P:PL} {b:Ob} (h:ObAt d H P b) (s:qaq H H'):ObAt d H' P b:=⟨let ⟨dx,e⟩:=h.obj;⟨dx,s _ _ e⟩,s _ _ h.amt,h.ad,h.inw,h.il⟩
theorem line_kid {el:Nat→Nat} {n:Nat} (lo:Low el n) {j:Nat}:∀k,k < n→j∈qac el k→j≠k→∃c,0 < c∧c < n∧el c=j∧c∈qac el k:=by
 intro k
 induction k using Nat.strongRecOn with
 |ind k ih=>
  intro kn hj ne
  cases k with
  |zero=>rw [qcu] at hj;simp at hj;omega
  |succ k=>
   have l:=lo (k+1) (by omega) kn
   rw [qcc lo (by omega) kn] at hj ⊢
   rcases zR.mp hj with h|h
   ·exact absurd h ne
   ·by_cases c:j=el (k+1)
    ·exact⟨k+1,by omega,kn,c.symm,zI ..⟩
    ·obtain⟨x,x0,x1,x2,x3⟩:=ih (el (k+1)) l (by omega) h c
     exact⟨x,x0,x1,x2,zF _ x3⟩
theorem Pl.isKid {S:Ts} {nm:Nat→Str} {el:Nat→Nat} {n:Nat} (p:Pl S nm el n) {c:Nat} (c0:0 < c) (cn:c < n):nm c∈qbd S (nm (el c)):=by
 obtain⟨e,h1,h2,h3⟩:=p.get cn
 rw [if_neg (by omega)] at h3
 rw [←h2]
 exact zL.mpr ⟨e,yF.mpr ⟨zD h1,decide_eq_true h3⟩,rfl⟩
theorem flat_in {parts:List (Str × List Str)} {q:Str × List Str} {y:Str} (hq:q∈parts) (hy:y∈q.2):y∈flat parts:=yN.mpr ⟨q.2,zL.mpr ⟨q,hq,rfl⟩,hy⟩
theorem Pl.allBen {S:Ts} {nm:Nat→Str} {el:Nat→Nat} {n:Nat} (p:Pl S nm el n):∀(m j:Nat) (zs:List Str),j < n→Ben S m (nm j) zs→∀k,k < n→j∈qac el k→nm k∈zs:=by
 intro m
 induction m with
 |zero=>
  rintro j _ jn ⟨parts,hp,rfl,hb⟩ k kn hk
  by_cases c:j=k
  ·rw [c];exact zI ..
  ·obtain⟨x,x0,x1,x2,x3⟩:=line_kid p.low k kn hk c
   have z:=p.isKid x0 x1
   rw [x2] at z
   obtain⟨q,hq,_⟩:=zL.mp (hp.mem_iff.mpr z)
   exact(hb q hq).elim
 |succ m ih=>
  rintro j _ jn ⟨parts,hp,rfl,hb⟩ k kn hk
  by_cases c:j=k
  ·rw [c];exact zI ..
  ·obtain⟨x,x0,x1,x2,x3⟩:=line_kid p.low k kn hk c
   have z:=p.isKid x0 x1
   rw [x2] at z
   obtain⟨q,hq,e⟩:=zL.mp (hp.mem_iff.mpr z)
   have hB:=hb q hq
   rw [e] at hB
   exact zF _ (flat_in hq (ih x q.2 x1 hB k kn x3))
theorem Pl.benIff {S:Ts} {nm:Nat→Str} {el:Nat→Nat} {n:Nat} (p:Pl S nm el n) {m j:Nat} {zs:List Str} (jn:j < n) (h:Ben S m (nm j) zs) {k:Nat} (kn:k < n):nm k∈zs↔j∈qac el k:=by
 refine⟨fun hk=>?_,p.allBen m j zs jn h k kn⟩
 obtain⟨i,i1,i2,i3⟩:=p.ben m j zs jn h.part _ hk
 rw [p.inj k i kn i1 i2]
 exact i3
def bsV (bs:List Ob):List V:=bs.map fun b=> .ref b.o
def inZ (P:PL) (zs:List Str) (b:Ob):Bool:=decide (nmF P b.R.i∈zs)
def sp_holds_beneath (K:Frag) (d:Ad):Sp:=fun vs H Q _=>∃(t lh:Addr) (S:Ts) (P:PL) (bs:List Ob) (z:Str) (e:He),vs=[.ref t,.ref lh,.str z]∧qf5 d H t S∧WF S∧S.at z=some e∧Dep S 12 z∧H lh=some (.lst (bsV bs))∧bs.length≤63∧(∀b∈bs,ObAt d H P b)∧
 ∀(l:Addr) (zs:List Str) H',qaq H H'→H l=none→Ben S 12 z zs→H' l=some (.lst (bsV (bs.filter (inZ P zs))))→Q (.ref l) H'
include T in
theorem ok_holds_beneath:FnOk P w K mg base CX0 17 d.f_holds_beneath d.fd_holds_beneath ["tree","holds","house"] (sp_holds_beneath K d):=by
 refine T.F_holds_beneath.ok sc_holds_beneath (fun vs H Q E h=>?_) (fun cdv A outer s H vs Q E hr h=>?_)
 ·obtain⟨t,lh,S,P,bs,z,e,rfl,_⟩:=h;rfl
 obtain⟨t,lh,S,P,bs,z,e,rfl,hT,hW,ae,hD,hL,h63,hB,q⟩:=h
 have een:=(qc9 ae).2
 refine⟨_,(qa3 (qad (i:=3) sc_holds_beneath.nd rfl (Or.inr rfl) (qb5 (W:=fun _ _ _ _=>False) (pv 0) T.CL_Tree T.ME_Tree_beneath ((ok_Tree_beneath T).mono (by decide)) hr T.b_Tree_beneath .nil qfc (qa0 (pv 2) qa2)))
  (qa6 (qaj (qbp (caps:=[3]) (cn:=["names"]) (qb1 rfl rfl (by rfl) (by rfl) rfl ⟨rfl,trivial⟩ (by rfl) rfl ⟨⟨rfl,rfl,rfl,rfl,_,rfl⟩,trivial⟩ (by decide)) rfl (qax (pv 1)) (fun _ _ _ _=>(qec (qak qdc (qbh (pv 0) rfl) (pv 1) (by rfl)))) (fun _ _ _ _=>(pv 0)))))),?_⟩
 walk_at "d"
 try dsimp only [cxC]
 refine qaf (σ:=[some (.ref t),some (.ref lh),some (.str z),none]) rfl ?_
 have ct:=T.CL_Tree
 obtain⟨dx,ht⟩:=id hT.1
 left
 refine⟨t,S,.str z,rfl,hT,slim_of hW hT.2.2.2.2.1,.inl ⟨_,rfl⟩,fun e' he'=>?_,fun hn=>?_⟩
 rotate_left
 ·rw [show who S (.str z)=some e from ae] at hn;cases hn
 have ee:e=e':=Option.some.inj (ae.symm.trans he')
 subst ee
 rw [een]
 refine⟨hD,fun lb zs H1 s1 hlb elb hBen=>?_⟩
 have hL1:=s1 _ _ hL
 have hB1:∀b∈bs,ObAt d H1 P b:=fun b hb=>(hB b hb).same s1
 clear hT hD he' ht hL hB
 left
 intro C s0 H0 fp acc hacc
 refine qf7 bs.length (fun i H'=>H'=upd H1 acc (.lst (bsV ((bs.take i).filter (inZ P zs))))) rfl ?_ ?_ ?_ ?_
 ·rintro i H' hi rfl
  exact⟨_,.ref bs[i].o,SqL.of (qa4 hL1 hacc),by unfold bsV;rw [zC,zA hi];rfl⟩
 ·rintro H' rfl
  exact⟨_,SqL.of (qa4 hL1 hacc),by unfold bsV;rw [zB];exact Nat.le_refl _⟩
 ·rintro i H' v H'' hi rfl ⟨rfl,hy⟩
  have hv:=hy _ (SqL.of (qa4 hL1 hacc))
  unfold bsV at hv
  rw [zC,zA hi] at hv
  cases hv
  have hb:=hB1 _ (zJ hi)
  have tk:bs.take (i+1)=bs.take i++ [bs[i]]:=by rw [zQ,zA hi];rfl
  generalize hbi:bs[i]=b at*
  obtain⟨dx,hbo⟩:=hb.obj
  have hbo':=qa4 (o':=.lst (bsV ((bs.take i).filter (inZ P zs)))) hbo hacc
  have elb':=qa4 (o':=.lst (bsV ((bs.take i).filter (inZ P zs)))) elb hacc
  obtain⟨cl,n1,n2,n3,n4,n5⟩:=clsOk T b.R.s
  have zl:(bsV ((bs.take i).filter (inZ P zs))).length < sizeLine:=by
   unfold bsV
   rw [zB]
   have h1:=zU (inZ P zs) (bs.take i)
   rw [zT] at h1
   show _ < 16777216
   omega
  left
  refine r_inSs (SqL.of elb') ?_
  by_cases m:nmF P b.R.i∈zs
  ·rw [decide_eq_true m]
   left
   rw [qbb,tk,yC,zY,if_pos (show inZ P zs b=true from decide_eq_true m)]
   congr 2
   unfold bsV
   rw [zE];rfl
  ·rw [decide_eq_false m]
   left
   rw [tk,yC,zY,if_neg (show ¬inZ P zs b=true by rw [show inZ P zs b=false from decide_eq_false m];decide),yP,yD]
 rintro H' rfl
 rw [zV]
 left
 exact q acc zs _ (s1.trans (qa8 hacc _)) (s1.free hacc) hBen qa1
def obPt (b:Ob):Pt:=⟨b.m,b.R.k,b.R.f⟩
def sp_held_by (K:Frag) (d:Ad):Sp:=fun vs H Q _=>∃(lh:Addr) (P:PL) (bs:List Ob),vs=[.ref lh]∧H lh=some (.lst (bsV bs))∧bs.length≤63∧P.ws.length≤3∧(∀b∈bs,ObAt d H P b)∧
 ∀(l:Addr) (k:List (Key × V)) H',qaq H H'→H l=none→H' l=some (.dK k)→AD k (sumF (bs.map obPt))→Q (.ref l) H'
include T in
theorem ok_held_by:FnOk P w K mg base CX0 4 d.f_held_by d.fd_held_by ["holds"] (sp_held_by K d):=by
 refine T.F_held_by.ok sc_held_by (fun vs H Q E h=>?_) (fun cdv A outer s H vs Q E hr h=>?_)
 ·obtain⟨lh,P,bs,rfl,_⟩:=h;rfl
 obtain⟨lh,P,bs,rfl,hL,h63,w3,hB,q⟩:=h
 refine⟨_,(qa6 (qaj (qaa ((ok_total_of T).mono (by decide)) hr rfl T.m_total_of T.F_total_of.kp T.b_total_of .nil qag (qa0 (qbp (caps:=[]) (cn:=[]) (qb1 rfl rfl (by rfl) (by rfl) rfl trivial (by rfl) rfl trivial (by decide)) rfl (qax (pv 0)) (fun _ _ _ _=>qcj) (fun _ _ _ _=>(qbh (pv 0) rfl))) qa2)))),?_⟩
 walk_at "d"
 try dsimp only [cxC]
 refine qaf (σ:=[some (.ref lh)]) rfl ?_
 left
 intro C s0 H0 fp acc hacc
 refine qf7 bs.length (fun i H'=>H'=upd H acc (.lst (((bs.take i).map obPt).map fun u=> .ref u.a))) rfl ?_ ?_ ?_ ?_
 ·rintro i H' hi rfl
  exact⟨_,.ref bs[i].o,SqL.of (qa4 hL hacc),by unfold bsV;rw [zC,zA hi];rfl⟩
 ·rintro H' rfl
  exact⟨_,SqL.of (qa4 hL hacc),by unfold bsV;rw [zB];exact Nat.le_refl _⟩
 ·rintro i H' v H'' hi rfl ⟨rfl,hy⟩
  have hv:=hy _ (SqL.of (qa4 hL hacc))
  unfold bsV at hv
  rw [zC,zA hi] at hv
  cases hv
  have hb:=hB _ (zJ hi)
  have tk:bs.take (i+1)=bs.take i++ [bs[i]]:=by rw [zQ,zA hi];rfl
  generalize hbi:bs[i]=b at*
  obtain⟨dx,hbo⟩:=hb.obj
  have hbo':=qa4 (o':=.lst (((bs.take i).map obPt).map fun u=> .ref u.a)) hbo hacc
  obtain⟨cl,n1,n2,n3,n4,n5⟩:=clsOk T b.R.s
  left
  rw [qbb,tk,zE,zE]
  rfl
 rintro H' rfl
 rw [zV]
 have s2:=qa8 hacc (.lst ((bs.map obPt).map fun u=>V.ref u.a))
 have eN:upd H acc (.lst ((bs.map obPt).map fun u=>V.ref u.a)) acc=some (.lst ((bs.map obPt).map fun u=>V.ref u.a)):=qa1
 left
 refine⟨acc,bs.map obPt,P.ws,rfl,SqL.of eN,by omega,fun u hu=>?_,fun l k' H2 s3 hl el hA=>q l k' H2 (s2.trans s3) (s2.free hl) el hA⟩
 obtain⟨b,hb,rfl⟩:=zL.mp hu
 have hb':=hB b hb
 exact⟨s2 _ _ hb'.amt,hb'.ad,hb'.inw⟩
def sp_used (K:Frag) (d:Ad):Sp:=fun vs H Q _=>∃(t lh:Addr) (S:Ts) (P:PL) (bs:List Ob) (z:Str) (e:He),vs=[.ref t,.ref lh,.str z]∧qf5 d H t S∧WF S∧S.at z=some e∧Dep S 12 z∧H lh=some (.lst (bsV bs))∧bs.length≤63∧P.ws.length≤3∧(∀b∈bs,ObAt d H P b)∧
 ∀(l:Addr) (zs:List Str) (k:List (Key × V)) H',qaq H H'→H l=none→Ben S 12 z zs→H' l=some (.dK k)→AD k (sumF ((bs.filter (inZ P zs)).map obPt))→Q (.ref l) H'
include T in
theorem ok_used:FnOk P w K mg base CX0 18 d.f_used d.fd_used ["tree","holds","house"] (sp_used K d):=by
 refine T.F_used.ok sc_used (fun vs H Q E h=>?_) (fun cdv A outer s H vs Q E hr h=>?_)
 ·obtain⟨t,lh,S,P,bs,z,e,rfl,_⟩:=h;rfl
 obtain⟨t,lh,S,P,bs,z,e,rfl,hT,hW,ae,hD,hL,h63,w3,hB,q⟩:=h
 refine⟨_,(qa6 (qaj (qaa ((ok_held_by T).mono (by decide)) hr rfl T.m_held_by T.F_held_by.kp T.b_held_by .nil qag (qa0 (qaa ((ok_holds_beneath T).mono (by decide)) hr rfl T.m_holds_beneath T.F_holds_beneath.kp T.b_holds_beneath .nil qag (qa0 (pv 0) (qa0 (pv 1) (qa0 (pv 2) qa2)))) qa2)))),?_⟩
 walk_at "d"
 refine qaf (σ:=[some (.ref t),some (.ref lh),some (.str z)]) rfl ?_
 left
 refine⟨t,lh,S,P,bs,z,e,rfl,hT,hW,ae,hD,hL,h63,hB,fun l zs H1 s1 hl hBen el=>?_⟩
 left
 refine⟨l,P,_,rfl,el,Nat.le_trans (zU ..) h63,w3,fun b hb=>(hB b (yF.mp hb).1).same s1,fun l2 k H2 s2 hl2 el2 hA=>?_⟩
 exact q l2 zs k H2 (s1.trans s2) (s1.free hl2) hBen el2 hA
theorem inV_nat {k:Nat}:∀L:List Nat,inV (.int ((k:Nat):Int)) (L.map iV)=decide (k∈L)
 | []=>rfl
 |z :: r=>by
  have ih:=inV_nat (k:=k) r
  unfold inV at ih ⊢
  rw [zS,yW,ih]
  by_cases c:z=k
  ·subst c
   rw [show eqV (iV z) (V.int ((z:Nat):Int))=true from beq_self_eq_true _,decide_eq_true (zI ..)]
   rfl
  ·rw [show eqV (iV z) (V.int ((k:Nat):Int))=false from beq_false_of_ne fun e=>c (by omega),Bool.false_or]
   by_cases m:k∈r
   ·rw [decide_eq_true m,decide_eq_true (zF _ m)]
   ·rw [decide_eq_false m,decide_eq_false fun h=>(zR.mp h).elim (fun e=>c e.symm) m]
theorem flat_nats (L:List Nat):(L.map iV).all qdn=true:=by
 rw [List.all_map]
 exact yE.mpr fun _ _=>rfl
theorem r_inN {K:Frag} {H:Hp} {Q:VK} {p:Addr} {k:Nat} {ki:Int} {L:List Nat} (h:SqL K H p (L.map iV)) (e:((k:Nat):Int)=ki) (q:Q (.bl (decide (k∈L))) H):rIn K false (.int ki) (.ref p) H Q:=⟨p,_,rfl,.inl h,rfl,flat_nats L,by rw [←e,inV_nat];exact q⟩
theorem ObAt.put {d:Ad} {H:Hp} {P:PL} {b:Ob} {q:Addr} {o:HO} (h:ObAt d H P b) (n1:b.o≠q) (n2:b.m≠q):ObAt d (upd H q o) P b:=⟨let ⟨dx,e⟩:=h.obj;⟨dx,by rw [qa9 n1];exact e⟩,by rw [qa9 n2];exact h.amt,h.ad,h.inw,h.il⟩
def sp_cell (K:Frag) (d:Ad):Sp:=fun vs H Q _=>∃(a:Addr) (ns:List Int) (k:Int),vs=[.ref a,.int k]∧SqL K H a (ns.map V.int)∧0≤k∧k≤1000∧ns.length≤63∧∀c:Int,Q (.int c) H
def sp_mix (K:Frag) (d:Ad):Sp:=fun vs H Q _=>∃c k m:Int,vs=[.int c,.int k,.int m]∧0≤k∧k≤100000∧1≤m∧m≤100000∧∀r:Int,0≤r→r < m→Q (.int r) H
section
variable {K : Frag} {d : Ad} {H : Hp} {Q : VK} {E : XK}
theorem qbm {c k m:Int} (k0:0≤k) (k1:k≤100000) (m0:1≤m) (m1:m≤100000) (q:∀r:Int,0≤r→r < m→Q (.int r) H):sp_mix K d [.int c,.int k,.int m] H Q E:=⟨c,k,m,rfl,k0,k1,m0,m1,q⟩
end
include T in
theorem ok_cell:FnOk P w K mg base CX0 1 d.f_cell d.fd_cell ["_law_script","_law_k"] (sp_cell K d):=by
 refine T.F_cell.ok sc_cell (fun vs H Q E h=>?_) (fun cdv A outer s H vs Q E hr h=>?_)
 ·obtain⟨a,ns,k,rfl,_⟩:=h;rfl
 obtain⟨a,ns,k,rfl,hS,k0,k1,hn,q⟩:=h
 refine⟨_,(qa3 (qbc (qak op_lt (pv 1) (qae qau rfl T.z_len PySem.boot_len (qa0 (pv 0) qa2)) (qap _)) (qa6 (qaj (qal qai (pv 0) (pv 1) (fun _ _=>rfl)))) qan)
  (qa3 (qad (i:=2) sc_cell.nd rfl (Or.inl rfl) (qah qas (qah qbj qa5 (pv 1)) qa5))
  (qa3 (qce (qbc (qak qf9 (qae qau rfl T.z_len PySem.boot_len (qa0 (pv 0) qa2)) qa5 (qap _)) (qa6 (qad (i:=2) sc_cell.nd rfl (Or.inl rfl) (qah qas (pv 2) (qah qbj (qah qc3 (qal qai (pv 0) (qah qc3 (qah qas (qah qbj (pv 1) (pv 1)) qa5) (qae qau rfl T.z_len PySem.boot_len (qa0 (pv 0) qa2))) (fun _ _=>rfl)) qa5) (qah qas (pv 1) qa5))))) qan))
  (qa6 (qaj (qah qc3 (qah qas (qah qbj (pv 2) qa5) (qah qbj qa5 (pv 1))) qa5)))))),?_⟩
 walk_at "d"
 refine qaf (σ:=[some (.ref a),some (.int k),none]) rfl ?_
 left
 have hl:(ns.map V.int).length=ns.length:=zB _
 refine i_2 (fun c=>?_) (fun c=>?_)
 ·rw [hl] at c
  left
  refine qb0 hS (cell_at k0 c) ?_
  left
  exact q _
 ·have ks:k.natAbs < 2^600:=Nat.lt_of_le_of_lt (show k.natAbs≤1000 by omega) (by decide)
  left
  refine qek (fun σ' H'=>H'=H∧∃m:Int,σ'=[some (.ref a),some (.int k),some (.int m)]∧m.natAbs < 2^600) ?_ ?_
  ·left
   rw [hl]
   refine i_2 (fun c2=>?_) (fun c2=>?_)
   ·left
    rw [hl]
    have e0:=Int.emod_nonneg (k*k+1) (show ((ns.length:Nat):Int)≠0 by omega)
    have e1:=Int.emod_lt_of_pos (k*k+1) (show (0:Int) <((ns.length:Nat):Int) by omega)
    generalize (k*k+1)%((ns.length:Nat):Int)=r at*
    left
    refine qb0 hS (cell_at e0 e1) ?_
    generalize cell ns r=x
    left
    have f0:=Int.emod_nonneg x (show (1000003:Int)≠0 by decide)
    have f1:=Int.emod_lt_of_pos x (show (0:Int) < 1000003 by decide)
    generalize x%1000003=y at*
    left
    refine⟨rfl,_,rfl,?_⟩
    have:y*(k+1)≤1000003*1001:=Int.mul_le_mul (by omega) (by omega) (by omega) (by decide)
    have:0≤y*(k+1):=Int.mul_nonneg f0 (by omega)
    exact Nat.lt_of_le_of_lt (show _≤10^12 by omega) (by decide)
   ·left
    exact⟨rfl,_,rfl,Nat.lt_of_le_of_lt (show _≤10^12 by omega) (by decide)⟩
  ·rintro σ' H' ⟨rfl,m,rfl,hm⟩
   left
   exact q _
include T in
theorem ok_mix:FnOk P w K mg base CX0 1 d.f_mix d.fd_mix ["_law_cell_here","_law_k","_law_many"] (sp_mix K d):=by
 refine T.F_mix.ok sc_mix (fun vs H Q E h=>?_) (fun cdv A outer s H vs Q E hr h=>?_)
 ·obtain⟨c,k,m,rfl,_⟩:=h;rfl
 obtain⟨c,k,m,rfl,k0,k1,m0,m1,q⟩:=h
 refine⟨_,(qa3 (qad (i:=3) sc_mix.nd rfl (Or.inl rfl) (qah qc3 (qah qas (qah qc3 (pv 0) qa5) (qah qbj qa5 (pv 1))) qa5))
  (qa3 (qad (i:=3) sc_mix.nd rfl (Or.inl rfl) (qah qc3 (qah qbj (qah qc3 (qah qbj (pv 3) (pv 3)) qa5) qa5) qa5))
  (qa6 (qaj (qah qc3 (qah qcm (pv 3) qa5) (pv 2)))))),?_⟩
 walk_at "d"
 refine qaf (σ:=[some (.int c),some (.int k),some (.int m),none]) rfl ?_
 left
 have a0:=Int.emod_nonneg (c%2147483629+104729*k) (show (2147483629:Int)≠0 by decide)
 have a1:=Int.emod_lt_of_pos (c%2147483629+104729*k) (show (0:Int) < 2147483629 by decide)
 generalize (c%2147483629+104729*k)%2147483629=u at*
 left
 have n0:=Int.emod_nonneg (u*u) (show (2147483629:Int)≠0 by decide)
 have n1:=Int.emod_lt_of_pos (u*u) (show (0:Int) < 2147483629 by decide)
 generalize u*u%2147483629=y at*
 left
 exact q _ (Int.emod_nonneg _ (by omega)) (Int.emod_lt_of_pos _ (by omega))
def stpJ (c:Int) (j:Nat):Int:=(c.fdiv 256%1000003).fdiv (0+(j:Int)+1)+(0+(j:Int))*(0+(j:Int))
def nmJ (c A S k:Int) (j:Nat):Nat:=letc (if 0+(j:Int)=A then stpJ c j+S*k else stpJ c j)
def nmB (c A S:Int) (L:Nat) (k:Nat):List Nat:=(List.range L).map (nmJ c A S (0+(k:Int)))
def nmD (c A S:Int) (L:Nat) (k:Nat):List Nat:=nmB c A S L (k - 1)++ [letc (c.fdiv 1536+(k:Int))]
def nmE (c A S:Int) (L b:Nat) (k:Nat):Str:=if k%2=1∧k < b then ofL (nmD c A S L k) else ofL (nmB c A S L k)
theorem qbs (c A S:Int) (L k:Nat):(nmB c A S L k).length=L:=by unfold nmB;rw [zB,yJ]
theorem nmB_isL (c A S:Int) (L k:Nat):∀x∈nmB c A S L k,isL x=true:=fun x hx=>by
 unfold nmB at hx
 obtain⟨j,_,rfl⟩:=zL.mp hx
 exact letc_isL _
theorem nmB_inj {c A S:Int} {L k k':Nat} (a0:0≤A) (a1:A < L) (hS:S=1∨S=7∨S=11∨S=25) (h0:k≤12) (h1:k'≤12) (h:nmB c A S L k=nmB c A S L k'):k=k':=by
 have hj:=congrArg (fun l:List Nat=>l[A.toNat]?) h
 unfold nmB at hj
 simp only [zC] at hj
 rw [List.getElem?_range (by omega)] at hj
 have hj':nmJ c A S (0+(k:Int)) A.toNat=nmJ c A S (0+(k':Int)) A.toNat:=by simpa using hj
 unfold nmJ at hj'
 rw [if_pos (by omega),if_pos (by omega)] at hj'
 have z:=letc_inj hj'
 generalize stpJ c A.toNat=x at z
 rcases hS with rfl|rfl|rfl|rfl <;> omega
theorem good_ofL {l:List Nat} (h1:1≤l.length) (h8:l.length≤8) (h:∀x∈l,isL x=true):qdu (ofL l)=true:=by
 unfold qdu
 rw [qe6,qf0,Bool.and_eq_true,Bool.and_eq_true,decide_eq_true_iff,decide_eq_true_iff,yE]
 exact⟨⟨h1,h8⟩,h⟩
theorem nmE_good {c A S:Int} {L b k:Nat} (l0:1≤L) (l1:L≤8) (lb:b=0∨L < 8):qdu (nmE c A S L b k)=true:=by
 unfold nmE
 split
 ·rename_i hc
  refine good_ofL ?_ ?_ fun x hx=>?_
  ·unfold nmD;rw [zG,qbs];omega
  ·unfold nmD;rw [zG,qbs];show L+1≤8;omega
  ·unfold nmD at hx
   rcases zN.mp hx with h|h
   ·exact nmB_isL _ _ _ _ _ x h
   ·rw [zH.mp h];exact letc_isL _
 ·exact good_ofL (by rw [qbs];exact l0) (by rw [qbs];exact l1) (nmB_isL _ _ _ _ _)
theorem nmE_inj {c A S:Int} {L b k k':Nat} (a0:0≤A) (a1:A < L) (hS:S=1∨S=7∨S=11∨S=25) (h0:k≤12) (h1:k'≤12) (h:nmE c A S L b k=nmE c A S L b k'):k=k':=by
 unfold nmE at h
 split at h <;> split at h
 ·rename_i c1 c2
  have z:=qg3 h
  unfold nmD at z
  have:=nmB_inj a0 a1 hS (by omega) (by omega) (List.append_inj_left z (by rw [qbs,qbs]))
  omega
 ·have z:=congrArg List.length (qg3 h)
  unfold nmD at z
  rw [zG,qbs,qbs,yA] at z
  omega
 ·have z:=congrArg List.length (qg3 h)
  unfold nmD at z
  rw [zG,qbs,qbs,yA] at z
  omega
 ·exact nmB_inj a0 a1 hS h0 h1 (qg3 h)
theorem nmE_nodup {c A S:Int} {L b n:Nat} (a0:0≤A) (a1:A < L) (hS:S=1∨S=7∨S=11∨S=25) (hn:n≤12):((List.range n).map (nmE c A S L b)).Nodup:=by
 show List.Pairwise _ _
 rw [List.pairwise_map]
 refine List.Pairwise.imp_of_mem (R:=fun a b=>a < b) (fun {x y} hx hy lt e=>?_) List.pairwise_lt_range
 have h1:=yV.mp hx
 have h2:=yV.mp hy
 have:=nmE_inj a0 a1 hS (by omega) (by omega) e
 omega
theorem nmE_zero (c A S:Int) (L k:Nat):nmE c A S L 0 k=ofL (nmB c A S L k):=by unfold nmE;rw [if_neg (by omega)]
structure Nms (ss:List Str) (n:Nat):Prop where
 len:ss.length=n
 nd:ss.Nodup
 good:∀z∈ss,qdu z=true
 sh:∀(y z:Str),ss[0]?=some y→z∈ss→z.length≤y.length+1
theorem nmE_len (c A S:Int) (L b k:Nat):(nmE c A S L b k).length≤L+1:=by
 unfold nmE
 split
 ·rw [qe6];unfold nmD;rw [zG,qbs];exact Nat.le_refl _
 ·rw [qe6,qbs];exact Nat.le_succ _
theorem nmE_len0 (c A S:Int) (L b:Nat):(nmE c A S L b 0).length=L:=by
 unfold nmE
 rw [if_neg (by omega),qe6,qbs]
theorem nmE_nms {c A S:Int} {L b n:Nat} (a0:0≤A) (a1:A < L) (hS:S=1∨S=7∨S=11∨S=25) (hn:n≤12) (l0:1≤L) (l1:L≤8) (lb:b=0∨L < 8):Nms ((List.range n).map (nmE c A S L b)) n:=
 ⟨by rw [zB,yJ],nmE_nodup a0 a1 hS hn,fun z hz=>by
  obtain⟨k,_,rfl⟩:=zL.mp hz
  exact nmE_good l0 l1 lb,fun y z h0 hz=>by
  obtain⟨k,_,rfl⟩:=zL.mp hz
  rw [zC] at h0
  obtain⟨k0,hk0,rfl⟩:=Option.map_eq_some_iff.mp h0
  have e0:k0=0:=by
   obtain⟨h1,h2⟩:=List.getElem?_eq_some_iff.mp hk0
   rw [List.getElem_range] at h2
   exact h2.symm
  rw [e0,nmE_len0]
  exact nmE_len _ _ _ _ _ _⟩
def sp_names (K:Frag) (d:Ad):Sp:=fun vs H Q _=>∃c m:Int,vs=[.int c,.int m]∧1≤m∧m≤12∧∀(l:Addr) (ss:List Str) (H':Hp),qaq H H'→H' l=some (.lst (ss.map V.str))→Nms ss m.toNat→Q (.ref l) H'
include T in
theorem ok_names:FnOk P w K mg base CX0 1 d.f_names d.fd_names ["_law_cell_here","_law_many"] (sp_names K d):=by
 refine T.F_names.ok sc_names (fun vs H Q E h=>?_) (fun cdv A outer s H vs Q E hr h=>?_)
 ·obtain⟨c,m,rfl,_⟩:=h;rfl
 obtain⟨c,m,rfl,m0,m1,q⟩:=h
 refine⟨_,(qa3 (qad (i:=2) sc_names.nd rfl (Or.inl rfl) qck)
  (qa3 (qad (i:=3) sc_names.nd rfl (Or.inl rfl) (qah qas qa5 (qah qc3 (pv 0) qa5)))
  (qa3 (qad (i:=4) sc_names.nd rfl (Or.inl rfl) (qah qc3 (qah qcm (pv 0) qa5) (pv 3)))
  (qa3 (qad (i:=5) sc_names.nd rfl (Or.inl rfl) (qal qai (qbe (qa0 qa5 (qa0 qa5 (qa0 qa5 (qa0 qa5 qa2))))) (qah qc3 (qah qcm (pv 0) qa5) qa5) (fun _ _=>rfl)))
  (qa3 (qad (i:=6) sc_names.nd rfl (Or.inl rfl) (qbe qa2))
  (qa3 (qb2 PassesOwn.never rfl (qb8 rfl T.z_range (qa0 (pv 1) qa2)) (qam (i:=7) sc_names.nd rfl (Or.inl rfl)) (qa3 (qad (i:=8) sc_names.nd rfl (Or.inl rfl) qck)
  (qa3 (qb2 PassesOwn.never rfl (qb8 rfl T.z_range (qa0 (pv 3) qa2)) (qam (i:=9) sc_names.nd rfl (Or.inl rfl)) (qa3 (qad (i:=10) sc_names.nd rfl (Or.inl rfl) (qah qas (qah qcm (qah qc3 (qah qcm (pv 0) qa5) qa5) (qah qas (pv 9) qa5)) (qah qbj (pv 9) (pv 9))))
  (qa3 (qce (qbc (qak qd3 (pv 9) (pv 4) (qap _)) (qa6 (qad (i:=10) sc_names.nd rfl (Or.inl rfl) (qah qas (pv 10) (qah qbj (pv 5) (pv 7))))) qan))
  (qa6 (qad (i:=8) sc_names.nd rfl (Or.inl rfl) (qah qg2 (pv 8) (qal ix_str (pv 2) (qah qc3 (pv 10) qa5) (fun _ _=>rfl))))))))
  (qa6 (qay (qd2 PySem.F.plainAttrs_list PySem.F.slot_list_append PySem.F.type_list_append qat (pv 6) (qa0 (pv 8) qa2)))))))
  (qa3 (qce (qbc (PW.pt (pw_and (qak qd3 (qah qc3 (qah qcm (pv 0) qa5) qa5) qa5 (qap _)) (pw_and1 (qak op_lt (pv 3) qa5 (qap _))))) (qa6 (qb2 PassesOwn.never rfl (pi_range3 rfl T.z_range (qa0 qa5 (qa0 (pv 1) (qa0 qa5 qa2)))) (qam (i:=7) sc_names.nd rfl (Or.inl rfl)) (qa6 (ps_lput (pv 6) (pv 7) (qah qg2 (qal qai (pv 6) (qah qed (pv 7) qa5) (fun _ _=>rfl)) (qal ix_str (pv 2) (qah qc3 (qah qas (qah qcm (pv 0) qa5) (pv 7)) qa5) (fun _ _=>rfl))) rfl)))) qan))
  (qa6 (qaj (pv 6)))))))))),?_⟩
 walk_at "d"
 refine qaf (σ:=[some (.int c),some (.int m),none,none,none,none,none,none,none,none,none]) rfl ?_
 left
 rename_i pS hpS
 have l0:=Int.emod_nonneg c (show (8:Int)≠0 by decide)
 have l1:=Int.emod_lt_of_pos c (show (0:Int) < 8 by decide)
 obtain⟨L,eL⟩:∃L:Nat,1+c%8=(L:Int):=⟨(1+c%8).toNat,by omega⟩
 have L1:1≤L:=by omega
 have L8:L≤8:=by omega
 rw [eL]
 have A0:=Int.emod_nonneg (c.fdiv 8) (show ((L:Nat):Int)≠0 by omega)
 have A1:=Int.emod_lt_of_pos (c.fdiv 8) (show (0:Int) <((L:Nat):Int) by omega)
 generalize c.fdiv 8%((L:Nat):Int)=A at*
 refine qff (xs:=[1,7,11,25]) (SqL.of qa1) (Int.emod_nonneg _ (by decide)) (by show _ <(4:Int);exact Int.emod_lt_of_pos _ (by decide)) fun S hS=>?_
 have hS:S=1∨S=7∨S=11∨S=25:=by simpa using hS
 have Ss:S.natAbs < 2^600:=Nat.lt_of_le_of_lt (show S.natAbs≤25 by omega) (by decide)
 have e1:((L:Nat):Int).toNat=L:=by omega
 clear l0 l1 eL
 left
 rename_i nl hnl
 have s1:=qa8 hpS (.lst [.int 1,.int 7,.int 11,.int 25])
 generalize upd H pS (.lst [.int 1,.int 7,.int 11,.int 25])=H1 at*
 have hn0:H nl=none:=s1.free hnl
 generalize hLi:((L:Nat):Int)=Li at*
 refine qby (fun i σ H'=>∃(w1 w2 w3 w4:Option V),σ=[some (V.int c),some (V.int m),some (V.str ABC),some (V.int Li),some (V.int A),some (V.int S),some (V.ref nl),w1,w2,w3,w4]∧qaq H H'∧H' nl=some (.lst (((List.range i).map (nmE c A S L 0)).map V.str)))
  ⟨_,_,_,_,rfl,s1.trans (qa8 hnl _),qa1⟩ ?_ ?_
 ·rintro i σ H' hi ⟨w1,w2,w3,w4,rfl,sm,en⟩
  have ki:((0:Int)+(i:Int)).natAbs < 2^600:=Nat.lt_of_le_of_lt (show ((0:Int)+(i:Int)).natAbs≤12 by omega) (by decide)
  left
  rw [e1]
  refine qby (fun j σ H2=>H2=H'∧∃(w3 w4:Option V),σ=[some (V.int c),some (V.int m),some (V.str ABC),some (V.int Li),some (V.int A),some (V.int S),some (V.ref nl),some (V.int (0+(i:Int))),some (V.str (ofL ((List.range j).map (nmJ c A S (0+(i:Int)))))),w3,w4])
   ⟨rfl,_,_,rfl⟩ ?_ ?_
  ·rintro j σ H2 hj ⟨rfl,w3,w4,rfl⟩
   have kj:((0:Int)+(j:Int)).natAbs < 2^600:=Nat.lt_of_le_of_lt (show ((0:Int)+(j:Int)).natAbs≤8 by omega) (by decide)
   have lz:(ofL ((List.range j).map (nmJ c A S (0+(i:Int))))).length=j:=by rw [qe6,zB,yJ]
   have ee:(List.range (j+1)).map (nmJ c A S (0+(i:Int)))=(List.range j).map (nmJ c A S (0+(i:Int)))++ [nmJ c A S (0+(i:Int)) j]:=by rw [List.range_succ,zE];rfl
   have eJ:nmJ c A S (0+(i:Int)) j=letc (if 0+(j:Int)=A then stpJ c j+S*(0+(i:Int)) else stpJ c j):=rfl
   generalize hzw:ofL ((List.range j).map (nmJ c A S (0+(i:Int))))=zw at*
   left
   refine qek (fun σ' H3=>H3=H2∧σ'=[some (V.int c),some (V.int m),some (V.str ABC),some (V.int Li),some (V.int A),some (V.int S),some (V.ref nl),some (V.int (0+(i:Int))),some (V.str zw),some (V.int (0+(j:Int))),some (V.int (if 0+(j:Int)=A then stpJ c j+S*(0+(i:Int)) else stpJ c j))]) ?_ ?_
   ·left
    refine i_2 (fun c2=>?_) (fun c2=>?_)
    ·rw [if_pos c2]
     left
     exact⟨rfl,rfl⟩
    ·rw [if_neg c2]
     left
     exact⟨rfl,rfl⟩
   ·rintro σ' H3 ⟨rfl,rfl⟩
    left
    refine r_ixS (by decide) (letAt _) ?_
    refine r_catS ?_ ?_
    ·rw [lz];show _+1≤16777216;omega
    left
    have ez:ofL ((List.range (j+1)).map (nmJ c A S (0+(i:Int))))=zw++⟨#[letc (if 0+(j:Int)=A then stpJ c j+S*(0+(i:Int)) else stpJ c j)]⟩:=by rw [ee,eJ,←ofL_snoc,hzw]
    rw [ez]
    exact⟨rfl,_,_,rfl⟩
  ·rintro σ H2 ⟨rfl,w3,w4,rfl⟩
   have hss:(((List.range i).map (nmE c A S L 0)).map V.str).length < sizeLine:=by
    rw [zB,zB,yJ];show _ < 16777216;omega
   left
   refine⟨_,_,_,_,rfl,qav sm hn0,?_⟩
   rw [qa1,List.range_succ,zE,zE]
   have:nmE c A S L 0 i=ofL ((List.range L).map (nmJ c A S (0+(i:Int)))):=nmE_zero c A S L i
   rw [List.map_singleton,List.map_singleton,this]
 ·rintro σ H' ⟨w1,w2,w3,w4,rfl,sm,en⟩
  left
  refine qek (fun σ' H2=>∃(ss:List Str) (w1 w2 w3 w4:Option V),σ'=[some (V.int c),some (V.int m),some (V.str ABC),some (V.int Li),some (V.int A),some (V.int S),some (V.ref nl),w1,w2,w3,w4]∧qaq H H2∧H2 nl=some (.lst (ss.map V.str))∧Nms ss m.toNat) ?_ ?_
  ·have fin:∃(ss':List Str) (w1' w2' w3' w4':Option V), [some (V.int c),some (V.int m),some (V.str ABC),some (V.int Li),some (V.int A),some (V.int S),some (V.ref nl),w1,w2,w3,w4]=[some (V.int c),some (V.int m),some (V.str ABC),some (V.int Li),some (V.int A),some (V.int S),some (V.ref nl),w1',w2',w3',w4']∧qaq H H'∧H' nl=some (.lst (ss'.map V.str))∧Nms ss' m.toNat:=
    ⟨_,_,_,_,_,rfl,sm,en,nmE_nms A0 (by omega) hS (by omega) L1 L8 (.inl rfl)⟩
   left
   refine i_2 (fun c1=>?_) (fun c1=>?_)
   ·left
    refine i_2 (fun c2=>?_) (fun c2=>?_)
    ·left
     refine r_iR3 ?_
     left
     refine r_itS2 (by decide) (by decide) (by omega) (by omega) ?_
     refine f_rngS (fun i σ H2=>∃(w1 w2 w3 w4:Option V),σ=[some (V.int c),some (V.int m),some (V.str ABC),some (V.int Li),some (V.int A),some (V.int S),some (V.ref nl),w1,w2,w3,w4]∧qaq H H2∧H2 nl=some (.lst (((List.range m.toNat).map (nmE c A S L (2*i))).map V.str)))
      ⟨_,_,_,_,rfl,sm,en⟩ ?_ ?_
     ·rintro i σ H2 hi ⟨w1,w2,w3,w4,rfl,sm,en⟩
      have hc:i < cntS 1 m:=hi
      unfold cntS at hc
      have h1:i*2 < m.toNat:=by omega
      have h2:i*2+1 < m.toNat:=by omega
      have eB:nmE c A S L (2*i) (i*2)=ofL (nmB c A S L (i*2)):=by unfold nmE;rw [if_neg (by omega)]
      left
      refine qb0 (SqL.of en) (v:=.str (ofL (nmB c A S L (i*2)))) ?_ ?_
      ·rw [show (1:Int)+(i:Int)*2 - 1=((i*2:Nat):Int) by omega,←eB]
       exact qar (by rw [zC,zC,List.getElem?_range h1];rfl)
      left
      refine r_ixS (by decide) (letAt _) ?_
      refine r_catS ?_ ?_
      ·rw [qe6,qbs];show _+1≤16777216;omega
      left
      refine r_lpk en (k:=i*2+1) (by rw [zB,zB,yJ];exact h2) ?_ (by omega)
      left
      refine⟨_,_,_,_,rfl,qav sm hn0,?_⟩
      rw [qa1]
      refine congrArg (fun l=>some (HO.lst l)) ?_
      rw [ofL_snoc,show nmB c A S L (i*2)++ [letc (c.fdiv 1536+(1+(i:Int)*2))]=nmD c A S L (i*2+1) by unfold nmD;rw [show i*2+1 - 1=i*2 by omega,show ((i*2+1:Nat):Int)=1+(i:Int)*2 by omega]]
      rw [←List.map_set]
      refine congrArg (List.map V.str) (List.ext_getElem (by rw [List.length_set,zB,zB]) fun j g1 g2=>?_)
      rw [List.getElem_set,yR,yR,List.getElem_range]
      by_cases ej:i*2+1=j
      ·rw [if_pos ej,←ej]
       unfold nmE
       rw [if_pos (by omega)]
      ·rw [if_neg ej]
       unfold nmE
       by_cases cj:j%2=1∧j < 2*i
       ·rw [if_pos cj,if_pos (by omega)]
       ·rw [if_neg cj,if_neg (by omega)]
     ·rintro σ H2 ⟨w1,w2,w3,w4,rfl,sm,en⟩
      left
      exact⟨_,_,_,_,_,rfl,sm,en,nmE_nms A0 (by omega) hS (by omega) L1 L8 (.inr (by omega))⟩
    ·left
     exact fin
   ·left
    exact fin
  ·rintro σ' H2 ⟨ss,w1,w2,w3,w4,rfl,sm,en,hl⟩
   left
   exact q nl ss H2 sm en hl
def sp_elders (K:Frag) (d:Ad):Sp:=fun vs H Q _=>∃(a:Addr) (ns:List Int) (st:Int) (n:Nat),vs=[.ref a,.int st,.int (n:Int)]∧SqL K H a (ns.map V.int)∧ns.length≤63∧0≤st∧st≤100∧1≤n∧n≤12∧
 ∀(l:Addr) (es:List Nat) (H':Hp),qaq H H'→H' l=some (.lst ((0 :: es).map iV))→es.length+1=n→(∀(k e:Nat),es[k]?=some e→e≤k∧e≤10)→Q (.ref l) H'
theorem es_snoc {es:List Nat} {x:Nat} (h:∀(k e:Nat),es[k]?=some e→e≤k∧e≤10) (hx:x≤es.length) (h10:x≤10):∀(k e:Nat),(es++ [x])[k]?=some e→e≤k∧e≤10:=fun k e hk=>by
 by_cases c:k < es.length
 ·rw [yB c] at hk
  exact h k e hk
 ·rw [zW (by omega)] at hk
  by_cases z:k - es.length=0
  ·rw [z] at hk
   have:x=e:=by simpa using hk
   subst this
   exact⟨by omega,h10⟩
  ·rw [yG (by rw [yA];omega)] at hk
   cases hk
include T in
theorem ok_elders:FnOk P w K mg base CX0 2 d.f_elders d.fd_elders ["_law_script","_law_start","_law_many"] (sp_elders K d):=by
 refine T.F_elders.ok sc_elders (fun vs H Q E h=>?_) (fun cdv A outer s H vs Q E hr h=>?_)
 ·obtain⟨a,ns,st,n,rfl,_⟩:=h;rfl
 obtain⟨a,ns,st,n,rfl,hS,h63,st0,st1,n1,n12,q⟩:=h
 refine⟨_,(qa3 (qad (i:=3) sc_elders.nd rfl (Or.inl rfl) (qd1 qd3 (qaa ((ok_mix T).mono (by decide)) hr rfl T.m_mix T.F_mix.kp T.b_mix .nil qag (qa0 (qaa ((ok_cell T).mono (by decide)) hr rfl T.m_cell T.F_cell.kp T.b_cell .nil qag (qa0 (pv 0) (qa0 (pv 1) qa2))) (qa0 qa5 (qa0 qa5 qa2)))) qa5 (qap _)))
  (qa3 (qad (i:=4) sc_elders.nd rfl (Or.inl rfl) (qbe (qa0 qa5 qa2)))
  (qa3 (qb2 PassesOwn.never rfl (qeo rfl T.z_range (qa0 qa5 (qa0 (pv 2) qa2))) (qam (i:=5) sc_elders.nd rfl (Or.inl rfl)) (qa6 (qce (qbc (qci (pv 3)) (qa6 (qay (qd2 PySem.F.plainAttrs_list PySem.F.slot_list_append PySem.F.type_list_append qat (pv 4) (qa0 (qae (qf2 rfl) rfl T.z_max PyProof.Rows.boot_max (qa0 qa5 (qa0 (qah qed (pv 5) qa5) qa2))) qa2)))) (qa6 (qay (qd2 PySem.F.plainAttrs_list PySem.F.slot_list_append PySem.F.type_list_append qat (pv 4) (qa0 (qaa ((ok_mix T).mono (by decide)) hr rfl T.m_mix T.F_mix.kp T.b_mix .nil qag (qa0 (qaa ((ok_cell T).mono (by decide)) hr rfl T.m_cell T.F_cell.kp T.b_cell .nil qag (qa0 (pv 0) (qa0 (qah qas (pv 1) (pv 5)) qa2))) (qa0 qa5 (qa0 (pv 5) qa2)))) qa2))))))))
  (qa6 (qaj (pv 4)))))),?_⟩
 walk_at "d"
 refine qaf (σ:=[some (.ref a),some (.int st),some (.int (n:Int)),none,none,none]) rfl ?_
 left
 refine⟨a,ns,st,rfl,hS,st0,by omega,h63,fun c0=>?_⟩
 left
 refine qbm (by decide) (by decide) (by decide) (by decide) fun r r0 r1=>?_
 left
 rename_i l hl
 unfold iRng2
 left
 refine⟨1,_,rfl,⟨by decide,by decide,by omega,by omega⟩,?_⟩
 refine qby (fun i σ H'=>∃(es:List Nat) (w:Option V),σ=[some (V.ref a),some (V.int st),some (V.int (n:Int)),some (V.bl (decide (r=0))),some (V.ref l),w]∧qaq H H'∧H' l=some (.lst ((0 :: es).map iV))∧es.length=i∧∀(k e:Nat),es[k]?=some e→e≤k∧e≤10)
  ⟨[],_,rfl,qa8 hl _,qa1,rfl,fun k e h=>by simp at h⟩ ?_ ?_
 ·rintro i σ H' hi ⟨es,w,rfl,sm,el,hlen,hes⟩
  have hi:i <((n:Int) - 1).toNat:=hi
  have zl:((0 :: es).map iV).length < sizeLine:=by rw [zB,zM];show _ < 16777216;omega
  have hS':=sm.seq hS
  have push:∀(x:Nat) (v:V),v=iV x→x≤i→∃(es':List Nat) (w:Option V), [some (V.ref a),some (V.int st),some (V.int (n:Int)),some (V.bl (decide (r=0))),some (V.ref l),some (V.int (1+(i:Int)))]=[some (V.ref a),some (V.int st),some (V.int (n:Int)),some (V.bl (decide (r=0))),some (V.ref l),w]∧qaq H (upd H' l (.lst ((0 :: es).map iV++ [v])))∧upd H' l (.lst ((0 :: es).map iV++ [v])) l=some (.lst ((0 :: es').map iV))∧es'.length=i+1∧∀(k e:Nat),es'[k]?=some e→e≤k∧e≤10:=fun x v ev hx=>
   ⟨es++ [x],_,rfl,qav sm hl,by rw [qa1,ev,←List.cons_append,zE];rfl,by rw [zG,hlen];rfl,es_snoc hes (by omega) (by omega)⟩
  left
  refine r_cut0 ?_
  left
  by_cases c:r=0
  ·rw [decide_eq_true c]
   rw [decide_eq_true c] at push
   left
   refine push (i - 1) _ ?_ (by omega)
   unfold iV
   congr 1
   split <;> omega
  ·rw [decide_eq_false c]
   rw [decide_eq_false c] at push
   left
   refine⟨a,ns,st+(1+(i:Int)),rfl,hS',by omega,by omega,h63,fun c1=>?_⟩
   left
   refine qbm (by decide) (by decide) (by omega) (by omega) fun r2 a0 a1=>?_
   left
   exact push r2.toNat _ (by show V.int r2=V.int ((r2.toNat:Nat):Int);rw [Int.toNat_of_nonneg a0]) (by omega)
 ·rintro σ H' ⟨es,w,rfl,sm,el,hlen,hes⟩
  left
  exact q l es H' sm el (by omega) hes
def sp_line (K:Frag) (d:Ad):Sp:=fun vs H Q _=>∃(le:Addr) (es:List Nat) (k:Nat),vs=[.ref le,.int (k:Int)]∧H le=some (.lst ((0 :: es).map iV))∧(∀(k e:Nat),es[k]?=some e→e≤k)∧k < es.length+1∧k≤12∧
 ∀l:Addr,H l=none→Q (.ref l) (upd H l (.lst ((qac (elN es) k).map iV)))
def measA (σ:L2.St):Nat:=match σ[1]? with
 |some (some (V.int a))=>a.toNat
 |_=>0
include T in
theorem ok_line:FnOk P w K mg base CX0 1 d.f_line d.fd_line ["_law_elders_here","_law_at"] (sp_line K d):=by
 refine T.F_line.ok sc_line (fun vs H Q E h=>?_) (fun cdv A outer s H vs Q E hr h=>?_)
 ·obtain⟨le,es,k,rfl,_⟩:=h;rfl
 obtain⟨le,es,k,rfl,hE,lo,hk,k12,q⟩:=h
 have low:=qdg lo (es.length+1)
 refine⟨_,(qa3 (qad (i:=2) sc_line.nd rfl (Or.inl rfl) (qbe (qa0 (pv 1) qa2)))
  (qa3 (ps_while PassesOwn.never (qak qf9 (pv 1) qa5 (qap _)) (qa3 (qad (i:=1) sc_line.nd rfl (Or.inl rfl) (qal qai (pv 0) (pv 1) (fun _ _=>rfl)))
  (qa6 (qay (qd2 PySem.F.plainAttrs_list PySem.F.slot_list_append PySem.F.type_list_append qat (pv 2) (qa0 (pv 1) qa2))))))
  (qa6 (qaj (pv 2))))),?_⟩
 walk_at "d"
 refine qaf (σ:=[some (.ref le),some (.int (k:Int)),none]) rfl ?_
 left
 rename_i l hl
 have nel:le≠l:=qa7 hE hl
 refine while_by (fun σ H'=>∃(j:Nat) (pre:List Nat),σ=[some (V.ref le),some (V.int (j:Int)),some (V.ref l)]∧H'=upd H l (.lst ((pre++ [j]).map iV))∧j≤k∧pre++qac (elN es) j=qac (elN es) k∧pre.length+j≤k) (fun σ _=>measA σ) ?_ ?_ ?_
 ·exact⟨k, [],rfl,rfl,Nat.le_refl _,rfl,by simp⟩
 ·rintro σ H1 ⟨j,pre,rfl,rfl,hj,hp,hpl⟩
  have zl:((pre++ [j]).map iV).length < sizeLine:=by rw [zB,zG,yA];show _ < 16777216;omega
  have hE':upd H l (.lst ((pre++ [j]).map iV)) le=some (.lst ((0 :: es).map iV)):=qa4 hE hl
  left
  refine i_2 (fun c=>?_) (fun c=>?_)
  ·have hb:j - 1 < es.length:=by omega
   have ej:elN es j=es[j - 1]:=by
    have:=elN_at (es:=es) (b:=j - 1) hb
    rw [show j - 1+1=j by omega] at this
    exact this
   have lj:=low j (by omega) (by omega)
   have xe:atI ((0 :: es).map iV) ((j:Nat):Int)=some (V.int ((elN es j:Nat):Int)):=by
    rw [ej]
    refine qar ?_
    obtain⟨b,rfl⟩:∃b,j=b+1:=⟨j - 1,by omega⟩
    rw [zC,List.getElem?_cons_succ,zA (by omega)]
    rfl
   left
   refine qb0 (SqL.of hE') xe ?_
   left
   refine⟨⟨elN es j,pre++ [j],rfl,?_,by omega,?_,by rw [zG,yA];omega⟩,?_⟩
   ·rw [qbb,zE (l₁:=pre++ [j])];rfl
   ·have hu:=qcc low (show 0 < j by omega) (show j < es.length+1 by omega)
    rw [←hp,hu,List.append_assoc];rfl
   ·show ((elN es j:Nat):Int).toNat <((j:Nat):Int).toNat
    omega
  ·have z:j=0:=by omega
   subst z
   left
   rw [qcu] at hp
   rw [hp]
   exact q l hl
 ·rintro σ H1 Q1 Q2 h ⟨v,e,a,b,e1,e2,d,e3,q⟩
  exact⟨v,e,a,b,e1,e2,d,e3,h _ _ q⟩
def tdS (f:Str→Option Int) (p:Str × Int):Str→Option Int:=if 0 < p.2 then putF' f p.1 p.2 else f
def tdP (k:List (Key × V)) (p:Str × Int):List (Key × V):=if 0 < p.2 then qdm k (Sum.inr p.1) (.int p.2) else k
def tdF (l:List (Str × Int)):Str→Option Int:=l.foldl tdS noF
def tdK (l:List (Str × Int)):List (Key × V):=l.foldl tdP []
theorem td_snoc (l:List (Str × Int)) (p:Str × Int):tdF (l++ [p])=tdS (tdF l) p∧tdK (l++ [p])=tdP (tdK l) p:=by
 unfold tdF tdK
 rw [List.foldl_append,List.foldl_append]
 exact⟨rfl,rfl⟩
theorem td_ad0:∀(l:List (Str × Int)) {k:List (Key × V)} {f:Str→Option Int},AD k f→AD (l.foldl tdP k) (l.foldl tdS f)
 | [],_,_,h=>h
 |p :: l,k,f,h=>by
  rw [yT,yT]
  refine td_ad0 l ?_
  unfold tdP tdS
  by_cases c:0 < p.2
  ·rw [if_pos c,if_pos c];exact h.put _ _
  ·rw [if_neg c,if_neg c];exact h
theorem qfp (l:List (Str × Int)):AD (tdK l) (tdF l):=td_ad0 l AD.nil
theorem qfo:∀(l:List (Str × Int)) (k:List (Key × V)),(l.foldl tdP k).length≤k.length+l.length
 | [],k=>Nat.le_refl _
 |p :: l,k=>by
  rw [yT,zM]
  have h:=qfo l (tdP k p)
  have:(tdP k p).length≤k.length+1:=by
   unfold tdP
   by_cases c:0 < p.2
   ·rw [if_pos c];have:=qbx k (Sum.inr p.1) (.int p.2);omega
   ·rw [if_neg c];omega
  omega
theorem td_len (l:List (Str × Int)):(tdK l).length≤l.length:=by
 have:=qfo l []
 rw [yQ,Nat.zero_add] at this
 exact this
theorem td_miss:∀(l:List (Str × Int)) (f:Str→Option Int) (z:Str),z∉l.map (·.1)→l.foldl tdS f z=f z
 | [],_,_,_=>rfl
 |p :: l,f,z,h=>by
  rw [zS,zR,not_or] at h
  rw [yT,td_miss l _ z h.2]
  unfold tdS
  by_cases c:0 < p.2
  ·rw [if_pos c];unfold putF';rw [if_neg h.1]
  ·rw [if_neg c]
theorem td_hit:∀(l:List (Str × Int)) (f:Str→Option Int) (p:Str × Int),(l.map (·.1)).Nodup→p∈l→f p.1=none→l.foldl tdS f p.1=if 0 < p.2 then some p.2 else none
 | [],_,_,_,h,_=>absurd h (by simp)
 |x :: l,f,p,nd,h,hf=>by
  rw [zS,zX] at nd
  rw [yT]
  rcases zR.mp h with e|e
  ·subst e
   rw [td_miss l _ _ nd.1]
   unfold tdS
   by_cases c:0 < p.2
   ·rw [if_pos c,if_pos c];unfold putF';rw [if_pos rfl]
   ·rw [if_neg c,if_neg c];exact hf
  ·have ne:p.1≠x.1:=fun z=>nd.1 (z ▸ zL.mpr ⟨p,e,rfl⟩)
   refine td_hit l _ p nd.2 e ?_
   unfold tdS
   by_cases c:0 < x.2
   ·rw [if_pos c];unfold putF';rw [if_neg ne];exact hf
   ·rw [if_neg c];exact hf
theorem zip_fst {ws:List Str} {ps:List Int} (h:ws.length=ps.length):(ws.zip ps).map (·.1)=ws:=by
 rw [List.map_fst_zip (by omega)]
theorem tdF_at {ws:List Str} {ps:List Int} (h:ws.length=ps.length) (nd:ws.Nodup) {j:Nat} (h1:j < ws.length) (h2:j < ps.length):tdF (ws.zip ps) ws[j]=if 0 < ps[j] then some ps[j] else none:=by
 have hm:(ws[j],ps[j])∈ws.zip ps:=by
  refine zK.mpr ⟨j,by rw [yU];omega,?_⟩
  rw [List.getElem_zip]
 exact td_hit (ws.zip ps) noF (ws[j],ps[j]) (by rw [zip_fst h];exact nd) hm rfl
theorem qfd {ws:List Str} {ps:List Int} (h:ws.length=ps.length):InW ws (tdF (ws.zip ps)):=fun z hz=>by
 apply Classical.byContradiction
 intro c
 exact hz (td_miss (ws.zip ps) noF z (by rw [zip_fst h];exact c))
theorem qfq {ws:List Str} {ps:List Int} {B:Int} (h:ws.length=ps.length) (nd:ws.Nodup) (hp:∀p∈ps,p≤B):FinB ws B (tdF (ws.zip ps)):=fun z n e=>by
 have hz:=qfd h z (by rw [e];simp)
 obtain⟨j,hj,rfl⟩:=zK.mp hz
 have hj2:j < ps.length:=by omega
 rw [tdF_at h nd hj hj2] at e
 by_cases c:0 < ps[j]
 ·rw [if_pos c] at e
  have e:ps[j]=n:=Option.some.inj e
  exact⟨hz,by omega,by rw [←e];exact hp _ (zJ hj2)⟩
 ·rw [if_neg c] at e;cases e
theorem tdF_gN {ws:List Str} {ps:List Int} (h:ws.length=ps.length) (nd:ws.Nodup) (h0:∀p∈ps,0≤p) {j:Nat} (h1:j < ws.length) (h2:j < ps.length):gN (tdF (ws.zip ps)) ws[j]=ps[j]:=by
 unfold gN
 rw [tdF_at h nd h1 h2]
 have:=h0 _ (zJ h2)
 by_cases c:0 < ps[j]
 ·rw [if_pos c];rfl
 ·rw [if_neg c];show (0:Int)=_;omega
def sp_told (K:Frag) (d:Ad):Sp:=fun vs H Q _=>∃(lw lp:Addr) (ws:List Str) (ps:List Int),vs=[.ref lw,.ref lp]∧SqL K H lw (ws.map V.str)∧SqL K H lp (ps.map V.int)∧ws.length=ps.length∧ws.length≤100∧
 ∀(l:Addr) (H':Hp),qaq H H'→H l=none→H' l=some (.dK (tdK (ws.zip ps)))→Q (.ref l) H'
include T in
theorem ok_told:FnOk P w K mg base CX0 1 d.f_told d.fd_told ["_law_wares","_law_parts_here"] (sp_told K d):=by
 refine T.F_told.ok sc_told (fun vs H Q E h=>?_) (fun cdv A outer s H vs Q E hr h=>?_)
 ·obtain⟨lw,lp,ws,ps,rfl,_⟩:=h;rfl
 obtain⟨lw,lp,ws,ps,rfl,hW,hP,hwp,h100,q⟩:=h
 refine⟨_,(qa3 (qad (i:=2) sc_told.nd rfl (Or.inl rfl) qg1)
  (qa3 (qb2 PassesOwn.never rfl (pi_zip rfl T.z_zip (qa0 (pv 0) (qa0 (pv 1) qa2))) (pg_tup rfl (qbl (qam (i:=3) sc_told.nd rfl (Or.inl rfl)) (qbl (qam (i:=4) sc_told.nd rfl (Or.inl rfl)) qep))) (qa6 (qce (qbc (qak qf9 (pv 4) qa5 (qap _)) (qa6 (qem (qd4 hr) (pv 2) (pv 3) (pv 4) rfl)) qan))))
  (qa6 (qaj (pv 2))))),?_⟩
 walk_at "d"
 refine qaf (σ:=[some (.ref lw),some (.ref lp),none,none,none]) rfl ?_
 left
 rename_i l hl
 have s1:=qa8 hl (.dK [])
 refine r_itZ (s1.seq hW) (s1.seq hP) ?_
 refine f_zip (by rw [zB,zB];exact hwp) (fun i σ H'=>∃w1 w2:Option V,σ=[some (V.ref lw),some (V.ref lp),some (V.ref l),w1,w2]∧qaq H H'∧H' l=some (.dK (tdK ((ws.zip ps).take i)))) ⟨_,_,rfl,s1,qa1⟩ ?_ ?_ ?_
 ·rintro i σ H' ⟨w1,w2,rfl,sm,el⟩
  exact⟨sm.seq hW,sm.seq hP⟩
 ·rintro i x y Tt σ H' hx hy ⟨w1,w2,rfl,sm,el⟩ hTt
  rw [zC] at hx hy
  obtain⟨z,hz,rfl⟩:=Option.map_eq_some_iff.mp hx
  obtain⟨n,hn,rfl⟩:=Option.map_eq_some_iff.mp hy
  have hzn:(ws.zip ps)[i]?=some (z,n):=by rw [List.getElem?_zip_eq_some];exact⟨hz,hn⟩
  have tk:(ws.zip ps).take (i+1)=(ws.zip ps).take i++ [(z,n)]:=by rw [zQ,hzn];rfl
  have st:=td_snoc ((ws.zip ps).take i) (z,n)
  rw [←tk] at st
  have s2:=qa8 hTt (.tup [.str z,.int n])
  have el2:=s2 _ _ el
  have tT:upd H' Tt (.tup [.str z,.int n]) Tt=some (.tup [.str z,.int n]):=qa1
  generalize upd H' Tt (.tup [.str z,.int n])=H2 at*
  have kl:(tdK ((ws.zip ps).take i)).length < sizeLine:=by
   have:=td_len ((ws.zip ps).take i)
   rw [zT,yU] at this
   show _ < 16777216
   omega
  rw [st.2]
  unfold tdP
  clear hx hy hz hn hzn tk st
  left
  refine r_cut0 ?_
  left
  refine i_2 (fun c=>?_) (fun c=>?_)
  ·left
   exact⟨_,_,rfl,qav (sm.trans s2) hl,by rw [qa1,if_pos c]⟩
  ·left
   exact⟨_,_,rfl,sm.trans s2,by rw [if_neg c];exact el2⟩
 ·rintro σ H' ⟨w1,w2,rfl,sm,el⟩
  left
  rw [zB,show (ws.zip ps).take ws.length=ws.zip ps from List.take_of_length_le (by rw [yU];omega)] at el
  exact q l H' sm hl el
structure Sc (sc:Int):Prop where
 lo:1≤sc
 hi:sc≤10^28
structure PpOk (p:Int):Prop where
 lo:0≤p
 hi:p≤5*10^28
structure XuOk (x:Int):Prop where
 hi:x≤4*10^28
def sp_parts (K:Frag) (d:Ad):Sp:=fun vs H Q _=>∃(c sc:Int) (k:Nat),vs=[.int c,.int (k:Int),.int sc]∧1≤k∧k≤3∧Sc sc∧
 ∀(l:Addr) (ps:List Int) (H':Hp),qaq H H'→H l=none→H' l=some (.lst (ps.map V.int))→ps.length=k→(∀p∈ps,PpOk p)→Q (.ref l) H'
include T in
theorem ok_parts:FnOk P w K mg base CX0 2 d.f_parts d.fd_parts ["_law_cell_here","_law_kinds","_law_scale"] (sp_parts K d):=by
 refine T.F_parts.ok sc_parts (fun vs H Q E h=>?_) (fun cdv A outer s H vs Q E hr h=>?_)
 ·obtain⟨c,sc,k,rfl,_⟩:=h;rfl
 obtain⟨c,sc,k,rfl,k1,k3,hsc,q⟩:=h
 refine⟨_,(qa3 (qad (i:=3) sc_parts.nd rfl (Or.inl rfl) (qbe qa2))
  (qa3 (qb2 PassesOwn.never rfl (qb8 rfl T.z_range (qa0 (pv 1) qa2)) (qam (i:=4) sc_parts.nd rfl (Or.inl rfl)) (qa3 (qad (i:=5) sc_parts.nd rfl (Or.inl rfl) (qah qas (qah qas (qah qbj (qaa ((ok_mix T).mono (by decide)) hr rfl T.m_mix T.F_mix.kp T.b_mix .nil qag (qa0 (pv 0) (qa0 (qah qas qa5 (qah qbj qa5 (pv 4))) (qa0 qa5 qa2)))) (pv 2)) qa5) (qaa ((ok_mix T).mono (by decide)) hr rfl T.m_mix T.F_mix.kp T.b_mix .nil qag (qa0 (pv 0) (qa0 (qah qas qa5 (qah qbj qa5 (pv 4))) (qa0 qa5 qa2))))))
  (qa6 (qay (qd2 PySem.F.plainAttrs_list PySem.F.slot_list_append PySem.F.type_list_append qat (pv 3) (qa0 (qah qbj (pv 5) (qae (call_minR rfl) rfl T.z_min PyProof.Rows.boot_min (qa0 qa5 (qa0 (qaa ((ok_mix T).mono (by decide)) hr rfl T.m_mix T.F_mix.kp T.b_mix .nil qag (qa0 (pv 0) (qa0 (qah qas qa5 (pv 4)) (qa0 qa5 qa2)))) qa2)))) qa2))))))
  (qa3 (qce (qbc (qak qd3 (qae (call_maxL rfl) rfl T.z_max PyProof.Rows.boot_max (qa0 (pv 3) qa2)) qa5 (qap _)) (qa6 (ps_lput (pv 3) (qaa ((ok_mix T).mono (by decide)) hr rfl T.m_mix T.F_mix.kp T.b_mix .nil qag (qa0 (pv 0) (qa0 qa5 (qa0 (pv 1) qa2)))) (pv 2) rfl)) qan))
  (qa6 (qaj (pv 3)))))),?_⟩
 walk_at "d"
 refine qaf (σ:=[some (.int c),some (.int (k:Int)),some (.int sc),none,none,none]) rfl ?_
 have ek:((k:Nat):Int).toNat=k:=by omega
 generalize hki:((k:Nat):Int)=ki at*
 have sb:sc.natAbs < 2^200:=by
  have a:=hsc.lo
  have b:=hsc.hi
  exact Nat.lt_of_le_of_lt (show sc.natAbs≤10^28 by omega) (by decide)
 have s0:0≤sc:=by have:=hsc.lo;omega
 have sb6:sc.natAbs < 2^600:=Nat.lt_trans sb (by decide)
 left
 rename_i l hl
 rw [ek]
 refine qby (fun i σ H'=>∃(ps:List Int) (w1 w2:Option V),σ=[some (V.int c),some (V.int ki),some (V.int sc),some (V.ref l),w1,w2]∧H'=upd H l (.lst (ps.map V.int))∧ps.length=i∧∀p∈ps,PpOk p) ⟨[],_,_,rfl,rfl,rfl,fun p h=>by simp at h⟩ ?_ ?_
 ·rintro i σ H' hi ⟨ps,w1,w2,rfl,rfl,hlen,hp⟩
  have zl:(ps.map V.int).length < sizeLine:=by rw [zB];show _ < 16777216;omega
  have b2:((2:Int)).natAbs < 2^600∧((0:Int)+(i:Int)).natAbs < 2^600:=⟨by decide,Nat.lt_of_le_of_lt (show ((0:Int)+(i:Int)).natAbs≤5 by omega) (by decide)⟩
  left
  refine qbm (by omega) (by omega) (by decide) (by decide) fun r r0 r1=>?_
  have rb:r.natAbs < 2^600:=Nat.lt_of_le_of_lt (show r.natAbs≤5 by omega) (by decide)
  left
  refine qbm (by omega) (by omega) (by decide) (by decide) fun r2 a0 a1=>?_
  left
  refine qbm (by omega) (by omega) (by decide) (by decide) fun r3 d0 d1=>?_
  have x0:0≤r*sc:=Int.mul_nonneg r0 s0
  have xu:XuOk (r*sc):=⟨Int.mul_le_mul (show r≤4 by omega) hsc.hi s0 (by decide)⟩
  have xb:(r*sc).natAbs < 2^300:=by
   rw [Int.natAbs_mul]
   exact Nat.lt_of_le_of_lt (Nat.mul_le_mul (show r.natAbs≤5 by omega) (Nat.le_of_lt sb)) (by decide)
  generalize r*sc=x at*
  have yb:(x+1+r2).natAbs < 2^600:=Nat.lt_of_le_of_lt (show (x+1+r2).natAbs≤2^300+10 by omega) (by decide)
  have y0:0≤x+1+r2:=by omega
  have yu:PpOk (x+1+r2):=⟨y0,by have:=xu.hi;omega⟩
  generalize x+1+r2=y at*
  left
  have m0:(if r3 < 1 then r3 else (1:Int))=0∨(if r3 < 1 then r3 else (1:Int))=1:=by split <;> omega
  have m1:(if r3 < 1 then r3 else (1:Int)).natAbs < 2^600:=Nat.lt_of_le_of_lt (show _≤5 by split <;> omega) (by decide)
  generalize (if r3 < 1 then r3 else (1:Int))=z at*
  refine⟨ps++ [y*z],_,_,rfl,by rw [qbb,zE];rfl,by rw [zG,hlen];rfl,fun p h=>?_⟩
  rcases zN.mp h with h|h
  ·exact hp p h
  ·rw [zH.mp h]
   rcases m0 with e|e
   ·rw [e,Int.mul_zero];exact⟨by decide,by decide⟩
   ·rw [e,Int.mul_one];exact yu
 ·rintro σ H' ⟨ps,w1,w2,rfl,rfl,hlen,hp⟩
  left
  refine qek (fun σ' H'=>∃(ps:List Int) (w1 w2:Option V),σ'=[some (V.int c),some (V.int ki),some (V.int sc),some (V.ref l),w1,w2]∧H'=upd H l (.lst (ps.map V.int))∧ps.length=k∧∀p∈ps,PpOk p) ?_ ?_
  ·left
   refine r_maxL (SqL.of qa1) (by omega) fun m _ _=>?_
   left
   refine i_2 (fun c0=>?_) (fun c0=>?_)
   ·left
    refine qbm (by decide) (by decide) (by omega) (by omega) fun r r0 r1=>?_
    refine r_lpk qa1 (k:=r.toNat) (by rw [zB];omega) ?_ (by omega)
    left
    refine⟨ps.set r.toNat sc,_,_,rfl,by rw [qbb,←List.map_set],by rw [List.length_set];exact hlen,fun p h=>?_⟩
    rcases List.mem_or_eq_of_mem_set h with h|h
    ·exact hp p h
    ·rw [h];exact⟨s0,by have:=hsc.hi;omega⟩
   ·left
    exact⟨ps,_,_,rfl,rfl,hlen,hp⟩
  ·rintro σ' H' ⟨ps,w1,w2,rfl,rfl,hlen,hp⟩
   left
   exact q l ps _ (qa8 hl _) hl qa1 hlen hp
structure Rw where
 p:Addr
 e:Addr
 n:Int
 i:Nat
 ps:List Int
 r:Int
 s:Bool
structure RwAt (H:Hp) (nh kd:Nat) (R:Rw):Prop where
 row:H R.p=some (.tup [.int R.n,.int ((R.i:Nat):Int),.ref R.e,.int R.r,.bl R.s])
 par:H R.e=some (.lst (R.ps.map V.int))
 len:R.ps.length=kd
 nn:∀p∈R.ps,PpOk p
 il:R.i < nh
theorem RwAt.same {H H':Hp} {nh kd:Nat} {R:Rw} (h:RwAt H nh kd R) (s:qaq H H'):RwAt H' nh kd R:=⟨s _ _ h.row,s _ _ h.par,h.len,h.nn,h.il⟩
def rwV (Rs:List Rw):List V:=Rs.map fun R=> .ref R.p
def sp_rows (K:Frag) (d:Ad):Sp:=fun vs H Q _=>∃(a:Addr) (ns:List Int) (st:Int) (nh kd:Nat),vs=[.ref a,.int st,.int (nh:Int),.int (kd:Int)]∧SqL K H a (ns.map V.int)∧ns.length≤63∧0≤st∧st≤100∧1≤nh∧nh≤12∧1≤kd∧kd≤3∧
 ∀(l:Addr) (Rs:List Rw) (H':Hp),qaq H H'→H' l=some (.lst (rwV Rs))→Rs.length≤9→(∀R∈Rs,RwAt H' nh kd R)→Q (.ref l) H'
include T in
theorem ok_rows:FnOk P w K mg base CX0 3 d.f_rows d.fd_rows ["_law_script","_law_start","_law_houses","_law_kinds"] (sp_rows K d):=by
 refine T.F_rows.ok sc_rows (fun vs H Q E h=>?_) (fun cdv A outer s H vs Q E hr h=>?_)
 ·obtain⟨a,ns,st,nh,kd,rfl,_⟩:=h;rfl
 obtain⟨a,ns,st,nh,kd,rfl,hS,h63,st0,st1,n1,n12,k1,k3,q⟩:=h
 refine⟨_,(qa3 (qad (i:=4) sc_rows.nd rfl (Or.inl rfl) (qal qai (qbe (qa0 qa5 (qa0 qa5 (qa0 qa5 (qa0 qa5 (qa0 (qah op_pow qa5 qa5) qa2)))))) (qaa ((ok_mix T).mono (by decide)) hr rfl T.m_mix T.F_mix.kp T.b_mix .nil qag (qa0 (qaa ((ok_cell T).mono (by decide)) hr rfl T.m_cell T.F_cell.kp T.b_cell .nil qag (qa0 (pv 0) (qa0 (pv 1) qa2))) (qa0 qa5 (qa0 qa5 qa2)))) (fun _ _=>rfl)))
  (qa3 (qad (i:=5) sc_rows.nd rfl (Or.inl rfl) (qaa ((ok_mix T).mono (by decide)) hr rfl T.m_mix T.F_mix.kp T.b_mix .nil qag (qa0 (qaa ((ok_cell T).mono (by decide)) hr rfl T.m_cell T.F_cell.kp T.b_cell .nil qag (qa0 (pv 0) (qa0 (pv 1) qa2))) (qa0 qa5 (qa0 qa5 qa2)))))
  (qa3 (qad (i:=6) sc_rows.nd rfl (Or.inl rfl) (qbe qa2))
  (qa3 (qb2 PassesOwn.never rfl (qb8 rfl T.z_range (qa0 (qaa ((ok_mix T).mono (by decide)) hr rfl T.m_mix T.F_mix.kp T.b_mix .nil qag (qa0 (qaa ((ok_cell T).mono (by decide)) hr rfl T.m_cell T.F_cell.kp T.b_cell .nil qag (qa0 (pv 0) (qa0 (pv 1) qa2))) (qa0 qa5 (qa0 qa5 qa2)))) qa2)) (qam (i:=7) sc_rows.nd rfl (Or.inl rfl)) (qa3 (qad (i:=8) sc_rows.nd rfl (Or.inl rfl) (qaa ((ok_cell T).mono (by decide)) hr rfl T.m_cell T.F_cell.kp T.b_cell .nil qag (qa0 (pv 0) (qa0 (qah qas (qah qas (pv 1) qa5) (pv 7)) qa2))))
  (qa3 (qad (i:=5) sc_rows.nd rfl (Or.inl rfl) (qah qas (qah qas (pv 5) qa5) (qaa ((ok_mix T).mono (by decide)) hr rfl T.m_mix T.F_mix.kp T.b_mix .nil qag (qa0 (pv 8) (qa0 qa5 (qa0 qa5 qa2))))))
  (qa3 (qad (i:=9) sc_rows.nd rfl (Or.inl rfl) (qaa ((ok_parts T).mono (by decide)) hr rfl T.m_parts T.F_parts.kp T.b_parts .nil qag (qa0 (pv 8) (qa0 (pv 3) (qa0 (pv 4) qa2)))))
  (qa3 (qad (i:=10) sc_rows.nd rfl (Or.inl rfl) (qd1 qd3 (qaa ((ok_mix T).mono (by decide)) hr rfl T.m_mix T.F_mix.kp T.b_mix .nil qag (qa0 (pv 8) (qa0 qa5 (qa0 qa5 qa2)))) qa5 (qap _)))
  (qa6 (qay (qd2 PySem.F.plainAttrs_list PySem.F.slot_list_append PySem.F.type_list_append qat (pv 6) (qa0 (qc1 (qa0 (pv 5) (qa0 (qaa ((ok_mix T).mono (by decide)) hr rfl T.m_mix T.F_mix.kp T.b_mix .nil qag (qa0 (pv 8) (qa0 qa5 (qa0 (pv 2) qa2)))) (qa0 (pv 9) (qa0 (qaa ((ok_mix T).mono (by decide)) hr rfl T.m_mix T.F_mix.kp T.b_mix .nil qag (qa0 (pv 8) (qa0 qa5 (qa0 qa5 qa2)))) (qa0 (pv 10) qa2)))))) qa2)))))))))
  (qa6 (qaj (pv 6))))))),?_⟩
 walk_at "d"
 refine qaf (σ:=[some (.ref a),some (.int st),some (.int (nh:Int)),some (.int (kd:Int)),none,none,none,none,none,none,none]) rfl ?_
 generalize hni:((nh:Nat):Int)=ni
 generalize hki:((kd:Nat):Int)=ki
 left
 rename_i pm hpm
 generalize hp28:(10:Int)^Int.toNat 28=c28
 have s1:=qa8 hpm (.lst [.int 1,.int 1,.int 1,.int 1000000007,.int c28])
 have e1:upd H pm (.lst [.int 1,.int 1,.int 1,.int 1000000007,.int c28]) pm=some (.lst [.int 1,.int 1,.int 1,.int 1000000007,.int c28]):=qa1
 generalize upd H pm (.lst [.int 1,.int 1,.int 1,.int 1000000007,.int c28])=H1 at*
 have hS1:=s1.seq hS
 refine⟨a,ns,st,rfl,hS1,st0,by omega,h63,fun c0=>?_⟩
 left
 refine qbm (by decide) (by decide) (by decide) (by decide) fun r r0 r1=>?_
 refine qff (xs:=[1,1,1,1000000007,c28]) (SqL.of e1) r0 r1 fun sc hm=>?_
 have hsc:Sc sc:=by
  simp only [zR,yL,or_false] at hm
  have e27:c28=10^28:=hp28.symm
  rw [e27] at hm
  exact⟨by omega,by omega⟩
 clear hm r0 r1 e1 hp28
 left
 refine⟨a,ns,st,rfl,hS1,st0,by omega,h63,fun c1=>?_⟩
 left
 refine qbm (by decide) (by decide) (by decide) (by decide) fun r2 _ _=>?_
 left
 rename_i l hl
 have s2:=s1.trans (qa8 hl (.lst []))
 have hl0:H l=none:=s1.free hl
 have e2:upd H1 l (.lst []) l=some (.lst []):=qa1
 generalize upd H1 l (.lst [])=H2 at*
 refine⟨a,ns,st,rfl,s2.seq hS,st0,by omega,h63,fun c2=>?_⟩
 left
 refine qbm (by decide) (by decide) (by decide) (by decide) fun r3 b0 b1=>?_
 left
 refine qby (fun i σ H'=>∃(Rs:List Rw) (m:Int) (w1 w2 w3 w4:Option V),σ=[some (V.ref a),some (V.int st),some (V.int ni),some (V.int ki),some (V.int sc),some (V.int m),some (V.ref l),w1,w2,w3,w4]∧qaq H H'∧H' l=some (.lst (rwV Rs))∧Rs.length=i∧∀R∈Rs,RwAt H' nh kd R∧R.e≠l)
  ⟨[],_,_,_,_,_,rfl,s2,e2,rfl,fun R h=>by simp at h⟩ ?_ ?_
 ·rintro i σ H' hi ⟨Rs,m,w1,w2,w3,w4,rfl,sm,el,hlen,hR⟩
  left
  refine⟨a,ns,st+1+(0+(i:Int)),rfl,sm.seq hS,by omega,by omega,h63,fun c3=>?_⟩
  left
  refine qbm (by decide) (by decide) (by decide) (by decide) fun r4 _ _=>?_
  left
  refine⟨c3,sc,kd,by rw [hki],k1,k3,hsc,fun e ps H3 s3 he ee hps h0=>?_⟩
  have el3:=s3 _ _ el
  left
  refine qbm (by decide) (by decide) (by decide) (by decide) fun r5 _ _=>?_
  left
  refine qbm (by decide) (by decide) (by omega) (by omega) fun r6 d0 d1=>?_
  left
  refine qbm (by decide) (by decide) (by decide) (by decide) fun r7 _ _=>?_
  have zl:(rwV Rs).length < sizeLine:=by unfold rwV;rw [zB];show _ < 16777216;omega
  left
  rename_i pr hpr
  have er:r6=((r6.toNat:Nat):Int):=by omega
  have s4:=qa8 hpr (.tup [.int (m+1+r4),.int r6,.ref e,.int r7,.bl (decide (r5=0))])
  have epr:upd H3 pr (.tup [.int (m+1+r4),.int r6,.ref e,.int r7,.bl (decide (r5=0))]) pr=some (.tup [.int (m+1+r4),.int r6,.ref e,.int r7,.bl (decide (r5=0))]):=qa1
  have el4:=s4 _ _ el3
  have nel:e≠l:=(qa7 el he).symm
  generalize upd H3 pr (.tup [.int (m+1+r4),.int r6,.ref e,.int r7,.bl (decide (r5=0))])=H4 at*
  have putR:∀{R:Rw} {o:HO},RwAt H4 nh kd R→R.e≠l→RwAt (upd H4 l o) nh kd R:=fun {R o} h ne=>by
   have np:R.p≠l:=ne_of h.row el4 (by simp)
   exact⟨by rw [qa9 np];exact h.row,by rw [qa9 ne];exact h.par,h.len,h.nn,h.il⟩
  obtain⟨R0,e01,e02,e03⟩:∃R0:Rw,R0.p=pr∧R0.e≠l∧RwAt H4 nh kd R0:=⟨⟨pr,e,m+1+r4,r6.toNat,ps,r7,decide (r5=0)⟩,rfl,nel,⟨by rw [←er];exact epr,s4 _ _ ee,hps,h0,by show r6.toNat < nh;omega⟩⟩
  have e05:upd H4 l (.lst (rwV Rs++ [.ref pr])) l=some (.lst (rwV (Rs++ [R0]))):=by rw [qa1];unfold rwV;rw [zE,←e01];rfl
  have sm4:qaq H (upd H4 l (.lst (rwV Rs++ [.ref pr]))):=qav ((sm.trans s3).trans s4) hl0
  have hlen4:(Rs++ [R0]).length=i+1:=by rw [zG,hlen];rfl
  have hR4:∀R∈Rs++ [R0],RwAt (upd H4 l (.lst (rwV Rs++ [.ref pr]))) nh kd R∧R.e≠l:=fun R hr=>by
   rcases zN.mp hr with h|h
   ·obtain⟨h1,h2⟩:=hR R h
    exact⟨putR (h1.same (s3.trans s4)) h2,h2⟩
   ·rw [zH.mp h]
    exact⟨putR e03 e02,e02⟩
  clear hR putR e03 epr hl hS s1 s2 s3 s4
  exact⟨Rs++ [R0],_,_,_,_,_,rfl,sm4,e05,hlen4,hR4⟩
 ·rintro σ H' ⟨Rs,m,w1,w2,w3,w4,rfl,sm,el,hlen,hR⟩
  left
  exact q l Rs H' sm el (by omega) fun R h=>(hR R h).1
def rrOf (ws:List Str) (R:Rw):Rr:=⟨R.p,R.e,R.n,R.i,tdK (ws.zip R.ps),tdF (ws.zip R.ps),R.r,R.s⟩
def sp_objects (K:Frag) (d:Ad):Sp:=fun vs H Q _=>∃(lr ln lw:Addr) (P:PL) (Rs:List Rw),vs=[.ref lr,.ref ln,.ref lw]∧H lr=some (.lst (rwV Rs))∧H ln=some (.lst (P.nm.map V.str))∧H lw=some (.lst (P.ws.map V.str))∧P.ws.length≤3∧Rs.length≤9∧(∀R∈Rs,RwAt H P.nm.length P.ws.length R)∧
 ∀(l:Addr) (bs:List Ob) (H':Hp),qaq H H'→H' l=some (.lst (bsV bs))→bs.map (·.R)=Rs.map (rrOf P.ws)→(∀b∈bs,ObAt d H' P b)→Q (.ref l) H'
include T in
theorem ok_objects:FnOk P w K mg base CX0 3 d.f_objects d.fd_objects ["_law_rows_here","_law_names_here","_law_wares"] (sp_objects K d):=by
 refine T.F_objects.ok sc_objects (fun vs H Q E h=>?_) (fun cdv A outer s H vs Q E hr h=>?_)
 ·obtain⟨lr,ln,lw,P,Rs,rfl,_⟩:=h;rfl
 obtain⟨lr,ln,lw,P,Rs,rfl,hL,hN,hW,w3,h9,hR,q⟩:=h
 refine⟨_,(qa3 (qad (i:=3) sc_objects.nd rfl (Or.inl rfl) (qbe qa2))
  (qa3 (qb2 PassesOwn.never rfl (qax (pv 0)) (pg_tup rfl (qbl (qam (i:=4) sc_objects.nd rfl (Or.inl rfl)) (qbl (qam (i:=5) sc_objects.nd rfl (Or.inl rfl)) (qbl (qam (i:=6) sc_objects.nd rfl (Or.inl rfl)) (qbl (qam (i:=7) sc_objects.nd rfl (Or.inl rfl)) (qbl (qam (i:=8) sc_objects.nd rfl (Or.inl rfl)) qep)))))) (qa3 (qad (i:=9) sc_objects.nd rfl (Or.inl rfl) (qal qai (qbe (qa0 qdo (qa0 (qah qas qa5 (pv 7)) qa2))) (qah qc3 (pv 4) qa5) (fun _ _=>rfl)))
  (qa6 (qce (qbc (qci (pv 8)) (qa6 (qay (qd2 PySem.F.plainAttrs_list PySem.F.slot_list_append PySem.F.type_list_append qat (pv 3) (qa0 (pe_make T.MK_Hold ((ok_Hold_init T).mono (by decide)) hr rfl T.m_Hold T.b_Hold_init .nil qag (qa0 (pv 4) (qa0 (qal qai (pv 1) (pv 5) (fun _ _=>rfl)) (qa0 (qaa ((ok_told T).mono (by decide)) hr rfl T.m_told T.F_told.kp T.b_told .nil qag (qa0 (pv 2) (qa0 (pv 6) qa2))) (qa0 (pv 7) (qa0 (pv 9) qa2)))))) qa2)))) (qa6 (qay (qd2 PySem.F.plainAttrs_list PySem.F.slot_list_append PySem.F.type_list_append qat (pv 3) (qa0 (pe_make T.MK_Loan ((ok_Hold_init T).mono (by decide)) hr rfl T.m_Loan T.b_Hold_init .nil qag (qa0 (pv 4) (qa0 (qal qai (pv 1) (pv 5) (fun _ _=>rfl)) (qa0 (qaa ((ok_told T).mono (by decide)) hr rfl T.m_told T.F_told.kp T.b_told .nil qag (qa0 (pv 2) (qa0 (pv 6) qa2))) (qa0 (pv 7) (qa0 (pv 9) qa2)))))) qa2)))))))))
  (qa6 (qaj (pv 3))))),?_⟩
 walk_at "d"
 refine qaf (σ:=[some (.ref lr),some (.ref ln),some (.ref lw),none,none,none,none,none,none,none]) rfl ?_
 left
 rename_i l hl
 have s1:=qa8 hl (.lst [])
 have hL1:=s1 _ _ hL
 left
 refine qd6 (xs:=rwV Rs) (fun i σ H'=>∃(bs:List Ob) (w1 w2 w3 w4 w5 w6:Option V),σ=[some (V.ref lr),some (V.ref ln),some (V.ref lw),some (V.ref l),w1,w2,w3,w4,w5,w6]∧qaq H H'∧H' l=some (.lst (bsV bs))∧bs.map (·.R)=(Rs.take i).map (rrOf P.ws)∧∀b∈bs,ObAt d H' P b)
  ⟨[],_,_,_,_,_,_,rfl,s1,qa1,rfl,fun b h=>by simp at h⟩ ?_ ?_ ?_
 ·rintro i σ H' hi ⟨bs,w1,w2,w3,w4,w5,w6,rfl,sm,el,hbs,hB⟩
  exact SqL.of (sm _ _ hL)
 ·rintro i x σ H' hx ⟨bs,w1,w2,w3,w4,w5,w6,rfl,sm,el,hbs,hB⟩
  unfold rwV at hx
  rw [zC] at hx
  obtain⟨R,hr,rfl⟩:=Option.map_eq_some_iff.mp hx
  have tk:Rs.take (i+1)=Rs.take i++ [R]:=by rw [zQ,hr];rfl
  have hi9:i < Rs.length:=(List.getElem?_eq_some_iff.mp hr).1
  have hRi:=(hR R (zD hr)).same sm
  have hrow:=hRi.row
  have hbl:bs.length≤9:=by have:=congrArg List.length hbs;rw [zB,zB,zT] at this;omega
  have xn:atI (P.nm.map V.str) ((R.i:Nat):Int)=some (.str (nmF P R.i)):=by rw [qdz hRi.il];exact qar (by rw [zC,zA hRi.il];rfl)
  generalize hri:((R.i:Nat):Int)=ri at*
  clear hx
  left
  rename_i pm hpm
  have m0:=Int.emod_nonneg R.n (show (2:Int)≠0 by decide)
  have m1:=Int.emod_lt_of_pos R.n (show (0:Int) < 2 by decide)
  have hturn:∃t:Option Int,atI [V.non,V.int (1+R.r)] (R.n%2)=some (tV t):=by
   have hc:R.n%2=0∨R.n%2=1:=by omega
   rcases hc with c|c
   ·exact⟨none,by rw [c];exact qar (j:=0) rfl⟩
   ·exact⟨some (1+R.r),by rw [c];exact qar (j:=1) rfl⟩
  obtain⟨t,ht⟩:=hturn
  refine qb0 (SqL.of qa1) ht ?_
  have s2:=qa8 hpm (.lst [V.non,V.int (1+R.r)])
  generalize upd H' pm (.lst [V.non,V.int (1+R.r)])=H1 at*
  clear m0 m1 ht hrow
  have hN1:=s2 _ _ (sm _ _ hN)
  have hW1:=s2 _ _ (sm _ _ hW)
  have hP1:=s2 _ _ hRi.par
  have el1:=s2 _ _ el
  have hB1:∀b∈bs,ObAt d H1 P b:=fun b hb=>(hB b hb).same s2
  have zl:(bsV bs).length < sizeLine:=by unfold bsV;rw [zB];show _ < 16777216;omega
  have fin:∀(x dx a m:Addr) (H2 H3:Hp),qaq H1 H2→H2 x=none→H2 dx=none→H2 a=some (.dK (tdK (P.ws.zip R.ps)))→upd (upd H2 dx (.own x)) x (.ins (clsC d R.s) dx []) m=none→H3 x=some (.ins (clsC d R.s) dx (fsB R.n (nmF P R.i) m R.r t))→H3 m=some (.dK (tdK (P.ws.zip R.ps)))→SameBut x (upd (upd H2 dx (.own x)) x (.ins (clsC d R.s) dx [])) H3→
    qaq H1 H3∧H3 l=some (.lst (bsV bs))∧∃bs':List Ob,bsV bs'=bsV bs++ [.ref x]∧bs'.map (·.R)=(Rs.take (i+1)).map (rrOf P.ws)∧∀b∈bs',ObAt d (upd H3 l (.lst (bsV bs++ [.ref x]))) P b:=fun x dx a m H2 H3 s3 hx hdx ha hm ex em sb=>by
   have nmx:m≠x:=fun z=>by subst z;rw [qa1] at hm;cases hm
   rw [qa9 nmx] at hm
   have s13:qaq H1 H3:=fun b o hb=>by
    have hb2:=s3 _ _ hb
    exact sb b o (qa7 hb2 hx) (by rw [qa9 (qa7 hb2 hx),qa9 (qa7 hb2 hdx)];exact hb2)
   have el3:=s13 _ _ el1
   refine⟨s13,el3,bs++ [⟨rrOf P.ws R,x,m,t⟩],by unfold bsV;rw [zE];rfl,by rw [zE,hbs,tk,zE];rfl,fun b hb=>?_⟩
   have nel:∀y:Ob,ObAt d H3 P y→y.o≠l∧y.m≠l:=fun y hy=>by
    refine⟨fun z=>?_,fun z=>?_⟩
    ·obtain⟨dx,e⟩:=hy.obj
     rw [z,el3] at e;cases e
    ·have e:=hy.amt
     rw [z,el3] at e;cases e
   rcases zN.mp hb with h|h
   ·have h1:=(hB1 b h).same s13
    exact h1.put (nel b h1).1 (nel b h1).2
   ·have:b=⟨rrOf P.ws R,x,m,t⟩:=by simpa using h
    subst this
    have h1:ObAt d H3 P ⟨rrOf P.ws R,x,m,t⟩:=⟨⟨dx,ex⟩,em,qfp _,qfd hRi.len.symm,hRi.il⟩
    exact h1.put (nel _ h1).1 (nel _ h1).2
  left
  refine r_cut0 ?_
  left
  refine i_b2 (fun hs=>?_) (fun hs=>?_)
  ·have ec:clsC d R.s=d.c_Hold:=by rw [hs];rfl
   left
   refine qb0 (SqL.of hN1) xn ?_
   left
   refine⟨lw,R.e,P.ws,R.ps,rfl,SqL.of hW1,SqL.of hP1,hRi.len.symm,by omega,fun a H2 s3 ha ea=>?_⟩
   left
   intro x dx hx hdx ne
   refine⟨x,dx,a,R.s,R.n,nmF P R.i,tdK (P.ws.zip R.ps),R.r,t,rfl,by rw [ec];exact qa1,by rw [qa9 (qa7 ea hx),qa9 (qa7 ea hdx)];exact ea,fun m H3 hm ex em sb=>⟨rfl,?_⟩⟩
   rw [←ec] at hm sb
   obtain⟨s13,el3,bs',e1,e2,e3⟩:=fin x dx a m H2 H3 s3 hx hdx ea hm ex em sb
   left
   exact⟨bs',_,_,_,_,_,_,rfl,qav ((sm.trans s2).trans s13) hl,by rw [qa1,e1],e2,e3⟩
  ·have ec:clsC d R.s=d.c_Loan:=by rw [hs];rfl
   left
   refine qb0 (SqL.of hN1) xn ?_
   left
   refine⟨lw,R.e,P.ws,R.ps,rfl,SqL.of hW1,SqL.of hP1,hRi.len.symm,by omega,fun a H2 s3 ha ea=>?_⟩
   left
   intro x dx hx hdx ne
   refine⟨x,dx,a,R.s,R.n,nmF P R.i,tdK (P.ws.zip R.ps),R.r,t,rfl,by rw [ec];exact qa1,by rw [qa9 (qa7 ea hx),qa9 (qa7 ea hdx)];exact ea,fun m H3 hm ex em sb=>⟨rfl,?_⟩⟩
   rw [←ec] at hm sb
   obtain⟨s13,el3,bs',e1,e2,e3⟩:=fin x dx a m H2 H3 s3 hx hdx ea hm ex em sb
   left
   exact⟨bs',_,_,_,_,_,_,rfl,qav ((sm.trans s2).trans s13) hl,by rw [qa1,e1],e2,e3⟩
 ·rintro σ H' ⟨bs,w1,w2,w3,w4,w5,w6,rfl,sm,el,hbs,hB⟩
  left
  rw [show Rs.take (rwV Rs).length=Rs by unfold rwV;rw [zB,zV]] at hbs
  exact q l bs H' sm el hbs hB
include T in
theorem ok_Tree_cap_of:FnOk P w K mg base (My.CX1 P w) 4 d.f_Tree_cap_of d.fd_Tree_cap_of ["self","name"] (sp_Tree_cap_of K d):=by
 refine okX T.F_Tree_cap_of sc_Tree_cap_of (fun vs H Q E h=>?_) (fun cdv A outer s H vs Q E hr h=>?_)
 ·obtain⟨t,S,x,rfl,_⟩:=h;rfl
 obtain⟨t,S,x,rfl,hT,hx,q1,q2⟩:=h
 refine⟨_,(qa6 (qaj (qc2 qea rfl T.z_dict PyProof.Rows.boot_dict (qa0 (qbh (qb5 (pv 0) T.CL_Tree T.ME_Tree_house_of ((ok_Tree_house_of T).mono (by decide)) hr T.b_Tree_house_of .nil qaz (qa0 (pv 1) qa2)) rfl) qa2)))),?_⟩
 walk_at "d"
 refine qaf (σ:=[some (.ref t),some (x)]) rfl ?_
 have hT0:=hT
 obtain⟨⟨dx,ht⟩,hw,hh,nd,hz,hE⟩:=hT
 have ct:=T.CL_Tree
 have nh:qaw K d.c_Tree "houses":=T.NA_Tree_houses
 left
 refine⟨t,S,x,rfl,hT0,hx,fun e he=>?_,q2⟩
 obtain⟨z,rfl⟩:∃z,x=.str z:=by
  rcases hx with h|⟨_,nz⟩
  ·exact h
  ·rw [qd8 nz] at he;cases he
 obtain⟨⟨dh,ho⟩,hp,hpA,hc,hcA⟩:=hE e (qc9 he).1
 have ch:=T.CL_House
 have nf:qaw K d.c_House "cap":=T.NA_House_cap
 have hRp:Rd H e.x.pa (.dK e.x.kp):=.inl hp
 have hRc:Rd H e.x.ca (.dK e.x.kc):=.inl hc
 left
 rename_i p hp
 exact q1 e he p hp
theorem r_dpT {H:Hp} {a b:Addr} {kvs:List (List Key × V)} {k:List Key} {v:V} {D:Ends} {σ:L2.St} (e:H a=some (.dT kvs)) (eb:H b=some (.tup (k.map kV))) (hz:kvs.length < sizeLine) (h:D.nx σ (upd H a (.dT (qdm kvs k v)))):rDP (.ref a) (.ref b) v H D σ:=⟨a,_,rfl,DPut.t e eb hz,h⟩
theorem r_dgT {H:Hp} {Q:VK} {a b:Addr} {kvs:List (List Key × V)} {k:List Key} {v:V} (d:Rd H a (.dT kvs)) (eb:H b=some (.tup (k.map kV))) (e:qcp kvs k=some v) (h:Q v H):rDGk (.ref a) (.ref b) H Q:=⟨a,v,rfl,.inr ⟨kvs,k,b,d,rfl,eb,e.symm⟩,h⟩
theorem r_dnewT {σ:L2.St} {H:Hp} {Q:VK} (h:∀p,H p=none→Q (.ref p) (upd H p (.dT []))):tDNewT σ H Q:=h
theorem qfz {κ:Type} [DecidableEq κ] {kvs:List (κ × V)} {k:κ} {v:V} (h:k∉kvs.map (·.1)):qdm kvs k v=kvs++ [(k,v)]:=by
 unfold qdm
 rw [if_neg]
 intro e
 obtain⟨x,hx,hk⟩:=List.any_eq_true.mp e
 exact h (zL.mpr ⟨x,hx,of_decide_eq_true hk⟩)
def qcs (z:Str) (ss:List Str) (val:Str→Int):List (List Key × V):=ss.map fun w=>([Sum.inr z,Sum.inr w],V.int (val w))
def qco (P:PL) (js:List Nat) (ss:List Str) (val:Nat→Str→Int):List (List Key × V):=js.flatMap fun j=>qcs (nmF P j) ss (val j)
def fcOf (S:Ts) (z:Str):Str→Option Int:=match S.at z with
 |some e=>e.x.fc
 |none=>noF
def useF (P:PL) (bs:List Ob) (j:Nat):Str→Option Int:=sumF ((bs.filter fun b=>decide (j∈qac (elN P.es) b.R.i)).map obPt)
def qbr (S:Ts) (P:PL) (bs:List Ob) (f:Str→Option Int) (j:Nat) (w:Str):Int:=gN (fcOf S (nmF P j)) w - gN (useF P bs j) w - gN f w
structure WdAt (K:Frag) (d:Ad) (H:Hp) (t lh:Addr) (S:Ts) (P:PL) (bs:List Ob) (n:Nat):Prop where
 tr:qf5 d H t S
 wf:WF S
 pl:Pl S (nmF P) (elN P.es) n
 nn:P.nm.length=n
 hs:∀j,j < n→(∃e,S.at (nmF P j)=some e)∧Dep S 12 (nmF P j)
 w3:P.ws.length≤3
 h:H lh=some (.lst (bsV bs))
 h63:bs.length≤63
 ob:∀b∈bs,ObAt d H P b
theorem WdAt.same {K:Frag} {d:Ad} {H H':Hp} {t lh:Addr} {S:Ts} {P:PL} {bs:List Ob} {n:Nat} (h:WdAt K d H t lh S P bs n) (s:qaq H H'):WdAt K d H' t lh S P bs n:=⟨h.tr.same s,h.wf,h.pl,h.nn,h.hs,h.w3,s _ _ h.h,h.h63,fun b hb=>(h.ob b hb).same s⟩
theorem rm_in {P:PL} {js:List Nat} {ss:List Str} {val:Nat→Str→Int} {k:List Key} (h:k∈(qco P js ss val).map (·.1)):∃j∈js,∃w∈ss,k=[Sum.inr (nmF P j),Sum.inr w]:=by
 obtain⟨x,hx,rfl⟩:=zL.mp h
 obtain⟨j,hj,hx⟩:=List.mem_flatMap.mp hx
 obtain⟨w,hw,rfl⟩:=zL.mp hx
 exact⟨j,hj,w,hw,rfl⟩
theorem rm_len (P:PL) (js:List Nat) (ss:List Str) (val:Nat→Str→Int):(qco P js ss val).length=js.length*ss.length:=by
 induction js with
 |nil=>simp [qco]
 |cons j r ih=>
  show (qcs (nmF P j) ss (val j)++qco P r ss val).length=_
  rw [zG,ih,zM,Nat.succ_mul]
  unfold qcs
  rw [zB]
  omega
def sp_rooms_left (K:Frag) (d:Ad):Sp:=fun vs H Q _=>∃(t lh ll am:Addr) (S:Ts) (P:PL) (bs:List Ob) (n:Nat) (js:List Nat) (ka:List (Key × V)) (f:Str→Option Int) (ss:List Str),vs=[.ref t,.ref lh,.ref ll,.ref am]∧WdAt K d H t lh S P bs n∧
 H ll=some (.lst (js.map fun j=>V.str (nmF P j)))∧(∀j∈js,j < n)∧js.Nodup∧js.length≤12∧H am=some (.dK ka)∧AD ka f∧ss.Perm (qbu ka)∧PyProof.Rows.sortedS ss=true∧ss.length≤6∧
 ∀(rm:Addr) H',qaq H H'→H rm=none→H' rm=some (.dT (qco P js ss (qbr S P bs f)))→Q (.ref rm) H'
include T in
theorem ok_rooms_left:FnOk P w K mg base CX0 19 d.f_rooms_left d.fd_rooms_left ["tree","holds","line","amounts"] (sp_rooms_left K d):=by
 refine T.F_rooms_left.ok sc_rooms_left (fun vs H Q E h=>?_) (fun cdv A outer s H vs Q E hr h=>?_)
 ·obtain⟨t,lh,ll,am,S,P,bs,n,js,ka,f,ss,rfl,_⟩:=h;rfl
 obtain⟨t,lh,ll,am,S,P,bs,n,js,ka,f,ss,rfl,hW,hl,jn,jd,j12,ha,hA,hp,hs,s6,q⟩:=h
 refine⟨_,(qa3 (qad (i:=4) sc_rooms_left.nd rfl (Or.inl rfl) pe_dnewT)
  (qa3 (qb2 PassesOwn.never rfl (qax (pv 2)) (qam (i:=5) sc_rooms_left.nd rfl (Or.inl rfl)) (qa3 (qad (i:=6) sc_rooms_left.nd rfl (Or.inl rfl) (qb5 (W:=fun _ _ _ _=>False) (pv 0) T.CL_Tree T.ME_Tree_cap_of ((ok_Tree_cap_of T).mono (by decide)) hr T.b_Tree_cap_of .nil qfc (qa0 (pv 5) qa2)))
  (qa3 (qad (i:=7) sc_rooms_left.nd rfl (Or.inl rfl) (qaa ((ok_used T).mono (by decide)) hr rfl T.m_used T.F_used.kp T.b_used .nil qag (qa0 (pv 0) (qa0 (pv 1) (qa0 (pv 5) qa2)))))
  (qa6 (qb2 PassesOwn.never rfl (qax (qae (qfk rfl) rfl T.z_sorted PyProof.Rows.boot_sorted (qa0 (pv 3) qa2))) (qam (i:=8) sc_rooms_left.nd rfl (Or.inl rfl)) (qa6 (qem (qd4 hr) (pv 4) (qc1 (qa0 (pv 5) (qa0 (pv 8) qa2))) (qah qed (qah qed (qaa ((ok_amount_of T).mono (by decide)) hr rfl T.m_amount_of T.F_amount_of.kp T.b_amount_of .nil qag (qa0 (pv 6) (qa0 (pv 8) qa2))) (qaa ((ok_amount_of T).mono (by decide)) hr rfl T.m_amount_of T.F_amount_of.kp T.b_amount_of .nil qag (qa0 (pv 7) (qa0 (pv 8) qa2)))) (qc7 (qd4 hr) (pv 3) (pv 8) (fun _ _=>rfl))) rfl)))))))
  (qa6 (qaj (pv 4))))),?_⟩
 walk_at "d"
 refine qaf (σ:=[some (.ref t),some (.ref lh),some (.ref ll),some (.ref am),none,none,none,none,none]) rfl ?_
 left
 refine r_dnewT fun rm hrm=>?_
 have s1:=qa8 hrm (.dT [])
 have e1:upd H rm (.dT []) rm=some (.dT (qco P [] ss (qbr S P bs f))):=qa1
 have l1:=s1 _ _ hl
 generalize upd H rm (.dT [])=H1 at*
 have snd:ss.Nodup:=hp.nodup_iff.mpr hA.knd
 have sk:∀w∈ss,∃m,f w=some m:=fun w hw=>by
  have z:=(hA.kin w).mp (hp.mem_iff.mp hw)
  cases e:f w with
  |none=>exact absurd e z
  |some m=>exact⟨m,rfl⟩
 have kl:ka.length≤6:=by have:=hp.length_eq;have:=hA.klen;omega
 left
 refine qd6 (xs:=js.map fun j=>V.str (nmF P j)) (fun i σ H'=>∃w1 w2 w3 w4:Option V,σ=[some (.ref t),some (.ref lh),some (.ref ll),some (.ref am),some (.ref rm),w1,w2,w3,w4]∧qaq H H'∧H' rm=some (.dT (qco P (js.take i) ss (qbr S P bs f))))
  ⟨_,_,_,_,rfl,s1,e1⟩ ?_ ?_ ?_
 ·rintro i σ H' _ ⟨w1,w2,w3,w4,rfl,sm,_⟩
  exact SqL.of (sm _ _ hl)
 ·rintro i v σ H' hv ⟨w1,w2,w3,w4,rfl,sm,er⟩
  rw [zC] at hv
  obtain⟨j,hj,rfl⟩:=Option.map_eq_some_iff.mp hv
  have hi:=(List.getElem?_eq_some_iff.mp hj).1
  have hjm:=zD hj
  have hjn:=jn j hjm
  have tk:js.take (i+1)=js.take i++ [j]:=by rw [zQ,hj];rfl
  have hnt:j∉js.take i:=fun hm=>by
   obtain⟨b,hb,e⟩:=zK.mp hm
   rw [zT] at hb
   rw [List.getElem_take] at e
   obtain⟨g1,g2⟩:=List.getElem?_eq_some_iff.mp hj
   exact(zZ.mp jd) b i (by omega) hi (by omega) (e.trans g2.symm)
  have hW1:=hW.same sm
  obtain⟨⟨e,ae⟩,dp⟩:=hW.hs j hjn
  have ct:=T.CL_Tree
  obtain⟨dx,ht⟩:=id hW1.tr.1
  left
  refine⟨t,S,.str (nmF P j),rfl,hW1.tr,.inl ⟨_,rfl⟩,fun e' he' p hp'=>?_,fun hn=>by rw [show who S (.str (nmF P j))=some e from ae] at hn;cases hn⟩
  have ee:e=e':=Option.some.inj (ae.symm.trans he')
  subst ee
  have hcA:AD e.x.kc e.x.fc:=(hW1.tr.2.2.2.2.2 e (qc9 ae).1).2.2.2.2
  have efc:fcOf S (nmF P j)=e.x.fc:=by unfold fcOf;rw [ae]
  have s2:=sm.trans (qa8 hp' (.dK e.x.kc))
  have ec:upd H' p (.dK e.x.kc) p=some (.dK e.x.kc):=qa1
  have er2:=qa4 (o':=.dK e.x.kc) er hp'
  generalize upd H' p (.dK e.x.kc)=H2 at*
  have hW2:=hW.same s2
  clear hW1 ht hp'
  left
  refine⟨t,lh,S,P,bs,nmF P j,e,rfl,hW2.tr,hW.wf,ae,dp,hW2.h,hW.h63,hW.w3,hW2.ob,fun lu zs ku H3 s3 hlu hBen eu hAu=>?_⟩
  have euf:(bs.filter (inZ P zs)).map obPt=(bs.filter fun b=>decide (j∈qac (elN P.es) b.R.i)).map obPt:=by
   congr 1
   refine List.filter_congr fun b hb=>?_
   unfold inZ
   have:=hW.pl.benIff hjn hBen (k:=b.R.i) (by have:=(hW.ob b hb).il;rw [hW.nn] at this;exact this)
   exact decide_eq_decide.mpr this
  rw [euf] at hAu
  change AD ku (useF P bs j) at hAu
  have s23:=s2.trans s3
  have ec3:=s3 _ _ ec
  have er3:=s3 _ _ er2
  have ha3:=s23 _ _ ha
  clear hBen euf hW2 hlu s2 s3 ec er2 er
  left
  refine r_sortD (.inl ha3) hA.keys (by have:=hA.klen;omega) fun ls ss' hls hp2 hs2=>?_
  have ess:ss'=ss:=sort_eq (hp2.trans hp.symm) hs2 hs
  subst ess
  have s4:=s23.trans (qa8 hls (.lst (ss'.map V.str)))
  have el:upd H3 ls (.lst (ss'.map V.str)) ls=some (.lst (ss'.map V.str)):=qa1
  have ec4:=qa4 (o':=.lst (ss'.map V.str)) ec3 hls
  have er4:=qa4 (o':=.lst (ss'.map V.str)) er3 hls
  have eu4:=qa4 (o':=.lst (ss'.map V.str)) eu hls
  have nrl:rm≠ls:=qa7 er3 hls
  generalize upd H3 ls (.lst (ss'.map V.str))=H4 at*
  clear hp2 hs2 hls s23 ec3 er3 eu ha3
  left
  refine qd6 (xs:=ss'.map V.str) (fun c σ H5=>∃w4:Option V,σ=[some (.ref t),some (.ref lh),some (.ref ll),some (.ref am),some (.ref rm),some (.str (nmF P j)),some (.ref p),some (.ref lu),w4]∧SameBut rm H4 H5∧H5 rm=some (.dT (qco P (js.take i) ss' (qbr S P bs f)++qcs (nmF P j) (ss'.take c) (qbr S P bs f j))))
   ⟨_,rfl,fun b o _ e=>e,by rw [er4];unfold qcs;simp⟩ ?_ ?_ ?_
  ·rintro c σ H5 _ ⟨w4,rfl,sb,_⟩
   exact SqL.of (sb _ _ nrl.symm el)
  ·rintro c v σ H5 hv5 ⟨w4,rfl,sb,er5⟩
   rw [zC] at hv5
   obtain⟨w,hw,rfl⟩:=Option.map_eq_some_iff.mp hv5
   have hc:=(List.getElem?_eq_some_iff.mp hw).1
   obtain⟨m,fm⟩:=sk w (zD hw)
   have hRp:Rd H5 p (.dK e.x.kc):=.inl (sb _ _ (fun z=>by subst z;rw [er4] at ec4;cases ec4) ec4)
   have hRu:Rd H5 lu (.dK ku):=.inl (sb _ _ (fun z=>by subst z;rw [er4] at eu4;cases eu4) eu4)
   have ha4:=s4 _ _ ha
   have hRa:Rd H5 am (.dK ka):=.inl (sb _ _ (fun z=>by subst z;rw [er4] at ha4;cases ha4) ha4)
   left
   rename_i p5 hp5
   have er6:=qa4 (o':=.tup [V.str (nmF P j),V.str w]) er5 hp5
   have tkw:ss'.take (c+1)=ss'.take c++ [w]:=by rw [zQ,hw];rfl
   have wnt:w∉ss'.take c:=fun hm=>by
    obtain⟨b,hb,e'⟩:=zK.mp hm
    rw [zT] at hb
    rw [List.getElem_take] at e'
    obtain⟨g1,g2⟩:=List.getElem?_eq_some_iff.mp hw
    exact(zZ.mp snd) b c (by omega) hc (by omega) (e'.trans g2.symm)
   have nin:([Sum.inr (nmF P j),Sum.inr w]:List Key)∉(qco P (js.take i) ss' (qbr S P bs f)++qcs (nmF P j) (ss'.take c) (qbr S P bs f j)).map (·.1):=fun hm=>by
    rw [zE] at hm
    rcases zN.mp hm with hm|hm
    ·obtain⟨j',hj',w',_,e'⟩:=rm_in hm
     have e1:nmF P j=nmF P j':=by
      have:=(List.cons.inj e').1
      exact Sum.inr.inj this
     have:=hW.pl.inj j j' hjn (jn j' (List.mem_of_mem_take hj')) e1
     subst this
     exact hnt hj'
    ·unfold qcs at hm
     rw [yO] at hm
     obtain⟨w',hw',e'⟩:=zL.mp hm
     have e2:w'=w:=Sum.inr.inj (List.cons.inj (List.cons.inj e').2).1
     exact wnt (e2 ▸ hw')
   have gf:gN f w=m:=by unfold gN;rw [fm];rfl
   have ev:gN e.x.fc w - gN (useF P bs j) w - m=qbr S P bs f j w:=by unfold qbr;rw [efc,gf]
   rw [ev]
   have sz:(qco P (js.take i) ss' (qbr S P bs f)++qcs (nmF P j) (ss'.take c) (qbr S P bs f j)).length < sizeLine:=by
    rw [zG,rm_len]
    unfold qcs
    rw [zB,zT,zT]
    have:min i js.length*ss'.length≤12*6:=Nat.mul_le_mul (by omega) s6
    show _ < 16777216
    omega
   refine r_dpT (k:=[Sum.inr (nmF P j),Sum.inr w]) er6 qa1 sz ?_
   rw [qfz nin]
   left
   refine⟨_,rfl,fun b o hb e'=>?_,?_⟩
   ·rw [qa9 hb,qa9 (qa7 (sb b o hb e') hp5)]
    exact sb b o hb e'
   ·rw [qa1,tkw,List.append_assoc]
    unfold qcs
    rw [zE]
    rfl
  ·rintro σ H5 ⟨w4,rfl,sb,er5⟩
   rw [zB,zV] at er5
   refine⟨_,_,_,_,rfl,fun b o hb=>?_,?_⟩
   ·exact sb _ _ (fun z=>by subst z;rw [hrm] at hb;cases hb) (s4 _ _ hb)
   ·rw [er5,tk]
    unfold qco
    rw [List.flatMap_append]
    simp
 ·rintro σ H' ⟨w1,w2,w3,w4,rfl,sm,er⟩
  rw [zB,zV] at er
  left
  exact q rm H' sm hrm er
structure Pr where
 a:Addr
 n:Int
 x:Int
def prV (ps:List Pr):List V:=ps.map fun p=> .ref p.a
def qc8 (H:Hp) (p:Pr):Prop:=H p.a=some (.tup [.int p.n,.int p.x])
def prN (ps:List Pr):List (Int × Int):=ps.map fun p=>(p.n,p.x)
def takeN (v:Str) (bs:List Ob):List (Int × Int):=(bs.filter fun b=>decide (0 < gN b.R.f v)).map fun b=>(b.R.n,gN b.R.f v)
def sp_taking (K:Frag) (d:Ad):Sp:=fun vs H Q _=>∃(t lh:Addr) (S:Ts) (P:PL) (bs:List Ob) (z v:Str) (e:He),vs=[.ref t,.ref lh,.str z,.str v]∧qf5 d H t S∧WF S∧S.at z=some e∧Dep S 12 z∧H lh=some (.lst (bsV bs))∧bs.length≤63∧(∀b∈bs,ObAt d H P b)∧
 ∀(l:Addr) (zs:List Str) (ps:List Pr) (H':Hp),qaq H H'→H l=none→Ben S 12 z zs→H' l=some (.lst (prV ps))→(∀p∈ps,qc8 H' p∧H p.a=none)→prN ps=takeN v (bs.filter (inZ P zs))→ps.length≤63→Q (.ref l) H'
theorem gN_pos {f:Str→Option Int} {v:Str} (h:0 < gN f v):f v=some (gN f v):=by
 unfold gN at h ⊢
 cases e:f v with
 |none=>rw [e] at h;exact absurd h (by decide)
 |some n=>rfl
include T in
theorem ok_taking:FnOk P w K mg base CX0 18 d.f_taking d.fd_taking ["tree","holds","house","ware"] (sp_taking K d):=by
 refine T.F_taking.ok sc_taking (fun vs H Q E h=>?_) (fun cdv A outer s H vs Q E hr h=>?_)
 ·obtain⟨t,lh,S,P,bs,z,v,e,rfl,_⟩:=h;rfl
 obtain⟨t,lh,S,P,bs,z,v,e,rfl,hT,hW,ae,hD,hL,h63,hB,q⟩:=h
 refine⟨_,(qa3 (qdr (j:=4) (caps:=[3]) (cn:=["ware"]) (qb1 rfl rfl (by rfl) (by rfl) rfl ⟨rfl,trivial⟩ (by rfl) rfl ⟨⟨rfl,rfl,rfl,rfl,_,rfl⟩,trivial⟩ (by decide)) rfl sc_taking.nd rfl rfl (qax (qaa ((ok_holds_beneath T).mono (by decide)) hr rfl T.m_holds_beneath T.F_holds_beneath.kp T.b_holds_beneath .nil qag (qa0 (pv 0) (qa0 (pv 1) (qa0 (pv 2) qa2))))) (fun _ _ _ _=>(qec (qak qf9 (qaa ((ok_amount_of T).mono (by decide)) hr rfl T.m_amount_of T.F_amount_of.kp T.b_amount_of .nil qag (qa0 (qbh (pv 0) rfl) (qa0 (pv 1) qa2))) qa5 (qap _)))) (fun _ _ _ _=>(pv 0)))
  (qa6 (qaj (qbp (caps:=[3]) (cn:=["ware"]) (qb1 rfl rfl (by rfl) (by rfl) rfl ⟨rfl,trivial⟩ (by rfl) rfl ⟨⟨rfl,rfl,rfl,rfl,_,rfl⟩,trivial⟩ (by decide)) rfl (qax (pv 4)) (fun _ _ _ _=>qcj) (fun _ _ _ _=>(qc1 (qa0 (qbh (pv 0) rfl) (qa0 (qc7 (qd4 hr) (qbh (pv 0) rfl) (pv 1) (fun _ _=>rfl)) qa2)))))))),?_⟩
 walk_at "d"
 try dsimp only [cxC]
 refine qaf (σ:=[some (.ref t),some (.ref lh),some (.str z),some (.str v),none]) rfl ?_
 left
 refine⟨t,lh,S,P,bs,z,e,rfl,hT,hW,ae,hD,hL,h63,hB,fun l1 zs H1 s1 hl1 hBen el1=>?_⟩
 have hB1:∀b∈bs.filter (inZ P zs),ObAt d H1 P b:=fun b hb=>(hB b (yF.mp hb).1).same s1
 have h63':(bs.filter (inZ P zs)).length≤63:=Nat.le_trans (zU ..) h63
 have q1:∀(l:Addr) (ps:List Pr) (H':Hp),qaq H H'→H l=none→H' l=some (.lst (prV ps))→(∀p∈ps,qc8 H' p∧H p.a=none)→prN ps=takeN v (bs.filter (inZ P zs))→ps.length≤63→Q (.ref l) H':=fun l ps H' a b c d e f=>q l zs ps H' a b hBen c d e f
 clear q
 generalize bs.filter (inZ P zs)=cs at*
 clear hT hD hL hB
 left
 intro C s0 H0 fp acc hacc
 refine qf7 cs.length (fun i H'=>H'=upd H1 acc (.lst (bsV ((cs.take i).filter fun b=>decide (0 < gN b.R.f v))))) rfl ?_ ?_ ?_ ?_
 ·rintro i H' hi rfl
  exact⟨_,.ref cs[i].o,SqL.of (qa4 el1 hacc),by unfold bsV;rw [zC,zA hi];rfl⟩
 ·rintro H' rfl
  exact⟨_,SqL.of (qa4 el1 hacc),by unfold bsV;rw [zB];exact Nat.le_refl _⟩
 ·rintro i H' u H'' hi rfl ⟨rfl,hy⟩
  have hv:=hy _ (SqL.of (qa4 el1 hacc))
  unfold bsV at hv
  rw [zC,zA hi] at hv
  cases hv
  have hb:=hB1 _ (zJ hi)
  have tk:cs.take (i+1)=cs.take i++ [cs[i]]:=by rw [zQ,zA hi];rfl
  generalize hbi:cs[i]=b at*
  obtain⟨dx,hbo⟩:=hb.obj
  have hbo':=qa4 (o':=.lst (bsV ((cs.take i).filter fun b=>decide (0 < gN b.R.f v)))) hbo hacc
  have hbm:Rd (upd H1 acc (.lst (bsV ((cs.take i).filter fun b=>decide (0 < gN b.R.f v))))) b.m (.dK b.R.k):=.inl (qa4 hb.amt hacc)
  have hAb:=hb.ad
  obtain⟨cl,n1,n2,n3,n4,n5⟩:=clsOk T b.R.s
  have zl:(bsV ((cs.take i).filter fun b=>decide (0 < gN b.R.f v))).length < sizeLine:=by
   unfold bsV
   rw [zB]
   have h1:=zU (fun b:Ob=>decide (0 < gN b.R.f v)) (cs.take i)
   rw [zT] at h1
   show _ < 16777216
   omega
  left
  refine i_2 (fun c=>?_) (fun c=>?_)
  ·left
   rw [qbb,tk,yC,zY,if_pos (decide_eq_true c)]
   congr 2
   unfold bsV
   rw [zE];rfl
  ·left
   rw [tk,yC,zY,if_neg (by rw [decide_eq_false c];decide),yP,yD]
 rintro H' rfl
 rw [zV]
 have s2:=qa8 hacc (.lst (bsV (cs.filter fun b=>decide (0 < gN b.R.f v))))
 have e2:upd H1 acc (.lst (bsV (cs.filter fun b=>decide (0 < gN b.R.f v)))) acc=some (.lst (bsV (cs.filter fun b=>decide (0 < gN b.R.f v)))):=qa1
 generalize upd H1 acc (.lst (bsV (cs.filter fun b=>decide (0 < gN b.R.f v))))=H2 at*
 have hB2:∀b∈cs.filter (fun b=>decide (0 < gN b.R.f v)),ObAt d H2 P b∧0 < gN b.R.f v:=fun b hb=>⟨(hB1 b (yF.mp hb).1).same s2,of_decide_eq_true (yF.mp hb).2⟩
 have h63'':(cs.filter fun b=>decide (0 < gN b.R.f v)).length≤63:=Nat.le_trans (zU ..) h63'
 have q':∀(l:Addr) (ps:List Pr) (H':Hp),qaq H2 H'→H2 l=none→H' l=some (.lst (prV ps))→(∀p∈ps,qc8 H' p∧H2 p.a=none)→prN ps=(cs.filter fun b=>decide (0 < gN b.R.f v)).map (fun b=>(b.R.n,gN b.R.f v))→ps.length≤63→Q (.ref l) H':=fun l ps H' sm hl el hp hn h6=>
  q1 l ps H' ((s1.trans s2).trans sm) ((s1.trans s2).free hl) el (fun p h=>⟨(hp p h).1,(s1.trans s2).free (hp p h).2⟩) hn h6
 generalize cs.filter (fun b=>decide (0 < gN b.R.f v))=ds at*
 clear q1 hB1 el1 hacc hBen s1 s2
 left
 intro C s0 H0 fp acc2 hacc2
 refine qf7 ds.length (fun i H'=>∃ps:List Pr,qaq H2 H'∧H' acc2=some (.lst (prV ps))∧prN ps=(ds.take i).map (fun b=>(b.R.n,gN b.R.f v))∧∀p∈ps,qc8 H' p∧H2 p.a=none) ⟨[],qa8 hacc2 _,qa1,rfl,fun p h=>by simp at h⟩ ?_ ?_ ?_ ?_
 ·rintro i H' hi ⟨ps,sm,_⟩
  exact⟨_,.ref ds[i].o,SqL.of (sm _ _ e2),by unfold bsV;rw [zC,zA hi];rfl⟩
 ·rintro H' ⟨ps,sm,_⟩
  exact⟨_,SqL.of (sm _ _ e2),by unfold bsV;rw [zB];exact Nat.le_refl _⟩
 ·rintro i H' u H'' hi ⟨ps,sm,ea,hn,hp⟩ ⟨rfl,hy⟩
  have hv:=hy _ (SqL.of (sm _ _ e2))
  unfold bsV at hv
  rw [zC,zA hi] at hv
  cases hv
  obtain⟨hb0,hpos⟩:=hB2 _ (zJ hi)
  have hb:=hb0.same sm
  have tk:ds.take (i+1)=ds.take i++ [ds[i]]:=by rw [zQ,zA hi];rfl
  have hpl:ps.length=i:=by
   have:=congrArg List.length hn
   unfold prN at this
   rw [zB,zB,zT] at this
   omega
  generalize hbi:ds[i]=b at*
  obtain⟨dx,hbo⟩:=hb.obj
  have hbm:Rd H'' b.m (.dK b.R.k):=.inl hb.amt
  have hAb:=hb.ad
  have hfv:=gN_pos hpos
  generalize hgx:gN b.R.f v=gx at*
  obtain⟨cl,n1,n2,n3,n4,n5⟩:=clsOk T b.R.s
  have zl:(prV ps).length < sizeLine:=by unfold prV;rw [zB];show _ < 16777216;omega
  left
  rename_i p hp0
  have s3:=qa8 hp0 (.tup [.int b.R.n,.int gx])
  have ea3:=s3 _ _ ea
  refine⟨ps++ [⟨p,b.R.n,gx⟩],qav (sm.trans s3) hacc2,by rw [qa1];unfold prV;rw [zE];rfl,?_,fun x hx=>?_⟩
  ·unfold prN at hn ⊢
   rw [zE,hn,tk,zE,List.map_singleton,List.map_singleton,hgx]
  ·rcases zN.mp hx with h|h
   ·have h1:=s3 _ _ (hp x h).1
    exact⟨by show upd _ acc2 _ x.a=_;rw [qa9 (ne_of h1 ea3 (by simp))];exact h1,(hp x h).2⟩
   ·rw [zH.mp h]
    exact⟨by show upd _ acc2 _ p=_;rw [qa9 (qa7 ea hp0).symm];exact qa1,sm.free hp0⟩
 rintro H' ⟨ps,sm,ea,hn,hp⟩
 rw [zV] at hn
 left
 exact q' acc2 ps H' sm hacc2 ea hp hn (by
  have:=congrArg List.length hn
  unfold prN at this
  rw [zB,zB] at this
  omega)
def sp_first_lack (K:Frag) (d:Ad):Sp:=fun vs H Q _=>∃(t lh ll am:Addr) (S:Ts) (P:PL) (bs:List Ob) (n:Nat) (js:List Nat) (ka:List (Key × V)) (f:Str→Option Int) (ss:List Str),vs=[.ref t,.ref lh,.ref ll,.ref am]∧WdAt K d H t lh S P bs n∧
 H ll=some (.lst (js.map fun j=>V.str (nmF P j)))∧(∀j∈js,j < n)∧js.Nodup∧js.length≤12∧H am=some (.dK ka)∧AD ka f∧ss.Perm (qbu ka)∧PyProof.Rows.sortedS ss=true∧ss.length≤6∧
 ((∀j∈js,∀w∈ss,0≤qbr S P bs f j w)→∀H',qaq H H'→Q .non H')∧
 ∀(a b j:Nat) (w:Str),js[a]?=some j→ss[b]?=some w→(∀(a' j':Nat) (w':Str),a' < a→js[a']?=some j'→w'∈ss→0≤qbr S P bs f j' w')→(∀(b':Nat) (w':Str),b' < b→ss[b']?=some w'→0≤qbr S P bs f j w')→qbr S P bs f j w < 0→∀(p l:Addr) (ps:List Pr) H',qaq H H'→H p=none→H' p=some (.tup [.str (nmF P j),.str w,.ref l])→H l=none→H' l=some (.lst (prV ps))→(∀p∈ps,qc8 H' p∧H p.a=none)→prN ps=takeN w (bs.filter fun b=>decide (j∈qac (elN P.es) b.R.i))→Q (.ref p) H'
theorem qcr (z:Str) (ss:List Str) (val:Str→Int):(qcs z ss val).length=ss.length:=by unfold qcs;rw [zB]
theorem rmRow_at {z:Str} {ss:List Str} {val:Str→Int} {b:Nat} {w:Str} (h:ss[b]?=some w):(qcs z ss val)[b]?=some (([Sum.inr z,Sum.inr w]:List Key),V.int (val w)):=by
 unfold qcs
 rw [zC,h];rfl
theorem rm_pos {P:PL} {ss:List Str} {val:Nat→Str→Int} {w:Str} {b:Nat} (hb:ss[b]?=some w):∀{js:List Nat} {a j:Nat},js[a]?=some j→(qco P js ss val)[a*ss.length+b]?=some (([Sum.inr (nmF P j),Sum.inr w]:List Key),V.int (val j w))
 | [],a,j,h=>by simp at h
 |x :: js,0,j,h=>by
  have e:x=j:=by simpa using h
  subst e
  have hl:=(List.getElem?_eq_some_iff.mp hb).1
  show (qcs (nmF P x) ss (val x)++qco P js ss val)[0*ss.length+b]?=_
  rw [Nat.zero_mul,Nat.zero_add,yB (by rw [qcr];exact hl)]
  exact rmRow_at hb
 |x :: js,a+1,j,h=>by
  have h':js[a]?=some j:=by simpa using h
  show (qcs (nmF P x) ss (val x)++qco P js ss val)[(a+1)*ss.length+b]?=_
  rw [Nat.succ_mul,zW (by rw [qcr];omega),qcr,show a*ss.length+ss.length+b - ss.length=a*ss.length+b by omega]
  exact rm_pos hb h'
theorem rm_place {P:PL} {ss:List Str} {val:Nat→Str→Int} {k:List Key} {v:V}:∀{js:List Nat} {i:Nat},(qco P js ss val)[i]?=some (k,v)→∃(a b j:Nat) (w:Str),i=a*ss.length+b∧js[a]?=some j∧ss[b]?=some w∧k=[Sum.inr (nmF P j),Sum.inr w]∧v=.int (val j w)
 | [],i,h=>by
  have h:([]:List (List Key × V))[i]?=some (k,v):=h
  simp at h
 |x :: js,i,h=>by
  have h:(qcs (nmF P x) ss (val x)++qco P js ss val)[i]?=some (k,v):=h
  by_cases c:i < ss.length
  ·rw [yB (by rw [qcr];exact c)] at h
   have e:=zA c
   rw [rmRow_at e] at h
   cases h
   exact⟨0,i,x,ss[i],by omega,rfl,e,rfl,rfl⟩
  ·rw [zW (by rw [qcr];omega),qcr] at h
   obtain⟨a,b,j,w,e,ha,hb,hk,hv⟩:=rm_place h
   exact⟨a+1,b,j,w,by rw [Nat.succ_mul];omega,by simpa using ha,hb,hk,hv⟩
theorem rm_nd {P:PL} {js:List Nat} {ss:List Str} {val:Nat→Str→Int} (inj:∀i∈js,∀j∈js,nmF P i=nmF P j→i=j) (jd:js.Nodup) (sd:ss.Nodup):((qco P js ss val).map (·.1)).Nodup:=by
 induction js with
 |nil=>exact yH
 |cons j r ih=>
  show ((qcs (nmF P j) ss (val j)++qco P r ss val).map (·.1)).Nodup
  rw [zX] at jd
  rw [zE]
  refine yK.mpr ⟨?_,ih (fun a ha b hb=>inj a (zF _ ha) b (zF _ hb)) jd.2,fun a ha b hb e=>?_⟩
  ·unfold qcs
   rw [yO]
   show List.Pairwise _ _
   rw [List.pairwise_map]
   exact List.Pairwise.imp (fun {x y} h e=>h (Sum.inr.inj (List.cons.inj (List.cons.inj e).2).1)) sd
  ·unfold qcs at ha
   rw [yO] at ha
   obtain⟨w,_,rfl⟩:=zL.mp ha
   obtain⟨j',hj',w',_,e'⟩:=rm_in hb
   have e1:nmF P j=nmF P j':=Sum.inr.inj (List.cons.inj (e.trans e')).1
   have:=inj j (zI ..) j' (zF _ hj') e1
   subst this
   exact jd.1 hj'
theorem valV_at {κ:Type} [DecidableEq κ] {kvs:List (κ × V)} (nd:(kvs.map (·.1)).Nodup) {i:Nat} {k:κ} {v:V} (h:kvs[i]?=some (k,v)):qcp kvs k=some v:=by
 induction kvs generalizing i with
 |nil=>simp at h
 |cons x r ih=>
  rw [zS,zX] at nd
  cases i with
  |zero=>
   simp only [List.getElem?_cons_zero,Option.some.injEq] at h
   subst h
   unfold qcp
   simp
  |succ i=>
   simp only [List.getElem?_cons_succ] at h
   have hne:¬x.1=k:=fun e=>nd.1 (e ▸ zL.mpr ⟨(k,v),zD h,rfl⟩)
   have z:=ih nd.2 h
   unfold qcp at z ⊢
   simpa [yM,hne] using z
theorem r_itDT {a:Addr} {H:Hp} {kvs:List (List Key × V)} {R:It→Hp→Prop} (e:H a=some (.dT kvs)) (h:∀o,R (ItDT a o kvs) (upd H a (.frz o (.dT kvs)))):rItDT (.ref a) H R:=⟨a,kvs,rfl,e,h⟩
theorem r_iDT {tl:TE} {σ:L2.St} {H:Hp} {R:It→Hp→Prop} (h:tl σ H fun x H1=>rItDT x H1 R):iDictT tl σ H R:=h
theorem f_dictT {D:Ends} {σ:L2.St} {H:Hp} {g:TG} {tb:TS} {a:Addr} {o:Obj} {kvs:List (List Key × V)} (Pv:Nat→L2.St→Hp→Prop) (h0:Pv 0 σ H) (hl:∀i σ H,i≤kvs.length→Pv i σ H→H a=some (.frz o (.dT kvs)))
  (hs:∀i k v b σ H,kvs[i]?=some (k,v)→H b=some (.tup (k.map kV))→Pv i σ H→g (.ref b) σ H fun σ2 H2=>tb {nx:=Pv (i+1),rt:=D.rt,bk:=D.nx,ct:=Pv (i+1)} σ2 H2) (hd:∀σ H,Pv kvs.length σ H→D.nx σ H):FOR (ItDT a o kvs) g tb D σ H:=by
 refine⟨fun i m σ H=>m=kvs.length - i∧i≤kvs.length∧Pv i σ H,⟨kvs.length,rfl,Nat.zero_le _,h0⟩,?_⟩
 rintro i m σ H ⟨rfl,hi,p⟩
 have q:=hl i σ H hi p
 by_cases hlt:i < kvs.length
 ·refine .inr ⟨⟨q,hlt⟩,Pv (i+1),fun σ' H' p'=>⟨kvs.length - (i+1),by omega,rfl,hlt,p'⟩,fun x H' y=>?_⟩
  obtain⟨e,k,v,b,hk,rfl,hb⟩:=y
  subst e
  exact hs i k v b σ _ hk hb p
 ·have e:i=kvs.length:=Nat.le_antisymm hi (Nat.le_of_not_lt hlt)
  subst e
  exact .inl ⟨⟨q,Nat.le_refl _⟩,hd σ H p⟩
include T in
theorem ok_first_lack:FnOk P w K mg base CX0 20 d.f_first_lack d.fd_first_lack ["tree","holds","line","amounts"] (sp_first_lack K d):=by
 refine T.F_first_lack.ok sc_first_lack (fun vs H Q E h=>?_) (fun cdv A outer s H vs Q E hr h=>?_)
 ·obtain⟨t,lh,ll,am,S,P,bs,n,js,ka,f,ss,rfl,_⟩:=h;rfl
 obtain⟨t,lh,ll,am,S,P,bs,n,js,ka,f,ss,rfl,hW,hl,jn,jd,j12,ha,hA,hp,hs,s6,qn,q⟩:=h
 refine⟨_,(qa3 (qad (i:=4) sc_first_lack.nd rfl (Or.inl rfl) (qaa ((ok_rooms_left T).mono (by decide)) hr rfl T.m_rooms_left T.F_rooms_left.kp T.b_rooms_left .nil qag (qa0 (pv 0) (qa0 (pv 1) (qa0 (pv 2) (qa0 (pv 3) qa2))))))
  (qa3 (qb2 PassesOwn.never rfl (pi_dictT (pv 4)) (qam (i:=5) sc_first_lack.nd rfl (Or.inl rfl)) (qa6 (qbc (qak op_lt (qc7 (qd4 hr) (pv 4) (pv 5) (fun _ _=>rfl)) qa5 (qap _)) (qa6 (qaj (qc1 (qa0 (qal qb4 (pv 5) qa5 (fun _ _=>rfl)) (qa0 (qal qb4 (pv 5) qa5 (fun _ _=>rfl)) (qa0 (qaa ((ok_taking T).mono (by decide)) hr rfl T.m_taking T.F_taking.kp T.b_taking .nil qag (qa0 (pv 0) (qa0 (pv 1) (qa0 (qal qb4 (pv 5) qa5 (fun _ _=>rfl)) (qa0 (qal qb4 (pv 5) qa5 (fun _ _=>rfl)) qa2))))) qa2)))))) qan)))
  (qa6 (qaj qdo)))),?_⟩
 walk_at "d"
 refine qaf (σ:=[some (.ref t),some (.ref lh),some (.ref ll),some (.ref am),none,none]) rfl ?_
 left
 refine⟨t,lh,ll,am,S,P,bs,n,js,ka,f,ss,rfl,hW,hl,jn,jd,j12,ha,hA,hp,hs,s6,fun rm H1 s1 hrm er=>?_⟩
 have snd:ss.Nodup:=hp.nodup_iff.mpr hA.knd
 have knd:=rm_nd (val:=qbr S P bs f) (fun a ha b hb e=>hW.pl.inj a b (jn a ha) (jn b hb) e) jd snd
 have hput:∀{a b j:Nat} {w:Str},js[a]?=some j→ss[b]?=some w→(qco P js ss (qbr S P bs f))[a*ss.length+b]?=some (([Sum.inr (nmF P j),Sum.inr w]:List Key),V.int (qbr S P bs f j w)):=fun ha hb=>rm_pos hb ha
 have hget:∀{i:Nat} {k:List Key} {v:V},(qco P js ss (qbr S P bs f))[i]?=some (k,v)→∃(a b j:Nat) (w:Str),i=a*ss.length+b∧js[a]?=some j∧ss[b]?=some w∧k=[Sum.inr (nmF P j),Sum.inr w]∧v=.int (qbr S P bs f j w):=fun h=>rm_place h
 generalize qco P js ss (qbr S P bs f)=kvs at*
 left
 refine r_iDT ?_
 left
 refine r_itDT er fun o=>?_
 have sF:∀{H':Hp},qaq (upd H1 rm (.frz o (.dT kvs))) H'→qaq H H':=fun s b u hb=>s b u (by rw [qa9 (fun z=>by subst z;rw [hrm] at hb;cases hb)];exact s1 b u hb)
 refine f_dictT (fun i σ H'=>H'=upd H1 rm (.frz o (.dT kvs))∧(∃w:Option V,σ=[some (.ref t),some (.ref lh),some (.ref ll),some (.ref am),some (.ref rm),w])∧∀(i' j:Nat) (w:Str),i' < i→kvs[i']?=some (([Sum.inr (nmF P j),Sum.inr w]:List Key),V.int (qbr S P bs f j w))→0≤qbr S P bs f j w)
  ⟨rfl,⟨_,rfl⟩,fun i' j w h=>absurd h (by omega)⟩ ?_ ?_ ?_
 ·rintro i σ H' _ ⟨rfl,_⟩
  exact qa1
 ·rintro i k v b σ H' hk hb ⟨rfl,⟨w0,rfl⟩,hall⟩
  obtain⟨a0,b0,j,w,rfl,ha0,hb0,rfl,rfl⟩:=hget hk
  have hj:=zD ha0
  have hb0l:=(List.getElem?_eq_some_iff.mp hb0).1
  have hv:=valV_at knd hk
  have hb:upd H1 rm (.frz o (.dT kvs)) b=some (.tup [.str (nmF P j),.str w]):=hb
  have hR:Rd (upd H1 rm (.frz o (.dT kvs))) rm (.dT kvs):=.inr ⟨o,qa1⟩
  left
  refine r_dgT (k:=[Sum.inr (nmF P j),Sum.inr w]) hR hb hv ?_
  left
  refine i_2 (fun c=>?_) (fun c=>?_)
  ·have hW1:=hW.same (sF (qaq.refl _))
   obtain⟨⟨e,ae⟩,dp⟩:=hW.hs j (jn j hj)
   left
   refine⟨t,lh,S,P,bs,nmF P j,w,e,rfl,hW1.tr,hW.wf,ae,dp,hW1.h,hW.h63,hW1.ob,fun l zs ps H2 s2 hl2 hBen el hp2 hn2 _=>?_⟩
   have euf:bs.filter (inZ P zs)=bs.filter fun b=>decide (j∈qac (elN P.es) b.R.i):=by
    refine List.filter_congr fun b hb=>?_
    unfold inZ
    have:=hW.pl.benIff (jn j hj) hBen (k:=b.R.i) (by have:=(hW.ob b hb).il;rw [hW.nn] at this;exact this)
    exact decide_eq_decide.mpr this
   rw [euf] at hn2
   left
   rename_i p3 hp3
   have free:∀{a:Addr},upd H1 rm (.frz o (.dT kvs)) a=none→H a=none:=fun {a} h=>(sF (qaq.refl _)).free h
   have f1:∀(a' j':Nat) (w':Str),a' < a0→js[a']?=some j'→w'∈ss→0≤qbr S P bs f j' w':=fun a' j' w' h1 h2 h3=>by
    obtain⟨b',hb',e'⟩:=zK.mp h3
    have h4:ss[b']?=some w':=by rw [zA hb',e']
    refine hall (a'*ss.length+b') j' w' ?_ (hput h2 h4)
    have:=Nat.mul_le_mul_right ss.length (show a'+1≤a0 by omega)
    rw [Nat.succ_mul] at this
    omega
   have f2:∀(b':Nat) (w':Str),b' < b0→ss[b']?=some w'→0≤qbr S P bs f j w':=fun b' w' h1 h2=>hall (a0*ss.length+b') j w' (by omega) (hput ha0 h2)
   exact q a0 b0 j w ha0 hb0 f1 f2 c p3 l ps _ (qb7 (sF s2) hp3) (free (s2.free hp3)) qa1 (free hl2) (qa4 el hp3) (fun x hx=>⟨qa4 (hp2 x hx).1 hp3,free (hp2 x hx).2⟩) hn2
  ·left
   refine⟨rfl,⟨_,rfl⟩,fun i' j' w' hi' hk'=>?_⟩
   by_cases e:i'=a0*ss.length+b0
   ·subst e
    rw [hk] at hk'
    obtain⟨e1,e2⟩:=Prod.mk.inj (Option.some.inj hk')
    have e3:qbr S P bs f j w=qbr S P bs f j' w':=V.int.inj e2
    omega
   ·exact hall i' j' w' (by omega) hk'
 ·rintro σ H' ⟨rfl,⟨w0,rfl⟩,hall⟩
  left
  refine qn (fun j hj w hw=>?_) _ (sF (qaq.refl _))
  obtain⟨a0,ha0,e0⟩:=zK.mp hj
  obtain⟨b0,hb0,e1⟩:=zK.mp hw
  have hi:=hput (a:=a0) (b:=b0) (j:=j) (w:=w) (by rw [zA ha0,e0]) (by rw [zA hb0,e1])
  exact hall _ j w (List.getElem?_eq_some_iff.mp hi).1 hi
structure Fst (L:List Nat) (ss:List Str) (rm:Nat→Str→Int) (a b i:Nat) (w:Str):Prop where
 ha:L[a]?=some i
 hb:ss[b]?=some w
 f1:∀(a' j':Nat) (w':Str),a' < a→L[a']?=some j'→w'∈ss→0≤rm j' w'
 f2:∀(b':Nat) (w':Str),b' < b→ss[b']?=some w'→0≤rm i w'
 ng:rm i w < 0
theorem Fst.one {L:List Nat} {ss:List Str} {rm:Nat→Str→Int} {a b i a' b' i':Nat} {w w':Str} (h:Fst L ss rm a b i w) (h':Fst L ss rm a' b' i' w'):i=i'∧w=w':=by
 have e:a=a':=by
  rcases Nat.lt_trichotomy a a' with c|c|c
  ·exact absurd (h'.f1 a i w c h.ha (zD h.hb)) (by have:=h.ng;omega)
  ·exact c
  ·exact absurd (h.f1 a' i' w' c h'.ha (zD h'.hb)) (by have:=h'.ng;omega)
 subst e
 have ei:i=i':=Option.some.inj (h.ha.symm.trans h'.ha)
 subst ei
 have e:b=b':=by
  rcases Nat.lt_trichotomy b b' with c|c|c
  ·exact absurd (h'.f2 b w c h.hb) (by have:=h.ng;omega)
  ·exact c
  ·exact absurd (h.f2 b' w' c h'.hb) (by have:=h'.ng;omega)
 subst e
 exact⟨rfl,Option.some.inj (h.hb.symm.trans h'.hb)⟩
theorem perm_nd:∀{l l':List Str},l.Nodup→l'.Nodup→(∀w,w∈l↔w∈l')→l.Perm l'
 | [],l',_,_,h=>by
  cases l' with
  |nil=>exact List.Perm.refl _
  |cons y r=>exact absurd ((h y).mpr (zI ..)) (by simp)
 |x :: l,l',h1,h2,h=>by
  have hx:x∈l':=(h x).mp (zI ..)
  obtain⟨nx,nl⟩:=zX.mp h1
  refine(List.Perm.cons x (perm_nd nl (h2.erase x) fun w=>?_)).trans (List.perm_cons_erase hx).symm
  rw [h2.mem_erase_iff,←h w,zR]
  exact⟨fun hw=>⟨fun e=>nx (e ▸ hw),.inr hw⟩,fun⟨ne,hw⟩=>hw.resolve_left ne⟩
theorem r_notSs {K:Frag} {H:Hp} {Q:VK} {p:Addr} {y:Str} {nm:List Str} (h:SqL K H p (nm.map V.str)) (q:Q (.bl (!decide (y∈nm))) H):rIn K true (.str y) (.ref p) H Q:=⟨p,_,rfl,.inl h,rfl,flat_strs nm,by
 show Q (.bl (!inV (.str y) (nm.map V.str))) H
 rw [My.qex];exact q⟩
def qes (el:Nat→Nat) (h e:Nat):List Nat:=(qac el e).filter fun i=>!decide (i∈qac el h)
def barR (S:Ts) (P:PL) (bs:List Ob) (h:Nat):Nat→Str→Int:=qbr S P bs (useF P bs h)
def BarN (H0 H:Hp) (S:Ts) (P:PL) (bs:List Ob) (h e:Nat) (ss:List Str) (x:V):Prop:=(x=.non∧∀i∈qes (elN P.es) h e,∀w∈ss,0≤barR S P bs h i w)∨∃(a b i:Nat) (w:Str) (p l:Addr) (ps:List Pr),x=.ref p∧Fst (qes (elN P.es) h e) ss (barR S P bs h) a b i w∧H p=some (.tup [.str (nmF P i),.str w,.ref l])∧H l=some (.lst (prV ps))∧(∀p∈ps,qc8 H p)∧H0 p=none∧H0 l=none∧prN ps=takeN w (bs.filter fun b=>decide (i∈qac (elN P.es) b.R.i))
def sp_bar (K:Frag) (d:Ad):Sp:=fun vs H Q _=>∃(t lh:Addr) (S:Ts) (P:PL) (bs:List Ob) (n h e:Nat) (ss:List Str),vs=[.ref t,.ref lh,.str (nmF P h),.str (nmF P e)]∧WdAt K d H t lh S P bs n∧n≤12∧h < n∧e < n∧ss.Nodup∧(∀w,w∈ss↔useF P bs h w≠none)∧PyProof.Rows.sortedS ss=true∧ss.length≤6∧
 ∀x H',qaq H H'→BarN H H' S P bs h e ss x→Q x H'
include T in
theorem ok_bar:FnOk P w K mg base CX0 21 d.f_bar d.fd_bar ["tree","holds","house","elder"] (sp_bar K d):=by
 refine T.F_bar.ok sc_bar (fun vs H Q E h=>?_) (fun cdv A outer s H vs Q E hr h=>?_)
 ·obtain⟨t,lh,S,P,bs,n,h,e,ss,rfl,_⟩:=h;rfl
 obtain⟨t,lh,S,P,bs,n,h,e,ss,rfl,hW,n12,hn,en,snd,smem,ssort,s6,q⟩:=h
 refine⟨_,(qa3 (qad (i:=4) sc_bar.nd rfl (Or.inr rfl) (qb5 (W:=fun _ _ _ _=>False) (pv 0) T.CL_Tree T.ME_Tree_line ((ok_Tree_line T).mono (by decide)) hr T.b_Tree_line .nil qfc (qa0 (pv 2) qa2)))
  (qa3 (qdr (j:=5) (caps:=[4]) (cn:=["own_line"]) (qb1 rfl rfl (by rfl) (by rfl) rfl ⟨rfl,trivial⟩ (by rfl) rfl ⟨⟨rfl,rfl,rfl,rfl,_,rfl⟩,trivial⟩ (by decide)) rfl sc_bar.nd rfl rfl (qax (qb5 (W:=fun _ _ _ _=>False) (pv 0) T.CL_Tree T.ME_Tree_line ((ok_Tree_line T).mono (by decide)) hr T.b_Tree_line .nil qfc (qa0 (pv 3) qa2))) (fun _ _ _ _=>(qec (qak qcl (pv 0) (pv 1) (by rfl)))) (fun _ _ _ _=>(pv 0)))
  (qa6 (qaj (qaa ((ok_first_lack T).mono (by decide)) hr rfl T.m_first_lack T.F_first_lack.kp T.b_first_lack .nil qag (qa0 (pv 0) (qa0 (pv 1) (qa0 (pv 5) (qa0 (qaa ((ok_used T).mono (by decide)) hr rfl T.m_used T.F_used.kp T.b_used .nil qag (qa0 (pv 0) (qa0 (pv 1) (qa0 (pv 2) qa2)))) qa2))))))))),?_⟩
 walk_at "d"
 try dsimp only [cxC]
 refine qaf (σ:=[some (.ref t),some (.ref lh),some (.str (nmF P h)),some (.str (nmF P e)),none,none]) rfl ?_
 have ct:=T.CL_Tree
 obtain⟨dx,ht⟩:=id hW.tr.1
 obtain⟨⟨eh,aeh⟩,dp⟩:=hW.hs h hn
 have lhe:=qcn hW.pl.low e en
 have lhh:=qcn hW.pl.low h hn
 left
 refine⟨t,S,.str (nmF P h),rfl,hW.tr,.inl ⟨nmF P h,(qac (elN P.es) h).map (nmF P),rfl,hW.pl.line h hn,by rw [zB];have:=qcf hW.pl.low h hn;omega,fun lo hlo=>?_⟩⟩
 have s1:=qa8 hlo (.lst (((qac (elN P.es) h).map (nmF P)).map V.str))
 have e1:upd H lo (.lst (((qac (elN P.es) h).map (nmF P)).map V.str)) lo=some (.lst (((qac (elN P.es) h).map (nmF P)).map V.str)):=qa1
 generalize upd H lo (.lst (((qac (elN P.es) h).map (nmF P)).map V.str))=H1 at*
 have hW1:=hW.same s1
 have ht1:=s1 _ _ ht
 clear ht
 left
 refine⟨t,S,.str (nmF P e),rfl,hW1.tr,.inl ⟨nmF P e,(qac (elN P.es) e).map (nmF P),rfl,hW.pl.line e en,by rw [zB];have:=qcf hW.pl.low e en;omega,fun ll hll=>?_⟩⟩
 have l12:(qac (elN P.es) e).length≤12:=by have:=qcf hW.pl.low e en;omega
 have lnd:(qac (elN P.es) e).Nodup:=List.Pairwise.imp (fun h z=>by omega) (lineN_pw hW.pl.low e en)
 have s2:=s1.trans (qa8 hll (.lst (((qac (elN P.es) e).map (nmF P)).map V.str)))
 have hW2:=hW1.same (qa8 hll (.lst (((qac (elN P.es) e).map (nmF P)).map V.str)))
 have e2:upd H1 ll (.lst (((qac (elN P.es) e).map (nmF P)).map V.str)) ll=some (.lst ((qac (elN P.es) e).map fun i=>V.str (nmF P i))):=by rw [qa1,yO];rfl
 have e12:=qa4 (o':=.lst (((qac (elN P.es) e).map (nmF P)).map V.str)) e1 hll
 generalize upd H1 ll (.lst (((qac (elN P.es) e).map (nmF P)).map V.str))=H2 at*
 clear hW1 s1 hll ht1 e1
 have eN:qes (elN P.es) h e=(qac (elN P.es) e).filter fun i=>!decide (i∈qac (elN P.es) h):=rfl
 generalize hL:qac (elN P.es) e=L at*
 have inj:∀x∈L,(nmF P x∈(qac (elN P.es) h).map (nmF P))=(x∈qac (elN P.es) h):=fun x hx=>propext ⟨fun hm=>by
  obtain⟨y,hy,e'⟩:=zL.mp hm
  have:=hW.pl.inj y x (by have:=lhh y hy;omega) (by have:=lhe x hx;omega) e'
  subst this
  exact hy,fun hm=>zL.mpr ⟨x,hm,rfl⟩⟩
 left
 intro C s0 H0 fp acc hacc
 refine qf7 L.length (fun i H'=>H'=upd H2 acc (.lst (((L.take i).filter fun i=>!decide (i∈qac (elN P.es) h)).map fun j=>V.str (nmF P j)))) rfl ?_ ?_ ?_ ?_
 ·rintro i H' hi rfl
  exact⟨_,.str (nmF P L[i]),SqL.of (qa4 e2 hacc),by rw [zC,zA hi];rfl⟩
 ·rintro H' rfl
  exact⟨_,SqL.of (qa4 e2 hacc),by rw [zB];exact Nat.le_refl _⟩
 ·rintro i H' v H'' hi rfl ⟨rfl,hy⟩
  have hv:=hy _ (SqL.of (qa4 e2 hacc))
  rw [zC,zA hi] at hv
  cases hv
  have tk:L.take (i+1)=L.take i++ [L[i]]:=by rw [zQ,zA hi];rfl
  have ix:=inj L[i] (zJ hi)
  generalize L[i]=x at*
  have zl:(((L.take i).filter fun i=>!decide (i∈qac (elN P.es) h)).map fun j=>V.str (nmF P j)).length < sizeLine:=by
   rw [zB]
   have h1:=zU (fun i=>!decide (i∈qac (elN P.es) h)) (L.take i)
   rw [zT] at h1
   show _ < 16777216
   omega
  left
  refine r_notSs (SqL.of (qa4 e12 hacc)) ?_
  simp only [ix]
  by_cases c:x∈qac (elN P.es) h
  ·rw [decide_eq_true c]
   left
   rw [tk,yC,zY,if_neg (by rw [decide_eq_true c];decide),yP,yD]
  ·rw [decide_eq_false c]
   left
   rw [qbb,tk,yC,zY,if_pos (by rw [decide_eq_false c];rfl),zE];rfl
 rintro H' rfl
 rw [zV,←eN]
 have s3:=qa8 hacc (.lst ((qes (elN P.es) h e).map fun j=>V.str (nmF P j)))
 have e3:upd H2 acc (.lst ((qes (elN P.es) h e).map fun j=>V.str (nmF P j))) acc=some (.lst ((qes (elN P.es) h e).map fun j=>V.str (nmF P j))):=qa1
 generalize upd H2 acc (.lst ((qes (elN P.es) h e).map fun j=>V.str (nmF P j)))=H3 at*
 have hW3:=hW2.same s3
 have s23:=s2.trans s3
 have nn:∀j∈qes (elN P.es) h e,j < n:=fun j hj=>by
  rw [eN] at hj
  have:=lhe j (yF.mp hj).1
  omega
 have nd:(qes (elN P.es) h e).Nodup:=by rw [eN];exact lnd.filter _
 have nl:(qes (elN P.es) h e).length≤12:=by rw [eN];exact Nat.le_trans (zU ..) l12
 clear hW2 s2 s3 e2 e12 hacc eN inj lnd l12 hL
 left
 refine⟨t,lh,S,P,bs,nmF P h,eh,rfl,hW3.tr,hW.wf,aeh,dp,hW3.h,hW.h63,hW.w3,hW3.ob,fun lu zs ku H4 s4 hlu hBen eu hAu=>?_⟩
 have euf:(bs.filter (inZ P zs)).map obPt=(bs.filter fun b=>decide (h∈qac (elN P.es) b.R.i)).map obPt:=by
  congr 1
  refine List.filter_congr fun b hb=>?_
  unfold inZ
  have:=hW.pl.benIff hn hBen (k:=b.R.i) (by have:=(hW.ob b hb).il;rw [hW.nn] at this;exact this)
  exact decide_eq_decide.mpr this
 rw [euf] at hAu
 change AD ku (useF P bs h) at hAu
 have hW4:=hW3.same s4
 have s34:=s23.trans s4
 have e4:=s4 _ _ e3
 have hp:ss.Perm (qbu ku):=perm_nd snd hAu.knd fun w=>(smem w).trans (hAu.kin w).symm
 clear hBen euf hW3 s23 s4 e3
 left
 exact⟨t,lh,acc,lu,S,P,bs,n,qes (elN P.es) h e,ku,useF P bs h,ss,rfl,hW4,e4,nn,nd,nl,eu,hAu,hp,ssort,s6,fun hh H' s=>q _ H' (s34.trans s) (.inl ⟨rfl,hh⟩),fun a b i w hi hw f1 f2 c p l ps H' s' hp' e1 hl e2 hps hn=>q _ H' (s34.trans s') (.inr ⟨a,b,i,w,p,l,ps,rfl,⟨hi,hw,f1,f2,c⟩,e1,e2,fun x hx=>(hps x hx).1,s34.free hp',s34.free hl,hn⟩)⟩
def colV (kd:Nat) (f:Nat→Int):List V:=(List.range kd).map fun j=>V.int (f j)
theorem colV_len (kd:Nat) (f:Nat→Int):(colV kd f).length=kd:=by unfold colV;rw [zB,yJ]
theorem colV_at {kd j:Nat} (f:Nat→Int) (h:j < kd):atI (colV kd f) ((j:Nat):Int)=some (V.int (f j)):=qar (by unfold colV;rw [zC,List.getElem?_range h];rfl)
theorem colV_set {kd j:Nat} (f:Nat→Int) (v:Int) (h:j < kd):(colV kd f).set j (V.int v)=colV kd fun i=>if i=j then v else f i:=by
 unfold colV
 refine List.ext_getElem (by rw [List.length_set,zB,zB]) fun i g1 g2=>?_
 rw [List.getElem_set,yR,yR,List.getElem_range]
 by_cases c:j=i
 ·show (if j=i then V.int v else _)=V.int (if i=j then v else f i)
  rw [if_pos c,if_pos c.symm]
 ·show (if j=i then V.int v else V.int (f i))=V.int (if i=j then v else f i)
  rw [if_neg c,if_neg (fun z=>c z.symm)]
theorem colV_congr {kd:Nat} {f g:Nat→Int} (h:∀j,j < kd→f j=g j):colV kd f=colV kd g:=by
 unfold colV
 refine List.map_congr_left fun j hj=>?_
 rw [h j (yV.mp hj)]
def qbw (H:Hp) (ls:List Addr) (kd:Nat) (X:Nat→Nat→Int):Prop:=∀(h:Nat) (l:Addr),ls[h]?=some l→H l=some (.lst (colV kd (X h)))
theorem qbw.cast {H:Hp} {ls:List Addr} {kd:Nat} {X Y:Nat→Nat→Int} (h:qbw H ls kd X) (e:∀i j,i < ls.length→j < kd→X i j=Y i j):qbw H ls kd Y:=fun i l hl=>by
 rw [h i l hl]
 rw [colV_congr fun j hj=>e i j (List.getElem?_eq_some_iff.mp hl).1 hj]
theorem qbw.put {H:Hp} {ls:List Addr} {kd:Nat} {X:Nat→Nat→Int} (nd:ls.Nodup) (h:qbw H ls kd X) {i:Nat} {l:Addr} (hl:ls[i]?=some l) {f:Nat→Int}:qbw (upd H l (.lst (colV kd f))) ls kd fun k=>if k=i then f else X k:=fun k l' hl'=>by
 try dsimp only
 by_cases c:k=i
 ·subst c
  rw [hl] at hl'
  cases hl'
  rw [if_pos rfl,qa1]
 ·rw [if_neg c,qa9]
  ·exact h k l' hl'
  ·intro z
   subst z
   obtain⟨h1,e1⟩:=List.getElem?_eq_some_iff.mp hl
   obtain⟨h2,e2⟩:=List.getElem?_eq_some_iff.mp hl'
   rcases Nat.lt_trichotomy k i with lt|lt|lt
   ·exact(zZ.mp nd) k i h2 h1 lt (e2.trans e1.symm)
   ·exact c lt
   ·exact(zZ.mp nd) i k h1 h2 lt (e1.trans e2.symm)
theorem qbw.other {H:Hp} {ls:List Addr} {kd:Nat} {X:Nat→Nat→Int} (h:qbw H ls kd X) {a:Addr} {o:HO} (ha:a∉ls):qbw (upd H a o) ls kd X:=fun i l hl=>by
 rw [qa9 (show l≠a from fun z=>ha (z ▸ zD hl))]
 exact h i l hl
theorem qbw.same {H H':Hp} {ls:List Addr} {kd:Nat} {X:Nat→Nat→Int} (h:qbw H ls kd X) (s:qaq H H'):qbw H' ls kd X:=fun i l hl=>s _ _ (h i l hl)
def SB (ls:List Addr) (H H':Hp):Prop:=∀b o,H b=some o→b∉ls→H' b=some o
theorem SB.new {ls:List Addr} {H H' H'':Hp} (s:SB ls H H') (t:qaq H' H''):SB ls H H'':=fun b o hb hn=>t _ _ (s b o hb hn)
theorem SB.put {ls:List Addr} {H H':Hp} (s:SB ls H H') {a:Addr} {o:HO} (h:H a=none∨a∈ls):SB ls H (upd H' a o):=fun b u hb hn=>by
 rw [qa9]
 ·exact s b u hb hn
 ·intro z
  subst z
  rcases h with h|h
  ·rw [h] at hb;cases hb
  ·exact hn h
abbrev Pq:=Addr × List Int
def qsV (qs:List Pq):List V:=qs.map fun q=> .ref q.1
def atQ (qs:List Pq) (k j:Nat):Int:=match qs[k]? with
 |some q=>(q.2[j]?).getD 0
 |none=>0
structure QsAt (H1 H:Hp) (lp:Addr) (kd:Nat) (qs:List Pq):Prop where
 top:H lp=some (.lst (qsV qs))
 row:∀q∈qs,H q.1=some (.lst (q.2.map V.int))∧H1 q.1=none∧q.1≠lp
 nd:(qs.map (·.1)).Nodup
 val:∀q∈qs,q.2.length=kd∧∀x∈q.2,0≤x∧x≤10^30
theorem QsAt.same {H1 H H':Hp} {lp:Addr} {kd:Nat} {qs:List Pq} (h:QsAt H1 H lp kd qs) (s:qaq H H'):QsAt H1 H' lp kd qs:=⟨s _ _ h.top,fun q hq=>⟨s _ _ (h.row q hq).1,(h.row q hq).2⟩,h.nd,h.val⟩
def sumQ (el:Nat→Nat) (qs:List Pq) (n h j:Nat):Int:=qdq n fun k=>if h∈qac el k then atQ qs k j else 0
theorem qe3 {f g:Nat→Int}:∀{n:Nat},(∀k,k < n→f k=g k)→qdq n f=qdq n g
 |0,_=>rfl
 |n+1,h=>by
  show qdq n f+f n=qdq n g+g n
  rw [qe3 fun k hk=>h k (by omega),h n (by omega)]
theorem atQ_old {qs:List Pq} {q:Pq} {k j:Nat} (h:k < qs.length):atQ (qs++ [q]) k j=atQ qs k j:=by
 unfold atQ
 rw [yB h]
theorem atQ_new {qs:List Pq} {q:Pq} {j:Nat}:atQ (qs++ [q]) qs.length j=(q.2[j]?).getD 0:=by
 unfold atQ
 rw [zW (Nat.le_refl _),Nat.sub_self]
 rfl
theorem sumQ_snoc (el:Nat→Nat) (qs:List Pq) (q:Pq) (h j:Nat):sumQ el (qs++ [q]) (qs.length+1) h j=sumQ el qs qs.length h j+if h∈qac el qs.length then (q.2[j]?).getD 0 else 0:=by
 show (qdq qs.length fun k=>if h∈qac el k then atQ (qs++ [q]) k j else 0)+(if h∈qac el qs.length then atQ (qs++ [q]) qs.length j else 0)=_
 rw [atQ_new]
 congr 1
 refine qe3 fun k hk=>?_
 rw [atQ_old hk]
theorem atQ_nn {qs:List Pq} (hv:∀q∈qs,∀x∈q.2,0≤x) (k j:Nat):0≤atQ qs k j:=by
 unfold atQ
 cases e:qs[k]? with
 |none=>exact Int.le_refl _
 |some q=>
  show 0≤(q.2[j]?).getD 0
  cases e2:q.2[j]? with
  |none=>exact Int.le_refl _
  |some x=>exact hv q (zD e) x (zD e2)
theorem sumQ_nn {el:Nat→Nat} {qs:List Pq} (hv:∀q∈qs,∀x∈q.2,0≤x) (n h j:Nat):0≤sumQ el qs n h j:=sumR_nn fun k _=>by
 by_cases c:h∈qac el k
 ·rw [if_pos c];exact atQ_nn hv k j
 ·rw [if_neg c];exact Int.le_refl _
def CsAt (H:Hp) (kd:Nat) (cs:List Pq):Prop:=∀c∈cs,H c.1=some (.lst (c.2.map V.int))∧c.2.length=kd∧∀x∈c.2,0≤x∧x≤10^30
theorem CsAt.same {H H':Hp} {kd:Nat} {cs:List Pq} (h:CsAt H kd cs) (s:qaq H H'):CsAt H' kd cs:=fun c hc=>⟨s _ _ (h c hc).1,(h c hc).2⟩
theorem CsAt.bd {H:Hp} {kd:Nat} {cs:List Pq} (h:CsAt H kd cs) (i j:Nat):0≤atQ cs i j∧atQ cs i j≤10^30:=by
 unfold atQ
 cases e:cs[i]? with
 |none=>exact⟨Int.le_refl _,show (0:Int)≤10^30 by decide⟩
 |some q=>
  show 0≤(q.2[j]?).getD 0∧(q.2[j]?).getD 0≤10^30
  cases e2:q.2[j]? with
  |none=>exact⟨Int.le_refl _,show (0:Int)≤10^30 by decide⟩
  |some x=>exact(h q (zD e)).2.2 x (zD e2)
theorem CsAt.col {H:Hp} {kd:Nat} {cs:List Pq} (h:CsAt H kd cs) {i:Nat} {c:Pq} (hc:cs[i]?=some c):c.2.map V.int=colV kd fun j=>atQ cs i j:=by
 unfold colV
 have hl:=(h c (zD hc)).2.1
 refine List.ext_getElem (by rw [zB,zB,yJ,hl]) fun j g1 g2=>?_
 rw [zB] at g1
 rw [yR,yR,List.getElem_range]
 unfold atQ
 rw [hc]
 show _=V.int ((c.2[j]?).getD 0)
 rw [zA g1];rfl
def sp_promises (K:Frag) (d:Ad):Sp:=fun vs H Q _=>∃(c:Int) (le lc:Addr) (cs:List Pq) (es:List Nat) (kd:Nat),vs=[.int c,.ref le,.ref lc]∧H le=some (.lst ((0 :: es).map iV))∧(∀(k e:Nat),es[k]?=some e→e≤k)∧es.length≤11∧H lc=some (.lst (qsV cs))∧cs.length=es.length+1∧CsAt H kd cs∧kd≤3∧
 ∀(l:Addr) (qs:List Pq) (H':Hp),qaq H H'→H' l=some (.lst (qsV qs))→qs.length=es.length+1→(∀q∈qs,H' q.1=some (.lst (q.2.map V.int))∧q.2.length=kd∧∀x∈q.2,0≤x∧x≤10^30)→(∀h j,h < es.length+1→j < kd→sumQ (elN es) qs (es.length+1) h j≤atQ cs h j)→Q (.ref l) H'
include T in
theorem ok_promises:FnOk P w K mg base CX0 2 d.f_promises d.fd_promises ["_law_cell_here","_law_elders_here","_law_caps_here"] (sp_promises K d):=by
 refine T.F_promises.ok sc_promises (fun vs H Q E h=>?_) (fun cdv A outer s H vs Q E hr h=>?_)
 ·obtain⟨c,le,lc,cs,es,kd,rfl,_⟩:=h;rfl
 obtain⟨c,le,lc,cs,es,kd,rfl,hE,lo,h11,hC,hcl,h9,k3,q⟩:=h
 have low:=qdg lo (es.length+1)
 refine⟨_,(qa3 (qad (i:=3) sc_promises.nd rfl (Or.inr rfl) (qbp (caps:=[]) (cn:=[]) (qb1 rfl rfl (by rfl) (by rfl) rfl trivial (by rfl) rfl trivial (by decide)) rfl (qax (pv 2)) (fun _ _ _ _=>qcj) (fun _ _ _ _=>(qc2 qdl rfl T.z_list PyProof.Rows.boot_list (qa0 (pv 0) qa2)))))
  (qa3 (qad (i:=4) sc_promises.nd rfl (Or.inl rfl) (qbe qa2))
  (qa3 (qb2 PassesOwn.never rfl (qb8 rfl T.z_range (qa0 (qae qau rfl T.z_len PySem.boot_len (qa0 (pv 1) qa2)) qa2)) (qam (i:=5) sc_promises.nd rfl (Or.inl rfl)) (qa3 (qad (i:=6) sc_promises.nd rfl (Or.inl rfl) (qaa ((ok_line T).mono (by decide)) hr rfl T.m_line T.F_line.kp T.b_line .nil qag (qa0 (pv 1) (qa0 (pv 5) qa2))))
  (qa3 (qay (qd2 PySem.F.plainAttrs_list PySem.F.slot_list_append PySem.F.type_list_append qat (pv 4) (qa0 (qbe qa2) qa2)))
  (qa6 (qb2 PassesOwn.never rfl (qb8 rfl T.z_range (qa0 (qae qau rfl T.z_len PySem.boot_len (qa0 (qal qai (pv 2) (pv 5) (fun _ _=>rfl)) qa2)) qa2)) (qam (i:=7) sc_promises.nd rfl (Or.inr rfl)) (qa3 (qad (i:=8) sc_promises.nd rfl (Or.inl rfl) (qae (call_minL rfl) rfl T.z_min PyProof.Rows.boot_min (qa0 (qbp (caps:=[3,7]) (cn:=["_law_left","_law_j"]) (qb1 rfl rfl (by rfl) (by rfl) rfl ⟨rfl,⟨rfl,trivial⟩⟩ (by rfl) rfl ⟨⟨rfl,rfl,rfl,rfl,_,rfl⟩,⟨⟨rfl,rfl,rfl,rfl,_,rfl⟩,trivial⟩⟩ (by decide)) rfl (qax (pv 6)) (fun _ _ _ _=>qcj) (fun _ _ _ _=>(qal qai (qal qai (pv 1) (pv 0) (fun _ _=>rfl)) (pv 2) (fun _ _=>rfl)))) qa2)))
  (qa3 (qad (i:=9) sc_promises.nd rfl (Or.inl rfl) (qal qai (qbe (qa0 qa5 (qa0 (pv 8) (qa0 (qah qcm (pv 8) qa5) qa2)))) (qaa ((ok_mix T).mono (by decide)) hr rfl T.m_mix T.F_mix.kp T.b_mix .nil qag (qa0 (pv 0) (qa0 (qah qas (qah qas qa5 (qah qbj qa5 (pv 5))) (pv 7)) (qa0 qa5 qa2)))) (fun _ _=>rfl)))
  (qa3 (qay (qd2 PySem.F.plainAttrs_list PySem.F.slot_list_append PySem.F.type_list_append qat (qal qai (pv 4) (pv 5) (fun _ _=>rfl)) (qa0 (pv 9) qa2)))
  (qa6 (qb2 PassesOwn.never rfl (qax (pv 6)) (qam (i:=10) sc_promises.nd rfl (Or.inl rfl)) (qa6 (ps_lput (qal qai (pv 3) (pv 10) (fun _ _=>rfl)) (pv 7) (qah qed (qal qai (qal qai (pv 3) (pv 10) (fun _ _=>rfl)) (pv 7) (fun _ _=>rfl)) (pv 9)) rfl))))))))))))
  (qa6 (qaj (pv 4)))))),?_⟩
 walk_at "d"
 try dsimp only [cxC]
 refine qaf (σ:=[some (.int c),some (.ref le),some (.ref lc),none,none,none,none,none,none,none,none]) rfl ?_
 left
 intro C s0 H0 fp ll hll
 refine qf7 (es.length+1) (fun i H'=>∃ls:List Addr,qaq H H'∧H' ll=some (.lst (ls.map V.ref))∧ls.length=i∧ls.Nodup∧(∀l∈ls,l≠ll∧H l=none)∧qbw H' ls kd (atQ cs)) ⟨[],qa8 hll _,qa1,rfl,yH,fun l h=>by simp at h,fun h l hl=>by simp at hl⟩ ?_ ?_ ?_ ?_
 ·rintro i H' hi ⟨ls,sm,_⟩
  exact⟨_,.ref (cs[i]'(by omega)).1,SqL.of (sm _ _ hC),by unfold qsV;rw [zC,zA (by omega)];rfl⟩
 ·rintro H' ⟨ls,sm,_⟩
  exact⟨_,SqL.of (sm _ _ hC),by unfold qsV;rw [zB];omega⟩
 ·rintro i H' v H'' hi ⟨ls,sm,eL,hlen,nd,hls,hA⟩ ⟨rfl,hv⟩
  have hv:=hv _ (SqL.of (sm _ _ hC))
  unfold qsV at hv
  have hci:cs[i]?=some (cs[i]'(by omega)):=zA (by omega)
  rw [zC,hci] at hv
  cases hv
  have h9i:=(h9 _ (zD hci)).1
  have e9:=h9.col hci
  generalize cs[i]'(by omega)=ci at*
  left
  refine qfx (SqL.of (sm _ _ h9i)) fun l hl=>?_
  have s1:=qa8 hl (.lst (ci.2.map V.int))
  have eL1:=s1 _ _ eL
  have el:upd H'' l (.lst (ci.2.map V.int)) l=some (.lst (colV kd fun j=>atQ cs i j)):=by rw [qa1,e9]
  have nl:l≠ll:=(qa7 eL hl).symm
  have nls:l∉ls:=fun hm=>by
   obtain⟨j,hj,e⟩:=zK.mp hm
   have:=hA j l (by rw [zA hj,e])
   rw [hl] at this;cases this
  generalize upd H'' l (.lst (ci.2.map V.int))=H2 at*
  have zl:(ls.map V.ref).length < sizeLine:=by rw [zB];show _ < 16777216;omega
  left
  refine⟨ls++ [l],qav (sm.trans s1) hll,by rw [qa1,zE];rfl,by rw [zG,hlen];rfl,?_,fun x hx=>?_,fun h x hx=>?_⟩
  ·exact yK.mpr ⟨nd,zX.mpr ⟨by simp,yH⟩,fun a ha b hb=>by rw [zH.mp hb];exact fun z=>nls (z ▸ ha)⟩
  ·rcases zN.mp hx with h|h
   ·exact hls x h
   ·rw [zH.mp h];exact⟨nl,sm.free hl⟩
  ·by_cases cc:h < ls.length
   ·rw [yB cc] at hx
    rw [qa9 (hls x (zD hx)).1]
    exact s1 _ _ (hA h x hx)
   ·rw [zW (by omega)] at hx
    have:x=l:=by
     have hm:=zD hx
     exact zH.mp hm
    subst this
    rw [qa9 nl]
    have hh:h=i:=by
     have:=(List.getElem?_eq_some_iff.mp hx).1
     rw [yA] at this
     omega
    rw [hh]
    exact el
 rintro H1 ⟨ls,s1,eL1,hlen,nd,hls,hA1⟩
 have hE1:=s1 _ _ hE
 have hle:((0 :: es).map iV).length=es.length+1:=by rw [zB,zM]
 have hrn:((((0 :: es).map iV).length:Nat):Int).toNat=es.length+1:=by rw [hle];omega
 have inLs:∀{H':Hp} {X:Nat→Nat→Int} {a:Addr},qbw H' ls kd X→H' a=none→a∉ls:=fun {H' X a} hA ha hm=>by
  obtain⟨j,hj,e⟩:=zK.mp hm
  have:=hA j a (by rw [zA hj,e])
  rw [ha] at this;cases this
 have notL:∀{b:Addr} {o:HO},H b=some o→b∉ls:=fun {b o} hb hm=>by rw [(hls b hm).2] at hb;cases hb
 left
 rename_i lp hlp
 rw [hrn]
 have nlpL:lp∉ls:=inLs hA1 hlp
 refine qby (fun i σ H'=>∃(qs:List Pq) (X:Nat→Nat→Int) (w1 w2 w3 w4 w5 w6:Option V),σ=[some (V.int c),some (V.ref le),some (V.ref lc),some (V.ref ll),some (V.ref lp),w1,w2,w3,w4,w5,w6]∧SB ls H1 H'∧QsAt H1 H' lp kd qs∧qs.length=i∧qbw H' ls kd X∧∀h j,h < es.length+1→j < kd→0≤X h j∧X h j=atQ cs h j - sumQ (elN es) qs i h j)
  ⟨[],atQ cs,_,_,_,_,_,_,rfl,SB.put (fun b o hb _=>hb) (.inl hlp),⟨qa1,fun q hq=>by simp at hq,yH,fun q hq=>by simp at hq⟩,rfl,hA1.other nlpL,fun h j _ _=>⟨(h9.bd h j).1,by show _=_ - (0:Int);omega⟩⟩ ?_ ?_
 ·rintro i σ H' hi ⟨qs,X,w1,w2,w3,w4,w5,w6,rfl,sb,hq,hql,hA,hX⟩
  have smH:∀{H'':Hp},SB ls H1 H''→qaq H H'':=fun {H''} sb b o hb=>sb b o (s1 b o hb) (notL hb)
  have sm:=smH sb
  rw [Int.zero_add]
  have hci:cs[i]?=some (cs[i]'(by omega)):=zA (by omega)
  obtain⟨h9i,h9l,_⟩:=h9 _ (zD hci)
  have xc:atI (qsV cs) ((i:Nat):Int)=some (.ref (cs[i]'(by omega)).1):=qar (by unfold qsV;rw [zC,hci];rfl)
  generalize cs[i]'(by omega)=ci at*
  have kb:((i:Nat):Int).natAbs < 2^600:=Nat.lt_of_le_of_lt (show ((i:Nat):Int).natAbs≤12 by omega) (by decide)
  have pw:=lineN_pw low i hi
  have lle:=qcn low i hi
  generalize hki:((i:Nat):Int)=ki at*
  left
  refine⟨le,es,i,by rw [hki],sm _ _ hE,lo,hi,by omega,fun lh hlh=>?_⟩
  have nlhL:lh∉ls:=inLs hA hlh
  have n1lh:H1 lh=none:=by
   cases e:H1 lh with
   |none=>rfl
   |some o=>have:=sb lh o e nlhL;rw [hlh] at this;cases this
  have nlhp:lp≠lh:=qa7 hq.top hlh
  have nq:∀q∈qs,q.1≠lh:=fun q h=>qa7 (hq.row q h).1 hlh
  have s2:=qa8 hlh (.lst ((qac (elN es) i).map iV))
  have elh:upd H' lh (.lst ((qac (elN es) i).map iV)) lh=some (.lst ((qac (elN es) i).map iV)):=qa1
  have hq2:=hq.same s2
  have hA2:=hA.same s2
  have sb2:=sb.new s2
  generalize upd H' lh (.lst ((qac (elN es) i).map iV))=H2 at*
  have etop:=hq2.top
  have zq:(qsV qs).length < sizeLine:=by unfold qsV;rw [zB];show _ < 16777216;omega
  clear hq hA sm sb
  left
  rename_i pi hpi
  have nplp:lp≠pi:=qa7 etop hpi
  have nplh:lh≠pi:=qa7 elh hpi
  have npL:pi∉ls:=inLs hA2 hpi
  have n1pi:H1 pi=none:=by
   cases e:H1 pi with
   |none=>rfl
   |some o=>have:=sb2 pi o e npL;rw [hpi] at this;cases this
  have npq:∀q∈qs,q.1≠pi:=fun q hq=>qa7 (hq2.row q hq).1 hpi
  have e3lp:(upd (upd H2 pi (.lst [])) lp (.lst (qsV qs++ [.ref pi]))) lp=some (.lst (qsV qs++ [.ref pi])):=qa1
  have e3pi:(upd (upd H2 pi (.lst [])) lp (.lst (qsV qs++ [.ref pi]))) pi=some (.lst (([]:List Int).map V.int)):=by rw [qa9 nplp.symm];exact qa1
  have e3lh:(upd (upd H2 pi (.lst [])) lp (.lst (qsV qs++ [.ref pi]))) lh=some (.lst ((qac (elN es) i).map iV)):=by rw [qa9 nlhp.symm,qa9 nplh];exact elh
  have e3q:∀q∈qs,(upd (upd H2 pi (.lst [])) lp (.lst (qsV qs++ [.ref pi]))) q.1=some (.lst (q.2.map V.int)):=fun q h=>by rw [qa9 (hq2.row q h).2.2,qa9 (npq q h)];exact(hq2.row q h).1
  have hA3:qbw (upd (upd H2 pi (.lst [])) lp (.lst (qsV qs++ [.ref pi]))) ls kd X:=(hA2.other npL).other nlpL
  have sb3:SB ls H1 (upd (upd H2 pi (.lst [])) lp (.lst (qsV qs++ [.ref pi]))):=(sb2.put (.inl n1pi)).put (.inl hlp)
  generalize upd (upd H2 pi (.lst [])) lp (.lst (qsV qs++ [.ref pi]))=H3 at*
  have nlhq:∀q∈qs,q.1≠lh∧q.1≠pi∧q.1≠lp∧q.1∉ls:=fun q h=>⟨nq q h,npq q h,(hq2.row q h).2.2,fun hm=>by
   obtain⟨j,hj,e⟩:=zK.mp hm
   have e2:=hA1 j q.1 (by rw [zA hj,e])
   rw [(hq2.row q h).2.1] at e2;cases e2⟩
  have hk9:(ci.2.map V.int).length=kd:=by rw [zB];exact h9l
  have hkn:(((ci.2.map V.int).length:Nat):Int).toNat=kd:=by rw [hk9];omega
  have h93:=(smH sb3) _ _ h9i
  have nn:=fun h j=>sumQ_nn (el:=elN es) (fun q hq x hx=>((hq2.val q hq).2 x hx).1) i h j
  have nd1:=hq2.nd
  have val1:=hq2.val
  have row1:=fun q h=>(hq2.row q h).2
  clear hq2 hA2 sb2 etop elh zq n1lh hlh hpi s2 npq
  refine qb0 (SqL.of ((smH sb3) _ _ hC)) xc ?_
  left
  rw [hkn]
  have lnd:(qac (elN es) i).Nodup:=List.Pairwise.imp (fun h z=>by omega) pw
  refine qby (fun j σ H4=>∃(cur:List Int) (Y:Nat→Nat→Int) (w1 w2 w3 w4:Option V),σ=[some (V.int c),some (V.ref le),some (V.ref lc),some (V.ref ll),some (V.ref lp),some (V.int ki),some (V.ref lh),w1,w2,w3,w4]∧SB ls H1 H4∧H4 lp=some (.lst (qsV qs++ [.ref pi]))∧H4 pi=some (.lst (cur.map V.int))∧H4 lh=some (.lst ((qac (elN es) i).map iV))∧(∀q∈qs,H4 q.1=some (.lst (q.2.map V.int)))∧cur.length=j∧(∀x∈cur,0≤x∧x≤10^30)∧qbw H4 ls kd Y∧
    ∀h j',h < es.length+1→j' < kd→0≤Y h j'∧Y h j'=atQ cs h j' - sumQ (elN es) qs i h j' - (if h∈qac (elN es) i then (cur[j']?).getD 0 else 0))
   ⟨[],X,_,_,_,_,rfl,sb3,e3lp,e3pi,e3lh,e3q,rfl,fun x h=>by simp at h,hA3,fun h j' hh hj'=>⟨(hX h j' hh hj').1,by rw [(hX h j' hh hj').2];simp⟩⟩ ?_ ?_
  ·rintro j σ H4 hj ⟨cur,Y,w1,w2,w3,w4,rfl,sb4,e4lp,e4pi,e4lh,e4q,hcl,hcur,hA4,hY⟩
   clear e3lp e3pi e3lh e3q hA3 sb3 hX h93 hkn hk9
   rw [Int.zero_add]
   have e4ll:H4 ll=some (.lst (ls.map V.ref)):=sb4 ll _ eL1 fun hm=>(hls ll hm).1 rfl
   have xl:∀h,h < es.length+1→∃l,ls[h]?=some l∧atI (ls.map V.ref) ((h:Nat):Int)=some (.ref l):=fun h hh=>⟨ls[h],zA (by omega),qar (by rw [zC,zA (by omega)];rfl)⟩
   have xj:∀f:Nat→Int,atI (colV kd f) ((j:Nat):Int)=some (V.int (f j)):=fun f=>colV_at f hj
   generalize hji:((j:Nat):Int)=ji at*
   left
   intro C s0 H0 fp acc hacc
   refine qf7 (qac (elN es) i).length (fun c Hc=>Hc=upd H4 acc (.lst ((((qac (elN es) i).take c).map fun h=>Y h j).map V.int))) rfl ?_ ?_ ?_ ?_
   ·rintro c Hc hc rfl
    exact⟨_,iV (qac (elN es) i)[c],SqL.of (qa4 e4lh hacc),by rw [zC,zA hc];rfl⟩
   ·rintro Hc rfl
    exact⟨_,SqL.of (qa4 e4lh hacc),by rw [zB];exact Nat.le_refl _⟩
   ·rintro c Hc v Hd hc rfl ⟨rfl,hv⟩
    have hv:=hv _ (SqL.of (qa4 e4lh hacc))
    rw [zC,zA hc] at hv
    cases hv
    have tk:(qac (elN es) i).take (c+1)=(qac (elN es) i).take c++ [(qac (elN es) i)[c]]:=by rw [zQ,zA hc];rfl
    have hh:=lle _ (zJ hc)
    have hcl2:=qcf low i hi
    generalize (qac (elN es) i)[c]=h at*
    obtain⟨l,hl,al⟩:=xl h (by omega)
    have zl:((((qac (elN es) i).take c).map fun h=>Y h j).map V.int).length < sizeLine:=by rw [zB,zB,zT];show _ < 16777216;omega
    unfold iV
    left
    refine qb0 (SqL.of (qa4 e4ll hacc)) al ?_
    left
    refine qb0 (SqL.of (qa4 (hA4 h l hl) hacc)) (xj _) ?_
    left
    rw [qbb,tk,zE,zE]
    rfl
   rintro Hc rfl
   rw [zV]
   have s5:=qa8 hacc (.lst (((qac (elN es) i).map fun h=>Y h j).map V.int))
   have e5:upd H4 acc (.lst (((qac (elN es) i).map fun h=>Y h j).map V.int)) acc=some (.lst (((qac (elN es) i).map fun h=>Y h j).map V.int)):=qa1
   generalize upd H4 acc (.lst (((qac (elN es) i).map fun h=>Y h j).map V.int))=H5 at*
   left
   refine r_minL (SqL.of e5) (by rw [zB];exact List.length_pos_of_mem (qcv low hi)) fun m hm hmin=>?_
   have mle:∀h∈qac (elN es) i,m≤Y h j:=fun h hh=>hmin _ (zL.mpr ⟨h,hh,rfl⟩)
   have cj:(cur[j]?).getD 0=0:=by rw [yG (by omega)];rfl
   obtain⟨m0,m9⟩:0≤m∧m≤10^30:=by
    obtain⟨h,hh,rfl⟩:=zL.mp hm
    have z:=hY h j (by have:=lle h hh;omega) hj
    have z2:=nn h j
    rw [cj] at z
    have:(if h∈qac (elN es) i then (0:Int) else 0)=0:=by split <;> rfl
    rw [this] at z
    have:=(h9.bd h j).2
    omega
   clear hm hmin e5 hacc
   left
   rename_i pm hpm
   refine qbm (by omega) (by omega) (by decide) (by decide) fun r r0 r1=>?_
   refine qff (xs:=[0,m,m.fdiv 2]) (SqL.of qa1) r0 r1 fun pt hpt=>?_
   obtain⟨p0,pm'⟩:0≤pt∧pt≤m:=by
    have ed:m.fdiv 2=m / 2:=Int.fdiv_eq_ediv_of_nonneg m (by decide)
    simp only [zR,yL,or_false] at hpt
    rw [ed] at hpt
    omega
   have s6:=s5.trans (qa8 hpm (.lst [.int 0,.int m,.int (m.fdiv 2)]))
   generalize upd H5 pm (.lst [.int 0,.int m,.int (m.fdiv 2)])=H6 at*
   have e6lp:=s6 _ _ e4lp
   have e6pi:=s6 _ _ e4pi
   have e6lh:=s6 _ _ e4lh
   have e6q:∀q∈qs,H6 q.1=some (.lst (q.2.map V.int)):=fun q h=>s6 _ _ (e4q q h)
   have hA6:=hA4.same s6
   have sb6:=sb4.new s6
   have zc:(cur.map V.int).length < sizeLine:=by rw [zB];show _ < 16777216;omega
   have xpi:atI (qsV qs++ [V.ref pi]) ki=some (.ref pi):=by
    rw [←hki]
    refine qar ?_
    rw [zW (by unfold qsV;rw [zB];omega)]
    unfold qsV
    rw [zB,hql,Nat.sub_self]
    rfl
   clear hpt r0 r1 s5 s6 e4lp e4pi e4lh e4q hA4 sb4 e4ll hpm
   left
   refine qb0 (SqL.of e6lp) xpi ?_
   left
   have ecur:cur.map V.int++ [V.int pt]=(cur++ [pt]).map V.int:=by rw [zE];rfl
   rw [ecur]
   have e7lp:upd H6 pi (.lst ((cur++ [pt]).map V.int)) lp=some (.lst (qsV qs++ [.ref pi])):=by rw [qa9 nplp];exact e6lp
   have e7pi:upd H6 pi (.lst ((cur++ [pt]).map V.int)) pi=some (.lst ((cur++ [pt]).map V.int)):=qa1
   have e7lh:upd H6 pi (.lst ((cur++ [pt]).map V.int)) lh=some (.lst ((qac (elN es) i).map iV)):=by rw [qa9 nplh];exact e6lh
   have e7q:∀q∈qs,upd H6 pi (.lst ((cur++ [pt]).map V.int)) q.1=some (.lst (q.2.map V.int)):=fun q h=>by rw [qa9 (nlhq q h).2.1];exact e6q q h
   have hA7:=hA6.other (o:=.lst ((cur++ [pt]).map V.int)) npL
   have sb7:SB ls H1 (upd H6 pi (.lst ((cur++ [pt]).map V.int))):=sb6.put (.inl n1pi)
   generalize upd H6 pi (.lst ((cur++ [pt]).map V.int))=H7 at*
   clear e6lp e6pi e6lh e6q hA6 sb6 zc
   left
   refine qd6 (xs:=(qac (elN es) i).map iV) (fun c' σ H8=>∃w:Option V,σ=[some (V.int c),some (V.ref le),some (V.ref lc),some (V.ref ll),some (V.ref lp),some (V.int ki),some (V.ref lh),some (V.int ji),some (V.int m),some (V.int pt),w]∧SB ls H1 H8∧H8 lp=some (.lst (qsV qs++ [.ref pi]))∧H8 pi=some (.lst ((cur++ [pt]).map V.int))∧H8 lh=some (.lst ((qac (elN es) i).map iV))∧(∀q∈qs,H8 q.1=some (.lst (q.2.map V.int)))∧qbw H8 ls kd fun h j'=>if h∈(qac (elN es) i).take c'∧j'=j then Y h j' - pt else Y h j')
    ⟨_,rfl,sb7,e7lp,e7pi,e7lh,e7q,hA7.cast fun h j' _ _=>by rw [if_neg (by simp)]⟩ ?_ ?_ ?_
   ·rintro c' σ H8 _ ⟨w,_,_,_,_,e,_⟩
    exact SqL.of e
   ·rintro c' x σ H8 hx ⟨w,rfl,sb8,e8lp,e8pi,e8lh,e8q,hA8⟩
    rw [zC] at hx
    obtain⟨h,hh,rfl⟩:=Option.map_eq_some_iff.mp hx
    have hc':c' <(qac (elN es) i).length:=(List.getElem?_eq_some_iff.mp hh).1
    have tk:(qac (elN es) i).take (c'+1)=(qac (elN es) i).take c'++ [h]:=by rw [zQ,hh];rfl
    have hin:=lle h (zD hh)
    have hnt:h∉(qac (elN es) i).take c':=fun hm=>by
     obtain⟨b,hb,e⟩:=zK.mp hm
     rw [zT] at hb
     rw [List.getElem_take] at e
     obtain⟨g1,g2⟩:=List.getElem?_eq_some_iff.mp hh
     exact(zZ.mp lnd) b c' (by omega) hc' (by omega) (e.trans g2.symm)
    obtain⟨l,hl,al⟩:=xl h (by omega)
    have hlm:=zD hl
    have e8ll:H8 ll=some (.lst (ls.map V.ref)):=sb8 ll _ eL1 fun hm=>(hls ll hm).1 rfl
    have e8l:=hA8 h l hl
    have yv:(if h∈(qac (elN es) i).take c'∧j=j then Y h j - pt else Y h j)=Y h j:=if_neg fun z=>hnt z.1
    have xv:=xj fun j'=>if h∈(qac (elN es) i).take c'∧j'=j then Y h j' - pt else Y h j'
    rw [yv] at xv
    clear hx
    unfold iV
    left
    refine qb0 (SqL.of e8ll) al ?_
    left
    refine qb0 (SqL.of e8l) xv ?_
    left
    refine qb0 (SqL.of e8ll) al ?_
    left
    refine r_lpk e8l (k:=j) (by rw [colV_len];exact hj) ?_ hji.symm
    rw [colV_set _ _ hj]
    have nl:∀a,a∉ls→a≠l:=fun a ha z=>ha (z ▸ hlm)
    left
    refine⟨_,rfl,sb8.put (.inr hlm),by rw [qa9 (nl lp nlpL)];exact e8lp,by rw [qa9 (nl pi npL)];exact e8pi,by rw [qa9 (nl lh nlhL)];exact e8lh,fun q hq=>by rw [qa9 (nl q.1 (nlhq q hq).2.2.2)];exact e8q q hq,(hA8.put nd hl).cast fun a b ha hb=>?_⟩
    try dsimp only
    rw [tk]
    by_cases ca:a=h
    ·rw [if_pos ca,ca]
     by_cases cb:b=j
     ·rw [if_pos cb,if_pos ⟨zO _ (zH.mpr rfl),cb⟩,cb]
     ·rw [if_neg cb,if_neg (fun z=>cb z.2),if_neg (fun z=>cb z.2)]
    ·rw [if_neg ca]
     by_cases cm:a∈(qac (elN es) i).take c'∧b=j
     ·rw [if_pos cm,if_pos ⟨yI _ cm.1,cm.2⟩]
     ·rw [if_neg cm,if_neg fun z=>(zN.mp z.1).elim (fun z1=>cm ⟨z1,z.2⟩) fun z1=>ca (zH.mp z1)]
   ·rintro σ H8 ⟨w,rfl,sb8,e8lp,e8pi,e8lh,e8q,hA8⟩
    rw [zB,zV] at hA8
    left
    refine⟨cur++ [pt],_,_,_,_,_,rfl,sb8,e8lp,e8pi,e8lh,e8q,by rw [zG,hcl];rfl,fun x hx=>?_,hA8,fun h j' hh hj'=>?_⟩
    ·rcases zN.mp hx with z|z
     ·exact hcur x z
     ·rw [zH.mp z];omega
    ·obtain⟨y0,y1⟩:=hY h j' hh hj'
     by_cases cj':j'=j
     ·subst cj'
      rw [cj] at y1
      have eg:((cur++ [pt])[j']?).getD 0=pt:=by rw [zW (by omega),hcl,Nat.sub_self];rfl
      rw [eg]
      by_cases ch:h∈qac (elN es) i
      ·have:=mle h ch
       rw [if_pos ch] at y1 ⊢
       rw [if_pos ⟨ch,rfl⟩]
       omega
      ·rw [if_neg ch] at y1 ⊢
       rw [if_neg fun z=>ch z.1]
       exact⟨y0,y1⟩
     ·have eg:((cur++ [pt])[j']?).getD 0=(cur[j']?).getD 0:=by
       by_cases lt:j' < cur.length
       ·rw [yB lt]
       ·rw [yG (l:=cur) (by omega),yG (by rw [zG,yA];omega)]
      rw [eg,if_neg fun z=>cj' z.2]
      exact⟨y0,y1⟩
  ·rintro σ H4 ⟨cur,Y,w1,w2,w3,w4,rfl,sb4,e4lp,e4pi,e4lh,e4q,hcl,hcur,hA4,hY⟩
   left
   refine⟨qs++ [(pi,cur)],Y,_,_,_,_,_,_,rfl,sb4,⟨by rw [e4lp];unfold qsV;rw [zE];rfl,fun q hq=>?_,?_,fun q hq=>?_⟩,by rw [zG,hql];rfl,hA4,fun h j' hh hj'=>?_⟩
   ·rcases zN.mp hq with z|z
    ·exact⟨e4q q z,row1 q z⟩
    ·rw [zH.mp z];exact⟨e4pi,n1pi,nplp.symm⟩
   ·rw [zE]
    exact yK.mpr ⟨nd1,zX.mpr ⟨by simp,yH⟩,fun a ha b hb=>by
     have eb:b=pi:=by simpa using hb
     obtain⟨q,hq,rfl⟩:=zL.mp ha
     rw [eb]
     exact(nlhq q hq).2.1⟩
   ·rcases zN.mp hq with z|z
    ·exact val1 q z
    ·rw [zH.mp z];exact⟨hcl,hcur⟩
   ·have z:sumQ (elN es) (qs++ [(pi,cur)]) (qs.length+1) h j'=sumQ (elN es) qs qs.length h j'+(if h∈qac (elN es) qs.length then (cur[j']?).getD 0 else 0):=sumQ_snoc (elN es) qs (pi,cur) h j'
    rw [hql] at z
    rw [z]
    obtain⟨y0,y1⟩:=hY h j' hh hj'
    exact⟨y0,by rw [y1,Int.sub_sub]⟩
 ·rintro σ H' ⟨qs,X,w1,w2,w3,w4,w5,w6,rfl,sb,hq,hql,hA,hX⟩
  left
  exact q lp qs H' (fun b o hb=>sb b o (s1 b o hb) (notL hb)) hq.top hql (fun x hx=>⟨(hq.row x hx).1,hq.val x hx⟩) fun h j hh hj=>by
   have:=hX h j hh hj
   omega
def csD (cs:List Pq) (k:Nat):List Int:=match cs[k]? with
 |some c=>c.2
 |none=> []
def csA (cs:List Pq) (k:Nat):Addr:=match cs[k]? with
 |some c=>c.1
 |none=>0
def csT (ws:List Str) (cs:List Pq):List Pt:=cs.map fun c=>⟨0,tdK (ws.zip c.2),tdF (ws.zip c.2)⟩
theorem CsAt.at {H:Hp} {kd:Nat} {cs:List Pq} (h:CsAt H kd cs) {k:Nat} (hk:k < cs.length):H (csA cs k)=some (.lst ((csD cs k).map V.int))∧(csD cs k).length=kd∧(∀x∈csD cs k,0≤x∧x≤10^30)∧atI (qsV cs) ((k:Nat):Int)=some (.ref (csA cs k)):=by
 have e:=zA hk
 have z:=h _ (zJ hk)
 unfold csA csD
 rw [e]
 exact⟨z.1,z.2.1,z.2.2,qar (by unfold qsV;rw [zC,e];rfl)⟩
theorem csT_at {ws:List Str} {cs:List Pq} {k:Nat} (hk:k < cs.length):(csT ws cs)[k]?=some ⟨0,tdK (ws.zip (csD cs k)),tdF (ws.zip (csD cs k))⟩:=by
 have e:=zA hk
 unfold csT csD
 rw [zC,e];rfl
def mkP (ws nm:List Str) (es:List Nat) (ts:List Pt) (cs:List Pq):PL:=⟨0,0,0,0,0,ws,nm,es,ts,csT ws cs⟩
theorem mkP_ok {H:Hp} {ws nm:List Str} {es:List Nat} {ts:List Pt} {qs cs:List Pq} (hcl:cs.length=es.length+1) (hcs:CsAt H ws.length cs) (hw:Nms ws ws.length) (w1:1≤ws.length) (w3:ws.length≤3) (hn:Nms nm (es.length+1)) (h11:es.length≤11) (lo:∀(k e:Nat),es[k]?=some e→e≤k∧e≤10)
  (hts:ts.map (fun t=>(t.k,t.f))=qs.map fun q=>(tdK (ws.zip q.2),tdF (ws.zip q.2))) (hql:qs.length=es.length+1) (hq:∀q∈qs,q.2.length=ws.length∧∀x∈q.2,0≤x∧x≤10^30) (hs:∀h j,h < es.length+1→j < ws.length→sumQ (elN es) qs (es.length+1) h j≤atQ cs h j):PlF (mkP ws nm es ts cs):=by
 have htl:ts.length=es.length+1:=by have:=congrArg List.length hts;rw [zB,zB] at this;omega
 have htk:∀(k:Nat) (t:Pt),ts[k]?=some t→∃q,qs[k]?=some q∧t.k=tdK (ws.zip q.2)∧t.f=tdF (ws.zip q.2):=fun k t ht=>by
  have z:=congrArg (fun l=>l[k]?) hts
  simp only [zC,ht] at z
  cases e:qs[k]? with
  |none=>rw [e] at z;cases z
  |some q=>
   rw [e] at z
   have z':(t.k,t.f)=(tdK (ws.zip q.2),tdF (ws.zip q.2)):=Option.some.inj z
   exact⟨q,rfl,(Prod.mk.inj z').1,(Prod.mk.inj z').2⟩
 refine⟨w1,w3,hw.good,hw.nd,hn.len,by show nm.length≤12;rw [hn.len];omega,hn.good,hn.nd,lo,by show ts.length=nm.length;rw [hn.len];exact htl,by show (csT ws cs).length=nm.length;unfold csT;rw [zB,hn.len];exact hcl,fun t ht=>?_,fun t ht=>?_,fun j t ht v hv=>?_⟩
 ·obtain⟨k,hk,e⟩:=zK.mp ht
  obtain⟨q,h1,h2,h3⟩:=htk k t (by rw [←e];exact zA hk)
  rw [h2,h3]
  exact⟨qfp _,qfq (hq q (zD h1)).1.symm hw.nd fun p hp=>((hq q (zD h1)).2 p hp).2⟩
 ·obtain⟨c,hc,rfl⟩:=zL.mp ht
  exact⟨qfp _,qfq (hcs c hc).2.1.symm hw.nd fun p hp=>((hcs c hc).2.2 p hp).2⟩
 ·have hj:j < es.length+1:=by
   have:=(List.getElem?_eq_some_iff.mp ht).1
   rw [show (mkP ws nm es ts cs).tc=csT ws cs from rfl] at this
   unfold csT at this
   rw [zB] at this
   omega
  have e:t=⟨0,tdK (ws.zip (csD cs j)),tdF (ws.zip (csD cs j))⟩:=Option.some.inj (ht.symm.trans (csT_at (by omega)))
  subst e
  obtain⟨_,cl,cb,_⟩:=hcs.at (show j < cs.length by omega)
  obtain⟨a,ha,rfl⟩:=zK.mp hv
  have ha:a < ws.length:=ha
  have g9:gN (tdF (ws.zip (csD cs j))) ws[a]=atQ cs j a:=by
   rw [tdF_gN cl.symm hw.nd (fun p hp=>(cb p hp).1) ha (by rw [cl];exact ha)]
   have e:=zA (show j < cs.length by omega)
   unfold atQ
   rw [e]
   show _=((cs[j]'(by omega)).2[a]?).getD 0
   have e2:csD cs j=(cs[j]'(by omega)).2:=by unfold csD;rw [e]
   rw [←e2,zA (by rw [cl];exact ha)];rfl
  show (qdq ts.length fun k=>if j∈qac (elN es) k then ptN ts k ws[a] else 0)≤gN (tdF (ws.zip (csD cs j))) ws[a]
  rw [g9,htl]
  refine Int.le_trans (Int.le_of_eq ?_) (hs j a hj ha)
  unfold sumQ
  refine qe3 fun k hk=>?_
  have hkt:k < ts.length:=by omega
  obtain⟨q,h1,h2,h3⟩:=htk k ts[k] (zA hkt)
  have hqm:=hq q (zD h1)
  have e1:ptN ts k ws[a]=atQ qs k a:=by
   unfold ptN atQ
   rw [zA hkt,h1]
   show gN ts[k].f ws[a]=(q.2[a]?).getD 0
   rw [h3,tdF_gN hqm.1.symm hw.nd (fun p hp=>(hqm.2 p hp).1) ha (by omega),zA (by omega)]
   rfl
  rw [e1]
def sp_tree (K:Frag) (d:Ad):Sp:=fun vs H Q _=>∃(c:Int) (ln lw le lc:Addr) (cs:List Pq) (nm ws:List Str) (es:List Nat),vs=[.int c,.ref ln,.ref lw,.ref le,.ref lc]∧H ln=some (.lst (nm.map V.str))∧H lw=some (.lst (ws.map V.str))∧H le=some (.lst ((0 :: es).map iV))∧H lc=some (.lst (qsV cs))∧cs.length=es.length+1∧CsAt H ws.length cs∧
 Nms nm (es.length+1)∧Nms ws ws.length∧1≤ws.length∧ws.length≤3∧es.length≤11∧(∀(k e:Nat),es[k]?=some e→e≤k∧e≤10)∧
 ∀(t:Addr) (S:Ts) (P:PL) (wt:Nat→Int) (H':Hp),qaq H H'→P.nm=nm→P.ws=ws→P.es=es→P.tc=csT ws cs→PlF P→qf5 d H' t S→TInv S P nm.length wt→Q (.ref t) H'
include T in
theorem ok_tree:FnOk P w K mg base CX0 20 d.f_tree d.fd_tree ["_law_cell_here","_law_names_here","_law_wares","_law_elders_here","_law_caps_here"] (sp_tree K d):=by
 refine T.F_tree.ok sc_tree (fun vs H Q E h=>?_) (fun cdv A outer s H vs Q E hr h=>?_)
 ·obtain⟨c,ln,lw,le,lc,cs,nm,ws,es,rfl,_⟩:=h;rfl
 obtain⟨c,ln,lw,le,lc,cs,nm,ws,es,rfl,hN,hW,hE,hC,hcl,h9,hn,hw,w1,w3,h11,lo,q⟩:=h
 refine⟨_,(qa3 (qdr (j:=5) (caps:=[2]) (cn:=["_law_wares"]) (qb1 rfl rfl (by rfl) (by rfl) rfl ⟨rfl,trivial⟩ (by rfl) rfl ⟨⟨rfl,rfl,rfl,rfl,_,rfl⟩,trivial⟩ (by decide)) rfl sc_tree.nd rfl rfl (qax (qaa ((ok_promises T).mono (by decide)) hr rfl T.m_promises T.F_promises.kp T.b_promises .nil qag (qa0 (pv 0) (qa0 (pv 3) (qa0 (pv 4) qa2))))) (fun _ _ _ _=>qcj) (fun _ _ _ _=>(qaa ((ok_told T).mono (by decide)) hr rfl T.m_told T.F_told.kp T.b_told .nil qag (qa0 (pv 1) (qa0 (pv 0) qa2)))))
  (qa3 (qad (i:=6) sc_tree.nd rfl (Or.inl rfl) (pe_makeX (W:=fun _ _ _ _=>False) T.MK_Tree ((ok_Tree_init T).mono (by decide)) hr rfl T.m_Tree T.b1_Tree_init T.rd_Tree_init qfc (qa0 (qc2 qdl rfl T.z_list PyProof.Rows.boot_list (qa0 (pv 2) qa2)) (qa0 (qal qai (pv 1) qa5 (fun _ _=>rfl)) (qa0 (qal qai (pv 5) qa5 (fun _ _=>rfl)) (qa0 (qaa ((ok_told T).mono (by decide)) hr rfl T.m_told T.F_told.kp T.b_told .nil qag (qa0 (pv 2) (qa0 (qal qai (pv 4) qa5 (fun _ _=>rfl)) qa2))) qa2))))))
  (qa3 (qb2 PassesOwn.never rfl (qeo rfl T.z_range (qa0 qa5 (qa0 (qae qau rfl T.z_len PySem.boot_len (qa0 (pv 1) qa2)) qa2))) (qam (i:=7) sc_tree.nd rfl (Or.inl rfl)) (qa6 (qay (qb5 (W:=fun _ _ _ _=>False) (pv 6) T.CL_Tree T.ME_Tree_found ((ok_Tree_found T).mono (by decide)) hr T.b_Tree_found .nil qfc (qa0 (qal qai (pv 1) (pv 7) (fun _ _=>rfl)) (qa0 (qal qai (pv 1) (qal qai (pv 3) (pv 7) (fun _ _=>rfl)) (fun _ _=>rfl)) (qa0 (qal qai (pv 5) (pv 7) (fun _ _=>rfl)) (qa0 (qaa ((ok_told T).mono (by decide)) hr rfl T.m_told T.F_told.kp T.b_told .nil qag (qa0 (pv 2) (qa0 (qal qai (pv 4) (pv 7) (fun _ _=>rfl)) qa2))) (qa0 (qah qas qa5 (pv 7)) qa2)))))))))
  (qa6 (qaj (pv 6)))))),?_⟩
 walk_at "d"
 try dsimp only [cxC]
 refine qaf (σ:=[some (.int c),some (.ref ln),some (.ref lw),some (.ref le),some (.ref lc),none,none,none]) rfl ?_
 have ct:=T.CL_Tree
 left
 refine⟨c,le,lc,cs,es,ws.length,rfl,hE,fun k e h=>(lo k e h).1,h11,hC,hcl,h9,w3,fun lq qs H1 s1 elq hql hq hsum=>?_⟩
 have hW1:=s1 _ _ hW
 left
 intro C s0 H0 fp ld hld
 refine qf7 qs.length (fun i H'=>∃ts:List Pt,qaq H1 H'∧H' ld=some (.lst (ts.map fun t=> .ref t.a))∧ts.map (fun t=>(t.k,t.f))=(qs.take i).map (fun q=>(tdK (ws.zip q.2),tdF (ws.zip q.2)))∧∀t∈ts,H' t.a=some (.dK t.k)∧t.a≠ld) ⟨[],qa8 hld _,qa1,rfl,fun t h=>by simp at h⟩ ?_ ?_ ?_ ?_
 ·rintro i H' hi ⟨ts,sm,_⟩
  exact⟨_,.ref qs[i].1,SqL.of (sm _ _ elq),by unfold qsV;rw [zC,zA hi];rfl⟩
 ·rintro H' ⟨ts,sm,_⟩
  exact⟨_,SqL.of (sm _ _ elq),by unfold qsV;rw [zB];exact Nat.le_refl _⟩
 ·rintro i H' v H'' hi ⟨ts,sm,eD,hts,hT⟩ ⟨rfl,hv⟩
  have hv:=hv _ (SqL.of (sm _ _ elq))
  unfold qsV at hv
  rw [zC,zA hi] at hv
  cases hv
  have tk:qs.take (i+1)=qs.take i++ [qs[i]]:=by rw [zQ,zA hi];rfl
  obtain⟨q1,q2,q3⟩:=hq _ (zJ hi)
  have htl:ts.length=i:=by have:=congrArg List.length hts;rw [zB,zB,zT] at this;omega
  generalize qs[i]=qi at*
  have zl:(ts.map fun t=>V.ref t.a).length < sizeLine:=by rw [zB];show _ < 16777216;omega
  left
  refine⟨lw,qi.1,ws,qi.2,rfl,SqL.of (sm _ _ hW1),SqL.of (sm _ _ q1),q2.symm,by omega,fun l H3 s3 hl el=>?_⟩
  have eD3:=s3 _ _ eD
  have nl:l≠ld:=(qa7 eD hl).symm
  refine⟨_,eD3,zl,ts++ [⟨l,tdK (ws.zip qi.2),tdF (ws.zip qi.2)⟩],qav (sm.trans s3) hld,by rw [qa1,zE];rfl,by rw [zE,hts,tk,zE];rfl,fun t ht=>?_⟩
  rcases zN.mp ht with h|h
  ·exact⟨by rw [qa9 (hT t h).2];exact s3 _ _ (hT t h).1,(hT t h).2⟩
  ·rw [zH.mp h]
   exact⟨by rw [qa9 nl];exact el,nl⟩
 rintro H2 ⟨ts,s2,eD,hts,hT⟩
 rw [zV] at hts
 have pf:PlF (mkP ws nm es ts cs):=mkP_ok hcl h9 hw w1 w3 hn h11 lo hts hql (fun q h=>(hq q h).2) hsum
 have s02:=s1.trans s2
 have hlen:=hn.len
 have etp:(mkP ws nm es ts cs).tp=ts:=rfl
 have etc:(mkP ws nm es ts cs).tc=csT ws cs:=rfl
 have ews:(mkP ws nm es ts cs).ws=ws:=rfl
 have enm:(mkP ws nm es ts cs).nm=nm:=rfl
 have ees:(mkP ws nm es ts cs).es=es:=rfl
 generalize mkP ws nm es ts cs=P at*
 subst etp ews enm ees
 have nlc:P.nm.length=cs.length:=by have:=pf.nl;omega
 have tcE:∀k,k < P.nm.length→tfF P.tc k=tdF (P.ws.zip (csD cs k)):=fun k hk=>by unfold tfF;rw [etc,csT_at (by omega)]
 have tcF:∀k,k < P.nm.length→Fin P.ws (tdF (P.ws.zip (csD cs k))):=fun k hk=>(qfq (h9.at (by omega)).2.1.symm hw.nd fun p hp=>((h9.at (by omega)).2.2.1 p hp).2).fin (by decide)
 have tcL:∀k,k < P.nm.length→(tdK (P.ws.zip (csD cs k))).length≤1000:=fun k hk=>by
  have:=td_len (P.ws.zip (csD cs k))
  rw [yU] at this
  omega
 have nl:=pf.nl
 have n12:=pf.n12
 have gt:GoodT P.ws:=⟨pf.w1,by have:=pf.w3;omega,pf.wg,pf.wn⟩
 have hz0:P.nm[0]?=some (nmF P 0):=by rw [qdz (by omega)];exact zA (by omega)
 have gz:qdu (nmF P 0)=true:=pf.ng _ (zD hz0)
 have xn0:atI (P.nm.map V.str) 0=some (.str (nmF P 0)):=qar (j:=0) (by rw [zC,hz0];rfl)
 obtain⟨tp,tp1,tp2,tp3,tp4,tp5⟩:=qei pf (k:=0) (by omega)
 have xp:atI (P.tp.map fun t=>V.ref t.a) 0=some (.ref tp.a):=qar (j:=0) (by rw [zC,tp1];rfl)
 obtain⟨h90,h90l,_,xc0⟩:=h9.at (k:=0) (by omega)
 have xc0:atI (qsV cs) 0=some (.ref (csA cs 0)):=xc0
 have lp1:tp.k.length≤1000:=by have:=tp4.le (fun z hz=>by cases e:tp.f z with|none=>exact absurd e hz|some n=>exact(tp5 z n e).1);omega
 have ole:=own_le pf (k:=0) (by omega)
 rw [tcE 0 (by omega)] at ole
 have hW2:=s02 _ _ hW
 left
 refine qfx (SqL.of hW2) fun h0 hh0=>?_
 have s3:=qa8 hh0 (.lst (P.ws.map V.str))
 have e0:upd H2 h0 (.lst (P.ws.map V.str)) h0=some (.lst (P.ws.map V.str)):=qa1
 generalize upd H2 h0 (.lst (P.ws.map V.str))=H3 at*
 have s03:=s02.trans s3
 have eD3:=s3 _ _ eD
 left
 refine qb0 (SqL.of (s03 _ _ hN)) xn0 ?_
 left
 refine qb0 (SqL.of eD3) xp ?_
 left
 refine qb0 (SqL.of (s03 _ _ hC)) xc0 ?_
 left
 refine⟨lw,csA cs 0,P.ws,csD cs 0,rfl,SqL.of (s03 _ _ hW),SqL.of (s03 _ _ h90),h90l.symm,by omega,fun h2 H4 s4 hh2 e2=>?_⟩
 have s04:=s03.trans s4
 have e1:=s4 _ _ (s3 _ _ (hT tp tp2).1)
 have e04:=s4 _ _ e0
 left
 intro x dx hx hdx ne
 have sN:∀b u,H4 b=some u→upd (upd H4 dx (.own x)) x (.ins d.c_Tree dx []) b=some u:=fun b u e=>by rw [qa9 (qa7 e hx),qa9 (qa7 e hdx)];exact e
 refine⟨x,dx,h0,tp.a,h2,nmF P 0,P.ws,tp.k,tdK (P.ws.zip (csD cs 0)),tp.f,tdF (P.ws.zip (csD cs 0)),1,rfl,qa1,sN _ _ e04,gt,gz,sN _ _ e1,tp4,lp1,sN _ _ e2,qfp _,tcL 0 (by omega),tp5,tcF 0 (by omega),by decide,by decide,fun y=>by rw [←tp3];exact ole y,fun S e H5 sb hTr hs' f1 f2 f3 f4 hl en' ee ew' efp efc hpm hso=>⟨rfl,?_⟩⟩
 have s5:qaq H4 H5:=fun b u e=>sb b u (qa7 e hx) (sN b u e)
 have fr:H4 S.hs=none:=by
  cases r:H4 S.hs with
  |none=>rfl
  |some u=>rw [sN _ _ r] at hs';cases hs'
 have s05:=s04.trans s5
 have s25:=(s3.trans s4).trans s5
 have hs2:H2 S.hs=none:=(s3.trans s4).free fr
 have tI:TInv S P (1+0) (fun k=>1+(k:Int)):=⟨pl_one pf hl en' ee,hpm,hso,fun k e' he=>by
  rw [hl] at he
  have hk:=(List.getElem?_eq_some_iff.mp he).1
  have e0:k=0:=by rw [yA] at hk;omega
  subst e0
  have:e'=e:=by simpa using he.symm
  subst this
  exact⟨by rw [tp3];exact efp,by rw [tcE 0 (by omega)];exact efc,by rw [ew'];rfl⟩⟩
 have hnl2:(P.nm.map V.str).length=P.nm.length:=zB _
 have hrn1:((((P.nm.map V.str).length:Nat):Int) - 1).toNat=P.nm.length - 1:=by rw [hnl2];omega
 have en5:=s05 _ _ hN
 clear sN fr hs' sb f1 f2 f3 f4 hpm hso efp efc ew' ee hl en' s5 s4 s3 e0 e1 e2 e04 hx hdx ne hh0 hh2 xp xc0 tp4 tp5 tp1 tp2 tp3 lp1 ole gt xn0 gz hz0 hld eD3 elq hW1 hW2 s1 s03 s04
 left
 unfold iRng2
 left
 refine⟨1,_,rfl,⟨by decide,by decide,by rw [hnl2];omega,by rw [hnl2];omega⟩,?_⟩
 rw [hrn1]
 refine qby (fun i σ H'=>∃(w:Option V) (S':Ts),σ=[some (V.int c),some (V.ref ln),some (V.ref lw),some (V.ref le),some (V.ref lc),some (V.ref ld),some (V.ref x),w]∧H2 S'.hs=none∧qf5 d H' x S'∧TInv S' P (1+i) (fun k=>1+(k:Int))∧qaq H2 H') ⟨_,S,rfl,hs2,hTr,tI,s25⟩ ?_ ?_
 ·rintro i σ H' hi ⟨w,S',rfl,hs1,hT',hI',sm⟩
  clear hTr tI s05 s25 hs2 en5
  have kn:1+i < P.nm.length:=by omega
  obtain⟨e',ae,een,hWf,hOw,hw50,h40,nk,line⟩:=hI'.ask pf (by omega) kn
  obtain⟨tp,tp1,tp2,tp3,tp4,tp5⟩:=qei pf kn
  have low:=pf.low P.nm.length (1+i) (by omega) kn
  have hb:i < P.es.length:=by omega
  have eb:elN P.es (1+i)=P.es[i]:=by rw [Nat.add_comm 1 i];exact elN_at hb
  have xe:atI ((0 :: P.es).map iV) (((1+i:Nat)):Int)=some (V.int ((elN P.es (1+i):Nat):Int)):=by rw [eb];exact qar (by rw [Nat.add_comm 1 i,zS,List.getElem?_cons_succ,zC,zA hb];rfl)
  have xn2:atI (P.nm.map V.str) ((elN P.es (1+i):Nat):Int)=some (.str (nmF P (elN P.es (1+i)))):=by rw [qdz (by omega)];exact qar (by rw [zC,zA (by omega)];rfl)
  have xp:atI (P.tp.map fun t=>V.ref t.a) (((1+i:Nat)):Int)=some (.ref tp.a):=qar (by rw [zC,tp1];rfl)
  obtain⟨h9k,h9kl,_,xc⟩:=h9.at (k:=1+i) (by omega)
  have xn:atI (P.nm.map V.str) (((1+i:Nat)):Int)=some (.str (nmF P (1+i))):=by rw [qdz kn];exact qar (by rw [zC,zA kn];rfl)
  have gzk:qdu (nmF P (1+i))=true:=by rw [qdz kn];exact pf.ng _ (zJ kn)
  have lp1:tp.k.length≤1000:=by have:=tp4.le (fun z hz=>by cases e:tp.f z with|none=>exact absurd e hz|some n=>exact(tp5 z n e).1);omega
  have ole:=own_le pf kn
  rw [tcE _ kn] at ole
  have kw0:1≤1+(((1+i:Nat)):Int):=by omega
  have kw1:1+(((1+i:Nat)):Int)≤1000:=by omega
  rw [show (1:Int)+(i:Int)=(((1+i:Nat)):Int) by omega]
  generalize ((elN P.es (1+i):Nat):Int)=ej at xe xn2
  generalize hki:(((1+i:Nat)):Int)=ki at*
  have s0':=s02.trans sm
  obtain⟨dx',ht'⟩:=id hT'.1
  have eD':=sm _ _ eD
  clear hrn1 hnl2
  left
  refine qb0 (SqL.of (s0' _ _ hN)) xn ?_
  left
  refine qb0 (SqL.of (s0' _ _ hE)) xe ?_
  left
  refine qb0 (SqL.of (s0' _ _ hN)) xn2 ?_
  left
  refine qb0 (SqL.of eD') xp ?_
  left
  refine qb0 (SqL.of (s0' _ _ hC)) xc ?_
  left
  refine⟨lw,csA cs (1+i),P.ws,csD cs (1+i),rfl,SqL.of (s0' _ _ hW),SqL.of (s0' _ _ h9k),h9kl.symm,by omega,fun h2 H4 s4 hh2 e2=>?_⟩
  have e1:=s4 _ _ (sm _ _ (hT tp tp2).1)
  left
  refine⟨x,tp.a,h2,S',nmF P (1+i),.str (nmF P (elN P.es (1+i))),tp.k,tdK (P.ws.zip (csD cs (1+i))),tp.f,tdF (P.ws.zip (csD cs (1+i))),1+ki,rfl,hT'.same s4,gzk,nk,.inl ⟨_,rfl⟩,fun hn=>?_,fun e3 he3=>?_⟩
  ·rw [show who S' (.str (nmF P (elN P.es (1+i))))=some e' from ae] at hn;cases hn
  ·have e33:e'=e3:=Option.some.inj (ae.symm.trans he3)
   subst e33
   refine⟨hWf,hOw,hw50,e1,tp4,lp1,e2,qfp _,tcL _ kn,fin_perm tp5 hI'.wp,fin_perm (tcF _ kn) hI'.wp,kw0,kw1,h40,by rw [←tp3];exact line,fun y=>by rw [←tp3];exact ole y,fun e4 H5 sb f1 f2 f3 hT5 n1 n2 n3 n4 n5=>?_⟩
   left
   refine⟨_,{S' with hl:=S'.hl++ [e4]},rfl,hs1,hT5,(hI'.next pf (by omega) kn n1 (by rw [n2,een]) n3 (by rw [tp3];exact n4) (by rw [tcE _ kn];exact n5)).cast fun j hj=>?_,fun b u e=>sb b u (qa7 e hs1) ((sm.trans s4) b u e)⟩
   split
   ·rename_i ej;rw [ej,hki]
   ·rfl
 rintro σ H' ⟨w,S',rfl,hs1,hT',hI',sm⟩
 left
 exact q x S' P _ H' (s02.trans sm) rfl rfl rfl etc pf hT' (by rw [show P.nm.length=1+(P.nm.length - 1) by omega];exact hI')
theorem pw_rising:∀{p:Str} {l:List Str},(p :: l).Pairwise leS→PyProof.Rows.risingS p l=true
 |p, [],_=>rfl
 |p,x :: r,h=>by
  have h1:=List.rel_of_pairwise_cons h (zI ..)
  unfold PyProof.Rows.risingS
  rw [Bool.and_eq_true,Bool.not_eq_true']
  exact⟨h1,pw_rising (List.Pairwise.of_cons h)⟩
theorem ins_ex (x:Str):∀{l:List Str},l.Pairwise leS→∃l':List Str,l'.Perm (x :: l)∧l'.Pairwise leS
 | [],_=>⟨[x],List.Perm.refl _,List.pairwise_singleton _ _⟩
 |y :: r,h=>by
  by_cases c:leS x y
  ·refine⟨x :: y :: r,List.Perm.refl _,List.pairwise_cons.mpr ⟨fun z hz=>?_,h⟩⟩
   rcases zR.mp hz with rfl|hz
   ·exact c
   ·exact leS_trans c (List.rel_of_pairwise_cons h hz)
  ·have c':leS y x:=qdf.mpr ((List.le_total _ _).resolve_left fun z=>c (qdf.mpr z))
   obtain⟨l',hp,hl⟩:=ins_ex x (List.Pairwise.of_cons h)
   refine⟨y :: l',(hp.cons y).trans (List.Perm.swap x y r),List.pairwise_cons.mpr ⟨fun z hz=>?_,hl⟩⟩
   rcases zR.mp (hp.mem_iff.mp hz) with rfl|hz
   ·exact c'
   ·exact List.rel_of_pairwise_cons h hz
theorem sort_ex:∀ss:List Str,∃ss':List Str,ss'.Perm ss∧PyProof.Rows.sortedS ss'=true:=fun ss=>by
 have:∃ss':List Str,ss'.Perm ss∧ss'.Pairwise leS:=by
  induction ss with
  |nil=>exact⟨[],List.Perm.refl _,List.Pairwise.nil⟩
  |cons x r ih=>
   obtain⟨r',hp,hr⟩:=ih
   obtain⟨l',hp',hl⟩:=ins_ex x hr
   exact⟨l',hp'.trans (hp.cons x),hl⟩
 obtain⟨l,hp,hl⟩:=this
 refine⟨l,hp,?_⟩
 cases l with
 |nil=>rfl
 |cons x r=>exact pw_rising hl
theorem r_notN {K:Frag} {H:Hp} {Q:VK} {p:Addr} {k:Nat} {ki:Int} {L:List Nat} (h:SqL K H p (L.map iV)) (e:((k:Nat):Int)=ki) (q:Q (.bl (!decide (k∈L))) H):rIn K true (.int ki) (.ref p) H Q:=⟨p,_,rfl,.inl h,rfl,flat_nats L,by
 show Q (.bl (!inV (.int ki) (L.map iV))) H
 rw [←e,inV_nat];exact q⟩
theorem qfw {K:Frag} {H:Hp} {Q:VK} {a:Addr} {xs:List V} {lo hi:Option Int} (h:SqL K H a xs) (q:∀p,H p=none→Q (.ref p) (upd H p (.lst (cutV xs lo hi)))):rSlL K (.ref a) lo hi H Q:=⟨a,xs,rfl,h,q⟩
theorem deq_intF {K:Frag} {H:Hp} {n:Nat} (x:Int):DEq K H n (.int x) (.int x) true:=by
 have w:=DEq.flat (K:=K) (H:=H) (n:=n) (x:=.int x) (y:=.int x) rfl rfl
 have e:eqV (.int x) (.int x)=true:=by simp [eqV]
 rw [e] at w
 exact w
def psN (R:Rw) (j:Nat):Int:=(R.ps[j]?).getD 0
def qc6 (el:Nat→Nat) (Rs:List Rw) (a j:Nat):Int:=((Rs.filter fun R=>decide (a∈qac el R.i)).map fun R=>psN R j).sum
def sp_sum (K:Frag) (d:Ad):Sp:=fun vs H Q _=>∃(lr le:Addr) (Rs:List Rw) (es:List Nat) (nh kd a j:Nat),vs=[.ref lr,.ref le,.int (a:Int),.int (j:Int)]∧H lr=some (.lst (rwV Rs))∧Rs.length≤9∧(∀R∈Rs,RwAt H nh kd R)∧H le=some (.lst ((0 :: es).map iV))∧(∀(k e:Nat),es[k]?=some e→e≤k)∧nh=es.length+1∧nh≤12∧j < kd∧
 ∀H',qaq H H'→Q (.int (qc6 (elN es) Rs a j)) H'
include T in
theorem ok_sum:FnOk P w K mg base CX0 3 d.f_sum d.fd_sum ["_law_rows_here","_law_elders_here","_law_at","_law_j"] (sp_sum K d):=by
 refine T.F_sum.ok sc_sum (fun vs H Q E h=>?_) (fun cdv A outer s H vs Q E hr h=>?_)
 ·obtain⟨lr,le,Rs,es,nh,kd,a,j,rfl,_⟩:=h;rfl
 obtain⟨lr,le,Rs,es,nh,kd,a,j,rfl,hL,h9,hR,hE,lo,en,n12,jk,q⟩:=h
 refine⟨_,(qa6 (qaj (qae (qf1 rfl) rfl T.z_sum PyProof.Rows.boot_sum (qa0 (qbp (caps:=[1,2,3]) (cn:=["_law_elders_here","_law_at","_law_j"]) (qb1 rfl rfl (by rfl) (by rfl) rfl ⟨rfl,⟨rfl,⟨rfl,trivial⟩⟩⟩ (by rfl) rfl ⟨⟨rfl,rfl,rfl,rfl,_,rfl⟩,⟨⟨rfl,rfl,rfl,rfl,_,rfl⟩,⟨⟨rfl,rfl,rfl,rfl,_,rfl⟩,trivial⟩⟩⟩ (by decide)) rfl (qax (pv 0)) (fun _ _ _ _=>(qec (qak qdc (pv 2) (qaa ((ok_line T).mono (by decide)) hr rfl T.m_line T.F_line.kp T.b_line .nil qag (qa0 (pv 1) (qa0 (qal qb4 (pv 0) qa5 (fun _ _=>rfl)) qa2))) (by rfl)))) (fun _ _ _ _=>(qal qai (qal qb4 (pv 0) qa5 (fun _ _=>rfl)) (pv 3) (fun _ _=>rfl)))) qa2)))),?_⟩
 walk_at "d"
 try dsimp only [cxC]
 refine qaf (σ:=[some (.ref lr),some (.ref le),some (.int (a:Int)),some (.int (j:Int))]) rfl ?_
 have xj:∀(R:Rw),R.ps.length=kd→atI (R.ps.map V.int) ((j:Nat):Int)=some (.int (psN R j)):=fun R hl=>qar (by unfold psN;rw [zC,zA (by omega)];rfl)
 generalize hai:((a:Nat):Int)=ai
 generalize hji:((j:Nat):Int)=ji at*
 left
 intro C s0 H0 fp acc hacc
 refine qf7 Rs.length (fun i H'=>qaq H H'∧H' acc=some (.lst ((((Rs.take i).filter fun R=>decide (a∈qac (elN es) R.i)).map fun R=>psN R j).map V.int))) ⟨qa8 hacc _,qa1⟩ ?_ ?_ ?_ ?_
 ·rintro i H' hi ⟨sm,_⟩
  exact⟨_,.ref Rs[i].p,SqL.of (sm _ _ hL),by unfold rwV;rw [zC,zA hi];rfl⟩
 ·rintro H' ⟨sm,_⟩
  exact⟨_,SqL.of (sm _ _ hL),by unfold rwV;rw [zB];exact Nat.le_refl _⟩
 ·rintro i H' v H'' hi ⟨sm,ea⟩ ⟨rfl,hv⟩
  have hv:=hv _ (SqL.of (sm _ _ hL))
  unfold rwV at hv
  rw [zC,zA hi] at hv
  cases hv
  have tk:Rs.take (i+1)=Rs.take i++ [Rs[i]]:=by rw [zQ,zA hi];rfl
  have hRi:=(hR _ (zJ hi)).same sm
  generalize Rs[i]=R at*
  have hrow:=hRi.row
  have ril:=hRi.il
  generalize hri:((R.i:Nat):Int)=ri at*
  have zl:((((Rs.take i).filter fun R=>decide (a∈qac (elN es) R.i)).map fun R=>psN R j).map V.int).length < sizeLine:=by
   rw [zB,zB]
   have h1:=zU (fun R:Rw=>decide (a∈qac (elN es) R.i)) (Rs.take i)
   rw [zT] at h1
   show _ < 16777216
   omega
  left
  refine⟨le,es,R.i,by rw [hri],sm _ _ hE,lo,by omega,by omega,fun l3 hl3=>?_⟩
  have s3:=qa8 hl3 (.lst ((qac (elN es) R.i).map iV))
  have e3:upd H'' l3 (.lst ((qac (elN es) R.i).map iV)) l3=some (.lst ((qac (elN es) R.i).map iV)):=qa1
  have ea3:=s3 _ _ ea
  have hrow3:=s3 _ _ hrow
  have hpar3:=s3 _ _ hRi.par
  generalize upd H'' l3 (.lst ((qac (elN es) R.i).map iV))=H4 at*
  left
  refine r_inN (SqL.of e3) hai ?_
  by_cases c:a∈qac (elN es) R.i
  ·rw [decide_eq_true c]
   left
   refine qb0 (SqL.of hpar3) (xj R hRi.len) ?_
   left
   refine⟨qav (sm.trans s3) hacc,?_⟩
   rw [qa1,tk,yC,zY,if_pos (decide_eq_true c),zE,zE];rfl
  ·rw [decide_eq_false c]
   left
   refine⟨sm.trans s3,?_⟩
   rw [ea3,tk,yC,zY,if_neg (by rw [decide_eq_false c];decide),yP,yD]
 rintro H1 ⟨sm,ea⟩
 rw [zV] at ea
 left
 refine r_sumL (SqL.of ea) ?_
 left
 exact q _ sm
theorem atQ_col {H:Hp} {kd:Nat} {cs:List Pq} (h:CsAt H kd cs) {i j:Nat} {c:Pq} (hc:cs[i]?=some c) (hj:j < kd):atI (c.2.map V.int) ((j:Nat):Int)=some (.int (atQ cs i j)):=by
 rw [h.col hc]
 exact colV_at _ hj
def takR (el:Nat→Nat) (Rs:List Rw) (a j:Nat):List (Int × Int):=(Rs.filter fun R=>decide (0 < psN R j) && decide (a∈qac el R.i)).map fun R=>(R.n,psN R j)
theorem qfr {el:Nat→Nat} {a j:Nat}:∀{Rs:List Rw},(∀R∈Rs,0≤psN R j)→((takR el Rs a j).map (·.2)).sum=qc6 el Rs a j
 | [],_=>rfl
 |R :: Rs,h=>by
  have ih:=qfr (el:=el) (a:=a) (j:=j) (Rs:=Rs) fun x hx=>h x (zF _ hx)
  have h0:=h R (zI ..)
  unfold takR qc6 at ih ⊢
  rw [zY,zY (p:=fun R:Rw=>decide (a∈qac el R.i))]
  by_cases c2:a∈qac el R.i
  ·rw [decide_eq_true c2,Bool.and_true,if_pos rfl]
   by_cases c1:0 < psN R j
   ·rw [if_pos (decide_eq_true c1),zS,zS,zS,yS,yS,ih]
   ·rw [if_neg (by rw [decide_eq_false c1];exact Bool.false_ne_true),zS,yS,ih]
    omega
  ·rw [decide_eq_false c2,Bool.and_false,if_neg Bool.false_ne_true,if_neg Bool.false_ne_true,ih]
def sp_taken (K:Frag) (d:Ad):Sp:=fun vs H Q _=>∃(lr le:Addr) (Rs:List Rw) (es:List Nat) (nh kd a j:Nat),vs=[.ref lr,.ref le,.int (a:Int),.int (j:Int)]∧H lr=some (.lst (rwV Rs))∧Rs.length≤9∧(∀R∈Rs,RwAt H nh kd R)∧H le=some (.lst ((0 :: es).map iV))∧(∀(k e:Nat),es[k]?=some e→e≤k)∧nh=es.length+1∧nh≤12∧j < kd∧
 ∀(l:Addr) (qs:List Pr) H',qaq H H'→H l=none→H' l=some (.lst (prV qs))→(∀q∈qs,qc8 H' q∧H q.a=none)→prN qs=takR (elN es) Rs a j→Q (.ref l) H'
include T in
theorem ok_taken:FnOk P w K mg base CX0 3 d.f_taken d.fd_taken ["_law_rows_here","_law_elders_here","_law_at","_law_j"] (sp_taken K d):=by
 refine T.F_taken.ok sc_taken (fun vs H Q E h=>?_) (fun cdv A outer s H vs Q E hr h=>?_)
 ·obtain⟨lr,le,Rs,es,nh,kd,a,j,rfl,_⟩:=h;rfl
 obtain⟨lr,le,Rs,es,nh,kd,a,j,rfl,hL,h9,hR,hE,lo,en,n12,jk,q⟩:=h
 refine⟨_,(qa6 (qaj (qbp (caps:=[1,2,3]) (cn:=["_law_elders_here","_law_at","_law_j"]) (qb1 rfl rfl (by rfl) (by rfl) rfl ⟨rfl,⟨rfl,⟨rfl,trivial⟩⟩⟩ (by rfl) rfl ⟨⟨rfl,rfl,rfl,rfl,_,rfl⟩,⟨⟨rfl,rfl,rfl,rfl,_,rfl⟩,⟨⟨rfl,rfl,rfl,rfl,_,rfl⟩,trivial⟩⟩⟩ (by decide)) rfl (qax (pv 0)) (fun _ _ _ _=>(qec (PW.pt (pw_and (qak qf9 (qal qai (qal qb4 (pv 0) qa5 (fun _ _=>rfl)) (pv 3) (fun _ _=>rfl)) qa5 (qap _)) (pw_and1 (qak qdc (pv 2) (qaa ((ok_line T).mono (by decide)) hr rfl T.m_line T.F_line.kp T.b_line .nil qag (qa0 (pv 1) (qa0 (qal qb4 (pv 0) qa5 (fun _ _=>rfl)) qa2))) (by rfl))))))) (fun _ _ _ _=>(qc1 (qa0 (qal qb4 (pv 0) qa5 (fun _ _=>rfl)) (qa0 (qal qai (qal qb4 (pv 0) qa5 (fun _ _=>rfl)) (pv 3) (fun _ _=>rfl)) qa2))))))),?_⟩
 walk_at "d"
 try dsimp only [cxC]
 refine qaf (σ:=[some (.ref lr),some (.ref le),some (.int (a:Int)),some (.int (j:Int))]) rfl ?_
 have xj:∀(R:Rw),R.ps.length=kd→atI (R.ps.map V.int) ((j:Nat):Int)=some (.int (psN R j)):=fun R hl=>qar (by unfold psN;rw [zC,zA (by omega)];rfl)
 generalize hai:((a:Nat):Int)=ai
 generalize hji:((j:Nat):Int)=ji at*
 left
 intro C1 s01 H01 fp1 acc1 hacc1
 refine qf7 Rs.length (fun c H'=>∃qs:List Pr,qaq H H'∧H' acc1=some (.lst (prV qs))∧(∀q∈qs,qc8 H' q∧H q.a=none∧q.a≠acc1)∧prN qs=takR (elN es) (Rs.take c) a j) ⟨[],qa8 hacc1 _,qa1,fun q h=>by simp at h,rfl⟩ ?_ ?_ ?_ ?_
 ·rintro c H' hc ⟨qs,sm,_⟩
  exact⟨_,.ref Rs[c].p,SqL.of (sm _ _ hL),by unfold rwV;rw [zC,zA hc];rfl⟩
 ·rintro H' ⟨qs,sm,_⟩
  exact⟨_,SqL.of (sm _ _ hL),by unfold rwV;rw [zB];exact Nat.le_refl _⟩
 ·rintro c H' v H'' hc ⟨qs,sm,ea,hqs,hqn⟩ ⟨rfl,hv⟩
  have hv:=hv _ (SqL.of (sm _ _ hL))
  unfold rwV at hv
  rw [zC,zA hc] at hv
  cases hv
  have tk:Rs.take (c+1)=Rs.take c++ [Rs[c]]:=by rw [zQ,zA hc];rfl
  have hRi:=(hR _ (zJ hc)).same sm
  have ql:qs.length≤9:=by
   have e:=congrArg List.length hqn
   unfold prN takR at e
   rw [zB,zB] at e
   have h1:=zU (fun R:Rw=>decide (0 < psN R j) && decide (a∈qac (elN es) R.i)) (Rs.take c)
   rw [zT] at h1
   omega
  generalize Rs[c]=R at*
  have hrow:=hRi.row
  have hpar:=hRi.par
  have ril:=hRi.il
  have xr:=xj R hRi.len
  generalize hri:((R.i:Nat):Int)=ri at*
  have no:(decide (0 < psN R j) && decide (a∈qac (elN es) R.i))=false→prN qs=takR (elN es) (Rs.take (c+1)) a j:=fun e=>by
   rw [hqn,tk]
   unfold takR
   rw [yC,zY,if_neg (by rw [e];exact Bool.false_ne_true),yP,yD]
  left
  refine qb0 (SqL.of hpar) xr ?_
  left
  refine i_2 (fun c1=>?_) (fun c1=>?_)
  ·left
   refine⟨le,es,R.i,by rw [hri],sm _ _ hE,lo,by omega,by omega,fun l3 hl3=>?_⟩
   have s3:=qa8 hl3 (.lst ((qac (elN es) R.i).map iV))
   have e3:upd H'' l3 (.lst ((qac (elN es) R.i).map iV)) l3=some (.lst ((qac (elN es) R.i).map iV)):=qa1
   have ea3:=s3 _ _ ea
   have hrow3:=s3 _ _ hrow
   have hpar3:=s3 _ _ hpar
   generalize upd H'' l3 (.lst ((qac (elN es) R.i).map iV))=H8 at*
   left
   refine r_inN (SqL.of e3) hai ?_
   by_cases c2:a∈qac (elN es) R.i
   ·rw [decide_eq_true c2]
    left
    refine qb0 (SqL.of hpar3) xr ?_
    left
    rename_i p1 hp1
    have zl:(prV qs).length < sizeLine:=by unfold prV;rw [zB];show _ < 16777216;omega
    have s83:=sm.trans s3
    have n1:p1≠acc1:=(qa7 ea3 hp1).symm
    refine⟨_,qa4 ea3 hp1,zl,qs++ [⟨p1,R.n,psN R j⟩],qav (qb7 s83 hp1) hacc1,by rw [qa1];unfold prV;rw [zE];rfl,fun q hq=>?_,?_⟩
    ·rcases zN.mp hq with h|h
     ·obtain⟨g1,g2,g3⟩:=hqs q h
      exact⟨by unfold qc8;rw [qa9 g3];exact qa4 (s3 _ _ g1) hp1,g2,g3⟩
     ·rw [zH.mp h]
      exact⟨by unfold qc8;rw [qa9 n1];exact qa1,s83.free hp1,n1⟩
    ·rw [tk]
     unfold takR at hqn ⊢
     rw [yC,zY,if_pos (show (decide (0 < psN R j) && decide (a∈qac (elN es) R.i))=true by rw [decide_eq_true c1,decide_eq_true c2];rfl),zE,←hqn]
     unfold prN
     rw [zE];rfl
   ·rw [decide_eq_false c2]
    left
    exact⟨qs,sm.trans s3,ea3,fun q hq=>⟨s3 _ _ (hqs q hq).1,(hqs q hq).2⟩,no (by rw [decide_eq_false c2,Bool.and_false])⟩
  ·left
   exact⟨qs,sm,ea,hqs,no (by rw [decide_eq_false c1,Bool.false_and])⟩
 rintro H7 ⟨qs,sm7,ea,hqs,hqn⟩
 rw [zV] at hqn
 left
 exact q acc1 qs H7 sm7 hacc1 ea (fun q hq=>⟨(hqs q hq).1,(hqs q hq).2.1⟩) hqn
def sp_new (K:Frag) (d:Ad):Sp:=fun vs H Q _=>∃(le:Addr) (es:List Nat) (h e:Nat),vs=[.ref le,.int (h:Int),.int (e:Int)]∧H le=some (.lst ((0 :: es).map iV))∧(∀(k e:Nat),es[k]?=some e→e≤k)∧h < es.length+1∧e < es.length+1∧es.length≤11∧
 ∀(l:Addr) H',qaq H H'→H' l=some (.lst ((qes (elN es) h e).map iV))→Q (.ref l) H'
include T in
theorem ok_new:FnOk P w K mg base CX0 3 d.f_new d.fd_new ["_law_elders_here","_law_home","_law_elder"] (sp_new K d):=by
 refine T.F_new.ok sc_new (fun vs H Q E h=>?_) (fun cdv A outer s H vs Q E hr h=>?_)
 ·obtain⟨le,es,h,e,rfl,_⟩:=h;rfl
 obtain⟨le,es,h,e,rfl,hE,lo,hl,el,h11,q⟩:=h
 refine⟨_,(qa3 (qad (i:=3) sc_new.nd rfl (Or.inr rfl) (qaa ((ok_line T).mono (by decide)) hr rfl T.m_line T.F_line.kp T.b_line .nil qag (qa0 (pv 0) (qa0 (pv 1) qa2))))
  (qa6 (qaj (qbp (caps:=[3]) (cn:=["_law_own"]) (qb1 rfl rfl (by rfl) (by rfl) rfl ⟨rfl,trivial⟩ (by rfl) rfl ⟨⟨rfl,rfl,rfl,rfl,_,rfl⟩,trivial⟩ (by decide)) rfl (qax (qaa ((ok_line T).mono (by decide)) hr rfl T.m_line T.F_line.kp T.b_line .nil qag (qa0 (pv 0) (qa0 (pv 2) qa2)))) (fun _ _ _ _=>(qec (qak qcl (pv 0) (pv 1) (by rfl)))) (fun _ _ _ _=>(pv 0)))))),?_⟩
 walk_at "d"
 try dsimp only [cxC]
 refine qaf (σ:=[some (.ref le),some (.int (h:Int)),some (.int (e:Int)),none]) rfl ?_
 left
 refine⟨le,es,h,rfl,hE,lo,hl,by omega,fun l1 hl1=>?_⟩
 have s1:=qa8 hl1 (.lst ((qac (elN es) h).map iV))
 have e1:upd H l1 (.lst ((qac (elN es) h).map iV)) l1=some (.lst ((qac (elN es) h).map iV)):=qa1
 generalize upd H l1 (.lst ((qac (elN es) h).map iV))=H1 at*
 left
 refine⟨le,es,e,rfl,s1 _ _ hE,lo,el,by omega,fun l2 hl2=>?_⟩
 have s2:=s1.trans (qa8 hl2 (.lst ((qac (elN es) e).map iV)))
 have e2:upd H1 l2 (.lst ((qac (elN es) e).map iV)) l2=some (.lst ((qac (elN es) e).map iV)):=qa1
 have e12:=qa4 (o':=.lst ((qac (elN es) e).map iV)) e1 hl2
 generalize upd H1 l2 (.lst ((qac (elN es) e).map iV))=H2 at*
 have eN:qes (elN es) h e=(qac (elN es) e).filter fun i=>!decide (i∈qac (elN es) h):=rfl
 have l12:(qac (elN es) e).length≤12:=by have:=qcf (qdg lo (es.length+1)) e el;omega
 generalize hL:qac (elN es) e=L at*
 clear s1 e1 hl1 hl2
 left
 intro C s0 H0 fp acc hacc
 refine qf7 L.length (fun i H'=>H'=upd H2 acc (.lst (((L.take i).filter fun i=>!decide (i∈qac (elN es) h)).map iV))) rfl ?_ ?_ ?_ ?_
 ·rintro i H' hi rfl
  exact⟨_,iV L[i],SqL.of (qa4 e2 hacc),by rw [zC,zA hi];rfl⟩
 ·rintro H' rfl
  exact⟨_,SqL.of (qa4 e2 hacc),by rw [zB];exact Nat.le_refl _⟩
 ·rintro i H' v H'' hi rfl ⟨rfl,hy⟩
  have hv:=hy _ (SqL.of (qa4 e2 hacc))
  rw [zC,zA hi] at hv
  cases hv
  have tk:L.take (i+1)=L.take i++ [L[i]]:=by rw [zQ,zA hi];rfl
  generalize L[i]=x at*
  have zl:(((L.take i).filter fun i=>!decide (i∈qac (elN es) h)).map iV).length < sizeLine:=by
   rw [zB]
   have h1:=zU (fun i=>!decide (i∈qac (elN es) h)) (L.take i)
   rw [zT] at h1
   show _ < 16777216
   omega
  rw [show iV x=V.int ((x:Nat):Int) from rfl]
  left
  refine r_notN (SqL.of (qa4 e12 hacc)) rfl ?_
  by_cases c:x∈qac (elN es) h
  ·rw [decide_eq_true c]
   left
   rw [tk,yC,zY,if_neg (by rw [decide_eq_true c];decide),yP,yD]
  ·rw [decide_eq_false c]
   left
   rw [qbb,tk,yC,zY,if_pos (by rw [decide_eq_false c];rfl),zE];rfl
 rintro H' rfl
 rw [zV,←eN]
 left
 exact q acc _ (s2.trans (qa8 hacc _)) qa1
structure Wp (H:Hp) (ln lw le lc lr:Addr) (P:PL) (Rs:List Rw) (cs:List Pq):Prop where
 ln:H ln=some (.lst (P.nm.map V.str))
 lw:H lw=some (.lst (P.ws.map V.str))
 le:H le=some (.lst ((0 :: P.es).map iV))
 lc:H lc=some (.lst (qsV cs))
 lr:H lr=some (.lst (rwV Rs))
 cl:cs.length=P.nm.length
 cs:CsAt H P.ws.length cs
 rs:∀R∈Rs,RwAt H P.nm.length P.ws.length R
 r9:Rs.length≤9
 lo:∀(k e:Nat),P.es[k]?=some e→e≤k
 ne:P.nm.length=P.es.length+1
 n12:P.nm.length≤12
 w3:P.ws.length≤3
 wn:P.ws.Nodup
theorem Wp.same {H H':Hp} {ln lw le lc lr:Addr} {P:PL} {Rs:List Rw} {cs:List Pq} (h:Wp H ln lw le lc lr P Rs cs) (s:qaq H H'):Wp H' ln lw le lc lr P Rs cs:=⟨s _ _ h.ln,s _ _ h.lw,s _ _ h.le,s _ _ h.lc,s _ _ h.lr,h.cl,h.cs.same s,fun R hR=>(h.rs R hR).same s,h.r9,h.lo,h.ne,h.n12,h.w3,h.wn⟩
theorem psN_nn {H:Hp} {nh kd:Nat} {R:Rw} (h:RwAt H nh kd R) (j:Nat):0≤psN R j:=by
 unfold psN
 cases e:R.ps[j]? with
 |none=>exact Int.le_refl _
 |some x=>exact(h.nn x (zD e)).lo
def mvN (P:PL) (Rs:List Rw) (h:Nat):List Int:=(List.range P.ws.length).map fun j=>qc6 (elN P.es) Rs h j
theorem mvN_len (P:PL) (Rs:List Rw) (h:Nat):(mvN P Rs h).length=P.ws.length:=by unfold mvN;rw [zB,yJ]
theorem prN_x {ps:List Pr} {l:List (Int × Int)} (h:prN ps=l):(ps.map (·.x)).sum=(l.map (·.2)).sum:=by
 rw [←h]
 unfold prN
 rw [yO];rfl
def DueN (H0 H:Hp) (P:PL) (Rs:List Rw) (h e:Nat) (ss:List Str) (rm:Nat→Str→Int) (x:V):Prop:=(x=.non∧∀i∈qes (elN P.es) h e,∀w∈ss,0≤rm i w)∨∃(a b i j:Nat) (hj:j < P.ws.length) (p l:Addr) (qs:List Pr),x=.ref p∧Fst (qes (elN P.es) h e) ss rm a b i P.ws[j]∧H p=some (.tup [.str (nmF P i),.str P.ws[j],.ref l])∧H l=some (.lst (prV qs))∧(∀q∈qs,qc8 H q∧H0 q.a=none)∧H0 l=none∧prN qs=takR (elN P.es) Rs i j
def sp_l_bar (K:Frag) (d:Ad):Sp:=fun vs H Q _=>∃(ln lw le lc lr:Addr) (P:PL) (Rs:List Rw) (cs:List Pq) (h e:Nat) (ss:List Str) (rm:Nat→Str→Int),vs=[.ref ln,.ref lw,.ref le,.ref lc,.ref lr,.int (h:Int),.int (e:Int)]∧Wp H ln lw le lc lr P Rs cs∧h < P.nm.length∧e < P.nm.length∧ss.Perm (qbu (tdK (P.ws.zip (mvN P Rs h))))∧PyProof.Rows.sortedS ss=true∧
 (∀i,i < P.nm.length→∀(j:Nat) (hj:j < P.ws.length),rm i P.ws[j]=atQ cs i j - qc6 (elN P.es) Rs i j - qc6 (elN P.es) Rs h j)∧∀x H',qaq H H'→DueN H H' P Rs h e ss rm x→Q x H'
include T in
theorem ok_l_bar:FnOk P w K mg base CX0 5 d.f_l_bar d.fd_l_bar ["_law_names_here","_law_wares","_law_elders_here","_law_caps_here","_law_rows_here","_law_home","_law_elder"] (sp_l_bar K d):=by
 refine T.F_l_bar.ok sc_l_bar (fun vs H Q E h=>?_) (fun cdv A outer s H vs Q E hr h=>?_)
 ·obtain⟨ln,lw,le,lc,lr,P,Rs,cs,h,e,ss,rm,rfl,_⟩:=h;rfl
 obtain⟨ln,lw,le,lc,lr,P,Rs,cs,h,e,ss,rm,rfl,hO,hn,en,hp,hs,hrx,q⟩:=h
 refine⟨_,(qa3 (qdr (j:=7) (caps:=[2,4,5]) (cn:=["_law_elders_here","_law_rows_here","_law_home"]) (qb1 rfl rfl (by rfl) (by rfl) rfl ⟨rfl,⟨rfl,⟨rfl,trivial⟩⟩⟩ (by rfl) rfl ⟨⟨rfl,rfl,rfl,rfl,_,rfl⟩,⟨⟨rfl,rfl,rfl,rfl,_,rfl⟩,⟨⟨rfl,rfl,rfl,rfl,_,rfl⟩,trivial⟩⟩⟩ (by decide)) rfl sc_l_bar.nd rfl rfl (qb8 rfl T.z_range (qa0 (qae qau rfl T.z_len PySem.boot_len (qa0 (pv 1) qa2)) qa2)) (fun _ _ _ _=>qcj) (fun _ _ _ _=>(qae (qf1 rfl) rfl T.z_sum PyProof.Rows.boot_sum (qa0 (pe_comp2 (x:="_law_number") (y:="_law_part") (qb1 rfl rfl (by rfl) (by rfl) rfl trivial (by rfl) rfl trivial (by decide)) rfl (qax (qaa ((ok_taken T).mono (by decide)) hr rfl T.m_taken T.F_taken.kp T.b_taken .nil qag (qa0 (pv 2) (qa0 (pv 1) (qa0 (pv 3) (qa0 (pv 0) qa2)))))) (fun _ _ _ _=>(pg_tup rfl (qbl (qam (i:=0) (by show ([Str.ofString "_law_number",Str.ofString "_law_part"]:List Str).Nodup;decide) rfl (Or.inl rfl)) (qbl (qam (i:=1) (by show ([Str.ofString "_law_number",Str.ofString "_law_part"]:List Str).Nodup;decide) rfl (Or.inl rfl)) qep)))) (fun _ _ _ _=>(pv 1))) qa2))))
  (qa3 (qad (i:=8) sc_l_bar.nd rfl (Or.inl rfl) (qae qe9 rfl T.z_sorted PyProof.Rows.boot_sorted (qa0 (pe_thV (qbp (caps:=[]) (cn:=[]) (qb1 rfl rfl (by rfl) (by rfl) rfl trivial (by rfl) rfl trivial (by decide)) rfl (qe4 (qaa ((ok_told T).mono (by decide)) hr rfl T.m_told T.F_told.kp T.b_told .nil qag (qa0 (pv 1) (qa0 (pv 7) qa2)))) (fun _ _ _ _=>qcj) (fun _ _ _ _=>(pv 0)))) qa2)))
  (qa3 (qb2 PassesOwn.never rfl (qax (qaa ((ok_new T).mono (by decide)) hr rfl T.m_new T.F_new.kp T.b_new .nil qag (qa0 (pv 2) (qa0 (pv 5) (qa0 (pv 6) qa2))))) (qam (i:=9) sc_l_bar.nd rfl (Or.inl rfl)) (qa6 (qb2 PassesOwn.never rfl (qax (pv 8)) (qam (i:=10) sc_l_bar.nd rfl (Or.inl rfl)) (qa3 (qad (i:=11) sc_l_bar.nd rfl (Or.inl rfl) (qd2 PySem.F.plainAttrs_list PySem.F.slot_list_index PySem.F.type_list_index mt_idxS (pv 1) (qa0 (pv 10) qa2)))
  (qa3 (qad (i:=12) sc_l_bar.nd rfl (Or.inl rfl) (qaa ((ok_taken T).mono (by decide)) hr rfl T.m_taken T.F_taken.kp T.b_taken .nil qag (qa0 (pv 4) (qa0 (pv 2) (qa0 (pv 9) (qa0 (pv 11) qa2))))))
  (qa6 (qbc (qak qf9 (qah qas (qae (qf1 rfl) rfl T.z_sum PyProof.Rows.boot_sum (qa0 (pe_comp2 (x:="_law_number") (y:="_law_part") (qb1 rfl rfl (by rfl) (by rfl) rfl trivial (by rfl) rfl trivial (by decide)) rfl (qax (pv 12)) (fun _ _ _ _=>(pg_tup rfl (qbl (qam (i:=0) (by show ([Str.ofString "_law_number",Str.ofString "_law_part"]:List Str).Nodup;decide) rfl (Or.inl rfl)) (qbl (qam (i:=1) (by show ([Str.ofString "_law_number",Str.ofString "_law_part"]:List Str).Nodup;decide) rfl (Or.inl rfl)) qep)))) (fun _ _ _ _=>(pv 1))) qa2)) (qal qai (pv 7) (pv 11) (fun _ _=>rfl))) (qal qai (qal qai (pv 3) (pv 9) (fun _ _=>rfl)) (pv 11) (fun _ _=>rfl)) (qap _)) (qa6 (qaj (qc1 (qa0 (qal qai (pv 0) (pv 9) (fun _ _=>rfl)) (qa0 (pv 10) (qa0 (pv 12) qa2)))))) qan)))))))
  (qa6 (qaj qdo))))),?_⟩
 walk_at "d"
 try dsimp only [cxC]
 refine qaf (σ:=[some (.ref ln),some (.ref lw),some (.ref le),some (.ref lc),some (.ref lr),some (.int (h:Int)),some (.int (e:Int)),none,none,none,none,none,none]) rfl ?_
 have hlw:=hO.lw
 have w3:=hO.w3
 have n12:=hO.n12
 have hne:=hO.ne
 have wl:((P.ws.map V.str).length:Int)=((P.ws.length:Nat):Int):=by rw [zB]
 left
 rw [wl]
 left
 intro C s0 H0 fp acc hacc
 refine qf7 P.ws.length (fun j H'=>qaq H H'∧H' acc=some (.lst (((List.range j).map fun j=>qc6 (elN P.es) Rs h j).map V.int))) ⟨qa8 hacc _,qa1⟩ ?_ ?_ ?_ ?_
 ·rintro j H' hj _
  show j <((P.ws.length:Nat):Int).toNat
  omega
 ·rintro H' _
  show ((P.ws.length:Nat):Int).toNat≤P.ws.length
  omega
 ·rintro j H' v H'' hj ⟨sm,ea⟩ ⟨rfl,rfl⟩
  have hO':=hO.same sm
  left
  refine r_comp2 ?_
  left
  refine⟨lr,le,Rs,P.es,P.nm.length,P.ws.length,h,j,by rw [Int.zero_add],hO'.lr,hO.r9,hO'.rs,hO'.le,hO.lo,hne,n12,hj,fun l qs H2 s2 hl el hqs hqn=>?_⟩
  have ql:qs.length≤9:=by
   have e':=congrArg List.length hqn
   unfold prN takR at e'
   rw [zB,zB] at e'
   have h1:=zU (fun R:Rw=>decide (0 < psN R j) && decide (h∈qac (elN P.es) R.i)) Rs
   have:=hO.r9
   omega
  left
  intro C1 s1 H01 fp1 ac2 hac2
  refine c2_by qs.length (fun i H'=>H'=upd H2 ac2 (.lst (((qs.take i).map (·.x)).map V.int))) rfl ?_ ?_ ?_ ?_
  ·rintro i H' hi rfl
   exact⟨_,.ref qs[i].a,SqL.of (qa4 el hac2),by unfold prV;rw [zC,zA hi];rfl⟩
  ·rintro H' rfl
   exact⟨_,SqL.of (qa4 el hac2),by unfold prV;rw [zB];exact Nat.le_refl _⟩
  ·rintro i H' v H'' a b hi rfl ⟨rfl,hv⟩
   have hv:=hv _ (SqL.of (qa4 el hac2))
   unfold prV at hv
   rw [zC,zA hi] at hv
   cases hv
   have tk:qs.take (i+1)=qs.take i++ [qs[i]]:=by rw [zQ,zA hi];rfl
   have hpi:H2 qs[i].a=some (.tup [.int qs[i].n,.int qs[i].x]):=(hqs _ (zJ hi)).1
   generalize qs[i]=p at*
   have hpi':=qa4 (o':=.lst (((qs.take i).map (·.x)).map V.int)) hpi hac2
   have zl:(((qs.take i).map (·.x)).map V.int).length < sizeLine:=by rw [zB,zB,zT];show _ < 16777216;omega
   left
   rw [qbb,tk,zE,zE]
   rfl
  rintro H' rfl
  rw [zV]
  left
  refine r_sumL (SqL.of qa1) ?_
  rw [prN_x hqn,qfr fun R hR=>psN_nn (hO.rs R hR) j]
  left
  refine⟨_,qa4 (s2 _ _ ea) hac2,by rw [zB,zB,yJ];show _ < 16777216;omega,qav (qb7 (sm.trans s2) hac2) hacc,?_⟩
  rw [qa1,List.range_succ,zE,zE];rfl
 rintro H1 ⟨s1,ea⟩
 have ml:=mvN_len P Rs h
 have emv:(List.range P.ws.length).map (fun j=>qc6 (elN P.es) Rs h j)=mvN P Rs h:=rfl
 rw [emv] at ea
 have hO1:=hO.same s1
 clear hlw hacc emv
 left
 refine r_thV ?_
 left
 refine⟨lw,acc,P.ws,mvN P Rs h,rfl,SqL.of hO1.lw,SqL.of ea,ml.symm,by omega,fun am H2 s2 ham eam=>?_⟩
 refine r_itD eam fun o=>?_
 left
 intro C s0 H0 fp ac3 hac3
 have had:=qfp (P.ws.zip (mvN P Rs h))
 have hkl:=had.klen
 have hkeys:=had.keys
 have kl:(tdK (P.ws.zip (mvN P Rs h))).length≤3:=by
  have e3:(tdK (P.ws.zip (mvN P Rs h))).length≤0+(P.ws.zip (mvN P Rs h)).length:=qfo (P.ws.zip (mvN P Rs h)) []
  have e4:(P.ws.zip (mvN P Rs h)).length≤P.ws.length:=by rw [yU];omega
  omega
 generalize tdK (P.ws.zip (mvN P Rs h))=kvs at*
 refine qf7 kvs.length (fun i H'=>H'=upd (upd H2 am (.frz o (.dK kvs))) ac3 (.lst (((qbu kvs).take i).map V.str))) rfl ?_ ?_ ?_ ?_
 ·rintro i H' hi rfl
  exact⟨by rw [qa9 (qa7 qa1 hac3)];exact qa1,hi⟩
 ·rintro H' rfl
  exact⟨by rw [qa9 (qa7 qa1 hac3)];exact qa1,Nat.le_refl _⟩
 ·rintro i H' v H'' hi rfl ⟨rfl,k,v',hk,rfl⟩
  have hz:∃z,(qbu kvs)[i]?=some z∧k=Sum.inr z:=by
   have z:=congrArg (fun l:List Key=>l[i]?) hkeys
   try dsimp only at z
   rw [zC,hk,zC] at z
   obtain⟨y,hy,e⟩:=Option.map_eq_some_iff.mp z.symm
   exact⟨y,hy,e.symm⟩
  obtain⟨z,hz,rfl⟩:=hz
  have tk:(qbu kvs).take (i+1)=(qbu kvs).take i++ [z]:=by rw [zQ,hz];rfl
  have zl:(((qbu kvs).take i).map V.str).length < sizeLine:=by rw [zB,zT];show _ < 16777216;omega
  left
  rw [qbb,tk,zE];rfl
 rintro H' rfl
 rw [List.take_of_length_le (show (qbu kvs).length≤kvs.length by omega)]
 have nam:=qa7 (show upd H2 am (.frz o (.dK kvs)) am=some (.frz o (.dK kvs)) from qa1) hac3
 have fz:upd (upd H2 am (.frz o (.dK kvs))) ac3 (.lst ((qbu kvs).map V.str)) am=some (.frz o (.dK kvs)):=by rw [qa9 nam];exact qa1
 refine⟨_,thaw1 fz (noFrz_none (s1.free ham)),?_⟩
 left
 have ha2:H2 ac3=none:=by rw [qa9 nam.symm] at hac3;exact hac3
 have s3:=qcq (H':=upd (upd H2 am (.frz o (.dK kvs))) ac3 (.lst ((qbu kvs).map V.str))) eam (fun b u hb e=>by rw [qa9 (qa7 e ha2),qa9 hb];exact e)
 have e3:upd (upd (upd H2 am (.frz o (.dK kvs))) ac3 (.lst ((qbu kvs).map V.str))) am (.dK kvs) ac3=some (.lst ((qbu kvs).map V.str)):=by rw [qa9 nam.symm];exact qa1
 generalize upd (upd (upd H2 am (.frz o (.dK kvs))) ac3 (.lst ((qbu kvs).map V.str))) am (.dK kvs)=H3 at*
 refine r_sortL (SqL.of e3) (by omega) fun lo ss' hlo hp' hs'=>?_
 have ess:ss'=ss:=sort_eq (hp'.trans hp.symm) hs' hs
 rw [ess]
 clear ess hp' hs' fz hac3 hkeys
 have s4:=qa8 hlo (.lst (ss.map V.str))
 have e4:upd H3 lo (.lst (ss.map V.str)) lo=some (.lst (ss.map V.str)):=qa1
 generalize upd H3 lo (.lst (ss.map V.str))=H4 at*
 have s14:=s2.trans (s3.trans s4)
 have ea4:=s14 _ _ ea
 have sH:=s1.trans s14
 have hO4:=hO.same sH
 clear s14 s3 s4 s2 e3 ham eam hlo nam ha2 ea hO1 s1
 left
 refine⟨le,P.es,h,e,rfl,hO4.le,hO.lo,by omega,by omega,by omega,fun ll H5 s45 e5=>?_⟩
 have s5:=sH.trans s45
 have e45:=s45 _ _ e4
 have ea5:=s45 _ _ ea4
 have lnw:∀i∈qes (elN P.es) h e,i < P.nm.length:=fun i hi=>by
  have:=qcn (qdg hO.lo P.nm.length) e en i (yF.mp hi).1
  omega
 clear e4 ea4 s45 sH hO4
 left
 refine qd6 (xs:=(qes (elN P.es) h e).map iV) (fun i σ H'=>(∃(w1 w2 w3 w4:Option V),σ=[some (V.ref ln),some (V.ref lw),some (V.ref le),some (V.ref lc),some (V.ref lr),some (V.int (h:Int)),some (V.int (e:Int)),some (V.ref acc),some (V.ref lo),w1,w2,w3,w4])∧qaq H5 H'∧∀(a' j':Nat) (w':Str),a' < i→(qes (elN P.es) h e)[a']?=some j'→w'∈ss→0≤rm j' w')
  ⟨⟨_,_,_,_,rfl⟩,fun _ _ h=>h,fun a' j' w' h=>absurd h (by omega)⟩ ?_ ?_ ?_
 ·rintro i σ H' hi ⟨_,sm,_⟩
  exact SqL.of (sm _ _ e5)
 ·rintro i v σ H' hx ⟨⟨w1,w2,w3,w4,rfl⟩,sm,hbef⟩
  rw [zC] at hx
  obtain⟨g,hg,rfl⟩:=Option.map_eq_some_iff.mp hx
  have hgn:=lnw g (zD hg)
  have e4':=sm _ _ e45
  have hgc:g < cs.length:=by rw [hO.cl];exact hgn
  have hc:=zA hgc
  have xc:atI (qsV cs) ((g:Nat):Int)=some (.ref cs[g].1):=qar (by unfold qsV;rw [zC,hc];rfl)
  have xnm:atI (P.nm.map V.str) ((g:Nat):Int)=some (.str (nmF P g)):=by rw [qdz hgn];exact qar (by rw [zC,zA hgn];rfl)
  rw [show iV g=V.int ((g:Nat):Int) from rfl]
  left
  refine qd6 (xs:=ss.map V.str) (fun c σ H''=>(∃(w2 w3 w4:Option V),σ=[some (V.ref ln),some (V.ref lw),some (V.ref le),some (V.ref lc),some (V.ref lr),some (V.int (h:Int)),some (V.int (e:Int)),some (V.ref acc),some (V.ref lo),some (V.int (g:Int)),w2,w3,w4])∧qaq H5 H''∧∀(b':Nat) (w':Str),b' < c→ss[b']?=some w'→0≤rm g w')
   ⟨⟨_,_,_,rfl⟩,sm,fun b' w' h=>absurd h (by omega)⟩ ?_ ?_ ?_
  ·rintro c σ H'' hc ⟨_,sm',_⟩
   exact SqL.of (sm' _ _ e45)
  ·rintro c0 v σ H'' hx' ⟨⟨w2,w3,w4,rfl⟩,sm',hbef'⟩
   rw [zC] at hx'
   obtain⟨w,hw,rfl⟩:=Option.map_eq_some_iff.mp hx'
   have hwk:=had.kin w|>.mp (hp.mem_iff.mp (zD hw))
   obtain⟨j,hj,rfl⟩:∃(j:Nat) (hj:j < P.ws.length),P.ws[j]=w:=zK.mp (qfd ml.symm w hwk)
   have sO:=s5.trans sm'
   have hO':=hO.same sO
   have elw':=hO'.lw
   left
   refine r_idxS (SqL.of hO'.lw) hO.wn hj ?_
   left
   refine⟨lr,le,Rs,P.es,P.nm.length,P.ws.length,g,j,rfl,hO'.lr,hO.r9,hO'.rs,hO'.le,hO.lo,hne,n12,hj,fun l qs H6 s6 hl el hqs hqn=>?_⟩
   have ql:qs.length≤9:=by
    have e':=congrArg List.length hqn
    unfold prN takR at e'
    rw [zB,zB] at e'
    have h1:=zU (fun R:Rw=>decide (0 < psN R j) && decide (g∈qac (elN P.es) R.i)) Rs
    have:=hO.r9
    omega
   have hr:=hrx g hgn j hj
   have xm:atI ((mvN P Rs h).map V.int) ((j:Nat):Int)=some (.int (qc6 (elN P.es) Rs h j)):=qar (by unfold mvN;rw [zC,zC,List.getElem?_range hj];rfl)
   have xj:=atQ_col hO.cs hc hj
   have hcr:=(hO.cs _ (zJ hgc)).1
   left
   refine r_comp2 ?_
   left
   intro C1 s1 H01 fp1 ac2 hac2
   refine c2_by qs.length (fun i H'=>H'=upd H6 ac2 (.lst (((qs.take i).map (·.x)).map V.int))) rfl ?_ ?_ ?_ ?_
   ·rintro i H' hi rfl
    exact⟨_,.ref qs[i].a,SqL.of (qa4 el hac2),by unfold prV;rw [zC,zA hi];rfl⟩
   ·rintro H' rfl
    exact⟨_,SqL.of (qa4 el hac2),by unfold prV;rw [zB];exact Nat.le_refl _⟩
   ·rintro i H' v H'' a b hi rfl ⟨rfl,hv⟩
    have hv:=hv _ (SqL.of (qa4 el hac2))
    unfold prV at hv
    rw [zC,zA hi] at hv
    cases hv
    have tk:qs.take (i+1)=qs.take i++ [qs[i]]:=by rw [zQ,zA hi];rfl
    have hpi:H6 qs[i].a=some (.tup [.int qs[i].n,.int qs[i].x]):=(hqs _ (zJ hi)).1
    generalize qs[i]=p at*
    have hpi':=qa4 (o':=.lst (((qs.take i).map (·.x)).map V.int)) hpi hac2
    have zl:(((qs.take i).map (·.x)).map V.int).length < sizeLine:=by rw [zB,zB,zT];show _ < 16777216;omega
    left
    rw [qbb,tk,zE,zE]
    rfl
   rintro H' rfl
   rw [zV]
   left
   refine r_sumL (SqL.of qa1) ?_
   rw [prN_x hqn,qfr fun R hR=>psN_nn (hO.rs R hR) j]
   have s7:=s6.trans (qa8 hac2 (.lst ((qs.map (·.x)).map V.int)))
   have el7:=qa4 (o':=.lst ((qs.map (·.x)).map V.int)) el hac2
   have hq7:∀q∈qs,qc8 (upd H6 ac2 (.lst ((qs.map (·.x)).map V.int))) q∧H'' q.a=none:=fun q hq=>⟨qa4 (hqs q hq).1 hac2,(hqs q hq).2⟩
   generalize upd H6 ac2 (.lst ((qs.map (·.x)).map V.int))=H7 at*
   have sT:=sO.trans s7
   have ea7:=s7 _ _ (sm' _ _ ea5)
   have hO7:=hO.same sT
   left
   refine qb0 (SqL.of ea7) xm ?_
   left
   refine qb0 (SqL.of hO7.lc) xc ?_
   left
   refine qb0 (SqL.of (sT _ _ hcr)) xj ?_
   left
   refine i_2 (fun c=>?_) (fun c=>?_)
   ·have hfs:Fst (qes (elN P.es) h e) ss rm i c0 g P.ws[j]:=⟨hg,hw,hbef,hbef',by rw [hr];omega⟩
    left
    refine qb0 (SqL.of hO7.ln) xnm ?_
    left
    rename_i p hp7
    exact q _ _ (qb7 sT hp7) (.inr ⟨i,c0,g,j,hj,p,l,qs,rfl,hfs,qa1,qa4 el7 hp7,fun q hq=>⟨qa4 (hq7 q hq).1 hp7,sO.free (hq7 q hq).2⟩,sO.free hl,hqn⟩)
   ·left
    refine⟨⟨_,_,_,rfl⟩,sm'.trans s7,fun b' w' hb' hw'=>?_⟩
    by_cases e':b'=c0
    ·subst e'
     rw [hw] at hw'
     cases hw'
     rw [hr]
     omega
    ·exact hbef' b' w' (by omega) hw'
  ·rintro σ H'' ⟨⟨w2,w3,w4,rfl⟩,sm',hbef'⟩
   refine⟨⟨_,_,_,_,rfl⟩,sm',fun a' j' w' h1 h2 h3=>?_⟩
   by_cases e':a'=i
   ·subst e'
    rw [hg] at h2
    cases h2
    obtain⟨b',hb',e2⟩:=zK.mp h3
    exact hbef' b' w' (by rw [zB];exact hb') (by rw [zA hb',e2])
   ·exact hbef a' j' w' (by omega) h2 h3
 ·rintro σ H' ⟨⟨w1,w2,w3,w4,rfl⟩,sm,hall⟩
  rw [zB] at hall
  left
  refine q _ _ (s5.trans sm) (.inl ⟨rfl,fun i hi w hw=>?_⟩)
  obtain⟨a',ha',e'⟩:=zK.mp hi
  exact hall a' i w ha' (by rw [zA ha',e']) hw
structure LqOk (x:Int):Prop where
 lo:0≤x
 hi:x≤9*10^29
structure CaOk (x:Int):Prop where
 hi:x≤95*10^28
def LsAt (H:Hp) (kd:Nat) (lq:List Pq):Prop:=∀q∈lq,H q.1=some (.lst (q.2.map V.int))∧q.2.length=kd∧∀x∈q.2,LqOk x
def sp_caps (K:Frag) (d:Ad):Sp:=fun vs H Q _=>∃(c:Int) (le lk:Addr) (lq:List Pq) (es:List Nat) (kd:Nat),vs=[.int c,.ref le,.int (kd:Int),.ref lk]∧H le=some (.lst ((0 :: es).map iV))∧es.length≤11∧1≤kd∧kd≤3∧H lk=some (.lst (qsV lq))∧lq.length=es.length+1∧LsAt H kd lq∧
 ∀(l:Addr) (cs:List Pq) (H':Hp),qaq H H'→H' l=some (.lst (qsV cs))→cs.length=es.length+1→CsAt H' kd cs→Q (.ref l) H'
theorem r_inI {K:Frag} {H:Hp} {Q:VK} {p:Addr} {x:Int} {ns:List Int} (h:SqL K H p (ns.map V.int)) (q:∀b:Bool,Q (.bl b) H):rIn K false (.int x) (.ref p) H Q:=⟨p,_,rfl,.inl h,rfl,by rw [List.all_map];exact yE.mpr fun _ _=>rfl,q _⟩
include T in
theorem ok_caps:FnOk P w K mg base CX0 2 d.f_caps d.fd_caps ["_law_cell_here","_law_elders_here","_law_kinds","_law_least_here"] (sp_caps K d):=by
 refine T.F_caps.ok sc_caps (fun vs H Q E h=>?_) (fun cdv A outer s H vs Q E hr h=>?_)
 ·obtain⟨c,le,lk,lq,es,kd,rfl,_⟩:=h;rfl
 obtain⟨c,le,lk,lq,es,kd,rfl,hE,h11,k1,k3,hK,hql,hq,q⟩:=h
 refine⟨_,(qa3 (qad (i:=4) sc_caps.nd rfl (Or.inl rfl) (qbe qa2))
  (qa3 (qdr (j:=5) (caps:=[0,1,2]) (cn:=["_law_cell_here","_law_elders_here","_law_kinds"]) (qb1 rfl rfl (by rfl) (by rfl) rfl ⟨rfl,⟨rfl,⟨rfl,trivial⟩⟩⟩ (by rfl) rfl ⟨⟨rfl,rfl,rfl,rfl,_,rfl⟩,⟨⟨rfl,rfl,rfl,rfl,_,rfl⟩,⟨⟨rfl,rfl,rfl,rfl,_,rfl⟩,trivial⟩⟩⟩ (by decide)) rfl sc_caps.nd rfl rfl (qb8 rfl T.z_range (qa0 (qaa ((ok_mix T).mono (by decide)) hr rfl T.m_mix T.F_mix.kp T.b_mix .nil qag (qa0 (pv 0) (qa0 qa5 (qa0 qa5 qa2)))) qa2)) (fun _ _ _ _=>qcj) (fun _ _ _ _=>(qaa ((ok_mix T).mono (by decide)) hr rfl T.m_mix T.F_mix.kp T.b_mix .nil qag (qa0 (pv 1) (qa0 (qah qas qa5 (pv 0)) (qa0 (qah qbj (qae qau rfl T.z_len PySem.boot_len (qa0 (pv 2) qa2)) (pv 3)) qa2))))))
  (qa3 (qb2 PassesOwn.never rfl (qb8 rfl T.z_range (qa0 (qae qau rfl T.z_len PySem.boot_len (qa0 (pv 1) qa2)) qa2)) (qam (i:=6) sc_caps.nd rfl (Or.inl rfl)) (qa3 (qay (qd2 PySem.F.plainAttrs_list PySem.F.slot_list_append PySem.F.type_list_append qat (pv 4) (qa0 (qbe qa2) qa2)))
  (qa6 (qb2 PassesOwn.never rfl (qb8 rfl T.z_range (qa0 (pv 2) qa2)) (qam (i:=7) sc_caps.nd rfl (Or.inl rfl)) (qa3 (qad (i:=8) sc_caps.nd rfl (Or.inl rfl) (qah qas (qal qai (qal qai (pv 3) (pv 6) (fun _ _=>rfl)) (pv 7) (fun _ _=>rfl)) (qal qai (qbe (qa0 qa5 (qa0 qa5 (qa0 qa5 (qa0 qa5 (qa0 (qah op_pow qa5 qa5) qa2)))))) (qaa ((ok_mix T).mono (by decide)) hr rfl T.m_mix T.F_mix.kp T.b_mix .nil qag (qa0 (pv 0) (qa0 (qah qas (qah qas qa5 (qah qbj (pv 2) (pv 6))) (pv 7)) (qa0 qa5 qa2)))) (fun _ _=>rfl))))
  (qa3 (qce (qbc (qak qdc (qah qas (qah qbj (pv 2) (pv 6)) (pv 7)) (pv 5) (by rfl)) (qa6 (qad (i:=8) sc_caps.nd rfl (Or.inl rfl) (qal qai (qbe (qa0 (qah qed (pv 8) qa5) (qa0 (qah qed (qal qai (qal qai (pv 3) (pv 6) (fun _ _=>rfl)) (pv 7) (fun _ _=>rfl)) qa5) (qa0 qa5 qa2)))) (qaa ((ok_mix T).mono (by decide)) hr rfl T.m_mix T.F_mix.kp T.b_mix .nil qag (qa0 (pv 0) (qa0 (qah qas qa5 (pv 7)) (qa0 qa5 qa2)))) (fun _ _=>rfl)))) qan))
  (qa6 (qay (qd2 PySem.F.plainAttrs_list PySem.F.slot_list_append PySem.F.type_list_append qat (qal qai (pv 4) (pv 6) (fun _ _=>rfl)) (qa0 (qae (qf2 rfl) rfl T.z_max PyProof.Rows.boot_max (qa0 qa5 (qa0 (pv 8) qa2))) qa2))))))))))
  (qa6 (qaj (pv 4)))))),?_⟩
 walk_at "d"
 try dsimp only [cxC]
 refine qaf (σ:=[some (.int c),some (.ref le),some (.int (kd:Int)),some (.ref lk),none,none,none,none,none]) rfl ?_
 have ek:((kd:Nat):Int).toNat=kd:=by omega
 have hle:((0 :: es).map iV).length=es.length+1:=by rw [zB,zM]
 generalize hki:((kd:Nat):Int)=ki at*
 have kb:1≤ki∧ki≤3:=by omega
 have kbs:ki.natAbs < 2^600:=Nat.lt_of_le_of_lt (show ki.natAbs≤3 by omega) (by decide)
 left
 rename_i lc hlc
 have s1:=qa8 hlc (.lst [])
 have e1:upd H lc (.lst []) lc=some (.lst (qsV [])):=qa1
 generalize upd H lc (.lst [])=H1 at*
 refine qbm (by decide) (by decide) (by decide) (by decide) fun r0 r00 r01=>?_
 have hE1:=s1 _ _ hE
 left
 intro C s0 H0 fp ls hls
 refine qf7 r0.toNat (fun i H'=>∃sp:List Int,H'=upd H1 ls (.lst (sp.map V.int))∧sp.length≤i) ⟨[],rfl,Nat.le_refl _⟩ ?_ ?_ ?_ ?_
 ·rintro i H' hi _
  exact hi
 ·rintro H' _
  exact Nat.le_refl _
 ·rintro i H' v H'' hi ⟨sp,rfl,sl⟩ ⟨rfl,rfl⟩
  have hE2:=qa4 (o':=.lst (sp.map V.int)) hE1 hls
  have zl:(sp.map V.int).length < sizeLine:=by rw [zB];show _ < 16777216;omega
  have hlb:((((0 :: es).map iV).length:Nat):Int).natAbs < 2^600:=Nat.lt_of_le_of_lt (show _≤12 by omega) (by decide)
  have pb:1≤((((0 :: es).map iV).length:Nat):Int)*ki∧((((0 :: es).map iV).length:Nat):Int)*ki≤12*3:=⟨by have:=Int.mul_pos (show 0 <((((0 :: es).map iV).length:Nat):Int) by omega) (show 0 < ki by omega);omega,Int.mul_le_mul (by omega) kb.2 (by omega) (by decide)⟩
  left
  refine qbm (by omega) (by omega) pb.1 (by omega) fun r _ _=>?_
  left
  exact⟨sp++ [r],by rw [qbb,zE];rfl,by rw [zG];simp;omega⟩
 rintro H' ⟨sp,rfl,sl⟩
 have s2:=s1.trans (qa8 hls (.lst (sp.map V.int)))
 have esp:upd H1 ls (.lst (sp.map V.int)) ls=some (.lst (sp.map V.int)):=qa1
 have e2:=qa4 (o':=.lst (sp.map V.int)) e1 hls
 have nsl:ls≠lc:=(qa7 e1 hls).symm
 have fls:=s1.free hls
 generalize upd H1 ls (.lst (sp.map V.int))=H2 at*
 have hE2:=s2 _ _ hE
 clear s1 e1 hE1 hls r00 r01 sl
 left
 rw [hle,Int.toNat_natCast]
 refine qby (fun i σ H'=>∃(qs:List Pq) (w1 w2 w3:Option V),σ=[some (V.int c),some (V.ref le),some (V.int ki),some (V.ref lk),some (V.ref lc),some (V.ref ls),w1,w2,w3]∧qaq H H'∧H' ls=some (.lst (sp.map V.int))∧QsAt H H' lc kd qs∧qs.length=i)
  ⟨[],_,_,_,rfl,s2,esp,⟨e2,fun q hq=>by simp at hq,yH,fun q hq=>by simp at hq⟩,rfl⟩ ?_ ?_
 ·rintro i σ H' hi ⟨qs,w1,w2,w3,rfl,sm,es',hQ,hql'⟩
  rw [Int.zero_add]
  have hqi:lq[i]?=some (lq[i]'(by omega)):=zA (by omega)
  obtain⟨qi1,qi2,qi3⟩:=hq _ (zD hqi)
  have xk:atI (qsV lq) ((i:Nat):Int)=some (.ref (lq[i]'(by omega)).1):=qar (by unfold qsV;rw [zC,hqi];rfl)
  generalize lq[i]'(by omega)=qi at*
  have ib:((i:Nat):Int).natAbs < 2^600:=Nat.lt_of_le_of_lt (show ((i:Nat):Int).natAbs≤12 by omega) (by decide)
  have i12:0≤ki*((i:Nat):Int)∧ki*((i:Nat):Int)≤3*12:=⟨Int.mul_nonneg (by omega) (by omega),Int.mul_le_mul kb.2 (by omega) (by omega) (by decide)⟩
  generalize hii:((i:Nat):Int)=ii at*
  have etop:=hQ.top
  have zq:(qsV qs).length < sizeLine:=by unfold qsV;rw [zB];show _ < 16777216;omega
  left
  rename_i pi hpi
  have npl:pi≠lc:=(qa7 etop hpi).symm
  have nps:ls≠pi:=qa7 es' hpi
  have npq:∀q∈qs,q.1≠pi:=fun q h=>qa7 (hQ.row q h).1 hpi
  have fpi:=sm.free hpi
  have e3lc:(upd (upd H' pi (.lst [])) lc (.lst (qsV qs++ [.ref pi]))) lc=some (.lst (qsV qs++ [.ref pi])):=qa1
  have e3pi:(upd (upd H' pi (.lst [])) lc (.lst (qsV qs++ [.ref pi]))) pi=some (.lst (([]:List Int).map V.int)):=by rw [qa9 npl];exact qa1
  have e3q:∀q∈qs,(upd (upd H' pi (.lst [])) lc (.lst (qsV qs++ [.ref pi]))) q.1=some (.lst (q.2.map V.int)):=fun q h=>by rw [qa9 (hQ.row q h).2.2,qa9 (npq q h)];exact(hQ.row q h).1
  have e3s:(upd (upd H' pi (.lst [])) lc (.lst (qsV qs++ [.ref pi]))) ls=some (.lst (sp.map V.int)):=by rw [qa9 nsl,qa9 nps];exact es'
  have sm3:qaq H (upd (upd H' pi (.lst [])) lc (.lst (qsV qs++ [.ref pi]))):=qav (qb7 sm hpi) hlc
  generalize upd (upd H' pi (.lst [])) lc (.lst (qsV qs++ [.ref pi]))=H3 at*
  have xpi:atI (qsV qs++ [V.ref pi]) ii=some (.ref pi):=by
   rw [←hii]
   refine qar ?_
   rw [zW (by unfold qsV;rw [zB];omega)]
   unfold qsV
   rw [zB,hql',Nat.sub_self]
   rfl
  have row1:=fun q h=>(hQ.row q h).2
  have nd1:=hQ.nd
  have val1:=hQ.val
  clear hQ es' etop zq sm hpi
  rw [ek]
  refine qby (fun j σ H4=>∃(cur:List Int) (w2 w3:Option V),σ=[some (V.int c),some (V.ref le),some (V.int ki),some (V.ref lk),some (V.ref lc),some (V.ref ls),some (V.int ii),w2,w3]∧qaq H H4∧H4 ls=some (.lst (sp.map V.int))∧H4 lc=some (.lst (qsV qs++ [.ref pi]))∧H4 pi=some (.lst (cur.map V.int))∧(∀q∈qs,H4 q.1=some (.lst (q.2.map V.int)))∧cur.length=j∧∀x∈cur,0≤x∧x≤10^30)
   ⟨[],_,_,rfl,sm3,e3s,e3lc,e3pi,e3q,rfl,fun x h=>by simp at h⟩ ?_ ?_
  ·rintro j σ H4 hj ⟨cur,w2,w3,rfl,sm4,e4s,e4lc,e4pi,e4q,hcl,hcur⟩
   rw [Int.zero_add]
   have hx:=zJ (show j < qi.2.length by omega)
   have xj:atI (qi.2.map V.int) ((j:Nat):Int)=some (.int (qi.2[j]'(by omega))):=qar (by rw [zC,zA (by omega)];rfl)
   have okx:=qi3 _ hx
   generalize qi.2[j]'(by omega)=x at*
   have j3:0≤((j:Nat):Int)∧((j:Nat):Int)≤2:=by omega
   generalize hjj:((j:Nat):Int)=jj at*
   have ek4:=sm4 _ _ hK
   have eq4:=sm4 _ _ qi1
   clear hx e3lc e3pi e3q e3s sm3
   have zc:(cur.map V.int).length < sizeLine:=by rw [zB];show _ < 16777216;omega
   left
   refine qb0 (SqL.of ek4) xk ?_
   left
   refine qb0 (SqL.of eq4) xj ?_
   left
   rename_i pm hpm
   refine qbm (by omega) (by omega) (by decide) (by decide) fun r r0 r1=>?_
   refine qff (xs:=[0,0,1,2,10^Int.toNat 28]) (SqL.of qa1) r0 r1 fun m hm=>?_
   have okc:CaOk (x+m):=⟨by
    have:m=0∨m=1∨m=2∨m=10^Int.toNat 28:=by simpa using hm
    have e28:(10:Int)^Int.toNat 28=10^28:=rfl
    rw [e28] at this
    have:=okx.hi
    omega⟩
   have s5:=qa8 hpm (.lst [.int 0,.int 0,.int 1,.int 2,.int (10^Int.toNat 28)])
   generalize upd H4 pm (.lst [.int 0,.int 0,.int 1,.int 2,.int (10^Int.toNat 28)])=H5 at*
   have sm5:=sm4.trans s5
   have e5s:=s5 _ _ e4s
   have e5lc:=s5 _ _ e4lc
   have e5pi:=s5 _ _ e4pi
   have e5q:∀q∈qs,H5 q.1=some (.lst (q.2.map V.int)):=fun q h=>s5 _ _ (e4q q h)
   clear hm r0 r1 s5 hpm e4s e4lc e4pi e4q sm4 ek4 eq4
   left
   generalize x+m=cap at*
   refine qek (fun σ' H6=>∃cap':Int,σ'=[some (V.int c),some (V.ref le),some (V.int ki),some (V.ref lk),some (V.ref lc),some (V.ref ls),some (V.int ii),some (V.int jj),some (V.int cap')]∧CaOk cap'∧qaq H5 H6) ?_ ?_
   ·left
    refine r_inI (SqL.of e5s) fun b=>?_
    cases b with
    |false=>
     left
     exact⟨cap,rfl,okc,qaq.refl _⟩
    |true=>
     left
     refine qb0 (SqL.of (sm5 _ _ hK)) xk ?_
     left
     refine qb0 (SqL.of (sm5 _ _ qi1)) xj ?_
     left
     rename_i pm hpm
     refine qbm (by omega) (by omega) (by decide) (by decide) fun r r0 r1=>?_
     refine qff (xs:=[cap - 1,x - 1,0]) (SqL.of qa1) r0 r1 fun m hm=>?_
     left
     refine⟨m,rfl,⟨?_⟩,qa8 hpm _⟩
     have:m=cap - 1∨m=x - 1∨m=0:=by simpa using hm
     have:=okx.hi
     have:=okc.hi
     omega
   ·rintro σ' H6 ⟨cap',rfl,okc',s6⟩
    have e6lc:=s6 _ _ e5lc
    have e6pi:=s6 _ _ e5pi
    left
    refine qb0 (SqL.of e6lc) xpi ?_
    left
    refine⟨cur++ [if cap' > 0 then cap' else 0],_,_,rfl,qav (sm5.trans s6) fpi,?_,?_,?_,fun q h=>?_,by rw [zG,hcl];rfl,fun y hy=>?_⟩
    ·rw [qa9 nps];exact s6 _ _ e5s
    ·rw [qa9 npl.symm];exact e6lc
    ·rw [qa1,zE];rfl
    ·rw [qa9 (npq q h)];exact s6 _ _ (e5q q h)
    ·rcases zN.mp hy with h|h
     ·exact hcur y h
     ·rw [zH.mp h]
      have:=okc'.hi
      split <;> omega
  ·rintro σ H4 ⟨cur,w2,w3,rfl,sm4,e4s,e4lc,e4pi,e4q,hcl,hcur⟩
   refine⟨qs++ [(pi,cur)],_,_,_,rfl,sm4,e4s,⟨by rw [e4lc];unfold qsV;rw [zE];rfl,fun q hq=>?_,?_,fun q hq=>?_⟩,by rw [zG,hql'];rfl⟩
   ·rcases zN.mp hq with z|z
    ·exact⟨e4q q z,row1 q z⟩
    ·rw [zH.mp z];exact⟨e4pi,fpi,npl⟩
   ·rw [zE]
    exact yK.mpr ⟨nd1,zX.mpr ⟨by simp,yH⟩,fun a ha b hb=>by
     have eb:b=pi:=by simpa using hb
     obtain⟨q,hq,rfl⟩:=zL.mp ha
     rw [eb]
     exact npq q hq⟩
   ·rcases zN.mp hq with z|z
    ·exact val1 q z
    ·rw [zH.mp z];exact⟨hcl,hcur⟩
 ·rintro σ H' ⟨qs,w1,w2,w3,rfl,sm,es',hQ,hql'⟩
  left
  exact q lc qs H' sm hQ.top hql' fun c hc=>⟨(hQ.row c hc).1,hQ.val c hc⟩
theorem qfs {el:Nat→Nat} {a j:Nat}:∀{Rs:List Rw},(∀R∈Rs,∀p∈R.ps,PpOk p)→0≤qc6 el Rs a j∧qc6 el Rs a j≤Rs.length*(5*10^28)
 | [],_=>⟨Int.le_refl _,Int.le_refl _⟩
 |R :: Rs,h=>by
  obtain⟨i1,i2⟩:=qfs (el:=el) (a:=a) (j:=j) (Rs:=Rs) fun x hx=>h x (zF _ hx)
  have hp:0≤psN R j∧psN R j≤5*10^28:=by
   unfold psN
   cases e:R.ps[j]? with
   |none=>exact⟨Int.le_refl _,show (0:Int)≤5*10^28 by decide⟩
   |some x=>exact⟨(h R (zI ..) x (zD e)).lo,(h R (zI ..) x (zD e)).hi⟩
  have e:(((R :: Rs).length:Nat):Int)=(Rs.length:Int)+1:=by rw [zM];omega
  rw [e]
  unfold qc6 at i1 i2 ⊢
  rw [zY]
  split
  ·rw [zS,yS];omega
  ·omega
def sp_least (K:Frag) (d:Ad):Sp:=fun vs H Q _=>∃(lr le:Addr) (Rs:List Rw) (es:List Nat) (nh kd h e:Nat),vs=[.ref lr,.ref le,.int (kd:Int),.int (h:Int),.int (e:Int)]∧H lr=some (.lst (rwV Rs))∧Rs.length≤9∧(∀R∈Rs,RwAt H nh kd R)∧H le=some (.lst ((0 :: es).map iV))∧(∀(k e:Nat),es[k]?=some e→e≤k)∧nh=es.length+1∧nh≤12∧kd≤3∧h < nh∧e < nh∧
 ∀(lk:Addr) (lq:List Pq) H',qaq H H'→H' lk=some (.lst (qsV lq))→lq.length=nh→LsAt H' kd lq→Q (.ref lk) H'
include T in
theorem ok_least:FnOk P w K mg base CX0 4 d.f_least d.fd_least ["_law_rows_here","_law_elders_here","_law_kinds","_law_home","_law_elder"] (sp_least K d):=by
 refine T.F_least.ok sc_least (fun vs H Q E h=>?_) (fun cdv A outer s H vs Q E hr h=>?_)
 ·obtain⟨lr,le,Rs,es,nh,kd,h,e,rfl,_⟩:=h;rfl
 obtain⟨lr,le,Rs,es,nh,kd,h,e,rfl,hL,h9,hR,hE,lo,en,n12,k3,hn,eln,q⟩:=h
 refine⟨_,(qa3 (qad (i:=5) sc_least.nd rfl (Or.inl rfl) (qaa ((ok_new T).mono (by decide)) hr rfl T.m_new T.F_new.kp T.b_new .nil qag (qa0 (pv 1) (qa0 (pv 3) (qa0 (pv 4) qa2)))))
  (qa3 (qad (i:=6) sc_least.nd rfl (Or.inl rfl) (qbe qa2))
  (qa3 (qb2 PassesOwn.never rfl (qb8 rfl T.z_range (qa0 (qae qau rfl T.z_len PySem.boot_len (qa0 (pv 1) qa2)) qa2)) (qam (i:=7) sc_least.nd rfl (Or.inl rfl)) (qa3 (qay (qd2 PySem.F.plainAttrs_list PySem.F.slot_list_append PySem.F.type_list_append qat (pv 6) (qa0 (qbe qa2) qa2)))
  (qa6 (qb2 PassesOwn.never rfl (qb8 rfl T.z_range (qa0 (pv 2) qa2)) (qam (i:=8) sc_least.nd rfl (Or.inl rfl)) (qa3 (qad (i:=9) sc_least.nd rfl (Or.inl rfl) (qaa ((ok_sum T).mono (by decide)) hr rfl T.m_sum T.F_sum.kp T.b_sum .nil qag (qa0 (pv 0) (qa0 (pv 1) (qa0 (pv 7) (qa0 (pv 8) qa2))))))
  (qa3 (qce (qbc (qak qdc (pv 7) (pv 5) (by rfl)) (qa6 (qad (i:=9) sc_least.nd rfl (Or.inl rfl) (qah qas (pv 9) (qaa ((ok_sum T).mono (by decide)) hr rfl T.m_sum T.F_sum.kp T.b_sum .nil qag (qa0 (pv 0) (qa0 (pv 1) (qa0 (pv 3) (qa0 (pv 8) qa2)))))))) qan))
  (qa6 (qay (qd2 PySem.F.plainAttrs_list PySem.F.slot_list_append PySem.F.type_list_append qat (qal qai (pv 6) (pv 7) (fun _ _=>rfl)) (qa0 (pv 9) qa2))))))))))
  (qa6 (qaj (pv 6)))))),?_⟩
 walk_at "d"
 try dsimp only [cxC]
 refine qaf (σ:=[some (.ref lr),some (.ref le),some (.int (kd:Int)),some (.int (h:Int)),some (.int (e:Int)),none,none,none,none,none]) rfl ?_
 have ek:((kd:Nat):Int).toNat=kd:=by omega
 have hle:((0 :: es).map iV).length=es.length+1:=by rw [zB,zM]
 left
 refine⟨le,es,h,e,rfl,hE,lo,by omega,by omega,by omega,fun lf H1 s1 e1=>?_⟩
 generalize hki:((kd:Nat):Int)=ki at*
 generalize hhi:((h:Nat):Int)=hi at*
 generalize hei:((e:Nat):Int)=ei at*
 have kb:0≤ki∧ki≤3:=by omega
 have hE1:=s1 _ _ hE
 left
 rename_i lc hlc
 have s2:=s1.trans (qa8 hlc (.lst []))
 have e2:upd H1 lc (.lst []) lc=some (.lst (qsV [])):=qa1
 have ef:=qa4 (o':=.lst []) e1 hlc
 have flc:=s1.free hlc
 have nsl:lf≠lc:=qa7 e1 hlc
 generalize upd H1 lc (.lst [])=H2 at*
 have hE2:=s2 _ _ hE
 clear s1 e1 hE1 hlc
 left
 rw [hle,Int.toNat_natCast]
 refine qby (fun i σ H'=>∃(qs:List Pq) (w1 w2 w3:Option V),σ=[some (V.ref lr),some (V.ref le),some (V.int ki),some (V.int hi),some (V.int ei),some (V.ref lf),some (V.ref lc),w1,w2,w3]∧qaq H H'∧H' lf=some (.lst ((qes (elN es) h e).map iV))∧QsAt H H' lc kd qs∧qs.length=i∧∀q∈qs,∀x∈q.2,LqOk x)
  ⟨[],_,_,_,rfl,s2,ef,⟨e2,fun q hq=>by simp at hq,yH,fun q hq=>by simp at hq⟩,rfl,fun q hq=>by simp at hq⟩ ?_ ?_
 ·rintro i σ H' hi' ⟨qs,w1,w2,w3,rfl,sm,es',hQ,hql',hok⟩
  rw [Int.zero_add]
  generalize hii:((i:Nat):Int)=ii at*
  have etop:=hQ.top
  have zq:(qsV qs).length < sizeLine:=by unfold qsV;rw [zB];show _ < 16777216;omega
  left
  rename_i pi hpi
  have npl:pi≠lc:=(qa7 etop hpi).symm
  have nps:lf≠pi:=qa7 es' hpi
  have npq:∀q∈qs,q.1≠pi:=fun q h=>qa7 (hQ.row q h).1 hpi
  have fpi:=sm.free hpi
  have e3lc:(upd (upd H' pi (.lst [])) lc (.lst (qsV qs++ [.ref pi]))) lc=some (.lst (qsV qs++ [.ref pi])):=qa1
  have e3pi:(upd (upd H' pi (.lst [])) lc (.lst (qsV qs++ [.ref pi]))) pi=some (.lst (([]:List Int).map V.int)):=by rw [qa9 npl];exact qa1
  have e3q:∀q∈qs,(upd (upd H' pi (.lst [])) lc (.lst (qsV qs++ [.ref pi]))) q.1=some (.lst (q.2.map V.int)):=fun q h=>by rw [qa9 (hQ.row q h).2.2,qa9 (npq q h)];exact(hQ.row q h).1
  have e3s:(upd (upd H' pi (.lst [])) lc (.lst (qsV qs++ [.ref pi]))) lf=some (.lst ((qes (elN es) h e).map iV)):=by rw [qa9 nsl,qa9 nps];exact es'
  have sm3:qaq H (upd (upd H' pi (.lst [])) lc (.lst (qsV qs++ [.ref pi]))):=qav (qb7 sm hpi) flc
  generalize upd (upd H' pi (.lst [])) lc (.lst (qsV qs++ [.ref pi]))=H3 at*
  have xpi:atI (qsV qs++ [V.ref pi]) ii=some (.ref pi):=by
   rw [←hii]
   refine qar ?_
   rw [zW (by unfold qsV;rw [zB];omega)]
   unfold qsV
   rw [zB,hql',Nat.sub_self]
   rfl
  have row1:=fun q h=>(hQ.row q h).2
  have nd1:=hQ.nd
  have val1:=hQ.val
  clear hQ es' etop zq sm hpi
  rw [ek]
  refine qby (fun j σ H4=>∃(cur:List Int) (w2 w3:Option V),σ=[some (V.ref lr),some (V.ref le),some (V.int ki),some (V.int hi),some (V.int ei),some (V.ref lf),some (V.ref lc),some (V.int ii),w2,w3]∧qaq H H4∧H4 lf=some (.lst ((qes (elN es) h e).map iV))∧H4 lc=some (.lst (qsV qs++ [.ref pi]))∧H4 pi=some (.lst (cur.map V.int))∧(∀q∈qs,H4 q.1=some (.lst (q.2.map V.int)))∧cur.length=j∧∀x∈cur,LqOk x)
   ⟨[],_,_,rfl,sm3,e3s,e3lc,e3pi,e3q,rfl,fun x h=>by simp at h⟩ ?_ ?_
  ·rintro j σ H4 hj ⟨cur,w2,w3,rfl,sm4,e4s,e4lc,e4pi,e4q,hcl,hcur⟩
   rw [Int.zero_add]
   clear e3lc e3pi e3q e3s sm3
   have zc:(cur.map V.int).length < sizeLine:=by rw [zB];show _ < 16777216;omega
   obtain⟨b1,b2⟩:=qfs (el:=elN es) (a:=i) (j:=j) (Rs:=Rs) fun R h=>(hR R h).nn
   obtain⟨b3,b4⟩:=qfs (el:=elN es) (a:=h) (j:=j) (Rs:=Rs) fun R h=>(hR R h).nn
   have ok1:LqOk (qc6 (elN es) Rs i j):=⟨b1,by omega⟩
   have ok2:LqOk (qc6 (elN es) Rs i j+qc6 (elN es) Rs h j):=⟨by omega,by omega⟩
   clear b1 b2 b3 b4
   left
   refine⟨lr,le,Rs,es,nh,kd,i,j,by rw [hii],sm4 _ _ hL,h9,fun R h=>(hR R h).same sm4,sm4 _ _ hE,lo,en,n12,hj,fun H5 s5=>?_⟩
   have sm5:=sm4.trans s5
   have e5s:=s5 _ _ e4s
   have e5lc:=s5 _ _ e4lc
   have e5pi:=s5 _ _ e4pi
   have e5q:∀q∈qs,H5 q.1=some (.lst (q.2.map V.int)):=fun q h=>s5 _ _ (e4q q h)
   clear s5 e4s e4lc e4pi e4q
   left
   refine qek (fun σ' H6=>∃cap':Int,σ'=[some (V.ref lr),some (V.ref le),some (V.int ki),some (V.int hi),some (V.int ei),some (V.ref lf),some (V.ref lc),some (V.int ii),some (V.int (j:Int)),some (V.int cap')]∧LqOk cap'∧qaq H5 H6) ?_ ?_
   ·left
    refine r_inN (SqL.of e5s) hii ?_
    by_cases c:i∈qes (elN es) h e
    ·rw [decide_eq_true c]
     left
     refine⟨lr,le,Rs,es,nh,kd,h,j,by rw [hhi],sm5 _ _ hL,h9,fun R h=>(hR R h).same sm5,sm5 _ _ hE,lo,en,n12,hj,fun H6 s6=>?_⟩
     left
     exact⟨_,rfl,ok2,s6⟩
    ·rw [decide_eq_false c]
     left
     exact⟨_,rfl,ok1,qaq.refl _⟩
   ·rintro σ' H6 ⟨cap',rfl,okc',s6⟩
    have e6lc:=s6 _ _ e5lc
    have e6pi:=s6 _ _ e5pi
    left
    refine qb0 (SqL.of e6lc) xpi ?_
    left
    refine⟨cur++ [cap'],_,_,rfl,qav (sm5.trans s6) fpi,?_,?_,?_,fun q h=>?_,by rw [zG,hcl];rfl,fun y hy=>?_⟩
    ·rw [qa9 nps];exact s6 _ _ e5s
    ·rw [qa9 npl.symm];exact e6lc
    ·rw [qa1,zE];rfl
    ·rw [qa9 (npq q h)];exact s6 _ _ (e5q q h)
    ·rcases zN.mp hy with h|h
     ·exact hcur y h
     ·rw [zH.mp h];exact okc'
  ·rintro σ H4 ⟨cur,w2,w3,rfl,sm4,e4s,e4lc,e4pi,e4q,hcl,hcur⟩
   refine⟨qs++ [(pi,cur)],_,_,_,rfl,sm4,e4s,⟨by rw [e4lc];unfold qsV;rw [zE];rfl,fun q hq=>?_,?_,fun q hq=>?_⟩,by rw [zG,hql'];rfl,fun q hq=>?_⟩
   ·rcases zN.mp hq with z|z
    ·exact⟨e4q q z,row1 q z⟩
    ·rw [zH.mp z];exact⟨e4pi,fpi,npl⟩
   ·rw [zE]
    exact yK.mpr ⟨nd1,zX.mpr ⟨by simp,yH⟩,fun a ha b hb=>by
     have eb:b=pi:=by simpa using hb
     obtain⟨q,hq,rfl⟩:=zL.mp ha
     rw [eb]
     exact npq q hq⟩
   ·rcases zN.mp hq with z|z
    ·exact val1 q z
    ·rw [zH.mp z];exact⟨hcl,fun x hx=>⟨(hcur x hx).lo,by have:=(hcur x hx).hi;omega⟩⟩
   ·rcases zN.mp hq with z|z
    ·exact hok q z
    ·rw [zH.mp z];exact hcur
 ·rintro σ H' ⟨qs,w1,w2,w3,rfl,sm,es',hQ,hql',hok⟩
  left
  exact q lc qs H' sm hQ.top (by omega) fun c hc=>⟨(hQ.row c hc).1,(hQ.val c hc).1,hok c hc⟩
theorem cut_last {xs:List V} (h:xs≠ []):cutV xs (some (-2)) none≠ []:=by
 intro e
 have e:=congrArg List.length e
 unfold cutV at e
 rw [zT,List.length_drop] at e
 have h1:1≤xs.length:=by
  cases xs with
  |nil=>exact absurd rfl h
  |cons x r=>rw [zM];omega
 have e2:HT.sIx xs.length 0 (some (-2))=((-2:Int)+(xs.length:Int)).toNat:=rfl
 have e3:HT.sIx xs.length xs.length none=xs.length:=rfl
 rw [e2,e3] at e
 have e4:([]:List V).length=0:=rfl
 rw [e4] at e
 omega
def sp_move (K:Frag) (d:Ad):Sp:=fun vs H Q _=>∃(c:Int) (le:Addr) (es:List Nat),vs=[.int c,.ref le]∧H le=some (.lst ((0 :: es).map iV))∧(∀(k e:Nat),es[k]?=some e→e≤k)∧1≤es.length∧es.length≤11∧
 ∀(l:Addr) (h e:Nat) H',qaq H H'→H' l=some (.lst [.int (h:Int),.int (e:Int)])→h < es.length+1→e < es.length+1→Q (.ref l) H'
include T in
theorem ok_move:FnOk P w K mg base CX0 3 d.f_move d.fd_move ["_law_cell_here","_law_elders_here"] (sp_move K d):=by
 refine T.F_move.ok sc_move (fun vs H Q E h=>?_) (fun cdv A outer s H vs Q E hr h=>?_)
 ·obtain⟨c,le,es,rfl,_⟩:=h;rfl
 obtain⟨c,le,es,rfl,hE,lo,h1,h11,q⟩:=h
 refine⟨_,(qa3 (qad (i:=2) sc_move.nd rfl (Or.inr rfl) (qah qas qa5 (qaa ((ok_mix T).mono (by decide)) hr rfl T.m_mix T.F_mix.kp T.b_mix .nil qag (qa0 (pv 0) (qa0 qa5 (qa0 (qah qed (qae qau rfl T.z_len PySem.boot_len (qa0 (pv 1) qa2)) qa5) qa2))))))
  (qa3 (qce (qbc (qak qd3 (qaa ((ok_mix T).mono (by decide)) hr rfl T.m_mix T.F_mix.kp T.b_mix .nil qag (qa0 (pv 0) (qa0 qa5 (qa0 qa5 qa2)))) qa5 (qap _)) (qa6 (qad (i:=2) sc_move.nd rfl (Or.inr rfl) qa5)) qan))
  (qa3 (qdr (j:=3) (caps:=[1,2]) (cn:=["_law_elders_here","_law_home"]) (qb1 rfl rfl (by rfl) (by rfl) rfl ⟨rfl,⟨rfl,trivial⟩⟩ (by rfl) rfl ⟨⟨rfl,rfl,rfl,rfl,_,rfl⟩,⟨⟨rfl,rfl,rfl,rfl,_,rfl⟩,trivial⟩⟩ (by decide)) rfl sc_move.nd rfl rfl (qb8 rfl T.z_range (qa0 (qae qau rfl T.z_len PySem.boot_len (qa0 (pv 1) qa2)) qa2)) (fun _ _ _ _=>(qec (qak qcl (pv 2) (qaa ((ok_line T).mono (by decide)) hr rfl T.m_line T.F_line.kp T.b_line .nil qag (qa0 (pv 1) (qa0 (pv 0) qa2))) (by rfl)))) (fun _ _ _ _=>(pv 0)))
  (qa3 (qce (qbc (qak qd3 (qaa ((ok_mix T).mono (by decide)) hr rfl T.m_mix T.F_mix.kp T.b_mix .nil qag (qa0 (pv 0) (qa0 qa5 (qa0 qa5 qa2)))) qa5 (qap _)) (qa6 (qad (i:=3) sc_move.nd rfl (Or.inl rfl) (qca qcx (pv 3) (qcz (pe_un un_neg qa5)) qd0))) qan))
  (qa6 (qaj (qbe (qa0 (pv 2) (qa0 (qal qai (pv 3) (qaa ((ok_mix T).mono (by decide)) hr rfl T.m_mix T.F_mix.kp T.b_mix .nil qag (qa0 (pv 0) (qa0 qa5 (qa0 (qae qau rfl T.z_len PySem.boot_len (qa0 (pv 3) qa2)) qa2)))) (fun _ _=>rfl)) qa2))))))))),?_⟩
 walk_at "d"
 try dsimp only [cxC]
 refine qaf (σ:=[some (.int c),some (.ref le),none,none]) rfl ?_
 have hle:((((0 :: es).map iV).length:Nat):Int)=(es.length:Int)+1:=by rw [zB,zM];omega
 left
 rw [hle]
 refine qbm (by decide) (by decide) (by omega) (by omega) fun r1 r10 r11=>?_
 left
 refine qek (fun σ' H'=>H'=H∧∃h:Nat,σ'=[some (V.int c),some (V.ref le),some (V.int (h:Int)),none]∧1≤h∧h < es.length+1) ?_ ?_
 ·left
  refine qbm (by decide) (by decide) (by decide) (by decide) fun r2 _ _=>?_
  left
  refine i_2 (fun c=>?_) (fun c=>?_)
  ·left
   exact⟨rfl,1,rfl,by decide,by omega⟩
  ·left
   exact⟨rfl,(1+r1).toNat,by rw [Int.toNat_of_nonneg (by omega)],by omega,by omega⟩
 rintro σ' H' ⟨rfl,h,rfl,hh1,hh⟩
 clear r10 r11 r1
 left
 rw [hle]
 left
 intro C s0 H0 fp acc hacc
 refine qf7 (es.length+1) (fun i H1=>∃as:List Nat,qaq H' H1∧H1 acc=some (.lst (as.map iV))∧(∀x∈as,x < es.length+1)∧as.length≤i∧(1≤i→0∈as)) ⟨[],qa8 hacc _,qa1,fun x h=>by simp at h,Nat.le_refl _,fun z=>absurd z (by omega)⟩ ?_ ?_ ?_ ?_
 ·rintro i H1 hi _
  show i <((es.length:Int)+1).toNat
  omega
 ·rintro H1 _
  show ((es.length:Int)+1).toNat≤es.length+1
  omega
 ·rintro i H1 v H2 hi ⟨as,sm,ea,has,hal,h0⟩ ⟨rfl,rfl⟩
  rw [Int.zero_add]
  left
  refine⟨le,es,i,rfl,sm _ _ hE,lo,hi,by omega,fun l1 hl1=>?_⟩
  have s1:=qa8 hl1 (.lst ((qac (elN es) i).map iV))
  have e1:upd H2 l1 (.lst ((qac (elN es) i).map iV)) l1=some (.lst ((qac (elN es) i).map iV)):=qa1
  have ea1:=s1 _ _ ea
  generalize upd H2 l1 (.lst ((qac (elN es) i).map iV))=H3 at*
  left
  refine r_notN (SqL.of e1) rfl ?_
  by_cases c2:h∈qac (elN es) i
  ·rw [decide_eq_true c2]
   left
   refine⟨as,sm.trans s1,ea1,has,by omega,fun z=>?_⟩
   by_cases zi:i=0
   ·subst zi
    have:=qcn (qdg lo (es.length+1)) 0 (by omega) h c2
    omega
   ·exact h0 (by omega)
  ·rw [decide_eq_false c2]
   have zl:(as.map iV).length < sizeLine:=by rw [zB];show _ < 16777216;omega
   left
   refine⟨as++ [i],qav (sm.trans s1) hacc,by rw [qa1,zE];rfl,fun x hx=>?_,by rw [zG];simp;omega,fun z=>?_⟩
   ·rcases zN.mp hx with h|h
    ·exact has x h
    ·rw [zH.mp h];exact hi
   ·by_cases zi:i=0
    ·subst zi;exact zO _ (zH.mpr rfl)
    ·exact yI _ (h0 (by omega))
 rintro H1 ⟨as,sm,ea,has,hal,h0⟩
 have ne0:as≠ []:=fun z=>by have:=h0 (by omega);rw [z] at this;simp at this
 clear h0
 left
 refine qek (fun σ' H2=>∃(l2:Addr) (bs:List Nat),σ'=[some (V.int c),some (V.ref le),some (V.int (h:Int)),some (V.ref l2)]∧qaq H1 H2∧H2 l2=some (.lst (bs.map iV))∧bs≠ []∧bs.length≤12∧∀x∈bs,x < es.length+1) ?_ ?_
 ·left
  refine qbm (by decide) (by decide) (by decide) (by decide) fun r2 _ _=>?_
  left
  refine i_2 (fun c=>?_) (fun c=>?_)
  ·left
   refine qfw (SqL.of ea) fun p hp=>?_
   left
   have ec:∃bs:List Nat,cutV (as.map iV) (some (-2)) none=bs.map iV∧∀x∈bs,x∈as:=by
    unfold cutV
    exact⟨(as.drop _).take _,by rw [List.map_take,List.map_drop],fun x hx=>List.mem_of_mem_drop (List.mem_of_mem_take hx)⟩
   obtain⟨bs,eb,hb⟩:=ec
   have cl:=qez (as.map iV) (some (-2)) none
   rw [eb,zB,zB] at cl
   refine⟨p,bs,rfl,qa8 hp _,by rw [←eb];exact qa1,fun z=>?_,by omega,fun x hx=>has x (hb x hx)⟩
   rw [z] at eb
   exact cut_last (fun z=>ne0 (List.map_eq_nil_iff.mp z)) eb
  ·left
   exact⟨acc,as,rfl,qaq.refl _,ea,ne0,by omega,has⟩
 rintro σ' H2 ⟨l2,bs,rfl,s2,e2,nb,b12,hb⟩
 have bl:1≤bs.length:=by
  cases bs with
  |nil=>exact absurd rfl nb
  |cons x r=>rw [zM];omega
 have hbl:(((bs.map iV).length:Nat):Int)=(bs.length:Int):=by rw [zB]
 left
 rw [hbl]
 refine qbm (by decide) (by decide) (by omega) (by omega) fun r3 r30 r31=>?_
 obtain⟨k,rfl⟩:=Int.eq_ofNat_of_zero_le r30
 have hk:k < bs.length:=by omega
 refine qb0 (SqL.of e2) (qar (by rw [zC,zA hk];rfl)) ?_
 have hbk:=hb _ (zJ hk)
 generalize bs[k]=e at*
 left
 rename_i p hp
 exact q p h e _ (qb7 (sm.trans s2) hp) qa1 hh hbk
def PosO (f:Str→Option Int):Prop:=∀z n,f z=some n→0 < n
theorem PosO.nn {f:Str→Option Int} (h:PosO f) (z:Str):0≤gN f z:=by
 unfold gN
 cases e:f z with
 |none=>exact Int.le_refl _
 |some n=>exact Int.le_of_lt (h z n e)
theorem PosO.ne {f:Str→Option Int} (h:PosO f) (z:Str):f z≠none↔0 < gN f z:=by
 unfold gN
 cases e:f z with
 |none=>exact⟨fun q=>absurd rfl q,fun q=>absurd q (Int.lt_irrefl _)⟩
 |some n=>exact⟨fun _=>h z n e,fun _ q=>by cases q⟩
theorem PosO.add {f g:Str→Option Int} (hf:PosO f) (hg:PosO g):PosO (qfb f g):=fun z n e=>by
 unfold qfb at e
 cases c:g z with
 |none=>rw [c] at e;exact hf z n e
 |some b=>
  rw [c] at e
  have e:gN f z+b=n:=Option.some.inj e
  have:=hf.nn z
  have:=hg z b c
  omega
theorem PosO.fold:∀(ts:List Pt) {f0:Str→Option Int},PosO f0→(∀t∈ts,PosO t.f)→PosO (ts.foldl (fun f t=>qfb f t.f) f0)
 | [],_,h,_=>h
 |t :: ts,_,h,ht=>PosO.fold ts (h.add (ht t (zI ..))) fun x hx=>ht x (zF _ hx)
theorem td_pos {ws:List Str} {ps:List Int} (h:ws.length=ps.length) (nd:ws.Nodup):PosO (tdF (ws.zip ps)):=fun z n e=>by
 have hz:=qfd h z (by rw [e];simp)
 obtain⟨j,hj,rfl⟩:=zK.mp hz
 rw [tdF_at h nd hj (by omega)] at e
 split at e
 ·rename_i c
  rw [Option.some.inj e] at c
  exact c
 ·cases e
theorem use_sum {P:PL} {j:Nat} (hj:j < P.ws.length) (nd:P.ws.Nodup) (h:Nat):∀{bs:List Ob} {Rs:List Rw},bs.map (·.R)=Rs.map (rrOf P.ws)→(∀R∈Rs,R.ps.length=P.ws.length∧∀p∈R.ps,PpOk p)→
  ((bs.filter fun b=>decide (h∈qac (elN P.es) b.R.i)).map fun b=>gN b.R.f P.ws[j]).sum=qc6 (elN P.es) Rs h j
 | [], [],_,_=>rfl
 | [],_ :: _,e,_=>by simp at e
 |_ :: _, [],e,_=>by simp at e
 |b :: bs,R :: Rs,e,hl=>by
  rw [zS,zS] at e
  obtain⟨e1,e2⟩:=List.cons.inj e
  have ih:=use_sum hj nd h e2 fun x hx=>hl x (zF _ hx)
  obtain⟨l1,l2⟩:=hl R (zI ..)
  have ei:b.R.i=R.i:=by rw [e1];rfl
  have eg:gN b.R.f P.ws[j]=psN R j:=by
   rw [e1]
   show gN (tdF (P.ws.zip R.ps)) P.ws[j]=_
   rw [tdF_gN l1.symm nd (fun p hp=>(l2 p hp).lo) hj (by omega)]
   unfold psN
   rw [zA (by omega)];rfl
  unfold qc6 at ih ⊢
  rw [zY,zY (xs:=Rs),ei]
  by_cases c2:h∈qac (elN P.es) R.i
  ·rw [if_pos (decide_eq_true c2),if_pos (decide_eq_true c2),zS,zS,yS,yS,ih,eg]
  ·rw [if_neg (by rw [decide_eq_false c2];exact Bool.false_ne_true),if_neg (by rw [decide_eq_false c2];exact Bool.false_ne_true),ih]
theorem use_take {P:PL} {j:Nat} (hj:j < P.ws.length) (nd:P.ws.Nodup) (h:Nat):∀{bs:List Ob} {Rs:List Rw},bs.map (·.R)=Rs.map (rrOf P.ws)→(∀R∈Rs,R.ps.length=P.ws.length∧∀p∈R.ps,PpOk p)→
  takeN P.ws[j] (bs.filter fun b=>decide (h∈qac (elN P.es) b.R.i))=takR (elN P.es) Rs h j
 | [], [],_,_=>rfl
 | [],_ :: _,e,_=>by simp at e
 |_ :: _, [],e,_=>by simp at e
 |b :: bs,R :: Rs,e,hl=>by
  rw [zS,zS] at e
  obtain⟨e1,e2⟩:=List.cons.inj e
  have ih:=use_take hj nd h e2 fun x hx=>hl x (zF _ hx)
  obtain⟨l1,l2⟩:=hl R (zI ..)
  have ei:b.R.i=R.i:=by rw [e1];rfl
  have en:b.R.n=R.n:=by rw [e1];rfl
  have eg:gN b.R.f P.ws[j]=psN R j:=by
   rw [e1]
   show gN (tdF (P.ws.zip R.ps)) P.ws[j]=_
   rw [tdF_gN l1.symm nd (fun p hp=>(l2 p hp).lo) hj (by omega)]
   unfold psN
   rw [zA (by omega)];rfl
  unfold takeN takR at ih ⊢
  rw [zY,zY (xs:=Rs),ei]
  by_cases c2:h∈qac (elN P.es) R.i
  ·rw [if_pos (decide_eq_true c2),zY,eg,decide_eq_true c2,Bool.and_true]
   by_cases c3:0 < psN R j
   ·rw [if_pos (decide_eq_true c3),if_pos (decide_eq_true c3),zS,zS,ih,eg,en]
   ·rw [if_neg (by rw [decide_eq_false c3];exact Bool.false_ne_true),if_neg (by rw [decide_eq_false c3];exact Bool.false_ne_true),ih]
  ·rw [if_neg (by rw [decide_eq_false c2];exact Bool.false_ne_true),if_neg (by rw [decide_eq_false c2,Bool.and_false];exact Bool.false_ne_true),ih]
theorem use_gN {P:PL} {bs:List Ob} {Rs:List Rw} (nd:P.ws.Nodup) (hbs:bs.map (·.R)=Rs.map (rrOf P.ws)) (hl:∀R∈Rs,R.ps.length=P.ws.length∧∀p∈R.ps,PpOk p) {j:Nat} (hj:j < P.ws.length) (h:Nat):gN (useF P bs h) P.ws[j]=qc6 (elN P.es) Rs h j:=by
 unfold useF sumF
 rw [gN_sum,show gN noF P.ws[j]=0 from rfl,Int.zero_add,yO]
 exact use_sum hj nd h hbs hl
theorem use_keys {P:PL} {bs:List Ob} {Rs:List Rw} (nd:P.ws.Nodup) (hbs:bs.map (·.R)=Rs.map (rrOf P.ws)) (hl:∀R∈Rs,R.ps.length=P.ws.length∧∀p∈R.ps,PpOk p) (h:Nat) (w:Str):w∈qbu (tdK (P.ws.zip (mvN P Rs h)))↔useF P bs h w≠none:=by
 have hb:∀b∈bs,∃R∈Rs,b.R=rrOf P.ws R:=fun b hb=>by
  have:b.R∈bs.map (·.R):=zL.mpr ⟨b,hb,rfl⟩
  rw [hbs] at this
  obtain⟨R,hR,e⟩:=zL.mp this
  exact⟨R,hR,e.symm⟩
 have ml:=mvN_len P Rs h
 have pu:PosO (useF P bs h):=by
  refine PosO.fold _ (fun z n e=>by cases e) fun t ht=>?_
  obtain⟨b,hb',rfl⟩:=zL.mp ht
  obtain⟨R,hR,e⟩:=hb b (yF.mp hb').1
  show PosO b.R.f
  rw [e]
  exact td_pos (hl R hR).1.symm nd
 rw [(qfp _).kin,(td_pos ml.symm nd).ne,pu.ne]
 by_cases c:w∈P.ws
 ·obtain⟨j,hj,rfl⟩:=zK.mp c
  rw [use_gN nd hbs hl hj h]
  have hm:j <(mvN P Rs h).length:=by omega
  have e0:(mvN P Rs h)[j]=qc6 (elN P.es) Rs h j:=by
   have e1:(mvN P Rs h)[j]?=some (qc6 (elN P.es) Rs h j):=by unfold mvN;rw [zC,List.getElem?_range hj];rfl
   rw [zA hm] at e1
   exact Option.some.inj e1
  unfold gN
  rw [tdF_at ml.symm nd hj hm,e0]
  by_cases c2:0 < qc6 (elN P.es) Rs h j
  ·rw [if_pos c2];exact Iff.rfl
  ·rw [if_neg c2];exact⟨fun q=>absurd q (Int.lt_irrefl _),fun q=>absurd q c2⟩
 ·have z1:gN (tdF (P.ws.zip (mvN P Rs h))) w=0:=by
   unfold gN
   cases e:tdF (P.ws.zip (mvN P Rs h)) w with
   |none=>rfl
   |some n=>exact absurd (qfd ml.symm w (by rw [e];simp)) c
  have z2:gN (useF P bs h) w=0:=by
   unfold useF sumF
   rw [gN_sum,show gN noF w=0 from rfl,Int.zero_add,yO]
   have:∀l:List Ob,(∀b∈l,b∈bs)→(l.map ((fun t:Pt=>gN t.f w)∘obPt)).sum=0:=fun l=>by
    induction l with
    |nil=>exact fun _=>rfl
    |cons b r ih=>
     intro hh
     rw [zS,yS,ih fun x hx=>hh x (zF _ hx)]
     obtain⟨R,hR,e⟩:=hb b (hh b (zI ..))
     show gN b.R.f w+0=0
     rw [e]
     show gN (tdF (P.ws.zip R.ps)) w+0=0
     unfold gN
     cases e2:tdF (P.ws.zip R.ps) w with
     |none=>rfl
     |some n=>exact absurd (qfd (hl R hR).1.symm w (by rw [e2];simp)) c
   exact this _ fun b hb=>(yF.mp hb).1
  rw [z1,z2]
theorem bar_eq {P:PL} {S:Ts} {n:Nat} {wt:Nat→Int} {bs:List Ob} {Rs:List Rw} {cs:List Pq} {H:Hp} {j h:Nat} (hm:Nat) (hI:TInv S P n wt) (pf:PlF P) (hn:n=P.nm.length) (hh:h < n) (hj:j < P.ws.length) (etc:P.tc=csT P.ws cs) (hcl:cs.length=n) (hcs:CsAt H P.ws.length cs)
  (hbs:bs.map (·.R)=Rs.map (rrOf P.ws)) (hl:∀R∈Rs,R.ps.length=P.ws.length∧∀p∈R.ps,PpOk p):barR S P bs hm h P.ws[j]=atQ cs h j - qc6 (elN P.es) Rs h j - qc6 (elN P.es) Rs hm j:=by
 obtain⟨e,ae,hek,hel⟩:=hI.pl.at hh
 have hk:∃k,S.hl[k]?=some e∧k=h:=by
  obtain⟨k,hk,ek⟩:=zK.mp (qc9 ae).1
  have e1:=zA hk
  rw [ek] at e1
  have hkn:k < n:=by have:=hI.pl.len;omega
  have:=(hI.pl.nam k e e1).1
  refine⟨k,e1,hI.pl.inj k h hkn hh ?_⟩
  rw [←this]
  exact(qc9 ae).2
 obtain⟨k,e1,rfl⟩:=hk
 have efc:=(hI.da k e e1).2.1
 have hkc:k < cs.length:=by omega
 obtain⟨_,cl,cb,_⟩:=hcs.at hkc
 have etf:tfF P.tc k=tdF (P.ws.zip (csD cs k)):=by unfold tfF;rw [etc,csT_at hkc]
 have fin:Fin P.ws (tdF (P.ws.zip (csD cs k))):=(qfq cl.symm pf.wn fun p hp=>(cb p hp).2).fin (by decide)
 have g1:gN (fcOf S (nmF P k)) P.ws[j]=atQ cs k j:=by
  unfold fcOf
  rw [ae]
  show gN e.x.fc P.ws[j]=_
  have:gN e.x.fc P.ws[j]=gN (qct (tfF P.tc k)) P.ws[j]:=by unfold gN;rw [efc]
  rw [this,etf,qey fin,tdF_gN cl.symm pf.wn (fun p hp=>(cb p hp).1) hj (by omega)]
  have e0:=zA hkc
  unfold atQ
  rw [e0]
  show _=((cs[k]'hkc).2[j]?).getD 0
  have e2:csD cs k=(cs[k]'hkc).2:=by unfold csD;rw [e0]
  rw [←e2,zA (by omega)];rfl
 unfold barR qbr
 rw [g1,use_gN pf.wn hbs hl hj k,use_gN pf.wn hbs hl hj hm]
theorem deq_intB {K:Frag} {H:Hp} {n:Nat} (x y:Int):DEq K H n (.int x) (.int y) (decide (x=y)):=by
 have w:=DEq.flat (K:=K) (H:=H) (n:=n) (x:=.int x) (y:=.int y) rfl rfl
 have e:eqV (.int x) (.int y)=decide (x=y):=by
  show (x==y)=decide (x=y)
  by_cases c:x=y
  ·rw [decide_eq_true c];exact beq_iff_eq.mpr c
  ·rw [decide_eq_false c];exact beq_eq_false_iff_ne.mpr c
 rw [e] at w
 exact w
theorem deq_strB {K:Frag} {H:Hp} {n:Nat} (x y:Str):DEq K H n (.str x) (.str y) (decide (x=y)):=by
 have w:=DEq.flat (K:=K) (H:=H) (n:=n) (x:=.str x) (y:=.str y) rfl rfl
 have e:eqV (.str x) (.str y)=decide (x=y):=by
  show (x==y)=decide (x=y)
  by_cases c:x=y
  ·rw [decide_eq_true c];exact beq_iff_eq.mpr c
  ·rw [decide_eq_false c];exact beq_eq_false_iff_ne.mpr c
 rw [e] at w
 exact w
theorem deq_prB {K:Frag} {H:Hp} {p q:Pr} (hp:qc8 H p) (hq:qc8 H q):DEq K H 1 (.ref p.a) (.ref q.a) (decide ((p.n,p.x)=(q.n,q.x))):=by
 unfold qc8 at hp hq
 by_cases e:p.a=q.a
 ·rw [e,hq] at hp
  have h:q.n=p.n∧q.x=p.x:=by simpa using hp
  rw [h.1,h.2,e,decide_eq_true rfl]
  exact DEq.same
 ·have z:=DEq.ts (K:=K) (H:=H) (n:=0) (e:=fun j=>if j=0 then decide (p.n=q.n) else decide (p.x=q.x)) (SqT.of hp) (SqT.of hq) e (fun j h1 h2=>by
   match j,h1 with
   |0,_=>exact deq_intB _ _
   |1,_=>exact deq_intB _ _)
  have e2:((List.range (min [V.int p.n,V.int p.x].length [V.int q.n,V.int q.x].length)).all (fun j=>if j=0 then decide (p.n=q.n) else decide (p.x=q.x)) && [V.int p.n,V.int p.x].length==[V.int q.n,V.int q.x].length)=decide ((p.n,p.x)=(q.n,q.x)):=by
   show ((List.range 2).all (fun j=>if j=0 then decide (p.n=q.n) else decide (p.x=q.x)) && true)=_
   rw [Bool.and_true]
   by_cases c1:p.n=q.n
   ·by_cases c2:p.x=q.x
    ·rw [c1,c2];simp
    ·have:(p.n,p.x)≠(q.n,q.x):=fun h=>c2 (Prod.mk.inj h).2
     rw [decide_eq_false this,decide_eq_false c2]
     simp [List.range,List.range.loop]
   ·have:(p.n,p.x)≠(q.n,q.x):=fun h=>c1 (Prod.mk.inj h).1
    rw [decide_eq_false this,decide_eq_false c1]
    simp [List.range,List.range.loop]
  rw [e2] at z
  exact z
theorem prs_all {ps qs:List Pr} (hl:ps.length=qs.length):(List.range ps.length).all (fun j=>decide ((ps[j]?).map (fun p=>(p.n,p.x))=(qs[j]?).map (fun p=>(p.n,p.x))))=decide (prN ps=prN qs):=by
 by_cases c:prN ps=prN qs
 ·rw [decide_eq_true c]
  refine yE.mpr fun j _=>decide_eq_true ?_
  have:=congrArg (fun l:List (Int × Int)=>l[j]?) c
  unfold prN at this
  simpa [zC] using this
 ·rw [decide_eq_false c]
  apply Bool.eq_false_iff.mpr
  intro h
  refine c (List.ext_getElem? fun j=>?_)
  unfold prN
  rw [zC,zC]
  by_cases hj:j < ps.length
  ·exact of_decide_eq_true (yE.mp h j (yV.mpr hj))
  ·rw [yG (by omega),yG (by omega)]
theorem prs_ref {H:Hp}:∀{ps qs:List Pr},prV ps=prV qs→(∀p∈ps,qc8 H p)→(∀q∈qs,qc8 H q)→prN ps=prN qs
 | [], [],_,_,_=>rfl
 | [],_ :: _,e,_,_=>by simp [prV] at e
 |_ :: _, [],e,_,_=>by simp [prV] at e
 |p :: ps,q :: qs,e,hp,hq=>by
  have e:V.ref p.a :: prV ps=V.ref q.a :: prV qs:=e
  obtain⟨e1,e2⟩:=List.cons.inj e
  have ea:p.a=q.a:=by injection e1
  have h1:=hp p (zI ..)
  have h2:=hq q (zI ..)
  unfold qc8 at h1 h2
  rw [ea,h2] at h1
  have h:q.n=p.n∧q.x=p.x:=by simpa using h1
  show (p.n,p.x) :: prN ps=(q.n,q.x) :: prN qs
  rw [h.1,h.2,prs_ref e2 (fun x hx=>hp x (zF _ hx)) fun x hx=>hq x (zF _ hx)]
theorem prV_at {ps:List Pr} {j:Nat} (h1:j <(prV ps).length) (h:j < ps.length):(prV ps)[j]=V.ref ps[j].a:=by
 have e:(prV ps)[j]?=some (V.ref ps[j].a):=by unfold prV;rw [zC,zA h];rfl
 rw [zA h1] at e
 exact Option.some.inj e
theorem deq_prsB {K:Frag} {H:Hp} {l m:Addr} {ps qs:List Pr} (hl:H l=some (.lst (prV ps))) (hm:H m=some (.lst (prV qs))) (hp:∀p∈ps,qc8 H p) (hq:∀q∈qs,qc8 H q):DEq K H 2 (.ref l) (.ref m) (decide (prN ps=prN qs)):=by
 by_cases e:l=m
 ·subst e
  rw [hl] at hm
  have h:prV ps=prV qs:=by simpa using hm
  rw [decide_eq_true (prs_ref h hp hq)]
  exact DEq.same
 ·have lp:(prV ps).length=ps.length:=by unfold prV;rw [zB]
  have lq:(prV qs).length=qs.length:=by unfold prV;rw [zB]
  by_cases hh:ps.length=qs.length
  ·have z:=DEq.ls (K:=K) (H:=H) (n:=1) (e:=fun j=>decide ((ps[j]?).map (fun p=>(p.n,p.x))=(qs[j]?).map (fun p=>(p.n,p.x)))) (SqL.of hl) (SqL.of hm) e (by omega) (fun j h1 h2=>by
    have k1:j < ps.length:=by omega
    have k2:j < qs.length:=by omega
    have e1:=prV_at h1 k1
    have e2:=prV_at h2 k2
    have w:=deq_prB (K:=K) (hp _ (zJ k1)) (hq _ (zJ k2))
    rw [e1,e2,zA k1,zA k2]
    have e3:decide (Option.map (fun p:Pr=>(p.n,p.x)) (some ps[j])=Option.map (fun p:Pr=>(p.n,p.x)) (some qs[j]))=decide ((ps[j].n,ps[j].x)=(qs[j].n,qs[j].x)):=decide_eq_decide.mpr ⟨fun h=>Option.some.inj h,fun h=>congrArg some h⟩
    rw [e3]
    exact w)
   rw [lp,prs_all hh] at z
   exact z
  ·have:prN ps≠prN qs:=fun h=>hh (by have:=congrArg List.length h;unfold prN at this;rwa [zB,zB] at this)
   rw [decide_eq_false this]
   exact DEq.lsN (SqL.of hl) (SqL.of hm) e (by omega)
structure Pp where
 p:Addr
 l:Addr
 z:Str
 w:Str
 ps:List Pr
structure PpAt (H:Hp) (x:Pp):Prop where
 tup:H x.p=some (.tup [.str x.z,.str x.w,.ref x.l])
 lst:H x.l=some (.lst (prV x.ps))
 prs:∀p∈x.ps,qc8 H p
theorem PpAt.same {H H':Hp} {x:Pp} (h:PpAt H x) (s:qaq H H'):PpAt H' x:=⟨s _ _ h.tup,s _ _ h.lst,fun p hp=>s _ _ (h.prs p hp)⟩
def ppEq (x y:Pp):Bool:=decide (x.z=y.z) && (decide (x.w=y.w) && decide (prN x.ps=prN y.ps))
theorem deq_pp {K:Frag} {H:Hp} {x y:Pp} (hx:PpAt H x) (hy:PpAt H y) (ne:x.p≠y.p):DEq K H 3 (.ref x.p) (.ref y.p) (ppEq x y):=by
 have z:=DEq.ts (K:=K) (H:=H) (n:=2) (e:=fun j=>if j=0 then decide (x.z=y.z) else if j=1 then decide (x.w=y.w) else decide (prN x.ps=prN y.ps)) (SqT.of hx.tup) (SqT.of hy.tup) ne (fun j h1 h2=>by
  match j,h1 with
  |0,_=>exact deq_strB _ _
  |1,_=>exact deq_strB _ _
  |2,_=>exact deq_prsB hx.lst hy.lst hx.prs hy.prs)
 have e2:((List.range (min [V.str x.z,V.str x.w,V.ref x.l].length [V.str y.z,V.str y.w,V.ref y.l].length)).all (fun j=>if j=0 then decide (x.z=y.z) else if j=1 then decide (x.w=y.w) else decide (prN x.ps=prN y.ps)) && [V.str x.z,V.str x.w,V.ref x.l].length==[V.str y.z,V.str y.w,V.ref y.l].length)=ppEq x y:=by
  show ((List.range 3).all (fun j=>if j=0 then decide (x.z=y.z) else if j=1 then decide (x.w=y.w) else decide (prN x.ps=prN y.ps)) && true)=_
  rw [Bool.and_true]
  simp [List.range,List.range.loop,ppEq]
 rw [e2] at z
 exact z
theorem pp_uni {H:Hp} {x y:Pp} (hx:PpAt H x) (hy:PpAt H y) (e:x.p=y.p):x.z=y.z∧x.w=y.w∧prN x.ps=prN y.ps:=by
 have h1:=hx.tup
 rw [e,hy.tup] at h1
 have h2:y.z=x.z∧y.w=x.w∧y.l=x.l:=by simpa using h1
 have h3:=hx.lst
 rw [←h2.2.2,hy.lst] at h3
 have h4:prV y.ps=prV x.ps:=by simpa using h3
 exact⟨h2.1.symm,h2.2.1.symm,(prs_ref h4 hy.prs hx.prs).symm⟩
theorem ppEq_r {x y z:Pp} (h:y.z=z.z∧y.w=z.w∧prN y.ps=prN z.ps):ppEq x y=ppEq x z:=by
 unfold ppEq
 rw [h.1,h.2.1,h.2.2]
theorem ppEq_l {x y z:Pp} (h:x.z=y.z∧x.w=y.w∧prN x.ps=prN y.ps):ppEq x z=ppEq y z:=by
 unfold ppEq
 rw [h.1,h.2.1,h.2.2]
def sp_is_bar (K:Frag) (d:Ad):Sp:=fun vs H Q _=>∃(t lh:Addr) (S:Ts) (P:PL) (bs:List Ob) (n h e:Nat) (ss:List Str) (x:Pp),vs=[.ref t,.ref lh,.str (nmF P h),.str (nmF P e),.ref x.p]∧WdAt K d H t lh S P bs n∧n≤12∧h < n∧e < n∧ss.Nodup∧(∀w,w∈ss↔useF P bs h w≠none)∧PyProof.Rows.sortedS ss=true∧ss.length≤6∧PpAt H x∧
 ∀(y:V) (k:Bool) H',qaq H H'→BarN H H' S P bs h e ss y→(y=.non→k=false)→(∀y':Pp,y=.ref y'.p→PpAt H' y'→k=ppEq x y')→Q (.bl k) H'
include T in
theorem ok_is_bar:FnOk P w K mg base CX0 22 d.f_is_bar d.fd_is_bar ["tree","holds","house","elder","paper"] (sp_is_bar K d):=by
 refine T.F_is_bar.ok sc_is_bar (fun vs H Q E h=>?_) (fun cdv A outer s H vs Q E hr h=>?_)
 ·obtain⟨t,lh,S,P,bs,n,h,e,ss,x,rfl,_⟩:=h;rfl
 obtain⟨t,lh,S,P,bs,n,h,e,ss,x,rfl,hW,n12,hn,en,snd,smem,ssort,s6,hx,q⟩:=h
 refine⟨_,(qa6 (qaj (qd1 (op_eqP (hu8 hr)) (pv 4) (qaa ((ok_bar T).mono (by decide)) hr rfl T.m_bar T.F_bar.kp T.b_bar .nil qag (qa0 (pv 0) (qa0 (pv 1) (qa0 (pv 2) (qa0 (pv 3) qa2))))) (qap _)))),?_⟩
 walk_at "d"
 refine qaf (σ:=[some (.ref t),some (.ref lh),some (.str (nmF P h)),some (.str (nmF P e)),some (.ref x.p)]) rfl ?_
 left
 refine⟨t,lh,S,P,bs,n,h,e,ss,rfl,hW,n12,hn,en,snd,smem,ssort,s6,fun y H' s' hy=>?_⟩
 rcases id hy with ⟨rfl,hn'⟩ |⟨a,b,i,w,p,l,ps,rfl,f1,hp,hl,hps,np,nl,eq⟩
 ·left
  refine .inr ⟨x.p,_,rfl,rfl,SqT.of (s' _ _ hx.tup),?_⟩
  left
  exact q .non false H' s' hy (fun _=>rfl) (fun y' e _=>by cases e)
 ·have hy':PpAt H' ⟨p,l,nmF P i,w,ps⟩:=⟨hp,hl,hps⟩
  have ne:=qa7 hx.tup np
  left
  refine .inl ⟨x.p,p,3,_,rfl,rfl,ne,by decide,deq_pp (hx.same s') hy' ne,?_⟩
  left
  exact q (.ref p) _ H' s' hy (fun e=>by cases e) (fun y' e hy2=>ppEq_r (pp_uni hy' hy2 (by injection e)))
theorem qdh (ps:List Pr) (lo hi:Option Int):∃qs:List Pr,cutV (prV ps) lo hi=prV qs∧(∀q∈qs,q∈ps)∧qs.length≤ps.length:=by
 unfold cutV
 refine⟨(ps.drop (HT.sIx (prV ps).length 0 lo)).take (HT.sIx (prV ps).length (prV ps).length hi - HT.sIx (prV ps).length 0 lo),by unfold prV;rw [List.map_take,List.map_drop],fun q hq=>List.mem_of_mem_drop (List.mem_of_mem_take hq),?_⟩
 rw [zT,List.length_drop]
 omega
theorem qbg (ps:List Pr):(prV ps).length=ps.length:=by unfold prV;rw [zB]
theorem qcy (ps qs:List Pr):prV ps++prV qs=prV (ps++qs):=by unfold prV;rw [zE]
theorem deq_nil {K:Frag} {H:Hp} {l p:Addr} {ps:List Pr} (hl:H l=some (.lst (prV ps))) (hp:H p=some (.lst [])) (ne:l≠p):DEq K H 1 (.ref l) (.ref p) (decide (ps=[])):=by
 cases ps with
 |nil=>exact deq_list (n:=0) (SqL.of hl) (SqL.of hp) ne trivial
 |cons x r=>exact DEq.lsN (SqL.of hl) (SqL.of hp) ne (by rw [qbg];simp)
def sp_spoiled (K:Frag) (d:Ad):Sp:=fun vs H Q _=>∃(c:Int) (l:Addr) (ps:List Pr),vs=[.int c,.ref l]∧H l=some (.lst (prV ps))∧(∀p∈ps,qc8 H p)∧ps.length≤9∧∀(l':Addr) (qs:List Pr) H',qaq H H'→H l'=none→H' l'=some (.lst (prV qs))→(∀q∈qs,qc8 H' q)→Q (.ref l') H'
include T in
theorem ok_spoiled:FnOk P w K mg base CX0 2 d.f_spoiled d.fd_spoiled ["_law_cell_here","_law_holders"] (sp_spoiled K d):=by
 refine T.F_spoiled.ok sc_spoiled (fun vs H Q E h=>?_) (fun cdv A outer s H vs Q E hr h=>?_)
 ·obtain⟨c,l,ps,rfl,_⟩:=h;rfl
 obtain⟨c,l,ps,rfl,hl,hps,h9,q⟩:=h
 refine⟨_,(qa3 (qad (i:=2) sc_spoiled.nd rfl (Or.inl rfl) (qaa ((ok_mix T).mono (by decide)) hr rfl T.m_mix T.F_mix.kp T.b_mix .nil qag (qa0 (pv 0) (qa0 qa5 (qa0 qa5 qa2)))))
  (qa3 (qad (i:=3) sc_spoiled.nd rfl (Or.inl rfl) (qaa ((ok_mix T).mono (by decide)) hr rfl T.m_mix T.F_mix.kp T.b_mix .nil qag (qa0 (pv 0) (qa0 qa5 (qa0 (qae (qf2 rfl) rfl T.z_max PyProof.Rows.boot_max (qa0 qa5 (qa0 (qae qau rfl T.z_len PySem.boot_len (qa0 (pv 1) qa2)) qa2))) qa2)))))
  (qa3 (qad (i:=4) sc_spoiled.nd rfl (Or.inl rfl) (qal qai (qbe (qa0 qa5 (qa0 (pe_un un_neg qa5) (qa0 (qah op_pow qa5 qa5) qa2)))) (qaa ((ok_mix T).mono (by decide)) hr rfl T.m_mix T.F_mix.kp T.b_mix .nil qag (qa0 (pv 0) (qa0 qa5 (qa0 qa5 qa2)))) (fun _ _=>rfl)))
  (qa3 (qbc (PW.pt (pw_or (qak qd3 (pv 2) qa5 (qap _)) (pw_or1 (qak (op_eqD (hu8 hr)) (pv 1) (qbe qa2) (qap _))))) (qa6 (qaj (qah qdd (pv 1) (qbe (qa0 (qc1 (qa0 (qah qas (qah op_pow qa5 qa5) (qaa ((ok_mix T).mono (by decide)) hr rfl T.m_mix T.F_mix.kp T.b_mix .nil qag (qa0 (pv 0) (qa0 qa5 (qa0 qa5 qa2))))) (qa0 qa5 qa2))) qa2))))) qan)
  (qa3 (qbc (qak qd3 (pv 2) qa5 (qap _)) (qa6 (qaj (qah qdd (qca qcx (pv 1) qd0 (qcz (pv 3))) (qca qcx (pv 1) (qcz (qah qas (pv 3) qa5)) qd0)))) qan)
  (qa3 (qbc (qak qd3 (pv 2) qa5 (qap _)) (qa6 (qaj (qfg rfl rfl T.z_list rfl T.z_reversed (qa0 (pv 1) qa2)))) qan)
  (qa3 (qbc (qak qd3 (pv 2) qa5 (qap _)) (qa6 (qaj (qah qdd (qah qdd (qca qcx (pv 1) qd0 (qcz (pv 3))) (qbe (qa0 (qc1 (qa0 (qah qas (qal qb4 (qal qai (pv 1) (pv 3) (fun _ _=>rfl)) qa5 (fun _ _=>rfl)) (pv 4)) (qa0 (qal qb4 (qal qai (pv 1) (pv 3) (fun _ _=>rfl)) qa5 (fun _ _=>rfl)) qa2))) qa2))) (qca qcx (pv 1) (qcz (qah qas (pv 3) qa5)) qd0)))) qan)
  (qa3 (qbc (qak qd3 (pv 2) qa5 (qap _)) (qa6 (qaj (qah qdd (qah qdd (qca qcx (pv 1) qd0 (qcz (pv 3))) (qbe (qa0 (qc1 (qa0 (qal qb4 (qal qai (pv 1) (pv 3) (fun _ _=>rfl)) qa5 (fun _ _=>rfl)) (qa0 (qah qas (qal qb4 (qal qai (pv 1) (pv 3) (fun _ _=>rfl)) qa5 (fun _ _=>rfl)) (pv 4)) qa2))) qa2))) (qca qcx (pv 1) (qcz (qah qas (pv 3) qa5)) qd0)))) qan)
  (qa6 (qaj (qah qdd (qah qdd (qca qcx (pv 1) qd0 (qcz (pv 3))) (qbe (qa0 (qal qai (pv 1) (pv 3) (fun _ _=>rfl)) qa2))) (qca qcx (pv 1) (qcz (pv 3)) qd0)))))))))))),?_⟩
 walk_at "d"
 refine qaf (σ:=[some (.int c),some (.ref l),none,none,none]) rfl ?_
 have lp:(((prV ps).length:Nat):Int)=(ps.length:Int):=by unfold prV;rw [zB]
 left
 refine qbm (by decide) (by decide) (by decide) (by decide) fun way w0 w1=>?_
 left
 rw [lp]
 refine qbm (by decide) (by decide) (by split <;> omega) (by split <;> omega) fun at' a0 a1=>?_
 left
 rename_i pm hpm
 refine qbm (by decide) (by decide) (by decide) (by decide) fun r3 r30 r31=>?_
 refine qff (xs:=[1,-1,10^Int.toNat 28]) (SqL.of qa1) r30 r31 fun st _=>?_
 have s1:=qa8 hpm (.lst [.int 1,.int (-1),.int (10^Int.toNat 28)])
 generalize upd H pm (.lst [.int 1,.int (-1),.int (10^Int.toNat 28)])=H1 at*
 have hl1:=s1 _ _ hl
 have hps1:∀p∈ps,qc8 H1 p:=fun p hp=>s1 _ _ (hps p hp)
 clear r30 r31 hpm
 left
 refine i_2 (fun c0=>?_) (fun c0=>?_)
 ·skip
  left
  refine qbm (by decide) (by decide) (by decide) (by decide) fun r4 _ _=>?_
  left
  rename_i p1 hp1 p2 hp2
  have s2:=(qa8 hp1 (.tup [.int (10^Int.toNat 6+r4),.int 1])).trans (qa8 hp2 (.lst [.ref p1]))
  have e1:upd (upd H1 p1 (.tup [.int (10^Int.toNat 6+r4),.int 1])) p2 (.lst [.ref p1]) p1=some (.tup [.int (10^Int.toNat 6+r4),.int 1]):=qa4 qa1 hp2
  have e2:upd (upd H1 p1 (.tup [.int (10^Int.toNat 6+r4),.int 1])) p2 (.lst [.ref p1]) p2=some (.lst (prV [⟨p1,10^Int.toNat 6+r4,1⟩])):=qa1
  generalize upd (upd H1 p1 (.tup [.int (10^Int.toNat 6+r4),.int 1])) p2 (.lst [.ref p1])=H2 at*
  refine qdw (SqL.of (s2 _ _ hl1)) (SqL.of e2) (by rw [qbg,qbg];show _+1≤16777216;omega) fun p hp=>?_
  rw [qcy]
  left
  refine q p _ _ (s1.trans (s2.trans (qa8 hp _))) ((s1.trans s2).free hp) qa1 fun x hx=>?_
  rcases zN.mp hx with hx|hx
  ·exact qa8 hp _ _ _ (s2 _ _ (hps1 x hx))
  ·rw [zH.mp hx];exact qa8 hp _ _ _ e1
 left
 rename_i pe hpe
 have sE:=s1.trans (qa8 hpe (.lst []))
 have hlE:=qa4 (o':=.lst []) hl1 hpe
 have hpsE:∀p∈ps,qc8 (upd H1 pe (.lst [])) p:=fun p hp=>qa4 (hps1 p hp) hpe
 have nE:=qa7 hl1 hpe
 refine r_eqD nE (by decide) (deq_nil hlE qa1 nE) ?_
 generalize upd H1 pe (.lst [])=HE at*
 clear hl1 hps1 s1 hpe nE
 by_cases c1:ps=[]
 ·rw [decide_eq_true c1]
  left
  refine qbm (by decide) (by decide) (by decide) (by decide) fun r4 _ _=>?_
  left
  rename_i p1 hp1 p2 hp2
  have s2:=(qa8 hp1 (.tup [.int (10^Int.toNat 6+r4),.int 1])).trans (qa8 hp2 (.lst [.ref p1]))
  have e1:upd (upd HE p1 (.tup [.int (10^Int.toNat 6+r4),.int 1])) p2 (.lst [.ref p1]) p1=some (.tup [.int (10^Int.toNat 6+r4),.int 1]):=qa4 qa1 hp2
  have e2:upd (upd HE p1 (.tup [.int (10^Int.toNat 6+r4),.int 1])) p2 (.lst [.ref p1]) p2=some (.lst (prV [⟨p1,10^Int.toNat 6+r4,1⟩])):=qa1
  generalize upd (upd HE p1 (.tup [.int (10^Int.toNat 6+r4),.int 1])) p2 (.lst [.ref p1])=H2 at*
  refine qdw (SqL.of (s2 _ _ hlE)) (SqL.of e2) (by rw [qbg,qbg];show _+1≤16777216;omega) fun p hp=>?_
  rw [qcy]
  left
  refine q p _ _ (sE.trans (s2.trans (qa8 hp _))) ((sE.trans s2).free hp) qa1 fun x hx=>?_
  rcases zN.mp hx with hx|hx
  ·exact qa8 hp _ _ _ (s2 _ _ (hpsE x hx))
  ·rw [zH.mp hx];exact qa8 hp _ _ _ e1
 rw [decide_eq_false c1]
 have l1:1≤ps.length:=by
  cases ps with
  |nil=>exact absurd rfl c1
  |cons x r=>rw [zM];omega
 obtain⟨k,rfl⟩:=Int.eq_ofNat_of_zero_le a0
 have hk:k < ps.length:=by
  split at a1 <;> omega
 have xk:atI (prV ps) ((k:Nat):Int)=some (.ref ps[k].a):=qar (by unfold prV;rw [zC,zA hk];rfl)
 have hxk:=zJ hk
 have hxp:qc8 HE ps[k]:=hpsE _ hxk
 generalize ps[k]=y at*
 unfold qc8 at hxp
 generalize ((k:Nat):Int)=ki at*
 clear a0 a1 hk k l1 lp
 left
 refine i_2 (fun c2=>?_) (fun c2=>?_)
 ·left
  refine qfw (SqL.of hlE) fun pa hpa=>?_
  obtain⟨qa,ea,ma,la⟩:=qdh ps none (some ki)
  rw [ea]
  have sA:=sE.trans (qa8 hpa (.lst (prV qa)))
  have hlA:=qa4 (o':=.lst (prV qa)) hlE hpa
  have eA:upd HE pa (.lst (prV qa)) pa=some (.lst (prV qa)):=qa1
  have hpsA:∀p∈ps,qc8 (upd HE pa (.lst (prV qa))) p:=fun p hp=>qa4 (hpsE p hp) hpa
  generalize upd HE pa (.lst (prV qa))=HA at*
  left
  refine qfw (SqL.of hlA) fun pb hpb=>?_
  obtain⟨qb,eb,mb,lb⟩:=qdh ps (some (ki+1)) none
  rw [eb]
  have sB:=sA.trans (qa8 hpb (.lst (prV qb)))
  have eB:upd HA pb (.lst (prV qb)) pb=some (.lst (prV qb)):=qa1
  have eAB:=qa4 (o':=.lst (prV qb)) eA hpb
  have hpsB:∀p∈ps,qc8 (upd HA pb (.lst (prV qb))) p:=fun p hp=>qa4 (hpsA p hp) hpb
  generalize upd HA pb (.lst (prV qb))=HB at*
  left
  refine qdw (SqL.of eAB) (SqL.of eB) (by rw [qbg,qbg];show _≤16777216;omega) fun p hp=>?_
  rw [qcy]
  left
  refine q p _ _ (sB.trans (qa8 hp _)) (sB.free hp) qa1 fun x hx=>qa4 (hpsB x ?_) hp
  rcases zN.mp hx with hx|hx
  ·exact ma x hx
  ·exact mb x hx
 left
 refine i_2 (fun c3=>?_) (fun c3=>?_)
 ·left
  rename_i pr hpr
  refine q pr ps.reverse _ (sE.trans (qa8 hpr _)) (sE.free hpr) (by rw [qa1];unfold prV;rw [List.map_reverse]) fun x hx=>qa4 (hpsE x (List.mem_reverse.mp hx)) hpr
 left
 refine i_2 (fun c4=>?_) (fun c4=>?_)
 ·left
  refine qfw (SqL.of hlE) fun pa hpa=>?_
  obtain⟨qa,ea,ma,la⟩:=qdh ps none (some ki)
  rw [ea]
  have sA:=sE.trans (qa8 hpa (.lst (prV qa)))
  have hlA:=qa4 (o':=.lst (prV qa)) hlE hpa
  have eA:upd HE pa (.lst (prV qa)) pa=some (.lst (prV qa)):=qa1
  have hpsA:∀p∈ps,qc8 (upd HE pa (.lst (prV qa))) p:=fun p hp=>qa4 (hpsE p hp) hpa
  have hxA:=qa4 (o':=.lst (prV qa)) hxp hpa
  generalize upd HE pa (.lst (prV qa))=HA at*
  left
  refine qb0 (SqL.of hlA) xk ?_
  left
  refine qb0 (SqL.of hlA) xk ?_
  left
  rename_i p1 hp1 p2 hp2
  have s2:=(qa8 hp1 (.tup [.int (y.n+st),.int (y.x)])).trans (qa8 hp2 (.lst [.ref p1]))
  have e1:qc8 (upd (upd HA p1 (.tup [.int (y.n+st),.int (y.x)])) p2 (.lst [.ref p1])) ⟨p1,y.n+st,y.x⟩:=qa4 qa1 hp2
  have e2:upd (upd HA p1 (.tup [.int (y.n+st),.int (y.x)])) p2 (.lst [.ref p1]) p2=some (.lst (prV [⟨p1,y.n+st,y.x⟩])):=qa1
  generalize upd (upd HA p1 (.tup [.int (y.n+st),.int (y.x)])) p2 (.lst [.ref p1])=HB at*
  generalize (⟨p1,y.n+st,y.x⟩:Pr)=y2 at*
  have sB:=sA.trans s2
  have hlB:=s2 _ _ hlA
  have eAB:=s2 _ _ eA
  have hpsB:∀p∈ps,qc8 HB p:=fun p hp=>s2 _ _ (hpsA p hp)
  refine qdw (SqL.of eAB) (SqL.of e2) (by rw [qbg,qbg];show _+1≤16777216;omega) fun pc hpc=>?_
  rw [qcy]
  have sC:=sB.trans (qa8 hpc (.lst (prV (qa++ [y2]))))
  have hlC:=qa4 (o':=.lst (prV (qa++ [y2]))) hlB hpc
  have eC:upd HB pc (.lst (prV (qa++ [y2]))) pc=some (.lst (prV (qa++ [y2]))):=qa1
  have hpsC:∀p∈ps,qc8 (upd HB pc (.lst (prV (qa++ [y2])))) p:=fun p hp=>qa4 (hpsB p hp) hpc
  have e1C:qc8 (upd HB pc (.lst (prV (qa++ [y2])))) y2:=qa4 e1 hpc
  generalize upd HB pc (.lst (prV (qa++ [y2])))=HC at*
  left
  refine qfw (SqL.of hlC) fun pd hpd=>?_
  obtain⟨qd,ed,md,ld⟩:=qdh ps (some (ki+1)) none
  rw [ed]
  have sD:=sC.trans (qa8 hpd (.lst (prV qd)))
  have eD:upd HC pd (.lst (prV qd)) pd=some (.lst (prV qd)):=qa1
  have eCD:=qa4 (o':=.lst (prV qd)) eC hpd
  have hpsD:∀p∈ps,qc8 (upd HC pd (.lst (prV qd))) p:=fun p hp=>qa4 (hpsC p hp) hpd
  have e1D:qc8 (upd HC pd (.lst (prV qd))) y2:=qa4 e1C hpd
  generalize upd HC pd (.lst (prV qd))=HD at*
  left
  refine qdw (SqL.of eCD) (SqL.of eD) (by rw [qbg,qbg,zG];show _+1+_≤16777216;omega) fun p hp=>?_
  rw [qcy]
  left
  refine q p _ _ (sD.trans (qa8 hp _)) (sD.free hp) qa1 fun x hx=>?_
  rcases zN.mp hx with hx|hx
  ·rcases zN.mp hx with hx|hx
   ·exact qa4 (hpsD x (ma x hx)) hp
   ·rw [zH.mp hx];exact qa4 e1D hp
  ·exact qa4 (hpsD x (md x hx)) hp
 left
 refine i_2 (fun c5=>?_) (fun c5=>?_)
 ·left
  refine qfw (SqL.of hlE) fun pa hpa=>?_
  obtain⟨qa,ea,ma,la⟩:=qdh ps none (some ki)
  rw [ea]
  have sA:=sE.trans (qa8 hpa (.lst (prV qa)))
  have hlA:=qa4 (o':=.lst (prV qa)) hlE hpa
  have eA:upd HE pa (.lst (prV qa)) pa=some (.lst (prV qa)):=qa1
  have hpsA:∀p∈ps,qc8 (upd HE pa (.lst (prV qa))) p:=fun p hp=>qa4 (hpsE p hp) hpa
  have hxA:=qa4 (o':=.lst (prV qa)) hxp hpa
  generalize upd HE pa (.lst (prV qa))=HA at*
  left
  refine qb0 (SqL.of hlA) xk ?_
  left
  refine qb0 (SqL.of hlA) xk ?_
  left
  rename_i p1 hp1 p2 hp2
  have s2:=(qa8 hp1 (.tup [.int (y.n),.int (y.x+st)])).trans (qa8 hp2 (.lst [.ref p1]))
  have e1:qc8 (upd (upd HA p1 (.tup [.int (y.n),.int (y.x+st)])) p2 (.lst [.ref p1])) ⟨p1,y.n,y.x+st⟩:=qa4 qa1 hp2
  have e2:upd (upd HA p1 (.tup [.int (y.n),.int (y.x+st)])) p2 (.lst [.ref p1]) p2=some (.lst (prV [⟨p1,y.n,y.x+st⟩])):=qa1
  generalize upd (upd HA p1 (.tup [.int (y.n),.int (y.x+st)])) p2 (.lst [.ref p1])=HB at*
  generalize (⟨p1,y.n,y.x+st⟩:Pr)=y2 at*
  have sB:=sA.trans s2
  have hlB:=s2 _ _ hlA
  have eAB:=s2 _ _ eA
  have hpsB:∀p∈ps,qc8 HB p:=fun p hp=>s2 _ _ (hpsA p hp)
  refine qdw (SqL.of eAB) (SqL.of e2) (by rw [qbg,qbg];show _+1≤16777216;omega) fun pc hpc=>?_
  rw [qcy]
  have sC:=sB.trans (qa8 hpc (.lst (prV (qa++ [y2]))))
  have hlC:=qa4 (o':=.lst (prV (qa++ [y2]))) hlB hpc
  have eC:upd HB pc (.lst (prV (qa++ [y2]))) pc=some (.lst (prV (qa++ [y2]))):=qa1
  have hpsC:∀p∈ps,qc8 (upd HB pc (.lst (prV (qa++ [y2])))) p:=fun p hp=>qa4 (hpsB p hp) hpc
  have e1C:qc8 (upd HB pc (.lst (prV (qa++ [y2])))) y2:=qa4 e1 hpc
  generalize upd HB pc (.lst (prV (qa++ [y2])))=HC at*
  left
  refine qfw (SqL.of hlC) fun pd hpd=>?_
  obtain⟨qd,ed,md,ld⟩:=qdh ps (some (ki+1)) none
  rw [ed]
  have sD:=sC.trans (qa8 hpd (.lst (prV qd)))
  have eD:upd HC pd (.lst (prV qd)) pd=some (.lst (prV qd)):=qa1
  have eCD:=qa4 (o':=.lst (prV qd)) eC hpd
  have hpsD:∀p∈ps,qc8 (upd HC pd (.lst (prV qd))) p:=fun p hp=>qa4 (hpsC p hp) hpd
  have e1D:qc8 (upd HC pd (.lst (prV qd))) y2:=qa4 e1C hpd
  generalize upd HC pd (.lst (prV qd))=HD at*
  left
  refine qdw (SqL.of eCD) (SqL.of eD) (by rw [qbg,qbg,zG];show _+1+_≤16777216;omega) fun p hp=>?_
  rw [qcy]
  left
  refine q p _ _ (sD.trans (qa8 hp _)) (sD.free hp) qa1 fun x hx=>?_
  rcases zN.mp hx with hx|hx
  ·rcases zN.mp hx with hx|hx
   ·exact qa4 (hpsD x (ma x hx)) hp
   ·rw [zH.mp hx];exact qa4 e1D hp
  ·exact qa4 (hpsD x (md x hx)) hp
 left
 refine qfw (SqL.of hlE) fun pa hpa=>?_
 obtain⟨qa,ea,ma,la⟩:=qdh ps none (some ki)
 rw [ea]
 have sA:=sE.trans (qa8 hpa (.lst (prV qa)))
 have hlA:=qa4 (o':=.lst (prV qa)) hlE hpa
 have eA:upd HE pa (.lst (prV qa)) pa=some (.lst (prV qa)):=qa1
 have hpsA:∀p∈ps,qc8 (upd HE pa (.lst (prV qa))) p:=fun p hp=>qa4 (hpsE p hp) hpa
 have hxA:=qa4 (o':=.lst (prV qa)) hxp hpa
 generalize upd HE pa (.lst (prV qa))=HA at*
 left
 refine qb0 (SqL.of hlA) xk ?_
 left
 rename_i p2 hp2
 have s2:=qa8 hp2 (.lst [.ref y.a])
 have e1:qc8 (upd HA p2 (.lst [.ref y.a])) y:=qa4 hxA hp2
 have e2:upd HA p2 (.lst [.ref y.a]) p2=some (.lst (prV [y])):=qa1
 generalize upd HA p2 (.lst [.ref y.a])=HB at*
 generalize hy2:y=y2 at e1 e2
 have sB:=sA.trans s2
 have hlB:=s2 _ _ hlA
 have eAB:=s2 _ _ eA
 have hpsB:∀p∈ps,qc8 HB p:=fun p hp=>s2 _ _ (hpsA p hp)
 refine qdw (SqL.of eAB) (SqL.of e2) (by rw [qbg,qbg];show _+1≤16777216;omega) fun pc hpc=>?_
 rw [qcy]
 have sC:=sB.trans (qa8 hpc (.lst (prV (qa++ [y2]))))
 have hlC:=qa4 (o':=.lst (prV (qa++ [y2]))) hlB hpc
 have eC:upd HB pc (.lst (prV (qa++ [y2]))) pc=some (.lst (prV (qa++ [y2]))):=qa1
 have hpsC:∀p∈ps,qc8 (upd HB pc (.lst (prV (qa++ [y2])))) p:=fun p hp=>qa4 (hpsB p hp) hpc
 have e1C:qc8 (upd HB pc (.lst (prV (qa++ [y2])))) y2:=qa4 e1 hpc
 generalize upd HB pc (.lst (prV (qa++ [y2])))=HC at*
 left
 refine qfw (SqL.of hlC) fun pd hpd=>?_
 obtain⟨qd,ed,md,ld⟩:=qdh ps (some (ki)) none
 rw [ed]
 have sD:=sC.trans (qa8 hpd (.lst (prV qd)))
 have eD:upd HC pd (.lst (prV qd)) pd=some (.lst (prV qd)):=qa1
 have eCD:=qa4 (o':=.lst (prV qd)) eC hpd
 have hpsD:∀p∈ps,qc8 (upd HC pd (.lst (prV qd))) p:=fun p hp=>qa4 (hpsC p hp) hpd
 have e1D:qc8 (upd HC pd (.lst (prV qd))) y2:=qa4 e1C hpd
 generalize upd HC pd (.lst (prV qd))=HD at*
 left
 refine qdw (SqL.of eCD) (SqL.of eD) (by rw [qbg,qbg,zG];show _+1+_≤16777216;omega) fun p hp=>?_
 rw [qcy]
 left
 refine q p _ _ (sD.trans (qa8 hp _)) (sD.free hp) qa1 fun x hx=>?_
 rcases zN.mp hx with hx|hx
 ·rcases zN.mp hx with hx|hx
  ·exact qa4 (hpsD x (ma x hx)) hp
  ·rw [zH.mp hx];exact qa4 e1D hp
 ·exact qa4 (hpsD x (md x hx)) hp
def DuV (H:Hp) (y:V):Prop:=y=.non∨∃x:Pp,y=.ref x.p∧PpAt H x∧x.ps.length≤9
def sp_paper (K:Frag) (d:Ad):Sp:=fun vs H Q _=>∃(c:Int) (y:V) (ln lw le lc lr:Addr) (P:PL) (Rs:List Rw) (cs:List Pq),vs=[.int c,y,.ref ln,.ref lw,.ref le,.ref lr]∧Wp H ln lw le lc lr P Rs cs∧1≤P.nm.length∧1≤P.ws.length∧(∀z∈P.nm,z.length≤8)∧(∀z∈P.ws,z.length≤8)∧DuV H y∧
 ∀(x:Pp) H',qaq H H'→PpAt H' x→H x.p=none→H x.l=none→Q (.ref x.p) H'
include T in
theorem ok_paper:FnOk P w K mg base CX0 5 d.f_paper d.fd_paper ["_law_cell_here","_law_due","_law_names_here","_law_wares","_law_elders_here","_law_rows_here"] (sp_paper K d):=by
 refine T.F_paper.ok sc_paper (fun vs H Q E h=>?_) (fun cdv A outer s H vs Q E hr h=>?_)
 ·obtain⟨c,y,ln,lw,le,lc,lr,P,Rs,cs,rfl,_⟩:=h;rfl
 obtain⟨c,y,ln,lw,le,lc,lr,P,Rs,cs,rfl,hO,n1,k1,hn8,hw8,hy,q⟩:=h
 refine⟨_,(qa3 (qad (i:=6) sc_paper.nd rfl (Or.inl rfl) (qaa ((ok_mix T).mono (by decide)) hr rfl T.m_mix T.F_mix.kp T.b_mix .nil qag (qa0 (pv 0) (qa0 qa5 (qa0 (qae qau rfl T.z_len PySem.boot_len (qa0 (pv 2) qa2)) qa2)))))
  (qa3 (qad (i:=7) sc_paper.nd rfl (Or.inl rfl) (qaa ((ok_mix T).mono (by decide)) hr rfl T.m_mix T.F_mix.kp T.b_mix .nil qag (qa0 (pv 0) (qa0 qa5 (qa0 (qae qau rfl T.z_len PySem.boot_len (qa0 (pv 3) qa2)) qa2)))))
  (qa3 (qad (i:=8) sc_paper.nd rfl (Or.inl rfl) (qc1 (qa0 (qal qai (pv 2) (pv 6) (fun _ _=>rfl)) (qa0 (qal qai (pv 3) (pv 7) (fun _ _=>rfl)) (qa0 (qaa ((ok_taken T).mono (by decide)) hr rfl T.m_taken T.F_taken.kp T.b_taken .nil qag (qa0 (pv 5) (qa0 (pv 4) (qa0 (pv 6) (qa0 (pv 7) qa2))))) qa2)))))
  (qa3 (qad (i:=9) sc_paper.nd rfl (Or.inl rfl) (qaa ((ok_mix T).mono (by decide)) hr rfl T.m_mix T.F_mix.kp T.b_mix .nil qag (qa0 (pv 0) (qa0 qa5 (qa0 qa5 qa2)))))
  (qa3 (qce (qbc (PW.pt (pw_and (qak op_lt (pv 9) qa5 (qap _)) (pw_and1 (qak qdx (pv 1) qdo (qap _))))) (qa6 (qad (i:=8) sc_paper.nd rfl (Or.inl rfl) (qc1 (qa0 (qal qb4 (pv 1) qa5 (fun _ _=>rfl)) (qa0 (qal qb4 (pv 1) qa5 (fun _ _=>rfl)) (qa0 (qc2 qdl rfl T.z_list PyProof.Rows.boot_list (qa0 (qal qb4 (pv 1) qa5 (fun _ _=>rfl)) qa2)) qa2)))))) qan))
  (qa3 (qbc (qak qd3 (pv 9) qa5 (qap _)) (qa6 (qaj (qc1 (qa0 (qah qg2 (qal qai (pv 2) (pv 6) (fun _ _=>rfl)) qck) (qa0 (qal qb4 (pv 8) qa5 (fun _ _=>rfl)) (qa0 (qal qb4 (pv 8) qa5 (fun _ _=>rfl)) qa2)))))) qan)
  (qa3 (qbc (qak qd3 (pv 9) qa5 (qap _)) (qa6 (qaj (qc1 (qa0 (qal qb4 (pv 8) qa5 (fun _ _=>rfl)) (qa0 (qah qg2 (qal qai (pv 3) (pv 7) (fun _ _=>rfl)) qck) (qa0 (qal qb4 (pv 8) qa5 (fun _ _=>rfl)) qa2)))))) qan)
  (qa3 (qbc (qak qd3 (qah qc3 (pv 9) qa5) qa5 (qap _)) (qa6 (qaj (qc1 (qa0 (qal qb4 (pv 8) qa5 (fun _ _=>rfl)) (qa0 (qal qb4 (pv 8) qa5 (fun _ _=>rfl)) (qa0 (qaa ((ok_spoiled T).mono (by decide)) hr rfl T.m_spoiled T.F_spoiled.kp T.b_spoiled .nil qag (qa0 (pv 0) (qa0 (qal qb4 (pv 8) qa5 (fun _ _=>rfl)) qa2))) qa2)))))) qan)
  (qa6 (qaj (pv 8))))))))))),?_⟩
 walk_at "d"
 refine qaf (σ:=[some (.int c),some (y),some (.ref ln),some (.ref lw),some (.ref le),some (.ref lr),none,none,none,none]) rfl ?_
 have hln:=hO.ln
 have hlw:=hO.lw
 have w3:=hO.w3
 have n12:=hO.n12
 have nl:(((P.nm.map V.str).length:Nat):Int)=((P.nm.length:Nat):Int):=by rw [zB]
 have wl:(((P.ws.map V.str).length:Nat):Int)=((P.ws.length:Nat):Int):=by rw [zB]
 left
 rw [nl]
 refine qbm (by decide) (by decide) (by omega) (by omega) fun ra ra0 ra1=>?_
 obtain⟨g,rfl⟩:=Int.eq_ofNat_of_zero_le ra0
 have hg:g < P.nm.length:=by omega
 left
 rw [wl]
 refine qbm (by decide) (by decide) (by omega) (by omega) fun rj rj0 rj1=>?_
 obtain⟨j,rfl⟩:=Int.eq_ofNat_of_zero_le rj0
 have hj:j < P.ws.length:=by omega
 have xg:atI (P.nm.map V.str) ((g:Nat):Int)=some (.str P.nm[g]):=qar (by rw [zC,zA hg];rfl)
 have xw:atI (P.ws.map V.str) ((j:Nat):Int)=some (.str P.ws[j]):=qar (by rw [zC,zA hj];rfl)
 have g8:=hn8 _ (zJ hg)
 have j8:=hw8 _ (zJ hj)
 generalize P.nm[g]=zg at*
 generalize P.ws[j]=zj at*
 left
 refine qb0 (SqL.of hln) xg ?_
 left
 refine qb0 (SqL.of hlw) xw ?_
 left
 refine⟨lr,le,Rs,P.es,P.nm.length,P.ws.length,g,j,rfl,hO.lr,hO.r9,hO.rs,hO.le,hO.lo,hO.ne,hO.n12,hj,fun l qs H1 s1 hl el hqs hqn=>?_⟩
 have ql:qs.length≤9:=by
  have e':=congrArg List.length hqn
  unfold prN takR at e'
  rw [zB,zB] at e'
  have h1:=zU (fun R:Rw=>decide (0 < psN R j) && decide (g∈qac (elN P.es) R.i)) Rs
  have:=hO.r9
  omega
 generalize ((g:Nat):Int)=gi at*
 generalize ((j:Nat):Int)=ji at*
 left
 rename_i p1 hp1
 have hx1:PpAt (upd H1 p1 (.tup [.str zg,.str zj,.ref l])) ⟨p1,l,zg,zj,qs⟩:=⟨qa1,qa4 el hp1,fun p hp=>qa4 (hqs p hp).1 hp1⟩
 have s2:=s1.trans (qa8 hp1 (.tup [.str zg,.str zj,.ref l]))
 have np1:H p1=none:=s1.free hp1
 generalize upd H1 p1 (.tup [.str zg,.str zj,.ref l])=H2 at*
 clear s1 el hqs hqn hp1 ra0 ra1 rj0 rj1
 refine qbm (by decide) (by decide) (by decide) (by decide) fun way w0 w1=>?_
 left
 refine qek (fun σ' H3=>∃x:Pp,σ'=[some (V.int c),some y,some (.ref ln),some (.ref lw),some (.ref le),some (.ref lr),some (.int gi),some (.int ji),some (.ref x.p),some (.int way)]∧qaq H H3∧PpAt H3 x∧H x.p=none∧H x.l=none∧x.ps.length≤9) ?_ ?_
 ·rcases hy with rfl|⟨x0,rfl,hx0,l0⟩
  ·left
   refine i_2 (fun c1=>?_) (fun c1=>?_)
   ·left
    exact⟨⟨p1,l,zg,zj,qs⟩,rfl,s2,hx1,np1,hl,ql⟩
   ·left
    exact⟨⟨p1,l,zg,zj,qs⟩,rfl,s2,hx1,np1,hl,ql⟩
  ·have ht:=s2 _ _ hx0.tup
   have hl0:=s2 _ _ hx0.lst
   left
   refine i_2 (fun c1=>?_) (fun c1=>?_)
   ·left
    refine qfx (SqL.of hl0) fun l2 hl2=>?_
    left
    rename_i p2 hp2
    exact⟨⟨p2,l2,x0.z,x0.w,x0.ps⟩,rfl,qb7 (qb7 s2 hl2) hp2,⟨qa1,qa4 qa1 hp2,fun p hp=>qa4 (qa4 (s2 _ _ (hx0.prs p hp)) hl2) hp2⟩,(qb7 s2 hl2).free hp2,s2.free hl2,l0⟩
   ·left
    exact⟨⟨p1,l,zg,zj,qs⟩,rfl,s2,hx1,np1,hl,ql⟩
 rintro σ' H3 ⟨x,rfl,s3,hx,np,nl',l9⟩
 have ht:=hx.tup
 have hln3:=s3 _ _ hln
 have hlw3:=s3 _ _ hlw
 clear hx1 np1 s2 hln hlw hy
 left
 refine i_2 (fun c4=>?_) (fun c4=>?_)
 ·left
  refine qb0 (SqL.of hln3) xg ?_
  left
  rename_i p4 hp4
  exact q ⟨p4,x.l,_,_,x.ps⟩ _ (qb7 s3 hp4) ⟨qa1,qa4 hx.lst hp4,fun p hp=>qa4 (hx.prs p hp) hp4⟩ (s3.free hp4) nl'
 left
 refine i_2 (fun c5=>?_) (fun c5=>?_)
 ·left
  refine qb0 (SqL.of hlw3) xw ?_
  left
  rename_i p4 hp4
  exact q ⟨p4,x.l,_,_,x.ps⟩ _ (qb7 s3 hp4) ⟨qa1,qa4 hx.lst hp4,fun p hp=>qa4 (hx.prs p hp) hp4⟩ (s3.free hp4) nl'
 left
 refine i_2 (fun c6=>?_) (fun c6=>?_)
 ·left
  refine⟨c,x.l,x.ps,rfl,hx.lst,hx.prs,l9,fun l' qs' H4 s4 hl' el' hq'=>?_⟩
  left
  rename_i p4 hp4
  exact q ⟨p4,l',x.z,x.w,qs'⟩ _ (qb7 (s3.trans s4) hp4) ⟨qa1,qa4 el' hp4,fun p hp=>qa4 (hq' p hp) hp4⟩ ((s3.trans s4).free hp4) (s3.free hl')
 ·left
  exact q x H3 s3 hx np nl'
theorem bar_due {H0 H1 Ha Hb:Hp} {S:Ts} {P:PL} {bs:List Ob} {Rs:List Rw} {h e:Nat} {ss:List Str} {x y:V} (nd:P.ws.Nodup) (hbs:bs.map (·.R)=Rs.map (rrOf P.ws)) (hl:∀R∈Rs,R.ps.length=P.ws.length∧∀p∈R.ps,PpOk p) (hx:BarN H0 H1 S P bs h e ss x) (hy:DueN Ha Hb P Rs h e ss (barR S P bs h) y):(x=.non∧y=.non)∨∃a b:Pp,x=.ref a.p∧y=.ref b.p∧PpAt H1 a∧PpAt Hb b∧a.z=b.z∧a.w=b.w∧prN a.ps=prN b.ps:=by
 rcases hx with ⟨rfl,n1⟩ |⟨a,b,i,w,p,l,ps,rfl,f1,hp,hl1,hps,_,_,en⟩
 ·rcases hy with ⟨rfl,_⟩ |⟨a',b',i',j,hj,r,m,qs,rfl,f2,_⟩
  ·exact .inl ⟨rfl,rfl⟩
  ·exact absurd (n1 i' (zD f2.ha) _ (zD f2.hb)) (by have:=f2.ng;omega)
 ·rcases hy with ⟨rfl,n2⟩ |⟨a',b',i',j,hj,r,m,qs,rfl,f2,hr,hm,hqs,nm,en2⟩
  ·exact absurd (n2 i (zD f1.ha) _ (zD f1.hb)) (by have:=f1.ng;omega)
  ·obtain⟨ei,ew⟩:=f1.one f2
   subst ei ew
   rw [use_take hj nd i hbs hl] at en
   exact .inr ⟨⟨p,l,_,_,ps⟩,⟨r,m,_,_,qs⟩,rfl,rfl,⟨hp,hl1,hps⟩,⟨hr,hm,fun q hq=>(hqs q hq).1⟩,rfl,rfl,en.trans en2.symm⟩
theorem ppEq_same {x y:Pp} (h:x.z=y.z∧x.w=y.w∧prN x.ps=prN y.ps):ppEq x y=true:=by
 unfold ppEq
 rw [decide_eq_true h.1,decide_eq_true h.2.1,decide_eq_true h.2.2];rfl
def sp_right (K:Frag) (d:Ad):Sp:=fun vs H Q _=>∃(t lh:Addr) (S:Ts) (P:PL) (bs:List Ob) (Rs:List Rw) (h e:Nat) (ss:List Str) (x:Pp) (y:V) (Ha Hb:Hp),vs=[.ref t,.ref lh,.str (nmF P h),.str (nmF P e),.ref x.p,y]∧WdAt K d H t lh S P bs P.nm.length∧P.nm.length≤12∧h < P.nm.length∧e < P.nm.length∧ss.Nodup∧(∀w,w∈ss↔useF P bs h w≠none)∧PyProof.Rows.sortedS ss=true∧ss.length≤6∧PpAt H x∧
 P.ws.Nodup∧bs.map (·.R)=Rs.map (rrOf P.ws)∧(∀R∈Rs,R.ps.length=P.ws.length∧∀p∈R.ps,PpOk p)∧DueN Ha Hb P Rs h e ss (barR S P bs h) y∧qaq Hb H∧(∀p,y=.ref p→x.p≠p)∧∀H',qaq H H'→Q (.bl true) H'
include T in
theorem ok_right:FnOk P w K mg base CX0 23 d.f_right d.fd_right ["_law_tree_here","_law_holds","_law_home","_law_elder","_law_paper_here","_law_due"] (sp_right K d):=by
 refine T.F_right.ok sc_right (fun vs H Q E h=>?_) (fun cdv A outer s H vs Q E hr h=>?_)
 ·obtain⟨t,lh,S,P,bs,Rs,h,e,ss,x,y,Ha,Hb,rfl,_⟩:=h;rfl
 obtain⟨t,lh,S,P,bs,Rs,h,e,ss,x,y,Ha,Hb,rfl,hW,n12,hn,en,snd,smem,ssort,s6,hx,wn,hbs,hl,hy,sb,ne,q⟩:=h
 refine⟨_,(qa3 (qad (i:=6) sc_right.nd rfl (Or.inl rfl) (qc1 (qa0 (qal qb4 (pv 4) qa5 (fun _ _=>rfl)) (qa0 (qal qb4 (pv 4) qa5 (fun _ _=>rfl)) (qa0 (qc2 qdl rfl T.z_list PyProof.Rows.boot_list (qa0 (qal qb4 (pv 4) qa5 (fun _ _=>rfl)) qa2)) qa2)))))
  (qa3 (qad (i:=7) sc_right.nd rfl (Or.inl rfl) (qaa ((ok_is_bar T).mono (by decide)) hr rfl T.m_is_bar T.F_is_bar.kp T.b_is_bar .nil qag (qa0 (pv 0) (qa0 (pv 1) (qa0 (pv 2) (qa0 (pv 3) (qa0 (pv 6) qa2)))))))
  (qa3 (qbc (PW.pt (pw_or (qak (op_neD (hu8 hr)) (pv 6) (pv 4) (qap _)) (pw_or1 (qd9 (qci (qae qc5 rfl T.z_isinstance PyProof.Rows.boot_isinstance (qa0 (pv 7) (qa0 (qdb (v:=.ty "bool") rfl T.z_bool PyProof.Rows.boot_bool rfl) qa2)))))))) (qa6 (qaj pe_bl)) qan)
  (qa6 (qaj (qd1 qd3 (pv 7) (pe_and (qd1 qdx (pv 5) qdo (qap _)) (pe_one (qd1 (op_eqD (hu8 hr)) (pv 4) (pv 5) (qap _)))) (qap _))))))),?_⟩
 walk_at "d"
 refine qaf (σ:=[some (.ref t),some (.ref lh),some (.str (nmF P h)),some (.str (nmF P e)),some (.ref x.p),some (y),none,none]) rfl ?_
 have ht:=hx.tup
 left
 refine qfx (SqL.of hx.lst) fun l2 hl2=>?_
 left
 rename_i p2 hp2
 have s2:=qb7 (qa8 hl2 (.lst (prV x.ps))) hp2 (o:=.tup [.str x.z,.str x.w,.ref l2])
 have hh:PpAt (upd (upd H l2 (.lst (prV x.ps))) p2 (.tup [.str x.z,.str x.w,.ref l2])) ⟨p2,l2,x.z,x.w,x.ps⟩:=⟨qa1,qa4 qa1 hp2,fun p hp=>qa4 (qa4 (hx.prs p hp) hl2) hp2⟩
 have n2:p2≠x.p:=(qa7 (qa4 (o':=.lst (prV x.ps)) hx.tup hl2) hp2).symm
 generalize upd (upd H l2 (.lst (prV x.ps))) p2 (.tup [.str x.z,.str x.w,.ref l2])=H2 at*
 have hx2:=hx.same s2
 refine⟨t,lh,S,P,bs,P.nm.length,h,e,ss,⟨p2,l2,x.z,x.w,x.ps⟩,rfl,hW.same s2,n12,hn,en,snd,smem,ssort,s6,hh,fun y2 k H3 s3 hy2 k0 k1=>?_⟩
 have hh3:=hh.same s3
 have hx3:=hx2.same s3
 left
 refine r_neD n2 (by decide) (deq_pp hh3 hx3 n2) ?_
 rw [show ppEq ⟨p2,l2,x.z,x.w,x.ps⟩ x=true from ppEq_same ⟨rfl,rfl,rfl⟩]
 left
 rcases bar_due wn hbs hl hy2 hy with ⟨rfl,rfl⟩ |⟨a,b,rfl,rfl,ha,hb,ez,ew,ep⟩
 ·rw [k0 rfl]
  left
  exact q _ (s2.trans s3)
 ·have nb:=ne b.p rfl
  have hb3:=hb.same (sb.trans (s2.trans s3))
  have ek:k=ppEq x b:=by rw [k1 a rfl ha,ppEq_r (z:=b) ⟨ez,ew,ep⟩];exact ppEq_l ⟨rfl,rfl,rfl⟩
  rw [ek]
  left
  refine r_eqD nb (by decide) (deq_pp hx3 hb3 nb) ?_
  left
  rw [decide_eq_true rfl]
  exact q _ (s2.trans s3)
theorem deq_ints {K:Frag} {H:Hp} {n:Nat}:∀(ns:List Int),DEqs K H n (ns.map V.int) (ns.map V.int)
 | []=>trivial
 |x :: ns=>⟨deq_intF _,deq_ints ns⟩
theorem bar_keys {P:PL} {bs:List Ob} {Rs:List Rw} (nd:P.ws.Nodup) (w3:P.ws.length≤3) (hbs:bs.map (·.R)=Rs.map (rrOf P.ws)) (hl:∀R∈Rs,R.ps.length=P.ws.length∧∀p∈R.ps,PpOk p) (h:Nat):∃ss:List Str,ss.Perm (qbu (tdK (P.ws.zip (mvN P Rs h))))∧PyProof.Rows.sortedS ss=true∧ss.Nodup∧(∀w,w∈ss↔useF P bs h w≠none)∧ss.length≤6:=by
 obtain⟨ss,hp,hs⟩:=sort_ex (qbu (tdK (P.ws.zip (mvN P Rs h))))
 refine⟨ss,hp,hs,hp.nodup_iff.mpr (qfp _).knd,fun w=>hp.mem_iff.trans (use_keys nd hbs hl h w),?_⟩
 have e1:=hp.length_eq
 have e2:=(qfp (P.ws.zip (mvN P Rs h))).klen
 have e3:(tdK (P.ws.zip (mvN P Rs h))).length≤0+(P.ws.zip (mvN P Rs h)).length:=qfo (P.ws.zip (mvN P Rs h)) []
 have e4:(P.ws.zip (mvN P Rs h)).length≤P.ws.length:=by rw [yU];omega
 omega
def ppV (xs:List Pp):List V:=xs.map fun x=> .ref x.p
structure PsAt (H0 H:Hp) (lp:Addr) (xs:List Pp):Prop where
 lst:H lp=some (.lst (ppV xs))
 row:∀x∈xs,PpAt H x∧x.l≠lp∧H0 x.p=none
theorem PpAt.put {H:Hp} {lp:Addr} {vs ws:List V} {x:Pp} (h:PpAt H x) (hl:H lp=some (.lst vs)) (ne:x.l≠lp):PpAt (upd H lp (.lst ws)) x:=by
 have n1:x.p≠lp:=fun e=>by have:=h.tup;rw [e,hl] at this;cases this
 refine⟨by rw [qa9 n1];exact h.tup,by rw [qa9 ne];exact h.lst,fun p hp=>?_⟩
 have h2:=h.prs p hp
 unfold qc8 at h2 ⊢
 have n2:p.a≠lp:=fun e=>by rw [e,hl] at h2;cases h2
 rw [qa9 n2]
 exact h2
theorem PsAt.put {H0 H H1:Hp} {lp:Addr} {xs:List Pp} {x:Pp} (h:PsAt H0 H lp xs) (s:qaq H H1) (hx:PpAt H1 x) (np:H0 x.p=none) (nl:x.l≠lp):PsAt H0 (upd H1 lp (.lst (ppV xs++ [.ref x.p]))) lp (xs++ [x]):=by
 have hl:=s _ _ h.lst
 refine⟨by rw [qa1];unfold ppV;rw [zE];rfl,fun z hz=>?_⟩
 rcases zN.mp hz with hz|hz
 ·obtain⟨g1,g2,g3⟩:=h.row z hz
  exact⟨(g1.same s).put hl g2,g2,g3⟩
 ·rw [zH.mp hz]
  exact⟨hx.put hl nl,nl,np⟩
theorem PsAt.same {H0 H H':Hp} {lp:Addr} {xs:List Pp} (h:PsAt H0 H lp xs) (s:qaq H H'):PsAt H0 H' lp xs:=⟨s _ _ h.lst,fun x hx=>⟨(h.row x hx).1.same s,(h.row x hx).2⟩⟩
theorem ppV_len (xs:List Pp):(ppV xs).length=xs.length:=by unfold ppV;rw [zB]
theorem DuV.same {H H':Hp} {y:V} (h:DuV H y) (s:qaq H H'):DuV H' y:=by
 rcases h with h|⟨x,e,hx,l⟩
 ·exact .inl h
 ·exact .inr ⟨x,e,hx.same s,l⟩
theorem DueN.duv {H0 H H1:Hp} {P:PL} {Rs:List Rw} {h e:Nat} {ss:List Str} {rm:Nat→Str→Int} {y:V} {ln lw le lc lr:Addr} {cs:List Pq} (hy:DueN H0 H P Rs h e ss rm y) (hO:Wp H1 ln lw le lc lr P Rs cs):DuV H y:=by
 rcases hy with ⟨rfl,_⟩ |⟨a,b,i,j,hj,p,l,qs,rfl,f,h1,h2,h3,_,en⟩
 ·exact .inl rfl
 ·refine .inr ⟨⟨p,l,_,_,qs⟩,rfl,⟨h1,h2,fun q hq=>(h3 q hq).1⟩,?_⟩
  have e':=congrArg List.length en
  unfold prN takR at e'
  rw [zB,zB] at e'
  have h1:=zU (fun R:Rw=>decide (0 < psN R j) && decide (i∈qac (elN P.es) R.i)) Rs
  have:=hO.r9
  show qs.length≤9
  omega
def sp_law0 (K:Frag):Sp:=fun vs H Q _=>∃(a:Addr) (ns:List Int),vs=[.ref a]∧SqL K H a (ns.map V.int)∧ns.length≤63∧∀H',Q (.bl true) H'
def sp_law (K:Frag) (d:Ad):Sp:=sp_law0 K
include T in
theorem ok_law:FnOk P w K mg base CX0 24 d.f_law d.fd_law ["_law_script"] (sp_law K d):=by
 refine T.F_law.ok sc_law (fun vs H Q E h=>?_) (fun cdv A outer s H vs Q E hr h=>?_)
 ·obtain⟨a,ns,rfl,_⟩:=h;rfl
 obtain⟨a,ns,rfl,hS,h63,q⟩:=h
 refine⟨_,(qa3 (qad (i:=1) sc_law.nd rfl (Or.inl rfl) (qah qas qa5 (qaa ((ok_mix T).mono (by decide)) hr rfl T.m_mix T.F_mix.kp T.b_mix .nil qag (qa0 (qaa ((ok_cell T).mono (by decide)) hr rfl T.m_cell T.F_cell.kp T.b_cell .nil qag (qa0 (pv 0) (qa0 qa5 qa2))) (qa0 qa5 (qa0 qa5 qa2))))))
  (qa3 (qce (qbc (qak qd3 (qaa ((ok_mix T).mono (by decide)) hr rfl T.m_mix T.F_mix.kp T.b_mix .nil qag (qa0 (qaa ((ok_cell T).mono (by decide)) hr rfl T.m_cell T.F_cell.kp T.b_cell .nil qag (qa0 (pv 0) (qa0 qa5 qa2))) (qa0 qa5 (qa0 qa5 qa2)))) qa5 (qap _)) (qa6 (qad (i:=1) sc_law.nd rfl (Or.inl rfl) qa5)) qan))
  (qa3 (qad (i:=2) sc_law.nd rfl (Or.inl rfl) (qah qas qa5 (qaa ((ok_mix T).mono (by decide)) hr rfl T.m_mix T.F_mix.kp T.b_mix .nil qag (qa0 (qaa ((ok_cell T).mono (by decide)) hr rfl T.m_cell T.F_cell.kp T.b_cell .nil qag (qa0 (pv 0) (qa0 qa5 qa2))) (qa0 qa5 (qa0 qa5 qa2))))))
  (qa3 (qad (i:=3) sc_law.nd rfl (Or.inr rfl) (qaa ((ok_names T).mono (by decide)) hr rfl T.m_names T.F_names.kp T.b_names .nil qag (qa0 (qaa ((ok_cell T).mono (by decide)) hr rfl T.m_cell T.F_cell.kp T.b_cell .nil qag (qa0 (pv 0) (qa0 qa5 qa2))) (qa0 (pv 1) qa2))))
  (qa3 (qad (i:=4) sc_law.nd rfl (Or.inr rfl) (qaa ((ok_names T).mono (by decide)) hr rfl T.m_names T.F_names.kp T.b_names .nil qag (qa0 (qaa ((ok_cell T).mono (by decide)) hr rfl T.m_cell T.F_cell.kp T.b_cell .nil qag (qa0 (pv 0) (qa0 qa5 qa2))) (qa0 (pv 2) qa2))))
  (qa3 (qad (i:=5) sc_law.nd rfl (Or.inr rfl) (qaa ((ok_elders T).mono (by decide)) hr rfl T.m_elders T.F_elders.kp T.b_elders .nil qag (qa0 (pv 0) (qa0 qa5 (qa0 (pv 1) qa2)))))
  (qa3 (qad (i:=6) sc_law.nd rfl (Or.inr rfl) (qaa ((ok_rows T).mono (by decide)) hr rfl T.m_rows T.F_rows.kp T.b_rows .nil qag (qa0 (pv 0) (qa0 qa5 (qa0 (pv 1) (qa0 (pv 2) qa2))))))
  (qa3 (ps_asg (qaa ((ok_move T).mono (by decide)) hr rfl T.m_move T.F_move.kp T.b_move .nil qag (qa0 (qaa ((ok_cell T).mono (by decide)) hr rfl T.m_cell T.F_cell.kp T.b_cell .nil qag (qa0 (pv 0) (qa0 qa5 qa2))) (qa0 (pv 5) qa2))) (pg_lst rfl (qbl (qam (i:=7) sc_law.nd rfl (Or.inl rfl)) (qbl (qam (i:=8) sc_law.nd rfl (Or.inl rfl)) qep))))
  (qa3 (qad (i:=9) sc_law.nd rfl (Or.inl rfl) (qaa ((ok_caps T).mono (by decide)) hr rfl T.m_caps T.F_caps.kp T.b_caps .nil qag (qa0 (qaa ((ok_cell T).mono (by decide)) hr rfl T.m_cell T.F_cell.kp T.b_cell .nil qag (qa0 (pv 0) (qa0 qa5 qa2))) (qa0 (pv 5) (qa0 (pv 2) (qa0 (qaa ((ok_least T).mono (by decide)) hr rfl T.m_least T.F_least.kp T.b_least .nil qag (qa0 (pv 6) (qa0 (pv 5) (qa0 (pv 2) (qa0 (pv 7) (qa0 (pv 8) qa2)))))) qa2))))))
  (qa3 (qad (i:=10) sc_law.nd rfl (Or.inl rfl) (qaa ((ok_tree T).mono (by decide)) hr rfl T.m_tree T.F_tree.kp T.b_tree .nil qag (qa0 (qaa ((ok_cell T).mono (by decide)) hr rfl T.m_cell T.F_cell.kp T.b_cell .nil qag (qa0 (pv 0) (qa0 qa5 qa2))) (qa0 (pv 3) (qa0 (pv 4) (qa0 (pv 5) (qa0 (pv 9) qa2)))))))
  (qa3 (qad (i:=11) sc_law.nd rfl (Or.inl rfl) (qaa ((ok_objects T).mono (by decide)) hr rfl T.m_objects T.F_objects.kp T.b_objects .nil qag (qa0 (pv 6) (qa0 (pv 3) (qa0 (pv 4) qa2)))))
  (qa3 (qad (i:=12) sc_law.nd rfl (Or.inr rfl) (qaa ((ok_l_bar T).mono (by decide)) hr rfl T.m_l_bar T.F_l_bar.kp T.b_l_bar .nil qag (qa0 (pv 3) (qa0 (pv 4) (qa0 (pv 5) (qa0 (pv 9) (qa0 (pv 6) (qa0 (pv 7) (qa0 (pv 8) qa2)))))))))
  (qa3 (qdr (j:=13) (caps:=[0,3,4,5,6,12]) (cn:=["_law_script","_law_names_here","_law_wares","_law_elders_here","_law_rows_here","_law_due"]) (qb1 rfl rfl (by rfl) (by rfl) rfl ⟨rfl,⟨rfl,⟨rfl,⟨rfl,⟨rfl,⟨rfl,trivial⟩⟩⟩⟩⟩⟩ (by rfl) rfl ⟨⟨rfl,rfl,rfl,rfl,_,rfl⟩,⟨⟨rfl,rfl,rfl,rfl,_,rfl⟩,⟨⟨rfl,rfl,rfl,rfl,_,rfl⟩,⟨⟨rfl,rfl,rfl,rfl,_,rfl⟩,⟨⟨rfl,rfl,rfl,rfl,_,rfl⟩,⟨⟨rfl,rfl,rfl,rfl,_,rfl⟩,trivial⟩⟩⟩⟩⟩⟩ (by decide)) rfl sc_law.nd rfl rfl (qeo rfl T.z_range (qa0 qa5 (qa0 qa5 qa2))) (fun _ _ _ _=>qcj) (fun _ _ _ _=>(qaa ((ok_paper T).mono (by decide)) hr rfl T.m_paper T.F_paper.kp T.b_paper .nil qag (qa0 (qaa ((ok_cell T).mono (by decide)) hr rfl T.m_cell T.F_cell.kp T.b_cell .nil qag (qa0 (pv 1) (qa0 (pv 0) qa2))) (qa0 (pv 6) (qa0 (pv 2) (qa0 (pv 3) (qa0 (pv 4) (qa0 (pv 5) qa2)))))))))
  (qa3 (qce (qbc (qak qdx (pv 12) qdo (qap _)) (qa6 (qay (qd2 PySem.F.plainAttrs_list PySem.F.slot_list_append PySem.F.type_list_append qat (pv 13) (qa0 (qc1 (qa0 (qal qb4 (pv 12) qa5 (fun _ _=>rfl)) (qa0 (qal qb4 (pv 12) qa5 (fun _ _=>rfl)) (qa0 (qfg rfl rfl T.z_list rfl T.z_reversed (qa0 (qal qb4 (pv 12) qa5 (fun _ _=>rfl)) qa2)) qa2)))) qa2)))) qan))
  (qa3 (qb2 PassesOwn.never rfl (qax (qaa ((ok_line T).mono (by decide)) hr rfl T.m_line T.F_line.kp T.b_line .nil qag (qa0 (pv 5) (qa0 (pv 8) qa2)))) (qam (i:=14) sc_law.nd rfl (Or.inl rfl)) (qa6 (qb2 PassesOwn.never rfl (qb8 rfl T.z_range (qa0 (pv 2) qa2)) (qam (i:=15) sc_law.nd rfl (Or.inl rfl)) (qa6 (qay (qd2 PySem.F.plainAttrs_list PySem.F.slot_list_append PySem.F.type_list_append qat (pv 13) (qa0 (qc1 (qa0 (qal qai (pv 3) (pv 14) (fun _ _=>rfl)) (qa0 (qal qai (pv 4) (pv 15) (fun _ _=>rfl)) (qa0 (qaa ((ok_taken T).mono (by decide)) hr rfl T.m_taken T.F_taken.kp T.b_taken .nil qag (qa0 (pv 6) (qa0 (pv 5) (qa0 (pv 14) (qa0 (pv 15) qa2))))) qa2)))) qa2)))))))
  (qa3 (qb2 PassesOwn.never rfl (qax (pv 13)) (qam (i:=16) sc_law.nd rfl (Or.inl rfl)) (qa6 (qbc (qd9 (qci (qaa ((ok_right T).mono (by decide)) hr rfl T.m_right T.F_right.kp T.b_right .nil qag (qa0 (pv 10) (qa0 (pv 11) (qa0 (qal qai (pv 3) (pv 7) (fun _ _=>rfl)) (qa0 (qal qai (pv 3) (pv 8) (fun _ _=>rfl)) (qa0 (pv 16) (qa0 (pv 12) qa2))))))))) (qa6 (qaj pe_bl)) qan)))
  (qa6 (qaj (qd1 (op_eqD (hu8 hr)) (qbp (caps:=[]) (cn:=[]) (qb1 rfl rfl (by rfl) (by rfl) rfl trivial (by rfl) rfl trivial (by decide)) rfl (qax (pv 11)) (fun _ _ _ _=>qcj) (fun _ _ _ _=>(qbh (pv 0) rfl))) (qbp (caps:=[]) (cn:=[]) (qb1 rfl rfl (by rfl) (by rfl) rfl trivial (by rfl) rfl trivial (by decide)) rfl (qax (pv 6)) (fun _ _ _ _=>qcj) (fun _ _ _ _=>(qal qb4 (pv 0) qa5 (fun _ _=>rfl)))) (qap _)))))))))))))))))))),?_⟩
 walk_at "d"
 try dsimp only [cxC]
 refine qaf (σ:=[some (.ref a),none,none,none,none,none,none,none,none,none,none,none,none,none,none,none,none]) rfl ?_
 have ct:=T.CL_Tree
 left
 refine⟨a,ns,1,rfl,hS,by decide,by decide,h63,fun c1=>?_⟩
 left
 refine qbm (by decide) (by decide) (by decide) (by decide) fun r1 r10 r11=>?_
 left
 refine qek (fun σ' H'=>H'=H∧∃nh:Nat,σ'=[some (V.ref a),some (V.int (nh:Int)),none,none,none,none,none,none,none,none,none,none,none,none,none,none,none]∧2≤nh∧nh≤12) ?_ ?_
 ·left
  refine⟨a,ns,1,rfl,hS,by decide,by decide,h63,fun c1'=>?_⟩
  left
  refine qbm (by decide) (by decide) (by decide) (by decide) fun r2 _ _=>?_
  left
  refine i_2 (fun c=>?_) (fun c=>?_)
  ·left
   exact⟨rfl,12,rfl,by decide,by decide⟩
  ·left
   exact⟨rfl,(2+r1).toNat,by rw [Int.toNat_of_nonneg (by omega)],by omega,by omega⟩
 rintro σ' H' ⟨rfl,nh,rfl,n2,n12⟩
 have n1:1≤nh:=by omega
 clear r10 r11
 left
 refine⟨a,ns,1,rfl,hS,by decide,by decide,h63,fun c2=>?_⟩
 left
 refine qbm (by decide) (by decide) (by decide) (by decide) fun r3 r30 r31=>?_
 obtain⟨kd,ekd⟩:∃kd:Nat,1+r3=(kd:Int):=⟨(1+r3).toNat,by omega⟩
 have k1:1≤kd:=by omega
 have k3:kd≤3:=by omega
 left
 rw [ekd]
 clear ekd r30 r31
 left
 refine⟨a,ns,0,rfl,hS,by decide,by decide,h63,fun c3=>?_⟩
 left
 refine⟨c3,(nh:Int),rfl,by omega,by omega,fun ln nm H1 s1 eln hnm=>?_⟩
 rw [Int.toNat_natCast] at hnm
 have hS1:=s1.seq hS
 left
 refine⟨a,ns,2,rfl,hS1,by decide,by decide,h63,fun c4=>?_⟩
 left
 refine⟨c4,(kd:Int),rfl,by omega,by omega,fun lw ws H2 s2 elw hws=>?_⟩
 rw [Int.toNat_natCast] at hws
 have hS2:=s2.seq hS1
 have eln2:=s2 _ _ eln
 left
 refine⟨a,ns,3,nh,rfl,hS2,h63,by decide,by decide,n1,n12,fun le es H3 s3 ele hes hlo=>?_⟩
 have hS3:=s3.seq hS2
 have eln3:=s3 _ _ eln2
 have elw3:=s3 _ _ elw
 left
 refine⟨a,ns,10,nh,kd,rfl,hS3,h63,by decide,by decide,n1,n12,k1,k3,fun lr Rs H4 s4 elr hR9 hR=>?_⟩
 have hS4:=s4.seq hS3
 have eln4:=s4 _ _ eln3
 have elw4:=s4 _ _ elw3
 have ele4:=s4 _ _ ele
 clear hS1 hS2 hS3 eln eln2 eln3 elw elw3 ele s1 s2 s3 s4 hS
 have lo1:∀(k e:Nat),es[k]?=some e→e≤k:=fun k e h=>(hlo k e h).1
 left
 refine⟨a,ns,20,rfl,hS4,by decide,by decide,h63,fun c5=>?_⟩
 left
 refine⟨c5,le,es,rfl,ele4,lo1,by omega,by omega,fun lm h e H5 s5 elm hh he=>?_⟩
 have hS5:=s5.seq hS4
 have eln5:=s5 _ _ eln4
 have elw5:=s5 _ _ elw4
 have ele5:=s5 _ _ ele4
 have elr5:=s5 _ _ elr
 have hR5:∀R∈Rs,RwAt H5 nh kd R:=fun R h=>(hR R h).same s5
 clear hS4 eln4 elw4 ele4 elr hR s5
 generalize hni:((nh:Nat):Int)=ni at*
 generalize hkd:((kd:Nat):Int)=kdi at*
 generalize hhi:((h:Nat):Int)=hi at*
 generalize hei:((e:Nat):Int)=ei at*
 left
 refine⟨a,ns,21,rfl,hS5,by decide,by decide,h63,fun c6=>?_⟩
 left
 refine⟨lr,le,Rs,es,nh,kd,h,e,by rw [hkd,hhi,hei],elr5,hR9,hR5,ele5,lo1,by omega,n12,k3,by omega,by omega,fun lk lq H6 s6 elk hql hLq=>?_⟩
 have hS6:=s6.seq hS5
 have eln6:=s6 _ _ eln5
 have elw6:=s6 _ _ elw5
 have ele6:=s6 _ _ ele5
 have elr6:=s6 _ _ elr5
 have hR6:∀R∈Rs,RwAt H6 nh kd R:=fun R h=>(hR5 R h).same s6
 clear hS5 eln5 elw5 ele5 elr5 hR5 s6 elm
 left
 refine⟨c6,le,lk,lq,es,kd,by rw [hkd],ele6,by omega,k1,k3,elk,by omega,hLq,fun lc cs H7 s7 elc hcl hCs=>?_⟩
 have hS7:=s7.seq hS6
 have eln7:=s7 _ _ eln6
 have elw7:=s7 _ _ elw6
 have ele7:=s7 _ _ ele6
 have elr7:=s7 _ _ elr6
 have hR7:∀R∈Rs,RwAt H7 nh kd R:=fun R h=>(hR6 R h).same s7
 clear hS6 eln6 elw6 ele6 elr6 hR6 s7 elk hLq hql
 have wl:=hws.len
 have nl:=hnm.len
 subst wl
 left
 refine⟨a,ns,4,rfl,hS7,by decide,by decide,h63,fun c9=>?_⟩
 left
 refine⟨c9,ln,lw,le,lc,cs,nm,ws,es,rfl,eln7,elw7,ele7,elc,by omega,hCs,by rw [show es.length+1=nh by omega];exact hnm,hws,k1,k3,by omega,hlo,fun t S P wt H8 s8 enm ews ees etc pf hT hI=>?_⟩
 subst enm ews ees
 have hS8:=s8.seq hS7
 have eln8:=s8 _ _ eln7
 have elw8:=s8 _ _ elw7
 have ele8:=s8 _ _ ele7
 have elr8:=s8 _ _ elr7
 have elc8:=s8 _ _ elc
 have hCs8:=hCs.same s8
 have hR8:∀R∈Rs,RwAt H8 P.nm.length P.ws.length R:=fun R h=>by
  have:=(hR7 R h).same s8
  rw [nl]
  exact this
 clear hS7 eln7 elw7 ele7 elr7 hR7 elc hCs s8
 left
 refine⟨lr,ln,lw,P,Rs,rfl,elr8,eln8,elw8,k3,hR9,hR8,fun lh bs H9 s9 elh hbs hB=>?_⟩
 have hbl:bs.length=Rs.length:=by have:=congrArg List.length hbs;rw [zB,zB] at this;exact this
 have hWd:WdAt K d H9 t lh S P bs P.nm.length:=⟨hT.same s9,hI.pl.wf,hI.pl,rfl,fun j hj=>by
  obtain⟨e,ae,_,_⟩:=hI.pl.at hj
  exact⟨⟨e,ae⟩,hI.pl.dep 12 j hj (by have:=pf.n12;omega)⟩,k3,elh,by omega,hB⟩
 have hS9:=s9.seq hS8
 have hnl:P.nm.length=nh:=nl
 have hcn:cs.length=P.nm.length:=by omega
 have hw3:P.nm.length≤12:=by omega
 have hne:P.nm.length=P.es.length+1:=by omega
 have lo1:∀(k e:Nat),P.es[k]?=some e→e≤k:=fun k e h=>(hlo k e h).1
 have hO:Wp H9 ln lw le lc lr P Rs cs:=⟨s9 _ _ eln8,s9 _ _ elw8,s9 _ _ ele8,s9 _ _ elc8,s9 _ _ elr8,hcn,hCs8.same s9,fun R h=>(hR8 R h).same s9,hR9,lo1,hne,hw3,k3,hws.nd⟩
 have hl:∀R∈Rs,R.ps.length=P.ws.length∧∀p∈R.ps,PpOk p:=fun R h=>⟨(hR8 R h).len,(hR8 R h).nn⟩
 have hrx:∀(hm:Nat) i,i < P.nm.length→∀(j:Nat) (hj:j < P.ws.length),barR S P bs hm i P.ws[j]=atQ cs i j - qc6 (elN P.es) Rs i j - qc6 (elN P.es) Rs hm j:=fun hm i hi' j hj=>bar_eq hm hI pf rfl hi' hj etc hcn hCs8 hbs hl
 have xa:∀a,a < P.nm.length→atI (P.nm.map V.str) ((a:Nat):Int)=some (.str (nmF P a)):=fun a ha=>by rw [qdz ha];exact qar (by rw [zC,zA ha];rfl)
 have xh:=xa h (by omega)
 have xe:=xa e (by omega)
 rw [hhi] at xh
 rw [hei] at xe
 obtain⟨sA,pA,kA⟩:=bar_keys hws.nd k3 hbs hl h
 have hn8:∀z∈P.nm,z.length≤8:=fun z hz=>(qg6 (hnm.good z hz)).2.1
 have hw8:∀z∈P.ws,z.length≤8:=fun z hz=>(qg6 (hws.good z hz)).2.1
 clear hS8 eln8 elw8 ele8 elr8 elc8 hCs8 hR8 s9 hT hB elh etc hcl hI
 left
 refine⟨ln,lw,le,lc,lr,P,Rs,cs,h,e,sA,_,by rw [hhi,hei],hO,by omega,by omega,pA,kA.1,hrx h,fun y H10 s10 hy=>?_⟩
 have hO10:=hO.same s10
 have hWd10:=hWd.same s10
 have hS10:=s10.seq hS9
 have hdu:DuV H10 y:=hy.duv hO
 clear hO hWd hS9 hrx
 left
 unfold iRng2
 left
 refine⟨22,25,rfl,⟨by decide,by decide,by decide,by decide⟩,?_⟩
 intro C s0 H0 fp acc hacc
 refine qf7 3 (fun i H'=>∃xs:List Pp,qaq H10 H'∧PsAt H10 H' acc xs∧xs.length≤i) ⟨[],qa8 hacc _,⟨qa1,fun x hx=>by simp at hx⟩,Nat.le_refl _⟩ ?_ ?_ ?_ ?_
 ·rintro i H' hi' _
  exact hi'
 ·rintro H' _
  exact Nat.le_refl _
 ·rintro i H' v H'' hi' ⟨xs,sm,hP,hx3⟩ ⟨rfl,rfl⟩
  left
  refine⟨a,ns,22+((i:Nat):Int),rfl,sm.seq hS10,by omega,by omega,h63,fun c12=>?_⟩
  left
  refine⟨c12,y,ln,lw,le,lc,lr,P,Rs,cs,rfl,hO10.same sm,by omega,k1,hn8,hw8,hdu.same sm,fun x H11 s11 hx np nl2=>?_⟩
  left
  exact⟨_,s11 _ _ hP.lst,by rw [ppV_len];show _ < 16777216;omega,xs++ [x],qav (sm.trans s11) hacc,hP.put s11 hx (sm.free np) (qa7 hP.lst nl2).symm,by rw [zG];simp;omega⟩
 rintro H11 ⟨xs,s11,hP,hx3⟩
 left
 refine qek (fun σ' H'=>σ'=[some (V.ref a),some (V.int ni),some (V.int kdi),some (V.ref ln),some (V.ref lw),some (V.ref le),some (V.ref lr),some (V.int hi),some (V.int ei),some (V.ref lc),some (V.ref t),some (V.ref lh),some y,some (V.ref acc),none,none,none]∧∃xs:List Pp,qaq H10 H'∧PsAt H10 H' acc xs∧xs.length≤4) ?_ ?_
 ·rcases id hdu with rfl|⟨x0,rfl,hx0,l0⟩
  ·left
   exact⟨rfl,xs,s11,hP,by omega⟩
  ·have ht:=s11 _ _ hx0.tup
   have hl0:=s11 _ _ hx0.lst
   have hlst:=hP.lst
   have zl:(ppV xs).length < sizeLine:=by rw [ppV_len];show _ < 16777216;omega
   have er:(prV x0.ps).reverse=prV x0.ps.reverse:=by unfold prV;rw [List.map_reverse]
   left
   rename_i pr hpr pp hpp
   have sR:=(qa8 hpr (.lst (prV x0.ps).reverse)).trans (qa8 hpp (.tup [.str x0.z,.str x0.w,.ref pr]))
   have hxR:PpAt (upd (upd H11 pr (.lst (prV x0.ps).reverse)) pp (.tup [.str x0.z,.str x0.w,.ref pr])) ⟨pp,pr,x0.z,x0.w,x0.ps.reverse⟩:=⟨qa1,by show _=some (HO.lst (prV x0.ps.reverse));rw [←er];exact qa4 qa1 hpp,fun p hp=>sR _ _ (s11 _ _ (hx0.prs p (List.mem_reverse.mp hp)))⟩
   exact⟨rfl,xs++ [⟨pp,pr,x0.z,x0.w,x0.ps.reverse⟩],qav (s11.trans sR) hacc,hP.put (x:=⟨pp,pr,x0.z,x0.w,x0.ps.reverse⟩) sR hxR ((qb7 s11 hpr).free hpp) (qa7 hlst hpr).symm,by rw [zG];simp;omega⟩
 rintro σ' H12 ⟨rfl,xs2,s12,hP2,hx4⟩
 clear hP s11 hx3
 have hle12:=(hO10.same s12).le
 left
 refine⟨le,P.es,e,by rw [hei],hle12,lo1,he,by omega,fun ll hll=>?_⟩
 have s13:=qa8 hll (.lst ((qac (elN P.es) e).map iV))
 have e13:upd H12 ll (.lst ((qac (elN P.es) e).map iV)) ll=some (.lst ((qac (elN P.es) e).map iV)):=qa1
 have nla:ll≠acc:=(qa7 hP2.lst hll).symm
 generalize upd H12 ll (.lst ((qac (elN P.es) e).map iV))=H13 at*
 have hP3:=hP2.same s13
 have t13:=s12.trans s13
 have l12:(qac (elN P.es) e).length≤12:=by have:=qcf (qdg lo1 P.nm.length) e (by omega);omega
 have lle:=qcn (qdg lo1 P.nm.length) e (by omega)
 clear hP2 s12 s13 hll hle12
 have kd0:0≤kdi:=by omega
 have kd1:kdi≤3:=by omega
 have hkk:kdi.toNat=P.ws.length:=by omega
 left
 refine qd6 (xs:=(qac (elN P.es) e).map iV) (fun i σ H'=>(∃w1 w2:Option V,σ=[some (V.ref a),some (V.int ni),some (V.int kdi),some (V.ref ln),some (V.ref lw),some (V.ref le),some (V.ref lr),some (V.int hi),some (V.int ei),some (V.ref lc),some (V.ref t),some (V.ref lh),some y,some (V.ref acc),w1,w2,none])∧∃xs:List Pp,qaq H10 H'∧H' ll=some (.lst ((qac (elN P.es) e).map iV))∧PsAt H10 H' acc xs∧xs.length≤4+3*i)
  ⟨⟨_,_,rfl⟩,xs2,t13,e13,hP3,by omega⟩ ?_ ?_ ?_
 ·rintro i σ H' _ ⟨_,xs,_,el,_⟩
  exact SqL.of el
 ·rintro i v σ H' hv ⟨⟨w1,w2,rfl⟩,xs,sm,el,hP,hxl⟩
  rw [zC] at hv
  obtain⟨g,hg,rfl⟩:=Option.map_eq_some_iff.mp hv
  have hi12:=(List.getElem?_eq_some_iff.mp hg).1
  have hgn:g < P.nm.length:=by have:=lle g (zD hg);omega
  have xg:=xa g hgn
  rw [show iV g=V.int ((g:Nat):Int) from rfl]
  left
  rw [hkk]
  refine qby (fun j σ H'=>(∃w2:Option V,σ=[some (V.ref a),some (V.int ni),some (V.int kdi),some (V.ref ln),some (V.ref lw),some (V.ref le),some (V.ref lr),some (V.int hi),some (V.int ei),some (V.ref lc),some (V.ref t),some (V.ref lh),some y,some (V.ref acc),some (V.int (g:Int)),w2,none])∧∃xs:List Pp,qaq H10 H'∧H' ll=some (.lst ((qac (elN P.es) e).map iV))∧PsAt H10 H' acc xs∧xs.length≤4+3*i+j)
   ⟨⟨_,rfl⟩,xs,sm,el,hP,by omega⟩ ?_ ?_
  ·rintro j σ H2 hj ⟨⟨w2,rfl⟩,ys,sm2,el2,hPy,hyl⟩
   rw [Int.zero_add]
   have hO2:=hO10.same sm2
   have eln2:=hO2.ln
   have elw2:=hO2.lw
   have hly:=hPy.lst
   have xw:atI (P.ws.map V.str) ((j:Nat):Int)=some (.str P.ws[j]):=qar (by rw [zC,zA hj];rfl)
   left
   refine qb0 (SqL.of eln2) xg ?_
   left
   refine qb0 (SqL.of elw2) xw ?_
   left
   refine⟨lr,le,Rs,P.es,P.nm.length,P.ws.length,g,j,rfl,hO2.lr,hR9,hO2.rs,hO2.le,lo1,hne,hw3,hj,fun l qs H3 s3 hl3 el3 hqs hqn=>?_⟩
   have hlst:=s3 _ _ hPy.lst
   have zl:(ppV ys).length < sizeLine:=by rw [ppV_len];show _ < 16777216;omega
   left
   rename_i p3 hp3
   have s4:=s3.trans (qa8 hp3 (.tup [.str (nmF P g),.str P.ws[j],.ref l]))
   refine⟨⟨_,rfl⟩,ys++ [⟨p3,l,nmF P g,P.ws[j],qs⟩],qav (sm2.trans s4) hacc,?_,hPy.put (x:=⟨p3,l,nmF P g,P.ws[j],qs⟩) s4 ⟨qa1,qa4 el3 hp3,fun p hp=>qa4 (hqs p hp).1 hp3⟩ ((sm2.trans s3).free hp3) (qa7 hPy.lst hl3).symm,by rw [zG];simp;omega⟩
   rw [qa9 nla]
   exact s4 _ _ el2
  ·rintro σ H2 ⟨⟨w2,rfl⟩,ys,sm2,el2,hPy,hyl⟩
   exact⟨⟨_,_,rfl⟩,ys,sm2,el2,hPy,by omega⟩
 rintro σ H14 ⟨⟨w1,w2,rfl⟩,ys,s14,_,hPy,_⟩
 have hO14:=hO10.same s14
 have hWd14:=hWd10.same s14
 have hyl:=hPy.lst
 clear hO10 hWd10 hS10 hP3 t13 e13
 left
 refine qd6 (xs:=ppV ys) (fun i σ H'=>(∃w3:Option V,σ=[some (V.ref a),some (V.int ni),some (V.int kdi),some (V.ref ln),some (V.ref lw),some (V.ref le),some (V.ref lr),some (V.int hi),some (V.int ei),some (V.ref lc),some (V.ref t),some (V.ref lh),some y,some (V.ref acc),w1,w2,w3])∧qaq H14 H')
  ⟨⟨_,rfl⟩,fun _ _ h=>h⟩ ?_ ?_ ?_
 ·rintro i σ H' _ ⟨_,sm⟩
  exact SqL.of (sm _ _ hyl)
 ·rintro i v σ H' hv ⟨⟨w3,rfl⟩,sm⟩
  unfold ppV at hv
  rw [zC] at hv
  obtain⟨x,hx,rfl⟩:=Option.map_eq_some_iff.mp hv
  obtain⟨hx1,_,hx2⟩:=hPy.row x (zD hx)
  have eln':=sm _ _ hO14.ln
  left
  refine qb0 (SqL.of eln') xh ?_
  left
  refine qb0 (SqL.of eln') xe ?_
  left
  refine⟨t,lh,S,P,bs,Rs,h,e,sA,x,y,H9,H10,rfl,hWd14.same sm,hw3,by omega,by omega,kA.2.1,kA.2.2.1,kA.1,kA.2.2.2,hx1.same sm,hws.nd,hbs,hl,hy,s14.trans sm,fun p hp=>?_,fun H'' s''=>?_⟩
  ·rcases hdu with h0|⟨x0,h0,hx0,_⟩
   ·rw [h0] at hp;cases hp
   ·rw [h0] at hp
    have:x0.p=p:=by injection hp
    rw [←this]
    exact(qa7 hx0.tup hx2).symm
  ·left
   exact⟨⟨_,rfl⟩,sm.trans s''⟩
 rintro σ H' ⟨⟨w3,rfl⟩,sm⟩
 have hO':=hO14.same sm
 have hWd':=hWd14.same sm
 have elr':=hO'.lr
 have elh':=hWd'.h
 have hR':=hO'.rs
 have hB':=hWd'.ob
 clear hO14 hWd14 sm hO' hWd' xh xe hyl hPy
 left
 intro C1 s01 H01 fp1 acc1 hacc1
 refine qf7 bs.length (fun i H2=>H2=upd H' acc1 (.lst (((bs.take i).map fun b=>b.R.n).map V.int))) rfl ?_ ?_ ?_ ?_
 ·rintro i H2 hi rfl
  exact⟨_,.ref bs[i].o,SqL.of (qa4 elh' hacc1),by unfold bsV;rw [zC,zA hi];rfl⟩
 ·rintro H2 rfl
  exact⟨_,SqL.of (qa4 elh' hacc1),by unfold bsV;rw [zB];exact Nat.le_refl _⟩
 ·rintro i H2 v H3 hi rfl ⟨rfl,hy⟩
  have hv:=hy _ (SqL.of (qa4 elh' hacc1))
  unfold bsV at hv
  rw [zC,zA hi] at hv
  cases hv
  have tk:bs.take (i+1)=bs.take i++ [bs[i]]:=by rw [zQ,zA hi];rfl
  have hb:=hB' _ (zJ hi)
  generalize bs[i]=b at*
  obtain⟨dx,hbo⟩:=hb.obj
  have hbo':=qa4 (o':=.lst (((bs.take i).map fun b=>b.R.n).map V.int)) hbo hacc1
  obtain⟨cl,q1,q2,q3,q4,q5⟩:=clsOk T b.R.s
  have zl:(((bs.take i).map fun b=>b.R.n).map V.int).length < sizeLine:=by
   rw [zB,zB,zT]
   show _ < 16777216
   omega
  left
  rw [qbb,tk,zE,zE];rfl
 rintro H2 rfl
 rw [zV]
 have t1:=qa8 hacc1 (.lst ((bs.map fun b=>b.R.n).map V.int))
 have e1:upd H' acc1 (.lst ((bs.map fun b=>b.R.n).map V.int)) acc1=some (.lst ((bs.map fun b=>b.R.n).map V.int)):=qa1
 have elr2:=t1 _ _ elr'
 have hR2:∀R∈Rs,RwAt (upd H' acc1 (.lst ((bs.map fun b=>b.R.n).map V.int))) P.nm.length P.ws.length R:=fun R h=>(hR' R h).same t1
 generalize upd H' acc1 (.lst ((bs.map fun b=>b.R.n).map V.int))=H2 at*
 clear hR' hB' elr' elh' t1 hacc1
 left
 intro C2 s02 H02 fp2 acc3 hacc3
 refine qf7 Rs.length (fun i H3=>H3=upd H2 acc3 (.lst (((Rs.take i).map fun R=>R.n).map V.int))) rfl ?_ ?_ ?_ ?_
 ·rintro i H3 hi rfl
  exact⟨_,.ref Rs[i].p,SqL.of (qa4 elr2 hacc3),by unfold rwV;rw [zC,zA hi];rfl⟩
 ·rintro H3 rfl
  exact⟨_,SqL.of (qa4 elr2 hacc3),by unfold rwV;rw [zB];exact Nat.le_refl _⟩
 ·rintro i H3 v H4' hi rfl ⟨rfl,hy⟩
  have hv:=hy _ (SqL.of (qa4 elr2 hacc3))
  unfold rwV at hv
  rw [zC,zA hi] at hv
  cases hv
  have tk:Rs.take (i+1)=Rs.take i++ [Rs[i]]:=by rw [zQ,zA hi];rfl
  have hrow:=qa4 (o':=.lst (((Rs.take i).map fun R=>R.n).map V.int)) (hR2 _ (zJ hi)).row hacc3
  generalize Rs[i]=R at*
  generalize ((R.i:Nat):Int)=ri at*
  have zl:(((Rs.take i).map fun R=>R.n).map V.int).length < sizeLine:=by
   rw [zB,zB,zT]
   show _ < 16777216
   omega
  left
  rw [qbb,tk,zE,zE];rfl
 rintro H3 rfl
 rw [zV]
 have en:(bs.map fun b=>b.R.n)=Rs.map fun R=>R.n:=by
  have:=congrArg (List.map fun R:Rr=>R.n) hbs
  rw [yO,yO] at this
  exact this
 rw [en] at e1
 left
 refine r_eqD (qa7 e1 hacc3) (by decide) (deq_list (n:=0) (SqL.of (qa4 e1 hacc3)) (SqL.of qa1) (qa7 e1 hacc3) (deq_ints _)) ?_
 left
 exact q _
structure Fz (K:Frag) (n:Str) (s:Stmt) (f:Addr) (fd:FuncData):Prop where
 a:nsIn K mainGlobals n=some (some (.ref f))
 F:Fun K n n s f fd
structure Fm (K:Frag) (c:Addr) (n q:Str) (s:Stmt) (f:Addr) (fd:FuncData):Prop where
 a:findIn K (.ref c) n=some (some (.ref f))
 F:Fun K n q s f fd
theorem Fz.m {K:Frag} {n:Str} {s:Stmt} {f:Addr} {fd:FuncData} {h:Heap} {mg:Str→Option Value} (g:Fz K n s f fd) (X:K.In h) (G:h.Ns mainGlobals mg):mg n=some (.ref f):=PySem.W.mg_of X G g.a
theorem ln1 {p:List Value→Prop} (h:∀x0:Value,p [x0]) (us:List Value) (e:us.length=1):p us:=by
 match us,e with
 | [x0],_=>exact h x0
theorem ln2 {p:List Value→Prop} (h:∀x0 x1:Value,p [x0,x1]) (us:List Value) (e:us.length=2):p us:=by
 match us,e with
 | [x0,x1],_=>exact h x0 x1
theorem ln3 {p:List Value→Prop} (h:∀x0 x1 x2:Value,p [x0,x1,x2]) (us:List Value) (e:us.length=3):p us:=by
 match us,e with
 | [x0,x1,x2],_=>exact h x0 x1 x2
theorem ln4 {p:List Value→Prop} (h:∀x0 x1 x2 x3:Value,p [x0,x1,x2,x3]) (us:List Value) (e:us.length=4):p us:=by
 match us,e with
 | [x0,x1,x2,x3],_=>exact h x0 x1 x2 x3
theorem ln5 {p:List Value→Prop} (h:∀x0 x1 x2 x3 x4:Value,p [x0,x1,x2,x3,x4]) (us:List Value) (e:us.length=5):p us:=by
 match us,e with
 | [x0,x1,x2,x3,x4],_=>exact h x0 x1 x2 x3 x4
theorem ln6 {p:List Value→Prop} (h:∀x0 x1 x2 x3 x4 x5:Value,p [x0,x1,x2,x3,x4,x5]) (us:List Value) (e:us.length=6):p us:=by
 match us,e with
 | [x0,x1,x2,x3,x4,x5],_=>exact h x0 x1 x2 x3 x4 x5
theorem ln7 {p:List Value→Prop} (h:∀x0 x1 x2 x3 x4 x5 x6:Value,p [x0,x1,x2,x3,x4,x5,x6]) (us:List Value) (e:us.length=7):p us:=by
 match us,e with
 | [x0,x1,x2,x3,x4,x5,x6],_=>exact h x0 x1 x2 x3 x4 x5 x6
theorem txt_mk {K:Frag} {h:Heap} {mg:Str→Option Value} {fa:Addr} {f_z0 f_z1 f_z2 f_z3 f_z4 f_z5 f_z6 f_z7 f_z8 f_z9 f_z10 f_z11 f_z12 f_z13 f_z14 f_z15 f_z16 f_z17 f_z18 f_z19 f_z20 f_z21 f_z22 f_z23 f_z24 f_z25 f_z26 f_z27 f_z28 f_z29 f_z30 f_z31 f_z32 f_z33 f_z34 f_z35 f_z36 f_z37 f_z38 f_z39 f_z40 f_z41 f_z42 f_law f_z44 f_z45 f_z46 f_z47 f_z48 f_z49 f_z50 f_z51 f_z52 f_z53 f_z54 f_z55 f_z56 f_z57 f_z58 f_z59 f_z60 c_House c_Tree c_Hold c_Loan c_TreeError c_NoName c_Taken c_NoHouse c_NoPromise c_NoWare c_NoAmount c_NoNumber c_TooMany c_TooDeep:Addr} {d_z0 d_z1 d_z2 d_z3 d_z4 d_z5 d_z6 d_z7 d_z8 d_z9 d_z10 d_z11 d_z12 d_z13 d_z14 d_z15 d_z16 d_z17 d_z18 d_z19 d_z20 d_z21 d_z22 d_z23 d_z24 d_z25 d_z26 d_z27 d_z28 d_z29 d_z30 d_z31 d_z32 d_z33 d_z34 d_z35 d_z36 d_z37 d_z38 d_z39 d_z40 d_z41 d_z42 d_law d_z44 d_z47 d_z48 d_z49 d_z50 d_z51 d_z52 d_z53 d_z54 d_z55 d_z56 d_z57 d_z58 d_z59 d_z60:FuncData} (X:K.In h) (G:h.Ns mainGlobals mg) (hfa:mg "law" =some (.ref fa))
  (g_z0:Fz K "is_whole" s_is_whole f_z0 d_z0)
  (g_z1:Fz K "is_name" s_is_name f_z1 d_z1)
  (g_z2:Fz K "is_whole_from" s_is_whole_from f_z2 d_z2)
  (g_z3:Fz K "is_amount" s_is_amount f_z3 d_z3)
  (g_z4:Fz K "amounts_of" s_amounts_of f_z4 d_z4)
  (g_z5:Fz K "above_nought" s_above_nought f_z5 d_z5)
  (g_z6:Fz K "amount_of" s_amount_of f_z6 d_z6)
  (g_z7:Fz K "added" s_added f_z7 d_z7)
  (g_z8:Fz K "beyond" s_beyond f_z8 d_z8)
  (g_z9:Fz K "total_of" s_total_of f_z9 d_z9)
  (g_z10:Fz K "holds_beneath" s_holds_beneath f_z10 d_z10)
  (g_z11:Fz K "held_by" s_held_by f_z11 d_z11)
  (g_z12:Fz K "taking" s_taking f_z12 d_z12)
  (g_z13:Fz K "used" s_used f_z13 d_z13)
  (g_z14:Fz K "rooms_left" s_rooms_left f_z14 d_z14)
  (g_z15:Fz K "first_lack" s_first_lack f_z15 d_z15)
  (g_z16:Fz K "bar" s_bar f_z16 d_z16)
  (g_z17:Fz K "is_bar" s_is_bar f_z17 d_z17)
  (g_z18:Fz K "are_wares" s_are_wares f_z18 d_z18)
  (g_z19:Fz K "check_name" s_check_name f_z19 d_z19)
  (g_z20:Fz K "read_house" s_read_house f_z20 d_z20)
  (g_z21:Fz K "check_promises" s_check_promises f_z21 d_z21)
  (g_z22:Fz K "_law_cell" s_cell f_z22 d_z22)
  (g_z23:Fz K "_law_mix" s_mix f_z23 d_z23)
  (g_z24:Fz K "_law_names" s_names f_z24 d_z24)
  (g_z25:Fz K "_law_elders" s_elders f_z25 d_z25)
  (g_z26:Fz K "_law_line" s_line f_z26 d_z26)
  (g_z27:Fz K "_law_told" s_told f_z27 d_z27)
  (g_z28:Fz K "_law_parts" s_parts f_z28 d_z28)
  (g_z29:Fz K "_law_rows" s_rows f_z29 d_z29)
  (g_z30:Fz K "_law_objects" s_objects f_z30 d_z30)
  (g_z31:Fz K "_law_promises" s_promises f_z31 d_z31)
  (g_z32:Fz K "_law_tree" s_tree f_z32 d_z32)
  (g_z33:Fz K "_law_sum" s_sum f_z33 d_z33)
  (g_z34:Fz K "_law_caps" s_caps f_z34 d_z34)
  (g_z35:Fz K "_law_taken" s_taken f_z35 d_z35)
  (g_z36:Fz K "_law_new" s_new f_z36 d_z36)
  (g_z37:Fz K "_law_bar" s_l_bar f_z37 d_z37)
  (g_z38:Fz K "_law_least" s_least f_z38 d_z38)
  (g_z39:Fz K "_law_move" s_move f_z39 d_z39)
  (g_z40:Fz K "_law_spoiled" s_spoiled f_z40 d_z40)
  (g_z41:Fz K "_law_paper" s_paper f_z41 d_z41)
  (g_z42:Fz K "_law_right" s_right f_z42 d_z42)
  (g_law:Fz K "law" s_law f_law d_law)
  (g_z44:Fm K c_House "__init__" "House.__init__" s_House_init f_z44 d_z44)
  {od_z45 an_z45:Option Addr} {sl_z45:Array (Option Value)} {oc_z45 kV_z45 dc_z45 pm_z45 cd_z45 ct_z45 v0_Tree_init:Value} {t_z45:Addr}
  (a_z45:findIn K (.ref c_Tree) "__init__" =some (some (.ref f_z45))) (l_z45:K.lookup f_z45=some ⟨oc_z45,od_z45,.func (fnOf "__init__" "Tree.__init__" (qcg s_Tree_init) (qbt s_Tree_init) (qab s_Tree_init) (.ref t_z45) kV_z45 dc_z45 pm_z45 an_z45 cd_z45 ct_z45),sl_z45⟩) (c_z45:codeIn K cd_z45 "Tree.__init__" =true) (k_z45:keepIn K (.ref f_z45)=true)
  {ob_z45:Obj} {nn_z45:Nat} (tt_z45:K.lookup t_z45=some ob_z45) (td_z45:ob_z45.data=.seq #[v0_Tree_init] nn_z45) (rd_z45:qb9 [.int 1] [v0_Tree_init])
  {od_z46 an_z46:Option Addr} {sl_z46:Array (Option Value)} {oc_z46 kV_z46 dc_z46 pm_z46 cd_z46 ct_z46 v0_Tree_found:Value} {t_z46:Addr}
  (a_z46:findIn K (.ref c_Tree) "found" =some (some (.ref f_z46))) (l_z46:K.lookup f_z46=some ⟨oc_z46,od_z46,.func (fnOf "found" "Tree.found" (qcg s_Tree_found) (qbt s_Tree_found) (qab s_Tree_found) (.ref t_z46) kV_z46 dc_z46 pm_z46 an_z46 cd_z46 ct_z46),sl_z46⟩) (c_z46:codeIn K cd_z46 "Tree.found" =true) (k_z46:keepIn K (.ref f_z46)=true)
  {ob_z46:Obj} {nn_z46:Nat} (tt_z46:K.lookup t_z46=some ob_z46) (td_z46:ob_z46.data=.seq #[v0_Tree_found] nn_z46) (rd_z46:qb9 [.int 1] [v0_Tree_found])
  (g_z47:Fm K c_Tree "wares" "Tree.wares" s_Tree_wares f_z47 d_z47)
  (g_z48:Fm K c_Tree "names" "Tree.names" s_Tree_names f_z48 d_z48)
  (g_z49:Fm K c_Tree "has" "Tree.has" s_Tree_has f_z49 d_z49)
  (g_z50:Fm K c_Tree "check_house" "Tree.check_house" s_Tree_check_house f_z50 d_z50)
  (g_z51:Fm K c_Tree "house_of" "Tree.house_of" s_Tree_house_of f_z51 d_z51)
  (g_z52:Fm K c_Tree "elder_of" "Tree.elder_of" s_Tree_elder_of f_z52 d_z52)
  (g_z53:Fm K c_Tree "cap_of" "Tree.cap_of" s_Tree_cap_of f_z53 d_z53)
  (g_z54:Fm K c_Tree "kids" "Tree.kids" s_Tree_kids f_z54 d_z54)
  (g_z55:Fm K c_Tree "line" "Tree.line" s_Tree_line f_z55 d_z55)
  (g_z56:Fm K c_Tree "beneath" "Tree.beneath" s_Tree_beneath f_z56 d_z56)
  (g_z57:Fm K c_Tree "promised_beneath" "Tree.promised_beneath" s_Tree_promised_beneath f_z57 d_z57)
  (g_z58:Fm K c_Tree "check_more" "Tree.check_more" s_Tree_check_more f_z58 d_z58)
  (g_z59:Fm K c_Hold "__init__" "Hold.__init__" s_Hold_init f_z59 d_z59)
  (g_z60:Fm K c_NoPromise "__init__" "NoPromise.__init__" s_i_NoPromise f_z60 d_z60)
  (qi_z60:initIn K c_NoPromise f_z60=true) (hi_z60:isFn K (.ref f_z60)=true)
  (a_House:nsIn K mainGlobals "House" =some (some (.ref c_House)))
  (a_Tree:nsIn K mainGlobals "Tree" =some (some (.ref c_Tree)))
  (a_Hold:nsIn K mainGlobals "Hold" =some (some (.ref c_Hold)))
  (a_Loan:nsIn K mainGlobals "Loan" =some (some (.ref c_Loan)))
  (a_TreeError:nsIn K mainGlobals "TreeError" =some (some (.ref c_TreeError)))
  (a_NoName:nsIn K mainGlobals "NoName" =some (some (.ref c_NoName)))
  (a_Taken:nsIn K mainGlobals "Taken" =some (some (.ref c_Taken)))
  (a_NoHouse:nsIn K mainGlobals "NoHouse" =some (some (.ref c_NoHouse)))
  (a_NoPromise:nsIn K mainGlobals "NoPromise" =some (some (.ref c_NoPromise)))
  (a_NoWare:nsIn K mainGlobals "NoWare" =some (some (.ref c_NoWare)))
  (a_NoAmount:nsIn K mainGlobals "NoAmount" =some (some (.ref c_NoAmount)))
  (a_NoNumber:nsIn K mainGlobals "NoNumber" =some (some (.ref c_NoNumber)))
  (a_TooMany:nsIn K mainGlobals "TooMany" =some (some (.ref c_TooMany)))
  (a_TooDeep:nsIn K mainGlobals "TooDeep" =some (some (.ref c_TooDeep)))
  {u_LETTERS:Value} (a_LETTERS:nsIn K mainGlobals "LETTERS" =some (some u_LETTERS)) (r_LETTERS:qba (.str "abcdefghijklmnopqrstuvwxyz") u_LETTERS)
  {u_LONGEST_NAME:Value} (a_LONGEST_NAME:nsIn K mainGlobals "LONGEST_NAME" =some (some u_LONGEST_NAME)) (r_LONGEST_NAME:qba (.int 8) u_LONGEST_NAME)
  {u_MOST_WARES:Value} (a_MOST_WARES:nsIn K mainGlobals "MOST_WARES" =some (some u_MOST_WARES)) (r_MOST_WARES:qba (.int 6) u_MOST_WARES)
  {u_MOST_HOUSES:Value} (a_MOST_HOUSES:nsIn K mainGlobals "MOST_HOUSES" =some (some u_MOST_HOUSES)) (r_MOST_HOUSES:qba (.int 40) u_MOST_HOUSES)
  {u_LONGEST_LINE:Value} (a_LONGEST_LINE:nsIn K mainGlobals "LONGEST_LINE" =some (some u_LONGEST_LINE)) (r_LONGEST_LINE:qba (.int 12) u_LONGEST_LINE)
  {u_GREATEST_WEIGHT:Value} (a_GREATEST_WEIGHT:nsIn K mainGlobals "GREATEST_WEIGHT" =some (some u_GREATEST_WEIGHT)) (r_GREATEST_WEIGHT:qba (.int 1000) u_GREATEST_WEIGHT)
  (q_NoHouse:excIn K c_NoHouse [.type "ValueError",.type "Exception",.type "BaseException",.type "object"] "ValueError.__new__" =true)
  (q_NoAmount:excIn K c_NoAmount [.type "ValueError",.type "Exception",.type "BaseException",.type "object"] "ValueError.__new__" =true)
  (q_NoWare:excIn K c_NoWare [.type "ValueError",.type "Exception",.type "BaseException",.type "object"] "ValueError.__new__" =true)
  (q_NoName:excIn K c_NoName [.type "ValueError",.type "Exception",.type "BaseException",.type "object"] "ValueError.__new__" =true)
  (q_NoNumber:excIn K c_NoNumber [.type "ValueError",.type "Exception",.type "BaseException",.type "object"] "ValueError.__new__" =true)
  (q_Taken:excIn K c_Taken [.type "ValueError",.type "Exception",.type "BaseException",.type "object"] "ValueError.__new__" =true)
  (q_TooMany:excIn K c_TooMany [.type "ValueError",.type "Exception",.type "BaseException",.type "object"] "ValueError.__new__" =true)
  (q_TooDeep:excIn K c_TooDeep [.type "ValueError",.type "Exception",.type "BaseException",.type "object"] "ValueError.__new__" =true)
  (CL_House:Cls K c_House)
  (CL_Tree:Cls K c_Tree)
  (MK_House:Mk K c_House f_z44)
  (MK_Tree:Mk K c_Tree f_z45)
  (CL_Hold:Cls K c_Hold)
  (CL_Loan:Cls K c_Loan)
  (MK_Hold:Mk K c_Hold f_z59)
  (MK_Loan:Mk K c_Loan f_z59)
  (ME_Tree_found:Meth K c_Tree "found" f_z46)
  (ME_Tree_wares:Meth K c_Tree "wares" f_z47)
  (ME_Tree_names:Meth K c_Tree "names" f_z48)
  (ME_Tree_has:Meth K c_Tree "has" f_z49)
  (ME_Tree_check_house:Meth K c_Tree "check_house" f_z50)
  (ME_Tree_house_of:Meth K c_Tree "house_of" f_z51)
  (ME_Tree_elder_of:Meth K c_Tree "elder_of" f_z52)
  (ME_Tree_cap_of:Meth K c_Tree "cap_of" f_z53)
  (ME_Tree_kids:Meth K c_Tree "kids" f_z54)
  (ME_Tree_line:Meth K c_Tree "line" f_z55)
  (ME_Tree_beneath:Meth K c_Tree "beneath" f_z56)
  (ME_Tree_promised_beneath:Meth K c_Tree "promised_beneath" f_z57)
  (ME_Tree_check_more:Meth K c_Tree "check_more" f_z58)
  (NA_House_elder:findIn K (.ref c_House) "elder" =some none)
  (NA_House_promise:findIn K (.ref c_House) "promise" =some none)
  (NA_House_cap:findIn K (.ref c_House) "cap" =some none)
  (NA_House_weight:findIn K (.ref c_House) "weight" =some none)
  (NA_Tree_sorted_wares:findIn K (.ref c_Tree) "sorted_wares" =some none)
  (NA_Tree_houses:findIn K (.ref c_Tree) "houses" =some none)
  (NA_Hold_number:findIn K (.ref c_Hold) "number" =some none)
  (NA_Hold_house:findIn K (.ref c_Hold) "house" =some none)
  (NA_Hold_amounts:findIn K (.ref c_Hold) "amounts" =some none)
  (NA_Hold_rank:findIn K (.ref c_Hold) "rank" =some none)
  (NA_Hold_turns:findIn K (.ref c_Hold) "turns" =some none)
  (NA_Loan_number:findIn K (.ref c_Loan) "number" =some none)
  (NA_Loan_house:findIn K (.ref c_Loan) "house" =some none)
  (NA_Loan_amounts:findIn K (.ref c_Loan) "amounts" =some none)
  (NA_Loan_rank:findIn K (.ref c_Loan) "rank" =some none)
  (NA_Loan_turns:findIn K (.ref c_Loan) "turns" =some none)
  (y_all:nsIn K mainGlobals "all" =some none)
  (y_bool:nsIn K mainGlobals "bool" =some none)
  (y_dict:nsIn K mainGlobals "dict" =some none)
  (y_int:nsIn K mainGlobals "int" =some none)
  (y_isinstance:nsIn K mainGlobals "isinstance" =some none)
  (y_len:nsIn K mainGlobals "len" =some none)
  (y_list:nsIn K mainGlobals "list" =some none)
  (y_max:nsIn K mainGlobals "max" =some none)
  (y_min:nsIn K mainGlobals "min" =some none)
  (y_range:nsIn K mainGlobals "range" =some none)
  (y_reversed:nsIn K mainGlobals "reversed" =some none)
  (y_set:nsIn K mainGlobals "set" =some none)
  (y_sorted:nsIn K mainGlobals "sorted" =some none)
  (y_str:nsIn K mainGlobals "str" =some none)
  (y_sum:nsIn K mainGlobals "sum" =some none)
  (y_zip:nsIn K mainGlobals "zip" =some none)
  :∃d:Ad,Tx K mg d∧fa=d.f_law∧∀(s:Shared) (v:Value),BindsTo s d.fd_law ⟨[v], []⟩ [("_law_script",v)]:=by
 have e:=hfa.symm.trans (g_law.m X G)
 cases e
 have Fl:=g_law.F
 obtain⟨_,_,_,_,_,_,_,_,_,rfl,_,_⟩:=Fl.ex
 have F_z45:=funD_mk (st:=s_Tree_init) l_z45 c_z45 k_z45 tt_z45 td_z45
 have b_z45:qao K _ ["self","wares","name","promise","cap","weight"] []:=F_z45.binds (ps:=["self","wares","name","promise","cap","weight"]) fun _ _ _ _ _ _ us hl=>by have e:us.length=6:=(by simpa using hl);clear hl;revert us e;exact ln6 fun _ _ _ _ _ _=>by first|exact .inl rfl|exact .inr ⟨_,rfl,rfl⟩
 have b1_z45:qao K _ ["self","wares","name","promise","cap","weight"] [v0_Tree_init]:=F_z45.binds (ps:=["self","wares","name","promise","cap","weight"]) fun _ _ _ _ _ _ us hl=>by have e:us.length=5:=(by simpa using hl);clear hl;revert us e;exact ln5 fun _ _ _ _ _=>by first|exact .inl rfl|exact .inr ⟨_,rfl,rfl⟩
 have F_z46:=funD_mk (st:=s_Tree_found) l_z46 c_z46 k_z46 tt_z46 td_z46
 have b_z46:qao K _ ["self","name","elder","promise","cap","weight"] []:=F_z46.binds (ps:=["self","name","elder","promise","cap","weight"]) fun _ _ _ _ _ _ us hl=>by have e:us.length=6:=(by simpa using hl);clear hl;revert us e;exact ln6 fun _ _ _ _ _ _=>by first|exact .inl rfl|exact .inr ⟨_,rfl,rfl⟩
 have b1_z46:qao K _ ["self","name","elder","promise","cap","weight"] [v0_Tree_found]:=F_z46.binds (ps:=["self","name","elder","promise","cap","weight"]) fun _ _ _ _ _ _ us hl=>by have e:us.length=5:=(by simpa using hl);clear hl;revert us e;exact ln5 fun _ _ _ _ _=>by first|exact .inl rfl|exact .inr ⟨_,rfl,rfl⟩
 refine⟨⟨_,_,_,_,_,_,_,_,_,_,_,_,_,_,_,_,_,_,_,_,_,_,_,_,_,_,_,_,_,_,_,_,_,_,_,_,_,_,_,_,_,_,_,_,_,_,_,_,_,_,_,_,_,_,_,_,_,_,_,_,_,_,_,_,_,_,_,_,_,_,_,_,_,_,_,_,_,_,_,_,_,_,_,_,_,_,_,_,_,_,_,_,t_z45,v0_Tree_init,_,_,t_z46,v0_Tree_found,_,_,_,_,_,_,_,_,_,_,_,_,_,_,_,_,_,_,_,_,_,_,_,_,_,_,_,_,c_House,c_Tree,c_Hold,c_Loan,c_TreeError,c_NoName,c_Taken,c_NoHouse,c_NoPromise,c_NoWare,c_NoAmount,c_NoNumber,c_TooMany,c_TooDeep,u_LETTERS,u_LONGEST_NAME,u_MOST_WARES,u_MOST_HOUSES,u_LONGEST_LINE,u_GREATEST_WEIGHT⟩,⟨g_z0.F,g_z0.m X G,g_z0.F.binds fun _ _ _ _ _ _=>ln1 fun _=>rfl,g_z1.F,g_z1.m X G,g_z1.F.binds fun _ _ _ _ _ _=>ln1 fun _=>rfl,g_z2.F,g_z2.m X G,g_z2.F.binds fun _ _ _ _ _ _=>ln3 fun _ _ _=>rfl,g_z3.F,g_z3.m X G,g_z3.F.binds fun _ _ _ _ _ _=>ln1 fun _=>rfl,g_z4.F,g_z4.m X G,g_z4.F.binds fun _ _ _ _ _ _=>ln2 fun _ _=>rfl,g_z5.F,g_z5.m X G,g_z5.F.binds fun _ _ _ _ _ _=>ln1 fun _=>rfl,g_z6.F,g_z6.m X G,g_z6.F.binds fun _ _ _ _ _ _=>ln2 fun _ _=>rfl,g_z7.F,g_z7.m X G,g_z7.F.binds fun _ _ _ _ _ _=>ln2 fun _ _=>rfl,g_z8.F,g_z8.m X G,g_z8.F.binds fun _ _ _ _ _ _=>ln2 fun _ _=>rfl,g_z9.F,g_z9.m X G,g_z9.F.binds fun _ _ _ _ _ _=>ln1 fun _=>rfl,g_z10.F,g_z10.m X G,g_z10.F.binds fun _ _ _ _ _ _=>ln3 fun _ _ _=>rfl,g_z11.F,g_z11.m X G,g_z11.F.binds fun _ _ _ _ _ _=>ln1 fun _=>rfl,g_z12.F,g_z12.m X G,g_z12.F.binds fun _ _ _ _ _ _=>ln4 fun _ _ _ _=>rfl,g_z13.F,g_z13.m X G,g_z13.F.binds fun _ _ _ _ _ _=>ln3 fun _ _ _=>rfl,g_z14.F,g_z14.m X G,g_z14.F.binds fun _ _ _ _ _ _=>ln4 fun _ _ _ _=>rfl,g_z15.F,g_z15.m X G,g_z15.F.binds fun _ _ _ _ _ _=>ln4 fun _ _ _ _=>rfl,g_z16.F,g_z16.m X G,g_z16.F.binds fun _ _ _ _ _ _=>ln4 fun _ _ _ _=>rfl,g_z17.F,g_z17.m X G,g_z17.F.binds fun _ _ _ _ _ _=>ln5 fun _ _ _ _ _=>rfl,g_z18.F,g_z18.m X G,g_z18.F.binds fun _ _ _ _ _ _=>ln1 fun _=>rfl,g_z19.F,g_z19.m X G,g_z19.F.binds fun _ _ _ _ _ _=>ln1 fun _=>rfl,g_z20.F,g_z20.m X G,g_z20.F.binds fun _ _ _ _ _ _=>ln5 fun _ _ _ _ _=>rfl,g_z21.F,g_z21.m X G,g_z21.F.binds fun _ _ _ _ _ _=>ln3 fun _ _ _=>rfl,g_z22.F,g_z22.m X G,g_z22.F.binds fun _ _ _ _ _ _=>ln2 fun _ _=>rfl,g_z23.F,g_z23.m X G,g_z23.F.binds fun _ _ _ _ _ _=>ln3 fun _ _ _=>rfl,g_z24.F,g_z24.m X G,g_z24.F.binds fun _ _ _ _ _ _=>ln2 fun _ _=>rfl,g_z25.F,g_z25.m X G,g_z25.F.binds fun _ _ _ _ _ _=>ln3 fun _ _ _=>rfl,g_z26.F,g_z26.m X G,g_z26.F.binds fun _ _ _ _ _ _=>ln2 fun _ _=>rfl,g_z27.F,g_z27.m X G,g_z27.F.binds fun _ _ _ _ _ _=>ln2 fun _ _=>rfl,g_z28.F,g_z28.m X G,g_z28.F.binds fun _ _ _ _ _ _=>ln3 fun _ _ _=>rfl,g_z29.F,g_z29.m X G,g_z29.F.binds fun _ _ _ _ _ _=>ln4 fun _ _ _ _=>rfl,g_z30.F,g_z30.m X G,g_z30.F.binds fun _ _ _ _ _ _=>ln3 fun _ _ _=>rfl,g_z31.F,g_z31.m X G,g_z31.F.binds fun _ _ _ _ _ _=>ln3 fun _ _ _=>rfl,g_z32.F,g_z32.m X G,g_z32.F.binds fun _ _ _ _ _ _=>ln5 fun _ _ _ _ _=>rfl,g_z33.F,g_z33.m X G,g_z33.F.binds fun _ _ _ _ _ _=>ln4 fun _ _ _ _=>rfl,g_z34.F,g_z34.m X G,g_z34.F.binds fun _ _ _ _ _ _=>ln4 fun _ _ _ _=>rfl,g_z35.F,g_z35.m X G,g_z35.F.binds fun _ _ _ _ _ _=>ln4 fun _ _ _ _=>rfl,g_z36.F,g_z36.m X G,g_z36.F.binds fun _ _ _ _ _ _=>ln3 fun _ _ _=>rfl,g_z37.F,g_z37.m X G,g_z37.F.binds fun _ _ _ _ _ _=>ln7 fun _ _ _ _ _ _ _=>rfl,g_z38.F,g_z38.m X G,g_z38.F.binds fun _ _ _ _ _ _=>ln5 fun _ _ _ _ _=>rfl,g_z39.F,g_z39.m X G,g_z39.F.binds fun _ _ _ _ _ _=>ln2 fun _ _=>rfl,g_z40.F,g_z40.m X G,g_z40.F.binds fun _ _ _ _ _ _=>ln2 fun _ _=>rfl,g_z41.F,g_z41.m X G,g_z41.F.binds fun _ _ _ _ _ _=>ln6 fun _ _ _ _ _ _=>rfl,g_z42.F,g_z42.m X G,g_z42.F.binds fun _ _ _ _ _ _=>ln6 fun _ _ _ _ _ _=>rfl,Fl,g_law.m X G,g_z44.F,g_z44.F.binds fun _ _ _ _ _ _=>ln5 fun _ _ _ _ _=>rfl,F_z45,b_z45,b1_z45,rd_z45,F_z46,b_z46,b1_z46,rd_z46,g_z47.F,g_z47.F.binds fun _ _ _ _ _ _=>ln1 fun _=>rfl,g_z48.F,g_z48.F.binds fun _ _ _ _ _ _=>ln1 fun _=>rfl,g_z49.F,g_z49.F.binds fun _ _ _ _ _ _=>ln2 fun _ _=>rfl,g_z50.F,g_z50.F.binds fun _ _ _ _ _ _=>ln2 fun _ _=>rfl,g_z51.F,g_z51.F.binds fun _ _ _ _ _ _=>ln2 fun _ _=>rfl,g_z52.F,g_z52.F.binds fun _ _ _ _ _ _=>ln2 fun _ _=>rfl,g_z53.F,g_z53.F.binds fun _ _ _ _ _ _=>ln2 fun _ _=>rfl,g_z54.F,g_z54.F.binds fun _ _ _ _ _ _=>ln2 fun _ _=>rfl,g_z55.F,g_z55.F.binds fun _ _ _ _ _ _=>ln2 fun _ _=>rfl,g_z56.F,g_z56.F.binds fun _ _ _ _ _ _=>ln2 fun _ _=>rfl,g_z57.F,g_z57.F.binds fun _ _ _ _ _ _=>ln2 fun _ _=>rfl,g_z58.F,g_z58.F.binds fun _ _ _ _ _ _=>ln3 fun _ _ _=>rfl,g_z59.F,g_z59.F.binds fun _ _ _ _ _ _=>ln6 fun _ _ _ _ _ _=>rfl,g_z60.F,xcli_of qi_z60 hi_z60,g_z60.F.binds fun _ _ _ _ _ _=>ln3 fun _ _ _=>rfl,PySem.W.mg_of X G a_House,PySem.W.mg_of X G a_Tree,PySem.W.mg_of X G a_Hold,PySem.W.mg_of X G a_Loan,PySem.W.mg_of X G a_TreeError,PySem.W.mg_of X G a_NoName,PySem.W.mg_of X G a_Taken,PySem.W.mg_of X G a_NoHouse,PySem.W.mg_of X G a_NoPromise,PySem.W.mg_of X G a_NoWare,PySem.W.mg_of X G a_NoAmount,PySem.W.mg_of X G a_NoNumber,PySem.W.mg_of X G a_TooMany,PySem.W.mg_of X G a_TooDeep,PySem.W.mg_of X G a_LETTERS,r_LETTERS,PySem.W.mg_of X G a_LONGEST_NAME,r_LONGEST_NAME,PySem.W.mg_of X G a_MOST_WARES,r_MOST_WARES,PySem.W.mg_of X G a_MOST_HOUSES,r_MOST_HOUSES,PySem.W.mg_of X G a_LONGEST_LINE,r_LONGEST_LINE,PySem.W.mg_of X G a_GREATEST_WEIGHT,r_GREATEST_WEIGHT,PySem.W.mg_none_of X G y_all,PySem.W.mg_none_of X G y_bool,PySem.W.mg_none_of X G y_dict,PySem.W.mg_none_of X G y_int,PySem.W.mg_none_of X G y_isinstance,PySem.W.mg_none_of X G y_len,PySem.W.mg_none_of X G y_list,PySem.W.mg_none_of X G y_max,PySem.W.mg_none_of X G y_min,PySem.W.mg_none_of X G y_range,PySem.W.mg_none_of X G y_reversed,PySem.W.mg_none_of X G y_set,PySem.W.mg_none_of X G y_sorted,PySem.W.mg_none_of X G y_str,PySem.W.mg_none_of X G y_sum,PySem.W.mg_none_of X G y_zip,CL_House,CL_Tree,MK_House,MK_Tree,CL_Hold,CL_Loan,MK_Hold,MK_Loan,ME_Tree_found,ME_Tree_wares,ME_Tree_names,ME_Tree_has,ME_Tree_check_house,ME_Tree_house_of,ME_Tree_elder_of,ME_Tree_cap_of,ME_Tree_kids,ME_Tree_line,ME_Tree_beneath,ME_Tree_promised_beneath,ME_Tree_check_more,NA_House_elder,NA_House_promise,NA_House_cap,NA_House_weight,NA_Tree_sorted_wares,NA_Tree_houses,NA_Hold_number,NA_Hold_house,NA_Hold_amounts,NA_Hold_rank,NA_Hold_turns,NA_Loan_number,NA_Loan_house,NA_Loan_amounts,NA_Loan_rank,NA_Loan_turns,qd7 q_NoHouse,qd7 q_NoAmount,qd7 q_NoWare,qd7 q_NoName,qd7 q_NoNumber,qd7 q_Taken,qd7 q_TooMany,qd7 q_TooDeep⟩,rfl,fun s v=> .of_eq rfl⟩
theorem walk {l:PySem.W.OpenLaw} {q:Program} {loose:List Str} {XP:(Str→Option Value)→Heap→Prop} {YP:World→Heap→Prop} {e:DefRec} {K:Params→Frag} (hn:l.most=some 63) (hdf:e.params.defaults=[]) (hlaw:e.name= "law")
  (hY:∀(w:World) (h:Heap),YP w h→(K w.params).In h)
  (F:∀(w:World) (mg:Str→Option Value) (fa:Addr) (h:Heap),(K w.params).In h→h.Ns mainGlobals mg→mg "law" =some (.ref fa)→∃d:Ad,Tx (K w.params) mg d∧fa=d.f_law∧∀(s:Shared) (v:Value),BindsTo s d.fd_law ⟨[v], []⟩ [("_law_script",v)]):
  PySem.W.WalkO q loose XP YP l.row.toRowW e [] (fun f vs=>PySem.call f vs):=by
 refine L2.walk_of (n:=63) (k:=24) (x:="_law_script") (CX:=fun _=>CX0) (sp:=fun w=>sp_law0 (K w.params)) hn (by decide) hdf ⟨rfl,by decide,by decide⟩ hY (fun w mg fa h KX G hm=>?_) (fun _ _ a ns hl _ hS=>⟨a,ns,rfl,hS,hl,fun _=>rfl⟩) fun _ _ _ _ _ z=>z
 rw [hlaw] at hm
 obtain⟨d,T,rfl,hb⟩:=F w mg fa h KX G hm
 exact⟨d.fd_law,hb,fun base _ _=>(ok_law (P:=l.prog) (w:=w) (base:=base) T).imp fun vs H Q E q=>q⟩
end Our
namespace PySem.W.Fast
def tw16181331962846450450:=0
def tw16967180509364330429:=0
def tw11857613165917708681:=0
def tw16452178328144107948:=0
def tw16858493630923477106:=0
def tw16783758393388627736:=0
def tw12087523207197436586:=0
def tw3999234875762256322:=0
def tw3056870813738911460:=0
def tw5475309211997114393:=0
def tw9970573201973431292:=0
def tw9268957227932050313:=0
def tw15585132118717572950:=0
def tw3779058755170724452:=0
def tw14398627937416327646:=0
def tw6246420541331179318:=0
def tw14234036644053161799:=0
def tw3610754805393484134:=0
def tw2615897126458722233:=0
def tw17647355655617422345:=0
def tw12497287664840248525:=0
def tw8426581895134112755:=0
def tw4045126861087014568:=0
def tw2596628474718420428:=0
def tw17136800336237608124:=0
def tw17780411737497303132:=0
def tw15773752362034301288:=0
def tw3333794977484568919:=0
def tw6528720169456266432:=0
def tw166494076028292199:=0
def tw6328267329025954452:=0
def tw17723305981617041407:=0
def tw2633017497286197069:=0
def tw9263113054861761127:=0
def tw10431061416193551151:=0
def tw12106805193389131887:=0
def tw12994462504922160296:=0
def tw6235352055350920143:=0
def tw14194880519784745387:=0
def tw5269080757725649152:=0
def tw2822707639670682792:=0
def tw12093145165840615904:=0
def tw16943011515750348046:=0
def tw15235678999317791574:=0
def tw2556517673488022006:=0
def tw4206687201207744424:=0
def tw2302915992683850212:=0
def tw874258960502384136:=0
def tw17088434582755555418:=0
def tw15062337113683806066:=0
def tw12617658294578314303:=0
def tw1414116458820102537:=0
def tw11411990963783873:=0
def tw672870393112403410:=0
def tw15156180241442926352:=0
def tw8486345052963900518:=0
def tw18276680021450051479:=0
def tw10286940218964386856:=0
def tw7015139170332020520:=0
def tw1735918816678237563:=0
def tw9108424329565753389:=0
def tw11852425370978817988:=0
def tw10843278871808179857:=0
def tw3239653640327665435:=0
def tw15595738560168399917:=0
def tw11208604387872357239:=0
def tw4434146615303775005:=0
def tw4322152888449575309:=0
def tw2140958982844368370:=0
def tw5264649607784739156:=0
def tw14980036553537876414:=0
def tw18414994116942019544:=0
def tw8506584775029064943:=0
def tw1901514639594236692:=0
def tw15009500883471410988:=0
def tw6548971282896739842:=0
def tw14156040756426180873:=0
def tw1684433204524308542:=0
def tw14846362375198077177:=0
def tw1448899952489759016:=0
def tw7040946505825738081:=0
def tw8775601028270369528:=0
def tw6451361891763271790:=0
def tw3175682625182675013:=0
def tw7405282805774125746:=0
def tw4254323901192808660:=0
def tw2821142006453809103:=0
def tw9323105447131568767:=0
def tw9079111246713215387:=0
def tw3670592318380893196:=0
def tw17165815074583854110:=0
def tw2765891248297515813:=0
def tw15060299458157124393:=0
def tw7300706968230497980:=0
def tw7413930308543712153:=0
def tw8593106514033893813:=0
def tw11683824627809599742:=0
def tw13843500381827015025:=0
def tw4630732728882663831:=0
def tw9354215264596618634:=0
def tw12565124521587609638:=0
def tw3886853013054878156:=0
def tw9989224739169226854:=0
def tw2448998397653743584:=0
def tw6942577824705032894:=0
def tw1010252589476200538:=0
def tw7348116813398223544:=0
def tw15484318596548544389:=0
def tw2849432754885586420:=0
def tw1692012807054359892:=0
def tw12802055686170348151:=0
def tw372364887415560147:=0
def tw17073654561846565415:=0
def tw13352055583421330541:=0
def tw17092866222718682209:=0
def tw10872330518301523261:=0
def tw9958128760821409291:=0
def tw5921025405089870545:=0
def tw13769084317633883227:=0
def tw5753765202683909865:=0
def tw16994909025654845294:=0
def tw16130537148073229401:=0
def tw11314193141576204221:=0
def tw3849032697317082243:=0
def tw1701211703748736779:=0
def tw16164025741234025768:=0
def tw6867283608558125128:=0
def tw1847323812496161975:=0
def tw2569629419575842743:=0
def tw8827462858421728795:=0
def tw11832261858363073505:=0
def tw6865206883512793512:=0
def tw17942890028832619163:=0
def tw15503950438468643814:=0
def tw5401485133781645949:=0
def tw8983523422027409909:=0
def tw5976747765908337816:=0
def tw2355122095427963474:=0
def tw10863035190544805809:=0
def tw12948450486868539532:=0
def tw16132465477170020489:=0
def tw17455205260988661596:=0
def tw17277969902061012179:=0
def tw8570995443501865193:=0
def tw18030419350725371984:=0
def tw1768342901005372294:=0
def tw1383465409783278304:=0
def tw7266483896164567107:=0
def tw5295979256313429227:=0
def tw16629723765926364762:=0
def tw480279627669772937:=0
def tw11021934296885507226:=0
def tw6370377397982180241:=0
def tw17582296518947174908:=0
def tw11998469312965552747:=0
def tw10710174866716373973:=0
def tw10042831108191020745:=0
def tw9463026044128623643:=0
def tw836109807340342197:=0
def tw15741447800840666091:=0
def tw4417517594484993204:=0
def tw9373110437156843046:=0
def tw6736314629356418108:=0
def tw7581382571507483959:=0
def tw11670553256165648753:=0
def tw3234972949302115953:=0
def tw7637310063344407599:=0
def tw16490523253733610851:=0
def tw3483830680064586520:=0
def tw10181877100117712162:=0
def tw11757017858432766941:=0
def tw3439684530403999626:=0
def tw16539124422032964476:=0
def tw14692883073364351656:=0
def tw832922518667647031:=0
def tw12430951796428810104:=0
def tw7847871519316807044:=0
def tw14467391890305490016:=0
def tw9886220062888726731:=0
def tw15556015783990550755:=0
def tw15659119585157023630:=0
def tw6653855512224263905:=0
def tw18053908625274836543:=0
def tw7425684476605082443:=0
def tw17406326867969710406:=0
def tw15440454138081463318:=0
def tw16933092922017976397:=0
def tw15091951136719682212:=0
def tw14817825154872879959:=0
def tw1598965622138287636:=0
def tw16835726039565642095:=0
def tw4494347927390798825:=0
def tw4163574833427376160:=0
def tw15036107093719727587:=0
def tw5375864299177611178:=0
def tw2878747753262321918:=0
def tw17846852382952421234:=0
def tw6992739825292755650:=0
def tw3381726845966379134:=0
def tw4109012670435535454:=0
def tw1401190092003261908:=0
def tw9294376270000701835:=0
def tw13933327630095901085:=0
def tw4476366920693320703:=0
def tw9140581450075597237:=0
def tw12224568823300228514:=0
def tw4861866909234456136:=0
def tw10563995223650294900:=0
def tw10030610981798012968:=0
def tw11809373391500335418:=0
def tw2919221529811911859:=0
def tw13384155703875714129:=0
def tw11632903363306234950:=0
def tw15549956114645161896:=0
def tw1908134873678778642:=0
def tw3366727966721513655:=0
def tw12404920382681527694:=0
def tw11433523708636660604:=0
def tw6224574391302692728:=0
def tw16984089197524083289:=0
def tw12130443430697244106:=0
def tw5664615687075310054:=0
def tw15601988992782711521:=0
def tw12454540373594084563:=0
def tw11536521302272799960:=0
def tw6007633070106052360:=0
def tw8772481369149716518:=0
def tw10160171534664518685:=0
def tw10574881724521975181:=0
def tw9365745548869262615:=0
def tw5722703823294378565:=0
def tw5248467549625188040:=0
def tw17889590344015934232:=0
def tw15714813104225030697:=0
def tw9175689492142303711:=0
def tw16877989248299051364:=0
def tw16314582824864824012:=0
def tw16033531161453940599:=0
def tw1062873169358697419:=0
def tw17316045442949210783:=0
def tw938914599193338421:=0
def tw4761854761648638595:=0
def tw18046000767480401078:=0
def tw16168731195544791326:=0
def tw9221837238258340885:=0
def tw3587826605497691664:=0
def tw16007852670909507008:=0
def tw13318980992933185214:=0
def tw11187082394171599548:=0
def tw10817000239396502342:=0
def tw66270606286362279:=0
def tw4595182337766577043:=0
def tw11600126041347371732:=0
def tw678621760647483966:=0
def tw68450230526517323:=0
def tw16430220586561994955:=0
def tw14445893245329075058:=0
def tw14180995508345132654:=0
def tw17937005113371670331:=0
def tw10742229104548427339:=0
def tw1587573263909062841:=0
def tw13616068351610919315:=0
def tw2434709937470875989:=0
def tw4561624124173589856:=0
def tw12701073555295855182:=0
def tw2873856205629716482:=0
def tw11024876716837234955:=0
def tw7366507521126722664:=0
def tw6924912002520741966:=0
def tw2407524169630095377:=0
def tw16854475117080616223:=0
def tw6642511865017900553:=0
def tw12623134209065008767:=0
def tw5292862834053107947:=0
def tw17612536755990823665:=0
def tw5601918387065712241:=0
def tw4057728450939248648:=0
def tw8146273037601920443:=0
def tw2787208041219053882:=0
def tw16638620875130800233:=0
def tw12261787707710756240:=0
def tw5284766915129559769:=0
def tw10473649380531794256:=0
def tw8970419677052830244:=0
def tw2188204088813461798:=0
def tw1894789471472384824:=0
def tw11098325212295183805:=0
def tw5682032777680477267:=0
def tw6130393776496528701:=0
def tw3602643163737673988:=0
def tw193355318043727507:=0
def tw16059389912411115604:=0
def tw12940371633945248010:=0
def tw12637195937263721280:=0
def tw10833829730827268304:=0
def tw15150789874361377585:=0
def tw3161649396299944115:=0
def tw1309144809422889562:=0
def tw12979142085817590741:=0
def tw4101930469457018586:=0
def tw878802199297346284:=0
def tw1150486207529452897:=0
def tw1114015500062459552:=0
def tw8990629950528386565:=0
def tw5780501055803880134:=0
def tw16351451712269635587:=0
def tw14255141923695438575:=0
def tw14088518019888016141:=0
def tw12165037507322067942:=0
def tw5790616873925678306:=0
def tw6628525270507897229:=0
def tw4799808839704898876:=0
def tw3808430062743815361:=0
def tw303941909980238369:=0
def tw14606637381820094920:=0
def tw14913699134206272847:=0
def tw12457378895048128974:=0
def tw11503446715894049869:=0
def tw6174253980108569059:=0
def tw361181459316586999:=0
def tw2037337664361836314:=0
def tw14319745760940637403:=0
def tw13879393409501478573:=0
def tw8311524868621618683:=0
def tw11762475198313183533:=0
def tw16018803403600101975:=0
def tw235773477858368893:=0
def tw15387068843804353217:=0
def tw4458188202889781692:=0
def tw17559826338744715227:=0
def tw17527507444871535193:=0
def tw3220120346661979160:=0
def tw7304899937996253684:=0
def tw6382607823742383064:=0
def tw2492757150405067688:=0
def tw14158689220716514226:=0
def tw11396519969503834448:=0
def tw11329581192163195597:=0
def tw11153259962198654409:=0
def tw15201807910682861943:=0
def tw14392050450514484259:=0
def tw14183547975162307570:=0
def tw1744323191244482167:=0
def tw15662620077151099407:=0
def tw7866459767494220383:=0
def tw4986274451781210060:=0
def tw4893711732950533243:=0
def tw4125243028384818811:=0
def tw9394241560053031120:=0
def tw16543689420977020346:=0
def tw6417648455521030259:=0
def tw1385129770788348580:=0
def tw6036921607220588154:=0
def tw6978900371311552592:=0
def tw3582214644294753604:=0
def tw12353091389985694349:=0
def tw5630954624848424033:=0
def tw1470069644389412511:=0
def tw7321255310054951498:=0
def tw15817958121881237361:=0
def tw3246121202196902773:=0
def tw17067869694354068899:=0
def tw16545334263092776410:=0
def tw13568107119887122906:=0
def tw11172097402966713911:=0
def tw1083089497774145754:=0
def tw7188596471225223141:=0
def tw9161535310666406940:=0
def tw12933914350586363418:=0
def tw11385261105484291376:=0
def tw3574338270554590008:=0
def tw2557575180156717045:=0
def tw3567414671348457195:=0
def tw896267759499370743:=0
def tw6279637451939790122:=0
def tw54721541693758384:=0
def tw2613936426797398554:=0
def tw7784562998282293238:=0
def tw7466813726984954:=0
def tw14464075408457863295:=0
def tw9798033464751258487:=0
def tw6268551073852931615:=0
def tw10416447641583783888:=0
def tw8946824011789429411:=0
def tw7588065713305853948:=0
def tw5950008492648937388:=0
def tw5048893940393793567:=0
def tw2409239931330942330:=0
def tw17280831135125276160:=0
def tw10734125603581324342:=0
def tw13392343188445842318:=0
def tw4645087428674124884:=0
def tw18254975217985222571:=0
def tw17836454131422100453:=0
def tw10242391983542770876:=0
def tw14532825592610207720:=0
def tw17467174733151326914:=0
def tw17451604278982020707:=0
def tw17393022807797329464:=0
def tw12398298052475870262:=0
def tw3951719118483725810:=0
def tw14401084531453799253:=0
def tw6581205375250402179:=0
def tw95005455101957730:=0
def tw15330678999239289906:=0
def tw14664799042481035314:=0
def tw8394841491257612085:=0
def tw4866254733584096519:=0
def tw12060583681985570912:=0
def tw832471445362466977:=0
def tw6017912029339330496:=0
def tw13793031316920340445:=0
def tw7584847626679411621:=0
def tw11673214208690898445:=0
def tw2139712694036301192:=0
def tw2086912676103383769:=0
def tw14391740382235606128:=0
def tw13766710045393588758:=0
def tw10530581162314637249:=0
def tw3469889834292273646:=0
def tw12432710518217173284:=0
def tw10407835820165944391:=0
def tw639110447775461095:=0
def tw1841643730457638785:=0
def tw11795423886380584623:=0
def tw3743964350733221916:=0
def tw15813418024976312292:=0
def tw13495574113874982922:=0
def tw9917498728803113039:=0
def tw8417142309123862147:=0
def tw14785815620045017394:=0
def tw12161945512668740858:=0
def tw9279294487741725945:=0
def tw8999125035881047087:=0
def tw8605546902022948534:=0
def tw7829103542955192670:=0
def tw493281641615186166:=0
def tw1588304355611239257:=0
def tw13916028908126289797:=0
def tw13059778138254546217:=0
def tw1187230495573535964:=0
def tw11446840492990117088:=0
def tw1759025361268052411:=0
def tw5043382958672662035:=0
def tw14291461059914101878:=0
def tw12156440245595906094:=0
def tw10085093433195327811:=0
def tw473747802956020758:=0
def tw4575041929271659807:=0
def tw3422996626399310668:=0
def tw311272757537439324:=0
def tw280488804623421540:=0
def tw2365576061127261652:=0
def tw17035811249862851217:=0
def tw15729745576364630402:=0
def tw15687708935331344931:=0
def tw15032189598473134:=0
def tw12018654040952463661:=0
def tw4460081850673724984:=0
def tw14649211985461341226:=0
def tw11797227888049833936:=0
def tw5085102864294650516:=0
def tw15873045822934766013:=0
def tw5913371112131527751:=0
def tw17850861834987956517:=0
def tw3782114409845366287:=0
def tw18437684796589758835:=0
def tw14676673516999286824:=0
def tw6251006186336663296:=0
def tw6096483694574790973:=0
def tw473786135784961765:=0
def tw4564926051241743217:=0
def tw16428798196455589156:=0
def tw1340055678826754615:=0
def tw11998879285224265346:=0
def tw8175960001420044433:=0
def tw9243469180193232322:=0
def tw8295016421091196214:=0
def tw7750483420273672168:=0
def tw6947306264629291016:=0
def tw6773026118407894048:=0
def tw6259376345344549184:=0
def tw4766285619994282870:=0
def tw449671866847115497:=0
def tw266408085774554026:=0
def tw18318336556278138921:=0
def tw17182741442597514991:=0
def tw14497040493241630008:=0
def tw14316426468321140951:=0
def tw13661905392273950381:=0
def tw13244373594593502908:=0
def tw11551407821167026227:=0
def tw898092591156845220:=0
def tw8826234470086038329:=0
def tw8646659360698440832:=0
def tw8437906347601217484:=0
def tw8224609638922601537:=0
def tw8177045730253772077:=0
def tw6346193553510408022:=0
def tw4334971062977896328:=0
def tw3084578126230610258:=0
def tw299106859203392821:=0
def tw2415614681756391374:=0
def tw15369747226965108013:=0
def tw15340356876681844789:=0
def tw13699652733709831900:=0
def tw8313317194457318461:=0
def tw6415613833078139202:=0
def tw15610690323164136741:=0
def tw13129841781487944347:=0
def tw11768096917424498335:=0
def tw7473104834224364032:=0
def tw7284149666898291021:=0
def tw7245448382985626400:=0
def tw532085572792061360:=0
def tw4075521143088579109:=0
def tw3283912369592607350:=0
def tw15772169436710558868:=0
def tw14971580557262611996:=0
def tw14589225237228767023:=0
def tw12979719379203144541:=0
def tw5480744170846585798:=0
def tw4278538071720128872:=0
def tw4151706229347281915:=0
def tw349486113000535645:=0
def tw2849329160051983341:=0
def tw18278628006117653027:=0
def tw15664727611990123618:=0
def tw15646027412435242610:=0
def tw13502966138115550184:=0
def tw13430217889688206298:=0
def tw13331051588622349313:=0
def tw12027912498109236138:=0
def tw11136545632830070997:=0
def tw1058146633313494832:=0
def tw999955651091388255:=0
def tw9889181333734799079:=0
def tw9733192804439089216:=0
def tw9615492216538486022:=0
def tw958546723401214657:=0
def tw9504655078901923390:=0
def tw939543846659377304:=0
def tw9352300349502439216:=0
def tw9241355886942605322:=0
def tw9177651937228049091:=0
def tw9121392113964450962:=0
def tw9019042947972184630:=0
def tw8920521461580193155:=0
def tw8886456418622716333:=0
def tw8810001008499466124:=0
def tw8732562794871773354:=0
def tw8573863509239250263:=0
def tw8492912105107149681:=0
def tw8488219849719764150:=0
def tw8468730703417989496:=0
def tw8322147774839094531:=0
def tw8199384707287140643:=0
def tw8169078040105793995:=0
def tw8049703362459524671:=0
def tw8025330958581223233:=0
def tw7943481568137865480:=0
def tw7849264886946157450:=0
def tw7751642287462574383:=0
def tw7626219316889754407:=0
def tw7623206963917962469:=0
def tw7407919563168927016:=0
def tw738594828043862399:=0
def tw7354212922502272365:=0
def tw709181340695893836:=0
def tw7073414764070253597:=0
def tw7047896863121133518:=0
def tw6953547056168921183:=0
def tw6649504155894841291:=0
def tw6478925791196883495:=0
def tw6446038598944485977:=0
def tw622153320803911385:=0
def tw6178326939454680502:=0
def tw6038207608706935477:=0
def tw5983556776133000560:=0
def tw5976864582362863357:=0
def tw5933684356736722426:=0
def tw5879938529654579111:=0
def tw5527352274996840436:=0
def tw5315349389175843058:=0
def tw528468157504867964:=0
def tw5076324139356390201:=0
def tw5071230667936893855:=0
def tw5069771123208206226:=0
def tw5062495213155653104:=0
def tw5003557812341699418:=0
def tw4968714257175086061:=0
def tw4952253954593666068:=0
def tw4850693431056042527:=0
def tw4763386214780332179:=0
def tw4702790667157309142:=0
def tw4542234968074809607:=0
def tw4420945894045782671:=0
def tw4216956439832053311:=0
def tw4152984254984563403:=0
def tw407866600433767334:=0
def tw4032033505304345653:=0
def tw3765684751398677179:=0
def tw3765153596954206109:=0
def tw3751669735148708057:=0
def tw3643222801535055409:=0
def tw347018131304383230:=0
def tw3376360335977384744:=0
def tw3334975625031602434:=0
def tw3287099137261318243:=0
def tw3239078642331681704:=0
def tw3154891775264989929:=0
def tw309524437354985038:=0
def tw3073422667801725309:=0
def tw3043280398237327700:=0
def tw2835536305229482113:=0
def tw273266499657615259:=0
def tw2717234665313583436:=0
def tw2707479832448893657:=0
def tw2636823585448369622:=0
def tw2430133749360117196:=0
def tw2303770465585187134:=0
def tw2181828506322043460:=0
def tw2155107088424687783:=0
def tw2106030752213845508:=0
def tw2061005747816670839:=0
def tw2044497581393763809:=0
def tw196184979120505298:=0
def tw1947751228533477220:=0
def tw1941786628776785835:=0
def tw1921679840197743077:=0
def tw1892225668803006436:=0
def tw18387389093929553837:=0
def tw18146053415950137625:=0
def tw18059563639744128183:=0
def tw18023115139728024241:=0
def tw17908636998280115240:=0
def tw17905863505010813489:=0
def tw17679301204291418562:=0
def tw17671998643599226414:=0
def tw17492588206218025974:=0
def tw17234401640557106951:=0
def tw1717331509212274061:=0
def tw17092519471870732923:=0
def tw16889785552630011691:=0
def tw168714319814401158:=0
def tw16770292270305638057:=0
def tw1675808763904126736:=0
def tw16513565612645838930:=0
def tw16447853579976903839:=0
def tw16363502798120279343:=0
def tw16280313870315100580:=0
def tw16086734974903528534:=0
def tw16023266668908947569:=0
def tw15817986928769856632:=0
def tw15741618276272568600:=0
def tw15459563427018062137:=0
def tw15206671748479875350:=0
def tw1503541663411029922:=0
def tw1493879185214921875:=0
def tw14932735652323662318:=0
def tw14635665752565962336:=0
def tw14611050726217490074:=0
def tw14558779316890848622:=0
def tw14292127491008715589:=0
def tw14231857501600218186:=0
def tw14159745432642131652:=0
def tw1413489921953644433:=0
def tw14078801562176109953:=0
def tw13917391823739821768:=0
def tw13786725629416681307:=0
def tw13583649584114752042:=0
def tw13545970754197314597:=0
def tw13536556229424961040:=0
def tw13315586173161616892:=0
def tw13230990001123590125:=0
def tw13113729941555986910:=0
def tw1309926679514867504:=0
def tw13078147890731301956:=0
def tw13032619474020629050:=0
def tw130198457619040673:=0
def tw13000619446986985168:=0
def tw12896180905255375310:=0
def tw12790525147191258805:=0
def tw12765480728827756509:=0
def tw12516781437486672401:=0
def tw1239166289682299538:=0
def tw12094197282782684651:=0
def tw12067180581756329392:=0
def tw11931183246417220778:=0
def tw11881263275736732422:=0
def tw11881224949106190906:=0
def tw11791272924806413951:=0
def tw11693884909264699370:=0
def tw11588013782145544605:=0
def tw11575649318913887445:=0
def tw11483242490705355046:=0
def tw11398008463908587060:=0
def tw11169818015920328399:=0
def tw11080100971955847846:=0
def tw11033793630766480794:=0
def tw11030992990651619615:=0
def tw11018280893760804985:=0
def tw11012753892709345340:=0
def tw10931530720157375009:=0
end PySem.W.Fast
open PySem PySem.W PyProof.Rows
set_option maxRecDepth 100000 in
set_option maxHeartbeats 0 in
theorem PySem.Challenge.cw_quotatree_k38_the_bar_tested_holds : PySem.Challenge.rw_quotatree_k38_the_bar_tested.Holds := by
 w_on;o_law;k_head;(case hw=>w_witness2)
 k_fill
 refine Our.walk (l:=PySem.Challenge.rw_quotatree_k38_the_bar_tested) rfl rfl rfl (fun w h Y=>PySem.W.kIn_of Y) ?F
 case F=>
  intro w mg fa h KX G hmg
  refine' Our.txt_mk KX G hmg ?g_z0 ?g_z1 ?g_z2 ?g_z3 ?g_z4 ?g_z5 ?g_z6 ?g_z7 ?g_z8 ?g_z9 ?g_z10 ?g_z11 ?g_z12 ?g_z13 ?g_z14 ?g_z15 ?g_z16 ?g_z17 ?g_z18 ?g_z19 ?g_z20 ?g_z21 ?g_z22 ?g_z23 ?g_z24 ?g_z25 ?g_z26 ?g_z27 ?g_z28 ?g_z29 ?g_z30 ?g_z31 ?g_z32 ?g_z33 ?g_z34 ?g_z35 ?g_z36 ?g_z37 ?g_z38 ?g_z39 ?g_z40 ?g_z41 ?g_z42 ?g_law ?g_z44 ?a_z45 ?l_z45 ?c_z45 ?k_z45 ?tt_z45 ?td_z45 ?rd_z45 ?a_z46 ?l_z46 ?c_z46 ?k_z46 ?tt_z46 ?td_z46 ?rd_z46 ?g_z47 ?g_z48 ?g_z49 ?g_z50 ?g_z51 ?g_z52 ?g_z53 ?g_z54 ?g_z55 ?g_z56 ?g_z57 ?g_z58 ?g_z59 ?g_z60 ?qi_z60 ?hi_z60 ?a_House ?a_Tree ?a_Hold ?a_Loan ?a_TreeError ?a_NoName ?a_Taken ?a_NoHouse ?a_NoPromise ?a_NoWare ?a_NoAmount ?a_NoNumber ?a_TooMany ?a_TooDeep ?a_LETTERS ?r_LETTERS ?a_LONGEST_NAME ?r_LONGEST_NAME ?a_MOST_WARES ?r_MOST_WARES ?a_MOST_HOUSES ?r_MOST_HOUSES ?a_LONGEST_LINE ?r_LONGEST_LINE ?a_GREATEST_WEIGHT ?r_GREATEST_WEIGHT ?q_NoHouse ?q_NoAmount ?q_NoWare ?q_NoName ?q_NoNumber ?q_Taken ?q_TooMany ?q_TooDeep ?CL_House ?CL_Tree ?MK_House ?MK_Tree ?CL_Hold ?CL_Loan ?MK_Hold ?MK_Loan ?ME_Tree_found ?ME_Tree_wares ?ME_Tree_names ?ME_Tree_has ?ME_Tree_check_house ?ME_Tree_house_of ?ME_Tree_elder_of ?ME_Tree_cap_of ?ME_Tree_kids ?ME_Tree_line ?ME_Tree_beneath ?ME_Tree_promised_beneath ?ME_Tree_check_more ?NA_House_elder ?NA_House_promise ?NA_House_cap ?NA_House_weight ?NA_Tree_sorted_wares ?NA_Tree_houses ?NA_Hold_number ?NA_Hold_house ?NA_Hold_amounts ?NA_Hold_rank ?NA_Hold_turns ?NA_Loan_number ?NA_Loan_house ?NA_Loan_amounts ?NA_Loan_rank ?NA_Loan_turns ?y_all ?y_bool ?y_dict ?y_int ?y_isinstance ?y_len ?y_list ?y_max ?y_min ?y_range ?y_reversed ?y_set ?y_sorted ?y_str ?y_sum ?y_zip
  (case a_House=>k_is)
  (case a_Tree=>k_is)
  (case a_Hold=>k_is)
  (case a_Loan=>k_is)
  (case a_TreeError=>k_is)
  (case a_NoName=>k_is)
  (case a_Taken=>k_is)
  (case a_NoHouse=>k_is)
  (case a_NoPromise=>k_is)
  (case a_NoWare=>k_is)
  (case a_NoAmount=>k_is)
  (case a_NoNumber=>k_is)
  (case a_TooMany=>k_is)
  (case a_TooDeep=>k_is)
  all_goals try (refine' ⟨?a,L2.fun_mk ?l ?c ?k⟩;(case a=>k_is);(case l=>k_is);(case c=>k_is);(case k=>k_is))
  (case a_z45=>k_is);(case l_z45=>k_is);(case c_z45=>k_is);(case k_z45=>k_is)
  (case tt_z45=>k_is);(case td_z45=>first|rfl|k_is);(case rd_z45=>first|exact .cons ⟨_,rfl⟩ .nil|exact .cons rfl .nil)
  (case a_z46=>k_is);(case l_z46=>k_is);(case c_z46=>k_is);(case k_z46=>k_is)
  (case tt_z46=>k_is);(case td_z46=>first|rfl|k_is);(case rd_z46=>first|exact .cons ⟨_,rfl⟩ .nil|exact .cons rfl .nil)
  (case qi_z60=>kernel_rfl);(case hi_z60=>k_is)
  (case a_LETTERS=>k_is)
  (case r_LETTERS=>exact⟨_,rfl⟩)
  (case a_LONGEST_NAME=>k_is)
  (case r_LONGEST_NAME=>exact⟨_,rfl⟩)
  (case a_MOST_WARES=>k_is)
  (case r_MOST_WARES=>exact⟨_,rfl⟩)
  (case a_MOST_HOUSES=>k_is)
  (case r_MOST_HOUSES=>exact⟨_,rfl⟩)
  (case a_LONGEST_LINE=>k_is)
  (case r_LONGEST_LINE=>exact⟨_,rfl⟩)
  (case a_GREATEST_WEIGHT=>k_is)
  (case r_GREATEST_WEIGHT=>exact⟨_,rfl⟩)
  (case q_NoHouse=>k_exc)
  (case q_NoAmount=>k_exc)
  (case q_NoWare=>k_exc)
  (case q_NoName=>k_exc)
  (case q_NoNumber=>k_exc)
  (case q_Taken=>k_exc)
  (case q_TooMany=>k_exc)
  (case q_TooDeep=>k_exc)
  (case CL_House=>(constructor <;> first|k_is|kernel_rfl))
  (case CL_Tree=>(constructor <;> first|k_is|kernel_rfl))
  (case MK_House=>(constructor <;> first|k_is|kernel_rfl))
  (case MK_Tree=>(constructor <;> first|k_is|kernel_rfl))
  (case CL_Hold=>(constructor <;> first|k_is|kernel_rfl))
  (case CL_Loan=>(constructor <;> first|k_is|kernel_rfl))
  (case MK_Hold=>(constructor <;> first|k_is|kernel_rfl))
  (case MK_Loan=>(constructor <;> first|k_is|kernel_rfl))
  (case ME_Tree_found=>(constructor <;> first|k_is|kernel_rfl))
  (case ME_Tree_wares=>(constructor <;> first|k_is|kernel_rfl))
  (case ME_Tree_names=>(constructor <;> first|k_is|kernel_rfl))
  (case ME_Tree_has=>(constructor <;> first|k_is|kernel_rfl))
  (case ME_Tree_check_house=>(constructor <;> first|k_is|kernel_rfl))
  (case ME_Tree_house_of=>(constructor <;> first|k_is|kernel_rfl))
  (case ME_Tree_elder_of=>(constructor <;> first|k_is|kernel_rfl))
  (case ME_Tree_cap_of=>(constructor <;> first|k_is|kernel_rfl))
  (case ME_Tree_kids=>(constructor <;> first|k_is|kernel_rfl))
  (case ME_Tree_line=>(constructor <;> first|k_is|kernel_rfl))
  (case ME_Tree_beneath=>(constructor <;> first|k_is|kernel_rfl))
  (case ME_Tree_promised_beneath=>(constructor <;> first|k_is|kernel_rfl))
  (case ME_Tree_check_more=>(constructor <;> first|k_is|kernel_rfl))
  (case NA_House_elder=>k_is)
  (case NA_House_promise=>k_is)
  (case NA_House_cap=>k_is)
  (case NA_House_weight=>k_is)
  (case NA_Tree_sorted_wares=>k_is)
  (case NA_Tree_houses=>k_is)
  (case NA_Hold_number=>k_is)
  (case NA_Hold_house=>k_is)
  (case NA_Hold_amounts=>k_is)
  (case NA_Hold_rank=>k_is)
  (case NA_Hold_turns=>k_is)
  (case NA_Loan_number=>k_is)
  (case NA_Loan_house=>k_is)
  (case NA_Loan_amounts=>k_is)
  (case NA_Loan_rank=>k_is)
  (case NA_Loan_turns=>k_is)
  (case y_all=>k_is)
  (case y_bool=>k_is)
  (case y_dict=>k_is)
  (case y_int=>k_is)
  (case y_isinstance=>k_is)
  (case y_len=>k_is)
  (case y_list=>k_is)
  (case y_max=>k_is)
  (case y_min=>k_is)
  (case y_range=>k_is)
  (case y_reversed=>k_is)
  (case y_set=>k_is)
  (case y_sorted=>k_is)
  (case y_str=>k_is)
  (case y_sum=>k_is)
  (case y_zip=>k_is)
