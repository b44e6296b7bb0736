import PyProof.Rows.All
import Wide.All
import OpenK.AllK
import Wide.FinOn
import Lean
import PyProof.EqAt
import PyProof.EqKinds
import PyProof.TupleCall
import PyProof.NeKinds
import KE.KEqDict
import KE.KRevIter
import PyProof.FactsAll.range_2
import PyProof.ZipIter
import PyProof.FitsReplace
import PyProof.MeetsStr
import PyProof.ListRange
import PyProof.CollectWalk
import PyProof.DictItems
import PyProof.DictItemsLoops
import PyProof.DictValues
import PyProof.DictWalks
import PyProof.StrCalls
import KE.KIsAll
import PyProof.Rows.Range3
import PyProof.Rows.MinMaxN
import PyProof.SumWalkG
import PyProof.MeetsStr2
import PyProof.StrBlockL
import PyProof.Rows.StrNews2
import PyProof.StrLawsOccR
import KE.KIntText
import PyProof.StrLawsIn
import PyProof.Rows.SeqMore2
import PyProof.ListOps
import PyProof.Rows.SeqMore
import PyProof.Rows.SeqGen
import PyProof.EnumFor
import PyProof.EnumMake
import KE.KSortTup
import KE.KDictList
import PySem.Challenge.RW_quotatree_k56_papers_tested
local macro_rules|`(∅)=>`(by decide)
local macro_rules|`(nofun)=>`(fun _ _=>rfl)
local macro_rules|`(↑∅)=>`(by omega)|`(↑$x)=>`(($x).heap.objs.size)
open PySem.W (Frag instObj lookIn plainGet hasDictIn findIn isFn emptyDict specialIn keepIn mroIn kitOne fnOf codeIn excIn nsIn tabIn fnMade envX)
open List renaming length_map->zA,getElem?_eq_getElem->zB,getElem?_map->zC,mem_cons_of_mem->zD,mem_singleton->zE,mem_of_getElem?->zF,mem_cons_self->zG,mem_append->zH,mem_map->zI,length_append->zJ,take_length->zK,map_append->zL,mem_append_right->zM,size_toArray->zN,take_add_one->zO,mem_cons->zP,mem_append_left->zQ,length_cons->zR,length_take->zS,length_singleton->zT,mem_iff_getElem->zU,map_cons->zV,nodup_cons->zW,getElem_mem->zX,append_nil->zY,all_eq_true->zZ,mem_filter->yA,mem_of_mem_take->yB,length_filter_le->yC,not_mem_nil->yD,filter_append->yE,length_replicate->yF,any_eq_true->yG,find?_cons->yH,mem_range->yI,nodup_nil->yJ,length_nil->yK,lookup_cons->yL,map_map->yM,any_cons->yN,all_cons->yO
open PySem renaming Value->uB,Shared->uC,wpAny_bind->uE,Stmt->uJ,FuncData->uK,mainGlobals->uR,wpAny->uU,model->uV,wpAny_pure->uW,Program->uY,starEach->uZ,World->vL,boot_len->vP,Heap->vQ,Around->vR,wpAny_mono->vS,Expr->vV,compareOp->wG,eval->wL,wpAny_holding->wO,backTo->wP,wpAny_truthy_bool->wQ,wpAny_Call_Name_kw->wU,codeAny_mono->xA,Scope->xF,Arguments->xH,wpAny_standAt->xJ,mem_of_lookup->xL,sysModules->xS,assignEach->xT,wpAny_passesOwn->xV,codeAny_builtin->xW,wpAny_richCompare_same_room->yQ,sizeLine_eq->yT,keywordEach->yU,wpAny_call->yV,binaryOp->aE,Builtin->aG,rawInt->aJ,bootBuiltins->aP,wpAny_pyIter_list->aR,compEnvC->aT,wpAny_loadPart_at->aW,behindInMarks->bH,codeAny->bI,attributeBase->bJ,sliceBounds->bK,excClassObj->bM,ExcBaseFacts->bV,backToKw->bY,tupleKind_room_in1->bZ,foldedSetIterable->cD,wpAny_field->cE,wpAny_comprehension_free->cM,plainId_quiet->cN,wpAny_execs_cons->cP,getMethod->cQ,BindsTo->cY,valueAt->dA,wpAny_execs_nil->dC,callWith->dM,tupleKind->dS,swapsWith->dU,cellsFrom->dW,assignInOrder->eD,builtinsNs->eK,nsFind->eP,holding->fF,wpAny_assign_Name->fG,wpAny_newObj_type->fH,bindC->fJ,callerA->fM,relabel->fP,compPost->fQ,assign->gD,setFlight->gE,wpAny_call_entry->gF,scanBound->gG
open PySem.Heap renaming get?_push_of_some->uD,lt_size->uN,get?_push_size->vC,get?_update_other->xB,get?_none_of_le->yS,size_push->aS,SameBut->bU
open Or renaming inl->uF,inr->eS
open Nat renaming le_refl->uG,lt_of_lt_of_le->vD,lt_of_le_of_lt->vF,ne_of_lt->vI,le_trans->vJ,lt_irrefl->wK,zero_le->wR,ne_of_gt->wV,pow_le_pow_right->wW,le_succ->xQ,lt_of_succ_lt_succ->xU,le_of_lt->aQ,lt_trans->aV,lt_succ_self->bE,not_lt_zero->bQ,strongRecOn->bR,lt_or_ge->bW,mul_le_mul->dP,lt_succ_of_lt->fS
open Sum renaming inr->uH,inl->fD
open Option renaming map_eq_some_iff->uI,isSome_map->aU,isSome_iff_exists->cJ,map_some->dE
open List renaming getElem?_eq_some_iff->uL,range->vG,replicate->vZ,length->wF,getElem?_append_right->xE,getElem?_append_left->xG,drop_eq_getElem_cons->yZ,rel_of_pairwise_cons->aA,pairwise_iff_getElem->aB,lookup->aM,getElem?_cons_succ->aN,filter_cons_of_neg->aO,pairwise_map->aY,nodup_append->aZ,filter_cons->bF,mem_flatten->bG,length_pos_iff->bT,perm_ext_iff_of_nodup->cB,append_assoc->cG,length_range->cH,sum_cons->cO,filter_cons_of_pos->cS,mem_flatMap->cT,filter_nil->dF,getElem?_eq_none->dG,contains_iff_mem->dI,filterMap_cons->dZ,pairwise_cons->eY,mem_replicate->fA,take_sublist->fK,map_nil->fL,getElem_take->fT,all_map->fU,getElem_inj->gC
open PySem.AutoSeq1 renaming wpAny_loadPart'->uO
open PySem.Value renaming ref->uP,none->wJ,type->cW,str->dR,isStrOf->eC,bool->eJ,int->gB
open Option.some renaming inj->uQ
open PySem.W renaming Frag->uS,mg_of->vM,mg_none_of->vU,findIn->vY,kia_one->wN,callWith_K->xD,nsIn->xO,methodCall_KW->xY,keepIn->bN,kitOne->bO,Looks->cL,instObj->cU,codeIn->cV,CodeHd->dN,specialIn->dQ,fnOf->dY,plainGet_of->eA,excIn->fB,methodObj->fE,hasDictIn->fZ
open Int renaming emod_nonneg->uT,emod_lt_of_pos->vB,natAbs_natCast->wI,gcd->wS,natAbs_mul->xM,le_trans->yY,zero_add->bX,gcd_dvd_right->cI,mul_pos->dO,toNat->dX,mul_assoc->eI,mul_comm->fV,ne_of_gt->fW,le_of_lt->fX,gcd_dvd_left->gH
open Rat renaming intCast_natCast->uX,intCast_mul->vK,mul_le_mul_of_nonneg_right->wM,mul_nonneg->xN,mul_le_mul_of_nonneg_left->xR,intCast_add->aH,natCast_mul->aI,div_mul_cancel->cA
open Bool renaming false_ne_true->vA,and_eq_true->wH,eq_iff_iff->wY,not_eq_true'->cF,false_or->eF,false_eq_true->eU
open PyProof.Rows renaming boot_isinstance->vE,boot_dict->vW,sortedS->vX,boot_sorted->wB,boot_list->xC,callWith_type1->xZ,envOfC->aC,boot_str->bC,boot_all->bD,AllBare->cC,boot_bool->dB,boot_int->dJ,boot_abs->dL,assignInOrder_cons->eO,StrsAre->fR
open PySem.PassesOwn renaming never->vH
open List.Nodup renaming length_le_of_subset->vN
open False renaming elim->vO
open PySem.F renaming plainAttrs_list->vT,slot_list_append->wC,type_list_append->wD,excBase_ValueError->yX,slot_list_index->cR,slot_dict_get->dH
open Classical renaming byContradiction->wT
open True renaming intro->wZ
open PySem.Around renaming under_plainId->xI
open Ne renaming symm->xK
open PySem.MeetsSeq3 renaming plain_eq_loop->xX,entry_eq_loop->eG
open Sum.inr renaming inj->yR
open Array renaming getElem?_eq_some_iff->yW,getElem?_toList->bB,length_toList->bS,find?_toList->eQ,all_eq_true_iff_forall_mem->fO
open PyProof.Rows.F renaming plain_set_update_loop->aD,entry_set_update_loop->eB
open PySem.Obj renaming mapFields->aF
open PySem.Builtin.Str renaming occurrences->aL
open Nat.succ renaming inj->bA
open PySem.Calls renaming evalArgs_plain->bL,callWith_builtin->cZ,spliced_cons->eR
open PySem.Builtin.List renaming listTooLong->cK
open ForInStep renaming yield->dD
open PySem.Code renaming quiet_builtin->eW
open PySem.SeqAt.EqAt renaming of_refs->eZ
open List.Pairwise renaming nil->fN
open PySem.Builtin.Tuple renaming tupleCompareSizes->fY
set_option compiler.extract_closed false
set_option Elab.async false
set_option linter.all false
set_option maxRecDepth 100000
theorem gI.{u} {c:Prop} {h:Decidable c} (n:¬c) {α:Sort u} {t e:α}:ite c t e=e:=if_neg n
theorem gJ.{u} {c:Prop} {h:Decidable c} (n:c) {α:Sort u} {t e:α}:ite c t e=t:=if_pos n
def gK{p:Prop}[i:Decidable p](h:p):decide p=true:=decide_eq_true h
def gL{p:Prop}[i:Decidable p](h:¬p):decide p=false:=decide_eq_false h
namespace L2
open PySem PySem.Spec PyProof.Rows
variable{us:List uB}{H:Hp}{a b C:Addr}{o:HO}{u:uB}{h:vQ}{X:Cx}{e c:vV}{A:vR}{s:uC}{i:Nat}{x:Str}{pos:Pos}{v:V}{op:CmpOp}{K:uS}{pins:List (Addr×Obj)}{σ:St}{fp:List Addr}{r:R2}
abbrev Key:=Sum Int Str
def keyIs:Key->uB->Bool
 | .inl k,v=>Value.isInt k v
 | .inr x,v=>eC x v
def keyH(w:vL):Key->Int
 | .inl k=>hashInt k
 | .inr x=>hashStr w x
def qbd:∀{k:Key} {v:uB},keyIs k v=true->(∃i t,k=fD i/\v=gB i t)\/(∃x t,k=uH x/\v=dR x t)
 | .inl i,v,h=>by
  obtain⟨t,e⟩:=Value.isInt_shape (k:=i) (v:=v) h;exact .inl ⟨i,t,rfl,e⟩
 | .inr x,v,h=>by
  obtain⟨t,e⟩:=Value.isStrOf_shape (x:=x) (v:=v) h;exact .inr ⟨x,t,rfl,e⟩
def keyIs_int(i:Int)(t:Tok):keyIs (.inl i) (.int i t)=true:=by simp[keyIs,Value.isInt]
def keyIs_str(x:Str)(t:Tok):keyIs (.inr x) (.str x t)=true:=by simp[keyIs,eC]
def key_ll(a b:Int):decide ((fD a:Key)=fD b)=(a==b):=by
 by_cases e:a=b
 .subst e;simp
 .have h:¬(fD a:Key)=fD b:=fun q=>e (Sum.inl.inj q);rw[gL h];exact(beq_eq_false_iff_ne.mpr e).symm
def key_rr(a b:Str):decide ((uH a:Key)=uH b)=decide (a=b):=by
 by_cases e:a=b
 .subst e;simp
 .have h:¬(uH a:Key)=uH b:=fun q=>e (yR q);rw[gL h,gL e]
def key_lr(a:Int)(b:Str):decide ((fD a:Key)=uH b)=false:=gL (fun q=>nomatch q)
def key_rl(a:Str)(b:Int):decide ((uH a:Key)=fD b)=false:=gL (fun q=>nomatch q)
def qbj(prog:uY)(w:vL):PySem.KeyKind prog w Key where
 is:=keyIs
 hash:=keyH w
 inj:=fun v a b ha hb=>by
  rcases qbd ha with⟨i,t,rfl,rfl⟩|⟨x,t,rfl,rfl⟩
  .rcases qbd hb with⟨j,u,rfl,e⟩|⟨y,u,rfl,e⟩
   .injection e with e1 _;rw[e1]
   .exact nomatch e
  .rcases qbd hb with⟨j,u,rfl,e⟩|⟨y,u,rfl,e⟩
   .exact nomatch e
   .injection e with e1 _;rw[e1]
 byValue:=fun k v h=>by
  rcases qbd h with⟨i,t,rfl,rfl⟩|⟨x,t,rfl,rfl⟩<;>rfl
 pyHash:=fun hv h=>by
  rcases qbd hv with⟨i,t,rfl,rfl⟩|⟨x,t,rfl,rfl⟩
  .exact wpAny_pyHash_int h
  .exact wpAny_pyHash_str h
 eqBool:=fun hu hv h=>by
  rcases qbd hu with⟨i,t,rfl,rfl⟩|⟨x,t,rfl,rfl⟩
  .rcases qbd hv with⟨j,u,rfl,rfl⟩|⟨y,u,rfl,rfl⟩
   .rw[key_ll] at h;exact wpAny_eqBool_int h
   .rw[key_lr] at h;exact SeqAt.EqAt.int_str i t y u _ _ _ _ h
  .rcases qbd hv with⟨j,u,rfl,rfl⟩|⟨y,u,rfl,rfl⟩
   .rw[key_rl] at h;exact SeqAt.EqAt.str_int x t j u _ _ _ _ h
   .rw[key_rr] at h;exact wpAny_eqBool_str h
 «strs»:=fun k x t v h=>by
  rcases qbd h with⟨i,u,rfl,e⟩|⟨y,u,rfl,e⟩
  .exact nomatch e
  .injection e with e1 _
   subst e1
   cases v<;>rfl
def mixKind_int(prog:uY)(w:vL)(i:Int)(t:Tok):(qbj prog w).is (.inl i) (.int i t)=true:=keyIs_int i t
def mixKind_str(prog:uY)(w:vL)(x:Str)(t:Tok):(qbj prog w).is (.inr x) (.str x t)=true:=keyIs_str x t
inductive V where
 |non|bl (b:Bool) |int (i:Int) |str (x:Str) |byt (b:Array UInt8) |flt (b:UInt64) |ref (a:Addr) |ty (n:String)
 deriving DecidableEq
def qb8:V->uB->Prop
 | .non,u=>u=wJ
 | .bl b,u=>u=eJ b
 | .int i,u=>∃t,u=gB i t
 | .str x,u=>∃t,u=dR x t
 | .byt b,u=>∃t,u=Value.bytes b t
 | .flt b,u=>∃t,u=Value.float b t
 | .ref a,u=>u=uP a
 | .ty n,u=>u=cW n
abbrev qbk:List V->List uB->Prop:=Paired qb8
theorem qbk.length{xs:List V}(r:qbk xs us):xs.length=us.length:=Paired.length r
theorem qbk.get:∀{xs:List V} {us:List uB} {i:Nat} {x:V},qbk xs us->xs[i]?=some x->∃u,us[i]?=some u/\qb8 x u
 |_,_,_,_,.nil,e=>by simp at e
 |_,_,0,_,.cons r _,e=>by simp at e;subst e;exact⟨_,rfl,r⟩
 |_,_,i+1,x,.cons _ t,e=>by
  obtain⟨u,h1,h2⟩:=qbk.get (i:=i) (x:=x) t (by simpa using e);exact⟨u,by simpa using h1,h2⟩
theorem qbk.append:∀{xs ys:List V} {us ws:List uB},qbk xs us->qbk ys ws->qbk (xs++ys) (us++ws)
 |_,_,_,_,.nil,s=>s
 |_,_,_,_,.cons r t,s=> .cons r (qbk.append t s)
theorem qbk.take:∀{xs:List V} {us:List uB} (n:Nat),qbk xs us->qbk (xs.take n) (us.take n)
 |_,_,0,_=> .nil
 |_,_,_+1,.nil=> .nil
 |_,_,n+1,.cons r t=> .cons r (qbk.take n t)
theorem qbk.drop:∀{xs:List V} {us:List uB} (n:Nat),qbk xs us->qbk (xs.drop n) (us.drop n)
 |_,_,0,r=>r
 |_,_,_+1,.nil=> .nil
 |_,_,n+1,.cons _ t=>qbk.drop n t
def qh7:Option V->Option uB->Prop
 |some v,some u=>qb8 v u
 |none,none=>True
 |_,_=>False
def KV{κ:Type}:List (κ×V)->List (κ×uB)->Prop:=Paired fun(p:κ×V) (q:κ×uB)=>p.1=q.1/\qb8 p.2 q.2
def kV:Key->V
 | .inl i=> .int i
 | .inr x=> .str x
inductive HO where
 |lst(xs:List V)
 |tup(xs:List V)
 |dK(kvs:List (Key×V)) |dT (kvs:List (List Key×V))
 |set(S:Int->Bool)(n:Nat)
 |ins(C dx:Addr)(fs:List (Str×V))
 |own(x:Addr)
 |xd(fs:List (Str×V))
 |met(f x:Addr)
 |rng(lo hi:Int)
 |frz(o:Obj)(u:HO)
 |tbl(ps:Array uB)
 |ext(φ:vQ->Prop)
abbrev Hp:=Addr->Option HO
def upd(H:Hp)(a:Addr)(o:HO):Hp:=fun b=>if b=a then some o else H b
def qa1:upd H a o a=some o:=by unfold upd;rw[gJ rfl]
def qa7(h:b≠a):upd H a o b=H b:=by unfold upd;rw[gI h]
def qcx{u:HO} :upd (upd H a o) a u=upd H a u:=by
 funext b;unfold upd;split<;>rfl
def ne_of{u:HO}(h:H a=some o)(h':H b=some u)(d:o≠u):a≠b:=by
 intro e;subst e;rw[h] at h';exact d (uQ h')
def qa9(h:H a=some o)(h':H b=none):a≠b:=by
 intro e;subst e;rw[h] at h';cases h'
section
variable(P:uY)(w:vL)
def qbv(H:Hp)(h:vQ)(a:Addr):HO->Prop
 | .lst xs=>xs.length<=sizeLine/\∃(its:List uB)(n:Nat),qbk xs its/\h.get? a=some {cls:=.type "list",data:=.seq its.toArray n}
 | .tup xs=>xs.length<=sizeLine/\∃its:List uB,qbk xs its/\IsTup h a its.toArray
 | .dK kvs=>kvs.length<=sizeLine/\(a==xS)=false/\∃vs,KV kvs vs/\h.DictOf (qbj P w) a vs
 | .dT kvs=>kvs.length<=sizeLine/\(a==xS)=false/\∃xs:List (List Key×Addr×uB),
   Paired (fun(p:List Key×V) (q:List Key×Addr×uB)=>p.1=q.1/\H q.2.1=some (.tup (p.1.map kV))/\qb8 p.2 q.2.2) kvs xs/\
   ∃o es ep,h.get? a=some o/\o.ExactDict/\o.data=.dict es ep/\es.toList=xs.map (entryOfKey (dS (qbj P w)))/\(xs.map (·.1)).Nodup
 | .set S n=>h.SetOf (intKind P w) a S n
 | .ins C dx fs=>H dx=some (.own a)/\fs.length<=1000/\dx≠a/\h.get? a=some (cU C dx)/\
   ∃mA,h.Ns1 dx mA/\(∀f,qh7 (fs.lookup f) (mA f))/\PySem.Within mA (fs.map (·.1))
 | .own _=>∃o,h.get? a=some o
 | .xd fs=>∃mA,h.Ns1 a mA/\∀f,qh7 (fs.lookup f) (mA f)
 | .rng lo hi=>∃t u v,h.get? a=some {cls:=.type "range",data:=.fields #[.int lo t,.int hi u,.int 1 v]}
 | .frz o u=>h.get? a=some o/\qbv H h a u
 | .tbl ps=>h.get? a=some {cls:=.none,data:=.fields ps}
 | .met f x=>h.get? a=some (fE (.ref f) (.ref x))
 | .ext φ=>φ h/\(∃o,h.get? a=some o)/\∀h1 h2:vQ,φ h1->(∀o,h1.get? a=some o->h2.get? a=some o)->φ h2
def HOk(H:Hp)(h:vQ):Prop:=∀a o,H a=some o->qbv P w H h a o
end
section
variable{P:uY}{w:vL}{H H':Hp}{h h':vQ}{a:Addr}{o:HO}
theorem qbv.lt(x:qbv P w H h a o):a<h.objs.size:=by
 cases o with
 |lst xs=>obtain⟨_,_,_,_,e⟩:=x;exact uN e
 |tup xs=>obtain⟨_,_,_,p⟩:=x;exact p.lt
 |dK kvs=>obtain⟨_,_,_,_,o,_,_,e,_⟩:=x;exact uN e
 |dT kvs=>obtain⟨_,_,_,_,o,_,_,e,_⟩:=x;exact uN e
 |set S n=>obtain⟨o,_,_,_,e,_⟩:=x;exact uN e
 |ins C dx fs=>obtain⟨_,_,_,e,_⟩:=x;exact uN e
 |own y=>obtain⟨_,e⟩:=x;exact uN e
 |xd fs=>obtain⟨_,⟨_,_,_,e,_⟩,_⟩:=x;exact uN e
 |rng lo hi=>obtain⟨_,_,_,e⟩:=x;exact uN e
 |frz ob u=>obtain⟨e,_⟩:=x;exact uN e
 |tbl ps=>exact uN (show h.get? a=some _ from x)
 |met f y=>exact uN (show h.get? a=some _ from x)
 |ext φ=>obtain⟨_,⟨_,e⟩,_⟩:=x;exact uN e
theorem Paired.mapP{α β:Type}{F G:α->β->Prop}:∀{l₁:List α} {l₂:List β},Paired F l₁ l₂->(∀a b,F a b->G a b)->Paired G l₁ l₂
 |_,_,.nil,_=> .nil
 |_,_,.cons r t,f=> .cons (f _ _ r) (Paired.mapP t f)
def qbv.stay(x:qbv P w H h a o)(k:∀b u,(b=a\/H b=some (.own a))->h.get? b=some u->h'.get? b=some u)
  (ho:∀b,H b=some (.own a)->H' b=some (.own a))(ht:∀b xs,H b=some (.tup xs)->H' b=some (.tup xs)):qbv P w H' h' a o:=by
 induction o with
 |lst xs=>obtain⟨z,its,n,r,e⟩:=x;exact⟨z,its,n,r,k _ _ (.inl rfl) e⟩
 |tup xs=>obtain⟨z,its,r,ob,e,c⟩:=x;exact⟨z,its,r,ob,k _ _ (.inl rfl) e,c⟩
 |dK kvs=>obtain⟨z,y,vs,r,ob,es,ep,e,c⟩:=x;exact⟨z,y,vs,r,ob,es,ep,k _ _ (.inl rfl) e,c⟩
 |dT kvs=>
  obtain⟨z,y,xs,r,ob,es,ep,e,c⟩:=x;exact⟨z,y,xs,Paired.mapP r fun p q z=>⟨z.1,ht _ _ z.2.1,z.2.2⟩,ob,es,ep,k _ _ (.inl rfl) e,c⟩
 |set S n=>obtain⟨ob,es,ep,t,e,c⟩:=x;exact⟨ob,es,ep,t,k _ _ (.inl rfl) e,c⟩
 |ins C dx fs=>
  obtain⟨d,z,ne,e,mA,⟨od,es,ep,e2,c⟩,r⟩:=x;exact⟨ho _ d,z,ne,k _ _ (.inl rfl) e,mA,⟨od,es,ep,k _ _ (.inr d) e2,c⟩,r⟩
 |own y=>obtain⟨ob,e⟩:=x;exact⟨ob,k _ _ (.inl rfl) e⟩
 |xd fs=>obtain⟨mA,⟨od,es,ep,e,c⟩,r⟩:=x;exact⟨mA,⟨od,es,ep,k _ _ (.inl rfl) e,c⟩,r⟩
 |rng lo hi=>obtain⟨t,u,v,e⟩:=x;exact⟨t,u,v,k _ _ (.inl rfl) e⟩
 |frz ob u ih=>obtain⟨e,q⟩:=x;exact⟨k _ _ (.inl rfl) e,ih q⟩
 |tbl ps=>
  have e:h.get? a=some {cls:=.none,data:=.fields ps}:=x;show h'.get? a=some {cls:=.none,data:=.fields ps};exact k a _ (.inl rfl) e
 |met f y=>
  have e:h.get? a=some (fE (.ref f) (.ref y)):=x;show h'.get? a=some (fE (.ref f) (.ref y));exact k a _ (.inl rfl) e
 |ext φ=>obtain⟨p,⟨o,e⟩,st⟩:=x;exact⟨st _ _ p fun o q=>k _ _ (.inl rfl) q,⟨o,k _ _ (.inl rfl) e⟩,st⟩
theorem HOk.lt(x:HOk P w H h)(e:H a=some o):a<h.objs.size:=(x a o e).lt
def HOk.fresh(x:HOk P w H h)(e:h.objs.size<=a):H a=none:=by
 cases q:H a with
 |none=>rfl
 |some u=>exact absurd (vD (x.lt q) e) (wK _)
def HOk.kept(x:HOk P w H h)(k:∀b u,h.get? b=some u->h'.get? b=some u):HOk P w H h':=fun a o e=>
 (x a o e).stay (fun b u _ q=>k b u q) (fun _ q=>q) fun _ _ q=>q
def HOk.laid(x:HOk P w H h)(k:∀b u,h.get? b=some u->h'.get? b=some u)(hp:h.objs.size<=a)(new:qbv P w (upd H a o) h' a o):HOk P w (upd H a o) h':=fun b u e=>by
 have hn:=x.fresh hp;by_cases hb:b=a
 .subst hb;rw[qa1] at e;cases e;exact new
 .rw[qa7 hb] at e;exact(x b u e).stay (fun c v _ q=>k c v q) (fun c q=>by rw[qa7 (qa9 q hn)];exact q) fun c xs q=>by rw[qa7 (qa9 q hn)];exact q
end
def Rd(H:Hp)(a:Addr)(u:HO):Prop:=H a=some u\/∃o,H a=some (.frz o u)
def Rd.of{u:HO}(h:H a=some u):Rd H a u:=.inl h
def Rd.ok{P:uY}{w:vL}{u:HO}(r:Rd H a u)(x:HOk P w H h):qbv P w H h a u:=by
 rcases r with r|⟨o,r⟩
 .exact x a u r
 .obtain⟨_,q⟩:=x a _ r;exact q
def Mut:Option HO->Prop
 |some (.lst _)=>True
 |some (.dK _)=>True
 |some (.dT _)=>True
 |some (.set _ _)=>True
 |some (.ins _ _ _)=>True
 |some (.ext _)=>True
 |_=>False
section
variable{P:uY}{w:vL}{H:Hp}{h h':vQ}{x e:Addr}{o':HO}
def HOk.write(ok:HOk P w H h)(mu:Mut (H x))(he:e=x\/H e=some (.own x))(k:∀b u,b≠e->h.get? b=some u->h'.get? b=some u)(heo:∃u,h'.get? e=some u)
  (new:qbv P w (upd H x o') h' x o'):HOk P w (upd H x o') h':=fun b u q=>by
 have nown:∀c y,H c=some (.own y)->c≠x:=fun c y r z=>by subst z;rw[r] at mu;exact mu
 have ntup:∀c xs,H c=some (.tup xs)->c≠x:=fun c xs r z=>by subst z;rw[r] at mu;exact mu
 by_cases hb:b=x
 .subst hb;rw[qa1] at q;cases q;exact new
 .rw[qa7 hb] at q;by_cases hbe:b=e
  .have q':H b=some (.own x):=by
    rcases he with z|z
    .exact absurd (hbe.trans z) hb
    .rw[hbe];exact z
   rw[q] at q';cases q';obtain⟨v,hv⟩:=heo;exact⟨v,by rw[hbe];exact hv⟩
  .refine(ok b u q).stay (fun c v hc r=>k c v ?_ r) (fun c r=>by rw[qa7 (nown c b r)];exact r) fun c xs r=>by rw[qa7 (ntup c xs r)];exact r
   rcases hc with rfl|hc
   .exact hbe
   .rintro rfl;rcases he with z|z
    .exact nown c b hc z
    .rw[hc] at z;cases z;exact hb rfl
end
structure Un(fs ex:List Addr)(H H':Hp)(h h':vQ):Prop where
 keep:∀b o,h.get? b=some o->H b=none->b∉fs->b∉ex->h'.get? b=some o
 slot:∀b o,h.get? b=some o->H b=none->b∈fs->b∉ex->∃sl,h'.get? b=some {o with slots:=sl}
 free:∀b o,h.get? b=some o->H b=none->b∉ex->H' b=none
 there:∀b o,h.get? b=some o->b∉ex->∃o',h'.get? b=some o'
 tups:∀b xs,H b=some (.tup xs)->H' b=some (.tup xs)
 frzs:∀b o u,H b=some (.frz o u)->H' b=some (.frz o u)
 tbls:∀b ps,H b=some (.tbl ps)->∃more,H' b=some (.tbl (ps++more))
section
variable{fs ex:List Addr}{H H1:Hp}{h h1 h':vQ}{a x e:Addr}{o:HO}
def Un.any(u:Un fs ex H H1 h h1){b:Addr}{ob:Obj}(q:h.get? b=some ob)(n:H b=none)(hx:b∉ex):∃sl,h1.get? b=some {ob with slots:=sl}:=by
 by_cases hb:b∈fs
 .exact u.slot b ob q n hb hx
 .exact⟨ob.slots,u.keep b ob q n hb hx⟩
def Un.kept(k:∀b u,h.get? b=some u->h'.get? b=some u):Un fs ex H H h h':=
 ⟨fun b ob q _ _ _=>k b ob q,fun b ob q _ _ _=>⟨ob.slots,k b ob q⟩,fun _ _ _ n _=>n,fun b ob q _=>⟨ob,k b ob q⟩,fun _ _ q=>q,fun _ _ _ q=>q,fun _ ps q=>⟨#[],by rw[q];simp⟩⟩
def Un.refl:Un fs ex H H h h:=Un.kept fun _ _ q=>q
def Un.laid(k:∀b u,h.get? b=some u->h'.get? b=some u)(hp:h.objs.size<=a)(hn:H a=none):Un fs ex H (upd H a o) h h' where
 keep:=fun b u q _ _ _=>k b u q
 slot:=fun b u q _ _ _=>⟨u.slots,k b u q⟩
 free:=fun b u q n _=>by rw[qa7 (vI (vD (uN q) hp))];exact n
 there:=fun b u q _=>⟨u,k b u q⟩
 tups:=fun b xs q=>by rw[qa7 (qa9 q hn)];exact q
 frzs:=fun b u xs q=>by rw[qa7 (qa9 q hn)];exact q
 tbls:=fun b ps q=>⟨#[],by rw[qa7 (qa9 q hn),q];simp⟩
def Un.write(mu:Mut (H x))(he:e=x\/H e=some (.own x))(k:∀b u,b≠e->h.get? b=some u->h'.get? b=some u)(heo:∃u,h'.get? e=some u):Un fs ex H (upd H x o) h h':=by
 have hx:∀b,H b=none->b≠x:=fun b n z=>by subst z;rw[n] at mu;exact mu
 have hb:∀b,H b=none->b≠e:=fun b n z=>by
  subst z;rcases he with r|r
  .exact hx b n r
  .rw[n] at r;cases r
 have hm:∀b u,H b=some u->¬Mut (some u)->b≠x:=fun b u q nm z=>by subst z;rw[q] at mu;exact nm mu
 refine⟨fun b u q n _ _=>k b u (hb b n) q,fun b u q n _ _=>⟨u.slots,k b u (hb b n) q⟩,fun b u q n _=>by rw[qa7 (hx b n)];exact n,fun b u q _=>?_,
  fun b xs q=>by rw[qa7 (hm b _ q fun z=>z)];exact q,fun b u xs q=>by rw[qa7 (hm b _ q fun z=>z)];exact q,fun b ps q=>⟨#[],by rw[qa7 (hm b _ q fun z=>z),q];simp⟩⟩
 by_cases hbe:b=e
 .subst hbe;exact heo
 .exact⟨u,k b u hbe q⟩
end
def trk(h:vQ)(H:Hp):List Addr:=(vG h.objs.size).filter fun a=>(H a).isSome
def hidT(h:vQ)(H:Hp):vQ:=PySem.W.hideAll h (trk h H)
def hidT_size(h:vQ)(H:Hp):(hidT h H).objs.size=h.objs.size:=PySem.W.hideAll_size _ _
def hidT_get{o:Obj}(e:h.get? b=some o)(n:H b=none):(hidT h H).get? b=some o:=
 PySem.W.hideAll_get _ e fun hm=>by
  have q:(H b).isSome=true:=(yA.mp hm).2;rw[n] at q;simp at q
def of_hidT{o:Obj}(e:(hidT h H).get? b=some o):h.get? b=some o/\H b=none:=by
 have e':h.get? b=some o:=PySem.W.of_hideAll (trk h H) e;refine⟨e',?_⟩
 cases q:H b with
 |none=>rfl
 |some x=>
  have hm:b∈trk h H:=yA.mpr ⟨yI.mpr (uN e'),by simp[q]⟩;have z:(hidT h H).get? b=none:=PySem.W.hideAll_none (trk h H) hm;rw[z] at e;cases e
def allNews(g h:vQ)(L:Addr):List (Addr×Obj):=(vG h.objs.size).filterMap fun a=>if a=L\/(g.get? a).isSome=true then none else(h.get? a).map fun o=>(a,o)
def rest(g h:vQ)(L d:Addr):List (Addr×Obj):=(allNews g h L).filter fun p=>decide (p.1≠d)
structure Mod(K:uS)(mg:Str->Option uB)(base:vQ):Prop where
 kin:K.In base
 glob:base.Ns uR mg
 blt:∃mb,base.Ns eK mb/\∀x:Str,x≠"__name__"->mb x=aP x
 nolimit:base.NoLimit
structure Cx where
 prog:uY
 w:vL
 K:uS
 mg:Str->Option uB
 base:vQ
 A:vR
 N:List Str
 s₀:uC
 H₀:Hp
 env:Env
 outer:List Env
 stack:List Env
 ex:List Addr
 fn:Str->Bool
 calm:Bool
 pn:List (Addr×Obj)
 xe:uB->uC->Prop
def frs(l:List Env):List Addr:=l.filterMap (·.frame)
abbrev Cx.fs(X:Cx):List Addr:=frs X.outer
def Vis(sc:xF)(x:Str):Prop:=sc.names.lookup x=some .local\/sc.names.lookup x=some .cell\/sc.names.lookup x=some .free
def Loc(sc:xF)(x:Str):Prop:=sc.names.lookup x=some .local\/sc.names.lookup x=some .cell
def Look(env:Env)(h:vQ)(m:Str->Option uB)(x:Str)(u:uB):Prop:=
 (env.kindOf x=some .local/\m x=some u)\/((env.kindOf x=some .cell\/env.kindOf x=some .free)/\∃c,env.cells.lookup x=some c/\h.IsCell c (some u))
structure Cx.Ok(X:Cx):Prop where
 mod:Mod X.K X.mg X.base
 kind:X.env.scope.kind=.function
 glob:X.env.globals=uR
 blt:X.env.builtins=eK
 above:↑X.s₀<=X.env.locals
 inj:∀x y c,X.env.cells.lookup x=some c->X.env.cells.lookup y=some c->x=y
 has:∀x,(X.env.kindOf x=some .cell\/X.env.kindOf x=some .free)->∃c,X.env.cells.lookup x=some c
 cab:∀x c,X.fn x=true->X.env.cells.lookup x=some c->↑X.s₀<=c
 hd:X.calm=true->X.A.handled=none
 frames:X.A.frames=some X.stack
 stk:X.stack=X.outer\/(X.stack=X.env::X.outer/\X.env.frame=some X.env.locals)
 exf:∀b∈X.ex,b≠X.env.locals/\∀x c,X.env.cells.lookup x=some c->c≠b
 bs:∀b o,X.base.get? b=some o->X.s₀.heap.get? b=some o/\X.H₀ b=none
 bsz:X.base.objs.size<=↑X.s₀
 noex:∀b o,X.base.get? b=some o->b∉X.ex
 exfs:∀b∈X.ex,b∉X.fs
 funs:X.s₀.heap.FunFrames X.base X.outer
 frf:∀b∈X.fs,X.H₀ b=none
structure Inv(X:Cx)(pins:List (Addr×Obj))(σ:List (Option V))(H:Hp)(s:uC):Prop where
 ok:X.Ok
 os:s.os=X.s₀.os
 bare:cC s.gens
 base:Un X.fs X.ex X.H₀ H X.s₀.heap s.heap
 loc:∃m,s.heap.Ns X.env.locals m/\∀(i:Nat)(x:Str)(v:V),X.N[i]?=some x->σ[i]?=some (some v)->Vis X.env.scope x->∃u,qb8 v u/\Look X.env s.heap m x u
 cell:∀x c,X.env.cells.lookup x=some c->∃v,s.heap.IsCell c v
 free:H X.env.locals=none
 freeC:∀x c,X.env.cells.lookup x=some c->H c=none
 pin:∀p∈X.pn++pins,s.heap.get? p.1=some p.2/\H p.1=none/\p.1≠X.env.locals/\p.1∉X.fs/\∀v,p.2.data≠ .cell v
 hok:HOk X.prog X.w H s.heap
 len:σ.length=X.N.length
section
variable{X:Cx}{pins:List (Addr×Obj)}{σ:List (Option V)}{H H':Hp}{s:uC}{h':vQ}
def Cx.Ok.nofr(ok:X.Ok){b:Addr}{o:Obj}(e:X.base.get? b=some o):b∉X.fs:=fun hb=>by
 have:=(ok.funs.mem hb).1;rw[e] at this;cases this
theorem Inv.bs(I:Inv X pins σ H s):∀b o,X.base.get? b=some o->s.heap.get? b=some o/\H b=none:=fun b o e=>
 ⟨I.base.keep b o (I.ok.bs b o e).1 (I.ok.bs b o e).2 (I.ok.nofr e) (I.ok.noex b o e),I.base.free b o (I.ok.bs b o e).1 (I.ok.bs b o e).2 (I.ok.noex b o e)⟩
def Inv.bk(I:Inv X pins σ H s):∀b o,X.base.get? b=some o->s.heap.get? b=some o:=fun b o e=>(I.bs b o e).1
theorem Inv.mod(I:Inv X pins σ H s):Mod X.K X.mg X.base:=I.ok.mod
def Inv.kIn(I:Inv X pins σ H s):X.K.In s.heap:=I.ok.mod.kin.keeps I.bk
theorem Inv.lt(I:Inv X pins σ H s):X.env.locals<↑s:=let ⟨_,hn,_⟩:=I.loc;hn.lt
def Inv.sz(I:Inv X pins σ H s):↑X.s₀<=↑s:=vJ I.ok.above (aQ I.lt)
def Inv.nofs(I:Inv X pins σ H s){a:Addr}(h:↑s<=a):a∉X.fs:=fun hb=>by
 obtain⟨_,o,ho,_⟩:=I.ok.funs.mem hb;exact absurd (vD (uN ho) (vJ I.sz h)) (wK _)
def Inv.cne(I:Inv X pins σ H s):∀x c,X.env.cells.lookup x=some c->c≠X.env.locals:=fun x c e z=>by
 obtain⟨v,o,ho,hd⟩:=I.cell x c e;obtain⟨m,⟨o',es,ep,ho',hd',_⟩,_⟩:=I.loc;rw[z,ho'] at ho;cases ho;rw[hd'] at hd;cases hd
theorem Inv.funs(I:Inv X pins σ H s):s.heap.FunFrames X.base X.outer:=by
 have all:∀(l:List Env),(∀b∈frs l,b∈X.fs)->X.s₀.heap.FunFrames X.base l->s.heap.FunFrames X.base l:=by
  intro l
  induction l with
  |nil=>intro _ _;trivial
  |cons env r ih=>
   intro hs hl;obtain⟨hk,⟨L,o,hf,hn,ho,hd⟩,hr⟩:=hl;have hL:L∈X.fs:=hs L (by unfold frs;rw[dZ,hf];exact zG);obtain⟨sl,e⟩:=I.base.slot L o ho (I.ok.frf L hL) hL fun z=>I.ok.exfs L z hL;exact⟨hk,⟨L,_,hf,hn,e,hd⟩,ih (fun b hb=>hs b (by unfold frs;rw[dZ,hf];exact zD _ hb)) hr⟩
 exact all X.outer (fun _ hb=>hb) I.ok.funs
theorem Inv.stack(I:Inv X pins σ H s):s.heap.FunFrames X.base X.stack:=by
 rcases I.ok.stk with e|⟨e,hf⟩
 .rw[e];exact I.funs
 .rw[e];obtain⟨m,hn,_⟩:=I.loc;refine .cons (by rw[I.ok.kind];decide) hf hn ?_ I.funs;exact yS (vJ I.ok.bsz I.ok.above)
def Inv.stkSub(I:Inv X pins σ H s):∀b∈frs X.stack,b∈X.env.locals::X.fs:=fun b hb=>by
 rcases I.ok.stk with e|⟨e,hf⟩
 .rw[e] at hb;exact zD _ hb
 .rw[e] at hb;unfold frs at hb;rw[dZ,hf] at hb;exact hb
def Inv.stkFree(I:Inv X pins σ H s):∀b∈frs X.stack,H b=none:=fun b hb=>by
 rcases zP.mp (I.stkSub b hb) with e|hb
 .rw[e];exact I.free
 .obtain⟨_,o,ho,_⟩:=I.ok.funs.mem hb;exact I.base.free b o ho (I.ok.frf b hb) fun z=>I.ok.exfs b z hb
def Inv.step{g':Array GenState}{t':Nat}{d':Drawn}{ch:List Addr}(I:Inv X pins σ H s)
  (hch:∀b∈ch,(b∈X.ex\/↑X.s₀<=b)/\b≠X.env.locals/\(∀x c,X.env.cells.lookup x=some c->c≠b)/\∀p∈X.pn++pins,p.1≠b)
  (keep:∀b o,b≠X.env.locals->b∉X.fs->b∉ch->s.heap.get? b=some o->H b=none->h'.get? b=some o)
  (slot:∀b o,b≠X.env.locals->b∈X.fs->b∉ch->s.heap.get? b=some o->H b=none->∃sl,h'.get? b=some {o with slots:=sl})(free:∀b o,b∉ch->s.heap.get? b=some o->H b=none->H' b=none)
  (there:∀b o,b∉ch->s.heap.get? b=some o->∃o',h'.get? b=some o')
  (tups:∀b xs,H b=some (.tup xs)->H' b=some (.tup xs))(frzs:∀b o u,H b=some (.frz o u)->H' b=some (.frz o u))(tbls:∀b ps,H b=some (.tbl ps)->∃more,H' b=some (.tbl (ps++more)))
  (ns:∀m,s.heap.Ns X.env.locals m->h'.Ns X.env.locals m)(hok:HOk X.prog X.w H' h')(hg:cC g'):
  Inv X pins σ H' {s with heap:=h',gens:=g',drawn:=d',toks:=t'}:=by
 have neL:∀b o,X.s₀.heap.get? b=some o->b≠X.env.locals:=fun b o e=>vI (vD (uN e) I.ok.above);have neC:∀b o,X.s₀.heap.get? b=some o->b∉X.ex->b∉ch:=fun b o e hx hb=>by
  rcases(hch b hb).1 with z|z
  .exact hx z
  .exact absurd (vD (uN e) z) (wK _)
 have cellK:∀x c,X.env.cells.lookup x=some c->∀v,s.heap.IsCell c v->h'.IsCell c v:=fun x c e v ⟨o,ho,hd⟩=>by
  have nch:c∉ch:=fun z=>(hch c z).2.2.1 x c e rfl;by_cases hc:c∈X.fs
  .obtain⟨sl,q⟩:=slot c o (I.cne x c e) hc nch ho (I.freeC x c e);exact⟨_,q,hd⟩
  .exact⟨o,keep c o (I.cne x c e) hc nch ho (I.freeC x c e),hd⟩
 refine⟨I.ok,I.os,hg,⟨fun b o e n hb hx=>?_,fun b o e n hb hx=>?_,fun b o e n hx=>?_,fun b o e hx=>?_,fun b xs e=>tups b xs (I.base.tups b xs e),fun b o xs e=>frzs b o xs (I.base.frzs b o xs e),fun b ps e=>?_⟩,?_,fun x c e=>?_,?_,fun x c e=>?_,fun p hp=>?_,hok,I.len⟩
 .exact keep b o (neL b o e) hb (neC b o e hx) (I.base.keep b o e n hb hx) (I.base.free b o e n hx)
 .obtain⟨sl,e1⟩:=I.base.slot b o e n hb hx;obtain⟨sl',e2⟩:=slot b _ (neL b o e) hb (neC b o e hx) e1 (I.base.free b o e n hx);exact⟨sl',e2⟩
 .obtain⟨o',e1⟩:=I.base.there b o e hx;exact free b o' (neC b o e hx) e1 (I.base.free b o e n hx)
 .obtain⟨o',e1⟩:=I.base.there b o e hx;exact there b o' (neC b o e hx) e1
 .obtain⟨m1,e1⟩:=I.base.tbls b ps e;obtain⟨m2,e2⟩:=tbls b _ e1;exact⟨m1++m2,by rw[e2,Array.append_assoc]⟩
 .obtain⟨m,hn,hl⟩:=I.loc;refine⟨m,ns m hn,fun i x v e1 e2 e3=>?_⟩;obtain⟨u,r,l⟩:=hl i x v e1 e2 e3;refine⟨u,r,?_⟩;rcases l with l|⟨k,c,e,z⟩
  .exact .inl l
  .exact .inr ⟨k,c,e,cellK x c e _ z⟩
 .obtain⟨v,z⟩:=I.cell x c e;exact⟨v,cellK x c e v z⟩
 .obtain⟨m,⟨o,_,_,ho,_⟩,_⟩:=I.loc;exact free _ o (fun z=>(hch _ z).2.1 rfl) ho I.free
 .obtain⟨v,o,ho,hd⟩:=I.cell x c e;exact free c o (fun z=>(hch c z).2.2.1 x c e rfl) ho (I.freeC x c e)
 .obtain⟨e,n,ne,nf,d⟩:=I.pin p hp;have nch:p.1∉ch:=fun z=>(hch p.1 z).2.2.2 p hp rfl;exact⟨keep p.1 p.2 ne nf nch e n,free p.1 p.2 nch e n,ne,nf,d⟩
def Inv.un{t':Nat}(I:Inv X pins σ H s)(u:Un X.fs [] H H' s.heap h')(hok:HOk X.prog X.w H' h'):Inv X pins σ H' {s with heap:=h',toks:=t'}:=by
 obtain⟨m,⟨o,es,ep,ho,r⟩,_⟩:=id I.loc;obtain⟨sl,hL⟩:=u.any ho I.free (by simp);exact I.step (g':=s.gens) (d':=s.drawn) (ch:=[]) (fun _ z=>nomatch z) (fun b o _ hb _ e n=>u.keep b o e n hb (by simp)) (fun b o _ hb _ e n=>u.slot b o e n hb (by simp)) (fun b o _ e n=>u.free b o e n (by simp)) (fun b o _ e=>u.there b o e (by simp)) u.tups u.frzs u.tbls (fun m' hm=>by
  obtain⟨o',es',ep',ho',r'⟩:=hm;rw[ho] at ho';cases ho';exact⟨_,es',ep',hL,r'⟩) hok I.bare
def Inv.call{g':Array GenState}{t':Nat}{d':Drawn}{ch:List Addr}(I:Inv X pins σ H s)(u:Un (frs X.stack) ch H H' s.heap h')(hok:HOk X.prog X.w H' h')(hg:cC g')
  (hch:∀b∈ch,(b∈X.ex\/↑X.s₀<=b)/\b≠X.env.locals/\(∀x c,X.env.cells.lookup x=some c->c≠b)/\∀p∈X.pn++pins,p.1≠b):
  Inv X pins σ H' {s with heap:=h',gens:=g',drawn:=d',toks:=t'}:=by
 obtain⟨m,⟨o,es,ep,ho,r⟩,_⟩:=id I.loc;obtain⟨sl,hL⟩:=u.any ho I.free fun z=>(hch _ z).2.1 rfl;exact I.step (ch:=ch) hch (fun b o hL hb hc e n=>u.keep b o e n (fun z=>(zP.mp (I.stkSub b z)).elim hL hb) hc) (fun b o _ _ hc e n=>u.any e n hc) (fun b o hc e n=>u.free b o e n hc) (fun b o hc e=>u.there b o e hc) u.tups u.frzs u.tbls (fun m' hm=>by
  obtain⟨o',es',ep',ho',r'⟩:=hm;rw[ho] at ho';cases ho';exact⟨_,es',ep',hL,r'⟩) hok hg
def Inv.turned{t':Nat}{it:Addr}(I:Inv X pins σ H s)(k:∀b o,b≠it->s.heap.get? b=some o->h'.get? b=some o)(hn:H it=none)(hL:it≠X.env.locals)
  (h1:it∈X.ex\/↑X.s₀<=it)(h2:∀x c,X.env.cells.lookup x=some c->c≠it)(h3:∀p∈X.pn++pins,p.1≠it):Inv X pins σ H {s with heap:=h',toks:=t'}:=by
 have nit:∀b u,H b=some u->b≠it:=fun b u e z=>by rw[z,hn] at e;cases e
 refine I.step (g':=s.gens) (d':=s.drawn) (ch:=[it]) (fun b hb=>?_) (fun b o _ _ hc e _=>k b o (fun z=>hc (by simp[z])) e) (fun b o _ _ hc e _=>⟨o.slots,k b o (fun z=>hc (by simp[z])) e⟩) (fun _ _ _ _ n=>n)
  (fun b o hc e=>⟨o,k b o (fun z=>hc (by simp[z])) e⟩) (fun _ _ e=>e) (fun _ _ _ e=>e) (fun b ps e=>⟨#[],by rw[e];simp⟩) (fun m hm=>?_) (fun b u e=>?_) I.bare
 .have e:b=it:=by simpa using hb
  subst e;exact⟨h1,hL,h2,h3⟩
 .obtain⟨o,es,ep,ho,r⟩:=hm;exact⟨o,es,ep,k _ o (xK hL) ho,r⟩
 .refine(I.hok b u e).stay (fun c v hc q=>k c v ?_ q) (fun _ q=>q) fun _ _ q=>q;rcases hc with z|z
  .rw[z];exact nit b u e
  .exact nit c _ z
def Inv.tok(I:Inv X pins σ H s)(t:Nat):Inv X pins σ H {s with toks:=t}:=I.un (h':=s.heap) (t':=t) Un.refl I.hok
theorem Inv.kept{t':Nat}(I:Inv X pins σ H s)(k:∀b u,s.heap.get? b=some u->h'.get? b=some u):Inv X pins σ H {s with heap:=h',toks:=t'}:=I.un (Un.kept k) (I.hok.kept k)
theorem Inv.laid{a:Addr}{o:HO}{t':Nat}(I:Inv X pins σ H s)(k:∀b u,s.heap.get? b=some u->h'.get? b=some u)(hp:↑s<=a)(new:qbv X.prog X.w (upd H a o) h' a o):
  Inv X pins σ (upd H a o) {s with heap:=h',toks:=t'}:=I.un (Un.laid k hp (I.hok.fresh hp)) (I.hok.laid k hp new)
theorem Inv.write{x e:Addr}{o:HO}{t':Nat}(I:Inv X pins σ H s)(mu:Mut (H x))(he:e=x\/H e=some (.own x))(k:∀b u,b≠e->s.heap.get? b=some u->h'.get? b=some u)(heo:∃u,h'.get? e=some u)
  (new:qbv X.prog X.w (upd H x o) h' x o):Inv X pins σ (upd H x o) {s with heap:=h',toks:=t'}:=I.un (Un.write mu he k heo) (I.hok.write mu he k heo new)
def Inv.pins_of{pins':List (Addr×Obj)}(I:Inv X pins σ H s)(h:∀p∈pins',s.heap.get? p.1=some p.2/\H p.1=none/\p.1≠X.env.locals/\p.1∉X.fs/\∀v,p.2.data≠ .cell v):Inv X pins' σ H s:=
 ⟨I.ok,I.os,I.bare,I.base,I.loc,I.cell,I.free,I.freeC,fun p hp=>(zH.mp hp).elim (fun z=>I.pin p (zQ _ z)) (h p),I.hok,I.len⟩
def nodup_ix{N:List Str}(hN:N.Nodup){i j:Nat}{x:Str}(a:N[i]?=some x)(b:N[j]?=some x):i=j:=by
 obtain⟨h1,e1⟩:=uL.mp a;obtain⟨h2,e2⟩:=uL.mp b;exact(gC hN).mp (e1.trans e2.symm)
def store_ok2{M:Model}{A:vR}{E:uB->uC->Prop}{i:Nat}{x:Str}{v:V}{u:uB}{Q:Unit->uC->Prop}(I:Inv X pins σ H s)(hN:X.N.Nodup)(hi:X.N[i]?=some x)(hx:Loc X.env.scope x)(r:qb8 v u)
  (h:∀s',Inv X pins (σ.set i (some v)) H s'->(∃a,bU a s.heap s'.heap/\(a=X.env.locals\/X.env.cells.lookup x=some a))->Q () s')(hf:X.fn x=true\/X.env.scope.names.lookup x=some .local:=by first|exact .inl rfl|exact .inr rfl|assumption):uU M A (storeName X.env x u) Q E s:=by
 obtain⟨m,hn,hl⟩:=id I.loc;have hcls:(X.env.scope.kind==.class ||(X.env.scope.kind==.module && X.env.locals !=X.env.globals))=false:=by rw[I.ok.kind];rfl
 have hiσ:i<σ.length:=by rw[I.len];exact(uL.mp hi).1
 have cne:=I.cne;have tracked:∀{a:Addr} {h':vQ},(∃o,s.heap.get? a=some o/\H a=none)->bU a s.heap h'->HOk X.prog X.w H h':=fun {a h'} ha hs b ob e=>by
  obtain⟨_,_,hfree⟩:=ha;refine(I.hok b ob e).stay (fun c w' hc q=>(hs.2 c ?_).trans q) (fun _ q=>q) fun _ _ q=>q;rintro rfl;rcases hc with rfl|hc
  .rw[hfree] at e;cases e
  .rw[hfree] at hc;cases hc
 rcases hx with hk|hk
 .refine wpAny_storeName_local hk hn (fun h' hn' hs=>?_) hcls;obtain⟨oL,_,_,hoL,_⟩:=id hn;refine h _ ⟨I.ok,I.os,I.bare,⟨fun b o e n hb hx=>?_,fun b o e n hb hx=>?_,I.base.free,fun b o e hx=>?_,I.base.tups,I.base.frzs,I.base.tbls⟩,⟨_,hn',fun j y v' e1 e2 e3=>?_⟩,fun y c e=>?_,I.free,I.freeC,fun p hp=>?_,tracked ⟨oL,hoL,I.free⟩ hs,by simpa using I.len⟩ ⟨_,hs,.inl rfl⟩
  .exact(hs.2 b (vI (vD (uN e) I.ok.above))).trans (I.base.keep b o e n hb hx)
  .obtain⟨sl,e1⟩:=I.base.slot b o e n hb hx;exact⟨sl,(hs.2 b (vI (vD (uN e) I.ok.above))).trans e1⟩
  .obtain⟨o',e1⟩:=I.base.there b o e hx;exact⟨o',(hs.2 b (vI (vD (uN e) I.ok.above))).trans e1⟩
  .by_cases hj:j=i
   .subst hj;rw[hi] at e1;cases e1;rw[List.getElem?_set_self hiσ] at e2
    cases e2
    exact⟨u,r,.inl ⟨hk,by simp⟩⟩
   .rw[List.getElem?_set_ne (xK hj)] at e2;obtain⟨u',r',q⟩:=hl j y v' e1 e2 e3;refine⟨u',r',?_⟩;rcases q with⟨k,e⟩|⟨k,c,e,z⟩
    .refine .inl ⟨k,?_⟩;have:y≠x:=fun e=>hj (nodup_ix hN e1 (e▸hi));simp[this,e]
    .exact .inr ⟨k,c,e,z.sameBut hs (cne y c e)⟩
  .obtain⟨w',z⟩:=I.cell y c e;exact⟨w',z.sameBut hs (cne y c e)⟩
  .obtain⟨e,n,ne,nf,d⟩:=I.pin p hp;exact⟨(hs.2 p.1 ne).trans e,n,ne,nf,d⟩
 .have hfn:X.fn x=true:=by
   rcases hf with z|z
   .exact z
   .rw[z] at hk;cases hk
  obtain⟨c,hc⟩:=I.ok.has x (.inl hk);obtain⟨w',z⟩:=I.cell x c hc;refine wpAny_storeName_cell I.ok.kind hk hc z (fun h' hc' hs=>?_);obtain⟨oc,hoc,hocd⟩:=id z;refine h {s with heap:=h'} ⟨I.ok,I.os,I.bare,⟨fun b o e n hb hx=>?_,fun b o e n hb hx=>?_,I.base.free,fun b o e hx=>?_,I.base.tups,I.base.frzs,I.base.tbls⟩,⟨m,hn.sameBut hs (xK (cne x c hc)),fun j y v' e1 e2 e3=>?_⟩,fun y c' e=>?_,I.free,I.freeC,fun p hp=>?_,tracked ⟨oc,hoc,I.freeC x c hc⟩ hs,by simpa using I.len⟩ ⟨c,hs,.inr hc⟩
  .exact(hs.2 b (vI (vD (uN e) (I.ok.cab x c hfn hc)))).trans (I.base.keep b o e n hb hx)
  .obtain⟨sl,e1⟩:=I.base.slot b o e n hb hx;exact⟨sl,(hs.2 b (vI (vD (uN e) (I.ok.cab x c hfn hc)))).trans e1⟩
  .obtain⟨o',e1⟩:=I.base.there b o e hx;exact⟨o',(hs.2 b (vI (vD (uN e) (I.ok.cab x c hfn hc)))).trans e1⟩
  .by_cases hj:j=i
   .subst hj;rw[hi] at e1;cases e1;rw[List.getElem?_set_self hiσ] at e2
    cases e2
    exact⟨u,r,.inr ⟨.inl hk,c,hc,hc'⟩⟩
   .rw[List.getElem?_set_ne (xK hj)] at e2;obtain⟨u',r',q⟩:=hl j y v' e1 e2 e3;refine⟨u',r',?_⟩;rcases q with q|⟨k,c',e,z'⟩
    .exact .inl q
    .refine .inr ⟨k,c',e,z'.sameBut hs ?_⟩;rintro rfl;exact hj (nodup_ix hN e1 (I.ok.inj _ _ _ e hc▸hi))
  .by_cases hcc:c'=c
   .subst hcc;exact⟨_,hc'⟩
   .obtain⟨w2,z2⟩:=I.cell y c' e;exact⟨w2,z2.sameBut hs hcc⟩
  .obtain⟨e,n,ne,nf,d⟩:=I.pin p hp;refine⟨(hs.2 p.1 ?_).trans e,n,ne,nf,d⟩;intro q;rw[q,hoc] at e;have q':oc=p.2:=uQ e;exact d w' (by rw[<-q'];exact hocd)
def qe9{M:Model}{A:vR}{E:uB->uC->Prop}{i:Nat}{x:Str}{v:V}{u:uB}{Q:Unit->uC->Prop}(I:Inv X pins σ H s)(hN:X.N.Nodup)(hi:X.N[i]?=some x)(hx:Loc X.env.scope x)(r:qb8 v u)
  (h:∀s',Inv X pins (σ.set i (some v)) H s'->Q () s')(hf:X.fn x=true\/X.env.scope.names.lookup x=some .local:=by first|exact .inl rfl|exact .inr rfl|assumption):uU M A (storeName X.env x u) Q E s:=
 store_ok2 I hN hi hx r (fun s' I' _=>h s' I') hf
def Inv.call'{s':uC}{ch:List Addr}(I:Inv X pins σ H s)(ho:s'.os=s.os)(u:Un (frs X.stack) ch H H' s.heap s'.heap)(hok:HOk X.prog X.w H' s'.heap)(hg:cC s'.gens)
  (hch:∀b∈ch,(b∈X.ex\/↑X.s₀<=b)/\b≠X.env.locals/\(∀x c,X.env.cells.lookup x=some c->c≠b)/\∀p∈X.pn++pins,p.1≠b):Inv X pins σ H' s':=by
 obtain⟨h',g',d',t',o'⟩:=s';have e:o'=s.os:=ho;subst e;exact I.call (g':=g') (t':=t') (d':=d') u hok hg hch
end
abbrev XK:=uB->Option Addr->Hp->Prop
abbrev St:=List (Option V)
abbrev VK:=V->Hp->Prop
abbrev TE:=St->Hp->VK->Prop
abbrev TT:=St->Hp->(Bool->Hp->Prop)->Prop
abbrev TA:=St->Hp->(List V->Hp->Prop)->Prop
structure Ends where
 nx:St->Hp->Prop
 rt:VK
 bk:St->Hp->Prop:=fun _ _=>False
 ct:St->Hp->Prop:=fun _ _=>False
abbrev TS:=Ends->St->Hp->Prop
def EP(X:Cx)(pins:List (Addr×Obj))(σ:St)(Q:VK)(u:uB)(s':uC):Prop:=∃v H',Inv X pins σ H' s'/\qb8 v u/\Q v H'
def TP(X:Cx)(pins:List (Addr×Obj))(σ:St)(Q:Bool->Hp->Prop)(b:Bool)(s':uC):Prop:=∃H',Inv X pins σ H' s'/\Q b H'
def AP(X:Cx)(pins:List (Addr×Obj))(σ:St)(Q:List V->Hp->Prop)(us:List uB)(s':uC):Prop:=∃vs H',Inv X pins σ H' s'/\qbk vs us/\Q vs H'
def SP(X:Cx)(pins:List (Addr×Obj))(D:Ends)(f:Flow)(s':uC):Prop:=
 match f with
 | .next=>∃σ' H',Inv X pins σ' H' s'/\D.nx σ' H'
 | .brk=>∃σ' H',Inv X pins σ' H' s'/\D.bk σ' H'
 | .cont=>∃σ' H',Inv X pins σ' H' s'/\D.ct σ' H'
 | .ret u=>∃v σ' H',Inv X pins σ' H' s'/\qb8 v u/\D.rt v H'
def PE(X:Cx)(e:vV)(t:TE):Prop:=
 ∀(pins:List (Addr×Obj))(s:uC)(σ:St)(H:Hp)(Q:VK),Inv X pins σ H s->t σ H Q->uU (uV X.prog X.w) X.A (wL e X.env) (EP X pins σ Q) X.xe s
def PT(X:Cx)(e:vV)(t:TT):Prop:=
 ∀(pins:List (Addr×Obj))(s:uC)(σ:St)(H:Hp)(Q:Bool->Hp->Prop),Inv X pins σ H s->t σ H Q->uU (uV X.prog X.w) X.A (isTrue e X.env (wL e X.env)) (TP X pins σ Q) X.xe s
def PW(X:Cx)(e:vV)(t:TT):Prop:=
 ∀(whole:Sem uB)(pins:List (Addr×Obj))(s:uC)(σ:St)(H:Hp)(Q:Bool->Hp->Prop),Inv X pins σ H s->t σ H Q->uU (uV X.prog X.w) X.A (isTrue e X.env whole) (TP X pins σ Q) X.xe s
def PW.pt{t:TT}(h:PW X e t):PT X e t:=h _
def PA(X:Cx)(es:List vV)(t:TA):Prop:=
 ∀(pos:Pos)(pins:List (Addr×Obj))(s:uC)(σ:St)(H:Hp)(Q:List V->Hp->Prop),Inv X pins σ H s->t σ H Q->uU (uV X.prog X.w) X.A (spliced (wP pos (uZ es X.env))) (AP X pins σ Q) X.xe s
def PS(X:Cx)(st:Stmt)(t:TS):Prop:=
 ∀(pins:List (Addr×Obj))(s:uC)(σ:St)(H:Hp)(D:Ends),Inv X pins σ H s->t D σ H->uU (uV X.prog X.w) X.A (exec st X.env) (SP X pins D) X.xe s
def PSs(X:Cx)(st:List Stmt)(t:TS):Prop:=
 ∀(pins:List (Addr×Obj))(s:uC)(σ:St)(H:Hp)(D:Ends),Inv X pins σ H s->t D σ H->uU (uV X.prog X.w) X.A (execs st X.env) (SP X pins D) X.xe s
def thn{α:Type}{t:Sem α}{Q Q':α->uC->Prop}{M:Model}{E:uB->uC->Prop}(h:uU M A t Q E s)(hQ:∀a s,Q a s->Q' a s):uU M A t Q' E s:=vS h hQ fun _ _ x=>x
section
variable{X:Cx}
def bin{a b:vV}{ta tb:TE}(ha:PE X a ta)(hb:PE X b tb){pins:List (Addr×Obj)}{s:uC}{σ:St}{H:Hp}{R:V->V->Hp->Prop}(I:Inv X pins σ H s)(h:ta σ H fun x H1=>tb σ H1 fun y H2=>R x y H2)
  {α:Type}{Q:α->uC->Prop}{f:uB->uB->Sem α}
  (hf:∀v u s2 x y H2,Inv X pins σ H2 s2->qb8 x v->qb8 y u->R x y H2->uU (uV X.prog X.w) X.A (f v u) Q X.xe s2):
  uU (uV X.prog X.w) X.A (wL a X.env) (fun v s₁=>uU (uV X.prog X.w) X.A (wL b X.env) (fun u s₂=>uU (uV X.prog X.w) X.A (f v u) Q X.xe s₂) X.xe s₁) X.xe s:=by
 refine thn (ha pins s σ H _ I h) fun v s1 ⟨x,H1,I1,r1,q1⟩=>?_;refine thn (hb pins s1 σ H1 _ I1 q1) fun u s2 ⟨y,H2,I2,r2,q2⟩=>?_;exact hf v u s2 x y H2 I2 r1 r2 q2
def tVar(i:Nat):TE:=fun σ H Q=>∃v,σ[i]?=some (some v)/\Q v H
def tC(v:V):TE:=fun _ H Q=>Q v H
def pe_var(hN:X.N[i]?=some x)(hv:Vis X.env.scope x)(hd:(x==("__debug__":Str))=false:=by decide)(hcd:(x==("__classdict__":Str))=false:=by decide):PE X (.Name x pos) (tVar i):=by
 intro pins s σ H Q I h;obtain⟨v,e,h⟩:=h;obtain⟨m,hn,hl⟩:=I.loc;obtain⟨u,r,l⟩:=hl i x v hN e hv;have fin:EP X pins σ Q u s:=⟨v,H,I,r,h⟩;rcases l with⟨hk,hm⟩|⟨hk,c,hc,hcell⟩
 .exact wpAny_Name (wpAny_loadName_local I.ok.kind hk hn hm fin) hd
 .rcases hk with hk|hk
  .exact wpAny_Name (wpAny_loadName_cell I.ok.kind hk hc hcell fin) hd
  .exact wpAny_Name (wpAny_loadName_free I.ok.kind hk hc hcell fin hcd) hd
def qa6{i j pos} :PE X (.Constant (.int i) j pos) (tC (.int i)):=fun _ _ _ H _ I h=>wpAny_Constant_int ⟨.int i,H,I.tok _,⟨_,rfl⟩,h⟩
def qcg{b j pos} :PE X (.Constant (.bool b) j pos) (tC (.bl b)):=fun _ _ _ H _ I h=>Constant_bool ⟨.bl b,H,I,rfl,h⟩
def qck{j pos} :PE X (.Constant .none j pos) (tC .non):=fun _ _ _ H _ I h=>Constant_none ⟨.non,H,I,rfl,h⟩
def qd2{x j pos} :PE X (.Constant (.str x) j pos) (tC (.str x)):=fun _ _ _ H _ I h=>Calls.Constant_str ⟨.str x,H,I.tok _,⟨_,rfl⟩,h⟩
def Gl(X:Cx)(x:Str):Prop:=X.env.kindOf x=some .globalImplicit
def qdn{E:uB->uC->Prop}{pins:List (Addr×Obj)}{s:uC}{σ:St}{H:Hp}{x:Str}{u:uB}{pos:Pos}{Q:uB->uC->Prop}(I:Inv X pins σ H s)(hg:Gl X x)(hm:X.mg x=some u)(h:Q u s)
  (hd:(x==("__debug__":Str))=false:=by decide):uU (uV X.prog X.w) X.A (wL (.Name x pos) X.env) Q E s:=
 Calls.Name_function_global I.ok.kind hg (Calls.loadGlobal_global (by rw[I.ok.glob];exact I.mod.glob.keeps I.bk) hm h) hd
def qgj{E:uB->uC->Prop}{pins:List (Addr×Obj)}{s:uC}{σ:St}{H:Hp}{x:Str}{u:uB}{pos:Pos}{Q:uB->uC->Prop}(I:Inv X pins σ H s)(hg:Gl X x)(hm:X.mg x=none)(hv:aP x=some u)(h:Q u s)
  (hn:x≠"__name__":=by decide)(hd:(x==("__debug__":Str))=false:=by decide):uU (uV X.prog X.w) X.A (wL (.Name x pos) X.env) Q E s:=by
 obtain⟨mb,h1,h2⟩:=I.mod.blt;exact Calls.Name_function_global I.ok.kind hg (Calls.loadGlobal_builtin (by rw[I.ok.glob];exact I.mod.glob.keeps I.bk) hm (by rw[I.ok.blt];exact h1.keeps I.bk) ((h2 x hn).trans hv) h) hd
def qez(hg:Gl X x)(hm:X.mg x=some u)(r:qb8 v u)(hd:(x==("__debug__":Str))=false:=by decide):PE X (.Name x pos) (tC v):=
 fun _ _ _ H _ I h=>qdn I hg hm ⟨v,H,I,r,h⟩ hd
def qca(hg:Gl X x)(hm:X.mg x=none)(hv:aP x=some u)(r:qb8 v u)(hn:x≠"__name__":=by decide)(hd:(x==("__debug__":Str))=false:=by decide):PE X (.Name x pos) (tC v):=
 fun _ _ _ H _ I h=>qgj I hg hm hv ⟨v,H,I,r,h⟩ hn hd
variable{a b:vV}{ta tb:TE}{pos:Pos}
def PC(X:Cx)(op:CmpOp)(a b:vV)(t:TE):Prop:=
 ∀(pins:List (Addr×Obj))(s:uC)(σ:St)(H:Hp)(Q:VK),Inv X pins σ H s->t σ H Q->
  uU (uV X.prog X.w) X.A (wL a X.env) (fun v s₁=>uU (uV X.prog X.w) X.A (wL b X.env) (fun u s₂=>uU (uV X.prog X.w) X.A (wG op v u) (EP X pins σ Q) X.xe s₂) X.xe s₁) X.xe s
def tB(t:TE):TT:=fun σ H Q=>t σ H fun x H1=>∃c,x=.bl c/\Q c H1
def pe_cmp{t:TE}(h:PC X op a b t)(h1:bH op b=false:=by first|exact nobehind _ ∅ ∅ |rfl):PE X (.Compare a [op] [b] pos) t:=fun pins s σ H Q I hw=>wpAny_Compare1 (h pins s σ H Q I hw) h1
def pt_cmp{t:TE}(h:PC X op a b t)(h1:bH op b=false:=by first|exact nobehind _ ∅ ∅ |rfl):PT X (.Compare a [op] [b] pos) (tB t):=by
 intro pins s σ H Q I hw;refine wpAny_isTrue_Compare1 (thn (h pins s σ H _ I hw) fun v s1 h1=>thn h1 fun u s2 h2=>thn h2 fun c s3 ⟨x,H1,I1,r1,q1⟩=>?_) h1;obtain⟨d,rfl,q⟩:=q1
 cases r1
 exact wQ ⟨H1,I1,q⟩
def qbg{t:TE}(h:PE X e t)(he:∀whole,isTrue e X.env whole=(do let v<-whole;standAt e.pos;fF [v] (truthy v)):=by intro _;rfl):PT X e (tB t):=by
 intro pins s σ H Q I hw;refine isTrue_plain (thn (h pins s σ H _ I hw) fun v s1 ⟨x,H1,I1,r1,q1⟩=>?_) (he _);obtain⟨d,rfl,q⟩:=q1
 cases r1
 exact wQ ⟨H1,I1,q⟩
variable{tA tB':TT}{rest:List vV}
def tAnd(t u:TT):TT:=fun σ H Q=>t σ H fun c H1=>if c=true then u σ H1 Q else Q false H1
def tOr(t u:TT):TT:=fun σ H Q=>t σ H fun c H1=>if c=true then Q true H1 else u σ H1 Q
def tNot(t:TT):TT:=fun σ H Q=>t σ H fun c H1=>Q (!c) H1
def qex(ha:PT X a tA):PW X (.BoolOp .And [a] pos) tA:=by
 intro wh pins s σ H Q I h;refine isTrue_and (thn (ha pins s σ H Q I h) fun c s1 e=>?_)
 cases c with
 |true=>exact isTrue_and_nil e
 |false=>exact e
def qdz(ha:PT X a tA):PW X (.BoolOp .Or [a] pos) tA:=by
 intro wh pins s σ H Q I h;refine isTrue_or (thn (ha pins s σ H Q I h) fun c s1 e=>?_)
 cases c with
 |false=>exact isTrue_or_nil e
 |true=>exact e
def qgf(ha:PT X a tA)(hb:PW X (.BoolOp .And (b::rest) pos) tB'):PW X (.BoolOp .And (a::b::rest) pos) (tAnd tA tB'):=by
 intro wh pins s σ H Q I h;refine isTrue_and (thn (ha pins s σ H _ I h) fun c s1 ⟨H1,I1,q1⟩=>?_)
 cases c with
 |true=>exact hb wh pins s1 σ H1 Q I1 q1
 |false=>exact⟨H1,I1,q1⟩
def qdx(ha:PT X a tA)(hb:PW X (.BoolOp .Or (b::rest) pos) tB'):PW X (.BoolOp .Or (a::b::rest) pos) (tOr tA tB'):=by
 intro wh pins s σ H Q I h;refine isTrue_or (thn (ha pins s σ H _ I h) fun c s1 ⟨H1,I1,q1⟩=>?_)
 cases c with
 |true=>exact⟨H1,I1,q1⟩
 |false=>exact hb wh pins s1 σ H1 Q I1 q1
def qbz(ha:PT X a tA):PT X (.UnaryOp .Not a pos) (tNot tA):=by
 intro pins s σ H Q I h;exact isTrue_not (ha pins s σ H (fun c H1=>Q (!c) H1) I h)
def tAndV(ta tb:TE):TE:=fun σ H Q=>ta σ H fun x H1=>∃c,x=.bl c/\if c=true then tb σ H1 Q else Q (.bl false) H1
def tNotV(ta:TE):TE:=fun σ H Q=>ta σ H fun x H1=>∃c,x=.bl c/\Q (.bl (!c)) H1
def qei{op}{t:TE}(h:PE X a t):PE X (.BoolOp op [a] pos) t:=fun pins s σ H Q I hw=>BoolOp_one (h pins s σ H Q I hw)
def qej(ha:PE X a ta)(hb:PE X (.BoolOp .And (b::rest) pos) tb):PE X (.BoolOp .And (a::b::rest) pos) (tAndV ta tb):=by
 intro pins s σ H Q I h;refine BoolOp_and (thn (ha pins s σ H _ I h) fun v s1 ⟨x,H1,I1,r1,q1⟩=>?_);obtain⟨c,rfl,q1⟩:=q1
 cases r1
 refine wQ ?_
 cases c with
 |true=>exact hb pins s1 σ H1 Q I1 q1
 |false=>exact⟨.bl false,H1,I1,rfl,q1⟩
def pe_not(ha:PE X a ta):PE X (.UnaryOp .Not a pos) (tNotV ta):=by
 intro pins s σ H Q I h;refine UnaryOp_ (thn (ha pins s σ H _ I h) fun v s1 ⟨x,H1,I1,r1,q1⟩=>?_);obtain⟨c,rfl,q1⟩:=q1
 cases r1
 exact not_of (wQ ⟨.bl (!c),H1,I1,rfl,q1⟩)
def tIf(t:TT)(ta tb:TE):TE:=fun σ H Q=>t σ H fun c H1=>if c=true then ta σ H1 Q else tb σ H1 Q
def pe_ifExp(hc:PT X c tA)(ha:PE X a ta)(hb:PE X b tb):PE X (.IfExp c a b pos) (tIf tA ta tb):=by
 intro pins s σ H Q I h;refine wpAny_IfExp (thn (hc pins s σ H _ I h) fun d s1 ⟨H1,I1,q1⟩=>?_)
 cases d with
 |true=>exact ha pins s1 σ H1 Q I1 q1
 |false=>exact hb pins s1 σ H1 Q I1 q1
end
def SqL(K:uS)(H:Hp)(a:Addr)(xs:List V):Prop:=
 Rd H a (.lst xs)\/
  ∃(o:Obj)(its:Array uB)(n:Nat),K.lookup a=some o/\o.cls=.type "list"/\o.dict=none/\o.data=.seq its n/\its.size<=sizeLine/\qbk xs its.toList
def SqT(K:uS)(H:Hp)(a:Addr)(xs:List V):Prop:=
 Rd H a (.tup xs)\/
  ∃(o:Obj)(its:Array uB)(n:Nat),K.lookup a=some o/\o.cls=.type "tuple"/\o.data=.seq its n/\its.size<=sizeLine/\qbk xs its.toList
def absV:uB->Option V
 | .none=>some .non
 | .bool b=>some (.bl b)
 | .int i _=>some (.int i)
 | .str x _=>some (.str x)
 | .bytes b _=>some (.byt b)
 | .float b _=>some (.flt b)
 | .ref a=>some (.ref a)
 | .type n=>some (.ty n)
 |_=>none
def qb8.abs{x:V}(r:qb8 x u):absV u=some x:=by
 cases x with
 |non=>cases r;rfl
 |bl _=>cases r;rfl
 |int _=>obtain⟨t,rfl⟩:=r;rfl
 |str _=>obtain⟨t,rfl⟩:=r;rfl
 |byt _=>obtain⟨t,rfl⟩:=r;rfl
 |flt _=>obtain⟨t,rfl⟩:=r;rfl
 |ref _=>cases r;rfl
 |ty _=>cases r;rfl
def qb8.inj{x y:V}(r:qb8 x u)(q:qb8 y u):x=y:=uQ (r.abs.symm.trans q.abs)
theorem qbk.inj:∀{xs ys:List V} {us:List uB},qbk xs us->qbk ys us->xs=ys
 |_,_,_,.nil,.nil=>rfl
 |_,_,_,.cons r t,.cons r' t'=>by rw[r.inj r',qbk.inj t t']
section
variable{X:Cx}{pins:List (Addr×Obj)}{σ:St}{H:Hp}{s:uC}{a:Addr}{xs ys:List V}
def SqL.of(h:H a=some (.lst xs)):SqL K H a xs:=.inl (.inl h)
def SqT.of(h:H a=some (.tup xs)):SqT K H a xs:=.inl (.inl h)
def Inv.list(I:Inv X pins σ H s)(h:SqL X.K H a xs):∃its:List uB,qbk xs its/\PlainL s.heap a its.toArray/\xs.length<=sizeLine:=by
 rcases h with h|⟨o,its,n,hk,hc,hd,hs,hz,r⟩
 .obtain⟨z,its,n,r,e⟩:=h.ok I.hok;exact⟨its,r,⟨_,n,e,rfl,rfl,rfl⟩,z⟩
 .refine⟨its.toList,r,⟨o,n,I.kIn a o hk,hc,hd,by simpa using hs⟩,?_⟩;have e:=r.length;simp only[bS] at e;omega
def Inv.tuple(I:Inv X pins σ H s)(h:SqT X.K H a xs):∃its:List uB,qbk xs its/\IsTup s.heap a its.toArray/\xs.length<=sizeLine:=by
 rcases h with h|⟨o,its,n,hk,hc,hs,hz,r⟩
 .obtain⟨z,its,r,p⟩:=h.ok I.hok;exact⟨its,r,p,z⟩
 .refine⟨its.toList,r,⟨o,I.kIn a o hk,hc,n,by simpa using hs⟩,?_⟩;have e:=r.length;simp only[bS] at e;omega
def Inv.list_inj(I:Inv X pins σ H s)(h:SqL X.K H a xs)(h':SqL X.K H a ys):xs=ys:=by
 obtain⟨its,r,⟨o,n,e,_,_,d⟩,_⟩:=I.list h;obtain⟨its',r',⟨o',n',e',_,_,d'⟩,_⟩:=I.list h';rw[e] at e';cases e';rw[d] at d';injection d' with d1 _
 have:its=its':=by simpa using congrArg Array.toList d1
 subst this;exact r.inj r'
end
abbrev Cx.wish(X:Cx)(E:uB->uC->Prop):Cx:={X with xe:=E}
abbrev Cx.nox(X:Cx):Cx:=X.wish fun _ _=>False
theorem Cx.Ok.wish(ok:X.Ok)(E:uB->uC->Prop):(X.wish E).Ok:=
 ⟨ok.mod,ok.kind,ok.glob,ok.blt,ok.above,ok.inj,ok.has,ok.cab,ok.hd,ok.frames,ok.stk,ok.exf,ok.bs,ok.bsz,ok.noex,ok.exfs,ok.funs,ok.frf⟩
def Cx.Ok.unwish{E:uB->uC->Prop}(ok:(X.wish E).Ok):X.Ok:=
 ⟨ok.mod,ok.kind,ok.glob,ok.blt,ok.above,ok.inj,ok.has,ok.cab,ok.hd,ok.frames,ok.stk,ok.exf,ok.bs,ok.bsz,ok.noex,ok.exfs,ok.funs,ok.frf⟩
section
variable{X:Cx}{pins:List (Addr×Obj)}{σ:St}{H:Hp}{s:uC}{E:uB->uC->Prop}
theorem Inv.wish(I:Inv X pins σ H s)(E:uB->uC->Prop):Inv (X.wish E) pins σ H s:=⟨I.ok.wish E,I.os,I.bare,I.base,I.loc,I.cell,I.free,I.freeC,I.pin,I.hok,I.len⟩
theorem Inv.unwish(I:Inv (X.wish E) pins σ H s):Inv X pins σ H s:=⟨I.ok.unwish,I.os,I.bare,I.base,I.loc,I.cell,I.free,I.freeC,I.pin,I.hok,I.len⟩
theorem SP.unwish{D:Ends}{f:Flow}{s':uC}(h:SP (X.wish E) pins D f s'):SP X pins D f s':=by
 cases f with
 |next=>obtain⟨σ',H',I,q⟩:=h;exact⟨σ',H',I.unwish,q⟩
 |brk=>obtain⟨σ',H',I,q⟩:=h;exact⟨σ',H',I.unwish,q⟩
 |cont=>obtain⟨σ',H',I,q⟩:=h;exact⟨σ',H',I.unwish,q⟩
 |ret u=>obtain⟨v,σ',H',I,r,q⟩:=h;exact⟨v,σ',H',I.unwish,r,q⟩
theorem PSs.nox{st:List Stmt}{t:TS}(h:PSs X.nox st t):PSs X st t:=fun pins s σ H D I hw=>
 vS (h pins s σ H D (I.wish _) hw) (fun _ _ q=>q.unwish) fun _ _ z=>vO z
end
section
variable{X:Cx}{st:Stmt}{rest:List Stmt}{t u:TS}{e:vV}{te:TE}{pos:Pos}
def tNext:TS:=fun D σ H=>D.nx σ H
def tSeq(t u:TS):TS:=fun D σ H=>t {D with nx:=u D} σ H
def qak:PSs X [] tNext:=fun _ _ σ H _ I h=>dC ⟨σ,H,I,h⟩
def qa2(h1:PS X st t)(h2:PSs X rest u):PSs X (st::rest) (tSeq t u):=by
 intro pins s σ H D I h;refine cP (thn (h1 pins s σ H {D with nx:=u D} I h) fun f s1 q=>?_)
 cases f with
 |next=>
  obtain⟨σ',H',I',q⟩:=q;exact h2 pins s1 σ' H' D I' q
 |ret v=>exact q
 |brk=>exact q
 |cont=>exact q
def qa5(h1:PS X st t):PSs X [st] t:=by
 intro pins s σ H D I h;refine cP (thn (h1 pins s σ H D I h) fun f s1 q=>?_)
 cases f with
 |next=>exact dC q
 |ret v=>exact q
 |brk=>exact q
 |cont=>exact q
def Inv.quiet(I:Inv X pins σ H s):interactive X.env=false:=by simp[interactive,I.ok.kind]
def tDrop(te:TE):TS:=fun D σ H=>te σ H fun _ H1=>D.nx σ H1
def qbn(he:PE X e te)(hs:dU e none pos.line X.env=pure false:=by rfl):PS X (.Expr e pos) (tDrop te):=by
 intro pins s σ H D I h;exact wpAny_Expr_any (thn (he pins s σ H _ I h) fun v s1 ⟨x,H1,I1,r1,q1⟩=>⟨σ,H1,I1,q1⟩) I.quiet hs
def tRet(te:TE):TS:=fun D σ H=>te σ H D.rt
def qad(he:PE X e te):PS X (.Return (some e) pos) (tRet te):=by
 intro pins s σ H D I h;exact wpAny_Return_some (thn (he pins s σ H _ I h) fun v s1 ⟨x,H1,I1,r1,q1⟩=>⟨x,σ,H1,I1,r1,q1⟩)
def tIfS(c:TT)(t u:TS):TS:=fun D σ H=>c σ H fun b H1=>if b=true then t D σ H1 else u D σ H1
def qb4{a b:List Stmt}{tc:TT}(hc:PT X c tc)(ha:PSs X a t)(hb:PSs X b u):PS X (.If c a b pos) (tIfS tc t u):=by
 intro pins s σ H D I h;refine wpAny_If (thn (hc pins s σ H _ I h) fun d s1 ⟨H1,I1,q1⟩=>?_)
 cases d with
 |true=>exact ha pins s1 σ H1 D I1 q1
 |false=>exact hb pins s1 σ H1 D I1 q1
end
abbrev TG:=V->St->Hp->(St->Hp->Prop)->Prop
abbrev TGs:=List V->St->Hp->(St->Hp->Prop)->Prop
def PG(X:Cx)(target:vV)(t:TG):Prop:=
 ∀(pins:List (Addr×Obj))(s:uC)(σ:St)(H:Hp)(v:V)(u:uB)(Q:St->Hp->Prop),Inv X pins σ H s->qb8 v u->t v σ H Q->
  uU (uV X.prog X.w) X.A (gD target X.env u) (fun _ s'=>∃σ' H',Inv X pins σ' H' s'/\Q σ' H') X.xe s
def PGs(X:Cx)(ts:List vV)(t:TGs):Prop:=
 ∀(pins:List (Addr×Obj))(s:uC)(σ:St)(H:Hp)(vs:List V)(us:List uB)(Q:St->Hp->Prop),Inv X pins σ H s->qbk vs us->t vs σ H Q->
  uU (uV X.prog X.w) X.A (eD ((xT ts X.env).map (·.2)) us) (fun _ s'=>∃σ' H',Inv X pins σ' H' s'/\Q σ' H') X.xe s
section
variable{X:Cx}{pos:Pos}
def qer(i:Nat):TG:=fun v σ H Q=>Q (σ.set i (some v)) H
def qab(hN:X.N.Nodup)(hi:X.N[i]?=some x)(hx:Loc X.env.scope x)(hf:X.fn x=true\/X.env.scope.names.lookup x=some .local:=by first|exact .inl rfl|exact .inr rfl|assumption):PG X (.Name x pos) (qer i):=by
 intro pins s σ H v u Q I r h;exact fG (qe9 I hN hi hx r (fun s' I'=>⟨_,H,I',h⟩) hf)
def gNil:TGs:=fun vs σ H Q=>vs=[]/\Q σ H
def gCons(t:TG)(u:TGs):TGs:=fun vs σ H Q=>∃v r,vs=v::r/\t v σ H fun σ' H'=>u r σ' H' Q
def qcq:PGs X [] gNil:=by
 intro pins s σ H vs us Q I r h;obtain⟨e,h⟩:=h;subst e
 cases r
 exact assignInOrder_nil ⟨σ,H,I,h⟩
def qaj{e:vV}{es:List vV}{t:TG}{u:TGs}(h1:PG X e t)(h2:PGs X es u)
  (hs:(xT (e::es) X.env).map (·.2)=gD e X.env ::(xT es X.env).map (·.2):=by rfl):PGs X (e::es) (gCons t u):=by
 intro pins s σ H vs us Q I r h;obtain⟨v,vr,e1,h⟩:=h;subst e1
 cases r with
 |cons r rr=>
  rw[hs];refine eO (thn (h1 pins s σ H _ _ _ I r h) fun _ s1 ⟨σ1,H1,I1,q1⟩=>?_);exact h2 pins s1 σ1 H1 _ _ Q I1 rr q1
def gTup(K:uS)(n:Nat)(t:TGs):TG:=fun v σ H Q=>∃a xs,v=.ref a/\SqT K H a xs/\xs.length=n/\t xs σ H Q
def pg_tup{es:List vV}{k:Nat}{t:TGs}{n:Nat}(hc:X.calm=true)(h:PGs X es t)
  (hn:(xT es X.env).length=n:=by rfl)(hst:(xT es X.env).findIdx? (·.1)=none:=by rfl):PG X (.Tuple es k pos) (gTup X.K n t):=by
 intro pins s σ H v u Q I r hw;obtain⟨a,xs,e1,hq,hl,hw⟩:=hw;subst e1
 cases r
 obtain⟨its,rv,ht,hz⟩:=I.tuple hq;refine assign_Tuple_tuple (I.ok.hd hc) ht (by simp[hn,<-hl,rv.length]) hst fun h' hx=>?_;have I1:Inv X pins σ H {s with heap:=h'}:=I.kept (t':=s.toks) fun b o e=>hx b o (vI (uN e)) e;exact h pins _ σ H xs _ Q I1 (by simpa using rv) hw
def tAsg(te:TE)(g:TG):TS:=fun D σ H=>te σ H fun x H1=>g x σ H1 D.nx
def qf5{tg:vV}{te:TE}{g:TG}(he:PE X e te)(hg:PG X tg g)(hs:swapsWithSole [tg] e pos.line X.env=pure false:=by rfl)(hw:swappedStores [tg] e X.env=pure none:=by rfl)
  (h1:(xT [tg] X.env).map (·.2)=[gD tg X.env]:=by rfl):PS X (.Assign [tg] e pos) (tAsg te g):=by
 intro pins s σ H D I h;refine wpAny_Assign_stores (thn (he pins s σ H _ I h) fun v s1 ⟨x,H1,I1,r1,q1⟩=>?_) hs hw;rw[h1];exact thn (hg pins s1 σ H1 x v _ I1 r1 q1) fun _ s2 q=>q
def qae{te:TE}{pos':Pos}(hN:X.N.Nodup)(hi:X.N[i]?=some x)(hx:Loc X.env.scope x)(he:PE X e te)(hs:dU e (some (.Name x pos')) pos.line X.env=pure false:=by rfl)(hf:X.fn x=true\/X.env.scope.names.lookup x=some .local:=by first|exact .inl rfl|exact .inr rfl|assumption):
  PS X (.Assign [.Name x pos'] e pos) (tAsg te (qer i)):=by
 intro pins s σ H D I h;refine wpAny_Assign_Name (thn (he pins s σ H _ I h) fun v s1 ⟨y,H1,I1,r1,q1⟩=>?_) hs;exact qe9 I1 hN hi hx r1 (fun s2 I2=>⟨_,H1,I2,q1⟩) hf
def tPar(i j:Nat)(ta:TA):TS:=fun D σ H=>ta σ H fun vs H1=>∃v w,vs=[v,w]/\D.nx ((σ.set i (some v)).set j (some w)) H1
def ps_par{i j:Nat}{x y:Str}{a b:vV}{ta:TA}{px py pt:Pos}{kt k2 pt2}(hc:X.calm=true)(hN:X.N.Nodup)(hi:X.N[i]?=some x)(hj:X.N[j]?=some y)(hij:i≠j)
  (hx:X.env.scope.names.lookup x=some .local)(hy:X.env.scope.names.lookup y=some .local)(ha:PA X [a,b] ta)
  (hw:swappedStores [.Tuple [.Name x px,.Name y py] kt pt] (.Tuple [a,b] k2 pt2) X.env=pure (some [x,y]))
  (hs:swapsWithSole [.Tuple [.Name x px,.Name y py] kt pt] (.Tuple [a,b] k2 pt2) pos.line X.env=pure false:=by rfl):
  PS X (.Assign [.Tuple [.Name x px,.Name y py] kt pt] (.Tuple [a,b] k2 pt2) pos) (tPar i j ta):=by
 intro pins s σ H D I h;rw[exec_Assign_arm];refine uE (xJ ?_);rw[hs];refine uE (uW ?_);rw[gI ∅];refine uE (Tuple_ (thn (ha _ pins s σ H _ I h) fun us s1 ⟨vs,H1,I1,r1,q1⟩=>?_));obtain⟨v,w,e1,q1⟩:=q1;subst e1;obtain⟨u1,u2,rfl,rv,rw'⟩:∃u1 u2,us=[u1,u2]/\qb8 v u1/\qb8 w u2:=by
  cases r1 with
  |cons p q=>
   cases q with
   |cons p' q'=>
    cases q'
    exact⟨_,_,rfl,p,p'⟩
 refine fH ?_ (by show 2<=sizeLine;decide);have I2:Inv X pins σ H1 {s1 with heap:=s1.heap.push {cls:=.type "tuple",data:=.seq [u1,u2].toArray}}:=I1.kept (t':=s1.toks) fun b o e=>uD _ e;rw[hw];refine uE (uW ?_);show uU (uV X.prog X.w) X.A (do rule "assign.swapped-stores";let items<-unpackItems (.ref ↑s1) 2 none;eD [fun v=>bindName X.env y v,fun v=>bindName X.env x v] items.reverse;pure Flow.next) _ _ _;refine uE (wpAny_rule (uE (unpackItems_tuple (items:=#[u1,u2]) (I.ok.hd hc) (IsTup.new s1.heap _) fun h' hx'=>?_)));have I3:=I2.kept (h':=h') (t':=s1.toks) fun b o e=>hx' b o (vI (uN e)) e;show uU _ _ (eD [fun v=>bindName X.env y v,fun v=>bindName X.env x v] [u2,u1] >>= fun _=>pure Flow.next) _ _ _;refine uE (eO (wpAny_bindName (qe9 I3 hN hj (.inl hy) rw' (fun s2 I4=>?_) (.inr hy))));refine eO (wpAny_bindName (qe9 I4 hN hi (.inl hx) rv (fun s3 I5=>assignInOrder_nil (uW ?_)) (.inr hx)));rw[List.set_comm _ _ (xK hij)] at I5;exact⟨_,H1,I5,q1⟩
end
section
variable{X:Cx}{pos:Pos}
def tWhile(c:TT)(tb:TS):TS:=fun D σ H=>∃W:Nat->St->Hp->Prop,(∃m,W m σ H)/\∀m σ H,W m σ H->
 c σ H fun b H1=>if b=true then ∃N:St->Hp->Prop,(∀σ' H',N σ' H'->∃m',m'<m/\W m' σ' H')/\tb {D with nx:=N,ct:=N,bk:=D.nx} σ H1 else D.nx σ H1
def qef{body:List Stmt}{tc:TT}{tb:TS}(hp:PassesOwn (uV X.prog X.w) X.A X.env X.xe)(hc:PT X c tc)(hb:PSs X body tb):PS X (.While c body [] pos) (tWhile tc tb):=by
 intro pins s σ H D I h;obtain⟨W,⟨m0,w0⟩,turn⟩:=h;refine wpAny_While (codeAny_whileLoop (fun n s'=>∃σ' H',Inv X pins σ' H' s'/\W n σ' H') ?_ m0 ⟨σ,H,I,w0⟩);rintro n s1 ⟨σ1,H1,I1,w1⟩;refine xV hp (thn (hc pins s1 σ1 H1 _ I1 (turn n σ1 H1 w1)) fun b s2 ⟨H2,I2,q2⟩=>?_)
 cases b with
 |true=>
  obtain⟨N,hN,q2⟩:=q2;rw[gJ rfl];refine xV hp (thn (hb pins s2 σ1 H2 _ I2 q2) fun f s3 q3=>?_)
  cases f with
  |next=>
   obtain⟨σ3,H3,I3,n3⟩:=q3;obtain⟨m',hm,w3⟩:=hN σ3 H3 n3;exact⟨m',hm,σ3,H3,I3,w3⟩
  |cont=>
   obtain⟨σ3,H3,I3,n3⟩:=q3;obtain⟨m',hm,w3⟩:=hN σ3 H3 n3;exact⟨m',hm,σ3,H3,I3,w3⟩
  |brk=>exact q3
  |ret v=>exact q3
 |false=>
  rw[gI vA];exact dC ⟨σ1,H2,I2,q2⟩
end
structure It where
 go:Nat->Hp->Prop
 yld:Nat->Hp->V->Hp->Prop
 stop:Nat->Hp->Prop
def FpOk(X:Cx)(pins:List (Addr×Obj))(H:Hp)(b:Addr):Prop:=
 H b=none/\b≠X.env.locals/\b∉X.fs/\(b∈X.ex\/↑X.s₀<=b)/\(∀x c,X.env.cells.lookup x=some c->c≠b)/\∀p∈X.pn++pins,p.1≠b
def Inv.fpOk{H':Hp}(I:Inv X pins σ H s)(hb:↑s<=b)(hn:H' b=none):FpOk X pins H' b:=by
 refine⟨hn,wV (vD I.lt hb),I.nofs hb,.inr (vJ I.sz hb),fun x c e z=>?_,fun p hp z=>?_⟩
 .obtain⟨v,q⟩:=I.cell x c e;exact absurd (vD q.lt (by rw[z];exact hb)) (wK _)
 .exact absurd (vD (uN (I.pin p hp).1) (by rw[z];exact hb)) (wK _)
structure Turn(P:uY)(w:vL)(K:uS)(tg:vV)(J:It)(fp:List Addr)(it:Addr)(tn:Nat->vQ->Prop):Prop where
 mem:it∈fp
 obj:∀i h,tn i h->∀b∈fp,∃o,h.get? b=some o/\∀v,o.data≠ .cell v
 keep:∀i h h',tn i h->(∀b∈fp,∀o,h.get? b=some o->h'.get? b=some o)->tn i h'
 item:∀(X:Cx),X.prog=P->X.w=w->X.K=K->X.calm=true->∀(i:Nat)(pins:List (Addr×Obj))(s:uC)(σ:St)(H:Hp)(E:uB->uC->Prop),Inv X pins σ H s->(∀b∈fp,FpOk X pins H b)->tn i s.heap->J.go i H->
  uU (uV P w) X.A (pyNext (.ref it)) (fun r s1=>∃u,r=some u/\
   uU (uV P w) X.A (letOwnedTupleGo tg (.ref it) u) (fun _ s2=>∃x H',Inv X pins σ H' s2/\qb8 x u/\J.yld i H x H'/\tn (i+1) s2.heap/\∀b∈fp,H' b=none) E s1) E s
 done:∀(X:Cx),X.prog=P->X.w=w->X.K=K->X.calm=true->∀(i:Nat)(pins:List (Addr×Obj))(s:uC)(σ:St)(H:Hp)(E:uB->uC->Prop),Inv X pins σ H s->(∀b∈fp,FpOk X pins H b)->tn i s.heap->J.stop i H->
  uU (uV P w) X.A (pyNext (.ref it)) (fun r s1=>r=none/\Inv X pins σ H s1) E s
 self:∀(A:vR)(i:Nat)(s:uC)(Q:uB->uC->Prop)(E:uB->uC->Prop),tn i s.heap->Q (.ref it) s->uU (uV P w) A (pyIter (.ref it)) Q E s
abbrev TI:=St->Hp->(It->Hp->Prop)->Prop
def PIE(X:Cx)(pins:List (Addr×Obj))(σ:St)(tg:vV)(R:It->Hp->Prop)(itv:uB)(s2:uC):Prop:=
 ∃(it:Addr)(fp:List Addr)(tn:Nat->vQ->Prop)(J:It)(H':Hp),itv=.ref it/\Inv X pins σ H' s2/\Turn X.prog X.w X.K tg J fp it tn/\tn 0 s2.heap/\(∀b∈fp,FpOk X pins H' b)/\R J H'
def PI(X:Cx)(tg iter:vV)(wi:TI):Prop:=
 ∀(pins:List (Addr×Obj))(s:uC)(σ:St)(H:Hp)(R:It->Hp->Prop),Inv X pins σ H s->wi σ H R->
  uU (uV X.prog X.w) X.A (wL iter X.env) (fun v s1=>uU (uV X.prog X.w) X.A (pyIter v) (PIE X pins σ tg R) X.xe s1) X.xe s
def go_of{M:Model}{A:vR}{E:uB->uC->Prop}{s:uC}{tg:vV}{it:Addr}{u:uB}{o:Obj}{n:String}{vs:Array uB}{Q:Unit->uC->Prop}(ho:s.heap.get? it=some o)(hc:o.cls=.type n)(hd:o.data=.fields vs)
  (hn: ["enumerate","zip","dict_itemiterator","dict_reverseitemiterator","odict_iterator","itertools.zip_longest","itertools.pairwise"].contains n=false)(hQ:Q () s):uU M A (letOwnedTupleGo tg (.ref it) u) Q E s:=by
 unfold letOwnedTupleGo
 cases tg<;>first
  |exact uW hQ
  |(cases u<;>first
    |exact uW hQ
    |(refine uE (wpAny_load ho ?_)
      rw[hc,hd];show uU M A (if(["enumerate","zip","dict_itemiterator","dict_reverseitemiterator","odict_iterator","itertools.zip_longest","itertools.pairwise"].contains n && vs[0]?==some (aJ _))=true then _ else _) Q E s;rw[gI (by intro h;rw[hn,Bool.false_and] at h;cases h)];exact uW hQ))
def Itl(K:uS)(a:Addr):It:=
 ⟨fun i H=>∃xs x,SqL K H a xs/\xs[i]?=some x,fun i H x H'=>H'=H/\∀xs,SqL K H a xs->xs[i]?=some x,fun i H=>∃xs,SqL K H a xs/\xs.length<=i⟩
def Itr(lo:Int)(n:Nat):It:=⟨fun i _=>i<n,fun i H x H'=>H'=H/\x=.int (lo+i),fun i _=>n<=i⟩
def turn_list{P:uY}{w:vL}{K:uS}{tg:vV}(a it:Addr):Turn P w K tg (Itl K a) [it] it (fun i h=>h.IsListIter it a i) where
 mem:=by simp
 obj:=fun i h st b hb=>by
  have e:b=it:=by simpa using hb
  subst e;obtain⟨o,e,c,d⟩:=st;exact⟨o,e,fun v z=>by rw[d] at z;cases z⟩
 keep:=fun i h h' st k=>st.at fun o e=>k it (by simp) o e
 item:=by
  intro X hP hw hK hc i pins s σ H E I hf st hg;subst hP hw hK;obtain⟨xs,x,hq,hx⟩:=hg;obtain⟨its,rv,p,hz⟩:=I.list hq;obtain⟨u,hu,ru⟩:=rv.get hx;obtain⟨f0,f1,f2,f3,f4,f5⟩:=hf it (by simp);refine wpAny_pyNext_list_item st p.isList (x:=u) (by simpa using hu) fun h' st' sb=>?_;have I1:Inv X pins σ H {s with heap:=h'}:=I.turned (t':=s.toks) (fun b o hb e=>(sb.2 b hb).trans e) f0 f1 f3 f4 f5;obtain⟨o,e,c,d⟩:=id st';exact⟨u,rfl,go_of (s:={s with heap:=h'}) e c d ∅ ⟨x,H,I1,ru,⟨rfl,fun ys hy=>by rw[I.list_inj hy hq];exact hx⟩,st',fun b hb=>(hf b hb).1⟩⟩
 done:=by
  intro X hP hw hK hc i pins s σ H E I hf st hg;subst hP hw hK;obtain⟨xs,hq,hx⟩:=hg;obtain⟨its,rv,p,hz⟩:=I.list hq;obtain⟨f0,f1,f2,f3,f4,f5⟩:=hf it (by simp);have hl:=rv.length;exact wpAny_pyNext_list_end (I.ok.hd hc) st p.isList (by simp;omega) fun h' eb=>⟨rfl,I.turned (t':=s.toks) (fun b o hb e=>eb b o hb e) f0 f1 f3 f4 f5⟩
 self:=fun _ _ _ _ _ st h=>wpAny_pyIter_listiter st h
def turn_range{P:uY}{w:vL}{K:uS}{tg:vV}(it:Addr)(lo:Int)(n:Nat):Turn P w K tg (Itr lo n) [it] it (fun i h=>IsRangeIter h it (lo+(i:Nat)*1) ((n:Int)-(i:Nat)) 1) where
 mem:=by simp
 obj:=fun i h st b hb=>by
  have e:b=it:=by simpa using hb
  subst e;exact⟨_,st,fun v z=>by
   have z':Data.fields _=Data.cell v:=z
   cases z'⟩
 keep:=fun i h h' st k=>k it (by simp) _ st
 item:=by
  intro X hP hw hK hc i pins s σ H E I hf st hg;subst hP hw hK;obtain⟨f0,f1,f2,f3,f4,f5⟩:=hf it (by simp);have W:=Walks.range (prog:=X.prog) (w:=X.w) (I.ok.hd hc) it lo 1 n;refine W.item i s _ _ hg st fun v h' tk hv st' kk=>?_;obtain⟨t,rfl⟩:=hv;have I1:Inv X pins σ H {s with heap:=h',toks:=tk}:=I.turned (fun b o hb e=>kk b o (by simpa using hb) e) f0 f1 f3 f4 f5;refine⟨_,rfl,go_of (s:={s with heap:=h',toks:=tk}) (n:="range_iterator") st' rfl rfl ∅ ⟨.int (lo+i),H,I1,⟨t,?_⟩,⟨rfl,rfl⟩,st',fun b hb=>(hf b hb).1⟩⟩;rw[Int.mul_one]
 done:=by
  intro X hP hw hK hc i pins s σ H E I hf st hg;subst hP hw hK;obtain⟨f0,f1,f2,f3,f4,f5⟩:=hf it (by simp);exact wpAny_pyNext_range_end (I.ok.hd hc) st (by have:n<=i:=hg;omega) fun h' eb=>⟨rfl,I.turned (t':=s.toks) (fun b o hb e=>eb b o hb e) f0 f1 f3 f4 f5⟩
 self:=fun _ _ _ _ _ st h=>wpAny_pyIter_rangeiter st h
section
variable{X:Cx}{tg:vV}
def iList(K:uS)(tl:TE):TI:=fun σ H R=>tl σ H fun x H1=>∃a,x=.ref a/\(∃xs,SqL K H1 a xs)/\R (Itl K a) H1
def qaw{l:vV}{tl:TE}(hl:PE X l tl):PI X tg l (iList X.K tl):=by
 intro pins s σ H R I h;refine thn (hl pins s σ H _ I h) fun v s1 ⟨x,H1,I1,r1,q1⟩=>?_;obtain⟨a,e,⟨xs,hq⟩,q⟩:=q1;subst e
 cases r1
 obtain⟨its,rv,p,hz⟩:=I1.list hq;refine aR p.isList ?_;refine⟨↑s1,[↑s1],_,_,H1,rfl,I1.kept (t':=s1.toks) fun b o e=>uD _ e,turn_list a _,⟨_,vC _ rfl,rfl,rfl⟩,fun b hb=>?_,q⟩;have e:b=↑s1:=by simpa using hb
 subst e;exact I1.fpOk (uG _) (I1.hok.fresh (uG _))
def range_it{pins:List (Addr×Obj)}{σ:St}{H:Hp}{s:uC}{R:It->Hp->Prop}{E:uB->uC->Prop}{lo hi:Int}{t u v:Tok}{tk:Nat}(I:Inv X pins σ H s)(h1: -(2^62)<=lo)(h2:lo<2^62)(h3: -(2^62)<=hi)(h4:hi<2^62)
  (q:R (Itr lo (hi-lo).toNat) H):uU (uV X.prog X.w) X.A (pyIter (.ref ↑s)) (PIE X pins σ tg R) E {s with heap:=s.heap.push {cls:=.type "range",data:=.fields #[.int lo t,.int hi u,.int 1 v]},toks:=tk}:=by
 refine wpAny_pyIter_range (IsRange.new ..) (small_one h1 h2 h3 h4) ?_;have I1:Inv X pins σ H {s with heap:=s.heap.push {cls:=.type "range",data:=.fields #[.int lo t,.int hi u,.int 1 v]},toks:=tk}:=I.kept fun b o e=>uD _ e;refine⟨(s.heap.push {cls:=.type "range",data:=.fields #[.int lo t,.int hi u,.int 1 v]}).objs.size,[(s.heap.push {cls:=.type "range",data:=.fields #[.int lo t,.int hi u,.int 1 v]}).objs.size],_,_,H,rfl,
  I1.kept (t':=tk) fun b o e=>uD _ e,turn_range _ lo (hi-lo).toNat,?_,fun b hb=>?_,q⟩
 .have e1:lo+((0:Nat):Int)*1=lo:=by simp
  have e2:(((hi-lo).toNat:Nat):Int)-((0:Nat):Int)=Builtin.Range.rangeSize lo hi 1:=by rw[rangeSize_one];split<;>omega
  show IsRangeIter _ _ (lo+((0:Nat):Int)*1) ((((hi-lo).toNat:Nat):Int)-((0:Nat):Int)) 1;rw[e1,e2];exact vC _ rfl
 .have e:b=(s.heap.push {cls:=.type "range",data:=.fields #[.int lo t,.int hi u,.int 1 v]}).objs.size:=by simpa using hb
  subst e;exact I1.fpOk (uG _) (I1.hok.fresh (uG _))
def iRng1(ta:TA):TI:=fun σ H R=>ta σ H fun vs H1=>∃j:Int,vs=[.int j]/\-(2^62)<=j/\j<2^62/\R (Itr 0 j.toNat) H1
def iRng2(ta:TA):TI:=fun σ H R=>ta σ H fun vs H1=>∃i j:Int,vs=[.int i,.int j]/\(-(2^62)<=i/\i<2^62/\-(2^62)<=j/\j<2^62)/\R (Itr i (j-i).toNat) H1
def qco{a:vV}{ta:TA}{p:Pos}(hg:Gl X "range")(hm:X.mg "range"=none)(ha:PA X [a] ta)(hs:uZ [a] X.env=[(false,wL a X.env)]:=by rfl):PI X tg (.Call (.Name "range" p) [a] [] pos) (iRng1 ta):=by
 intro pins s σ H R I h;refine Call_ (qgj I hg hm boot_range (xZ (thn (ha pos pins s σ H _ I h) fun us s1 ⟨vs,H1,I1,r1,q1⟩=>?_) hs rfl));obtain⟨j,e,q1,q2,q⟩:=q1;subst e
 cases r1 with
 |cons r rr=>
  cases rr
  obtain⟨t,rfl⟩:=r;exact call_range_1 (range_it I1 ↑∅ ↑∅ q1 q2 (by simpa using q))
def pi_range2{a b:vV}{ta:TA}{p:Pos}(hg:Gl X "range")(hm:X.mg "range"=none)(ha:PA X [a,b] ta)(hs:uZ [a,b] X.env=[(false,wL a X.env),(false,wL b X.env)]:=by rfl)(hs2:uZ [b] X.env=[(false,wL b X.env)]:=by rfl):
  PI X tg (.Call (.Name "range" p) [a,b] [] pos) (iRng2 ta):=by
 intro pins s σ H R I h;refine Call_ (qgj I hg hm boot_range (xZ (thn (ha pos pins s σ H _ I h) fun us s1 ⟨vs,H1,I1,r1,q1⟩=>?_) (by rw[hs,hs2]) (by rw[hs2];rfl)));obtain⟨i,j,e,⟨q1,q2,q3,q4⟩,q⟩:=q1;subst e
 cases r1 with
 |cons r rr=>
  cases rr with
  |cons r' rr=>
   cases rr
   obtain⟨t,rfl⟩:=r;obtain⟨t',rfl⟩:=r';exact call_range_2 (range_it I1 q1 q2 q3 q4 q)
def tFor(wi:TI)(g:TG)(tb:TS):TS:=fun D σ H=>wi σ H fun J H1=>∃W:Nat->Nat->St->Hp->Prop,(∃m,W 0 m σ H1)/\∀i m σ H,W i m σ H->
 (J.stop i H/\D.nx σ H)\/(J.go i H/\∃N:St->Hp->Prop,(∀σ' H',N σ' H'->∃m',m'<m/\W (i+1) m' σ' H')/\∀x H',J.yld i H x H'->g x σ H' fun σ2 H2=>tb {D with nx:=N,ct:=N,bk:=D.nx} σ2 H2)
def qeh(fp:List Addr)(h:vQ):List (Addr×Obj):=fp.filterMap fun b=>(h.get? b).map fun o=>(b,o)
def qdq{o:Obj}(hb:b∈fp)(e:h.get? b=some o):(b,o)∈qeh fp h:=List.mem_filterMap.mpr ⟨b,hb,by rw[e];rfl⟩
def of_pinsAt{p:Addr×Obj}(hp:p∈qeh fp h):p.1∈fp/\h.get? p.1=some p.2:=by
 obtain⟨b,hb,e⟩:=List.mem_filterMap.mp hp
 cases q:h.get? b with
 |none=>rw[q] at e;cases e
 |some o=>
  rw[q] at e;have e':(b,o)=p:=uQ e;subst e';exact⟨hb,q⟩
def Inv.pinned(I:Inv X pins σ H s)(hf:∀b∈fp,FpOk X pins H b)(ho:∀b∈fp,∃o,s.heap.get? b=some o/\∀v,o.data≠ .cell v):Inv X (pins++qeh fp s.heap) σ H s:=
 I.pins_of fun p hp=>(zH.mp hp).elim (fun z=>I.pin p (zM _ z)) fun z=>by
  obtain⟨hb,e⟩:=of_pinsAt z;obtain⟨f0,f1,f2,_⟩:=hf p.1 hb;obtain⟨o,e',d⟩:=ho p.1 hb;rw[e] at e';cases e';exact⟨e,f0,f1,f2,d⟩
def Inv.unpinned{pl:List (Addr×Obj)}(I:Inv X (pins++pl) σ H s):Inv X pins σ H s:=I.pins_of fun p hp=>I.pin p (zM _ (zQ _ hp))
def qb0{iter:vV}{body:List Stmt}{wi:TI}{g:TG}{tb:TS}{pos:Pos}(hp:PassesOwn (uV X.prog X.w) X.A X.env X.xe)(hc:X.calm=true)(hi:PI X tg iter wi)(hg:PG X tg g)(hb:PSs X body tb)
  (hs:∀x,cD iter X.env x=pure x:=by intro _;rfl):PS X (.For tg iter body [] pos) (tFor wi g tb):=by
 intro pins s σ H D I h;refine wpAny_For (thn (hi pins s σ H _ I h) fun v s1 h1=>thn h1 fun itv s2 h2=>?_) hs;obtain⟨it,fp,tn,J,H2,e,I2,T,st2,f2,W,⟨m0,w0⟩,turn⟩:=h2;subst e;have stat:∀{H':Hp},(∀b∈fp,H' b=none)->∀b∈fp,FpOk X pins H' b:=fun hn b hb=>⟨hn b hb,(f2 b hb).2⟩;refine codeAny_forLoop_any (fun n s'=>∃i σ' H',Inv X pins σ' H' s'/\tn i s'.heap/\(∀b∈fp,H' b=none)/\W i n σ' H') ?_ m0 ⟨0,σ,H2,I2,st2,fun b hb=>(f2 b hb).1,w0⟩;rintro n s3 ⟨i,σ3,H3,I3,st3,fr3,w3⟩;rcases turn i n σ3 H3 w3 with⟨stop,qn⟩|⟨go,N,hN,step⟩
 .refine xV hp (thn (T.done X rfl rfl rfl hc i pins s3 σ3 H3 X.xe I3 (stat fr3) st3 stop) fun r s4 ⟨hr,I4⟩=>?_);subst hr;exact dC ⟨σ3,H3,I4,qn⟩
 .refine xV hp (thn (T.item X rfl rfl rfl hc i pins s3 σ3 H3 X.xe I3 (stat fr3) st3 go) fun r s4 ⟨u,hr,h4⟩=>?_);subst hr;refine xV hp (thn h4 fun _ s5 ⟨x,H5,I5,r5,y5,st5,fr5⟩=>?_);have I5':=I5.pinned (stat fr5) (T.obj _ _ st5);refine xV hp (thn (hg _ s5 σ3 H5 x u _ I5' r5 (step x H5 y5)) fun _ s6 ⟨σ6,H6,I6,q6⟩=>?_);refine xV hp (thn (hb _ s6 σ6 H6 _ I6 q6) fun f s7 q7=>?_);have again:∀{σ7:St} {H7:Hp},Inv X (pins++qeh fp s5.heap) σ7 H7 s7->N σ7 H7->∃m,m<n/\∃i σ' H',Inv X pins σ' H' s7/\tn i s7.heap/\(∀b∈fp,H' b=none)/\W i m σ' H':=fun {σ7 H7} I7 n7=>by
   obtain⟨m',hm,w7⟩:=hN σ7 H7 n7;refine⟨m',hm,i+1,σ7,H7,I7.unpinned,T.keep _ _ _ st5 fun b hb o e=>(I7.pin (b,o) (zM _ (zM _ (qdq hb e)))).1,fun b hb=>?_,w7⟩;obtain⟨o,e,d⟩:=T.obj _ _ st5 b hb;exact(I7.pin (b,o) (zM _ (zM _ (qdq hb e)))).2.1
  cases f with
  |next=>obtain⟨σ7,H7,I7,n7⟩:=q7;exact again I7 n7
  |cont=>obtain⟨σ7,H7,I7,n7⟩:=q7;exact again I7 n7
  |brk=>obtain⟨σ7,H7,I7,q7⟩:=q7;exact⟨σ7,H7,I7.unpinned,q7⟩
  |ret v=>obtain⟨x7,σ7,H7,I7,r7,q7⟩:=q7;exact⟨x7,σ7,H7,I7.unpinned,r7,q7⟩
end
def for_list{K:uS}{a:Addr}{xs:List V}{g:TG}{tb:TS}{D:Ends}{σ:St}{H:Hp}(Pv:Nat->St->Hp->Prop)(h0:Pv 0 σ H)(hl:∀i σ H,i<=xs.length->Pv i σ H->SqL K H a xs)
  (hs:∀i x σ H,xs[i]?=some x->Pv i σ H->g x σ H fun σ2 H2=>tb {D with nx:=Pv (i+1),ct:=Pv (i+1),bk:=D.nx} σ2 H2)(hd:∀σ H,Pv xs.length σ H->D.nx σ H):
  ∃W:Nat->Nat->St->Hp->Prop,(∃m,W 0 m σ H)/\∀i m σ H,W i m σ H->
   ((Itl K a).stop i H/\D.nx σ H)\/((Itl K a).go i H/\∃N:St->Hp->Prop,(∀σ' H',N σ' H'->∃m',m'<m/\W (i+1) m' σ' H')/\∀x H',(Itl K a).yld i H x H'->g x σ H' fun σ2 H2=>tb {D with nx:=N,ct:=N,bk:=D.nx} σ2 H2):=by
 refine⟨fun i m σ H=>m=xs.length-i/\i<=xs.length/\Pv i σ H,⟨xs.length,by simp,wR _,h0⟩,?_⟩;rintro i m σ H ⟨rfl,hi,p⟩;have q:=hl i σ H hi p;by_cases hlt:i<xs.length
 .refine .inr ⟨⟨xs,xs[i],q,by simp[hlt]⟩,Pv (i+1),fun σ' H' p'=>⟨xs.length-(i+1),↑∅,rfl,hlt,p'⟩,fun x H' y=>?_⟩;obtain⟨e,y⟩:=y;subst e;exact hs i x σ _ (y xs q) p
 .have e:i=xs.length:=by omega
  subst e;exact .inl ⟨⟨xs,q,uG _⟩,hd σ H p⟩
def for_range{lo:Int}{n:Nat}{g:TG}{tb:TS}{D:Ends}{σ:St}{H:Hp}(Pv:Nat->St->Hp->Prop)(h0:Pv 0 σ H)
  (hs:∀i σ H,i<n->Pv i σ H->g (.int (lo+i)) σ H fun σ2 H2=>tb {D with nx:=Pv (i+1),ct:=Pv (i+1),bk:=D.nx} σ2 H2)(hd:∀σ H,Pv n σ H->D.nx σ H):
  ∃W:Nat->Nat->St->Hp->Prop,(∃m,W 0 m σ H)/\∀i m σ H,W i m σ H->
   ((Itr lo n).stop i H/\D.nx σ H)\/((Itr lo n).go i H/\∃N:St->Hp->Prop,(∀σ' H',N σ' H'->∃m',m'<m/\W (i+1) m' σ' H')/\∀x H',(Itr lo n).yld i H x H'->g x σ H' fun σ2 H2=>tb {D with nx:=N,ct:=N,bk:=D.nx} σ2 H2):=by
 refine⟨fun i m σ H=>m=n-i/\i<=n/\Pv i σ H,⟨n,by simp,wR _,h0⟩,?_⟩;rintro i m σ H ⟨rfl,hi,p⟩;by_cases hlt:i<n
 .refine .inr ⟨hlt,Pv (i+1),fun σ' H' p'=>⟨n-(i+1),↑∅,rfl,hlt,p'⟩,fun x H' y=>?_⟩;obtain⟨e,y⟩:=y;subst e y;exact hs i σ _ hlt p
 .have e:i=n:=by omega
  subst e;exact .inl ⟨uG _,hd σ H p⟩
def qe7{c:TT}{tb:TS}{D:Ends}{σ:St}{H:Hp}(Pv:St->Hp->Prop)(μ:St->Hp->Nat)(h0:Pv σ H)
  (hs:∀σ H,Pv σ H->c σ H fun b H1=>if b=true then tb {D with nx:=fun σ' H'=>Pv σ' H'/\μ σ' H'<μ σ H,ct:=fun σ' H'=>Pv σ' H'/\μ σ' H'<μ σ H,bk:=D.nx} σ H1 else D.nx σ H1)
  (mono:∀σ H Q Q',(∀b H1,Q b H1->Q' b H1)->c σ H Q->c σ H Q'):tWhile c tb D σ H:=by
 refine⟨fun m σ H=>m=μ σ H/\Pv σ H,⟨_,rfl,h0⟩,?_⟩;rintro m σ H ⟨rfl,p⟩;refine mono σ H _ _ (fun b H1 q=>?_) (hs σ H p)
 cases b with
 |true=>exact⟨_,fun σ' H' ⟨p',l⟩=>⟨_,l,rfl,p'⟩,q⟩
 |false=>exact q
abbrev R2:=V->V->Hp->VK->Prop
def OpR(X:Cx)(f:uB->uB->Sem uB)(r:R2):Prop:=
 ∀(pins:List (Addr×Obj))(s:uC)(σ:St)(H:Hp)(x y:V)(v u:uB)(Q:VK),Inv X pins σ H s->qb8 x v->qb8 y u->r x y H Q->
  uU (uV X.prog X.w) X.A (f v u) (EP X pins σ Q) X.xe s
def UnR(X:Cx)(f:uB->Sem uB)(r:V->Hp->VK->Prop):Prop:=
 ∀(pins:List (Addr×Obj))(s:uC)(σ:St)(H:Hp)(x:V)(v:uB)(Q:VK),Inv X pins σ H s->qb8 x v->r x H Q->
  uU (uV X.prog X.w) X.A (f v) (EP X pins σ Q) X.xe s
def qcr(X:Cx)(f:uB)(r:List V->Hp->VK->Prop):Prop:=
 ∀(pins:List (Addr×Obj))(s:uC)(σ:St)(H:Hp)(xs:List V)(us:List uB)(Q:VK),Inv X pins σ H s->qbk xs us->r xs H Q->
  uU (uV X.prog X.w) X.A (call f us) (EP X pins σ Q) X.xe s
def tOp(r:R2)(ta tb:TE):TE:=fun σ H Q=>ta σ H fun x H1=>tb σ H1 fun y H2=>r x y H2 Q
def tUn(r:V->Hp->VK->Prop)(ta:TE):TE:=fun σ H Q=>ta σ H fun x H1=>r x H1 Q
def rI(C:Int->Int->Prop)(g:Int->Int->V):R2:=fun x y H Q=>∃i j,x=.int i/\y=.int j/\C i j/\Q (g i j) H
def rI0(g:Int->Int->V):R2:=fun x y H Q=>∃i j,x=.int i/\y=.int j/\Q (g i j) H
def rU(g:Int->V):V->Hp->VK->Prop:=fun x H Q=>∃i,x=.int i/\Q (g i) H
section
variable{X:Cx}{a b:vV}{ta tb:TE}{pos:Pos}
def binT(ha:PE X a ta)(hb:PE X b tb){pins:List (Addr×Obj)}{s:uC}{σ:St}{H:Hp}{R:V->V->Hp->Prop}(I:Inv X pins σ H s)
  (h:ta σ H fun x H1=>tb σ H1 fun y H2=>R x y H2){Q:uB->uC->Prop}{f:uB->uB->Sem uB}
  (hf:∀v u s2 x y H2,Inv X pins σ H2 s2->qb8 x v->qb8 y u->R x y H2->uU (uV X.prog X.w) X.A (f v u) Q X.xe s2):
  uU (uV X.prog X.w) X.A (wL a X.env) (fun v s₁=>uU (uV X.prog X.w) X.A (wL b X.env) (fun u s₂=>uU (uV X.prog X.w) X.A (f v u) Q X.xe s₂) X.xe s₁) X.xe s:=by
 refine thn (ha pins s σ H _ I h) fun v s1 ⟨x,H1,I1,r1,q1⟩=>?_;refine thn (hb pins s1 σ H1 _ I1 q1) fun u s2 ⟨y,H2,I2,r2,q2⟩=>?_;exact hf v u s2 x y H2 I2 r1 r2 q2
def qah{op:Operator}(ho:OpR X (aE op) r)(ha:PE X a ta)(hb:PE X b tb):PE X (.BinOp a op b pos) (tOp r ta tb):=by
 intro pins s σ H Q I h;exact wpAny_BinOp (binT ha hb I h fun v u s2 x y H2 I2 rx ry q=>ho pins s2 σ H2 x y v u Q I2 rx ry q)
def pe_un{op:UnaryOp}{r:V->Hp->VK->Prop}(ho:UnR X (unaryOp op) r)(ha:PE X a ta):PE X (.UnaryOp op a pos) (tUn r ta):=by
 intro pins s σ H Q I h;exact UnaryOp_ (thn (ha pins s σ H _ I h) fun v s1 ⟨x,H1,I1,r1,q1⟩=>ho pins s1 σ H1 x v Q I1 r1 q1)
def opI{f:uB->uB->Sem uB}{C:Int->Int->Prop}{g:Int->Int->Int}
  (rule:∀(i j:Int)(t u:Tok)(s:uC)(Q:uB->uC->Prop)(E:uB->uC->Prop),C i j->Q (.int (g i j) s.toks) {s with toks:=s.toks+1}->uU (uV X.prog X.w) X.A (f (.int i t) (.int j u)) Q E s):
  OpR X f (rI C fun i j=> .int (g i j)):=by
 intro pins s σ H x y v u Q I rx ry h;obtain⟨i,j,rfl,rfl,hc,q⟩:=h;obtain⟨t,rfl⟩:=rx;obtain⟨t',rfl⟩:=ry;exact rule i j t t' s _ _ hc ⟨.int (g i j),H,I.tok _,⟨_,rfl⟩,q⟩
def opI0{f:uB->uB->Sem uB}{g:Int->Int->Int}
  (rule:∀(i j:Int)(t u:Tok)(s:uC)(Q:uB->uC->Prop)(E:uB->uC->Prop),Q (.int (g i j) s.toks) {s with toks:=s.toks+1}->uU (uV X.prog X.w) X.A (f (.int i t) (.int j u)) Q E s):
  OpR X f (rI0 fun i j=> .int (g i j)):=by
 intro pins s σ H x y v u Q I rx ry h;obtain⟨i,j,rfl,rfl,q⟩:=h;obtain⟨t,rfl⟩:=rx;obtain⟨t',rfl⟩:=ry;exact rule i j t t' s _ _ ⟨.int (g i j),H,I.tok _,⟨_,rfl⟩,q⟩
def opB0{f:uB->uB->Sem uB}{g:Int->Int->Bool}
  (rule:∀(i j:Int)(t u:Tok)(s:uC)(Q:uB->uC->Prop)(E:uB->uC->Prop),Q (.bool (g i j)) s->uU (uV X.prog X.w) X.A (f (.int i t) (.int j u)) Q E s):
  OpR X f (rI0 fun i j=> .bl (g i j)):=by
 intro pins s σ H x y v u Q I rx ry h;obtain⟨i,j,rfl,rfl,q⟩:=h;obtain⟨t,rfl⟩:=rx;obtain⟨t',rfl⟩:=ry;exact rule i j t t' s _ _ ⟨.bl (g i j),H,I,rfl,q⟩
def CPow(i j:Int):Prop:=0<=j/\j<=1000000/\i.natAbs<2^64
def qbx:OpR X (aE .Add) (rI0 fun i j=> .int (i+j)):=opI0 fun _ _ _ _ _ _ _ q=>add_int q
def op_sub:OpR X (aE .Sub) (rI0 fun i j=> .int (i-j)):=opI0 fun _ _ _ _ _ _ _ q=>sub_int q
def qb5:OpR X (aE .Mod) (rI (fun _ j=>0<j) fun i j=> .int (i%j)):=opI fun i j _ _ _ _ _ hc q=>by
 have h1:(0:Int)<j:=hc;exact mod_int' ↑∅ (by rw[Int.fmod_eq_emod_of_nonneg i ↑∅];exact q)
def op_pow:OpR X (aE .Pow) (rI CPow fun i j=> .int (i^j.toNat)):=opI fun _ _ _ _ _ _ _ hc q=>pow_int_small hc.1 hc.2.1 hc.2.2 q
def unI{f:uB->Sem uB}{g:Int->Int}
  (rule:∀(i:Int)(t:Tok)(s:uC)(Q:uB->uC->Prop)(E:uB->uC->Prop),Q (.int (g i) s.toks) {s with toks:=s.toks+1}->uU (uV X.prog X.w) X.A (f (.int i t)) Q E s):
  UnR X f (rU fun i=> .int (g i)):=by
 intro pins s σ H x v Q I rx h;obtain⟨i,rfl,q⟩:=h;obtain⟨t,rfl⟩:=rx;exact rule i t s _ _ ⟨.int (g i),H,I.tok _,⟨_,rfl⟩,q⟩
def un_neg:UnR X (unaryOp .USub) (rU fun i=> .int (-i)):=unI fun _ _ _ _ _ q=>neg_int q
end
def scal:V->V->Bool
 | .non,.non=>true| .non,.int _=>true| .int _,.non=>true| .non,.bl _=>true| .bl _,.non=>true| .non,.str _=>true| .str _,.non=>true
 | .int _,.int _=>true| .bl _,.bl _=>true| .str _,.str _=>true| .byt _,.byt _=>true
 | .int _,.str _=>true| .str _,.int _=>true| .bl _,.str _=>true| .str _,.bl _=>true
 |_,_=>false
def rEq:R2:=fun x y H Q=>scal x y=true/\Q (.bl (decide (x=y))) H
def rNe:R2:=fun x y H Q=>scal x y=true/\Q (.bl (!decide (x=y))) H
def dec_int{i j:Int} :decide (V.int i=V.int j)=(i==j):=by
 rw[wY];simp
def dec_bl{i j:Bool} :decide (V.bl i=V.bl j)=(i==j):=by
 rw[wY];simp
def dec_str{i j:Str} :decide (V.str i=V.str j)=(i==j):=by
 rw[wY];simp
def dec_byt{i j:Array UInt8} :decide (V.byt i=V.byt j)=(i.toList==j.toList):=by
 rw[wY]
 cases i
 cases j
 simp
section
variable{X:Cx}{a b c:vV}{ta tb tc:TE}{pos:Pos}
def qb9{Q:VK}{k k':Bool}(I:Inv X pins σ H s)(q:Q (.bl k) H)(e:k=k'):EP X pins σ Q (.bool k') s:=by
 subst e;exact⟨.bl k,H,I,rfl,q⟩
def qel:OpR X (wG .Eq) rEq:=by
 intro pins s σ H x y v u Q I rx ry h;obtain⟨hs,q⟩:=h
 cases x with
 |non=>
  cases rx
  cases y with
  |non=>cases ry;exact PySem.EqNone.eq_none_none (qb9 I q (by simp))
  |bl j=>cases ry;exact PySem.EqNone.eq_none_bool (qb9 I q (by simp))
  |int j=>obtain⟨t',rfl⟩:=ry;exact PySem.EqNone.eq_none_int (qb9 I q (by simp))
  |str j=>obtain⟨t',rfl⟩:=ry;exact PySem.EqNone.eq_none_str (qb9 I q (by simp))
  |_=>exact absurd (show false=true from hs) vA
 |bl i=>
  cases rx
  cases y with
  |non=>cases ry;exact PySem.EqNone.eq_bool_none (qb9 I q (by simp))
  |bl j=>cases ry;exact eq_bool (qb9 I q dec_bl)
  |str j=>obtain⟨t',rfl⟩:=ry;exact PySem.EqMixed.eq_bool_str (qb9 I q (by simp))
  |_=>exact absurd (show false=true from hs) vA
 |int i=>
  obtain⟨t,rfl⟩:=rx
  cases y with
  |non=>cases ry;exact PySem.EqNone.eq_int_none (qb9 I q (by simp))
  |int j=>obtain⟨t',rfl⟩:=ry;exact eq_int (qb9 I q dec_int)
  |str j=>obtain⟨t',rfl⟩:=ry;exact PySem.EqMixed.eq_int_str (qb9 I q (by simp))
  |_=>exact absurd (show false=true from hs) vA
 |str i=>
  obtain⟨t,rfl⟩:=rx
  cases y with
  |non=>cases ry;exact PySem.EqNone.eq_str_none (qb9 I q (by simp))
  |bl j=>cases ry;exact PySem.EqMixed.eq_str_bool (qb9 I q (by simp))
  |int j=>obtain⟨t',rfl⟩:=ry;exact PySem.EqMixed.eq_str_int (qb9 I q (by simp))
  |str j=>obtain⟨t',rfl⟩:=ry;exact eq_str (qb9 I q dec_str)
  |_=>exact absurd (show false=true from hs) vA
 |byt i=>
  obtain⟨t,rfl⟩:=rx
  cases y with
  |byt j=>obtain⟨t',rfl⟩:=ry;exact PySem.W.eq_bytes (qb9 I q dec_byt)
  |_=>exact absurd (show false=true from hs) vA
 |_=>cases y<;>exact absurd (show false=true from hs) vA
def op_ne:OpR X (wG .NotEq) rNe:=by
 intro pins s σ H x y v u Q I rx ry h;obtain⟨hs,q⟩:=h
 cases x with
 |non=>
  cases rx
  cases y with
  |non=>cases ry;exact PySem.EqNone.ne_none_none (qb9 I q (by simp))
  |bl j=>cases ry;exact PySem.EqNone.ne_none_bool (qb9 I q (by simp))
  |int j=>obtain⟨t',rfl⟩:=ry;exact PySem.EqNone.ne_none_int (qb9 I q (by simp))
  |str j=>obtain⟨t',rfl⟩:=ry;exact PySem.EqNone.ne_none_str (qb9 I q (by simp))
  |_=>exact absurd (show false=true from hs) vA
 |bl i=>
  cases rx
  cases y with
  |non=>cases ry;exact PySem.EqNone.ne_bool_none (qb9 I q (by simp))
  |bl j=>cases ry;exact ne_bool (qb9 I q (congrArg not dec_bl))
  |str j=>obtain⟨t',rfl⟩:=ry;exact PySem.EqMixed.ne_bool_str (qb9 I q (by simp))
  |_=>exact absurd (show false=true from hs) vA
 |int i=>
  obtain⟨t,rfl⟩:=rx
  cases y with
  |non=>cases ry;exact PySem.EqNone.ne_int_none (qb9 I q (by simp))
  |int j=>obtain⟨t',rfl⟩:=ry;exact ne_int (qb9 I q (congrArg not dec_int))
  |str j=>obtain⟨t',rfl⟩:=ry;exact PySem.EqMixed.ne_int_str (qb9 I q (by simp))
  |_=>exact absurd (show false=true from hs) vA
 |str i=>
  obtain⟨t,rfl⟩:=rx
  cases y with
  |non=>cases ry;exact PySem.EqNone.ne_str_none (qb9 I q (by simp))
  |bl j=>cases ry;exact PySem.EqMixed.ne_str_bool (qb9 I q (by simp))
  |int j=>obtain⟨t',rfl⟩:=ry;exact PySem.EqMixed.ne_str_int (qb9 I q (by simp))
  |str j=>obtain⟨t',rfl⟩:=ry;exact ne_str (qb9 I q (congrArg not dec_str))
  |_=>exact absurd (show false=true from hs) vA
 |byt i=>
  obtain⟨t,rfl⟩:=rx
  cases y with
  |byt j=>obtain⟨t',rfl⟩:=ry;exact PySem.W.ne_bytes (qb9 I q (congrArg not dec_byt))
  |_=>exact absurd (show false=true from hs) vA
 |_=>cases y<;>exact absurd (show false=true from hs) vA
def op_lt:OpR X (wG .Lt) (rI0 fun i j=> .bl (decide (i<j))):=opB0 fun _ _ _ _ _ _ _ q=>lt_int q
def op_le:OpR X (wG .LtE) (rI0 fun i j=> .bl (decide (i<=j))):=opB0 fun _ _ _ _ _ _ _ q=>le_int q
def qft:OpR X (wG .Gt) (rI0 fun i j=> .bl (decide (j<i))):=opB0 fun _ _ _ _ _ _ _ q=>gt_int q
def op_ge:OpR X (wG .GtE) (rI0 fun i j=> .bl (decide (j<=i))):=opB0 fun _ _ _ _ _ _ _ q=>ge_int q
def op_in_str:OpR X (wG .In) (fun x y H Q=>∃i j,x=.str i/\y=.str j/\Q (.bl (!(aL j i 0 j.length 1).isEmpty)) H):=by
 intro pins s σ H x y v u Q I rx ry h;obtain⟨i,j,rfl,rfl,q⟩:=h;obtain⟨t,rfl⟩:=rx;obtain⟨t',rfl⟩:=ry;exact in_str (qb9 I q rfl)
def op_isN:OpR X (wG .Is) (fun x y H Q=>y=.non/\Q (.bl (decide (x=.non))) H):=by
 intro pins s σ H x y v u Q I rx ry h;obtain⟨rfl,q⟩:=h
 cases ry
 refine is_none_gen (qb9 I q ?_)
 cases x<;>first
  |(cases rx;rfl)
  |(obtain⟨t,rfl⟩:=rx;rfl)
def op_notN:OpR X (wG .IsNot) (fun x y H Q=>y=.non/\Q (.bl (!decide (x=.non))) H):=by
 intro pins s σ H x y v u Q I rx ry h;obtain⟨rfl,q⟩:=h
 cases ry
 refine isnot_none_gen (qb9 I q ?_)
 cases x<;>first
  |(cases rx;rfl)
  |(obtain⟨t,rfl⟩:=rx;rfl)
def qar(b:vV){op:CmpOp}(h:op≠ .In:=by decide)(h2:op≠ .NotIn:=by decide):bH op b=false:=by
 have e1:(op==CmpOp.In)=false:=by cases op<;>first|rfl|exact absurd rfl h
 have e2:(op==CmpOp.NotIn)=false:=by cases op<;>first|rfl|exact absurd rfl h2
 cases b<;>simp[bH,e1,e2]
def qci(ho:OpR X (wG op) r)(ha:PE X a ta)(hb:PE X b tb)(hm:bH op b=false):PE X (.Compare a [op] [b] pos) (tOp r ta tb):=by
 intro pins s σ H Q I h;exact wpAny_Compare1 (binT ha hb I h fun v u s2 x y H2 I2 rx ry q=>ho pins s2 σ H2 x y v u Q I2 rx ry q) hm
def tTest(t:TE):TT:=fun σ H Q=>t σ H fun x H'=>∃k,x=.bl k/\Q k H'
def qai(ho:OpR X (wG op) r)(ha:PE X a ta)(hb:PE X b tb)(hm:bH op b=false):PT X (.Compare a [op] [b] pos) (tTest (tOp r ta tb)):=by
 intro pins s σ H Q I h;refine wpAny_isTrue_Compare1 (thn (ha pins s σ H _ I h) fun v s1 ⟨x,H1,I1,r1,q1⟩=>thn (hb pins s1 σ H1 _ I1 q1) fun u s2 ⟨y,H2,I2,r2,q2⟩=>
  thn (ho pins s2 σ H2 x y v u _ I2 r1 r2 q2) fun c s3 ⟨z,H3,I3,r3,k,e,q3⟩=>?_) hm
 subst e
 cases r3
 exact wQ ⟨H3,I3,q3⟩
def tChain(r r':R2)(ta tb tc:TE):TE:=fun σ H Q=>ta σ H fun x H1=>tb σ H1 fun y H2=>r x y H2 fun z H3=>∃k,z=.bl k/\
 (if k=true then tc σ H3 fun w' H4=>r' y w' H4 Q else Q (.bl false) H3)
def pe_chain{op op':CmpOp}{r r':R2}(ho:OpR X (wG op) r)(ho':OpR X (wG op') r')(ha:PE X a ta)(hb:PE X b tb)(hc:PE X c tc)
  (hm:lastMarks [op,op'] [b,c]=false:=by with_unfolding_all rfl):PE X (.Compare a [op,op'] [b,c] pos) (tChain r r' ta tb tc):=by
 intro pins s σ H Q I h;refine Compare_chain (thn (ha pins s σ H _ I h) fun v s1 ⟨x,H1,I1,r1,q1⟩=>chain_link (thn (hb pins s1 σ H1 _ I1 q1) fun u s2 ⟨y,H2,I2,r2,q2⟩=>
  thn (ho pins s2 σ H2 x y v u _ I2 r1 r2 q2) fun d s3 ⟨z,H3,I3,r3,k,e,q3⟩=>?_)) hm
 subst e
 cases r3
 refine wQ ?_
 cases k with
 |false=>exact ite_ff ⟨.bl false,H3,I3,rfl,q3⟩
 |true=>exact ite_tt (chain_last (thn (hc pins s3 σ H3 _ I3 q3) fun w' s4 ⟨z',H4,I4,r4,q4⟩=>ho' pins s4 σ H4 y z' u w' Q I4 r2 r4 q4))
def line63:(sizeLine:Nat)<2^63:=by rw[yT];decide
def op_add_str:OpR X (aE .Add) (fun x y H Q=>∃i j,x=.str i/\y=.str j/\i.length+j.length<=sizeLine/\Q (.str (i++j)) H):=by
 intro pins s σ H x y v u Q I rx ry h;obtain⟨i,j,rfl,rfl,hz,q⟩:=h;obtain⟨t,rfl⟩:=rx;obtain⟨t',rfl⟩:=ry;exact add_str (fun t' tk=>⟨.str (i++j),H,I.tok _,⟨_,rfl⟩,q⟩) hz
def vals1{x:V}(r:qbk [x] us):∃u,us=[u]/\qb8 x u:=by
 cases r with
 |cons r1 r2=>cases r2;exact⟨_,rfl,r1⟩
def call_abs:qcr X (.builtin "abs") (fun xs H Q=>∃i,xs=[.int i]/\Q (.int (if i<0 then -i else i)) H):=by
 intro pins s σ H xs us Q I r h;obtain⟨i,rfl,q⟩:=h;obtain⟨u,rfl,t,rfl⟩:=vals1 r;exact call_abs_int fun u tk=>⟨.int (if i<0 then -i else i),H,I.tok _,⟨_,rfl⟩,q⟩
end
structure ObjM(h:vQ)(x dx C:Addr)(mA:Str->Option uB):Prop where
 obj:h.get? x=some (cU C dx)
 ns:h.Ns1 dx mA
 ne:dx≠x
def lookIn_ns{dx:Addr}{mA:Str->Option uB}(n:h.Ns1 dx mA):∃od,h.get? dx=some od/\∀name,lookIn name od=some (mA name):=by
 obtain⟨o,es,ep,ho,hd,hk,_,hm⟩:=n;refine⟨o,ho,fun name=>?_⟩;have e:=hm name;unfold eP findBy at e;rw[<-eQ] at e;unfold lookIn;rw[hd];dsimp only
 split
 .rename_i y q;rw[q] at e;exact congrArg some e
 .rename_i q;rw[q] at e;have a:es.toList.any (·.refKey)=false:=by
   rw[List.any_eq_false];intro y hy;obtain⟨z,t,hkey⟩:=hk y (Array.mem_toList_iff.mp hy);simp[DictEntry.refKey,hkey]
  have a':¬es.toList.any (·.refKey)=true:=by rw[a];exact vA
  rw[gI a'];exact congrArg some e
def ObjM.look{x dx:Addr}{mA:Str->Option uB}(I:ObjM h x dx C mA):∃od,PySem.W.InstAt h x (cU C dx) C (some od)/\∀name,lookIn name od=some (mA name):=
 let ⟨od,ho,hl⟩:=lookIn_ns I.ns
 ⟨od,⟨I.obj,rfl,rfl,ho⟩,hl⟩
section
variable{prog:uY}{w:vL}{A:vR}{E:uB->uC->Prop}{s:uC}{K:uS}{x dx C f:Addr}{mA:Str->Option uB}{name:Str}{v:uB}
def get_map{expr:Bool}{Q:uB->uC->Prop}(X:K.In s.heap)(I:ObjM s.heap x dx C mA)(hg:plainGet K C name=true)(hh:fZ K C=true)
  (ha:vY K (.ref C) name=some none)(hv:mA name=some v)(hv':PySem.W.handedIn v=true)(h:Q v {s with toks:=s.toks+1}):
  uU (uV prog w) A (getAttr (.ref x) name expr) Q E s:=by
 obtain⟨od,J,hl⟩:=I.look;exact PySem.W.get_value X J (eA hg).1 (PySem.W.findObj_own hh ha rfl (by rw[hl,hv])) hv' h
def get_meth{pl:Sem Bool}{Q:uB×List uB->uC->Prop}(X:K.In s.heap)(I:ObjM s.heap x dx C mA)(hg:plainGet K C name=true)
  (hf:vY K (.ref C) name=some (some (.ref f)))(ht:isFn K (.ref f)=true)(hv:mA name=none)(h:Q (.ref f,[.ref x]) s):
  uU (uV prog w) A (cQ (.ref x) name pl) Q E s:=by
 obtain⟨od,J,hl⟩:=I.look;exact PySem.W.method_fn X J (eA hg).1 (eA hg).2 hf (beq_iff_eq.mp ht) (by show(lookIn name od).map (·.isSome)=some false;rw[hl,hv];rfl) h
def set_map{ns:List Str}{Q:Unit->uC->Prop}(X:K.In s.heap)(I:ObjM s.heap x dx C mA)
  (hs:vY K (.ref C) "__setattr__"=some (some (.builtin "object.__setattr__")))(hp:PySem.W.plainOver K C=true)(ht:PySem.W.takerIn K C name=some none)(hh:fZ K C=true)
  (hw:PySem.Within mA ns)(hsz:ns.length<=sizeLine)
  (h:∀h',ObjM h' x dx C (fun y=>if y=name then some v else mA y)->bU dx s.heap h'->Q () {s with heap:=h',toks:=s.toks+2}):
  uU (uV prog w) A (setAttr (.ref x) name v) Q E s:=by
 obtain⟨od,J,hl⟩:=I.look;refine PySem.W.set_plain X J hs (PySem.W.osa_open (s:={s with toks:=s.toks+1}) (r:=none) X J hp ht fun b=>?_);obtain⟨cd,hc,hd'⟩:=PySem.W.any_some hh;have hx:s.heap.get? x=some ⟨.ref C,some dx,.plain,#[]⟩:=I.obj;refine uE (uW (uE (uE (wpAny_loadPart hx (uE (PySem.W.Looks.here (s:={s with toks:=s.toks+1}) (PySem.W.looks_clsIn X hc) ?_))))));rw[hd'];refine uW (a:=some dx) (uE (uW (uE ?_)));refine wpAny_nsSet1 (s:={s with toks:=s.toks+1}) I.ns fun h' hn2 hs2=>?_;obtain⟨oD,esD,epD,hoD,hdD,hcD⟩:=hn2.count (PySem.Within.cons name v hw);refine uE (wpAny_lookBehind hoD (by rw[hdD];exact pastItsLine_dict (vJ hcD (by rw[zR];omega))) ?_);exact uW (h _ ⟨(hs2.2 _ (xK I.ne)).trans I.obj,hn2,I.ne⟩ hs2)
def make_map{R:Result->uC->Prop}{vs:List uB}{kw:List (Str×uB)}(X:K.In s.heap)(hm:PySem.W.makesIn K C=true)
  (hi:vY K (.ref C) "__init__"=some (some (.ref f)))(hf:PySem.W.typeIn K (.ref f)=some (.type "function"))
  (h:bI (uV prog w) (A.under (.builtin "type.__call__" ⟨.ref C::vs,kw⟩)) (.call (.ref f) ⟨.ref (↑s+1)::vs,kw⟩) (PySem.W.InitBack (↑s+1) R)
   {s with heap:=(s.heap.push emptyDict).push (cU C ↑s)}):
  bI (uV prog w) A (.call (.ref C) ⟨vs,kw⟩) R s:=by
 obtain⟨hh,g,d,t,os⟩:=s;exact PySem.W.make_core (PySem.W.makes_of X hm) (PySem.W.looks_findIn X hi) (fun self=>PySem.W.bind_fn X self hf) (.inl rfl) h
end
def qe0(f:Str)(v:V):List (Str×V)->List (Str×V)
 | []=> [(f,v)]
 |(g,x)::r=>if g=f then(g,v)::r else(g,x)::qe0 f v r
theorem qfv(f g:Str)(v:V):∀fs:List (Str×V),(qe0 f v fs).lookup g=if g=f then some v else fs.lookup g
 | []=>by
  show aM g [(f,v)]=_;by_cases h:g=f
  .have hb:(g==f)=true:=beq_iff_eq.mpr h;simp only[aM,hb,gJ h]
  .have hb:(g==f)=false:=beq_eq_false_iff_ne.mpr h;simp only[aM,hb,gI h]
 |(k,x)::r=>by
  have ih:=qfv f g v r;rw[show qe0 f v ((k,x)::r)=(if k=f then(k,v)::r else(k,x)::qe0 f v r) from rfl];by_cases hk:k=f
  .rw[gJ hk];by_cases h:g=k
   .have hb:(g==k)=true:=beq_iff_eq.mpr h;simp only[aM,hb,gJ (h.trans hk)]
   .have hb:(g==k)=false:=beq_eq_false_iff_ne.mpr h;simp only[aM,hb,gI (fun e:g=f=>h (e.trans hk.symm))]
  .rw[gI hk];by_cases h:g=k
   .have hb:(g==k)=true:=beq_iff_eq.mpr h;simp only[aM,hb,gI (fun e:g=f=>hk (h.symm.trans e))]
   .have hb:(g==k)=false:=beq_eq_false_iff_ne.mpr h;simp only[aM,hb];exact ih
theorem qfz(f:Str)(v:V):∀fs:List (Str×V),f∈(qe0 f v fs).map (·.1)/\∀g,g∈fs.map (·.1)->g∈(qe0 f v fs).map (·.1)
 | []=>⟨by simp[qe0],fun g h=>by simp at h⟩
 |(k,x)::r=>by
  obtain⟨i1,i2⟩:=qfz f v r;rw[show qe0 f v ((k,x)::r)=(if k=f then(k,v)::r else(k,x)::qe0 f v r) from rfl];by_cases hk:k=f
  .rw[gJ hk];subst hk;exact⟨by simp,fun g h=>by simpa using h⟩
  .rw[gI hk];refine⟨?_,fun g h=>?_⟩
   .rw[zV];exact zD _ i1
   .rw[zV] at h⊢;rcases zP.mp h with e|e
    .exact zP.mpr (.inl e)
    .exact zD _ (i2 g e)
theorem qfx(f:Str)(v:V):∀fs:List (Str×V),(qe0 f v fs).length<=fs.length+1
 | []=>by simp[qe0]
 |(k,x)::r=>by
  have ih:=qfx f v r;rw[show qe0 f v ((k,x)::r)=(if k=f then(k,v)::r else(k,x)::qe0 f v r) from rfl];by_cases hk:k=f
  .rw[gJ hk,zR,zR];omega
  .rw[gI hk,zR,zR];omega
def qh7.some_of{o:Option uB}(r:qh7 (some v) o):∃u,o=some u/\qb8 v u:=by
 cases o with
 |none=>exact(show False from r).elim
 |some u=>exact⟨u,rfl,r⟩
def qh7.none_of{o:Option uB}(r:qh7 none o):o=none:=by
 cases o with
 |none=>rfl
 |some u=>exact(show False from r).elim
def handed_of(r:qb8 v u):PySem.W.handedIn u=true:=by
 cases v with
 |non=>cases(show u=wJ from r);rfl
 |bl b=>cases(show u=eJ b from r);rfl
 |int i=>obtain⟨t,e⟩:=(show ∃t,u=gB i t from r);cases e;rfl
 |str x=>obtain⟨t,e⟩:=(show ∃t,u=dR x t from r);cases e;rfl
 |byt b=>obtain⟨t,e⟩:=(show ∃t,u=Value.bytes b t from r);cases e;rfl
 |flt b=>obtain⟨t,e⟩:=(show ∃t,u=Value.float b t from r);cases e;rfl
 |ref a=>cases(show u=uP a from r);rfl
 |ty n=>cases(show u=cW n from r);rfl
section
variable{P:uY}{w:vL}{H:Hp}{h:vQ}{a C dx:Addr}{fs:List (Str×V)}
def qh0(hok:HOk P w H h)(e:H a=some (.ins C dx fs)):∃mA,ObjM h a dx C mA/\(∀f,qh7 (fs.lookup f) (mA f))/\PySem.Within mA (fs.map (·.1))/\fs.length<=1000/\H dx=some (.own a):=by
 obtain⟨d,z,ne,ob,mA,n,r,q⟩:=(show qbv P w H h a (.ins C dx fs) from hok a _ e);exact⟨mA,⟨ob,n,ne⟩,r,q,z,d⟩
end
structure Cls(K:uS)(C:Addr):Prop where
 pg:plainGet K C Str.empty=true
 hd:fZ K C=true
 po:PySem.W.plainOver K C=true
 sa:vY K (.ref C) "__setattr__"=some (some (.builtin "object.__setattr__"))
def Cls.get(c:Cls K C)(f:Str):plainGet K C f=true:=c.pg
def qap(K:uS)(C:Addr)(f:Str):Prop:=vY K (.ref C) f=some none
def qap.taker{f:Str}(n:qap K C f):PySem.W.takerIn K C f=some none:=by
 unfold PySem.W.takerIn;rw[show vY K (.ref C) f=some none from n];rfl
structure Con(K:uS)(C:Addr)(f:Str)(v:V)(u:uB):Prop where
 at_:vY K (.ref C) f=some (some u)
 rel:qb8 v u
 get:dQ K u "__get__"=some none
 cp:PySem.W.copiedNames.contains f=false
structure Meth(K:uS)(C:Addr)(m:Str)(f:Addr):Prop where
 at_:vY K (.ref C) m=some (some (.ref f))
 fn:isFn K (.ref f)=true
 kp:bN K (.ref f)=true
section
variable{X:Cx}{pins:List (Addr×Obj)}{σ:St}{H:Hp}{s:uC}{a C dx:Addr}{fs:List (Str×V)}{f:Str}{v:V}{A:vR}{E:uB->uC->Prop}
def getattr_ok{b:Bool}{Q:uB->uC->Prop}(I:Inv X pins σ H s)(e:H a=some (.ins C dx fs))(c:Cls X.K C)(n:qap X.K C f)(l:fs.lookup f=some v)
  (h:∀u s',Inv X pins σ H s'->qb8 v u->Q u s'):uU (uV X.prog X.w) A (getAttr (.ref a) f b) Q E s:=by
 obtain⟨mA,O,r,_,_,_⟩:=qh0 I.hok e;obtain⟨u,hu,ru⟩:=qh7.some_of (v:=v) (o:=mA f) (by rw[<-l];exact r f);exact get_map I.kIn O (c.get f) c.hd n hu (handed_of ru) (h u _ (I.tok _) ru)
def qd5{m:Str}{g:Addr}{pl:Sem Bool}{Q:uB×List uB->uC->Prop}(I:Inv X pins σ H s)(e:H a=some (.ins C dx fs))(c:Cls X.K C)(k:Meth X.K C m g)(l:fs.lookup m=none)
  (h:Q (.ref g,[.ref a]) s):uU (uV X.prog X.w) A (cQ (.ref a) m pl) Q E s:=by
 obtain⟨mA,O,r,_,_,_⟩:=qh0 I.hok e;have hn:mA m=none:=qh7.none_of (by rw[<-l];exact r m);exact get_meth I.kIn O (c.get m) k.at_ k.fn hn h
def setattr_ok{y:V}{u:uB}{Q:Unit->uC->Prop}(I:Inv X pins σ H s)(e:H a=some (.ins C dx fs))(c:Cls X.K C)(n:qap X.K C f)(hl:fs.length<1000)(ry:qb8 y u)
  (h:∀s',Inv X pins σ (upd H a (.ins C dx (qe0 f y fs))) s'->Q () s'):uU (uV X.prog X.w) A (setAttr (.ref a) f u) Q E s:=by
 obtain⟨mA,O,r,wi,_,ho⟩:=qh0 I.hok e;have hz:(fs.map (·.1)).length<=sizeLine:=by rw[zA,yT];omega
 refine set_map I.kIn O c.sa c.po n.taker c.hd wi hz fun h' O' sb=>h _ ?_;have hd:∃o,h'.get? dx=some o:=let ⟨o,_,_,e',_⟩:=O'.ns;⟨o,e'⟩
 refine I.write (x:=a) (e:=dx) (by rw[e];exact wZ) (.inr ho) (fun b q hb z=>(sb.2 b hb).trans z) hd ?_;refine⟨by rw[qa7 O.ne];exact ho,?_,O.ne,O'.obj,_,O'.ns,fun g=>?_,fun g hg=>?_⟩
 .have:=qfx f y fs;omega
 .show qh7 ((qe0 f y fs).lookup g) (if g=f then some u else mA g);rw[qfv];by_cases q:g=f
  .rw[gJ q,gJ q];exact ry
  .rw[gI q,gI q];exact r g
 .by_cases q:g=f
  .rw[q];exact(qfz f y fs).1
  .refine(qfz f y fs).2 g (wi g fun z=>hg ?_);show(if g=f then some u else mA g)=none;rw[gI q];exact z
def Inv.made(I:Inv X pins σ H s):Inv X pins σ (upd (upd H ↑s (.own (↑s+1))) (↑s+1) (.ins C ↑s []))
  {s with heap:=(s.heap.push emptyDict).push (cU C ↑s)}:=by
 have e1:(s.heap.push emptyDict).get? ↑s=some emptyDict:=vC s.heap rfl;have e2:((s.heap.push emptyDict).push (cU C ↑s)).get? (↑s+1)=some (cU C ↑s):=by
  have:=vC (s.heap.push emptyDict) (o:=cU C ↑s) rfl
  rwa [aS] at this
 have e3:(s.heap.push emptyDict).Ns ↑s (fun _=>none):=⟨emptyDict,#[],_,e1,rfl,(fun e he=>absurd he (by simp)),fun _=>rfl⟩;have I1:=I.laid (a:=↑s) (o:=.own (↑s+1)) (h':=s.heap.push emptyDict) (t':=s.toks) (fun b u q=>uD _ q) (uG _) ⟨_,e1⟩;refine I1.laid (a:=↑s+1) (o:=.ins C ↑s []) (t':=s.toks) (fun b u q=>uD _ q) (Nat.le_of_eq (aS _ _)) ?_;have ne:↑s≠↑s+1:=vI (bE _);refine⟨by rw[qa7 ne,qa1],wR _,ne,e2,fun _=>none,(Heap.Ns1.of_empty e3).at fun o q=>uD _ q,fun _=>wZ,fun y hy=>absurd rfl hy⟩
def attr_of{prog:uY}{w:vL}{env:Env}{e:vV}{f:Str}{pos:Pos}{s:uC}{Q:uB->uC->Prop}(hb:bJ e f env (wL e env)=wL e env)
  (h:uU (uV prog w) A (wL e env) (fun o s₁=>uU (uV prog w) A (getAttr o f true) Q E s₁) E s):uU (uV prog w) A (wL (.Attribute e f pos) env) Q E s:=
 Attribute_any_ h (by rw[arm_eval_Attribute,hb])
end
def tFld(K:uS)(ta:TE)(f:Str):TE:=fun σ H Q=>ta σ H fun x H1=>∃a C dx fs v,x=.ref a/\H1 a=some (.ins C dx fs)/\Cls K C/\qap K C f/\fs.lookup f=some v/\Q v H1
def sFld(K:uS)(ta tv:TE)(f:Str):TS:=fun D σ H=>tv σ H fun y H1=>ta σ H1 fun x H2=>∃a C dx fs,x=.ref a/\H2 a=some (.ins C dx fs)/\Cls K C/\qap K C f/\fs.length<1000/\
 D.nx σ (upd H2 a (.ins C dx (qe0 f y fs)))
section
variable{X:Cx}{o e value:vV}{f:Str}{pos pos':Pos}{ta tv:TE}
def qau(he:PE X e ta)(hb:bJ e f X.env (wL e X.env)=wL e X.env):PE X (.Attribute e f pos) (tFld X.K ta f):=by
 intro pins s σ H Q I h;refine attr_of hb (thn (he pins s σ H _ I h) fun u s1 ⟨x,H1,I1,rx,a,C,dx,fs,v,ex,ea,c,n,l,q⟩=>?_);subst ex;obtain rfl:u=uP a:=rx;exact getattr_ok I1 ea c n l fun u' s2 I2 ru=>⟨v,H1,I2,ru,q⟩
def qcf(ha:PE X o ta)(hv:PE X value tv)(hs:dU value (some (.Attribute o f pos')) pos.line X.env=pure false):PS X (.Assign [.Attribute o f pos'] value pos) (sFld X.K ta tv f):=by
 intro pins s σ H D I h;refine plainObj_wpAny_Assign_Attribute (thn (hv pins s σ H _ I h) fun u s1 ⟨y,H1,I1,ry,q⟩=>thn (ha pins s1 σ H1 _ I1 q) fun ov s2 ⟨x,H2,I2,rx,a,C,dx,fs,ex,ea,c,n,l,q2⟩=>?_) hs;subst ex;obtain rfl:ov=uP a:=rx;exact setattr_ok I2 ea c n l ry fun s3 I3=>⟨σ,_,I3,q2⟩
def methcall_of{pl:Sem Bool}{m:Str}{apos:Pos}{args:List vV}{pins:List (Addr×Obj)}{s:uC}{σ:St}{H:Hp}{Q:uB->uC->Prop}{te:TE}(he:PE X e te)(I:Inv X pins σ H s)
  (h:te σ H fun x H1=>∃a C dx fs g,x=.ref a/\H1 a=some (.ins C dx fs)/\Cls X.K C/\Meth X.K C m g/\fs.lookup m=none/\
   ∀s1,Inv X pins σ H1 s1->uU (uV X.prog X.w) X.A (dM pos (.ref g) [.ref a] (wP pos (uZ args X.env)) (bY pos (yU [] X.env))) Q X.xe s1)
  (ht:wL (.Call (.Attribute e m apos) args [] pos) X.env=(do
   let ov<-wL e X.env
   standAt apos.atName
   let (f,first)<-fF [ov] (cQ ov m pl)
   dM pos f first (wP pos (uZ args X.env)) (bY pos (yU [] X.env)))):
  uU (uV X.prog X.w) X.A (wL (.Call (.Attribute e m apos) args [] pos) X.env) Q X.xe s:=by
 refine xY (pl:=pl) (thn (he pins s σ H _ I h) fun u s1 ⟨x,H1,I1,rx,a,C,dx,fs,g,ex,ea,c,k,l,q⟩=>?_) ht;subst ex;obtain rfl:u=uP a:=rx;exact qd5 I1 ea c k l (q s1 I1)
end
section
variable{X:Cx}{pins:List (Addr×Obj)}{σ:St}{H:Hp}{s:uC}{A:vR}{E:uB->uC->Prop}{Q:uB->uC->Prop}{c:uB}{b:Bool}
inductive TyOf(K:uS)(H:Hp):V->uB->Prop where
 |non:TyOf K H .non (.type "NoneType")
 |bl(x:Bool):TyOf K H (.bl x) (.type "bool")
 |int(i:Int):TyOf K H (.int i) (.type "int")
 |str(x:Str):TyOf K H (.str x) (.type "str")
 |flt(x:UInt64):TyOf K H (.flt x) (.type "float")
 |lst{a:Addr}{xs:List V}(e:H a=some (.lst xs)):TyOf K H (.ref a) (.type "list")
 |frz{a:Addr}{o:Obj}{xs:List V}(e:H a=some (.frz o (.lst xs))):TyOf K H (.ref a) (.type "list")
 |tup{a:Addr}{xs:List V}(e:H a=some (.tup xs)):TyOf K H (.ref a) (.type "tuple")
 |dK{a:Addr}{kvs:List (Key×V)}(e:H a=some (.dK kvs)):TyOf K H (.ref a) (.type "dict")
 |dT{a:Addr}{kvs:List (List Key×V)}(e:H a=some (.dT kvs)):TyOf K H (.ref a) (.type "dict")
 |ins{a C dx:Addr}{fs:List (Str×V)}(e:H a=some (.ins C dx fs))(cl:Cls K C)(ha:vY K (.ref C) "__class__"=some (some (.builtin "object.__class__")))
   (hn:dQ K (.builtin "object.__class__") "__get__"=some (some (.builtin "getset_descriptor.__get__"))) (htk:PySem.W.takesIn K (.builtin "object.__class__")=some true)
   (hm:mroIn K C (.type "object")=some true):TyOf K H (.ref a) (.ref C)
def isinst_ok{x:V}{t:uB}(I:Inv X pins σ H s)(rx:qb8 x u)(ty:TyOf X.K H x t)(e:bO X.K t c=some b)(h:∀tk,Q (.bool b) {s with toks:=tk}):
  uU (uV X.prog X.w) A (call (.builtin "isinstance") [u,c]) Q E s:=by
 cases ty with
 |non=>cases(show u=wJ from rx);exact wN PySem.W.kitx_none I.kIn wZ e (fun z=>nomatch z) h
 |bl y=>cases(show u=eJ y from rx);exact wN PySem.W.kitx_bool I.kIn wZ e (fun z=>nomatch z) h
 |int i=>obtain⟨t,q⟩:=(show ∃t,u=gB i t from rx);cases q;exact wN PySem.W.kitx_int I.kIn wZ e (fun z=>nomatch z) h
 |str y=>obtain⟨t,q⟩:=(show ∃t,u=dR y t from rx);cases q;exact wN PySem.W.kitx_str I.kIn wZ e (fun z=>nomatch z) h
 |flt y=>obtain⟨t,q⟩:=(show ∃t,u=Value.float y t from rx);cases q;exact wN PySem.W.kitx_float I.kIn wZ e (fun z=>nomatch z) h
 | @lst a xs ea=>
  cases(show u=uP a from rx)
  obtain⟨_,_,n,_,h1⟩:=(show qbv X.prog X.w H s.heap a (.lst xs) from I.hok a _ ea);exact wN PySem.W.kitx_list I.kIn ⟨_,h1,rfl⟩ e (fun z=>nomatch z) h
 | @frz a ob xs ea=>
  cases(show u=uP a from rx)
  obtain⟨_,_,_,n,_,h1⟩:=(show qbv X.prog X.w H s.heap a (.frz ob (.lst xs)) from I.hok a _ ea);exact wN PySem.W.kitx_list I.kIn ⟨_,h1,rfl⟩ e (fun z=>nomatch z) h
 | @tup a xs ea=>
  cases(show u=uP a from rx)
  obtain⟨_,_,_,p⟩:=(show qbv X.prog X.w H s.heap a (.tup xs) from I.hok a _ ea);obtain⟨o,h1,h2,_⟩:=p;exact wN PySem.W.kitx_tuple I.kIn ⟨o,h1,h2⟩ e (fun z=>nomatch z) h
 | @dK a kvs ea=>
  cases(show u=uP a from rx)
  obtain⟨_,_,vs,_,p⟩:=(show qbv X.prog X.w H s.heap a (.dK kvs) from I.hok a _ ea);obtain⟨o,es,ep,h1,h2,_⟩:=p;exact wN PySem.W.kitx_dict I.kIn ⟨o,h1,h2.1⟩ e (fun z=>nomatch z) h
 | @dT a kvs ea=>
  cases(show u=uP a from rx)
  obtain⟨_,_,xs,_,o,es,ep,h1,h2,_⟩:=(show qbv X.prog X.w H s.heap a (.dT kvs) from I.hok a _ ea);exact wN PySem.W.kitx_dict I.kIn ⟨o,h1,h2.1⟩ e (fun z=>nomatch z) h
 | @ins a C dx fs ea cl ha hn htk hm=>
  cases(show u=uP a from rx)
  obtain⟨mA,O,_⟩:=qh0 I.hok ea;obtain⟨od,J,_⟩:=O.look;exact wN (PySem.W.kitx_own (cl.get _) cl.hd ha hn htk hm) I.kIn J e (fun z=>nomatch z) h
end
structure Room(k:Nat)(A:vR):Prop where
 hd:A.handled=none
 dp:A.depth+3*k+5<recursionLimit
 un:A.units+16*k+200<cLine
def Room.mono{j k:Nat}(r:Room k A)(h:j<=k):Room j A:=⟨r.hd,by have:=r.dp;omega,by have:=r.un;omega⟩
theorem Room.deeper{k:Nat}(r:Room (k+1) A)(env:Env):Room k (A.deeper env):=
 ⟨r.hd,by have:=r.dp;show A.depth+1+3*k+5<_;omega,by have:=r.un;show A.units+3+16*k+200<_;omega⟩
def make_depth{kw:List (Str×uB)} :(A.under (.builtin "type.__call__" ⟨.ref C::us,kw⟩)).depth=A.depth+1:=by
 first|rfl|simp[Around.under,Code.weight,Code.isCreation,Code.isGuard,Code.isCaller,Code.frames,Code.isFrame,guardIds]
def make_units{kw:List (Str×uB)} :(A.under (.builtin "type.__call__" ⟨.ref C::us,kw⟩)).units=A.units+1:=by
 first|rfl|simp[Around.under,Code.cUnits,Code.frames,Code.isFrame]
def Room.make{k:Nat}(r:Room (k+1) A)(C:Addr)(us:List uB)(kw:List (Str×uB)):Room k (A.under (.builtin "type.__call__" ⟨.ref C::us,kw⟩)):=
 ⟨r.hd,by have:=r.dp;rw[make_depth];omega,by have:=r.un;rw[make_units];omega⟩
theorem Room.depth{k:Nat}(r:Room k A):A.depth<recursionLimit:=by have:=r.dp;omega
theorem Room.units{k:Nat}(r:Room k A):A.units+64<cLine:=by have:=r.un;omega
def tNil:TA:=fun _ H Q=>Q [] H
def tCons(ta:TE)(tr:TA):TA:=fun σ H Q=>ta σ H fun x H1=>tr σ H1 fun xs H2=>Q (x::xs) H2
section
variable{X:Cx}{e:vV}{es:List vV}{te:TE}{t:TA}{pos:Pos}
def qa3:PA X [] tNil:=fun _ _ _ _ H Q I h=>Calls.spliced_nil ⟨[],H,I,.nil,h⟩
def qa0(ha:PE X e te)(hr:PA X es t)(hs:uZ (e::es) X.env=(false,wL e X.env)::uZ es X.env:=by rfl):PA X (e::es) (tCons te t):=by
 intro pos pins s σ H Q I h;rw[hs];show uU _ _ (spliced ((false,wL e X.env)::wP pos (uZ es X.env))) _ _ s;refine eR (thn (ha pins s σ H _ I h) fun u s1 ⟨x,H1,I1,r1,q1⟩=>?_);exact thn (hr pos pins s1 σ H1 _ I1 q1) fun us s2 ⟨xs,H2,I2,r2,q2⟩=>⟨x::xs,H2,I2,.cons r1 r2,q2⟩
def tTup(t:TA):TE:=fun σ H Q=>t σ H fun xs H1=>xs.length<=sizeLine/\∀p,H1 p=none->Q (.ref p) (upd H1 p (.tup xs))
def tLst(t:TA):TE:=fun σ H Q=>t σ H fun xs H1=>xs.length<=sizeLine/\∀p,H1 p=none->Q (.ref p) (upd H1 p (.lst xs))
def qbq{x1}(h:PA X es t):PE X (.Tuple es x1 pos) (tTup t):=by
 intro pins s σ H Q I hq;refine wpAny_Tuple_spliced (thn (h pos pins s σ H _ I hq) fun us s1 ⟨xs,H1,I1,r,z,q⟩=>⟨by rw[<-r.length];exact z,?_⟩);have hf:H1 ↑s1=none:=I1.hok.fresh (uG _);refine⟨.ref ↑s1,upd H1 ↑s1 (.tup xs),I1.laid (t':=s1.toks) (fun b u e=>uD _ e) (uG _) ?_,rfl,q _ hf⟩;exact⟨z,us,r,⟨_,vC _ rfl,rfl,_,rfl⟩⟩
def qbb(h:PA X es t):PE X (.List es pos) (tLst t):=by
 intro pins s σ H Q I hq;refine wpAny_List_spliced (thn (h pos pins s σ H _ I hq) fun us s1 ⟨xs,H1,I1,r,z,q⟩=>⟨by rw[<-r.length];exact z,?_⟩);have hf:H1 ↑s1=none:=I1.hok.fresh (uG _);refine⟨.ref ↑s1,upd H1 ↑s1 (.lst xs),I1.laid (t':=s1.toks) (fun b u e=>uD _ e) (uG _) ?_,rfl,q _ hf⟩;exact⟨z,us,0,r,vC _ rfl⟩
end
abbrev Sp:=List V->Hp->VK->XK->Prop
abbrev CXT:=List Env->Hp->uC->XK->uB->uC->Prop
structure Env0(P:uY)(w:vL)(K:uS)(mg:Str->Option uB)(base:vQ)(A:vR)(outer:List Env)(s:uC)(H:Hp):Prop where
 frames:A.frames=some outer
 mod:Mod K mg base
 bs:∀b o,base.get? b=some o->s.heap.get? b=some o/\H b=none
 bsz:base.objs.size<=↑s
 funs:s.heap.FunFrames base outer
 frf:∀b∈frs outer,H b=none
 hok:HOk P w H s.heap
 bare:cC s.gens
def CE(outer:List Env)(P:uY)(w:vL)(H:Hp)(s:uC)(Q:VK)(u:uB)(s':uC):Prop:=
 ∃v H',s'.os=s.os/\cC s'.gens/\Un (frs outer) [] H H' s.heap s'.heap/\HOk P w H' s'.heap/\qb8 v u/\Q v H'
def CR(CX:CXT)(outer:List Env)(P:uY)(w:vL)(H:Hp)(s:uC)(Q:VK)(E:XK)(r:Result)(s':uC):Prop:=
 match r with
 | .ok (.ret u)=>CE outer P w H s Q u s'
 | .ok _=>False
 | .error e=>CX outer H s E e s'
structure FnOk(P:uY)(w:vL)(K:uS)(mg:Str->Option uB)(base:vQ)(CX:CXT)(k:Nat)(f:Addr)(fd:uK)(ps:List Str)(sp:Sp):Prop where
 len:∀vs H Q E,sp vs H Q E->vs.length=ps.length
 run:∀(A:vR)(outer:List Env)(s:uC)(H:Hp)(args:Args)(us:List uB)(vs:List V)(Q:VK)(E:XK),Room k A->Env0 P w K mg base A outer s H->cY s fd args (ps.zip us)->qbk vs us->sp vs H Q E->
  bI (uV P w) A (.call (.ref f) args) (CR CX outer P w H s Q E) s
theorem FnOk.mono{P:uY}{w:vL}{K:uS}{mg:Str->Option uB}{base:vQ}{CX:CXT}{j k:Nat}{f:Addr}{fd:uK}{ps:List Str}{sp:Sp}(F:FnOk P w K mg base CX j f fd ps sp)(h:j<=k):
  FnOk P w K mg base CX k f fd ps sp:=⟨F.len,fun A outer s H args us vs Q E hr=>F.run A outer s H args us vs Q E (hr.mono h)⟩
def FnOk.imp{P:uY}{w:vL}{K:uS}{mg:Str->Option uB}{base:vQ}{CX:CXT}{k:Nat}{f:Addr}{fd:uK}{ps:List Str}{sp sp':Sp}(F:FnOk P w K mg base CX k f fd ps sp)
  (h:∀vs H Q E,sp' vs H Q E->sp vs H Q E):FnOk P w K mg base CX k f fd ps sp':=
 ⟨fun vs H Q E q=>F.len vs H Q E (h _ _ _ _ q),fun A outer s H args us vs Q E hr he hb hv hs=>F.run A outer s H args us vs Q E hr he hb hv (h _ _ _ _ hs)⟩
def Env0.make{P:uY}{w:vL}{K:uS}{mg:Str->Option uB}{base:vQ}{A:vR}{outer:List Env}{s:uC}{H:Hp}(e:Env0 P w K mg base A outer s H)(C:Addr)(us:List uB)(kw:List (Str×uB)):
  Env0 P w K mg base (A.under (.builtin "type.__call__" ⟨.ref C::us,kw⟩)) outer s H:=⟨by first|exact e.frames|(simpa[Around.under,Code.envs,Code.isFrame,pushEnvs] using e.frames),e.mod,e.bs,e.bsz,e.funs,e.frf,e.hok,e.bare⟩
section
variable{X:Cx}{pins:List (Addr×Obj)}{σ:St}{H:Hp}{s s':uC}
def Inv.env0(I:Inv X pins σ H s):Env0 X.prog X.w X.K X.mg X.base X.A X.stack s H:=
 ⟨I.ok.frames,I.ok.mod,I.bs,vJ I.ok.bsz I.sz,I.stack,I.stkFree,I.hok,I.bare⟩
def Inv.after{Q:VK}(I:Inv X pins σ H s)(h:CE X.stack X.prog X.w H s Q u s'):EP X pins σ Q u s':=by
 obtain⟨v,H',os,bare,un,hok,r,q⟩:=h;obtain⟨hh,g,d,t,os'⟩:=s';obtain rfl:os'=s.os:=os;exact⟨v,H',I.call (h':=hh) (g':=g) (d':=d) (t':=t) (ch:=[]) un hok bare (fun b z=>absurd z (by simp)),r,q⟩
end
def tCall(sp:Sp)(dvs:List V)(E:XK)(t:TA):TE:=fun σ H Q=>t σ H fun vs H1=>sp (vs++dvs) H1 Q E
def tMeth(C:Addr)(m:Str)(sp:Sp)(dvs:List V)(E:XK)(ta:TE)(t:TA):TE:=fun σ H Q=>ta σ H fun x H1=>∃a dx fs,x=.ref a/\H1 a=some (.ins C dx fs)/\fs.lookup m=none/\
 t σ H1 fun vs H2=>sp (x ::(vs++dvs)) H2 Q E
def tMake(C:Addr)(sp:Sp)(dvs:List V)(E:XK)(t:TA):TE:=fun σ H Q=>t σ H fun vs H1=>∀x dx,H1 x=none->H1 dx=none->dx≠x->
 sp (.ref x ::(vs++dvs)) (upd (upd H1 dx (.own x)) x (.ins C dx [])) (fun v H2=>v=.non/\Q (.ref x) H2) E
def qam(K:uS)(fd:uK)(ps:List Str)(ds:List uB):Prop:=
 ∀(s:uC)(us:List uB),K.In s.heap->(us++ds).length=ps.length->cY s fd ⟨us,[]⟩ (ps.zip (us++ds))
def qam.all{fd:uK}{ps:List Str}(h:∀us:List uB,us.length=ps.length->bindArgs fd ⟨us,[]⟩=pure (ps.zip us)):qam K fd ps []:=fun s us _ hl=>by
 rw[zY] at hl⊢;exact .of_eq (h us hl)
def qgc(CX:CXT)(X:Cx)(E:XK):Prop:=∀(pins:List (Addr×Obj))(σ:St)(H:Hp)(s:uC)(e:uB)(s':uC),Inv X pins σ H s->CX X.stack H s E e s'->X.xe e s'
section
variable{X:Cx}{CX:CXT}{k:Nat}{f C:Addr}{fd:uK}{ps:List Str}{sp:Sp}{dvs:List V}{ds:List uB}{E:XK}{x m:Str}{p pos apos:Pos}{e o:vV}{es:List vV}{ta:TE}{t:TA}
def run_fn{pins:List (Addr×Obj)}{σ:St}{H:Hp}{s:uC}{Q:VK}{us:List uB}{vs:List V}(F:FnOk X.prog X.w X.K X.mg X.base CX k f fd ps sp)(hr:Room k X.A)(hb:qam X.K fd ps ds)(hd:qbk dvs ds)(hx:qgc CX X E)
  (I:Inv X pins σ H s)(r:qbk vs us)(h:sp (vs++dvs) H Q E):uU (uV X.prog X.w) X.A (call (.ref f) us) (EP X pins σ Q) X.xe s:=by
 have r2:qbk (vs++dvs) (us++ds):=r.append hd;have hl:(us++ds).length=ps.length:=by rw[<-r2.length];exact F.len _ _ _ _ h
 refine yV (xA (F.run X.A X.stack s H ⟨us,[]⟩ (us++ds) (vs++dvs) Q E hr I.env0 (hb s us I.kIn hl) r2 h) fun r s' hq=>?_)
 cases r with
 |error e=>exact hx pins σ H s e s' I hq
 |ok fl=>
  cases fl with
  |ret u=>exact I.after hq
  |next=>exact vO hq
  |brk=>exact vO hq
  |cont=>exact vO hq
def qaf(F:FnOk X.prog X.w X.K X.mg X.base CX k f fd ps sp)(hr:Room k X.A)(hg:Gl X x)(hm:X.mg x=some (.ref f))(hk:bN X.K (.ref f)=true)(hb:qam X.K fd ps ds)(hd:qbk dvs ds)(hx:qgc CX X E)
  (ha:PA X (e::es) t)(hdb:(x==("__debug__":Str))=false:=by decide)(he:uZ (e::es) X.env=(false,wL e X.env)::uZ es X.env:=by rfl)(hpl:(wP pos (uZ es X.env)).any (·.1)=false:=by rfl):
  PE X (.Call (.Name x p) (e::es) [] pos) (tCall sp dvs E t):=by
 intro pins s σ H Q I h;refine wU (qdn I hg hm ?_ hdb);refine xD (h₀:=X.base) I.ok.mod.kin hk (thn (ha pos pins s σ H _ I h) fun us s1 ⟨vs,H1,I1,r,q⟩=>⟨I1.kIn,?_⟩) he hpl;exact run_fn F hr hb hd hx I1 r q
def pe_meth{pl:Sem Bool}(he:PE X o ta)(c:Cls X.K C)(hm:Meth X.K C m f)(F:FnOk X.prog X.w X.K X.mg X.base CX k f fd ps sp)(hr:Room k X.A)(hb:qam X.K fd ps ds)(hd:qbk dvs ds)(hx:qgc CX X E)(ha:PA X (e::es) t)
  (hst:uZ (e::es) X.env=(false,wL e X.env)::uZ es X.env:=by rfl)(hpl:(wP pos (uZ es X.env)).any (·.1)=false:=by rfl)
  (ht:wL (.Call (.Attribute o m apos) (e::es) [] pos) X.env=(do
   let ov<-wL o X.env
   standAt apos.atName
   let (f,first)<-fF [ov] (cQ ov m pl)
   dM pos f first (wP pos (uZ (e::es) X.env)) (bY pos (yU [] X.env))):=by rfl):
  PE X (.Call (.Attribute o m apos) (e::es) [] pos) (tMeth C m sp dvs E ta t):=by
 intro pins s σ H Q I h;refine xY (pl:=pl) (thn (he pins s σ H _ I h) fun u s1 ⟨x,H1,I1,rx,a,dx,fs,ex,ea,l,q⟩=>?_) ht;subst ex;obtain rfl:u=uP a:=rx;refine qd5 I1 ea c hm l ?_;refine xD (first:=[.ref a]) (h₀:=X.base) I.ok.mod.kin hm.kp (thn (ha pos pins s1 σ H1 _ I1 q) fun us s2 ⟨vs,H2,I2,r,q2⟩=>⟨I2.kIn,?_⟩) hst hpl;exact run_fn (us:=.ref a::us) (vs:=.ref a::vs) F hr hb hd hx I2 (.cons rfl r) q2
def pe_meth0{pl:Sem Bool}(he:PE X o ta)(c:Cls X.K C)(hm:Meth X.K C m f)(F:FnOk X.prog X.w X.K X.mg X.base CX k f fd ps sp)(hr:Room k X.A)(hb:qam X.K fd ps ds)(hd:qbk dvs ds)(hx:qgc CX X E)
  (ht:wL (.Call (.Attribute o m apos) [] [] pos) X.env=(do
   let ov<-wL o X.env
   standAt apos.atName
   let (f,first)<-fF [ov] (cQ ov m pl)
   dM pos f first (wP pos (uZ [] X.env)) (bY pos (yU [] X.env))):=by rfl):
  PE X (.Call (.Attribute o m apos) [] [] pos) (tMeth C m sp dvs E ta tNil):=by
 intro pins s σ H Q I h;refine xY (pl:=pl) (thn (he pins s σ H _ I h) fun u s1 ⟨x,H1,I1,rx,a,dx,fs,ex,ea,l,q⟩=>?_) ht;subst ex;obtain rfl:u=uP a:=rx;refine qd5 I1 ea c hm l ?_;exact PySem.W.callWith_K0 (first:=[.ref a]) I1.kIn hm.kp (run_fn (us:=[.ref a]) (vs:=[.ref a]) F hr hb hd hx I1 (.cons rfl .nil) q)
structure Mk(K:uS)(C f:Addr):Prop where
 makes:PySem.W.makesIn K C=true
 init:vY K (.ref C) "__init__"=some (some (.ref f))
 fn:isFn K (.ref f)=true
 kp:bN K (.ref C)=true
def run_make{pins:List (Addr×Obj)}{σ:St}{H:Hp}{s:uC}{Q:VK}{us:List uB}{vs:List V}(M:Mk X.K C f)(F:FnOk X.prog X.w X.K X.mg X.base CX k f fd ps sp)(hr:Room (k+1) X.A)(hb:qam X.K fd ps ds)(hd:qbk dvs ds)
  (hx:qgc CX X E)(I:Inv X pins σ H s)(r:qbk vs us)
  (h:∀x dx,H x=none->H dx=none->dx≠x->sp (.ref x ::(vs++dvs)) (upd (upd H dx (.own x)) x (.ins C dx [])) (fun v H2=>v=.non/\Q (.ref x) H2) E):
  uU (uV X.prog X.w) X.A (call (.ref C) us) (EP X pins σ Q) X.xe s:=by
 have hq:=h (↑s+1) ↑s (I.hok.fresh (xQ _)) (I.hok.fresh (uG _)) (vI (bE _));have I2:=Inv.made (C:=C) I;have r2:qbk (V.ref (↑s+1) ::(vs++dvs)) (uP (↑s+1) ::(us++ds)):=.cons rfl (r.append hd);have hl:(uP (↑s+1)::us++ds).length=ps.length:=by
  have e:=r2.length;rw[F.len _ _ _ _ hq] at e;exact e.symm
 refine yV (make_map (f:=f) I.kIn M.makes M.init (beq_iff_eq.mp M.fn) (xA (F.run _ X.stack _ _ ⟨uP (↑s+1)::us,[]⟩ (uP (↑s+1) ::(us++ds)) _ _ E (hr.make C us [])
  (I2.env0.make C us []) (hb _ (uP (↑s+1)::us) I2.kIn hl) r2 hq) fun r s' hq'=>?_))
 cases r with
 |error e=>exact hx pins σ _ _ e s' I2 hq'
 |ok fl=>
  cases fl with
  |ret u=>
   obtain⟨v,H',I3,rv,ev,q3⟩:=I2.after hq';subst ev;exact⟨rv,⟨V.ref (↑s+1),H',I3,rfl,q3⟩⟩
  |next=>exact vO hq'
  |brk=>exact vO hq'
  |cont=>exact vO hq'
def pe_make(M:Mk X.K C f)(F:FnOk X.prog X.w X.K X.mg X.base CX k f fd ps sp)(hr:Room (k+1) X.A)(hg:Gl X x)(hm:X.mg x=some (.ref C))(hb:qam X.K fd ps ds)(hd:qbk dvs ds)(hx:qgc CX X E)
  (ha:PA X (e::es) t)(hdb:(x==("__debug__":Str))=false:=by decide)(he:uZ (e::es) X.env=(false,wL e X.env)::uZ es X.env:=by rfl)(hpl:(wP pos (uZ es X.env)).any (·.1)=false:=by rfl):
  PE X (.Call (.Name x p) (e::es) [] pos) (tMake C sp dvs E t):=by
 intro pins s σ H Q I h;refine wU (qdn I hg hm ?_ hdb);refine xD (h₀:=X.base) I.ok.mod.kin M.kp (thn (ha pos pins s σ H _ I h) fun us s1 ⟨vs,H1,I1,r,q⟩=>⟨I1.kIn,?_⟩) he hpl;exact run_make M F hr hb hd hx I1 r q
end
section
variable{fd:uK}{ps ks:List Str}
structure KBinds(K:uS)(fd:uK)(ps ks:List Str)(g:List uB->List uB->List uB)(gV:List V->List V->List V):Prop where
 to:∀(s:uC)(us ws:List uB),K.In s.heap->(g us ws).length=ps.length->cY s fd ⟨us,ks.zip ws⟩ (ps.zip (g us ws))
 rel:∀{vs:List V} {us:List uB} {zs:List V} {ws:List uB},qbk vs us->qbk zs ws->qbk (gV vs zs) (g us ws)
end
structure FnScope(N P:List Str)(sc:xF):Prop where
 kind:sc.kind=.function
 co:sc.isCoroutine=false
 gen:sc.isGenerator=false
 nd:N.Nodup
 pre:N.take P.length=P
 par:∀x∈P,sc.names.lookup x=some .local\/sc.names.lookup x=some .cell
 nofree:∀y∈sc.names,y.2≠ .free
theorem bindL_out{kindOf:Str->Option NameKind}{x:Str}:∀{binds:List (Str×uB)} {m:Str->Option uB},(∀v,(x,v)∉binds)->bindL kindOf binds m x=m x
 | [],_,_=>rfl
 |(n,v)::r,m,h=>by
  unfold bindL;rw[bindL_out fun w hw=>h w (zD _ hw)]
  split
  .have:x≠n:=by rintro rfl;exact h v zG
   simp[this]
  .rfl
theorem bindC_out{kindOf:Str->Option NameKind}{x:Str}:∀{binds:List (Str×uB)} {m:Str->Option uB},(∀v,(x,v)∉binds)->fJ kindOf binds m x=m x
 | [],_,_=>rfl
 |(n,v)::r,m,h=>by
  unfold fJ;rw[bindC_out fun w hw=>h w (zD _ hw)]
  split
  .rfl
  .have:x≠n:=by rintro rfl;exact h v zG
   simp[this]
theorem bindL_get{kindOf:Str->Option NameKind}{x:Str}{v:uB}:∀{P:List Str} {vs:List uB} {i:Nat} {m:Str->Option uB},P.Nodup->P[i]?=some x->vs[i]?=some v->kindOf x=some .local->
  bindL kindOf (P.zip vs) m x=some v
 | [],_,_,_,_,h,_,_=>by simp at h
 |_::_,[],_,_,_,_,h,_=>by simp at h
 |p::P,w::vs,0,m,nd,h1,h2,hk=>by
  simp at h1 h2;subst h1;subst h2;show bindL kindOf ((p,w)::P.zip vs) m p=_;unfold bindL;rw[bindL_out fun v hv=>(zW.mp nd).1 (List.of_mem_zip hv).1,gJ hk];simp
 |p::P,w::vs,i+1,m,nd,h1,h2,hk=>by
  show bindL kindOf ((p,w)::P.zip vs) m x=_;unfold bindL;exact bindL_get (i:=i) (zW.mp nd).2 (by simpa using h1) (by simpa using h2) hk
theorem bindC_get{kindOf:Str->Option NameKind}{x:Str}{v:uB}:∀{P:List Str} {vs:List uB} {i:Nat} {m:Str->Option uB},P.Nodup->P[i]?=some x->vs[i]?=some v->kindOf x≠some .local->
  fJ kindOf (P.zip vs) m x=some v
 | [],_,_,_,_,h,_,_=>by simp at h
 |_::_,[],_,_,_,_,h,_=>by simp at h
 |p::P,w::vs,0,m,nd,h1,h2,hk=>by
  simp at h1 h2;subst h1;subst h2;show fJ kindOf ((p,w)::P.zip vs) m p=_;unfold fJ;rw[bindC_out fun v hv=>(zW.mp nd).1 (List.of_mem_zip hv).1,gI hk];simp
 |p::P,w::vs,i+1,m,nd,h1,h2,hk=>by
  show fJ kindOf ((p,w)::P.zip vs) m x=_;unfold fJ;exact bindC_get (i:=i) (zW.mp nd).2 (by simpa using h1) (by simpa using h2) hk
def start(N:List Str)(vs:List V):St:=vs.map some++vZ (N.length-vs.length) none
def cxOf(CX:CXT)(P:uY)(w:vL)(K:uS)(mg:Str->Option uB)(base:vQ)(N:List Str)(qual:Str)(scope:xF)(f:Addr)(cd:uB)(A:vR)(outer:List Env)(s:uC)(H:Hp)(E:XK):Cx where
 prog:=P
 w:=w
 K:=K
 mg:=mg
 base:=base
 A:=A.deeper (aC qual scope ↑s f cd)
 N:=N
 s₀:=s
 H₀:=H
 env:=aC qual scope ↑s f cd
 outer:=outer
 stack:=aC qual scope ↑s f cd::outer
 ex:=[]
 calm:=true
 fn:=fun _=>true
 pn:=[]
 xe:=fun e s'=>uU (uV P w) (A.deeper (aC qual scope ↑s f cd)) (leaving (aC qual scope ↑s f cd) e) (fun _ s''=>CX outer H s E e s'') (fun e' s''=>CX outer H s E e' s'') s'
def cell_has{sc:xF}{n:Nat}(h:sc.names.lookup x=some .cell):∃c,(dW n sc.names []).lookup x=some c:=by
 have q:=PySem.W.cellsFrom_some sc.names n [] (.inl h);exact cJ.mp q
def inv_start{CX:CXT}{P:uY}{w:vL}{K:uS}{mg:Str->Option uB}{base:vQ}{N ps:List Str}{qual:Str}{scope:xF}{f:Addr}{cd:uB}{A:vR}{outer:List Env}{s s1:uC}{H:Hp}{E:XK}{us:List uB}{vs:List V}
  (S:FnScope N ps scope)(hd:A.handled=none)(e0:Env0 P w K mg base A outer s H)(hl:vs.length=ps.length)(r:qbk vs us)
  (x:InCallC s ↑s (bindL (aC qual scope ↑s f cd).kindOf (ps.zip us) fun _=>none) (dW (↑s+1) scope.names []) (fJ (aC qual scope ↑s f cd).kindOf (ps.zip us) fun _=>none) s1):
  Inv (cxOf CX P w K mg base N qual scope f cd A outer s H E) [] (start N vs) H s1:=by
 have hpl:ps.length<=N.length:=by have:=congrArg wF S.pre;rw[zS] at this;omega
 obtain⟨h1,tk,rfl,hk⟩:=x.done;have noA:∀b:Addr,b∉(cxOf CX P w K mg base N qual scope f cd A outer s H E).ex:=fun b z=>absurd (show b∈([]:List Addr) from z) (by simp);refine⟨⟨e0.mod,S.kind,rfl,rfl,uG _,fun y z c h1 h2=>?_,fun y hy=>?_,fun y c _ h=>?_,fun _=>hd,Around.frames_deeper e0.frames,.inr ⟨rfl,rfl⟩,fun b z=>absurd z (noA b),e0.bs,e0.bsz,fun b _ _=>noA b,fun b z=>absurd z (noA b),e0.funs,e0.frf⟩,
  rfl,e0.bare,Un.kept hk,⟨_,x.toInCall.ns,fun i y v h1 h2 h3=>?_⟩,fun y c h=>⟨_,x.cell y c h⟩,e0.hok.fresh (uG _),fun y c h=>?_,fun p hp=>absurd (show p∈([]:List (Addr×Obj)) from hp) (by simp),e0.hok.kept hk,?_⟩
 .exact name_of_addr x.apart (xL h1) (xL h2)
 .have hy:scope.names.lookup y=some .cell\/scope.names.lookup y=some .free:=hy;rcases hy with hy|hy
  .exact cell_has hy
  .exact absurd rfl (S.nofree _ (xL hy))
 .exact aQ (x.above y c (xL h))
 .have hi:i<vs.length:=by
   unfold start at h2;by_cases hi:i<vs.length
   .exact hi
   .rw[xE (by simpa using hi)] at h2;rw[List.getElem?_replicate] at h2
    split at h2<;>cases h2
  have ha:vs[i]?=some v:=by
   unfold start at h2;rw[xG (by simpa using hi),zC] at h2
   cases e:vs[i]? with
   |none=>rw[e] at h2;cases h2
   |some a=>rw[e] at h2;cases h2;rfl
  obtain⟨u,hu,rv⟩:=r.get ha;have hp:ps[i]?=some y:=by
   rw[<-S.pre,List.getElem?_take_of_lt ↑∅];exact h1
  have ndP:ps.Nodup:=by rw[<-S.pre];exact S.nd.sublist (fK _ _)
  refine⟨u,rv,?_⟩;rcases S.par y (zF hp) with k|k
  .exact .inl ⟨k,bindL_get ndP hp hu k⟩
  .obtain⟨c,e⟩:=cell_has (n:=↑s+1) k;refine .inr ⟨.inl k,c,e,?_⟩;have q:=x.cell y c e;rw[bindC_get ndP hp hu (by show scope.names.lookup y≠_;rw[k];decide)] at q;exact q
 .exact e0.hok.fresh (aQ (x.above y c (xL h)))
 .unfold start;show _=N.length;rw[zJ,zA,yF];omega
def fn_of{CX:CXT}{P:uY}{w:vL}{K:uS}{mg:Str->Option uB}{base:vQ}{k:Nat}{f:Addr}{name qual:Str}{params:xH}{body:List Stmt}{scope:xF}{dV kV doc pm cdv ct oc:uB}{an od:Option Addr}
  {osl:Array (Option uB)}{N ps:List Str}{sp:Sp}(lk:K.lookup f=some ⟨oc,od,.func (dY name qual params body scope dV kV doc pm an cdv ct),osl⟩)(hcd:cV K cdv qual=true)(S:FnScope N ps scope)
  (len:∀vs H Q E,sp vs H Q E->vs.length=ps.length)
  (hbody:∀(A:vR)(outer:List Env)(s:uC)(H:Hp)(vs:List V)(Q:VK)(E:XK),Room k (A.deeper (aC qual scope ↑s f cdv))->sp vs H Q E->
   ∃t,PSs (cxOf CX P w K mg base N qual scope f cdv A outer s H E) body t/\t {nx:=fun _ H'=>Q .non H',rt:=Q} (start N vs) H):
  FnOk P w K mg base CX (k+1) f (dY name qual params body scope dV kV doc pm an cdv ct) ps sp:=by
 refine⟨len,fun A outer s H args us vs Q E hr e0 hb r hsp=>?_⟩;have hl:=len _ _ _ _ hsp;have KX:K.In s.heap:=e0.mod.kin.keeps fun b o e=>(e0.bs b o e).1;have lim:s.heap.NoLimit:=e0.mod.nolimit.keeps fun b o e=>(e0.bs b o e).1;have hkind:∀y∈ps.zip us,scope.names.lookup y.1=some .local\/(scope.names.lookup y.1=some .cell/\((dW (↑s+1) scope.names []).lookup y.1).isSome=true):=fun⟨n,v⟩ hy=>by
  rcases S.par n (List.of_mem_zip hy).1 with q|q
  .exact .inl q
  .exact .inr ⟨q,PySem.W.cellsFrom_some _ _ _ (.inl q)⟩
 refine codeAny_call_function hr.depth (KX _ _ lk) rfl S.co S.gen rfl (PySem.W.codeRec_of KX hcd) (hb _ _ _ _ ?_);refine wpAny_newFunctionEnv_cells S.kind hkind fun env he s1 x=>?_;subst he;refine⟨lim.keeps x.toInCall.keep,codeAny_func ?_⟩;obtain⟨t,ht,hq⟩:=hbody A outer s H vs Q E (hr.deeper _) hsp;have I:Inv (cxOf CX P w K mg base N qual scope f cdv A outer s H E) [] (start N vs) H s1:=inv_start S hr.hd e0 hl r x;refine vS (ht [] s1 (start N vs) H _ I hq) (fun fl s' hs=>?_) fun e s' hs=>hs;have fin:∀{σ':St} {H':Hp} {v:V} {u:uB},Inv (cxOf CX P w K mg base N qual scope f cdv A outer s H E) [] σ' H' s'->qb8 v u->Q v H'->CE outer P w H s Q u s':=
  fun {σ' H' v u} J rv q=>⟨v,H',J.os,J.bare,J.base,J.hok,rv,q⟩
 cases fl with
 |ret u=>
  obtain⟨v,σ',H',J,rv,q⟩:=hs;exact fin J rv q
 |next=>
  obtain⟨σ',H',J,q⟩:=hs;exact fin (v:=V.non) (u:=wJ) J rfl q
 |brk=>
  obtain⟨_,_,_,q⟩:=hs;exact vO q
 |cont=>
  obtain⟨_,_,_,q⟩:=hs;exact vO q
section
variable{X:Cx}{x:Str}{p pos:Pos}{e:vV}{es:List vV}{t:TA}{id T:String}{r:List V->Hp->VK->Prop}
def tCB(r:List V->Hp->VK->Prop)(t:TA):TE:=fun σ H Q=>t σ H fun vs H1=>r vs H1 Q
def qag(hc:qcr X (.builtin id) r)(hg:Gl X x)(hm:X.mg x=none)(hv:aP x=some (.builtin id))(ha:PA X (e::es) t)(hn:x≠"__name__":=by decide)(hdb:(x==("__debug__":Str))=false:=by decide)
  (he:uZ (e::es) X.env=(false,wL e X.env)::uZ es X.env:=by rfl) (hpl:(wP pos (uZ es X.env)).any (·.1)=false:=by rfl):PE X (.Call (.Name x p) (e::es) [] pos) (tCB r t):=by
 intro pins s σ H Q I h;refine wU (qgj I hg hm hv ?_ hn hdb);exact PyProof.Rows.callWith_builtin1 (thn (ha pos pins s σ H _ I h) fun us s1 ⟨vs,H1,I1,r1,q1⟩=>hc pins s1 σ H1 vs us Q I1 r1 q1) he hpl
def qb7(hc:qcr X (.type T) r)(hg:Gl X x)(hm:X.mg x=none)(hv:aP x=some (.type T))(ha:PA X (e::es) t)(hn:x≠"__name__":=by decide)(hdb:(x==("__debug__":Str))=false:=by decide)
  (he:uZ (e::es) X.env=(false,wL e X.env)::uZ es X.env:=by rfl) (hpl:(wP pos (uZ es X.env)).any (·.1)=false:=by rfl):PE X (.Call (.Name x p) (e::es) [] pos) (tCB r t):=by
 intro pins s σ H Q I h;refine wU (qgj I hg hm hv ?_ hn hdb);exact xZ (thn (ha pos pins s σ H _ I h) fun us s1 ⟨vs,H1,I1,r1,q1⟩=>hc pins s1 σ H1 vs us Q I1 r1 q1) he hpl
end
end L2
namespace HT
open PySem PyProof.Rows
section
def sIx(n d:Nat):Option Int->Nat
 |none=>d
 |some v=>if v<0 then(v+(n:Int)).toNat else min v.toNat n
end
end HT
namespace L2
open PySem PySem.Spec PyProof.Rows
abbrev TO:=St->Hp->(Option Int->Hp->Prop)->Prop
def PO(X:Cx)(e:Option vV)(t:TO):Prop:=
 ∀(pins:List (Addr×Obj))(s:uC)(σ:St)(H:Hp)(Q:Option Int->Hp->Prop),Inv X pins σ H s->t σ H Q->
  uU (uV X.prog X.w) X.A (evalPart e X.env) (fun u s'=>∃o H',Inv X pins σ H' s'/\IsPart u o/\Q o H') X.xe s
def tNoPart:TO:=fun _ H Q=>Q none H
def tPart(t:TE):TO:=fun σ H Q=>t σ H fun x H1=>∃i,x=.int i/\Q (some i) H1
section
variable{X:Cx}{e:vV}{te:TE}{lo hi:Option vV}{tl th:TO}{pos p2:Pos}
def qdj:PO X none tNoPart:=by
 intro pins s σ H Q I h;rw[evalPart_none];exact uW ⟨none,H,I,.none,h⟩
def qcy(h:PE X e te):PO X (some e) (tPart te):=by
 intro pins s σ H Q I hw;rw[evalPart_some];refine thn (h pins s σ H _ I hw) fun u s1 ⟨x,H1,I1,r1,q1⟩=>?_;obtain⟨i,rfl,q⟩:=q1;obtain⟨t,rfl⟩:=r1;exact⟨some i,H1,I1,.int i t,q⟩
def SlR(X:Cx)(r:V->Option Int->Option Int->Hp->VK->Prop):Prop:=
 ∀(pins:List (Addr×Obj))(s:uC)(σ:St)(H:Hp)(x:V)(v vl vu:uB)(lo hi:Option Int)(sl:Addr)(Q:VK),Inv X pins σ H s->qb8 x v->s.heap.IsSliceOf sl vl vu .none->IsPart vl lo->IsPart vu hi->r x lo hi H Q->
  ∃T id,typeLookup (.type T) "__getitem__"=pure (some (.builtin id))/\s.TypeIs v T/\uU (uV X.prog X.w) X.A (getItem v (.ref sl)) (EP X pins σ Q) X.xe s
def tSl(r:V->Option Int->Option Int->Hp->VK->Prop)(te:TE)(tl th:TO):TE:=fun σ H Q=>te σ H fun x H1=>tl σ H1 fun l H2=>th σ H2 fun u H3=>r x l u H3 Q
def qcl{r:V->Option Int->Option Int->Hp->VK->Prop}(hr:SlR X r)(he:PE X e te)(hl:PO X lo tl)(hu:PO X hi th):PE X (.Subscript e (.Slice lo hi none p2) pos) (tSl r te tl th):=by
 intro pins s σ H Q I h;refine Subscript_ (thn (he pins s σ H _ I h) fun v s1 ⟨x,H1,I1,r1,q1⟩=>?_);refine wpAny_Slice (thn (hl pins s1 σ H1 _ I1 q1) fun vl s2 ⟨l,H2,I2,pl,q2⟩=>thn (hu pins s2 σ H2 _ I2 q2) fun vu s3 ⟨u,H3,I3,pu,q3⟩=>?_);rw[evalPart_none];refine uW ?_;have I4:Inv X pins σ H3 {s3 with heap:=s3.heap.push {cls:=.type "slice",data:=.fields #[vl,vu,.none]}}:=I3.kept (t':=s3.toks) fun b ob q=>uD _ q;obtain⟨T,id,hT,ht,hg⟩:=hr pins {s3 with heap:=s3.heap.push {cls:=.type "slice",data:=.fields #[vl,vu,.none]}} σ H3 x v vl vu l u ↑s3 Q I4 r1 (Heap.IsSliceOf.new ..) pl pu q3;show uU (uV X.prog X.w) X.A (subscriptTail e (.Slice lo hi none p2) v (.ref ↑s3)) (EP X pins σ Q) X.xe {s3 with heap:=s3.heap.push {cls:=.type "slice",data:=.fields #[vl,vu,.none]}};exact tail_any (ops:=[.ref ↑s3,v]) ht hT hg (by with_unfolding_all rfl)
def cutV(xs:List V)(lo hi:Option Int):List V:=(xs.drop (HT.sIx xs.length 0 lo)).take (HT.sIx xs.length xs.length hi-HT.sIx xs.length 0 lo)
def qg7(xs:List V)(lo hi:Option Int):(cutV xs lo hi).length<=xs.length:=by
 unfold cutV;rw[zS,List.length_drop];omega
end
def ixN(n:Nat)(i:Int):Option Nat:=if 0<=i then(if i<n then some i.toNat else none) else if -(n:Int)<=i then some (i+n).toNat else none
def atI{α:Type}(xs:List α)(i:Int):Option α:=(ixN xs.length i).bind fun j=>xs[j]?
def ixN_seq{n:Nat}{i:Int}{j:Nat}(h:ixN n i=some j):seqIndex? i n=some j/\j<n/\-(n:Int)<=i/\i<n:=by
 unfold ixN at h;by_cases h0:0<=i
 .rw[gJ h0] at h;by_cases h1:i<n
  .rw[gJ h1] at h;have e:i.toNat=j:=uQ h;exact⟨by rw[seqIndex_of h0 h1,e],↑∅,↑∅,h1⟩
  .rw[gI h1] at h;cases h
 .rw[gI h0] at h;by_cases h1: -(n:Int)<=i
  .rw[gJ h1] at h;have e:(i+n).toNat=j:=uQ h;exact⟨by rw[seqIndex_neg ↑∅ h1,e],↑∅,h1,↑∅⟩
  .rw[gI h1] at h;cases h
def atI_get{α:Type}{xs:List α}{i:Int}{v:α}(h:atI xs i=some v):∃j,seqIndex? i xs.length=some j/\xs[j]?=some v/\j<xs.length/\-(xs.length:Int)<=i/\i<xs.length:=by
 unfold atI at h
 cases e:ixN xs.length i with
 |none=>rw[e] at h;cases h
 |some j=>
  rw[e] at h;obtain⟨h1,h2,h3,h4⟩:=ixN_seq e;exact⟨j,h1,h,h2,h3,h4⟩
def qbu{α:Type}{xs:List α}{j:Nat}{v:α}(h:xs[j]?=some v):atI xs (j:Int)=some v:=by
 have hj:j<xs.length:=(uL.mp h).1;have e:ixN xs.length (j:Int)=some j:=by
  unfold ixN;rw[gJ ↑∅,gJ ↑∅];simp
 unfold atI;rw[e];exact h
def PlainIx(b:vV):Prop:=∀o i,subscripted b false o i=operate [o,i] (getItem o i)
def IxR(X:Cx)(r:R2):Prop:=
 ∀(value slice:vV)(pins:List (Addr×Obj))(s:uC)(σ:St)(H:Hp)(x y:V)(v u:uB)(Q:VK),Inv X pins σ H s->qb8 x v->qb8 y u->r x y H Q->
  subscripted slice false v u=operate [v,u] (getItem v u)->uU (uV X.prog X.w) X.A (subscriptTail value slice v u) (EP X pins σ Q) X.xe s
def MtR(X:Cx)(id:String)(r:V->List V->Hp->VK->Prop):Prop:=
 ∀(pins:List (Addr×Obj))(s:uC)(σ:St)(H:Hp)(x:V)(xs:List V)(v:uB)(us:List uB)(Q:VK),Inv X pins σ H s->qb8 x v->qbk xs us->r x xs H Q->
  uU (uV X.prog X.w) X.A (call (.builtin id) (v::us)) (EP X pins σ Q) X.xe s
section
variable{X:Cx}{a b:vV}{ta tb:TE}{pos:Pos}
def qal{r:R2}(hr:IxR X r)(ha:PE X a ta)(hb:PE X b tb)(hs:PlainIx b):PE X (.Subscript a b pos) (tOp r ta tb):=by
 intro pins s σ H Q I h;exact Subscript_ (binT ha hb I h fun v u s2 x y H2 I2 rx ry q=>hr a b pins s2 σ H2 x y v u Q I2 rx ry q (hs _ _))
def rIxL(K:uS):R2:=fun x y H Q=>∃p xs i v,x=.ref p/\y=.int i/\SqL K H p xs/\atI xs i=some v/\Q v H
def rIxT(K:uS):R2:=fun x y H Q=>∃p xs i v,x=.ref p/\y=.int i/\SqT K H p xs/\atI xs i=some v/\Q v H
def rIxS:R2:=fun x y H Q=>∃z i c,x=.str z/\y=.int i/\z.length<=sizeLine/\atI z.cps.toList i=some c/\Q (.str ⟨#[c]⟩) H
def qax:IxR X (rIxL X.K):=by
 intro value slice pins s σ H x y v u Q I rx ry h hs;obtain⟨p,xs,i,z,rfl,rfl,hq,he,q⟩:=h
 cases rx
 obtain⟨t,rfl⟩:=ry;obtain⟨its,r,pl,hz⟩:=I.list hq;obtain⟨j,h1,h2,h3,h4,h5⟩:=atI_get he;obtain⟨w,ew,rw'⟩:=r.get h2;have hl:=r.length;have hn:=line63;have fin:EP X pins σ Q w s:=⟨z,H,I,rw',q⟩;by_cases h0:0<=i
 .have hj:i.toNat=j:=by
   rw[seqIndex_of h0 h5] at h1;exact uQ h1
  exact item_listR pl.isList h0 ↑∅ (by rw[hj];simpa using ew) fin hs
 .have hj:(i+(its.toArray.size:Int)).toNat=j:=by
   rw[seqIndex_neg ↑∅ h4] at h1;rw[zN,<-hl];exact uQ h1
  exact subscriptTail_builtinR (x:=w) pl.isList.typeIs slot_list_getitem.lookup
   (wpAny_getItem_list_neg (Q:=fun r s'=>r=w/\EP X pins σ Q r s') pl.isList ↑∅ (by rw[zN]<;>omega) ↑∅ (by rw[hj];simpa using ew) ⟨rfl,fin⟩) hs
def qao:IxR X (rIxT X.K):=by
 intro value slice pins s σ H x y v u Q I rx ry h hs;obtain⟨p,xs,i,z,rfl,rfl,hq,he,q⟩:=h
 cases rx
 obtain⟨t,rfl⟩:=ry;obtain⟨its,r,pl,hz⟩:=I.tuple hq;obtain⟨j,h1,h2,h3,h4,h5⟩:=atI_get he;obtain⟨w,ew,rw'⟩:=r.get h2;have hl:=r.length;have hn:=line63;have fin:EP X pins σ Q w s:=⟨z,H,I,rw',q⟩;exact subscriptTail_builtinR (x:=w) pl.typeIs slot_tuple_getitem.lookup
  (getItem_tuple (j:=j) (Q:=fun r s'=>r=w/\EP X pins σ Q r s') pl ↑∅ ↑∅ (by rw[zN,<-hl];exact h1) (by simpa using ew) ⟨rfl,fin⟩) hs
def ix_str:IxR X rIxS:=by
 intro value slice pins s σ H x y v u Q I rx ry h hs;obtain⟨z,i,c,rfl,rfl,hz,he,q⟩:=h;obtain⟨t,rfl⟩:=rx;obtain⟨t',rfl⟩:=ry;obtain⟨j,h1,h2,h3,h4,h5⟩:=atI_get he;have hl:z.cps.toList.length=z.length:=by simp[Str.length]
 rw[hl] at h1 h4 h5;have hn:=line63;exact tail_any (typeIs_str s z t) slot_str_getitem.lookup (getItem_str (c:=c) (by
  have e1:decide (i < -(2^63:Int))=false:=gL ↑∅;have e2:decide (i≥2^63)=false:=gL ↑∅;rw[e1,e2,Bool.or_false]) (by rw[h1];simpa using h2) ⟨.str ⟨#[c]⟩,H,I.tok _,⟨_,rfl⟩,q⟩) hs
def slice_bounds(lo hi:Option Int)(n:Nat):(bK lo hi none n).1=((HT.sIx n 0 lo:Nat):Int)/\(bK lo hi none n).2.1=((HT.sIx n n hi:Nat):Int)/\(bK lo hi none n).2.2=1:=by
 refine⟨?_,?_,rfl⟩
 .cases lo with
  |none=>simp[bK,HT.sIx]
  |some i=>
   simp only[bK,HT.sIx,Option.getD_none,show(1:Int) > 0 by decide,if_true];by_cases h:i<0
   .simp only[h,if_true]<;>omega
   .simp only[h,if_false]<;>omega
 .cases hi with
  |none=>simp[bK,HT.sIx]
  |some i=>
   simp only[bK,HT.sIx,Option.getD_none,show(1:Int) > 0 by decide,if_true];by_cases h:i<0
   .simp only[h,if_true]<;>omega
   .simp only[h,if_false]<;>omega
def qgs(its:List uB)(lo hi:Option Int):slicePick its.toArray lo hi none=((its.drop (HT.sIx its.length 0 lo)).take (HT.sIx its.length its.length hi-HT.sIx its.length 0 lo)).toArray:=by
 obtain⟨h1,h2,h3⟩:=slice_bounds lo hi its.toArray.size;unfold slicePick;rw[h1,h2,h3];simp only[sliceRange_one,pick_run,zN]<;>rfl
def rSlL(K:uS):V->Option Int->Option Int->Hp->VK->Prop:=fun x lo hi H Q=>∃a xs,x=.ref a/\SqL K H a xs/\∀p,H p=none->Q (.ref p) (upd H p (.lst (cutV xs lo hi)))
def qd8:SlR X (rSlL X.K):=by
 intro pins s σ H x v vl vu lo hi sl Q I rx hs pl pu h;obtain⟨a,xs,rfl,hx,q⟩:=h
 cases rx
 obtain⟨its,r,ht,hz⟩:=I.list hx;have hlen:=r.length;refine⟨"list",_,slot_list_getitem.lookup,ht.isList.typeIs,?_⟩;refine wpAny_getItem_list_slice ht.isList hs pl pu .none (by simp) ?_ (by rw[zN]<;>omega);rw[qgs,<-hlen];refine⟨.ref ↑s,_,I.laid (t':=s.toks) (o:=.lst (cutV xs lo hi)) (fun b ob q=>uD _ q) (uG _) ?_,rfl,q _ (I.hok.fresh (uG _))⟩;exact⟨vJ (qg7 xs lo hi) hz,_,0,(r.drop (HT.sIx xs.length 0 lo)).take (HT.sIx xs.length xs.length hi-HT.sIx xs.length 0 lo),vC _ rfl⟩
def qd6:V->Bool
 | .non=>true
 | .bl _=>true
 | .int _=>true
 | .str _=>true
 |_=>false
def eqV:V->V->Bool
 | .non,.non=>true
 | .bl a,.bl b=>a==b
 | .bl a,.int b=>(if a then 1 else 0)==b
 | .int a,.bl b=>a==(if b then 1 else 0)
 | .int a,.int b=>a==b
 | .str a,.str b=>a==b
 |_,_=>false
def eqAt_V{A:vR}{s:uC}{y x:V}{u v:uB}(ry:qb8 y u)(rx:qb8 x v)(fy:qd6 y=true)(fx:qd6 x=true):SeqAt.EqAt A s u v (eqV y x):=by
 cases y with
 |non=>
  cases ry
  cases x with
  |non=>cases rx;exact SeqAt.EqAt.same _
  |bl b=>cases rx;exact SeqAt.EqAt.none_bool b
  |int b=>obtain⟨t,rfl⟩:=rx;exact SeqAt.EqAt.none_int b t
  |str b=>obtain⟨t,rfl⟩:=rx;exact SeqAt.EqAt.none_str b t
  |_=>exact absurd (show false=true from fx) vA
 |bl a=>
  cases ry
  cases x with
  |non=>cases rx;exact SeqAt.EqAt.bool_none a
  |bl b=>cases rx;exact SeqAt.EqAt.bool_bool a b
  |int b=>obtain⟨t,rfl⟩:=rx;exact SeqAt.EqAt.bool_int a b t
  |str b=>obtain⟨t,rfl⟩:=rx;exact SeqAt.EqAt.bool_str a b t
  |_=>exact absurd (show false=true from fx) vA
 |int a=>
  obtain⟨t',rfl⟩:=ry
  cases x with
  |non=>cases rx;exact SeqAt.EqAt.int_none a t'
  |bl b=>cases rx;exact SeqAt.EqAt.int_bool a t' b
  |int b=>obtain⟨t,rfl⟩:=rx;exact SeqAt.EqAt.int_int a t' b t
  |str b=>obtain⟨t,rfl⟩:=rx;exact SeqAt.EqAt.int_str a t' b t
  |_=>exact absurd (show false=true from fx) vA
 |str a=>
  obtain⟨t',rfl⟩:=ry
  cases x with
  |non=>cases rx;exact SeqAt.EqAt.str_none a t'
  |bl b=>cases rx;exact SeqAt.EqAt.str_bool a t' b
  |int b=>obtain⟨t,rfl⟩:=rx;exact SeqAt.EqAt.str_int a t' b t
  |str b=>obtain⟨t,rfl⟩:=rx;exact SeqAt.EqAt.str_str a t' b t
  |_=>exact absurd (show false=true from fx) vA
 |_=>exact absurd (show false=true from fy) vA
def eqU(x:V)(u:uB):Bool:=match u with
 | .none=>eqV .non x
 | .bool b=>eqV (.bl b) x
 | .int i _=>eqV (.int i) x
 | .str z _=>eqV (.str z) x
 |_=>false
def eqU_of{x y:V}{u:uB}(r:qb8 y u)(f:qd6 y=true):eqU x u=eqV y x:=by
 cases y with
 |non=>cases r;rfl
 |bl b=>cases r;rfl
 |int i=>obtain⟨t,rfl⟩:=r;rfl
 |str z=>obtain⟨t,rfl⟩:=r;rfl
 |_=>exact absurd (show false=true from f) vA
theorem qga{x:V}:∀{xs:List V} {us:List uB},qbk xs us->xs.all qd6=true->us.any (eqU x)=xs.any fun y=>eqV y x
 |_,_,.nil,_=>rfl
 |y::xs,u::us,.cons r t,f=>by
  rw[yO,wH] at f;rw[yN,yN,eqU_of r f.1,qga t f.2]
theorem qen{A:vR}{s:uC}{x:V}{v:uB}(rx:qb8 x v)(fx:qd6 x=true):∀{xs:List V} {us:List uB},qbk xs us->xs.all qd6=true->∀u∈us,SeqAt.EqAt A s u v (eqU x u)
 |_,_,.nil,_=>fun u hu=>by cases hu
 |y::xs,u::us,.cons r t,f=>fun u' hu=>by
  rw[yO,wH] at f;rcases zP.mp hu with rfl|hu
  .rw[eqU_of r f.1];exact eqAt_V r rx f.1 fx
  .exact qen rx fx t f.2 u' hu
def inV(x:V)(xs:List V):Bool:=xs.any fun y=>eqV y x
def rIn(K:uS)(neg:Bool):R2:=fun x y H Q=>∃p xs,y=.ref p/\(SqL K H p xs\/SqT K H p xs)/\qd6 x=true/\xs.all qd6=true/\Q (.bl (if neg then !inV x xs else inV x xs)) H
def op_in_seq:OpR X (wG .In) (rIn X.K false):=by
 intro pins s σ H x y v u Q I rx ry h;obtain⟨p,xs,rfl,hq,fx,fs,q⟩:=h
 cases ry
 rcases hq with hq|hq
 .obtain⟨its,r,pl,hz⟩:=I.list hq;refine SeqAt.in_listAt (eqU x) pl.isList (fun w hw=>qen rx fx r fs w (by simpa using hw)) ⟨.bl _,H,I,rfl,?_⟩;rw[show its.toArray.any (eqU x)=its.any (eqU x) by simp,qga r fs];exact q
 .obtain⟨its,r,pl,hz⟩:=I.tuple hq;refine SeqAt.in_tupleAt (eqU x) pl (fun w hw=>qen rx fx r fs w (by simpa using hw)) ⟨.bl _,H,I,rfl,?_⟩;rw[show its.toArray.any (eqU x)=its.any (eqU x) by simp,qga r fs];exact q
def qct:OpR X (wG .NotIn) (rIn X.K true):=by
 intro pins s σ H x y v u Q I rx ry h;obtain⟨p,xs,rfl,hq,fx,fs,q⟩:=h
 cases ry
 rcases hq with hq|hq
 .obtain⟨its,r,pl,hz⟩:=I.list hq;refine SeqAt.notIn_listAt (eqU x) pl.isList (fun w hw=>qen rx fx r fs w (by simpa using hw)) ⟨.bl _,H,I,rfl,?_⟩;rw[show its.toArray.any (eqU x)=its.any (eqU x) by simp,qga r fs];exact q
 .obtain⟨its,r,pl,hz⟩:=I.tuple hq;refine SeqAt.notIn_tupleAt (eqU x) pl (fun w hw=>qen rx fx r fs w (by simpa using hw)) ⟨.bl _,H,I,rfl,?_⟩;rw[show its.toArray.any (eqU x)=its.any (eqU x) by simp,qga r fs];exact q
def call_len_seq:qcr X (.builtin "len") (fun xs H Q=>∃p ys,xs=[.ref p]/\(SqL X.K H p ys\/SqT X.K H p ys)/\Q (.int ys.length) H):=by
 intro pins s σ H xs us Q I r h;obtain⟨p,ys,rfl,hq,q⟩:=h;obtain⟨u,rfl,rx⟩:=vals1 r
 cases rx
 have hn:=line63;rcases hq with hq|hq
 .obtain⟨its,r',pl,hz⟩:=I.list hq;have hlen:=r'.length;exact Calls.call_len_list pl.isList (by simp only[zN]<;>omega) ⟨.int ys.length,H,I.tok _,⟨s.toks+1,by rw[zN,hlen]⟩,q⟩
 .obtain⟨its,r',pl,hz⟩:=I.tuple hq;have hlen:=r'.length;exact len_tuple pl (by simp only[zN]<;>omega) ⟨.int ys.length,H,I.tok _,⟨s.toks+1,by rw[zN,hlen]⟩,q⟩
def call_len_str:qcr X (.builtin "len") (fun xs H Q=>∃z,xs=[.str z]/\z.length<=sizeLine/\Q (.int z.length) H):=by
 intro pins s σ H xs us Q I r h;obtain⟨z,rfl,hz,q⟩:=h;obtain⟨u,rfl,t,rfl⟩:=vals1 r;have hn:=line63;exact len_str ↑∅ ⟨.int z.length,H,I.tok _,⟨_,rfl⟩,q⟩
def call_list_of:qcr X (.type "list") (fun xs H Q=>∃p ys,xs=[.ref p]/\(SqL X.K H p ys\/SqT X.K H p ys)/\∀l,H l=none->Q (.ref l) (upd H l (.lst ys))):=by
 intro pins s σ H xs us Q I r h;obtain⟨p,ys,rfl,hq,q⟩:=h;obtain⟨u,rfl,rx⟩:=vals1 r
 cases rx
 have fin:∀(its:List uB),qbk ys its->ys.length<=sizeLine->∀(h':vQ)(c':Nat),(∀b o',s.heap.get? b=some o'->h'.get? b=some o')->
   h'.get? ↑s=some {cls:=.type "list",dict:=none,data:=.seq its.toArray c',slots:=#[]}->EP X pins σ Q (.ref ↑s) {s with heap:=h'}:=fun its r' hz h' c' kp e=>
  ⟨.ref ↑s,_,I.laid (t':=s.toks) kp (uG _) (show qbv X.prog X.w _ h' _ (.lst ys) from⟨hz,its,c',r',e⟩),rfl,q _ (I.hok.fresh (uG _))⟩
 rcases hq with hq|hq
 .obtain⟨its,r',pl,hz⟩:=I.list hq;have hlen:=r'.length;obtain⟨o,ho,hc,n,hd⟩:=pl.isList;exact call_list_seq p (.inl rfl) ho hc hd (fun h' c' kp e=>fin its r' hz h' c' kp e) (by simp only[zN]<;>omega)
 .obtain⟨its,r',pl,hz⟩:=I.tuple hq;have hlen:=r'.length;obtain⟨o,ho,hc,n,hd⟩:=pl;exact call_list_seq p (.inr rfl) ho hc hd (fun h' c' kp e=>fin its r' hz h' c' kp e) (by simp only[zN]<;>omega)
def tyV(K:uS)(T:String)(x:V)(H:Hp):Prop:=match x with
 | .str _=>T= "str"
 | .int _=>T= "int"
 | .ref p=>(T= "list"/\∃xs,SqL K H p xs)\/(T= "tuple"/\∃o,K.lookup p=some o/\o.cls=.type "tuple"/\o.dict=none)\/
   (T= "dict"/\((∃kvs,H p=some (.dK kvs))\/∃kvs,H p=some (.dT kvs)))\/(T= "set"/\∃S n,H p=some (.set S n))
 |_=>False
def tyV_is{pins:List (Addr×Obj)}{σ:St}{H:Hp}{s:uC}{T:String}{x:V}{v:uB}(I:Inv X pins σ H s)(r:qb8 x v)(ty:tyV X.K T x H):
  s.TypeIs v T/\∀a,v=.ref a->∃ob,s.heap.get? a=some ob/\ob.dict=none:=by
 cases x with
 |str z=>
  obtain⟨t,rfl⟩:=r
  cases(show T= "str" from ty)
  exact⟨typeIs_str s z t,fun _ e=>nomatch e⟩
 |int i=>
  obtain⟨t,rfl⟩:=r
  cases(show T= "int" from ty)
  exact⟨typeIs_int s i t,fun _ e=>nomatch e⟩
 |ref p=>
  cases r
  rcases ty with⟨rfl,xs,hq⟩|⟨rfl,o,hk,hc,hd⟩|⟨rfl,hk⟩|⟨rfl,S,n,hk⟩
  .obtain⟨its,_,pl,_⟩:=I.list hq;refine⟨pl.isList.typeIs,fun a e=>?_⟩
   cases e
   obtain⟨o,n,e,c,hd,_⟩:=pl;exact⟨o,e,hd⟩
  .refine⟨⟨o,I.kIn p o hk,hc⟩,fun a e=>?_⟩
   cases e
   exact⟨o,I.kIn _ o hk,hd⟩
  .have z:∃o,s.heap.get? p=some o/\o.ExactDict:=by
    rcases hk with⟨kvs,hk⟩|⟨kvs,hk⟩
    .obtain⟨_,_,_,_,o,_,_,e,ex,_⟩:=I.hok p _ hk;exact⟨o,e,ex⟩
    .obtain⟨_,_,_,_,o,_,_,e,ex,_⟩:=I.hok p _ hk;exact⟨o,e,ex⟩
   obtain⟨o,e,ex⟩:=z;refine⟨⟨o,e,ex.1⟩,fun a e2=>?_⟩
   cases e2
   exact⟨o,e,ex.2.1⟩
  .obtain⟨o,_,_,_,e,ex,_⟩:=I.hok p _ hk;refine⟨⟨o,e,ex.1⟩,fun a e2=>?_⟩
   cases e2
   exact⟨o,e,ex.2.1⟩
 |_=>exact vO ty
def tBM0(K:uS)(T:String)(r:V->List V->Hp->VK->Prop)(to:TE):TE:=fun σ H Q=>to σ H fun x H1=>tyV K T x H1/\r x [] H1 Q
def tBM(K:uS)(T:String)(r:V->List V->Hp->VK->Prop)(to:TE)(t:TA):TE:=fun σ H Q=>to σ H fun x H1=>tyV K T x H1/\t σ H1 fun xs H2=>r x xs H2 Q
variable{o e:vV}{es:List vV}{to:TE}{t:TA}{name:Str}{apos cpos:Pos}{T id:String}{r:V->List V->Hp->VK->Prop}
def pe_bm0(pa:PlainAttrs T)(slot:Slot T name id)(hty:typeOf (.builtin id)=pure (.type "method_descriptor"))(hm:MtR X id r)(ho:PE X o to)
  (hbase:bJ o name X.env (wL o X.env)=wL o X.env:=by rfl)(hline:(apos.endLine==cpos.line)=true:=by rfl):PE X (.Call (.Attribute o name apos) [] [] cpos) (tBM0 X.K T r to):=by
 intro pins s σ H Q I h;refine wpAny_Call_method0_late hbase hline (thn (ho pins s σ H _ I h) fun v s1 ⟨x,H1,I1,r1,ty,q1⟩=>?_);obtain⟨h1,h2⟩:=tyV_is I1 r1 ty;exact⟨T,id,pa,slot,hty,h1,h2,cZ rfl (PySem.evalArgs_none (hm pins s1 σ H1 x [] v [] Q I1 r1 .nil q1))⟩
def qf7(pa:PlainAttrs T)(slot:Slot T name id)(hty:typeOf (.builtin id)=pure (.type "method_descriptor"))(hm:MtR X id r)(ho:PE X o to)(ha:PA X (e::es) t)
  (hbase:bJ o name X.env (wL o X.env)=wL o X.env:=by rfl)
  (hfew:((wP cpos (uZ (e::es) X.env)).all (fun x=>!x.1) && (bY cpos (yU [] X.env)).all (fun x=>x.1.isSome)
   && decide ((e::es).length+([]:List Keyword).length+(if([]:List Keyword).isEmpty then 0 else 1)<30))=true:=by rfl)
  (hline:(apos.endLine==cpos.line)=true:=by rfl) (hs:uZ (e::es) X.env=(false,wL e X.env)::uZ es X.env:=by rfl) (hplain:(wP cpos (uZ es X.env)).any (·.1)=false:=by rfl):
  PE X (.Call (.Attribute o name apos) (e::es) [] cpos) (tBM X.K T r to t):=by
 intro pins s σ H Q I h;refine wpAny_Call_method_late hbase hfew hline rfl (thn (ho pins s σ H _ I h) fun v s1 ⟨x,H1,I1,r1,ty,q1⟩=>?_);obtain⟨h1,h2⟩:=tyV_is I1 r1 ty;refine⟨T,id,pa,slot,hty,h1,h2,?_⟩;have hA:=ha cpos pins s1 σ H1 _ I1 q1;rw[hs] at hA⊢;refine cZ (by show(false ||(wP cpos (uZ es X.env)).any (·.1))=false;rw[hplain]<;>rfl) (bL ?_);exact thn hA fun us s2 ⟨vs,H2,I2,r2,q2⟩=>hm pins s2 σ H2 x vs v us Q I2 r1 r2 q2
end
def MtM(X:Cx)(id:String)(r:V->List V->Hp->VK->Prop):Prop:=
 ∀(pins:List (Addr×Obj))(s:uC)(σ:St)(H:Hp)(x:V)(xs:List V)(v:uB)(us:List uB)(Q:VK),Inv X pins σ H s->qb8 x v->qbk xs us->r x xs H Q->
  uU (uV X.prog X.w) X.A (call (.builtin id) (v::us)) (EP X pins σ Q) X.xe s
def qbk.one:∀{x:V} {us:List uB},qbk [x] us->∃u,us=[u]/\qb8 x u
 |_,_,.cons r .nil=>⟨_,rfl,r⟩
def qbk.zero:∀{us:List uB},qbk [] us->us=[]
 |_,.nil=>rfl
section
variable{X:Cx}{pins:List (Addr×Obj)}{σ:St}{H:Hp}{s:uC}{l:Addr}{xs ys:List V}
def Inv.lset{its its':List uB}{n:Nat}{f:Array uB->Array uB}{t':Nat}(I:Inv X pins σ H s)(hH:H l=some (.lst xs))
  (e:s.heap.get? l=some {cls:=.type "list",data:=.seq its.toArray n})(hf:f its.toArray=its'.toArray)(hv:qbk ys its')(hz:ys.length<=sizeLine):
  Inv X pins σ (upd H l (.lst ys)) {s with heap:=s.heap.update l (Obj.mapSeq f),toks:=t'}:=by
 have q:=PySem.IsL.update e f;rw[hf] at q;refine I.write (x:=l) (e:=l) (by rw[hH];exact trivial) (.inl rfl) (fun b' u hb hu=>(xB s.heap (Obj.mapSeq f) (xK hb)).trans hu) ⟨_,q⟩ ?_;exact⟨hz,its',_,hv,q⟩
def Inv.lnew{its:List uB}{t':Nat}(I:Inv X pins σ H s)(hv:qbk ys its)(hz:ys.length<=sizeLine):
  Inv X pins σ (upd H ↑s (.lst ys)) {s with heap:=s.heap.push {cls:=.type "list",data:=.seq its.toArray},toks:=t'}:=
 I.laid (fun _ _ q=>uD _ q) (uG _) ⟨hz,its,0,hv,vC _ rfl⟩
theorem Inv.fresh(I:Inv X pins σ H s):H ↑s=none:=I.hok.fresh (uG _)
def Inv.lstM(I:Inv X pins σ H s)(hH:H l=some (.lst xs)):xs.length<=sizeLine/\∃(its:List uB)(n:Nat),qbk xs its/\xs.length=its.length/\s.heap.get? l=some {cls:=.type "list",data:=.seq its.toArray n}:=by
 obtain⟨z,its,n,r,e⟩:=I.hok l _ hH;exact⟨z,its,n,r,r.length,e⟩
def notLongL{n:Nat}(h:n<=sizeLine):cK n=false:=by
 unfold cK;exact gL ↑∅
end
section
variable{X:Cx}
def rAppend:V->List V->Hp->VK->Prop:=fun x vs H Q=>∃l xs y,x=.ref l/\vs=[y]/\H l=some (.lst xs)/\xs.length<sizeLine/\Q .non (upd H l (.lst (xs++[y])))
def qc0:MtM X "list.append" rAppend:=by
 intro pins s σ H x vs v us Q I rx rv h;obtain⟨l,xs,y,rfl,rfl,hH,hz,q⟩:=h
 cases rx
 obtain⟨u,rfl,ru⟩:=rv.one;obtain⟨z,its,n,r,hl,e⟩:=I.lstM hH;refine call_meets F.slot_list_append ⟨_,e,rfl⟩ F.entry_list_append (F.args_list_append_2 _ _) (PySem.list_append l its.toArray n u (by rw[zN];omega)) ⟨e,?_⟩;refine⟨.non,_,I.lset (its':=its++[u]) hH e (by simp) (r.append (.cons ru .nil)) ?_,rfl,q⟩;rw[zJ,zT];omega
def rExtend:V->List V->Hp->VK->Prop:=fun x vs H Q=>∃l b xs zs,x=.ref l/\vs=[.ref b]/\H l=some (.lst xs)/\H b=some (.lst zs)/\xs.length+zs.length<=sizeLine/\Q .non (upd H l (.lst (xs++zs)))
def mt_extend:MtM X "list.extend" rExtend:=by
 intro pins s σ H x vs v us Q I rx rv h;obtain⟨l,b,xs,zs,rfl,rfl,hH,hB,hz,q⟩:=h
 cases rx
 obtain⟨u,rfl,ru⟩:=rv.one
 cases ru
 obtain⟨z,its,n,r,hl,e⟩:=I.lstM hH;obtain⟨z2,its2,n2,r2,hl2,e2⟩:=I.lstM hB;have hsz:its.toArray.size+its2.toArray.size<=sizeLine:=by rw[zN,zN];omega
 have hlong:¬(!its.toArray.isEmpty && cK (its.toArray.size+its2.toArray.size))=true:=by
  rw[notLongL hsz,Bool.and_false];exact vA
 refine call_meets F.slot_list_extend ⟨_,e,rfl⟩ F.entry_list_extend (F.args_list_extend_2 _ _)
  (AutoSeq1.list_extend_list_list_0 l its.toArray n b its2.toArray n2 hlong (by rw[zN];omega) ↑∅) ⟨e,e2,?_⟩
 refine⟨.non,_,I.lset (its':=its++its2) hH e (by simp) (r.append r2) ?_,rfl,q⟩;rw[zJ];omega
def rCat:R2:=fun x y H Q=>∃l b xs zs,x=.ref l/\y=.ref b/\H l=some (.lst xs)/\H b=some (.lst zs)/\xs.length+zs.length<=sizeLine/\∀p,H p=none->Q (.ref p) (upd H p (.lst (xs++zs)))
def qdl:OpR X (aE .Add) rCat:=by
 intro pins s σ H x y v u Q I rx ry h;obtain⟨l,b,xs,zs,rfl,rfl,hH,hB,hz,q⟩:=h
 cases rx
 cases ry
 obtain⟨z,its,n,r,hl,e⟩:=I.lstM hH;obtain⟨z2,its2,n2,r2,hl2,e2⟩:=I.lstM hB;refine PySem.P.add_list e e2 ?_ (by rw[zN,zN];omega);have ea:its.toArray++its2.toArray=(its++its2).toArray:=by simp
 rw[ea];exact⟨.ref _,_,I.lnew (t':=s.toks) (r.append r2) (by rw[zJ];omega),rfl,q _ I.fresh⟩
def rRep:R2:=fun x y H Q=>∃l k xs,x=.ref l/\y=.int k/\H l=some (.lst xs)/\-(2^63)<=k/\k<2^63/\xs.length*k.toNat<=sizeLine/\
 ∀p,H p=none->Q (.ref p) (upd H p (.lst (vZ k.toNat xs).flatten))
end
end L2
namespace Att
open PySem PySem.W PySem.Calls PyProof.Rows
def qg0{P:Params}{h:vQ}:∀(ns:List Int)(vs:List uB),WellAll P h vs (ns.map WData.int)->IntsAre vs ns:=by
 intro ns
 induction ns with
 |nil=>
  intro vs w;rw[fL] at w
  cases w
  exact .nil
 |cons n ns ih=>
  intro vs w;rw[zV] at w
  cases w with
  |cons a b=>
   cases a
   exact .cons _ _ (ih _ b)
def script_of{l:OpenLaw}{n:Nat}(hn:l.most=some n){P:Params}{h:vQ}{args:List WData}{vals:List uB}
  (hpre:l.row.toRowW.claim.pre args=true)(hwl:WellAll P h vals args):
  ∃a vs ns,vals=[uP a]/\args=[WData.list (ns.map WData.int)]/\h.get? a=some {cls:=.type "list",data:=.seq vs.toArray}/\IntsAre vs ns/\ns.length<=n:=by
 have hsh:WShape.hasAll [] args [.list .int]=true:=(pre_splitW hpre).1;have hc:l.pre.holds [] {args:=args}=true:=(pre_splitW hpre).2;obtain⟨d,r,rfl,h1,h2⟩:=hasAllW_cons hsh;obtain rfl:=hasAllW_nil h2;obtain⟨xs,rfl,h3⟩:=hasW_list h1;obtain⟨ns,rfl⟩:=items_int h3;have hlen:ns.length<=n:=by
  unfold OpenLaw.pre at hc;have h4:(WTm.not (.lt (.lit (.int (n:Int))) (.len (.arg 0)))).holds [] {args:=[.list (ns.map .int)]}=true:=by
   have h4:=(holds_andW hc).1;rw[hn] at h4;exact h4
  have h5:=condW_of h4 (w_not (w_lt w_lit (w_len_list (w_arg rfl))));rw[zA] at h5;refine Nat.le_of_not_lt fun q=>?_;have q':(n:Int) <((ns.length:Nat):Int):=by omega
  first
   |(rw[gK q'] at h5;exact absurd h5 ∅)
   |(simp at h5;omega)
 cases hwl with
 |cons w1 w2=>
  cases w2
  cases w1 with
  |list ho hall=>exact⟨_,_,ns,rfl,rfl,ho,qg0 ns _ hall,hlen⟩
def post_true(l:OpenLaw)(args:List WData):l.row.toRowW.claim.post args (.bool true) args=true:=
 postW_of (r:=l.row.toRowW) (X:=(true==true))
  (show WShape.has [] (.bool true) .bool=true by first|rfl|decide|simp[WShape.has,WShape.arms,WShape.armsAll])
  (show(WTm.eq .res (.lit (.bool true))).value [] {args:=args,res:=some (.bool true),after:=args}=some (.bool (true==true)) from w_eq_bool (w_res rfl) w_lit) rfl
def attach_call{l:OpenLaw}{n:Nat}{q:uY}{loose:List Str}{XP:(Str->Option uB)->vQ->Prop}{YP:vL->vQ->Prop}{d:DefRec}
  (hn:l.most=some n)(hdf:d.params.defaults=[])
  (call:∀(w:vL)(s₀ s₁:uC)(mg mb:Str->Option uB)(fa:Addr)(o:Obj)(pm cd doc:uB)(a:Addr)(vs:List uB)(ns:List Int),
   Ground q loose [] XP w s₀ mg mb s₁.heap->YP w s₁.heap->
   s₁.heap.get? fa=some o->o.data=.func (docDef d.name d.params d.body d.scope pm cd doc)->s₁.heap.CodeRec cd d.name->mg d.name=some (.ref fa)->
   s₁.heap.get? a=some {cls:=.type "list",data:=.seq vs.toArray}->IntsAre vs ns->ns.length<=n->s₁.gens= #[]->
   bI (uV l.prog w) fM (.call (.ref fa) ⟨[.ref a],[]⟩) (fun r s'=>r=.ok (.ret (.bool true))/\OldK s₁.heap s'.heap/\s'.os=s₁.os/\cC s'.gens) s₁):
  WalkO q loose XP YP l.row.toRowW d [] (fun f vs=>PySem.call f vs):=by
 intro w s₀ s₁ mg mb G Y fa o pm cd doc dV kV ho hd hcd hD hmg hg args vals as hpre hlay hrd hwl hlo;obtain rfl:dV=.none:=Dflts.none hD hdf;obtain rfl:kV=.none:=Dflts.noKw hD;obtain⟨a,vs,ns,rfl,rfl,hobj,hints,hlen⟩:=script_of hn hpre hwl;refine enter_call (xA (call w s₀ s₁ mg mb fa o pm cd doc a vs ns G Y ho (fd_plain hd) hcd hmg hobj hints hlen hg) fun r s' hq=>?_);obtain⟨rfl,h2,h3,h4⟩:=hq;exact⟨.inl ⟨.bool true,.bool true,[],rfl,fun _=>rfl,.bool true,post_true l _,fun _=>⟨fN,fun _ hm=>(nomatch hm)⟩⟩,h2,h3,h4⟩
end Att
namespace L2
open PySem PySem.Spec PyProof.Rows
theorem vals_ints:∀{vs:List uB} {ns:List Int},IntsAre vs ns->qbk (ns.map V.int) vs
 |_,_,.nil=> .nil
 |_,_,.cons n t h=> .cons ⟨t,rfl⟩ (vals_ints h)
def qbo(s:Stmt):xH:=match s with
 | .FunctionDef _ a _ _ _ _ _ _ _ _=>a
 |_=>{posonlyargs:=[],args:=[],vararg:=none,kwonlyargs:=[],kw_defaults:=[],kwarg:=none,defaults:=[]}
def qbw(s:Stmt):List Stmt:=match s with
 | .FunctionDef _ _ b _ _ _ _ _ _ _=>b
 |_=> []
def qa8(s:Stmt):xF:=match s with
 | .FunctionDef _ _ _ _ _ _ sc _ _ _=>sc
 |_=>{kind:=.function,names:=[],isGenerator:=false,isCoroutine:=false}
abbrev CX0:CXT:=fun _ _ _ _ _ _=>False
abbrev E0:XK:=fun _ _ _=>False
def qay{X:Cx}:qgc CX0 X E0:=fun _ _ _ _ _ _ _ h=>h.elim
structure Fun(K:uS)(x qual:Str)(st:Stmt)(f:Addr)(fd:uK):Prop where
 ex:∃(oc:uB)(od:Option Addr)(kV doc pm:uB)(an:Option Addr)(cdv ct:uB)(osl:Array (Option uB)),
  fd=dY x qual (qbo st) (qbw st) (qa8 st) .none kV doc pm an cdv ct/\K.lookup f=some ⟨oc,od,.func fd,osl⟩/\cV K cdv qual=true
 kp:bN K (.ref f)=true
section
variable{P:uY}{w:vL}{K:uS}{mg:Str->Option uB}{base:vQ}
def Fun.ok{x qual:Str}{st:Stmt}{f:Addr}{fd:uK}{N ps:List Str}{k:Nat}{sp:Sp}(F:Fun K x qual st f fd)(S:FnScope N ps (qa8 st))(len:∀vs H Q E,sp vs H Q E->vs.length=ps.length)
  (hbody:∀(cdv:uB)(A:vR)(outer:List Env)(s:uC)(H:Hp)(vs:List V)(Q:VK)(E:XK),Room k (A.deeper (aC qual (qa8 st) ↑s f cdv))->sp vs H Q E->
   ∃t,PSs (cxOf CX0 P w K mg base N qual (qa8 st) f cdv A outer s H E).nox (qbw st) t/\t {nx:=fun _ H'=>Q .non H',rt:=Q} (start N vs) H):FnOk P w K mg base CX0 (k+1) f fd ps sp:=by
 obtain⟨oc,od,kV,doc,pm,an,cdv,ct,osl,rfl,lk,hcd⟩:=F.ex;refine fn_of lk hcd S len fun A outer s H vs Q E hr hsp=>?_;obtain⟨t,h,q⟩:=hbody cdv A outer s H vs Q E hr hsp;exact⟨t,h.nox,q⟩
def Fun.binds{x qual:Str}{st:Stmt}{f:Addr}{fd:uK}{ps:List Str}(F:Fun K x qual st f fd)
  (h:∀(kV doc pm:uB)(an:Option Addr)(cdv ct:uB)(us:List uB),us.length=ps.length->bindArgs (dY x qual (qbo st) (qbw st) (qa8 st) .none kV doc pm an cdv ct) ⟨us,[]⟩=pure (ps.zip us)):qam K fd ps []:=by
 obtain⟨oc,od,kV,doc,pm,an,cdv,ct,osl,rfl,lk,hcd⟩:=F.ex;exact .all (h kV doc pm an cdv ct)
def fun_mk{x qual:Str}{st:Stmt}{f:Addr}{oc:uB}{od an:Option Addr}{osl:Array (Option uB)}{kV doc pm cdv ct:uB}(l:K.lookup f=some ⟨oc,od,.func (dY x qual (qbo st) (qbw st) (qa8 st) .none kV doc pm an cdv ct),osl⟩)
  (c:cV K cdv qual=true)(k:bN K (.ref f)=true):Fun K x qual st f (dY x qual (qbo st) (qbw st) (qa8 st) .none kV doc pm an cdv ct):=⟨⟨oc,od,kV,doc,pm,an,cdv,ct,osl,rfl,l,c⟩,k⟩
end
def qat{A:vR}{k:Nat}(hr:Room k A):A.units+1<cLine:=vF (Nat.add_le_add_left (by decide:1<=64) _) hr.units
section
variable{X:Cx}
def pv(i:Nat){x:Str}{pos:Pos}(hN:X.N[i]?=some x:=by rfl)(hv:Vis X.env.scope x:=by first|exact uF rfl|exact eS (uF rfl) |exact eS (eS rfl))(hd:(x==("__debug__":Str))=false:=by decide)
  (hcd:(x==("__classdict__":Str))=false:=by decide):PE X (.Name x pos) (tVar i):=pe_var hN hv hd hcd
end
def iteF{A B:Prop}(h:B):if false=true then A else B:=by
 rw[gI vA];exact h
def iteT{A B:Prop}(h:A):if true=true then A else B:=by
 rw[gJ rfl];exact h
def Same(H H':Hp):Prop:=∀b o,H b=some o->H' b=some o
def Same.refl(H:Hp):Same H H:=fun _ _ h=>h
def Same.trans{H H1 H2:Hp}(a:Same H H1)(b:Same H1 H2):Same H H2:=fun c o h=>b c o (a c o h)
def Same.free{H H':Hp}(e:Same H H'){l:Addr}(h:H' l=Option.none):H l=Option.none:=by
 cases q:H l with
 |none=>rfl
 |some o=>
  rw[e l o q] at h
  cases h
def Same.seq{K:uS}{H H':Hp}{a:Addr}{xs:List V}(e:Same H H')(h:SqL K H a xs):SqL K H' a xs:=by
 rcases h with (h|⟨o,h⟩) |h
 .exact .inl (.inl (e _ _ h))
 .exact .inl (.inr ⟨o,e _ _ h⟩)
 .exact .inr h
end L2
namespace My
open PySem PySem.Spec PyProof.Rows L2
section
variable{X:Cx}
def bits600{k:Int}(h:k.natAbs<2^600):Builtin.Int.intBits k<=2^20:=
 vJ (PyProof.Rows.intBits_le (k:=600) h) ∅
def CBig(i j:Int):Prop:=i.natAbs<2^600/\j.natAbs<2^600
def qbc:OpR X (aE .Mult) (rI CBig fun i j=> .int (i*j)):=opI fun _ _ _ _ _ _ _ hc q=>mul_int q (IntMulOk.of_bits (bits600 hc.1) (bits600 hc.2))
def CDivB(i j:Int):Prop:=j≠0/\j.natAbs<2^600
def noPy{x y:Int}(h:y.natAbs<2^600):Builtin.divisionGoesByPylong x y=false:=by
 refine PyProof.noPylong_of_log2 ?_;by_cases h0:y.natAbs=0
 .rw[h0];decide+kernel
 .have h30:y.natAbs.log2<600:=(Nat.log2_lt h0).mpr h;omega
def qbl:OpR X (aE .FloorDiv) (rI CDivB fun i j=> .int (i.fdiv j)):=opI fun _ _ _ _ _ _ _ hc q=>floordiv_int hc.1 q (.inl (noPy hc.2))
end
def qa4{H:Hp}{p:Addr}(h:H p=none)(o:HO):Same H (upd H p o):=fun b u q=>by rw[qa7 (qa9 q h)];exact q
def cell(ns:List Int)(k:Int):Int:=(ns[k.toNat]?).getD 0
def cell_at{ns:List Int}{k:Int}(h0:0<=k)(h:k <(ns.length:Int)):atI (ns.map V.int) k=some (.int (cell ns k)):=by
 have hk:k.toNat<ns.length:=by omega
 have ek:k=((k.toNat:Nat):Int):=by omega
 have q:atI (ns.map V.int) ((k.toNat:Nat):Int)=some (.int ns[k.toNat]):=qbu (by rw[zC,zB hk]<;>rfl);rw[<-ek] at q;rw[q];unfold cell;rw[zB hk];rfl
def cell_out{ns:List Int}{k:Int}(h:¬k <(ns.length:Int))(h0:0<=k):cell ns k=0:=by
 unfold cell;rw[dG ↑∅];rfl
end My
set_option maxHeartbeats 1000000
namespace My
open PySem PySem.Spec PyProof.Rows L2
variable{h:vQ}{a p:Addr}{o:HO}{C:uB}{d:Option Addr}{W:L2.St->XK}{X:Cx}{xs:List V}{A c B:Prop}{R:It->Hp->Prop}{H:Hp}
section
variable{X:Cx}{pins:List (Addr×Obj)}{σ:L2.St}{H:Hp}{s:uC}{h':vQ}
structure Rec(X:Cx)(pins:List (Addr×Obj))(H:Hp)(h:vQ)(b:Addr):Prop where
 nw:X.s₀.heap.get? b=none
 un:H b=none
 pin:∀p∈X.pn++pins,p.1≠b
 ob:∃o vs,h.get? b=some o/\o.data=.fields vs
theorem Rec.loc(I:Inv X pins σ H s){b:Addr}(r:Rec X pins H s.heap b):b≠X.env.locals:=fun z=>by
 obtain⟨o,vs,e,d⟩:=r.ob;obtain⟨m,⟨o',es,ep,e',d',_⟩,_⟩:=I.loc;rw[z,e'] at e;cases e;rw[d'] at d;cases d
def Rec.cel(I:Inv X pins σ H s){b:Addr}(r:Rec X pins H s.heap b):∀x c,X.env.cells.lookup x=some c->c≠b:=fun x c hc z=>by
 obtain⟨o,vs,e,d⟩:=r.ob;obtain⟨v,o',e',d'⟩:=I.cell x c hc;rw[z,e] at e';cases e';rw[d] at d';cases d'
theorem Rec.frs(I:Inv X pins σ H s){b:Addr}(r:Rec X pins H s.heap b):b∉frs X.stack:=fun z=>by
 obtain⟨o,vs,e,d⟩:=r.ob;obtain⟨_,o',e',d'⟩:=I.stack.mem z;rw[e] at e';cases e';exact d' vs d
def Inv.marks{ch:List Addr}{t':Nat}(I:Inv X pins σ H s)(hch:∀b∈ch,Rec X pins H s.heap b)
  (k1:∀b o,b∉frs X.stack->b∉ch->s.heap.get? b=some o->h'.get? b=some o)
  (k2:∀b o,b∉ch->s.heap.get? b=some o->∃sl,h'.get? b=some {o with slots:=sl}):Inv X pins σ H {s with heap:=h',toks:=t'}:=by
 have sub:∀b,b≠X.env.locals->b∉X.fs->b∉frs X.stack:=fun b h1 h2 z=>(zP.mp (I.stkSub b z)).elim h1 h2;have neL:∀b o,X.s₀.heap.get? b=some o->b≠X.env.locals:=fun b o e=>vI (vD (uN e) I.ok.above);have neC:∀b o,X.s₀.heap.get? b=some o->b∉ch:=fun b o e z=>by rw[(hch b z).nw] at e;cases e
 have cel:∀x c,X.env.cells.lookup x=some c->∀v,s.heap.IsCell c v->h'.IsCell c v:=fun x c e v ⟨o,ho,hd⟩=>by
  obtain⟨sl,q⟩:=k2 c o (fun z=>(hch c z).cel I x c e rfl) ho;exact⟨_,q,hd⟩
 refine⟨I.ok,I.os,I.bare,⟨fun b o e n hb hx=>k1 b o (sub b (neL b o e) hb) (neC b o e) (I.base.keep b o e n hb hx),fun b o e n hb hx=>?_,I.base.free,fun b o e hx=>?_,I.base.tups,I.base.frzs,I.base.tbls⟩,
  ?_,fun x c e=>?_,I.free,I.freeC,fun p hp=>?_,fun a o e=>?_,I.len⟩
 .obtain⟨sl,e1⟩:=I.base.slot b o e n hb hx;obtain⟨sl',e2⟩:=k2 b _ (neC b o e) e1;exact⟨sl',e2⟩
 .obtain⟨o',e1⟩:=I.base.there b o e hx;obtain⟨sl',e2⟩:=k2 b _ (neC b o e) e1;exact⟨_,e2⟩
 .obtain⟨m,hm,hl⟩:=I.loc;have hm':h'.Ns X.env.locals m:=by
   obtain⟨o,es,ep,e,r⟩:=hm;obtain⟨sl,q⟩:=k2 _ o (fun z=>(hch _ z).loc I rfl) e;exact⟨_,es,ep,q,r⟩
  refine⟨m,hm',fun i x v e1 e2 e3=>?_⟩;obtain⟨u,r,l⟩:=hl i x v e1 e2 e3;refine⟨u,r,?_⟩;rcases l with l|⟨k,c,e,z⟩
  .exact .inl l
  .exact .inr ⟨k,c,e,cel x c e _ z⟩
 .obtain⟨v,z⟩:=I.cell x c e;exact⟨v,cel x c e v z⟩
 .obtain⟨e,n,ne,nf,d⟩:=I.pin p hp;exact⟨k1 p.1 p.2 (sub p.1 ne nf) (fun z=>(hch p.1 z).pin p hp rfl) e,n,ne,nf,d⟩
 .refine(I.hok a o e).stay (fun b u hb q=>k1 b u ?_ ?_ q) (fun _ q=>q) fun _ _ q=>q
  .intro z;have n:=I.stkFree b z;rcases hb with rfl|hb
   .rw[n] at e;cases e
   .rw[n] at hb;cases hb
  .intro z;have n:=(hch b z).un;rcases hb with rfl|hb
   .rw[n] at e;cases e
   .rw[n] at hb;cases hb
def obj_there{P:uY}{w:vL}{H:Hp}(x:qbv P w H h a o):∃ob,h.get? a=some ob:=by
 cases o with
 |lst xs=>obtain⟨_,_,_,_,e⟩:=x;exact⟨_,e⟩
 |tup xs=>obtain⟨_,_,_,ob,e,_⟩:=x;exact⟨_,e⟩
 |dK kvs=>obtain⟨_,_,_,_,o,_,_,e,_⟩:=x;exact⟨_,e⟩
 |dT kvs=>obtain⟨_,_,_,_,o,_,_,e,_⟩:=x;exact⟨_,e⟩
 |set S n=>obtain⟨o,_,_,_,e,_⟩:=x;exact⟨_,e⟩
 |ins C dx fs=>obtain⟨_,_,_,e,_⟩:=x;exact⟨_,e⟩
 |own y=>exact x
 |xd fs=>obtain⟨_,⟨_,_,_,e,_⟩,_⟩:=x;exact⟨_,e⟩
 |rng lo hi=>obtain⟨_,_,_,e⟩:=x;exact⟨_,e⟩
 |frz ob u=>obtain⟨e,_⟩:=x;exact⟨_,e⟩
 |tbl ps=>exact⟨_,(show h.get? a=some _ from x)⟩
 |met f y=>exact⟨_,(show h.get? a=some _ from x)⟩
 |ext φ=>obtain⟨_,e,_⟩:=x;exact e
def un_of{P:uY}{w:vL}{H:Hp}(x:HOk P w H h)(e:h.get? a=none):H a=none:=by
 cases q:H a with
 |none=>rfl
 |some o=>obtain⟨ob,z⟩:=obj_there (x a o q);rw[e] at z;cases z
def qgg(I:Inv X pins σ H s)(hex:X.ex=[]){b:Addr}(e:s.heap.get? b=none):X.s₀.heap.get? b=none:=by
 cases q:X.s₀.heap.get? b with
 |none=>rfl
 |some o=>obtain⟨o',z⟩:=I.base.there b o q (by rw[hex];simp);rw[e] at z;cases z
def XNew(h:vQ)(e:Addr)(C:uB)(d:Option Addr):Prop:=
 ∃oe vs,h.get? e=some oe/\oe.cls=C/\oe.dict=d/\oe.data=.fields vs/\vs[1]?=some .none
def XTr(h:vQ)(e:Addr)(C:uB)(d:Option Addr)(fl:uB)(T:Addr):Prop:=
 ∃oe vs oT ts,h.get? e=some oe/\oe.cls=C/\oe.dict=d/\oe.data=.fields vs/\vs[1]?=some (.ref T)/\T≠e/\h.get? T=some oT/\oT.data=.fields ts/\ts[3]?=some fl
def XIn(X:Cx)(pins:List (Addr×Obj))(H:Hp)(h:vQ)(e:Addr)(C:uB)(d:Option Addr):Prop:=
 Rec X pins H h e/\(XNew h e C d\/∃T,Rec X pins H h T/\∃fl,XTr h e C d fl T)
def qf8(X:Cx)(pins:List (Addr×Obj))(H:Hp)(h:vQ)(e:Addr)(C:uB)(d:Option Addr)(fl:uB):Prop:=
 Rec X pins H h e/\∃T,Rec X pins H h T/\XTr h e C d fl T
def dict_mapF(f:Array uB->Array uB)(o:Obj):(o.mapFields f).dict=o.dict:=by
 obtain⟨c,d,dt,sl⟩:=o
 cases dt<;>rfl
def entry_x{M:Model}{A:vR}{E:uB->uC->Prop}{e:Addr}{C:uB}{d:Option Addr}{head:uB}{hadNext:Bool}{Q:Unit->uC->Prop}
  (I:Inv X pins σ H s)(hA:A.frames=some X.stack)(hst:X.stack=X.env::X.outer)(hf:X.env.frame=some X.env.locals)(r:Rec X pins H s.heap e)
  (ho:∃oe vs,s.heap.get? e=some oe/\oe.cls=C/\oe.dict=d/\oe.data=.fields vs/\1<vs.size)
  (h:∀s',Inv X pins σ H s'->qf8 X pins H s'.heap e C d (aJ X.env.locals)->Q () s'):
  uU M A (do let a<-frameOf X.env;let pl<-entryPlaceOf X.env.locals hadNext;let b<-EntryCells.newEntry head a .none (aJ X.env.locals) .none pl;setField (.ref e) 1 b) Q E s:=by
 obtain⟨oe,vs,he,hc,hdd,hd,hsz⟩:=ho;have hl:=I.stack;rw[hst] at hl hA;have ne:e∉L2.frs X.stack:=r.frs I;refine uE (wpAny_frameOf_fun hA hl hf fun h₁ hs₁=>uE (wpAny_entryPlaceOf fun pl hpl=>?_));unfold EntryCells.newEntry newFields;refine uE (fH ?_ (hpl.sizeOk5 _ _ _ _ _));rw[<-hst] at hs₁;have he1:h₁.get? e=some oe:=(hs₁.2.1 e ne).trans he;generalize hN:({cls:=.type "traceback",dict:=none,data:=.fields ([head,.ref X.env.locals,.none,aJ X.env.locals,.none]++(if pl.isEmpty then vZ 6 wJ else pl)).toArray}:Obj)=N;have he2:(h₁.push N).get? e=some oe:=uD _ he1;refine wpAny_setField he2 hd hsz (h _ ?_ ?_)
 .refine Inv.marks (s:=s) (ch:=[e]) (t':=s.toks) I (fun b hb=>by rw[zE.mp hb];exact r) (fun b o h1 h2 q=>?_) fun b o h2 q=>?_
  .have hb:b≠e:=fun z=>h2 (by simp[z]);rw[xB _ _ (xK hb)];exact uD _ ((hs₁.2.1 b h1).trans q)
  .have hb:b≠e:=fun z=>h2 (by simp[z]);obtain⟨sl,q1⟩:=hs₁.2.2 b o q;exact⟨sl,by rw[xB _ _ (xK hb)];exact uD _ q1⟩
 .have sz1:h₁.objs.size=↑s:=hs₁.1;have hTe:h₁.objs.size≠e:=wV (uN he1);have d3:=Obj.data_mapFields hd (·.setIfInBounds 1 (uP h₁.objs.size));have e3:=Heap.get?_update_self (aF (·.setIfInBounds 1 (uP h₁.objs.size))) he2 (Obj.isFreed_of_fields d3);have nf:N.isFreed=false:=by rw[<-hN];rfl
  have t3:=(xB (h₁.push N) (aF (·.setIfInBounds 1 (uP h₁.objs.size))) (xK hTe)).trans (vC h₁ nf);have rT:Rec X pins H ((h₁.push N).update e (aF (·.setIfInBounds 1 (uP h₁.objs.size)))) h₁.objs.size:=by
   refine⟨yS (by rw[sz1];exact I.sz),I.hok.fresh (by rw[sz1];exact uG _),fun p hp z=>?_,⟨N,_,t3,by rw[<-hN]⟩⟩;obtain⟨q,_⟩:=I.pin p hp;have w:=uN q;rw[z,sz1] at w;exact absurd w (wK _)
  refine⟨⟨r.nw,r.un,r.pin,⟨_,_,e3,d3⟩⟩,h₁.objs.size,rT,_,_,N,_,e3,(Obj.cls_mapFields _ _).trans hc,?_,d3,by simp[hsz],hTe,t3,by rw[<-hN],?_⟩
  .rw[<-hdd];exact dict_mapF _ _
  .first|(simp;done) |(rcases hpl with rfl|⟨_,_,_,_,_,_,_,rfl⟩<;>simp)
def note_x{M:Model}{A:vR}{E:uB->uC->Prop}{e:Addr}{C:uB}{d:Option Addr}{Q:Unit->uC->Prop}
  (I:Inv X pins σ H s)(hA:A.frames=some X.stack)(hst:X.stack=X.env::X.outer)(hf:X.env.frame=some X.env.locals)(x:XIn X pins H s.heap e C d)
  (h:∀s',Inv X pins σ H s'->qf8 X pins H s'.heap e C d (aJ X.env.locals)->Q () s'):uU M A (noteFrame (.ref e) X.env) Q E s:=by
 obtain⟨r,x⟩:=x;unfold noteFrame;simp only[hf];rcases x with⟨oe,vs,he,hc,hdd,hd,h1⟩|⟨T,rT,fl,oe,vs,oT,ts,he,hc,hdd,hd,h1,hTe,hT,hdT,h3⟩
 .refine uE (cE he hd h1 ?_);rw[gI ∅];exact entry_x I hA hst hf r ⟨oe,vs,he,hc,hdd,hd,(yW.mp h1).1⟩ h
 .refine uE (cE he hd h1 ?_);rw[gJ (show(uP T !=wJ)=true from by simp)];refine uE (cE hT hdT h3 ?_);by_cases qf:(fl==aJ X.env.locals)=true
  .rw[gJ qf];have ef:fl=aJ X.env.locals:=eq_of_beq qf;rw[ef] at h3;exact uW (h s I ⟨r,T,rT,oe,vs,oT,ts,he,hc,hdd,hd,h1,hTe,hT,hdT,h3⟩)
  .rw[gI qf];refine uE (wpAny_setField hT hdT (yW.mp h3).1 ?_);have oth:∀b,b≠T->(s.heap.update T (aF (·.setIfInBounds 3 wJ))).get? b=s.heap.get? b:=fun b hb=>xB _ _ (xK hb);have J:Inv X pins σ H {s with heap:=s.heap.update T (aF (·.setIfInBounds 3 wJ))}:=
    Inv.marks (s:=s) (ch:=[T]) (t':=s.toks) I (fun b hb=>by rw[zE.mp hb];exact rT) (fun b o _ h2 q=>(oth b fun z=>h2 (by simp[z])).trans q) fun b o h2 q=>⟨o.slots,(oth b fun z=>h2 (by simp[z])).trans q⟩
   have he':=(oth e (xK hTe)).trans he;exact entry_x J hA hst hf ⟨r.nw,r.un,r.pin,⟨oe,vs,he',hd⟩⟩ ⟨oe,vs,he',hc,hdd,hd,(yW.mp h1).1⟩ h
def qh2(fr:Option Addr){M:Model}{A:vR}{E:uB->uC->Prop}{e:Addr}{C fl:uB}{d:Option Addr}{Q:Unit->uC->Prop}
  (I:Inv X pins σ H s)(x:qf8 X pins H s.heap e C d fl)
  (h:∀s',Inv X pins σ H s'->qf8 X pins H s'.heap e C d (fr.elim wJ fun f=>aJ f)->Q () s'):uU M A (gE (.ref e) fr) Q E s:=by
 obtain⟨r,T,rT,oe,vs,oT,ts,he,hc,hdd,hd,h1,hTe,hT,hdT,h3⟩:=x;have hsz:=(yW.mp h3).1;unfold gE;refine uE (cE he hd h1 ?_);rw[gJ (show(uP T !=wJ)=true from by simp)];refine wpAny_setField hT hdT hsz (h _ ?_ ?_)
 all_goals have oth:∀b,b≠T->(s.heap.update T (aF (·.setIfInBounds 3 (fr.elim wJ fun f=>aJ f)))).get? b=s.heap.get? b:=fun b hb=>xB _ _ (xK hb)
 .exact Inv.marks (s:=s) (ch:=[T]) (t':=s.toks) I (fun b hb=>by rw[zE.mp hb];exact rT) (fun b o _ h2 q=>(oth b fun z=>h2 (by simp[z])).trans q) fun b o h2 q=>⟨o.slots,(oth b fun z=>h2 (by simp[z])).trans q⟩
 .have he':=(oth e (xK hTe)).trans he;have d3:=Obj.data_mapFields hdT (·.setIfInBounds 3 (fr.elim wJ fun f=>aJ f));have hT':=Heap.get?_update_self (aF (·.setIfInBounds 3 (fr.elim wJ fun f=>aJ f))) hT (Obj.isFreed_of_fields d3);exact⟨⟨r.nw,r.un,r.pin,⟨oe,vs,he',hd⟩⟩,T,⟨rT.nw,rT.un,rT.pin,⟨_,_,hT',d3⟩⟩,oe,vs,_,_,he',hc,hdd,hd,h1,hTe,hT',d3,by simp[hsz]⟩
def flight_x{M:Model}{A:vR}{E:uB->uC->Prop}{e:Addr}{C fl:uB}{d:Option Addr}{Q:Unit->uC->Prop}
  (I:Inv X pins σ H s)(x:qf8 X pins H s.heap e C d fl)
  (h:∀s',Inv X pins σ H s'->qf8 X pins H s'.heap e C d .none->Q () s'):uU M A (gE (.ref e) none) Q E s:=qh2 none I x h
def qf8.xin{e:Addr}{fl:uB}(x:qf8 X pins H h e C d fl):XIn X pins H h e C d:=
 let ⟨r,T,rT,q⟩:=x
 ⟨r,.inr ⟨T,rT,_,q⟩⟩
def qf8.xinL{e:Addr}(x:qf8 X pins H h e C d (aJ X.env.locals)):XIn X pins H h e C d:=x.xin
def CX1(P:uY)(w:vL):CXT:=fun outer H s E e s'=>∃(a:Addr)(C:uB)(d:Option Addr)(H':Hp),e=.ref a/\s'.os=s.os/\cC s'.gens/\Un (L2.frs outer) [] H H' s.heap s'.heap/\HOk P w H' s'.heap/\
 s.heap.get? a=none/\H' a=none/\(∃T,s.heap.get? T=none/\H' T=none/\XTr s'.heap a C d .none T)/\E C d H'
def Xes(X:Cx)(W:L2.St->XK):Prop:=∀(pins:List (Addr×Obj))(σ:L2.St)(H:Hp)(s:uC)(a:Addr)(C:uB)(d:Option Addr),Inv X pins σ H s->XIn X pins H s.heap a C d->W σ C d H->X.xe (.ref a) s
def xes_call(h:Xes X W)(hex:X.ex=[]){e:uB}{s':uC}(I:Inv X pins σ H s)(q:CX1 X.prog X.w X.stack H s (W σ) e s'):X.xe e s':=by
 obtain⟨a,C,d,H',rfl,os,bare,un,hok,la,na,⟨T,lT,nT,x⟩,w⟩:=q;have J:Inv X pins σ H' s':=I.call' (ch:=[]) os un hok bare (fun b z=>absurd z (by simp));have pn:∀b,s.heap.get? b=none->∀p∈X.pn++pins,p.1≠b:=fun b lb p hp z=>by
  have w:=(I.pin p hp).1;rw[z,lb] at w
  cases w
 obtain⟨oe,vs,oT,ts,he,hc,hdd,hd,h1,hTe,hT,hdT,h3⟩:=id x;exact h pins σ H' s' a C d J ⟨⟨qgg I hex la,na,pn a la,⟨oe,vs,he,hd⟩⟩,.inr ⟨T,⟨qgg I hex lT,nT,pn T lT,⟨oT,ts,hT,hdT⟩⟩,_,x⟩⟩ w
end
section
variable{X:Cx}{pins:List (Addr×Obj)}{σ:L2.St}{H:Hp}{s:uC}{W:L2.St->XK}
def XSt(X:Cx)(W:L2.St->XK)(e:uB)(s:uC):Prop:=∃(a:Addr)(C:uB)(d:Option Addr)(σ:L2.St)(H:Hp),e=.ref a/\Inv X [] σ H s/\XIn X [] H s.heap a C d/\W σ C d H
abbrev xw(X:Cx)(W:L2.St->XK):Cx:=X.wish (XSt X W)
def Rec.less{b:Addr}(r:Rec X pins H h b):Rec X [] H h b:=⟨r.nw,r.un,fun p hp=>r.pin p (by rw[zY] at hp;exact zQ _ hp),r.ob⟩
theorem XIn.less(x:XIn X pins H h a C d):XIn X [] H h a C d:=by
 obtain⟨r,x⟩:=x;rcases x with x|⟨T,rT,x⟩
 .exact⟨r.less,.inl x⟩
 .exact⟨r.less,.inr ⟨T,rT.less,x⟩⟩
def Rec.unwish{E:uB->uC->Prop}{b:Addr}(r:Rec (X.wish E) pins H h b):Rec X pins H h b:=⟨r.nw,r.un,r.pin,r.ob⟩
theorem XIn.unwish{E:uB->uC->Prop}(x:XIn (X.wish E) pins H h a C d):XIn X pins H h a C d:=by
 obtain⟨r,x⟩:=x;rcases x with x|⟨T,rT,x⟩
 .exact⟨r.unwish,.inl x⟩
 .exact⟨r.unwish,.inr ⟨T,rT.unwish,x⟩⟩
def qaq:Xes (xw X W) W:=fun pins σ H s a C d I x w=>⟨a,C,d,σ,H,rfl,I.unwish.pins_of (fun _ z=>nomatch z),x.unwish.less,w⟩
def qbi(hst:X.stack=X.env::X.outer)(hf:X.env.frame=some X.env.locals):PassesOwn (uV X.prog X.w) X.A X.env (XSt X W):=by
 rintro e s' ⟨a,C,d,σ,H,rfl,I,x,w⟩;show uU _ _ (noteFrame (.ref a) X.env) _ _ s';refine note_x I I.ok.frames hst hf x fun s2 I2 x2=>?_;obtain⟨r,T,rT,oe,vs,oT,ts,he,hc,hdd,hd,h1,r2⟩:=id x2;unfold cameBackBy;refine uE (cE he hd h1 ?_);have fin:uU (uV X.prog X.w) X.A (gE (.ref a) X.env.frame) (fun _ s''=>XSt X W (.ref a) s'') (XSt X W) s2:=by
  rw[hf];exact qh2 (some X.env.locals) I2 x2 fun s3 I3 x3=>⟨a,C,d,σ,H,rfl,I3,qf8.xinL x3,w⟩
 first
  |(rw[gI (show ¬((uP T==wJ)=true) from by simp)];exact fin)
  |(rw[gI (show ¬((uP T==wJ)=true) from by simp)];exact uE (uW fin))
  |(refine uE ?_;rw[gI (show ¬((uP T==wJ)=true) from by simp)];exact uW fin)
def PSs.xes{st:List Stmt}{t:TS}(hx:Xes X W)(h:PSs (xw X W) st t):PSs X st t:=fun pins s σ H D I hw=>
 vS (h pins s σ H D (I.wish _) hw) (fun _ _ q=>q.unwish) fun _ _ ⟨a,C,d,σ',H',e,I',x,w⟩=>by subst e;exact hx [] σ' H' _ a C d I' x w
end
section
variable{P:uY}{w:vL}{K:uS}{mg:Str->Option uB}{base:vQ}
def xes_fn{N:List Str}{qual:Str}{scope:xF}{f:Addr}{cd:uB}{A:vR}{outer:List Env}{s:uC}{H:Hp}{E:XK}:
  Xes (cxOf (CX1 P w) P w K mg base N qual scope f cd A outer s H E) (fun _=>E):=by
 intro pins σ H1 s1 a C d I x wE;show uU _ _ (leaving _ _) _ _ s1;unfold leaving;refine uE (note_x I I.ok.frames rfl rfl x fun s2 I2 x2=>flight_x I2 x2 fun s3 I3 x3=>?_);obtain⟨r,T,rT,xt⟩:=x3;exact⟨a,C,d,H1,rfl,I3.os,I3.bare,I3.base,I3.hok,r.nw,r.un,⟨T,rT.nw,rT.un,xt⟩,wE⟩
def okX{x qual:Str}{st:Stmt}{f:Addr}{fd:uK}{N ps:List Str}{k:Nat}{sp:Sp}(F:Fun K x qual st f fd)(S:FnScope N ps (qa8 st))(len:∀vs H Q E,sp vs H Q E->vs.length=ps.length)
  (hbody:∀(cdv:uB)(A:vR)(outer:List Env)(s:uC)(H:Hp)(vs:List V)(Q:VK)(E:XK),Room k (A.deeper (aC qual (qa8 st) ↑s f cdv))->sp vs H Q E->
   ∃t,PSs (xw (cxOf (CX1 P w) P w K mg base N qual (qa8 st) f cdv A outer s H E) (fun _=>E)) (qbw st) t/\t {nx:=fun _ H'=>Q .non H',rt:=Q} (start N vs) H):FnOk P w K mg base (CX1 P w) (k+1) f fd ps sp:=by
 obtain⟨oc,od,kV,doc,pm,an,cdv,ct,osl,rfl,lk,hcd⟩:=F.ex;refine fn_of lk hcd S len fun A outer s H vs Q E hr hsp=>?_;obtain⟨t,ht,q⟩:=hbody cdv A outer s H vs Q E hr hsp;exact⟨t,PSs.xes xes_fn ht,q⟩
end
section
variable{X:Cx}{k:Nat}{f:Addr}{fd:uK}{ps:List Str}{sp:Sp}{dvs:List V}{ds:List uB}{W:L2.St->XK}{x:Str}{p pos:Pos}{e:vV}{es:List vV}{t:TA}
def tCallX(sp:Sp)(dvs:List V)(W:L2.St->XK)(t:TA):TE:=fun σ H Q=>t σ H fun vs H1=>sp (vs++dvs) H1 Q (W σ)
def run_fnX{pins:List (Addr×Obj)}{σ:L2.St}{H:Hp}{s:uC}{Q:VK}{us:List uB}{vs:List V}(F:FnOk X.prog X.w X.K X.mg X.base (CX1 X.prog X.w) k f fd ps sp)(hr:Room k X.A)(hb:qam X.K fd ps ds)(hd:qbk dvs ds)(hx:Xes X W)(hex:X.ex=[])
  (I:Inv X pins σ H s)(r:qbk vs us)(h:sp (vs++dvs) H Q (W σ)):uU (uV X.prog X.w) X.A (call (.ref f) us) (EP X pins σ Q) X.xe s:=by
 have r2:qbk (vs++dvs) (us++ds):=r.append hd;have hl:(us++ds).length=ps.length:=by rw[<-r2.length];exact F.len _ _ _ _ h
 refine yV (xA (F.run X.A X.stack s H ⟨us,[]⟩ (us++ds) (vs++dvs) Q (W σ) hr I.env0 (hb s us I.kIn hl) r2 h) fun r s' hq=>?_)
 match r,hq with
 | .error e,hq=>exact xes_call hx hex I hq
 | .ok (.ret u),hq=>exact I.after hq
 | .ok .next,hq=>exact vO hq
 | .ok .brk,hq=>exact vO hq
 | .ok .cont,hq=>exact vO hq
def qav(F:FnOk X.prog X.w X.K X.mg X.base (CX1 X.prog X.w) k f fd ps sp)(hr:Room k X.A)(hg:Gl X x)(hm:X.mg x=some (.ref f))(hk:bN X.K (.ref f)=true)(hb:qam X.K fd ps ds)(hd:qbk dvs ds)(hx:Xes X W)
  (ha:PA X (e::es) t)(hex:X.ex=[]:=by rfl)(hdb:(x==("__debug__":Str))=false:=by decide)(he:uZ (e::es) X.env=(false,wL e X.env)::uZ es X.env:=by rfl)(hpl:(wP pos (uZ es X.env)).any (·.1)=false:=by rfl):
  PE X (.Call (.Name x p) (e::es) [] pos) (tCallX sp dvs W t):=by
 intro pins s σ H Q I h;refine wU (qdn I hg hm ?_ hdb);refine xD (h₀:=X.base) I.ok.mod.kin hk (thn (ha pos pins s σ H _ I h) fun us s1 ⟨vs,H1,I1,r,q⟩=>⟨I1.kIn,?_⟩) he hpl;exact run_fnX F hr hb hd hx hex I1 r q
end
structure XCls(K:uS)(C:Addr):Prop where
 ob:∃(nm q:Str)(N:Addr)(bs bm:List uB)(hdct:Bool)(sn:List Str)(sub:List uB)(ab:Bool)(col:Option Bool)(dd:Option Addr)(k0 k1 k2 k3 k5:Option uB)(mN:Str->Option uB),
  K.lookup C=some (bM nm q C N bs bm hdct sn sub ab col dd k0 k1 k2 k3 k5 "ValueError.__new__")/\(∀h:vQ,K.In h->h.Ns N mN)/\mN "__init__"=none/\
  ∀h:vQ,K.In h->OwnTail h [.type "ValueError",.type "Exception",.type "BaseException",.type "object"] bm
section
variable{X:Cx}{x:Str}{C:Addr}{W:L2.St->XK}{np cpos pos:Pos}{e:vV}{es:List vV}{t:TA}
def tRaise(t:TA)(C:Addr)(W:L2.St->XK):TS:=fun _ σ H=>t σ H fun xs H1=>xs.length<=sizeLine/\W σ (.ref C) none H1
def qc9(hc:X.calm=true)(M:XCls X.K C)(hg:Gl X x)(hm:X.mg x=some (.ref C))(hx:Xes X W)(ha:PA X (e::es) t)(hex:X.ex=[]:=by rfl)(hdb:(x==("__debug__":Str))=false:=by decide)
  (he:uZ (e::es) X.env=(false,wL e X.env)::uZ es X.env:=by rfl) (hpl:(wP cpos (uZ es X.env)).any (·.1)=false:=by rfl):
  PS X (.Raise (some (.Call (.Name x np) (e::es) [] cpos)) none pos) (tRaise t C W):=by
 intro pins s σ H D I h;obtain⟨nm,q,N,bs,bm,hdct,sn,sub,ab,col,dd,k0,k1,k2,k3,k5,mN,hC,hN,hni,T⟩:=M.ob;refine wpAny_Raise_call_subU (C:=C) (nm:=nm) (q:=q) (N:=N) (bs:=bs) (bm:=bm) (hdct:=hdct) (sn:=sn) (sub:=sub) (ab:=ab) (col:=col) (dd:=dd) (k0:=k0) (k1:=k1) (k2:=k2) (k3:=k3) (k5:=k5)
  yX ∅ yX (mN:=mN) ((T _ I.kIn).hasType PySem.F.excBase_ValueError.hasBase) (I.ok.hd hc) ?_ hni ?_
 .rw[he];show(false ||(wP cpos (uZ es X.env)).any (·.1))=false;rw[hpl];rfl
 .refine qdn I hg hm ⟨rfl,?_⟩ hdb;have z:=ha cpos pins s σ H _ I h;rw[he] at z⊢;refine bL (vS z (fun us s2 ⟨vs,H2,I2,r,hl,q⟩=>⟨rfl,by rw[<-r.length];exact hl,I2.kIn _ _ hC,hN _ I2.kIn,T _ I2.kIn,fun h' a m=>?_⟩) fun _ _ y=>y);obtain⟨tp,ea,_,_⟩:=m.there;have J:Inv X pins σ H2 {s2 with heap:=h'}:=I2.kept (t':=s2.toks) m.keeps;refine hx pins σ H2 _ a (.ref C) none J ⟨⟨qgg I2 hex m.new,un_of I2.hok m.new,fun p hp y=>?_,⟨_,_,ea,rfl⟩⟩,.inl ⟨_,_,ea,rfl,rfl,rfl,rfl⟩⟩ q;have w:=(I2.pin p hp).1;rw[y,m.new] at w
  cases w
end
section
variable{X:Cx}{pins:List (Addr×Obj)}
abbrev pnd(X:Cx)(pins:List (Addr×Obj)):Cx:={X with pn:=X.pn++pins}
abbrev suite(X:Cx)(a:Addr):Cx:={X with A:=X.A.mark (some (.ref a)),calm:=false,xe:=fun _ _=>False}
def XO(a:Addr)(C:uB)(d:Option Addr):HO:=.ext fun h=>∃(oe:Obj)(vs:Array uB),h.get? a=some oe/\oe.cls=C/\oe.dict=d/\oe.data=.fields vs
end
section
variable{X:Cx}
def tCut(t:TS):TS:=fun D σ H=>∃J:L2.St->Hp->Prop,t {D with nx:=J} σ H/\∀σ' H',J σ' H'->D.nx σ' H'
def qdc{st:Stmt}{t:TS}(h:PS X st t):PS X st (tCut t):=by
 intro pins s σ H D I ⟨J,hw,k⟩;refine vS (h pins s σ H _ I hw) (fun f s' q=>?_) fun _ _ z=>z
 cases f with
 |next=>obtain⟨σ',H',I',z⟩:=q;exact⟨σ',H',I',k _ _ z⟩
 |brk=>exact q
 |cont=>exact q
 |ret u=>exact q
end
def qdg{K:uS}{C:Addr}(q:fB K C [.type "ValueError",.type "Exception",.type "BaseException",.type "object"] "ValueError.__new__"=true):XCls K C:=by
 unfold fB at q
 split at q
 .rename_i dd cd sl ho
  split at q
  .rename_i C' bm k0 k1 k2 k3 n k5 hm hs;simp only[wH,beq_iff_eq,cF] at q;obtain⟨⟨⟨⟨⟨rfl,rfl⟩,hdel⟩,ht⟩,hok⟩,hni⟩:=q;obtain⟨nm,bs,mro,ns,qn,hd,sn,sub,ab,col,del⟩:=cd;dsimp only at hm hdel hok hni;subst hm hdel;have hsl:sl= #[k0,k1,k2,k3,some (.builtin "ValueError.__new__"),k5]:=by
    obtain⟨l⟩:=sl;simp only at hs;rw[hs]
   subst hsl;unfold PySem.W.nsOkIn at hok
   split at hok
   .rename_i c1 d1 es ep sl1 hN;have hSK:StrKeys es:=fun e he=>by
     have z:=fO.mp hok e he
     split at z
     .rename_i n t q;exact⟨n,t,q⟩
     .cases z
    have hNs:∀h:vQ,K.In h->h.Ns ns (fun x=>eP es x):=fun h X=>⟨_,es,ep,X _ _ hN,rfl,hSK,fun _=>rfl⟩;refine⟨nm,qn,ns,bs,bm,hd,sn,sub,ab,col,dd,k0,k1,k2,k3,k5,fun x=>eP es x,ho,hNs,?_,fun h X=>PySem.W.tail_of_in X ht⟩;unfold xO at hni;rw[hN] at hni;dsimp only at hni
    split at hni
    .cases hni
    .rename_i hf;show eP es "__init__"=none;unfold eP findBy;rw[<-eQ,hf];rfl
   .cases hok
  .cases q
 .cases q
def TyX(K:uS)(H:Hp)(x:V)(t:uB)(b:Bool):Prop:=TyOf K H x t\/∃(a:Addr)(d:Option Addr),x=.ref a/\H a=some (XO a t d)/\b=true
def rIsi(K:uS):List V->Hp->VK->Prop:=fun xs H Q=>∃(x c:V)(u t:uB)(b:Bool),xs=[x,c]/\qb8 c u/\(∀u',qb8 c u'->u'=u)/\TyX K H x t b/\bO K t u=some b/\Q (.bl b) H
def isi_yes{prog:uY}{w:vL}{A:vR}{E:uB->uC->Prop}{s:uC}{Q:uB->uC->Prop}{K:uS}{a:Addr}{t c:uB}(KX:K.In s.heap)(hp:∃o,s.heap.get? a=some o/\o.cls=t)(e:bO K t c=some true)
  (h:Q (.bool true) s):uU (uV prog w) A (call (.builtin "isinstance") [.ref a,c]) Q E s:=by
 refine call_isinstance_of ?_ (by intro q;cases q);obtain⟨h0,g,d,tt,os⟩:=s;obtain⟨o,ho,hc⟩:=hp;have LT:cL (uV prog w) h0 (typeOf (.ref a)) t:=hc▸(PySem.W.Looks.ld ho).andThen .now;unfold bO at e;unfold aG.«isinstance.nested»;refine uE (LT.at ?_);by_cases q:(t==c)=true
 .rw[gJ q]
  first
   |exact uE (wpAny_rule (uW h))
   |exact uE (wpAny_rule h)
 .rw[gI q] at e;rw[gI q];obtain⟨hty,his,hsub⟩:=PySem.W.kit_cls (M:=uV prog w) KX e;have LI:cL (uV prog w) h0 (isInstance (.ref a) c) true:=LT.andThen hsub;refine uE (hty.at ?_);rw[gJ ∅]
  k_delta "plainIsInstance"
  refine uE (uE (his.at ?_));simp only[Bool.not_true,eU,if_false];refine uE (LI.at ?_)
  first
   |exact uW (uW h)
   |(simp only[if_true];first|exact uW (uW h) |exact uW h|exact uE (uW (uW h)))
def qfj:Xes X (fun _ _ _ _=>False):=fun _ _ _ _ _ _ _ _ _ w=>w.elim
section
variable{X:Cx}
def qbm:qcr X (.builtin "isinstance") (rIsi X.K):=by
 intro pins s σ H xs us Q I hv h;obtain⟨x,c,u,t,b,rfl,hu,hu',ty,e,q⟩:=h
 cases hv with
 |cons r1 hv=>
  cases hv with
  |cons r2 hv=>
   cases hv
   rename_i v1 v2;rw[hu' v2 r2];rcases ty with ty|⟨a,d,rfl,ea,rfl⟩
   .exact isinst_ok I r1 ty e fun tk=>⟨.bl b,H,I.tok tk,rfl,q⟩
   .cases r1
    obtain⟨⟨oe,vs,h1,h2,_⟩,_⟩:=(show qbv X.prog X.w H s.heap a (XO a t d) from I.hok a _ ea);exact isi_yes I.kIn ⟨oe,h1,h2⟩ e ⟨.bl true,H,I,rfl,q⟩
def rIsT:R2:=fun x y H Q=>y=.bl true/\((∃b,x=.bl b)\/x=.non)/\Q (.bl (decide (x=.bl true))) H
def rIsN:R2:=fun x y H Q=>y=.non/\Q (.bl (decide (x=.non))) H
def rNotN:R2:=fun x y H Q=>y=.non/\Q (.bl (!decide (x=.non))) H
def rAbs:List V->Hp->VK->Prop:=fun xs H Q=>∃i,xs=[.int i]/\Q (.int (if i<0 then -i else i)) H
def rLen(K:uS):List V->Hp->VK->Prop:=fun xs H Q=>∃p ys,xs=[.ref p]/\(SqL K H p ys\/SqT K H p ys)/\Q (.int ys.length) H
def qg9:qcr X (.builtin "abs") rAbs:=call_abs
def qba:qcr X (.builtin "len") (rLen X.K):=call_len_seq
def qgv:OpR X (wG .Is) rIsN:=op_isN
def qek:OpR X (wG .IsNot) rNotN:=op_notN
def op_isT:OpR X (wG .Is) rIsT:=by
 intro pins s σ H x y v u Q I rx ry h;obtain⟨rfl,hx,q⟩:=h
 cases ry
 rcases hx with⟨b,rfl⟩|rfl
 .cases rx
  refine is_bool ⟨_,H,I,?_,q⟩
  cases b<;>rfl
 .cases rx
  exact wpAny_is_other ∅ (by intro z;cases z) ⟨.bl false,H,I,rfl,q⟩
end
section
variable{K:uS}{H:Hp}{Q:VK}
def r_isi{x:V}{T:String}{t:uB}{b:Bool}(ty:TyOf K H x t)(e:bO K t (.type T)=some b)(h:Q (.bl b) H):rIsi K [x,.ty T] H Q:=⟨x,_,_,t,b,rfl,rfl,fun _ z=>z,.inl ty,e,h⟩
end
section
variable{K:uS}
def kit_int_int:bO K (.type "int") (.type "int")=some true:=by rfl
def kit_int_bool:bO K (.type "int") (.type "bool")=some false:=by rfl
def qgz:bO K (.type "bool") (.type "bool")=some true:=by rfl
def kit_str_str:bO K (.type "str") (.type "str")=some true:=by rfl
def kit_lst_lst:bO K (.type "list") (.type "list")=some true:=by rfl
def kit_tup_tup:bO K (.type "tuple") (.type "tuple")=some true:=by rfl
def kit_dct_dct:bO K (.type "dict") (.type "dict")=some true:=by rfl
end
section
variable{K:uS}{σ σ':L2.St}{H H1:Hp}{Q:VK}{D:Ends}{ta tb te:TE}{t u:TS}{c c':TT}{ar:TA}{v x y:V}{i j:Nat}
def qac{N:List Str}{vs:List V}(e:start N vs=σ)(h:t D σ H):t D (start N vs) H:=e▸h
def r_var(e:σ[i]?=some (some v))(h:Q v H):tVar i σ H Q:=⟨v,e,h⟩
def r_c(h:Q v H):tC v σ H Q:=h
def r_op{r:R2}(h:ta σ H fun x H1=>tb σ H1 fun y H2=>r x y H2 Q):tOp r ta tb σ H Q:=h
def r_un{r:V->Hp->VK->Prop}(h:ta σ H fun x H1=>r x H1 Q):tUn r ta σ H Q:=h
def r_I0{g:Int->Int->V}{i j:Int}(h:Q (g i j) H):rI0 g (.int i) (.int j) H Q:=⟨i,j,rfl,rfl,h⟩
def r_I{C:Int->Int->Prop}{g:Int->Int->V}{i j:Int}(hc:C i j)(h:Q (g i j) H):rI C g (.int i) (.int j) H Q:=⟨i,j,rfl,rfl,hc,h⟩
def r_U{g:Int->V}{i:Int}(h:Q (g i) H):rU g (.int i) H Q:=⟨i,rfl,h⟩
def r_eqI{i j:Int}(h:Q (.bl (decide (i=j))) H):rEq (.int i) (.int j) H Q:=⟨rfl,by
 have e:decide (V.int i=V.int j)=decide (i=j):=by by_cases z:i=j<;>simp[z]
 rw[e];exact h⟩
def r_neI{i j:Int}(h:Q (.bl (!decide (i=j))) H):rNe (.int i) (.int j) H Q:=⟨rfl,by
 have e:decide (V.int i=V.int j)=decide (i=j):=by by_cases z:i=j<;>simp[z]
 rw[e];exact h⟩
def r_neS{i j:Str}(h:Q (.bl (!decide (i=j))) H):rNe (.str i) (.str j) H Q:=⟨rfl,by
 have e:decide (V.str i=V.str j)=decide (i=j):=by by_cases z:i=j<;>simp[z]
 rw[e];exact h⟩
def r_exb{b:Bool}{Q:Bool->Prop}(h:Q b):∃k,V.bl b=.bl k/\Q k:=⟨b,rfl,h⟩
def r_test{Q:Bool->Hp->Prop}(h:te σ H fun x H'=>∃k,x=.bl k/\Q k H'):tTest te σ H Q:=h
def r_tB{Q:Bool->Hp->Prop}(h:te σ H fun x H'=>∃k,x=.bl k/\Q k H'):tB te σ H Q:=h
def r_and{Q:Bool->Hp->Prop}(h:c σ H fun b H1=>if b=true then c' σ H1 Q else Q false H1):tAnd c c' σ H Q:=h
def r_or{Q:Bool->Hp->Prop}(h:c σ H fun b H1=>if b=true then Q true H1 else c' σ H1 Q):tOr c c' σ H Q:=h
def r_not{Q:Bool->Hp->Prop}(h:c σ H fun b H1=>Q (!b) H1):tNot c σ H Q:=h
def r_andV(h:ta σ H fun x H1=>∃k,x=.bl k/\if k=true then tb σ H1 Q else Q (.bl false) H1):tAndV ta tb σ H Q:=h
def r_notV(h:ta σ H fun x H1=>∃k,x=.bl k/\Q (.bl (!k)) H1):tNotV ta σ H Q:=h
def r_ifE(h:c σ H fun b H1=>if b=true then ta σ H1 Q else tb σ H1 Q):tIf c ta tb σ H Q:=h
def r_next(h:D.nx σ H):tNext D σ H:=h
def r_seq(h:t {nx:=u D,rt:=D.rt,bk:=D.bk,ct:=D.ct} σ H):tSeq t u D σ H:=h
def r_drop(h:te σ H fun _ H1=>D.nx σ H1):tDrop te D σ H:=h
def r_ret(h:te σ H D.rt):tRet te D σ H:=h
def r_if(h:c σ H fun b H1=>if b=true then t D σ H1 else u D σ H1):tIfS c t u D σ H:=h
def r_asg{g:TG}(h:te σ H fun x H1=>g x σ H1 D.nx):tAsg te g D σ H:=h
def r_name{Q:L2.St->Hp->Prop}(e:σ.set i (some v)=σ')(h:Q σ' H):qer i v σ H Q:=by subst e;exact h
def r_gnil{Q:L2.St->Hp->Prop}(h:Q σ H):gNil [] σ H Q:=⟨rfl,h⟩
def r_gcons{g:TG}{gs:TGs}{vs:List V}{Q:L2.St->Hp->Prop}(h:g v σ H fun σ' H'=>gs vs σ' H' Q):gCons g gs (v::vs) σ H Q:=⟨v,vs,rfl,h⟩
def r_gtup{n:Nat}{gs:TGs}{Q:L2.St->Hp->Prop}(hS:SqT K H a xs)(hn:xs.length=n)(h:gs xs σ H Q):gTup K n gs (.ref a) σ H Q:=⟨a,xs,rfl,hS,hn,h⟩
def r_par(h:ar σ H fun vs H1=>∃v w,vs=[v,w]/\D.nx ((σ.set i (some v)).set j (some w)) H1):tPar i j ar D σ H:=h
def r_two{v w:V}{Q:V->V->Prop}(h:Q v w):∃a b,[v,w]=[a,b]/\Q a b:=⟨v,w,rfl,h⟩
def r_nx{f b c:L2.St->Hp->Prop}{r:VK}(h:f σ H):Ends.nx {nx:=f,rt:=r,bk:=b,ct:=c} σ H:=h
def r_rt{f b c:L2.St->Hp->Prop}{r:VK}(h:r v H):Ends.rt {nx:=f,rt:=r,bk:=b,ct:=c} v H:=h
def r_nil{Q:List V->Hp->Prop}(h:Q [] H):tNil σ H Q:=h
def r_cons{Q:List V->Hp->Prop}(h:te σ H fun x H1=>ar σ H1 fun xs H2=>Q (x::xs) H2):tCons te ar σ H Q:=h
def r_tup(h:ar σ H fun xs H1=>xs.length<=sizeLine/\∀p,H1 p=none->Q (.ref p) (upd H1 p (.tup xs))):tTup ar σ H Q:=h
def r_lst(h:ar σ H fun xs H1=>xs.length<=sizeLine/\∀p,H1 p=none->Q (.ref p) (upd H1 p (.lst xs))):tLst ar σ H Q:=h
def r_new(hn:xs.length<=sizeLine)(h:A):xs.length<=sizeLine/\A:=⟨hn,h⟩
def r_call{sp:Sp}{E:XK}(h:ar σ H fun vs H1=>sp vs H1 Q E):tCall sp [] E ar σ H Q:=by
 have e:(fun vs H1=>sp (vs++[]) H1 Q E)=fun vs H1=>sp vs H1 Q E:=by funext vs H1;rw[zY]
 show ar σ H fun vs H1=>sp (vs++[]) H1 Q E;rw[e];exact h
def r_callX{sp:Sp}(h:ar σ H fun vs H1=>sp vs H1 Q (W σ)):tCallX sp [] W ar σ H Q:=by
 have e:(fun vs H1=>sp (vs++[]) H1 Q (W σ))=fun vs H1=>sp vs H1 Q (W σ):=by funext vs H1;rw[zY]
 show ar σ H fun vs H1=>sp (vs++[]) H1 Q (W σ);rw[e];exact h
def r_cb{r:List V->Hp->VK->Prop}(h:ar σ H fun vs H1=>r vs H1 Q):tCB r ar σ H Q:=h
def r_raise{C:Addr}(h:ar σ H fun xs H1=>xs.length<=sizeLine/\W σ (.ref C) none H1):tRaise ar C W D σ H:=h
def qce{k:Int}(hS:SqL K H p xs)(e:atI xs k=some v)(h:Q v H):rIxL K (.ref p) (.int k) H Q:=⟨p,xs,k,v,rfl,rfl,hS,e,h⟩
def r_ixT{k:Int}(hS:SqT K H p xs)(e:atI xs k=some v)(h:Q v H):rIxT K (.ref p) (.int k) H Q:=⟨p,xs,k,v,rfl,rfl,hS,e,h⟩
def r_fresh{R:Addr->Prop}(h:∀p,H p=none->R p):∀p,H p=none->R p:=h
def r_menu{xs:List Int}{r:Int}(hS:SqL K H p (xs.map V.int))(h0:0<=r)(h1:r<xs.length)(h:∀m,m∈xs->Q (.int m) H):rIxL K (.ref p) (.int r) H Q:=by
 have hk:r.toNat<xs.length:=by omega
 have ek:r=((r.toNat:Nat):Int):=by omega
 have q:atI (xs.map V.int) ((r.toNat:Nat):Int)=some (.int xs[r.toNat]):=qbu (by rw[zC,zB hk]<;>rfl);rw[<-ek] at q;exact⟨p,_,r,_,rfl,rfl,hS,q,h _ (zX hk)⟩
def qdy(h:t {nx:=D.nx,rt:=D.rt,bk:=D.bk,ct:=D.ct} σ H):tCut t D σ H:=⟨D.nx,h,fun _ _ z=>z⟩
def r_cut(J:L2.St->Hp->Prop)(h:t {nx:=J,rt:=D.rt,bk:=D.bk,ct:=D.ct} σ H)(k:∀σ' H',J σ' H'->D.nx σ' H'):tCut t D σ H:=⟨J,h,k⟩
def r_lenT{ys:List V}(hS:SqT K H p ys)(h:Q (.int ys.length) H):rLen K [.ref p] H Q:=⟨p,ys,rfl,.inr hS,h⟩
def r_lenL{ys:List V}(hS:SqL K H p ys)(h:Q (.int ys.length) H):rLen K [.ref p] H Q:=⟨p,ys,rfl,.inl hS,h⟩
def r_abs{i:Int}(h:Q (.int (if i<0 then -i else i)) H):rAbs [.int i] H Q:=⟨i,rfl,h⟩
def r_isNn(h:Q (.bl true) H):rIsN .non .non H Q:=⟨rfl,h⟩
def r_isNr(h:Q (.bl false) H):rIsN (.ref a) .non H Q:=⟨rfl,h⟩
def r_isNs{a:Str}(h:Q (.bl false) H):rIsN (.str a) .non H Q:=⟨rfl,h⟩
def r_notNn(h:Q (.bl false) H):rNotN .non .non H Q:=⟨rfl,h⟩
def r_notNi{a:Int}(h:Q (.bl true) H):rNotN (.int a) .non H Q:=⟨rfl,h⟩
def r_isTb{b:Bool}(h:Q (.bl b) H):rIsT (.bl b) (.bl true) H Q:=⟨rfl,.inl ⟨b,rfl⟩,by
 have e:decide (V.bl b=V.bl true)=b:=by cases b<;>simp
 rw[e];exact h⟩
end
section
variable{K:uS}{σ:L2.St}{H:Hp}{D:Ends}{wi:TI}{g:TG}{tb:TS}{tl:TE}{ta:TA}
def FOR(J:It)(g:TG)(tb:TS)(D:Ends)(σ:L2.St)(H:Hp):Prop:=∃W:Nat->Nat->L2.St->Hp->Prop,(∃m,W 0 m σ H)/\∀i m σ H,W i m σ H->
 (J.stop i H/\D.nx σ H)\/(J.go i H/\∃N:L2.St->Hp->Prop,(∀σ' H',N σ' H'->∃m',m'<m/\W (i+1) m' σ' H')/\∀x H',J.yld i H x H'->g x σ H' fun σ2 H2=>tb {D with nx:=N,ct:=N,bk:=D.nx} σ2 H2)
def rItL(K:uS)(x:V)(H:Hp)(R:It->Hp->Prop):Prop:=∃a,x=.ref a/\(∃xs,SqL K H a xs)/\R (Itl K a) H
def rItR(vs:List V)(H:Hp)(R:It->Hp->Prop):Prop:=∃j:Int,vs=[.int j]/\-(2^62)<=j/\j<2^62/\R (Itr 0 j.toNat) H
def r_for(h:wi σ H fun J H1=>FOR J g tb D σ H1):tFor wi g tb D σ H:=h
def r_iL(h:tl σ H fun x H1=>rItL K x H1 R):iList K tl σ H R:=h
def r_iR(h:ta σ H fun vs H1=>rItR vs H1 R):iRng1 ta σ H R:=h
def r_itL(hS:SqL K H a xs)(h:R (Itl K a) H):rItL K (.ref a) H R:=⟨a,rfl,⟨xs,hS⟩,h⟩
def r_itR{j:Int}(h0: -(2^62)<=j)(h1:j<2^62)(h:R (Itr 0 j.toNat) H):rItR [.int j] H R:=⟨j,rfl,h0,h1,h⟩
def qbs{a:Addr}{xs:List V}(Pv:Nat->L2.St->Hp->Prop)(h0:Pv 0 σ H)(hl:∀i σ H,i<=xs.length->Pv i σ H->SqL K H a xs)
  (hs:∀i x σ H,xs[i]?=some x->Pv i σ H->g x σ H fun σ2 H2=>tb {nx:=Pv (i+1),rt:=D.rt,bk:=D.nx,ct:=Pv (i+1)} σ2 H2)(hd:∀σ H,Pv xs.length σ H->D.nx σ H):FOR (Itl K a) g tb D σ H:=for_list Pv h0 hl hs hd
def qg4{lo:Int}{n:Nat}(Pv:Nat->L2.St->Hp->Prop)(h0:Pv 0 σ H)
  (hs:∀(i:Nat) σ H,i<n->Pv i σ H->g (.int (lo+i)) σ H fun σ2 H2=>tb {nx:=Pv (i+1),rt:=D.rt,bk:=D.nx,ct:=Pv (i+1)} σ2 H2)(hd:∀σ H,Pv n σ H->D.nx σ H):FOR (Itr lo n) g tb D σ H:=for_range Pv h0 hs hd
end
def qaa{o':HO}(h:H a=some o)(n:H p=none):upd H p o' a=some o:=by rw[qa7 (qa9 h n)];exact h
def sqL_new{K:uS}(h:SqL K H a xs)(n:H p=none):SqL K (upd H p o) a xs:=(qa4 n o).seq h
def same_upd{H0:Hp}(h:Same H0 H)(n:H p=none):Same H0 (upd H p o):=h.trans (qa4 n o)
def i_t[Decidable c](h:c)(hA:A):if decide c=true then A else B:=by rw[gK h];exact iteT hA
def i_f[Decidable c](h:¬c)(hB:B):if decide c=true then A else B:=by rw[gL h];exact iteF hB
def i_2[Decidable c](h1:c->A)(h2:¬c->B):if decide c=true then A else B:=by
 by_cases h:c
 .exact i_t h (h1 h)
 .exact i_f h (h2 h)
def i_nt[Decidable c](h:¬c)(hA:A):if(!decide c)=true then A else B:=by rw[gL h];exact iteT hA
def i_nf[Decidable c](h:c)(hB:B):if(!decide c)=true then A else B:=by rw[gK h];exact iteF hB
def i_n2[Decidable c](h1:¬c->A)(h2:c->B):if(!decide c)=true then A else B:=by
 by_cases h:c
 .exact i_nf h (h2 h)
 .exact i_nt h (h1 h)
def i_nT(h:B):if(!true)=true then A else B:=h
def i_nF(h:A):if(!false)=true then A else B:=iteT h
def AllC{α:Type}(f:α->Prop):List α->Prop
 | []=>True
 |a::l=>f a/\AllC f l
theorem AllC.mem{α:Type}{f:α->Prop}:∀{l:List α},AllC f l->∀a∈l,f a
 | [],_,_,h=>absurd h (by simp)
 |b::l,h,a,m=>by
  rcases zP.mp m with rfl|m
  .exact h.1
  .exact AllC.mem h.2 a m
def qcb(caps:List Nat)(σ:L2.St):L2.St:=caps.map fun j=>(σ[j]?).getD none
def rApp(acc:Addr)(N:Hp->Prop)(y:V)(H:Hp):Prop:=∃ys,H acc=some (.lst ys)/\ys.length<sizeLine/\N (upd H acc (.lst (ys++[y])))
def COMP(J:It)(caps:List Nat)(tt:TT)(te:TE)(acc:Addr)(σ:L2.St)(H:Hp)(Q:VK):Prop:=∃W:Nat->Nat->Hp->Prop,(∃m,W 0 m H)/\∀i m H,W i m H->
 (J.stop i H/\Q (.ref acc) H)\/(J.go i H/\∃N:Hp->Prop,(∀H',N H'->∃m',m'<m/\W (i+1) m' H')/\∀v H',J.yld i H v H'->tt (some v::qcb caps σ) H' fun b H2=>
  if b=true then te (some v::qcb caps σ) H2 fun y H3=>rApp acc N y H3 else N H2)
abbrev CT(α:Type):=Addr->uC->Hp->List Addr->α
def tComp(wi:TI)(caps:List Nat)(tt:CT TT)(te:CT TE):TE:=fun σ H Q=>wi σ H fun J H1=>∀(C:Addr)(s:uC)(H0:Hp)(fp:List Addr)(acc:Addr),H1 acc=none->COMP J caps (tt C s H0 fp) (te C s H0 fp) acc σ (upd H1 acc (.lst [])) Q
def tTrue:TT:=fun _ H Q=>Q true H
def PIfs(X:Cx)(ifs:List vV)(t:TT):Prop:=
 ∀(pins:List (Addr×Obj))(s:uC)(σ:L2.St)(H:Hp)(Q:Bool->Hp->Prop),Inv X pins σ H s->t σ H Q->
  uU (uV X.prog X.w) X.A (forIn ifs true fun c r=>if r=true then do let ok<-isTrue c X.env (wL c X.env);pure (dD ok) else pure (dD r)) (TP X pins σ Q) X.xe s
def qdd:PIfs X [] tTrue:=fun pins s σ H Q I h=>wpAny_tests_nil ⟨H,I,h⟩
def pf_one{c:vV}{t:TT}(h:PT X c t):PIfs X [c] t:=fun pins s σ H Q I hw=>wpAny_tests_one (h pins s σ H Q I hw)
def cxC(X:Cx)(N:List Str)(scope:xF)(cl:List (Str×Addr))(C:Addr)(s:uC)(H:Hp)(fp:List Addr):Cx where
 prog:=X.prog
 w:=X.w
 K:=X.K
 mg:=X.mg
 base:=X.base
 A:=X.A
 N:=N
 s₀:=s
 H₀:=H
 env:=aT scope cl C X.env
 outer:=X.stack
 stack:=X.stack
 ex:=fp
 fn:=fun _=>false
 calm:=X.calm
 pn:=[]
 xe:=fun _ _=>False
structure Caps(X:Cx)(x:Str)(scope:xF)(cl:List (Str×Addr))(caps:List Nat)(cn:List Str):Prop where
 clos:closureFor scope X.env=pure cl
 kind:scope.kind=.function
 cell:∀y∈scope.names,y.2≠ .cell
 names:∀y∈scope.names,y.2=.local->scope.names.lookup y.1=some .local
 tg:scope.names.lookup x=some .local
 sub:∀y c,cl.lookup y=some c->X.env.cells.lookup y=some c
 has:∀y,((fP scope X.env).names.lookup y=some .cell\/(fP scope X.env).names.lookup y=some .free)->∃c,cl.lookup y=some c
 len:caps.length=cn.length
 cap:∀(k:Nat)(y:Str)(j:Nat),cn[k]?=some y->caps[k]?=some j->X.N[j]?=some y/\X.env.kindOf y=some .cell/\(fP scope X.env).names.lookup y=some .cell/\X.env.scope.names.lookup y=some .cell/\∃c,cl.lookup y=some c
 nd:(x::cn).Nodup
section
variable{X:Cx}{pins:List (Addr×Obj)}{σ:L2.St}{H:Hp}{s:uC}
def Inv.comp{x:Str}{scope:xF}{cl:List (Str×Addr)}{caps:List Nat}{cn:List Str}(Cp:Caps X x scope cl caps cn)(I:Inv X pins σ H s){fp:List Addr}(hf:∀b∈fp,FpOk X pins H b)(hlt:∀b∈fp,b<↑s){h₁:vQ}{t':Nat}
  (hns:h₁.Ns ↑s (fun _=>none))(k:∀b o,s.heap.get? b=some o->h₁.get? b=some o):
  Inv (cxC X (x::cn) scope cl ↑s s H fp) [] (none::qcb caps σ) H {s with heap:=h₁,toks:=t'}:=by
 have cne:∀y c,cl.lookup y=some c->∃v,s.heap.IsCell c v:=fun y c e=>I.cell y c (Cp.sub y c e);have ltC:∀y c,cl.lookup y=some c->c<↑s:=fun y c e=>let ⟨v,q⟩:=cne y c e;q.lt
 have isC:∀c v,s.heap.IsCell c v->h₁.IsCell c v:=fun c v ⟨o,e,d⟩=>⟨o,k c o e,d⟩;refine⟨⟨I.ok.mod,Cp.kind,I.ok.glob,I.ok.blt,uG _,fun y z c e1 e2=>I.ok.inj y z c (Cp.sub y c e1) (Cp.sub z c e2),fun y hy=>Cp.has y hy,fun y c z=>(vA z).elim,I.ok.hd,I.ok.frames,.inl rfl,
  fun b hb=>⟨vI (hlt b hb),fun y c e z=>?_⟩,I.bs,vJ I.ok.bsz I.sz,fun b o e hb=>?_,fun b hb z=>?_,I.stack,I.stkFree⟩,
  rfl,I.bare,Un.kept k,⟨_,hns,fun i y v e1 e2 e3=>?_⟩,fun y c e=>?_,I.hok.fresh (uG _),fun y c e=>I.freeC y c (Cp.sub y c e),fun p hp=>absurd (show p∈([]:List (Addr×Obj)) from hp) (by simp),I.hok.kept k,?_⟩
 .exact(hf b hb).2.2.2.2.1 y c (Cp.sub y c e) z
 .rcases(hf b hb).2.2.2.1 with z|z
  .exact I.ok.noex b o e z
  .exact absurd (vD (uN e) (vJ I.ok.bsz z)) (wK _)
 .rcases zP.mp (I.stkSub b z) with z|z
  .exact(hf b hb).2.1 z
  .exact(hf b hb).2.2.1 z
 .cases i with
  |zero=>cases e2
  |succ i=>
   have e1':cn[i]?=some y:=by simpa[cxC] using e1
   have e2':(qcb caps σ)[i]?=some (some v):=by simpa using e2
   unfold qcb at e2';rw[zC] at e2';obtain⟨j,hj,ej⟩:=uI.mp e2';obtain⟨c1,c2,c3,c5,c,c4⟩:=Cp.cap i y j e1' hj
   cases hs:σ[j]? with
   |none=>rw[hs] at ej;cases ej
   |some w=>
    rw[hs] at ej;have ej':w=some v:=ej;subst ej';obtain⟨m,hn,hl⟩:=I.loc;obtain⟨u,r,l⟩:=hl j y v c1 hs (.inr (.inl c5));refine⟨u,r,.inr ⟨.inl c3,c,c4,?_⟩⟩;rcases l with⟨l,_⟩|⟨_,c',e',q⟩
    .rw[c2] at l;cases l
    .rw[Cp.sub y c c4] at e'
     cases e'
     exact isC _ _ q
 .obtain⟨v,q⟩:=cne y c e;exact⟨v,isC c v q⟩
 .show(none::qcb caps σ).length=(x::cn).length;rw[zR,zR];unfold qcb;rw[zA,Cp.len]
def Inv.uncomp{N:List Str}{scope:xF}{cl:List (Str×Addr)}{C:Addr}{σ':L2.St}{H':Hp}{s':uC}{fp:List Addr}(I:Inv X pins σ H s)(hf:∀b∈fp,FpOk X pins H b)(hC:C=↑s)
  (J:Inv (cxC X N scope cl C s H fp) [] σ' H' s'){h':vQ}(sb:bU C s'.heap h'):Inv X pins σ H' {s' with heap:=h'}:=by
 have ne:∀b o,s.heap.get? b=some o->b≠C:=fun b o e=>by rw[hC];exact vI (uN e)
 have u:Un (frs X.stack) fp H H' s.heap s'.heap:=J.base;have hok:HOk X.prog X.w H' h':=fun b o e=>by
  refine(J.hok b o e).stay (fun c u' hc q=>(sb.2 c ?_).trans q) (fun _ q=>q) fun _ _ q=>q;intro z;have n:H' C=none:=J.free;rcases hc with hc|hc
  .rw[<-hc,z,n] at e;cases e
  .rw[z,n] at hc;cases hc
 refine I.call' (s':={s' with heap:=h'}) (ch:=fp) J.os ⟨fun b o e n hb hx=>(sb.2 b (ne b o e)).trans (u.keep b o e n hb hx),fun b o e n hb hx=>?_,u.free,fun b o e hx=>?_,u.tups,u.frzs,u.tbls⟩ hok J.bare fun b hb=>?_
 .obtain⟨sl,q⟩:=u.slot b o e n hb hx;exact⟨sl,(sb.2 b (ne b o e)).trans q⟩
 .obtain⟨o',q⟩:=u.there b o e hx;exact⟨o',(sb.2 b (ne b o e)).trans q⟩
 .obtain⟨f0,f1,f2,f3,f4,f5⟩:=hf b hb;exact⟨f3,f1,f4,f5⟩
end
section
variable{X:Cx}
def qh3{elt iter:vV}{x:Str}{px:Pos}{ifs:List vV}{scope:xF}{cl:List (Str×Addr)}{pos:Pos}{caps:List Nat}{cn:List Str}{tt:CT TT}{te:CT TE}(Cp:Caps X x scope cl caps cn)(hc:X.calm=true)
  (ht:∀C s H fp,PIfs (cxC X (x::cn) scope cl C s H fp) ifs (tt C s H fp)){pins:List (Addr×Obj)}{σ:L2.St}{Q:VK}{itv:uB}{s2:uC}{us:Option (uB->Sem Unit)}{P:uB->uC->Prop}
  (h2:PIE X pins σ (.Name x px) (fun J H1=>∀(C:Addr)(s:uC)(H0:Hp)(fp:List Addr)(acc:Addr),H1 acc=none->COMP J caps (tt C s H0 fp) (te C s H0 fp) acc σ (upd H1 acc (.lst [])) Q) itv s2)
  (he:∀(acc:Addr)(s3:uC)(H3:Hp)(fp:List Addr),Inv X pins σ H3 s3->(∀b∈fp,FpOk X pins H3 b)->∀(pn:List (Addr×Obj))(s9:uC)(τ:L2.St)(H9:Hp)(R:VK),Inv (cxC X (x::cn) scope cl ↑s3 s3 H3 fp) pn τ H9 s9->te ↑s3 s3 H3 fp τ H9 R->
   uU (uV X.prog X.w) X.A (wL elt (aT scope cl ↑s3 X.env)) (EP (cxC X (x::cn) scope cl ↑s3 s3 H3 fp) pn τ R) (notedBy (uV X.prog X.w) X.A (aT scope cl ↑s3 X.env) fun e s'=>fQ (uV X.prog X.w) X.A X.xe us P (.ref acc) ↑s3 (.error e) s') s9)
  (hd:∀(acc:Addr)(s3:uC)(H3:Hp)(fp:List Addr),Inv X pins σ H3 s3->(∀b∈fp,FpOk X pins H3 b)->∀(τ:L2.St)(H5:Hp)(s6:uC)(v:Flow),Inv (cxC X (x::cn) scope cl ↑s3 s3 H3 fp) [] τ H5 s6->Q (.ref acc) H5->fQ (uV X.prog X.w) X.A X.xe us P (.ref acc) ↑s3 (.ok v) s6):
  uU (uV X.prog X.w) X.A (newList []) (fun acc s3=>uU (uV X.prog X.w) X.A (newFunctionEnv scope X.env.globals cl [] X.env.qual none .none (some X.env)) (fun ce s4=>
   bI (uV X.prog X.w) X.A (.compStart (.ListComp elt [⟨.Name x px,iter,ifs,0⟩] scope pos) 0 itv acc {ce with scope:=fP scope X.env}) (fQ (uV X.prog X.w) X.A X.xe us P acc ce.locals) s4) X.xe s3) X.xe s2:=by
 obtain⟨it,fp,tn,J,H2,e,I2,T,st2,f2,R⟩:=h2;subst e;have hacc:H2 ↑s2=none:=I2.hok.fresh (uG _);refine fH ?_;have I3:Inv X pins σ (upd H2 ↑s2 (.lst [])) {s2 with heap:=s2.heap.push {cls:=.type "list",dict:=none,data:=.seq ([]:List uB).toArray}}:=Inv.lnew (its:=[]) (t':=s2.toks) I2 .nil (wR _);have lt2:∀b∈fp,b<↑s2:=fun b hb=>let ⟨o,e,_⟩:=T.obj _ _ st2 b hb;uN e
 have f3:∀b∈fp,FpOk X pins (upd H2 ↑s2 (.lst [])) b:=fun b hb=>⟨by rw[qa7 (vI (lt2 b hb))];exact(f2 b hb).1,(f2 b hb).2⟩;have st3:tn 0 (s2.heap.push {cls:=.type "list",dict:=none,data:=.seq ([]:List uB).toArray}):=T.keep _ _ _ st2 fun b _ o e=>uD _ e;generalize hs3:({s2 with heap:=s2.heap.push {cls:=.type "list",dict:=none,data:=.seq ([]:List uB).toArray}}:uC)=s3 at I3⊢;have st3':tn 0 s3.heap:=by rw[<-hs3];exact st3
 generalize ↑s2=acc at hacc I3 f3⊢;obtain⟨W,⟨m0,w0⟩,turn⟩:=R ↑s3 s3 (upd H2 acc (.lst [])) fp acc hacc;have lt3:∀b∈fp,b<↑s3:=fun b hb=>let ⟨o,e,_⟩:=T.obj _ _ st3' b hb;uN e
 clear st3 hs3;refine wpAny_newFunctionEnv Cp.cell (by intro y hy;simp at hy) (fun h₁ hns hsb=>?_) Cp.kind;have k1:∀b o,s3.heap.get? b=some o->h₁.get? b=some o:=fun b o e=>hsb.extBut b o (vI (uN e)) (uD _ e);have I4:Inv (cxC X (x::cn) scope cl ↑s3 s3 (upd H2 acc (.lst [])) fp) [] (none::qcb caps σ) (upd H2 acc (.lst [])) {s3 with heap:=h₁,toks:=s3.toks+([]:List (Str×uB)).length}:=
  Inv.comp Cp I3 f3 lt3 hns k1
 have st4:tn 0 h₁:=T.keep _ _ _ st3' fun b _ o e=>k1 b o e;generalize hX:cxC X (x::cn) scope cl ↑s3 s3 (upd H2 acc (.lst [])) fp=X' at I4;have stat:∀{H':Hp},(∀b∈fp,H' b=none)->∀b∈fp,FpOk X' [] H' b:=fun hn b hb=>by
  subst hX;obtain⟨g0,g1,g2,g3,g4,g5⟩:=f3 b hb;refine⟨hn b hb,vI (lt3 b hb),fun z=>?_,.inl hb,fun y c e=>g4 y c (Cp.sub y c e),fun p hp=>absurd (show p∈([]:List (Addr×Obj)) from hp) (by simp)⟩;rcases zP.mp (I3.stkSub b z) with z|z
  .exact g1 z
  .exact g2 z
 have core:bI (uV X.prog X.w) X.A (.compLoop (.ListComp elt [⟨.Name x px,iter,ifs,0⟩] scope pos) 0 (.ref it) (.ref acc) (aT scope cl ↑s3 X.env))
   (fQ (uV X.prog X.w) X.A X.xe us P (.ref acc) ↑s3) {s3 with heap:=h₁,toks:=s3.toks+([]:List (Str×uB)).length}:=by
  refine codeAny_loop rfl (fun n s'=>∃i a H',Inv X' [] (a::qcb caps σ) H' s'/\tn i s'.heap/\(∀b∈fp,H' b=none)/\W i n H') (fun n s5 hI=>?_) m0 ⟨0,none,_,I4,st4,fun b hb=>(f3 b hb).1,w0⟩;obtain⟨i,a0,H5,I5,st5,fr5,w5⟩:=hI;show uU _ _ ((compTurn _ 0 _ _ _).onRaise _) _ _ s5;refine wpAny_noted ?_;rw[compTurn_list];refine uE (xJ (uE ?_));have aX:X'.A=X.A:=by subst hX;rfl
  have pX:X'.prog=X.prog:=by subst hX;rfl
  have wX:X'.w=X.w:=by subst hX;rfl
  have kX:X'.K=X.K:=by subst hX;rfl
  have cX:X'.calm=true:=by subst hX;exact hc
  have eX:X'.env=aT scope cl ↑s3 X.env:=by subst hX;rfl
  rcases turn i n H5 w5 with⟨stop,qn⟩|⟨go,N,hN,step⟩
  .have z:=T.done X' pX wX kX cX i [] s5 _ H5 (fun _ _=>False) I5 (stat fr5) st5 stop;rw[aX] at z;refine vS z (fun r s6 ⟨hr,I6⟩=>?_) fun _ _ q=>q.elim;subst hr;subst hX;exact uW (hd acc s3 _ fp I3 f3 _ H5 s6 _ I6 qn)
  .have z:=T.item X' pX wX kX cX i [] s5 _ H5 (fun _ _=>False) I5 (stat fr5) st5 go;rw[aX] at z;refine vS z (fun r s6 ⟨u,hr,h6⟩=>?_) fun _ _ q=>q.elim;subst hr;refine uE (vS h6 (fun _ s7 ⟨v,H7,I7,r7,y7,st7,fr7⟩=>?_) fun _ _ q=>q.elim);have I7':=I7.pinned (stat fr7) (T.obj _ _ st7);have asg:uU (uV X.prog X.w) X.A (gD (.Name x px) (aT scope cl ↑s3 X.env) u) (fun _ s8=>Inv X' ([]++qeh fp s7.heap) (some v::qcb caps σ) H7 s8) (fun _ _=>False) s7:=by
    subst hX;exact fG (qe9 (X:=cxC X (x::cn) scope cl ↑s3 s3 (upd H2 acc (.lst [])) fp) (i:=0) I7' Cp.nd rfl (.inl (lookup_relabel_local Cp.tg)) r7 (fun s' I'=>I') (.inr (lookup_relabel_local Cp.tg)))
   refine uE (vS asg (fun _ s8 I8=>?_) fun _ _ q=>q.elim);have tst:uU (uV X.prog X.w) X.A (forIn ifs true fun c r=>if r=true then do let ok<-isTrue c (aT scope cl ↑s3 X.env) (wL c (aT scope cl ↑s3 X.env));pure (dD ok) else pure (dD r))
     (TP X' ([]++qeh fp s7.heap) (some v::qcb caps σ) (fun b H9=>if b=true then te ↑s3 s3 (upd H2 acc (.lst [])) fp (some v::qcb caps σ) H9 (fun y H3=>rApp acc N y H3) else N H9)) (fun _ _=>False) s8:=by
    subst hX;exact ht _ _ _ _ _ s8 _ H7 _ I8 (step v H7 y7)
   refine uE (vS tst (fun b s9 ⟨H9,I9,q9⟩=>?_) fun _ _ q=>q.elim);have fin:∀{a:Option V} {H10:Hp} {s10:uC},Inv X' ([]++qeh fp s7.heap) (a::qcb caps σ) H10 s10->N H10->∃m',m'<n/\∃i a H',Inv X' [] (a::qcb caps σ) H' s10/\tn i s10.heap/\(∀b∈fp,H' b=none)/\W i m' H':=fun {a H10 s10} I10 n10=>
    let ⟨m',hm,w10⟩:=hN _ n10
    ⟨m',hm,i+1,a,H10,I10.unpinned,T.keep _ _ _ st7 fun b hb o e=>(I10.pin (b,o) (zM _ (zM _ (qdq hb e)))).1,fun b hb=>by
     obtain⟨o,e,d⟩:=T.obj _ _ st7 b hb;exact(I10.pin (b,o) (zM _ (zM _ (qdq hb e)))).2.1,w10⟩
   cases b with
   |false=>exact uW ⟨rfl,fin I9 q9⟩
   |true=>
    have elt':uU (uV X.prog X.w) X.A (wL elt (aT scope cl ↑s3 X.env)) (EP X' ([]++qeh fp s7.heap) (some v::qcb caps σ) (fun y H3=>rApp acc N y H3)) (notedBy (uV X.prog X.w) X.A (aT scope cl ↑s3 X.env) fun e s'=>fQ (uV X.prog X.w) X.A X.xe us P (.ref acc) ↑s3 (.error e) s') s9:=by
     subst hX;exact he acc s3 _ fp I3 f3 _ s9 _ H9 _ I9 q9
    refine uE (uE (vS elt' (fun y s10 ⟨w,H10,I10,r10,ys,ha,hz,q10⟩=>?_) fun _ _ q=>q));have app:uU (uV X.prog X.w) X.A (call (.builtin "list.append") [.ref acc,y]) (EP X' ([]++qeh fp s7.heap) (some v::qcb caps σ) fun _ H11=>H11=upd H10 acc (.lst (ys++[w]))) (fun _ _=>False) s10:=by
     subst hX;exact qc0 (X:=cxC X (x::cn) scope cl ↑s3 s3 (upd H2 acc (.lst [])) fp) _ s10 _ H10 (.ref acc) [w] (.ref acc) [y] _ I10 rfl (.cons r10 .nil) ⟨acc,ys,w,rfl,rfl,ha,hz,rfl⟩
    refine uE (vS app (fun _ s11 ⟨_,H11,I11,_,e11⟩=>?_) fun _ _ q=>q.elim);subst e11;exact uW (uW ⟨rfl,fin I11 q10⟩)
 exact codeAny_compStart_list core (T.self _ 0 _ _ _ st4 core)
def qch{elt iter:vV}{x:Str}{px:Pos}{ifs:List vV}{scope:xF}{cl:List (Str×Addr)}{pos:Pos}{caps:List Nat}{cn:List Str}{wi:TI}{tt:CT TT}{te:CT TE}(Cp:Caps X x scope cl caps cn)(hc:X.calm=true)
  (hi:PI X (.Name x px) iter wi)(ht:∀C s H fp,PIfs (cxC X (x::cn) scope cl C s H fp) ifs (tt C s H fp))(he:∀C s H fp,PE (cxC X (x::cn) scope cl C s H fp) elt (te C s H fp))
  (hs:∀x,cD iter X.env x=pure x:=by intro _;rfl):
  PE X (.ListComp elt [⟨.Name x px,iter,ifs,0⟩] scope pos) (tComp wi caps tt te):=by
 intro pins s σ H Q I h;rw[eval_ListComp];refine cM (use:=none) rfl hs Cp.clos Cp.kind Cp.names (thn (hi pins s σ H _ I h) fun v s1 h1=>thn h1 fun itv s2 h2=>qh3 Cp hc ht h2 (fun acc s3 H3 fp I3 f3 pn s9 τ H9 R I9 q9=>vS (he _ _ _ _ pn s9 τ H9 R I9 q9) (fun _ _ q=>q) fun _ _ q=>q.elim) fun acc s3 H3 fp I3 f3 τ H5 s6 v I6 q=>?_);obtain⟨m,hm,_⟩:=id I6.loc;exact⟨m,hm,fun h' sb=>⟨.ref acc,H5,Inv.uncomp I3 f3 rfl I6 sb,rfl,q⟩⟩
def Its(x:Str):It:=⟨fun i _=>i<x.cps.size,fun i H v H'=>H'=H/\∃c,x.cps[i]?=some c/\v=.str ⟨#[c]⟩,fun i _=>i=x.cps.size⟩
def turn_str{P:uY}{w:vL}{K:uS}{y:Str}{py:Pos}(x:Str)(t:Tok)(it:Addr)(ty:String)(W:∀A:vR,A.handled=none->Walks P w A it [it] [it] x.cps.size (SignAt x) (fun i h=>h.IsStrIter it ty x t i))
  (hself:∀(A:vR)(i:Nat)(s:uC)(Q:uB->uC->Prop)(E:uB->uC->Prop),s.heap.IsStrIter it ty x t i->Q (.ref it) s->uU (uV P w) A (pyIter (.ref it)) Q E s):
  Turn P w K (.Name y py) (Its x) [it] it (fun i h=>h.IsStrIter it ty x t i) where
 mem:=by simp
 obj:=fun i h st b hb=>by
  have e:b=it:=by simpa using hb
  subst e;obtain⟨o,e,c,d⟩:=st;exact⟨o,e,fun v z=>by rw[d] at z;cases z⟩
 keep:=fun i h h' ⟨o,e,r⟩ k=>⟨o,k it (by simp) o e,r⟩
 item:=by
  intro X hP hw hK hc i pins s σ H E I hf st hg;subst hP hw hK;obtain⟨f0,f1,f2,f3,f4,f5⟩:=hf it (by simp);refine(W X.A (I.ok.hd hc)).item i s _ _ hg st fun v h' tk hv st' k=>?_;have I1:Inv X pins σ H {s with heap:=h',toks:=tk}:=I.turned (t':=tk) (fun b o hb e=>k b o (fun z=>hb (by simpa using z)) e) f0 f1 f3 f4 f5;obtain⟨c,u,hx,rfl⟩:=hv;exact⟨_,rfl,uW ⟨.str ⟨#[c]⟩,H,I1,⟨_,rfl⟩,⟨rfl,c,hx,rfl⟩,st',fun b hb=>(hf b hb).1⟩⟩
 done:=by
  intro X hP hw hK hc i pins s σ H E I hf st hg;subst hP hw hK;have hg':i=x.cps.size:=hg;subst hg';obtain⟨f0,f1,f2,f3,f4,f5⟩:=hf it (by simp);exact(W X.A (I.ok.hd hc)).done s _ _ st fun h' tk k=>⟨rfl,I.turned (t':=tk) (fun b o hb e=>k b o (fun z=>hb (by simpa using z)) e) f0 f1 f3 f4 f5⟩
 self:=hself
def rItS(v:V)(H:Hp)(R:It->Hp->Prop):Prop:=∃x,v=.str x/\R (Its x) H
def iStr(tl:TE):TI:=fun σ H R=>tl σ H fun v H1=>rItS v H1 R
end
end My
namespace L2
open PySem PySem.Spec PyProof.Rows
section
variable{κ:Type}[DecidableEq κ]
def qcn(kvs:List (κ×V))(k:κ):Option V:=(kvs.find? fun kv=>decide (kv.1=k)).map (·.2)
def qbp(kvs:List (κ×V))(k:κ)(v:V):List (κ×V):=
 if(kvs.any fun kv=>decide (kv.1=k))=true then kvs.map (fun kv=>if kv.1=k then(kv.1,v) else kv) else kvs++[(k,v)]
def qc3{p:κ×V}{r:List (κ×V)}{k:κ}(e:p.1=k):qcn (p::r) k=some p.2:=by simp[qcn,yH,e]
def qc4{p:κ×V}{r:List (κ×V)}{k:κ}(e:¬p.1=k):qcn (p::r) k=qcn r k:=by simp[qcn,yH,e]
theorem qcs(k:κ):∀kvs:List (κ×V),(kvs.any fun kv=>decide (kv.1=k))=(qcn kvs k).isSome
 | []=>rfl
 |p::r=>by
  rw[yN];by_cases e:p.1=k
  .simp only[qc3 e,gK e,Bool.true_or,Option.isSome_some]
  .rw[qc4 e,gL e,eF];exact qcs k r
theorem valV_map(k j:κ)(y:V):∀kvs:List (κ×V),qcn (kvs.map fun kv=>if kv.1=k then(kv.1,y) else kv) j=(qcn kvs j).map fun x=>if j=k then y else x
 | []=>rfl
 |p::r=>by
  have ih:=valV_map k j y r;rw[zV];by_cases h:p.1=k
  .rw[gJ h];by_cases e:p.1=j
   .rw[qc3 (p:=(p.1,y)) e,qc3 e,dE,gJ (e.symm.trans h)]
   .rw[qc4 (p:=(p.1,y)) e,qc4 e,ih]
  .rw[gI h];by_cases e:p.1=j
   .rw[qc3 (p:=p) e,qc3 e,dE,gI (fun z=>h (e.trans z))]
   .rw[qc4 (p:=p) e,qc4 e,ih]
theorem valV_snoc(k j:κ)(y:V):∀kvs:List (κ×V),qcn kvs k=none->qcn (kvs++[(k,y)]) j=if j=k then some y else qcn kvs j
 | [],_=>by
  by_cases e:k=j
  .rw[gJ e.symm];exact qc3 (p:=(k,y)) e
  .rw[gI (fun z=>e z.symm)];exact qc4 (p:=(k,y)) e
 |p::r,hn=>by
  rw[List.cons_append];have hk:¬p.1=k:=fun z=>by rw[qc3 z] at hn;cases hn
  rw[qc4 hk] at hn;have ih:=valV_snoc k j y r hn;by_cases e:p.1=j
  .rw[qc3 e,qc3 e,gI (fun z=>hk (e.trans z))]
  .rw[qc4 e,qc4 e,ih]
def qfb(kvs:List (κ×V))(k j:κ)(y:V):qcn (qbp kvs k y) j=if j=k then some y else qcn kvs j:=by
 unfold qbp;by_cases a:(kvs.any fun kv=>decide (kv.1=k))=true
 .rw[gJ a,valV_map];rw[qcs] at a;by_cases e:j=k
  .obtain⟨x,hx⟩:=cJ.mp a;rw[gJ e,e,hx,dE,gJ rfl]
  .rw[gI e]
   cases qcn kvs j with
   |none=>rfl
   |some x=>rw[dE,gI e]
 .rw[gI a];refine valV_snoc k j y kvs ?_;rw[qcs] at a
  cases q:qcn kvs k with
  |none=>rfl
  |some x=>rw[q] at a;exact(a rfl).elim
def qaz(kvs:List (κ×V))(k:κ)(v:V):(qbp kvs k v).length<=kvs.length+1:=by
 unfold qbp
 split
 .rw[zA];omega
 .rw[zJ,zR,yK];omega
def putK_new{kvs:List (κ×V)}{k:κ}(v:V)(h:qcn kvs k=none):qbp kvs k v=kvs++[(k,v)]:=by
 unfold qbp;rw[qcs,h];exact gI ∅
def qh7.isSome_eq{o:Option V}{u:Option uB}(r:qh7 o u):o.isSome=u.isSome:=by
 cases o with
 |none=>cases u with
  |none=>rfl
  |some _=>exact(show False from r).elim
 |some _=>cases u with
  |none=>exact(show False from r).elim
  |some _=>rfl
theorem qh7.getD{o:Option V}{u:Option uB}{d:V}{d':uB}(r:qh7 o u)(rd:qb8 d d'):qb8 (o.getD d) (u.getD d'):=by
 cases o with
 |none=>cases u with
  |none=>exact rd
  |some _=>exact(show False from r).elim
 |some _=>cases u with
  |none=>exact(show False from r).elim
  |some _=>exact r
def KV.val{kvs:List (κ×V)}{vs:List (κ×uB)}(r:KV kvs vs)(k:κ):qh7 (qcn kvs k) (dA vs k):=by
 unfold KV at r
 induction r with
 |nil=>exact wZ
 | @cons p q ps qs h t ih=>
  obtain⟨h1,h2⟩:=h;by_cases e:p.1=k
  .have e':q.1=k:=h1.symm.trans e;have b:dA (q::qs) k=some q.2:=by simp[dA,yH,e']
   rw[qc3 e,b];exact h2
  .have e':¬q.1=k:=fun z=>e (h1.trans z);have b:dA (q::qs) k=dA qs k:=by simp[dA,yH,e']
   rw[qc4 e,b];exact ih
theorem KV.any{kvs:List (κ×V)}{vs:List (κ×uB)}(r:KV kvs vs)(k:κ):(kvs.any fun kv=>decide (kv.1=k))=vs.any fun kv=>decide (kv.1=k):=by
 unfold KV at r
 induction r with
 |nil=>rfl
 |cons h t ih=>rw[yN,yN,ih,h.1]
def KV.repl{kvs:List (κ×V)}{vs:List (κ×uB)}(r:KV kvs vs)(k:κ){y:V}{u:uB}(ry:qb8 y u):
  KV (kvs.map fun kv=>if kv.1=k then(kv.1,y) else kv) (vs.map fun kv=>if kv.1=k then(kv.1,u) else kv):=by
 unfold KV at r⊢
 induction r with
 |nil=>exact .nil
 | @cons p q ps qs h t ih=>
  rw[zV,zV];refine .cons ?_ ih;obtain⟨h1,h2⟩:=h;by_cases e:p.1=k
  .rw[gJ e,gJ (h1.symm.trans e)];exact⟨h1,ry⟩
  .rw[gI e,gI (fun z=>e (h1.trans z))];exact⟨h1,h2⟩
def KV.put{kvs:List (κ×V)}{vs:List (κ×uB)}(r:KV kvs vs)(k:κ){y:V}{u:uB}(ry:qb8 y u):KV (qbp kvs k y) (stored vs k u):=by
 unfold qbp stored;rw[r.any k];by_cases e:(vs.any fun kv=>decide (kv.1=k))=true
 .rw[gJ e,gJ e];exact r.repl k ry
 .rw[gI e,gI e];exact Paired.snoc r ⟨rfl,ry⟩
def KV.keys{kvs:List (κ×V)}{vs:List (κ×uB)}(r:KV kvs vs):kvs.map (·.1)=vs.map (·.1):=by
 unfold KV at r
 induction r with
 |nil=>rfl
 |cons h t ih=>rw[zV,zV,ih,h.1]
theorem KV.length{kvs:List (κ×V)}{vs:List (κ×uB)}(r:KV kvs vs):kvs.length=vs.length:=Paired.length r
end
def kV_is{P:uY}{w:vL}{k:Key}{u:uB}(r:qb8 (kV k) u):(qbj P w).is k u=true:=by
 cases k with
 |inl i=>obtain⟨t,e⟩:=(show ∃t,u=gB i t from r);subst e;exact mixKind_int P w i t
 |inr x=>obtain⟨t,e⟩:=(show ∃t,u=dR x t from r);subst e;exact mixKind_str P w x t
theorem items_are{P:uY}{w:vL}:∀{ks:List Key} {us:List uB},qbk (ks.map kV) us->ItemsAre (qbj P w) ks us
 | [],_,r=>by rw[fL] at r;cases r;exact .nil
 |k::ks,_,r=>by
  rw[zV] at r
  cases r with
  |cons h t=>exact .cons (kV_is h) (items_are t)
abbrev KT(H:Hp):List (List Key×V)->List (List Key×Addr×uB)->Prop:=Paired fun p q=>p.1=q.1/\H q.2.1=some (.tup (p.1.map kV))/\qb8 p.2 q.2.2
def KT.val{H:Hp}{kvs:List (List Key×V)}{xs:List (List Key×Addr×uB)}(r:KT H kvs xs)(k:List Key):qh7 (qcn kvs k) ((atKey xs k).map (·.2)):=by
 induction r with
 |nil=>exact wZ
 | @cons p q ps qs h t ih=>
  obtain⟨h1,_,h2⟩:=h;by_cases e:p.1=k
  .have e':q.1=k:=h1.symm.trans e;have b:atKey (q::qs) k=some q.2:=by simp[atKey,yH,e']
   rw[qc3 e,b];exact h2
  .have e':¬q.1=k:=fun z=>e (h1.trans z);have b:atKey (q::qs) k=atKey qs k:=by simp[atKey,yH,e']
   rw[qc4 e,b];exact ih
def KT.repl{H:Hp}{kvs:List (List Key×V)}{xs:List (List Key×Addr×uB)}(r:KT H kvs xs)(k:List Key){y:V}{u:uB}(ry:qb8 y u):
  KT H (kvs.map fun kv=>if kv.1=k then(kv.1,y) else kv) (xs.map (putAt k u)):=by
 induction r with
 |nil=>exact .nil
 | @cons p q ps qs h t ih=>
  rw[zV,zV];refine .cons ?_ ih;obtain⟨h1,h2,h3⟩:=h;unfold putAt;by_cases e:p.1=k
  .rw[gJ e,gJ (h1.symm.trans e)];exact⟨h1,h2,ry⟩
  .rw[gI e,gI (fun z=>e (h1.trans z))];exact⟨h1,h2,h3⟩
def KT.put{H:Hp}{kvs:List (List Key×V)}{xs:List (List Key×Addr×uB)}(r:KT H kvs xs)(k:List Key){b:Addr}{y:V}{u:uB}(hb:H b=some (.tup (k.map kV)))(ry:qb8 y u):
  KT H (qbp kvs k y) (storedH xs k b u):=by
 have e:(kvs.any fun kv=>decide (kv.1=k))=(atKey xs k).isSome:=by
  rw[qcs,(r.val k).isSome_eq,aU]
 unfold qbp storedH;rw[e];by_cases q:(atKey xs k).isSome=true
 .rw[gJ q,gJ q];exact r.repl k ry
 .rw[gI q,gI q];exact Paired.snoc r ⟨rfl,hb,ry⟩
def KT.keeps{H H':Hp}{kvs:List (List Key×V)}{xs:List (List Key×Addr×uB)}(r:KT H kvs xs)(ht:∀b ys,H b=some (.tup ys)->H' b=some (.tup ys)):KT H' kvs xs:=
 Paired.mapP r fun _ _ z=>⟨z.1,ht _ _ z.2.1,z.2.2⟩
section
variable{P:uY}{w:vL}{H:Hp}{h:vQ}{a:Addr}
def rd_of{u:HO}(ok:HOk P w H h)(e:Rd H a u):qbv P w H h a u:=e.ok ok
def qg6{kvs:List (Key×V)}(ok:HOk P w H h)(e:Rd H a (.dK kvs)):kvs.length<=sizeLine/\(a==xS)=false/\∃vs,KV kvs vs/\h.DictOf (qbj P w) a vs:=
 show qbv P w H h a (.dK kvs) from rd_of ok e
def dk_of{kvs:List (Key×V)}(ok:HOk P w H h)(e:H a=some (.dK kvs)):kvs.length<=sizeLine/\(a==xS)=false/\∃vs,KV kvs vs/\h.DictOf (qbj P w) a vs:=qg6 ok (.inl e)
def key_of{ks:List Key}(ok:HOk P w H h)(e:H a=some (.tup (ks.map kV))):(dS (qbj P w)).is h ks a:=by
 obtain⟨_,its,r,o,h1,h2,n,h3⟩:=(show qbv P w H h a (.tup (ks.map kV)) from ok a _ e);exact⟨o,its.toArray,n,h1,h2,h3,by simpa using items_are r⟩
def dt_rd{kvs:List (List Key×V)}(ok:HOk P w H h)(e:Rd H a (.dT kvs)):kvs.length<=sizeLine/\(a==xS)=false/\
  ∃xs,KT H kvs xs/\h.DictOfH (dS (qbj P w)) a xs:=by
 obtain⟨z,y,xs,r,o,es,ep,h1,h2,h3,h4,h5⟩:=(show qbv P w H h a (.dT kvs) from rd_of ok e);refine⟨z,y,xs,r,o,es,ep,h1,h2,h3,h4,fun x hx=>?_,h5⟩;have all:∀{l:List (List Key×V)} {m:List (List Key×Addr×uB)},KT H l m->∀x∈m,(dS (qbj P w)).is h x.1 x.2.1:=by
  intro l m q
  induction q with
  |nil=>intro x hx;exact nomatch hx
  | @cons p q ps qs hq t ih=>
   intro x hx;rcases zP.mp hx with e|hx
   .subst e;exact key_of ok (by rw[<-hq.1];exact hq.2.1)
   .exact ih x hx
 exact all r x hx
def dt_of{kvs:List (List Key×V)}(ok:HOk P w H h)(e:H a=some (.dT kvs)):kvs.length<=sizeLine/\(a==xS)=false/\
  ∃xs,KT H kvs xs/\h.DictOfH (dS (qbj P w)) a xs:=dt_rd ok (.inl e)
end
def DGet(H:Hp)(a:Addr)(y:V)(r:Option V):Prop:=
 (∃kvs k,Rd H a (.dK kvs)/\y=kV k/\r=qcn kvs k)\/∃kvs k b,Rd H a (.dT kvs)/\y=.ref b/\H b=some (.tup (k.map kV))/\r=qcn kvs k
def DPut(H:Hp)(a:Addr)(y v:V)(H':Hp):Prop:=
 (∃kvs k,H a=some (.dK kvs)/\y=kV k/\kvs.length<sizeLine/\H'=upd H a (.dK (qbp kvs k v)))\/
 ∃kvs k b,H a=some (.dT kvs)/\y=.ref b/\H b=some (.tup (k.map kV))/\kvs.length<sizeLine/\H'=upd H a (.dT (qbp kvs k v))
theorem DPut.k{H:Hp}{a:Addr}{kvs:List (Key×V)}{k:Key}{v:V}(e:H a=some (.dK kvs))(hl:kvs.length<sizeLine):DPut H a (kV k) v (upd H a (.dK (qbp kvs k v))):=.inl ⟨kvs,k,e,rfl,hl,rfl⟩
section
variable{X:Cx}{pins:List (Addr×Obj)}{σ:St}{H:Hp}{s:uC}{a:Addr}{y v:V}{u r:uB}{o:Option V}{A:vR}{E:uB->uC->Prop}
def Inv.big(I:Inv X pins σ H s):xS<↑s:=by
 have h:uR<↑s:=(I.mod.glob.keeps I.bk).lt;exact aV ∅ h
def d_getItem{Q:uB->uC->Prop}(hu:A.units+1<cLine)(I:Inv X pins σ H s)(g:DGet H a y (some v))(ry:qb8 y u)(h:∀w' s',Inv X pins σ H s'->qb8 v w'->Q w' s'):
  uU (uV X.prog X.w) A (getItem (.ref a) u) Q E s:=by
 rcases g with⟨kvs,k,e,ey,l⟩|⟨kvs,k,b,e,ey,eb,l⟩
 .subst ey;obtain⟨z,hd,vs,rel,dd⟩:=qg6 I.hok e;obtain⟨w',hw,rw'⟩:=qh7.some_of (v:=v) (o:=dA vs k) (by rw[l];exact rel.val k);exact wpAny_getItem_of (kV_is ry) dd.mapOf hw (h w' _ (I.tok _) rw')
 .subst ey
  cases(show u=uP b from ry)
  obtain⟨z,hd,xs,rel,dd⟩:=dt_rd I.hok e;obtain⟨w',hw,rw'⟩:=qh7.some_of (v:=v) (o:=(atKey xs k).map (·.2)) (by rw[l];exact rel.val k);obtain⟨p,hp,hp2⟩:=uI.mp hw;refine wpAny_getItem_heap (bZ hu) (key_of I.hok eb) dd hp ?_;rw[hp2];exact h w' _ (I.tok _) rw'
def d_in{Q:uB->uC->Prop}(hu:A.units+1<cLine)(I:Inv X pins σ H s)(g:DGet H a y o)(ry:qb8 y u)(h:∀s',Inv X pins σ H s'->Q (.bool o.isSome) s'):
  uU (uV X.prog X.w) A (wG .In u (.ref a)) Q E s:=by
 rcases g with⟨kvs,k,e,ey,l⟩|⟨kvs,k,b,e,ey,eb,l⟩
 .subst ey;obtain⟨z,hd,vs,rel,dd⟩:=qg6 I.hok e;refine wpAny_in_of (kV_is ry) hd dd.mapOf ?_;rw[<-(rel.val k).isSome_eq,<-l];exact h _ (I.tok _)
 .subst ey
  cases(show u=uP b from ry)
  obtain⟨z,hd,xs,rel,dd⟩:=dt_rd I.hok e;refine wpAny_in_heap (bZ hu) (key_of I.hok eb) hd dd ?_;have q:=(rel.val k).isSome_eq;rw[aU] at q;rw[<-q,<-l];exact h _ (I.tok _)
def d_write{h':vQ}{t':Nat}{ob:HO}(I:Inv X pins σ H s)(mu:Mut (H a))(hs:bU a s.heap h')(he:∃q,h'.get? a=some q)(new:qbv X.prog X.w (upd H a ob) h' a ob):
  Inv X pins σ (upd H a ob) {s with heap:=h',toks:=t'}:=
 I.write (x:=a) (e:=a) mu (.inl rfl) (fun b q hb z=>(hs.2 b hb).trans z) he new
def dk_new{P:uY}{w:vL}{H':Hp}{h':vQ}{kvs:List (Key×V)}{vs:List (Key×uB)}(z:kvs.length<=sizeLine)(hd:(a==xS)=false)(rel:KV kvs vs)(dd:h'.DictOf (qbj P w) a vs):
  qbv P w H' h' a (.dK kvs):=⟨z,hd,vs,rel,dd⟩
def d_setItem{H':Hp}{Q:Unit->uC->Prop}(hu:A.units+1<cLine)(I:Inv X pins σ H s)(g:DPut H a y v H')(ry:qb8 y u)(rv:qb8 v r)(h:∀s',Inv X pins σ H' s'->Q () s'):
  uU (uV X.prog X.w) A (setItem (.ref a) u r) Q E s:=by
 rcases g with⟨kvs,k,e,ey,l,eH⟩|⟨kvs,k,b,e,ey,eb,l,eH⟩
 .subst ey eH;obtain⟨z,hd,vs,rel,dd⟩:=dk_of I.hok e;have hz:vs.length<=sizeLine:=by rw[<-rel.length];exact z
  have hl:(qbp kvs k v).length<=sizeLine:=by have:=qaz kvs k v;omega
  refine wpAny_setItem_pairs (hsz:=hz) (kV_is ry) dd fun h' dd' hs=>h _ ?_;have he:∃q,h'.get? a=some q:=let ⟨q,_,_,hq,_⟩:=dd';⟨q,hq⟩
  exact d_write I (by rw[e];exact wZ) hs he (dk_new hl hd (rel.put k rv) dd')
 .subst ey eH
  cases(show u=uP b from ry)
  obtain⟨z,hd,xs,rel,dd⟩:=dt_of I.hok e;have hz:xs.length<=sizeLine:=by rw[<-Paired.length rel];exact z
  have hl:(qbp kvs k v).length<=sizeLine:=by have:=qaz kvs k v;omega
  refine wpAny_setItem_heap (hsz:=hz) (bZ hu) (key_of I.hok eb) dd fun h' dd' hs=>h _ ?_;obtain⟨q,es,ep,hq,h2,h3,h4,_,h5⟩:=dd';refine d_write I (by rw[e];exact wZ) hs ⟨q,hq⟩ ⟨hl,hd,_,(rel.put k eb rv).keeps fun c ys ec=>?_,q,es,ep,hq,h2,h3,h4,h5⟩;rw[qa7 (ne_of ec e (fun z=>nomatch z))];exact ec
end
section
variable{X:Cx}{pins:List (Addr×Obj)}{σ:St}{H:Hp}{s:uC}{a:Addr}{kvs:List (Key×V)}{A:vR}{E:uB->uC->Prop}
def d_len{Q:uB->uC->Prop}(I:Inv X pins σ H s)(e:Rd H a (.dK kvs))(h:∀t s',Inv X pins σ H s'->Q (.int kvs.length t) s'):uU (uV X.prog X.w) A (call (.builtin "len") [.ref a]) Q E s:=by
 obtain⟨z,hd,vs,rel,dd⟩:=qg6 I.hok e;refine call_len_dict hd dd (by rw[<-rel.length];rw[yT] at z;omega) ?_;rw[<-rel.length];exact h _ _ (I.tok _)
end
def NoSl(i:vV):Prop:=∀ov iv,subscripted i false ov iv=operate [ov,iv] (getItem ov iv)
def subD_of{prog:uY}{w:vL}{A:vR}{E:uB->uC->Prop}{s:uC}{env:Env}{value slice:vV}{pos:Pos}{T id:String}{Q:uB->uC->Prop}
  (hl:typeLookup (.type T) "__getitem__"=pure (some (.builtin id)))(hs:NoSl slice)
  (h:uU (uV prog w) A (wL value env) (fun o s₁=>uU (uV prog w) A (wL slice env) (fun i s₂=>s₂.TypeIs o T/\uU (uV prog w) A (getItem o i) Q E s₂) E s₁) E s):
  uU (uV prog w) A (wL (.Subscript value slice pos) env) Q E s:=by
 refine Subscript_ (vS h (fun o s₁ h₁=>vS h₁ (fun i s₂ h₂=>?_) fun _ _ x=>x) fun _ _ x=>x);obtain⟨hT,h₂⟩:=h₂;unfold subscriptTail;refine uE ?_;rw[getitemInPython_of_ne hT.not_modules];refine uE (wpAny_specialOf hT hl ?_);have fin:uU (uV prog w) A (subscripted slice false o i) (fun r s₃=>uU (uV prog w) A (letTemporaryGo value o r >>= fun _=>pure r) Q E s₃) E s₂:=by
  rw[hs o i];exact wpAny_operating (vS h₂ (fun r s₃ h₃=>uE (wpAny_letTemporaryGo (uW h₃))) fun _ _ x=>x)
 first
  |exact uW (uE fin)
  |exact uE (uW (uE fin))
  |exact uE fin
def dict_typeIs{X:Cx}{pins:List (Addr×Obj)}{σ:St}{H:Hp}{s:uC}{a:Addr}{y:V}{o:Option V}(I:Inv X pins σ H s)(g:DGet H a y o):s.TypeIs (.ref a) "dict":=by
 rcases g with⟨kvs,k,e,_,_⟩|⟨kvs,k,b,e,_,_,_⟩
 .obtain⟨_,_,vs,_,dd⟩:=qg6 I.hok e;exact dd.typeIs
 .obtain⟨_,_,xs,_,dd⟩:=dt_rd I.hok e;exact dd.typeIs
def tDGet(td ty:TE):TE:=fun σ H Q=>td σ H fun x H1=>ty σ H1 fun y H2=>∃a v,x=.ref a/\DGet H2 a y (some v)/\Q v H2
def tDIn(ty td:TE):TE:=fun σ H Q=>ty σ H fun y H1=>td σ H1 fun x H2=>∃a o,x=.ref a/\DGet H2 a y o/\Q (.bl o.isSome) H2
def sDPut(td ty tv:TE):TS:=fun D σ H=>tv σ H fun v H1=>td σ H1 fun x H2=>ty σ H2 fun y H3=>∃a H4,x=.ref a/\DPut H3 a y v H4/\D.nx σ H4
section
variable{X:Cx}{o i value:vV}{pos pos':Pos}{td ty tv:TE}
def qan(hu:X.A.units+1<cLine)(ho:PE X o td)(hi:PE X i ty)(hs:NoSl i):PE X (.Subscript o i pos) (tDGet td ty):=by
 intro pins s σ H Q I h;refine subD_of PySem.F.slot_dict_getitem.lookup hs (thn (ho pins s σ H _ I h) fun u s1 ⟨x,H1,I1,rx,q1⟩=>thn (hi pins s1 σ H1 _ I1 q1) fun iv s2 ⟨y,H2,I2,ry,a,v,ex,g,q2⟩=>?_);subst ex;obtain rfl:u=uP a:=rx;exact⟨dict_typeIs I2 g,d_getItem hu I2 g ry fun w' s3 I3 rw'=>⟨v,H2,I3,rw',q2⟩⟩
def pc_din(hu:X.A.units+1<cLine)(hi:PE X i ty)(ho:PE X o td):PC X .In i o (tDIn ty td):=by
 intro pins s σ H Q I h;refine thn (hi pins s σ H _ I h) fun iv s1 ⟨y,H1,I1,ry,q1⟩=>thn (ho pins s1 σ H1 _ I1 q1) fun u s2 ⟨x,H2,I2,rx,a,ov,ex,g,q2⟩=>?_;subst ex;obtain rfl:u=uP a:=rx;exact d_in hu I2 g ry fun s3 I3=>⟨.bl ov.isSome,H2,I3,rfl,q2⟩
def qbh(hu:X.A.units+1<cLine)(ho:PE X o td)(hi:PE X i ty)(hv:PE X value tv)(hs:dU value (some (.Subscript o i pos')) pos.line X.env=pure false):
  PS X (.Assign [.Subscript o i pos'] value pos) (sDPut td ty tv):=by
 intro pins s σ H D I h;refine wpAny_Assign_Subscript (thn (hv pins s σ H _ I h) fun r s1 ⟨v,H1,I1,rv,q1⟩=>thn (ho pins s1 σ H1 _ I1 q1) fun u s2 ⟨x,H2,I2,rx,q2⟩=>thn (hi pins s2 σ H2 _ I2 q2) fun iv s3 ⟨y,H3,I3,ry,a,H4,ex,g,q3⟩=>?_) hs;subst ex;obtain rfl:u=uP a:=rx;exact d_setItem hu I3 g ry rv fun s4 I4=>⟨σ,H4,I4,q3⟩
end
def dk_empty{P:uY}{w:vL}{H:Hp}(h:vQ)(hb:xS<h.objs.size):qbv P w H (h.push {cls:=.type "dict",data:=.dict #[]}) h.objs.size (.dK []):=
 ⟨wR _,beq_eq_false_iff_ne.mpr (xK (vI hb)),[],.nil,Heap.DictOf.new h⟩
def tDNewK:TE:=fun _ H Q=>∀p,H p=none->Q (.ref p) (upd H p (.dK []))
section
variable{X:Cx}{pos:Pos}
def qb3:PE X (.Dict [] [] pos) tDNewK:=fun pins s σ H Q I h=>
 wpAny_Dict_empty ⟨.ref ↑s,_,I.laid (a:=↑s) (o:=.dK []) (t':=s.toks) (fun _ _ q=>uD _ q) (uG _) (dk_empty s.heap I.big),rfl,h _ (I.hok.fresh (uG _))⟩
end
def tPairs:List (TE×TE)->St->Hp->(List (V×V)->Hp->Prop)->Prop
 | [],_,H,Q=>Q [] H
 |(tk,tv)::r,σ,H,Q=>tk σ H fun x H1=>tv σ H1 fun y H2=>tPairs r σ H2 fun ps H3=>Q ((x,y)::ps) H3
abbrev VV:List (V×V)->List (uB×uB)->Prop:=Paired fun p q=>qb8 p.1 q.1/\qb8 p.2 q.2
def PPs(X:Cx)(pos:Pos)(keys:List (Option vV))(values:List vV)(trs:List (TE×TE)):Prop:=
 ∀(pins:List (Addr×Obj))(s:uC)(σ:St)(H:Hp)(Q:List (V×V)->Hp->Prop),Inv X pins σ H s->tPairs trs σ H Q->
  uU (uV X.prog X.w) X.A (evalPairs (pairTrees keys values X.env pos)) (fun vs s'=>∃ps H',Inv X pins σ H' s'/\VV ps vs/\Q ps H') X.xe s
def pps_nil{X:Cx}{pos:Pos}:PPs X pos [] [] []:=fun pins s σ H Q I h=>pairTrees_nil_walk ⟨[],H,I,.nil,h⟩
def pps_cons{X:Cx}{pos:Pos}{k v:vV}{ks:List (Option vV)}{vs:List vV}{tk tv:TE}{trs:List (TE×TE)}(hk:PE X k tk)(hv:PE X v tv)(hr:PPs X pos ks vs trs):
  PPs X pos (some k::ks) (v::vs) ((tk,tv)::trs):=fun pins s σ H Q I h=>
 pairTrees_cons_walk (thn (hk pins s σ H _ I h) fun u s1 ⟨x,H1,I1,rx,q1⟩=>thn (hv pins s1 σ H1 _ I1 q1) fun w2 s2 ⟨y,H2,I2,ry,q2⟩=>
  thn (hr pins s2 σ H2 _ I2 q2) fun ws s3 ⟨ps,H3,I3,rel,q3⟩=>⟨(x,y)::ps,H3,I3,.cons ⟨rx,ry⟩ rel,q3⟩)
def qgh(kvs more:List (Key×V)):List (Key×V):=more.foldl (fun acc kv=>qbp acc kv.1 kv.2) kvs
def KV.merge:∀{more:List (Key×V)} {rs:List (Key×uB)} {kvs:List (Key×V)} {vs:List (Key×uB)},KV more rs->KV kvs vs->KV (qgh kvs more) (merged vs rs):=by
 intro more rs kvs vs r;unfold KV at r
 induction r generalizing kvs vs with
 |nil=>intro q;exact q
 | @cons p q ps qs h t ih=>
  intro r0;have e:KV (qbp kvs p.1 p.2) (stored vs q.1 q.2):=by
   have:=r0.put p.1 h.2;rw[<-h.1];exact this
  exact ih e
theorem qep:∀(more kvs:List (Key×V)),(qgh kvs more).length<=kvs.length+more.length
 | [],kvs=>by show kvs.length<=kvs.length+0;omega
 |p::r,kvs=>by
  have h1:=qep r (qbp kvs p.1 p.2);have h2:=qaz kvs p.1 p.2;show(qgh (qbp kvs p.1 p.2) r).length<=_;rw[zR];omega
theorem qgk{P:uY}{w:vL}:∀{kvs:List (Key×V)} {ws:List (uB×uB)},VV (kvs.map fun kv=>(kV kv.1,kv.2)) ws->∃rs,Carries (qbj P w) ws rs/\KV kvs rs
 | [],_,r=>by rw[fL] at r;cases r;exact⟨[],wZ,.nil⟩
 |p::kvs,_,r=>by
  rw[zV] at r
  cases r with
  | @cons a b as bs h t=>
   obtain⟨rs,c,q⟩:=qgk (P:=P) (w:=w) t;obtain⟨b1,b2⟩:=b;exact⟨(p.1,b2)::rs,⟨kV_is h.1,rfl,c⟩,.cons ⟨rfl,h.2⟩ q⟩
def tDisp(trs:List (TE×TE)):TE:=fun σ H Q=>∀p,H p=none->tPairs trs σ (upd H p (.dK [])) fun ps H2=>H2 p=some (.dK [])/\∃kvs:List (Key×V),ps=kvs.map (fun kv=>(kV kv.1,kv.2))/\kvs.length<=15/\Q (.ref p) (upd H2 p (.dK (qgh [] kvs)))
def pe_disp{X:Cx}{pos:Pos}{keys:List (Option vV)}{values:List vV}{trs:List (TE×TE)}(h:PPs X pos keys values trs)(hall:keys.all (·.isSome)=true)(hl:keys.length=values.length)(h0:keys≠ [])
  (h15:keys.length<=15):PE X (.Dict keys values pos) (tDisp trs):=by
 intro pins s σ H Q I q;have hn:=I.hok.fresh (uG ↑s);have I1:=I.laid (a:=↑s) (o:=.dK []) (h':=s.heap.push {cls:=.type "dict",data:=.dict #[]}) (t':=s.toks) (fun _ _ q=>uD _ q) (uG _) (dk_empty s.heap I.big);refine wpAny_Dict_walk (knd:=qbj X.prog X.w) hall hl h0 h15 (thn (h pins _ σ _ _ I1 (q _ hn)) fun ws s2 ⟨ps,H2,I2,rel,e,kvs,ep,lk,q2⟩=>?_);subst ep;obtain⟨rs,c,rk⟩:=qgk (P:=X.prog) (w:=X.w) rel;obtain⟨z,hd,vs0,r0,dd⟩:=dk_of I2.hok e
 cases r0
 refine⟨rs,c,dd,fun h' dd' hs=>⟨.ref ↑s,_,?_,rfl,q2⟩⟩;have hz:(qgh [] kvs).length<=sizeLine:=by
  have h1:=qep kvs [];rw[yK] at h1;rw[yT];omega
 have he:∃q,h'.get? ↑s=some q:=let ⟨q,_,_,hq,_⟩:=dd';⟨q,hq⟩
 exact d_write I2 (by rw[e];exact wZ) hs he (dk_new hz hd (rk.merge .nil) dd')
structure M1(X:Cx)(o:vV)(m:Str)(apos:Pos)(e:vV)(cpos:Pos):Prop where
 base:bJ o m X.env (wL o X.env)=wL o X.env
 few:((wP cpos (uZ [e] X.env)).all (fun x=>!x.1) && (bY cpos (yU [] X.env)).all (fun x=>x.1.isSome)
  && decide (([e]:List vV).length+([]:List Keyword).length+(if([]:List Keyword).isEmpty then 0 else 1)<30))=true
 line:(apos.endLine==cpos.line)=true
 trees:wP cpos (uZ [e] X.env)=[(false,wL e X.env)]
structure M2(X:Cx)(o:vV)(m:Str)(apos:Pos)(e f:vV)(cpos:Pos):Prop where
 base:bJ o m X.env (wL o X.env)=wL o X.env
 few:((wP cpos (uZ [e,f] X.env)).all (fun x=>!x.1) && (bY cpos (yU [] X.env)).all (fun x=>x.1.isSome)
  && decide (([e,f]:List vV).length+([]:List Keyword).length+(if([]:List Keyword).isEmpty then 0 else 1)<30))=true
 line:(apos.endLine==cpos.line)=true
 trees:wP cpos (uZ [e,f] X.env)=[(false,wL e X.env),(false,wL f X.env)]
def IsD(H:Hp)(a:Addr):Prop:=(∃kvs,Rd H a (.dK kvs))\/∃kvs,Rd H a (.dT kvs)
def isD_at{X:Cx}{pins:List (Addr×Obj)}{σ:St}{H:Hp}{s:uC}{a:Addr}(I:Inv X pins σ H s)(d:IsD H a):
  s.TypeIs (.ref a) "dict"/\(∀b,uP a=.ref b->∃ob,s.heap.get? b=some ob/\ob.dict=none)/\(a==xS)=false:=by
 rcases d with⟨kvs,e⟩|⟨kvs,e⟩
 .obtain⟨_,hd,vs,_,dd⟩:=qg6 I.hok e;refine⟨dd.typeIs,fun b q=>?_,hd⟩
  cases q
  obtain⟨ob,_,_,h1,h2,_⟩:=dd;exact⟨ob,h1,h2.2.1⟩
 .obtain⟨_,hd,xs,_,dd⟩:=dt_rd I.hok e;refine⟨dd.typeIs,fun b q=>?_,hd⟩
  cases q
  obtain⟨ob,_,_,h1,h2,_⟩:=dd;exact⟨ob,h1,h2.2.1⟩
section
variable{X:Cx}{pins:List (Addr×Obj)}{σ:St}{H:Hp}{s:uC}{a:Addr}{y d:V}{u r:uB}{o:Option V}{A:vR}{E:uB->uC->Prop}
def d_get2{Q:uB->uC->Prop}(hu:A.units+1<cLine)(I:Inv X pins σ H s)(g:DGet H a y o)(ry:qb8 y u)(rd:qb8 d r)(h:∀w' s',Inv X pins σ H s'->qb8 (o.getD d) w'->Q w' s'):
  uU (uV X.prog X.w) A (call (.builtin "dict.get") [.ref a,u,r]) Q E s:=by
 rcases g with⟨kvs,k,e,ey,l⟩|⟨kvs,k,b,e,ey,eb,l⟩
 .subst ey;obtain⟨z,hd,vs,rel,dd⟩:=qg6 I.hok e;refine call_meetsIn dH dd.typeIs PySem.F.entry_dict_get (PySem.F.args_dict_get_3 _ _ _) (meets_dict_get_default (qbj X.prog X.w) a (kV_is ry) hd r) ⟨_,dd.mapOf,h _ _ (I.tok _) ?_⟩;rw[l];exact(rel.val k).getD rd
 .subst ey
  cases(show u=uP b from ry)
  obtain⟨z,hd,xs,rel,dd⟩:=dt_rd I.hok e;refine call_meetsIn dH dd.typeIs PySem.F.entry_dict_get (PySem.F.args_dict_get_3 _ _ _) (meetsH_dict_get_default (dS (qbj X.prog X.w)) a b hd r) ⟨bZ hu,k,xs,key_of I.hok eb,dd,h _ _ (I.tok _) ?_⟩;rw[l];exact(rel.val k).getD rd
end
def tDGet2(td ty tx:TE):TE:=fun σ H Q=>td σ H fun x H1=>∃a,x=.ref a/\IsD H1 a/\ty σ H1 fun y H2=>tx σ H2 fun z H3=>∃o,DGet H3 a y o/\Q (o.getD z) H3
section
variable{X:Cx}{o e f:vV}{apos cpos:Pos}{td ty tx:TE}
def qff(hu:X.A.units+1<cLine)(ho:PE X o td)(he:PE X e ty)(hf:PE X f tx)(m:M2 X o "get" apos e f cpos):PE X (.Call (.Attribute o "get" apos) [e,f] [] cpos) (tDGet2 td ty tx):=by
 intro pins s σ H Q I h;refine wpAny_Call_method m.base m.few m.line PySem.F.plainAttrs_dict dH PySem.F.type_dict_get (thn (ho pins s σ H _ I h) fun u s1 ⟨x,H1,I1,rx,a,ex,d,q1⟩=>?_);subst ex;obtain rfl:u=uP a:=rx;obtain⟨t1,t2,_⟩:=isD_at I1 d;refine⟨t1,t2,?_⟩;rw[m.trees];refine cZ rfl (bL (eR (thn (he pins s1 σ H1 _ I1 q1) fun iv s2 ⟨y,H2,I2,ry,q2⟩=>
  eR (thn (hf pins s2 σ H2 _ I2 q2) fun fv s3 ⟨z,H3,I3,rz,ov,g,q3⟩=>Calls.spliced_nil ?_))))
 exact d_get2 hu I3 g ry rz fun w' s4 I4 rw'=>⟨_,H3,I4,rw',q3⟩
end
section
variable{X:Cx}{pins:List (Addr×Obj)}{σ:St}{H:Hp}{s:uC}{a:Addr}{kvs:List (Key×V)}{A:vR}{E:uB->uC->Prop}
def d_copyOf{Q:uB->uC->Prop}(I:Inv X pins σ H s)(e:Rd H a (.dK kvs))(h:∀p s',H p=none->Inv X pins σ (upd H p (.dK kvs)) s'->Q (.ref p) s'):uU (uV X.prog X.w) A (call (.type "dict") [.ref a]) Q E s:=by
 obtain⟨z,hd,vs,rel,dd⟩:=qg6 I.hok e;refine kt_call_dict hd dd (by rw[<-rel.length];exact z) fun h' dd' hs=>?_;refine h _ _ (I.hok.fresh (uG _)) (I.laid (a:=↑s) (o:=.dK kvs) (t':=s.toks) (fun b q hq=>?_) (uG _) (dk_new z (beq_eq_false_iff_ne.mpr (xK (vI I.big))) rel dd'));exact(hs.2 b (vI (uN hq))).trans (uD _ hq)
end
section
variable{X:Cx}
def call_lenD:qcr X (.builtin "len") (fun xs H Q=>∃a kvs,xs=[V.ref a]/\H a=some (.dK kvs)/\Q (.int kvs.length) H):=by
 intro pins s σ H xs us Q I r h;obtain⟨a,kvs,rfl,ha,q⟩:=h;obtain⟨u,rfl,ru⟩:=vals1 r
 cases ru
 exact d_len I (.inl ha) fun t s' I'=>⟨.int kvs.length,H,I',⟨t,rfl⟩,q⟩
end
section
variable{κ:Type}[DecidableEq κ]
def valV_not{kvs:List (κ×V)}{k:κ}(h:qcn kvs k=none):¬k∈kvs.map (·.1):=by
 intro m;obtain⟨p,hp,e⟩:=zI.mp m;have q:(kvs.any fun kv=>decide (kv.1=k))=true:=yG.mpr ⟨p,hp,gK e⟩;rw[qcs,h] at q;exact absurd q (by simp)
def valV_in{kvs:List (κ×V)}{k:κ}{v:V}(h:qcn kvs k=some v):k∈kvs.map (·.1):=by
 have q:(kvs.any fun kv=>decide (kv.1=k))=true:=by
  rw[qcs,h]
  all_goals rfl
 obtain⟨p,hp,e⟩:=yG.mp q;exact zI.mpr ⟨p,hp,of_decide_eq_true e⟩
theorem nd_snoc:∀{l:List κ} {k:κ},l.Nodup->¬k∈l->(l++[k]).Nodup
 | [],k,_,_=>by simp
 |a::r,k,h,hk=>by
  obtain⟨h1,h2⟩:=zW.mp h;show(a ::(r++[k])).Nodup;refine zW.mpr ⟨fun m=>?_,nd_snoc h2 fun m=>hk (zP.mpr (eS m))⟩;rcases zH.mp m with q|q
  .exact h1 q
  .exact hk (zP.mpr (uF (zE.mp q).symm))
def nd_putK{kvs:List (κ×V)}{k:κ}(v:V)(hn:(kvs.map (·.1)).Nodup)(h:qcn kvs k=none):((qbp kvs k v).map (·.1)).Nodup:=by
 rw[putK_new v h,zL];exact nd_snoc hn (valV_not h)
end
end L2
namespace My
open PySem PySem.Spec PyProof.Rows L2
theorem qds{α:Type}{β:Type}[BEq α][LawfulBEq α]:∀{l:List (α×β)} {x:α} {v:β},l.lookup x=some v->(x,v)∈l
 |(a,b)::l,x,v,h=>by
  rw[yL] at h
  cases e:x==a with
  |true=>rw[e] at h;have e':=eq_of_beq e;have h':b=v:=uQ h;subst e' h';exact zG
  |false=>rw[e] at h;exact zD _ (qds h)
def qc6{X:Cx}{x:Str}{scope:xF}{cl:List (Str×Addr)}{caps:List Nat}{cn:List Str}(h1:closureFor scope X.env=pure cl)(h2:scope.kind=.function)(h3:scope.names.all (fun p=>p.2 !=.cell)=true)
  (h4:scope.names.all (fun p=>p.2 !=.local || scope.names.lookup p.1==some .local)=true)(h5:scope.names.lookup x=some .local)(h6:AllC (fun p=>X.env.cells.lookup p.1=some p.2) cl)
  (h7:(fP scope X.env).names.all (fun p=>!(p.2==.cell || p.2==.free) ||(cl.lookup p.1).isSome)=true)(h8:caps.length=cn.length)
  (h9:AllC (fun p=>X.N[p.1]?=some p.2/\X.env.kindOf p.2=some .cell/\(fP scope X.env).names.lookup p.2=some .cell/\X.env.scope.names.lookup p.2=some .cell/\∃c,cl.lookup p.2=some c) (caps.zip cn))(h10:(x::cn).Nodup):Caps X x scope cl caps cn:=by
 refine⟨h1,h2,fun y hy z=>?_,fun y hy z=>?_,h5,fun y c e=>AllC.mem h6 _ (qds e),fun y hy=>?_,h8,fun k y j e1 e2=>?_,h10⟩
 .have q:=zZ.mp h3 y hy;rw[z] at q
  cases q
 .have q:=zZ.mp h4 y hy;rw[z] at q;simpa using q
 .have m:∃k,(y,k)∈(fP scope X.env).names/\(k=.cell\/k=.free):=by
   rcases hy with hy|hy
   .exact⟨_,qds hy,.inl rfl⟩
   .exact⟨_,qds hy,.inr rfl⟩
  obtain⟨k,hm,hk⟩:=m;have q:=zZ.mp h7 _ hm;have hk':(k==NameKind.cell || k==NameKind.free)=true:=by rcases hk with rfl|rfl<;>decide
  rw[hk'] at q;exact cJ.mp (by simpa using q)
 .refine AllC.mem h9 (j,y) ?_;have hz:(caps.zip cn)[k]?=some (j,y):=by rw[List.getElem?_zip_eq_some];exact⟨e2,e1⟩
  exact zF hz
section
variable{X:Cx}
def pi_str{l:vV}{tl:TE}{y:Str}{py:Pos}(hl:PE X l tl):PI X (.Name y py) l (iStr tl):=by
 intro pins s σ H R I h;refine thn (hl pins s σ H _ I h) fun u s1 ⟨v,H1,I1,r,x,ev,q⟩=>?_;subst ev;obtain⟨t,rfl⟩:=r;have hn:H1 ↑s1=none:=I1.hok.fresh (uG _);have fp:∀b∈ [↑s1],FpOk X pins H1 b:=fun b hb=>by
  have e:b=↑s1:=by simpa using hb
  subst e;exact I1.fpOk (uG _) hn
 cases ha:x.cps.all (·< 128)
 .exact wpAny_pyIter_wide ha ⟨_,[↑s1],fun i h=>h.IsStrIter ↑s1 "str_iterator" x t i,Its x,H1,rfl,I1.kept (t':=s1.toks) (fun _ _ e=>uD _ e),
   turn_str x t _ _ (fun A hA=>Walks.strWide hA _ x t) fun A i s' Q' E' st hq=>wpAny_pyIter_striter_wide st hq,⟨_,vC _ rfl,rfl,rfl⟩,fp,q⟩
 .exact wpAny_pyIter_ascii ha ⟨_,[↑s1],fun i h=>h.IsStrIter ↑s1 "str_ascii_iterator" x t i,Its x,H1,rfl,I1.kept (t':=s1.toks) (fun _ _ e=>uD _ e),
   turn_str x t _ _ (fun A hA=>Walks.strAscii hA _ x t) fun A i s' Q' E' st hq=>wpAny_pyIter_striter_ascii st hq,⟨_,vC _ rfl,rfl,rfl⟩,fp,q⟩
def rAll(K:uS):List V->Hp->VK->Prop:=fun xs H Q=>∃(p:Addr)(bs:List Bool),xs=[.ref p]/\SqL K H p (bs.map V.bl)/\Q (.bl (bs.all id)) H
def all_range(bs:List Bool):((vG bs.length).all fun i=>(bs[i]?).getD true)=bs.all id:=by
 rw[wY,zZ,zZ];constructor
 .intro h b hb;obtain⟨i,hi,e⟩:=zU.mp hb;have q:=h i (yI.mpr hi);rw[zB hi,e] at q;exact q
 .intro h i hi;have hi':=yI.mp hi;rw[zB hi'];exact h _ (zX hi')
def qev(hc:X.calm=true):qcr X (.builtin "all") (rAll X.K):=by
 intro pins s σ H xs us Q I hv h;obtain⟨p,bs,rfl,hS,q⟩:=h;obtain⟨u,rfl,ru⟩:=hv.one
 cases ru
 obtain⟨its,rv,pl,hz⟩:=I.list hS;have hl:=pl.isList;have hlt:p<↑s:=by obtain⟨_,e,_⟩:=hl;exact uN e
 have hlen:=rv.length;rw[zA] at hlen;refine call_all_walk (aR hl ?_);refine⟨↑s,[↑s,p],[↑s],its.toArray.size,_,_,fun i=>(bs[i]?).getD true,rfl,Walks.list (A:=X.A.in1) (I.ok.hd hc) _ p (vI hlt) its.toArray,⟨⟨_,vC _ rfl,rfl,rfl⟩,hl.push _⟩,fun i v s' Q' E' hP hQ=>?_,fun h' tk hk=>?_⟩
 .have hi:its[i]?=some v:=by simpa using hP
  have hb:i<bs.length:=by rw[hlen];exact(uL.mp hi).1
  have hx:(bs.map V.bl)[i]?=some (.bl bs[i]):=by rw[zC,zB hb];rfl
  obtain⟨u,e,r⟩:=rv.get hx;rw[hi] at e
  cases e
  cases r
  dsimp only at hQ;rw[zB hb] at hQ;exact wQ hQ
 .have e:((vG its.toArray.size).all fun i=>(bs[i]?).getD true)=bs.all id:=by
   rw[zN,<-hlen];exact all_range bs
  rw[e];exact⟨.bl _,H,I.kept (t':=tk) (fun b o eb=>hk b o (fun hm=>by have z:=uN eb;rw[zE.mp hm] at z;exact wK _ z) (uD _ eb)),rfl,q⟩
def rCatS:R2:=fun x y H Q=>∃i j,x=.str i/\y=.str j/\i.length+j.length<=sizeLine/\Q (.str (i++j)) H
def op_catS:OpR X (aE .Add) rCatS:=op_add_str
def rInS:R2:=fun x y H Q=>∃i j,x=.str i/\y=.str j/\Q (.bl (!(aL j i 0 j.length 1).isEmpty)) H
def op_inS:OpR X (wG .In) rInS:=op_in_str
def rLenS:List V->Hp->VK->Prop:=fun xs H Q=>∃z,xs=[.str z]/\z.length<=sizeLine/\Q (.int z.length) H
def call_lenS:qcr X (.builtin "len") rLenS:=call_len_str
end
section
variable{K:uS}{H:Hp}{Q:VK}{σ:L2.St}
def r_sl{r:V->Option Int->Option Int->Hp->VK->Prop}{te:TE}{tl th:TO}(h:te σ H fun x H1=>tl σ H1 fun l H2=>th σ H2 fun u H3=>r x l u H3 Q):tSl r te tl th σ H Q:=h
def r_noPart{Q:Option Int->Hp->Prop}(h:Q none H):tNoPart σ H Q:=h
def r_part{te:TE}{Q:Option Int->Hp->Prop}(h:te σ H fun x H1=>∃i,x=.int i/\Q (some i) H1):tPart te σ H Q:=h
def r_exi{i:Int}{Q:Int->Prop}(h:Q i):∃j,V.int i=.int j/\Q j:=⟨i,rfl,h⟩
def r_chain{r r':R2}{ta tb tc:TE}(h:ta σ H fun x H1=>tb σ H1 fun y H2=>r x y H2 fun z H3=>∃k,z=.bl k/\(if k=true then tc σ H3 fun w' H4=>r' y w' H4 Q else Q (.bl false) H3)):tChain r r' ta tb tc σ H Q:=h
def r_all{p:Addr}{bs:List Bool}(hS:SqL K H p (bs.map V.bl))(h:Q (.bl (bs.all id)) H):rAll K [.ref p] H Q:=⟨p,bs,rfl,hS,h⟩
def r_catS{i j:Str}(hn:i.length+j.length<=sizeLine)(h:Q (.str (i++j)) H):rCatS (.str i) (.str j) H Q:=⟨i,j,rfl,rfl,hn,h⟩
def r_inS{i j:Str}(h:Q (.bl (!(aL j i 0 j.length 1).isEmpty)) H):rInS (.str i) (.str j) H Q:=⟨i,j,rfl,rfl,h⟩
def r_lenS{z:Str}(hn:z.length<=sizeLine)(h:Q (.int z.length) H):rLenS [.str z] H Q:=⟨z,rfl,hn,h⟩
def r_ixS{z:Str}{i:Int}{c:Nat}(hn:z.length<=sizeLine)(e:atI z.cps.toList i=some c)(h:Q (.str ⟨#[c]⟩) H):rIxS (.str z) (.int i) H Q:=⟨z,i,c,rfl,rfl,hn,e,h⟩
def r_iS{tl:TE}{R:It->Hp->Prop}(h:tl σ H fun v H1=>rItS v H1 R):iStr tl σ H R:=h
def r_itS{x:Str}{R:It->Hp->Prop}(h:R (Its x) H):rItS (.str x) H R:=⟨x,rfl,h⟩
def r_comp{wi:TI}{caps:List Nat}{tt:CT TT}{te:CT TE}(h:wi σ H fun J H1=>∀(C:Addr)(s:uC)(H0:Hp)(fp:List Addr)(acc:Addr),H1 acc=none->COMP J caps (tt C s H0 fp) (te C s H0 fp) acc σ (upd H1 acc (.lst [])) Q):tComp wi caps tt te σ H Q:=h
def r_true{Q:Bool->Hp->Prop}(h:Q true H):tTrue σ H Q:=h
def r_app{acc:Addr}{N:Hp->Prop}{y:V}{ys:List V}(ha:H acc=some (.lst ys))(hz:ys.length<sizeLine)(h:N (upd H acc (.lst (ys++[y])))):rApp acc N y H:=⟨ys,ha,hz,h⟩
def c_by{J:It}{caps:List Nat}{tt:TT}{te:TE}{acc:Addr}(n:Nat)(Pv:Nat->Hp->Prop)(h0:Pv 0 H)(hgo:∀i H,i<n->Pv i H->J.go i H)(hst:∀H,Pv n H->J.stop n H)
  (hs:∀i H v H',i<n->Pv i H->J.yld i H v H'->tt (some v::qcb caps σ) H' fun b H2=>if b=true then te (some v::qcb caps σ) H2 fun y H3=>rApp acc (Pv (i+1)) y H3 else Pv (i+1) H2)
  (hd:∀H,Pv n H->Q (.ref acc) H):COMP J caps tt te acc σ H Q:=by
 refine⟨fun i m H=>m=n-i/\i<=n/\Pv i H,⟨n,rfl,wR _,h0⟩,?_⟩;rintro i m H ⟨rfl,hi,p⟩;by_cases hlt:i<n
 .exact .inr ⟨hgo i H hlt p,Pv (i+1),fun H' p'=>⟨n-(i+1),↑∅,rfl,hlt,p'⟩,fun v H' y=>hs i H v H' hlt p y⟩
 .have e:i=n:=by omega
  subst e;exact .inl ⟨hst H p,hd H p⟩
end
section
variable{X:Cx}
def rRep:R2:=fun x y H Q=>∃z n,x=.str z/\y=.int n/\0<=n/\n<=1/\Q (.str (if n<1 then Str.empty else z)) H
def rIntB:List V->Hp->VK->Prop:=fun xs H Q=>∃b:Bool,xs=[.bl b]/\Q (.int (if b then 1 else 0)) H
def call_intB:qcr X (.type "int") rIntB:=by
 intro pins s σ H xs us Q I r h;obtain⟨b,rfl,q⟩:=h
 cases r with
 |cons r1 r2=>
  cases r2
  cases r1
  exact call_int_bool ⟨.int _,H,I.tok _,⟨_,rfl⟩,q⟩
end
section
variable{H:Hp}{Q:VK}
def r_intB{b:Bool}(h:Q (.int (if b then 1 else 0)) H):rIntB [.bl b] H Q:=⟨b,rfl,h⟩
end
section
variable{prog:uY}{w:vL}{A:vR}{E:uB->uC->Prop}{h:vQ}{g:Array GenState}{d:Drawn}{t:Nat}{os:OsState}
variable{nm q:Str}{C N fI:Addr}{bs bm bmB:List uB}{hdct:Bool}{sn:List Str}{sub:List uB}{ab:Bool}{col:Option Bool}{dd:Option Addr}{k0 k1 k2 k3 k5:Option uB}{B Bn newId nid initId inN:String}{bmN:List uB}
def qda(h:vQ)(C:Addr)(rest:List uB):vQ:=(h.push {cls:=.type "tuple",data:=.seq rest.toArray}).push {cls:=.ref C,data:=.fields #[.ref h.objs.size,.none,.none,.none,.bool false,.none]}
def qgd(Fn:bV Bn newId inN bmN)(hBn:bmB.contains (.type Bn)=true)(F:bV B nid initId bmB)(T:OwnTail h bmB bm){mN:Str->Option uB}{rest:List uB}{Q:Fin->uC->Prop}
  (hC:h.get? C=some (bM nm q C N bs bm hdct sn sub ab col dd k0 k1 k2 k3 k5 newId))(hn:h.Ns N mN)(hni:mN "__init__"=some (.ref fI))
  (hb:cL (uV prog w) (qda h C rest) (bindSpecial (.ref fI) (.ref (h.objs.size+1))) (.ref fI,[.ref (h.objs.size+1)]))
  (hq:uU (uV prog w) A (call (.ref fI) (.ref (h.objs.size+1)::rest)) (fun v s'=>v=.none/\Q (.done (.ret (.ref (h.objs.size+1)))) s') E ⟨qda h C rest,g,d,t,os⟩)(hrest:rest.length<=sizeLine:=by size_fits):
  uU (uV prog w) A (aG.«type.__call__» ⟨.ref C::rest,[]⟩) Q E ⟨h,g,d,t,os⟩:=by
 repeat (first|with_reducible refine aW hC ?_|with_reducible refine wpAny_madeBy_exc hC ?_|wp_step)
 refine codeAny_call_builtin_code (eW _ Fn.quiet) (wpAny_check_new_subU Fn hBn T hC ?_);refine codeAny_exc_new_subU Fn hBn F T hC ?_ hrest;show uU _ _ _ _ _ _;have hC₁:=uD {cls:=.ref C,data:=.fields #[.ref h.objs.size,.none,.none,.none,.bool false,.none]}
  (uD {cls:=.type "tuple",data:=.seq rest.toArray} hC)
 have hn₁:((h.push {cls:=.type "tuple",data:=.seq rest.toArray}).push {cls:=.ref C,data:=.fields #[.ref h.objs.size,.none,.none,.none,.bool false,.none]}).Ns N mN:=
  let ⟨o,es,ep,e,r⟩:=hn;⟨o,es,ep,uD _ (uD _ e),r⟩
 have hget:((h.push {cls:=.type "tuple",data:=.seq rest.toArray}).push
   {cls:=.ref C,data:=.fields #[.ref h.objs.size,.none,.none,.none,.bool false,.none]}).get? (h.objs.size+1)=some
   {cls:=.ref C,data:=.fields #[.ref h.objs.size,.none,.none,.none,.bool false,.none]}:=by heap_get
 have hcC:(uP C::bm).contains (.ref C)=true:=by simp
 have T₁:=T.keeps (h':=(h.push {cls:=.type "tuple",data:=.seq rest.toArray}).push {cls:=.ref C,data:=.fields #[.ref h.objs.size,.none,.none,.none,.bool false,.none]})
  fun b o e=>uD _ (uD _ e)
 unfold isInstance
 repeat (first|with_reducible refine aW hget ?_|(with_reducible refine wpAny_isSubtype_exc hC₁ ?_;rw[hcC]) |wp_step)
 show uU _ _ (typeLookup (.ref C) _) _ _ _;refine wpAny_typeLookup_tail hC₁ hn₁ T₁ F.mroIs F.init.lookup ?_;rw[hni];refine wO (uE (hb.at ?_));refine uE (vS hq (fun v s' ⟨ev,q⟩=>?_) fun _ _ x=>x);subst ev
 wp_walk
 exact q
def qh5(Fn:bV Bn newId inN bmN)(hBn:bmB.contains (.type Bn)=true)(F:bV B nid initId bmB)(T:OwnTail h bmB bm){mN:Str->Option uB}{rest:List uB}{Q:uB->uC->Prop}
  (hC:h.get? C=some (bM nm q C N bs bm hdct sn sub ab col dd k0 k1 k2 k3 k5 newId))(hn:h.Ns N mN)(hni:mN "__init__"=some (.ref fI))
  (hb:cL (uV prog w) (qda h C rest) (bindSpecial (.ref fI) (.ref (h.objs.size+1))) (.ref fI,[.ref (h.objs.size+1)]))
  (hq:uU (uV prog w) (A.under (.builtin "type.__call__" ⟨.ref C::rest,[]⟩)) (call (.ref fI) (.ref (h.objs.size+1)::rest)) (fun v s'=>v=.none/\Q (.ref (h.objs.size+1)) s') E ⟨qda h C rest,g,d,t,os⟩)(hrest:rest.length<=sizeLine:=by size_fits):
  uU (uV prog w) A (call (.ref C) rest) Q E ⟨h,g,d,t,os⟩:=by
 have f1:=tc_lookup;have f2:=tc_bind (.ref C);have hT:(⟨h,g,d,t,os⟩:uC).TypeIs (.ref C) "type":=⟨_,hC,rfl⟩;refine yV (codeAny_of_tree ?_);show uU _ _ (callAny (.ref C) _) _ _ _
 repeat (any_goals (first|assumption|with_reducible refine aW hC ?_|wp_step))
 refine⟨rfl,?_⟩;refine codeAny_call_builtin_at (eW _ (by decide+kernel)) entry_typeCall (wpAny_check_type_call_sub hC (qgd (hrest:=hrest) Fn hBn F T hC hn hni hb ?_));exact hq
def qge{env:Env}{M:Model}{s:uC}{x:Sem uB}{Q:Flow->uC->Prop}(hbase:bm.contains (.type "BaseException")=true)(hh:A.handled=none)
  (h:uU M A x (fun v s₁=>∃e oe,v=.ref e/\s₁.heap.get? C=some (bM nm q C N bs bm hdct sn sub ab col dd k0 k1 k2 k3 k5 newId)/\
   s₁.heap.get? e=some oe/\oe.cls=.ref C/\(∃vs,oe.data=.fields vs/\vs[1]?=some .none)/\E (.ref e) s₁) E s):
  uU M A (raiseStmt env (some x) none) Q E s:=by
 have hcB:(uP C::bm).contains (.type "BaseException")=true:=by rw[List.contains_cons,hbase,Bool.or_true]
 unfold raiseStmt;refine uE (vS h (fun v s₁ h₁=>?_) fun _ _ x=>x);obtain⟨e,oe,rfl,hC,he,hcls,⟨vs,hd,h1⟩,hE⟩:=h₁;obtain⟨hp,g,d,tk,os⟩:=s₁;obtain⟨oc,odd,oda,osl⟩:=oe;obtain rfl:oc=.ref C:=hcls;obtain rfl:oda=.fields vs:=hd
 repeat (first|with_reducible refine aW he ?_|with_reducible refine aW hC ?_|(with_reducible refine wpAny_isSubtype_exc hC ?_;rw[hcB]) |wp_step)
 rw[h1];refine uW ?_;rw[gI ∅];exact uW (wpAny_raiseNew_none hh hE)
def qgb{env:Env}{s:uC}(Fn:bV Bn newId inN bmN)(hBn:bmB.contains (.type Bn)=true)(F:bV B nid initId bmB){mN:Str->Option uB}{x:Str}{np cpos pos:Pos}{args:List vV}{Q:Flow->uC->Prop}
  (hbase:bm.contains (.type "BaseException")=true)(hh:A.handled=none)(hplain:(wP cpos (uZ args env)).any (·.1)=false)(hni:mN "__init__"=some (.ref fI))
  (h:uU (uV prog w) A (wL (.Name x np) env) (fun f s₁=>f=.ref C/\uU (uV prog w) A (evalArgs (.ref C) true (wP cpos (uZ args env)) [])
   (fun a s₂=>a.kw=[]/\a.pos.length<=sizeLine/\s₂.heap.get? C=some (bM nm q C N bs bm hdct sn sub ab col dd k0 k1 k2 k3 k5 newId)/\s₂.heap.Ns N mN/\OwnTail s₂.heap bmB bm/\
    cL (uV prog w) (qda s₂.heap C a.pos) (bindSpecial (.ref fI) (.ref (↑s₂+1))) (.ref fI,[.ref (↑s₂+1)])/\
    uU (uV prog w) (A.under (.builtin "type.__call__" ⟨.ref C::a.pos,[]⟩)) (call (.ref fI) (.ref (↑s₂+1)::a.pos))
     (fun v s'=>v=.none/\s'.heap.get? C=some (bM nm q C N bs bm hdct sn sub ab col dd k0 k1 k2 k3 k5 newId)/\(∃oe,s'.heap.get? (↑s₂+1)=some oe/\oe.cls=.ref C/\∃vs,oe.data=.fields vs/\vs[1]?=some .none)/\E (.ref (↑s₂+1)) s') E {s₂ with heap:=qda s₂.heap C a.pos}) E s₁) E s):
  uU (uV prog w) A (exec (.Raise (some (.Call (.Name x np) args [] cpos)) none pos) env) Q E s:=by
 rw[arm_exec_Raise]
 first
  |refine uE (xJ (qge (C:=C) (nm:=nm) (q:=q) (N:=N) (bs:=bs) (bm:=bm) (hdct:=hdct) (sn:=sn) (sub:=sub) (ab:=ab) (col:=col) (dd:=dd) (k0:=k0) (k1:=k1) (k2:=k2) (k3:=k3) (k5:=k5) (newId:=newId) hbase hh (uE (vS (wpAny_Call_ofName (vS h (fun f s₁ h₁=>?_) fun _ _ x=>x)) (fun v s₃ h₃=>uE (xJ (uW h₃))) fun _ _ x=>x))))
  |(simp only[evalOpt,Option.map];refine uE (xJ (qge (C:=C) (nm:=nm) (q:=q) (N:=N) (bs:=bs) (bm:=bm) (hdct:=hdct) (sn:=sn) (sub:=sub) (ab:=ab) (col:=col) (dd:=dd) (k0:=k0) (k1:=k1) (k2:=k2) (k3:=k3) (k5:=k5) (newId:=newId) hbase hh (uE (vS (wpAny_Call_ofName (vS h (fun f s₁ h₁=>?_) fun _ _ x=>x)) (fun v s₃ h₃=>uE (xJ (uW h₃))) fun _ _ x=>x)))))
 obtain⟨rfl,h₁⟩:=h₁;unfold dM;refine uE (wO (vS h₁ (fun a s₂ h₂=>uE (xJ ?_)) fun _ _ x=>x));obtain⟨apos,akw⟩:=a;obtain⟨hkw,hlen,hC,hn,T,hb,h₂⟩:=h₂;obtain rfl:akw=[]:=hkw;obtain⟨hp,g,d,tk,os⟩:=s₂;simp only[hplain];refine uE (wpAny_keeperOf_exc hC ?_);refine uE (qh5 (hrest:=hlen) Fn hBn F T hC hn hni hb (vS h₂ (fun v s' ⟨e1,e2,⟨oe,e3,e4,e6⟩,e5⟩=>⟨e1,uE (wO (wpAny_point (uW ?_)))⟩) fun _ _ x=>x));exact⟨_,oe,rfl,e2,e3,e4,e6,e5⟩
end
def onlyVE:List uB->Bool
 | .ref _::r=>onlyVE r
 | [.type a,.type b,.type c,.type e]=>a== "ValueError" && b== "Exception" && c== "BaseException" && e== "object"
 |_=>false
def overVE(K:uS)(C:Addr):Bool:=(PySem.W.clsIn K C).any fun cd=>onlyVE cd.mro
section
variable{K:uS}{C:Addr}
open PySem.W in
open PySem.W in
open PySem.W in
open PySem.W in
structure XAt(K:uS)(C:Addr):Prop where
 ga:vY K (.ref C) "__getattribute__"=some (some (.builtin "BaseException.__getattribute__"))
 gn:vY K (.ref C) "__getattr__"=some none
 mb:mroIn K C (.type "BaseException")=some true
 mo:mroIn K C (.type "object")=some true
 hd:fZ K C=true
 cl:vY K (.ref C) "__class__"=some (some (.builtin "object.__class__"))
 sp:dQ K (.builtin "object.__class__") "__get__"=some (some (.builtin "getset_descriptor.__get__"))
 tk:PySem.W.takesIn K (.builtin "object.__class__")=some true
 sa:vY K (.ref C) "__setattr__"=some (some (.builtin "object.__setattr__"))
 po:overVE K C=true
open PySem.W in
open PySem.W in
end
def XS(a C:Addr)(d:Option Addr):HO:=.ext fun h=>∃(oe:Obj)(vs:Array uB),h.get? a=some oe/\oe.cls=.ref C/\oe.dict=d/\oe.data=.fields vs/\vs[1]?=some .none/\(∃t0:Addr,vs[0]?=some (.ref t0))/\∀dx,d=some dx->dx≠a
section
variable{H:Hp}{a C dx:Addr}
def xs_ok{P:uY}{w:vL}{H:Hp}{h:vQ}{d:Option Addr}(x:∃(oe:Obj)(vs:Array uB),h.get? a=some oe/\oe.cls=.ref C/\oe.dict=d/\oe.data=.fields vs/\vs[1]?=some .none/\(∃t0:Addr,vs[0]?=some (.ref t0))/\∀dx,d=some dx->dx≠a):qbv P w H h a (XS a C d):=by
 obtain⟨oe,vs,h1,h2⟩:=id x;exact⟨x,⟨oe,h1⟩,fun h1 h2 ⟨oe,vs,z,zz⟩ k=>⟨oe,vs,k _ z,zz⟩⟩
def xs_get{P:uY}{w:vL}{h:vQ}{d:Option Addr}(x:HOk P w H h)(e:H a=some (XS a C d)):∃(oe:Obj)(vs:Array uB),h.get? a=some oe/\oe.cls=.ref C/\oe.dict=d/\oe.data=.fields vs/\vs[1]?=some .none/\(∃t0:Addr,vs[0]?=some (.ref t0))/\∀dx,d=some dx->dx≠a:=
 (show qbv P w H h a (XS a C d) from x a _ e).1
end
def del(H:Hp)(a:Addr):Hp:=fun b=>if b=a then none else H b
def qdw{H:Hp}{a:Addr}:del H a a=none:=by unfold del;rw[gJ rfl]
def qe1{H:Hp}{a b:Addr}(h:b≠a):del H a b=H b:=by unfold del;rw[gI h]
section
variable{X:Cx}{pins:List (Addr×Obj)}{σ:L2.St}{H:Hp}{s:uC}{a:Addr}{φ:vQ->Prop}
theorem Inv.del(I:Inv X pins σ H s)(e:H a=some (.ext φ)):Inv X pins σ (My.del H a) s:=by
 have ne:∀b o,H b=some o->(∀φ,o≠ .ext φ)->b≠a:=fun b o q d z=>by rw[z,e] at q;cases q;exact d _ rfl
 refine⟨I.ok,I.os,I.bare,⟨I.base.keep,I.base.slot,fun b o q n hx=>?_,I.base.there,fun b xs q=>?_,fun b o u q=>?_,fun b ps q=>?_⟩,I.loc,I.cell,?_,fun x c q=>?_,fun p hp=>?_,fun b o q=>?_,I.len⟩
 .have z:=I.base.free b o q n hx;by_cases hb:b=a
  .rw[hb];exact qdw
  .rw[qe1 hb];exact z
 .have z:=I.base.tups b xs q;rw[qe1 (ne _ _ z (by intro φ y;cases y))];exact z
 .have z:=I.base.frzs b o u q;rw[qe1 (ne _ _ z (by intro φ y;cases y))];exact z
 .obtain⟨more,z⟩:=I.base.tbls b ps q;exact⟨more,by rw[qe1 (ne _ _ z (by intro φ y;cases y))];exact z⟩
 .by_cases hb:X.env.locals=a
  .rw[hb];exact qdw
  .rw[qe1 hb];exact I.free
 .by_cases hb:c=a
  .rw[hb];exact qdw
  .rw[qe1 hb];exact I.freeC x c q
 .obtain⟨z,n,l⟩:=I.pin p hp;refine⟨z,?_,l⟩;by_cases hb:p.1=a
  .rw[hb];exact qdw
  .rw[qe1 hb];exact n
 .have hb:b≠a:=fun z=>by rw[z,qdw] at q;cases q
  rw[qe1 hb] at q;exact(I.hok b o q).stay (fun _ _ _ q=>q) (fun c q=>by rw[qe1 (ne _ _ q (by intro φ y;cases y))];exact q) fun c xs q=>by rw[qe1 (ne _ _ q (by intro φ y;cases y))];exact q
end
structure XClI(K:uS)(C f:Addr):Prop where
 ob:∃(nm q:Str)(N:Addr)(bs bm:List uB)(hdct:Bool)(sn:List Str)(sub:List uB)(ab:Bool)(col:Option Bool)(dd:Option Addr)(k0 k1 k2 k3 k5:Option uB)(mN:Str->Option uB),
  K.lookup C=some (bM nm q C N bs bm hdct sn sub ab col dd k0 k1 k2 k3 k5 "ValueError.__new__")/\(∀h:vQ,K.In h->h.Ns N mN)/\mN "__init__"=some (.ref f)/\
  ∀h:vQ,K.In h->OwnTail h [.type "ValueError",.type "Exception",.type "BaseException",.type "object"] bm
 fn:isFn K (.ref f)=true
section
variable{X:Cx}{k:Nat}{f:Addr}{fd:uK}{ps:List Str}{sp:Sp}{x:Str}{C:Addr}{W:L2.St->XK}{np cpos pos:Pos}{e:vV}{es:List vV}{t:TA}
def tRaiseI(t:TA)(C:Addr)(sp:Sp)(W:L2.St->XK):TS:=fun _ σ H=>t σ H fun xs H1=>xs.length<=sizeLine/\∀a,H1 a=none->sp (.ref a::xs) (upd H1 a (XS a C none)) (fun v H2=>v=.non/\∃d,H2 a=some (XS a C d)/\W σ (.ref C) d (My.del H2 a)) E0
def ps_raiseI(hc:X.calm=true)(M:XClI X.K C f)(F:FnOk X.prog X.w X.K X.mg X.base CX0 k f fd ps sp)(hr:Room (k+1) X.A)(hb:qam X.K fd ps [])(hg:Gl X x)(hm:X.mg x=some (.ref C))(hx:Xes X W)(ha:PA X (e::es) t)(hex:X.ex=[]:=by rfl)(hdb:(x==("__debug__":Str))=false:=by decide)
  (he:uZ (e::es) X.env=(false,wL e X.env)::uZ es X.env:=by rfl) (hpl:(wP cpos (uZ es X.env)).any (·.1)=false:=by rfl):
  PS X (.Raise (some (.Call (.Name x np) (e::es) [] cpos)) none pos) (tRaiseI t C sp W):=by
 intro pins s σ H D I h;obtain⟨nm,q,N,bs,bm,hdct,sn,sub,ab,col,dd,k0,k1,k2,k3,k5,mN,hC,hN,hni,T⟩:=M.ob;refine qgb (C:=C) (fI:=f) (nm:=nm) (q:=q) (N:=N) (bs:=bs) (bm:=bm) (hdct:=hdct) (sn:=sn) (sub:=sub) (ab:=ab) (col:=col) (dd:=dd) (k0:=k0) (k1:=k1) (k2:=k2) (k3:=k3) (k5:=k5)
  yX ∅ yX (mN:=mN) ((T _ I.kIn).hasType PySem.F.excBase_ValueError.hasBase) (I.ok.hd hc) ?_ hni ?_
 .rw[he];show(false ||(wP cpos (uZ es X.env)).any (·.1))=false;rw[hpl];rfl
 .refine qdn I hg hm ⟨rfl,?_⟩ hdb;have z:=ha cpos pins s σ H _ I h;rw[he] at z⊢;refine bL (vS z (fun us s2 ⟨vs,H2,I2,r,hl,q⟩=>?_) fun _ _ y=>y);have ea:(qda s2.heap C us).get? (↑s2+1)=some {cls:=.ref C,data:=.fields #[.ref ↑s2,.none,.none,.none,.bool false,.none]}:=by
   have:=vC (s2.heap.push {cls:=.type "tuple",data:=.seq us.toArray}) (o:={cls:=.ref C,data:=.fields #[.ref ↑s2,.none,.none,.none,.bool false,.none]}) rfl
   rwa [aS] at this
  have hn:H2 (↑s2+1)=none:=I2.hok.fresh (xQ _);have I3:Inv X pins σ (upd H2 (↑s2+1) (XS (↑s2+1) C none)) {s2 with heap:=qda s2.heap C us}:=
   I2.laid (t':=s2.toks) (fun b o y=>uD _ (uD _ y)) (xQ _) (xs_ok ⟨_,_,ea,rfl,rfl,rfl,rfl,⟨_,rfl⟩,fun dx y=>by cases y⟩)
  have q:=q _ hn;refine⟨rfl,by rw[<-r.length];exact hl,I2.kIn _ _ hC,hN _ I2.kIn,T _ I2.kIn,PySem.W.bind_fn I3.kIn _ (beq_iff_eq.mp M.fn),?_⟩;have r2:qbk (V.ref (↑s2+1)::vs) (uP (↑s2+1)::us):=.cons rfl r;have hln:(uP (↑s2+1)::us++[]).length=ps.length:=by rw[zY,<-r2.length];exact F.len _ _ _ _ q
  have hb':=hb {s2 with heap:=qda s2.heap C us} (uP (↑s2+1)::us) I3.kIn hln;rw[zY] at hb';refine yV (xA (F.run _ X.stack _ _ ⟨uP (↑s2+1)::us,[]⟩ (uP (↑s2+1)::us) _ _ E0 (hr.make C us []) (I3.env0.make C us []) hb' r2 q) fun r s' hq'=>?_)
  cases r with
  |error e=>exact vO hq'
  |ok fl=>
   cases fl with
   |ret u=>
    obtain⟨v,H',I4,rv,ev,d,e4,q4⟩:=I3.after hq';subst ev;obtain⟨oe,ws,g1,g2,g3,g4,g5,g6,g7⟩:=xs_get I4.hok e4;refine⟨rv,I4.kIn _ _ hC,⟨oe,g1,g2,ws,g4,g5⟩,?_⟩;have new:s2.heap.get? (↑s2+1)=none:=yS (xQ _);refine hx pins σ _ _ _ (.ref C) d (Inv.del I4 e4) ⟨⟨qgg I2 hex new,qdw,fun p hp y=>?_,⟨_,_,g1,g4⟩⟩,.inl ⟨_,_,g1,g2,g3,g4,g5⟩⟩ q4;have w:=(I2.pin p hp).1;rw[y,new] at w
    cases w
   |next=>exact vO hq'
   |brk=>exact vO hq'
   |cont=>exact vO hq'
end
section
variable{X:Cx}
inductive PJ(X:Cx):List vV->List TE->Prop
 |nil:PJ X [] []
 |cons{e:vV}{es:List vV}{t:TE}{ts:List TE}(h:PE X e t)(r:PJ X es ts):PJ X (e::es) (t::ts)
end
structure XBase(K:uS)(T:Addr):Prop where
 ga:dQ K (.ref T) "__getattribute__"=some (some (.builtin "type.__getattribute__"))
 rd:PySem.W.readsIn K T (.type "type")=true
 at_:PySem.W.findCls K (.ref T) (.type "type") "__init__"=some (.val (.builtin "ValueError.__init__"))
open PySem.MeetsSeq PySem.MeetsSeq2 PySem.MeetsSeq3 PySem.SeqRoads2
def EqW(P:uY)(w:vL)(A:vR)(s:uC)(y x:uB)(b:Bool):Prop:=∀(E:uB->uC->Prop)(Q:Bool->uC->Prop),Q b s->uU (uV P w) A (eqBool y x) Q E s
def opN:Bool->CmpOp
 |false=> .Eq
 |true=> .NotEq
def RcW(P:uY)(w:vL)(A:vR)(s:uC)(ne:Bool)(y x:uB)(b:Bool):Prop:=∀(E:uB->uC->Prop)(Q:uB->uC->Prop),Q (.bool b) s->uU (uV P w) A (richCompare (opN ne) y x) Q E s
def codeN:Bool->Int
 |false=>2
 |true=>3
abbrev lo(dd:Option Addr)(xs:Array uB)(n:Nat)(sl:Array (Option uB)):Obj:={cls:=.type "list",dict:=dd,data:=.seq xs n,slots:=sl}
abbrev tob(dd:Option Addr)(xs:Array uB)(n:Nat)(sl:Array (Option uB)):Obj:={cls:=.type "tuple",dict:=dd,data:=.seq xs n,slots:=sl}
section
variable{P:uY}{w:vL}{A:vR}{s:uC}{l b:Addr}{k:Bool}
def EqW.of{y x:uB}(h:SeqAt.EqAt A s y x k):EqW P w A s y x k:=fun E Q q=>h P w E Q q
def EqW.refs(hn:l≠b)(h:RcW P w A s false (.ref l) (.ref b) k):EqW P w A s (.ref l) (.ref b) k:=fun E Q q=>by
 unfold eqBool;refine wO (wpAny_ite_split (fun z=>?_) fun _=>uE (h E _ (wQ q)));have z':=eq_of_beq z;injection z' with z'
 exact absurd z' hn
abbrev Fin1(P:uY)(w:vL)(A:vR)(R:Result->uC->Prop):PySem.Fin->uC->Prop:=fun f s'=>match f with| .done r=>R (.ok r) s'| .again c=>c.quiet=true/\bI (uV P w) A c R s'
def loopW(ne:Bool){xs ys:Array uB}{n m:Nat}{d1 d2:Option Addr}{s1 s2:Array (Option uB)}(hz:xs.size=ys.size)(f:Nat->Bool)(r:Nat):∀(i:Nat),xs.size-i=r->∀(A:vR)(R:Result->uC->Prop)(s:uC),s.heap.get? l=some (lo d1 xs n s1)->s.heap.get? b=some (lo d2 ys m s2)->
  (∀j (h1:j<xs.size) (h2:j<ys.size),EqW P w A.in1 s xs[j] ys[j] (f j))->R (.ok (.ret (.bool (ne !=((vG xs.size).drop i).all f)))) s->
  uU (uV P w) A.in1 (aG.«list.__eq__.loop» ⟨[.ref l,.ref b,aJ i,aJ (codeN ne)],[]⟩) (Fin1 P w A R) (fun e s'=>R (.error e) s') s:=by
 induction r with
 |zero=>
  intro i hr A R s hl hb he q;obtain⟨hp,g,d,tk,os⟩:=s;have t1:xs[((i:Nat):Int).toNat]?=none:=by simp;omega
  have t2:ys[((i:Nat):Int).toNat]?=none:=by simp;omega
  have t3:(vG xs.size).drop i=[]:=by simp;omega
  rw[t3] at q
  cases ne with
  |false=>
   wp_walk using uO hl,uO hb
   rw[t1,t2]
   wp_walk using uO hl,uO hb
   show R (.ok (.ret (.bool (xs.size==ys.size)))) _;rw[hz];simpa using q
  |true=>
   wp_walk using uO hl,uO hb
   rw[t1,t2]
   wp_walk using uO hl,uO hb
   show R (.ok (.ret (.bool (xs.size !=ys.size)))) _;rw[hz];simpa using q
 |succ r ih=>
  intro i hr A R s hl hb he q;obtain⟨hp,g,d,tk,os⟩:=s;have j1:i<xs.size:=by omega
  have j2:i<ys.size:=by omega
  have t1:xs[((i:Nat):Int).toNat]?=some xs[i]:=by simp[j1]
  have t2:ys[((i:Nat):Int).toNat]?=some ys[i]:=by simp[j2]
  have t3:(vG xs.size).drop i=i ::(vG xs.size).drop (i+1):=by simp[yZ,j1]
  have t4:((i:Int)+1)=((i+1:Nat):Int):=by push_cast;rfl
  rw[t3,yO] at q
  cases ne with
  |false=>
   wp_walk using uO hl,uO hb
   rw[t1,t2];refine uE (he i j1 j2 _ _ ?_)
   cases hf:f i with
   |true=>
    rw[hf] at q
    wp_walk
    rw[t4];refine⟨cN xX _,xW eG ?_⟩;rw[xI xX _];exact ih (i+1) ↑∅ A R _ hl hb he (by simpa using q)
   |false=>
    rw[hf] at q
    wp_walk using uO hl,uO hb
    rw[t1,t2]
    wp_walk
    simpa using q
  |true=>
   wp_walk using uO hl,uO hb
   rw[t1,t2];refine uE (he i j1 j2 _ _ ?_)
   cases hf:f i with
   |true=>
    rw[hf] at q
    wp_walk
    rw[t4];refine⟨cN xX _,xW eG ?_⟩;rw[xI xX _];exact ih (i+1) ↑∅ A R _ hl hb he (by simpa using q)
   |false=>
    rw[hf] at q
    wp_walk using uO hl,uO hb
    rw[t1,t2]
    wp_walk
    simpa using q
def listW(ne:Bool){xs ys:Array uB}{n m:Nat}{d1 d2:Option Addr}{s1 s2:Array (Option uB)}(hz:xs.size=ys.size)(f:Nat->Bool){R:Result->uC->Prop}(hl:s.heap.get? l=some (lo d1 xs n s1))(hb:s.heap.get? b=some (lo d2 ys m s2))
  (he:∀j (h1:j<xs.size) (h2:j<ys.size),EqW P w A.in1 s xs[j] ys[j] (f j))(q:R (.ok (.ret (.bool (ne !=(vG xs.size).all f)))) s):
  uU (uV P w) A.in1 ((if ne=true then aG.«list.__ne__» else aG.«list.__eq__») ⟨[.ref l,.ref b],[]⟩) (Fin1 P w A R) (fun e s'=>R (.error e) s') s:=by
 obtain⟨hp,g,d,tk,os⟩:=s;have f3:=AutoSeq1.sub_list_list;have z0:¬(xs.size !=ys.size)=true:=by simp[hz]
 cases ne with
 |false=>
  show uU _ _ (aG.«list.__eq__» _) _ _ _
  wp_walk using uO hl,uO hb
  refine⟨cN xX _,xW eG ?_⟩;rw[xI xX _];exact loopW false hz f _ 0 rfl A R _ hl hb he (by simpa using q)
 |true=>
  show uU _ _ (aG.«list.__ne__» _) _ _ _
  wp_walk using uO hl,uO hb
  refine⟨cN xX _,xW eG ?_⟩;rw[xI xX _];exact loopW true hz f _ 0 rfl A R _ hl hb he (by simpa using q)
def callW{T id:String}{name:Str}{B:aG}{self:uB}{rest:List uB}{E Q:uB->uC->Prop}(slot:Slot T name id)(hT:s.TypeIs self T)(entry:entryFor table id=some B)(args:argsOk id ⟨self::rest,[]⟩)
  (h:uU (uV P w) A.in1 (B ⟨self::rest,[]⟩) (Fin1 P w A (wants Q E)) (fun e s'=>wants Q E (.error e) s') s):uU (uV P w) A (call (.builtin id) (self::rest)) Q E s:=
 yV (codeAny_call_builtin slot.plain entry (slot.check _ _ _ _ _ _ _ _ hT args h))
def RcW.lists(ne:Bool){xs ys:Array uB}{f:Nat->Bool}(hl:s.heap.IsList l xs)(hb:s.heap.IsList b ys)(hz:xs.size=ys.size)(hu:A.units<cLine)(he:∀j (h1:j<xs.size) (h2:j<ys.size),EqW P w A.in1 s xs[j] ys[j] (f j)):
  RcW P w A s ne (.ref l) (.ref b) (ne !=(vG xs.size).all f):=fun E Q q=>by
 obtain⟨⟨c1,d1,e1,s1⟩,ho,hc,n,hd⟩:=id hl;obtain⟨⟨c2,d2,e2,s2⟩,ho2,hc2,m,hd2⟩:=id hb;simp only at hc hd hc2 hd2;subst hc hd hc2 hd2;have q':eJ (ne !=(vG xs.size).all f)≠Value.notImplemented/\Q (.bool (ne !=(vG xs.size).all f)) s:=⟨(fun x=>nomatch x),q⟩
 cases ne with
 |false=>exact yQ (op:=.Eq) ⟨_,ho,rfl⟩ ⟨_,ho2,rfl⟩ F.slot_list_eq (callW F.slot_list_eq ⟨_,ho,rfl⟩ F.entry_list_eq (F.args_list_eq_2 _ _) (listW (R:=wants (fun v s'=>v≠ .notImplemented/\Q v s') E) false hz f ho ho2 he q')) hu
 |true=>exact yQ (op:=.NotEq) ⟨_,ho,rfl⟩ ⟨_,ho2,rfl⟩ F.slot_list_ne (callW F.slot_list_ne ⟨_,ho,rfl⟩ F.entry_list_ne (F.args_list_ne_2 _ _) (listW (R:=wants (fun v s'=>v≠ .notImplemented/\Q v s') E) true hz f ho ho2 he q')) hu
def RcW.listsN(ne:Bool){xs ys:Array uB}(hl:s.heap.IsList l xs)(hb:s.heap.IsList b ys)(hz:(xs.size !=ys.size)=true)(hu:A.units<cLine):RcW P w A s ne (.ref l) (.ref b) (ne !=false):=fun E Q q=>by
 cases ne with
 |false=>exact SeqAt.RcAt.lists_lengths hl hb hz hu P w E Q q
 |true=>exact SeqAt.RcNeAt.lists_lengths hl hb hz hu P w E Q q
def tupW(ne:Bool){xs ys:Array uB}{n m:Nat}{d1 d2:Option Addr}{s1 s2:Array (Option uB)}(f:Nat->Bool){E Q:uB->uC->Prop}(hl:s.heap.get? l=some (tob d1 xs n s1))(hb:s.heap.get? b=some (tob d2 ys m s2))
  (he:∀j (h1:j<xs.size) (h2:j<ys.size),EqW P w A.in1 s xs[j] ys[j] (f j))(q:Q (.bool (ne !=((vG (min xs.size ys.size)).all f && xs.size==ys.size))) s):
  uU (uV P w) A.in1 ((if ne=true then aG.«tuple.__ne__» else aG.«tuple.__eq__») ⟨[.ref l,.ref b],[]⟩) (fun fin s'=>∃v,fin=.done (.ret v)/\Q v s') E s:=by
 obtain⟨hp,g,d,tk,os⟩:=s;have f2:=AutoSeq1.sub_tuple_tuple;have hZ:(xs.toList.zip ys.toList).length=min xs.size ys.size:=by simp
 have turn:∀(x y:uB)(rest:List (uB×uB))(i:Nat),(x,y)::rest=(xs.toList.zip ys.toList).drop i->∃(h1:i<xs.size)(h2:i<ys.size),x=xs[i]/\y=ys[i]/\rest=(xs.toList.zip ys.toList).drop (i+1)/\(vG (min xs.size ys.size)).drop i=i ::(vG (min xs.size ys.size)).drop (i+1):=fun x y rest i hz=>by
  have hlt:i <(xs.toList.zip ys.toList).length:=by
   rcases bW i (xs.toList.zip ys.toList).length with z|z
   .exact z
   .rw[List.drop_of_length_le z] at hz;cases hz
  have hm:i<min xs.size ys.size:=hZ▸hlt;have h1:i<xs.size:=vD hm (Nat.min_le_left _ _);have h2:i<ys.size:=vD hm (Nat.min_le_right _ _);rw[yZ hlt] at hz;injection hz with hxy hrest
  exact⟨h1,h2,by have:=congrArg Prod.fst hxy;simpa using this,by have:=congrArg Prod.snd hxy;simpa using this,hrest,by simp[yZ,hm]⟩
 have last:∀i:Nat,[]=(xs.toList.zip ys.toList).drop i->(vG (min xs.size ys.size)).drop i=[]:=fun i hz=>by
  have hge:min xs.size ys.size<=i:=by
   rcases bW i (xs.toList.zip ys.toList).length with z|z
   .rw[yZ z] at hz;cases hz
   .exact hZ▸z
  exact List.drop_of_length_le (by simpa using hge)
 cases ne with
 |false=>
  show uU _ _ (aG.«tuple.__eq__» _) _ _ _
  wp_walk using uO hl,uO hb,wpAny_forIn_list _ (fun rest c s'=>c.1=none/\s'=⟨hp,g,d,tk,os⟩/\∃i,rest=(xs.toList.zip ys.toList).drop i/\Q (.bool (((vG (min xs.size ys.size)).drop i).all f && xs.size==ys.size)) ⟨hp,g,d,tk,os⟩) _
  case turn=>
   rintro⟨x,y⟩ rest c s' ⟨hc,rfl,i,hz,hR⟩;obtain⟨h1,h2,rfl,rfl,hrest,hd⟩:=turn x y rest i hz;rw[hd,yO] at hR;refine uE (he i h1 h2 _ _ ?_)
   cases hf:f i with
   |true=>
    rw[hf] at hR
    wp_walk
    exact⟨rfl,rfl,i+1,hrest,by simpa using hR⟩
   |false=>
    rw[hf] at hR
    wp_walk
    exact⟨_,rfl,by simpa using hR⟩
  case fin=>
   rintro⟨c1,c2⟩ s' ⟨hc,rfl,i,hz,hR⟩;simp only at hc;subst hc;rw[last i hz] at hR
   wp_walk
   exact⟨_,rfl,by simpa[fY] using hR⟩
  case h=>exact⟨rfl,rfl,0,rfl,by simpa using q⟩
 |true=>
  show uU _ _ (aG.«tuple.__ne__» _) _ _ _
  wp_walk using uO hl,uO hb,wpAny_forIn_list _ (fun rest c s'=>c.1=none/\s'=⟨hp,g,d,tk,os⟩/\∃i,rest=(xs.toList.zip ys.toList).drop i/\Q (.bool (!(((vG (min xs.size ys.size)).drop i).all f && xs.size==ys.size))) ⟨hp,g,d,tk,os⟩) _
  case turn=>
   rintro⟨x,y⟩ rest c s' ⟨hc,rfl,i,hz,hR⟩;obtain⟨h1,h2,rfl,rfl,hrest,hd⟩:=turn x y rest i hz;rw[hd,yO] at hR;refine uE (he i h1 h2 _ _ ?_)
   cases hf:f i with
   |true=>
    rw[hf] at hR
    wp_walk
    exact⟨rfl,rfl,i+1,hrest,by simpa using hR⟩
   |false=>
    rw[hf] at hR
    wp_walk
    exact⟨_,rfl,by simpa using hR⟩
  case fin=>
   rintro⟨c1,c2⟩ s' ⟨hc,rfl,i,hz,hR⟩;simp only at hc;subst hc;rw[last i hz] at hR
   wp_walk
   exact⟨_,rfl,by simpa[fY,bne] using hR⟩
  case h=>exact⟨rfl,rfl,0,rfl,by simpa using q⟩
def RcW.tuples(ne:Bool){xs ys:Array uB}{f:Nat->Bool}(hl:s.heap.IsTuple l xs)(hb:s.heap.IsTuple b ys)(hu:A.units<cLine)(he:∀j (h1:j<xs.size) (h2:j<ys.size),EqW P w A.in1 s xs[j] ys[j] (f j)):
  RcW P w A s ne (.ref l) (.ref b) (ne !=((vG (min xs.size ys.size)).all f && xs.size==ys.size)):=fun E Q q=>by
 obtain⟨⟨c1,d1,e1,s1⟩,ho,hc,n,hd⟩:=id hl;obtain⟨⟨c2,d2,e2,s2⟩,ho2,hc2,m,hd2⟩:=id hb;simp only at hc hd hc2 hd2;subst hc hd hc2 hd2
 cases ne with
 |false=>exact yQ (op:=.Eq) ⟨_,ho,rfl⟩ ⟨_,ho2,rfl⟩ F.slot_tuple_eq (gF F.slot_tuple_eq ⟨_,ho,rfl⟩ F.entry_tuple_eq (tupW (Q:=fun v s'=>v≠ .notImplemented/\Q v s') false f ho ho2 he ⟨(fun x=>nomatch x),q⟩) (F.args_tuple_eq_2 _ _)) hu
 |true=>exact yQ (op:=.NotEq) ⟨_,ho,rfl⟩ ⟨_,ho2,rfl⟩ F.slot_tuple_ne (gF F.slot_tuple_ne ⟨_,ho,rfl⟩ F.entry_tuple_ne (tupW (Q:=fun v s'=>v≠ .notImplemented/\Q v s') true f ho ho2 he ⟨(fun x=>nomatch x),q⟩) (F.args_tuple_ne_2 _ _)) hu
end
end My
namespace My
open PySem PySem.Spec PyProof.Rows L2
variable{xs:List V}{kvs:List (Key×V)}{v:V}{h:vQ}{a:Addr}{K:uS}{f g:Str->Option Int}{H:Hp}{n i:Nat}{b z:Str}{l:List Str}{R:It->Hp->Prop}{Q:VK}
inductive DEq(K:uS)(H:Hp):Nat->V->V->Bool->Prop
 |same{n:Nat}{a:Addr}:DEq K H n (.ref a) (.ref a) true
 |flat{n:Nat}{x y:V}(hx:qd6 x=true)(hy:qd6 y=true):DEq K H n x y (eqV x y)
 |ls{n:Nat}{a b:Addr}{xs ys:List V}{e:Nat->Bool}(ha:SqL K H a xs)(hb:SqL K H b ys)(ne:a≠b)(hl:xs.length=ys.length)
   (he:∀j (h1:j<xs.length) (h2:j<ys.length),DEq K H n xs[j] ys[j] (e j)):DEq K H (n+1) (.ref a) (.ref b) ((vG xs.length).all e)
 |lsN{n:Nat}{a b:Addr}{xs ys:List V}(ha:SqL K H a xs)(hb:SqL K H b ys)(ne:a≠b)(hl:xs.length≠ys.length):DEq K H (n+1) (.ref a) (.ref b) false
 |ts{n:Nat}{a b:Addr}{xs ys:List V}{e:Nat->Bool}(ha:SqT K H a xs)(hb:SqT K H b ys)(ne:a≠b)
   (he:∀j (h1:j<xs.length) (h2:j<ys.length),DEq K H n xs[j] ys[j] (e j)):DEq K H (n+1) (.ref a) (.ref b) ((vG (min xs.length ys.length)).all e && xs.length==ys.length)
 |dd{n:Nat}{a b:Addr}{ka kb:List (Key×V)}(ha:Rd H a (.dK ka))(hb:Rd H b (.dK kb))(ne:a≠b)(fa:∀p∈ka,qd6 p.2=true)(fb:∀p∈kb,qd6 p.2=true):
   DEq K H (n+1) (.ref a) (.ref b) (ka.length==kb.length && ka.all fun p=>(qcn kb p.1).elim false (eqV p.2))
def qcw{us:List uB}(r:qbk xs us){j:Nat}(h1:j<xs.length)(h2:j<us.length):qb8 xs[j] us[j]:=by
 obtain⟨u,e,ru⟩:=r.get (zB h1);rw[zB h2] at e
 cases e
 exact ru
def qgo{k:Key}(h:qcn kvs k=some v):(k,v)∈kvs:=by
 unfold qcn at h;obtain⟨p,hp,rfl⟩:=uI.mp h;have e:=List.find?_some hp;have e':p.1=k:=of_decide_eq_true e;subst e';exact List.mem_of_find?_eq_some hp
def hits_of{A:vR}{s:uC}{kb:List (Key×V)}{vb:List (Key×uB)}(rb:KV kb vb)(fb:∀p∈kb,qd6 p.2=true){ka:List (Key×V)}{va:List (Key×uB)}(ra:KV ka va)(fa:∀p∈ka,qd6 p.2=true):
  PySem.W.KeqHits A s vb va (ka.all fun p=>(qcn kb p.1).elim false (eqV p.2)):=by
 induction ra with
 |nil=>exact .nil
 | @cons p q l1 l2 h t ih=>
  obtain⟨k,v⟩:=p;obtain⟨k',u⟩:=q;obtain⟨e,ru⟩:=h;dsimp only at e ru;subst e;have z:=rb.val k;rw[yO];have ih':=ih fun p hp=>fa p (zD _ hp)
  cases hv:qcn kb k with
  |none=>
   rw[hv] at z;have hn:dA vb k=none:=qh7.none_of z;exact .miss hn
  |some y=>
   rw[hv] at z
   cases hu:dA vb k with
   |none=>rw[hu] at z;exact z.elim
   |some yu=>
    rw[hu] at z;exact .hit hu (eqAt_V ru z (fa _ (zG ..)) (fb _ (qgo hv))) ih'
section
variable{X:Cx}{pins:List (Addr×Obj)}{σ:L2.St}{H:Hp}{s:uC}
def PlainL.isList{its:Array uB}(p:PlainL h a its):h.IsList a its:=by
 obtain⟨o,n,e,c,d,t⟩:=p;exact⟨o,e,c,n,t⟩
def deq_ok(I:Inv X pins σ H s){n:Nat}{x y:V}{k:Bool}(q:DEq X.K H n x y k):∀(A:vR)(u v:uB),qb8 x u->qb8 y v->A.units+n<cLine->
  EqW X.prog X.w A s u v k/\∀a b,x=.ref a->y=.ref b->a≠b->∀ne:Bool,RcW X.prog X.w A s ne (.ref a) (.ref b) (ne !=k):=by
 have both:∀{A:vR} {a b:Addr} {k:Bool},a≠b->(∀ne:Bool,RcW X.prog X.w A s ne (.ref a) (.ref b) (ne !=k))->
   EqW X.prog X.w A s (.ref a) (.ref b) k/\∀a' b',V.ref a=.ref a'->V.ref b=.ref b'->a'≠b'->∀ne:Bool,RcW X.prog X.w A s ne (.ref a') (.ref b') (ne !=k):=fun {A a b k} ne R=>
  ⟨EqW.refs ne (by have z:=R false;simpa using z),fun a' b' e1 e2 _=>by cases e1;cases e2;exact R⟩
 induction q with
 | @same n a=>
  intro A u v ru rv hu;obtain rfl:u=uP a:=ru;obtain rfl:v=uP a:=rv;exact⟨EqW.of (SeqAt.EqAt.same _),fun a' b' e1 e2 ne=>by cases e1;cases e2;exact absurd rfl ne⟩
 |flat hx hy=>
  intro A u v ru rv hu;exact⟨EqW.of (eqAt_V ru rv hx hy),fun a b e _ _=>by subst e;cases hx⟩
 | @ls n a b xs ys e ha hb ne hl he ih=>
  intro A u v ru rv hu;obtain rfl:u=uP a:=ru;obtain rfl:v=uP b:=rv;obtain⟨its,r1,p1,_⟩:=I.list ha;obtain⟨its2,r2,p2,_⟩:=I.list hb;have l1:=r1.length;have l2:=r2.length;refine both ne fun nb=>?_;have z:=RcW.lists (P:=X.prog) (w:=X.w) (A:=A) (s:=s) nb (f:=e) (PlainL.isList p1) (PlainL.isList p2) (by rw[zN,zN];omega) ↑∅ fun j h1 h2=>by
   have k1:j<its.length:=by simpa using h1
   have k2:j<its2.length:=by simpa using h2
   have w:=(ih j ↑∅ ↑∅ A.in1 its[j] its2[j] (qcw r1 ↑∅ k1) (qcw r2 ↑∅ k2) (by show A.units+1+n<cLine;omega)).1;simpa using w
  rw[zN,<-l1] at z;exact z
 | @lsN n a b xs ys ha hb ne hl=>
  intro A u v ru rv hu;obtain rfl:u=uP a:=ru;obtain rfl:v=uP b:=rv;obtain⟨its,r1,p1,_⟩:=I.list ha;obtain⟨its2,r2,p2,_⟩:=I.list hb;have l1:=r1.length;have l2:=r2.length;exact both ne fun nb=>RcW.listsN nb (PlainL.isList p1) (PlainL.isList p2) (by rw[zN,zN];simp;omega) ↑∅
 | @ts n a b xs ys e ha hb ne he ih=>
  intro A u v ru rv hu;obtain rfl:u=uP a:=ru;obtain rfl:v=uP b:=rv;obtain⟨its,r1,p1,_⟩:=I.tuple ha;obtain⟨its2,r2,p2,_⟩:=I.tuple hb;have l1:=r1.length;have l2:=r2.length;refine both ne fun nb=>?_;have z:=RcW.tuples (P:=X.prog) (w:=X.w) (A:=A) (s:=s) nb (f:=e) p1 p2 ↑∅ fun j h1 h2=>by
   have k1:j<its.length:=by simpa using h1
   have k2:j<its2.length:=by simpa using h2
   have w:=(ih j ↑∅ ↑∅ A.in1 its[j] its2[j] (qcw r1 ↑∅ k1) (qcw r2 ↑∅ k2) (by show A.units+1+n<cLine;omega)).1;simpa using w
  rw[zN,zN,<-l1,<-l2] at z;exact z
 | @dd n a b ka kb ha hb ne fa fb=>
  intro A u v ru rv hu;obtain rfl:u=uP a:=ru;obtain rfl:v=uP b:=rv;obtain⟨_,ga,va,ra,da⟩:=qg6 I.hok ha;obtain⟨_,gb,vb,rb,db⟩:=qg6 I.hok hb;have l1:=ra.length;have l2:=rb.length;refine both ne fun nb E Q q=>?_;have hits:=hits_of (A:=A.in1) (s:=s) rb fb ra fa;rw[l1,l2] at q
  cases nb with
  |false=>exact PySem.W.keq_eq ga gb da db ↑∅ (fun _=>hits) (by simpa using q)
  |true=>exact PySem.W.keq_ne ga gb da db ↑∅ (fun _=>hits) (by simpa using q)
def rEqD(K:uS):R2:=fun x y H Q=>∃a b n k,x=.ref a/\y=.ref b/\a≠b/\n<=8/\DEq K H n (.ref a) (.ref b) k/\Q (.bl k) H
def op_eqD(hu:X.A.units+8<cLine):OpR X (wG .Eq) (rEqD X.K):=by
 intro pins s σ H x y v u Q I rx ry h;obtain⟨a,b,n,k,rfl,rfl,ne,hn,q,z⟩:=h
 cases rx
 cases ry
 have r:=(deq_ok I q X.A _ _ rfl rfl ↑∅).2 a b rfl rfl ne false X.xe (EP X pins σ Q);rw[Bool.false_bne] at r;exact r ⟨.bl k,H,I,rfl,z⟩
end
section
variable{X:Cx}
def rListOf(K:uS):List V->Hp->VK->Prop:=fun xs H Q=>∃p ys,xs=[.ref p]/\(SqL K H p ys\/SqT K H p ys)/\∀l,H l=none->Q (.ref l) (upd H l (.lst ys))
def qf2:qcr X (.type "list") (rListOf X.K):=call_list_of
end
section
variable{K:uS}{σ:L2.St}{H:Hp}{Q:VK}{p l b:Addr}{ys xs zs:List V}{to:TE}{t:TA}{T:String}{r:V->List V->Hp->VK->Prop}{x v:V}
def r_bm(h:to σ H fun x H1=>tyV K T x H1/\t σ H1 fun xs H2=>r x xs H2 Q):tBM K T r to t σ H Q:=h
def r_bm0(h:to σ H fun x H1=>tyV K T x H1/\r x [] H1 Q):tBM0 K T r to σ H Q:=h
def r_tyL{P:Prop}(h:SqL K H p ys)(q:P):tyV K "list" (.ref p) H/\P:=⟨.inl ⟨rfl,_,h⟩,q⟩
def r_append(h:H l=some (.lst xs))(hz:xs.length<sizeLine)(q:Q .non (upd H l (.lst (xs++[v])))):rAppend (.ref l) [v] H Q:=⟨l,xs,v,rfl,rfl,h,hz,q⟩
def r_cat(h:H l=some (.lst xs))(h':H b=some (.lst zs))(hz:xs.length+zs.length<=sizeLine)(q:∀p,H p=none->Q (.ref p) (upd H p (.lst (xs++zs)))):rCat (.ref l) (.ref b) H Q:=⟨l,b,xs,zs,rfl,rfl,h,h',hz,q⟩
end
def initIn(K:uS)(C f:Addr):Bool:=match K.lookup C with
 |some ⟨.type "type",_,.cls cd,sl⟩=>(match cd.mro,sl.toList with
  | .ref C'::bm,[_,_,_,_,some (.builtin n),_]=>C'==C && n== "ValueError.__new__" && !cd.hasDel && PySem.W.tailIn K [.type "ValueError",.type "Exception",.type "BaseException",.type "object"] bm && PySem.W.nsOkIn K cd.ns && xO K cd.ns "__init__"==some (some (.ref f))
  |_,_=>false)
 |_=>false
def xcli_of{C f:Addr}(q:initIn K C f=true)(hf:isFn K (.ref f)=true):XClI K C f:=by
 refine⟨?_,hf⟩;unfold initIn at q
 split at q
 .rename_i dd cd sl ho
  split at q
  .rename_i C' bm k0 k1 k2 k3 n k5 hm hs;simp only[wH,beq_iff_eq,cF] at q;obtain⟨⟨⟨⟨⟨rfl,rfl⟩,hdel⟩,ht⟩,hok⟩,hni⟩:=q;obtain⟨nm,bs,mro,ns,qn,hd,sn,sub,ab,col,del⟩:=cd;dsimp only at hm hdel hok hni;subst hm hdel;have hsl:sl= #[k0,k1,k2,k3,some (.builtin "ValueError.__new__"),k5]:=by
    obtain⟨l⟩:=sl;simp only at hs;rw[hs]
   subst hsl;unfold PySem.W.nsOkIn at hok
   split at hok
   .rename_i c1 d1 es ep sl1 hN;have hSK:StrKeys es:=fun e he=>by
     have z:=fO.mp hok e he
     split at z
     .rename_i n t q;exact⟨n,t,q⟩
     .cases z
    have hNs:∀h:vQ,K.In h->h.Ns ns (fun x=>eP es x):=fun h X=>⟨_,es,ep,X _ _ hN,rfl,hSK,fun _=>rfl⟩;refine⟨nm,qn,ns,bs,bm,hd,sn,sub,ab,col,dd,k0,k1,k2,k3,k5,fun x=>eP es x,ho,hNs,?_,fun h X=>PySem.W.tail_of_in X ht⟩;unfold xO at hni;rw[hN] at hni;dsimp only at hni
    split at hni
    .rename_i hf;show eP es "__init__"=some (.ref f);unfold eP findBy;rw[<-eQ,hf];exact congrArg some (uQ (uQ hni))
    .first|(split at hni<;>cases hni) |simp at hni
   .cases hok
  .cases q
 .cases q
structure RoomH(k:Nat)(A:vR):Prop where
 dp:A.depth+3*k+5<recursionLimit
 un:A.units+16*k+200<cLine
structure FnOkH(P:uY)(w:vL)(K:uS)(mg:Str->Option uB)(base:vQ)(k:Nat)(f:Addr)(fd:uK)(ps:List Str)(sp:Sp):Prop where
 len:∀vs H Q E,sp vs H Q E->vs.length=ps.length
 run:∀(a:Addr)(A:vR)(outer:List Env)(s:uC)(H:Hp)(args:Args)(us:List uB)(vs:List V)(Q:VK)(E:XK),RoomH k A->A.handled=some (.ref a)->Env0 P w K mg base A outer s H->cY s fd args (ps.zip us)->qbk vs us->sp vs H Q E->
  bI (uV P w) A (.call (.ref f) args) (CR CX0 outer P w H s Q E) s
section
variable{X:Cx}
def rNeD(K:uS):R2:=fun x y H Q=>∃a b n k,x=.ref a/\y=.ref b/\a≠b/\n<=8/\DEq K H n (.ref a) (.ref b) k/\Q (.bl (!k)) H
def op_neD(hu:X.A.units+8<cLine):OpR X (wG .NotEq) (rNeD X.K):=by
 intro pins s σ H x y v u Q I rx ry h;obtain⟨a,b,n,k,rfl,rfl,ne,hn,q,z⟩:=h
 cases rx
 cases ry
 have r:=(deq_ok I q X.A _ _ rfl rfl ↑∅).2 a b rfl rfl ne true X.xe (EP X pins σ Q);rw[Bool.true_bne] at r;exact r ⟨.bl (!k),H,I,rfl,z⟩
end
section
variable{K:uS}{H:Hp}{Q:VK}{a b:Addr}{n:Nat}{k:Bool}
def r_eqD(ne:a≠b)(hn:n<=8)(q:DEq K H n (.ref a) (.ref b) k)(h:Q (.bl k) H):rEqD K (.ref a) (.ref b) H Q:=⟨a,b,n,k,rfl,rfl,ne,hn,q,h⟩
def r_neD(ne:a≠b)(hn:n<=8)(q:DEq K H n (.ref a) (.ref b) k)(h:Q (.bl (!k)) H):rNeD K (.ref a) (.ref b) H Q:=⟨a,b,n,k,rfl,rfl,ne,hn,q,h⟩
end
def hu8{k:Nat}{A:vR}(r:Room k A):A.units+8<cLine:=by have:=r.un;omega
def DEqs(K:uS)(H:Hp)(n:Nat):List V->List V->Prop
 | [],[]=>True
 |x::xs,y::ys=>DEq K H n x y true/\DEqs K H n xs ys
 |_,_=>False
theorem DEqs.len{K:uS}{H:Hp}{n:Nat}:∀{xs ys:List V},DEqs K H n xs ys->xs.length=ys.length
 | [],[],_=>rfl
 |_::_,_::_,h=>congrArg (·+1) (DEqs.len h.2)
 | [],_::_,h=>h.elim
 |_::_,[],h=>h.elim
theorem DEqs.get{K:uS}{H:Hp}{n:Nat}:∀{xs ys:List V},DEqs K H n xs ys->∀j (h1:j<xs.length) (h2:j<ys.length),DEq K H n xs[j] ys[j] true
 | [],[],_,j,h1,_=>absurd h1 (bQ j)
 |_::_,_::_,h,0,_,_=>h.1
 |_::_,_::_,h,j+1,h1,h2=>DEqs.get h.2 j (xU h1) (xU h2)
 | [],_::_,h,_,_,_=>h.elim
 |_::_,[],h,_,_,_=>h.elim
def deq_list{b:Addr}{ys:List V}(ha:SqL K H a xs)(hb:SqL K H b ys)(ne:a≠b)(h:DEqs K H n xs ys):DEq K H (n+1) (.ref a) (.ref b) true:=by
 have z:=DEq.ls (n:=n) (e:=fun _=>true) ha hb ne h.len h.get;have e:(vG xs.length).all (fun _=>true)=true:=by simp
 rw[e] at z;exact z
def SameBut(L:Addr)(H H':Hp):Prop:=∀b o,b≠L->H b=some o->H' b=some o
def SameBut.at{H':Hp}{L:Addr}{o:HO}(e:SameBut L H H'):SameBut L H (upd H' L o):=fun b u hb q=>by
 rw[qa7 hb];exact e b u hb q
def SameBut.of{H':Hp}{L:Addr}(s:Same H H'):SameBut L H H':=fun b u _ q=>s b u q
def NoFrz(H:Hp)(a:Addr):Prop:=∀o u,H a≠some (.frz o u)
section
variable{X:Cx}{pins:List (Addr×Obj)}{σ:L2.St}{H H':Hp}{s:uC}{a:Addr}{kvs:List (Key×V)}{o:Obj}
def Inv.freeze(I:Inv X pins σ H s)(e:H a=some (.dK kvs))(ho:s.heap.get? a=some o):Inv X pins σ (upd H a (.frz o (.dK kvs))) s:=by
 have ok:=I.hok a _ e;have z:=I.write (x:=a) (e:=a) (o:=.frz o (.dK kvs)) (h':=s.heap) (t':=s.toks) (by rw[e];exact wZ) (.inl rfl) (fun _ _ _ q=>q) ⟨o,ho⟩ ⟨ho,ok⟩;exact z
def Inv.thaw(I:Inv X pins σ H s)(e:H a=some (.frz o (.dK kvs)))(n0:NoFrz X.H₀ a):Inv X pins σ (upd H a (.dK kvs)) s:=by
 have ne:∀b,H b=none->b≠a:=fun b q z=>by subst z;rw[e] at q;cases q
 have nk:∀b u,H b=some u->(∀o' u',u≠ .frz o' u')->b≠a:=fun b u q z w=>by subst w;rw[e] at q;cases q;exact z _ _ rfl
 refine⟨I.ok,I.os,I.bare,⟨I.base.keep,I.base.slot,fun b ob q n hx=>?_,I.base.there,fun b xs q=>?_,fun b ob u q=>?_,fun b ps q=>?_⟩,I.loc,I.cell,?_,fun x c q=>?_,fun p hp=>?_,fun b u q=>?_,I.len⟩
 .have z:=I.base.free b ob q n hx;rw[qa7 (ne b z)];exact z
 .have z:=I.base.tups b xs q;rw[qa7 (nk b _ z (by intro _ _ h;cases h))];exact z
 .have z:=I.base.frzs b ob u q;rw[qa7 (fun w=>by subst w;exact n0 _ _ q)];exact z
 .obtain⟨m,z⟩:=I.base.tbls b ps q;exact⟨m,by rw[qa7 (nk b _ z (by intro _ _ h;cases h))];exact z⟩
 .have z:=I.free;rw[qa7 (ne _ z)];exact z
 .have z:=I.freeC x c q;rw[qa7 (ne _ z)];exact z
 .obtain⟨p1,p2,p3⟩:=I.pin p hp;exact⟨p1,by rw[qa7 (ne _ p2)];exact p2,p3⟩
 .by_cases hb:b=a
  .subst hb;rw[qa1] at q
   cases q
   exact(I.hok b _ e).2
  .rw[qa7 hb] at q;exact(I.hok b u q).stay (fun _ _ _ r=>r) (fun c r=>by rw[qa7 (nk c _ r (by intro _ _ h;cases h))];exact r) fun c xs r=>by rw[qa7 (nk c _ r (by intro _ _ h;cases h))];exact r
def Thaw(H0 H H':Hp):Prop:=H'=H\/∃a o kvs,H a=some (.frz o (.dK kvs))/\NoFrz H0 a/\H'=upd H a (.dK kvs)
def Inv.thawed(I:Inv X pins σ H s)(t:Thaw X.H₀ H H'):Inv X pins σ H' s:=by
 rcases t with rfl|⟨a,o,kvs,e,n,rfl⟩
 .exact I
 .exact Inv.thaw I e n
end
section
variable{X:Cx}{st:Stmt}{e:vV}{t:TS}{te:TE}
def thE(H0:Hp)(D:Ends):Ends:={nx:=fun σ H=>∃H',Thaw H0 H H'/\D.nx σ H',rt:=fun v H=>∃H',Thaw H0 H H'/\D.rt v H',bk:=fun σ H=>∃H',Thaw H0 H H'/\D.bk σ H',ct:=fun σ H=>∃H',Thaw H0 H H'/\D.ct σ H'}
def tThA(H0:Hp)(t:TS):TS:=fun D σ H=>t (thE H0 D) σ H
def qeg(h:PS X st t):PS X st (tThA X.H₀ t):=fun pins s σ H D I q=>thn (h pins s σ H _ I q) fun f s' hs=>by
 cases f with
 |next=>obtain⟨σ',H1,J,H2,th,q⟩:=hs;exact⟨σ',H2,Inv.thawed J th,q⟩
 |brk=>obtain⟨σ',H1,J,H2,th,q⟩:=hs;exact⟨σ',H2,Inv.thawed J th,q⟩
 |cont=>obtain⟨σ',H1,J,H2,th,q⟩:=hs;exact⟨σ',H2,Inv.thawed J th,q⟩
 |ret u=>obtain⟨v,σ',H1,J,r,H2,th,q⟩:=hs;exact⟨v,σ',H2,Inv.thawed J th,r,q⟩
def tThV(H0:Hp)(t:TE):TE:=fun σ H Q=>t σ H fun v H1=>∃H',Thaw H0 H1 H'/\Q v H'
def pe_thV(h:PE X e te):PE X e (tThV X.H₀ te):=fun pins s σ H Q I q=>thn (h pins s σ H _ I q) fun u s' ⟨v,H1,J,r,H2,th,q⟩=>⟨v,H2,Inv.thawed J th,r,q⟩
end
def kvget{κ:Type}{kvs:List (κ×V)}{vs:List (κ×uB)}(r:KV kvs vs):∀{i:Nat} {k:κ} {v:V},kvs[i]?=some (k,v)->∃u,vs[i]?=some (k,u)/\qb8 v u:=by
 induction r with
 |nil=>intro i k v e;simp at e
 |cons h t ih=>
  intro i k v e
  cases i with
  |zero=>
   simp only[List.getElem?_cons_zero,Option.some.injEq] at e⊢;subst e;obtain⟨h1,h2⟩:=h;exact⟨_,Prod.ext h1.symm rfl,h2⟩
  |succ i=>
   simp only[aN] at e⊢;exact ih e
def kV_rel{k:Key}{u:uB}(h:keyIs k u=true):qb8 (kV k) u:=by
 rcases qbd h with⟨i,t,rfl,rfl⟩|⟨x,t,rfl,rfl⟩
 .exact⟨t,rfl⟩
 .exact⟨t,rfl⟩
def ItD(d:Addr)(o:Obj)(kvs:List (Key×V)):It:=
 ⟨fun i H=>H d=some (.frz o (.dK kvs))/\i<kvs.length,fun i H x H'=>H'=H/\∃k v,kvs[i]?=some (k,v)/\x=kV k,fun i H=>H d=some (.frz o (.dK kvs))/\kvs.length<=i⟩
def frz_at{P:uY}{w:vL}{H:Hp}{h:vQ}{d:Addr}{o:Obj}{kvs:List (Key×V)}{es:Array DictEntry}{ep:Nat}(ok:HOk P w H h)(e:H d=some (.frz o (.dK kvs)))(hd:o.data=.dict es ep):
  ∃vs,KV kvs vs/\h.DictAt (qbj P w) d vs ep:=by
 obtain⟨ho,_,_,vs,rel,o',es',ep',ho',ex,hd',ks,ps,nd⟩:=ok d _ e;rw[ho] at ho'
 cases ho'
 rw[hd] at hd'
 cases hd'
 exact⟨vs,rel,o,es,ho,ex,hd,ks,ps,nd⟩
def turn_dict{P:uY}{w:vL}{K:uS}{tg:vV}{o:Obj}{kvs:List (Key×V)}{es:Array DictEntry}{ep:Nat}(d it:Addr)(hd:o.data=.dict es ep):Turn P w K tg (ItD d o kvs) [it] it (fun i h=>h.IsKeyIter it d i kvs.length ep) where
 mem:=by simp
 obj:=fun i h st b hb=>by
  have e:b=it:=by simpa using hb
  subst e;obtain⟨ob,e,c,dd⟩:=st;exact⟨ob,e,fun v z=>by rw[dd] at z;cases z⟩
 keep:=fun i h h' st k=>st.at fun ob e=>k it (by simp) ob e
 item:=by
  intro X hP hw hK hc i pins s σ H E I hf st hg;subst hP hw hK;obtain⟨hfz,hi⟩:=hg;obtain⟨vs,rel,dat⟩:=frz_at I.hok hfz hd;obtain⟨f0,f1,f2,f3,f4,f5⟩:=hf it (by simp);have hl:=rel.length;obtain⟨u,hu,ru⟩:=kvget rel (i:=i) (k:=kvs[i].1) (v:=kvs[i].2) (by rw[zB hi]);rw[hl] at st;refine wpAny_pyNext_dict_item st dat hu fun key h' hkey st' hs'=>?_;have I1:Inv X pins σ H {s with heap:=h'}:=I.turned (t':=s.toks) (fun b ob hb e=>hs'.extBut b ob hb e) f0 f1 f3 f4 f5;obtain⟨ob,e,c,dd⟩:=id st';exact⟨key,rfl,go_of (s:={s with heap:=h'}) e c dd ∅ ⟨kV kvs[i].1,H,I1,kV_rel hkey,⟨rfl,kvs[i].1,kvs[i].2,zB hi,rfl⟩,by rw[hl];exact st',fun b hb=>(hf b hb).1⟩⟩
 done:=by
  intro X hP hw hK hc i pins s σ H E I hf st hg;subst hP hw hK;obtain⟨hfz,hi⟩:=hg;obtain⟨vs,rel,dat⟩:=frz_at I.hok hfz hd;obtain⟨f0,f1,f2,f3,f4,f5⟩:=hf it (by simp);have hl:=rel.length;rw[hl] at st hi;exact wpAny_pyNext_dict_end (I.ok.hd hc) st dat (by simpa using hi) fun h' eb=>⟨rfl,I.turned (t':=s.toks) (fun b ob hb e=>eb b ob hb e) f0 f1 f3 f4 f5⟩
 self:=fun _ _ _ _ _ st h=>wpAny_pyIter_keyiter st h
def rItD(x:V)(H:Hp)(R:It->Hp->Prop):Prop:=∃a kvs,x=.ref a/\((H a=some (.dK kvs)/\∀o,R (ItD a o kvs) (upd H a (.frz o (.dK kvs))))\/∃o,H a=some (.frz o (.dK kvs))/\R (ItD a o kvs) H)
def iDict(td:TE):TI:=fun σ H R=>td σ H fun x H1=>rItD x H1 R
def dat_of{P:uY}{w:vL}{d:Addr}(ok:qbv P w H h d (.dK kvs)):∃o es ep vs,h.get? d=some o/\o.data=.dict es ep/\KV kvs vs/\h.DictAt (qbj P w) d vs ep/\(d==xS)=false:=by
 obtain⟨_,hs,vs,rel,o,es,ep,ho,ex,hd,ks,ps,nd⟩:=ok;exact⟨o,es,ep,vs,ho,hd,rel,⟨o,es,ho,ex,hd,ks,ps,nd⟩,hs⟩
def qcp{X:Cx}{tg l:vV}{tl:TE}(hl:PE X l tl):PI X tg l (iDict tl):=by
 intro pins s σ H R I h;refine thn (hl pins s σ H _ I h) fun v s1 ⟨x,H1,I1,r1,q1⟩=>?_;obtain⟨a,kvs,e,q⟩:=q1;subst e
 cases r1
 have ok:qbv X.prog X.w H1 s1.heap a (.dK kvs):=by
  rcases q with⟨e,_⟩|⟨o,e,_⟩
  .exact I1.hok a _ e
  .exact(I1.hok a _ e).2
 obtain⟨o,es,ep,vs,ho,hd,rel,dat,hs⟩:=dat_of ok;have hlen:=rel.length;refine wpAny_pyIter_dict hs dat ?_;have it0:(s1.heap.push {cls:=.type "dict_keyiterator",data:=.fields #[.ref a,.int 0 0,.int vs.length 0,.int ep 0]}).IsKeyIter ↑s1 a 0 kvs.length ep:=by
  rw[hlen];exact⟨_,vC _ rfl,rfl,rfl⟩
 rcases q with⟨e,q⟩|⟨o',e,q⟩
 .have I2:=Inv.freeze I1 e ho;refine⟨↑s1,[↑s1],_,_,_,rfl,I2.kept (t':=s1.toks) fun b ob e=>uD _ e,turn_dict (kvs:=kvs) a _ hd,it0,fun b hb=>?_,q o⟩;have e:b=↑s1:=by simpa using hb
  subst e;exact I2.fpOk (uG _) (I2.hok.fresh (uG _))
 .have eo:o'=o:=by
   have z:=(I1.hok a _ e).1;rw[ho] at z
   cases z
   rfl
  subst eo;refine⟨↑s1,[↑s1],_,_,_,rfl,I1.kept (t':=s1.toks) fun b ob e=>uD _ e,turn_dict (kvs:=kvs) a _ hd,it0,fun b hb=>?_,q⟩;have e:b=↑s1:=by simpa using hb
  subst e;exact I1.fpOk (uG _) (I1.hok.fresh (uG _))
section
variable{σ:L2.St}{H H':Hp}{D:Ends}{t:TS}{te tl:TE}{Q:VK}{g:TG}{tb:TS}{a:Addr}{o:Obj}{kvs:List (Key×V)}{H0:Hp}{v:V}
def r_thA(h:t (thE H0 D) σ H):tThA H0 t D σ H:=h
def qeb(th:Thaw H0 H H')(h:D.nx σ H'):(thE H0 D).nx σ H:=⟨H',th,h⟩
def r_thV(h:te σ H fun v H1=>∃H',Thaw H0 H1 H'/\Q v H'):tThV H0 te σ H Q:=h
def qfm(e:H a=some (.frz o (.dK kvs)))(n:NoFrz H0 a):Thaw H0 H (upd H a (.dK kvs)):=.inr ⟨a,o,kvs,e,n,rfl⟩
def r_iD(h:tl σ H fun x H1=>rItD x H1 R):iDict tl σ H R:=h
def qfq(e:H a=some (.dK kvs))(h:∀o,R (ItD a o kvs) (upd H a (.frz o (.dK kvs)))):rItD (.ref a) H R:=⟨a,kvs,rfl,.inl ⟨e,h⟩⟩
def qet(Pv:Nat->L2.St->Hp->Prop)(h0:Pv 0 σ H)(hl:∀i σ H,i<=kvs.length->Pv i σ H->H a=some (.frz o (.dK kvs)))
  (hs:∀i k v σ H,kvs[i]?=some (k,v)->Pv i σ H->g (kV k) σ H fun σ2 H2=>tb {nx:=Pv (i+1),rt:=D.rt,bk:=D.nx,ct:=Pv (i+1)} σ2 H2)(hd:∀σ H,Pv kvs.length σ H->D.nx σ H):FOR (ItD a o kvs) g tb D σ H:=by
 refine⟨fun i m σ H=>m=kvs.length-i/\i<=kvs.length/\Pv i σ H,⟨kvs.length,rfl,wR _,h0⟩,?_⟩;rintro i m σ H ⟨rfl,hi,p⟩;have q:=hl i σ H hi p;by_cases hlt:i<kvs.length
 .refine .inr ⟨⟨q,hlt⟩,Pv (i+1),fun σ' H' p'=>⟨kvs.length-(i+1),↑∅,rfl,hlt,p'⟩,fun x H' y=>?_⟩;obtain⟨e,k,v,hk,rfl⟩:=y;subst e;exact hs i k v σ _ hk p
 .have e:i=kvs.length:=Nat.le_antisymm hi (Nat.le_of_not_lt hlt);subst e;exact .inl ⟨⟨q,uG _⟩,hd σ H p⟩
end
def objOk_get{P:uY}{w:vL}{o:HO}(x:qbv P w H h a o):∃u,h.get? a=some u:=by
 induction o with
 |lst xs=>obtain⟨_,_,_,_,e⟩:=x;exact⟨_,e⟩
 |tup xs=>obtain⟨_,_,_,ob,e,_⟩:=x;exact⟨_,e⟩
 |dK kvs=>obtain⟨_,_,_,_,o,_,_,e,_⟩:=x;exact⟨_,e⟩
 |dT kvs=>obtain⟨_,_,_,_,o,_,_,e,_⟩:=x;exact⟨_,e⟩
 |set S n=>obtain⟨o,_,_,_,e,_⟩:=x;exact⟨_,e⟩
 |ins C dx fs=>obtain⟨_,_,_,e,_⟩:=x;exact⟨_,e⟩
 |own y=>exact x
 |xd fs=>obtain⟨_,⟨_,_,_,e,_⟩,_⟩:=x;exact⟨_,e⟩
 |rng lo hi=>obtain⟨_,_,_,e⟩:=x;exact⟨_,e⟩
 |frz ob u ih=>exact⟨_,x.1⟩
 |tbl ps=>exact⟨_,x⟩
 |met f y=>exact⟨_,x⟩
 |ext φ=>exact x.2.1
def Inv.laidN{X:Cx}{pins:List (Addr×Obj)}{σ:L2.St}{H:Hp}{s:uC}{h':vQ}{a:Addr}{o:HO}{t':Nat}(I:Inv X pins σ H s)(k:∀b u,s.heap.get? b=some u->h'.get? b=some u)(hg:s.heap.get? a=none)(new:qbv X.prog X.w (upd H a o) h' a o):
  H a=none/\Inv X pins σ (upd H a o) {s with heap:=h',toks:=t'}:=by
 have hn:H a=none:=by
  cases q:H a with
  |none=>rfl
  |some u=>obtain⟨v,e⟩:=objOk_get (I.hok a u q);rw[hg] at e;cases e
 refine⟨hn,I.un ⟨fun b u q _ _ _=>k b u q,fun b u q _ _ _=>⟨u.slots,k b u q⟩,fun b u q n _=>by rw[qa7 (fun z=>by subst z;rw[hg] at q;cases q)];exact n,fun b u q _=>⟨u,k b u q⟩,fun b xs q=>by rw[qa7 (qa9 q hn)];exact q,
  fun b u xs q=>by rw[qa7 (qa9 q hn)];exact q,fun b ps q=>⟨#[],by rw[qa7 (qa9 q hn),q];simp⟩⟩ fun b u e=>?_⟩
 by_cases hb:b=a
 .subst hb;rw[qa1] at e;cases e;exact new
 .rw[qa7 hb] at e;exact(I.hok b u e).stay (fun c v _ q=>k c v q) (fun c q=>by rw[qa7 (qa9 q hn)];exact q) fun c xs q=>by rw[qa7 (qa9 q hn)];exact q
section
variable{X:Cx}
def rDictCp:List V->Hp->VK->Prop:=fun xs H Q=>∃p kvs,xs=[.ref p]/\Rd H p (.dK kvs)/\∀q,H q=none->Q (.ref q) (upd H q (.dK kvs))
def qbt:qcr X (.type "dict") rDictCp:=by
 intro pins s σ H xs us Q I hv h;obtain⟨p,kvs,rfl,e,q⟩:=h;obtain⟨u,rfl,ru⟩:=hv.one
 cases ru
 exact d_copyOf I e fun l s' hl I'=>⟨.ref l,_,I',rfl,q l hl⟩
theorem qgr:∀{ss:List Str} {us:List uB},qbk (ss.map V.str) us->fR us ss
 | [],_,r=>by cases r;exact .nil
 |x::ss,_,r=>by
  cases r with
  |cons h t=>obtain⟨k,rfl⟩:=h;exact .cons x k (qgr t)
theorem qfk:∀{us:List uB} {ss:List Str},fR us ss->qbk (ss.map V.str) us
 |_,_,.nil=> .nil
 |_,_,.cons x t h=> .cons ⟨t,rfl⟩ (qfk h)
def rSortL(K:uS):List V->Hp->VK->Prop:=fun xs H Q=>∃p ss,xs=[.ref p]/\SqL K H p (ss.map V.str)/\ss.length<64/\∀l ss',H l=none->ss'.Perm ss->sortedS ss'=true->Q (.ref l) (upd H l (.lst (ss'.map V.str)))
def qgl:qcr X (.builtin "sorted") (rSortL X.K):=by
 intro pins s σ H xs us Q I hv h;obtain⟨p,ss,rfl,hS,hz,q⟩:=h;obtain⟨u,rfl,ru⟩:=hv.one
 cases ru
 obtain⟨its,rv,pl,hz'⟩:=I.list hS;have hlen:=rv.length;rw[zA] at hlen;refine sorted_strs (vs:=its) (PlainL.isList pl) (qgr rv) ↑∅ fun out ss' a1 a2 a3=>?_;obtain⟨e,he⟩:=sortedAll_at s.heap its out;have hl2:=a2.length_eq;have I2:=I.laid (a:=↑s+1) (o:=.lst (ss'.map V.str)) (t':=s.toks) (fun b ob hb=>sortedAll_old hb) (xQ _) ⟨by rw[zA,yT];omega,out.toList,e,qfk a1,by simpa[seqObj] using he⟩;exact⟨.ref _,_,I2,rfl,q _ ss' (I.hok.fresh (xQ _)) a2 a3⟩
def rSortD:List V->Hp->VK->Prop:=fun xs H Q=>∃p kvs ss,xs=[.ref p]/\Rd H p (.dK kvs)/\kvs.map (·.1)=ss.map uH/\ss.length<64/\∀l ss',H l=none->ss'.Perm ss->sortedS ss'=true->Q (.ref l) (upd H l (.lst (ss'.map V.str)))
def strs_keys{ss:List Str}{us:List uB}(hl:us.length=ss.length)(h:∀(j:Nat)(u:uB),us[j]?=some u->∃x,ss[j]?=some x/\keyIs (.inr x) u=true):fR us ss:=by
 induction us generalizing ss with
 |nil=>cases ss with
  |nil=>exact .nil
  |cons _ _=>simp at hl
 |cons u us ih=>cases ss with
  |nil=>simp at hl
  |cons x ss=>
   obtain⟨y,hy,hk⟩:=h 0 u rfl;simp only[List.getElem?_cons_zero,Option.some.injEq] at hy;subst hy;rcases qbd hk with⟨i,t,e,_⟩|⟨z,t,e,rfl⟩
   .cases e
   .cases e
    exact .cons x t (ih (by simpa using hl) fun j v hv=>by have:=h (j+1) v (by simpa using hv);simpa using this)
def qcc(hc:X.calm=true):qcr X (.builtin "sorted") rSortD:=by
 intro pins s σ H xs us Q I hv h;obtain⟨p,kvs,ss,rfl,hR,hk,hz,q⟩:=h;obtain⟨u,rfl,ru⟩:=hv.one
 cases ru
 obtain⟨o,es,ep,vs,ho,hd,rel,dat,hs⟩:=dat_of (hR.ok I.hok);have hlen:=rel.length;have hks:=rel.keys;have hl2:kvs.length=ss.length:=by have:=congrArg wF hk;simpa using this
 refine Calls.call_function_entry kind_sorted plain_sorted entry_sorted (args_sorted1 _) ?_;unfold aG.«sorted»;refine uE (m:=checkCount "sorted" 1 1 _) (uW ?_);refine uE (PySem.W.kdu_collect (A:=X.A.in1) (PySem.W.kdl_dict (knd:=qbj X.prog X.w) (kvs:=vs) (ep:=ep) hs) (I.ok.hd hc) dat (by rw[yT];omega) fun h' tk acc hkeep hacc=>?_);have hal:acc.toList.length=vs.length:=by rw[bS];exact hacc.1
 refine uE (wpAny_newList ?_ (by rw[hal,yT];omega));have hS:fR acc.toList ss:=by
  refine strs_keys ↑∅ fun j v hv=>?_;obtain⟨k,x,hx,hkv⟩:=hacc.2 j v (by rw[<-bB];exact hv);have e1:(vs.map (·.1))[j]?=some k:=by rw[zC,hx];rfl
  rw[<-hks,hk,zC] at e1;obtain⟨z,hz1,rfl⟩:=uI.mp e1;exact⟨z,hz1,hkv⟩
 have hoL:(h'.push {cls:=.type "list",data:=.seq acc.toList.toArray}).get? h'.objs.size=some (seqObj "list" acc.toList.toArray 0):=vC _ rfl;refine uE (wO (gF slot_list_sort ⟨_,hoL,rfl⟩ entry_list_sort (list_sort_treeK strKind_oneLt hoL hS.keysOf (fun v₁ v₂ rest e=>keyKind_strs (by rw[<-e];exact hS)) ↑∅ fun st' a1 a2=>⟨_,rfl,?_⟩) (args_list_sort _)));obtain⟨ss',b1,b2,b3⟩:=sorted_out_str hS a1 a2;obtain⟨e,he⟩:=sortedHeap_at (out:=(arrOf st').map (·.2)) hoL;have hl3:=b2.length_eq;have hg:s.heap.get? h'.objs.size=none:=by
  cases q:s.heap.get? h'.objs.size with
  |none=>rfl
  |some ob=>exact absurd (uN (hkeep _ _ q)) (wK _)
 obtain⟨hn,I2⟩:=Inv.laidN I (h':=sortedHeap (h'.push {cls:=.type "list",data:=.seq acc.toList.toArray}) h'.objs.size acc.toList ((arrOf st').map (·.2))) (a:=h'.objs.size) (o:=.lst (ss'.map V.str)) (t':=tk) (fun b ob hb=>by
  have hb':=hkeep b ob hb;rw[sortedHeap_old (vI (uN hb')) (by rw[size_push'];exact fS (uN hb'))];exact uD _ hb') hg ⟨by rw[zA,yT];omega,((arrOf st').map (·.2)).toList,e,qfk b1,by rw[Array.toArray_toList];exact he⟩
 exact uW ⟨_,rfl,.ref _,_,I2,rfl,q _ ss' hn b2 b3⟩
end
section
variable{K:uS}{H:Hp}{Q:VK}{p:Addr}{kvs:List (Key×V)}{ss:List Str}
def r_dictCp(e:Rd H p (.dK kvs))(h:∀q,H q=none->Q (.ref q) (upd H q (.dK kvs))):rDictCp [.ref p] H Q:=⟨p,kvs,rfl,e,h⟩
def r_tyD{B:Prop}(h:H p=some (.dK kvs))(q:B):tyV K "dict" (.ref p) H/\B:=⟨.inr (.inr (.inl ⟨rfl,.inl ⟨_,h⟩⟩)),q⟩
def r_sortL(e:SqL K H p (ss.map V.str))(hz:ss.length<64)(h:∀l ss',H l=none->ss'.Perm ss->sortedS ss'=true->Q (.ref l) (upd H l (.lst (ss'.map V.str)))):rSortL K [.ref p] H Q:=⟨p,ss,rfl,e,hz,h⟩
def qe3(e:Rd H p (.dK kvs))(hk:kvs.map (·.1)=ss.map uH)(hz:ss.length<64)(h:∀l ss',H l=none->ss'.Perm ss->sortedS ss'=true->Q (.ref l) (upd H l (.lst (ss'.map V.str)))):rSortD [.ref p] H Q:=⟨p,kvs,ss,rfl,e,hk,hz,h⟩
end
structure AD(kvs:List (Key×V))(f:Str->Option Int):Prop where
 nd:(kvs.map (·.1)).Nodup
 sh:∀p∈kvs,∃z i,p=(uH z,V.int i)
 get:∀z,qcn kvs (uH z)=(f z).map V.int
def noF:Str->Option Int:=fun _=>none
def putF'(f:Str->Option Int)(z:Str)(i:Int):Str->Option Int:=fun y=>if y=z then some i else f y
def AD.nil:AD [] noF:=⟨yJ,fun p hp=>absurd hp (by simp),fun z=>rfl⟩
def AD.cast(h:AD kvs f)(e:∀z,f z=g z):AD kvs g:=⟨h.nd,h.sh,fun z=>by rw[h.get,e]⟩
def qee{k:Key}(h:qcn kvs k≠none):(qbp kvs k v).map (·.1)=kvs.map (·.1):=by
 unfold qbp;have e:(kvs.any fun kv=>decide (kv.1=k))=true:=by rw[qcs];cases q:qcn kvs k with
  |none=>exact absurd q h
  |some _=>rfl
 rw[gJ e,yM];apply List.map_congr_left;intro p _;show(if p.1=k then(p.1,v) else p).1=p.1
 split<;>rfl
def putK_mem{k:Key}{p:Key×V}(h:p∈qbp kvs k v):p=(k,v)\/p∈kvs:=by
 unfold qbp at h
 split at h
 .obtain⟨q,hq,e⟩:=zI.mp h
  split at e
  .rename_i ek;subst ek;exact .inl e.symm
  .subst e;exact .inr hq
 .rcases zH.mp h with h|h
  .exact .inr h
  .exact .inl (by simpa using h)
def AD.put(h:AD kvs f)(z:Str)(i:Int):AD (qbp kvs (uH z) (.int i)) (putF' f z i):=by
 refine⟨?_,fun p hp=>?_,fun y=>?_⟩
 .cases q:qcn kvs (uH z) with
  |none=>exact nd_putK _ h.nd q
  |some v=>rw[qee (by rw[q];simp)];exact h.nd
 .rcases putK_mem hp with rfl|hp
  .exact⟨z,i,rfl⟩
  .exact h.sh p hp
 .rw[qfb];unfold putF';by_cases e:y=z
  .subst e;rw[gJ rfl,gJ rfl];rfl
  .rw[gI (fun q=>e (yR q)),gI e];exact h.get y
def AD.flat(h:AD kvs f):∀p∈kvs,qd6 p.2=true:=fun p hp=>by
 obtain⟨z,i,rfl⟩:=h.sh p hp;rfl
def qfl(nd:(kvs.map (·.1)).Nodup){k:Key}{v:V}(h:(k,v)∈kvs):qcn kvs k=some v:=by
 induction kvs with
 |nil=>simp at h
 |cons p r ih=>
  rw[zV,zW] at nd;rcases zP.mp h with rfl|h
  .exact qc3 rfl
  .have ne:¬p.1=k:=fun e=>nd.1 (e▸zI.mpr ⟨(k,v),h,rfl⟩);rw[qc4 ne];exact ih nd.2 h
def AD.mem(h:AD kvs f){k:Key}{v:V}(hm:(k,v)∈kvs):∃z n,k=uH z/\v=.int n/\f z=some n:=by
 obtain⟨z,n,e⟩:=h.sh _ hm
 cases e
 have q:=qfl h.nd hm;rw[h.get] at q
 cases hf:f z with
 |none=>rw[hf] at q;cases q
 |some m=>rw[hf] at q;cases q;exact⟨z,_,rfl,rfl,hf⟩
def qc2(kvs:List (Key×V)):List Str:=kvs.filterMap fun p=>match p.1 with| .inr z=>some z| .inl _=>none
def AD.keys(h:AD kvs f):kvs.map (·.1)=(qc2 kvs).map uH:=by
 have sh:=h.sh;clear h
 induction kvs with
 |nil=>rfl
 |cons p r ih=>
  obtain⟨z,i,rfl⟩:=sh p (zG ..);show uH z::r.map (·.1)=(z::qc2 r).map uH;rw[zV,ih fun q hq=>sh q (zD _ hq)]
def AD.klen(h:AD kvs f):(qc2 kvs).length=kvs.length:=by
 have:=congrArg wF h.keys;simpa using this.symm
def AD.knd(h:AD kvs f):(qc2 kvs).Nodup:=by
 have nd:=h.nd;rw[h.keys] at nd;exact List.Pairwise.imp (fun ne e=>ne (congrArg uH e)) (aY.mp nd)
def AD.kin(h:AD kvs f)(z:Str):z∈qc2 kvs↔f z≠none:=by
 constructor
 .intro hz;have hm:(uH z:Key)∈kvs.map (·.1):=by rw[h.keys];exact zI.mpr ⟨z,hz,rfl⟩
  obtain⟨⟨k,v⟩,hp,e⟩:=zI.mp hm;dsimp only at e;subst e;obtain⟨z',n,e1,_,hf⟩:=h.mem hp
  cases e1
  rw[hf];simp
 .intro hf
  cases q:f z with
  |none=>exact absurd q hf
  |some n=>
   have hv:=h.get z;rw[q] at hv;have hm:=valV_in hv;rw[h.keys] at hm;obtain⟨y,hy,e⟩:=zI.mp hm
   cases e
   exact hy
theorem nd_le:∀{l m:List Str},l.Nodup->(∀a∈l,a∈m)->l.length<=m.length
 | [],_,_,_=>wR _
 |a::l,m,nd,h=>by
  have ha:=h a (zG ..);rw[zW] at nd;have q:=nd_le (l:=l) (m:=m.erase a) nd.2 fun b hb=>(List.mem_erase_of_ne (fun(e:b=a)=>nd.1 (by rw[<-e];exact hb))).mpr (h b (zD _ hb));rw[List.length_erase_of_mem ha] at q;have:0<m.length:=List.length_pos_of_mem ha;simp only[zR];omega
def AD.le(h:AD kvs f){ws:List Str}(hs:∀z,f z≠none->z∈ws):kvs.length<=ws.length:=by
 rw[<-h.klen];exact nd_le h.knd fun z hz=>hs z ((h.kin z).mp hz)
def AD.eq{ka kb:List (Key×V)}(h:AD ka f)(h':AD kb f):(ka.length==kb.length && ka.all fun p=>(qcn kb p.1).elim false (eqV p.2))=true:=by
 rw[wH,beq_iff_eq,zZ];constructor
 .have l1:=nd_le h.knd fun z hz=>(h'.kin z).mpr ((h.kin z).mp hz);have l2:=nd_le h'.knd fun z hz=>(h.kin z).mpr ((h'.kin z).mp hz);rw[h.klen,h'.klen] at l1;rw[h.klen,h'.klen] at l2;omega
 .rintro⟨k,v⟩ hp;obtain⟨z,n,rfl,rfl,hf⟩:=h.mem hp;show((qcn kb (uH z)).elim false (eqV (.int n)))=true;rw[h'.get,hf];show(n==n)=true;simp
theorem AD.at(h:AD kvs f){i:Nat}{k:Key}{v:V}(e:kvs[i]?=some (k,v)):∃z n,k=uH z/\v=.int n/\f z=some n/\(qc2 kvs)[i]?=some z:=by
 obtain⟨z,n,rfl,rfl,hf⟩:=h.mem (zF e);refine⟨z,n,rfl,rfl,hf,?_⟩;have q:(kvs.map (·.1))[i]?=some (uH z):=by rw[zC,e];rfl
 rw[h.keys,zC] at q;obtain⟨y,hy,e⟩:=uI.mp q
 cases e
 exact hy
def leS(a b:Str):Prop:=ltCps b.cps.toList a.cps.toList=false
def qdm{a:Str} :leS a b↔a.cps.toList<=b.cps.toList:=by
 unfold leS;rw[ltCps_eq,decide_eq_false_iff_not];exact List.not_lt
def leS_refl(a:Str):leS a a:=qdm.mpr (List.le_refl _)
def leS_trans{a c:Str}(h:leS a b)(h':leS b c):leS a c:=qdm.mpr (List.le_trans (qdm.mp h) (qdm.mp h'))
def leS_anti{a:Str}(h:leS a b)(h':leS b a):a=b:=by
 have e:=List.le_antisymm (qdm.mp h) (qdm.mp h');obtain⟨⟨x⟩⟩:=a;obtain⟨⟨y⟩⟩:=b;have e':x=y:=e;subst e';rfl
theorem rising_pw:∀{p:Str} {l:List Str},risingS p l=true->(p::l).Pairwise leS
 |p,[],_=>List.pairwise_singleton _ _
 |p,x::r,h=>by
  have h':(!ltCps x.cps.toList p.cps.toList && risingS x r)=true:=h;rw[wH,cF] at h';have q:=rising_pw h'.2;refine eY.mpr ⟨fun y hy=>?_,q⟩;rcases zP.mp hy with rfl|hy
  .exact h'.1
  .exact leS_trans h'.1 (aA q hy)
def qfo:∀{l:List Str},sortedS l=true->l.Pairwise leS
 | [],_=>fN
 |x::r,h=>rising_pw h
def gN(f:Str->Option Int)(z:Str):Int:=(f z).getD 0
def qh6(f g:Str->Option Int):Str->Option Int:=fun y=>match g y with|none=>f y|some b=>some (gN f y+b)
def qdi(f:Str->Option Int):Str->Option Int:=fun y=>match f y with|none=>none|some a=>if 0<a then some a else none
def gN_get(h:AD kvs f)(z:Str):(qcn kvs (uH z)).getD (.int 0)=.int (gN f z):=by
 rw[h.get];unfold gN
 cases f z<;>rfl
def qas(h:l[i]?=some z)(y:Str):y∈l.take (i+1)↔y∈l.take i\/y=z:=by
 rw[zO,h,zH];simp
def qem(nd:l.Nodup){i:Nat}{z:Str}(h:l[i]?=some z):z∉l.take i:=fun hm=>by
 obtain⟨j,hj,e⟩:=zU.mp hm;have hj':j<i:=by rw[zS] at hj;omega
 have hjl:j<l.length:=by rw[zS] at hj;omega
 rw[fT] at e;obtain⟨hi,e2⟩:=uL.mp h;exact absurd ((gC nd).mp (e.trans e2.symm)) ↑∅
section
variable{σ:L2.St}{H H':Hp}{Q:VK}{D:Ends}{td ty tx tv:TE}{a b p:Addr}{kvs kb:List (Key×V)}{f:Str->Option Int}{z:Str}{n:Int}{v:V}{o:Obj}
def rDG(a:Addr)(y z:V)(H:Hp)(Q:VK):Prop:=∃o,DGet H a y o/\Q (o.getD z) H
def kDG2(ty tx:TE)(σ:L2.St)(Q:VK)(x:V)(H:Hp):Prop:=∃a,x=.ref a/\IsD H a/\ty σ H fun y H2=>tx σ H2 fun z H3=>rDG a y z H3 Q
def r_dg2(h:td σ H fun x H1=>kDG2 ty tx σ Q x H1):tDGet2 td ty tx σ H Q:=h
def r_dg2a(d:Rd H a (.dK kvs))(h:ty σ H fun y H2=>tx σ H2 fun z H3=>rDG a y z H3 Q):kDG2 ty tx σ Q (.ref a) H:=⟨a,rfl,.inl ⟨kvs,d⟩,h⟩
def r_dg2b(d:Rd H a (.dK kvs))(A:AD kvs f)(h:Q (.int (gN f z)) H):rDG a (.str z) (.int 0) H Q:=by
 refine⟨qcn kvs (uH z),.inl ⟨kvs,uH z,d,rfl,rfl⟩,?_⟩;rw[gN_get A];exact h
def rDGk(x y:V)(H:Hp)(Q:VK):Prop:=∃a v,x=.ref a/\DGet H a y (some v)/\Q v H
def r_dg(h:td σ H fun x H1=>ty σ H1 fun y H2=>rDGk x y H2 Q):tDGet td ty σ H Q:=h
def r_dgk(d:Rd H a (.dK kvs))(A:AD kvs f)(e:f z=some n)(h:Q (.int n) H):rDGk (.ref a) (.str z) H Q:=
 ⟨a,.int n,rfl,.inl ⟨kvs,uH z,d,rfl,by rw[A.get,e];rfl⟩,h⟩
def rDP(x y v:V)(H:Hp)(D:Ends)(σ:L2.St):Prop:=∃a H4,x=.ref a/\DPut H a y v H4/\D.nx σ H4
def r_dp(h:tv σ H fun v H1=>td σ H1 fun x H2=>ty σ H2 fun y H3=>rDP x y v H3 D σ):sDPut td ty tv D σ H:=h
def r_dpk(e:H a=some (.dK kvs))(hz:kvs.length<sizeLine)(h:D.nx σ (upd H a (.dK (qbp kvs (uH z) v)))):rDP (.ref a) (.str z) v H D σ:=⟨a,_,rfl,DPut.k (k:=uH z) e hz,h⟩
def rDI(x y:V)(H:Hp)(Q:VK):Prop:=∃a o,x=.ref a/\DGet H a y o/\Q (.bl o.isSome) H
def r_di(h:ty σ H fun y H1=>td σ H1 fun x H2=>rDI x y H2 Q):tDIn ty td σ H Q:=h
def r_dik(d:Rd H a (.dK kvs))(A:AD kvs f)(h:Q (.bl (f z).isSome) H):rDI (.ref a) (.str z) H Q:=by
 refine⟨a,qcn kvs (uH z),rfl,.inl ⟨kvs,uH z,d,rfl,rfl⟩,?_⟩;rw[A.get,aU];exact h
def r_dnew(h:∀p,H p=none->Q (.ref p) (upd H p (.dK []))):tDNewK σ H Q:=h
def qcd(e:H a=some (.dK kvs)):NoFrz H a:=fun o u z=>by rw[e] at z;cases z
def rd_new(d:Rd H a (.dK kvs))(n:H p=none){u:HO}:Rd (upd H p u) a (.dK kvs):=by
 rcases d with d|⟨o,d⟩
 .exact .inl (qaa d n)
 .exact .inr ⟨o,qaa d n⟩
def rd_in(d:Rd H b (.dK kb))(ea:H a=some (.dK kvs))(sb:SameBut a H H')(fz:H' a=some (.frz o (.dK kvs))):Rd H' b (.dK kb):=by
 by_cases e:b=a
 .subst e;rcases d with d|⟨o',d⟩
  .rw[ea] at d;cases d;exact .inr ⟨o,fz⟩
  .rw[ea] at d;cases d
 .rcases d with d|⟨o',d⟩
  .exact .inl (sb _ _ e d)
  .exact .inr ⟨o',sb _ _ e d⟩
def qd1(e:H a=some (.dK kvs))(sb:SameBut a H H'):Same H (upd H' a (.dK kvs)):=fun b u q=>by
 by_cases h:b=a
 .subst h;rw[qa1];rw[e] at q;exact q
 .rw[qa7 h];exact sb b u h q
def sb_frz(e:H a=some (.dK kvs)):SameBut a H (upd H a (.frz o (.dK kvs))):=fun b u h q=>by rw[qa7 h];exact q
def sb_put{l:Addr}{u:HO}(sb:SameBut a H H')(n:H l=none):SameBut a H (upd H' l u):=fun b w h q=>by
 rw[qa7 (qa9 q n)];exact sb b w h q
def qb6{l:Addr}{u:HO}(s:Same H H')(n:H l=none):Same H (upd H' l u):=fun b w q=>by rw[qa7 (qa9 q n)];exact s b w q
end
def viol(f g:Str->Option Int)(y:Str):Prop:=f y≠none/\gN g y<gN f y
def addF_sup{ws:List Str}(hf:∀z,f z≠none->z∈ws)(hg:∀z,g z≠none->z∈ws)(z:Str)(h:qh6 f g z≠none):z∈ws:=by
 unfold qh6 at h
 cases e:g z with
 |none=>rw[e] at h;exact hf z h
 |some b=>exact hg z (by rw[e];simp)
def step_put(h:l[i]?=some z)(F G:Str->Option Int){v:Int}(hv:F z=some v)(y:Str):putF' (fun y=>if y∈l.take i then F y else G y) z v y=if y∈l.take (i+1) then F y else G y:=by
 unfold putF';by_cases e:y=z
 .subst e;rw[gJ rfl,gJ ((qas h y).mpr (.inr rfl)),hv]
 .rw[gI e];by_cases e2:y∈l.take i
  .rw[gJ ((qas h y).mpr (.inl e2))];exact gJ e2
  .rw[gI (fun q=>((qas h y).mp q).elim e2 e)];exact gI e2
def step_no(h:l[i]?=some z)(F G:Str->Option Int)(hv:F z=G z)(y:Str):(if y∈l.take i then F y else G y)=if y∈l.take (i+1) then F y else G y:=by
 by_cases e2:y∈l.take i
 .rw[gJ e2,gJ ((qas h y).mpr (.inl e2))]
 .rw[gI e2];by_cases e:y=z
  .subst e;rw[gJ ((qas h y).mpr (.inr rfl)),hv]
  .rw[gI (fun q=>((qas h y).mp q).elim e2 e)]
def step_end(hB:AD kvs g)(F G:Str->Option Int)(hn:∀y,g y=none->F y=G y)(y:Str):(if y∈(qc2 kvs).take kvs.length then F y else G y)=F y:=by
 rw[<-hB.klen,zK];by_cases e:y∈qc2 kvs
 .rw[gJ e]
 .rw[gI e];refine(hn y ?_).symm
  cases hf:g y with
  |none=>rfl
  |some n=>exact absurd ((hB.kin y).mpr (by rw[hf];simp)) e
def r_neB{i j:Bool}(h:Q (.bl (!decide (i=j))) H):rNe (.bl i) (.bl j) H Q:=⟨rfl,by
 have e:decide (V.bl i=V.bl j)=decide (i=j):=by by_cases z:i=j<;>simp[z]
 rw[e];exact h⟩
section
variable{X:Cx}
def ps_comp{elt iter:vV}{x y:Str}{px py:Pos}{ifs:List vV}{scope:xF}{cl:List (Str×Addr)}{pos spos:Pos}{caps:List Nat}{cn:List Str}{wi:TI}{tt:CT TT}{te:CT TE}{j:Nat}(Cp:Caps X x scope cl caps cn)(hc:X.calm=true)
  (hN:X.N.Nodup)(hy:X.N[j]?=some y)(hly:X.env.scope.names.lookup y=some .local)
  (hi:PI X (.Name x px) iter wi)(ht:∀C s H fp,PIfs (cxC X (x::cn) scope cl C s H fp) ifs (tt C s H fp))(he:∀C s H fp,PE (cxC X (x::cn) scope cl C s H fp) elt (te C s H fp))
  (hsw:dU (.ListComp elt [⟨.Name x px,iter,ifs,0⟩] scope pos) (some (.Name y py)) spos.line X.env=pure true:=by rfl)(hs:∀x,cD iter X.env x=pure x:=by intro _;rfl):
  PS X (.Assign [.Name y py] (.ListComp elt [⟨.Name x px,iter,ifs,0⟩] scope pos) spos) (tAsg (tComp wi caps tt te) (qer j)):=by
 intro pins s σ H D I h
 replace h:tComp wi caps tt te σ H (fun v H1=>D.nx (σ.set j (some v)) H1):=h
 rw[exec_Assign_Name_used _ _ _ _ hsw];refine uE (xJ (uE ?_));show uU _ X.A (do let _<-comprehension (.ListComp elt [⟨.Name x px,iter,ifs,0⟩] scope pos) scope X.env _ (newList []) false (wL iter X.env) (some (gD (.Name y py) X.env))) _ _ s;refine uE (vS (cM (use:=some (gD (.Name y py) X.env)) (Q:=fun _ s'=>SP X pins D .next s') rfl hs Cp.clos Cp.kind Cp.names
  (thn (hi pins s σ H _ I h) fun v s1 h1=>thn h1 fun itv s2 h2=>qh3 Cp hc ht h2 (fun acc s3 H3 fp I3 f3 pn s9 τ H9 R I9 q9=>vS (he _ _ _ _ pn s9 τ H9 R I9 q9) (fun _ _ q=>q) fun _ _ q=>q.elim) fun acc s3 H3 fp I3 f3 τ H5 s6 v I6 qn=>?_)) (fun _ s' hq=>uW (uW hq)) fun _ _ e=>e)
 obtain⟨m,hm,_⟩:=id I6.loc;have J0:Inv X pins σ H5 s6:=Inv.uncomp I3 f3 rfl I6 (h':=s6.heap) ⟨rfl,fun _ _=>rfl⟩;have fC:FpOk X pins H5 ↑s3:=I3.fpOk (uG _) I6.free;show uU _ X.A (gD (.Name y py) X.env (.ref acc)) _ _ s6;refine fG (store_ok2 (X:=X) (v:=.ref acc) J0 hN hy (.inl hly) rfl (fun s7 I7 ⟨a,sb,ha⟩=>?_) (.inr hly));have nC:↑s3≠a:=by
  rcases ha with rfl|ha
  .exact fC.2.1
  .exact(fC.2.2.2.2.1 y a ha).symm
 refine⟨m,hm.sameBut sb nC,fun h' sb'=>⟨_,H5,?_,qn⟩⟩;exact I7.turned (t':=s7.toks) (fun b o hb e=>(sb'.2 b hb).trans e) fC.1 fC.2.1 fC.2.2.2.1 fC.2.2.2.2.1 fC.2.2.2.2.2
end
section
variable{X:Cx}{pins:List (Addr×Obj)}{σ:L2.St}{H:Hp}{s:uC}{h':vQ}
def Inv.turnedL{t':Nat}{ch:List Addr}(I:Inv X pins σ H s)(hf:∀b∈ch,FpOk X pins H b)(k:∀b o,b∉ch->s.heap.get? b=some o->h'.get? b=some o):Inv X pins σ H {s with heap:=h',toks:=t'}:=by
 have nit:∀b u,H b=some u->b∉ch:=fun b u e z=>by rw[(hf b z).1] at e;cases e
 refine I.step (g':=s.gens) (d':=s.drawn) (ch:=ch) (fun b hb=>⟨(hf b hb).2.2.2.1,(hf b hb).2.1,(hf b hb).2.2.2.2.1,(hf b hb).2.2.2.2.2⟩) (fun b o _ _ hc e _=>k b o hc e) (fun b o _ _ hc e _=>⟨o.slots,k b o hc e⟩) (fun _ _ _ _ n=>n)
  (fun b o hc e=>⟨o,k b o hc e⟩) (fun _ _ e=>e) (fun _ _ _ e=>e) (fun b ps e=>⟨#[],by rw[e];simp⟩) (fun m hm=>?_) (fun b u e=>?_) I.bare
 .obtain⟨o,es,ep,ho,r⟩:=hm;exact⟨o,es,ep,k _ o (fun z=>(hf _ z).2.1 rfl) ho,r⟩
 .refine(I.hok b u e).stay (fun c v hc q=>k c v ?_ q) (fun _ q=>q) fun _ _ q=>q;rcases hc with rfl|hc
  .exact nit _ _ e
  .exact nit _ _ hc
def Inv.turnedT{t':Nat}{ch:List Addr}{T:Addr}{ob:HO}(I:Inv X pins σ H s)(hf:∀b∈ch,FpOk X pins H b)(k:∀b o,b∉ch->s.heap.get? b=some o->h'.get? b=some o)(hT:s.heap.get? T=none)(hn:H T=none)(new:qbv X.prog X.w (upd H T ob) h' T ob):
  Inv X pins σ (upd H T ob) {s with heap:=h',toks:=t'}:=by
 have nit:∀b u,H b=some u->b∉ch:=fun b u e z=>by rw[(hf b z).1] at e;cases e
 refine I.step (g':=s.gens) (d':=s.drawn) (ch:=ch) (fun b hb=>⟨(hf b hb).2.2.2.1,(hf b hb).2.1,(hf b hb).2.2.2.2.1,(hf b hb).2.2.2.2.2⟩) (fun b o _ _ hc e _=>k b o hc e) (fun b o _ _ hc e _=>⟨o.slots,k b o hc e⟩)
  (fun b o _ e n=>by rw[qa7 (fun z=>by subst z;rw[hT] at e;cases e)];exact n)
  (fun b o hc e=>⟨o,k b o hc e⟩) (fun b xs e=>by rw[qa7 (qa9 e hn)];exact e) (fun b o u e=>by rw[qa7 (qa9 e hn)];exact e) (fun b ps e=>⟨#[],by rw[qa7 (qa9 e hn),e];simp⟩) (fun m hm=>?_) (fun b u e=>?_) I.bare
 .obtain⟨o,es,ep,ho,r⟩:=hm;exact⟨o,es,ep,k _ o (fun z=>(hf _ z).2.1 rfl) ho,r⟩
 .by_cases hb:b=T
  .subst hb;rw[qa1] at e;cases e;exact new
  .rw[qa7 hb] at e;refine(I.hok b u e).stay (fun c v hc q=>k c v ?_ q) (fun c q=>by rw[qa7 (qa9 q hn)];exact q) fun c xs q=>by rw[qa7 (qa9 q hn)];exact q
   rcases hc with rfl|hc
   .exact nit _ _ e
   .exact nit _ _ hc
end
def ItZ(K:uS)(l1 l2:Addr)(xs ys:List V):It:=
 ⟨fun i H=>SqL K H l1 xs/\SqL K H l2 ys/\i<xs.length/\i<ys.length,fun i H v H'=>∃T x y,H T=none/\xs[i]?=some x/\ys[i]?=some y/\v=.ref T/\H'=upd H T (.tup [x,y]),fun i H=>SqL K H l1 xs/\SqL K H l2 ys/\(xs.length<=i\/ys.length<=i)⟩
def ZSt(z TI TO i1 i2 l1 l2:Addr)(i:Nat)(h:vQ):Prop:=IsZip h z TI TO .none/\IsPair h TI (.ref i1) (.ref i2)/\(∃a b,IsPair h TO a b)/\h.IsListIter i1 l1 i/\h.IsListIter i2 l2 i
def turn_zip{P:uY}{w:vL}{K:uS}{elts:List vV}{kk:Nat}{tp:Pos}{z TI TO i1 i2 l1 l2:Addr}(D:ZipApart z TI TO i1 i2 l1 l2)(xs ys:List V):
  Turn P w K (.Tuple elts kk tp) (ItZ K l1 l2 xs ys) [z,TI,TO,i1,i2] z (ZSt z TI TO i1 i2 l1 l2) where
 mem:=by simp
 obj:=fun i h st b hb=>by
  obtain⟨hz,hTI,⟨a,c,hTO⟩,⟨o1,e1,_,d1⟩,o2,e2,_,d2⟩:=st;simp only[zP,yD,or_false] at hb;rcases hb with rfl|rfl|rfl|rfl|rfl
  .exact⟨_,hz,fun v q=>by have q':Data.fields _=Data.cell v:=q;cases q'⟩
  .exact⟨_,hTI,fun v q=>by have q':Data.seq _ _=Data.cell v:=q;cases q'⟩
  .exact⟨_,hTO,fun v q=>by have q':Data.seq _ _=Data.cell v:=q;cases q'⟩
  .exact⟨o1,e1,fun v q=>by rw[d1] at q;cases q⟩
  .exact⟨o2,e2,fun v q=>by rw[d2] at q;cases q⟩
 keep:=fun i h h' st k=>by
  obtain⟨hz,hTI,⟨a,c,hTO⟩,h1,h2⟩:=st;exact⟨k z (by simp) _ hz,k TI (by simp) _ hTI,⟨a,c,k TO (by simp) _ hTO⟩,h1.at fun o e=>k i1 (by simp) o e,h2.at fun o e=>k i2 (by simp) o e⟩
 item:=by
  intro X hP hw hK hc i pins s σ H E I hf st hg;subst hP hw hK;obtain⟨hz,hTI,⟨a,c,hTO⟩,h1,h2⟩:=st;obtain⟨q1,q2,g1,g2⟩:=hg;obtain⟨us,r1,p1,_⟩:=I.list q1;obtain⟨ws,r2,p2,_⟩:=I.list q2;obtain⟨u1,hu1,ru1⟩:=r1.get (zB g1);obtain⟨u2,hu2,ru2⟩:=r2.get (zB g2);refine wpAny_pyNext_zip_item D hz hTI hTO h1 h2 (PlainL.isList p1) (PlainL.isList p2) (x:=u1) (y:=u2) (by simpa using hu1) (by simpa using hu2) fun h' b1 b2 b3 b4 b5 b6 hk=>?_;have hn:H ↑s=none:=I.hok.fresh (uG _);have lt:∀{b:Addr} {o:Obj},s.heap.get? b=some o->b≠↑s:=fun e=>vI (uN e);have nz:z≠↑s:=lt hz;have hg0:s.heap.get? ↑s=none:=yS (uG _);have I1:Inv X pins σ (upd H ↑s (.tup [xs[i],ys[i]])) {s with heap:=h'}:=Inv.turnedT (t':=s.toks) (ch:=[z,TO,i1,i2]) I
   (fun b hb=>hf b (by simp only[zP,yD,or_false] at hb⊢;rcases hb with e|e|e|e<;>simp[e]))
   (fun b o hb e=>hk b o (fun q=>hb (by simp[q])) (fun q=>hb (by simp[q])) (fun q=>hb (by simp[q])) (fun q=>hb (by simp[q])) e) hg0 hn
   ⟨by show 2<=16777216;decide,[u1,u2],.cons ru1 (.cons ru2 .nil),⟨_,b5,rfl,_,rfl⟩⟩
  refine⟨.ref ↑s,rfl,wpAny_letOwnedTupleGo_zip (s:={s with heap:=h'}) b1 fun h2' c1 hs2=>?_⟩;have hfz:=hf z (by simp);have I2:Inv X pins σ (upd H ↑s (.tup [xs[i],ys[i]])) {s with heap:=h2'}:=I1.turned (t':=s.toks) (fun b o hb e=>(hs2.2 b hb).trans e) (by rw[qa7 nz];exact hfz.1) hfz.2.1 hfz.2.2.2.1 hfz.2.2.2.2.1 hfz.2.2.2.2.2;refine⟨.ref ↑s,_,I2,rfl,⟨↑s,xs[i],ys[i],hn,zB g1,zB g2,rfl,rfl⟩,
   ⟨c1,hs2.extBut _ _ D.TIz (hk _ _ D.TIz D.TITO D.TIi1 D.TIi2 hTI),⟨_,_,hs2.extBut _ _ D.TOz b2⟩,b3.extBut hs2.extBut D.i1z,b4.extBut hs2.extBut D.i2z⟩,fun b hb=>?_⟩
  have e:b≠↑s:=by
   simp only[zP,yD,or_false] at hb;obtain⟨o1,e1,_⟩:=h1;obtain⟨o2,e2,_⟩:=h2;rcases hb with rfl|rfl|rfl|rfl|rfl
   .exact nz
   .exact lt hTI
   .exact lt hTO
   .exact lt e1
   .exact lt e2
  rw[qa7 e];exact(hf b hb).1
 done:=by
  intro X hP hw hK hc i pins s σ H E I hf st hg;subst hP hw hK;obtain⟨hz,hTI,⟨a,c,hTO⟩,h1,h2⟩:=st;obtain⟨q1,q2,g⟩:=hg;obtain⟨us,r1,p1,_⟩:=I.list q1;obtain⟨ws,r2,p2,_⟩:=I.list q2;have l1:=r1.length;have l2:=r2.length;exact wpAny_pyNext_zip_end (I.ok.hd hc) D hz hTI hTO h1 h2 (PlainL.isList p1) (PlainL.isList p2) (g.elim (fun g=> .inl (by simp;omega)) fun g=> .inr (by simp;omega)) fun h' hk=>
   ⟨rfl,Inv.turnedL (t':=s.toks) (ch:=[z,TO,i1,i2]) I (fun b hb=>hf b (by simp only[zP,yD,or_false] at hb⊢;rcases hb with e|e|e|e<;>simp[e]))
    fun b o hb e=>hk b o (fun q=>hb (by simp[q])) (fun q=>hb (by simp[q])) (fun q=>hb (by simp[q])) (fun q=>hb (by simp[q])) e⟩
 self:=fun _ _ _ _ _ st h=>wpAny_pyIter_zip st.1 h
def rItZ(K:uS)(vs:List V)(H:Hp)(R:It->Hp->Prop):Prop:=∃l1 l2 xs ys,vs=[.ref l1,.ref l2]/\SqL K H l1 xs/\SqL K H l2 ys/\R (ItZ K l1 l2 xs ys) H
def iZip(K:uS)(ta:TA):TI:=fun σ H R=>ta σ H fun vs H1=>rItZ K vs H1 R
def boot_zip:aP "zip"=some (.type "zip"):=by decide+kernel
def pi_zip{X:Cx}{elts:List vV}{kk:Nat}{tp:Pos}{a b:vV}{ta:TA}{p pos:Pos}(hg:Gl X "zip")(hm:X.mg "zip"=none)(ha:PA X [a,b] ta)(hs:uZ [a,b] X.env=[(false,wL a X.env),(false,wL b X.env)]:=by rfl)(hs2:uZ [b] X.env=[(false,wL b X.env)]:=by rfl):
  PI X (.Tuple elts kk tp) (.Call (.Name "zip" p) [a,b] [] pos) (iZip X.K ta):=by
 intro pins s σ H R I h;refine Call_ (qgj I hg hm boot_zip (xZ (thn (ha pos pins s σ H _ I h) fun us s1 ⟨vs,H1,I1,r1,q1⟩=>?_) (by rw[hs,hs2]) (by rw[hs2];rfl)));obtain⟨l1,l2,xs,ys,rfl,g1,g2,q⟩:=q1
 cases r1 with
 |cons r rr=>
  cases rr with
  |cons r' rr=>
   cases rr
   cases r
   cases r'
   obtain⟨us,v1,p1,_⟩:=I1.list g1;obtain⟨ws,v2,p2,_⟩:=I1.list g2;have t1:=PlainL.isList p1;have t2:=PlainL.isList p2;have lt1:l1<↑s1:=by obtain⟨_,e,_⟩:=t1;exact uN e
   have lt2:l2<↑s1:=by obtain⟨_,e,_⟩:=t2;exact uN e
   refine call_zip_2 t1 t2 fun h' hz hTI hTO hi1 hi2 hsz hk=>?_;have I2:Inv X pins σ H1 {s1 with heap:=h'}:=I1.kept (t':=s1.toks) fun b o e=>hk b o e;refine wpAny_pyIter_zip (s:={s1 with heap:=h'}) hz ?_;refine⟨↑s1+4,_,_,_,H1,rfl,I2,turn_zip (zipApart_new lt1 lt2) xs ys,⟨hz,hTI,⟨_,_,hTO⟩,hi1,hi2⟩,fun b hb=>?_,q⟩;have le:↑s1<=b:=by
    simp only[zP,yD,or_false] at hb;rcases hb with rfl|rfl|rfl|rfl|rfl<;>omega
   exact I1.fpOk le (I1.hok.fresh le)
section
variable{K:uS}{σ:L2.St}{H:Hp}{D:Ends}{g:TG}{tb:TS}{ta:TA}{l1 l2:Addr}{xs ys:List V}
def r_iZ(h:ta σ H fun vs H1=>rItZ K vs H1 R):iZip K ta σ H R:=h
def r_itZ(e1:SqL K H l1 xs)(e2:SqL K H l2 ys)(h:R (ItZ K l1 l2 xs ys) H):rItZ K [.ref l1,.ref l2] H R:=⟨l1,l2,xs,ys,rfl,e1,e2,h⟩
def f_zip(hxy:xs.length=ys.length)(Pv:Nat->L2.St->Hp->Prop)(h0:Pv 0 σ H)(hl:∀i σ H,Pv i σ H->SqL K H l1 xs/\SqL K H l2 ys)
  (hs:∀i x y T σ H,xs[i]?=some x->ys[i]?=some y->Pv i σ H->H T=none->g (.ref T) σ (upd H T (.tup [x,y])) fun σ2 H2=>tb {nx:=Pv (i+1),rt:=D.rt,bk:=D.nx,ct:=Pv (i+1)} σ2 H2)(hd:∀σ H,Pv xs.length σ H->D.nx σ H):FOR (ItZ K l1 l2 xs ys) g tb D σ H:=by
 refine⟨fun i m σ H=>m=xs.length-i/\i<=xs.length/\Pv i σ H,⟨xs.length,rfl,wR _,h0⟩,?_⟩;rintro i m σ H ⟨rfl,hi,p⟩;obtain⟨q1,q2⟩:=hl i σ H p;by_cases hlt:i<xs.length
 .refine .inr ⟨⟨q1,q2,hlt,↑∅⟩,Pv (i+1),fun σ' H' p'=>⟨xs.length-(i+1),↑∅,rfl,hlt,p'⟩,fun v H' e=>?_⟩;obtain⟨T,x,y,hT,hx,hy,rfl,rfl⟩:=e;exact hs i x y T σ H hx hy p hT
 .have e:i=xs.length:=by omega
  subst e;exact .inl ⟨⟨q1,q2,.inl (uG _)⟩,hd σ H p⟩
end
section
variable{K:uS}{σ:L2.St}{H:Hp}{Q:VK}{D:Ends}{ta tv:TE}{t:TA}{a C dx:Addr}{fs:List (Str×V)}{f m:Str}{v y:V}{sp:Sp}{dvs:List V}{E:XK}
def kMk(C:Addr)(sp:Sp)(dvs:List V)(E:XK)(Q:VK)(vs:List V)(H:Hp):Prop:=∀x dx,H x=none->H dx=none->dx≠x->sp (.ref x ::(vs++dvs)) (upd (upd H dx (.own x)) x (.ins C dx [])) (fun v H2=>v=.non/\Q (.ref x) H2) E
def r_mk(h:t σ H fun vs H1=>kMk C sp dvs E Q vs H1):tMake C sp dvs E t σ H Q:=h
def kMt(C:Addr)(m:Str)(sp:Sp)(dvs:List V)(E:XK)(t:TA)(σ:L2.St)(Q:VK)(x:V)(H:Hp):Prop:=∃a dx fs,x=.ref a/\H a=some (.ins C dx fs)/\fs.lookup m=none/\t σ H fun vs H2=>sp (x ::(vs++dvs)) H2 Q E
def r_mt(h:ta σ H fun x H1=>kMt C m sp dvs E t σ Q x H1):tMeth C m sp dvs E ta t σ H Q:=h
def r_mtk(e:H a=some (.ins C dx fs))(l:fs.lookup m=none)(h:t σ H fun vs H2=>sp (.ref a ::(vs++dvs)) H2 Q E):kMt C m sp dvs E t σ Q (.ref a) H:=⟨a,dx,fs,rfl,e,l,h⟩
def kFl(K:uS)(f:Str)(Q:VK)(x:V)(H:Hp):Prop:=∃a C dx fs v,x=.ref a/\H a=some (.ins C dx fs)/\Cls K C/\qap K C f/\fs.lookup f=some v/\Q v H
def r_fl(h:ta σ H fun x H1=>kFl K f Q x H1):tFld K ta f σ H Q:=h
def r_flk(e:H a=some (.ins C dx fs))(c:Cls K C)(n:qap K C f)(l:fs.lookup f=some v)(h:Q v H):kFl K f Q (.ref a) H:=⟨a,C,dx,fs,v,rfl,e,c,n,l,h⟩
def kFs(K:uS)(f:Str)(y:V)(D:Ends)(σ:L2.St)(x:V)(H:Hp):Prop:=∃a C dx fs,x=.ref a/\H a=some (.ins C dx fs)/\Cls K C/\qap K C f/\fs.length<1000/\D.nx σ (upd H a (.ins C dx (qe0 f y fs)))
def r_fs(h:tv σ H fun y H1=>ta σ H1 fun x H2=>kFs K f y D σ x H2):sFld K ta tv f D σ H:=h
def qec(e:H a=some (.ins C dx fs))(c:Cls K C)(n:qap K C f)(hz:fs.length<1000)(h:D.nx σ (upd H a (.ins C dx (qe0 f y fs)))):kFs K f y D σ (.ref a) H:=⟨a,C,dx,fs,rfl,e,c,n,hz,h⟩
end
structure IsC(K:uS)(C:Addr):Prop where
 ha:vY K (.ref C) "__class__"=some (some (.builtin "object.__class__"))
 hn:dQ K (.builtin "object.__class__") "__get__"=some (some (.builtin "getset_descriptor.__get__"))
 htk:PySem.W.takesIn K (.builtin "object.__class__")=some true
 hm:mroIn K C (.type "object")=some true
section
variable{X:Cx}{k:Nat}{f C:Addr}{fd:uK}{ps:List Str}{sp:Sp}{dvs:List V}{ds:List uB}{W:L2.St->XK}{x m:Str}{p pos apos:Pos}{e o:vV}{es:List vV}{ta:TE}{t:TA}
def tMethX(C:Addr)(m:Str)(sp:Sp)(dvs:List V)(W:L2.St->XK)(ta:TE)(t:TA):TE:=fun σ H Q=>ta σ H fun x H1=>∃a dx fs,x=.ref a/\H1 a=some (.ins C dx fs)/\fs.lookup m=none/\t σ H1 fun vs H2=>sp (x ::(vs++dvs)) H2 Q (W σ)
def qb1{pl:Sem Bool}(he:PE X o ta)(c:Cls X.K C)(hm:Meth X.K C m f)(F:FnOk X.prog X.w X.K X.mg X.base (CX1 X.prog X.w) k f fd ps sp)(hr:Room k X.A)(hb:qam X.K fd ps ds)(hd:qbk dvs ds)(hx:Xes X W)(ha:PA X (e::es) t)(hex:X.ex=[]:=by rfl)
  (hst:uZ (e::es) X.env=(false,wL e X.env)::uZ es X.env:=by rfl)(hpl:(wP pos (uZ es X.env)).any (·.1)=false:=by rfl)
  (ht:wL (.Call (.Attribute o m apos) (e::es) [] pos) X.env=(do
   let ov<-wL o X.env
   standAt apos.atName
   let (f,first)<-fF [ov] (cQ ov m pl)
   dM pos f first (wP pos (uZ (e::es) X.env)) (bY pos (yU [] X.env))):=by rfl):
  PE X (.Call (.Attribute o m apos) (e::es) [] pos) (tMethX C m sp dvs W ta t):=by
 intro pins s σ H Q I h;refine xY (pl:=pl) (thn (he pins s σ H _ I h) fun u s1 ⟨x,H1,I1,rx,a,dx,fs,ex,ea,l,q⟩=>?_) ht;subst ex;obtain rfl:u=uP a:=rx;refine qd5 I1 ea c hm l (xD (first:=[.ref a]) (h₀:=X.base) I.ok.mod.kin hm.kp (thn (ha pos pins s1 σ H1 _ I1 q) fun us s2 ⟨vs,H2,I2,r,q2⟩=>⟨I2.kIn,?_⟩) hst hpl);exact run_fnX (us:=.ref a::us) (vs:=.ref a::vs) F hr hb hd hx hex I2 (.cons rfl r) q2
def pe_methX0{pl:Sem Bool}(he:PE X o ta)(c:Cls X.K C)(hm:Meth X.K C m f)(F:FnOk X.prog X.w X.K X.mg X.base (CX1 X.prog X.w) k f fd ps sp)(hr:Room k X.A)(hb:qam X.K fd ps ds)(hd:qbk dvs ds)(hx:Xes X W)(hex:X.ex=[]:=by rfl)
  (ht:wL (.Call (.Attribute o m apos) [] [] pos) X.env=(do
   let ov<-wL o X.env
   standAt apos.atName
   let (f,first)<-fF [ov] (cQ ov m pl)
   dM pos f first (wP pos (uZ [] X.env)) (bY pos (yU [] X.env))):=by rfl):
  PE X (.Call (.Attribute o m apos) [] [] pos) (tMethX C m sp dvs W ta tNil):=by
 intro pins s σ H Q I h;refine xY (pl:=pl) (thn (he pins s σ H _ I h) fun u s1 ⟨x,H1,I1,rx,a,dx,fs,ex,ea,l,q⟩=>?_) ht;subst ex;obtain rfl:u=uP a:=rx;exact qd5 I1 ea c hm l (PySem.W.callWith_K0 (first:=[.ref a]) I1.kIn hm.kp (run_fnX (us:=[.ref a]) (vs:=[.ref a]) F hr hb hd hx hex I1 (.cons rfl .nil) q))
def tMakeX(C:Addr)(sp:Sp)(dvs:List V)(W:L2.St->XK)(t:TA):TE:=fun σ H Q=>t σ H fun vs H1=>∀x dx,H1 x=none->H1 dx=none->dx≠x->sp (.ref x ::(vs++dvs)) (upd (upd H1 dx (.own x)) x (.ins C dx [])) (fun v H2=>v=.non/\Q (.ref x) H2) (W σ)
def run_makeX{pins:List (Addr×Obj)}{σ:L2.St}{H:Hp}{s:uC}{Q:VK}{us:List uB}{vs:List V}(M:Mk X.K C f)(F:FnOk X.prog X.w X.K X.mg X.base (CX1 X.prog X.w) k f fd ps sp)(hr:Room (k+1) X.A)(hb:qam X.K fd ps ds)(hd:qbk dvs ds)
  (hx:Xes X W)(hex:X.ex=[])(I:Inv X pins σ H s)(r:qbk vs us)
  (h:∀x dx,H x=none->H dx=none->dx≠x->sp (.ref x ::(vs++dvs)) (upd (upd H dx (.own x)) x (.ins C dx [])) (fun v H2=>v=.non/\Q (.ref x) H2) (W σ)):
  uU (uV X.prog X.w) X.A (call (.ref C) us) (EP X pins σ Q) X.xe s:=by
 have hq:=h (↑s+1) ↑s (I.hok.fresh (xQ _)) (I.hok.fresh (uG _)) (vI (bE _));have I2:=Inv.made (C:=C) I;have r2:qbk (V.ref (↑s+1) ::(vs++dvs)) (uP (↑s+1) ::(us++ds)):=.cons rfl (r.append hd);have hl:(uP (↑s+1)::us++ds).length=ps.length:=by
  have e:=r2.length;rw[F.len _ _ _ _ hq] at e;exact e.symm
 refine yV (make_map (f:=f) I.kIn M.makes M.init (beq_iff_eq.mp M.fn) (xA (F.run _ X.stack _ _ ⟨uP (↑s+1)::us,[]⟩ (uP (↑s+1) ::(us++ds)) _ _ (W σ) (hr.make C us [])
  (I2.env0.make C us []) (hb _ (uP (↑s+1)::us) I2.kIn hl) r2 hq) fun r s' hq'=>?_))
 cases r with
 |error e=>exact xes_call hx hex I2 hq'
 |ok fl=>
  cases fl with
  |ret u=>
   obtain⟨v,H',I3,rv,ev,q3⟩:=I2.after hq';subst ev;exact⟨rv,⟨V.ref (↑s+1),H',I3,rfl,q3⟩⟩
  |next=>exact vO hq'
  |brk=>exact vO hq'
  |cont=>exact vO hq'
def qfe(M:Mk X.K C f)(F:FnOk X.prog X.w X.K X.mg X.base (CX1 X.prog X.w) k f fd ps sp)(hr:Room (k+1) X.A)(hg:Gl X x)(hm:X.mg x=some (.ref C))(hb:qam X.K fd ps ds)(hd:qbk dvs ds)(hx:Xes X W)
  (ha:PA X (e::es) t)(hex:X.ex=[]:=by rfl)(hdb:(x==("__debug__":Str))=false:=by decide)(he:uZ (e::es) X.env=(false,wL e X.env)::uZ es X.env:=by rfl)(hpl:(wP pos (uZ es X.env)).any (·.1)=false:=by rfl):
  PE X (.Call (.Name x p) (e::es) [] pos) (tMakeX C sp dvs W t):=by
 intro pins s σ H Q I h;refine wU (qdn I hg hm ?_ hdb);refine xD (h₀:=X.base) I.ok.mod.kin M.kp (thn (ha pos pins s σ H _ I h) fun us s1 ⟨vs,H1,I1,r,q⟩=>⟨I1.kIn,?_⟩) he hpl;exact run_makeX M F hr hb hd hx hex I1 r q
end
structure FunD(K:uS)(x qual:Str)(st:Stmt)(f:Addr)(fd:uK)(T:Addr)(items:Array uB):Prop where
 ex:∃(oc:uB)(od:Option Addr)(kV doc pm:uB)(an:Option Addr)(cdv ct:uB)(osl:Array (Option uB)),
  fd=dY x qual (qbo st) (qbw st) (qa8 st) (.ref T) kV doc pm an cdv ct/\K.lookup f=some ⟨oc,od,.func fd,osl⟩/\cV K cdv qual=true
 kp:bN K (.ref f)=true
 tup:∃(o:Obj)(n:Nat),K.lookup T=some o/\o.data=.seq items n
section
variable{K:uS}{x qual:Str}{st:Stmt}{f T:Addr}{fd:uK}{ps:List Str}{items:Array uB}
def FunD.binds(F:FunD K x qual st f fd T items){ds:List uB} (h:∀(kV doc pm:uB)(an:Option Addr)(cdv ct:uB)(us:List uB),(us++ds).length=ps.length->
   bindArgs (dY x qual (qbo st) (qbw st) (qa8 st) (.ref T) kV doc pm an cdv ct) ⟨us,[]⟩=pure (ps.zip (us++ds))\/
   ∃g:Option (Array uB)->Sem (List (Str×uB)),bindArgs (dY x qual (qbo st) (qbw st) (qa8 st) (.ref T) kV doc pm an cdv ct) ⟨us,[]⟩=seqItems? (.ref T) >>= g/\g (some items)=pure (ps.zip (us++ds))):qam K fd ps ds:=by
 obtain⟨oc,od,kV,doc,pm,an,cdv,ct,osl,rfl,lk,hcd⟩:=F.ex;obtain⟨o,n,hT,hd⟩:=F.tup;intro s us KX hl;rcases h kV doc pm an cdv ct us hl with h|⟨g,h1,h2⟩
 .exact .of_eq h
 .exact BindsTo.of_defaults (T:=T) rfl (KX _ _ hT) hd h1 h2
end
section
variable{σ:L2.St}{H:Hp}{Q:VK}{ta:TE}{t:TA}{a C dx:Addr}{fs:List (Str×V)}{m:Str}{sp:Sp}{dvs:List V}{W:L2.St->XK}
def kMtX(C:Addr)(m:Str)(sp:Sp)(dvs:List V)(W:L2.St->XK)(t:TA)(σ:L2.St)(Q:VK)(x:V)(H:Hp):Prop:=∃a dx fs,x=.ref a/\H a=some (.ins C dx fs)/\fs.lookup m=none/\t σ H fun vs H2=>sp (x ::(vs++dvs)) H2 Q (W σ)
def r_mtX(h:ta σ H fun x H1=>kMtX C m sp dvs W t σ Q x H1):tMethX C m sp dvs W ta t σ H Q:=h
def r_mtkX(e:H a=some (.ins C dx fs))(l:fs.lookup m=none)(h:t σ H fun vs H2=>sp (.ref a ::(vs++dvs)) H2 Q (W σ)):kMtX C m sp dvs W t σ Q (.ref a) H:=⟨a,dx,fs,rfl,e,l,h⟩
def kMkX(C:Addr)(sp:Sp)(dvs:List V)(W:L2.St->XK)(σ:L2.St)(Q:VK)(vs:List V)(H:Hp):Prop:=∀x dx,H x=none->H dx=none->dx≠x->sp (.ref x ::(vs++dvs)) (upd (upd H dx (.own x)) x (.ins C dx [])) (fun v H2=>v=.non/\Q (.ref x) H2) (W σ)
def r_mkX(h:t σ H fun vs H1=>kMkX C sp dvs W σ Q vs H1):tMakeX C sp dvs W t σ H Q:=h
end
section
variable{prog:uY}{w:vL}{A:vR}{E:uB->uC->Prop}
theorem drawL{j l:Addr}{xs:List uB}(ne:l≠j):∀(todo:List uB)(i:Nat)(s:uC)(Q:List uB->uC->Prop),xs.drop i=todo->s.heap.IsListIter j l i->s.heap.IsList l xs.toArray->
  (∀h',h'.IsListIter j l (i+todo.length)->(∀b o,b≠j->s.heap.get? b=some o->h'.get? b=some o)->Q todo {s with heap:=h'})->uU (uV prog w) A (draw (.ref j) todo.length) Q E s
 | [],i,s,Q,_,st,_,q=>by
  show uU _ _ (pure []) _ _ _;exact uW (q s.heap st fun _ _ _ e=>e)
 |x::todo,i,s,Q,hd,st,hl,q=>by
  have hx:xs[i]?=some x:=by
   have z:=congrArg (fun l=>l[0]?) hd;simpa using z
  have hd2:xs.drop (i+1)=todo:=by
   have z:=congrArg (List.drop 1) hd;simpa[List.drop_drop] using z
  show uU _ _ (pyNext (.ref j) >>= _) _ _ _;refine uE (wpAny_pyNext_list_item st hl (x:=x) (by simpa using hx) fun h1 st1 sb=>?_);have kp:∀b o,b≠j->s.heap.get? b=some o->h1.get? b=some o:=fun b o hb e=>(sb.2 b hb).trans e;refine uE (wO (drawL ne todo (i+1) _ _ hd2 st1 (hl.at fun o e=>kp _ o ne e) fun h2 st2 kp2=>uW ?_));refine q h2 ?_ fun b o hb e=>kp2 b o hb (kp b o hb e);rw[zR,show i+(todo.length+1)=i+1+todo.length by omega];exact st2
def assignL{s:uC}{env:Env}{elts:List vV}{x1}{pos:Pos}{l:Addr}{xs:List uB}{Q:Unit->uC->Prop}(calm:A.handled=none)(hl:s.heap.IsList l xs.toArray)(hn:(xT elts env).length=xs.length)(hst:(xT elts env).findIdx? (·.1)=none)
  (q:∀h',(∀b o,s.heap.get? b=some o->h'.get? b=some o)->uU (uV prog w) A (eD ((xT elts env).map (·.2)) xs) Q E {s with heap:=h'}):uU (uV prog w) A (gD (.Tuple elts x1 pos) env (.ref l)) Q E s:=by
 have ne:l≠↑s:=by obtain⟨o,ho,_⟩:=hl;exact vI (uN ho)
 rw[assign_Tuple];refine uE (xJ ?_);unfold unpack;rw[hn,hst];refine uE (wO ?_);unfold unpackItems notIterableAtAll;refine uE (uE (wpAny_specialOf hl.typeIs F.slot_list_iter.lookup (uW ?_)));simp only[eU,if_false];have hl1:(s.heap.push {cls:=.type "list_iterator",data:=.fields #[.ref l,.int 0 0]}).IsList l xs.toArray:=hl.at fun o e=>uD _ e;refine uE (wO (aR hl (uE (wO (drawL ne xs 0 _ _ (by simp) ⟨_,vC _ rfl,rfl,rfl⟩ hl1 fun h1 st1 kp=>?_)))));rw[gI (wK _)];refine uE (wO (wpAny_pyNext_list_end calm st1 (hl1.at fun o e=>kp _ o ne e) (by simp) fun h2 kp2=>?_));simp only[Option.isSome_none,eU,if_false];refine uW (q h2 fun b o e=>?_);have nb:b≠↑s:=vI (uN e);exact kp2 b o nb (kp b o nb (uD _ e))
end
section
variable{X:Cx}{pos:Pos}
def gLst(K:uS)(n:Nat)(t:TGs):TG:=fun v σ H Q=>∃a xs,v=.ref a/\SqL K H a xs/\xs.length=n/\t xs σ H Q
def qf6{es:List vV}{k:Nat}{t:TGs}(hc:X.calm=true)(h:PGs X es t)(hn:(xT es X.env).length=n:=by rfl)(hst:(xT es X.env).findIdx? (·.1)=none:=by rfl):PG X (.Tuple es k pos) (gLst X.K n t):=by
 intro pins s σ H v u Q I r hw;obtain⟨a,xs,rfl,hq,hl,hw⟩:=hw
 cases r
 obtain⟨ws,rv,pl,_⟩:=I.list hq;refine assignL (I.ok.hd hc) (PlainL.isList pl) (by rw[hn,<-hl,rv.length]) hst fun h' kp=>?_;exact h pins _ σ H xs _ Q (I.kept (t':=s.toks) kp) rv hw
end
def r_glst{σ:L2.St}{t:TGs}{Q:L2.St->Hp->Prop}(s:SqL K H a xs)(hn:xs.length=n)(h:t xs σ H Q):gLst K n t (.ref a) σ H Q:=⟨a,xs,rfl,s,hn,h⟩
def kDs(p:Addr)(Q:VK)(x y:V)(H2:Hp):Prop:=H2 p=some (.dK [])/\∃kvs:List (Key×V),[(x,y)]=kvs.map (fun kv=>(kV kv.1,kv.2))/\kvs.length<=15/\Q (.ref p) (upd H2 p (.dK (qgh [] kvs)))
def r_disp1{σ:L2.St}{tk tv:TE}(h:∀p,H p=none->tk σ (upd H p (.dK [])) fun x H1=>tv σ H1 fun y H2=>kDs p Q x y H2):tDisp [(tk,tv)] σ H Q:=fun p hp=>h p hp
def r_ds{p:Addr}{y:V}(e:H p=some (.dK []))(h:Q (.ref p) (upd H p (.dK [(uH z,y)]))):kDs p Q (.str z) y H:=⟨e,[(uH z,y)],rfl,Nat.le_of_ble_eq_true rfl,h⟩
section
variable{P:uY}{w:vL}{K:uS}{mg:Str->Option uB}{base:vQ}{x qual:Str}{st:Stmt}{f T:Addr}{fd:uK}{N ps:List Str}{k:Nat}{sp:Sp}{items:Array uB}
def okDX(F:FunD K x qual st f fd T items)(S:FnScope N ps (qa8 st))(len:∀vs H Q E,sp vs H Q E->vs.length=ps.length)
  (hbody:∀(cdv:uB)(A:vR)(outer:List Env)(s:uC)(H:Hp)(vs:List V)(Q:VK)(E:XK),Room k (A.deeper (aC qual (qa8 st) ↑s f cdv))->sp vs H Q E->
   ∃t,PSs (xw (cxOf (CX1 P w) P w K mg base N qual (qa8 st) f cdv A outer s H E) (fun _=>E)) (qbw st) t/\t {nx:=fun _ H'=>Q .non H',rt:=Q} (start N vs) H):FnOk P w K mg base (CX1 P w) (k+1) f fd ps sp:=by
 obtain⟨oc,od,kV,doc,pm,an,cdv,ct,osl,rfl,lk,hcd⟩:=F.ex;refine fn_of lk hcd S len fun A outer s H vs Q E hr hsp=>?_;obtain⟨t,ht,q⟩:=hbody cdv A outer s H vs Q E hr hsp;exact⟨t,PSs.xes xes_fn ht,q⟩
def qh1{oc:uB}{od an:Option Addr}{osl:Array (Option uB)}{kV doc pm cdv ct:uB}{o:Obj}{n:Nat}(l:K.lookup f=some ⟨oc,od,.func (dY x qual (qbo st) (qbw st) (qa8 st) (.ref T) kV doc pm an cdv ct),osl⟩)
  (c:cV K cdv qual=true)(kp:bN K (.ref f)=true)(t:K.lookup T=some o)(hd:o.data=.seq items n):FunD K x qual st f (dY x qual (qbo st) (qbw st) (qa8 st) (.ref T) kV doc pm an cdv ct) T items:=
 ⟨⟨oc,od,kV,doc,pm,an,cdv,ct,osl,rfl,l,c⟩,kp,o,n,t,hd⟩
end
def oK(hs:List (Str×Addr)):List (Key×V):=hs.map fun p=>(uH p.1,.ref p.2)
def qdf:List (Str×Addr)->Str->Option Addr
 | [],_=>none
 |p::r,z=>if p.1=z then some p.2 else qdf r z
theorem qgn(z:Str):∀hs:List (Str×Addr),qcn (oK hs) (uH z)=(qdf hs z).map V.ref
 | []=>rfl
 |p::r=>by
  have ih:=qgn z r;unfold qcn oK at ih⊢;rw[zV,yH];by_cases h:p.1=z
  .have e:decide ((uH p.1:Key)=uH z)=true:=by rw[h];exact gK rfl
   simp only[e,qdf,gJ h];rfl
  .have e:decide ((uH p.1:Key)=uH z)=false:=gL fun q=>h (yR q);simp only[e,qdf,gI h];exact ih
theorem qdt{z:Str}:∀{hs:List (Str×Addr)},qdf hs z=none↔z∉hs.map (·.1)
 | []=>by simp[qdf]
 |p::r=>by
  have ih:=qdt (z:=z) (hs:=r);unfold qdf;by_cases q:p.1=z
  .rw[gJ q];simp[q]
  .rw[gI q,ih];simp[xK q,fun e:z=p.1=>q e.symm]
theorem qgx{z:Str}{h:Addr}:∀{hs:List (Str×Addr)},(hs.map (·.1)).Nodup->(z,h)∈hs->qdf hs z=some h
 |p::r,nd,m=>by
  rw[zV,zW] at nd;unfold qdf;rcases zP.mp m with e|e
  .rw[<-e,gJ rfl]
  .have q:p.1≠z:=fun q=>nd.1 (by rw[q];exact zI.mpr ⟨(z,h),e,rfl⟩);rw[gI q];exact qgx nd.2 e
def putK_oK{hs:List (Str×Addr)}{h:Addr}(n:qdf hs z=none):qbp (oK hs) (uH z) (.ref h)=oK (hs++[(z,h)]):=by
 have hn:=qdt.mp n;have e:((oK hs).any fun kv=>decide (kv.1=uH z))=false:=by
  rw[List.any_eq_false];intro kv hkv;obtain⟨p,hp,rfl⟩:=zI.mp hkv;intro q;have q':=yR (of_decide_eq_true q);exact hn (zI.mpr ⟨p,hp,q'⟩)
 unfold qbp;rw[gI (by rw[e];decide)];unfold oK;rw[zL];rfl
def oK_len(hs:List (Str×Addr)):(oK hs).length=hs.length:=zA _
section
variable{H:Hp}{Q:VK}{a h:Addr}{hs:List (Str×Addr)}{z:Str}
def r_diO(d:Rd H a (.dK (oK hs)))(q:Q (.bl (qdf hs z).isSome) H):rDI (.ref a) (.str z) H Q:=by
 refine⟨a,qcn (oK hs) (uH z),rfl,.inl ⟨_,uH z,d,rfl,rfl⟩,?_⟩;rw[qgn,aU];exact q
def qgt(d:Rd H a (.dK (oK hs)))(e:qdf hs z=some h)(q:Q (.ref h) H):rDGk (.ref a) (.str z) H Q:=
 ⟨a,.ref h,rfl,.inl ⟨_,uH z,d,rfl,by rw[qgn,e];rfl⟩,q⟩
end
end My
set_option exponentiation.threshold 2000
namespace My
open PySem PySem.Spec PyProof.Rows L2
end My
set_option maxHeartbeats 3200000
namespace My
open PySem PySem.Spec PyProof.Rows L2
section
variable{P:uY}{w:vL}{A:vR}
def sk_is(z:Str)(t:Tok):(strKind P w).is z (.str z t)=true:=by
 show eC z (.str z t)=true;simp[eC]
def take_in{zs:List Str}{i:Nat}{z:Str}(nd:zs.Nodup)(h:zs[i]?=some z):(zs.take i).contains z=false:=by
 rw[<-Bool.not_eq_true,dI];intro m;obtain⟨j,hj,e⟩:=zU.mp m;obtain⟨hi,e2⟩:=uL.mp h;rw[zS] at hj;rw[fT] at e;exact(aB.mp nd) j i ↑∅ hi ↑∅ (by rw[e,e2])
def take_next{zs:List Str}{i:Nat}{z:Str}(h:zs[i]?=some z)(y:Str):((zs.take i).contains y || decide (y=z))=(zs.take (i+1)).contains y:=by
 rw[zO,h,wY,Bool.or_eq_true,dI,dI,zH,decide_eq_true_iff];simp
def setT_loop{R:Result->uC->Prop}{it c:Addr}{fp wr:List Addr}{G:Array GenState->Array GenState->Prop}{zs:List Str}{pv:Nat->uB->Prop}{St:Nat->uC->Prop}
  (W:WalksS P w A.in1 it fp wr G zs.length pv St)(hc:c∉fp)(nd:zs.Nodup)(hv:∀i v,pv i v->∃z t,zs[i]?=some z/\v=.str z t)(hb:zs.length+1<gG):
  ∀(k i:Nat)(s:uC),zs.length-i=k->i<=zs.length->St i s->s.heap.SetOf (strKind P w) c (fun y=>(zs.take i).contains y) i->
   (∀s',Moved (c::wr) G s s'->s'.heap.SetOf (strKind P w) c (fun y=>(zs.take zs.length).contains y) zs.length->R (.ok (.ret .none)) s')->
   bI (uV P w) A (.builtin "set.update.loop" ⟨[.ref c,.ref it],[]⟩) R s:=by
 have cw:c∉wr:=fun h=>hc (W.sub _ h);have stays:∀{n:Nat} {S:Str->Bool} {s s':uC},Moved wr G s s'->s.heap.SetOf (strKind P w) c S n->s'.heap.SetOf (strKind P w) c S n:=fun hm hS=>by
  obtain⟨o,es,ep,t,ho,rest⟩:=hS;exact⟨o,es,ep,t,hm.heap c _ cw ho,rest⟩
 intro k
 induction k with
 |zero=>
  intro i s hk hi st hS hR;have e:i=zs.length:=by omega
  subst e;refine xW eB ?_;rw[xI aD];show uU _ _ (pyNext (.ref it) >>= _) _ _ _;refine uE (W.done s _ _ st fun s1 hm=>?_);exact uW (hR s1 (hm.mono fun b h=>zD _ h) (stays hm hS))
 |succ k ih=>
  intro i s hk hi st hS hR;have lt:i<zs.length:=by omega
  refine xW eB ?_;rw[xI aD];show uU _ _ (pyNext (.ref it) >>= _) _ _ _;refine uE (W.item i s _ _ lt st fun v s1 hp st1 hm=>?_);obtain⟨z,t,hz,rfl⟩:=hv i v hp;have S1:=stays hm hS;show uU _ _ (fF [dR z t] (setAdd c (.str z t)) >>= _) _ _ _;refine uE (wO ?_);unfold setAdd;refine wO (uE ((strKind P w).pyHash (k:=z) (sk_is z t) ?_));refine wpAny_setAddHashed_of (knd:=strKind P w) (s:={s1 with toks:=s1.toks+1}) (sk_is z t) rfl S1 ↑∅ fun h2 sb S2=>?_;have S3:h2.SetOf (strKind P w) c (fun y=>(zs.take (i+1)).contains y) (i+1):=SetOf_congr S2 (take_next hz) (by simp only[take_in nd hz];rfl);refine uW ⟨cN aD _,ih (i+1) _ ↑∅ lt (W.frame _ s1 _ _ st1 (xQ _) fun b h o e=>?_) S3 fun s4 hm4 S4=>?_⟩
  .rw[sb.2 b fun q=>hc (q▸h)];exact e
  .refine hR s4 (Moved.trans W.gtrans ((hm.mono fun b h=>zD _ h).then_heap (xQ _) fun b o h e=>?_) hm4) S4;rw[sb.2 b fun q=>h (q▸zG)];exact e
abbrev setO(led:Bool):Obj:={cls:=.type "set",dict:=none,data:=.set #[] 0 (.fresh 0 0 led)}
def setT_call{E:uB->uC->Prop}{s:uC}{l:Addr}{items:Array uB}{zs:List Str}{Q:uB->uC->Prop}(hh:A.handled=none)(hl:s.heap.IsList l items)(hi:fR items.toList zs)(nd:zs.Nodup)(hb:zs.length+1<gG)
  (h:∀(h':vQ)(tk:Nat),h'.SetOf (strKind P w) ↑s (fun y=>(zs.take zs.length).contains y) zs.length->(∀b o,b<↑s->s.heap.get? b=some o->h'.get? b=some o)->Q (.ref ↑s) {s with heap:=h',toks:=tk}):
  uU (uV P w) A (call (.type "set") [.ref l]) Q E s:=by
 obtain⟨c,tl,hmro⟩:=PySem.F.called_set.mro;have hmade:=PySem.F.called_set.made;have hsub:=PySem.F.called_set.sub;refine yV (codeAny_of_tree ?_);show uU _ _ (callAny (.type "set") _) _ _ _;refine uW ⟨eW _ (by decide+kernel),xW PySem.F.entry_type_call ?_⟩;rw[Around.under_plain (weight_type_call_type "set" [.ref l] []) rfl];have h1:=PySem.F.called_set.notType;have h2:=PySem.F.called_set.canCreate;have hct:=PySem.F.typeCall_set_1 (.ref l)
 repeat any_goals first|assumption|wp_step
 refine xA (code_set_new_1 (.ref l) (E:=E) (Q₁:=fun x s1=>∃led:Bool,x=.ref ↑s/\s1={s with heap:=s.heap.push (setO led)}) fun led=>⟨led,rfl,rfl⟩) fun r s1 hr=>?_
 cases r with
 |error e=>exact hr
 |ok fl=>
  cases fl with
  |ret obj=>
   obtain⟨led,rfl,rfl⟩:=hr;have hS:(s.heap.push (setO led)).get? ↑s=some (setO led):=vC _ rfl;have hT:Shared.TypeIs {s with heap:=s.heap.push (setO led)} (.ref ↑s) "set":=⟨_,hS,rfl⟩;have hli:=PySem.F.called_set.init.lookup;have hbi:=PySem.F.called_set.init.bind (.ref ↑s)
   repeat any_goals first|assumption|wp_step
   refine xA (codeAny_call_builtin (R:=wants (fun x s2=>x=.none/\∃h' tk,s2={s with heap:=h',toks:=tk}/\h'.SetOf (strKind P w) ↑s (fun y=>(zs.take zs.length).contains y) zs.length/\(∀b o,b<↑s->s.heap.get? b=some o->h'.get? b=some o)) E) PySem.F.called_set.init.plain PySem.F.entry_set_init (check_set_init_1 hT ?_)) fun r2 s2 hr2=>?_
   .obtain⟨ol,hol,hcl,nl,hdl⟩:=hl;obtain⟨ocls,odict,odata,oslots⟩:=ol;dsimp only at hcl hdl;subst hcl hdl;have hol':=uD (setO led) hol;have q1:=PySem.F.sub_list_set;have q2:=PySem.F.sub_list_frozenset;have q3:(cW "list"==cW "dict")=false:=∅
    have hl1:(s.heap.push (setO led)).IsList l items:=⟨_,hol',rfl,nl,rfl⟩;unfold aG.«set.__init__» noKeywords Builtin.Frozenset.updateFrom;generalize hPI:pyIter=PI
    wp_walk
    subst hPI;refine aR hl1 (uE (wpAny_runValue ?_));have lS:l<↑s:=uN hol;have h3:A.in1.in1.in1.handled=none:=by simp[hh]
    have nI:l≠(s.heap.push (setO led)).objs.size:=by
     rw[aS];exact vI (fS lS)
    have nS:↑s∉ [(s.heap.push (setO led)).objs.size,l]:=by
     rw[aS];intro z;simp only[zP,yD,or_false] at z;rcases z with z|z
     .exact absurd z (vI (bE _))
     .rw[z] at lS;exact wK _ lS
    have ez:items.size=zs.length:=by
     have:=hi.length;simpa using this
    have W:WalksS P w A.in1.in1.in1 _ _ _ _ items.size _ _:=(Walks.list h3 _ l nI items).toS;rw[ez] at W;refine setT_loop (zs:=zs) W nS nd (fun i v hv=>?_) hb (zs.length-0) 0 _ ↑∅ (wR _) ⟨⟨_,vC _ rfl,rfl,rfl⟩,hl1.push _⟩ ?_ ?_
    .obtain⟨y,t,e1,e2⟩:=hi.item i v (by rw[bB];exact hv);exact⟨y,t,e2,e1⟩
    .have hget:=uD {cls:=.type "list_iterator",data:=.fields #[.ref l,.int 0 0]} hS;exact SetOf_congr ((setObjOf_fresh (knd:=strKind P w) led).setOf hget (by unfold gG;omega)) (fun _=>rfl) rfl
    .intro s4 hm hS4;obtain⟨h4,g4,d4,tk4,os4⟩:=s4;have eg:g4=s.gens:=hm.gens;have ed:d4=s.drawn:=hm.drawn;have eo:os4=s.os:=hm.os;subst eg ed eo;refine uW ?_;refine uW ⟨rfl,h4,tk4,rfl,hS4,fun b o hb' e=>?_⟩;refine hm.heap b o (fun z=>?_) (uD _ (uD _ e));rw[aS] at z;simp only[zP,yD,or_false] at z;rcases z with z|z
     .rw[z] at hb';exact wK _ hb'
     .rw[z] at hb';exact wK _ (aV (bE _) hb')
   .cases r2 with
    |error e=>exact hr2
    |ok fl2=>
     cases fl2 with
     |ret r=>
      obtain⟨rfl,h',tk,rfl,hS',hk'⟩:=hr2
      repeat any_goals first|assumption|wp_step
      exact h _ _ hS' hk'
     |next=>exact hr2.elim
     |brk=>exact hr2.elim
     |cont=>exact hr2.elim
  |next=>exact hr.elim
  |brk=>exact hr.elim
  |cont=>exact hr.elim
end
def SetT(P:uY)(w:vL)(c:Addr)(n:Nat):HO:=.ext fun h=>∃S,h.SetOf (strKind P w) c S n
def rSetT(P:uY)(w:vL)(K:uS):List V->Hp->VK->Prop:=fun xs H Q=>∃(p:Addr)(zs:List Str),xs=[.ref p]/\SqL K H p (zs.map V.str)/\zs.Nodup/\zs.length<=60/\∀c,H c=none->Q (.ref c) (upd H c (SetT P w c zs.length))
def rLenT(P:uY)(w:vL):List V->Hp->VK->Prop:=fun xs H Q=>∃c n,xs=[.ref c]/\H c=some (SetT P w c n)/\Q (.int n) H
section
variable{X:Cx}
def call_setT(hc:X.calm=true:=by rfl):qcr X (.type "set") (rSetT X.prog X.w X.K):=by
 intro pins s σ H xs us Q I hv h;obtain⟨p,zs,rfl,hS,nd,hz,q⟩:=h;obtain⟨u,rfl,ru⟩:=hv.one
 cases ru
 obtain⟨its,rv,pl,hz'⟩:=I.list hS;refine setT_call (I.ok.hd hc) (PlainL.isList pl) (zs:=zs) (by simpa using qgr rv) nd (by unfold gG;omega) fun h' tk hT hk=>?_;have hg:=hT;obtain⟨o,es,ep,t,ho,_⟩:=hg;exact⟨.ref _,_,I.laid (a:=↑s) (o:=SetT X.prog X.w ↑s zs.length) (t':=tk) (fun b ob e=>hk b ob (uN e) e) (uG _) ⟨⟨_,hT⟩,⟨o,ho⟩,fun h1 h2 ⟨S,o1,r1,r2,r3,e1,rest⟩ k=>⟨S,o1,r1,r2,r3,k _ e1,rest⟩⟩,rfl,q _ (I.hok.fresh (uG _))⟩
def call_lenT:qcr X (.builtin "len") (rLenT X.prog X.w):=by
 intro pins s σ H xs us Q I hv h;obtain⟨c,n,rfl,e,q⟩:=h;obtain⟨u,rfl,ru⟩:=hv.one
 cases ru
 obtain⟨⟨S,o,es,ep,t,ho,hx,hd,_,_,hb,hf,rfl⟩,_⟩:=I.hok c _ e;refine call_len_set ho hx hd hf (by unfold gG at hb;omega) ⟨.int es.size,H,I.tok _,⟨_,rfl⟩,q⟩
end
section
variable{P:uY}{w:vL}{K:uS}{H:Hp}{Q:VK}
def r_setT{p:Addr}{zs:List Str}(hS:SqL K H p (zs.map V.str))(nd:zs.Nodup)(hz:zs.length<=60)(h:∀c,H c=none->Q (.ref c) (upd H c (SetT P w c zs.length))):rSetT P w K [.ref p] H Q:=⟨p,zs,rfl,hS,nd,hz,h⟩
def r_lenT2{c:Addr}{n:Nat}(e:H c=some (SetT P w c n))(h:Q (.int n) H):rLenT P w [.ref c] H Q:=⟨c,n,rfl,e,h⟩
end
def rLenD:List V->Hp->VK->Prop:=fun xs H Q=>∃a kvs,xs=[V.ref a]/\H a=some (.dK kvs)/\Q (.int kvs.length) H
def qgm{X:Cx}:qcr X (.builtin "len") rLenD:=L2.call_lenD
def r_lenD{H:Hp}{Q:VK}{a:Addr}{kvs:List (Key×V)}(e:H a=some (.dK kvs))(h:Q (.int kvs.length) H):rLenD [.ref a] H Q:=⟨a,kvs,rfl,e,h⟩
end My
set_option maxHeartbeats 1000000
namespace My
open PySem PySem.Spec PyProof.Rows L2
def rRepC:R2:=fun x y H Q=>∃(c:Nat)(n:Int),x=.str ⟨#[c]⟩/\y=.int n/\1<=n/\n<=100/\Q (.str ⟨(vZ n.toNat c).toArray⟩) H
def mul_c(c:Nat){n:Int}(h:1<=n):Txt.mul ⟨#[c]⟩ n=⟨(vZ n.toNat c).toArray⟩:=by
 have key:∀(m:Nat)(a:Array Nat),(vZ m #[c]).foldl (·++·) a=a++(vZ m c).toArray:=by
  intro m
  induction m with
  |zero=>intro a;simp
  |succ m ih=>
   intro a;rw[List.replicate_succ,List.foldl_cons,ih,List.replicate_succ];apply Array.ext';simp
 unfold Txt.mul;rw[gI ↑∅];by_cases z:((n==1 ||(⟨#[c]⟩:Str).length==0)=true)
 .rw[gJ z];have e:n=1:=by
   rw[Bool.or_eq_true] at z;rcases z with z|z
   .simpa using z
   .cases z
  subst e;rfl
 .rw[gI z,key];simp
section
variable{X:Cx}
def op_repC:OpR X (aE .Mult) rRepC:=by
 intro pins s σ H x y v u Q I rx ry h;obtain⟨c,n,rfl,rfl,h0,h1,q⟩:=h;obtain⟨t,rfl⟩:=rx;obtain⟨k,rfl⟩:=ry;refine SB.mul ?_ fun t' k=>⟨.str ⟨(vZ n.toNat c).toArray⟩,H,I.tok _,⟨t',by rw[mul_c c h0]⟩,q⟩;refine⟨by rw[gL ↑∅,gL ↑∅];rfl,fun _ _=>?_,fun _ _=>?_⟩
 .have z:(1:Int)<=(2^63-1)/n:=Int.le_ediv_of_mul_le ↑∅ ↑∅;show ¬((1:Int) >(2^63-1)/n);omega
 .refine gL (p:=(1*n.toNat > sizeLine)) ?_;rw[yT];omega
end
def r_repC{H:Hp}{Q:VK}{c:Nat}{n:Int}(h0:1<=n)(h1:n<=100)(h:Q (.str ⟨(vZ n.toNat c).toArray⟩) H):rRepC (.str ⟨#[c]⟩) (.int n) H Q:=⟨c,n,rfl,rfl,h0,h1,h⟩
def ValO(v d:Addr):HO:=.ext fun h=>h.IsValuesView v d
def rVals:V->List V->Hp->VK->Prop:=fun x xs H Q=>∃p kvs,x=.ref p/\xs=[]/\Rd H p (.dK kvs)/\∀v,H v=none->Q (.ref v) (upd H v (ValO v p))
section
variable{X:Cx}
def mt_vals:MtR X "dict.values" rVals:=by
 intro pins s σ H x xs v us Q I rx rv h;obtain⟨p,kvs,rfl,rfl,e,q⟩:=h
 cases rx
 have hus:=rv.zero;subst hus;obtain⟨z,hd,vs,rel,dd⟩:=qg6 I.hok e;refine call_meetsIn PySem.F.slot_dict_values dd.typeIs PySem.F.entry_dict_values (PySem.F.args_dict_values_1 _) (meets_dict_values (qbj X.prog X.w) p hd) ⟨⟨vs,dd⟩,?_⟩;exact⟨.ref _,_,I.laid (a:=↑s) (o:=ValO ↑s p) (t':=s.toks) (fun b ob e=>uD _ e) (uG _) ⟨⟨_,vC _ rfl,rfl,rfl⟩,⟨_,vC _ rfl⟩,fun h1 h2 ⟨o,e1,r⟩ k=>⟨o,k _ e1,r⟩⟩,rfl,q _ (I.hok.fresh (uG _))⟩
def rNotB:R2:=fun x y H Q=>∃b c,x=.bl b/\y=.bl c/\Q (.bl (b !=c)) H
def op_notB:OpR X (wG .IsNot) rNotB:=by
 intro pins s σ H x y v u Q I rx ry h;obtain⟨b,c,rfl,rfl,q⟩:=h
 cases rx
 cases ry
 exact isnot_bool ⟨.bl _,H,I,rfl,q⟩
end
section
variable{H:Hp}{kvs:List (Key×V)}{Q:VK}
def r_vals{p:Addr}(e:Rd H p (.dK kvs))(h:∀v,H v=none->Q (.ref v) (upd H v (ValO v p))):rVals (.ref p) [] H Q:=⟨p,kvs,rfl,rfl,e,h⟩
def r_notB{b c:Bool}(h:Q (.bl (b !=c)) H):rNotB (.bl b) (.bl c) H Q:=⟨b,c,rfl,rfl,h⟩
end
end My
namespace My
open PySem PySem.Spec PyProof.Rows L2 PyProof
end My
namespace My
open PySem PySem.Spec PyProof.Rows L2
section
inductive OddV(K:uS)(H:Hp):V->Prop
 |non:OddV K H .non
 |bl(b:Bool):OddV K H (.bl b)
 |int(i:Int):OddV K H (.int i)
 |lst{a:Addr}{xs:List V}(h:SqL K H a xs):OddV K H (.ref a)
 |tup{a:Addr}{xs:List V}(h:SqT K H a xs):OddV K H (.ref a)
 |dct{a:Addr}{kvs:List (Key×V)}(h:H a=some (.dK kvs)):OddV K H (.ref a)
end
section
variable{K:uS}{H:Hp}{Q:VK}
theorem qg2{y:Str}:∀nm:List Str,inV (.str y) (nm.map V.str)=decide (y∈nm)
 | []=>rfl
 |z::r=>by
  have ih:=qg2 (y:=y) r;unfold inV at ih⊢;rw[zV,yN,ih];by_cases c:z=y
  .subst c;rw[show eqV (V.str z) (V.str z)=true from beq_self_eq_true z,gK (zG ..)];rfl
  .rw[show eqV (V.str z) (V.str y)=false from beq_false_of_ne c,eF];by_cases m:y∈r
   .rw[gK m,gK (zD _ m)]
   .rw[gL m,gL fun h=>(zP.mp h).elim (fun e=>c e.symm) m]
def qes(nm:List Str):(nm.map V.str).all qd6=true:=by
 rw[fU];exact zZ.mpr fun _ _=>rfl
def r_inSs{p:Addr}{y:Str}{nm:List Str}(h:SqL K H p (nm.map V.str))(q:Q (.bl (decide (y∈nm))) H):rIn K false (.str y) (.ref p) H Q:=⟨p,_,rfl,.inl h,rfl,qes nm,by rw[qg2];exact q⟩
end
def XB(X:Cx)(E:XK)(e:uB)(s':uC):Prop:=∃(a:Addr)(C:uB)(d:Option Addr)(σ':L2.St)(H':Hp),e=.ref a/\Inv X [] σ' H' s'/\E C d H'/\
 ∃(T:Addr)(fl:uB)(σ1:L2.St)(H1:Hp)(s1:uC),Inv X [] σ1 H1 s1/\s1.heap.get? a=none/\s1.heap.get? T=none/\H' a=none/\H' T=none/\XTr s'.heap a C d fl T
abbrev xb(X:Cx)(E:XK):Cx:=X.wish (XB X E)
section
variable{X:Cx}{E:XK}{k:Nat}{f:Addr}{fd:uK}{ps:List Str}{sp:Sp}{dvs:List V}{ds:List uB}{x:Str}{p pos:Pos}{e:vV}{es:List vV}{t:TA}
def run_fnB{pins:List (Addr×Obj)}{σ:L2.St}{H:Hp}{s:uC}{Q:VK}{us:List uB}{vs:List V}(F:FnOk X.prog X.w X.K X.mg X.base (CX1 X.prog X.w) k f fd ps sp)(hr:Room k X.A)(hb:qam X.K fd ps ds)(hd:qbk dvs ds)
  (I:Inv (xb X E) pins σ H s)(r:qbk vs us)(h:sp (vs++dvs) H Q E):uU (uV X.prog X.w) X.A (call (.ref f) us) (EP (xb X E) pins σ Q) (XB X E) s:=by
 have r2:qbk (vs++dvs) (us++ds):=r.append hd;have hl:(us++ds).length=ps.length:=by rw[<-r2.length];exact F.len _ _ _ _ h
 refine yV (xA (F.run X.A X.stack s H ⟨us,[]⟩ (us++ds) (vs++dvs) Q E hr I.env0 (hb s us I.kIn hl) r2 h) fun r s' hq=>?_)
 match r,hq with
 | .error e,hq=>
  obtain⟨a,C,d,H',rfl,os,bare,un,hok,la,na,⟨T,lT,nT,x⟩,w⟩:=hq;have J:Inv (xb X E) pins σ H' s':=I.call' (ch:=[]) os un hok bare (fun b z=>absurd z (by simp));exact⟨a,C,d,σ,H',rfl,J.unwish.pins_of (fun _ z=>nomatch z),w,T,.none,σ,H,s,I.unwish.pins_of (fun _ z=>nomatch z),la,lT,na,nT,x⟩
 | .ok (.ret u),hq=>exact I.after hq
 | .ok .next,hq=>exact vO hq
 | .ok .brk,hq=>exact vO hq
 | .ok .cont,hq=>exact vO hq
def pe_callB2(F:FnOk X.prog X.w X.K X.mg X.base (CX1 X.prog X.w) k f fd ps sp)(hr:Room k X.A)(hg:Gl (xb X E) x)(hm:X.mg x=some (.ref f))(hk:bN X.K (.ref f)=true)(hb:qam X.K fd ps ds)(hd:qbk dvs ds)
  (ha:PA (xb X E) (e::es) t)(hdb:(x==("__debug__":Str))=false:=by decide)(he:uZ (e::es) X.env=(false,wL e X.env)::uZ es X.env:=by rfl)(hpl:(wP pos (uZ es X.env)).any (·.1)=false:=by rfl):
  PE (xb X E) (.Call (.Name x p) (e::es) [] pos) (tCallX sp dvs (fun _=>E) t):=by
 intro pins s σ H Q I h;refine wU (qdn I hg hm ?_ hdb);refine xD (h₀:=X.base) I.ok.mod.kin hk (thn (ha pos pins s σ H _ I h) fun us s1 ⟨vs,H1,I1,r,q⟩=>⟨I1.kIn,?_⟩) he hpl;exact run_fnB F hr hb hd I1 r q
end
section
variable{X:Cx}{pins:List (Addr×Obj)}{σ:L2.St}{H:Hp}{s:uC}
def block_raise{N:List Str}{scope:xF}{cl:List (Str×Addr)}{C0:Addr}{fp:List Addr}(hst:X.stack=X.env::X.outer)(hf:X.env.frame=some X.env.locals)(hex:X.ex=[])(I:Inv X pins σ H s)(hfp:∀b∈fp,FpOk X pins H b)(hC:C0=↑s)
  {E:XK}(hx:Xes X fun _=>E){Q:uB->uC->Prop}{acc e:uB}{s':uC}(h:XB (cxC X N scope cl C0 s H fp) E e s'):
  notedBy (uV X.prog X.w) X.A (aT scope cl C0 X.env) (fun e s'=>fQ (uV X.prog X.w) X.A X.xe none Q acc C0 (.error e) s') e s':=by
 obtain⟨a,C,d,σ',H',rfl,J,w,T,fl,σ1,H1,s1,J1,la,lT,na,nT,x⟩:=h;have O:Inv X pins σ H' s':=Inv.uncomp I hfp hC J ⟨rfl,fun _ _=>rfl⟩;have O1:Inv X pins σ H1 s1:=Inv.uncomp I hfp hC J1 ⟨rfl,fun _ _=>rfl⟩;have pn:∀b,s1.heap.get? b=none->∀p∈X.pn++pins,p.1≠b:=fun b lb p hp z=>by
  have w:=(O1.pin p hp).1;rw[z,lb] at w
  cases w
 obtain⟨m,⟨oC,es,ep,hoC,hdC,hsk,hnf⟩,_⟩:=id J.loc;have hoC:s'.heap.get? C0=some oC:=hoC;obtain⟨m1,⟨oC1,_,_,hoC1,_⟩,_⟩:=id J1.loc;have hoC1:s1.heap.get? C0=some oC1:=hoC1;have nC:∀b,s1.heap.get? b=none->C0≠b:=fun b lb z=>by rw[z,lb] at hoC1;cases hoC1
 have fC:FpOk X pins H' C0:=I.fpOk (by rw[hC];exact uG _) J.free;obtain⟨g0,g1,g2,g3,g4,g5⟩:=id fC;have P:Inv X (pins++[(C0,oC)]) σ H' s':=O.pins_of fun p hp=>by
  rcases zH.mp hp with z|z
  .exact O.pin p (zM _ z)
  .rw[zE.mp z];exact⟨hoC,g0,g1,g2,fun v z=>by rw[hdC] at z;cases z⟩
 have pn2:∀b,s1.heap.get? b=none->∀p∈X.pn++(pins++[(C0,oC)]),p.1≠b:=fun b lb p hp=>by
  rw[<-cG] at hp;rcases zH.mp hp with z|z
  .exact pn b lb p z
  .rw[zE.mp z];exact nC b lb
 obtain⟨oe,vs,oT,ts,he,hc,hdd,hd,h1,hTe,hT,hdT,h3⟩:=id x;have xin:XIn X (pins++[(C0,oC)]) H' s'.heap a C d:=⟨⟨qgg O1 hex la,na,pn2 a la,⟨oe,vs,he,hd⟩⟩,.inr ⟨T,⟨qgg O1 hex lT,nT,pn2 T lT,⟨oT,ts,hT,hdT⟩⟩,fl,x⟩⟩;show uU _ _ (noteFrame (.ref a) X.env) _ _ s';refine note_x P P.ok.frames hst hf xin fun s2 I2 x2=>?_;have hC2:s2.heap.get? C0=some oC:=(I2.pin (C0,oC) (zM _ (zM _ (zE.mpr rfl)))).1;refine⟨m,⟨oC,es,ep,hC2,hdC,hsk,hnf⟩,fun h' sb cenv _=>?_⟩;obtain⟨r2,T2,rT2,oe2,vs2,oT2,ts2,he2,hc2,hdd2,hd2,h12,hTe2,hT2,hdT2,h32⟩:=x2;have ne1:a≠C0:=(nC a la).symm;have ne2:T2≠C0:=fun z=>rT2.pin (C0,oC) (zM _ (zM _ (zE.mpr rfl))) z.symm;have I3:Inv X pins σ H' {s2 with heap:=h'}:=I2.unpinned.turned (t':=s2.toks) (fun b o hb e=>(sb.2 b hb).trans e) g0 g1 g3 g4 g5;have he3:h'.get? a=some oe2:=(sb.2 a ne1).trans he2;have hT3:h'.get? T2=some oT2:=(sb.2 T2 ne2).trans hT2;have lessP:∀{b:Addr},(∀p∈X.pn++(pins++[(C0,oC)]),p.1≠b)->∀p∈X.pn++pins,p.1≠b:=fun {b} hh p hp=>hh p (by
  rcases zH.mp hp with z|z
  .exact zQ _ z
  .exact zM _ (zQ _ z))
 have xh:qf8 X pins H' h' a C d (aJ X.env.locals):=⟨⟨r2.nw,r2.un,lessP r2.pin,⟨oe2,vs2,he3,hd2⟩⟩,T2,⟨rT2.nw,rT2.un,lessP rT2.pin,⟨oT2,ts2,hT3,hdT2⟩⟩,oe2,vs2,oT2,ts2,he3,hc2,hdd2,hd2,h12,hTe2,hT3,hdT2,h32⟩;unfold PySem.passOn;refine uE (cE he3 hd2 h12 ?_);have fin:uU (uV X.prog X.w) X.A (do gE (.ref a) cenv.frame;throw (.ref a):Sem uB) (fun _ _=>False) X.xe {s2 with heap:=h'}:=
  uE (qh2 cenv.frame I3 xh fun s4 I4 x4=>wpAny_throw (hx pins σ H' s4 a C d I4 x4.xin w))
 first
  |(rw[gI (show ¬((uP T2==wJ)=true) from by simp)];exact fin)
  |(rw[gI (show ¬((uP T2==wJ)=true) from by simp)];exact uE (uW fin))
  |(refine uE ?_;rw[gI (show ¬((uP T2==wJ)=true) from by simp)];exact uW fin)
end
section
variable{X:Cx}
def pe_compX{E:XK}{elt iter:vV}{x:Str}{px:Pos}{ifs:List vV}{scope:xF}{cl:List (Str×Addr)}{pos:Pos}{caps:List Nat}{cn:List Str}{wi:TI}{tt:CT TT}{te:CT TE}(hst:X.stack=X.env::X.outer)(hf:X.env.frame=some X.env.locals)(hex:X.ex=[])(hx:Xes X fun _=>E)(Cp:Caps X x scope cl caps cn)(hc:X.calm=true)
  (hi:PI X (.Name x px) iter wi)(ht:∀C s H fp,PIfs (cxC X (x::cn) scope cl C s H fp) ifs (tt C s H fp))(he:∀C s H fp,PE (xb (cxC X (x::cn) scope cl C s H fp) E) elt (te C s H fp))
  (hs:∀x,cD iter X.env x=pure x:=by intro _;rfl):
  PE X (.ListComp elt [⟨.Name x px,iter,ifs,0⟩] scope pos) (tComp wi caps tt te):=by
 intro pins s σ H Q I h;rw[eval_ListComp];refine cM (use:=none) rfl hs Cp.clos Cp.kind Cp.names (thn (hi pins s σ H _ I h) fun v s1 h1=>thn h1 fun itv s2 h2=>qh3 Cp hc ht h2 (fun acc s3 H3 fp I3 f3 pn s9 τ H9 R I9 q9=>vS (he _ _ _ _ pn s9 τ H9 R (I9.wish _) q9) (fun _ _ ⟨w,H10,Iw,r⟩=>⟨w,H10,Iw.unwish,r⟩) fun e' s' q=>block_raise hst hf hex I3 f3 rfl hx q) fun acc s3 H3 fp I3 f3 τ H5 s6 v I6 q=>?_);obtain⟨m,hm,_⟩:=id I6.loc;exact⟨m,hm,fun h' sb=>⟨.ref acc,H5,Inv.uncomp I3 f3 rfl I6 sb,rfl,q⟩⟩
end
end My
namespace My
open PySem PySem.Spec PyProof.Rows L2 PyProof PySem.Builtin.Str
end My
namespace My
open PySem PySem.Spec PyProof.Rows L2 PyProof PySem.Builtin.Str PySem.StrLaws
def hits(l:List Nat)(c:Nat)(is:List Nat):List Nat:=is.filter fun i=>decide (l[i]?=some c)
end My
namespace My
open PySem PySem.Spec PyProof.Rows L2 PyProof PySem.Builtin.Str PySem.NumText
def dg(m:Nat):List Nat:=(Nat.toDigits 10 m).map Char.toNat
end My
namespace My
open PySem PySem.Spec PyProof.Rows L2 PyProof PySem.Builtin.Str
end My
namespace My
open PySem PySem.Spec PyProof.Rows L2 PySem.Builtin
end My
namespace My
open PySem PySem.Spec PyProof.Rows L2
end My
namespace My
open PySem PySem.Spec PyProof.Rows L2 PyProof PySem.SeqAt
def isTx(z:Str):uB->Bool
 | .str a _=>a==z
 |_=>false
theorem isTx_at(z:Str):∀{us:List uB} {ss:List Str},fR us ss->∀(j:Nat)(h1:j<us.length)(h2:j<ss.length),isTx z us[j]=(ss[j]==z)
 |_,_,.nil,j,h1,_=>absurd h1 (bQ j)
 |_,_,.cons x t h,0,_,_=>rfl
 |_,_,.cons x t h,j+1,h1,h2=>isTx_at z h j (xU h1) (xU h2)
theorem isTx_eq{A:vR}{s:uC}(z:Str)(t:Tok):∀{us:List uB} {ss:List Str},fR us ss->∀y∈us,EqAt A s y (.str z t) (isTx z y)
 |_,_,.nil,y,h=>by simp at h
 |_,_,.cons x u r,y,h=>by
  rcases zP.mp h with rfl|h
  .exact EqAt.str_str x u z t
  .exact isTx_eq z t r y h
theorem idx_ne{z:Str}:∀{ss:List Str} {j:Nat} (h:j<ss.length),j<ss.idxOf z->ss[j]≠z
 | [],j,h,_=>absurd h (bQ j)
 |x::ss,0,_,hj=>fun e=>by
  have e:x=z:=e;rw[List.idxOf_cons,e] at hj;simp at hj
 |x::ss,j+1,h,hj=>by
  rw[List.idxOf_cons] at hj
  cases c:(x==z) with
  |true=>rw[c] at hj;simp at hj
  |false=>
   rw[c] at hj;exact idx_ne (xU h) (by simpa using hj)
section
variable{X:Cx}
def rIdxS(K:uS):V->List V->Hp->VK->Prop:=fun x xs H Q=>∃(l:Addr)(ss:List Str)(z:Str),x=.ref l/\xs=[.str z]/\SqL K H l (ss.map V.str)/\z∈ss/\Q (.int ((ss.idxOf z:Nat):Int)) H
def mt_idxS:MtR X "list.index" (rIdxS X.K):=by
 intro pins s σ H x xs v us Q I rx rv h;obtain⟨l,ss,z,rfl,rfl,hS,hz,q⟩:=h
 cases rx
 obtain⟨u,rfl,ru⟩:=rv.one;obtain⟨t,rfl⟩:=ru;obtain⟨its,r1,pl,hz'⟩:=I.list hS;have sa:=qgr r1;have hlen:=r1.length;rw[zA] at hlen;obtain⟨⟨cls,dd,data,sl⟩,ho,hc,n,hd⟩:=id pl.isList;simp only at hc hd;subst hc hd;have hj:ss.idxOf z<ss.length:=List.idxOf_lt_length_iff.mpr hz;have hz2:ss.length<=16777216:=by rw[zA] at hz';exact hz'
 refine call_meets cR ⟨_,ho,rfl⟩ PySem.F.entry_list_index (PySem.F.args_list_index_2 _ _)
  (list_indexAt l its.toArray n dd sl (.str z t) (isTx z) (ss.idxOf z) (by simp;omega) ↑∅ ?_ ?_) ⟨ho,fun y hy=>isTx_eq z t sa y (by simpa using hy),.int ((ss.idxOf z:Nat):Int),H,I.tok _,⟨_,rfl⟩,q⟩
 .show isTx z its[ss.idxOf z]=true;rw[isTx_at z sa _ ↑∅ hj];simpa using List.getElem_idxOf hj
 .intro j hjs hlt;show isTx z its[j]=false;rw[isTx_at z sa j (by simpa using hjs) ↑∅];exact beq_false_of_ne (idx_ne _ hlt)
end
section
variable{K:uS}{H:Hp}{Q:VK}
def r_idxS{l:Addr}{ss:List Str}{j:Nat}(h:SqL K H l (ss.map V.str))(nd:ss.Nodup)(hj:j<ss.length)(q:Q (.int (j:Int)) H):rIdxS K (.ref l) [.str ss[j]] H Q:=⟨l,ss,ss[j],rfl,rfl,h,zX hj,by
 have e:ss.idxOf ss[j]=j:=List.Nodup.idxOf_getElem nd j hj;rw[e];exact q⟩
end
end My
namespace My
open PySem PySem.Spec PyProof.Rows L2
end My
namespace My
open PySem PySem.Spec PyProof.Rows L2 PyProof PySem.SeqAt
end My
namespace My
open PySem PySem.Spec PyProof.Rows L2
section
variable{K:uS}{H:Hp}{p:Addr}{n:Int}{xs:List V}
def deq_nilL{n:Nat}{a b:Addr}(ha:SqL K H a xs)(hb:SqL K H b [])(ne:a≠b):DEq K H (n+1) (.ref a) (.ref b) (decide (xs=[])):=by
 cases xs with
 |nil=>
  have z:=DEq.ls (n:=n) (e:=fun _=>true) ha hb ne rfl (fun j h1 h2=>absurd h1 (bQ j));exact z
 |cons p r=>exact DEq.lsN ha hb ne (by simp)
end
def rAny(K:uS):List V->Hp->VK->Prop:=fun xs H Q=>∃(p:Addr)(bs:List Bool),xs=[.ref p]/\SqL K H p (bs.map V.bl)/\Q (.bl (bs.any id)) H
def any_range(bs:List Bool):((vG bs.length).any fun i=>(bs[i]?).getD true)=bs.any id:=by
 rw[wY,yG,yG];constructor
 .rintro⟨i,hi,h⟩;have hi':=yI.mp hi;rw[zB hi'] at h;exact⟨_,zX hi',h⟩
 .rintro⟨b,hb,h⟩;obtain⟨i,hi,e⟩:=zU.mp hb;exact⟨i,yI.mpr hi,by rw[zB hi,e];exact h⟩
section
variable{X:Cx}
def call_anyB(hc:X.calm=true):qcr X (.builtin "any") (rAny X.K):=by
 intro pins s σ H xs us Q I hv h;obtain⟨p,bs,rfl,hS,q⟩:=h;obtain⟨u,rfl,ru⟩:=hv.one
 cases ru
 obtain⟨its,rv,pl,hz⟩:=I.list hS;have hl:=pl.isList;have hlt:p<↑s:=by obtain⟨_,e,_⟩:=hl;exact uN e
 have hlen:=rv.length;rw[zA] at hlen;refine call_any_walk (aR hl ?_);refine⟨↑s,[↑s,p],[↑s],its.toArray.size,_,_,fun i=>(bs[i]?).getD true,rfl,Walks.list (A:=X.A.in1) (I.ok.hd hc) _ p (vI hlt) its.toArray,⟨⟨_,vC _ rfl,rfl,rfl⟩,hl.push _⟩,fun i v s' Q' E' hP hQ=>?_,fun h' tk hk=>?_⟩
 .have hi:its[i]?=some v:=by simpa using hP
  have hb:i<bs.length:=by rw[hlen];exact(uL.mp hi).1
  have hx:(bs.map V.bl)[i]?=some (.bl bs[i]):=by rw[zC,zB hb];rfl
  obtain⟨u,e,r⟩:=rv.get hx;rw[hi] at e
  cases e
  cases r
  dsimp only at hQ;rw[zB hb] at hQ;exact wQ hQ
 .have e:((vG its.toArray.size).any fun i=>(bs[i]?).getD true)=bs.any id:=by
   rw[zN,<-hlen];exact any_range bs
  rw[e];exact⟨.bl _,H,I.kept (t':=tk) (fun b o eb=>hk b o (fun hm=>by have z:=uN eb;rw[zE.mp hm] at z;exact wK _ z) (uD _ eb)),rfl,q⟩
end
section
variable{K:uS}{H:Hp}{p:Addr}{Q:VK}
def r_any{bs:List Bool}(e:SqL K H p (bs.map V.bl))(h:Q (.bl (bs.any id)) H):rAny K [.ref p] H Q:=⟨p,bs,rfl,e,h⟩
end
inductive PEq(K:uS)(H:Hp):Nat->V->V->Bool->Prop
 |same{n:Nat}{a:Addr}:PEq K H n (.ref a) (.ref a) true
 |flat{n:Nat}{x y:V}(hx:qd6 x=true)(hy:qd6 y=true):PEq K H n x y (eqV x y)
 |ls{n:Nat}{a b:Addr}{xs ys:List V}{e:Nat->Bool}(ha:SqL K H a xs)(hb:SqL K H b ys)(ne:a≠b)(hl:xs.length=ys.length)
   (he:∀j (h1:j<xs.length) (h2:j<ys.length),PEq K H n xs[j] ys[j] (e j)):PEq K H (n+1) (.ref a) (.ref b) ((vG xs.length).all e)
 |lsN{n:Nat}{a b:Addr}{xs ys:List V}(ha:SqL K H a xs)(hb:SqL K H b ys)(ne:a≠b)(hl:xs.length≠ys.length):PEq K H (n+1) (.ref a) (.ref b) false
 |ts{n:Nat}{a b:Addr}{xs ys:List V}{e:Nat->Bool}(ha:SqT K H a xs)(hb:SqT K H b ys)(ne:a≠b)
   (he:∀j (h1:j<xs.length) (h2:j<ys.length),PEq K H n xs[j] ys[j] (e j)):PEq K H (n+1) (.ref a) (.ref b) ((vG (min xs.length ys.length)).all e && xs.length==ys.length)
section
variable{X:Cx}{pins:List (Addr×Obj)}{σ:L2.St}{H:Hp}{s:uC}
def peq_ok(I:Inv X pins σ H s){n:Nat}{x y:V}{k:Bool}(q:PEq X.K H n x y k):∀(A:vR)(u v:uB),qb8 x u->qb8 y v->A.units+n<cLine->SeqAt.EqAt A s u v k:=by
 induction q with
 | @same n a=>
  intro A u v ru rv hu;obtain rfl:u=uP a:=ru;obtain rfl:v=uP a:=rv;exact SeqAt.EqAt.same _
 |flat hx hy=>
  intro A u v ru rv hu;exact eqAt_V ru rv hx hy
 | @ls n a b xs ys e ha hb ne hl he ih=>
  intro A u v ru rv hu;obtain rfl:u=uP a:=ru;obtain rfl:v=uP b:=rv;obtain⟨its,r1,p1,_⟩:=I.list ha;obtain⟨its2,r2,p2,_⟩:=I.list hb;have l1:=r1.length;have l2:=r2.length;have z:=SeqAt.RcAt.lists (A:=A) (s:=s) (e:=e) (PlainL.isList p1) (PlainL.isList p2) (by rw[zN,zN];omega) ↑∅ fun j h1 h2=>by
   have k1:j<its.length:=by simpa using h1
   have k2:j<its2.length:=by simpa using h2
   have w:=ih j ↑∅ ↑∅ A.in1 its[j] its2[j] (qcw r1 ↑∅ k1) (qcw r2 ↑∅ k2) (by show A.units+1+n<cLine;omega);simpa using w
  rw[zN,<-l1] at z;exact eZ ne z
 | @lsN n a b xs ys ha hb ne hl=>
  intro A u v ru rv hu;obtain rfl:u=uP a:=ru;obtain rfl:v=uP b:=rv;obtain⟨its,r1,p1,_⟩:=I.list ha;obtain⟨its2,r2,p2,_⟩:=I.list hb;have l1:=r1.length;have l2:=r2.length;exact eZ ne (SeqAt.RcAt.lists_lengths (PlainL.isList p1) (PlainL.isList p2) (by rw[zN,zN];simp;omega) ↑∅)
 | @ts n a b xs ys e ha hb ne he ih=>
  intro A u v ru rv hu;obtain rfl:u=uP a:=ru;obtain rfl:v=uP b:=rv;obtain⟨its,r1,p1,_⟩:=I.tuple ha;obtain⟨its2,r2,p2,_⟩:=I.tuple hb;have l1:=r1.length;have l2:=r2.length;have z:=SeqAt.RcAt.tuples (A:=A) (s:=s) (e:=e) p1 p2 ↑∅ fun j h1 h2=>by
   have k1:j<its.length:=by simpa using h1
   have k2:j<its2.length:=by simpa using h2
   have w:=ih j ↑∅ ↑∅ A.in1 its[j] its2[j] (qcw r1 ↑∅ k1) (qcw r2 ↑∅ k2) (by show A.units+1+n<cLine;omega);simpa using w
  rw[zN,zN,<-l1,<-l2] at z;exact eZ ne z
def vals_of{xs:List V}{us:List uB}(r:qbk xs us){u:uB}(hu:u∈us):∃x∈xs,qb8 x u:=by
 obtain⟨j,hj,e⟩:=zU.mp hu;have hl:=r.length;exact⟨xs[j]'↑∅,zX _,by rw[<-e];exact qcw r ↑∅ hj⟩
end
end My
namespace My
open PySem PySem.Spec PyProof.Rows L2 PyProof PySem.SeqAt
end My
namespace My
open PySem PySem.Spec PyProof.Rows L2 PySem.W
structure SO(n:Nat)(lt:Nat->Nat->Bool):Prop where
 tr:∀i j k,i<n->j<n->k<n->lt i j=true->lt j k=true->lt i k=true
 to:∀i j,i<n->j<n->i≠j->lt i j=false->lt j i=true
abbrev gt0(p:Array Nat)(i:Nat):Nat:=p.getD i 0
structure Pm(n:Nat)(p:Array Nat):Prop where
 pm:p.Perm (List.toArray (vG n))
def Dn(lt:Nat->Nat->Bool)(p:Array Nat)(m:Nat):Prop:=∀i j,i<j->j<m->lt (gt0 p j) (gt0 p i)=true
end My
namespace My
open PySem PySem.Spec PyProof.Rows L2
end My
namespace My
open PySem PySem.Spec PyProof.Rows L2 PySem.W
def kv_vals{kvs:List (Key×V)}{vs:List (Key×uB)}(rel:KV kvs vs):qbk (kvs.map (·.2)) (vs.map (·.2)):=by
 induction rel with
 |nil=>exact .nil
 |cons r _ ih=>exact .cons r.2 ih
section
variable{X:Cx}
def rListV:List V->Hp->VK->Prop:=fun xs H Q=>∃(v p:Addr)(kvs:List (Key×V)),xs=[.ref v]/\H v=some (ValO v p)/\Rd H p (.dK kvs)/\∀l,H l=none->Q (.ref l) (upd H l (.lst (kvs.map (·.2))))
def call_listV(hc:X.calm=true):qcr X (.type "list") rListV:=by
 intro pins s σ H xs us Q I hv h;obtain⟨v,p,kvs,rfl,ev,hR,q⟩:=h;obtain⟨u,rfl,ru⟩:=hv.one
 cases ru
 have ok:=hR.ok I.hok;have hz:kvs.length<=sizeLine:=ok.1;obtain⟨o,es,ep,vs,ho,hd,rel,dat,hs⟩:=dat_of ok;obtain⟨hv1,_⟩:=I.hok v _ ev;have hlen:=rel.length;refine kdl_call (kdl_values (knd:=qbj X.prog X.w) (r:=v) (d:=p) (kvs:=vs) (ep:=ep)) (I.ok.hd hc) ⟨hv1,dat⟩ ↑∅ fun h' tk acc c hk hD hacc=>?_;have e1:=kdl_vals_eq (kvs:=vs) acc.toList (by rw[bS];exact hacc.1) fun j u hu=>hacc.2 j u (by rw[<-bB];exact hu);have rv:qbk (kvs.map (·.2)) acc.toList:=by
  rw[e1];exact kv_vals rel
 have hg:s.heap.get? ↑s=none:=yS (uG _);obtain⟨hn,I2⟩:=Inv.laidN I (h':=h') (a:=↑s) (o:=.lst (kvs.map (·.2))) (t':=tk) hk hg ⟨by rw[zA];exact hz,acc.toList,c,rv,by rw[Array.toArray_toList];exact hD⟩;exact⟨.ref _,_,I2,rfl,q _ hn⟩
end
def r_listV{H:Hp}{Q:VK}{v p:Addr}{kvs:List (Key×V)}(ev:H v=some (ValO v p))(h:Rd H p (.dK kvs))(q:∀l,H l=none->Q (.ref l) (upd H l (.lst (kvs.map (·.2))))):rListV [.ref v] H Q:=⟨v,p,kvs,rfl,ev,h,q⟩
def absV:uB->V
 | .none=> .non
 | .bool b=> .bl b
 | .int i _=> .int i
 | .str x _=> .str x
 | .bytes b _=> .byt b
 | .float b _=> .flt b
 | .ref a=> .ref a
 | .type n=> .ty n
 |_=> .non
def abs_of{x:V}{u:uB}(h:L2.qb8 x u):absV u=x:=by
 cases x with
 |non=>have h:u=_:=h;subst h;rfl
 |bl b=>have h:u=_:=h;subst h;rfl
 |int i=>obtain⟨t,rfl⟩:=h;rfl
 |str i=>obtain⟨t,rfl⟩:=h;rfl
 |byt i=>obtain⟨t,rfl⟩:=h;rfl
 |flt i=>obtain⟨t,rfl⟩:=h;rfl
 |ref a=>have h:u=_:=h;subst h;rfl
 |ty n=>have h:u=_:=h;subst h;rfl
def relV_inj{x y:V}{u:uB}(h:L2.qb8 x u)(h':L2.qb8 y u):x=y:=(abs_of h).symm.trans (abs_of h')
section
variable{X:Cx}
def rInX(K:uS):R2:=fun x y H Q=>∃(p:Addr)(xs:List V)(e:V->Bool),y=.ref p/\SqL K H p xs/\(∀v∈xs,∃n,n<=7/\PEq K H n v x (e v))/\Q (.bl (xs.any e)) H
def op_inX(hu:X.A.units+8<cLine):OpR X (wG .In) (rInX X.K):=by
 intro pins s σ H x y v u Q I rx ry h;obtain⟨p,xs,e,rfl,hq,he,q⟩:=h
 cases ry
 obtain⟨its,r,pl,hz⟩:=I.list hq
 classical
 have key:∀(z:uB)(a:V),a∈xs->L2.qb8 a z->decide (∃b∈xs,L2.qb8 b z/\e b=true)=e a:=fun z a ha ra=>by
  cases c:e a with
  |true=>exact gK ⟨a,ha,ra,c⟩
  |false=>
   refine gL ?_;rintro⟨b,_,rb,eb⟩;rw[relV_inj rb ra,c] at eb
   cases eb
 have ea:its.toArray.any (fun z=>decide (∃b∈xs,L2.qb8 b z/\e b=true))=xs.any e:=by
  rw[List.any_toArray,wY,yG,yG];constructor
  .rintro⟨z,hz,hd⟩;obtain⟨b,hb,_,eb⟩:=of_decide_eq_true hd;exact⟨b,hb,eb⟩
  .rintro⟨b,hb,eb⟩;obtain⟨j,hj,rfl⟩:=zU.mp hb;have hl:=r.length;exact⟨its[j]'↑∅,zX _,gK ⟨_,hb,qcw r hj ↑∅,eb⟩⟩
 refine SeqAt.in_listAt (fun z=>decide (∃b∈xs,L2.qb8 b z/\e b=true)) pl.isList (fun z hz=>?_) ⟨.bl _,H,I,rfl,by rw[ea];exact q⟩;have hz:z∈its:=by simpa using hz
 obtain⟨a,ha,ra⟩:=vals_of r hz;obtain⟨n,hn,pe⟩:=he a ha;have w:=peq_ok I pe X.A.in1 z v ra rx (by show X.A.units+1+n<cLine;omega);rw[key z a ha ra];exact w
end
structure Rw2 where
 a:Addr
 n:Str
 r:List V
def lt2(a b:Rw2):Bool:=decide (a.n.cps.toList<b.n.cps.toList)
end My
namespace My
open PySem PySem.Spec PyProof.Rows L2
variable{b c:Addr}{P:uY}{w:vL}{H:Hp}{h:vQ}
@[irreducible] def PSsx(X:Cx)(l:List Stmt)(t:TS):Prop:=PSs X l t
@[irreducible] def PEx(X:Cx)(e:vV)(t:TE):Prop:=PE X e t
@[irreducible] def PAx(X:Cx)(es:List vV)(t:TA):Prop:=PA X es t
section
variable{X:Cx}
def pssx_set{pos:Pos}{i:Nat}{x:Str}{e:vV}{te:TE}{pos':Pos}{rest:List Stmt}{u:TS}(hN:X.N.Nodup)(hi:X.N[i]?=some x)(hx:L2.Loc X.env.scope x)(he:PEx X e te)(h2:PSs X rest u)
  (hs:dU e (some (Expr.Name x pos')) pos.line X.env=pure false:=by rfl)(hf:X.fn x=true\/aM x X.env.scope.names=some NameKind.local:=by first|exact .inl rfl|exact .inr rfl|assumption):
  PSsx X (.Assign [.Name x pos'] e pos::rest) (tSeq (tAsg te (qer i)) u):=by
 unfold PEx at he;unfold PSsx;exact qa2 (qae hN hi hx he hs hf) h2
def pax_nil:PAx X [] tNil:=by unfold PAx;exact qa3
def qfg{e:vV}{es:List vV}{te:TE}{t:TA}(h:PE X e te)(hr:PAx X es t)(hs:uZ (e::es) X.env=(false,wL e X.env)::uZ es X.env:=by rfl):PAx X (e::es) (tCons te t):=by
 unfold PAx at*;exact qa0 h hr hs
def pex_ixL{es:List vV}{t:TA}{b:vV}{tb:TE}{p p':Pos}(hl:PAx X es t)(hb:PE X b tb)(hsl:PlainIx b):PEx X (.Subscript (.List es p) b p') (tOp (rIxL X.K) (tLst t) tb):=by
 unfold PAx at hl;unfold PEx;exact qal qax (qbb hl) hb hsl
end
def OnlyT(p:Addr)(H:Hp):Prop:=∀b,H b=none\/(∃o xs,H b=some (.frz o (.lst xs)))\/(b=p/\H b=some (.tbl #[]))
def law_callT{P:uY}{w:vL}{K:uS}{mg mb:Str->Option uB}{CX:CXT}{k:Nat}{fa a p c:Addr}{fd:uK}{x:Str}{sp:Sp}{s₁:uC}{vs:List uB}{ns:List Int}
  (KX:K.In s₁.heap)(hns:s₁.heap.Ns uR mg)(hb:s₁.heap.Ns eK mb)(hbb:∀x:Str,x≠"__name__"->mb x=aP x)(hlim:s₁.heap.NoLimit)(hg:s₁.gens= #[])
  (ha:s₁.heap.get? a=some {cls:=.type "list",data:=.seq vs.toArray})(hi:IntsAre vs ns)(hl:ns.length<=sizeLine)(hr:Room k fM)
  (hT:s₁.heap.TableAt c p #[])(hKp:K.lookup p=none)
  (F:∀base:vQ,K.In base->base.Ns uR mg->(∀b o,s₁.heap.get? b=some o->b≠a->b≠p->base.get? b=some o)->FnOk P w K mg base CX k fa fd [x] sp)(hbind:∀(s:uC)(u:uB),cY s fd ⟨[u],[]⟩ [(x,u)])
  (hsp:∀H:Hp,H p=some (.tbl #[])->SqL K H a (ns.map V.int)->sp [.ref a] H (fun v _=>v=.bl true) fun _ _ _=>False)
  (hCX:∀H e s',CX [] H s₁ (fun _ _ _=>False) e s'->False):
  bI (uV P w) fM (.call (.ref fa) ⟨[.ref a],[]⟩) (fun r s'=>r=.ok (.ret (.bool true))/\OldK s₁.heap s'.heap/\s'.os=s₁.os/\cC s'.gens) s₁:=by
 have rv:=vals_ints hi;have lenV:=hi.length;have hTo:s₁.heap.get? p=some {cls:=.none,data:=.fields #[]}:=hT.2;have npa:p≠a:=fun z=>by subst z;rw[ha] at hTo;cases hTo
 have core:∀H:Hp,OnlyT p H->H p=some (.tbl #[])->SqL K H a (ns.map V.int)->HOk P w H s₁.heap->(∀b,H b≠none->b=a\/b=p)->(H a≠none->K.lookup a=none)->
   bI (uV P w) fM (.call (.ref fa) ⟨[.ref a],[]⟩) (fun r s'=>r=.ok (.ret (.bool true))/\OldK s₁.heap s'.heap/\s'.os=s₁.os/\cC s'.gens) s₁:=by
  intro H hO hp hS hok hA hK;have base_of:∀{b:Addr} {o:Obj},s₁.heap.get? b=some o->H b=none->(hidT s₁.heap H).get? b=some o:=fun e n=>hidT_get e n;have noA:∀{b:Addr} {o:Obj} {es:Array DictEntry} {ep:Nat},s₁.heap.get? b=some o->o.data=.dict es ep->H b=none:=fun {b o es ep} e d=>by
   cases q:H b with
   |none=>rfl
   |some u=>
    rcases hA b (by rw[q];simp) with e'|e'
    .subst e';rw[ha] at e;cases e;have d':Data.seq vs.toArray _=Data.dict es ep:=d
     cases d'
    .subst e';rw[hTo] at e;cases e;have d':Data.fields #[]=Data.dict es ep:=d
     cases d'
  have nsK:∀{b:Addr} {m:Str->Option uB},s₁.heap.Ns b m->(hidT s₁.heap H).Ns b m:=fun {b m} ⟨o,es,ep,e,d,r⟩=>⟨o,es,ep,base_of e (noA e d),d,r⟩;have hKb:K.In (hidT s₁.heap H):=fun b o e=>base_of (KX b o e) (by
   cases q:H b with
   |none=>rfl
   |some u=>
    rcases hA b (by rw[q];simp) with e'|e'
    .subst e';rw[hK (by rw[q];simp)] at e;cases e
    .subst e';rw[hKp] at e;cases e)
  have hM:Mod K mg (hidT s₁.heap H):=⟨hKb,nsK hns,⟨mb,nsK hb,hbb⟩,let ⟨mc,h1,h2⟩:=hlim;⟨mc,nsK h1,h2⟩⟩;have e0:Env0 P w K mg (hidT s₁.heap H) fM [] s₁ H:=⟨rfl,hM,fun b o e=>of_hidT e,Nat.le_of_eq (hidT_size _ _),trivial,fun b hb=>absurd (show b∈([]:List Addr) from hb) (by simp),hok,.of_eq hg⟩;have hbase:∀b o,s₁.heap.get? b=some o->b≠a->b≠p->(hidT s₁.heap H).get? b=some o:=fun b o e n1 n2=>base_of e (by
   cases q:H b with
   |none=>rfl
   |some u=>exact absurd (hA b (by rw[q];simp)) (by simp[n1,n2]))
  refine xA ((F _ hKb (nsK hns) hbase).run fM [] s₁ H ⟨[.ref a],[]⟩ [.ref a] [.ref a] _ _ hr e0 (hbind s₁ (.ref a)) (.cons rfl .nil) (hsp H hp hS)) fun r s' h=>?_
  cases r with
  |error e=>exact(hCX H e s' h).elim
  |ok fl=>
   cases fl with
   |next=>exact vO h
   |brk=>exact vO h
   |cont=>exact vO h
   |ret u=>
    obtain⟨v,H',os,bare,un,hok',r',q⟩:=h;have q':v=.bl true:=q;subst q';obtain rfl:u=eJ true:=r';have main:∀b o,s₁.heap.get? b=some o->b≠p->s'.heap.get? b=some o:=fun b o e np=>by
     cases q:H b with
     |none=>exact un.keep b o e q (by intro z;exact absurd (show b∈([]:List Addr) from z) (by simp)) (by simp)
     |some u=>
      rcases hO b with z|⟨ob,xs,z⟩|⟨z,_⟩
      .rw[q] at z;cases z
      .have z2:=un.frzs b ob _ z;obtain⟨e1,_⟩:=hok b _ z;obtain⟨e2,_⟩:=hok' b _ z2;rw[e] at e1;cases e1;exact e2
      .exact absurd z np
    obtain⟨more,hp'⟩:=un.tbls p #[] hp;have ep':s'.heap.get? p=some {cls:=.none,data:=.fields (#[]++more)}:=hok' p _ hp';refine⟨rfl,⟨fun b o e=>?_,fun b o e=>?_⟩,os,bare⟩
    .by_cases hb:b=p
     .subst hb;rw[hTo] at e
      cases e
      exact .inr (.inl ⟨hT.isCodeTable,rfl,#[],more,rfl,ep'⟩)
     .exact .inl (main b o e hb)
    .by_cases hb:b=p
     .subst hb;exact⟨_,ep'⟩
     .exact⟨o,main b o e hb⟩
 have okP:∀H:Hp,qbv P w H s₁.heap p (.tbl #[]):=fun H=>hTo
 cases hk:K.lookup a with
 |some o=>
  have e:=KX a o hk;rw[ha] at e
  cases e
  refine core (fun b=>if b=p then some (.tbl #[]) else none) (fun b=>?_) (gJ rfl) (.inr ⟨_,vs.toArray,_,hk,rfl,rfl,rfl,by rw[zN,lenV];exact hl,by simpa using rv⟩) (fun b u z=>?_) (fun b z=>?_) fun z=>absurd (gI npa.symm) z
  .by_cases hb:b=p
   .exact .inr (.inr ⟨hb,gJ hb⟩)
   .exact .inl (gI hb)
  .by_cases hb:b=p
   .have z':=(gJ hb).symm.trans z
    cases z'
    subst hb;exact okP _
   .have z':=(gI hb).symm.trans z
    cases z'
  .by_cases hb:b=p
   .exact .inr hb
   .exact absurd (gI hb) z
 |none=>
  refine core (fun b=>if b=p then some (.tbl #[]) else if b=a then some (.frz {cls:=.type "list",data:=.seq vs.toArray} (.lst (ns.map V.int))) else none) (fun b=>?_) (gJ rfl) (.inl (.inr ⟨{cls:=.type "list",data:=.seq vs.toArray},?_⟩)) (fun b u z=>?_) (fun b z=>?_) fun _=>hk
  .by_cases hb:b=p
   .exact .inr (.inr ⟨hb,gJ hb⟩)
   .by_cases hb2:b=a
    .exact .inr (.inl ⟨_,_,(gI hb).trans (gJ hb2)⟩)
    .exact .inl ((gI hb).trans (gI hb2))
  .exact(gI npa.symm).trans (gJ rfl)
  .by_cases hb:b=p
   .have z':=(gJ hb).symm.trans z
    cases z'
    subst hb;exact okP _
   .by_cases hb2:b=a
    .have z':=((gI hb).trans (gJ hb2)).symm.trans z
     cases z'
     subst hb2;exact⟨ha,by rw[zA];exact hl,vs,_,rv,ha⟩
    .have z':=((gI hb).trans (gI hb2)).symm.trans z
     cases z'
  .by_cases hb:b=p
   .exact .inr hb
   .by_cases hb2:b=a
    .exact .inl hb2
    .exact absurd ((gI hb).trans (gI hb2)) z
def BmAt(mg:Str->Option uB)(h:vQ):Prop:=∃bm o,mg "__builtins__"=some (.ref bm)/\bm≠eK/\bm≠uR/\h.get? bm=some o/\o.cls=.type "module"/\o.dict=some eK/\o.data=.plain
def walk_ofT{l:PySem.W.OpenLaw}{n k:Nat}{q:uY}{loose:List Str}{XP:(Str->Option uB)->vQ->Prop}{YP:vL->vQ->Prop}{d dy:DefRec}{K:Params->uS}{CX:vL->CXT}{sp:vL->Addr->Addr->Sp}{x y:Str}
  (hn:l.most=some n)(hn2:n<=sizeLine)(hdf:d.params.defaults=[])(hr:Room k fM)
  (hY:∀(w:vL)(h:vQ),YP w h->(K w.params).In h)
  (hrec:(PyProof.Rows.recsOf q).find? (fun e=>e.name==y)=some dy)(tab:∀w:vL,∃c p,tabIn (K w.params) y=some (c,p)/\(K w.params).lookup p=none)
  (F:∀(w:vL)(mg:Str->Option uB)(fa:Addr)(h:vQ)(c p:Addr),(K w.params).In h->h.Ns uR mg->mg d.name=some (.ref fa)->tabIn (K w.params) y=some (c,p)->
   ∃fd:uK,(∀(s:uC)(u:uB),cY s fd ⟨[u],[]⟩ [(x,u)])/\
    ∀base:vQ,(K w.params).In base->base.Ns uR mg->dN base c p->BmAt mg base->FnOk l.prog w (K w.params) mg base (CX w) k fa fd [x] (sp w c p))
  (hsp:∀(w:vL)(c p:Addr)(H:Hp)(a:Addr)(ns:List Int),ns.length<=n->H p=some (.tbl #[])->SqL (K w.params) H a (ns.map V.int)->sp w c p [.ref a] H (fun v _=>v=.bl true) fun _ _ _=>False)
  (hCX:∀(w:vL)(H:Hp)(s:uC)(e:uB)(s':uC),CX w [] H s (fun _ _ _=>False) e s'->False):
  PySem.W.WalkO q loose XP YP l.row.toRowW d [] (fun f vs=>PySem.call f vs):=by
 refine Att.attach_call hn hdf fun w s₀ s₁ mg mb fa o pm cd doc a vs ns G Y ho hd hcd hmg hobj hints hlen hg=>?_;have KX:=hY w _ Y;obtain⟨c,p,ht,hKp⟩:=tab w;obtain⟨hc,hp⟩:=PySem.W.tab_of G.T KX hrec ht;obtain⟨fd,hb,hF⟩:=F w mg fa _ c p KX G.T.g hmg ht;refine law_callT KX G.T.g G.T.b G.T.builtins G.T.nolimit hg hobj hints (vJ hlen hn2) hr (hc.tab hp) hKp (fun base kb nb keep=>hF base kb nb ?_ ?_) hb (fun H hH hS=>hsp w c p H a ns hlen hH hS) fun H e s'=>hCX w H s₁ e s'
 .obtain⟨oc,vc,file,tf,flags,tg,inF,text,tt,e1,e2,e3,r⟩:=hc;refine⟨oc,vc,file,tf,flags,tg,inF,text,tt,keep c oc e1 (fun z=>?_) r.2.2.2.2.2.2,e2,e3,r⟩;subst z;rw[hobj] at e1
  cases e1
  exact absurd (show cW "list"=cW "code" from e2) (by intro h;injection h with h;revert h;decide)
 .obtain⟨bm,ob,b1,b2,b3,b4,b5,b6⟩:=G.T.bmain;refine⟨bm,ob,b1,b2,fun z=>?_,keep bm ob b3 (fun z=>?_) (fun z=>?_),b4,b5,b6⟩
  .obtain⟨o,es,ep,e,hd,_⟩:=G.T.g;rw[z,e] at b3;cases b3;rw[hd] at b6;cases b6
  .rw[z,hobj] at b3;cases b3;cases b6
  .rw[z,hp] at b3;cases b3;cases b4
def FnO(g:Addr)(name qual:Str)(params:xH)(body:List Stmt)(scope:xF)(x:Str)(cl cd:Addr):HO:=
 .ext fun h=>∃doc pm ctv,h.get? g=some (fnMade name qual params body scope [(x,cl)] doc pm cd ctv)
def CodO(cd:Addr)(qual:Str):HO:=.ext fun h=>h.CodeRec (.ref cd) qual
def qfa(cl:Addr)(v:V):HO:=.ext fun h=>∃u,qb8 v u/\h.IsCell cl (some u)
def FnO.ok{P:uY}{w:vL}{H:Hp}{h:vQ}{g cl cd:Addr}{name qual x:Str}{params:xH}{body:List Stmt}{scope:xF}{doc pm ctv:uB}
  (e:h.get? g=some (fnMade name qual params body scope [(x,cl)] doc pm cd ctv)):qbv P w H h g (FnO g name qual params body scope x cl cd):=
 ⟨⟨doc,pm,ctv,e⟩,⟨_,e⟩,fun h1 h2 ⟨d,m,c,e1⟩ k=>⟨d,m,c,k _ e1⟩⟩
def CodO.ok{cd:Addr}{qual:Str}(e:h.CodeRec (.ref cd) qual):qbv P w H h cd (CodO cd qual):=by
 refine⟨e,?_,fun h1 h2 q k=>?_⟩
 .obtain⟨c,o,vs,t,e1,e2,_⟩:=e
  cases e1
  exact⟨o,e2⟩
 .obtain⟨c,o,vs,t,e1,e2,r⟩:=q
  cases e1
  exact⟨cd,o,vs,t,rfl,k _ e2,r⟩
def qfa.ok{cl:Addr}{v:V}{u:uB}(r:qb8 v u)(e:h.IsCell cl (some u)):qbv P w H h cl (qfa cl v):=by
 refine⟨⟨u,r,e⟩,?_,fun h1 h2 ⟨u',r',o,e1,d⟩ k=>⟨u',r',o,k _ e1,d⟩⟩;obtain⟨o,e1,_⟩:=e;exact⟨o,e1⟩
def made(H:Hp)(p g cd cl:Addr)(more:Array uB)(v:V)(name qual:Str)(params:xH)(body:List Stmt)(scope:xF)(x:Str):Hp:=
 upd (upd (upd (upd H p (.tbl more)) cl (qfa cl v)) cd (CodO cd qual)) g (FnO g name qual params body scope x cl cd)
def spMaker(p:Addr)(name qual:Str)(params:xH)(body:List Stmt)(scope:xF)(x:Str):Sp:=fun vs H Q _=>
 ∃v,vs=[v]/\H p=some (.tbl #[])/\∀(more:Array uB)(g cd cl:Addr),H g=none->H cd=none->H cl=none->cd≠cl->g≠cl->g≠cd->Q (.ref g) (made H p g cd cl more v name qual params body scope x)
section
variable{P:uY}{w:vL}{H:Hp}{h h':vQ}{p g cd cl:Addr}{more:Array uB}{v:V}{u:uB}{name qual x:Str}{params:xH}{body:List Stmt}{scope:xF}{doc pm ctv:uB}{fs:List Addr}
def qdr(h1:b≠p)(h2:b≠cl)(h3:b≠cd)(h4:b≠g):made H p g cd cl more v name qual params body scope x b=H b:=by
 unfold made;rw[qa7 h4,qa7 h3,qa7 h2,qa7 h1]
def made_hok(ok:HOk P w H h)(hp:H p=some (.tbl #[]))(hg:h.objs.size<=g)(hd:h.objs.size<=cd)(hl:h.objs.size<=cl)(k:∀b o,b≠p->h.get? b=some o->h'.get? b=some o)
  (n1:cd≠cl)(n2:g≠cl)(n3:g≠cd)
  (ep:h'.get? p=some {cls:=.none,data:=.fields more})(eg:h'.get? g=some (fnMade name qual params body scope [(x,cl)] doc pm cd ctv))(ed:h'.CodeRec (.ref cd) qual)(r:qb8 v u)(el:h'.IsCell cl (some u)):
  HOk P w (made H p g cd cl more v name qual params body scope x) h':=fun b o e=>by
 have ng:=ok.fresh hg;have nd:=ok.fresh hd;have nl:=ok.fresh hl;by_cases b4:b=g
 .subst b4;unfold made at e;rw[qa1] at e;cases e;exact FnO.ok eg
 by_cases b3:b=cd
 .subst b3;unfold made at e;rw[qa7 b4,qa1] at e;cases e;exact CodO.ok ed
 by_cases b2:b=cl
 .subst b2;unfold made at e;rw[qa7 b4,qa7 b3,qa1] at e;cases e;exact qfa.ok r el
 by_cases b1:b=p
 .subst b1;unfold made at e;rw[qa7 b4,qa7 b3,qa7 b2,qa1] at e;cases e;exact ep
 rw[qdr b1 b2 b3 b4] at e;have old:∀c z,H c=some z->c≠p->made H p g cd cl more v name qual params body scope x c=some z:=fun c z q np=>by
  rw[qdr np (qa9 q nl) (qa9 q nd) (qa9 q ng)];exact q
 refine(ok b o e).stay (fun c z hc q=>k c z ?_ q) (fun c q=>old c _ q ?_) fun c xs q=>old c _ q ?_
 .rcases hc with rfl|hc
  .exact b1
  .rintro rfl;rw[hp] at hc;cases hc
 .rintro rfl;rw[hp] at q;cases q
 .rintro rfl;rw[hp] at q;cases q
def made_un(ok:HOk P w H h)(hp:H p=some (.tbl #[]))(hg:h.objs.size<=g)(hd:h.objs.size<=cd)(hl:h.objs.size<=cl)(k:∀b o,b≠p->h.get? b=some o->h'.get? b=some o)(ep:∃o,h'.get? p=some o):
  Un fs [] H (made H p g cd cl more v name qual params body scope x) h h':=by
 have ng:=ok.fresh hg;have nd:=ok.fresh hd;have nl:=ok.fresh hl;have lt:∀{b:Addr} {o:Obj} {c:Addr},h.get? b=some o->h.objs.size<=c->b≠c:=fun e q=>vI (vD (uN e) q);have np:∀{b:Addr},H b=none->b≠p:=fun e z=>by subst z;rw[hp] at e;cases e
 have old:∀c z,H c=some z->c≠p->made H p g cd cl more v name qual params body scope x c=some z:=fun c z q np=>by
  rw[qdr np (qa9 q nl) (qa9 q nd) (qa9 q ng)];exact q
 refine⟨fun b o e n _ _=>k b o (np n) e,fun b o e n _ _=>⟨o.slots,k b o (np n) e⟩,fun b o e n _=>?_,fun b o e _=>?_,fun b xs e=>old b _ e ?_,fun b o z e=>old b _ e ?_,fun b ps e=>?_⟩
 .rw[qdr (np n) (lt e hl) (lt e hd) (lt e hg)];exact n
 .by_cases hb:b=p
  .subst hb;exact ep
  .exact⟨o,k b o hb e⟩
 .rintro rfl;rw[hp] at e;cases e
 .rintro rfl;rw[hp] at e;cases e
 .by_cases hb:b=p
  .subst hb;rw[hp] at e;cases e;refine⟨more,?_⟩;unfold made;rw[qa7 (qa9 hp ng),qa7 (qa9 hp nd),qa7 (qa9 hp nl),qa1,Array.empty_append]
  .exact⟨#[],by rw[Array.append_empty];exact old b _ e hb⟩
end
def fn_maker{CX:CXT}{P:uY}{w:vL}{K:uS}{mg:Str->Option uB}{base:vQ}{k:Nat}{f c p:Addr}{name qual qual' x y:Str}{params params':xH}{body':List Stmt}{scope scope':xF}{dV kV doc pm ct oc:uB}{an od:Option Addr}
  {osl:Array (Option uB)}{pos p1 p2:Pos}
  (lk:K.lookup f=some ⟨oc,od,.func (dY name qual params [.FunctionDef y params' body' [] none [] scope' none y pos,.Return (some (.Name y p1)) p2] scope dV kV doc pm an (.ref c) ct),osl⟩)(hcd:cV K (.ref c) qual=true)
  (C:dN base c p)(hbm:BmAt mg base)
  (hk:scope.kind=.function)(hco:scope.isCoroutine=false)(hge:scope.isGenerator=false)(hx:scope.names.lookup x=some .cell)(hy:scope.names.lookup y=some .local)(hcs:∀n,dW n scope.names []=[(x,n)])(hyd:(y==("__debug__":Str))=false)
  (hcl:∀L,closureFor scope' (aC qual scope L f (.ref c))=pure [(x,L+1)])(hd0:params'.defaults=[])(hk0:params'.kw_defaults=[])(ha:∀L,annTrees params' none (aC qual scope L f (.ref c))=[])
  (hqn:∀L,qualnameIn (aC qual scope L f (.ref c)) y y=qual'):
  FnOk P w K mg base CX (k+1) f (dY name qual params [.FunctionDef y params' body' [] none [] scope' none y pos,.Return (some (.Name y p1)) p2] scope dV kV doc pm an (.ref c) ct) [x] (spMaker p y qual' params' body' scope' x):=by
 refine⟨fun vs H Q E ⟨v,e,_⟩=>by rw[e];rfl,fun A outer s H args us vs Q E hr e0 hb r hsp=>?_⟩;obtain⟨v,rfl,hp,hq⟩:=hsp;obtain⟨u,rfl,rv⟩:∃u,us=[u]/\qb8 v u:=by
  cases r with
  |cons r1 r2=>cases r2;exact⟨_,rfl,r1⟩
 have bk:∀b o,base.get? b=some o->s.heap.get? b=some o:=fun b o e=>(e0.bs b o e).1;have KX:K.In s.heap:=e0.mod.kin.keeps bk;have lim:s.heap.NoLimit:=e0.mod.nolimit.keeps bk;have hP:s.heap.get? p=some (PySem.W.tabObj #[]):=e0.hok p _ hp;refine codeAny_call_function hr.depth (KX _ _ lk) rfl hco hge rfl (PySem.W.codeRec_of KX hcd) (hb _ _ _ _ ?_);refine wpAny_newFunctionEnv_cells hk (fun z hz=>?_) fun env he s1 X=>?_
 .have:z=(x,u):=by simpa using hz
  subst this;exact .inr ⟨hx,by rw[hcs];simp⟩
 subst he;refine⟨lim.keeps X.toInCall.keep,codeAny_func ?_⟩;obtain⟨hh,tk0,rfl⟩:=X.toInCall.same;have keep:∀b o,s.heap.get? b=some o->hh.get? b=some o:=X.toInCall.keep;have nsL:=X.toInCall.ns;have szL:↑s<hh.objs.size:=nsL.lt;have hcell:hh.IsCell (↑s+1) (some u):=by
  have q:=X.cell x (↑s+1) (by show(dW (↑s+1) scope.names []).lookup x=_;rw[hcs];simp);have e:fJ (aC qual scope ↑s f (.ref c)).kindOf ([x].zip [u]) (fun _=>none) x=some u:=by
   show fJ _ [(x,u)] _ x=_;unfold fJ;rw[gI (by show ¬scope.names.lookup x=_;rw[hx];decide)];exact gJ rfl
  exact e▸q
 have gS:hh.Ns uR mg:=(e0.mod.glob.keeps bk).keeps keep;have hPh:hh.get? p=some (PySem.W.tabObj #[]):=keep _ _ hP;have hgP:uR≠p:=fun z=>by
  obtain⟨o,es,ep,e,hd,_⟩:=gS;rw[z,hPh] at e;cases e;cases hd
 have hbuilt:hh.BuiltinsAt mg p:=by
  obtain⟨bm,o,b1,b2,b3,b4,r⟩:=hbm;refine⟨bm,o,b1,b2,b3,fun z=>?_,keep _ _ (bk _ _ b4),r⟩;have:=(e0.bs _ _ b4).2;rw[z,hp] at this;cases this
 refine cP (PySem.W.nestDef_K hd0 hk0 (ha _) ?_);refine PySem.W.makeFunction_K (mg:=mg) (c:=c) (P:=p) (ps:=#[]) (hcl _) rfl gS rfl ((C.keeps bk).keeps keep) hPh (by trivial) (by rfl) hgP hbuilt fun c' ctv doc' h' tk hxt hge' hlt hrec htb=>?_;have szc:hh.objs.size<=c':=hge';have ltp:p<↑s:=uN hP;have ltc:↑s+1<hh.objs.size:=by
  obtain⟨o,e,d⟩:=hcell;exact uN e
 have l1:↑s+1<c':=vD ltc szc;have l2:↑s+1<h'.objs.size:=aV l1 hlt;have l3:↑s<c':=Nat.lt_of_succ_lt l1;have l4:↑s<h'.objs.size:=Nat.lt_of_succ_lt l2;have nL:↑s≠p:=wV ltp;have ncl:↑s+1≠p:=wV (fS ltp);have nsH:h'.Ns ↑s _:=nsL.extBut hxt nL;have hqn':=hqn ↑s;generalize hQ:qualnameIn (newEnv _ _ _ _ _ _ _ _ _) y y=qq at hrec⊢;obtain rfl:qual'=qq:=hqn'.symm.trans hQ;refine wpAny_storeName_local hy (nsH.push _) (fun h2 ns2 sb=>?_) (by
  have hk':scope.kind=.function:=hk;show((scope.kind==.class) ||(scope.kind==.module && _))=false;rw[hk'];rfl)
 refine cP (wpAny_Return_some (wpAny_Name (wpAny_loadName_local hk hy ns2 (gJ rfl) ?_) hyd));have sb':bU ↑s (h'.push (fnMade y qual' params' body' scope' [(x,↑s+1)] doc' ((mg "__name__").getD .none) c' ctv)) h2:=sb;have kp:∀b o,b≠p->s.heap.get? b=some o->h2.get? b=some o:=fun b o hb e=>by
  rw[sb'.2 b (vI (uN e))];exact uD _ (hxt b o hb (keep b o e))
 have kq:∀b o,b≠↑s->h'.get? b=some o->h2.get? b=some o:=fun b o hb e=>by
  rw[sb'.2 b hb];exact uD _ e
 have hcl':h'.IsCell (↑s+1) (some u):=by
  obtain⟨o,e,d⟩:=hcell;exact⟨o,hxt _ _ ncl e,d⟩
 have e1:h2.get? p=some (PySem.W.tabObj (#[]++#[aJ pos.line,aJ pos.col,.ref c'])):=kq p _ (xK nL) htb;have e2:h2.get? h'.objs.size=some (fnMade y qual' params' body' scope' [(x,↑s+1)] doc' ((mg "__name__").getD .none) c' ctv):=by
  rw[sb'.2 _ (wV l4)];exact vC _ rfl
 have e3:h2.CodeRec (.ref c') qual':=by
  obtain⟨cc,o,vs,t,q1,q2,q3⟩:=hrec
  cases q1
  exact⟨c',o,vs,t,rfl,kq _ _ (wV l3) q2,q3⟩
 have e4:h2.IsCell (↑s+1) (some u):=by
  obtain⟨o,e,d⟩:=hcl';exact⟨o,kq _ _ (Nat.succ_ne_self _) e,d⟩
 have z1:=aQ l4;have z2:=aQ l3;have z3:=xQ ↑s;exact⟨.ref h'.objs.size,made H p h'.objs.size c' (↑s+1) _ v y qual' params' body' scope' x,rfl,e0.bare,made_un e0.hok hp z1 z2 z3 kp ⟨_,e1⟩,
  made_hok e0.hok hp z1 z2 z3 kp (wV l1) (wV l2) (wV hlt) e1 e2 e3 rv e4,rfl,hq _ _ _ _ (e0.hok.fresh z1) (e0.hok.fresh z2) (e0.hok.fresh z3) (wV l1) (wV l2) (wV hlt)⟩
def Fun.maker{CX:CXT}{P:uY}{w:vL}{K:uS}{mg:Str->Option uB}{base:vQ}{k:Nat}{f c p:Addr}{fd:uK}{nm qual qual' x y:Str}{st:Stmt}{params':xH}{body':List Stmt}{scope':xF}{pos p1 p2:Pos}
  (F:Fun K nm qual st f fd)(hm:mg nm=some (.ref f))(kin:K.In base)(hns:base.Ns uR mg)(ht:tabIn K nm=some (c,p))(C:dN base c p)(hbm:BmAt mg base)
  (hb:qbw st=[.FunctionDef y params' body' [] none [] scope' none y pos,.Return (some (.Name y p1)) p2])
  (hk:(qa8 st).kind=.function)(hco:(qa8 st).isCoroutine=false)(hge:(qa8 st).isGenerator=false)(hx:(qa8 st).names.lookup x=some .cell)(hy:(qa8 st).names.lookup y=some .local)(hcs:∀n,dW n (qa8 st).names []=[(x,n)])(hyd:(y==("__debug__":Str))=false)
  (hcl:∀L cd,closureFor scope' (aC qual (qa8 st) L f cd)=pure [(x,L+1)])(hd0:params'.defaults=[])(hk0:params'.kw_defaults=[])(ha:∀L cd,annTrees params' none (aC qual (qa8 st) L f cd)=[])
  (hqn:∀L cd,qualnameIn (aC qual (qa8 st) L f cd) y y=qual'):
  FnOk P w K mg base CX (k+1) f fd [x] (spMaker p y qual' params' body' scope' x):=by
 obtain⟨oc,od,kV,doc,pm,an,cdv,ct,osl,rfl,lk,hcd⟩:=F.ex;have hc:cdv=.ref c:=by
  unfold tabIn at ht
  split at ht
  .rename_i f' hf;have e1:=vM kin hns hf;rw[hm] at e1
   cases e1
   split at ht
   .rename_i hfo;rw[lk] at hfo
    cases hfo
    split at ht
    .rename_i c2 hc2;have hc2':cdv=.ref c2:=hc2
     split at ht
     .split at ht
      .cases ht;exact hc2'
      .cases ht
     .cases ht
    .cases ht
   .cases ht
  .cases ht
 subst hc;rw[hb] at lk⊢;exact fn_maker lk hcd C hbm hk hco hge hx hy hcs hyd (fun L=>hcl L _) hd0 hk0 (fun L=>ha L _) (fun L=>hqn L _)
def less(H:Hp)(c:Addr):Hp:=fun b=>if b=c then none else H b
def qeo:less H c c=none:=gJ rfl
def qd9(h:b≠c):less H c b=H b:=gI h
def qd4(h:H b=none):less H c b=none:=by
 by_cases hb:b=c
 .exact gJ hb
 .rw[qd9 hb];exact h
def less_back{o:HO}(h:H c=some o):upd (less H c) c o=H:=by
 funext b
 by_cases hb:b=c
 .subst hb;rw[qa1,h]
 .rw[qa7 hb,qd9 hb]
def cxM(CX:CXT)(P:uY)(w:vL)(K:uS)(mg:Str->Option uB)(base:vQ)(N:List Str)(qual:Str)(scope:xF)(g:Addr)(cd:uB)(cl:List (Str×Addr))(A:vR)(outer:List Env)(s:uC)(H0 H:Hp)(E:XK):Cx where
 prog:=P
 w:=w
 K:=K
 mg:=mg
 base:=base
 A:=A.deeper (envX qual scope ↑s g cd cl)
 N:=N
 s₀:=s
 H₀:=H0
 env:=envX qual scope ↑s g cd cl
 outer:=outer
 stack:=envX qual scope ↑s g cd cl::outer
 ex:=[]
 calm:=true
 fn:=fun _=>false
 pn:=[]
 xe:=fun e s'=>uU (uV P w) (A.deeper (envX qual scope ↑s g cd cl)) (leaving (envX qual scope ↑s g cd cl) e) (fun _ s''=>CX outer H s E e s'') (fun e' s''=>CX outer H s E e' s'') s'
def less_hok{φ:vQ->Prop}(ok:HOk P w H h)(hc:H c=some (.ext φ)):HOk P w (less H c) h:=fun b o e=>by
 have hb:b≠c:=fun z=>by subst z;rw[qeo] at e;cases e
 rw[qd9 hb] at e;refine(ok b o e).stay (fun _ _ _ q=>q) (fun d q=>?_) fun d xs q=>?_
 .rw[qd9 fun z=>by subst z;rw[hc] at q;cases q];exact q
 .rw[qd9 fun z=>by subst z;rw[hc] at q;cases q];exact q
structure MadeOk(name qual:Str)(params:xH)(body:List Stmt)(scope:xF)(z x:Str):Prop where
 kind:scope.kind=.function
 co:scope.isCoroutine=false
 gen:scope.isGenerator=false
 nocell:∀y∈scope.names,y.2≠ .cell
 par:scope.names.lookup z=some .local
 free:scope.names.lookup x=some .free
 only:∀y,scope.names.lookup y=some .free->y=x
 bind:∀(cl cd:Addr)(ct doc pm:uB)(s:uC)(u:uB),cY s (PySem.W.fnX name qual params body scope [(x,cl)] .none .none doc pm none (.ref cd) ct) ⟨[u],[]⟩ [(z,u)]
def run_made{CX:CXT}{P:uY}{w:vL}{K:uS}{mg:Str->Option uB}{base:vQ}{k:Nat}{g cl cd:Addr}{name qual x z:Str}{params:xH}{body:List Stmt}{scope:xF}{vx vz:V}{uz:uB}{A:vR}{outer:List Env}{s:uC}{H:Hp}{Q:VK}{E:XK}
  (M:MadeOk name qual params body scope z x)(hr:Room (k+1) A)(e0:Env0 P w K mg base A outer s H)(hg:H g=some (FnO g name qual params body scope x cl cd))(hd:H cd=some (CodO cd qual))(hc:H cl=some (qfa cl vx))(rz:qb8 vz uz)
  (hbody:Room k (A.deeper (envX qual scope ↑s g (.ref cd) [(x,cl)]))->∃t,PSs (cxM CX P w K mg base [z,x] qual scope g (.ref cd) [(x,cl)] A outer s (less H cl) H E) body t/\
   t {nx:=fun _ H'=>Q .non (upd H' cl (qfa cl vx)),rt:=fun v H'=>Q v (upd H' cl (qfa cl vx))} [some vz,some vx] (less H cl)):
  bI (uV P w) A (.call (.ref g) ⟨[uz],[]⟩) (CR CX outer P w H s Q E) s:=by
 obtain⟨⟨doc,pm,ctv,eg⟩,_⟩:=e0.hok g _ hg;obtain⟨ec,_⟩:=e0.hok cd _ hd;obtain⟨⟨ux,rx,ecell⟩,_⟩:=e0.hok cl _ hc;have ec':s.heap.CodeRec (.ref cd) qual:=ec;have lim:s.heap.NoLimit:=e0.mod.nolimit.keeps fun b o e=>(e0.bs b o e).1;refine codeAny_call_def (fd:=PySem.W.fnX name qual params body scope [(x,cl)] .none .none doc pm none (.ref cd) ctv) (body:=body) (binds:=[(z,uz)]) hr.depth eg rfl lim ec' rfl (M.bind cl cd ctv doc pm s uz) M.nocell
  (fun y hy=>?_) (fun h₁ hns hk1=>?_) M.co M.gen M.kind
 .have:y=(z,uz):=by simpa using hy
  subst this;exact M.par
 obtain⟨t,ht,hq⟩:=hbody (hr.deeper _);have lk:∀y c,([(x,cl)]:List (Str×Addr)).lookup y=some c->y=x/\c=cl:=fun y c e=>by
  rw[yL] at e
  cases hb:y==x with
  |true=>rw[hb] at e;cases e;exact⟨eq_of_beq hb,rfl⟩
  |false=>rw[hb] at e;cases e
 have lx:([(x,cl)]:List (Str×Addr)).lookup x=some cl:=by rw[yL,beq_self_eq_true]
 have noA:∀b:Addr,b∉([]:List Addr):=fun b z=>absurd z (by simp);have nfr:cl∉frs outer:=fun q=>by rw[e0.frf cl q] at hc;cases hc
 have I:Inv (cxM CX P w K mg base [z,x] qual scope g (.ref cd) [(x,cl)] A outer s (less H cl) H E) [] [some vz,some vx] (less H cl) {s with heap:=h₁,toks:=s.toks+1}:=by
  refine⟨⟨e0.mod,M.kind,rfl,rfl,uG _,fun y y' c q1 q2=>?_,fun y hy=>?_,fun y c q=>(vA q).elim,fun _=>hr.hd,Around.frames_deeper e0.frames,.inr ⟨rfl,rfl⟩,fun b q=>absurd q (noA b),fun b o e=>⟨(e0.bs b o e).1,qd4 (e0.bs b o e).2⟩,e0.bsz,
   fun b _ _=>noA b,fun b q=>absurd q (noA b),e0.funs,fun b q=>qd4 (e0.frf b q)⟩,rfl,e0.bare,Un.kept hk1,⟨_,hns,fun i y v q1 q2 q3=>?_⟩,fun y c q=>?_,qd4 (e0.hok.fresh (uG _)),fun y c q=>?_,fun p hp=>absurd (show p∈([]:List (Addr×Obj)) from hp) (by simp),
   (less_hok e0.hok hc).kept hk1,rfl⟩
  .rw[(lk y c q1).1,(lk y' c q2).1]
  .have hy:scope.names.lookup y=some .cell\/scope.names.lookup y=some .free:=hy;rcases hy with hy|hy
   .exact absurd rfl (M.nocell _ (xL hy))
   .rw[M.only y hy];exact⟨cl,lx⟩
  .match i,q1,q2 with
   |0,q1,q2=>
    cases q1
    cases q2
    exact⟨uz,rz,.inl ⟨M.par,by show([(z,uz)]:List (Str×uB)).lookup z=_;rw[yL,beq_self_eq_true]⟩⟩
   |1,q1,q2=>
    cases q1
    cases q2
    exact⟨ux,rx,.inr ⟨.inr M.free,cl,lx,ecell.keeps hk1⟩⟩
   |i+2,q1,q2=>cases q2
  .rw[(lk y c q).2];exact⟨_,ecell.keeps hk1⟩
  .rw[(lk y c q).2];exact qeo
 have fin:∀{σ':L2.St} {H':Hp} {v:V} {u:uB} {s':uC},Inv (cxM CX P w K mg base [z,x] qual scope g (.ref cd) [(x,cl)] A outer s (less H cl) H E) [] σ' H' s'->qb8 v u->Q v (upd H' cl (qfa cl vx))->CE outer P w H s Q u s':=fun {σ' H' v u s'} J rv q=>by
  obtain⟨oc,eoc,dc⟩:=ecell;have B:Un (frs outer) [] (less H cl) H' s.heap s'.heap:=J.base;have nc:H' cl=none:=B.free cl oc eoc qeo (noA _);have kc:s'.heap.get? cl=some oc:=B.keep cl oc eoc qeo nfr (noA _);have nb:∀{b:Addr},H b=none->b≠cl:=fun e z=>by subst z;rw[hc] at e;cases e
  refine⟨v,upd H' cl (qfa cl vx),J.os,J.bare,⟨fun b o e n h1 h2=>B.keep b o e (qd4 n) h1 h2,fun b o e n h1 h2=>B.slot b o e (qd4 n) h1 h2,fun b o e n h1=>?_,B.there,fun b xs e=>?_,fun b o u e=>?_,fun b ps e=>?_⟩,fun b o e=>?_,rv,q⟩
  .rw[qa7 (nb n)];exact B.free b o e (qd4 n) h1
  .have hb:b≠cl:=fun z=>by subst z;rw[hc] at e;cases e
   rw[qa7 hb];exact B.tups b xs (by rw[qd9 hb];exact e)
  .have hb:b≠cl:=fun z=>by subst z;rw[hc] at e;cases e
   rw[qa7 hb];exact B.frzs b o u (by rw[qd9 hb];exact e)
  .have hb:b≠cl:=fun z=>by subst z;rw[hc] at e;cases e
   obtain⟨more,em⟩:=B.tbls b ps (by rw[qd9 hb];exact e);exact⟨more,by rw[qa7 hb];exact em⟩
  .by_cases hb:b=cl
   .subst hb;rw[qa1] at e;cases e;exact qfa.ok rx ⟨oc,kc,dc⟩
   .rw[qa7 hb] at e;refine(J.hok b o e).stay (fun _ _ _ q=>q) (fun d q=>?_) fun d xs q=>?_
    .rw[qa7 (qa9 q nc)];exact q
    .rw[qa7 (qa9 q nc)];exact q
 refine vS (ht [] _ _ _ _ I hq) (fun fl s' hs=>?_) fun e s' hs=>hs
 cases fl with
 |ret u=>
  obtain⟨v,σ',H',J,rv,q⟩:=hs;exact fin J rv q
 |next=>
  obtain⟨σ',H',J,q⟩:=hs;exact fin (v:=V.non) (u:=wJ) J rfl q
 |brk=>
  obtain⟨_,_,_,q⟩:=hs;exact vO q
 |cont=>
  obtain⟨_,_,_,q⟩:=hs;exact vO q
def Wg(name qual:Str)(params:xH)(body:List Stmt)(scope:xF)(x:Str)(H:Hp)(g t:Addr):Prop:=
 ∃cl cd,H g=some (FnO g name qual params body scope x cl cd)/\H cd=some (CodO cd qual)/\H cl=some (qfa cl (.ref t))
def dget_less{a:Addr}{y:V}{r:Option V}{φ:vQ->Prop}(g:DGet H a y r)(hc:H c=some (.ext φ)):DGet (less H c) a y r:=by
 have old:∀{b:Addr} {o:HO},H b=some o->(∀ψ,o≠ .ext ψ)->less H c b=some o:=fun {b o} e n=>by
  rw[qd9 fun z=>by subst z;rw[hc] at e;exact n φ (uQ e).symm];exact e
 rcases g with⟨kvs,k,e,r1,r2⟩|⟨kvs,k,b,e,r1,e2,r2⟩
 .refine .inl ⟨kvs,k,?_,r1,r2⟩;rcases e with e|⟨o,e⟩
  .exact .inl (old e fun ψ z=>by cases z)
  .exact .inr ⟨o,old e fun ψ z=>by cases z⟩
 .refine .inr ⟨kvs,k,b,?_,r1,old e2 (fun ψ z=>by cases z),r2⟩;rcases e with e|⟨o,e⟩
  .exact .inl (old e fun ψ z=>by cases z)
  .exact .inr ⟨o,old e fun ψ z=>by cases z⟩
def FnO.at{g cl cd:Addr}{name qual x:Str}{params:xH}{body:List Stmt}{scope:xF}(ok:HOk P w H h)(e:H g=some (FnO g name qual params body scope x cl cd)):PySem.W.FnAt g h:=by
 obtain⟨⟨doc,pm,ctv,eg⟩,_⟩:=ok g _ e;exact⟨_,_,_,_,eg⟩
abbrev wgBody(x z:Str)(p1 p2 p3 p4:Pos):List Stmt:=[.Return (some (.Subscript (.Name x p1) (.Name z p2) p3)) p4]
def tWg(W:Hp->Addr->Addr->Prop)(i:Nat)(ta:TA):TE:=fun σ H Q=>∃g t,σ[i]?=some (some (.ref g))/\W H g t/\ta σ H fun vs H1=>∃vz z,vs=[vz]/\W H1 g t/\DGet H1 t vz (some z)/\Q z H1
def pe_wg{X:Cx}{k i:Nat}{y name qual x z:Str}{params:xH}{scope:xF}{p pos p1 p2 p3 p4:Pos}{e:vV}{ta:TA}(M:MadeOk name qual params (wgBody x z p1 p2 p3 p4) scope z x)(hr:Room (k+1) X.A)(hN:X.N[i]?=some y)(hv:Vis X.env.scope y)(ha:PA X [e] ta)
  (d1:(x==("__debug__":Str))=false:=by decide)(d2:(x==("__classdict__":Str))=false:=by decide)(d3:(z==("__debug__":Str))=false:=by decide)(d4:(z==("__classdict__":Str))=false:=by decide)
  (d5:(y==("__debug__":Str))=false:=by decide) (d6:(y==("__classdict__":Str))=false:=by decide) (he:uZ [e] X.env=(false,wL e X.env)::uZ [] X.env:=by rfl) (hpl:(wP pos (uZ [] X.env)).any (·.1)=false:=by rfl):
  PE X (.Call (.Name y p) [e] [] pos) (tWg (Wg name qual params (wgBody x z p1 p2 p3 p4) scope x) i ta):=by
 intro pins s σ H Q I h;obtain⟨g,t,eg,W0,h⟩:=h;refine wU (thn (pe_var hN hv d5 d6 pins s σ H (fun v H'=>v=.ref g/\H'=H) I ⟨.ref g,eg,rfl,rfl⟩) fun f s1 ⟨v,H1,I1,r1,q1,q2⟩=>?_);subst q1;subst q2;obtain rfl:f=uP g:=r1;obtain⟨cl0,cd0,w1,_,_⟩:=W0;refine PySem.W.callWith_F (first:=[]) (FnO.at I1.hok w1) (thn (ha pos pins s1 σ H1 _ I1 h) fun us s2 ⟨vs,H2,I2,r,vz,zz,ev,⟨cl,cd,w2,w3,w4⟩,dg,q⟩=>⟨FnO.at I2.hok w2,?_⟩) he hpl;subst ev;obtain⟨u,rfl,rv⟩:∃u,us=[u]/\qb8 vz u:=by
  cases r with
  |cons r1 r2=>cases r2;exact⟨_,rfl,r1⟩
 have run:=run_made (CX:=fun _ _ _ _ _ _=>False) (E:=fun _ _ _=>False) (Q:=Q) M hr I2.env0 w2 w3 w4 rv fun hr'=>
  ⟨_,qa5 (qad (qan (qat hr') (pe_var (i:=1) rfl (.inr (.inr M.free)) d1 d2) (pe_var (i:=0) rfl (.inl M.par) d3 d4) nofun)),_,rfl,_,rfl,t,zz,rfl,dget_less dg w4,by
   show Q zz (upd (less H2 cl) cl (qfa cl (.ref t)));rw[less_back w4];exact q⟩
 refine yV (xA run fun r s' hq=>?_)
 cases r with
 |error e=>exact vO hq
 |ok fl=>
  cases fl with
  |ret u=>exact I2.after hq
  |next=>exact vO hq
  |brk=>exact vO hq
  |cont=>exact vO hq
end My
set_option exponentiation.threshold 5000
namespace My
open PySem PySem.Spec PyProof.Rows L2
def Hug(i:Int):Prop:=i.natAbs<2^4000
def Hug.bits{k:Int}(h:Hug k):Builtin.Int.intBits k<=2^20:=vJ (PyProof.Rows.intBits_le (k:=4000) h) ∅
def Hug.small{k:Int}(h:k.natAbs<2^600):Hug k:=vD h (wW ∅ ∅)
def Hug.le{k:Int}{n:Nat}(h:k.natAbs<=n)(z:n<2^4000):Hug k:=vF h z
def CHug(i j:Int):Prop:=Hug i/\Hug j
def qdk{X:Cx}:OpR X (aE .Mult) (rI CHug fun i j=> .int (i*j)):=opI fun _ _ _ _ _ _ _ hc q=>mul_int q (IntMulOk.of_bits hc.1.bits hc.2.bits)
end My
namespace Our
open PySem L2 My
variable{S:Ts}{z y h:Str}{e:He}{H H':Hp}{Q:VK}{a l b:Addr}{f:Str->Option Int}{ws W L nm:List Str}{i n N:Nat}{p:List uB->Prop}{g lf lv:Str->Rat}{el:Nat->Nat}{q r:Rat}{D:Dl}{φ:Str->Option Rat}{tp bt:Str->Int}{sc:Int}{es:List Nat}
abbrev sr(a:Addr):Option V:=some (.ref a)
def top(i:Nat):uJ:=PySem.Challenge.pw_quotatree_k56_papers_tested.main.body.getD i (.Pass ⟨0,0,0,0⟩)
def qcm:uJ->Nat->uJ
 | .ClassDef _ _ _ body _ _ _ _ _ _ _,j=>body.getD j (.Pass ⟨0,0,0,0⟩)
 |s,_=>s
abbrev s_is_whole:uJ:=top 15
abbrev s_is_name:uJ:=top 16
abbrev s_is_whole_from:uJ:=top 17
abbrev s_is_amount:uJ:=top 19
abbrev s_amounts_of:uJ:=top 20
abbrev s_above_nought:uJ:=top 21
abbrev s_amount_of:uJ:=top 22
abbrev s_added:uJ:=top 23
abbrev s_beyond:uJ:=top 24
abbrev s_total_of:uJ:=top 25
abbrev s_divisor:uJ:=top 27
abbrev s_fraction:uJ:=top 28
abbrev s_plus:uJ:=top 29
abbrev s_minus:uJ:=top 30
abbrev s_times:uJ:=top 31
abbrev s_divided:uJ:=top 32
abbrev s_below:uJ:=top 33
abbrev s_weights_of:uJ:=top 35
abbrev s_loads_of:uJ:=top 36
abbrev s_least_of:uJ:=top 37
abbrev s_rounds_by:uJ:=top 39
abbrev s_even:uJ:=top 41
abbrev s_is_share:uJ:=top 42
abbrev s_is_paper:uJ:=top 43
abbrev s_is_even:uJ:=top 44
abbrev s_are_wares:uJ:=top 51
abbrev s_check_name:uJ:=top 52
abbrev s_read_house:uJ:=top 53
abbrev s_check_promises:uJ:=top 54
abbrev s_cell_at:uJ:=top 57
abbrev s_mixed:uJ:=top 58
abbrev s_name:uJ:=top 59
abbrev s_whole:uJ:=top 60
abbrev s_want:uJ:=top 61
abbrev s_room:uJ:=top 62
abbrev s_sharing:uJ:=top 63
abbrev s_tree:uJ:=top 64
abbrev s_line:uJ:=top 65
abbrev s_inside:uJ:=top 66
abbrev s_together:uJ:=top 67
abbrev s_less:uJ:=top 68
abbrev s_weigher:uJ:=top 69
abbrev s_asked:uJ:=top 70
abbrev s_l_divisor:uJ:=top 71
abbrev s_is_fraction:uJ:=top 72
abbrev s_is_dealt:uJ:=top 73
abbrev s_ends:uJ:=top 74
abbrev s_let_by:uJ:=top 75
abbrev s_drawn:uJ:=top 76
abbrev s_farthest:uJ:=top 77
abbrev s_spoiled:uJ:=top 78
abbrev s_law:uJ:=top 79
abbrev s_House_init:uJ:=qcm (top 50) 0
abbrev s_Tree_init:uJ:=qcm (top 55) 0
abbrev s_Tree_found:uJ:=qcm (top 55) 1
abbrev s_Tree_wares:uJ:=qcm (top 55) 2
abbrev s_Tree_names:uJ:=qcm (top 55) 3
abbrev s_Tree_has:uJ:=qcm (top 55) 4
abbrev s_Tree_check_house:uJ:=qcm (top 55) 5
abbrev s_Tree_house_of:uJ:=qcm (top 55) 6
abbrev s_Tree_elder_of:uJ:=qcm (top 55) 7
abbrev s_Tree_weight_of:uJ:=qcm (top 55) 10
abbrev s_Tree_kids:uJ:=qcm (top 55) 11
abbrev s_Tree_line:uJ:=qcm (top 55) 12
abbrev s_Tree_beneath:uJ:=qcm (top 55) 13
abbrev s_Tree_promised_beneath:uJ:=qcm (top 55) 14
abbrev s_Tree_check_more:uJ:=qcm (top 55) 16
abbrev s_Dealing_init:uJ:=qcm (top 38) 0
abbrev s_Dealing_fills:uJ:=qcm (top 38) 1
abbrev s_Dealing_ready:uJ:=qcm (top 38) 2
abbrev s_Dealing_settle:uJ:=qcm (top 38) 3
abbrev s_Dealing_next_round:uJ:=qcm (top 38) 4
abbrev s_Sums_init:uJ:=qcm (top 40) 0
abbrev s_Sums_within_rooms:uJ:=qcm (top 40) 1
abbrev s_Sums_stops_of:uJ:=qcm (top 40) 2
abbrev s_i_NoPromise:uJ:=qcm (top 11) 0
set_option genSizeOf false in
set_option genInjectivity false in
structure Ad where
 w7m:Addr
 w68:uK
 w9h:Addr
 w80:uK
 w3g:Addr
 w2x:uK
 w6s:Addr
 w54:uK
 w4z:Addr
 w4b:uK
 w3s:Addr
 w3d:uK
 w6k:Addr
 w52:uK
 wd5:Addr
 wav:uK
 waz:Addr
 w9n:uK
 w7j:Addr
 w64:uK
 w91:Addr
 w78:uK
 w7e:Addr
 w63:uK
 wg7:Addr
 wcv:uK
 wdl:Addr
 wb9:uK
 wcn:Addr
 wbc:uK
 w94:Addr
 w7a:uK
 wd1:Addr
 wb7:uK
 w5i:Addr
 w48:uK
 w7k:Addr
 w6u:uK
 w79:Addr
 w6t:uK
 w69:Addr
 w50:uK
 wgj:Addr
 way:uK
 wij:Addr
 w5k:uB
 w7r:Addr
 w6o:uK
 w7o:Addr
 w6j:uK
 w9e:Addr
 w5u:uK
 wfw:Addr
 w26:uB
 w6i:Addr
 w5g:uK
 w4x:Addr
 w4p:uK
 w5h:Addr
 w4o:uK
 w2r:Addr
 w2l:uK
 w9c:Addr
 w7s:uK
 wd8:Addr
 wat:uK
 wfe:Addr
 wda:uK
 wdb:Addr
 waq:uK
 wfu:Addr
 wdv:uK
 wf9:Addr
 wcs:uK
 w9k:Addr
 w7y:uK
 wfn:Addr
 wcw:uK
 wfi:Addr
 wdx:uK
 war:Addr
 w9d:uK
 w84:Addr
 w6g:uK
 wfm:Addr
 wdt:uK
 w6x:Addr
 w5s:uK
 wco:Addr
 wbb:uK
 w6q:Addr
 w5n:uK
 w49:Addr
 w3v:uK
 w7f:Addr
 w6d:uK
 wfj:Addr
 wcj:uK
 wb2:Addr
 w9p:uK
 wdp:Addr
 wb4:uK
 w7x:Addr
 w6f:uK
 w9t:Addr
 w82:uK
 wd9:Addr
 wbm:uK
 w57:Addr
 w4f:uK
 w6l:Addr
 w3o:uK
 wdy:Addr
 w19:uB
 w51:Addr
 w32:uK
 wc3:Addr
 w0s:uB
 w8b:Addr
 w6z:uK
 w8h:Addr
 w6v:uK
 w7p:Addr
 w6a:uK
 w2c:Addr
 w20:uK
 w3h:Addr
 w2v:uK
 w3j:Addr
 w2w:uK
 w2u:Addr
 w2f:uK
 w67:Addr
 w4y:uK
 w6p:Addr
 w4w:uK
 w1f:Addr
 w0w:uK
 w1a:Addr
 w17:uK
 w2h:Addr
 w27:uK
 w3u:Addr
 w39:uK
 w3e:Addr
 w2s:uK
 w3i:Addr
 w30:uK
 w2t:Addr
 w2e:uK
 w1n:Addr
 w1j:uK
 w6h:Addr
 w5b:uK
 w1x:Addr
 w1o:uK
 w3f:Addr
 w2q:uK
 w4d:Addr
 w3t:uK
 w06:Addr
 w01:Addr
 w00:Addr
 w02:Addr
 w4g:Addr
 w5q:Addr
 w81:Addr
 w0l:Addr
 w1z:Addr
 w5t:Addr
 w36:Addr
 w38:Addr
 w3x:Addr
 w3z:Addr
 w3y:uB
 w1g:uB
 w24:uB
 w1l:uB
 w1h:uB
 w0k:uB
structure Tx(K:uS)(mg:Str->Option uB)(d:Ad):Prop where
 waf:Fun K "is_whole" "is_whole" s_is_whole d.w7m d.w68
 wey:mg "is_whole"=some (.ref d.w7m)
 wel:qam K d.w68 ["thing"] []
 w99:Fun K "is_name" "is_name" s_is_name d.w9h d.w80
 wbn:mg "is_name"=some (.ref d.w9h)
 wbx:qam K d.w80 ["thing"] []
 w3l:Fun K "is_whole_from" "is_whole_from" s_is_whole_from d.w3g d.w2x
 w5f:mg "is_whole_from"=some (.ref d.w3g)
 w5j:qam K d.w2x ["thing","least","most"] []
 w8x:Fun K "is_amount" "is_amount" s_is_amount d.w6s d.w54
 wcq:mg "is_amount"=some (.ref d.w6s)
 wd0:qam K d.w54 ["thing"] []
 w5e:Fun K "amounts_of" "amounts_of" s_amounts_of d.w4z d.w4b
 w86:mg "amounts_of"=some (.ref d.w4z)
 w8g:qam K d.w4b ["handed","wares"] []
 w62:Fun K "above_nought" "above_nought" s_above_nought d.w3s d.w3d
 w9x:mg "above_nought"=some (.ref d.w3s)
 wa8:qam K d.w3d ["amounts"] []
 w6c:Fun K "amount_of" "amount_of" s_amount_of d.w6k d.w52
 w96:mg "amount_of"=some (.ref d.w6k)
 w9f:qam K d.w52 ["amounts","ware"] []
 wcz:Fun K "added" "added" s_added d.wd5 d.wav
 wgi:mg "added"=some (.ref d.wd5)
 wgh:qam K d.wav ["one","other"] []
 we0:Fun K "beyond" "beyond" s_beyond d.waz d.w9n
 wh0:mg "beyond"=some (.ref d.waz)
 wgr:qam K d.w9n ["one","other"] []
 wak:Fun K "total_of" "total_of" s_total_of d.w7j d.w64
 wez:mg "total_of"=some (.ref d.w7j)
 wes:qam K d.w64 ["many"] []
 wc7:Fun K "divisor" "divisor" s_divisor d.w91 d.w78
 wgb:mg "divisor"=some (.ref d.w91)
 wfa:qam K d.w78 ["one","other"] []
 w37:Fun K "fraction" "fraction" s_fraction d.w7e d.w63
 w40:mg "fraction"=some (.ref d.w7e)
 w46:qam K d.w63 ["top","bottom"] []
 wh7:Fun K "plus" "plus" s_plus d.wg7 d.wcv
 wih:mg "plus"=some (.ref d.wg7)
 wim:qam K d.wcv ["one","other"] []
 wgf:Fun K "minus" "minus" s_minus d.wdl d.wb9
 wi9:mg "minus"=some (.ref d.wdl)
 wib:qam K d.wb9 ["one","other"] []
 wcm:Fun K "times" "times" s_times d.wcn d.wbc
 wgc:mg "times"=some (.ref d.wcn)
 wg2:qam K d.wbc ["one","other"] []
 w9u:Fun K "divided" "divided" s_divided d.w94 d.w7a
 wbi:mg "divided"=some (.ref d.w94)
 wbt:qam K d.w7a ["one","other"] []
 w6n:Fun K "below" "below" s_below d.wd1 d.wb7
 w7d:mg "below"=some (.ref d.wd1)
 w7v:qam K d.wb7 ["one","other"] []
 w5d:Fun K "weights_of" "weights_of" s_weights_of d.w5i d.w48
 w8e:mg "weights_of"=some (.ref d.w5i)
 w89:qam K d.w48 ["tree","wants","weigh"] []
 waj:Fun K "loads_of" "loads_of" s_loads_of d.w7k d.w6u
 wed:mg "loads_of"=some (.ref d.w7k)
 wee:qam K d.w6u ["tree","weights","waiting"] []
 wac:Fun K "least_of" "least_of" s_least_of d.w79 d.w6t
 wep:mg "least_of"=some (.ref d.w79)
 wf7:qam K d.w6t ["many"] []
 w8y:Fun K "rounds_by" "rounds_by" s_rounds_by d.w69 d.w50
 wch:mg "rounds_by"=some (.ref d.w69)
 wdi:qam K d.w50 ["tree","rooms","wants","weights"] []
 wh8:My.FunD K "even" "even" s_even d.wgj d.way d.wij (List.toArray [d.w5k])
 wig:mg "even"=some (.ref d.wgj)
 win:qam K d.way ["tree","rooms","wants","weigh"] []
 wiu:qam K d.way ["tree","rooms","wants","weigh"] [d.w5k]
 wiq:qbk [.non] [d.w5k]
 wad:Fun K "is_share" "is_share" s_is_share d.w7r d.w6o
 wej:mg "is_share"=some (.ref d.w7r)
 wf2:qam K d.w6o ["share","want"] []
 wag:Fun K "is_paper" "is_paper" s_is_paper d.w7o d.w6j
 wen:mg "is_paper"=some (.ref d.w7o)
 wei:qam K d.w6j ["sums","row","want"] []
 w58:My.FunD K "is_even" "is_even" s_is_even d.w9e d.w5u d.wfw (List.toArray [d.w26])
 w6w:mg "is_even"=some (.ref d.w9e)
 w9v:qam K d.w5u ["tree","rooms","wants","dealt","weigh"] []
 wer:qam K d.w5u ["tree","rooms","wants","dealt","weigh"] [d.w26]
 weo:qbk [.non] [d.w26]
 w9j:Fun K "are_wares" "are_wares" s_are_wares d.w6i d.w5g
 wcg:mg "are_wares"=some (.ref d.w6i)
 wdd:qam K d.w5g ["thing"] []
 w5o:Fun K "check_name" "check_name" s_check_name d.w4x d.w4p
 w87:mg "check_name"=some (.ref d.w4x)
 w8c:qam K d.w4p ["thing"] []
 w59:Fun K "read_house" "read_house" s_read_house d.w5h d.w4o
 w8d:mg "read_house"=some (.ref d.w5h)
 w85:qam K d.w4o ["wares","elder","promise","cap","weight"] []
 w1w:Fun K "check_promises" "check_promises" s_check_promises d.w2r d.w2l
 w2z:mg "check_promises"=some (.ref d.w2r)
 w2y:qam K d.w2l ["name","promises","cap"] []
 w1r:Fun K "_law_cell_at" "_law_cell_at" s_cell_at d.w9c d.w7s
 w2a:mg "_law_cell_at"=some (.ref d.w9c)
 w2b:qam K d.w7s ["_law_script","_law_k"] []
 w8w:Fun K "_law_mixed" "_law_mixed" s_mixed d.wd8 d.wat
 wbf:mg "_law_mixed"=some (.ref d.wd8)
 wb6:qam K d.wat ["_law_cell","_law_k"] []
 we8:Fun K "_law_name" "_law_name" s_name d.wfe d.wda
 wfv:mg "_law_name"=some (.ref d.wfe)
 wfz:qam K d.wda ["_law_cell","_law_k"] []
 wdc:Fun K "_law_whole" "_law_whole" s_whole d.wdb d.waq
 wfd:mg "_law_whole"=some (.ref d.wdb)
 wg4:qam K d.waq ["_law_found"] []
 whi:Fun K "_law_want" "_law_want" s_want d.wfu d.wdv
 wio:mg "_law_want"=some (.ref d.wfu)
 wif:qam K d.wdv ["_law_number","_law_scale"] []
 whh:Fun K "_law_room" "_law_room" s_room d.wf9 d.wcs
 wii:mg "_law_room"=some (.ref d.wf9)
 wil:qam K d.wcs ["_law_number","_law_scale"] []
 wc9:Fun K "_law_sharing" "_law_sharing" s_sharing d.w9k d.w7y
 wff:mg "_law_sharing"=some (.ref d.w9k)
 wg8:qam K d.w7y ["_law_script","_law_count"] []
 wgd:Fun K "_law_tree" "_law_tree" s_tree d.wfn d.wcw
 whb:mg "_law_tree"=some (.ref d.wfn)
 wh9:qam K d.wcw ["_law_script","_law_sharing_here"] []
 wft:Fun K "_law_line" "_law_line" s_line d.wfi d.wdx
 whe:mg "_law_line"=some (.ref d.wfi)
 whm:qam K d.wdx ["_law_elders","_law_k"] []
 wbd:Fun K "_law_inside" "_law_inside" s_inside d.war d.w9d
 wec:mg "_law_inside"=some (.ref d.war)
 wea:qam K d.w9d ["_law_sharing_here","_law_at"] []
 w7w:Fun K "_law_together" "_law_together" s_together d.w84 d.w6g
 wan:mg "_law_together"=some (.ref d.w84)
 wah:qam K d.w6g ["_law_shares","_law_some"] []
 wc6:Fun K "_law_less" "_law_less" s_less d.wfm d.wdt
 we7:mg "_law_less"=some (.ref d.wfm)
 we3:qam K d.wdt ["_law_one","_law_other"] []
 wbz:Fun K "_law_weigher" "_law_weigher" s_weigher d.w6x d.w5s
 wbw:mg "_law_weigher"=some (.ref d.w6x)
 wfy:qam K d.w5s ["_law_table"] []
 wfo:Fun K "_law_asked" "_law_asked" s_asked d.wco d.wbb
 whw:mg "_law_asked"=some (.ref d.wco)
 wia:qam K d.wbb ["_law_script","_law_sharing_here"] []
 w9l:Fun K "_law_divisor" "_law_divisor" s_l_divisor d.w6q d.w5n
 wdo:mg "_law_divisor"=some (.ref d.w6q)
 wci:qam K d.w5n ["_law_one","_law_other"] []
 w77:Fun K "_law_is_fraction" "_law_is_fraction" s_is_fraction d.w49 d.w3v
 wb0:mg "_law_is_fraction"=some (.ref d.w49)
 wb8:qam K d.w3v ["_law_found"] []
 wae:Fun K "_law_is_dealt" "_law_is_dealt" s_is_dealt d.w7f d.w6d
 wf1:mg "_law_is_dealt"=some (.ref d.w7f)
 weh:qam K d.w6d ["_law_found","_law_wants"] []
 wga:Fun K "_law_ends" "_law_ends" s_ends d.wfj d.wcj
 whp:mg "_law_ends"=some (.ref d.wfj)
 whj:qam K d.wcj ["_law_sharing_here","_law_shares","_law_name_here","_law_at"] []
 wdz:Fun K "_law_let_by" "_law_let_by" s_let_by d.wb2 d.w9p
 wgy:mg "_law_let_by"=some (.ref d.wb2)
 wh4:qam K d.w9p ["_law_sharing_here","_law_dealt"] []
 wge:Fun K "_law_drawn" "_law_drawn" s_drawn d.wdp d.wb4
 whq:mg "_law_drawn"=some (.ref d.wdp)
 whs:qam K d.wb4 ["_law_sharing_here","_law_dealt","_law_cell","_law_stranger"] []
 wal:Fun K "_law_farthest" "_law_farthest" s_farthest d.w7x d.w6f
 wet:mg "_law_farthest"=some (.ref d.w7x)
 weu:qam K d.w6f ["_law_sharing_here","_law_dealt"] []
 wc0:Fun K "_law_spoiled" "_law_spoiled" s_spoiled d.w9t d.w82
 wgg:mg "_law_spoiled"=some (.ref d.w9t)
 wg6:qam K d.w82 ["_law_dealt","_law_cell","_law_stranger"] []
 wit:Fun K "law" "law" s_law d.wd9 d.wbm
 wiv:mg "law"=some (.ref d.wd9)
 wca:Fun K "__init__" "House.__init__" s_House_init d.w57 d.w4f
 wc2:qam K d.w4f ["self","elder","promise","cap","weight"] []
 wdh:My.FunD K "__init__" "Tree.__init__" s_Tree_init d.w6l d.w3o d.wdy (List.toArray [d.w19])
 wcl:qam K d.w3o ["self","wares","name","promise","cap","weight"] []
 whl:qam K d.w3o ["self","wares","name","promise","cap","weight"] [d.w19]
 wha:qbk [.int 1] [d.w19]
 wcc:My.FunD K "found" "Tree.found" s_Tree_found d.w51 d.w32 d.wc3 (List.toArray [d.w0s])
 wbg:qam K d.w32 ["self","name","elder","promise","cap","weight"] []
 wgw:qam K d.w32 ["self","name","elder","promise","cap","weight"] [d.w0s]
 wgo:qbk [.int 1] [d.w0s]
 whc:Fun K "wares" "Tree.wares" s_Tree_wares d.w8b d.w6z
 whf:qam K d.w6z ["self"] []
 whk:Fun K "names" "Tree.names" s_Tree_names d.w8h d.w6v
 whg:qam K d.w6v ["self"] []
 wew:Fun K "has" "Tree.has" s_Tree_has d.w7p d.w6a
 wam:qam K d.w6a ["self","thing"] []
 w71:Fun K "check_house" "Tree.check_house" s_Tree_check_house d.w2c d.w20
 w28:qam K d.w20 ["self","thing"] []
 w9q:Fun K "house_of" "Tree.house_of" s_Tree_house_of d.w3h d.w2v
 w5a:qam K d.w2v ["self","name"] []
 w9s:Fun K "elder_of" "Tree.elder_of" s_Tree_elder_of d.w3j d.w2w
 w5c:qam K d.w2w ["self","name"] []
 w8m:Fun K "weight_of" "Tree.weight_of" s_Tree_weight_of d.w2u d.w2f
 w8o:qam K d.w2f ["self","name"] []
 wdf:Fun K "kids" "Tree.kids" s_Tree_kids d.w67 d.w4y
 wdj:qam K d.w4y ["self","name"] []
 wd4:Fun K "line" "Tree.line" s_Tree_line d.w6p d.w4w
 w2k:qam K d.w4w ["self","name"] []
 wa5:Fun K "beneath" "Tree.beneath" s_Tree_beneath d.w1f d.w0w
 w61:qam K d.w0w ["self","name"] []
 w4h:Fun K "promised_beneath" "Tree.promised_beneath" s_Tree_promised_beneath d.w1a d.w17
 w4e:qam K d.w17 ["self","name"] []
 w7z:Fun K "check_more" "Tree.check_more" s_Tree_check_more d.w2h d.w27
 w7q:qam K d.w27 ["self","names","more"] []
 wa4:Fun K "__init__" "Dealing.__init__" s_Dealing_init d.w3u d.w39
 w9y:qam K d.w39 ["self","tree","rooms","wants","weights"] []
 w98:Fun K "fills" "Dealing.fills" s_Dealing_fills d.w3e d.w2s
 w9m:qam K d.w2s ["self"] []
 w9o:Fun K "ready" "Dealing.ready" s_Dealing_ready d.w3i d.w30
 w9i:qam K d.w30 ["self","level","fills"] []
 w8j:Fun K "settle" "Dealing.settle" s_Dealing_settle d.w2t d.w2e
 w8n:qam K d.w2e ["self","level","names"] []
 w5y:Fun K "next_round" "Dealing.next_round" s_Dealing_next_round d.w1n d.w1j
 w5x:qam K d.w1j ["self"] []
 wcx:Fun K "__init__" "Sums.__init__" s_Sums_init d.w6h d.w5b
 w95:qam K d.w5b ["self","tree","rooms","shares","weights"] []
 w65:Fun K "within_rooms" "Sums.within_rooms" s_Sums_within_rooms d.w1x d.w1o
 w6r:qam K d.w1o ["self"] []
 w9g:Fun K "stops_of" "Sums.stops_of" s_Sums_stops_of d.w3f d.w2q
 w5l:qam K d.w2q ["self","name"] []
 wgv:Fun K "__init__" "NoPromise.__init__" s_i_NoPromise d.w4d d.w3t
 wbo:My.XClI K d.w1z d.w4d
 wax:qam K d.w3t ["self","house","ware"] []
 wi7:mg "House"=some (.ref d.w06)
 wik:mg "Tree"=some (.ref d.w01)
 wfh:mg "Dealing"=some (.ref d.w00)
 whn:mg "Sums"=some (.ref d.w02)
 wi4:mg "TreeError"=some (.ref d.w4g)
 wgl:mg "NoName"=some (.ref d.w5q)
 wi2:mg "Taken"=some (.ref d.w81)
 wfc:mg "NoHouse"=some (.ref d.w0l)
 wdn:mg "NoPromise"=some (.ref d.w1z)
 we4:mg "NoWare"=some (.ref d.w5t)
 w7n:mg "NoAmount"=some (.ref d.w36)
 wf3:mg "NoNumber"=some (.ref d.w38)
 wfk:mg "TooMany"=some (.ref d.w3x)
 wf8:mg "TooDeep"=some (.ref d.w3z)
 wg0:mg "LETTERS"=some d.w3y
 w55:qb8 (.str "abcdefghijklmnopqrstuvwxyz") d.w3y
 w9w:mg "LONGEST_NAME"=some d.w1g
 w1p:qb8 (.int 8) d.w1g
 wc8:mg "MOST_WARES"=some d.w24
 w2n:qb8 (.int 6) d.w24
 waw:mg "MOST_HOUSES"=some d.w1l
 w29:qb8 (.int 40) d.w1l
 wa3:mg "LONGEST_LINE"=some d.w1h
 w1q:qb8 (.int 12) d.w1h
 w7b:mg "GREATEST_WEIGHT"=some d.w0k
 w0y:qb8 (.int 1000) d.w0k
 wi0:mg "abs"=none
 wgk:mg "all"=none
 wis:mg "any"=none
 wfp:mg "bool"=none
 w4v:mg "dict"=none
 whr:mg "int"=none
 w07:mg "isinstance"=none
 w3r:mg "len"=none
 wai:mg "list"=none
 w53:mg "range"=none
 wir:mg "set"=none
 w33:mg "sorted"=none
 wgx:mg "str"=none
 wfb:mg "tuple"=none
 wip:mg "zip"=none
 w0g:Cls K d.w00
 w2g:Cls K d.w02
 w42:Mk K d.w00 d.w3u
 w83:Mk K d.w02 d.w6h
 w1d:Meth K d.w00 "fills" d.w3e
 w1c:Meth K d.w00 "ready" d.w3i
 w15:Meth K d.w00 "settle" d.w2t
 w0e:Meth K d.w00 "next_round" d.w1n
 w0p:Meth K d.w02 "stops_of" d.w3f
 w0i:Meth K d.w02 "within_rooms" d.w1x
 w0f:vY K (.ref d.w00) "tree"=some none
 w0b:vY K (.ref d.w00) "weights"=some none
 w05:vY K (.ref d.w00) "waiting"=some none
 w0m:vY K (.ref d.w00) "left"=some none
 w0h:vY K (.ref d.w00) "goals"=some none
 w22:vY K (.ref d.w02) "tree"=some none
 w1b:vY K (.ref d.w02) "rooms"=some none
 w1i:vY K (.ref d.w02) "levels"=some none
 w0t:vY K (.ref d.w02) "totals"=some none
 w25:vY K (.ref d.w02) "tops"=some none
 w1t:Cls K d.w06
 w03:Cls K d.w01
 w75:Mk K d.w06 d.w57
 w9a:Mk K d.w01 d.w6l
 w2d:Meth K d.w01 "found" d.w51
 w34:Meth K d.w01 "wares" d.w8b
 w31:Meth K d.w01 "names" d.w8h
 w2i:Meth K d.w01 "has" d.w7p
 w08:Meth K d.w01 "check_house" d.w2c
 w0n:Meth K d.w01 "house_of" d.w3h
 w0o:Meth K d.w01 "elder_of" d.w3j
 w0x:Meth K d.w01 "weight_of" d.w2u
 w2o:Meth K d.w01 "kids" d.w67
 w0j:Meth K d.w01 "line" d.w6p
 w0v:Meth K d.w01 "beneath" d.w1f
 w09:Meth K d.w01 "promised_beneath" d.w1a
 w0r:Meth K d.w01 "check_more" d.w2h
 w0u:vY K (.ref d.w06) "elder"=some none
 w0d:vY K (.ref d.w06) "promise"=some none
 w18:vY K (.ref d.w06) "cap"=some none
 w0z:vY K (.ref d.w06) "weight"=some none
 w0c:vY K (.ref d.w01) "sorted_wares"=some none
 w04:vY K (.ref d.w01) "houses"=some none
 wfx:My.XCls K d.w0l
 w7u:My.XCls K d.w36
 we9:My.XCls K d.w5t
 wh6:My.XCls K d.w5q
 wef:My.XCls K d.w38
 wi5:My.XCls K d.w81
 wfl:My.XCls K d.w3x
 wfr:My.XCls K d.w3z
def eV:Option Str->V
 |none=> .non
 |some z=> .str z
structure Ho where
 el:Option Str
 pa:Addr
 kp:List (Key×V)
 fp:Str->Option Int
 ca:Addr
 kc:List (Key×V)
 fc:Str->Option Int
 w:Int
structure He where
 n:Str
 a:Addr
 x:Ho
structure Ts where
 sw:Addr
 ws:List Str
 hs:Addr
 hl:List He
def fsH(x:Ho):List (Str×V):=[("elder",eV x.el),("promise",.ref x.pa),("cap",.ref x.ca),("weight",.int x.w)]
def HoAt(d:Ad)(H:Hp)(a:Addr)(x:Ho):Prop:=(∃dx,H a=some (.ins d.w06 dx (fsH x)))/\H x.pa=some (.dK x.kp)/\AD x.kp x.fp/\H x.ca=some (.dK x.kc)/\AD x.kc x.fc
def HoAt.same{d:Ad}{H H':Hp}{a:Addr}{x:Ho}(h:HoAt d H a x)(s:Same H H'):HoAt d H' a x:=⟨let ⟨dx,e⟩:=h.1;⟨dx,s _ _ e⟩,s _ _ h.2.1,h.2.2.1,s _ _ h.2.2.2.1,h.2.2.2.2⟩
def Ts.keys(S:Ts):List (Str×Addr):=S.hl.map fun e=>(e.n,e.a)
def Ts.at(S:Ts)(z:Str):Option He:=S.hl.find? fun e=>decide (e.n=z)
def fsT(S:Ts):List (Str×V):=[("sorted_wares",.ref S.sw),("houses",.ref S.hs)]
def qf9(d:Ad)(H:Hp)(t:Addr)(S:Ts):Prop:=(∃dx,H t=some (.ins d.w01 dx (fsT S)))/\H S.sw=some (.lst (S.ws.map V.str))/\H S.hs=some (.dK (oK S.keys))/\(S.hl.map (·.n)).Nodup/\S.hl.length<=60/\∀e∈S.hl,HoAt d H e.a e.x
theorem qf9.same{d:Ad}{H H':Hp}{t:Addr}{S:Ts}(h:qf9 d H t S)(s:Same H H'):qf9 d H' t S:=
 ⟨let ⟨dx,e⟩:=h.1;⟨dx,s _ _ e⟩,s _ _ h.2.1,s _ _ h.2.2.1,h.2.2.2.1,h.2.2.2.2.1,fun e he=>(h.2.2.2.2.2 e he).same s⟩
theorem qe5(S:Ts)(z:Str):qdf S.keys z=(S.at z).map (·.a):=by
 obtain⟨sw,ws,hs,hl⟩:=S;unfold Ts.keys Ts.at;dsimp only
 induction hl with
 |nil=>rfl
 |cons e r ih=>
  rw[zV,yH];unfold qdf;by_cases q:e.n=z
  .rw[gJ q,gK q];rfl
  .rw[gI q,gL q];exact ih
def qd7(h:S.at z=some e):e∈S.hl/\e.n=z:=⟨List.mem_of_find?_eq_some h,by have:=List.find?_some h;simpa using this⟩
def NotS(K:uS)(H:Hp)(x:V):Prop:=∃t,TyOf K H x t/\bO K t (.type "str")=some false
def qf3(K:uS)(H:Hp)(x:V):Prop:=(∃z,x=.str z)\/(NotS K H x/\∀z,x≠ .str z)
def who(S:Ts):V->Option He
 | .str z=>S.at z
 |_=>none
theorem qdh{x:V}(h:∀z,x≠ .str z):who S x=none:=by
 cases x<;>first|rfl|(rename_i z;exact absurd rfl (h z))
def wcr(K:uS)(d:Ad):Sp:=fun vs H Q _=>∃(t:Addr)(S:Ts)(x:V),vs=[.ref t,x]/\qf9 d H t S/\qf3 K H x/\Q (.bl (who S x).isSome) H
def w66(K:uS)(d:Ad):Sp:=fun vs H Q E=>∃(t:Addr)(S:Ts)(x:V),vs=[.ref t,x]/\qf9 d H t S/\qf3 K H x/\(∀e,who S x=some e->Q .non H)/\(who S x=none->E (.ref d.w0l) none H)
def w8r(K:uS)(d:Ad):Sp:=fun vs H Q E=>∃(t:Addr)(S:Ts)(x:V),vs=[.ref t,x]/\qf9 d H t S/\qf3 K H x/\(∀e,who S x=some e->Q (.ref e.a) H)/\(who S x=none->E (.ref d.w0l) none H)
def w8k(K:uS)(d:Ad):Sp:=fun vs H Q E=>∃(t:Addr)(S:Ts)(x:V),vs=[.ref t,x]/\qf9 d H t S/\qf3 K H x/\(∀e,who S x=some e->Q (eV e.x.el) H)/\(who S x=none->E (.ref d.w0l) none H)
def w7i(K:uS)(d:Ad):Sp:=fun vs H Q E=>∃(t:Addr)(S:Ts)(x:V),vs=[.ref t,x]/\qf9 d H t S/\qf3 K H x/\(∀e,who S x=some e->Q (.int e.x.w) H)/\(who S x=none->E (.ref d.w0l) none H)
def r_notNs{a:Str}(h:Q (.bl true) H):rNotN (.str a) .non H Q:=⟨rfl,h⟩
theorem TyOf.same{K:uS}{H H':Hp}{x:V}{t:uB}(h:TyOf K H x t)(s:Same H H'):TyOf K H' x t:=by
 cases h with
 |non=>exact .non
 |bl b=>exact .bl b
 |int i=>exact .int i
 |str z=>exact .str z
 |flt z=>exact .flt z
 |lst e=>exact .lst (s _ _ e)
 |frz e=>exact .frz (s _ _ e)
 |tup e=>exact .tup (s _ _ e)
 |dK e=>exact .dK (s _ _ e)
 |dT e=>exact .dT (s _ _ e)
 |ins e c a n k m=>exact .ins (s _ _ e) c a n k m
theorem qf3.same{K:uS}{H H':Hp}{x:V}(h:qf3 K H x)(s:Same H H'):qf3 K H' x:=by
 rcases h with h|⟨⟨t,a,b⟩,n⟩
 .exact .inl h
 .exact .inr ⟨⟨t,TyOf.same a s,b⟩,n⟩
inductive LineOf(S:Ts):Str->List Str->Prop
 |top{z:Str}{e:He}(h:S.at z=some e)(n:e.x.el=none):LineOf S z [z]
 |up{z y:Str}{e:He}{zs:List Str}(h:S.at z=some e)(n:e.x.el=some y)(r:LineOf S y zs):LineOf S z (z::zs)
def RestOf(S:Ts):Option Str->List Str->Prop
 |none,zs=>zs=[]
 |some y,zs=>LineOf S y zs
theorem LineOf.open{zs:List Str}(h:LineOf S z zs):∃e r,S.at z=some e/\zs=z::r/\RestOf S e.x.el r:=by
 cases h with
 |top h n=>exact⟨_,[],h,rfl,by rw[n];rfl⟩
 |up h n r=>exact⟨_,_,h,rfl,by rw[n];exact r⟩
def lenAt(l:Addr)(H:Hp):Nat:=match H l with
 |some (.lst xs)=>xs.length
 |_=>0
theorem qfh{xs:List V}(e:H l=some (.lst xs)):lenAt l H=xs.length:=by unfold lenAt;rw[e]
def wc1(K:uS)(d:Ad):Sp:=fun vs H Q E=>∃(t:Addr)(S:Ts)(x:V),vs=[.ref t,x]/\qf9 d H t S/\
 ((∃z zs,x=.str z/\LineOf S z zs/\zs.length<=1000/\∀l,H l=none->Q (.ref l) (upd H l (.lst (zs.map V.str))))\/(qf3 K H x/\who S x=none/\∀l,H l=none->E (.ref d.w0l) none (upd H l (.lst [x]))))
def qbr(S:Ts)(z:Str):List Str:=(S.hl.filter fun e=>decide (e.x.el=some z)).map (·.n)
def wbl(K:uS)(d:Ad):Sp:=fun vs H Q E=>∃(t:Addr)(S:Ts)(x:V),vs=[.ref t,x]/\qf9 d H t S/\qf3 K H x/\(∀e,who S x=some e->∀l ss H',Same H H'->H l=none->H' l=some (.lst (ss.map V.str))->ss.Perm (qbr S e.n)->vX ss=true->Q (.ref l) H')/\(who S x=none->E (.ref d.w0l) none H)
inductive sp_amount_of(K:uS)(d:Ad)(vs:List V)(H:Hp)(Q:VK)(E:XK):Prop
 |mk(a:Addr)(kvs:List (Key×V))(f:Str->Option Int)(z:Str)(_:vs=[.ref a,.str z])(_:Rd H a (.dK kvs))(_:AD kvs f)(_:Q (.int (gN f z)) H)
def w93(K:uS)(d:Ad):Sp:=fun vs H Q _=>∃(a:Addr)(kvs:List (Key×V))(f:Str->Option Int),vs=[.ref a]/\H a=some (.dK kvs)/\AD kvs f/\kvs.length<=1000/\
 ∀l k' H',Same H H'->H l=none->H' l=some (.dK k')->AD k' (qdi f)->Q (.ref l) H'
inductive sp_added(K:uS)(d:Ad)(vs:List V)(H:Hp)(Q:VK)(E:XK):Prop
 |mk(a b:Addr)(ka kb:List (Key×V))(f g:Str->Option Int)(_:vs=[.ref a,.ref b])(_:Rd H a (.dK ka))(_:H b=some (.dK kb))(_:AD ka f)(_:AD kb g)(_:ka.length<=1000)(_:kb.length<=1000)(_:∀l k' H',Same H H'->H l=none->H' l=some (.dK k')->AD k' (qh6 f g)->Q (.ref l) H')
inductive sp_beyond(K:uS)(d:Ad)(vs:List V)(H:Hp)(Q:VK)(E:XK):Prop
 |mk(a b:Addr)(ka kb:List (Key×V))(f g:Str->Option Int)(_:vs=[.ref a,.ref b])(_:Rd H a (.dK ka))(_:Rd H b (.dK kb))(_:AD ka f)(_:AD kb g)(_:ka.length<64)(_:(∀H',Same H H'->(∀y,¬viol f g y)->Q .non H'))(_:∀z H',Same H H'->viol f g z->(∀y,viol f g y->leS z y)->Q (.str z) H')
structure Pt where
 a:Addr
 k:List (Key×V)
 f:Str->Option Int
def sumF(ts:List Pt):Str->Option Int:=ts.foldl (fun f t=>qh6 f t.f) noF
def PtOk(H:Hp)(ws:List Str)(t:Pt):Prop:=H t.a=some (.dK t.k)/\AD t.k t.f/\∀z,t.f z≠none->z∈ws
def wdw(K:uS)(d:Ad):Sp:=fun vs H Q _=>∃(L:Addr)(ts:List Pt)(ws:List Str),vs=[.ref L]/\SqL K H L (ts.map fun t=> .ref t.a)/\ws.length<=100/\(∀t∈ts,PtOk H ws t)/\
 ∀l k' H',Same H H'->H l=none->H' l=some (.dK k')->AD k' (sumF ts)->Q (.ref l) H'
section
variable{K:uS}{d:Ad}{H:Hp}{Q:VK}{E:XK}
def u_amount{kvs:List (Key×V)}(hR:Rd H a (.dK kvs))(hA:AD kvs f)(q:Q (.int (gN f z)) H):sp_amount_of K d [.ref a,.str z] H Q E:=⟨a,kvs,f,z,rfl,hR,hA,q⟩
end
local macro_rules | `(tactic| walk_at "kit") => `(tactic| (with_reducible (first
 |assumption|exact kit_int_int|exact kit_int_bool|exact qgz
 |exact kit_str_str|exact kit_lst_lst|exact kit_tup_tup|exact kit_dct_dct)))
local macro_rules | `(tactic| walk_at "ty") => `(tactic| (first
 |(with_reducible assumption) |(with_reducible exact TyOf.int _) |(with_reducible exact TyOf.bl _) |(with_reducible exact TyOf.str _)
 |(with_reducible exact TyOf.non) |((with_reducible refine' TyOf.tup ?h);(case h=>walk_at "heap")) |((with_reducible refine' TyOf.lst ?h);(case h=>walk_at "heap")) |((with_reducible refine' TyOf.dK ?h);(case h=>walk_at "heap"))))
local macro_rules | `(tactic| walk_at "heap") => `(tactic| first
 |with_reducible assumption|with_reducible exact qa1|((with_reducible refine' qaa ?h ?n);(case n=>with_reducible assumption);(case h=>walk_at "heap")))
local macro_rules | `(tactic| walk_at "sqL") => `(tactic| first
 |with_reducible assumption|((with_reducible refine' sqL_new ?h ?n);(case n=>with_reducible assumption);(case h=>walk_at "sqL")) |((with_reducible refine' SqL.of ?h);(case h=>walk_at "heap")))
local macro_rules | `(tactic| walk_at "sqT") => `(tactic| first
 |with_reducible assumption|((with_reducible refine' SqT.of ?h);(case h=>walk_at "heap")))
local macro_rules | `(tactic| walk_at "side") => `(tactic| first
 |assumption|exact rfl|omega|decide
 |(simp only[zR,yK,zA];omega) |exact⟨↑∅,↑∅⟩|exact⟨∅,∅⟩|exact⟨↑∅,by assumption⟩
 |exact⟨by assumption,by assumption⟩|exact⟨∅,by assumption⟩|exact⟨∅,∅,∅⟩)
local macro_rules | `(tactic| walk_at "size") => `(tactic| (first
 |assumption|(simp only[zR,yK,zA,zS];first|decide|(show _<=16777216;omega) |(show _<16777216;omega)) |(show _<=16777216;omega) |(show _<16777216;omega)))
local macro_rules | `(tactic| walk_at "sp") => `(tactic| fail)
local macro_rules | `(tactic| walk_at "r1") => `(tactic| first
 |(with_reducible refine r_var (by with_unfolding_all exact rfl) ?_) |(with_reducible first|refine r_c ?_|refine r_op ?_|refine r_un ?_|refine r_I0 ?_|refine r_U ?_) |((with_reducible refine r_I ?hc ?_);(case hc=>walk_at "side")) |(with_reducible first|refine r_eqI ?_|refine r_neI ?_|refine r_neS ?_|refine r_exb ?_|refine r_test ?_|refine r_tB ?_|refine r_and ?_|refine r_or ?_|refine r_not ?_|refine r_andV ?_|refine r_notV ?_|refine r_ifE ?_|refine r_next ?_|refine r_seq ?_|refine r_drop ?_|refine r_ret ?_|refine r_if ?_|refine r_asg ?_)
 |(with_reducible refine r_name (by with_unfolding_all (simp only [List.set];exact rfl)) ?_) |(with_reducible first|refine r_gnil ?_|refine r_gcons ?_) |((with_reducible refine' r_gtup ?s ?n ?_);(case s=>walk_at "sqT");(case n=>exact rfl)) |(with_reducible first|refine r_for ?_|refine r_iL ?_|refine r_iR ?_)
 |((with_reducible refine' r_itL ?s ?_);(case s=>walk_at "sqL")) |((with_reducible refine' r_itR ?s ?t ?_);(case s=>walk_at "side");(case t=>walk_at "side")) |(with_reducible first|refine r_par ?_|refine r_two ?_|refine r_nx ?_|refine r_rt ?_|refine r_nil ?_|refine r_cons ?_|refine r_tup ?_|refine r_lst ?_) |((with_reducible refine r_new ?n ?_);(case n=>(simp only [zR,yK];decide)))
 |((with_reducible refine r_fresh ?_);intro p hp) |(with_reducible first|refine r_call ?_|refine r_callX ?_|refine r_cb ?_|refine r_raise ?_) |((with_reducible refine' r_ixT ?s ?e ?_);(case s=>walk_at "sqT");(case e=>exact rfl)) |(with_reducible first|refine r_comp ?_|refine r_true ?_|refine r_iS ?_|refine r_itS ?_|refine r_inS ?_)
 |((with_reducible refine' r_app ?a ?z ?_);(case a=>walk_at "heap");(case z=>walk_at "size")) |((with_reducible refine' r_catS ?z ?_);(case z=>walk_at "size")) |((with_reducible refine' r_lenS ?z ?_);(case z=>walk_at "size")) |(with_reducible first|refine r_sl ?_|refine r_noPart ?_|refine r_part ?_|refine r_exi ?_|refine r_chain ?_)
 |((with_reducible refine' r_lenT ?s ?_);(case s=>walk_at "sqT")) |((with_reducible refine' r_lenL ?s ?_);(case s=>walk_at "sqL")) |(with_reducible first|refine r_abs ?_|refine r_isNn ?_|refine r_isNr ?_|refine r_isNs ?_|refine r_notNn ?_|refine r_notNi ?_|refine r_isTb ?_) |((with_reducible refine' r_isi ?t ?k ?_);(case t=>walk_at "ty");(case k=>walk_at "kit"))
 |(with_reducible first|refine i_nT ?_|refine i_nF ?_|refine iteT ?_|refine iteF ?_) |((with_reducible refine i_t ?c ?_);(case c=>walk_at "side")) |((with_reducible refine i_f ?c ?_);(case c=>walk_at "side")) |((with_reducible refine i_nt ?c ?_);(case c=>walk_at "side"))
 |((with_reducible refine i_nf ?c ?_);(case c=>walk_at "side")) |walk_at "sp")
local macro_rules | `(tactic| walk_at "g") => `(tactic| repeat walk_at "r1")
local macro_rules|`(tactic|left)=>`(tactic|walk_at "g")
local macro_rules|`(~~~$x)=>`(qal qao (pv $x) qa6 fun _ _=>rfl)
set_option hygiene false in
local macro_rules|`($x|||$y)=>`(qan (qat hr) $x $y fun _ _=>rfl)
local macro_rules|`(#[()])=>`(⟨rfl,rfl,rfl,by decide+kernel,rfl,by decide+kernel,by decide+kernel⟩)|`(#[])=>`(by omega)|`(#[$x])=>`(qa0 $x qa3)|`(#[$x,$y,*])=>`(qa0 $x #[$y,*])
set_option hygiene false in
local macro_rules|`(tactic|exists $x)=>`(tactic|refine $x (fun vs H Q E h=>?_) (fun cdv A outer s H vs Q E hr h=>?_))|`(tactic|exists $x,$y)=>`(tactic|(refine⟨_,$x,?_⟩;walk_at "d";refine qac (σ:=$y) rfl ?_))
set_option hygiene false in
local macro_rules|`(tactic|right)=>`(tactic|first|(obtain⟨_,rfl,_⟩:=h;rfl)|(obtain⟨_,_,rfl,_⟩:=h;rfl)|(obtain⟨_,_,_,rfl,_⟩:=h;rfl)|(obtain⟨_,_,_,_,rfl,_⟩:=h;rfl)|(obtain⟨_,_,_,_,_,rfl,_⟩:=h;rfl)|(obtain⟨_,_,_,_,_,_,rfl,_⟩:=h;rfl)|(obtain⟨_,_,_,_,_,_,_,rfl,_⟩:=h;rfl)|(obtain⟨_,_,_,_,_,_,_,_,_,rfl,_⟩:=h;rfl)|(obtain⟨_,_,_,_,_,_,_,_,_,_,rfl,_⟩:=h;rfl)|(obtain⟨_,_,_,_,_,_,_,_,_,_,_,rfl,_⟩:=h;rfl)|(obtain⟨_,_,_,_,_,_,_,_,_,_,_,_,rfl,_⟩:=h;rfl)|(obtain⟨_,_,_,_,_,_,_,_,_,_,_,_,_,rfl,_⟩:=h;rfl)|(obtain⟨_,_,_,_,_,_,_,_,_,_,_,_,_,_,rfl,_⟩:=h;rfl)|(obtain⟨_,_,_,_,_,_,_,_,_,_,_,_,_,_,_,rfl,_⟩:=h;rfl)|(obtain⟨_,_,_,_,_,_,_,_,_,_,_,_,_,_,_,_,rfl,_⟩:=h;rfl)|(obtain⟨_,_,_,_,_,_,_,_,_,_,_,_,_,_,_,_,_,rfl,_⟩:=h;rfl)|(obtain⟨_,_,_,_,_,_,_,_,_,_,_,_,_,_,_,_,_,_,rfl,_⟩:=h;rfl))
local macro_rules | `(tactic| walk_at "d") => `(tactic| try dsimp only [L2.cxOf, L2.Cx.nox, L2.Cx.wish, My.xw, pnd, suite])
local macro_rules | `(tactic| walk_at "rd") => `(tactic| first
 |with_reducible assumption|((with_reducible refine' rd_new ?h ?n);(case n=>with_reducible assumption);(case h=>walk_at "rd")) |((with_reducible refine' Rd.of ?h);(case h=>walk_at "heap")))
local macro_rules | `(tactic| walk_at "same") => `(tactic| first
 |with_reducible assumption|exact Same.refl _|((with_reducible refine' same_upd ?h ?n);(case n=>with_reducible assumption);(case h=>walk_at "same")))
local macro_rules | `(tactic| walk_at "sp") => `(tactic| first
 |((with_reducible refine r_disp1 ?_);intro p hp) |((with_reducible refine' r_ds ?e ?_);(case e=>walk_at "heap")) |((with_reducible refine' r_glst ?s ?n ?_);(case s=>walk_at "sqL");(case n=>exact rfl)) |((with_reducible refine' u_amount ?r ?a ?_);(case r=>walk_at "rd");(case a=>with_reducible assumption))
 |(with_reducible first|refine r_intB ?_|refine r_neB ?_) |((with_reducible refine' qce ?s ?e ?_);(case s=>walk_at "sqL");(case e=>exact rfl)) |(with_reducible refine r_dg2 ?_) |((with_reducible refine' r_dg2a ?r ?_);(case r=>walk_at "rd"))
 |((with_reducible refine' r_dg2b ?r ?a ?_);(case r=>walk_at "rd");(case a=>with_reducible assumption)) |(with_reducible refine r_dg ?_) |((with_reducible refine' r_dgk ?r ?a ?e ?_);(case r=>walk_at "rd");(case a=>with_reducible assumption);(case e=>with_reducible assumption)) |(with_reducible refine r_dp ?_)
 |((with_reducible refine' r_dpk ?e ?z ?_);(case e=>walk_at "heap");(case z=>walk_at "size")) |((with_reducible refine r_dnew ?_);intro p hp) |(with_reducible first|refine r_thA ?_|refine r_iD ?_) |((with_reducible refine' r_dictCp ?e ?_);(case e=>walk_at "rd");intro p hp)
 |(with_reducible first|refine r_iZ ?_|refine r_mtX ?_) |((with_reducible refine' r_mtkX ?e ?l ?_);(case e=>walk_at "heap");(case l=>exact rfl)) |(with_reducible refine r_mkX ?_) |((with_reducible refine' r_mtk ?e ?l ?_);(case e=>walk_at "heap");(case l=>exact rfl))
 |(with_reducible first|refine r_notNs ?_|refine r_di ?_) |((with_reducible refine' r_diO ?r ?_);(case r=>walk_at "rd")) |(with_reducible first|refine r_mk ?_|refine r_mt ?_|refine r_fl ?_|refine r_fs ?_) |((with_reducible refine' r_flk ?e ?c ?n ?l ?_);(case e=>walk_at "heap");(case c=>with_reducible assumption);(case n=>with_reducible assumption);(case l=>exact rfl))
 |((with_reducible refine' qec ?e ?c ?n ?z ?_);(case e=>walk_at "heap");(case c=>with_reducible assumption);(case n=>with_reducible assumption);(case z=>(show _ < 1000;decide))) |(with_reducible first|refine r_bm ?_|refine r_bm0 ?_) |((with_reducible refine' r_tyL ?s ?_);(case s=>walk_at "sqL")) |((with_reducible refine' r_tyD ?s ?_);(case s=>walk_at "heap"))
 |((with_reducible refine' r_append ?h ?z ?_);(case h=>walk_at "heap");(case z=>walk_at "size")))
def wdm:FnScope ["thing"] ["thing"] (qa8 s_is_whole):=#[()]
def weg:FnScope ["thing"] ["thing"] (qa8 s_is_name):=#[()]
def w8s:FnScope ["thing","least","most"] ["thing","least","most"] (qa8 s_is_whole_from):=#[()]
def wbv:FnScope ["thing"] ["thing"] (qa8 s_is_amount):=#[()]
def w4c:FnScope ["handed","wares","key","ware"] ["handed","wares"] (qa8 s_amounts_of):=#[()]
def w3k:FnScope ["amounts","told","ware"] ["amounts"] (qa8 s_above_nought):=#[()]
def wbh:FnScope ["amounts","ware"] ["amounts","ware"] (qa8 s_amount_of):=#[()]
def wap:FnScope ["one","other","told","ware"] ["one","other"] (qa8 s_added):=#[()]
def wbr:FnScope ["one","other","ware"] ["one","other"] (qa8 s_beyond):=#[()]
def w4k:FnScope ["many","total","amounts"] ["many"] (qa8 s_total_of):=#[()]
def w35:FnScope ["one","other","great","small","rest"] ["one","other"] (qa8 s_divisor):=#[()]
def w6e:FnScope ["top","bottom","shared"] ["top","bottom"] (qa8 s_fraction):=#[()]
def wi3:FnScope ["one","other"] ["one","other"] (qa8 s_plus):=#[()]
def wgz:FnScope ["one","other"] ["one","other"] (qa8 s_minus):=#[()]
def wgp:FnScope ["one","other"] ["one","other"] (qa8 s_times):=#[()]
def wf5:FnScope ["one","other"] ["one","other"] (qa8 s_divided):=#[()]
def wgt:FnScope ["one","other"] ["one","other"] (qa8 s_below):=#[()]
def w4j:FnScope ["tree","wants","weigh","weights","name"] ["tree","wants","weigh"] (qa8 s_weights_of):=#[()]
def w4i:FnScope ["tree","weights","waiting","loads","name","house"] ["tree","weights","waiting"] (qa8 s_loads_of):=#[()]
def w4q:FnScope ["many","least","one"] ["many"] (qa8 s_least_of):=#[()]
def w5m:FnScope ["tree","rooms","wants","weights","dealing","told"] ["tree","rooms","wants","weights"] (qa8 s_rounds_by):=#[()]
def w4m:FnScope ["tree","rooms","wants","weigh","weights","shares","level_names","name","sums","told","paper"] ["tree","rooms","wants","weigh"] (qa8 s_even):=#[()]
def wdq:FnScope ["share","want"] ["share","want"] (qa8 s_is_share):=#[()]
def wd6:FnScope ["sums","row","want"] ["sums","row","want"] (qa8 s_is_paper):=#[()]
def w5w:FnScope ["tree","rooms","wants","dealt","weigh","shares","row","sums"] ["tree","rooms","wants","dealt","weigh"] (qa8 s_is_even):=#[()]
def wbk:FnScope ["thing"] ["thing"] (qa8 s_are_wares):=#[()]
def wau:FnScope ["thing"] ["thing"] (qa8 s_check_name):=#[()]
def w4l:FnScope ["wares","elder","promise","cap","weight","own_promise","own_cap"] ["wares","elder","promise","cap","weight"] (qa8 s_read_house):=#[()]
def w41:FnScope ["name","promises","cap","ware"] ["name","promises","cap"] (qa8 s_check_promises):=#[()]
def wex:FnScope ["_law_script","_law_k"] ["_law_script","_law_k"] (qa8 s_cell_at):=#[()]
def we2:FnScope ["_law_cell","_law_k","_law_number"] ["_law_cell","_law_k"] (qa8 s_mixed):=#[()]
def w4n:FnScope ["_law_cell","_law_k","_law_letters","_law_size","_law_at","_law_name_here","_law_j","_law_step","_law_place"] ["_law_cell","_law_k"] (qa8 s_name):=#[()]
def wgu:FnScope ["_law_found"] ["_law_found"] (qa8 s_whole):=#[()]
def wie:FnScope ["_law_number","_law_scale"] ["_law_number","_law_scale"] (qa8 s_want):=#[()]
def whv:FnScope ["_law_number","_law_scale"] ["_law_number","_law_scale"] (qa8 s_room):=#[()]
def w16:FnScope ["_law_script","_law_count","_law_scale","_law_names","_law_elders","_law_weights","_law_wants","_law_rooms","_law_k","_law_cells","_law_number"] ["_law_script","_law_count"] (qa8 s_sharing):=#[()]
def w5p:FnScope ["_law_script","_law_sharing_here","_law_names","_law_elders","_law_weights","_law_wants","_law_rooms","_law_tree_here","_law_k"] ["_law_script","_law_sharing_here"] (qa8 s_tree):=#[()]
def wb3:FnScope ["_law_elders","_law_k","_law_some","_law_at"] ["_law_elders","_law_k"] (qa8 s_line):=#[()]
def w47:FnScope ["_law_sharing_here","_law_at","_law_names","_law_elders","_law_weights","_law_wants","_law_rooms"] ["_law_sharing_here","_law_at"] (qa8 s_inside):=#[()]
def w1y:FnScope ["_law_shares","_law_some","_law_top","_law_bottom","_law_name_here","_law_share"] ["_law_shares","_law_some"] (qa8 s_together):=#[()]
def whu:FnScope ["_law_one","_law_other"] ["_law_one","_law_other"] (qa8 s_less):=#[()]
def w2m:FnScope ["_law_script","_law_sharing_here","_law_names","_law_elders","_law_weights","_law_wants","_law_rooms","_law_others","_law_name_here","_law_table"] ["_law_script","_law_sharing_here"] (qa8 s_asked):=#[()]
def w8i:FnScope ["_law_one","_law_other"] ["_law_one","_law_other"] (qa8 s_l_divisor):=#[()]
def wa7:FnScope ["_law_found"] ["_law_found"] (qa8 s_is_fraction):=#[()]
def w6b:FnScope ["_law_found","_law_wants","_law_row","_law_name_here"] ["_law_found","_law_wants"] (qa8 s_is_dealt):=#[()]
def w3w:FnScope ["_law_sharing_here","_law_shares","_law_name_here","_law_at","_law_names","_law_elders","_law_weights","_law_wants","_law_rooms","_law_inside_here","_law_together_here","_law_other","_law_share"] ["_law_sharing_here","_law_shares","_law_name_here","_law_at"] (qa8 s_ends):=#[()]
def w1e:FnScope ["_law_sharing_here","_law_dealt","_law_names","_law_elders","_law_weights","_law_wants","_law_rooms","_law_shares","_law_row","_law_at","_law_name_here","_law_share","_law_paper"] ["_law_sharing_here","_law_dealt"] (qa8 s_let_by):=#[()]
def w3n:FnScope ["_law_sharing_here","_law_dealt","_law_cell","_law_stranger","_law_some","_law_found","_law_k","_law_row","_law_number","_law_paper"] ["_law_sharing_here","_law_dealt","_law_cell","_law_stranger"] (qa8 s_drawn):=#[()]
def w0a:FnScope ["_law_sharing_here","_law_dealt","_law_names","_law_elders","_law_weights","_law_wants","_law_rooms","_law_shares","_law_row","_law_found","_law_name_here","_law_share","_law_paper","_law_at"] ["_law_sharing_here","_law_dealt"] (qa8 s_farthest):=#[()]
def w7g:FnScope ["_law_dealt","_law_cell","_law_stranger","_law_at","_law_row"] ["_law_dealt","_law_cell","_law_stranger"] (qa8 s_spoiled):=#[()]
def w2p:FnScope ["_law_script","_law_sharing_here","_law_names","_law_elders","_law_weights","_law_wants","_law_rooms","_law_tree_here","_law_weigh","_law_stranger","_law_dealt","_law_cell","_law_handed","_law_kept","_law_told","_law_own"] ["_law_script"] (qa8 s_law):=#[()]
def wao:FnScope ["self","elder","promise","cap","weight"] ["self","elder","promise","cap","weight"] (qa8 s_House_init):=#[()]
def w8f:FnScope ["self","wares","name","promise","cap","weight","house"] ["self","wares","name","promise","cap","weight"] (qa8 s_Tree_init):=#[()]
def w4a:FnScope ["self","name","elder","promise","cap","weight","house","elders"] ["self","name","elder","promise","cap","weight"] (qa8 s_Tree_found):=#[()]
def wd7:FnScope ["self","thing"] ["self","thing"] (qa8 s_Tree_has):=#[()]
def w6m:FnScope ["self","thing"] ["self","thing"] (qa8 s_Tree_check_house):=#[()]
def w8t:FnScope ["self","name"] ["self","name"] (qa8 s_Tree_house_of):=#[()]
def w8q:FnScope ["self","name"] ["self","name"] (qa8 s_Tree_elder_of):=#[()]
def w7l:FnScope ["self","name"] ["self","name"] (qa8 s_Tree_weight_of):=#[()]
def wc5:FnScope ["self","name"] ["self","name"] (qa8 s_Tree_kids):=#[()]
def w3p:FnScope ["self","name","told","elder"] ["self","name"] (qa8 s_Tree_line):=#[()]
def w3c:FnScope ["self","name","told","kid"] ["self","name"] (qa8 s_Tree_beneath):=#[()]
def w43:FnScope ["self","name"] ["self","name"] (qa8 s_Tree_promised_beneath):=#[()]
def w3q:FnScope ["self","names","more","name"] ["self","names","more"] (qa8 s_Tree_check_more):=#[()]
def w3a:FnScope ["self","tree","rooms","wants","weights","house","name"] ["self","tree","rooms","wants","weights"] (qa8 s_Dealing_init):=#[()]
def w1s:FnScope ["self","loads","told","house"] ["self"] (qa8 s_Dealing_fills):=#[()]
def w1u:FnScope ["self","level","fills","told","name","levels"] ["self","level","fills"] (qa8 s_Dealing_ready):=#[()]
def w1k:FnScope ["self","level","names","name","share","house"] ["self","level","names"] (qa8 s_Dealing_settle):=#[()]
def w0q:FnScope ["self","fills","level","names"] ["self"] (qa8 s_Dealing_next_round):=#[()]
def w3m:FnScope ["self","tree","rooms","shares","weights","name","level","house"] ["self","tree","rooms","shares","weights"] (qa8 s_Sums_init):=#[()]
def w60:FnScope ["self"] ["self"] (qa8 s_Sums_within_rooms):=#[()]
def w1v:FnScope ["self","name","told","house","is_full"] ["self","name"] (qa8 s_Sums_stops_of):=#[()]
variable{P:uY}{w:vL}{K:uS}{mg:Str->Option uB}{base:vQ}{d:Ad}(T:Tx K mg d)
include T in
theorem w92:FnOk P w K mg base CX0 1 d.w7p d.w6a ["self","thing"] (wcr K d):=by
 exists T.wew.ok wd7
 .right
 obtain⟨t,S,x,rfl,hT,hx,q⟩:=h;exists qa5 (qad (qej (qag qbm rfl T.w07 vE #[pv 1,qca (v:=.ty "str") rfl T.wgx bC rfl]) (qei (pe_cmp (pc_din (qat hr) (pv 1) (qau (pv 0) rfl)))))),[sr t,some (x)];obtain⟨⟨dx,ht⟩,hw,hh,nd,hz,hE⟩:=hT;have ct:=T.w03;have nh:qap K d.w01 "houses":=T.w04;rcases hx with⟨z,rfl⟩|⟨⟨ty,ht1,ht2⟩,nz⟩
 .left;rw[qe5,aU];exact q
 .left;rw[qdh nz] at q;exact q
include T in
theorem w21:FnOk P w K mg base (My.CX1 P w) 2 d.w2c d.w20 ["self","thing"] (w66 K d):=by
 exists okX T.w71 w6m
 .right
 obtain⟨t,S,x,rfl,hT,hx,q1,q2⟩:=h;exists qa5 (qb4 (qbz (qbg (pe_meth (pv 0) T.w03 T.w2i ((w92 T).mono ∅) hr T.wam .nil qay #[pv 1]))) (qa5 (qc9 rfl T.wfx rfl T.wfc qaq #[qd2])) qak),[sr t,some (x)];have hT0:=hT;obtain⟨⟨dx,ht⟩,hw,hh,nd,hz,hE⟩:=hT;have ct:=T.w03;have nh:qap K d.w01 "houses":=T.w04;left;refine⟨t,S,x,rfl,hT0,hx,?_⟩
 cases hw':who S x with
 |none=>
  left;show if(!false)=true then _ else _
  left;exact q2 hw'
 |some e=>
  left;exact q1 e hw'
include T in
theorem w4s:FnOk P w K mg base (My.CX1 P w) 3 d.w3h d.w2v ["self","name"] (w8r K d):=by
 exists okX T.w9q w8t
 .right
 obtain⟨t,S,x,rfl,hT,hx,q1,q2⟩:=h;exists (qa2 (qbn (qb1 (pv 0) T.w03 T.w08 ((w21 T).mono ∅) hr T.w28 .nil qaq #[pv 1]))
  (qa5 (qad (qau (pv 0) rfl|||pv 1)))),[sr t,some (x)];have hT0:=hT;obtain⟨⟨dx,ht⟩,hw,hh,nd,hz,hE⟩:=hT;have ct:=T.w03;have nh:qap K d.w01 "houses":=T.w04;left;refine⟨t,S,x,rfl,hT0,hx,fun e he=>?_,q2⟩;have hz':∃z,x=.str z:=by
  rcases hx with h|⟨_,nz⟩
  .exact h
  .rw[qdh nz] at he;cases he
 obtain⟨z,rfl⟩:=hz';left;refine qgt (.inl hh) (h:=e.a) (by rw[qe5];show(S.at z).map _=_;rw[show S.at z=some e from he];rfl) ?_;left;exact q1 e he
include T in
theorem w4r:FnOk P w K mg base (My.CX1 P w) 4 d.w3j d.w2w ["self","name"] (w8k K d):=by
 exists okX T.w9s w8q
 .right
 obtain⟨t,S,x,rfl,hT,hx,q1,q2⟩:=h;exists qa5 (qad (qau (qb1 (pv 0) T.w03 T.w0n ((w4s T).mono ∅) hr T.w5a .nil qaq #[pv 1]) rfl)),[sr t,some (x)];have hT0:=hT;obtain⟨⟨dx,ht⟩,hw,hh,nd,hz,hE⟩:=hT;have ct:=T.w03;have nh:qap K d.w01 "houses":=T.w04;left;refine⟨t,S,x,rfl,hT0,hx,fun e he=>?_,q2⟩;obtain⟨z,rfl⟩:∃z,x=.str z:=by
  rcases hx with h|⟨_,nz⟩
  .exact h
  .rw[qdh nz] at he;cases he
 obtain⟨⟨dh,ho⟩,hp,hpA,hc,hcA⟩:=hE e (qd7 he).1;have ch:=T.w1t;have nf:qap K d.w06 "elder":=T.w0u;have hRp:Rd H e.x.pa (.dK e.x.kp):=.inl hp;have hRc:Rd H e.x.ca (.dK e.x.kc):=.inl hc;left;exact q1 e he
include T in
theorem w7h:FnOk P w K mg base (My.CX1 P w) 4 d.w2u d.w2f ["self","name"] (w7i K d):=by
 exists okX T.w8m w7l
 .right
 obtain⟨t,S,x,rfl,hT,hx,q1,q2⟩:=h;exists qa5 (qad (qau (qb1 (pv 0) T.w03 T.w0n ((w4s T).mono ∅) hr T.w5a .nil qaq #[pv 1]) rfl)),[sr t,some (x)];have hT0:=hT;obtain⟨⟨dx,ht⟩,hw,hh,nd,hz,hE⟩:=hT;have ct:=T.w03;have nh:qap K d.w01 "houses":=T.w04;left;refine⟨t,S,x,rfl,hT0,hx,fun e he=>?_,q2⟩;obtain⟨z,rfl⟩:∃z,x=.str z:=by
  rcases hx with h|⟨_,nz⟩
  .exact h
  .rw[qdh nz] at he;cases he
 obtain⟨⟨dh,ho⟩,hp,hpA,hc,hcA⟩:=hE e (qd7 he).1;have ch:=T.w1t;have nf:qap K d.w06 "weight":=T.w0z;have hRp:Rd H e.x.pa (.dK e.x.kp):=.inl hp;have hRc:Rd H e.x.ca (.dK e.x.kc):=.inl hc;left;exact q1 e he
include T in
theorem w88:FnOk P w K mg base CX0 1 d.w6k d.w52 ["amounts","ware"] (sp_amount_of K d):=by
 exists T.w6c.ok wbh
 .right
 obtain⟨a,kvs,f,z,rfl,hR,hA,q⟩:=h;exists qa5 (qad (qff (qat hr) (pv 0) (pv 1) qa6 ⟨rfl,rfl,rfl,rfl⟩)),[sr a,some (.str z)];left;exact q
include T in
theorem w9b:FnOk P w K mg base CX0 1 d.w3s d.w3d ["amounts"] (w93 K d):=by
 exists T.w62.ok w3k
 .right
 obtain⟨a,kvs,f,rfl,hH,hA,hz,q⟩:=h;exists (qa2 (qae (i:=1) w3k.nd rfl (uF rfl) qb3)
  (qa2 (qeg (qb0 vH rfl (qcp (pv 0)) (qab (i:=2) w3k.nd rfl (uF rfl)) (qa5 (qdc (qb4 (qai qft (pv 0|||pv 2) qa6 (qar _)) (qa5 (qbh (qat hr) (pv 1) (pv 2) (pv 0|||pv 2) rfl)) qak)))))
  (qa5 (qad (pv 1))))),[sr a,none,none];left;rename_i l hl;have ea:=qaa (o':=.dK []) hH hl;have nla:l≠a:=(qa9 hH hl).symm;refine qfq ea fun o=>?_;refine qet (fun i σ H'=>∃(k':List (Key×V))(w:Option V),σ=[sr a,sr l,w]/\SameBut a H H'/\H' a=some (.frz o (.dK kvs))/\H' l=some (.dK k')/\k'.length<=i/\AD k' (fun y=>if y∈(qc2 kvs).take i then qdi f y else none))
  ⟨[],none,rfl,SameBut.at (SameBut.of (qa4 hl _)),qa1,by rw[qa7 nla];exact qa1,uG _,AD.nil.cast fun z=>by simp[noF]⟩ ?_ ?_ ?_
 .rintro i σ H' _ ⟨k',w,rfl,sb,fz,hl',_⟩;exact fz
 .rintro i k v σ H' hk ⟨k',w,rfl,sb,fz,hl',hlen,hA'⟩;obtain⟨z,n,rfl,rfl,hf,hzi⟩:=hA.at hk;have hi:i<kvs.length:=(uL.mp hk).1;have hRd:Rd H' a (.dK kvs):=.inr ⟨o,fz⟩;show qer _ (.str z) _ _ _;left;refine qdy ?_;left;refine i_2 (fun c=>?_) (fun c=>?_)
  .left;refine⟨_,_,rfl,?_,by rw[qa7 nla.symm];exact fz,qa1,?_,(hA'.put z n).cast fun y=>?_⟩
   .exact sb_put sb hl
   .have:=qaz k' (uH z) (.int n);omega
   .exact step_put hzi (qdi f) (fun _=>none) (by unfold qdi;rw[hf];exact gJ c) y
  .left;refine⟨_,_,rfl,sb,fz,hl',#[],hA'.cast fun y=>?_⟩;exact step_no hzi (qdi f) (fun _=>none) (by unfold qdi;rw[hf];exact gI c) y
 .rintro σ H' ⟨k',w,rfl,sb,fz,hl',_,hA'⟩;refine qeb (qfm fz (qcd hH)) ?_;left;refine q l k' _ (qd1 hH sb) hl (by rw[qa7 nla];exact hl') (hA'.cast fun y=>?_);exact step_end hA (qdi f) (fun _=>none) (fun y e=>by unfold qdi;rw[e]) y
include T in
theorem web:FnOk P w K mg base CX0 2 d.wd5 d.wav ["one","other"] (sp_added K d):=by
 exists T.wcz.ok wap
 .right
 obtain⟨a,b,ka,kb,f,g,rfl,hRa,hb,hA,hB,za,zb,q⟩:=h;exists (qa2 (qae (i:=2) wap.nd rfl (uF rfl) (qb7 qbt rfl T.w4v vW #[pv 0]))
  (qa2 (qeg (qb0 vH rfl (qcp (pv 1)) (qab (i:=3) wap.nd rfl (uF rfl)) (qa5 (qbh (qat hr) (pv 2) (pv 3) (qah qbx (qaf ((w88 T).mono ∅) hr rfl T.w96 T.w6c.kp T.w9f .nil qay #[pv 0,pv 3]) (pv 1|||pv 3)) rfl))))
  (qa5 (qad (pv 2))))),[sr a,sr b,none,none];left;rename_i l hl;have eb:=qaa (o':=.dK ka) hb hl;have nlb:l≠b:=(qa9 hb hl).symm;refine qfq eb fun o=>?_;refine qet (fun i σ H'=>∃(k':List (Key×V))(w:Option V),σ=[sr a,sr b,sr l,w]/\SameBut b H H'/\H' b=some (.frz o (.dK kb))/\H' l=some (.dK k')/\k'.length<=1000+i/\AD k' (fun y=>if y∈(qc2 kb).take i then qh6 f g y else f y))
  ⟨ka,none,rfl,SameBut.at (SameBut.of (qa4 hl _)),qa1,by rw[qa7 nlb];exact qa1,#[],hA.cast fun z=>by simp⟩ ?_ ?_ ?_
 .rintro i σ H' _ ⟨k',w,rfl,sb,fz,hl',_⟩;exact fz
 .rintro i k v σ H' hk ⟨k',w,rfl,sb,fz,hl',hlen,hA'⟩;obtain⟨z,n,rfl,rfl,hf,hzi⟩:=hB.at hk;have hi:i<kb.length:=(uL.mp hk).1;have hRb:Rd H' b (.dK kb):=.inr ⟨o,fz⟩;have hRa':Rd H' a (.dK ka):=rd_in hRa hb sb fz;show qer _ (.str z) _ _ _;left;refine⟨_,_,rfl,sb_put sb hl,by rw[qa7 nlb.symm];exact fz,qa1,?_,(hA'.put z _).cast fun y=>?_⟩
  .have:=qaz k' (uH z) (.int (gN f z+n));omega
  .exact step_put hzi (qh6 f g) f (by unfold qh6;rw[hf]) y
 .rintro σ H' ⟨k',w,rfl,sb,fz,hl',_,hA'⟩;refine qeb (qfm fz (qcd hb)) ?_;left;refine q l k' _ (qd1 hb sb) hl (by rw[qa7 nlb];exact hl') (hA'.cast fun y=>?_);exact step_end hB (qh6 f g) f (fun y e=>by unfold qh6;rw[e]) y
include T in
theorem wfq:FnOk P w K mg base CX0 2 d.waz d.w9n ["one","other"] (sp_beyond K d):=by
 exists T.we0.ok wbr
 .right
 obtain⟨a,b,ka,kb,f,g,rfl,hRa,hRb,hA,hB,za,qn,qs⟩:=h;exists (qa2 (qb0 vH rfl (qaw (qag (qcc rfl) rfl T.w33 wB #[pv 0])) (qab (i:=2) wbr.nd rfl (uF rfl)) (qa5 (qb4 (qai qft (pv 0|||pv 2) (qaf ((w88 T).mono ∅) hr rfl T.w96 T.w6c.kp T.w9f .nil qay #[pv 1,pv 2]) (qar _)) (qa5 (qad (pv 2))) qak)))
  (qa5 (qad qck))),[sr a,sr b,none];left;refine qe3 hRa hA.keys (by rw[hA.klen];exact za) fun l ss hl hp hs=>?_;have pw:=qfo hs;have hin:∀y,y∈ss↔f y≠none:=fun y=>(hp.mem_iff).trans (hA.kin y);left;have sm:=qa4 hl (.lst (ss.map V.str));have hRa':=rd_new hRa hl (u:=.lst (ss.map V.str));have hRb':=rd_new hRb hl (u:=.lst (ss.map V.str));refine qbs (xs:=ss.map V.str) (fun i σ H'=>H'=upd H l (.lst (ss.map V.str))/\(∃w,σ=[sr a,sr b,w])/\∀j y,j<i->ss[j]?=some y->¬viol f g y) ⟨rfl,⟨_,rfl⟩,fun j y hj=>absurd hj (bQ j)⟩ ?_ ?_ ?_
 .rintro i σ H' _ ⟨rfl,_⟩;exact SqL.of qa1
 .rintro i v σ H' hv ⟨rfl,⟨w,rfl⟩,hno⟩;rw[zC] at hv;obtain⟨z,hz,rfl⟩:=uI.mp hv;have hfz:=(hin z).mp (zF hz);obtain⟨n,hn⟩:∃n,f z=some n:=by
   cases e:f z with
   |none=>exact absurd e hfz
   |some n=>exact⟨n,rfl⟩
  have gz:gN f z=n:=by unfold gN;rw[hn];rfl
  left;refine i_2 (fun c=>?_) (fun c=>?_)
  .left;refine qs z _ sm ⟨hfz,by rw[gz];exact c⟩ fun y hy=>?_;obtain⟨j,hj,e⟩:=zU.mp ((hin y).mpr hy.1);have hji:i<=j:=by
    rcases bW j i with h|h
    .exact absurd hy (hno j y h (by rw[zB hj,e]))
    .exact h
   obtain⟨hi,ez⟩:=uL.mp hz;rcases Nat.eq_or_lt_of_le hji with h|h
   .subst h;rw[ez] at e;subst e;exact leS_refl _
   .have:=aB.mp pw i j hi hj h;rw[ez,e] at this;exact this
  .left;refine⟨rfl,⟨_,rfl⟩,fun j y hj hy=>?_⟩;rcases bW j i with h|h
   .exact hno j y h hy
   .have e:j=i:=by omega
    subst e;rw[hz] at hy
    cases hy
    exact fun hv=>c (by have:=hv.2;rw[gz] at this;exact this)
 .rintro σ H' ⟨rfl,⟨w,rfl⟩,hno⟩;left;refine qn _ sm fun y hy=>?_;obtain⟨j,hj,e⟩:=zU.mp ((hin y).mpr hy.1);exact hno j y (by rw[zA];exact hj) (by rw[zB hj,e]) hy
theorem sum_sup{ts:List Pt}(h:∀t∈ts,∀z,t.f z≠none->z∈ws):∀f0:Str->Option Int,(∀z,f0 z≠none->z∈ws)->∀z,ts.foldl (fun f t=>qh6 f t.f) f0 z≠none->z∈ws:=by
 induction ts with
 |nil=>intro f0 h0 z hz;exact h0 z hz
 |cons t ts ih=>intro f0 h0 z hz;exact ih (fun t' ht=>h t' (zD _ ht)) (qh6 f0 t.f) (addF_sup h0 (h t (zG ..))) z hz
include T in
theorem wds:FnOk P w K mg base CX0 3 d.w7j d.w64 ["many"] (wdw K d):=by
 exists T.wak.ok w4k
 .right
 obtain⟨L,ts,ws,rfl,hS,hw,hts,q⟩:=h;exists (qa2 (qae (i:=1) w4k.nd rfl (uF rfl) qb3)
  (qa2 (qb0 vH rfl (qaw (pv 0)) (qab (i:=2) w4k.nd rfl (uF rfl)) (qa5 (qae (i:=1) w4k.nd rfl (uF rfl) (qaf ((web T).mono ∅) hr rfl T.wgi T.wcz.kp T.wgh .nil qay #[pv 1,pv 2]))))
  (qa5 (qad (pv 1))))),[sr L,none,none];left;rename_i l0 hl0;refine qbs (xs:=ts.map fun t=> .ref t.a) (fun i σ H'=>∃(l:Addr)(k':List (Key×V))(w:Option V),σ=[sr L,sr l,w]/\Same H H'/\H l=none/\H' l=some (.dK k')/\AD k' (sumF (ts.take i))) ⟨l0,[],none,rfl,qa4 hl0 _,hl0,qa1,AD.nil⟩ ?_ ?_ ?_
 .rintro i σ H' _ ⟨l,k',w,rfl,sm,_⟩;exact sm.seq hS
 .rintro i v σ H' hv ⟨l,k',w,rfl,sm,hl,hl',hA'⟩;rw[zC] at hv;obtain⟨t,ht,rfl⟩:=uI.mp hv;have hm:=zF ht;obtain⟨h1,h2,h3⟩:=hts t hm;have sup:∀z,sumF (ts.take i) z≠none->z∈ws:=sum_sup (fun t' ht'=>(hts t' (yB ht')).2.2) noF (fun z h=>absurd rfl h);have c1:=hA'.le sup;have c2:=h2.le h3;left;refine⟨l,t.a,k',t.k,sumF (ts.take i),t.f,rfl,.inl hl',sm _ _ h1,hA',h2,#[],#[],fun l2 k2 H2 sm2 hl2 e2 hA2=>?_⟩;left;refine⟨l2,k2,_,rfl,sm.trans sm2,sm.free hl2,e2,?_⟩;have e:ts.take (i+1)=ts.take i++[t]:=by rw[zO,ht];rfl
  rw[e];unfold sumF;rw[List.foldl_append];exact hA2
 .rintro σ H' ⟨l,k',w,rfl,sm,hl,hl',hA'⟩;rw[zA,zK] at hA';left;exact q l k' H' sm hl hl' hA'
include T in
theorem w23:FnOk P w K mg base (My.CX1 P w) 5 d.w6p d.w4w ["self","name"] (wc1 K d):=by
 exists okX T.wd4 w3p
 .right
 obtain⟨t,S,x,rfl,hT,q⟩:=h;exists (qa2 (qae (i:=2) w3p.nd rfl (uF rfl) (qbb #[pv 1]))
  (qa2 (qae (i:=3) w3p.nd rfl (uF rfl) (qb1 (pv 0) T.w03 T.w0o ((w4r T).mono ∅) hr T.w5c .nil qaq #[pv 1]))
  (qa2 (qef (qbi rfl rfl) (qai qek (pv 3) qck (qar _)) (qa2 (qbn (qf7 vT wC wD qc0 (pv 2) #[pv 3]))
  (qa5 (qae (i:=3) w3p.nd rfl (uF rfl) (qb1 (pv 0) T.w03 T.w0o ((w4r T).mono ∅) hr T.w5c .nil qaq #[pv 3])))))
  (qa5 (qad (pv 2)))))),[sr t,some (x),none,none];have ct:=T.w03;obtain⟨dx,ht⟩:=hT.1;left;rename_i l hl;have sl:=qa4 hl (.lst [x]);rcases q with⟨z,zs,rfl,hL,hz,q⟩|⟨hx,hn,q⟩
 .obtain⟨e0,r0,h0,rfl,hr0⟩:=hL.open;refine⟨t,S,.str z,rfl,hT.same sl,.inl ⟨z,rfl⟩,fun e he=>?_,fun he=>?_⟩
  .have ee:e0=e:=uQ (h0.symm.trans he);subst ee;left;refine qe7 (fun σ H'=>∃(ys rs:List Str)(o:Option Str),σ=[sr t,some (.str z),sr l,some (eV o)]/\H'=upd H l (.lst (ys.map V.str))/\ys++rs=z::r0/\RestOf S o rs) (fun _ H'=>(r0.length+1)-lenAt l H') ⟨[z],r0,_,rfl,rfl,rfl,hr0⟩ ?_ ?_
   .rintro σ H' ⟨ys,rs,o,rfl,rfl,hyr,hR⟩;have hlen:=congrArg wF hyr;rw[zJ,zR] at hlen;have hz2:(z::r0).length<=1000:=hz;rw[zR] at hz2
    cases o with
    |none=>
     have:rs=[]:=hR;subst this;rw[zY] at hyr;subst hyr;rw[show eV none=V.non from rfl];left;exact q l hl
    |some y=>
     obtain⟨e1,r1,h1,rfl,hr1⟩:=LineOf.open hR;have sy:=qa4 hl (.lst (ys.map V.str));have eL:upd H l (.lst (ys.map V.str)) l=some (.lst (ys.map V.str)):=qa1;have hzz:(ys.map V.str).length<sizeLine:=by rw[zA];show _<16777216;omega
     rw[show eV (some y)=V.str y from rfl];left;rw[qcx];have s2:=qa4 hl (.lst (ys.map V.str++[.str y]));have ht2:=s2 _ _ ht;left;refine⟨t,S,.str y,rfl,hT.same s2,.inl ⟨y,rfl⟩,fun e he=>?_,fun he=>?_⟩
     .have ee:e1=e:=uQ (h1.symm.trans he);subst ee;left;rw[zR] at hlen;refine⟨⟨ys++[y],r1,_,rfl,by rw[zL];rfl,by rw[cG];exact hyr,hr1⟩,?_⟩;have g1:=qfh eL;have g2:lenAt l (upd H l (.lst (ys.map V.str++[V.str y])))=(ys.map V.str++[V.str y]).length:=qfh qa1;rw[zJ,zA] at g2;rw[zA] at g1;rw[g1,g2];simp only[zR,yK];omega
     .rw[show who S (.str y)=some e1 from h1] at he;cases he
   .rintro σ H' Q1 Q2 hm ⟨v,hv,w,k,hk,hq⟩;exact⟨v,hv,w,k,hk,hm _ _ hq⟩
  .rw[show who S (.str z)=some e0 from h0] at he;cases he
 .refine⟨t,S,x,rfl,hT.same sl,hx.same sl,fun e he=>?_,fun _=>q l hl⟩;rw[hn] at he;cases he
theorem at_of(nd:(S.hl.map (·.n)).Nodup)(h:e∈S.hl):S.at e.n=some e:=by
 have q:qdf S.keys e.n=some e.a:=qgx (by unfold Ts.keys;rw[yM];exact nd) (zI.mpr ⟨e,h,rfl⟩);unfold Ts.at
 revert nd h
 obtain⟨sw,ws,hs,hl⟩:=S;dsimp only;clear q;intro nd h
 induction hl with
 |nil=>simp at h
 |cons y r ih=>
  rw[zV,zW] at nd;rw[yH];rcases zP.mp h with h|h
  .subst h;rw[gK rfl]
  .have ne:y.n≠e.n:=fun z=>nd.1 (by rw[z];exact zI.mpr ⟨e,h,rfl⟩);rw[gL ne];exact ih nd.2 h
theorem keys_at{k:Key}{v:V}(h:(oK S.keys)[i]?=some (k,v)):∃e,S.hl[i]?=some e/\k=uH e.n/\v=.ref e.a:=by
 unfold oK Ts.keys at h;rw[zC,zC] at h
 cases q:S.hl[i]? with
 |none=>rw[q] at h;cases h
 |some e=>rw[q] at h;cases h;exact⟨e,rfl,rfl,rfl⟩
theorem qfi(S:Ts):(oK S.keys).length=S.hl.length:=by unfold oK Ts.keys;rw[zA,zA]
theorem dec_el{o:Option Str} :decide (eV o=V.str z)=decide (o=some z):=by
 cases o with
 |none=>rfl
 |some y=>
  by_cases h:y=z
  .subst h;show decide (V.str y=V.str y)=_;rw[gK rfl,gK rfl]
  .rw[gL (fun q=>h (by cases q;rfl)),gL (fun q=>h (uQ q))]
theorem scal_el{o:Option Str} :scal (eV o) (V.str z)=true:=by cases o<;>rfl
include T in
theorem wc4:FnOk P w K mg base (My.CX1 P w) 3 d.w67 d.w4y ["self","name"] (wbl K d):=by
 exists okX T.wdf wc5
 .right
 obtain⟨t,S,x,rfl,hT,hx,q1,q2⟩:=h;refine⟨_,(qa2 (qbn (qb1 (pv 0) T.w03 T.w08 ((w21 T).mono ∅) hr T.w28 .nil qaq #[pv 1]))
  (qa5 (qad (qag qgl rfl T.w33 wB #[pe_thV (qch (caps:=[0,1]) (cn:=["self","name"]) (qc6 rfl rfl (by rfl) (by rfl) rfl ⟨rfl,⟨rfl,trivial⟩⟩ (by rfl) rfl ⟨⟨rfl,rfl,rfl,rfl,_,rfl⟩,⟨⟨rfl,rfl,rfl,rfl,_,rfl⟩,trivial⟩⟩ ∅) rfl (qcp (qau (pv 0) rfl)) (fun _ _ _ _=>(pf_one (qai qel (qau (qau (pv 1) rfl|||pv 0) rfl) (pv 2) (qar _)))) (fun _ _ _ _=>(pv 0)))])))),?_⟩
 walk_at"d"
 dsimp only[cxC];refine qac (σ:=[sr t,some (x)]) rfl ?_;have hT0:=hT;obtain⟨⟨dx,ht⟩,hw,hh,nd,hz,hE⟩:=hT;have ct:=T.w03;have ch:=T.w1t;have nh:qap K d.w01 "houses":=T.w04;have nf:qap K d.w06 "elder":=T.w0u;left;refine⟨t,S,x,rfl,hT0,hx,fun e he=>?_,q2⟩;obtain⟨z,rfl⟩:∃z,x=.str z:=by
  rcases hx with h|⟨_,nz⟩
  .exact h
  .rw[qdh nz] at he;cases he
 obtain⟨hme,rfl⟩:=qd7 he;left;refine r_thV ?_;left;refine qfq hh fun o=>?_;intro C s0 H0 fp na hna;have hF:upd H S.hs (.frz o (.dK (oK S.keys))) S.hs=some (.frz o (.dK (oK S.keys))):=qa1;have sb:SameBut S.hs H (upd H S.hs (.frz o (.dK (oK S.keys)))):=sb_frz hh;have ht2:=sb _ _ (ne_of ht hh (by intro z;cases z)) ht;have hna0:H na=none:=by
  by_cases z:na=S.hs
  .subst z;rw[hF] at hna;cases hna
  .rw[qa7 z] at hna;exact hna
 have hE2:∀e∈S.hl,∃dx,upd H S.hs (.frz o (.dK (oK S.keys))) e.a=some (.ins d.w06 dx (fsH e.x)):=fun e he=>by
  obtain⟨⟨dx,q⟩,_⟩:=hE e he;exact⟨dx,sb _ _ (ne_of q hh (by intro z;cases z)) q⟩
 generalize upd H S.hs (.frz o (.dK (oK S.keys)))=HF at*;refine c_by S.hl.length (fun i H'=>H'=upd HF na (.lst ((((S.hl.take i).filter fun y=>decide (y.x.el=some e.n)).map (·.n)).map V.str))) rfl ?_ ?_ ?_ ?_
 .rintro i H' hi rfl;exact⟨qaa hF hna,by rw[qfi];exact hi⟩
 .rintro H' rfl;exact⟨qaa hF hna,by rw[qfi];exact uG _⟩
 .rintro i H' v H'' hi rfl ⟨rfl,k,v',hk,rfl⟩;obtain⟨y,hy,rfl,rfl⟩:=keys_at hk;have hym:=zF hy;obtain⟨dy,hya⟩:=hE2 y hym;have nx:(S.hl.take (i+1)).filter (fun y=>decide (y.x.el=some e.n))=(S.hl.take i).filter (fun y=>decide (y.x.el=some e.n))++(if decide (y.x.el=some e.n)=true then[y] else[]):=by
   rw[zO,hy,yE]
   congr 1
   simp only[Option.toList_some,bF,dF]
  have hlen:((S.hl.take i).filter (fun y=>decide (y.x.el=some e.n))).length<=S.hl.length:=vJ (yC ..) (by rw[zS];omega);left;refine qgt (h:=y.a) (rd_new (.inr ⟨o,hF⟩) hna) (by rw[qe5,at_of nd hym];rfl) ?_;left;refine⟨scal_el,?_⟩;rw[dec_el];refine⟨_,rfl,?_⟩;refine i_2 (fun c=>?_) (fun c=>?_)
  .left;rw[qcx,nx,gJ (gK c),zL,zL];rfl
  .rw[nx,gI (by rw[gL c];decide),zY]
 rintro H' rfl;rw[zK];have nns:na≠S.hs:=fun z=>by subst z;rw[hF] at hna;cases hna
 have eN:upd (upd HF na (.lst ((qbr S e.n).map V.str))) S.hs (.dK (oK S.keys)) na=some (.lst ((qbr S e.n).map V.str)):=by rw[qa7 nns];exact qa1
 have sm:Same H (upd (upd HF na (.lst ((qbr S e.n).map V.str))) S.hs (.dK (oK S.keys))):=qd1 hh (sb_put sb hna0);have hkl:(qbr S e.n).length<=60:=by unfold qbr;rw[zA];exact vJ (yC ..) hz
 refine⟨_,qfm (qaa hF hna) (qcd hh),?_⟩;show tNil _ (upd (upd HF na (.lst ((qbr S e.n).map V.str))) S.hs (.dK (oK S.keys))) _;generalize upd (upd HF na (.lst ((qbr S e.n).map V.str))) S.hs (.dK (oK S.keys))=H3 at*;left;refine r_sortL (SqL.of eN) #[] fun l ss hl hp hs=>?_;left;exact q1 e he l ss _ (same_upd sm hl) (sm.free hl) qa1 hp hs
def r_extend{xs zs:List V}(h:H l=some (.lst xs))(hb:H b=some (.lst zs))(hz:xs.length+zs.length<=sizeLine)(q:Q .non (upd H l (.lst (xs++zs)))):rExtend (.ref l) [.ref b] H Q:=⟨l,b,xs,zs,rfl,rfl,h,hb,hz,q⟩
def flat(parts:List (Str×List Str)):List Str:=(parts.map (·.2)).flatten
def Ben(S:Ts):Nat->Str->List Str->Prop
 |0,z,zs=>∃parts:List (Str×List Str),(parts.map (·.1)).Perm (qbr S z)/\zs=z::flat parts/\∀p∈parts,False
 |n+1,z,zs=>∃parts:List (Str×List Str),(parts.map (·.1)).Perm (qbr S z)/\zs=z::flat parts/\∀p∈parts,Ben S n p.1 p.2
def BenP(S:Ts):Nat->Str->List Str->Prop
 |0,z,zs=>∃(parts:List (Str×List Str))(rest:List Str),(parts.map (·.1)++rest).Perm (qbr S z)/\zs=z::flat parts/\∀p∈parts,False
 |n+1,z,zs=>∃(parts:List (Str×List Str))(rest:List Str),(parts.map (·.1)++rest).Perm (qbr S z)/\zs=z::flat parts/\∀p∈parts,BenP S n p.1 p.2
theorem Ben.part{S:Ts}:∀{n:Nat} {z:Str} {zs:List Str},Ben S n z zs->BenP S n z zs
 |0,_,_,⟨parts,a,b,c⟩=>⟨parts,[],by rw[zY];exact a,b,c⟩
 |n+1,_,_,⟨parts,a,b,c⟩=>⟨parts,[],by rw[zY];exact a,b,fun p hp=>Ben.part (c p hp)⟩
def BenK(S:Ts):Nat->Str->List Str->Prop
 |0,_,_=>False
 |n+1,z,zs=>Ben S n z zs
theorem ben_of{parts:List (Str×List Str)}(h:(parts.map (·.1)).Perm (qbr S z))(hp:∀p∈parts,BenK S n p.1 p.2):Ben S n z (z::flat parts):=by
 cases n with
 |zero=>exact⟨parts,h,rfl,hp⟩
 |succ n=>exact⟨parts,h,rfl,hp⟩
theorem benP_of{parts:List (Str×List Str)}{rest:List Str}(h:(parts.map (·.1)++rest).Perm (qbr S z))(hp:∀p∈parts,BenK S n p.1 p.2):BenP S n z (z::flat parts):=by
 cases n with
 |zero=>exact⟨parts,rest,h,rfl,hp⟩
 |succ n=>exact⟨parts,rest,h,rfl,fun p q=>Ben.part (hp p q)⟩
def Slim(S:Ts):Prop:=∀n z zs,BenP S n z zs->zs.length<=1000
def Dep(S:Ts):Nat->Str->Prop
 |0,z=>qbr S z=[]
 |n+1,z=>∀y∈qbr S z,Dep S n y
def we6(n:Nat)(K:uS)(d:Ad):Sp:=fun vs H Q E=>∃(t:Addr)(S:Ts)(x:V),vs=[.ref t,x]/\qf9 d H t S/\Slim S/\qf3 K H x/\(∀e,who S x=some e->Dep S n e.n/\∀l zs H',Same H H'->H l=none->H' l=some (.lst (zs.map V.str))->Ben S n e.n zs->Q (.ref l) H')/\(who S x=none->∀l,H l=none->E (.ref d.w0l) none (upd H l (.lst [x])))
theorem kid_at(nd:(S.hl.map (·.n)).Nodup)(h:y∈qbr S z):∃e,S.at y=some e/\e.n=y:=by
 obtain⟨e,he,rfl⟩:=zI.mp h;exact⟨e,at_of nd (yA.mp he).1,rfl⟩
theorem flat_app(a b:List (Str×List Str)):flat (a++b)=flat a++flat b:=by unfold flat;rw[zL,List.flatten_append]
theorem ben_step{P:uY}{w:vL}{K:uS}{mg:Str->Option uB}{base:vQ}{d:Ad}(T:Tx K mg d)(n:Nat)(spi:Sp)(IH:FnOk P w K mg base (My.CX1 P w) (3+n) d.w1f d.w0w ["self","name"] spi)
  (use:∀(t:Addr)(S:Ts)(z y:Str)(e:He)(H:Hp)(Q:VK)(E:XK),qf9 d H t S->Slim S->Dep S n z->y∈qbr S z->S.at y=some e->e.n=y->(∀l zs H',Same H H'->H l=none->H' l=some (.lst (zs.map V.str))->BenK S n y zs->Q (.ref l) H')->spi [.ref t,.str y] H Q E):
  FnOk P w K mg base (My.CX1 P w) (3+n+1) d.w1f d.w0w ["self","name"] (we6 n K d):=by
 exists okX T.wa5 w3c
 .right
 obtain⟨t,S,x,rfl,hT,hS,hx,q1,q2⟩:=h;exists (qa2 (qae (i:=2) w3c.nd rfl (uF rfl) (qbb #[pv 1]))
  (qa2 (qb0 (qbi rfl rfl) rfl (qaw (qb1 (pv 0) T.w03 T.w2o ((wc4 T).mono #[]) hr T.wdj .nil qaq #[pv 1])) (qab (i:=3) w3c.nd rfl (uF rfl)) (qa5 (qbn (qf7 vT PySem.F.slot_list_extend PySem.F.type_list_extend mt_extend (pv 2) #[qb1 (pv 0) T.w03 T.w0v IH hr T.w61 .nil qaq #[pv 3]]))))
  (qa5 (qad (pv 2))))),[sr t,some (x),none,none];have ct:=T.w03;obtain⟨dx,ht⟩:=hT.1;have nd:=hT.2.2.2.1;left;rename_i lt hlt;have sl:=qa4 hlt (.lst [x]);refine⟨t,S,x,rfl,hT.same sl,hx.same sl,fun e he=>?_,fun he=>q2 he lt hlt⟩;obtain⟨hD,q⟩:=q1 e he;obtain⟨z,rfl⟩:∃z,x=.str z:=by
  rcases hx with h|⟨_,nz⟩
  .exact h
  .rw[qdh nz] at he;cases he
 obtain⟨hme,rfl⟩:=qd7 he;intro lk ss H1 s1 hlk ek hp hs;have eT:=s1 _ _ (qa1 (H:=H) (a:=lt) (o:=.lst [V.str e.n]));left;have ntk:lk≠lt:=fun z=>by subst z;rw[qa1] at hlk;cases hlk
 refine qbs (xs:=ss.map V.str) (fun i σ H'=>∃(parts:List (Str×List Str))(w:Option V),σ=[sr t,some (.str e.n),sr lt,w]/\parts.map (·.1)=ss.take i/\(∀p∈parts,BenK S n p.1 p.2)/\Same H H'/\H' lk=some (.lst (ss.map V.str))/\H' lt=some (.lst ((e.n::flat parts).map V.str)))
  ⟨[],_,rfl,rfl,fun p hp=>absurd hp (by simp),sl.trans s1,ek,eT⟩ ?_ ?_ ?_
 .rintro i σ H' _ ⟨parts,w,_,_,_,_,ek',_⟩;exact SqL.of ek'
 .rintro i v σ H' hv ⟨parts,w,rfl,hps,hB,sm,ek',eT'⟩;rw[zC] at hv;obtain⟨y,hy,rfl⟩:=uI.mp hv;have hyk:y∈qbr S e.n:=hp.mem_iff.mp (zF hy);obtain⟨ey,h1,h2⟩:=kid_at nd hyk;have ht':=sm _ _ ht;left;refine use t S e.n y ey H' _ _ (hT.same sm) hS hD hyk h1 h2 fun l zs H2 s2 hl el hBy=>?_;have eT2:=s2 _ _ eT';have hps2:(parts++[(y,zs)]).map (·.1)=ss.take (i+1):=by rw[zL,hps,zO,hy];rfl
  have hB2:∀p∈parts++[(y,zs)],BenK S n p.1 p.2:=fun p hp=>by
   rcases zH.mp hp with h|h
   .exact hB p h
   .have:=zE.mp h;subst this;exact hBy
  have ef:flat (parts++[(y,zs)])=flat parts++zs:=by rw[flat_app];congr 1;simp[flat]
  have hlen:=hS _ _ _ (benP_of (n:=n) (z:=e.n) (parts:=parts++[(y,zs)]) (rest:=ss.drop (i+1)) (by rw[hps2,List.take_append_drop];exact hp) hB2);rw[ef,zR,zJ] at hlen;left;refine r_extend eT2 el (by rw[zA,zA,zR];show _<=16777216;omega) ?_;left;refine⟨parts++[(y,zs)],_,rfl,hps2,hB2,qb6 (sm.trans s2) hlt,by rw[qa7 ntk];exact s2 _ _ ek',?_⟩;rw[ef,<-zL];exact qa1
 .rintro σ H' ⟨parts,w,rfl,hps,hB,sm,ek',eT'⟩;rw[zA,zK] at hps;left;exact q lt _ H' sm hlt eT' (ben_of (by rw[hps];exact hp) hB)
def wfg{P:uY}{w:vL}{K:uS}{mg:Str->Option uB}{base:vQ}{CX:CXT}{k:Nat}{f:Addr}{fd:uK}{ps:List Str} :FnOk P w K mg base CX k f fd ps (fun _ _ _ _=>False):=
 ⟨fun _ _ _ _ h=>h.elim,fun _ _ _ _ _ _ _ _ _ _ _ _ _ h=>h.elim⟩
theorem whd{P:uY}{w:vL}{K:uS}{mg:Str->Option uB}{base:vQ}{d:Ad}(T:Tx K mg d):∀n:Nat,FnOk P w K mg base (My.CX1 P w) (3+n+1) d.w1f d.w0w ["self","name"] (we6 n K d)
 |0=>ben_step T 0 (fun _ _ _ _=>False) wfg fun t S z y e H Q E _ _ hD hy _ _ _=>by
  have:qbr S z=[]:=hD;rw[this] at hy;simp at hy
 |n+1=>ben_step T (n+1) (we6 n K d) (whd T n) fun t S z y e H Q E hT hS hD hy h1 h2 q=>by
  refine⟨t,S,.str y,rfl,hT,hS,.inl ⟨y,rfl⟩,fun e' he'=>?_,fun he'=>?_⟩
  .have ee:e=e':=uQ (h1.symm.trans he');subst ee;rw[h2];exact⟨hD y hy,fun l zs H' sm hl el hB=>q l zs H' sm hl el hB⟩
  .rw[show who S (.str y)=some e from h1] at he';cases he'
def w9r(K:uS)(d:Ad):Sp:=we6 12 K d
def w90:FnOk P w K mg base (My.CX1 P w) 16 d.w1f d.w0w ["self","name"] (w9r K d):=whd T 12
def upS(S:Ts)(y:Str):Option Str:=(S.at y).bind fun e=>e.x.el
def anc(S:Ts):Nat->Str->Option Str
 |0,y=>some y
 |k+1,y=>(upS S y).bind (anc S k)
theorem qe6{S:Ts}:∀(i j:Nat)(y:Str),anc S (i+j) y=(anc S i y).bind (anc S j)
 |0,j,y=>by rw[Nat.zero_add];rfl
 |i+1,j,y=>by
  rw[show i+1+j=(i+j)+1 by omega];show(upS S y).bind (anc S (i+j))=((upS S y).bind (anc S i)).bind (anc S j)
  cases upS S y with
  |none=>rfl
  |some u=>exact qe6 i j u
def WF(S:Ts):Prop:=(S.hl.map (·.n)).Nodup/\∀e∈S.hl,∃zs,LineOf S e.n zs
theorem up_of(h:S.at z=some e):upS S z=e.x.el:=by unfold upS;rw[h];rfl
theorem line_end{zs:List Str}(h:LineOf S z zs):anc S zs.length z=none:=by
 induction h with
 |top h n=>show(upS S _).bind _=none;rw[up_of h,n];rfl
 |up h n r ih=>show(upS S _).bind _=none;rw[up_of h,n];exact ih
theorem no_cycle(w:WF S){k:Nat}{z:Str}:anc S (k+1) z≠some z:=by
 intro c
 cases hz:S.at z with
 |none=>
  have:anc S (k+1) z=none:=by show(upS S z).bind _=none;unfold upS;rw[hz];rfl
  rw[this] at c;cases c
 |some e=>
  obtain⟨zs,hl⟩:=w.2 e (qd7 hz).1;rw[(qd7 hz).2] at hl;have he:=line_end hl;have rep:∀m,anc S (m*(k+1)) z=some z:=by
   intro m
   induction m with
   |zero=>rw[Nat.zero_mul];rfl
   |succ m ih=>rw[Nat.succ_mul,qe6,ih];exact c
  have h1:=rep zs.length;have h2:zs.length*(k+1)=zs.length+zs.length*k:=by rw[Nat.mul_add,Nat.mul_one];omega
  rw[h2,qe6,he] at h1
  cases h1
theorem kid_up(w:WF S){y z:Str}(h:y∈qbr S z):upS S y=some z:=by
 obtain⟨e,he,rfl⟩:=zI.mp h;obtain⟨hm,hd⟩:=yA.mp he;unfold upS;rw[at_of w.1 hm];exact of_decide_eq_true hd
theorem kids_nodup(w:WF S)(z:Str):(qbr S z).Nodup:=by
 unfold qbr;exact List.Nodup.sublist (List.Sublist.map _ List.filter_sublist) w.1
theorem ben_anc{S:Ts}(w:WF S):∀{n:Nat} {z:Str} {zs:List Str},BenP S n z zs->∀y∈zs,∃k,anc S k y=some z
 |0,z,_,⟨parts,rest,hp,rfl,hb⟩,y,hy=>by
  rcases zP.mp hy with rfl|hy
  .exact⟨0,rfl⟩
  .obtain⟨l,hl,_⟩:=bG.mp hy;obtain⟨p,hpp,_⟩:=zI.mp hl;exact(hb p hpp).elim
 |n+1,z,_,⟨parts,rest,hp,rfl,hb⟩,y,hy=>by
  rcases zP.mp hy with rfl|hy
  .exact⟨0,rfl⟩
  .obtain⟨l,hl,hyl⟩:=bG.mp hy;obtain⟨p,hpp,rfl⟩:=zI.mp hl;obtain⟨k,hk⟩:=ben_anc w (hb p hpp) y hyl;have hu:=kid_up w (hp.mem_iff.mp (zQ _ (zI.mpr ⟨p,hpp,rfl⟩)));exact⟨k+1,by rw[qe6,hk];show(upS S p.1).bind _=_;rw[hu];rfl⟩
theorem apart(w:WF S){p q z y:Str}{i j:Nat}(hp:upS S p=some z)(hq:upS S q=some z)(ne:p≠q)(hi:anc S i y=some p)(hj:anc S j y=some q)(le:i<=j):False:=by
 obtain⟨c,rfl⟩:=Nat.exists_eq_add_of_le le;rw[qe6,hi] at hj;have hj':anc S c p=some q:=hj
 cases c with
 |zero=>exact ne (uQ hj')
 |succ c=>
  have h1:(upS S p).bind (anc S c)=some q:=hj';rw[hp] at h1;have h2:anc S c z=some q:=h1;refine no_cycle w (k:=c) (z:=z) ?_;rw[qe6,h2];show(upS S q).bind _=_;rw[hq];rfl
theorem qfs{S:Ts}(w:WF S){z:Str}:∀{parts:List (Str×List Str)},(parts.map (·.1)).Nodup->(∀p∈parts,upS S p.1=some z)->(∀p∈parts,p.2.Nodup/\∀y∈p.2,∃k,anc S k y=some p.1)->(flat parts).Nodup
 | [],_,_,_=>yJ
 |p::r,nd,hu,hb=>by
  rw[zV,zW] at nd;have ih:=qfs w (z:=z) nd.2 (fun q hq=>hu q (zD _ hq)) fun q hq=>hb q (zD _ hq);show(p.2++flat r).Nodup;rw[aZ];refine⟨(hb p (zG ..)).1,ih,fun a ha b hbm e=>?_⟩;subst e;obtain⟨l,hl,hal⟩:=bG.mp hbm;obtain⟨q,hq,rfl⟩:=zI.mp hl;obtain⟨i,hi⟩:=(hb p (zG ..)).2 a ha;obtain⟨j,hj⟩:=(hb q (zD _ hq)).2 a hal;have ne:p.1≠q.1:=fun z=>nd.1 (by rw[z];exact zI.mpr ⟨q,hq,rfl⟩);have up:=hu p (zG ..);have uq:=hu q (zD _ hq);rcases Nat.le_total i j with h|h
  .exact apart w up uq ne hi hj h
  .exact apart w uq up ne.symm hj hi h
theorem qdo{S:Ts}(w:WF S):∀{n:Nat} {z:Str} {zs:List Str},BenP S n z zs->zs.Nodup/\∀y∈zs,y=z\/y∈S.hl.map (·.n)
 |0,z,_,⟨parts,rest,hp,rfl,hb⟩=>by
  have:parts=[]:=by
   cases parts with
   |nil=>rfl
   |cons p r=>exact(hb p (zG ..)).elim
  subst this;exact⟨by simp[flat],fun y hy=> .inl (by simpa[flat] using hy)⟩
 |n+1,z,_,⟨parts,rest,hp,rfl,hb⟩=>by
  have kd:=kids_nodup w z;have hk:∀p∈parts,p.1∈qbr S z:=fun p h=>hp.mem_iff.mp (zQ _ (zI.mpr ⟨p,h,rfl⟩));have hu:∀p∈parts,upS S p.1=some z:=fun p h=>kid_up w (hk p h);have hn:(parts.map (·.1)).Nodup:=(aZ.mp (hp.nodup_iff.mpr kd)).1;have fl:=qfs w (z:=z) hn hu fun p h=>⟨(qdo w (hb p h)).1,ben_anc w (hb p h)⟩;refine⟨zW.mpr ⟨fun hm=>?_,fl⟩,fun y hy=>?_⟩
  .obtain⟨l,hl,hal⟩:=bG.mp hm;obtain⟨q,hq,rfl⟩:=zI.mp hl;obtain⟨k,hk'⟩:=ben_anc w (hb q hq) z hal;refine no_cycle w (k:=k) (z:=z) ?_;rw[qe6,hk'];show(upS S q.1).bind _=_;rw[hu q hq];rfl
  .rcases zP.mp hy with rfl|hy
   .exact .inl rfl
   .obtain⟨l,hl,hal⟩:=bG.mp hy;obtain⟨q,hq,rfl⟩:=zI.mp hl;have hq1:q.1∈S.hl.map (·.n):=by
     obtain⟨e,he,e1⟩:=zI.mp (hk q hq);rw[<-e1];exact zI.mpr ⟨e,(yA.mp he).1,rfl⟩
    rcases(qdo w (hb q hq)).2 y hal with rfl|h
    .exact .inr hq1
    .exact .inr h
def slim_of(w:WF S)(hz:S.hl.length<=60):Slim S:=fun n z zs h=>by
 obtain⟨nd,hm⟩:=qdo w h;have:=nd_le (m:=z::S.hl.map (·.n)) nd fun y hy=>by
  rcases hm y hy with rfl|h
  .exact zG ..
  .exact zD _ h
 rw[zR,zA] at this;omega
def ptOf(S:Ts)(y:Str):Pt:=match S.at y with
 |some e=>⟨e.x.pa,e.x.kp,e.x.fp⟩
 |none=>⟨0,[],noF⟩
theorem qgu(h:S.at y=some e):ptOf S y=⟨e.x.pa,e.x.kp,e.x.fp⟩:=by unfold ptOf;rw[h]
def qh8(S:Ts):Prop:=S.ws.length<=100/\∀e∈S.hl,∀z,e.x.fp z≠none->z∈S.ws
def w45(K:uS)(d:Ad):Sp:=fun vs H Q E=>∃(t:Addr)(S:Ts)(x:V),vs=[.ref t,x]/\qf9 d H t S/\WF S/\qh8 S/\qf3 K H x/\
 (∀e,who S x=some e->Dep S 12 e.n/\∀l zs k' H',Same H H'->H l=none->H' l=some (.dK k')->Ben S 12 e.n zs->AD k' (sumF (zs.map (ptOf S)))->Q (.ref l) H')/\(who S x=none->∀l,H l=none->E (.ref d.w0l) none (upd H l (.lst [x])))
include T in
theorem w44:FnOk P w K mg base (My.CX1 P w) 17 d.w1a d.w17 ["self","name"] (w45 K d):=by
 exists okX T.w4h w43
 .right
 obtain⟨t,S,x,rfl,hT,hW,hO,hx,q1,q2⟩:=h;refine⟨_,(qa5 (qad (qaf ((wds T).mono ∅) hr rfl T.wez T.wak.kp T.wes .nil qay #[qch (caps:=[0]) (cn:=["self"]) (qc6 rfl rfl (by rfl) (by rfl) rfl ⟨rfl,trivial⟩ (by rfl) rfl ⟨⟨rfl,rfl,rfl,rfl,_,rfl⟩,trivial⟩ ∅) rfl (qaw (qb1 (pv 0) T.w03 T.w0v ((w90 T).mono ∅) hr T.w61 .nil qaq #[pv 1])) (fun _ _ _ _=>qdd) (fun _ _ _ _=>(qau (qau (pv 1) rfl|||pv 0) rfl))]))),?_⟩
 walk_at"d"
 dsimp only[cxC];refine qac (σ:=[sr t,some (x)]) rfl ?_;have ct:=T.w03;have ch:=T.w1t;have nh:qap K d.w01 "houses":=T.w04;have nf:qap K d.w06 "promise":=T.w0d;obtain⟨dx,ht⟩:=hT.1;have nd:=hT.2.2.2.1;left;refine⟨t,S,x,rfl,hT,slim_of hW hT.2.2.2.2.1,hx,fun e he=>⟨(q1 e he).1,?_⟩,q2⟩;obtain⟨hD,q⟩:=q1 e he;intro lb zs H1 s1 hlb eb hB;left;have hT1:=hT.same s1;obtain⟨⟨_,ht1⟩,hw,hh,_,hz,hE⟩:=hT1;have hbn:=qdo hW (Ben.part hB);have hzs:=slim_of hW hz 12 _ _ (Ben.part hB);have hin:∀y∈zs,∃ey,S.at y=some ey/\ey∈S.hl:=fun y hy=>by
  have hy':y∈S.hl.map (·.n):=by
   rcases hbn.2 y hy with rfl|h
   .obtain⟨z,rfl⟩:∃z,x=.str z:=by
     rcases hx with h|⟨_,nz⟩
     .exact h
     .rw[qdh nz] at he;cases he
    exact zI.mpr ⟨e,(qd7 he).1,rfl⟩
   .exact h
  obtain⟨ey,hm,rfl⟩:=zI.mp hy';exact⟨ey,at_of nd hm,hm⟩
 intro C s0 H0 fp na hna;refine c_by zs.length (fun i H'=>H'=upd H1 na (.lst (((zs.take i).map (ptOf S)).map fun u=> .ref u.a))) rfl ?_ ?_ ?_ ?_
 .rintro i H' hi rfl;exact⟨_,.str zs[i],SqL.of (qaa eb hna),by rw[zC,zB hi];rfl⟩
 .rintro H' rfl;exact⟨_,SqL.of (qaa eb hna),by rw[zA];exact uG _⟩
 .rintro i H' v H'' hi rfl ⟨rfl,hy⟩;have hv:=hy _ (SqL.of (qaa eb hna));rw[zC,zB hi] at hv
  cases hv
  obtain⟨ey,h1,hm⟩:=hin _ (zX hi);obtain⟨⟨dy,hya⟩,_⟩:=hE ey hm;left;refine qgt (h:=ey.a) (rd_new (.inl hh) hna) (by rw[qe5,h1];rfl) ?_;left;rw[qcx,zO,zB hi]
  congr 2
  simp only[Option.toList_some,zL,zV,fL,qgu h1]
 rintro H' rfl;rw[zK];have s2:=qa4 hna (.lst ((zs.map (ptOf S)).map fun u=>V.ref u.a));have eN:upd H1 na (.lst ((zs.map (ptOf S)).map fun u=>V.ref u.a)) na=some (.lst ((zs.map (ptOf S)).map fun u=>V.ref u.a)):=qa1;left;refine⟨na,zs.map (ptOf S),S.ws,rfl,SqL.of eN,hO.1,fun u hu=>?_,fun l k' H2 s3 hl el hA=>q l zs k' H2 ((s1.trans s2).trans s3) ((s1.trans s2).free hl) el hB hA⟩;obtain⟨y,hy,rfl⟩:=zI.mp hu;obtain⟨ey,h1,hm⟩:=hin y hy;obtain⟨_,hp,hA,_⟩:=hE ey hm;rw[qgu h1];exact⟨s2 _ _ hp,hA,hO.2 ey hm⟩
include T in
theorem w9z:FnOk P w K mg base CX0 1 d.w4d d.w3t ["self","house","ware"] (fun _ _ _ _=>False):=wfg
inductive sp_check_promises(K:uS)(d:Ad)(vs:List V)(H:Hp)(Q:VK)(E:XK):Prop
 |mk(x:V)(a b:Addr)(ka kb:List (Key×V))(f g:Str->Option Int)(_:vs=[x,.ref a,.ref b])(_:Rd H a (.dK ka))(_:Rd H b (.dK kb))(_:AD ka f)(_:AD kb g)(_:ka.length<64)(_:(∀z n,f z=some n->n<=gN g z))(_:∀H',Same H H'->Q .non H')
include T in
theorem w2j:FnOk P w K mg base (My.CX1 P w) 3 d.w2r d.w2l ["name","promises","cap"] (sp_check_promises K d):=by
 exists okX T.w1w w41
 .right
 obtain⟨x,a,b,ka,kb,f,g,rfl,ha,hb,hf,hg,hz,hw,q⟩:=h;exists (qa2 (qae (i:=3) w41.nd rfl (uF rfl) (qaf ((wfq T).mono ∅) hr rfl T.wh0 T.we0.kp T.wgr .nil qay #[pv 1,pv 2]))
  (qa5 (qb4 (qai qek (pv 3) qck (qar _)) (qa5 (ps_raiseI rfl T.wbo ((w9z T).mono ∅) hr T.wax rfl T.wdn qaq #[pv 0,pv 3])) qak))),[some (x),sr a,sr b,none];left;refine⟨a,b,ka,kb,f,g,rfl,ha,hb,hf,hg,hz,fun H' sm _=>?_,fun z H' sm hv _=>?_⟩
 .left;exact q _ sm
 .obtain⟨h1,h2⟩:=hv
  cases e:f z with
  |none=>exact absurd e h1
  |some n=>
   have h3:=hw z n e;have h4:gN f z=n:=by unfold gN;rw[e];rfl
   omega
inductive sp_Tree_check_more(K:uS)(d:Ad)(vs:List V)(H:Hp)(Q:VK)(E:XK):Prop
 |mk(t lb m:Addr)(S:Ts)(zs:List Str)(km:List (Key×V))(fm:Str->Option Int)(_:vs=[.ref t,.ref lb,.ref m])(_:qf9 d H t S)(_:WF S)(_:qh8 S)(_:SqL K H lb (zs.map V.str))(_:H m=some (.dK km))(_:AD km fm)(_:S.ws.length<=50)(_:(∀z,fm z≠none->z∈S.ws))(_:(∀y∈zs,∃e,S.at y=some e/\Dep S 12 y/\∀bs,Ben S 12 y bs->∀z n,qh6 (sumF (bs.map (ptOf S))) fm z=some n->n<=gN e.x.fc z))(_:∀H',Same H H'->Q .non H')
include T in
theorem w70:FnOk P w K mg base (My.CX1 P w) 18 d.w2h d.w27 ["self","names","more"] (sp_Tree_check_more K d):=by
 exists okX T.w7z w3q
 .right
 obtain⟨t,lb,m,S,zs,km,fm,rfl,hT,hW,hO,hL,hm,hA,hws,hfm,hy,q⟩:=h;exists qa5 (qb0 (qbi rfl rfl) rfl (qaw (pv 1)) (qab (i:=3) w3q.nd rfl (uF rfl)) (qa5 (qbn (qav ((w2j T).mono ∅) hr rfl T.w2z T.w1w.kp T.w2y .nil qaq #[pv 3,qaf ((web T).mono ∅) hr rfl T.wgi T.wcz.kp T.wgh .nil qay #[qb1 (pv 0) T.w03 T.w09 ((w44 T).mono ∅) hr T.w4e .nil qaq #[pv 3],pv 2],qau (qau (pv 0) rfl|||pv 3) rfl])))),[sr t,sr lb,sr m,none];have ct:=T.w03;have ch:=T.w1t;have nh:qap K d.w01 "houses":=T.w04;have nf:qap K d.w06 "cap":=T.w18;left;refine qbs (xs:=zs.map V.str) (fun i σ H'=>Same H H'/\∃w,σ=[sr t,sr lb,sr m,w]) ⟨Same.refl _,_,rfl⟩ ?_ ?_ ?_
 .rintro i σ H' _ ⟨sm,_⟩;exact sm.seq hL
 .rintro i v σ H' hv ⟨sm,w,rfl⟩;rw[zC] at hv;obtain⟨y,hyi,rfl⟩:=uI.mp hv;obtain⟨e,h1,hD,hb⟩:=hy y (zF hyi);obtain⟨dx,ht⟩:=(hT.same sm).1;left;have sup:∀bs:List Str,(∀b∈bs,∃eb,S.at b=some eb/\eb∈S.hl)->∀z,sumF (bs.map (ptOf S)) z≠none->z∈S.ws:=fun bs hbs=>by
   refine sum_sup (fun u hu z hz=>?_) noF (fun z hz=>absurd rfl hz);obtain⟨b,hb1,rfl⟩:=zI.mp hu;obtain⟨eb,h3,h4⟩:=hbs b hb1;rw[qgu h3] at hz;exact hO.2 eb h4 z hz
  refine⟨t,S,.str y,rfl,hT.same sm,hW,hO,.inl ⟨y,rfl⟩,fun e' he'=>?_,fun hn=>?_⟩
  .have ee:e=e':=uQ (h1.symm.trans he');subst ee;have hme:=qd7 h1;rw[hme.2];refine⟨hD,fun l bs k' H2 s2 hl el hB hA2=>?_⟩;have hbs:∀b∈bs,∃eb,S.at b=some eb/\eb∈S.hl:=fun b hb1=>by
    have hb2:b∈S.hl.map (·.n):=by
     rcases(qdo hW (Ben.part hB)).2 b hb1 with rfl|h
     .exact zI.mpr ⟨e,hme.1,hme.2⟩
     .exact h
    obtain⟨eb,h3,rfl⟩:=zI.mp hb2;exact⟨eb,at_of hW.1 h3,h3⟩
   have l1:=hA2.le (sup bs hbs);have l2:=hA.le hfm;left;refine⟨l,m,k',km,_,fm,rfl,.inl el,(sm.trans s2) _ _ hm,hA2,hA,#[],#[],fun lx kx H3 s3 hlx elx hA3=>?_⟩;have sx:=(sm.trans s2).trans s3;obtain⟨⟨dx3,ht3⟩,_,hh3,_,_,hE3⟩:=hT.same sx;obtain⟨⟨dh,ho⟩,_,_,hc,hcA⟩:=hE3 e hme.1;left;refine qgt (h:=e.a) (.inl hh3) (by rw[qe5,h1];rfl) ?_;left;refine⟨.str y,lx,e.x.ca,kx,e.x.kc,_,e.x.fc,rfl,.inl elx,.inl hc,hA3,hcA,?_,hb bs hB,fun H4 s4=>⟨sx.trans s4,_,rfl⟩⟩;have l3:=hA3.le (ws:=S.ws) (addF_sup (sup bs hbs) hfm);omega
  .rw[show who S (.str y)=some e from h1] at hn;cases hn
 .rintro σ H' ⟨sm,w,rfl⟩;left;exact q _ sm
def wd3(K:uS)(d:Ad):Sp:=fun vs H Q _=>∃i:Int,vs=[.int i]/\Q (.bl true) H
def w8p(K:uS)(d:Ad):Sp:=fun vs H Q _=>∃i a b:Int,vs=[.int i,.int a,.int b]/\a<=i/\i<=b/\Q (.bl true) H
def wcb(K:uS)(d:Ad):Sp:=fun vs H Q _=>∃i:Int,vs=[.int i]/\0<=i/\i<=10^30/\Q (.bl true) H
include T in
theorem wdg:FnOk P w K mg base CX0 1 d.w7m d.w68 ["thing"] (wd3 K d):=by
 exists T.waf.ok wdm
 .right
 obtain⟨i,rfl,q⟩:=h;exists qa5 (qad (qej (qag qbm rfl T.w07 vE #[pv 0,qca (v:=.ty "int") rfl T.whr dJ rfl]) (qei (pe_not (qag qbm rfl T.w07 vE #[pv 0,qca (v:=.ty "bool") rfl T.wfp dB rfl]))))),[some (.int i)];left;exact q
include T in
theorem w4t:FnOk P w K mg base CX0 2 d.w3g d.w2x ["thing","least","most"] (w8p K d):=by
 exists T.w3l.ok w8s
 .right
 obtain⟨i,a,b,rfl,h1,h2,q⟩:=h;exists qa5 (qad (qej (qaf ((wdg T).mono ∅) hr rfl T.wey T.waf.kp T.wel .nil qay #[pv 0]) (qei (pe_chain op_le op_le (pv 1) (pv 0) (pv 2))))),[some (.int i),some (.int a),some (.int b)];left;refine⟨i,rfl,?_⟩;left;rw[gK h2];exact q
include T in
theorem wbs:FnOk P w K mg base CX0 3 d.w6s d.w54 ["thing"] (wcb K d):=by
 exists T.w8x.ok wbv
 .right
 obtain⟨i,rfl,h1,h2,q⟩:=h;exists qa5 (qad (qaf ((w4t T).mono ∅) hr rfl T.w5f T.w3l.kp T.w5j .nil qay #[pv 0,qa6,qah op_pow qa6 qa6])),[some (.int i)];left;refine⟨i,0,_,rfl,h1,?_,?_⟩
 .exact h2
 left;exact q
theorem qg2(h:z∈ws):inV (.str z) (ws.map V.str)=true:=by
 unfold inV;rw[yG];exact⟨.str z,zI.mpr ⟨z,h,rfl⟩,by simp[eqV]⟩
theorem r_notInT{K:uS}{p:Addr}(hS:SqL K H p (ws.map V.str))(h:z∈ws)(q:Q (.bl false) H):rIn K true (.str z) (.ref p) H Q:=by
 refine⟨p,_,rfl,.inl hS,rfl,?_,?_⟩
 .rw[zZ];intro x hx;obtain⟨y,_,rfl⟩:=zI.mp hx;rfl
 .rw[qg2 h];exact q
inductive sp_amounts_of(K:uS)(d:Ad)(vs:List V)(H:Hp)(Q:VK)(E:XK):Prop
 |mk(a w:Addr)(k:List (Key×V))(f:Str->Option Int)(ws:List Str)(_:vs=[.ref a,.ref w])(_:H a=some (.dK k))(_:AD k f)(_:k.length<=1000)(_:H w=some (.lst (ws.map V.str)))(_:(∀z n,f z=some n->z∈ws/\0<=n/\n<=10^30))(_:∀l k' H',Same H H'->H l=none->H' l=some (.dK k')->AD k' (qdi f)->Q (.ref l) H')
include T in
theorem w74:FnOk P w K mg base (My.CX1 P w) 4 d.w4z d.w4b ["handed","wares"] (sp_amounts_of K d):=by
 exists okX T.w5e w4c
 .right
 obtain⟨a,w,kvs,f,ws,rfl,ha,hA,hz,hw,hf,q⟩:=h;exists (qa2 (qb4 (qbz (qbg (qag qbm rfl T.w07 vE #[pv 0,qca (v:=.ty "dict") rfl T.w4v vW rfl]))) (qa5 (qc9 rfl T.w7u rfl T.w7n qaq #[qd2])) qak)
  (qa2 (qeg (qb0 (qbi rfl rfl) rfl (qcp (pv 0)) (qab (i:=2) w4c.nd rfl (uF rfl)) (qa5 (qb4 (PW.pt (qdx (qbz (qbg (qag qbm rfl T.w07 vE #[pv 2,qca (v:=.ty "str") rfl T.wgx bC rfl]))) (qdz (qai qct (pv 2) (pv 1) (by rfl))))) (qa5 (qc9 rfl T.we9 rfl T.we4 qaq #[qd2])) qak))))
  (qa2 (qeg (qb0 (qbi rfl rfl) rfl (qcp (pv 0)) (qab (i:=3) w4c.nd rfl (uF rfl)) (qa5 (qb4 (qbz (qbg (qaf ((wbs T).mono ∅) hr rfl T.wcq T.w8x.kp T.wd0 .nil qay #[pv 0|||pv 3]))) (qa5 (qc9 rfl T.w7u rfl T.w7n qaq #[qd2])) qak))))
  (qa5 (qad (qaf ((w9b T).mono ∅) hr rfl T.w9x T.w62.kp T.wa8 .nil qay #[pv 0])))))),[sr a,sr w,none,none];left;refine qfq ha fun o=>?_;have hwa:w≠a:=ne_of hw ha (by intro z;cases z);refine qet (fun i σ H'=>H'=upd H a (.frz o (.dK kvs))/\∃w2 w3,σ=[sr a,sr w,w2,w3]) ⟨rfl,_,_,rfl⟩ ?_ ?_ ?_
 .rintro i σ H' _ ⟨rfl,_⟩;exact qa1
 .rintro i k v σ H' hk ⟨rfl,w2,w3,rfl⟩;obtain⟨z,n,rfl,rfl,hfz,hzi⟩:=hA.at hk;have hw':upd H a (.frz o (.dK kvs)) w=some (.lst (ws.map V.str)):=by rw[qa7 hwa];exact hw
  show qer _ (.str z) _ _ _;left;refine r_notInT (SqL.of hw') (hf z n hfz).1 ?_;left;exact⟨rfl,_,_,rfl⟩
 .rintro σ H' ⟨rfl,w2,w3,rfl⟩;refine qeb (qfm qa1 (qcd ha)) ?_;have s2:=qd1 ha (sb_frz (o:=o) ha);have ha2:upd (upd H a (.frz o (.dK kvs))) a (.dK kvs) a=some (.dK kvs):=qa1;generalize upd (upd H a (.frz o (.dK kvs))) a (.dK kvs)=H2 at*;left;refine qfq ha2 fun o2=>?_;refine qet (fun i σ H'=>H'=upd H2 a (.frz o2 (.dK kvs))/\∃w3,σ=[sr a,sr w,w2,w3]) ⟨rfl,_,rfl⟩ ?_ ?_ ?_
  .rintro i σ H' _ ⟨rfl,_⟩;exact qa1
  .rintro i k v σ H' hk ⟨rfl,w3,rfl⟩;obtain⟨z,n,rfl,rfl,hfz,hzi⟩:=hA.at hk;have hRd:Rd (upd H2 a (.frz o2 (.dK kvs))) a (.dK kvs):=.inr ⟨o2,qa1⟩;show qer _ (.str z) _ _ _;left;refine⟨n,rfl,(hf z n hfz).2.1,(hf z n hfz).2.2,?_⟩;left;exact⟨rfl,_,rfl⟩
  .rintro σ H' ⟨rfl,w3,rfl⟩;refine qeb (qfm qa1 ?_) ?_
   .exact qcd ha
   have s3:=qd1 ha2 (sb_frz (o:=o2) ha2);have ha3:upd (upd H2 a (.frz o2 (.dK kvs))) a (.dK kvs) a=some (.dK kvs):=qa1;generalize upd (upd H2 a (.frz o2 (.dK kvs))) a (.dK kvs)=H3 at*;left;refine⟨a,kvs,f,rfl,ha3,hA,hz,fun l k' H4 s4 hl el hA4=>?_⟩;left;exact q l k' H4 ((s2.trans s3).trans s4) ((s2.trans s3).free hl) el hA4
def wb1(K:uS)(d:Ad):Sp:=fun vs H Q _=>∃(x dx:Addr)(o:Ho),vs=[.ref x,eV o.el,.ref o.pa,.ref o.ca,.int o.w]/\H x=some (.ins d.w06 dx [])/\∀H',H' x=some (.ins d.w06 dx (fsH o))->SameBut x H H'->Q .non H'
include T in
theorem wbe:FnOk P w K mg base CX0 1 d.w57 d.w4f ["self","elder","promise","cap","weight"] (wb1 K d):=by
 exists T.wca.ok wao
 .right
 obtain⟨x,dx,o,rfl,hx,q⟩:=h;exists (qa2 (qcf (pv 0) (pv 1) rfl)
  (qa2 (qcf (pv 0) (pv 2) rfl)
  (qa2 (qcf (pv 0) (pv 3) rfl)
  (qa5 (qcf (pv 0) (pv 4) rfl))))),[sr x,some (eV o.el),sr o.pa,sr o.ca,some (.int o.w)];have cl:=T.w1t;have n1:qap K d.w06 "elder":=T.w0u;have n2:qap K d.w06 "promise":=T.w0d;have n3:qap K d.w06 "cap":=T.w18;have n4:qap K d.w06 "weight":=T.w0z;left;refine qec qa1 cl n2 (by show 1<1000;decide) ?_;left;refine qec qa1 cl n3 (by show 2<1000;decide) ?_;left;refine qec qa1 cl n4 (by show 3<1000;decide) ?_;left;refine q _ (by rw[qa1];rfl) fun b u hb e=>?_;rw[qa7 hb,qa7 hb,qa7 hb,qa7 hb];exact e
inductive sp_read_house(K:uS)(d:Ad)(vs:List V)(H:Hp)(Q:VK)(E:XK):Prop
 |mk(w a b:Addr)(el:Option Str)(ws:List Str)(ka kb:List (Key×V))(f g:Str->Option Int)(wt:Int)(_:vs=[.ref w,eV el,.ref a,.ref b,.int wt])(_:H w=some (.lst (ws.map V.str)))(_:H a=some (.dK ka))(_:AD ka f)(_:ka.length<=1000)(_:H b=some (.dK kb))(_:AD kb g)(_:kb.length<=1000)(_:(∀z n,f z=some n->z∈ws/\0<=n/\n<=10^30))(_:(∀z n,g z=some n->z∈ws/\0<=n/\n<=10^30))(_:1<=wt)(_:wt<=1000)(_:∀h o H',Same H H'->H h=none->H o.pa=none->H o.ca=none->HoAt d H' h o->o.el=el->o.w=wt->(∀z,o.fp z=qdi f z)->(∀z,o.fc z=qdi g z)->Q (.ref h) H')
include T in
theorem w6y:FnOk P w K mg base (My.CX1 P w) 5 d.w5h d.w4o ["wares","elder","promise","cap","weight"] (sp_read_house K d):=by
 exists okX T.w59 w4l
 .right
 obtain⟨w,a,b,el,ws,ka,kb,f,g,wt,rfl,hw,ha,hA,hz,hb,hB,hz2,hf,hg,w0,w1,q⟩:=h;exists (qa2 (qae (i:=5) w4l.nd rfl (uF rfl) (qav ((w74 T).mono ∅) hr rfl T.w86 T.w5e.kp T.w8g .nil qaq #[pv 2,pv 0]))
  (qa2 (qae (i:=6) w4l.nd rfl (uF rfl) (qav ((w74 T).mono ∅) hr rfl T.w86 T.w5e.kp T.w8g .nil qaq #[pv 3,pv 0]))
  (qa2 (qb4 (qbz (qbg (qaf ((w4t T).mono ∅) hr rfl T.w5f T.w3l.kp T.w5j .nil qay #[pv 4,qa6,qez rfl T.w7b T.w0y]))) (qa5 (qc9 rfl T.wef rfl T.wf3 qaq #[qd2])) qak)
  (qa5 (qad (pe_make T.w75 ((wbe T).mono ∅) hr rfl T.wi7 T.wc2 .nil qay #[pv 1,pv 5,pv 6,pv 4])))))),[sr w,some (eV el),sr a,sr b,some (.int wt),none,none];left;refine⟨a,w,ka,f,ws,rfl,ha,hA,hz,hw,hf,fun lp kp H1 s1 hlp ep hAp=>?_⟩;left;refine⟨b,w,kb,g,ws,rfl,s1 _ _ hb,hB,hz2,s1 _ _ hw,hg,fun lc kc H2 s2 hlc ec hAc=>?_⟩;left;refine⟨wt,1,1000,rfl,w0,w1,?_⟩;left;intro x dx hx hdx ne;have ep2:=s2 _ _ ep;refine⟨x,dx,⟨el,lp,kp,qdi f,lc,kc,qdi g,wt⟩,rfl,qa1,fun H3 ex sb=>⟨rfl,?_⟩⟩;have s3:Same H2 H3:=fun c o hc=>sb c o (qa9 hc hx) (by rw[qa7 (qa9 hc hx),qa7 (qa9 hc hdx)];exact hc);left;exact q x ⟨el,lp,kp,qdi f,lc,kc,qdi g,wt⟩ H3 ((s1.trans s2).trans s3) ((s1.trans s2).free hx) hlp (s1.free hlc) ⟨⟨dx,ex⟩,s3 _ _ ep2,hAp,s3 _ _ ec,hAc⟩ rfl rfl (fun _=>rfl) fun _=>rfl
def qb6{o:HO}(s:Same H H')(n:H a=none):Same H (upd H' a o):=fun b u e=>by rw[qa7 (qa9 e n)];exact s b u e
def isL(c:Nat):Bool:=decide (97<=c) && decide (c<=122)
theorem inL:∀c:Nat,c<128->(!(aL (Str.ofString "abcdefghijklmnopqrstuvwxyz") ⟨(List.toArray [c])⟩ 0 (Str.ofString "abcdefghijklmnopqrstuvwxyz").length 1).isEmpty)=isL c:=by decide+kernel
def qf1(x:Str):List Nat:=x.cps.toList
def qf0(x:Str):Bool:=decide (1<=x.length) && decide (x.length<=8) && (qf1 x).all isL
theorem len_codes(x:Str):(qf1 x).length=x.length:=by simp[qf1,Str.length]
theorem goodS_of(h:qf0 z=true):1<=z.length/\z.length<=8/\∀c∈qf1 z,isL c=true:=by
 unfold qf0 at h;rw[wH,wH,zZ] at h;exact⟨of_decide_eq_true h.1.1,of_decide_eq_true h.1.2,h.2⟩
theorem isL_lt{c:Nat}(h:isL c=true):c<128:=by
 unfold isL at h;rw[wH] at h;have:=of_decide_eq_true h.2;omega
def wek(K:uS)(d:Ad):Sp:=fun vs H Q _=>∃z,vs=[.str z]/\qf0 z=true/\∀H',Same H H'->Q (.bl true) H'
include T in
theorem wab:FnOk P w K mg base CX0 1 d.w9h d.w80 ["thing"] (wek K d):=by
 exists T.w99.ok weg
 .right
 obtain⟨z,rfl,hg,q⟩:=h;obtain⟨h1,h8,hL⟩:=goodS_of hg;have lz:=len_codes z;refine⟨_,(qa2 (qb4 (qbz (qbg (qag qbm rfl T.w07 vE #[pv 0,qca (v:=.ty "str") rfl T.wgx bC rfl]))) (qa5 (qad qcg)) qak)
  (qa2 (qb4 (PW.pt (qdx (qai op_lt (qag call_lenS rfl T.w3r vP #[pv 0]) qa6 (qar _)) (qdz (qai qft (qag call_lenS rfl T.w3r vP #[pv 0]) (qez rfl T.w9w T.w1p) (qar _))))) (qa5 (qad qcg)) qak)
  (qa5 (qad (qag (qev rfl) rfl T.wgk bD #[qch (caps:=[]) (cn:=[]) (qc6 rfl rfl (by rfl) (by rfl) rfl trivial (by rfl) rfl trivial ∅) rfl (pi_str (pv 0)) (fun _ _ _ _=>qdd) (fun _ _ _ _=>(qci op_inS (pv 0) (qez rfl T.wg0 T.w55) (by rfl)))]))))),?_⟩
 walk_at"d"
 try dsimp only[cxC]
 refine qac (σ:=[some (.str z)]) rfl ?_;left;intro C s0 H0 fp acc hacc;refine c_by z.length (fun i H'=>H'=upd H acc (.lst (((qf1 z).take i).map fun c=>V.bl (isL c)))) (by simp) (fun i H' hi _=>hi) (fun H' _=>rfl) ?_ ?_
 .rintro i H' v H'' hi rfl ⟨rfl,c,hc,rfl⟩;have hc':(qf1 z)[i]?=some c:=by unfold qf1;rw[bB];exact hc
  have c128:=isL_lt (hL c (zF hc'));left;rw[inL c c128,qcx]
  congr 2
  rw[zO,hc',zL];rfl
 .rintro H' rfl;left;have e1:((qf1 z).take z.length).map (fun c=>V.bl (isL c))=((qf1 z).map isL).map V.bl:=by
   rw[<-lz,zK,yM];rfl
  rw[e1];refine r_all (bs:=(qf1 z).map isL) (SqL.of qa1) ?_;have e2:((qf1 z).map isL).all id=true:=by
   rw[fU,zZ];exact hL
  rw[e2];left;exact q _ (qa4 hacc _)
def wba(K:uS)(d:Ad):Sp:=fun vs H Q _=>∃z,vs=[.str z]/\qf0 z=true/\∀H',Same H H'->Q .non H'
include T in
theorem w76:FnOk P w K mg base (My.CX1 P w) 2 d.w4x d.w4p ["thing"] (wba K d):=by
 exists okX T.w5o wau
 .right
 obtain⟨z,rfl,hg,q⟩:=h;exists qa5 (qb4 (qbz (qbg (qaf ((wab T).mono ∅) hr rfl T.wbn T.w99.kp T.wbx .nil qay #[pv 0]))) (qa5 (qc9 rfl T.wh6 rfl T.wgl qaq #[qd2])) qak),[some (.str z)];left;refine⟨z,rfl,hg,fun H' sm=>?_⟩;left;exact q _ sm
structure GoodT(ws:List Str):Prop where
 lo:1<=ws.length
 hi:ws.length<=6
 ok:∀z∈ws,qf0 z=true
 nd:ws.Nodup
def wbj(K:uS)(d:Ad):Sp:=fun vs H Q _=>∃(a:Addr)(ws:List Str),vs=[.ref a]/\H a=some (.lst (ws.map V.str))/\GoodT ws/\∀H',Same H H'->Q (.bl true) H'
include T in
theorem wbp:FnOk P w K mg base CX0 2 d.w6i d.w5g ["thing"] (wbj K d):=by
 exists T.w9j.ok wbk
 .right
 obtain⟨a,ws,rfl,ha,g,q⟩:=h;have g1:=g.lo;have g2:=g.hi;have hl:(ws.map V.str).length=ws.length:=zA _;refine⟨_,(qa2 (qb4 (PW.pt (qdx (qbz (qbg (qag qbm rfl T.w07 vE #[pv 0,qca (v:=.ty "list") rfl T.wai xC rfl]))) (qdx (qai op_lt (qag qba rfl T.w3r vP #[pv 0]) qa6 (qar _)) (qdz (qai qft (qag qba rfl T.w3r vP #[pv 0]) (qez rfl T.wc8 T.w2n) (qar _)))))) (qa5 (qad qcg)) qak)
  (qa5 (qad (qej (qag (qev rfl) rfl T.wgk bD #[qch (caps:=[]) (cn:=[]) (qc6 rfl rfl (by rfl) (by rfl) rfl trivial (by rfl) rfl trivial ∅) rfl (qaw (pv 0)) (fun _ _ _ _=>qdd) (fun _ _ _ _=>(qaf ((wab T).mono ∅) hr rfl T.wbn T.w99.kp T.wbx .nil qay #[pv 0]))]) (qei (qci qel (qag call_lenT rfl T.w3r vP #[qb7 call_setT rfl T.wir PyProof.Rows.boot_set #[pv 0]]) (qag qba rfl T.w3r vP #[pv 0]) (qar _))))))),?_⟩
 walk_at"d"
 try dsimp only[cxC]
 refine qac (σ:=[sr a]) rfl ?_;left;intro C s0 H0 fp acc hacc;refine c_by ws.length (fun i H'=>Same H H'/\H' acc=some (.lst ((vZ i true).map V.bl))) ⟨qa4 hacc _,qa1⟩ ?_ ?_ ?_ ?_
 .rintro i H' hi ⟨sm,_⟩;exact⟨_,.str ws[i],SqL.of (sm _ _ ha),by rw[zC,zB hi];rfl⟩
 .rintro H' ⟨sm,_⟩;exact⟨_,SqL.of (sm _ _ ha),by rw[hl];exact uG _⟩
 .rintro i H' v H'' hi ⟨sm,ea⟩ ⟨rfl,hy⟩;have hv:=hy _ (SqL.of (sm _ _ ha));rw[zC,zB hi] at hv
  cases hv
  left;refine⟨ws[i],rfl,g.ok _ (zX hi),fun H2 s2=>?_⟩;refine⟨_,s2 _ _ ea,by rw[zA,yF];show _<16777216;omega,qb6 (sm.trans s2) hacc,?_⟩;rw[qa1,List.replicate_succ',zL];rfl
 rintro H' ⟨sm,ea⟩;left;refine r_all (bs:=vZ ws.length true) (SqL.of ea) ?_;have e2:(vZ ws.length true).all id=true:=by simp
 rw[e2];left;refine r_setT (zs:=ws) (SqL.of (sm _ _ ha)) g.nd #[] fun c hc=>?_;left;refine r_lenT2 qa1 ?_;left;refine r_lenL (SqL.of (qaa (sm _ _ ha) hc)) ?_;left;rw[hl,gK rfl];exact q _ (sm.trans (qa4 hc _))
def Fin(ws:List Str)(f:Str->Option Int):Prop:=∀z n,f z=some n->z∈ws/\0<=n/\n<=10^30
theorem posF_some{n:Int}(h:qdi f y=some n):f y=some n/\0<n:=by
 unfold qdi at h
 cases e:f y with
 |none=>rw[e] at h;cases h
 |some m=>
  rw[e] at h;by_cases c:0<m
  .have h':some m=some n:=by simpa[c] using h
   cases h'
   exact⟨rfl,c⟩
  .exact absurd h (by simp[c])
theorem gN_posF(hf:Fin ws f)(y:Str):gN (qdi f) y=gN f y:=by
 unfold gN qdi
 cases e:f y with
 |none=>rfl
 |some m=>
  have:=(hf y m e).2.1;by_cases c:0<m
  .simp[c]
  .have z:m=0:=by omega
   subst z;rfl
def pos_le{g:Str->Option Int}(hg:Fin ws g)(h:∀y,gN f y<=gN g y):∀z n,qdi f z=some n->n<=gN (qdi g) z:=fun z n e=>by
 have e1:=(posF_some e).1;have:=h z;rw[gN_posF hg];unfold gN at this⊢;rw[e1] at this;exact this
def pos_in(hf:Fin ws f):∀z,qdi f z≠none->z∈ws:=fun z h=>by
 cases e:qdi f z with
 |none=>exact absurd e h
 |some n=>exact(hf z n (posF_some e).1).1
inductive sp_Tree_init(K:uS)(d:Ad)(vs:List V)(H:Hp)(Q:VK)(E:XK):Prop
 |mk(x dx w a b:Addr)(z:Str)(ws:List Str)(ka kb:List (Key×V))(f g:Str->Option Int)(wt:Int)(_:vs=[.ref x,.ref w,.str z,.ref a,.ref b,.int wt])(_:H x=some (.ins d.w01 dx []))(_:H w=some (.lst (ws.map V.str)))(_:GoodT ws)(_:qf0 z=true)(_:H a=some (.dK ka))(_:AD ka f)(_:ka.length<=1000)(_:H b=some (.dK kb))(_:AD kb g)(_:kb.length<=1000)(_:Fin ws f)(_:Fin ws g)(_:1<=wt)(_:wt<=1000)(_:(∀y,gN f y<=gN g y))(_:∀(S:Ts)(e:He) H',SameBut x H H'->qf9 d H' x S->H S.hs=none->H S.sw=none->H e.a=none->H e.x.pa=none->H e.x.ca=none->S.hl=[e]->e.n=z->e.x.el=none->e.x.w=wt->(∀y,e.x.fp y=qdi f y)->(∀y,e.x.fc y=qdi g y)->S.ws.Perm ws->vX S.ws=true->Q .non H')
include T in
theorem wby:FnOk P w K mg base (My.CX1 P w) 6 d.w6l d.w3o ["self","wares","name","promise","cap","weight"] (sp_Tree_init K d):=by
 exists okDX T.wdh w8f
 .right
 obtain⟨x,dx,w,a,b,z,ws,ka,kb,f,g,wt,rfl,hx,hw,gt,gz,ha,hA,za,hb,hB,zb,ff,fg,w0,w1,le,q⟩:=h;have g2:=gt.hi;exists (qa2 (qb4 (qbz (qbg (qaf ((wbp T).mono ∅) hr rfl T.wcg T.w9j.kp T.wdd .nil qay #[pv 1]))) (qa5 (qc9 rfl T.we9 rfl T.we4 qaq #[qd2])) qak)
  (qa2 (qbn (qav ((w76 T).mono ∅) hr rfl T.w87 T.w5o.kp T.w8c .nil qaq #[pv 2]))
  (qa2 (qae (i:=6) w8f.nd rfl (uF rfl) (qav ((w6y T).mono ∅) hr rfl T.w8d T.w59.kp T.w85 .nil qaq #[pv 1,qck,pv 3,pv 4,pv 5]))
  (qa2 (qbn (qav ((w2j T).mono ∅) hr rfl T.w2z T.w1w.kp T.w2y .nil qaq #[pv 2,qau (pv 6) rfl,qau (pv 6) rfl]))
  (qa2 (qcf (pv 0) (qag qgl rfl T.w33 wB #[pv 1]) rfl)
  (qa5 (qcf (pv 0) (pe_disp (pps_cons (pv 2) (pv 6) pps_nil) rfl rfl (by simp) ∅) rfl))))))),[sr x,sr w,some (.str z),sr a,sr b,some (.int wt),none];have ct:=T.w03;have ch:=T.w1t;have n1:qap K d.w01 "sorted_wares":=T.w0c;have n2:qap K d.w01 "houses":=T.w04;have n3:qap K d.w06 "promise":=T.w0d;have n4:qap K d.w06 "cap":=T.w18;left;refine⟨w,ws,rfl,hw,gt,fun H1 s1=>?_⟩;left;refine⟨z,rfl,gz,fun H2 s2=>?_⟩;have t2:=s1.trans s2;left;refine⟨w,a,b,none,ws,ka,kb,f,g,wt,rfl,t2 _ _ hw,t2 _ _ ha,hA,za,t2 _ _ hb,hB,zb,ff,fg,w0,w1,fun h o H3 s3 nh np nc hO eel ew efp efc=>?_⟩;obtain⟨⟨dh,ho⟩,hp,hpA,hc,hcA⟩:=id hO;have efp':o.fp=qdi f:=funext efp;have efc':o.fc=qdi g:=funext efc;have lk:o.kp.length<=ws.length:=hpA.le (by rw[efp'];exact pos_in ff);left;refine⟨.str z,o.pa,o.ca,o.kp,o.kc,o.fp,o.fc,rfl,.inl hp,.inl hc,hpA,hcA,#[],by rw[efp',efc'];exact pos_le fg le,fun H4 s4=>?_⟩;have t4:=(t2.trans s3).trans s4;have hx4:=t4 _ _ hx;have hO4:=hO.same s4;left;refine r_sortL (SqL.of (t4 _ _ hw)) #[] fun l ss hl hpm hs=>?_;left;rename_i p hpp;rw[qcx];refine qec (qaa qa1 hpp) ct n2 (by show 1<1000;decide) ?_;left;have npx:p≠x:=fun e=>by subst e;rw[qa1] at hpp;cases hpp
 have np4':upd H4 l (.lst (ss.map V.str)) p=none:=by rw[qa7 npx] at hpp;exact hpp
 have nlx:x≠l:=qa9 hx4 hl;have npl:p≠l:=fun e=>by subst e;rw[qa1] at np4';cases np4'
 have np4:H4 p=none:=by rw[qa7 npl] at np4';exact np4'
 have sF:∀b u,b≠x->H4 b=some u->upd (upd (upd (upd H4 l (.lst (ss.map V.str))) x (.ins d.w01 dx (qe0 "sorted_wares" (V.ref l) []))) p (.dK [(uH z,V.ref h)])) x (.ins d.w01 dx (qe0 "houses" (V.ref p) (qe0 "sorted_wares" (V.ref l) []))) b=some u:=fun b u hb e=>by
  rw[qa7 hb,qa7 (qa9 e np4),qa7 hb,qa7 (qa9 e hl)];exact e
 obtain⟨⟨dh4,ho4⟩,hp4,hpA4,hc4,hcA4⟩:=hO4;refine q ⟨l,ss,p,[⟨z,h,o⟩]⟩ ⟨z,h,o⟩ _ (fun b u hb e=>sF b u hb (t4 _ _ e)) ⟨⟨dx,by rw[qa1];rfl⟩,?_,?_,zW.mpr ⟨by simp,yJ⟩,by show 1<=60;decide,fun e he=>?_⟩ (t4.free np4) (t4.free hl) (t2.free nh) (t2.free np) (t2.free nc) rfl rfl eel ew efp efc hpm hs
 .show upd _ _ _ l=_;rw[qa7 nlx.symm,qa7 npl.symm,qa7 nlx.symm,qa1]
 .show upd _ _ _ p=_;rw[qa7 npx,qa1];rfl
 .have e':e=⟨z,h,o⟩:=by simpa using he
  subst e';have n1:∀{b:Addr} {u:HO},H4 b=some u->u≠ .ins d.w01 dx []->b≠x:=fun e1 e2 e3=>by
   subst e3;rw[hx4] at e1;exact e2 (uQ e1).symm
  refine⟨⟨dh4,sF _ _ (n1 ho4 fun e=>?_) ho4⟩,sF _ _ (n1 hp4 fun e=>by cases e) hp4,hpA4,sF _ _ (n1 hc4 fun e=>by cases e) hc4,hcA4⟩;have:=congrArg (fun u:HO=>match u with| .ins _ _ fs=>fs.length|_=>0) e;simp[fsH] at this
def upL(el:Nat->Nat):Nat->Nat->List Nat
 |0,k=> [k]
 |f+1,k=>k ::(if k=0 then[] else upL el f (el k))
def qc1(el:Nat->Nat)(k:Nat):List Nat:=upL el k k
def Low(el:Nat->Nat)(n:Nat):Prop:=∀k,0<k->k<n->el k<k
theorem upL_eq(lo:Low el n):∀(f k:Nat),k<n->k<=f->upL el f k=qc1 el k:=by
 intro f
 induction f using bR with
 |ind f ih=>
  intro k kn kf
  cases f with
  |zero=>have:k=0:=#[];subst this;rfl
  |succ f=>
   cases k with
   |zero=>rfl
   |succ k=>
    have l:=lo (k+1) #[] kn;show(k+1) ::(if k+1=0 then[] else upL el f (el (k+1)))=(k+1) ::(if k+1=0 then[] else upL el k (el (k+1)));rw[gI #[],gI #[],ih f #[] (el (k+1)) #[] #[]];rcases bW k f with h|h
    .rw[ih k #[] (el (k+1)) #[] #[]]
    .have:f=k:=by omega
     subst this;rw[ih f #[] (el (f+1)) #[] #[]]
def qgi(el:Nat->Nat):qc1 el 0=[0]:=rfl
theorem qdu{k:Nat}(lo:Low el n)(k0:0<k)(kn:k<n):qc1 el k=k::qc1 el (el k):=by
 cases k with
 |zero=>omega
 |succ k=>
  have l:=lo (k+1) k0 kn;show(k+1) ::(if k+1=0 then[] else upL el k (el (k+1)))=_;rw[gI #[],upL_eq lo k _ #[] #[]]
theorem qfw(lo:Low el n):∀k,k<n->(qc1 el k).length<=k+1:=by
 intro k
 induction k using bR with
 |ind k ih=>
  intro kn
  cases k with
  |zero=>exact uG _
  |succ k=>
   have l:=lo (k+1) #[] kn;rw[qdu lo #[] kn,zR];have:=ih (el (k+1)) l #[];omega
theorem lineN_self{k:Nat}(lo:Low el n)(kn:k<n):k∈qc1 el k:=by
 cases k with
 |zero=>exact zG ..
 |succ k=>rw[qdu lo #[] kn];exact zG ..
theorem qcu(lo:Low el n):∀k,k<n->∀j∈qc1 el k,j<=k:=by
 intro k
 induction k using bR with
 |ind k ih=>
  intro kn j hj
  cases k with
  |zero=>rw[qgi] at hj;simp at hj;omega
  |succ k=>
   have l:=lo (k+1) #[] kn;rw[qdu lo #[] kn] at hj;rcases zP.mp hj with h|h
   .omega
   .have:=ih (el (k+1)) l #[] j h;omega
structure Pl(S:Ts)(nm:Nat->Str)(el:Nat->Nat)(n:Nat):Prop where
 len:S.hl.length=n
 nam:∀k e,S.hl[k]?=some e->e.n=nm k/\e.x.el=if k=0 then none else some (nm (el k))
 inj:∀i j,i<n->j<n->nm i=nm j->i=j
 low:Low el n
section
variable{S:Ts}{nm:Nat->Str}{el:Nat->Nat}{n:Nat}
theorem Pl.get(p:Pl S nm el n){k:Nat}(kn:k<n):∃e,S.hl[k]?=some e/\e.n=nm k/\e.x.el=if k=0 then none else some (nm (el k)):=by
 have h:k<S.hl.length:=by rw[p.len];exact kn
 have e:=zB h;exact⟨_,e,p.nam k _ e⟩
theorem Pl.ix(p:Pl S nm el n){e:He}(h:e∈S.hl):∃k,k<n/\S.hl[k]?=some e/\e.n=nm k/\e.x.el=if k=0 then none else some (nm (el k)):=by
 obtain⟨k,hk,q⟩:=zU.mp h;have e1:S.hl[k]?=some e:=by rw[zB hk,q]
 exact⟨k,by rw[<-p.len];exact hk,e1,p.nam k e e1⟩
theorem Pl.nodup(p:Pl S nm el n):(S.hl.map (·.n)).Nodup:=by
 show List.Pairwise _ _;rw[aY,aB];intro i j hi hj lt q;have h1:=(p.nam i _ (zB hi)).1;have h2:=(p.nam j _ (zB hj)).1;have:=p.inj i j (by rw[<-p.len];exact hi) (by rw[<-p.len];exact hj) (by rw[<-h1,<-h2];exact q);omega
theorem Pl.at(p:Pl S nm el n){k:Nat}(kn:k<n):∃e,S.at (nm k)=some e/\S.hl[k]?=some e/\e.x.el=if k=0 then none else some (nm (el k)):=by
 obtain⟨e,h1,h2,h3⟩:=p.get kn;have:=at_of p.nodup (zF h1);rw[h2] at this;exact⟨e,this,h1,h3⟩
theorem Pl.line(p:Pl S nm el n):∀k,k<n->LineOf S (nm k) ((qc1 el k).map nm):=by
 intro k
 induction k using bR with
 |ind k ih=>
  intro kn;obtain⟨e,h1,_,h3⟩:=p.at kn
  cases k with
  |zero=>exact .top h1 h3
  |succ k=>
   have l:=p.low (k+1) #[] kn;rw[gI #[]] at h3;rw[qdu p.low #[] kn,zV];exact .up h1 h3 (ih _ l #[])
def Pl.wf(p:Pl S nm el n):WF S:=⟨p.nodup,fun e he=>by
 obtain⟨k,kn,_,h,_⟩:=p.ix he;rw[h];exact⟨_,p.line k kn⟩⟩
theorem Pl.kid(p:Pl S nm el n){j:Nat}{y:Str}(jn:j<n)(h:y∈qbr S (nm j)):∃k,0<k/\k<n/\el k=j/\y=nm k:=by
 obtain⟨e,he,rfl⟩:=zI.mp h;obtain⟨hm,hd⟩:=yA.mp he;obtain⟨k,kn,_,h1,h2⟩:=p.ix hm;have hd':e.x.el=some (nm j):=of_decide_eq_true hd;rw[h2] at hd';by_cases z:k=0
 .rw[gJ z] at hd';cases hd'
 .rw[gI z] at hd';have l:=p.low k #[] kn;exact⟨k,#[],kn,p.inj _ _ #[] jn (uQ hd'),h1⟩
theorem Pl.dep(p:Pl S nm el n):∀m j,j<n->n<=j+m+1->Dep S m (nm j):=by
 intro m
 induction m with
 |zero=>
  intro j jn hn;show qbr S (nm j)=[]
  cases e:qbr S (nm j) with
  |nil=>rfl
  |cons y r=>
   obtain⟨k,k0,kn,ke,_⟩:=p.kid jn (y:=y) (by rw[e];exact zG ..);have:=p.low k k0 kn;omega
 |succ m ih=>
  intro j jn hn y hy;obtain⟨k,k0,kn,ke,rfl⟩:=p.kid jn hy;have:=p.low k k0 kn;exact ih k kn #[]
end
theorem ad_oK{k:List (Key×V)}(hk:AD k f){ks:List (Str×Addr)}{z:Str}{h:Addr}(hl:qdf ks z=some h):HO.dK k≠ .dK (oK ks):=fun e=>by
 have e2:k=oK ks:=by injection e
 subst e2;have g1:=hk.get z;rw[qgn,hl] at g1
 cases hf:f z with
 |none=>rw[hf] at g1;cases g1
 |some n=>rw[hf] at g1;cases g1
def w72(K:uS)(d:Ad):Sp:=fun vs H Q E=>∃(t a b:Addr)(S:Ts)(z:Str)(xe:V)(ka kb:List (Key×V))(f g:Str->Option Int)(wt:Int),vs=[.ref t,.str z,xe,.ref a,.ref b,.int wt]/\qf9 d H t S/\qf0 z=true/\S.at z=none/\qf3 K H xe/\
 (who S xe=none->∀H',Same H H'->E (.ref d.w0l) none H')/\
 ∀e,who S xe=some e->WF S/\qh8 S/\S.ws.length<=50/\H a=some (.dK ka)/\AD ka f/\ka.length<=1000/\H b=some (.dK kb)/\AD kb g/\kb.length<=1000/\Fin S.ws f/\Fin S.ws g/\1<=wt/\wt<=1000/\S.hl.length<40/\
  (∃zs,LineOf S e.n zs/\zs.length<12/\∀y∈zs,∃e',S.at y=some e'/\Dep S 12 y/\∀bs,Ben S 12 y bs->∀v n,qh6 (sumF (bs.map (ptOf S))) (qdi f) v=some n->n<=gN e'.x.fc v)/\(∀y,gN f y<=gN g y)/\
  ∀(e2:He) H',SameBut S.hs H H'->H e2.a=none->H e2.x.pa=none->H e2.x.ca=none->qf9 d H' t {S with hl:=S.hl++[e2]}->e2.n=z->e2.x.el=some e.n->e2.x.w=wt->(∀y,e2.x.fp y=qdi f y)->(∀y,e2.x.fc y=qdi g y)->Q .non H'
include T in
theorem was:FnOk P w K mg base (My.CX1 P w) 19 d.w51 d.w32 ["self","name","elder","promise","cap","weight"] (w72 K d):=by
 exists okDX T.wcc w4a
 .right
 obtain⟨t,a,b,S,z,xe,ka,kb,f,g,wt,rfl,hT,gz,nz,hx,q2,q1⟩:=h;exists (qa2 (qbn (qav ((w76 T).mono ∅) hr rfl T.w87 T.w5o.kp T.w8c .nil qaq #[pv 1]))
  (qa2 (qb4 (qbg (pe_meth (pv 0) T.w03 T.w2i ((w92 T).mono ∅) hr T.wam .nil qay #[pv 1])) (qa5 (qc9 rfl T.wi5 rfl T.wi2 qaq #[qd2])) qak)
  (qa2 (qbn (qb1 (pv 0) T.w03 T.w08 ((w21 T).mono ∅) hr T.w28 .nil qaq #[pv 2]))
  (qa2 (qae (i:=6) w4a.nd rfl (uF rfl) (qav ((w6y T).mono ∅) hr rfl T.w8d T.w59.kp T.w85 .nil qaq #[qau (pv 0) rfl,pv 2,pv 3,pv 4,pv 5]))
  (qa2 (qb4 (qai op_ge (qag qgm rfl T.w3r vP #[qau (pv 0) rfl]) (qez rfl T.waw T.w29) (qar _)) (qa5 (qc9 rfl T.wfl rfl T.wfk qaq #[qd2])) qak)
  (qa2 (qae (i:=7) w4a.nd rfl (uF rfl) (qb1 (pv 0) T.w03 T.w0j ((w23 T).mono ∅) hr T.w2k .nil qaq #[pv 2]))
  (qa2 (qb4 (qai op_ge (qag qba rfl T.w3r vP #[pv 7]) (qez rfl T.wa3 T.w1q) (qar _)) (qa5 (qc9 rfl T.wfr rfl T.wf8 qaq #[qd2])) qak)
  (qa2 (qbn (qav ((w2j T).mono ∅) hr rfl T.w2z T.w1w.kp T.w2y .nil qaq #[pv 1,qau (pv 6) rfl,qau (pv 6) rfl]))
  (qa2 (qbn (qb1 (pv 0) T.w03 T.w0r ((w70 T).mono ∅) hr T.w7q .nil qaq #[pv 7,qau (pv 6) rfl]))
  (qa5 (qbh (qat hr) (qau (pv 0) rfl) (pv 1) (pv 6) rfl))))))))))),[sr t,some (.str z),some (xe),sr a,sr b,some (.int wt),none,none];have ct:=T.w03;have ch:=T.w1t;have n1:qap K d.w01 "sorted_wares":=T.w0c;have n2:qap K d.w01 "houses":=T.w04;have n3:qap K d.w06 "promise":=T.w0d;have n4:qap K d.w06 "cap":=T.w18;left;refine⟨z,rfl,gz,fun H1 s1=>?_⟩;have hT1:=hT.same s1;obtain⟨dx,ht⟩:=id hT1.1;left;refine⟨t,S,.str z,rfl,hT1,.inl ⟨z,rfl⟩,?_⟩;rw[show who S (.str z)=none from nz];left;show if false=true then _ else _
 left;refine⟨t,S,xe,rfl,hT1,hx.same s1,fun e he=>?_,fun he=>q2 he H1 s1⟩;obtain⟨hW,hO,hws,ha,hA,za,hb,hB,zb,ff,fg,w0,w1,h40,⟨zs,hL,hz12,hy⟩,le,q⟩:=q1 e he;obtain⟨y,rfl⟩:∃y,xe=.str y:=by
  rcases hx with h|⟨_,nz'⟩
  .exact h
  .rw[qdh nz'] at he;cases he
 have ey:e.n=y:=(qd7 he).2;have hsw:=hT1.2.1;left;refine⟨S.sw,a,b,some y,S.ws,ka,kb,f,g,wt,rfl,hsw,s1 _ _ ha,hA,za,s1 _ _ hb,hB,zb,ff,fg,w0,w1,fun h o H3 s3 nh np nc hOo eel ew efp efc=>?_⟩;obtain⟨⟨dh,ho⟩,hp,hpA,hc,hcA⟩:=id hOo;have efp':o.fp=qdi f:=funext efp;have efc':o.fc=qdi g:=funext efc;have lk:o.kp.length<=S.ws.length:=hpA.le (by rw[efp'];exact pos_in ff);have hT3:=hT1.same s3;obtain⟨⟨dx3,ht3⟩,hw3,hh3,nd3,hz3,hE3⟩:=id hT3;left;refine r_lenD hh3 ?_;rw[qfi];left;refine⟨t,S,.str y,rfl,hT3,.inl ⟨y,zs,rfl,by rw[<-ey];exact hL,#[],fun l hl=>?_⟩⟩;have s4:=qa4 hl (.lst (zs.map V.str));have eL:upd H3 l (.lst (zs.map V.str)) l=some (.lst (zs.map V.str)):=qa1;have hzl:(zs.map V.str).length=zs.length:=zA _;generalize upd H3 l (.lst (zs.map V.str))=H4 at*;have ho4:=s4 _ _ ho;have hp4:=s4 _ _ hp;have hc4:=s4 _ _ hc;left;refine⟨.str z,o.pa,o.ca,o.kp,o.kc,o.fp,o.fc,rfl,.inl hp4,.inl hc4,hpA,hcA,#[],by rw[efp',efc'];exact pos_le fg le,fun H5 s5=>?_⟩;have s35:=s4.trans s5;have ho5:=s35 _ _ ho;have hT5:=hT3.same s35;obtain⟨dx5,ht5⟩:=id hT5.1;left;refine⟨t,l,o.pa,S,zs,o.kp,o.fp,rfl,hT5,hW,hO,SqL.of (s5 _ _ eL),s35 _ _ hp,hpA,hws,by rw[efp'];exact pos_in ff,by rw[efp'];exact hy,fun H6 s6=>?_⟩;have s36:=s35.trans s6;have s16:=s3.trans s36;have s06:=s1.trans s16;obtain⟨⟨dx6,ht6⟩,hw6,hh6,nd6,hz6,hE6⟩:=hT3.same s36;left;have lkn:qdf S.keys z=none:=by rw[qe5,nz];rfl
 have hksz:(oK S.keys).length<sizeLine:=by rw[qfi];show _<16777216;omega
 refine r_dpk hh6 hksz ?_;rw[putK_oK lkn];left;have sF:∀b u,b≠S.hs->H6 b=some u->upd H6 S.hs (.dK (oK (S.keys++[(z,h)]))) b=some u:=fun b u hb e=>by rw[qa7 hb];exact e
 have nH:∀{b:Addr} {u:HO},H6 b=some u->u≠ .dK (oK S.keys)->b≠S.hs:=fun e1 e2 e3=>by
  subst e3;rw[hh6] at e1;exact e2 (uQ e1).symm
 have hT1':=hT1;have fresh:∀{b:Addr} {u:HO},H1 b=none->H6 b=some u->b≠S.hs:=fun e1 _ e3=>by
  subst e3;rw[hT1'.2.2.1] at e1;cases e1
 refine q ⟨z,h,o⟩ _ (fun b u hb e=>sF b u hb (s06 _ _ e)) (s1.free nh) (s1.free np) (s1.free nc) ⟨⟨dx6,sF _ _ (nH ht6 (by intro e;cases e)) ht6⟩,sF _ _ (nH hw6 (by intro e;cases e)) hw6,?_,?_,?_,fun e1 he1=>?_⟩ rfl (by rw[ey];exact eel) ew efp efc
 .show upd _ _ _ S.hs=some (.dK (oK (Ts.keys _)));rw[qa1];unfold Ts.keys;rw[zL];rfl
 .show(List.map _ (S.hl++[_])).Nodup;rw[zL,aZ];refine⟨nd6,zW.mpr ⟨by simp,yJ⟩,fun x hx1 y' hy1 e=>?_⟩;have:y'=z:=by simpa using hy1
  subst this;subst e;obtain⟨e2,m2,rfl⟩:=zI.mp hx1;rw[at_of nd6 m2] at nz
  cases nz
 .show(S.hl++[_]).length<=60;rw[zJ];show _+1<=60;omega
 .rcases zH.mp he1 with m|m
  .obtain⟨⟨dy,hy1⟩,hy2,hy3,hy4,hy5⟩:=hE6 e1 m;have no:∀{k:List (Key×V)} {f:Str->Option Int},AD k f->HO.dK k≠ .dK (oK S.keys):=fun hk=>ad_oK hk (z:=e1.n) (h:=e1.a) (by rw[qe5,at_of nd6 m];rfl);exact⟨⟨dy,sF _ _ (nH hy1 (by intro e;cases e)) hy1⟩,sF _ _ (nH hy2 (no hy3)) hy2,hy3,sF _ _ (nH hy4 (no hy5)) hy4,hy5⟩
  .have:e1=⟨z,h,o⟩:=by simpa using m
   subst this;have h6:=s36 _ _ ho;refine⟨⟨dh,sF _ _ (fresh nh h6) h6⟩,sF _ _ (fresh np (s36 _ _ hp)) (s36 _ _ hp),hpA,sF _ _ (fresh nc (s36 _ _ hc)) (s36 _ _ hc),hcA⟩
abbrev ABC:Str:=Str.ofString "abcdefghijklmnopqrstuvwxyz"
def letc(i:Int):Nat:=97+(i%26).toNat
theorem letAt(g:Int):atI ABC.cps.toList (g%26)=some (letc g):=by
 have e0:=uT g (show(26:Int)≠0 by decide);have e1:=vB g (show(0:Int)<26 by decide);have h:∀k:Nat,k<26->ABC.cps.toList[k]?=some (97+k):=by decide+kernel
 have e:g%26=(((g%26).toNat:Nat):Int):=by omega
 rw[e];rw[qbu (h (g%26).toNat #[])];rfl
theorem letc_isL(g:Int):isL (letc g)=true:=by
 have e0:=uT g (show(26:Int)≠0 by decide);have e1:=vB g (show(0:Int)<26 by decide);unfold isL letc;rw[wH,decide_eq_true_iff,decide_eq_true_iff];omega
theorem letc_inj{g g':Int}(h:letc g=letc g'):g%26=g'%26:=by
 have e0:=uT g (show(26:Int)≠0 by decide);have f0:=uT g' (show(26:Int)≠0 by decide);unfold letc at h;omega
def nmJ(c k:Int)(j:Nat):Nat:=letc (c.fdiv 192+(0+(j:Int))*(c.fdiv 7%11)+k*if decide (0+(j:Int)=c.fdiv 24%(1+c.fdiv 3%8))=true then 1 else 0)
def nmL(c k:Int):List Nat:=if c%3=0 then vZ (1+(k+c.fdiv 78)%8).toNat (letc (c.fdiv 3+k.fdiv 8)) else(vG (1+c.fdiv 3%8).toNat).map (nmJ c k)
def ofL(l:List Nat):Str:=⟨l.toArray⟩
def nmS(c k:Int):Str:=ofL (nmL c k)
theorem qg8(l:List Nat):qf1 (ofL l)=l:=by simp[qf1,ofL]
theorem ofL_inj{l m:List Nat}(h:ofL l=ofL m):l=m:=by rw[<-qg8 l,<-qg8 m,h]
theorem ofL_snoc(l:List Nat)(c:Nat):ofL l++(⟨(List.toArray [c])⟩:Str)=ofL (l++[c]):=by
 have e:(ofL l++(⟨(List.toArray [c])⟩:Str)).cps=(ofL (l++[c])).cps:=by
  rw[Str.cps_append];simp[ofL]
 exact congrArg Str.mk e
theorem ofL_len(l:List Nat):(ofL l).length=l.length:=by simp[ofL,Str.length]
theorem nmS_good(c k:Int):qf0 (nmS c k)=true:=by
 have a0:=uT (k+c.fdiv 78) (show(8:Int)≠0 by decide);have a1:=vB (k+c.fdiv 78) (show(0:Int)<8 by decide);have b0:=uT (c.fdiv 3) (show(8:Int)≠0 by decide);have b1:=vB (c.fdiv 3) (show(0:Int)<8 by decide);unfold qf0 nmS;rw[ofL_len,qg8,wH,wH,decide_eq_true_iff,decide_eq_true_iff,zZ];unfold nmL;by_cases z:c%3=0
 .rw[gJ z,yF];refine⟨#[],fun x hx=>?_⟩;rw[(fA.mp hx).2];exact letc_isL _
 .rw[gI z,zA,cH];refine⟨#[],fun x hx=>?_⟩;obtain⟨j,_,rfl⟩:=zI.mp hx;exact letc_isL _
theorem nmS_inj{c k k':Int}(h0:0<=k)(h1:k<=20)(g0:0<=k')(g1:k'<=20)(h:nmS c k=nmS c k'):k=k':=by
 have hl:=ofL_inj h;unfold nmL at hl;by_cases z:c%3=0
 .rw[gJ z,gJ z] at hl;have hn:=congrArg wF hl;rw[yF,yF] at hn;have a0:=uT (k+c.fdiv 78) (show(8:Int)≠0 by decide);have b0:=uT (k'+c.fdiv 78) (show(8:Int)≠0 by decide);have hc:letc (c.fdiv 3+k.fdiv 8)=letc (c.fdiv 3+k'.fdiv 8):=by
   have m:letc (c.fdiv 3+k.fdiv 8)∈vZ (1+(k+c.fdiv 78)%8).toNat (letc (c.fdiv 3+k.fdiv 8)):=fA.mpr ⟨#[],rfl⟩;rw[hl] at m;exact(fA.mp m).2
  have hc':=letc_inj hc;rw[Int.fdiv_eq_ediv_of_nonneg k ∅,Int.fdiv_eq_ediv_of_nonneg k' ∅] at hc';generalize c.fdiv 78=x at*;generalize c.fdiv 3=y at*;omega
 .rw[gI z,gI z] at hl;have b0:=uT (c.fdiv 3) (show(8:Int)≠0 by decide);have at0:=uT (c.fdiv 24) (show(1+c.fdiv 3%8:Int)≠0 by omega);have at1:=vB (c.fdiv 24) (show(0:Int)<1+c.fdiv 3%8 by omega);have hj:=congrArg (fun l:List Nat=>l[(c.fdiv 24%(1+c.fdiv 3%8)).toNat]?) hl;simp only[zC] at hj;rw[List.getElem?_range #[]] at hj;have hj':nmJ c k (c.fdiv 24%(1+c.fdiv 3%8)).toNat=nmJ c k' (c.fdiv 24%(1+c.fdiv 3%8)).toNat:=by simpa using hj
  unfold nmJ at hj';have e:(0:Int)+(((c.fdiv 24%(1+c.fdiv 3%8)).toNat:Nat):Int)=c.fdiv 24%(1+c.fdiv 3%8):=by omega
  rw[e,gK rfl,gJ rfl] at hj';have:=letc_inj hj';generalize c.fdiv 192+c.fdiv 24%(1+c.fdiv 3%8)*(c.fdiv 7%11)=x at*;omega
def wf4(K:uS)(d:Ad):Sp:=fun vs H Q _=>∃(a:Addr)(ns:List Int)(k:Int),vs=[.ref a,.int k]/\SqL K H a (ns.map V.int)/\0<=k/\Q (.int (cell ns k)) H
include T in
theorem w1m:FnOk P w K mg base CX0 1 d.w9c d.w7s ["_law_script","_law_k"] (wf4 K d):=by
 exists T.w1r.ok wex
 .right
 obtain⟨a,ns,k,rfl,hS,h0,q⟩:=h;exists (qa2 (qb4 (qai op_lt (pv 1) (qag qba rfl T.w3r vP #[pv 0]) (qar _)) (qa5 (qad (qal qax (pv 0) (pv 1) nofun))) qak)
  (qa5 (qad qa6))),[sr a,some (.int k)];left;have hl:(ns.map V.int).length=ns.length:=zA _;refine i_2 (fun c=>?_) (fun c=>?_)
 .rw[hl] at c;left;refine qce hS (cell_at h0 c) ?_;exact q
 .rw[hl] at c;left;rw[cell_out c h0] at q;exact q
def wh1(K:uS)(d:Ad):Sp:=fun vs H Q _=>∃c k:Int,vs=[.int c,.int k]/\0<=k/\k<=10000/\∀r:Int,0<=r->Q (.int r) H
include T in
theorem w8v:FnOk P w K mg base CX0 1 d.wd8 d.wat ["_law_cell","_law_k"] (wh1 K d):=by
 exists T.w8w.ok we2
 .right
 obtain⟨c,k,rfl,k0,k1,q⟩:=h;exists (qa2 (qae (i:=2) we2.nd rfl (uF rfl) (qah qb5 (qah qbx (qah qbx (pv 0) (qah qbc qa6 (pv 1))) qa6) qa6))
  (qa5 (qad (qah qb5 (qah qbc (qah qb5 (qah qbc (pv 2) (pv 2)) qa6) qa6) qa6)))),[some (.int c),some (.int k),none];left;have m0:=uT (c+7919*k+12345) (show(2147483629:Int)≠0 by decide);have m1:=vB (c+7919*k+12345) (show(0:Int)<2147483629 by decide);generalize (c+7919*k+12345)%2147483629=u at*;left;have n0:=uT (u*u) (show(2147483629:Int)≠0 by decide);have n1:=vB (u*u) (show(0:Int)<2147483629 by decide);generalize u*u%2147483629=y at*;left;exact q _ (uT _ ∅)
def wi8(K:uS)(d:Ad):Sp:=fun vs H Q _=>∃c k:Int,vs=[.int c,.int k]/\0<=k/\k<=1000/\Q (.str (nmS c k)) H
include T in
theorem wct:FnOk P w K mg base CX0 1 d.wfe d.wda ["_law_cell","_law_k"] (wi8 K d):=by
 exists T.we8.ok w4n
 .right
 obtain⟨c,k,rfl,k0,k1,q⟩:=h;exists (qa2 (qae (i:=2) w4n.nd rfl (uF rfl) qd2)
  (qa2 (qb4 (qai qel (qah qb5 (pv 0) qa6) qa6 (qar _)) (qa5 (qad (qah op_repC (qal ix_str (pv 2) (qah qb5 (qah qbx (qah qbl (pv 0) qa6) (qah qbl (pv 1) qa6)) qa6) nofun) (qah qbx qa6 (qah qb5 (qah qbx (pv 1) (qah qbl (pv 0) qa6)) qa6))))) qak)
  (qa2 (qae (i:=3) w4n.nd rfl (uF rfl) (qah qbx qa6 (qah qb5 (qah qbl (pv 0) qa6) qa6)))
  (qa2 (qae (i:=4) w4n.nd rfl (uF rfl) (qah qb5 (qah qbl (pv 0) qa6) (pv 3)))
  (qa2 (qae (i:=5) w4n.nd rfl (uF rfl) qd2)
  (qa2 (qb0 vH rfl (qco rfl T.w53 #[pv 3]) (qab (i:=6) w4n.nd rfl (uF rfl)) (qa2 (qae (i:=7) w4n.nd rfl (uF rfl) (qah qbc (pv 1) (qb7 call_intB rfl T.whr dJ #[qci qel (pv 6) (pv 4) (qar _)])))
  (qa2 (qae (i:=8) w4n.nd rfl (uF rfl) (qah qbx (qah qbx (qah qbl (pv 0) qa6) (qah qbc (pv 6) (qah qb5 (qah qbl (pv 0) qa6) qa6))) (pv 7)))
  (qa5 (qae (i:=5) w4n.nd rfl (uF rfl) (qah op_catS (pv 5) (qal ix_str (pv 2) (qah qb5 (pv 8) qa6) nofun)))))))
  (qa5 (qad (pv 5))))))))),[some (.int c),some (.int k),none,none,none,none,none,none,none];left;refine i_2 (fun z=>?_) (fun z=>?_)
 .left;refine r_ixS ∅ (letAt _) ?_;left;have a0:=uT (k+c.fdiv 78) (show(8:Int)≠0 by decide);have a1:=vB (k+c.fdiv 78) (show(0:Int)<8 by decide);refine r_repC #[] #[] ?_;unfold nmS nmL at q;rw[gJ z] at q;exact q
 .left;have b0:=uT (c.fdiv 3) (show(8:Int)≠0 by decide);have b1:=vB (c.fdiv 3) (show(0:Int)<8 by decide);have d0:=uT (c.fdiv 7) (show(11:Int)≠0 by decide);have d1:=vB (c.fdiv 7) (show(0:Int)<11 by decide);have ks:k.natAbs<2^600:=vF (show k.natAbs<=1000 by omega) ∅;have ds:(c.fdiv 7%11).natAbs<2^600:=vF (show(c.fdiv 7%11).natAbs<=11 by omega) ∅;refine qg4 (fun i σ H'=>H'=H/\∃w1 w2 w3,σ=[some (V.int c),some (V.int k),some (V.str ABC),some (V.int (1+c.fdiv 3%8)),some (V.int (c.fdiv 24%(1+c.fdiv 3%8))),some (V.str (ofL ((vG i).map (nmJ c k)))),w1,w2,w3]) ⟨rfl,none,none,none,rfl⟩ ?_ ?_
  .rintro i σ H' hi ⟨rfl,w1,w2,w3,rfl⟩;have is:((0:Int)+(i:Int)).natAbs<2^600:=vF (show((0:Int)+(i:Int)).natAbs<=8 by omega) ∅;left;refine r_ixS ∅ (letAt _) ?_;have lz:(ofL ((vG i).map (nmJ c k))).length=i:=by rw[ofL_len,zA,cH]
   refine r_catS ?_ ?_
   .rw[lz];show _+1<=16777216;omega
   left;have ee:(vG (i+1)).map (nmJ c k)=(vG i).map (nmJ c k)++[nmJ c k i]:=by rw[List.range_succ,zL];rfl
   rw[ofL_snoc,ee];exact⟨rfl,_,_,_,rfl⟩
  .rintro σ H' ⟨rfl,w1,w2,w3,rfl⟩;left;unfold nmS nmL at q;rw[gI z] at q;exact q
def in_w:uJ:=match qbw s_weigher with
 |a::_=>a
 | []=>s_weigher
abbrev qw:Str:="_law_weigher.<locals>._law_weigh_by"
abbrev bdw:List uJ:=wgBody "_law_table" "_law_name_here" ⟨419,15,419,25⟩ ⟨419,26,419,40⟩ ⟨419,15,419,41⟩ ⟨419,8,419,41⟩
theorem mo_w:MadeOk "_law_weigh_by" qw (qbo in_w) bdw (qa8 in_w) "_law_name_here" "_law_table" where
 kind:=rfl
 co:=rfl
 gen:=rfl
 nocell:=by decide+kernel
 par:=rfl
 free:=rfl
 only:=fun y h=>by
  have e:(qa8 in_w).names=[(("_law_name_here":Str),NameKind.local),(("_law_table":Str),NameKind.free)]:=rfl;rw[e,yL] at h
  cases c:y==("_law_name_here":Str) with
  |true=>rw[c] at h;cases h
  |false=>
   rw[c] at h;rw[yL] at h
   cases c2:y==("_law_table":Str) with
   |true=>exact eq_of_beq c2
   |false=>rw[c2] at h;cases h
 bind:=fun cl cd ct doc pm s u=> .of_eq rfl
abbrev WgH(H:Hp)(g t:Addr):Prop:=Wg "_law_weigh_by" qw (qbo in_w) bdw (qa8 in_w) "_law_table" H g t
def w7c(p:Addr):Sp:=spMaker p "_law_weigh_by" qw (qbo in_w) bdw (qa8 in_w) "_law_table"
def wdu{CX:CXT}{P:uY}{w:vL}{K:uS}{mg:Str->Option uB}{base:vQ}{k:Nat}{c p f:Addr}{fd:uK}(F:Fun K "_law_weigher" "_law_weigher" s_weigher f fd)(hm:mg "_law_weigher"=some (.ref f))(kin:K.In base)(hns:base.Ns uR mg)
  (ht:tabIn K "_law_weigher"=some (c,p))(C:dN base c p)(bm:BmAt mg base):FnOk P w K mg base CX (k+1) f fd ["_law_table"] (w7c p):=
 Fun.maker F hm kin hns ht C bm (pos:=⟨418,4,419,41⟩) (p1:=⟨420,11,420,24⟩) (p2:=⟨420,4,420,24⟩) rfl rfl rfl rfl rfl rfl (fun n=>rfl) ∅ (fun L cd=>rfl) rfl rfl (fun L cd=>rfl) (fun L cd=>rfl)
@[irreducible] def gcdI(a b:Int):Int:=((wS a b:Nat):Int)
theorem gcd_step(g s:Int)(hs:0<s):wS s (g%s)=wS g s:=by
 have e:g=s*(g/s)+g%s:=(Int.mul_ediv_add_emod g s).symm;apply Nat.dvd_antisymm
 .have h1:((wS s (g%s):Nat):Int) ∣ s:=gH _ _;have h2:((wS s (g%s):Nat):Int) ∣ g%s:=cI _ _;have h3:((wS s (g%s):Nat):Int) ∣ g:=by
   have:=Int.dvd_add (Int.dvd_trans h1 (Int.dvd_mul_right s (g/s))) h2;rw[<-e] at this;exact this
  exact Int.ofNat_dvd.mp (Int.dvd_coe_gcd h3 h1)
 .have h1:((wS g s:Nat):Int) ∣ g:=gH _ _;have h2:((wS g s:Nat):Int) ∣ s:=cI _ _;have h3:((wS g s:Nat):Int) ∣ g%s:=by
   have:=Int.dvd_sub h1 (Int.dvd_trans h2 (Int.dvd_mul_right s (g/s)));have e2:g-s*(g/s)=g%s:=by omega
   rw[e2] at this;exact this
  exact Int.ofNat_dvd.mp (Int.dvd_coe_gcd h2 h3)
theorem gcd_abs(a b:Int):wS (if a<0 then -a else a) (if b<0 then -b else b)=wS a b:=by
 have ea:(if a<0 then -a else a).natAbs=a.natAbs:=by split<;>omega
 have eb:(if b<0 then -b else b).natAbs=b.natAbs:=by split<;>omega
 unfold wS;rw[ea,eb]
theorem nonneg(a b:Int):0<=gcdI a b:=by unfold gcdI;exact Int.natCast_nonneg _
theorem zero{a b:Int}(h:gcdI a b=0):a=0/\b=0:=by
 unfold gcdI at h;exact Int.gcd_eq_zero_iff.mp #[]
theorem gcdI_pos{t b:Int}(h:b≠0):0<gcdI t b:=by
 have h1:=nonneg t b;have h2:gcdI t b≠0:=fun z=>h (zero z).2;omega
theorem gcdI_le{t b:Int}(h:b≠0):(gcdI t b).natAbs<=b.natAbs:=by
 have hd:gcdI t b ∣ b:=by unfold gcdI;exact cI _ _
 exact Nat.le_of_dvd #[] (Int.natAbs_dvd_natAbs.mpr hd)
def sg'(t b:Int):Int:=if b<0 then-gcdI t b else gcdI t b
theorem low_facts{t b:Int}(hb:b≠0):∃x y:Int,t.fdiv (sg' t b)=x/\b.fdiv (sg' t b)=y/\1<=y/\x*b=y*t/\wS x y=1/\x.natAbs<=t.natAbs/\y.natAbs<=b.natAbs:=by
 have gp:=gcdI_pos (t:=t) hb;have d1:gcdI t b ∣ t:=by unfold gcdI;exact gH _ _
 have d2:gcdI t b ∣ b:=by unfold gcdI;exact cI _ _
 have e1:sg' t b ∣ t:=by unfold sg';split<;>first|exact Int.neg_dvd.mpr d1|exact d1
 have e2:sg' t b ∣ b:=by unfold sg';split<;>first|exact Int.neg_dvd.mpr d2|exact d2
 have s0:sg' t b≠0:=by unfold sg';split<;>omega
 have na:(sg' t b).natAbs=wS t b:=by
  have:(gcdI t b).natAbs=wS t b:=by unfold gcdI;exact wI _
  unfold sg';split<;>omega
 have sgn:0<b/sg' t b:=by
  unfold sg'
  split
  .rename_i n;rw[Int.ediv_neg];have:b/gcdI t b<0:=Int.ediv_neg_of_neg_of_pos n gp;omega
  .exact Int.ediv_pos_of_pos_of_dvd #[] #[] d2
 rw[Int.fdiv_eq_ediv_of_dvd e1,Int.fdiv_eq_ediv_of_dvd e2];generalize hs:sg' t b=s at*;obtain⟨x,hx⟩:=e1;obtain⟨y,hy⟩:=e2;have ex:t/s=x:=by rw[hx];exact Int.mul_ediv_cancel_left _ s0
 have ey:b/s=y:=by rw[hy];exact Int.mul_ediv_cancel_left _ s0
 refine⟨x,y,ex,ey,#[],by rw[hy,hx,<-eI,<-eI,fV x s,fV y s,eI,eI,fV x y],?_,?_,?_⟩
 .have hp:0<wS t b:=Int.gcd_pos_of_ne_zero_right _ hb;have h:=Int.gcd_mul_left s x y;rw[<-hx,<-hy,na] at h;have:wS t b*wS x y=wS t b*1:=by omega
  exact Nat.eq_of_mul_eq_mul_left hp this
 .rw[hx,xM];exact Nat.le_mul_of_pos_left _ #[]
 .rw[hy,xM];exact Nat.le_mul_of_pos_left _ #[]
theorem fr_rat{t b:Int}(hb:b≠0):t.fdiv (sg' t b)=((t:Rat) /(b:Rat)).num/\b.fdiv (sg' t b)=(((t:Rat) /(b:Rat)).den:Int):=by
 obtain⟨x,y,e1,e2,y1,cr,cop,_,_⟩:=low_facts (t:=t) hb;have hy:((y.toNat:Nat):Int)=y:=by omega
 have hc:x.natAbs.Coprime y.toNat:=by
  have e:y.natAbs=y.toNat:=by omega
  have h:Nat.gcd x.natAbs y.natAbs=1:=cop;rw[e] at h;exact h
 have eq:(⟨x,y.toNat,#[],hc⟩:Rat)=(t:Rat) /(b:Rat):=by
  have h1:(⟨x,y.toNat,#[],hc⟩:Rat)=Rat.divInt x ((y.toNat:Nat):Int):=Rat.mk_eq_divInt ..;rw[h1,hy,Rat.divInt_eq_div];have hb':(b:Rat)≠0:=by
   intro h;exact hb (by exact_mod_cast h)
  have hy':(y:Rat)≠0:=by
   intro h;have:y=0:=by exact_mod_cast h
   omega
  have cr':(x:Rat)*(b:Rat)=(y:Rat)*(t:Rat):=by exact_mod_cast cr
  grind
 rw[e1,e2,<-eq];exact⟨rfl,hy.symm⟩
theorem qea(q:Rat):(q.num:Rat) /((q.den:Nat):Rat)=q:=by
 rw[<-uX,<-Rat.divInt_eq_div];exact Rat.num_divInt_den q
theorem qeu(q:Rat):((q.den:Nat):Rat)≠0:=by
 intro h;have:=q.den_nz;exact this (by exact_mod_cast h)
theorem rat_add(a b:Rat):((a.num*(b.den:Int)+b.num*(a.den:Int):Int):Rat) /(((a.den:Int)*(b.den:Int):Int):Rat)=a+b:=by
 have h1:=qea a;have h2:=qea b;have n1:=qeu a;have n2:=qeu b;rw[aH,vK,vK,vK,uX,uX]
 conv=>rhs;rw[<-h1,<-h2]
 grind
theorem rat_sub(a b:Rat):((a.num*(b.den:Int)-b.num*(a.den:Int):Int):Rat) /(((a.den:Int)*(b.den:Int):Int):Rat)=a-b:=by
 have h1:=qea a;have h2:=qea b;have n1:=qeu a;have n2:=qeu b;rw[Rat.intCast_sub,vK,vK,vK,uX,uX]
 conv=>rhs;rw[<-h1,<-h2]
 grind
theorem rat_mul(a b:Rat):((a.num*b.num:Int):Rat) /(((a.den:Int)*(b.den:Int):Int):Rat)=a*b:=by
 have h1:=qea a;have h2:=qea b;have n1:=qeu a;have n2:=qeu b;rw[vK,vK,uX,uX]
 conv=>rhs;rw[<-h1,<-h2]
 grind
theorem rat_div(a b:Rat)(hb:b≠0):((a.num*(b.den:Int):Int):Rat) /(((a.den:Int)*b.num:Int):Rat)=a/b:=by
 have h1:=qea a;have h2:=qea b;have n1:=qeu a;have n2:=qeu b;have n3:(b.num:Rat)≠0:=by
  intro h;rw[h] at h2;apply hb;rw[<-h2];grind
 rw[vK,vK,uX,uX]
 conv=>rhs;rw[<-h1,<-h2]
 grind
def rat_lt(a b:Rat):a.num*(b.den:Int)<b.num*(a.den:Int)↔a<b:=(Rat.lt_iff a b).symm
structure RB(q:Rat):Prop where
 n:q.num.natAbs<2^290
 d:q.den<2^290
def qbf(H:Hp)(a:Addr)(q:Rat):Prop:=H a=some (.tup [.int q.num,.int (q.den:Int)])
def qbf.same{H H':Hp}{a:Addr}{q:Rat}(h:qbf H a q)(s:Same H H'):qbf H' a q:=s _ _ h
theorem qbf.uniq(h:qbf H a q)(h':qbf H a r):q=r:=by
 have h1:H a=_:=h;have h2:H a=_:=h';rw[h1] at h2;have h3:=HO.tup.inj (uQ h2);have e1:q.num=r.num:=by injection h3 with a1 a2;injection a1
 have e2:q.den=r.den:=by
  injection h3 with a1 a2
  injection a2 with a3 a4
  injection a3 with a5
  exact_mod_cast a5
 exact Rat.ext e1 e2
def meas(i:Nat)(σ:L2.St):Nat:=match σ[i]? with
 |some (some (.int s))=>s.toNat
 |_=>0
def frO(q:Rat):HO:=.tup [.int q.num,.int (q.den:Int)]
def wf6(K:uS)(d:Ad):Sp:=fun vs H Q _=>∃i j:Int,vs=[.int i,.int j]/\Q (.int (gcdI i j)) H
include T in
theorem wev:FnOk P w K mg base CX0 1 d.w91 d.w78 ["one","other"] (wf6 K d):=by
 exists T.wc7.ok w35
 .right
 obtain⟨i,j,rfl,q⟩:=h;exists (qa2 (qae (i:=2) w35.nd rfl (uF rfl) (qag qg9 rfl T.wi0 dL #[pv 0]))
  (qa2 (qae (i:=3) w35.nd rfl (uF rfl) (qag qg9 rfl T.wi0 dL #[pv 1]))
  (qa2 (qef vH (qai qft (pv 3) qa6 (qar _)) (qa2 (qae (i:=4) w35.nd rfl (uF rfl) (qah qb5 (pv 2) (pv 3)))
  (qa2 (qae (i:=2) w35.nd rfl (uF rfl) (pv 3))
  (qa5 (qae (i:=3) w35.nd rfl (uF rfl) (pv 4))))))
  (qa5 (qad (pv 2)))))),[some (.int i),some (.int j),none,none,none];left;refine qe7 (fun σ H'=>H'=H/\∃(g t:Int)(r:Option V),σ=[some (.int i),some (.int j),some (.int g),some (.int t),r]/\0<=g/\0<=t/\wS g t=wS i j) (fun σ _=>meas 3 σ) ?_ ?_ ?_
 .refine⟨rfl,_,_,_,rfl,?_,?_,gcd_abs i j⟩<;>split<;>omega
 .rintro σ H1 ⟨rfl,g,t,r,rfl,hg,ht,e⟩;left;refine i_2 (fun c=>?_) (fun c=>?_)
  .left;refine⟨⟨rfl,_,_,_,rfl,#[],uT _ #[],?_⟩,?_⟩
   .rw[gcd_step g t c];exact e
   .show(g%t).toNat<t.toNat;have:=vB g c;have:=uT g (show t≠0 by omega);omega
  .left;have z:t=0:=by omega
   subst z;have e2:g=gcdI i j:=by
    rw[Int.gcd_zero_right] at e;unfold gcdI;rw[<-e];omega
   rw[e2];exact q
 .rintro σ H1 Q1 Q2 h ⟨v,e,a,b,e1,e2,d,e3,q⟩;exact⟨v,e,a,b,e1,e2,d,e3,h _ _ q⟩
def wcp(K:uS)(d:Ad):Sp:=fun vs H Q _=>∃t b:Int,vs=[.int t,.int b]/\b.natAbs<2^600/\b≠0/\∀p,H p=none->Q (.ref p) (upd H p (frO ((t:Rat) /(b:Rat))))
include T in
theorem w3b:FnOk P w K mg base (My.CX1 P w) 3 d.w7e d.w63 ["top","bottom"] (wcp K d):=by
 exists okX T.w37 w6e
 .right
 obtain⟨t,b,rfl,hb,b0,hq⟩:=h;exists (qa2 (qb4 (qai qel (pv 1) qa6 (qar _)) (qa5 (qc9 rfl T.w7u rfl T.w7n qaq #[qd2])) qak)
  (qa2 (qae (i:=2) w6e.nd rfl (uF rfl) (qaf ((wev T).mono ∅) hr rfl T.wgb T.wc7.kp T.wfa .nil qay #[pv 0,pv 1]))
  (qa2 (qdc (qb4 (qai op_lt (pv 1) qa6 (qar _)) (qa5 (qae (i:=2) w6e.nd rfl (uF rfl) (pe_un un_neg (pv 2)))) qak))
  (qa5 (qad (qbq #[qah qbl (pv 0) (pv 2),qah qbl (pv 1) (pv 2)])))))),[some (.int t),some (.int b),none];left;have gb:(gcdI t b).natAbs<2^600:=vF (gcdI_le b0) hb;have gp:=gcdI_pos (t:=t) b0;obtain⟨f1,f2⟩:=fr_rat (t:=t) b0;unfold frO at hq;rw[<-f1,<-f2] at hq;clear f1 f2;refine⟨t,b,rfl,?_⟩;left;refine qdy ?_;left;refine i_2 (fun n=>?_) (fun n=>?_)
 .have es:sg' t b=-gcdI t b:=by unfold sg';rw[gJ n]
  rw[es] at hq;left;exact hq _ (by assumption)
 .have es:sg' t b=gcdI t b:=by unfold sg';rw[gI n]
  rw[es] at hq;left;exact hq _ (by assumption)
def wg5(f:Rat->Rat->Rat):Sp:=fun vs H Q _=>∃(o p:Addr)(a b:Rat),vs=[.ref o,.ref p]/\qbf H o a/\qbf H p b/\RB a/\RB b/\∀r,H r=none->Q (.ref r) (upd H r (frO (f a b)))
def wi6(K:uS)(d:Ad):Sp:=wg5 fun a b=>a+b
def wh2(K:uS)(d:Ad):Sp:=wg5 fun a b=>a-b
def wgm(K:uS)(d:Ad):Sp:=wg5 fun a b=>a*b
inductive sp_divided(K:uS)(d:Ad)(vs:List V)(H:Hp)(Q:VK)(E:XK):Prop
 |mk(o p:Addr)(a b:Rat)(_:vs=[.ref o,.ref p])(_:qbf H o a)(_:qbf H p b)(_:RB a)(_:RB b)(_:b≠0)(_:∀r,H r=none->Q (.ref r) (upd H r (frO (a/b))))
inductive sp_below(K:uS)(d:Ad)(vs:List V)(H:Hp)(Q:VK)(E:XK):Prop
 |mk(o p:Addr)(a b:Rat)(_:vs=[.ref o,.ref p])(_:qbf H o a)(_:qbf H p b)(_:RB a)(_:RB b)(_:Q (.bl (decide (a<b))) H)
def RB.n6(h:RB q):q.num.natAbs<2^600:=aV h.n ∅
theorem RB.d6(h:RB q):((q.den:Int)).natAbs<2^600:=by
 rw[wI];exact aV h.d ∅
theorem RB.dd{a b:Rat}(h:RB a)(h':RB b):(((a.den:Int))*(b.den:Int)).natAbs<2^600:=by
 rw[xM,wI,wI];exact aV (Nat.mul_lt_mul'' h.d h'.d) ∅
theorem RB.dn{a b:Rat}(h:RB a)(h':RB b):(((a.den:Int))*b.num).natAbs<2^600:=by
 rw[xM,wI];exact aV (Nat.mul_lt_mul'' h.d h'.n) ∅
theorem den_pos(q:Rat):(0:Int) <(q.den:Int):=by have:=q.den_pos;omega
include T in
theorem wht:FnOk P w K mg base (My.CX1 P w) 4 d.wg7 d.wcv ["one","other"] (wi6 K d):=by
 exists okX T.wh7 wi3
 .right
 obtain⟨o,p,a,b,rfl,ho,hp,f1,f2,q⟩:=h;exists qa5 (qad (qav ((w3b T).mono ∅) hr rfl T.w40 T.w37.kp T.w46 .nil qaq #[qah qbx (qah qbc (~~~0) (~~~1)) (qah qbc (~~~1) (~~~0)),qah qbc (~~~0) (~~~1)])),[sr o,sr p];have x1:=f1.n6;have x2:=f1.d6;have x3:=f2.n6;have x4:=f2.d6;unfold qbf at ho hp;have e:=rat_add a b;have bp:=f1.dd f2;have ne:(a.den:Int)*(b.den:Int)≠0:=fW (dO (den_pos a) (den_pos b));clear f1 f2;left;refine⟨_,_,rfl,bp,ne,fun r hr=>?_⟩;rw[e];exact q r hr
include T in
theorem wgs:FnOk P w K mg base (My.CX1 P w) 4 d.wdl d.wb9 ["one","other"] (wh2 K d):=by
 exists okX T.wgf wgz
 .right
 obtain⟨o,p,a,b,rfl,ho,hp,f1,f2,q⟩:=h;exists qa5 (qad (qav ((w3b T).mono ∅) hr rfl T.w40 T.w37.kp T.w46 .nil qaq #[qah op_sub (qah qbc (~~~0) (~~~1)) (qah qbc (~~~1) (~~~0)),qah qbc (~~~0) (~~~1)])),[sr o,sr p];have x1:=f1.n6;have x2:=f1.d6;have x3:=f2.n6;have x4:=f2.d6;unfold qbf at ho hp;have e:=rat_sub a b;have bp:=f1.dd f2;have ne:(a.den:Int)*(b.den:Int)≠0:=fW (dO (den_pos a) (den_pos b));clear f1 f2;left;refine⟨_,_,rfl,bp,ne,fun r hr=>?_⟩;rw[e];exact q r hr
include T in
theorem we5:FnOk P w K mg base (My.CX1 P w) 4 d.wcn d.wbc ["one","other"] (wgm K d):=by
 exists okX T.wcm wgp
 .right
 obtain⟨o,p,a,b,rfl,ho,hp,f1,f2,q⟩:=h;exists qa5 (qad (qav ((w3b T).mono ∅) hr rfl T.w40 T.w37.kp T.w46 .nil qaq #[qah qbc (~~~0) (~~~1),qah qbc (~~~0) (~~~1)])),[sr o,sr p];have x1:=f1.n6;have x2:=f1.d6;have x3:=f2.n6;have x4:=f2.d6;unfold qbf at ho hp;have e:=rat_mul a b;have bp:=f1.dd f2;have ne:(a.den:Int)*(b.den:Int)≠0:=fW (dO (den_pos a) (den_pos b));clear f1 f2;left;refine⟨_,_,rfl,bp,ne,fun r hr=>?_⟩;rw[e];exact q r hr
include T in
theorem waa:FnOk P w K mg base (My.CX1 P w) 4 d.w94 d.w7a ["one","other"] (sp_divided K d):=by
 exists okX T.w9u wf5
 .right
 obtain⟨o,p,a,b,rfl,ho,hp,f1,f2,b0,q⟩:=h;exists qa5 (qad (qav ((w3b T).mono ∅) hr rfl T.w40 T.w37.kp T.w46 .nil qaq #[qah qbc (~~~0) (~~~1),qah qbc (~~~0) (~~~1)])),[sr o,sr p];have x1:=f1.n6;have x2:=f1.d6;have x3:=f2.n6;have x4:=f2.d6;unfold qbf at ho hp;have e:=rat_div a b b0;have bp:=f1.dn f2;have n0:b.num≠0:=fun h=>b0 (Rat.num_eq_zero.mp h);have ne:(a.den:Int)*b.num≠0:=Int.mul_ne_zero (fW (den_pos a)) n0;clear f1 f2;left;refine⟨_,_,rfl,bp,ne,fun r hr=>?_⟩;rw[e];exact q r hr
include T in
theorem w5r:FnOk P w K mg base CX0 1 d.wd1 d.wb7 ["one","other"] (sp_below K d):=by
 exists T.w6n.ok wgt
 .right
 obtain⟨o,p,a,b,rfl,ho,hp,f1,f2,q⟩:=h;exists qa5 (qad (qci op_lt (qah qbc (~~~0) (~~~1)) (qah qbc (~~~1) (~~~0)) (qar _))),[sr o,sr p];have x1:=f1.n6;have x2:=f1.d6;have x3:=f2.n6;have x4:=f2.d6;unfold qbf at ho hp;clear f1 f2;left;rw[decide_eq_decide.mpr (rat_lt a b)];exact q
def qc8:List Str->(Str->Rat)->Rat
 | [],_=>0
 |n::l,f=>f n+qc8 l f
theorem qc7{f g:Str->Rat}:∀{l:List Str},(∀n∈l,f n=g n)->qc8 l f=qc8 l g
 | [],_=>rfl
 |n::l,h=>by
  show f n+qc8 l f=g n+qc8 l g;rw[h n (zG ..),qc7 fun m hm=>h m (zD _ hm)]
theorem qfd{f g:Str->Rat}:∀{l:List Str},qc8 l (fun n=>f n+g n)=qc8 l f+qc8 l g
 | []=>by show(0:Rat)=0+0;grind
 |n::l=>by
  show f n+g n+qc8 l _=f n+qc8 l f+(g n+qc8 l g);rw[qfd];grind
theorem qfc{c:Rat}{f:Str->Rat}:∀{l:List Str},qc8 l (fun n=>c*f n)=c*qc8 l f
 | []=>by show(0:Rat)=c*0;grind
 |n::l=>by
  show c*f n+qc8 l _=c*(f n+qc8 l f);rw[qfc];grind
theorem sumQ_le{f g:Str->Rat}:∀{l:List Str},(∀n∈l,f n<=g n)->qc8 l f<=qc8 l g
 | [],_=>by show(0:Rat)<=0;grind
 |n::l,h=>by
  have h1:=h n (zG ..);have h2:=sumQ_le (l:=l) fun m hm=>h m (zD _ hm);show f n+qc8 l f<=g n+qc8 l g;grind
theorem qfn{f:Str->Rat}{l:List Str}(h:∀n∈l,0<=f n):0<=qc8 l f:=by
 have h1:=sumQ_le (f:=fun _=>0) h;have h2:qc8 l (fun _=>(0:Rat))=0:=by
  have:=qfc (c:=0) (f:=fun _=>(0:Rat)) (l:=l);have e:(fun n:Str=>(0:Rat)*0)=fun _=>0:=funext fun _=>by grind
  rw[e] at this;grind
 grind
theorem qe8{l:List Str}{f:Str->Rat}(h:∀n∈l,f n=0):qc8 l f=0:=by
 rw[qc7 (g:=fun _=>0) h];have:=qfc (c:=0) (f:=fun _=>(0:Rat)) (l:=l);have e:(fun n:Str=>(0:Rat)*0)=fun _=>0:=funext fun _=>by grind
 rw[e] at this;grind
theorem sumQ_one{f:Str->Rat}:∀{l:List Str} {n:Str},n∈l->(∀m∈l,0<=f m)->f n<=qc8 l f
 | [],_,h,_=>by simp at h
 |m::l,n,h,hp=>by
  have h2:=qfn (l:=l) fun k hk=>hp k (zD _ hk);have h0:=hp m (zG ..);show f n<=f m+qc8 l f;rcases zP.mp h with e|e
  .subst e;grind
  .have:=sumQ_one e fun k hk=>hp k (zD _ hk);grind
structure Dl where
 W0:List Str
 ln:Str->List Str
 wt:Str->Int
 wa:Str->Int
 rm:Str->Int
structure DlOk(D:Dl):Prop where
 nd:D.W0.Nodup
 w1:∀n∈D.W0,1<=D.wt n
 w2:∀n∈D.W0,D.wt n<=1000
 a0:∀n∈D.W0,0<=D.wa n
 a1:∀n∈D.W0,D.wa n<=10^31
 r0:∀n∈D.W0,∀h∈D.ln n,0<=D.rm h
 r1:∀n∈D.W0,∀h∈D.ln n,D.rm h<=10^31
 l0:∀n∈D.W0,n∈D.ln n
 ld:∀n∈D.W0,(D.ln n).Nodup
 lz:∀n∈D.W0,(D.ln n).length<=20
 l8:D.W0.length<=7
section
variable(D:Dl)
open Classical in
noncomputable def ldQ(W:List Str)(h:Str):Rat:=qc8 D.W0 fun n=>if n∈W/\h∈D.ln n then(D.wt n:Rat) else 0
noncomputable def goQ(n:Str):Rat:=(D.wa n:Rat) /(D.wt n:Rat)
open Classical in
noncomputable def rdy(W:List Str)(lf:Str->Rat)(L:Rat):List Str:=W.filter fun n=>decide ((∃h∈D.ln n,lf h/ldQ D W h=L)\/goQ D n=L)
open Classical in
noncomputable def wls(W R:List Str):List Str:=W.filter fun n=>!decide (n∈R)
noncomputable def lfN(lf:Str->Rat)(L:Rat)(R:List Str)(h:Str):Rat:=lf h-L*ldQ D R h
structure IsL(W:List Str)(lf:Str->Rat)(L:Rat):Prop where
 ge:∀n∈W,(∀h∈D.ln n,L<=lf h/ldQ D W h)/\L<=goQ D n
 at_:∃n∈W,(∃h∈D.ln n,lf h/ldQ D W h=L)\/goQ D n=L
def Dv(N:Nat)(q:Rat):Prop:=∃z:Int,q*(N:Rat)=(z:Rat)
open Classical in
structure RdI(W:List Str)(lf lv:Str->Rat)(M:Rat)(N:Nat):Prop where
 sub:∀n∈W,n∈D.W0
 nd:W.Nodup
 sum:∀h,lf h=(D.rm h:Rat)-qc8 D.W0 fun n=>if n∉W/\h∈D.ln n then lv n*(D.wt n:Rat) else 0
 lo:∀n∈W,∀h∈D.ln n,M*ldQ D W h<=lf h
 nn:∀n∈D.W0,∀h∈D.ln n,0<=lf h
 go:∀n∈W,M<=goQ D n
 m0:0<=M
 st:∀n∈D.W0,n∉W->0<=lv n/\lv n<=M/\lv n<=goQ D n/\(lv n=goQ D n\/∃h∈D.ln n,lf h=0/\(∀m∈W,h∉D.ln m)/\∀m∈D.W0,h∈D.ln m->lv m<=lv n)
 n0:0<N
 dl:∀h,Dv N (lf h)
 nb:N<=10000^(7-W.length)
end
section
variable{D:Dl}
theorem wtQ{n:Str}(ok:DlOk D)(h:n∈D.W0):(1:Rat)<=(D.wt n:Rat)/\(D.wt n:Rat)<=1000:=by
 have h1:=ok.w1 n h;have h2:=ok.w2 n h;exact⟨by exact_mod_cast h1,by exact_mod_cast h2⟩
def ldQ_nn(ok:DlOk D)(W:List Str)(h:Str):0<=ldQ D W h:=qfn fun n hn=>by
 have:=(wtQ ok hn).1
 try dsimp only
 split<;>grind
theorem ldQ_pos(ok:DlOk D){W:List Str}{h n:Str}(hn:n∈W)(h0:n∈D.W0)(hl:h∈D.ln n):1<=ldQ D W h:=by
 have h1:=(wtQ ok h0).1;have h2:=sumQ_one (l:=D.W0) (f:=fun n=>if n∈W/\h∈D.ln n then(D.wt n:Rat) else 0) h0 fun m hm=>by
  have:=(wtQ ok hm).1
  try dsimp only
  split<;>grind
 rw[gJ ⟨hn,hl⟩] at h2;show(1:Rat)<=qc8 D.W0 _;grind
theorem ldQ_split(W R:List Str)(hR:∀n∈R,n∈W)(h:Str):ldQ D W h=ldQ D R h+ldQ D (wls W R) h:=by
 unfold ldQ;rw[<-qfd];refine qc7 fun n hn=>?_
 try dsimp only
 have hw:n∈wls W R↔n∈W/\n∉R:=by unfold wls;rw[yA];simp
 by_cases c1:h∈D.ln n
 .by_cases c2:n∈R
  .rw[gJ ⟨hR n c2,c1⟩,gJ ⟨c2,c1⟩,gI (fun z=>(hw.mp z.1).2 c2)];grind
  .by_cases c3:n∈W
   .rw[gJ ⟨c3,c1⟩,gI (fun z=>c2 z.1),gJ ⟨hw.mpr ⟨c3,c2⟩,c1⟩];grind
   .rw[gI (fun z=>c3 z.1),gI (fun z=>c2 z.1),gI (fun z=>c3 (hw.mp z.1).1)];grind
 .rw[gI (fun z=>c1 z.2),gI (fun z=>c1 z.2),gI (fun z=>c1 z.2)];grind
def qeq(hn:∀m∈W,h∉D.ln m):ldQ D W h=0:=qe8 fun n _=>by
 try dsimp only
 rw[gI fun z=>hn n z.1 z.2]
theorem le_div{a b c:Rat}(hc:0<c):a<=b/c↔a*c<=b:=by
 have e:b/c*c=b:=cA (by grind);constructor
 .intro h;have:=wM h (Rat.le_of_lt hc);grind
 .intro h;refine Decidable.byContradiction fun n=>?_;have n':b/c<a:=by grind
  have:=Rat.mul_lt_mul_of_pos_right n' hc;grind
theorem div_eq{a b c:Rat}(hc:0<c):b/c=a↔b=a*c:=by
 have e:b/c*c=b:=cA (by grind);constructor
 .intro h;grind
 .intro h;have e2:c≠0:=by grind
  grind
end
theorem rat_cast_eq{a b:Int}(h:(a:Rat)=(b:Rat)):a=b:=by exact_mod_cast h
theorem num_den(q:Rat):(q.num:Rat)=q*((q.den:Nat):Rat):=by
 have h1:=qea q;have h2:=qeu q;grind
theorem rb_of{B:Nat}(n0:0<N)(nb:N<=10000^8)(hB:B<=10^40)(h:Dv N q)(lo: -(B:Rat)<=q)(hi:q<=(B:Rat)):RB q:=by
 obtain⟨z,hz⟩:=h;have e:q.num*(N:Int)=z*(q.den:Int):=by
  apply rat_cast_eq;rw[vK,vK,uX,uX,num_den q,<-hz];grind
 have dd:q.den ∣ N:=by
  have h1:(q.den:Int) ∣ q.num*(N:Int):=⟨z,by rw[e,fV]⟩;have h2:q.den ∣ q.num.natAbs*N:=by
   have:=Int.natAbs_dvd_natAbs.mpr h1;rw[wI,xM,wI] at this;exact this
  exact Nat.Coprime.dvd_of_dvd_mul_left q.reduced.symm h2
 have dn:q.den<=N:=Nat.le_of_dvd n0 dd;have nz:q.num.natAbs<=z.natAbs:=by
  have h1:q.num.natAbs*N=z.natAbs*q.den:=by
   have:=congrArg Int.natAbs e;rw[xM,xM,wI,wI] at this;exact this
  have h2:q.num.natAbs*N<=z.natAbs*N:=by rw[h1];exact Nat.mul_le_mul_left _ dn
  exact Nat.le_of_mul_le_mul_right h2 n0
 have zb:z.natAbs<=B*N:=by
  have N0:(0:Rat)<=(N:Rat):=by exact_mod_cast wR N
  have h1:(z:Rat)<=(B:Rat)*(N:Rat):=by rw[<-hz];exact wM hi N0
  have h2: -(B:Rat)*(N:Rat)<=(z:Rat):=by rw[<-hz];exact wM lo N0
  have c:(((B*N:Nat):Int):Rat)=(B:Rat)*(N:Rat):=by rw[uX,aI]
  have h1':z<=((B*N:Nat):Int):=by
   have:(z:Rat)<=(((B*N:Nat):Int):Rat):=by rw[c];exact h1
   exact_mod_cast this
  have h2': -((B*N:Nat):Int)<=z:=by
   have:((-((B*N:Nat):Int):Int):Rat)<=(z:Rat):=by rw[Rat.intCast_neg,c];grind
   exact_mod_cast this
  omega
 have b1:B*N<=10^40*10000^8:=dP hB nb;exact⟨vF (vJ nz (vJ zb b1)) ∅,vF (vJ dn nb) ∅⟩
theorem Dv.mul(h:Dv N q)(k:Nat):Dv (N*k) q:=by
 obtain⟨z,hz⟩:=h;refine⟨z*(k:Int),?_⟩;rw[vK,uX,aI,<-hz];grind
theorem Dv.sub{a b:Rat}(h:Dv N a)(h':Dv N b):Dv N (a-b):=by
 obtain⟨z,hz⟩:=h;obtain⟨y,hy⟩:=h';exact⟨z-y,by rw[Rat.intCast_sub,<-hz,<-hy];grind⟩
theorem Dv.ints{a:Rat}(h:Dv N a)(k:Int):Dv N (a*(k:Rat)):=by
 obtain⟨z,hz⟩:=h;exact⟨z*k,by rw[vK,<-hz];grind⟩
section
variable{D:Dl}
theorem sumQ_int{f:Str->Rat}:∀{l:List Str},(∀n∈l,∃z:Int,f n=(z:Rat))->∃z:Int,qc8 l f=(z:Rat)
 | [],_=>⟨0,rfl⟩
 |n::l,h=>by
  obtain⟨a,ha⟩:=h n (zG ..);obtain⟨b,hb⟩:=sumQ_int (l:=l) fun m hm=>h m (zD _ hm);exact⟨a+b,by show f n+qc8 l f=_;rw[ha,hb,aH]⟩
theorem qgp{f:Str->Rat}{B:Rat}:∀{l:List Str},(∀n∈l,f n<=B)->qc8 l f<=(l.length:Rat)*B
 | [],_=>by show(0:Rat)<=((0:Nat):Rat)*B;grind
 |n::l,h=>by
  have h1:=h n (zG ..);have h2:=qgp (l:=l) fun m hm=>h m (zD _ hm);show f n+qc8 l f<=_;rw[zR,Rat.natCast_add];grind
def qfy(W:List Str)(h:Str):∃z:Int,ldQ D W h=(z:Rat):=sumQ_int fun n _=>by
 try dsimp only
 split
 .exact⟨_,rfl⟩
 .exact⟨0,rfl⟩
theorem ldQ_bd(ok:DlOk D)(W:List Str)(h:Str):ldQ D W h<=7000:=by
 have h1:=qgp (B:=1000) (l:=D.W0) (f:=fun n=>if n∈W/\h∈D.ln n then(D.wt n:Rat) else 0) fun n hn=>by
  have:=(wtQ ok hn).2
  try dsimp only
  split<;>grind
 have h2:((D.W0.length:Nat):Rat)<=7:=by exact_mod_cast ok.l8
 show qc8 D.W0 _<=7000;grind
theorem qg3(ok:DlOk D){n:Str}(hn:n∈D.W0):goQ D n*(D.wt n:Rat)=(D.wa n:Rat):=by
 have:=(wtQ ok hn).1;unfold goQ;exact cA (by grind)
def B31:Nat:=10^31
theorem goQ_b(ok:DlOk D){n:Str}(hn:n∈D.W0):0<=goQ D n/\goQ D n<=(B31:Rat):=by
 have h1:=(wtQ ok hn).1;have h2:=qg3 ok hn;have a0:(0:Rat)<=(D.wa n:Rat):=by exact_mod_cast ok.a0 n hn
 have a1:(D.wa n:Rat)<=(B31:Rat):=by
  have h:D.wa n<=((B31:Nat):Int):=ok.a1 n hn;rw[<-uX];exact_mod_cast h
 have p:(0:Rat) <(D.wt n:Rat):=by grind
 have g0:0<=goQ D n:=by
  unfold goQ;exact(le_div p).mpr (by grind)
 refine⟨g0,?_⟩;have:=xR h1 g0;grind
theorem qc5{R:List Str}{n:Str} :n∈wls W R↔n∈W/\n∉R:=by unfold wls;rw[yA];simp
theorem qd0{L:Rat}{n:Str} :n∈rdy D W lf L↔n∈W/\((∃h∈D.ln n,lf h/ldQ D W h=L)\/goQ D n=L):=by unfold rdy;rw[yA];simp
theorem RdI.next(ok:DlOk D){W:List Str}{lf lv:Str->Rat}{M L:Rat}{N:Nat}(I:RdI D W lf lv M N)(il:IsL D W lf L):M<=L/\L<=(B31:Rat)/\(wls W (rdy D W lf L)).length<W.length/\
  ∃N',(∃k:Nat,N'=N*k)/\Dv N' L/\RdI D (wls W (rdy D W lf L)) (lfN D lf L (rdy D W lf L)) (fun n=>if n∈rdy D W lf L then L else lv n) L N':=by
 have hsub:∀n∈rdy D W lf L,n∈W:=fun n h=>(qd0.mp h).1;have hRW:∀n∈rdy D W lf L,n∈D.W0:=fun n h=>I.sub n (hsub n h);have spl:=ldQ_split (D:=D) W (rdy D W lf L) hsub;have pos:∀n∈W,∀h∈D.ln n,(0:Rat)<ldQ D W h:=fun n hn h hl=>by
  have:=ldQ_pos ok hn (I.sub n hn) hl;grind
 have lw:∀n∈W,∀h∈D.ln n,L*ldQ D W h<=lf h:=fun n hn h hl=>(le_div (pos n hn h hl)).mp ((il.ge n hn).1 h hl);obtain⟨n1,hn1,c1⟩:=il.at_;have ML:M<=L:=by
  rcases c1 with⟨h,hl,e⟩|e
  .have p:=pos n1 hn1 h hl;have h1:=I.lo n1 hn1 h hl;have h2:=(le_div p).mpr h1;grind
  .have:=I.go n1 hn1;grind
 have L0:0<=L:=by have:=I.m0;grind
 have Lb:L<=(B31:Rat):=by
  have h1:=(il.ge n1 hn1).2;have h2:=(goQ_b ok (I.sub n1 hn1)).2;grind
 have r1:n1∈rdy D W lf L:=qd0.mpr ⟨hn1,c1⟩;have len:(wls W (rdy D W lf L)).length<W.length:=by
  unfold wls;refine List.length_filter_lt_length_iff_exists.mpr ⟨n1,hn1,?_⟩;simp[r1]
 have full:∀h,(∃n∈W,h∈D.ln n)->lf h/ldQ D W h=L->(∀m∈W,h∈D.ln m->m∈rdy D W lf L)/\lfN D lf L (rdy D W lf L) h=0:=fun h ⟨n,hn,hl⟩ e=>by
  have a1:∀m∈W,h∈D.ln m->m∈rdy D W lf L:=fun m hm hml=>qd0.mpr ⟨hm,.inl ⟨h,hml,e⟩⟩;refine⟨a1,?_⟩;have z:ldQ D (wls W (rdy D W lf L)) h=0:=qeq fun m hm hml=>(qc5.mp hm).2 (a1 m (qc5.mp hm).1 hml);have s:=spl h;have e2:=(div_eq (pos n hn h hl)).mp e;unfold lfN;grind
 have keep:∀h,(∀m∈W,h∉D.ln m)->lfN D lf L (rdy D W lf L) h=lf h:=fun h hm=>by
  have z:ldQ D (rdy D W lf L) h=0:=qeq fun m hmr=>hm m (hsub m hmr);unfold lfN;grind
 refine⟨ML,Lb,len,?_⟩;obtain⟨k,k1,k2,kv⟩:∃k:Nat,1<=k/\k<=7000/\Dv (N*k) L:=by
  rcases c1 with⟨h,hl,e⟩|e
  .obtain⟨z,hz⟩:=qfy (D:=D) W h;have b1:=ldQ_pos ok hn1 (I.sub n1 hn1) hl;have b2:=ldQ_bd ok W h;rw[hz] at b1 b2;have b1':(1:Int)<=z:=by exact_mod_cast b1
   have b2':z<=7000:=by exact_mod_cast b2
   obtain⟨y,hy⟩:=I.dl h;have e2:=(div_eq (pos n1 hn1 h hl)).mp e;have ez:((z.toNat:Nat):Rat)=(z:Rat):=by
    have:((z.toNat:Nat):Int)=z:=by omega
    rw[<-uX,this]
   refine⟨z.toNat,#[],#[],y,?_⟩;rw[aI,ez,<-hy,e2,hz];grind
  .have hw:=ok.w1 n1 (I.sub n1 hn1);have hw2:=ok.w2 n1 (I.sub n1 hn1);have gm:=qg3 ok (I.sub n1 hn1);have ez:(((D.wt n1).toNat:Nat):Rat)=(D.wt n1:Rat):=by
    have:(((D.wt n1).toNat:Nat):Int)=D.wt n1:=by omega
    rw[<-uX,this]
   refine⟨(D.wt n1).toNat,#[],#[],D.wa n1*(N:Int),?_⟩;rw[aI,ez,vK,uX,<-gm,<-e];grind
 refine⟨N*k,⟨k,rfl⟩,kv,?_⟩;have wl7:W.length<=7:=vJ (vN I.nd I.sub) ok.l8;refine⟨fun n hn=>I.sub n (qc5.mp hn).1,I.nd.filter _,fun h=>?_,fun n hn h hl=>?_,fun n hn h hl=>?_,fun n hn=>(il.ge n (qc5.mp hn).1).2,L0,fun n hn hnw=>?_,Nat.mul_pos I.n0 k1,fun h=>?_,?_⟩
 .
  unfold lfN;rw[I.sum h];have:L*ldQ D (rdy D W lf L) h=qc8 D.W0 fun n=>if n∈rdy D W lf L/\h∈D.ln n then L*(D.wt n:Rat) else 0:=by
   unfold ldQ;rw[<-qfc];refine qc7 fun n _=>?_
   try dsimp only
   split<;>grind
  rw[this];have e:(qc8 D.W0 fun n=>if n∉wls W (rdy D W lf L)/\h∈D.ln n then(if n∈rdy D W lf L then L else lv n)*(D.wt n:Rat) else 0)=(qc8 D.W0 fun n=>if n∉W/\h∈D.ln n then lv n*(D.wt n:Rat) else 0)+qc8 D.W0 fun n=>if n∈rdy D W lf L/\h∈D.ln n then L*(D.wt n:Rat) else 0:=by
   rw[<-qfd];refine qc7 fun n _=>?_
   try dsimp only
   by_cases c:h∈D.ln n
   .by_cases c2:n∈rdy D W lf L
    .rw[gJ ⟨fun z=>(qc5.mp z).2 c2,c⟩,gJ c2,gI (fun z=>z.1 (hsub n c2)),gJ ⟨c2,c⟩];grind
    .by_cases c3:n∈W
     .rw[gI (fun z=>z.1 (qc5.mpr ⟨c3,c2⟩)),gI (fun z=>z.1 c3),gI (fun z=>c2 z.1)];grind
     .rw[gJ ⟨fun z=>c3 (qc5.mp z).1,c⟩,gI c2,gJ ⟨c3,c⟩,gI (fun z=>c2 z.1)];grind
   .rw[gI (fun z=>c z.2),gI (fun z=>c z.2),gI (fun z=>c z.2)];grind
  rw[e];grind
 .have h1:=lw n (qc5.mp hn).1 h hl;have s:=spl h;unfold lfN;rw[s] at h1;grind
 .unfold lfN;by_cases c:∃m∈W,h∈D.ln m
  .obtain⟨m,hm,hml⟩:=c;have h1:=lw m hm h hml;have h2:=ldQ_nn ok (wls W (rdy D W lf L)) h;have s:=spl h;have h3:=xN L0 h2;rw[s] at h1;grind
  .have z:ldQ D (rdy D W lf L) h=0:=qeq fun m hm hml=>c ⟨m,hsub m hm,hml⟩;have e:=I.nn n hn h hl;have e2:lf h-L*0=lf h:=by clear full keep pos lw spl;grind
   rw[z,e2];exact e
 .by_cases c:n∈rdy D W lf L
  .rw[gJ c];obtain⟨nW,c2⟩:=qd0.mp c;refine⟨L0,by grind,(il.ge n nW).2,?_⟩;rcases c2 with⟨h,hl,e⟩|e
   .obtain⟨a1,a2⟩:=full h ⟨n,nW,hl⟩ e;refine .inr ⟨h,hl,a2,fun m hm hml=>(qc5.mp hm).2 (a1 m (qc5.mp hm).1 hml),fun m hm hml=>?_⟩;by_cases c3:m∈rdy D W lf L
    .rw[gJ c3];grind
    .rw[gI c3];have hmW:m∉W:=fun z=>c3 (a1 m z hml);have:=(I.st m hm hmW).2.1;grind
   .exact .inl e.symm
  .rw[gI c];have nW:n∉W:=fun z=>hnw (qc5.mpr ⟨z,c⟩);obtain⟨a1,a2,a3,a4⟩:=I.st n hn nW;refine⟨a1,by grind,a3,?_⟩;rcases a4 with e|⟨h,hl,b1,b2,b3⟩
   .exact .inl e
   .refine .inr ⟨h,hl,by rw[keep h b2];exact b1,fun m hm=>b2 m (qc5.mp hm).1,fun m hm hml=>?_⟩;have hmW:m∉W:=fun z=>b2 m z hml;rw[gI (fun z=>hmW (hsub m z))];exact b3 m hm hml
 .obtain⟨z,hz⟩:=qfy (D:=D) (rdy D W lf L) h;unfold lfN;rw[hz];exact((I.dl h).mul k).sub (kv.ints z)
 .have h1:=I.nb;have:N*k<=10000^(7-W.length)*10000:=dP h1 #[];refine vJ this ?_;rw[<-Nat.pow_succ];exact wW ∅ #[]
end
structure TrD(d:Ad)(H:Hp)(t:Addr)(S:Ts)(D:Dl):Prop where
 tr:qf9 d H t S
 ln:∀n∈D.W0,∃e,S.at n=some e/\True/\LineOf S n (D.ln n)
theorem TrD.same{d:Ad}{H H':Hp}{t:Addr}{S:Ts}{D:Dl}(h:TrD d H t S D)(s:Same H H'):TrD d H' t S D:=⟨h.tr.same s,h.ln⟩
def qby(W:List Str)(g:Str->Int):Str->Option Int:=fun z=>if z∈W then some (g z) else none
def qbe{g:Str->Int}(h:z∈W):qby W g z=some (g z):=gJ h
theorem qcv{g:Str->Int} :qby W g z≠none↔z∈W:=by
 unfold qby;by_cases c:z∈W
 .rw[gJ c];simp[c]
 .rw[gI c];simp[c]
def qdb{kvs:List (Key×V)}{g:Str->Int}(h:AD kvs (qby W g))(nd:W.Nodup):(qc2 kvs).Perm W:=
 (cB h.knd nd).mpr fun z=>by rw[h.kin,qcv]
def qew{ss ss':List Str}(h:ss.Perm ss')(a:vX ss=true)(b:vX ss'=true):ss=ss':=
 List.Perm.eq_of_pairwise (le:=leS) (fun x y _ _ h1 h2=>leS_anti h1 h2) (qfo a) (qfo b) h
def Wgh(H:Hp)(S:Ts)(D:Dl)(wv:V):Prop:=(wv=.non/\∀n∈D.W0,∀e,S.at n=some e->e.x.w=D.wt n)\/∃(g tb:Addr)(kt:List (Key×V)),wv=.ref g/\WgH H g tb/\H tb=some (.dK kt)/\AD kt (qby D.W0 D.wt)
theorem Wgh.same{H H':Hp}{S:Ts}{D:Dl}{wv:V}(h:Wgh H S D wv)(s:Same H H'):Wgh H' S D wv:=by
 rcases h with h|⟨g,tb,kt,e,⟨cl,cd,w1,w2,w3⟩,ht,ha⟩
 .exact .inl h
 .exact .inr ⟨g,tb,kt,e,⟨cl,cd,s _ _ w1,s _ _ w2,s _ _ w3⟩,s _ _ ht,ha⟩
inductive sp_weights_of(K:uS)(d:Ad)(vs:List V)(H:Hp)(Q:VK)(E:XK):Prop
 |mk(t dw:Addr)(wv:V)(S:Ts)(D:Dl)(kw:List (Key×V))(_:vs=[.ref t,.ref dw,wv])(_:DlOk D)(_:vX D.W0=true)(_:TrD d H t S D)(_:Wgh H S D wv)(_:H dw=some (.dK kw))(_:AD kw (qby D.W0 D.wa))(_:∀l k' H',Same H H'->H l=none->H' l=some (.dK k')->AD k' (qby D.W0 D.wt)->Q (.ref l) H')
def qey{i:Int}(y:Str):putF' f z i y=if y=z then some i else f y:=rfl
include T in
theorem w73:FnOk P w K mg base (My.CX1 P w) 5 d.w5i d.w48 ["tree","wants","weigh"] (sp_weights_of K d):=by
 exists okX T.w5d w4j
 .right
 obtain⟨t,dw,wv,S,D,kw,rfl,ok,so,hT,hg,hw,hA,q⟩:=h;exists (qa2 (qae (i:=3) w4j.nd rfl (uF rfl) qb3)
  (qa2 (qb0 (qbi rfl rfl) rfl (qaw (qag (qcc rfl) rfl T.w33 wB #[pv 1])) (qab (i:=4) w4j.nd rfl (uF rfl)) (qa5 (qbh (qat hr) (pv 3) (pv 4) (pe_ifExp (qai qgv (pv 2) qck (qar _)) (qb1 (pv 0) T.w03 T.w0x ((w7h T).mono ∅) hr T.w8o .nil qaq #[pv 4]) (pe_wg mo_w hr (i:=2) rfl (uF rfl) #[pv 4])) rfl)))
  (qa5 (qad (pv 3))))),[sr t,sr dw,some (wv),none,none];have ct:=T.w03;have l8:=ok.l8;have kp:=qdb hA ok.nd;left;rename_i l hl;have s1:=qa4 hl (.dK []);have el:upd H l (.dK []) l=some (.dK []):=qa1;generalize upd H l (.dK [])=H1 at*;refine qe3 (ss:=qc2 kw) (.inl (s1 _ _ hw)) hA.keys (by have:=kp.length_eq;omega) fun ls ss hls hp hs=>?_;have ess:ss=D.W0:=qew (hp.trans kp) hs so;subst ess;have s2:=s1.trans (qa4 hls (.lst (D.W0.map V.str)));have els:upd H1 ls (.lst (D.W0.map V.str)) ls=some (.lst (D.W0.map V.str)):=qa1;have el2:=qaa (o':=.lst (D.W0.map V.str)) el hls;have hls0:H ls=none:=s1.free hls;generalize upd H1 ls (.lst (D.W0.map V.str))=H2 at*;have nls:l≠ls:=fun e=>by subst e;rw[el] at hls;cases hls
 clear el hls s1;left;refine qbs (xs:=D.W0.map V.str) (fun i σ H'=>∃(k':List (Key×V))(w:Option V),σ=[sr t,sr dw,some wv,sr l,w]/\Same H H'/\H' ls=some (.lst (D.W0.map V.str))/\H' l=some (.dK k')/\AD k' (qby (D.W0.take i) D.wt)/\k'.length<=i) ⟨[],none,rfl,s2,els,el2,AD.nil.cast fun z=>rfl,uG _⟩ ?_ ?_ ?_
 .rintro i σ H' _ ⟨k',w,rfl,_,e,_⟩;exact SqL.of e
 .rintro i v σ H' hv ⟨k',w,rfl,sm,es,ed,hK,hk⟩;rw[zC] at hv;obtain⟨n,hn,rfl⟩:=uI.mp hv;have hi:=(uL.mp hn).1;have hn0:=zF hn;obtain⟨e,ae,ew,_⟩:=hT.ln n hn0;obtain⟨dx,ht⟩:=id (hT.tr.same sm).1;have zk:k'.length<sizeLine:=by show _<16777216;omega
  clear hv;rcases hg.same sm with⟨rfl,hg2⟩|⟨g,tb,kt,rfl,hW,htb,hKt⟩
  .left;refine⟨t,S,.str n,rfl,hT.tr.same sm,.inl ⟨_,rfl⟩,fun e1 he1=>?_,fun hx=>?_⟩
   rotate_left
   .rw[show who S (.str n)=some e from ae] at hx;cases hx
   have ee:e=e1:=uQ (ae.symm.trans he1);subst ee;rw[hg2 n hn0 e ae];left;have lput:=qaz k' (uH n) (.int (D.wt n));refine⟨_,_,rfl,qb6 sm hl,by rw[qa7 nls.symm];exact es,qa1,(hK.put n (D.wt n)).cast fun z=>?_,#[]⟩;rw[qey];unfold qby;have tk:z∈D.W0.take (i+1)↔z∈D.W0.take i\/z=n:=qas hn z;by_cases c:z=n
   .rw[gJ c,gJ (tk.mpr (.inr c)),c]
   .rw[gI c];by_cases c2:z∈D.W0.take i
    .rw[gJ c2,gJ (tk.mpr (.inl c2))]
    .rw[gI c2,gI fun h=>(tk.mp h).elim c2 c]
  .have hWR:=hW;have hRt:Rd H' tb (.dK kt):=.inl htb;left;refine⟨g,tb,rfl,hW,?_⟩;left;refine⟨_,.int (D.wt n),rfl,hW,.inl ⟨kt,.inr n,hRt,rfl,?_⟩,?_⟩
   .rw[hKt.get,qbe hn0];rfl
   left;have lput:=qaz k' (uH n) (.int (D.wt n));refine⟨_,_,rfl,qb6 sm hl,by rw[qa7 nls.symm];exact es,qa1,(hK.put n (D.wt n)).cast fun z=>?_,#[]⟩;rw[qey];unfold qby;have tk:z∈D.W0.take (i+1)↔z∈D.W0.take i\/z=n:=qas hn z;by_cases c:z=n
   .rw[gJ c,gJ (tk.mpr (.inr c)),c]
   .rw[gI c];by_cases c2:z∈D.W0.take i
    .rw[gJ c2,gJ (tk.mpr (.inl c2))]
    .rw[gI c2,gI fun h=>(tk.mp h).elim c2 c]
 rintro σ H' ⟨k',w,rfl,sm,es,ed,hK,hk⟩;rw[zA,zK] at hK;left;exact q l k' H' sm hl ed hK
def ldI(D:Dl)(W:List Str)(h:Str):Int:=(W.map fun n=>if h∈D.ln n then D.wt n else 0).sum
open Classical in
noncomputable def ldF(D:Dl)(W:List Str):Str->Option Int:=fun h=>if ∃n∈W,h∈D.ln n then some (ldI D W h) else none
theorem ldI_none(hn:¬∃n∈W,h∈D.ln n):ldI D W h=0:=by
 unfold ldI
 induction W with
 |nil=>rfl
 |cons n W ih=>
  rw[zV,cO,gI fun z=>hn ⟨n,zG ..,z⟩,ih fun⟨m,hm,hl⟩=>hn ⟨m,zD _ hm,hl⟩];rfl
theorem gN_ldF(D:Dl)(W:List Str)(h:Str):gN (ldF D W) h=ldI D W h:=by
 unfold gN ldF;by_cases c:∃n∈W,h∈D.ln n
 .rw[gJ c];rfl
 .rw[gI c,ldI_none c];rfl
theorem ldI_app(D:Dl)(W:List Str)(n h:Str):ldI D (W++[n]) h=ldI D W h+if h∈D.ln n then D.wt n else 0:=by
 unfold ldI;rw[zL,List.sum_append];simp
inductive sp_loads_of(K:uS)(d:Ad)(vs:List V)(H:Hp)(Q:VK)(E:XK):Prop
 |mk(t dg lw:Addr)(S:Ts)(D:Dl)(kg:List (Key×V))(W:List Str)(_:vs=[.ref t,.ref dg,.ref lw])(_:DlOk D)(_:TrD d H t S D)(_:H dg=some (.dK kg))(_:AD kg (qby D.W0 D.wt))(_:H lw=some (.lst (W.map V.str)))(_:(∀n∈W,n∈D.W0))(_:W.length<=7)(_:∀l k' H',Same H H'->H l=none->H' l=some (.dK k')->AD k' (ldF D W)->k'.length<=200->Q (.ref l) H')
include T in
theorem wcf:FnOk P w K mg base (My.CX1 P w) 6 d.w7k d.w6u ["tree","weights","waiting"] (sp_loads_of K d):=by
 exists okX T.waj w4i
 .right
 obtain⟨t,dg,lw,S,D,kg,W,rfl,ok,hT,hg,hA,hW,sub,w7,q⟩:=h;exists (qa2 (qae (i:=3) w4i.nd rfl (uF rfl) qb3)
  (qa2 (qb0 (qbi rfl rfl) rfl (qaw (pv 2)) (qab (i:=4) w4i.nd rfl (uF rfl)) (qa5 (qb0 (qbi rfl rfl) rfl (qaw (qb1 (pv 0) T.w03 T.w0j ((w23 T).mono ∅) hr T.w2k .nil qaq #[pv 4])) (qab (i:=5) w4i.nd rfl (uF rfl)) (qa5 (qbh (qat hr) (pv 3) (pv 5) (qah qbx (qff (qat hr) (pv 3) (pv 5) qa6 ⟨rfl,rfl,rfl,rfl⟩) (pv 1|||pv 4)) rfl)))))
  (qa5 (qad (pv 3))))),[sr t,sr dg,sr lw,none,none,none];have ct:=T.w03;left;rename_i l hl;have s1:=qa4 hl (.dK []);have el:upd H l (.dK []) l=some (.dK []):=qa1;generalize upd H l (.dK [])=H1 at*;have nlw:lw≠l:=qa9 hW hl;have ndg:dg≠l:=qa9 hg hl;refine qbs (xs:=W.map V.str) (fun i σ H'=>∃(k':List (Key×V))(w1 w2:Option V),σ=[sr t,sr dg,sr lw,sr l,w1,w2]/\Same H H'/\H' l=some (.dK k')/\AD k' (ldF D (W.take i))/\k'.length<=20*i) ⟨[],none,none,rfl,s1,el,AD.nil.cast fun z=>?_,uG _⟩ ?_ ?_ ?_
 .unfold ldF;rw[gI fun⟨n,hn,_⟩=>by simp at hn];rfl
 .rintro i σ H' _ ⟨k',w1,w2,rfl,sm,_⟩;exact SqL.of (sm _ _ hW)
 .rintro i v σ H' hv ⟨k',w1,w2,rfl,sm,ed,hK,hk⟩;rw[zC] at hv;obtain⟨n,hn,rfl⟩:=uI.mp hv;have hi:=(uL.mp hn).1;have hn0:=sub n (zF hn);obtain⟨e,ae,ew,hln⟩:=hT.ln n hn0;obtain⟨dx,ht⟩:=id (hT.tr.same sm).1;have lz:=ok.lz n hn0;have lnd:=ok.ld n hn0;have etk:W.take (i+1)=W.take i++[n]:=by rw[zO,hn];rfl
  clear hv;left;refine⟨t,S,.str n,rfl,hT.tr.same sm,.inl ⟨n,_,rfl,hln,#[],fun ll hll=>?_⟩⟩;have s2:=sm.trans (qa4 hll (.lst ((D.ln n).map V.str)));have ell:upd H' ll (.lst ((D.ln n).map V.str)) ll=some (.lst ((D.ln n).map V.str)):=qa1;have ed2:=qaa (o':=.lst ((D.ln n).map V.str)) ed hll;have nll:ll≠l:=fun z=>by subst z;rw[ed] at hll;cases hll
  generalize upd H' ll (.lst ((D.ln n).map V.str))=H2 at*;clear hll ed;left;refine qbs (xs:=(D.ln n).map V.str) (fun j σ H'=>∃(k2:List (Key×V))(w2:Option V),σ=[sr t,sr dg,sr lw,sr l,some (.str n),w2]/\Same H H'/\H' ll=some (.lst ((D.ln n).map V.str))/\H' l=some (.dK k2)/\AD k2 (fun h=>if h∈(D.ln n).take j then some (ldI D (W.take i) h+D.wt n) else ldF D (W.take i) h)/\k2.length<=20*i+j) ⟨k',w2,rfl,s2,ell,ed2,hK.cast fun z=>by simp,#[]⟩ ?_ ?_ ?_
  .rintro j σ H' _ ⟨k2,w2,rfl,_,e,_⟩;exact SqL.of e
  .rintro j v σ H3 hv ⟨k2,w2,rfl,s3,el3,ed3,hK3,hk3⟩;rw[zC] at hv;obtain⟨h,hh,rfl⟩:=uI.mp hv;have hj:=(uL.mp hh).1;have hnt:h∉(D.ln n).take j:=qem lnd hh;have hRd:Rd H3 l (.dK k2):=.inl ed3;have hRg:Rd H3 dg (.dK kg):=.inl (s3 _ _ hg);have gl:gN (fun h=>if h∈(D.ln n).take j then some (ldI D (W.take i) h+D.wt n) else ldF D (W.take i) h) h=ldI D (W.take i) h:=by
    unfold gN;dsimp only;rw[gI hnt];exact gN_ldF D (W.take i) h
   have gw:qby D.W0 D.wt n=some (D.wt n):=qbe hn0;have zk:k2.length<sizeLine:=by show _<16777216;omega
   clear hv;left;rw[gl];have lput:=qaz k2 (uH h) (.int (ldI D (W.take i) h+D.wt n));refine⟨_,_,rfl,qb6 s3 hl,by rw[qa7 nll];exact el3,qa1,(hK3.put h _).cast fun z=>?_,#[]⟩;rw[qey];have tk:z∈(D.ln n).take (j+1)↔z∈(D.ln n).take j\/z=h:=qas hh z;by_cases c:z=h
   .rw[gJ c,gJ (tk.mpr (.inr c)),c]
   .rw[gI c];by_cases c2:z∈(D.ln n).take j
    .rw[gJ c2,gJ (tk.mpr (.inl c2))]
    .rw[gI c2,gI fun h'=>(tk.mp h').elim c2 c]
  .rintro σ H3 ⟨k2,w2',rfl,s3,el3,ed3,hK3,hk3⟩;rw[zA,zK] at hK3;refine⟨k2,_,_,rfl,s3,ed3,hK3.cast fun z=>?_,by rw[zA] at hk3;omega⟩;rw[etk];unfold ldF;rw[ldI_app];by_cases c:z∈D.ln n
   .rw[gJ c,gJ ⟨n,zM _ (zE.mpr rfl),c⟩,gJ c]
   .rw[gI c,gI c,Int.add_zero];by_cases c2:∃m∈W.take i,z∈D.ln m
    .obtain⟨m,hm,hml⟩:=c2;rw[gJ ⟨m,hm,hml⟩,gJ ⟨m,zQ _ hm,hml⟩]
    .rw[gI c2,gI ?_];rintro⟨m,hm,hml⟩;rcases zH.mp hm with h|h
     .exact c2 ⟨m,h,hml⟩
     .have:m=n:=by simpa using h
      exact c (this▸hml)
 .rintro σ H' ⟨k',w1,w2,rfl,sm,ed,hK,hk⟩;rw[zA,zK] at hK;left;exact q l k' H' sm hl ed hK (by rw[zA] at hk;omega)
def FrL(H:Hp)(ps:List (Addr×Rat)):Prop:=∀p∈ps,qbf H p.1 p.2/\RB p.2
def wcu(K:uS)(d:Ad):Sp:=fun vs H Q _=>∃(lm:Addr)(ps:List (Addr×Rat)),vs=[.ref lm]/\H lm=some (.lst (ps.map fun p=>V.ref p.1))/\FrL H ps/\ps≠ []/\∀p∈ps,(∀p'∈ps,p.2<=p'.2)->Q (.ref p.1) H
include T in
theorem wcy:FnOk P w K mg base CX0 2 d.w79 d.w6t ["many"] (wcu K d):=by
 exists T.wac.ok w4q
 .right
 obtain⟨lm,ps,rfl,hl,hf,ne,q⟩:=h;exists (qa2 (qae (i:=1) w4q.nd rfl (uF rfl) (qal qax (pv 0) qa6 nofun))
  (qa2 (qb0 vH rfl (qaw (pv 0)) (qab (i:=2) w4q.nd rfl (uF rfl)) (qa5 (qdc (qb4 (qbg (qaf ((w5r T).mono ∅) hr rfl T.w7d T.w6n.kp T.w7v .nil qay #[pv 2,pv 1])) (qa5 (qae (i:=1) w4q.nd rfl (uF rfl) (pv 2))) qak))))
  (qa5 (qad (pv 1))))),[sr lm,none,none];have l0:0<ps.length:=bT.mpr ne;have x0:atI (ps.map fun p=>V.ref p.1) 0=some (.ref ps[0].1):=qbu (j:=0) (by rw[zC,zB l0];rfl);left;refine qce (SqL.of hl) x0 ?_;left;refine qbs (xs:=ps.map fun p=>V.ref p.1) (fun i σ H'=>∃(p:Addr×Rat)(w:Option V),σ=[sr lm,sr p.1,w]/\H'=H/\p∈ps/\∀p'∈ps.take i,p.2<=p'.2) ⟨ps[0],none,rfl,rfl,zX l0,fun p' h=>by simp at h⟩ ?_ ?_ ?_
 .rintro i σ H' _ ⟨p,w,rfl,rfl,_⟩;exact SqL.of hl
 .rintro i v σ H' hv ⟨p,w,rfl,rfl,hp,hle⟩;rw[zC] at hv;obtain⟨p',hp',rfl⟩:=uI.mp hv;have hm':=zF hp';have tk:∀x∈ps.take (i+1),x∈ps.take i\/x=p':=fun x hx=>by
   rw[zO,hp'] at hx;rcases zH.mp hx with h|h
   .exact .inl h
   .exact .inr (by simpa using h)
  clear hv;left;refine qdy ?_;left;refine⟨p'.1,p.1,p'.2,p.2,rfl,(hf p' hm').1,(hf p hp).1,(hf p' hm').2,(hf p hp).2,?_⟩;by_cases c:p'.2<p.2
  .rw[gK c];left;refine⟨p',_,rfl,rfl,hm',fun x hx=>?_⟩;rcases tk x hx with h|rfl
   .have:=hle x h;grind
   .grind
  .rw[gL c];left;refine⟨p,_,rfl,rfl,hp,fun x hx=>?_⟩;rcases tk x hx with h|rfl
   .exact hle x h
   .grind
 .rintro σ H' ⟨p,w,rfl,rfl,hp,hle⟩;rw[zA,zK] at hle;left;exact q p hp hle
structure FD(H:Hp)(kvs:List (Key×V))(φ:Str->Option Rat):Prop where
 nd:(kvs.map (·.1)).Nodup
 sh:∀p∈kvs,∃z a q,p=(uH z,V.ref a)/\qbf H a q/\φ z=some q
 no:∀z,φ z=none->qcn kvs (uH z)=none
 get:∀z q,φ z=some q->∃a,qcn kvs (uH z)=some (.ref a)/\qbf H a q
def qb2(H H':Hp):Prop:=∀a xs,H a=some (.tup xs)->H' a=some (.tup xs)
def qb2.of(s:Same H H'):qb2 H H':=fun a xs h=>s _ _ h
theorem qb2.upd{o u:HO}(h:H a=some u)(n:∀xs,u≠ .tup xs):qb2 H (L2.upd H a o):=fun b xs hb=>by
 rw[qa7 (fun e=>by subst e;rw[h] at hb;exact n xs (uQ hb))];exact hb
def qb2.trans{H'':Hp}(h:qb2 H H')(h':qb2 H' H''):qb2 H H'':=fun a xs e=>h' _ _ (h _ _ e)
def FD.nil:FD H [] (fun _=>none):=⟨yJ,fun p hp=>absurd hp (by simp),fun z _=>rfl,fun z q h=>by cases h⟩
theorem FD.t{kvs:List (Key×V)}(h:FD H kvs φ)(t:qb2 H H'):FD H' kvs φ:=⟨h.nd,fun p hp=>by
 obtain⟨z,a,q,e1,e2,e3⟩:=h.sh p hp;exact⟨z,a,q,e1,t _ _ e2,e3⟩,h.no,fun z q e=>by
 obtain⟨a,e1,e2⟩:=h.get z q e;exact⟨a,e1,t _ _ e2⟩⟩
theorem FD.cast{kvs:List (Key×V)}{ψ:Str->Option Rat}(h:FD H kvs φ)(e:∀z,φ z=ψ z):FD H kvs ψ:=by
 rw[show ψ=φ from funext fun z=>(e z).symm];exact h
theorem FD.put{kvs:List (Key×V)}(h:FD H kvs φ)(z:Str){a:Addr}{q:Rat}(ha:qbf H a q):FD H (qbp kvs (uH z) (.ref a)) (fun y=>if y=z then some q else φ y):=by
 refine⟨?_,fun p hp=>?_,fun y hy=>?_,fun y r hy=>?_⟩
 .cases c:qcn kvs (uH z) with
  |none=>exact nd_putK _ h.nd c
  |some v=>rw[qee (by rw[c];simp)];exact h.nd
 .have hd:((qbp kvs (uH z) (.ref a)).map (·.1)).Nodup:=by
   cases c:qcn kvs (uH z) with
   |none=>exact nd_putK _ h.nd c
   |some v=>rw[qee (by rw[c];simp)];exact h.nd
  rcases putK_mem hp with rfl|hp'
  .exact⟨z,a,q,rfl,ha,gJ rfl⟩
  .obtain⟨y,b,r,e1,e2,e3⟩:=h.sh p hp';by_cases c:y=z
   .subst c;have hv:qcn (qbp kvs (uH y) (.ref a)) (uH y)=some (.ref a):=by rw[qfb,gJ rfl]
    have hv2:=qfl hd (k:=uH y) (v:=.ref b) (by rw[<-e1];exact hp);rw[hv] at hv2;have:a=b:=by injection hv2 with h1;injection h1
    subst this;exact⟨y,a,q,e1,ha,gJ rfl⟩
   .exact⟨y,b,r,e1,e2,by rw[gI c];exact e3⟩
 .by_cases c:y=z
  .rw[gJ c] at hy;cases hy
  .rw[gI c] at hy;rw[qfb,gI (fun e=>c (yR e))];exact h.no y hy
 .rw[qfb];by_cases c:y=z
  .rw[gJ c] at hy
   cases hy
   exact⟨a,by rw[gJ (by rw[c])],ha⟩
  .rw[gI c] at hy;rw[gI (fun e=>c (yR e))];exact h.get y r hy
theorem qed{kvs:List (Key×V)}(d:Rd H a (.dK kvs))(A:FD H kvs φ)(e:φ z=some q)(h:∀b,qbf H b q->Q (.ref b) H):rDGk (.ref a) (.str z) H Q:=by
 obtain⟨b,e1,e2⟩:=A.get z q e;exact⟨a,.ref b,rfl,.inl ⟨kvs,uH z,d,rfl,e1.symm⟩,h b e2⟩
theorem FD.at{kvs:List (Key×V)}(h:FD H kvs φ){i:Nat}{k:Key}{v:V}(e:kvs[i]?=some (k,v)):∃z a q,k=uH z/\v=.ref a/\qbf H a q/\φ z=some q:=by
 obtain⟨z,a,q,e1,e2,e3⟩:=h.sh _ (zF e);injection e1 with a1 a2
 exact⟨z,a,q,a1,a2,e2,e3⟩
def qde{z:Int}(h:H a=some (.tup [.int z,.int 1])):qbf H a (z:Rat):=h
def qfp{z:Int}(h:z.natAbs<2^290):RB (z:Rat):=⟨h,by show 1<2^290;decide⟩
def qdv(W:List Str)(g:Str->Rat):Str->Option Rat:=fun z=>if z∈W then some (g z) else none
def fsD(t dg lw dl dgo:Addr):List (Str×V):=[("tree",.ref t),("weights",.ref dg),("waiting",.ref lw),("left",.ref dl),("goals",.ref dgo)]
def fs2(t dg:Addr):List (Str×V):=[("tree",.ref t),("weights",.ref dg)]
def fs3(t dg lw:Addr):List (Str×V):=[("tree",.ref t),("weights",.ref dg),("waiting",.ref lw)]
def fs4(t dg lw dl:Addr):List (Str×V):=[("tree",.ref t),("weights",.ref dg),("waiting",.ref lw),("left",.ref dl)]
def Sb2(x y:Addr)(H H':Hp):Prop:=∀b u,b≠x->b≠y->H b=some u->H' b=some u
def Sb2.same{x y:Addr}{H H' H'':Hp}(s:Sb2 x y H H')(s':Same H' H''):Sb2 x y H H'':=fun b u n1 n2 e=>s' _ _ (s b u n1 n2 e)
inductive sp_Dealing_init(K:uS)(d:Ad)(vs:List V)(H:Hp)(Q:VK)(E:XK):Prop
 |mk(x dx t dr dw dg:Addr)(D:Dl)(HS:List Str)(kr kw kg:List (Key×V))(_:vs=[.ref x,.ref t,.ref dr,.ref dw,.ref dg])(_:H x=some (.ins d.w00 dx []))(_:DlOk D)(_:vX D.W0=true)(_:H dr=some (.dK kr))(_:AD kr (qby HS D.rm))(_:HS.Nodup)(_:HS.length<=60)(_:H dw=some (.dK kw))(_:AD kw (qby D.W0 D.wa))(_:H dg=some (.dK kg))(_:AD kg (qby D.W0 D.wt))(_:dg≠dw)(_:∀(lw dl dgo:Addr)(kl kgo:List (Key×V)) H',SameBut x H H'->H lw=none->H dl=none->H dgo=none->dl≠dgo->H' x=some (.ins d.w00 dx (fsD t dg lw dl dgo))->H' lw=some (.lst (D.W0.map V.str))->H' dl=some (.dK kl)->FD H' kl (qdv HS fun h=>(D.rm h:Rat))->kl.length<=60->H' dgo=some (.dK kgo)->FD H' kgo (qdv D.W0 (goQ D))->Q .non H')
include T in
theorem w97:FnOk P w K mg base (My.CX1 P w) 4 d.w3u d.w39 ["self","tree","rooms","wants","weights"] (sp_Dealing_init K d):=by
 exists okX T.wa4 w3a
 .right
 obtain⟨x,dx,t,dr,dw,dg,D,HS,kr,kw,kg,rfl,hx,ok,so,hr0,hrA,hnd,h60,hw,hwA,hg,hgA,ngd,q⟩:=h;exists (qa2 (qcf (pv 0) (pv 1) rfl)
  (qa2 (qcf (pv 0) (pv 4) rfl)
  (qa2 (qcf (pv 0) (qag (qcc rfl) rfl T.w33 wB #[pv 3]) rfl)
  (qa2 (qcf (pv 0) qb3 rfl)
  (qa2 (qcf (pv 0) qb3 rfl)
  (qa2 (qeg (qb0 (qbi rfl rfl) rfl (qcp (pv 2)) (qab (i:=5) w3a.nd rfl (uF rfl)) (qa5 (qbh (qat hr) (qau (pv 0) rfl) (pv 5) (qbq #[pv 2|||pv 5,qa6]) rfl))))
  (qa5 (qeg (qb0 (qbi rfl rfl) rfl (qcp (pv 3)) (qab (i:=6) w3a.nd rfl (uF rfl)) (qa5 (qbh (qat hr) (qau (pv 0) rfl) (pv 6) (qav ((w3b T).mono ∅) hr rfl T.w40 T.w37.kp T.w46 .nil qaq #[pv 3|||pv 6,pv 4|||pv 6]) rfl))))))))))),[sr x,sr t,sr dr,sr dw,sr dg,none,none];have cl:=T.w0g;have n1:qap K d.w00 "tree":=T.w0f;have n2:qap K d.w00 "weights":=T.w0b;have n3:qap K d.w00 "waiting":=T.w05;have n4:qap K d.w00 "left":=T.w0m;have n5:qap K d.w00 "goals":=T.w0h;have l8:=ok.l8;have kp:=qdb hwA ok.nd;have kpr:=qdb hrA hnd;have nxw:dw≠x:=fun e=>by subst e;rw[hx] at hw;cases hw
 have nxr:dr≠x:=fun e=>by subst e;rw[hx] at hr0;cases hr0
 have nxg:dg≠x:=fun e=>by subst e;rw[hx] at hg;cases hg
 left;refine qec qa1 cl n2 (by show 1<1000;decide) ?_;have ef:qe0 "weights" (.ref dg) (qe0 "tree" (.ref t) [])=(fs2 t dg):=rfl;rw[ef,qcx];have sb1:SameBut x H (upd H x (.ins d.w00 dx (fs2 t dg))):=fun b u hb e=>by rw[qa7 hb];exact e
 have ex1:upd H x (.ins d.w00 dx (fs2 t dg)) x=some (.ins d.w00 dx (fs2 t dg)):=qa1;have fr1:∀b,upd H x (.ins d.w00 dx (fs2 t dg)) b=none->H b=none:=fun b hb=>by
  by_cases c:b=x
  .subst c;rw[qa1] at hb;cases hb
  .rw[qa7 c] at hb;exact hb
 generalize upd H x (.ins d.w00 dx (fs2 t dg))=H1 at*;have hw1:=sb1 _ _ nxw hw;left;refine qe3 (ss:=qc2 kw) (.inl hw1) hwA.keys (by have:=kp.length_eq;omega) fun lw ss hlw hp hs=>?_;have ess:ss=D.W0:=qew (hp.trans kp) hs so;subst ess;have s2:=qa4 hlw (.lst (D.W0.map V.str));have ew2:upd H1 lw (.lst (D.W0.map V.str)) lw=some (.lst (D.W0.map V.str)):=qa1;have flw:=fr1 lw hlw;generalize upd H1 lw (.lst (D.W0.map V.str))=H2 at*;have ex2:=s2 _ _ ex1;have nlx:lw≠x:=fun e=>by subst e;rw[ex1] at hlw;cases hlw
 left;refine qec ex2 cl n3 (by show 2<1000;decide) ?_;rw[show qe0 "waiting" (.ref lw) (fs2 t dg)=(fs3 t dg lw) from rfl];have sb3:SameBut x H (upd H2 x (.ins d.w00 dx (fs3 t dg lw))):=fun b u hb e=>by rw[qa7 hb];exact s2 _ _ (sb1 _ _ hb e)
 have ex3:upd H2 x (.ins d.w00 dx (fs3 t dg lw)) x=some (.ins d.w00 dx (fs3 t dg lw)):=qa1;have ew3:upd H2 x (.ins d.w00 dx (fs3 t dg lw)) lw=some (.lst (D.W0.map V.str)):=by rw[qa7 nlx];exact ew2
 have fr3:∀b,upd H2 x (.ins d.w00 dx (fs3 t dg lw)) b=none->H b=none:=fun b hb=>by
  by_cases c:b=x
  .subst c;rw[qa1] at hb;cases hb
  .rw[qa7 c] at hb;exact fr1 b (s2.free hb)
 generalize upd H2 x (.ins d.w00 dx (fs3 t dg lw))=H3 at*;clear ex1 ex2 s2 sb1 fr1 hlw ew2 hw1;left;rename_i dl hdl;have s4:=qa4 hdl (.dK []);have el4:upd H3 dl (.dK []) dl=some (.dK []):=qa1;have fdl:=fr3 dl hdl;generalize upd H3 dl (.dK [])=H4 at*;have ex4:=s4 _ _ ex3;have ndx:dl≠x:=fun e=>by subst e;rw[ex3] at hdl;cases hdl
 refine qec ex4 cl n4 (by show 3<1000;decide) ?_;rw[show qe0 "left" (.ref dl) (fs3 t dg lw)=(fs4 t dg lw dl) from rfl];have sb5:SameBut x H (upd H4 x (.ins d.w00 dx (fs4 t dg lw dl))):=fun b u hb e=>by rw[qa7 hb];exact s4 _ _ (sb3 _ _ hb e)
 have ex5:upd H4 x (.ins d.w00 dx (fs4 t dg lw dl)) x=some (.ins d.w00 dx (fs4 t dg lw dl)):=qa1;have ew5:upd H4 x (.ins d.w00 dx (fs4 t dg lw dl)) lw=some (.lst (D.W0.map V.str)):=by rw[qa7 nlx];exact s4 _ _ ew3
 have el5:upd H4 x (.ins d.w00 dx (fs4 t dg lw dl)) dl=some (.dK []):=by rw[qa7 ndx];exact el4
 have fr5:∀b,upd H4 x (.ins d.w00 dx (fs4 t dg lw dl)) b=none->H b=none:=fun b hb=>by
  by_cases c:b=x
  .subst c;rw[qa1] at hb;cases hb
  .rw[qa7 c] at hb;exact fr3 b (s4.free hb)
 generalize upd H4 x (.ins d.w00 dx (fs4 t dg lw dl))=H5 at*;clear ex3 ex4 s4 sb3 fr3 hdl ew3 el4;left;rename_i dgo hdgo;have s6:=qa4 hdgo (.dK []);have eg6:upd H5 dgo (.dK []) dgo=some (.dK []):=qa1;have fdgo:=fr5 dgo hdgo;generalize upd H5 dgo (.dK [])=H6 at*;have ex6:=s6 _ _ ex5;have ngx:dgo≠x:=fun e=>by subst e;rw[ex5] at hdgo;cases hdgo
 have ngl:dl≠dgo:=fun e=>by subst e;rw[el5] at hdgo;cases hdgo
 refine qec ex6 cl n5 (by show 4<1000;decide) ?_;rw[show qe0 "goals" (.ref dgo) (fs4 t dg lw dl)=fsD t dg lw dl dgo from rfl];have sb7:SameBut x H (upd H6 x (.ins d.w00 dx (fsD t dg lw dl dgo))):=fun b u hb e=>by rw[qa7 hb];exact s6 _ _ (sb5 _ _ hb e)
 have ex7:upd H6 x (.ins d.w00 dx (fsD t dg lw dl dgo)) x=some (.ins d.w00 dx (fsD t dg lw dl dgo)):=qa1;have ew7:upd H6 x (.ins d.w00 dx (fsD t dg lw dl dgo)) lw=some (.lst (D.W0.map V.str)):=by rw[qa7 nlx];exact s6 _ _ ew5
 have el7:upd H6 x (.ins d.w00 dx (fsD t dg lw dl dgo)) dl=some (.dK []):=by rw[qa7 ndx];exact s6 _ _ el5
 have eg7:upd H6 x (.ins d.w00 dx (fsD t dg lw dl dgo)) dgo=some (.dK []):=by rw[qa7 ngx];exact eg6
 have fr7:∀b,upd H6 x (.ins d.w00 dx (fsD t dg lw dl dgo)) b=none->H b=none:=fun b hb=>by
  by_cases c:b=x
  .subst c;rw[qa1] at hb;cases hb
  .rw[qa7 c] at hb;exact fr5 b (s6.free hb)
 generalize upd H6 x (.ins d.w00 dx (fsD t dg lw dl dgo))=H7 at*;clear ex5 ex6 s6 sb5 fr5 hdgo ew5 el5 eg6;have hr7:=sb7 _ _ nxr hr0;have nlr:dl≠dr:=fun e=>by subst e;rw[fdl] at hr0;cases hr0
 have ngr:dgo≠dr:=fun e=>by subst e;rw[fdgo] at hr0;cases hr0
 have nwr:lw≠dr:=fun e=>by subst e;rw[flw] at hr0;cases hr0
 left;refine qfq hr7 fun o=>?_;refine qet (fun i σ H'=>∃(kl:List (Key×V))(w1 w2:Option V),σ=[sr x,sr t,sr dr,sr dw,sr dg,w1,w2]/\Sb2 dr dl H7 H'/\H' dr=some (.frz o (.dK kr))/\H' dl=some (.dK kl)/\FD H' kl (qdv ((qc2 kr).take i) fun h=>(D.rm h:Rat))/\kl.length<=i)
  ⟨[],none,none,rfl,fun b u n1 _ e=>by rw[qa7 n1];exact e,qa1,by rw[qa7 nlr];exact el7,FD.nil.cast fun z=>rfl,uG _⟩ ?_ ?_ ?_
 .rintro i σ H' _ ⟨kl,w1,w2,rfl,sb,fz,_⟩;exact fz
 .rintro i k v σ H' hk ⟨kl,w1,w2,rfl,sb,fz,el,hF,hlen⟩;obtain⟨z,n,rfl,rfl,hf,hzi⟩:=hrA.at hk;have hi:i<kr.length:=(uL.mp hk).1;have hRd:Rd H' dr (.dK kr):=.inr ⟨o,fz⟩;have ex':=sb _ _ nxr.symm ndx.symm ex7;have hz:z∈HS:=qcv.mp (by rw[hf];simp);have en:n=D.rm z:=by rw[qbe hz] at hf;exact(uQ hf).symm
  have kl60:kr.length<=60:=by have:=kpr.length_eq;rw[hrA.klen] at this;omega
  have zl:kl.length<sizeLine:=by show _<16777216;omega
  show qer _ (.str z) _ _ _;left;rename_i tp htp;have ntl:tp≠dl:=fun e=>by subst e;rw[el] at htp;cases htp
  have lput:=qaz kl (uH z) (.ref tp);have t1:qb2 H' (upd H' tp (.tup [V.int n,V.int 1])):=qb2.of (qa4 htp _);have t2:qb2 (upd H' tp (.tup [V.int n,V.int 1])) (upd (upd H' tp (.tup [V.int n,V.int 1])) dl (.dK (qbp kl (uH z) (.ref tp)))):=qb2.upd (u:=.dK kl) (by rw[qa7 ntl.symm];exact el) fun xs e=>by cases e
  have hfr:qbf (upd H' tp (.tup [V.int n,V.int 1])) tp ((n:Int):Rat):=qde qa1;refine⟨_,_,_,rfl,fun b u n1 n2 e=>by rw[qa7 n2];exact qaa (sb b u n1 n2 e) htp,by rw[qa7 nlr.symm];exact qaa fz htp,qa1,(((hF.t t1).put z hfr).t t2).cast fun y=>?_,#[]⟩;unfold qdv;have tk:y∈(qc2 kr).take (i+1)↔y∈(qc2 kr).take i\/y=z:=qas hzi y;by_cases c:y=z
  .rw[gJ c,gJ (tk.mpr (.inr c)),c,en]
  .rw[gI c];by_cases c2:y∈(qc2 kr).take i
   .rw[gJ c2,gJ (tk.mpr (.inl c2))]
   .rw[gI c2,gI fun h'=>(tk.mp h').elim c2 c]
 rintro σ H' ⟨kl,w1,w2,rfl,sb,fz,el,hF,hlen⟩;refine qeb (qfm fz (qcd hr0)) ?_;have kl60:kr.length<=60:=by have:=kpr.length_eq;rw[hrA.klen] at this;omega
 rw[<-hrA.klen,zK] at hF;have e8:upd H' dr (.dK kr) dr=some (.dK kr):=qa1;have sb8:∀b u,b≠dl->H7 b=some u->upd H' dr (.dK kr) b=some u:=fun b u n2 e=>by
  by_cases c:b=dr
  .subst c;rw[qa1,<-hr7];exact e
  .rw[qa7 c];exact sb b u c n2 e
 have el8:upd H' dr (.dK kr) dl=some (.dK kl):=by rw[qa7 nlr];exact el
 have hF8:FD (upd H' dr (.dK kr)) kl (qdv HS fun h=>(D.rm h:Rat)):=(hF.t (qb2.upd fz fun xs e=>by cases e)).cast fun z=>by
  unfold qdv;by_cases c:z∈HS
  .rw[gJ c,gJ (kpr.mem_iff.mpr c)]
  .rw[gI c,gI fun h=>c (kpr.mem_iff.mp h)]
 have fr8:∀b,upd H' dr (.dK kr) b=none->H7 b=none\/b=dl:=fun b hb=>by
  by_cases c:b=dl
  .exact .inr c
  .refine .inl ?_
   cases e:H7 b with
   |none=>rfl
   |some u=>rw[sb8 b u c e] at hb;cases hb
 generalize upd H' dr (.dK kr)=H8 at*;clear sb fz el hF e8 hr7;have hw8:=sb8 _ _ (fun e=>by subst e;rw[fdl] at hw;cases hw) (sb7 _ _ nxw hw);have hg8:=sb8 _ _ (fun e=>by subst e;rw[fdl] at hg;cases hg) (sb7 _ _ nxg hg);have ex8:=sb8 _ _ ndx.symm ex7;have ew8:=sb8 _ _ (fun e=>by subst e;rw[ew7] at el7;cases el7) ew7;have eg8:=sb8 _ _ ngl.symm eg7;clear ex7 ew7 eg7 el7;have ngw:dgo≠dw:=fun e=>by subst e;rw[fdgo] at hw;cases hw
 have ngg:dgo≠dg:=fun e=>by subst e;rw[fdgo] at hg;cases hg
 left;refine qfq hw8 fun o=>?_;refine qet (fun i σ H'=>∃(kgo:List (Key×V))(w1 w2:Option V),σ=[sr x,sr t,sr dr,sr dw,sr dg,w1,w2]/\Sb2 dw dgo H8 H'/\H' dw=some (.frz o (.dK kw))/\H' dgo=some (.dK kgo)/\FD H' kgo (qdv ((qc2 kw).take i) (goQ D))/\kgo.length<=i)
  ⟨[],_,_,rfl,fun b u n1 _ e=>by rw[qa7 n1];exact e,qa1,by rw[qa7 ngw];exact eg8,FD.nil.cast fun z=>rfl,uG _⟩ ?_ ?_ ?_
 .rintro i σ H' _ ⟨kgo,w1,w2,rfl,sb,fz,_⟩;exact fz
 .rintro i k v σ H' hk ⟨kgo,w1,w2,rfl,sb,fz,eg,hF,hlen⟩;obtain⟨z,n,rfl,rfl,hf,hzi⟩:=hwA.at hk;have hi:i<kw.length:=(uL.mp hk).1;have hRd:Rd H' dw (.dK kw):=.inr ⟨o,fz⟩;have hz:z∈D.W0:=qcv.mp (by rw[hf];simp);have en:n=D.wa z:=by rw[qbe hz] at hf;exact(uQ hf).symm
  have gw:qby D.W0 D.wt z=some (D.wt z):=qbe hz;have hRg:Rd H' dg (.dK kg):=.inl (sb _ _ ngd ngg.symm hg8);have ex':=sb _ _ nxw.symm ngx.symm ex8;have kw7:kw.length<=7:=by have:=kp.length_eq;rw[hwA.klen] at this;omega
  have zl:kgo.length<sizeLine:=by show _<16777216;omega
  have wa1:=ok.w1 z hz;have wa2:=ok.w2 z hz;have wn:D.wt z≠0:=by omega
  have wb:(D.wt z).natAbs<2^600:=vF (show(D.wt z).natAbs<=1000 by omega) ∅;subst en;show qer _ (.str z) _ _ _;left;refine⟨_,_,rfl,wb,wn,fun tp htp=>?_⟩;have s1:=qa4 htp (frO ((D.wa z:Rat) /(D.wt z:Rat)));have hfr:qbf (upd H' tp (frO ((D.wa z:Rat) /(D.wt z:Rat)))) tp (goQ D z):=qa1;have eg1:=s1 _ _ eg;have ex1:=s1 _ _ ex';have fz1:=s1 _ _ fz;have t1:qb2 H' (upd H' tp (frO ((D.wa z:Rat) /(D.wt z:Rat)))):=qb2.of s1;have sb1:=sb.same s1;generalize upd H' tp (frO ((D.wa z:Rat) /(D.wt z:Rat)))=H9 at*;left;have lput:=qaz kgo (uH z) (.ref tp);have t2:qb2 H9 (upd H9 dgo (.dK (qbp kgo (uH z) (.ref tp)))):=qb2.upd eg1 fun xs e=>by cases e
  refine⟨_,_,_,rfl,fun b u n1 n2 e=>by rw[qa7 n2];exact sb1 b u n1 n2 e,by rw[qa7 ngw.symm];exact fz1,qa1,(((hF.t t1).put z hfr).t t2).cast fun y=>?_,#[]⟩;unfold qdv;have tk:y∈(qc2 kw).take (i+1)↔y∈(qc2 kw).take i\/y=z:=qas hzi y;by_cases c:y=z
  .rw[gJ c,gJ (tk.mpr (.inr c)),c]
  .rw[gI c];by_cases c2:y∈(qc2 kw).take i
   .rw[gJ c2,gJ (tk.mpr (.inl c2))]
   .rw[gI c2,gI fun h'=>(tk.mp h').elim c2 c]
 rintro σ H' ⟨kgo,w1,w2,rfl,sb,fz,eg,hF,hlen⟩;refine qeb (qfm fz (qcd hw)) ?_;rw[<-hwA.klen,zK] at hF;have sb9:∀b u,b≠dgo->H8 b=some u->upd H' dw (.dK kw) b=some u:=fun b u n2 e=>by
  by_cases c:b=dw
  .subst c;rw[qa1,<-hw8];exact e
  .rw[qa7 c];exact sb b u c n2 e
 have nlw:dl≠dw:=fun e=>by subst e;rw[fdl] at hw;cases hw
 have t3:qb2 H8 (upd H' dw (.dK kw)):=fun a xs e=>sb9 a _ (fun z=>by subst z;rw[eg8] at e;cases e) e;have nlg:lw≠dgo:=fun e=>by subst e;rw[ew8] at eg8;cases eg8
 refine q lw dl dgo kl kgo _ (fun b u hb e=>?_) flw fdl fdgo ngl (sb9 _ _ ngx.symm ex8) (sb9 _ _ nlg ew8) (sb9 _ _ ngl el8) (hF8.t t3) #[] (by rw[qa7 ngw];exact eg) ((hF.t (qb2.upd fz fun xs e=>by cases e)).cast fun z=>?_)
 .refine sb9 b u (fun z=>by subst z;rw[fdgo] at e;cases e) (sb8 b u (fun z=>by subst z;rw[fdl] at e;cases e) (sb7 b u hb e))
 .unfold qdv;by_cases c:z∈D.W0
  .rw[gJ c,gJ (kp.mem_iff.mpr c)]
  .rw[gI c,gI fun h=>c (kp.mem_iff.mp h)]
structure DeAt(d:Ad)(H:Hp)(de t dg lw dl dgo:Addr)(S:Ts)(D:Dl)(HS:List Str)(kg kl kgo:List (Key×V))(W:List Str)(lf:Str->Rat):Prop where
 ob:∃dx,H de=some (.ins d.w00 dx (fsD t dg lw dl dgo))
 tz:∃H0,Same H0 H/\H0 de=none/\H0 dl=none/\TrD d H0 t S D
 g:H dg=some (.dK kg)
 gA:AD kg (qby D.W0 D.wt)
 w:H lw=some (.lst (W.map V.str))
 l:H dl=some (.dK kl)
 lA:FD H kl (qdv HS lf)
 lz:kl.length<=60
 go:H dgo=some (.dK kgo)
 goA:FD H kgo (qdv D.W0 (goQ D))
 nlg:dl≠dgo
 nld:dl≠dg
 hs:∀n∈D.W0,∀h∈D.ln n,h∈HS
def DeAt.tr{d:Ad}{de t dg lw dl dgo:Addr}{HS:List Str}{kg kl kgo:List (Key×V)}(h:DeAt d H de t dg lw dl dgo S D HS kg kl kgo W lf):TrD d H t S D:=h.tz.elim fun _ z=>z.2.2.2.same z.1
def DeAt.same{d:Ad}{H H':Hp}{de t dg lw dl dgo:Addr}{S:Ts}{D:Dl}{HS:List Str}{kg kl kgo:List (Key×V)}{W:List Str}{lf:Str->Rat}(h:DeAt d H de t dg lw dl dgo S D HS kg kl kgo W lf)(s:Same H H'):DeAt d H' de t dg lw dl dgo S D HS kg kl kgo W lf:=
 ⟨h.ob.elim fun dx e=>⟨dx,s _ _ e⟩,h.tz.elim fun H0 z=>⟨H0,z.1.trans s,z.2⟩,s _ _ h.g,h.gA,s _ _ h.w,s _ _ h.l,h.lA.t (qb2.of s),h.lz,s _ _ h.go,h.goA.t (qb2.of s),h.nlg,h.nld,h.hs⟩
open Classical in
noncomputable def flF(D:Dl)(W:List Str)(lf:Str->Rat):Str->Option Rat:=fun h=>if ∃n∈W,h∈D.ln n then some (lf h /(ldI D W h:Rat)) else none
def qcj(h:z∈W):qdv W g z=some (g z):=gJ h
theorem ldI_pos(ok:DlOk D){W:List Str}(sub:∀n∈W,n∈D.W0){h:Str}(hn:∃n∈W,h∈D.ln n):1<=ldI D W h:=by
 have nn:∀V:List Str,(∀n∈V,n∈D.W0)->0<=ldI D V h:=fun V=>by
  unfold ldI
  induction V with
  |nil=>intro _;exact Int.le_refl _
  |cons m V ih=>
   intro hs;rw[zV,cO];have:=ih fun n hn=>hs n (zD _ hn);have:=ok.w1 m (hs m (zG ..))
   split<;>omega
 induction W with
 |nil=>obtain⟨n,hn,_⟩:=hn;simp at hn
 |cons m W ih=>
  have h0:=nn W fun n hn=>sub n (zD _ hn);have hw:=ok.w1 m (sub m (zG ..));unfold ldI at h0 ih⊢;rw[zV,cO];by_cases c:h∈D.ln m
  .rw[gJ c];omega
  .rw[gI c];have:=ih (fun n hn=>sub n (zD _ hn)) (by
    obtain⟨n,hn,hl⟩:=hn;rcases zP.mp hn with rfl|hn
    .exact absurd hl c
    .exact⟨n,hn,hl⟩)
   omega
theorem ldI_bd(ok:DlOk D){W:List Str}(sub:∀n∈W,n∈D.W0)(w7:W.length<=7)(h:Str):ldI D W h<=7000:=by
 have:ldI D W h<=1000*(W.length:Int):=by
  unfold ldI;clear w7
  induction W with
  |nil=>simp
  |cons m W ih=>
   rw[zV,cO,zR];have:=ih fun n hn=>sub n (zD _ hn);have:=ok.w2 m (sub m (zG ..))
   split<;>omega
 omega
inductive sp_Dealing_fills(K:uS)(d:Ad)(vs:List V)(H:Hp)(Q:VK)(E:XK):Prop
 |mk(de t dg lw dl dgo:Addr)(S:Ts)(D:Dl)(HS:List Str)(kg kl kgo:List (Key×V))(W:List Str)(lf:Str->Rat)(_:vs=[.ref de])(_:DlOk D)(_:DeAt d H de t dg lw dl dgo S D HS kg kl kgo W lf)(_:(∀n∈W,n∈D.W0))(_:W.length<=7)(_:(∀n∈W,∀h∈D.ln n,RB (lf h)))(_:∀l kf H',Same H H'->H l=none->H' l=some (.dK kf)->FD H' kf (flF D W lf)->kf.length<=200->Q (.ref l) H')
include T in
theorem w8u:FnOk P w K mg base (My.CX1 P w) 7 d.w3e d.w2s ["self"] (sp_Dealing_fills K d):=by
 exists okX T.w98 w1s
 .right
 obtain⟨de,t,dg,lw,dl,dgo,S,D,HS,kg,kl,kgo,W,lf,rfl,ok,hD,sub,w7,rb,q⟩:=h;exists (qa2 (qae (i:=1) w1s.nd rfl (uF rfl) (qav ((wcf T).mono ∅) hr rfl T.wed T.waj.kp T.wee .nil qaq #[qau (pv 0) rfl,qau (pv 0) rfl,qau (pv 0) rfl]))
  (qa2 (qae (i:=2) w1s.nd rfl (uF rfl) qb3)
  (qa2 (qeg (qb0 (qbi rfl rfl) rfl (qcp (pv 1)) (qab (i:=3) w1s.nd rfl (uF rfl)) (qa5 (qbh (qat hr) (pv 2) (pv 3) (qav ((waa T).mono ∅) hr rfl T.wbi T.w9u.kp T.wbt .nil qaq #[qau (pv 0) rfl|||pv 3,qbq #[pv 1|||pv 3,qa6]]) rfl))))
  (qa5 (qad (pv 2)))))),[sr de,none,none,none];have cl:=T.w0g;have n1:qap K d.w00 "tree":=T.w0f;have n2:qap K d.w00 "weights":=T.w0b;have n3:qap K d.w00 "waiting":=T.w05;have n4:qap K d.w00 "left":=T.w0m;obtain⟨dx,ho⟩:=hD.ob;left;refine⟨t,dg,lw,S,D,kg,W,rfl,ok,hD.tr,hD.g,hD.gA,hD.w,sub,w7,fun ll k1 H1 s1 hll el1 hA1 hk1=>?_⟩;left;rename_i l hl;have s2:=s1.trans (qa4 hl (.dK []));have el2:=qaa (o':=.dK []) el1 hl;have e2:upd H1 l (.dK []) l=some (.dK []):=qa1;have hl0:H l=none:=s1.free hl;have nll:l≠ll:=fun e=>by subst e;rw[el1] at hl;cases hl
 generalize upd H1 l (.dK [])=H2 at*;have nlo:l≠dl:=fun e=>by subst e;rw[hD.l] at hl0;cases hl0
 have nod:dl≠ll:=fun e=>by subst e;rw[hD.l] at hll;cases hll
 have noe:de≠ll:=fun e=>by subst e;rw[ho] at hll;cases hll
 have nle:l≠de:=fun e=>by subst e;rw[ho] at hl0;cases hl0
 have ho2:=s2 _ _ ho;have hd2:=s2 _ _ hD.l;have hF2:=hD.lA.t (qb2.of s2);have nf2:NoFrz H ll:=fun o u e=>by rw[hll] at e;cases e
 clear hl el1;refine qfq el2 fun o=>?_;refine qet (fun i σ H'=>∃(kf:List (Key×V))(w:Option V),σ=[sr de,sr ll,sr l,w]/\Sb2 ll l H2 H'/\H' ll=some (.frz o (.dK k1))/\H' l=some (.dK kf)/\FD H' kf (fun h=>if h∈(qc2 k1).take i then flF D W lf h else none)/\kf.length<=i)
  ⟨[],none,rfl,fun b u n1 _ e=>by rw[qa7 n1];exact e,qa1,by rw[qa7 nll];exact e2,FD.nil.cast fun z=>by simp,uG _⟩ ?_ ?_ ?_
 .rintro i σ H' _ ⟨kf,w,rfl,sb,fz,_⟩;exact fz
 .rintro i k v σ H' hk ⟨kf,w,rfl,sb,fz,ef,hF,hlen⟩;obtain⟨z,n,rfl,rfl,hf,hzi⟩:=hA1.at hk;have hi:i<k1.length:=(uL.mp hk).1;have hRd:Rd H' ll (.dK k1):=.inr ⟨o,fz⟩;have ho':=sb _ _ noe nle.symm ho2;have hd':=sb _ _ nod nlo.symm hd2;have hRl:Rd H' dl (.dK kl):=.inl hd';have tS:qb2 H2 H':=fun a xs e=>sb a _ (fun z=>by subst z;rw[el2] at e;cases e) (fun z=>by subst z;rw[e2] at e;cases e) e;have hFl:=hF2.t tS;have hex:∃m∈W,z∈D.ln m:=by
   refine wT fun c=>?_;unfold ldF at hf;rw[gI c] at hf
   cases hf
  have en:n=ldI D W z:=by
   unfold ldF at hf;rw[gJ hex] at hf;exact(uQ hf).symm
  obtain⟨m,hm,hml⟩:=id hex;have hzH:z∈HS:=hD.hs m (sub m hm) z hml;have b1:=ldI_pos ok sub hex;have b2:=ldI_bd ok sub w7 z;have zl:kf.length<sizeLine:=by show _<16777216;omega
  show qer _ (.str z) _ _ _;left;refine qed hRl hFl (qcj hzH) fun bq hbq=>?_;left;rename_i tp htp;have s3:=qa4 htp (.tup [V.int n,V.int 1]);have hfr:qbf (upd H' tp (.tup [V.int n,V.int 1])) tp ((n:Int):Rat):=qde qa1;generalize upd H' tp (.tup [V.int n,V.int 1])=H3 at*;have nq:((n:Int):Rat)≠0:=fun e=>by
   have:n=0:=by exact_mod_cast e
   omega
  refine⟨bq,tp,_,_,rfl,s3 _ _ hbq,hfr,rb m hm z hml,qfp (vF (show n.natAbs<=7000 by omega) ∅),nq,fun r hr=>?_⟩;have s4:=s3.trans (qa4 hr (frO (lf z /(n:Rat))));have hfq:qbf (upd H3 r (frO (lf z /(n:Rat)))) r (lf z /(n:Rat)):=qa1;generalize upd H3 r (frO (lf z /(n:Rat)))=H4 at*;have ef4:=s4 _ _ ef;have fz4:=s4 _ _ fz;left;have lput:=qaz kf (uH z) (.ref r);have t2:qb2 H4 (upd H4 l (.dK (qbp kf (uH z) (.ref r)))):=qb2.upd ef4 fun xs e=>by cases e
  refine⟨_,_,rfl,fun b u n1 n2 e=>by rw[qa7 n2];exact s4 _ _ (sb b u n1 n2 e),by rw[qa7 nll.symm];exact fz4,qa1,(((hF.t (qb2.of s4)).put z hfq).t t2).cast fun y=>?_,#[]⟩;have tk:y∈(qc2 k1).take (i+1)↔y∈(qc2 k1).take i\/y=z:=qas hzi y;by_cases c:y=z
  .rw[gJ c,gJ (tk.mpr (.inr c)),c,en];unfold flF;rw[gJ hex]
  .rw[gI c];by_cases c2:y∈(qc2 k1).take i
   .rw[gJ c2,gJ (tk.mpr (.inl c2))]
   .rw[gI c2,gI fun h'=>(tk.mp h').elim c2 c]
 rintro σ H' ⟨kf,w,rfl,sb,fz,ef,hF,hlen⟩;refine qeb (qfm fz nf2) ?_;rw[<-hA1.klen,zK] at hF;have sb9:∀b u,b≠l->H2 b=some u->upd H' ll (.dK k1) b=some u:=fun b u n2 e=>by
  by_cases c:b=ll
  .subst c;rw[qa1,<-el2];exact e
  .rw[qa7 c];exact sb b u c n2 e
 left;refine q l kf _ (fun b u e=>sb9 b u (fun z=>by subst z;rw[hl0] at e;cases e) (s2 b u e)) hl0 (by rw[qa7 nll];exact ef) ((hF.t (qb2.upd fz fun xs e=>by cases e)).cast fun z=>?_) #[];by_cases c:z∈qc2 k1
 .rw[gJ c]
 .rw[gI c];unfold flF;rw[gI fun hex=>c ((hA1.kin z).mpr (by unfold ldF;rw[gJ hex];simp))]
theorem sumQ_pick{f:Str->Rat}:∀{l:List Str} {m:Str},l.Nodup->m∈l->qc8 l (fun n=>if n=m then f n else 0)=f m
 | [],_,_,h=>by simp at h
 |k::l,m,nd,h=>by
  rw[zW] at nd;show(if k=m then f k else 0)+qc8 l _=f m;by_cases c:k=m
  .subst c;rw[gJ rfl,qe8 fun n hn=>gI fun e=>nd.1 (by rw[<-e];exact hn)];grind
  .rw[gI c,sumQ_pick nd.2 ((zP.mp h).resolve_left fun e=>c e.symm)];grind
theorem qgy{D:Dl}(ok:DlOk D)(h:Str):∀{W:List Str},W.Nodup->(∀n∈W,n∈D.W0)->ldQ D W h=(ldI D W h:Rat)
 | [],_,_=>by rw[qeq fun m hm=>by simp at hm];rfl
 |m::W,nd,sub=>by
  rw[zW] at nd;have ih:=qgy ok h nd.2 fun n hn=>sub n (zD _ hn);have e1:ldI D (m::W) h=(if h∈D.ln m then D.wt m else 0)+ldI D W h:=by unfold ldI;rw[zV,cO]
  rw[e1,aH,<-ih];have e2:=sumQ_pick (f:=fun n=>if h∈D.ln n then(D.wt n:Rat) else 0) ok.nd (sub m (zG ..));have e3:(((if h∈D.ln m then D.wt m else 0:Int)):Rat)=if h∈D.ln m then(D.wt m:Rat) else 0:=by split<;>rfl
  rw[e3,<-e2];unfold ldQ;rw[<-qfd];refine qc7 fun n _=>?_
  try dsimp only
  by_cases c:n=m
  .subst c;by_cases c2:h∈D.ln n
   .rw[gJ ⟨zG ..,c2⟩,gJ rfl,gJ c2,gI fun z=>nd.1 z.1];grind
   .rw[gI fun z=>c2 z.2,gJ rfl,gI c2,gI fun z=>c2 z.2];grind
  .rw[gI c];by_cases c2:n∈W/\h∈D.ln n
   .rw[gJ ⟨zD _ c2.1,c2.2⟩,gJ c2];grind
   .rw[gI fun z=>c2 ⟨(zP.mp z.1).resolve_left c,z.2⟩,gI c2];grind
theorem flF_in(ok:DlOk D){W:List Str}(nd:W.Nodup)(sub:∀n∈W,n∈D.W0)(lf:Str->Rat){h n:Str}(hn:n∈W)(hl:h∈D.ln n):flF D W lf h=some (lf h/ldQ D W h):=by
 unfold flF;rw[gJ ⟨n,hn,hl⟩,qgy ok h nd sub]
theorem peq_fr{K:uS}(ha:qbf H a q)(hb:qbf H b r):PEq K H 1 (.ref a) (.ref b) (decide (q=r)):=by
 by_cases c:a=b
 .subst c;rw[gK (ha.uniq hb)];exact .same
 .have key:((vG (min [V.int q.num,V.int (q.den:Int)].length [V.int r.num,V.int (r.den:Int)].length)).all (fun j=>if j=0 then eqV (V.int q.num) (V.int r.num) else eqV (V.int (q.den:Int)) (V.int (r.den:Int))) && [V.int q.num,V.int (q.den:Int)].length==[V.int r.num,V.int (r.den:Int)].length)=decide (q=r):=by
   show((eqV (V.int q.num) (V.int r.num) && (eqV (V.int (q.den:Int)) (V.int (r.den:Int)) && true)) && true)=_;show((decide (q.num=r.num) && (decide ((q.den:Int)=(r.den:Int)) && true)) && true)=_;by_cases e1:q.num=r.num
   .by_cases e2:q.den=r.den
    .rw[gK e1,gK (by rw[e2]),gK (Rat.ext e1 e2)];rfl
    .rw[gK e1,gL #[],gL (p:=q=r) (fun z=>e2 (by rw[z]))];rfl
   .rw[gL e1,gL (p:=q=r) (fun z=>e1 (by rw[z]))];rfl
  rw[<-key];refine .ts (SqT.of ha) (SqT.of hb) c fun j h1 h2=>?_;have:j<2:=h1;obtain rfl|rfl:j=0\/j=1:=by omega
  .exact .flat rfl rfl
  .exact .flat rfl rfl
inductive sp_Dealing_ready(K:uS)(d:Ad)(vs:List V)(H:Hp)(Q:VK)(E:XK):Prop
 |mk(de t dg lw dl dgo lv ff:Addr)(S:Ts)(D:Dl)(HS:List Str)(kg kl kgo kf:List (Key×V))(W:List Str)(lf:Str->Rat)(L:Rat)(_:vs=[.ref de,.ref lv,.ref ff])(_:DlOk D)(_:DeAt d H de t dg lw dl dgo S D HS kg kl kgo W lf)(_:(∀n∈W,n∈D.W0))(_:W.Nodup)(_:qbf H lv L)(_:H ff=some (.dK kf))(_:FD H kf (flF D W lf))(_:∀l H',Same H H'->H l=none->H' l=some (.lst ((rdy D W lf L).map V.str))->Q (.ref l) H')
open Classical in
include T in
theorem w8l:FnOk P w K mg base (My.CX1 P w) 6 d.w3i d.w30 ["self","level","fills"] (sp_Dealing_ready K d):=by
 exists okX T.w9o w1u
 .right
 obtain⟨de,t,dg,lw,dl,dgo,lv,ff,S,D,HS,kg,kl,kgo,kf,W,lf,L,rfl,ok,hD,sub,nd,hL,hff,hF,q⟩:=h;exists (qa2 (qae (i:=3) w1u.nd rfl (uF rfl) (qbb qa3))
  (qa2 (qb0 (qbi rfl rfl) rfl (qaw (qau (pv 0) rfl)) (qab (i:=4) w1u.nd rfl (uF rfl)) (qa2 (qae (i:=5) w1u.nd rfl (uF rfl) (qah qdl (qch (caps:=[2]) (cn:=["fills"]) (qc6 rfl rfl (by rfl) (by rfl) rfl ⟨rfl,trivial⟩ (by rfl) rfl ⟨⟨rfl,rfl,rfl,rfl,_,rfl⟩,trivial⟩ ∅) rfl (qaw (qb1 (qau (pv 0) rfl) T.w03 T.w0j ((w23 T).mono ∅) hr T.w2k .nil qaq #[pv 4])) (fun _ _ _ _=>qdd) (fun _ _ _ _=>(pv 1|||pv 0))) (qbb #[qau (pv 0) rfl|||pv 4])))
  (qa5 (qdc (qb4 (qai (op_inX (hu8 hr)) (pv 1) (pv 5) (by rfl)) (qa5 (qbn (qf7 vT wC wD qc0 (pv 3) #[pv 4]))) qak)))))
  (qa5 (qad (pv 3))))),[sr de,sr lv,sr ff,none,none,none];have cl:=T.w0g;have ct:=T.w03;have n1:qap K d.w00 "tree":=T.w0f;have n3:qap K d.w00 "waiting":=T.w05;have n5:qap K d.w00 "goals":=T.w0h;obtain⟨dx,ho⟩:=hD.ob;have w7:W.length<=7:=vJ (vN nd sub) ok.l8;left;rename_i l hl;have s1:=qa4 hl (.lst []);have el:upd H l (.lst []) l=some (.lst []):=qa1;have ho1:=s1 _ _ ho;have hw1:=s1 _ _ hD.w;generalize upd H l (.lst [])=H1 at*;left;refine qbs (xs:=W.map V.str) (fun i σ H'=>∃(w1 w2:Option V),σ=[sr de,sr lv,sr ff,sr l,w1,w2]/\Same H H'/\H' l=some (.lst (((W.take i).filter fun n=>decide (n∈rdy D W lf L)).map V.str))) ⟨none,none,rfl,s1,el⟩ ?_ ?_ ?_
 .rintro i σ H' _ ⟨w1,w2,rfl,sm,_⟩;exact SqL.of (sm _ _ hD.w)
 .rintro i v σ H' hv ⟨w1,w2,rfl,sm,el2⟩;rw[zC] at hv;obtain⟨n,hn,rfl⟩:=uI.mp hv;have hnW:=zF hn;have hn0:=sub n hnW;obtain⟨e,ae,ew,hln⟩:=hD.tr.ln n hn0;obtain⟨tx,ht⟩:=id (hD.tr.tr.same sm).1;have lz:=ok.lz n hn0;have etk:W.take (i+1)=W.take i++[n]:=by rw[zO,hn];rfl
  have ho2:=sm _ _ ho;clear hv;left;refine⟨t,S,.str n,rfl,hD.tr.tr.same sm,.inl ⟨n,_,rfl,hln,#[],fun ll hll=>?_⟩⟩;have s2:=sm.trans (qa4 hll (.lst ((D.ln n).map V.str)));have ell:upd H' ll (.lst ((D.ln n).map V.str)) ll=some (.lst ((D.ln n).map V.str)):=qa1;have el3:=qaa (o':=.lst ((D.ln n).map V.str)) el2 hll;generalize upd H' ll (.lst ((D.ln n).map V.str))=H2 at*;clear hll el2 ho2 ht;left;intro C s0 H0 fp acc hacc;refine c_by (D.ln n).length (fun j H'=>∃ps:List (Addr×Rat),Same H2 H'/\H' acc=some (.lst (ps.map fun p=>V.ref p.1))/\(∀p∈ps,qbf H' p.1 p.2)/\ps.map (·.2)=((D.ln n).take j).map fun h=>lf h/ldQ D W h) ⟨[],qa4 hacc _,qa1,fun p hp=>by simp at hp,rfl⟩ ?_ ?_ ?_ ?_
  .rintro j H' hj ⟨ps,sx,_⟩;exact⟨_,.str (D.ln n)[j],SqL.of (sx _ _ ell),by rw[zC,zB hj];rfl⟩
  .rintro H' ⟨ps,sx,_⟩;exact⟨_,SqL.of (sx _ _ ell),by rw[zA];exact uG _⟩
  .rintro j H' v H'' hj ⟨ps,sx,ea,hps,hms⟩ ⟨rfl,hv⟩;have hv:=hv _ (SqL.of (sx _ _ ell));rw[zC,zB hj] at hv
   cases hv
   have hm:=zX hj;have etj:(D.ln n).take (j+1)=(D.ln n).take j++[(D.ln n)[j]]:=by rw[zO,zB hj];rfl
   have hlen:ps.length=j:=by have:=congrArg wF hms;rw[zA,zA,zS] at this;omega
   generalize (D.ln n)[j]=h at*;have hRf:Rd H'' ff (.dK kf):=.inl (sx _ _ (s2 _ _ hff));have hFf:=hF.t (qb2.of (s2.trans sx));have zl:(ps.map fun p=>V.ref p.1).length<sizeLine:=by rw[zA];show _<16777216;omega
   clear hv;left;refine qed hRf hFf (flF_in ok nd sub lf hnW hm) fun b hb=>?_;left;have t5:qb2 H'' (upd H'' acc (.lst ((ps.map fun p=>V.ref p.1)++[V.ref b]))):=qb2.upd ea fun xs e=>by cases e
   refine⟨ps++[(b,lf h/ldQ D W h)],qb6 sx hacc,by rw[qa1,zL];rfl,fun p hp=>?_,by rw[zL,hms,etj,zL];rfl⟩;rcases zH.mp hp with h1|h1
   .exact t5 _ _ (hps p h1)
   .rw[zE.mp h1];exact t5 _ _ hb
  rintro H3 ⟨ps,s3,ea,hps,hms⟩;rw[zK] at hms;have s4:=s2.trans s3;have ho3:=s4 _ _ ho;have hRg:Rd H3 dgo (.dK kgo):=.inl (s4 _ _ hD.go);have hFg:=hD.goA.t (qb2.of s4);left;refine qed hRg hFg (qcj hn0) fun b hb=>?_;left;rename_i p1 hp1;have nal:acc≠p1:=fun e=>by subst e;rw[ea] at hp1;cases hp1
  have plen:ps.length=(D.ln n).length:=by have:=congrArg wF hms;rw[zA,zA] at this;exact this
  refine r_cat (xs:=ps.map fun p=>V.ref p.1) (by rw[qa7 nal];exact ea) qa1 (by rw[zA];show _+1<=16777216;omega) fun p2 hp2=>?_;have s5:Same H3 (upd (upd H3 p1 (.lst [V.ref b])) p2 (.lst ((ps.map fun p=>V.ref p.1)++[V.ref b]))):=(qa4 hp1 _).trans (qa4 hp2 _);have e5:upd (upd H3 p1 (.lst [V.ref b])) p2 (.lst ((ps.map fun p=>V.ref p.1)++[V.ref b])) p2=some (.lst ((ps.map fun p=>V.ref p.1)++[V.ref b])):=qa1;generalize upd (upd H3 p1 (.lst [V.ref b])) p2 (.lst ((ps.map fun p=>V.ref p.1)++[V.ref b]))=H5 at*;have s6:=s4.trans s5;have el5:=s5 _ _ (s3 _ _ el3);have hL5:qbf H5 lv L:=s6 _ _ hL;have hb5:qbf H5 b (goQ D n):=s5 _ _ hb;have hps5:∀p∈ps,qbf H5 p.1 p.2:=fun p hp=>s5 _ _ (hps p hp);clear hp1 hp2 s5 hRg hFg ho3 hb hps ea s3 s4;left;refine qdy ?_;left;refine⟨p2,_,fun v=>decide (∃a,v=.ref a/\qbf H5 a L),rfl,SqL.of e5,fun v hv=>⟨1,∅,?_⟩,?_⟩
  .have:∃a q,v=.ref a/\qbf H5 a q:=by
    rcases zH.mp hv with h1|h1
    .obtain⟨p,hp,rfl⟩:=zI.mp h1;exact⟨_,_,rfl,hps5 p hp⟩
    .exact⟨b,_,zE.mp h1,hb5⟩
   obtain⟨a,r,rfl,ha⟩:=this;have e6:decide (∃a',V.ref a=.ref a'/\qbf H5 a' L)=decide (r=L):=by
    refine decide_eq_decide.mpr ⟨?_,fun e=>⟨a,rfl,e▸ha⟩⟩;rintro⟨a',e,h'⟩
    cases e
    exact ha.uniq h'
   show PEq K H5 1 (V.ref a) (V.ref lv) (decide (∃a',V.ref a=.ref a'/\qbf H5 a' L));rw[e6];exact peq_fr ha hL5
  have e7:(((ps.map fun p=>V.ref p.1)++[V.ref b]).any fun v=>decide (∃a,v=.ref a/\qbf H5 a L))=decide (n∈rdy D W lf L):=by
   rw[wY,yG,decide_eq_true_iff,qd0];constructor
   .rintro⟨v,hv,he⟩;obtain⟨a,rfl,ha⟩:=of_decide_eq_true he;refine⟨hnW,?_⟩;rcases zH.mp hv with h1|h1
    .obtain⟨p,hp,e⟩:=zI.mp h1
     cases e
     have h2:=(hps5 p hp).uniq ha;have h3:p.2∈ps.map (·.2):=zI.mpr ⟨p,hp,rfl⟩;rw[hms] at h3;obtain⟨h,hh,e⟩:=zI.mp h3;exact .inl ⟨h,hh,by rw[e,h2]⟩
    .have e:=zE.mp h1
     cases e
     exact .inr (hb5.uniq ha)
   .rintro⟨_,⟨h,hh,e⟩|e⟩
    .have h3:L∈ps.map (·.2):=by rw[hms];exact zI.mpr ⟨h,hh,e⟩
     obtain⟨p,hp,e2⟩:=zI.mp h3;exact⟨.ref p.1,zQ _ (zI.mpr ⟨p,hp,rfl⟩),gK ⟨p.1,rfl,e2▸hps5 p hp⟩⟩
    .exact⟨.ref b,zM _ (zE.mpr rfl),gK ⟨b,rfl,e▸hb5⟩⟩
  rw[e7];have zl:(((W.take i).filter fun n=>decide (n∈rdy D W lf L)).map V.str).length<sizeLine:=by
   rw[zA];have h1:=yC (fun n=>decide (n∈rdy D W lf L)) (W.take i);rw[zS] at h1;show _<16777216;omega
  by_cases c:n∈rdy D W lf L
  .rw[gK c];left;refine⟨_,_,rfl,qb6 s6 hl,?_⟩;rw[qa1,etk,yE,zL,cS (p:=fun n=>decide (n∈rdy D W lf L)) (gK c)];rfl
  .rw[gL c];left;refine⟨_,_,rfl,s6,?_⟩;rw[el5,etk,yE,zL,aO (by rw[gL c];simp)];simp
 rintro σ H' ⟨w1,w2,rfl,sm,el2⟩;left;refine q l H' sm hl ?_;rw[el2,zA,zK]
 congr 3
 refine(List.filter_congr fun n hn=>?_);exact decide_eq_decide.mpr ((qd0).trans ⟨fun z=>z.2,fun z=>⟨hn,z⟩⟩)
theorem qes(L:List Str):((L.map V.str).all fun v=>qd6 v)=true:=by
 rw[fU];exact zZ.mpr fun _ _=>rfl
theorem inV_st(x:Str):∀L:List Str,inV (.str x) (L.map V.str)=decide (x∈L)
 | []=>rfl
 |y::L=>by
  have ih:=inV_st x L;unfold inV at ih⊢;rw[zV,yN,ih];by_cases c:y=x
  .subst c;rw[show eqV (V.str y) (V.str y)=true from beq_self_eq_true _,gK (zG ..)];rfl
  .rw[show eqV (V.str y) (V.str x)=false from beq_false_of_ne c,eF];by_cases m:x∈L
   .rw[gK m,gK (zD _ m)]
   .rw[gL m,gL fun z=>(zP.mp z).elim (fun e=>c e.symm) m]
def r_notInSt{K:uS}{p:Addr}{x:Str}(h:SqL K H p (L.map V.str))(q:Q (.bl (!decide (x∈L))) H):rIn K true (.str x) (.ref p) H Q:=⟨p,_,rfl,.inl h,rfl,qes L,by rw[inV_st];exact q⟩
theorem ldQ_app(ok:DlOk D){V:List Str}{n:Str}(nd:(V++[n]).Nodup)(sub:∀m∈V++[n],m∈D.W0)(h:Str):ldQ D (V++[n]) h=ldQ D V h+if h∈D.ln n then(D.wt n:Rat) else 0:=by
 rw[qgy ok h nd sub,qgy ok h (aZ.mp nd).1 fun m hm=>sub m (zQ _ hm),ldI_app,aH]
 split<;>rfl
theorem putK_len{kvs:List (Key×V)}{k:Key}{v w:V}(h:qcn kvs k=some w):(qbp kvs k v).length=kvs.length:=by
 have:=congrArg wF (qee (kvs:=kvs) (k:=k) (v:=v) (by rw[h];simp));rw[zA,zA] at this;exact this
def wls_len(W R:List Str):(wls W R).length<=W.length:=yC _ _
inductive sp_Dealing_settle(K:uS)(d:Ad)(vs:List V)(H:Hp)(Q:VK)(E:XK):Prop
 |mk(de t dg lw dl dgo lv ln:Addr)(S:Ts)(D:Dl)(HS:List Str)(kg kl kgo:List (Key×V))(W R:List Str)(lf:Str->Rat)(L:Rat)(_:vs=[.ref de,.ref lv,.ref ln])(_:DlOk D)(_:DeAt d H de t dg lw dl dgo S D HS kg kl kgo W lf)(_:(∀n∈W,n∈D.W0))(_:W.Nodup)(_:qbf H lv L)(_:RB L)(_:H ln=some (.lst (R.map V.str)))(_:(∀n∈R,n∈W))(_:R.Nodup)(_:(∀n∈R,RB (L*(D.wt n:Rat))))(_:(∀i,∀n∈D.W0,∀h∈D.ln n,RB (lf h-L*ldQ D (R.take i) h)))(_:∀lw' kl' H',Sb2 de dl H H'->H lw'=none->DeAt d H' de t dg lw' dl dgo S D HS kg kl' kgo (wls W R) (lfN D lf L R)->Q .non H')
include T in
theorem w7t:FnOk P w K mg base (My.CX1 P w) 6 d.w2t d.w2e ["self","level","names"] (sp_Dealing_settle K d):=by
 exists okX T.w8j w1k
 .right
 obtain⟨de,t,dg,lw,dl,dgo,lv,ln,S,D,HS,kg,kl,kgo,W,R,lf,L,rfl,ok,hD,sub,nd,hL,rL,hln,hRW,ndR,rLw,rLf,q⟩:=h;refine⟨_,(qa2 (qb0 (qbi rfl rfl) rfl (qaw (pv 2)) (qab (i:=3) w1k.nd rfl (uF rfl)) (qa2 (qae (i:=4) w1k.nd rfl (uF rfl) (qav ((we5 T).mono ∅) hr rfl T.wgc T.wcm.kp T.wg2 .nil qaq #[pv 1,qbq #[qau (pv 0) rfl|||pv 3,qa6]]))
  (qa5 (qb0 (qbi rfl rfl) rfl (qaw (qb1 (qau (pv 0) rfl) T.w03 T.w0j ((w23 T).mono ∅) hr T.w2k .nil qaq #[pv 3])) (qab (i:=5) w1k.nd rfl (uF rfl)) (qa5 (qbh (qat hr) (qau (pv 0) rfl) (pv 5) (qav ((wgs T).mono ∅) hr rfl T.wi9 T.wgf.kp T.wib .nil qaq #[qau (pv 0) rfl|||pv 5,pv 4]) rfl))))))
  (qa5 (qcf (pv 0) (qch (caps:=[2]) (cn:=["names"]) (qc6 rfl rfl (by rfl) (by rfl) rfl ⟨rfl,trivial⟩ (by rfl) rfl ⟨⟨rfl,rfl,rfl,rfl,_,rfl⟩,trivial⟩ ∅) rfl (qaw (qau (pv 0) rfl)) (fun _ _ _ _=>(pf_one (qai qct (pv 0) (pv 1) (by rfl)))) (fun _ _ _ _=>(pv 0))) rfl))),?_⟩
 walk_at"d"
 try dsimp only[cxC]
 refine qac (σ:=[sr de,sr lv,sr ln,none,none,none]) rfl ?_;have cl:=T.w0g;have ct:=T.w03;have n1:qap K d.w00 "tree":=T.w0f;have n2:qap K d.w00 "weights":=T.w0b;have n3:qap K d.w00 "waiting":=T.w05;have n4:qap K d.w00 "left":=T.w0m;obtain⟨dx,ho⟩:=hD.ob;obtain⟨H0,s0,f0e,f0l,hT0⟩:=hD.tz;have w7:W.length<=7:=vJ (vN nd sub) ok.l8;have nel:de≠dl:=fun e=>by subst e;rw[hD.l] at ho;cases ho
 have nll:ln≠dl:=fun e=>by subst e;rw[hD.l] at hln;cases hln
 have nvl:lv≠dl:=fun e=>by subst e;unfold qbf at hL;rw[hD.l] at hL;cases hL
 have nwl:lw≠dl:=fun e=>by subst e;have:=hD.w;rw[hD.l] at this;cases this
 left;refine qbs (xs:=R.map V.str) (fun i σ H'=>∃(kl':List (Key×V))(w1 w2 w3:Option V),σ=[sr de,sr lv,sr ln,w1,w2,w3]/\SameBut dl H H'/\H' dl=some (.dK kl')/\FD H' kl' (qdv HS fun h=>lf h-L*ldQ D (R.take i) h)/\kl'.length=kl.length) ⟨kl,none,none,none,rfl,fun b u _ e=>e,hD.l,hD.lA.cast fun z=>?_,rfl⟩ ?_ ?_ ?_
 .congr 1
  funext h
  rw[List.take_zero,qeq fun m hm=>by simp at hm];grind
 .rintro i σ H' _ ⟨kl',w1,w2,w3,rfl,sm,_⟩;exact SqL.of (sm _ _ nll hln)
 .rintro i v σ H' hv ⟨kl',w1,w2,w3,rfl,sm,el,hF,hkl⟩;rw[zC] at hv;obtain⟨n,hn,rfl⟩:=uI.mp hv;have hnR:=zF hn;have hn0:=sub n (hRW n hnR);obtain⟨e,ae,ew,hlN⟩:=hD.tr.ln n hn0;have sT:Same H0 H':=fun b u e=>sm b u (fun z=>by subst z;rw[f0l] at e;cases e) (s0 b u e);obtain⟨tx,ht⟩:=id (hT0.tr.same sT).1;have lz:=ok.lz n hn0;have lnd:=ok.ld n hn0;have etk:R.take (i+1)=R.take i++[n]:=by rw[zO,hn];rfl
  have ho2:=sm _ _ nel ho;have hRg:Rd H' dg (.dK kg):=.inl (sm _ _ hD.nld.symm hD.g);have gw:qby D.W0 D.wt n=some (D.wt n):=qbe hn0;have hgA:=hD.gA;clear hv;left;rename_i tp htp;have s3:=qa4 htp (.tup [V.int (D.wt n),V.int 1]);have hfr:qbf (upd H' tp (.tup [V.int (D.wt n),V.int 1])) tp ((D.wt n:Int):Rat):=qde qa1;generalize upd H' tp (.tup [V.int (D.wt n),V.int 1])=H3 at*;have wa1:=ok.w1 n hn0;have wa2:=ok.w2 n hn0;refine⟨lv,tp,_,_,rfl,s3 _ _ (sm _ _ nvl hL),hfr,rL,qfp (vF (show(D.wt n).natAbs<=1000 by omega) ∅),fun r hr=>?_⟩;have s4:=s3.trans (qa4 hr (frO (L*(D.wt n:Rat))));have hsh:qbf (upd H3 r (frO (L*(D.wt n:Rat)))) r (L*(D.wt n:Rat)):=qa1;generalize upd H3 r (frO (L*(D.wt n:Rat)))=H4 at*;have ho4:=s4 _ _ ho2;have ht4:=s4 _ _ ht;have el4:=s4 _ _ el;clear ho2 ht hRg hr htp s3 hfr;left;refine⟨t,S,.str n,rfl,hT0.tr.same (sT.trans s4),.inl ⟨n,_,rfl,hlN,#[],fun ll hll=>?_⟩⟩;have s5:=s4.trans (qa4 hll (.lst ((D.ln n).map V.str)));have ell:upd H4 ll (.lst ((D.ln n).map V.str)) ll=some (.lst ((D.ln n).map V.str)):=qa1;have el5:=qaa (o':=.lst ((D.ln n).map V.str)) el4 hll;have hsh5:qbf (upd H4 ll (.lst ((D.ln n).map V.str))) r (L*(D.wt n:Rat)):=qaa hsh hll;have nl5:ll≠dl:=fun z=>by subst z;rw[el4] at hll;cases hll
  generalize upd H4 ll (.lst ((D.ln n).map V.str))=H5 at*;have ho5:=s5 _ _ (sm _ _ nel ho);have nrl:r≠dl:=fun z=>by subst z;unfold qbf at hsh5;rw[el5] at hsh5;cases hsh5
  clear hll el4 ht4 ho4 hsh s4;left;refine qbs (xs:=(D.ln n).map V.str) (fun j σ H'=>∃(k2:List (Key×V))(w3:Option V),σ=[sr de,sr lv,sr ln,some (.str n),sr r,w3]/\SameBut dl H5 H'/\H' dl=some (.dK k2)/\FD H' k2 (qdv HS fun h=>if h∈(D.ln n).take j then lf h-L*ldQ D (R.take i) h-L*(D.wt n:Rat) else lf h-L*ldQ D (R.take i) h)/\k2.length=kl.length) ⟨kl',_,rfl,fun b u _ e=>e,el5,(hF.t (qb2.of s5)).cast fun z=>by simp,hkl⟩ ?_ ?_ ?_
  .rintro j σ H' _ ⟨k2,w3,rfl,s6,_⟩;exact SqL.of (s6 _ _ nl5 ell)
  .rintro j v σ H6 hv ⟨k2,w3,rfl,s6,el6,hF6,hk6⟩;rw[zC] at hv;obtain⟨h,hh,rfl⟩:=uI.mp hv;have hhl:=zF hh;have hnt:h∉(D.ln n).take j:=qem lnd hh;have hRl:Rd H6 dl (.dK k2):=.inl el6;have ho6:=s6 _ _ nel ho5;have hhH:h∈HS:=hD.hs n hn0 h hhl;clear hv;left;refine qed hRl hF6 (qcj hhH) fun bq hbq=>?_;rw[gI hnt] at hbq;obtain⟨w0,hw0,_⟩:=hF6.get h _ (qcj hhH);left;refine⟨bq,r,_,_,rfl,hbq,s6 _ _ nrl hsh5,rLf i n hn0 h hhl,rLw n hnR,fun r2 hr2=>?_⟩;have s7:=qa4 hr2 (frO (lf h-L*ldQ D (R.take i) h-L*(D.wt n:Rat)));have hfq:qbf (upd H6 r2 (frO (lf h-L*ldQ D (R.take i) h-L*(D.wt n:Rat)))) r2 (lf h-L*ldQ D (R.take i) h-L*(D.wt n:Rat)):=qa1;generalize upd H6 r2 (frO (lf h-L*ldQ D (R.take i) h-L*(D.wt n:Rat)))=H7 at*;have el7:=s7 _ _ el6;have ho7:=s7 _ _ ho6;have hlz:=hD.lz;have zl:k2.length<sizeLine:=by show _<16777216;omega
   clear hr2 el6 ho6;left;have t2:qb2 H7 (upd H7 dl (.dK (qbp k2 (uH h) (.ref r2)))):=qb2.upd el7 fun xs e=>by cases e
   refine⟨_,_,rfl,fun b u n2 e=>by rw[qa7 n2];exact s7 _ _ (s6 b u n2 e),qa1,(((hF6.t (qb2.of s7)).put h hfq).t t2).cast fun y=>?_,by rw[putK_len hw0];exact hk6⟩;have tk:y∈(D.ln n).take (j+1)↔y∈(D.ln n).take j\/y=h:=qas hh y;unfold qdv;dsimp only;by_cases c:y=h
   .rw[gJ c,gJ (by rw[c];exact hhH),gJ (tk.mpr (.inr c)),c]
   .rw[gI c];by_cases c2:y∈(D.ln n).take j
    .rw[gJ c2,gJ (tk.mpr (.inl c2))]
    .rw[gI c2,gI fun h'=>(tk.mp h').elim c2 c]
  .rintro σ H6 ⟨k2,w3',rfl,s6,el6,hF6,hk6⟩;rw[zA,zK] at hF6;refine⟨k2,_,_,_,rfl,fun b u n2 e=>s6 _ _ n2 (s5 _ _ (sm b u n2 e)),el6,hF6.cast fun z=>?_,hk6⟩
   congr 1
   funext h
   have e8:=ldQ_app ok (V:=R.take i) (n:=n) (by rw[<-etk];exact ndR.sublist (fK _ _)) (fun m hm=>sub m (hRW m (yB (by rw[<-etk] at hm;exact hm)))) h;rw[etk,e8];by_cases c:h∈D.ln n
   .rw[gJ c,gJ c];grind
   .rw[gI c,gI c];grind
 rintro σ H' ⟨kl',w1,w2,w3,rfl,sm,el,hF,hkl⟩;have ho2:=sm _ _ nel ho;have hw2:=sm _ _ nwl hD.w;have hln2:=sm _ _ nll hln;left;intro C s9 H9 fp acc hacc;refine c_by W.length (fun j Hx=>Same H' Hx/\Hx acc=some (.lst ((wls (W.take j) R).map V.str))) ⟨qa4 hacc _,qa1⟩ ?_ ?_ ?_ ?_
 .rintro j Hx hj ⟨sx,_⟩;exact⟨_,.str W[j],SqL.of (sx _ _ hw2),by rw[zC,zB hj];rfl⟩
 .rintro Hx ⟨sx,_⟩;exact⟨_,SqL.of (sx _ _ hw2),by rw[zA];exact uG _⟩
 .rintro j Hx v H'' hj ⟨sx,ea⟩ ⟨rfl,hv⟩;have hv:=hv _ (SqL.of (sx _ _ hw2));rw[zC,zB hj] at hv
  cases hv
  have etj:W.take (j+1)=W.take j++[W[j]]:=by rw[zO,zB hj];rfl
  generalize W[j]=n at*;have hln3:=sx _ _ hln2;have zl:((wls (W.take j) R).map V.str).length<sizeLine:=by
   rw[zA];have h1:=wls_len (W.take j) R;rw[zS] at h1;show _<16777216;omega
  clear hv;left;refine r_notInSt (SqL.of hln3) ?_;by_cases c:n∈R
  .rw[gK c];left;refine⟨sx,?_⟩;rw[ea,etj];unfold wls;rw[yE,bF,gI (by simp[c]),dF,zY]
  .rw[gL c];left;refine⟨qb6 sx hacc,?_⟩;rw[qa1,etj];unfold wls;rw[yE,bF,gJ (by simp[c]),zL];rfl
 rintro H3 ⟨s3,ea⟩;rw[zK] at ea;have ho3:=s3 _ _ ho2;have hF3:=hF.t (qb2.of s3);have el3:=s3 _ _ el;have ne3:acc≠de:=fun e=>by subst e;rw[ho2] at hacc;cases hacc
 left;refine qec ho3 cl n3 (by show 5<1000;decide) ?_;rw[show qe0 "waiting" (.ref acc) (fsD t dg lw dl dgo)=fsD t dg acc dl dgo from rfl];have hacc0:H acc=none:=by
  cases e:H acc with
  |none=>rfl
  |some u=>
   by_cases c:acc=dl
   .subst c;rw[el] at hacc;cases hacc
   .rw[sm _ _ c e] at hacc;cases hacc
 have sb:Sb2 de dl H (upd H3 de (.ins d.w00 dx (fsD t dg acc dl dgo))):=fun b u h1 h2 e=>by rw[qa7 h1];exact s3 _ _ (sm _ _ h2 e)
 have t4:qb2 H3 (upd H3 de (.ins d.w00 dx (fsD t dg acc dl dgo))):=qb2.upd ho3 fun xs e=>by cases e
 have sH0:Same H0 (upd H3 de (.ins d.w00 dx (fsD t dg acc dl dgo))):=fun b u e=>sb b u (fun z=>by subst z;rw[f0e] at e;cases e) (fun z=>by subst z;rw[f0l] at e;cases e) (s0 b u e);have tS:qb2 H (upd H3 de (.ins d.w00 dx (fsD t dg acc dl dgo))):=fun a xs e=>sb a _ (fun z=>by subst z;rw[ho] at e;cases e) (fun z=>by subst z;rw[hD.l] at e;cases e) e;have ngd:dg≠de:=fun z=>by subst z;have:=hD.g;rw[ho] at this;cases this
 have ngo:dgo≠de:=fun z=>by subst z;have:=hD.go;rw[ho] at this;cases this
 have hlz:=hD.lz;refine q acc kl' _ sb hacc0 ⟨⟨dx,qa1⟩,⟨H0,sH0,f0e,f0l,hT0⟩,sb _ _ ngd hD.nld.symm hD.g,hD.gA,by rw[qa7 ne3];exact ea,by rw[qa7 nel.symm];exact el3,(hF3.t t4).cast fun z=>?_,#[],sb _ _ ngo hD.nlg.symm hD.go,hD.goA.t tS,hD.nlg,hD.nld,hD.hs⟩;rw[zA,zK];rfl
section
variable{D:Dl}
theorem RdI.hi(ok:DlOk D){W:List Str}{lf lv:Str->Rat}{M:Rat}{N:Nat}(I:RdI D W lf lv M N){n h:Str}(hn:n∈D.W0)(hl:h∈D.ln n):lf h<=(B31:Rat):=by
 have h1:=I.sum h;have h2:0<=qc8 D.W0 fun n=>if n∉W/\h∈D.ln n then lv n*(D.wt n:Rat) else 0:=qfn fun m hm=>by
  try dsimp only
  split
  .next c=>exact xN (I.st m hm c.1).1 (by have:=(wtQ ok hm).1;grind)
  .grind
 have h3:(D.rm h:Rat)<=(B31:Rat):=by
  have h:D.rm h<=((B31:Nat):Int):=ok.r1 n hn h hl;rw[<-uX];exact_mod_cast h
 grind
def nb7{k:Nat}(h:N<=10000^(7-k)):N<=10000^7:=vJ h (wW ∅ #[])
def nb8(h:N<=10000^7):N<=10000^8:=vJ h (wW ∅ ∅)
theorem b31_le:B31<=10^40:=by show 10^31<=10^40;exact wW ∅ ∅
theorem b31_0:(0:Rat)<=(B31:Rat):=by exact_mod_cast wR B31
def RdI.rb(ok:DlOk D){W:List Str}{lf lv:Str->Rat}{M:Rat}{N:Nat}(I:RdI D W lf lv M N){n h:Str}(hn:n∈D.W0)(hl:h∈D.ln n):RB (lf h):=
 rb_of I.n0 (nb8 (nb7 I.nb)) b31_le (I.dl h) (by have:=I.nn n hn h hl;have:=b31_0;grind) (I.hi ok hn hl)
theorem nat_int{z:Int}(h:0<=z):((z.toNat:Nat):Rat)=(z:Rat):=by
 have:((z.toNat:Nat):Int)=z:=by omega
 rw[<-uX,this]
theorem RdI.rbF(ok:DlOk D){W:List Str}{lf lv:Str->Rat}{M:Rat}{N:Nat}(I:RdI D W lf lv M N){n h:Str}(hn:n∈W)(hl:h∈D.ln n):RB (lf h/ldQ D W h):=by
 obtain⟨z,hz⟩:=qfy (D:=D) W h;have b1:=ldQ_pos ok hn (I.sub n hn) hl;have b2:=ldQ_bd ok W h;have l0:=I.nn n (I.sub n hn) h hl;have lh:=I.hi ok (I.sub n hn) hl;rw[hz] at b1 b2⊢;have b1':(1:Int)<=z:=by exact_mod_cast b1
 have b2':z<=7000:=by exact_mod_cast b2
 obtain⟨y,hy⟩:=I.dl h;have e:lf h /(z:Rat)*(z:Rat)=lf h:=cA (by grind);have p:(0:Rat) <(z:Rat):=by grind
 have g0:0<=lf h /(z:Rat):=(le_div p).mpr (by grind);have g1:lf h /(z:Rat)<=lf h:=by
  have:=xR b1 g0;grind
 have bb:=b31_0;refine rb_of (N:=N*z.toNat) (B:=B31) (Nat.mul_pos I.n0 #[]) ?_ b31_le ⟨y,?_⟩ (by grind) (by grind)
 .have h1:N*z.toNat<=10000^7*10000:=dP (nb7 I.nb) #[];rw[<-Nat.pow_succ] at h1;exact h1
 .rw[aI,nat_int #[],<-hy];grind
theorem goQ_rb(ok:DlOk D){n:Str}(hn:n∈D.W0):RB (goQ D n):=by
 have h1:=goQ_b ok hn;have h2:=qg3 ok hn;have w1:=ok.w1 n hn;have w2:=ok.w2 n hn;have bb:=b31_0;refine rb_of (N:=(D.wt n).toNat) (B:=B31) #[] (vJ (show(D.wt n).toNat<=1000 by omega) ∅) b31_le ⟨D.wa n,?_⟩ (by grind) h1.2;rw[nat_int #[],h2]
theorem qh4:(((10^36:Nat)):Rat)=100000*(B31:Rat):=by
 have:(10^36:Nat)=100000*B31:=by show(10^36:Nat)=100000*10^31;decide
 rw[this,aI];rfl
structure Sz(D:Dl)(W:List Str)(lf:Str->Rat)(L:Rat):Prop where
 l:RB L
 w:∀n∈rdy D W lf L,RB (L*(D.wt n:Rat))
 f:∀i,∀n∈D.W0,∀h∈D.ln n,RB (lf h-L*ldQ D ((rdy D W lf L).take i) h)
theorem RdI.sz(ok:DlOk D){W:List Str}{lf lv:Str->Rat}{M L:Rat}{N:Nat}(I:RdI D W lf lv M N)(il:IsL D W lf L):Sz D W lf L:=by
 obtain⟨ML,Lb,_,N',_,kv,I'⟩:=I.next ok il;have L0:0<=L:=by have:=I.m0;grind
 have bb:=b31_0;have n8:=nb8 (nb7 I'.nb);refine⟨rb_of I'.n0 n8 b31_le kv (by grind) Lb,fun n hn=>?_,fun i n hn h hl=>?_⟩
 .have hw:=wtQ ok (I.sub n (qd0.mp hn).1);have w0:(0:Rat)<=(D.wt n:Rat):=by grind
  have h1:=xN L0 w0;have h2:=xR hw.2 L0;refine rb_of (B:=10^36) I'.n0 n8 ∅ (kv.ints _) ?_ ?_<;>rw[qh4]<;>grind
 .obtain⟨z1,e1⟩:=qfy (D:=D) ((rdy D W lf L).take i) h;obtain⟨z2,e2⟩:=qfy (D:=D) (rdy D W lf L) h;have n1:=ldQ_nn ok ((rdy D W lf L).take i) h;have n2:=ldQ_bd ok ((rdy D W lf L).take i) h;have h1:=xN L0 n1;have h2:=xR n2 L0;have l0:=I.nn n hn h hl;have lh:=I.hi ok hn hl;have dv:Dv N' (lf h-L*ldQ D ((rdy D W lf L).take i) h):=by
   have:=(I'.dl h).sub (kv.ints (z1-z2));have e:lfN D lf L (rdy D W lf L) h-L*((z1-z2:Int):Rat)=lf h-L*ldQ D ((rdy D W lf L).take i) h:=by
    unfold lfN;rw[e1,e2,Rat.intCast_sub];grind
   rw[e] at this;exact this
  refine rb_of (B:=10^36) I'.n0 n8 ∅ dv ?_ ?_<;>rw[qh4]<;>grind
end
theorem fd_row{H:Hp}{φ:Str->Option Rat}:∀{kvs:List (Key×V)},(∀p∈kvs,∃z a q,p=(uH z,V.ref a)/\qbf H a q/\φ z=some q)->∃ps:List (Addr×Rat),kvs.map (·.2)=ps.map (fun p=>V.ref p.1)/\(∀p∈ps,qbf H p.1 p.2/\∃z,φ z=some p.2)/\∀k a,(k,V.ref a)∈kvs->∃p∈ps,p.1=a
 | [],_=>⟨[],rfl,fun p hp=>by simp at hp,fun k a h=>by simp at h⟩
 |p::kvs,h=>by
  obtain⟨ps,e1,e2,e3⟩:=fd_row (kvs:=kvs) fun p hp=>h p (zD _ hp);obtain⟨z,a,q,rfl,hf,hz⟩:=h p (zG ..);refine⟨(a,q)::ps,by rw[zV,zV,e1],fun p hp=>?_,fun k b hb=>?_⟩
  .rcases zP.mp hp with rfl|hp
   .exact⟨hf,z,hz⟩
   .exact e2 p hp
  .rcases zP.mp hb with e|hb
   .injection e with _ e
    injection e with e
    exact⟨(a,q),zG ..,e.symm⟩
   .obtain⟨p,hp,e⟩:=e3 k b hb;exact⟨p,zD _ hp,e⟩
theorem FD.row{kvs:List (Key×V)}(h:FD H kvs φ):∃ps:List (Addr×Rat),kvs.map (·.2)=ps.map (fun p=>V.ref p.1)/\(∀p∈ps,qbf H p.1 p.2/\∃z,φ z=some p.2)/\∀z q,φ z=some q->∃p∈ps,p.2=q:=by
 obtain⟨ps,e1,e2,e3⟩:=fd_row h.sh;refine⟨ps,e1,e2,fun z q hz=>?_⟩;obtain⟨a,ha,hf⟩:=h.get z q hz;obtain⟨p,hp,rfl⟩:=e3 _ a (qgo ha);exact⟨p,hp,(e2 p hp).1.uniq hf⟩
inductive sp_Dealing_next_round(K:uS)(d:Ad)(vs:List V)(H:Hp)(Q:VK)(E:XK):Prop
 |mk(de t dg lw dl dgo:Addr)(S:Ts)(D:Dl)(HS:List Str)(kg kl kgo:List (Key×V))(W:List Str)(lf lv:Str->Rat)(M:Rat)(N:Nat)(_:vs=[.ref de])(_:DlOk D)(_:DeAt d H de t dg lw dl dgo S D HS kg kl kgo W lf)(_:RdI D W lf lv M N)(_:W≠ [])(_:∀(L:Rat)(rt la ln lw':Addr)(kl':List (Key×V)) H',IsL D W lf L->Sb2 de dl H H'->H ln=none->H lw'=none->H' rt=some (.tup [.ref la,.ref ln])->qbf H' la L->H' ln=some (.lst ((rdy D W lf L).map V.str))->DeAt d H' de t dg lw' dl dgo S D HS kg kl' kgo (wls W (rdy D W lf L)) (lfN D lf L (rdy D W lf L))->Q (.ref rt) H')
include T in
theorem w56:FnOk P w K mg base (My.CX1 P w) 8 d.w1n d.w1j ["self"] (sp_Dealing_next_round K d):=by
 exists okX T.w5y w0q
 .right
 obtain⟨de,t,dg,lw,dl,dgo,S,D,HS,kg,kl,kgo,W,lf,lv,M,N,rfl,ok,hD,I,wn,q⟩:=h;refine⟨_,(qa2 (qae (i:=1) w0q.nd rfl (uF rfl) (pe_methX0 (pv 0) T.w0g T.w1d ((w8u T).mono ∅) hr T.w9m .nil qaq))
  (qa2 (qae (i:=2) w0q.nd rfl (uF rfl) (qaf ((wcy T).mono ∅) hr rfl T.wep T.wac.kp T.wf7 .nil qay #[qah qdl (qb7 (call_listV rfl) rfl T.wai xC #[pe_bm0 PySem.F.plainAttrs_dict PySem.F.slot_dict_values PySem.F.type_dict_values mt_vals (pv 1)]) (qch (caps:=[0]) (cn:=["self"]) (qc6 rfl rfl (by rfl) (by rfl) rfl ⟨rfl,trivial⟩ (by rfl) rfl ⟨⟨rfl,rfl,rfl,rfl,_,rfl⟩,trivial⟩ ∅) rfl (qaw (qau (pv 0) rfl)) (fun _ _ _ _=>qdd) (fun _ _ _ _=>(qau (pv 1) rfl|||pv 0)))]))
  (qa2 (qae (i:=3) w0q.nd rfl (uF rfl) (qb1 (pv 0) T.w0g T.w1c ((w8l T).mono ∅) hr T.w9i .nil qaq #[pv 2,pv 1]))
  (qa2 (qbn (qb1 (pv 0) T.w0g T.w15 ((w7t T).mono ∅) hr T.w8n .nil qaq #[pv 2,pv 3]))
  (qa5 (qad (qbq #[pv 2,pv 3]))))))),?_⟩
 walk_at"d"
 try dsimp only[cxC]
 refine qac (σ:=[sr de,none,none,none]) rfl ?_;have cl:=T.w0g;have n3:qap K d.w00 "waiting":=T.w05;have n5:qap K d.w00 "goals":=T.w0h;obtain⟨dx,ho⟩:=hD.ob;have w7:W.length<=7:=vJ (vN I.nd I.sub) ok.l8;left;refine⟨de,t,dg,lw,dl,dgo,S,D,HS,kg,kl,kgo,W,lf,rfl,ok,hD,I.sub,w7,fun n hn h hl=>I.rb ok (I.sub n hn) hl,fun lf' kf H1 s1 hlf el1 hF1 hk1=>?_⟩;have ho1:=s1 _ _ ho;have hR1:Rd H1 lf' (.dK kf):=.inl el1;left;refine r_vals hR1 fun v hv=>?_;have s2:=s1.trans (qa4 hv (ValO v lf'));have el2:=qaa (o':=ValO v lf') el1 hv;have ev2:upd H1 v (ValO v lf') v=some (ValO v lf'):=qa1;have hF2:=hF1.t (qb2.of (qa4 hv (ValO v lf')));generalize upd H1 v (ValO v lf')=H2 at*;clear hv hR1 el1 hF1 ho1;left;refine r_listV ev2 (.inl el2) fun l1 hl1=>?_;have s3:=s2.trans (qa4 hl1 (.lst (kf.map (·.2))));have el3:=qaa (o':=.lst (kf.map (·.2))) el2 hl1;have e13:upd H2 l1 (.lst (kf.map (·.2))) l1=some (.lst (kf.map (·.2))):=qa1;have hF3:=hF2.t (qb2.of (qa4 hl1 (.lst (kf.map (·.2)))));generalize upd H2 l1 (.lst (kf.map (·.2)))=H3 at*;clear hl1 el2 ev2 hF2;have ho3:=s3 _ _ ho;have hw3:=s3 _ _ hD.w;left;intro C s9 H9 fp acc hacc;refine c_by W.length (fun j Hx=>∃ps:List (Addr×Rat),Same H3 Hx/\Hx acc=some (.lst (ps.map fun p=>V.ref p.1))/\(∀p∈ps,qbf Hx p.1 p.2)/\ps.map (·.2)=(W.take j).map (goQ D)) ⟨[],qa4 hacc _,qa1,fun p hp=>by simp at hp,rfl⟩ ?_ ?_ ?_ ?_
 .rintro j Hx hj ⟨ps,sx,_⟩;exact⟨_,.str W[j],SqL.of (sx _ _ hw3),by rw[zC,zB hj];rfl⟩
 .rintro Hx ⟨ps,sx,_⟩;exact⟨_,SqL.of (sx _ _ hw3),by rw[zA];exact uG _⟩
 .rintro j Hx v H'' hj ⟨ps,sx,ea,hps,hms⟩ ⟨rfl,hv⟩;have hv:=hv _ (SqL.of (sx _ _ hw3));rw[zC,zB hj] at hv
  cases hv
  have hm:=I.sub _ (zX hj);have etj:W.take (j+1)=W.take j++[W[j]]:=by rw[zO,zB hj];rfl
  have hlen:ps.length=j:=by have:=congrArg wF hms;rw[zA,zA,zS] at this;omega
  generalize W[j]=n at*;have hRg:Rd H'' dgo (.dK kgo):=.inl (sx _ _ (s3 _ _ hD.go));have hFg:=hD.goA.t (qb2.of (s3.trans sx));have ho4:=sx _ _ ho3;have zl:(ps.map fun p=>V.ref p.1).length<sizeLine:=by rw[zA];show _<16777216;omega
  clear hv;left;refine qed hRg hFg (qcj hm) fun b hb=>?_;left;have t5:qb2 H'' (upd H'' acc (.lst ((ps.map fun p=>V.ref p.1)++[V.ref b]))):=qb2.upd ea fun xs e=>by cases e
  refine⟨ps++[(b,goQ D n)],qb6 sx hacc,by rw[qa1,zL];rfl,fun p hp=>?_,by rw[zL,hms,etj,zL];rfl⟩;rcases zH.mp hp with h1|h1
  .exact t5 _ _ (hps p h1)
  .rw[zE.mp h1];exact t5 _ _ hb
 rintro H4 ⟨ps,s4,ea,hps,hms⟩;rw[zK] at hms;obtain⟨pf,ef,hpf,hpa⟩:=(hF3.t (qb2.of s4)).row;have e14:=s4 _ _ e13;rw[ef] at e14;have plen:ps.length=W.length:=by have:=congrArg wF hms;rw[zA,zA] at this;exact this
 have flen:pf.length=kf.length:=by have:=congrArg wF ef;rw[zA,zA] at this;exact this.symm
 refine r_cat e14 ea (by rw[zA,zA];show _<=16777216;omega) fun l2 hl2=>?_;rw[<-zL];have s5:=s4.trans (qa4 hl2 (.lst ((pf++ps).map fun p=>V.ref p.1)));have s5':Same H4 (upd H4 l2 (.lst ((pf++ps).map fun p=>V.ref p.1))):=qa4 hl2 _;have e5:upd H4 l2 (.lst ((pf++ps).map fun p=>V.ref p.1)) l2=some (.lst ((pf++ps).map fun p=>V.ref p.1)):=qa1;generalize upd H4 l2 (.lst ((pf++ps).map fun p=>V.ref p.1))=H5 at*;have s6:=s3.trans s5;have hD5:=hD.same s6;have ho5:=s6 _ _ ho;have el5:=s5 _ _ el3;have hF5:=hF3.t (qb2.of s5);have hpos:∀n∈W,∀h∈D.ln n,∃p∈pf,p.2=lf h/ldQ D W h:=fun n hn h hl=>hpa h _ (flF_in ok I.nd I.sub lf hn hl);have hfl:∀p∈pf,∃n∈W,∃h∈D.ln n,p.2=lf h/ldQ D W h:=fun p hp=>by
  obtain⟨z,hz⟩:=(hpf p hp).2;by_cases c:∃n∈W,z∈D.ln n
  .obtain⟨n,hn,hl⟩:=c;rw[flF_in ok I.nd I.sub lf hn hl] at hz;exact⟨n,hn,z,hl,(uQ hz).symm⟩
  .unfold flF at hz;rw[gI c] at hz
   cases hz
 have hgo:∀p∈ps,∃n∈W,p.2=goQ D n:=fun p hp=>by
  have h1:p.2∈ps.map (·.2):=zI.mpr ⟨p,hp,rfl⟩;rw[hms] at h1;obtain⟨n,hn,e⟩:=zI.mp h1;exact⟨n,hn,e.symm⟩
 have hog:∀n∈W,∃p∈ps,p.2=goQ D n:=fun n hn=>by
  have h1:goQ D n∈ps.map (·.2):=by rw[hms];exact zI.mpr ⟨n,hn,rfl⟩
  obtain⟨p,hp,e⟩:=zI.mp h1;exact⟨p,hp,e⟩
 have hFr:FrL H5 (pf++ps):=fun p hp=>by
  rcases zH.mp hp with h1|h1
  .obtain⟨n,hn,h,hl,e⟩:=hfl p h1;exact⟨s5' _ _ (hpf p h1).1,by rw[e];exact I.rbF ok hn hl⟩
  .obtain⟨n,hn,e⟩:=hgo p h1;exact⟨s5' _ _ (hps p h1),by rw[e];exact goQ_rb ok (I.sub n hn)⟩
 have hne:pf++ps≠ []:=fun e=>by
  have:=bT.mpr wn;have:=congrArg wF e;rw[zJ,yK] at this;omega
 clear hl2 ea e14 s4 s5 s5' el3 hF3 e13 hw3 ho3;left;refine⟨l2,pf++ps,rfl,e5,hFr,hne,fun p hp hle=>?_⟩;have il:IsL D W lf p.2:=by
  refine⟨fun n hn=>⟨fun h hl=>?_,?_⟩,?_⟩
  .obtain⟨p',hp',e⟩:=hpos n hn h hl;rw[<-e];exact hle p' (zQ _ hp')
  .obtain⟨p',hp',e⟩:=hog n hn;rw[<-e];exact hle p' (zM _ hp')
  .rcases zH.mp hp with h1|h1
   .obtain⟨n,hn,h,hl,e⟩:=hfl p h1;exact⟨n,hn,.inl ⟨h,hl,e.symm⟩⟩
   .obtain⟨n,hn,e⟩:=hgo p h1;exact⟨n,hn,.inr e.symm⟩
 have hLa:=(hFr p hp).1;have sz:=I.sz ok il;generalize p.2=L at*;generalize p.1=la at*;left;refine⟨de,t,dg,lw,dl,dgo,la,lf',S,D,HS,kg,kl,kgo,kf,W,lf,L,rfl,ok,hD5,I.sub,I.nd,hLa,el5,hF5,fun ln H6 s7 hln eln=>?_⟩;have ho6:=s7 _ _ ho5;have hLa6:qbf H6 la L:=s7 _ _ hLa;left;refine⟨de,t,dg,lw,dl,dgo,la,ln,S,D,HS,kg,kl,kgo,W,_,lf,L,rfl,ok,hD5.same s7,I.sub,I.nd,hLa6,sz.l,eln,fun n hn=>(qd0.mp hn).1,I.nd.filter _,sz.w,sz.f,fun lw' kl' H7 sb7 hlw' hD7=>?_⟩;have nae:la≠de:=fun e=>by subst e;unfold qbf at hLa6;rw[ho6] at hLa6;cases hLa6
 have nal:la≠dl:=fun e=>by subst e;unfold qbf at hLa;rw[hD5.l] at hLa;cases hLa
 have nne:ln≠de:=fun e=>by subst e;rw[ho6] at eln;cases eln
 have nnl:ln≠dl:=fun e=>by subst e;rw[(hD5.same s7).l] at eln;cases eln
 have eln7:=sb7 _ _ nne nnl eln;have hLa7:qbf H7 la L:=sb7 _ _ nae nal hLa6;left;rename_i rt hrt;have s8:=qa4 hrt (.tup [V.ref la,V.ref ln]);exact q L rt la ln lw' kl' _ il (fun b u h1 h2 e=>s8 _ _ (sb7 b u h1 h2 (s7 _ _ (s6 _ _ e)))) (s6.free hln) ((s6.trans s7).free hlw') qa1 (s8 _ _ hLa7) (s8 _ _ eln7) (hD7.same s8)
structure Rnd where
 a:Addr
 la:Addr
 ln:Addr
 L:Rat
 ns:List Str
structure RndAt(H:Hp)(r:Rnd):Prop where
 t:H r.a=some (.tup [.ref r.la,.ref r.ln])
 l:qbf H r.la r.L
 n:H r.ln=some (.lst (r.ns.map V.str))
theorem RndAt.sb{r:Rnd}{C dx:Addr}{fs:List (Str×V)}{kvs:List (Key×V)}(h:RndAt H r)(ea:H a=some (.ins C dx fs))(eb:H b=some (.dK kvs))(s:Sb2 a b H H'):RndAt H' r:=by
 have hl:=h.l;unfold qbf at hl;exact⟨s _ _ (fun e=>by have:=h.t;rw[e,ea] at this;cases this) (fun e=>by have:=h.t;rw[e,eb] at this;cases this) h.t,
  s _ _ (fun e=>by rw[e,ea] at hl;cases hl) (fun e=>by rw[e,eb] at hl;cases hl) hl,
  s _ _ (fun e=>by have:=h.n;rw[e,ea] at this;cases this) (fun e=>by have:=h.n;rw[e,eb] at this;cases this) h.n⟩
theorem RndAt.put{r:Rnd}{xs ys:List V}(h:RndAt H r)(el:H l=some (.lst xs))(n:r.ln≠l):RndAt (upd H l (.lst ys)) r:=by
 have hl:=h.l;unfold qbf at hl;refine⟨?_,?_,?_⟩
 .rw[qa7 fun e=>by have:=h.t;rw[e,el] at this;cases this];exact h.t
 .show upd H l (.lst ys) r.la=_;rw[qa7 fun e=>by rw[e,el] at hl;cases hl];exact hl
 .rw[qa7 n];exact h.n
structure RdsOk(D:Dl)(W:List Str)(lv:Str->Rat)(N:Nat)(rs:List Rnd):Prop where
 m:∀r∈rs,∀n∈r.ns,n∈D.W0/\n∉W/\r.L=lv n
 e:∀n∈D.W0,n∉W->∃r∈rs,n∈r.ns
 rb:∀r∈rs,RB r.L
 dv:∀r∈rs,Dv N r.L
 z:rs.length+W.length<=D.W0.length
open Classical in
theorem RdsOk.next{D:Dl}{W:List Str}{lf lv:Str->Rat}{N N':Nat}{rs:List Rnd}{r:Rnd}(h:RdsOk D W lv N rs)(hk:∃k:Nat,N'=N*k)(kv:Dv N' r.L)(sub:∀n∈W,n∈D.W0)(e:r.ns=rdy D W lf r.L)(rb:RB r.L)(len:(wls W (rdy D W lf r.L)).length<W.length):
  RdsOk D (wls W (rdy D W lf r.L)) (fun n=>if n∈rdy D W lf r.L then r.L else lv n) N' (rs++[r]):=by
 refine⟨fun r' hr' n hn=>?_,fun n hn hnw=>?_,fun r' hr'=>?_,fun r' hr'=>?_,?_⟩
 .rcases zH.mp hr' with h1|h1
  .obtain⟨a1,a2,a3⟩:=h.m r' h1 n hn;refine⟨a1,fun z=>a2 (qc5.mp z).1,?_⟩;rw[gI fun z=>a2 (qd0.mp z).1];exact a3
  .have:=zE.mp h1;subst this;rw[e] at hn;exact⟨sub n (qd0.mp hn).1,fun z=>(qc5.mp z).2 hn,by rw[gJ hn]⟩
 .by_cases c:n∈W
  .refine⟨r,zM _ (zE.mpr rfl),?_⟩;rw[e];exact wT fun z=>hnw (qc5.mpr ⟨c,z⟩)
  .obtain⟨r',h1,h2⟩:=h.e n hn c;exact⟨r',zQ _ h1,h2⟩
 .rcases zH.mp hr' with h1|h1
  .exact h.rb r' h1
  .rw[zE.mp h1];exact rb
 .obtain⟨k,rfl⟩:=hk;rcases zH.mp hr' with h1|h1
  .exact(h.dv r' h1).mul k
  .rw[zE.mp h1];exact kv
 .have:=h.z;rw[zJ,zT];omega
open Classical in
theorem RdI.start(ok:DlOk D):RdI D D.W0 (fun h=>(D.rm h:Rat)) (fun _=>0) 0 1:=by
 refine⟨fun n h=>h,ok.nd,fun h=>?_,fun n hn h hl=>?_,fun n hn h hl=>?_,fun n hn=>(goQ_b ok hn).1,Rat.le_refl,fun n hn hnw=>absurd hn hnw,∅,fun h=>⟨D.rm h,?_⟩,Nat.one_le_pow _ _ ∅⟩
 .rw[qe8 fun n hn=>gI fun z=>z.1 hn];grind
 .have:(0:Rat)<=(D.rm h:Rat):=by exact_mod_cast ok.r0 n hn h hl
  grind
 .exact_mod_cast ok.r0 n hn h hl
 .show(D.rm h:Rat)*((1:Nat):Rat)=_;grind
theorem DeAt.lst{d:Ad}{H:Hp}{de t dg lw dl dgo:Addr}{S:Ts}{D:Dl}{HS:List Str}{kg kl kgo:List (Key×V)}{W:List Str}{lf:Str->Rat}{H0:Hp}{lt:Addr}{xs ys:List V}(h:DeAt d H de t dg lw dl dgo S D HS kg kl kgo W lf)(el:H lt=some (.lst xs))(n:lw≠lt)(s:Same H0 (upd H lt (.lst ys)))(f1:H0 de=none)(f2:H0 dl=none)(hT:TrD d H0 t S D):DeAt d (upd H lt (.lst ys)) de t dg lw dl dgo S D HS kg kl kgo W lf:=by
 obtain⟨dx,ho⟩:=h.ob;have t1:qb2 H (upd H lt (.lst ys)):=qb2.upd el fun xs e=>by cases e
 refine⟨⟨dx,?_⟩,⟨H0,s,f1,f2,hT⟩,?_,h.gA,?_,?_,h.lA.t t1,h.lz,?_,h.goA.t t1,h.nlg,h.nld,h.hs⟩
 .rw[qa7 fun e=>by rw[e,el] at ho;cases ho];exact ho
 .rw[qa7 fun e=>by have:=h.g;rw[e,el] at this;cases this];exact h.g
 .rw[qa7 n];exact h.w
 .rw[qa7 fun e=>by have:=h.l;rw[e,el] at this;cases this];exact h.l
 .rw[qa7 fun e=>by have:=h.go;rw[e,el] at this;cases this];exact h.go
inductive sp_rounds_by(K:uS)(d:Ad)(vs:List V)(H:Hp)(Q:VK)(E:XK):Prop
 |mk(t dr dw dg:Addr)(S:Ts)(D:Dl)(HS:List Str)(kr kw kg:List (Key×V))(_:vs=[.ref t,.ref dr,.ref dw,.ref dg])(_:DlOk D)(_:vX D.W0=true)(_:TrD d H t S D)(_:H dr=some (.dK kr))(_:AD kr (qby HS D.rm))(_:HS.Nodup)(_:HS.length<=60)(_:H dw=some (.dK kw))(_:AD kw (qby D.W0 D.wa))(_:H dg=some (.dK kg))(_:AD kg (qby D.W0 D.wt))(_:dg≠dw)(_:(∀n∈D.W0,∀h∈D.ln n,h∈HS))(_:∀(lt:Addr)(rs:List Rnd)(lf lv:Str->Rat)(M:Rat)(N:Nat) H',Same H H'->H lt=none->H' lt=some (.lst (rs.map fun r=>V.ref r.a))->(∀r∈rs,RndAt H' r)->RdI D [] lf lv M N->RdsOk D [] lv N rs->Q (.ref lt) H')
include T in
theorem wbu:FnOk P w K mg base (My.CX1 P w) 9 d.w69 d.w50 ["tree","rooms","wants","weights"] (sp_rounds_by K d):=by
 exists okX T.w8y w5m
 .right
 obtain⟨t,dr,dw,dg,S,D,HS,kr,kw,kg,rfl,ok,srt,hT,hr0,hrA,hsn,hsl,hw,hwA,hg,hgA,ngw,hs,q⟩:=h;refine⟨_,(qa2 (qae (i:=4) w5m.nd rfl (uF rfl) (qfe T.w42 ((w97 T).mono ∅) hr rfl T.wfh T.w9y .nil qaq #[pv 0,pv 1,pv 2,pv 3]))
  (qa2 (qae (i:=5) w5m.nd rfl (uF rfl) (qbb qa3))
  (qa2 (qef (qbi rfl rfl) (qai qft (qag qba rfl T.w3r vP #[qau (pv 4) rfl]) qa6 (qar _)) (qa5 (qbn (qf7 vT wC wD qc0 (pv 5) #[pe_methX0 (pv 4) T.w0g T.w0e ((w56 T).mono ∅) hr T.w5x .nil qaq]))))
  (qa5 (qad (pv 5)))))),?_⟩
 walk_at"d"
 try dsimp only[cxC]
 refine qac (σ:=[sr t,sr dr,sr dw,sr dg,none,none]) rfl ?_;have cl:=T.w0g;have n3:qap K d.w00 "waiting":=T.w05;left;intro x dx hx hdx ndx;have sH:Same H (upd (upd H dx (.own x)) x (.ins d.w00 dx [])):=(qa4 hdx _).trans (qa4 (by rw[qa7 ndx.symm];exact hx) _);refine⟨x,dx,t,dr,dw,dg,D,HS,kr,kw,kg,rfl,qa1,ok,srt,sH _ _ hr0,hrA,hsn,hsl,sH _ _ hw,hwA,sH _ _ hg,hgA,ngw,fun lw dl dgo kl kgo H2 sb hlw hdl hdgo nlg ex ew el hFl kl60 eg hFg=>⟨rfl,?_⟩⟩;have s2:Same H H2:=fun b u e=>sb b u (fun z=>by subst z;rw[hx] at e;cases e) (sH b u e);have hD:DeAt d H2 x t dg lw dl dgo S D HS kg kl kgo D.W0 (fun h=>(D.rm h:Rat)):=⟨⟨dx,ex⟩,⟨H,s2,hx,sH.free hdl,hT⟩,s2 _ _ hg,hgA,ew,el,hFl,kl60,eg,hFg,nlg,(fun e=>by have:=sH.free hdl;rw[e,hg] at this;cases this),hs⟩;clear sb hlw hdgo ex ew el hFl eg hFg;have hdl0:=sH.free hdl;clear hdl sH;left;rename_i lt hlt;have s3:=s2.trans (qa4 hlt (.lst []));have et:upd H2 lt (.lst []) lt=some (.lst []):=qa1;have hD3:=hD.same (qa4 hlt (.lst []));have hlt0:=s2.free hlt;have hwlt:=hD.w;generalize upd H2 lt (.lst [])=H3 at*;clear hD;refine qe7 (fun σ H'=>∃(W:List Str)(rs:List Rnd)(lf lv:Str->Rat)(M:Rat)(N:Nat)(lw:Addr)(kl:List (Key×V)),σ=[sr t,sr dr,sr dw,sr dg,sr x,sr lt]/\Same H H'/\H' lt=some (.lst (rs.map fun r=>V.ref r.a))/\DeAt d H' x t dg lw dl dgo S D HS kg kl kgo W lf/\lw≠lt/\RdI D W lf lv M N/\RdsOk D W lv N rs/\∀r∈rs,RndAt H' r/\r.ln≠lt) (fun _ H'=>D.W0.length+1-lenAt lt H') ?_ ?_ ?_
 .refine⟨D.W0,[],_,fun _=>0,0,1,lw,kl,rfl,s3,et,hD3,fun e=>?_,RdI.start ok,⟨fun r hr=>by simp at hr,fun n hn h=>absurd hn h,fun r hr=>by simp at hr,fun r hr=>by simp at hr,by simp⟩,fun r hr=>by simp at hr⟩;subst e;rw[hwlt] at hlt
  cases hlt
 .rintro σ H' ⟨W,rs,lf,lv,M,N,lw,kl,rfl,sm,el,hD,nlt,I,R,hrs⟩;obtain⟨dx',ho⟩:=hD.ob;have hw':=hD.w;have wl7:W.length<=7:=vJ (vN I.nd I.sub) ok.l8;have lr:lenAt lt H'=rs.length:=by rw[qfh el,zA]
  have rz:=R.z;have l8:=ok.l8;left;by_cases c:W=[]
  .subst c;rw[gI ∅];left;exact q lt rs lf lv M N H' sm hlt0 el (fun r hr=>(hrs r hr).1) I R
  .have w0:=bT.mpr c;rw[gJ (gK (by rw[zA];omega))];have zl:(rs.map fun r=>V.ref r.a).length<sizeLine:=by rw[zA];show _<16777216;omega
   left;refine⟨x,t,dg,lw,dl,dgo,S,D,HS,kg,kl,kgo,W,lf,lv,M,N,rfl,ok,hD,I,c,fun L rt la ln lw' kl' H4 il sb4 fln flw' ert hLa eln hD4=>?_⟩;obtain⟨ML,Lb,len,N',hk',kv,I'⟩:=I.next ok il;have sz:=I.sz ok il;have nxl:lt≠x:=fun e=>by subst e;rw[ho] at el;cases el
   have ndl:lt≠dl:=fun e=>by subst e;rw[hD.l] at el;cases el
   have el4:=sb4 _ _ nxl ndl el;have nln:ln≠lt:=fun e=>by subst e;rw[el] at fln;cases fln
   have nlw:lw'≠lt:=fun e=>by subst e;rw[el] at flw';cases flw'
   have s4:Same H H4:=fun b u e=>sb4 b u (fun z=>by subst z;rw[hx] at e;cases e) (fun z=>by subst z;rw[hdl0] at e;cases e) (sm b u e);left;have s5:Same H (upd H4 lt (.lst ((rs.map fun r=>V.ref r.a)++[V.ref rt]))):=qb6 s4 hlt0;have R':RdsOk D (wls W (rdy D W lf L)) (fun n=>if n∈rdy D W lf L then L else lv n) N' (rs++[⟨rt,la,ln,L,rdy D W lf L⟩]):=R.next (r:=⟨rt,la,ln,L,rdy D W lf L⟩) hk' kv I.sub rfl sz.l len;refine⟨⟨_,rs++[⟨rt,la,ln,L,rdy D W lf L⟩],_,_,L,N',lw',kl',rfl,s5,by rw[qa1,zL];rfl,hD4.lst el4 nlw s5 hx hdl0 hT,nlw,I',R',fun r hr=>?_⟩,?_⟩
   .rcases zH.mp hr with h1|h1
    .exact⟨((hrs r h1).1.sb ho hD.l sb4).put el4 (hrs r h1).2,(hrs r h1).2⟩
    .rw[zE.mp h1];exact⟨RndAt.put ⟨ert,hLa,eln⟩ el4 nln,nln⟩
   .have g2:lenAt lt (upd H4 lt (.lst ((rs.map fun r=>V.ref r.a)++[V.ref rt])))=_:=qfh qa1;rw[zJ,zA,zT] at g2;rw[g2,lr];omega
 .rintro σ H' Q1 Q2 hm ⟨v,hv,a,C,dx,fs,w,e1,e2,e3,e4,e5,p,ys,e6,e7,i,j,e8,e9,k,e10,e11⟩;exact⟨v,hv,a,C,dx,fs,w,e1,e2,e3,e4,e5,p,ys,e6,e7,i,j,e8,e9,k,e10,hm _ _ e11⟩
section
variable(D:Dl)
noncomputable def shQ(lv:Str->Rat)(n:Str):Rat:=lv n*(D.wt n:Rat)
noncomputable def toQ(lv:Str->Rat)(V:List Str)(h:Str):Rat:=qc8 V fun n=>if h∈D.ln n then shQ D lv n else 0
open Classical in
noncomputable def onF(V:List Str)(g:Str->Rat):Str->Option Rat:=fun h=>if ∃n∈V,h∈D.ln n then some (g h) else none
structure Top(V:List Str)(lv tp:Str->Rat):Prop where
 ex:∀h,(∃n∈V,h∈D.ln n)->∃n∈V,h∈D.ln n/\tp h=lv n
 ge:∀h,∀n∈V,h∈D.ln n->lv n<=tp h
open Classical in
noncomputable def tpN(V:List Str)(lv tp:Str->Rat)(n h:Str):Rat:=if ∃m∈V,h∈D.ln m then(if tp h<lv n then lv n else tp h) else lv n
end
theorem deq_fr{K:uS}(ha:qbf H a q)(hb:qbf H b r)(c:a≠b):DEq K H 1 (.ref a) (.ref b) (decide (q=r)):=by
 have key:((vG (min [V.int q.num,V.int (q.den:Int)].length [V.int r.num,V.int (r.den:Int)].length)).all (fun j=>if j=0 then eqV (V.int q.num) (V.int r.num) else eqV (V.int (q.den:Int)) (V.int (r.den:Int))) && [V.int q.num,V.int (q.den:Int)].length==[V.int r.num,V.int (r.den:Int)].length)=decide (q=r):=by
  show((eqV (V.int q.num) (V.int r.num) && (eqV (V.int (q.den:Int)) (V.int (r.den:Int)) && true)) && true)=_;show((decide (q.num=r.num) && (decide ((q.den:Int)=(r.den:Int)) && true)) && true)=_;by_cases e1:q.num=r.num
  .by_cases e2:q.den=r.den
   .rw[gK e1,gK (by rw[e2]),gK (Rat.ext e1 e2)];rfl
   .rw[gK e1,gL #[],gL (p:=q=r) (fun z=>e2 (by rw[z]))];rfl
  .rw[gL e1,gL (p:=q=r) (fun z=>e1 (by rw[z]))];rfl
 rw[<-key];refine .ts (SqT.of ha) (SqT.of hb) c fun j h1 h2=>?_;have:j<2:=h1;obtain rfl|rfl:j=0\/j=1:=by omega
 .exact .flat rfl rfl
 .exact .flat rfl rfl
theorem qgq{f:Str->Rat}:∀{l:List Str} {n:Str},qc8 (l++[n]) f=qc8 l f+f n
 | [],n=>by show f n+0=0+f n;grind
 |m::l,n=>by
  show f m+qc8 (l++[n]) f=f m+qc8 l f+f n;rw[qgq];grind
theorem sumQ_perm{f:Str->Rat}{l l':List Str}(h:l.Perm l'):qc8 l f=qc8 l' f:=by
 induction h with
 |nil=>rfl
 |cons x _ ih=>show f x+qc8 _ f=f x+qc8 _ f;rw[ih]
 |swap x y l=>show f y+(f x+qc8 l f)=f x+(f y+qc8 l f);grind
 |trans _ _ a b=>rw[a,b]
section
variable{D:Dl}
theorem toQ_app(lv:Str->Rat)(V:List Str)(n h:Str):toQ D lv (V++[n]) h=toQ D lv V h+if h∈D.ln n then shQ D lv n else 0:=by unfold toQ;rw[qgq]
def toQ_none{V:List Str}(hn:¬∃n∈V,h∈D.ln n):toQ D lv V h=0:=qe8 fun n hv=>gI fun z=>hn ⟨n,hv,z⟩
theorem qg5{V:List Str}{n:Str} :(∃m∈V++[n],h∈D.ln m)↔(∃m∈V,h∈D.ln m)\/h∈D.ln n:=by
 constructor
 .rintro⟨m,hm,hl⟩;rcases zH.mp hm with h1|h1
  .exact .inl ⟨m,h1,hl⟩
  .rw[zE.mp h1] at hl;exact .inr hl
 .rintro(⟨m,hm,hl⟩|hl)
  .exact⟨m,zQ _ hm,hl⟩
  .exact⟨n,zM _ (zE.mpr rfl),hl⟩
open Classical in
theorem Top.app{V:List Str}{tp:Str->Rat}(h:Top D V lv tp)(n:Str):Top D (V++[n]) lv (fun x=>if x∈D.ln n then tpN D V lv tp n x else tp x):=by
 refine⟨fun x hx=>?_,fun x m hm hl=>?_⟩
 .have hx:=qg5.mp hx
  try dsimp only
  by_cases c:x∈D.ln n
  .rw[gJ c];unfold tpN;by_cases c2:∃m∈V,x∈D.ln m
   .rw[gJ c2];by_cases c3:tp x<lv n
    .rw[gJ c3];exact⟨n,zM _ (zE.mpr rfl),c,rfl⟩
    .rw[gI c3];obtain⟨m,hm,hl,e⟩:=h.ex x c2;exact⟨m,zQ _ hm,hl,e⟩
   .rw[gI c2];exact⟨n,zM _ (zE.mpr rfl),c,rfl⟩
  .rw[gI c];obtain⟨m,hm,hl,e⟩:=h.ex x (hx.resolve_right c);exact⟨m,zQ _ hm,hl,e⟩
 .try dsimp only
  by_cases c:x∈D.ln n
  .rw[gJ c];unfold tpN;rcases zH.mp hm with h1|h1
   .have:=h.ge x m h1 hl;rw[gJ ⟨m,h1,hl⟩]
    split<;>grind
   .rw[zE.mp h1]
    split
    .split<;>grind
    .exact Rat.le_refl
  .rw[gI c];rcases zH.mp hm with h1|h1
   .exact h.ge x m h1 hl
   .rw[zE.mp h1] at hl;exact absurd hl c
end
def fsS(t dr dlv dto dtp:Addr):List (Str×V):=[("tree",.ref t),("rooms",.ref dr),("levels",.ref dlv),("totals",.ref dto),("tops",.ref dtp)]
structure LvB(D:Dl)(lv:Str->Rat):Prop where
 l0:∀n∈D.W0,0<=lv n
 rl:∀n∈D.W0,RB (lv n)
 rs:∀n∈D.W0,RB (shQ D lv n)
 rt:∀V:List Str,V.Nodup->(∀n∈V,n∈D.W0)->∀h,RB (toQ D lv V h)
theorem sh_div(ok:DlOk D){lv:Str->Rat}{n:Str}(hn:n∈D.W0):shQ D lv n /(D.wt n:Rat)=lv n:=by
 have:=(wtQ ok hn).1;unfold shQ;exact(div_eq (by grind)).mpr rfl
theorem new_fld{H Hk:Hp}{x dx C dl:Addr}{fs fs':List (Str×V)}(sb:SameBut x H Hk)(ex:Hk x=some (.ins C dx fs))(fr:∀b,Hk b=none->H b=none)(hd:Hk dl=none):
  SameBut x H (upd (upd Hk dl (.dK [])) x (.ins C dx fs'))/\upd (upd Hk dl (.dK [])) x (.ins C dx fs') x=some (.ins C dx fs')/\upd (upd Hk dl (.dK [])) x (.ins C dx fs') dl=some (.dK [])/\(∀b,upd (upd Hk dl (.dK [])) x (.ins C dx fs') b=none->H b=none)/\dl≠x/\H dl=none:=by
 have ne:dl≠x:=fun e=>by subst e;rw[ex] at hd;cases hd
 refine⟨fun b u hb e=>?_,qa1,?_,fun b hb=>?_,ne,fr _ hd⟩
 .rw[qa7 hb];exact qaa (sb b u hb e) hd
 .rw[qa7 ne];exact qa1
 .by_cases c:b=x
  .subst c;rw[qa1] at hb;cases hb
  .rw[qa7 c] at hb;by_cases c2:b=dl
   .subst c2;exact fr _ hd
   .rw[qa7 c2] at hb;exact fr _ hb
theorem r_dgF2{dz:Addr}{kvs:List (Key×V)}{q0:Rat}(d:Rd H a (.dK kvs))(A:FD H kvs φ)(e:qbf H dz q0)(h:∀b,qbf H b ((φ z).getD q0)->Q (.ref b) H):rDG a (.str z) (.ref dz) H Q:=by
 refine⟨qcn kvs (uH z),.inl ⟨kvs,uH z,d,rfl,rfl⟩,?_⟩
 cases c:φ z with
 |none=>rw[A.no z c];rw[c] at h;exact h dz e
 |some q=>
  obtain⟨b,e1,e2⟩:=A.get z q c;rw[e1];rw[c] at h;exact h b e2
theorem onF_get{V:List Str}{q0:Rat}(e:(¬∃n∈V,h∈D.ln n)->g h=q0):(onF D V g h).getD q0=g h:=by
 unfold onF;by_cases c:∃n∈V,h∈D.ln n
 .rw[gJ c];rfl
 .rw[gI c];exact(e c).symm
def Sb4(a b c e:Addr)(H H':Hp):Prop:=∀y u,y≠a->y≠b->y≠c->y≠e->H y=some u->H' y=some u
inductive sp_Sums_init(K:uS)(d:Ad)(vs:List V)(H:Hp)(Q:VK)(E:XK):Prop
 |mk(x dx t dr ds dg:Addr)(S:Ts)(D:Dl)(lv:Str->Rat)(ks kg:List (Key×V))(_:vs=[.ref x,.ref t,.ref dr,.ref ds,.ref dg])(_:H x=some (.ins d.w02 dx []))(_:DlOk D)(_:(∃H0,Same H0 H/\H0 x=none/\H0 ds=none/\TrD d H0 t S D))(_:LvB D lv)(_:H ds=some (.dK ks))(_:FD H ks (qdv D.W0 (shQ D lv)))(_:(∃fs:List Str,ks.map (·.1)=fs.map uH/\fs.Perm D.W0))(_:H dg=some (.dK kg))(_:AD kg (qby D.W0 D.wt))(_:dg≠ds)(_:∀(dlv dto dtp:Addr)(klv kto ktp:List (Key×V))(tp:Str->Rat) H',SameBut x H H'->H' x=some (.ins d.w02 dx (fsS t dr dlv dto dtp))->H' dlv=some (.dK klv)->FD H' klv (qdv D.W0 lv)->H' dto=some (.dK kto)->FD H' kto (onF D D.W0 (toQ D lv D.W0))->H' dtp=some (.dK ktp)->FD H' ktp (onF D D.W0 tp)->Top D D.W0 lv tp->H dlv=none->H dto=none->H dtp=none->Q .non H')
include T in
theorem w8a:FnOk P w K mg base (My.CX1 P w) 6 d.w6h d.w5b ["self","tree","rooms","shares","weights"] (sp_Sums_init K d):=by
 exists okX T.wcx w3m
 .right
 obtain⟨x,dx,t,dr,ds,dg,S,D,lv,ks,kg,rfl,hx,ok,⟨H0,s0,f0x,f0s,hT0⟩,hB,hs,hsF,⟨fs,efs,pfs⟩,hg,hgA,ngs,q⟩:=h;refine⟨_,(qa2 (qcf (pv 0) (pv 1) rfl)
  (qa2 (qcf (pv 0) (pv 2) rfl)
  (qa2 (qcf (pv 0) qb3 rfl)
  (qa2 (qcf (pv 0) qb3 rfl)
  (qa2 (qcf (pv 0) qb3 rfl)
  (qa5 (qeg (qb0 (qbi rfl rfl) rfl (qcp (pv 3)) (qab (i:=5) w3m.nd rfl (uF rfl)) (qa2 (qae (i:=6) w3m.nd rfl (uF rfl) (qav ((waa T).mono ∅) hr rfl T.wbi T.w9u.kp T.wbt .nil qaq #[pv 3|||pv 5,qbq #[pv 4|||pv 5,qa6]]))
  (qa2 (qbh (qat hr) (qau (pv 0) rfl) (pv 5) (pv 6) rfl)
  (qa5 (qb0 (qbi rfl rfl) rfl (qaw (qb1 (pv 1) T.w03 T.w0j ((w23 T).mono ∅) hr T.w2k .nil qaq #[pv 5])) (qab (i:=7) w3m.nd rfl (uF rfl)) (qa2 (qbh (qat hr) (qau (pv 0) rfl) (pv 7) (qav ((wht T).mono ∅) hr rfl T.wih T.wh7.kp T.wim .nil qaq #[qff (qat hr) (qau (pv 0) rfl) (pv 7) (qbq #[qa6,qa6]) ⟨rfl,rfl,rfl,rfl⟩,pv 3|||pv 5]) rfl)
  (qa5 (qdc (qb4 (qbg (qaf ((w5r T).mono ∅) hr rfl T.w7d T.w6n.kp T.w7v .nil qay #[qff (qat hr) (qau (pv 0) rfl) (pv 7) (qbq #[pe_un un_neg qa6,qa6]) ⟨rfl,rfl,rfl,rfl⟩,pv 6])) (qa5 (qbh (qat hr) (qau (pv 0) rfl) (pv 7) (pv 6) rfl)) qak)))))))))))))))),?_⟩
 walk_at"d"
 try dsimp only[cxC]
 refine qac (σ:=[sr x,sr t,sr dr,sr ds,sr dg,none,none,none]) rfl ?_;have cl:=T.w2g;have ct:=T.w03;have n1:qap K d.w02 "tree":=T.w22;have n2:qap K d.w02 "rooms":=T.w1b;have n3:qap K d.w02 "levels":=T.w1i;have n4:qap K d.w02 "totals":=T.w0t;have n5:qap K d.w02 "tops":=T.w25;have nxs:ds≠x:=fun e=>by subst e;rw[hx] at hs;cases hs
 have nxg:dg≠x:=fun e=>by subst e;rw[hx] at hg;cases hg
 left;refine qec qa1 cl n2 (by show 1<1000;decide) ?_;rw[show qe0 "rooms" (.ref dr) (qe0 "tree" (.ref t) [])=(fsS t dr x x x).take 2 from rfl,qcx];have sb1:SameBut x H (upd H x (.ins d.w02 dx ((fsS t dr x x x).take 2))):=fun b u hb e=>by rw[qa7 hb];exact e
 have ex1:upd H x (.ins d.w02 dx ((fsS t dr x x x).take 2)) x=some (.ins d.w02 dx ((fsS t dr x x x).take 2)):=qa1;have fr1:∀b,upd H x (.ins d.w02 dx ((fsS t dr x x x).take 2)) b=none->H b=none:=fun b hb=>by
  by_cases c:b=x
  .subst c;rw[qa1] at hb;cases hb
  .rw[qa7 c] at hb;exact hb
 generalize upd H x (.ins d.w02 dx ((fsS t dr x x x).take 2))=H1 at*;left;rename_i dlv hdlv;obtain⟨sb2,ex2,e12,fr2,g1,fdlv⟩:=new_fld (fs':=(fsS t dr dlv x x).take 3) sb1 ex1 fr1 hdlv;refine qec (qaa ex1 hdlv) cl n3 (by show 2<1000;decide) ?_;rw[show qe0 "levels" (.ref dlv) ((fsS t dr x x x).take 2)=(fsS t dr dlv x x).take 3 from rfl];generalize upd (upd H1 dlv (.dK [])) x (.ins d.w02 dx ((fsS t dr dlv x x).take 3))=H2 at*;clear sb1 ex1 fr1 hdlv;left;rename_i dto hdto;obtain⟨sb3,ex3,e23,fr3,g2,fdto⟩:=new_fld (fs':=(fsS t dr dlv dto x).take 4) sb2 ex2 fr2 hdto;have ntl:dto≠dlv:=fun e=>by subst e;rw[e12] at hdto;cases hdto
 have e13:upd (upd H2 dto (.dK [])) x (.ins d.w02 dx ((fsS t dr dlv dto x).take 4)) dlv=some (.dK []):=by rw[qa7 g1];exact qaa e12 hdto
 refine qec (qaa ex2 hdto) cl n4 (by show 3<1000;decide) ?_;rw[show qe0 "totals" (.ref dto) ((fsS t dr dlv x x).take 3)=(fsS t dr dlv dto x).take 4 from rfl];generalize upd (upd H2 dto (.dK [])) x (.ins d.w02 dx ((fsS t dr dlv dto x).take 4))=H3 at*;clear sb2 ex2 fr2 hdto e12;left;rename_i dtp hdtp;obtain⟨sb4,ex4,e34,fr4,g3,fdtp⟩:=new_fld (fs':=fsS t dr dlv dto dtp) sb3 ex3 fr3 hdtp;have npl:dtp≠dlv:=fun e=>by subst e;rw[e13] at hdtp;cases hdtp
 have npt:dtp≠dto:=fun e=>by subst e;rw[e23] at hdtp;cases hdtp
 have e14:upd (upd H3 dtp (.dK [])) x (.ins d.w02 dx (fsS t dr dlv dto dtp)) dlv=some (.dK []):=by rw[qa7 g1];exact qaa e13 hdtp
 have e24:upd (upd H3 dtp (.dK [])) x (.ins d.w02 dx (fsS t dr dlv dto dtp)) dto=some (.dK []):=by rw[qa7 g2];exact qaa e23 hdtp
 refine qec (qaa ex3 hdtp) cl n5 (by show 4<1000;decide) ?_;rw[show qe0 "tops" (.ref dtp) ((fsS t dr dlv dto x).take 4)=fsS t dr dlv dto dtp from rfl];generalize upd (upd H3 dtp (.dK [])) x (.ins d.w02 dx (fsS t dr dlv dto dtp))=H4 at*;clear sb3 ex3 fr3 hdtp e13 e23 fr4;have hs4:=sb4 _ _ nxs hs;have hg4:=sb4 _ _ nxg hg;have nsl:dlv≠ds:=fun e=>by subst e;rw[fdlv] at hs;cases hs
 have nst:dto≠ds:=fun e=>by subst e;rw[fdto] at hs;cases hs
 have nsp:dtp≠ds:=fun e=>by subst e;rw[fdtp] at hs;cases hs
 have ngl:dg≠dlv:=fun e=>by subst e;rw[fdlv] at hg;cases hg
 have ngt:dg≠dto:=fun e=>by subst e;rw[fdto] at hg;cases hg
 have ngp:dg≠dtp:=fun e=>by subst e;rw[fdtp] at hg;cases hg
 have klen:ks.length=fs.length:=by have:=congrArg wF efs;rw[zA,zA] at this;exact this
 have fsnd:fs.Nodup:=pfs.nodup_iff.mpr ok.nd;have fsub:∀n∈fs,n∈D.W0:=fun n hn=>pfs.mem_iff.mp hn;have f7:fs.length<=7:=by rw[pfs.length_eq];exact ok.l8
 have f0l:H0 dlv=none:=s0.free fdlv;have f0t:H0 dto=none:=s0.free fdto;have f0p:H0 dtp=none:=s0.free fdtp;left;refine qfq hs4 fun o=>?_;refine qet (fun i σ H'=>∃(klv kto ktp:List (Key×V))(tp:Str->Rat)(w1 w2 w3:Option V),σ=[sr x,sr t,sr dr,sr ds,sr dg,w1,w2,w3]/\Sb4 ds dlv dto dtp H4 H'/\H' ds=some (.frz o (.dK ks))/\H' dlv=some (.dK klv)/\H' dto=some (.dK kto)/\H' dtp=some (.dK ktp)/\FD H' klv (qdv (fs.take i) lv)/\FD H' kto (onF D (fs.take i) (toQ D lv (fs.take i)))/\FD H' ktp (onF D (fs.take i) tp)/\Top D (fs.take i) lv tp/\klv.length<=i/\kto.length<=20*i/\ktp.length<=20*i)
  ⟨[],[],[],fun _=>0,none,none,none,rfl,fun b u n1 _ _ _ e=>by rw[qa7 n1];exact e,qa1,by rw[qa7 nsl];exact e14,by rw[qa7 nst];exact e24,by rw[qa7 nsp];exact e34,FD.nil.cast fun z=>rfl,FD.nil.cast fun z=>(gI fun⟨n,hn,_⟩=>by simp at hn).symm,FD.nil.cast fun z=>(gI fun⟨n,hn,_⟩=>by simp at hn).symm,⟨fun h ⟨n,hn,_⟩=>by simp at hn,fun h n hn=>by simp at hn⟩,uG _,uG _,uG _⟩ ?_ ?_ ?_
 .rintro i σ H' _ ⟨klv,kto,ktp,tp,w1,w2,w3,rfl,sb,fz,_⟩;exact fz
 .rintro i k v σ H' hk ⟨klv,kto,ktp,tp,w1,w2,w3,rfl,sb,fz,elv,eto,etp,hlv,hto,htp,hT,z1,z2,z3⟩;obtain⟨n,a,q0,rfl,rfl,hfr,hf⟩:=hsF.at hk;have hi:i<fs.length:=by rw[<-klen];exact(uL.mp hk).1
  have hni:fs[i]?=some n:=by
   have h1:(ks.map (·.1))[i]?=some (uH n):=by rw[zC,hk];rfl
   rw[efs,zC] at h1;obtain⟨m,hm,e⟩:=uI.mp h1;rw[hm,yR e]
  have hn0:=fsub n (zF hni);have eq0:q0=shQ D lv n:=by rw[qcj hn0] at hf;exact(uQ hf).symm
  subst eq0;have etk:fs.take (i+1)=fs.take i++[n]:=by rw[zO,hni];rfl
  have hRs:Rd H' ds (.dK ks):=.inr ⟨o,fz⟩;have t4:qb2 H H':=fun a xs e=>sb a _ (fun z=>by subst z;rw[hs] at e;cases e) (fun z=>by subst z;rw[fdlv] at e;cases e) (fun z=>by subst z;rw[fdto] at e;cases e) (fun z=>by subst z;rw[fdtp] at e;cases e) (sb4 _ _ (fun z=>by subst z;rw[hx] at e;cases e) e);have hFs:=hsF.t t4;have hRg:Rd H' dg (.dK kg):=.inl (sb _ _ ngs ngl ngt ngp hg4);have gw:qby D.W0 D.wt n=some (D.wt n):=qbe hn0;have ex':=sb _ _ nxs.symm g1.symm g2.symm g3.symm ex4;have wa1:=ok.w1 n hn0;have wa2:=ok.w2 n hn0;have zl:klv.length<sizeLine:=by show _<16777216;omega
  show qer _ (.str n) _ _ _;left;refine qed hRs hFs (qcj hn0) fun sa hsa=>?_;left;rename_i tp1 htp1;have s5:=qa4 htp1 (.tup [V.int (D.wt n),V.int 1]);have hfr5:qbf (upd H' tp1 (.tup [V.int (D.wt n),V.int 1])) tp1 ((D.wt n:Int):Rat):=qde qa1;generalize upd H' tp1 (.tup [V.int (D.wt n),V.int 1])=H5 at*;have wq:=(wtQ ok hn0).1;refine⟨sa,tp1,_,_,rfl,s5 _ _ hsa,hfr5,hB.rs n hn0,qfp (vF (show(D.wt n).natAbs<=1000 by omega) ∅),by grind,fun r hr=>?_⟩;rw[sh_div ok hn0];have s6:=s5.trans (qa4 hr (frO (lv n)));have hl6:qbf (upd H5 r (frO (lv n))) r (lv n):=qa1;generalize upd H5 r (frO (lv n))=H6 at*;have ex6:=s6 _ _ ex';have elv6:=s6 _ _ elv;clear hr htp1 s5 hfr5 hsa;obtain⟨e,ae,ew,hlN⟩:=hT0.ln n hn0;have lz:=ok.lz n hn0;have lnd:=ok.ld n hn0;have sT:Same H0 (upd H6 dlv (.dK (qbp klv (uH n) (.ref r)))):=fun b u e=>by
   rw[qa7 fun z=>by subst z;rw[f0l] at e;cases e];exact s6 _ _ (sb b u (fun z=>by subst z;rw[f0s] at e;cases e) (fun z=>by subst z;rw[f0l] at e;cases e) (fun z=>by subst z;rw[f0t] at e;cases e) (fun z=>by subst z;rw[f0p] at e;cases e) (sb4 b u (fun z=>by subst z;rw[f0x] at e;cases e) (s0 b u e)))
  obtain⟨tx,ht⟩:=id (hT0.tr.same sT).1;have lput:=qaz klv (uH n) (.ref r);have t6:qb2 H' (upd H6 dlv (.dK (qbp klv (uH n) (.ref r)))):=(qb2.of s6).trans (qb2.upd elv6 fun xs e=>by cases e);have hlv7:FD (upd H6 dlv (.dK (qbp klv (uH n) (.ref r)))) (qbp klv (uH n) (.ref r)) (qdv (fs.take (i+1)) lv):=(((hlv.t (qb2.of s6)).put n hl6).t (qb2.upd elv6 fun xs e=>by cases e)).cast fun y=>by
   have tk:y∈fs.take (i+1)↔y∈fs.take i\/y=n:=qas hni y;unfold qdv;by_cases c:y=n
   .rw[gJ c,gJ (tk.mpr (.inr c)),c]
   .rw[gI c];by_cases c2:y∈fs.take i
    .rw[gJ c2,gJ (tk.mpr (.inl c2))]
    .rw[gI c2,gI fun h'=>(tk.mp h').elim c2 c]
  have sb7:Sb4 ds dlv dto dtp H4 (upd H6 dlv (.dK (qbp klv (uH n) (.ref r)))):=fun y u a1 a2 a3 a4 e=>by rw[qa7 a2];exact s6 _ _ (sb y u a1 a2 a3 a4 e)
  have fz7:upd H6 dlv (.dK (qbp klv (uH n) (.ref r))) ds=some (.frz o (.dK ks)):=by rw[qa7 nsl.symm];exact s6 _ _ fz
  have eto7:upd H6 dlv (.dK (qbp klv (uH n) (.ref r))) dto=some (.dK kto):=by rw[qa7 ntl];exact s6 _ _ eto
  have etp7:upd H6 dlv (.dK (qbp klv (uH n) (.ref r))) dtp=some (.dK ktp):=by rw[qa7 npl];exact s6 _ _ etp
  have ex7:upd H6 dlv (.dK (qbp klv (uH n) (.ref r))) x=some (.ins d.w02 dx (fsS t dr dlv dto dtp)):=by rw[qa7 g1.symm];exact ex6
  have elv7:upd H6 dlv (.dK (qbp klv (uH n) (.ref r))) dlv=some (.dK (qbp klv (uH n) (.ref r))):=qa1;have hl7:qbf (upd H6 dlv (.dK (qbp klv (uH n) (.ref r)))) r (lv n):=qb2.upd elv6 (fun xs e=>by cases e) _ _ hl6;left;generalize upd H6 dlv (.dK (qbp klv (uH n) (.ref r)))=H7 at*;have hto7:=hto.t t6;have htp7:=htp.t t6;clear sb s6 ex6 elv6 hl6 ex' hRs hFs t4 hRg hlv elv fz eto etp zl hto htp t6;refine⟨t,S,.str n,rfl,hT0.tr.same sT,.inl ⟨n,_,rfl,hlN,#[],fun ll hll=>?_⟩⟩;have s8:=qa4 hll (.lst ((D.ln n).map V.str));have ell:upd H7 ll (.lst ((D.ln n).map V.str)) ll=some (.lst ((D.ln n).map V.str)):=qa1;have sb8:Sb4 ds dlv dto dtp H4 (upd H7 ll (.lst ((D.ln n).map V.str))):=fun y u a1 a2 a3 a4 e=>s8 _ _ (sb7 y u a1 a2 a3 a4 e);have fz8:=s8 _ _ fz7;have eto8:=s8 _ _ eto7;have etp8:=s8 _ _ etp7;have ex8:=s8 _ _ ex7;have elv8:=s8 _ _ elv7;have hl8:qbf _ r (lv n):=s8 _ _ hl7;have hlv8:=hlv7.t (qb2.of s8);have hto8:=hto7.t (qb2.of s8);have htp8:=htp7.t (qb2.of s8);generalize upd H7 ll (.lst ((D.ln n).map V.str))=H8 at*;clear sb7 fz7 eto7 etp7 ex7 elv7 hl7 hlv7 hto7 htp7 s8 hll ht sT;have t8:qb2 H H8:=fun a xs e=>sb8 a _ (fun z=>by subst z;rw[hs] at e;cases e) (fun z=>by subst z;rw[fdlv] at e;cases e) (fun z=>by subst z;rw[fdto] at e;cases e) (fun z=>by subst z;rw[fdtp] at e;cases e) (sb4 _ _ (fun z=>by subst z;rw[hx] at e;cases e) e);have hFs8:=hsF.t t8;have nlo:ll≠dto:=fun z=>by subst z;rw[ell] at eto8;cases eto8
  have nlp:ll≠dtp:=fun z=>by subst z;rw[ell] at etp8;cases etp8
  have nrt:r≠dto:=fun z=>by subst z;unfold qbf at hl8;rw[eto8] at hl8;cases hl8
  have nrp:r≠dtp:=fun z=>by subst z;unfold qbf at hl8;rw[etp8] at hl8;cases hl8
  left;refine qbs (xs:=(D.ln n).map V.str) (fun j σ Hx=>∃(kto' ktp':List (Key×V))(w3:Option V),σ=[sr x,sr t,sr dr,sr ds,sr dg,some (.str n),sr r,w3]/\Sb2 dto dtp H8 Hx/\Hx dto=some (.dK kto')/\Hx dtp=some (.dK ktp')/\FD Hx kto' (fun h=>if h∈(D.ln n).take j then some (toQ D lv (fs.take i) h+shQ D lv n) else onF D (fs.take i) (toQ D lv (fs.take i)) h)/\FD Hx ktp' (fun h=>if h∈(D.ln n).take j then some (tpN D (fs.take i) lv tp n h) else onF D (fs.take i) tp h)/\kto'.length<=20*i+j/\ktp'.length<=20*i+j) ⟨kto,ktp,_,rfl,fun b u _ _ e=>e,eto8,etp8,hto8.cast fun z=>by simp,htp8.cast fun z=>by simp,#[],#[]⟩ ?_ ?_ ?_
  .rintro j σ Hx _ ⟨kto',ktp',w3,rfl,s9,_⟩;exact SqL.of (s9 _ _ nlo nlp ell)
  .rintro j v σ Hx hv ⟨kto',ktp',w3,rfl,s9,eto9,etp9,hto9,htp9,z4,z5⟩;rw[zC] at hv;obtain⟨h,hh,rfl⟩:=uI.mp hv;have hj:=(uL.mp hh).1;have hhl:=zF hh;have hnt:h∉(D.ln n).take j:=qem lnd hh;have tk:∀y,y∈(D.ln n).take (j+1)↔y∈(D.ln n).take j\/y=h:=qas hh;have ex9:=s9 _ _ g2.symm g3.symm ex8;have hRt:Rd Hx dto (.dK kto'):=.inl eto9;have ftk:∀m∈fs.take i,m∈D.W0:=fun m hm=>fsub m (yB hm);have rto:=hB.rt (fs.take i) (fsnd.sublist (fK _ _)) ftk h;have rsh:=hB.rs n hn0;have rlv:=hB.rl n hn0;have rlA:=hB.rl;have lv0:=hB.l0 n hn0;have fz9:=s9 _ _ nst.symm nsp.symm fz8;have tS9:qb2 H8 Hx:=fun a xs e=>s9 a _ (fun z=>by subst z;rw[eto8] at e;cases e) (fun z=>by subst z;rw[etp8] at e;cases e) e;have hFs9:=hFs8.t tS9;have hl9:qbf Hx r (lv n):=tS9 _ _ hl8;have z6:kto'.length<sizeLine:=by show _<16777216;omega
   have z7:ktp'.length<sizeLine:=by show _<16777216;omega
   have lput1:=fun v=>qaz kto' (uH h) v;have lput2:=fun v=>qaz ktp' (uH h) v;clear hv hlv8 hto8 htp8 hFs8 hl8 elv8 ex8 sb8 etk hni hk hgA hg4 hs4 sb4 ex4 e14 e24 e34 t8 tS9 fz8 eto8 etp8 q;clear hB hsF hT0 f0x f0s s0 f0l f0t f0p efs pfs klen fsnd fsub hf hfr gw hlN ae ew ngl ngt ngp nsl;left;rename_i p1 hp1;have s10:=qa4 hp1 (.tup [V.int 0,V.int 1]);have hz1:qbf (upd Hx p1 (.tup [V.int 0,V.int 1])) p1 ((0:Int):Rat):=qde qa1;generalize upd Hx p1 (.tup [V.int 0,V.int 1])=Hy at*;refine r_dgF2 (.inl (s10 _ _ eto9)) (hto9.t (qb2.of s10)) hz1 fun b hb=>?_;rw[gI hnt,onF_get (q0:=((0:Int):Rat)) fun c=>(toQ_none c).trans rfl] at hb;left;refine qed (.inr ⟨o,s10 _ _ fz9⟩) (hFs9.t (qb2.of s10)) (qcj hn0) fun sa hsa=>?_;left;refine⟨b,sa,_,_,rfl,hb,hsa,rto,rsh,fun r2 hr2=>?_⟩;have s11:=s10.trans (qa4 hr2 (frO (toQ D lv (fs.take i) h+shQ D lv n)));have hq2:qbf (upd Hy r2 (frO (toQ D lv (fs.take i) h+shQ D lv n))) r2 (toQ D lv (fs.take i) h+shQ D lv n):=qa1;generalize upd Hy r2 (frO (toQ D lv (fs.take i) h+shQ D lv n))=Hz at*;clear hr2 hp1 hz1 hb hsa s10 hRt rto rsh fz9 hFs9;have ex11:=s11 _ _ ex9;have eto11:=s11 _ _ eto9;have etp11:=s11 _ _ etp9;have hto11:=(hto9.t (qb2.of s11)).put h hq2;have htp11:=htp9.t (qb2.of s11);have hl11:qbf Hz r (lv n):=s11 _ _ hl9;clear ex9 eto9 etp9 hto9 htp9 hl9;have z8:=lput1 (.ref r2);clear lput1;left;have t12:qb2 Hz (upd Hz dto (.dK (qbp kto' (uH h) (.ref r2)))):=qb2.upd eto11 fun xs e=>by cases e
   have sb12:Sb2 dto dtp H8 (upd Hz dto (.dK (qbp kto' (uH h) (.ref r2)))):=fun b u a1 a2 e=>by rw[qa7 a1];exact s11 _ _ (s9 b u a1 a2 e)
   have eto12:upd Hz dto (.dK (qbp kto' (uH h) (.ref r2))) dto=some (.dK (qbp kto' (uH h) (.ref r2))):=qa1;have etp12:upd Hz dto (.dK (qbp kto' (uH h) (.ref r2))) dtp=some (.dK ktp'):=by rw[qa7 npt];exact etp11
   have ex12:upd Hz dto (.dK (qbp kto' (uH h) (.ref r2))) x=some (.ins d.w02 dx (fsS t dr dlv dto dtp)):=by rw[qa7 g2.symm];exact ex11
   have hto12:FD (upd Hz dto (.dK (qbp kto' (uH h) (.ref r2)))) (qbp kto' (uH h) (.ref r2)) (fun h=>if h∈(D.ln n).take (j+1) then some (toQ D lv (fs.take i) h+shQ D lv n) else onF D (fs.take i) (toQ D lv (fs.take i)) h):=(hto11.t t12).cast fun y=>by
    try dsimp only
    by_cases c:y=h
    .rw[gJ c,gJ ((tk y).mpr (.inr c)),c]
    .rw[gI c];by_cases c2:y∈(D.ln n).take j
     .rw[gJ c2,gJ ((tk y).mpr (.inl c2))]
     .rw[gI c2,gI fun h'=>((tk y).mp h').elim c2 c]
   have htp12:=htp11.t t12;have hl12:qbf _ r (lv n):=t12 _ _ hl11;generalize upd Hz dto (.dK (qbp kto' (uH h) (.ref r2)))=H9 at*;generalize qbp kto' (uH h) (.ref r2)=kto9 at*;clear ex11 eto11 etp11 hto11 htp11 hl11 t12 s11 hq2 s9;have hRp:Rd H9 dtp (.dK ktp'):=.inl etp12;refine qdy ?_;left;rename_i p2 hp2;have s13:=qa4 hp2 (.tup [V.int (-1),V.int 1]);have hz2:qbf (upd H9 p2 (.tup [V.int (-1),V.int 1])) p2 (((-1:Int)):Rat):=qde qa1;generalize upd H9 p2 (.tup [V.int (-1),V.int 1])=Hw at*;refine r_dgF2 (.inl (s13 _ _ etp12)) (htp12.t (qb2.of s13)) hz2 fun b hb=>?_;rw[gI hnt] at hb;have hl13:qbf Hw r (lv n):=s13 _ _ hl12;have ex13:=s13 _ _ ex12;have etp13:=s13 _ _ etp12;have htp13:=htp12.t (qb2.of s13);have m1:(((-1:Int)):Rat)<lv n:=by
    have:(((-1:Int)):Rat)<0:=∅
    grind
   have rtp:RB ((onF D (fs.take i) tp h).getD (((-1:Int)):Rat)):=by
    unfold onF;by_cases c:∃n∈fs.take i,h∈D.ln n
    .rw[gJ c];obtain⟨m,hm,_,e⟩:=hT.ex h c;show RB (tp h);rw[e];exact rlA m (ftk m hm)
    .rw[gI c];exact qfp (z:=-1) ∅
   clear hp2 hz2 hl12 ex12 etp12 hRp;left;refine⟨b,r,_,_,rfl,hb,hl13,rtp,rlv,?_⟩;by_cases c:(onF D (fs.take i) tp h).getD (((-1:Int)):Rat)<lv n
   .rw[gK c];have tn:tpN D (fs.take i) lv tp n h=lv n:=by
     unfold tpN;by_cases c2:∃m∈fs.take i,h∈D.ln m
     .unfold onF at c;rw[gJ c2] at c;have c:tp h<lv n:=c;rw[gJ c2,gJ c]
     .rw[gI c2]
    have z9:=lput2 (.ref r);clear lput2 htp12 rtp hb;left;have t14:qb2 Hw (upd Hw dtp (.dK (qbp ktp' (uH h) (.ref r)))):=qb2.upd etp13 fun xs e=>by cases e
    refine⟨kto9,_,_,rfl,fun b u a1 a2 e=>by rw[qa7 a2];exact s13 _ _ (sb12 b u a1 a2 e),by rw[qa7 npt.symm];exact s13 _ _ eto12,qa1,(hto12.t (qb2.of s13)).t t14,((htp13.put h hl13).t t14).cast fun y=>?_,#[],#[]⟩
    try dsimp only
    by_cases c3:y=h
    .rw[gJ c3,gJ ((tk y).mpr (.inr c3)),c3,tn]
    .rw[gI c3];by_cases c2:y∈(D.ln n).take j
     .rw[gJ c2,gJ ((tk y).mpr (.inl c2))]
     .rw[gI c2,gI fun h'=>((tk y).mp h').elim c2 c3]
   .rw[gL c];have c2:∃m∈fs.take i,h∈D.ln m:=wT fun c2=>c (by unfold onF;rw[gI c2];exact m1);have tn:onF D (fs.take i) tp h=some (tpN D (fs.take i) lv tp n h):=by
     unfold onF at c⊢;unfold tpN;rw[gJ c2] at c;have c:¬tp h<lv n:=c;rw[gJ c2,gJ c2,gI c]
    clear lput2 htp12 rtp hb;left;refine⟨kto9,ktp',_,rfl,fun b u a1 a2 e=>s13 _ _ (sb12 b u a1 a2 e),s13 _ _ eto12,etp13,hto12.t (qb2.of s13),htp13.cast fun y=>?_,#[],#[]⟩
    try dsimp only
    by_cases c3:y=h
    .rw[c3,gI hnt,gJ ((tk h).mpr (.inr rfl)),tn]
    .by_cases c2:y∈(D.ln n).take j
     .rw[gJ c2,gJ ((tk y).mpr (.inl c2))]
     .rw[gI c2,gI fun h'=>((tk y).mp h').elim c2 c3]
  .rintro σ Hx ⟨kto',ktp',w3',rfl,s9,eto9,etp9,hto9,htp9,z4,z5⟩;rw[zA,zK] at hto9 htp9;rw[zA] at z4 z5;have tS9:qb2 H8 Hx:=fun a xs e=>s9 a _ (fun z=>by subst z;rw[eto8] at e;cases e) (fun z=>by subst z;rw[etp8] at e;cases e) e;refine⟨_,kto',ktp',fun h=>if h∈D.ln n then tpN D (fs.take i) lv tp n h else tp h,_,_,_,rfl,fun y u a1 a2 a3 a4 e=>s9 _ _ a3 a4 (sb8 y u a1 a2 a3 a4 e),s9 _ _ nst.symm nsp.symm fz8,s9 _ _ ntl.symm npl.symm elv8,eto9,etp9,hlv8.t tS9,hto9.cast fun h=>?_,htp9.cast fun h=>?_,?_,#[],#[],#[]⟩
   .unfold onF;rw[etk,toQ_app];by_cases c:h∈D.ln n
    .rw[gJ c,gJ (qg5.mpr (.inr c)),gJ c]
    .rw[gI c,gI c];by_cases c2:∃m∈fs.take i,h∈D.ln m
     .rw[gJ c2,gJ (qg5.mpr (.inl c2))];congr 1;grind
     .rw[gI c2,gI fun z=>(qg5.mp z).elim c2 c]
   .unfold onF;dsimp only;rw[etk];by_cases c:h∈D.ln n
    .rw[gJ c,gJ (qg5.mpr (.inr c)),gJ c]
    .rw[gI c,gI c];by_cases c2:∃m∈fs.take i,h∈D.ln m
     .rw[gJ c2,gJ (qg5.mpr (.inl c2))]
     .rw[gI c2,gI fun z=>(qg5.mp z).elim c2 c]
   .rw[etk];exact hT.app n
 rintro σ H' ⟨klv,kto,ktp,tp,w1,w2,w3,rfl,sb,fz,elv,eto,etp,hlv,hto,htp,hT,z1,z2,z3⟩;refine qeb (qfm fz (qcd hs)) ?_;rw[klen,zK] at hlv hto htp hT;have t1:qb2 H' (upd H' ds (.dK ks)):=qb2.upd fz fun xs e=>by cases e
 refine q dlv dto dtp klv kto ktp tp _ (fun b u hb e=>?_) (by rw[qa7 nxs.symm];exact sb _ _ nxs.symm g1.symm g2.symm g3.symm ex4) (by rw[qa7 nsl];exact elv) ((hlv.t t1).cast fun z=>?_) (by rw[qa7 nst];exact eto) ((hto.t t1).cast fun z=>?_) (by rw[qa7 nsp];exact etp) ((htp.t t1).cast fun z=>?_) ?_ fdlv fdto fdtp
 .by_cases c:b=ds
  .subst c;rw[qa1,<-hs];exact e
  .rw[qa7 c];exact sb b u c (fun z=>by subst z;rw[fdlv] at e;cases e) (fun z=>by subst z;rw[fdto] at e;cases e) (fun z=>by subst z;rw[fdtp] at e;cases e) (sb4 b u hb e)
 .unfold qdv;by_cases c:z∈D.W0
  .rw[gJ c,gJ (pfs.mem_iff.mpr c)]
  .rw[gI c,gI fun h=>c (pfs.mem_iff.mp h)]
 .unfold onF;rw[show toQ D lv fs z=toQ D lv D.W0 z from sumQ_perm pfs];by_cases c:∃n∈D.W0,z∈D.ln n
  .rw[gJ c,gJ (c.elim fun n h=>⟨n,pfs.mem_iff.mpr h.1,h.2⟩)]
  .rw[gI c,gI fun h=>c (h.elim fun n h=>⟨n,pfs.mem_iff.mp h.1,h.2⟩)]
 .unfold onF;by_cases c:∃n∈D.W0,z∈D.ln n
  .rw[gJ c,gJ (c.elim fun n h=>⟨n,pfs.mem_iff.mpr h.1,h.2⟩)]
  .rw[gI c,gI fun h=>c (h.elim fun n h=>⟨n,pfs.mem_iff.mp h.1,h.2⟩)]
 .exact⟨fun h ⟨n,hn,hl⟩=>(hT.ex h ⟨n,pfs.mem_iff.mpr hn,hl⟩).elim fun m hm=>⟨m,pfs.mem_iff.mp hm.1,hm.2⟩,fun h n hn hl=>hT.ge h n (pfs.mem_iff.mpr hn) hl⟩
open Classical in
noncomputable def stB(D:Dl)(lv:Str->Rat)(n h:Str):Bool:=decide (toQ D lv D.W0 h=(D.rm h:Rat)/\∀m∈D.W0,h∈D.ln m->lv m<=lv n)
structure SmAt(d:Ad)(H:Hp)(sm t dr dlv dto dtp:Addr)(S:Ts)(D:Dl)(HS:List Str)(kr klv kto ktp:List (Key×V))(lv tp:Str->Rat):Prop where
 ob:∃dx,H sm=some (.ins d.w02 dx (fsS t dr dlv dto dtp))
 tr:TrD d H t S D
 r:H dr=some (.dK kr)
 rA:AD kr (qby HS D.rm)
 l:H dlv=some (.dK klv)
 lA:FD H klv (qdv D.W0 lv)
 o:H dto=some (.dK kto)
 oA:FD H kto (onF D D.W0 (toQ D lv D.W0))
 p:H dtp=some (.dK ktp)
 pA:FD H ktp (onF D D.W0 tp)
 top:Top D D.W0 lv tp
 b:LvB D lv
 hs:∀n∈D.W0,∀h∈D.ln n,h∈HS
theorem SmAt.same{d:Ad}{H H':Hp}{sm t dr dlv dto dtp:Addr}{S:Ts}{D:Dl}{HS:List Str}{kr klv kto ktp:List (Key×V)}{lv tp:Str->Rat}(h:SmAt d H sm t dr dlv dto dtp S D HS kr klv kto ktp lv tp)(s:Same H H'):SmAt d H' sm t dr dlv dto dtp S D HS kr klv kto ktp lv tp:=
 ⟨h.ob.elim fun dx e=>⟨dx,s _ _ e⟩,h.tr.same s,s _ _ h.r,h.rA,s _ _ h.l,h.lA.t (qb2.of s),s _ _ h.o,h.oA.t (qb2.of s),s _ _ h.p,h.pA.t (qb2.of s),h.top,h.b,h.hs⟩
def onF_in{V:List Str}{n:Str}(hn:n∈V)(hl:h∈D.ln n):onF D V g h=some (g h):=gJ ⟨n,hn,hl⟩
inductive sp_Sums_stops_of(K:uS)(d:Ad)(vs:List V)(H:Hp)(Q:VK)(E:XK):Prop
 |mk(sm t dr dlv dto dtp:Addr)(S:Ts)(D:Dl)(HS:List Str)(kr klv kto ktp:List (Key×V))(lv tp:Str->Rat)(n:Str)(_:vs=[.ref sm,.str n])(_:DlOk D)(_:SmAt d H sm t dr dlv dto dtp S D HS kr klv kto ktp lv tp)(_:n∈D.W0)(_:∀l H',Same H H'->H l=none->H' l=some (.lst (((D.ln n).filter (stB D lv n)).map V.str))->Q (.ref l) H')
include T in
theorem w4u:FnOk P w K mg base (My.CX1 P w) 6 d.w3f d.w2q ["self","name"] (sp_Sums_stops_of K d):=by
 exists okX T.w9g w1v
 .right
 obtain⟨sm,t,dr,dlv,dto,dtp,S,D,HS,kr,klv,kto,ktp,lv,tp,n,rfl,ok,hS,hn0,q⟩:=h;refine⟨_,(qa2 (qae (i:=2) w1v.nd rfl (uF rfl) (qbb qa3))
  (qa2 (qb0 (qbi rfl rfl) rfl (qaw (qb1 (qau (pv 0) rfl) T.w03 T.w0j ((w23 T).mono ∅) hr T.w2k .nil qaq #[pv 1])) (qab (i:=3) w1v.nd rfl (uF rfl)) (qa2 (qae (i:=4) w1v.nd rfl (uF rfl) (qci (op_eqD (hu8 hr)) (qau (pv 0) rfl|||pv 3) (qbq #[qau (pv 0) rfl|||pv 3,qa6]) (qar _)))
  (qa5 (qdc (qb4 (PW.pt (qgf (qbg (pv 4)) (qex (qbz (qbg (qaf ((w5r T).mono ∅) hr rfl T.w7d T.w6n.kp T.w7v .nil qay #[qau (pv 0) rfl|||pv 1,qau (pv 0) rfl|||pv 3])))))) (qa5 (qbn (qf7 vT wC wD qc0 (pv 2) #[pv 3]))) qak)))))
  (qa5 (qad (pv 2))))),?_⟩
 walk_at"d"
 try dsimp only[cxC]
 refine qac (σ:=[sr sm,some (.str n),none,none,none]) rfl ?_;have cl:=T.w2g;have ct:=T.w03;have n1:qap K d.w02 "tree":=T.w22;have n2:qap K d.w02 "rooms":=T.w1b;have n3:qap K d.w02 "levels":=T.w1i;have n4:qap K d.w02 "totals":=T.w0t;have n5:qap K d.w02 "tops":=T.w25;obtain⟨dx,ho⟩:=hS.ob;obtain⟨e,ae,ew,hlN⟩:=hS.tr.ln n hn0;have lz:=ok.lz n hn0;left;rename_i l hl;have s1:=qa4 hl (.lst []);have el1:upd H l (.lst []) l=some (.lst []):=qa1;have ho1:=s1 _ _ ho;have hS1:=hS.same s1;generalize upd H l (.lst [])=H1 at*;obtain⟨tx,ht⟩:=id hS1.tr.tr.1;left;refine⟨t,S,.str n,rfl,hS1.tr.tr,.inl ⟨n,_,rfl,hlN,#[],fun ll hll=>?_⟩⟩;have s2:=s1.trans (qa4 hll (.lst ((D.ln n).map V.str)));have ell:upd H1 ll (.lst ((D.ln n).map V.str)) ll=some (.lst ((D.ln n).map V.str)):=qa1;have el2:=qaa (o':=.lst ((D.ln n).map V.str)) el1 hll;have nll:ll≠l:=fun z=>by subst z;rw[el1] at hll;cases hll
 generalize upd H1 ll (.lst ((D.ln n).map V.str))=H2 at*;clear hll el1 ht ho1 hS1;left;refine qbs (xs:=(D.ln n).map V.str) (fun i σ H'=>∃(w1 w2:Option V),σ=[sr sm,some (.str n),sr l,w1,w2]/\Same H H'/\H' ll=some (.lst ((D.ln n).map V.str))/\H' l=some (.lst ((((D.ln n).take i).filter (stB D lv n)).map V.str))) ⟨none,none,rfl,s2,ell,el2⟩ ?_ ?_ ?_
 .rintro i σ H' _ ⟨w1,w2,rfl,_,e,_⟩;exact SqL.of e
 .rintro i v σ H' hv ⟨w1,w2,rfl,sm',ell',el'⟩;rw[zC] at hv;obtain⟨h,hh,rfl⟩:=uI.mp hv;have hi:=(uL.mp hh).1;have hhl:=zF hh;have etk:(D.ln n).take (i+1)=(D.ln n).take i++[h]:=by rw[zO,hh];rfl
  have hS':=hS.same sm';have ho':=sm' _ _ ho;have hRo:Rd H' dto (.dK kto):=.inl hS'.o;have hRr:Rd H' dr (.dK kr):=.inl hS'.r;have hrA:=hS.rA;have gr:qby HS D.rm h=some (D.rm h):=qbe (hS.hs n hn0 h hhl);have zl:((((D.ln n).take i).filter (stB D lv n)).map V.str).length<sizeLine:=by
   rw[zA];have h1:=yC (stB D lv n) ((D.ln n).take i);rw[zS] at h1;show _<16777216;omega
  have hnl:l≠sm:=fun z=>by subst z;rw[ho] at hl;cases hl
  clear hv s2 ell el2 s1;left;refine qed hRo hS'.oA (onF_in hn0 hhl) fun b hb=>?_;left;rename_i tp1 htp1;have hb1:=hb;unfold qbf at hb1;have nb:b≠tp1:=fun z=>by subst z;rw[htp1] at hb1;cases hb1
  have s3:=qa4 htp1 (.tup [V.int (D.rm h),V.int 1]);have hfr:qbf (upd H' tp1 (.tup [V.int (D.rm h),V.int 1])) tp1 ((D.rm h:Int):Rat):=qde qa1;generalize upd H' tp1 (.tup [V.int (D.rm h),V.int 1])=H3 at*;refine r_eqD nb ∅ (deq_fr (s3 _ _ hb) hfr nb) ?_;have ho3:=s3 _ _ ho';have el3:=s3 _ _ el';have ell3:=s3 _ _ ell';have hS3:=hS'.same s3;have s4:=sm'.trans s3;have hRl:Rd H3 dlv (.dK klv):=.inl hS3.l;clear hRo hRr hb hb1 hfr htp1 ho' el' ell' hS';have hle:(∀m∈D.W0,h∈D.ln m->lv m<=lv n)↔¬lv n<tp h:=by
   obtain⟨m,hm,hml,e⟩:=hS.top.ex h ⟨n,hn0,hhl⟩;constructor
   .intro h1 h2;have:=h1 m hm hml;grind
   .intro h1 m' hm' hl';have:=hS.top.ge h m' hm' hl';grind
  have rtp:RB (tp h):=by
   obtain⟨m,hm,hml,e⟩:=hS.top.ex h ⟨n,hn0,hhl⟩;rw[e];exact hS.b.rl m hm
  by_cases c:toQ D lv D.W0 h=(D.rm h:Rat)
  .rw[gK c];left;refine qdy ?_;left;refine qed hRl hS3.lA (qcj hn0) fun b1 hb1=>?_;have hRp:Rd H3 dtp (.dK ktp):=.inl hS3.p;left;refine qed hRp hS3.pA (onF_in hn0 hhl) fun b2 hb2=>?_;left;refine⟨b1,b2,_,_,rfl,hb1,hb2,hS.b.rl n hn0,rtp,?_⟩;by_cases c2:lv n<tp h
   .rw[gK c2];have st:stB D lv n h=false:=gL fun z=>hle.mp z.2 c2;left;refine⟨_,_,rfl,s4,ell3,?_⟩;rw[el3,etk,yE,aO (by rw[st];simp),dF,zY]
   .rw[gL c2];have st:stB D lv n h=true:=gK ⟨c,hle.mpr c2⟩;left;refine⟨_,_,rfl,qb6 s4 hl,by rw[qa7 nll];exact ell3,?_⟩;rw[qa1,etk,yE,cS st,zL];rfl
  .rw[gL c];have st:stB D lv n h=false:=gL fun z=>c z.1;left;refine qdy ?_;left;refine⟨_,_,rfl,s4,ell3,?_⟩;rw[el3,etk,yE,aO (by rw[st];simp),dF,zY]
 rintro σ H' ⟨w1,w2,rfl,sm',ell',el'⟩;rw[zA,zK] at el';left;exact q l H' sm' hl el'
theorem Dv.add{a b:Rat}(h:Dv N a)(h':Dv N b):Dv N (a+b):=by
 obtain⟨x,hx⟩:=h;obtain⟨y,hy⟩:=h';exact⟨x+y,by rw[aH,<-hx,<-hy];grind⟩
theorem sumQ_dv{N:Nat}{f:Str->Rat}:∀{l:List Str},(∀n∈l,Dv N (f n))->Dv N (qc8 l f)
 | [],_=>⟨0,by show(0:Rat)*_=_;rw[Rat.zero_mul];rfl⟩
 |n::l,h=>(h n (zG ..)).add (sumQ_dv fun m hm=>h m (zD _ hm))
theorem RdI.sh(ok:DlOk D){lf lv:Str->Rat}{M:Rat}{N:Nat}(I:RdI D [] lf lv M N){n:Str}(hn:n∈D.W0):0<=shQ D lv n/\shQ D lv n<=(D.wa n:Rat)/\(D.wa n:Rat)<=(B31:Rat):=by
 have h1:=(wtQ ok hn).1;obtain⟨h0,_,h2,_⟩:=I.st n hn (by simp);have h3:=qg3 ok hn;have a1:(D.wa n:Rat)<=(B31:Rat):=by
  have h:D.wa n<=((B31:Nat):Int):=ok.a1 n hn;rw[<-uX];exact_mod_cast h
 have p:(0:Rat)<=(D.wt n:Rat):=by grind
 have m1:=xN h0 p;have m2:=xN (show 0<=goQ D n-lv n by grind) p;unfold shQ;exact⟨m1,by grind,a1⟩
theorem LvB.of(ok:DlOk D){lf lv:Str->Rat}{M:Rat}{N:Nat}{rs:List Rnd}(I:RdI D [] lf lv M N)(R:RdsOk D [] lv N rs):LvB D lv:=by
 have n8:=nb8 (nb7 I.nb);have dv:∀n∈D.W0,Dv N (lv n):=fun n hn=>by
  obtain⟨r,hr,hn2⟩:=R.e n hn (by simp);rw[<-(R.m r hr n hn2).2.2];exact R.dv r hr
 have sv:∀n∈D.W0,Dv N (shQ D lv n):=fun n hn=>(dv n hn).ints _;have bb:=b31_0;refine⟨fun n hn=>(I.st n hn (by simp)).1,fun n hn=>?_,fun n hn=>?_,fun V nd sub h=>?_⟩
 .obtain⟨r,hr,hn2⟩:=R.e n hn (by simp);rw[<-(R.m r hr n hn2).2.2];exact R.rb r hr
 .obtain⟨a,b,c⟩:=I.sh ok hn;exact rb_of I.n0 n8 b31_le (sv n hn) (by grind) (by grind)
 .have h7:V.length<=7:=vJ (vN nd sub) ok.l8;have h7q:((V.length:Nat):Rat)<=7:=by exact_mod_cast h7
  have d:Dv N (toQ D lv V h):=sumQ_dv fun n hn=>by
   split
   .exact sv n (sub n hn)
   .exact⟨0,by rw[Rat.zero_mul];rfl⟩
  have lo:0<=toQ D lv V h:=qfn fun n hn=>by
   have:=(I.sh ok (sub n hn)).1
   split<;>grind
  have hi:toQ D lv V h<=((V.length:Nat):Rat)*(B31:Rat):=qgp fun n hn=>by
   obtain⟨a,b,c⟩:=I.sh ok (sub n hn)
   split<;>grind
  have m:=xN (show(0:Rat)<=7-((V.length:Nat):Rat) by grind) bb;refine rb_of (B:=10^36) I.n0 n8 ∅ d ?_ ?_<;>rw[qh4]<;>grind
theorem RdI.full{M:Rat}(I:RdI D [] lf lv M N)(h:Str):lf h=(D.rm h:Rat)-toQ D lv D.W0 h:=by
 rw[I.sum h]
 congr 1
 exact qc7 fun n hn=>by
  by_cases c:h∈D.ln n
  .rw[gJ ⟨by simp,c⟩,gJ c];rfl
  .rw[gI fun z=>c z.2,gI c]
open Classical in
noncomputable def papV(D:Dl)(lv:Str->Rat)(n:Str):V:=if shQ D lv n=(D.wa n:Rat) then .non else match (D.ln n).filter (stB D lv n) with
 |h::_=> .str h
 | []=> .non
theorem RdI.stop(ok:DlOk D){lf lv:Str->Rat}{M:Rat}{N:Nat}(I:RdI D [] lf lv M N){n:Str}(hn:n∈D.W0)(c:shQ D lv n≠(D.wa n:Rat)):∃h hs,(D.ln n).filter (stB D lv n)=h::hs/\papV D lv n=.str h:=by
 have hne:(D.ln n).filter (stB D lv n)≠ []:=by
  rcases(I.st n hn (by simp)).2.2.2 with e|⟨h,hl,b1,_,b3⟩
  .exact absurd (by unfold shQ;rw[e,qg3 ok hn]) c
  .refine List.ne_nil_of_mem (a:=h) (yA.mpr ⟨hl,gK ⟨?_,b3⟩⟩);have:=I.full h;grind
 cases e:(D.ln n).filter (stB D lv n) with
 |nil=>exact absurd e hne
 |cons h hs=>exact⟨h,hs,rfl,by unfold papV;rw[gI c,e]⟩
theorem FD.keys{kvs:List (Key×V)}(h:FD H kvs (qdv W g))(nd:W.Nodup):∃fs:List Str,kvs.map (·.1)=fs.map uH/\fs.Perm W:=by
 have ex:∃fs:List Str,kvs.map (·.1)=fs.map uH:=by
  have:=h.sh;clear h nd
  induction kvs with
  |nil=>exact⟨[],rfl⟩
  |cons p l ih=>
   obtain⟨fs,e⟩:=ih fun p hp=>this p (zD _ hp);obtain⟨z,a,q,e2,_⟩:=this p (zG ..);exact⟨z::fs,by rw[zV,e,e2];rfl⟩
 obtain⟨fs,e⟩:=ex;refine⟨fs,e,?_⟩;have nf:fs.Nodup:=by
  have:=h.nd;rw[e] at this;exact(aY.mp this).imp fun a b=>a (congrArg _ b)
 refine(cB nf nd).mpr fun z=>⟨fun hz=>?_,fun hz=>?_⟩
 .have h1:(uH z:Key)∈kvs.map (·.1):=by rw[e];exact zI.mpr ⟨z,hz,rfl⟩
  obtain⟨p,hp,e3⟩:=zI.mp h1;obtain⟨z',a,q,e2,_,e4⟩:=h.sh p hp;rw[e2] at e3;have:z'=z:=yR e3;subst this;unfold qdv at e4;by_cases c:z'∈W
  .exact c
  .rw[gI c] at e4;cases e4
 .obtain⟨a,e1,_⟩:=h.get z (g z) (gJ hz);have h1:(uH z:Key)∈kvs.map (·.1):=zI.mpr ⟨_,qgo e1,rfl⟩;rw[e] at h1;obtain⟨z',hz',e3⟩:=zI.mp h1;rw[<-yR e3];exact hz'
theorem FD.len{kvs:List (Key×V)}{V:List Str}(h:FD H kvs (qdv V g))(sub:∀n∈V,n∈W):kvs.length<=W.length:=by
 have h1:(kvs.map (·.1)).length<=(W.map (uH:Str->Key)).length:=vN h.nd fun k hk=>by
  obtain⟨p,hp,e3⟩:=zI.mp hk;obtain⟨z',a,q,e2,_,e4⟩:=h.sh p hp;unfold qdv at e4;by_cases c:z'∈V
  .rw[<-e3,e2];exact zI.mpr ⟨z',sub _ c,rfl⟩
  .rw[gI c] at e4;cases e4
 rwa [zA,zA] at h1
theorem RndAt.sb1{r:Rnd}{kvs:List (Key×V)}(h:RndAt H r)(eb:H b=some (.dK kvs))(s:SameBut b H H'):RndAt H' r:=by
 have hl:=h.l;unfold qbf at hl;exact⟨s _ _ (fun e=>by have:=h.t;rw[e,eb] at this;cases this) h.t,
  s _ _ (fun e=>by rw[e,eb] at hl;cases hl) hl,
  s _ _ (fun e=>by have:=h.n;rw[e,eb] at this;cases this) h.n⟩
theorem domQ_app{V:List Str}{n:Str} :qdv (V++[n]) g y=if y=n then some (g n) else qdv V g y:=by
 unfold qdv;by_cases c:y=n
 .rw[gJ c,gJ (by rw[c];simp),c]
 .rw[gI c];by_cases c2:y∈V
  .rw[gJ c2,gJ (zQ _ c2)]
  .rw[gI c2,gI fun z=>(zH.mp z).elim c2 fun h=>c (zE.mp h)]
def nsL(rs:List Rnd):List Str:=rs.flatMap fun r=>r.ns
structure EvAt(H:Hp)(D:Dl)(lv:Str->Rat)(W:List Str)(l:Addr)(as:List (Addr×Addr)):Prop where
 l:H l=some (.lst (as.map fun p=>V.ref p.1))
 n:as.length=W.length
 r:∀(i:Nat)(n:Str)(p:Addr×Addr),W[i]?=some n->as[i]?=some p->H p.1=some (.tup [.str n,.ref p.2,papV D lv n])/\qbf H p.2 (shQ D lv n)
theorem EvAt.app{tr:Addr}{as:List (Addr×Addr)}{n:Str}(h:EvAt H D lv W l as)(t:qb2 H H')(el:H' l=some (.lst ((as.map fun p=>V.ref p.1)++[V.ref tr])))(et:H' tr=some (.tup [.str n,.ref b,papV D lv n]))(ef:qbf H' b (shQ D lv n)):EvAt H' D lv (W++[n]) l (as++[(tr,b)]):=by
 refine⟨by rw[el,zL];rfl,by rw[zJ,zJ,h.n];rfl,fun i m p hm hp=>?_⟩;by_cases c:i<W.length
 .rw[xG c] at hm;rw[xG (by rw[h.n];exact c)] at hp;obtain⟨a1,a2⟩:=h.r i m p hm hp;exact⟨t _ _ a1,t _ _ a2⟩
 .rw[xE #[]] at hm;rw[xE (by rw[h.n];omega),h.n] at hp;have e0:i-W.length=0:=by
   have:=(uL.mp hm).1;rw[zT] at this;omega
  rw[e0] at hm hp;obtain rfl:n=m:=uQ hm;obtain rfl:(tr,b)=p:=uQ hp;exact⟨et,ef⟩
inductive sp_even(K:uS)(d:Ad)(vs:List V)(H:Hp)(Q:VK)(E:XK):Prop
 |mk(t dr dw:Addr)(wv:V)(S:Ts)(D:Dl)(HS:List Str)(kr kw:List (Key×V))(_:vs=[.ref t,.ref dr,.ref dw,wv])(_:DlOk D)(_:vX D.W0=true)(_:TrD d H t S D)(_:Wgh H S D wv)(_:H dr=some (.dK kr))(_:AD kr (qby HS D.rm))(_:HS.Nodup)(_:HS.length<=60)(_:H dw=some (.dK kw))(_:AD kw (qby D.W0 D.wa))(_:(∀n∈D.W0,∀h∈D.ln n,h∈HS))(_:∀(l:Addr)(as:List (Addr×Addr))(lf lv:Str->Rat)(M:Rat)(N:Nat) H',Same H H'->H l=none->RdI D [] lf lv M N->LvB D lv->EvAt H' D lv D.W0 l as->Q (.ref l) H')
include T in
theorem wi1:FnOk P w K mg base (My.CX1 P w) 10 d.wgj d.way ["tree","rooms","wants","weigh"] (sp_even K d):=by
 exists okDX T.wh8 w4m
 .right
 obtain⟨t,dr,dw,wv,S,D,HS,kr,kw,rfl,ok,srt,hT,hg,hr0,hrA,hsn,hsl,hw,hwA,hs,q⟩:=h;refine⟨_,(qa2 (qae (i:=4) w4m.nd rfl (uF rfl) (qav ((w73 T).mono ∅) hr rfl T.w8e T.w5d.kp T.w89 .nil qaq #[pv 0,pv 2,pv 3]))
  (qa2 (qae (i:=5) w4m.nd rfl (uF rfl) qb3)
  (qa2 (qb0 (qbi rfl rfl) rfl (qaw (qav ((wbu T).mono ∅) hr rfl T.wch T.w8y.kp T.wdi .nil qaq #[pv 0,pv 1,pv 2,pv 4])) (qab (i:=6) w4m.nd rfl (uF rfl)) (qa5 (qb0 (qbi rfl rfl) rfl (qaw (~~~6)) (qab (i:=7) w4m.nd rfl (uF rfl)) (qa5 (qbh (qat hr) (pv 5) (pv 7) (qav ((we5 T).mono ∅) hr rfl T.wgc T.wcm.kp T.wg2 .nil qaq #[~~~6,qbq #[pv 4|||pv 7,qa6]]) rfl)))))
  (qa2 (qae (i:=8) w4m.nd rfl (uF rfl) (qfe T.w83 ((w8a T).mono ∅) hr rfl T.whn T.w95 .nil qaq #[pv 0,pv 1,pv 5,pv 4]))
  (qa2 (qae (i:=9) w4m.nd rfl (uF rfl) (qbb qa3))
  (qa2 (qb0 (qbi rfl rfl) rfl (qaw (qag (qcc rfl) rfl T.w33 wB #[pv 2])) (qab (i:=7) w4m.nd rfl (uF rfl)) (qa2 (qae (i:=10) w4m.nd rfl (uF rfl) (pe_ifExp (qai (op_eqD (hu8 hr)) (pv 5|||pv 7) (qbq #[pv 2|||pv 7,qa6]) (qar _)) qck (qal qax (qb1 (pv 8) T.w2g T.w0p ((w4u T).mono ∅) hr T.w5l .nil qaq #[pv 7]) qa6 nofun)))
  (qa5 (qbn (qf7 vT wC wD qc0 (pv 9) #[qbq #[pv 7,pv 5|||pv 7,pv 10]])))))
  (qa5 (qad (pv 9))))))))),?_⟩
 walk_at"d"
 try dsimp only[cxC]
 refine qac (σ:=[sr t,sr dr,sr dw,some (wv),none,none,none,none,none,none,none]) rfl ?_;have cl:=T.w2g;have l8:=ok.l8;have kp:=qdb hwA ok.nd;left;refine⟨t,dw,wv,S,D,kw,rfl,ok,srt,hT,hg,hw,hwA,fun lg kg H1 s1 flg elg hgA=>?_⟩;left;rename_i ds hds;have s2:=s1.trans (qa4 hds (.dK []));have eds:upd H1 ds (.dK []) ds=some (.dK []):=qa1;have elg2:=qaa (o':=.dK []) elg hds;have fds:=s1.free hds;have ngs:lg≠ds:=fun e=>by subst e;rw[elg] at hds;cases hds
 have ngw:lg≠dw:=fun e=>by subst e;rw[flg] at hw;cases hw
 generalize upd H1 ds (.dK [])=H2 at*;clear hds elg s1;refine⟨t,dr,dw,lg,S,D,HS,kr,kw,kg,rfl,ok,srt,hT.same s2,s2 _ _ hr0,hrA,hsn,hsl,s2 _ _ hw,hwA,elg2,hgA,ngw,hs,fun lt rs lf lv M N H3 s3 flt elt hrs I R=>?_⟩;have hB:=LvB.of ok I R;have eds3:=s3 _ _ eds;have elg3:=s3 _ _ elg2;have sm3:=s2.trans s3;have nts:lt≠ds:=fun e=>by subst e;rw[eds3] at elt;cases elt
 clear s3 s2 eds elg2 flt;have hmem:∀n,n∈nsL rs↔n∈D.W0:=fun n=>by
  constructor
  .intro h;obtain⟨r,hr,hn⟩:=cT.mp h;exact(R.m r hr n hn).1
  .intro h;obtain⟨r,hr,hn⟩:=R.e n h (by simp);exact cT.mpr ⟨r,hr,hn⟩
 have hmt:∀i,∀n∈nsL (rs.take i),n∈D.W0:=fun i n h=>by
  obtain⟨r,hr,hn⟩:=cT.mp h;exact(R.m r (yB hr) n hn).1
 left;refine qbs (xs:=rs.map fun r=>V.ref r.a) (fun i σ H'=>∃(ks:List (Key×V))(w1 w2:Option V),σ=[sr t,sr dr,sr dw,some wv,sr lg,sr ds,w1,w2,none,none,none]/\SameBut ds H3 H'/\H' ds=some (.dK ks)/\FD H' ks (qdv (nsL (rs.take i)) (shQ D lv))) ⟨[],none,none,rfl,fun b u _ e=>e,eds3,FD.nil.cast fun z=>rfl⟩ ?_ ?_ ?_
 .rintro i σ H' _ ⟨ks,w1,w2,rfl,sb,_⟩;exact SqL.of (sb _ _ nts elt)
 .rintro i v σ H' hv ⟨ks,w1,w2,rfl,sb,ed,hF⟩;rw[zC] at hv;obtain⟨r,hr,rfl⟩:=uI.mp hv;have hrm:=zF hr;have hR:=(hrs r hrm).sb1 eds3 sb;have ert:=hR.t;have ern:=hR.n;have etk:nsL (rs.take (i+1))=nsL (rs.take i)++r.ns:=by
   unfold nsL;rw[zO,hr];show(rs.take i++[r]).flatMap _=_;rw[List.flatMap_append,List.flatMap_cons,List.flatMap_nil,zY]
  clear hv;left;refine qbs (xs:=r.ns.map V.str) (fun j σ Hx=>∃(k':List (Key×V))(w2:Option V),σ=[sr t,sr dr,sr dw,some wv,sr lg,sr ds,sr r.a,w2,none,none,none]/\SameBut ds H3 Hx/\Hx ds=some (.dK k')/\FD Hx k' (qdv (nsL (rs.take i)++r.ns.take j) (shQ D lv))) ⟨ks,w2,rfl,sb,ed,hF.cast fun z=>by rw[List.take_zero,zY]⟩ ?_ ?_ ?_
  .rintro j σ Hx _ ⟨k',w2,rfl,sb',_⟩;exact SqL.of ((hrs r hrm).sb1 eds3 sb').n
  .rintro j v σ Hx hv ⟨k',w2,rfl,sb',ed',hF'⟩;rw[zC] at hv;obtain⟨n,hn,rfl⟩:=uI.mp hv;have hnr:=zF hn;obtain⟨hn0,_,eL⟩:=R.m r hrm n hnr;have hR':=(hrs r hrm).sb1 eds3 sb';have ert':=hR'.t;have hL:=hR'.l;have gw:qby D.W0 D.wt n=some (D.wt n):=qbe hn0;have hRg:Rd Hx lg (.dK kg):=.inl (sb' _ _ ngs elg3);have wa1:=ok.w1 n hn0;have wa2:=ok.w2 n hn0;have kl:=hF'.len (W:=D.W0) fun m hm=>by
    rcases zH.mp hm with h1|h1
    .exact hmt i m h1
    .exact(R.m r hrm m (yB h1)).1
   have zl:k'.length<sizeLine:=by show _<16777216;omega
   have rbL:=R.rb r hrm;have etk2:r.ns.take (j+1)=r.ns.take j++[n]:=by rw[zO,hn];rfl
   clear hv hF hR ert ern ed hB;left;rename_i tp1 htp1;have s5:=qa4 htp1 (.tup [V.int (D.wt n),V.int 1]);have hfr5:qbf (upd Hx tp1 (.tup [V.int (D.wt n),V.int 1])) tp1 ((D.wt n:Int):Rat):=qde qa1;generalize upd Hx tp1 (.tup [V.int (D.wt n),V.int 1])=H5 at*;refine⟨r.la,tp1,_,_,rfl,hL.same s5,hfr5,rbL,qfp (vF (show(D.wt n).natAbs<=1000 by omega) ∅),fun sa hsa=>?_⟩;have esh:r.L*((D.wt n:Int):Rat)=shQ D lv n:=by rw[eL];rfl
   have esh:(fun a b:Rat=>a*b) r.L ((D.wt n:Int):Rat)=shQ D lv n:=esh;rw[esh];have s6:=s5.trans (qa4 hsa (frO (shQ D lv n)));have hl6:qbf (upd H5 sa (frO (shQ D lv n))) sa (shQ D lv n):=qa1;generalize upd H5 sa (frO (shQ D lv n))=H6 at*;have ed6:=s6 _ _ ed';clear s5 hfr5 hsa htp1;left;have t6:qb2 H6 (upd H6 ds (.dK (qbp k' (uH n) (.ref sa)))):=qb2.upd ed6 fun xs e=>by cases e
   refine⟨_,_,rfl,fun b u hb e=>by rw[qa7 hb];exact s6 _ _ (sb' b u hb e),qa1,(((hF'.t (qb2.of s6)).put n hl6).t t6).cast fun y=>?_⟩;rw[etk2,<-cG,domQ_app]
  .rintro σ Hx ⟨k',w2,rfl,sb',ed',hF'⟩;rw[zA,zK] at hF';exact⟨k',_,_,rfl,sb',ed',by rw[etk];exact hF'⟩
 rintro σ H4 ⟨ks,w1,w2,rfl,sb,ed,hF⟩;rw[zA,zK] at hF;have hF:FD H4 ks (qdv D.W0 (shQ D lv)):=hF.cast fun z=>by
  unfold qdv;by_cases c:z∈D.W0
  .rw[gJ c,gJ ((hmem z).mpr c)]
  .rw[gI c,gI fun h=>c ((hmem z).mp h)]
 have s4:Same H H4:=fun b u e=>sb b u (fun z=>by subst z;rw[fds] at e;cases e) (sm3 b u e);have elg4:=sb _ _ ngs elg3;clear sb eds3 elg3 elt hrs sm3 hmem hmt nts R;left;intro x dx hx hdx ndx;have sH:Same H4 (upd (upd H4 dx (.own x)) x (.ins d.w02 dx [])):=(qa4 hdx _).trans (qa4 (by rw[qa7 ndx.symm];exact hx) _);have hTo:upd (upd H4 dx (.own x)) x (.ins d.w02 dx []) x=some (.ins d.w02 dx []):=qa1;have hx0:=s4.free hx;generalize upd (upd H4 dx (.own x)) x (.ins d.w02 dx [])=H5 at*;refine⟨x,dx,t,dr,ds,lg,S,D,lv,ks,kg,rfl,hTo,ok,⟨H,s4.trans sH,hx0,fds,hT⟩,hB,sH _ _ ed,hF.t (qb2.of sH),hF.keys ok.nd,sH _ _ elg4,hgA,ngs,fun dlv dto dtp klv kto ktp tp H6 sb6 ex6 elv6 hlv6 eto6 hto6 etp6 htp6 hTp fdlv fdto fdtp=>⟨rfl,?_⟩⟩;have s6:Same H4 H6:=fun b u e=>sb6 b u (fun z=>by subst z;rw[hx] at e;cases e) (sH b u e);have s06:=s4.trans s6;have hS:SmAt d H6 x t dr dlv dto dtp S D HS kr klv kto ktp lv tp:=⟨⟨dx,ex6⟩,hT.same s06,s06 _ _ hr0,hrA,elv6,hlv6,eto6,hto6,etp6,htp6,hTp,hB,hs⟩;have ed6:=s6 _ _ ed;have hF6:=hF.t (qb2.of s6);clear sb6 ex6 elv6 hlv6 eto6 hto6 etp6 htp6 fdlv fdto fdtp hTo sH hx hdx ed hF s4 s6 elg4;left;rename_i l hl;have s7:=qa4 hl (.lst []);have el7:upd H6 l (.lst []) l=some (.lst []):=qa1;have hl0:=s06.free hl;generalize upd H6 l (.lst [])=H7 at*;refine qe3 (ss:=qc2 kw) (.inl (s7 _ _ (s06 _ _ hw))) hwA.keys (by have:=kp.length_eq;omega) fun ls ss hls hp hss=>?_;have ess:ss=D.W0:=qew (hp.trans kp) hss srt;subst ess;have s8:=s7.trans (qa4 hls (.lst (D.W0.map V.str)));have els:upd H7 ls (.lst (D.W0.map V.str)) ls=some (.lst (D.W0.map V.str)):=qa1;have el8:=qaa (o':=.lst (D.W0.map V.str)) el7 hls;have nls:ls≠l:=fun e=>by subst e;rw[el7] at hls;cases hls
 generalize upd H7 ls (.lst (D.W0.map V.str))=H8 at*;clear el7 s7 hls hp hss;left;refine qbs (xs:=D.W0.map V.str) (fun i σ H'=>∃(as:List (Addr×Addr))(w1 w2 w3:Option V),σ=[sr t,sr dr,sr dw,some wv,sr lg,sr ds,w1,w2,sr x,sr l,w3]/\Same H6 H'/\H' ls=some (.lst (D.W0.map V.str))/\EvAt H' D lv (D.W0.take i) l as) ⟨[],_,_,none,rfl,s8,els,el8,rfl,fun i n p h=>by simp at h⟩ ?_ ?_ ?_
 .rintro i σ H' _ ⟨as,w1,w2,w3,rfl,_,e,_⟩;exact SqL.of e
 .rintro i v σ H' hv ⟨as,w1,w2,w3,rfl,s',els',hE⟩;rw[zC] at hv;obtain⟨n,hn,rfl⟩:=uI.mp hv;have hi:=(uL.mp hn).1;have hn0:=zF hn;have etk:D.W0.take (i+1)=D.W0.take i++[n]:=by rw[zO,hn];rfl
  have gw:qby D.W0 D.wa n=some (D.wa n):=qbe hn0;have hRw:Rd H' dw (.dK kw):=.inl (s' _ _ (s06 _ _ hw));have hRs:Rd H' ds (.dK ks):=.inl (s' _ _ ed6);have hF':=hF6.t (qb2.of s');have el':=hE.l;have zl:(as.map fun p=>V.ref p.1).length<sizeLine:=by rw[zA,hE.n,zS];show _<16777216;omega
  clear hv;left;refine qed hRs hF' (qcj hn0) fun b hb=>?_;left;rename_i tp1 htp1;have hb1:=hb;unfold qbf at hb1;have nb:b≠tp1:=fun z=>by subst z;rw[htp1] at hb1;cases hb1
  have s3:=qa4 htp1 (.tup [V.int (D.wa n),V.int 1]);have hfr:qbf (upd H' tp1 (.tup [V.int (D.wa n),V.int 1])) tp1 ((D.wa n:Int):Rat):=qde qa1;generalize upd H' tp1 (.tup [V.int (D.wa n),V.int 1])=H9 at*;refine r_eqD nb ∅ (deq_fr (s3 _ _ hb) hfr nb) ?_;have s9:=s'.trans s3;have el9:=s3 _ _ el';have els9:=s3 _ _ els';have t9:=qb2.of s3;clear hb hb1 hfr htp1 nb hRw hRs hF' s' el' els';by_cases c:shQ D lv n=(D.wa n:Rat)
  .rw[gK c];have ep:papV D lv n=.non:=by unfold papV;rw[gJ c]
   left;refine qed (.inl (s9 _ _ ed6)) (hF6.t (qb2.of s9)) (qcj hn0) fun b2 hb2=>?_;left;rename_i tr htr;have nl:tr≠l:=fun z=>by subst z;rw[el9] at htr;cases htr
   have s10:=qa4 htr (.tup [.str n,.ref b2,.non]);refine⟨as++[(tr,b2)],_,_,_,rfl,qb6 (s9.trans s10) hl,by rw[qa7 nls];exact s10 _ _ els9,?_⟩;rw[etk];have t11:qb2 (upd H9 tr (.tup [.str n,.ref b2,.non])) (upd (upd H9 tr (.tup [.str n,.ref b2,.non])) l (.lst ((as.map fun p=>V.ref p.1)++[V.ref tr]))):=qb2.upd (s10 _ _ el9) fun xs e=>by cases e
   exact hE.app (t9.trans ((qb2.of s10).trans t11)) qa1 (by rw[qa7 nl,qa1,ep]) (t11 _ _ (s10 _ _ hb2))
  .rw[gL c];obtain⟨h,hs2,e1,ep⟩:=I.stop ok hn0 c;have hS9:=hS.same s9;obtain⟨dx',ho9⟩:=hS9.ob;left;refine⟨x,t,dr,dlv,dto,dtp,S,D,HS,kr,klv,kto,ktp,lv,tp,n,rfl,ok,hS9,hn0,fun lh H10 s10 flh elh=>?_⟩;rw[e1] at elh;have elh:H10 lh=some (.lst (V.str h::hs2.map V.str)):=elh;have s9':=s9.trans s10;have el10:=s10 _ _ el9;have els10:=s10 _ _ els9;clear hS9 ho9 flh;left;refine qce (v:=.str h) (SqL.of elh) (qbu (j:=0) rfl) ?_;left;refine qed (.inl (s9' _ _ ed6)) (hF6.t (qb2.of s9')) (qcj hn0) fun b2 hb2=>?_;left;rename_i tr htr;have nl:tr≠l:=fun z=>by subst z;rw[el10] at htr;cases htr
   have s11:=qa4 htr (.tup [.str n,.ref b2,.str h]);refine⟨as++[(tr,b2)],_,_,_,rfl,qb6 (s9'.trans s11) hl,by rw[qa7 nls];exact s11 _ _ els10,?_⟩;rw[etk];have t11:qb2 (upd H10 tr (.tup [.str n,.ref b2,.str h])) (upd (upd H10 tr (.tup [.str n,.ref b2,.str h])) l (.lst ((as.map fun p=>V.ref p.1)++[V.ref tr]))):=qb2.upd (s11 _ _ el10) fun xs e=>by cases e
   exact hE.app (t9.trans ((qb2.of s10).trans ((qb2.of s11).trans t11))) qa1 (by rw[qa7 nl,qa1,ep]) (t11 _ _ (s11 _ _ hb2))
 rintro σ H' ⟨as,w1,w2,w3,rfl,s',_,hE⟩;rw[zA,zK] at hE;left;exact q l as lf lv M N H' (s06.trans s') hl0 I hB hE
structure Bt(S:Ts)(nm:Nat->Str)(el:Nat->Nat)(n:Nat)(wt:Nat->Int):Prop where
 pl:Pl S nm el n
 no:∀e∈S.hl,(∀y,e.x.fp y=none)/\∀y,e.x.fc y=none
 w:∀(k:Nat)(e:He),S.hl[k]?=some e->e.x.w=wt k
 ws:S.ws.length<=6
def posF_no(y:Str):qdi noF y=none:=rfl
theorem addF_no{g:Str->Option Int}(hf:∀y,f y=none)(hg:∀y,g y=none)(y:Str):qh6 f g y=none:=by
 unfold qh6;rw[hg y];exact hf y
theorem sumF_no:∀(ts:List Pt)(f:Str->Option Int),(∀t∈ts,∀y,t.f y=none)->(∀y,f y=none)->∀y,ts.foldl (fun f t=>qh6 f t.f) f y=none
 | [],f,_,hf,y=>hf y
 |t::ts,f,h,hf,y=>sumF_no ts (qh6 f t.f) (fun t' ht=>h t' (zD _ ht)) (fun z=>addF_no hf (h t (zG ..)) z) y
section
variable{S:Ts}{nm:Nat->Str}{el:Nat->Nat}{k:Nat}{wt:Nat->Int}
theorem Bt.one(h1:S.hl=[e])(en:e.n=nm 0)(ee:e.x.el=none)(ew:e.x.w=wt 0)(ep:∀v,e.x.fp v=none)(ec:∀v,e.x.fc v=none)(ws:S.ws.length<=6):Bt S nm el 1 wt:=by
 have split:∀(i:Nat)(e':He),S.hl[i]?=some e'->i=0/\e'=e:=fun i e' he=>by
  rw[h1] at he;have:=(uL.mp he).1;rw[zT] at this;obtain rfl:i=0:=by omega
  exact⟨rfl,(uQ he).symm⟩
 refine⟨⟨by rw[h1];rfl,fun i e' he=>?_,fun i j hi hj _=>by omega,fun i a b=>by omega⟩,fun e' he=>?_,fun i e' he=>?_,ws⟩
 .obtain⟨rfl,rfl⟩:=split i e' he;exact⟨en,ee⟩
 .rw[h1] at he;rw[zE.mp he];exact⟨ep,ec⟩
 .obtain⟨rfl,rfl⟩:=split i e' he;exact ew
theorem Bt.next(h:Bt S nm el k wt)(k0:0<k)(inj:∀i j,i<k+1->j<k+1->nm i=nm j->i=j)(low:el k<k){e2:He}(en:e2.n=nm k)(ee:e2.x.el=some (nm (el k)))(ew:e2.x.w=wt k)(ep:∀v,e2.x.fp v=none)(ec:∀v,e2.x.fc v=none):
  Bt {S with hl:=S.hl++[e2]} nm el (k+1) wt:=by
 have hl:=h.pl.len;have split:∀(i:Nat)(e:He),(S.hl++[e2])[i]?=some e->(i<k/\S.hl[i]?=some e)\/(i=k/\e=e2):=fun i e he=>by
  rcases bW i S.hl.length with c|c
  .rw[xG c] at he;exact .inl ⟨#[],he⟩
  .have:=(uL.mp he).1;rw[zJ,zT] at this;have ei:i=S.hl.length:=by omega
   rw[xE c,ei,Nat.sub_self] at he;exact .inr ⟨#[],by simpa using he.symm⟩
 refine⟨⟨by show(S.hl++[e2]).length=_;rw[zJ,hl];rfl,fun i e he=>?_,inj,fun i i0 ik=>?_⟩,fun e he=>?_,fun i e he=>?_,h.ws⟩
 .rcases split i e he with⟨a,b⟩|⟨rfl,rfl⟩
  .exact h.pl.nam i e b
  .exact⟨en,by rw[gI #[]];exact ee⟩
 .by_cases c:i=k
  .rw[c];exact low
  .exact h.pl.low i i0 #[]
 .rcases zH.mp he with h1|h1
  .exact h.no e h1
  .rw[zE.mp h1];exact⟨ep,ec⟩
 .rcases split i e he with⟨a,b⟩|⟨rfl,rfl⟩
  .exact h.w i e b
  .exact ew
theorem Bt.ask(h:Bt S nm el k wt)(k0:0<k)(k9:k<=9)(inj:∀i j,i<k+1->j<k+1->nm i=nm j->i=j)(lk:el k<k):∃e,S.at (nm (el k))=some e/\e.n=nm (el k)/\WF S/\qh8 S/\S.ws.length<=50/\S.hl.length<40/\S.at (nm k)=none/\
  ∃zs,LineOf S e.n zs/\zs.length<12/\∀y∈zs,∃e',S.at y=some e'/\Dep S 12 y/\∀bs,Ben S 12 y bs->∀v n,qh6 (sumF (bs.map (ptOf S))) (qdi noF) v=some n->n<=gN e'.x.fc v:=by
 have low:=h.pl.low;have h6:=h.ws;obtain⟨e,h1,h2,h3⟩:=h.pl.at lk;have en:e.n=nm (el k):=(qd7 h1).2;refine⟨e,h1,en,h.pl.wf,⟨#[],fun e' he z hz=>absurd ((h.no e' he).1 z) hz⟩,#[],by rw[h.pl.len];omega,?_,(qc1 el (el k)).map nm,by rw[en];exact h.pl.line _ lk,?_,fun y hy=>?_⟩
 .cases c:S.at (nm k) with
  |none=>rfl
  |some e'=>
   obtain⟨i,hi,_,q,_⟩:=h.pl.ix (qd7 c).1;have:=inj i k #[] #[] (by rw[<-q,(qd7 c).2]);omega
 .rw[zA];have hl:=qfw low (el k) lk;omega
 .obtain⟨j,hj,rfl⟩:=zI.mp hy;have jl:=qcu low (el k) lk j hj;have jk:j<k:=by omega
  obtain⟨e',q1,q2,_⟩:=h.pl.at jk;refine⟨e',q1,h.pl.dep 12 j jk #[],fun bs hb v n hn=>?_⟩;have z:qh6 (sumF (bs.map (ptOf S))) (qdi noF) v=none:=addF_no (fun y=>sumF_no _ _ (fun t ht y=>by
   obtain⟨b,_,rfl⟩:=zI.mp ht
   cases c:S.at b with
   |none=>unfold ptOf;rw[c];rfl
   |some e2=>rw[qgu c];exact(h.no e2 (qd7 c).1).1 y) (fun _=>rfl) y) posF_no v
  rw[z] at hn
  cases hn
theorem Bt.found{K:uS}{d:Ad}{H:Hp}{t p1 p2:Addr}{Q:VK}{E:XK}(h:Bt S nm el k wt)(hT:qf9 d H t S)(k0:0<k)(k9:k<=9)(inj:∀i j,i<k+1->j<k+1->nm i=nm j->i=j)(lk:el k<k)(gz:qf0 (nm k)=true)(e1:H p1=some (.dK []))(e2:H p2=some (.dK []))(w1:1<=wt k)(w2:wt k<=1000)
  (q:∀(e2:He) H',SameBut S.hs H H'->qf9 d H' t {S with hl:=S.hl++[e2]}->Bt {S with hl:=S.hl++[e2]} nm el (k+1) wt->Q .non H'):w72 K d [.ref t,.str (nm k),.str (nm (el k)),.ref p1,.ref p2,.int (wt k)] H Q E:=by
 obtain⟨e,ae,een,hW,hOw,hw50,h40,nk,line⟩:=h.ask k0 k9 inj lk;have fn:∀ws,Fin ws noF:=fun ws z n e=>by cases e
 refine⟨t,p1,p2,S,nm k,.str (nm (el k)),[],[],noF,noF,wt k,rfl,hT,gz,nk,.inl ⟨_,rfl⟩,fun hn=>?_,fun e' he'=>?_⟩
 .rw[show who S (.str (nm (el k)))=some e from ae] at hn;cases hn
 .have ee':e=e':=uQ (ae.symm.trans he');subst ee';exact⟨hW,hOw,hw50,e1,AD.nil,∅,e2,AD.nil,∅,fn _,fn _,w1,w2,h40,line,fun y=>Int.le_refl _,fun e3 H' sb f1 f2 f3 hT' n1 n2 n3 n4 n5=>q e3 H' sb hT' (h.next k0 inj lk n1 (by rw[n2,een]) n3 n4 n5)⟩
end
def wbq(K:uS)(d:Ad):Sp:=fun vs H Q _=>∃i j:Int,vs=[.int i,.int j]/\0<=j/\Q (.int (gcdI i j)) H
include T in
theorem wce:FnOk P w K mg base CX0 1 d.w6q d.w5n ["_law_one","_law_other"] (wbq K d):=by
 exists T.w9l.ok w8i
 .right
 obtain⟨i,j,rfl,j0,q⟩:=h;exists (qa2 (qef vH (qai op_ne (pv 1) qa6 (qar _)) (qa5 (ps_par (i:=0) (j:=1) rfl w8i.nd rfl rfl ∅ rfl rfl #[pv 1,qah qb5 (pv 0) (pv 1)] rfl)))
  (qa5 (qad (qag qg9 rfl T.wi0 dL #[pv 0])))),[some (.int i),some (.int j)];left;refine qe7 (fun σ H'=>H'=H/\∃(g t:Int),σ=[some (.int g),some (.int t)]/\0<=t/\wS g t=wS i j) (fun σ _=>meas 1 σ) ?_ ?_ ?_
 .exact⟨rfl,_,_,rfl,j0,rfl⟩
 .rintro σ H1 ⟨rfl,g,t,rfl,ht,e⟩;left;refine i_n2 (fun c=>?_) (fun c=>?_)
  .have c:0<t:=by omega
   left;refine⟨⟨rfl,_,_,rfl,uT _ #[],?_⟩,?_⟩
   .rw[gcd_step g t c];exact e
   .show(g%t).toNat<t.toNat;have:=vB g c;have:=uT g (show t≠0 by omega);omega
  .subst c;left;have e2:(if g<0 then -g else g)=gcdI i j:=by
    rw[Int.gcd_zero_right] at e;unfold gcdI;rw[<-e];split<;>omega
   rw[e2];exact q
 .rintro σ H1 Q1 Q2 h ⟨v,e,e1,k,e2,q⟩;exact⟨v,e,e1,k,e2,h _ _ q⟩
structure Sc(sc:Int):Prop where
 lo:1<=sc
 hi:sc<=10^27
theorem Sc.abs(h:Sc sc):sc.natAbs<2^600:=by
 have h1:=h.lo;have h2:=h.hi;have:sc.natAbs<=10^27:=by omega
 exact vF this ∅
structure InB(B v:Int):Prop where
 lo:0<=v
 hi:v<=B
def wic(K:uS)(d:Ad):Sp:=fun vs H Q _=>∃r sc:Int,vs=[.int r,.int sc]/\0<=r/\Sc sc/\∀(v:Int) H',InB (10^30) v->Same H H'->Q (.int v) H'
def why(K:uS)(d:Ad):Sp:=fun vs H Q _=>∃r sc:Int,vs=[.int r,.int sc]/\0<=r/\Sc sc/\∀(v:Int) H',InB (10^31) v->Same H H'->Q (.int v) H'
theorem men3{m:Int}(h:m∈ [(0:Int),0,1]):0<=m/\m<=1:=by simp only[zP,yD,or_false] at h;omega
theorem in_want{u m:Int}(h:Sc sc)(u0:0<=u)(u1:u<13)(hm:0<=m/\m<=1):InB (10^30) (u*sc+m):=by
 have h1:=Int.mul_le_mul (show u<=12 by omega) h.hi (by have:=h.lo;omega) ∅;have h2:=Int.mul_nonneg u0 (show 0<=sc by have:=h.lo;omega);have h3:(12:Int)*10^27+1<=10^30:=∅
 exact⟨#[],#[]⟩
theorem in_room{u m:Int}(h:Sc sc)(u0:0<=u)(u1:u<30)(hm:0<=m/\m<=1):InB (10^31) (u*sc+m):=by
 have h1:=Int.mul_le_mul (show u<=29 by omega) h.hi (by have:=h.lo;omega) ∅;have h2:=Int.mul_nonneg u0 (show 0<=sc by have:=h.lo;omega);have h3:(29:Int)*10^27+1<=10^31:=∅
 exact⟨#[],#[]⟩
include T in
theorem whx:FnOk P w K mg base CX0 1 d.wfu d.wdv ["_law_number","_law_scale"] (wic K d):=by
 exists T.whi.ok wie
 .right
 obtain⟨r,sc,rfl,r0,hsc,q⟩:=h;exists (qa2 (qb4 (qai qel (qah qb5 (pv 0) qa6) qa6 (qar _)) (qa5 (qad (qah op_pow qa6 qa6))) qak)
  (qa5 (qad (qah qbx (qah qbc (qah qb5 (qah qbl (pv 0) qa6) qa6) (pv 1)) (qal qax (qbb #[qa6,qa6,qa6]) (qah qb5 (qah qbl (pv 0) qa6) qa6) nofun))))),[some (.int r),some (.int sc)];left;refine i_2 (fun c=>?_) (fun c=>?_)
 .left;exact q _ _ ⟨∅,∅⟩ fun _ _ e=>e
 .have u0:=uT (r.fdiv 7) (show(13:Int)≠0 by decide);have u1:=vB (r.fdiv 7) (show(0:Int)<13 by decide);generalize eu:r.fdiv 7%13=u at*;have nu:u.natAbs<2^600:=vF (show u.natAbs<=1000 by omega) ∅;have ns:=hsc.abs;have m0:=uT (r.fdiv 91) (show(3:Int)≠0 by decide);have m1:=vB (r.fdiv 91) (show(0:Int)<3 by decide);generalize em:r.fdiv 91%3=m at*;have hv:∀x:Int,0<=x/\x<=1->_:=fun x hx=>in_want hsc u0 u1 hx;clear u0 u1 r0;left;rw[eu];left;rename_i p hp;rw[em];refine r_menu (xs:=[0,0,1]) (SqL.of qa1) m0 m1 fun x hx=>?_;clear m0 m1 em eu nu ns;left;exact q _ _ (hv x (men3 hx)) (qa4 hp _)
include T in
theorem whz:FnOk P w K mg base CX0 1 d.wf9 d.wcs ["_law_number","_law_scale"] (why K d):=by
 exists T.whh.ok whv
 .right
 obtain⟨r,sc,rfl,r0,hsc,q⟩:=h;exists (qa2 (qb4 (qai qel (qah qb5 (pv 0) qa6) qa6 (qar _)) (qa5 (qad (qah op_pow qa6 qa6))) qak)
  (qa5 (qad (qah qbx (qah qbc (qah qb5 (qah qbl (pv 0) qa6) qa6) (pv 1)) (qal qax (qbb #[qa6,qa6,qa6]) (qah qb5 (qah qbl (pv 0) qa6) qa6) nofun))))),[some (.int r),some (.int sc)];left;refine i_2 (fun c=>?_) (fun c=>?_)
 .left;exact q _ _ ⟨∅,∅⟩ fun _ _ e=>e
 .have u0:=uT (r.fdiv 4) (show(30:Int)≠0 by decide);have u1:=vB (r.fdiv 4) (show(0:Int)<30 by decide);generalize eu:r.fdiv 4%30=u at*;have nu:u.natAbs<2^600:=vF (show u.natAbs<=1000 by omega) ∅;have ns:=hsc.abs;have m0:=uT (r.fdiv 120) (show(3:Int)≠0 by decide);have m1:=vB (r.fdiv 120) (show(0:Int)<3 by decide);generalize em:r.fdiv 120%3=m at*;have hv:∀x:Int,0<=x/\x<=1->_:=fun x hx=>in_room hsc u0 u1 hx;clear u0 u1 r0;left;rw[eu];left;rename_i p hp;rw[em];refine r_menu (xs:=[0,0,1]) (SqL.of qa1) m0 m1 fun x hx=>?_;clear m0 m1 em eu nu ns;left;exact q _ _ (hv x (men3 hx)) (qa4 hp _)
def wh5(K:uS)(d:Ad):Sp:=fun vs H Q _=>∃r:Int,vs=[.int r]/\Q (.bl true) H
include T in
theorem we1:FnOk P w K mg base CX0 1 d.wdb d.waq ["_law_found"] (wh5 K d):=by
 exists T.wdc.ok wgu
 .right
 obtain⟨r,rfl,q⟩:=h;exists qa5 (qad (qej (qag qbm rfl T.w07 vE #[pv 0,qca (v:=.ty "int") rfl T.whr dJ rfl]) (qei (pe_not (qag qbm rfl T.w07 vE #[pv 0,qca (v:=.ty "bool") rfl T.wfp dB rfl]))))),[some (.int r)];left;exact q
def iV(e:Nat):V:=.int (e:Int)
def elN(es:List Nat)(k:Nat):Nat:=(es[k-1]?).getD 0
def oV:Option Nat->V
 |none=> .non
 |some a=> .int (a:Int)
def restL(el:Nat->Nat):Option Nat->List Nat
 |none=> []
 |some a=>qc1 el a
def wid(K:uS)(d:Ad):Sp:=fun vs H Q _=>∃(le:Addr)(es:List Nat)(k:Nat),vs=[.ref le,.int (k:Int)]/\H le=some (.lst (.non::es.map iV))/\(∀(k e:Nat),es[k]?=some e->e<=k)/\k<=es.length/\es.length<=12/\
 ∀l,H l=none->Q (.ref l) (upd H l (.lst ((qc1 (elN es) k).map iV)))
def elN_low(lo:∀(k e:Nat),es[k]?=some e->e<=k)(n:Nat):Low (elN es) n:=fun k k0 kn=>by
 unfold elN
 cases e:es[k-1]? with
 |none=>exact k0
 |some a=>have:=lo _ _ e;show a<k;omega
theorem elN_at{b:Nat}(hb:b<es.length):elN es (b+1)=es[b]:=by unfold elN;rw[Nat.add_sub_cancel,zB hb];rfl
def meas3(σ:L2.St):Nat:=match σ[3]? with
 |some (some (V.int a))=>a.toNat+1
 |_=>0
include T in
theorem wg1:FnOk P w K mg base CX0 1 d.wfi d.wdx ["_law_elders","_law_k"] (wid K d):=by
 exists T.wft.ok wb3
 .right
 obtain⟨le,es,k,rfl,hE,lo,hk,h12,q⟩:=h;have low:=elN_low lo (es.length+1);exists (qa2 (qae (i:=2) wb3.nd rfl (uF rfl) (qbb qa3))
  (qa2 (qae (i:=3) wb3.nd rfl (uF rfl) (pv 1))
  (qa2 (qef vH (qai qek (pv 3) qck (qar _)) (qa2 (qbn (qf7 vT wC wD qc0 (pv 2) #[pv 3]))
  (qa5 (qae (i:=3) wb3.nd rfl (uF rfl) (qal qax (pv 0) (pv 3) nofun)))))
  (qa5 (qad (pv 2)))))),[sr le,some (.int (k:Int)),none,none];generalize hki:((k:Nat):Int)=ki;left;rename_i l hl;refine qe7 (fun σ H'=>∃(done:List Nat)(o:Option Nat),σ=[sr le,some (.int ki),sr l,some (oV o)]/\H'=upd H l (.lst (done.map iV))/\done++restL (elN es) o=qc1 (elN es) k/\(∀a,o=some a->a<=k)) (fun σ _=>meas3 σ) ⟨[],some k,by rw[<-hki];rfl,rfl,rfl,fun a h=>by cases h;exact uG _⟩ ?_ ?_
 .rintro σ H' ⟨done,o,rfl,rfl,hd,ha⟩;have hdl:done.length<=14:=by
   have h1:=congrArg wF hd;rw[zJ] at h1;have h2:=qfw low k #[];omega
  cases o with
  |none=>
   rw[show oV none=V.non from rfl];have hd':done=qc1 (elN es) k:=by rw[<-hd];exact(zY _).symm
   rw[hd'];left;exact q l hl
  |some a=>
   have hak:=ha a rfl;rw[show oV (some a)=V.int (a:Int) from rfl];have eE:=qaa (o':=.lst (done.map iV)) hE hl;have eL:upd H l (.lst (done.map iV)) l=some (.lst (done.map iV)):=qa1;have hz:(done.map iV).length<sizeLine:=by rw[zA];show _<16777216;omega
   generalize hai:((a:Nat):Int)=ai;left;rw[qcx];have eIv:V.int ai=iV a:=by rw[<-hai];rfl
   have eE2:=qaa (o':=.lst (done.map iV++[V.int ai])) hE hl;have fin:done.map iV++[V.int ai]=(done++[a]).map iV:=by rw[eIv,zL];rfl
   cases a with
   |zero=>
    refine qce (v:=.non) (SqL.of eE2) (by rw[<-hai];exact qbu (j:=0) rfl) ?_;left;refine⟨⟨done++[0],none,rfl,by rw[fin],by rw[<-hd];show(done++[0])++[]=_;rw[zY];rfl,fun a h=>(by cases h)⟩,?_⟩;show 0<ai.toNat+1;omega
   |succ b=>
    have hb:b<es.length:=by omega
    have eb:=elN_at hb;have lb:=low (b+1) #[] #[];refine qce (v:=iV es[b]) (SqL.of eE2) (by rw[<-hai];exact qbu (j:=b+1) (by rw[aN,zC,zB hb];rfl)) ?_;left;refine⟨⟨done++[b+1],some es[b],rfl,by rw[fin],?_,fun a h=>by cases h;rw[eb] at lb;omega⟩,?_⟩
    .rw[<-hd,cG];show done++([b+1]++qc1 (elN es) es[b])=done++qc1 (elN es) (b+1);rw[qdu (k:=b+1) low #[] #[],eb];rfl
    .rw[eb] at lb;show((es[b]:Nat):Int).toNat+1<ai.toNat+1;omega
 .rintro σ H1 Q1 Q2 h ⟨v,hv,w,k,hk,hq⟩;exact⟨v,hv,w,k,hk,h _ _ hq⟩
def nmG(nm:List Str)(k:Nat):Str:=(nm[k]?).getD (ofL [])
theorem qd3{k:Nat}(h:k<nm.length):nm[k]?=some (nmG nm k):=by unfold nmG;rw[zB h];rfl
def qcz{k:Nat}(h:k<nm.length):nmG nm k∈nm:=zF (qd3 h)
structure ShAt(H:Hp)(p ln le dg dw dr:Addr)(nm:List Str)(es:List Nat)(kg kw kr:List (Key×V))(D:Dl):Prop where
 top:H p=some (.lst [.ref ln,.ref le,.ref dg,.ref dw,.ref dr])
 n:H ln=some (.lst (nm.map V.str))
 e:H le=some (.lst (.non::es.map iV))
 g:H dg=some (.dK kg)
 w:H dw=some (.dK kw)
 r:H dr=some (.dK kr)
 gA:AD kg (qby nm D.wt)
 wA:AD kw (qby D.W0 D.wa)
 rA:AD kr (qby nm D.rm)
def ShAt.same{H H':Hp}{p ln le dg dw dr:Addr}{nm:List Str}{es:List Nat}{kg kw kr:List (Key×V)}{D:Dl}(h:ShAt H p ln le dg dw dr nm es kg kw kr D)(s:Same H H'):ShAt H' p ln le dg dw dr nm es kg kw kr D:=
 ⟨s _ _ h.top,s _ _ h.n,s _ _ h.e,s _ _ h.g,s _ _ h.w,s _ _ h.r,h.gA,h.wA,h.rA⟩
structure ShOk(nm:List Str)(es:List Nat)(D:Dl):Prop where
 nd:nm.Nodup
 gd:∀z∈nm,qf0 z=true
 len:nm.length=es.length+1
 l7:nm.length<=7
 lo:∀(k e:Nat),es[k]?=some e->e<=k
 sub:∀n∈D.W0,n∈nm
 ln:∀k,k<nm.length->D.ln (nmG nm k)=(qc1 (elN es) k).map (nmG nm)
 ok:DlOk D
 srt:vX D.W0=true
theorem qfu(nd:nm.Nodup){i j:Nat}(hi:i<nm.length)(hj:j<nm.length)(e:nmG nm i=nmG nm j):i=j:=by
 have h1:=qd3 hi;have h2:=qd3 hj;rw[e,<-h2] at h1;exact(List.getElem?_inj hi nd).mp h1
def ShOk.low(h:ShOk nm es D):Low (elN es) nm.length:=elN_low h.lo _
theorem ShOk.at_line(h:ShOk nm es D){k j:Nat}(hk:k<nm.length)(hj:j<nm.length):nmG nm j∈D.ln (nmG nm k)↔j∈qc1 (elN es) k:=by
 rw[h.ln k hk];constructor
 .intro hm;obtain⟨i,hi,e⟩:=zI.mp hm;have:=qcu h.low k hk i hi;rw[<-qfu h.nd (show i<nm.length by omega) hj e];exact hi
 .exact fun hm=>zI.mpr ⟨j,hm,rfl⟩
def qg1(D:Dl)(nm:List Str)(h:Str):List Str:=nm.filter fun n=>decide (n∈D.W0/\h∈D.ln n)
theorem domF_some{g:Str->Int} :(qby W g z).isSome=decide (z∈W):=by
 unfold qby;by_cases c:z∈W
 .rw[gJ c,gK c];rfl
 .rw[gI c,gL c];rfl
def r_diA{kvs:List (Key×V)}{g:Str->Int}(d:Rd H a (.dK kvs))(A:AD kvs (qby W g))(h:Q (.bl (decide (z∈W))) H):rDI (.ref a) (.str z) H Q:=r_dik d A (by rw[domF_some];exact h)
theorem flat_iV(L:List Nat):((L.map iV).all fun v=>qd6 v)=true:=by
 rw[zZ];intro v hv;obtain⟨n,_,rfl⟩:=zI.mp hv;rfl
theorem inV_iV(x:Nat):∀L:List Nat,inV (iV x) (L.map iV)=decide (x∈L)
 | []=>rfl
 |y::L=>by
  have ih:=inV_iV x L;unfold inV at ih⊢;rw[zV,yN,ih];by_cases c:y=x
  .subst c;rw[show eqV (iV y) (iV y)=true from beq_self_eq_true _,gK (zG ..)];rfl
  .rw[show eqV (iV y) (iV x)=false from beq_false_of_ne (show((y:Nat):Int)≠((x:Nat):Int) by omega),eF];by_cases m:x∈L
   .rw[gK m,gK (zD _ m)]
   .rw[gL m,gL fun z=>(zP.mp z).elim (fun e=>c e.symm) m]
def r_inIv{K:uS}{p:Addr}{x:Nat}{L:List Nat}(h:SqL K H p (L.map iV))(q:Q (.bl (decide (x∈L))) H):rIn K false (iV x) (.ref p) H Q:=⟨p,_,rfl,.inl h,rfl,flat_iV L,by rw[inV_iV];exact q⟩
inductive sp_inside(K:uS)(d:Ad)(vs:List V)(H:Hp)(Q:VK)(E:XK):Prop
 |mk(p ln le dg dw dr:Addr)(nm:List Str)(es:List Nat)(kg kw kr:List (Key×V))(D:Dl)(j:Nat)(_:vs=[.ref p,iV j])(_:ShAt H p ln le dg dw dr nm es kg kw kr D)(_:ShOk nm es D)(_:j<nm.length)(_:∀l H',Same H H'->H l=none->H' l=some (.lst ((qg1 D nm (nmG nm j)).map V.str))->Q (.ref l) H')
set_option maxHeartbeats 9000000 in
include T in
theorem wcd:FnOk P w K mg base CX0 3 d.war d.w9d ["_law_sharing_here","_law_at"] (sp_inside K d):=by
 exists T.wbd.ok w47
 .right
 obtain⟨p,ln,le,dg,dw,dr,nm,es,kg,kw,kr,D,j,rfl,hA,ok,hj,q⟩:=h;refine⟨_,(qa2 (qf5 (pv 0) (qf6 rfl (qaj (qab (i:=2) w47.nd rfl (eS rfl)) (qaj (qab (i:=3) w47.nd rfl (eS rfl)) (qaj (qab (i:=4) w47.nd rfl (uF rfl)) (qaj (qab (i:=5) w47.nd rfl (eS rfl)) (qaj (qab (i:=6) w47.nd rfl (uF rfl)) qcq)))))))
  (qa5 (qad (qch (caps:=[1,2,3,5]) (cn:=["_law_at","_law_names","_law_elders","_law_wants"]) (qc6 rfl rfl (by rfl) (by rfl) rfl ⟨rfl,⟨rfl,⟨rfl,⟨rfl,trivial⟩⟩⟩⟩ (by rfl) rfl ⟨⟨rfl,rfl,rfl,rfl,_,rfl⟩,⟨⟨rfl,rfl,rfl,rfl,_,rfl⟩,⟨⟨rfl,rfl,rfl,rfl,_,rfl⟩,⟨⟨rfl,rfl,rfl,rfl,_,rfl⟩,trivial⟩⟩⟩⟩ ∅) rfl (qco rfl T.w53 #[qag qba rfl T.w3r vP #[pv 2]]) (fun _ _ _ _=>(pf_one (PW.pt (qgf (pt_cmp (pc_din (qat hr) (qal qax (pv 2) (pv 0) nofun) (pv 4))) (qex (qai op_in_seq (pv 1) (qaf ((wg1 T).mono ∅) hr rfl T.whe T.wft.kp T.whm .nil qay #[pv 3,pv 0]) (by rfl))))))) (fun _ _ _ _=>(qal qax (pv 2) (pv 0) nofun)))))),?_⟩
 walk_at"d"
 try dsimp only[cxC]
 refine qac (σ:=[sr p,some (iV j),none,none,none,none,none]) rfl ?_;have etop:=hA.top;have en:=hA.n;have l7:=ok.l7;have ln7:(nm.map V.str).length=nm.length:=zA _;left;intro C s0 H0 fp l hl;refine c_by nm.length (fun i H'=>Same H H'/\H' l=some (.lst ((qg1 D (nm.take i) (nmG nm j)).map V.str))) ⟨qa4 hl _,qa1⟩ (fun i H' hi _=>by show i <((nm.map V.str).length:Int).toNat;rw[ln7];omega) (fun H' _=>by show((nm.map V.str).length:Int).toNat<=_;rw[ln7];omega) ?_ ?_
 .rintro i H' v H'' hi ⟨sm,el⟩ ⟨rfl,rfl⟩;have hA':=hA.same sm;have xn:atI (nm.map V.str) (0+(i:Int))=some (.str (nmG nm i)):=by rw[bX];exact qbu (by rw[zC,qd3 hi];rfl)
  have etk:nm.take (i+1)=nm.take i++[nmG nm i]:=by rw[zO,qd3 hi];rfl
  have hRw:Rd H'' dw (.dK kw):=.inl hA'.w;have hwA:=hA.wA;have fcons:∀b:Bool,decide (nmG nm i∈D.W0/\nmG nm j∈D.ln (nmG nm i))=b->qg1 D (nm.take (i+1)) (nmG nm j)=qg1 D (nm.take i) (nmG nm j)++if b then[nmG nm i] else[]:=fun b hb=>by
   unfold qg1;rw[etk,yE]
   congr 1
   cases b with
   |true=>rw[bF,gJ hb];rfl
   |false=>rw[bF,gI (by rw[hb];simp)];rfl
  left;refine qce (SqL.of hA'.n) xn ?_;left;refine r_diA hRw hwA ?_;by_cases c:nmG nm i∈D.W0
  .rw[gK c];have lo:=ok.lo;have len:=ok.len;left;refine⟨le,es,i,by rw[bX],hA'.e,lo,#[],#[],fun ll hll=>?_⟩;have s2:=qa4 hll (.lst ((qc1 (elN es) i).map iV));have ell:upd H'' ll (.lst ((qc1 (elN es) i).map iV)) ll=some (.lst ((qc1 (elN es) i).map iV)):=qa1;have el2:=qaa (o':=.lst ((qc1 (elN es) i).map iV)) el hll;generalize upd H'' ll (.lst ((qc1 (elN es) i).map iV))=H2 at*;refine r_inIv (SqL.of ell) ?_;by_cases c2:j∈qc1 (elN es) i
   .rw[gK c2];have fc:=fcons true (gK ⟨c,(ok.at_line hi hj).mpr c2⟩);have zl:((qg1 D (nm.take i) (nmG nm j)).map V.str).length<sizeLine:=by
     rw[zA];have h1:(qg1 D (nm.take i) (nmG nm j)).length<=(nm.take i).length:=yC _ _;rw[zS] at h1;show _<16777216;omega
    left;refine qce (SqL.of (s2 _ _ hA'.n)) xn ?_;refine⟨_,el2,zl,?_⟩;refine⟨qb6 (sm.trans s2) hl,?_⟩;rw[qa1,fc,zL];rfl
   .rw[gL c2];have fc:=fcons false (gL fun z=>c2 ((ok.at_line hi hj).mp z.2));left;refine⟨sm.trans s2,?_⟩;rw[el2,fc];show _=some (HO.lst ((_++[]).map V.str));rw[zY]
  .rw[gL c];have fc:=fcons false (gL fun z=>c z.1);left;refine⟨sm,?_⟩;rw[el,fc];show _=some (HO.lst ((_++[]).map V.str));rw[zY]
 rintro H' ⟨sm,el⟩;rw[zK] at el;exact q l H' sm hl el
theorem qgw{t1 b1 t2 b2:Int}{q1 q2:Rat}(h1:0<b1)(h2:0<b2)(e1:(t1:Rat)=q1*(b1:Rat))(e2:(t2:Rat)=q2*(b2:Rat)):(t1*b2<t2*b1)↔q1<q2:=by
 have p1:(0:Rat) <(b1:Rat):=by exact_mod_cast h1
 have p2:(0:Rat) <(b2:Rat):=by exact_mod_cast h2
 have c:(t1*b2<t2*b1)↔((t1*b2:Int):Rat) <((t2*b1:Int):Rat):=by exact_mod_cast Iff.rfl
 have pp:(0:Rat) <(b1:Rat)*(b2:Rat):=Rat.mul_pos p1 p2;rw[c,vK,vK,e1,e2];have x1:q1*(b1:Rat)*(b2:Rat)=q1*((b1:Rat)*(b2:Rat)):=by grind
 have x2:q2*(b2:Rat)*(b1:Rat)=q2*((b1:Rat)*(b2:Rat)):=by grind
 rw[x1,x2];constructor
 .intro h;apply wT;intro z;have:=wM (show q2<=q1 by grind) (show(0:Rat)<=(b1:Rat)*(b2:Rat) by grind);grind
 .intro h;exact Rat.mul_lt_mul_of_pos_right h pp
theorem hug_t{t b:Int}(b0:0<b)(hb:b<=2^3000)(e:(t:Rat)=q*(b:Rat))(q0: -(((10^60:Nat)):Rat)<=q)(q1:q<=(((10^60:Nat)):Rat)):Hug t:=by
 have bq:(0:Rat)<=(b:Rat):=by exact_mod_cast fX b0
 have h1:(t:Rat)<=(((10^60:Nat)):Rat)*(b:Rat):=by rw[e];exact wM q1 bq
 have h2: -(((10^60:Nat)):Rat)*(b:Rat)<=(t:Rat):=by rw[e];exact wM q0 bq
 have c:(((((10^60:Nat)):Int)*b:Int):Rat)=(((10^60:Nat)):Rat)*(b:Rat):=by rw[vK,uX]
 have h1':t<=(((10^60:Nat)):Int)*b:=by
  have:(t:Rat)<=(((((10^60:Nat)):Int)*b:Int):Rat):=by rw[c];exact h1
  exact_mod_cast this
 have h2': -((((10^60:Nat)):Int)*b)<=t:=by
  have:((-((((10^60:Nat)):Int)*b):Int):Rat)<=(t:Rat):=by rw[Rat.intCast_neg,c];grind
  exact_mod_cast this
 have m:(((10^60:Nat)):Int)*b<=(((10^60:Nat)):Int)*2^3000:=Int.mul_le_mul_of_nonneg_left hb ∅;refine Hug.le (n:=10^60*2^3000) ?_ ∅;have e2:(((10^60:Nat)):Int)*2^3000=(((10^60*2^3000:Nat)):Int):=∅
 rw[e2] at m;generalize (((10^60:Nat)):Int)*b=x at*;generalize (10^60*2^3000:Nat)=y at*;omega
theorem hug_b{b:Int}(b0:0<b)(hb:b<=2^3000):Hug b:=by
 refine Hug.le (n:=2^3000) ?_ ∅;have e:((2:Int)^3000)=(((2^3000:Nat)):Int):=∅
 rw[e] at hb;generalize (2^3000:Nat)=y at*;omega
inductive sp_less(K:uS)(d:Ad)(vs:List V)(H:Hp)(Q:VK)(E:XK):Prop
 |mk(a1 a2:Addr)(t1 b1 t2 b2:Int)(_:vs=[.ref a1,.ref a2])(_:H a1=some (.tup [.int t1,.int b1]))(_:H a2=some (.tup [.int t2,.int b2]))(_:Hug t1)(_:Hug b1)(_:Hug t2)(_:Hug b2)(_:Q (.bl (decide (t1*b2<t2*b1))) H)
include T in
theorem wb5:FnOk P w K mg base CX0 1 d.wfm d.wdt ["_law_one","_law_other"] (sp_less K d):=by
 exists T.wc6.ok whu
 .right
 obtain⟨a1,a2,t1,b1,t2,b2,rfl,e1,e2,n1,n2,n3,n4,q⟩:=h;exists qa5 (qad (qci op_lt (qah qdk (~~~0) (~~~1)) (qah qdk (~~~1) (~~~0)) (qar _))),[sr a1,sr a2];left;exact q
structure PD(H:Hp)(us:List (Str×Addr))(tp bt:Str->Int):Prop where
 nd:(us.map (·.1)).Nodup
 at_:∀p∈us,H p.2=some (.tup [.int (tp p.1),.int (bt p.1)])
theorem PD.t{us:List (Str×Addr)}(h:PD H us tp bt)(t:qb2 H H'):PD H' us tp bt:=⟨h.nd,fun p hp=>t _ _ (h.at_ p hp)⟩
theorem PD.look{us:List (Str×Addr)}(h:PD H us tp bt){z:Str}(hz:z∈us.map (·.1)):∃a,qdf us z=some a/\H a=some (.tup [.int (tp z),.int (bt z)]):=by
 obtain⟨⟨z',a⟩,hp,rfl⟩:=zI.mp hz;exact⟨a,qgx h.nd hp,h.at_ _ hp⟩
structure PsB(U:List Str)(tp bt:Str->Int)(s:Str->Rat):Prop where
 b0:∀n∈U,0<bt n
 b1:∀n∈U,bt n<=2^290
 e:∀n∈U,(tp n:Rat)=s n*(bt n:Rat)
 lo:∀n∈U,0<=s n
 hi:∀n∈U,s n<=(((10^35:Nat)):Rat)
theorem q35:(0:Rat)<=(((10^35:Nat)):Rat)/\8*(((10^35:Nat)):Rat)<=(((10^60:Nat)):Rat):=by
 constructor
 .exact_mod_cast wR _
 .have:8*(10^35:Nat)<=(10^60:Nat):=∅
  exact_mod_cast this
theorem PsB.sum{U:List Str}{s:Str->Rat}(h:PsB U tp bt s){L:List Str}(sub:∀n∈L,n∈U)(l7:L.length<=7):0<=qc8 L s/\qc8 L s<=7*(((10^35:Nat)):Rat):=by
 refine⟨qfn fun n hn=>h.lo n (sub n hn),?_⟩;have h1:=qgp (l:=L) (f:=s) (B:=(((10^35:Nat)):Rat)) fun n hn=>h.hi n (sub n hn);have h2:((L.length:Nat):Rat)<=7:=by exact_mod_cast l7
 have m:=xN (show(0:Rat)<=7-((L.length:Nat):Rat) by grind) q35.1;grind
theorem p210(h:i<=7):((2:Int)^290)^i<=2^2100:=by
 have a:∀j,j<8->((2:Int)^290)^j<=2^2100:=∅
 exact a i #[]
def le3000{b:Int}(h:b<=2^2100):b<=2^3000:=yY h ∅
inductive sp_together(K:uS)(d:Ad)(vs:List V)(H:Hp)(Q:VK)(E:XK):Prop
 |mk(ds ls:Addr)(us:List (Str×Addr))(L:List Str)(tp bt:Str->Int)(s:Str->Rat)(_:vs=[.ref ds,.ref ls])(_:Rd H ds (.dK (oK us)))(_:PD H us tp bt)(_:PsB (us.map (·.1)) tp bt s)(_:H ls=some (.lst (L.map V.str)))(_:(∀n∈L,n∈us.map (·.1)))(_:L.length<=7)(_:∀(p:Addr)(t b:Int),H p=none->0<b->b<=2^2100->(t:Rat)=qc8 L s*(b:Rat)->Q (.ref p) (upd H p (.tup [.int t,.int b])))
include T in
theorem w8z:FnOk P w K mg base CX0 1 d.w84 d.w6g ["_law_shares","_law_some"] (sp_together K d):=by
 exists T.w7w.ok w1y
 .right
 obtain⟨ds,ls,us,L,tp,bt,s,rfl,hR,hF,hB,hl,sub,l7,q⟩:=h;exists (qa2 (qae (i:=2) w1y.nd rfl (uF rfl) qa6)
  (qa2 (qae (i:=3) w1y.nd rfl (uF rfl) qa6)
  (qa2 (qb0 vH rfl (qaw (pv 1)) (qab (i:=4) w1y.nd rfl (uF rfl)) (qa2 (qae (i:=5) w1y.nd rfl (uF rfl) (pv 0|||pv 4))
  (qa2 (qae (i:=2) w1y.nd rfl (uF rfl) (qah qbx (qah qdk (pv 2) (~~~5)) (qah qdk (~~~5) (pv 3))))
  (qa5 (qae (i:=3) w1y.nd rfl (uF rfl) (qah qdk (pv 3) (~~~5)))))))
  (qa5 (qad (qbq #[pv 2,pv 3])))))),[sr ds,sr ls,none,none,none,none];left;refine qbs (xs:=L.map V.str) (fun i σ H'=>H'=H/\∃(t b:Int)(w1 w2:Option V),σ=[sr ds,sr ls,some (.int t),some (.int b),w1,w2]/\0<b/\b<=(2^290)^i/\(t:Rat)=qc8 (L.take i) s*(b:Rat)) ⟨rfl,0,1,none,none,rfl,∅,∅,by show(0:Rat)=0*_;grind⟩ ?_ ?_ ?_
 .rintro i σ H' _ ⟨rfl,_⟩;exact SqL.of hl
 .rintro i v σ H' hv ⟨rfl,t,b,w1,w2,rfl,b0,bb,et⟩;rw[zC] at hv;obtain⟨n,hn,rfl⟩:=uI.mp hv;have hi:=(uL.mp hn).1;have hnW:=sub n (zF hn);have etk:L.take (i+1)=L.take i++[n]:=by rw[zO,hn];rfl
  have b2:b<=2^3000:=le3000 (yY bb (p210 #[]));have sB:=hB.sum (L:=L.take i) (fun m hm=>sub m (yB hm)) (by rw[zS];omega);have q3:=q35;have nt:=hug_t b0 b2 et (by grind) (by grind);have nb:=hug_b b0 b2;have d0:=hB.b0 n hnW;have d1:=hB.b1 n hnW;have d2:bt n<=2^3000:=yY d1 ∅;have sl:=hB.lo n hnW;have sh:=hB.hi n hnW;have nd:=hug_b d0 d2;have nn:=hug_t d0 d2 (hB.e n hnW) (by grind) (by grind);have enu:=hB.e n hnW;obtain⟨a,lk,ha⟩:=hF.look hnW;clear hv sB b2 q3 d2 sl sh;left;refine qgt hR lk ?_;have key1:0<b*bt n:=dO b0 d0;have key2:b*bt n<=(2^290)^(i+1):=by
   rw[Int.pow_succ];exact Int.mul_le_mul bb d1 (fX d0) (yY (fX b0) bb)
  have key3:((t*bt n+tp n*b:Int):Rat)=qc8 (L.take (i+1)) s*((b*bt n:Int):Rat):=by
   rw[etk,qgq,aH,vK,vK,vK,et,enu];grind
  clear et enu d1 d0 bb b0;left;exact⟨rfl,_,_,_,_,rfl,key1,key2,key3⟩
 rintro σ H' ⟨rfl,t,b,w1,w2,rfl,b0,bb,et⟩;rw[zA,zK] at et;rw[zA] at bb;have b2:b<=2^2100:=yY bb (p210 l7);left;exact q _ t b (by assumption) b0 b2 et
def wa6(K:uS)(d:Ad):Sp:=fun vs H Q _=>∃(a:Addr)(q:Rat),vs=[.ref a]/\qbf H a q/\Q (.bl true) H
theorem gcd_red(q:Rat):gcdI q.num (q.den:Int)=1:=by
 unfold gcdI;have:wS q.num (q.den:Int)=1:=q.reduced;rw[this];rfl
include T in
theorem wa0:FnOk P w K mg base CX0 2 d.w49 d.w3v ["_law_found"] (wa6 K d):=by
 exists T.w77.ok wa7
 .right
 obtain⟨a,x,rfl,ha,q⟩:=h;refine⟨_,(qa2 (qb4 (PW.pt (qdx (qbz (qbg (qag qbm rfl T.w07 vE #[pv 0,qca (v:=.ty "tuple") rfl T.wfb PyProof.Rows.boot_tuple rfl]))) (qdx (qai op_ne (qag qba rfl T.w3r vP #[pv 0]) qa6 (qar _)) (qdx (qbz (qbg (qaf ((we1 T).mono ∅) hr rfl T.wfd T.wdc.kp T.wg4 .nil qay #[~~~0]))) (qdz (qbz (qbg (qaf ((we1 T).mono ∅) hr rfl T.wfd T.wdc.kp T.wg4 .nil qay #[~~~0])))))))) (qa5 (qad qcg)) qak)
  (qa5 (qad (qej (qci qft (~~~0) qa6 (qar _)) (qei (qci qel (qaf ((wce T).mono ∅) hr rfl T.wdo T.w9l.kp T.wci .nil qay #[~~~0,~~~0]) qa6 (qar _))))))),?_⟩
 walk_at"d"
 try dsimp only[cxC]
 refine qac (σ:=[sr a]) rfl ?_;have dp:=den_pos x;have gr:=gcd_red x;unfold qbf at ha;left;refine⟨_,rfl,?_⟩;left;refine⟨_,rfl,?_⟩;left;refine⟨_,_,rfl,fX dp,?_⟩;rw[gr];left;exact q
inductive sp_is_dealt(K:uS)(d:Ad)(vs:List V)(H:Hp)(Q:VK)(E:XK):Prop
 |mk(l dw:Addr)(as:List (Addr×Addr))(kw:List (Key×V))(D:Dl)(lv:Str->Rat)(_:vs=[.ref l,.ref dw])(_:EvAt H D lv D.W0 l as)(_:H dw=some (.dK kw))(_:AD kw (qby D.W0 D.wa))(_:DlOk D)(_:vX D.W0=true)(_:∀H',Same H H'->Q (.bl true) H')
theorem pap_or(D:Dl)(lv:Str->Rat)(n:Str):papV D lv n=.non\/∃z,papV D lv n=.str z:=by
 unfold papV
 split
 .exact .inl rfl
 .split
  .exact .inr ⟨_,rfl⟩
  .exact .inl rfl
def EvAt.same{H H':Hp}{D:Dl}{lv:Str->Rat}{W:List Str}{l:Addr}{as:List (Addr×Addr)}(h:EvAt H D lv W l as)(s:Same H H'):EvAt H' D lv W l as:=⟨s _ _ h.l,h.n,fun i n p a b=>⟨s _ _ (h.r i n p a b).1,s _ _ (h.r i n p a b).2⟩⟩
set_option maxHeartbeats 9000000 in
include T in
theorem wde:FnOk P w K mg base CX0 3 d.w7f d.w6d ["_law_found","_law_wants"] (sp_is_dealt K d):=by
 exists T.wae.ok w6b
 .right
 obtain⟨l,dw,as,kw,D,lv,rfl,hE,hw,hwA,ok,srt,q⟩:=h;refine⟨_,(qa2 (qb4 (PW.pt (qdx (qbz (qbg (qag qbm rfl T.w07 vE #[pv 0,qca (v:=.ty "list") rfl T.wai xC rfl]))) (qdz (qai op_ne (qag qba rfl T.w3r vP #[pv 0]) (qag qgm rfl T.w3r vP #[pv 1]) (qar _))))) (qa5 (qad qcg)) qak)
  (qa2 (qb0 vH rfl (pi_zip rfl T.wip #[pv 0,qag (qcc rfl) rfl T.w33 wB #[pv 1]]) (pg_tup rfl (qaj (qab (i:=2) w6b.nd rfl (uF rfl)) (qaj (qab (i:=3) w6b.nd rfl (uF rfl)) qcq))) (qa2 (qb4 (PW.pt (qdx (qbz (qbg (qag qbm rfl T.w07 vE #[pv 2,qca (v:=.ty "tuple") rfl T.wfb PyProof.Rows.boot_tuple rfl]))) (qdx (qai op_ne (qag qba rfl T.w3r vP #[pv 2]) qa6 (qar _)) (qdx (qai op_ne (~~~2) (pv 3) (qar _)) (qdz (qbz (qbg (qaf ((wa0 T).mono ∅) hr rfl T.wb0 T.w77.kp T.wb8 .nil qay #[~~~2])))))))) (qa5 (qad qcg)) qak)
  (qa5 (qb4 (PW.pt (qgf (qai qek (~~~2) qck (qar _)) (qex (qbz (qbg (qag qbm rfl T.w07 vE #[~~~2,qca (v:=.ty "str") rfl T.wgx bC rfl])))))) (qa5 (qad qcg)) qak))))
  (qa5 (qad qcg)))),?_⟩
 walk_at"d"
 try dsimp only[cxC]
 refine qac (σ:=[sr l,sr dw,none,none]) rfl ?_;have kp:=qdb hwA ok.nd;have l8:=ok.l8;have el:=hE.l;have hkl:kw.length=D.W0.length:=by
  have h1:(qc2 kw).length=kw.length:=by
   have h2:=congrArg wF hwA.keys;rw[zA,zA] at h2;exact h2.symm
  rw[<-h1];exact kp.length_eq
 have hla:(as.map fun p=>V.ref p.1).length=D.W0.length:=by rw[zA];exact hE.n
 left;refine r_lenD hw ?_;rw[hla,hkl];left;refine qe3 (ss:=qc2 kw) (.inl hw) hwA.keys (by have:=kp.length_eq;omega) fun lo ss hlo hp hss=>?_;have ess:ss=D.W0:=qew (hp.trans kp) hss srt;subst ess;have s1:=qa4 hlo (.lst (D.W0.map V.str));have elo:upd H lo (.lst (D.W0.map V.str)) lo=some (.lst (D.W0.map V.str)):=qa1;have hE1:=hE.same s1;generalize upd H lo (.lst (D.W0.map V.str))=H1 at*;clear hE el hp hss hlo hkl kp;left;refine r_itZ (SqL.of hE1.l) (SqL.of elo) ?_;refine f_zip (by rw[hla,zA]) (fun i σ H'=>Same H1 H'/\∃w2 w3:Option V,σ=[sr l,sr dw,w2,w3]) ⟨Same.refl _,none,none,rfl⟩ ?_ ?_ ?_
 .rintro i σ H' ⟨sm,_⟩;exact⟨SqL.of (sm _ _ hE1.l),SqL.of (sm _ _ elo)⟩
 .rintro i x y tz σ H' hx hy ⟨sm,w2,w3,rfl⟩ htz;rw[zC] at hx hy;obtain⟨pr,hpr,rfl⟩:=uI.mp hx;obtain⟨n,hn,rfl⟩:=uI.mp hy;have s2:=sm.trans (qa4 htz (.tup [V.ref pr.1,V.str n]));have etz:upd H' tz (.tup [V.ref pr.1,V.str n]) tz=some (.tup [V.ref pr.1,V.str n]):=qa1;obtain⟨e1,e2⟩:=(hE1.same s2).r i n pr hn hpr;generalize upd H' tz (.tup [V.ref pr.1,V.str n])=H2 at*;clear hx hy hpr hn hE1;rcases pap_or D lv n with ep|⟨z,ep⟩
  .rw[ep] at e1;left;refine⟨pr.2,_,rfl,e2,?_⟩;left;exact⟨s2,_,_,rfl⟩
  .rw[ep] at e1;left;refine⟨pr.2,_,rfl,e2,?_⟩;left;exact⟨s2,_,_,rfl⟩
 rintro σ H' ⟨sm,w2,w3,rfl⟩;left;exact q H' (s1.trans sm)
theorem pw_rising:∀{p:Str} {l:List Str},(p::l).Pairwise leS->PyProof.Rows.risingS p l=true
 |p,[],_=>rfl
 |p,x::r,h=>by
  have h1:=aA h (zG ..);unfold PyProof.Rows.risingS;rw[wH,cF];exact⟨h1,pw_rising (List.Pairwise.of_cons h)⟩
theorem ins_ex(x:Str):∀{l:List Str},l.Pairwise leS->∃l':List Str,l'.Perm (x::l)/\l'.Pairwise leS
 | [],_=>⟨[x],List.Perm.refl _,List.pairwise_singleton _ _⟩
 |y::r,h=>by
  by_cases c:leS x y
  .refine⟨x::y::r,List.Perm.refl _,eY.mpr ⟨fun z hz=>?_,h⟩⟩;rcases zP.mp hz with rfl|hz
   .exact c
   .exact leS_trans c (aA h hz)
  .have c':leS y x:=qdm.mpr ((List.le_total _ _).resolve_left fun z=>c (qdm.mpr z));obtain⟨l',hp,hl⟩:=ins_ex x (List.Pairwise.of_cons h);refine⟨y::l',(hp.cons y).trans (List.Perm.swap x y r),eY.mpr ⟨fun z hz=>?_,hl⟩⟩;rcases zP.mp (hp.mem_iff.mp hz) with rfl|hz
   .exact c'
   .exact aA h hz
theorem sort_ex:∀ss:List Str,∃ss':List Str,ss'.Perm ss/\vX ss'=true:=fun ss=>by
 have:∃ss':List Str,ss'.Perm ss/\ss'.Pairwise leS:=by
  induction ss with
  |nil=>exact⟨[],List.Perm.refl _,fN⟩
  |cons x r ih=>
   obtain⟨r',hp,hr⟩:=ih;obtain⟨l',hp',hl⟩:=ins_ex x hr;exact⟨l',hp'.trans (hp.cons x),hl⟩
 obtain⟨l,hp,hl⟩:=this;refine⟨l,hp,?_⟩
 cases l with
 |nil=>rfl
 |cons x r=>exact pw_rising hl
structure R3 where
 a:Addr
 n:Str
 s:Addr
 pv:V
structure R3At(H:Hp)(r:R3):Prop where
 t:H r.a=some (.tup [.str r.n,.ref r.s,r.pv])
 p:r.pv=.non\/∃z,r.pv=.str z
def R3At.same{H H':Hp}{r:R3}(h:R3At H r)(s:Same H H'):R3At H' r:=⟨s _ _ h.t,h.p⟩
def R3At.tt{r:R3}(h:R3At H r)(s:qb2 H H'):R3At H' r:=⟨s _ _ h.t,h.p⟩
noncomputable def papB(D:Dl)(lv:Str->Rat)(n:Str):V->Bool
 | .non=>decide (shQ D lv n=(D.wa n:Rat))
 | .str z=>decide (z∈(D.ln n).filter (stB D lv n))
 |_=>false
noncomputable def evB(D:Dl)(lv:Str->Rat)(rows:List R3):Bool:=decide (rows.map (·.n)=D.W0) && rows.all fun r=>papB D lv r.n r.pv
def wa_rb(ok:DlOk D){n:Str}(hn:n∈D.W0):RB ((D.wa n:Int):Rat):=qfp (by
 have a0:=ok.a0 n hn;have a1:=ok.a1 n hn;exact vF (show(D.wa n).natAbs<=10^31 by omega) ∅)
def rm_rb(ok:DlOk D){n h:Str}(hn:n∈D.W0)(hh:h∈D.ln n):RB ((D.rm h:Int):Rat):=qfp (by
 have a0:=ok.r0 n hn h hh;have a1:=ok.r1 n hn h hh;exact vF (show(D.rm h).natAbs<=10^31 by omega) ∅)
def RB.zero:RB 0:=⟨∅,∅⟩
def wdk(K:uS)(d:Ad):Sp:=fun vs H Q _=>∃(a:Addr)(q:Rat)(w:Int),vs=[.ref a,.int w]/\qbf H a q/\RB q/\RB (w:Rat)/\0<=q/\q<=(w:Rat)/\∀H',Same H H'->Q (.bl true) H'
include T in
theorem wdr:FnOk P w K mg base CX0 2 d.w7r d.w6o ["share","want"] (wdk K d):=by
 exists T.wad.ok wdq
 .right
 obtain⟨a,x,w,rfl,ha,rx,rw,x0,xw,q⟩:=h;refine⟨_,(qa5 (qad (qej (pe_not (qaf ((w5r T).mono ∅) hr rfl T.w7d T.w6n.kp T.w7v .nil qay #[pv 0,qbq #[qa6,qa6]])) (qei (pe_not (qaf ((w5r T).mono ∅) hr rfl T.w7d T.w6n.kp T.w7v .nil qay #[qbq #[pv 1,qa6],pv 0])))))),?_⟩
 walk_at"d"
 try dsimp only[cxC]
 refine qac (σ:=[sr a,some (.int w)]) rfl ?_;left;rename_i p1 hp1;have s1:=qa4 hp1 (.tup [V.int 0,V.int 1]);have f1:qbf (upd H p1 (.tup [V.int 0,V.int 1])) p1 0:=qa1;generalize upd H p1 (.tup [V.int 0,V.int 1])=H1 at*;refine⟨a,p1,x,0,rfl,ha.same s1,f1,rx,RB.zero,?_⟩;rw[gL (show ¬x<0 by grind)];left;rename_i p2 hp2;have s2:=s1.trans (qa4 hp2 (.tup [V.int w,V.int 1]));have f2:qbf (upd H1 p2 (.tup [V.int w,V.int 1])) p2 (w:Rat):=qde qa1;generalize upd H1 p2 (.tup [V.int w,V.int 1])=H2 at*;refine⟨p2,a,(w:Rat),x,rfl,f2,ha.same s2,rw,rx,?_⟩;rw[gL (show ¬(w:Rat)<x by grind)];left;exact q _ s2
theorem flat_len{ln:Str->List Str}:∀{W:List Str},(∀n∈W,(ln n).length<=20)->(W.flatMap ln).length<=20*W.length
 | [],_=>uG _
 |n::W,h=>by
  have h1:=h n (zG ..);have h2:=flat_len (W:=W) fun m hm=>h m (zD _ hm);rw[List.flatMap_cons,zJ,zR];omega
theorem FD.onl{kvs:List (Key×V)}(ok:DlOk D)(h:FD H kvs (onF D D.W0 g)):kvs.length<=140:=by
 have h1:(kvs.map (·.1)).length<=((D.W0.flatMap D.ln).map uH).length:=vN h.nd fun k hk=>by
  obtain⟨p,hp,rfl⟩:=zI.mp hk;obtain⟨z,a,q,rfl,_,ez⟩:=h.sh p hp;unfold onF at ez;by_cases c:∃n∈D.W0,z∈D.ln n
  .obtain⟨n,hn,hz⟩:=c;exact zI.mpr ⟨z,cT.mpr ⟨n,hn,hz⟩,rfl⟩
  .rw[gI c] at ez;cases ez
 rw[zA,zA] at h1;have h2:=flat_len ok.lz;have h3:=ok.l8;omega
inductive sp_Sums_within_rooms(K:uS)(d:Ad)(vs:List V)(H:Hp)(Q:VK)(E:XK):Prop
 |mk(sm t dr dlv dto dtp:Addr)(S:Ts)(D:Dl)(HS:List Str)(kr klv kto ktp:List (Key×V))(lv tp:Str->Rat)(_:vs=[.ref sm])(_:DlOk D)(_:SmAt d H sm t dr dlv dto dtp S D HS kr klv kto ktp lv tp)(_:(∀n∈D.W0,∀h∈D.ln n,toQ D lv D.W0 h<=(D.rm h:Rat)))(_:∀H',Same H H'->Q (.bl true) H')
include T in
theorem w5z:FnOk P w K mg base CX0 2 d.w1x d.w1o ["self"] (sp_Sums_within_rooms K d):=by
 exists T.w65.ok w60
 .right
 obtain⟨sm,t,dr,dlv,dto,dtp,S,D,HS,kr,klv,kto,ktp,lv,tp,rfl,ok,hM,hle,q⟩:=h;refine⟨_,(qa5 (qad (pe_not (qag (call_anyB rfl) rfl T.wis PyProof.Rows.boot_any #[pe_thV (qch (caps:=[0]) (cn:=["self"]) (qc6 rfl rfl (by rfl) (by rfl) rfl ⟨rfl,trivial⟩ (by rfl) rfl ⟨⟨rfl,rfl,rfl,rfl,_,rfl⟩,trivial⟩ ∅) rfl (qcp (qau (pv 0) rfl)) (fun _ _ _ _=>qdd) (fun _ _ _ _=>(qaf ((w5r T).mono ∅) hr rfl T.w7d T.w6n.kp T.w7v .nil qay #[qbq #[qau (pv 1) rfl|||pv 0,qa6],qau (pv 1) rfl|||pv 0])))])))),?_⟩
 walk_at"d"
 try dsimp only[cxC]
 refine qac (σ:=[sr sm]) rfl ?_;have cl:=T.w2g;have a1:qap K d.w02 "totals":=T.w0t;have a2:qap K d.w02 "rooms":=T.w1b;obtain⟨dx,ho⟩:=hM.ob;have kl:=hM.oA.onl ok;left;refine r_thV ?_;left;refine qfq hM.o fun o=>?_;intro C s0 H0 fp na hna;have hF:upd H dto (.frz o (.dK kto)) dto=some (.frz o (.dK kto)):=qa1;have sb:SameBut dto H (upd H dto (.frz o (.dK kto))):=sb_frz hM.o;have hna0:H na=none:=by
  by_cases z:na=dto
  .subst z;rw[hF] at hna;cases hna
  .rw[qa7 z] at hna;exact hna
 generalize upd H dto (.frz o (.dK kto))=HF at*;refine c_by kto.length (fun i H'=>SameBut dto H H'/\H' dto=some (.frz o (.dK kto))/\H' na=some (.lst ((vZ i false).map V.bl))) ⟨fun b u n e=>qa4 hna _ _ _ (sb b u n e),qaa hF hna,qa1⟩ ?_ ?_ ?_ ?_
 .rintro i H' hi ⟨_,fz,_⟩;exact⟨fz,hi⟩
 .rintro H' ⟨_,fz,_⟩;exact⟨fz,uG _⟩
 .rintro i H' v H'' hi ⟨sx,fz,ea⟩ ⟨rfl,k,v',hk,rfl⟩;obtain⟨z,b,x,rfl,rfl,fr,ez⟩:=hM.oA.at hk;obtain⟨⟨m,hm,hml⟩,ex⟩:(∃n∈D.W0,z∈D.ln n)/\toQ D lv D.W0 z=x:=by
   unfold onF at ez;by_cases c:∃n∈D.W0,z∈D.ln n
   .rw[gJ c] at ez;exact⟨c,uQ ez⟩
   .rw[gI c] at ez;cases ez
  have hRo:Rd H'' dto (.dK kto):=.inr ⟨o,fz⟩;have hRr:Rd H'' dr (.dK kr):=by
   by_cases e:dr=dto
   .have e1:=hM.r;rw[e,hM.o] at e1
    cases e1
    rw[e];exact hRo
   .exact .inl (sx _ _ e hM.r)
  have tS:qb2 H H'':=fun a xs e=>sx a _ (fun z=>by subst z;rw[hM.o] at e;cases e) e;have ho2:=sx _ _ (ne_of ho hM.o (by intro z;cases z)) ho;have hrA:=hM.rA;have gr:qby HS D.rm z=some (D.rm z):=qbe (hM.hs m hm z hml);have rbt:=hM.b.rt D.W0 ok.nd (fun n hn=>hn) z;have rbr:=rm_rb ok hm hml;have le:=hle m hm z hml;have zl:((vZ i false).map V.bl).length<sizeLine:=by
   rw[zA,yF];show _<16777216;omega
  clear hk;rw[show kV (uH z)=V.str z from rfl];left;rename_i p1 hp1;have s1:=qa4 hp1 (.tup [V.int (D.rm z),V.int 1]);have f1:qbf (upd H'' p1 (.tup [V.int (D.rm z),V.int 1])) p1 (D.rm z:Rat):=qde qa1;have oA1:=(hM.oA.t tS).t (qb2.of s1);have fz1:=s1 _ _ fz;have ea1:=s1 _ _ ea;generalize upd H'' p1 (.tup [V.int (D.rm z),V.int 1])=H3 at*;refine qed (.inr ⟨o,fz1⟩) oA1 ez fun b1 hb1=>?_;left;refine⟨p1,b1,_,_,rfl,f1,hb1,rbr,by rw[<-ex];exact rbt,?_⟩;rw[gL (show ¬(D.rm z:Rat)<x by rw[<-ex];grind)];refine⟨_,ea1,zl,fun b u n e=>?_,?_,?_⟩
  .rw[qa7 fun w=>by subst w;rw[hna0] at e;cases e];exact s1 _ _ (sx b u n e)
  .rw[qa7 fun w=>by rw[<-w,hM.o] at hna0;cases hna0];exact fz1
  .rw[qa1,List.replicate_succ',zL];rfl
 rintro H' ⟨sx,fz,ea⟩;have nns:na≠dto:=fun z=>by subst z;rw[hM.o] at hna0;cases hna0
 have eN:upd H' dto (.dK kto) na=some (.lst ((vZ kto.length false).map V.bl)):=by rw[qa7 nns];exact ea
 have sm:Same H (upd H' dto (.dK kto)):=qd1 hM.o sx;refine⟨_,qfm fz (qcd hM.o),?_⟩;left;refine r_any (SqL.of eN) ?_;rw[show(vZ kto.length false).any id=false by simp];left;exact q _ sm
inductive sp_is_paper(K:uS)(d:Ad)(vs:List V)(H:Hp)(Q:VK)(E:XK):Prop
 |mk(sm t dr dlv dto dtp:Addr)(S:Ts)(D:Dl)(HS:List Str)(kr klv kto ktp:List (Key×V))(lv tp:Str->Rat)(r:R3)(_:vs=[.ref sm,.ref r.a,.int (D.wa r.n)])(_:DlOk D)(_:SmAt d H sm t dr dlv dto dtp S D HS kr klv kto ktp lv tp)(_:R3At H r)(_:qbf H r.s (shQ D lv r.n))(_:r.n∈D.W0)(_:∀H',Same H H'->Q (.bl (papB D lv r.n r.pv)) H')
include T in
theorem wck:FnOk P w K mg base (My.CX1 P w) 7 d.w7o d.w6j ["sums","row","want"] (sp_is_paper K d):=by
 exists okX T.wag wd6
 .right
 obtain⟨sm,t,dr,dlv,dto,dtp,S,D,HS,kr,klv,kto,ktp,lv,tp,r,rfl,ok,hM,hR,hF,hn,q⟩:=h;refine⟨_,(qa2 (qb4 (qai qgv (~~~1) qck (qar _)) (qa5 (qad (qci (op_eqD (hu8 hr)) (~~~1) (qbq #[pv 2,qa6]) (qar _)))) qak)
  (qa5 (qad (qci op_in_seq (~~~1) (qb1 (pv 0) T.w2g T.w0p ((w4u T).mono ∅) hr T.w5l .nil qaq #[~~~1]) (by rfl))))),?_⟩
 walk_at"d"
 try dsimp only[cxC]
 refine qac (σ:=[sr sm,sr r.a,some (.int (D.wa r.n))]) rfl ?_;have cl:=T.w2g;have rT:=hR.t;rcases hR.p with ep|⟨z,ep⟩
 .rw[ep] at rT q;left;rename_i p1 hp1;have n1:r.s≠p1:=qa9 hF hp1;have s1:=qa4 hp1 (.tup [V.int (D.wa r.n),V.int 1]);refine r_eqD (n:=1) n1 ∅ (deq_fr (hF.same s1) (qde qa1) n1) ?_;exact q _ s1
 .rw[ep] at rT q;obtain⟨dx,ho⟩:=hM.ob;left;refine⟨sm,t,dr,dlv,dto,dtp,S,D,HS,kr,klv,kto,ktp,lv,tp,r.n,rfl,ok,hM,hn,fun l H1 s1 fl el=>?_⟩;refine r_inSs (SqL.of el) ?_;exact q _ s1
structure Gd(H:Hp)(D:Dl)(lv:Str->Rat)(r:R3):Prop where
 at_:R3At H r
 f:r.n∈D.W0->qbf H r.s (shQ D lv r.n)
theorem Gd.same{H H':Hp}{D:Dl}{lv:Str->Rat}{r:R3}(h:Gd H D lv r)(s:Same H H'):Gd H' D lv r:=⟨h.at_.same s,fun z=>(h.f z).same s⟩
theorem Gd.tt{r:R3}(h:Gd H D lv r)(s:qb2 H H'):Gd H' D lv r:=⟨h.at_.tt s,fun z=>s _ _ (h.f z)⟩
theorem deq_strL{K:uS}{L':List Str}(ha:SqL K H a (L.map V.str))(hb:SqL K H b (L'.map V.str))(ne:a≠b):DEq K H (n+1) (.ref a) (.ref b) (decide (L=L')):=by
 by_cases c:L.length=L'.length
 .have z:=DEq.ls (n:=n) (e:=fun j=>decide (L[j]?=L'[j]?)) ha hb ne (by rw[zA,zA];exact c) fun j h1 h2=>by
   rw[List.getElem_map,List.getElem_map];have k1:j<L.length:=by rw[zA] at h1;exact h1
   have k2:j<L'.length:=by omega
   have w:=DEq.flat (K:=K) (H:=H) (n:=n) (x:=.str L[j]) (y:=.str L'[j]) rfl rfl;have e:eqV (.str L[j]) (.str L'[j])=decide (L[j]?=L'[j]?):=by
    rw[zB k1,zB k2];by_cases d:L[j]=L'[j]
    .rw[d];simp[eqV]
    .rw[gL fun z=>d (uQ z)];simp[eqV,d]
   rw[e] at w;exact w
  have e:(vG (L.map V.str).length).all (fun j=>decide (L[j]?=L'[j]?))=decide (L=L'):=by
   rw[zA];by_cases d:L=L'
   .subst d;simp
   .rw[gL d,List.all_eq_false];refine wT fun no=>d (List.ext_getElem? fun j=>?_);by_cases k:j<L.length
    .exact wT fun w=>no ⟨j,yI.mpr k,by simpa using w⟩
    .rw[dG #[],dG #[]]
  rw[e] at z;exact z
 .have z:=DEq.lsN (K:=K) (H:=H) (n:=n) ha hb ne (by rw[zA,zA];exact c);rw[gL fun e=>c (congrArg wF e)];exact z
structure Shs(D:Dl)(lv:Str->Rat):Prop where
 b:LvB D lv
 lo:∀n∈D.W0,0<=shQ D lv n
 le:∀n∈D.W0,shQ D lv n<=(D.wa n:Rat)
 rm:∀n∈D.W0,∀h∈D.ln n,toQ D lv D.W0 h<=(D.rm h:Rat)
def Shs.of(ok:DlOk D){lf lv:Str->Rat}{M:Rat}{N:Nat}(I:RdI D [] lf lv M N)(b:LvB D lv):Shs D lv:=⟨b,fun n hn=>(I.sh ok hn).1,fun n hn=>(I.sh ok hn).2.1,fun n hn h hh=>by
 have h1:=I.nn n hn h hh;rw[I.full h] at h1;grind⟩
theorem c_rows{K:uS}{H:Hp}{Q:VK}{l acc:Addr}{rows:List R3}{caps:List Nat}{te:TE}{σ:L2.St}(f:R3->V)(hl:H l=some (.lst (rows.map fun r=>V.ref r.a)))(rl:rows.length<=20)(ha:H acc=none)
  (step:∀r∈rows,∀H',Same H H'->∀R:VK,(∀H3,Same H' H3->R (f r) H3)->te (some (.ref r.a)::qcb caps σ) H' R)(q:∀H1,Same H H1->H1 acc=some (.lst (rows.map f))->Q (.ref acc) H1):COMP (Itl K l) caps tTrue te acc σ (upd H acc (.lst [])) Q:=by
 refine c_by rows.length (fun i' Hx=>Same H Hx/\Hx acc=some (.lst ((rows.take i').map f))) ⟨qa4 ha _,qa1⟩ ?_ ?_ ?_ ?_
 .rintro i' Hx hi' ⟨sx,_⟩;exact⟨_,.ref (rows[i']).a,SqL.of (sx _ _ hl),by rw[zC,zB hi'];rfl⟩
 .rintro Hx ⟨sx,_⟩;exact⟨_,SqL.of (sx _ _ hl),by rw[zA];exact uG _⟩
 .rintro i' Hx v H'' hi' ⟨sx,ea⟩ ⟨rfl,hv⟩;have hv:=hv _ (SqL.of (sx _ _ hl));rw[zC,zB hi'] at hv
  cases hv
  refine r_true ?_;rw[gJ rfl];refine step _ (zX hi') H'' sx _ fun H3 s3=>⟨_,s3 _ _ ea,?_,qb6 (sx.trans s3) ha,?_⟩
  .rw[zA,zS];show _<16777216;omega
  .rw[qa1,zO,zB hi',zL];rfl
 .rintro H1 ⟨s1,e⟩;rw[zK] at e;exact q H1 s1 e
inductive sp_is_even(K:uS)(d:Ad)(vs:List V)(H:Hp)(Q:VK)(E:XK):Prop
 |mk(t dr dw l:Addr)(wv:V)(S:Ts)(D:Dl)(HS:List Str)(kr kw:List (Key×V))(lv:Str->Rat)(rows:List R3)(_:vs=[.ref t,.ref dr,.ref dw,.ref l,wv])(_:DlOk D)(_:vX D.W0=true)(_:TrD d H t S D)(_:Wgh H S D wv)(_:H dr=some (.dK kr))(_:AD kr (qby HS D.rm))(_:H dw=some (.dK kw))(_:AD kw (qby D.W0 D.wa))(_:(∀n∈D.W0,∀h∈D.ln n,h∈HS))(_:H l=some (.lst (rows.map fun r=>V.ref r.a)))(_:(∀r∈rows,Gd H D lv r))(_:rows.length<=20)(_:Shs D lv)(_:∀H',Same H H'->Q (.bl (evB D lv rows)) H')
set_option maxHeartbeats 9000000 in
include T in
theorem w5v:FnOk P w K mg base (My.CX1 P w) 10 d.w9e d.w5u ["tree","rooms","wants","dealt","weigh"] (sp_is_even K d):=by
 exists okDX T.w58 w5w
 .right
 obtain⟨t,dr,dw,l,wv,S,D,HS,kr,kw,lv,rows,rfl,ok,srt,hT,hg,hr0,hrA,hw,hwA,hs,hl,hR,rl,hS,q⟩:=h;refine⟨_,(qa2 (qb4 (qai (op_neD (hu8 hr)) (qch (caps:=[]) (cn:=[]) (qc6 rfl rfl (by rfl) (by rfl) rfl trivial (by rfl) rfl trivial ∅) rfl (qaw (pv 3)) (fun _ _ _ _=>qdd) (fun _ _ _ _=>(~~~0))) (qag (qcc rfl) rfl T.w33 wB #[pv 2]) (qar _)) (qa5 (qad qcg)) qak)
  (qa2 (qb4 (qbz (qbg (qag (qev rfl) rfl T.wgk bD #[qch (caps:=[2]) (cn:=["wants"]) (qc6 rfl rfl (by rfl) (by rfl) rfl ⟨rfl,trivial⟩ (by rfl) rfl ⟨⟨rfl,rfl,rfl,rfl,_,rfl⟩,trivial⟩ ∅) rfl (qaw (pv 3)) (fun _ _ _ _=>qdd) (fun _ _ _ _=>(qaf ((wdr T).mono ∅) hr rfl T.wej T.wad.kp T.wf2 .nil qay #[~~~0,pv 1|||~~~0]))]))) (qa5 (qad qcg)) qak)
  (qa2 (qae (i:=5) w5w.nd rfl (uF rfl) qb3)
  (qa2 (qb0 (qbi rfl rfl) rfl (qaw (pv 3)) (qab (i:=6) w5w.nd rfl (uF rfl)) (qa5 (qbh (qat hr) (pv 5) (~~~6) (~~~6) rfl)))
  (qa2 (qae (i:=7) w5w.nd rfl (eS rfl) (qfe T.w83 ((w8a T).mono ∅) hr rfl T.whn T.w95 .nil qaq #[pv 0,pv 1,pv 5,qav ((w73 T).mono ∅) hr rfl T.w8e T.w5d.kp T.w89 .nil qaq #[pv 0,pv 2,pv 4]]))
  (qa5 (qad (qej (pe_meth0 (pv 7) T.w2g T.w0i ((w5z T).mono ∅) hr T.w6r .nil qay) (qei (qag (qev rfl) rfl T.wgk bD #[pe_compX rfl rfl rfl qaq (caps:=[2,7]) (cn:=["wants","sums"]) (qc6 rfl rfl (by rfl) (by rfl) rfl ⟨rfl,⟨rfl,trivial⟩⟩ (by rfl) rfl ⟨⟨rfl,rfl,rfl,rfl,_,rfl⟩,⟨⟨rfl,rfl,rfl,rfl,_,rfl⟩,trivial⟩⟩ ∅) rfl (qaw (pv 3)) (fun _ _ _ _=>qdd) (fun _ _ _ _=>(pe_callB2 ((wck T).mono ∅) hr rfl T.wen T.wag.kp T.wei .nil #[pv 2,pv 0,pv 1|||~~~0]))])))))))))),?_⟩
 walk_at"d"
 try dsimp only[cxC]
 refine qac (σ:=[sr t,sr dr,sr dw,sr l,some (wv),none,none,none]) rfl ?_;have cl:=T.w2g;have l8:=ok.l8;have kp:=qdb hwA ok.nd;left;intro C s9 H9 fp lc hlc;refine c_rows (fun r=>V.str r.n) hl rl hlc (fun r hr H' sx R q'=>?_) fun H1 s1 elc=>?_
 .have rT:=((hR r hr).same sx).at_.t;left;exact q' _ (Same.refl _)
 have elc:H1 lc=some (.lst ((rows.map (·.n)).map V.str)):=by rw[yM];exact elc
 left;refine qe3 (ss:=qc2 kw) (.inl (s1 _ _ hw)) hwA.keys (by have:=kp.length_eq;omega) fun lo ss hlo hp hss=>?_;have ess:ss=D.W0:=qew (hp.trans kp) hss srt;subst ess;have nlo:lc≠lo:=qa9 elc hlo;have s2:=s1.trans (qa4 hlo (.lst (D.W0.map V.str)));left;refine r_neD (n:=1) nlo ∅ (deq_strL (n:=0) (SqL.of (qaa elc hlo)) (SqL.of qa1) nlo) ?_;generalize upd H1 lo (.lst (D.W0.map V.str))=H2 at*;clear hlo hp hss elc s1 nlo hlc;by_cases cn:rows.map (·.n)=D.W0
 .rw[gK cn];have inW:∀r∈rows,r.n∈D.W0:=fun r hr=>by rw[<-cn];exact zI.mpr ⟨r,hr,rfl⟩
  have hl2:=s2 _ _ hl;have hR2:∀r∈rows,Gd H2 D lv r:=fun r hr=>(hR r hr).same s2;left;intro C2 s92 H92 fp2 la hla;refine c_rows (fun _=>V.bl true) hl2 rl hla (fun r hrm H'' sx R q'=>?_) fun H3 s3 ela=>?_
  .have hG:=(hR2 r hrm).same sx;have rT:=hG.at_.t;have hn:=inW r hrm;have hRw:Rd H'' dw (.dK kw):=.inl (sx _ _ (s2 _ _ hw));have gw:qby D.W0 D.wa r.n=some (D.wa r.n):=qbe hn;left;exact⟨r.s,shQ D lv r.n,D.wa r.n,rfl,hG.f hn,hS.b.rs r.n hn,wa_rb ok hn,hS.lo r.n hn,hS.le r.n hn,fun Hy sy=>q' _ sy⟩
  have ela:H3 la=some (.lst ((rows.map fun _=>true).map V.bl)):=by rw[yM];exact ela
  have s03:=s2.trans s3;left;refine r_all (SqL.of ela) ?_;rw[show(rows.map fun _=>true).all id=true by simp];have hR3:∀r∈rows,Gd H3 D lv r:=fun r hr=>(hR2 r hr).same s3;have hl3:=s3 _ _ hl2;clear ela hla s2 s3 hl2 hR2;left;rename_i ds hds;have s4:=s03.trans (qa4 hds (.dK []));have eds:upd H3 ds (.dK []) ds=some (.dK []):=qa1;have fds:=s03.free hds;have nld:l≠ds:=qa9 hl fds;have hR4:∀r∈rows,Gd (upd H3 ds (.dK [])) D lv r:=fun r hr=>(hR3 r hr).same (qa4 hds _);generalize upd H3 ds (.dK [])=H4 at*;have hl4:=s4 _ _ hl;clear hR3 hl3 hds s03;left;refine qbs (xs:=rows.map fun r=>V.ref r.a) (fun i σ H'=>∃(ks:List (Key×V))(w6:Option V),σ=[sr t,sr dr,sr dw,sr l,some wv,sr ds,w6,none]/\SameBut ds H4 H'/\H' ds=some (.dK ks)/\FD H' ks (qdv ((rows.take i).map (·.n)) (shQ D lv))) ⟨[],none,rfl,fun b u _ e=>e,eds,FD.nil.cast fun z=>rfl⟩ ?_ ?_ ?_
  .rintro i σ H' _ ⟨ks,w6,rfl,sb,_⟩;exact SqL.of (sb _ _ nld hl4)
  .rintro i v σ H' hv ⟨ks,w6,rfl,sb,ed,hF⟩;rw[zC] at hv;obtain⟨r,hr,rfl⟩:=uI.mp hv;have hrm:=zF hr;have hn:=inW r hrm;have tS:qb2 H4 H':=fun b xs e=>sb b _ (fun z=>by subst z;rw[eds] at e;cases e) e;have hG:=(hR4 r hrm).tt tS;have rT:=hG.at_.t;have etk:(rows.take (i+1)).map (·.n)=(rows.take i).map (·.n)++[r.n]:=by rw[zO,hr,zL];rfl
   have hko:ks.length<=D.W0.length:=hF.len fun z hz=>by
    obtain⟨x,hx,rfl⟩:=zI.mp hz;exact inW x (yB hx)
   have zk:ks.length<sizeLine:=by show _<16777216;omega
   clear hv hko;left;have t8:qb2 H' (upd H' ds (.dK (qbp ks (uH r.n) (.ref r.s)))):=qb2.upd ed fun xs e=>by cases e
   exact⟨_,_,rfl,fun b u hb e=>by rw[qa7 hb];exact sb b u hb e,qa1,((hF.put r.n (hG.f hn)).t t8).cast fun y=>by rw[etk,domQ_app]⟩
  rintro σ H5 ⟨ks,w6,rfl,sb,ed,hF⟩;rw[zA,zK,cn] at hF;have s5:Same H H5:=fun b u e=>sb b u (fun z=>by subst z;rw[fds] at e;cases e) (s4 b u e);clear sb eds nld hl4 hR4 s4;left;refine⟨t,dw,wv,S,D,kw,rfl,ok,srt,hT.same s5,hg.same s5,s5 _ _ hw,hwA,fun lg kg H6 s6 flg elg hgA=>?_⟩;have s06:=s5.trans s6;have ngs:lg≠ds:=fun z=>by subst z;rw[ed] at flg;cases flg
  have ed6:=s6 _ _ ed;have hF6:=hF.t (qb2.of s6);clear ed hF s5 s6 flg;left;intro x dx hx hdx ndx;have sH:Same H6 (upd (upd H6 dx (.own x)) x (.ins d.w02 dx [])):=(qa4 hdx _).trans (qa4 (by rw[qa7 ndx.symm];exact hx) _);have hTo:upd (upd H6 dx (.own x)) x (.ins d.w02 dx []) x=some (.ins d.w02 dx []):=qa1;have hx0:=s06.free hx;generalize upd (upd H6 dx (.own x)) x (.ins d.w02 dx [])=H7 at*;refine⟨x,dx,t,dr,ds,lg,S,D,lv,ks,kg,rfl,hTo,ok,⟨H,s06.trans sH,hx0,fds,hT⟩,hS.b,sH _ _ ed6,hF6.t (qb2.of sH),hF6.keys ok.nd,sH _ _ elg,hgA,ngs,fun dlv dto dtp klv kto ktp tp H8 sb8 ex8 elv8 hlv8 eto8 hto8 etp8 htp8 hTp fdlv fdto fdtp=>⟨rfl,?_⟩⟩;have s8:Same H6 H8:=fun b u e=>sb8 b u (fun z=>by subst z;rw[hx] at e;cases e) (sH b u e);have s08:=s06.trans s8;have hM:SmAt d H8 x t dr dlv dto dtp S D HS kr klv kto ktp lv tp:=⟨⟨dx,ex8⟩,hT.same s08,s08 _ _ hr0,hrA,elv8,hlv8,eto8,hto8,etp8,htp8,hTp,hS.b,hs⟩;clear sb8 elv8 hlv8 eto8 hto8 etp8 htp8 fdlv fdto fdtp hTo sH hx hdx ed6 hF6 s06 s8 elg;left;refine⟨x,t,dr,dlv,dto,dtp,S,D,HS,kr,klv,kto,ktp,lv,tp,rfl,ok,hM,hS.rm,fun HA sA=>?_⟩;have hMA:=hM.same sA;have s0A:=s08.trans sA;have hlA:=s0A _ _ hl;have hRA:∀r∈rows,Gd HA D lv r:=fun r hr=>(hR r hr).same s0A;clear hM s08 sA;left;intro C3 s93 H93 fp3 lz hlz;refine c_rows (fun r=>V.bl (papB D lv r.n r.pv)) hlA rl hlz (fun r hrm H'' sx R q'=>?_) fun HB sB elz=>?_
  .have hG:=(hRA r hrm).same sx;have rT:=hG.at_.t;have hn:=inW r hrm;have hRw:Rd H'' dw (.dK kw):=.inl (sx _ _ (s0A _ _ hw));have gw:qby D.W0 D.wa r.n=some (D.wa r.n):=qbe hn;left;exact⟨x,t,dr,dlv,dto,dtp,S,D,HS,kr,klv,kto,ktp,lv,tp,r,rfl,ok,hMA.same sx,hG.at_,hG.f hn,hn,fun Hy sy=>q' _ sy⟩
  have elz:HB lz=some (.lst ((rows.map fun r=>papB D lv r.n r.pv).map V.bl)):=by rw[yM];exact elz
  left;refine r_all (SqL.of elz) ?_;have e:(rows.map fun r=>papB D lv r.n r.pv).all id=evB D lv rows:=by
   unfold evB;rw[gK cn,fU];rfl
  rw[e];exact q _ (s0A.trans sB)
 .rw[gL cn];left;have e:evB D lv rows=false:=by unfold evB;rw[gL cn];rfl
  rw[e] at q;exact q _ s2
theorem lv_pair{n:Str} :((shQ D lv n).num:Rat)=lv n*(((shQ D lv n).den:Int)*D.wt n:Int):=by
 have h:=num_den (shQ D lv n);rw[vK,uX,h];have:shQ D lv n=lv n*(D.wt n:Rat):=rfl;generalize (((shQ D lv n).den:Nat):Rat)=x at*;rw[this];grind
theorem nd_int(q:Rat):((q.num:Int):Rat)=q*(((q.den:Nat):Int):Rat):=by rw[uX];exact num_den q
def RB.hn(h:RB q):Hug q.num:=Hug.small (vD h.n (wW ∅ ∅))
def RB.hd(h:RB q):Hug (q.den:Int):=Hug.small (by rw[wI];exact vD h.d (wW ∅ ∅))
theorem qe2{s:Str->Rat}{P:Str->Bool}:∀{l:List Str},qc8 (l.filter P) s=qc8 l fun n=>if P n=true then s n else 0
 | []=>rfl
 |n::l=>by
  show _=(if P n=true then s n else 0)+qc8 l _;by_cases c:P n=true
  .rw[cS c,gJ c,<-qe2];rfl
  .rw[aO c,gI c,<-qe2];grind
theorem qe4:z∈qg1 D nm h↔z∈nm/\z∈D.W0/\h∈D.ln z:=by unfold qg1;rw[yA,decide_eq_true_eq]
theorem ins_tot(ok:ShOk nm es D)(lv:Str->Rat)(h:Str):qc8 (qg1 D nm h) (shQ D lv)=toQ D lv D.W0 h:=by
 have p:(qg1 D nm h).Perm (D.W0.filter fun n=>decide (h∈D.ln n)):=by
  refine(cB (ok.nd.filter _) (ok.ok.nd.filter _)).mpr fun z=>?_;show z∈qg1 D nm h↔_;rw[qe4,yA,decide_eq_true_eq];exact⟨fun a=>a.2,fun a=>⟨ok.sub z a.1,a⟩⟩
 rw[sumQ_perm p,qe2];unfold toQ;exact qc7 fun n _=>by
  by_cases c:h∈D.ln n
  .rw[gJ (gK c),gJ c]
  .rw[gI (by simpa using c),gI c]
noncomputable def tpS(D:Dl)(lv:Str->Rat)(n:Str):Int:=(shQ D lv n).num
noncomputable def btS(D:Dl)(lv:Str->Rat)(n:Str):Int:=((shQ D lv n).den:Int)
theorem Shs.ps(ok:DlOk D){lv:Str->Rat}(h:Shs D lv){U:List Str}(sub:∀n∈U,n∈D.W0):PsB U (tpS D lv) (btS D lv) (shQ D lv):=by
 refine⟨fun n hn=>den_pos _,fun n hn=>?_,fun n hn=>nd_int _,fun n hn=>h.lo n (sub n hn),fun n hn=>?_⟩
 .have h1:=(h.b.rs n (sub n hn)).d;show(((shQ D lv n).den:Nat):Int)<=2^290;have h2:(((shQ D lv n).den:Nat):Int)<=(((2^290:Nat)):Int):=by exact_mod_cast aQ h1
  exact yY h2 ∅
 .have h1:=h.le n (sub n hn);have h2:=ok.a1 n (sub n hn);have h3:(D.wa n:Rat)<=(((10^35:Nat)):Rat):=by
   have h1:D.wa n<=(((10^35:Nat)):Int):=yY h2 ∅;rw[<-uX];exact_mod_cast h1
  grind
def r_ninSs{K:uS}{p:Addr}(h:SqL K H p (nm.map V.str))(q:Q (.bl (!decide (y∈nm))) H):rIn K true (.str y) (.ref p) H Q:=⟨p,_,rfl,.inl h,rfl,My.qes nm,by rw[My.qg2];exact q⟩
def hug_rm{x:Int}(h0:0<=x)(h1:x<=10^31):Hug x:=Hug.small (vF (show x.natAbs<=10^31 by omega) ∅)
inductive sp_ends(K:uS)(d:Ad)(vs:List V)(H:Hp)(Q:VK)(E:XK):Prop
 |mk(p ln le dg dw dr:Addr)(nm:List Str)(es:List Nat)(kg kw kr:List (Key×V))(D:Dl)(ds:Addr)(us:List (Str×Addr))(lv:Str->Rat)(z:Str)(j:Nat)(_:vs=[.ref p,.ref ds,.str z,iV j])(_:ShAt H p ln le dg dw dr nm es kg kw kr D)(_:ShOk nm es D)(_:(∀y∈nm,0<=D.rm y/\D.rm y<=10^31))(_:H ds=some (.dK (oK us)))(_:PD H us (tpS D lv) (btS D lv))(_:(∀n,n∈us.map (·.1)↔n∈D.W0))(_:Shs D lv)(_:z∈D.W0)(_:j<nm.length)(_:∀H',Same H H'->Q (.bl (decide (nmG nm j∈(D.ln z).filter (stB D lv z)))) H')
set_option maxHeartbeats 9000000 in
include T in
theorem wfs:FnOk P w K mg base CX0 5 d.wfj d.wcj ["_law_sharing_here","_law_shares","_law_name_here","_law_at"] (sp_ends K d):=by
 exists T.wga.ok w3w
 .right
 obtain⟨p,ln,le,dg,dw,dr,nm,es,kg,kw,kr,D,ds,us,lv,z,j,rfl,hA,ok,rmb,hds,hP,hu,hS,hz,hj,q⟩:=h;refine⟨_,(qa2 (qf5 (pv 0) (qf6 rfl (qaj (qab (i:=4) w3w.nd rfl (uF rfl)) (qaj (qab (i:=5) w3w.nd rfl (uF rfl)) (qaj (qab (i:=6) w3w.nd rfl (uF rfl)) (qaj (qab (i:=7) w3w.nd rfl (uF rfl)) (qaj (qab (i:=8) w3w.nd rfl (uF rfl)) qcq)))))))
  (qa2 (qae (i:=9) w3w.nd rfl (uF rfl) (qaf ((wcd T).mono ∅) hr rfl T.wec T.wbd.kp T.wea .nil qay #[pv 0,pv 3]))
  (qa2 (qae (i:=10) w3w.nd rfl (uF rfl) (qaf ((w8z T).mono ∅) hr rfl T.wan T.w7w.kp T.wah .nil qay #[pv 1,pv 9]))
  (qa2 (qb4 (PW.pt (qdx (qai qct (pv 2) (pv 9) (by rfl)) (qdz (qai op_ne (~~~10) (qah qdk (pv 8|||qal qax (pv 4) (pv 3) nofun) (~~~10)) (qar _))))) (qa5 (qad qcg)) qak)
  (qa2 (qb0 vH rfl (qaw (pv 9)) (qab (i:=11) w3w.nd rfl (uF rfl)) (qa2 (qae (i:=12) w3w.nd rfl (uF rfl) (qbq #[qal qao (pv 1|||pv 11) qa6 nofun,qah qdk (qal qao (pv 1|||pv 11) qa6 nofun) (pv 6|||pv 11)]))
  (qa5 (qb4 (qbg (qaf ((wb5 T).mono ∅) hr rfl T.we7 T.wc6.kp T.we3 .nil qay #[qbq #[qal qao (pv 1|||pv 2) qa6 nofun,qah qdk (qal qao (pv 1|||pv 2) qa6 nofun) (pv 6|||pv 2)],pv 12])) (qa5 (qad qcg)) qak))))
  (qa5 (qad qcg))))))),?_⟩
 walk_at"d"
 try dsimp only[cxC]
 refine qac (σ:=[sr p,sr ds,some (.str z),some (iV j),none,none,none,none,none,none,none,none,none]) rfl ?_;have etop:=hA.top;have l7:=ok.l7;have hgA:=hA.gA;have hrA:=hA.rA;have hjm:nmG nm j∈nm:=qcz hj;have znm:=ok.sub z hz;left;refine⟨p,ln,le,dg,dw,dr,nm,es,kg,kw,kr,D,j,rfl,hA,ok,hj,fun li H1 s1 fli eli=>?_⟩;have hA1:=hA.same s1;have il:(qg1 D nm (nmG nm j)).length<=7:=vJ (yC _ _) l7;left;have ps:=hS.ps ok.ok (U:=us.map (·.1)) fun n hn=>(hu n).mp hn;have sbi:∀n∈qg1 D nm (nmG nm j),n∈us.map (·.1):=fun n hn=>(hu n).mpr (qe4.mp hn).2.1;refine⟨ds,li,us,qg1 D nm (nmG nm j),tpS D lv,btS D lv,shQ D lv,rfl,.inl (s1 _ _ hds),hP.t (qb2.of s1),ps,eli,sbi,il,fun pt t b hpt b0 b2 et=>?_⟩;rw[ins_tot ok lv] at et;have q3:=q35;have sB:=ps.sum sbi il;rw[ins_tot ok lv] at sB;have b3:b<=2^3000:=le3000 b2;have hgb:=hug_b b0 b3;have hgr:=hug_rm (rmb _ hjm).1 (rmb _ hjm).2;have bq:(0:Rat) <(b:Rat):=by exact_mod_cast b0
 have ieq:t=D.rm (nmG nm j)*b↔toQ D lv D.W0 (nmG nm j)=(D.rm (nmG nm j):Rat):=by
  have c:(t=D.rm (nmG nm j)*b)↔((t:Int):Rat)=((D.rm (nmG nm j)*b:Int):Rat):=by exact_mod_cast Iff.rfl
  rw[c,et,vK];constructor
  .intro h;have h1:(toQ D lv D.W0 (nmG nm j)-(D.rm (nmG nm j):Rat))*(b:Rat)=0:=by grind
   rcases Rat.mul_eq_zero.mp h1 with h2|h2
   .grind
   .grind
  .intro h;rw[h]
 have s2:=s1.trans (qa4 hpt (.tup [V.int t,V.int b]));have ept:upd H1 pt (.tup [V.int t,V.int b]) pt=some (.tup [V.int t,V.int b]):=qa1;have eli2:=qaa (o':=.tup [V.int t,V.int b]) eli hpt;generalize upd H1 pt (.tup [V.int t,V.int b])=H2 at*;have hA2:=hA.same s2;have hRr:Rd H2 dr (.dK kr):=.inl hA2.r;have hRg:Rd H2 dg (.dK kg):=.inl hA2.g;have grm:qby nm D.rm (nmG nm j)=some (D.rm (nmG nm j)):=qbe hjm;have xn:atI (nm.map V.str) ((j:Nat):Int)=some (.str (nmG nm j)):=qbu (by rw[zC,qd3 hj];rfl);rw[show iV j=V.int ((j:Nat):Int) from rfl];generalize ((j:Nat):Int)=jj at*;clear sB q3 b3 bq et b2 hpt s1 hA1 eli fli;left;refine r_ninSs (SqL.of eli2) ?_;by_cases c:z∈qg1 D nm (nmG nm j)
 .rw[gK c];left;refine qce (SqL.of hA2.n) xn ?_;left;by_cases ct:t=D.rm (nmG nm j)*b
  .rw[gK ct];have tq:=ieq.mp ct;clear ct ieq hgb hgr b0;left;refine qbs (xs:=(qg1 D nm (nmG nm j)).map V.str) (fun i σ H'=>∃(w11 w12:Option V),σ=[sr p,sr ds,some (V.str z),some (V.int jj),sr ln,sr le,sr dg,sr dw,sr dr,sr li,sr pt,w11,w12]/\Same H2 H'/\∀m∈(qg1 D nm (nmG nm j)).take i,¬lv z<lv m) ⟨none,none,rfl,Same.refl _,fun m hm=>by simp at hm⟩ ?_ ?_ ?_
   .rintro i σ H' _ ⟨w11,w12,rfl,sm,_⟩;exact SqL.of (sm _ _ eli2)
   .rintro i v σ H' hv ⟨w11,w12,rfl,sm,hlt⟩;rw[zC] at hv;obtain⟨m,hm,rfl⟩:=uI.mp hv;have hmI:=zF hm;obtain⟨mnm,mW,mln⟩:=qe4.mp hmI;have etk:(qg1 D nm (nmG nm j)).take (i+1)=(qg1 D nm (nmG nm j)).take i++[m]:=by rw[zO,hm];rfl
    have s02:=s2.trans sm;have hP':=hP.t (qb2.of s02);obtain⟨am,lkm,em⟩:=hP'.look ((hu m).mpr mW);obtain⟨az,lkz,ez⟩:=hP'.look ((hu z).mpr hz);have hRs:Rd H' ds (.dK (oK us)):=.inl (s02 _ _ hds);have hRg':Rd H' dg (.dK kg):=.inl (sm _ _ hA2.g);have gm:qby nm D.wt m=some (D.wt m):=qbe mnm;have gz:qby nm D.wt z=some (D.wt z):=qbe znm;have hg:∀y∈D.W0,Hug (tpS D lv y)/\Hug (btS D lv y)/\Hug (D.wt y)/\Hug (btS D lv y*D.wt y)/\0<btS D lv y*D.wt y:=fun y hy=>by
     have w1:=ok.ok.w1 y hy;have w2:=ok.ok.w2 y hy;have d1:=(hS.b.rs y hy).d;refine⟨(hS.b.rs y hy).hn,(hS.b.rs y hy).hd,Hug.small (vF (show(D.wt y).natAbs<=1000 by omega) ∅),Hug.small ?_,dO (den_pos _) #[]⟩;unfold btS;rw[xM,wI];have:(shQ D lv y).den*(D.wt y).natAbs<=2^290*1000:=dP (aQ d1) #[];exact vF this ∅
    obtain⟨g1,g2,g3,g4,g5⟩:=hg m mW;obtain⟨k1,k2,k3,k4,k5⟩:=hg z hz;have lp:tpS D lv z*(btS D lv m*D.wt m)<tpS D lv m*(btS D lv z*D.wt z)↔lv z<lv m:=qgw k5 g5 (lv_pair (D:=D) (lv:=lv) (n:=z)) (lv_pair (D:=D) (lv:=lv) (n:=m));clear hv hm hg hRg;left;refine qgt hRs lkm ?_;left;refine qgt hRs lkm ?_;left;rename_i p1 hp1;have s3:=qa4 hp1 (.tup [V.int (tpS D lv m),V.int (btS D lv m*D.wt m)]);have e1:upd H' p1 (.tup [V.int (tpS D lv m),V.int (btS D lv m*D.wt m)]) p1=some (.tup [V.int (tpS D lv m),V.int (btS D lv m*D.wt m)]):=qa1;generalize upd H' p1 (.tup [V.int (tpS D lv m),V.int (btS D lv m*D.wt m)])=H3 at*;have hRs3:Rd H3 ds (.dK (oK us)):=.inl (s3 _ _ (s02 _ _ hds));have hRg3:Rd H3 dg (.dK kg):=.inl (s3 _ _ (sm _ _ hA2.g));have ez3:=s3 _ _ ez;clear hRs hRg' em ez;refine qgt hRs3 lkz ?_;left;refine qgt hRs3 lkz ?_;left;rename_i p2 hp2;have s4:=qa4 hp2 (.tup [V.int (tpS D lv z),V.int (btS D lv z*D.wt z)]);refine⟨p2,p1,tpS D lv z,btS D lv z*D.wt z,tpS D lv m,btS D lv m*D.wt m,rfl,qa1,s4 _ _ e1,k1,k4,g1,g4,?_⟩;by_cases cl:lv z<lv m
    .rw[gK (lp.mpr cl)];left;have e:¬nmG nm j∈(D.ln z).filter (stB D lv z):=fun h=>by
      have h2:=(yA.mp h).2;unfold stB at h2;have h3:=(of_decide_eq_true h2).2 m mW mln;grind
     rw[gL e] at q;exact q _ (s02.trans (s3.trans s4))
    .rw[gL fun w=>cl (lp.mp w)];left;refine⟨_,_,rfl,sm.trans (s3.trans s4),fun y hy=>?_⟩;rw[etk] at hy;rcases zH.mp hy with h1|h1
     .exact hlt y h1
     .rw[zE.mp h1];exact cl
   rintro σ H' ⟨w11,w12,rfl,sm,hlt⟩;rw[zA,zK] at hlt;left;have e:nmG nm j∈(D.ln z).filter (stB D lv z):=by
    refine yA.mpr ⟨(qe4.mp c).2.2,?_⟩;unfold stB;refine gK ⟨tq,fun m hm hml=>?_⟩;have:=hlt m (qe4.mpr ⟨ok.sub m hm,hm,hml⟩);grind
   rw[gK e] at q;exact q _ (s2.trans sm)
  .rw[gL ct];left;have e:¬nmG nm j∈(D.ln z).filter (stB D lv z):=fun h=>by
    have h2:=(yA.mp h).2;unfold stB at h2;exact ct (ieq.mpr (of_decide_eq_true h2).1)
   rw[gL e] at q;exact q _ s2
 .rw[gL c];left;have e:¬nmG nm j∈(D.ln z).filter (stB D lv z):=fun h=>c (qe4.mpr ⟨znm,hz,(yA.mp h).1⟩);rw[gL e] at q;exact q _ s2
theorem ShOk.hs(ok:ShOk nm es D):∀n∈D.W0,∀h∈D.ln n,h∈nm:=fun n hn h hh=>by
 obtain⟨k,hk,e⟩:=zU.mp (ok.sub n hn);have e2:nmG nm k=n:=by unfold nmG;rw[zB hk,e];rfl
 rw[<-e2,ok.ln k hk] at hh;obtain⟨j,hj,rfl⟩:=zI.mp hh;exact qcz (by have:=qcu ok.low k hk j hj;omega)
def usR(rows:List R3):List (Str×Addr):=rows.map fun r=>(r.n,r.s)
theorem qdp(rows:List R3):(usR rows).map (·.1)=rows.map (·.n):=by unfold usR;rw[yM];rfl
inductive sp_let_by(K:uS)(d:Ad)(vs:List V)(H:Hp)(Q:VK)(E:XK):Prop
 |mk(p ln le dg dw dr:Addr)(nm:List Str)(es:List Nat)(kg kw kr:List (Key×V))(D:Dl)(lv:Str->Rat)(l:Addr)(rows:List R3)(_:vs=[.ref p,.ref l])(_:ShAt H p ln le dg dw dr nm es kg kw kr D)(_:ShOk nm es D)(_:(∀y∈nm,0<=D.rm y/\D.rm y<=10^31))(_:H l=some (.lst (rows.map fun r=>V.ref r.a)))(_:(∀r∈rows,Gd H D lv r))(_:rows.length<=20)(_:Shs D lv)(_:∀H',Same H H'->Q (.bl (evB D lv rows)) H')
set_option maxHeartbeats 9000000 in
include T in
theorem wg3:FnOk P w K mg base CX0 6 d.wb2 d.w9p ["_law_sharing_here","_law_dealt"] (sp_let_by K d):=by
 exists T.wdz.ok w1e
 .right
 obtain⟨p,ln,le,dg,dw,dr,nm,es,kg,kw,kr,D,lv,l,rows,rfl,hA,ok,rmb,hl,hR,rl,hS,q⟩:=h;refine⟨_,(qa2 (qf5 (pv 0) (qf6 rfl (qaj (qab (i:=2) w1e.nd rfl (uF rfl)) (qaj (qab (i:=3) w1e.nd rfl (uF rfl)) (qaj (qab (i:=4) w1e.nd rfl (uF rfl)) (qaj (qab (i:=5) w1e.nd rfl (uF rfl)) (qaj (qab (i:=6) w1e.nd rfl (uF rfl)) qcq)))))))
  (qa2 (qb4 (qai (op_neD (hu8 hr)) (qch (caps:=[]) (cn:=[]) (qc6 rfl rfl (by rfl) (by rfl) rfl trivial (by rfl) rfl trivial ∅) rfl (qaw (pv 1)) (fun _ _ _ _=>qdd) (fun _ _ _ _=>(~~~0))) (qag (qcc rfl) rfl T.w33 wB #[pv 5]) (qar _)) (qa5 (qad qcg)) qak)
  (qa2 (qae (i:=7) w1e.nd rfl (uF rfl) qb3)
  (qa2 (qb0 vH rfl (qaw (pv 1)) (qab (i:=8) w1e.nd rfl (uF rfl)) (qa5 (qbh (qat hr) (pv 7) (~~~8) (~~~8) rfl)))
  (qa2 (qb0 vH rfl (qco rfl T.w53 #[qag qba rfl T.w3r vP #[pv 2]]) (qab (i:=9) w1e.nd rfl (uF rfl)) (qa5 (qb4 (qbg (qaf ((wb5 T).mono ∅) hr rfl T.we7 T.wc6.kp T.we3 .nil qay #[qbq #[pv 6|||qal qax (pv 2) (pv 9) nofun,qa6],qaf ((w8z T).mono ∅) hr rfl T.wan T.w7w.kp T.wah .nil qay #[pv 7,qaf ((wcd T).mono ∅) hr rfl T.wec T.wbd.kp T.wea .nil qay #[pv 0,pv 9]]])) (qa5 (qad qcg)) qak)))
  (qa2 (qb0 vH rfl (qaw (pv 1)) (pg_tup rfl (qaj (qab (i:=10) w1e.nd rfl (uF rfl)) (qaj (qab (i:=11) w1e.nd rfl (uF rfl)) (qaj (qab (i:=12) w1e.nd rfl (uF rfl)) qcq)))) (qa2 (qb4 (PW.pt (qdx (qai op_lt (~~~11) qa6 (qar _)) (qdz (qbg (qaf ((wb5 T).mono ∅) hr rfl T.we7 T.wc6.kp T.we3 .nil qay #[qbq #[pv 5|||pv 10,qa6],pv 11]))))) (qa5 (qad qcg)) qak)
  (qa2 (qb4 (PW.pt (qgf (qai qgv (pv 12) qck (qar _)) (qex (qbg (qaf ((wb5 T).mono ∅) hr rfl T.we7 T.wc6.kp T.we3 .nil qay #[pv 11,qbq #[pv 5|||pv 10,qa6]]))))) (qa5 (qad qcg)) qak)
  (qa5 (qdc (qb4 (qai qek (pv 12) qck (qar _)) (qa2 (qb4 (qai qct (pv 12) (pv 2) (by rfl)) (qa5 (qad qcg)) qak)
  (qa5 (qb4 (qbz (qbg (qaf ((wfs T).mono ∅) hr rfl T.whp T.wga.kp T.whj .nil qay #[pv 0,pv 7,pv 10,qf7 vT cR PySem.F.type_list_index mt_idxS (pv 2) #[pv 12]]))) (qa5 (qad qcg)) qak))) qak))))))
  (qa5 (qad qcg)))))))),?_⟩
 walk_at"d"
 try dsimp only[cxC]
 refine qac (σ:=[sr p,sr l,none,none,none,none,none,none,none,none,none,none,none]) rfl ?_;have etop:=hA.top;have l7:=ok.l7;have l8:=ok.ok.l8;have hwA:=hA.wA;have hrA:=hA.rA;have kp:=qdb hA.wA ok.ok.nd;left;intro C s9 H9 fp lc hlc;refine c_rows (fun r=>V.str r.n) hl rl hlc (fun r hr H' sx R q'=>?_) fun H1 s1 elc=>?_
 .have rT:=((hR r hr).same sx).at_.t;left;exact q' _ (Same.refl _)
 have elc:H1 lc=some (.lst ((rows.map (·.n)).map V.str)):=by rw[yM];exact elc
 left;refine qe3 (ss:=qc2 kw) (.inl (s1 _ _ hA.w)) hwA.keys (by have:=kp.length_eq;omega) fun lo ss hlo hp hss=>?_;have ess:ss=D.W0:=qew (hp.trans kp) hss ok.srt;subst ess;have nlo:lc≠lo:=qa9 elc hlo;have s2:=s1.trans (qa4 hlo (.lst (D.W0.map V.str)));left;refine r_neD (n:=1) nlo ∅ (deq_strL (n:=0) (SqL.of (qaa elc hlo)) (SqL.of qa1) nlo) ?_;generalize upd H1 lo (.lst (D.W0.map V.str))=H2 at*;clear hlo hp hss elc s1 nlo hlc;by_cases cn:rows.map (·.n)=D.W0
 .rw[gK cn];have inW:∀r∈rows,r.n∈D.W0:=fun r hr=>by rw[<-cn];exact zI.mpr ⟨r,hr,rfl⟩
  have rnd:(rows.map (·.n)).Nodup:=by rw[cn];exact ok.ok.nd
  left;rename_i ds hds;have s3:=s2.trans (qa4 hds (.dK []));have eds:upd H2 ds (.dK []) ds=some (.dK (oK (usR (rows.take 0)))):=qa1;have fds:=s2.free hds;have nld:l≠ds:=qa9 hl fds;generalize upd H2 ds (.dK [])=H3 at*;have hl3:=s3 _ _ hl;have hR3:∀r∈rows,Gd H3 D lv r:=fun r hr=>(hR r hr).same s3;clear hds s2;left;refine qbs (xs:=rows.map fun r=>V.ref r.a) (fun i σ H'=>∃(w8:Option V),σ=[sr p,sr l,sr ln,sr le,sr dg,sr dw,sr dr,sr ds,w8,none,none,none,none]/\SameBut ds H3 H'/\H' ds=some (.dK (oK (usR (rows.take i))))) ⟨none,rfl,fun b u _ e=>e,eds⟩ ?_ ?_ ?_
  .rintro i σ H' _ ⟨w8,rfl,sb,_⟩;exact SqL.of (sb _ _ nld hl3)
  .rintro i v σ H' hv ⟨w8,rfl,sb,ed⟩;rw[zC] at hv;obtain⟨r,hr,rfl⟩:=uI.mp hv;have hrm:=zF hr;have tS:qb2 H3 H':=fun b xs e=>sb b _ (fun z=>by subst z;rw[eds] at e;cases e) e;have rT:=((hR3 r hrm).tt tS).at_.t;have nz:r.n∉(usR (rows.take i)).map (·.1):=by
    rw[qdp,List.map_take];exact qem rnd (by rw[zC,hr];rfl)
   have etk:usR (rows.take (i+1))=usR (rows.take i)++[(r.n,r.s)]:=by unfold usR;rw[zO,hr,zL];rfl
   have zk:(oK (usR (rows.take i))).length<sizeLine:=by
    rw[oK_len];unfold usR;rw[zA,zS];show _<16777216;omega
   clear hv;left;rw[putK_oK (qdt.mpr nz)];exact⟨_,rfl,fun b u hb e=>by rw[qa7 hb];exact sb b u hb e,by rw[qa1,etk]⟩
  rintro σ H4 ⟨w8,rfl,sb,ed⟩;rw[zA,zK] at ed;have s4:Same H H4:=fun b u e=>sb b u (fun z=>by subst z;rw[fds] at e;cases e) (s3 b u e);have hA4:=hA.same s4;have hR4:∀r∈rows,Gd H4 D lv r:=fun r hr=>(hR r hr).same s4;have hl4:=s4 _ _ hl;have hP4:PD H4 (usR rows) (tpS D lv) (btS D lv):=⟨by rw[qdp];exact rnd,fun x hx=>by
   obtain⟨r,hr,rfl⟩:=zI.mp hx;exact(hR4 r hr).f (inW r hr)⟩
  have hu:∀n,n∈(usR rows).map (·.1)↔n∈D.W0:=fun n=>by rw[qdp,cn]
  have ps:=hS.ps ok.ok (U:=(usR rows).map (·.1)) fun n hn=>(hu n).mp hn;have en4:=hA4.n;have ln7:(nm.map V.str).length=nm.length:=zA _;clear sb eds nld hl3 hR3 s3;left;rw[show((nm.map V.str).length:Int).toNat=nm.length by rw[ln7];omega];refine qg4 (n:=nm.length) (fun i σ H'=>∃(w9:Option V),σ=[sr p,sr l,sr ln,sr le,sr dg,sr dw,sr dr,sr ds,w8,w9,none,none,none]/\Same H4 H') ⟨none,rfl,Same.refl _⟩ ?_ ?_
  .rintro j σ H' hj ⟨w9,rfl,sm⟩;have hjm:nmG nm j∈nm:=qcz hj;have hA':=hA4.same sm;have xn:atI (nm.map V.str) (0+((j:Nat):Int))=some (.str (nmG nm j)):=by rw[bX];exact qbu (by rw[zC,qd3 hj];rfl)
   have hRr:Rd H' dr (.dK kr):=.inl hA'.r;have grm:qby nm D.rm (nmG nm j)=some (D.rm (nmG nm j)):=qbe hjm;have il:(qg1 D nm (nmG nm j)).length<=7:=vJ (yC _ _) l7;have sbi:∀n∈qg1 D nm (nmG nm j),n∈(usR rows).map (·.1):=fun n hn=>(hu n).mpr (qe4.mp hn).2.1;have rb:=rmb _ hjm;have tle:toQ D lv D.W0 (nmG nm j)<=(D.rm (nmG nm j):Rat):=by
    by_cases e:∃n∈D.W0,nmG nm j∈D.ln n
    .obtain⟨n,hn,hh⟩:=e;exact hS.rm n hn _ hh
    .rw[toQ_none e];exact_mod_cast rb.1
   left;refine qce (SqL.of hA'.n) xn ?_;left;rename_i p1 hp1;have s5:=sm.trans (qa4 hp1 (.tup [V.int (D.rm (nmG nm j)),V.int 1]));have e1:upd H' p1 (.tup [V.int (D.rm (nmG nm j)),V.int 1]) p1=some (.tup [V.int (D.rm (nmG nm j)),V.int 1]):=qa1;generalize upd H' p1 (.tup [V.int (D.rm (nmG nm j)),V.int 1])=H5 at*;refine⟨p,ln,le,dg,dw,dr,nm,es,kg,kw,kr,D,j,by rw[bX];rfl,hA4.same s5,ok,hj,fun li H6 s6 fli eli=>?_⟩;have s46:=s5.trans s6;left;refine⟨ds,li,usR rows,qg1 D nm (nmG nm j),tpS D lv,btS D lv,shQ D lv,rfl,.inl (s46 _ _ ed),hP4.t (qb2.of s46),ps,eli,sbi,il,fun pt t b hpt b0 b2 et=>?_⟩;have q3:=q35;have sB:=ps.sum sbi il;have b3:b<=2^3000:=le3000 b2;have hgb:=hug_b b0 b3;have hgt:=hug_t b0 b3 et (by grind) (by grind);rw[ins_tot ok lv] at et;have lp:=qgw (t1:=D.rm (nmG nm j)) (b1:=1) (q1:=(D.rm (nmG nm j):Rat)) ∅ b0 (by rw[show((1:Int):Rat)=1 from rfl];grind) et;left;refine⟨p1,pt,D.rm (nmG nm j),1,t,b,rfl,qa4 hpt _ _ _ (s6 _ _ e1),qa1,hug_rm rb.1 rb.2,Hug.small ∅,hgt,hgb,?_⟩;rw[gL fun w=>by have:=lp.mp w;grind];left;exact⟨_,rfl,s46.trans (qa4 hpt _)⟩
  rintro σ H5 ⟨w9,rfl,s5⟩;have hA5:=hA4.same s5;have hl5:=s5 _ _ hl4;have hR5:∀r∈rows,Gd H5 D lv r:=fun r hr=>(hR4 r hr).same s5;have hP5:=hP4.t (qb2.of s5);have ed5:=s5 _ _ ed;have s05:=s4.trans s5;clear hA4 hR4 hP4 hl4 ed s4 s5 en4;left;refine qbs (xs:=rows.map fun r=>V.ref r.a) (fun i σ H'=>∃(w10 w11 w12:Option V),σ=[sr p,sr l,sr ln,sr le,sr dg,sr dw,sr dr,sr ds,w8,w9,w10,w11,w12]/\Same H5 H'/\∀r∈rows.take i,papB D lv r.n r.pv=true) ⟨none,none,none,rfl,Same.refl _,fun r hr=>by simp at hr⟩ ?_ ?_ ?_
  .rintro i σ H' _ ⟨w10,w11,w12,rfl,sm,_⟩;exact SqL.of (sm _ _ hl5)
  .rintro i v σ H' hv ⟨w10,w11,w12,rfl,sm,hpb⟩;rw[zC] at hv;obtain⟨r,hr,rfl⟩:=uI.mp hv;have hrm:=zF hr;have hn:=inW r hrm;have hG:=(hR5 r hrm).same sm;have rT:=hG.at_.t;have rF:=hG.f hn;have etk:rows.take (i+1)=rows.take i++[r]:=by rw[zO,hr];rfl
   have hRw:Rd H' dw (.dK kw):=.inl (sm _ _ hA5.w);have gw:qby D.W0 D.wa r.n=some (D.wa r.n):=qbe hn;have nn:0<=(shQ D lv r.n).num:=Rat.num_nonneg.mpr (hS.lo r.n hn);have hw0:=hug_rm (ok.ok.a0 r.n hn) (ok.ok.a1 r.n hn);have h1:Hug 1:=Hug.small ∅;have rb:=hS.b.rs r.n hn;have hnu:=rb.hn;have hde:=rb.hd;have hle:=hS.le r.n hn;have ew1:((D.wa r.n:Int):Rat)=(D.wa r.n:Rat)*((1:Int):Rat):=by rw[show((1:Int):Rat)=1 from rfl];grind
   have lpA:=qgw (t1:=D.wa r.n) (b1:=1) ∅ (den_pos (shQ D lv r.n)) ew1 (nd_int (shQ D lv r.n));have lpB:=qgw (t2:=D.wa r.n) (b2:=1) (den_pos (shQ D lv r.n)) ∅ (nd_int (shQ D lv r.n)) ew1;have bad:papB D lv r.n r.pv=false->∀Hx,Same H5 Hx->Q (.bl false) Hx:=fun e Hx sx=>by
    have e2:evB D lv rows=false:=by
     unfold evB;rw[Bool.and_eq_false_iff];exact .inr (List.all_eq_false.mpr ⟨r,hrm,by rw[e];decide⟩)
    rw[<-e2];exact q Hx (s05.trans sx)
   have good:papB D lv r.n r.pv=true->∀y∈rows.take (i+1),papB D lv y.n y.pv=true:=fun e y hy=>by
    rw[etk] at hy;rcases zH.mp hy with h1|h1
    .exact hpb y h1
    .rw[zE.mp h1];exact e
   unfold qbf at rF;clear hv hr hpb;rcases hG.at_.p with ep|⟨z,ep⟩
   .rw[ep] at rT bad good;left;rename_i p1 hp1;have s6:=sm.trans (qa4 hp1 (.tup [V.int (D.wa r.n),V.int 1]));have e1:upd H' p1 (.tup [V.int (D.wa r.n),V.int 1]) p1=some (.tup [V.int (D.wa r.n),V.int 1]):=qa1;have rF6:=qaa (o':=.tup [V.int (D.wa r.n),V.int 1]) rF hp1;generalize upd H' p1 (.tup [V.int (D.wa r.n),V.int 1])=H6 at*;refine⟨p1,r.s,D.wa r.n,1,_,_,rfl,e1,rF6,hw0,h1,hnu,hde,?_⟩;rw[gL fun w=>by have:=lpA.mp w;grind];have hRw6:Rd H6 dw (.dK kw):=.inl (s6 _ _ hA5.w);clear hRw;left;rename_i p2 hp2;have s7:=s6.trans (qa4 hp2 (.tup [V.int (D.wa r.n),V.int 1]));refine⟨r.s,p2,_,_,D.wa r.n,1,rfl,qaa rF6 hp2,qa1,hnu,hde,hw0,h1,?_⟩;by_cases cl:shQ D lv r.n <(D.wa r.n:Rat)
    .rw[gK (lpB.mpr cl)];left;exact bad (gL fun e=>by grind) _ s7
    .rw[gL fun w=>cl (lpB.mp w)];left;refine qdy ?_;left;exact⟨_,_,_,rfl,s7,good (gK (by grind))⟩
   .rw[ep] at rT bad good;left;rename_i p1 hp1;have s6:=sm.trans (qa4 hp1 (.tup [V.int (D.wa r.n),V.int 1]));have e1:upd H' p1 (.tup [V.int (D.wa r.n),V.int 1]) p1=some (.tup [V.int (D.wa r.n),V.int 1]):=qa1;have rF6:=qaa (o':=.tup [V.int (D.wa r.n),V.int 1]) rF hp1;generalize upd H' p1 (.tup [V.int (D.wa r.n),V.int 1])=H6 at*;refine⟨p1,r.s,D.wa r.n,1,_,_,rfl,e1,rF6,hw0,h1,hnu,hde,?_⟩;rw[gL fun w=>by have:=lpA.mp w;grind];left;refine qdy ?_;left;refine r_ninSs (SqL.of (s6 _ _ hA5.n)) ?_;by_cases cz:z∈nm
    .rw[gK cz];obtain⟨k,hk,rfl⟩:=zU.mp cz;have ek:nmG nm k=nm[k]:=by unfold nmG;rw[zB hk];rfl
     have en6:=s6 _ _ hA5.n;left;refine r_idxS (SqL.of en6) ok.nd hk ?_;left;refine⟨p,ln,le,dg,dw,dr,nm,es,kg,kw,kr,D,ds,usR rows,lv,r.n,k,rfl,hA5.same s6,ok,rmb,s6 _ _ ed5,hP5.t (qb2.of s6),hu,hS,hn,hk,fun H7 s7=>?_⟩;rw[ek];by_cases ce:nm[k]∈(D.ln r.n).filter (stB D lv r.n)
     .rw[gK ce];left;exact⟨_,_,_,rfl,s6.trans s7,good (gK ce)⟩
     .rw[gL ce];left;exact bad (gL ce) _ (s6.trans s7)
    .rw[gL cz];left;exact bad (gL fun e=>cz (ok.hs r.n hn z (yA.mp e).1)) _ s6
  rintro σ H' ⟨w10,w11,w12,rfl,sm,hpb⟩;rw[zA,zK] at hpb;left;have e:evB D lv rows=true:=by
   unfold evB;rw[gK cn,Bool.true_and];exact zZ.mpr hpb
  rw[e] at q;exact q _ (s05.trans sm)
 .rw[gL cn];left;have e:evB D lv rows=false:=by unfold evB;rw[gL cn];rfl
  rw[e] at q;exact q _ s2
def r_slL{K:uS}{xs:List V}{lo hi:Option Int}(h:SqL K H a xs)(q:∀p,H p=none->Q (.ref p) (upd H p (.lst (cutV xs lo hi)))):rSlL K (.ref a) lo hi H Q:=⟨a,xs,rfl,h,q⟩
def rV(rows:List R3):List V:=rows.map fun r=>V.ref r.a
def cut_rows(rows:List R3)(lo hi:Option Int):∃rows':List R3,cutV (rV rows) lo hi=rV rows'/\(∀r∈rows',r∈rows)/\rows'.length<=rows.length:=
 ⟨(rows.drop (HT.sIx (rV rows).length 0 lo)).take (HT.sIx (rV rows).length (rV rows).length hi-HT.sIx (rV rows).length 0 lo),by unfold cutV rV;rw[<-List.map_drop,<-List.map_take],fun r hr=>List.mem_of_mem_drop (yB hr),by rw[zS,List.length_drop];omega⟩
inductive sp_drawn(K:uS)(d:Ad)(vs:List V)(H:Hp)(Q:VK)(E:XK):Prop
 |mk(p ln le dg dw dr:Addr)(nm:List Str)(es:List Nat)(kg kw kr:List (Key×V))(D:Dl)(lv:Str->Rat)(l:Addr)(rows:List R3)(c:Int)(st:Str)(_:vs=[.ref p,.ref l,.int c,.str st])(_:ShAt H p ln le dg dw dr nm es kg kw kr D)(_:nm.length<=7)(_:H l=some (.lst (rV rows)))(_:(∀r∈rows,Gd H D lv r))(_:rows.length<=10)(_:∀(l':Addr)(rows':List R3) H',Same H H'->H l'=none->H' l'=some (.lst (rV rows'))->(∀r∈rows',Gd H' D lv r)->rows'.length<=20->Q (.ref l') H')
set_option maxHeartbeats 9000000 in
include T in
theorem wgq:FnOk P w K mg base CX0 4 d.wdp d.wb4 ["_law_sharing_here","_law_dealt","_law_cell","_law_stranger"] (sp_drawn K d):=by
 exists T.wge.ok w3n
 .right
 obtain⟨p,ln,le,dg,dw,dr,nm,es,kg,kw,kr,D,lv,l,rows,c,st,rfl,hA,n7,hl,hR,rl,q⟩:=h;refine⟨_,(qa2 (qae (i:=4) w3n.nd rfl (uF rfl) (qah qdl (qbb #[qck,pv 3]) (qal qax (pv 0) qa6 nofun)))
  (qa2 (qae (i:=5) w3n.nd rfl (uF rfl) (qbb qa3))
  (qa2 (qb0 vH rfl (qco rfl T.w53 #[qag qba rfl T.w3r vP #[pv 1]]) (qab (i:=6) w3n.nd rfl (uF rfl)) (qa2 (qae (i:=7) w3n.nd rfl (uF rfl) (qal qax (pv 1) (pv 6) nofun))
  (qa2 (qae (i:=8) w3n.nd rfl (uF rfl) (qaf ((w8v T).mono ∅) hr rfl T.wbf T.w8w.kp T.wb6 .nil qay #[pv 2,pv 6]))
  (qa2 (qae (i:=9) w3n.nd rfl (uF rfl) (~~~7))
  (qa2 (qdc (qb4 (qai qft (qah qb5 (pv 8) qa6) qa6 (qar _)) (qa5 (qae (i:=9) w3n.nd rfl (uF rfl) (qal qax (pv 4) (qah qb5 (qah qbl (pv 8) qa6) (qag qba rfl T.w3r vP #[pv 4])) nofun))) qak))
  (qa5 (qbn (qf7 vT wC wD qc0 (pv 5) #[qbq #[~~~7,~~~7,pv 9]]))))))))
  (qa5 (qad (pv 5)))))),?_⟩
 walk_at"d"
 try dsimp only[cxC]
 refine qac (σ:=[sr p,sr l,some (.int c),some (.str st),none,none,none,none,none,none]) rfl ?_;have etop:=hA.top;have en:=hA.n;have zc: [V.non,V.str st].length+(nm.map V.str).length<=sizeLine:=by
  rw[zA];show 2+nm.length<=16777216;omega
 left;rename_i p1 hp1;refine r_cat qa1 (qaa en hp1) zc fun p2 hp2=>?_;have s2:=(qa4 hp1 (.lst [V.non,V.str st])).trans (qa4 hp2 (.lst ([V.non,V.str st]++nm.map V.str)));have ep2:upd (upd H p1 (.lst [V.non,V.str st])) p2 (.lst ([V.non,V.str st]++nm.map V.str)) p2=some (.lst ([V.non,V.str st]++nm.map V.str)):=qa1;generalize upd (upd H p1 (.lst [V.non,V.str st])) p2 (.lst ([V.non,V.str st]++nm.map V.str))=H2 at*;have hx:∀v∈ [V.non,V.str st]++nm.map V.str,v=.non\/∃z,v=.str z:=fun v hv=>by
  rcases zH.mp hv with h|h
  .simp only[zP,yD,or_false] at h;exact h.imp id fun e=>⟨st,e⟩
  .obtain⟨z,_,rfl⟩:=zI.mp h;exact .inr ⟨z,rfl⟩
 have hxl:0 <([V.non,V.str st]++nm.map V.str).length:=by rw[zJ];show 0<2+_;omega
 generalize [V.non,V.str st]++nm.map V.str=xs at*;have hl2:=s2 _ _ hl;clear hp1 hp2 zc en etop;left;rename_i lf hlf;have s3:=s2.trans (qa4 hlf (.lst (rV [])));have elf:upd H2 lf (.lst (rV [])) lf=some (.lst (rV [])):=qa1;have ep3:=qaa (o':=.lst (rV [])) ep2 hlf;have hlf0:=s2.free hlf;have npl:p2≠lf:=qa9 ep2 hlf;rw[show HO.lst []=HO.lst (rV []) from rfl];generalize upd H2 lf (.lst (rV []))=H3 at*;have hl3:=s3 _ _ hl;have rvl:(rV rows).length=rows.length:=zA _;clear ep2 hlf hl2 s2;left;rw[show((rV rows).length:Int).toNat=rows.length by rw[rvl];omega];refine qg4 (n:=rows.length) (fun i σ H'=>∃(rows':List R3)(w6 w7 w8 w9:Option V),σ=[sr p,sr l,some (.int c),some (.str st),sr p2,sr lf,w6,w7,w8,w9]/\Same H H'/\H' p2=some (.lst xs)/\H' lf=some (.lst (rV rows'))/\(∀r∈rows',Gd H' D lv r)/\rows'.length=i) ⟨[],none,none,none,none,rfl,s3,ep3,elf,fun r hr=>by simp at hr,rfl⟩ ?_ ?_
 .rintro i σ H' hi ⟨rows',w6,w7,w8,w9,rfl,sm,ep',el',hG',hi'⟩;have xr:atI (rV rows) (0+((i:Nat):Int))=some (.ref rows[i].a):=by rw[bX];exact qbu (by unfold rV;rw[zC,zB hi];rfl)
  have hG:=(hR _ (zX hi)).same sm;generalize rows[i]=r at*;have rT:=hG.at_.t;have hl':=sm _ _ hl;generalize hki:(0:Int)+((i:Nat):Int)=ki at*;left;refine qce (SqL.of hl') xr ?_;left;refine⟨_,_,rfl,#[],#[],fun num hnum=>?_⟩;left;refine r_cut (fun σ Hx=>∃pv:V,σ=[sr p,sr l,some (.int c),some (.str st),sr p2,sr lf,some (.int ki),sr r.a,some (.int num),some pv]/\Hx=H'/\(pv=.non\/∃z,pv=.str z)) ?_ ?_
  .have xl0:(0:Int) <(xs.length:Int):=by omega
   have m0:=uT (num.fdiv 3) (show(xs.length:Int)≠0 by omega);have m1:=vB (num.fdiv 3) xl0;left;refine i_2 (fun cc=>?_) (fun cc=>?_)
   .obtain⟨v,hv,hvx⟩:∃v,atI xs (num.fdiv 3%(xs.length:Int))=some v/\v∈xs:=by
     generalize num.fdiv 3%(xs.length:Int)=k at*;have hk:k.toNat<xs.length:=by omega
     have this:((k.toNat:Nat):Int)=k:=by omega
     have qq:atI xs ((k.toNat:Nat):Int)=some xs[k.toNat]:=qbu (zB hk);rw[this] at qq;exact⟨_,qq,zX hk⟩
    clear m0 m1 cc;left;refine qce (SqL.of ep') hv ?_;left;exact⟨v,rfl,rfl,hx v hvx⟩
   .clear m0 m1;left;exact⟨_,rfl,rfl,hG.at_.p⟩
  rintro σ' Hx ⟨pv,rfl,rfl,hpv⟩;have zl:(rV rows').length<sizeLine:=by unfold rV;rw[zA];show _<16777216;omega
  left;rename_i pt hpt;have s4:=qa4 hpt (.tup [V.str r.n,V.ref r.s,pv]);have ept:upd Hx pt (.tup [V.str r.n,V.ref r.s,pv]) pt=some (.tup [V.str r.n,V.ref r.s,pv]):=qa1;have el4:=qaa (o':=.tup [V.str r.n,V.ref r.s,pv]) el' hpt;generalize upd Hx pt (.tup [V.str r.n,V.ref r.s,pv])=H4 at*;have t5:qb2 H4 (upd H4 lf (.lst (rV rows'++[V.ref pt]))):=qb2.upd el4 fun ys e=>by cases e
  have t45:=(qb2.of s4).trans t5;refine⟨rows'++[⟨pt,r.n,r.s,pv⟩],_,_,_,_,rfl,qb6 (sm.trans s4) hlf0,by rw[qa7 npl];exact s4 _ _ ep',by rw[qa1];unfold rV;rw[zL];rfl,fun x hx'=>?_,by rw[zJ,zT,hi']⟩;rcases zH.mp hx' with h1|h1
  .exact(hG' x h1).tt t45
  .rw[zE.mp h1];exact⟨⟨t5 _ _ ept,hpv⟩,fun z=>t45 _ _ (hG.f z)⟩
 rintro σ H' ⟨rows',w6,w7,w8,w9,rfl,sm,ep',el',hG',hi'⟩;left;exact q lf rows' H' sm hlf0 el' hG' #[]
inductive sp_spoiled(K:uS)(d:Ad)(vs:List V)(H:Hp)(Q:VK)(E:XK):Prop
 |mk(D:Dl)(lv:Str->Rat)(l:Addr)(rows:List R3)(c:Int)(st:Str)(_:vs=[.ref l,.int c,.str st])(_:st∉D.W0)(_:H l=some (.lst (rV rows)))(_:(∀r∈rows,Gd H D lv r))(_:rows.length<=7)(_:∀(l':Addr)(rows':List R3) H',Same H H'->H l'=none->H' l'=some (.lst (rV rows'))->(∀r∈rows',Gd H' D lv r)->rows'.length<=20->Q (.ref l') H')
def rV_len(rows:List R3):(rV rows).length=rows.length:=zA _
def rV_app(a b:List R3):rV a++rV b=rV (a++b):=(zL ..).symm
theorem r_slR{K:uS}{rows:List R3}{lo hi:Option Int}(h:H a=some (.lst (rV rows)))(q:∀p rs H1,Same H H1->H1 p=some (.lst (rV rs))->(∀r∈rs,r∈rows)->rs.length<=rows.length->Q (.ref p) H1):rSlL K (.ref a) lo hi H Q:=by
 obtain⟨rs,e,m,l⟩:=cut_rows rows lo hi;exact r_slL (SqL.of h) fun p hp=>by rw[e];exact q p rs _ (qa4 hp _) qa1 m l
def qfr{ra rb:List R3}(ha:H a=some (.lst (rV ra)))(hb:H b=some (.lst (rV rb)))(z:ra.length+rb.length<=1000)(q:∀p H1,Same H H1->H p=none->H1 p=some (.lst (rV (ra++rb)))->Q (.ref p) H1):rCat (.ref a) (.ref b) H Q:=
 r_cat ha hb (by rw[rV_len,rV_len];show _<=16777216;omega) fun p hp=>by rw[rV_app];exact q p _ (qa4 hp _) hp qa1
set_option maxHeartbeats 9000000 in
include T in
theorem wf0:FnOk P w K mg base CX0 2 d.w9t d.w82 ["_law_dealt","_law_cell","_law_stranger"] (sp_spoiled K d):=by
 exists T.wc0.ok w7g
 .right
 obtain⟨D,lv,l,rows,c,st,rfl,hst,hl,hR,rl,q⟩:=h;refine⟨_,(qa2 (qb4 (qai (op_eqD (hu8 hr)) (pv 0) (qbb qa3) (qar _)) (qa5 (qad (qbb #[qbq #[pv 2,qbq #[qa6,qa6],qck]]))) qak)
  (qa2 (qae (i:=3) w7g.nd rfl (uF rfl) (qah qb5 (qah qbl (pv 1) qa6) (qag qba rfl T.w3r vP #[pv 0])))
  (qa2 (qae (i:=4) w7g.nd rfl (uF rfl) (qal qax (pv 0) (pv 3) nofun))
  (qa2 (qb4 (qai qel (qah qb5 (pv 1) qa6) qa6 (qar _)) (qa5 (qad (qah qdl (qcl qd8 (pv 0) qdj (qcy (pv 3))) (qcl qd8 (pv 0) (qcy (qah qbx (pv 3) qa6)) qdj)))) qak)
  (qa2 (qb4 (qai qel (qah qb5 (pv 1) qa6) qa6 (qar _)) (qa5 (qad (qah qdl (qah qdl (qcl qd8 (pv 0) qdj (qcy (pv 3))) (qbb #[pv 4])) (qcl qd8 (pv 0) (qcy (pv 3)) qdj)))) qak)
  (qa2 (qb4 (qai qel (qah qb5 (pv 1) qa6) qa6 (qar _)) (qa5 (qad (qah qdl (qah qdl (qcl qd8 (pv 0) qdj (qcy (pv 3))) (qcl qd8 (pv 0) (qcy (qah qbx (pv 3) qa6)) qdj)) (qbb #[pv 4])))) qak)
  (qa2 (qb4 (qai qel (qah qb5 (pv 1) qa6) qa6 (qar _)) (qa5 (qad (qah qdl (qah qdl (qcl qd8 (pv 0) qdj (qcy (pv 3))) (qbb #[qbq #[pv 2,~~~4,~~~4]])) (qcl qd8 (pv 0) (qcy (qah qbx (pv 3) qa6)) qdj)))) qak)
  (qa5 (qad (qbb qa3)))))))))),?_⟩
 walk_at"d"
 try dsimp only[cxC]
 refine qac (σ:=[sr l,some (.int c),some (.str st),none,none]) rfl ?_;left;rename_i pe hpe;have ne:l≠pe:=qa9 hl hpe;refine r_eqD (n:=1) ne ∅ (deq_nilL (n:=0) (SqL.of (qaa hl hpe)) (SqL.of qa1) ne) ?_;have s1:=qa4 hpe (.lst []);generalize upd H pe (.lst [])=H1 at*;have hl1:=s1 _ _ hl;by_cases c0:rV rows=[]
 .rw[gK c0];left;rename_i p1 hp1 p2 hp2 p3 hp3;have s2:=(s1.trans (qa4 hp1 (.tup [V.int 0,V.int 1]))).trans (qa4 hp2 (.tup [V.str st,V.ref p1,V.non]));have e2:upd (upd H1 p1 (.tup [V.int 0,V.int 1])) p2 (.tup [V.str st,V.ref p1,V.non]) p2=some (.tup [V.str st,V.ref p1,V.non]):=qa1;generalize upd (upd H1 p1 (.tup [V.int 0,V.int 1])) p2 (.tup [V.str st,V.ref p1,V.non])=H2 at*;refine q p3 [⟨p2,st,p1,.non⟩] _ (s2.trans (qa4 hp3 _)) (s2.free hp3) qa1 (fun r hr=>?_) (by show 1<=20;decide);rw[zE.mp hr];exact⟨⟨qaa e2 hp3,.inl rfl⟩,fun z=>absurd z hst⟩
 .rw[gL c0];have rl0:0<rows.length:=by
   rw[<-rV_len];exact bT.mpr c0
  have vl:=rV_len rows;have fin:∀{p:Addr} {rs:List R3} {H' H1:Hp},Same H H'->Same H' H1->H' p=none->H1 p=some (.lst (rV rs))->(∀r∈rs,Gd H1 D lv r)->rs.length<=20->Q (.ref p) H1:=fun s s' hp e m z=>q _ _ _ (s.trans s') (s.free hp) e m z;have gd:∀{H':Hp},Same H H'->∀r∈rows,Gd H' D lv r:=fun {H'} s r hr=>(hR r hr).same s;have m0:=uT (c.fdiv 5) (show((rV rows).length:Int)≠0 by omega);have m1:=vB (c.fdiv 5) (show(0:Int) <((rV rows).length:Int) by omega);left;generalize c.fdiv 5%((rV rows).length:Int)=k at*;obtain⟨r,hrm,xr⟩:∃r∈rows,atI (rV rows) k=some (.ref r.a):=by
   have hk:k.toNat<rows.length:=by omega
   have this:((k.toNat:Nat):Int)=k:=by omega
   have qq:atI (rV rows) ((k.toNat:Nat):Int)=some (.ref rows[k.toNat].a):=qbu (by unfold rV;rw[zC,zB hk];rfl);rw[this] at qq;exact⟨_,zX hk,qq⟩
  have rT1:=(gd s1 r hrm).at_.t;refine qce (SqL.of hl1) xr ?_;clear xr m0 m1 hpe ne q;left;refine i_2 (fun c1=>?_) (fun c1=>?_)
  .clear c1;left;refine r_slR hl1 fun p1 rs1 H2 n2 e1 b1 z1=>?_;have s2:=s1.trans n2;left;refine r_slR (s2 _ _ hl) fun p2 rs2 H3 n3 e2 b2 z2=>?_;have s3:=s2.trans n3;left;refine qfr (n3 _ _ e1) e2 #[] fun p3 H4 n4 hp3 e3=>?_;exact fin s3 n4 hp3 e3 (fun x hx=>gd (s3.trans n4) x ((zH.mp hx).elim (b1 x) (b2 x))) (by rw[zJ];omega)
  left;refine i_2 (fun c1=>?_) (fun c1=>?_)
  .clear c1;left;refine r_slR hl1 fun p1 rs1 H2 n2 e1 b1 z1=>?_;have s2:=s1.trans n2;left;rename_i p2 hp2;have n3:=qa4 hp2 (.lst (rV [r]));have e2:upd H2 p2 (.lst (rV [r])) p2=some (.lst (rV [r])):=qa1;rw[show HO.lst [V.ref r.a]=HO.lst (rV [r]) from rfl];generalize upd H2 p2 (.lst (rV [r]))=H3 at*;refine qfr (n3 _ _ e1) e2 (by show _+1<=_;omega) fun p3 H4 n4 _ e3=>?_;have s4:=(s2.trans n3).trans n4;left;refine r_slR (s4 _ _ hl) fun p4 rs2 H5 n5 e4 b2 z2=>?_;have s5:=s4.trans n5;left;refine qfr (n5 _ _ e3) e4 (by rw[zJ,zT];omega) fun p5 H6 n6 hp5 e5=>?_;refine fin s5 n6 hp5 e5 (fun x hx=>gd (s5.trans n6) x ?_) (by rw[zJ,zJ,zT];omega);rcases zH.mp hx with h1|h1
   .rcases zH.mp h1 with h2|h2
    .exact b1 x h2
    .rw[zE.mp h2];exact hrm
   .exact b2 x h1
  left;refine i_2 (fun c1=>?_) (fun c1=>?_)
  .clear c1;left;refine r_slR hl1 fun p1 rs1 H2 n2 e1 b1 z1=>?_;have s2:=s1.trans n2;left;refine r_slR (s2 _ _ hl) fun p2 rs2 H3 n3 e2 b2 z2=>?_;have s3:=s2.trans n3;left;refine qfr (n3 _ _ e1) e2 #[] fun p3 H4 n4 _ e3=>?_;have s4:=s3.trans n4;left;rename_i p4 hp4;have n5:=qa4 hp4 (.lst (rV [r]));have e4:upd H4 p4 (.lst (rV [r])) p4=some (.lst (rV [r])):=qa1;rw[show HO.lst [V.ref r.a]=HO.lst (rV [r]) from rfl];generalize upd H4 p4 (.lst (rV [r]))=H5 at*;have s5:=s4.trans n5;refine qfr (n5 _ _ e3) e4 (by rw[zJ];show _+1<=_;omega) fun p5 H6 n6 hp5 e5=>?_;refine fin s5 n6 hp5 e5 (fun x hx=>gd (s5.trans n6) x ?_) (by rw[zJ,zJ,zT];omega);rcases zH.mp hx with h1|h1
   .exact(zH.mp h1).elim (b1 x) (b2 x)
   .rw[zE.mp h1];exact hrm
  left;refine i_2 (fun c1=>?_) (fun c1=>?_)
  .clear c1;left;refine r_slR hl1 fun p1 rs1 H2 n2 e1 b1 z1=>?_;have s2:=s1.trans n2;have rT2:=n2 _ _ rT1;left;rename_i pt hpt p2 hp2;have n3:=(qa4 hpt (.tup [V.str st,V.ref r.s,r.pv])).trans (qa4 hp2 (.lst (rV [⟨pt,st,r.s,r.pv⟩])));have et:upd (upd H2 pt (.tup [V.str st,V.ref r.s,r.pv])) p2 (.lst (rV [⟨pt,st,r.s,r.pv⟩])) pt=some (.tup [V.str st,V.ref r.s,r.pv]):=qaa qa1 hp2;have e2:upd (upd H2 pt (.tup [V.str st,V.ref r.s,r.pv])) p2 (.lst (rV [⟨pt,st,r.s,r.pv⟩])) p2=some (.lst (rV [⟨pt,st,r.s,r.pv⟩])):=qa1;rw[show HO.lst [V.ref pt]=HO.lst (rV [⟨pt,st,r.s,r.pv⟩]) from rfl];generalize upd (upd H2 pt (.tup [V.str st,V.ref r.s,r.pv])) p2 (.lst (rV [⟨pt,st,r.s,r.pv⟩]))=H3 at*;refine qfr (n3 _ _ e1) e2 (by show _+1<=_;omega) fun p3 H4 n4 _ e3=>?_;have s4:=(s2.trans n3).trans n4;left;refine r_slR (s4 _ _ hl) fun p4 rs2 H5 n5 e4 b2 z2=>?_;have s5:=s4.trans n5;left;refine qfr (n5 _ _ e3) e4 (by rw[zJ,zT];omega) fun p5 H6 n6 hp5 e5=>?_;refine fin s5 n6 hp5 e5 (fun x hx=>?_) (by rw[zJ,zJ,zT];omega);rcases zH.mp hx with h1|h1
   .rcases zH.mp h1 with h2|h2
    .exact gd (s5.trans n6) x (b1 x h2)
    .rw[zE.mp h2];exact⟨⟨n6 _ _ (n5 _ _ (n4 _ _ et)),(hR r hrm).at_.p⟩,fun z=>absurd z hst⟩
   .exact gd (s5.trans n6) x (b2 x h1)
  left;rename_i pz hpz;exact fin (rs:=[]) s1 (qa4 hpz _) hpz qa1 (fun x hx=>by simp at hx) (wR _)
inductive sp_farthest(K:uS)(d:Ad)(vs:List V)(H:Hp)(Q:VK)(E:XK):Prop
 |mk(p ln le dg dw dr:Addr)(nm:List Str)(es:List Nat)(kg kw kr:List (Key×V))(D:Dl)(lv:Str->Rat)(l:Addr)(rows:List R3)(_:vs=[.ref p,.ref l])(_:ShAt H p ln le dg dw dr nm es kg kw kr D)(_:ShOk nm es D)(_:(∀y∈nm,0<=D.rm y/\D.rm y<=10^31))(_:H l=some (.lst (rV rows)))(_:(∀r∈rows,Gd H D lv r))(_:rows.map (·.n)=D.W0)(_:(∀r∈rows,papB D lv r.n r.pv=true))(_:Shs D lv)(_:∀(l':Addr)(rows':List R3) H',Same H H'->H l'=none->H' l'=some (.lst (rV rows'))->(∀r∈rows',Gd H' D lv r)->rows'.map (·.n)=D.W0->(∀r∈rows',papB D lv r.n r.pv=true)->Q (.ref l') H')
set_option maxHeartbeats 9000000 in
include T in
theorem wd2:FnOk P w K mg base CX0 6 d.w7x d.w6f ["_law_sharing_here","_law_dealt"] (sp_farthest K d):=by
 exists T.wal.ok w0a
 .right
 obtain⟨p,ln,le,dg,dw,dr,nm,es,kg,kw,kr,D,lv,l,rows,rfl,hA,ok,rmb,hl,hR,cn,hpb,hS,q⟩:=h;refine⟨_,(qa2 (qf5 (pv 0) (qf6 rfl (qaj (qab (i:=2) w0a.nd rfl (uF rfl)) (qaj (qab (i:=3) w0a.nd rfl (uF rfl)) (qaj (qab (i:=4) w0a.nd rfl (uF rfl)) (qaj (qab (i:=5) w0a.nd rfl (uF rfl)) (qaj (qab (i:=6) w0a.nd rfl (uF rfl)) qcq)))))))
  (qa2 (qae (i:=7) w0a.nd rfl (uF rfl) qb3)
  (qa2 (qb0 vH rfl (qaw (pv 1)) (qab (i:=8) w0a.nd rfl (uF rfl)) (qa5 (qbh (qat hr) (pv 7) (~~~8) (~~~8) rfl)))
  (qa2 (qae (i:=9) w0a.nd rfl (uF rfl) (qbb qa3))
  (qa2 (qb0 vH rfl (qaw (pv 1)) (pg_tup rfl (qaj (qab (i:=10) w0a.nd rfl (uF rfl)) (qaj (qab (i:=11) w0a.nd rfl (uF rfl)) (qaj (qab (i:=12) w0a.nd rfl (uF rfl)) qcq)))) (qa2 (qb0 vH rfl (qaw (qaf ((wg1 T).mono ∅) hr rfl T.whe T.wft.kp T.whm .nil qay #[pv 3,qf7 vT cR PySem.F.type_list_index mt_idxS (pv 2) #[pv 10]])) (qab (i:=13) w0a.nd rfl (uF rfl)) (qa5 (qdc (qb4 (qbg (qaf ((wfs T).mono ∅) hr rfl T.whp T.wga.kp T.whj .nil qay #[pv 0,pv 7,pv 10,pv 13])) (qa5 (qae (i:=12) w0a.nd rfl (uF rfl) (qal qax (pv 2) (pv 13) nofun))) qak))))
  (qa5 (qbn (qf7 vT wC wD qc0 (pv 9) #[qbq #[pv 10,pv 11,pv 12]])))))
  (qa5 (qad (pv 9)))))))),?_⟩
 walk_at"d"
 try dsimp only[cxC]
 refine qac (σ:=[sr p,sr l,none,none,none,none,none,none,none,none,none,none,none,none]) rfl ?_;have etop:=hA.top;have l7:=ok.l7;have l8:=ok.ok.l8;have rl:rows.length<=7:=by
  have:=congrArg wF cn;rw[zA] at this;omega
 have inW:∀r∈rows,r.n∈D.W0:=fun r hr=>by rw[<-cn];exact zI.mpr ⟨r,hr,rfl⟩
 have rnd:(rows.map (·.n)).Nodup:=by rw[cn];exact ok.ok.nd
 left;rename_i ds hds;have s3:=qa4 hds (.dK []);have eds:upd H ds (.dK []) ds=some (.dK (oK (usR (rows.take 0)))):=qa1;have nld:l≠ds:=qa9 hl hds;generalize upd H ds (.dK [])=H3 at*;have hl3:=s3 _ _ hl;have hR3:∀r∈rows,Gd H3 D lv r:=fun r hr=>(hR r hr).same s3;unfold rV at hl hl3;left;refine qbs (xs:=rows.map fun r=>V.ref r.a) (fun i σ H'=>∃(w8:Option V),σ=[sr p,sr l,sr ln,sr le,sr dg,sr dw,sr dr,sr ds,w8,none,none,none,none,none]/\SameBut ds H3 H'/\H' ds=some (.dK (oK (usR (rows.take i))))) ⟨none,rfl,fun b u _ e=>e,eds⟩ ?_ ?_ ?_
 .rintro i σ H' _ ⟨w8,rfl,sb,_⟩;exact SqL.of (sb _ _ nld hl3)
 .rintro i v σ H' hv ⟨w8,rfl,sb,ed⟩;rw[zC] at hv;obtain⟨r,hr,rfl⟩:=uI.mp hv;have hrm:=zF hr;have tS:qb2 H3 H':=fun b xs e=>sb b _ (fun z=>by subst z;rw[eds] at e;cases e) e;have rT:=((hR3 r hrm).tt tS).at_.t;have nz:r.n∉(usR (rows.take i)).map (·.1):=by
   rw[qdp,List.map_take];exact qem rnd (by rw[zC,hr];rfl)
  have etk:usR (rows.take (i+1))=usR (rows.take i)++[(r.n,r.s)]:=by unfold usR;rw[zO,hr,zL];rfl
  have zk:(oK (usR (rows.take i))).length<sizeLine:=by
   rw[oK_len];unfold usR;rw[zA,zS];show _<16777216;omega
  clear hv;left;rw[putK_oK (qdt.mpr nz)];exact⟨_,rfl,fun b u hb e=>by rw[qa7 hb];exact sb b u hb e,by rw[qa1,etk]⟩
 rintro σ H4 ⟨w8,rfl,sb,ed⟩;rw[zA,zK] at ed;have s4:Same H H4:=fun b u e=>sb b u (fun z=>by subst z;rw[hds] at e;cases e) (s3 b u e);have hP4:PD H4 (usR rows) (tpS D lv) (btS D lv):=⟨by rw[qdp];exact rnd,fun x hx=>by
  obtain⟨r,hr,rfl⟩:=zI.mp hx;exact((hR r hr).same s4).f (inW r hr)⟩
 have hu:∀n,n∈(usR rows).map (·.1)↔n∈D.W0:=fun n=>by rw[qdp,cn]
 clear sb eds nld hl3 hR3 s3;left;rename_i lf hlf;have s5:=s4.trans (qa4 hlf (.lst (rV [])));have elf:upd H4 lf (.lst (rV [])) lf=some (.lst (rV [])):=qa1;have ed5:=qaa (o':=.lst (rV [])) ed hlf;have hP5:=hP4.t (qb2.of (qa4 hlf (.lst (rV []))));have hlf0:=s4.free hlf;have nds:ds≠lf:=qa9 ed hlf;rw[show HO.lst []=HO.lst (rV []) from rfl];generalize upd H4 lf (.lst (rV []))=H5 at*;have hl5:=s5 _ _ hl;clear ed hP4 hlf s4;left;refine qbs (xs:=rows.map fun r=>V.ref r.a) (fun i σ H'=>∃(rows':List R3)(w10 w11 w12 w13:Option V),σ=[sr p,sr l,sr ln,sr le,sr dg,sr dw,sr dr,sr ds,w8,sr lf,w10,w11,w12,w13]/\Same H H'/\H' ds=some (.dK (oK (usR rows)))/\PD H' (usR rows) (tpS D lv) (btS D lv)/\H' lf=some (.lst (rV rows'))/\(∀r∈rows',Gd H' D lv r)/\rows'.map (·.n)=(rows.take i).map (·.n)/\∀r∈rows',papB D lv r.n r.pv=true) ⟨[],none,none,none,none,rfl,s5,ed5,hP5,elf,fun r hr=>by simp at hr,rfl,fun r hr=>by simp at hr⟩ ?_ ?_ ?_
 .rintro i σ H' _ ⟨rows',w10,w11,w12,w13,rfl,sm,_⟩;exact SqL.of (sm _ _ hl)
 .rintro i v σ H' hv ⟨rows',w10,w11,w12,w13,rfl,sm,ed',hP',el',hG',en',hpb'⟩;rw[zC] at hv;obtain⟨r,hr,rfl⟩:=uI.mp hv;have hrm:=zF hr;have hn:=inW r hrm;have hG:=(hR r hrm).same sm;have rT:=hG.at_.t;have etk:(rows.take (i+1)).map (·.n)=(rows.take i).map (·.n)++[r.n]:=by rw[zO,hr,zL];rfl
  have hA':=hA.same sm;have enm:=hA'.n;obtain⟨k,hk,ek⟩:=zU.mp (ok.sub r.n hn);have len:=ok.len;have rl':rows'.length<=7:=by
   have:=congrArg wF en';rw[zA,zA,zS] at this;omega
  have zl:(rV rows').length<sizeLine:=by rw[rV_len];show _<16777216;omega
  have hr0:=hG.at_.p;have hpr:=hpb r hrm;clear hv hr;left;rw[<-ek];refine r_idxS (SqL.of enm) ok.nd hk ?_;rw[ek];left;refine⟨le,es,k,rfl,hA'.e,ok.lo,#[],#[],fun ll hll=>?_⟩;have s6:=sm.trans (qa4 hll (.lst ((qc1 (elN es) k).map iV)));have ell:upd H' ll (.lst ((qc1 (elN es) k).map iV)) ll=some (.lst ((qc1 (elN es) k).map iV)):=qa1;have h6:=qa4 hll (.lst ((qc1 (elN es) k).map iV));generalize upd H' ll (.lst ((qc1 (elN es) k).map iV))=H6 at*;left;refine qbs (xs:=(qc1 (elN es) k).map iV) (fun j σ Hx=>∃(pv:V)(w13:Option V),σ=[sr p,sr l,sr ln,sr le,sr dg,sr dw,sr dr,sr ds,w8,sr lf,some (.str r.n),sr r.s,some pv,w13]/\Same H6 Hx/\(pv=.non\/∃z,pv=.str z)/\papB D lv r.n pv=true) ⟨r.pv,_,rfl,Same.refl _,hr0,hpr⟩ ?_ ?_ ?_
  .rintro j σ Hx _ ⟨pv,w13,rfl,sx,_⟩;exact SqL.of (sx _ _ ell)
  .rintro j v σ Hx hv ⟨pv,w13,rfl,sx,hpv,hpp⟩;rw[zC] at hv;obtain⟨y,hy,rfl⟩:=uI.mp hv;have hyn:y<nm.length:=by have:=qcu ok.low k hk y (zF hy);omega
   have s7:=s6.trans sx;have h7:=h6.trans sx;have xn:atI (nm.map V.str) ((y:Nat):Int)=some (.str (nmG nm y)):=qbu (by rw[zC,qd3 hyn];rfl);clear hv hy;left;refine qdy ?_;left;refine⟨p,ln,le,dg,dw,dr,nm,es,kg,kw,kr,D,ds,usR rows,lv,r.n,y,rfl,hA.same s7,ok,rmb,h7 _ _ ed',hP'.t (qb2.of h7),hu,hS,hn,hyn,fun H8 s8=>?_⟩;have en8:=s8 _ _ (s7 _ _ hA.n);by_cases ce:nmG nm y∈(D.ln r.n).filter (stB D lv r.n)
   .rw[gK ce];rw[show iV y=V.int ((y:Nat):Int) from rfl];generalize ((y:Nat):Int)=yy at*;left;refine qce (SqL.of en8) xn ?_;left;exact⟨_,_,rfl,sx.trans s8,.inr ⟨_,rfl⟩,gK ce⟩
   .rw[gL ce];left;exact⟨_,_,rfl,sx.trans s8,hpv,hpp⟩
  rintro σ Hx ⟨pv,w13,rfl,sx,hpv,hpp⟩;have s7:=s6.trans sx;have h7:=h6.trans sx;have el7:=h7 _ _ el';have hG7:=hG.same h7;left;rename_i pt hpt;have s8:=qa4 hpt (.tup [V.str r.n,V.ref r.s,pv]);have ept:upd Hx pt (.tup [V.str r.n,V.ref r.s,pv]) pt=some (.tup [V.str r.n,V.ref r.s,pv]):=qa1;have el8:=qaa (o':=.tup [V.str r.n,V.ref r.s,pv]) el7 hpt;generalize upd Hx pt (.tup [V.str r.n,V.ref r.s,pv])=H8 at*;have h8:=h7.trans s8;have t9:qb2 H8 (upd H8 lf (.lst (rV rows'++[V.ref pt]))):=qb2.upd el8 fun ys e=>by cases e
  have t89:=(qb2.of h8).trans t9;refine⟨rows'++[⟨pt,r.n,r.s,pv⟩],_,_,_,_,rfl,qb6 (s7.trans s8) hlf0,by rw[qa7 nds];exact h8 _ _ ed',hP'.t t89,by rw[qa1];unfold rV;rw[zL];rfl,fun x hx'=>?_,by rw[zL,en',etk];rfl,fun x hx'=>?_⟩
  .rcases zH.mp hx' with h1|h1
   .exact(hG' x h1).tt t89
   .rw[zE.mp h1];exact⟨⟨t9 _ _ ept,hpv⟩,fun z=>t89 _ _ (hG.f z)⟩
  .rcases zH.mp hx' with h1|h1
   .exact hpb' x h1
   .rw[zE.mp h1];exact hpp
 rintro σ H' ⟨rows',w10,w11,w12,w13,rfl,sm,ed',hP',el',hG',en',hpb'⟩;rw[zA,zK] at en';left;exact q lf rows' H' sm hlf0 el' hG' (en'.trans cn) hpb'
theorem nm_nodup(c:Int){n:Nat}(hn:n<=20):((vG n).map fun k:Nat=>nmS c (0+(k:Int))).Nodup:=by
 show List.Pairwise _ _;rw[aY];refine List.Pairwise.imp_of_mem (R:=fun a b=>a<b) (fun {a b} ha hb lt e=>?_) List.pairwise_lt_range;have h1:=yI.mp ha;have h2:=yI.mp hb;have:=nmS_inj #[] #[] #[] #[] e;omega
theorem lineN_nd(lo:Low el n):∀k,k<n->(qc1 el k).Nodup:=by
 intro k
 induction k using bR with
 |ind k ih=>
  intro kn
  cases k with
  |zero=>rw[qgi];exact zW.mpr ⟨by simp,yJ⟩
  |succ k=>
   have l:=lo (k+1) #[] kn;rw[qdu lo #[] kn];refine zW.mpr ⟨fun z=>?_,ih _ l #[]⟩;have:=qcu lo _ #[] _ z;omega
open Classical in
noncomputable def lnD(nm:List Str)(es:List Nat)(n:Str):List Str:=if h:∃k,k<nm.length/\nmG nm k=n then(qc1 (elN es) h.choose).map (nmG nm) else[]
theorem lnD_at(nd:nm.Nodup){k:Nat}(hk:k<nm.length):lnD nm es (nmG nm k)=(qc1 (elN es) k).map (nmG nm):=by
 have h:∃k',k'<nm.length/\nmG nm k'=nmG nm k:=⟨k,hk,rfl⟩;unfold lnD;rw[dif_pos h];rw[qfu nd h.choose_spec.1 hk h.choose_spec.2]
structure Dn(nm:List Str)(i:Nat)(es:List Nat)(W:List Str)(wt wa rm:Str->Int):Prop where
 el:es.length=i-1
 lo:∀(k e:Nat),es[k]?=some e->e<=k
 wnd:W.Nodup
 wsub:∀n∈W,n∈nm.take i
 wt:∀n∈nm.take i,1<=wt n/\wt n<=1000
 wa:∀n∈W,InB (10^30) (wa n)
 rm:∀n∈nm.take i,InB (10^31) (rm n)
theorem Dn.ok{W0:List Str}{wt wa rm:Str->Int}(h:Dn nm nm.length es W wt wa rm)(n1:1<=nm.length)(n7:nm.length<=7)(nd:nm.Nodup)(gd:∀z∈nm,qf0 z=true)(pm:W0.Perm W)(srt:vX W0=true):ShOk nm es ⟨W0,lnD nm es,wt,wa,rm⟩:=by
 have low:Low (elN es) nm.length:=elN_low h.lo _;have wsub:∀n∈W0,n∈nm:=fun n hn=>yB (h.wsub n (pm.mem_iff.mp hn));have ix:∀n∈W0,∃k,k<nm.length/\nmG nm k=n:=fun n hn=>by
  obtain⟨k,hk,e⟩:=zU.mp (wsub n hn);exact⟨k,hk,by unfold nmG;rw[zB hk,e];rfl⟩
 have htw:∀n∈nm,n∈nm.take nm.length:=fun n hn=>by rw[zK];exact hn
 have line:∀n∈W0,∀x∈lnD nm es n,∃j,j<nm.length/\x=nmG nm j:=fun n hn x hx=>by
  obtain⟨k,hk,rfl⟩:=ix n hn;rw[lnD_at nd hk] at hx;obtain⟨j,hj,rfl⟩:=zI.mp hx;exact⟨j,by have:=qcu low k hk j hj;omega,rfl⟩
 have rmb:∀n∈W0,∀x∈lnD nm es n,InB (10^31) (rm x):=fun n hn x hx=>by
  obtain⟨j,hj,rfl⟩:=line n hn x hx;exact h.rm _ (htw _ (qcz hj))
 refine⟨nd,gd,by have:=h.el;omega,n7,h.lo,wsub,fun k hk=>lnD_at nd hk,⟨pm.nodup_iff.mpr h.wnd,fun n hn=>(h.wt n (htw n (wsub n hn))).1,fun n hn=>(h.wt n (htw n (wsub n hn))).2,fun n hn=>(h.wa n (pm.mem_iff.mp hn)).lo,fun n hn=>yY (h.wa n (pm.mem_iff.mp hn)).hi ∅,fun n hn x hx=>(rmb n hn x hx).lo,fun n hn x hx=>(rmb n hn x hx).hi,fun n hn=>?_,fun n hn=>?_,fun n hn=>?_,?_⟩,srt⟩
 .obtain⟨k,hk,rfl⟩:=ix n hn;show nmG nm k∈lnD nm es (nmG nm k);rw[lnD_at nd hk];exact zI.mpr ⟨k,lineN_self low hk,rfl⟩
 .obtain⟨k,hk,rfl⟩:=ix n hn;show(lnD nm es (nmG nm k)).Nodup;rw[lnD_at nd hk];refine aY.mpr ((aB.mpr fun i j hi hj lt z=>?_));have h1:=qcu low k hk _ (zX hi);have h2:=qcu low k hk _ (zX hj);have:=qfu nd #[] #[] z;have:=(gC (lineN_nd low k hk)).mp this;omega
 .obtain⟨k,hk,rfl⟩:=ix n hn;show(lnD nm es (nmG nm k)).length<=20;rw[lnD_at nd hk,zA];have:=qfw low k hk;omega
 .show W0.length<=7;exact vJ (vN (pm.nodup_iff.mpr h.wnd) wsub) n7
theorem len3{xs:List Int}(h:xs.length=3):∃x y z,xs=[x,y,z]:=by
 match xs,h with
 | [x,y,z],_=>exact⟨x,y,z,rfl⟩
def wem(K:uS)(d:Ad):Sp:=fun vs H Q _=>∃(a:Addr)(ns:List Int)(n:Nat),vs=[.ref a,.int (n:Int)]/\SqL K H a (ns.map V.int)/\1<=n/\n<=7/\
 ∀(p ln le dg dw dr:Addr)(nm:List Str)(es:List Nat)(kg kw kr:List (Key×V))(D:Dl) H',Same H H'->ShAt H' p ln le dg dw dr nm es kg kw kr D->ShOk nm es D->(∀z∈nm,1<=D.wt z/\D.wt z<=1000)->(∀z∈nm,0<=D.rm z/\D.rm z<=10^31)->nmS (cell ns 1) (nm.length:Int)∉nm->Q (.ref p) H'
def ad_next{kvs:List (Key×V)}{f:Str->Int}{v:Int}(h:AD kvs (qby L f)):AD (qbp kvs (uH z) (.int v)) (qby (L++[z]) (fun y=>if y=z then v else f y)):=(h.put z v).cast fun y=>by
 rw[qey];unfold qby;by_cases c:y=z
 .rw[gJ c,gJ (by rw[c];simp)];show some v=some (if y=z then v else f y);rw[gJ c]
 .rw[gI c];by_cases c2:y∈L
  .rw[gJ c2,gJ (zQ _ c2)];show some (f y)=some (if y=z then v else f y);rw[gI c]
  .rw[gI c2,gI fun m=>(zH.mp m).elim c2 fun e=>c (zE.mp e)]
def ad_again{kvs:List (Key×V)}{f:Str->Int}{v:Int}(h:AD kvs (qby L f))(hz:z∈L):AD (qbp kvs (uH z) (.int v)) (qby L (fun y=>if y=z then v else f y)):=(h.put z v).cast fun y=>by
 rw[qey];unfold qby;by_cases c:y=z
 .rw[gJ c,gJ (by rw[c];exact hz)];show some v=some (if y=z then v else f y);rw[gJ c]
 .rw[gI c];by_cases c2:y∈L
  .rw[gJ c2,gJ c2];show some (f y)=some (if y=z then v else f y);rw[gI c]
  .rw[gI c2,gI c2]
set_option maxHeartbeats 9000000 in
include T in
theorem weq:FnOk P w K mg base CX0 3 d.w9k d.w7y ["_law_script","_law_count"] (wem K d):=by
 exists T.wc9.ok w16
 .right
 obtain⟨a,ns,n,rfl,hS,n1,n7,q⟩:=h;refine' ⟨_,?rx,?_⟩
 case' rx=>(with_unfolding_all change My.PSsx _ _ _);refine' (pssx_set (i:=2) w16.nd rfl (uF rfl) (pex_ixL (qfg qa6 (qfg qa6 (qfg qa6 (qfg (qah op_pow qa6 qa6) pax_nil)))) (qah qb5 (qaf ((w1m T).mono ∅) hr rfl T.w2a T.w1r.kp T.w2b .nil qay #[pv 0,qa6]) qa6) nofun) ?ry)
 case' ry=>exact(qa2 (ps_comp (j:=3) (caps:=[0]) (cn:=["_law_script"]) (qc6 rfl rfl (by rfl) (by rfl) rfl ⟨rfl,trivial⟩ (by rfl) rfl ⟨⟨rfl,rfl,rfl,rfl,_,rfl⟩,trivial⟩ ∅) rfl w16.nd rfl rfl (qco rfl T.w53 #[pv 1]) (fun _ _ _ _=>qdd) (fun _ _ _ _=>(qaf ((wct T).mono ∅) hr rfl T.wfv T.we8.kp T.wfz .nil qay #[qaf ((w1m T).mono ∅) hr rfl T.w2a T.w1r.kp T.w2b .nil qay #[pv 1,qa6],pv 0])))
  (qa2 (qae (i:=4) w16.nd rfl (uF rfl) (qbb #[qck]))
  (qa2 (qae (i:=5) w16.nd rfl (uF rfl) qb3)
  (qa2 (qae (i:=6) w16.nd rfl (uF rfl) qb3)
  (qa2 (qae (i:=7) w16.nd rfl (uF rfl) qb3)
  (qa2 (qb0 vH rfl (qco rfl T.w53 #[pv 1]) (qab (i:=8) w16.nd rfl (eS rfl)) (qa2 (ps_comp (j:=9) (caps:=[0,8]) (cn:=["_law_script","_law_k"]) (qc6 rfl rfl (by rfl) (by rfl) rfl ⟨rfl,⟨rfl,trivial⟩⟩ (by rfl) rfl ⟨⟨rfl,rfl,rfl,rfl,_,rfl⟩,⟨⟨rfl,rfl,rfl,rfl,_,rfl⟩,trivial⟩⟩ ∅) rfl w16.nd rfl rfl (qco rfl T.w53 #[qa6]) (fun _ _ _ _=>qdd) (fun _ _ _ _=>(qaf ((w1m T).mono ∅) hr rfl T.w2a T.w1r.kp T.w2b .nil qay #[pv 1,qah qbx (qah qbx qa6 (qah qbc qa6 (pv 2))) (pv 0)])))
  (qa2 (qdc (qb4 (qai qft (pv 8) qa6 (qar _)) (qa5 (qbn (qf7 vT wC wD qc0 (pv 4) #[qal qax (qbb #[qah qb5 (qal qax (pv 9) qa6 nofun) (pv 8),qah op_sub (pv 8) qa6,qa6,qah qb5 (qal qax (pv 9) qa6 nofun) (pv 8)]) (qah qb5 (qaf ((w1m T).mono ∅) hr rfl T.w2a T.w1r.kp T.w2b .nil qay #[pv 0,qa6]) qa6) nofun]))) qak))
  (qa2 (qae (i:=10) w16.nd rfl (uF rfl) (qaf ((w8v T).mono ∅) hr rfl T.wbf T.w8w.kp T.wb6 .nil qay #[qal qax (pv 9) qa6 nofun,qah qbc qa6 (pv 8)]))
  (qa2 (qbh (qat hr) (pv 5) (qal qax (pv 3) (pv 8) nofun) (qal qax (qbb #[qa6,qa6,qa6,qa6,qah qbx qa6 (qah qb5 (qah qbl (pv 10) qa6) qa6),qa6]) (qah qb5 (pv 10) qa6) nofun) rfl)
  (qa2 (qae (i:=10) w16.nd rfl (uF rfl) (qaf ((w8v T).mono ∅) hr rfl T.wbf T.w8w.kp T.wb6 .nil qay #[qal qax (pv 9) qa6 nofun,qah qbx (qah qbc qa6 (pv 8)) qa6]))
  (qa2 (qdc (qb4 (qai qft (qah qb5 (pv 10) qa6) qa6 (qar _)) (qa5 (qbh (qat hr) (pv 6) (qal qax (pv 3) (pv 8) nofun) (qaf ((whx T).mono ∅) hr rfl T.wio T.whi.kp T.wif .nil qay #[pv 10,pv 2]) rfl)) qak))
  (qa2 (qbh (qat hr) (pv 7) (qal qax (pv 3) (pv 8) nofun) (qaf ((whz T).mono ∅) hr rfl T.wii T.whh.kp T.wil .nil qay #[qaf ((w8v T).mono ∅) hr rfl T.wbf T.w8w.kp T.wb6 .nil qay #[qal qax (pv 9) qa6 nofun,qah qbx (qah qbc qa6 (pv 8)) qa6],pv 2]) rfl)
  (qa5 (qdc (qb4 (PW.pt (qgf (qai qft (pv 8) qa6 (qar _)) (qex (qai qel (qah qb5 (qal qax (pv 9) qa6 nofun) qa6) qa6 (qar _))))) (qa5 (qbh (qat hr) (pv 7) (qal qax (pv 3) (pv 8) nofun) (pv 7|||qal qax (pv 3) (qal qax (pv 4) (pv 8) nofun) nofun) rfl)) qak)))))))))))
  (qa5 (qad (qbb #[pv 3,pv 4,pv 5,pv 6,pv 7])))))))))
 walk_at"d"
 try dsimp only[cxC]
 generalize hni:((n:Nat):Int)=ni;refine qac (σ:=[sr a,some (.int ni),none,none,none,none,none,none,none,none,none]) rfl ?_;left;rename_i pm hpm;have s2:=qa4 hpm (.lst [V.int 1,V.int 1,V.int 7000000001,V.int (10^dX 27)]);have e3:upd H pm (.lst [V.int 1,V.int 1,V.int 7000000001,V.int (10^dX 27)]) pm=some (.lst [V.int 1,V.int 1,V.int 7000000001,V.int (10^dX 27)]):=qa1;generalize upd H pm (.lst [V.int 1,V.int 1,V.int 7000000001,V.int (10^dX 27)])=H2 at*;refine⟨a,ns,2,rfl,s2.seq hS,∅,?_⟩;left;have m0:=uT (cell ns 2) (show(4:Int)≠0 by decide);have m1:=vB (cell ns 2) (show(0:Int)<4 by decide);refine r_menu (xs:=[1,1,7000000001,10^dX 27]) (SqL.of e3) m0 m1 fun sc hm=>?_;have hsc:Sc sc:=by
  simp only[zP,yD,or_false] at hm;have e27:(10:Int)^dX 27=10^27:=rfl;rw[e27] at hm;exact⟨#[],#[]⟩
 clear hm m0 m1 e3 hpm;left;intro C1 s01 H01 fp1 ln hln;have eni:ni.toNat=n:=by omega
 refine c_by ni.toNat (fun i H'=>H'=upd H2 ln (.lst (((vG i).map fun k:Nat=>nmS (cell ns 1) (0+(k:Int))).map V.str))) rfl (fun i H' hi _=>hi) (fun H' _=>uG _) ?_ ?_
 .rintro i H' v H'' hi rfl ⟨rfl,rfl⟩;have hS':=sqL_new (o:=.lst (((vG i).map fun k:Nat=>nmS (cell ns 1) (0+(k:Int))).map V.str)) (s2.seq hS) hln;left;refine⟨a,ns,_,rfl,hS',∅,?_⟩;left;refine⟨_,_,rfl,#[],#[],?_⟩;refine⟨_,qa1,by rw[zA,zA,cH];show _<16777216;omega,?_⟩;rw[qcx,List.range_succ,zL,zL];rfl
 rintro H3 rfl;rw[eni];have hwl:((vG n).map fun k:Nat=>nmS (cell ns 1) (0+(k:Int))).length=n:=by rw[zA,cH]
 have hwg:∀z∈(vG n).map fun k:Nat=>nmS (cell ns 1) (0+(k:Int)),qf0 z=true:=fun z hz=>by
  obtain⟨k,_,rfl⟩:=zI.mp hz;exact nmS_good _ _
 have hwn:=nm_nodup (cell ns 1) (n:=n) #[];have hst:nmS (cell ns 1) (n:Int)∉(vG n).map fun k:Nat=>nmS (cell ns 1) (0+(k:Int)):=fun z=>by
  obtain⟨k,hk,e⟩:=zI.mp z;have h1:=yI.mp hk;have:=nmS_inj #[] #[] #[] #[] e;omega
 generalize ((vG n).map fun k:Nat=>nmS (cell ns 1) (0+(k:Int)))=nm at*;have s3:=s2.trans (qa4 hln (.lst (nm.map V.str)));have en3:upd H2 ln (.lst (nm.map V.str)) ln=some (.lst (nm.map V.str)):=qa1;generalize upd H2 ln (.lst (nm.map V.str))=H3 at*;clear s2 hln s01 H01 fp1;left;rename_i le hle dg hdg dw hdw dr hdr;have s4:Same H3 (upd (upd (upd (upd H3 le (.lst [V.non])) dg (.dK [])) dw (.dK [])) dr (.dK [])):=((qa4 hle _).trans (qa4 hdg _)).trans ((qa4 hdw _).trans (qa4 hdr _));have ele:upd (upd (upd (upd H3 le (.lst [V.non])) dg (.dK [])) dw (.dK [])) dr (.dK []) le=some (.lst [V.non]):=qaa (qaa (qaa qa1 hdg) hdw) hdr;have edg:upd (upd (upd (upd H3 le (.lst [V.non])) dg (.dK [])) dw (.dK [])) dr (.dK []) dg=some (.dK []):=qaa (qaa qa1 hdw) hdr;have edw:upd (upd (upd (upd H3 le (.lst [V.non])) dg (.dK [])) dw (.dK [])) dr (.dK []) dw=some (.dK []):=qaa qa1 hdr;have edr:upd (upd (upd (upd H3 le (.lst [V.non])) dg (.dK [])) dw (.dK [])) dr (.dK []) dr=some (.dK []):=qa1;have ngw:dg≠dw:=fun z=>by subst z;rw[qa1] at hdw;cases hdw
 have ngr:dg≠dr:=fun z=>by subst z;rw[qaa qa1 hdw] at hdr;cases hdr
 have nwr:dw≠dr:=fun z=>by subst z;rw[qa1] at hdr;cases hdr
 have fle:H3 le=none:=hle;have fdg:H3 dg=none:=(qa4 hle _).free hdg;have fdw:H3 dw=none:=((qa4 hle _).trans (qa4 hdg _)).free hdw;have fdr:H3 dr=none:=(((qa4 hle _).trans (qa4 hdg _)).trans (qa4 hdw _)).free hdr;generalize upd (upd (upd (upd H3 le (.lst [V.non])) dg (.dK [])) dw (.dK [])) dr (.dK [])=H4 at*;have nlg:le≠dg:=fun z=>by subst z;rw[edg] at ele;cases ele
 have nlw:le≠dw:=fun z=>by subst z;rw[edw] at ele;cases ele
 have nlr:le≠dr:=fun z=>by subst z;rw[edr] at ele;cases ele
 clear hle hdg hdw hdr;rw[eni];refine qg4 (n:=n) (fun i σ H'=>∃(es:List Nat)(W:List Str)(wt wa rm:Str->Int)(kg kw kr:List (Key×V))(w8 w9 w10:Option V),σ=[sr a,some (.int ni),some (.int sc),sr ln,sr le,sr dg,sr dw,sr dr,w8,w9,w10]/\Same H3 H'/\H' le=some (.lst (.non::es.map iV))/\H' dg=some (.dK kg)/\H' dw=some (.dK kw)/\H' dr=some (.dK kr)/\AD kg (qby (nm.take i) wt)/\AD kw (qby W wa)/\AD kr (qby (nm.take i) rm)/\Dn nm i es W wt wa rm) ⟨[],[],fun _=>0,fun _=>0,fun _=>0,[],[],[],none,none,none,rfl,s4,ele,edg,edw,edr,AD.nil.cast fun z=>rfl,AD.nil.cast fun z=>rfl,AD.nil.cast fun z=>rfl,⟨rfl,fun k e h=>by simp at h,yJ,fun z h=>by simp at h,fun z h=>by simp at h,fun z h=>by simp at h,fun z h=>by simp at h⟩⟩ ?_ ?_
 .rintro i σ H' hi ⟨es,W,wt,wa,rm,kg,kw,kr,w8,w9,w10,rfl,sm,el',eg',ew',er',hgA,hwA,hrA,hd⟩;have hil:i<nm.length:=by omega
  have etk:nm.take (i+1)=nm.take i++[nmG nm i]:=by rw[zO,qd3 hil];rfl
  have xn:atI (nm.map V.str) (0+(i:Int))=some (.str (nmG nm i)):=by rw[bX];exact qbu (by rw[zC,qd3 hil];rfl)
  have hS':=(s3.trans sm).seq hS;have en':=sm _ _ en3;have tl:(nm.take i).length<=7:=by rw[zS];omega
  have zg:kg.length<sizeLine:=by
   have:=hgA.le (ws:=nm.take i) fun z hz=>qcv.mp hz;show _<16777216;omega
  have zw:kw.length<sizeLine:=by
   have h1:=hwA.le (ws:=W) fun z hz=>qcv.mp hz;have h2:W.length<=(nm.take i).length:=vN hd.wnd hd.wsub;show _<16777216;omega
  have zr:kr.length<sizeLine:=by
   have:=hrA.le (ws:=nm.take i) fun z hz=>qcv.mp hz;show _<16777216;omega
  generalize hki:(0+(i:Int))=ki at*;have k0:0<=ki:=by omega
  have k7:ki<=7:=by omega
  have nki:ki.natAbs<2^600:=vF (show ki.natAbs<=7 by omega) ∅;clear tl;left;intro C1 s01 H01 fp1 lc hlc;refine c_by 3 (fun j Hx=>∃xs:List Int,Hx=upd H' lc (.lst (xs.map V.int))/\xs.length=j) ⟨[],rfl,rfl⟩ (fun i H' hi _=>hi) (fun H' _=>uG _) ?_ ?_
  .rintro j Hx v H'' hj ⟨xs,rfl,hx⟩ ⟨rfl,rfl⟩;have hS'':=sqL_new (o:=.lst (xs.map V.int)) hS' hlc;left;refine⟨a,ns,_,rfl,hS'',#[],?_⟩;refine⟨_,qa1,by rw[zA];show _<16777216;omega,?_⟩;exact⟨xs++[_],by rw[qcx,zL];rfl,by rw[zJ,hx];rfl⟩
  rintro Hx ⟨xs,rfl,hx⟩;obtain⟨c0,c1,c2,rfl⟩:=len3 hx;have s5:=qa4 hlc (.lst ([c0,c1,c2].map V.int));have elc:upd H' lc (.lst ([c0,c1,c2].map V.int)) lc=some (.lst ([c0,c1,c2].map V.int)):=qa1;generalize upd H' lc (.lst ([c0,c1,c2].map V.int))=H5 at*;have elc:H5 lc=some (.lst [V.int c0,V.int c1,V.int c2]):=elc;have el5:=s5 _ _ el';have eg5:=s5 _ _ eg';have ew5:=s5 _ _ ew';have er5:=s5 _ _ er';have en5:=s5 _ _ en';have sm5:=sm.trans s5;have ncl:lc≠le:=fun z=>by subst z;rw[el'] at hlc;cases hlc
  have nnl:ln≠le:=fun z=>by subst z;rw[en3] at fle;cases fle
  clear hx hlc s5 el' eg' ew' er' en' sm hS' s01 H01 fp1;have hS5:=(s3.trans sm5).seq hS;left;refine r_cut (fun σ Hy=>∃es':List Nat,σ=[sr a,some (.int ni),some (.int sc),sr ln,sr le,sr dg,sr dw,sr dr,some (.int ki),sr lc,w10]/\SameBut le H5 Hy/\Hy le=some (.lst (.non::es'.map iV))/\es'.length=i/\∀(k e:Nat),es'[k]?=some e->e<=k) ?_ ?_
  .have hes:=hd.el;have hlo:=hd.lo;left;refine i_2 (fun c=>?_) (fun c=>?_)
   .have zl:(V.non::es.map iV).length<sizeLine:=by rw[zR,zA];show _<16777216;omega
    left;rename_i pl hpl;have s6:=qa4 hpl (.lst [V.int (c0%ki),V.int (ki-1),V.int 0,V.int (c0%ki)]);have epl:upd H5 pl (.lst [V.int (c0%ki),V.int (ki-1),V.int 0,V.int (c0%ki)]) pl=some (.lst [V.int (c0%ki),V.int (ki-1),V.int 0,V.int (c0%ki)]):=qa1;have el6:=s6 _ _ el5;generalize upd H5 pl (.lst [V.int (c0%ki),V.int (ki-1),V.int 0,V.int (c0%ki)])=H6 at*;refine⟨a,ns,3,rfl,s6.seq hS5,∅,?_⟩;left;have m0:=uT (cell ns 3) (show(4:Int)≠0 by decide);have m1:=vB (cell ns 3) (show(0:Int)<4 by decide);refine r_menu (xs:=[c0%ki,ki-1,0,c0%ki]) (SqL.of epl) m0 m1 fun x hx=>?_;have a0:=uT c0 (show ki≠0 by omega);have a1:=vB c0 c;have hx2:0<=x/\x<ki:=by
     simp only[zP,yD,or_false] at hx;omega
    obtain⟨e,rfl⟩:∃e:Nat,x=(e:Int):=⟨x.toNat,#[]⟩;have ei:e<=i-1:=by omega
    have i1:1<=i:=by omega
    clear hx m0 m1 a0 a1 hx2 epl hpl;generalize hei:((e:Nat):Int)=ei' at*;left;refine⟨es++[e],rfl,fun b u hb z=>by rw[qa7 hb];exact s6 _ _ z,?_,by rw[zJ,zT];omega,fun k e2 h2=>?_⟩
    .rw[qa1,<-hei,zL];rfl
    .by_cases ck:k<es.length
     .rw[xG ck] at h2;exact hlo k e2 h2
     .have h3:=(uL.mp h2).1;rw[zJ,zT] at h3;have ek:k=es.length:=by omega
      rw[xE #[],ek,Nat.sub_self] at h2;have:e=e2:=uQ h2;omega
   .left;exact⟨es,rfl,fun b u _ z=>z,el5,#[],hlo⟩
  rintro σ' H6 ⟨es',rfl,sb6,el6,hel,hlo⟩;have sm6:Same H3 H6:=fun b u z=>sb6 b u (fun y=>by subst y;rw[fle] at z;cases z) (sm5 b u z);have elc6:=sb6 _ _ ncl elc;have eg6:=sb6 _ _ nlg.symm eg5;have ew6:=sb6 _ _ nlw.symm ew5;have er6:=sb6 _ _ nlr.symm er5;have en6:=sb6 _ _ nnl en5;clear sb6 elc eg5 ew5 er5 en5 sm5 hS5 el5;left;refine⟨c1,3*ki,rfl,#[],#[],fun r1 r10=>?_⟩;left;rename_i pl hpl;have s7:=qa4 hpl (.lst [V.int 1,V.int 1,V.int 2,V.int 3,V.int (1+r1.fdiv 6%1000),V.int 1000]);have epl:upd H6 pl (.lst [V.int 1,V.int 1,V.int 2,V.int 3,V.int (1+r1.fdiv 6%1000),V.int 1000]) pl=some (.lst [V.int 1,V.int 1,V.int 2,V.int 3,V.int (1+r1.fdiv 6%1000),V.int 1000]):=qa1;generalize upd H6 pl (.lst [V.int 1,V.int 1,V.int 2,V.int 3,V.int (1+r1.fdiv 6%1000),V.int 1000])=H7 at*;have m0:=uT r1 (show(6:Int)≠0 by decide);have m1:=vB r1 (show(0:Int)<6 by decide);have u0:=uT (r1.fdiv 6) (show(1000:Int)≠0 by decide);have u1:=vB (r1.fdiv 6) (show(0:Int)<1000 by decide);refine r_menu (xs:=[1,1,2,3,1+r1.fdiv 6%1000,1000]) (SqL.of epl) m0 m1 fun x hx=>?_;have hwt:1<=x/\x<=1000:=by
   simp only[zP,yD,or_false] at hx;omega
  have sm7:=sm6.trans s7;have elc7:=s7 _ _ elc6;have el7:=s7 _ _ el6;have eg7:=s7 _ _ eg6;have ew7:=s7 _ _ ew6;have er7:=s7 _ _ er6;have en7:=s7 _ _ en6;clear hx m0 m1 u0 u1 epl hpl s7 sm6 elc6 el6 eg6 ew6 er6 en6 r10;left;refine qce (SqL.of en7) xn ?_;left;have ncg:lc≠dg:=fun z=>by subst z;rw[eg7] at elc7;cases elc7
  have nng:ln≠dg:=fun z=>by subst z;rw[eg7] at en7;cases en7
  have sm8:Same H3 (upd H7 dg (.dK (qbp kg (uH (nmG nm i)) (.int x)))):=qb6 sm7 fdg;have elc8:upd H7 dg (.dK (qbp kg (uH (nmG nm i)) (.int x))) lc=_:=(qa7 ncg).trans elc7;have el8:upd H7 dg (.dK (qbp kg (uH (nmG nm i)) (.int x))) le=_:=(qa7 nlg).trans el7;have eg8:upd H7 dg (.dK (qbp kg (uH (nmG nm i)) (.int x))) dg=some (.dK (qbp kg (uH (nmG nm i)) (.int x))):=qa1;have ew8:upd H7 dg (.dK (qbp kg (uH (nmG nm i)) (.int x))) dw=_:=(qa7 ngw.symm).trans ew7;have er8:upd H7 dg (.dK (qbp kg (uH (nmG nm i)) (.int x))) dr=_:=(qa7 ngr.symm).trans er7;have en8:upd H7 dg (.dK (qbp kg (uH (nmG nm i)) (.int x))) ln=_:=(qa7 nng).trans en7;generalize upd H7 dg (.dK (qbp kg (uH (nmG nm i)) (.int x)))=H8 at*;have hgA8:=ad_next (z:=nmG nm i) (v:=x) hgA;rw[<-etk] at hgA8;clear elc7 el7 eg7 ew7 er7 en7 sm7 ncg nng zg;left;refine⟨c1,3*ki+1,rfl,#[],#[],fun r2 r20=>?_⟩;left;have r70:=uT r2 (show(7:Int)≠0 by decide);refine r_cut (fun σ Hy=>∃(W':List Str)(wa':Str->Int)(kw':List (Key×V)),σ=[sr a,some (.int ni),some (.int sc),sr ln,sr le,sr dg,sr dw,sr dr,some (.int ki),sr lc,some (.int r2)]/\SameBut dw H8 Hy/\Hy dw=some (.dK kw')/\AD kw' (qby W' wa')/\W'.Nodup/\(∀z∈W',z∈nm.take (i+1))/\∀z∈W',InB (10^30) (wa' z)) ?_ ?_
  .left;refine i_2 (fun c=>?_) (fun c=>?_)
   .left;refine⟨r2,sc,rfl,r20,hsc,fun v H9 hv s9=>?_⟩;have ew9:=s9 _ _ ew8;have en9:=s9 _ _ en8;left;refine qce (SqL.of en9) xn ?_;left;have nW:nmG nm i∉W:=fun z=>by
     obtain⟨j,hj,e⟩:=zU.mp (hd.wsub _ z);rw[zS] at hj;rw[fT] at e;have h2:nmG nm j=nm[j]:=by unfold nmG;rw[zB #[]];rfl
     have:=qfu hwn (show j<nm.length by omega) hil (h2.trans e);omega
    refine⟨W++[nmG nm i],_,_,rfl,fun b u hb z=>by rw[qa7 hb];exact s9 _ _ z,qa1,ad_next hwA,?_,fun z hz=>?_,fun z hz=>?_⟩
    .exact aZ.mpr ⟨hd.wnd,zW.mpr ⟨by simp,yJ⟩,fun x hx y hy e=>by rw[zE.mp hy] at e;rw[e] at hx;exact nW hx⟩
    .rw[etk];rcases zH.mp hz with h1|h1
     .exact zQ _ (hd.wsub z h1)
     .exact zM _ h1
    .try dsimp only
     by_cases c2:z=nmG nm i
     .rw[gJ c2];exact hv
     .rw[gI c2];rcases zH.mp hz with h1|h1
      .exact hd.wa z h1
      .exact absurd (zE.mp h1) c2
   .left;exact⟨W,wa,kw,rfl,fun b u _ z=>z,ew8,hwA,hd.wnd,fun z hz=>by rw[etk];exact zQ _ (hd.wsub z hz),hd.wa⟩
  rintro σ' H9 ⟨W',wa',kw',rfl,sb9,ew9,hwA9,wnd9,wsub9,wa9⟩;have ncw:lc≠dw:=fun z=>by subst z;rw[ew8] at elc8;cases elc8
  have nnw:ln≠dw:=fun z=>by subst z;rw[ew8] at en8;cases en8
  have sm9:Same H3 H9:=fun b u z=>sb9 b u (fun y=>by subst y;rw[fdw] at z;cases z) (sm8 b u z);have elc9:=sb9 _ _ ncw elc8;have el9:=sb9 _ _ nlw el8;have eg9:=sb9 _ _ ngw eg8;have er9:=sb9 _ _ nwr.symm er8;have en9:=sb9 _ _ nnw en8;clear sb9 elc8 el8 eg8 er8 en8 sm8 ew8 ncw nnw r70 r20 zw hwA;left;refine⟨c2,3*ki+2,rfl,#[],#[],fun r3 r30=>?_⟩;left;refine⟨r3,sc,rfl,r30,hsc,fun v HA hv sA=>?_⟩;have smA:=sm9.trans sA;have elcA:=sA _ _ elc9;have elA:=sA _ _ el9;have egA:=sA _ _ eg9;have ewA:=sA _ _ ew9;have erA:=sA _ _ er9;have enA:=sA _ _ en9;clear elc9 el9 eg9 ew9 er9 en9 sm9 sA r30;left;refine qce (SqL.of enA) xn ?_;left;have ncr:lc≠dr:=fun z=>by subst z;rw[erA] at elcA;cases elcA
  have nnr:ln≠dr:=fun z=>by subst z;rw[erA] at enA;cases enA
  have smB:Same H3 (upd HA dr (.dK (qbp kr (uH (nmG nm i)) (.int v)))):=qb6 smA fdr;have elcB:upd HA dr (.dK (qbp kr (uH (nmG nm i)) (.int v))) lc=_:=(qa7 ncr).trans elcA;have elB:upd HA dr (.dK (qbp kr (uH (nmG nm i)) (.int v))) le=_:=(qa7 nlr).trans elA;have egB:upd HA dr (.dK (qbp kr (uH (nmG nm i)) (.int v))) dg=_:=(qa7 ngr).trans egA;have ewB:upd HA dr (.dK (qbp kr (uH (nmG nm i)) (.int v))) dw=_:=(qa7 nwr).trans ewA;have erB:upd HA dr (.dK (qbp kr (uH (nmG nm i)) (.int v))) dr=some (.dK (qbp kr (uH (nmG nm i)) (.int v))):=qa1;have enB:upd HA dr (.dK (qbp kr (uH (nmG nm i)) (.int v))) ln=_:=(qa7 nnr).trans enA;generalize upd HA dr (.dK (qbp kr (uH (nmG nm i)) (.int v)))=HB at*;have hrAB:=ad_next (z:=nmG nm i) (v:=v) hrA;rw[<-etk] at hrAB;have tin:∀z∈nm.take (i+1),z≠nmG nm i->z∈nm.take i:=fun z hz ne=>by
   rw[etk] at hz;exact(zH.mp hz).resolve_right fun h=>ne (zE.mp h)
  have hrB:∀z∈nm.take (i+1),InB (10^31) (if z=nmG nm i then v else rm z):=fun z hz=>by
   by_cases c:z=nmG nm i
   .rw[gJ c];exact hv
   .rw[gI c];exact hd.rm z (tin z hz c)
  have hwB:∀z∈nm.take (i+1),1<=(if z=nmG nm i then x else wt z)/\(if z=nmG nm i then x else wt z)<=1000:=fun z hz=>by
   by_cases c:z=nmG nm i
   .rw[gJ c];exact hwt
   .rw[gI c];exact hd.wt z (tin z hz c)
  have zrB:(qbp kr (uH (nmG nm i)) (.int v)).length<sizeLine:=by
   have h1:=hrAB.le (ws:=nm.take (i+1)) fun z hz=>qcv.mp hz;rw[zS] at h1;show _<16777216;omega
  generalize qbp kr (uH (nmG nm i)) (.int v)=krB at*;generalize hrm:(fun y=>if y=nmG nm i then v else rm y)=rmB at*;have hrB:∀z∈nm.take (i+1),InB (10^31) (rmB z):=fun z hz=>by rw[<-hrm];exact hrB z hz
  have hdn:∀rm':Str->Int,(∀z∈nm.take (i+1),InB (10^31) (rm' z))->Dn nm (i+1) es' W' (fun y=>if y=nmG nm i then x else wt y) wa' rm':=fun rm' h=>⟨#[],hlo,wnd9,wsub9,hwB,wa9,h⟩;clear elcA elA egA ewA erA enA smA ncr nnr hv hwt hrm tin zr hrA hgA;refine r_cut (fun σ Hy=>∃(rm':Str->Int)(kr':List (Key×V)),σ=[sr a,some (.int ni),some (.int sc),sr ln,sr le,sr dg,sr dw,sr dr,some (.int ki),sr lc,some (.int r2)]/\SameBut dr HB Hy/\Hy dr=some (.dK kr')/\AD kr' (qby (nm.take (i+1)) rm')/\∀z∈nm.take (i+1),InB (10^31) (rm' z)) ?_ ?_
  .left;refine i_2 (fun c=>?_) (fun c=>?_)
   .left;refine i_2 (fun c3=>?_) (fun c3=>?_)
    .have i1:i-1<es'.length:=by omega
     obtain⟨e,he⟩:∃e,es'[i-1]?=some e:=⟨_,zB i1⟩;have hle:=hlo _ _ he;have xe:atI (V.non::es'.map iV) ki=some (iV e):=by
      have e1:ki=((i:Nat):Int):=by omega
      rw[e1];refine qbu ?_;obtain⟨b,rfl⟩:∃b,i=b+1:=⟨i-1,#[]⟩;rw[aN,zC];rw[Nat.add_sub_cancel] at he;rw[he];rfl
     have hen:e<nm.length:=by omega
     have xne:atI (nm.map V.str) ((e:Nat):Int)=some (.str (nmG nm e)):=qbu (by rw[zC,qd3 hen];rfl);have em:nmG nm e∈nm.take (i+1):=zF (i:=e) (by rw[List.getElem?_take_of_lt #[]];exact qd3 hen);have im:nmG nm i∈nm.take (i+1):=by rw[etk];simp
     have gr:qby (nm.take (i+1)) rmB (nmG nm e)=some (rmB (nmG nm e)):=qbe em;have hRr:Rd HB dr (.dK krB):=.inl erB;clear he hle;left;refine qce (SqL.of elB) xe ?_;left;refine qce (SqL.of enB) xne ?_;left;refine qce (SqL.of enB) xn ?_;left;refine⟨_,_,rfl,fun b u hb z=>by rw[qa7 hb];exact z,qa1,ad_again hrAB im,fun z hz=>?_⟩
     try dsimp only
     by_cases c4:z=nmG nm i
     .rw[gJ c4];exact hrB _ em
     .rw[gI c4];exact hrB z hz
    .left;exact⟨rmB,krB,rfl,fun b u _ z=>z,erB,hrAB,hrB⟩
   .left;exact⟨rmB,krB,rfl,fun b u _ z=>z,erB,hrAB,hrB⟩
  rintro σ' HC ⟨rm',kr',rfl,sbC,erC,hrAC,rmC⟩;exact⟨es',W',_,wa',rm',_,kw',kr',_,_,_,rfl,fun b u z=>sbC b u (fun y=>by subst y;rw[fdr] at z;cases z) (smB b u z),sbC _ _ nlr elB,sbC _ _ ngr egB,sbC _ _ nwr ewB,erC,hgA8,hwA9,hrAC,hdn rm' rmC⟩
 rintro σ H' ⟨es,W,wt,wa,rm,kg,kw,kr,w8,w9,w10,rfl,sm,el',eg',ew',er',hgA,hwA,hrA,hd⟩;obtain⟨W0,pm,srt⟩:=sort_ex W;subst hwl;rw[zK] at hgA hrA;have ok:=hd.ok n1 n7 hwn hwg pm srt;have en':=sm _ _ en3;left;rename_i p hp;have sF:=qa4 hp (.lst [V.ref ln,V.ref le,V.ref dg,V.ref dw,V.ref dr]);refine q p ln le dg dw dr nm es kg kw kr ⟨W0,lnD nm es,wt,wa,rm⟩ _ ((s3.trans sm).trans sF) ⟨qa1,sF _ _ en',sF _ _ el',sF _ _ eg',sF _ _ ew',sF _ _ er',hgA,hwA.cast fun z=>?_,hrA⟩ ok (fun z hz=>hd.wt z (by rw[zK];exact hz)) (fun z hz=>?_) hst
 rotate_left
 .have:=hd.rm z (by rw[zK];exact hz);exact⟨this.lo,this.hi⟩
 unfold qby;by_cases c:z∈W
 .rw[gJ c,gJ (pm.mem_iff.mpr c)]
 .rw[gI c,gI fun h=>c (pm.mem_iff.mp h)]
inductive sp_tree(K:uS)(d:Ad)(vs:List V)(H:Hp)(Q:VK)(E:XK):Prop
 |mk(a:Addr)(ns:List Int)(p ln le dg dw dr:Addr)(nm:List Str)(es:List Nat)(kg kw kr:List (Key×V))(D:Dl)(_:vs=[.ref a,.ref p])(_:SqL K H a (ns.map V.int))(_:ShAt H p ln le dg dw dr nm es kg kw kr D)(_:ShOk nm es D)(_:(∀z∈nm,1<=D.wt z/\D.wt z<=1000))(_:∀(t:Addr)(S:Ts) H',Same H H'->TrD d H' t S D->(∀n∈D.W0,∀e,S.at n=some e->e.x.w=D.wt n)->Q (.ref t) H')
set_option maxHeartbeats 9000000 in
include T in
theorem wg9:FnOk P w K mg base CX0 20 d.wfn d.wcw ["_law_script","_law_sharing_here"] (sp_tree K d):=by
 exists T.wgd.ok w5p
 .right
 obtain⟨a,ns,p,ln,le,dg,dw,dr,nm,es,kg,kw,kr,D,rfl,hS,hA,ok,hw,q⟩:=h;refine⟨_,(qa2 (qf5 (pv 1) (qf6 rfl (qaj (qab (i:=2) w5p.nd rfl (uF rfl)) (qaj (qab (i:=3) w5p.nd rfl (uF rfl)) (qaj (qab (i:=4) w5p.nd rfl (uF rfl)) (qaj (qab (i:=5) w5p.nd rfl (uF rfl)) (qaj (qab (i:=6) w5p.nd rfl (uF rfl)) qcq)))))))
  (qa2 (qae (i:=7) w5p.nd rfl (uF rfl) (qfe (W:=fun _ _ _ _=>False) T.w9a ((wby T).mono ∅) hr rfl T.wik T.wcl .nil qfj #[qbb #[qaf ((wct T).mono ∅) hr rfl T.wfv T.we8.kp T.wfz .nil qay #[qaf ((w1m T).mono ∅) hr rfl T.w2a T.w1r.kp T.w2b .nil qay #[pv 0,qa6],qa6]],qal qax (pv 2) qa6 nofun,qb3,qb3,pv 4|||qal qax (pv 2) qa6 nofun]))
  (qa2 (qb0 vH rfl (pi_range2 rfl T.w53 #[qa6,qag qba rfl T.w3r vP #[pv 2]]) (qab (i:=8) w5p.nd rfl (uF rfl)) (qa5 (qbn (qb1 (W:=fun _ _ _ _=>False) (pv 7) T.w03 T.w2d ((was T).mono ∅) hr T.wbg .nil qfj #[qal qax (pv 2) (pv 8) nofun,qal qax (pv 2) (qal qax (pv 3) (pv 8) nofun) nofun,qb3,qb3,pv 4|||qal qax (pv 2) (pv 8) nofun]))))
  (qa5 (qad (pv 7)))))),?_⟩
 walk_at"d"
 try dsimp only[cxC]
 refine qac (σ:=[sr a,sr p,none,none,none,none,none,none,none]) rfl ?_;have ct:=T.w03;have etop:=hA.top;have en:=hA.n;have l7:=ok.l7;have len:=ok.len;have low:=ok.low;have n0:0<nm.length:=by omega
 have ln7:(nm.map V.str).length=nm.length:=zA _;have xn:∀j,j<nm.length->atI (nm.map V.str) ((j:Nat):Int)=some (.str (nmG nm j)):=fun j hj=>qbu (by rw[zC,qd3 hj];rfl);have hgA:=hA.gA;left;refine⟨a,ns,2,rfl,hS,∅,?_⟩;left;refine⟨_,_,rfl,∅,∅,?_⟩;have gz:=nmS_good (cell ns 2) 0;generalize nmS (cell ns 2) 0=z0 at*;left;rename_i pw hpw;refine qce (SqL.of (qaa en hpw)) (xn 0 n0) ?_;left;rename_i p1 hp1 p2 hp2;have s6:=(qa4 hpw (.lst [V.str z0])).trans ((qa4 hp1 (.dK [])).trans (qa4 hp2 (.dK [])));have ew6:upd (upd (upd H pw (.lst [V.str z0])) p1 (.dK [])) p2 (.dK []) pw=some (.lst [V.str z0]):=qaa (qaa qa1 hp1) hp2;have ep1:upd (upd (upd H pw (.lst [V.str z0])) p1 (.dK [])) p2 (.dK []) p1=some (.dK []):=qaa qa1 hp2;have ep2:upd (upd (upd H pw (.lst [V.str z0])) p1 (.dK [])) p2 (.dK []) p2=some (.dK []):=qa1;generalize upd (upd (upd H pw (.lst [V.str z0])) p1 (.dK [])) p2 (.dK [])=H6 at*;have hA6:=hA.same s6;clear hpw hp1 hp2;refine qce (SqL.of hA6.n) (xn 0 n0) ?_;have hRg:Rd H6 dg (.dK kg):=.inl hA6.g;have gw0:qby nm D.wt (nmG nm 0)=some (D.wt (nmG nm 0)):=qbe (qcz n0);left;intro x dx hx hdx ne;have sN:Same H6 (upd (upd H6 dx (.own x)) x (.ins d.w01 dx [])):=(qa4 hdx _).trans (qa4 (by rw[qa7 ne.symm];exact hx) _);have ex7:upd (upd H6 dx (.own x)) x (.ins d.w01 dx []) x=some (.ins d.w01 dx []):=qa1;generalize upd (upd H6 dx (.own x)) x (.ins d.w01 dx [])=H7 at*;have fn:∀ws,Fin ws noF:=fun ws z n e=>by cases e
 have w0:=hw _ (qcz n0);refine⟨x,dx,pw,p1,p2,nmG nm 0,[z0],[],[],noF,noF,D.wt (nmG nm 0),rfl,ex7,sN _ _ ew6,⟨by show 1<=1;decide,by show 1<=6;decide,fun z hz=>by rw[zE.mp hz];exact gz,zW.mpr ⟨by simp,yJ⟩⟩,ok.gd _ (qcz n0),sN _ _ ep1,AD.nil,∅,sN _ _ ep2,AD.nil,∅,fn _,fn _,w0.1,w0.2,fun y=>Int.le_refl _,fun S e H8 sb hT f1 f2 f3 f4 f5 ehl een ee ew efp efc hpm hso=>⟨rfl,?_⟩⟩;have s8:Same H6 H8:=fun b u e=>sb b u (qa9 e hx) (sN b u e);have fhs:H6 S.hs=none:=sN.free f1;have bt1:Bt S (nmG nm) (elN es) 1 (fun k=>D.wt (nmG nm k)):=Bt.one ehl een ee ew efp efc (by rw[hpm.length_eq];show 1<=6;decide);clear sb f1 f2 f3 f4 f5 ehl een ee ew efp efc hpm hso ex7 sN hx hdx ne e ew6 ep1 ep2 fn w0 hRg gw0 gz;have en8:=s8 _ _ hA6.n;left;unfold iRng2;left;refine⟨1,((nm.map V.str).length:Int),rfl,?_,?_⟩
 .rw[ln7];omega
 rw[ln7,show(((nm.length:Nat):Int)-1).toNat=nm.length-1 by omega];have inj:∀i j,i<nm.length->j<nm.length->nmG nm i=nmG nm j->i=j:=fun i j hi hj e=>qfu ok.nd hi hj e;refine qg4 (n:=nm.length-1) (fun i σ H'=>∃(S:Ts)(w8:Option V),σ=[sr a,sr p,sr ln,sr le,sr dg,sr dw,sr dr,sr x,w8]/\Same H6 H'/\H6 S.hs=none/\qf9 d H' x S/\Bt S (nmG nm) (elN es) (1+i) (fun k=>D.wt (nmG nm k))) ⟨S,none,rfl,s8,fhs,hT,bt1⟩ ?_ ?_
 .rintro i σ H' hi ⟨S,w8,rfl,s',fhs',hT',bt'⟩;have hA':=hA6.same s';obtain⟨tx,ht⟩:=id hT'.1;have hk:1+i<nm.length:=by omega
  have lk:=low (1+i) #[] hk;have xe:atI (V.non::es.map iV) (1+(i:Int))=some (iV (elN es (1+i))):=by
   have e1:(1+(i:Int))=((i+1:Nat):Int):=by omega
   have hb:i<es.length:=by omega
   rw[e1,Nat.add_comm 1 i,elN_at hb];exact qbu (by rw[aN,zC,zB hb];rfl)
  have xk:atI (nm.map V.str) (1+(i:Int))=some (.str (nmG nm (1+i))):=by
   have:=xn (1+i) hk;rw[show(1+(i:Int))=((1+i:Nat):Int) by omega];exact this
  have xel:=xn (elN es (1+i)) #[];have wb:=hw _ (qcz hk);have gk:=ok.gd _ (qcz hk);have gw:qby nm D.wt (nmG nm (1+i))=some (D.wt (nmG nm (1+i))):=qbe (qcz hk);generalize (1+(i:Int))=ii at*;left;refine qce (SqL.of hA'.n) xk ?_;left;refine qce (SqL.of hA'.e) xe ?_;left;refine qce (SqL.of hA'.n) xel ?_;left;rename_i q1 hq1 q2 hq2;have s9:=(qa4 hq1 (.dK [])).trans (qa4 hq2 (.dK []));have eq1:upd (upd H' q1 (.dK [])) q2 (.dK []) q1=some (.dK []):=qaa qa1 hq2;have eq2:upd (upd H' q1 (.dK [])) q2 (.dK []) q2=some (.dK []):=qa1;generalize upd (upd H' q1 (.dK [])) q2 (.dK [])=H9 at*;refine qce (SqL.of (s9 _ _ hA'.n)) xk ?_;have hRg:Rd H9 dg (.dK kg):=.inl (s9 _ _ hA'.g);left;refine Bt.found (nm:=nmG nm) (el:=elN es) (wt:=fun k=>D.wt (nmG nm k)) (k:=1+i) bt' (hT'.same s9) #[] #[] (fun i' j' a b=>inj i' j' #[] #[]) lk gk eq1 eq2 wb.1 wb.2 fun e2 H10 sb hT2 bt2=>?_;left;exact⟨{S with hl:=S.hl++[e2]},_,rfl,fun b u e=>sb b u (fun z=>by subst z;rw[fhs'] at e;cases e) (s9 _ _ (s' _ _ e)),fhs',hT2,bt2⟩
 rintro σ H9 ⟨S,w8,rfl,s',fhs',hT',bt'⟩;rw[show 1+(nm.length-1)=nm.length by omega] at bt';left;have all:∀n∈D.W0,∃e,S.at n=some e/\e.x.w=D.wt n/\LineOf S n (D.ln n):=fun n hn=>by
  obtain⟨k,hk,e⟩:=zU.mp (ok.sub n hn);have e2:nmG nm k=n:=by unfold nmG;rw[zB hk,e];rfl
  obtain⟨e,h1,h2,h3⟩:=bt'.pl.at (k:=k) hk;have hl:=bt'.pl.line k hk;rw[<-ok.ln k hk] at hl;rw[e2] at h1 hl;exact⟨e,h1,by rw[bt'.w k e h2,e2],hl⟩
 refine q x S H9 (s6.trans s') ⟨hT',fun n hn=>?_⟩ fun n hn e he=>?_
 .obtain⟨e,h1,_,h3⟩:=all n hn;exact⟨e,h1,trivial,h3⟩
 .obtain⟨e',h1,h2,_⟩:=all n hn;rw[he] at h1
  cases h1
  exact h2
def qf4(H H':Hp):Prop:=∀b u,(∀ps,u≠HO.tbl ps)->H b=some u->H' b=some u
def Same.sn(s:Same H H'):qf4 H H':=fun b u _ e=>s b u e
def qf4.trans{H'':Hp}(s:qf4 H H')(s':qf4 H' H''):qf4 H H'':=fun b u n e=>s' b u n (s b u n e)
theorem qf4.seq{K:uS}{xs:List V}(s:qf4 H H')(h:SqL K H a xs):SqL K H' a xs:=by
 rcases h with (h|⟨o,h⟩) |h
 .exact .inl (.inl (s _ _ (fun ps e=>by cases e) h))
 .exact .inl (.inr ⟨o,s _ _ (fun ps e=>by cases e) h⟩)
 .exact .inr h
def ShAt.sn{p ln le dg dw dr:Addr}{kg kw kr:List (Key×V)}(h:ShAt H p ln le dg dw dr nm es kg kw kr D)(s:qf4 H H'):ShAt H' p ln le dg dw dr nm es kg kw kr D:=
 ⟨s _ _ (fun ps e=>by cases e) h.top,s _ _ (fun ps e=>by cases e) h.n,s _ _ (fun ps e=>by cases e) h.e,s _ _ (fun ps e=>by cases e) h.g,s _ _ (fun ps e=>by cases e) h.w,s _ _ (fun ps e=>by cases e) h.r,h.gA,h.wA,h.rA⟩
def HoAt.sn{d:Ad}{x:Ho}(h:HoAt d H a x)(s:qf4 H H'):HoAt d H' a x:=⟨let ⟨dx,e⟩:=h.1;⟨dx,s _ _ (fun ps e=>by cases e) e⟩,s _ _ (fun ps e=>by cases e) h.2.1,h.2.2.1,s _ _ (fun ps e=>by cases e) h.2.2.2.1,h.2.2.2.2⟩
theorem qf9.sn{d:Ad}{t:Addr}(h:qf9 d H t S)(s:qf4 H H'):qf9 d H' t S:=
 ⟨let ⟨dx,e⟩:=h.1;⟨dx,s _ _ (fun ps e=>by cases e) e⟩,s _ _ (fun ps e=>by cases e) h.2.1,s _ _ (fun ps e=>by cases e) h.2.2.1,h.2.2.2.1,h.2.2.2.2.1,fun e he=>(h.2.2.2.2.2 e he).sn s⟩
def wh3(K:uS)(d:Ad)(tp:Addr):Sp:=fun vs H Q _=>∃(a:Addr)(ns:List Int)(p ln le dg dw dr:Addr)(nm:List Str)(es:List Nat)(kg kw kr:List (Key×V))(D:Dl),vs=[.ref a,.ref p]/\SqL K H a (ns.map V.int)/\ShAt H p ln le dg dw dr nm es kg kw kr D/\ShOk nm es D/\(∀z∈nm,1<=D.wt z/\D.wt z<=1000)/\H tp=some (.tbl (List.toArray []))/\
 ∀(l t:Addr)(wv:V)(S:Ts) H',qf4 H H'->H l=none->H' l=some (.lst [.ref t,wv])->TrD d H' t S D->Wgh H' S D wv->Q (.ref l) H'
theorem dom_step{g:Str->Int}{n:Str}(hn:W[i]?=some n)(z:Str):putF' (qby (W.take i) g) n (g n) z=qby (W.take (i+1)) g z:=by
 rw[qey];unfold qby;have tk:z∈W.take (i+1)↔z∈W.take i\/z=n:=qas hn z;by_cases c:z=n
 .rw[gJ c,gJ (tk.mpr (.inr c)),c]
 .rw[gI c];by_cases c2:z∈W.take i
  .rw[gJ c2,gJ (tk.mpr (.inl c2))]
  .rw[gI c2,gI fun h=>(tk.mp h).elim c2 c]
theorem wgn{P:uY}{w:vL}{K:uS}{mg:Str->Option uB}{base:vQ}{d:Ad}(T:Tx K mg d){tp:Addr}(hwg:FnOk P w K mg base CX0 2 d.w6x d.w5s ["_law_table"] (w7c tp)):FnOk P w K mg base CX0 24 d.wco d.wbb ["_law_script","_law_sharing_here"] (wh3 K d tp):=by
 exists T.wfo.ok w2m
 .right
 obtain⟨a,ns,p,ln,le,dg,dw,dr,nm,es,kg,kw,kr,D,rfl,hS,hA,ok,hw,htp,q⟩:=h;exists (qa2 (qf5 (pv 1) (qf6 rfl (qaj (qab (i:=2) w2m.nd rfl (uF rfl)) (qaj (qab (i:=3) w2m.nd rfl (uF rfl)) (qaj (qab (i:=4) w2m.nd rfl (uF rfl)) (qaj (qab (i:=5) w2m.nd rfl (uF rfl)) (qaj (qab (i:=6) w2m.nd rfl (uF rfl)) qcq)))))))
  (qa2 (qb4 (qai qel (qah qb5 (qah qbl (qaf ((w1m T).mono ∅) hr rfl T.w2a T.w1r.kp T.w2b .nil qay #[pv 0,qa6]) qa6) qa6) qa6 (qar _)) (qa5 (qad (qbb #[qaf ((wg9 T).mono ∅) hr rfl T.whb T.wgd.kp T.wh9 .nil qay #[pv 0,pv 1],qck]))) qak)
  (qa2 (qae (i:=7) w2m.nd rfl (uF rfl) qb3)
  (qa2 (qb0 vH rfl (qaw (pv 2)) (qab (i:=8) w2m.nd rfl (uF rfl)) (qa5 (qbh (qat hr) (pv 7) (pv 8) (qah qbx qa6 (qah qb5 (pv 4|||pv 8) qa6)) rfl)))
  (qa2 (qae (i:=9) w2m.nd rfl (uF rfl) qb3)
  (qa2 (qeg (qb0 vH rfl (qcp (pv 5)) (qab (i:=8) w2m.nd rfl (uF rfl)) (qa5 (qbh (qat hr) (pv 9) (pv 8) (pv 4|||pv 8) rfl))))
  (qa5 (qad (qbb #[qaf ((wg9 T).mono ∅) hr rfl T.whb T.wgd.kp T.wh9 .nil qay #[pv 0,qbb #[pv 2,pv 3,pv 7,pv 5,pv 6]],qaf (hwg.mono ∅) hr rfl T.wbw T.wbz.kp T.wfy .nil qay #[pv 9]]))))))))),[sr a,sr p,none,none,none,none,none,none,none,none];have etop:=hA.top;left;refine⟨a,ns,0,rfl,hS,∅,?_⟩;left;by_cases c:(cell ns 0).fdiv 7%2=0
 .rw[gJ (gK c)];left;refine⟨a,ns,p,ln,le,dg,dw,dr,nm,es,kg,kw,kr,D,rfl,hS,hA,ok,hw,fun t S H1 s1 hT hwt=>?_⟩;left;rename_i l hl;exact q l t .non S _ (Same.sn (s1.trans (qa4 hl _))) (s1.free hl) qa1 (hT.same (qa4 hl _)) (.inl ⟨rfl,hwt⟩)
 .rw[gI (by simpa using c)];have en:=hA.n;have len:=ok.len;have l7:=ok.l7;left;rename_i lo hlo;have s1:=qa4 hlo (.dK []);have elo:upd H lo (.dK []) lo=some (.dK []):=qa1;generalize upd H lo (.dK [])=H1 at*;refine qbs (xs:=nm.map V.str) (fun i σ H'=>∃(k':List (Key×V))(w:Option V),σ=[sr a,sr p,sr ln,sr le,sr dg,sr dw,sr dr,sr lo,w,none]/\Same H H'/\H' lo=some (.dK k')/\AD k' (qby (nm.take i) fun z=>1+D.wt z%7)/\k'.length<=i) ⟨[],none,rfl,s1,elo,AD.nil.cast fun z=>rfl,uG _⟩ ?_ ?_ ?_
  .rintro i σ H' _ ⟨k',w,rfl,sm,_⟩;exact SqL.of (sm _ _ en)
  .rintro i v σ H' hv ⟨k',w,rfl,sm,ed,hK,hk⟩;rw[zC] at hv;obtain⟨n,hn,rfl⟩:=uI.mp hv;have hi:=(uL.mp hn).1;have hn0:=zF hn;have hRg:Rd H' dg (.dK kg):=.inl (sm _ _ hA.g);have hgA:=hA.gA;have gw:qby nm D.wt n=some (D.wt n):=qbe hn0;have zk:k'.length<sizeLine:=by show _<16777216;omega
   clear hv;left;have lput:=qaz k' (uH n) (.int (1+D.wt n%7));refine⟨_,_,rfl,qb6 sm hlo,qa1,(hK.put n _).cast fun z=>?_,#[]⟩;exact dom_step hn z
  rintro σ H2 ⟨ko,w,rfl,s2,ed,hK,hk⟩;rw[zA,zK] at hK;left;rename_i tb htb;have s3:=s2.trans (qa4 htb (.dK []));have etb:upd H2 tb (.dK []) tb=some (.dK []):=qa1;have ed3:=qaa (o':=.dK []) ed htb;have htb0:H tb=none:=s2.free htb;have nob:lo≠tb:=fun e=>by subst e;rw[ed] at htb;cases htb
  generalize upd H2 tb (.dK [])=H3 at*;have hA3:=hA.same s3;have hw3:=hA3.w;have nwb:tb≠dw:=(qa9 hA.w htb0).symm;have nwo:lo≠dw:=(qa9 hA.w hlo).symm;refine qfq hw3 fun o=>?_;refine qet (fun i σ H'=>∃(kt:List (Key×V))(w:Option V),σ=[sr a,sr p,sr ln,sr le,sr dg,sr dw,sr dr,sr lo,w,sr tb]/\Sb2 dw tb H3 H'/\H' dw=some (.frz o (.dK kw))/\H' tb=some (.dK kt)/\AD kt (qby ((qc2 kw).take i) D.wt)/\kt.length<=i)
   ⟨[],_,rfl,fun b u n1 _ e=>by rw[qa7 n1];exact e,qa1,by rw[qa7 nwb];exact etb,AD.nil.cast fun z=>rfl,uG _⟩ ?_ ?_ ?_
  .rintro i σ H' _ ⟨kt,w,rfl,sb,fz,_⟩;exact fz
  .rintro i k v σ H' hk ⟨kt,w,rfl,sb,fz,el,hF,hlen⟩;obtain⟨z,n,rfl,rfl,hf,hzi⟩:=hA.wA.at hk;have hi:i<kw.length:=(uL.mp hk).1;have hz:z∈D.W0:=qcv.mp (by rw[hf];simp);have hzn:=ok.sub z hz;have gw:qby nm D.wt z=some (D.wt z):=qbe hzn;have hgA:=hA.gA;have hRg:Rd H' dg (.dK kg):=by
    by_cases e:dg=dw
    .have e1:=hA.g;rw[e,hA.w] at e1
     cases e1
     rw[e];exact .inr ⟨o,fz⟩
    .exact .inl (sb _ _ e (qa9 hA.g htb0) hA3.g)
   have kl7:kw.length<=7:=by
    have:=(qdb hA.wA ok.ok.nd).length_eq;rw[hA.wA.klen] at this;have:=ok.ok.l8;omega
   have zl:kt.length<sizeLine:=by show _<16777216;omega
   show qer _ (.str z) _ _ _;left;have lput:=qaz kt (uH z) (.int (D.wt z));refine⟨_,_,rfl,fun b u n1 n2 e=>by rw[qa7 n2];exact sb b u n1 n2 e,by rw[qa7 nwb.symm];exact fz,qa1,(hF.put z _).cast fun y=>?_,#[]⟩;exact dom_step hzi y
  rintro σ H' ⟨kt,w,rfl,sb,fz,el,hF,hlen⟩;refine qeb (qfm fz (qcd hA.w)) ?_;rw[<-hA.wA.klen,zK] at hF;have s4:Same H (upd H' dw (.dK kw)):=fun b u e=>by
   by_cases c:b=dw
   .subst c;rw[qa1,<-hA.w];exact e
   .rw[qa7 c];exact sb b u c (qa9 e htb0) (s3 b u e)
  have etb4:upd H' dw (.dK kw) tb=some (.dK kt):=by rw[qa7 nwb];exact el
  have ed4:upd H' dw (.dK kw) lo=some (.dK ko):=by rw[qa7 nwo];exact sb _ _ nwo nob ed3
  have hT4:AD kt (qby D.W0 D.wt):=hF.cast fun z=>by
   have kp:=qdb hA.wA ok.ok.nd;unfold qby;by_cases c:z∈D.W0
   .rw[gJ c,gJ (kp.mem_iff.mpr c)]
   .rw[gI c,gI fun h=>c (kp.mem_iff.mp h)]
  generalize upd H' dw (.dK kw)=H4 at*;left;rename_i p2 hp2;have s5:=s4.trans (qa4 hp2 (.lst [V.ref ln,V.ref le,V.ref lo,V.ref dw,V.ref dr]));have ep2:upd H4 p2 (.lst [V.ref ln,V.ref le,V.ref lo,V.ref dw,V.ref dr]) p2=some (.lst [V.ref ln,V.ref le,V.ref lo,V.ref dw,V.ref dr]):=qa1;have etb5:=qaa (o':=.lst [V.ref ln,V.ref le,V.ref lo,V.ref dw,V.ref dr]) etb4 hp2;have ed5:=qaa (o':=.lst [V.ref ln,V.ref le,V.ref lo,V.ref dw,V.ref dr]) ed4 hp2;generalize upd H4 p2 (.lst [V.ref ln,V.ref le,V.ref lo,V.ref dw,V.ref dr])=H5 at*;have hA5:=hA.same s5;have hw7:∀z,1<=1+D.wt z%7/\1+D.wt z%7<=1000:=fun z=>by omega
  have ok':ShOk nm es {D with wt:=fun z=>1+D.wt z%7}:=⟨ok.nd,ok.gd,ok.len,ok.l7,ok.lo,ok.sub,ok.ln,⟨ok.ok.nd,fun n _=>(hw7 n).1,fun n _=>(hw7 n).2,ok.ok.a0,ok.ok.a1,ok.ok.r0,ok.ok.r1,ok.ok.l0,ok.ok.ld,ok.ok.lz,ok.ok.l8⟩,ok.srt⟩;refine⟨a,ns,p2,ln,le,lo,dw,dr,nm,es,ko,kw,kr,{D with wt:=fun z=>1+D.wt z%7},rfl,s5.seq hS,⟨ep2,hA5.n,hA5.e,ed5,hA5.w,hA5.r,hK,hA5.wA,hA5.rA⟩,ok',fun z _=>hw7 z,fun t S H6 s6 hT _=>?_⟩;have s06:=s5.trans s6;have htp6:=s06 _ _ htp;have etb6:=s6 _ _ etb5;clear ok' hA5 ed5 ep2 s5 s6 etb5 etb4 ed4 hp2 s4 fz el sb hF;left;refine⟨.ref tb,rfl,htp6,fun more g cd cl hg hcd hcl n1 n2 n3=>?_⟩;have old:∀b u,(∀ps,u≠HO.tbl ps)->H6 b=some u->made H6 tp g cd cl more (.ref tb) "_law_weigh_by" qw (qbo in_w) bdw (qa8 in_w) "_law_table" b=some u:=fun b u nt e=>by
   rw[qdr (fun z=>by subst z;rw[htp6] at e;exact nt _ (uQ e).symm) (fun z=>by subst z;rw[hcl] at e;cases e) (fun z=>by subst z;rw[hcd] at e;cases e) (fun z=>by subst z;rw[hg] at e;cases e)];exact e
  have wg:WgH (made H6 tp g cd cl more (.ref tb) "_law_weigh_by" qw (qbo in_w) bdw (qa8 in_w) "_law_table") g tb:=by
   refine⟨cl,cd,?_,?_,?_⟩
   .unfold made;rw[qa1]
   .unfold made;rw[qa7 n3.symm,qa1]
   .unfold made;rw[qa7 n2.symm,qa7 n1.symm,qa1]
  have free:∀l,made H6 tp g cd cl more (.ref tb) "_law_weigh_by" qw (qbo in_w) bdw (qa8 in_w) "_law_table" l=none->H6 l=none:=fun l e=>by
   cases c:H6 l with
   |none=>rfl
   |some u=>
    by_cases z:l=tp
    .subst z;unfold made at e;rw[qa7 (fun z=>by subst z;rw[hg] at c;cases c),qa7 (fun z=>by subst z;rw[hcd] at c;cases c),qa7 (fun z=>by subst z;rw[hcl] at c;cases c),qa1] at e
     cases e
    .rw[qdr z (fun z=>by subst z;rw[hcl] at c;cases c) (fun z=>by subst z;rw[hcd] at c;cases c) (fun z=>by subst z;rw[hg] at c;cases c),c] at e
     cases e
  have etb7:=old _ _ (fun ps e=>by cases e) etb6;have hT7:qf9 d (made H6 tp g cd cl more (.ref tb) "_law_weigh_by" qw (qbo in_w) bdw (qa8 in_w) "_law_table") t S:=hT.tr.sn old;generalize made H6 tp g cd cl more (.ref tb) "_law_weigh_by" qw (qbo in_w) bdw (qa8 in_w) "_law_table"=H7 at*;left;rename_i l hl;have s8:=qa4 hl (.lst [V.ref t,V.ref g]);refine q l t (.ref g) S _ (qf4.trans (qf4.trans (Same.sn s06) old) (Same.sn s8)) (s06.free (free l hl)) qa1 ⟨hT7.same s8,hT.ln⟩ (.inr ⟨g,tb,kt,rfl,?_,s8 _ _ etb7,hT4⟩);obtain⟨cl,cd,w1,w2,w3⟩:=wg;exact⟨cl,cd,s8 _ _ w1,s8 _ _ w2,s8 _ _ w3⟩
def r_callXd{sp:Sp}{dvs:List V}{W:L2.St->XK}{t:TA}{σ:L2.St}(h:t σ H fun vs H1=>sp (vs++dvs) H1 Q (W σ)):tCallX sp dvs W t σ H Q:=h
theorem deq_ad{K:uS}{ka kb:List (Key×V)}(ha:H a=some (.dK ka))(hb:H b=some (.dK kb))(ne:a≠b)(A:AD ka f)(B:AD kb f):DEq K H (n+1) (.ref a) (.ref b) true:=by
 have z:=DEq.dd (K:=K) (n:=n) (.inl ha) (.inl hb) ne A.flat B.flat;rw[A.eq B] at z;exact z
theorem deqs_rV{K:uS}{H:Hp}{n:Nat}:∀(rows:List R3),DEqs K H n (rV rows) (rV rows)
 | []=>trivial
 |r::rows=>⟨.same,deqs_rV rows⟩
theorem papB_even(ok:DlOk D){lf lv:Str->Rat}{M:Rat}{N:Nat}(I:RdI D [] lf lv M N){n:Str}(hn:n∈D.W0):papB D lv n (papV D lv n)=true:=by
 by_cases c:shQ D lv n=(D.wa n:Rat)
 .have e:papV D lv n=.non:=by unfold papV;rw[gJ c]
  rw[e];exact gK c
 .obtain⟨h,hs,e1,e2⟩:=I.stop ok hn c;rw[e2];exact gK (by rw[e1];exact zG ..)
theorem EvAt.rows{as:List (Addr×Addr)}(h:EvAt H D lv D.W0 l as)(ok:DlOk D){lf:Str->Rat}{M:Rat}{N:Nat}(I:RdI D [] lf lv M N):∃rows:List R3,H l=some (.lst (rV rows))/\rows.map (·.n)=D.W0/\(∀r∈rows,Gd H D lv r)/\∀r∈rows,papB D lv r.n r.pv=true:=by
 have hin:∀x∈as.zip D.W0,∃i:Nat,as[i]?=some x.1/\D.W0[i]?=some x.2:=fun x hx=>by
  obtain⟨i,hi⟩:=List.mem_iff_getElem?.mp hx;rw[List.getElem?_zip_eq_some] at hi;exact⟨i,hi⟩
 refine⟨(as.zip D.W0).map fun x=>⟨x.1.1,x.2,x.1.2,papV D lv x.2⟩,?_,?_,fun r hr=>?_,fun r hr=>?_⟩
 .rw[h.l];have e:(as.zip D.W0).map (·.1)=as:=List.map_fst_zip (by rw[h.n];exact uG _);unfold rV;rw[yM];have:((fun r:R3=>V.ref r.a)∘fun x:(Addr×Addr)×Str=>(⟨x.1.1,x.2,x.1.2,papV D lv x.2⟩:R3))=(fun p:Addr×Addr=>V.ref p.1)∘ (·.1):=rfl;rw[this,<-yM,e]
 .rw[yM];have:((fun r:R3=>r.n)∘fun x:(Addr×Addr)×Str=>(⟨x.1.1,x.2,x.1.2,papV D lv x.2⟩:R3))=(·.2):=rfl;rw[this];exact List.map_snd_zip (by rw[h.n];exact uG _)
 .obtain⟨x,hx,rfl⟩:=zI.mp hr;obtain⟨i,h1,h2⟩:=hin x hx;obtain⟨a1,a2⟩:=h.r i x.2 x.1 h2 h1;exact⟨⟨a1,pap_or D lv x.2⟩,fun _=>a2⟩
 .obtain⟨x,hx,rfl⟩:=zI.mp hr;obtain⟨i,h1,h2⟩:=hin x hx;exact papB_even ok I (zF h2)
theorem r_isNw{wv:V}(h:wv=.non\/∃g,wv=.ref g)(q1:wv=.non->Q (.bl true) H)(q2:Q (.bl false) H):rIsN wv .non H Q:=by
 rcases h with rfl|⟨g,rfl⟩
 .exact r_isNn (q1 rfl)
 .exact r_isNr q2
structure Bx(C:Prop):Prop where
 o:C
def once{C G:Prop}(h:Bx C->G)(r:Bx C):G:=h r
def sp_law0(K:uS)(tp:Addr):Sp:=fun vs H Q _=>∃(a:Addr)(ns:List Int),vs=[.ref a]/\SqL K H a (ns.map V.int)/\ns.length<=63/\H tp=some (.tbl (List.toArray []))/\∀H',Q (.bl true) H'
set_option maxHeartbeats 9000000 in
theorem ok_law{P:uY}{w:vL}{K:uS}{mg:Str->Option uB}{base:vQ}{d:Ad}(T:Tx K mg d){tp:Addr}(hwg:FnOk P w K mg base CX0 2 d.w6x d.w5s ["_law_table"] (w7c tp)):FnOk P w K mg base CX0 25 d.wd9 d.wbm ["_law_script"] (sp_law0 K tp):=by
 exists T.wit.ok w2p
 .right
 obtain⟨a,ns,rfl,hS,hn,htp,q⟩:=h;refine⟨_,(qa2 (qae (i:=1) w2p.nd rfl (uF rfl) (qaf ((weq T).mono ∅) hr rfl T.wff T.wc9.kp T.wg8 .nil qay #[pv 0,qah qbx qa6 (qah qb5 (qaf ((w1m T).mono ∅) hr rfl T.w2a T.w1r.kp T.w2b .nil qay #[pv 0,qa6]) qa6)]))
  (qa2 (qf5 (pv 1) (qf6 rfl (qaj (qab (i:=2) w2p.nd rfl (uF rfl)) (qaj (qab (i:=3) w2p.nd rfl (uF rfl)) (qaj (qab (i:=4) w2p.nd rfl (uF rfl)) (qaj (qab (i:=5) w2p.nd rfl (uF rfl)) (qaj (qab (i:=6) w2p.nd rfl (uF rfl)) qcq)))))))
  (qa2 (qf5 (qaf ((wgn T hwg).mono ∅) hr rfl T.whw T.wfo.kp T.wia .nil qay #[pv 0,pv 1]) (qf6 rfl (qaj (qab (i:=7) w2p.nd rfl (uF rfl)) (qaj (qab (i:=8) w2p.nd rfl (uF rfl)) qcq))))
  (qa2 (qae (i:=9) w2p.nd rfl (uF rfl) (qaf ((wct T).mono ∅) hr rfl T.wfv T.we8.kp T.wfz .nil qay #[qaf ((w1m T).mono ∅) hr rfl T.w2a T.w1r.kp T.w2b .nil qay #[pv 0,qa6],qag qba rfl T.w3r vP #[pv 2]]))
  (qa2 (qae (i:=10) w2p.nd rfl (uF rfl) (qav (W:=fun _ _ _ _=>False) ((wi1 T).mono ∅) hr rfl T.wig T.wh8.kp T.win .nil qfj #[pv 7,qb7 qbt rfl T.w4v vW #[pv 6],qb7 qbt rfl T.w4v vW #[pv 5],pv 8]))
  (qa2 (qb4 (PW.pt (qdx (qbz (qbg (qaf ((wde T).mono ∅) hr rfl T.wf1 T.wae.kp T.weh .nil qay #[pv 10,pv 5]))) (qdz (qai op_notB (qav (W:=fun _ _ _ _=>False) ((w5v T).mono ∅) hr rfl T.w6w T.w58.kp T.w9v .nil qfj #[pv 7,qb7 qbt rfl T.w4v vW #[pv 6],qb7 qbt rfl T.w4v vW #[pv 5],qb7 qf2 rfl T.wai xC #[pv 10],pv 8]) qcg (qar _))))) (qa5 (qad qcg)) qak)
  (qa2 (qb4 (PW.pt (qgf (qai qgv (pv 8) qck (qar _)) (qex (qai op_notB (qav (W:=fun _ _ _ _=>False) ((w5v T).mono ∅) hr rfl T.w6w T.w58.kp T.wer T.weo qfj #[pv 7,qb7 qbt rfl T.w4v vW #[pv 6],qb7 qbt rfl T.w4v vW #[pv 5],qb7 qf2 rfl T.wai xC #[pv 10]]) qcg (qar _))))) (qa5 (qad qcg)) qak)
  (qa2 (qb0 vH rfl (qaw (qah qdl (qcl qd8 (pv 0) (qcy qa6) (qcy qa6)) (qbb #[qaf ((w1m T).mono ∅) hr rfl T.w2a T.w1r.kp T.w2b .nil qay #[pv 0,qa6]]))) (qab (i:=11) w2p.nd rfl (uF rfl)) (qa5 (qb0 vH rfl (qaw (qbb #[qaf ((wgq T).mono ∅) hr rfl T.whq T.wge.kp T.whs .nil qay #[pv 1,pv 10,pv 11,pv 9],qaf ((wf0 T).mono ∅) hr rfl T.wgg T.wc0.kp T.wg6 .nil qay #[pv 10,pv 11,pv 9]])) (qab (i:=12) w2p.nd rfl (uF rfl)) (qa2 (qae (i:=13) w2p.nd rfl (uF rfl) (qb7 qf2 rfl T.wai xC #[pv 12]))
  (qa2 (qae (i:=14) w2p.nd rfl (uF rfl) (qav (W:=fun _ _ _ _=>False) ((w5v T).mono ∅) hr rfl T.w6w T.w58.kp T.w9v .nil qfj #[pv 7,qb7 qbt rfl T.w4v vW #[pv 6],qb7 qbt rfl T.w4v vW #[pv 5],pv 12,pv 8]))
  (qa5 (qb4 (PW.pt (qdx (qbz (qbg (qag qbm rfl T.w07 vE #[pv 14,qca (v:=.ty "bool") rfl T.wfp dB rfl]))) (qdx (qai op_ne (pv 14) (qaf ((wg3 T).mono ∅) hr rfl T.wgy T.wdz.kp T.wh4 .nil qay #[pv 1,pv 12]) (qar _)) (qdz (qai (op_neD (hu8 hr)) (pv 12) (pv 13) (qar _)))))) (qa5 (qad qcg)) qak)))))))
  (qa2 (qae (i:=15) w2p.nd rfl (uF rfl) (qbb #[qb7 qbt rfl T.w4v vW #[pv 6],qb7 qbt rfl T.w4v vW #[pv 5]]))
  (qa2 (qae (i:=14) w2p.nd rfl (uF rfl) (qav (W:=fun _ _ _ _=>False) ((w5v T).mono ∅) hr rfl T.w6w T.w58.kp T.w9v .nil qfj #[pv 7,pv 6,pv 5,qaf ((wd2 T).mono ∅) hr rfl T.wet T.wal.kp T.weu .nil qay #[pv 1,pv 10],pv 8]))
  (qa5 (qad (qej (qci op_isT (pv 14) qcg (qar _)) (qei (qci (op_eqD (hu8 hr)) (qbb #[pv 6,pv 5]) (pv 15) (qar _)))))))))))))))),?_⟩
 walk_at"d"
 try dsimp only[cxC]
 refine qac (σ:=[sr a,none,none,none,none,none,none,none,none,none,none,none,none,none,none,none]) rfl ?_;left;refine⟨a,ns,0,rfl,hS,∅,?_⟩;left;have c0:=uT (cell ns 0) (show(7:Int)≠0 by decide);have c1:=vB (cell ns 0) (show(0:Int)<7 by decide);obtain⟨n,hn'⟩:∃n:Nat,1+cell ns 0%7=(n:Int):=⟨(1+cell ns 0%7).toNat,#[]⟩;have n1:1<=n:=by omega
 have n7:n<=7:=by omega
 rw[hn'];clear hn' c0 c1;refine⟨a,ns,n,rfl,hS,n1,n7,fun p ln le dg dw dr nm es kg kw kr D H1 s1 hA ok hw rmb hst=>?_⟩;have l7:=ok.l7;have etop1:=hA.top;left;refine⟨a,ns,p,ln,le,dg,dw,dr,nm,es,kg,kw,kr,D,rfl,s1.seq hS,hA,ok,hw,s1 _ _ htp,fun l t wv S H2 sN fl el hT hW=>?_⟩;have hA2:=hA.sn sN;have hS2:=sN.seq (s1.seq hS);have en2:=hA2.n;clear hA s1 fl sN hw htp hS n1 n7 etop1;left;refine⟨a,ns,1,rfl,hS2,∅,?_⟩;left;rw[zA];refine⟨_,_,rfl,#[],#[],?_⟩;have hst0:nmS (cell ns 1) (nm.length:Int)∉D.W0:=fun z=>hst (ok.sub _ z);generalize nmS (cell ns 1) (nm.length:Int)=st at*;have hRr:Rd H2 dr (.dK kr):=.inl hA2.r;have hRw:Rd H2 dw (.dK kw):=.inl hA2.w;clear hst el en2;left;rename_i k1 hk1 k2 hk2;have s3:=(qa4 hk1 (.dK kr)).trans (qa4 hk2 (.dK kw));have ek1:upd (upd H2 k1 (.dK kr)) k2 (.dK kw) k1=some (.dK kr):=qaa qa1 hk2;have ek2:upd (upd H2 k1 (.dK kr)) k2 (.dK kw) k2=some (.dK kw):=qa1;generalize upd (upd H2 k1 (.dK kr)) k2 (.dK kw)=H3 at*;refine⟨t,k1,k2,wv,S,D,nm,kr,kw,rfl,ok.ok,ok.srt,hT.same s3,hW.same s3,ek1,hA2.rA,ok.nd,#[],ek2,hA2.wA,ok.hs,fun l2 as lf lv M N H4 s4 fl2 I hB hE=>?_⟩;obtain⟨rows,el4,cn,hG,hpb⟩:=hE.rows ok.ok I;have hSh:=Shs.of ok.ok I hB;have ev:evB D lv rows=true:=by
  unfold evB;rw[gK cn,Bool.true_and];exact zZ.mpr hpb
 have rl:rows.length<=7:=by
  have h1:=congrArg wF cn;rw[zA] at h1;have:=ok.ok.l8;omega
 have s24:=s3.trans s4;have hA4:=hA2.same s24;have hT4:=hT.same s24;have hW4:=hW.same s24;have hS4:=s24.seq hS2;clear hRr hRw hk1 hk2 ek1 ek2 s3 s4 fl2 I hB hT hW s24;have call:∀{H':Hp} {Q:VK} {E:XK} {k1 k2 l':Addr} {rs:List R3},Same H4 H'->H' k1=some (.dK kr)->H' k2=some (.dK kw)->H' l'=some (.lst (rV rs))->(∀r∈rs,Gd H' D lv r)->rs.length<=20->(∀H'',Same H' H''->Q (.bl (evB D lv rs)) H'')->sp_is_even K d [.ref t,.ref k1,.ref k2,.ref l',wv] H' Q E:=fun {H' Q E k1 k2 l' rs} s e1 e2 e3 hg hl qq=>⟨t,k1,k2,l',wv,S,D,nm,kr,kw,lv,rs,rfl,ok.ok,ok.srt,hT4.same s,hW4.same s,e1,hA2.rA,e2,hA2.wA,ok.hs,e3,hg,hl,hSh,qq⟩;left;refine⟨l2,dw,as,kw,D,lv,rfl,hE,hA4.w,hA4.wA,ok.ok,ok.srt,fun H5 s5=>?_⟩;have hRr5:Rd H5 dr (.dK kr):=.inl (s5 _ _ hA4.r);have hRw5:Rd H5 dw (.dK kw):=.inl (s5 _ _ hA4.w);have el5:=s5 _ _ el4;left;rename_i k1 hk1 k2 hk2;have s6:=s5.trans ((qa4 hk1 (.dK kr)).trans (qa4 hk2 (.dK kw)));have e1:upd (upd H5 k1 (.dK kr)) k2 (.dK kw) k1=some (.dK kr):=qaa qa1 hk2;have e2:upd (upd H5 k1 (.dK kr)) k2 (.dK kw) k2=some (.dK kw):=qa1;generalize upd (upd H5 k1 (.dK kr)) k2 (.dK kw)=H6 at*;refine⟨l2,_,rfl,.inl (SqL.of (s6 _ _ el4)),fun lp hlp=>?_⟩;have s7:=s6.trans (qa4 hlp (.lst (rV rows)));have elp:upd H6 lp (.lst (rV rows)) lp=some (.lst (rV rows)):=qa1;have e1':=qaa (o':=.lst (rV rows)) e1 hlp;have e2':=qaa (o':=.lst (rV rows)) e2 hlp;generalize upd H6 lp (.lst (rV rows))=H7 at*;left;refine call s7 e1' e2' elp (fun r hr=>(hG r hr).same s7) #[] fun H8 s8=>?_;rw[ev];left;refine r_notB ?_;rw[show(true !=true)=false from rfl];have s48:=s7.trans s8;clear hk1 hk2 e1 e2 hlp elp e1' e2' s5 s6 s7 s8 hRr5 hRw5 el5 hE;have hwv:wv=.non\/∃g,wv=.ref g:=hW4.elim (fun h=> .inl h.1) fun⟨g,_,_,h,_⟩=> .inr ⟨g,h⟩;left;refine' @once (∀H9,Same H4 H9->(?G:Hp->Prop) H9) _ (fun rest=>?main) ?rst
 case main=>
  refine r_isNw hwv (fun hw=>?_) ?_
  .have hRr8:Rd H8 dr (.dK kr):=.inl (s48 _ _ hA4.r);have hRw8:Rd H8 dw (.dK kw):=.inl (s48 _ _ hA4.w);have el8:=s48 _ _ el4;left;refine r_callXd ?_;left;rename_i k1 hk1 k2 hk2;have s9:=s48.trans ((qa4 hk1 (.dK kr)).trans (qa4 hk2 (.dK kw)));have e1:upd (upd H8 k1 (.dK kr)) k2 (.dK kw) k1=some (.dK kr):=qaa qa1 hk2;have e2:upd (upd H8 k1 (.dK kr)) k2 (.dK kw) k2=some (.dK kw):=qa1;generalize upd (upd H8 k1 (.dK kr)) k2 (.dK kw)=H9 at*;refine⟨l2,_,rfl,.inl (SqL.of (s9 _ _ el4)),fun lp hlp=>?_⟩;have sA:=s9.trans (qa4 hlp (.lst (rV rows)));have elp:upd H9 lp (.lst (rV rows)) lp=some (.lst (rV rows)):=qa1;have e1':=qaa (o':=.lst (rV rows)) e1 hlp;have e2':=qaa (o':=.lst (rV rows)) e2 hlp;generalize upd H9 lp (.lst (rV rows))=HA at*;left;refine(congrArg (fun v=>sp_is_even K d [.ref t,.ref k1,.ref k2,.ref lp,v] HA _ _) hw).mp (call sA e1' e2' elp (fun r hr=>(hG r hr).same sA) #[] fun HB sB=>?_);rw[ev];left;refine r_notB ?_;rw[show(true !=true)=false from rfl];left;exact rest.o _ (sA.trans sB)
  .left;exact rest.o _ s48
 case rst=>
  refine⟨fun H9 s9=>?_⟩;have hS9:=s9.seq hS4;have cl:=qg7 (ns.map V.int) (some 25) (some 31);rw[zA] at cl;have ci:∀v∈cutV (ns.map V.int) (some 25) (some 31),∃c:Int,v=.int c:=fun v hv=>by
   unfold cutV at hv;obtain⟨c,_,rfl⟩:=zI.mp (List.mem_of_mem_drop (yB hv));exact⟨c,rfl⟩
  clear s48;refine r_slL hS9 fun lx hlx=>?_;have sA:=s9.trans (qa4 hlx (.lst (cutV (ns.map V.int) (some 25) (some 31))));have elx:upd H9 lx (.lst (cutV (ns.map V.int) (some 25) (some 31))) lx=some (.lst (cutV (ns.map V.int) (some 25) (some 31))):=qa1;generalize upd H9 lx (.lst (cutV (ns.map V.int) (some 25) (some 31)))=HA at*;generalize cutV (ns.map V.int) (some 25) (some 31)=cs at*;left;refine⟨a,ns,2,rfl,sA.seq hS4,∅,?_⟩;generalize cell ns 2=x2;left;rename_i lw hlw;have sB:=sA.trans (qa4 hlw (.lst [V.int x2]));have elw:upd HA lw (.lst [V.int x2]) lw=some (.lst [V.int x2]):=qa1;have elx':=qaa (o':=.lst [V.int x2]) elx hlw;generalize upd HA lw (.lst [V.int x2])=HB at*;refine r_cat elx' elw (by show cs.length+1<=16777216;omega) fun lz hlz=>?_;have sC:=sB.trans (qa4 hlz (.lst (cs++[V.int x2])));have elz:upd HB lz (.lst (cs++[V.int x2])) lz=some (.lst (cs++[V.int x2])):=qa1;generalize upd HB lz (.lst (cs++[V.int x2]))=HC at*;clear elx elw elx' hlx hlw hlz s9 sA sB hS9;left;refine qbs (xs:=cs++[V.int x2]) (fun i σ H'=>∃(w11 w12 w13 w14:Option V),σ=[sr a,sr p,sr ln,sr le,sr dg,sr dw,sr dr,sr t,some wv,some (V.str st),sr l2,w11,w12,w13,w14,none]/\Same HC H') ⟨none,none,none,none,rfl,Same.refl _⟩ ?_ ?_ ?_
  .rintro i σ H' _ ⟨w11,w12,w13,w14,rfl,sm⟩;exact SqL.of (sm _ _ elz)
  .rintro i v σ H' hv ⟨w11,w12,w13,w14,rfl,sm⟩;obtain⟨c,rfl⟩:∃c:Int,v=.int c:=by
    rcases zH.mp (zF hv) with h|h
    .exact ci v h
    .exact⟨x2,zE.mp h⟩
   have s4m:=sC.trans sm;clear hv;left;refine⟨p,ln,le,dg,dw,dr,nm,es,kg,kw,kr,D,lv,l2,rows,c,st,rfl,hA4.same s4m,l7,s4m _ _ el4,fun r hr=>(hG r hr).same s4m,#[],fun ld rd HD sD fld eld hGd zd=>?_⟩;have s4D:=s4m.trans sD;left;refine⟨D,lv,l2,rows,c,st,rfl,hst0,s4D _ _ el4,fun r hr=>(hG r hr).same s4D,rl,fun ls rs HE sE fls els hGs zs=>?_⟩;have s4E:=s4D.trans sE;have eld':=sE _ _ eld;have hGd':∀r∈rd,Gd HE D lv r:=fun r hr=>(hGd r hr).same sE;left;rename_i lq hlq;have sF:=qa4 hlq (.lst [V.ref ld,V.ref ls]);have elq:upd HE lq (.lst [V.ref ld,V.ref ls]) lq=some (.lst [V.ref ld,V.ref ls]):=qa1;have s4F:=s4E.trans sF;have smF:=sm.trans (sD.trans (sE.trans sF));have each:∀v∈ [V.ref ld,V.ref ls],∃(lh:Addr)(rh:List R3),v=.ref lh/\upd HE lq (.lst [V.ref ld,V.ref ls]) lh=some (.lst (rV rh))/\(∀r∈rh,Gd (upd HE lq (.lst [V.ref ld,V.ref ls])) D lv r)/\rh.length<=20:=fun v hv=>by
    simp only[zP,yD,or_false] at hv;rcases hv with rfl|rfl
    .exact⟨ld,rd,rfl,sF _ _ eld',fun r hr=>(hGd' r hr).same sF,zd⟩
    .exact⟨ls,rs,rfl,sF _ _ els,fun r hr=>(hGs r hr).same sF,zs⟩
   generalize upd HE lq (.lst [V.ref ld,V.ref ls])=HF at*;clear eld eld' els hGd hGd' hGs zd zs fld fls hlq sD sE sF s4m s4D s4E;refine qbs (xs:=[V.ref ld,V.ref ls]) (fun i σ H'=>∃(w12 w13 w14:Option V),σ=[sr a,sr p,sr ln,sr le,sr dg,sr dw,sr dr,sr t,some wv,some (V.str st),sr l2,some (V.int c),w12,w13,w14,none]/\Same HF H') ⟨_,_,_,rfl,Same.refl _⟩ ?_ ?_ ?_
   .rintro j σ Hx _ ⟨w12,w13,w14,rfl,sx⟩;exact SqL.of (sx _ _ elq)
   .rintro j v σ Hx hv ⟨w12,w13,w14,rfl,sx⟩;obtain⟨lh,rh,rfl,elh,hGh,zh⟩:=each v (zF hv);have s4x:=s4F.trans sx;have elhx:=sx _ _ elh;clear hv;left;refine⟨lh,_,rfl,.inl (SqL.of elhx),fun lk hlk=>?_⟩;have sy:=sx.trans (qa4 hlk (.lst (rV rh)));have s4y:=s4x.trans (qa4 hlk (.lst (rV rh)));have elk:upd Hx lk (.lst (rV rh)) lk=some (.lst (rV rh)):=qa1;have nlk:lh≠lk:=qa9 elhx hlk;generalize upd Hx lk (.lst (rV rh))=Hy at*;have hRr:Rd Hy dr (.dK kr):=.inl (s4y _ _ hA4.r);have hRw:Rd Hy dw (.dK kw):=.inl (s4y _ _ hA4.w);clear elhx hlk s4x;left;rename_i k1 hk1 k2 hk2;have sz:=(qa4 hk1 (.dK kr)).trans (qa4 hk2 (.dK kw));have e1:upd (upd Hy k1 (.dK kr)) k2 (.dK kw) k1=some (.dK kr):=qaa qa1 hk2;have e2:upd (upd Hy k1 (.dK kr)) k2 (.dK kw) k2=some (.dK kw):=qa1;generalize upd (upd Hy k1 (.dK kr)) k2 (.dK kw)=Hz at*;have sFz:=sy.trans sz;refine call (s4y.trans sz) e1 e2 (sFz _ _ elh) (fun r hr=>(hGh r hr).same sFz) zh fun Hw sw=>?_;have sFw:=sFz.trans sw;have s4w:=(s4y.trans sz).trans sw;have elkw:=sw _ _ (sz _ _ elk);clear hk1 hk2 e1 e2 sz sw sFz hRr hRw s4y sy elk;left;refine⟨p,ln,le,dg,dw,dr,nm,es,kg,kw,kr,D,lv,lh,rh,rfl,hA4.same s4w,ok,rmb,sFw _ _ elh,fun r hr=>(hGh r hr).same sFw,zh,hSh,fun Hv sv=>?_⟩;have sFv:=sFw.trans sv;generalize evB D lv rh=eb;left;refine r_neD (n:=1) nlk ∅ (deq_list (n:=0) (SqL.of (sFv _ _ elh)) (SqL.of (sv _ _ elkw)) nlk (deqs_rV rh)) ?_;left;exact⟨_,_,_,rfl,sFv⟩
   rintro σ Hx ⟨w12,w13,w14,rfl,sx⟩;exact⟨_,_,_,_,rfl,smF.trans sx⟩
  rintro σ H' ⟨w11,w12,w13,w14,rfl,sm⟩;have s4m:=sC.trans sm;have hA':=hA4.same s4m;have hRr:Rd H' dr (.dK kr):=.inl hA'.r;have hRw:Rd H' dw (.dK kw):=.inl hA'.w;left;rename_i k3 hk3 k4 hk4 pw hpw;have s5:=((qa4 hk3 (.dK kr)).trans (qa4 hk4 (.dK kw))).trans (qa4 hpw (.lst [V.ref k3,V.ref k4]));have e3:upd (upd (upd H' k3 (.dK kr)) k4 (.dK kw)) pw (.lst [V.ref k3,V.ref k4]) k3=some (.dK kr):=qaa (qaa qa1 hk4) hpw;have e4:upd (upd (upd H' k3 (.dK kr)) k4 (.dK kw)) pw (.lst [V.ref k3,V.ref k4]) k4=some (.dK kw):=qaa qa1 hpw;have ew:upd (upd (upd H' k3 (.dK kr)) k4 (.dK kw)) pw (.lst [V.ref k3,V.ref k4]) pw=some (.lst [V.ref k3,V.ref k4]):=qa1;have n3:dr≠k3:=qa9 hA'.r hk3;have n4:dw≠k4:=fun z=>by
   subst z;have:=qa4 hk3 (.dK kr) _ _ hA'.w;rw[this] at hk4;cases hk4
  generalize upd (upd (upd H' k3 (.dK kr)) k4 (.dK kw)) pw (.lst [V.ref k3,V.ref k4])=H5 at*;have s45:=s4m.trans s5;have hA5:=hA4.same s45;clear hRr hRw hk3 hk4 hpw;refine⟨p,ln,le,dg,dw,dr,nm,es,kg,kw,kr,D,lv,l2,rows,rfl,hA5,ok,rmb,s45 _ _ el4,fun r hr=>(hG r hr).same s45,cn,hpb,hSh,fun lf' rf H6 s6 flf elf hGf cnf hpbf=>?_⟩;have evf:evB D lv rf=true:=by
   unfold evB;rw[gK cnf,Bool.true_and];exact zZ.mpr hpbf
  have zf:rf.length<=20:=by
   have h1:=congrArg wF cnf;rw[zA] at h1;have:=ok.ok.l8;omega
  have s46:=s45.trans s6;left;refine call s46 (s46 _ _ hA4.r) (s46 _ _ hA4.w) elf hGf zf fun H7 s7=>?_;rw[evf];have s57:=s6.trans s7;left;rename_i py hpy;have nyw:py≠pw:=(qa9 (s57 _ _ ew) hpy).symm;have s8:=qa4 hpy (.lst [V.ref dr,V.ref dw]);have s58:=s57.trans s8;refine r_eqD (n:=2) nyw ∅ (deq_list (n:=1) (SqL.of qa1) (SqL.of (s58 _ _ ew)) nyw ⟨deq_ad (n:=0) (s58 _ _ hA5.r) (s58 _ _ e3) n3 hA5.rA hA5.rA,deq_ad (n:=0) (s58 _ _ hA5.w) (s58 _ _ e4) n4 hA5.wA hA5.wA,trivial⟩) ?_;exact q _
structure Fz(K:uS)(n:Str)(s:Stmt)(f:Addr)(fd:uK):Prop where
 a:xO K uR n=some (some (.ref f))
 F:Fun K n n s f fd
structure Fm(K:uS)(c:Addr)(n q:Str)(s:Stmt)(f:Addr)(fd:uK):Prop where
 a:vY K (.ref c) n=some (some (.ref f))
 F:Fun K n q s f fd
def Fz.m{K:uS}{n:Str}{s:Stmt}{f:Addr}{fd:uK}{h:vQ}{mg:Str->Option uB}(g:Fz K n s f fd)(X:K.In h)(G:h.Ns uR mg):mg n=some (.ref f):=vM X G g.a
theorem ln0(h:p [])(us:List uB)(e:us.length=0):p us:=by
 cases us
 .exact h
 cases e
theorem ln1(h:∀x0:uB,p [x0])(us:List uB)(e:us.length=1):p us:=by
 cases us
 .cases e
 exact ln0 (p:=fun l=>p (_::l)) (h _) _ (bA e)
theorem ln2(h:∀x0 x1:uB,p [x0,x1])(us:List uB)(e:us.length=2):p us:=by
 cases us
 .cases e
 exact ln1 (p:=fun l=>p (_::l)) (h _) _ (bA e)
theorem ln3(h:∀x0 x1 x2:uB,p [x0,x1,x2])(us:List uB)(e:us.length=3):p us:=by
 cases us
 .cases e
 exact ln2 (p:=fun l=>p (_::l)) (h _) _ (bA e)
theorem ln4(h:∀x0 x1 x2 x3:uB,p [x0,x1,x2,x3])(us:List uB)(e:us.length=4):p us:=by
 cases us
 .cases e
 exact ln3 (p:=fun l=>p (_::l)) (h _) _ (bA e)
theorem ln5(h:∀x0 x1 x2 x3 x4:uB,p [x0,x1,x2,x3,x4])(us:List uB)(e:us.length=5):p us:=by
 cases us
 .cases e
 exact ln4 (p:=fun l=>p (_::l)) (h _) _ (bA e)
theorem ln6(h:∀x0 x1 x2 x3 x4 x5:uB,p [x0,x1,x2,x3,x4,x5])(us:List uB)(e:us.length=6):p us:=by
 cases us
 .cases e
 exact ln5 (p:=fun l=>p (_::l)) (h _) _ (bA e)
theorem ln7(h:∀x0 x1 x2 x3 x4 x5 x6:uB,p [x0,x1,x2,x3,x4,x5,x6])(us:List uB)(e:us.length=7):p us:=by
 cases us
 .cases e
 exact ln6 (p:=fun l=>p (_::l)) (h _) _ (bA e)
theorem txt_mk{K:uS}{h:vQ}{mg:Str->Option uB}{fa:Addr}{f_z0 f_z1 f_z2 f_z3 f_z4 f_z5 f_z6 f_z7 f_z8 f_z9 f_z10 f_z11 f_z12 f_z13 f_z14 f_z15 f_z16 f_z17 f_z18 f_z19 f_z20 f_z21 f_z22 f_z23 f_z24 f_z25 f_z26 f_z27 f_z28 f_z29 f_z30 f_z31 f_z32 f_z33 f_z34 f_z35 f_z36 f_z37 f_z38 f_z39 f_z40 f_z41 f_z42 f_z43 f_z44 f_z45 f_z46 f_z47 f_z48 f_z49 f_z50 wd9 f_z52 f_z53 f_z54 f_z55 f_z56 f_z57 f_z58 f_z59 f_z60 f_z61 f_z62 f_z63 f_z64 f_z65 f_z66 f_z67 f_z68 f_z69 f_z70 f_z71 f_z72 f_z73 f_z74 f_z75 w06 w01 w00 w02 w4g w5q w81 w0l w1z w5t w36 w38 w3x w3z:Addr}{d_z0 d_z1 d_z2 d_z3 d_z4 d_z5 d_z6 d_z7 d_z8 d_z9 d_z10 d_z11 d_z12 d_z13 d_z14 d_z15 d_z16 d_z17 d_z18 d_z19 d_z20 d_z22 d_z23 d_z25 d_z26 d_z27 d_z28 d_z29 d_z30 d_z31 d_z32 d_z33 d_z34 d_z35 d_z36 d_z37 d_z38 d_z39 d_z40 d_z41 d_z42 d_z43 d_z44 d_z45 d_z46 d_z47 d_z48 d_z49 d_z50 d_law d_z52 d_z55 d_z56 d_z57 d_z58 d_z59 d_z60 d_z61 d_z62 d_z63 d_z64 d_z65 d_z66 d_z67 d_z68 d_z69 d_z70 d_z71 d_z72 d_z73 d_z74 d_z75:uK}(X:K.In h)(G:h.Ns uR mg)(hfa:mg "law"=some (.ref fa))
  (g_z0:Fz K "is_whole" s_is_whole f_z0 d_z0)
  (g_z1:Fz K "is_name" s_is_name f_z1 d_z1)
  (g_z2:Fz K "is_whole_from" s_is_whole_from f_z2 d_z2)
  (g_z3:Fz K "is_amount" s_is_amount f_z3 d_z3)
  (g_z4:Fz K "amounts_of" s_amounts_of f_z4 d_z4)
  (g_z5:Fz K "above_nought" s_above_nought f_z5 d_z5)
  (g_z6:Fz K "amount_of" s_amount_of f_z6 d_z6)
  (g_z7:Fz K "added" s_added f_z7 d_z7)
  (g_z8:Fz K "beyond" s_beyond f_z8 d_z8)
  (g_z9:Fz K "total_of" s_total_of f_z9 d_z9)
  (g_z10:Fz K "divisor" s_divisor f_z10 d_z10)
  (g_z11:Fz K "fraction" s_fraction f_z11 d_z11)
  (g_z12:Fz K "plus" s_plus f_z12 d_z12)
  (g_z13:Fz K "minus" s_minus f_z13 d_z13)
  (g_z14:Fz K "times" s_times f_z14 d_z14)
  (g_z15:Fz K "divided" s_divided f_z15 d_z15)
  (g_z16:Fz K "below" s_below f_z16 d_z16)
  (g_z17:Fz K "weights_of" s_weights_of f_z17 d_z17)
  (g_z18:Fz K "loads_of" s_loads_of f_z18 d_z18)
  (g_z19:Fz K "least_of" s_least_of f_z19 d_z19)
  (g_z20:Fz K "rounds_by" s_rounds_by f_z20 d_z20)
  {od_z21 an_z21:Option Addr}{sl_z21:Array (Option uB)}{oc_z21 kV_z21 dc_z21 pm_z21 cd_z21 ct_z21 w5k:uB}{t_z21:Addr}
  (a_z21:xO K uR "even"=some (some (.ref f_z21)))(l_z21:K.lookup f_z21=some ⟨oc_z21,od_z21,.func (dY "even" "even" (qbo s_even) (qbw s_even) (qa8 s_even) (.ref t_z21) kV_z21 dc_z21 pm_z21 an_z21 cd_z21 ct_z21),sl_z21⟩)(c_z21:cV K cd_z21 "even"=true)(k_z21:bN K (.ref f_z21)=true)
  {ob_z21:Obj}{nn_z21:Nat}(tt_z21:K.lookup t_z21=some ob_z21)(td_z21:ob_z21.data=.seq (List.toArray [w5k]) nn_z21)(rd_z21:qbk [.non] [w5k])
  (g_z22:Fz K "is_share" s_is_share f_z22 d_z22)
  (g_z23:Fz K "is_paper" s_is_paper f_z23 d_z23)
  {od_z24 an_z24:Option Addr}{sl_z24:Array (Option uB)}{oc_z24 kV_z24 dc_z24 pm_z24 cd_z24 ct_z24 w26:uB}{t_z24:Addr}
  (a_z24:xO K uR "is_even"=some (some (.ref f_z24)))(l_z24:K.lookup f_z24=some ⟨oc_z24,od_z24,.func (dY "is_even" "is_even" (qbo s_is_even) (qbw s_is_even) (qa8 s_is_even) (.ref t_z24) kV_z24 dc_z24 pm_z24 an_z24 cd_z24 ct_z24),sl_z24⟩)(c_z24:cV K cd_z24 "is_even"=true)(k_z24:bN K (.ref f_z24)=true)
  {ob_z24:Obj}{nn_z24:Nat}(tt_z24:K.lookup t_z24=some ob_z24)(td_z24:ob_z24.data=.seq (List.toArray [w26]) nn_z24)(rd_z24:qbk [.non] [w26])
  (g_z25:Fz K "are_wares" s_are_wares f_z25 d_z25)
  (g_z26:Fz K "check_name" s_check_name f_z26 d_z26)
  (g_z27:Fz K "read_house" s_read_house f_z27 d_z27)
  (g_z28:Fz K "check_promises" s_check_promises f_z28 d_z28)
  (g_z29:Fz K "_law_cell_at" s_cell_at f_z29 d_z29)
  (g_z30:Fz K "_law_mixed" s_mixed f_z30 d_z30)
  (g_z31:Fz K "_law_name" s_name f_z31 d_z31)
  (g_z32:Fz K "_law_whole" s_whole f_z32 d_z32)
  (g_z33:Fz K "_law_want" s_want f_z33 d_z33)
  (g_z34:Fz K "_law_room" s_room f_z34 d_z34)
  (g_z35:Fz K "_law_sharing" s_sharing f_z35 d_z35)
  (g_z36:Fz K "_law_tree" s_tree f_z36 d_z36)
  (g_z37:Fz K "_law_line" s_line f_z37 d_z37)
  (g_z38:Fz K "_law_inside" s_inside f_z38 d_z38)
  (g_z39:Fz K "_law_together" s_together f_z39 d_z39)
  (g_z40:Fz K "_law_less" s_less f_z40 d_z40)
  (g_z41:Fz K "_law_weigher" s_weigher f_z41 d_z41)
  (g_z42:Fz K "_law_asked" s_asked f_z42 d_z42)
  (g_z43:Fz K "_law_divisor" s_l_divisor f_z43 d_z43)
  (g_z44:Fz K "_law_is_fraction" s_is_fraction f_z44 d_z44)
  (g_z45:Fz K "_law_is_dealt" s_is_dealt f_z45 d_z45)
  (g_z46:Fz K "_law_ends" s_ends f_z46 d_z46)
  (g_z47:Fz K "_law_let_by" s_let_by f_z47 d_z47)
  (g_z48:Fz K "_law_drawn" s_drawn f_z48 d_z48)
  (g_z49:Fz K "_law_farthest" s_farthest f_z49 d_z49)
  (g_z50:Fz K "_law_spoiled" s_spoiled f_z50 d_z50)
  (g_law:Fz K "law" s_law wd9 d_law)
  (g_z52:Fm K w06 "__init__" "House.__init__" s_House_init f_z52 d_z52)
  {od_z53 an_z53:Option Addr}{sl_z53:Array (Option uB)}{oc_z53 kV_z53 dc_z53 pm_z53 cd_z53 ct_z53 w19:uB}{t_z53:Addr}
  (a_z53:vY K (.ref w01) "__init__"=some (some (.ref f_z53)))(l_z53:K.lookup f_z53=some ⟨oc_z53,od_z53,.func (dY "__init__" "Tree.__init__" (qbo s_Tree_init) (qbw s_Tree_init) (qa8 s_Tree_init) (.ref t_z53) kV_z53 dc_z53 pm_z53 an_z53 cd_z53 ct_z53),sl_z53⟩)(c_z53:cV K cd_z53 "Tree.__init__"=true)(k_z53:bN K (.ref f_z53)=true)
  {ob_z53:Obj}{nn_z53:Nat}(tt_z53:K.lookup t_z53=some ob_z53)(td_z53:ob_z53.data=.seq (List.toArray [w19]) nn_z53)(rd_z53:qbk [.int 1] [w19])
  {od_z54 an_z54:Option Addr}{sl_z54:Array (Option uB)}{oc_z54 kV_z54 dc_z54 pm_z54 cd_z54 ct_z54 w0s:uB}{t_z54:Addr}
  (a_z54:vY K (.ref w01) "found"=some (some (.ref f_z54)))(l_z54:K.lookup f_z54=some ⟨oc_z54,od_z54,.func (dY "found" "Tree.found" (qbo s_Tree_found) (qbw s_Tree_found) (qa8 s_Tree_found) (.ref t_z54) kV_z54 dc_z54 pm_z54 an_z54 cd_z54 ct_z54),sl_z54⟩)(c_z54:cV K cd_z54 "Tree.found"=true)(k_z54:bN K (.ref f_z54)=true)
  {ob_z54:Obj}{nn_z54:Nat}(tt_z54:K.lookup t_z54=some ob_z54)(td_z54:ob_z54.data=.seq (List.toArray [w0s]) nn_z54)(rd_z54:qbk [.int 1] [w0s])
  (g_z55:Fm K w01 "wares" "Tree.wares" s_Tree_wares f_z55 d_z55)
  (g_z56:Fm K w01 "names" "Tree.names" s_Tree_names f_z56 d_z56)
  (g_z57:Fm K w01 "has" "Tree.has" s_Tree_has f_z57 d_z57)
  (g_z58:Fm K w01 "check_house" "Tree.check_house" s_Tree_check_house f_z58 d_z58)
  (g_z59:Fm K w01 "house_of" "Tree.house_of" s_Tree_house_of f_z59 d_z59)
  (g_z60:Fm K w01 "elder_of" "Tree.elder_of" s_Tree_elder_of f_z60 d_z60)
  (g_z61:Fm K w01 "weight_of" "Tree.weight_of" s_Tree_weight_of f_z61 d_z61)
  (g_z62:Fm K w01 "kids" "Tree.kids" s_Tree_kids f_z62 d_z62)
  (g_z63:Fm K w01 "line" "Tree.line" s_Tree_line f_z63 d_z63)
  (g_z64:Fm K w01 "beneath" "Tree.beneath" s_Tree_beneath f_z64 d_z64)
  (g_z65:Fm K w01 "promised_beneath" "Tree.promised_beneath" s_Tree_promised_beneath f_z65 d_z65)
  (g_z66:Fm K w01 "check_more" "Tree.check_more" s_Tree_check_more f_z66 d_z66)
  (g_z67:Fm K w00 "__init__" "Dealing.__init__" s_Dealing_init f_z67 d_z67)
  (g_z68:Fm K w00 "fills" "Dealing.fills" s_Dealing_fills f_z68 d_z68)
  (g_z69:Fm K w00 "ready" "Dealing.ready" s_Dealing_ready f_z69 d_z69)
  (g_z70:Fm K w00 "settle" "Dealing.settle" s_Dealing_settle f_z70 d_z70)
  (g_z71:Fm K w00 "next_round" "Dealing.next_round" s_Dealing_next_round f_z71 d_z71)
  (g_z72:Fm K w02 "__init__" "Sums.__init__" s_Sums_init f_z72 d_z72)
  (g_z73:Fm K w02 "within_rooms" "Sums.within_rooms" s_Sums_within_rooms f_z73 d_z73)
  (g_z74:Fm K w02 "stops_of" "Sums.stops_of" s_Sums_stops_of f_z74 d_z74)
  (g_z75:Fm K w1z "__init__" "NoPromise.__init__" s_i_NoPromise f_z75 d_z75)
  (qi_z75:initIn K w1z f_z75=true)(hi_z75:isFn K (.ref f_z75)=true)
  (a_House:xO K uR "House"=some (some (.ref w06)))
  (a_Tree:xO K uR "Tree"=some (some (.ref w01)))
  (a_Dealing:xO K uR "Dealing"=some (some (.ref w00)))
  (a_Sums:xO K uR "Sums"=some (some (.ref w02)))
  (a_TreeError:xO K uR "TreeError"=some (some (.ref w4g)))
  (a_NoName:xO K uR "NoName"=some (some (.ref w5q)))
  (a_Taken:xO K uR "Taken"=some (some (.ref w81)))
  (a_NoHouse:xO K uR "NoHouse"=some (some (.ref w0l)))
  (a_NoPromise:xO K uR "NoPromise"=some (some (.ref w1z)))
  (a_NoWare:xO K uR "NoWare"=some (some (.ref w5t)))
  (a_NoAmount:xO K uR "NoAmount"=some (some (.ref w36)))
  (a_NoNumber:xO K uR "NoNumber"=some (some (.ref w38)))
  (a_TooMany:xO K uR "TooMany"=some (some (.ref w3x)))
  (a_TooDeep:xO K uR "TooDeep"=some (some (.ref w3z)))
  {w3y:uB}(a_LETTERS:xO K uR "LETTERS"=some (some w3y))(w55:qb8 (.str "abcdefghijklmnopqrstuvwxyz") w3y)
  {w1g:uB}(a_LONGEST_NAME:xO K uR "LONGEST_NAME"=some (some w1g))(w1p:qb8 (.int 8) w1g)
  {w24:uB}(a_MOST_WARES:xO K uR "MOST_WARES"=some (some w24))(w2n:qb8 (.int 6) w24)
  {w1l:uB}(a_MOST_HOUSES:xO K uR "MOST_HOUSES"=some (some w1l))(w29:qb8 (.int 40) w1l)
  {w1h:uB}(a_LONGEST_LINE:xO K uR "LONGEST_LINE"=some (some w1h))(w1q:qb8 (.int 12) w1h)
  {w0k:uB}(a_GREATEST_WEIGHT:xO K uR "GREATEST_WEIGHT"=some (some w0k))(w0y:qb8 (.int 1000) w0k)
  (q_NoHouse:fB K w0l [.type "ValueError",.type "Exception",.type "BaseException",.type "object"] "ValueError.__new__"=true)
  (q_NoAmount:fB K w36 [.type "ValueError",.type "Exception",.type "BaseException",.type "object"] "ValueError.__new__"=true)
  (q_NoWare:fB K w5t [.type "ValueError",.type "Exception",.type "BaseException",.type "object"] "ValueError.__new__"=true)
  (q_NoName:fB K w5q [.type "ValueError",.type "Exception",.type "BaseException",.type "object"] "ValueError.__new__"=true)
  (q_NoNumber:fB K w38 [.type "ValueError",.type "Exception",.type "BaseException",.type "object"] "ValueError.__new__"=true)
  (q_Taken:fB K w81 [.type "ValueError",.type "Exception",.type "BaseException",.type "object"] "ValueError.__new__"=true)
  (q_TooMany:fB K w3x [.type "ValueError",.type "Exception",.type "BaseException",.type "object"] "ValueError.__new__"=true)
  (q_TooDeep:fB K w3z [.type "ValueError",.type "Exception",.type "BaseException",.type "object"] "ValueError.__new__"=true)
  (w0g:Cls K w00)
  (w2g:Cls K w02)
  (w42:Mk K w00 f_z67)
  (w83:Mk K w02 f_z72)
  (w1d:Meth K w00 "fills" f_z68)
  (w1c:Meth K w00 "ready" f_z69)
  (w15:Meth K w00 "settle" f_z70)
  (w0e:Meth K w00 "next_round" f_z71)
  (w0p:Meth K w02 "stops_of" f_z74)
  (w0i:Meth K w02 "within_rooms" f_z73)
  (w0f:vY K (.ref w00) "tree"=some none)
  (w0b:vY K (.ref w00) "weights"=some none)
  (w05:vY K (.ref w00) "waiting"=some none)
  (w0m:vY K (.ref w00) "left"=some none)
  (w0h:vY K (.ref w00) "goals"=some none)
  (w22:vY K (.ref w02) "tree"=some none)
  (w1b:vY K (.ref w02) "rooms"=some none)
  (w1i:vY K (.ref w02) "levels"=some none)
  (w0t:vY K (.ref w02) "totals"=some none)
  (w25:vY K (.ref w02) "tops"=some none)
  (w1t:Cls K w06)
  (w03:Cls K w01)
  (w75:Mk K w06 f_z52)
  (w9a:Mk K w01 f_z53)
  (w2d:Meth K w01 "found" f_z54)
  (w34:Meth K w01 "wares" f_z55)
  (w31:Meth K w01 "names" f_z56)
  (w2i:Meth K w01 "has" f_z57)
  (w08:Meth K w01 "check_house" f_z58)
  (w0n:Meth K w01 "house_of" f_z59)
  (w0o:Meth K w01 "elder_of" f_z60)
  (w0x:Meth K w01 "weight_of" f_z61)
  (w2o:Meth K w01 "kids" f_z62)
  (w0j:Meth K w01 "line" f_z63)
  (w0v:Meth K w01 "beneath" f_z64)
  (w09:Meth K w01 "promised_beneath" f_z65)
  (w0r:Meth K w01 "check_more" f_z66)
  (w0u:vY K (.ref w06) "elder"=some none)
  (w0d:vY K (.ref w06) "promise"=some none)
  (w18:vY K (.ref w06) "cap"=some none)
  (w0z:vY K (.ref w06) "weight"=some none)
  (w0c:vY K (.ref w01) "sorted_wares"=some none)
  (w04:vY K (.ref w01) "houses"=some none)
  (y_abs:xO K uR "abs"=some none)
  (y_all:xO K uR "all"=some none)
  (y_any:xO K uR "any"=some none)
  (y_bool:xO K uR "bool"=some none)
  (y_dict:xO K uR "dict"=some none)
  (y_int:xO K uR "int"=some none)
  (y_isinstance:xO K uR "isinstance"=some none)
  (y_len:xO K uR "len"=some none)
  (y_list:xO K uR "list"=some none)
  (y_range:xO K uR "range"=some none)
  (y_set:xO K uR "set"=some none)
  (y_sorted:xO K uR "sorted"=some none)
  (y_str:xO K uR "str"=some none)
  (y_tuple:xO K uR "tuple"=some none)
  (y_zip:xO K uR "zip"=some none)
  :∃d:Ad,Tx K mg d/\fa=d.wd9/\∀(s:uC)(v:uB),cY s d.wbm ⟨[v],[]⟩ [("_law_script",v)]:=by
 have e:=hfa.symm.trans (g_law.m X G)
 cases e
 have Fl:=g_law.F;obtain⟨_,_,_,_,_,_,_,_,_,rfl,_,_⟩:=Fl.ex;have F_z21:=qh1 (st:=s_even) l_z21 c_z21 k_z21 tt_z21 td_z21;have b_z21:qam K _ ["tree","rooms","wants","weigh"] []:=F_z21.binds (ps:=["tree","rooms","wants","weigh"]) fun _ _ _ _ _ _ us hl=>by have e:us.length=4:=(by simpa using hl);clear hl;revert us e;exact ln4 fun _ _ _ _=>by first|exact .inl rfl|exact .inr ⟨_,rfl,rfl⟩
 have b1_z21:qam K _ ["tree","rooms","wants","weigh"] [w5k]:=F_z21.binds (ps:=["tree","rooms","wants","weigh"]) fun _ _ _ _ _ _ us hl=>by have e:us.length=3:=(by simpa using hl);clear hl;revert us e;exact ln3 fun _ _ _=>by first|exact .inl rfl|exact .inr ⟨_,rfl,rfl⟩
 have F_z24:=qh1 (st:=s_is_even) l_z24 c_z24 k_z24 tt_z24 td_z24;have b_z24:qam K _ ["tree","rooms","wants","dealt","weigh"] []:=F_z24.binds (ps:=["tree","rooms","wants","dealt","weigh"]) fun _ _ _ _ _ _ us hl=>by have e:us.length=5:=(by simpa using hl);clear hl;revert us e;exact ln5 fun _ _ _ _ _=>by first|exact .inl rfl|exact .inr ⟨_,rfl,rfl⟩
 have b1_z24:qam K _ ["tree","rooms","wants","dealt","weigh"] [w26]:=F_z24.binds (ps:=["tree","rooms","wants","dealt","weigh"]) fun _ _ _ _ _ _ us hl=>by have e:us.length=4:=(by simpa using hl);clear hl;revert us e;exact ln4 fun _ _ _ _=>by first|exact .inl rfl|exact .inr ⟨_,rfl,rfl⟩
 have F_z53:=qh1 (st:=s_Tree_init) l_z53 c_z53 k_z53 tt_z53 td_z53;have b_z53:qam K _ ["self","wares","name","promise","cap","weight"] []:=F_z53.binds (ps:=["self","wares","name","promise","cap","weight"]) fun _ _ _ _ _ _ us hl=>by have e:us.length=6:=(by simpa using hl);clear hl;revert us e;exact ln6 fun _ _ _ _ _ _=>by first|exact .inl rfl|exact .inr ⟨_,rfl,rfl⟩
 have b1_z53:qam K _ ["self","wares","name","promise","cap","weight"] [w19]:=F_z53.binds (ps:=["self","wares","name","promise","cap","weight"]) fun _ _ _ _ _ _ us hl=>by have e:us.length=5:=(by simpa using hl);clear hl;revert us e;exact ln5 fun _ _ _ _ _=>by first|exact .inl rfl|exact .inr ⟨_,rfl,rfl⟩
 have F_z54:=qh1 (st:=s_Tree_found) l_z54 c_z54 k_z54 tt_z54 td_z54;have b_z54:qam K _ ["self","name","elder","promise","cap","weight"] []:=F_z54.binds (ps:=["self","name","elder","promise","cap","weight"]) fun _ _ _ _ _ _ us hl=>by have e:us.length=6:=(by simpa using hl);clear hl;revert us e;exact ln6 fun _ _ _ _ _ _=>by first|exact .inl rfl|exact .inr ⟨_,rfl,rfl⟩
 have b1_z54:qam K _ ["self","name","elder","promise","cap","weight"] [w0s]:=F_z54.binds (ps:=["self","name","elder","promise","cap","weight"]) fun _ _ _ _ _ _ us hl=>by have e:us.length=5:=(by simpa using hl);clear hl;revert us e;exact ln5 fun _ _ _ _ _=>by first|exact .inl rfl|exact .inr ⟨_,rfl,rfl⟩
 refine⟨⟨_,_,_,_,_,_,_,_,_,_,_,_,_,_,_,_,_,_,_,_,_,_,_,_,_,_,_,_,_,_,_,_,_,_,_,_,_,_,_,_,_,_,_,_,t_z21,w5k,_,_,_,_,_,_,t_z24,w26,_,_,_,_,_,_,_,_,_,_,_,_,_,_,_,_,_,_,_,_,_,_,_,_,_,_,_,_,_,_,_,_,_,_,_,_,_,_,_,_,_,_,_,_,_,_,_,_,_,_,_,_,_,_,_,_,_,_,t_z53,w19,_,_,t_z54,w0s,_,_,_,_,_,_,_,_,_,_,_,_,_,_,_,_,_,_,_,_,_,_,_,_,_,_,_,_,_,_,_,_,_,_,_,_,_,_,_,_,_,_,w06,w01,w00,w02,w4g,w5q,w81,w0l,w1z,w5t,w36,w38,w3x,w3z,w3y,w1g,w24,w1l,w1h,w0k⟩,⟨g_z0.F,g_z0.m X G,g_z0.F.binds fun _ _ _ _ _ _=>ln1 fun _=>rfl,g_z1.F,g_z1.m X G,g_z1.F.binds fun _ _ _ _ _ _=>ln1 fun _=>rfl,g_z2.F,g_z2.m X G,g_z2.F.binds fun _ _ _ _ _ _=>ln3 fun _ _ _=>rfl,g_z3.F,g_z3.m X G,g_z3.F.binds fun _ _ _ _ _ _=>ln1 fun _=>rfl,g_z4.F,g_z4.m X G,g_z4.F.binds fun _ _ _ _ _ _=>ln2 fun _ _=>rfl,g_z5.F,g_z5.m X G,g_z5.F.binds fun _ _ _ _ _ _=>ln1 fun _=>rfl,g_z6.F,g_z6.m X G,g_z6.F.binds fun _ _ _ _ _ _=>ln2 fun _ _=>rfl,g_z7.F,g_z7.m X G,g_z7.F.binds fun _ _ _ _ _ _=>ln2 fun _ _=>rfl,g_z8.F,g_z8.m X G,g_z8.F.binds fun _ _ _ _ _ _=>ln2 fun _ _=>rfl,g_z9.F,g_z9.m X G,g_z9.F.binds fun _ _ _ _ _ _=>ln1 fun _=>rfl,g_z10.F,g_z10.m X G,g_z10.F.binds fun _ _ _ _ _ _=>ln2 fun _ _=>rfl,g_z11.F,g_z11.m X G,g_z11.F.binds fun _ _ _ _ _ _=>ln2 fun _ _=>rfl,g_z12.F,g_z12.m X G,g_z12.F.binds fun _ _ _ _ _ _=>ln2 fun _ _=>rfl,g_z13.F,g_z13.m X G,g_z13.F.binds fun _ _ _ _ _ _=>ln2 fun _ _=>rfl,g_z14.F,g_z14.m X G,g_z14.F.binds fun _ _ _ _ _ _=>ln2 fun _ _=>rfl,g_z15.F,g_z15.m X G,g_z15.F.binds fun _ _ _ _ _ _=>ln2 fun _ _=>rfl,g_z16.F,g_z16.m X G,g_z16.F.binds fun _ _ _ _ _ _=>ln2 fun _ _=>rfl,g_z17.F,g_z17.m X G,g_z17.F.binds fun _ _ _ _ _ _=>ln3 fun _ _ _=>rfl,g_z18.F,g_z18.m X G,g_z18.F.binds fun _ _ _ _ _ _=>ln3 fun _ _ _=>rfl,g_z19.F,g_z19.m X G,g_z19.F.binds fun _ _ _ _ _ _=>ln1 fun _=>rfl,g_z20.F,g_z20.m X G,g_z20.F.binds fun _ _ _ _ _ _=>ln4 fun _ _ _ _=>rfl,F_z21,vM X G a_z21,b_z21,b1_z21,rd_z21,g_z22.F,g_z22.m X G,g_z22.F.binds fun _ _ _ _ _ _=>ln2 fun _ _=>rfl,g_z23.F,g_z23.m X G,g_z23.F.binds fun _ _ _ _ _ _=>ln3 fun _ _ _=>rfl,F_z24,vM X G a_z24,b_z24,b1_z24,rd_z24,g_z25.F,g_z25.m X G,g_z25.F.binds fun _ _ _ _ _ _=>ln1 fun _=>rfl,g_z26.F,g_z26.m X G,g_z26.F.binds fun _ _ _ _ _ _=>ln1 fun _=>rfl,g_z27.F,g_z27.m X G,g_z27.F.binds fun _ _ _ _ _ _=>ln5 fun _ _ _ _ _=>rfl,g_z28.F,g_z28.m X G,g_z28.F.binds fun _ _ _ _ _ _=>ln3 fun _ _ _=>rfl,g_z29.F,g_z29.m X G,g_z29.F.binds fun _ _ _ _ _ _=>ln2 fun _ _=>rfl,g_z30.F,g_z30.m X G,g_z30.F.binds fun _ _ _ _ _ _=>ln2 fun _ _=>rfl,g_z31.F,g_z31.m X G,g_z31.F.binds fun _ _ _ _ _ _=>ln2 fun _ _=>rfl,g_z32.F,g_z32.m X G,g_z32.F.binds fun _ _ _ _ _ _=>ln1 fun _=>rfl,g_z33.F,g_z33.m X G,g_z33.F.binds fun _ _ _ _ _ _=>ln2 fun _ _=>rfl,g_z34.F,g_z34.m X G,g_z34.F.binds fun _ _ _ _ _ _=>ln2 fun _ _=>rfl,g_z35.F,g_z35.m X G,g_z35.F.binds fun _ _ _ _ _ _=>ln2 fun _ _=>rfl,g_z36.F,g_z36.m X G,g_z36.F.binds fun _ _ _ _ _ _=>ln2 fun _ _=>rfl,g_z37.F,g_z37.m X G,g_z37.F.binds fun _ _ _ _ _ _=>ln2 fun _ _=>rfl,g_z38.F,g_z38.m X G,g_z38.F.binds fun _ _ _ _ _ _=>ln2 fun _ _=>rfl,g_z39.F,g_z39.m X G,g_z39.F.binds fun _ _ _ _ _ _=>ln2 fun _ _=>rfl,g_z40.F,g_z40.m X G,g_z40.F.binds fun _ _ _ _ _ _=>ln2 fun _ _=>rfl,g_z41.F,g_z41.m X G,g_z41.F.binds fun _ _ _ _ _ _=>ln1 fun _=>rfl,g_z42.F,g_z42.m X G,g_z42.F.binds fun _ _ _ _ _ _=>ln2 fun _ _=>rfl,g_z43.F,g_z43.m X G,g_z43.F.binds fun _ _ _ _ _ _=>ln2 fun _ _=>rfl,g_z44.F,g_z44.m X G,g_z44.F.binds fun _ _ _ _ _ _=>ln1 fun _=>rfl,g_z45.F,g_z45.m X G,g_z45.F.binds fun _ _ _ _ _ _=>ln2 fun _ _=>rfl,g_z46.F,g_z46.m X G,g_z46.F.binds fun _ _ _ _ _ _=>ln4 fun _ _ _ _=>rfl,g_z47.F,g_z47.m X G,g_z47.F.binds fun _ _ _ _ _ _=>ln2 fun _ _=>rfl,g_z48.F,g_z48.m X G,g_z48.F.binds fun _ _ _ _ _ _=>ln4 fun _ _ _ _=>rfl,g_z49.F,g_z49.m X G,g_z49.F.binds fun _ _ _ _ _ _=>ln2 fun _ _=>rfl,g_z50.F,g_z50.m X G,g_z50.F.binds fun _ _ _ _ _ _=>ln3 fun _ _ _=>rfl,Fl,g_law.m X G,g_z52.F,g_z52.F.binds fun _ _ _ _ _ _=>ln5 fun _ _ _ _ _=>rfl,F_z53,b_z53,b1_z53,rd_z53,F_z54,b_z54,b1_z54,rd_z54,g_z55.F,g_z55.F.binds fun _ _ _ _ _ _=>ln1 fun _=>rfl,g_z56.F,g_z56.F.binds fun _ _ _ _ _ _=>ln1 fun _=>rfl,g_z57.F,g_z57.F.binds fun _ _ _ _ _ _=>ln2 fun _ _=>rfl,g_z58.F,g_z58.F.binds fun _ _ _ _ _ _=>ln2 fun _ _=>rfl,g_z59.F,g_z59.F.binds fun _ _ _ _ _ _=>ln2 fun _ _=>rfl,g_z60.F,g_z60.F.binds fun _ _ _ _ _ _=>ln2 fun _ _=>rfl,g_z61.F,g_z61.F.binds fun _ _ _ _ _ _=>ln2 fun _ _=>rfl,g_z62.F,g_z62.F.binds fun _ _ _ _ _ _=>ln2 fun _ _=>rfl,g_z63.F,g_z63.F.binds fun _ _ _ _ _ _=>ln2 fun _ _=>rfl,g_z64.F,g_z64.F.binds fun _ _ _ _ _ _=>ln2 fun _ _=>rfl,g_z65.F,g_z65.F.binds fun _ _ _ _ _ _=>ln2 fun _ _=>rfl,g_z66.F,g_z66.F.binds fun _ _ _ _ _ _=>ln3 fun _ _ _=>rfl,g_z67.F,g_z67.F.binds fun _ _ _ _ _ _=>ln5 fun _ _ _ _ _=>rfl,g_z68.F,g_z68.F.binds fun _ _ _ _ _ _=>ln1 fun _=>rfl,g_z69.F,g_z69.F.binds fun _ _ _ _ _ _=>ln3 fun _ _ _=>rfl,g_z70.F,g_z70.F.binds fun _ _ _ _ _ _=>ln3 fun _ _ _=>rfl,g_z71.F,g_z71.F.binds fun _ _ _ _ _ _=>ln1 fun _=>rfl,g_z72.F,g_z72.F.binds fun _ _ _ _ _ _=>ln5 fun _ _ _ _ _=>rfl,g_z73.F,g_z73.F.binds fun _ _ _ _ _ _=>ln1 fun _=>rfl,g_z74.F,g_z74.F.binds fun _ _ _ _ _ _=>ln2 fun _ _=>rfl,g_z75.F,xcli_of qi_z75 hi_z75,g_z75.F.binds fun _ _ _ _ _ _=>ln3 fun _ _ _=>rfl,vM X G a_House,vM X G a_Tree,vM X G a_Dealing,vM X G a_Sums,vM X G a_TreeError,vM X G a_NoName,vM X G a_Taken,vM X G a_NoHouse,vM X G a_NoPromise,vM X G a_NoWare,vM X G a_NoAmount,vM X G a_NoNumber,vM X G a_TooMany,vM X G a_TooDeep,vM X G a_LETTERS,w55,vM X G a_LONGEST_NAME,w1p,vM X G a_MOST_WARES,w2n,vM X G a_MOST_HOUSES,w29,vM X G a_LONGEST_LINE,w1q,vM X G a_GREATEST_WEIGHT,w0y,vU X G y_abs,vU X G y_all,vU X G y_any,vU X G y_bool,vU X G y_dict,vU X G y_int,vU X G y_isinstance,vU X G y_len,vU X G y_list,vU X G y_range,vU X G y_set,vU X G y_sorted,vU X G y_str,vU X G y_tuple,vU X G y_zip,w0g,w2g,w42,w83,w1d,w1c,w15,w0e,w0p,w0i,w0f,w0b,w05,w0m,w0h,w22,w1b,w1i,w0t,w25,w1t,w03,w75,w9a,w2d,w34,w31,w2i,w08,w0n,w0o,w0x,w2o,w0j,w0v,w09,w0r,w0u,w0d,w18,w0z,w0c,w04,qdg q_NoHouse,qdg q_NoAmount,qdg q_NoWare,qdg q_NoName,qdg q_NoNumber,qdg q_Taken,qdg q_TooMany,qdg q_TooDeep⟩,rfl,fun s v=> .of_eq rfl⟩
theorem walk{l:PySem.W.OpenLaw}{q:uY}{loose:List Str}{XP:(Str->Option uB)->vQ->Prop}{YP:vL->vQ->Prop}{e:DefRec}{K:Params->uS}(hn:l.most=some 63)(hdf:e.params.defaults=[])(hlaw:e.name= "law")
  (hY:∀(w:vL)(h:vQ),YP w h->(K w.params).In h){dy:DefRec}(hrec:(PyProof.Rows.recsOf q).find? (fun e=>e.name==("_law_weigher":Str))=some dy)(tab:∀w:vL,∃c p,tabIn (K w.params) "_law_weigher"=some (c,p)/\(K w.params).lookup p=none)
  (F:∀(w:vL)(mg:Str->Option uB)(fa:Addr)(h:vQ),(K w.params).In h->h.Ns uR mg->mg "law"=some (.ref fa)->∃d:Ad,Tx (K w.params) mg d/\fa=d.wd9/\∀(s:uC)(v:uB),cY s d.wbm ⟨[v],[]⟩ [("_law_script",v)]):
  PySem.W.WalkO q loose XP YP l.row.toRowW e [] (fun f vs=>PySem.call f vs):=by
 refine walk_ofT (n:=63) (k:=25) (x:="_law_script") (y:="_law_weigher") (CX:=fun _=>CX0) (sp:=fun w _ p=>sp_law0 (K w.params) p) hn ∅ hdf ⟨rfl,∅,∅⟩ hY hrec tab (fun w mg fa h c p KX G hm ht=>?_) (fun _ _ _ _ a ns hl hp hS=>⟨a,ns,rfl,hS,hl,hp,fun _=>rfl⟩) fun _ _ _ _ _ z=>z;rw[hlaw] at hm;obtain⟨d,T,rfl,hb⟩:=F w mg fa h KX G hm;exact⟨d.wbm,hb,fun base kin hns C bm=>(ok_law (P:=l.prog) (w:=w) (base:=base) T (wdu T.wbz T.wbw kin hns ht C bm)).imp fun vs H Q E q=>q⟩
end Our
namespace PySem.W.Fast
def tw10291048403298776749:=0
def tw14753905160264008295:=0
def tw4740415897065452743:=0
def tw17265861953505598132:=0
def tw12157464874754074504:=0
def tw9395836420638542341:=0
def tw17003734804073485026:=0
def tw15625102782132909000:=0
def tw4050138727163775709:=0
def tw2152109114491738987:=0
def tw4480581258973295793:=0
def tw4694150484960269868:=0
def tw10139234041273725544:=0
def tw10824887823910627046:=0
def tw2649486476833170046:=0
def tw17930329519188576468:=0
def tw16456101266610506027:=0
def tw10277703947262948629:=0
def tw15923667262055078324:=0
def tw18006125757656402115:=0
def tw14805369780315761866:=0
def tw2242840065461884649:=0
def tw13776524835494724451:=0
def tw9780378534021557877:=0
def tw5506140507359715625:=0
def tw7381513758197008641:=0
def tw8502634425826469806:=0
def tw708498632065283357:=0
def tw2447497429420808593:=0
def tw14413470621469528790:=0
def tw17980059898260671144:=0
def tw16376624789100527908:=0
def tw16978334506855131122:=0
def tw9872751502369560807:=0
def tw8010760615595536778:=0
def tw12658367901849581229:=0
def tw15221821990448215725:=0
def tw10057154126199423976:=0
def tw12288929381203721633:=0
def tw8771252327620943319:=0
def tw608333461584015290:=0
def tw15914790668578949970:=0
def tw14731388219198358962:=0
def tw592012935727043506:=0
def tw10658383301736776365:=0
def tw5166743865238605702:=0
def tw13784251822029640772:=0
def tw2739693678621591662:=0
def tw15423336726469575671:=0
def tw11022203591467277468:=0
def tw18342193495898521239:=0
def tw15188860026869683273:=0
def tw8570986191036058261:=0
def tw12923930615650437594:=0
def tw2515588743212533355:=0
def tw7964596140619572187:=0
def tw14954025723152242841:=0
def tw8242706213723357791:=0
def tw3527521534169538229:=0
def tw778061501532344753:=0
def tw7595284281609860741:=0
def tw4170927266799469492:=0
def tw4836424526204415216:=0
def tw17193926231473713904:=0
def tw15574733177132216614:=0
def tw8794475478937422765:=0
def tw6212424629815522173:=0
def tw7242865669823026599:=0
def tw8346779289134053624:=0
def tw499100325193797382:=0
def tw21453620145924449:=0
def tw5320549071287446891:=0
def tw513514098137777678:=0
def tw4187515245029212916:=0
def tw13188234612398849093:=0
def tw4365484839821821109:=0
def tw3196091642187580389:=0
def tw10243393366291215557:=0
def tw8025174868835278818:=0
def tw15132045151048757700:=0
def tw16322612501721699179:=0
def tw368560457009244776:=0
def tw5889962101092164779:=0
def tw8353201685396473278:=0
def tw8706301013326485988:=0
def tw1385973132319248259:=0
def tw17101371015910685109:=0
def tw14728959383361841892:=0
def tw16788332036308111105:=0
def tw16586826043627416590:=0
def tw17906881353910883308:=0
def tw9761561581238179985:=0
def tw11039756987029646741:=0
def tw5339694153242564896:=0
def tw13632735668005148859:=0
def tw3147215327124291891:=0
def tw8601379861404172950:=0
def tw17099784635773612325:=0
def tw8511178068577385907:=0
def tw3884234290477942086:=0
def tw652041180449699238:=0
def tw9645975014717696383:=0
def tw10539509003288189627:=0
def tw5186769704964425040:=0
def tw691896768930824320:=0
def tw9012165318779585772:=0
def tw1704678864083074394:=0
def tw12238105686354272892:=0
def tw9470835134092865834:=0
def tw8588036085258280685:=0
def tw2725102950295759696:=0
def tw9341084463756460498:=0
def tw13714318567666869982:=0
def tw4511540899389929074:=0
def tw8009121707472553670:=0
def tw5946004176931904205:=0
def tw15747357196348782248:=0
def tw17385813917586345993:=0
def tw2304534255038869529:=0
def tw3278375924137536399:=0
def tw8505288198436876325:=0
def tw8605855915250710756:=0
def tw3847886779476093275:=0
def tw15324815442314556802:=0
def tw2558684851228093339:=0
def tw9419153469549347699:=0
def tw15543181070185231825:=0
def tw7787286183142181021:=0
def tw5382362736764207687:=0
def tw8811300672838137045:=0
def tw9756344972325413426:=0
def tw13154433263974653863:=0
def tw5905418561734063719:=0
def tw7842913468095545343:=0
def tw2380834757469253970:=0
def tw3514757893386705517:=0
def tw13074215470621166727:=0
def tw10650285193555353873:=0
def tw14786711928607019243:=0
def tw6907001130079837586:=0
def tw15627786743047486922:=0
def tw10984147541721146773:=0
def tw7908960516512076537:=0
def tw611856944698843696:=0
def tw6425553152853768059:=0
def tw12899395457673445381:=0
def tw3355973097813641299:=0
def tw635246741678848187:=0
def tw8491118046250262722:=0
def tw15961290812609587334:=0
def tw9140298310447737097:=0
def tw15966114215513472103:=0
def tw9873846433238904885:=0
def tw1628562353969240666:=0
def tw8931329115461759422:=0
def tw14059347322062855511:=0
def tw4269297335820013978:=0
def tw1068893923845799287:=0
def tw16651898857526252633:=0
def tw6667220008942266375:=0
def tw9922080863233168710:=0
def tw15258006467089091168:=0
def tw7719852752745210509:=0
def tw8935043793365315823:=0
def tw764412486192258912:=0
def tw12809893276541548299:=0
def tw6972283080379296050:=0
def tw18205595231594490950:=0
def tw10596960384890806836:=0
def tw15069305583473035332:=0
def tw327151576548314131:=0
def tw12383637533334642994:=0
def tw10366170349415136017:=0
def tw3058206416433057663:=0
def tw11041269670607908129:=0
def tw11567414949156384988:=0
def tw3489547363163613894:=0
def tw9711211870512772135:=0
def tw4069111524911384732:=0
def tw16912938511362164141:=0
def tw4403526315519961281:=0
def tw2553945029569062565:=0
def tw267456232793057791:=0
def tw17296623128599477883:=0
def tw9113285802654926358:=0
def tw17620692534265949508:=0
def tw16384740381632689964:=0
def tw16420956214469182727:=0
def tw17658129510967552350:=0
def tw528362882399115763:=0
def tw4920492998831619029:=0
def tw4653354971617590402:=0
def tw595411903036688365:=0
def tw4160676554406080881:=0
def tw6703319804741928479:=0
def tw14996363205227856295:=0
def tw18121184405856097285:=0
def tw16281372873146805624:=0
def tw12855615742793254098:=0
def tw17110147530836543050:=0
def tw13507846496575704617:=0
def tw16176608840839995218:=0
def tw12038385535573968599:=0
def tw6687577620491444992:=0
def tw16185725057841098167:=0
def tw10014120605169141139:=0
def tw6793716162280582732:=0
def tw7243321016647136486:=0
def tw1907382377249056217:=0
def tw3889585092557063411:=0
def tw3231329018509543937:=0
def tw15897663094871321753:=0
def tw13054735014053476795:=0
def tw16081760889013290876:=0
def tw3545600577198118369:=0
def tw8921639107792016308:=0
def tw7537490915738764533:=0
def tw389918761103329969:=0
def tw18233986526297280913:=0
def tw8563383131125770047:=0
def tw15294412230752374702:=0
def tw5776499817756506717:=0
def tw2925666926286271675:=0
def tw2556558377052425377:=0
def tw1790662516993753878:=0
def tw8405098381657480496:=0
def tw13129027187715431044:=0
def tw15049633480521900611:=0
def tw2853281623446177857:=0
def tw656894174184470590:=0
def tw1456355911519868012:=0
def tw11379192938397502562:=0
def tw6079874822944649774:=0
def tw10644409924505589266:=0
def tw15377334268135716824:=0
def tw271621880892080780:=0
def tw7578599652211281101:=0
def tw2946830989405362620:=0
def tw11566006827370367892:=0
def tw13911558055225836722:=0
def tw1316706779897130978:=0
def tw2583715829636214918:=0
def tw6669964554178262146:=0
def tw2704495398462269404:=0
def tw15024752872676612546:=0
def tw5392079295415761436:=0
def tw4396104832461595627:=0
def tw2123801449383098633:=0
def tw9617960135379851810:=0
def tw8284762502875742290:=0
def tw8726162882112228427:=0
def tw3512941072747255034:=0
def tw11917013732869604583:=0
def tw1731861783013046935:=0
def tw16495162458109243054:=0
def tw13983263214633989601:=0
def tw8667251177760929506:=0
def tw12905028207971943058:=0
def tw11737602084458262707:=0
def tw7546650671550970838:=0
def tw4342983335435045110:=0
def tw15453856680996733690:=0
def tw10416769735888739035:=0
def tw1724296459965872533:=0
def tw3052183688228861732:=0
def tw2537821679104874359:=0
def tw16931805340620580572:=0
def tw8487764781533158726:=0
def tw11237200526843510106:=0
def tw6801454993968237262:=0
def tw13755590751328027050:=0
def tw9844354790330521788:=0
def tw7456928657181621535:=0
def tw3743908629554302106:=0
def tw3413284774820890950:=0
def tw2060814695324895306:=0
def tw10785913165558775540:=0
def tw3259078433685559881:=0
def tw1061397772541233118:=0
def tw12762575536088242780:=0
def tw17264717003238826612:=0
def tw1437284602263325668:=0
def tw85151529165797873:=0
def tw669722255762816462:=0
def tw2796671830079401601:=0
def tw16591304375341461955:=0
def tw11975148260403541065:=0
def tw750559396160735199:=0
def tw2244336441574464170:=0
def tw9078625667257033988:=0
def tw4775508832131738561:=0
def tw16573726830708422392:=0
def tw10200368819715197682:=0
def tw3927164291231121156:=0
def tw2847319632976386331:=0
def tw15361202899835024405:=0
def tw9363988416505985491:=0
def tw3774086931266183861:=0
def tw15399765334921257953:=0
def tw8133444258204210235:=0
def tw5168709523365368763:=0
def tw2578328266293590273:=0
def tw9944137284976434645:=0
def tw3037992460344840624:=0
def tw12622055862462472218:=0
def tw11316955141902702231:=0
def tw17047076911282433940:=0
def tw4417268127531377800:=0
def tw14080779849986473710:=0
def tw13967747089301980537:=0
def tw10369498353596944794:=0
def tw12673454586166406281:=0
def tw4061643337753212751:=0
def tw5995272494573231661:=0
def tw5856329267980734928:=0
def tw16322342448363588872:=0
def tw14564728745175605672:=0
def tw14023560737684918413:=0
def tw4684205339855056711:=0
def tw13898482308345768750:=0
def tw2810864288359597113:=0
def tw17926301859106686898:=0
def tw14833824166782097408:=0
def tw8902521477101957133:=0
def tw13697429397443489402:=0
def tw5744194195350808708:=0
def tw1567947461730973670:=0
def tw9098536714012529517:=0
def tw6920691955466730063:=0
def tw11763628402167506521:=0
def tw8937221813467256501:=0
def tw4871841135731657670:=0
def tw3222242106095811706:=0
def tw3061604421407823410:=0
def tw14078725535535041781:=0
def tw10120848058754945010:=0
def tw16971782865959969458:=0
def tw3964544715916839680:=0
def tw8708226489749287419:=0
def tw4769466720080958177:=0
def tw1476492534847559747:=0
def tw14547620146700805625:=0
def tw6990925354482620876:=0
def tw17429545574007650979:=0
def tw1335356789698614373:=0
def tw12256382377410921388:=0
def tw4473506072259280672:=0
def tw11381993703052093241:=0
def tw8981290153853497673:=0
def tw8018763380656233307:=0
def tw8762628576813704904:=0
def tw15888061256129520758:=0
def tw725392385669471100:=0
def tw3502260217993223729:=0
def tw4720948082809224500:=0
def tw17843129126522573826:=0
def tw12662954495096782404:=0
def tw6403138296703658231:=0
def tw9538655653486604671:=0
def tw12037581051932814937:=0
def tw113717316490232430:=0
def tw17181410284071225563:=0
def tw2915148290588285752:=0
def tw15812495660649145668:=0
def tw1238374398199338567:=0
def tw10888725901234448412:=0
def tw6131310236935041490:=0
def tw14046550823720241314:=0
def tw9542264734685540642:=0
def tw8576775043547079575:=0
def tw6717109062737115995:=0
def tw18437126194918559267:=0
def tw17796607894574030734:=0
def tw12666881857470266131:=0
def tw11827801840099266600:=0
def tw6597024695462051592:=0
def tw3240735028889077574:=0
def tw13884744820063804472:=0
def tw9465201803005861020:=0
def tw7123578016060292273:=0
end PySem.W.Fast
open PySem PySem.W PyProof.Rows
set_option maxRecDepth 100000 in
set_option maxHeartbeats 0 in
theorem PySem.Challenge.cw_quotatree_k56_papers_tested_holds : PySem.Challenge.rw_quotatree_k56_papers_tested.Holds := by
 w_on;o_law;k_head;(case hw=>w_witness2)
 k_fill
 refine Our.walk (l:=PySem.Challenge.rw_quotatree_k56_papers_tested) rfl rfl rfl (fun w h Y=>PySem.W.km_in_of Y) rfl (fun w=>⟨676,672,by kernel_rfl,by kernel_rfl⟩) ?F
 case F=>
  intro w mg fa h KX G hmg;refine' Our.txt_mk KX G hmg ?g_z0 ?g_z1 ?g_z2 ?g_z3 ?g_z4 ?g_z5 ?g_z6 ?g_z7 ?g_z8 ?g_z9 ?g_z10 ?g_z11 ?g_z12 ?g_z13 ?g_z14 ?g_z15 ?g_z16 ?g_z17 ?g_z18 ?g_z19 ?g_z20 ?a_z21 ?l_z21 ?c_z21 ?k_z21 ?tt_z21 ?td_z21 ?rd_z21 ?g_z22 ?g_z23 ?a_z24 ?l_z24 ?c_z24 ?k_z24 ?tt_z24 ?td_z24 ?rd_z24 ?g_z25 ?g_z26 ?g_z27 ?g_z28 ?g_z29 ?g_z30 ?g_z31 ?g_z32 ?g_z33 ?g_z34 ?g_z35 ?g_z36 ?g_z37 ?g_z38 ?g_z39 ?g_z40 ?g_z41 ?g_z42 ?g_z43 ?g_z44 ?g_z45 ?g_z46 ?g_z47 ?g_z48 ?g_z49 ?g_z50 ?g_law ?g_z52 ?a_z53 ?l_z53 ?c_z53 ?k_z53 ?tt_z53 ?td_z53 ?rd_z53 ?a_z54 ?l_z54 ?c_z54 ?k_z54 ?tt_z54 ?td_z54 ?rd_z54 ?g_z55 ?g_z56 ?g_z57 ?g_z58 ?g_z59 ?g_z60 ?g_z61 ?g_z62 ?g_z63 ?g_z64 ?g_z65 ?g_z66 ?g_z67 ?g_z68 ?g_z69 ?g_z70 ?g_z71 ?g_z72 ?g_z73 ?g_z74 ?g_z75 ?qi_z75 ?hi_z75 ?a_House ?a_Tree ?a_Dealing ?a_Sums ?a_TreeError ?a_NoName ?a_Taken ?a_NoHouse ?a_NoPromise ?a_NoWare ?a_NoAmount ?a_NoNumber ?a_TooMany ?a_TooDeep ?a_LETTERS ?w55 ?a_LONGEST_NAME ?w1p ?a_MOST_WARES ?w2n ?a_MOST_HOUSES ?w29 ?a_LONGEST_LINE ?w1q ?a_GREATEST_WEIGHT ?w0y ?q_NoHouse ?q_NoAmount ?q_NoWare ?q_NoName ?q_NoNumber ?q_Taken ?q_TooMany ?q_TooDeep ?w0g ?w2g ?w42 ?w83 ?w1d ?w1c ?w15 ?w0e ?w0p ?w0i ?w0f ?w0b ?w05 ?w0m ?w0h ?w22 ?w1b ?w1i ?w0t ?w25 ?w1t ?w03 ?w75 ?w9a ?w2d ?w34 ?w31 ?w2i ?w08 ?w0n ?w0o ?w0x ?w2o ?w0j ?w0v ?w09 ?w0r ?w0u ?w0d ?w18 ?w0z ?w0c ?w04 ?y_abs ?y_all ?y_any ?y_bool ?y_dict ?y_int ?y_isinstance ?y_len ?y_list ?y_range ?y_set ?y_sorted ?y_str ?y_tuple ?y_zip
  (case a_House|a_Tree|a_Dealing|a_Sums|a_TreeError|a_NoName|a_Taken|a_NoHouse|a_NoPromise|a_NoWare|a_NoAmount|a_NoNumber|a_TooMany|a_TooDeep=>k_is)
  all_goals try (refine' ⟨?a,L2.fun_mk ?l ?c ?k⟩;(case a=>k_is);(case l=>k_is);(case c=>k_is);(case k=>k_is))
  (case a_z21=>k_is);(case l_z21=>k_is);(case c_z21=>k_is);(case k_z21=>k_is)
  (case tt_z21=>k_is);(case td_z21=>first|rfl|k_is);(case rd_z21=>first|exact .cons ⟨_,rfl⟩ .nil|exact .cons rfl .nil)
  (case a_z24=>k_is);(case l_z24=>k_is);(case c_z24=>k_is);(case k_z24=>k_is)
  (case tt_z24=>k_is);(case td_z24=>first|rfl|k_is);(case rd_z24=>first|exact .cons ⟨_,rfl⟩ .nil|exact .cons rfl .nil)
  (case a_z53=>k_is);(case l_z53=>k_is);(case c_z53=>k_is);(case k_z53=>k_is)
  (case tt_z53=>k_is);(case td_z53=>first|rfl|k_is);(case rd_z53=>first|exact .cons ⟨_,rfl⟩ .nil|exact .cons rfl .nil)
  (case a_z54=>k_is);(case l_z54=>k_is);(case c_z54=>k_is);(case k_z54=>k_is)
  (case tt_z54=>k_is);(case td_z54=>first|rfl|k_is);(case rd_z54=>first|exact .cons ⟨_,rfl⟩ .nil|exact .cons rfl .nil)
  (case qi_z75=>kernel_rfl);(case hi_z75=>k_is)
  (case a_LETTERS=>k_is)
  (case w55=>exact⟨_,rfl⟩)
  (case a_LONGEST_NAME=>k_is)
  (case w1p=>exact⟨_,rfl⟩)
  (case a_MOST_WARES=>k_is)
  (case w2n=>exact⟨_,rfl⟩)
  (case a_MOST_HOUSES=>k_is)
  (case w29=>exact⟨_,rfl⟩)
  (case a_LONGEST_LINE=>k_is)
  (case w1q=>exact⟨_,rfl⟩)
  (case a_GREATEST_WEIGHT=>k_is)
  (case w0y=>exact⟨_,rfl⟩)
  (case q_NoHouse|q_NoAmount|q_NoWare|q_NoName|q_NoNumber|q_Taken|q_TooMany|q_TooDeep=>k_exc)
  (case w0g=>(constructor<;>first|k_is|kernel_rfl))
  (case w2g=>(constructor<;>first|k_is|kernel_rfl))
  (case w42=>(constructor<;>first|k_is|kernel_rfl))
  (case w83=>(constructor<;>first|k_is|kernel_rfl))
  (case w1d=>(constructor<;>first|k_is|kernel_rfl))
  (case w1c=>(constructor<;>first|k_is|kernel_rfl))
  (case w15=>(constructor<;>first|k_is|kernel_rfl))
  (case w0e=>(constructor<;>first|k_is|kernel_rfl))
  (case w0p=>(constructor<;>first|k_is|kernel_rfl))
  (case w0i=>(constructor<;>first|k_is|kernel_rfl))
  (case w0f|w0b|w05|w0m|w0h|w22|w1b|w1i|w0t|w25=>k_is)
  (case w1t=>(constructor<;>first|k_is|kernel_rfl))
  (case w03=>(constructor<;>first|k_is|kernel_rfl))
  (case w75=>(constructor<;>first|k_is|kernel_rfl))
  (case w9a=>(constructor<;>first|k_is|kernel_rfl))
  (case w2d=>(constructor<;>first|k_is|kernel_rfl))
  (case w34=>(constructor<;>first|k_is|kernel_rfl))
  (case w31=>(constructor<;>first|k_is|kernel_rfl))
  (case w2i=>(constructor<;>first|k_is|kernel_rfl))
  (case w08=>(constructor<;>first|k_is|kernel_rfl))
  (case w0n=>(constructor<;>first|k_is|kernel_rfl))
  (case w0o=>(constructor<;>first|k_is|kernel_rfl))
  (case w0x=>(constructor<;>first|k_is|kernel_rfl))
  (case w2o=>(constructor<;>first|k_is|kernel_rfl))
  (case w0j=>(constructor<;>first|k_is|kernel_rfl))
  (case w0v=>(constructor<;>first|k_is|kernel_rfl))
  (case w09=>(constructor<;>first|k_is|kernel_rfl))
  (case w0r=>(constructor<;>first|k_is|kernel_rfl))
  (case w0u|w0d|w18|w0z|w0c|w04|y_abs|y_all|y_any|y_bool|y_dict|y_int|y_isinstance|y_len|y_list|y_range|y_set|y_sorted|y_str|y_tuple|y_zip=>k_is)