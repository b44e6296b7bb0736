import PyProof.Rows.All
import Wide.All
import OpenK.AllK
import Wide.FinOn
import Lean
import PyProof.EqAt
import PyProof.EqKinds
import PyProof.TupleCall
import PyProof.NeKinds
import KE.KEqDict
import KE.KRevIter
import PyProof.FactsAll.range_2
import PyProof.ZipIter
import PyProof.FitsReplace
import PyProof.MeetsStr
import PyProof.ListRange
import PyProof.CollectWalk
import PyProof.DictItems
import PyProof.DictItemsLoops
import PyProof.DictValues
import PyProof.DictWalks
import PyProof.StrCalls
import KE.KIsAll
import PyProof.Rows.Range3
import PyProof.Rows.MinMaxN
import PyProof.SumWalkG
import PyProof.MeetsStr2
import PyProof.StrBlockL
import PyProof.Rows.StrNews2
import PyProof.StrLawsOccR
import KE.KIntText
import PyProof.StrLawsIn
import PyProof.Rows.SeqMore2
import PyProof.ListOps
import PyProof.Rows.SeqMore
import PyProof.Rows.SeqGen
import PyProof.EnumFor
import PyProof.EnumMake
import KE.KSortTup
import KE.KDictList
import KE.KLam
import KE.KSortKey
import PyProof.AutoListH
import PySem.Challenge.RW_quotatree_k55_shares_and_papers
local macro_rules|`(∅)=>`(by decide)
local macro_rules|`(nofun)=>`(fun _ _=>rfl)
local macro_rules|`(↑∅)=>`(by omega)|`(↑$x)=>`(($x).heap.objs.size)
open PySem.W (Frag instObj lookIn plainGet hasDictIn findIn isFn emptyDict specialIn keepIn mroIn kitOne fnOf codeIn excIn nsIn tabIn fnMade envX)
open List renaming length_map->zA,getElem?_eq_getElem->zB,getElem?_map->zC,mem_cons_of_mem->zD,mem_singleton->zE,mem_cons_self->zF,mem_of_getElem?->zG,mem_map->zH,mem_append_right->zI,take_length->zJ,size_toArray->zK,map_append->zL,mem_append->zM,take_add_one->zN,mem_cons->zO,mem_append_left->zP,length_append->zQ,length_cons->zR,mem_iff_getElem->zS,nodup_cons->zT,map_cons->zU,mem_filter->zV,length_take->zW,append_nil->zX,filter_append->zY,length_filter_le->zZ,all_eq_true->yA,getElem_mem->yB,length_singleton->yC,length_replicate->yD,not_mem_nil->yE,replicate_succ->yF,nodup_nil->yG,mem_of_mem_take->yH,find?_cons->yI,filter_cons->yJ,nodup_append->yK,length_nil->yL,any_eq_true->yM,getElem_map->yN,lookup_cons->yO,map_map->yP,any_cons->yQ,mem_range->yR,all_cons->yS
open PySem renaming Value->uB,Shared->uC,wpAny_bind->uE,Stmt->uJ,FuncData->uL,mainGlobals->uS,wpAny->uV,Program->uW,model->uX,starEach->uZ,wpAny_pure->vC,World->vL,boot_len->vO,Heap->vQ,Around->vR,wpAny_mono->vS,Expr->vV,compareOp->wD,eval->wK,wpAny_holding->wP,backTo->wQ,Arguments->wT,wpAny_truthy_bool->wV,Scope->wY,codeAny_mono->xA,sizeLine_eq->xC,wpAny_Call_Name_kw->xD,wpAny_standAt->xM,rawInt->xN,mem_of_lookup->xQ,sysModules->xW,assignEach->xX,wpAny_passesOwn->xY,codeAny_builtin->xZ,wpAny_richCompare_same_room->yX,binaryOp->aA,keywordEach->aB,wpAny_call->aC,Builtin->aN,bootBuiltins->aW,compEnvC->bC,wpAny_loadPart_at->bF,wpAny_execs_cons->bL,behindInMarks->bO,codeAny->bP,attributeBase->bQ,excClassObj->bS,ExcBaseFacts->bX,backToKw->cB,tupleKind_room_in1->cC,wpAny_pyIter_list->cG,foldedSetIterable->cH,wpAny_field->cI,wpAny_comprehension_free->cP,plainId_quiet->cQ,getMethod->cU,BindsTo->cZ,valueAt->dB,wpAny_execs_nil->dE,wpAny_storeName_local->dI,wpAny_loadName_local->dP,callWith->dQ,tupleKind->dY,swapsWith->dZ,cellsFrom->eA,assignInOrder->eJ,builtinsNs->eS,wpAny_Name->eU,nsFind->fA,call_meets->fE,holding->fO,wpAny_Return_some->fP,wpAny_assign_Name->fQ,wpAny_newObj_type->fR,bindC->fS,callerA->fV,relabel->fY,compPost->fZ,assign->gL,setFlight->gM,wpAny_call_entry->gO,scanBound->gP
open PySem.Heap renaming get?_push_of_some->uD,lt_size->uO,get?_push_size->vE,get?_update_other->xB,get?_none_of_le->yZ,SameBut->aY,size_push->aZ
open List renaming getElem?_eq_some_iff->uF,replicate->uR,range->vG,length->wJ,getElem?_append_right->xF,getElem?_append_left->xG,drop_eq_getElem_cons->xH,pairwise_iff_getElem->xI,getElem?_cons_succ->xR,perm_ext_iff_of_nodup->aF,rel_of_pairwise_cons->aI,lookup->aT,filter_cons_of_pos->aU,filter_cons_of_neg->aV,flatten_cons->bA,append_assoc->bB,pairwise_map->bG,mem_flatten->bN,filter_nil->bT,map_congr_left->bV,length_pos_iff->bW,length_range->cK,sum_cons->cR,getElem?_replicate->cV,contains_iff_mem->dL,filterMap_cons->eC,pairwise_cons->fJ,mem_replicate->fL,take_sublist->fT,map_nil->fU,getElem_take->gD,getElem_inj->gK,mem_flatMap->gR
open Nat renaming le_refl->uG,lt_of_lt_of_le->vB,ne_of_lt->vD,lt_of_le_of_lt->vI,le_trans->vK,lt_irrefl->wM,zero_le->wO,pow_le_pow_right->wU,ne_of_gt->wZ,le_succ->xK,le_of_lt->aG,strongRecOn->aO,lt_trans->bE,lt_succ_self->bM,lt_or_ge->bY,mul_le_mul->cE,lt_of_succ_lt_succ->dC,not_lt_zero->dH,lt_succ_of_lt->gC,lt_of_succ_lt->gE
open Sum renaming inr->uH,inl->fM
open Or renaming inl->uI,inr->fF
open Option renaming map_eq_some_iff->uK,isSome_map->bD,isSome_iff_exists->cN,map_some->dG
open Option.some renaming inj->uN
open PySem.AutoSeq1 renaming wpAny_loadPart'->uP
open PySem.Value renaming ref->uQ,none->wI,int->cS,type->cY,str->dX,isStrOf->eI,bool->eR
open PySem.W renaming Frag->uT,mg_of->vN,mg_none_of->vU,findIn->vW,kia_one->wN,callWith_K->xE,nsIn->xU,methodCall_KW->yU,kitOne->cA,keepIn->cM,Looks->cO,instObj->cW,codeIn->dO,CodeHd->dR,specialIn->dW,plainGet_of->eD,excIn->eG,fnOf->eP,fnMade->eQ,methodObj->fN,hasDictIn->gJ
open Bool renaming false_ne_true->uU,and_eq_true->vZ,eq_iff_iff->xJ,not_eq_true'->cJ,false_or->eK,false_eq_true->fG
open Rat renaming intCast_natCast->uY,intCast_mul->vJ,mul_le_mul_of_nonneg_right->wB,mul_nonneg->xT,mul_le_mul_of_nonneg_left->xV,intCast_add->aP,natCast_mul->aQ,mul_lt_mul_of_pos_right->bZ,div_mul_cancel->cD,le_refl->dU
open Int renaming emod_nonneg->vA,emod_lt_of_pos->vF,natAbs_natCast->wC,gcd->wS,natAbs_mul->xS,le_trans->aH,gcd_dvd_right->cL,zero_add->dD,mul_pos->dS,toNat->eB,mul_assoc->eO,mul_comm->gF,ne_of_gt->gG,le_of_lt->gH,gcd_dvd_left->gQ
open PyProof.Rows renaming boot_isinstance->vH,sortedS->vX,boot_sorted->wF,boot_dict->wR,callWith_type1->yV,envOfC->aJ,boot_list->bH,boot_str->bK,AllBare->cF,boot_int->dM,boot_abs->dN,assignInOrder_cons->eZ,StrsAre->gB
open PySem.PassesOwn renaming never->vM
open False renaming elim->vP
open List.Nodup renaming length_le_of_subset->vT
open PySem.F renaming plainAttrs_list->vY,slot_list_append->wG,type_list_append->wH,excBase_ValueError->aE,slot_dict_get->dJ
open Classical renaming byContradiction->wL
open True renaming intro->wW
open PySem.Around renaming under_plainId->xL
open Ne renaming symm->xP
open PySem.MeetsSeq3 renaming plain_eq_loop->yT,entry_eq_loop->eM
open Sum.inr renaming inj->yY
open Array renaming getElem?_eq_some_iff->aD,getElem?_toList->bJ,length_toList->bU,find?_toList->fB,all_eq_true_iff_forall_mem->fX
open PyProof.Rows.F renaming plain_set_update_loop->aK,entry_set_update_loop->eF
open PySem.Builtin.List renaming listTooLong->aL
open PySem.Obj renaming mapFields->aM
open PySem.Builtin.Str renaming occurrences->aS
open Nat.succ renaming inj->bI
open PySem.Calls renaming evalArgs_plain->bR,callWith_builtin->dA,spliced_cons->fD
open ForInStep renaming yield->dF
open PySem.Code renaming quiet_builtin->fH
open PySem.SeqAt.EqAt renaming of_refs->fK
open List.Pairwise renaming nil->fW
open PySem.Builtin.Tuple renaming tupleCompareSizes->gI
set_option compiler.extract_closed false
set_option Elab.async false
set_option linter.all false
set_option maxRecDepth 100000
theorem gT.{u} {c:Prop} {h:Decidable c} (n:¬c) {α:Sort u} {t e:α}:ite c t e=e:=if_neg n
theorem gU.{u} {c:Prop} {h:Decidable c} (n:c) {α:Sort u} {t e:α}:ite c t e=t:=if_pos n
def gW{p:Prop}[i:Decidable p](h:p):decide p=true:=decide_eq_true h
def gX{p:Prop}[i:Decidable p](h:¬p):decide p=false:=decide_eq_false h
namespace L2
open PySem PySem.Spec PyProof.Rows
variable{us:List uB}{H:Hp}{a b C:Addr}{o:HO}{u:uB}{h:vQ}{X:Cx}{e c:vV}{A:vR}{s:uC}{i:Nat}{x:Str}{pos:Pos}{v:V}{op:CmpOp}{K:uT}{pins:List (Addr×Obj)}{σ:St}{fp:List Addr}{r:R2}
abbrev Key:=Sum Int Str
def jcm:Key->uB->Bool
 | .inl k,v=>Value.isInt k v
 | .inr x,v=>eI x v
def jvp(w:vL):Key->Int
 | .inl k=>hashInt k
 | .inr x=>hashStr w x
def qbb:∀{k:Key} {v:uB},jcm k v=true->(∃i t,k=fM i/\v=cS i t)\/(∃x t,k=uH x/\v=dX x t)
 | .inl i,v,h=>by
  obtain⟨t,e⟩:=Value.isInt_shape (k:=i) (v:=v) h;exact .inl ⟨i,t,rfl,e⟩
 | .inr x,v,h=>by
  obtain⟨t,e⟩:=Value.isStrOf_shape (x:=x) (v:=v) h;exact .inr ⟨x,t,rfl,e⟩
def jgg(i:Int)(t:Tok):jcm (.inl i) (.int i t)=true:=by simp[jcm,Value.isInt]
def jgh(x:Str)(t:Tok):jcm (.inr x) (.str x t)=true:=by simp[jcm,eI]
def jo2(a b:Int):decide ((fM a:Key)=fM b)=(a==b):=by
 by_cases e:a=b
 .subst e;simp
 .have h:¬(fM a:Key)=fM b:=fun q=>e (Sum.inl.inj q);rw[gX h];exact(beq_eq_false_iff_ne.mpr e).symm
def jo3(a b:Str):decide ((uH a:Key)=uH b)=decide (a=b):=by
 by_cases e:a=b
 .subst e;simp
 .have h:¬(uH a:Key)=uH b:=fun q=>e (yY q);rw[gX h,gX e]
def jo4(a:Int)(b:Str):decide ((fM a:Key)=uH b)=false:=gX (fun q=>nomatch q)
def jo5(a:Str)(b:Int):decide ((uH a:Key)=fM b)=false:=gX (fun q=>nomatch q)
def qbc(prog:uW)(w:vL):PySem.KeyKind prog w Key where
 is:=jcm
 hash:=jvp w
 inj:=fun v a b ha hb=>by
  rcases qbb ha with⟨i,t,rfl,rfl⟩|⟨x,t,rfl,rfl⟩
  .rcases qbb hb with⟨j,u,rfl,e⟩|⟨y,u,rfl,e⟩
   .injection e with e1 _;rw[e1]
   .exact nomatch e
  .rcases qbb hb with⟨j,u,rfl,e⟩|⟨y,u,rfl,e⟩
   .exact nomatch e
   .injection e with e1 _;rw[e1]
 byValue:=fun k v h=>by
  rcases qbb h with⟨i,t,rfl,rfl⟩|⟨x,t,rfl,rfl⟩<;>rfl
 pyHash:=fun hv h=>by
  rcases qbb hv with⟨i,t,rfl,rfl⟩|⟨x,t,rfl,rfl⟩
  .exact wpAny_pyHash_int h
  .exact wpAny_pyHash_str h
 eqBool:=fun hu hv h=>by
  rcases qbb hu with⟨i,t,rfl,rfl⟩|⟨x,t,rfl,rfl⟩
  .rcases qbb hv with⟨j,u,rfl,rfl⟩|⟨y,u,rfl,rfl⟩
   .rw[jo2] at h;exact wpAny_eqBool_int h
   .rw[jo4] at h;exact SeqAt.EqAt.int_str i t y u _ _ _ _ h
  .rcases qbb hv with⟨j,u,rfl,rfl⟩|⟨y,u,rfl,rfl⟩
   .rw[jo5] at h;exact SeqAt.EqAt.str_int x t j u _ _ _ _ h
   .rw[jo3] at h;exact wpAny_eqBool_str h
 «strs»:=fun k x t v h=>by
  rcases qbb h with⟨i,u,rfl,e⟩|⟨y,u,rfl,e⟩
  .exact nomatch e
  .injection e with e1 _
   subst e1
   cases v<;>rfl
def jdr(prog:uW)(w:vL)(i:Int)(t:Tok):(qbc prog w).is (.inl i) (.int i t)=true:=jgg i t
def jds(prog:uW)(w:vL)(x:Str)(t:Tok):(qbc prog w).is (.inr x) (.str x t)=true:=jgh x t
inductive V where
 |non|bl (b:Bool) |int (i:Int) |str (x:Str) |byt (b:Array UInt8) |flt (b:UInt64) |ref (a:Addr) |ty (n:String)
 deriving DecidableEq
def qb6:V->uB->Prop
 | .non,u=>u=wI
 | .bl b,u=>u=eR b
 | .int i,u=>∃t,u=cS i t
 | .str x,u=>∃t,u=dX x t
 | .byt b,u=>∃t,u=Value.bytes b t
 | .flt b,u=>∃t,u=Value.float b t
 | .ref a,u=>u=uQ a
 | .ty n,u=>u=cY n
abbrev qbk:List V->List uB->Prop:=Paired qb6
theorem qbk.length{xs:List V}(r:qbk xs us):xs.length=us.length:=Paired.length r
theorem qbk.get:∀{xs:List V} {us:List uB} {i:Nat} {x:V},qbk xs us->xs[i]?=some x->∃u,us[i]?=some u/\qb6 x u
 |_,_,_,_,.nil,e=>by simp at e
 |_,_,0,_,.cons r _,e=>by simp at e;subst e;exact⟨_,rfl,r⟩
 |_,_,i+1,x,.cons _ t,e=>by
  obtain⟨u,h1,h2⟩:=qbk.get (i:=i) (x:=x) t (by simpa using e);exact⟨u,by simpa using h1,h2⟩
theorem qbk.append:∀{xs ys:List V} {us ws:List uB},qbk xs us->qbk ys ws->qbk (xs++ys) (us++ws)
 |_,_,_,_,.nil,s=>s
 |_,_,_,_,.cons r t,s=> .cons r (qbk.append t s)
def qgz:Option V->Option uB->Prop
 |some v,some u=>qb6 v u
 |none,none=>True
 |_,_=>False
def KV{κ:Type}:List (κ×V)->List (κ×uB)->Prop:=Paired fun(p:κ×V) (q:κ×uB)=>p.1=q.1/\qb6 p.2 q.2
def kV:Key->V
 | .inl i=> .int i
 | .inr x=> .str x
inductive HO where
 |lst(xs:List V)
 |tup(xs:List V)
 |dK(kvs:List (Key×V)) |dT (kvs:List (List Key×V))
 |set(S:Int->Bool)(n:Nat)
 |ins(C dx:Addr)(fs:List (Str×V))
 |own(x:Addr)
 |xd(fs:List (Str×V))
 |met(f x:Addr)
 |rng(lo hi:Int)
 |frz(o:Obj)(u:HO)
 |tbl(ps:Array uB)
 |ext(φ:vQ->Prop)
abbrev Hp:=Addr->Option HO
def upd(H:Hp)(a:Addr)(o:HO):Hp:=fun b=>if b=a then some o else H b
def qa1:upd H a o a=some o:=by unfold upd;rw[gU rfl]
def qa4(h:b≠a):upd H a o b=H b:=by unfold upd;rw[gT h]
def qcx{u:HO} :upd (upd H a o) a u=upd H a u:=by
 funext b;unfold upd;split<;>rfl
def jjl{u:HO}(h:H a=some o)(h':H b=some u)(d:o≠u):a≠b:=by
 intro e;subst e;rw[h] at h';exact d (uN h')
def qa9(h:H a=some o)(h':H b=none):a≠b:=by
 intro e;subst e;rw[h] at h';cases h'
section
variable(P:uW)(w:vL)
def qbq(H:Hp)(h:vQ)(a:Addr):HO->Prop
 | .lst xs=>xs.length<=sizeLine/\∃(its:List uB)(n:Nat),qbk xs its/\h.get? a=some {cls:=.type "list",data:=.seq its.toArray n}
 | .tup xs=>xs.length<=sizeLine/\∃its:List uB,qbk xs its/\IsTup h a its.toArray
 | .dK kvs=>kvs.length<=sizeLine/\(a==xW)=false/\∃vs,KV kvs vs/\h.DictOf (qbc P w) a vs
 | .dT kvs=>kvs.length<=sizeLine/\(a==xW)=false/\∃xs:List (List Key×Addr×uB),
   Paired (fun(p:List Key×V) (q:List Key×Addr×uB)=>p.1=q.1/\H q.2.1=some (.tup (p.1.map kV))/\qb6 p.2 q.2.2) kvs xs/\
   ∃o es ep,h.get? a=some o/\o.ExactDict/\o.data=.dict es ep/\es.toList=xs.map (entryOfKey (dY (qbc P w)))/\(xs.map (·.1)).Nodup
 | .set S n=>h.SetOf (intKind P w) a S n
 | .ins C dx fs=>H dx=some (.own a)/\fs.length<=1000/\dx≠a/\h.get? a=some (cW C dx)/\
   ∃mA,h.Ns1 dx mA/\(∀f,qgz (fs.lookup f) (mA f))/\PySem.Within mA (fs.map (·.1))
 | .own _=>∃o,h.get? a=some o
 | .xd fs=>∃mA,h.Ns1 a mA/\∀f,qgz (fs.lookup f) (mA f)
 | .rng lo hi=>∃t u v,h.get? a=some {cls:=.type "range",data:=.fields #[.int lo t,.int hi u,.int 1 v]}
 | .frz o u=>h.get? a=some o/\qbq H h a u
 | .tbl ps=>h.get? a=some {cls:=.none,data:=.fields ps}
 | .met f x=>h.get? a=some (fN (.ref f) (.ref x))
 | .ext φ=>φ h/\(∃o,h.get? a=some o)/\∀h1 h2:vQ,φ h1->(∀o,h1.get? a=some o->h2.get? a=some o)->φ h2
def HOk(H:Hp)(h:vQ):Prop:=∀a o,H a=some o->qbq P w H h a o
end
section
variable{P:uW}{w:vL}{H H':Hp}{h h':vQ}{a:Addr}{o:HO}
theorem qbq.lt(x:qbq P w H h a o):a<h.objs.size:=by
 cases o with
 |lst xs=>obtain⟨_,_,_,_,e⟩:=x;exact uO e
 |tup xs=>obtain⟨_,_,_,p⟩:=x;exact p.lt
 |dK kvs=>obtain⟨_,_,_,_,o,_,_,e,_⟩:=x;exact uO e
 |dT kvs=>obtain⟨_,_,_,_,o,_,_,e,_⟩:=x;exact uO e
 |set S n=>obtain⟨o,_,_,_,e,_⟩:=x;exact uO e
 |ins C dx fs=>obtain⟨_,_,_,e,_⟩:=x;exact uO e
 |own y=>obtain⟨_,e⟩:=x;exact uO e
 |xd fs=>obtain⟨_,⟨_,_,_,e,_⟩,_⟩:=x;exact uO e
 |rng lo hi=>obtain⟨_,_,_,e⟩:=x;exact uO e
 |frz ob u=>obtain⟨e,_⟩:=x;exact uO e
 |tbl ps=>exact uO (show h.get? a=some _ from x)
 |met f y=>exact uO (show h.get? a=some _ from x)
 |ext φ=>obtain⟨_,⟨_,e⟩,_⟩:=x;exact uO e
theorem Paired.mapP{α β:Type}{F G:α->β->Prop}:∀{l₁:List α} {l₂:List β},Paired F l₁ l₂->(∀a b,F a b->G a b)->Paired G l₁ l₂
 |_,_,.nil,_=> .nil
 |_,_,.cons r t,f=> .cons (f _ _ r) (Paired.mapP t f)
def qbq.stay(x:qbq P w H h a o)(k:∀b u,(b=a\/H b=some (.own a))->h.get? b=some u->h'.get? b=some u)
  (ho:∀b,H b=some (.own a)->H' b=some (.own a))(ht:∀b xs,H b=some (.tup xs)->H' b=some (.tup xs)):qbq P w H' h' a o:=by
 induction o with
 |lst xs=>obtain⟨z,its,n,r,e⟩:=x;exact⟨z,its,n,r,k _ _ (.inl rfl) e⟩
 |tup xs=>obtain⟨z,its,r,ob,e,c⟩:=x;exact⟨z,its,r,ob,k _ _ (.inl rfl) e,c⟩
 |dK kvs=>obtain⟨z,y,vs,r,ob,es,ep,e,c⟩:=x;exact⟨z,y,vs,r,ob,es,ep,k _ _ (.inl rfl) e,c⟩
 |dT kvs=>
  obtain⟨z,y,xs,r,ob,es,ep,e,c⟩:=x;exact⟨z,y,xs,Paired.mapP r fun p q z=>⟨z.1,ht _ _ z.2.1,z.2.2⟩,ob,es,ep,k _ _ (.inl rfl) e,c⟩
 |set S n=>obtain⟨ob,es,ep,t,e,c⟩:=x;exact⟨ob,es,ep,t,k _ _ (.inl rfl) e,c⟩
 |ins C dx fs=>
  obtain⟨d,z,ne,e,mA,⟨od,es,ep,e2,c⟩,r⟩:=x;exact⟨ho _ d,z,ne,k _ _ (.inl rfl) e,mA,⟨od,es,ep,k _ _ (.inr d) e2,c⟩,r⟩
 |own y=>obtain⟨ob,e⟩:=x;exact⟨ob,k _ _ (.inl rfl) e⟩
 |xd fs=>obtain⟨mA,⟨od,es,ep,e,c⟩,r⟩:=x;exact⟨mA,⟨od,es,ep,k _ _ (.inl rfl) e,c⟩,r⟩
 |rng lo hi=>obtain⟨t,u,v,e⟩:=x;exact⟨t,u,v,k _ _ (.inl rfl) e⟩
 |frz ob u ih=>obtain⟨e,q⟩:=x;exact⟨k _ _ (.inl rfl) e,ih q⟩
 |tbl ps=>
  have e:h.get? a=some {cls:=.none,data:=.fields ps}:=x;show h'.get? a=some {cls:=.none,data:=.fields ps};exact k a _ (.inl rfl) e
 |met f y=>
  have e:h.get? a=some (fN (.ref f) (.ref y)):=x;show h'.get? a=some (fN (.ref f) (.ref y));exact k a _ (.inl rfl) e
 |ext φ=>obtain⟨p,⟨o,e⟩,st⟩:=x;exact⟨st _ _ p fun o q=>k _ _ (.inl rfl) q,⟨o,k _ _ (.inl rfl) e⟩,st⟩
theorem HOk.lt(x:HOk P w H h)(e:H a=some o):a<h.objs.size:=(x a o e).lt
def HOk.fresh(x:HOk P w H h)(e:h.objs.size<=a):H a=none:=by
 cases q:H a with
 |none=>rfl
 |some u=>exact absurd (vB (x.lt q) e) (wM _)
def HOk.kept(x:HOk P w H h)(k:∀b u,h.get? b=some u->h'.get? b=some u):HOk P w H h':=fun a o e=>
 (x a o e).stay (fun b u _ q=>k b u q) (fun _ q=>q) fun _ _ q=>q
def HOk.laid(x:HOk P w H h)(k:∀b u,h.get? b=some u->h'.get? b=some u)(hp:h.objs.size<=a)(new:qbq P w (upd H a o) h' a o):HOk P w (upd H a o) h':=fun b u e=>by
 have hn:=x.fresh hp;by_cases hb:b=a
 .subst hb;rw[qa1] at e;cases e;exact new
 .rw[qa4 hb] at e;exact(x b u e).stay (fun c v _ q=>k c v q) (fun c q=>by rw[qa4 (qa9 q hn)];exact q) fun c xs q=>by rw[qa4 (qa9 q hn)];exact q
end
def Rd(H:Hp)(a:Addr)(u:HO):Prop:=H a=some u\/∃o,H a=some (.frz o u)
def Rd.of{u:HO}(h:H a=some u):Rd H a u:=.inl h
def Rd.ok{P:uW}{w:vL}{u:HO}(r:Rd H a u)(x:HOk P w H h):qbq P w H h a u:=by
 rcases r with r|⟨o,r⟩
 .exact x a u r
 .obtain⟨_,q⟩:=x a _ r;exact q
def Mut:Option HO->Prop
 |some (.lst _)=>True
 |some (.dK _)=>True
 |some (.dT _)=>True
 |some (.set _ _)=>True
 |some (.ins _ _ _)=>True
 |some (.ext _)=>True
 |_=>False
section
variable{P:uW}{w:vL}{H:Hp}{h h':vQ}{x e:Addr}{o':HO}
def HOk.write(ok:HOk P w H h)(mu:Mut (H x))(he:e=x\/H e=some (.own x))(k:∀b u,b≠e->h.get? b=some u->h'.get? b=some u)(heo:∃u,h'.get? e=some u)
  (new:qbq P w (upd H x o') h' x o'):HOk P w (upd H x o') h':=fun b u q=>by
 have nown:∀c y,H c=some (.own y)->c≠x:=fun c y r z=>by subst z;rw[r] at mu;exact mu
 have ntup:∀c xs,H c=some (.tup xs)->c≠x:=fun c xs r z=>by subst z;rw[r] at mu;exact mu
 by_cases hb:b=x
 .subst hb;rw[qa1] at q;cases q;exact new
 .rw[qa4 hb] at q;by_cases hbe:b=e
  .have q':H b=some (.own x):=by
    rcases he with z|z
    .exact absurd (hbe.trans z) hb
    .rw[hbe];exact z
   rw[q] at q';cases q';obtain⟨v,hv⟩:=heo;exact⟨v,by rw[hbe];exact hv⟩
  .refine(ok b u q).stay (fun c v hc r=>k c v ?_ r) (fun c r=>by rw[qa4 (nown c b r)];exact r) fun c xs r=>by rw[qa4 (ntup c xs r)];exact r
   rcases hc with rfl|hc
   .exact hbe
   .rintro rfl;rcases he with z|z
    .exact nown c b hc z
    .rw[hc] at z;cases z;exact hb rfl
end
structure Un(fs ex:List Addr)(H H':Hp)(h h':vQ):Prop where
 keep:∀b o,h.get? b=some o->H b=none->b∉fs->b∉ex->h'.get? b=some o
 slot:∀b o,h.get? b=some o->H b=none->b∈fs->b∉ex->∃sl,h'.get? b=some {o with slots:=sl}
 free:∀b o,h.get? b=some o->H b=none->b∉ex->H' b=none
 there:∀b o,h.get? b=some o->b∉ex->∃o',h'.get? b=some o'
 tups:∀b xs,H b=some (.tup xs)->H' b=some (.tup xs)
 frzs:∀b o u,H b=some (.frz o u)->H' b=some (.frz o u)
 tbls:∀b ps,H b=some (.tbl ps)->∃more,H' b=some (.tbl (ps++more))
section
variable{fs ex:List Addr}{H H1:Hp}{h h1 h':vQ}{a x e:Addr}{o:HO}
def Un.any(u:Un fs ex H H1 h h1){b:Addr}{ob:Obj}(q:h.get? b=some ob)(n:H b=none)(hx:b∉ex):∃sl,h1.get? b=some {ob with slots:=sl}:=by
 by_cases hb:b∈fs
 .exact u.slot b ob q n hb hx
 .exact⟨ob.slots,u.keep b ob q n hb hx⟩
def Un.kept(k:∀b u,h.get? b=some u->h'.get? b=some u):Un fs ex H H h h':=
 ⟨fun b ob q _ _ _=>k b ob q,fun b ob q _ _ _=>⟨ob.slots,k b ob q⟩,fun _ _ _ n _=>n,fun b ob q _=>⟨ob,k b ob q⟩,fun _ _ q=>q,fun _ _ _ q=>q,fun _ ps q=>⟨#[],by rw[q];simp⟩⟩
def Un.refl:Un fs ex H H h h:=Un.kept fun _ _ q=>q
def Un.laid(k:∀b u,h.get? b=some u->h'.get? b=some u)(hp:h.objs.size<=a)(hn:H a=none):Un fs ex H (upd H a o) h h' where
 keep:=fun b u q _ _ _=>k b u q
 slot:=fun b u q _ _ _=>⟨u.slots,k b u q⟩
 free:=fun b u q n _=>by rw[qa4 (vD (vB (uO q) hp))];exact n
 there:=fun b u q _=>⟨u,k b u q⟩
 tups:=fun b xs q=>by rw[qa4 (qa9 q hn)];exact q
 frzs:=fun b u xs q=>by rw[qa4 (qa9 q hn)];exact q
 tbls:=fun b ps q=>⟨#[],by rw[qa4 (qa9 q hn),q];simp⟩
def Un.write(mu:Mut (H x))(he:e=x\/H e=some (.own x))(k:∀b u,b≠e->h.get? b=some u->h'.get? b=some u)(heo:∃u,h'.get? e=some u):Un fs ex H (upd H x o) h h':=by
 have hx:∀b,H b=none->b≠x:=fun b n z=>by subst z;rw[n] at mu;exact mu
 have hb:∀b,H b=none->b≠e:=fun b n z=>by
  subst z;rcases he with r|r
  .exact hx b n r
  .rw[n] at r;cases r
 have hm:∀b u,H b=some u->¬Mut (some u)->b≠x:=fun b u q nm z=>by subst z;rw[q] at mu;exact nm mu
 refine⟨fun b u q n _ _=>k b u (hb b n) q,fun b u q n _ _=>⟨u.slots,k b u (hb b n) q⟩,fun b u q n _=>by rw[qa4 (hx b n)];exact n,fun b u q _=>?_,
  fun b xs q=>by rw[qa4 (hm b _ q fun z=>z)];exact q,fun b u xs q=>by rw[qa4 (hm b _ q fun z=>z)];exact q,fun b ps q=>⟨#[],by rw[qa4 (hm b _ q fun z=>z),q];simp⟩⟩
 by_cases hbe:b=e
 .subst hbe;exact heo
 .exact⟨u,k b u hbe q⟩
end
def trk(h:vQ)(H:Hp):List Addr:=(vG h.objs.size).filter fun a=>(H a).isSome
def jjk(h:vQ)(H:Hp):vQ:=PySem.W.hideAll h (trk h H)
def jgi(h:vQ)(H:Hp):(jjk h H).objs.size=h.objs.size:=PySem.W.hideAll_size _ _
def jjm{o:Obj}(e:h.get? b=some o)(n:H b=none):(jjk h H).get? b=some o:=
 PySem.W.hideAll_get _ e fun hm=>by
  have q:(H b).isSome=true:=(zV.mp hm).2;rw[n] at q;simp at q
def jmg{o:Obj}(e:(jjk h H).get? b=some o):h.get? b=some o/\H b=none:=by
 have e':h.get? b=some o:=PySem.W.of_hideAll (trk h H) e;refine⟨e',?_⟩
 cases q:H b with
 |none=>rfl
 |some x=>
  have hm:b∈trk h H:=zV.mpr ⟨yR.mpr (uO e'),by simp[q]⟩;have z:(jjk h H).get? b=none:=PySem.W.hideAll_none (trk h H) hm;rw[z] at e;cases e
def jmh(g h:vQ)(L:Addr):List (Addr×Obj):=(vG h.objs.size).filterMap fun a=>if a=L\/(g.get? a).isSome=true then none else(h.get? a).map fun o=>(a,o)
def rest(g h:vQ)(L d:Addr):List (Addr×Obj):=(jmh g h L).filter fun p=>decide (p.1≠d)
structure Mod(K:uT)(mg:Str->Option uB)(base:vQ):Prop where
 kin:K.In base
 glob:base.Ns uS mg
 blt:∃mb,base.Ns eS mb/\∀x:Str,x≠"__name__"->mb x=aW x
 nolimit:base.NoLimit
structure Cx where
 prog:uW
 w:vL
 K:uT
 mg:Str->Option uB
 base:vQ
 A:vR
 N:List Str
 s₀:uC
 H₀:Hp
 env:Env
 outer:List Env
 stack:List Env
 ex:List Addr
 fn:Str->Bool
 calm:Bool
 pn:List (Addr×Obj)
 xe:uB->uC->Prop
def frs(l:List Env):List Addr:=l.filterMap (·.frame)
abbrev Cx.fs(X:Cx):List Addr:=frs X.outer
def Vis(sc:wY)(x:Str):Prop:=sc.names.lookup x=some .local\/sc.names.lookup x=some .cell\/sc.names.lookup x=some .free
def Loc(sc:wY)(x:Str):Prop:=sc.names.lookup x=some .local\/sc.names.lookup x=some .cell
def jvq(env:Env)(h:vQ)(m:Str->Option uB)(x:Str)(u:uB):Prop:=
 (env.kindOf x=some .local/\m x=some u)\/((env.kindOf x=some .cell\/env.kindOf x=some .free)/\∃c,env.cells.lookup x=some c/\h.IsCell c (some u))
structure Cx.Ok(X:Cx):Prop where
 mod:Mod X.K X.mg X.base
 kind:X.env.scope.kind=.function
 glob:X.env.globals=uS
 blt:X.env.builtins=eS
 above:↑X.s₀<=X.env.locals
 inj:∀x y c,X.env.cells.lookup x=some c->X.env.cells.lookup y=some c->x=y
 has:∀x,(X.env.kindOf x=some .cell\/X.env.kindOf x=some .free)->∃c,X.env.cells.lookup x=some c
 cab:∀x c,X.fn x=true->X.env.cells.lookup x=some c->↑X.s₀<=c
 hd:X.calm=true->X.A.handled=none
 frames:X.A.frames=some X.stack
 stk:X.stack=X.outer\/(X.stack=X.env::X.outer/\X.env.frame=some X.env.locals)
 exf:∀b∈X.ex,b≠X.env.locals/\∀x c,X.env.cells.lookup x=some c->c≠b
 bs:∀b o,X.base.get? b=some o->X.s₀.heap.get? b=some o/\X.H₀ b=none
 bsz:X.base.objs.size<=↑X.s₀
 noex:∀b o,X.base.get? b=some o->b∉X.ex
 exfs:∀b∈X.ex,b∉X.fs
 funs:X.s₀.heap.FunFrames X.base X.outer
 frf:∀b∈X.fs,X.H₀ b=none
structure Inv(X:Cx)(pins:List (Addr×Obj))(σ:List (Option V))(H:Hp)(s:uC):Prop where
 ok:X.Ok
 os:s.os=X.s₀.os
 bare:cF s.gens
 base:Un X.fs X.ex X.H₀ H X.s₀.heap s.heap
 loc:∃m,s.heap.Ns X.env.locals m/\∀(i:Nat)(x:Str)(v:V),X.N[i]?=some x->σ[i]?=some (some v)->Vis X.env.scope x->∃u,qb6 v u/\jvq X.env s.heap m x u
 cell:∀x c,X.env.cells.lookup x=some c->∃v,s.heap.IsCell c v
 free:H X.env.locals=none
 freeC:∀x c,X.env.cells.lookup x=some c->H c=none
 pin:∀p∈X.pn++pins,s.heap.get? p.1=some p.2/\H p.1=none/\p.1≠X.env.locals/\p.1∉X.fs/\∀v,p.2.data≠ .cell v
 hok:HOk X.prog X.w H s.heap
 len:σ.length=X.N.length
section
variable{X:Cx}{pins:List (Addr×Obj)}{σ:List (Option V)}{H H':Hp}{s:uC}{h':vQ}
def Cx.Ok.nofr(ok:X.Ok){b:Addr}{o:Obj}(e:X.base.get? b=some o):b∉X.fs:=fun hb=>by
 have:=(ok.funs.mem hb).1;rw[e] at this;cases this
theorem Inv.bs(I:Inv X pins σ H s):∀b o,X.base.get? b=some o->s.heap.get? b=some o/\H b=none:=fun b o e=>
 ⟨I.base.keep b o (I.ok.bs b o e).1 (I.ok.bs b o e).2 (I.ok.nofr e) (I.ok.noex b o e),I.base.free b o (I.ok.bs b o e).1 (I.ok.bs b o e).2 (I.ok.noex b o e)⟩
def Inv.bk(I:Inv X pins σ H s):∀b o,X.base.get? b=some o->s.heap.get? b=some o:=fun b o e=>(I.bs b o e).1
theorem Inv.mod(I:Inv X pins σ H s):Mod X.K X.mg X.base:=I.ok.mod
def Inv.kIn(I:Inv X pins σ H s):X.K.In s.heap:=I.ok.mod.kin.keeps I.bk
theorem Inv.lt(I:Inv X pins σ H s):X.env.locals<↑s:=let ⟨_,hn,_⟩:=I.loc;hn.lt
def Inv.sz(I:Inv X pins σ H s):↑X.s₀<=↑s:=vK I.ok.above (aG I.lt)
def Inv.nofs(I:Inv X pins σ H s){a:Addr}(h:↑s<=a):a∉X.fs:=fun hb=>by
 obtain⟨_,o,ho,_⟩:=I.ok.funs.mem hb;exact absurd (vB (uO ho) (vK I.sz h)) (wM _)
def Inv.cne(I:Inv X pins σ H s):∀x c,X.env.cells.lookup x=some c->c≠X.env.locals:=fun x c e z=>by
 obtain⟨v,o,ho,hd⟩:=I.cell x c e;obtain⟨m,⟨o',es,ep,ho',hd',_⟩,_⟩:=I.loc;rw[z,ho'] at ho;cases ho;rw[hd'] at hd;cases hd
theorem Inv.funs(I:Inv X pins σ H s):s.heap.FunFrames X.base X.outer:=by
 have all:∀(l:List Env),(∀b∈frs l,b∈X.fs)->X.s₀.heap.FunFrames X.base l->s.heap.FunFrames X.base l:=by
  intro l
  induction l with
  |nil=>intro _ _;trivial
  |cons env r ih=>
   intro hs hl;obtain⟨hk,⟨L,o,hf,hn,ho,hd⟩,hr⟩:=hl;have hL:L∈X.fs:=hs L (by unfold frs;rw[eC,hf];exact zF);obtain⟨sl,e⟩:=I.base.slot L o ho (I.ok.frf L hL) hL fun z=>I.ok.exfs L z hL;exact⟨hk,⟨L,_,hf,hn,e,hd⟩,ih (fun b hb=>hs b (by unfold frs;rw[eC,hf];exact zD _ hb)) hr⟩
 exact all X.outer (fun _ hb=>hb) I.ok.funs
theorem Inv.stack(I:Inv X pins σ H s):s.heap.FunFrames X.base X.stack:=by
 rcases I.ok.stk with e|⟨e,hf⟩
 .rw[e];exact I.funs
 .rw[e];obtain⟨m,hn,_⟩:=I.loc;refine .cons (by rw[I.ok.kind];decide) hf hn ?_ I.funs;exact yZ (vK I.ok.bsz I.ok.above)
def Inv.stkSub(I:Inv X pins σ H s):∀b∈frs X.stack,b∈X.env.locals::X.fs:=fun b hb=>by
 rcases I.ok.stk with e|⟨e,hf⟩
 .rw[e] at hb;exact zD _ hb
 .rw[e] at hb;unfold frs at hb;rw[eC,hf] at hb;exact hb
def Inv.stkFree(I:Inv X pins σ H s):∀b∈frs X.stack,H b=none:=fun b hb=>by
 rcases zO.mp (I.stkSub b hb) with e|hb
 .rw[e];exact I.free
 .obtain⟨_,o,ho,_⟩:=I.ok.funs.mem hb;exact I.base.free b o ho (I.ok.frf b hb) fun z=>I.ok.exfs b z hb
def Inv.step{g':Array GenState}{t':Nat}{d':Drawn}{ch:List Addr}(I:Inv X pins σ H s)
  (hch:∀b∈ch,(b∈X.ex\/↑X.s₀<=b)/\b≠X.env.locals/\(∀x c,X.env.cells.lookup x=some c->c≠b)/\∀p∈X.pn++pins,p.1≠b)
  (keep:∀b o,b≠X.env.locals->b∉X.fs->b∉ch->s.heap.get? b=some o->H b=none->h'.get? b=some o)
  (slot:∀b o,b≠X.env.locals->b∈X.fs->b∉ch->s.heap.get? b=some o->H b=none->∃sl,h'.get? b=some {o with slots:=sl})(free:∀b o,b∉ch->s.heap.get? b=some o->H b=none->H' b=none)
  (there:∀b o,b∉ch->s.heap.get? b=some o->∃o',h'.get? b=some o')
  (tups:∀b xs,H b=some (.tup xs)->H' b=some (.tup xs))(frzs:∀b o u,H b=some (.frz o u)->H' b=some (.frz o u))(tbls:∀b ps,H b=some (.tbl ps)->∃more,H' b=some (.tbl (ps++more)))
  (ns:∀m,s.heap.Ns X.env.locals m->h'.Ns X.env.locals m)(hok:HOk X.prog X.w H' h')(hg:cF g'):
  Inv X pins σ H' {s with heap:=h',gens:=g',drawn:=d',toks:=t'}:=by
 have neL:∀b o,X.s₀.heap.get? b=some o->b≠X.env.locals:=fun b o e=>vD (vB (uO e) I.ok.above);have neC:∀b o,X.s₀.heap.get? b=some o->b∉X.ex->b∉ch:=fun b o e hx hb=>by
  rcases(hch b hb).1 with z|z
  .exact hx z
  .exact absurd (vB (uO e) z) (wM _)
 have cellK:∀x c,X.env.cells.lookup x=some c->∀v,s.heap.IsCell c v->h'.IsCell c v:=fun x c e v ⟨o,ho,hd⟩=>by
  have nch:c∉ch:=fun z=>(hch c z).2.2.1 x c e rfl;by_cases hc:c∈X.fs
  .obtain⟨sl,q⟩:=slot c o (I.cne x c e) hc nch ho (I.freeC x c e);exact⟨_,q,hd⟩
  .exact⟨o,keep c o (I.cne x c e) hc nch ho (I.freeC x c e),hd⟩
 refine⟨I.ok,I.os,hg,⟨fun b o e n hb hx=>?_,fun b o e n hb hx=>?_,fun b o e n hx=>?_,fun b o e hx=>?_,fun b xs e=>tups b xs (I.base.tups b xs e),fun b o xs e=>frzs b o xs (I.base.frzs b o xs e),fun b ps e=>?_⟩,?_,fun x c e=>?_,?_,fun x c e=>?_,fun p hp=>?_,hok,I.len⟩
 .exact keep b o (neL b o e) hb (neC b o e hx) (I.base.keep b o e n hb hx) (I.base.free b o e n hx)
 .obtain⟨sl,e1⟩:=I.base.slot b o e n hb hx;obtain⟨sl',e2⟩:=slot b _ (neL b o e) hb (neC b o e hx) e1 (I.base.free b o e n hx);exact⟨sl',e2⟩
 .obtain⟨o',e1⟩:=I.base.there b o e hx;exact free b o' (neC b o e hx) e1 (I.base.free b o e n hx)
 .obtain⟨o',e1⟩:=I.base.there b o e hx;exact there b o' (neC b o e hx) e1
 .obtain⟨m1,e1⟩:=I.base.tbls b ps e;obtain⟨m2,e2⟩:=tbls b _ e1;exact⟨m1++m2,by rw[e2,Array.append_assoc]⟩
 .obtain⟨m,hn,hl⟩:=I.loc;refine⟨m,ns m hn,fun i x v e1 e2 e3=>?_⟩;obtain⟨u,r,l⟩:=hl i x v e1 e2 e3;refine⟨u,r,?_⟩;rcases l with l|⟨k,c,e,z⟩
  .exact .inl l
  .exact .inr ⟨k,c,e,cellK x c e _ z⟩
 .obtain⟨v,z⟩:=I.cell x c e;exact⟨v,cellK x c e v z⟩
 .obtain⟨m,⟨o,_,_,ho,_⟩,_⟩:=I.loc;exact free _ o (fun z=>(hch _ z).2.1 rfl) ho I.free
 .obtain⟨v,o,ho,hd⟩:=I.cell x c e;exact free c o (fun z=>(hch c z).2.2.1 x c e rfl) ho (I.freeC x c e)
 .obtain⟨e,n,ne,nf,d⟩:=I.pin p hp;have nch:p.1∉ch:=fun z=>(hch p.1 z).2.2.2 p hp rfl;exact⟨keep p.1 p.2 ne nf nch e n,free p.1 p.2 nch e n,ne,nf,d⟩
def Inv.un{t':Nat}(I:Inv X pins σ H s)(u:Un X.fs [] H H' s.heap h')(hok:HOk X.prog X.w H' h'):Inv X pins σ H' {s with heap:=h',toks:=t'}:=by
 obtain⟨m,⟨o,es,ep,ho,r⟩,_⟩:=id I.loc;obtain⟨sl,hL⟩:=u.any ho I.free (by simp);exact I.step (g':=s.gens) (d':=s.drawn) (ch:=[]) (fun _ z=>nomatch z) (fun b o _ hb _ e n=>u.keep b o e n hb (by simp)) (fun b o _ hb _ e n=>u.slot b o e n hb (by simp)) (fun b o _ e n=>u.free b o e n (by simp)) (fun b o _ e=>u.there b o e (by simp)) u.tups u.frzs u.tbls (fun m' hm=>by
  obtain⟨o',es',ep',ho',r'⟩:=hm;rw[ho] at ho';cases ho';exact⟨_,es',ep',hL,r'⟩) hok I.bare
def Inv.call{g':Array GenState}{t':Nat}{d':Drawn}{ch:List Addr}(I:Inv X pins σ H s)(u:Un (frs X.stack) ch H H' s.heap h')(hok:HOk X.prog X.w H' h')(hg:cF g')
  (hch:∀b∈ch,(b∈X.ex\/↑X.s₀<=b)/\b≠X.env.locals/\(∀x c,X.env.cells.lookup x=some c->c≠b)/\∀p∈X.pn++pins,p.1≠b):
  Inv X pins σ H' {s with heap:=h',gens:=g',drawn:=d',toks:=t'}:=by
 obtain⟨m,⟨o,es,ep,ho,r⟩,_⟩:=id I.loc;obtain⟨sl,hL⟩:=u.any ho I.free fun z=>(hch _ z).2.1 rfl;exact I.step (ch:=ch) hch (fun b o hL hb hc e n=>u.keep b o e n (fun z=>(zO.mp (I.stkSub b z)).elim hL hb) hc) (fun b o _ _ hc e n=>u.any e n hc) (fun b o hc e n=>u.free b o e n hc) (fun b o hc e=>u.there b o e hc) u.tups u.frzs u.tbls (fun m' hm=>by
  obtain⟨o',es',ep',ho',r'⟩:=hm;rw[ho] at ho';cases ho';exact⟨_,es',ep',hL,r'⟩) hok hg
def Inv.turned{t':Nat}{it:Addr}(I:Inv X pins σ H s)(k:∀b o,b≠it->s.heap.get? b=some o->h'.get? b=some o)(hn:H it=none)(hL:it≠X.env.locals)
  (h1:it∈X.ex\/↑X.s₀<=it)(h2:∀x c,X.env.cells.lookup x=some c->c≠it)(h3:∀p∈X.pn++pins,p.1≠it):Inv X pins σ H {s with heap:=h',toks:=t'}:=by
 have nit:∀b u,H b=some u->b≠it:=fun b u e z=>by rw[z,hn] at e;cases e
 refine I.step (g':=s.gens) (d':=s.drawn) (ch:=[it]) (fun b hb=>?_) (fun b o _ _ hc e _=>k b o (fun z=>hc (by simp[z])) e) (fun b o _ _ hc e _=>⟨o.slots,k b o (fun z=>hc (by simp[z])) e⟩) (fun _ _ _ _ n=>n)
  (fun b o hc e=>⟨o,k b o (fun z=>hc (by simp[z])) e⟩) (fun _ _ e=>e) (fun _ _ _ e=>e) (fun b ps e=>⟨#[],by rw[e];simp⟩) (fun m hm=>?_) (fun b u e=>?_) I.bare
 .have e:b=it:=by simpa using hb
  subst e;exact⟨h1,hL,h2,h3⟩
 .obtain⟨o,es,ep,ho,r⟩:=hm;exact⟨o,es,ep,k _ o (xP hL) ho,r⟩
 .refine(I.hok b u e).stay (fun c v hc q=>k c v ?_ q) (fun _ q=>q) fun _ _ q=>q;rcases hc with z|z
  .rw[z];exact nit b u e
  .exact nit c _ z
def Inv.tok(I:Inv X pins σ H s)(t:Nat):Inv X pins σ H {s with toks:=t}:=I.un (h':=s.heap) (t':=t) Un.refl I.hok
theorem Inv.kept{t':Nat}(I:Inv X pins σ H s)(k:∀b u,s.heap.get? b=some u->h'.get? b=some u):Inv X pins σ H {s with heap:=h',toks:=t'}:=I.un (Un.kept k) (I.hok.kept k)
theorem Inv.laid{a:Addr}{o:HO}{t':Nat}(I:Inv X pins σ H s)(k:∀b u,s.heap.get? b=some u->h'.get? b=some u)(hp:↑s<=a)(new:qbq X.prog X.w (upd H a o) h' a o):
  Inv X pins σ (upd H a o) {s with heap:=h',toks:=t'}:=I.un (Un.laid k hp (I.hok.fresh hp)) (I.hok.laid k hp new)
theorem Inv.write{x e:Addr}{o:HO}{t':Nat}(I:Inv X pins σ H s)(mu:Mut (H x))(he:e=x\/H e=some (.own x))(k:∀b u,b≠e->s.heap.get? b=some u->h'.get? b=some u)(heo:∃u,h'.get? e=some u)
  (new:qbq X.prog X.w (upd H x o) h' x o):Inv X pins σ (upd H x o) {s with heap:=h',toks:=t'}:=I.un (Un.write mu he k heo) (I.hok.write mu he k heo new)
def Inv.pins_of{pins':List (Addr×Obj)}(I:Inv X pins σ H s)(h:∀p∈pins',s.heap.get? p.1=some p.2/\H p.1=none/\p.1≠X.env.locals/\p.1∉X.fs/\∀v,p.2.data≠ .cell v):Inv X pins' σ H s:=
 ⟨I.ok,I.os,I.bare,I.base,I.loc,I.cell,I.free,I.freeC,fun p hp=>(zM.mp hp).elim (fun z=>I.pin p (zP _ z)) (h p),I.hok,I.len⟩
def jey{N:List Str}(hN:N.Nodup){i j:Nat}{x:Str}(a:N[i]?=some x)(b:N[j]?=some x):i=j:=by
 obtain⟨h1,e1⟩:=uF.mp a;obtain⟨h2,e2⟩:=uF.mp b;exact(gK hN).mp (e1.trans e2.symm)
def jcn{M:Model}{A:vR}{E:uB->uC->Prop}{i:Nat}{x:Str}{v:V}{u:uB}{Q:Unit->uC->Prop}(I:Inv X pins σ H s)(hN:X.N.Nodup)(hi:X.N[i]?=some x)(hx:Loc X.env.scope x)(r:qb6 v u)
  (h:∀s',Inv X pins (σ.set i (some v)) H s'->(∃a,aY a s.heap s'.heap/\(a=X.env.locals\/X.env.cells.lookup x=some a))->Q () s')(hf:X.fn x=true\/X.env.scope.names.lookup x=some .local:=by first|exact .inl rfl|exact .inr rfl|assumption):uV M A (storeName X.env x u) Q E s:=by
 obtain⟨m,hn,hl⟩:=id I.loc;have hcls:(X.env.scope.kind==.class ||(X.env.scope.kind==.module && X.env.locals !=X.env.globals))=false:=by rw[I.ok.kind];rfl
 have hiσ:i<σ.length:=by rw[I.len];exact(uF.mp hi).1
 have cne:=I.cne;have tracked:∀{a:Addr} {h':vQ},(∃o,s.heap.get? a=some o/\H a=none)->aY a s.heap h'->HOk X.prog X.w H h':=fun {a h'} ha hs b ob e=>by
  obtain⟨_,_,hfree⟩:=ha;refine(I.hok b ob e).stay (fun c w' hc q=>(hs.2 c ?_).trans q) (fun _ q=>q) fun _ _ q=>q;rintro rfl;rcases hc with rfl|hc
  .rw[hfree] at e;cases e
  .rw[hfree] at hc;cases hc
 rcases hx with hk|hk
 .refine dI hk hn (fun h' hn' hs=>?_) hcls;obtain⟨oL,_,_,hoL,_⟩:=id hn;refine h _ ⟨I.ok,I.os,I.bare,⟨fun b o e n hb hx=>?_,fun b o e n hb hx=>?_,I.base.free,fun b o e hx=>?_,I.base.tups,I.base.frzs,I.base.tbls⟩,⟨_,hn',fun j y v' e1 e2 e3=>?_⟩,fun y c e=>?_,I.free,I.freeC,fun p hp=>?_,tracked ⟨oL,hoL,I.free⟩ hs,by simpa using I.len⟩ ⟨_,hs,.inl rfl⟩
  .exact(hs.2 b (vD (vB (uO e) I.ok.above))).trans (I.base.keep b o e n hb hx)
  .obtain⟨sl,e1⟩:=I.base.slot b o e n hb hx;exact⟨sl,(hs.2 b (vD (vB (uO e) I.ok.above))).trans e1⟩
  .obtain⟨o',e1⟩:=I.base.there b o e hx;exact⟨o',(hs.2 b (vD (vB (uO e) I.ok.above))).trans e1⟩
  .by_cases hj:j=i
   .subst hj;rw[hi] at e1;cases e1;rw[List.getElem?_set_self hiσ] at e2
    cases e2
    exact⟨u,r,.inl ⟨hk,by simp⟩⟩
   .rw[List.getElem?_set_ne (xP hj)] at e2;obtain⟨u',r',q⟩:=hl j y v' e1 e2 e3;refine⟨u',r',?_⟩;rcases q with⟨k,e⟩|⟨k,c,e,z⟩
    .refine .inl ⟨k,?_⟩;have:y≠x:=fun e=>hj (jey hN e1 (e▸hi));simp[this,e]
    .exact .inr ⟨k,c,e,z.sameBut hs (cne y c e)⟩
  .obtain⟨w',z⟩:=I.cell y c e;exact⟨w',z.sameBut hs (cne y c e)⟩
  .obtain⟨e,n,ne,nf,d⟩:=I.pin p hp;exact⟨(hs.2 p.1 ne).trans e,n,ne,nf,d⟩
 .have hfn:X.fn x=true:=by
   rcases hf with z|z
   .exact z
   .rw[z] at hk;cases hk
  obtain⟨c,hc⟩:=I.ok.has x (.inl hk);obtain⟨w',z⟩:=I.cell x c hc;refine wpAny_storeName_cell I.ok.kind hk hc z (fun h' hc' hs=>?_);obtain⟨oc,hoc,hocd⟩:=id z;refine h {s with heap:=h'} ⟨I.ok,I.os,I.bare,⟨fun b o e n hb hx=>?_,fun b o e n hb hx=>?_,I.base.free,fun b o e hx=>?_,I.base.tups,I.base.frzs,I.base.tbls⟩,⟨m,hn.sameBut hs (xP (cne x c hc)),fun j y v' e1 e2 e3=>?_⟩,fun y c' e=>?_,I.free,I.freeC,fun p hp=>?_,tracked ⟨oc,hoc,I.freeC x c hc⟩ hs,by simpa using I.len⟩ ⟨c,hs,.inr hc⟩
  .exact(hs.2 b (vD (vB (uO e) (I.ok.cab x c hfn hc)))).trans (I.base.keep b o e n hb hx)
  .obtain⟨sl,e1⟩:=I.base.slot b o e n hb hx;exact⟨sl,(hs.2 b (vD (vB (uO e) (I.ok.cab x c hfn hc)))).trans e1⟩
  .obtain⟨o',e1⟩:=I.base.there b o e hx;exact⟨o',(hs.2 b (vD (vB (uO e) (I.ok.cab x c hfn hc)))).trans e1⟩
  .by_cases hj:j=i
   .subst hj;rw[hi] at e1;cases e1;rw[List.getElem?_set_self hiσ] at e2
    cases e2
    exact⟨u,r,.inr ⟨.inl hk,c,hc,hc'⟩⟩
   .rw[List.getElem?_set_ne (xP hj)] at e2;obtain⟨u',r',q⟩:=hl j y v' e1 e2 e3;refine⟨u',r',?_⟩;rcases q with q|⟨k,c',e,z'⟩
    .exact .inl q
    .refine .inr ⟨k,c',e,z'.sameBut hs ?_⟩;rintro rfl;exact hj (jey hN e1 (I.ok.inj _ _ _ e hc▸hi))
  .by_cases hcc:c'=c
   .subst hcc;exact⟨_,hc'⟩
   .obtain⟨w2,z2⟩:=I.cell y c' e;exact⟨w2,z2.sameBut hs hcc⟩
  .obtain⟨e,n,ne,nf,d⟩:=I.pin p hp;refine⟨(hs.2 p.1 ?_).trans e,n,ne,nf,d⟩;intro q;rw[q,hoc] at e;have q':oc=p.2:=uN e;exact d w' (by rw[<-q'];exact hocd)
def qe7{M:Model}{A:vR}{E:uB->uC->Prop}{i:Nat}{x:Str}{v:V}{u:uB}{Q:Unit->uC->Prop}(I:Inv X pins σ H s)(hN:X.N.Nodup)(hi:X.N[i]?=some x)(hx:Loc X.env.scope x)(r:qb6 v u)
  (h:∀s',Inv X pins (σ.set i (some v)) H s'->Q () s')(hf:X.fn x=true\/X.env.scope.names.lookup x=some .local:=by first|exact .inl rfl|exact .inr rfl|assumption):uV M A (storeName X.env x u) Q E s:=
 jcn I hN hi hx r (fun s' I' _=>h s' I') hf
def Inv.call'{s':uC}{ch:List Addr}(I:Inv X pins σ H s)(ho:s'.os=s.os)(u:Un (frs X.stack) ch H H' s.heap s'.heap)(hok:HOk X.prog X.w H' s'.heap)(hg:cF s'.gens)
  (hch:∀b∈ch,(b∈X.ex\/↑X.s₀<=b)/\b≠X.env.locals/\(∀x c,X.env.cells.lookup x=some c->c≠b)/\∀p∈X.pn++pins,p.1≠b):Inv X pins σ H' s':=by
 obtain⟨h',g',d',t',o'⟩:=s';have e:o'=s.os:=ho;subst e;exact I.call (g':=g') (t':=t') (d':=d') u hok hg hch
end
abbrev XK:=uB->Option Addr->Hp->Prop
abbrev St:=List (Option V)
abbrev VK:=V->Hp->Prop
abbrev TE:=St->Hp->VK->Prop
abbrev TT:=St->Hp->(Bool->Hp->Prop)->Prop
abbrev TA:=St->Hp->(List V->Hp->Prop)->Prop
structure jca where
 nx:St->Hp->Prop
 rt:VK
 bk:St->Hp->Prop:=fun _ _=>False
 ct:St->Hp->Prop:=fun _ _=>False
abbrev TS:=jca->St->Hp->Prop
def EP(X:Cx)(pins:List (Addr×Obj))(σ:St)(Q:VK)(u:uB)(s':uC):Prop:=∃v H',Inv X pins σ H' s'/\qb6 v u/\Q v H'
def TP(X:Cx)(pins:List (Addr×Obj))(σ:St)(Q:Bool->Hp->Prop)(b:Bool)(s':uC):Prop:=∃H',Inv X pins σ H' s'/\Q b H'
def AP(X:Cx)(pins:List (Addr×Obj))(σ:St)(Q:List V->Hp->Prop)(us:List uB)(s':uC):Prop:=∃vs H',Inv X pins σ H' s'/\qbk vs us/\Q vs H'
def SP(X:Cx)(pins:List (Addr×Obj))(D:jca)(f:Flow)(s':uC):Prop:=
 match f with
 | .next=>∃σ' H',Inv X pins σ' H' s'/\D.nx σ' H'
 | .brk=>∃σ' H',Inv X pins σ' H' s'/\D.bk σ' H'
 | .cont=>∃σ' H',Inv X pins σ' H' s'/\D.ct σ' H'
 | .ret u=>∃v σ' H',Inv X pins σ' H' s'/\qb6 v u/\D.rt v H'
def PE(X:Cx)(e:vV)(t:TE):Prop:=
 ∀(pins:List (Addr×Obj))(s:uC)(σ:St)(H:Hp)(Q:VK),Inv X pins σ H s->t σ H Q->uV (uX X.prog X.w) X.A (wK e X.env) (EP X pins σ Q) X.xe s
def PT(X:Cx)(e:vV)(t:TT):Prop:=
 ∀(pins:List (Addr×Obj))(s:uC)(σ:St)(H:Hp)(Q:Bool->Hp->Prop),Inv X pins σ H s->t σ H Q->uV (uX X.prog X.w) X.A (isTrue e X.env (wK e X.env)) (TP X pins σ Q) X.xe s
def PW(X:Cx)(e:vV)(t:TT):Prop:=
 ∀(whole:Sem uB)(pins:List (Addr×Obj))(s:uC)(σ:St)(H:Hp)(Q:Bool->Hp->Prop),Inv X pins σ H s->t σ H Q->uV (uX X.prog X.w) X.A (isTrue e X.env whole) (TP X pins σ Q) X.xe s
def PW.pt{t:TT}(h:PW X e t):PT X e t:=h _
def PA(X:Cx)(es:List vV)(t:TA):Prop:=
 ∀(pos:Pos)(pins:List (Addr×Obj))(s:uC)(σ:St)(H:Hp)(Q:List V->Hp->Prop),Inv X pins σ H s->t σ H Q->uV (uX X.prog X.w) X.A (spliced (wQ pos (uZ es X.env))) (AP X pins σ Q) X.xe s
def PS(X:Cx)(st:Stmt)(t:TS):Prop:=
 ∀(pins:List (Addr×Obj))(s:uC)(σ:St)(H:Hp)(D:jca),Inv X pins σ H s->t D σ H->uV (uX X.prog X.w) X.A (exec st X.env) (SP X pins D) X.xe s
def PSs(X:Cx)(st:List Stmt)(t:TS):Prop:=
 ∀(pins:List (Addr×Obj))(s:uC)(σ:St)(H:Hp)(D:jca),Inv X pins σ H s->t D σ H->uV (uX X.prog X.w) X.A (execs st X.env) (SP X pins D) X.xe s
def thn{α:Type}{t:Sem α}{Q Q':α->uC->Prop}{M:Model}{E:uB->uC->Prop}(h:uV M A t Q E s)(hQ:∀a s,Q a s->Q' a s):uV M A t Q' E s:=vS h hQ fun _ _ x=>x
section
variable{X:Cx}
def bin{a b:vV}{ta tb:TE}(ha:PE X a ta)(hb:PE X b tb){pins:List (Addr×Obj)}{s:uC}{σ:St}{H:Hp}{R:V->V->Hp->Prop}(I:Inv X pins σ H s)(h:ta σ H fun x H1=>tb σ H1 fun y H2=>R x y H2)
  {α:Type}{Q:α->uC->Prop}{f:uB->uB->Sem α}
  (hf:∀v u s2 x y H2,Inv X pins σ H2 s2->qb6 x v->qb6 y u->R x y H2->uV (uX X.prog X.w) X.A (f v u) Q X.xe s2):
  uV (uX X.prog X.w) X.A (wK a X.env) (fun v s₁=>uV (uX X.prog X.w) X.A (wK b X.env) (fun u s₂=>uV (uX X.prog X.w) X.A (f v u) Q X.xe s₂) X.xe s₁) X.xe s:=by
 refine thn (ha pins s σ H _ I h) fun v s1 ⟨x,H1,I1,r1,q1⟩=>?_;refine thn (hb pins s1 σ H1 _ I1 q1) fun u s2 ⟨y,H2,I2,r2,q2⟩=>?_;exact hf v u s2 x y H2 I2 r1 r2 q2
def jsl(i:Nat):TE:=fun σ H Q=>∃v,σ[i]?=some (some v)/\Q v H
def tC(v:V):TE:=fun _ H Q=>Q v H
def jez(hN:X.N[i]?=some x)(hv:Vis X.env.scope x)(hd:(x==("__debug__":Str))=false:=by decide)(hcd:(x==("__classdict__":Str))=false:=by decide):PE X (.Name x pos) (jsl i):=by
 intro pins s σ H Q I h;obtain⟨v,e,h⟩:=h;obtain⟨m,hn,hl⟩:=I.loc;obtain⟨u,r,l⟩:=hl i x v hN e hv;have fin:EP X pins σ Q u s:=⟨v,H,I,r,h⟩;rcases l with⟨hk,hm⟩|⟨hk,c,hc,hcell⟩
 .exact eU (dP I.ok.kind hk hn hm fin) hd
 .rcases hk with hk|hk
  .exact eU (wpAny_loadName_cell I.ok.kind hk hc hcell fin) hd
  .exact eU (wpAny_loadName_free I.ok.kind hk hc hcell fin hcd) hd
def qa7{i j pos} :PE X (.Constant (.int i) j pos) (tC (.int i)):=fun _ _ _ H _ I h=>wpAny_Constant_int ⟨.int i,H,I.tok _,⟨_,rfl⟩,h⟩
def qd8{b j pos} :PE X (.Constant (.bool b) j pos) (tC (.bl b)):=fun _ _ _ H _ I h=>Constant_bool ⟨.bl b,H,I,rfl,h⟩
def qd1{j pos} :PE X (.Constant .none j pos) (tC .non):=fun _ _ _ H _ I h=>Constant_none ⟨.non,H,I,rfl,h⟩
def qcn{x j pos} :PE X (.Constant (.str x) j pos) (tC (.str x)):=fun _ _ _ H _ I h=>Calls.Constant_str ⟨.str x,H,I.tok _,⟨_,rfl⟩,h⟩
def Gl(X:Cx)(x:Str):Prop:=X.env.kindOf x=some .globalImplicit
def qe0{E:uB->uC->Prop}{pins:List (Addr×Obj)}{s:uC}{σ:St}{H:Hp}{x:Str}{u:uB}{pos:Pos}{Q:uB->uC->Prop}(I:Inv X pins σ H s)(hg:Gl X x)(hm:X.mg x=some u)(h:Q u s)
  (hd:(x==("__debug__":Str))=false:=by decide):uV (uX X.prog X.w) X.A (wK (.Name x pos) X.env) Q E s:=
 Calls.Name_function_global I.ok.kind hg (Calls.loadGlobal_global (by rw[I.ok.glob];exact I.mod.glob.keeps I.bk) hm h) hd
def qg9{E:uB->uC->Prop}{pins:List (Addr×Obj)}{s:uC}{σ:St}{H:Hp}{x:Str}{u:uB}{pos:Pos}{Q:uB->uC->Prop}(I:Inv X pins σ H s)(hg:Gl X x)(hm:X.mg x=none)(hv:aW x=some u)(h:Q u s)
  (hn:x≠"__name__":=by decide)(hd:(x==("__debug__":Str))=false:=by decide):uV (uX X.prog X.w) X.A (wK (.Name x pos) X.env) Q E s:=by
 obtain⟨mb,h1,h2⟩:=I.mod.blt;exact Calls.Name_function_global I.ok.kind hg (Calls.loadGlobal_builtin (by rw[I.ok.glob];exact I.mod.glob.keeps I.bk) hm (by rw[I.ok.blt];exact h1.keeps I.bk) ((h2 x hn).trans hv) h) hd
def qdy(hg:Gl X x)(hm:X.mg x=some u)(r:qb6 v u)(hd:(x==("__debug__":Str))=false:=by decide):PE X (.Name x pos) (tC v):=
 fun _ _ _ H _ I h=>qe0 I hg hm ⟨v,H,I,r,h⟩ hd
def qcb(hg:Gl X x)(hm:X.mg x=none)(hv:aW x=some u)(r:qb6 v u)(hn:x≠"__name__":=by decide)(hd:(x==("__debug__":Str))=false:=by decide):PE X (.Name x pos) (tC v):=
 fun _ _ _ H _ I h=>qg9 I hg hm hv ⟨v,H,I,r,h⟩ hn hd
variable{a b:vV}{ta tb:TE}{pos:Pos}
def PC(X:Cx)(op:CmpOp)(a b:vV)(t:TE):Prop:=
 ∀(pins:List (Addr×Obj))(s:uC)(σ:St)(H:Hp)(Q:VK),Inv X pins σ H s->t σ H Q->
  uV (uX X.prog X.w) X.A (wK a X.env) (fun v s₁=>uV (uX X.prog X.w) X.A (wK b X.env) (fun u s₂=>uV (uX X.prog X.w) X.A (wD op v u) (EP X pins σ Q) X.xe s₂) X.xe s₁) X.xe s
def tB(t:TE):TT:=fun σ H Q=>t σ H fun x H1=>∃c,x=.bl c/\Q c H1
def jo6{t:TE}(h:PC X op a b t)(h1:bO op b=false:=by first|exact nobehind _ ∅ ∅ |rfl):PE X (.Compare a [op] [b] pos) t:=fun pins s σ H Q I hw=>wpAny_Compare1 (h pins s σ H Q I hw) h1
def jo7{t:TE}(h:PC X op a b t)(h1:bO op b=false:=by first|exact nobehind _ ∅ ∅ |rfl):PT X (.Compare a [op] [b] pos) (tB t):=by
 intro pins s σ H Q I hw;refine wpAny_isTrue_Compare1 (thn (h pins s σ H _ I hw) fun v s1 h1=>thn h1 fun u s2 h2=>thn h2 fun c s3 ⟨x,H1,I1,r1,q1⟩=>?_) h1;obtain⟨d,rfl,q⟩:=q1
 cases r1
 exact wV ⟨H1,I1,q⟩
def qbj{t:TE}(h:PE X e t)(he:∀whole,isTrue e X.env whole=(do let v<-whole;standAt e.pos;fO [v] (truthy v)):=by intro _;rfl):PT X e (tB t):=by
 intro pins s σ H Q I hw;refine isTrue_plain (thn (h pins s σ H _ I hw) fun v s1 ⟨x,H1,I1,r1,q1⟩=>?_) (he _);obtain⟨d,rfl,q⟩:=q1
 cases r1
 exact wV ⟨H1,I1,q⟩
variable{tA tB':TT}{rest:List vV}
def jum(t u:TT):TT:=fun σ H Q=>t σ H fun c H1=>if c=true then u σ H1 Q else Q false H1
def tOr(t u:TT):TT:=fun σ H Q=>t σ H fun c H1=>if c=true then Q true H1 else u σ H1 Q
def jun(t:TT):TT:=fun σ H Q=>t σ H fun c H1=>Q (!c) H1
def qgn(ha:PT X a tA):PW X (.BoolOp .And [a] pos) tA:=by
 intro wh pins s σ H Q I h;refine isTrue_and (thn (ha pins s σ H Q I h) fun c s1 e=>?_)
 cases c with
 |true=>exact isTrue_and_nil e
 |false=>exact e
def qdf(ha:PT X a tA):PW X (.BoolOp .Or [a] pos) tA:=by
 intro wh pins s σ H Q I h;refine isTrue_or (thn (ha pins s σ H Q I h) fun c s1 e=>?_)
 cases c with
 |false=>exact isTrue_or_nil e
 |true=>exact e
def je0(ha:PT X a tA)(hb:PW X (.BoolOp .And (b::rest) pos) tB'):PW X (.BoolOp .And (a::b::rest) pos) (jum tA tB'):=by
 intro wh pins s σ H Q I h;refine isTrue_and (thn (ha pins s σ H _ I h) fun c s1 ⟨H1,I1,q1⟩=>?_)
 cases c with
 |true=>exact hb wh pins s1 σ H1 Q I1 q1
 |false=>exact⟨H1,I1,q1⟩
def qdr(ha:PT X a tA)(hb:PW X (.BoolOp .Or (b::rest) pos) tB'):PW X (.BoolOp .Or (a::b::rest) pos) (tOr tA tB'):=by
 intro wh pins s σ H Q I h;refine isTrue_or (thn (ha pins s σ H _ I h) fun c s1 ⟨H1,I1,q1⟩=>?_)
 cases c with
 |true=>exact⟨H1,I1,q1⟩
 |false=>exact hb wh pins s1 σ H1 Q I1 q1
def qc6(ha:PT X a tA):PT X (.UnaryOp .Not a pos) (jun tA):=by
 intro pins s σ H Q I h;exact isTrue_not (ha pins s σ H (fun c H1=>Q (!c) H1) I h)
def jo8(ta tb:TE):TE:=fun σ H Q=>ta σ H fun x H1=>∃c,x=.bl c/\if c=true then tb σ H1 Q else Q (.bl false) H1
def jo9(ta:TE):TE:=fun σ H Q=>ta σ H fun x H1=>∃c,x=.bl c/\Q (.bl (!c)) H1
def qg5{op}{t:TE}(h:PE X a t):PE X (.BoolOp op [a] pos) t:=fun pins s σ H Q I hw=>BoolOp_one (h pins s σ H Q I hw)
def qg6(ha:PE X a ta)(hb:PE X (.BoolOp .And (b::rest) pos) tb):PE X (.BoolOp .And (a::b::rest) pos) (jo8 ta tb):=by
 intro pins s σ H Q I h;refine BoolOp_and (thn (ha pins s σ H _ I h) fun v s1 ⟨x,H1,I1,r1,q1⟩=>?_);obtain⟨c,rfl,q1⟩:=q1
 cases r1
 refine wV ?_
 cases c with
 |true=>exact hb pins s1 σ H1 Q I1 q1
 |false=>exact⟨.bl false,H1,I1,rfl,q1⟩
def jk6(ha:PE X a ta):PE X (.UnaryOp .Not a pos) (jo9 ta):=by
 intro pins s σ H Q I h;refine UnaryOp_ (thn (ha pins s σ H _ I h) fun v s1 ⟨x,H1,I1,r1,q1⟩=>?_);obtain⟨c,rfl,q1⟩:=q1
 cases r1
 exact not_of (wV ⟨.bl (!c),H1,I1,rfl,q1⟩)
def tIf(t:TT)(ta tb:TE):TE:=fun σ H Q=>t σ H fun c H1=>if c=true then ta σ H1 Q else tb σ H1 Q
def je1(hc:PT X c tA)(ha:PE X a ta)(hb:PE X b tb):PE X (.IfExp c a b pos) (tIf tA ta tb):=by
 intro pins s σ H Q I h;refine wpAny_IfExp (thn (hc pins s σ H _ I h) fun d s1 ⟨H1,I1,q1⟩=>?_)
 cases d with
 |true=>exact ha pins s1 σ H1 Q I1 q1
 |false=>exact hb pins s1 σ H1 Q I1 q1
end
def SqL(K:uT)(H:Hp)(a:Addr)(xs:List V):Prop:=
 Rd H a (.lst xs)\/
  ∃(o:Obj)(its:Array uB)(n:Nat),K.lookup a=some o/\o.cls=.type "list"/\o.dict=none/\o.data=.seq its n/\its.size<=sizeLine/\qbk xs its.toList
def SqT(K:uT)(H:Hp)(a:Addr)(xs:List V):Prop:=
 Rd H a (.tup xs)\/
  ∃(o:Obj)(its:Array uB)(n:Nat),K.lookup a=some o/\o.cls=.type "tuple"/\o.data=.seq its n/\its.size<=sizeLine/\qbk xs its.toList
def jsm:uB->Option V
 | .none=>some .non
 | .bool b=>some (.bl b)
 | .int i _=>some (.int i)
 | .str x _=>some (.str x)
 | .bytes b _=>some (.byt b)
 | .float b _=>some (.flt b)
 | .ref a=>some (.ref a)
 | .type n=>some (.ty n)
 |_=>none
def qb6.abs{x:V}(r:qb6 x u):jsm u=some x:=by
 cases x with
 |non=>cases r;rfl
 |bl _=>cases r;rfl
 |int _=>obtain⟨t,rfl⟩:=r;rfl
 |str _=>obtain⟨t,rfl⟩:=r;rfl
 |byt _=>obtain⟨t,rfl⟩:=r;rfl
 |flt _=>obtain⟨t,rfl⟩:=r;rfl
 |ref _=>cases r;rfl
 |ty _=>cases r;rfl
def qb6.inj{x y:V}(r:qb6 x u)(q:qb6 y u):x=y:=uN (r.abs.symm.trans q.abs)
theorem qbk.inj:∀{xs ys:List V} {us:List uB},qbk xs us->qbk ys us->xs=ys
 |_,_,_,.nil,.nil=>rfl
 |_,_,_,.cons r t,.cons r' t'=>by rw[r.inj r',qbk.inj t t']
section
variable{X:Cx}{pins:List (Addr×Obj)}{σ:St}{H:Hp}{s:uC}{a:Addr}{xs ys:List V}
def SqL.of(h:H a=some (.lst xs)):SqL K H a xs:=.inl (.inl h)
def SqT.of(h:H a=some (.tup xs)):SqT K H a xs:=.inl (.inl h)
def Inv.list(I:Inv X pins σ H s)(h:SqL X.K H a xs):∃its:List uB,qbk xs its/\PlainL s.heap a its.toArray/\xs.length<=sizeLine:=by
 rcases h with h|⟨o,its,n,hk,hc,hd,hs,hz,r⟩
 .obtain⟨z,its,n,r,e⟩:=h.ok I.hok;exact⟨its,r,⟨_,n,e,rfl,rfl,rfl⟩,z⟩
 .refine⟨its.toList,r,⟨o,n,I.kIn a o hk,hc,hd,by simpa using hs⟩,?_⟩;have e:=r.length;simp only[bU] at e;omega
def Inv.tuple(I:Inv X pins σ H s)(h:SqT X.K H a xs):∃its:List uB,qbk xs its/\IsTup s.heap a its.toArray/\xs.length<=sizeLine:=by
 rcases h with h|⟨o,its,n,hk,hc,hs,hz,r⟩
 .obtain⟨z,its,r,p⟩:=h.ok I.hok;exact⟨its,r,p,z⟩
 .refine⟨its.toList,r,⟨o,I.kIn a o hk,hc,n,by simpa using hs⟩,?_⟩;have e:=r.length;simp only[bU] at e;omega
def Inv.list_inj(I:Inv X pins σ H s)(h:SqL X.K H a xs)(h':SqL X.K H a ys):xs=ys:=by
 obtain⟨its,r,⟨o,n,e,_,_,d⟩,_⟩:=I.list h;obtain⟨its',r',⟨o',n',e',_,_,d'⟩,_⟩:=I.list h';rw[e] at e';cases e';rw[d] at d';injection d' with d1 _
 have:its=its':=by simpa using congrArg Array.toList d1
 subst this;exact r.inj r'
end
abbrev Cx.wish(X:Cx)(E:uB->uC->Prop):Cx:={X with xe:=E}
abbrev Cx.nox(X:Cx):Cx:=X.wish fun _ _=>False
theorem Cx.Ok.wish(ok:X.Ok)(E:uB->uC->Prop):(X.wish E).Ok:=
 ⟨ok.mod,ok.kind,ok.glob,ok.blt,ok.above,ok.inj,ok.has,ok.cab,ok.hd,ok.frames,ok.stk,ok.exf,ok.bs,ok.bsz,ok.noex,ok.exfs,ok.funs,ok.frf⟩
def Cx.Ok.unwish{E:uB->uC->Prop}(ok:(X.wish E).Ok):X.Ok:=
 ⟨ok.mod,ok.kind,ok.glob,ok.blt,ok.above,ok.inj,ok.has,ok.cab,ok.hd,ok.frames,ok.stk,ok.exf,ok.bs,ok.bsz,ok.noex,ok.exfs,ok.funs,ok.frf⟩
section
variable{X:Cx}{pins:List (Addr×Obj)}{σ:St}{H:Hp}{s:uC}{E:uB->uC->Prop}
theorem Inv.wish(I:Inv X pins σ H s)(E:uB->uC->Prop):Inv (X.wish E) pins σ H s:=⟨I.ok.wish E,I.os,I.bare,I.base,I.loc,I.cell,I.free,I.freeC,I.pin,I.hok,I.len⟩
theorem Inv.unwish(I:Inv (X.wish E) pins σ H s):Inv X pins σ H s:=⟨I.ok.unwish,I.os,I.bare,I.base,I.loc,I.cell,I.free,I.freeC,I.pin,I.hok,I.len⟩
theorem SP.unwish{D:jca}{f:Flow}{s':uC}(h:SP (X.wish E) pins D f s'):SP X pins D f s':=by
 cases f with
 |next=>obtain⟨σ',H',I,q⟩:=h;exact⟨σ',H',I.unwish,q⟩
 |brk=>obtain⟨σ',H',I,q⟩:=h;exact⟨σ',H',I.unwish,q⟩
 |cont=>obtain⟨σ',H',I,q⟩:=h;exact⟨σ',H',I.unwish,q⟩
 |ret u=>obtain⟨v,σ',H',I,r,q⟩:=h;exact⟨v,σ',H',I.unwish,r,q⟩
theorem PSs.nox{st:List Stmt}{t:TS}(h:PSs X.nox st t):PSs X st t:=fun pins s σ H D I hw=>
 vS (h pins s σ H D (I.wish _) hw) (fun _ _ q=>q.unwish) fun _ _ z=>vP z
end
section
variable{X:Cx}{st:Stmt}{rest:List Stmt}{t u:TS}{e:vV}{te:TE}{pos:Pos}
def jpa:TS:=fun D σ H=>D.nx σ H
def jsn(t u:TS):TS:=fun D σ H=>t {D with nx:=u D} σ H
def qap:PSs X [] jpa:=fun _ _ σ H _ I h=>dE ⟨σ,H,I,h⟩
def qa2(h1:PS X st t)(h2:PSs X rest u):PSs X (st::rest) (jsn t u):=by
 intro pins s σ H D I h;refine bL (thn (h1 pins s σ H {D with nx:=u D} I h) fun f s1 q=>?_)
 cases f with
 |next=>
  obtain⟨σ',H',I',q⟩:=q;exact h2 pins s1 σ' H' D I' q
 |ret v=>exact q
 |brk=>exact q
 |cont=>exact q
def qa6(h1:PS X st t):PSs X [st] t:=by
 intro pins s σ H D I h;refine bL (thn (h1 pins s σ H D I h) fun f s1 q=>?_)
 cases f with
 |next=>exact dE q
 |ret v=>exact q
 |brk=>exact q
 |cont=>exact q
def Inv.quiet(I:Inv X pins σ H s):interactive X.env=false:=by simp[interactive,I.ok.kind]
def jpb(te:TE):TS:=fun D σ H=>te σ H fun _ H1=>D.nx σ H1
def qb9(he:PE X e te)(hs:dZ e none pos.line X.env=pure false:=by rfl):PS X (.Expr e pos) (jpb te):=by
 intro pins s σ H D I h;exact wpAny_Expr_any (thn (he pins s σ H _ I h) fun v s1 ⟨x,H1,I1,r1,q1⟩=>⟨σ,H1,I1,q1⟩) I.quiet hs
def juo(te:TE):TS:=fun D σ H=>te σ H D.rt
def qae(he:PE X e te):PS X (.Return (some e) pos) (juo te):=by
 intro pins s σ H D I h;exact fP (thn (he pins s σ H _ I h) fun v s1 ⟨x,H1,I1,r1,q1⟩=>⟨x,σ,H1,I1,r1,q1⟩)
def jup(c:TT)(t u:TS):TS:=fun D σ H=>c σ H fun b H1=>if b=true then t D σ H1 else u D σ H1
def qb8{a b:List Stmt}{tc:TT}(hc:PT X c tc)(ha:PSs X a t)(hb:PSs X b u):PS X (.If c a b pos) (jup tc t u):=by
 intro pins s σ H D I h;refine wpAny_If (thn (hc pins s σ H _ I h) fun d s1 ⟨H1,I1,q1⟩=>?_)
 cases d with
 |true=>exact ha pins s1 σ H1 D I1 q1
 |false=>exact hb pins s1 σ H1 D I1 q1
end
abbrev TG:=V->St->Hp->(St->Hp->Prop)->Prop
abbrev TGs:=List V->St->Hp->(St->Hp->Prop)->Prop
def PG(X:Cx)(target:vV)(t:TG):Prop:=
 ∀(pins:List (Addr×Obj))(s:uC)(σ:St)(H:Hp)(v:V)(u:uB)(Q:St->Hp->Prop),Inv X pins σ H s->qb6 v u->t v σ H Q->
  uV (uX X.prog X.w) X.A (gL target X.env u) (fun _ s'=>∃σ' H',Inv X pins σ' H' s'/\Q σ' H') X.xe s
def PGs(X:Cx)(ts:List vV)(t:TGs):Prop:=
 ∀(pins:List (Addr×Obj))(s:uC)(σ:St)(H:Hp)(vs:List V)(us:List uB)(Q:St->Hp->Prop),Inv X pins σ H s->qbk vs us->t vs σ H Q->
  uV (uX X.prog X.w) X.A (eJ ((xX ts X.env).map (·.2)) us) (fun _ s'=>∃σ' H',Inv X pins σ' H' s'/\Q σ' H') X.xe s
section
variable{X:Cx}{pos:Pos}
def qek(i:Nat):TG:=fun v σ H Q=>Q (σ.set i (some v)) H
def qab(hN:X.N.Nodup)(hi:X.N[i]?=some x)(hx:Loc X.env.scope x)(hf:X.fn x=true\/X.env.scope.names.lookup x=some .local:=by first|exact .inl rfl|exact .inr rfl|assumption):PG X (.Name x pos) (qek i):=by
 intro pins s σ H v u Q I r h;exact fQ (qe7 I hN hi hx r (fun s' I'=>⟨_,H,I',h⟩) hf)
def juq:TGs:=fun vs σ H Q=>vs=[]/\Q σ H
def jpc(t:TG)(u:TGs):TGs:=fun vs σ H Q=>∃v r,vs=v::r/\t v σ H fun σ' H'=>u r σ' H' Q
def qcm:PGs X [] juq:=by
 intro pins s σ H vs us Q I r h;obtain⟨e,h⟩:=h;subst e
 cases r
 exact assignInOrder_nil ⟨σ,H,I,h⟩
def qai{e:vV}{es:List vV}{t:TG}{u:TGs}(h1:PG X e t)(h2:PGs X es u)
  (hs:(xX (e::es) X.env).map (·.2)=gL e X.env ::(xX es X.env).map (·.2):=by rfl):PGs X (e::es) (jpc t u):=by
 intro pins s σ H vs us Q I r h;obtain⟨v,vr,e1,h⟩:=h;subst e1
 cases r with
 |cons r rr=>
  rw[hs];refine eZ (thn (h1 pins s σ H _ _ _ I r h) fun _ s1 ⟨σ1,H1,I1,q1⟩=>?_);exact h2 pins s1 σ1 H1 _ _ Q I1 rr q1
def jur(K:uT)(n:Nat)(t:TGs):TG:=fun v σ H Q=>∃a xs,v=.ref a/\SqT K H a xs/\xs.length=n/\t xs σ H Q
def jk7{es:List vV}{k:Nat}{t:TGs}{n:Nat}(hc:X.calm=true)(h:PGs X es t)
  (hn:(xX es X.env).length=n:=by rfl)(hst:(xX es X.env).findIdx? (·.1)=none:=by rfl):PG X (.Tuple es k pos) (jur X.K n t):=by
 intro pins s σ H v u Q I r hw;obtain⟨a,xs,e1,hq,hl,hw⟩:=hw;subst e1
 cases r
 obtain⟨its,rv,ht,hz⟩:=I.tuple hq;refine assign_Tuple_tuple (I.ok.hd hc) ht (by simp[hn,<-hl,rv.length]) hst fun h' hx=>?_;have I1:Inv X pins σ H {s with heap:=h'}:=I.kept (t':=s.toks) fun b o e=>hx b o (vD (uO e)) e;exact h pins _ σ H xs _ Q I1 (by simpa using rv) hw
def jpd(te:TE)(g:TG):TS:=fun D σ H=>te σ H fun x H1=>g x σ H1 D.nx
def qed{tg:vV}{te:TE}{g:TG}(he:PE X e te)(hg:PG X tg g)(hs:swapsWithSole [tg] e pos.line X.env=pure false:=by rfl)(hw:swappedStores [tg] e X.env=pure none:=by rfl)
  (h1:(xX [tg] X.env).map (·.2)=[gL tg X.env]:=by rfl):PS X (.Assign [tg] e pos) (jpd te g):=by
 intro pins s σ H D I h;refine wpAny_Assign_stores (thn (he pins s σ H _ I h) fun v s1 ⟨x,H1,I1,r1,q1⟩=>?_) hs hw;rw[h1];exact thn (hg pins s1 σ H1 x v _ I1 r1 q1) fun _ s2 q=>q
def qad{te:TE}{pos':Pos}(hN:X.N.Nodup)(hi:X.N[i]?=some x)(hx:Loc X.env.scope x)(he:PE X e te)(hs:dZ e (some (.Name x pos')) pos.line X.env=pure false:=by rfl)(hf:X.fn x=true\/X.env.scope.names.lookup x=some .local:=by first|exact .inl rfl|exact .inr rfl|assumption):
  PS X (.Assign [.Name x pos'] e pos) (jpd te (qek i)):=by
 intro pins s σ H D I h;refine wpAny_Assign_Name (thn (he pins s σ H _ I h) fun v s1 ⟨y,H1,I1,r1,q1⟩=>?_) hs;exact qe7 I1 hN hi hx r1 (fun s2 I2=>⟨_,H1,I2,q1⟩) hf
def jus(i j:Nat)(ta:TA):TS:=fun D σ H=>ta σ H fun vs H1=>∃v w,vs=[v,w]/\D.nx ((σ.set i (some v)).set j (some w)) H1
def jpe{i j:Nat}{x y:Str}{a b:vV}{ta:TA}{px py pt:Pos}{kt k2 pt2}(hc:X.calm=true)(hN:X.N.Nodup)(hi:X.N[i]?=some x)(hj:X.N[j]?=some y)(hij:i≠j)
  (hx:X.env.scope.names.lookup x=some .local)(hy:X.env.scope.names.lookup y=some .local)(ha:PA X [a,b] ta)
  (hw:swappedStores [.Tuple [.Name x px,.Name y py] kt pt] (.Tuple [a,b] k2 pt2) X.env=pure (some [x,y]))
  (hs:swapsWithSole [.Tuple [.Name x px,.Name y py] kt pt] (.Tuple [a,b] k2 pt2) pos.line X.env=pure false:=by rfl):
  PS X (.Assign [.Tuple [.Name x px,.Name y py] kt pt] (.Tuple [a,b] k2 pt2) pos) (jus i j ta):=by
 intro pins s σ H D I h;rw[exec_Assign_arm];refine uE (xM ?_);rw[hs];refine uE (vC ?_);rw[gT ∅];refine uE (Tuple_ (thn (ha _ pins s σ H _ I h) fun us s1 ⟨vs,H1,I1,r1,q1⟩=>?_));obtain⟨v,w,e1,q1⟩:=q1;subst e1;obtain⟨u1,u2,rfl,rv,rw'⟩:∃u1 u2,us=[u1,u2]/\qb6 v u1/\qb6 w u2:=by
  cases r1 with
  |cons p q=>
   cases q with
   |cons p' q'=>
    cases q'
    exact⟨_,_,rfl,p,p'⟩
 refine fR ?_ (by show 2<=sizeLine;decide);have I2:Inv X pins σ H1 {s1 with heap:=s1.heap.push {cls:=.type "tuple",data:=.seq [u1,u2].toArray}}:=I1.kept (t':=s1.toks) fun b o e=>uD _ e;rw[hw];refine uE (vC ?_);show uV (uX X.prog X.w) X.A (do rule "assign.swapped-stores";let items<-unpackItems (.ref ↑s1) 2 none;eJ [fun v=>bindName X.env y v,fun v=>bindName X.env x v] items.reverse;pure Flow.next) _ _ _;refine uE (wpAny_rule (uE (unpackItems_tuple (items:=#[u1,u2]) (I.ok.hd hc) (IsTup.new s1.heap _) fun h' hx'=>?_)));have I3:=I2.kept (h':=h') (t':=s1.toks) fun b o e=>hx' b o (vD (uO e)) e;show uV _ _ (eJ [fun v=>bindName X.env y v,fun v=>bindName X.env x v] [u2,u1] >>= fun _=>pure Flow.next) _ _ _;refine uE (eZ (wpAny_bindName (qe7 I3 hN hj (.inl hy) rw' (fun s2 I4=>?_) (.inr hy))));refine eZ (wpAny_bindName (qe7 I4 hN hi (.inl hx) rv (fun s3 I5=>assignInOrder_nil (vC ?_)) (.inr hx)));rw[List.set_comm _ _ (xP hij)] at I5;exact⟨_,H1,I5,q1⟩
end
section
variable{X:Cx}{pos:Pos}
def jk8(c:TT)(tb:TS):TS:=fun D σ H=>∃W:Nat->St->Hp->Prop,(∃m,W m σ H)/\∀m σ H,W m σ H->
 c σ H fun b H1=>if b=true then ∃N:St->Hp->Prop,(∀σ' H',N σ' H'->∃m',m'<m/\W m' σ' H')/\tb {D with nx:=N,ct:=N,bk:=D.nx} σ H1 else D.nx σ H1
def qeb{body:List Stmt}{tc:TT}{tb:TS}(hp:PassesOwn (uX X.prog X.w) X.A X.env X.xe)(hc:PT X c tc)(hb:PSs X body tb):PS X (.While c body [] pos) (jk8 tc tb):=by
 intro pins s σ H D I h;obtain⟨W,⟨m0,w0⟩,turn⟩:=h;refine wpAny_While (codeAny_whileLoop (fun n s'=>∃σ' H',Inv X pins σ' H' s'/\W n σ' H') ?_ m0 ⟨σ,H,I,w0⟩);rintro n s1 ⟨σ1,H1,I1,w1⟩;refine xY hp (thn (hc pins s1 σ1 H1 _ I1 (turn n σ1 H1 w1)) fun b s2 ⟨H2,I2,q2⟩=>?_)
 cases b with
 |true=>
  obtain⟨N,hN,q2⟩:=q2;rw[gU rfl];refine xY hp (thn (hb pins s2 σ1 H2 _ I2 q2) fun f s3 q3=>?_)
  cases f with
  |next=>
   obtain⟨σ3,H3,I3,n3⟩:=q3;obtain⟨m',hm,w3⟩:=hN σ3 H3 n3;exact⟨m',hm,σ3,H3,I3,w3⟩
  |cont=>
   obtain⟨σ3,H3,I3,n3⟩:=q3;obtain⟨m',hm,w3⟩:=hN σ3 H3 n3;exact⟨m',hm,σ3,H3,I3,w3⟩
  |brk=>exact q3
  |ret v=>exact q3
 |false=>
  rw[gT uU];exact dE ⟨σ1,H2,I2,q2⟩
end
structure It where
 go:Nat->Hp->Prop
 yld:Nat->Hp->V->Hp->Prop
 stop:Nat->Hp->Prop
def jcl(X:Cx)(pins:List (Addr×Obj))(H:Hp)(b:Addr):Prop:=
 H b=none/\b≠X.env.locals/\b∉X.fs/\(b∈X.ex\/↑X.s₀<=b)/\(∀x c,X.env.cells.lookup x=some c->c≠b)/\∀p∈X.pn++pins,p.1≠b
def Inv.fpOk{H':Hp}(I:Inv X pins σ H s)(hb:↑s<=b)(hn:H' b=none):jcl X pins H' b:=by
 refine⟨hn,wZ (vB I.lt hb),I.nofs hb,.inr (vK I.sz hb),fun x c e z=>?_,fun p hp z=>?_⟩
 .obtain⟨v,q⟩:=I.cell x c e;exact absurd (vB q.lt (by rw[z];exact hb)) (wM _)
 .exact absurd (vB (uO (I.pin p hp).1) (by rw[z];exact hb)) (wM _)
structure jou(P:uW)(w:vL)(K:uT)(tg:vV)(J:It)(fp:List Addr)(it:Addr)(tn:Nat->vQ->Prop):Prop where
 mem:it∈fp
 obj:∀i h,tn i h->∀b∈fp,∃o,h.get? b=some o/\∀v,o.data≠ .cell v
 keep:∀i h h',tn i h->(∀b∈fp,∀o,h.get? b=some o->h'.get? b=some o)->tn i h'
 item:∀(X:Cx),X.prog=P->X.w=w->X.K=K->X.calm=true->∀(i:Nat)(pins:List (Addr×Obj))(s:uC)(σ:St)(H:Hp)(E:uB->uC->Prop),Inv X pins σ H s->(∀b∈fp,jcl X pins H b)->tn i s.heap->J.go i H->
  uV (uX P w) X.A (pyNext (.ref it)) (fun r s1=>∃u,r=some u/\
   uV (uX P w) X.A (letOwnedTupleGo tg (.ref it) u) (fun _ s2=>∃x H',Inv X pins σ H' s2/\qb6 x u/\J.yld i H x H'/\tn (i+1) s2.heap/\∀b∈fp,H' b=none) E s1) E s
 done:∀(X:Cx),X.prog=P->X.w=w->X.K=K->X.calm=true->∀(i:Nat)(pins:List (Addr×Obj))(s:uC)(σ:St)(H:Hp)(E:uB->uC->Prop),Inv X pins σ H s->(∀b∈fp,jcl X pins H b)->tn i s.heap->J.stop i H->
  uV (uX P w) X.A (pyNext (.ref it)) (fun r s1=>r=none/\Inv X pins σ H s1) E s
 self:∀(A:vR)(i:Nat)(s:uC)(Q:uB->uC->Prop)(E:uB->uC->Prop),tn i s.heap->Q (.ref it) s->uV (uX P w) A (pyIter (.ref it)) Q E s
abbrev TI:=St->Hp->(It->Hp->Prop)->Prop
def PIE(X:Cx)(pins:List (Addr×Obj))(σ:St)(tg:vV)(R:It->Hp->Prop)(itv:uB)(s2:uC):Prop:=
 ∃(it:Addr)(fp:List Addr)(tn:Nat->vQ->Prop)(J:It)(H':Hp),itv=.ref it/\Inv X pins σ H' s2/\jou X.prog X.w X.K tg J fp it tn/\tn 0 s2.heap/\(∀b∈fp,jcl X pins H' b)/\R J H'
def PI(X:Cx)(tg iter:vV)(wi:TI):Prop:=
 ∀(pins:List (Addr×Obj))(s:uC)(σ:St)(H:Hp)(R:It->Hp->Prop),Inv X pins σ H s->wi σ H R->
  uV (uX X.prog X.w) X.A (wK iter X.env) (fun v s1=>uV (uX X.prog X.w) X.A (pyIter v) (PIE X pins σ tg R) X.xe s1) X.xe s
def jmi{M:Model}{A:vR}{E:uB->uC->Prop}{s:uC}{tg:vV}{it:Addr}{u:uB}{o:Obj}{n:String}{vs:Array uB}{Q:Unit->uC->Prop}(ho:s.heap.get? it=some o)(hc:o.cls=.type n)(hd:o.data=.fields vs)
  (hn: ["enumerate","zip","dict_itemiterator","dict_reverseitemiterator","odict_iterator","itertools.zip_longest","itertools.pairwise"].contains n=false)(hQ:Q () s):uV M A (letOwnedTupleGo tg (.ref it) u) Q E s:=by
 unfold letOwnedTupleGo
 cases tg<;>first
  |exact vC hQ
  |(cases u<;>first
    |exact vC hQ
    |(refine uE (wpAny_load ho ?_)
      rw[hc,hd];show uV M A (if(["enumerate","zip","dict_itemiterator","dict_reverseitemiterator","odict_iterator","itertools.zip_longest","itertools.pairwise"].contains n && vs[0]?==some (xN _))=true then _ else _) Q E s;rw[gT (by intro h;rw[hn,Bool.false_and] at h;cases h)];exact vC hQ))
def Itl(K:uT)(a:Addr):It:=
 ⟨fun i H=>∃xs x,SqL K H a xs/\xs[i]?=some x,fun i H x H'=>H'=H/\∀xs,SqL K H a xs->xs[i]?=some x,fun i H=>∃xs,SqL K H a xs/\xs.length<=i⟩
def Itr(lo:Int)(n:Nat):It:=⟨fun i _=>i<n,fun i H x H'=>H'=H/\x=.int (lo+i),fun i _=>n<=i⟩
def jgj{P:uW}{w:vL}{K:uT}{tg:vV}(a it:Addr):jou P w K tg (Itl K a) [it] it (fun i h=>h.IsListIter it a i) where
 mem:=by simp
 obj:=fun i h st b hb=>by
  have e:b=it:=by simpa using hb
  subst e;obtain⟨o,e,c,d⟩:=st;exact⟨o,e,fun v z=>by rw[d] at z;cases z⟩
 keep:=fun i h h' st k=>st.at fun o e=>k it (by simp) o e
 item:=by
  intro X hP hw hK hc i pins s σ H E I hf st hg;subst hP hw hK;obtain⟨xs,x,hq,hx⟩:=hg;obtain⟨its,rv,p,hz⟩:=I.list hq;obtain⟨u,hu,ru⟩:=rv.get hx;obtain⟨f0,f1,f2,f3,f4,f5⟩:=hf it (by simp);refine wpAny_pyNext_list_item st p.isList (x:=u) (by simpa using hu) fun h' st' sb=>?_;have I1:Inv X pins σ H {s with heap:=h'}:=I.turned (t':=s.toks) (fun b o hb e=>(sb.2 b hb).trans e) f0 f1 f3 f4 f5;obtain⟨o,e,c,d⟩:=id st';exact⟨u,rfl,jmi (s:={s with heap:=h'}) e c d ∅ ⟨x,H,I1,ru,⟨rfl,fun ys hy=>by rw[I.list_inj hy hq];exact hx⟩,st',fun b hb=>(hf b hb).1⟩⟩
 done:=by
  intro X hP hw hK hc i pins s σ H E I hf st hg;subst hP hw hK;obtain⟨xs,hq,hx⟩:=hg;obtain⟨its,rv,p,hz⟩:=I.list hq;obtain⟨f0,f1,f2,f3,f4,f5⟩:=hf it (by simp);have hl:=rv.length;exact wpAny_pyNext_list_end (I.ok.hd hc) st p.isList (by simp;omega) fun h' eb=>⟨rfl,I.turned (t':=s.toks) (fun b o hb e=>eb b o hb e) f0 f1 f3 f4 f5⟩
 self:=fun _ _ _ _ _ st h=>wpAny_pyIter_listiter st h
def jf0{P:uW}{w:vL}{K:uT}{tg:vV}(it:Addr)(lo:Int)(n:Nat):jou P w K tg (Itr lo n) [it] it (fun i h=>IsRangeIter h it (lo+(i:Nat)*1) ((n:Int)-(i:Nat)) 1) where
 mem:=by simp
 obj:=fun i h st b hb=>by
  have e:b=it:=by simpa using hb
  subst e;exact⟨_,st,fun v z=>by
   have z':Data.fields _=Data.cell v:=z
   cases z'⟩
 keep:=fun i h h' st k=>k it (by simp) _ st
 item:=by
  intro X hP hw hK hc i pins s σ H E I hf st hg;subst hP hw hK;obtain⟨f0,f1,f2,f3,f4,f5⟩:=hf it (by simp);have W:=Walks.range (prog:=X.prog) (w:=X.w) (I.ok.hd hc) it lo 1 n;refine W.item i s _ _ hg st fun v h' tk hv st' kk=>?_;obtain⟨t,rfl⟩:=hv;have I1:Inv X pins σ H {s with heap:=h',toks:=tk}:=I.turned (fun b o hb e=>kk b o (by simpa using hb) e) f0 f1 f3 f4 f5;refine⟨_,rfl,jmi (s:={s with heap:=h',toks:=tk}) (n:="range_iterator") st' rfl rfl ∅ ⟨.int (lo+i),H,I1,⟨t,?_⟩,⟨rfl,rfl⟩,st',fun b hb=>(hf b hb).1⟩⟩;rw[Int.mul_one]
 done:=by
  intro X hP hw hK hc i pins s σ H E I hf st hg;subst hP hw hK;obtain⟨f0,f1,f2,f3,f4,f5⟩:=hf it (by simp);exact wpAny_pyNext_range_end (I.ok.hd hc) st (by have:n<=i:=hg;omega) fun h' eb=>⟨rfl,I.turned (t':=s.toks) (fun b o hb e=>eb b o hb e) f0 f1 f3 f4 f5⟩
 self:=fun _ _ _ _ _ st h=>wpAny_pyIter_rangeiter st h
section
variable{X:Cx}{tg:vV}
def jpf(K:uT)(tl:TE):TI:=fun σ H R=>tl σ H fun x H1=>∃a,x=.ref a/\(∃xs,SqL K H1 a xs)/\R (Itl K a) H1
def qb0{l:vV}{tl:TE}(hl:PE X l tl):PI X tg l (jpf X.K tl):=by
 intro pins s σ H R I h;refine thn (hl pins s σ H _ I h) fun v s1 ⟨x,H1,I1,r1,q1⟩=>?_;obtain⟨a,e,⟨xs,hq⟩,q⟩:=q1;subst e
 cases r1
 obtain⟨its,rv,p,hz⟩:=I1.list hq;refine cG p.isList ?_;refine⟨↑s1,[↑s1],_,_,H1,rfl,I1.kept (t':=s1.toks) fun b o e=>uD _ e,jgj a _,⟨_,vE _ rfl,rfl,rfl⟩,fun b hb=>?_,q⟩;have e:b=↑s1:=by simpa using hb
 subst e;exact I1.fpOk (uG _) (I1.hok.fresh (uG _))
def je2{pins:List (Addr×Obj)}{σ:St}{H:Hp}{s:uC}{R:It->Hp->Prop}{E:uB->uC->Prop}{lo hi:Int}{t u v:Tok}{tk:Nat}(I:Inv X pins σ H s)(h1: -(2^62)<=lo)(h2:lo<2^62)(h3: -(2^62)<=hi)(h4:hi<2^62)
  (q:R (Itr lo (hi-lo).toNat) H):uV (uX X.prog X.w) X.A (pyIter (.ref ↑s)) (PIE X pins σ tg R) E {s with heap:=s.heap.push {cls:=.type "range",data:=.fields #[.int lo t,.int hi u,.int 1 v]},toks:=tk}:=by
 refine wpAny_pyIter_range (IsRange.new ..) (small_one h1 h2 h3 h4) ?_;have I1:Inv X pins σ H {s with heap:=s.heap.push {cls:=.type "range",data:=.fields #[.int lo t,.int hi u,.int 1 v]},toks:=tk}:=I.kept fun b o e=>uD _ e;refine⟨(s.heap.push {cls:=.type "range",data:=.fields #[.int lo t,.int hi u,.int 1 v]}).objs.size,[(s.heap.push {cls:=.type "range",data:=.fields #[.int lo t,.int hi u,.int 1 v]}).objs.size],_,_,H,rfl,
  I1.kept (t':=tk) fun b o e=>uD _ e,jf0 _ lo (hi-lo).toNat,?_,fun b hb=>?_,q⟩
 .have e1:lo+((0:Nat):Int)*1=lo:=by simp
  have e2:(((hi-lo).toNat:Nat):Int)-((0:Nat):Int)=Builtin.Range.rangeSize lo hi 1:=by rw[rangeSize_one];split<;>omega
  show IsRangeIter _ _ (lo+((0:Nat):Int)*1) ((((hi-lo).toNat:Nat):Int)-((0:Nat):Int)) 1;rw[e1,e2];exact vE _ rfl
 .have e:b=(s.heap.push {cls:=.type "range",data:=.fields #[.int lo t,.int hi u,.int 1 v]}).objs.size:=by simpa using hb
  subst e;exact I1.fpOk (uG _) (I1.hok.fresh (uG _))
def jpg(ta:TA):TI:=fun σ H R=>ta σ H fun vs H1=>∃j:Int,vs=[.int j]/\-(2^62)<=j/\j<2^62/\R (Itr 0 j.toNat) H1
def jmj(ta:TA):TI:=fun σ H R=>ta σ H fun vs H1=>∃i j:Int,vs=[.int i,.int j]/\(-(2^62)<=i/\i<2^62/\-(2^62)<=j/\j<2^62)/\R (Itr i (j-i).toNat) H1
def qd0{a:vV}{ta:TA}{p:Pos}(hg:Gl X "range")(hm:X.mg "range"=none)(ha:PA X [a] ta)(hs:uZ [a] X.env=[(false,wK a X.env)]:=by rfl):PI X tg (.Call (.Name "range" p) [a] [] pos) (jpg ta):=by
 intro pins s σ H R I h;refine Call_ (qg9 I hg hm boot_range (yV (thn (ha pos pins s σ H _ I h) fun us s1 ⟨vs,H1,I1,r1,q1⟩=>?_) hs rfl));obtain⟨j,e,q1,q2,q⟩:=q1;subst e
 cases r1 with
 |cons r rr=>
  cases rr
  obtain⟨t,rfl⟩:=r;exact call_range_1 (je2 I1 ↑∅ ↑∅ q1 q2 (by simpa using q))
def jco{a b:vV}{ta:TA}{p:Pos}(hg:Gl X "range")(hm:X.mg "range"=none)(ha:PA X [a,b] ta)(hs:uZ [a,b] X.env=[(false,wK a X.env),(false,wK b X.env)]:=by rfl)(hs2:uZ [b] X.env=[(false,wK b X.env)]:=by rfl):
  PI X tg (.Call (.Name "range" p) [a,b] [] pos) (jmj ta):=by
 intro pins s σ H R I h;refine Call_ (qg9 I hg hm boot_range (yV (thn (ha pos pins s σ H _ I h) fun us s1 ⟨vs,H1,I1,r1,q1⟩=>?_) (by rw[hs,hs2]) (by rw[hs2];rfl)));obtain⟨i,j,e,⟨q1,q2,q3,q4⟩,q⟩:=q1;subst e
 cases r1 with
 |cons r rr=>
  cases rr with
  |cons r' rr=>
   cases rr
   obtain⟨t,rfl⟩:=r;obtain⟨t',rfl⟩:=r';exact call_range_2 (je2 I1 q1 q2 q3 q4 q)
def jut(wi:TI)(g:TG)(tb:TS):TS:=fun D σ H=>wi σ H fun J H1=>∃W:Nat->Nat->St->Hp->Prop,(∃m,W 0 m σ H1)/\∀i m σ H,W i m σ H->
 (J.stop i H/\D.nx σ H)\/(J.go i H/\∃N:St->Hp->Prop,(∀σ' H',N σ' H'->∃m',m'<m/\W (i+1) m' σ' H')/\∀x H',J.yld i H x H'->g x σ H' fun σ2 H2=>tb {D with nx:=N,ct:=N,bk:=D.nx} σ2 H2)
def qee(fp:List Addr)(h:vQ):List (Addr×Obj):=fp.filterMap fun b=>(h.get? b).map fun o=>(b,o)
def qdn{o:Obj}(hb:b∈fp)(e:h.get? b=some o):(b,o)∈qee fp h:=List.mem_filterMap.mpr ⟨b,hb,by rw[e];rfl⟩
def jgk{p:Addr×Obj}(hp:p∈qee fp h):p.1∈fp/\h.get? p.1=some p.2:=by
 obtain⟨b,hb,e⟩:=List.mem_filterMap.mp hp
 cases q:h.get? b with
 |none=>rw[q] at e;cases e
 |some o=>
  rw[q] at e;have e':(b,o)=p:=uN e;subst e';exact⟨hb,q⟩
def Inv.pinned(I:Inv X pins σ H s)(hf:∀b∈fp,jcl X pins H b)(ho:∀b∈fp,∃o,s.heap.get? b=some o/\∀v,o.data≠ .cell v):Inv X (pins++qee fp s.heap) σ H s:=
 I.pins_of fun p hp=>(zM.mp hp).elim (fun z=>I.pin p (zI _ z)) fun z=>by
  obtain⟨hb,e⟩:=jgk z;obtain⟨f0,f1,f2,_⟩:=hf p.1 hb;obtain⟨o,e',d⟩:=ho p.1 hb;rw[e] at e';cases e';exact⟨e,f0,f1,f2,d⟩
def Inv.unpinned{pl:List (Addr×Obj)}(I:Inv X (pins++pl) σ H s):Inv X pins σ H s:=I.pins_of fun p hp=>I.pin p (zI _ (zP _ hp))
def qb2{iter:vV}{body:List Stmt}{wi:TI}{g:TG}{tb:TS}{pos:Pos}(hp:PassesOwn (uX X.prog X.w) X.A X.env X.xe)(hc:X.calm=true)(hi:PI X tg iter wi)(hg:PG X tg g)(hb:PSs X body tb)
  (hs:∀x,cH iter X.env x=pure x:=by intro _;rfl):PS X (.For tg iter body [] pos) (jut wi g tb):=by
 intro pins s σ H D I h;refine wpAny_For (thn (hi pins s σ H _ I h) fun v s1 h1=>thn h1 fun itv s2 h2=>?_) hs;obtain⟨it,fp,tn,J,H2,e,I2,T,st2,f2,W,⟨m0,w0⟩,turn⟩:=h2;subst e;have stat:∀{H':Hp},(∀b∈fp,H' b=none)->∀b∈fp,jcl X pins H' b:=fun hn b hb=>⟨hn b hb,(f2 b hb).2⟩;refine codeAny_forLoop_any (fun n s'=>∃i σ' H',Inv X pins σ' H' s'/\tn i s'.heap/\(∀b∈fp,H' b=none)/\W i n σ' H') ?_ m0 ⟨0,σ,H2,I2,st2,fun b hb=>(f2 b hb).1,w0⟩;rintro n s3 ⟨i,σ3,H3,I3,st3,fr3,w3⟩;rcases turn i n σ3 H3 w3 with⟨stop,qn⟩|⟨go,N,hN,step⟩
 .refine xY hp (thn (T.done X rfl rfl rfl hc i pins s3 σ3 H3 X.xe I3 (stat fr3) st3 stop) fun r s4 ⟨hr,I4⟩=>?_);subst hr;exact dE ⟨σ3,H3,I4,qn⟩
 .refine xY hp (thn (T.item X rfl rfl rfl hc i pins s3 σ3 H3 X.xe I3 (stat fr3) st3 go) fun r s4 ⟨u,hr,h4⟩=>?_);subst hr;refine xY hp (thn h4 fun _ s5 ⟨x,H5,I5,r5,y5,st5,fr5⟩=>?_);have I5':=I5.pinned (stat fr5) (T.obj _ _ st5);refine xY hp (thn (hg _ s5 σ3 H5 x u _ I5' r5 (step x H5 y5)) fun _ s6 ⟨σ6,H6,I6,q6⟩=>?_);refine xY hp (thn (hb _ s6 σ6 H6 _ I6 q6) fun f s7 q7=>?_);have again:∀{σ7:St} {H7:Hp},Inv X (pins++qee fp s5.heap) σ7 H7 s7->N σ7 H7->∃m,m<n/\∃i σ' H',Inv X pins σ' H' s7/\tn i s7.heap/\(∀b∈fp,H' b=none)/\W i m σ' H':=fun {σ7 H7} I7 n7=>by
   obtain⟨m',hm,w7⟩:=hN σ7 H7 n7;refine⟨m',hm,i+1,σ7,H7,I7.unpinned,T.keep _ _ _ st5 fun b hb o e=>(I7.pin (b,o) (zI _ (zI _ (qdn hb e)))).1,fun b hb=>?_,w7⟩;obtain⟨o,e,d⟩:=T.obj _ _ st5 b hb;exact(I7.pin (b,o) (zI _ (zI _ (qdn hb e)))).2.1
  cases f with
  |next=>obtain⟨σ7,H7,I7,n7⟩:=q7;exact again I7 n7
  |cont=>obtain⟨σ7,H7,I7,n7⟩:=q7;exact again I7 n7
  |brk=>obtain⟨σ7,H7,I7,q7⟩:=q7;exact⟨σ7,H7,I7.unpinned,q7⟩
  |ret v=>obtain⟨x7,σ7,H7,I7,r7,q7⟩:=q7;exact⟨x7,σ7,H7,I7.unpinned,r7,q7⟩
end
def jjn{K:uT}{a:Addr}{xs:List V}{g:TG}{tb:TS}{D:jca}{σ:St}{H:Hp}(Pv:Nat->St->Hp->Prop)(h0:Pv 0 σ H)(hl:∀i σ H,i<=xs.length->Pv i σ H->SqL K H a xs)
  (hs:∀i x σ H,xs[i]?=some x->Pv i σ H->g x σ H fun σ2 H2=>tb {D with nx:=Pv (i+1),ct:=Pv (i+1),bk:=D.nx} σ2 H2)(hd:∀σ H,Pv xs.length σ H->D.nx σ H):
  ∃W:Nat->Nat->St->Hp->Prop,(∃m,W 0 m σ H)/\∀i m σ H,W i m σ H->
   ((Itl K a).stop i H/\D.nx σ H)\/((Itl K a).go i H/\∃N:St->Hp->Prop,(∀σ' H',N σ' H'->∃m',m'<m/\W (i+1) m' σ' H')/\∀x H',(Itl K a).yld i H x H'->g x σ H' fun σ2 H2=>tb {D with nx:=N,ct:=N,bk:=D.nx} σ2 H2):=by
 refine⟨fun i m σ H=>m=xs.length-i/\i<=xs.length/\Pv i σ H,⟨xs.length,by simp,wO _,h0⟩,?_⟩;rintro i m σ H ⟨rfl,hi,p⟩;have q:=hl i σ H hi p;by_cases hlt:i<xs.length
 .refine .inr ⟨⟨xs,xs[i],q,by simp[hlt]⟩,Pv (i+1),fun σ' H' p'=>⟨xs.length-(i+1),↑∅,rfl,hlt,p'⟩,fun x H' y=>?_⟩;obtain⟨e,y⟩:=y;subst e;exact hs i x σ _ (y xs q) p
 .have e:i=xs.length:=by omega
  subst e;exact .inl ⟨⟨xs,q,uG _⟩,hd σ H p⟩
def jgl{lo:Int}{n:Nat}{g:TG}{tb:TS}{D:jca}{σ:St}{H:Hp}(Pv:Nat->St->Hp->Prop)(h0:Pv 0 σ H)
  (hs:∀i σ H,i<n->Pv i σ H->g (.int (lo+i)) σ H fun σ2 H2=>tb {D with nx:=Pv (i+1),ct:=Pv (i+1),bk:=D.nx} σ2 H2)(hd:∀σ H,Pv n σ H->D.nx σ H):
  ∃W:Nat->Nat->St->Hp->Prop,(∃m,W 0 m σ H)/\∀i m σ H,W i m σ H->
   ((Itr lo n).stop i H/\D.nx σ H)\/((Itr lo n).go i H/\∃N:St->Hp->Prop,(∀σ' H',N σ' H'->∃m',m'<m/\W (i+1) m' σ' H')/\∀x H',(Itr lo n).yld i H x H'->g x σ H' fun σ2 H2=>tb {D with nx:=N,ct:=N,bk:=D.nx} σ2 H2):=by
 refine⟨fun i m σ H=>m=n-i/\i<=n/\Pv i σ H,⟨n,by simp,wO _,h0⟩,?_⟩;rintro i m σ H ⟨rfl,hi,p⟩;by_cases hlt:i<n
 .refine .inr ⟨hlt,Pv (i+1),fun σ' H' p'=>⟨n-(i+1),↑∅,rfl,hlt,p'⟩,fun x H' y=>?_⟩;obtain⟨e,y⟩:=y;subst e y;exact hs i σ _ hlt p
 .have e:i=n:=by omega
  subst e;exact .inl ⟨uG _,hd σ H p⟩
def qe5{c:TT}{tb:TS}{D:jca}{σ:St}{H:Hp}(Pv:St->Hp->Prop)(μ:St->Hp->Nat)(h0:Pv σ H)
  (hs:∀σ H,Pv σ H->c σ H fun b H1=>if b=true then tb {D with nx:=fun σ' H'=>Pv σ' H'/\μ σ' H'<μ σ H,ct:=fun σ' H'=>Pv σ' H'/\μ σ' H'<μ σ H,bk:=D.nx} σ H1 else D.nx σ H1)
  (mono:∀σ H Q Q',(∀b H1,Q b H1->Q' b H1)->c σ H Q->c σ H Q'):jk8 c tb D σ H:=by
 refine⟨fun m σ H=>m=μ σ H/\Pv σ H,⟨_,rfl,h0⟩,?_⟩;rintro m σ H ⟨rfl,p⟩;refine mono σ H _ _ (fun b H1 q=>?_) (hs σ H p)
 cases b with
 |true=>exact⟨_,fun σ' H' ⟨p',l⟩=>⟨_,l,rfl,p'⟩,q⟩
 |false=>exact q
abbrev R2:=V->V->Hp->VK->Prop
def OpR(X:Cx)(f:uB->uB->Sem uB)(r:R2):Prop:=
 ∀(pins:List (Addr×Obj))(s:uC)(σ:St)(H:Hp)(x y:V)(v u:uB)(Q:VK),Inv X pins σ H s->qb6 x v->qb6 y u->r x y H Q->
  uV (uX X.prog X.w) X.A (f v u) (EP X pins σ Q) X.xe s
def UnR(X:Cx)(f:uB->Sem uB)(r:V->Hp->VK->Prop):Prop:=
 ∀(pins:List (Addr×Obj))(s:uC)(σ:St)(H:Hp)(x:V)(v:uB)(Q:VK),Inv X pins σ H s->qb6 x v->r x H Q->
  uV (uX X.prog X.w) X.A (f v) (EP X pins σ Q) X.xe s
def qcr(X:Cx)(f:uB)(r:List V->Hp->VK->Prop):Prop:=
 ∀(pins:List (Addr×Obj))(s:uC)(σ:St)(H:Hp)(xs:List V)(us:List uB)(Q:VK),Inv X pins σ H s->qbk xs us->r xs H Q->
  uV (uX X.prog X.w) X.A (call f us) (EP X pins σ Q) X.xe s
def tOp(r:R2)(ta tb:TE):TE:=fun σ H Q=>ta σ H fun x H1=>tb σ H1 fun y H2=>r x y H2 Q
def tUn(r:V->Hp->VK->Prop)(ta:TE):TE:=fun σ H Q=>ta σ H fun x H1=>r x H1 Q
def rI(C:Int->Int->Prop)(g:Int->Int->V):R2:=fun x y H Q=>∃i j,x=.int i/\y=.int j/\C i j/\Q (g i j) H
def rI0(g:Int->Int->V):R2:=fun x y H Q=>∃i j,x=.int i/\y=.int j/\Q (g i j) H
def rU(g:Int->V):V->Hp->VK->Prop:=fun x H Q=>∃i,x=.int i/\Q (g i) H
section
variable{X:Cx}{a b:vV}{ta tb:TE}{pos:Pos}
def jso(ha:PE X a ta)(hb:PE X b tb){pins:List (Addr×Obj)}{s:uC}{σ:St}{H:Hp}{R:V->V->Hp->Prop}(I:Inv X pins σ H s)
  (h:ta σ H fun x H1=>tb σ H1 fun y H2=>R x y H2){Q:uB->uC->Prop}{f:uB->uB->Sem uB}
  (hf:∀v u s2 x y H2,Inv X pins σ H2 s2->qb6 x v->qb6 y u->R x y H2->uV (uX X.prog X.w) X.A (f v u) Q X.xe s2):
  uV (uX X.prog X.w) X.A (wK a X.env) (fun v s₁=>uV (uX X.prog X.w) X.A (wK b X.env) (fun u s₂=>uV (uX X.prog X.w) X.A (f v u) Q X.xe s₂) X.xe s₁) X.xe s:=by
 refine thn (ha pins s σ H _ I h) fun v s1 ⟨x,H1,I1,r1,q1⟩=>?_;refine thn (hb pins s1 σ H1 _ I1 q1) fun u s2 ⟨y,H2,I2,r2,q2⟩=>?_;exact hf v u s2 x y H2 I2 r1 r2 q2
def qah{op:Operator}(ho:OpR X (aA op) r)(ha:PE X a ta)(hb:PE X b tb):PE X (.BinOp a op b pos) (tOp r ta tb):=by
 intro pins s σ H Q I h;exact wpAny_BinOp (jso ha hb I h fun v u s2 x y H2 I2 rx ry q=>ho pins s2 σ H2 x y v u Q I2 rx ry q)
def jph{op:UnaryOp}{r:V->Hp->VK->Prop}(ho:UnR X (unaryOp op) r)(ha:PE X a ta):PE X (.UnaryOp op a pos) (tUn r ta):=by
 intro pins s σ H Q I h;exact UnaryOp_ (thn (ha pins s σ H _ I h) fun v s1 ⟨x,H1,I1,r1,q1⟩=>ho pins s1 σ H1 x v Q I1 r1 q1)
def opI{f:uB->uB->Sem uB}{C:Int->Int->Prop}{g:Int->Int->Int}
  (rule:∀(i j:Int)(t u:Tok)(s:uC)(Q:uB->uC->Prop)(E:uB->uC->Prop),C i j->Q (.int (g i j) s.toks) {s with toks:=s.toks+1}->uV (uX X.prog X.w) X.A (f (.int i t) (.int j u)) Q E s):
  OpR X f (rI C fun i j=> .int (g i j)):=by
 intro pins s σ H x y v u Q I rx ry h;obtain⟨i,j,rfl,rfl,hc,q⟩:=h;obtain⟨t,rfl⟩:=rx;obtain⟨t',rfl⟩:=ry;exact rule i j t t' s _ _ hc ⟨.int (g i j),H,I.tok _,⟨_,rfl⟩,q⟩
def juu{f:uB->uB->Sem uB}{g:Int->Int->Int}
  (rule:∀(i j:Int)(t u:Tok)(s:uC)(Q:uB->uC->Prop)(E:uB->uC->Prop),Q (.int (g i j) s.toks) {s with toks:=s.toks+1}->uV (uX X.prog X.w) X.A (f (.int i t) (.int j u)) Q E s):
  OpR X f (rI0 fun i j=> .int (g i j)):=by
 intro pins s σ H x y v u Q I rx ry h;obtain⟨i,j,rfl,rfl,q⟩:=h;obtain⟨t,rfl⟩:=rx;obtain⟨t',rfl⟩:=ry;exact rule i j t t' s _ _ ⟨.int (g i j),H,I.tok _,⟨_,rfl⟩,q⟩
def jsd{f:uB->uB->Sem uB}{g:Int->Int->Bool}
  (rule:∀(i j:Int)(t u:Tok)(s:uC)(Q:uB->uC->Prop)(E:uB->uC->Prop),Q (.bool (g i j)) s->uV (uX X.prog X.w) X.A (f (.int i t) (.int j u)) Q E s):
  OpR X f (rI0 fun i j=> .bl (g i j)):=by
 intro pins s σ H x y v u Q I rx ry h;obtain⟨i,j,rfl,rfl,q⟩:=h;obtain⟨t,rfl⟩:=rx;obtain⟨t',rfl⟩:=ry;exact rule i j t t' s _ _ ⟨.bl (g i j),H,I,rfl,q⟩
def jvr(i j:Int):Prop:=0<=j/\j<=1000000/\i.natAbs<2^64
def qbr:OpR X (aA .Add) (rI0 fun i j=> .int (i+j)):=juu fun _ _ _ _ _ _ _ q=>add_int q
def je3:OpR X (aA .Sub) (rI0 fun i j=> .int (i-j)):=juu fun _ _ _ _ _ _ _ q=>sub_int q
def qbe:OpR X (aA .Mod) (rI (fun _ j=>0<j) fun i j=> .int (i%j)):=opI fun i j _ _ _ _ _ hc q=>by
 have h1:(0:Int)<j:=hc;exact mod_int' ↑∅ (by rw[Int.fmod_eq_emod_of_nonneg i ↑∅];exact q)
def je4:OpR X (aA .Pow) (rI jvr fun i j=> .int (i^j.toNat)):=opI fun _ _ _ _ _ _ _ hc q=>pow_int_small hc.1 hc.2.1 hc.2.2 q
def unI{f:uB->Sem uB}{g:Int->Int}
  (rule:∀(i:Int)(t:Tok)(s:uC)(Q:uB->uC->Prop)(E:uB->uC->Prop),Q (.int (g i) s.toks) {s with toks:=s.toks+1}->uV (uX X.prog X.w) X.A (f (.int i t)) Q E s):
  UnR X f (rU fun i=> .int (g i)):=by
 intro pins s σ H x v Q I rx h;obtain⟨i,rfl,q⟩:=h;obtain⟨t,rfl⟩:=rx;exact rule i t s _ _ ⟨.int (g i),H,I.tok _,⟨_,rfl⟩,q⟩
def jk9:UnR X (unaryOp .USub) (rU fun i=> .int (-i)):=unI fun _ _ _ _ _ q=>neg_int q
end
def scal:V->V->Bool
 | .non,.non=>true| .non,.int _=>true| .int _,.non=>true| .non,.bl _=>true| .bl _,.non=>true| .non,.str _=>true| .str _,.non=>true
 | .int _,.int _=>true| .bl _,.bl _=>true| .str _,.str _=>true| .byt _,.byt _=>true
 | .int _,.str _=>true| .str _,.int _=>true| .bl _,.str _=>true| .str _,.bl _=>true
 |_,_=>false
def rEq:R2:=fun x y H Q=>scal x y=true/\Q (.bl (decide (x=y))) H
def rNe:R2:=fun x y H Q=>scal x y=true/\Q (.bl (!decide (x=y))) H
def jgm{i j:Int} :decide (V.int i=V.int j)=(i==j):=by
 rw[xJ];simp
def jla{i j:Bool} :decide (V.bl i=V.bl j)=(i==j):=by
 rw[xJ];simp
def jgn{i j:Str} :decide (V.str i=V.str j)=(i==j):=by
 rw[xJ];simp
def jgo{i j:Array UInt8} :decide (V.byt i=V.byt j)=(i.toList==j.toList):=by
 rw[xJ]
 cases i
 cases j
 simp
section
variable{X:Cx}{a b c:vV}{ta tb tc:TE}{pos:Pos}
def qb7{Q:VK}{k k':Bool}(I:Inv X pins σ H s)(q:Q (.bl k) H)(e:k=k'):EP X pins σ Q (.bool k') s:=by
 subst e;exact⟨.bl k,H,I,rfl,q⟩
def qey:OpR X (wD .Eq) rEq:=by
 intro pins s σ H x y v u Q I rx ry h;obtain⟨hs,q⟩:=h
 cases x with
 |non=>
  cases rx
  cases y with
  |non=>cases ry;exact PySem.EqNone.eq_none_none (qb7 I q (by simp))
  |bl j=>cases ry;exact PySem.EqNone.eq_none_bool (qb7 I q (by simp))
  |int j=>obtain⟨t',rfl⟩:=ry;exact PySem.EqNone.eq_none_int (qb7 I q (by simp))
  |str j=>obtain⟨t',rfl⟩:=ry;exact PySem.EqNone.eq_none_str (qb7 I q (by simp))
  |_=>exact absurd (show false=true from hs) uU
 |bl i=>
  cases rx
  cases y with
  |non=>cases ry;exact PySem.EqNone.eq_bool_none (qb7 I q (by simp))
  |bl j=>cases ry;exact eq_bool (qb7 I q jla)
  |str j=>obtain⟨t',rfl⟩:=ry;exact PySem.EqMixed.eq_bool_str (qb7 I q (by simp))
  |_=>exact absurd (show false=true from hs) uU
 |int i=>
  obtain⟨t,rfl⟩:=rx
  cases y with
  |non=>cases ry;exact PySem.EqNone.eq_int_none (qb7 I q (by simp))
  |int j=>obtain⟨t',rfl⟩:=ry;exact eq_int (qb7 I q jgm)
  |str j=>obtain⟨t',rfl⟩:=ry;exact PySem.EqMixed.eq_int_str (qb7 I q (by simp))
  |_=>exact absurd (show false=true from hs) uU
 |str i=>
  obtain⟨t,rfl⟩:=rx
  cases y with
  |non=>cases ry;exact PySem.EqNone.eq_str_none (qb7 I q (by simp))
  |bl j=>cases ry;exact PySem.EqMixed.eq_str_bool (qb7 I q (by simp))
  |int j=>obtain⟨t',rfl⟩:=ry;exact PySem.EqMixed.eq_str_int (qb7 I q (by simp))
  |str j=>obtain⟨t',rfl⟩:=ry;exact eq_str (qb7 I q jgn)
  |_=>exact absurd (show false=true from hs) uU
 |byt i=>
  obtain⟨t,rfl⟩:=rx
  cases y with
  |byt j=>obtain⟨t',rfl⟩:=ry;exact PySem.W.eq_bytes (qb7 I q jgo)
  |_=>exact absurd (show false=true from hs) uU
 |_=>cases y<;>exact absurd (show false=true from hs) uU
def jdt:OpR X (wD .NotEq) rNe:=by
 intro pins s σ H x y v u Q I rx ry h;obtain⟨hs,q⟩:=h
 cases x with
 |non=>
  cases rx
  cases y with
  |non=>cases ry;exact PySem.EqNone.ne_none_none (qb7 I q (by simp))
  |bl j=>cases ry;exact PySem.EqNone.ne_none_bool (qb7 I q (by simp))
  |int j=>obtain⟨t',rfl⟩:=ry;exact PySem.EqNone.ne_none_int (qb7 I q (by simp))
  |str j=>obtain⟨t',rfl⟩:=ry;exact PySem.EqNone.ne_none_str (qb7 I q (by simp))
  |_=>exact absurd (show false=true from hs) uU
 |bl i=>
  cases rx
  cases y with
  |non=>cases ry;exact PySem.EqNone.ne_bool_none (qb7 I q (by simp))
  |bl j=>cases ry;exact ne_bool (qb7 I q (congrArg not jla))
  |str j=>obtain⟨t',rfl⟩:=ry;exact PySem.EqMixed.ne_bool_str (qb7 I q (by simp))
  |_=>exact absurd (show false=true from hs) uU
 |int i=>
  obtain⟨t,rfl⟩:=rx
  cases y with
  |non=>cases ry;exact PySem.EqNone.ne_int_none (qb7 I q (by simp))
  |int j=>obtain⟨t',rfl⟩:=ry;exact ne_int (qb7 I q (congrArg not jgm))
  |str j=>obtain⟨t',rfl⟩:=ry;exact PySem.EqMixed.ne_int_str (qb7 I q (by simp))
  |_=>exact absurd (show false=true from hs) uU
 |str i=>
  obtain⟨t,rfl⟩:=rx
  cases y with
  |non=>cases ry;exact PySem.EqNone.ne_str_none (qb7 I q (by simp))
  |bl j=>cases ry;exact PySem.EqMixed.ne_str_bool (qb7 I q (by simp))
  |int j=>obtain⟨t',rfl⟩:=ry;exact PySem.EqMixed.ne_str_int (qb7 I q (by simp))
  |str j=>obtain⟨t',rfl⟩:=ry;exact ne_str (qb7 I q (congrArg not jgn))
  |_=>exact absurd (show false=true from hs) uU
 |byt i=>
  obtain⟨t,rfl⟩:=rx
  cases y with
  |byt j=>obtain⟨t',rfl⟩:=ry;exact PySem.W.ne_bytes (qb7 I q (congrArg not jgo))
  |_=>exact absurd (show false=true from hs) uU
 |_=>cases y<;>exact absurd (show false=true from hs) uU
def jdu:OpR X (wD .Lt) (rI0 fun i j=> .bl (decide (i<j))):=jsd fun _ _ _ _ _ _ _ q=>lt_int q
def jpi:OpR X (wD .LtE) (rI0 fun i j=> .bl (decide (i<=j))):=jsd fun _ _ _ _ _ _ _ q=>le_int q
def qfi:OpR X (wD .Gt) (rI0 fun i j=> .bl (decide (j<i))):=jsd fun _ _ _ _ _ _ _ q=>gt_int q
def jpj:OpR X (wD .GtE) (rI0 fun i j=> .bl (decide (j<=i))):=jsd fun _ _ _ _ _ _ _ q=>ge_int q
def jgp:OpR X (wD .In) (fun x y H Q=>∃i j,x=.str i/\y=.str j/\Q (.bl (!(aS j i 0 j.length 1).isEmpty)) H):=by
 intro pins s σ H x y v u Q I rx ry h;obtain⟨i,j,rfl,rfl,q⟩:=h;obtain⟨t,rfl⟩:=rx;obtain⟨t',rfl⟩:=ry;exact in_str (qb7 I q rfl)
def jpk:OpR X (wD .Is) (fun x y H Q=>y=.non/\Q (.bl (decide (x=.non))) H):=by
 intro pins s σ H x y v u Q I rx ry h;obtain⟨rfl,q⟩:=h
 cases ry
 refine is_none_gen (qb7 I q ?_)
 cases x<;>first
  |(cases rx;rfl)
  |(obtain⟨t,rfl⟩:=rx;rfl)
def jmk:OpR X (wD .IsNot) (fun x y H Q=>y=.non/\Q (.bl (!decide (x=.non))) H):=by
 intro pins s σ H x y v u Q I rx ry h;obtain⟨rfl,q⟩:=h
 cases ry
 refine isnot_none_gen (qb7 I q ?_)
 cases x<;>first
  |(cases rx;rfl)
  |(obtain⟨t,rfl⟩:=rx;rfl)
def qau(b:vV){op:CmpOp}(h:op≠ .In:=by decide)(h2:op≠ .NotIn:=by decide):bO op b=false:=by
 have e1:(op==CmpOp.In)=false:=by cases op<;>first|rfl|exact absurd rfl h
 have e2:(op==CmpOp.NotIn)=false:=by cases op<;>first|rfl|exact absurd rfl h2
 cases b<;>simp[bO,e1,e2]
def qd7(ho:OpR X (wD op) r)(ha:PE X a ta)(hb:PE X b tb)(hm:bO op b=false):PE X (.Compare a [op] [b] pos) (tOp r ta tb):=by
 intro pins s σ H Q I h;exact wpAny_Compare1 (jso ha hb I h fun v u s2 x y H2 I2 rx ry q=>ho pins s2 σ H2 x y v u Q I2 rx ry q) hm
def jpl(t:TE):TT:=fun σ H Q=>t σ H fun x H'=>∃k,x=.bl k/\Q k H'
def qak(ho:OpR X (wD op) r)(ha:PE X a ta)(hb:PE X b tb)(hm:bO op b=false):PT X (.Compare a [op] [b] pos) (jpl (tOp r ta tb)):=by
 intro pins s σ H Q I h;refine wpAny_isTrue_Compare1 (thn (ha pins s σ H _ I h) fun v s1 ⟨x,H1,I1,r1,q1⟩=>thn (hb pins s1 σ H1 _ I1 q1) fun u s2 ⟨y,H2,I2,r2,q2⟩=>
  thn (ho pins s2 σ H2 x y v u _ I2 r1 r2 q2) fun c s3 ⟨z,H3,I3,r3,k,e,q3⟩=>?_) hm
 subst e
 cases r3
 exact wV ⟨H3,I3,q3⟩
def jlb(r r':R2)(ta tb tc:TE):TE:=fun σ H Q=>ta σ H fun x H1=>tb σ H1 fun y H2=>r x y H2 fun z H3=>∃k,z=.bl k/\
 (if k=true then tc σ H3 fun w' H4=>r' y w' H4 Q else Q (.bl false) H3)
def jjo{op op':CmpOp}{r r':R2}(ho:OpR X (wD op) r)(ho':OpR X (wD op') r')(ha:PE X a ta)(hb:PE X b tb)(hc:PE X c tc)
  (hm:lastMarks [op,op'] [b,c]=false:=by with_unfolding_all rfl):PE X (.Compare a [op,op'] [b,c] pos) (jlb r r' ta tb tc):=by
 intro pins s σ H Q I h;refine Compare_chain (thn (ha pins s σ H _ I h) fun v s1 ⟨x,H1,I1,r1,q1⟩=>chain_link (thn (hb pins s1 σ H1 _ I1 q1) fun u s2 ⟨y,H2,I2,r2,q2⟩=>
  thn (ho pins s2 σ H2 x y v u _ I2 r1 r2 q2) fun d s3 ⟨z,H3,I3,r3,k,e,q3⟩=>?_)) hm
 subst e
 cases r3
 refine wV ?_
 cases k with
 |false=>exact ite_ff ⟨.bl false,H3,I3,rfl,q3⟩
 |true=>exact ite_tt (chain_last (thn (hc pins s3 σ H3 _ I3 q3) fun w' s4 ⟨z',H4,I4,r4,q4⟩=>ho' pins s4 σ H4 y z' u w' Q I4 r2 r4 q4))
def jcp:(sizeLine:Nat)<2^63:=by rw[xC];decide
def jf1:OpR X (aA .Add) (fun x y H Q=>∃i j,x=.str i/\y=.str j/\i.length+j.length<=sizeLine/\Q (.str (i++j)) H):=by
 intro pins s σ H x y v u Q I rx ry h;obtain⟨i,j,rfl,rfl,hz,q⟩:=h;obtain⟨t,rfl⟩:=rx;obtain⟨t',rfl⟩:=ry;exact add_str (fun t' tk=>⟨.str (i++j),H,I.tok _,⟨_,rfl⟩,q⟩) hz
def jgq{x:V}(r:qbk [x] us):∃u,us=[u]/\qb6 x u:=by
 cases r with
 |cons r1 r2=>cases r2;exact⟨_,rfl,r1⟩
def jjp:qcr X (.builtin "abs") (fun xs H Q=>∃i,xs=[.int i]/\Q (.int (if i<0 then -i else i)) H):=by
 intro pins s σ H xs us Q I r h;obtain⟨i,rfl,q⟩:=h;obtain⟨u,rfl,t,rfl⟩:=jgq r;exact call_abs_int fun u tk=>⟨.int (if i<0 then -i else i),H,I.tok _,⟨_,rfl⟩,q⟩
end
structure jml(h:vQ)(x dx C:Addr)(mA:Str->Option uB):Prop where
 obj:h.get? x=some (cW C dx)
 ns:h.Ns1 dx mA
 ne:dx≠x
def jgr{dx:Addr}{mA:Str->Option uB}(n:h.Ns1 dx mA):∃od,h.get? dx=some od/\∀name,lookIn name od=some (mA name):=by
 obtain⟨o,es,ep,ho,hd,hk,_,hm⟩:=n;refine⟨o,ho,fun name=>?_⟩;have e:=hm name;unfold fA findBy at e;rw[<-fB] at e;unfold lookIn;rw[hd];dsimp only
 split
 .rename_i y q;rw[q] at e;exact congrArg some e
 .rename_i q;rw[q] at e;have a:es.toList.any (·.refKey)=false:=by
   rw[List.any_eq_false];intro y hy;obtain⟨z,t,hkey⟩:=hk y (Array.mem_toList_iff.mp hy);simp[DictEntry.refKey,hkey]
  have a':¬es.toList.any (·.refKey)=true:=by rw[a];exact uU
  rw[gT a'];exact congrArg some e
def jml.look{x dx:Addr}{mA:Str->Option uB}(I:jml h x dx C mA):∃od,PySem.W.InstAt h x (cW C dx) C (some od)/\∀name,lookIn name od=some (mA name):=
 let ⟨od,ho,hl⟩:=jgr I.ns
 ⟨od,⟨I.obj,rfl,rfl,ho⟩,hl⟩
section
variable{prog:uW}{w:vL}{A:vR}{E:uB->uC->Prop}{s:uC}{K:uT}{x dx C f:Addr}{mA:Str->Option uB}{name:Str}{v:uB}
def jmm{expr:Bool}{Q:uB->uC->Prop}(X:K.In s.heap)(I:jml s.heap x dx C mA)(hg:plainGet K C name=true)(hh:gJ K C=true)
  (ha:vW K (.ref C) name=some none)(hv:mA name=some v)(hv':PySem.W.handedIn v=true)(h:Q v {s with toks:=s.toks+1}):
  uV (uX prog w) A (getAttr (.ref x) name expr) Q E s:=by
 obtain⟨od,J,hl⟩:=I.look;exact PySem.W.get_value X J (eD hg).1 (PySem.W.findObj_own hh ha rfl (by rw[hl,hv])) hv' h
def jjq{pl:Sem Bool}{Q:uB×List uB->uC->Prop}(X:K.In s.heap)(I:jml s.heap x dx C mA)(hg:plainGet K C name=true)
  (hf:vW K (.ref C) name=some (some (.ref f)))(ht:isFn K (.ref f)=true)(hv:mA name=none)(h:Q (.ref f,[.ref x]) s):
  uV (uX prog w) A (cU (.ref x) name pl) Q E s:=by
 obtain⟨od,J,hl⟩:=I.look;exact PySem.W.method_fn X J (eD hg).1 (eD hg).2 hf (beq_iff_eq.mp ht) (by show(lookIn name od).map (·.isSome)=some false;rw[hl,hv];rfl) h
def jmn{ns:List Str}{Q:Unit->uC->Prop}(X:K.In s.heap)(I:jml s.heap x dx C mA)
  (hs:vW K (.ref C) "__setattr__"=some (some (.builtin "object.__setattr__")))(hp:PySem.W.plainOver K C=true)(ht:PySem.W.takerIn K C name=some none)(hh:gJ K C=true)
  (hw:PySem.Within mA ns)(hsz:ns.length<=sizeLine)
  (h:∀h',jml h' x dx C (fun y=>if y=name then some v else mA y)->aY dx s.heap h'->Q () {s with heap:=h',toks:=s.toks+2}):
  uV (uX prog w) A (setAttr (.ref x) name v) Q E s:=by
 obtain⟨od,J,hl⟩:=I.look;refine PySem.W.set_plain X J hs (PySem.W.osa_open (s:={s with toks:=s.toks+1}) (r:=none) X J hp ht fun b=>?_);obtain⟨cd,hc,hd'⟩:=PySem.W.any_some hh;have hx:s.heap.get? x=some ⟨.ref C,some dx,.plain,#[]⟩:=I.obj;refine uE (vC (uE (uE (wpAny_loadPart hx (uE (PySem.W.Looks.here (s:={s with toks:=s.toks+1}) (PySem.W.looks_clsIn X hc) ?_))))));rw[hd'];refine vC (a:=some dx) (uE (vC (uE ?_)));refine wpAny_nsSet1 (s:={s with toks:=s.toks+1}) I.ns fun h' hn2 hs2=>?_;obtain⟨oD,esD,epD,hoD,hdD,hcD⟩:=hn2.count (PySem.Within.cons name v hw);refine uE (wpAny_lookBehind hoD (by rw[hdD];exact pastItsLine_dict (vK hcD (by rw[zR];omega))) ?_);exact vC (h _ ⟨(hs2.2 _ (xP I.ne)).trans I.obj,hn2,I.ne⟩ hs2)
def je5{R:Result->uC->Prop}{vs:List uB}{kw:List (Str×uB)}(X:K.In s.heap)(hm:PySem.W.makesIn K C=true)
  (hi:vW K (.ref C) "__init__"=some (some (.ref f)))(hf:PySem.W.typeIn K (.ref f)=some (.type "function"))
  (h:bP (uX prog w) (A.under (.builtin "type.__call__" ⟨.ref C::vs,kw⟩)) (.call (.ref f) ⟨.ref (↑s+1)::vs,kw⟩) (PySem.W.InitBack (↑s+1) R)
   {s with heap:=(s.heap.push emptyDict).push (cW C ↑s)}):
  bP (uX prog w) A (.call (.ref C) ⟨vs,kw⟩) R s:=by
 obtain⟨hh,g,d,t,os⟩:=s;exact PySem.W.make_core (PySem.W.makes_of X hm) (PySem.W.looks_findIn X hi) (fun self=>PySem.W.bind_fn X self hf) (.inl rfl) h
end
def qds(f:Str)(v:V):List (Str×V)->List (Str×V)
 | []=> [(f,v)]
 |(g,x)::r=>if g=f then(g,v)::r else(g,x)::qds f v r
theorem qfk(f g:Str)(v:V):∀fs:List (Str×V),(qds f v fs).lookup g=if g=f then some v else fs.lookup g
 | []=>by
  show aT g [(f,v)]=_;by_cases h:g=f
  .have hb:(g==f)=true:=beq_iff_eq.mpr h;simp only[aT,hb,gU h]
  .have hb:(g==f)=false:=beq_eq_false_iff_ne.mpr h;simp only[aT,hb,gT h]
 |(k,x)::r=>by
  have ih:=qfk f g v r;rw[show qds f v ((k,x)::r)=(if k=f then(k,v)::r else(k,x)::qds f v r) from rfl];by_cases hk:k=f
  .rw[gU hk];by_cases h:g=k
   .have hb:(g==k)=true:=beq_iff_eq.mpr h;simp only[aT,hb,gU (h.trans hk)]
   .have hb:(g==k)=false:=beq_eq_false_iff_ne.mpr h;simp only[aT,hb,gT (fun e:g=f=>h (e.trans hk.symm))]
  .rw[gT hk];by_cases h:g=k
   .have hb:(g==k)=true:=beq_iff_eq.mpr h;simp only[aT,hb,gT (fun e:g=f=>hk (h.symm.trans e))]
   .have hb:(g==k)=false:=beq_eq_false_iff_ne.mpr h;simp only[aT,hb];exact ih
theorem qfn(f:Str)(v:V):∀fs:List (Str×V),f∈(qds f v fs).map (·.1)/\∀g,g∈fs.map (·.1)->g∈(qds f v fs).map (·.1)
 | []=>⟨by simp[qds],fun g h=>by simp at h⟩
 |(k,x)::r=>by
  obtain⟨i1,i2⟩:=qfn f v r;rw[show qds f v ((k,x)::r)=(if k=f then(k,v)::r else(k,x)::qds f v r) from rfl];by_cases hk:k=f
  .rw[gU hk];subst hk;exact⟨by simp,fun g h=>by simpa using h⟩
  .rw[gT hk];refine⟨?_,fun g h=>?_⟩
   .rw[zU];exact zD _ i1
   .rw[zU] at h⊢;rcases zO.mp h with e|e
    .exact zO.mpr (.inl e)
    .exact zD _ (i2 g e)
theorem qfl(f:Str)(v:V):∀fs:List (Str×V),(qds f v fs).length<=fs.length+1
 | []=>by simp[qds]
 |(k,x)::r=>by
  have ih:=qfl f v r;rw[show qds f v ((k,x)::r)=(if k=f then(k,v)::r else(k,x)::qds f v r) from rfl];by_cases hk:k=f
  .rw[gU hk,zR,zR];omega
  .rw[gT hk,zR,zR];omega
def qgz.some_of{o:Option uB}(r:qgz (some v) o):∃u,o=some u/\qb6 v u:=by
 cases o with
 |none=>exact(show False from r).elim
 |some u=>exact⟨u,rfl,r⟩
def qgz.none_of{o:Option uB}(r:qgz none o):o=none:=by
 cases o with
 |none=>rfl
 |some u=>exact(show False from r).elim
def jgs(r:qb6 v u):PySem.W.handedIn u=true:=by
 cases v with
 |non=>cases(show u=wI from r);rfl
 |bl b=>cases(show u=eR b from r);rfl
 |int i=>obtain⟨t,e⟩:=(show ∃t,u=cS i t from r);cases e;rfl
 |str x=>obtain⟨t,e⟩:=(show ∃t,u=dX x t from r);cases e;rfl
 |byt b=>obtain⟨t,e⟩:=(show ∃t,u=Value.bytes b t from r);cases e;rfl
 |flt b=>obtain⟨t,e⟩:=(show ∃t,u=Value.float b t from r);cases e;rfl
 |ref a=>cases(show u=uQ a from r);rfl
 |ty n=>cases(show u=cY n from r);rfl
section
variable{P:uW}{w:vL}{H:Hp}{h:vQ}{a C dx:Addr}{fs:List (Str×V)}
def qgr(hok:HOk P w H h)(e:H a=some (.ins C dx fs)):∃mA,jml h a dx C mA/\(∀f,qgz (fs.lookup f) (mA f))/\PySem.Within mA (fs.map (·.1))/\fs.length<=1000/\H dx=some (.own a):=by
 obtain⟨d,z,ne,ob,mA,n,r,q⟩:=(show qbq P w H h a (.ins C dx fs) from hok a _ e);exact⟨mA,⟨ob,n,ne⟩,r,q,z,d⟩
end
structure Cls(K:uT)(C:Addr):Prop where
 pg:plainGet K C Str.empty=true
 hd:gJ K C=true
 po:PySem.W.plainOver K C=true
 sa:vW K (.ref C) "__setattr__"=some (some (.builtin "object.__setattr__"))
def Cls.get(c:Cls K C)(f:Str):plainGet K C f=true:=c.pg
def qao(K:uT)(C:Addr)(f:Str):Prop:=vW K (.ref C) f=some none
def qao.taker{f:Str}(n:qao K C f):PySem.W.takerIn K C f=some none:=by
 unfold PySem.W.takerIn;rw[show vW K (.ref C) f=some none from n];rfl
structure Con(K:uT)(C:Addr)(f:Str)(v:V)(u:uB):Prop where
 at_:vW K (.ref C) f=some (some u)
 rel:qb6 v u
 get:dW K u "__get__"=some none
 cp:PySem.W.copiedNames.contains f=false
structure jao(K:uT)(C:Addr)(m:Str)(f:Addr):Prop where
 at_:vW K (.ref C) m=some (some (.ref f))
 fn:isFn K (.ref f)=true
 kp:cM K (.ref f)=true
section
variable{X:Cx}{pins:List (Addr×Obj)}{σ:St}{H:Hp}{s:uC}{a C dx:Addr}{fs:List (Str×V)}{f:Str}{v:V}{A:vR}{E:uB->uC->Prop}
def jf2{b:Bool}{Q:uB->uC->Prop}(I:Inv X pins σ H s)(e:H a=some (.ins C dx fs))(c:Cls X.K C)(n:qao X.K C f)(l:fs.lookup f=some v)
  (h:∀u s',Inv X pins σ H s'->qb6 v u->Q u s'):uV (uX X.prog X.w) A (getAttr (.ref a) f b) Q E s:=by
 obtain⟨mA,O,r,_,_,_⟩:=qgr I.hok e;obtain⟨u,hu,ru⟩:=qgz.some_of (v:=v) (o:=mA f) (by rw[<-l];exact r f);exact jmm I.kIn O (c.get f) c.hd n hu (jgs ru) (h u _ (I.tok _) ru)
def qd3{m:Str}{g:Addr}{pl:Sem Bool}{Q:uB×List uB->uC->Prop}(I:Inv X pins σ H s)(e:H a=some (.ins C dx fs))(c:Cls X.K C)(k:jao X.K C m g)(l:fs.lookup m=none)
  (h:Q (.ref g,[.ref a]) s):uV (uX X.prog X.w) A (cU (.ref a) m pl) Q E s:=by
 obtain⟨mA,O,r,_,_,_⟩:=qgr I.hok e;have hn:mA m=none:=qgz.none_of (by rw[<-l];exact r m);exact jjq I.kIn O (c.get m) k.at_ k.fn hn h
def jf3{y:V}{u:uB}{Q:Unit->uC->Prop}(I:Inv X pins σ H s)(e:H a=some (.ins C dx fs))(c:Cls X.K C)(n:qao X.K C f)(hl:fs.length<1000)(ry:qb6 y u)
  (h:∀s',Inv X pins σ (upd H a (.ins C dx (qds f y fs))) s'->Q () s'):uV (uX X.prog X.w) A (setAttr (.ref a) f u) Q E s:=by
 obtain⟨mA,O,r,wi,_,ho⟩:=qgr I.hok e;have hz:(fs.map (·.1)).length<=sizeLine:=by rw[zA,xC];omega
 refine jmn I.kIn O c.sa c.po n.taker c.hd wi hz fun h' O' sb=>h _ ?_;have hd:∃o,h'.get? dx=some o:=let ⟨o,_,_,e',_⟩:=O'.ns;⟨o,e'⟩
 refine I.write (x:=a) (e:=dx) (by rw[e];exact wW) (.inr ho) (fun b q hb z=>(sb.2 b hb).trans z) hd ?_;refine⟨by rw[qa4 O.ne];exact ho,?_,O.ne,O'.obj,_,O'.ns,fun g=>?_,fun g hg=>?_⟩
 .have:=qfl f y fs;omega
 .show qgz ((qds f y fs).lookup g) (if g=f then some u else mA g);rw[qfk];by_cases q:g=f
  .rw[gU q,gU q];exact ry
  .rw[gT q,gT q];exact r g
 .by_cases q:g=f
  .rw[q];exact(qfn f y fs).1
  .refine(qfn f y fs).2 g (wi g fun z=>hg ?_);show(if g=f then some u else mA g)=none;rw[gT q];exact z
def Inv.made(I:Inv X pins σ H s):Inv X pins σ (upd (upd H ↑s (.own (↑s+1))) (↑s+1) (.ins C ↑s []))
  {s with heap:=(s.heap.push emptyDict).push (cW C ↑s)}:=by
 have e1:(s.heap.push emptyDict).get? ↑s=some emptyDict:=vE s.heap rfl;have e2:((s.heap.push emptyDict).push (cW C ↑s)).get? (↑s+1)=some (cW C ↑s):=by
  have:=vE (s.heap.push emptyDict) (o:=cW C ↑s) rfl
  rwa [aZ] at this
 have e3:(s.heap.push emptyDict).Ns ↑s (fun _=>none):=⟨emptyDict,#[],_,e1,rfl,(fun e he=>absurd he (by simp)),fun _=>rfl⟩;have I1:=I.laid (a:=↑s) (o:=.own (↑s+1)) (h':=s.heap.push emptyDict) (t':=s.toks) (fun b u q=>uD _ q) (uG _) ⟨_,e1⟩;refine I1.laid (a:=↑s+1) (o:=.ins C ↑s []) (t':=s.toks) (fun b u q=>uD _ q) (Nat.le_of_eq (aZ _ _)) ?_;have ne:↑s≠↑s+1:=vD (bM _);refine⟨by rw[qa4 ne,qa1],wO _,ne,e2,fun _=>none,(Heap.Ns1.of_empty e3).at fun o q=>uD _ q,fun _=>wW,fun y hy=>absurd rfl hy⟩
def jmo{prog:uW}{w:vL}{env:Env}{e:vV}{f:Str}{pos:Pos}{s:uC}{Q:uB->uC->Prop}(hb:bQ e f env (wK e env)=wK e env)
  (h:uV (uX prog w) A (wK e env) (fun o s₁=>uV (uX prog w) A (getAttr o f true) Q E s₁) E s):uV (uX prog w) A (wK (.Attribute e f pos) env) Q E s:=
 Attribute_any_ h (by rw[arm_eval_Attribute,hb])
end
def juv(K:uT)(ta:TE)(f:Str):TE:=fun σ H Q=>ta σ H fun x H1=>∃a C dx fs v,x=.ref a/\H1 a=some (.ins C dx fs)/\Cls K C/\qao K C f/\fs.lookup f=some v/\Q v H1
def juw(K:uT)(ta tv:TE)(f:Str):TS:=fun D σ H=>tv σ H fun y H1=>ta σ H1 fun x H2=>∃a C dx fs,x=.ref a/\H2 a=some (.ins C dx fs)/\Cls K C/\qao K C f/\fs.length<1000/\
 D.nx σ (upd H2 a (.ins C dx (qds f y fs)))
section
variable{X:Cx}{o e value:vV}{f:Str}{pos pos':Pos}{ta tv:TE}
def qax(he:PE X e ta)(hb:bQ e f X.env (wK e X.env)=wK e X.env):PE X (.Attribute e f pos) (juv X.K ta f):=by
 intro pins s σ H Q I h;refine jmo hb (thn (he pins s σ H _ I h) fun u s1 ⟨x,H1,I1,rx,a,C,dx,fs,v,ex,ea,c,n,l,q⟩=>?_);subst ex;obtain rfl:u=uQ a:=rx;exact jf2 I1 ea c n l fun u' s2 I2 ru=>⟨v,H1,I2,ru,q⟩
def qc9(ha:PE X o ta)(hv:PE X value tv)(hs:dZ value (some (.Attribute o f pos')) pos.line X.env=pure false):PS X (.Assign [.Attribute o f pos'] value pos) (juw X.K ta tv f):=by
 intro pins s σ H D I h;refine plainObj_wpAny_Assign_Attribute (thn (hv pins s σ H _ I h) fun u s1 ⟨y,H1,I1,ry,q⟩=>thn (ha pins s1 σ H1 _ I1 q) fun ov s2 ⟨x,H2,I2,rx,a,C,dx,fs,ex,ea,c,n,l,q2⟩=>?_) hs;subst ex;obtain rfl:ov=uQ a:=rx;exact jf3 I2 ea c n l ry fun s3 I3=>⟨σ,_,I3,q2⟩
def jmp{pl:Sem Bool}{m:Str}{apos:Pos}{args:List vV}{pins:List (Addr×Obj)}{s:uC}{σ:St}{H:Hp}{Q:uB->uC->Prop}{te:TE}(he:PE X e te)(I:Inv X pins σ H s)
  (h:te σ H fun x H1=>∃a C dx fs g,x=.ref a/\H1 a=some (.ins C dx fs)/\Cls X.K C/\jao X.K C m g/\fs.lookup m=none/\
   ∀s1,Inv X pins σ H1 s1->uV (uX X.prog X.w) X.A (dQ pos (.ref g) [.ref a] (wQ pos (uZ args X.env)) (cB pos (aB [] X.env))) Q X.xe s1)
  (ht:wK (.Call (.Attribute e m apos) args [] pos) X.env=(do
   let ov<-wK e X.env
   standAt apos.atName
   let (f,first)<-fO [ov] (cU ov m pl)
   dQ pos f first (wQ pos (uZ args X.env)) (cB pos (aB [] X.env)))):
  uV (uX X.prog X.w) X.A (wK (.Call (.Attribute e m apos) args [] pos) X.env) Q X.xe s:=by
 refine yU (pl:=pl) (thn (he pins s σ H _ I h) fun u s1 ⟨x,H1,I1,rx,a,C,dx,fs,g,ex,ea,c,k,l,q⟩=>?_) ht;subst ex;obtain rfl:u=uQ a:=rx;exact qd3 I1 ea c k l (q s1 I1)
end
section
variable{X:Cx}{pins:List (Addr×Obj)}{σ:St}{H:Hp}{s:uC}{A:vR}{E:uB->uC->Prop}{Q:uB->uC->Prop}{c:uB}{b:Bool}
inductive jbv(K:uT)(H:Hp):V->uB->Prop where
 |non:jbv K H .non (.type "NoneType")
 |bl(x:Bool):jbv K H (.bl x) (.type "bool")
 |int(i:Int):jbv K H (.int i) (.type "int")
 |str(x:Str):jbv K H (.str x) (.type "str")
 |flt(x:UInt64):jbv K H (.flt x) (.type "float")
 |lst{a:Addr}{xs:List V}(e:H a=some (.lst xs)):jbv K H (.ref a) (.type "list")
 |frz{a:Addr}{o:Obj}{xs:List V}(e:H a=some (.frz o (.lst xs))):jbv K H (.ref a) (.type "list")
 |tup{a:Addr}{xs:List V}(e:H a=some (.tup xs)):jbv K H (.ref a) (.type "tuple")
 |dK{a:Addr}{kvs:List (Key×V)}(e:H a=some (.dK kvs)):jbv K H (.ref a) (.type "dict")
 |dT{a:Addr}{kvs:List (List Key×V)}(e:H a=some (.dT kvs)):jbv K H (.ref a) (.type "dict")
 |ins{a C dx:Addr}{fs:List (Str×V)}(e:H a=some (.ins C dx fs))(cl:Cls K C)(ha:vW K (.ref C) "__class__"=some (some (.builtin "object.__class__")))
   (hn:dW K (.builtin "object.__class__") "__get__"=some (some (.builtin "getset_descriptor.__get__"))) (htk:PySem.W.takesIn K (.builtin "object.__class__")=some true)
   (hm:mroIn K C (.type "object")=some true):jbv K H (.ref a) (.ref C)
def jgt{x:V}{t:uB}(I:Inv X pins σ H s)(rx:qb6 x u)(ty:jbv X.K H x t)(e:cA X.K t c=some b)(h:∀tk,Q (.bool b) {s with toks:=tk}):
  uV (uX X.prog X.w) A (call (.builtin "isinstance") [u,c]) Q E s:=by
 cases ty with
 |non=>cases(show u=wI from rx);exact wN PySem.W.kitx_none I.kIn wW e (fun z=>nomatch z) h
 |bl y=>cases(show u=eR y from rx);exact wN PySem.W.kitx_bool I.kIn wW e (fun z=>nomatch z) h
 |int i=>obtain⟨t,q⟩:=(show ∃t,u=cS i t from rx);cases q;exact wN PySem.W.kitx_int I.kIn wW e (fun z=>nomatch z) h
 |str y=>obtain⟨t,q⟩:=(show ∃t,u=dX y t from rx);cases q;exact wN PySem.W.kitx_str I.kIn wW e (fun z=>nomatch z) h
 |flt y=>obtain⟨t,q⟩:=(show ∃t,u=Value.float y t from rx);cases q;exact wN PySem.W.kitx_float I.kIn wW e (fun z=>nomatch z) h
 | @lst a xs ea=>
  cases(show u=uQ a from rx)
  obtain⟨_,_,n,_,h1⟩:=(show qbq X.prog X.w H s.heap a (.lst xs) from I.hok a _ ea);exact wN PySem.W.kitx_list I.kIn ⟨_,h1,rfl⟩ e (fun z=>nomatch z) h
 | @frz a ob xs ea=>
  cases(show u=uQ a from rx)
  obtain⟨_,_,_,n,_,h1⟩:=(show qbq X.prog X.w H s.heap a (.frz ob (.lst xs)) from I.hok a _ ea);exact wN PySem.W.kitx_list I.kIn ⟨_,h1,rfl⟩ e (fun z=>nomatch z) h
 | @tup a xs ea=>
  cases(show u=uQ a from rx)
  obtain⟨_,_,_,p⟩:=(show qbq X.prog X.w H s.heap a (.tup xs) from I.hok a _ ea);obtain⟨o,h1,h2,_⟩:=p;exact wN PySem.W.kitx_tuple I.kIn ⟨o,h1,h2⟩ e (fun z=>nomatch z) h
 | @dK a kvs ea=>
  cases(show u=uQ a from rx)
  obtain⟨_,_,vs,_,p⟩:=(show qbq X.prog X.w H s.heap a (.dK kvs) from I.hok a _ ea);obtain⟨o,es,ep,h1,h2,_⟩:=p;exact wN PySem.W.kitx_dict I.kIn ⟨o,h1,h2.1⟩ e (fun z=>nomatch z) h
 | @dT a kvs ea=>
  cases(show u=uQ a from rx)
  obtain⟨_,_,xs,_,o,es,ep,h1,h2,_⟩:=(show qbq X.prog X.w H s.heap a (.dT kvs) from I.hok a _ ea);exact wN PySem.W.kitx_dict I.kIn ⟨o,h1,h2.1⟩ e (fun z=>nomatch z) h
 | @ins a C dx fs ea cl ha hn htk hm=>
  cases(show u=uQ a from rx)
  obtain⟨mA,O,_⟩:=qgr I.hok ea;obtain⟨od,J,_⟩:=O.look;exact wN (PySem.W.kitx_own (cl.get _) cl.hd ha hn htk hm) I.kIn J e (fun z=>nomatch z) h
end
structure jaz(k:Nat)(A:vR):Prop where
 hd:A.handled=none
 dp:A.depth+3*k+5<recursionLimit
 un:A.units+16*k+200<cLine
def jaz.mono{j k:Nat}(r:jaz k A)(h:j<=k):jaz j A:=⟨r.hd,by have:=r.dp;omega,by have:=r.un;omega⟩
theorem jaz.deeper{k:Nat}(r:jaz (k+1) A)(env:Env):jaz k (A.deeper env):=
 ⟨r.hd,by have:=r.dp;show A.depth+1+3*k+5<_;omega,by have:=r.un;show A.units+3+16*k+200<_;omega⟩
def jf4{kw:List (Str×uB)} :(A.under (.builtin "type.__call__" ⟨.ref C::us,kw⟩)).depth=A.depth+1:=by
 first|rfl|simp[Around.under,Code.weight,Code.isCreation,Code.isGuard,Code.isCaller,Code.frames,Code.isFrame,guardIds]
def jf5{kw:List (Str×uB)} :(A.under (.builtin "type.__call__" ⟨.ref C::us,kw⟩)).units=A.units+1:=by
 first|rfl|simp[Around.under,Code.cUnits,Code.frames,Code.isFrame]
def jaz.make{k:Nat}(r:jaz (k+1) A)(C:Addr)(us:List uB)(kw:List (Str×uB)):jaz k (A.under (.builtin "type.__call__" ⟨.ref C::us,kw⟩)):=
 ⟨r.hd,by have:=r.dp;rw[jf4];omega,by have:=r.un;rw[jf5];omega⟩
theorem jaz.depth{k:Nat}(r:jaz k A):A.depth<recursionLimit:=by have:=r.dp;omega
theorem jaz.units{k:Nat}(r:jaz k A):A.units+64<cLine:=by have:=r.un;omega
def jpm:TA:=fun _ H Q=>Q [] H
def jmq(ta:TE)(tr:TA):TA:=fun σ H Q=>ta σ H fun x H1=>tr σ H1 fun xs H2=>Q (x::xs) H2
section
variable{X:Cx}{e:vV}{es:List vV}{te:TE}{t:TA}{pos:Pos}
def qa3:PA X [] jpm:=fun _ _ _ _ H Q I h=>Calls.spliced_nil ⟨[],H,I,.nil,h⟩
def qa0(ha:PE X e te)(hr:PA X es t)(hs:uZ (e::es) X.env=(false,wK e X.env)::uZ es X.env:=by rfl):PA X (e::es) (jmq te t):=by
 intro pos pins s σ H Q I h;rw[hs];show uV _ _ (spliced ((false,wK e X.env)::wQ pos (uZ es X.env))) _ _ s;refine fD (thn (ha pins s σ H _ I h) fun u s1 ⟨x,H1,I1,r1,q1⟩=>?_);exact thn (hr pos pins s1 σ H1 _ I1 q1) fun us s2 ⟨xs,H2,I2,r2,q2⟩=>⟨x::xs,H2,I2,.cons r1 r2,q2⟩
def jux(t:TA):TE:=fun σ H Q=>t σ H fun xs H1=>xs.length<=sizeLine/\∀p,H1 p=none->Q (.ref p) (upd H1 p (.tup xs))
def jsp(t:TA):TE:=fun σ H Q=>t σ H fun xs H1=>xs.length<=sizeLine/\∀p,H1 p=none->Q (.ref p) (upd H1 p (.lst xs))
def qcc{x1}(h:PA X es t):PE X (.Tuple es x1 pos) (jux t):=by
 intro pins s σ H Q I hq;refine wpAny_Tuple_spliced (thn (h pos pins s σ H _ I hq) fun us s1 ⟨xs,H1,I1,r,z,q⟩=>⟨by rw[<-r.length];exact z,?_⟩);have hf:H1 ↑s1=none:=I1.hok.fresh (uG _);refine⟨.ref ↑s1,upd H1 ↑s1 (.tup xs),I1.laid (t':=s1.toks) (fun b u e=>uD _ e) (uG _) ?_,rfl,q _ hf⟩;exact⟨z,us,r,⟨_,vE _ rfl,rfl,_,rfl⟩⟩
def qbd(h:PA X es t):PE X (.List es pos) (jsp t):=by
 intro pins s σ H Q I hq;refine wpAny_List_spliced (thn (h pos pins s σ H _ I hq) fun us s1 ⟨xs,H1,I1,r,z,q⟩=>⟨by rw[<-r.length];exact z,?_⟩);have hf:H1 ↑s1=none:=I1.hok.fresh (uG _);refine⟨.ref ↑s1,upd H1 ↑s1 (.lst xs),I1.laid (t':=s1.toks) (fun b u e=>uD _ e) (uG _) ?_,rfl,q _ hf⟩;exact⟨z,us,0,r,vE _ rfl⟩
end
abbrev Sp:=List V->Hp->VK->XK->Prop
abbrev CXT:=List Env->Hp->uC->XK->uB->uC->Prop
structure jjr(P:uW)(w:vL)(K:uT)(mg:Str->Option uB)(base:vQ)(A:vR)(outer:List Env)(s:uC)(H:Hp):Prop where
 frames:A.frames=some outer
 mod:Mod K mg base
 bs:∀b o,base.get? b=some o->s.heap.get? b=some o/\H b=none
 bsz:base.objs.size<=↑s
 funs:s.heap.FunFrames base outer
 frf:∀b∈frs outer,H b=none
 hok:HOk P w H s.heap
 bare:cF s.gens
def CE(outer:List Env)(P:uW)(w:vL)(H:Hp)(s:uC)(Q:VK)(u:uB)(s':uC):Prop:=
 ∃v H',s'.os=s.os/\cF s'.gens/\Un (frs outer) [] H H' s.heap s'.heap/\HOk P w H' s'.heap/\qb6 v u/\Q v H'
def CR(CX:CXT)(outer:List Env)(P:uW)(w:vL)(H:Hp)(s:uC)(Q:VK)(E:XK)(r:Result)(s':uC):Prop:=
 match r with
 | .ok (.ret u)=>CE outer P w H s Q u s'
 | .ok _=>False
 | .error e=>CX outer H s E e s'
structure jac(P:uW)(w:vL)(K:uT)(mg:Str->Option uB)(base:vQ)(CX:CXT)(k:Nat)(f:Addr)(fd:uL)(ps:List Str)(sp:Sp):Prop where
 len:∀vs H Q E,sp vs H Q E->vs.length=ps.length
 run:∀(A:vR)(outer:List Env)(s:uC)(H:Hp)(args:Args)(us:List uB)(vs:List V)(Q:VK)(E:XK),jaz k A->jjr P w K mg base A outer s H->cZ s fd args (ps.zip us)->qbk vs us->sp vs H Q E->
  bP (uX P w) A (.call (.ref f) args) (CR CX outer P w H s Q E) s
theorem jac.mono{P:uW}{w:vL}{K:uT}{mg:Str->Option uB}{base:vQ}{CX:CXT}{j k:Nat}{f:Addr}{fd:uL}{ps:List Str}{sp:Sp}(F:jac P w K mg base CX j f fd ps sp)(h:j<=k):
  jac P w K mg base CX k f fd ps sp:=⟨F.len,fun A outer s H args us vs Q E hr=>F.run A outer s H args us vs Q E (hr.mono h)⟩
def jac.imp{P:uW}{w:vL}{K:uT}{mg:Str->Option uB}{base:vQ}{CX:CXT}{k:Nat}{f:Addr}{fd:uL}{ps:List Str}{sp sp':Sp}(F:jac P w K mg base CX k f fd ps sp)
  (h:∀vs H Q E,sp' vs H Q E->sp vs H Q E):jac P w K mg base CX k f fd ps sp':=
 ⟨fun vs H Q E q=>F.len vs H Q E (h _ _ _ _ q),fun A outer s H args us vs Q E hr he hb hv hs=>F.run A outer s H args us vs Q E hr he hb hv (h _ _ _ _ hs)⟩
def jjr.make{P:uW}{w:vL}{K:uT}{mg:Str->Option uB}{base:vQ}{A:vR}{outer:List Env}{s:uC}{H:Hp}(e:jjr P w K mg base A outer s H)(C:Addr)(us:List uB)(kw:List (Str×uB)):
  jjr P w K mg base (A.under (.builtin "type.__call__" ⟨.ref C::us,kw⟩)) outer s H:=⟨by first|exact e.frames|(simpa[Around.under,Code.envs,Code.isFrame,pushEnvs] using e.frames),e.mod,e.bs,e.bsz,e.funs,e.frf,e.hok,e.bare⟩
section
variable{X:Cx}{pins:List (Addr×Obj)}{σ:St}{H:Hp}{s s':uC}
def Inv.env0(I:Inv X pins σ H s):jjr X.prog X.w X.K X.mg X.base X.A X.stack s H:=
 ⟨I.ok.frames,I.ok.mod,I.bs,vK I.ok.bsz I.sz,I.stack,I.stkFree,I.hok,I.bare⟩
def Inv.after{Q:VK}(I:Inv X pins σ H s)(h:CE X.stack X.prog X.w H s Q u s'):EP X pins σ Q u s':=by
 obtain⟨v,H',os,bare,un,hok,r,q⟩:=h;obtain⟨hh,g,d,t,os'⟩:=s';obtain rfl:os'=s.os:=os;exact⟨v,H',I.call (h':=hh) (g':=g) (d':=d) (t':=t) (ch:=[]) un hok bare (fun b z=>absurd z (by simp)),r,q⟩
end
def jpn(sp:Sp)(dvs:List V)(E:XK)(t:TA):TE:=fun σ H Q=>t σ H fun vs H1=>sp (vs++dvs) H1 Q E
def jpo(C:Addr)(m:Str)(sp:Sp)(dvs:List V)(E:XK)(ta:TE)(t:TA):TE:=fun σ H Q=>ta σ H fun x H1=>∃a dx fs,x=.ref a/\H1 a=some (.ins C dx fs)/\fs.lookup m=none/\
 t σ H1 fun vs H2=>sp (x ::(vs++dvs)) H2 Q E
def jpp(C:Addr)(sp:Sp)(dvs:List V)(E:XK)(t:TA):TE:=fun σ H Q=>t σ H fun vs H1=>∀x dx,H1 x=none->H1 dx=none->dx≠x->
 sp (.ref x ::(vs++dvs)) (upd (upd H1 dx (.own x)) x (.ins C dx [])) (fun v H2=>v=.non/\Q (.ref x) H2) E
def qan(K:uT)(fd:uL)(ps:List Str)(ds:List uB):Prop:=
 ∀(s:uC)(us:List uB),K.In s.heap->(us++ds).length=ps.length->cZ s fd ⟨us,[]⟩ (ps.zip (us++ds))
def qan.all{fd:uL}{ps:List Str}(h:∀us:List uB,us.length=ps.length->bindArgs fd ⟨us,[]⟩=pure (ps.zip us)):qan K fd ps []:=fun s us _ hl=>by
 rw[zX] at hl⊢;exact .of_eq (h us hl)
def qgd(CX:CXT)(X:Cx)(E:XK):Prop:=∀(pins:List (Addr×Obj))(σ:St)(H:Hp)(s:uC)(e:uB)(s':uC),Inv X pins σ H s->CX X.stack H s E e s'->X.xe e s'
section
variable{X:Cx}{CX:CXT}{k:Nat}{f C:Addr}{fd:uL}{ps:List Str}{sp:Sp}{dvs:List V}{ds:List uB}{E:XK}{x m:Str}{p pos apos:Pos}{e o:vV}{es:List vV}{ta:TE}{t:TA}
def jlc{pins:List (Addr×Obj)}{σ:St}{H:Hp}{s:uC}{Q:VK}{us:List uB}{vs:List V}(F:jac X.prog X.w X.K X.mg X.base CX k f fd ps sp)(hr:jaz k X.A)(hb:qan X.K fd ps ds)(hd:qbk dvs ds)(hx:qgd CX X E)
  (I:Inv X pins σ H s)(r:qbk vs us)(h:sp (vs++dvs) H Q E):uV (uX X.prog X.w) X.A (call (.ref f) us) (EP X pins σ Q) X.xe s:=by
 have r2:qbk (vs++dvs) (us++ds):=r.append hd;have hl:(us++ds).length=ps.length:=by rw[<-r2.length];exact F.len _ _ _ _ h
 refine aC (xA (F.run X.A X.stack s H ⟨us,[]⟩ (us++ds) (vs++dvs) Q E hr I.env0 (hb s us I.kIn hl) r2 h) fun r s' hq=>?_)
 cases r with
 |error e=>exact hx pins σ H s e s' I hq
 |ok fl=>
  cases fl with
  |ret u=>exact I.after hq
  |next=>exact vP hq
  |brk=>exact vP hq
  |cont=>exact vP hq
def qag(F:jac X.prog X.w X.K X.mg X.base CX k f fd ps sp)(hr:jaz k X.A)(hg:Gl X x)(hm:X.mg x=some (.ref f))(hk:cM X.K (.ref f)=true)(hb:qan X.K fd ps ds)(hd:qbk dvs ds)(hx:qgd CX X E)
  (ha:PA X (e::es) t)(hdb:(x==("__debug__":Str))=false:=by decide)(he:uZ (e::es) X.env=(false,wK e X.env)::uZ es X.env:=by rfl)(hpl:(wQ pos (uZ es X.env)).any (·.1)=false:=by rfl):
  PE X (.Call (.Name x p) (e::es) [] pos) (jpn sp dvs E t):=by
 intro pins s σ H Q I h;refine xD (qe0 I hg hm ?_ hdb);refine xE (h₀:=X.base) I.ok.mod.kin hk (thn (ha pos pins s σ H _ I h) fun us s1 ⟨vs,H1,I1,r,q⟩=>⟨I1.kIn,?_⟩) he hpl;exact jlc F hr hb hd hx I1 r q
def jgu{pl:Sem Bool}(he:PE X o ta)(c:Cls X.K C)(hm:jao X.K C m f)(F:jac X.prog X.w X.K X.mg X.base CX k f fd ps sp)(hr:jaz k X.A)(hb:qan X.K fd ps ds)(hd:qbk dvs ds)(hx:qgd CX X E)(ha:PA X (e::es) t)
  (hst:uZ (e::es) X.env=(false,wK e X.env)::uZ es X.env:=by rfl)(hpl:(wQ pos (uZ es X.env)).any (·.1)=false:=by rfl)
  (ht:wK (.Call (.Attribute o m apos) (e::es) [] pos) X.env=(do
   let ov<-wK o X.env
   standAt apos.atName
   let (f,first)<-fO [ov] (cU ov m pl)
   dQ pos f first (wQ pos (uZ (e::es) X.env)) (cB pos (aB [] X.env))):=by rfl):
  PE X (.Call (.Attribute o m apos) (e::es) [] pos) (jpo C m sp dvs E ta t):=by
 intro pins s σ H Q I h;refine yU (pl:=pl) (thn (he pins s σ H _ I h) fun u s1 ⟨x,H1,I1,rx,a,dx,fs,ex,ea,l,q⟩=>?_) ht;subst ex;obtain rfl:u=uQ a:=rx;refine qd3 I1 ea c hm l ?_;refine xE (first:=[.ref a]) (h₀:=X.base) I.ok.mod.kin hm.kp (thn (ha pos pins s1 σ H1 _ I1 q) fun us s2 ⟨vs,H2,I2,r,q2⟩=>⟨I2.kIn,?_⟩) hst hpl;exact jlc (us:=.ref a::us) (vs:=.ref a::vs) F hr hb hd hx I2 (.cons rfl r) q2
structure Mk(K:uT)(C f:Addr):Prop where
 makes:PySem.W.makesIn K C=true
 init:vW K (.ref C) "__init__"=some (some (.ref f))
 fn:isFn K (.ref f)=true
 kp:cM K (.ref C)=true
def jjs{pins:List (Addr×Obj)}{σ:St}{H:Hp}{s:uC}{Q:VK}{us:List uB}{vs:List V}(M:Mk X.K C f)(F:jac X.prog X.w X.K X.mg X.base CX k f fd ps sp)(hr:jaz (k+1) X.A)(hb:qan X.K fd ps ds)(hd:qbk dvs ds)
  (hx:qgd CX X E)(I:Inv X pins σ H s)(r:qbk vs us)
  (h:∀x dx,H x=none->H dx=none->dx≠x->sp (.ref x ::(vs++dvs)) (upd (upd H dx (.own x)) x (.ins C dx [])) (fun v H2=>v=.non/\Q (.ref x) H2) E):
  uV (uX X.prog X.w) X.A (call (.ref C) us) (EP X pins σ Q) X.xe s:=by
 have hq:=h (↑s+1) ↑s (I.hok.fresh (xK _)) (I.hok.fresh (uG _)) (vD (bM _));have I2:=Inv.made (C:=C) I;have r2:qbk (V.ref (↑s+1) ::(vs++dvs)) (uQ (↑s+1) ::(us++ds)):=.cons rfl (r.append hd);have hl:(uQ (↑s+1)::us++ds).length=ps.length:=by
  have e:=r2.length;rw[F.len _ _ _ _ hq] at e;exact e.symm
 refine aC (je5 (f:=f) I.kIn M.makes M.init (beq_iff_eq.mp M.fn) (xA (F.run _ X.stack _ _ ⟨uQ (↑s+1)::us,[]⟩ (uQ (↑s+1) ::(us++ds)) _ _ E (hr.make C us [])
  (I2.env0.make C us []) (hb _ (uQ (↑s+1)::us) I2.kIn hl) r2 hq) fun r s' hq'=>?_))
 cases r with
 |error e=>exact hx pins σ _ _ e s' I2 hq'
 |ok fl=>
  cases fl with
  |ret u=>
   obtain⟨v,H',I3,rv,ev,q3⟩:=I2.after hq';subst ev;exact⟨rv,⟨V.ref (↑s+1),H',I3,rfl,q3⟩⟩
  |next=>exact vP hq'
  |brk=>exact vP hq'
  |cont=>exact vP hq'
def jmr(M:Mk X.K C f)(F:jac X.prog X.w X.K X.mg X.base CX k f fd ps sp)(hr:jaz (k+1) X.A)(hg:Gl X x)(hm:X.mg x=some (.ref C))(hb:qan X.K fd ps ds)(hd:qbk dvs ds)(hx:qgd CX X E)
  (ha:PA X (e::es) t)(hdb:(x==("__debug__":Str))=false:=by decide)(he:uZ (e::es) X.env=(false,wK e X.env)::uZ es X.env:=by rfl)(hpl:(wQ pos (uZ es X.env)).any (·.1)=false:=by rfl):
  PE X (.Call (.Name x p) (e::es) [] pos) (jpp C sp dvs E t):=by
 intro pins s σ H Q I h;refine xD (qe0 I hg hm ?_ hdb);refine xE (h₀:=X.base) I.ok.mod.kin M.kp (thn (ha pos pins s σ H _ I h) fun us s1 ⟨vs,H1,I1,r,q⟩=>⟨I1.kIn,?_⟩) he hpl;exact jjs M F hr hb hd hx I1 r q
end
section
variable{fd:uL}{ps ks:List Str}
structure juy(K:uT)(fd:uL)(ps ks:List Str)(g:List uB->List uB->List uB)(gV:List V->List V->List V):Prop where
 to:∀(s:uC)(us ws:List uB),K.In s.heap->(g us ws).length=ps.length->cZ s fd ⟨us,ks.zip ws⟩ (ps.zip (g us ws))
 rel:∀{vs:List V} {us:List uB} {zs:List V} {ws:List uB},qbk vs us->qbk zs ws->qbk (gV vs zs) (g us ws)
end
structure jaa(N P:List Str)(sc:wY):Prop where
 kind:sc.kind=.function
 co:sc.isCoroutine=false
 gen:sc.isGenerator=false
 nd:N.Nodup
 pre:N.take P.length=P
 par:∀x∈P,sc.names.lookup x=some .local\/sc.names.lookup x=some .cell
 nofree:∀y∈sc.names,y.2≠ .free
theorem jcq{kindOf:Str->Option NameKind}{x:Str}:∀{binds:List (Str×uB)} {m:Str->Option uB},(∀v,(x,v)∉binds)->bindL kindOf binds m x=m x
 | [],_,_=>rfl
 |(n,v)::r,m,h=>by
  unfold bindL;rw[jcq fun w hw=>h w (zD _ hw)]
  split
  .have:x≠n:=by rintro rfl;exact h v zF
   simp[this]
  .rfl
theorem jcr{kindOf:Str->Option NameKind}{x:Str}:∀{binds:List (Str×uB)} {m:Str->Option uB},(∀v,(x,v)∉binds)->fS kindOf binds m x=m x
 | [],_,_=>rfl
 |(n,v)::r,m,h=>by
  unfold fS;rw[jcr fun w hw=>h w (zD _ hw)]
  split
  .rfl
  .have:x≠n:=by rintro rfl;exact h v zF
   simp[this]
theorem jcs{kindOf:Str->Option NameKind}{x:Str}{v:uB}:∀{P:List Str} {vs:List uB} {i:Nat} {m:Str->Option uB},P.Nodup->P[i]?=some x->vs[i]?=some v->kindOf x=some .local->
  bindL kindOf (P.zip vs) m x=some v
 | [],_,_,_,_,h,_,_=>by simp at h
 |_::_,[],_,_,_,_,h,_=>by simp at h
 |p::P,w::vs,0,m,nd,h1,h2,hk=>by
  simp at h1 h2;subst h1;subst h2;show bindL kindOf ((p,w)::P.zip vs) m p=_;unfold bindL;rw[jcq fun v hv=>(zT.mp nd).1 (List.of_mem_zip hv).1,gU hk];simp
 |p::P,w::vs,i+1,m,nd,h1,h2,hk=>by
  show bindL kindOf ((p,w)::P.zip vs) m x=_;unfold bindL;exact jcs (i:=i) (zT.mp nd).2 (by simpa using h1) (by simpa using h2) hk
theorem jct{kindOf:Str->Option NameKind}{x:Str}{v:uB}:∀{P:List Str} {vs:List uB} {i:Nat} {m:Str->Option uB},P.Nodup->P[i]?=some x->vs[i]?=some v->kindOf x≠some .local->
  fS kindOf (P.zip vs) m x=some v
 | [],_,_,_,_,h,_,_=>by simp at h
 |_::_,[],_,_,_,_,h,_=>by simp at h
 |p::P,w::vs,0,m,nd,h1,h2,hk=>by
  simp at h1 h2;subst h1;subst h2;show fS kindOf ((p,w)::P.zip vs) m p=_;unfold fS;rw[jcr fun v hv=>(zT.mp nd).1 (List.of_mem_zip hv).1,gT hk];simp
 |p::P,w::vs,i+1,m,nd,h1,h2,hk=>by
  show fS kindOf ((p,w)::P.zip vs) m x=_;unfold fS;exact jct (i:=i) (zT.mp nd).2 (by simpa using h1) (by simpa using h2) hk
def start(N:List Str)(vs:List V):St:=vs.map some++uR (N.length-vs.length) none
def cxOf(CX:CXT)(P:uW)(w:vL)(K:uT)(mg:Str->Option uB)(base:vQ)(N:List Str)(qual:Str)(scope:wY)(f:Addr)(cd:uB)(A:vR)(outer:List Env)(s:uC)(H:Hp)(E:XK):Cx where
 prog:=P
 w:=w
 K:=K
 mg:=mg
 base:=base
 A:=A.deeper (aJ qual scope ↑s f cd)
 N:=N
 s₀:=s
 H₀:=H
 env:=aJ qual scope ↑s f cd
 outer:=outer
 stack:=aJ qual scope ↑s f cd::outer
 ex:=[]
 calm:=true
 fn:=fun _=>true
 pn:=[]
 xe:=fun e s'=>uV (uX P w) (A.deeper (aJ qual scope ↑s f cd)) (leaving (aJ qual scope ↑s f cd) e) (fun _ s''=>CX outer H s E e s'') (fun e' s''=>CX outer H s E e' s'') s'
def je6{sc:wY}{n:Nat}(h:sc.names.lookup x=some .cell):∃c,(eA n sc.names []).lookup x=some c:=by
 have q:=PySem.W.cellsFrom_some sc.names n [] (.inl h);exact cN.mp q
def jgv{CX:CXT}{P:uW}{w:vL}{K:uT}{mg:Str->Option uB}{base:vQ}{N ps:List Str}{qual:Str}{scope:wY}{f:Addr}{cd:uB}{A:vR}{outer:List Env}{s s1:uC}{H:Hp}{E:XK}{us:List uB}{vs:List V}
  (S:jaa N ps scope)(hd:A.handled=none)(e0:jjr P w K mg base A outer s H)(hl:vs.length=ps.length)(r:qbk vs us)
  (x:InCallC s ↑s (bindL (aJ qual scope ↑s f cd).kindOf (ps.zip us) fun _=>none) (eA (↑s+1) scope.names []) (fS (aJ qual scope ↑s f cd).kindOf (ps.zip us) fun _=>none) s1):
  Inv (cxOf CX P w K mg base N qual scope f cd A outer s H E) [] (start N vs) H s1:=by
 have hpl:ps.length<=N.length:=by have:=congrArg wJ S.pre;rw[zW] at this;omega
 obtain⟨h1,tk,rfl,hk⟩:=x.done;have noA:∀b:Addr,b∉(cxOf CX P w K mg base N qual scope f cd A outer s H E).ex:=fun b z=>absurd (show b∈([]:List Addr) from z) (by simp);refine⟨⟨e0.mod,S.kind,rfl,rfl,uG _,fun y z c h1 h2=>?_,fun y hy=>?_,fun y c _ h=>?_,fun _=>hd,Around.frames_deeper e0.frames,.inr ⟨rfl,rfl⟩,fun b z=>absurd z (noA b),e0.bs,e0.bsz,fun b _ _=>noA b,fun b z=>absurd z (noA b),e0.funs,e0.frf⟩,
  rfl,e0.bare,Un.kept hk,⟨_,x.toInCall.ns,fun i y v h1 h2 h3=>?_⟩,fun y c h=>⟨_,x.cell y c h⟩,e0.hok.fresh (uG _),fun y c h=>?_,fun p hp=>absurd (show p∈([]:List (Addr×Obj)) from hp) (by simp),e0.hok.kept hk,?_⟩
 .exact name_of_addr x.apart (xQ h1) (xQ h2)
 .have hy:scope.names.lookup y=some .cell\/scope.names.lookup y=some .free:=hy;rcases hy with hy|hy
  .exact je6 hy
  .exact absurd rfl (S.nofree _ (xQ hy))
 .exact aG (x.above y c (xQ h))
 .have hi:i<vs.length:=by
   unfold start at h2;by_cases hi:i<vs.length
   .exact hi
   .rw[xF (by simpa using hi)] at h2;rw[cV] at h2
    split at h2<;>cases h2
  have ha:vs[i]?=some v:=by
   unfold start at h2;rw[xG (by simpa using hi),zC] at h2
   cases e:vs[i]? with
   |none=>rw[e] at h2;cases h2
   |some a=>rw[e] at h2;cases h2;rfl
  obtain⟨u,hu,rv⟩:=r.get ha;have hp:ps[i]?=some y:=by
   rw[<-S.pre,List.getElem?_take_of_lt ↑∅];exact h1
  have ndP:ps.Nodup:=by rw[<-S.pre];exact S.nd.sublist (fT _ _)
  refine⟨u,rv,?_⟩;rcases S.par y (zG hp) with k|k
  .exact .inl ⟨k,jcs ndP hp hu k⟩
  .obtain⟨c,e⟩:=je6 (n:=↑s+1) k;refine .inr ⟨.inl k,c,e,?_⟩;have q:=x.cell y c e;rw[jct ndP hp hu (by show scope.names.lookup y≠_;rw[k];decide)] at q;exact q
 .exact e0.hok.fresh (aG (x.above y c (xQ h)))
 .unfold start;show _=N.length;rw[zQ,zA,yD];omega
def jms{CX:CXT}{P:uW}{w:vL}{K:uT}{mg:Str->Option uB}{base:vQ}{k:Nat}{f:Addr}{name qual:Str}{params:wT}{body:List Stmt}{scope:wY}{dV kV doc pm cdv ct oc:uB}{an od:Option Addr}
  {osl:Array (Option uB)}{N ps:List Str}{sp:Sp}(lk:K.lookup f=some ⟨oc,od,.func (eP name qual params body scope dV kV doc pm an cdv ct),osl⟩)(hcd:dO K cdv qual=true)(S:jaa N ps scope)
  (len:∀vs H Q E,sp vs H Q E->vs.length=ps.length)
  (hbody:∀(A:vR)(outer:List Env)(s:uC)(H:Hp)(vs:List V)(Q:VK)(E:XK),jaz k (A.deeper (aJ qual scope ↑s f cdv))->sp vs H Q E->
   ∃t,PSs (cxOf CX P w K mg base N qual scope f cdv A outer s H E) body t/\t {nx:=fun _ H'=>Q .non H',rt:=Q} (start N vs) H):
  jac P w K mg base CX (k+1) f (eP name qual params body scope dV kV doc pm an cdv ct) ps sp:=by
 refine⟨len,fun A outer s H args us vs Q E hr e0 hb r hsp=>?_⟩;have hl:=len _ _ _ _ hsp;have KX:K.In s.heap:=e0.mod.kin.keeps fun b o e=>(e0.bs b o e).1;have lim:s.heap.NoLimit:=e0.mod.nolimit.keeps fun b o e=>(e0.bs b o e).1;have hkind:∀y∈ps.zip us,scope.names.lookup y.1=some .local\/(scope.names.lookup y.1=some .cell/\((eA (↑s+1) scope.names []).lookup y.1).isSome=true):=fun⟨n,v⟩ hy=>by
  rcases S.par n (List.of_mem_zip hy).1 with q|q
  .exact .inl q
  .exact .inr ⟨q,PySem.W.cellsFrom_some _ _ _ (.inl q)⟩
 refine codeAny_call_function hr.depth (KX _ _ lk) rfl S.co S.gen rfl (PySem.W.codeRec_of KX hcd) (hb _ _ _ _ ?_);refine wpAny_newFunctionEnv_cells S.kind hkind fun env he s1 x=>?_;subst he;refine⟨lim.keeps x.toInCall.keep,codeAny_func ?_⟩;obtain⟨t,ht,hq⟩:=hbody A outer s H vs Q E (hr.deeper _) hsp;have I:Inv (cxOf CX P w K mg base N qual scope f cdv A outer s H E) [] (start N vs) H s1:=jgv S hr.hd e0 hl r x;refine vS (ht [] s1 (start N vs) H _ I hq) (fun fl s' hs=>?_) fun e s' hs=>hs;have fin:∀{σ':St} {H':Hp} {v:V} {u:uB},Inv (cxOf CX P w K mg base N qual scope f cdv A outer s H E) [] σ' H' s'->qb6 v u->Q v H'->CE outer P w H s Q u s':=
  fun {σ' H' v u} J rv q=>⟨v,H',J.os,J.bare,J.base,J.hok,rv,q⟩
 cases fl with
 |ret u=>
  obtain⟨v,σ',H',J,rv,q⟩:=hs;exact fin J rv q
 |next=>
  obtain⟨σ',H',J,q⟩:=hs;exact fin (v:=V.non) (u:=wI) J rfl q
 |brk=>
  obtain⟨_,_,_,q⟩:=hs;exact vP q
 |cont=>
  obtain⟨_,_,_,q⟩:=hs;exact vP q
section
variable{X:Cx}{x:Str}{p pos:Pos}{e:vV}{es:List vV}{t:TA}{id T:String}{r:List V->Hp->VK->Prop}
def tCB(r:List V->Hp->VK->Prop)(t:TA):TE:=fun σ H Q=>t σ H fun vs H1=>r vs H1 Q
def qaf(hc:qcr X (.builtin id) r)(hg:Gl X x)(hm:X.mg x=none)(hv:aW x=some (.builtin id))(ha:PA X (e::es) t)(hn:x≠"__name__":=by decide)(hdb:(x==("__debug__":Str))=false:=by decide)
  (he:uZ (e::es) X.env=(false,wK e X.env)::uZ es X.env:=by rfl) (hpl:(wQ pos (uZ es X.env)).any (·.1)=false:=by rfl):PE X (.Call (.Name x p) (e::es) [] pos) (tCB r t):=by
 intro pins s σ H Q I h;refine xD (qg9 I hg hm hv ?_ hn hdb);exact PyProof.Rows.callWith_builtin1 (thn (ha pos pins s σ H _ I h) fun us s1 ⟨vs,H1,I1,r1,q1⟩=>hc pins s1 σ H1 vs us Q I1 r1 q1) he hpl
def qbz(hc:qcr X (.type T) r)(hg:Gl X x)(hm:X.mg x=none)(hv:aW x=some (.type T))(ha:PA X (e::es) t)(hn:x≠"__name__":=by decide)(hdb:(x==("__debug__":Str))=false:=by decide)
  (he:uZ (e::es) X.env=(false,wK e X.env)::uZ es X.env:=by rfl) (hpl:(wQ pos (uZ es X.env)).any (·.1)=false:=by rfl):PE X (.Call (.Name x p) (e::es) [] pos) (tCB r t):=by
 intro pins s σ H Q I h;refine xD (qg9 I hg hm hv ?_ hn hdb);exact yV (thn (ha pos pins s σ H _ I h) fun us s1 ⟨vs,H1,I1,r1,q1⟩=>hc pins s1 σ H1 vs us Q I1 r1 q1) he hpl
end
end L2
namespace HT
open PySem PyProof.Rows
end HT
namespace L2
open PySem PySem.Spec PyProof.Rows
abbrev TO:=St->Hp->(Option Int->Hp->Prop)->Prop
def ixN(n:Nat)(i:Int):Option Nat:=if 0<=i then(if i<n then some i.toNat else none) else if -(n:Int)<=i then some (i+n).toNat else none
def atI{α:Type}(xs:List α)(i:Int):Option α:=(ixN xs.length i).bind fun j=>xs[j]?
def jmt{n:Nat}{i:Int}{j:Nat}(h:ixN n i=some j):seqIndex? i n=some j/\j<n/\-(n:Int)<=i/\i<n:=by
 unfold ixN at h;by_cases h0:0<=i
 .rw[gU h0] at h;by_cases h1:i<n
  .rw[gU h1] at h;have e:i.toNat=j:=uN h;exact⟨by rw[seqIndex_of h0 h1,e],↑∅,↑∅,h1⟩
  .rw[gT h1] at h;cases h
 .rw[gT h0] at h;by_cases h1: -(n:Int)<=i
  .rw[gU h1] at h;have e:(i+n).toNat=j:=uN h;exact⟨by rw[seqIndex_neg ↑∅ h1,e],↑∅,h1,↑∅⟩
  .rw[gT h1] at h;cases h
def jdv{α:Type}{xs:List α}{i:Int}{v:α}(h:atI xs i=some v):∃j,seqIndex? i xs.length=some j/\xs[j]?=some v/\j<xs.length/\-(xs.length:Int)<=i/\i<xs.length:=by
 unfold atI at h
 cases e:ixN xs.length i with
 |none=>rw[e] at h;cases h
 |some j=>
  rw[e] at h;obtain⟨h1,h2,h3,h4⟩:=jmt e;exact⟨j,h1,h,h2,h3,h4⟩
def qbp{α:Type}{xs:List α}{j:Nat}{v:α}(h:xs[j]?=some v):atI xs (j:Int)=some v:=by
 have hj:j<xs.length:=(uF.mp h).1;have e:ixN xs.length (j:Int)=some j:=by
  unfold ixN;rw[gU ↑∅,gU ↑∅];simp
 unfold atI;rw[e];exact h
def jgw(b:vV):Prop:=∀o i,subscripted b false o i=operate [o,i] (getItem o i)
def IxR(X:Cx)(r:R2):Prop:=
 ∀(value slice:vV)(pins:List (Addr×Obj))(s:uC)(σ:St)(H:Hp)(x y:V)(v u:uB)(Q:VK),Inv X pins σ H s->qb6 x v->qb6 y u->r x y H Q->
  subscripted slice false v u=operate [v,u] (getItem v u)->uV (uX X.prog X.w) X.A (subscriptTail value slice v u) (EP X pins σ Q) X.xe s
def MtR(X:Cx)(id:String)(r:V->List V->Hp->VK->Prop):Prop:=
 ∀(pins:List (Addr×Obj))(s:uC)(σ:St)(H:Hp)(x:V)(xs:List V)(v:uB)(us:List uB)(Q:VK),Inv X pins σ H s->qb6 x v->qbk xs us->r x xs H Q->
  uV (uX X.prog X.w) X.A (call (.builtin id) (v::us)) (EP X pins σ Q) X.xe s
section
variable{X:Cx}{a b:vV}{ta tb:TE}{pos:Pos}
def qam{r:R2}(hr:IxR X r)(ha:PE X a ta)(hb:PE X b tb)(hs:jgw b):PE X (.Subscript a b pos) (tOp r ta tb):=by
 intro pins s σ H Q I h;exact Subscript_ (jso ha hb I h fun v u s2 x y H2 I2 rx ry q=>hr a b pins s2 σ H2 x y v u Q I2 rx ry q (hs _ _))
def jse(K:uT):R2:=fun x y H Q=>∃p xs i v,x=.ref p/\y=.int i/\SqL K H p xs/\atI xs i=some v/\Q v H
def juz(K:uT):R2:=fun x y H Q=>∃p xs i v,x=.ref p/\y=.int i/\SqT K H p xs/\atI xs i=some v/\Q v H
def ju0:R2:=fun x y H Q=>∃z i c,x=.str z/\y=.int i/\z.length<=sizeLine/\atI z.cps.toList i=some c/\Q (.str ⟨#[c]⟩) H
def qaq:IxR X (jse X.K):=by
 intro value slice pins s σ H x y v u Q I rx ry h hs;obtain⟨p,xs,i,z,rfl,rfl,hq,he,q⟩:=h
 cases rx
 obtain⟨t,rfl⟩:=ry;obtain⟨its,r,pl,hz⟩:=I.list hq;obtain⟨j,h1,h2,h3,h4,h5⟩:=jdv he;obtain⟨w,ew,rw'⟩:=r.get h2;have hl:=r.length;have hn:=jcp;have fin:EP X pins σ Q w s:=⟨z,H,I,rw',q⟩;by_cases h0:0<=i
 .have hj:i.toNat=j:=by
   rw[seqIndex_of h0 h5] at h1;exact uN h1
  exact item_listR pl.isList h0 ↑∅ (by rw[hj];simpa using ew) fin hs
 .have hj:(i+(its.toArray.size:Int)).toNat=j:=by
   rw[seqIndex_neg ↑∅ h4] at h1;rw[zK,<-hl];exact uN h1
  exact subscriptTail_builtinR (x:=w) pl.isList.typeIs slot_list_getitem.lookup
   (wpAny_getItem_list_neg (Q:=fun r s'=>r=w/\EP X pins σ Q r s') pl.isList ↑∅ (by rw[zK]<;>omega) ↑∅ (by rw[hj];simpa using ew) ⟨rfl,fin⟩) hs
def qat:IxR X (juz X.K):=by
 intro value slice pins s σ H x y v u Q I rx ry h hs;obtain⟨p,xs,i,z,rfl,rfl,hq,he,q⟩:=h
 cases rx
 obtain⟨t,rfl⟩:=ry;obtain⟨its,r,pl,hz⟩:=I.tuple hq;obtain⟨j,h1,h2,h3,h4,h5⟩:=jdv he;obtain⟨w,ew,rw'⟩:=r.get h2;have hl:=r.length;have hn:=jcp;have fin:EP X pins σ Q w s:=⟨z,H,I,rw',q⟩;exact subscriptTail_builtinR (x:=w) pl.typeIs slot_tuple_getitem.lookup
  (getItem_tuple (j:=j) (Q:=fun r s'=>r=w/\EP X pins σ Q r s') pl ↑∅ ↑∅ (by rw[zK,<-hl];exact h1) (by simpa using ew) ⟨rfl,fin⟩) hs
def jld:IxR X ju0:=by
 intro value slice pins s σ H x y v u Q I rx ry h hs;obtain⟨z,i,c,rfl,rfl,hz,he,q⟩:=h;obtain⟨t,rfl⟩:=rx;obtain⟨t',rfl⟩:=ry;obtain⟨j,h1,h2,h3,h4,h5⟩:=jdv he;have hl:z.cps.toList.length=z.length:=by simp[Str.length]
 rw[hl] at h1 h4 h5;have hn:=jcp;exact tail_any (typeIs_str s z t) slot_str_getitem.lookup (getItem_str (c:=c) (by
  have e1:decide (i < -(2^63:Int))=false:=gX ↑∅;have e2:decide (i≥2^63)=false:=gX ↑∅;rw[e1,e2,Bool.or_false]) (by rw[h1];simpa using h2) ⟨.str ⟨#[c]⟩,H,I.tok _,⟨_,rfl⟩,q⟩) hs
def qd4:V->Bool
 | .non=>true
 | .bl _=>true
 | .int _=>true
 | .str _=>true
 |_=>false
def eqV:V->V->Bool
 | .non,.non=>true
 | .bl a,.bl b=>a==b
 | .bl a,.int b=>(if a then 1 else 0)==b
 | .int a,.bl b=>a==(if b then 1 else 0)
 | .int a,.int b=>a==b
 | .str a,.str b=>a==b
 |_,_=>false
def je7{A:vR}{s:uC}{y x:V}{u v:uB}(ry:qb6 y u)(rx:qb6 x v)(fy:qd4 y=true)(fx:qd4 x=true):SeqAt.EqAt A s u v (eqV y x):=by
 cases y with
 |non=>
  cases ry
  cases x with
  |non=>cases rx;exact SeqAt.EqAt.same _
  |bl b=>cases rx;exact SeqAt.EqAt.none_bool b
  |int b=>obtain⟨t,rfl⟩:=rx;exact SeqAt.EqAt.none_int b t
  |str b=>obtain⟨t,rfl⟩:=rx;exact SeqAt.EqAt.none_str b t
  |_=>exact absurd (show false=true from fx) uU
 |bl a=>
  cases ry
  cases x with
  |non=>cases rx;exact SeqAt.EqAt.bool_none a
  |bl b=>cases rx;exact SeqAt.EqAt.bool_bool a b
  |int b=>obtain⟨t,rfl⟩:=rx;exact SeqAt.EqAt.bool_int a b t
  |str b=>obtain⟨t,rfl⟩:=rx;exact SeqAt.EqAt.bool_str a b t
  |_=>exact absurd (show false=true from fx) uU
 |int a=>
  obtain⟨t',rfl⟩:=ry
  cases x with
  |non=>cases rx;exact SeqAt.EqAt.int_none a t'
  |bl b=>cases rx;exact SeqAt.EqAt.int_bool a t' b
  |int b=>obtain⟨t,rfl⟩:=rx;exact SeqAt.EqAt.int_int a t' b t
  |str b=>obtain⟨t,rfl⟩:=rx;exact SeqAt.EqAt.int_str a t' b t
  |_=>exact absurd (show false=true from fx) uU
 |str a=>
  obtain⟨t',rfl⟩:=ry
  cases x with
  |non=>cases rx;exact SeqAt.EqAt.str_none a t'
  |bl b=>cases rx;exact SeqAt.EqAt.str_bool a t' b
  |int b=>obtain⟨t,rfl⟩:=rx;exact SeqAt.EqAt.str_int a t' b t
  |str b=>obtain⟨t,rfl⟩:=rx;exact SeqAt.EqAt.str_str a t' b t
  |_=>exact absurd (show false=true from fx) uU
 |_=>exact absurd (show false=true from fy) uU
def eqU(x:V)(u:uB):Bool:=match u with
 | .none=>eqV .non x
 | .bool b=>eqV (.bl b) x
 | .int i _=>eqV (.int i) x
 | .str z _=>eqV (.str z) x
 |_=>false
def jle{x y:V}{u:uB}(r:qb6 y u)(f:qd4 y=true):eqU x u=eqV y x:=by
 cases y with
 |non=>cases r;rfl
 |bl b=>cases r;rfl
 |int i=>obtain⟨t,rfl⟩:=r;rfl
 |str z=>obtain⟨t,rfl⟩:=r;rfl
 |_=>exact absurd (show false=true from f) uU
theorem qfw{x:V}:∀{xs:List V} {us:List uB},qbk xs us->xs.all qd4=true->us.any (eqU x)=xs.any fun y=>eqV y x
 |_,_,.nil,_=>rfl
 |y::xs,u::us,.cons r t,f=>by
  rw[yS,vZ] at f;rw[yQ,yQ,jle r f.1,qfw t f.2]
theorem qeg{A:vR}{s:uC}{x:V}{v:uB}(rx:qb6 x v)(fx:qd4 x=true):∀{xs:List V} {us:List uB},qbk xs us->xs.all qd4=true->∀u∈us,SeqAt.EqAt A s u v (eqU x u)
 |_,_,.nil,_=>fun u hu=>by cases hu
 |y::xs,u::us,.cons r t,f=>fun u' hu=>by
  rw[yS,vZ] at f;rcases zO.mp hu with rfl|hu
  .rw[jle r f.1];exact je7 r rx f.1 fx
  .exact qeg rx fx t f.2 u' hu
def inV(x:V)(xs:List V):Bool:=xs.any fun y=>eqV y x
def rIn(K:uT)(neg:Bool):R2:=fun x y H Q=>∃p xs,y=.ref p/\(SqL K H p xs\/SqT K H p xs)/\qd4 x=true/\xs.all qd4=true/\Q (.bl (if neg then !inV x xs else inV x xs)) H
def jcu:OpR X (wD .In) (rIn X.K false):=by
 intro pins s σ H x y v u Q I rx ry h;obtain⟨p,xs,rfl,hq,fx,fs,q⟩:=h
 cases ry
 rcases hq with hq|hq
 .obtain⟨its,r,pl,hz⟩:=I.list hq;refine SeqAt.in_listAt (eqU x) pl.isList (fun w hw=>qeg rx fx r fs w (by simpa using hw)) ⟨.bl _,H,I,rfl,?_⟩;rw[show its.toArray.any (eqU x)=its.any (eqU x) by simp,qfw r fs];exact q
 .obtain⟨its,r,pl,hz⟩:=I.tuple hq;refine SeqAt.in_tupleAt (eqU x) pl (fun w hw=>qeg rx fx r fs w (by simpa using hw)) ⟨.bl _,H,I,rfl,?_⟩;rw[show its.toArray.any (eqU x)=its.any (eqU x) by simp,qfw r fs];exact q
def qct:OpR X (wD .NotIn) (rIn X.K true):=by
 intro pins s σ H x y v u Q I rx ry h;obtain⟨p,xs,rfl,hq,fx,fs,q⟩:=h
 cases ry
 rcases hq with hq|hq
 .obtain⟨its,r,pl,hz⟩:=I.list hq;refine SeqAt.notIn_listAt (eqU x) pl.isList (fun w hw=>qeg rx fx r fs w (by simpa using hw)) ⟨.bl _,H,I,rfl,?_⟩;rw[show its.toArray.any (eqU x)=its.any (eqU x) by simp,qfw r fs];exact q
 .obtain⟨its,r,pl,hz⟩:=I.tuple hq;refine SeqAt.notIn_tupleAt (eqU x) pl (fun w hw=>qeg rx fx r fs w (by simpa using hw)) ⟨.bl _,H,I,rfl,?_⟩;rw[show its.toArray.any (eqU x)=its.any (eqU x) by simp,qfw r fs];exact q
def jcv:qcr X (.builtin "len") (fun xs H Q=>∃p ys,xs=[.ref p]/\(SqL X.K H p ys\/SqT X.K H p ys)/\Q (.int ys.length) H):=by
 intro pins s σ H xs us Q I r h;obtain⟨p,ys,rfl,hq,q⟩:=h;obtain⟨u,rfl,rx⟩:=jgq r
 cases rx
 have hn:=jcp;rcases hq with hq|hq
 .obtain⟨its,r',pl,hz⟩:=I.list hq;have hlen:=r'.length;exact Calls.call_len_list pl.isList (by simp only[zK]<;>omega) ⟨.int ys.length,H,I.tok _,⟨s.toks+1,by rw[zK,hlen]⟩,q⟩
 .obtain⟨its,r',pl,hz⟩:=I.tuple hq;have hlen:=r'.length;exact len_tuple pl (by simp only[zK]<;>omega) ⟨.int ys.length,H,I.tok _,⟨s.toks+1,by rw[zK,hlen]⟩,q⟩
def jcw:qcr X (.builtin "len") (fun xs H Q=>∃z,xs=[.str z]/\z.length<=sizeLine/\Q (.int z.length) H):=by
 intro pins s σ H xs us Q I r h;obtain⟨z,rfl,hz,q⟩:=h;obtain⟨u,rfl,t,rfl⟩:=jgq r;have hn:=jcp;exact len_str ↑∅ ⟨.int z.length,H,I.tok _,⟨_,rfl⟩,q⟩
def jcx:qcr X (.type "list") (fun xs H Q=>∃p ys,xs=[.ref p]/\(SqL X.K H p ys\/SqT X.K H p ys)/\∀l,H l=none->Q (.ref l) (upd H l (.lst ys))):=by
 intro pins s σ H xs us Q I r h;obtain⟨p,ys,rfl,hq,q⟩:=h;obtain⟨u,rfl,rx⟩:=jgq r
 cases rx
 have fin:∀(its:List uB),qbk ys its->ys.length<=sizeLine->∀(h':vQ)(c':Nat),(∀b o',s.heap.get? b=some o'->h'.get? b=some o')->
   h'.get? ↑s=some {cls:=.type "list",dict:=none,data:=.seq its.toArray c',slots:=#[]}->EP X pins σ Q (.ref ↑s) {s with heap:=h'}:=fun its r' hz h' c' kp e=>
  ⟨.ref ↑s,_,I.laid (t':=s.toks) kp (uG _) (show qbq X.prog X.w _ h' _ (.lst ys) from⟨hz,its,c',r',e⟩),rfl,q _ (I.hok.fresh (uG _))⟩
 rcases hq with hq|hq
 .obtain⟨its,r',pl,hz⟩:=I.list hq;have hlen:=r'.length;obtain⟨o,ho,hc,n,hd⟩:=pl.isList;exact call_list_seq p (.inl rfl) ho hc hd (fun h' c' kp e=>fin its r' hz h' c' kp e) (by simp only[zK]<;>omega)
 .obtain⟨its,r',pl,hz⟩:=I.tuple hq;have hlen:=r'.length;obtain⟨o,ho,hc,n,hd⟩:=pl;exact call_list_seq p (.inr rfl) ho hc hd (fun h' c' kp e=>fin its r' hz h' c' kp e) (by simp only[zK]<;>omega)
def tyV(K:uT)(T:String)(x:V)(H:Hp):Prop:=match x with
 | .str _=>T= "str"
 | .int _=>T= "int"
 | .ref p=>(T= "list"/\∃xs,SqL K H p xs)\/(T= "tuple"/\∃o,K.lookup p=some o/\o.cls=.type "tuple"/\o.dict=none)\/
   (T= "dict"/\((∃kvs,H p=some (.dK kvs))\/∃kvs,H p=some (.dT kvs)))\/(T= "set"/\∃S n,H p=some (.set S n))
 |_=>False
def jlf{pins:List (Addr×Obj)}{σ:St}{H:Hp}{s:uC}{T:String}{x:V}{v:uB}(I:Inv X pins σ H s)(r:qb6 x v)(ty:tyV X.K T x H):
  s.TypeIs v T/\∀a,v=.ref a->∃ob,s.heap.get? a=some ob/\ob.dict=none:=by
 cases x with
 |str z=>
  obtain⟨t,rfl⟩:=r
  cases(show T= "str" from ty)
  exact⟨typeIs_str s z t,fun _ e=>nomatch e⟩
 |int i=>
  obtain⟨t,rfl⟩:=r
  cases(show T= "int" from ty)
  exact⟨typeIs_int s i t,fun _ e=>nomatch e⟩
 |ref p=>
  cases r
  rcases ty with⟨rfl,xs,hq⟩|⟨rfl,o,hk,hc,hd⟩|⟨rfl,hk⟩|⟨rfl,S,n,hk⟩
  .obtain⟨its,_,pl,_⟩:=I.list hq;refine⟨pl.isList.typeIs,fun a e=>?_⟩
   cases e
   obtain⟨o,n,e,c,hd,_⟩:=pl;exact⟨o,e,hd⟩
  .refine⟨⟨o,I.kIn p o hk,hc⟩,fun a e=>?_⟩
   cases e
   exact⟨o,I.kIn _ o hk,hd⟩
  .have z:∃o,s.heap.get? p=some o/\o.ExactDict:=by
    rcases hk with⟨kvs,hk⟩|⟨kvs,hk⟩
    .obtain⟨_,_,_,_,o,_,_,e,ex,_⟩:=I.hok p _ hk;exact⟨o,e,ex⟩
    .obtain⟨_,_,_,_,o,_,_,e,ex,_⟩:=I.hok p _ hk;exact⟨o,e,ex⟩
   obtain⟨o,e,ex⟩:=z;refine⟨⟨o,e,ex.1⟩,fun a e2=>?_⟩
   cases e2
   exact⟨o,e,ex.2.1⟩
  .obtain⟨o,_,_,_,e,ex,_⟩:=I.hok p _ hk;refine⟨⟨o,e,ex.1⟩,fun a e2=>?_⟩
   cases e2
   exact⟨o,e,ex.2.1⟩
 |_=>exact vP ty
def ju1(K:uT)(T:String)(r:V->List V->Hp->VK->Prop)(to:TE):TE:=fun σ H Q=>to σ H fun x H1=>tyV K T x H1/\r x [] H1 Q
def tBM(K:uT)(T:String)(r:V->List V->Hp->VK->Prop)(to:TE)(t:TA):TE:=fun σ H Q=>to σ H fun x H1=>tyV K T x H1/\t σ H1 fun xs H2=>r x xs H2 Q
variable{o e:vV}{es:List vV}{to:TE}{t:TA}{name:Str}{apos cpos:Pos}{T id:String}{r:V->List V->Hp->VK->Prop}
def jpq(pa:PlainAttrs T)(slot:Slot T name id)(hty:typeOf (.builtin id)=pure (.type "method_descriptor"))(hm:MtR X id r)(ho:PE X o to)
  (hbase:bQ o name X.env (wK o X.env)=wK o X.env:=by rfl)(hline:(apos.endLine==cpos.line)=true:=by rfl):PE X (.Call (.Attribute o name apos) [] [] cpos) (ju1 X.K T r to):=by
 intro pins s σ H Q I h;refine wpAny_Call_method0_late hbase hline (thn (ho pins s σ H _ I h) fun v s1 ⟨x,H1,I1,r1,ty,q1⟩=>?_);obtain⟨h1,h2⟩:=jlf I1 r1 ty;exact⟨T,id,pa,slot,hty,h1,h2,dA rfl (PySem.evalArgs_none (hm pins s1 σ H1 x [] v [] Q I1 r1 .nil q1))⟩
def qg2(pa:PlainAttrs T)(slot:Slot T name id)(hty:typeOf (.builtin id)=pure (.type "method_descriptor"))(hm:MtR X id r)(ho:PE X o to)(ha:PA X (e::es) t)
  (hbase:bQ o name X.env (wK o X.env)=wK o X.env:=by rfl)
  (hfew:((wQ cpos (uZ (e::es) X.env)).all (fun x=>!x.1) && (cB cpos (aB [] X.env)).all (fun x=>x.1.isSome)
   && decide ((e::es).length+([]:List Keyword).length+(if([]:List Keyword).isEmpty then 0 else 1)<30))=true:=by rfl)
  (hline:(apos.endLine==cpos.line)=true:=by rfl) (hs:uZ (e::es) X.env=(false,wK e X.env)::uZ es X.env:=by rfl) (hplain:(wQ cpos (uZ es X.env)).any (·.1)=false:=by rfl):
  PE X (.Call (.Attribute o name apos) (e::es) [] cpos) (tBM X.K T r to t):=by
 intro pins s σ H Q I h;refine wpAny_Call_method_late hbase hfew hline rfl (thn (ho pins s σ H _ I h) fun v s1 ⟨x,H1,I1,r1,ty,q1⟩=>?_);obtain⟨h1,h2⟩:=jlf I1 r1 ty;refine⟨T,id,pa,slot,hty,h1,h2,?_⟩;have hA:=ha cpos pins s1 σ H1 _ I1 q1;rw[hs] at hA⊢;refine dA (by show(false ||(wQ cpos (uZ es X.env)).any (·.1))=false;rw[hplain]<;>rfl) (bR ?_);exact thn hA fun us s2 ⟨vs,H2,I2,r2,q2⟩=>hm pins s2 σ H2 x vs v us Q I2 r1 r2 q2
end
def MtM(X:Cx)(id:String)(r:V->List V->Hp->VK->Prop):Prop:=
 ∀(pins:List (Addr×Obj))(s:uC)(σ:St)(H:Hp)(x:V)(xs:List V)(v:uB)(us:List uB)(Q:VK),Inv X pins σ H s->qb6 x v->qbk xs us->r x xs H Q->
  uV (uX X.prog X.w) X.A (call (.builtin id) (v::us)) (EP X pins σ Q) X.xe s
def qbk.one:∀{x:V} {us:List uB},qbk [x] us->∃u,us=[u]/\qb6 x u
 |_,_,.cons r .nil=>⟨_,rfl,r⟩
def qbk.zero:∀{us:List uB},qbk [] us->us=[]
 |_,.nil=>rfl
theorem qbk.rep{xs:List V}{us:List uB}(h:qbk xs us):∀k:Nat,qbk (uR k xs).flatten (uR k us).flatten
 |0=> .nil
 |k+1=>by
  rw[yF,yF,bA,bA];exact qbk.append h (qbk.rep h k)
theorem jcy(its:List uB):∀(k:Nat)(acc:List uB),
  List.foldl (fun x1 x2=>x1++x2) acc.toArray (uR k its.toArray)=(acc++(uR k its).flatten).toArray
 |0,acc=>by simp
 |k+1,acc=>by
  have e:acc.toArray++its.toArray=(acc++its).toArray:=by simp
  have e2:(acc++its)++(uR k its).flatten=acc++(uR (k+1) its).flatten:=by
   rw[yF,bA,bB]
  rw[<-e2,<-jcy its k (acc++its),<-e,yF,List.foldl_cons]
section
variable{X:Cx}{pins:List (Addr×Obj)}{σ:St}{H:Hp}{s:uC}{l:Addr}{xs ys:List V}
def Inv.lset{its its':List uB}{n:Nat}{f:Array uB->Array uB}{t':Nat}(I:Inv X pins σ H s)(hH:H l=some (.lst xs))
  (e:s.heap.get? l=some {cls:=.type "list",data:=.seq its.toArray n})(hf:f its.toArray=its'.toArray)(hv:qbk ys its')(hz:ys.length<=sizeLine):
  Inv X pins σ (upd H l (.lst ys)) {s with heap:=s.heap.update l (Obj.mapSeq f),toks:=t'}:=by
 have q:=PySem.IsL.update e f;rw[hf] at q;refine I.write (x:=l) (e:=l) (by rw[hH];exact trivial) (.inl rfl) (fun b' u hb hu=>(xB s.heap (Obj.mapSeq f) (xP hb)).trans hu) ⟨_,q⟩ ?_;exact⟨hz,its',_,hv,q⟩
def Inv.lnew{its:List uB}{t':Nat}(I:Inv X pins σ H s)(hv:qbk ys its)(hz:ys.length<=sizeLine):
  Inv X pins σ (upd H ↑s (.lst ys)) {s with heap:=s.heap.push {cls:=.type "list",data:=.seq its.toArray},toks:=t'}:=
 I.laid (fun _ _ q=>uD _ q) (uG _) ⟨hz,its,0,hv,vE _ rfl⟩
theorem Inv.fresh(I:Inv X pins σ H s):H ↑s=none:=I.hok.fresh (uG _)
def Inv.lstM(I:Inv X pins σ H s)(hH:H l=some (.lst xs)):xs.length<=sizeLine/\∃(its:List uB)(n:Nat),qbk xs its/\xs.length=its.length/\s.heap.get? l=some {cls:=.type "list",data:=.seq its.toArray n}:=by
 obtain⟨z,its,n,r,e⟩:=I.hok l _ hH;exact⟨z,its,n,r,r.length,e⟩
def je8{n:Nat}(h:n<=sizeLine):aL n=false:=by
 unfold aL;exact gX ↑∅
end
section
variable{X:Cx}
def jgx:V->List V->Hp->VK->Prop:=fun x vs H Q=>∃l xs y,x=.ref l/\vs=[y]/\H l=some (.lst xs)/\xs.length<sizeLine/\Q .non (upd H l (.lst (xs++[y])))
def qc8:MtM X "list.append" jgx:=by
 intro pins s σ H x vs v us Q I rx rv h;obtain⟨l,xs,y,rfl,rfl,hH,hz,q⟩:=h
 cases rx
 obtain⟨u,rfl,ru⟩:=rv.one;obtain⟨z,its,n,r,hl,e⟩:=I.lstM hH;refine fE F.slot_list_append ⟨_,e,rfl⟩ F.entry_list_append (F.args_list_append_2 _ _) (PySem.list_append l its.toArray n u (by rw[zK];omega)) ⟨e,?_⟩;refine⟨.non,_,I.lset (its':=its++[u]) hH e (by simp) (r.append (.cons ru .nil)) ?_,rfl,q⟩;rw[zQ,yC];omega
def jgy:V->List V->Hp->VK->Prop:=fun x vs H Q=>∃l b xs zs,x=.ref l/\vs=[.ref b]/\H l=some (.lst xs)/\H b=some (.lst zs)/\xs.length+zs.length<=sizeLine/\Q .non (upd H l (.lst (xs++zs)))
def jgz:MtM X "list.extend" jgy:=by
 intro pins s σ H x vs v us Q I rx rv h;obtain⟨l,b,xs,zs,rfl,rfl,hH,hB,hz,q⟩:=h
 cases rx
 obtain⟨u,rfl,ru⟩:=rv.one
 cases ru
 obtain⟨z,its,n,r,hl,e⟩:=I.lstM hH;obtain⟨z2,its2,n2,r2,hl2,e2⟩:=I.lstM hB;have hsz:its.toArray.size+its2.toArray.size<=sizeLine:=by rw[zK,zK];omega
 have hlong:¬(!its.toArray.isEmpty && aL (its.toArray.size+its2.toArray.size))=true:=by
  rw[je8 hsz,Bool.and_false];exact uU
 refine fE F.slot_list_extend ⟨_,e,rfl⟩ F.entry_list_extend (F.args_list_extend_2 _ _)
  (AutoSeq1.list_extend_list_list_0 l its.toArray n b its2.toArray n2 hlong (by rw[zK];omega) ↑∅) ⟨e,e2,?_⟩
 refine⟨.non,_,I.lset (its':=its++its2) hH e (by simp) (r.append r2) ?_,rfl,q⟩;rw[zQ];omega
def ju2:R2:=fun x y H Q=>∃l b xs zs,x=.ref l/\y=.ref b/\H l=some (.lst xs)/\H b=some (.lst zs)/\xs.length+zs.length<=sizeLine/\∀p,H p=none->Q (.ref p) (upd H p (.lst (xs++zs)))
def jg0:OpR X (aA .Add) ju2:=by
 intro pins s σ H x y v u Q I rx ry h;obtain⟨l,b,xs,zs,rfl,rfl,hH,hB,hz,q⟩:=h
 cases rx
 cases ry
 obtain⟨z,its,n,r,hl,e⟩:=I.lstM hH;obtain⟨z2,its2,n2,r2,hl2,e2⟩:=I.lstM hB;refine PySem.P.add_list e e2 ?_ (by rw[zK,zK];omega);have ea:its.toArray++its2.toArray=(its++its2).toArray:=by simp
 rw[ea];exact⟨.ref _,_,I.lnew (t':=s.toks) (r.append r2) (by rw[zQ];omega),rfl,q _ I.fresh⟩
def rRep:R2:=fun x y H Q=>∃l k xs,x=.ref l/\y=.int k/\H l=some (.lst xs)/\-(2^63)<=k/\k<2^63/\xs.length*k.toNat<=sizeLine/\
 ∀p,H p=none->Q (.ref p) (upd H p (.lst (uR k.toNat xs).flatten))
def jmu{α:Type}(xs:List α)(k:Nat):(uR k xs).flatten.length=k*xs.length:=by
 induction k with
 |zero=>simp
 |succ k ih=>rw[yF,bA,zQ,ih,Nat.succ_mul,Nat.add_comm]
def op_rep:OpR X (aA .Mult) rRep:=by
 intro pins s σ H x y v u Q I rx ry h;obtain⟨l,k,xs,rfl,rfl,hH,h1,h2,hz,q⟩:=h
 cases rx
 obtain⟨t,rfl⟩:=ry;obtain⟨z,its,n,r,hl,e⟩:=I.lstM hH;have hlen:its.toArray.size*k.toNat<=sizeLine:=by rw[zK,<-hl];exact hz
 have hcap:¬its.toArray.size*k.toNat >(2^63-1)/8:=by
  have:(sizeLine:Nat)<=(2^63-1)/8:=∅
  omega
 have hfit:¬(!Builtin.List.listFitsIndex k)=true:=by
  rw[fitsIndex_both h1 h2];exact uU
 have hlong:¬aL (its.toArray.size*k.toNat)=true:=by
  rw[je8 hlen];exact uU
 have hnew:List.foldl (fun x1 x2=>x1++x2) #[] (uR (if its.toArray.isEmpty=true then 0 else k.toNat) its.toArray)=(uR k.toNat its).flatten.toArray:=by
  have f0:∀m:Nat,List.foldl (fun x1 x2=>x1++x2) #[] (uR m its.toArray)=(uR m its).flatten.toArray:=fun m=>by
   have:=jcy its m [];rw[List.nil_append] at this;exact this
  rw[f0]
  cases its with
  |nil=>simp
  |cons a r'=>rw[gT (by simp)]
 refine wpAny_binaryOp_repeat_ref (T:="list") (U:="int") ∅ ⟨_,e,rfl⟩ (fun s'=>typeIs_int s' k t) noFill_list_mul F.fills_int_mul F.slot_int_rmul repeat_list F.slot_int_index.lookup
  (fE F.slot_int_rmul (typeIs_int s k t) F.entry_int_rmul (F.args_int_rmul_2 _ _) (int___rmul___int_list k t l its.toArray n)
   ⟨e,rfl,⟨_,e,rfl⟩,fE F.slot_list_mul ⟨_,e,rfl⟩ F.entry_list_mul (F.args_list_mul_2 _ _) (AutoListH.list___mul___list_int_3 l its.toArray n k t hfit hcap hlong) ⟨e,?_⟩⟩)
 rw[hnew];exact⟨.ref _,_,I.lnew (t':=s.toks) (r.rep k.toNat) (by rw[jmu,Nat.mul_comm];exact hz),rfl,q _ I.fresh⟩
end
end L2
namespace Att
open PySem PySem.W PySem.Calls PyProof.Rows
def qfo{P:Params}{h:vQ}:∀(ns:List Int)(vs:List uB),WellAll P h vs (ns.map WData.int)->IntsAre vs ns:=by
 intro ns
 induction ns with
 |nil=>
  intro vs w;rw[fU] at w
  cases w
  exact .nil
 |cons n ns ih=>
  intro vs w;rw[zU] at w
  cases w with
  |cons a b=>
   cases a
   exact .cons _ _ (ih _ b)
def jg1{l:OpenLaw}{n:Nat}(hn:l.most=some n){P:Params}{h:vQ}{args:List WData}{vals:List uB}
  (hpre:l.row.toRowW.claim.pre args=true)(hwl:WellAll P h vals args):
  ∃a vs ns,vals=[uQ a]/\args=[WData.list (ns.map WData.int)]/\h.get? a=some {cls:=.type "list",data:=.seq vs.toArray}/\IntsAre vs ns/\ns.length<=n:=by
 have hsh:WShape.hasAll [] args [.list .int]=true:=(pre_splitW hpre).1;have hc:l.pre.holds [] {args:=args}=true:=(pre_splitW hpre).2;obtain⟨d,r,rfl,h1,h2⟩:=hasAllW_cons hsh;obtain rfl:=hasAllW_nil h2;obtain⟨xs,rfl,h3⟩:=hasW_list h1;obtain⟨ns,rfl⟩:=items_int h3;have hlen:ns.length<=n:=by
  unfold OpenLaw.pre at hc;have h4:(WTm.not (.lt (.lit (.int (n:Int))) (.len (.arg 0)))).holds [] {args:=[.list (ns.map .int)]}=true:=by
   have h4:=(holds_andW hc).1;rw[hn] at h4;exact h4
  have h5:=condW_of h4 (w_not (w_lt w_lit (w_len_list (w_arg rfl))));rw[zA] at h5;refine Nat.le_of_not_lt fun q=>?_;have q':(n:Int) <((ns.length:Nat):Int):=by omega
  first
   |(rw[gW q'] at h5;exact absurd h5 ∅)
   |(simp at h5;omega)
 cases hwl with
 |cons w1 w2=>
  cases w2
  cases w1 with
  |list ho hall=>exact⟨_,_,ns,rfl,rfl,ho,qfo ns _ hall,hlen⟩
def jg2(l:OpenLaw)(args:List WData):l.row.toRowW.claim.post args (.bool true) args=true:=
 postW_of (r:=l.row.toRowW) (X:=(true==true))
  (show WShape.has [] (.bool true) .bool=true by first|rfl|decide|simp[WShape.has,WShape.arms,WShape.armsAll])
  (show(WTm.eq .res (.lit (.bool true))).value [] {args:=args,res:=some (.bool true),after:=args}=some (.bool (true==true)) from w_eq_bool (w_res rfl) w_lit) rfl
def attach_call{l:OpenLaw}{n:Nat}{q:uW}{loose:List Str}{XP:(Str->Option uB)->vQ->Prop}{YP:vL->vQ->Prop}{d:DefRec}
  (hn:l.most=some n)(hdf:d.params.defaults=[])
  (call:∀(w:vL)(s₀ s₁:uC)(mg mb:Str->Option uB)(fa:Addr)(o:Obj)(pm cd doc:uB)(a:Addr)(vs:List uB)(ns:List Int),
   Ground q loose [] XP w s₀ mg mb s₁.heap->YP w s₁.heap->
   s₁.heap.get? fa=some o->o.data=.func (docDef d.name d.params d.body d.scope pm cd doc)->s₁.heap.CodeRec cd d.name->mg d.name=some (.ref fa)->
   s₁.heap.get? a=some {cls:=.type "list",data:=.seq vs.toArray}->IntsAre vs ns->ns.length<=n->s₁.gens= #[]->
   bP (uX l.prog w) fV (.call (.ref fa) ⟨[.ref a],[]⟩) (fun r s'=>r=.ok (.ret (.bool true))/\OldK s₁.heap s'.heap/\s'.os=s₁.os/\cF s'.gens) s₁):
  WalkO q loose XP YP l.row.toRowW d [] (fun f vs=>PySem.call f vs):=by
 intro w s₀ s₁ mg mb G Y fa o pm cd doc dV kV ho hd hcd hD hmg hg args vals as hpre hlay hrd hwl hlo;obtain rfl:dV=.none:=Dflts.none hD hdf;obtain rfl:kV=.none:=Dflts.noKw hD;obtain⟨a,vs,ns,rfl,rfl,hobj,hints,hlen⟩:=jg1 hn hpre hwl;refine enter_call (xA (call w s₀ s₁ mg mb fa o pm cd doc a vs ns G Y ho (fd_plain hd) hcd hmg hobj hints hlen hg) fun r s' hq=>?_);obtain⟨rfl,h2,h3,h4⟩:=hq;exact⟨.inl ⟨.bool true,.bool true,[],rfl,fun _=>rfl,.bool true,jg2 l _,fun _=>⟨fW,fun _ hm=>(nomatch hm)⟩⟩,h2,h3,h4⟩
end Att
namespace L2
open PySem PySem.Spec PyProof.Rows
theorem jcz:∀{vs:List uB} {ns:List Int},IntsAre vs ns->qbk (ns.map V.int) vs
 |_,_,.nil=> .nil
 |_,_,.cons n t h=> .cons ⟨t,rfl⟩ (jcz h)
def qc5(s:Stmt):wT:=match s with
 | .FunctionDef _ a _ _ _ _ _ _ _ _=>a
 |_=>{posonlyargs:=[],args:=[],vararg:=none,kwonlyargs:=[],kw_defaults:=[],kwarg:=none,defaults:=[]}
def qbu(s:Stmt):List Stmt:=match s with
 | .FunctionDef _ _ b _ _ _ _ _ _ _=>b
 |_=> []
def qa8(s:Stmt):wY:=match s with
 | .FunctionDef _ _ _ _ _ _ sc _ _ _=>sc
 |_=>{kind:=.function,names:=[],isGenerator:=false,isCoroutine:=false}
abbrev CX0:CXT:=fun _ _ _ _ _ _=>False
abbrev E0:XK:=fun _ _ _=>False
def qaz{X:Cx}:qgd CX0 X E0:=fun _ _ _ _ _ _ _ h=>h.elim
structure Fun(K:uT)(x qual:Str)(st:Stmt)(f:Addr)(fd:uL):Prop where
 ex:∃(oc:uB)(od:Option Addr)(kV doc pm:uB)(an:Option Addr)(cdv ct:uB)(osl:Array (Option uB)),
  fd=eP x qual (qc5 st) (qbu st) (qa8 st) .none kV doc pm an cdv ct/\K.lookup f=some ⟨oc,od,.func fd,osl⟩/\dO K cdv qual=true
 kp:cM K (.ref f)=true
section
variable{P:uW}{w:vL}{K:uT}{mg:Str->Option uB}{base:vQ}
def Fun.ok{x qual:Str}{st:Stmt}{f:Addr}{fd:uL}{N ps:List Str}{k:Nat}{sp:Sp}(F:Fun K x qual st f fd)(S:jaa N ps (qa8 st))(len:∀vs H Q E,sp vs H Q E->vs.length=ps.length)
  (hbody:∀(cdv:uB)(A:vR)(outer:List Env)(s:uC)(H:Hp)(vs:List V)(Q:VK)(E:XK),jaz k (A.deeper (aJ qual (qa8 st) ↑s f cdv))->sp vs H Q E->
   ∃t,PSs (cxOf CX0 P w K mg base N qual (qa8 st) f cdv A outer s H E).nox (qbu st) t/\t {nx:=fun _ H'=>Q .non H',rt:=Q} (start N vs) H):jac P w K mg base CX0 (k+1) f fd ps sp:=by
 obtain⟨oc,od,kV,doc,pm,an,cdv,ct,osl,rfl,lk,hcd⟩:=F.ex;refine jms lk hcd S len fun A outer s H vs Q E hr hsp=>?_;obtain⟨t,h,q⟩:=hbody cdv A outer s H vs Q E hr hsp;exact⟨t,h.nox,q⟩
def Fun.binds{x qual:Str}{st:Stmt}{f:Addr}{fd:uL}{ps:List Str}(F:Fun K x qual st f fd)
  (h:∀(kV doc pm:uB)(an:Option Addr)(cdv ct:uB)(us:List uB),us.length=ps.length->bindArgs (eP x qual (qc5 st) (qbu st) (qa8 st) .none kV doc pm an cdv ct) ⟨us,[]⟩=pure (ps.zip us)):qan K fd ps []:=by
 obtain⟨oc,od,kV,doc,pm,an,cdv,ct,osl,rfl,lk,hcd⟩:=F.ex;exact .all (h kV doc pm an cdv ct)
def fun_mk{x qual:Str}{st:Stmt}{f:Addr}{oc:uB}{od an:Option Addr}{osl:Array (Option uB)}{kV doc pm cdv ct:uB}(l:K.lookup f=some ⟨oc,od,.func (eP x qual (qc5 st) (qbu st) (qa8 st) .none kV doc pm an cdv ct),osl⟩)
  (c:dO K cdv qual=true)(k:cM K (.ref f)=true):Fun K x qual st f (eP x qual (qc5 st) (qbu st) (qa8 st) .none kV doc pm an cdv ct):=⟨⟨oc,od,kV,doc,pm,an,cdv,ct,osl,rfl,l,c⟩,k⟩
end
def qav{A:vR}{k:Nat}(hr:jaz k A):A.units+1<cLine:=vI (Nat.add_le_add_left (by decide:1<=64) _) hr.units
section
variable{X:Cx}
def pv(i:Nat){x:Str}{pos:Pos}(hN:X.N[i]?=some x:=by rfl)(hv:Vis X.env.scope x:=by first|exact uI rfl|exact fF (uI rfl) |exact fF (fF rfl))(hd:(x==("__debug__":Str))=false:=by decide)
  (hcd:(x==("__classdict__":Str))=false:=by decide):PE X (.Name x pos) (jsl i):=jez hN hv hd hcd
end
def jsq{A B:Prop}(h:B):if false=true then A else B:=by
 rw[gT uU];exact h
def jsf{A B:Prop}(h:A):if true=true then A else B:=by
 rw[gU rfl];exact h
def jab(H H':Hp):Prop:=∀b o,H b=some o->H' b=some o
def jab.refl(H:Hp):jab H H:=fun _ _ h=>h
def jab.trans{H H1 H2:Hp}(a:jab H H1)(b:jab H1 H2):jab H H2:=fun c o h=>b c o (a c o h)
def jab.free{H H':Hp}(e:jab H H'){l:Addr}(h:H' l=Option.none):H l=Option.none:=by
 cases q:H l with
 |none=>rfl
 |some o=>
  rw[e l o q] at h
  cases h
def jab.seq{K:uT}{H H':Hp}{a:Addr}{xs:List V}(e:jab H H')(h:SqL K H a xs):SqL K H' a xs:=by
 rcases h with (h|⟨o,h⟩) |h
 .exact .inl (.inl (e _ _ h))
 .exact .inl (.inr ⟨o,e _ _ h⟩)
 .exact .inr h
end L2
namespace My
open PySem PySem.Spec PyProof.Rows L2
section
variable{X:Cx}
def jg3{k:Int}(h:k.natAbs<2^600):Builtin.Int.intBits k<=2^20:=
 vK (PyProof.Rows.intBits_le (k:=600) h) ∅
def jvs(i j:Int):Prop:=i.natAbs<2^600/\j.natAbs<2^600
def qba:OpR X (aA .Mult) (rI jvs fun i j=> .int (i*j)):=opI fun _ _ _ _ _ _ _ hc q=>mul_int q (IntMulOk.of_bits (jg3 hc.1) (jg3 hc.2))
def jsr(i j:Int):Prop:=j≠0/\j.natAbs<2^600
def jvt{x y:Int}(h:y.natAbs<2^600):Builtin.divisionGoesByPylong x y=false:=by
 refine PyProof.noPylong_of_log2 ?_;by_cases h0:y.natAbs=0
 .rw[h0];decide+kernel
 .have h30:y.natAbs.log2<600:=(Nat.log2_lt h0).mpr h;omega
def qbo:OpR X (aA .FloorDiv) (rI jsr fun i j=> .int (i.fdiv j)):=opI fun _ _ _ _ _ _ _ hc q=>floordiv_int hc.1 q (.inl (jvt hc.2))
end
def qa5{H:Hp}{p:Addr}(h:H p=none)(o:HO):jab H (upd H p o):=fun b u q=>by rw[qa4 (qa9 q h)];exact q
def cell(ns:List Int)(k:Int):Int:=(ns[k.toNat]?).getD 0
def jmv{ns:List Int}{k:Int}(h0:0<=k)(h:k <(ns.length:Int)):atI (ns.map V.int) k=some (.int (cell ns k)):=by
 have hk:k.toNat<ns.length:=by omega
 have ek:k=((k.toNat:Nat):Int):=by omega
 have q:atI (ns.map V.int) ((k.toNat:Nat):Int)=some (.int ns[k.toNat]):=qbp (by rw[zC,zB hk]<;>rfl);rw[<-ek] at q;rw[q];unfold cell;rw[zB hk];rfl
def jjt{ns:List Int}{k:Int}(h:¬k <(ns.length:Int))(h0:0<=k):cell ns k=0:=by
 unfold cell;rw[List.getElem?_eq_none ↑∅];rfl
end My
set_option maxHeartbeats 1000000
namespace My
open PySem PySem.Spec PyProof.Rows L2
variable{h:vQ}{a p:Addr}{o:HO}{C:uB}{d:Option Addr}{W:L2.St->XK}{X:Cx}{xs:List V}{A c B:Prop}{R:It->Hp->Prop}{H:Hp}
section
variable{X:Cx}{pins:List (Addr×Obj)}{σ:L2.St}{H:Hp}{s:uC}{h':vQ}
structure Rec(X:Cx)(pins:List (Addr×Obj))(H:Hp)(h:vQ)(b:Addr):Prop where
 nw:X.s₀.heap.get? b=none
 un:H b=none
 pin:∀p∈X.pn++pins,p.1≠b
 ob:∃o vs,h.get? b=some o/\o.data=.fields vs
theorem Rec.loc(I:Inv X pins σ H s){b:Addr}(r:Rec X pins H s.heap b):b≠X.env.locals:=fun z=>by
 obtain⟨o,vs,e,d⟩:=r.ob;obtain⟨m,⟨o',es,ep,e',d',_⟩,_⟩:=I.loc;rw[z,e'] at e;cases e;rw[d'] at d;cases d
def Rec.cel(I:Inv X pins σ H s){b:Addr}(r:Rec X pins H s.heap b):∀x c,X.env.cells.lookup x=some c->c≠b:=fun x c hc z=>by
 obtain⟨o,vs,e,d⟩:=r.ob;obtain⟨v,o',e',d'⟩:=I.cell x c hc;rw[z,e] at e';cases e';rw[d] at d';cases d'
theorem Rec.frs(I:Inv X pins σ H s){b:Addr}(r:Rec X pins H s.heap b):b∉frs X.stack:=fun z=>by
 obtain⟨o,vs,e,d⟩:=r.ob;obtain⟨_,o',e',d'⟩:=I.stack.mem z;rw[e] at e';cases e';exact d' vs d
def Inv.marks{ch:List Addr}{t':Nat}(I:Inv X pins σ H s)(hch:∀b∈ch,Rec X pins H s.heap b)
  (k1:∀b o,b∉frs X.stack->b∉ch->s.heap.get? b=some o->h'.get? b=some o)
  (k2:∀b o,b∉ch->s.heap.get? b=some o->∃sl,h'.get? b=some {o with slots:=sl}):Inv X pins σ H {s with heap:=h',toks:=t'}:=by
 have sub:∀b,b≠X.env.locals->b∉X.fs->b∉frs X.stack:=fun b h1 h2 z=>(zO.mp (I.stkSub b z)).elim h1 h2;have neL:∀b o,X.s₀.heap.get? b=some o->b≠X.env.locals:=fun b o e=>vD (vB (uO e) I.ok.above);have neC:∀b o,X.s₀.heap.get? b=some o->b∉ch:=fun b o e z=>by rw[(hch b z).nw] at e;cases e
 have cel:∀x c,X.env.cells.lookup x=some c->∀v,s.heap.IsCell c v->h'.IsCell c v:=fun x c e v ⟨o,ho,hd⟩=>by
  obtain⟨sl,q⟩:=k2 c o (fun z=>(hch c z).cel I x c e rfl) ho;exact⟨_,q,hd⟩
 refine⟨I.ok,I.os,I.bare,⟨fun b o e n hb hx=>k1 b o (sub b (neL b o e) hb) (neC b o e) (I.base.keep b o e n hb hx),fun b o e n hb hx=>?_,I.base.free,fun b o e hx=>?_,I.base.tups,I.base.frzs,I.base.tbls⟩,
  ?_,fun x c e=>?_,I.free,I.freeC,fun p hp=>?_,fun a o e=>?_,I.len⟩
 .obtain⟨sl,e1⟩:=I.base.slot b o e n hb hx;obtain⟨sl',e2⟩:=k2 b _ (neC b o e) e1;exact⟨sl',e2⟩
 .obtain⟨o',e1⟩:=I.base.there b o e hx;obtain⟨sl',e2⟩:=k2 b _ (neC b o e) e1;exact⟨_,e2⟩
 .obtain⟨m,hm,hl⟩:=I.loc;have hm':h'.Ns X.env.locals m:=by
   obtain⟨o,es,ep,e,r⟩:=hm;obtain⟨sl,q⟩:=k2 _ o (fun z=>(hch _ z).loc I rfl) e;exact⟨_,es,ep,q,r⟩
  refine⟨m,hm',fun i x v e1 e2 e3=>?_⟩;obtain⟨u,r,l⟩:=hl i x v e1 e2 e3;refine⟨u,r,?_⟩;rcases l with l|⟨k,c,e,z⟩
  .exact .inl l
  .exact .inr ⟨k,c,e,cel x c e _ z⟩
 .obtain⟨v,z⟩:=I.cell x c e;exact⟨v,cel x c e v z⟩
 .obtain⟨e,n,ne,nf,d⟩:=I.pin p hp;exact⟨k1 p.1 p.2 (sub p.1 ne nf) (fun z=>(hch p.1 z).pin p hp rfl) e,n,ne,nf,d⟩
 .refine(I.hok a o e).stay (fun b u hb q=>k1 b u ?_ ?_ q) (fun _ q=>q) fun _ _ q=>q
  .intro z;have n:=I.stkFree b z;rcases hb with rfl|hb
   .rw[n] at e;cases e
   .rw[n] at hb;cases hb
  .intro z;have n:=(hch b z).un;rcases hb with rfl|hb
   .rw[n] at e;cases e
   .rw[n] at hb;cases hb
def jg4{P:uW}{w:vL}{H:Hp}(x:qbq P w H h a o):∃ob,h.get? a=some ob:=by
 cases o with
 |lst xs=>obtain⟨_,_,_,_,e⟩:=x;exact⟨_,e⟩
 |tup xs=>obtain⟨_,_,_,ob,e,_⟩:=x;exact⟨_,e⟩
 |dK kvs=>obtain⟨_,_,_,_,o,_,_,e,_⟩:=x;exact⟨_,e⟩
 |dT kvs=>obtain⟨_,_,_,_,o,_,_,e,_⟩:=x;exact⟨_,e⟩
 |set S n=>obtain⟨o,_,_,_,e,_⟩:=x;exact⟨_,e⟩
 |ins C dx fs=>obtain⟨_,_,_,e,_⟩:=x;exact⟨_,e⟩
 |own y=>exact x
 |xd fs=>obtain⟨_,⟨_,_,_,e,_⟩,_⟩:=x;exact⟨_,e⟩
 |rng lo hi=>obtain⟨_,_,_,e⟩:=x;exact⟨_,e⟩
 |frz ob u=>obtain⟨e,_⟩:=x;exact⟨_,e⟩
 |tbl ps=>exact⟨_,(show h.get? a=some _ from x)⟩
 |met f y=>exact⟨_,(show h.get? a=some _ from x)⟩
 |ext φ=>obtain⟨_,e,_⟩:=x;exact e
def jss{P:uW}{w:vL}{H:Hp}(x:HOk P w H h)(e:h.get? a=none):H a=none:=by
 cases q:H a with
 |none=>rfl
 |some o=>obtain⟨ob,z⟩:=jg4 (x a o q);rw[e] at z;cases z
def qg7(I:Inv X pins σ H s)(hex:X.ex=[]){b:Addr}(e:s.heap.get? b=none):X.s₀.heap.get? b=none:=by
 cases q:X.s₀.heap.get? b with
 |none=>rfl
 |some o=>obtain⟨o',z⟩:=I.base.there b o q (by rw[hex];simp);rw[e] at z;cases z
def jvu(h:vQ)(e:Addr)(C:uB)(d:Option Addr):Prop:=
 ∃oe vs,h.get? e=some oe/\oe.cls=C/\oe.dict=d/\oe.data=.fields vs/\vs[1]?=some .none
def XTr(h:vQ)(e:Addr)(C:uB)(d:Option Addr)(fl:uB)(T:Addr):Prop:=
 ∃oe vs oT ts,h.get? e=some oe/\oe.cls=C/\oe.dict=d/\oe.data=.fields vs/\vs[1]?=some (.ref T)/\T≠e/\h.get? T=some oT/\oT.data=.fields ts/\ts[3]?=some fl
def XIn(X:Cx)(pins:List (Addr×Obj))(H:Hp)(h:vQ)(e:Addr)(C:uB)(d:Option Addr):Prop:=
 Rec X pins H h e/\(jvu h e C d\/∃T,Rec X pins H h T/\∃fl,XTr h e C d fl T)
def qez(X:Cx)(pins:List (Addr×Obj))(H:Hp)(h:vQ)(e:Addr)(C:uB)(d:Option Addr)(fl:uB):Prop:=
 Rec X pins H h e/\∃T,Rec X pins H h T/\XTr h e C d fl T
def jg5(f:Array uB->Array uB)(o:Obj):(o.mapFields f).dict=o.dict:=by
 obtain⟨c,d,dt,sl⟩:=o
 cases dt<;>rfl
def jg6{M:Model}{A:vR}{E:uB->uC->Prop}{e:Addr}{C:uB}{d:Option Addr}{head:uB}{hadNext:Bool}{Q:Unit->uC->Prop}
  (I:Inv X pins σ H s)(hA:A.frames=some X.stack)(hst:X.stack=X.env::X.outer)(hf:X.env.frame=some X.env.locals)(r:Rec X pins H s.heap e)
  (ho:∃oe vs,s.heap.get? e=some oe/\oe.cls=C/\oe.dict=d/\oe.data=.fields vs/\1<vs.size)
  (h:∀s',Inv X pins σ H s'->qez X pins H s'.heap e C d (xN X.env.locals)->Q () s'):
  uV M A (do let a<-frameOf X.env;let pl<-entryPlaceOf X.env.locals hadNext;let b<-EntryCells.newEntry head a .none (xN X.env.locals) .none pl;setField (.ref e) 1 b) Q E s:=by
 obtain⟨oe,vs,he,hc,hdd,hd,hsz⟩:=ho;have hl:=I.stack;rw[hst] at hl hA;have ne:e∉L2.frs X.stack:=r.frs I;refine uE (wpAny_frameOf_fun hA hl hf fun h₁ hs₁=>uE (wpAny_entryPlaceOf fun pl hpl=>?_));unfold EntryCells.newEntry newFields;refine uE (fR ?_ (hpl.sizeOk5 _ _ _ _ _));rw[<-hst] at hs₁;have he1:h₁.get? e=some oe:=(hs₁.2.1 e ne).trans he;generalize hN:({cls:=.type "traceback",dict:=none,data:=.fields ([head,.ref X.env.locals,.none,xN X.env.locals,.none]++(if pl.isEmpty then uR 6 wI else pl)).toArray}:Obj)=N;have he2:(h₁.push N).get? e=some oe:=uD _ he1;refine wpAny_setField he2 hd hsz (h _ ?_ ?_)
 .refine Inv.marks (s:=s) (ch:=[e]) (t':=s.toks) I (fun b hb=>by rw[zE.mp hb];exact r) (fun b o h1 h2 q=>?_) fun b o h2 q=>?_
  .have hb:b≠e:=fun z=>h2 (by simp[z]);rw[xB _ _ (xP hb)];exact uD _ ((hs₁.2.1 b h1).trans q)
  .have hb:b≠e:=fun z=>h2 (by simp[z]);obtain⟨sl,q1⟩:=hs₁.2.2 b o q;exact⟨sl,by rw[xB _ _ (xP hb)];exact uD _ q1⟩
 .have sz1:h₁.objs.size=↑s:=hs₁.1;have hTe:h₁.objs.size≠e:=wZ (uO he1);have d3:=Obj.data_mapFields hd (·.setIfInBounds 1 (uQ h₁.objs.size));have e3:=Heap.get?_update_self (aM (·.setIfInBounds 1 (uQ h₁.objs.size))) he2 (Obj.isFreed_of_fields d3);have nf:N.isFreed=false:=by rw[<-hN];rfl
  have t3:=(xB (h₁.push N) (aM (·.setIfInBounds 1 (uQ h₁.objs.size))) (xP hTe)).trans (vE h₁ nf);have rT:Rec X pins H ((h₁.push N).update e (aM (·.setIfInBounds 1 (uQ h₁.objs.size)))) h₁.objs.size:=by
   refine⟨yZ (by rw[sz1];exact I.sz),I.hok.fresh (by rw[sz1];exact uG _),fun p hp z=>?_,⟨N,_,t3,by rw[<-hN]⟩⟩;obtain⟨q,_⟩:=I.pin p hp;have w:=uO q;rw[z,sz1] at w;exact absurd w (wM _)
  refine⟨⟨r.nw,r.un,r.pin,⟨_,_,e3,d3⟩⟩,h₁.objs.size,rT,_,_,N,_,e3,(Obj.cls_mapFields _ _).trans hc,?_,d3,by simp[hsz],hTe,t3,by rw[<-hN],?_⟩
  .rw[<-hdd];exact jg5 _ _
  .first|(simp;done) |(rcases hpl with rfl|⟨_,_,_,_,_,_,_,rfl⟩<;>simp)
def jg7{M:Model}{A:vR}{E:uB->uC->Prop}{e:Addr}{C:uB}{d:Option Addr}{Q:Unit->uC->Prop}
  (I:Inv X pins σ H s)(hA:A.frames=some X.stack)(hst:X.stack=X.env::X.outer)(hf:X.env.frame=some X.env.locals)(x:XIn X pins H s.heap e C d)
  (h:∀s',Inv X pins σ H s'->qez X pins H s'.heap e C d (xN X.env.locals)->Q () s'):uV M A (noteFrame (.ref e) X.env) Q E s:=by
 obtain⟨r,x⟩:=x;unfold noteFrame;simp only[hf];rcases x with⟨oe,vs,he,hc,hdd,hd,h1⟩|⟨T,rT,fl,oe,vs,oT,ts,he,hc,hdd,hd,h1,hTe,hT,hdT,h3⟩
 .refine uE (cI he hd h1 ?_);rw[gT ∅];exact jg6 I hA hst hf r ⟨oe,vs,he,hc,hdd,hd,(aD.mp h1).1⟩ h
 .refine uE (cI he hd h1 ?_);rw[gU (show(uQ T !=wI)=true from by simp)];refine uE (cI hT hdT h3 ?_);by_cases qf:(fl==xN X.env.locals)=true
  .rw[gU qf];have ef:fl=xN X.env.locals:=eq_of_beq qf;rw[ef] at h3;exact vC (h s I ⟨r,T,rT,oe,vs,oT,ts,he,hc,hdd,hd,h1,hTe,hT,hdT,h3⟩)
  .rw[gT qf];refine uE (wpAny_setField hT hdT (aD.mp h3).1 ?_);have oth:∀b,b≠T->(s.heap.update T (aM (·.setIfInBounds 3 wI))).get? b=s.heap.get? b:=fun b hb=>xB _ _ (xP hb);have J:Inv X pins σ H {s with heap:=s.heap.update T (aM (·.setIfInBounds 3 wI))}:=
    Inv.marks (s:=s) (ch:=[T]) (t':=s.toks) I (fun b hb=>by rw[zE.mp hb];exact rT) (fun b o _ h2 q=>(oth b fun z=>h2 (by simp[z])).trans q) fun b o h2 q=>⟨o.slots,(oth b fun z=>h2 (by simp[z])).trans q⟩
   have he':=(oth e (xP hTe)).trans he;exact jg6 J hA hst hf ⟨r.nw,r.un,r.pin,⟨oe,vs,he',hd⟩⟩ ⟨oe,vs,he',hc,hdd,hd,(aD.mp h1).1⟩ h
def qgt(fr:Option Addr){M:Model}{A:vR}{E:uB->uC->Prop}{e:Addr}{C fl:uB}{d:Option Addr}{Q:Unit->uC->Prop}
  (I:Inv X pins σ H s)(x:qez X pins H s.heap e C d fl)
  (h:∀s',Inv X pins σ H s'->qez X pins H s'.heap e C d (fr.elim wI fun f=>xN f)->Q () s'):uV M A (gM (.ref e) fr) Q E s:=by
 obtain⟨r,T,rT,oe,vs,oT,ts,he,hc,hdd,hd,h1,hTe,hT,hdT,h3⟩:=x;have hsz:=(aD.mp h3).1;unfold gM;refine uE (cI he hd h1 ?_);rw[gU (show(uQ T !=wI)=true from by simp)];refine wpAny_setField hT hdT hsz (h _ ?_ ?_)
 all_goals have oth:∀b,b≠T->(s.heap.update T (aM (·.setIfInBounds 3 (fr.elim wI fun f=>xN f)))).get? b=s.heap.get? b:=fun b hb=>xB _ _ (xP hb)
 .exact Inv.marks (s:=s) (ch:=[T]) (t':=s.toks) I (fun b hb=>by rw[zE.mp hb];exact rT) (fun b o _ h2 q=>(oth b fun z=>h2 (by simp[z])).trans q) fun b o h2 q=>⟨o.slots,(oth b fun z=>h2 (by simp[z])).trans q⟩
 .have he':=(oth e (xP hTe)).trans he;have d3:=Obj.data_mapFields hdT (·.setIfInBounds 3 (fr.elim wI fun f=>xN f));have hT':=Heap.get?_update_self (aM (·.setIfInBounds 3 (fr.elim wI fun f=>xN f))) hT (Obj.isFreed_of_fields d3);exact⟨⟨r.nw,r.un,r.pin,⟨oe,vs,he',hd⟩⟩,T,⟨rT.nw,rT.un,rT.pin,⟨_,_,hT',d3⟩⟩,oe,vs,_,_,he',hc,hdd,hd,h1,hTe,hT',d3,by simp[hsz]⟩
def jju{M:Model}{A:vR}{E:uB->uC->Prop}{e:Addr}{C fl:uB}{d:Option Addr}{Q:Unit->uC->Prop}
  (I:Inv X pins σ H s)(x:qez X pins H s.heap e C d fl)
  (h:∀s',Inv X pins σ H s'->qez X pins H s'.heap e C d .none->Q () s'):uV M A (gM (.ref e) none) Q E s:=qgt none I x h
def qez.xin{e:Addr}{fl:uB}(x:qez X pins H h e C d fl):XIn X pins H h e C d:=
 let ⟨r,T,rT,q⟩:=x
 ⟨r,.inr ⟨T,rT,_,q⟩⟩
def qez.xinL{e:Addr}(x:qez X pins H h e C d (xN X.env.locals)):XIn X pins H h e C d:=x.xin
def CX1(P:uW)(w:vL):CXT:=fun outer H s E e s'=>∃(a:Addr)(C:uB)(d:Option Addr)(H':Hp),e=.ref a/\s'.os=s.os/\cF s'.gens/\Un (L2.frs outer) [] H H' s.heap s'.heap/\HOk P w H' s'.heap/\
 s.heap.get? a=none/\H' a=none/\(∃T,s.heap.get? T=none/\H' T=none/\XTr s'.heap a C d .none T)/\E C d H'
def Xes(X:Cx)(W:L2.St->XK):Prop:=∀(pins:List (Addr×Obj))(σ:L2.St)(H:Hp)(s:uC)(a:Addr)(C:uB)(d:Option Addr),Inv X pins σ H s->XIn X pins H s.heap a C d->W σ C d H->X.xe (.ref a) s
def je9(h:Xes X W)(hex:X.ex=[]){e:uB}{s':uC}(I:Inv X pins σ H s)(q:CX1 X.prog X.w X.stack H s (W σ) e s'):X.xe e s':=by
 obtain⟨a,C,d,H',rfl,os,bare,un,hok,la,na,⟨T,lT,nT,x⟩,w⟩:=q;have J:Inv X pins σ H' s':=I.call' (ch:=[]) os un hok bare (fun b z=>absurd z (by simp));have pn:∀b,s.heap.get? b=none->∀p∈X.pn++pins,p.1≠b:=fun b lb p hp z=>by
  have w:=(I.pin p hp).1;rw[z,lb] at w
  cases w
 obtain⟨oe,vs,oT,ts,he,hc,hdd,hd,h1,hTe,hT,hdT,h3⟩:=id x;exact h pins σ H' s' a C d J ⟨⟨qg7 I hex la,na,pn a la,⟨oe,vs,he,hd⟩⟩,.inr ⟨T,⟨qg7 I hex lT,nT,pn T lT,⟨oT,ts,hT,hdT⟩⟩,_,x⟩⟩ w
end
section
variable{X:Cx}{pins:List (Addr×Obj)}{σ:L2.St}{H:Hp}{s:uC}{W:L2.St->XK}
def XSt(X:Cx)(W:L2.St->XK)(e:uB)(s:uC):Prop:=∃(a:Addr)(C:uB)(d:Option Addr)(σ:L2.St)(H:Hp),e=.ref a/\Inv X [] σ H s/\XIn X [] H s.heap a C d/\W σ C d H
abbrev xw(X:Cx)(W:L2.St->XK):Cx:=X.wish (XSt X W)
def Rec.less{b:Addr}(r:Rec X pins H h b):Rec X [] H h b:=⟨r.nw,r.un,fun p hp=>r.pin p (by rw[zX] at hp;exact zP _ hp),r.ob⟩
theorem XIn.less(x:XIn X pins H h a C d):XIn X [] H h a C d:=by
 obtain⟨r,x⟩:=x;rcases x with x|⟨T,rT,x⟩
 .exact⟨r.less,.inl x⟩
 .exact⟨r.less,.inr ⟨T,rT.less,x⟩⟩
def Rec.unwish{E:uB->uC->Prop}{b:Addr}(r:Rec (X.wish E) pins H h b):Rec X pins H h b:=⟨r.nw,r.un,r.pin,r.ob⟩
theorem XIn.unwish{E:uB->uC->Prop}(x:XIn (X.wish E) pins H h a C d):XIn X pins H h a C d:=by
 obtain⟨r,x⟩:=x;rcases x with x|⟨T,rT,x⟩
 .exact⟨r.unwish,.inl x⟩
 .exact⟨r.unwish,.inr ⟨T,rT.unwish,x⟩⟩
def qaj:Xes (xw X W) W:=fun pins σ H s a C d I x w=>⟨a,C,d,σ,H,rfl,I.unwish.pins_of (fun _ z=>nomatch z),x.unwish.less,w⟩
def qbh(hst:X.stack=X.env::X.outer)(hf:X.env.frame=some X.env.locals):PassesOwn (uX X.prog X.w) X.A X.env (XSt X W):=by
 rintro e s' ⟨a,C,d,σ,H,rfl,I,x,w⟩;show uV _ _ (noteFrame (.ref a) X.env) _ _ s';refine jg7 I I.ok.frames hst hf x fun s2 I2 x2=>?_;obtain⟨r,T,rT,oe,vs,oT,ts,he,hc,hdd,hd,h1,r2⟩:=id x2;unfold cameBackBy;refine uE (cI he hd h1 ?_);have fin:uV (uX X.prog X.w) X.A (gM (.ref a) X.env.frame) (fun _ s''=>XSt X W (.ref a) s'') (XSt X W) s2:=by
  rw[hf];exact qgt (some X.env.locals) I2 x2 fun s3 I3 x3=>⟨a,C,d,σ,H,rfl,I3,qez.xinL x3,w⟩
 first
  |(rw[gT (show ¬((uQ T==wI)=true) from by simp)];exact fin)
  |(rw[gT (show ¬((uQ T==wI)=true) from by simp)];exact uE (vC fin))
  |(refine uE ?_;rw[gT (show ¬((uQ T==wI)=true) from by simp)];exact vC fin)
def PSs.xes{st:List Stmt}{t:TS}(hx:Xes X W)(h:PSs (xw X W) st t):PSs X st t:=fun pins s σ H D I hw=>
 vS (h pins s σ H D (I.wish _) hw) (fun _ _ q=>q.unwish) fun _ _ ⟨a,C,d,σ',H',e,I',x,w⟩=>by subst e;exact hx [] σ' H' _ a C d I' x w
end
section
variable{P:uW}{w:vL}{K:uT}{mg:Str->Option uB}{base:vQ}
def jlg{N:List Str}{qual:Str}{scope:wY}{f:Addr}{cd:uB}{A:vR}{outer:List Env}{s:uC}{H:Hp}{E:XK}:
  Xes (cxOf (CX1 P w) P w K mg base N qual scope f cd A outer s H E) (fun _=>E):=by
 intro pins σ H1 s1 a C d I x wE;show uV _ _ (leaving _ _) _ _ s1;unfold leaving;refine uE (jg7 I I.ok.frames rfl rfl x fun s2 I2 x2=>jju I2 x2 fun s3 I3 x3=>?_);obtain⟨r,T,rT,xt⟩:=x3;exact⟨a,C,d,H1,rfl,I3.os,I3.bare,I3.base,I3.hok,r.nw,r.un,⟨T,rT.nw,rT.un,xt⟩,wE⟩
def okX{x qual:Str}{st:Stmt}{f:Addr}{fd:uL}{N ps:List Str}{k:Nat}{sp:Sp}(F:Fun K x qual st f fd)(S:jaa N ps (qa8 st))(len:∀vs H Q E,sp vs H Q E->vs.length=ps.length)
  (hbody:∀(cdv:uB)(A:vR)(outer:List Env)(s:uC)(H:Hp)(vs:List V)(Q:VK)(E:XK),jaz k (A.deeper (aJ qual (qa8 st) ↑s f cdv))->sp vs H Q E->
   ∃t,PSs (xw (cxOf (CX1 P w) P w K mg base N qual (qa8 st) f cdv A outer s H E) (fun _=>E)) (qbu st) t/\t {nx:=fun _ H'=>Q .non H',rt:=Q} (start N vs) H):jac P w K mg base (CX1 P w) (k+1) f fd ps sp:=by
 obtain⟨oc,od,kV,doc,pm,an,cdv,ct,osl,rfl,lk,hcd⟩:=F.ex;refine jms lk hcd S len fun A outer s H vs Q E hr hsp=>?_;obtain⟨t,ht,q⟩:=hbody cdv A outer s H vs Q E hr hsp;exact⟨t,PSs.xes jlg ht,q⟩
end
section
variable{X:Cx}{k:Nat}{f:Addr}{fd:uL}{ps:List Str}{sp:Sp}{dvs:List V}{ds:List uB}{W:L2.St->XK}{x:Str}{p pos:Pos}{e:vV}{es:List vV}{t:TA}
def jg8(sp:Sp)(dvs:List V)(W:L2.St->XK)(t:TA):TE:=fun σ H Q=>t σ H fun vs H1=>sp (vs++dvs) H1 Q (W σ)
def jdw{pins:List (Addr×Obj)}{σ:L2.St}{H:Hp}{s:uC}{Q:VK}{us:List uB}{vs:List V}(F:jac X.prog X.w X.K X.mg X.base (CX1 X.prog X.w) k f fd ps sp)(hr:jaz k X.A)(hb:qan X.K fd ps ds)(hd:qbk dvs ds)(hx:Xes X W)(hex:X.ex=[])
  (I:Inv X pins σ H s)(r:qbk vs us)(h:sp (vs++dvs) H Q (W σ)):uV (uX X.prog X.w) X.A (call (.ref f) us) (EP X pins σ Q) X.xe s:=by
 have r2:qbk (vs++dvs) (us++ds):=r.append hd;have hl:(us++ds).length=ps.length:=by rw[<-r2.length];exact F.len _ _ _ _ h
 refine aC (xA (F.run X.A X.stack s H ⟨us,[]⟩ (us++ds) (vs++dvs) Q (W σ) hr I.env0 (hb s us I.kIn hl) r2 h) fun r s' hq=>?_)
 match r,hq with
 | .error e,hq=>exact je9 hx hex I hq
 | .ok (.ret u),hq=>exact I.after hq
 | .ok .next,hq=>exact vP hq
 | .ok .brk,hq=>exact vP hq
 | .ok .cont,hq=>exact vP hq
def qaw(F:jac X.prog X.w X.K X.mg X.base (CX1 X.prog X.w) k f fd ps sp)(hr:jaz k X.A)(hg:Gl X x)(hm:X.mg x=some (.ref f))(hk:cM X.K (.ref f)=true)(hb:qan X.K fd ps ds)(hd:qbk dvs ds)(hx:Xes X W)
  (ha:PA X (e::es) t)(hex:X.ex=[]:=by rfl)(hdb:(x==("__debug__":Str))=false:=by decide)(he:uZ (e::es) X.env=(false,wK e X.env)::uZ es X.env:=by rfl)(hpl:(wQ pos (uZ es X.env)).any (·.1)=false:=by rfl):
  PE X (.Call (.Name x p) (e::es) [] pos) (jg8 sp dvs W t):=by
 intro pins s σ H Q I h;refine xD (qe0 I hg hm ?_ hdb);refine xE (h₀:=X.base) I.ok.mod.kin hk (thn (ha pos pins s σ H _ I h) fun us s1 ⟨vs,H1,I1,r,q⟩=>⟨I1.kIn,?_⟩) he hpl;exact jdw F hr hb hd hx hex I1 r q
end
structure XCls(K:uT)(C:Addr):Prop where
 ob:∃(nm q:Str)(N:Addr)(bs bm:List uB)(hdct:Bool)(sn:List Str)(sub:List uB)(ab:Bool)(col:Option Bool)(dd:Option Addr)(k0 k1 k2 k3 k5:Option uB)(mN:Str->Option uB),
  K.lookup C=some (bS nm q C N bs bm hdct sn sub ab col dd k0 k1 k2 k3 k5 "ValueError.__new__")/\(∀h:vQ,K.In h->h.Ns N mN)/\mN "__init__"=none/\
  ∀h:vQ,K.In h->OwnTail h [.type "ValueError",.type "Exception",.type "BaseException",.type "object"] bm
section
variable{X:Cx}{x:Str}{C:Addr}{W:L2.St->XK}{np cpos pos:Pos}{e:vV}{es:List vV}{t:TA}
def jlh(t:TA)(C:Addr)(W:L2.St->XK):TS:=fun _ σ H=>t σ H fun xs H1=>xs.length<=sizeLine/\W σ (.ref C) none H1
def qbw(hc:X.calm=true)(M:XCls X.K C)(hg:Gl X x)(hm:X.mg x=some (.ref C))(hx:Xes X W)(ha:PA X (e::es) t)(hex:X.ex=[]:=by rfl)(hdb:(x==("__debug__":Str))=false:=by decide)
  (he:uZ (e::es) X.env=(false,wK e X.env)::uZ es X.env:=by rfl) (hpl:(wQ cpos (uZ es X.env)).any (·.1)=false:=by rfl):
  PS X (.Raise (some (.Call (.Name x np) (e::es) [] cpos)) none pos) (jlh t C W):=by
 intro pins s σ H D I h;obtain⟨nm,q,N,bs,bm,hdct,sn,sub,ab,col,dd,k0,k1,k2,k3,k5,mN,hC,hN,hni,T⟩:=M.ob;refine wpAny_Raise_call_subU (C:=C) (nm:=nm) (q:=q) (N:=N) (bs:=bs) (bm:=bm) (hdct:=hdct) (sn:=sn) (sub:=sub) (ab:=ab) (col:=col) (dd:=dd) (k0:=k0) (k1:=k1) (k2:=k2) (k3:=k3) (k5:=k5)
  aE ∅ aE (mN:=mN) ((T _ I.kIn).hasType PySem.F.excBase_ValueError.hasBase) (I.ok.hd hc) ?_ hni ?_
 .rw[he];show(false ||(wQ cpos (uZ es X.env)).any (·.1))=false;rw[hpl];rfl
 .refine qe0 I hg hm ⟨rfl,?_⟩ hdb;have z:=ha cpos pins s σ H _ I h;rw[he] at z⊢;refine bR (vS z (fun us s2 ⟨vs,H2,I2,r,hl,q⟩=>⟨rfl,by rw[<-r.length];exact hl,I2.kIn _ _ hC,hN _ I2.kIn,T _ I2.kIn,fun h' a m=>?_⟩) fun _ _ y=>y);obtain⟨tp,ea,_,_⟩:=m.there;have J:Inv X pins σ H2 {s2 with heap:=h'}:=I2.kept (t':=s2.toks) m.keeps;refine hx pins σ H2 _ a (.ref C) none J ⟨⟨qg7 I2 hex m.new,jss I2.hok m.new,fun p hp y=>?_,⟨_,_,ea,rfl⟩⟩,.inl ⟨_,_,ea,rfl,rfl,rfl,rfl⟩⟩ q;have w:=(I2.pin p hp).1;rw[y,m.new] at w
  cases w
end
section
variable{X:Cx}{pins:List (Addr×Obj)}
abbrev pnd(X:Cx)(pins:List (Addr×Obj)):Cx:={X with pn:=X.pn++pins}
abbrev suite(X:Cx)(a:Addr):Cx:={X with A:=X.A.mark (some (.ref a)),calm:=false,xe:=fun _ _=>False}
def XO(a:Addr)(C:uB)(d:Option Addr):HO:=.ext fun h=>∃(oe:Obj)(vs:Array uB),h.get? a=some oe/\oe.cls=C/\oe.dict=d/\oe.data=.fields vs
end
section
variable{X:Cx}
def jst(t:TS):TS:=fun D σ H=>∃J:L2.St->Hp->Prop,t {D with nx:=J} σ H/\∀σ' H',J σ' H'->D.nx σ' H'
def qdg{st:Stmt}{t:TS}(h:PS X st t):PS X st (jst t):=by
 intro pins s σ H D I ⟨J,hw,k⟩;refine vS (h pins s σ H _ I hw) (fun f s' q=>?_) fun _ _ z=>z
 cases f with
 |next=>obtain⟨σ',H',I',z⟩:=q;exact⟨σ',H',I',k _ _ z⟩
 |brk=>exact q
 |cont=>exact q
 |ret u=>exact q
end
def qd5{K:uT}{C:Addr}(q:eG K C [.type "ValueError",.type "Exception",.type "BaseException",.type "object"] "ValueError.__new__"=true):XCls K C:=by
 unfold eG at q
 split at q
 .rename_i dd cd sl ho
  split at q
  .rename_i C' bm k0 k1 k2 k3 n k5 hm hs;simp only[vZ,beq_iff_eq,cJ] at q;obtain⟨⟨⟨⟨⟨rfl,rfl⟩,hdel⟩,ht⟩,hok⟩,hni⟩:=q;obtain⟨nm,bs,mro,ns,qn,hd,sn,sub,ab,col,del⟩:=cd;dsimp only at hm hdel hok hni;subst hm hdel;have hsl:sl= #[k0,k1,k2,k3,some (.builtin "ValueError.__new__"),k5]:=by
    obtain⟨l⟩:=sl;simp only at hs;rw[hs]
   subst hsl;unfold PySem.W.nsOkIn at hok
   split at hok
   .rename_i c1 d1 es ep sl1 hN;have hSK:StrKeys es:=fun e he=>by
     have z:=fX.mp hok e he
     split at z
     .rename_i n t q;exact⟨n,t,q⟩
     .cases z
    have hNs:∀h:vQ,K.In h->h.Ns ns (fun x=>fA es x):=fun h X=>⟨_,es,ep,X _ _ hN,rfl,hSK,fun _=>rfl⟩;refine⟨nm,qn,ns,bs,bm,hd,sn,sub,ab,col,dd,k0,k1,k2,k3,k5,fun x=>fA es x,ho,hNs,?_,fun h X=>PySem.W.tail_of_in X ht⟩;unfold xU at hni;rw[hN] at hni;dsimp only at hni
    split at hni
    .cases hni
    .rename_i hf;show fA es "__init__"=none;unfold fA findBy;rw[<-fB,hf];rfl
   .cases hok
  .cases q
 .cases q
def TyX(K:uT)(H:Hp)(x:V)(t:uB)(b:Bool):Prop:=jbv K H x t\/∃(a:Addr)(d:Option Addr),x=.ref a/\H a=some (XO a t d)/\b=true
def ju3(K:uT):List V->Hp->VK->Prop:=fun xs H Q=>∃(x c:V)(u t:uB)(b:Bool),xs=[x,c]/\qb6 c u/\(∀u',qb6 c u'->u'=u)/\TyX K H x t b/\cA K t u=some b/\Q (.bl b) H
def jmw{prog:uW}{w:vL}{A:vR}{E:uB->uC->Prop}{s:uC}{Q:uB->uC->Prop}{K:uT}{a:Addr}{t c:uB}(KX:K.In s.heap)(hp:∃o,s.heap.get? a=some o/\o.cls=t)(e:cA K t c=some true)
  (h:Q (.bool true) s):uV (uX prog w) A (call (.builtin "isinstance") [.ref a,c]) Q E s:=by
 refine call_isinstance_of ?_ (by intro q;cases q);obtain⟨h0,g,d,tt,os⟩:=s;obtain⟨o,ho,hc⟩:=hp;have LT:cO (uX prog w) h0 (typeOf (.ref a)) t:=hc▸(PySem.W.Looks.ld ho).andThen .now;unfold cA at e;unfold aN.«isinstance.nested»;refine uE (LT.at ?_);by_cases q:(t==c)=true
 .rw[gU q]
  first
   |exact uE (wpAny_rule (vC h))
   |exact uE (wpAny_rule h)
 .rw[gT q] at e;rw[gT q];obtain⟨hty,his,hsub⟩:=PySem.W.kit_cls (M:=uX prog w) KX e;have LI:cO (uX prog w) h0 (isInstance (.ref a) c) true:=LT.andThen hsub;refine uE (hty.at ?_);rw[gU ∅]
  k_delta "plainIsInstance"
  refine uE (uE (his.at ?_));simp only[Bool.not_true,fG,if_false];refine uE (LI.at ?_)
  first
   |exact vC (vC h)
   |(simp only[if_true];first|exact vC (vC h) |exact vC h|exact uE (vC (vC h)))
def qe4:Xes X (fun _ _ _ _=>False):=fun _ _ _ _ _ _ _ _ _ w=>w.elim
section
variable{X:Cx}
def qbn:qcr X (.builtin "isinstance") (ju3 X.K):=by
 intro pins s σ H xs us Q I hv h;obtain⟨x,c,u,t,b,rfl,hu,hu',ty,e,q⟩:=h
 cases hv with
 |cons r1 hv=>
  cases hv with
  |cons r2 hv=>
   cases hv
   rename_i v1 v2;rw[hu' v2 r2];rcases ty with ty|⟨a,d,rfl,ea,rfl⟩
   .exact jgt I r1 ty e fun tk=>⟨.bl b,H,I.tok tk,rfl,q⟩
   .cases r1
    obtain⟨⟨oe,vs,h1,h2,_⟩,_⟩:=(show qbq X.prog X.w H s.heap a (XO a t d) from I.hok a _ ea);exact jmw I.kIn ⟨oe,h1,h2⟩ e ⟨.bl true,H,I,rfl,q⟩
def jsg:R2:=fun x y H Q=>y=.non/\Q (.bl (decide (x=.non))) H
def jjv:R2:=fun x y H Q=>y=.non/\Q (.bl (!decide (x=.non))) H
def ju4:List V->Hp->VK->Prop:=fun xs H Q=>∃i,xs=[.int i]/\Q (.int (if i<0 then -i else i)) H
def jsu(K:uT):List V->Hp->VK->Prop:=fun xs H Q=>∃p ys,xs=[.ref p]/\(SqL K H p ys\/SqT K H p ys)/\Q (.int ys.length) H
def qfv:qcr X (.builtin "abs") ju4:=jjp
def qb3:qcr X (.builtin "len") (jsu X.K):=jcv
def jg9:OpR X (wD .Is) jsg:=jpk
def qf6:OpR X (wD .IsNot) jjv:=jmk
end
section
variable{K:uT}{H:Hp}{Q:VK}
def jsv{x:V}{T:String}{t:uB}{b:Bool}(ty:jbv K H x t)(e:cA K t (.type T)=some b)(h:Q (.bl b) H):ju3 K [x,.ty T] H Q:=⟨x,_,_,t,b,rfl,rfl,fun _ z=>z,.inl ty,e,h⟩
end
section
variable{K:uT}
def jdx:cA K (.type "int") (.type "int")=some true:=by rfl
def jc0:cA K (.type "int") (.type "bool")=some false:=by rfl
def jdy:cA K (.type "str") (.type "str")=some true:=by rfl
def jdz:cA K (.type "list") (.type "list")=some true:=by rfl
def jd0:cA K (.type "tuple") (.type "tuple")=some true:=by rfl
def jd1:cA K (.type "dict") (.type "dict")=some true:=by rfl
end
section
variable{K:uT}{σ σ':L2.St}{H H1:Hp}{Q:VK}{D:jca}{ta tb te:TE}{t u:TS}{c c':TT}{ar:TA}{v x y:V}{i j:Nat}
def qac{N:List Str}{vs:List V}(e:start N vs=σ)(h:t D σ H):t D (start N vs) H:=e▸h
def jsw(e:σ[i]?=some (some v))(h:Q v H):jsl i σ H Q:=⟨v,e,h⟩
def r_c(h:Q v H):tC v σ H Q:=h
def jvv{r:R2}(h:ta σ H fun x H1=>tb σ H1 fun y H2=>r x y H2 Q):tOp r ta tb σ H Q:=h
def jvw{r:V->Hp->VK->Prop}(h:ta σ H fun x H1=>r x H1 Q):tUn r ta σ H Q:=h
def jvx{g:Int->Int->V}{i j:Int}(h:Q (g i j) H):rI0 g (.int i) (.int j) H Q:=⟨i,j,rfl,rfl,h⟩
def r_I{C:Int->Int->Prop}{g:Int->Int->V}{i j:Int}(hc:C i j)(h:Q (g i j) H):rI C g (.int i) (.int j) H Q:=⟨i,j,rfl,rfl,hc,h⟩
def r_U{g:Int->V}{i:Int}(h:Q (g i) H):rU g (.int i) H Q:=⟨i,rfl,h⟩
def jsx{i j:Int}(h:Q (.bl (decide (i=j))) H):rEq (.int i) (.int j) H Q:=⟨rfl,by
 have e:decide (V.int i=V.int j)=decide (i=j):=by by_cases z:i=j<;>simp[z]
 rw[e];exact h⟩
def jsy{i j:Int}(h:Q (.bl (!decide (i=j))) H):rNe (.int i) (.int j) H Q:=⟨rfl,by
 have e:decide (V.int i=V.int j)=decide (i=j):=by by_cases z:i=j<;>simp[z]
 rw[e];exact h⟩
def jsz{i j:Str}(h:Q (.bl (decide (i=j))) H):rEq (.str i) (.str j) H Q:=⟨rfl,by
 have e:decide (V.str i=V.str j)=decide (i=j):=by by_cases z:i=j<;>simp[z]
 rw[e];exact h⟩
def js0{i j:Str}(h:Q (.bl (!decide (i=j))) H):rNe (.str i) (.str j) H Q:=⟨rfl,by
 have e:decide (V.str i=V.str j)=decide (i=j):=by by_cases z:i=j<;>simp[z]
 rw[e];exact h⟩
def js1{b:Bool}{Q:Bool->Prop}(h:Q b):∃k,V.bl b=.bl k/\Q k:=⟨b,rfl,h⟩
def jpr{Q:Bool->Hp->Prop}(h:te σ H fun x H'=>∃k,x=.bl k/\Q k H'):jpl te σ H Q:=h
def jvy{Q:Bool->Hp->Prop}(h:te σ H fun x H'=>∃k,x=.bl k/\Q k H'):tB te σ H Q:=h
def js2{Q:Bool->Hp->Prop}(h:c σ H fun b H1=>if b=true then c' σ H1 Q else Q false H1):jum c c' σ H Q:=h
def jvz{Q:Bool->Hp->Prop}(h:c σ H fun b H1=>if b=true then Q true H1 else c' σ H1 Q):tOr c c' σ H Q:=h
def js3{Q:Bool->Hp->Prop}(h:c σ H fun b H1=>Q (!b) H1):jun c σ H Q:=h
def jps(h:ta σ H fun x H1=>∃k,x=.bl k/\if k=true then tb σ H1 Q else Q (.bl false) H1):jo8 ta tb σ H Q:=h
def jpt(h:ta σ H fun x H1=>∃k,x=.bl k/\Q (.bl (!k)) H1):jo9 ta σ H Q:=h
def js4(h:c σ H fun b H1=>if b=true then ta σ H1 Q else tb σ H1 Q):tIf c ta tb σ H Q:=h
def jpu(h:D.nx σ H):jpa D σ H:=h
def js5(h:t {nx:=u D,rt:=D.rt,bk:=D.bk,ct:=D.ct} σ H):jsn t u D σ H:=h
def jpv(h:te σ H fun _ H1=>D.nx σ H1):jpb te D σ H:=h
def js6(h:te σ H D.rt):juo te D σ H:=h
def jv0(h:c σ H fun b H1=>if b=true then t D σ H1 else u D σ H1):jup c t u D σ H:=h
def js7{g:TG}(h:te σ H fun x H1=>g x σ H1 D.nx):jpd te g D σ H:=h
def jpw{Q:L2.St->Hp->Prop}(e:σ.set i (some v)=σ')(h:Q σ' H):qek i v σ H Q:=by subst e;exact h
def jpx{Q:L2.St->Hp->Prop}(h:Q σ H):juq [] σ H Q:=⟨rfl,h⟩
def jmx{g:TG}{gs:TGs}{vs:List V}{Q:L2.St->Hp->Prop}(h:g v σ H fun σ' H'=>gs vs σ' H' Q):jpc g gs (v::vs) σ H Q:=⟨v,vs,rfl,h⟩
def jpy{n:Nat}{gs:TGs}{Q:L2.St->Hp->Prop}(hS:SqT K H a xs)(hn:xs.length=n)(h:gs xs σ H Q):jur K n gs (.ref a) σ H Q:=⟨a,xs,rfl,hS,hn,h⟩
def js8(h:ar σ H fun vs H1=>∃v w,vs=[v,w]/\D.nx ((σ.set i (some v)).set j (some w)) H1):jus i j ar D σ H:=h
def js9{v w:V}{Q:V->V->Prop}(h:Q v w):∃a b,[v,w]=[a,b]/\Q a b:=⟨v,w,rfl,h⟩
def jv1{f b c:L2.St->Hp->Prop}{r:VK}(h:f σ H):jca.nx {nx:=f,rt:=r,bk:=b,ct:=c} σ H:=h
def jv2{f b c:L2.St->Hp->Prop}{r:VK}(h:r v H):jca.rt {nx:=f,rt:=r,bk:=b,ct:=c} v H:=h
def jta{Q:List V->Hp->Prop}(h:Q [] H):jpm σ H Q:=h
def jpz{Q:List V->Hp->Prop}(h:te σ H fun x H1=>ar σ H1 fun xs H2=>Q (x::xs) H2):jmq te ar σ H Q:=h
def jtb(h:ar σ H fun xs H1=>xs.length<=sizeLine/\∀p,H1 p=none->Q (.ref p) (upd H1 p (.tup xs))):jux ar σ H Q:=h
def jtc(h:ar σ H fun xs H1=>xs.length<=sizeLine/\∀p,H1 p=none->Q (.ref p) (upd H1 p (.lst xs))):jsp ar σ H Q:=h
def jtd(hn:xs.length<=sizeLine)(h:A):xs.length<=sizeLine/\A:=⟨hn,h⟩
def jp0{sp:Sp}{E:XK}(h:ar σ H fun vs H1=>sp vs H1 Q E):jpn sp [] E ar σ H Q:=by
 have e:(fun vs H1=>sp (vs++[]) H1 Q E)=fun vs H1=>sp vs H1 Q E:=by funext vs H1;rw[zX]
 show ar σ H fun vs H1=>sp (vs++[]) H1 Q E;rw[e];exact h
def jmy{sp:Sp}(h:ar σ H fun vs H1=>sp vs H1 Q (W σ)):jg8 sp [] W ar σ H Q:=by
 have e:(fun vs H1=>sp (vs++[]) H1 Q (W σ))=fun vs H1=>sp vs H1 Q (W σ):=by funext vs H1;rw[zX]
 show ar σ H fun vs H1=>sp (vs++[]) H1 Q (W σ);rw[e];exact h
def jv3{r:List V->Hp->VK->Prop}(h:ar σ H fun vs H1=>r vs H1 Q):tCB r ar σ H Q:=h
def jmz{C:Addr}(h:ar σ H fun xs H1=>xs.length<=sizeLine/\W σ (.ref C) none H1):jlh ar C W D σ H:=h
def qc7{k:Int}(hS:SqL K H p xs)(e:atI xs k=some v)(h:Q v H):jse K (.ref p) (.int k) H Q:=⟨p,xs,k,v,rfl,rfl,hS,e,h⟩
def jte{k:Int}(hS:SqT K H p xs)(e:atI xs k=some v)(h:Q v H):juz K (.ref p) (.int k) H Q:=⟨p,xs,k,v,rfl,rfl,hS,e,h⟩
def jm0{R:Addr->Prop}(h:∀p,H p=none->R p):∀p,H p=none->R p:=h
def jc1{xs:List Int}{r:Int}(hS:SqL K H p (xs.map V.int))(h0:0<=r)(h1:r<xs.length)(h:∀m,m∈xs->Q (.int m) H):jse K (.ref p) (.int r) H Q:=by
 have hk:r.toNat<xs.length:=by omega
 have ek:r=((r.toNat:Nat):Int):=by omega
 have q:atI (xs.map V.int) ((r.toNat:Nat):Int)=some (.int xs[r.toNat]):=qbp (by rw[zC,zB hk]<;>rfl);rw[<-ek] at q;exact⟨p,_,r,_,rfl,rfl,hS,q,h _ (yB hk)⟩
def qff(h:t {nx:=D.nx,rt:=D.rt,bk:=D.bk,ct:=D.ct} σ H):jst t D σ H:=⟨D.nx,h,fun _ _ z=>z⟩
def jha(J:L2.St->Hp->Prop)(h:t {nx:=J,rt:=D.rt,bk:=D.bk,ct:=D.ct} σ H)(k:∀σ' H',J σ' H'->D.nx σ' H'):jst t D σ H:=⟨J,h,k⟩
def jp1{ys:List V}(hS:SqT K H p ys)(h:Q (.int ys.length) H):jsu K [.ref p] H Q:=⟨p,ys,rfl,.inr hS,h⟩
def jli{ys:List V}(hS:SqL K H p ys)(h:Q (.int ys.length) H):jsu K [.ref p] H Q:=⟨p,ys,rfl,.inl hS,h⟩
def jtf{i:Int}(h:Q (.int (if i<0 then -i else i)) H):ju4 [.int i] H Q:=⟨i,rfl,h⟩
def jlj(h:Q (.bl true) H):jsg .non .non H Q:=⟨rfl,h⟩
def jlk(h:Q (.bl false) H):jsg (.ref a) .non H Q:=⟨rfl,h⟩
def jm1(h:Q (.bl false) H):jjv .non .non H Q:=⟨rfl,h⟩
def jm2{a:Int}(h:Q (.bl true) H):jjv (.int a) .non H Q:=⟨rfl,h⟩
end
section
variable{K:uT}{σ:L2.St}{H:Hp}{D:jca}{wi:TI}{g:TG}{tb:TS}{tl:TE}{ta:TA}
def FOR(J:It)(g:TG)(tb:TS)(D:jca)(σ:L2.St)(H:Hp):Prop:=∃W:Nat->Nat->L2.St->Hp->Prop,(∃m,W 0 m σ H)/\∀i m σ H,W i m σ H->
 (J.stop i H/\D.nx σ H)\/(J.go i H/\∃N:L2.St->Hp->Prop,(∀σ' H',N σ' H'->∃m',m'<m/\W (i+1) m' σ' H')/\∀x H',J.yld i H x H'->g x σ H' fun σ2 H2=>tb {D with nx:=N,ct:=N,bk:=D.nx} σ2 H2)
def ju5(K:uT)(x:V)(H:Hp)(R:It->Hp->Prop):Prop:=∃a,x=.ref a/\(∃xs,SqL K H a xs)/\R (Itl K a) H
def ju6(vs:List V)(H:Hp)(R:It->Hp->Prop):Prop:=∃j:Int,vs=[.int j]/\-(2^62)<=j/\j<2^62/\R (Itr 0 j.toNat) H
def jtg(h:wi σ H fun J H1=>FOR J g tb D σ H1):jut wi g tb D σ H:=h
def jv4(h:tl σ H fun x H1=>ju5 K x H1 R):jpf K tl σ H R:=h
def jv5(h:ta σ H fun vs H1=>ju6 vs H1 R):jpg ta σ H R:=h
def jth(hS:SqL K H a xs)(h:R (Itl K a) H):ju5 K (.ref a) H R:=⟨a,rfl,⟨xs,hS⟩,h⟩
def jti{j:Int}(h0: -(2^62)<=j)(h1:j<2^62)(h:R (Itr 0 j.toNat) H):ju6 [.int j] H R:=⟨j,rfl,h0,h1,h⟩
def qbt{a:Addr}{xs:List V}(Pv:Nat->L2.St->Hp->Prop)(h0:Pv 0 σ H)(hl:∀i σ H,i<=xs.length->Pv i σ H->SqL K H a xs)
  (hs:∀i x σ H,xs[i]?=some x->Pv i σ H->g x σ H fun σ2 H2=>tb {nx:=Pv (i+1),rt:=D.rt,bk:=D.nx,ct:=Pv (i+1)} σ2 H2)(hd:∀σ H,Pv xs.length σ H->D.nx σ H):FOR (Itl K a) g tb D σ H:=jjn Pv h0 hl hs hd
def qfr{lo:Int}{n:Nat}(Pv:Nat->L2.St->Hp->Prop)(h0:Pv 0 σ H)
  (hs:∀(i:Nat) σ H,i<n->Pv i σ H->g (.int (lo+i)) σ H fun σ2 H2=>tb {nx:=Pv (i+1),rt:=D.rt,bk:=D.nx,ct:=Pv (i+1)} σ2 H2)(hd:∀σ H,Pv n σ H->D.nx σ H):FOR (Itr lo n) g tb D σ H:=jgl Pv h0 hs hd
end
def qaa{o':HO}(h:H a=some o)(n:H p=none):upd H p o' a=some o:=by rw[qa4 (qa9 h n)];exact h
def jd2{K:uT}(h:SqL K H a xs)(n:H p=none):SqL K (upd H p o) a xs:=(qa5 n o).seq h
def jfa{H0:Hp}(h:jab H0 H)(n:H p=none):jab H0 (upd H p o):=h.trans (qa5 n o)
def i_t[Decidable c](h:c)(hA:A):if decide c=true then A else B:=by rw[gW h];exact jsf hA
def i_f[Decidable c](h:¬c)(hB:B):if decide c=true then A else B:=by rw[gX h];exact jsq hB
def i_2[Decidable c](h1:c->A)(h2:¬c->B):if decide c=true then A else B:=by
 by_cases h:c
 .exact i_t h (h1 h)
 .exact i_f h (h2 h)
def ju7[Decidable c](h:¬c)(hA:A):if(!decide c)=true then A else B:=by rw[gX h];exact jsf hA
def ju8[Decidable c](h:c)(hB:B):if(!decide c)=true then A else B:=by rw[gW h];exact jsq hB
def jv6[Decidable c](h1:¬c->A)(h2:c->B):if(!decide c)=true then A else B:=by
 by_cases h:c
 .exact ju8 h (h2 h)
 .exact ju7 h (h1 h)
def jv7(h:B):if(!true)=true then A else B:=h
def jv8(h:A):if(!false)=true then A else B:=jsf h
def jll{α:Type}(f:α->Prop):List α->Prop
 | []=>True
 |a::l=>f a/\jll f l
theorem jll.mem{α:Type}{f:α->Prop}:∀{l:List α},jll f l->∀a∈l,f a
 | [],_,_,h=>absurd h (by simp)
 |b::l,h,a,m=>by
  rcases zO.mp m with rfl|m
  .exact h.1
  .exact jll.mem h.2 a m
def qca(caps:List Nat)(σ:L2.St):L2.St:=caps.map fun j=>(σ[j]?).getD none
def jp2(acc:Addr)(N:Hp->Prop)(y:V)(H:Hp):Prop:=∃ys,H acc=some (.lst ys)/\ys.length<sizeLine/\N (upd H acc (.lst (ys++[y])))
def jsh(J:It)(caps:List Nat)(tt:TT)(te:TE)(acc:Addr)(σ:L2.St)(H:Hp)(Q:VK):Prop:=∃W:Nat->Nat->Hp->Prop,(∃m,W 0 m H)/\∀i m H,W i m H->
 (J.stop i H/\Q (.ref acc) H)\/(J.go i H/\∃N:Hp->Prop,(∀H',N H'->∃m',m'<m/\W (i+1) m' H')/\∀v H',J.yld i H v H'->tt (some v::qca caps σ) H' fun b H2=>
  if b=true then te (some v::qca caps σ) H2 fun y H3=>jp2 acc N y H3 else N H2)
abbrev CT(α:Type):=Addr->uC->Hp->List Addr->α
def jhb(wi:TI)(caps:List Nat)(tt:CT TT)(te:CT TE):TE:=fun σ H Q=>wi σ H fun J H1=>∀(C:Addr)(s:uC)(H0:Hp)(fp:List Addr)(acc:Addr),H1 acc=none->jsh J caps (tt C s H0 fp) (te C s H0 fp) acc σ (upd H1 acc (.lst [])) Q
def jp3:TT:=fun _ H Q=>Q true H
def jov(X:Cx)(ifs:List vV)(t:TT):Prop:=
 ∀(pins:List (Addr×Obj))(s:uC)(σ:L2.St)(H:Hp)(Q:Bool->Hp->Prop),Inv X pins σ H s->t σ H Q->
  uV (uX X.prog X.w) X.A (forIn ifs true fun c r=>if r=true then do let ok<-isTrue c X.env (wK c X.env);pure (dF ok) else pure (dF r)) (TP X pins σ Q) X.xe s
def qex:jov X [] jp3:=fun pins s σ H Q I h=>wpAny_tests_nil ⟨H,I,h⟩
def jfb{c:vV}{t:TT}(h:PT X c t):jov X [c] t:=fun pins s σ H Q I hw=>wpAny_tests_one (h pins s σ H Q I hw)
def cxC(X:Cx)(N:List Str)(scope:wY)(cl:List (Str×Addr))(C:Addr)(s:uC)(H:Hp)(fp:List Addr):Cx where
 prog:=X.prog
 w:=X.w
 K:=X.K
 mg:=X.mg
 base:=X.base
 A:=X.A
 N:=N
 s₀:=s
 H₀:=H
 env:=bC scope cl C X.env
 outer:=X.stack
 stack:=X.stack
 ex:=fp
 fn:=fun _=>false
 calm:=X.calm
 pn:=[]
 xe:=fun _ _=>False
structure jow(X:Cx)(x:Str)(scope:wY)(cl:List (Str×Addr))(caps:List Nat)(cn:List Str):Prop where
 clos:closureFor scope X.env=pure cl
 kind:scope.kind=.function
 cell:∀y∈scope.names,y.2≠ .cell
 names:∀y∈scope.names,y.2=.local->scope.names.lookup y.1=some .local
 tg:scope.names.lookup x=some .local
 sub:∀y c,cl.lookup y=some c->X.env.cells.lookup y=some c
 has:∀y,((fY scope X.env).names.lookup y=some .cell\/(fY scope X.env).names.lookup y=some .free)->∃c,cl.lookup y=some c
 len:caps.length=cn.length
 cap:∀(k:Nat)(y:Str)(j:Nat),cn[k]?=some y->caps[k]?=some j->X.N[j]?=some y/\X.env.kindOf y=some .cell/\(fY scope X.env).names.lookup y=some .cell/\X.env.scope.names.lookup y=some .cell/\∃c,cl.lookup y=some c
 nd:(x::cn).Nodup
section
variable{X:Cx}{pins:List (Addr×Obj)}{σ:L2.St}{H:Hp}{s:uC}
def Inv.comp{x:Str}{scope:wY}{cl:List (Str×Addr)}{caps:List Nat}{cn:List Str}(Cp:jow X x scope cl caps cn)(I:Inv X pins σ H s){fp:List Addr}(hf:∀b∈fp,jcl X pins H b)(hlt:∀b∈fp,b<↑s){h₁:vQ}{t':Nat}
  (hns:h₁.Ns ↑s (fun _=>none))(k:∀b o,s.heap.get? b=some o->h₁.get? b=some o):
  Inv (cxC X (x::cn) scope cl ↑s s H fp) [] (none::qca caps σ) H {s with heap:=h₁,toks:=t'}:=by
 have cne:∀y c,cl.lookup y=some c->∃v,s.heap.IsCell c v:=fun y c e=>I.cell y c (Cp.sub y c e);have ltC:∀y c,cl.lookup y=some c->c<↑s:=fun y c e=>let ⟨v,q⟩:=cne y c e;q.lt
 have isC:∀c v,s.heap.IsCell c v->h₁.IsCell c v:=fun c v ⟨o,e,d⟩=>⟨o,k c o e,d⟩;refine⟨⟨I.ok.mod,Cp.kind,I.ok.glob,I.ok.blt,uG _,fun y z c e1 e2=>I.ok.inj y z c (Cp.sub y c e1) (Cp.sub z c e2),fun y hy=>Cp.has y hy,fun y c z=>(uU z).elim,I.ok.hd,I.ok.frames,.inl rfl,
  fun b hb=>⟨vD (hlt b hb),fun y c e z=>?_⟩,I.bs,vK I.ok.bsz I.sz,fun b o e hb=>?_,fun b hb z=>?_,I.stack,I.stkFree⟩,
  rfl,I.bare,Un.kept k,⟨_,hns,fun i y v e1 e2 e3=>?_⟩,fun y c e=>?_,I.hok.fresh (uG _),fun y c e=>I.freeC y c (Cp.sub y c e),fun p hp=>absurd (show p∈([]:List (Addr×Obj)) from hp) (by simp),I.hok.kept k,?_⟩
 .exact(hf b hb).2.2.2.2.1 y c (Cp.sub y c e) z
 .rcases(hf b hb).2.2.2.1 with z|z
  .exact I.ok.noex b o e z
  .exact absurd (vB (uO e) (vK I.ok.bsz z)) (wM _)
 .rcases zO.mp (I.stkSub b z) with z|z
  .exact(hf b hb).2.1 z
  .exact(hf b hb).2.2.1 z
 .cases i with
  |zero=>cases e2
  |succ i=>
   have e1':cn[i]?=some y:=by simpa[cxC] using e1
   have e2':(qca caps σ)[i]?=some (some v):=by simpa using e2
   unfold qca at e2';rw[zC] at e2';obtain⟨j,hj,ej⟩:=uK.mp e2';obtain⟨c1,c2,c3,c5,c,c4⟩:=Cp.cap i y j e1' hj
   cases hs:σ[j]? with
   |none=>rw[hs] at ej;cases ej
   |some w=>
    rw[hs] at ej;have ej':w=some v:=ej;subst ej';obtain⟨m,hn,hl⟩:=I.loc;obtain⟨u,r,l⟩:=hl j y v c1 hs (.inr (.inl c5));refine⟨u,r,.inr ⟨.inl c3,c,c4,?_⟩⟩;rcases l with⟨l,_⟩|⟨_,c',e',q⟩
    .rw[c2] at l;cases l
    .rw[Cp.sub y c c4] at e'
     cases e'
     exact isC _ _ q
 .obtain⟨v,q⟩:=cne y c e;exact⟨v,isC c v q⟩
 .show(none::qca caps σ).length=(x::cn).length;rw[zR,zR];unfold qca;rw[zA,Cp.len]
def Inv.uncomp{N:List Str}{scope:wY}{cl:List (Str×Addr)}{C:Addr}{σ':L2.St}{H':Hp}{s':uC}{fp:List Addr}(I:Inv X pins σ H s)(hf:∀b∈fp,jcl X pins H b)(hC:C=↑s)
  (J:Inv (cxC X N scope cl C s H fp) [] σ' H' s'){h':vQ}(sb:aY C s'.heap h'):Inv X pins σ H' {s' with heap:=h'}:=by
 have ne:∀b o,s.heap.get? b=some o->b≠C:=fun b o e=>by rw[hC];exact vD (uO e)
 have u:Un (frs X.stack) fp H H' s.heap s'.heap:=J.base;have hok:HOk X.prog X.w H' h':=fun b o e=>by
  refine(J.hok b o e).stay (fun c u' hc q=>(sb.2 c ?_).trans q) (fun _ q=>q) fun _ _ q=>q;intro z;have n:H' C=none:=J.free;rcases hc with hc|hc
  .rw[<-hc,z,n] at e;cases e
  .rw[z,n] at hc;cases hc
 refine I.call' (s':={s' with heap:=h'}) (ch:=fp) J.os ⟨fun b o e n hb hx=>(sb.2 b (ne b o e)).trans (u.keep b o e n hb hx),fun b o e n hb hx=>?_,u.free,fun b o e hx=>?_,u.tups,u.frzs,u.tbls⟩ hok J.bare fun b hb=>?_
 .obtain⟨sl,q⟩:=u.slot b o e n hb hx;exact⟨sl,(sb.2 b (ne b o e)).trans q⟩
 .obtain⟨o',q⟩:=u.there b o e hx;exact⟨o',(sb.2 b (ne b o e)).trans q⟩
 .obtain⟨f0,f1,f2,f3,f4,f5⟩:=hf b hb;exact⟨f3,f1,f4,f5⟩
end
section
variable{X:Cx}
def qgv{elt iter:vV}{x:Str}{px:Pos}{ifs:List vV}{scope:wY}{cl:List (Str×Addr)}{pos:Pos}{caps:List Nat}{cn:List Str}{tt:CT TT}{te:CT TE}(Cp:jow X x scope cl caps cn)(hc:X.calm=true)
  (ht:∀C s H fp,jov (cxC X (x::cn) scope cl C s H fp) ifs (tt C s H fp)){pins:List (Addr×Obj)}{σ:L2.St}{Q:VK}{itv:uB}{s2:uC}{us:Option (uB->Sem Unit)}{P:uB->uC->Prop}
  (h2:PIE X pins σ (.Name x px) (fun J H1=>∀(C:Addr)(s:uC)(H0:Hp)(fp:List Addr)(acc:Addr),H1 acc=none->jsh J caps (tt C s H0 fp) (te C s H0 fp) acc σ (upd H1 acc (.lst [])) Q) itv s2)
  (he:∀(acc:Addr)(s3:uC)(H3:Hp)(fp:List Addr),Inv X pins σ H3 s3->(∀b∈fp,jcl X pins H3 b)->∀(pn:List (Addr×Obj))(s9:uC)(τ:L2.St)(H9:Hp)(R:VK),Inv (cxC X (x::cn) scope cl ↑s3 s3 H3 fp) pn τ H9 s9->te ↑s3 s3 H3 fp τ H9 R->
   uV (uX X.prog X.w) X.A (wK elt (bC scope cl ↑s3 X.env)) (EP (cxC X (x::cn) scope cl ↑s3 s3 H3 fp) pn τ R) (notedBy (uX X.prog X.w) X.A (bC scope cl ↑s3 X.env) fun e s'=>fZ (uX X.prog X.w) X.A X.xe us P (.ref acc) ↑s3 (.error e) s') s9)
  (hd:∀(acc:Addr)(s3:uC)(H3:Hp)(fp:List Addr),Inv X pins σ H3 s3->(∀b∈fp,jcl X pins H3 b)->∀(τ:L2.St)(H5:Hp)(s6:uC)(v:Flow),Inv (cxC X (x::cn) scope cl ↑s3 s3 H3 fp) [] τ H5 s6->Q (.ref acc) H5->fZ (uX X.prog X.w) X.A X.xe us P (.ref acc) ↑s3 (.ok v) s6):
  uV (uX X.prog X.w) X.A (newList []) (fun acc s3=>uV (uX X.prog X.w) X.A (newFunctionEnv scope X.env.globals cl [] X.env.qual none .none (some X.env)) (fun ce s4=>
   bP (uX X.prog X.w) X.A (.compStart (.ListComp elt [⟨.Name x px,iter,ifs,0⟩] scope pos) 0 itv acc {ce with scope:=fY scope X.env}) (fZ (uX X.prog X.w) X.A X.xe us P acc ce.locals) s4) X.xe s3) X.xe s2:=by
 obtain⟨it,fp,tn,J,H2,e,I2,T,st2,f2,R⟩:=h2;subst e;have hacc:H2 ↑s2=none:=I2.hok.fresh (uG _);refine fR ?_;have I3:Inv X pins σ (upd H2 ↑s2 (.lst [])) {s2 with heap:=s2.heap.push {cls:=.type "list",dict:=none,data:=.seq ([]:List uB).toArray}}:=Inv.lnew (its:=[]) (t':=s2.toks) I2 .nil (wO _);have lt2:∀b∈fp,b<↑s2:=fun b hb=>let ⟨o,e,_⟩:=T.obj _ _ st2 b hb;uO e
 have f3:∀b∈fp,jcl X pins (upd H2 ↑s2 (.lst [])) b:=fun b hb=>⟨by rw[qa4 (vD (lt2 b hb))];exact(f2 b hb).1,(f2 b hb).2⟩;have st3:tn 0 (s2.heap.push {cls:=.type "list",dict:=none,data:=.seq ([]:List uB).toArray}):=T.keep _ _ _ st2 fun b _ o e=>uD _ e;generalize hs3:({s2 with heap:=s2.heap.push {cls:=.type "list",dict:=none,data:=.seq ([]:List uB).toArray}}:uC)=s3 at I3⊢;have st3':tn 0 s3.heap:=by rw[<-hs3];exact st3
 generalize ↑s2=acc at hacc I3 f3⊢;obtain⟨W,⟨m0,w0⟩,turn⟩:=R ↑s3 s3 (upd H2 acc (.lst [])) fp acc hacc;have lt3:∀b∈fp,b<↑s3:=fun b hb=>let ⟨o,e,_⟩:=T.obj _ _ st3' b hb;uO e
 clear st3 hs3;refine wpAny_newFunctionEnv Cp.cell (by intro y hy;simp at hy) (fun h₁ hns hsb=>?_) Cp.kind;have k1:∀b o,s3.heap.get? b=some o->h₁.get? b=some o:=fun b o e=>hsb.extBut b o (vD (uO e)) (uD _ e);have I4:Inv (cxC X (x::cn) scope cl ↑s3 s3 (upd H2 acc (.lst [])) fp) [] (none::qca caps σ) (upd H2 acc (.lst [])) {s3 with heap:=h₁,toks:=s3.toks+([]:List (Str×uB)).length}:=
  Inv.comp Cp I3 f3 lt3 hns k1
 have st4:tn 0 h₁:=T.keep _ _ _ st3' fun b _ o e=>k1 b o e;generalize hX:cxC X (x::cn) scope cl ↑s3 s3 (upd H2 acc (.lst [])) fp=X' at I4;have stat:∀{H':Hp},(∀b∈fp,H' b=none)->∀b∈fp,jcl X' [] H' b:=fun hn b hb=>by
  subst hX;obtain⟨g0,g1,g2,g3,g4,g5⟩:=f3 b hb;refine⟨hn b hb,vD (lt3 b hb),fun z=>?_,.inl hb,fun y c e=>g4 y c (Cp.sub y c e),fun p hp=>absurd (show p∈([]:List (Addr×Obj)) from hp) (by simp)⟩;rcases zO.mp (I3.stkSub b z) with z|z
  .exact g1 z
  .exact g2 z
 have core:bP (uX X.prog X.w) X.A (.compLoop (.ListComp elt [⟨.Name x px,iter,ifs,0⟩] scope pos) 0 (.ref it) (.ref acc) (bC scope cl ↑s3 X.env))
   (fZ (uX X.prog X.w) X.A X.xe us P (.ref acc) ↑s3) {s3 with heap:=h₁,toks:=s3.toks+([]:List (Str×uB)).length}:=by
  refine codeAny_loop rfl (fun n s'=>∃i a H',Inv X' [] (a::qca caps σ) H' s'/\tn i s'.heap/\(∀b∈fp,H' b=none)/\W i n H') (fun n s5 hI=>?_) m0 ⟨0,none,_,I4,st4,fun b hb=>(f3 b hb).1,w0⟩;obtain⟨i,a0,H5,I5,st5,fr5,w5⟩:=hI;show uV _ _ ((compTurn _ 0 _ _ _).onRaise _) _ _ s5;refine wpAny_noted ?_;rw[compTurn_list];refine uE (xM (uE ?_));have aX:X'.A=X.A:=by subst hX;rfl
  have pX:X'.prog=X.prog:=by subst hX;rfl
  have wX:X'.w=X.w:=by subst hX;rfl
  have kX:X'.K=X.K:=by subst hX;rfl
  have cX:X'.calm=true:=by subst hX;exact hc
  have eX:X'.env=bC scope cl ↑s3 X.env:=by subst hX;rfl
  rcases turn i n H5 w5 with⟨stop,qn⟩|⟨go,N,hN,step⟩
  .have z:=T.done X' pX wX kX cX i [] s5 _ H5 (fun _ _=>False) I5 (stat fr5) st5 stop;rw[aX] at z;refine vS z (fun r s6 ⟨hr,I6⟩=>?_) fun _ _ q=>q.elim;subst hr;subst hX;exact vC (hd acc s3 _ fp I3 f3 _ H5 s6 _ I6 qn)
  .have z:=T.item X' pX wX kX cX i [] s5 _ H5 (fun _ _=>False) I5 (stat fr5) st5 go;rw[aX] at z;refine vS z (fun r s6 ⟨u,hr,h6⟩=>?_) fun _ _ q=>q.elim;subst hr;refine uE (vS h6 (fun _ s7 ⟨v,H7,I7,r7,y7,st7,fr7⟩=>?_) fun _ _ q=>q.elim);have I7':=I7.pinned (stat fr7) (T.obj _ _ st7);have asg:uV (uX X.prog X.w) X.A (gL (.Name x px) (bC scope cl ↑s3 X.env) u) (fun _ s8=>Inv X' ([]++qee fp s7.heap) (some v::qca caps σ) H7 s8) (fun _ _=>False) s7:=by
    subst hX;exact fQ (qe7 (X:=cxC X (x::cn) scope cl ↑s3 s3 (upd H2 acc (.lst [])) fp) (i:=0) I7' Cp.nd rfl (.inl (lookup_relabel_local Cp.tg)) r7 (fun s' I'=>I') (.inr (lookup_relabel_local Cp.tg)))
   refine uE (vS asg (fun _ s8 I8=>?_) fun _ _ q=>q.elim);have tst:uV (uX X.prog X.w) X.A (forIn ifs true fun c r=>if r=true then do let ok<-isTrue c (bC scope cl ↑s3 X.env) (wK c (bC scope cl ↑s3 X.env));pure (dF ok) else pure (dF r))
     (TP X' ([]++qee fp s7.heap) (some v::qca caps σ) (fun b H9=>if b=true then te ↑s3 s3 (upd H2 acc (.lst [])) fp (some v::qca caps σ) H9 (fun y H3=>jp2 acc N y H3) else N H9)) (fun _ _=>False) s8:=by
    subst hX;exact ht _ _ _ _ _ s8 _ H7 _ I8 (step v H7 y7)
   refine uE (vS tst (fun b s9 ⟨H9,I9,q9⟩=>?_) fun _ _ q=>q.elim);have fin:∀{a:Option V} {H10:Hp} {s10:uC},Inv X' ([]++qee fp s7.heap) (a::qca caps σ) H10 s10->N H10->∃m',m'<n/\∃i a H',Inv X' [] (a::qca caps σ) H' s10/\tn i s10.heap/\(∀b∈fp,H' b=none)/\W i m' H':=fun {a H10 s10} I10 n10=>
    let ⟨m',hm,w10⟩:=hN _ n10
    ⟨m',hm,i+1,a,H10,I10.unpinned,T.keep _ _ _ st7 fun b hb o e=>(I10.pin (b,o) (zI _ (zI _ (qdn hb e)))).1,fun b hb=>by
     obtain⟨o,e,d⟩:=T.obj _ _ st7 b hb;exact(I10.pin (b,o) (zI _ (zI _ (qdn hb e)))).2.1,w10⟩
   cases b with
   |false=>exact vC ⟨rfl,fin I9 q9⟩
   |true=>
    have elt':uV (uX X.prog X.w) X.A (wK elt (bC scope cl ↑s3 X.env)) (EP X' ([]++qee fp s7.heap) (some v::qca caps σ) (fun y H3=>jp2 acc N y H3)) (notedBy (uX X.prog X.w) X.A (bC scope cl ↑s3 X.env) fun e s'=>fZ (uX X.prog X.w) X.A X.xe us P (.ref acc) ↑s3 (.error e) s') s9:=by
     subst hX;exact he acc s3 _ fp I3 f3 _ s9 _ H9 _ I9 q9
    refine uE (uE (vS elt' (fun y s10 ⟨w,H10,I10,r10,ys,ha,hz,q10⟩=>?_) fun _ _ q=>q));have app:uV (uX X.prog X.w) X.A (call (.builtin "list.append") [.ref acc,y]) (EP X' ([]++qee fp s7.heap) (some v::qca caps σ) fun _ H11=>H11=upd H10 acc (.lst (ys++[w]))) (fun _ _=>False) s10:=by
     subst hX;exact qc8 (X:=cxC X (x::cn) scope cl ↑s3 s3 (upd H2 acc (.lst [])) fp) _ s10 _ H10 (.ref acc) [w] (.ref acc) [y] _ I10 rfl (.cons r10 .nil) ⟨acc,ys,w,rfl,rfl,ha,hz,rfl⟩
    refine uE (vS app (fun _ s11 ⟨_,H11,I11,_,e11⟩=>?_) fun _ _ q=>q.elim);subst e11;exact vC (vC ⟨rfl,fin I11 q10⟩)
 exact codeAny_compStart_list core (T.self _ 0 _ _ _ st4 core)
def qd6{elt iter:vV}{x:Str}{px:Pos}{ifs:List vV}{scope:wY}{cl:List (Str×Addr)}{pos:Pos}{caps:List Nat}{cn:List Str}{wi:TI}{tt:CT TT}{te:CT TE}(Cp:jow X x scope cl caps cn)(hc:X.calm=true)
  (hi:PI X (.Name x px) iter wi)(ht:∀C s H fp,jov (cxC X (x::cn) scope cl C s H fp) ifs (tt C s H fp))(he:∀C s H fp,PE (cxC X (x::cn) scope cl C s H fp) elt (te C s H fp))
  (hs:∀x,cH iter X.env x=pure x:=by intro _;rfl):
  PE X (.ListComp elt [⟨.Name x px,iter,ifs,0⟩] scope pos) (jhb wi caps tt te):=by
 intro pins s σ H Q I h;rw[eval_ListComp];refine cP (use:=none) rfl hs Cp.clos Cp.kind Cp.names (thn (hi pins s σ H _ I h) fun v s1 h1=>thn h1 fun itv s2 h2=>qgv Cp hc ht h2 (fun acc s3 H3 fp I3 f3 pn s9 τ H9 R I9 q9=>vS (he _ _ _ _ pn s9 τ H9 R I9 q9) (fun _ _ q=>q) fun _ _ q=>q.elim) fun acc s3 H3 fp I3 f3 τ H5 s6 v I6 q=>?_);obtain⟨m,hm,_⟩:=id I6.loc;exact⟨m,hm,fun h' sb=>⟨.ref acc,H5,Inv.uncomp I3 f3 rfl I6 sb,rfl,q⟩⟩
def Its(x:Str):It:=⟨fun i _=>i<x.cps.size,fun i H v H'=>H'=H/\∃c,x.cps[i]?=some c/\v=.str ⟨#[c]⟩,fun i _=>i=x.cps.size⟩
def jfc{P:uW}{w:vL}{K:uT}{y:Str}{py:Pos}(x:Str)(t:Tok)(it:Addr)(ty:String)(W:∀A:vR,A.handled=none->Walks P w A it [it] [it] x.cps.size (SignAt x) (fun i h=>h.IsStrIter it ty x t i))
  (hself:∀(A:vR)(i:Nat)(s:uC)(Q:uB->uC->Prop)(E:uB->uC->Prop),s.heap.IsStrIter it ty x t i->Q (.ref it) s->uV (uX P w) A (pyIter (.ref it)) Q E s):
  jou P w K (.Name y py) (Its x) [it] it (fun i h=>h.IsStrIter it ty x t i) where
 mem:=by simp
 obj:=fun i h st b hb=>by
  have e:b=it:=by simpa using hb
  subst e;obtain⟨o,e,c,d⟩:=st;exact⟨o,e,fun v z=>by rw[d] at z;cases z⟩
 keep:=fun i h h' ⟨o,e,r⟩ k=>⟨o,k it (by simp) o e,r⟩
 item:=by
  intro X hP hw hK hc i pins s σ H E I hf st hg;subst hP hw hK;obtain⟨f0,f1,f2,f3,f4,f5⟩:=hf it (by simp);refine(W X.A (I.ok.hd hc)).item i s _ _ hg st fun v h' tk hv st' k=>?_;have I1:Inv X pins σ H {s with heap:=h',toks:=tk}:=I.turned (t':=tk) (fun b o hb e=>k b o (fun z=>hb (by simpa using z)) e) f0 f1 f3 f4 f5;obtain⟨c,u,hx,rfl⟩:=hv;exact⟨_,rfl,vC ⟨.str ⟨#[c]⟩,H,I1,⟨_,rfl⟩,⟨rfl,c,hx,rfl⟩,st',fun b hb=>(hf b hb).1⟩⟩
 done:=by
  intro X hP hw hK hc i pins s σ H E I hf st hg;subst hP hw hK;have hg':i=x.cps.size:=hg;subst hg';obtain⟨f0,f1,f2,f3,f4,f5⟩:=hf it (by simp);exact(W X.A (I.ok.hd hc)).done s _ _ st fun h' tk k=>⟨rfl,I.turned (t':=tk) (fun b o hb e=>k b o (fun z=>hb (by simpa using z)) e) f0 f1 f3 f4 f5⟩
 self:=hself
def jtj(v:V)(H:Hp)(R:It->Hp->Prop):Prop:=∃x,v=.str x/\R (Its x) H
def ju9(tl:TE):TI:=fun σ H R=>tl σ H fun v H1=>jtj v H1 R
end
end My
namespace L2
open PySem PySem.Spec PyProof.Rows
section
variable{κ:Type}[DecidableEq κ]
def qci(kvs:List (κ×V))(k:κ):Option V:=(kvs.find? fun kv=>decide (kv.1=k)).map (·.2)
def qbl(kvs:List (κ×V))(k:κ)(v:V):List (κ×V):=
 if(kvs.any fun kv=>decide (kv.1=k))=true then kvs.map (fun kv=>if kv.1=k then(kv.1,v) else kv) else kvs++[(k,v)]
def qc1{p:κ×V}{r:List (κ×V)}{k:κ}(e:p.1=k):qci (p::r) k=some p.2:=by simp[qci,yI,e]
def qc2{p:κ×V}{r:List (κ×V)}{k:κ}(e:¬p.1=k):qci (p::r) k=qci r k:=by simp[qci,yI,e]
theorem qcs(k:κ):∀kvs:List (κ×V),(kvs.any fun kv=>decide (kv.1=k))=(qci kvs k).isSome
 | []=>rfl
 |p::r=>by
  rw[yQ];by_cases e:p.1=k
  .simp only[qc1 e,gW e,Bool.true_or,Option.isSome_some]
  .rw[qc2 e,gX e,eK];exact qcs k r
theorem jfd(k j:κ)(y:V):∀kvs:List (κ×V),qci (kvs.map fun kv=>if kv.1=k then(kv.1,y) else kv) j=(qci kvs j).map fun x=>if j=k then y else x
 | []=>rfl
 |p::r=>by
  have ih:=jfd k j y r;rw[zU];by_cases h:p.1=k
  .rw[gU h];by_cases e:p.1=j
   .rw[qc1 (p:=(p.1,y)) e,qc1 e,dG,gU (e.symm.trans h)]
   .rw[qc2 (p:=(p.1,y)) e,qc2 e,ih]
  .rw[gT h];by_cases e:p.1=j
   .rw[qc1 (p:=p) e,qc1 e,dG,gT (fun z=>h (e.trans z))]
   .rw[qc2 (p:=p) e,qc2 e,ih]
theorem jc2(k j:κ)(y:V):∀kvs:List (κ×V),qci kvs k=none->qci (kvs++[(k,y)]) j=if j=k then some y else qci kvs j
 | [],_=>by
  by_cases e:k=j
  .rw[gU e.symm];exact qc1 (p:=(k,y)) e
  .rw[gT (fun z=>e z.symm)];exact qc2 (p:=(k,y)) e
 |p::r,hn=>by
  rw[List.cons_append];have hk:¬p.1=k:=fun z=>by rw[qc1 z] at hn;cases hn
  rw[qc2 hk] at hn;have ih:=jc2 k j y r hn;by_cases e:p.1=j
  .rw[qc1 e,qc1 e,gT (fun z=>hk (e.trans z))]
  .rw[qc2 e,qc2 e,ih]
def qf0(kvs:List (κ×V))(k j:κ)(y:V):qci (qbl kvs k y) j=if j=k then some y else qci kvs j:=by
 unfold qbl;by_cases a:(kvs.any fun kv=>decide (kv.1=k))=true
 .rw[gU a,jfd];rw[qcs] at a;by_cases e:j=k
  .obtain⟨x,hx⟩:=cN.mp a;rw[gU e,e,hx,dG,gU rfl]
  .rw[gT e]
   cases qci kvs j with
   |none=>rfl
   |some x=>rw[dG,gT e]
 .rw[gT a];refine jc2 k j y kvs ?_;rw[qcs] at a
  cases q:qci kvs k with
  |none=>rfl
  |some x=>rw[q] at a;exact(a rfl).elim
def qay(kvs:List (κ×V))(k:κ)(v:V):(qbl kvs k v).length<=kvs.length+1:=by
 unfold qbl
 split
 .rw[zA];omega
 .rw[zQ,zR,yL];omega
def jjw{kvs:List (κ×V)}{k:κ}(v:V)(h:qci kvs k=none):qbl kvs k v=kvs++[(k,v)]:=by
 unfold qbl;rw[qcs,h];exact gT ∅
def qgz.isSome_eq{o:Option V}{u:Option uB}(r:qgz o u):o.isSome=u.isSome:=by
 cases o with
 |none=>cases u with
  |none=>rfl
  |some _=>exact(show False from r).elim
 |some _=>cases u with
  |none=>exact(show False from r).elim
  |some _=>rfl
theorem qgz.getD{o:Option V}{u:Option uB}{d:V}{d':uB}(r:qgz o u)(rd:qb6 d d'):qb6 (o.getD d) (u.getD d'):=by
 cases o with
 |none=>cases u with
  |none=>exact rd
  |some _=>exact(show False from r).elim
 |some _=>cases u with
  |none=>exact(show False from r).elim
  |some _=>exact r
def KV.val{kvs:List (κ×V)}{vs:List (κ×uB)}(r:KV kvs vs)(k:κ):qgz (qci kvs k) (dB vs k):=by
 unfold KV at r
 induction r with
 |nil=>exact wW
 | @cons p q ps qs h t ih=>
  obtain⟨h1,h2⟩:=h;by_cases e:p.1=k
  .have e':q.1=k:=h1.symm.trans e;have b:dB (q::qs) k=some q.2:=by simp[dB,yI,e']
   rw[qc1 e,b];exact h2
  .have e':¬q.1=k:=fun z=>e (h1.trans z);have b:dB (q::qs) k=dB qs k:=by simp[dB,yI,e']
   rw[qc2 e,b];exact ih
theorem KV.any{kvs:List (κ×V)}{vs:List (κ×uB)}(r:KV kvs vs)(k:κ):(kvs.any fun kv=>decide (kv.1=k))=vs.any fun kv=>decide (kv.1=k):=by
 unfold KV at r
 induction r with
 |nil=>rfl
 |cons h t ih=>rw[yQ,yQ,ih,h.1]
def KV.repl{kvs:List (κ×V)}{vs:List (κ×uB)}(r:KV kvs vs)(k:κ){y:V}{u:uB}(ry:qb6 y u):
  KV (kvs.map fun kv=>if kv.1=k then(kv.1,y) else kv) (vs.map fun kv=>if kv.1=k then(kv.1,u) else kv):=by
 unfold KV at r⊢
 induction r with
 |nil=>exact .nil
 | @cons p q ps qs h t ih=>
  rw[zU,zU];refine .cons ?_ ih;obtain⟨h1,h2⟩:=h;by_cases e:p.1=k
  .rw[gU e,gU (h1.symm.trans e)];exact⟨h1,ry⟩
  .rw[gT e,gT (fun z=>e (h1.trans z))];exact⟨h1,h2⟩
def KV.put{kvs:List (κ×V)}{vs:List (κ×uB)}(r:KV kvs vs)(k:κ){y:V}{u:uB}(ry:qb6 y u):KV (qbl kvs k y) (stored vs k u):=by
 unfold qbl stored;rw[r.any k];by_cases e:(vs.any fun kv=>decide (kv.1=k))=true
 .rw[gU e,gU e];exact r.repl k ry
 .rw[gT e,gT e];exact Paired.snoc r ⟨rfl,ry⟩
def KV.keys{kvs:List (κ×V)}{vs:List (κ×uB)}(r:KV kvs vs):kvs.map (·.1)=vs.map (·.1):=by
 unfold KV at r
 induction r with
 |nil=>rfl
 |cons h t ih=>rw[zU,zU,ih,h.1]
theorem KV.length{kvs:List (κ×V)}{vs:List (κ×uB)}(r:KV kvs vs):kvs.length=vs.length:=Paired.length r
end
def jf6{P:uW}{w:vL}{k:Key}{u:uB}(r:qb6 (kV k) u):(qbc P w).is k u=true:=by
 cases k with
 |inl i=>obtain⟨t,e⟩:=(show ∃t,u=cS i t from r);subst e;exact jdr P w i t
 |inr x=>obtain⟨t,e⟩:=(show ∃t,u=dX x t from r);subst e;exact jds P w x t
theorem jc3{P:uW}{w:vL}:∀{ks:List Key} {us:List uB},qbk (ks.map kV) us->ItemsAre (qbc P w) ks us
 | [],_,r=>by rw[fU] at r;cases r;exact .nil
 |k::ks,_,r=>by
  rw[zU] at r
  cases r with
  |cons h t=>exact .cons (jf6 h) (jc3 t)
abbrev KT(H:Hp):List (List Key×V)->List (List Key×Addr×uB)->Prop:=Paired fun p q=>p.1=q.1/\H q.2.1=some (.tup (p.1.map kV))/\qb6 p.2 q.2.2
def KT.val{H:Hp}{kvs:List (List Key×V)}{xs:List (List Key×Addr×uB)}(r:KT H kvs xs)(k:List Key):qgz (qci kvs k) ((atKey xs k).map (·.2)):=by
 induction r with
 |nil=>exact wW
 | @cons p q ps qs h t ih=>
  obtain⟨h1,_,h2⟩:=h;by_cases e:p.1=k
  .have e':q.1=k:=h1.symm.trans e;have b:atKey (q::qs) k=some q.2:=by simp[atKey,yI,e']
   rw[qc1 e,b];exact h2
  .have e':¬q.1=k:=fun z=>e (h1.trans z);have b:atKey (q::qs) k=atKey qs k:=by simp[atKey,yI,e']
   rw[qc2 e,b];exact ih
def KT.repl{H:Hp}{kvs:List (List Key×V)}{xs:List (List Key×Addr×uB)}(r:KT H kvs xs)(k:List Key){y:V}{u:uB}(ry:qb6 y u):
  KT H (kvs.map fun kv=>if kv.1=k then(kv.1,y) else kv) (xs.map (putAt k u)):=by
 induction r with
 |nil=>exact .nil
 | @cons p q ps qs h t ih=>
  rw[zU,zU];refine .cons ?_ ih;obtain⟨h1,h2,h3⟩:=h;unfold putAt;by_cases e:p.1=k
  .rw[gU e,gU (h1.symm.trans e)];exact⟨h1,h2,ry⟩
  .rw[gT e,gT (fun z=>e (h1.trans z))];exact⟨h1,h2,h3⟩
def KT.put{H:Hp}{kvs:List (List Key×V)}{xs:List (List Key×Addr×uB)}(r:KT H kvs xs)(k:List Key){b:Addr}{y:V}{u:uB}(hb:H b=some (.tup (k.map kV)))(ry:qb6 y u):
  KT H (qbl kvs k y) (storedH xs k b u):=by
 have e:(kvs.any fun kv=>decide (kv.1=k))=(atKey xs k).isSome:=by
  rw[qcs,(r.val k).isSome_eq,bD]
 unfold qbl storedH;rw[e];by_cases q:(atKey xs k).isSome=true
 .rw[gU q,gU q];exact r.repl k ry
 .rw[gT q,gT q];exact Paired.snoc r ⟨rfl,hb,ry⟩
def KT.keeps{H H':Hp}{kvs:List (List Key×V)}{xs:List (List Key×Addr×uB)}(r:KT H kvs xs)(ht:∀b ys,H b=some (.tup ys)->H' b=some (.tup ys)):KT H' kvs xs:=
 Paired.mapP r fun _ _ z=>⟨z.1,ht _ _ z.2.1,z.2.2⟩
section
variable{P:uW}{w:vL}{H:Hp}{h:vQ}{a:Addr}
def jp4{u:HO}(ok:HOk P w H h)(e:Rd H a u):qbq P w H h a u:=e.ok ok
def qft{kvs:List (Key×V)}(ok:HOk P w H h)(e:Rd H a (.dK kvs)):kvs.length<=sizeLine/\(a==xW)=false/\∃vs,KV kvs vs/\h.DictOf (qbc P w) a vs:=
 show qbq P w H h a (.dK kvs) from jp4 ok e
def jp5{kvs:List (Key×V)}(ok:HOk P w H h)(e:H a=some (.dK kvs)):kvs.length<=sizeLine/\(a==xW)=false/\∃vs,KV kvs vs/\h.DictOf (qbc P w) a vs:=qft ok (.inl e)
def jc4{ks:List Key}(ok:HOk P w H h)(e:H a=some (.tup (ks.map kV))):(dY (qbc P w)).is h ks a:=by
 obtain⟨_,its,r,o,h1,h2,n,h3⟩:=(show qbq P w H h a (.tup (ks.map kV)) from ok a _ e);exact⟨o,its.toArray,n,h1,h2,h3,by simpa using jc3 r⟩
def jf7{kvs:List (List Key×V)}(ok:HOk P w H h)(e:Rd H a (.dT kvs)):kvs.length<=sizeLine/\(a==xW)=false/\
  ∃xs,KT H kvs xs/\h.DictOfH (dY (qbc P w)) a xs:=by
 obtain⟨z,y,xs,r,o,es,ep,h1,h2,h3,h4,h5⟩:=(show qbq P w H h a (.dT kvs) from jp4 ok e);refine⟨z,y,xs,r,o,es,ep,h1,h2,h3,h4,fun x hx=>?_,h5⟩;have all:∀{l:List (List Key×V)} {m:List (List Key×Addr×uB)},KT H l m->∀x∈m,(dY (qbc P w)).is h x.1 x.2.1:=by
  intro l m q
  induction q with
  |nil=>intro x hx;exact nomatch hx
  | @cons p q ps qs hq t ih=>
   intro x hx;rcases zO.mp hx with e|hx
   .subst e;exact jc4 ok (by rw[<-hq.1];exact hq.2.1)
   .exact ih x hx
 exact all r x hx
def jtk{kvs:List (List Key×V)}(ok:HOk P w H h)(e:H a=some (.dT kvs)):kvs.length<=sizeLine/\(a==xW)=false/\
  ∃xs,KT H kvs xs/\h.DictOfH (dY (qbc P w)) a xs:=jf7 ok (.inl e)
end
def jf8(H:Hp)(a:Addr)(y:V)(r:Option V):Prop:=
 (∃kvs k,Rd H a (.dK kvs)/\y=kV k/\r=qci kvs k)\/∃kvs k b,Rd H a (.dT kvs)/\y=.ref b/\H b=some (.tup (k.map kV))/\r=qci kvs k
def jox(H:Hp)(a:Addr)(y v:V)(H':Hp):Prop:=
 (∃kvs k,H a=some (.dK kvs)/\y=kV k/\kvs.length<sizeLine/\H'=upd H a (.dK (qbl kvs k v)))\/
 ∃kvs k b,H a=some (.dT kvs)/\y=.ref b/\H b=some (.tup (k.map kV))/\kvs.length<sizeLine/\H'=upd H a (.dT (qbl kvs k v))
theorem jox.k{H:Hp}{a:Addr}{kvs:List (Key×V)}{k:Key}{v:V}(e:H a=some (.dK kvs))(hl:kvs.length<sizeLine):jox H a (kV k) v (upd H a (.dK (qbl kvs k v))):=.inl ⟨kvs,k,e,rfl,hl,rfl⟩
section
variable{X:Cx}{pins:List (Addr×Obj)}{σ:St}{H:Hp}{s:uC}{a:Addr}{y v:V}{u r:uB}{o:Option V}{A:vR}{E:uB->uC->Prop}
def Inv.big(I:Inv X pins σ H s):xW<↑s:=by
 have h:uS<↑s:=(I.mod.glob.keeps I.bk).lt;exact bE ∅ h
def jhc{Q:uB->uC->Prop}(hu:A.units+1<cLine)(I:Inv X pins σ H s)(g:jf8 H a y (some v))(ry:qb6 y u)(h:∀w' s',Inv X pins σ H s'->qb6 v w'->Q w' s'):
  uV (uX X.prog X.w) A (getItem (.ref a) u) Q E s:=by
 rcases g with⟨kvs,k,e,ey,l⟩|⟨kvs,k,b,e,ey,eb,l⟩
 .subst ey;obtain⟨z,hd,vs,rel,dd⟩:=qft I.hok e;obtain⟨w',hw,rw'⟩:=qgz.some_of (v:=v) (o:=dB vs k) (by rw[l];exact rel.val k);exact wpAny_getItem_of (jf6 ry) dd.mapOf hw (h w' _ (I.tok _) rw')
 .subst ey
  cases(show u=uQ b from ry)
  obtain⟨z,hd,xs,rel,dd⟩:=jf7 I.hok e;obtain⟨w',hw,rw'⟩:=qgz.some_of (v:=v) (o:=(atKey xs k).map (·.2)) (by rw[l];exact rel.val k);obtain⟨p,hp,hp2⟩:=uK.mp hw;refine wpAny_getItem_heap (cC hu) (jc4 I.hok eb) dd hp ?_;rw[hp2];exact h w' _ (I.tok _) rw'
def jv9{Q:uB->uC->Prop}(hu:A.units+1<cLine)(I:Inv X pins σ H s)(g:jf8 H a y o)(ry:qb6 y u)(h:∀s',Inv X pins σ H s'->Q (.bool o.isSome) s'):
  uV (uX X.prog X.w) A (wD .In u (.ref a)) Q E s:=by
 rcases g with⟨kvs,k,e,ey,l⟩|⟨kvs,k,b,e,ey,eb,l⟩
 .subst ey;obtain⟨z,hd,vs,rel,dd⟩:=qft I.hok e;refine wpAny_in_of (jf6 ry) hd dd.mapOf ?_;rw[<-(rel.val k).isSome_eq,<-l];exact h _ (I.tok _)
 .subst ey
  cases(show u=uQ b from ry)
  obtain⟨z,hd,xs,rel,dd⟩:=jf7 I.hok e;refine wpAny_in_heap (cC hu) (jc4 I.hok eb) hd dd ?_;have q:=(rel.val k).isSome_eq;rw[bD] at q;rw[<-q,<-l];exact h _ (I.tok _)
def jd3{h':vQ}{t':Nat}{ob:HO}(I:Inv X pins σ H s)(mu:Mut (H a))(hs:aY a s.heap h')(he:∃q,h'.get? a=some q)(new:qbq X.prog X.w (upd H a ob) h' a ob):
  Inv X pins σ (upd H a ob) {s with heap:=h',toks:=t'}:=
 I.write (x:=a) (e:=a) mu (.inl rfl) (fun b q hb z=>(hs.2 b hb).trans z) he new
def jhd{P:uW}{w:vL}{H':Hp}{h':vQ}{kvs:List (Key×V)}{vs:List (Key×uB)}(z:kvs.length<=sizeLine)(hd:(a==xW)=false)(rel:KV kvs vs)(dd:h'.DictOf (qbc P w) a vs):
  qbq P w H' h' a (.dK kvs):=⟨z,hd,vs,rel,dd⟩
def jhe{H':Hp}{Q:Unit->uC->Prop}(hu:A.units+1<cLine)(I:Inv X pins σ H s)(g:jox H a y v H')(ry:qb6 y u)(rv:qb6 v r)(h:∀s',Inv X pins σ H' s'->Q () s'):
  uV (uX X.prog X.w) A (setItem (.ref a) u r) Q E s:=by
 rcases g with⟨kvs,k,e,ey,l,eH⟩|⟨kvs,k,b,e,ey,eb,l,eH⟩
 .subst ey eH;obtain⟨z,hd,vs,rel,dd⟩:=jp5 I.hok e;have hz:vs.length<=sizeLine:=by rw[<-rel.length];exact z
  have hl:(qbl kvs k v).length<=sizeLine:=by have:=qay kvs k v;omega
  refine wpAny_setItem_pairs (hsz:=hz) (jf6 ry) dd fun h' dd' hs=>h _ ?_;have he:∃q,h'.get? a=some q:=let ⟨q,_,_,hq,_⟩:=dd';⟨q,hq⟩
  exact jd3 I (by rw[e];exact wW) hs he (jhd hl hd (rel.put k rv) dd')
 .subst ey eH
  cases(show u=uQ b from ry)
  obtain⟨z,hd,xs,rel,dd⟩:=jtk I.hok e;have hz:xs.length<=sizeLine:=by rw[<-Paired.length rel];exact z
  have hl:(qbl kvs k v).length<=sizeLine:=by have:=qay kvs k v;omega
  refine wpAny_setItem_heap (hsz:=hz) (cC hu) (jc4 I.hok eb) dd fun h' dd' hs=>h _ ?_;obtain⟨q,es,ep,hq,h2,h3,h4,_,h5⟩:=dd';refine jd3 I (by rw[e];exact wW) hs ⟨q,hq⟩ ⟨hl,hd,_,(rel.put k eb rv).keeps fun c ys ec=>?_,q,es,ep,hq,h2,h3,h4,h5⟩;rw[qa4 (jjl ec e (fun z=>nomatch z))];exact ec
end
section
variable{X:Cx}{pins:List (Addr×Obj)}{σ:St}{H:Hp}{s:uC}{a:Addr}{kvs:List (Key×V)}{A:vR}{E:uB->uC->Prop}
def jtl{Q:uB->uC->Prop}(I:Inv X pins σ H s)(e:Rd H a (.dK kvs))(h:∀t s',Inv X pins σ H s'->Q (.int kvs.length t) s'):uV (uX X.prog X.w) A (call (.builtin "len") [.ref a]) Q E s:=by
 obtain⟨z,hd,vs,rel,dd⟩:=qft I.hok e;refine call_len_dict hd dd (by rw[<-rel.length];rw[xC] at z;omega) ?_;rw[<-rel.length];exact h _ _ (I.tok _)
end
def jva(i:vV):Prop:=∀ov iv,subscripted i false ov iv=operate [ov,iv] (getItem ov iv)
def jm3{prog:uW}{w:vL}{A:vR}{E:uB->uC->Prop}{s:uC}{env:Env}{value slice:vV}{pos:Pos}{T id:String}{Q:uB->uC->Prop}
  (hl:typeLookup (.type T) "__getitem__"=pure (some (.builtin id)))(hs:jva slice)
  (h:uV (uX prog w) A (wK value env) (fun o s₁=>uV (uX prog w) A (wK slice env) (fun i s₂=>s₂.TypeIs o T/\uV (uX prog w) A (getItem o i) Q E s₂) E s₁) E s):
  uV (uX prog w) A (wK (.Subscript value slice pos) env) Q E s:=by
 refine Subscript_ (vS h (fun o s₁ h₁=>vS h₁ (fun i s₂ h₂=>?_) fun _ _ x=>x) fun _ _ x=>x);obtain⟨hT,h₂⟩:=h₂;unfold subscriptTail;refine uE ?_;rw[getitemInPython_of_ne hT.not_modules];refine uE (wpAny_specialOf hT hl ?_);have fin:uV (uX prog w) A (subscripted slice false o i) (fun r s₃=>uV (uX prog w) A (letTemporaryGo value o r >>= fun _=>pure r) Q E s₃) E s₂:=by
  rw[hs o i];exact wpAny_operating (vS h₂ (fun r s₃ h₃=>uE (wpAny_letTemporaryGo (vC h₃))) fun _ _ x=>x)
 first
  |exact vC (uE fin)
  |exact uE (vC (uE fin))
  |exact uE fin
def jd4{X:Cx}{pins:List (Addr×Obj)}{σ:St}{H:Hp}{s:uC}{a:Addr}{y:V}{o:Option V}(I:Inv X pins σ H s)(g:jf8 H a y o):s.TypeIs (.ref a) "dict":=by
 rcases g with⟨kvs,k,e,_,_⟩|⟨kvs,k,b,e,_,_,_⟩
 .obtain⟨_,_,vs,_,dd⟩:=qft I.hok e;exact dd.typeIs
 .obtain⟨_,_,xs,_,dd⟩:=jf7 I.hok e;exact dd.typeIs
def jp6(td ty:TE):TE:=fun σ H Q=>td σ H fun x H1=>ty σ H1 fun y H2=>∃a v,x=.ref a/\jf8 H2 a y (some v)/\Q v H2
def jvb(ty td:TE):TE:=fun σ H Q=>ty σ H fun y H1=>td σ H1 fun x H2=>∃a o,x=.ref a/\jf8 H2 a y o/\Q (.bl o.isSome) H2
def jp7(td ty tv:TE):TS:=fun D σ H=>tv σ H fun v H1=>td σ H1 fun x H2=>ty σ H2 fun y H3=>∃a H4,x=.ref a/\jox H3 a y v H4/\D.nx σ H4
section
variable{X:Cx}{o i value:vV}{pos pos':Pos}{td ty tv:TE}
def qal(hu:X.A.units+1<cLine)(ho:PE X o td)(hi:PE X i ty)(hs:jva i):PE X (.Subscript o i pos) (jp6 td ty):=by
 intro pins s σ H Q I h;refine jm3 PySem.F.slot_dict_getitem.lookup hs (thn (ho pins s σ H _ I h) fun u s1 ⟨x,H1,I1,rx,q1⟩=>thn (hi pins s1 σ H1 _ I1 q1) fun iv s2 ⟨y,H2,I2,ry,a,v,ex,g,q2⟩=>?_);subst ex;obtain rfl:u=uQ a:=rx;exact⟨jd4 I2 g,jhc hu I2 g ry fun w' s3 I3 rw'=>⟨v,H2,I3,rw',q2⟩⟩
def jlm(hu:X.A.units+1<cLine)(hi:PE X i ty)(ho:PE X o td):PC X .In i o (jvb ty td):=by
 intro pins s σ H Q I h;refine thn (hi pins s σ H _ I h) fun iv s1 ⟨y,H1,I1,ry,q1⟩=>thn (ho pins s1 σ H1 _ I1 q1) fun u s2 ⟨x,H2,I2,rx,a,ov,ex,g,q2⟩=>?_;subst ex;obtain rfl:u=uQ a:=rx;exact jv9 hu I2 g ry fun s3 I3=>⟨.bl ov.isSome,H2,I3,rfl,q2⟩
def qbg(hu:X.A.units+1<cLine)(ho:PE X o td)(hi:PE X i ty)(hv:PE X value tv)(hs:dZ value (some (.Subscript o i pos')) pos.line X.env=pure false):
  PS X (.Assign [.Subscript o i pos'] value pos) (jp7 td ty tv):=by
 intro pins s σ H D I h;refine wpAny_Assign_Subscript (thn (hv pins s σ H _ I h) fun r s1 ⟨v,H1,I1,rv,q1⟩=>thn (ho pins s1 σ H1 _ I1 q1) fun u s2 ⟨x,H2,I2,rx,q2⟩=>thn (hi pins s2 σ H2 _ I2 q2) fun iv s3 ⟨y,H3,I3,ry,a,H4,ex,g,q3⟩=>?_) hs;subst ex;obtain rfl:u=uQ a:=rx;exact jhe hu I3 g ry rv fun s4 I4=>⟨σ,H4,I4,q3⟩
end
def jfe{P:uW}{w:vL}{H:Hp}(h:vQ)(hb:xW<h.objs.size):qbq P w H (h.push {cls:=.type "dict",data:=.dict #[]}) h.objs.size (.dK []):=
 ⟨wO _,beq_eq_false_iff_ne.mpr (xP (vD hb)),[],.nil,Heap.DictOf.new h⟩
def jln:TE:=fun _ H Q=>∀p,H p=none->Q (.ref p) (upd H p (.dK []))
section
variable{X:Cx}{pos:Pos}
def qb1:PE X (.Dict [] [] pos) jln:=fun pins s σ H Q I h=>
 wpAny_Dict_empty ⟨.ref ↑s,_,I.laid (a:=↑s) (o:=.dK []) (t':=s.toks) (fun _ _ q=>uD _ q) (uG _) (jfe s.heap I.big),rfl,h _ (I.hok.fresh (uG _))⟩
end
def jhf:List (TE×TE)->St->Hp->(List (V×V)->Hp->Prop)->Prop
 | [],_,H,Q=>Q [] H
 |(tk,tv)::r,σ,H,Q=>tk σ H fun x H1=>tv σ H1 fun y H2=>jhf r σ H2 fun ps H3=>Q ((x,y)::ps) H3
abbrev VV:List (V×V)->List (uB×uB)->Prop:=Paired fun p q=>qb6 p.1 q.1/\qb6 p.2 q.2
def PPs(X:Cx)(pos:Pos)(keys:List (Option vV))(values:List vV)(trs:List (TE×TE)):Prop:=
 ∀(pins:List (Addr×Obj))(s:uC)(σ:St)(H:Hp)(Q:List (V×V)->Hp->Prop),Inv X pins σ H s->jhf trs σ H Q->
  uV (uX X.prog X.w) X.A (evalPairs (pairTrees keys values X.env pos)) (fun vs s'=>∃ps H',Inv X pins σ H' s'/\VV ps vs/\Q ps H') X.xe s
def jm4{X:Cx}{pos:Pos}:PPs X pos [] [] []:=fun pins s σ H Q I h=>pairTrees_nil_walk ⟨[],H,I,.nil,h⟩
def jjx{X:Cx}{pos:Pos}{k v:vV}{ks:List (Option vV)}{vs:List vV}{tk tv:TE}{trs:List (TE×TE)}(hk:PE X k tk)(hv:PE X v tv)(hr:PPs X pos ks vs trs):
  PPs X pos (some k::ks) (v::vs) ((tk,tv)::trs):=fun pins s σ H Q I h=>
 pairTrees_cons_walk (thn (hk pins s σ H _ I h) fun u s1 ⟨x,H1,I1,rx,q1⟩=>thn (hv pins s1 σ H1 _ I1 q1) fun w2 s2 ⟨y,H2,I2,ry,q2⟩=>
  thn (hr pins s2 σ H2 _ I2 q2) fun ws s3 ⟨ps,H3,I3,rel,q3⟩=>⟨(x,y)::ps,H3,I3,.cons ⟨rx,ry⟩ rel,q3⟩)
def qg8(kvs more:List (Key×V)):List (Key×V):=more.foldl (fun acc kv=>qbl acc kv.1 kv.2) kvs
def KV.merge:∀{more:List (Key×V)} {rs:List (Key×uB)} {kvs:List (Key×V)} {vs:List (Key×uB)},KV more rs->KV kvs vs->KV (qg8 kvs more) (merged vs rs):=by
 intro more rs kvs vs r;unfold KV at r
 induction r generalizing kvs vs with
 |nil=>intro q;exact q
 | @cons p q ps qs h t ih=>
  intro r0;have e:KV (qbl kvs p.1 p.2) (stored vs q.1 q.2):=by
   have:=r0.put p.1 h.2;rw[<-h.1];exact this
  exact ih e
theorem qei:∀(more kvs:List (Key×V)),(qg8 kvs more).length<=kvs.length+more.length
 | [],kvs=>by show kvs.length<=kvs.length+0;omega
 |p::r,kvs=>by
  have h1:=qei r (qbl kvs p.1 p.2);have h2:=qay kvs p.1 p.2;show(qg8 (qbl kvs p.1 p.2) r).length<=_;rw[zR];omega
theorem qga{P:uW}{w:vL}:∀{kvs:List (Key×V)} {ws:List (uB×uB)},VV (kvs.map fun kv=>(kV kv.1,kv.2)) ws->∃rs,Carries (qbc P w) ws rs/\KV kvs rs
 | [],_,r=>by rw[fU] at r;cases r;exact⟨[],wW,.nil⟩
 |p::kvs,_,r=>by
  rw[zU] at r
  cases r with
  | @cons a b as bs h t=>
   obtain⟨rs,c,q⟩:=qga (P:=P) (w:=w) t;obtain⟨b1,b2⟩:=b;exact⟨(p.1,b2)::rs,⟨jf6 h.1,rfl,c⟩,.cons ⟨rfl,h.2⟩ q⟩
def jp8(trs:List (TE×TE)):TE:=fun σ H Q=>∀p,H p=none->jhf trs σ (upd H p (.dK [])) fun ps H2=>H2 p=some (.dK [])/\∃kvs:List (Key×V),ps=kvs.map (fun kv=>(kV kv.1,kv.2))/\kvs.length<=15/\Q (.ref p) (upd H2 p (.dK (qg8 [] kvs)))
def jm5{X:Cx}{pos:Pos}{keys:List (Option vV)}{values:List vV}{trs:List (TE×TE)}(h:PPs X pos keys values trs)(hall:keys.all (·.isSome)=true)(hl:keys.length=values.length)(h0:keys≠ [])
  (h15:keys.length<=15):PE X (.Dict keys values pos) (jp8 trs):=by
 intro pins s σ H Q I q;have hn:=I.hok.fresh (uG ↑s);have I1:=I.laid (a:=↑s) (o:=.dK []) (h':=s.heap.push {cls:=.type "dict",data:=.dict #[]}) (t':=s.toks) (fun _ _ q=>uD _ q) (uG _) (jfe s.heap I.big);refine wpAny_Dict_walk (knd:=qbc X.prog X.w) hall hl h0 h15 (thn (h pins _ σ _ _ I1 (q _ hn)) fun ws s2 ⟨ps,H2,I2,rel,e,kvs,ep,lk,q2⟩=>?_);subst ep;obtain⟨rs,c,rk⟩:=qga (P:=X.prog) (w:=X.w) rel;obtain⟨z,hd,vs0,r0,dd⟩:=jp5 I2.hok e
 cases r0
 refine⟨rs,c,dd,fun h' dd' hs=>⟨.ref ↑s,_,?_,rfl,q2⟩⟩;have hz:(qg8 [] kvs).length<=sizeLine:=by
  have h1:=qei kvs [];rw[yL] at h1;rw[xC];omega
 have he:∃q,h'.get? ↑s=some q:=let ⟨q,_,_,hq,_⟩:=dd';⟨q,hq⟩
 exact jd3 I2 (by rw[e];exact wW) hs he (jhd hz hd (rk.merge .nil) dd')
structure M1(X:Cx)(o:vV)(m:Str)(apos:Pos)(e:vV)(cpos:Pos):Prop where
 base:bQ o m X.env (wK o X.env)=wK o X.env
 few:((wQ cpos (uZ [e] X.env)).all (fun x=>!x.1) && (cB cpos (aB [] X.env)).all (fun x=>x.1.isSome)
  && decide (([e]:List vV).length+([]:List Keyword).length+(if([]:List Keyword).isEmpty then 0 else 1)<30))=true
 line:(apos.endLine==cpos.line)=true
 trees:wQ cpos (uZ [e] X.env)=[(false,wK e X.env)]
structure M2(X:Cx)(o:vV)(m:Str)(apos:Pos)(e f:vV)(cpos:Pos):Prop where
 base:bQ o m X.env (wK o X.env)=wK o X.env
 few:((wQ cpos (uZ [e,f] X.env)).all (fun x=>!x.1) && (cB cpos (aB [] X.env)).all (fun x=>x.1.isSome)
  && decide (([e,f]:List vV).length+([]:List Keyword).length+(if([]:List Keyword).isEmpty then 0 else 1)<30))=true
 line:(apos.endLine==cpos.line)=true
 trees:wQ cpos (uZ [e,f] X.env)=[(false,wK e X.env),(false,wK f X.env)]
def IsD(H:Hp)(a:Addr):Prop:=(∃kvs,Rd H a (.dK kvs))\/∃kvs,Rd H a (.dT kvs)
def jp9{X:Cx}{pins:List (Addr×Obj)}{σ:St}{H:Hp}{s:uC}{a:Addr}(I:Inv X pins σ H s)(d:IsD H a):
  s.TypeIs (.ref a) "dict"/\(∀b,uQ a=.ref b->∃ob,s.heap.get? b=some ob/\ob.dict=none)/\(a==xW)=false:=by
 rcases d with⟨kvs,e⟩|⟨kvs,e⟩
 .obtain⟨_,hd,vs,_,dd⟩:=qft I.hok e;refine⟨dd.typeIs,fun b q=>?_,hd⟩
  cases q
  obtain⟨ob,_,_,h1,h2,_⟩:=dd;exact⟨ob,h1,h2.2.1⟩
 .obtain⟨_,hd,xs,_,dd⟩:=jf7 I.hok e;refine⟨dd.typeIs,fun b q=>?_,hd⟩
  cases q
  obtain⟨ob,_,_,h1,h2,_⟩:=dd;exact⟨ob,h1,h2.2.1⟩
section
variable{X:Cx}{pins:List (Addr×Obj)}{σ:St}{H:Hp}{s:uC}{a:Addr}{y d:V}{u r:uB}{o:Option V}{A:vR}{E:uB->uC->Prop}
def jqa{Q:uB->uC->Prop}(hu:A.units+1<cLine)(I:Inv X pins σ H s)(g:jf8 H a y o)(ry:qb6 y u)(rd:qb6 d r)(h:∀w' s',Inv X pins σ H s'->qb6 (o.getD d) w'->Q w' s'):
  uV (uX X.prog X.w) A (call (.builtin "dict.get") [.ref a,u,r]) Q E s:=by
 rcases g with⟨kvs,k,e,ey,l⟩|⟨kvs,k,b,e,ey,eb,l⟩
 .subst ey;obtain⟨z,hd,vs,rel,dd⟩:=qft I.hok e;refine call_meetsIn dJ dd.typeIs PySem.F.entry_dict_get (PySem.F.args_dict_get_3 _ _ _) (meets_dict_get_default (qbc X.prog X.w) a (jf6 ry) hd r) ⟨_,dd.mapOf,h _ _ (I.tok _) ?_⟩;rw[l];exact(rel.val k).getD rd
 .subst ey
  cases(show u=uQ b from ry)
  obtain⟨z,hd,xs,rel,dd⟩:=jf7 I.hok e;refine call_meetsIn dJ dd.typeIs PySem.F.entry_dict_get (PySem.F.args_dict_get_3 _ _ _) (meetsH_dict_get_default (dY (qbc X.prog X.w)) a b hd r) ⟨cC hu,k,xs,jc4 I.hok eb,dd,h _ _ (I.tok _) ?_⟩;rw[l];exact(rel.val k).getD rd
end
def jlo(td ty tx:TE):TE:=fun σ H Q=>td σ H fun x H1=>∃a,x=.ref a/\IsD H1 a/\ty σ H1 fun y H2=>tx σ H2 fun z H3=>∃o,jf8 H3 a y o/\Q (o.getD z) H3
section
variable{X:Cx}{o e f:vV}{apos cpos:Pos}{td ty tx:TE}
def qf4(hu:X.A.units+1<cLine)(ho:PE X o td)(he:PE X e ty)(hf:PE X f tx)(m:M2 X o "get" apos e f cpos):PE X (.Call (.Attribute o "get" apos) [e,f] [] cpos) (jlo td ty tx):=by
 intro pins s σ H Q I h;refine wpAny_Call_method m.base m.few m.line PySem.F.plainAttrs_dict dJ PySem.F.type_dict_get (thn (ho pins s σ H _ I h) fun u s1 ⟨x,H1,I1,rx,a,ex,d,q1⟩=>?_);subst ex;obtain rfl:u=uQ a:=rx;obtain⟨t1,t2,_⟩:=jp9 I1 d;refine⟨t1,t2,?_⟩;rw[m.trees];refine dA rfl (bR (fD (thn (he pins s1 σ H1 _ I1 q1) fun iv s2 ⟨y,H2,I2,ry,q2⟩=>
  fD (thn (hf pins s2 σ H2 _ I2 q2) fun fv s3 ⟨z,H3,I3,rz,ov,g,q3⟩=>Calls.spliced_nil ?_))))
 exact jqa hu I3 g ry rz fun w' s4 I4 rw'=>⟨_,H3,I4,rw',q3⟩
end
section
variable{X:Cx}{pins:List (Addr×Obj)}{σ:St}{H:Hp}{s:uC}{a:Addr}{kvs:List (Key×V)}{A:vR}{E:uB->uC->Prop}
def jjy{Q:uB->uC->Prop}(I:Inv X pins σ H s)(e:Rd H a (.dK kvs))(h:∀p s',H p=none->Inv X pins σ (upd H p (.dK kvs)) s'->Q (.ref p) s'):uV (uX X.prog X.w) A (call (.type "dict") [.ref a]) Q E s:=by
 obtain⟨z,hd,vs,rel,dd⟩:=qft I.hok e;refine kt_call_dict hd dd (by rw[<-rel.length];exact z) fun h' dd' hs=>?_;refine h _ _ (I.hok.fresh (uG _)) (I.laid (a:=↑s) (o:=.dK kvs) (t':=s.toks) (fun b q hq=>?_) (uG _) (jhd z (beq_eq_false_iff_ne.mpr (xP (vD I.big))) rel dd'));exact(hs.2 b (vD (uO hq))).trans (uD _ hq)
end
section
variable{X:Cx}
def call_lenD:qcr X (.builtin "len") (fun xs H Q=>∃a kvs,xs=[V.ref a]/\H a=some (.dK kvs)/\Q (.int kvs.length) H):=by
 intro pins s σ H xs us Q I r h;obtain⟨a,kvs,rfl,ha,q⟩:=h;obtain⟨u,rfl,ru⟩:=jgq r
 cases ru
 exact jtl I (.inl ha) fun t s' I'=>⟨.int kvs.length,H,I',⟨t,rfl⟩,q⟩
end
section
variable{κ:Type}[DecidableEq κ]
def jjz{kvs:List (κ×V)}{k:κ}(h:qci kvs k=none):¬k∈kvs.map (·.1):=by
 intro m;obtain⟨p,hp,e⟩:=zH.mp m;have q:(kvs.any fun kv=>decide (kv.1=k))=true:=yM.mpr ⟨p,hp,gW e⟩;rw[qcs,h] at q;exact absurd q (by simp)
def jm6{kvs:List (κ×V)}{k:κ}{v:V}(h:qci kvs k=some v):k∈kvs.map (·.1):=by
 have q:(kvs.any fun kv=>decide (kv.1=k))=true:=by
  rw[qcs,h]
  all_goals rfl
 obtain⟨p,hp,e⟩:=yM.mp q;exact zH.mpr ⟨p,hp,of_decide_eq_true e⟩
theorem jhg:∀{l:List κ} {k:κ},l.Nodup->¬k∈l->(l++[k]).Nodup
 | [],k,_,_=>by simp
 |a::r,k,h,hk=>by
  obtain⟨h1,h2⟩:=zT.mp h;show(a ::(r++[k])).Nodup;refine zT.mpr ⟨fun m=>?_,jhg h2 fun m=>hk (zO.mpr (fF m))⟩;rcases zM.mp m with q|q
  .exact h1 q
  .exact hk (zO.mpr (uI (zE.mp q).symm))
def jd5{kvs:List (κ×V)}{k:κ}(v:V)(hn:(kvs.map (·.1)).Nodup)(h:qci kvs k=none):((qbl kvs k v).map (·.1)).Nodup:=by
 rw[jjw v h,zL];exact jhg hn (jjz h)
end
end L2
namespace My
open PySem PySem.Spec PyProof.Rows L2
theorem qdp{α:Type}{β:Type}[BEq α][LawfulBEq α]:∀{l:List (α×β)} {x:α} {v:β},l.lookup x=some v->(x,v)∈l
 |(a,b)::l,x,v,h=>by
  rw[yO] at h
  cases e:x==a with
  |true=>rw[e] at h;have e':=eq_of_beq e;have h':b=v:=uN h;subst e' h';exact zF
  |false=>rw[e] at h;exact zD _ (qdp h)
def qcf{X:Cx}{x:Str}{scope:wY}{cl:List (Str×Addr)}{caps:List Nat}{cn:List Str}(h1:closureFor scope X.env=pure cl)(h2:scope.kind=.function)(h3:scope.names.all (fun p=>p.2 !=.cell)=true)
  (h4:scope.names.all (fun p=>p.2 !=.local || scope.names.lookup p.1==some .local)=true)(h5:scope.names.lookup x=some .local)(h6:jll (fun p=>X.env.cells.lookup p.1=some p.2) cl)
  (h7:(fY scope X.env).names.all (fun p=>!(p.2==.cell || p.2==.free) ||(cl.lookup p.1).isSome)=true)(h8:caps.length=cn.length)
  (h9:jll (fun p=>X.N[p.1]?=some p.2/\X.env.kindOf p.2=some .cell/\(fY scope X.env).names.lookup p.2=some .cell/\X.env.scope.names.lookup p.2=some .cell/\∃c,cl.lookup p.2=some c) (caps.zip cn))(h10:(x::cn).Nodup):jow X x scope cl caps cn:=by
 refine⟨h1,h2,fun y hy z=>?_,fun y hy z=>?_,h5,fun y c e=>jll.mem h6 _ (qdp e),fun y hy=>?_,h8,fun k y j e1 e2=>?_,h10⟩
 .have q:=yA.mp h3 y hy;rw[z] at q
  cases q
 .have q:=yA.mp h4 y hy;rw[z] at q;simpa using q
 .have m:∃k,(y,k)∈(fY scope X.env).names/\(k=.cell\/k=.free):=by
   rcases hy with hy|hy
   .exact⟨_,qdp hy,.inl rfl⟩
   .exact⟨_,qdp hy,.inr rfl⟩
  obtain⟨k,hm,hk⟩:=m;have q:=yA.mp h7 _ hm;have hk':(k==NameKind.cell || k==NameKind.free)=true:=by rcases hk with rfl|rfl<;>decide
  rw[hk'] at q;exact cN.mp (by simpa using q)
 .refine jll.mem h9 (j,y) ?_;have hz:(caps.zip cn)[k]?=some (j,y):=by rw[List.getElem?_zip_eq_some];exact⟨e2,e1⟩
  exact zG hz
section
variable{X:Cx}
def jqb{l:vV}{tl:TE}{y:Str}{py:Pos}(hl:PE X l tl):PI X (.Name y py) l (ju9 tl):=by
 intro pins s σ H R I h;refine thn (hl pins s σ H _ I h) fun u s1 ⟨v,H1,I1,r,x,ev,q⟩=>?_;subst ev;obtain⟨t,rfl⟩:=r;have hn:H1 ↑s1=none:=I1.hok.fresh (uG _);have fp:∀b∈ [↑s1],jcl X pins H1 b:=fun b hb=>by
  have e:b=↑s1:=by simpa using hb
  subst e;exact I1.fpOk (uG _) hn
 cases ha:x.cps.all (·< 128)
 .exact wpAny_pyIter_wide ha ⟨_,[↑s1],fun i h=>h.IsStrIter ↑s1 "str_iterator" x t i,Its x,H1,rfl,I1.kept (t':=s1.toks) (fun _ _ e=>uD _ e),
   jfc x t _ _ (fun A hA=>Walks.strWide hA _ x t) fun A i s' Q' E' st hq=>wpAny_pyIter_striter_wide st hq,⟨_,vE _ rfl,rfl,rfl⟩,fp,q⟩
 .exact wpAny_pyIter_ascii ha ⟨_,[↑s1],fun i h=>h.IsStrIter ↑s1 "str_ascii_iterator" x t i,Its x,H1,rfl,I1.kept (t':=s1.toks) (fun _ _ e=>uD _ e),
   jfc x t _ _ (fun A hA=>Walks.strAscii hA _ x t) fun A i s' Q' E' st hq=>wpAny_pyIter_striter_ascii st hq,⟨_,vE _ rfl,rfl,rfl⟩,fp,q⟩
def jvc(K:uT):List V->Hp->VK->Prop:=fun xs H Q=>∃(p:Addr)(bs:List Bool),xs=[.ref p]/\SqL K H p (bs.map V.bl)/\Q (.bl (bs.all id)) H
def jhh(bs:List Bool):((vG bs.length).all fun i=>(bs[i]?).getD true)=bs.all id:=by
 rw[xJ,yA,yA];constructor
 .intro h b hb;obtain⟨i,hi,e⟩:=zS.mp hb;have q:=h i (yR.mpr hi);rw[zB hi,e] at q;exact q
 .intro h i hi;have hi':=yR.mp hi;rw[zB hi'];exact h _ (yB hi')
def jc5(hc:X.calm=true):qcr X (.builtin "all") (jvc X.K):=by
 intro pins s σ H xs us Q I hv h;obtain⟨p,bs,rfl,hS,q⟩:=h;obtain⟨u,rfl,ru⟩:=hv.one
 cases ru
 obtain⟨its,rv,pl,hz⟩:=I.list hS;have hl:=pl.isList;have hlt:p<↑s:=by obtain⟨_,e,_⟩:=hl;exact uO e
 have hlen:=rv.length;rw[zA] at hlen;refine call_all_walk (cG hl ?_);refine⟨↑s,[↑s,p],[↑s],its.toArray.size,_,_,fun i=>(bs[i]?).getD true,rfl,Walks.list (A:=X.A.in1) (I.ok.hd hc) _ p (vD hlt) its.toArray,⟨⟨_,vE _ rfl,rfl,rfl⟩,hl.push _⟩,fun i v s' Q' E' hP hQ=>?_,fun h' tk hk=>?_⟩
 .have hi:its[i]?=some v:=by simpa using hP
  have hb:i<bs.length:=by rw[hlen];exact(uF.mp hi).1
  have hx:(bs.map V.bl)[i]?=some (.bl bs[i]):=by rw[zC,zB hb];rfl
  obtain⟨u,e,r⟩:=rv.get hx;rw[hi] at e
  cases e
  cases r
  dsimp only at hQ;rw[zB hb] at hQ;exact wV hQ
 .have e:((vG its.toArray.size).all fun i=>(bs[i]?).getD true)=bs.all id:=by
   rw[zK,<-hlen];exact jhh bs
  rw[e];exact⟨.bl _,H,I.kept (t':=tk) (fun b o eb=>hk b o (fun hm=>by have z:=uO eb;rw[zE.mp hm] at z;exact wM _ z) (uD _ eb)),rfl,q⟩
def jqc:R2:=fun x y H Q=>∃i j,x=.str i/\y=.str j/\i.length+j.length<=sizeLine/\Q (.str (i++j)) H
def jm7:OpR X (aA .Add) jqc:=jf1
def jvd:R2:=fun x y H Q=>∃i j,x=.str i/\y=.str j/\Q (.bl (!(aS j i 0 j.length 1).isEmpty)) H
def jqd:OpR X (wD .In) jvd:=jgp
def jqe:List V->Hp->VK->Prop:=fun xs H Q=>∃z,xs=[.str z]/\z.length<=sizeLine/\Q (.int z.length) H
def jc6:qcr X (.builtin "len") jqe:=jcw
end
section
variable{K:uT}{H:Hp}{Q:VK}{σ:L2.St}
def jm8{r r':R2}{ta tb tc:TE}(h:ta σ H fun x H1=>tb σ H1 fun y H2=>r x y H2 fun z H3=>∃k,z=.bl k/\(if k=true then tc σ H3 fun w' H4=>r' y w' H4 Q else Q (.bl false) H3)):jlb r r' ta tb tc σ H Q:=h
def jqf{p:Addr}{bs:List Bool}(hS:SqL K H p (bs.map V.bl))(h:Q (.bl (bs.all id)) H):jvc K [.ref p] H Q:=⟨p,bs,rfl,hS,h⟩
def jlp{i j:Str}(hn:i.length+j.length<=sizeLine)(h:Q (.str (i++j)) H):jqc (.str i) (.str j) H Q:=⟨i,j,rfl,rfl,hn,h⟩
def jtm{i j:Str}(h:Q (.bl (!(aS j i 0 j.length 1).isEmpty)) H):jvd (.str i) (.str j) H Q:=⟨i,j,rfl,rfl,h⟩
def jqg{z:Str}(hn:z.length<=sizeLine)(h:Q (.int z.length) H):jqe [.str z] H Q:=⟨z,rfl,hn,h⟩
def jqh{z:Str}{i:Int}{c:Nat}(hn:z.length<=sizeLine)(e:atI z.cps.toList i=some c)(h:Q (.str ⟨#[c]⟩) H):ju0 (.str z) (.int i) H Q:=⟨z,i,c,rfl,rfl,hn,e,h⟩
def jwa{tl:TE}{R:It->Hp->Prop}(h:tl σ H fun v H1=>jtj v H1 R):ju9 tl σ H R:=h
def jtn{x:Str}{R:It->Hp->Prop}(h:R (Its x) H):jtj (.str x) H R:=⟨x,rfl,h⟩
def jqi{wi:TI}{caps:List Nat}{tt:CT TT}{te:CT TE}(h:wi σ H fun J H1=>∀(C:Addr)(s:uC)(H0:Hp)(fp:List Addr)(acc:Addr),H1 acc=none->jsh J caps (tt C s H0 fp) (te C s H0 fp) acc σ (upd H1 acc (.lst [])) Q):jhb wi caps tt te σ H Q:=h
def jqj{Q:Bool->Hp->Prop}(h:Q true H):jp3 σ H Q:=h
def jto{acc:Addr}{N:Hp->Prop}{y:V}{ys:List V}(ha:H acc=some (.lst ys))(hz:ys.length<sizeLine)(h:N (upd H acc (.lst (ys++[y])))):jp2 acc N y H:=⟨ys,ha,hz,h⟩
def jge{J:It}{caps:List Nat}{tt:TT}{te:TE}{acc:Addr}(n:Nat)(Pv:Nat->Hp->Prop)(h0:Pv 0 H)(hgo:∀i H,i<n->Pv i H->J.go i H)(hst:∀H,Pv n H->J.stop n H)
  (hs:∀i H v H',i<n->Pv i H->J.yld i H v H'->tt (some v::qca caps σ) H' fun b H2=>if b=true then te (some v::qca caps σ) H2 fun y H3=>jp2 acc (Pv (i+1)) y H3 else Pv (i+1) H2)
  (hd:∀H,Pv n H->Q (.ref acc) H):jsh J caps tt te acc σ H Q:=by
 refine⟨fun i m H=>m=n-i/\i<=n/\Pv i H,⟨n,rfl,wO _,h0⟩,?_⟩;rintro i m H ⟨rfl,hi,p⟩;by_cases hlt:i<n
 .exact .inr ⟨hgo i H hlt p,Pv (i+1),fun H' p'=>⟨n-(i+1),↑∅,rfl,hlt,p'⟩,fun v H' y=>hs i H v H' hlt p y⟩
 .have e:i=n:=by omega
  subst e;exact .inl ⟨hst H p,hd H p⟩
end
section
variable{X:Cx}
def rRep:R2:=fun x y H Q=>∃z n,x=.str z/\y=.int n/\0<=n/\n<=1/\Q (.str (if n<1 then Str.empty else z)) H
def jqk:List V->Hp->VK->Prop:=fun xs H Q=>∃b:Bool,xs=[.bl b]/\Q (.int (if b then 1 else 0)) H
def jhi:qcr X (.type "int") jqk:=by
 intro pins s σ H xs us Q I r h;obtain⟨b,rfl,q⟩:=h
 cases r with
 |cons r1 r2=>
  cases r2
  cases r1
  exact call_int_bool ⟨.int _,H,I.tok _,⟨_,rfl⟩,q⟩
end
section
variable{H:Hp}{Q:VK}
def jql{b:Bool}(h:Q (.int (if b then 1 else 0)) H):jqk [.bl b] H Q:=⟨b,rfl,h⟩
end
section
variable{prog:uW}{w:vL}{A:vR}{E:uB->uC->Prop}{h:vQ}{g:Array GenState}{d:Drawn}{t:Nat}{os:OsState}
variable{nm q:Str}{C N fI:Addr}{bs bm bmB:List uB}{hdct:Bool}{sn:List Str}{sub:List uB}{ab:Bool}{col:Option Bool}{dd:Option Addr}{k0 k1 k2 k3 k5:Option uB}{B Bn newId nid initId inN:String}{bmN:List uB}
def qdb(h:vQ)(C:Addr)(rest:List uB):vQ:=(h.push {cls:=.type "tuple",data:=.seq rest.toArray}).push {cls:=.ref C,data:=.fields #[.ref h.objs.size,.none,.none,.none,.bool false,.none]}
def qfz(Fn:bX Bn newId inN bmN)(hBn:bmB.contains (.type Bn)=true)(F:bX B nid initId bmB)(T:OwnTail h bmB bm){mN:Str->Option uB}{rest:List uB}{Q:Fin->uC->Prop}
  (hC:h.get? C=some (bS nm q C N bs bm hdct sn sub ab col dd k0 k1 k2 k3 k5 newId))(hn:h.Ns N mN)(hni:mN "__init__"=some (.ref fI))
  (hb:cO (uX prog w) (qdb h C rest) (bindSpecial (.ref fI) (.ref (h.objs.size+1))) (.ref fI,[.ref (h.objs.size+1)]))
  (hq:uV (uX prog w) A (call (.ref fI) (.ref (h.objs.size+1)::rest)) (fun v s'=>v=.none/\Q (.done (.ret (.ref (h.objs.size+1)))) s') E ⟨qdb h C rest,g,d,t,os⟩)(hrest:rest.length<=sizeLine:=by size_fits):
  uV (uX prog w) A (aN.«type.__call__» ⟨.ref C::rest,[]⟩) Q E ⟨h,g,d,t,os⟩:=by
 repeat (first|with_reducible refine bF hC ?_|with_reducible refine wpAny_madeBy_exc hC ?_|wp_step)
 refine codeAny_call_builtin_code (fH _ Fn.quiet) (wpAny_check_new_subU Fn hBn T hC ?_);refine codeAny_exc_new_subU Fn hBn F T hC ?_ hrest;show uV _ _ _ _ _ _;have hC₁:=uD {cls:=.ref C,data:=.fields #[.ref h.objs.size,.none,.none,.none,.bool false,.none]}
  (uD {cls:=.type "tuple",data:=.seq rest.toArray} hC)
 have hn₁:((h.push {cls:=.type "tuple",data:=.seq rest.toArray}).push {cls:=.ref C,data:=.fields #[.ref h.objs.size,.none,.none,.none,.bool false,.none]}).Ns N mN:=
  let ⟨o,es,ep,e,r⟩:=hn;⟨o,es,ep,uD _ (uD _ e),r⟩
 have hget:((h.push {cls:=.type "tuple",data:=.seq rest.toArray}).push
   {cls:=.ref C,data:=.fields #[.ref h.objs.size,.none,.none,.none,.bool false,.none]}).get? (h.objs.size+1)=some
   {cls:=.ref C,data:=.fields #[.ref h.objs.size,.none,.none,.none,.bool false,.none]}:=by heap_get
 have hcC:(uQ C::bm).contains (.ref C)=true:=by simp
 have T₁:=T.keeps (h':=(h.push {cls:=.type "tuple",data:=.seq rest.toArray}).push {cls:=.ref C,data:=.fields #[.ref h.objs.size,.none,.none,.none,.bool false,.none]})
  fun b o e=>uD _ (uD _ e)
 unfold isInstance
 repeat (first|with_reducible refine bF hget ?_|(with_reducible refine wpAny_isSubtype_exc hC₁ ?_;rw[hcC]) |wp_step)
 show uV _ _ (typeLookup (.ref C) _) _ _ _;refine wpAny_typeLookup_tail hC₁ hn₁ T₁ F.mroIs F.init.lookup ?_;rw[hni];refine wP (uE (hb.at ?_));refine uE (vS hq (fun v s' ⟨ev,q⟩=>?_) fun _ _ x=>x);subst ev
 wp_walk
 exact q
def qgx(Fn:bX Bn newId inN bmN)(hBn:bmB.contains (.type Bn)=true)(F:bX B nid initId bmB)(T:OwnTail h bmB bm){mN:Str->Option uB}{rest:List uB}{Q:uB->uC->Prop}
  (hC:h.get? C=some (bS nm q C N bs bm hdct sn sub ab col dd k0 k1 k2 k3 k5 newId))(hn:h.Ns N mN)(hni:mN "__init__"=some (.ref fI))
  (hb:cO (uX prog w) (qdb h C rest) (bindSpecial (.ref fI) (.ref (h.objs.size+1))) (.ref fI,[.ref (h.objs.size+1)]))
  (hq:uV (uX prog w) (A.under (.builtin "type.__call__" ⟨.ref C::rest,[]⟩)) (call (.ref fI) (.ref (h.objs.size+1)::rest)) (fun v s'=>v=.none/\Q (.ref (h.objs.size+1)) s') E ⟨qdb h C rest,g,d,t,os⟩)(hrest:rest.length<=sizeLine:=by size_fits):
  uV (uX prog w) A (call (.ref C) rest) Q E ⟨h,g,d,t,os⟩:=by
 have f1:=tc_lookup;have f2:=tc_bind (.ref C);have hT:(⟨h,g,d,t,os⟩:uC).TypeIs (.ref C) "type":=⟨_,hC,rfl⟩;refine aC (codeAny_of_tree ?_);show uV _ _ (callAny (.ref C) _) _ _ _
 repeat (any_goals (first|assumption|with_reducible refine bF hC ?_|wp_step))
 refine⟨rfl,?_⟩;refine codeAny_call_builtin_at (fH _ (by decide+kernel)) entry_typeCall (wpAny_check_type_call_sub hC (qfz (hrest:=hrest) Fn hBn F T hC hn hni hb ?_));exact hq
def qg4{env:Env}{M:Model}{s:uC}{x:Sem uB}{Q:Flow->uC->Prop}(hbase:bm.contains (.type "BaseException")=true)(hh:A.handled=none)
  (h:uV M A x (fun v s₁=>∃e oe,v=.ref e/\s₁.heap.get? C=some (bS nm q C N bs bm hdct sn sub ab col dd k0 k1 k2 k3 k5 newId)/\
   s₁.heap.get? e=some oe/\oe.cls=.ref C/\(∃vs,oe.data=.fields vs/\vs[1]?=some .none)/\E (.ref e) s₁) E s):
  uV M A (raiseStmt env (some x) none) Q E s:=by
 have hcB:(uQ C::bm).contains (.type "BaseException")=true:=by rw[List.contains_cons,hbase,Bool.or_true]
 unfold raiseStmt;refine uE (vS h (fun v s₁ h₁=>?_) fun _ _ x=>x);obtain⟨e,oe,rfl,hC,he,hcls,⟨vs,hd,h1⟩,hE⟩:=h₁;obtain⟨hp,g,d,tk,os⟩:=s₁;obtain⟨oc,odd,oda,osl⟩:=oe;obtain rfl:oc=.ref C:=hcls;obtain rfl:oda=.fields vs:=hd
 repeat (first|with_reducible refine bF he ?_|with_reducible refine bF hC ?_|(with_reducible refine wpAny_isSubtype_exc hC ?_;rw[hcB]) |wp_step)
 rw[h1];refine vC ?_;rw[gT ∅];exact vC (wpAny_raiseNew_none hh hE)
def qfx{env:Env}{s:uC}(Fn:bX Bn newId inN bmN)(hBn:bmB.contains (.type Bn)=true)(F:bX B nid initId bmB){mN:Str->Option uB}{x:Str}{np cpos pos:Pos}{args:List vV}{Q:Flow->uC->Prop}
  (hbase:bm.contains (.type "BaseException")=true)(hh:A.handled=none)(hplain:(wQ cpos (uZ args env)).any (·.1)=false)(hni:mN "__init__"=some (.ref fI))
  (h:uV (uX prog w) A (wK (.Name x np) env) (fun f s₁=>f=.ref C/\uV (uX prog w) A (evalArgs (.ref C) true (wQ cpos (uZ args env)) [])
   (fun a s₂=>a.kw=[]/\a.pos.length<=sizeLine/\s₂.heap.get? C=some (bS nm q C N bs bm hdct sn sub ab col dd k0 k1 k2 k3 k5 newId)/\s₂.heap.Ns N mN/\OwnTail s₂.heap bmB bm/\
    cO (uX prog w) (qdb s₂.heap C a.pos) (bindSpecial (.ref fI) (.ref (↑s₂+1))) (.ref fI,[.ref (↑s₂+1)])/\
    uV (uX prog w) (A.under (.builtin "type.__call__" ⟨.ref C::a.pos,[]⟩)) (call (.ref fI) (.ref (↑s₂+1)::a.pos))
     (fun v s'=>v=.none/\s'.heap.get? C=some (bS nm q C N bs bm hdct sn sub ab col dd k0 k1 k2 k3 k5 newId)/\(∃oe,s'.heap.get? (↑s₂+1)=some oe/\oe.cls=.ref C/\∃vs,oe.data=.fields vs/\vs[1]?=some .none)/\E (.ref (↑s₂+1)) s') E {s₂ with heap:=qdb s₂.heap C a.pos}) E s₁) E s):
  uV (uX prog w) A (exec (.Raise (some (.Call (.Name x np) args [] cpos)) none pos) env) Q E s:=by
 rw[arm_exec_Raise]
 first
  |refine uE (xM (qg4 (C:=C) (nm:=nm) (q:=q) (N:=N) (bs:=bs) (bm:=bm) (hdct:=hdct) (sn:=sn) (sub:=sub) (ab:=ab) (col:=col) (dd:=dd) (k0:=k0) (k1:=k1) (k2:=k2) (k3:=k3) (k5:=k5) (newId:=newId) hbase hh (uE (vS (wpAny_Call_ofName (vS h (fun f s₁ h₁=>?_) fun _ _ x=>x)) (fun v s₃ h₃=>uE (xM (vC h₃))) fun _ _ x=>x))))
  |(simp only[evalOpt,Option.map];refine uE (xM (qg4 (C:=C) (nm:=nm) (q:=q) (N:=N) (bs:=bs) (bm:=bm) (hdct:=hdct) (sn:=sn) (sub:=sub) (ab:=ab) (col:=col) (dd:=dd) (k0:=k0) (k1:=k1) (k2:=k2) (k3:=k3) (k5:=k5) (newId:=newId) hbase hh (uE (vS (wpAny_Call_ofName (vS h (fun f s₁ h₁=>?_) fun _ _ x=>x)) (fun v s₃ h₃=>uE (xM (vC h₃))) fun _ _ x=>x)))))
 obtain⟨rfl,h₁⟩:=h₁;unfold dQ;refine uE (wP (vS h₁ (fun a s₂ h₂=>uE (xM ?_)) fun _ _ x=>x));obtain⟨apos,akw⟩:=a;obtain⟨hkw,hlen,hC,hn,T,hb,h₂⟩:=h₂;obtain rfl:akw=[]:=hkw;obtain⟨hp,g,d,tk,os⟩:=s₂;simp only[hplain];refine uE (wpAny_keeperOf_exc hC ?_);refine uE (qgx (hrest:=hlen) Fn hBn F T hC hn hni hb (vS h₂ (fun v s' ⟨e1,e2,⟨oe,e3,e4,e6⟩,e5⟩=>⟨e1,uE (wP (wpAny_point (vC ?_)))⟩) fun _ _ x=>x));exact⟨_,oe,rfl,e2,e3,e4,e6,e5⟩
end
def jlq:List uB->Bool
 | .ref _::r=>jlq r
 | [.type a,.type b,.type c,.type e]=>a== "ValueError" && b== "Exception" && c== "BaseException" && e== "object"
 |_=>false
def jqm(K:uT)(C:Addr):Bool:=(PySem.W.clsIn K C).any fun cd=>jlq cd.mro
section
variable{K:uT}{C:Addr}
open PySem.W in
open PySem.W in
open PySem.W in
open PySem.W in
structure XAt(K:uT)(C:Addr):Prop where
 ga:vW K (.ref C) "__getattribute__"=some (some (.builtin "BaseException.__getattribute__"))
 gn:vW K (.ref C) "__getattr__"=some none
 mb:mroIn K C (.type "BaseException")=some true
 mo:mroIn K C (.type "object")=some true
 hd:gJ K C=true
 cl:vW K (.ref C) "__class__"=some (some (.builtin "object.__class__"))
 sp:dW K (.builtin "object.__class__") "__get__"=some (some (.builtin "getset_descriptor.__get__"))
 tk:PySem.W.takesIn K (.builtin "object.__class__")=some true
 sa:vW K (.ref C) "__setattr__"=some (some (.builtin "object.__setattr__"))
 po:jqm K C=true
open PySem.W in
open PySem.W in
end
def XS(a C:Addr)(d:Option Addr):HO:=.ext fun h=>∃(oe:Obj)(vs:Array uB),h.get? a=some oe/\oe.cls=.ref C/\oe.dict=d/\oe.data=.fields vs/\vs[1]?=some .none/\(∃t0:Addr,vs[0]?=some (.ref t0))/\∀dx,d=some dx->dx≠a
section
variable{H:Hp}{a C dx:Addr}
def jtp{P:uW}{w:vL}{H:Hp}{h:vQ}{d:Option Addr}(x:∃(oe:Obj)(vs:Array uB),h.get? a=some oe/\oe.cls=.ref C/\oe.dict=d/\oe.data=.fields vs/\vs[1]?=some .none/\(∃t0:Addr,vs[0]?=some (.ref t0))/\∀dx,d=some dx->dx≠a):qbq P w H h a (XS a C d):=by
 obtain⟨oe,vs,h1,h2⟩:=id x;exact⟨x,⟨oe,h1⟩,fun h1 h2 ⟨oe,vs,z,zz⟩ k=>⟨oe,vs,k _ z,zz⟩⟩
def jqn{P:uW}{w:vL}{h:vQ}{d:Option Addr}(x:HOk P w H h)(e:H a=some (XS a C d)):∃(oe:Obj)(vs:Array uB),h.get? a=some oe/\oe.cls=.ref C/\oe.dict=d/\oe.data=.fields vs/\vs[1]?=some .none/\(∃t0:Addr,vs[0]?=some (.ref t0))/\∀dx,d=some dx->dx≠a:=
 (show qbq P w H h a (XS a C d) from x a _ e).1
end
def del(H:Hp)(a:Addr):Hp:=fun b=>if b=a then none else H b
def qdq{H:Hp}{a:Addr}:del H a a=none:=by unfold del;rw[gU rfl]
def qdu{H:Hp}{a b:Addr}(h:b≠a):del H a b=H b:=by unfold del;rw[gT h]
section
variable{X:Cx}{pins:List (Addr×Obj)}{σ:L2.St}{H:Hp}{s:uC}{a:Addr}{φ:vQ->Prop}
theorem Inv.del(I:Inv X pins σ H s)(e:H a=some (.ext φ)):Inv X pins σ (My.del H a) s:=by
 have ne:∀b o,H b=some o->(∀φ,o≠ .ext φ)->b≠a:=fun b o q d z=>by rw[z,e] at q;cases q;exact d _ rfl
 refine⟨I.ok,I.os,I.bare,⟨I.base.keep,I.base.slot,fun b o q n hx=>?_,I.base.there,fun b xs q=>?_,fun b o u q=>?_,fun b ps q=>?_⟩,I.loc,I.cell,?_,fun x c q=>?_,fun p hp=>?_,fun b o q=>?_,I.len⟩
 .have z:=I.base.free b o q n hx;by_cases hb:b=a
  .rw[hb];exact qdq
  .rw[qdu hb];exact z
 .have z:=I.base.tups b xs q;rw[qdu (ne _ _ z (by intro φ y;cases y))];exact z
 .have z:=I.base.frzs b o u q;rw[qdu (ne _ _ z (by intro φ y;cases y))];exact z
 .obtain⟨more,z⟩:=I.base.tbls b ps q;exact⟨more,by rw[qdu (ne _ _ z (by intro φ y;cases y))];exact z⟩
 .by_cases hb:X.env.locals=a
  .rw[hb];exact qdq
  .rw[qdu hb];exact I.free
 .by_cases hb:c=a
  .rw[hb];exact qdq
  .rw[qdu hb];exact I.freeC x c q
 .obtain⟨z,n,l⟩:=I.pin p hp;refine⟨z,?_,l⟩;by_cases hb:p.1=a
  .rw[hb];exact qdq
  .rw[qdu hb];exact n
 .have hb:b≠a:=fun z=>by rw[z,qdq] at q;cases q
  rw[qdu hb] at q;exact(I.hok b o q).stay (fun _ _ _ q=>q) (fun c q=>by rw[qdu (ne _ _ q (by intro φ y;cases y))];exact q) fun c xs q=>by rw[qdu (ne _ _ q (by intro φ y;cases y))];exact q
end
structure XClI(K:uT)(C f:Addr):Prop where
 ob:∃(nm q:Str)(N:Addr)(bs bm:List uB)(hdct:Bool)(sn:List Str)(sub:List uB)(ab:Bool)(col:Option Bool)(dd:Option Addr)(k0 k1 k2 k3 k5:Option uB)(mN:Str->Option uB),
  K.lookup C=some (bS nm q C N bs bm hdct sn sub ab col dd k0 k1 k2 k3 k5 "ValueError.__new__")/\(∀h:vQ,K.In h->h.Ns N mN)/\mN "__init__"=some (.ref f)/\
  ∀h:vQ,K.In h->OwnTail h [.type "ValueError",.type "Exception",.type "BaseException",.type "object"] bm
 fn:isFn K (.ref f)=true
section
variable{X:Cx}{k:Nat}{f:Addr}{fd:uL}{ps:List Str}{sp:Sp}{x:Str}{C:Addr}{W:L2.St->XK}{np cpos pos:Pos}{e:vV}{es:List vV}{t:TA}
def jm9(t:TA)(C:Addr)(sp:Sp)(W:L2.St->XK):TS:=fun _ σ H=>t σ H fun xs H1=>xs.length<=sizeLine/\∀a,H1 a=none->sp (.ref a::xs) (upd H1 a (XS a C none)) (fun v H2=>v=.non/\∃d,H2 a=some (XS a C d)/\W σ (.ref C) d (My.del H2 a)) E0
def jhj(hc:X.calm=true)(M:XClI X.K C f)(F:jac X.prog X.w X.K X.mg X.base CX0 k f fd ps sp)(hr:jaz (k+1) X.A)(hb:qan X.K fd ps [])(hg:Gl X x)(hm:X.mg x=some (.ref C))(hx:Xes X W)(ha:PA X (e::es) t)(hex:X.ex=[]:=by rfl)(hdb:(x==("__debug__":Str))=false:=by decide)
  (he:uZ (e::es) X.env=(false,wK e X.env)::uZ es X.env:=by rfl) (hpl:(wQ cpos (uZ es X.env)).any (·.1)=false:=by rfl):
  PS X (.Raise (some (.Call (.Name x np) (e::es) [] cpos)) none pos) (jm9 t C sp W):=by
 intro pins s σ H D I h;obtain⟨nm,q,N,bs,bm,hdct,sn,sub,ab,col,dd,k0,k1,k2,k3,k5,mN,hC,hN,hni,T⟩:=M.ob;refine qfx (C:=C) (fI:=f) (nm:=nm) (q:=q) (N:=N) (bs:=bs) (bm:=bm) (hdct:=hdct) (sn:=sn) (sub:=sub) (ab:=ab) (col:=col) (dd:=dd) (k0:=k0) (k1:=k1) (k2:=k2) (k3:=k3) (k5:=k5)
  aE ∅ aE (mN:=mN) ((T _ I.kIn).hasType PySem.F.excBase_ValueError.hasBase) (I.ok.hd hc) ?_ hni ?_
 .rw[he];show(false ||(wQ cpos (uZ es X.env)).any (·.1))=false;rw[hpl];rfl
 .refine qe0 I hg hm ⟨rfl,?_⟩ hdb;have z:=ha cpos pins s σ H _ I h;rw[he] at z⊢;refine bR (vS z (fun us s2 ⟨vs,H2,I2,r,hl,q⟩=>?_) fun _ _ y=>y);have ea:(qdb s2.heap C us).get? (↑s2+1)=some {cls:=.ref C,data:=.fields #[.ref ↑s2,.none,.none,.none,.bool false,.none]}:=by
   have:=vE (s2.heap.push {cls:=.type "tuple",data:=.seq us.toArray}) (o:={cls:=.ref C,data:=.fields #[.ref ↑s2,.none,.none,.none,.bool false,.none]}) rfl
   rwa [aZ] at this
  have hn:H2 (↑s2+1)=none:=I2.hok.fresh (xK _);have I3:Inv X pins σ (upd H2 (↑s2+1) (XS (↑s2+1) C none)) {s2 with heap:=qdb s2.heap C us}:=
   I2.laid (t':=s2.toks) (fun b o y=>uD _ (uD _ y)) (xK _) (jtp ⟨_,_,ea,rfl,rfl,rfl,rfl,⟨_,rfl⟩,fun dx y=>by cases y⟩)
  have q:=q _ hn;refine⟨rfl,by rw[<-r.length];exact hl,I2.kIn _ _ hC,hN _ I2.kIn,T _ I2.kIn,PySem.W.bind_fn I3.kIn _ (beq_iff_eq.mp M.fn),?_⟩;have r2:qbk (V.ref (↑s2+1)::vs) (uQ (↑s2+1)::us):=.cons rfl r;have hln:(uQ (↑s2+1)::us++[]).length=ps.length:=by rw[zX,<-r2.length];exact F.len _ _ _ _ q
  have hb':=hb {s2 with heap:=qdb s2.heap C us} (uQ (↑s2+1)::us) I3.kIn hln;rw[zX] at hb';refine aC (xA (F.run _ X.stack _ _ ⟨uQ (↑s2+1)::us,[]⟩ (uQ (↑s2+1)::us) _ _ E0 (hr.make C us []) (I3.env0.make C us []) hb' r2 q) fun r s' hq'=>?_)
  cases r with
  |error e=>exact vP hq'
  |ok fl=>
   cases fl with
   |ret u=>
    obtain⟨v,H',I4,rv,ev,d,e4,q4⟩:=I3.after hq';subst ev;obtain⟨oe,ws,g1,g2,g3,g4,g5,g6,g7⟩:=jqn I4.hok e4;refine⟨rv,I4.kIn _ _ hC,⟨oe,g1,g2,ws,g4,g5⟩,?_⟩;have new:s2.heap.get? (↑s2+1)=none:=yZ (xK _);refine hx pins σ _ _ _ (.ref C) d (Inv.del I4 e4) ⟨⟨qg7 I2 hex new,qdq,fun p hp y=>?_,⟨_,_,g1,g4⟩⟩,.inl ⟨_,_,g1,g2,g3,g4,g5⟩⟩ q4;have w:=(I2.pin p hp).1;rw[y,new] at w
    cases w
   |next=>exact vP hq'
   |brk=>exact vP hq'
   |cont=>exact vP hq'
end
section
variable{X:Cx}
inductive PJ(X:Cx):List vV->List TE->Prop
 |nil:PJ X [] []
 |cons{e:vV}{es:List vV}{t:TE}{ts:List TE}(h:PE X e t)(r:PJ X es ts):PJ X (e::es) (t::ts)
end
structure jwb(K:uT)(T:Addr):Prop where
 ga:dW K (.ref T) "__getattribute__"=some (some (.builtin "type.__getattribute__"))
 rd:PySem.W.readsIn K T (.type "type")=true
 at_:PySem.W.findCls K (.ref T) (.type "type") "__init__"=some (.val (.builtin "ValueError.__init__"))
open PySem.MeetsSeq PySem.MeetsSeq2 PySem.MeetsSeq3 PySem.SeqRoads2
def EqW(P:uW)(w:vL)(A:vR)(s:uC)(y x:uB)(b:Bool):Prop:=∀(E:uB->uC->Prop)(Q:Bool->uC->Prop),Q b s->uV (uX P w) A (eqBool y x) Q E s
def opN:Bool->CmpOp
 |false=> .Eq
 |true=> .NotEq
def RcW(P:uW)(w:vL)(A:vR)(s:uC)(ne:Bool)(y x:uB)(b:Bool):Prop:=∀(E:uB->uC->Prop)(Q:uB->uC->Prop),Q (.bool b) s->uV (uX P w) A (richCompare (opN ne) y x) Q E s
def jtq:Bool->Int
 |false=>2
 |true=>3
abbrev lo(dd:Option Addr)(xs:Array uB)(n:Nat)(sl:Array (Option uB)):Obj:={cls:=.type "list",dict:=dd,data:=.seq xs n,slots:=sl}
abbrev tob(dd:Option Addr)(xs:Array uB)(n:Nat)(sl:Array (Option uB)):Obj:={cls:=.type "tuple",dict:=dd,data:=.seq xs n,slots:=sl}
section
variable{P:uW}{w:vL}{A:vR}{s:uC}{l b:Addr}{k:Bool}
def EqW.of{y x:uB}(h:SeqAt.EqAt A s y x k):EqW P w A s y x k:=fun E Q q=>h P w E Q q
def EqW.refs(hn:l≠b)(h:RcW P w A s false (.ref l) (.ref b) k):EqW P w A s (.ref l) (.ref b) k:=fun E Q q=>by
 unfold eqBool;refine wP (wpAny_ite_split (fun z=>?_) fun _=>uE (h E _ (wV q)));have z':=eq_of_beq z;injection z' with z'
 exact absurd z' hn
abbrev jtr(P:uW)(w:vL)(A:vR)(R:Result->uC->Prop):PySem.Fin->uC->Prop:=fun f s'=>match f with| .done r=>R (.ok r) s'| .again c=>c.quiet=true/\bP (uX P w) A c R s'
def jqo(ne:Bool){xs ys:Array uB}{n m:Nat}{d1 d2:Option Addr}{s1 s2:Array (Option uB)}(hz:xs.size=ys.size)(f:Nat->Bool)(r:Nat):∀(i:Nat),xs.size-i=r->∀(A:vR)(R:Result->uC->Prop)(s:uC),s.heap.get? l=some (lo d1 xs n s1)->s.heap.get? b=some (lo d2 ys m s2)->
  (∀j (h1:j<xs.size) (h2:j<ys.size),EqW P w A.in1 s xs[j] ys[j] (f j))->R (.ok (.ret (.bool (ne !=((vG xs.size).drop i).all f)))) s->
  uV (uX P w) A.in1 (aN.«list.__eq__.loop» ⟨[.ref l,.ref b,xN i,xN (jtq ne)],[]⟩) (jtr P w A R) (fun e s'=>R (.error e) s') s:=by
 induction r with
 |zero=>
  intro i hr A R s hl hb he q;obtain⟨hp,g,d,tk,os⟩:=s;have t1:xs[((i:Nat):Int).toNat]?=none:=by simp;omega
  have t2:ys[((i:Nat):Int).toNat]?=none:=by simp;omega
  have t3:(vG xs.size).drop i=[]:=by simp;omega
  rw[t3] at q
  cases ne with
  |false=>
   wp_walk using uP hl,uP hb
   rw[t1,t2]
   wp_walk using uP hl,uP hb
   show R (.ok (.ret (.bool (xs.size==ys.size)))) _;rw[hz];simpa using q
  |true=>
   wp_walk using uP hl,uP hb
   rw[t1,t2]
   wp_walk using uP hl,uP hb
   show R (.ok (.ret (.bool (xs.size !=ys.size)))) _;rw[hz];simpa using q
 |succ r ih=>
  intro i hr A R s hl hb he q;obtain⟨hp,g,d,tk,os⟩:=s;have j1:i<xs.size:=by omega
  have j2:i<ys.size:=by omega
  have t1:xs[((i:Nat):Int).toNat]?=some xs[i]:=by simp[j1]
  have t2:ys[((i:Nat):Int).toNat]?=some ys[i]:=by simp[j2]
  have t3:(vG xs.size).drop i=i ::(vG xs.size).drop (i+1):=by simp[xH,j1]
  have t4:((i:Int)+1)=((i+1:Nat):Int):=by push_cast;rfl
  rw[t3,yS] at q
  cases ne with
  |false=>
   wp_walk using uP hl,uP hb
   rw[t1,t2];refine uE (he i j1 j2 _ _ ?_)
   cases hf:f i with
   |true=>
    rw[hf] at q
    wp_walk
    rw[t4];refine⟨cQ yT _,xZ eM ?_⟩;rw[xL yT _];exact ih (i+1) ↑∅ A R _ hl hb he (by simpa using q)
   |false=>
    rw[hf] at q
    wp_walk using uP hl,uP hb
    rw[t1,t2]
    wp_walk
    simpa using q
  |true=>
   wp_walk using uP hl,uP hb
   rw[t1,t2];refine uE (he i j1 j2 _ _ ?_)
   cases hf:f i with
   |true=>
    rw[hf] at q
    wp_walk
    rw[t4];refine⟨cQ yT _,xZ eM ?_⟩;rw[xL yT _];exact ih (i+1) ↑∅ A R _ hl hb he (by simpa using q)
   |false=>
    rw[hf] at q
    wp_walk using uP hl,uP hb
    rw[t1,t2]
    wp_walk
    simpa using q
def jqp(ne:Bool){xs ys:Array uB}{n m:Nat}{d1 d2:Option Addr}{s1 s2:Array (Option uB)}(hz:xs.size=ys.size)(f:Nat->Bool){R:Result->uC->Prop}(hl:s.heap.get? l=some (lo d1 xs n s1))(hb:s.heap.get? b=some (lo d2 ys m s2))
  (he:∀j (h1:j<xs.size) (h2:j<ys.size),EqW P w A.in1 s xs[j] ys[j] (f j))(q:R (.ok (.ret (.bool (ne !=(vG xs.size).all f)))) s):
  uV (uX P w) A.in1 ((if ne=true then aN.«list.__ne__» else aN.«list.__eq__») ⟨[.ref l,.ref b],[]⟩) (jtr P w A R) (fun e s'=>R (.error e) s') s:=by
 obtain⟨hp,g,d,tk,os⟩:=s;have f3:=AutoSeq1.sub_list_list;have z0:¬(xs.size !=ys.size)=true:=by simp[hz]
 cases ne with
 |false=>
  show uV _ _ (aN.«list.__eq__» _) _ _ _
  wp_walk using uP hl,uP hb
  refine⟨cQ yT _,xZ eM ?_⟩;rw[xL yT _];exact jqo false hz f _ 0 rfl A R _ hl hb he (by simpa using q)
 |true=>
  show uV _ _ (aN.«list.__ne__» _) _ _ _
  wp_walk using uP hl,uP hb
  refine⟨cQ yT _,xZ eM ?_⟩;rw[xL yT _];exact jqo true hz f _ 0 rfl A R _ hl hb he (by simpa using q)
def jqq{T id:String}{name:Str}{B:aN}{self:uB}{rest:List uB}{E Q:uB->uC->Prop}(slot:Slot T name id)(hT:s.TypeIs self T)(entry:entryFor table id=some B)(args:argsOk id ⟨self::rest,[]⟩)
  (h:uV (uX P w) A.in1 (B ⟨self::rest,[]⟩) (jtr P w A (wants Q E)) (fun e s'=>wants Q E (.error e) s') s):uV (uX P w) A (call (.builtin id) (self::rest)) Q E s:=
 aC (codeAny_call_builtin slot.plain entry (slot.check _ _ _ _ _ _ _ _ hT args h))
def RcW.lists(ne:Bool){xs ys:Array uB}{f:Nat->Bool}(hl:s.heap.IsList l xs)(hb:s.heap.IsList b ys)(hz:xs.size=ys.size)(hu:A.units<cLine)(he:∀j (h1:j<xs.size) (h2:j<ys.size),EqW P w A.in1 s xs[j] ys[j] (f j)):
  RcW P w A s ne (.ref l) (.ref b) (ne !=(vG xs.size).all f):=fun E Q q=>by
 obtain⟨⟨c1,d1,e1,s1⟩,ho,hc,n,hd⟩:=id hl;obtain⟨⟨c2,d2,e2,s2⟩,ho2,hc2,m,hd2⟩:=id hb;simp only at hc hd hc2 hd2;subst hc hd hc2 hd2;have q':eR (ne !=(vG xs.size).all f)≠Value.notImplemented/\Q (.bool (ne !=(vG xs.size).all f)) s:=⟨(fun x=>nomatch x),q⟩
 cases ne with
 |false=>exact yX (op:=.Eq) ⟨_,ho,rfl⟩ ⟨_,ho2,rfl⟩ F.slot_list_eq (jqq F.slot_list_eq ⟨_,ho,rfl⟩ F.entry_list_eq (F.args_list_eq_2 _ _) (jqp (R:=wants (fun v s'=>v≠ .notImplemented/\Q v s') E) false hz f ho ho2 he q')) hu
 |true=>exact yX (op:=.NotEq) ⟨_,ho,rfl⟩ ⟨_,ho2,rfl⟩ F.slot_list_ne (jqq F.slot_list_ne ⟨_,ho,rfl⟩ F.entry_list_ne (F.args_list_ne_2 _ _) (jqp (R:=wants (fun v s'=>v≠ .notImplemented/\Q v s') E) true hz f ho ho2 he q')) hu
def RcW.listsN(ne:Bool){xs ys:Array uB}(hl:s.heap.IsList l xs)(hb:s.heap.IsList b ys)(hz:(xs.size !=ys.size)=true)(hu:A.units<cLine):RcW P w A s ne (.ref l) (.ref b) (ne !=false):=fun E Q q=>by
 cases ne with
 |false=>exact SeqAt.RcAt.lists_lengths hl hb hz hu P w E Q q
 |true=>exact SeqAt.RcNeAt.lists_lengths hl hb hz hu P w E Q q
def jve(ne:Bool){xs ys:Array uB}{n m:Nat}{d1 d2:Option Addr}{s1 s2:Array (Option uB)}(f:Nat->Bool){E Q:uB->uC->Prop}(hl:s.heap.get? l=some (tob d1 xs n s1))(hb:s.heap.get? b=some (tob d2 ys m s2))
  (he:∀j (h1:j<xs.size) (h2:j<ys.size),EqW P w A.in1 s xs[j] ys[j] (f j))(q:Q (.bool (ne !=((vG (min xs.size ys.size)).all f && xs.size==ys.size))) s):
  uV (uX P w) A.in1 ((if ne=true then aN.«tuple.__ne__» else aN.«tuple.__eq__») ⟨[.ref l,.ref b],[]⟩) (fun fin s'=>∃v,fin=.done (.ret v)/\Q v s') E s:=by
 obtain⟨hp,g,d,tk,os⟩:=s;have f2:=AutoSeq1.sub_tuple_tuple;have hZ:(xs.toList.zip ys.toList).length=min xs.size ys.size:=by simp
 have turn:∀(x y:uB)(rest:List (uB×uB))(i:Nat),(x,y)::rest=(xs.toList.zip ys.toList).drop i->∃(h1:i<xs.size)(h2:i<ys.size),x=xs[i]/\y=ys[i]/\rest=(xs.toList.zip ys.toList).drop (i+1)/\(vG (min xs.size ys.size)).drop i=i ::(vG (min xs.size ys.size)).drop (i+1):=fun x y rest i hz=>by
  have hlt:i <(xs.toList.zip ys.toList).length:=by
   rcases bY i (xs.toList.zip ys.toList).length with z|z
   .exact z
   .rw[List.drop_of_length_le z] at hz;cases hz
  have hm:i<min xs.size ys.size:=hZ▸hlt;have h1:i<xs.size:=vB hm (Nat.min_le_left _ _);have h2:i<ys.size:=vB hm (Nat.min_le_right _ _);rw[xH hlt] at hz;injection hz with hxy hrest
  exact⟨h1,h2,by have:=congrArg Prod.fst hxy;simpa using this,by have:=congrArg Prod.snd hxy;simpa using this,hrest,by simp[xH,hm]⟩
 have last:∀i:Nat,[]=(xs.toList.zip ys.toList).drop i->(vG (min xs.size ys.size)).drop i=[]:=fun i hz=>by
  have hge:min xs.size ys.size<=i:=by
   rcases bY i (xs.toList.zip ys.toList).length with z|z
   .rw[xH z] at hz;cases hz
   .exact hZ▸z
  exact List.drop_of_length_le (by simpa using hge)
 cases ne with
 |false=>
  show uV _ _ (aN.«tuple.__eq__» _) _ _ _
  wp_walk using uP hl,uP hb,wpAny_forIn_list _ (fun rest c s'=>c.1=none/\s'=⟨hp,g,d,tk,os⟩/\∃i,rest=(xs.toList.zip ys.toList).drop i/\Q (.bool (((vG (min xs.size ys.size)).drop i).all f && xs.size==ys.size)) ⟨hp,g,d,tk,os⟩) _
  case turn=>
   rintro⟨x,y⟩ rest c s' ⟨hc,rfl,i,hz,hR⟩;obtain⟨h1,h2,rfl,rfl,hrest,hd⟩:=turn x y rest i hz;rw[hd,yS] at hR;refine uE (he i h1 h2 _ _ ?_)
   cases hf:f i with
   |true=>
    rw[hf] at hR
    wp_walk
    exact⟨rfl,rfl,i+1,hrest,by simpa using hR⟩
   |false=>
    rw[hf] at hR
    wp_walk
    exact⟨_,rfl,by simpa using hR⟩
  case fin=>
   rintro⟨c1,c2⟩ s' ⟨hc,rfl,i,hz,hR⟩;simp only at hc;subst hc;rw[last i hz] at hR
   wp_walk
   exact⟨_,rfl,by simpa[gI] using hR⟩
  case h=>exact⟨rfl,rfl,0,rfl,by simpa using q⟩
 |true=>
  show uV _ _ (aN.«tuple.__ne__» _) _ _ _
  wp_walk using uP hl,uP hb,wpAny_forIn_list _ (fun rest c s'=>c.1=none/\s'=⟨hp,g,d,tk,os⟩/\∃i,rest=(xs.toList.zip ys.toList).drop i/\Q (.bool (!(((vG (min xs.size ys.size)).drop i).all f && xs.size==ys.size))) ⟨hp,g,d,tk,os⟩) _
  case turn=>
   rintro⟨x,y⟩ rest c s' ⟨hc,rfl,i,hz,hR⟩;obtain⟨h1,h2,rfl,rfl,hrest,hd⟩:=turn x y rest i hz;rw[hd,yS] at hR;refine uE (he i h1 h2 _ _ ?_)
   cases hf:f i with
   |true=>
    rw[hf] at hR
    wp_walk
    exact⟨rfl,rfl,i+1,hrest,by simpa using hR⟩
   |false=>
    rw[hf] at hR
    wp_walk
    exact⟨_,rfl,by simpa using hR⟩
  case fin=>
   rintro⟨c1,c2⟩ s' ⟨hc,rfl,i,hz,hR⟩;simp only at hc;subst hc;rw[last i hz] at hR
   wp_walk
   exact⟨_,rfl,by simpa[gI,bne] using hR⟩
  case h=>exact⟨rfl,rfl,0,rfl,by simpa using q⟩
def RcW.tuples(ne:Bool){xs ys:Array uB}{f:Nat->Bool}(hl:s.heap.IsTuple l xs)(hb:s.heap.IsTuple b ys)(hu:A.units<cLine)(he:∀j (h1:j<xs.size) (h2:j<ys.size),EqW P w A.in1 s xs[j] ys[j] (f j)):
  RcW P w A s ne (.ref l) (.ref b) (ne !=((vG (min xs.size ys.size)).all f && xs.size==ys.size)):=fun E Q q=>by
 obtain⟨⟨c1,d1,e1,s1⟩,ho,hc,n,hd⟩:=id hl;obtain⟨⟨c2,d2,e2,s2⟩,ho2,hc2,m,hd2⟩:=id hb;simp only at hc hd hc2 hd2;subst hc hd hc2 hd2
 cases ne with
 |false=>exact yX (op:=.Eq) ⟨_,ho,rfl⟩ ⟨_,ho2,rfl⟩ F.slot_tuple_eq (gO F.slot_tuple_eq ⟨_,ho,rfl⟩ F.entry_tuple_eq (jve (Q:=fun v s'=>v≠ .notImplemented/\Q v s') false f ho ho2 he ⟨(fun x=>nomatch x),q⟩) (F.args_tuple_eq_2 _ _)) hu
 |true=>exact yX (op:=.NotEq) ⟨_,ho,rfl⟩ ⟨_,ho2,rfl⟩ F.slot_tuple_ne (gO F.slot_tuple_ne ⟨_,ho,rfl⟩ F.entry_tuple_ne (jve (Q:=fun v s'=>v≠ .notImplemented/\Q v s') true f ho ho2 he ⟨(fun x=>nomatch x),q⟩) (F.args_tuple_ne_2 _ _)) hu
end
end My
namespace My
open PySem PySem.Spec PyProof.Rows L2
variable{kvs:List (Key×V)}{v:V}{h:vQ}{a:Addr}{K:uT}{f g:Str->Option Int}{H:Hp}{n i:Nat}{l:List Str}{R:It->Hp->Prop}{b z:Str}
inductive DEq(K:uT)(H:Hp):Nat->V->V->Bool->Prop
 |same{n:Nat}{a:Addr}:DEq K H n (.ref a) (.ref a) true
 |flat{n:Nat}{x y:V}(hx:qd4 x=true)(hy:qd4 y=true):DEq K H n x y (eqV x y)
 |ls{n:Nat}{a b:Addr}{xs ys:List V}{e:Nat->Bool}(ha:SqL K H a xs)(hb:SqL K H b ys)(ne:a≠b)(hl:xs.length=ys.length)
   (he:∀j (h1:j<xs.length) (h2:j<ys.length),DEq K H n xs[j] ys[j] (e j)):DEq K H (n+1) (.ref a) (.ref b) ((vG xs.length).all e)
 |lsN{n:Nat}{a b:Addr}{xs ys:List V}(ha:SqL K H a xs)(hb:SqL K H b ys)(ne:a≠b)(hl:xs.length≠ys.length):DEq K H (n+1) (.ref a) (.ref b) false
 |ts{n:Nat}{a b:Addr}{xs ys:List V}{e:Nat->Bool}(ha:SqT K H a xs)(hb:SqT K H b ys)(ne:a≠b)
   (he:∀j (h1:j<xs.length) (h2:j<ys.length),DEq K H n xs[j] ys[j] (e j)):DEq K H (n+1) (.ref a) (.ref b) ((vG (min xs.length ys.length)).all e && xs.length==ys.length)
 |dd{n:Nat}{a b:Addr}{ka kb:List (Key×V)}(ha:Rd H a (.dK ka))(hb:Rd H b (.dK kb))(ne:a≠b)(fa:∀p∈ka,qd4 p.2=true)(fb:∀p∈kb,qd4 p.2=true):
   DEq K H (n+1) (.ref a) (.ref b) (ka.length==kb.length && ka.all fun p=>(qci kb p.1).elim false (eqV p.2))
def qcw{xs:List V}{us:List uB}(r:qbk xs us){j:Nat}(h1:j<xs.length)(h2:j<us.length):qb6 xs[j] us[j]:=by
 obtain⟨u,e,ru⟩:=r.get (zB h1);rw[zB h2] at e
 cases e
 exact ru
def qgf{k:Key}(h:qci kvs k=some v):(k,v)∈kvs:=by
 unfold qci at h;obtain⟨p,hp,rfl⟩:=uK.mp h;have e:=List.find?_some hp;have e':p.1=k:=of_decide_eq_true e;subst e';exact List.mem_of_find?_eq_some hp
def jna{A:vR}{s:uC}{kb:List (Key×V)}{vb:List (Key×uB)}(rb:KV kb vb)(fb:∀p∈kb,qd4 p.2=true){ka:List (Key×V)}{va:List (Key×uB)}(ra:KV ka va)(fa:∀p∈ka,qd4 p.2=true):
  PySem.W.KeqHits A s vb va (ka.all fun p=>(qci kb p.1).elim false (eqV p.2)):=by
 induction ra with
 |nil=>exact .nil
 | @cons p q l1 l2 h t ih=>
  obtain⟨k,v⟩:=p;obtain⟨k',u⟩:=q;obtain⟨e,ru⟩:=h;dsimp only at e ru;subst e;have z:=rb.val k;rw[yS];have ih':=ih fun p hp=>fa p (zD _ hp)
  cases hv:qci kb k with
  |none=>
   rw[hv] at z;have hn:dB vb k=none:=qgz.none_of z;exact .miss hn
  |some y=>
   rw[hv] at z
   cases hu:dB vb k with
   |none=>rw[hu] at z;exact z.elim
   |some yu=>
    rw[hu] at z;exact .hit hu (je7 ru z (fa _ (zF ..)) (fb _ (qgf hv))) ih'
section
variable{X:Cx}{pins:List (Addr×Obj)}{σ:L2.St}{H:Hp}{s:uC}
def PlainL.isList{its:Array uB}(p:PlainL h a its):h.IsList a its:=by
 obtain⟨o,n,e,c,d,t⟩:=p;exact⟨o,e,c,n,t⟩
def jlr(I:Inv X pins σ H s){n:Nat}{x y:V}{k:Bool}(q:DEq X.K H n x y k):∀(A:vR)(u v:uB),qb6 x u->qb6 y v->A.units+n<cLine->
  EqW X.prog X.w A s u v k/\∀a b,x=.ref a->y=.ref b->a≠b->∀ne:Bool,RcW X.prog X.w A s ne (.ref a) (.ref b) (ne !=k):=by
 have both:∀{A:vR} {a b:Addr} {k:Bool},a≠b->(∀ne:Bool,RcW X.prog X.w A s ne (.ref a) (.ref b) (ne !=k))->
   EqW X.prog X.w A s (.ref a) (.ref b) k/\∀a' b',V.ref a=.ref a'->V.ref b=.ref b'->a'≠b'->∀ne:Bool,RcW X.prog X.w A s ne (.ref a') (.ref b') (ne !=k):=fun {A a b k} ne R=>
  ⟨EqW.refs ne (by have z:=R false;simpa using z),fun a' b' e1 e2 _=>by cases e1;cases e2;exact R⟩
 induction q with
 | @same n a=>
  intro A u v ru rv hu;obtain rfl:u=uQ a:=ru;obtain rfl:v=uQ a:=rv;exact⟨EqW.of (SeqAt.EqAt.same _),fun a' b' e1 e2 ne=>by cases e1;cases e2;exact absurd rfl ne⟩
 |flat hx hy=>
  intro A u v ru rv hu;exact⟨EqW.of (je7 ru rv hx hy),fun a b e _ _=>by subst e;cases hx⟩
 | @ls n a b xs ys e ha hb ne hl he ih=>
  intro A u v ru rv hu;obtain rfl:u=uQ a:=ru;obtain rfl:v=uQ b:=rv;obtain⟨its,r1,p1,_⟩:=I.list ha;obtain⟨its2,r2,p2,_⟩:=I.list hb;have l1:=r1.length;have l2:=r2.length;refine both ne fun nb=>?_;have z:=RcW.lists (P:=X.prog) (w:=X.w) (A:=A) (s:=s) nb (f:=e) (PlainL.isList p1) (PlainL.isList p2) (by rw[zK,zK];omega) ↑∅ fun j h1 h2=>by
   have k1:j<its.length:=by simpa using h1
   have k2:j<its2.length:=by simpa using h2
   have w:=(ih j ↑∅ ↑∅ A.in1 its[j] its2[j] (qcw r1 ↑∅ k1) (qcw r2 ↑∅ k2) (by show A.units+1+n<cLine;omega)).1;simpa using w
  rw[zK,<-l1] at z;exact z
 | @lsN n a b xs ys ha hb ne hl=>
  intro A u v ru rv hu;obtain rfl:u=uQ a:=ru;obtain rfl:v=uQ b:=rv;obtain⟨its,r1,p1,_⟩:=I.list ha;obtain⟨its2,r2,p2,_⟩:=I.list hb;have l1:=r1.length;have l2:=r2.length;exact both ne fun nb=>RcW.listsN nb (PlainL.isList p1) (PlainL.isList p2) (by rw[zK,zK];simp;omega) ↑∅
 | @ts n a b xs ys e ha hb ne he ih=>
  intro A u v ru rv hu;obtain rfl:u=uQ a:=ru;obtain rfl:v=uQ b:=rv;obtain⟨its,r1,p1,_⟩:=I.tuple ha;obtain⟨its2,r2,p2,_⟩:=I.tuple hb;have l1:=r1.length;have l2:=r2.length;refine both ne fun nb=>?_;have z:=RcW.tuples (P:=X.prog) (w:=X.w) (A:=A) (s:=s) nb (f:=e) p1 p2 ↑∅ fun j h1 h2=>by
   have k1:j<its.length:=by simpa using h1
   have k2:j<its2.length:=by simpa using h2
   have w:=(ih j ↑∅ ↑∅ A.in1 its[j] its2[j] (qcw r1 ↑∅ k1) (qcw r2 ↑∅ k2) (by show A.units+1+n<cLine;omega)).1;simpa using w
  rw[zK,zK,<-l1,<-l2] at z;exact z
 | @dd n a b ka kb ha hb ne fa fb=>
  intro A u v ru rv hu;obtain rfl:u=uQ a:=ru;obtain rfl:v=uQ b:=rv;obtain⟨_,ga,va,ra,da⟩:=qft I.hok ha;obtain⟨_,gb,vb,rb,db⟩:=qft I.hok hb;have l1:=ra.length;have l2:=rb.length;refine both ne fun nb E Q q=>?_;have hits:=jna (A:=A.in1) (s:=s) rb fb ra fa;rw[l1,l2] at q
  cases nb with
  |false=>exact PySem.W.keq_eq ga gb da db ↑∅ (fun _=>hits) (by simpa using q)
  |true=>exact PySem.W.keq_ne ga gb da db ↑∅ (fun _=>hits) (by simpa using q)
def jvf(K:uT):R2:=fun x y H Q=>∃a b n k,x=.ref a/\y=.ref b/\a≠b/\n<=8/\DEq K H n (.ref a) (.ref b) k/\Q (.bl k) H
def jhk(hu:X.A.units+8<cLine):OpR X (wD .Eq) (jvf X.K):=by
 intro pins s σ H x y v u Q I rx ry h;obtain⟨a,b,n,k,rfl,rfl,ne,hn,q,z⟩:=h
 cases rx
 cases ry
 have r:=(jlr I q X.A _ _ rfl rfl ↑∅).2 a b rfl rfl ne false X.xe (EP X pins σ Q);rw[Bool.false_bne] at r;exact r ⟨.bl k,H,I,rfl,z⟩
end
section
variable{X:Cx}
def jhl(K:uT):List V->Hp->VK->Prop:=fun xs H Q=>∃p ys,xs=[.ref p]/\(SqL K H p ys\/SqT K H p ys)/\∀l,H l=none->Q (.ref l) (upd H l (.lst ys))
def jf9:qcr X (.type "list") (jhl X.K):=jcx
end
section
variable{K:uT}{σ:L2.St}{H:Hp}{Q:VK}{p l b:Addr}{ys xs zs:List V}{to:TE}{t:TA}{T:String}{r:V->List V->Hp->VK->Prop}{x v:V}
def jnb(h:SqL K H p ys)(q:∀l,H l=none->Q (.ref l) (upd H l (.lst ys))):jhl K [.ref p] H Q:=⟨p,ys,rfl,.inl h,q⟩
def jwc(h:to σ H fun x H1=>tyV K T x H1/\t σ H1 fun xs H2=>r x xs H2 Q):tBM K T r to t σ H Q:=h
def jts(h:to σ H fun x H1=>tyV K T x H1/\r x [] H1 Q):ju1 K T r to σ H Q:=h
def jtt{P:Prop}(h:SqL K H p ys)(q:P):tyV K "list" (.ref p) H/\P:=⟨.inl ⟨rfl,_,h⟩,q⟩
def jj0(h:H l=some (.lst xs))(hz:xs.length<sizeLine)(q:Q .non (upd H l (.lst (xs++[v])))):jgx (.ref l) [v] H Q:=⟨l,xs,v,rfl,rfl,h,hz,q⟩
def jnc(h:H l=some (.lst xs))(h':H b=some (.lst zs))(hz:xs.length+zs.length<=sizeLine)(q:∀p,H p=none->Q (.ref p) (upd H p (.lst (xs++zs)))):ju2 (.ref l) (.ref b) H Q:=⟨l,b,xs,zs,rfl,rfl,h,h',hz,q⟩
end
def jhm(K:uT)(C f:Addr):Bool:=match K.lookup C with
 |some ⟨.type "type",_,.cls cd,sl⟩=>(match cd.mro,sl.toList with
  | .ref C'::bm,[_,_,_,_,some (.builtin n),_]=>C'==C && n== "ValueError.__new__" && !cd.hasDel && PySem.W.tailIn K [.type "ValueError",.type "Exception",.type "BaseException",.type "object"] bm && PySem.W.nsOkIn K cd.ns && xU K cd.ns "__init__"==some (some (.ref f))
  |_,_=>false)
 |_=>false
def jnd{C f:Addr}(q:jhm K C f=true)(hf:isFn K (.ref f)=true):XClI K C f:=by
 refine⟨?_,hf⟩;unfold jhm at q
 split at q
 .rename_i dd cd sl ho
  split at q
  .rename_i C' bm k0 k1 k2 k3 n k5 hm hs;simp only[vZ,beq_iff_eq,cJ] at q;obtain⟨⟨⟨⟨⟨rfl,rfl⟩,hdel⟩,ht⟩,hok⟩,hni⟩:=q;obtain⟨nm,bs,mro,ns,qn,hd,sn,sub,ab,col,del⟩:=cd;dsimp only at hm hdel hok hni;subst hm hdel;have hsl:sl= #[k0,k1,k2,k3,some (.builtin "ValueError.__new__"),k5]:=by
    obtain⟨l⟩:=sl;simp only at hs;rw[hs]
   subst hsl;unfold PySem.W.nsOkIn at hok
   split at hok
   .rename_i c1 d1 es ep sl1 hN;have hSK:StrKeys es:=fun e he=>by
     have z:=fX.mp hok e he
     split at z
     .rename_i n t q;exact⟨n,t,q⟩
     .cases z
    have hNs:∀h:vQ,K.In h->h.Ns ns (fun x=>fA es x):=fun h X=>⟨_,es,ep,X _ _ hN,rfl,hSK,fun _=>rfl⟩;refine⟨nm,qn,ns,bs,bm,hd,sn,sub,ab,col,dd,k0,k1,k2,k3,k5,fun x=>fA es x,ho,hNs,?_,fun h X=>PySem.W.tail_of_in X ht⟩;unfold xU at hni;rw[hN] at hni;dsimp only at hni
    split at hni
    .rename_i hf;show fA es "__init__"=some (.ref f);unfold fA findBy;rw[<-fB,hf];exact congrArg some (uN (uN hni))
    .first|(split at hni<;>cases hni) |simp at hni
   .cases hok
  .cases q
 .cases q
structure jtu(k:Nat)(A:vR):Prop where
 dp:A.depth+3*k+5<recursionLimit
 un:A.units+16*k+200<cLine
structure jwd(P:uW)(w:vL)(K:uT)(mg:Str->Option uB)(base:vQ)(k:Nat)(f:Addr)(fd:uL)(ps:List Str)(sp:Sp):Prop where
 len:∀vs H Q E,sp vs H Q E->vs.length=ps.length
 run:∀(a:Addr)(A:vR)(outer:List Env)(s:uC)(H:Hp)(args:Args)(us:List uB)(vs:List V)(Q:VK)(E:XK),jtu k A->A.handled=some (.ref a)->jjr P w K mg base A outer s H->cZ s fd args (ps.zip us)->qbk vs us->sp vs H Q E->
  bP (uX P w) A (.call (.ref f) args) (CR CX0 outer P w H s Q E) s
section
variable{X:Cx}
def jvg(K:uT):R2:=fun x y H Q=>∃a b n k,x=.ref a/\y=.ref b/\a≠b/\n<=8/\DEq K H n (.ref a) (.ref b) k/\Q (.bl (!k)) H
def jff(hu:X.A.units+8<cLine):OpR X (wD .NotEq) (jvg X.K):=by
 intro pins s σ H x y v u Q I rx ry h;obtain⟨a,b,n,k,rfl,rfl,ne,hn,q,z⟩:=h
 cases rx
 cases ry
 have r:=(jlr I q X.A _ _ rfl rfl ↑∅).2 a b rfl rfl ne true X.xe (EP X pins σ Q);rw[Bool.true_bne] at r;exact r ⟨.bl (!k),H,I,rfl,z⟩
end
section
variable{K:uT}{H:Hp}{Q:VK}{a b:Addr}{n:Nat}{k:Bool}
def jne(ne:a≠b)(hn:n<=8)(q:DEq K H n (.ref a) (.ref b) k)(h:Q (.bl k) H):jvf K (.ref a) (.ref b) H Q:=⟨a,b,n,k,rfl,rfl,ne,hn,q,h⟩
def jj1(ne:a≠b)(hn:n<=8)(q:DEq K H n (.ref a) (.ref b) k)(h:Q (.bl (!k)) H):jvg K (.ref a) (.ref b) H Q:=⟨a,b,n,k,rfl,rfl,ne,hn,q,h⟩
end
def hu8{k:Nat}{A:vR}(r:jaz k A):A.units+8<cLine:=by have:=r.un;omega
def jhn(z:Str):DEq K H n (.str z) (.str z) true:=by
 have w:=DEq.flat (K:=K) (H:=H) (n:=n) (x:=.str z) (y:=.str z) rfl rfl;have e:eqV (.str z) (.str z)=true:=by simp[eqV]
 rw[e] at w;exact w
def SameBut(L:Addr)(H H':Hp):Prop:=∀b o,b≠L->H b=some o->H' b=some o
def SameBut.at{H':Hp}{L:Addr}{o:HO}(e:SameBut L H H'):SameBut L H (upd H' L o):=fun b u hb q=>by
 rw[qa4 hb];exact e b u hb q
def SameBut.of{H':Hp}{L:Addr}(s:jab H H'):SameBut L H H':=fun b u _ q=>s b u q
def jho(H:Hp)(a:Addr):Prop:=∀o u,H a≠some (.frz o u)
section
variable{X:Cx}{pins:List (Addr×Obj)}{σ:L2.St}{H H':Hp}{s:uC}{a:Addr}{kvs:List (Key×V)}{o:Obj}
def Inv.freeze(I:Inv X pins σ H s)(e:H a=some (.dK kvs))(ho:s.heap.get? a=some o):Inv X pins σ (upd H a (.frz o (.dK kvs))) s:=by
 have ok:=I.hok a _ e;have z:=I.write (x:=a) (e:=a) (o:=.frz o (.dK kvs)) (h':=s.heap) (t':=s.toks) (by rw[e];exact wW) (.inl rfl) (fun _ _ _ q=>q) ⟨o,ho⟩ ⟨ho,ok⟩;exact z
def Inv.thaw(I:Inv X pins σ H s)(e:H a=some (.frz o (.dK kvs)))(n0:jho X.H₀ a):Inv X pins σ (upd H a (.dK kvs)) s:=by
 have ne:∀b,H b=none->b≠a:=fun b q z=>by subst z;rw[e] at q;cases q
 have nk:∀b u,H b=some u->(∀o' u',u≠ .frz o' u')->b≠a:=fun b u q z w=>by subst w;rw[e] at q;cases q;exact z _ _ rfl
 refine⟨I.ok,I.os,I.bare,⟨I.base.keep,I.base.slot,fun b ob q n hx=>?_,I.base.there,fun b xs q=>?_,fun b ob u q=>?_,fun b ps q=>?_⟩,I.loc,I.cell,?_,fun x c q=>?_,fun p hp=>?_,fun b u q=>?_,I.len⟩
 .have z:=I.base.free b ob q n hx;rw[qa4 (ne b z)];exact z
 .have z:=I.base.tups b xs q;rw[qa4 (nk b _ z (by intro _ _ h;cases h))];exact z
 .have z:=I.base.frzs b ob u q;rw[qa4 (fun w=>by subst w;exact n0 _ _ q)];exact z
 .obtain⟨m,z⟩:=I.base.tbls b ps q;exact⟨m,by rw[qa4 (nk b _ z (by intro _ _ h;cases h))];exact z⟩
 .have z:=I.free;rw[qa4 (ne _ z)];exact z
 .have z:=I.freeC x c q;rw[qa4 (ne _ z)];exact z
 .obtain⟨p1,p2,p3⟩:=I.pin p hp;exact⟨p1,by rw[qa4 (ne _ p2)];exact p2,p3⟩
 .by_cases hb:b=a
  .subst hb;rw[qa1] at q
   cases q
   exact(I.hok b _ e).2
  .rw[qa4 hb] at q;exact(I.hok b u q).stay (fun _ _ _ r=>r) (fun c r=>by rw[qa4 (nk c _ r (by intro _ _ h;cases h))];exact r) fun c xs r=>by rw[qa4 (nk c _ r (by intro _ _ h;cases h))];exact r
def jj2(H0 H H':Hp):Prop:=H'=H\/∃a o kvs,H a=some (.frz o (.dK kvs))/\jho H0 a/\H'=upd H a (.dK kvs)
def Inv.thawed(I:Inv X pins σ H s)(t:jj2 X.H₀ H H'):Inv X pins σ H' s:=by
 rcases t with rfl|⟨a,o,kvs,e,n,rfl⟩
 .exact I
 .exact Inv.thaw I e n
end
section
variable{X:Cx}{st:Stmt}{e:vV}{t:TS}{te:TE}
def thE(H0:Hp)(D:jca):jca:={nx:=fun σ H=>∃H',jj2 H0 H H'/\D.nx σ H',rt:=fun v H=>∃H',jj2 H0 H H'/\D.rt v H',bk:=fun σ H=>∃H',jj2 H0 H H'/\D.bk σ H',ct:=fun σ H=>∃H',jj2 H0 H H'/\D.ct σ H'}
def jvh(H0:Hp)(t:TS):TS:=fun D σ H=>t (thE H0 D) σ H
def qec(h:PS X st t):PS X st (jvh X.H₀ t):=fun pins s σ H D I q=>thn (h pins s σ H _ I q) fun f s' hs=>by
 cases f with
 |next=>obtain⟨σ',H1,J,H2,th,q⟩:=hs;exact⟨σ',H2,Inv.thawed J th,q⟩
 |brk=>obtain⟨σ',H1,J,H2,th,q⟩:=hs;exact⟨σ',H2,Inv.thawed J th,q⟩
 |cont=>obtain⟨σ',H1,J,H2,th,q⟩:=hs;exact⟨σ',H2,Inv.thawed J th,q⟩
 |ret u=>obtain⟨v,σ',H1,J,r,H2,th,q⟩:=hs;exact⟨v,σ',H2,Inv.thawed J th,r,q⟩
def jvi(H0:Hp)(t:TE):TE:=fun σ H Q=>t σ H fun v H1=>∃H',jj2 H0 H1 H'/\Q v H'
def jqr(h:PE X e te):PE X e (jvi X.H₀ te):=fun pins s σ H Q I q=>thn (h pins s σ H _ I q) fun u s' ⟨v,H1,J,r,H2,th,q⟩=>⟨v,H2,Inv.thawed J th,r,q⟩
end
def kvget{κ:Type}{kvs:List (κ×V)}{vs:List (κ×uB)}(r:KV kvs vs):∀{i:Nat} {k:κ} {v:V},kvs[i]?=some (k,v)->∃u,vs[i]?=some (k,u)/\qb6 v u:=by
 induction r with
 |nil=>intro i k v e;simp at e
 |cons h t ih=>
  intro i k v e
  cases i with
  |zero=>
   simp only[List.getElem?_cons_zero,Option.some.injEq] at e⊢;subst e;obtain⟨h1,h2⟩:=h;exact⟨_,Prod.ext h1.symm rfl,h2⟩
  |succ i=>
   simp only[xR] at e⊢;exact ih e
def jqs{k:Key}{u:uB}(h:jcm k u=true):qb6 (kV k) u:=by
 rcases qbb h with⟨i,t,rfl,rfl⟩|⟨x,t,rfl,rfl⟩
 .exact⟨t,rfl⟩
 .exact⟨t,rfl⟩
def ItD(d:Addr)(o:Obj)(kvs:List (Key×V)):It:=
 ⟨fun i H=>H d=some (.frz o (.dK kvs))/\i<kvs.length,fun i H x H'=>H'=H/\∃k v,kvs[i]?=some (k,v)/\x=kV k,fun i H=>H d=some (.frz o (.dK kvs))/\kvs.length<=i⟩
def jls{P:uW}{w:vL}{H:Hp}{h:vQ}{d:Addr}{o:Obj}{kvs:List (Key×V)}{es:Array DictEntry}{ep:Nat}(ok:HOk P w H h)(e:H d=some (.frz o (.dK kvs)))(hd:o.data=.dict es ep):
  ∃vs,KV kvs vs/\h.DictAt (qbc P w) d vs ep:=by
 obtain⟨ho,_,_,vs,rel,o',es',ep',ho',ex,hd',ks,ps,nd⟩:=ok d _ e;rw[ho] at ho'
 cases ho'
 rw[hd] at hd'
 cases hd'
 exact⟨vs,rel,o,es,ho,ex,hd,ks,ps,nd⟩
def jc7{P:uW}{w:vL}{K:uT}{tg:vV}{o:Obj}{kvs:List (Key×V)}{es:Array DictEntry}{ep:Nat}(d it:Addr)(hd:o.data=.dict es ep):jou P w K tg (ItD d o kvs) [it] it (fun i h=>h.IsKeyIter it d i kvs.length ep) where
 mem:=by simp
 obj:=fun i h st b hb=>by
  have e:b=it:=by simpa using hb
  subst e;obtain⟨ob,e,c,dd⟩:=st;exact⟨ob,e,fun v z=>by rw[dd] at z;cases z⟩
 keep:=fun i h h' st k=>st.at fun ob e=>k it (by simp) ob e
 item:=by
  intro X hP hw hK hc i pins s σ H E I hf st hg;subst hP hw hK;obtain⟨hfz,hi⟩:=hg;obtain⟨vs,rel,dat⟩:=jls I.hok hfz hd;obtain⟨f0,f1,f2,f3,f4,f5⟩:=hf it (by simp);have hl:=rel.length;obtain⟨u,hu,ru⟩:=kvget rel (i:=i) (k:=kvs[i].1) (v:=kvs[i].2) (by rw[zB hi]);rw[hl] at st;refine wpAny_pyNext_dict_item st dat hu fun key h' hkey st' hs'=>?_;have I1:Inv X pins σ H {s with heap:=h'}:=I.turned (t':=s.toks) (fun b ob hb e=>hs'.extBut b ob hb e) f0 f1 f3 f4 f5;obtain⟨ob,e,c,dd⟩:=id st';exact⟨key,rfl,jmi (s:={s with heap:=h'}) e c dd ∅ ⟨kV kvs[i].1,H,I1,jqs hkey,⟨rfl,kvs[i].1,kvs[i].2,zB hi,rfl⟩,by rw[hl];exact st',fun b hb=>(hf b hb).1⟩⟩
 done:=by
  intro X hP hw hK hc i pins s σ H E I hf st hg;subst hP hw hK;obtain⟨hfz,hi⟩:=hg;obtain⟨vs,rel,dat⟩:=jls I.hok hfz hd;obtain⟨f0,f1,f2,f3,f4,f5⟩:=hf it (by simp);have hl:=rel.length;rw[hl] at st hi;exact wpAny_pyNext_dict_end (I.ok.hd hc) st dat (by simpa using hi) fun h' eb=>⟨rfl,I.turned (t':=s.toks) (fun b ob hb e=>eb b ob hb e) f0 f1 f3 f4 f5⟩
 self:=fun _ _ _ _ _ st h=>wpAny_pyIter_keyiter st h
def jtv(x:V)(H:Hp)(R:It->Hp->Prop):Prop:=∃a kvs,x=.ref a/\((H a=some (.dK kvs)/\∀o,R (ItD a o kvs) (upd H a (.frz o (.dK kvs))))\/∃o,H a=some (.frz o (.dK kvs))/\R (ItD a o kvs) H)
def jqt(td:TE):TI:=fun σ H R=>td σ H fun x H1=>jtv x H1 R
def jhp{P:uW}{w:vL}{d:Addr}(ok:qbq P w H h d (.dK kvs)):∃o es ep vs,h.get? d=some o/\o.data=.dict es ep/\KV kvs vs/\h.DictAt (qbc P w) d vs ep/\(d==xW)=false:=by
 obtain⟨_,hs,vs,rel,o,es,ep,ho,ex,hd,ks,ps,nd⟩:=ok;exact⟨o,es,ep,vs,ho,hd,rel,⟨o,es,ho,ex,hd,ks,ps,nd⟩,hs⟩
def qcy{X:Cx}{tg l:vV}{tl:TE}(hl:PE X l tl):PI X tg l (jqt tl):=by
 intro pins s σ H R I h;refine thn (hl pins s σ H _ I h) fun v s1 ⟨x,H1,I1,r1,q1⟩=>?_;obtain⟨a,kvs,e,q⟩:=q1;subst e
 cases r1
 have ok:qbq X.prog X.w H1 s1.heap a (.dK kvs):=by
  rcases q with⟨e,_⟩|⟨o,e,_⟩
  .exact I1.hok a _ e
  .exact(I1.hok a _ e).2
 obtain⟨o,es,ep,vs,ho,hd,rel,dat,hs⟩:=jhp ok;have hlen:=rel.length;refine wpAny_pyIter_dict hs dat ?_;have it0:(s1.heap.push {cls:=.type "dict_keyiterator",data:=.fields #[.ref a,.int 0 0,.int vs.length 0,.int ep 0]}).IsKeyIter ↑s1 a 0 kvs.length ep:=by
  rw[hlen];exact⟨_,vE _ rfl,rfl,rfl⟩
 rcases q with⟨e,q⟩|⟨o',e,q⟩
 .have I2:=Inv.freeze I1 e ho;refine⟨↑s1,[↑s1],_,_,_,rfl,I2.kept (t':=s1.toks) fun b ob e=>uD _ e,jc7 (kvs:=kvs) a _ hd,it0,fun b hb=>?_,q o⟩;have e:b=↑s1:=by simpa using hb
  subst e;exact I2.fpOk (uG _) (I2.hok.fresh (uG _))
 .have eo:o'=o:=by
   have z:=(I1.hok a _ e).1;rw[ho] at z
   cases z
   rfl
  subst eo;refine⟨↑s1,[↑s1],_,_,_,rfl,I1.kept (t':=s1.toks) fun b ob e=>uD _ e,jc7 (kvs:=kvs) a _ hd,it0,fun b hb=>?_,q⟩;have e:b=↑s1:=by simpa using hb
  subst e;exact I1.fpOk (uG _) (I1.hok.fresh (uG _))
section
variable{σ:L2.St}{H H':Hp}{D:jca}{t:TS}{te tl:TE}{Q:VK}{g:TG}{tb:TS}{a:Addr}{o:Obj}{kvs:List (Key×V)}{H0:Hp}{v:V}
def jtw(h:t (thE H0 D) σ H):jvh H0 t D σ H:=h
def qe9(th:jj2 H0 H H')(h:D.nx σ H'):(thE H0 D).nx σ H:=⟨H',th,h⟩
def jtx(h:te σ H fun v H1=>∃H',jj2 H0 H1 H'/\Q v H'):jvi H0 te σ H Q:=h
def qg0(e:H a=some (.frz o (.dK kvs)))(n:jho H0 a):jj2 H0 H (upd H a (.dK kvs)):=.inr ⟨a,o,kvs,e,n,rfl⟩
def jwe(h:tl σ H fun x H1=>jtv x H1 R):jqt tl σ H R:=h
def qg1(e:H a=some (.dK kvs))(h:∀o,R (ItD a o kvs) (upd H a (.frz o (.dK kvs)))):jtv (.ref a) H R:=⟨a,kvs,rfl,.inl ⟨e,h⟩⟩
def qen(Pv:Nat->L2.St->Hp->Prop)(h0:Pv 0 σ H)(hl:∀i σ H,i<=kvs.length->Pv i σ H->H a=some (.frz o (.dK kvs)))
  (hs:∀i k v σ H,kvs[i]?=some (k,v)->Pv i σ H->g (kV k) σ H fun σ2 H2=>tb {nx:=Pv (i+1),rt:=D.rt,bk:=D.nx,ct:=Pv (i+1)} σ2 H2)(hd:∀σ H,Pv kvs.length σ H->D.nx σ H):FOR (ItD a o kvs) g tb D σ H:=by
 refine⟨fun i m σ H=>m=kvs.length-i/\i<=kvs.length/\Pv i σ H,⟨kvs.length,rfl,wO _,h0⟩,?_⟩;rintro i m σ H ⟨rfl,hi,p⟩;have q:=hl i σ H hi p;by_cases hlt:i<kvs.length
 .refine .inr ⟨⟨q,hlt⟩,Pv (i+1),fun σ' H' p'=>⟨kvs.length-(i+1),↑∅,rfl,hlt,p'⟩,fun x H' y=>?_⟩;obtain⟨e,k,v,hk,rfl⟩:=y;subst e;exact hs i k v σ _ hk p
 .have e:i=kvs.length:=Nat.le_antisymm hi (Nat.le_of_not_lt hlt);subst e;exact .inl ⟨⟨q,uG _⟩,hd σ H p⟩
end
def jhq{P:uW}{w:vL}{o:HO}(x:qbq P w H h a o):∃u,h.get? a=some u:=by
 induction o with
 |lst xs=>obtain⟨_,_,_,_,e⟩:=x;exact⟨_,e⟩
 |tup xs=>obtain⟨_,_,_,ob,e,_⟩:=x;exact⟨_,e⟩
 |dK kvs=>obtain⟨_,_,_,_,o,_,_,e,_⟩:=x;exact⟨_,e⟩
 |dT kvs=>obtain⟨_,_,_,_,o,_,_,e,_⟩:=x;exact⟨_,e⟩
 |set S n=>obtain⟨o,_,_,_,e,_⟩:=x;exact⟨_,e⟩
 |ins C dx fs=>obtain⟨_,_,_,e,_⟩:=x;exact⟨_,e⟩
 |own y=>exact x
 |xd fs=>obtain⟨_,⟨_,_,_,e,_⟩,_⟩:=x;exact⟨_,e⟩
 |rng lo hi=>obtain⟨_,_,_,e⟩:=x;exact⟨_,e⟩
 |frz ob u ih=>exact⟨_,x.1⟩
 |tbl ps=>exact⟨_,x⟩
 |met f y=>exact⟨_,x⟩
 |ext φ=>exact x.2.1
def Inv.laidN{X:Cx}{pins:List (Addr×Obj)}{σ:L2.St}{H:Hp}{s:uC}{h':vQ}{a:Addr}{o:HO}{t':Nat}(I:Inv X pins σ H s)(k:∀b u,s.heap.get? b=some u->h'.get? b=some u)(hg:s.heap.get? a=none)(new:qbq X.prog X.w (upd H a o) h' a o):
  H a=none/\Inv X pins σ (upd H a o) {s with heap:=h',toks:=t'}:=by
 have hn:H a=none:=by
  cases q:H a with
  |none=>rfl
  |some u=>obtain⟨v,e⟩:=jhq (I.hok a u q);rw[hg] at e;cases e
 refine⟨hn,I.un ⟨fun b u q _ _ _=>k b u q,fun b u q _ _ _=>⟨u.slots,k b u q⟩,fun b u q n _=>by rw[qa4 (fun z=>by subst z;rw[hg] at q;cases q)];exact n,fun b u q _=>⟨u,k b u q⟩,fun b xs q=>by rw[qa4 (qa9 q hn)];exact q,
  fun b u xs q=>by rw[qa4 (qa9 q hn)];exact q,fun b ps q=>⟨#[],by rw[qa4 (qa9 q hn),q];simp⟩⟩ fun b u e=>?_⟩
 by_cases hb:b=a
 .subst hb;rw[qa1] at e;cases e;exact new
 .rw[qa4 hb] at e;exact(I.hok b u e).stay (fun c v _ q=>k c v q) (fun c q=>by rw[qa4 (qa9 q hn)];exact q) fun c xs q=>by rw[qa4 (qa9 q hn)];exact q
section
variable{X:Cx}
def jhr:List V->Hp->VK->Prop:=fun xs H Q=>∃p kvs,xs=[.ref p]/\Rd H p (.dK kvs)/\∀q,H q=none->Q (.ref q) (upd H q (.dK kvs))
def qcl:qcr X (.type "dict") jhr:=by
 intro pins s σ H xs us Q I hv h;obtain⟨p,kvs,rfl,e,q⟩:=h;obtain⟨u,rfl,ru⟩:=hv.one
 cases ru
 exact jjy I e fun l s' hl I'=>⟨.ref l,_,I',rfl,q l hl⟩
theorem qgj:∀{ss:List Str} {us:List uB},qbk (ss.map V.str) us->gB us ss
 | [],_,r=>by cases r;exact .nil
 |x::ss,_,r=>by
  cases r with
  |cons h t=>obtain⟨k,rfl⟩:=h;exact .cons x k (qgj t)
theorem qfa:∀{us:List uB} {ss:List Str},gB us ss->qbk (ss.map V.str) us
 |_,_,.nil=> .nil
 |_,_,.cons x t h=> .cons ⟨t,rfl⟩ (qfa h)
def jlt(K:uT):List V->Hp->VK->Prop:=fun xs H Q=>∃p ss,xs=[.ref p]/\SqL K H p (ss.map V.str)/\ss.length<64/\∀l ss',H l=none->ss'.Perm ss->sortedS ss'=true->Q (.ref l) (upd H l (.lst (ss'.map V.str)))
def qgb:qcr X (.builtin "sorted") (jlt X.K):=by
 intro pins s σ H xs us Q I hv h;obtain⟨p,ss,rfl,hS,hz,q⟩:=h;obtain⟨u,rfl,ru⟩:=hv.one
 cases ru
 obtain⟨its,rv,pl,hz'⟩:=I.list hS;have hlen:=rv.length;rw[zA] at hlen;refine sorted_strs (vs:=its) (PlainL.isList pl) (qgj rv) ↑∅ fun out ss' a1 a2 a3=>?_;obtain⟨e,he⟩:=sortedAll_at s.heap its out;have hl2:=a2.length_eq;have I2:=I.laid (a:=↑s+1) (o:=.lst (ss'.map V.str)) (t':=s.toks) (fun b ob hb=>sortedAll_old hb) (xK _) ⟨by rw[zA,xC];omega,out.toList,e,qfa a1,by simpa[seqObj] using he⟩;exact⟨.ref _,_,I2,rfl,q _ ss' (I.hok.fresh (xK _)) a2 a3⟩
def jlu:List V->Hp->VK->Prop:=fun xs H Q=>∃p kvs ss,xs=[.ref p]/\Rd H p (.dK kvs)/\kvs.map (·.1)=ss.map uH/\ss.length<64/\∀l ss',H l=none->ss'.Perm ss->sortedS ss'=true->Q (.ref l) (upd H l (.lst (ss'.map V.str)))
def jhs{ss:List Str}{us:List uB}(hl:us.length=ss.length)(h:∀(j:Nat)(u:uB),us[j]?=some u->∃x,ss[j]?=some x/\jcm (.inr x) u=true):gB us ss:=by
 induction us generalizing ss with
 |nil=>cases ss with
  |nil=>exact .nil
  |cons _ _=>simp at hl
 |cons u us ih=>cases ss with
  |nil=>simp at hl
  |cons x ss=>
   obtain⟨y,hy,hk⟩:=h 0 u rfl;simp only[List.getElem?_cons_zero,Option.some.injEq] at hy;subst hy;rcases qbb hk with⟨i,t,e,_⟩|⟨z,t,e,rfl⟩
   .cases e
   .cases e
    exact .cons x t (ih (by simpa using hl) fun j v hv=>by have:=h (j+1) v (by simpa using hv);simpa using this)
def qck(hc:X.calm=true):qcr X (.builtin "sorted") jlu:=by
 intro pins s σ H xs us Q I hv h;obtain⟨p,kvs,ss,rfl,hR,hk,hz,q⟩:=h;obtain⟨u,rfl,ru⟩:=hv.one
 cases ru
 obtain⟨o,es,ep,vs,ho,hd,rel,dat,hs⟩:=jhp (hR.ok I.hok);have hlen:=rel.length;have hks:=rel.keys;have hl2:kvs.length=ss.length:=by have:=congrArg wJ hk;simpa using this
 refine Calls.call_function_entry kind_sorted plain_sorted entry_sorted (args_sorted1 _) ?_;unfold aN.«sorted»;refine uE (m:=checkCount "sorted" 1 1 _) (vC ?_);refine uE (PySem.W.kdu_collect (A:=X.A.in1) (PySem.W.kdl_dict (knd:=qbc X.prog X.w) (kvs:=vs) (ep:=ep) hs) (I.ok.hd hc) dat (by rw[xC];omega) fun h' tk acc hkeep hacc=>?_);have hal:acc.toList.length=vs.length:=by rw[bU];exact hacc.1
 refine uE (wpAny_newList ?_ (by rw[hal,xC];omega));have hS:gB acc.toList ss:=by
  refine jhs ↑∅ fun j v hv=>?_;obtain⟨k,x,hx,hkv⟩:=hacc.2 j v (by rw[<-bJ];exact hv);have e1:(vs.map (·.1))[j]?=some k:=by rw[zC,hx];rfl
  rw[<-hks,hk,zC] at e1;obtain⟨z,hz1,rfl⟩:=uK.mp e1;exact⟨z,hz1,hkv⟩
 have hoL:(h'.push {cls:=.type "list",data:=.seq acc.toList.toArray}).get? h'.objs.size=some (seqObj "list" acc.toList.toArray 0):=vE _ rfl;refine uE (wP (gO slot_list_sort ⟨_,hoL,rfl⟩ entry_list_sort (list_sort_treeK strKind_oneLt hoL hS.keysOf (fun v₁ v₂ rest e=>keyKind_strs (by rw[<-e];exact hS)) ↑∅ fun st' a1 a2=>⟨_,rfl,?_⟩) (args_list_sort _)));obtain⟨ss',b1,b2,b3⟩:=sorted_out_str hS a1 a2;obtain⟨e,he⟩:=sortedHeap_at (out:=(arrOf st').map (·.2)) hoL;have hl3:=b2.length_eq;have hg:s.heap.get? h'.objs.size=none:=by
  cases q:s.heap.get? h'.objs.size with
  |none=>rfl
  |some ob=>exact absurd (uO (hkeep _ _ q)) (wM _)
 obtain⟨hn,I2⟩:=Inv.laidN I (h':=sortedHeap (h'.push {cls:=.type "list",data:=.seq acc.toList.toArray}) h'.objs.size acc.toList ((arrOf st').map (·.2))) (a:=h'.objs.size) (o:=.lst (ss'.map V.str)) (t':=tk) (fun b ob hb=>by
  have hb':=hkeep b ob hb;rw[sortedHeap_old (vD (uO hb')) (by rw[size_push'];exact gC (uO hb'))];exact uD _ hb') hg ⟨by rw[zA,xC];omega,((arrOf st').map (·.2)).toList,e,qfa b1,by rw[Array.toArray_toList];exact he⟩
 exact vC ⟨_,rfl,.ref _,_,I2,rfl,q _ ss' hn b2 b3⟩
end
section
variable{K:uT}{H:Hp}{Q:VK}{p:Addr}{kvs:List (Key×V)}{ss:List Str}
def jj3(e:Rd H p (.dK kvs))(h:∀q,H q=none->Q (.ref q) (upd H q (.dK kvs))):jhr [.ref p] H Q:=⟨p,kvs,rfl,e,h⟩
def jty{B:Prop}(h:H p=some (.dK kvs))(q:B):tyV K "dict" (.ref p) H/\B:=⟨.inr (.inr (.inl ⟨rfl,.inl ⟨_,h⟩⟩)),q⟩
def jht(e:SqL K H p (ss.map V.str))(hz:ss.length<64)(h:∀l ss',H l=none->ss'.Perm ss->sortedS ss'=true->Q (.ref l) (upd H l (.lst (ss'.map V.str)))):jlt K [.ref p] H Q:=⟨p,ss,rfl,e,hz,h⟩
def qep(e:Rd H p (.dK kvs))(hk:kvs.map (·.1)=ss.map uH)(hz:ss.length<64)(h:∀l ss',H l=none->ss'.Perm ss->sortedS ss'=true->Q (.ref l) (upd H l (.lst (ss'.map V.str)))):jlu [.ref p] H Q:=⟨p,kvs,ss,rfl,e,hk,hz,h⟩
end
structure AD(kvs:List (Key×V))(f:Str->Option Int):Prop where
 nd:(kvs.map (·.1)).Nodup
 sh:∀p∈kvs,∃z i,p=(uH z,V.int i)
 get:∀z,qci kvs (uH z)=(f z).map V.int
def noF:Str->Option Int:=fun _=>none
def jd6(f:Str->Option Int)(z:Str)(i:Int):Str->Option Int:=fun y=>if y=z then some i else f y
def AD.nil:AD [] noF:=⟨yG,fun p hp=>absurd hp (by simp),fun z=>rfl⟩
def AD.cast(h:AD kvs f)(e:∀z,f z=g z):AD kvs g:=⟨h.nd,h.sh,fun z=>by rw[h.get,e]⟩
def qea{k:Key}(h:qci kvs k≠none):(qbl kvs k v).map (·.1)=kvs.map (·.1):=by
 unfold qbl;have e:(kvs.any fun kv=>decide (kv.1=k))=true:=by rw[qcs];cases q:qci kvs k with
  |none=>exact absurd q h
  |some _=>rfl
 rw[gU e,yP];apply bV;intro p _;show(if p.1=k then(p.1,v) else p).1=p.1
 split<;>rfl
def jfg{k:Key}{p:Key×V}(h:p∈qbl kvs k v):p=(k,v)\/p∈kvs:=by
 unfold qbl at h
 split at h
 .obtain⟨q,hq,e⟩:=zH.mp h
  split at e
  .rename_i ek;subst ek;exact .inl e.symm
  .subst e;exact .inr hq
 .rcases zM.mp h with h|h
  .exact .inr h
  .exact .inl (by simpa using h)
def AD.put(h:AD kvs f)(z:Str)(i:Int):AD (qbl kvs (uH z) (.int i)) (jd6 f z i):=by
 refine⟨?_,fun p hp=>?_,fun y=>?_⟩
 .cases q:qci kvs (uH z) with
  |none=>exact jd5 _ h.nd q
  |some v=>rw[qea (by rw[q];simp)];exact h.nd
 .rcases jfg hp with rfl|hp
  .exact⟨z,i,rfl⟩
  .exact h.sh p hp
 .rw[qf0];unfold jd6;by_cases e:y=z
  .subst e;rw[gU rfl,gU rfl];rfl
  .rw[gT (fun q=>e (yY q)),gT e];exact h.get y
def AD.flat(h:AD kvs f):∀p∈kvs,qd4 p.2=true:=fun p hp=>by
 obtain⟨z,i,rfl⟩:=h.sh p hp;rfl
def qfb(nd:(kvs.map (·.1)).Nodup){k:Key}{v:V}(h:(k,v)∈kvs):qci kvs k=some v:=by
 induction kvs with
 |nil=>simp at h
 |cons p r ih=>
  rw[zU,zT] at nd;rcases zO.mp h with rfl|h
  .exact qc1 rfl
  .have ne:¬p.1=k:=fun e=>nd.1 (e▸zH.mpr ⟨(k,v),h,rfl⟩);rw[qc2 ne];exact ih nd.2 h
def AD.mem(h:AD kvs f){k:Key}{v:V}(hm:(k,v)∈kvs):∃z n,k=uH z/\v=.int n/\f z=some n:=by
 obtain⟨z,n,e⟩:=h.sh _ hm
 cases e
 have q:=qfb h.nd hm;rw[h.get] at q
 cases hf:f z with
 |none=>rw[hf] at q;cases q
 |some m=>rw[hf] at q;cases q;exact⟨z,_,rfl,rfl,hf⟩
def qbx(kvs:List (Key×V)):List Str:=kvs.filterMap fun p=>match p.1 with| .inr z=>some z| .inl _=>none
def AD.keys(h:AD kvs f):kvs.map (·.1)=(qbx kvs).map uH:=by
 have sh:=h.sh;clear h
 induction kvs with
 |nil=>rfl
 |cons p r ih=>
  obtain⟨z,i,rfl⟩:=sh p (zF ..);show uH z::r.map (·.1)=(z::qbx r).map uH;rw[zU,ih fun q hq=>sh q (zD _ hq)]
def AD.klen(h:AD kvs f):(qbx kvs).length=kvs.length:=by
 have:=congrArg wJ h.keys;simpa using this.symm
def AD.knd(h:AD kvs f):(qbx kvs).Nodup:=by
 have nd:=h.nd;rw[h.keys] at nd;exact List.Pairwise.imp (fun ne e=>ne (congrArg uH e)) (bG.mp nd)
def AD.kin(h:AD kvs f)(z:Str):z∈qbx kvs↔f z≠none:=by
 constructor
 .intro hz;have hm:(uH z:Key)∈kvs.map (·.1):=by rw[h.keys];exact zH.mpr ⟨z,hz,rfl⟩
  obtain⟨⟨k,v⟩,hp,e⟩:=zH.mp hm;dsimp only at e;subst e;obtain⟨z',n,e1,_,hf⟩:=h.mem hp
  cases e1
  rw[hf];simp
 .intro hf
  cases q:f z with
  |none=>exact absurd q hf
  |some n=>
   have hv:=h.get z;rw[q] at hv;have hm:=jm6 hv;rw[h.keys] at hm;obtain⟨y,hy,e⟩:=zH.mp hm
   cases e
   exact hy
theorem jhu:∀{l m:List Str},l.Nodup->(∀a∈l,a∈m)->l.length<=m.length
 | [],_,_,_=>wO _
 |a::l,m,nd,h=>by
  have ha:=h a (zF ..);rw[zT] at nd;have q:=jhu (l:=l) (m:=m.erase a) nd.2 fun b hb=>(List.mem_erase_of_ne (fun(e:b=a)=>nd.1 (by rw[<-e];exact hb))).mpr (h b (zD _ hb));rw[List.length_erase_of_mem ha] at q;have:0<m.length:=List.length_pos_of_mem ha;simp only[zR];omega
def AD.le(h:AD kvs f){ws:List Str}(hs:∀z,f z≠none->z∈ws):kvs.length<=ws.length:=by
 rw[<-h.klen];exact jhu h.knd fun z hz=>hs z ((h.kin z).mp hz)
def AD.eq{ka kb:List (Key×V)}(h:AD ka f)(h':AD kb f):(ka.length==kb.length && ka.all fun p=>(qci kb p.1).elim false (eqV p.2))=true:=by
 rw[vZ,beq_iff_eq,yA];constructor
 .have l1:=jhu h.knd fun z hz=>(h'.kin z).mpr ((h.kin z).mp hz);have l2:=jhu h'.knd fun z hz=>(h.kin z).mpr ((h'.kin z).mp hz);rw[h.klen,h'.klen] at l1;rw[h.klen,h'.klen] at l2;omega
 .rintro⟨k,v⟩ hp;obtain⟨z,n,rfl,rfl,hf⟩:=h.mem hp;show((qci kb (uH z)).elim false (eqV (.int n)))=true;rw[h'.get,hf];show(n==n)=true;simp
theorem AD.at(h:AD kvs f){i:Nat}{k:Key}{v:V}(e:kvs[i]?=some (k,v)):∃z n,k=uH z/\v=.int n/\f z=some n/\(qbx kvs)[i]?=some z:=by
 obtain⟨z,n,rfl,rfl,hf⟩:=h.mem (zG e);refine⟨z,n,rfl,rfl,hf,?_⟩;have q:(kvs.map (·.1))[i]?=some (uH z):=by rw[zC,e];rfl
 rw[h.keys,zC] at q;obtain⟨y,hy,e⟩:=uK.mp q
 cases e
 exact hy
def leS(a b:Str):Prop:=ltCps b.cps.toList a.cps.toList=false
def qdl{a:Str} :leS a b↔a.cps.toList<=b.cps.toList:=by
 unfold leS;rw[ltCps_eq,decide_eq_false_iff_not];exact List.not_lt
def jj4(a:Str):leS a a:=qdl.mpr (List.le_refl _)
def jc8{a c:Str}(h:leS a b)(h':leS b c):leS a c:=qdl.mpr (List.le_trans (qdl.mp h) (qdl.mp h'))
def jj5{a:Str}(h:leS a b)(h':leS b a):a=b:=by
 have e:=List.le_antisymm (qdl.mp h) (qdl.mp h');obtain⟨⟨x⟩⟩:=a;obtain⟨⟨y⟩⟩:=b;have e':x=y:=e;subst e';rfl
theorem jc9:∀{p:Str} {l:List Str},risingS p l=true->(p::l).Pairwise leS
 |p,[],_=>List.pairwise_singleton _ _
 |p,x::r,h=>by
  have h':(!ltCps x.cps.toList p.cps.toList && risingS x r)=true:=h;rw[vZ,cJ] at h';have q:=jc9 h'.2;refine fJ.mpr ⟨fun y hy=>?_,q⟩;rcases zO.mp hy with rfl|hy
  .exact h'.1
  .exact jc8 h'.1 (aI q hy)
def qfd:∀{l:List Str},sortedS l=true->l.Pairwise leS
 | [],_=>fW
 |x::r,h=>jc9 h
def gN(f:Str->Option Int)(z:Str):Int:=(f z).getD 0
def qgy(f g:Str->Option Int):Str->Option Int:=fun y=>match g y with|none=>f y|some b=>some (gN f y+b)
def qdh(f:Str->Option Int):Str->Option Int:=fun y=>match f y with|none=>none|some a=>if 0<a then some a else none
def jqu(h:AD kvs f)(z:Str):(qci kvs (uH z)).getD (.int 0)=.int (gN f z):=by
 rw[h.get];unfold gN
 cases f z<;>rfl
def qar(h:l[i]?=some z)(y:Str):y∈l.take (i+1)↔y∈l.take i\/y=z:=by
 rw[zN,h,zM];simp
def qf7(nd:l.Nodup){i:Nat}{z:Str}(h:l[i]?=some z):z∉l.take i:=fun hm=>by
 obtain⟨j,hj,e⟩:=zS.mp hm;have hj':j<i:=by rw[zW] at hj;omega
 have hjl:j<l.length:=by rw[zW] at hj;omega
 rw[gD] at e;obtain⟨hi,e2⟩:=uF.mp h;exact absurd ((gK nd).mp (e.trans e2.symm)) ↑∅
section
variable{σ:L2.St}{H H':Hp}{Q:VK}{D:jca}{td ty tx tv:TE}{a b p:Addr}{kvs kb:List (Key×V)}{f:Str->Option Int}{z:Str}{n:Int}{v:V}{o:Obj}
def rDG(a:Addr)(y z:V)(H:Hp)(Q:VK):Prop:=∃o,jf8 H a y o/\Q (o.getD z) H
def jvj(ty tx:TE)(σ:L2.St)(Q:VK)(x:V)(H:Hp):Prop:=∃a,x=.ref a/\IsD H a/\ty σ H fun y H2=>tx σ H2 fun z H3=>rDG a y z H3 Q
def jtz(h:td σ H fun x H1=>jvj ty tx σ Q x H1):jlo td ty tx σ H Q:=h
def jqv(d:Rd H a (.dK kvs))(h:ty σ H fun y H2=>tx σ H2 fun z H3=>rDG a y z H3 Q):jvj ty tx σ Q (.ref a) H:=⟨a,rfl,.inl ⟨kvs,d⟩,h⟩
def jqw(d:Rd H a (.dK kvs))(A:AD kvs f)(h:Q (.int (gN f z)) H):rDG a (.str z) (.int 0) H Q:=by
 refine⟨qci kvs (uH z),.inl ⟨kvs,uH z,d,rfl,rfl⟩,?_⟩;rw[jqu A];exact h
def jsi(x y:V)(H:Hp)(Q:VK):Prop:=∃a v,x=.ref a/\jf8 H a y (some v)/\Q v H
def jwf(h:td σ H fun x H1=>ty σ H1 fun y H2=>jsi x y H2 Q):jp6 td ty σ H Q:=h
def jt0(d:Rd H a (.dK kvs))(A:AD kvs f)(e:f z=some n)(h:Q (.int n) H):jsi (.ref a) (.str z) H Q:=
 ⟨a,.int n,rfl,.inl ⟨kvs,uH z,d,rfl,by rw[A.get,e];rfl⟩,h⟩
def rDP(x y v:V)(H:Hp)(D:jca)(σ:L2.St):Prop:=∃a H4,x=.ref a/\jox H a y v H4/\D.nx σ H4
def jwg(h:tv σ H fun v H1=>td σ H1 fun x H2=>ty σ H2 fun y H3=>rDP x y v H3 D σ):jp7 td ty tv D σ H:=h
def jqx(e:H a=some (.dK kvs))(hz:kvs.length<sizeLine)(h:D.nx σ (upd H a (.dK (qbl kvs (uH z) v)))):rDP (.ref a) (.str z) v H D σ:=⟨a,_,rfl,jox.k (k:=uH z) e hz,h⟩
def rDI(x y:V)(H:Hp)(Q:VK):Prop:=∃a o,x=.ref a/\jf8 H a y o/\Q (.bl o.isSome) H
def jwh(h:ty σ H fun y H1=>td σ H1 fun x H2=>rDI x y H2 Q):jvb ty td σ H Q:=h
def jt1(d:Rd H a (.dK kvs))(A:AD kvs f)(h:Q (.bl (f z).isSome) H):rDI (.ref a) (.str z) H Q:=by
 refine⟨a,qci kvs (uH z),rfl,.inl ⟨kvs,uH z,d,rfl,rfl⟩,?_⟩;rw[A.get,bD];exact h
def jqy(h:∀p,H p=none->Q (.ref p) (upd H p (.dK []))):jln σ H Q:=h
def qcg(e:H a=some (.dK kvs)):jho H a:=fun o u z=>by rw[e] at z;cases z
def jda(d:Rd H a (.dK kvs))(n:H p=none){u:HO}:Rd (upd H p u) a (.dK kvs):=by
 rcases d with d|⟨o,d⟩
 .exact .inl (qaa d n)
 .exact .inr ⟨o,qaa d n⟩
def jt2(d:Rd H b (.dK kb))(ea:H a=some (.dK kvs))(sb:SameBut a H H')(fz:H' a=some (.frz o (.dK kvs))):Rd H' b (.dK kb):=by
 by_cases e:b=a
 .subst e;rcases d with d|⟨o',d⟩
  .rw[ea] at d;cases d;exact .inr ⟨o,fz⟩
  .rw[ea] at d;cases d
 .rcases d with d|⟨o',d⟩
  .exact .inl (sb _ _ e d)
  .exact .inr ⟨o',sb _ _ e d⟩
def qde(e:H a=some (.dK kvs))(sb:SameBut a H H'):jab H (upd H' a (.dK kvs)):=fun b u q=>by
 by_cases h:b=a
 .subst h;rw[qa1];rw[e] at q;exact q
 .rw[qa4 h];exact sb b u h q
def jhv(e:H a=some (.dK kvs)):SameBut a H (upd H a (.frz o (.dK kvs))):=fun b u h q=>by rw[qa4 h];exact q
def jhw{l:Addr}{u:HO}(sb:SameBut a H H')(n:H l=none):SameBut a H (upd H' l u):=fun b w h q=>by
 rw[qa4 (qa9 q n)];exact sb b w h q
def qb5{l:Addr}{u:HO}(s:jab H H')(n:H l=none):jab H (upd H' l u):=fun b w q=>by rw[qa4 (qa9 q n)];exact s b w q
end
def viol(f g:Str->Option Int)(y:Str):Prop:=f y≠none/\gN g y<gN f y
def jfh{ws:List Str}(hf:∀z,f z≠none->z∈ws)(hg:∀z,g z≠none->z∈ws)(z:Str)(h:qgy f g z≠none):z∈ws:=by
 unfold qgy at h
 cases e:g z with
 |none=>rw[e] at h;exact hf z h
 |some b=>exact hg z (by rw[e];simp)
def jfi(h:l[i]?=some z)(F G:Str->Option Int){v:Int}(hv:F z=some v)(y:Str):jd6 (fun y=>if y∈l.take i then F y else G y) z v y=if y∈l.take (i+1) then F y else G y:=by
 unfold jd6;by_cases e:y=z
 .subst e;rw[gU rfl,gU ((qar h y).mpr (.inr rfl)),hv]
 .rw[gT e];by_cases e2:y∈l.take i
  .rw[gU ((qar h y).mpr (.inl e2))];exact gU e2
  .rw[gT (fun q=>((qar h y).mp q).elim e2 e)];exact gT e2
def jnf(h:l[i]?=some z)(F G:Str->Option Int)(hv:F z=G z)(y:Str):(if y∈l.take i then F y else G y)=if y∈l.take (i+1) then F y else G y:=by
 by_cases e2:y∈l.take i
 .rw[gU e2,gU ((qar h y).mpr (.inl e2))]
 .rw[gT e2];by_cases e:y=z
  .subst e;rw[gU ((qar h y).mpr (.inr rfl)),hv]
  .rw[gT (fun q=>((qar h y).mp q).elim e2 e)]
def jfj(hB:AD kvs g)(F G:Str->Option Int)(hn:∀y,g y=none->F y=G y)(y:Str):(if y∈(qbx kvs).take kvs.length then F y else G y)=F y:=by
 rw[<-hB.klen,zJ];by_cases e:y∈qbx kvs
 .rw[gU e]
 .rw[gT e];refine(hn y ?_).symm
  cases hf:g y with
  |none=>rfl
  |some n=>exact absurd ((hB.kin y).mpr (by rw[hf];simp)) e
section
variable{X:Cx}
def jhx{elt iter:vV}{x y:Str}{px py:Pos}{ifs:List vV}{scope:wY}{cl:List (Str×Addr)}{pos spos:Pos}{caps:List Nat}{cn:List Str}{wi:TI}{tt:CT TT}{te:CT TE}{j:Nat}(Cp:jow X x scope cl caps cn)(hc:X.calm=true)
  (hN:X.N.Nodup)(hy:X.N[j]?=some y)(hly:X.env.scope.names.lookup y=some .local)
  (hi:PI X (.Name x px) iter wi)(ht:∀C s H fp,jov (cxC X (x::cn) scope cl C s H fp) ifs (tt C s H fp))(he:∀C s H fp,PE (cxC X (x::cn) scope cl C s H fp) elt (te C s H fp))
  (hsw:dZ (.ListComp elt [⟨.Name x px,iter,ifs,0⟩] scope pos) (some (.Name y py)) spos.line X.env=pure true:=by rfl)(hs:∀x,cH iter X.env x=pure x:=by intro _;rfl):
  PS X (.Assign [.Name y py] (.ListComp elt [⟨.Name x px,iter,ifs,0⟩] scope pos) spos) (jpd (jhb wi caps tt te) (qek j)):=by
 intro pins s σ H D I h
 replace h:jhb wi caps tt te σ H (fun v H1=>D.nx (σ.set j (some v)) H1):=h
 rw[exec_Assign_Name_used _ _ _ _ hsw];refine uE (xM (uE ?_));show uV _ X.A (do let _<-comprehension (.ListComp elt [⟨.Name x px,iter,ifs,0⟩] scope pos) scope X.env _ (newList []) false (wK iter X.env) (some (gL (.Name y py) X.env))) _ _ s;refine uE (vS (cP (use:=some (gL (.Name y py) X.env)) (Q:=fun _ s'=>SP X pins D .next s') rfl hs Cp.clos Cp.kind Cp.names
  (thn (hi pins s σ H _ I h) fun v s1 h1=>thn h1 fun itv s2 h2=>qgv Cp hc ht h2 (fun acc s3 H3 fp I3 f3 pn s9 τ H9 R I9 q9=>vS (he _ _ _ _ pn s9 τ H9 R I9 q9) (fun _ _ q=>q) fun _ _ q=>q.elim) fun acc s3 H3 fp I3 f3 τ H5 s6 v I6 qn=>?_)) (fun _ s' hq=>vC (vC hq)) fun _ _ e=>e)
 obtain⟨m,hm,_⟩:=id I6.loc;have J0:Inv X pins σ H5 s6:=Inv.uncomp I3 f3 rfl I6 (h':=s6.heap) ⟨rfl,fun _ _=>rfl⟩;have fC:jcl X pins H5 ↑s3:=I3.fpOk (uG _) I6.free;show uV _ X.A (gL (.Name y py) X.env (.ref acc)) _ _ s6;refine fQ (jcn (X:=X) (v:=.ref acc) J0 hN hy (.inl hly) rfl (fun s7 I7 ⟨a,sb,ha⟩=>?_) (.inr hly));have nC:↑s3≠a:=by
  rcases ha with rfl|ha
  .exact fC.2.1
  .exact(fC.2.2.2.2.1 y a ha).symm
 refine⟨m,hm.sameBut sb nC,fun h' sb'=>⟨_,H5,?_,qn⟩⟩;exact I7.turned (t':=s7.toks) (fun b o hb e=>(sb'.2 b hb).trans e) fC.1 fC.2.1 fC.2.2.2.1 fC.2.2.2.2.1 fC.2.2.2.2.2
end
section
variable{X:Cx}{pins:List (Addr×Obj)}{σ:L2.St}{H:Hp}{s:uC}{h':vQ}
def Inv.turnedL{t':Nat}{ch:List Addr}(I:Inv X pins σ H s)(hf:∀b∈ch,jcl X pins H b)(k:∀b o,b∉ch->s.heap.get? b=some o->h'.get? b=some o):Inv X pins σ H {s with heap:=h',toks:=t'}:=by
 have nit:∀b u,H b=some u->b∉ch:=fun b u e z=>by rw[(hf b z).1] at e;cases e
 refine I.step (g':=s.gens) (d':=s.drawn) (ch:=ch) (fun b hb=>⟨(hf b hb).2.2.2.1,(hf b hb).2.1,(hf b hb).2.2.2.2.1,(hf b hb).2.2.2.2.2⟩) (fun b o _ _ hc e _=>k b o hc e) (fun b o _ _ hc e _=>⟨o.slots,k b o hc e⟩) (fun _ _ _ _ n=>n)
  (fun b o hc e=>⟨o,k b o hc e⟩) (fun _ _ e=>e) (fun _ _ _ e=>e) (fun b ps e=>⟨#[],by rw[e];simp⟩) (fun m hm=>?_) (fun b u e=>?_) I.bare
 .obtain⟨o,es,ep,ho,r⟩:=hm;exact⟨o,es,ep,k _ o (fun z=>(hf _ z).2.1 rfl) ho,r⟩
 .refine(I.hok b u e).stay (fun c v hc q=>k c v ?_ q) (fun _ q=>q) fun _ _ q=>q;rcases hc with rfl|hc
  .exact nit _ _ e
  .exact nit _ _ hc
def Inv.turnedT{t':Nat}{ch:List Addr}{T:Addr}{ob:HO}(I:Inv X pins σ H s)(hf:∀b∈ch,jcl X pins H b)(k:∀b o,b∉ch->s.heap.get? b=some o->h'.get? b=some o)(hT:s.heap.get? T=none)(hn:H T=none)(new:qbq X.prog X.w (upd H T ob) h' T ob):
  Inv X pins σ (upd H T ob) {s with heap:=h',toks:=t'}:=by
 have nit:∀b u,H b=some u->b∉ch:=fun b u e z=>by rw[(hf b z).1] at e;cases e
 refine I.step (g':=s.gens) (d':=s.drawn) (ch:=ch) (fun b hb=>⟨(hf b hb).2.2.2.1,(hf b hb).2.1,(hf b hb).2.2.2.2.1,(hf b hb).2.2.2.2.2⟩) (fun b o _ _ hc e _=>k b o hc e) (fun b o _ _ hc e _=>⟨o.slots,k b o hc e⟩)
  (fun b o _ e n=>by rw[qa4 (fun z=>by subst z;rw[hT] at e;cases e)];exact n)
  (fun b o hc e=>⟨o,k b o hc e⟩) (fun b xs e=>by rw[qa4 (qa9 e hn)];exact e) (fun b o u e=>by rw[qa4 (qa9 e hn)];exact e) (fun b ps e=>⟨#[],by rw[qa4 (qa9 e hn),e];simp⟩) (fun m hm=>?_) (fun b u e=>?_) I.bare
 .obtain⟨o,es,ep,ho,r⟩:=hm;exact⟨o,es,ep,k _ o (fun z=>(hf _ z).2.1 rfl) ho,r⟩
 .by_cases hb:b=T
  .subst hb;rw[qa1] at e;cases e;exact new
  .rw[qa4 hb] at e;refine(I.hok b u e).stay (fun c v hc q=>k c v ?_ q) (fun c q=>by rw[qa4 (qa9 q hn)];exact q) fun c xs q=>by rw[qa4 (qa9 q hn)];exact q
   rcases hc with rfl|hc
   .exact nit _ _ e
   .exact nit _ _ hc
end
def ItZ(K:uT)(l1 l2:Addr)(xs ys:List V):It:=
 ⟨fun i H=>SqL K H l1 xs/\SqL K H l2 ys/\i<xs.length/\i<ys.length,fun i H v H'=>∃T x y,H T=none/\xs[i]?=some x/\ys[i]?=some y/\v=.ref T/\H'=upd H T (.tup [x,y]),fun i H=>SqL K H l1 xs/\SqL K H l2 ys/\(xs.length<=i\/ys.length<=i)⟩
def ZSt(z TI TO i1 i2 l1 l2:Addr)(i:Nat)(h:vQ):Prop:=IsZip h z TI TO .none/\IsPair h TI (.ref i1) (.ref i2)/\(∃a b,IsPair h TO a b)/\h.IsListIter i1 l1 i/\h.IsListIter i2 l2 i
def jj6{P:uW}{w:vL}{K:uT}{elts:List vV}{kk:Nat}{tp:Pos}{z TI TO i1 i2 l1 l2:Addr}(D:ZipApart z TI TO i1 i2 l1 l2)(xs ys:List V):
  jou P w K (.Tuple elts kk tp) (ItZ K l1 l2 xs ys) [z,TI,TO,i1,i2] z (ZSt z TI TO i1 i2 l1 l2) where
 mem:=by simp
 obj:=fun i h st b hb=>by
  obtain⟨hz,hTI,⟨a,c,hTO⟩,⟨o1,e1,_,d1⟩,o2,e2,_,d2⟩:=st;simp only[zO,yE,or_false] at hb;rcases hb with rfl|rfl|rfl|rfl|rfl
  .exact⟨_,hz,fun v q=>by have q':Data.fields _=Data.cell v:=q;cases q'⟩
  .exact⟨_,hTI,fun v q=>by have q':Data.seq _ _=Data.cell v:=q;cases q'⟩
  .exact⟨_,hTO,fun v q=>by have q':Data.seq _ _=Data.cell v:=q;cases q'⟩
  .exact⟨o1,e1,fun v q=>by rw[d1] at q;cases q⟩
  .exact⟨o2,e2,fun v q=>by rw[d2] at q;cases q⟩
 keep:=fun i h h' st k=>by
  obtain⟨hz,hTI,⟨a,c,hTO⟩,h1,h2⟩:=st;exact⟨k z (by simp) _ hz,k TI (by simp) _ hTI,⟨a,c,k TO (by simp) _ hTO⟩,h1.at fun o e=>k i1 (by simp) o e,h2.at fun o e=>k i2 (by simp) o e⟩
 item:=by
  intro X hP hw hK hc i pins s σ H E I hf st hg;subst hP hw hK;obtain⟨hz,hTI,⟨a,c,hTO⟩,h1,h2⟩:=st;obtain⟨q1,q2,g1,g2⟩:=hg;obtain⟨us,r1,p1,_⟩:=I.list q1;obtain⟨ws,r2,p2,_⟩:=I.list q2;obtain⟨u1,hu1,ru1⟩:=r1.get (zB g1);obtain⟨u2,hu2,ru2⟩:=r2.get (zB g2);refine wpAny_pyNext_zip_item D hz hTI hTO h1 h2 (PlainL.isList p1) (PlainL.isList p2) (x:=u1) (y:=u2) (by simpa using hu1) (by simpa using hu2) fun h' b1 b2 b3 b4 b5 b6 hk=>?_;have hn:H ↑s=none:=I.hok.fresh (uG _);have lt:∀{b:Addr} {o:Obj},s.heap.get? b=some o->b≠↑s:=fun e=>vD (uO e);have nz:z≠↑s:=lt hz;have hg0:s.heap.get? ↑s=none:=yZ (uG _);have I1:Inv X pins σ (upd H ↑s (.tup [xs[i],ys[i]])) {s with heap:=h'}:=Inv.turnedT (t':=s.toks) (ch:=[z,TO,i1,i2]) I
   (fun b hb=>hf b (by simp only[zO,yE,or_false] at hb⊢;rcases hb with e|e|e|e<;>simp[e]))
   (fun b o hb e=>hk b o (fun q=>hb (by simp[q])) (fun q=>hb (by simp[q])) (fun q=>hb (by simp[q])) (fun q=>hb (by simp[q])) e) hg0 hn
   ⟨by show 2<=16777216;decide,[u1,u2],.cons ru1 (.cons ru2 .nil),⟨_,b5,rfl,_,rfl⟩⟩
  refine⟨.ref ↑s,rfl,wpAny_letOwnedTupleGo_zip (s:={s with heap:=h'}) b1 fun h2' c1 hs2=>?_⟩;have hfz:=hf z (by simp);have I2:Inv X pins σ (upd H ↑s (.tup [xs[i],ys[i]])) {s with heap:=h2'}:=I1.turned (t':=s.toks) (fun b o hb e=>(hs2.2 b hb).trans e) (by rw[qa4 nz];exact hfz.1) hfz.2.1 hfz.2.2.2.1 hfz.2.2.2.2.1 hfz.2.2.2.2.2;refine⟨.ref ↑s,_,I2,rfl,⟨↑s,xs[i],ys[i],hn,zB g1,zB g2,rfl,rfl⟩,
   ⟨c1,hs2.extBut _ _ D.TIz (hk _ _ D.TIz D.TITO D.TIi1 D.TIi2 hTI),⟨_,_,hs2.extBut _ _ D.TOz b2⟩,b3.extBut hs2.extBut D.i1z,b4.extBut hs2.extBut D.i2z⟩,fun b hb=>?_⟩
  have e:b≠↑s:=by
   simp only[zO,yE,or_false] at hb;obtain⟨o1,e1,_⟩:=h1;obtain⟨o2,e2,_⟩:=h2;rcases hb with rfl|rfl|rfl|rfl|rfl
   .exact nz
   .exact lt hTI
   .exact lt hTO
   .exact lt e1
   .exact lt e2
  rw[qa4 e];exact(hf b hb).1
 done:=by
  intro X hP hw hK hc i pins s σ H E I hf st hg;subst hP hw hK;obtain⟨hz,hTI,⟨a,c,hTO⟩,h1,h2⟩:=st;obtain⟨q1,q2,g⟩:=hg;obtain⟨us,r1,p1,_⟩:=I.list q1;obtain⟨ws,r2,p2,_⟩:=I.list q2;have l1:=r1.length;have l2:=r2.length;exact wpAny_pyNext_zip_end (I.ok.hd hc) D hz hTI hTO h1 h2 (PlainL.isList p1) (PlainL.isList p2) (g.elim (fun g=> .inl (by simp;omega)) fun g=> .inr (by simp;omega)) fun h' hk=>
   ⟨rfl,Inv.turnedL (t':=s.toks) (ch:=[z,TO,i1,i2]) I (fun b hb=>hf b (by simp only[zO,yE,or_false] at hb⊢;rcases hb with e|e|e|e<;>simp[e]))
    fun b o hb e=>hk b o (fun q=>hb (by simp[q])) (fun q=>hb (by simp[q])) (fun q=>hb (by simp[q])) (fun q=>hb (by simp[q])) e⟩
 self:=fun _ _ _ _ _ st h=>wpAny_pyIter_zip st.1 h
def jt3(K:uT)(vs:List V)(H:Hp)(R:It->Hp->Prop):Prop:=∃l1 l2 xs ys,vs=[.ref l1,.ref l2]/\SqL K H l1 xs/\SqL K H l2 ys/\R (ItZ K l1 l2 xs ys) H
def jvk(K:uT)(ta:TA):TI:=fun σ H R=>ta σ H fun vs H1=>jt3 K vs H1 R
def jj7:aW "zip"=some (.type "zip"):=by decide+kernel
def jqz{X:Cx}{elts:List vV}{kk:Nat}{tp:Pos}{a b:vV}{ta:TA}{p pos:Pos}(hg:Gl X "zip")(hm:X.mg "zip"=none)(ha:PA X [a,b] ta)(hs:uZ [a,b] X.env=[(false,wK a X.env),(false,wK b X.env)]:=by rfl)(hs2:uZ [b] X.env=[(false,wK b X.env)]:=by rfl):
  PI X (.Tuple elts kk tp) (.Call (.Name "zip" p) [a,b] [] pos) (jvk X.K ta):=by
 intro pins s σ H R I h;refine Call_ (qg9 I hg hm jj7 (yV (thn (ha pos pins s σ H _ I h) fun us s1 ⟨vs,H1,I1,r1,q1⟩=>?_) (by rw[hs,hs2]) (by rw[hs2];rfl)));obtain⟨l1,l2,xs,ys,rfl,g1,g2,q⟩:=q1
 cases r1 with
 |cons r rr=>
  cases rr with
  |cons r' rr=>
   cases rr
   cases r
   cases r'
   obtain⟨us,v1,p1,_⟩:=I1.list g1;obtain⟨ws,v2,p2,_⟩:=I1.list g2;have t1:=PlainL.isList p1;have t2:=PlainL.isList p2;have lt1:l1<↑s1:=by obtain⟨_,e,_⟩:=t1;exact uO e
   have lt2:l2<↑s1:=by obtain⟨_,e,_⟩:=t2;exact uO e
   refine call_zip_2 t1 t2 fun h' hz hTI hTO hi1 hi2 hsz hk=>?_;have I2:Inv X pins σ H1 {s1 with heap:=h'}:=I1.kept (t':=s1.toks) fun b o e=>hk b o e;refine wpAny_pyIter_zip (s:={s1 with heap:=h'}) hz ?_;refine⟨↑s1+4,_,_,_,H1,rfl,I2,jj6 (zipApart_new lt1 lt2) xs ys,⟨hz,hTI,⟨_,_,hTO⟩,hi1,hi2⟩,fun b hb=>?_,q⟩;have le:↑s1<=b:=by
    simp only[zO,yE,or_false] at hb;rcases hb with rfl|rfl|rfl|rfl|rfl<;>omega
   exact I1.fpOk le (I1.hok.fresh le)
section
variable{K:uT}{σ:L2.St}{H:Hp}{D:jca}{g:TG}{tb:TS}{ta:TA}{l1 l2:Addr}{xs ys:List V}
def jwi(h:ta σ H fun vs H1=>jt3 K vs H1 R):jvk K ta σ H R:=h
def jt4(e1:SqL K H l1 xs)(e2:SqL K H l2 ys)(h:R (ItZ K l1 l2 xs ys) H):jt3 K [.ref l1,.ref l2] H R:=⟨l1,l2,xs,ys,rfl,e1,e2,h⟩
def jt5(hxy:xs.length=ys.length)(Pv:Nat->L2.St->Hp->Prop)(h0:Pv 0 σ H)(hl:∀i σ H,Pv i σ H->SqL K H l1 xs/\SqL K H l2 ys)
  (hs:∀i x y T σ H,xs[i]?=some x->ys[i]?=some y->Pv i σ H->H T=none->g (.ref T) σ (upd H T (.tup [x,y])) fun σ2 H2=>tb {nx:=Pv (i+1),rt:=D.rt,bk:=D.nx,ct:=Pv (i+1)} σ2 H2)(hd:∀σ H,Pv xs.length σ H->D.nx σ H):FOR (ItZ K l1 l2 xs ys) g tb D σ H:=by
 refine⟨fun i m σ H=>m=xs.length-i/\i<=xs.length/\Pv i σ H,⟨xs.length,rfl,wO _,h0⟩,?_⟩;rintro i m σ H ⟨rfl,hi,p⟩;obtain⟨q1,q2⟩:=hl i σ H p;by_cases hlt:i<xs.length
 .refine .inr ⟨⟨q1,q2,hlt,↑∅⟩,Pv (i+1),fun σ' H' p'=>⟨xs.length-(i+1),↑∅,rfl,hlt,p'⟩,fun v H' e=>?_⟩;obtain⟨T,x,y,hT,hx,hy,rfl,rfl⟩:=e;exact hs i x y T σ H hx hy p hT
 .have e:i=xs.length:=by omega
  subst e;exact .inl ⟨⟨q1,q2,.inl (uG _)⟩,hd σ H p⟩
end
section
variable{K:uT}{σ:L2.St}{H:Hp}{Q:VK}{D:jca}{ta tv:TE}{t:TA}{a C dx:Addr}{fs:List (Str×V)}{f m:Str}{v y:V}{sp:Sp}{dvs:List V}{E:XK}
def kMk(C:Addr)(sp:Sp)(dvs:List V)(E:XK)(Q:VK)(vs:List V)(H:Hp):Prop:=∀x dx,H x=none->H dx=none->dx≠x->sp (.ref x ::(vs++dvs)) (upd (upd H dx (.own x)) x (.ins C dx [])) (fun v H2=>v=.non/\Q (.ref x) H2) E
def jwj(h:t σ H fun vs H1=>kMk C sp dvs E Q vs H1):jpp C sp dvs E t σ H Q:=h
def kMt(C:Addr)(m:Str)(sp:Sp)(dvs:List V)(E:XK)(t:TA)(σ:L2.St)(Q:VK)(x:V)(H:Hp):Prop:=∃a dx fs,x=.ref a/\H a=some (.ins C dx fs)/\fs.lookup m=none/\t σ H fun vs H2=>sp (x ::(vs++dvs)) H2 Q E
def jwk(h:ta σ H fun x H1=>kMt C m sp dvs E t σ Q x H1):jpo C m sp dvs E ta t σ H Q:=h
def jt6(e:H a=some (.ins C dx fs))(l:fs.lookup m=none)(h:t σ H fun vs H2=>sp (.ref a ::(vs++dvs)) H2 Q E):kMt C m sp dvs E t σ Q (.ref a) H:=⟨a,dx,fs,rfl,e,l,h⟩
def kFl(K:uT)(f:Str)(Q:VK)(x:V)(H:Hp):Prop:=∃a C dx fs v,x=.ref a/\H a=some (.ins C dx fs)/\Cls K C/\qao K C f/\fs.lookup f=some v/\Q v H
def jwl(h:ta σ H fun x H1=>kFl K f Q x H1):juv K ta f σ H Q:=h
def jt7(e:H a=some (.ins C dx fs))(c:Cls K C)(n:qao K C f)(l:fs.lookup f=some v)(h:Q v H):kFl K f Q (.ref a) H:=⟨a,C,dx,fs,v,rfl,e,c,n,l,h⟩
def kFs(K:uT)(f:Str)(y:V)(D:jca)(σ:L2.St)(x:V)(H:Hp):Prop:=∃a C dx fs,x=.ref a/\H a=some (.ins C dx fs)/\Cls K C/\qao K C f/\fs.length<1000/\D.nx σ (upd H a (.ins C dx (qds f y fs)))
def jwm(h:tv σ H fun y H1=>ta σ H1 fun x H2=>kFs K f y D σ x H2):juw K ta tv f D σ H:=h
def qdx(e:H a=some (.ins C dx fs))(c:Cls K C)(n:qao K C f)(hz:fs.length<1000)(h:D.nx σ (upd H a (.ins C dx (qds f y fs)))):kFs K f y D σ (.ref a) H:=⟨a,C,dx,fs,rfl,e,c,n,hz,h⟩
end
structure IsC(K:uT)(C:Addr):Prop where
 ha:vW K (.ref C) "__class__"=some (some (.builtin "object.__class__"))
 hn:dW K (.builtin "object.__class__") "__get__"=some (some (.builtin "getset_descriptor.__get__"))
 htk:PySem.W.takesIn K (.builtin "object.__class__")=some true
 hm:mroIn K C (.type "object")=some true
section
variable{X:Cx}{k:Nat}{f C:Addr}{fd:uL}{ps:List Str}{sp:Sp}{dvs:List V}{ds:List uB}{W:L2.St->XK}{x m:Str}{p pos apos:Pos}{e o:vV}{es:List vV}{ta:TE}{t:TA}
def jfk(C:Addr)(m:Str)(sp:Sp)(dvs:List V)(W:L2.St->XK)(ta:TE)(t:TA):TE:=fun σ H Q=>ta σ H fun x H1=>∃a dx fs,x=.ref a/\H1 a=some (.ins C dx fs)/\fs.lookup m=none/\t σ H1 fun vs H2=>sp (x ::(vs++dvs)) H2 Q (W σ)
def qas{pl:Sem Bool}(he:PE X o ta)(c:Cls X.K C)(hm:jao X.K C m f)(F:jac X.prog X.w X.K X.mg X.base (CX1 X.prog X.w) k f fd ps sp)(hr:jaz k X.A)(hb:qan X.K fd ps ds)(hd:qbk dvs ds)(hx:Xes X W)(ha:PA X (e::es) t)(hex:X.ex=[]:=by rfl)
  (hst:uZ (e::es) X.env=(false,wK e X.env)::uZ es X.env:=by rfl)(hpl:(wQ pos (uZ es X.env)).any (·.1)=false:=by rfl)
  (ht:wK (.Call (.Attribute o m apos) (e::es) [] pos) X.env=(do
   let ov<-wK o X.env
   standAt apos.atName
   let (f,first)<-fO [ov] (cU ov m pl)
   dQ pos f first (wQ pos (uZ (e::es) X.env)) (cB pos (aB [] X.env))):=by rfl):
  PE X (.Call (.Attribute o m apos) (e::es) [] pos) (jfk C m sp dvs W ta t):=by
 intro pins s σ H Q I h;refine yU (pl:=pl) (thn (he pins s σ H _ I h) fun u s1 ⟨x,H1,I1,rx,a,dx,fs,ex,ea,l,q⟩=>?_) ht;subst ex;obtain rfl:u=uQ a:=rx;refine qd3 I1 ea c hm l (xE (first:=[.ref a]) (h₀:=X.base) I.ok.mod.kin hm.kp (thn (ha pos pins s1 σ H1 _ I1 q) fun us s2 ⟨vs,H2,I2,r,q2⟩=>⟨I2.kIn,?_⟩) hst hpl);exact jdw (us:=.ref a::us) (vs:=.ref a::vs) F hr hb hd hx hex I2 (.cons rfl r) q2
def jdb{pl:Sem Bool}(he:PE X o ta)(c:Cls X.K C)(hm:jao X.K C m f)(F:jac X.prog X.w X.K X.mg X.base (CX1 X.prog X.w) k f fd ps sp)(hr:jaz k X.A)(hb:qan X.K fd ps ds)(hd:qbk dvs ds)(hx:Xes X W)(hex:X.ex=[]:=by rfl)
  (ht:wK (.Call (.Attribute o m apos) [] [] pos) X.env=(do
   let ov<-wK o X.env
   standAt apos.atName
   let (f,first)<-fO [ov] (cU ov m pl)
   dQ pos f first (wQ pos (uZ [] X.env)) (cB pos (aB [] X.env))):=by rfl):
  PE X (.Call (.Attribute o m apos) [] [] pos) (jfk C m sp dvs W ta jpm):=by
 intro pins s σ H Q I h;refine yU (pl:=pl) (thn (he pins s σ H _ I h) fun u s1 ⟨x,H1,I1,rx,a,dx,fs,ex,ea,l,q⟩=>?_) ht;subst ex;obtain rfl:u=uQ a:=rx;exact qd3 I1 ea c hm l (PySem.W.callWith_K0 (first:=[.ref a]) I1.kIn hm.kp (jdw (us:=[.ref a]) (vs:=[.ref a]) F hr hb hd hx hex I1 (.cons rfl .nil) q))
def jlv(C:Addr)(sp:Sp)(dvs:List V)(W:L2.St->XK)(t:TA):TE:=fun σ H Q=>t σ H fun vs H1=>∀x dx,H1 x=none->H1 dx=none->dx≠x->sp (.ref x ::(vs++dvs)) (upd (upd H1 dx (.own x)) x (.ins C dx [])) (fun v H2=>v=.non/\Q (.ref x) H2) (W σ)
def jhy{pins:List (Addr×Obj)}{σ:L2.St}{H:Hp}{s:uC}{Q:VK}{us:List uB}{vs:List V}(M:Mk X.K C f)(F:jac X.prog X.w X.K X.mg X.base (CX1 X.prog X.w) k f fd ps sp)(hr:jaz (k+1) X.A)(hb:qan X.K fd ps ds)(hd:qbk dvs ds)
  (hx:Xes X W)(hex:X.ex=[])(I:Inv X pins σ H s)(r:qbk vs us)
  (h:∀x dx,H x=none->H dx=none->dx≠x->sp (.ref x ::(vs++dvs)) (upd (upd H dx (.own x)) x (.ins C dx [])) (fun v H2=>v=.non/\Q (.ref x) H2) (W σ)):
  uV (uX X.prog X.w) X.A (call (.ref C) us) (EP X pins σ Q) X.xe s:=by
 have hq:=h (↑s+1) ↑s (I.hok.fresh (xK _)) (I.hok.fresh (uG _)) (vD (bM _));have I2:=Inv.made (C:=C) I;have r2:qbk (V.ref (↑s+1) ::(vs++dvs)) (uQ (↑s+1) ::(us++ds)):=.cons rfl (r.append hd);have hl:(uQ (↑s+1)::us++ds).length=ps.length:=by
  have e:=r2.length;rw[F.len _ _ _ _ hq] at e;exact e.symm
 refine aC (je5 (f:=f) I.kIn M.makes M.init (beq_iff_eq.mp M.fn) (xA (F.run _ X.stack _ _ ⟨uQ (↑s+1)::us,[]⟩ (uQ (↑s+1) ::(us++ds)) _ _ (W σ) (hr.make C us [])
  (I2.env0.make C us []) (hb _ (uQ (↑s+1)::us) I2.kIn hl) r2 hq) fun r s' hq'=>?_))
 cases r with
 |error e=>exact je9 hx hex I2 hq'
 |ok fl=>
  cases fl with
  |ret u=>
   obtain⟨v,H',I3,rv,ev,q3⟩:=I2.after hq';subst ev;exact⟨rv,⟨V.ref (↑s+1),H',I3,rfl,q3⟩⟩
  |next=>exact vP hq'
  |brk=>exact vP hq'
  |cont=>exact vP hq'
def qgo(M:Mk X.K C f)(F:jac X.prog X.w X.K X.mg X.base (CX1 X.prog X.w) k f fd ps sp)(hr:jaz (k+1) X.A)(hg:Gl X x)(hm:X.mg x=some (.ref C))(hb:qan X.K fd ps ds)(hd:qbk dvs ds)(hx:Xes X W)
  (ha:PA X (e::es) t)(hex:X.ex=[]:=by rfl)(hdb:(x==("__debug__":Str))=false:=by decide)(he:uZ (e::es) X.env=(false,wK e X.env)::uZ es X.env:=by rfl)(hpl:(wQ pos (uZ es X.env)).any (·.1)=false:=by rfl):
  PE X (.Call (.Name x p) (e::es) [] pos) (jlv C sp dvs W t):=by
 intro pins s σ H Q I h;refine xD (qe0 I hg hm ?_ hdb);refine xE (h₀:=X.base) I.ok.mod.kin M.kp (thn (ha pos pins s σ H _ I h) fun us s1 ⟨vs,H1,I1,r,q⟩=>⟨I1.kIn,?_⟩) he hpl;exact jhy M F hr hb hd hx hex I1 r q
end
structure FunD(K:uT)(x qual:Str)(st:Stmt)(f:Addr)(fd:uL)(T:Addr)(items:Array uB):Prop where
 ex:∃(oc:uB)(od:Option Addr)(kV doc pm:uB)(an:Option Addr)(cdv ct:uB)(osl:Array (Option uB)),
  fd=eP x qual (qc5 st) (qbu st) (qa8 st) (.ref T) kV doc pm an cdv ct/\K.lookup f=some ⟨oc,od,.func fd,osl⟩/\dO K cdv qual=true
 kp:cM K (.ref f)=true
 tup:∃(o:Obj)(n:Nat),K.lookup T=some o/\o.data=.seq items n
section
variable{K:uT}{x qual:Str}{st:Stmt}{f T:Addr}{fd:uL}{ps:List Str}{items:Array uB}
def FunD.binds(F:FunD K x qual st f fd T items){ds:List uB} (h:∀(kV doc pm:uB)(an:Option Addr)(cdv ct:uB)(us:List uB),(us++ds).length=ps.length->
   bindArgs (eP x qual (qc5 st) (qbu st) (qa8 st) (.ref T) kV doc pm an cdv ct) ⟨us,[]⟩=pure (ps.zip (us++ds))\/
   ∃g:Option (Array uB)->Sem (List (Str×uB)),bindArgs (eP x qual (qc5 st) (qbu st) (qa8 st) (.ref T) kV doc pm an cdv ct) ⟨us,[]⟩=seqItems? (.ref T) >>= g/\g (some items)=pure (ps.zip (us++ds))):qan K fd ps ds:=by
 obtain⟨oc,od,kV,doc,pm,an,cdv,ct,osl,rfl,lk,hcd⟩:=F.ex;obtain⟨o,n,hT,hd⟩:=F.tup;intro s us KX hl;rcases h kV doc pm an cdv ct us hl with h|⟨g,h1,h2⟩
 .exact .of_eq h
 .exact BindsTo.of_defaults (T:=T) rfl (KX _ _ hT) hd h1 h2
end
section
variable{σ:L2.St}{H:Hp}{Q:VK}{ta:TE}{t:TA}{a C dx:Addr}{fs:List (Str×V)}{m:Str}{sp:Sp}{dvs:List V}{W:L2.St->XK}
def jvl(C:Addr)(m:Str)(sp:Sp)(dvs:List V)(W:L2.St->XK)(t:TA)(σ:L2.St)(Q:VK)(x:V)(H:Hp):Prop:=∃a dx fs,x=.ref a/\H a=some (.ins C dx fs)/\fs.lookup m=none/\t σ H fun vs H2=>sp (x ::(vs++dvs)) H2 Q (W σ)
def jt8(h:ta σ H fun x H1=>jvl C m sp dvs W t σ Q x H1):jfk C m sp dvs W ta t σ H Q:=h
def jq0(e:H a=some (.ins C dx fs))(l:fs.lookup m=none)(h:t σ H fun vs H2=>sp (.ref a ::(vs++dvs)) H2 Q (W σ)):jvl C m sp dvs W t σ Q (.ref a) H:=⟨a,dx,fs,rfl,e,l,h⟩
def jwn(C:Addr)(sp:Sp)(dvs:List V)(W:L2.St->XK)(σ:L2.St)(Q:VK)(vs:List V)(H:Hp):Prop:=∀x dx,H x=none->H dx=none->dx≠x->sp (.ref x ::(vs++dvs)) (upd (upd H dx (.own x)) x (.ins C dx [])) (fun v H2=>v=.non/\Q (.ref x) H2) (W σ)
def jt9(h:t σ H fun vs H1=>jwn C sp dvs W σ Q vs H1):jlv C sp dvs W t σ H Q:=h
end
section
variable{prog:uW}{w:vL}{A:vR}{E:uB->uC->Prop}
theorem jq1{j l:Addr}{xs:List uB}(ne:l≠j):∀(todo:List uB)(i:Nat)(s:uC)(Q:List uB->uC->Prop),xs.drop i=todo->s.heap.IsListIter j l i->s.heap.IsList l xs.toArray->
  (∀h',h'.IsListIter j l (i+todo.length)->(∀b o,b≠j->s.heap.get? b=some o->h'.get? b=some o)->Q todo {s with heap:=h'})->uV (uX prog w) A (draw (.ref j) todo.length) Q E s
 | [],i,s,Q,_,st,_,q=>by
  show uV _ _ (pure []) _ _ _;exact vC (q s.heap st fun _ _ _ e=>e)
 |x::todo,i,s,Q,hd,st,hl,q=>by
  have hx:xs[i]?=some x:=by
   have z:=congrArg (fun l=>l[0]?) hd;simpa using z
  have hd2:xs.drop (i+1)=todo:=by
   have z:=congrArg (List.drop 1) hd;simpa[List.drop_drop] using z
  show uV _ _ (pyNext (.ref j) >>= _) _ _ _;refine uE (wpAny_pyNext_list_item st hl (x:=x) (by simpa using hx) fun h1 st1 sb=>?_);have kp:∀b o,b≠j->s.heap.get? b=some o->h1.get? b=some o:=fun b o hb e=>(sb.2 b hb).trans e;refine uE (wP (jq1 ne todo (i+1) _ _ hd2 st1 (hl.at fun o e=>kp _ o ne e) fun h2 st2 kp2=>vC ?_));refine q h2 ?_ fun b o hb e=>kp2 b o hb (kp b o hb e);rw[zR,show i+(todo.length+1)=i+1+todo.length by omega];exact st2
def jng{s:uC}{env:Env}{elts:List vV}{x1}{pos:Pos}{l:Addr}{xs:List uB}{Q:Unit->uC->Prop}(calm:A.handled=none)(hl:s.heap.IsList l xs.toArray)(hn:(xX elts env).length=xs.length)(hst:(xX elts env).findIdx? (·.1)=none)
  (q:∀h',(∀b o,s.heap.get? b=some o->h'.get? b=some o)->uV (uX prog w) A (eJ ((xX elts env).map (·.2)) xs) Q E {s with heap:=h'}):uV (uX prog w) A (gL (.Tuple elts x1 pos) env (.ref l)) Q E s:=by
 have ne:l≠↑s:=by obtain⟨o,ho,_⟩:=hl;exact vD (uO ho)
 rw[assign_Tuple];refine uE (xM ?_);unfold unpack;rw[hn,hst];refine uE (wP ?_);unfold unpackItems notIterableAtAll;refine uE (uE (wpAny_specialOf hl.typeIs F.slot_list_iter.lookup (vC ?_)));simp only[fG,if_false];have hl1:(s.heap.push {cls:=.type "list_iterator",data:=.fields #[.ref l,.int 0 0]}).IsList l xs.toArray:=hl.at fun o e=>uD _ e;refine uE (wP (cG hl (uE (wP (jq1 ne xs 0 _ _ (by simp) ⟨_,vE _ rfl,rfl,rfl⟩ hl1 fun h1 st1 kp=>?_)))));rw[gT (wM _)];refine uE (wP (wpAny_pyNext_list_end calm st1 (hl1.at fun o e=>kp _ o ne e) (by simp) fun h2 kp2=>?_));simp only[Option.isSome_none,fG,if_false];refine vC (q h2 fun b o e=>?_);have nb:b≠↑s:=vD (uO e);exact kp2 b o nb (kp b o nb (uD _ e))
end
section
variable{X:Cx}{pos:Pos}
def jvm(K:uT)(n:Nat)(t:TGs):TG:=fun v σ H Q=>∃a xs,v=.ref a/\SqL K H a xs/\xs.length=n/\t xs σ H Q
def qef{es:List vV}{k:Nat}{t:TGs}(hc:X.calm=true)(h:PGs X es t)(hn:(xX es X.env).length=n:=by rfl)(hst:(xX es X.env).findIdx? (·.1)=none:=by rfl):PG X (.Tuple es k pos) (jvm X.K n t):=by
 intro pins s σ H v u Q I r hw;obtain⟨a,xs,rfl,hq,hl,hw⟩:=hw
 cases r
 obtain⟨ws,rv,pl,_⟩:=I.list hq;refine jng (I.ok.hd hc) (PlainL.isList pl) (by rw[hn,<-hl,rv.length]) hst fun h' kp=>?_;exact h pins _ σ H xs _ Q (I.kept (t':=s.toks) kp) rv hw
end
def jq2{σ:L2.St}{xs:List V}{t:TGs}{Q:L2.St->Hp->Prop}(s:SqL K H a xs)(hn:xs.length=n)(h:t xs σ H Q):jvm K n t (.ref a) σ H Q:=⟨a,xs,rfl,s,hn,h⟩
def kDs(p:Addr)(Q:VK)(x y:V)(H2:Hp):Prop:=H2 p=some (.dK [])/\∃kvs:List (Key×V),[(x,y)]=kvs.map (fun kv=>(kV kv.1,kv.2))/\kvs.length<=15/\Q (.ref p) (upd H2 p (.dK (qg8 [] kvs)))
def jnh{σ:L2.St}{Q:VK}{tk tv:TE}(h:∀p,H p=none->tk σ (upd H p (.dK [])) fun x H1=>tv σ H1 fun y H2=>kDs p Q x y H2):jp8 [(tk,tv)] σ H Q:=fun p hp=>h p hp
def jwo{Q:VK}{p:Addr}{y:V}(e:H p=some (.dK []))(h:Q (.ref p) (upd H p (.dK [(uH z,y)]))):kDs p Q (.str z) y H:=⟨e,[(uH z,y)],rfl,Nat.le_of_ble_eq_true rfl,h⟩
section
variable{P:uW}{w:vL}{K:uT}{mg:Str->Option uB}{base:vQ}{x qual:Str}{st:Stmt}{f T:Addr}{fd:uL}{N ps:List Str}{k:Nat}{sp:Sp}{items:Array uB}
def jua(F:FunD K x qual st f fd T items)(S:jaa N ps (qa8 st))(len:∀vs H Q E,sp vs H Q E->vs.length=ps.length)
  (hbody:∀(cdv:uB)(A:vR)(outer:List Env)(s:uC)(H:Hp)(vs:List V)(Q:VK)(E:XK),jaz k (A.deeper (aJ qual (qa8 st) ↑s f cdv))->sp vs H Q E->
   ∃t,PSs (xw (cxOf (CX1 P w) P w K mg base N qual (qa8 st) f cdv A outer s H E) (fun _=>E)) (qbu st) t/\t {nx:=fun _ H'=>Q .non H',rt:=Q} (start N vs) H):jac P w K mg base (CX1 P w) (k+1) f fd ps sp:=by
 obtain⟨oc,od,kV,doc,pm,an,cdv,ct,osl,rfl,lk,hcd⟩:=F.ex;refine jms lk hcd S len fun A outer s H vs Q E hr hsp=>?_;obtain⟨t,ht,q⟩:=hbody cdv A outer s H vs Q E hr hsp;exact⟨t,PSs.xes jlg ht,q⟩
def jd7{oc:uB}{od an:Option Addr}{osl:Array (Option uB)}{kV doc pm cdv ct:uB}{o:Obj}{n:Nat}(l:K.lookup f=some ⟨oc,od,.func (eP x qual (qc5 st) (qbu st) (qa8 st) (.ref T) kV doc pm an cdv ct),osl⟩)
  (c:dO K cdv qual=true)(kp:cM K (.ref f)=true)(t:K.lookup T=some o)(hd:o.data=.seq items n):FunD K x qual st f (eP x qual (qc5 st) (qbu st) (qa8 st) (.ref T) kV doc pm an cdv ct) T items:=
 ⟨⟨oc,od,kV,doc,pm,an,cdv,ct,osl,rfl,l,c⟩,kp,o,n,t,hd⟩
end
def oK(hs:List (Str×Addr)):List (Key×V):=hs.map fun p=>(uH p.1,.ref p.2)
def qdc:List (Str×Addr)->Str->Option Addr
 | [],_=>none
 |p::r,z=>if p.1=z then some p.2 else qdc r z
theorem qge(z:Str):∀hs:List (Str×Addr),qci (oK hs) (uH z)=(qdc hs z).map V.ref
 | []=>rfl
 |p::r=>by
  have ih:=qge z r;unfold qci oK at ih⊢;rw[zU,yI];by_cases h:p.1=z
  .have e:decide ((uH p.1:Key)=uH z)=true:=by rw[h];exact gW rfl
   simp only[e,qdc,gU h];rfl
  .have e:decide ((uH p.1:Key)=uH z)=false:=gX fun q=>h (yY q);simp only[e,qdc,gT h];exact ih
theorem qet{z:Str}:∀{hs:List (Str×Addr)},qdc hs z=none↔z∉hs.map (·.1)
 | []=>by simp[qdc]
 |p::r=>by
  have ih:=qet (z:=z) (hs:=r);unfold qdc;by_cases q:p.1=z
  .rw[gU q];simp[q]
  .rw[gT q,ih];simp[xP q,fun e:z=p.1=>q e.symm]
theorem qgp{z:Str}{h:Addr}:∀{hs:List (Str×Addr)},(hs.map (·.1)).Nodup->(z,h)∈hs->qdc hs z=some h
 |p::r,nd,m=>by
  rw[zU,zT] at nd;unfold qdc;rcases zO.mp m with e|e
  .rw[<-e,gU rfl]
  .have q:p.1≠z:=fun q=>nd.1 (by rw[q];exact zH.mpr ⟨(z,h),e,rfl⟩);rw[gT q];exact qgp nd.2 e
def jhz{hs:List (Str×Addr)}{h:Addr}(n:qdc hs z=none):qbl (oK hs) (uH z) (.ref h)=oK (hs++[(z,h)]):=by
 have hn:=qet.mp n;have e:((oK hs).any fun kv=>decide (kv.1=uH z))=false:=by
  rw[List.any_eq_false];intro kv hkv;obtain⟨p,hp,rfl⟩:=zH.mp hkv;intro q;have q':=yY (of_decide_eq_true q);exact hn (zH.mpr ⟨p,hp,q'⟩)
 unfold qbl;rw[gT (by rw[e];decide)];unfold oK;rw[zL];rfl
def jq3(hs:List (Str×Addr)):(oK hs).length=hs.length:=zA _
section
variable{H:Hp}{Q:VK}{a h:Addr}{hs:List (Str×Addr)}{z:Str}
def jub(d:Rd H a (.dK (oK hs)))(q:Q (.bl (qdc hs z).isSome) H):rDI (.ref a) (.str z) H Q:=by
 refine⟨a,qci (oK hs) (uH z),rfl,.inl ⟨_,uH z,d,rfl,rfl⟩,?_⟩;rw[qge,bD];exact q
def qfe(d:Rd H a (.dK (oK hs)))(e:qdc hs z=some h)(q:Q (.ref h) H):jsi (.ref a) (.str z) H Q:=
 ⟨a,.ref h,rfl,.inl ⟨_,uH z,d,rfl,by rw[qge,e];rfl⟩,q⟩
end
end My
set_option exponentiation.threshold 2000
namespace My
open PySem PySem.Spec PyProof.Rows L2
end My
set_option maxHeartbeats 3200000
namespace My
open PySem PySem.Spec PyProof.Rows L2
section
variable{P:uW}{w:vL}{A:vR}
def jq4(z:Str)(t:Tok):(strKind P w).is z (.str z t)=true:=by
 show eI z (.str z t)=true;simp[eI]
def jni{zs:List Str}{i:Nat}{z:Str}(nd:zs.Nodup)(h:zs[i]?=some z):(zs.take i).contains z=false:=by
 rw[<-Bool.not_eq_true,dL];intro m;obtain⟨j,hj,e⟩:=zS.mp m;obtain⟨hi,e2⟩:=uF.mp h;rw[zW] at hj;rw[gD] at e;exact(xI.mp nd) j i ↑∅ hi ↑∅ (by rw[e,e2])
def jh0{zs:List Str}{i:Nat}{z:Str}(h:zs[i]?=some z)(y:Str):((zs.take i).contains y || decide (y=z))=(zs.take (i+1)).contains y:=by
 rw[zN,h,xJ,Bool.or_eq_true,dL,dL,zM,decide_eq_true_iff];simp
def jh1{R:Result->uC->Prop}{it c:Addr}{fp wr:List Addr}{G:Array GenState->Array GenState->Prop}{zs:List Str}{pv:Nat->uB->Prop}{St:Nat->uC->Prop}
  (W:WalksS P w A.in1 it fp wr G zs.length pv St)(hc:c∉fp)(nd:zs.Nodup)(hv:∀i v,pv i v->∃z t,zs[i]?=some z/\v=.str z t)(hb:zs.length+1<gP):
  ∀(k i:Nat)(s:uC),zs.length-i=k->i<=zs.length->St i s->s.heap.SetOf (strKind P w) c (fun y=>(zs.take i).contains y) i->
   (∀s',Moved (c::wr) G s s'->s'.heap.SetOf (strKind P w) c (fun y=>(zs.take zs.length).contains y) zs.length->R (.ok (.ret .none)) s')->
   bP (uX P w) A (.builtin "set.update.loop" ⟨[.ref c,.ref it],[]⟩) R s:=by
 have cw:c∉wr:=fun h=>hc (W.sub _ h);have stays:∀{n:Nat} {S:Str->Bool} {s s':uC},Moved wr G s s'->s.heap.SetOf (strKind P w) c S n->s'.heap.SetOf (strKind P w) c S n:=fun hm hS=>by
  obtain⟨o,es,ep,t,ho,rest⟩:=hS;exact⟨o,es,ep,t,hm.heap c _ cw ho,rest⟩
 intro k
 induction k with
 |zero=>
  intro i s hk hi st hS hR;have e:i=zs.length:=by omega
  subst e;refine xZ eF ?_;rw[xL aK];show uV _ _ (pyNext (.ref it) >>= _) _ _ _;refine uE (W.done s _ _ st fun s1 hm=>?_);exact vC (hR s1 (hm.mono fun b h=>zD _ h) (stays hm hS))
 |succ k ih=>
  intro i s hk hi st hS hR;have lt:i<zs.length:=by omega
  refine xZ eF ?_;rw[xL aK];show uV _ _ (pyNext (.ref it) >>= _) _ _ _;refine uE (W.item i s _ _ lt st fun v s1 hp st1 hm=>?_);obtain⟨z,t,hz,rfl⟩:=hv i v hp;have S1:=stays hm hS;show uV _ _ (fO [dX z t] (setAdd c (.str z t)) >>= _) _ _ _;refine uE (wP ?_);unfold setAdd;refine wP (uE ((strKind P w).pyHash (k:=z) (jq4 z t) ?_));refine wpAny_setAddHashed_of (knd:=strKind P w) (s:={s1 with toks:=s1.toks+1}) (jq4 z t) rfl S1 ↑∅ fun h2 sb S2=>?_;have S3:h2.SetOf (strKind P w) c (fun y=>(zs.take (i+1)).contains y) (i+1):=SetOf_congr S2 (jh0 hz) (by simp only[jni nd hz];rfl);refine vC ⟨cQ aK _,ih (i+1) _ ↑∅ lt (W.frame _ s1 _ _ st1 (xK _) fun b h o e=>?_) S3 fun s4 hm4 S4=>?_⟩
  .rw[sb.2 b fun q=>hc (q▸h)];exact e
  .refine hR s4 (Moved.trans W.gtrans ((hm.mono fun b h=>zD _ h).then_heap (xK _) fun b o h e=>?_) hm4) S4;rw[sb.2 b fun q=>h (q▸zF)];exact e
abbrev jlw(led:Bool):Obj:={cls:=.type "set",dict:=none,data:=.set #[] 0 (.fresh 0 0 led)}
def jh2{E:uB->uC->Prop}{s:uC}{l:Addr}{items:Array uB}{zs:List Str}{Q:uB->uC->Prop}(hh:A.handled=none)(hl:s.heap.IsList l items)(hi:gB items.toList zs)(nd:zs.Nodup)(hb:zs.length+1<gP)
  (h:∀(h':vQ)(tk:Nat),h'.SetOf (strKind P w) ↑s (fun y=>(zs.take zs.length).contains y) zs.length->(∀b o,b<↑s->s.heap.get? b=some o->h'.get? b=some o)->Q (.ref ↑s) {s with heap:=h',toks:=tk}):
  uV (uX P w) A (call (.type "set") [.ref l]) Q E s:=by
 obtain⟨c,tl,hmro⟩:=PySem.F.called_set.mro;have hmade:=PySem.F.called_set.made;have hsub:=PySem.F.called_set.sub;refine aC (codeAny_of_tree ?_);show uV _ _ (callAny (.type "set") _) _ _ _;refine vC ⟨fH _ (by decide+kernel),xZ PySem.F.entry_type_call ?_⟩;rw[Around.under_plain (weight_type_call_type "set" [.ref l] []) rfl];have h1:=PySem.F.called_set.notType;have h2:=PySem.F.called_set.canCreate;have hct:=PySem.F.typeCall_set_1 (.ref l)
 repeat any_goals first|assumption|wp_step
 refine xA (code_set_new_1 (.ref l) (E:=E) (Q₁:=fun x s1=>∃led:Bool,x=.ref ↑s/\s1={s with heap:=s.heap.push (jlw led)}) fun led=>⟨led,rfl,rfl⟩) fun r s1 hr=>?_
 cases r with
 |error e=>exact hr
 |ok fl=>
  cases fl with
  |ret obj=>
   obtain⟨led,rfl,rfl⟩:=hr;have hS:(s.heap.push (jlw led)).get? ↑s=some (jlw led):=vE _ rfl;have hT:Shared.TypeIs {s with heap:=s.heap.push (jlw led)} (.ref ↑s) "set":=⟨_,hS,rfl⟩;have hli:=PySem.F.called_set.init.lookup;have hbi:=PySem.F.called_set.init.bind (.ref ↑s)
   repeat any_goals first|assumption|wp_step
   refine xA (codeAny_call_builtin (R:=wants (fun x s2=>x=.none/\∃h' tk,s2={s with heap:=h',toks:=tk}/\h'.SetOf (strKind P w) ↑s (fun y=>(zs.take zs.length).contains y) zs.length/\(∀b o,b<↑s->s.heap.get? b=some o->h'.get? b=some o)) E) PySem.F.called_set.init.plain PySem.F.entry_set_init (check_set_init_1 hT ?_)) fun r2 s2 hr2=>?_
   .obtain⟨ol,hol,hcl,nl,hdl⟩:=hl;obtain⟨ocls,odict,odata,oslots⟩:=ol;dsimp only at hcl hdl;subst hcl hdl;have hol':=uD (jlw led) hol;have q1:=PySem.F.sub_list_set;have q2:=PySem.F.sub_list_frozenset;have q3:(cY "list"==cY "dict")=false:=∅
    have hl1:(s.heap.push (jlw led)).IsList l items:=⟨_,hol',rfl,nl,rfl⟩;unfold aN.«set.__init__» noKeywords Builtin.Frozenset.updateFrom;generalize hPI:pyIter=PI
    wp_walk
    subst hPI;refine cG hl1 (uE (wpAny_runValue ?_));have lS:l<↑s:=uO hol;have h3:A.in1.in1.in1.handled=none:=by simp[hh]
    have nI:l≠(s.heap.push (jlw led)).objs.size:=by
     rw[aZ];exact vD (gC lS)
    have nS:↑s∉ [(s.heap.push (jlw led)).objs.size,l]:=by
     rw[aZ];intro z;simp only[zO,yE,or_false] at z;rcases z with z|z
     .exact absurd z (vD (bM _))
     .rw[z] at lS;exact wM _ lS
    have ez:items.size=zs.length:=by
     have:=hi.length;simpa using this
    have W:WalksS P w A.in1.in1.in1 _ _ _ _ items.size _ _:=(Walks.list h3 _ l nI items).toS;rw[ez] at W;refine jh1 (zs:=zs) W nS nd (fun i v hv=>?_) hb (zs.length-0) 0 _ ↑∅ (wO _) ⟨⟨_,vE _ rfl,rfl,rfl⟩,hl1.push _⟩ ?_ ?_
    .obtain⟨y,t,e1,e2⟩:=hi.item i v (by rw[bJ];exact hv);exact⟨y,t,e2,e1⟩
    .have hget:=uD {cls:=.type "list_iterator",data:=.fields #[.ref l,.int 0 0]} hS;exact SetOf_congr ((setObjOf_fresh (knd:=strKind P w) led).setOf hget (by unfold gP;omega)) (fun _=>rfl) rfl
    .intro s4 hm hS4;obtain⟨h4,g4,d4,tk4,os4⟩:=s4;have eg:g4=s.gens:=hm.gens;have ed:d4=s.drawn:=hm.drawn;have eo:os4=s.os:=hm.os;subst eg ed eo;refine vC ?_;refine vC ⟨rfl,h4,tk4,rfl,hS4,fun b o hb' e=>?_⟩;refine hm.heap b o (fun z=>?_) (uD _ (uD _ e));rw[aZ] at z;simp only[zO,yE,or_false] at z;rcases z with z|z
     .rw[z] at hb';exact wM _ hb'
     .rw[z] at hb';exact wM _ (bE (bM _) hb')
   .cases r2 with
    |error e=>exact hr2
    |ok fl2=>
     cases fl2 with
     |ret r=>
      obtain⟨rfl,h',tk,rfl,hS',hk'⟩:=hr2
      repeat any_goals first|assumption|wp_step
      exact h _ _ hS' hk'
     |next=>exact hr2.elim
     |brk=>exact hr2.elim
     |cont=>exact hr2.elim
  |next=>exact hr.elim
  |brk=>exact hr.elim
  |cont=>exact hr.elim
end
def jq5(P:uW)(w:vL)(c:Addr)(n:Nat):HO:=.ext fun h=>∃S,h.SetOf (strKind P w) c S n
def jq6(P:uW)(w:vL)(K:uT):List V->Hp->VK->Prop:=fun xs H Q=>∃(p:Addr)(zs:List Str),xs=[.ref p]/\SqL K H p (zs.map V.str)/\zs.Nodup/\zs.length<=60/\∀c,H c=none->Q (.ref c) (upd H c (jq5 P w c zs.length))
def jq7(P:uW)(w:vL):List V->Hp->VK->Prop:=fun xs H Q=>∃c n,xs=[.ref c]/\H c=some (jq5 P w c n)/\Q (.int n) H
section
variable{X:Cx}
def jh3(hc:X.calm=true:=by rfl):qcr X (.type "set") (jq6 X.prog X.w X.K):=by
 intro pins s σ H xs us Q I hv h;obtain⟨p,zs,rfl,hS,nd,hz,q⟩:=h;obtain⟨u,rfl,ru⟩:=hv.one
 cases ru
 obtain⟨its,rv,pl,hz'⟩:=I.list hS;refine jh2 (I.ok.hd hc) (PlainL.isList pl) (zs:=zs) (by simpa using qgj rv) nd (by unfold gP;omega) fun h' tk hT hk=>?_;have hg:=hT;obtain⟨o,es,ep,t,ho,_⟩:=hg;exact⟨.ref _,_,I.laid (a:=↑s) (o:=jq5 X.prog X.w ↑s zs.length) (t':=tk) (fun b ob e=>hk b ob (uO e) e) (uG _) ⟨⟨_,hT⟩,⟨o,ho⟩,fun h1 h2 ⟨S,o1,r1,r2,r3,e1,rest⟩ k=>⟨S,o1,r1,r2,r3,k _ e1,rest⟩⟩,rfl,q _ (I.hok.fresh (uG _))⟩
def jh4:qcr X (.builtin "len") (jq7 X.prog X.w):=by
 intro pins s σ H xs us Q I hv h;obtain⟨c,n,rfl,e,q⟩:=h;obtain⟨u,rfl,ru⟩:=hv.one
 cases ru
 obtain⟨⟨S,o,es,ep,t,ho,hx,hd,_,_,hb,hf,rfl⟩,_⟩:=I.hok c _ e;refine call_len_set ho hx hd hf (by unfold gP at hb;omega) ⟨.int es.size,H,I.tok _,⟨_,rfl⟩,q⟩
end
section
variable{P:uW}{w:vL}{K:uT}{H:Hp}{Q:VK}
def jq8{p:Addr}{zs:List Str}(hS:SqL K H p (zs.map V.str))(nd:zs.Nodup)(hz:zs.length<=60)(h:∀c,H c=none->Q (.ref c) (upd H c (jq5 P w c zs.length))):jq6 P w K [.ref p] H Q:=⟨p,zs,rfl,hS,nd,hz,h⟩
def jnj{c:Addr}{n:Nat}(e:H c=some (jq5 P w c n))(h:Q (.int n) H):jq7 P w [.ref c] H Q:=⟨c,n,rfl,e,h⟩
end
def jq9:List V->Hp->VK->Prop:=fun xs H Q=>∃a kvs,xs=[V.ref a]/\H a=some (.dK kvs)/\Q (.int kvs.length) H
def qgc{X:Cx}:qcr X (.builtin "len") jq9:=L2.call_lenD
def jlx{H:Hp}{Q:VK}{a:Addr}{kvs:List (Key×V)}(e:H a=some (.dK kvs))(h:Q (.int kvs.length) H):jq9 [.ref a] H Q:=⟨a,kvs,rfl,e,h⟩
end My
set_option maxHeartbeats 1000000
namespace My
open PySem PySem.Spec PyProof.Rows L2
def jra:R2:=fun x y H Q=>∃(c:Nat)(n:Int),x=.str ⟨#[c]⟩/\y=.int n/\1<=n/\n<=100/\Q (.str ⟨(uR n.toNat c).toArray⟩) H
def juc(c:Nat){n:Int}(h:1<=n):Txt.mul ⟨#[c]⟩ n=⟨(uR n.toNat c).toArray⟩:=by
 have key:∀(m:Nat)(a:Array Nat),(uR m #[c]).foldl (·++·) a=a++(uR m c).toArray:=by
  intro m
  induction m with
  |zero=>intro a;simp
  |succ m ih=>
   intro a;rw[yF,List.foldl_cons,ih,yF];apply Array.ext';simp
 unfold Txt.mul;rw[gT ↑∅];by_cases z:((n==1 ||(⟨#[c]⟩:Str).length==0)=true)
 .rw[gU z];have e:n=1:=by
   rw[Bool.or_eq_true] at z;rcases z with z|z
   .simpa using z
   .cases z
  subst e;rfl
 .rw[gT z,key];simp
section
variable{X:Cx}
def jnk:OpR X (aA .Mult) jra:=by
 intro pins s σ H x y v u Q I rx ry h;obtain⟨c,n,rfl,rfl,h0,h1,q⟩:=h;obtain⟨t,rfl⟩:=rx;obtain⟨k,rfl⟩:=ry;refine SB.mul ?_ fun t' k=>⟨.str ⟨(uR n.toNat c).toArray⟩,H,I.tok _,⟨t',by rw[juc c h0]⟩,q⟩;refine⟨by rw[gX ↑∅,gX ↑∅];rfl,fun _ _=>?_,fun _ _=>?_⟩
 .have z:(1:Int)<=(2^63-1)/n:=Int.le_ediv_of_mul_le ↑∅ ↑∅;show ¬((1:Int) >(2^63-1)/n);omega
 .refine gX (p:=(1*n.toNat > sizeLine)) ?_;rw[xC];omega
end
def jrb{H:Hp}{Q:VK}{c:Nat}{n:Int}(h0:1<=n)(h1:n<=100)(h:Q (.str ⟨(uR n.toNat c).toArray⟩) H):jra (.str ⟨#[c]⟩) (.int n) H Q:=⟨c,n,rfl,rfl,h0,h1,h⟩
def jh5(v d:Addr):HO:=.ext fun h=>h.IsValuesView v d
def jrc:V->List V->Hp->VK->Prop:=fun x xs H Q=>∃p kvs,x=.ref p/\xs=[]/\Rd H p (.dK kvs)/\∀v,H v=none->Q (.ref v) (upd H v (jh5 v p))
section
variable{X:Cx}
def jnl:MtR X "dict.values" jrc:=by
 intro pins s σ H x xs v us Q I rx rv h;obtain⟨p,kvs,rfl,rfl,e,q⟩:=h
 cases rx
 have hus:=rv.zero;subst hus;obtain⟨z,hd,vs,rel,dd⟩:=qft I.hok e;refine call_meetsIn PySem.F.slot_dict_values dd.typeIs PySem.F.entry_dict_values (PySem.F.args_dict_values_1 _) (meets_dict_values (qbc X.prog X.w) p hd) ⟨⟨vs,dd⟩,?_⟩;exact⟨.ref _,_,I.laid (a:=↑s) (o:=jh5 ↑s p) (t':=s.toks) (fun b ob e=>uD _ e) (uG _) ⟨⟨_,vE _ rfl,rfl,rfl⟩,⟨_,vE _ rfl⟩,fun h1 h2 ⟨o,e1,r⟩ k=>⟨o,k _ e1,r⟩⟩,rfl,q _ (I.hok.fresh (uG _))⟩
end
section
variable{H:Hp}{kvs:List (Key×V)}{Q:VK}
def jrd{p:Addr}(e:Rd H p (.dK kvs))(h:∀v,H v=none->Q (.ref v) (upd H v (jh5 v p))):jrc (.ref p) [] H Q:=⟨p,kvs,rfl,rfl,e,h⟩
end
end My
namespace My
open PySem PySem.Spec PyProof.Rows L2 PyProof
end My
namespace My
open PySem PySem.Spec PyProof.Rows L2
section
inductive joy(K:uT)(H:Hp):V->Prop
 |non:joy K H .non
 |bl(b:Bool):joy K H (.bl b)
 |int(i:Int):joy K H (.int i)
 |lst{a:Addr}{xs:List V}(h:SqL K H a xs):joy K H (.ref a)
 |tup{a:Addr}{xs:List V}(h:SqT K H a xs):joy K H (.ref a)
 |dct{a:Addr}{kvs:List (Key×V)}(h:H a=some (.dK kvs)):joy K H (.ref a)
end
section
theorem qgs{y:Str}:∀nm:List Str,inV (.str y) (nm.map V.str)=decide (y∈nm)
 | []=>rfl
 |z::r=>by
  have ih:=qgs (y:=y) r;unfold inV at ih⊢;rw[zU,yQ,ih];by_cases c:z=y
  .subst c;rw[show eqV (V.str z) (V.str z)=true from beq_self_eq_true z,gW (zF ..)];rfl
  .rw[show eqV (V.str z) (V.str y)=false from beq_false_of_ne c,eK];by_cases m:y∈r
   .rw[gW m,gW (zD _ m)]
   .rw[gX m,gX fun h=>(zO.mp h).elim (fun e=>c e.symm) m]
def qem(nm:List Str):(nm.map V.str).all qd4=true:=by
 rw[List.all_map];exact yA.mpr fun _ _=>rfl
end
theorem jh6:∀{ns:List Int} {its:List uB},qbk (ns.map V.int) its->∃ys:List (Int×Tok),its=ys.map (fun p=>cS p.1 p.2)/\ys.map (·.1)=ns
 | [],_,r=>by cases r;exact⟨[],rfl,rfl⟩
 |n::ns,_,r=>by
  cases r with
  |cons h t=>
   obtain⟨tk,rfl⟩:=h;obtain⟨ys,e1,e2⟩:=jh6 t;exact⟨(n,tk)::ys,by rw[e1];rfl,by rw[zU,e2]⟩
def jj8(ys:List (Int×Tok)):(ys.map (fun p=>cS p.1 p.2)).toArray=intItems ys.toArray:=by
 unfold intItems;simp
def jre(K:uT):List V->Hp->VK->Prop:=fun xs H Q=>∃(p:Addr)(ns:List Int),xs=[.ref p]/\SqL K H p (ns.map V.int)/\0<ns.length/\∀m,m∈ns->(∀a∈ns,a<=m)->Q (.int m) H
section
variable{X:Cx}
def jh7(hc:X.calm=true):qcr X (.builtin "max") (jre X.K):=by
 intro pins s σ H xs us Q I hv h;obtain⟨p,ns,rfl,hS,hn,q⟩:=h;obtain⟨u,rfl,ru⟩:=hv.one
 cases ru
 obtain⟨its,rv,pl,hz⟩:=I.list hS;have hl:=pl.isList;obtain⟨ys,rfl,rfl⟩:=jh6 rv;rw[jj8] at hl;have hsz:0<ys.toArray.size:=by rw[zA] at hn;simpa using hn
 refine max_intList (I.ok.hd hc) hl hsz fun v h' tk hv hk=>?_;obtain⟨t,rfl⟩:=intItems_at hv;obtain⟨h1,h2⟩:=argBest_gt (numAt ys.toArray) (ys.toArray.size-1);refine⟨.int _,H,I.kept (t':=tk) hk,⟨t,rfl⟩,q _ ?_ fun a ha=>?_⟩
 .rw[numAt_eq];have hsy:ys.toArray.size=ys.length:=by simp
  exact getD_mem (show _ <(List.map (fun x:Int×Tok=>x.fst) ys).length by rw[zA];omega)
 .obtain⟨j,hj,rfl⟩:=mem_getD ha;rw[zA] at hj;have z:=h2 j (by have:ys.toArray.size=ys.length:=(by simp);omega);rw[numAt_eq ys.toArray j] at z;exact z
end
section
variable{K:uT}{H:Hp}{Q:VK}{p:Addr}{ns:List Int}
def jrf(hS:SqL K H p (ns.map V.int))(hn:0<ns.length)(h:∀m,m∈ns->(∀a∈ns,a<=m)->Q (.int m) H):jre K [.ref p] H Q:=⟨p,ns,rfl,hS,hn,h⟩
end
def XB(X:Cx)(E:XK)(e:uB)(s':uC):Prop:=∃(a:Addr)(C:uB)(d:Option Addr)(σ':L2.St)(H':Hp),e=.ref a/\Inv X [] σ' H' s'/\E C d H'/\
 ∃(T:Addr)(fl:uB)(σ1:L2.St)(H1:Hp)(s1:uC),Inv X [] σ1 H1 s1/\s1.heap.get? a=none/\s1.heap.get? T=none/\H' a=none/\H' T=none/\XTr s'.heap a C d fl T
abbrev xb(X:Cx)(E:XK):Cx:=X.wish (XB X E)
section
variable{X:Cx}{E:XK}{k:Nat}{f:Addr}{fd:uL}{ps:List Str}{sp:Sp}{dvs:List V}{ds:List uB}{x:Str}{e:vV}
def jnm{pins:List (Addr×Obj)}{σ:L2.St}{H:Hp}{s:uC}{Q:VK}{us:List uB}{vs:List V}(F:jac X.prog X.w X.K X.mg X.base (CX1 X.prog X.w) k f fd ps sp)(hr:jaz k X.A)(hb:qan X.K fd ps ds)(hd:qbk dvs ds)
  (I:Inv (xb X E) pins σ H s)(r:qbk vs us)(h:sp (vs++dvs) H Q E):uV (uX X.prog X.w) X.A (call (.ref f) us) (EP (xb X E) pins σ Q) (XB X E) s:=by
 have r2:qbk (vs++dvs) (us++ds):=r.append hd;have hl:(us++ds).length=ps.length:=by rw[<-r2.length];exact F.len _ _ _ _ h
 refine aC (xA (F.run X.A X.stack s H ⟨us,[]⟩ (us++ds) (vs++dvs) Q E hr I.env0 (hb s us I.kIn hl) r2 h) fun r s' hq=>?_)
 match r,hq with
 | .error e,hq=>
  obtain⟨a,C,d,H',rfl,os,bare,un,hok,la,na,⟨T,lT,nT,x⟩,w⟩:=hq;have J:Inv (xb X E) pins σ H' s':=I.call' (ch:=[]) os un hok bare (fun b z=>absurd z (by simp));exact⟨a,C,d,σ,H',rfl,J.unwish.pins_of (fun _ z=>nomatch z),w,T,.none,σ,H,s,I.unwish.pins_of (fun _ z=>nomatch z),la,lT,na,nT,x⟩
 | .ok (.ret u),hq=>exact I.after hq
 | .ok .next,hq=>exact vP hq
 | .ok .brk,hq=>exact vP hq
 | .ok .cont,hq=>exact vP hq
end
section
variable{X:Cx}{pins:List (Addr×Obj)}{σ:L2.St}{H:Hp}{s:uC}
def jd8{N:List Str}{scope:wY}{cl:List (Str×Addr)}{C0:Addr}{fp:List Addr}(hst:X.stack=X.env::X.outer)(hf:X.env.frame=some X.env.locals)(hex:X.ex=[])(I:Inv X pins σ H s)(hfp:∀b∈fp,jcl X pins H b)(hC:C0=↑s)
  {E:XK}(hx:Xes X fun _=>E){Q:uB->uC->Prop}{acc e:uB}{s':uC}(h:XB (cxC X N scope cl C0 s H fp) E e s'):
  notedBy (uX X.prog X.w) X.A (bC scope cl C0 X.env) (fun e s'=>fZ (uX X.prog X.w) X.A X.xe none Q acc C0 (.error e) s') e s':=by
 obtain⟨a,C,d,σ',H',rfl,J,w,T,fl,σ1,H1,s1,J1,la,lT,na,nT,x⟩:=h;have O:Inv X pins σ H' s':=Inv.uncomp I hfp hC J ⟨rfl,fun _ _=>rfl⟩;have O1:Inv X pins σ H1 s1:=Inv.uncomp I hfp hC J1 ⟨rfl,fun _ _=>rfl⟩;have pn:∀b,s1.heap.get? b=none->∀p∈X.pn++pins,p.1≠b:=fun b lb p hp z=>by
  have w:=(O1.pin p hp).1;rw[z,lb] at w
  cases w
 obtain⟨m,⟨oC,es,ep,hoC,hdC,hsk,hnf⟩,_⟩:=id J.loc;have hoC:s'.heap.get? C0=some oC:=hoC;obtain⟨m1,⟨oC1,_,_,hoC1,_⟩,_⟩:=id J1.loc;have hoC1:s1.heap.get? C0=some oC1:=hoC1;have nC:∀b,s1.heap.get? b=none->C0≠b:=fun b lb z=>by rw[z,lb] at hoC1;cases hoC1
 have fC:jcl X pins H' C0:=I.fpOk (by rw[hC];exact uG _) J.free;obtain⟨g0,g1,g2,g3,g4,g5⟩:=id fC;have P:Inv X (pins++[(C0,oC)]) σ H' s':=O.pins_of fun p hp=>by
  rcases zM.mp hp with z|z
  .exact O.pin p (zI _ z)
  .rw[zE.mp z];exact⟨hoC,g0,g1,g2,fun v z=>by rw[hdC] at z;cases z⟩
 have pn2:∀b,s1.heap.get? b=none->∀p∈X.pn++(pins++[(C0,oC)]),p.1≠b:=fun b lb p hp=>by
  rw[<-bB] at hp;rcases zM.mp hp with z|z
  .exact pn b lb p z
  .rw[zE.mp z];exact nC b lb
 obtain⟨oe,vs,oT,ts,he,hc,hdd,hd,h1,hTe,hT,hdT,h3⟩:=id x;have xin:XIn X (pins++[(C0,oC)]) H' s'.heap a C d:=⟨⟨qg7 O1 hex la,na,pn2 a la,⟨oe,vs,he,hd⟩⟩,.inr ⟨T,⟨qg7 O1 hex lT,nT,pn2 T lT,⟨oT,ts,hT,hdT⟩⟩,fl,x⟩⟩;show uV _ _ (noteFrame (.ref a) X.env) _ _ s';refine jg7 P P.ok.frames hst hf xin fun s2 I2 x2=>?_;have hC2:s2.heap.get? C0=some oC:=(I2.pin (C0,oC) (zI _ (zI _ (zE.mpr rfl)))).1;refine⟨m,⟨oC,es,ep,hC2,hdC,hsk,hnf⟩,fun h' sb cenv _=>?_⟩;obtain⟨r2,T2,rT2,oe2,vs2,oT2,ts2,he2,hc2,hdd2,hd2,h12,hTe2,hT2,hdT2,h32⟩:=x2;have ne1:a≠C0:=(nC a la).symm;have ne2:T2≠C0:=fun z=>rT2.pin (C0,oC) (zI _ (zI _ (zE.mpr rfl))) z.symm;have I3:Inv X pins σ H' {s2 with heap:=h'}:=I2.unpinned.turned (t':=s2.toks) (fun b o hb e=>(sb.2 b hb).trans e) g0 g1 g3 g4 g5;have he3:h'.get? a=some oe2:=(sb.2 a ne1).trans he2;have hT3:h'.get? T2=some oT2:=(sb.2 T2 ne2).trans hT2;have lessP:∀{b:Addr},(∀p∈X.pn++(pins++[(C0,oC)]),p.1≠b)->∀p∈X.pn++pins,p.1≠b:=fun {b} hh p hp=>hh p (by
  rcases zM.mp hp with z|z
  .exact zP _ z
  .exact zI _ (zP _ z))
 have xh:qez X pins H' h' a C d (xN X.env.locals):=⟨⟨r2.nw,r2.un,lessP r2.pin,⟨oe2,vs2,he3,hd2⟩⟩,T2,⟨rT2.nw,rT2.un,lessP rT2.pin,⟨oT2,ts2,hT3,hdT2⟩⟩,oe2,vs2,oT2,ts2,he3,hc2,hdd2,hd2,h12,hTe2,hT3,hdT2,h32⟩;unfold PySem.passOn;refine uE (cI he3 hd2 h12 ?_);have fin:uV (uX X.prog X.w) X.A (do gM (.ref a) cenv.frame;throw (.ref a):Sem uB) (fun _ _=>False) X.xe {s2 with heap:=h'}:=
  uE (qgt cenv.frame I3 xh fun s4 I4 x4=>wpAny_throw (hx pins σ H' s4 a C d I4 x4.xin w))
 first
  |(rw[gT (show ¬((uQ T2==wI)=true) from by simp)];exact fin)
  |(rw[gT (show ¬((uQ T2==wI)=true) from by simp)];exact uE (vC fin))
  |(refine uE ?_;rw[gT (show ¬((uQ T2==wI)=true) from by simp)];exact vC fin)
end
section
variable{X:Cx}
def jj9{E:XK}{elt iter:vV}{x:Str}{px:Pos}{ifs:List vV}{scope:wY}{cl:List (Str×Addr)}{pos:Pos}{caps:List Nat}{cn:List Str}{wi:TI}{tt:CT TT}{te:CT TE}(hst:X.stack=X.env::X.outer)(hf:X.env.frame=some X.env.locals)(hex:X.ex=[])(hx:Xes X fun _=>E)(Cp:jow X x scope cl caps cn)(hc:X.calm=true)
  (hi:PI X (.Name x px) iter wi)(ht:∀C s H fp,jov (cxC X (x::cn) scope cl C s H fp) ifs (tt C s H fp))(he:∀C s H fp,PE (xb (cxC X (x::cn) scope cl C s H fp) E) elt (te C s H fp))
  (hs:∀x,cH iter X.env x=pure x:=by intro _;rfl):
  PE X (.ListComp elt [⟨.Name x px,iter,ifs,0⟩] scope pos) (jhb wi caps tt te):=by
 intro pins s σ H Q I h;rw[eval_ListComp];refine cP (use:=none) rfl hs Cp.clos Cp.kind Cp.names (thn (hi pins s σ H _ I h) fun v s1 h1=>thn h1 fun itv s2 h2=>qgv Cp hc ht h2 (fun acc s3 H3 fp I3 f3 pn s9 τ H9 R I9 q9=>vS (he _ _ _ _ pn s9 τ H9 R (I9.wish _) q9) (fun _ _ ⟨w,H10,Iw,r⟩=>⟨w,H10,Iw.unwish,r⟩) fun e' s' q=>jd8 hst hf hex I3 f3 rfl hx q) fun acc s3 H3 fp I3 f3 τ H5 s6 v I6 q=>?_);obtain⟨m,hm,_⟩:=id I6.loc;exact⟨m,hm,fun h' sb=>⟨.ref acc,H5,Inv.uncomp I3 f3 rfl I6 sb,rfl,q⟩⟩
end
end My
namespace My
open PySem PySem.Spec PyProof.Rows L2 PyProof PySem.Builtin.Str
end My
namespace My
open PySem PySem.Spec PyProof.Rows L2 PyProof PySem.Builtin.Str PySem.StrLaws
def hits(l:List Nat)(c:Nat)(is:List Nat):List Nat:=is.filter fun i=>decide (l[i]?=some c)
end My
namespace My
open PySem PySem.Spec PyProof.Rows L2 PyProof PySem.Builtin.Str PySem.NumText
def dg(m:Nat):List Nat:=(Nat.toDigits 10 m).map Char.toNat
end My
namespace My
open PySem PySem.Spec PyProof.Rows L2 PyProof PySem.Builtin.Str
end My
namespace My
open PySem PySem.Spec PyProof.Rows L2 PySem.Builtin
end My
namespace My
open PySem PySem.Spec PyProof.Rows L2
end My
namespace My
open PySem PySem.Spec PyProof.Rows L2 PyProof PySem.SeqAt
def jrg(z:Str):uB->Bool
 | .str a _=>a==z
 |_=>false
theorem jd9(z:Str):∀{us:List uB} {ss:List Str},gB us ss->∀(j:Nat)(h1:j<us.length)(h2:j<ss.length),jrg z us[j]=(ss[j]==z)
 |_,_,.nil,j,h1,_=>absurd h1 (dH j)
 |_,_,.cons x t h,0,_,_=>rfl
 |_,_,.cons x t h,j+1,h1,h2=>jd9 z h j (dC h1) (dC h2)
theorem jh8{A:vR}{s:uC}(z:Str)(t:Tok):∀{us:List uB} {ss:List Str},gB us ss->∀y∈us,EqAt A s y (.str z t) (jrg z y)
 |_,_,.nil,y,h=>by simp at h
 |_,_,.cons x u r,y,h=>by
  rcases zO.mp h with rfl|h
  .exact EqAt.str_str x u z t
  .exact jh8 z t r y h
theorem jly{z:Str}:∀{ss:List Str} {j:Nat} (h:j<ss.length),j<ss.idxOf z->ss[j]≠z
 | [],j,h,_=>absurd h (dH j)
 |x::ss,0,_,hj=>fun e=>by
  have e:x=z:=e;rw[List.idxOf_cons,e] at hj;simp at hj
 |x::ss,j+1,h,hj=>by
  rw[List.idxOf_cons] at hj
  cases c:(x==z) with
  |true=>rw[c] at hj;simp at hj
  |false=>
   rw[c] at hj;exact jly (dC h) (by simpa using hj)
section
variable{X:Cx}
def jrh(K:uT):V->List V->Hp->VK->Prop:=fun x xs H Q=>∃(l:Addr)(ss:List Str)(z:Str),x=.ref l/\xs=[.str z]/\SqL K H l (ss.map V.str)/\z∈ss/\Q (.int ((ss.idxOf z:Nat):Int)) H
def jnn:MtR X "list.index" (jrh X.K):=by
 intro pins s σ H x xs v us Q I rx rv h;obtain⟨l,ss,z,rfl,rfl,hS,hz,q⟩:=h
 cases rx
 obtain⟨u,rfl,ru⟩:=rv.one;obtain⟨t,rfl⟩:=ru;obtain⟨its,r1,pl,hz'⟩:=I.list hS;have sa:=qgj r1;have hlen:=r1.length;rw[zA] at hlen;obtain⟨⟨cls,dd,data,sl⟩,ho,hc,n,hd⟩:=id pl.isList;simp only at hc hd;subst hc hd;have hj:ss.idxOf z<ss.length:=List.idxOf_lt_length_iff.mpr hz;have hz2:ss.length<=16777216:=by rw[zA] at hz';exact hz'
 refine fE PySem.F.slot_list_index ⟨_,ho,rfl⟩ PySem.F.entry_list_index (PySem.F.args_list_index_2 _ _)
  (list_indexAt l its.toArray n dd sl (.str z t) (jrg z) (ss.idxOf z) (by simp;omega) ↑∅ ?_ ?_) ⟨ho,fun y hy=>jh8 z t sa y (by simpa using hy),.int ((ss.idxOf z:Nat):Int),H,I.tok _,⟨_,rfl⟩,q⟩
 .show jrg z its[ss.idxOf z]=true;rw[jd9 z sa _ ↑∅ hj];simpa using List.getElem_idxOf hj
 .intro j hjs hlt;show jrg z its[j]=false;rw[jd9 z sa j (by simpa using hjs) ↑∅];exact beq_false_of_ne (jly _ hlt)
end
section
variable{K:uT}{H:Hp}{Q:VK}
def jri{l:Addr}{ss:List Str}{j:Nat}(h:SqL K H l (ss.map V.str))(nd:ss.Nodup)(hj:j<ss.length)(q:Q (.int (j:Int)) H):jrh K (.ref l) [.str ss[j]] H Q:=⟨l,ss,ss[j],rfl,rfl,h,yB hj,by
 have e:ss.idxOf ss[j]=j:=List.Nodup.idxOf_getElem nd j hj;rw[e];exact q⟩
end
end My
namespace My
open PySem PySem.Spec PyProof.Rows L2
end My
namespace My
open PySem PySem.Spec PyProof.Rows L2 PyProof PySem.SeqAt
end My
namespace My
open PySem PySem.Spec PyProof.Rows L2
section
variable{K:uT}{H:Hp}{p:Addr}{n:Int}{xs:List V}
def jka{n:Nat}{a b:Addr}(ha:SqL K H a xs)(hb:SqL K H b [])(ne:a≠b):DEq K H (n+1) (.ref a) (.ref b) (decide (xs=[])):=by
 cases xs with
 |nil=>
  have z:=DEq.ls (n:=n) (e:=fun _=>true) ha hb ne rfl (fun j h1 h2=>absurd h1 (dH j));exact z
 |cons p r=>exact DEq.lsN ha hb ne (by simp)
end
inductive PEq(K:uT)(H:Hp):Nat->V->V->Bool->Prop
 |same{n:Nat}{a:Addr}:PEq K H n (.ref a) (.ref a) true
 |flat{n:Nat}{x y:V}(hx:qd4 x=true)(hy:qd4 y=true):PEq K H n x y (eqV x y)
 |ls{n:Nat}{a b:Addr}{xs ys:List V}{e:Nat->Bool}(ha:SqL K H a xs)(hb:SqL K H b ys)(ne:a≠b)(hl:xs.length=ys.length)
   (he:∀j (h1:j<xs.length) (h2:j<ys.length),PEq K H n xs[j] ys[j] (e j)):PEq K H (n+1) (.ref a) (.ref b) ((vG xs.length).all e)
 |lsN{n:Nat}{a b:Addr}{xs ys:List V}(ha:SqL K H a xs)(hb:SqL K H b ys)(ne:a≠b)(hl:xs.length≠ys.length):PEq K H (n+1) (.ref a) (.ref b) false
 |ts{n:Nat}{a b:Addr}{xs ys:List V}{e:Nat->Bool}(ha:SqT K H a xs)(hb:SqT K H b ys)(ne:a≠b)
   (he:∀j (h1:j<xs.length) (h2:j<ys.length),PEq K H n xs[j] ys[j] (e j)):PEq K H (n+1) (.ref a) (.ref b) ((vG (min xs.length ys.length)).all e && xs.length==ys.length)
section
variable{X:Cx}{pins:List (Addr×Obj)}{σ:L2.St}{H:Hp}{s:uC}
def jrj(I:Inv X pins σ H s){n:Nat}{x y:V}{k:Bool}(q:PEq X.K H n x y k):∀(A:vR)(u v:uB),qb6 x u->qb6 y v->A.units+n<cLine->SeqAt.EqAt A s u v k:=by
 induction q with
 | @same n a=>
  intro A u v ru rv hu;obtain rfl:u=uQ a:=ru;obtain rfl:v=uQ a:=rv;exact SeqAt.EqAt.same _
 |flat hx hy=>
  intro A u v ru rv hu;exact je7 ru rv hx hy
 | @ls n a b xs ys e ha hb ne hl he ih=>
  intro A u v ru rv hu;obtain rfl:u=uQ a:=ru;obtain rfl:v=uQ b:=rv;obtain⟨its,r1,p1,_⟩:=I.list ha;obtain⟨its2,r2,p2,_⟩:=I.list hb;have l1:=r1.length;have l2:=r2.length;have z:=SeqAt.RcAt.lists (A:=A) (s:=s) (e:=e) (PlainL.isList p1) (PlainL.isList p2) (by rw[zK,zK];omega) ↑∅ fun j h1 h2=>by
   have k1:j<its.length:=by simpa using h1
   have k2:j<its2.length:=by simpa using h2
   have w:=ih j ↑∅ ↑∅ A.in1 its[j] its2[j] (qcw r1 ↑∅ k1) (qcw r2 ↑∅ k2) (by show A.units+1+n<cLine;omega);simpa using w
  rw[zK,<-l1] at z;exact fK ne z
 | @lsN n a b xs ys ha hb ne hl=>
  intro A u v ru rv hu;obtain rfl:u=uQ a:=ru;obtain rfl:v=uQ b:=rv;obtain⟨its,r1,p1,_⟩:=I.list ha;obtain⟨its2,r2,p2,_⟩:=I.list hb;have l1:=r1.length;have l2:=r2.length;exact fK ne (SeqAt.RcAt.lists_lengths (PlainL.isList p1) (PlainL.isList p2) (by rw[zK,zK];simp;omega) ↑∅)
 | @ts n a b xs ys e ha hb ne he ih=>
  intro A u v ru rv hu;obtain rfl:u=uQ a:=ru;obtain rfl:v=uQ b:=rv;obtain⟨its,r1,p1,_⟩:=I.tuple ha;obtain⟨its2,r2,p2,_⟩:=I.tuple hb;have l1:=r1.length;have l2:=r2.length;have z:=SeqAt.RcAt.tuples (A:=A) (s:=s) (e:=e) p1 p2 ↑∅ fun j h1 h2=>by
   have k1:j<its.length:=by simpa using h1
   have k2:j<its2.length:=by simpa using h2
   have w:=ih j ↑∅ ↑∅ A.in1 its[j] its2[j] (qcw r1 ↑∅ k1) (qcw r2 ↑∅ k2) (by show A.units+1+n<cLine;omega);simpa using w
  rw[zK,zK,<-l1,<-l2] at z;exact fK ne z
def jno{xs:List V}{us:List uB}(r:qbk xs us){u:uB}(hu:u∈us):∃x∈xs,qb6 x u:=by
 obtain⟨j,hj,e⟩:=zS.mp hu;have hl:=r.length;exact⟨xs[j]'↑∅,yB _,by rw[<-e];exact qcw r ↑∅ hj⟩
end
section
variable{X:Cx}{E:XK}{k:Nat}{f C:Addr}{fd:uL}{ps:List Str}{ds:List uB}{dvs:List V}{sp:Sp}{m:Str}{apos pos:Pos}{o e:vV}{es:List vV}{ta:TE}{t:TA}
def jh9{pl:Sem Bool}(he:PE (xb X E) o ta)(c:Cls X.K C)(hm:jao X.K C m f)(F:jac X.prog X.w X.K X.mg X.base (CX1 X.prog X.w) k f fd ps sp)(hr:jaz k X.A)(hb:qan X.K fd ps ds)(hd:qbk dvs ds)(ha:PA (xb X E) (e::es) t)
  (hst:uZ (e::es) X.env=(false,wK e X.env)::uZ es X.env:=by rfl)(hpl:(wQ pos (uZ es X.env)).any (·.1)=false:=by rfl)
  (ht:wK (.Call (.Attribute o m apos) (e::es) [] pos) X.env=(do
   let ov<-wK o X.env
   standAt apos.atName
   let (f,first)<-fO [ov] (cU ov m pl)
   dQ pos f first (wQ pos (uZ (e::es) X.env)) (cB pos (aB [] X.env))):=by rfl):
  PE (xb X E) (.Call (.Attribute o m apos) (e::es) [] pos) (jfk C m sp dvs (fun _=>E) ta t):=by
 intro pins s σ H Q I h;refine yU (pl:=pl) (thn (he pins s σ H _ I h) fun u s1 ⟨x,H1,I1,rx,a,dx,fs,ex,ea,l,q⟩=>?_) ht;subst ex;obtain rfl:u=uQ a:=rx;refine qd3 I1 ea c hm l (xE (first:=[.ref a]) (h₀:=X.base) I.ok.mod.kin hm.kp (thn (ha pos pins s1 σ H1 _ I1 q) fun us s2 ⟨vs,H2,I2,r,q2⟩=>⟨I2.kIn,?_⟩) hst hpl);exact jnm (us:=.ref a::us) (vs:=.ref a::vs) F hr hb hd I2 (.cons rfl r) q2
end
end My
namespace My
open PySem PySem.Spec PyProof.Rows L2 PyProof PySem.SeqAt
end My
namespace My
open PySem PySem.Spec PyProof.Rows L2 PySem.W
structure SO(n:Nat)(lt:Nat->Nat->Bool):Prop where
 tr:∀i j k,i<n->j<n->k<n->lt i j=true->lt j k=true->lt i k=true
 to:∀i j,i<n->j<n->i≠j->lt i j=false->lt j i=true
abbrev gt0(p:Array Nat)(i:Nat):Nat:=p.getD i 0
structure Pm(n:Nat)(p:Array Nat):Prop where
 pm:p.Perm (List.toArray (vG n))
def Dn(lt:Nat->Nat->Bool)(p:Array Nat)(m:Nat):Prop:=∀i j,i<j->j<m->lt (gt0 p j) (gt0 p i)=true
end My
namespace My
open PySem PySem.Spec PyProof.Rows L2
end My
namespace My
open PySem PySem.Spec PyProof.Rows L2 PySem.W
def jnp{kvs:List (Key×V)}{vs:List (Key×uB)}(rel:KV kvs vs):qbk (kvs.map (·.2)) (vs.map (·.2)):=by
 induction rel with
 |nil=>exact .nil
 |cons r _ ih=>exact .cons r.2 ih
section
variable{X:Cx}
def jlz:List V->Hp->VK->Prop:=fun xs H Q=>∃(v p:Addr)(kvs:List (Key×V)),xs=[.ref v]/\H v=some (jh5 v p)/\Rd H p (.dK kvs)/\∀l,H l=none->Q (.ref l) (upd H l (.lst (kvs.map (·.2))))
def jga(hc:X.calm=true):qcr X (.type "list") jlz:=by
 intro pins s σ H xs us Q I hv h;obtain⟨v,p,kvs,rfl,ev,hR,q⟩:=h;obtain⟨u,rfl,ru⟩:=hv.one
 cases ru
 have ok:=hR.ok I.hok;have hz:kvs.length<=sizeLine:=ok.1;obtain⟨o,es,ep,vs,ho,hd,rel,dat,hs⟩:=jhp ok;obtain⟨hv1,_⟩:=I.hok v _ ev;have hlen:=rel.length;refine kdl_call (kdl_values (knd:=qbc X.prog X.w) (r:=v) (d:=p) (kvs:=vs) (ep:=ep)) (I.ok.hd hc) ⟨hv1,dat⟩ ↑∅ fun h' tk acc c hk hD hacc=>?_;have e1:=kdl_vals_eq (kvs:=vs) acc.toList (by rw[bU];exact hacc.1) fun j u hu=>hacc.2 j u (by rw[<-bJ];exact hu);have rv:qbk (kvs.map (·.2)) acc.toList:=by
  rw[e1];exact jnp rel
 have hg:s.heap.get? ↑s=none:=yZ (uG _);obtain⟨hn,I2⟩:=Inv.laidN I (h':=h') (a:=↑s) (o:=.lst (kvs.map (·.2))) (t':=tk) hk hg ⟨by rw[zA];exact hz,acc.toList,c,rv,by rw[Array.toArray_toList];exact hD⟩;exact⟨.ref _,_,I2,rfl,q _ hn⟩
end
def jnq{H:Hp}{Q:VK}{v p:Addr}{kvs:List (Key×V)}(ev:H v=some (jh5 v p))(h:Rd H p (.dK kvs))(q:∀l,H l=none->Q (.ref l) (upd H l (.lst (kvs.map (·.2))))):jlz [.ref v] H Q:=⟨v,p,kvs,rfl,ev,h,q⟩
def jsm:uB->V
 | .none=> .non
 | .bool b=> .bl b
 | .int i _=> .int i
 | .str x _=> .str x
 | .bytes b _=> .byt b
 | .float b _=> .flt b
 | .ref a=> .ref a
 | .type n=> .ty n
 |_=> .non
def jl0{x:V}{u:uB}(h:L2.qb6 x u):jsm u=x:=by
 cases x with
 |non=>have h:u=_:=h;subst h;rfl
 |bl b=>have h:u=_:=h;subst h;rfl
 |int i=>obtain⟨t,rfl⟩:=h;rfl
 |str i=>obtain⟨t,rfl⟩:=h;rfl
 |byt i=>obtain⟨t,rfl⟩:=h;rfl
 |flt i=>obtain⟨t,rfl⟩:=h;rfl
 |ref a=>have h:u=_:=h;subst h;rfl
 |ty n=>have h:u=_:=h;subst h;rfl
def jkb{x y:V}{u:uB}(h:L2.qb6 x u)(h':L2.qb6 y u):x=y:=(jl0 h).symm.trans (jl0 h')
section
variable{X:Cx}
def jwp(K:uT):R2:=fun x y H Q=>∃(p:Addr)(xs:List V)(e:V->Bool),y=.ref p/\SqL K H p xs/\(∀v∈xs,∃n,n<=7/\PEq K H n v x (e v))/\Q (.bl (xs.any e)) H
def jrk(hu:X.A.units+8<cLine):OpR X (wD .In) (jwp X.K):=by
 intro pins s σ H x y v u Q I rx ry h;obtain⟨p,xs,e,rfl,hq,he,q⟩:=h
 cases ry
 obtain⟨its,r,pl,hz⟩:=I.list hq
 classical
 have key:∀(z:uB)(a:V),a∈xs->L2.qb6 a z->decide (∃b∈xs,L2.qb6 b z/\e b=true)=e a:=fun z a ha ra=>by
  cases c:e a with
  |true=>exact gW ⟨a,ha,ra,c⟩
  |false=>
   refine gX ?_;rintro⟨b,_,rb,eb⟩;rw[jkb rb ra,c] at eb
   cases eb
 have ea:its.toArray.any (fun z=>decide (∃b∈xs,L2.qb6 b z/\e b=true))=xs.any e:=by
  rw[List.any_toArray,xJ,yM,yM];constructor
  .rintro⟨z,hz,hd⟩;obtain⟨b,hb,_,eb⟩:=of_decide_eq_true hd;exact⟨b,hb,eb⟩
  .rintro⟨b,hb,eb⟩;obtain⟨j,hj,rfl⟩:=zS.mp hb;have hl:=r.length;exact⟨its[j]'↑∅,yB _,gW ⟨_,hb,qcw r hj ↑∅,eb⟩⟩
 refine SeqAt.in_listAt (fun z=>decide (∃b∈xs,L2.qb6 b z/\e b=true)) pl.isList (fun z hz=>?_) ⟨.bl _,H,I,rfl,by rw[ea];exact q⟩;have hz:z∈its:=by simpa using hz
 obtain⟨a,ha,ra⟩:=jno r hz;obtain⟨n,hn,pe⟩:=he a ha;have w:=jrj I pe X.A.in1 z v ra rx (by show X.A.units+1+n<cLine;omega);rw[key z a ha ra];exact w
end
structure Rw2 where
 a:Addr
 n:Str
 r:List V
def lt2(a b:Rw2):Bool:=decide (a.n.cps.toList<b.n.cps.toList)
end My
namespace My
open PySem PySem.Spec PyProof.Rows L2
variable{b c:Addr}{P:uW}{w:vL}{H:Hp}{h:vQ}
@[irreducible] def PSsx(X:Cx)(l:List Stmt)(t:TS):Prop:=PSs X l t
@[irreducible] def PEx(X:Cx)(e:vV)(t:TE):Prop:=PE X e t
@[irreducible] def PAx(X:Cx)(es:List vV)(t:TA):Prop:=PA X es t
section
variable{X:Cx}
def jkc{pos:Pos}{i:Nat}{x:Str}{e:vV}{te:TE}{pos':Pos}{rest:List Stmt}{u:TS}(hN:X.N.Nodup)(hi:X.N[i]?=some x)(hx:L2.Loc X.env.scope x)(he:PEx X e te)(h2:PSs X rest u)
  (hs:dZ e (some (Expr.Name x pos')) pos.line X.env=pure false:=by rfl)(hf:X.fn x=true\/aT x X.env.scope.names=some NameKind.local:=by first|exact .inl rfl|exact .inr rfl|assumption):
  PSsx X (.Assign [.Name x pos'] e pos::rest) (jsn (jpd te (qek i)) u):=by
 unfold PEx at he;unfold PSsx;exact qa2 (qad hN hi hx he hs hf) h2
def jnr:PAx X [] jpm:=by unfold PAx;exact qa3
def qf5{e:vV}{es:List vV}{te:TE}{t:TA}(h:PE X e te)(hr:PAx X es t)(hs:uZ (e::es) X.env=(false,wK e X.env)::uZ es X.env:=by rfl):PAx X (e::es) (jmq te t):=by
 unfold PAx at*;exact qa0 h hr hs
def jns{es:List vV}{t:TA}{b:vV}{tb:TE}{p p':Pos}(hl:PAx X es t)(hb:PE X b tb)(hsl:jgw b):PEx X (.Subscript (.List es p) b p') (tOp (jse X.K) (jsp t) tb):=by
 unfold PAx at hl;unfold PEx;exact qam qaq (qbd hl) hb hsl
end
def jud(p:Addr)(H:Hp):Prop:=∀b,H b=none\/(∃o xs,H b=some (.frz o (.lst xs)))\/(b=p/\H b=some (.tbl #[]))
def jia{P:uW}{w:vL}{K:uT}{mg mb:Str->Option uB}{CX:CXT}{k:Nat}{fa a p c:Addr}{fd:uL}{x:Str}{sp:Sp}{s₁:uC}{vs:List uB}{ns:List Int}
  (KX:K.In s₁.heap)(hns:s₁.heap.Ns uS mg)(hb:s₁.heap.Ns eS mb)(hbb:∀x:Str,x≠"__name__"->mb x=aW x)(hlim:s₁.heap.NoLimit)(hg:s₁.gens= #[])
  (ha:s₁.heap.get? a=some {cls:=.type "list",data:=.seq vs.toArray})(hi:IntsAre vs ns)(hl:ns.length<=sizeLine)(hr:jaz k fV)
  (hT:s₁.heap.TableAt c p #[])(hKp:K.lookup p=none)
  (F:∀base:vQ,K.In base->base.Ns uS mg->(∀b o,s₁.heap.get? b=some o->b≠a->b≠p->base.get? b=some o)->jac P w K mg base CX k fa fd [x] sp)(hbind:∀(s:uC)(u:uB),cZ s fd ⟨[u],[]⟩ [(x,u)])
  (hsp:∀H:Hp,H p=some (.tbl #[])->SqL K H a (ns.map V.int)->sp [.ref a] H (fun v _=>v=.bl true) fun _ _ _=>False)
  (hCX:∀H e s',CX [] H s₁ (fun _ _ _=>False) e s'->False):
  bP (uX P w) fV (.call (.ref fa) ⟨[.ref a],[]⟩) (fun r s'=>r=.ok (.ret (.bool true))/\OldK s₁.heap s'.heap/\s'.os=s₁.os/\cF s'.gens) s₁:=by
 have rv:=jcz hi;have lenV:=hi.length;have hTo:s₁.heap.get? p=some {cls:=.none,data:=.fields #[]}:=hT.2;have npa:p≠a:=fun z=>by subst z;rw[ha] at hTo;cases hTo
 have core:∀H:Hp,jud p H->H p=some (.tbl #[])->SqL K H a (ns.map V.int)->HOk P w H s₁.heap->(∀b,H b≠none->b=a\/b=p)->(H a≠none->K.lookup a=none)->
   bP (uX P w) fV (.call (.ref fa) ⟨[.ref a],[]⟩) (fun r s'=>r=.ok (.ret (.bool true))/\OldK s₁.heap s'.heap/\s'.os=s₁.os/\cF s'.gens) s₁:=by
  intro H hO hp hS hok hA hK;have base_of:∀{b:Addr} {o:Obj},s₁.heap.get? b=some o->H b=none->(jjk s₁.heap H).get? b=some o:=fun e n=>jjm e n;have noA:∀{b:Addr} {o:Obj} {es:Array DictEntry} {ep:Nat},s₁.heap.get? b=some o->o.data=.dict es ep->H b=none:=fun {b o es ep} e d=>by
   cases q:H b with
   |none=>rfl
   |some u=>
    rcases hA b (by rw[q];simp) with e'|e'
    .subst e';rw[ha] at e;cases e;have d':Data.seq vs.toArray _=Data.dict es ep:=d
     cases d'
    .subst e';rw[hTo] at e;cases e;have d':Data.fields #[]=Data.dict es ep:=d
     cases d'
  have nsK:∀{b:Addr} {m:Str->Option uB},s₁.heap.Ns b m->(jjk s₁.heap H).Ns b m:=fun {b m} ⟨o,es,ep,e,d,r⟩=>⟨o,es,ep,base_of e (noA e d),d,r⟩;have hKb:K.In (jjk s₁.heap H):=fun b o e=>base_of (KX b o e) (by
   cases q:H b with
   |none=>rfl
   |some u=>
    rcases hA b (by rw[q];simp) with e'|e'
    .subst e';rw[hK (by rw[q];simp)] at e;cases e
    .subst e';rw[hKp] at e;cases e)
  have hM:Mod K mg (jjk s₁.heap H):=⟨hKb,nsK hns,⟨mb,nsK hb,hbb⟩,let ⟨mc,h1,h2⟩:=hlim;⟨mc,nsK h1,h2⟩⟩;have e0:jjr P w K mg (jjk s₁.heap H) fV [] s₁ H:=⟨rfl,hM,fun b o e=>jmg e,Nat.le_of_eq (jgi _ _),trivial,fun b hb=>absurd (show b∈([]:List Addr) from hb) (by simp),hok,.of_eq hg⟩;have hbase:∀b o,s₁.heap.get? b=some o->b≠a->b≠p->(jjk s₁.heap H).get? b=some o:=fun b o e n1 n2=>base_of e (by
   cases q:H b with
   |none=>rfl
   |some u=>exact absurd (hA b (by rw[q];simp)) (by simp[n1,n2]))
  refine xA ((F _ hKb (nsK hns) hbase).run fV [] s₁ H ⟨[.ref a],[]⟩ [.ref a] [.ref a] _ _ hr e0 (hbind s₁ (.ref a)) (.cons rfl .nil) (hsp H hp hS)) fun r s' h=>?_
  cases r with
  |error e=>exact(hCX H e s' h).elim
  |ok fl=>
   cases fl with
   |next=>exact vP h
   |brk=>exact vP h
   |cont=>exact vP h
   |ret u=>
    obtain⟨v,H',os,bare,un,hok',r',q⟩:=h;have q':v=.bl true:=q;subst q';obtain rfl:u=eR true:=r';have main:∀b o,s₁.heap.get? b=some o->b≠p->s'.heap.get? b=some o:=fun b o e np=>by
     cases q:H b with
     |none=>exact un.keep b o e q (by intro z;exact absurd (show b∈([]:List Addr) from z) (by simp)) (by simp)
     |some u=>
      rcases hO b with z|⟨ob,xs,z⟩|⟨z,_⟩
      .rw[q] at z;cases z
      .have z2:=un.frzs b ob _ z;obtain⟨e1,_⟩:=hok b _ z;obtain⟨e2,_⟩:=hok' b _ z2;rw[e] at e1;cases e1;exact e2
      .exact absurd z np
    obtain⟨more,hp'⟩:=un.tbls p #[] hp;have ep':s'.heap.get? p=some {cls:=.none,data:=.fields (#[]++more)}:=hok' p _ hp';refine⟨rfl,⟨fun b o e=>?_,fun b o e=>?_⟩,os,bare⟩
    .by_cases hb:b=p
     .subst hb;rw[hTo] at e
      cases e
      exact .inr (.inl ⟨hT.isCodeTable,rfl,#[],more,rfl,ep'⟩)
     .exact .inl (main b o e hb)
    .by_cases hb:b=p
     .subst hb;exact⟨_,ep'⟩
     .exact⟨o,main b o e hb⟩
 have okP:∀H:Hp,qbq P w H s₁.heap p (.tbl #[]):=fun H=>hTo
 cases hk:K.lookup a with
 |some o=>
  have e:=KX a o hk;rw[ha] at e
  cases e
  refine core (fun b=>if b=p then some (.tbl #[]) else none) (fun b=>?_) (gU rfl) (.inr ⟨_,vs.toArray,_,hk,rfl,rfl,rfl,by rw[zK,lenV];exact hl,by simpa using rv⟩) (fun b u z=>?_) (fun b z=>?_) fun z=>absurd (gT npa.symm) z
  .by_cases hb:b=p
   .exact .inr (.inr ⟨hb,gU hb⟩)
   .exact .inl (gT hb)
  .by_cases hb:b=p
   .have z':=(gU hb).symm.trans z
    cases z'
    subst hb;exact okP _
   .have z':=(gT hb).symm.trans z
    cases z'
  .by_cases hb:b=p
   .exact .inr hb
   .exact absurd (gT hb) z
 |none=>
  refine core (fun b=>if b=p then some (.tbl #[]) else if b=a then some (.frz {cls:=.type "list",data:=.seq vs.toArray} (.lst (ns.map V.int))) else none) (fun b=>?_) (gU rfl) (.inl (.inr ⟨{cls:=.type "list",data:=.seq vs.toArray},?_⟩)) (fun b u z=>?_) (fun b z=>?_) fun _=>hk
  .by_cases hb:b=p
   .exact .inr (.inr ⟨hb,gU hb⟩)
   .by_cases hb2:b=a
    .exact .inr (.inl ⟨_,_,(gT hb).trans (gU hb2)⟩)
    .exact .inl ((gT hb).trans (gT hb2))
  .exact(gT npa.symm).trans (gU rfl)
  .by_cases hb:b=p
   .have z':=(gU hb).symm.trans z
    cases z'
    subst hb;exact okP _
   .by_cases hb2:b=a
    .have z':=((gT hb).trans (gU hb2)).symm.trans z
     cases z'
     subst hb2;exact⟨ha,by rw[zA];exact hl,vs,_,rv,ha⟩
    .have z':=((gT hb).trans (gT hb2)).symm.trans z
     cases z'
  .by_cases hb:b=p
   .exact .inr hb
   .by_cases hb2:b=a
    .exact .inl hb2
    .exact absurd ((gT hb).trans (gT hb2)) z
def jsj(mg:Str->Option uB)(h:vQ):Prop:=∃bm o,mg "__builtins__"=some (.ref bm)/\bm≠eS/\bm≠uS/\h.get? bm=some o/\o.cls=.type "module"/\o.dict=some eS/\o.data=.plain
def jkd{l:PySem.W.OpenLaw}{n k:Nat}{q:uW}{loose:List Str}{XP:(Str->Option uB)->vQ->Prop}{YP:vL->vQ->Prop}{d dy:DefRec}{K:Params->uT}{CX:vL->CXT}{sp:vL->Addr->Addr->Sp}{x y:Str}
  (hn:l.most=some n)(hn2:n<=sizeLine)(hdf:d.params.defaults=[])(hr:jaz k fV)
  (hY:∀(w:vL)(h:vQ),YP w h->(K w.params).In h)
  (hrec:(PyProof.Rows.recsOf q).find? (fun e=>e.name==y)=some dy)(tab:∀w:vL,∃c p,tabIn (K w.params) y=some (c,p)/\(K w.params).lookup p=none)
  (F:∀(w:vL)(mg:Str->Option uB)(fa:Addr)(h:vQ)(c p:Addr),(K w.params).In h->h.Ns uS mg->mg d.name=some (.ref fa)->tabIn (K w.params) y=some (c,p)->
   ∃fd:uL,(∀(s:uC)(u:uB),cZ s fd ⟨[u],[]⟩ [(x,u)])/\
    ∀base:vQ,(K w.params).In base->base.Ns uS mg->dR base c p->jsj mg base->jac l.prog w (K w.params) mg base (CX w) k fa fd [x] (sp w c p))
  (hsp:∀(w:vL)(c p:Addr)(H:Hp)(a:Addr)(ns:List Int),ns.length<=n->H p=some (.tbl #[])->SqL (K w.params) H a (ns.map V.int)->sp w c p [.ref a] H (fun v _=>v=.bl true) fun _ _ _=>False)
  (hCX:∀(w:vL)(H:Hp)(s:uC)(e:uB)(s':uC),CX w [] H s (fun _ _ _=>False) e s'->False):
  PySem.W.WalkO q loose XP YP l.row.toRowW d [] (fun f vs=>PySem.call f vs):=by
 refine Att.attach_call hn hdf fun w s₀ s₁ mg mb fa o pm cd doc a vs ns G Y ho hd hcd hmg hobj hints hlen hg=>?_;have KX:=hY w _ Y;obtain⟨c,p,ht,hKp⟩:=tab w;obtain⟨hc,hp⟩:=PySem.W.tab_of G.T KX hrec ht;obtain⟨fd,hb,hF⟩:=F w mg fa _ c p KX G.T.g hmg ht;refine jia KX G.T.g G.T.b G.T.builtins G.T.nolimit hg hobj hints (vK hlen hn2) hr (hc.tab hp) hKp (fun base kb nb keep=>hF base kb nb ?_ ?_) hb (fun H hH hS=>hsp w c p H a ns hlen hH hS) fun H e s'=>hCX w H s₁ e s'
 .obtain⟨oc,vc,file,tf,flags,tg,inF,text,tt,e1,e2,e3,r⟩:=hc;refine⟨oc,vc,file,tf,flags,tg,inF,text,tt,keep c oc e1 (fun z=>?_) r.2.2.2.2.2.2,e2,e3,r⟩;subst z;rw[hobj] at e1
  cases e1
  exact absurd (show cY "list"=cY "code" from e2) (by intro h;injection h with h;revert h;decide)
 .obtain⟨bm,ob,b1,b2,b3,b4,b5,b6⟩:=G.T.bmain;refine⟨bm,ob,b1,b2,fun z=>?_,keep bm ob b3 (fun z=>?_) (fun z=>?_),b4,b5,b6⟩
  .obtain⟨o,es,ep,e,hd,_⟩:=G.T.g;rw[z,e] at b3;cases b3;rw[hd] at b6;cases b6
  .rw[z,hobj] at b3;cases b3;cases b6
  .rw[z,hp] at b3;cases b3;cases b4
def FnO(g:Addr)(name qual:Str)(params:wT)(body:List Stmt)(scope:wY)(x:Str)(cl cd:Addr):HO:=
 .ext fun h=>∃doc pm ctv,h.get? g=some (eQ name qual params body scope [(x,cl)] doc pm cd ctv)
def jke(cd:Addr)(qual:Str):HO:=.ext fun h=>h.CodeRec (.ref cd) qual
def qe3(cl:Addr)(v:V):HO:=.ext fun h=>∃u,qb6 v u/\h.IsCell cl (some u)
def FnO.ok{P:uW}{w:vL}{H:Hp}{h:vQ}{g cl cd:Addr}{name qual x:Str}{params:wT}{body:List Stmt}{scope:wY}{doc pm ctv:uB}
  (e:h.get? g=some (eQ name qual params body scope [(x,cl)] doc pm cd ctv)):qbq P w H h g (FnO g name qual params body scope x cl cd):=
 ⟨⟨doc,pm,ctv,e⟩,⟨_,e⟩,fun h1 h2 ⟨d,m,c,e1⟩ k=>⟨d,m,c,k _ e1⟩⟩
def jke.ok{cd:Addr}{qual:Str}(e:h.CodeRec (.ref cd) qual):qbq P w H h cd (jke cd qual):=by
 refine⟨e,?_,fun h1 h2 q k=>?_⟩
 .obtain⟨c,o,vs,t,e1,e2,_⟩:=e
  cases e1
  exact⟨o,e2⟩
 .obtain⟨c,o,vs,t,e1,e2,r⟩:=q
  cases e1
  exact⟨cd,o,vs,t,rfl,k _ e2,r⟩
def qe3.ok{cl:Addr}{v:V}{u:uB}(r:qb6 v u)(e:h.IsCell cl (some u)):qbq P w H h cl (qe3 cl v):=by
 refine⟨⟨u,r,e⟩,?_,fun h1 h2 ⟨u',r',o,e1,d⟩ k=>⟨u',r',o,k _ e1,d⟩⟩;obtain⟨o,e1,_⟩:=e;exact⟨o,e1⟩
def made(H:Hp)(p g cd cl:Addr)(more:Array uB)(v:V)(name qual:Str)(params:wT)(body:List Stmt)(scope:wY)(x:Str):Hp:=
 upd (upd (upd (upd H p (.tbl more)) cl (qe3 cl v)) cd (jke cd qual)) g (FnO g name qual params body scope x cl cd)
section
variable{P:uW}{w:vL}{H:Hp}{h h':vQ}{p g cd cl:Addr}{more:Array uB}{v:V}{u:uB}{name qual x:Str}{params:wT}{body:List Stmt}{scope:wY}{doc pm ctv:uB}{fs:List Addr}
def qdo(h1:b≠p)(h2:b≠cl)(h3:b≠cd)(h4:b≠g):made H p g cd cl more v name qual params body scope x b=H b:=by
 unfold made;rw[qa4 h4,qa4 h3,qa4 h2,qa4 h1]
def jkf(ok:HOk P w H h)(hp:H p=some (.tbl #[]))(hg:h.objs.size<=g)(hd:h.objs.size<=cd)(hl:h.objs.size<=cl)(k:∀b o,b≠p->h.get? b=some o->h'.get? b=some o)
  (n1:cd≠cl)(n2:g≠cl)(n3:g≠cd)
  (ep:h'.get? p=some {cls:=.none,data:=.fields more})(eg:h'.get? g=some (eQ name qual params body scope [(x,cl)] doc pm cd ctv))(ed:h'.CodeRec (.ref cd) qual)(r:qb6 v u)(el:h'.IsCell cl (some u)):
  HOk P w (made H p g cd cl more v name qual params body scope x) h':=fun b o e=>by
 have ng:=ok.fresh hg;have nd:=ok.fresh hd;have nl:=ok.fresh hl;by_cases b4:b=g
 .subst b4;unfold made at e;rw[qa1] at e;cases e;exact FnO.ok eg
 by_cases b3:b=cd
 .subst b3;unfold made at e;rw[qa4 b4,qa1] at e;cases e;exact jke.ok ed
 by_cases b2:b=cl
 .subst b2;unfold made at e;rw[qa4 b4,qa4 b3,qa1] at e;cases e;exact qe3.ok r el
 by_cases b1:b=p
 .subst b1;unfold made at e;rw[qa4 b4,qa4 b3,qa4 b2,qa1] at e;cases e;exact ep
 rw[qdo b1 b2 b3 b4] at e;have old:∀c z,H c=some z->c≠p->made H p g cd cl more v name qual params body scope x c=some z:=fun c z q np=>by
  rw[qdo np (qa9 q nl) (qa9 q nd) (qa9 q ng)];exact q
 refine(ok b o e).stay (fun c z hc q=>k c z ?_ q) (fun c q=>old c _ q ?_) fun c xs q=>old c _ q ?_
 .rcases hc with rfl|hc
  .exact b1
  .rintro rfl;rw[hp] at hc;cases hc
 .rintro rfl;rw[hp] at q;cases q
 .rintro rfl;rw[hp] at q;cases q
def jnt(ok:HOk P w H h)(hp:H p=some (.tbl #[]))(hg:h.objs.size<=g)(hd:h.objs.size<=cd)(hl:h.objs.size<=cl)(k:∀b o,b≠p->h.get? b=some o->h'.get? b=some o)(ep:∃o,h'.get? p=some o):
  Un fs [] H (made H p g cd cl more v name qual params body scope x) h h':=by
 have ng:=ok.fresh hg;have nd:=ok.fresh hd;have nl:=ok.fresh hl;have lt:∀{b:Addr} {o:Obj} {c:Addr},h.get? b=some o->h.objs.size<=c->b≠c:=fun e q=>vD (vB (uO e) q);have np:∀{b:Addr},H b=none->b≠p:=fun e z=>by subst z;rw[hp] at e;cases e
 have old:∀c z,H c=some z->c≠p->made H p g cd cl more v name qual params body scope x c=some z:=fun c z q np=>by
  rw[qdo np (qa9 q nl) (qa9 q nd) (qa9 q ng)];exact q
 refine⟨fun b o e n _ _=>k b o (np n) e,fun b o e n _ _=>⟨o.slots,k b o (np n) e⟩,fun b o e n _=>?_,fun b o e _=>?_,fun b xs e=>old b _ e ?_,fun b o z e=>old b _ e ?_,fun b ps e=>?_⟩
 .rw[qdo (np n) (lt e hl) (lt e hd) (lt e hg)];exact n
 .by_cases hb:b=p
  .subst hb;exact ep
  .exact⟨o,k b o hb e⟩
 .rintro rfl;rw[hp] at e;cases e
 .rintro rfl;rw[hp] at e;cases e
 .by_cases hb:b=p
  .subst hb;rw[hp] at e;cases e;refine⟨more,?_⟩;unfold made;rw[qa4 (qa9 hp ng),qa4 (qa9 hp nd),qa4 (qa9 hp nl),qa1,Array.empty_append]
  .exact⟨#[],by rw[Array.append_empty];exact old b _ e hb⟩
end
def less(H:Hp)(c:Addr):Hp:=fun b=>if b=c then none else H b
def qeh:less H c c=none:=gU rfl
def qda(h:b≠c):less H c b=H b:=gT h
def qd2(h:H b=none):less H c b=none:=by
 by_cases hb:b=c
 .exact gU hb
 .rw[qda hb];exact h
def jib{o:HO}(h:H c=some o):upd (less H c) c o=H:=by
 funext b
 by_cases hb:b=c
 .subst hb;rw[qa1,h]
 .rw[qa4 hb,qda hb]
def cxM(CX:CXT)(P:uW)(w:vL)(K:uT)(mg:Str->Option uB)(base:vQ)(N:List Str)(qual:Str)(scope:wY)(g:Addr)(cd:uB)(cl:List (Str×Addr))(A:vR)(outer:List Env)(s:uC)(H0 H:Hp)(E:XK):Cx where
 prog:=P
 w:=w
 K:=K
 mg:=mg
 base:=base
 A:=A.deeper (envX qual scope ↑s g cd cl)
 N:=N
 s₀:=s
 H₀:=H0
 env:=envX qual scope ↑s g cd cl
 outer:=outer
 stack:=envX qual scope ↑s g cd cl::outer
 ex:=[]
 calm:=true
 fn:=fun _=>false
 pn:=[]
 xe:=fun e s'=>uV (uX P w) (A.deeper (envX qual scope ↑s g cd cl)) (leaving (envX qual scope ↑s g cd cl) e) (fun _ s''=>CX outer H s E e s'') (fun e' s''=>CX outer H s E e' s'') s'
def jkg{φ:vQ->Prop}(ok:HOk P w H h)(hc:H c=some (.ext φ)):HOk P w (less H c) h:=fun b o e=>by
 have hb:b≠c:=fun z=>by subst z;rw[qeh] at e;cases e
 rw[qda hb] at e;refine(ok b o e).stay (fun _ _ _ q=>q) (fun d q=>?_) fun d xs q=>?_
 .rw[qda fun z=>by subst z;rw[hc] at q;cases q];exact q
 .rw[qda fun z=>by subst z;rw[hc] at q;cases q];exact q
structure jic(name qual:Str)(params:wT)(body:List Stmt)(scope:wY)(z x:Str):Prop where
 kind:scope.kind=.function
 co:scope.isCoroutine=false
 gen:scope.isGenerator=false
 nocell:∀y∈scope.names,y.2≠ .cell
 par:scope.names.lookup z=some .local
 free:scope.names.lookup x=some .free
 only:∀y,scope.names.lookup y=some .free->y=x
 bind:∀(cl cd:Addr)(ct doc pm:uB)(s:uC)(u:uB),cZ s (PySem.W.fnX name qual params body scope [(x,cl)] .none .none doc pm none (.ref cd) ct) ⟨[u],[]⟩ [(z,u)]
def jkh{CX:CXT}{P:uW}{w:vL}{K:uT}{mg:Str->Option uB}{base:vQ}{k:Nat}{g cl cd:Addr}{name qual x z:Str}{params:wT}{body:List Stmt}{scope:wY}{vx vz:V}{uz:uB}{A:vR}{outer:List Env}{s:uC}{H:Hp}{Q:VK}{E:XK}
  (M:jic name qual params body scope z x)(hr:jaz (k+1) A)(e0:jjr P w K mg base A outer s H)(hg:H g=some (FnO g name qual params body scope x cl cd))(hd:H cd=some (jke cd qual))(hc:H cl=some (qe3 cl vx))(rz:qb6 vz uz)
  (hbody:jaz k (A.deeper (envX qual scope ↑s g (.ref cd) [(x,cl)]))->∃t,PSs (cxM CX P w K mg base [z,x] qual scope g (.ref cd) [(x,cl)] A outer s (less H cl) H E) body t/\
   t {nx:=fun _ H'=>Q .non (upd H' cl (qe3 cl vx)),rt:=fun v H'=>Q v (upd H' cl (qe3 cl vx))} [some vz,some vx] (less H cl)):
  bP (uX P w) A (.call (.ref g) ⟨[uz],[]⟩) (CR CX outer P w H s Q E) s:=by
 obtain⟨⟨doc,pm,ctv,eg⟩,_⟩:=e0.hok g _ hg;obtain⟨ec,_⟩:=e0.hok cd _ hd;obtain⟨⟨ux,rx,ecell⟩,_⟩:=e0.hok cl _ hc;have ec':s.heap.CodeRec (.ref cd) qual:=ec;have lim:s.heap.NoLimit:=e0.mod.nolimit.keeps fun b o e=>(e0.bs b o e).1;refine codeAny_call_def (fd:=PySem.W.fnX name qual params body scope [(x,cl)] .none .none doc pm none (.ref cd) ctv) (body:=body) (binds:=[(z,uz)]) hr.depth eg rfl lim ec' rfl (M.bind cl cd ctv doc pm s uz) M.nocell
  (fun y hy=>?_) (fun h₁ hns hk1=>?_) M.co M.gen M.kind
 .have:y=(z,uz):=by simpa using hy
  subst this;exact M.par
 obtain⟨t,ht,hq⟩:=hbody (hr.deeper _);have lk:∀y c,([(x,cl)]:List (Str×Addr)).lookup y=some c->y=x/\c=cl:=fun y c e=>by
  rw[yO] at e
  cases hb:y==x with
  |true=>rw[hb] at e;cases e;exact⟨eq_of_beq hb,rfl⟩
  |false=>rw[hb] at e;cases e
 have lx:([(x,cl)]:List (Str×Addr)).lookup x=some cl:=by rw[yO,beq_self_eq_true]
 have noA:∀b:Addr,b∉([]:List Addr):=fun b z=>absurd z (by simp);have nfr:cl∉frs outer:=fun q=>by rw[e0.frf cl q] at hc;cases hc
 have I:Inv (cxM CX P w K mg base [z,x] qual scope g (.ref cd) [(x,cl)] A outer s (less H cl) H E) [] [some vz,some vx] (less H cl) {s with heap:=h₁,toks:=s.toks+1}:=by
  refine⟨⟨e0.mod,M.kind,rfl,rfl,uG _,fun y y' c q1 q2=>?_,fun y hy=>?_,fun y c q=>(uU q).elim,fun _=>hr.hd,Around.frames_deeper e0.frames,.inr ⟨rfl,rfl⟩,fun b q=>absurd q (noA b),fun b o e=>⟨(e0.bs b o e).1,qd2 (e0.bs b o e).2⟩,e0.bsz,
   fun b _ _=>noA b,fun b q=>absurd q (noA b),e0.funs,fun b q=>qd2 (e0.frf b q)⟩,rfl,e0.bare,Un.kept hk1,⟨_,hns,fun i y v q1 q2 q3=>?_⟩,fun y c q=>?_,qd2 (e0.hok.fresh (uG _)),fun y c q=>?_,fun p hp=>absurd (show p∈([]:List (Addr×Obj)) from hp) (by simp),
   (jkg e0.hok hc).kept hk1,rfl⟩
  .rw[(lk y c q1).1,(lk y' c q2).1]
  .have hy:scope.names.lookup y=some .cell\/scope.names.lookup y=some .free:=hy;rcases hy with hy|hy
   .exact absurd rfl (M.nocell _ (xQ hy))
   .rw[M.only y hy];exact⟨cl,lx⟩
  .match i,q1,q2 with
   |0,q1,q2=>
    cases q1
    cases q2
    exact⟨uz,rz,.inl ⟨M.par,by show([(z,uz)]:List (Str×uB)).lookup z=_;rw[yO,beq_self_eq_true]⟩⟩
   |1,q1,q2=>
    cases q1
    cases q2
    exact⟨ux,rx,.inr ⟨.inr M.free,cl,lx,ecell.keeps hk1⟩⟩
   |i+2,q1,q2=>cases q2
  .rw[(lk y c q).2];exact⟨_,ecell.keeps hk1⟩
  .rw[(lk y c q).2];exact qeh
 have fin:∀{σ':L2.St} {H':Hp} {v:V} {u:uB} {s':uC},Inv (cxM CX P w K mg base [z,x] qual scope g (.ref cd) [(x,cl)] A outer s (less H cl) H E) [] σ' H' s'->qb6 v u->Q v (upd H' cl (qe3 cl vx))->CE outer P w H s Q u s':=fun {σ' H' v u s'} J rv q=>by
  obtain⟨oc,eoc,dc⟩:=ecell;have B:Un (frs outer) [] (less H cl) H' s.heap s'.heap:=J.base;have nc:H' cl=none:=B.free cl oc eoc qeh (noA _);have kc:s'.heap.get? cl=some oc:=B.keep cl oc eoc qeh nfr (noA _);have nb:∀{b:Addr},H b=none->b≠cl:=fun e z=>by subst z;rw[hc] at e;cases e
  refine⟨v,upd H' cl (qe3 cl vx),J.os,J.bare,⟨fun b o e n h1 h2=>B.keep b o e (qd2 n) h1 h2,fun b o e n h1 h2=>B.slot b o e (qd2 n) h1 h2,fun b o e n h1=>?_,B.there,fun b xs e=>?_,fun b o u e=>?_,fun b ps e=>?_⟩,fun b o e=>?_,rv,q⟩
  .rw[qa4 (nb n)];exact B.free b o e (qd2 n) h1
  .have hb:b≠cl:=fun z=>by subst z;rw[hc] at e;cases e
   rw[qa4 hb];exact B.tups b xs (by rw[qda hb];exact e)
  .have hb:b≠cl:=fun z=>by subst z;rw[hc] at e;cases e
   rw[qa4 hb];exact B.frzs b o u (by rw[qda hb];exact e)
  .have hb:b≠cl:=fun z=>by subst z;rw[hc] at e;cases e
   obtain⟨more,em⟩:=B.tbls b ps (by rw[qda hb];exact e);exact⟨more,by rw[qa4 hb];exact em⟩
  .by_cases hb:b=cl
   .subst hb;rw[qa1] at e;cases e;exact qe3.ok rx ⟨oc,kc,dc⟩
   .rw[qa4 hb] at e;refine(J.hok b o e).stay (fun _ _ _ q=>q) (fun d q=>?_) fun d xs q=>?_
    .rw[qa4 (qa9 q nc)];exact q
    .rw[qa4 (qa9 q nc)];exact q
 refine vS (ht [] _ _ _ _ I hq) (fun fl s' hs=>?_) fun e s' hs=>hs
 cases fl with
 |ret u=>
  obtain⟨v,σ',H',J,rv,q⟩:=hs;exact fin J rv q
 |next=>
  obtain⟨σ',H',J,q⟩:=hs;exact fin (v:=V.non) (u:=wI) J rfl q
 |brk=>
  obtain⟨_,_,_,q⟩:=hs;exact vP q
 |cont=>
  obtain⟨_,_,_,q⟩:=hs;exact vP q
def Wg(name qual:Str)(params:wT)(body:List Stmt)(scope:wY)(x:Str)(H:Hp)(g t:Addr):Prop:=
 ∃cl cd,H g=some (FnO g name qual params body scope x cl cd)/\H cd=some (jke cd qual)/\H cl=some (qe3 cl (.ref t))
def jid{a:Addr}{y:V}{r:Option V}{φ:vQ->Prop}(g:jf8 H a y r)(hc:H c=some (.ext φ)):jf8 (less H c) a y r:=by
 have old:∀{b:Addr} {o:HO},H b=some o->(∀ψ,o≠ .ext ψ)->less H c b=some o:=fun {b o} e n=>by
  rw[qda fun z=>by subst z;rw[hc] at e;exact n φ (uN e).symm];exact e
 rcases g with⟨kvs,k,e,r1,r2⟩|⟨kvs,k,b,e,r1,e2,r2⟩
 .refine .inl ⟨kvs,k,?_,r1,r2⟩;rcases e with e|⟨o,e⟩
  .exact .inl (old e fun ψ z=>by cases z)
  .exact .inr ⟨o,old e fun ψ z=>by cases z⟩
 .refine .inr ⟨kvs,k,b,?_,r1,old e2 (fun ψ z=>by cases z),r2⟩;rcases e with e|⟨o,e⟩
  .exact .inl (old e fun ψ z=>by cases z)
  .exact .inr ⟨o,old e fun ψ z=>by cases z⟩
def FnO.at{g cl cd:Addr}{name qual x:Str}{params:wT}{body:List Stmt}{scope:wY}(ok:HOk P w H h)(e:H g=some (FnO g name qual params body scope x cl cd)):PySem.W.FnAt g h:=by
 obtain⟨⟨doc,pm,ctv,eg⟩,_⟩:=ok g _ e;exact⟨_,_,_,_,eg⟩
abbrev jie(x z:Str)(p1 p2 p3 p4:Pos):List Stmt:=[.Return (some (.Subscript (.Name x p1) (.Name z p2) p3)) p4]
def tWg(W:Hp->Addr->Addr->Prop)(i:Nat)(ta:TA):TE:=fun σ H Q=>∃g t,σ[i]?=some (some (.ref g))/\W H g t/\ta σ H fun vs H1=>∃vz z,vs=[vz]/\W H1 g t/\jf8 H1 t vz (some z)/\Q z H1
def jue{X:Cx}{k i:Nat}{y name qual x z:Str}{params:wT}{scope:wY}{p pos p1 p2 p3 p4:Pos}{e:vV}{ta:TA}(M:jic name qual params (jie x z p1 p2 p3 p4) scope z x)(hr:jaz (k+1) X.A)(hN:X.N[i]?=some y)(hv:Vis X.env.scope y)(ha:PA X [e] ta)
  (d1:(x==("__debug__":Str))=false:=by decide)(d2:(x==("__classdict__":Str))=false:=by decide)(d3:(z==("__debug__":Str))=false:=by decide)(d4:(z==("__classdict__":Str))=false:=by decide)
  (d5:(y==("__debug__":Str))=false:=by decide) (d6:(y==("__classdict__":Str))=false:=by decide) (he:uZ [e] X.env=(false,wK e X.env)::uZ [] X.env:=by rfl) (hpl:(wQ pos (uZ [] X.env)).any (·.1)=false:=by rfl):
  PE X (.Call (.Name y p) [e] [] pos) (tWg (Wg name qual params (jie x z p1 p2 p3 p4) scope x) i ta):=by
 intro pins s σ H Q I h;obtain⟨g,t,eg,W0,h⟩:=h;refine xD (thn (jez hN hv d5 d6 pins s σ H (fun v H'=>v=.ref g/\H'=H) I ⟨.ref g,eg,rfl,rfl⟩) fun f s1 ⟨v,H1,I1,r1,q1,q2⟩=>?_);subst q1;subst q2;obtain rfl:f=uQ g:=r1;obtain⟨cl0,cd0,w1,_,_⟩:=W0;refine PySem.W.callWith_F (first:=[]) (FnO.at I1.hok w1) (thn (ha pos pins s1 σ H1 _ I1 h) fun us s2 ⟨vs,H2,I2,r,vz,zz,ev,⟨cl,cd,w2,w3,w4⟩,dg,q⟩=>⟨FnO.at I2.hok w2,?_⟩) he hpl;subst ev;obtain⟨u,rfl,rv⟩:∃u,us=[u]/\qb6 vz u:=by
  cases r with
  |cons r1 r2=>cases r2;exact⟨_,rfl,r1⟩
 have run:=jkh (CX:=fun _ _ _ _ _ _=>False) (E:=fun _ _ _=>False) (Q:=Q) M hr I2.env0 w2 w3 w4 rv fun hr'=>
  ⟨_,qa6 (qae (qal (qav hr') (jez (i:=1) rfl (.inr (.inr M.free)) d1 d2) (jez (i:=0) rfl (.inl M.par) d3 d4) nofun)),_,rfl,_,rfl,t,zz,rfl,jid dg w4,by
   show Q zz (upd (less H2 cl) cl (qe3 cl (.ref t)));rw[jib w4];exact q⟩
 refine aC (xA run fun r s' hq=>?_)
 cases r with
 |error e=>exact vP hq
 |ok fl=>
  cases fl with
  |ret u=>exact I2.after hq
  |next=>exact vP hq
  |brk=>exact vP hq
  |cont=>exact vP hq
end My
set_option exponentiation.threshold 5000
namespace My
open PySem PySem.Spec PyProof.Rows L2
def Hug(i:Int):Prop:=i.natAbs<2^4000
def Hug.bits{k:Int}(h:Hug k):Builtin.Int.intBits k<=2^20:=vK (PyProof.Rows.intBits_le (k:=4000) h) ∅
def Hug.small{k:Int}(h:k.natAbs<2^600):Hug k:=vB h (wU ∅ ∅)
def Hug.le{k:Int}{n:Nat}(h:k.natAbs<=n)(z:n<2^4000):Hug k:=vI h z
def jwq(i j:Int):Prop:=Hug i/\Hug j
def qd9{X:Cx}:OpR X (aA .Mult) (rI jwq fun i j=> .int (i*j)):=opI fun _ _ _ _ _ _ _ hc q=>mul_int q (IntMulOk.of_bits hc.1.bits hc.2.bits)
section
structure jwr(qual:Str)(params:wT)(scope:wY)(z:Str)(b:vV):Prop where
 bind:∀(pm cd ct u:uB),bindArgs (PySem.W.kla_fn "<lambda>" qual params b scope [] pm cd ct) ⟨[u],[]⟩=pure [(z,u)]
 par:scope.names.lookup z=some .local
 co:scope.isCoroutine=false
 gen:scope.isGenerator=false
 kind:scope.kind=.function
 cell:∀x∈scope.names,x.2≠ .cell
 dbg:(z==("__debug__":Str))=false
end
def TbS(p:Addr)(pos:Pos)(qual:Str)(H:Hp):Prop:=H p=some (.tbl #[])\/∃cd,H p=some (.tbl #[xN pos.line,xN pos.col,.ref cd])/\H cd=some (jke cd qual)
def qgk(p:Addr)(pos:Pos)(name qual:Str)(params:wT)(body:List Stmt)(scope:wY)(x:Str):Sp:=fun vs H Q _=>
 ∃v,vs=[v]/\TbS p pos qual H/\∀(g cd cl:Addr)(H':Hp),(∀b u,b≠p->H b=some u->H' b=some u)->(∀b,H' b=none->H b=none)->H g=none->H cl=none->H' g=some (FnO g name qual params body scope x cl cd)->H' cd=some (jke cd qual)->H' cl=some (qe3 cl v)->TbS p pos qual H'->Q (.ref g) H'
section
variable{P:uW}{w:vL}{H:Hp}{h h':vQ}{g cd cl:Addr}{ps:Array uB}{v:V}{u:uB}{name qual x:Str}{params:wT}{body:List Stmt}{scope:wY}{doc pm ctv:uB}{fs:List Addr}
def qfj(H:Hp)(g cd cl:Addr)(v:V)(name qual:Str)(params:wT)(body:List Stmt)(scope:wY)(x:Str):Hp:=upd (upd H cl (qe3 cl v)) g (FnO g name qual params body scope x cl cd)
def jif(ok:HOk P w H h)(hg:h.objs.size<=g)(hl:h.objs.size<=cl)(k:∀b o,h.get? b=some o->h'.get? b=some o)(n2:g≠cl)
  (eg:h'.get? g=some (eQ name qual params body scope [(x,cl)] doc pm cd ctv))(r:qb6 v u)(el:h'.IsCell cl (some u)):HOk P w (qfj H g cd cl v name qual params body scope x) h':=fun b o e=>by
 have ng:=ok.fresh hg;have nl:=ok.fresh hl;unfold qfj at e⊢;by_cases b4:b=g
 .subst b4;rw[qa1] at e;cases e;exact FnO.ok eg
 by_cases b2:b=cl
 .subst b2;rw[qa4 b4,qa1] at e;cases e;exact qe3.ok r el
 rw[qa4 b4,qa4 b2] at e;refine(ok b o e).stay (fun c z _ q=>k c z q) (fun c q=>?_) fun c xs q=>?_
 .rw[qa4 (qa9 q ng),qa4 (qa9 q nl)];exact q
 .rw[qa4 (qa9 q ng),qa4 (qa9 q nl)];exact q
def jki(ok:HOk P w H h)(hg:h.objs.size<=g)(hl:h.objs.size<=cl)(k:∀b o,h.get? b=some o->h'.get? b=some o):Un fs [] H (qfj H g cd cl v name qual params body scope x) h h':=by
 have ng:=ok.fresh hg;have nl:=ok.fresh hl;have lt:∀{b:Addr} {o:Obj} {c:Addr},h.get? b=some o->h.objs.size<=c->b≠c:=fun e q=>vD (vB (uO e) q);have old:∀c z,H c=some z->qfj H g cd cl v name qual params body scope x c=some z:=fun c z q=>by
  unfold qfj;rw[qa4 (qa9 q ng),qa4 (qa9 q nl)];exact q
 refine⟨fun b o e _ _ _=>k b o e,fun b o e _ _ _=>⟨o.slots,k b o e⟩,fun b o e n _=>?_,fun b o e _=>⟨o,k b o e⟩,fun b xs e=>old b _ e,fun b o z e=>old b _ e,fun b ps e=>⟨#[],by rw[old b _ e];simp⟩⟩;unfold qfj;rw[qa4 (lt e hg),qa4 (lt e hl)];exact n
end
def jig{CX:CXT}{P:uW}{w:vL}{K:uT}{mg:Str->Option uB}{base:vQ}{k:Nat}{f c p:Addr}{name qual qual' x y:Str}{params params':wT}{body':List Stmt}{scope scope':wY}{dV kV doc pm ct oc:uB}{an od:Option Addr}
  {osl:Array (Option uB)}{pos p1 p2:Pos}
  (lk:K.lookup f=some ⟨oc,od,.func (eP name qual params [.FunctionDef y params' body' [] none [] scope' none y pos,.Return (some (.Name y p1)) p2] scope dV kV doc pm an (.ref c) ct),osl⟩)(hcd:dO K (.ref c) qual=true)
  (C:dR base c p)(hbm:jsj mg base)
  (hk:scope.kind=.function)(hco:scope.isCoroutine=false)(hge:scope.isGenerator=false)(hx:scope.names.lookup x=some .cell)(hy:scope.names.lookup y=some .local)(hcs:∀n,eA n scope.names []=[(x,n)])(hyd:(y==("__debug__":Str))=false)
  (hcl:∀L,closureFor scope' (aJ qual scope L f (.ref c))=pure [(x,L+1)])(hd0:params'.defaults=[])(hk0:params'.kw_defaults=[])(ha:∀L,annTrees params' none (aJ qual scope L f (.ref c))=[])
  (hqn:∀L,qualnameIn (aJ qual scope L f (.ref c)) y y=qual'):
  jac P w K mg base CX (k+1) f (eP name qual params [.FunctionDef y params' body' [] none [] scope' none y pos,.Return (some (.Name y p1)) p2] scope dV kV doc pm an (.ref c) ct) [x] (qgk p pos y qual' params' body' scope' x):=by
 refine⟨fun vs H Q E ⟨v,e,_⟩=>by rw[e];rfl,fun A outer s H args us vs Q E hr e0 hb r hsp=>?_⟩;obtain⟨v,rfl,htb,hq⟩:=hsp;obtain⟨u,rfl,rv⟩:∃u,us=[u]/\qb6 v u:=by
  cases r with
  |cons r1 r2=>cases r2;exact⟨_,rfl,r1⟩
 have bk:∀b o,base.get? b=some o->s.heap.get? b=some o:=fun b o e=>(e0.bs b o e).1;have KX:K.In s.heap:=e0.mod.kin.keeps bk;have lim:s.heap.NoLimit:=e0.mod.nolimit.keeps bk;obtain⟨ps,hp,hps⟩:∃ps,H p=some (.tbl ps)/\(ps= #[]\/∃cd,ps= #[xN pos.line,xN pos.col,.ref cd]/\H cd=some (jke cd qual')):=by
  rcases htb with h|⟨cd,h,h'⟩
  .exact⟨_,h,.inl rfl⟩
  .exact⟨_,h,.inr ⟨cd,rfl,h'⟩⟩
 have hP:s.heap.get? p=some (PySem.W.tabObj ps):=e0.hok p _ hp;refine codeAny_call_function hr.depth (KX _ _ lk) rfl hco hge rfl (PySem.W.codeRec_of KX hcd) (hb _ _ _ _ ?_);refine wpAny_newFunctionEnv_cells hk (fun z hz=>?_) fun env he s1 X=>?_
 .have:z=(x,u):=by simpa using hz
  subst this;exact .inr ⟨hx,by rw[hcs];simp⟩
 subst he;refine⟨lim.keeps X.toInCall.keep,codeAny_func ?_⟩;obtain⟨hh,tk0,rfl⟩:=X.toInCall.same;have keep:∀b o,s.heap.get? b=some o->hh.get? b=some o:=X.toInCall.keep;have nsL:=X.toInCall.ns;have szL:↑s<hh.objs.size:=nsL.lt;have hcell:hh.IsCell (↑s+1) (some u):=by
  have q:=X.cell x (↑s+1) (by show(eA (↑s+1) scope.names []).lookup x=_;rw[hcs];simp);have e:fS (aJ qual scope ↑s f (.ref c)).kindOf ([x].zip [u]) (fun _=>none) x=some u:=by
   show fS _ [(x,u)] _ x=_;unfold fS;rw[gT (by show ¬scope.names.lookup x=_;rw[hx];decide)];exact gU rfl
  exact e▸q
 have gS:hh.Ns uS mg:=(e0.mod.glob.keeps bk).keeps keep;have hPh:hh.get? p=some (PySem.W.tabObj ps):=keep _ _ hP;have hgP:uS≠p:=fun z=>by
  obtain⟨o,es,ep,e,hd,_⟩:=gS;rw[z,hPh] at e;cases e;cases hd
 have hbuilt:hh.BuiltinsAt mg p:=by
  obtain⟨bm,o,b1,b2,b3,b4,r⟩:=hbm;refine⟨bm,o,b1,b2,b3,fun z=>?_,keep _ _ (bk _ _ b4),r⟩;have:=(e0.bs _ _ b4).2;rw[z,hp] at this;cases this
 refine bL (PySem.W.nestDef_K hd0 hk0 (ha _) ?_);rcases hps with rfl|⟨cd0,rfl,hcd0⟩
 rotate_left
 .refine PySem.W.makeFunction_hit (mg:=mg) (c:=c) (P:=p) (cv:=.ref cd0) (hcl _) rfl gS rfl ((C.keeps bk).keeps keep) hPh (by trivial) (by show(if _ then _ else _)=_;simp) hbuilt fun ctv doc' h' tk kk hge'=>?_;have ltc:↑s+1<hh.objs.size:=by
   obtain⟨o,e,d⟩:=hcell;exact uO e
  have l2:↑s+1<h'.objs.size:=vB ltc hge';have l4:↑s<h'.objs.size:=gE l2;have nsH:h'.Ns ↑s _:=nsL.keeps kk;have hqn':=hqn ↑s;generalize hQ:qualnameIn (newEnv _ _ _ _ _ _ _ _ _) y y=qq at⊢;obtain rfl:qual'=qq:=hqn'.symm.trans hQ;refine dI hy (nsH.push _) (fun h2 ns2 sb=>?_) (by
   have hk':scope.kind=.function:=hk;show((scope.kind==.class) ||(scope.kind==.module && _))=false;rw[hk'];rfl)
  refine bL (fP (eU (dP hk hy ns2 (gU rfl) ?_) hyd));have sb':aY ↑s (h'.push (eQ y qual' params' body' scope' [(x,↑s+1)] doc' ((mg "__name__").getD .none) cd0 ctv)) h2:=sb;have kp:∀b o,s.heap.get? b=some o->h2.get? b=some o:=fun b o e=>by
   rw[sb'.2 b (vD (uO e))];exact uD _ (kk b o (keep b o e))
  have e2:h2.get? h'.objs.size=some (eQ y qual' params' body' scope' [(x,↑s+1)] doc' ((mg "__name__").getD .none) cd0 ctv):=by
   rw[sb'.2 _ (wZ l4)];exact vE _ rfl
  have e4:h2.IsCell (↑s+1) (some u):=by
   obtain⟨o,e,d⟩:=hcell;refine⟨o,?_,d⟩;rw[sb'.2 _ (Nat.succ_ne_self _)];exact uD _ (kk _ _ e)
  have z1:=aG l4;have z3:=xK ↑s;have f1:=e0.hok.fresh z1;have f3:=e0.hok.fresh z3;have old:∀b z,H b=some z->qfj H h'.objs.size cd0 (↑s+1) v y qual' params' body' scope' x b=some z:=fun b z q=>by
   unfold qfj;rw[qa4 (qa9 q f1),qa4 (qa9 q f3)];exact q
  refine⟨.ref h'.objs.size,qfj H h'.objs.size cd0 (↑s+1) v y qual' params' body' scope' x,rfl,e0.bare,jki e0.hok z1 z3 kp,jif e0.hok z1 z3 kp (wZ l2) e2 rv e4,rfl,
   hq _ cd0 _ _ (fun b z _ q=>old b z q) (fun b q=>?_) f1 f3 ?_ (old _ _ hcd0) ?_ (.inr ⟨cd0,old _ _ hp,old _ _ hcd0⟩)⟩
  .by_cases h1:b=h'.objs.size
   .rw[h1];exact f1
   .by_cases h2:b=↑s+1
    .rw[h2];exact f3
    .unfold qfj at q;rw[qa4 h1,qa4 h2] at q;exact q
  .exact qa1
  .unfold qfj;rw[qa4 (vD l2),qa1]
 refine PySem.W.makeFunction_K (mg:=mg) (c:=c) (P:=p) (ps:=#[]) (hcl _) rfl gS rfl ((C.keeps bk).keeps keep) hPh (by trivial) (by rfl) hgP hbuilt fun c' ctv doc' h' tk hxt hge' hlt hrec htb=>?_;have szc:hh.objs.size<=c':=hge';have ltp:p<↑s:=uO hP;have ltc:↑s+1<hh.objs.size:=by
  obtain⟨o,e,d⟩:=hcell;exact uO e
 have l1:↑s+1<c':=vB ltc szc;have l2:↑s+1<h'.objs.size:=bE l1 hlt;have l3:↑s<c':=gE l1;have l4:↑s<h'.objs.size:=gE l2;have nL:↑s≠p:=wZ ltp;have ncl:↑s+1≠p:=wZ (gC ltp);have nsH:h'.Ns ↑s _:=nsL.extBut hxt nL;have hqn':=hqn ↑s;generalize hQ:qualnameIn (newEnv _ _ _ _ _ _ _ _ _) y y=qq at hrec⊢;obtain rfl:qual'=qq:=hqn'.symm.trans hQ;refine dI hy (nsH.push _) (fun h2 ns2 sb=>?_) (by
  have hk':scope.kind=.function:=hk;show((scope.kind==.class) ||(scope.kind==.module && _))=false;rw[hk'];rfl)
 refine bL (fP (eU (dP hk hy ns2 (gU rfl) ?_) hyd));have sb':aY ↑s (h'.push (eQ y qual' params' body' scope' [(x,↑s+1)] doc' ((mg "__name__").getD .none) c' ctv)) h2:=sb;have kp:∀b o,b≠p->s.heap.get? b=some o->h2.get? b=some o:=fun b o hb e=>by
  rw[sb'.2 b (vD (uO e))];exact uD _ (hxt b o hb (keep b o e))
 have kq:∀b o,b≠↑s->h'.get? b=some o->h2.get? b=some o:=fun b o hb e=>by
  rw[sb'.2 b hb];exact uD _ e
 have hcl':h'.IsCell (↑s+1) (some u):=by
  obtain⟨o,e,d⟩:=hcell;exact⟨o,hxt _ _ ncl e,d⟩
 have e1:h2.get? p=some (PySem.W.tabObj (#[]++#[xN pos.line,xN pos.col,.ref c'])):=kq p _ (xP nL) htb;have e2:h2.get? h'.objs.size=some (eQ y qual' params' body' scope' [(x,↑s+1)] doc' ((mg "__name__").getD .none) c' ctv):=by
  rw[sb'.2 _ (wZ l4)];exact vE _ rfl
 have e3:h2.CodeRec (.ref c') qual':=by
  obtain⟨cc,o,vs,t,q1,q2,q3⟩:=hrec
  cases q1
  exact⟨c',o,vs,t,rfl,kq _ _ (wZ l3) q2,q3⟩
 have e4:h2.IsCell (↑s+1) (some u):=by
  obtain⟨o,e,d⟩:=hcl';exact⟨o,kq _ _ (Nat.succ_ne_self _) e,d⟩
 have z1:=aG l4;have z2:=aG l3;have z3:=xK ↑s;have f1:=e0.hok.fresh z1;have f2:=e0.hok.fresh z2;have f3:=e0.hok.fresh z3;refine⟨.ref h'.objs.size,made H p h'.objs.size c' (↑s+1) (#[]++#[xN pos.line,xN pos.col,.ref c']) v y qual' params' body' scope' x,rfl,e0.bare,jnt e0.hok hp z1 z2 z3 kp ⟨_,e1⟩,
  jkf e0.hok hp z1 z2 z3 kp (wZ l1) (wZ l2) (wZ hlt) e1 e2 e3 rv e4,rfl,hq _ c' _ _ (fun b z nb q=>?_) (fun b q=>?_) f1 f3 qa1 ?_ ?_ (.inr ⟨c',?_,?_⟩)⟩
 .rw[qdo nb (qa9 q f3) (qa9 q f2) (qa9 q f1)];exact q
 .by_cases h1:b=h'.objs.size
  .rw[h1];exact f1
  .by_cases h2:b=c'
   .rw[h2];exact f2
   .by_cases h3:b=↑s+1
    .rw[h3];exact f3
    .by_cases h4:b=p
     .unfold made at q;rw[qa4 h1,qa4 h2,qa4 h3,h4,qa1] at q;cases q
     .rw[qdo h4 h3 h2 h1] at q;exact q
 .unfold made;rw[qa4 (vD hlt),qa1]
 .unfold made;rw[qa4 (vD l2),qa4 (vD l1),qa1]
 .unfold made;rw[qa4 (qa9 hp f1),qa4 (qa9 hp f2),qa4 (qa9 hp f3),qa1];rfl
 .unfold made;rw[qa4 (vD hlt),qa1]
def Fun.maker2{CX:CXT}{P:uW}{w:vL}{K:uT}{mg:Str->Option uB}{base:vQ}{k:Nat}{f c p:Addr}{fd:uL}{nm qual qual' x y:Str}{st:Stmt}{params':wT}{body':List Stmt}{scope':wY}{pos p1 p2:Pos}
  (F:Fun K nm qual st f fd)(hm:mg nm=some (.ref f))(kin:K.In base)(hns:base.Ns uS mg)(ht:tabIn K nm=some (c,p))(C:dR base c p)(hbm:jsj mg base)
  (hb:qbu st=[.FunctionDef y params' body' [] none [] scope' none y pos,.Return (some (.Name y p1)) p2])
  (hk:(qa8 st).kind=.function)(hco:(qa8 st).isCoroutine=false)(hge:(qa8 st).isGenerator=false)(hx:(qa8 st).names.lookup x=some .cell)(hy:(qa8 st).names.lookup y=some .local)(hcs:∀n,eA n (qa8 st).names []=[(x,n)])(hyd:(y==("__debug__":Str))=false)
  (hcl:∀L cd,closureFor scope' (aJ qual (qa8 st) L f cd)=pure [(x,L+1)])(hd0:params'.defaults=[])(hk0:params'.kw_defaults=[])(ha:∀L cd,annTrees params' none (aJ qual (qa8 st) L f cd)=[])
  (hqn:∀L cd,qualnameIn (aJ qual (qa8 st) L f cd) y y=qual'):
  jac P w K mg base CX (k+1) f fd [x] (qgk p pos y qual' params' body' scope' x):=by
 obtain⟨oc,od,kV,doc,pm,an,cdv,ct,osl,rfl,lk,hcd⟩:=F.ex;have hc:cdv=.ref c:=by
  unfold tabIn at ht
  split at ht
  .rename_i f' hf;have e1:=vN kin hns hf;rw[hm] at e1
   cases e1
   split at ht
   .rename_i hfo;rw[lk] at hfo
    cases hfo
    split at ht
    .rename_i c2 hc2;have hc2':cdv=.ref c2:=hc2
     split at ht
     .split at ht
      .cases ht;exact hc2'
      .cases ht
     .cases ht
    .cases ht
   .cases ht
  .cases ht
 subst hc;rw[hb] at lk⊢;exact jig lk hcd C hbm hk hco hge hx hy hcs hyd (fun L=>hcl L _) hd0 hk0 (fun L=>ha L _) (fun L=>hqn L _)
end My
namespace Our
open PySem L2 My
variable{S:Ts}{z y h:Str}{e:He}{H H':Hp}{Q:VK}{a l b:Addr}{f:Str->Option Int}{ws W L nm:List Str}{i n N:Nat}{p:List uB->Prop}{g tp bt:Str->Int}{el:Nat->Nat}{q r:Rat}{lf lv lv':Str->Rat}{D:Dl}{φ:Str->Option Rat}{as:List (Addr×Addr)}{sc:Int}{es:List Nat}
abbrev sr(a:Addr):Option V:=some (.ref a)
def top(i:Nat):uJ:=PySem.Challenge.pw_quotatree_k55_shares_and_papers.main.body.getD i (.Pass ⟨0,0,0,0⟩)
def qcd:uJ->Nat->uJ
 | .ClassDef _ _ _ body _ _ _ _ _ _ _,j=>body.getD j (.Pass ⟨0,0,0,0⟩)
 |s,_=>s
abbrev jbl:uJ:=top 16
abbrev jb4:uJ:=top 17
abbrev jap:uJ:=top 18
abbrev ja9:uJ:=top 20
abbrev ja2:uJ:=top 21
abbrev jav:uJ:=top 22
abbrev jba:uJ:=top 23
abbrev jea:uJ:=top 24
abbrev jcf:uJ:=top 25
abbrev jbm:uJ:=top 26
abbrev jb5:uJ:=top 28
abbrev jbn:uJ:=top 29
abbrev jih:uJ:=top 30
abbrev jeb:uJ:=top 31
abbrev jec:uJ:=top 32
abbrev jb6:uJ:=top 33
abbrev jed:uJ:=top 34
abbrev ja3:uJ:=top 36
abbrev jbo:uJ:=top 37
abbrev jbp:uJ:=top 38
abbrev jbb:uJ:=top 40
abbrev jcc:uJ:=top 42
abbrev jbc:uJ:=top 49
abbrev ja4:uJ:=top 50
abbrev ja5:uJ:=top 51
abbrev jal:uJ:=top 52
abbrev jb7:uJ:=top 55
abbrev jee:uJ:=top 56
abbrev jii:uJ:=top 57
abbrev jef:uJ:=top 58
abbrev jij:uJ:=top 59
abbrev jik:uJ:=top 60
abbrev jb8:uJ:=top 61
abbrev jil:uJ:=top 62
abbrev jim:uJ:=top 63
abbrev jcg:uJ:=top 64
abbrev jbq:uJ:=top 65
abbrev jin:uJ:=top 66
abbrev ja6:uJ:=top 67
abbrev jeg:uJ:=top 68
abbrev jbd:uJ:=top 69
abbrev ja0:uJ:=top 70
abbrev jbr:uJ:=top 71
abbrev jio:uJ:=top 72
abbrev jeh:uJ:=top 73
abbrev jip:uJ:=top 74
abbrev jch:uJ:=top 75
abbrev jnu:uJ:=top 76
abbrev ja7:uJ:=qcd (top 48) 0
abbrev jai:uJ:=qcd (top 53) 0
abbrev jag:uJ:=qcd (top 53) 1
abbrev jbw:uJ:=qcd (top 53) 2
abbrev jbx:uJ:=qcd (top 53) 3
abbrev jbs:uJ:=qcd (top 53) 4
abbrev jah:uJ:=qcd (top 53) 5
abbrev jaq:uJ:=qcd (top 53) 6
abbrev jar:uJ:=qcd (top 53) 7
abbrev jam:uJ:=qcd (top 53) 10
abbrev jbe:uJ:=qcd (top 53) 11
abbrev jbf:uJ:=qcd (top 53) 12
abbrev jaw:uJ:=qcd (top 53) 13
abbrev jae:uJ:=qcd (top 53) 14
abbrev ja1:uJ:=qcd (top 53) 15
abbrev jaj:uJ:=qcd (top 53) 16
abbrev jak:uJ:=qcd (top 53) 17
abbrev jbg:uJ:=qcd (top 53) 18
abbrev jax:uJ:=qcd (top 39) 0
abbrev jas:uJ:=qcd (top 39) 1
abbrev jat:uJ:=qcd (top 39) 2
abbrev jan:uJ:=qcd (top 39) 3
abbrev jaf:uJ:=qcd (top 39) 4
abbrev jbh:uJ:=qcd (top 41) 0
abbrev jau:uJ:=qcd (top 41) 2
abbrev jbi:uJ:=qcd (top 12) 0
set_option genSizeOf false in
set_option genInjectivity false in
structure Ad where
 w74:Addr
 w6l:uL
 w9c:Addr
 w7h:uL
 w3h:Addr
 w2v:uL
 w62:Addr
 w5p:uL
 w4z:Addr
 w4o:uL
 w3y:Addr
 w3d:uL
 w64:Addr
 w5h:uL
 wdh:Addr
 wav:uL
 waa:Addr
 w8f:uL
 w7o:Addr
 w6a:uL
 w8t:Addr
 w6z:uL
 w7e:Addr
 w6k:uL
 wfw:Addr
 wd3:uL
 wdc:Addr
 wad:uL
 wco:Addr
 way:uL
 w8o:Addr
 w7i:uL
 wcn:Addr
 wal:uL
 w5o:Addr
 w4j:uL
 w79:Addr
 w6e:uL
 w7g:Addr
 w68:uL
 w6c:Addr
 w5k:uL
 wfo:Addr
 waf:uL
 wi0:Addr
 w5l:uB
 w60:Addr
 w51:uL
 w5b:Addr
 w4g:uL
 w4y:Addr
 w4p:uL
 w2o:Addr
 w2e:uL
 w94:Addr
 w78:uL
 wcl:Addr
 war:uL
 wfm:Addr
 wcu:uL
 wdd:Addr
 wan:uL
 wfy:Addr
 wcp:uL
 wev:Addr
 wdq:uL
 w8y:Addr
 w76:uL
 wfs:Addr
 wcb:uL
 wfx:Addr
 wd7:uL
 waj:Addr
 w8n:uL
 w7a:Addr
 w6i:uL
 wfg:Addr
 wdl:uL
 w6q:Addr
 w5t:uL
 wcv:Addr
 wa4:uL
 w6m:Addr
 w5g:uL
 w4n:Addr
 w40:uL
 w75:Addr
 w6d:uL
 wfn:Addr
 wcc:uL
 wc8:Addr
 wac:uL
 wf6:Addr
 wc6:uL
 wa7:Addr
 w8x:uL
 wcz:Addr
 wbx:uL
 w59:Addr
 w4t:uL
 w63:Addr
 w3r:uL
 wdt:Addr
 w16:uB
 w5n:Addr
 w32:uL
 wb1:Addr
 w0t:uB
 w7u:Addr
 w6w:uL
 w7t:Addr
 w6p:uL
 w72:Addr
 w6f:uL
 w25:Addr
 w1w:uL
 w3g:Addr
 w2x:uL
 w3e:Addr
 w2t:uL
 w2p:Addr
 w2b:uL
 w66:Addr
 w54:uL
 w6h:Addr
 w5j:uL
 w1h:Addr
 w0x:uL
 w17:Addr
 w0v:uL
 w4l:Addr
 w3v:uL
 w2a:Addr
 w29:uL
 w2c:Addr
 w27:uL
 w6j:Addr
 w56:uL
 w3z:Addr
 w3f:uL
 w3k:Addr
 w2u:uL
 w3j:Addr
 w2q:uL
 w2y:Addr
 w2d:uL
 w1n:Addr
 w1i:uL
 w61:Addr
 w53:uL
 w3l:Addr
 w2r:uL
 w4i:Addr
 w41:uL
 w06:Addr
 w01:Addr
 w00:Addr
 w05:Addr
 w4e:Addr
 w5r:Addr
 w7n:Addr
 w0o:Addr
 w5s:Addr
 w1x:Addr
 w5u:Addr
 w33:Addr
 w35:Addr
 w42:Addr
 w49:Addr
 w47:uB
 w1e:uB
 w1y:uB
 w1k:uB
 w1c:uB
 w0m:uB
structure Tx(K:uT)(mg:Str->Option uB)(d:Ad):Prop where
 w9y:Fun K "is_whole" "is_whole" jbl d.w74 d.w6l
 wei:mg "is_whole"=some (.ref d.w74)
 wer:qan K d.w6l ["thing"] []
 w99:Fun K "is_name" "is_name" jb4 d.w9c d.w7h
 wbv:mg "is_name"=some (.ref d.w9c)
 wc0:qan K d.w7h ["thing"] []
 w38:Fun K "is_whole_from" "is_whole_from" jap d.w3h d.w2v
 w5a:mg "is_whole_from"=some (.ref d.w3h)
 w5i:qan K d.w2v ["thing","least","most"] []
 w8v:Fun K "is_amount" "is_amount" ja9 d.w62 d.w5p
 wcx:mg "is_amount"=some (.ref d.w62)
 wdm:qan K d.w5p ["thing"] []
 w58:Fun K "amounts_of" "amounts_of" ja2 d.w4z d.w4o
 w7w:mg "amounts_of"=some (.ref d.w4z)
 w80:qan K d.w4o ["handed","wares"] []
 w5z:Fun K "above_nought" "above_nought" jav d.w3y d.w3d
 w9d:mg "above_nought"=some (.ref d.w3y)
 w9j:qan K d.w3d ["amounts"] []
 w65:Fun K "amount_of" "amount_of" jba d.w64 d.w5h
 w8w:mg "amount_of"=some (.ref d.w64)
 w90:qan K d.w5h ["amounts","ware"] []
 wcs:Fun K "added" "added" jea d.wdh d.wav
 wfr:mg "added"=some (.ref d.wdh)
 wf4:qan K d.wav ["one","other"] []
 wdv:Fun K "beyond" "beyond" jcf d.waa d.w8f
 wg6:mg "beyond"=some (.ref d.waa)
 wgi:qan K d.w8f ["one","other"] []
 w9o:Fun K "total_of" "total_of" jbm d.w7o d.w6a
 weg:mg "total_of"=some (.ref d.w7o)
 weo:qan K d.w6a ["many"] []
 wbw:Fun K "divisor" "divisor" jb5 d.w8t d.w6z
 wfc:mg "divisor"=some (.ref d.w8t)
 wfq:qan K d.w6z ["one","other"] []
 w36:Fun K "fraction" "fraction" jbn d.w7e d.w6k
 w46:mg "fraction"=some (.ref d.w7e)
 w44:qan K d.w6k ["top","bottom"] []
 wgq:Fun K "plus" "plus" jih d.wfw d.wd3
 wi7:mg "plus"=some (.ref d.wfw)
 wi9:qan K d.wd3 ["one","other"] []
 wfz:Fun K "minus" "minus" jeb d.wdc d.wad
 whq:mg "minus"=some (.ref d.wdc)
 whb:qan K d.wad ["one","other"] []
 wdp:Fun K "times" "times" jec d.wco d.way
 wf0:mg "times"=some (.ref d.wco)
 wg1:qan K d.way ["one","other"] []
 w8q:Fun K "divided" "divided" jb6 d.w8o d.w7i
 wc1:mg "divided"=some (.ref d.w8o)
 wb4:qan K d.w7i ["one","other"] []
 wau:Fun K "below" "below" jed d.wcn d.wal
 wcj:mg "below"=some (.ref d.wcn)
 wdi:qan K d.wal ["one","other"] []
 w7s:Fun K "weights_of" "weights_of" ja3 d.w5o d.w4j
 wbz:mg "weights_of"=some (.ref d.w5o)
 wc3:qan K d.w4j ["tree","wants","weigh"] []
 w9p:Fun K "loads_of" "loads_of" jbo d.w79 d.w6e
 wem:mg "loads_of"=some (.ref d.w79)
 weq:qan K d.w6e ["tree","weights","waiting"] []
 w9u:Fun K "least_of" "least_of" jbp d.w7g d.w68
 wec:mg "least_of"=some (.ref d.w7g)
 wee:qan K d.w68 ["many"] []
 w8l:Fun K "rounds_by" "rounds_by" jbb d.w6c d.w5k
 wcg:mg "rounds_by"=some (.ref d.w6c)
 wca:qan K d.w5k ["tree","rooms","wants","weights"] []
 w8g:My.FunD K "even" "even" jcc d.wfo d.waf d.wi0 (List.toArray [d.w5l])
 w9v:mg "even"=some (.ref d.wfo)
 wbf:qan K d.waf ["tree","rooms","wants","weigh"] []
 whh:qan K d.waf ["tree","rooms","wants","weigh"] [d.w5l]
 whs:qbk [.non] [d.w5l]
 w95:Fun K "are_wares" "are_wares" jbc d.w60 d.w51
 wcw:mg "are_wares"=some (.ref d.w60)
 wdn:qan K d.w51 ["thing"] []
 w57:Fun K "check_name" "check_name" ja4 d.w5b d.w4g
 w81:mg "check_name"=some (.ref d.w5b)
 w7z:qan K d.w4g ["thing"] []
 w55:Fun K "read_house" "read_house" ja5 d.w4y d.w4p
 w7y:mg "read_house"=some (.ref d.w4y)
 w7x:qan K d.w4p ["wares","elder","promise","cap","weight"] []
 w1r:Fun K "check_promises" "check_promises" jal d.w2o d.w2e
 w2s:mg "check_promises"=some (.ref d.w2o)
 w2z:qan K d.w2e ["name","promises","cap"] []
 w2l:Fun K "_law_cell_at" "_law_cell_at" jb7 d.w94 d.w78
 w39:mg "_law_cell_at"=some (.ref d.w94)
 w3c:qan K d.w78 ["_law_script","_law_k"] []
 wap:Fun K "_law_mixed" "_law_mixed" jee d.wcl d.war
 wck:mg "_law_mixed"=some (.ref d.wcl)
 wd2:qan K d.war ["_law_cell","_law_k"] []
 wez:Fun K "_law_name" "_law_name" jii d.wfm d.wcu
 wh0:mg "_law_name"=some (.ref d.wfm)
 wgp:qan K d.wcu ["_law_cell","_law_k"] []
 wd5:Fun K "_law_whole" "_law_whole" jef d.wdd d.wan
 wfv:mg "_law_whole"=some (.ref d.wdd)
 wg0:qan K d.wan ["_law_found"] []
 wh3:Fun K "_law_want" "_law_want" jij d.wfy d.wcp
 wi8:mg "_law_want"=some (.ref d.wfy)
 wi5:qan K d.wcp ["_law_number","_law_scale"] []
 wgs:Fun K "_law_room" "_law_room" jik d.wev d.wdq
 wi3:mg "_law_room"=some (.ref d.wev)
 wi6:qan K d.wdq ["_law_number","_law_scale"] []
 wb5:Fun K "_law_sharing" "_law_sharing" jb8 d.w8y d.w76
 wfh:mg "_law_sharing"=some (.ref d.w8y)
 wf2:qan K d.w76 ["_law_script","_law_count"] []
 wfb:Fun K "_law_tree" "_law_tree" jil d.wfs d.wcb
 wh1:mg "_law_tree"=some (.ref d.wfs)
 wgv:qan K d.wcb ["_law_script","_law_sharing_here"] []
 wex:Fun K "_law_line" "_law_line" jim d.wfx d.wd7
 wh6:mg "_law_line"=some (.ref d.wfx)
 wgy:qan K d.wd7 ["_law_elders","_law_k"] []
 wai:Fun K "_law_inside" "_law_inside" jcg d.waj d.w8n
 we1:mg "_law_inside"=some (.ref d.waj)
 we5:qan K d.w8n ["_law_sharing_here","_law_at"] []
 w7c:Fun K "_law_together" "_law_together" jbq d.w7a d.w6i
 w9x:mg "_law_together"=some (.ref d.w7a)
 w9w:qan K d.w6i ["_law_shares","_law_some"] []
 wdz:Fun K "_law_less" "_law_less" jin d.wfg d.wdl
 wft:mg "_law_less"=some (.ref d.wfg)
 wfp:qan K d.wdl ["_law_one","_law_other"] []
 wb0:Fun K "_law_weigher" "_law_weigher" ja6 d.w6q d.w5t
 wbi:mg "_law_weigher"=some (.ref d.w6q)
 wff:qan K d.w5t ["_law_table"] []
 wcy:Fun K "_law_asked" "_law_asked" jeg d.wcv d.wa4
 wfd:mg "_law_asked"=some (.ref d.wcv)
 wg2:qan K d.wa4 ["_law_script","_law_sharing_here"] []
 w8z:Fun K "_law_divisor" "_law_divisor" jbd d.w6m d.w5g
 wcr:mg "_law_divisor"=some (.ref d.w6m)
 wdf:qan K d.w5g ["_law_one","_law_other"] []
 w6n:Fun K "_law_is_fraction" "_law_is_fraction" ja0 d.w4n d.w40
 wao:mg "_law_is_fraction"=some (.ref d.w4n)
 wab:qan K d.w40 ["_law_found"] []
 w9s:Fun K "_law_is_dealt" "_law_is_dealt" jbr d.w75 d.w6d
 weh:mg "_law_is_dealt"=some (.ref d.w75)
 wej:qan K d.w6d ["_law_found","_law_wants"] []
 wh5:Fun K "_law_ends" "_law_ends" jio d.wfn d.wcc
 wi4:mg "_law_ends"=some (.ref d.wfn)
 wi2:qan K d.wcc ["_law_sharing_here","_law_shares","_law_name_here","_law_at"] []
 wfk:Fun K "_law_paper" "_law_paper" jeh d.wc8 d.wac
 whp:mg "_law_paper"=some (.ref d.wc8)
 whz:qan K d.wac ["_law_sharing_here","_law_shares","_law_k"] []
 wf5:Fun K "_law_laid" "_law_laid" jip d.wf6 d.wc6
 wgz:mg "_law_laid"=some (.ref d.wf6)
 wgt:qan K d.wc6 ["_law_some"] []
 wae:Fun K "_law_papers" "_law_papers" jch d.wa7 d.w8x
 wdx:mg "_law_papers"=some (.ref d.wa7)
 we0:qan K d.w8x ["_law_sharing_here","_law_told"] []
 wic:Fun K "law" "law" jnu d.wcz d.wbx
 wig:mg "law"=some (.ref d.wcz)
 wc5:Fun K "__init__" "House.__init__" ja7 d.w59 d.w4t
 wbj:qan K d.w4t ["self","elder","promise","cap","weight"] []
 wci:My.FunD K "__init__" "Tree.__init__" jai d.w63 d.w3r d.wdt (List.toArray [d.w16])
 wd0:qan K d.w3r ["self","wares","name","promise","cap","weight"] []
 wh2:qan K d.w3r ["self","wares","name","promise","cap","weight"] [d.w16]
 wgu:qbk [.int 1] [d.w16]
 wby:My.FunD K "found" "Tree.found" jag d.w5n d.w32 d.wb1 (List.toArray [d.w0t])
 wbh:qan K d.w32 ["self","name","elder","promise","cap","weight"] []
 wge:qan K d.w32 ["self","name","elder","promise","cap","weight"] [d.w0t]
 wgj:qbk [.int 1] [d.w0t]
 wgr:Fun K "wares" "Tree.wares" jbw d.w7u d.w6w
 wh8:qan K d.w6w ["self"] []
 wh7:Fun K "names" "Tree.names" jbx d.w7t d.w6p
 wgx:qan K d.w6p ["self"] []
 wet:Fun K "has" "Tree.has" jbs d.w72 d.w6f
 w9r:qan K d.w6f ["self","thing"] []
 w6u:Fun K "check_house" "Tree.check_house" jah d.w25 d.w1w
 w22:qan K d.w1w ["self","thing"] []
 w91:Fun K "house_of" "Tree.house_of" jaq d.w3g d.w2x
 w5f:qan K d.w2x ["self","name"] []
 w8m:Fun K "elder_of" "Tree.elder_of" jar d.w3e d.w2t
 w3i:qan K d.w2t ["self","name"] []
 w83:Fun K "weight_of" "Tree.weight_of" jam d.w2p d.w2b
 w85:qan K d.w2b ["self","name"] []
 wda:Fun K "kids" "Tree.kids" jbe d.w66 d.w54
 wc9:qan K d.w54 ["self","name"] []
 wdb:Fun K "line" "Tree.line" jbf d.w6h d.w5j
 w0u:qan K d.w5j ["self","name"] []
 w9h:Fun K "beneath" "Tree.beneath" jaw d.w1h d.w0x
 w3x:qan K d.w0x ["self","name"] []
 w4d:Fun K "promised_beneath" "Tree.promised_beneath" jae d.w17 d.w0v
 w23:qan K d.w0v ["self","name"] []
 w9z:Fun K "floors" "Tree.floors" ja1 d.w4l d.w3v
 waq:qan K d.w3v ["self","name"] []
 w7m:Fun K "check_more" "Tree.check_more" jaj d.w2a d.w29
 w4b:qan K d.w29 ["self","names","more"] []
 w70:Fun K "check_move" "Tree.check_move" jak d.w2c d.w27
 w7l:qan K d.w27 ["self","name","elder"] []
 wdo:Fun K "move" "Tree.move" jbg d.w6j d.w56
 wcm:qan K d.w56 ["self","name","elder"] []
 w9g:Fun K "__init__" "Dealing.__init__" jax d.w3z d.w3f
 w9f:qan K d.w3f ["self","tree","rooms","wants","weights"] []
 w9b:Fun K "fills" "Dealing.fills" jas d.w3k d.w2u
 w98:qan K d.w2u ["self"] []
 w8k:Fun K "ready" "Dealing.ready" jat d.w3j d.w2q
 w8p:qan K d.w2q ["self","level","fills"] []
 w8a:Fun K "settle" "Dealing.settle" jan d.w2y d.w2d
 w8c:qan K d.w2d ["self","level","names"] []
 w5v:Fun K "next_round" "Dealing.next_round" jaf d.w1n d.w1i
 w5w:qan K d.w1i ["self"] []
 wce:Fun K "__init__" "Sums.__init__" jbh d.w61 d.w53
 wd6:qan K d.w53 ["self","tree","rooms","shares","weights"] []
 w8u:Fun K "stops_of" "Sums.stops_of" jau d.w3l d.w2r
 w8j:qan K d.w2r ["self","name"] []
 wgl:Fun K "__init__" "NoPromise.__init__" jbi d.w4i d.w41
 wc4:My.XClI K d.w1x d.w4i
 was:qan K d.w41 ["self","house","ware"] []
 whw:mg "House"=some (.ref d.w06)
 wia:mg "Tree"=some (.ref d.w01)
 wfj:mg "Dealing"=some (.ref d.w00)
 wib:mg "Sums"=some (.ref d.w05)
 whg:mg "TreeError"=some (.ref d.w4e)
 wga:mg "NoName"=some (.ref d.w5r)
 whi:mg "Taken"=some (.ref d.w7n)
 wew:mg "NoHouse"=some (.ref d.w0o)
 wgo:mg "NoMove"=some (.ref d.w5s)
 wdj:mg "NoPromise"=some (.ref d.w1x)
 we4:mg "NoWare"=some (.ref d.w5u)
 w7j:mg "NoAmount"=some (.ref d.w33)
 wek:mg "NoNumber"=some (.ref d.w35)
 wfl:mg "TooMany"=some (.ref d.w42)
 wb3:mg "TooDeep"=some (.ref d.w49)
 wfi:mg "LETTERS"=some d.w47
 w52:qb6 (.str "abcdefghijklmnopqrstuvwxyz") d.w47
 w9l:mg "LONGEST_NAME"=some d.w1e
 w1o:qb6 (.int 8) d.w1e
 wbu:mg "MOST_WARES"=some d.w1y
 w2j:qb6 (.int 6) d.w1y
 wa5:mg "MOST_HOUSES"=some d.w1k
 w28:qb6 (.int 40) d.w1k
 w5x:mg "LONGEST_LINE"=some d.w1c
 w1f:qb6 (.int 12) d.w1c
 w7p:mg "GREATEST_WEIGHT"=some d.w0m
 w14:qb6 (.int 1000) d.w0m
 whm:mg "abs"=none
 wi1:mg "all"=none
 wh4:mg "bool"=none
 w8h:mg "dict"=none
 whn:mg "int"=none
 w0a:mg "isinstance"=none
 w3n:mg "len"=none
 wdw:mg "list"=none
 wie:mg "max"=none
 w5c:mg "range"=none
 wid:mg "set"=none
 w3q:mg "sorted"=none
 wg8:mg "str"=none
 wf8:mg "tuple"=none
 wif:mg "zip"=none
 w0h:Cls K d.w00
 w5q:Cls K d.w05
 w4a:Mk K d.w00 d.w3z
 w8r:Mk K d.w05 d.w61
 w1a:jao K d.w00 "fills" d.w3k
 w1b:jao K d.w00 "ready" d.w3j
 w0z:jao K d.w00 "settle" d.w2y
 w0e:jao K d.w00 "next_round" d.w1n
 w19:jao K d.w05 "stops_of" d.w3l
 w0f:vW K (.ref d.w00) "tree"=some none
 w0b:vW K (.ref d.w00) "weights"=some none
 w04:vW K (.ref d.w00) "waiting"=some none
 w0p:vW K (.ref d.w00) "left"=some none
 w0j:vW K (.ref d.w00) "goals"=some none
 w21:vW K (.ref d.w05) "tree"=some none
 w1j:vW K (.ref d.w05) "rooms"=some none
 w1g:vW K (.ref d.w05) "levels"=some none
 w1d:vW K (.ref d.w05) "totals"=some none
 w20:vW K (.ref d.w05) "tops"=some none
 w1m:Cls K d.w06
 w02:Cls K d.w01
 w6y:Mk K d.w06 d.w59
 w97:Mk K d.w01 d.w63
 w24:jao K d.w01 "found" d.w5n
 w31:jao K d.w01 "wares" d.w7u
 w30:jao K d.w01 "names" d.w7t
 w2g:jao K d.w01 "has" d.w72
 w09:jao K d.w01 "check_house" d.w25
 w0q:jao K d.w01 "house_of" d.w3g
 w0i:jao K d.w01 "elder_of" d.w3e
 w13:jao K d.w01 "weight_of" d.w2p
 w2m:jao K d.w01 "kids" d.w66
 w08:jao K d.w01 "line" d.w6h
 w0n:jao K d.w01 "beneath" d.w1h
 w07:jao K d.w01 "promised_beneath" d.w17
 w0g:jao K d.w01 "check_more" d.w2a
 w1p:jao K d.w01 "floors" d.w4l
 w0s:jao K d.w01 "check_move" d.w2c
 w2n:jao K d.w01 "move" d.w6j
 w0k:vW K (.ref d.w06) "elder"=some none
 w0d:vW K (.ref d.w06) "promise"=some none
 w15:vW K (.ref d.w06) "cap"=some none
 w0y:vW K (.ref d.w06) "weight"=some none
 w0c:vW K (.ref d.w01) "sorted_wares"=some none
 w03:vW K (.ref d.w01) "houses"=some none
 wg3:My.XCls K d.w0o
 w7k:My.XCls K d.w33
 we7:My.XCls K d.w5u
 wg4:My.XCls K d.w5r
 wep:My.XCls K d.w35
 whu:My.XCls K d.w7n
 wfa:My.XCls K d.w42
 wbr:My.XCls K d.w49
 wgf:My.XCls K d.w5s
def eV:Option Str->V
 |none=> .non
 |some z=> .str z
structure Ho where
 el:Option Str
 pa:Addr
 kp:List (Key×V)
 fp:Str->Option Int
 ca:Addr
 kc:List (Key×V)
 fc:Str->Option Int
 w:Int
structure He where
 n:Str
 a:Addr
 x:Ho
structure Ts where
 sw:Addr
 ws:List Str
 hs:Addr
 hl:List He
def fsH(x:Ho):List (Str×V):=[("elder",eV x.el),("promise",.ref x.pa),("cap",.ref x.ca),("weight",.int x.w)]
def jl1(d:Ad)(H:Hp)(a:Addr)(x:Ho):Prop:=(∃dx,H a=some (.ins d.w06 dx (fsH x)))/\H x.pa=some (.dK x.kp)/\AD x.kp x.fp/\H x.ca=some (.dK x.kc)/\AD x.kc x.fc
def jl1.same{d:Ad}{H H':Hp}{a:Addr}{x:Ho}(h:jl1 d H a x)(s:jab H H'):jl1 d H' a x:=⟨let ⟨dx,e⟩:=h.1;⟨dx,s _ _ e⟩,s _ _ h.2.1,h.2.2.1,s _ _ h.2.2.2.1,h.2.2.2.2⟩
def Ts.keys(S:Ts):List (Str×Addr):=S.hl.map fun e=>(e.n,e.a)
def Ts.at(S:Ts)(z:Str):Option He:=S.hl.find? fun e=>decide (e.n=z)
def fsT(S:Ts):List (Str×V):=[("sorted_wares",.ref S.sw),("houses",.ref S.hs)]
def qdv(d:Ad)(H:Hp)(t:Addr)(S:Ts):Prop:=(∃dx,H t=some (.ins d.w01 dx (fsT S)))/\H S.sw=some (.lst (S.ws.map V.str))/\H S.hs=some (.dK (oK S.keys))/\(S.hl.map (·.n)).Nodup/\S.hl.length<=60/\∀e∈S.hl,jl1 d H e.a e.x
theorem qdv.same{d:Ad}{H H':Hp}{t:Addr}{S:Ts}(h:qdv d H t S)(s:jab H H'):qdv d H' t S:=
 ⟨let ⟨dx,e⟩:=h.1;⟨dx,s _ _ e⟩,s _ _ h.2.1,s _ _ h.2.2.1,h.2.2.2.1,h.2.2.2.2.1,fun e he=>(h.2.2.2.2.2 e he).same s⟩
theorem qdj(S:Ts)(z:Str):qdc S.keys z=(S.at z).map (·.a):=by
 obtain⟨sw,ws,hs,hl⟩:=S;unfold Ts.keys Ts.at;dsimp only
 induction hl with
 |nil=>rfl
 |cons e r ih=>
  rw[zU,yI];unfold qdc;by_cases q:e.n=z
  .rw[gU q,gW q];rfl
  .rw[gT q,gX q];exact ih
def qc0(h:S.at z=some e):e∈S.hl/\e.n=z:=⟨List.mem_of_find?_eq_some h,by have:=List.find?_some h;simpa using this⟩
def jws(K:uT)(H:Hp)(x:V):Prop:=∃t,jbv K H x t/\cA K t (.type "str")=some false
def qew(K:uT)(H:Hp)(x:V):Prop:=(∃z,x=.str z)\/(jws K H x/\∀z,x≠ .str z)
def who(S:Ts):V->Option He
 | .str z=>S.at z
 |_=>none
theorem qdd{x:V}(h:∀z,x≠ .str z):who S x=none:=by
 cases x<;>first|rfl|(rename_i z;exact absurd rfl (h z))
def wdk(K:uT)(d:Ad):Sp:=fun vs H Q _=>∃(t:Addr)(S:Ts)(x:V),vs=[.ref t,x]/\qdv d H t S/\qew K H x/\Q (.bl (who S x).isSome) H
def w67(K:uT)(d:Ad):Sp:=fun vs H Q E=>∃(t:Addr)(S:Ts)(x:V),vs=[.ref t,x]/\qdv d H t S/\qew K H x/\(∀e,who S x=some e->Q .non H)/\(who S x=none->E (.ref d.w0o) none H)
def w86(K:uT)(d:Ad):Sp:=fun vs H Q E=>∃(t:Addr)(S:Ts)(x:V),vs=[.ref t,x]/\qdv d H t S/\qew K H x/\(∀e,who S x=some e->Q (.ref e.a) H)/\(who S x=none->E (.ref d.w0o) none H)
def w8d(K:uT)(d:Ad):Sp:=fun vs H Q E=>∃(t:Addr)(S:Ts)(x:V),vs=[.ref t,x]/\qdv d H t S/\qew K H x/\(∀e,who S x=some e->Q (eV e.x.el) H)/\(who S x=none->E (.ref d.w0o) none H)
def w71(K:uT)(d:Ad):Sp:=fun vs H Q E=>∃(t:Addr)(S:Ts)(x:V),vs=[.ref t,x]/\qdv d H t S/\qew K H x/\(∀e,who S x=some e->Q (.int e.x.w) H)/\(who S x=none->E (.ref d.w0o) none H)
def jnv{a:Str}(h:Q (.bl true) H):jjv (.str a) .non H Q:=⟨rfl,h⟩
theorem jbv.same{K:uT}{H H':Hp}{x:V}{t:uB}(h:jbv K H x t)(s:jab H H'):jbv K H' x t:=by
 cases h with
 |non=>exact .non
 |bl b=>exact .bl b
 |int i=>exact .int i
 |str z=>exact .str z
 |flt z=>exact .flt z
 |lst e=>exact .lst (s _ _ e)
 |frz e=>exact .frz (s _ _ e)
 |tup e=>exact .tup (s _ _ e)
 |dK e=>exact .dK (s _ _ e)
 |dT e=>exact .dT (s _ _ e)
 |ins e c a n k m=>exact .ins (s _ _ e) c a n k m
theorem qew.same{K:uT}{H H':Hp}{x:V}(h:qew K H x)(s:jab H H'):qew K H' x:=by
 rcases h with h|⟨⟨t,a,b⟩,n⟩
 .exact .inl h
 .exact .inr ⟨⟨t,jbv.same a s,b⟩,n⟩
inductive jad(S:Ts):Str->List Str->Prop
 |top{z:Str}{e:He}(h:S.at z=some e)(n:e.x.el=none):jad S z [z]
 |up{z y:Str}{e:He}{zs:List Str}(h:S.at z=some e)(n:e.x.el=some y)(r:jad S y zs):jad S z (z::zs)
def jl2(S:Ts):Option Str->List Str->Prop
 |none,zs=>zs=[]
 |some y,zs=>jad S y zs
theorem jad.open{zs:List Str}(h:jad S z zs):∃e r,S.at z=some e/\zs=z::r/\jl2 S e.x.el r:=by
 cases h with
 |top h n=>exact⟨_,[],h,rfl,by rw[n];rfl⟩
 |up h n r=>exact⟨_,_,h,rfl,by rw[n];exact r⟩
def jei(l:Addr)(H:Hp):Nat:=match H l with
 |some (.lst xs)=>xs.length
 |_=>0
theorem qf8{xs:List V}(e:H l=some (.lst xs)):jei l H=xs.length:=by unfold jei;rw[e]
def wb7(K:uT)(d:Ad):Sp:=fun vs H Q E=>∃(t:Addr)(S:Ts)(x:V),vs=[.ref t,x]/\qdv d H t S/\
 ((∃z zs,x=.str z/\jad S z zs/\zs.length<=1000/\∀l,H l=none->Q (.ref l) (upd H l (.lst (zs.map V.str))))\/(qew K H x/\who S x=none/\∀l,H l=none->E (.ref d.w0o) none (upd H l (.lst [x]))))
def qbm(S:Ts)(z:Str):List Str:=(S.hl.filter fun e=>decide (e.x.el=some z)).map (·.n)
def wbe(K:uT)(d:Ad):Sp:=fun vs H Q E=>∃(t:Addr)(S:Ts)(x:V),vs=[.ref t,x]/\qdv d H t S/\qew K H x/\(∀e,who S x=some e->∀l ss H',jab H H'->H l=none->H' l=some (.lst (ss.map V.str))->ss.Perm (qbm S e.n)->vX ss=true->Q (.ref l) H')/\(who S x=none->E (.ref d.w0o) none H)
inductive jby(K:uT)(d:Ad)(vs:List V)(H:Hp)(Q:VK)(E:XK):Prop
 |mk(a:Addr)(kvs:List (Key×V))(f:Str->Option Int)(z:Str)(_:vs=[.ref a,.str z])(_:Rd H a (.dK kvs))(_:AD kvs f)(_:Q (.int (gN f z)) H)
def w8i(K:uT)(d:Ad):Sp:=fun vs H Q _=>∃(a:Addr)(kvs:List (Key×V))(f:Str->Option Int),vs=[.ref a]/\H a=some (.dK kvs)/\AD kvs f/\kvs.length<=1000/\
 ∀l k' H',jab H H'->H l=none->H' l=some (.dK k')->AD k' (qdh f)->Q (.ref l) H'
inductive jkj(K:uT)(d:Ad)(vs:List V)(H:Hp)(Q:VK)(E:XK):Prop
 |mk(a b:Addr)(ka kb:List (Key×V))(f g:Str->Option Int)(_:vs=[.ref a,.ref b])(_:Rd H a (.dK ka))(_:H b=some (.dK kb))(_:AD ka f)(_:AD kb g)(_:ka.length<=1000)(_:kb.length<=1000)(_:∀l k' H',jab H H'->H l=none->H' l=some (.dK k')->AD k' (qgy f g)->Q (.ref l) H')
inductive jiq(K:uT)(d:Ad)(vs:List V)(H:Hp)(Q:VK)(E:XK):Prop
 |mk(a b:Addr)(ka kb:List (Key×V))(f g:Str->Option Int)(_:vs=[.ref a,.ref b])(_:Rd H a (.dK ka))(_:Rd H b (.dK kb))(_:AD ka f)(_:AD kb g)(_:ka.length<64)(_:(∀H',jab H H'->(∀y,¬viol f g y)->Q .non H'))(_:∀z H',jab H H'->viol f g z->(∀y,viol f g y->leS z y)->Q (.str z) H')
structure Pt where
 a:Addr
 k:List (Key×V)
 f:Str->Option Int
def jgf(ts:List Pt):Str->Option Int:=ts.foldl (fun f t=>qgy f t.f) noF
def jwt(H:Hp)(ws:List Str)(t:Pt):Prop:=H t.a=some (.dK t.k)/\AD t.k t.f/\∀z,t.f z≠none->z∈ws
def wcf(K:uT)(d:Ad):Sp:=fun vs H Q _=>∃(L:Addr)(ts:List Pt)(ws:List Str),vs=[.ref L]/\SqL K H L (ts.map fun t=> .ref t.a)/\ws.length<=100/\(∀t∈ts,jwt H ws t)/\
 ∀l k' H',jab H H'->H l=none->H' l=some (.dK k')->AD k' (jgf ts)->Q (.ref l) H'
section
variable{K:uT}{d:Ad}{H:Hp}{Q:VK}{E:XK}
def jkk{kvs:List (Key×V)}(hR:Rd H a (.dK kvs))(hA:AD kvs f)(q:Q (.int (gN f z)) H):jby K d [.ref a,.str z] H Q E:=⟨a,kvs,f,z,rfl,hR,hA,q⟩
end
local macro_rules | `(tactic| walk_at "kit") => `(tactic| (with_reducible (first
 |assumption|exact jdx|exact jc0|exact jdy
 |exact jdz|exact jd0|exact jd1)))
local macro_rules | `(tactic| walk_at "ty") => `(tactic| (first
 |(with_reducible assumption) |(with_reducible exact jbv.int _) |(with_reducible exact jbv.bl _) |(with_reducible exact jbv.str _)
 |(with_reducible exact jbv.non) |((with_reducible refine' jbv.tup ?h);(case h=>walk_at "heap")) |((with_reducible refine' jbv.lst ?h);(case h=>walk_at "heap")) |((with_reducible refine' jbv.dK ?h);(case h=>walk_at "heap"))))
local macro_rules | `(tactic| walk_at "heap") => `(tactic| first
 |with_reducible assumption|with_reducible exact qa1|((with_reducible refine' qaa ?h ?n);(case n=>with_reducible assumption);(case h=>walk_at "heap")))
local macro_rules | `(tactic| walk_at "sqL") => `(tactic| first
 |with_reducible assumption|((with_reducible refine' jd2 ?h ?n);(case n=>with_reducible assumption);(case h=>walk_at "sqL")) |((with_reducible refine' SqL.of ?h);(case h=>walk_at "heap")))
local macro_rules | `(tactic| walk_at "sqT") => `(tactic| first
 |with_reducible assumption|((with_reducible refine' SqT.of ?h);(case h=>walk_at "heap")))
local macro_rules | `(tactic| walk_at "side") => `(tactic| first
 |assumption|exact rfl|omega|decide
 |(simp only[zR,yL,zA];omega) |exact⟨↑∅,↑∅⟩|exact⟨∅,∅⟩|exact⟨↑∅,by assumption⟩
 |exact⟨by assumption,by assumption⟩|exact⟨∅,by assumption⟩|exact⟨∅,∅,∅⟩)
local macro_rules | `(tactic| walk_at "size") => `(tactic| (first
 |assumption|(simp only[zR,yL,zA,zW];first|decide|(show _<=16777216;omega) |(show _<16777216;omega)) |(show _<=16777216;omega) |(show _<16777216;omega)))
local macro_rules | `(tactic| walk_at "sp") => `(tactic| fail)
local macro_rules | `(tactic| walk_at "r1") => `(tactic| first
 |(with_reducible refine jsw (by with_unfolding_all exact rfl) ?_) |(with_reducible first|refine r_c ?_|refine jvv ?_|refine jvw ?_|refine jvx ?_|refine r_U ?_) |((with_reducible refine r_I ?hc ?_);(case hc=>walk_at "side")) |(with_reducible first|refine jsx ?_|refine jsy ?_|refine jsz ?_|refine js0 ?_|refine js1 ?_|refine jpr ?_|refine jvy ?_|refine js2 ?_|refine jvz ?_|refine js3 ?_|refine jps ?_|refine jpt ?_|refine js4 ?_|refine jpu ?_|refine js5 ?_|refine jpv ?_|refine js6 ?_|refine jv0 ?_|refine js7 ?_)
 |(with_reducible refine jpw (by with_unfolding_all (simp only [List.set];exact rfl)) ?_) |(with_reducible first|refine jpx ?_|refine jmx ?_) |((with_reducible refine' jpy ?s ?n ?_);(case s=>walk_at "sqT");(case n=>exact rfl)) |(with_reducible first|refine jtg ?_|refine jv4 ?_|refine jv5 ?_)
 |((with_reducible refine' jth ?s ?_);(case s=>walk_at "sqL")) |((with_reducible refine' jti ?s ?t ?_);(case s=>walk_at "side");(case t=>walk_at "side")) |(with_reducible first|refine js8 ?_|refine js9 ?_|refine jv1 ?_|refine jv2 ?_|refine jta ?_|refine jpz ?_|refine jtb ?_|refine jtc ?_) |((with_reducible refine jtd ?n ?_);(case n=>(simp only [zR,yL];decide)))
 |((with_reducible refine jm0 ?_);intro p hp) |(with_reducible first|refine jp0 ?_|refine jmy ?_|refine jv3 ?_|refine jmz ?_) |((with_reducible refine' jte ?s ?e ?_);(case s=>walk_at "sqT");(case e=>exact rfl)) |(with_reducible first|refine jqi ?_|refine jqj ?_|refine jwa ?_|refine jtn ?_|refine jtm ?_)
 |((with_reducible refine' jto ?a ?z ?_);(case a=>walk_at "heap");(case z=>walk_at "size")) |((with_reducible refine' jlp ?z ?_);(case z=>walk_at "size")) |((with_reducible refine' jqg ?z ?_);(case z=>walk_at "size")) |(with_reducible refine jm8 ?_)
 |((with_reducible refine' jp1 ?s ?_);(case s=>walk_at "sqT")) |((with_reducible refine' jli ?s ?_);(case s=>walk_at "sqL")) |(with_reducible first|refine jtf ?_|refine jlj ?_|refine jlk ?_|refine jm1 ?_|refine jm2 ?_) |((with_reducible refine' jsv ?t ?k ?_);(case t=>walk_at "ty");(case k=>walk_at "kit"))
 |(with_reducible first|refine jv7 ?_|refine jv8 ?_|refine jsf ?_|refine jsq ?_) |((with_reducible refine i_t ?c ?_);(case c=>walk_at "side")) |((with_reducible refine i_f ?c ?_);(case c=>walk_at "side")) |((with_reducible refine ju7 ?c ?_);(case c=>walk_at "side"))
 |((with_reducible refine ju8 ?c ?_);(case c=>walk_at "side")) |walk_at "sp")
local macro_rules | `(tactic| walk_at "g") => `(tactic| repeat walk_at "r1")
local macro_rules|`(tactic|left)=>`(tactic|walk_at "g")
local macro_rules|`(~~~$x)=>`(qam qat (pv $x) qa7 fun _ _=>rfl)
set_option hygiene false in
local macro_rules|`($x|||$y)=>`(qal (qav hr) $x $y fun _ _=>rfl)
local macro_rules|`(#[()])=>`(⟨rfl,rfl,rfl,by decide+kernel,rfl,by decide+kernel,by decide+kernel⟩)|`(#[])=>`(by omega)|`(#[$x])=>`(qa0 $x qa3)|`(#[$x,$y,*])=>`(qa0 $x #[$y,*])
set_option hygiene false in
local macro_rules|`(tactic|exists $x)=>`(tactic|refine $x (fun vs H Q E h=>?_) (fun cdv A outer s H vs Q E hr h=>?_))|`(tactic|exists $x,$y)=>`(tactic|(refine⟨_,$x,?_⟩;walk_at "d";refine qac (σ:=$y) rfl ?_))
set_option hygiene false in
local macro_rules|`(tactic|right)=>`(tactic|first|(obtain⟨_,rfl,_⟩:=h;rfl)|(obtain⟨_,_,rfl,_⟩:=h;rfl)|(obtain⟨_,_,_,rfl,_⟩:=h;rfl)|(obtain⟨_,_,_,_,rfl,_⟩:=h;rfl)|(obtain⟨_,_,_,_,_,rfl,_⟩:=h;rfl)|(obtain⟨_,_,_,_,_,_,rfl,_⟩:=h;rfl)|(obtain⟨_,_,_,_,_,_,_,rfl,_⟩:=h;rfl)|(obtain⟨_,_,_,_,_,_,_,_,_,rfl,_⟩:=h;rfl)|(obtain⟨_,_,_,_,_,_,_,_,_,_,rfl,_⟩:=h;rfl)|(obtain⟨_,_,_,_,_,_,_,_,_,_,_,rfl,_⟩:=h;rfl)|(obtain⟨_,_,_,_,_,_,_,_,_,_,_,_,rfl,_⟩:=h;rfl)|(obtain⟨_,_,_,_,_,_,_,_,_,_,_,_,_,rfl,_⟩:=h;rfl)|(obtain⟨_,_,_,_,_,_,_,_,_,_,_,_,_,_,rfl,_⟩:=h;rfl)|(obtain⟨_,_,_,_,_,_,_,_,_,_,_,_,_,_,_,rfl,_⟩:=h;rfl)|(obtain⟨_,_,_,_,_,_,_,_,_,_,_,_,_,_,_,_,rfl,_⟩:=h;rfl)|(obtain⟨_,_,_,_,_,_,_,_,_,_,_,_,_,_,_,_,_,rfl,_⟩:=h;rfl)|(obtain⟨_,_,_,_,_,_,_,_,_,_,_,_,_,_,_,_,_,_,rfl,_⟩:=h;rfl))
local macro_rules | `(tactic| walk_at "d") => `(tactic| try dsimp only [L2.cxOf, L2.Cx.nox, L2.Cx.wish, My.xw, pnd, suite])
local macro_rules | `(tactic| walk_at "rd") => `(tactic| first
 |with_reducible assumption|((with_reducible refine' jda ?h ?n);(case n=>with_reducible assumption);(case h=>walk_at "rd")) |((with_reducible refine' Rd.of ?h);(case h=>walk_at "heap")))
local macro_rules | `(tactic| walk_at "same") => `(tactic| first
 |with_reducible assumption|exact jab.refl _|((with_reducible refine' jfa ?h ?n);(case n=>with_reducible assumption);(case h=>walk_at "same")))
local macro_rules | `(tactic| walk_at "sp") => `(tactic| first
 |((with_reducible refine jnh ?_);intro p hp) |((with_reducible refine' jwo ?e ?_);(case e=>walk_at "heap")) |((with_reducible refine' jq2 ?s ?n ?_);(case s=>walk_at "sqL");(case n=>exact rfl)) |((with_reducible refine' jkk ?r ?a ?_);(case r=>walk_at "rd");(case a=>with_reducible assumption))
 |(with_reducible refine jql ?_) |((with_reducible refine' qc7 ?s ?e ?_);(case s=>walk_at "sqL");(case e=>exact rfl)) |(with_reducible refine jtz ?_) |((with_reducible refine' jqv ?r ?_);(case r=>walk_at "rd"))
 |((with_reducible refine' jqw ?r ?a ?_);(case r=>walk_at "rd");(case a=>with_reducible assumption)) |(with_reducible refine jwf ?_) |((with_reducible refine' jt0 ?r ?a ?e ?_);(case r=>walk_at "rd");(case a=>with_reducible assumption);(case e=>with_reducible assumption)) |(with_reducible refine jwg ?_)
 |((with_reducible refine' jqx ?e ?z ?_);(case e=>walk_at "heap");(case z=>walk_at "size")) |((with_reducible refine jqy ?_);intro p hp) |(with_reducible first|refine jtw ?_|refine jwe ?_) |((with_reducible refine' jj3 ?e ?_);(case e=>walk_at "rd");intro p hp)
 |(with_reducible first|refine jwi ?_|refine jt8 ?_) |((with_reducible refine' jq0 ?e ?l ?_);(case e=>walk_at "heap");(case l=>exact rfl)) |(with_reducible refine jt9 ?_) |((with_reducible refine' jt6 ?e ?l ?_);(case e=>walk_at "heap");(case l=>exact rfl))
 |(with_reducible first|refine jnv ?_|refine jwh ?_) |((with_reducible refine' jub ?r ?_);(case r=>walk_at "rd")) |(with_reducible first|refine jwj ?_|refine jwk ?_|refine jwl ?_|refine jwm ?_) |((with_reducible refine' jt7 ?e ?c ?n ?l ?_);(case e=>walk_at "heap");(case c=>with_reducible assumption);(case n=>with_reducible assumption);(case l=>exact rfl))
 |((with_reducible refine' qdx ?e ?c ?n ?z ?_);(case e=>walk_at "heap");(case c=>with_reducible assumption);(case n=>with_reducible assumption);(case z=>(show _ < 1000;decide))) |(with_reducible first|refine jwc ?_|refine jts ?_) |((with_reducible refine' jtt ?s ?_);(case s=>walk_at "sqL")) |((with_reducible refine' jty ?s ?_);(case s=>walk_at "heap"))
 |((with_reducible refine' jj0 ?h ?z ?_);(case h=>walk_at "heap");(case z=>walk_at "size")))
def wd1:jaa ["thing"] ["thing"] (qa8 jbl):=#[()]
def wed:jaa ["thing"] ["thing"] (qa8 jb4):=#[()]
def w84:jaa ["thing","least","most"] ["thing","least","most"] (qa8 jap):=#[()]
def wbb:jaa ["thing"] ["thing"] (qa8 ja9):=#[()]
def w4q:jaa ["handed","wares","key","ware"] ["handed","wares"] (qa8 ja2):=#[()]
def w3m:jaa ["amounts","told","ware"] ["amounts"] (qa8 jav):=#[()]
def wbc:jaa ["amounts","ware"] ["amounts","ware"] (qa8 jba):=#[()]
def wa8:jaa ["one","other","told","ware"] ["one","other"] (qa8 jea):=#[()]
def waz:jaa ["one","other","ware"] ["one","other"] (qa8 jcf):=#[()]
def w4m:jaa ["many","total","amounts"] ["many"] (qa8 jbm):=#[()]
def w34:jaa ["one","other","great","small","rest"] ["one","other"] (qa8 jb5):=#[()]
def w6g:jaa ["top","bottom","shared"] ["top","bottom"] (qa8 jbn):=#[()]
def whj:jaa ["one","other"] ["one","other"] (qa8 jih):=#[()]
def wg9:jaa ["one","other"] ["one","other"] (qa8 jeb):=#[()]
def wgb:jaa ["one","other"] ["one","other"] (qa8 jec):=#[()]
def weu:jaa ["one","other"] ["one","other"] (qa8 jb6):=#[()]
def wgc:jaa ["one","other"] ["one","other"] (qa8 jed):=#[()]
def w4h:jaa ["tree","wants","weigh","weights","name"] ["tree","wants","weigh"] (qa8 ja3):=#[()]
def w4f:jaa ["tree","weights","waiting","loads","name","house"] ["tree","weights","waiting"] (qa8 jbo):=#[()]
def w4r:jaa ["many","least","one"] ["many"] (qa8 jbp):=#[()]
def w5d:jaa ["tree","rooms","wants","weights","dealing","told"] ["tree","rooms","wants","weights"] (qa8 jbb):=#[()]
def w4v:jaa ["tree","rooms","wants","weigh","weights","shares","level_names","name","sums","told","paper"] ["tree","rooms","wants","weigh"] (qa8 jcc):=#[()]
def wbd:jaa ["thing"] ["thing"] (qa8 jbc):=#[()]
def wat:jaa ["thing"] ["thing"] (qa8 ja4):=#[()]
def w4u:jaa ["wares","elder","promise","cap","weight","own_promise","own_cap"] ["wares","elder","promise","cap","weight"] (qa8 ja5):=#[()]
def w45:jaa ["name","promises","cap","ware"] ["name","promises","cap"] (qa8 jal):=#[()]
def web:jaa ["_law_script","_law_k"] ["_law_script","_law_k"] (qa8 jb7):=#[()]
def we6:jaa ["_law_cell","_law_k","_law_number"] ["_law_cell","_law_k"] (qa8 jee):=#[()]
def w4s:jaa ["_law_cell","_law_k","_law_letters","_law_size","_law_at","_law_name_here","_law_j","_law_step","_law_place"] ["_law_cell","_law_k"] (qa8 jii):=#[()]
def wgd:jaa ["_law_found"] ["_law_found"] (qa8 jef):=#[()]
def whv:jaa ["_law_number","_law_scale"] ["_law_number","_law_scale"] (qa8 jij):=#[()]
def whk:jaa ["_law_number","_law_scale"] ["_law_number","_law_scale"] (qa8 jik):=#[()]
def w0w:jaa ["_law_script","_law_count","_law_scale","_law_names","_law_elders","_law_weights","_law_wants","_law_rooms","_law_k","_law_cells","_law_number"] ["_law_script","_law_count"] (qa8 jb8):=#[()]
def w50:jaa ["_law_script","_law_sharing_here","_law_names","_law_elders","_law_weights","_law_wants","_law_rooms","_law_tree_here","_law_k"] ["_law_script","_law_sharing_here"] (qa8 jil):=#[()]
def wag:jaa ["_law_elders","_law_k","_law_some","_law_at"] ["_law_elders","_law_k"] (qa8 jim):=#[()]
def w48:jaa ["_law_sharing_here","_law_at","_law_names","_law_elders","_law_weights","_law_wants","_law_rooms"] ["_law_sharing_here","_law_at"] (qa8 jcg):=#[()]
def w1u:jaa ["_law_shares","_law_some","_law_top","_law_bottom","_law_name_here","_law_share"] ["_law_shares","_law_some"] (qa8 jbq):=#[()]
def whd:jaa ["_law_one","_law_other"] ["_law_one","_law_other"] (qa8 jin):=#[()]
def w2i:jaa ["_law_script","_law_sharing_here","_law_names","_law_elders","_law_weights","_law_wants","_law_rooms","_law_others","_law_name_here","_law_table"] ["_law_script","_law_sharing_here"] (qa8 jeg):=#[()]
def w7v:jaa ["_law_one","_law_other"] ["_law_one","_law_other"] (qa8 jbd):=#[()]
def w9n:jaa ["_law_found"] ["_law_found"] (qa8 ja0):=#[()]
def w6b:jaa ["_law_found","_law_wants","_law_row","_law_name_here"] ["_law_found","_law_wants"] (qa8 jbr):=#[()]
def w3w:jaa ["_law_sharing_here","_law_shares","_law_name_here","_law_at","_law_names","_law_elders","_law_weights","_law_wants","_law_rooms","_law_inside_here","_law_together_here","_law_other","_law_share"] ["_law_sharing_here","_law_shares","_law_name_here","_law_at"] (qa8 jio):=#[()]
def w3s:jaa ["_law_sharing_here","_law_shares","_law_k","_law_names","_law_elders","_law_weights","_law_wants","_law_rooms","_law_share","_law_at"] ["_law_sharing_here","_law_shares","_law_k"] (qa8 jeh):=#[()]
def wct:jaa ["_law_some","_law_laid_here","_law_name_here"] ["_law_some"] (qa8 jip):=#[()]
def w18:jaa ["_law_sharing_here","_law_told","_law_names","_law_elders","_law_weights","_law_wants","_law_rooms","_law_shares","_law_row","_law_at","_law_name_here","_law_share","_law_paper_here"] ["_law_sharing_here","_law_told"] (qa8 jch):=#[()]
def w2k:jaa ["_law_script","_law_sharing_here","_law_names","_law_elders","_law_weights","_law_wants","_law_rooms","_law_tree_here","_law_weigh","_law_flat","_law_beside","_law_other","_law_k","_law_handed","_law_told","_law_kept"] ["_law_script"] (qa8 jnu):=#[()]
def wax:jaa ["self","elder","promise","cap","weight"] ["self","elder","promise","cap","weight"] (qa8 ja7):=#[()]
def w7r:jaa ["self","wares","name","promise","cap","weight","house"] ["self","wares","name","promise","cap","weight"] (qa8 jai):=#[()]
def w4k:jaa ["self","name","elder","promise","cap","weight","house","elders"] ["self","name","elder","promise","cap","weight"] (qa8 jag):=#[()]
def wch:jaa ["self","thing"] ["self","thing"] (qa8 jbs):=#[()]
def w69:jaa ["self","thing"] ["self","thing"] (qa8 jah):=#[()]
def w8b:jaa ["self","name"] ["self","name"] (qa8 jaq):=#[()]
def w87:jaa ["self","name"] ["self","name"] (qa8 jar):=#[()]
def w73:jaa ["self","name"] ["self","name"] (qa8 jam):=#[()]
def wbn:jaa ["self","name"] ["self","name"] (qa8 jbe):=#[()]
def w3p:jaa ["self","name","told","elder"] ["self","name"] (qa8 jbf):=#[()]
def w3a:jaa ["self","name","told","kid"] ["self","name"] (qa8 jaw):=#[()]
def w43:jaa ["self","name"] ["self","name"] (qa8 jae):=#[()]
def w5y:jaa ["self","name","deepest"] ["self","name"] (qa8 ja1):=#[()]
def w3o:jaa ["self","names","more","name"] ["self","names","more"] (qa8 jaj):=#[()]
def w26:jaa ["self","name","elder","own_line","elders"] ["self","name","elder"] (qa8 jak):=#[()]
def wbs:jaa ["self","name","elder"] ["self","name","elder"] (qa8 jbg):=#[()]
def w37:jaa ["self","tree","rooms","wants","weights","house","name"] ["self","tree","rooms","wants","weights"] (qa8 jax):=#[()]
def w1t:jaa ["self","loads","told","house"] ["self"] (qa8 jas):=#[()]
def w1q:jaa ["self","level","fills","told","name","levels"] ["self","level","fills"] (qa8 jat):=#[()]
def w1l:jaa ["self","level","names","name","share","house"] ["self","level","names"] (qa8 jan):=#[()]
def w0r:jaa ["self","fills","level","names"] ["self"] (qa8 jaf):=#[()]
def w3t:jaa ["self","tree","rooms","shares","weights","name","level","house"] ["self","tree","rooms","shares","weights"] (qa8 jbh):=#[()]
def w1s:jaa ["self","name","told","house","is_full"] ["self","name"] (qa8 jau):=#[()]
variable{P:uW}{w:vL}{K:uT}{mg:Str->Option uB}{base:vQ}{d:Ad}(T:Tx K mg d)
include T in
theorem w96:jac P w K mg base CX0 1 d.w72 d.w6f ["self","thing"] (wdk K d):=by
 exists T.wet.ok wch
 .right
 obtain⟨t,S,x,rfl,hT,hx,q⟩:=h;exists qa6 (qae (qg6 (qaf qbn rfl T.w0a vH #[pv 1,qcb (v:=.ty "str") rfl T.wg8 bK rfl]) (qg5 (jo6 (jlm (qav hr) (pv 1) (qax (pv 0) rfl)))))),[sr t,some (x)];obtain⟨⟨dx,ht⟩,hw,hh,nd,hz,hE⟩:=hT;have ct:=T.w02;have nh:qao K d.w01 "houses":=T.w03;rcases hx with⟨z,rfl⟩|⟨⟨ty,ht1,ht2⟩,nz⟩
 .left;rw[qdj,bD];exact q
 .left;rw[qdd nz] at q;exact q
include T in
theorem w1v:jac P w K mg base (My.CX1 P w) 2 d.w25 d.w1w ["self","thing"] (w67 K d):=by
 exists okX T.w6u w69
 .right
 obtain⟨t,S,x,rfl,hT,hx,q1,q2⟩:=h;exists qa6 (qb8 (qc6 (qbj (jgu (pv 0) T.w02 T.w2g ((w96 T).mono ∅) hr T.w9r .nil qaz #[pv 1]))) (qa6 (qbw rfl T.wg3 rfl T.wew qaj #[qcn])) qap),[sr t,some (x)];have hT0:=hT;obtain⟨⟨dx,ht⟩,hw,hh,nd,hz,hE⟩:=hT;have ct:=T.w02;have nh:qao K d.w01 "houses":=T.w03;left;refine⟨t,S,x,rfl,hT0,hx,?_⟩
 cases hw':who S x with
 |none=>
  left;show if(!false)=true then _ else _
  left;exact q2 hw'
 |some e=>
  left;exact q1 e hw'
include T in
theorem w4w:jac P w K mg base (My.CX1 P w) 3 d.w3g d.w2x ["self","name"] (w86 K d):=by
 exists okX T.w91 w8b
 .right
 obtain⟨t,S,x,rfl,hT,hx,q1,q2⟩:=h;exists (qa2 (qb9 (qas (pv 0) T.w02 T.w09 ((w1v T).mono ∅) hr T.w22 .nil qaj #[pv 1]))
  (qa6 (qae (qax (pv 0) rfl|||pv 1)))),[sr t,some (x)];have hT0:=hT;obtain⟨⟨dx,ht⟩,hw,hh,nd,hz,hE⟩:=hT;have ct:=T.w02;have nh:qao K d.w01 "houses":=T.w03;left;refine⟨t,S,x,rfl,hT0,hx,fun e he=>?_,q2⟩;have hz':∃z,x=.str z:=by
  rcases hx with h|⟨_,nz⟩
  .exact h
  .rw[qdd nz] at he;cases he
 obtain⟨z,rfl⟩:=hz';left;refine qfe (.inl hh) (h:=e.a) (by rw[qdj];show(S.at z).map _=_;rw[show S.at z=some e from he];rfl) ?_;left;exact q1 e he
include T in
theorem w2w:jac P w K mg base (My.CX1 P w) 4 d.w3e d.w2t ["self","name"] (w8d K d):=by
 exists okX T.w8m w87
 .right
 obtain⟨t,S,x,rfl,hT,hx,q1,q2⟩:=h;exists qa6 (qae (qax (qas (pv 0) T.w02 T.w0q ((w4w T).mono ∅) hr T.w5f .nil qaj #[pv 1]) rfl)),[sr t,some (x)];have hT0:=hT;obtain⟨⟨dx,ht⟩,hw,hh,nd,hz,hE⟩:=hT;have ct:=T.w02;have nh:qao K d.w01 "houses":=T.w03;left;refine⟨t,S,x,rfl,hT0,hx,fun e he=>?_,q2⟩;obtain⟨z,rfl⟩:∃z,x=.str z:=by
  rcases hx with h|⟨_,nz⟩
  .exact h
  .rw[qdd nz] at he;cases he
 obtain⟨⟨dh,ho⟩,hp,hpA,hc,hcA⟩:=hE e (qc0 he).1;have ch:=T.w1m;have nf:qao K d.w06 "elder":=T.w0k;have hRp:Rd H e.x.pa (.dK e.x.kp):=.inl hp;have hRc:Rd H e.x.ca (.dK e.x.kc):=.inl hc;left;exact q1 e he
include T in
theorem w7d:jac P w K mg base (My.CX1 P w) 4 d.w2p d.w2b ["self","name"] (w71 K d):=by
 exists okX T.w83 w73
 .right
 obtain⟨t,S,x,rfl,hT,hx,q1,q2⟩:=h;exists qa6 (qae (qax (qas (pv 0) T.w02 T.w0q ((w4w T).mono ∅) hr T.w5f .nil qaj #[pv 1]) rfl)),[sr t,some (x)];have hT0:=hT;obtain⟨⟨dx,ht⟩,hw,hh,nd,hz,hE⟩:=hT;have ct:=T.w02;have nh:qao K d.w01 "houses":=T.w03;left;refine⟨t,S,x,rfl,hT0,hx,fun e he=>?_,q2⟩;obtain⟨z,rfl⟩:∃z,x=.str z:=by
  rcases hx with h|⟨_,nz⟩
  .exact h
  .rw[qdd nz] at he;cases he
 obtain⟨⟨dh,ho⟩,hp,hpA,hc,hcA⟩:=hE e (qc0 he).1;have ch:=T.w1m;have nf:qao K d.w06 "weight":=T.w0y;have hRp:Rd H e.x.pa (.dK e.x.kp):=.inl hp;have hRc:Rd H e.x.ca (.dK e.x.kc):=.inl hc;left;exact q1 e he
include T in
theorem w7q:jac P w K mg base CX0 1 d.w64 d.w5h ["amounts","ware"] (jby K d):=by
 exists T.w65.ok wbc
 .right
 obtain⟨a,kvs,f,z,rfl,hR,hA,q⟩:=h;exists qa6 (qae (qf4 (qav hr) (pv 0) (pv 1) qa7 ⟨rfl,rfl,rfl,rfl⟩)),[sr a,some (.str z)];left;exact q
include T in
theorem w92:jac P w K mg base CX0 1 d.w3y d.w3d ["amounts"] (w8i K d):=by
 exists T.w5z.ok w3m
 .right
 obtain⟨a,kvs,f,rfl,hH,hA,hz,q⟩:=h;exists (qa2 (qad (i:=1) w3m.nd rfl (uI rfl) qb1)
  (qa2 (qec (qb2 vM rfl (qcy (pv 0)) (qab (i:=2) w3m.nd rfl (uI rfl)) (qa6 (qdg (qb8 (qak qfi (pv 0|||pv 2) qa7 (qau _)) (qa6 (qbg (qav hr) (pv 1) (pv 2) (pv 0|||pv 2) rfl)) qap)))))
  (qa6 (qae (pv 1))))),[sr a,none,none];left;rename_i l hl;have ea:=qaa (o':=.dK []) hH hl;have nla:l≠a:=(qa9 hH hl).symm;refine qg1 ea fun o=>?_;refine qen (fun i σ H'=>∃(k':List (Key×V))(w:Option V),σ=[sr a,sr l,w]/\SameBut a H H'/\H' a=some (.frz o (.dK kvs))/\H' l=some (.dK k')/\k'.length<=i/\AD k' (fun y=>if y∈(qbx kvs).take i then qdh f y else none))
  ⟨[],none,rfl,SameBut.at (SameBut.of (qa5 hl _)),qa1,by rw[qa4 nla];exact qa1,uG _,AD.nil.cast fun z=>by simp[noF]⟩ ?_ ?_ ?_
 .rintro i σ H' _ ⟨k',w,rfl,sb,fz,hl',_⟩;exact fz
 .rintro i k v σ H' hk ⟨k',w,rfl,sb,fz,hl',hlen,hA'⟩;obtain⟨z,n,rfl,rfl,hf,hzi⟩:=hA.at hk;have hi:i<kvs.length:=(uF.mp hk).1;have hRd:Rd H' a (.dK kvs):=.inr ⟨o,fz⟩;show qek _ (.str z) _ _ _;left;refine qff ?_;left;refine i_2 (fun c=>?_) (fun c=>?_)
  .left;refine⟨_,_,rfl,?_,by rw[qa4 nla.symm];exact fz,qa1,?_,(hA'.put z n).cast fun y=>?_⟩
   .exact jhw sb hl
   .have:=qay k' (uH z) (.int n);omega
   .exact jfi hzi (qdh f) (fun _=>none) (by unfold qdh;rw[hf];exact gU c) y
  .left;refine⟨_,_,rfl,sb,fz,hl',#[],hA'.cast fun y=>?_⟩;exact jnf hzi (qdh f) (fun _=>none) (by unfold qdh;rw[hf];exact gT c) y
 .rintro σ H' ⟨k',w,rfl,sb,fz,hl',_,hA'⟩;refine qe9 (qg0 fz (qcg hH)) ?_;left;refine q l k' _ (qde hH sb) hl (by rw[qa4 nla];exact hl') (hA'.cast fun y=>?_);exact jfj hA (qdh f) (fun _=>none) (fun y e=>by unfold qdh;rw[e]) y
include T in
theorem we3:jac P w K mg base CX0 2 d.wdh d.wav ["one","other"] (jkj K d):=by
 exists T.wcs.ok wa8
 .right
 obtain⟨a,b,ka,kb,f,g,rfl,hRa,hb,hA,hB,za,zb,q⟩:=h;exists (qa2 (qad (i:=2) wa8.nd rfl (uI rfl) (qbz qcl rfl T.w8h wR #[pv 0]))
  (qa2 (qec (qb2 vM rfl (qcy (pv 1)) (qab (i:=3) wa8.nd rfl (uI rfl)) (qa6 (qbg (qav hr) (pv 2) (pv 3) (qah qbr (qag ((w7q T).mono ∅) hr rfl T.w8w T.w65.kp T.w90 .nil qaz #[pv 0,pv 3]) (pv 1|||pv 3)) rfl))))
  (qa6 (qae (pv 2))))),[sr a,sr b,none,none];left;rename_i l hl;have eb:=qaa (o':=.dK ka) hb hl;have nlb:l≠b:=(qa9 hb hl).symm;refine qg1 eb fun o=>?_;refine qen (fun i σ H'=>∃(k':List (Key×V))(w:Option V),σ=[sr a,sr b,sr l,w]/\SameBut b H H'/\H' b=some (.frz o (.dK kb))/\H' l=some (.dK k')/\k'.length<=1000+i/\AD k' (fun y=>if y∈(qbx kb).take i then qgy f g y else f y))
  ⟨ka,none,rfl,SameBut.at (SameBut.of (qa5 hl _)),qa1,by rw[qa4 nlb];exact qa1,#[],hA.cast fun z=>by simp⟩ ?_ ?_ ?_
 .rintro i σ H' _ ⟨k',w,rfl,sb,fz,hl',_⟩;exact fz
 .rintro i k v σ H' hk ⟨k',w,rfl,sb,fz,hl',hlen,hA'⟩;obtain⟨z,n,rfl,rfl,hf,hzi⟩:=hB.at hk;have hi:i<kb.length:=(uF.mp hk).1;have hRb:Rd H' b (.dK kb):=.inr ⟨o,fz⟩;have hRa':Rd H' a (.dK ka):=jt2 hRa hb sb fz;show qek _ (.str z) _ _ _;left;refine⟨_,_,rfl,jhw sb hl,by rw[qa4 nlb.symm];exact fz,qa1,?_,(hA'.put z _).cast fun y=>?_⟩
  .have:=qay k' (uH z) (.int (gN f z+n));omega
  .exact jfi hzi (qgy f g) f (by unfold qgy;rw[hf]) y
 .rintro σ H' ⟨k',w,rfl,sb,fz,hl',_,hA'⟩;refine qe9 (qg0 fz (qcg hb)) ?_;left;refine q l k' _ (qde hb sb) hl (by rw[qa4 nlb];exact hl') (hA'.cast fun y=>?_);exact jfj hB (qgy f g) f (fun y e=>by unfold qgy;rw[e]) y
include T in
theorem wf7:jac P w K mg base CX0 2 d.waa d.w8f ["one","other"] (jiq K d):=by
 exists T.wdv.ok waz
 .right
 obtain⟨a,b,ka,kb,f,g,rfl,hRa,hRb,hA,hB,za,qn,qs⟩:=h;exists (qa2 (qb2 vM rfl (qb0 (qaf (qck rfl) rfl T.w3q wF #[pv 0])) (qab (i:=2) waz.nd rfl (uI rfl)) (qa6 (qb8 (qak qfi (pv 0|||pv 2) (qag ((w7q T).mono ∅) hr rfl T.w8w T.w65.kp T.w90 .nil qaz #[pv 1,pv 2]) (qau _)) (qa6 (qae (pv 2))) qap)))
  (qa6 (qae qd1))),[sr a,sr b,none];left;refine qep hRa hA.keys (by rw[hA.klen];exact za) fun l ss hl hp hs=>?_;have pw:=qfd hs;have hin:∀y,y∈ss↔f y≠none:=fun y=>(hp.mem_iff).trans (hA.kin y);left;have sm:=qa5 hl (.lst (ss.map V.str));have hRa':=jda hRa hl (u:=.lst (ss.map V.str));have hRb':=jda hRb hl (u:=.lst (ss.map V.str));refine qbt (xs:=ss.map V.str) (fun i σ H'=>H'=upd H l (.lst (ss.map V.str))/\(∃w,σ=[sr a,sr b,w])/\∀j y,j<i->ss[j]?=some y->¬viol f g y) ⟨rfl,⟨_,rfl⟩,fun j y hj=>absurd hj (dH j)⟩ ?_ ?_ ?_
 .rintro i σ H' _ ⟨rfl,_⟩;exact SqL.of qa1
 .rintro i v σ H' hv ⟨rfl,⟨w,rfl⟩,hno⟩;rw[zC] at hv;obtain⟨z,hz,rfl⟩:=uK.mp hv;have hfz:=(hin z).mp (zG hz);obtain⟨n,hn⟩:∃n,f z=some n:=by
   cases e:f z with
   |none=>exact absurd e hfz
   |some n=>exact⟨n,rfl⟩
  have gz:gN f z=n:=by unfold gN;rw[hn];rfl
  left;refine i_2 (fun c=>?_) (fun c=>?_)
  .left;refine qs z _ sm ⟨hfz,by rw[gz];exact c⟩ fun y hy=>?_;obtain⟨j,hj,e⟩:=zS.mp ((hin y).mpr hy.1);have hji:i<=j:=by
    rcases bY j i with h|h
    .exact absurd hy (hno j y h (by rw[zB hj,e]))
    .exact h
   obtain⟨hi,ez⟩:=uF.mp hz;rcases Nat.eq_or_lt_of_le hji with h|h
   .subst h;rw[ez] at e;subst e;exact jj4 _
   .have:=xI.mp pw i j hi hj h;rw[ez,e] at this;exact this
  .left;refine⟨rfl,⟨_,rfl⟩,fun j y hj hy=>?_⟩;rcases bY j i with h|h
   .exact hno j y h hy
   .have e:j=i:=by omega
    subst e;rw[hz] at hy
    cases hy
    exact fun hv=>c (by have:=hv.2;rw[gz] at this;exact this)
 .rintro σ H' ⟨rfl,⟨w,rfl⟩,hno⟩;left;refine qn _ sm fun y hy=>?_;obtain⟨j,hj,e⟩:=zS.mp ((hin y).mpr hy.1);exact hno j y (by rw[zA];exact hj) (by rw[zB hj,e]) hy
theorem jej{ts:List Pt}(h:∀t∈ts,∀z,t.f z≠none->z∈ws):∀f0:Str->Option Int,(∀z,f0 z≠none->z∈ws)->∀z,ts.foldl (fun f t=>qgy f t.f) f0 z≠none->z∈ws:=by
 induction ts with
 |nil=>intro f0 h0 z hz;exact h0 z hz
 |cons t ts ih=>intro f0 h0 z hz;exact ih (fun t' ht=>h t' (zD _ ht)) (qgy f0 t.f) (jfh h0 (h t (zF ..))) z hz
include T in
theorem wde:jac P w K mg base CX0 3 d.w7o d.w6a ["many"] (wcf K d):=by
 exists T.w9o.ok w4m
 .right
 obtain⟨L,ts,ws,rfl,hS,hw,hts,q⟩:=h;exists (qa2 (qad (i:=1) w4m.nd rfl (uI rfl) qb1)
  (qa2 (qb2 vM rfl (qb0 (pv 0)) (qab (i:=2) w4m.nd rfl (uI rfl)) (qa6 (qad (i:=1) w4m.nd rfl (uI rfl) (qag ((we3 T).mono ∅) hr rfl T.wfr T.wcs.kp T.wf4 .nil qaz #[pv 1,pv 2]))))
  (qa6 (qae (pv 1))))),[sr L,none,none];left;rename_i l0 hl0;refine qbt (xs:=ts.map fun t=> .ref t.a) (fun i σ H'=>∃(l:Addr)(k':List (Key×V))(w:Option V),σ=[sr L,sr l,w]/\jab H H'/\H l=none/\H' l=some (.dK k')/\AD k' (jgf (ts.take i))) ⟨l0,[],none,rfl,qa5 hl0 _,hl0,qa1,AD.nil⟩ ?_ ?_ ?_
 .rintro i σ H' _ ⟨l,k',w,rfl,sm,_⟩;exact sm.seq hS
 .rintro i v σ H' hv ⟨l,k',w,rfl,sm,hl,hl',hA'⟩;rw[zC] at hv;obtain⟨t,ht,rfl⟩:=uK.mp hv;have hm:=zG ht;obtain⟨h1,h2,h3⟩:=hts t hm;have sup:∀z,jgf (ts.take i) z≠none->z∈ws:=jej (fun t' ht'=>(hts t' (yH ht')).2.2) noF (fun z h=>absurd rfl h);have c1:=hA'.le sup;have c2:=h2.le h3;left;refine⟨l,t.a,k',t.k,jgf (ts.take i),t.f,rfl,.inl hl',sm _ _ h1,hA',h2,#[],#[],fun l2 k2 H2 sm2 hl2 e2 hA2=>?_⟩;left;refine⟨l2,k2,_,rfl,sm.trans sm2,sm.free hl2,e2,?_⟩;have e:ts.take (i+1)=ts.take i++[t]:=by rw[zN,ht];rfl
  rw[e];unfold jgf;rw[List.foldl_append];exact hA2
 .rintro σ H' ⟨l,k',w,rfl,sm,hl,hl',hA'⟩;rw[zA,zJ] at hA';left;exact q l k' H' sm hl hl' hA'
include T in
theorem w0l:jac P w K mg base (My.CX1 P w) 5 d.w6h d.w5j ["self","name"] (wb7 K d):=by
 exists okX T.wdb w3p
 .right
 obtain⟨t,S,x,rfl,hT,q⟩:=h;exists (qa2 (qad (i:=2) w3p.nd rfl (uI rfl) (qbd #[pv 1]))
  (qa2 (qad (i:=3) w3p.nd rfl (uI rfl) (qas (pv 0) T.w02 T.w0i ((w2w T).mono ∅) hr T.w3i .nil qaj #[pv 1]))
  (qa2 (qeb (qbh rfl rfl) (qak qf6 (pv 3) qd1 (qau _)) (qa2 (qb9 (qg2 vY wG wH qc8 (pv 2) #[pv 3]))
  (qa6 (qad (i:=3) w3p.nd rfl (uI rfl) (qas (pv 0) T.w02 T.w0i ((w2w T).mono ∅) hr T.w3i .nil qaj #[pv 3])))))
  (qa6 (qae (pv 2)))))),[sr t,some (x),none,none];have ct:=T.w02;obtain⟨dx,ht⟩:=hT.1;left;rename_i l hl;have sl:=qa5 hl (.lst [x]);rcases q with⟨z,zs,rfl,hL,hz,q⟩|⟨hx,hn,q⟩
 .obtain⟨e0,r0,h0,rfl,hr0⟩:=hL.open;refine⟨t,S,.str z,rfl,hT.same sl,.inl ⟨z,rfl⟩,fun e he=>?_,fun he=>?_⟩
  .have ee:e0=e:=uN (h0.symm.trans he);subst ee;left;refine qe5 (fun σ H'=>∃(ys rs:List Str)(o:Option Str),σ=[sr t,some (.str z),sr l,some (eV o)]/\H'=upd H l (.lst (ys.map V.str))/\ys++rs=z::r0/\jl2 S o rs) (fun _ H'=>(r0.length+1)-jei l H') ⟨[z],r0,_,rfl,rfl,rfl,hr0⟩ ?_ ?_
   .rintro σ H' ⟨ys,rs,o,rfl,rfl,hyr,hR⟩;have hlen:=congrArg wJ hyr;rw[zQ,zR] at hlen;have hz2:(z::r0).length<=1000:=hz;rw[zR] at hz2
    cases o with
    |none=>
     have:rs=[]:=hR;subst this;rw[zX] at hyr;subst hyr;rw[show eV none=V.non from rfl];left;exact q l hl
    |some y=>
     obtain⟨e1,r1,h1,rfl,hr1⟩:=jad.open hR;have sy:=qa5 hl (.lst (ys.map V.str));have eL:upd H l (.lst (ys.map V.str)) l=some (.lst (ys.map V.str)):=qa1;have hzz:(ys.map V.str).length<sizeLine:=by rw[zA];show _<16777216;omega
     rw[show eV (some y)=V.str y from rfl];left;rw[qcx];have s2:=qa5 hl (.lst (ys.map V.str++[.str y]));have ht2:=s2 _ _ ht;left;refine⟨t,S,.str y,rfl,hT.same s2,.inl ⟨y,rfl⟩,fun e he=>?_,fun he=>?_⟩
     .have ee:e1=e:=uN (h1.symm.trans he);subst ee;left;rw[zR] at hlen;refine⟨⟨ys++[y],r1,_,rfl,by rw[zL];rfl,by rw[bB];exact hyr,hr1⟩,?_⟩;have g1:=qf8 eL;have g2:jei l (upd H l (.lst (ys.map V.str++[V.str y])))=(ys.map V.str++[V.str y]).length:=qf8 qa1;rw[zQ,zA] at g2;rw[zA] at g1;rw[g1,g2];simp only[zR,yL];omega
     .rw[show who S (.str y)=some e1 from h1] at he;cases he
   .rintro σ H' Q1 Q2 hm ⟨v,hv,w,k,hk,hq⟩;exact⟨v,hv,w,k,hk,hm _ _ hq⟩
  .rw[show who S (.str z)=some e0 from h0] at he;cases he
 .refine⟨t,S,x,rfl,hT.same sl,hx.same sl,fun e he=>?_,fun _=>q l hl⟩;rw[hn] at he;cases he
theorem qg3(nd:(S.hl.map (·.n)).Nodup)(h:e∈S.hl):S.at e.n=some e:=by
 have q:qdc S.keys e.n=some e.a:=qgp (by unfold Ts.keys;rw[yP];exact nd) (zH.mpr ⟨e,h,rfl⟩);unfold Ts.at
 revert nd h
 obtain⟨sw,ws,hs,hl⟩:=S;dsimp only;clear q;intro nd h
 induction hl with
 |nil=>simp at h
 |cons y r ih=>
  rw[zU,zT] at nd;rw[yI];rcases zO.mp h with h|h
  .subst h;rw[gW rfl]
  .have ne:y.n≠e.n:=fun z=>nd.1 (by rw[z];exact zH.mpr ⟨e,h,rfl⟩);rw[gX ne];exact ih nd.2 h
theorem jnw{k:Key}{v:V}(h:(oK S.keys)[i]?=some (k,v)):∃e,S.hl[i]?=some e/\k=uH e.n/\v=.ref e.a:=by
 unfold oK Ts.keys at h;rw[zC,zC] at h
 cases q:S.hl[i]? with
 |none=>rw[q] at h;cases h
 |some e=>rw[q] at h;cases h;exact⟨e,rfl,rfl,rfl⟩
theorem qf9(S:Ts):(oK S.keys).length=S.hl.length:=by unfold oK Ts.keys;rw[zA,zA]
theorem jrl{o:Option Str} :decide (eV o=V.str z)=decide (o=some z):=by
 cases o with
 |none=>rfl
 |some y=>
  by_cases h:y=z
  .subst h;show decide (V.str y=V.str y)=_;rw[gW rfl,gW rfl]
  .rw[gX (fun q=>h (by cases q;rfl)),gX (fun q=>h (uN q))]
theorem jnx{o:Option Str} :scal (eV o) (V.str z)=true:=by cases o<;>rfl
include T in
theorem wbo:jac P w K mg base (My.CX1 P w) 3 d.w66 d.w54 ["self","name"] (wbe K d):=by
 exists okX T.wda wbn
 .right
 obtain⟨t,S,x,rfl,hT,hx,q1,q2⟩:=h;refine⟨_,(qa2 (qb9 (qas (pv 0) T.w02 T.w09 ((w1v T).mono ∅) hr T.w22 .nil qaj #[pv 1]))
  (qa6 (qae (qaf qgb rfl T.w3q wF #[jqr (qd6 (caps:=[0,1]) (cn:=["self","name"]) (qcf rfl rfl (by rfl) (by rfl) rfl ⟨rfl,⟨rfl,trivial⟩⟩ (by rfl) rfl ⟨⟨rfl,rfl,rfl,rfl,_,rfl⟩,⟨⟨rfl,rfl,rfl,rfl,_,rfl⟩,trivial⟩⟩ ∅) rfl (qcy (qax (pv 0) rfl)) (fun _ _ _ _=>(jfb (qak qey (qax (qax (pv 1) rfl|||pv 0) rfl) (pv 2) (qau _)))) (fun _ _ _ _=>(pv 0)))])))),?_⟩
 walk_at"d"
 dsimp only[cxC];refine qac (σ:=[sr t,some (x)]) rfl ?_;have hT0:=hT;obtain⟨⟨dx,ht⟩,hw,hh,nd,hz,hE⟩:=hT;have ct:=T.w02;have ch:=T.w1m;have nh:qao K d.w01 "houses":=T.w03;have nf:qao K d.w06 "elder":=T.w0k;left;refine⟨t,S,x,rfl,hT0,hx,fun e he=>?_,q2⟩;obtain⟨z,rfl⟩:∃z,x=.str z:=by
  rcases hx with h|⟨_,nz⟩
  .exact h
  .rw[qdd nz] at he;cases he
 obtain⟨hme,rfl⟩:=qc0 he;left;refine jtx ?_;left;refine qg1 hh fun o=>?_;intro C s0 H0 fp na hna;have hF:upd H S.hs (.frz o (.dK (oK S.keys))) S.hs=some (.frz o (.dK (oK S.keys))):=qa1;have sb:SameBut S.hs H (upd H S.hs (.frz o (.dK (oK S.keys)))):=jhv hh;have ht2:=sb _ _ (jjl ht hh (by intro z;cases z)) ht;have hna0:H na=none:=by
  by_cases z:na=S.hs
  .subst z;rw[hF] at hna;cases hna
  .rw[qa4 z] at hna;exact hna
 have hE2:∀e∈S.hl,∃dx,upd H S.hs (.frz o (.dK (oK S.keys))) e.a=some (.ins d.w06 dx (fsH e.x)):=fun e he=>by
  obtain⟨⟨dx,q⟩,_⟩:=hE e he;exact⟨dx,sb _ _ (jjl q hh (by intro z;cases z)) q⟩
 generalize upd H S.hs (.frz o (.dK (oK S.keys)))=HF at*;refine jge S.hl.length (fun i H'=>H'=upd HF na (.lst ((((S.hl.take i).filter fun y=>decide (y.x.el=some e.n)).map (·.n)).map V.str))) rfl ?_ ?_ ?_ ?_
 .rintro i H' hi rfl;exact⟨qaa hF hna,by rw[qf9];exact hi⟩
 .rintro H' rfl;exact⟨qaa hF hna,by rw[qf9];exact uG _⟩
 .rintro i H' v H'' hi rfl ⟨rfl,k,v',hk,rfl⟩;obtain⟨y,hy,rfl,rfl⟩:=jnw hk;have hym:=zG hy;obtain⟨dy,hya⟩:=hE2 y hym;have nx:(S.hl.take (i+1)).filter (fun y=>decide (y.x.el=some e.n))=(S.hl.take i).filter (fun y=>decide (y.x.el=some e.n))++(if decide (y.x.el=some e.n)=true then[y] else[]):=by
   rw[zN,hy,zY]
   congr 1
   simp only[Option.toList_some,yJ,bT]
  have hlen:((S.hl.take i).filter (fun y=>decide (y.x.el=some e.n))).length<=S.hl.length:=vK (zZ ..) (by rw[zW];omega);left;refine qfe (h:=y.a) (jda (.inr ⟨o,hF⟩) hna) (by rw[qdj,qg3 nd hym];rfl) ?_;left;refine⟨jnx,?_⟩;rw[jrl];refine⟨_,rfl,?_⟩;refine i_2 (fun c=>?_) (fun c=>?_)
  .left;rw[qcx,nx,gU (gW c),zL,zL];rfl
  .rw[nx,gT (by rw[gX c];decide),zX]
 rintro H' rfl;rw[zJ];have nns:na≠S.hs:=fun z=>by subst z;rw[hF] at hna;cases hna
 have eN:upd (upd HF na (.lst ((qbm S e.n).map V.str))) S.hs (.dK (oK S.keys)) na=some (.lst ((qbm S e.n).map V.str)):=by rw[qa4 nns];exact qa1
 have sm:jab H (upd (upd HF na (.lst ((qbm S e.n).map V.str))) S.hs (.dK (oK S.keys))):=qde hh (jhw sb hna0);have hkl:(qbm S e.n).length<=60:=by unfold qbm;rw[zA];exact vK (zZ ..) hz
 refine⟨_,qg0 (qaa hF hna) (qcg hh),?_⟩;show jpm _ (upd (upd HF na (.lst ((qbm S e.n).map V.str))) S.hs (.dK (oK S.keys))) _;generalize upd (upd HF na (.lst ((qbm S e.n).map V.str))) S.hs (.dK (oK S.keys))=H3 at*;left;refine jht (SqL.of eN) #[] fun l ss hl hp hs=>?_;left;exact q1 e he l ss _ (jfa sm hl) (sm.free hl) qa1 hp hs
def jkl{xs zs:List V}(h:H l=some (.lst xs))(hb:H b=some (.lst zs))(hz:xs.length+zs.length<=sizeLine)(q:Q .non (upd H l (.lst (xs++zs)))):jgy (.ref l) [.ref b] H Q:=⟨l,b,xs,zs,rfl,rfl,h,hb,hz,q⟩
def flat(parts:List (Str×List Str)):List Str:=(parts.map (·.2)).flatten
def Ben(S:Ts):Nat->Str->List Str->Prop
 |0,z,zs=>∃parts:List (Str×List Str),(parts.map (·.1)).Perm (qbm S z)/\zs=z::flat parts/\∀p∈parts,False
 |n+1,z,zs=>∃parts:List (Str×List Str),(parts.map (·.1)).Perm (qbm S z)/\zs=z::flat parts/\∀p∈parts,Ben S n p.1 p.2
def joz(S:Ts):Nat->Str->List Str->Prop
 |0,z,zs=>∃(parts:List (Str×List Str))(rest:List Str),(parts.map (·.1)++rest).Perm (qbm S z)/\zs=z::flat parts/\∀p∈parts,False
 |n+1,z,zs=>∃(parts:List (Str×List Str))(rest:List Str),(parts.map (·.1)++rest).Perm (qbm S z)/\zs=z::flat parts/\∀p∈parts,joz S n p.1 p.2
theorem Ben.part{S:Ts}:∀{n:Nat} {z:Str} {zs:List Str},Ben S n z zs->joz S n z zs
 |0,_,_,⟨parts,a,b,c⟩=>⟨parts,[],by rw[zX];exact a,b,c⟩
 |n+1,_,_,⟨parts,a,b,c⟩=>⟨parts,[],by rw[zX];exact a,b,fun p hp=>Ben.part (c p hp)⟩
def jrm(S:Ts):Nat->Str->List Str->Prop
 |0,_,_=>False
 |n+1,z,zs=>Ben S n z zs
theorem jrn{parts:List (Str×List Str)}(h:(parts.map (·.1)).Perm (qbm S z))(hp:∀p∈parts,jrm S n p.1 p.2):Ben S n z (z::flat parts):=by
 cases n with
 |zero=>exact⟨parts,h,rfl,hp⟩
 |succ n=>exact⟨parts,h,rfl,hp⟩
theorem jny{parts:List (Str×List Str)}{rest:List Str}(h:(parts.map (·.1)++rest).Perm (qbm S z))(hp:∀p∈parts,jrm S n p.1 p.2):joz S n z (z::flat parts):=by
 cases n with
 |zero=>exact⟨parts,rest,h,rfl,hp⟩
 |succ n=>exact⟨parts,rest,h,rfl,fun p q=>Ben.part (hp p q)⟩
def juf(S:Ts):Prop:=∀n z zs,joz S n z zs->zs.length<=1000
def Dep(S:Ts):Nat->Str->Prop
 |0,z=>qbm S z=[]
 |n+1,z=>∀y∈qbm S z,Dep S n y
def we8(n:Nat)(K:uT)(d:Ad):Sp:=fun vs H Q E=>∃(t:Addr)(S:Ts)(x:V),vs=[.ref t,x]/\qdv d H t S/\juf S/\qew K H x/\(∀e,who S x=some e->Dep S n e.n/\∀l zs H',jab H H'->H l=none->H' l=some (.lst (zs.map V.str))->Ben S n e.n zs->Q (.ref l) H')/\(who S x=none->∀l,H l=none->E (.ref d.w0o) none (upd H l (.lst [x])))
theorem jro(nd:(S.hl.map (·.n)).Nodup)(h:y∈qbm S z):∃e,S.at y=some e/\e.n=y:=by
 obtain⟨e,he,rfl⟩:=zH.mp h;exact⟨e,qg3 nd (zV.mp he).1,rfl⟩
theorem jkm(a b:List (Str×List Str)):flat (a++b)=flat a++flat b:=by unfold flat;rw[zL,List.flatten_append]
theorem jfl{P:uW}{w:vL}{K:uT}{mg:Str->Option uB}{base:vQ}{d:Ad}(T:Tx K mg d)(n:Nat)(spi:Sp)(IH:jac P w K mg base (My.CX1 P w) (3+n) d.w1h d.w0x ["self","name"] spi)
  (use:∀(t:Addr)(S:Ts)(z y:Str)(e:He)(H:Hp)(Q:VK)(E:XK),qdv d H t S->juf S->Dep S n z->y∈qbm S z->S.at y=some e->e.n=y->(∀l zs H',jab H H'->H l=none->H' l=some (.lst (zs.map V.str))->jrm S n y zs->Q (.ref l) H')->spi [.ref t,.str y] H Q E):
  jac P w K mg base (My.CX1 P w) (3+n+1) d.w1h d.w0x ["self","name"] (we8 n K d):=by
 exists okX T.w9h w3a
 .right
 obtain⟨t,S,x,rfl,hT,hS,hx,q1,q2⟩:=h;exists (qa2 (qad (i:=2) w3a.nd rfl (uI rfl) (qbd #[pv 1]))
  (qa2 (qb2 (qbh rfl rfl) rfl (qb0 (qas (pv 0) T.w02 T.w2m ((wbo T).mono #[]) hr T.wc9 .nil qaj #[pv 1])) (qab (i:=3) w3a.nd rfl (uI rfl)) (qa6 (qb9 (qg2 vY PySem.F.slot_list_extend PySem.F.type_list_extend jgz (pv 2) #[qas (pv 0) T.w02 T.w0n IH hr T.w3x .nil qaj #[pv 3]]))))
  (qa6 (qae (pv 2))))),[sr t,some (x),none,none];have ct:=T.w02;obtain⟨dx,ht⟩:=hT.1;have nd:=hT.2.2.2.1;left;rename_i lt hlt;have sl:=qa5 hlt (.lst [x]);refine⟨t,S,x,rfl,hT.same sl,hx.same sl,fun e he=>?_,fun he=>q2 he lt hlt⟩;obtain⟨hD,q⟩:=q1 e he;obtain⟨z,rfl⟩:∃z,x=.str z:=by
  rcases hx with h|⟨_,nz⟩
  .exact h
  .rw[qdd nz] at he;cases he
 obtain⟨hme,rfl⟩:=qc0 he;intro lk ss H1 s1 hlk ek hp hs;have eT:=s1 _ _ (qa1 (H:=H) (a:=lt) (o:=.lst [V.str e.n]));left;have ntk:lk≠lt:=fun z=>by subst z;rw[qa1] at hlk;cases hlk
 refine qbt (xs:=ss.map V.str) (fun i σ H'=>∃(parts:List (Str×List Str))(w:Option V),σ=[sr t,some (.str e.n),sr lt,w]/\parts.map (·.1)=ss.take i/\(∀p∈parts,jrm S n p.1 p.2)/\jab H H'/\H' lk=some (.lst (ss.map V.str))/\H' lt=some (.lst ((e.n::flat parts).map V.str)))
  ⟨[],_,rfl,rfl,fun p hp=>absurd hp (by simp),sl.trans s1,ek,eT⟩ ?_ ?_ ?_
 .rintro i σ H' _ ⟨parts,w,_,_,_,_,ek',_⟩;exact SqL.of ek'
 .rintro i v σ H' hv ⟨parts,w,rfl,hps,hB,sm,ek',eT'⟩;rw[zC] at hv;obtain⟨y,hy,rfl⟩:=uK.mp hv;have hyk:y∈qbm S e.n:=hp.mem_iff.mp (zG hy);obtain⟨ey,h1,h2⟩:=jro nd hyk;have ht':=sm _ _ ht;left;refine use t S e.n y ey H' _ _ (hT.same sm) hS hD hyk h1 h2 fun l zs H2 s2 hl el hBy=>?_;have eT2:=s2 _ _ eT';have hps2:(parts++[(y,zs)]).map (·.1)=ss.take (i+1):=by rw[zL,hps,zN,hy];rfl
  have hB2:∀p∈parts++[(y,zs)],jrm S n p.1 p.2:=fun p hp=>by
   rcases zM.mp hp with h|h
   .exact hB p h
   .have:=zE.mp h;subst this;exact hBy
  have ef:flat (parts++[(y,zs)])=flat parts++zs:=by rw[jkm];congr 1;simp[flat]
  have hlen:=hS _ _ _ (jny (n:=n) (z:=e.n) (parts:=parts++[(y,zs)]) (rest:=ss.drop (i+1)) (by rw[hps2,List.take_append_drop];exact hp) hB2);rw[ef,zR,zQ] at hlen;left;refine jkl eT2 el (by rw[zA,zA,zR];show _<=16777216;omega) ?_;left;refine⟨parts++[(y,zs)],_,rfl,hps2,hB2,qb5 (sm.trans s2) hlt,by rw[qa4 ntk];exact s2 _ _ ek',?_⟩;rw[ef,<-zL];exact qa1
 .rintro σ H' ⟨parts,w,rfl,hps,hB,sm,ek',eT'⟩;rw[zA,zJ] at hps;left;exact q lt _ H' sm hlt eT' (jrn (by rw[hps];exact hp) hB)
def wf1{P:uW}{w:vL}{K:uT}{mg:Str->Option uB}{base:vQ}{CX:CXT}{k:Nat}{f:Addr}{fd:uL}{ps:List Str} :jac P w K mg base CX k f fd ps (fun _ _ _ _=>False):=
 ⟨fun _ _ _ _ h=>h.elim,fun _ _ _ _ _ _ _ _ _ _ _ _ _ h=>h.elim⟩
theorem wgw{P:uW}{w:vL}{K:uT}{mg:Str->Option uB}{base:vQ}{d:Ad}(T:Tx K mg d):∀n:Nat,jac P w K mg base (My.CX1 P w) (3+n+1) d.w1h d.w0x ["self","name"] (we8 n K d)
 |0=>jfl T 0 (fun _ _ _ _=>False) wf1 fun t S z y e H Q E _ _ hD hy _ _ _=>by
  have:qbm S z=[]:=hD;rw[this] at hy;simp at hy
 |n+1=>jfl T (n+1) (we8 n K d) (wgw T n) fun t S z y e H Q E hT hS hD hy h1 h2 q=>by
  refine⟨t,S,.str y,rfl,hT,hS,.inl ⟨y,rfl⟩,fun e' he'=>?_,fun he'=>?_⟩
  .have ee:e=e':=uN (h1.symm.trans he');subst ee;rw[h2];exact⟨hD y hy,fun l zs H' sm hl el hB=>q l zs H' sm hl el hB⟩
  .rw[show who S (.str y)=some e from h1] at he';cases he'
def w93(K:uT)(d:Ad):Sp:=we8 12 K d
def w5m:jac P w K mg base (My.CX1 P w) 16 d.w1h d.w0x ["self","name"] (w93 K d):=wgw T 12
def upS(S:Ts)(y:Str):Option Str:=(S.at y).bind fun e=>e.x.el
def anc(S:Ts):Nat->Str->Option Str
 |0,y=>some y
 |k+1,y=>(upS S y).bind (anc S k)
theorem qe1{S:Ts}:∀(i j:Nat)(y:Str),anc S (i+j) y=(anc S i y).bind (anc S j)
 |0,j,y=>by rw[Nat.zero_add];rfl
 |i+1,j,y=>by
  rw[show i+1+j=(i+j)+1 by omega];show(upS S y).bind (anc S (i+j))=((upS S y).bind (anc S i)).bind (anc S j)
  cases upS S y with
  |none=>rfl
  |some u=>exact qe1 i j u
def WF(S:Ts):Prop:=(S.hl.map (·.n)).Nodup/\∀e∈S.hl,∃zs,jad S e.n zs
theorem jrp(h:S.at z=some e):upS S z=e.x.el:=by unfold upS;rw[h];rfl
theorem jkn{zs:List Str}(h:jad S z zs):anc S zs.length z=none:=by
 induction h with
 |top h n=>show(upS S _).bind _=none;rw[jrp h,n];rfl
 |up h n r ih=>show(upS S _).bind _=none;rw[jrp h,n];exact ih
theorem jfm(w:WF S){k:Nat}{z:Str}:anc S (k+1) z≠some z:=by
 intro c
 cases hz:S.at z with
 |none=>
  have:anc S (k+1) z=none:=by show(upS S z).bind _=none;unfold upS;rw[hz];rfl
  rw[this] at c;cases c
 |some e=>
  obtain⟨zs,hl⟩:=w.2 e (qc0 hz).1;rw[(qc0 hz).2] at hl;have he:=jkn hl;have rep:∀m,anc S (m*(k+1)) z=some z:=by
   intro m
   induction m with
   |zero=>rw[Nat.zero_mul];rfl
   |succ m ih=>rw[Nat.succ_mul,qe1,ih];exact c
  have h1:=rep zs.length;have h2:zs.length*(k+1)=zs.length+zs.length*k:=by rw[Nat.mul_add,Nat.mul_one];omega
  rw[h2,qe1,he] at h1
  cases h1
theorem jl3(w:WF S){y z:Str}(h:y∈qbm S z):upS S y=some z:=by
 obtain⟨e,he,rfl⟩:=zH.mp h;obtain⟨hm,hd⟩:=zV.mp he;unfold upS;rw[qg3 w.1 hm];exact of_decide_eq_true hd
theorem jgb(w:WF S)(z:Str):(qbm S z).Nodup:=by
 unfold qbm;exact List.Nodup.sublist (List.Sublist.map _ List.filter_sublist) w.1
theorem jek{S:Ts}(w:WF S):∀{n:Nat} {z:Str} {zs:List Str},joz S n z zs->∀y∈zs,∃k,anc S k y=some z
 |0,z,_,⟨parts,rest,hp,rfl,hb⟩,y,hy=>by
  rcases zO.mp hy with rfl|hy
  .exact⟨0,rfl⟩
  .obtain⟨l,hl,_⟩:=bN.mp hy;obtain⟨p,hpp,_⟩:=zH.mp hl;exact(hb p hpp).elim
 |n+1,z,_,⟨parts,rest,hp,rfl,hb⟩,y,hy=>by
  rcases zO.mp hy with rfl|hy
  .exact⟨0,rfl⟩
  .obtain⟨l,hl,hyl⟩:=bN.mp hy;obtain⟨p,hpp,rfl⟩:=zH.mp hl;obtain⟨k,hk⟩:=jek w (hb p hpp) y hyl;have hu:=jl3 w (hp.mem_iff.mp (zP _ (zH.mpr ⟨p,hpp,rfl⟩)));exact⟨k+1,by rw[qe1,hk];show(upS S p.1).bind _=_;rw[hu];rfl⟩
theorem apart(w:WF S){p q z y:Str}{i j:Nat}(hp:upS S p=some z)(hq:upS S q=some z)(ne:p≠q)(hi:anc S i y=some p)(hj:anc S j y=some q)(le:i<=j):False:=by
 obtain⟨c,rfl⟩:=Nat.exists_eq_add_of_le le;rw[qe1,hi] at hj;have hj':anc S c p=some q:=hj
 cases c with
 |zero=>exact ne (uN hj')
 |succ c=>
  have h1:(upS S p).bind (anc S c)=some q:=hj';rw[hp] at h1;have h2:anc S c z=some q:=h1;refine jfm w (k:=c) (z:=z) ?_;rw[qe1,h2];show(upS S q).bind _=_;rw[hq];rfl
theorem qfh{S:Ts}(w:WF S){z:Str}:∀{parts:List (Str×List Str)},(parts.map (·.1)).Nodup->(∀p∈parts,upS S p.1=some z)->(∀p∈parts,p.2.Nodup/\∀y∈p.2,∃k,anc S k y=some p.1)->(flat parts).Nodup
 | [],_,_,_=>yG
 |p::r,nd,hu,hb=>by
  rw[zU,zT] at nd;have ih:=qfh w (z:=z) nd.2 (fun q hq=>hu q (zD _ hq)) fun q hq=>hb q (zD _ hq);show(p.2++flat r).Nodup;rw[yK];refine⟨(hb p (zF ..)).1,ih,fun a ha b hbm e=>?_⟩;subst e;obtain⟨l,hl,hal⟩:=bN.mp hbm;obtain⟨q,hq,rfl⟩:=zH.mp hl;obtain⟨i,hi⟩:=(hb p (zF ..)).2 a ha;obtain⟨j,hj⟩:=(hb q (zD _ hq)).2 a hal;have ne:p.1≠q.1:=fun z=>nd.1 (by rw[z];exact zH.mpr ⟨q,hq,rfl⟩);have up:=hu p (zF ..);have uq:=hu q (zD _ hq);rcases Nat.le_total i j with h|h
  .exact apart w up uq ne hi hj h
  .exact apart w uq up ne.symm hj hi h
theorem qcq{S:Ts}(w:WF S):∀{n:Nat} {z:Str} {zs:List Str},joz S n z zs->zs.Nodup/\∀y∈zs,y=z\/y∈S.hl.map (·.n)
 |0,z,_,⟨parts,rest,hp,rfl,hb⟩=>by
  have:parts=[]:=by
   cases parts with
   |nil=>rfl
   |cons p r=>exact(hb p (zF ..)).elim
  subst this;exact⟨by simp[flat],fun y hy=> .inl (by simpa[flat] using hy)⟩
 |n+1,z,_,⟨parts,rest,hp,rfl,hb⟩=>by
  have kd:=jgb w z;have hk:∀p∈parts,p.1∈qbm S z:=fun p h=>hp.mem_iff.mp (zP _ (zH.mpr ⟨p,h,rfl⟩));have hu:∀p∈parts,upS S p.1=some z:=fun p h=>jl3 w (hk p h);have hn:(parts.map (·.1)).Nodup:=(yK.mp (hp.nodup_iff.mpr kd)).1;have fl:=qfh w (z:=z) hn hu fun p h=>⟨(qcq w (hb p h)).1,jek w (hb p h)⟩;refine⟨zT.mpr ⟨fun hm=>?_,fl⟩,fun y hy=>?_⟩
  .obtain⟨l,hl,hal⟩:=bN.mp hm;obtain⟨q,hq,rfl⟩:=zH.mp hl;obtain⟨k,hk'⟩:=jek w (hb q hq) z hal;refine jfm w (k:=k) (z:=z) ?_;rw[qe1,hk'];show(upS S q.1).bind _=_;rw[hu q hq];rfl
  .rcases zO.mp hy with rfl|hy
   .exact .inl rfl
   .obtain⟨l,hl,hal⟩:=bN.mp hy;obtain⟨q,hq,rfl⟩:=zH.mp hl;have hq1:q.1∈S.hl.map (·.n):=by
     obtain⟨e,he,e1⟩:=zH.mp (hk q hq);rw[<-e1];exact zH.mpr ⟨e,(zV.mp he).1,rfl⟩
    rcases(qcq w (hb q hq)).2 y hal with rfl|h
    .exact .inr hq1
    .exact .inr h
def qgm(w:WF S)(hz:S.hl.length<=60):juf S:=fun n z zs h=>by
 obtain⟨nd,hm⟩:=qcq w h;have:=jhu (m:=z::S.hl.map (·.n)) nd fun y hy=>by
  rcases hm y hy with rfl|h
  .exact zF ..
  .exact zD _ h
 rw[zR,zA] at this;omega
def jel(S:Ts)(y:Str):Pt:=match S.at y with
 |some e=>⟨e.x.pa,e.x.kp,e.x.fp⟩
 |none=>⟨0,[],noF⟩
theorem qfg(h:S.at y=some e):jel S y=⟨e.x.pa,e.x.kp,e.x.fp⟩:=by unfold jel;rw[h]
def qfy(S:Ts):Prop:=S.ws.length<=100/\∀e∈S.hl,∀z,e.x.fp z≠none->z∈S.ws
def w4c(K:uT)(d:Ad):Sp:=fun vs H Q E=>∃(t:Addr)(S:Ts)(x:V),vs=[.ref t,x]/\qdv d H t S/\WF S/\qfy S/\qew K H x/\
 (∀e,who S x=some e->Dep S 12 e.n/\∀l zs k' H',jab H H'->H l=none->H' l=some (.dK k')->Ben S 12 e.n zs->AD k' (jgf (zs.map (jel S)))->Q (.ref l) H')/\(who S x=none->∀l,H l=none->E (.ref d.w0o) none (upd H l (.lst [x])))
include T in
theorem w1z:jac P w K mg base (My.CX1 P w) 17 d.w17 d.w0v ["self","name"] (w4c K d):=by
 exists okX T.w4d w43
 .right
 obtain⟨t,S,x,rfl,hT,hW,hO,hx,q1,q2⟩:=h;refine⟨_,(qa6 (qae (qag ((wde T).mono ∅) hr rfl T.weg T.w9o.kp T.weo .nil qaz #[qd6 (caps:=[0]) (cn:=["self"]) (qcf rfl rfl (by rfl) (by rfl) rfl ⟨rfl,trivial⟩ (by rfl) rfl ⟨⟨rfl,rfl,rfl,rfl,_,rfl⟩,trivial⟩ ∅) rfl (qb0 (qas (pv 0) T.w02 T.w0n ((w5m T).mono ∅) hr T.w3x .nil qaj #[pv 1])) (fun _ _ _ _=>qex) (fun _ _ _ _=>(qax (qax (pv 1) rfl|||pv 0) rfl))]))),?_⟩
 walk_at"d"
 dsimp only[cxC];refine qac (σ:=[sr t,some (x)]) rfl ?_;have ct:=T.w02;have ch:=T.w1m;have nh:qao K d.w01 "houses":=T.w03;have nf:qao K d.w06 "promise":=T.w0d;obtain⟨dx,ht⟩:=hT.1;have nd:=hT.2.2.2.1;left;refine⟨t,S,x,rfl,hT,qgm hW hT.2.2.2.2.1,hx,fun e he=>⟨(q1 e he).1,?_⟩,q2⟩;obtain⟨hD,q⟩:=q1 e he;intro lb zs H1 s1 hlb eb hB;left;have hT1:=hT.same s1;obtain⟨⟨_,ht1⟩,hw,hh,_,hz,hE⟩:=hT1;have hbn:=qcq hW (Ben.part hB);have hzs:=qgm hW hz 12 _ _ (Ben.part hB);have hin:∀y∈zs,∃ey,S.at y=some ey/\ey∈S.hl:=fun y hy=>by
  have hy':y∈S.hl.map (·.n):=by
   rcases hbn.2 y hy with rfl|h
   .obtain⟨z,rfl⟩:∃z,x=.str z:=by
     rcases hx with h|⟨_,nz⟩
     .exact h
     .rw[qdd nz] at he;cases he
    exact zH.mpr ⟨e,(qc0 he).1,rfl⟩
   .exact h
  obtain⟨ey,hm,rfl⟩:=zH.mp hy';exact⟨ey,qg3 nd hm,hm⟩
 intro C s0 H0 fp na hna;refine jge zs.length (fun i H'=>H'=upd H1 na (.lst (((zs.take i).map (jel S)).map fun u=> .ref u.a))) rfl ?_ ?_ ?_ ?_
 .rintro i H' hi rfl;exact⟨_,.str zs[i],SqL.of (qaa eb hna),by rw[zC,zB hi];rfl⟩
 .rintro H' rfl;exact⟨_,SqL.of (qaa eb hna),by rw[zA];exact uG _⟩
 .rintro i H' v H'' hi rfl ⟨rfl,hy⟩;have hv:=hy _ (SqL.of (qaa eb hna));rw[zC,zB hi] at hv
  cases hv
  obtain⟨ey,h1,hm⟩:=hin _ (yB hi);obtain⟨⟨dy,hya⟩,_⟩:=hE ey hm;left;refine qfe (h:=ey.a) (jda (.inl hh) hna) (by rw[qdj,h1];rfl) ?_;left;rw[qcx,zN,zB hi]
  congr 2
  simp only[Option.toList_some,zL,zU,fU,qfg h1]
 rintro H' rfl;rw[zJ];have s2:=qa5 hna (.lst ((zs.map (jel S)).map fun u=>V.ref u.a));have eN:upd H1 na (.lst ((zs.map (jel S)).map fun u=>V.ref u.a)) na=some (.lst ((zs.map (jel S)).map fun u=>V.ref u.a)):=qa1;left;refine⟨na,zs.map (jel S),S.ws,rfl,SqL.of eN,hO.1,fun u hu=>?_,fun l k' H2 s3 hl el hA=>q l zs k' H2 ((s1.trans s2).trans s3) ((s1.trans s2).free hl) el hB hA⟩;obtain⟨y,hy,rfl⟩:=zH.mp hu;obtain⟨ey,h1,hm⟩:=hin y hy;obtain⟨_,hp,hA,_⟩:=hE ey hm;rw[qfg h1];exact⟨s2 _ _ hp,hA,hO.2 ey hm⟩
include T in
theorem w9m:jac P w K mg base CX0 1 d.w4i d.w41 ["self","house","ware"] (fun _ _ _ _=>False):=wf1
inductive jbt(K:uT)(d:Ad)(vs:List V)(H:Hp)(Q:VK)(E:XK):Prop
 |mk(x:V)(a b:Addr)(ka kb:List (Key×V))(f g:Str->Option Int)(_:vs=[x,.ref a,.ref b])(_:Rd H a (.dK ka))(_:Rd H b (.dK kb))(_:AD ka f)(_:AD kb g)(_:ka.length<64)(_:(∀z n,f z=some n->n<=gN g z))(_:∀H',jab H H'->Q .non H')
include T in
theorem w2f:jac P w K mg base (My.CX1 P w) 3 d.w2o d.w2e ["name","promises","cap"] (jbt K d):=by
 exists okX T.w1r w45
 .right
 obtain⟨x,a,b,ka,kb,f,g,rfl,ha,hb,hf,hg,hz,hw,q⟩:=h;exists (qa2 (qad (i:=3) w45.nd rfl (uI rfl) (qag ((wf7 T).mono ∅) hr rfl T.wg6 T.wdv.kp T.wgi .nil qaz #[pv 1,pv 2]))
  (qa6 (qb8 (qak qf6 (pv 3) qd1 (qau _)) (qa6 (jhj rfl T.wc4 ((w9m T).mono ∅) hr T.was rfl T.wdj qaj #[pv 0,pv 3])) qap))),[some (x),sr a,sr b,none];left;refine⟨a,b,ka,kb,f,g,rfl,ha,hb,hf,hg,hz,fun H' sm _=>?_,fun z H' sm hv _=>?_⟩
 .left;exact q _ sm
 .obtain⟨h1,h2⟩:=hv
  cases e:f z with
  |none=>exact absurd e h1
  |some n=>
   have h3:=hw z n e;have h4:gN f z=n:=by unfold gN;rw[e];rfl
   omega
inductive jbj(K:uT)(d:Ad)(vs:List V)(H:Hp)(Q:VK)(E:XK):Prop
 |mk(t lb m:Addr)(S:Ts)(zs:List Str)(km:List (Key×V))(fm:Str->Option Int)(_:vs=[.ref t,.ref lb,.ref m])(_:qdv d H t S)(_:WF S)(_:qfy S)(_:SqL K H lb (zs.map V.str))(_:H m=some (.dK km))(_:AD km fm)(_:S.ws.length<=50)(_:(∀z,fm z≠none->z∈S.ws))(_:(∀y∈zs,∃e,S.at y=some e/\Dep S 12 y/\∀bs,Ben S 12 y bs->∀z n,qgy (jgf (bs.map (jel S))) fm z=some n->n<=gN e.x.fc z))(_:∀H',jab H H'->Q .non H')
include T in
theorem w3u:jac P w K mg base (My.CX1 P w) 18 d.w2a d.w29 ["self","names","more"] (jbj K d):=by
 exists okX T.w7m w3o
 .right
 obtain⟨t,lb,m,S,zs,km,fm,rfl,hT,hW,hO,hL,hm,hA,hws,hfm,hy,q⟩:=h;exists qa6 (qb2 (qbh rfl rfl) rfl (qb0 (pv 1)) (qab (i:=3) w3o.nd rfl (uI rfl)) (qa6 (qb9 (qaw ((w2f T).mono ∅) hr rfl T.w2s T.w1r.kp T.w2z .nil qaj #[pv 3,qag ((we3 T).mono ∅) hr rfl T.wfr T.wcs.kp T.wf4 .nil qaz #[qas (pv 0) T.w02 T.w07 ((w1z T).mono ∅) hr T.w23 .nil qaj #[pv 3],pv 2],qax (qax (pv 0) rfl|||pv 3) rfl])))),[sr t,sr lb,sr m,none];have ct:=T.w02;have ch:=T.w1m;have nh:qao K d.w01 "houses":=T.w03;have nf:qao K d.w06 "cap":=T.w15;left;refine qbt (xs:=zs.map V.str) (fun i σ H'=>jab H H'/\∃w,σ=[sr t,sr lb,sr m,w]) ⟨jab.refl _,_,rfl⟩ ?_ ?_ ?_
 .rintro i σ H' _ ⟨sm,_⟩;exact sm.seq hL
 .rintro i v σ H' hv ⟨sm,w,rfl⟩;rw[zC] at hv;obtain⟨y,hyi,rfl⟩:=uK.mp hv;obtain⟨e,h1,hD,hb⟩:=hy y (zG hyi);obtain⟨dx,ht⟩:=(hT.same sm).1;left;have sup:∀bs:List Str,(∀b∈bs,∃eb,S.at b=some eb/\eb∈S.hl)->∀z,jgf (bs.map (jel S)) z≠none->z∈S.ws:=fun bs hbs=>by
   refine jej (fun u hu z hz=>?_) noF (fun z hz=>absurd rfl hz);obtain⟨b,hb1,rfl⟩:=zH.mp hu;obtain⟨eb,h3,h4⟩:=hbs b hb1;rw[qfg h3] at hz;exact hO.2 eb h4 z hz
  refine⟨t,S,.str y,rfl,hT.same sm,hW,hO,.inl ⟨y,rfl⟩,fun e' he'=>?_,fun hn=>?_⟩
  .have ee:e=e':=uN (h1.symm.trans he');subst ee;have hme:=qc0 h1;rw[hme.2];refine⟨hD,fun l bs k' H2 s2 hl el hB hA2=>?_⟩;have hbs:∀b∈bs,∃eb,S.at b=some eb/\eb∈S.hl:=fun b hb1=>by
    have hb2:b∈S.hl.map (·.n):=by
     rcases(qcq hW (Ben.part hB)).2 b hb1 with rfl|h
     .exact zH.mpr ⟨e,hme.1,hme.2⟩
     .exact h
    obtain⟨eb,h3,rfl⟩:=zH.mp hb2;exact⟨eb,qg3 hW.1 h3,h3⟩
   have l1:=hA2.le (sup bs hbs);have l2:=hA.le hfm;left;refine⟨l,m,k',km,_,fm,rfl,.inl el,(sm.trans s2) _ _ hm,hA2,hA,#[],#[],fun lx kx H3 s3 hlx elx hA3=>?_⟩;have sx:=(sm.trans s2).trans s3;obtain⟨⟨dx3,ht3⟩,_,hh3,_,_,hE3⟩:=hT.same sx;obtain⟨⟨dh,ho⟩,_,_,hc,hcA⟩:=hE3 e hme.1;left;refine qfe (h:=e.a) (.inl hh3) (by rw[qdj,h1];rfl) ?_;left;refine⟨.str y,lx,e.x.ca,kx,e.x.kc,_,e.x.fc,rfl,.inl elx,.inl hc,hA3,hcA,?_,hb bs hB,fun H4 s4=>⟨sx.trans s4,_,rfl⟩⟩;have l3:=hA3.le (ws:=S.ws) (jfh (sup bs hbs) hfm);omega
  .rw[show who S (.str y)=some e from h1] at hn;cases hn
 .rintro σ H' ⟨sm,w,rfl⟩;left;exact q _ sm
def wdg(K:uT)(d:Ad):Sp:=fun vs H Q _=>∃i:Int,vs=[.int i]/\Q (.bl true) H
def w89(K:uT)(d:Ad):Sp:=fun vs H Q _=>∃i a b:Int,vs=[.int i,.int a,.int b]/\a<=i/\i<=b/\Q (.bl true) H
def wbl(K:uT)(d:Ad):Sp:=fun vs H Q _=>∃i:Int,vs=[.int i]/\0<=i/\i<=10^30/\Q (.bl true) H
include T in
theorem wd9:jac P w K mg base CX0 1 d.w74 d.w6l ["thing"] (wdg K d):=by
 exists T.w9y.ok wd1
 .right
 obtain⟨i,rfl,q⟩:=h;exists qa6 (qae (qg6 (qaf qbn rfl T.w0a vH #[pv 0,qcb (v:=.ty "int") rfl T.whn dM rfl]) (qg5 (jk6 (qaf qbn rfl T.w0a vH #[pv 0,qcb (v:=.ty "bool") rfl T.wh4 PyProof.Rows.boot_bool rfl]))))),[some (.int i)];left;exact q
include T in
theorem w4x:jac P w K mg base CX0 2 d.w3h d.w2v ["thing","least","most"] (w89 K d):=by
 exists T.w38.ok w84
 .right
 obtain⟨i,a,b,rfl,h1,h2,q⟩:=h;exists qa6 (qae (qg6 (qag ((wd9 T).mono ∅) hr rfl T.wei T.w9y.kp T.wer .nil qaz #[pv 0]) (qg5 (jjo jpi jpi (pv 1) (pv 0) (pv 2))))),[some (.int i),some (.int a),some (.int b)];left;refine⟨i,rfl,?_⟩;left;rw[gW h2];exact q
include T in
theorem wb8:jac P w K mg base CX0 3 d.w62 d.w5p ["thing"] (wbl K d):=by
 exists T.w8v.ok wbb
 .right
 obtain⟨i,rfl,h1,h2,q⟩:=h;exists qa6 (qae (qag ((w4x T).mono ∅) hr rfl T.w5a T.w38.kp T.w5i .nil qaz #[pv 0,qa7,qah je4 qa7 qa7])),[some (.int i)];left;refine⟨i,0,_,rfl,h1,?_,?_⟩
 .exact h2
 left;exact q
theorem qgs(h:z∈ws):inV (.str z) (ws.map V.str)=true:=by
 unfold inV;rw[yM];exact⟨.str z,zH.mpr ⟨z,h,rfl⟩,by simp[eqV]⟩
theorem jko{K:uT}{p:Addr}(hS:SqL K H p (ws.map V.str))(h:z∈ws)(q:Q (.bl false) H):rIn K true (.str z) (.ref p) H Q:=by
 refine⟨p,_,rfl,.inl hS,rfl,?_,?_⟩
 .rw[yA];intro x hx;obtain⟨y,_,rfl⟩:=zH.mp hx;rfl
 .rw[qgs h];exact q
inductive jci(K:uT)(d:Ad)(vs:List V)(H:Hp)(Q:VK)(E:XK):Prop
 |mk(a w:Addr)(k:List (Key×V))(f:Str->Option Int)(ws:List Str)(_:vs=[.ref a,.ref w])(_:H a=some (.dK k))(_:AD k f)(_:k.length<=1000)(_:H w=some (.lst (ws.map V.str)))(_:(∀z n,f z=some n->z∈ws/\0<=n/\n<=10^30))(_:∀l k' H',jab H H'->H l=none->H' l=some (.dK k')->AD k' (qdh f)->Q (.ref l) H')
include T in
theorem w6o:jac P w K mg base (My.CX1 P w) 4 d.w4z d.w4o ["handed","wares"] (jci K d):=by
 exists okX T.w58 w4q
 .right
 obtain⟨a,w,kvs,f,ws,rfl,ha,hA,hz,hw,hf,q⟩:=h;exists (qa2 (qb8 (qc6 (qbj (qaf qbn rfl T.w0a vH #[pv 0,qcb (v:=.ty "dict") rfl T.w8h wR rfl]))) (qa6 (qbw rfl T.w7k rfl T.w7j qaj #[qcn])) qap)
  (qa2 (qec (qb2 (qbh rfl rfl) rfl (qcy (pv 0)) (qab (i:=2) w4q.nd rfl (uI rfl)) (qa6 (qb8 (PW.pt (qdr (qc6 (qbj (qaf qbn rfl T.w0a vH #[pv 2,qcb (v:=.ty "str") rfl T.wg8 bK rfl]))) (qdf (qak qct (pv 2) (pv 1) (by rfl))))) (qa6 (qbw rfl T.we7 rfl T.we4 qaj #[qcn])) qap))))
  (qa2 (qec (qb2 (qbh rfl rfl) rfl (qcy (pv 0)) (qab (i:=3) w4q.nd rfl (uI rfl)) (qa6 (qb8 (qc6 (qbj (qag ((wb8 T).mono ∅) hr rfl T.wcx T.w8v.kp T.wdm .nil qaz #[pv 0|||pv 3]))) (qa6 (qbw rfl T.w7k rfl T.w7j qaj #[qcn])) qap))))
  (qa6 (qae (qag ((w92 T).mono ∅) hr rfl T.w9d T.w5z.kp T.w9j .nil qaz #[pv 0])))))),[sr a,sr w,none,none];left;refine qg1 ha fun o=>?_;have hwa:w≠a:=jjl hw ha (by intro z;cases z);refine qen (fun i σ H'=>H'=upd H a (.frz o (.dK kvs))/\∃w2 w3,σ=[sr a,sr w,w2,w3]) ⟨rfl,_,_,rfl⟩ ?_ ?_ ?_
 .rintro i σ H' _ ⟨rfl,_⟩;exact qa1
 .rintro i k v σ H' hk ⟨rfl,w2,w3,rfl⟩;obtain⟨z,n,rfl,rfl,hfz,hzi⟩:=hA.at hk;have hw':upd H a (.frz o (.dK kvs)) w=some (.lst (ws.map V.str)):=by rw[qa4 hwa];exact hw
  show qek _ (.str z) _ _ _;left;refine jko (SqL.of hw') (hf z n hfz).1 ?_;left;exact⟨rfl,_,_,rfl⟩
 .rintro σ H' ⟨rfl,w2,w3,rfl⟩;refine qe9 (qg0 qa1 (qcg ha)) ?_;have s2:=qde ha (jhv (o:=o) ha);have ha2:upd (upd H a (.frz o (.dK kvs))) a (.dK kvs) a=some (.dK kvs):=qa1;generalize upd (upd H a (.frz o (.dK kvs))) a (.dK kvs)=H2 at*;left;refine qg1 ha2 fun o2=>?_;refine qen (fun i σ H'=>H'=upd H2 a (.frz o2 (.dK kvs))/\∃w3,σ=[sr a,sr w,w2,w3]) ⟨rfl,_,rfl⟩ ?_ ?_ ?_
  .rintro i σ H' _ ⟨rfl,_⟩;exact qa1
  .rintro i k v σ H' hk ⟨rfl,w3,rfl⟩;obtain⟨z,n,rfl,rfl,hfz,hzi⟩:=hA.at hk;have hRd:Rd (upd H2 a (.frz o2 (.dK kvs))) a (.dK kvs):=.inr ⟨o2,qa1⟩;show qek _ (.str z) _ _ _;left;refine⟨n,rfl,(hf z n hfz).2.1,(hf z n hfz).2.2,?_⟩;left;exact⟨rfl,_,rfl⟩
  .rintro σ H' ⟨rfl,w3,rfl⟩;refine qe9 (qg0 qa1 ?_) ?_
   .exact qcg ha
   have s3:=qde ha2 (jhv (o:=o2) ha2);have ha3:upd (upd H2 a (.frz o2 (.dK kvs))) a (.dK kvs) a=some (.dK kvs):=qa1;generalize upd (upd H2 a (.frz o2 (.dK kvs))) a (.dK kvs)=H3 at*;left;refine⟨a,kvs,f,rfl,ha3,hA,hz,fun l k' H4 s4 hl el hA4=>?_⟩;left;exact q l k' H4 ((s2.trans s3).trans s4) ((s2.trans s3).free hl) el hA4
def wam(K:uT)(d:Ad):Sp:=fun vs H Q _=>∃(x dx:Addr)(o:Ho),vs=[.ref x,eV o.el,.ref o.pa,.ref o.ca,.int o.w]/\H x=some (.ins d.w06 dx [])/\∀H',H' x=some (.ins d.w06 dx (fsH o))->SameBut x H H'->Q .non H'
include T in
theorem wak:jac P w K mg base CX0 1 d.w59 d.w4t ["self","elder","promise","cap","weight"] (wam K d):=by
 exists T.wc5.ok wax
 .right
 obtain⟨x,dx,o,rfl,hx,q⟩:=h;exists (qa2 (qc9 (pv 0) (pv 1) rfl)
  (qa2 (qc9 (pv 0) (pv 2) rfl)
  (qa2 (qc9 (pv 0) (pv 3) rfl)
  (qa6 (qc9 (pv 0) (pv 4) rfl))))),[sr x,some (eV o.el),sr o.pa,sr o.ca,some (.int o.w)];have cl:=T.w1m;have n1:qao K d.w06 "elder":=T.w0k;have n2:qao K d.w06 "promise":=T.w0d;have n3:qao K d.w06 "cap":=T.w15;have n4:qao K d.w06 "weight":=T.w0y;left;refine qdx qa1 cl n2 (by show 1<1000;decide) ?_;left;refine qdx qa1 cl n3 (by show 2<1000;decide) ?_;left;refine qdx qa1 cl n4 (by show 3<1000;decide) ?_;left;refine q _ (by rw[qa1];rfl) fun b u hb e=>?_;rw[qa4 hb,qa4 hb,qa4 hb,qa4 hb];exact e
inductive jcj(K:uT)(d:Ad)(vs:List V)(H:Hp)(Q:VK)(E:XK):Prop
 |mk(w a b:Addr)(el:Option Str)(ws:List Str)(ka kb:List (Key×V))(f g:Str->Option Int)(wt:Int)(_:vs=[.ref w,eV el,.ref a,.ref b,.int wt])(_:H w=some (.lst (ws.map V.str)))(_:H a=some (.dK ka))(_:AD ka f)(_:ka.length<=1000)(_:H b=some (.dK kb))(_:AD kb g)(_:kb.length<=1000)(_:(∀z n,f z=some n->z∈ws/\0<=n/\n<=10^30))(_:(∀z n,g z=some n->z∈ws/\0<=n/\n<=10^30))(_:1<=wt)(_:wt<=1000)(_:∀h o H',jab H H'->H h=none->H o.pa=none->H o.ca=none->jl1 d H' h o->o.el=el->o.w=wt->(∀z,o.fp z=qdh f z)->(∀z,o.fc z=qdh g z)->Q (.ref h) H')
include T in
theorem w6r:jac P w K mg base (My.CX1 P w) 5 d.w4y d.w4p ["wares","elder","promise","cap","weight"] (jcj K d):=by
 exists okX T.w55 w4u
 .right
 obtain⟨w,a,b,el,ws,ka,kb,f,g,wt,rfl,hw,ha,hA,hz,hb,hB,hz2,hf,hg,w0,w1,q⟩:=h;exists (qa2 (qad (i:=5) w4u.nd rfl (uI rfl) (qaw ((w6o T).mono ∅) hr rfl T.w7w T.w58.kp T.w80 .nil qaj #[pv 2,pv 0]))
  (qa2 (qad (i:=6) w4u.nd rfl (uI rfl) (qaw ((w6o T).mono ∅) hr rfl T.w7w T.w58.kp T.w80 .nil qaj #[pv 3,pv 0]))
  (qa2 (qb8 (qc6 (qbj (qag ((w4x T).mono ∅) hr rfl T.w5a T.w38.kp T.w5i .nil qaz #[pv 4,qa7,qdy rfl T.w7p T.w14]))) (qa6 (qbw rfl T.wep rfl T.wek qaj #[qcn])) qap)
  (qa6 (qae (jmr T.w6y ((wak T).mono ∅) hr rfl T.whw T.wbj .nil qaz #[pv 1,pv 5,pv 6,pv 4])))))),[sr w,some (eV el),sr a,sr b,some (.int wt),none,none];left;refine⟨a,w,ka,f,ws,rfl,ha,hA,hz,hw,hf,fun lp kp H1 s1 hlp ep hAp=>?_⟩;left;refine⟨b,w,kb,g,ws,rfl,s1 _ _ hb,hB,hz2,s1 _ _ hw,hg,fun lc kc H2 s2 hlc ec hAc=>?_⟩;left;refine⟨wt,1,1000,rfl,w0,w1,?_⟩;left;intro x dx hx hdx ne;have ep2:=s2 _ _ ep;refine⟨x,dx,⟨el,lp,kp,qdh f,lc,kc,qdh g,wt⟩,rfl,qa1,fun H3 ex sb=>⟨rfl,?_⟩⟩;have s3:jab H2 H3:=fun c o hc=>sb c o (qa9 hc hx) (by rw[qa4 (qa9 hc hx),qa4 (qa9 hc hdx)];exact hc);left;exact q x ⟨el,lp,kp,qdh f,lc,kc,qdh g,wt⟩ H3 ((s1.trans s2).trans s3) ((s1.trans s2).free hx) hlp (s1.free hlc) ⟨⟨dx,ex⟩,s3 _ _ ep2,hAp,s3 _ _ ec,hAc⟩ rfl rfl (fun _=>rfl) fun _=>rfl
def qb5{o:HO}(s:jab H H')(n:H a=none):jab H (upd H' a o):=fun b u e=>by rw[qa4 (qa9 e n)];exact s b u e
def isL(c:Nat):Bool:=decide (97<=c) && decide (c<=122)
theorem inL:∀c:Nat,c<128->(!(aS (Str.ofString "abcdefghijklmnopqrstuvwxyz") ⟨(List.toArray [c])⟩ 0 (Str.ofString "abcdefghijklmnopqrstuvwxyz").length 1).isEmpty)=isL c:=by decide+kernel
def qev(x:Str):List Nat:=x.cps.toList
def qeu(x:Str):Bool:=decide (1<=x.length) && decide (x.length<=8) && (qev x).all isL
theorem jir(x:Str):(qev x).length=x.length:=by simp[qev,Str.length]
theorem jkp(h:qeu z=true):1<=z.length/\z.length<=8/\∀c∈qev z,isL c=true:=by
 unfold qeu at h;rw[vZ,vZ,yA] at h;exact⟨of_decide_eq_true h.1.1,of_decide_eq_true h.1.2,h.2⟩
theorem jrq{c:Nat}(h:isL c=true):c<128:=by
 unfold isL at h;rw[vZ] at h;have:=of_decide_eq_true h.2;omega
def we9(K:uT)(d:Ad):Sp:=fun vs H Q _=>∃z,vs=[.str z]/\qeu z=true/\∀H',jab H H'->Q (.bl true) H'
include T in
theorem w9t:jac P w K mg base CX0 1 d.w9c d.w7h ["thing"] (we9 K d):=by
 exists T.w99.ok wed
 .right
 obtain⟨z,rfl,hg,q⟩:=h;obtain⟨h1,h8,hL⟩:=jkp hg;have lz:=jir z;refine⟨_,(qa2 (qb8 (qc6 (qbj (qaf qbn rfl T.w0a vH #[pv 0,qcb (v:=.ty "str") rfl T.wg8 bK rfl]))) (qa6 (qae qd8)) qap)
  (qa2 (qb8 (PW.pt (qdr (qak jdu (qaf jc6 rfl T.w3n vO #[pv 0]) qa7 (qau _)) (qdf (qak qfi (qaf jc6 rfl T.w3n vO #[pv 0]) (qdy rfl T.w9l T.w1o) (qau _))))) (qa6 (qae qd8)) qap)
  (qa6 (qae (qaf (jc5 rfl) rfl T.wi1 PyProof.Rows.boot_all #[qd6 (caps:=[]) (cn:=[]) (qcf rfl rfl (by rfl) (by rfl) rfl trivial (by rfl) rfl trivial ∅) rfl (jqb (pv 0)) (fun _ _ _ _=>qex) (fun _ _ _ _=>(qd7 jqd (pv 0) (qdy rfl T.wfi T.w52) (by rfl)))]))))),?_⟩
 walk_at"d"
 try dsimp only[cxC]
 refine qac (σ:=[some (.str z)]) rfl ?_;left;intro C s0 H0 fp acc hacc;refine jge z.length (fun i H'=>H'=upd H acc (.lst (((qev z).take i).map fun c=>V.bl (isL c)))) (by simp) (fun i H' hi _=>hi) (fun H' _=>rfl) ?_ ?_
 .rintro i H' v H'' hi rfl ⟨rfl,c,hc,rfl⟩;have hc':(qev z)[i]?=some c:=by unfold qev;rw[bJ];exact hc
  have c128:=jrq (hL c (zG hc'));left;rw[inL c c128,qcx]
  congr 2
  rw[zN,hc',zL];rfl
 .rintro H' rfl;left;have e1:((qev z).take z.length).map (fun c=>V.bl (isL c))=((qev z).map isL).map V.bl:=by
   rw[<-lz,zJ,yP];rfl
  rw[e1];refine jqf (bs:=(qev z).map isL) (SqL.of qa1) ?_;have e2:((qev z).map isL).all id=true:=by
   rw[List.all_map,yA];exact hL
  rw[e2];left;exact q _ (qa5 hacc _)
def wa0(K:uT)(d:Ad):Sp:=fun vs H Q _=>∃z,vs=[.str z]/\qeu z=true/\∀H',jab H H'->Q .non H'
include T in
theorem w6x:jac P w K mg base (My.CX1 P w) 2 d.w5b d.w4g ["thing"] (wa0 K d):=by
 exists okX T.w57 wat
 .right
 obtain⟨z,rfl,hg,q⟩:=h;exists qa6 (qb8 (qc6 (qbj (qag ((w9t T).mono ∅) hr rfl T.wbv T.w99.kp T.wc0 .nil qaz #[pv 0]))) (qa6 (qbw rfl T.wg4 rfl T.wga qaj #[qcn])) qap),[some (.str z)];left;refine⟨z,rfl,hg,fun H' sm=>?_⟩;left;exact q _ sm
structure jrr(ws:List Str):Prop where
 lo:1<=ws.length
 hi:ws.length<=6
 ok:∀z∈ws,qeu z=true
 nd:ws.Nodup
def wbt(K:uT)(d:Ad):Sp:=fun vs H Q _=>∃(a:Addr)(ws:List Str),vs=[.ref a]/\H a=some (.lst (ws.map V.str))/\jrr ws/\∀H',jab H H'->Q (.bl true) H'
include T in
theorem wba:jac P w K mg base CX0 2 d.w60 d.w51 ["thing"] (wbt K d):=by
 exists T.w95.ok wbd
 .right
 obtain⟨a,ws,rfl,ha,g,q⟩:=h;have g1:=g.lo;have g2:=g.hi;have hl:(ws.map V.str).length=ws.length:=zA _;refine⟨_,(qa2 (qb8 (PW.pt (qdr (qc6 (qbj (qaf qbn rfl T.w0a vH #[pv 0,qcb (v:=.ty "list") rfl T.wdw bH rfl]))) (qdr (qak jdu (qaf qb3 rfl T.w3n vO #[pv 0]) qa7 (qau _)) (qdf (qak qfi (qaf qb3 rfl T.w3n vO #[pv 0]) (qdy rfl T.wbu T.w2j) (qau _)))))) (qa6 (qae qd8)) qap)
  (qa6 (qae (qg6 (qaf (jc5 rfl) rfl T.wi1 PyProof.Rows.boot_all #[qd6 (caps:=[]) (cn:=[]) (qcf rfl rfl (by rfl) (by rfl) rfl trivial (by rfl) rfl trivial ∅) rfl (qb0 (pv 0)) (fun _ _ _ _=>qex) (fun _ _ _ _=>(qag ((w9t T).mono ∅) hr rfl T.wbv T.w99.kp T.wc0 .nil qaz #[pv 0]))]) (qg5 (qd7 qey (qaf jh4 rfl T.w3n vO #[qbz jh3 rfl T.wid PyProof.Rows.boot_set #[pv 0]]) (qaf qb3 rfl T.w3n vO #[pv 0]) (qau _))))))),?_⟩
 walk_at"d"
 try dsimp only[cxC]
 refine qac (σ:=[sr a]) rfl ?_;left;intro C s0 H0 fp acc hacc;refine jge ws.length (fun i H'=>jab H H'/\H' acc=some (.lst ((uR i true).map V.bl))) ⟨qa5 hacc _,qa1⟩ ?_ ?_ ?_ ?_
 .rintro i H' hi ⟨sm,_⟩;exact⟨_,.str ws[i],SqL.of (sm _ _ ha),by rw[zC,zB hi];rfl⟩
 .rintro H' ⟨sm,_⟩;exact⟨_,SqL.of (sm _ _ ha),by rw[hl];exact uG _⟩
 .rintro i H' v H'' hi ⟨sm,ea⟩ ⟨rfl,hy⟩;have hv:=hy _ (SqL.of (sm _ _ ha));rw[zC,zB hi] at hv
  cases hv
  left;refine⟨ws[i],rfl,g.ok _ (yB hi),fun H2 s2=>?_⟩;refine⟨_,s2 _ _ ea,by rw[zA,yD];show _<16777216;omega,qb5 (sm.trans s2) hacc,?_⟩;rw[qa1,List.replicate_succ',zL];rfl
 rintro H' ⟨sm,ea⟩;left;refine jqf (bs:=uR ws.length true) (SqL.of ea) ?_;have e2:(uR ws.length true).all id=true:=by simp
 rw[e2];left;refine jq8 (zs:=ws) (SqL.of (sm _ _ ha)) g.nd #[] fun c hc=>?_;left;refine jnj qa1 ?_;left;refine jli (SqL.of (qaa (sm _ _ ha) hc)) ?_;left;rw[hl,gW rfl];exact q _ (sm.trans (qa5 hc _))
def Fin(ws:List Str)(f:Str->Option Int):Prop:=∀z n,f z=some n->z∈ws/\0<=n/\n<=10^30
theorem jdc{n:Int}(h:qdh f y=some n):f y=some n/\0<n:=by
 unfold qdh at h
 cases e:f y with
 |none=>rw[e] at h;cases h
 |some m=>
  rw[e] at h;by_cases c:0<m
  .have h':some m=some n:=by simpa[c] using h
   cases h'
   exact⟨rfl,c⟩
  .exact absurd h (by simp[c])
theorem jnz(hf:Fin ws f)(y:Str):gN (qdh f) y=gN f y:=by
 unfold gN qdh
 cases e:f y with
 |none=>rfl
 |some m=>
  have:=(hf y m e).2.1;by_cases c:0<m
  .simp[c]
  .have z:m=0:=by omega
   subst z;rfl
def jl4{g:Str->Option Int}(hg:Fin ws g)(h:∀y,gN f y<=gN g y):∀z n,qdh f z=some n->n<=gN (qdh g) z:=fun z n e=>by
 have e1:=(jdc e).1;have:=h z;rw[jnz hg];unfold gN at this⊢;rw[e1] at this;exact this
def jis(hf:Fin ws f):∀z,qdh f z≠none->z∈ws:=fun z h=>by
 cases e:qdh f z with
 |none=>exact absurd e h
 |some n=>exact(hf z n (jdc e).1).1
inductive jdd(K:uT)(d:Ad)(vs:List V)(H:Hp)(Q:VK)(E:XK):Prop
 |mk(x dx w a b:Addr)(z:Str)(ws:List Str)(ka kb:List (Key×V))(f g:Str->Option Int)(wt:Int)(_:vs=[.ref x,.ref w,.str z,.ref a,.ref b,.int wt])(_:H x=some (.ins d.w01 dx []))(_:H w=some (.lst (ws.map V.str)))(_:jrr ws)(_:qeu z=true)(_:H a=some (.dK ka))(_:AD ka f)(_:ka.length<=1000)(_:H b=some (.dK kb))(_:AD kb g)(_:kb.length<=1000)(_:Fin ws f)(_:Fin ws g)(_:1<=wt)(_:wt<=1000)(_:(∀y,gN f y<=gN g y))(_:∀(S:Ts)(e:He) H',SameBut x H H'->qdv d H' x S->H S.hs=none->H S.sw=none->H e.a=none->H e.x.pa=none->H e.x.ca=none->S.hl=[e]->e.n=z->e.x.el=none->e.x.w=wt->(∀y,e.x.fp y=qdh f y)->(∀y,e.x.fc y=qdh g y)->S.ws.Perm ws->vX S.ws=true->Q .non H')
include T in
theorem wb9:jac P w K mg base (My.CX1 P w) 6 d.w63 d.w3r ["self","wares","name","promise","cap","weight"] (jdd K d):=by
 exists jua T.wci w7r
 .right
 obtain⟨x,dx,w,a,b,z,ws,ka,kb,f,g,wt,rfl,hx,hw,gt,gz,ha,hA,za,hb,hB,zb,ff,fg,w0,w1,le,q⟩:=h;have g2:=gt.hi;exists (qa2 (qb8 (qc6 (qbj (qag ((wba T).mono ∅) hr rfl T.wcw T.w95.kp T.wdn .nil qaz #[pv 1]))) (qa6 (qbw rfl T.we7 rfl T.we4 qaj #[qcn])) qap)
  (qa2 (qb9 (qaw ((w6x T).mono ∅) hr rfl T.w81 T.w57.kp T.w7z .nil qaj #[pv 2]))
  (qa2 (qad (i:=6) w7r.nd rfl (uI rfl) (qaw ((w6r T).mono ∅) hr rfl T.w7y T.w55.kp T.w7x .nil qaj #[pv 1,qd1,pv 3,pv 4,pv 5]))
  (qa2 (qb9 (qaw ((w2f T).mono ∅) hr rfl T.w2s T.w1r.kp T.w2z .nil qaj #[pv 2,qax (pv 6) rfl,qax (pv 6) rfl]))
  (qa2 (qc9 (pv 0) (qaf qgb rfl T.w3q wF #[pv 1]) rfl)
  (qa6 (qc9 (pv 0) (jm5 (jjx (pv 2) (pv 6) jm4) rfl rfl (by simp) ∅) rfl))))))),[sr x,sr w,some (.str z),sr a,sr b,some (.int wt),none];have ct:=T.w02;have ch:=T.w1m;have n1:qao K d.w01 "sorted_wares":=T.w0c;have n2:qao K d.w01 "houses":=T.w03;have n3:qao K d.w06 "promise":=T.w0d;have n4:qao K d.w06 "cap":=T.w15;left;refine⟨w,ws,rfl,hw,gt,fun H1 s1=>?_⟩;left;refine⟨z,rfl,gz,fun H2 s2=>?_⟩;have t2:=s1.trans s2;left;refine⟨w,a,b,none,ws,ka,kb,f,g,wt,rfl,t2 _ _ hw,t2 _ _ ha,hA,za,t2 _ _ hb,hB,zb,ff,fg,w0,w1,fun h o H3 s3 nh np nc hO eel ew efp efc=>?_⟩;obtain⟨⟨dh,ho⟩,hp,hpA,hc,hcA⟩:=id hO;have efp':o.fp=qdh f:=funext efp;have efc':o.fc=qdh g:=funext efc;have lk:o.kp.length<=ws.length:=hpA.le (by rw[efp'];exact jis ff);left;refine⟨.str z,o.pa,o.ca,o.kp,o.kc,o.fp,o.fc,rfl,.inl hp,.inl hc,hpA,hcA,#[],by rw[efp',efc'];exact jl4 fg le,fun H4 s4=>?_⟩;have t4:=(t2.trans s3).trans s4;have hx4:=t4 _ _ hx;have hO4:=hO.same s4;left;refine jht (SqL.of (t4 _ _ hw)) #[] fun l ss hl hpm hs=>?_;left;rename_i p hpp;rw[qcx];refine qdx (qaa qa1 hpp) ct n2 (by show 1<1000;decide) ?_;left;have npx:p≠x:=fun e=>by subst e;rw[qa1] at hpp;cases hpp
 have np4':upd H4 l (.lst (ss.map V.str)) p=none:=by rw[qa4 npx] at hpp;exact hpp
 have nlx:x≠l:=qa9 hx4 hl;have npl:p≠l:=fun e=>by subst e;rw[qa1] at np4';cases np4'
 have np4:H4 p=none:=by rw[qa4 npl] at np4';exact np4'
 have sF:∀b u,b≠x->H4 b=some u->upd (upd (upd (upd H4 l (.lst (ss.map V.str))) x (.ins d.w01 dx (qds "sorted_wares" (V.ref l) []))) p (.dK [(uH z,V.ref h)])) x (.ins d.w01 dx (qds "houses" (V.ref p) (qds "sorted_wares" (V.ref l) []))) b=some u:=fun b u hb e=>by
  rw[qa4 hb,qa4 (qa9 e np4),qa4 hb,qa4 (qa9 e hl)];exact e
 obtain⟨⟨dh4,ho4⟩,hp4,hpA4,hc4,hcA4⟩:=hO4;refine q ⟨l,ss,p,[⟨z,h,o⟩]⟩ ⟨z,h,o⟩ _ (fun b u hb e=>sF b u hb (t4 _ _ e)) ⟨⟨dx,by rw[qa1];rfl⟩,?_,?_,zT.mpr ⟨by simp,yG⟩,by show 1<=60;decide,fun e he=>?_⟩ (t4.free np4) (t4.free hl) (t2.free nh) (t2.free np) (t2.free nc) rfl rfl eel ew efp efc hpm hs
 .show upd _ _ _ l=_;rw[qa4 nlx.symm,qa4 npl.symm,qa4 nlx.symm,qa1]
 .show upd _ _ _ p=_;rw[qa4 npx,qa1];rfl
 .have e':e=⟨z,h,o⟩:=by simpa using he
  subst e';have n1:∀{b:Addr} {u:HO},H4 b=some u->u≠ .ins d.w01 dx []->b≠x:=fun e1 e2 e3=>by
   subst e3;rw[hx4] at e1;exact e2 (uN e1).symm
  refine⟨⟨dh4,sF _ _ (n1 ho4 fun e=>?_) ho4⟩,sF _ _ (n1 hp4 fun e=>by cases e) hp4,hpA4,sF _ _ (n1 hc4 fun e=>by cases e) hc4,hcA4⟩;have:=congrArg (fun u:HO=>match u with| .ins _ _ fs=>fs.length|_=>0) e;simp[fsH] at this
def upL(el:Nat->Nat):Nat->Nat->List Nat
 |0,k=> [k]
 |f+1,k=>k ::(if k=0 then[] else upL el f (el k))
def qbs(el:Nat->Nat)(k:Nat):List Nat:=upL el k k
def Low(el:Nat->Nat)(n:Nat):Prop:=∀k,0<k->k<n->el k<k
theorem jrs(lo:Low el n):∀(f k:Nat),k<n->k<=f->upL el f k=qbs el k:=by
 intro f
 induction f using aO with
 |ind f ih=>
  intro k kn kf
  cases f with
  |zero=>have:k=0:=#[];subst this;rfl
  |succ f=>
   cases k with
   |zero=>rfl
   |succ k=>
    have l:=lo (k+1) #[] kn;show(k+1) ::(if k+1=0 then[] else upL el f (el (k+1)))=(k+1) ::(if k+1=0 then[] else upL el k (el (k+1)));rw[gT #[],gT #[],ih f #[] (el (k+1)) #[] #[]];rcases bY k f with h|h
    .rw[ih k #[] (el (k+1)) #[] #[]]
    .have:f=k:=by omega
     subst this;rw[ih f #[] (el (f+1)) #[] #[]]
def qcj(el:Nat->Nat):qbs el 0=[0]:=rfl
theorem qcu{k:Nat}(lo:Low el n)(k0:0<k)(kn:k<n):qbs el k=k::qbs el (el k):=by
 cases k with
 |zero=>omega
 |succ k=>
  have l:=lo (k+1) k0 kn;show(k+1) ::(if k+1=0 then[] else upL el k (el (k+1)))=_;rw[gT #[],jrs lo k _ #[] #[]]
theorem qdk(lo:Low el n):∀k,k<n->(qbs el k).length<=k+1:=by
 intro k
 induction k using aO with
 |ind k ih=>
  intro kn
  cases k with
  |zero=>exact uG _
  |succ k=>
   have l:=lo (k+1) #[] kn;rw[qcu lo #[] kn,zR];have:=ih (el (k+1)) l #[];omega
theorem jgc{k:Nat}(lo:Low el n)(kn:k<n):k∈qbs el k:=by
 cases k with
 |zero=>exact zF ..
 |succ k=>rw[qcu lo #[] kn];exact zF ..
theorem qcv(lo:Low el n):∀k,k<n->∀j∈qbs el k,j<=k:=by
 intro k
 induction k using aO with
 |ind k ih=>
  intro kn j hj
  cases k with
  |zero=>rw[qcj] at hj;simp at hj;omega
  |succ k=>
   have l:=lo (k+1) #[] kn;rw[qcu lo #[] kn] at hj;rcases zO.mp hj with h|h
   .omega
   .have:=ih (el (k+1)) l #[] j h;omega
structure Pl(S:Ts)(nm:Nat->Str)(el:Nat->Nat)(n:Nat):Prop where
 len:S.hl.length=n
 nam:∀k e,S.hl[k]?=some e->e.n=nm k/\e.x.el=if k=0 then none else some (nm (el k))
 inj:∀i j,i<n->j<n->nm i=nm j->i=j
 low:Low el n
section
variable{S:Ts}{nm:Nat->Str}{el:Nat->Nat}{n:Nat}
theorem Pl.get(p:Pl S nm el n){k:Nat}(kn:k<n):∃e,S.hl[k]?=some e/\e.n=nm k/\e.x.el=if k=0 then none else some (nm (el k)):=by
 have h:k<S.hl.length:=by rw[p.len];exact kn
 have e:=zB h;exact⟨_,e,p.nam k _ e⟩
theorem Pl.ix(p:Pl S nm el n){e:He}(h:e∈S.hl):∃k,k<n/\S.hl[k]?=some e/\e.n=nm k/\e.x.el=if k=0 then none else some (nm (el k)):=by
 obtain⟨k,hk,q⟩:=zS.mp h;have e1:S.hl[k]?=some e:=by rw[zB hk,q]
 exact⟨k,by rw[<-p.len];exact hk,e1,p.nam k e e1⟩
theorem Pl.nodup(p:Pl S nm el n):(S.hl.map (·.n)).Nodup:=by
 show List.Pairwise _ _;rw[bG,xI];intro i j hi hj lt q;have h1:=(p.nam i _ (zB hi)).1;have h2:=(p.nam j _ (zB hj)).1;have:=p.inj i j (by rw[<-p.len];exact hi) (by rw[<-p.len];exact hj) (by rw[<-h1,<-h2];exact q);omega
theorem Pl.at(p:Pl S nm el n){k:Nat}(kn:k<n):∃e,S.at (nm k)=some e/\S.hl[k]?=some e/\e.x.el=if k=0 then none else some (nm (el k)):=by
 obtain⟨e,h1,h2,h3⟩:=p.get kn;have:=qg3 p.nodup (zG h1);rw[h2] at this;exact⟨e,this,h1,h3⟩
theorem Pl.line(p:Pl S nm el n):∀k,k<n->jad S (nm k) ((qbs el k).map nm):=by
 intro k
 induction k using aO with
 |ind k ih=>
  intro kn;obtain⟨e,h1,_,h3⟩:=p.at kn
  cases k with
  |zero=>exact .top h1 h3
  |succ k=>
   have l:=p.low (k+1) #[] kn;rw[gT #[]] at h3;rw[qcu p.low #[] kn,zU];exact .up h1 h3 (ih _ l #[])
def Pl.wf(p:Pl S nm el n):WF S:=⟨p.nodup,fun e he=>by
 obtain⟨k,kn,_,h,_⟩:=p.ix he;rw[h];exact⟨_,p.line k kn⟩⟩
theorem Pl.kid(p:Pl S nm el n){j:Nat}{y:Str}(jn:j<n)(h:y∈qbm S (nm j)):∃k,0<k/\k<n/\el k=j/\y=nm k:=by
 obtain⟨e,he,rfl⟩:=zH.mp h;obtain⟨hm,hd⟩:=zV.mp he;obtain⟨k,kn,_,h1,h2⟩:=p.ix hm;have hd':e.x.el=some (nm j):=of_decide_eq_true hd;rw[h2] at hd';by_cases z:k=0
 .rw[gU z] at hd';cases hd'
 .rw[gT z] at hd';have l:=p.low k #[] kn;exact⟨k,#[],kn,p.inj _ _ #[] jn (uN hd'),h1⟩
theorem Pl.dep(p:Pl S nm el n):∀m j,j<n->n<=j+m+1->Dep S m (nm j):=by
 intro m
 induction m with
 |zero=>
  intro j jn hn;show qbm S (nm j)=[]
  cases e:qbm S (nm j) with
  |nil=>rfl
  |cons y r=>
   obtain⟨k,k0,kn,ke,_⟩:=p.kid jn (y:=y) (by rw[e];exact zF ..);have:=p.low k k0 kn;omega
 |succ m ih=>
  intro j jn hn y hy;obtain⟨k,k0,kn,ke,rfl⟩:=p.kid jn hy;have:=p.low k k0 kn;exact ih k kn #[]
end
theorem jug{k:List (Key×V)}(hk:AD k f){ks:List (Str×Addr)}{z:Str}{h:Addr}(hl:qdc ks z=some h):HO.dK k≠ .dK (oK ks):=fun e=>by
 have e2:k=oK ks:=by injection e
 subst e2;have g1:=hk.get z;rw[qge,hl] at g1
 cases hf:f z with
 |none=>rw[hf] at g1;cases g1
 |some n=>rw[hf] at g1;cases g1
def w6t(K:uT)(d:Ad):Sp:=fun vs H Q E=>∃(t a b:Addr)(S:Ts)(z:Str)(xe:V)(ka kb:List (Key×V))(f g:Str->Option Int)(wt:Int),vs=[.ref t,.str z,xe,.ref a,.ref b,.int wt]/\qdv d H t S/\qeu z=true/\S.at z=none/\qew K H xe/\
 (who S xe=none->∀H',jab H H'->E (.ref d.w0o) none H')/\
 ∀e,who S xe=some e->WF S/\qfy S/\S.ws.length<=50/\H a=some (.dK ka)/\AD ka f/\ka.length<=1000/\H b=some (.dK kb)/\AD kb g/\kb.length<=1000/\Fin S.ws f/\Fin S.ws g/\1<=wt/\wt<=1000/\S.hl.length<40/\
  (∃zs,jad S e.n zs/\zs.length<12/\∀y∈zs,∃e',S.at y=some e'/\Dep S 12 y/\∀bs,Ben S 12 y bs->∀v n,qgy (jgf (bs.map (jel S))) (qdh f) v=some n->n<=gN e'.x.fc v)/\(∀y,gN f y<=gN g y)/\
  ∀(e2:He) H',SameBut S.hs H H'->H e2.a=none->H e2.x.pa=none->H e2.x.ca=none->qdv d H' t {S with hl:=S.hl++[e2]}->e2.n=z->e2.x.el=some e.n->e2.x.w=wt->(∀y,e2.x.fp y=qdh f y)->(∀y,e2.x.fc y=qdh g y)->Q .non H'
include T in
theorem wa6:jac P w K mg base (My.CX1 P w) 19 d.w5n d.w32 ["self","name","elder","promise","cap","weight"] (w6t K d):=by
 exists jua T.wby w4k
 .right
 obtain⟨t,a,b,S,z,xe,ka,kb,f,g,wt,rfl,hT,gz,nz,hx,q2,q1⟩:=h;exists (qa2 (qb9 (qaw ((w6x T).mono ∅) hr rfl T.w81 T.w57.kp T.w7z .nil qaj #[pv 1]))
  (qa2 (qb8 (qbj (jgu (pv 0) T.w02 T.w2g ((w96 T).mono ∅) hr T.w9r .nil qaz #[pv 1])) (qa6 (qbw rfl T.whu rfl T.whi qaj #[qcn])) qap)
  (qa2 (qb9 (qas (pv 0) T.w02 T.w09 ((w1v T).mono ∅) hr T.w22 .nil qaj #[pv 2]))
  (qa2 (qad (i:=6) w4k.nd rfl (uI rfl) (qaw ((w6r T).mono ∅) hr rfl T.w7y T.w55.kp T.w7x .nil qaj #[qax (pv 0) rfl,pv 2,pv 3,pv 4,pv 5]))
  (qa2 (qb8 (qak jpj (qaf qgc rfl T.w3n vO #[qax (pv 0) rfl]) (qdy rfl T.wa5 T.w28) (qau _)) (qa6 (qbw rfl T.wfa rfl T.wfl qaj #[qcn])) qap)
  (qa2 (qad (i:=7) w4k.nd rfl (uI rfl) (qas (pv 0) T.w02 T.w08 ((w0l T).mono ∅) hr T.w0u .nil qaj #[pv 2]))
  (qa2 (qb8 (qak jpj (qaf qb3 rfl T.w3n vO #[pv 7]) (qdy rfl T.w5x T.w1f) (qau _)) (qa6 (qbw rfl T.wbr rfl T.wb3 qaj #[qcn])) qap)
  (qa2 (qb9 (qaw ((w2f T).mono ∅) hr rfl T.w2s T.w1r.kp T.w2z .nil qaj #[pv 1,qax (pv 6) rfl,qax (pv 6) rfl]))
  (qa2 (qb9 (qas (pv 0) T.w02 T.w0g ((w3u T).mono ∅) hr T.w4b .nil qaj #[pv 7,qax (pv 6) rfl]))
  (qa6 (qbg (qav hr) (qax (pv 0) rfl) (pv 1) (pv 6) rfl))))))))))),[sr t,some (.str z),some (xe),sr a,sr b,some (.int wt),none,none];have ct:=T.w02;have ch:=T.w1m;have n1:qao K d.w01 "sorted_wares":=T.w0c;have n2:qao K d.w01 "houses":=T.w03;have n3:qao K d.w06 "promise":=T.w0d;have n4:qao K d.w06 "cap":=T.w15;left;refine⟨z,rfl,gz,fun H1 s1=>?_⟩;have hT1:=hT.same s1;obtain⟨dx,ht⟩:=id hT1.1;left;refine⟨t,S,.str z,rfl,hT1,.inl ⟨z,rfl⟩,?_⟩;rw[show who S (.str z)=none from nz];left;show if false=true then _ else _
 left;refine⟨t,S,xe,rfl,hT1,hx.same s1,fun e he=>?_,fun he=>q2 he H1 s1⟩;obtain⟨hW,hO,hws,ha,hA,za,hb,hB,zb,ff,fg,w0,w1,h40,⟨zs,hL,hz12,hy⟩,le,q⟩:=q1 e he;obtain⟨y,rfl⟩:∃y,xe=.str y:=by
  rcases hx with h|⟨_,nz'⟩
  .exact h
  .rw[qdd nz'] at he;cases he
 have ey:e.n=y:=(qc0 he).2;have hsw:=hT1.2.1;left;refine⟨S.sw,a,b,some y,S.ws,ka,kb,f,g,wt,rfl,hsw,s1 _ _ ha,hA,za,s1 _ _ hb,hB,zb,ff,fg,w0,w1,fun h o H3 s3 nh np nc hOo eel ew efp efc=>?_⟩;obtain⟨⟨dh,ho⟩,hp,hpA,hc,hcA⟩:=id hOo;have efp':o.fp=qdh f:=funext efp;have efc':o.fc=qdh g:=funext efc;have lk:o.kp.length<=S.ws.length:=hpA.le (by rw[efp'];exact jis ff);have hT3:=hT1.same s3;obtain⟨⟨dx3,ht3⟩,hw3,hh3,nd3,hz3,hE3⟩:=id hT3;left;refine jlx hh3 ?_;rw[qf9];left;refine⟨t,S,.str y,rfl,hT3,.inl ⟨y,zs,rfl,by rw[<-ey];exact hL,#[],fun l hl=>?_⟩⟩;have s4:=qa5 hl (.lst (zs.map V.str));have eL:upd H3 l (.lst (zs.map V.str)) l=some (.lst (zs.map V.str)):=qa1;have hzl:(zs.map V.str).length=zs.length:=zA _;generalize upd H3 l (.lst (zs.map V.str))=H4 at*;have ho4:=s4 _ _ ho;have hp4:=s4 _ _ hp;have hc4:=s4 _ _ hc;left;refine⟨.str z,o.pa,o.ca,o.kp,o.kc,o.fp,o.fc,rfl,.inl hp4,.inl hc4,hpA,hcA,#[],by rw[efp',efc'];exact jl4 fg le,fun H5 s5=>?_⟩;have s35:=s4.trans s5;have ho5:=s35 _ _ ho;have hT5:=hT3.same s35;obtain⟨dx5,ht5⟩:=id hT5.1;left;refine⟨t,l,o.pa,S,zs,o.kp,o.fp,rfl,hT5,hW,hO,SqL.of (s5 _ _ eL),s35 _ _ hp,hpA,hws,by rw[efp'];exact jis ff,by rw[efp'];exact hy,fun H6 s6=>?_⟩;have s36:=s35.trans s6;have s16:=s3.trans s36;have s06:=s1.trans s16;obtain⟨⟨dx6,ht6⟩,hw6,hh6,nd6,hz6,hE6⟩:=hT3.same s36;left;have lkn:qdc S.keys z=none:=by rw[qdj,nz];rfl
 have hksz:(oK S.keys).length<sizeLine:=by rw[qf9];show _<16777216;omega
 refine jqx hh6 hksz ?_;rw[jhz lkn];left;have sF:∀b u,b≠S.hs->H6 b=some u->upd H6 S.hs (.dK (oK (S.keys++[(z,h)]))) b=some u:=fun b u hb e=>by rw[qa4 hb];exact e
 have nH:∀{b:Addr} {u:HO},H6 b=some u->u≠ .dK (oK S.keys)->b≠S.hs:=fun e1 e2 e3=>by
  subst e3;rw[hh6] at e1;exact e2 (uN e1).symm
 have hT1':=hT1;have fresh:∀{b:Addr} {u:HO},H1 b=none->H6 b=some u->b≠S.hs:=fun e1 _ e3=>by
  subst e3;rw[hT1'.2.2.1] at e1;cases e1
 refine q ⟨z,h,o⟩ _ (fun b u hb e=>sF b u hb (s06 _ _ e)) (s1.free nh) (s1.free np) (s1.free nc) ⟨⟨dx6,sF _ _ (nH ht6 (by intro e;cases e)) ht6⟩,sF _ _ (nH hw6 (by intro e;cases e)) hw6,?_,?_,?_,fun e1 he1=>?_⟩ rfl (by rw[ey];exact eel) ew efp efc
 .show upd _ _ _ S.hs=some (.dK (oK (Ts.keys _)));rw[qa1];unfold Ts.keys;rw[zL];rfl
 .show(List.map _ (S.hl++[_])).Nodup;rw[zL,yK];refine⟨nd6,zT.mpr ⟨by simp,yG⟩,fun x hx1 y' hy1 e=>?_⟩;have:y'=z:=by simpa using hy1
  subst this;subst e;obtain⟨e2,m2,rfl⟩:=zH.mp hx1;rw[qg3 nd6 m2] at nz
  cases nz
 .show(S.hl++[_]).length<=60;rw[zQ];show _+1<=60;omega
 .rcases zM.mp he1 with m|m
  .obtain⟨⟨dy,hy1⟩,hy2,hy3,hy4,hy5⟩:=hE6 e1 m;have no:∀{k:List (Key×V)} {f:Str->Option Int},AD k f->HO.dK k≠ .dK (oK S.keys):=fun hk=>jug hk (z:=e1.n) (h:=e1.a) (by rw[qdj,qg3 nd6 m];rfl);exact⟨⟨dy,sF _ _ (nH hy1 (by intro e;cases e)) hy1⟩,sF _ _ (nH hy2 (no hy3)) hy2,hy3,sF _ _ (nH hy4 (no hy5)) hy4,hy5⟩
  .have:e1=⟨z,h,o⟩:=by simpa using m
   subst this;have h6:=s36 _ _ ho;refine⟨⟨dh,sF _ _ (fresh nh h6) h6⟩,sF _ _ (fresh np (s36 _ _ hp)) (s36 _ _ hp),hpA,sF _ _ (fresh nc (s36 _ _ hc)) (s36 _ _ hc),hcA⟩
abbrev ABC:Str:=Str.ofString "abcdefghijklmnopqrstuvwxyz"
def letc(i:Int):Nat:=97+(i%26).toNat
theorem jrt(g:Int):atI ABC.cps.toList (g%26)=some (letc g):=by
 have e0:=vA g (show(26:Int)≠0 by decide);have e1:=vF g (show(0:Int)<26 by decide);have h:∀k:Nat,k<26->ABC.cps.toList[k]?=some (97+k):=by decide+kernel
 have e:g%26=(((g%26).toNat:Nat):Int):=by omega
 rw[e];rw[qbp (h (g%26).toNat #[])];rfl
theorem jfn(g:Int):isL (letc g)=true:=by
 have e0:=vA g (show(26:Int)≠0 by decide);have e1:=vF g (show(0:Int)<26 by decide);unfold isL letc;rw[vZ,decide_eq_true_iff,decide_eq_true_iff];omega
theorem jfo{g g':Int}(h:letc g=letc g'):g%26=g'%26:=by
 have e0:=vA g (show(26:Int)≠0 by decide);have f0:=vA g' (show(26:Int)≠0 by decide);unfold letc at h;omega
def nmJ(c k:Int)(j:Nat):Nat:=letc (c.fdiv 192+(0+(j:Int))*(c.fdiv 7%11)+k*if decide (0+(j:Int)=c.fdiv 24%(1+c.fdiv 3%8))=true then 1 else 0)
def nmL(c k:Int):List Nat:=if c%3=0 then uR (1+(k+c.fdiv 78)%8).toNat (letc (c.fdiv 3+k.fdiv 8)) else(vG (1+c.fdiv 3%8).toNat).map (nmJ c k)
def ofL(l:List Nat):Str:=⟨l.toArray⟩
def nmS(c k:Int):Str:=ofL (nmL c k)
theorem qfu(l:List Nat):qev (ofL l)=l:=by simp[qev,ofL]
theorem jn0{l m:List Nat}(h:ofL l=ofL m):l=m:=by rw[<-qfu l,<-qfu m,h]
theorem jkq(l:List Nat)(c:Nat):ofL l++(⟨(List.toArray [c])⟩:Str)=ofL (l++[c]):=by
 have e:(ofL l++(⟨(List.toArray [c])⟩:Str)).cps=(ofL (l++[c])).cps:=by
  rw[Str.cps_append];simp[ofL]
 exact congrArg Str.mk e
theorem jit(l:List Nat):(ofL l).length=l.length:=by simp[ofL,Str.length]
theorem jfp(c k:Int):qeu (nmS c k)=true:=by
 have a0:=vA (k+c.fdiv 78) (show(8:Int)≠0 by decide);have a1:=vF (k+c.fdiv 78) (show(0:Int)<8 by decide);have b0:=vA (c.fdiv 3) (show(8:Int)≠0 by decide);have b1:=vF (c.fdiv 3) (show(0:Int)<8 by decide);unfold qeu nmS;rw[jit,qfu,vZ,vZ,decide_eq_true_iff,decide_eq_true_iff,yA];unfold nmL;by_cases z:c%3=0
 .rw[gU z,yD];refine⟨#[],fun x hx=>?_⟩;rw[(fL.mp hx).2];exact jfn _
 .rw[gT z,zA,cK];refine⟨#[],fun x hx=>?_⟩;obtain⟨j,_,rfl⟩:=zH.mp hx;exact jfn _
theorem jiu{c k k':Int}(h0:0<=k)(h1:k<=20)(g0:0<=k')(g1:k'<=20)(h:nmS c k=nmS c k'):k=k':=by
 have hl:=jn0 h;unfold nmL at hl;by_cases z:c%3=0
 .rw[gU z,gU z] at hl;have hn:=congrArg wJ hl;rw[yD,yD] at hn;have a0:=vA (k+c.fdiv 78) (show(8:Int)≠0 by decide);have b0:=vA (k'+c.fdiv 78) (show(8:Int)≠0 by decide);have hc:letc (c.fdiv 3+k.fdiv 8)=letc (c.fdiv 3+k'.fdiv 8):=by
   have m:letc (c.fdiv 3+k.fdiv 8)∈uR (1+(k+c.fdiv 78)%8).toNat (letc (c.fdiv 3+k.fdiv 8)):=fL.mpr ⟨#[],rfl⟩;rw[hl] at m;exact(fL.mp m).2
  have hc':=jfo hc;rw[Int.fdiv_eq_ediv_of_nonneg k ∅,Int.fdiv_eq_ediv_of_nonneg k' ∅] at hc';generalize c.fdiv 78=x at*;generalize c.fdiv 3=y at*;omega
 .rw[gT z,gT z] at hl;have b0:=vA (c.fdiv 3) (show(8:Int)≠0 by decide);have at0:=vA (c.fdiv 24) (show(1+c.fdiv 3%8:Int)≠0 by omega);have at1:=vF (c.fdiv 24) (show(0:Int)<1+c.fdiv 3%8 by omega);have hj:=congrArg (fun l:List Nat=>l[(c.fdiv 24%(1+c.fdiv 3%8)).toNat]?) hl;simp only[zC] at hj;rw[List.getElem?_range #[]] at hj;have hj':nmJ c k (c.fdiv 24%(1+c.fdiv 3%8)).toNat=nmJ c k' (c.fdiv 24%(1+c.fdiv 3%8)).toNat:=by simpa using hj
  unfold nmJ at hj';have e:(0:Int)+(((c.fdiv 24%(1+c.fdiv 3%8)).toNat:Nat):Int)=c.fdiv 24%(1+c.fdiv 3%8):=by omega
  rw[e,gW rfl,gU rfl] at hj';have:=jfo hj';generalize c.fdiv 192+c.fdiv 24%(1+c.fdiv 3%8)*(c.fdiv 7%11)=x at*;omega
def wef(K:uT)(d:Ad):Sp:=fun vs H Q _=>∃(a:Addr)(ns:List Int)(k:Int),vs=[.ref a,.int k]/\SqL K H a (ns.map V.int)/\0<=k/\Q (.int (cell ns k)) H
include T in
theorem w2h:jac P w K mg base CX0 1 d.w94 d.w78 ["_law_script","_law_k"] (wef K d):=by
 exists T.w2l.ok web
 .right
 obtain⟨a,ns,k,rfl,hS,h0,q⟩:=h;exists (qa2 (qb8 (qak jdu (pv 1) (qaf qb3 rfl T.w3n vO #[pv 0]) (qau _)) (qa6 (qae (qam qaq (pv 0) (pv 1) nofun))) qap)
  (qa6 (qae qa7))),[sr a,some (.int k)];left;have hl:(ns.map V.int).length=ns.length:=zA _;refine i_2 (fun c=>?_) (fun c=>?_)
 .rw[hl] at c;left;refine qc7 hS (jmv h0 c) ?_;exact q
 .rw[hl] at c;left;rw[jjt c h0] at q;exact q
def wgm(K:uT)(d:Ad):Sp:=fun vs H Q _=>∃c k:Int,vs=[.int c,.int k]/\0<=k/\k<=10000/\∀r:Int,0<=r->Q (.int r) H
include T in
theorem wah:jac P w K mg base CX0 1 d.wcl d.war ["_law_cell","_law_k"] (wgm K d):=by
 exists T.wap.ok we6
 .right
 obtain⟨c,k,rfl,k0,k1,q⟩:=h;exists (qa2 (qad (i:=2) we6.nd rfl (uI rfl) (qah qbe (qah qbr (qah qbr (pv 0) (qah qba qa7 (pv 1))) qa7) qa7))
  (qa6 (qae (qah qbe (qah qba (qah qbe (qah qba (pv 2) (pv 2)) qa7) qa7) qa7)))),[some (.int c),some (.int k),none];left;have m0:=vA (c+7919*k+12345) (show(2147483629:Int)≠0 by decide);have m1:=vF (c+7919*k+12345) (show(0:Int)<2147483629 by decide);generalize (c+7919*k+12345)%2147483629=u at*;left;have n0:=vA (u*u) (show(2147483629:Int)≠0 by decide);have n1:=vF (u*u) (show(0:Int)<2147483629 by decide);generalize u*u%2147483629=y at*;left;exact q _ (vA _ ∅)
def wht(K:uT)(d:Ad):Sp:=fun vs H Q _=>∃c k:Int,vs=[.int c,.int k]/\0<=k/\k<=1000/\Q (.str (nmS c k)) H
include T in
theorem wf3:jac P w K mg base CX0 1 d.wfm d.wcu ["_law_cell","_law_k"] (wht K d):=by
 exists T.wez.ok w4s
 .right
 obtain⟨c,k,rfl,k0,k1,q⟩:=h;exists (qa2 (qad (i:=2) w4s.nd rfl (uI rfl) qcn)
  (qa2 (qb8 (qak qey (qah qbe (pv 0) qa7) qa7 (qau _)) (qa6 (qae (qah jnk (qam jld (pv 2) (qah qbe (qah qbr (qah qbo (pv 0) qa7) (qah qbo (pv 1) qa7)) qa7) nofun) (qah qbr qa7 (qah qbe (qah qbr (pv 1) (qah qbo (pv 0) qa7)) qa7))))) qap)
  (qa2 (qad (i:=3) w4s.nd rfl (uI rfl) (qah qbr qa7 (qah qbe (qah qbo (pv 0) qa7) qa7)))
  (qa2 (qad (i:=4) w4s.nd rfl (uI rfl) (qah qbe (qah qbo (pv 0) qa7) (pv 3)))
  (qa2 (qad (i:=5) w4s.nd rfl (uI rfl) qcn)
  (qa2 (qb2 vM rfl (qd0 rfl T.w5c #[pv 3]) (qab (i:=6) w4s.nd rfl (uI rfl)) (qa2 (qad (i:=7) w4s.nd rfl (uI rfl) (qah qba (pv 1) (qbz jhi rfl T.whn dM #[qd7 qey (pv 6) (pv 4) (qau _)])))
  (qa2 (qad (i:=8) w4s.nd rfl (uI rfl) (qah qbr (qah qbr (qah qbo (pv 0) qa7) (qah qba (pv 6) (qah qbe (qah qbo (pv 0) qa7) qa7))) (pv 7)))
  (qa6 (qad (i:=5) w4s.nd rfl (uI rfl) (qah jm7 (pv 5) (qam jld (pv 2) (qah qbe (pv 8) qa7) nofun)))))))
  (qa6 (qae (pv 5))))))))),[some (.int c),some (.int k),none,none,none,none,none,none,none];left;refine i_2 (fun z=>?_) (fun z=>?_)
 .left;refine jqh ∅ (jrt _) ?_;left;have a0:=vA (k+c.fdiv 78) (show(8:Int)≠0 by decide);have a1:=vF (k+c.fdiv 78) (show(0:Int)<8 by decide);refine jrb #[] #[] ?_;unfold nmS nmL at q;rw[gU z] at q;exact q
 .left;have b0:=vA (c.fdiv 3) (show(8:Int)≠0 by decide);have b1:=vF (c.fdiv 3) (show(0:Int)<8 by decide);have d0:=vA (c.fdiv 7) (show(11:Int)≠0 by decide);have d1:=vF (c.fdiv 7) (show(0:Int)<11 by decide);have ks:k.natAbs<2^600:=vI (show k.natAbs<=1000 by omega) ∅;have ds:(c.fdiv 7%11).natAbs<2^600:=vI (show(c.fdiv 7%11).natAbs<=11 by omega) ∅;refine qfr (fun i σ H'=>H'=H/\∃w1 w2 w3,σ=[some (V.int c),some (V.int k),some (V.str ABC),some (V.int (1+c.fdiv 3%8)),some (V.int (c.fdiv 24%(1+c.fdiv 3%8))),some (V.str (ofL ((vG i).map (nmJ c k)))),w1,w2,w3]) ⟨rfl,none,none,none,rfl⟩ ?_ ?_
  .rintro i σ H' hi ⟨rfl,w1,w2,w3,rfl⟩;have is:((0:Int)+(i:Int)).natAbs<2^600:=vI (show((0:Int)+(i:Int)).natAbs<=8 by omega) ∅;left;refine jqh ∅ (jrt _) ?_;have lz:(ofL ((vG i).map (nmJ c k))).length=i:=by rw[jit,zA,cK]
   refine jlp ?_ ?_
   .rw[lz];show _+1<=16777216;omega
   left;have ee:(vG (i+1)).map (nmJ c k)=(vG i).map (nmJ c k)++[nmJ c k i]:=by rw[List.range_succ,zL];rfl
   rw[jkq,ee];exact⟨rfl,_,_,_,rfl⟩
  .rintro σ H' ⟨rfl,w1,w2,w3,rfl⟩;left;unfold nmS nmL at q;rw[gT z] at q;exact q
def jn1:uJ:=match qbu ja6 with
 |a::_=>a
 | []=>ja6
abbrev qw:Str:="_law_weigher.<locals>._law_weigh_by"
abbrev bdw:List uJ:=jie "_law_table" "_law_name_here" ⟨413,15,413,25⟩ ⟨413,26,413,40⟩ ⟨413,15,413,41⟩ ⟨413,8,413,41⟩
theorem jwu:jic "_law_weigh_by" qw (qc5 jn1) bdw (qa8 jn1) "_law_name_here" "_law_table" where
 kind:=rfl
 co:=rfl
 gen:=rfl
 nocell:=by decide+kernel
 par:=rfl
 free:=rfl
 only:=fun y h=>by
  have e:(qa8 jn1).names=[(("_law_name_here":Str),NameKind.local),(("_law_table":Str),NameKind.free)]:=rfl;rw[e,yO] at h
  cases c:y==("_law_name_here":Str) with
  |true=>rw[c] at h;cases h
  |false=>
   rw[c] at h;rw[yO] at h
   cases c2:y==("_law_table":Str) with
   |true=>exact eq_of_beq c2
   |false=>rw[c2] at h;cases h
 bind:=fun cl cd ct doc pm s u=> .of_eq rfl
abbrev WgH(H:Hp)(g t:Addr):Prop:=Wg "_law_weigh_by" qw (qc5 jn1) bdw (qa8 jn1) "_law_table" H g t
abbrev posw:PySem.Pos:=⟨412,4,413,41⟩
def w7f(p:Addr):Sp:=qgk p posw "_law_weigh_by" qw (qc5 jn1) bdw (qa8 jn1) "_law_table"
def wdr{CX:CXT}{P:uW}{w:vL}{K:uT}{mg:Str->Option uB}{base:vQ}{k:Nat}{c p f:Addr}{fd:uL}(F:Fun K "_law_weigher" "_law_weigher" ja6 f fd)(hm:mg "_law_weigher"=some (.ref f))(kin:K.In base)(hns:base.Ns uS mg)
  (ht:tabIn K "_law_weigher"=some (c,p))(C:dR base c p)(bm:jsj mg base):jac P w K mg base CX (k+1) f fd ["_law_table"] (w7f p):=
 My.Fun.maker2 F hm kin hns ht C bm (pos:=posw) (p1:=⟨414,11,414,24⟩) (p2:=⟨414,4,414,24⟩) rfl rfl rfl rfl rfl rfl (fun n=>rfl) ∅ (fun L cd=>rfl) rfl rfl (fun L cd=>rfl) (fun L cd=>rfl)
@[irreducible] def jbk(a b:Int):Int:=((wS a b:Nat):Int)
theorem jfq(g s:Int)(hs:0<s):wS s (g%s)=wS g s:=by
 have e:g=s*(g/s)+g%s:=(Int.mul_ediv_add_emod g s).symm;apply Nat.dvd_antisymm
 .have h1:((wS s (g%s):Nat):Int) ∣ s:=gQ _ _;have h2:((wS s (g%s):Nat):Int) ∣ g%s:=cL _ _;have h3:((wS s (g%s):Nat):Int) ∣ g:=by
   have:=Int.dvd_add (Int.dvd_trans h1 (Int.dvd_mul_right s (g/s))) h2;rw[<-e] at this;exact this
  exact Int.ofNat_dvd.mp (Int.dvd_coe_gcd h3 h1)
 .have h1:((wS g s:Nat):Int) ∣ g:=gQ _ _;have h2:((wS g s:Nat):Int) ∣ s:=cL _ _;have h3:((wS g s:Nat):Int) ∣ g%s:=by
   have:=Int.dvd_sub h1 (Int.dvd_trans h2 (Int.dvd_mul_right s (g/s)));have e2:g-s*(g/s)=g%s:=by omega
   rw[e2] at this;exact this
  exact Int.ofNat_dvd.mp (Int.dvd_coe_gcd h2 h3)
theorem jn2(a b:Int):wS (if a<0 then -a else a) (if b<0 then -b else b)=wS a b:=by
 have ea:(if a<0 then -a else a).natAbs=a.natAbs:=by split<;>omega
 have eb:(if b<0 then -b else b).natAbs=b.natAbs:=by split<;>omega
 unfold wS;rw[ea,eb]
theorem nonneg(a b:Int):0<=jbk a b:=by unfold jbk;exact Int.natCast_nonneg _
theorem zero{a b:Int}(h:jbk a b=0):a=0/\b=0:=by
 unfold jbk at h;exact Int.gcd_eq_zero_iff.mp #[]
theorem jfr{t b:Int}(h:b≠0):0<jbk t b:=by
 have h1:=nonneg t b;have h2:jbk t b≠0:=fun z=>h (zero z).2;omega
theorem jn3{t b:Int}(h:b≠0):(jbk t b).natAbs<=b.natAbs:=by
 have hd:jbk t b ∣ b:=by unfold jbk;exact cL _ _
 exact Nat.le_of_dvd #[] (Int.natAbs_dvd_natAbs.mpr hd)
def sg'(t b:Int):Int:=if b<0 then-jbk t b else jbk t b
theorem jiv{t b:Int}(hb:b≠0):∃x y:Int,t.fdiv (sg' t b)=x/\b.fdiv (sg' t b)=y/\1<=y/\x*b=y*t/\wS x y=1/\x.natAbs<=t.natAbs/\y.natAbs<=b.natAbs:=by
 have gp:=jfr (t:=t) hb;have d1:jbk t b ∣ t:=by unfold jbk;exact gQ _ _
 have d2:jbk t b ∣ b:=by unfold jbk;exact cL _ _
 have e1:sg' t b ∣ t:=by unfold sg';split<;>first|exact Int.neg_dvd.mpr d1|exact d1
 have e2:sg' t b ∣ b:=by unfold sg';split<;>first|exact Int.neg_dvd.mpr d2|exact d2
 have s0:sg' t b≠0:=by unfold sg';split<;>omega
 have na:(sg' t b).natAbs=wS t b:=by
  have:(jbk t b).natAbs=wS t b:=by unfold jbk;exact wC _
  unfold sg';split<;>omega
 have sgn:0<b/sg' t b:=by
  unfold sg'
  split
  .rename_i n;rw[Int.ediv_neg];have:b/jbk t b<0:=Int.ediv_neg_of_neg_of_pos n gp;omega
  .exact Int.ediv_pos_of_pos_of_dvd #[] #[] d2
 rw[Int.fdiv_eq_ediv_of_dvd e1,Int.fdiv_eq_ediv_of_dvd e2];generalize hs:sg' t b=s at*;obtain⟨x,hx⟩:=e1;obtain⟨y,hy⟩:=e2;have ex:t/s=x:=by rw[hx];exact Int.mul_ediv_cancel_left _ s0
 have ey:b/s=y:=by rw[hy];exact Int.mul_ediv_cancel_left _ s0
 refine⟨x,y,ex,ey,#[],by rw[hy,hx,<-eO,<-eO,gF x s,gF y s,eO,eO,gF x y],?_,?_,?_⟩
 .have hp:0<wS t b:=Int.gcd_pos_of_ne_zero_right _ hb;have h:=Int.gcd_mul_left s x y;rw[<-hx,<-hy,na] at h;have:wS t b*wS x y=wS t b*1:=by omega
  exact Nat.eq_of_mul_eq_mul_left hp this
 .rw[hx,xS];exact Nat.le_mul_of_pos_left _ #[]
 .rw[hy,xS];exact Nat.le_mul_of_pos_left _ #[]
theorem jru{t b:Int}(hb:b≠0):t.fdiv (sg' t b)=((t:Rat) /(b:Rat)).num/\b.fdiv (sg' t b)=(((t:Rat) /(b:Rat)).den:Int):=by
 obtain⟨x,y,e1,e2,y1,cr,cop,_,_⟩:=jiv (t:=t) hb;have hy:((y.toNat:Nat):Int)=y:=by omega
 have hc:x.natAbs.Coprime y.toNat:=by
  have e:y.natAbs=y.toNat:=by omega
  have h:Nat.gcd x.natAbs y.natAbs=1:=cop;rw[e] at h;exact h
 have eq:(⟨x,y.toNat,#[],hc⟩:Rat)=(t:Rat) /(b:Rat):=by
  have h1:(⟨x,y.toNat,#[],hc⟩:Rat)=Rat.divInt x ((y.toNat:Nat):Int):=Rat.mk_eq_divInt ..;rw[h1,hy,Rat.divInt_eq_div];have hb':(b:Rat)≠0:=by
   intro h;exact hb (by exact_mod_cast h)
  have hy':(y:Rat)≠0:=by
   intro h;have:y=0:=by exact_mod_cast h
   omega
  have cr':(x:Rat)*(b:Rat)=(y:Rat)*(t:Rat):=by exact_mod_cast cr
  grind
 rw[e1,e2,<-eq];exact⟨rfl,hy.symm⟩
theorem qe8(q:Rat):(q.num:Rat) /((q.den:Nat):Rat)=q:=by
 rw[<-uY,<-Rat.divInt_eq_div];exact Rat.num_divInt_den q
theorem qeo(q:Rat):((q.den:Nat):Rat)≠0:=by
 intro h;have:=q.den_nz;exact this (by exact_mod_cast h)
theorem jn4(a b:Rat):((a.num*(b.den:Int)+b.num*(a.den:Int):Int):Rat) /(((a.den:Int)*(b.den:Int):Int):Rat)=a+b:=by
 have h1:=qe8 a;have h2:=qe8 b;have n1:=qeo a;have n2:=qeo b;rw[aP,vJ,vJ,vJ,uY,uY]
 conv=>rhs;rw[<-h1,<-h2]
 grind
theorem jn5(a b:Rat):((a.num*(b.den:Int)-b.num*(a.den:Int):Int):Rat) /(((a.den:Int)*(b.den:Int):Int):Rat)=a-b:=by
 have h1:=qe8 a;have h2:=qe8 b;have n1:=qeo a;have n2:=qeo b;rw[Rat.intCast_sub,vJ,vJ,vJ,uY,uY]
 conv=>rhs;rw[<-h1,<-h2]
 grind
theorem jn6(a b:Rat):((a.num*b.num:Int):Rat) /(((a.den:Int)*(b.den:Int):Int):Rat)=a*b:=by
 have h1:=qe8 a;have h2:=qe8 b;have n1:=qeo a;have n2:=qeo b;rw[vJ,vJ,uY,uY]
 conv=>rhs;rw[<-h1,<-h2]
 grind
theorem jn7(a b:Rat)(hb:b≠0):((a.num*(b.den:Int):Int):Rat) /(((a.den:Int)*b.num:Int):Rat)=a/b:=by
 have h1:=qe8 a;have h2:=qe8 b;have n1:=qeo a;have n2:=qeo b;have n3:(b.num:Rat)≠0:=by
  intro h;rw[h] at h2;apply hb;rw[<-h2];grind
 rw[vJ,vJ,uY,uY]
 conv=>rhs;rw[<-h1,<-h2]
 grind
def jrv(a b:Rat):a.num*(b.den:Int)<b.num*(a.den:Int)↔a<b:=(Rat.lt_iff a b).symm
structure RB(q:Rat):Prop where
 n:q.num.natAbs<2^290
 d:q.den<2^290
def qbf(H:Hp)(a:Addr)(q:Rat):Prop:=H a=some (.tup [.int q.num,.int (q.den:Int)])
def qbf.same{H H':Hp}{a:Addr}{q:Rat}(h:qbf H a q)(s:jab H H'):qbf H' a q:=s _ _ h
theorem qbf.uniq(h:qbf H a q)(h':qbf H a r):q=r:=by
 have h1:H a=_:=h;have h2:H a=_:=h';rw[h1] at h2;have h3:=HO.tup.inj (uN h2);have e1:q.num=r.num:=by injection h3 with a1 a2;injection a1
 have e2:q.den=r.den:=by
  injection h3 with a1 a2
  injection a2 with a3 a4
  injection a3 with a5
  exact_mod_cast a5
 exact Rat.ext e1 e2
def meas(i:Nat)(σ:L2.St):Nat:=match σ[i]? with
 |some (some (.int s))=>s.toNat
 |_=>0
def frO(q:Rat):HO:=.tup [.int q.num,.int (q.den:Int)]
def wen(K:uT)(d:Ad):Sp:=fun vs H Q _=>∃i j:Int,vs=[.int i,.int j]/\Q (.int (jbk i j)) H
include T in
theorem wea:jac P w K mg base CX0 1 d.w8t d.w6z ["one","other"] (wen K d):=by
 exists T.wbw.ok w34
 .right
 obtain⟨i,j,rfl,q⟩:=h;exists (qa2 (qad (i:=2) w34.nd rfl (uI rfl) (qaf qfv rfl T.whm dN #[pv 0]))
  (qa2 (qad (i:=3) w34.nd rfl (uI rfl) (qaf qfv rfl T.whm dN #[pv 1]))
  (qa2 (qeb vM (qak qfi (pv 3) qa7 (qau _)) (qa2 (qad (i:=4) w34.nd rfl (uI rfl) (qah qbe (pv 2) (pv 3)))
  (qa2 (qad (i:=2) w34.nd rfl (uI rfl) (pv 3))
  (qa6 (qad (i:=3) w34.nd rfl (uI rfl) (pv 4))))))
  (qa6 (qae (pv 2)))))),[some (.int i),some (.int j),none,none,none];left;refine qe5 (fun σ H'=>H'=H/\∃(g t:Int)(r:Option V),σ=[some (.int i),some (.int j),some (.int g),some (.int t),r]/\0<=g/\0<=t/\wS g t=wS i j) (fun σ _=>meas 3 σ) ?_ ?_ ?_
 .refine⟨rfl,_,_,_,rfl,?_,?_,jn2 i j⟩<;>split<;>omega
 .rintro σ H1 ⟨rfl,g,t,r,rfl,hg,ht,e⟩;left;refine i_2 (fun c=>?_) (fun c=>?_)
  .left;refine⟨⟨rfl,_,_,_,rfl,#[],vA _ #[],?_⟩,?_⟩
   .rw[jfq g t c];exact e
   .show(g%t).toNat<t.toNat;have:=vF g c;have:=vA g (show t≠0 by omega);omega
  .left;have z:t=0:=by omega
   subst z;have e2:g=jbk i j:=by
    rw[Int.gcd_zero_right] at e;unfold jbk;rw[<-e];omega
   rw[e2];exact q
 .rintro σ H1 Q1 Q2 h ⟨v,e,a,b,e1,e2,d,e3,q⟩;exact⟨v,e,a,b,e1,e2,d,e3,h _ _ q⟩
def wd8(K:uT)(d:Ad):Sp:=fun vs H Q _=>∃t b:Int,vs=[.int t,.int b]/\b.natAbs<2^600/\b≠0/\∀p,H p=none->Q (.ref p) (upd H p (frO ((t:Rat) /(b:Rat))))
include T in
theorem w3b:jac P w K mg base (My.CX1 P w) 3 d.w7e d.w6k ["top","bottom"] (wd8 K d):=by
 exists okX T.w36 w6g
 .right
 obtain⟨t,b,rfl,hb,b0,hq⟩:=h;exists (qa2 (qb8 (qak qey (pv 1) qa7 (qau _)) (qa6 (qbw rfl T.w7k rfl T.w7j qaj #[qcn])) qap)
  (qa2 (qad (i:=2) w6g.nd rfl (uI rfl) (qag ((wea T).mono ∅) hr rfl T.wfc T.wbw.kp T.wfq .nil qaz #[pv 0,pv 1]))
  (qa2 (qdg (qb8 (qak jdu (pv 1) qa7 (qau _)) (qa6 (qad (i:=2) w6g.nd rfl (uI rfl) (jph jk9 (pv 2)))) qap))
  (qa6 (qae (qcc #[qah qbo (pv 0) (pv 2),qah qbo (pv 1) (pv 2)])))))),[some (.int t),some (.int b),none];left;have gb:(jbk t b).natAbs<2^600:=vI (jn3 b0) hb;have gp:=jfr (t:=t) b0;obtain⟨f1,f2⟩:=jru (t:=t) b0;unfold frO at hq;rw[<-f1,<-f2] at hq;clear f1 f2;refine⟨t,b,rfl,?_⟩;left;refine qff ?_;left;refine i_2 (fun n=>?_) (fun n=>?_)
 .have es:sg' t b=-jbk t b:=by unfold sg';rw[gU n]
  rw[es] at hq;left;exact hq _ (by assumption)
 .have es:sg' t b=jbk t b:=by unfold sg';rw[gT n]
  rw[es] at hq;left;exact hq _ (by assumption)
def wfu(f:Rat->Rat->Rat):Sp:=fun vs H Q _=>∃(o p:Addr)(a b:Rat),vs=[.ref o,.ref p]/\qbf H o a/\qbf H p b/\RB a/\RB b/\∀r,H r=none->Q (.ref r) (upd H r (frO (f a b)))
def whr(K:uT)(d:Ad):Sp:=wfu fun a b=>a+b
def wg5(K:uT)(d:Ad):Sp:=wfu fun a b=>a-b
def wgg(K:uT)(d:Ad):Sp:=wfu fun a b=>a*b
inductive jgd(K:uT)(d:Ad)(vs:List V)(H:Hp)(Q:VK)(E:XK):Prop
 |mk(o p:Addr)(a b:Rat)(_:vs=[.ref o,.ref p])(_:qbf H o a)(_:qbf H p b)(_:RB a)(_:RB b)(_:b≠0)(_:∀r,H r=none->Q (.ref r) (upd H r (frO (a/b))))
inductive jkr(K:uT)(d:Ad)(vs:List V)(H:Hp)(Q:VK)(E:XK):Prop
 |mk(o p:Addr)(a b:Rat)(_:vs=[.ref o,.ref p])(_:qbf H o a)(_:qbf H p b)(_:RB a)(_:RB b)(_:Q (.bl (decide (a<b))) H)
def RB.n6(h:RB q):q.num.natAbs<2^600:=bE h.n ∅
theorem RB.d6(h:RB q):((q.den:Int)).natAbs<2^600:=by
 rw[wC];exact bE h.d ∅
theorem RB.dd{a b:Rat}(h:RB a)(h':RB b):(((a.den:Int))*(b.den:Int)).natAbs<2^600:=by
 rw[xS,wC,wC];exact bE (Nat.mul_lt_mul'' h.d h'.d) ∅
theorem RB.dn{a b:Rat}(h:RB a)(h':RB b):(((a.den:Int))*b.num).natAbs<2^600:=by
 rw[xS,wC];exact bE (Nat.mul_lt_mul'' h.d h'.n) ∅
theorem den_pos(q:Rat):(0:Int) <(q.den:Int):=by have:=q.den_pos;omega
include T in
theorem whx:jac P w K mg base (My.CX1 P w) 4 d.wfw d.wd3 ["one","other"] (whr K d):=by
 exists okX T.wgq whj
 .right
 obtain⟨o,p,a,b,rfl,ho,hp,f1,f2,q⟩:=h;exists qa6 (qae (qaw ((w3b T).mono ∅) hr rfl T.w46 T.w36.kp T.w44 .nil qaj #[qah qbr (qah qba (~~~0) (~~~1)) (qah qba (~~~1) (~~~0)),qah qba (~~~0) (~~~1)])),[sr o,sr p];have x1:=f1.n6;have x2:=f1.d6;have x3:=f2.n6;have x4:=f2.d6;unfold qbf at ho hp;have e:=jn4 a b;have bp:=f1.dd f2;have ne:(a.den:Int)*(b.den:Int)≠0:=gG (dS (den_pos a) (den_pos b));clear f1 f2;left;refine⟨_,_,rfl,bp,ne,fun r hr=>?_⟩;rw[e];exact q r hr
include T in
theorem wg7:jac P w K mg base (My.CX1 P w) 4 d.wdc d.wad ["one","other"] (wg5 K d):=by
 exists okX T.wfz wg9
 .right
 obtain⟨o,p,a,b,rfl,ho,hp,f1,f2,q⟩:=h;exists qa6 (qae (qaw ((w3b T).mono ∅) hr rfl T.w46 T.w36.kp T.w44 .nil qaj #[qah je3 (qah qba (~~~0) (~~~1)) (qah qba (~~~1) (~~~0)),qah qba (~~~0) (~~~1)])),[sr o,sr p];have x1:=f1.n6;have x2:=f1.d6;have x3:=f2.n6;have x4:=f2.d6;unfold qbf at ho hp;have e:=jn5 a b;have bp:=f1.dd f2;have ne:(a.den:Int)*(b.den:Int)≠0:=gG (dS (den_pos a) (den_pos b));clear f1 f2;left;refine⟨_,_,rfl,bp,ne,fun r hr=>?_⟩;rw[e];exact q r hr
include T in
theorem we2:jac P w K mg base (My.CX1 P w) 4 d.wco d.way ["one","other"] (wgg K d):=by
 exists okX T.wdp wgb
 .right
 obtain⟨o,p,a,b,rfl,ho,hp,f1,f2,q⟩:=h;exists qa6 (qae (qaw ((w3b T).mono ∅) hr rfl T.w46 T.w36.kp T.w44 .nil qaj #[qah qba (~~~0) (~~~1),qah qba (~~~0) (~~~1)])),[sr o,sr p];have x1:=f1.n6;have x2:=f1.d6;have x3:=f2.n6;have x4:=f2.d6;unfold qbf at ho hp;have e:=jn6 a b;have bp:=f1.dd f2;have ne:(a.den:Int)*(b.den:Int)≠0:=gG (dS (den_pos a) (den_pos b));clear f1 f2;left;refine⟨_,_,rfl,bp,ne,fun r hr=>?_⟩;rw[e];exact q r hr
include T in
theorem w9q:jac P w K mg base (My.CX1 P w) 4 d.w8o d.w7i ["one","other"] (jgd K d):=by
 exists okX T.w8q weu
 .right
 obtain⟨o,p,a,b,rfl,ho,hp,f1,f2,b0,q⟩:=h;exists qa6 (qae (qaw ((w3b T).mono ∅) hr rfl T.w46 T.w36.kp T.w44 .nil qaj #[qah qba (~~~0) (~~~1),qah qba (~~~0) (~~~1)])),[sr o,sr p];have x1:=f1.n6;have x2:=f1.d6;have x3:=f2.n6;have x4:=f2.d6;unfold qbf at ho hp;have e:=jn7 a b b0;have bp:=f1.dn f2;have n0:b.num≠0:=fun h=>b0 (Rat.num_eq_zero.mp h);have ne:(a.den:Int)*b.num≠0:=Int.mul_ne_zero (gG (den_pos a)) n0;clear f1 f2;left;refine⟨_,_,rfl,bp,ne,fun r hr=>?_⟩;rw[e];exact q r hr
include T in
theorem wa3:jac P w K mg base CX0 1 d.wcn d.wal ["one","other"] (jkr K d):=by
 exists T.wau.ok wgc
 .right
 obtain⟨o,p,a,b,rfl,ho,hp,f1,f2,q⟩:=h;exists qa6 (qae (qd7 jdu (qah qba (~~~0) (~~~1)) (qah qba (~~~1) (~~~0)) (qau _))),[sr o,sr p];have x1:=f1.n6;have x2:=f1.d6;have x3:=f2.n6;have x4:=f2.d6;unfold qbf at ho hp;clear f1 f2;left;rw[decide_eq_decide.mpr (jrv a b)];exact q
def qc3:List Str->(Str->Rat)->Rat
 | [],_=>0
 |n::l,f=>f n+qc3 l f
theorem qbv{f g:Str->Rat}:∀{l:List Str},(∀n∈l,f n=g n)->qc3 l f=qc3 l g
 | [],_=>rfl
 |n::l,h=>by
  show f n+qc3 l f=g n+qc3 l g;rw[h n (zF ..),qbv fun m hm=>h m (zD _ hm)]
theorem qf3{f g:Str->Rat}:∀{l:List Str},qc3 l (fun n=>f n+g n)=qc3 l f+qc3 l g
 | []=>by show(0:Rat)=0+0;grind
 |n::l=>by
  show f n+g n+qc3 l _=f n+qc3 l f+(g n+qc3 l g);rw[qf3];grind
theorem qf2{c:Rat}{f:Str->Rat}:∀{l:List Str},qc3 l (fun n=>c*f n)=c*qc3 l f
 | []=>by show(0:Rat)=c*0;grind
 |n::l=>by
  show c*f n+qc3 l _=c*(f n+qc3 l f);rw[qf2];grind
theorem jem{f g:Str->Rat}:∀{l:List Str},(∀n∈l,f n<=g n)->qc3 l f<=qc3 l g
 | [],_=>by show(0:Rat)<=0;grind
 |n::l,h=>by
  have h1:=h n (zF ..);have h2:=jem (l:=l) fun m hm=>h m (zD _ hm);show f n+qc3 l f<=g n+qc3 l g;grind
theorem qfc{f:Str->Rat}{l:List Str}(h:∀n∈l,0<=f n):0<=qc3 l f:=by
 have h1:=jem (f:=fun _=>0) h;have h2:qc3 l (fun _=>(0:Rat))=0:=by
  have:=qf2 (c:=0) (f:=fun _=>(0:Rat)) (l:=l);have e:(fun n:Str=>(0:Rat)*0)=fun _=>0:=funext fun _=>by grind
  rw[e] at this;grind
 grind
theorem qe6{l:List Str}{f:Str->Rat}(h:∀n∈l,f n=0):qc3 l f=0:=by
 rw[qbv (g:=fun _=>0) h];have:=qf2 (c:=0) (f:=fun _=>(0:Rat)) (l:=l);have e:(fun n:Str=>(0:Rat)*0)=fun _=>0:=funext fun _=>by grind
 rw[e] at this;grind
theorem jfs{f:Str->Rat}:∀{l:List Str} {n:Str},n∈l->(∀m∈l,0<=f m)->f n<=qc3 l f
 | [],_,h,_=>by simp at h
 |m::l,n,h,hp=>by
  have h2:=qfc (l:=l) fun k hk=>hp k (zD _ hk);have h0:=hp m (zF ..);show f n<=f m+qc3 l f;rcases zO.mp h with e|e
  .subst e;grind
  .have:=jfs e fun k hk=>hp k (zD _ hk);grind
structure Dl where
 W0:List Str
 ln:Str->List Str
 wt:Str->Int
 wa:Str->Int
 rm:Str->Int
structure jay(D:Dl):Prop where
 nd:D.W0.Nodup
 w1:∀n∈D.W0,1<=D.wt n
 w2:∀n∈D.W0,D.wt n<=1000
 a0:∀n∈D.W0,0<=D.wa n
 a1:∀n∈D.W0,D.wa n<=10^31
 r0:∀n∈D.W0,∀h∈D.ln n,0<=D.rm h
 r1:∀n∈D.W0,∀h∈D.ln n,D.rm h<=10^31
 l0:∀n∈D.W0,n∈D.ln n
 ld:∀n∈D.W0,(D.ln n).Nodup
 lz:∀n∈D.W0,(D.ln n).length<=20
 l8:D.W0.length<=7
section
variable(D:Dl)
open Classical in
noncomputable def ldQ(W:List Str)(h:Str):Rat:=qc3 D.W0 fun n=>if n∈W/\h∈D.ln n then(D.wt n:Rat) else 0
noncomputable def goQ(n:Str):Rat:=(D.wa n:Rat) /(D.wt n:Rat)
open Classical in
noncomputable def rdy(W:List Str)(lf:Str->Rat)(L:Rat):List Str:=W.filter fun n=>decide ((∃h∈D.ln n,lf h/ldQ D W h=L)\/goQ D n=L)
open Classical in
noncomputable def wls(W R:List Str):List Str:=W.filter fun n=>!decide (n∈R)
noncomputable def lfN(lf:Str->Rat)(L:Rat)(R:List Str)(h:Str):Rat:=lf h-L*ldQ D R h
structure IsL(W:List Str)(lf:Str->Rat)(L:Rat):Prop where
 ge:∀n∈W,(∀h∈D.ln n,L<=lf h/ldQ D W h)/\L<=goQ D n
 at_:∃n∈W,(∃h∈D.ln n,lf h/ldQ D W h=L)\/goQ D n=L
def Dv(N:Nat)(q:Rat):Prop:=∃z:Int,q*(N:Rat)=(z:Rat)
open Classical in
structure RdI(W:List Str)(lf lv:Str->Rat)(M:Rat)(N:Nat):Prop where
 sub:∀n∈W,n∈D.W0
 nd:W.Nodup
 sum:∀h,lf h=(D.rm h:Rat)-qc3 D.W0 fun n=>if n∉W/\h∈D.ln n then lv n*(D.wt n:Rat) else 0
 lo:∀n∈W,∀h∈D.ln n,M*ldQ D W h<=lf h
 nn:∀n∈D.W0,∀h∈D.ln n,0<=lf h
 go:∀n∈W,M<=goQ D n
 m0:0<=M
 st:∀n∈D.W0,n∉W->0<=lv n/\lv n<=M/\lv n<=goQ D n/\(lv n=goQ D n\/∃h∈D.ln n,lf h=0/\(∀m∈W,h∉D.ln m)/\∀m∈D.W0,h∈D.ln m->lv m<=lv n)
 n0:0<N
 dl:∀h,Dv N (lf h)
 nb:N<=10000^(7-W.length)
end
section
variable{D:Dl}
theorem wtQ{n:Str}(ok:jay D)(h:n∈D.W0):(1:Rat)<=(D.wt n:Rat)/\(D.wt n:Rat)<=1000:=by
 have h1:=ok.w1 n h;have h2:=ok.w2 n h;exact⟨by exact_mod_cast h1,by exact_mod_cast h2⟩
def jl5(ok:jay D)(W:List Str)(h:Str):0<=ldQ D W h:=qfc fun n hn=>by
 have:=(wtQ ok hn).1
 try dsimp only
 split<;>grind
theorem jen(ok:jay D){W:List Str}{h n:Str}(hn:n∈W)(h0:n∈D.W0)(hl:h∈D.ln n):1<=ldQ D W h:=by
 have h1:=(wtQ ok h0).1;have h2:=jfs (l:=D.W0) (f:=fun n=>if n∈W/\h∈D.ln n then(D.wt n:Rat) else 0) h0 fun m hm=>by
  have:=(wtQ ok hm).1
  try dsimp only
  split<;>grind
 rw[gU ⟨hn,hl⟩] at h2;show(1:Rat)<=qc3 D.W0 _;grind
theorem jiw(W R:List Str)(hR:∀n∈R,n∈W)(h:Str):ldQ D W h=ldQ D R h+ldQ D (wls W R) h:=by
 unfold ldQ;rw[<-qf3];refine qbv fun n hn=>?_
 try dsimp only
 have hw:n∈wls W R↔n∈W/\n∉R:=by unfold wls;rw[zV];simp
 by_cases c1:h∈D.ln n
 .by_cases c2:n∈R
  .rw[gU ⟨hR n c2,c1⟩,gU ⟨c2,c1⟩,gT (fun z=>(hw.mp z.1).2 c2)];grind
  .by_cases c3:n∈W
   .rw[gU ⟨c3,c1⟩,gT (fun z=>c2 z.1),gU ⟨hw.mpr ⟨c3,c2⟩,c1⟩];grind
   .rw[gT (fun z=>c3 z.1),gT (fun z=>c2 z.1),gT (fun z=>c3 (hw.mp z.1).1)];grind
 .rw[gT (fun z=>c1 z.2),gT (fun z=>c1 z.2),gT (fun z=>c1 z.2)];grind
def qej(hn:∀m∈W,h∉D.ln m):ldQ D W h=0:=qe6 fun n _=>by
 try dsimp only
 rw[gT fun z=>hn n z.1 z.2]
theorem jft{a b c:Rat}(hc:0<c):a<=b/c↔a*c<=b:=by
 have e:b/c*c=b:=cD (by grind);constructor
 .intro h;have:=wB h (Rat.le_of_lt hc);grind
 .intro h;refine Decidable.byContradiction fun n=>?_;have n':b/c<a:=by grind
  have:=bZ n' hc;grind
theorem jix{a b c:Rat}(hc:0<c):b/c=a↔b=a*c:=by
 have e:b/c*c=b:=cD (by grind);constructor
 .intro h;grind
 .intro h;have e2:c≠0:=by grind
  grind
end
theorem jeo{a b:Int}(h:(a:Rat)=(b:Rat)):a=b:=by exact_mod_cast h
theorem jep(q:Rat):(q.num:Rat)=q*((q.den:Nat):Rat):=by
 have h1:=qe8 q;have h2:=qeo q;grind
theorem jde{B:Nat}(n0:0<N)(nb:N<=10000^8)(hB:B<=10^40)(h:Dv N q)(lo: -(B:Rat)<=q)(hi:q<=(B:Rat)):RB q:=by
 obtain⟨z,hz⟩:=h;have e:q.num*(N:Int)=z*(q.den:Int):=by
  apply jeo;rw[vJ,vJ,uY,uY,jep q,<-hz];grind
 have dd:q.den ∣ N:=by
  have h1:(q.den:Int) ∣ q.num*(N:Int):=⟨z,by rw[e,gF]⟩;have h2:q.den ∣ q.num.natAbs*N:=by
   have:=Int.natAbs_dvd_natAbs.mpr h1;rw[wC,xS,wC] at this;exact this
  exact Nat.Coprime.dvd_of_dvd_mul_left q.reduced.symm h2
 have dn:q.den<=N:=Nat.le_of_dvd n0 dd;have nz:q.num.natAbs<=z.natAbs:=by
  have h1:q.num.natAbs*N=z.natAbs*q.den:=by
   have:=congrArg Int.natAbs e;rw[xS,xS,wC,wC] at this;exact this
  have h2:q.num.natAbs*N<=z.natAbs*N:=by rw[h1];exact Nat.mul_le_mul_left _ dn
  exact Nat.le_of_mul_le_mul_right h2 n0
 have zb:z.natAbs<=B*N:=by
  have N0:(0:Rat)<=(N:Rat):=by exact_mod_cast wO N
  have h1:(z:Rat)<=(B:Rat)*(N:Rat):=by rw[<-hz];exact wB hi N0
  have h2: -(B:Rat)*(N:Rat)<=(z:Rat):=by rw[<-hz];exact wB lo N0
  have c:(((B*N:Nat):Int):Rat)=(B:Rat)*(N:Rat):=by rw[uY,aQ]
  have h1':z<=((B*N:Nat):Int):=by
   have:(z:Rat)<=(((B*N:Nat):Int):Rat):=by rw[c];exact h1
   exact_mod_cast this
  have h2': -((B*N:Nat):Int)<=z:=by
   have:((-((B*N:Nat):Int):Int):Rat)<=(z:Rat):=by rw[Rat.intCast_neg,c];grind
   exact_mod_cast this
  omega
 have b1:B*N<=10^40*10000^8:=cE hB nb;exact⟨vI (vK nz (vK zb b1)) ∅,vI (vK dn nb) ∅⟩
theorem Dv.mul(h:Dv N q)(k:Nat):Dv (N*k) q:=by
 obtain⟨z,hz⟩:=h;refine⟨z*(k:Int),?_⟩;rw[vJ,uY,aQ,<-hz];grind
theorem Dv.sub{a b:Rat}(h:Dv N a)(h':Dv N b):Dv N (a-b):=by
 obtain⟨z,hz⟩:=h;obtain⟨y,hy⟩:=h';exact⟨z-y,by rw[Rat.intCast_sub,<-hz,<-hy];grind⟩
theorem Dv.ints{a:Rat}(h:Dv N a)(k:Int):Dv N (a*(k:Rat)):=by
 obtain⟨z,hz⟩:=h;exact⟨z*k,by rw[vJ,<-hz];grind⟩
section
variable{D:Dl}
theorem jfu{f:Str->Rat}:∀{l:List Str},(∀n∈l,∃z:Int,f n=(z:Rat))->∃z:Int,qc3 l f=(z:Rat)
 | [],_=>⟨0,rfl⟩
 |n::l,h=>by
  obtain⟨a,ha⟩:=h n (zF ..);obtain⟨b,hb⟩:=jfu (l:=l) fun m hm=>h m (zD _ hm);exact⟨a+b,by show f n+qc3 l f=_;rw[ha,hb,aP]⟩
theorem qgh{f:Str->Rat}{B:Rat}:∀{l:List Str},(∀n∈l,f n<=B)->qc3 l f<=(l.length:Rat)*B
 | [],_=>by show(0:Rat)<=((0:Nat):Rat)*B;grind
 |n::l,h=>by
  have h1:=h n (zF ..);have h2:=qgh (l:=l) fun m hm=>h m (zD _ hm);show f n+qc3 l f<=_;rw[zR,Rat.natCast_add];grind
def qfm(W:List Str)(h:Str):∃z:Int,ldQ D W h=(z:Rat):=jfu fun n _=>by
 try dsimp only
 split
 .exact⟨_,rfl⟩
 .exact⟨0,rfl⟩
theorem jiy(ok:jay D)(W:List Str)(h:Str):ldQ D W h<=7000:=by
 have h1:=qgh (B:=1000) (l:=D.W0) (f:=fun n=>if n∈W/\h∈D.ln n then(D.wt n:Rat) else 0) fun n hn=>by
  have:=(wtQ ok hn).2
  try dsimp only
  split<;>grind
 have h2:((D.W0.length:Nat):Rat)<=7:=by exact_mod_cast ok.l8
 show qc3 D.W0 _<=7000;grind
theorem qfq(ok:jay D){n:Str}(hn:n∈D.W0):goQ D n*(D.wt n:Rat)=(D.wa n:Rat):=by
 have:=(wtQ ok hn).1;unfold goQ;exact cD (by grind)
def B31:Nat:=10^31
theorem jn8(ok:jay D){n:Str}(hn:n∈D.W0):0<=goQ D n/\goQ D n<=(B31:Rat):=by
 have h1:=(wtQ ok hn).1;have h2:=qfq ok hn;have a0:(0:Rat)<=(D.wa n:Rat):=by exact_mod_cast ok.a0 n hn
 have a1:(D.wa n:Rat)<=(B31:Rat):=by
  have h:D.wa n<=((B31:Nat):Int):=ok.a1 n hn;rw[<-uY];exact_mod_cast h
 have p:(0:Rat) <(D.wt n:Rat):=by grind
 have g0:0<=goQ D n:=by
  unfold goQ;exact(jft p).mpr (by grind)
 refine⟨g0,?_⟩;have:=xV h1 g0;grind
theorem qc4{R:List Str}{n:Str} :n∈wls W R↔n∈W/\n∉R:=by unfold wls;rw[zV];simp
theorem qcz{L:Rat}{n:Str} :n∈rdy D W lf L↔n∈W/\((∃h∈D.ln n,lf h/ldQ D W h=L)\/goQ D n=L):=by unfold rdy;rw[zV];simp
theorem RdI.next(ok:jay D){W:List Str}{lf lv:Str->Rat}{M L:Rat}{N:Nat}(I:RdI D W lf lv M N)(il:IsL D W lf L):M<=L/\L<=(B31:Rat)/\(wls W (rdy D W lf L)).length<W.length/\
  ∃N',(∃k:Nat,N'=N*k)/\Dv N' L/\RdI D (wls W (rdy D W lf L)) (lfN D lf L (rdy D W lf L)) (fun n=>if n∈rdy D W lf L then L else lv n) L N':=by
 have hsub:∀n∈rdy D W lf L,n∈W:=fun n h=>(qcz.mp h).1;have hRW:∀n∈rdy D W lf L,n∈D.W0:=fun n h=>I.sub n (hsub n h);have spl:=jiw (D:=D) W (rdy D W lf L) hsub;have pos:∀n∈W,∀h∈D.ln n,(0:Rat)<ldQ D W h:=fun n hn h hl=>by
  have:=jen ok hn (I.sub n hn) hl;grind
 have lw:∀n∈W,∀h∈D.ln n,L*ldQ D W h<=lf h:=fun n hn h hl=>(jft (pos n hn h hl)).mp ((il.ge n hn).1 h hl);obtain⟨n1,hn1,c1⟩:=il.at_;have ML:M<=L:=by
  rcases c1 with⟨h,hl,e⟩|e
  .have p:=pos n1 hn1 h hl;have h1:=I.lo n1 hn1 h hl;have h2:=(jft p).mpr h1;grind
  .have:=I.go n1 hn1;grind
 have L0:0<=L:=by have:=I.m0;grind
 have Lb:L<=(B31:Rat):=by
  have h1:=(il.ge n1 hn1).2;have h2:=(jn8 ok (I.sub n1 hn1)).2;grind
 have r1:n1∈rdy D W lf L:=qcz.mpr ⟨hn1,c1⟩;have len:(wls W (rdy D W lf L)).length<W.length:=by
  unfold wls;refine List.length_filter_lt_length_iff_exists.mpr ⟨n1,hn1,?_⟩;simp[r1]
 have full:∀h,(∃n∈W,h∈D.ln n)->lf h/ldQ D W h=L->(∀m∈W,h∈D.ln m->m∈rdy D W lf L)/\lfN D lf L (rdy D W lf L) h=0:=fun h ⟨n,hn,hl⟩ e=>by
  have a1:∀m∈W,h∈D.ln m->m∈rdy D W lf L:=fun m hm hml=>qcz.mpr ⟨hm,.inl ⟨h,hml,e⟩⟩;refine⟨a1,?_⟩;have z:ldQ D (wls W (rdy D W lf L)) h=0:=qej fun m hm hml=>(qc4.mp hm).2 (a1 m (qc4.mp hm).1 hml);have s:=spl h;have e2:=(jix (pos n hn h hl)).mp e;unfold lfN;grind
 have keep:∀h,(∀m∈W,h∉D.ln m)->lfN D lf L (rdy D W lf L) h=lf h:=fun h hm=>by
  have z:ldQ D (rdy D W lf L) h=0:=qej fun m hmr=>hm m (hsub m hmr);unfold lfN;grind
 refine⟨ML,Lb,len,?_⟩;obtain⟨k,k1,k2,kv⟩:∃k:Nat,1<=k/\k<=7000/\Dv (N*k) L:=by
  rcases c1 with⟨h,hl,e⟩|e
  .obtain⟨z,hz⟩:=qfm (D:=D) W h;have b1:=jen ok hn1 (I.sub n1 hn1) hl;have b2:=jiy ok W h;rw[hz] at b1 b2;have b1':(1:Int)<=z:=by exact_mod_cast b1
   have b2':z<=7000:=by exact_mod_cast b2
   obtain⟨y,hy⟩:=I.dl h;have e2:=(jix (pos n1 hn1 h hl)).mp e;have ez:((z.toNat:Nat):Rat)=(z:Rat):=by
    have:((z.toNat:Nat):Int)=z:=by omega
    rw[<-uY,this]
   refine⟨z.toNat,#[],#[],y,?_⟩;rw[aQ,ez,<-hy,e2,hz];grind
  .have hw:=ok.w1 n1 (I.sub n1 hn1);have hw2:=ok.w2 n1 (I.sub n1 hn1);have gm:=qfq ok (I.sub n1 hn1);have ez:(((D.wt n1).toNat:Nat):Rat)=(D.wt n1:Rat):=by
    have:(((D.wt n1).toNat:Nat):Int)=D.wt n1:=by omega
    rw[<-uY,this]
   refine⟨(D.wt n1).toNat,#[],#[],D.wa n1*(N:Int),?_⟩;rw[aQ,ez,vJ,uY,<-gm,<-e];grind
 refine⟨N*k,⟨k,rfl⟩,kv,?_⟩;have wl7:W.length<=7:=vK (vT I.nd I.sub) ok.l8;refine⟨fun n hn=>I.sub n (qc4.mp hn).1,I.nd.filter _,fun h=>?_,fun n hn h hl=>?_,fun n hn h hl=>?_,fun n hn=>(il.ge n (qc4.mp hn).1).2,L0,fun n hn hnw=>?_,Nat.mul_pos I.n0 k1,fun h=>?_,?_⟩
 .
  unfold lfN;rw[I.sum h];have:L*ldQ D (rdy D W lf L) h=qc3 D.W0 fun n=>if n∈rdy D W lf L/\h∈D.ln n then L*(D.wt n:Rat) else 0:=by
   unfold ldQ;rw[<-qf2];refine qbv fun n _=>?_
   try dsimp only
   split<;>grind
  rw[this];have e:(qc3 D.W0 fun n=>if n∉wls W (rdy D W lf L)/\h∈D.ln n then(if n∈rdy D W lf L then L else lv n)*(D.wt n:Rat) else 0)=(qc3 D.W0 fun n=>if n∉W/\h∈D.ln n then lv n*(D.wt n:Rat) else 0)+qc3 D.W0 fun n=>if n∈rdy D W lf L/\h∈D.ln n then L*(D.wt n:Rat) else 0:=by
   rw[<-qf3];refine qbv fun n _=>?_
   try dsimp only
   by_cases c:h∈D.ln n
   .by_cases c2:n∈rdy D W lf L
    .rw[gU ⟨fun z=>(qc4.mp z).2 c2,c⟩,gU c2,gT (fun z=>z.1 (hsub n c2)),gU ⟨c2,c⟩];grind
    .by_cases c3:n∈W
     .rw[gT (fun z=>z.1 (qc4.mpr ⟨c3,c2⟩)),gT (fun z=>z.1 c3),gT (fun z=>c2 z.1)];grind
     .rw[gU ⟨fun z=>c3 (qc4.mp z).1,c⟩,gT c2,gU ⟨c3,c⟩,gT (fun z=>c2 z.1)];grind
   .rw[gT (fun z=>c z.2),gT (fun z=>c z.2),gT (fun z=>c z.2)];grind
  rw[e];grind
 .have h1:=lw n (qc4.mp hn).1 h hl;have s:=spl h;unfold lfN;rw[s] at h1;grind
 .unfold lfN;by_cases c:∃m∈W,h∈D.ln m
  .obtain⟨m,hm,hml⟩:=c;have h1:=lw m hm h hml;have h2:=jl5 ok (wls W (rdy D W lf L)) h;have s:=spl h;have h3:=xT L0 h2;rw[s] at h1;grind
  .have z:ldQ D (rdy D W lf L) h=0:=qej fun m hm hml=>c ⟨m,hsub m hm,hml⟩;have e:=I.nn n hn h hl;have e2:lf h-L*0=lf h:=by clear full keep pos lw spl;grind
   rw[z,e2];exact e
 .by_cases c:n∈rdy D W lf L
  .rw[gU c];obtain⟨nW,c2⟩:=qcz.mp c;refine⟨L0,by grind,(il.ge n nW).2,?_⟩;rcases c2 with⟨h,hl,e⟩|e
   .obtain⟨a1,a2⟩:=full h ⟨n,nW,hl⟩ e;refine .inr ⟨h,hl,a2,fun m hm hml=>(qc4.mp hm).2 (a1 m (qc4.mp hm).1 hml),fun m hm hml=>?_⟩;by_cases c3:m∈rdy D W lf L
    .rw[gU c3];grind
    .rw[gT c3];have hmW:m∉W:=fun z=>c3 (a1 m z hml);have:=(I.st m hm hmW).2.1;grind
   .exact .inl e.symm
  .rw[gT c];have nW:n∉W:=fun z=>hnw (qc4.mpr ⟨z,c⟩);obtain⟨a1,a2,a3,a4⟩:=I.st n hn nW;refine⟨a1,by grind,a3,?_⟩;rcases a4 with e|⟨h,hl,b1,b2,b3⟩
   .exact .inl e
   .refine .inr ⟨h,hl,by rw[keep h b2];exact b1,fun m hm=>b2 m (qc4.mp hm).1,fun m hm hml=>?_⟩;have hmW:m∉W:=fun z=>b2 m z hml;rw[gT (fun z=>hmW (hsub m z))];exact b3 m hm hml
 .obtain⟨z,hz⟩:=qfm (D:=D) (rdy D W lf L) h;unfold lfN;rw[hz];exact((I.dl h).mul k).sub (kv.ints z)
 .have h1:=I.nb;have:N*k<=10000^(7-W.length)*10000:=cE h1 #[];refine vK this ?_;rw[<-Nat.pow_succ];exact wU ∅ #[]
end
structure TrD(d:Ad)(H:Hp)(t:Addr)(S:Ts)(D:Dl):Prop where
 tr:qdv d H t S
 ln:∀n∈D.W0,∃e,S.at n=some e/\True/\jad S n (D.ln n)
theorem TrD.same{d:Ad}{H H':Hp}{t:Addr}{S:Ts}{D:Dl}(h:TrD d H t S D)(s:jab H H'):TrD d H' t S D:=⟨h.tr.same s,h.ln⟩
def qby(W:List Str)(g:Str->Int):Str->Option Int:=fun z=>if z∈W then some (g z) else none
def qbi(h:z∈W):qby W g z=some (g z):=gU h
theorem qch:qby W g z≠none↔z∈W:=by
 unfold qby;by_cases c:z∈W
 .rw[gU c];simp[c]
 .rw[gT c];simp[c]
def qe2{kvs:List (Key×V)}(h:AD kvs (qby W g))(nd:W.Nodup):(qbx kvs).Perm W:=
 (aF h.knd nd).mpr fun z=>by rw[h.kin,qch]
def qgl{ss ss':List Str}(h:ss.Perm ss')(a:vX ss=true)(b:vX ss'=true):ss=ss':=
 List.Perm.eq_of_pairwise (le:=leS) (fun x y _ _ h1 h2=>jj5 h1 h2) (qfd a) (qfd b) h
def Wgh(H:Hp)(S:Ts)(D:Dl)(wv:V):Prop:=(wv=.non/\∀n∈D.W0,∀e,S.at n=some e->e.x.w=D.wt n)\/∃(g tb:Addr)(kt:List (Key×V))(f:Str->Option Int),wv=.ref g/\WgH H g tb/\H tb=some (.dK kt)/\AD kt f/\∀n∈D.W0,f n=some (D.wt n)
theorem Wgh.same{H H':Hp}{S:Ts}{D:Dl}{wv:V}(h:Wgh H S D wv)(s:jab H H'):Wgh H' S D wv:=by
 rcases h with h|⟨g,tb,kt,f,e,⟨cl,cd,w1,w2,w3⟩,ht,ha⟩
 .exact .inl h
 .exact .inr ⟨g,tb,kt,f,e,⟨cl,cd,s _ _ w1,s _ _ w2,s _ _ w3⟩,s _ _ ht,ha⟩
inductive jck(K:uT)(d:Ad)(vs:List V)(H:Hp)(Q:VK)(E:XK):Prop
 |mk(t dw:Addr)(wv:V)(S:Ts)(D:Dl)(kw:List (Key×V))(_:vs=[.ref t,.ref dw,wv])(_:jay D)(_:vX D.W0=true)(_:TrD d H t S D)(_:Wgh H S D wv)(_:H dw=some (.dK kw))(_:AD kw (qby D.W0 D.wa))(_:∀l k' H',jab H H'->H l=none->H' l=some (.dK k')->AD k' (qby D.W0 D.wt)->Q (.ref l) H')
def qer{i:Int}(y:Str):jd6 f z i y=if y=z then some i else f y:=rfl
include T in
theorem waw:jac P w K mg base (My.CX1 P w) 5 d.w5o d.w4j ["tree","wants","weigh"] (jck K d):=by
 exists okX T.w7s w4h
 .right
 obtain⟨t,dw,wv,S,D,kw,rfl,ok,so,hT,hg,hw,hA,q⟩:=h;exists (qa2 (qad (i:=3) w4h.nd rfl (uI rfl) qb1)
  (qa2 (qb2 (qbh rfl rfl) rfl (qb0 (qaf (qck rfl) rfl T.w3q wF #[pv 1])) (qab (i:=4) w4h.nd rfl (uI rfl)) (qa6 (qbg (qav hr) (pv 3) (pv 4) (je1 (qak jg9 (pv 2) qd1 (qau _)) (qas (pv 0) T.w02 T.w13 ((w7d T).mono ∅) hr T.w85 .nil qaj #[pv 4]) (jue jwu hr (i:=2) rfl (uI rfl) #[pv 4])) rfl)))
  (qa6 (qae (pv 3))))),[sr t,sr dw,some (wv),none,none];have ct:=T.w02;have l8:=ok.l8;have kp:=qe2 hA ok.nd;left;rename_i l hl;have s1:=qa5 hl (.dK []);have el:upd H l (.dK []) l=some (.dK []):=qa1;generalize upd H l (.dK [])=H1 at*;refine qep (ss:=qbx kw) (.inl (s1 _ _ hw)) hA.keys (by have:=kp.length_eq;omega) fun ls ss hls hp hs=>?_;have ess:ss=D.W0:=qgl (hp.trans kp) hs so;subst ess;have s2:=s1.trans (qa5 hls (.lst (D.W0.map V.str)));have els:upd H1 ls (.lst (D.W0.map V.str)) ls=some (.lst (D.W0.map V.str)):=qa1;have el2:=qaa (o':=.lst (D.W0.map V.str)) el hls;have hls0:H ls=none:=s1.free hls;generalize upd H1 ls (.lst (D.W0.map V.str))=H2 at*;have nls:l≠ls:=fun e=>by subst e;rw[el] at hls;cases hls
 clear el hls s1;left;refine qbt (xs:=D.W0.map V.str) (fun i σ H'=>∃(k':List (Key×V))(w:Option V),σ=[sr t,sr dw,some wv,sr l,w]/\jab H H'/\H' ls=some (.lst (D.W0.map V.str))/\H' l=some (.dK k')/\AD k' (qby (D.W0.take i) D.wt)/\k'.length<=i) ⟨[],none,rfl,s2,els,el2,AD.nil.cast fun z=>rfl,uG _⟩ ?_ ?_ ?_
 .rintro i σ H' _ ⟨k',w,rfl,_,e,_⟩;exact SqL.of e
 .rintro i v σ H' hv ⟨k',w,rfl,sm,es,ed,hK,hk⟩;rw[zC] at hv;obtain⟨n,hn,rfl⟩:=uK.mp hv;have hi:=(uF.mp hn).1;have hn0:=zG hn;obtain⟨e,ae,ew,_⟩:=hT.ln n hn0;obtain⟨dx,ht⟩:=id (hT.tr.same sm).1;have zk:k'.length<sizeLine:=by show _<16777216;omega
  clear hv;rcases hg.same sm with⟨rfl,hg2⟩|⟨g,tb,kt,ft,rfl,hW,htb,hKt,hft⟩
  .left;refine⟨t,S,.str n,rfl,hT.tr.same sm,.inl ⟨_,rfl⟩,fun e1 he1=>?_,fun hx=>?_⟩
   rotate_left
   .rw[show who S (.str n)=some e from ae] at hx;cases hx
   have ee:e=e1:=uN (ae.symm.trans he1);subst ee;rw[hg2 n hn0 e ae];left;have lput:=qay k' (uH n) (.int (D.wt n));refine⟨_,_,rfl,qb5 sm hl,by rw[qa4 nls.symm];exact es,qa1,(hK.put n (D.wt n)).cast fun z=>?_,#[]⟩;rw[qer];unfold qby;have tk:z∈D.W0.take (i+1)↔z∈D.W0.take i\/z=n:=qar hn z;by_cases c:z=n
   .rw[gU c,gU (tk.mpr (.inr c)),c]
   .rw[gT c];by_cases c2:z∈D.W0.take i
    .rw[gU c2,gU (tk.mpr (.inl c2))]
    .rw[gT c2,gT fun h=>(tk.mp h).elim c2 c]
  .have hWR:=hW;have hRt:Rd H' tb (.dK kt):=.inl htb;left;refine⟨g,tb,rfl,hW,?_⟩;left;refine⟨_,.int (D.wt n),rfl,hW,.inl ⟨kt,.inr n,hRt,rfl,?_⟩,?_⟩
   .rw[hKt.get,hft n hn0];rfl
   left;have lput:=qay k' (uH n) (.int (D.wt n));refine⟨_,_,rfl,qb5 sm hl,by rw[qa4 nls.symm];exact es,qa1,(hK.put n (D.wt n)).cast fun z=>?_,#[]⟩;rw[qer];unfold qby;have tk:z∈D.W0.take (i+1)↔z∈D.W0.take i\/z=n:=qar hn z;by_cases c:z=n
   .rw[gU c,gU (tk.mpr (.inr c)),c]
   .rw[gT c];by_cases c2:z∈D.W0.take i
    .rw[gU c2,gU (tk.mpr (.inl c2))]
    .rw[gT c2,gT fun h=>(tk.mp h).elim c2 c]
 rintro σ H' ⟨k',w,rfl,sm,es,ed,hK,hk⟩;rw[zA,zJ] at hK;left;exact q l k' H' sm hl ed hK
def ldI(D:Dl)(W:List Str)(h:Str):Int:=(W.map fun n=>if h∈D.ln n then D.wt n else 0).sum
open Classical in
noncomputable def ldF(D:Dl)(W:List Str):Str->Option Int:=fun h=>if ∃n∈W,h∈D.ln n then some (ldI D W h) else none
theorem jks(hn:¬∃n∈W,h∈D.ln n):ldI D W h=0:=by
 unfold ldI
 induction W with
 |nil=>rfl
 |cons n W ih=>
  rw[zU,cR,gT fun z=>hn ⟨n,zF ..,z⟩,ih fun⟨m,hm,hl⟩=>hn ⟨m,zD _ hm,hl⟩];rfl
theorem jrw(D:Dl)(W:List Str)(h:Str):gN (ldF D W) h=ldI D W h:=by
 unfold gN ldF;by_cases c:∃n∈W,h∈D.ln n
 .rw[gU c];rfl
 .rw[gT c,jks c];rfl
theorem jiz(D:Dl)(W:List Str)(n h:Str):ldI D (W++[n]) h=ldI D W h+if h∈D.ln n then D.wt n else 0:=by
 unfold ldI;rw[zL,List.sum_append];simp
inductive jeq(K:uT)(d:Ad)(vs:List V)(H:Hp)(Q:VK)(E:XK):Prop
 |mk(t dg lw:Addr)(S:Ts)(D:Dl)(kg:List (Key×V))(W:List Str)(_:vs=[.ref t,.ref dg,.ref lw])(_:jay D)(_:TrD d H t S D)(_:H dg=some (.dK kg))(_:AD kg (qby D.W0 D.wt))(_:H lw=some (.lst (W.map V.str)))(_:(∀n∈W,n∈D.W0))(_:W.length<=7)(_:∀l k' H',jab H H'->H l=none->H' l=some (.dK k')->AD k' (ldF D W)->k'.length<=200->Q (.ref l) H')
include T in
theorem wcq:jac P w K mg base (My.CX1 P w) 6 d.w79 d.w6e ["tree","weights","waiting"] (jeq K d):=by
 exists okX T.w9p w4f
 .right
 obtain⟨t,dg,lw,S,D,kg,W,rfl,ok,hT,hg,hA,hW,sub,w7,q⟩:=h;exists (qa2 (qad (i:=3) w4f.nd rfl (uI rfl) qb1)
  (qa2 (qb2 (qbh rfl rfl) rfl (qb0 (pv 2)) (qab (i:=4) w4f.nd rfl (uI rfl)) (qa6 (qb2 (qbh rfl rfl) rfl (qb0 (qas (pv 0) T.w02 T.w08 ((w0l T).mono ∅) hr T.w0u .nil qaj #[pv 4])) (qab (i:=5) w4f.nd rfl (uI rfl)) (qa6 (qbg (qav hr) (pv 3) (pv 5) (qah qbr (qf4 (qav hr) (pv 3) (pv 5) qa7 ⟨rfl,rfl,rfl,rfl⟩) (pv 1|||pv 4)) rfl)))))
  (qa6 (qae (pv 3))))),[sr t,sr dg,sr lw,none,none,none];have ct:=T.w02;left;rename_i l hl;have s1:=qa5 hl (.dK []);have el:upd H l (.dK []) l=some (.dK []):=qa1;generalize upd H l (.dK [])=H1 at*;have nlw:lw≠l:=qa9 hW hl;have ndg:dg≠l:=qa9 hg hl;refine qbt (xs:=W.map V.str) (fun i σ H'=>∃(k':List (Key×V))(w1 w2:Option V),σ=[sr t,sr dg,sr lw,sr l,w1,w2]/\jab H H'/\H' l=some (.dK k')/\AD k' (ldF D (W.take i))/\k'.length<=20*i) ⟨[],none,none,rfl,s1,el,AD.nil.cast fun z=>?_,uG _⟩ ?_ ?_ ?_
 .unfold ldF;rw[gT fun⟨n,hn,_⟩=>by simp at hn];rfl
 .rintro i σ H' _ ⟨k',w1,w2,rfl,sm,_⟩;exact SqL.of (sm _ _ hW)
 .rintro i v σ H' hv ⟨k',w1,w2,rfl,sm,ed,hK,hk⟩;rw[zC] at hv;obtain⟨n,hn,rfl⟩:=uK.mp hv;have hi:=(uF.mp hn).1;have hn0:=sub n (zG hn);obtain⟨e,ae,ew,hln⟩:=hT.ln n hn0;obtain⟨dx,ht⟩:=id (hT.tr.same sm).1;have lz:=ok.lz n hn0;have lnd:=ok.ld n hn0;have etk:W.take (i+1)=W.take i++[n]:=by rw[zN,hn];rfl
  clear hv;left;refine⟨t,S,.str n,rfl,hT.tr.same sm,.inl ⟨n,_,rfl,hln,#[],fun ll hll=>?_⟩⟩;have s2:=sm.trans (qa5 hll (.lst ((D.ln n).map V.str)));have ell:upd H' ll (.lst ((D.ln n).map V.str)) ll=some (.lst ((D.ln n).map V.str)):=qa1;have ed2:=qaa (o':=.lst ((D.ln n).map V.str)) ed hll;have nll:ll≠l:=fun z=>by subst z;rw[ed] at hll;cases hll
  generalize upd H' ll (.lst ((D.ln n).map V.str))=H2 at*;clear hll ed;left;refine qbt (xs:=(D.ln n).map V.str) (fun j σ H'=>∃(k2:List (Key×V))(w2:Option V),σ=[sr t,sr dg,sr lw,sr l,some (.str n),w2]/\jab H H'/\H' ll=some (.lst ((D.ln n).map V.str))/\H' l=some (.dK k2)/\AD k2 (fun h=>if h∈(D.ln n).take j then some (ldI D (W.take i) h+D.wt n) else ldF D (W.take i) h)/\k2.length<=20*i+j) ⟨k',w2,rfl,s2,ell,ed2,hK.cast fun z=>by simp,#[]⟩ ?_ ?_ ?_
  .rintro j σ H' _ ⟨k2,w2,rfl,_,e,_⟩;exact SqL.of e
  .rintro j v σ H3 hv ⟨k2,w2,rfl,s3,el3,ed3,hK3,hk3⟩;rw[zC] at hv;obtain⟨h,hh,rfl⟩:=uK.mp hv;have hj:=(uF.mp hh).1;have hnt:h∉(D.ln n).take j:=qf7 lnd hh;have hRd:Rd H3 l (.dK k2):=.inl ed3;have hRg:Rd H3 dg (.dK kg):=.inl (s3 _ _ hg);have gl:gN (fun h=>if h∈(D.ln n).take j then some (ldI D (W.take i) h+D.wt n) else ldF D (W.take i) h) h=ldI D (W.take i) h:=by
    unfold gN;dsimp only;rw[gT hnt];exact jrw D (W.take i) h
   have gw:qby D.W0 D.wt n=some (D.wt n):=qbi hn0;have zk:k2.length<sizeLine:=by show _<16777216;omega
   clear hv;left;rw[gl];have lput:=qay k2 (uH h) (.int (ldI D (W.take i) h+D.wt n));refine⟨_,_,rfl,qb5 s3 hl,by rw[qa4 nll];exact el3,qa1,(hK3.put h _).cast fun z=>?_,#[]⟩;rw[qer];have tk:z∈(D.ln n).take (j+1)↔z∈(D.ln n).take j\/z=h:=qar hh z;by_cases c:z=h
   .rw[gU c,gU (tk.mpr (.inr c)),c]
   .rw[gT c];by_cases c2:z∈(D.ln n).take j
    .rw[gU c2,gU (tk.mpr (.inl c2))]
    .rw[gT c2,gT fun h'=>(tk.mp h').elim c2 c]
  .rintro σ H3 ⟨k2,w2',rfl,s3,el3,ed3,hK3,hk3⟩;rw[zA,zJ] at hK3;refine⟨k2,_,_,rfl,s3,ed3,hK3.cast fun z=>?_,by rw[zA] at hk3;omega⟩;rw[etk];unfold ldF;rw[jiz];by_cases c:z∈D.ln n
   .rw[gU c,gU ⟨n,zI _ (zE.mpr rfl),c⟩,gU c]
   .rw[gT c,gT c,Int.add_zero];by_cases c2:∃m∈W.take i,z∈D.ln m
    .obtain⟨m,hm,hml⟩:=c2;rw[gU ⟨m,hm,hml⟩,gU ⟨m,zP _ hm,hml⟩]
    .rw[gT c2,gT ?_];rintro⟨m,hm,hml⟩;rcases zM.mp hm with h|h
     .exact c2 ⟨m,h,hml⟩
     .have:m=n:=by simpa using h
      exact c (this▸hml)
 .rintro σ H' ⟨k',w1,w2,rfl,sm,ed,hK,hk⟩;rw[zA,zJ] at hK;left;exact q l k' H' sm hl ed hK (by rw[zA] at hk;omega)
def FrL(H:Hp)(ps:List (Addr×Rat)):Prop:=∀p∈ps,qbf H p.1 p.2/\RB p.2
def wc7(K:uT)(d:Ad):Sp:=fun vs H Q _=>∃(lm:Addr)(ps:List (Addr×Rat)),vs=[.ref lm]/\H lm=some (.lst (ps.map fun p=>V.ref p.1))/\FrL H ps/\ps≠ []/\∀p∈ps,(∀p'∈ps,p.2<=p'.2)->Q (.ref p.1) H
include T in
theorem wd4:jac P w K mg base CX0 2 d.w7g d.w68 ["many"] (wc7 K d):=by
 exists T.w9u.ok w4r
 .right
 obtain⟨lm,ps,rfl,hl,hf,ne,q⟩:=h;exists (qa2 (qad (i:=1) w4r.nd rfl (uI rfl) (qam qaq (pv 0) qa7 nofun))
  (qa2 (qb2 vM rfl (qb0 (pv 0)) (qab (i:=2) w4r.nd rfl (uI rfl)) (qa6 (qdg (qb8 (qbj (qag ((wa3 T).mono ∅) hr rfl T.wcj T.wau.kp T.wdi .nil qaz #[pv 2,pv 1])) (qa6 (qad (i:=1) w4r.nd rfl (uI rfl) (pv 2))) qap))))
  (qa6 (qae (pv 1))))),[sr lm,none,none];have l0:0<ps.length:=bW.mpr ne;have x0:atI (ps.map fun p=>V.ref p.1) 0=some (.ref ps[0].1):=qbp (j:=0) (by rw[zC,zB l0];rfl);left;refine qc7 (SqL.of hl) x0 ?_;left;refine qbt (xs:=ps.map fun p=>V.ref p.1) (fun i σ H'=>∃(p:Addr×Rat)(w:Option V),σ=[sr lm,sr p.1,w]/\H'=H/\p∈ps/\∀p'∈ps.take i,p.2<=p'.2) ⟨ps[0],none,rfl,rfl,yB l0,fun p' h=>by simp at h⟩ ?_ ?_ ?_
 .rintro i σ H' _ ⟨p,w,rfl,rfl,_⟩;exact SqL.of hl
 .rintro i v σ H' hv ⟨p,w,rfl,rfl,hp,hle⟩;rw[zC] at hv;obtain⟨p',hp',rfl⟩:=uK.mp hv;have hm':=zG hp';have tk:∀x∈ps.take (i+1),x∈ps.take i\/x=p':=fun x hx=>by
   rw[zN,hp'] at hx;rcases zM.mp hx with h|h
   .exact .inl h
   .exact .inr (by simpa using h)
  clear hv;left;refine qff ?_;left;refine⟨p'.1,p.1,p'.2,p.2,rfl,(hf p' hm').1,(hf p hp).1,(hf p' hm').2,(hf p hp).2,?_⟩;by_cases c:p'.2<p.2
  .rw[gW c];left;refine⟨p',_,rfl,rfl,hm',fun x hx=>?_⟩;rcases tk x hx with h|rfl
   .have:=hle x h;grind
   .grind
  .rw[gX c];left;refine⟨p,_,rfl,rfl,hp,fun x hx=>?_⟩;rcases tk x hx with h|rfl
   .exact hle x h
   .grind
 .rintro σ H' ⟨p,w,rfl,rfl,hp,hle⟩;rw[zA,zJ] at hle;left;exact q p hp hle
structure FD(H:Hp)(kvs:List (Key×V))(φ:Str->Option Rat):Prop where
 nd:(kvs.map (·.1)).Nodup
 sh:∀p∈kvs,∃z a q,p=(uH z,V.ref a)/\qbf H a q/\φ z=some q
 no:∀z,φ z=none->qci kvs (uH z)=none
 get:∀z q,φ z=some q->∃a,qci kvs (uH z)=some (.ref a)/\qbf H a q
def qb4(H H':Hp):Prop:=∀a xs,H a=some (.tup xs)->H' a=some (.tup xs)
def qb4.of(s:jab H H'):qb4 H H':=fun a xs h=>s _ _ h
theorem qb4.upd{o u:HO}(h:H a=some u)(n:∀xs,u≠ .tup xs):qb4 H (L2.upd H a o):=fun b xs hb=>by
 rw[qa4 (fun e=>by subst e;rw[h] at hb;exact n xs (uN hb))];exact hb
def qb4.trans{H'':Hp}(h:qb4 H H')(h':qb4 H' H''):qb4 H H'':=fun a xs e=>h' _ _ (h _ _ e)
def FD.nil:FD H [] (fun _=>none):=⟨yG,fun p hp=>absurd hp (by simp),fun z _=>rfl,fun z q h=>by cases h⟩
theorem FD.t{kvs:List (Key×V)}(h:FD H kvs φ)(t:qb4 H H'):FD H' kvs φ:=⟨h.nd,fun p hp=>by
 obtain⟨z,a,q,e1,e2,e3⟩:=h.sh p hp;exact⟨z,a,q,e1,t _ _ e2,e3⟩,h.no,fun z q e=>by
 obtain⟨a,e1,e2⟩:=h.get z q e;exact⟨a,e1,t _ _ e2⟩⟩
theorem FD.cast{kvs:List (Key×V)}{ψ:Str->Option Rat}(h:FD H kvs φ)(e:∀z,φ z=ψ z):FD H kvs ψ:=by
 rw[show ψ=φ from funext fun z=>(e z).symm];exact h
theorem FD.put{kvs:List (Key×V)}(h:FD H kvs φ)(z:Str){a:Addr}{q:Rat}(ha:qbf H a q):FD H (qbl kvs (uH z) (.ref a)) (fun y=>if y=z then some q else φ y):=by
 refine⟨?_,fun p hp=>?_,fun y hy=>?_,fun y r hy=>?_⟩
 .cases c:qci kvs (uH z) with
  |none=>exact jd5 _ h.nd c
  |some v=>rw[qea (by rw[c];simp)];exact h.nd
 .have hd:((qbl kvs (uH z) (.ref a)).map (·.1)).Nodup:=by
   cases c:qci kvs (uH z) with
   |none=>exact jd5 _ h.nd c
   |some v=>rw[qea (by rw[c];simp)];exact h.nd
  rcases jfg hp with rfl|hp'
  .exact⟨z,a,q,rfl,ha,gU rfl⟩
  .obtain⟨y,b,r,e1,e2,e3⟩:=h.sh p hp';by_cases c:y=z
   .subst c;have hv:qci (qbl kvs (uH y) (.ref a)) (uH y)=some (.ref a):=by rw[qf0,gU rfl]
    have hv2:=qfb hd (k:=uH y) (v:=.ref b) (by rw[<-e1];exact hp);rw[hv] at hv2;have:a=b:=by injection hv2 with h1;injection h1
    subst this;exact⟨y,a,q,e1,ha,gU rfl⟩
   .exact⟨y,b,r,e1,e2,by rw[gT c];exact e3⟩
 .by_cases c:y=z
  .rw[gU c] at hy;cases hy
  .rw[gT c] at hy;rw[qf0,gT (fun e=>c (yY e))];exact h.no y hy
 .rw[qf0];by_cases c:y=z
  .rw[gU c] at hy
   cases hy
   exact⟨a,by rw[gU (by rw[c])],ha⟩
  .rw[gT c] at hy;rw[gT (fun e=>c (yY e))];exact h.get y r hy
theorem qeq{kvs:List (Key×V)}(d:Rd H a (.dK kvs))(A:FD H kvs φ)(e:φ z=some q)(h:∀b,qbf H b q->Q (.ref b) H):jsi (.ref a) (.str z) H Q:=by
 obtain⟨b,e1,e2⟩:=A.get z q e;exact⟨a,.ref b,rfl,.inl ⟨kvs,uH z,d,rfl,e1.symm⟩,h b e2⟩
theorem FD.at{kvs:List (Key×V)}(h:FD H kvs φ){i:Nat}{k:Key}{v:V}(e:kvs[i]?=some (k,v)):∃z a q,k=uH z/\v=.ref a/\qbf H a q/\φ z=some q:=by
 obtain⟨z,a,q,e1,e2,e3⟩:=h.sh _ (zG e);injection e1 with a1 a2
 exact⟨z,a,q,a1,a2,e2,e3⟩
def qel{z:Int}(h:H a=some (.tup [.int z,.int 1])):qbf H a (z:Rat):=h
def jdf{z:Int}(h:z.natAbs<2^290):RB (z:Rat):=⟨h,by show 1<2^290;decide⟩
def qdt(W:List Str)(g:Str->Rat):Str->Option Rat:=fun z=>if z∈W then some (g z) else none
def fsD(t dg lw dl dgo:Addr):List (Str×V):=[("tree",.ref t),("weights",.ref dg),("waiting",.ref lw),("left",.ref dl),("goals",.ref dgo)]
def fs2(t dg:Addr):List (Str×V):=[("tree",.ref t),("weights",.ref dg)]
def fs3(t dg lw:Addr):List (Str×V):=[("tree",.ref t),("weights",.ref dg),("waiting",.ref lw)]
def fs4(t dg lw dl:Addr):List (Str×V):=[("tree",.ref t),("weights",.ref dg),("waiting",.ref lw),("left",.ref dl)]
def Sb2(x y:Addr)(H H':Hp):Prop:=∀b u,b≠x->b≠y->H b=some u->H' b=some u
def Sb2.same{x y:Addr}{H H' H'':Hp}(s:Sb2 x y H H')(s':jab H' H''):Sb2 x y H H'':=fun b u n1 n2 e=>s' _ _ (s b u n1 n2 e)
inductive jb9(K:uT)(d:Ad)(vs:List V)(H:Hp)(Q:VK)(E:XK):Prop
 |mk(x dx t dr dw dg:Addr)(D:Dl)(HS:List Str)(kr kw kg:List (Key×V))(_:vs=[.ref x,.ref t,.ref dr,.ref dw,.ref dg])(_:H x=some (.ins d.w00 dx []))(_:jay D)(_:vX D.W0=true)(_:H dr=some (.dK kr))(_:AD kr (qby HS D.rm))(_:HS.Nodup)(_:HS.length<=60)(_:H dw=some (.dK kw))(_:AD kw (qby D.W0 D.wa))(_:H dg=some (.dK kg))(_:AD kg (qby D.W0 D.wt))(_:dg≠dw)(_:∀(lw dl dgo:Addr)(kl kgo:List (Key×V)) H',SameBut x H H'->H lw=none->H dl=none->H dgo=none->dl≠dgo->H' x=some (.ins d.w00 dx (fsD t dg lw dl dgo))->H' lw=some (.lst (D.W0.map V.str))->H' dl=some (.dK kl)->FD H' kl (qdt HS fun h=>(D.rm h:Rat))->kl.length<=60->H' dgo=some (.dK kgo)->FD H' kgo (qdt D.W0 (goQ D))->Q .non H')
include T in
theorem w9a:jac P w K mg base (My.CX1 P w) 4 d.w3z d.w3f ["self","tree","rooms","wants","weights"] (jb9 K d):=by
 exists okX T.w9g w37
 .right
 obtain⟨x,dx,t,dr,dw,dg,D,HS,kr,kw,kg,rfl,hx,ok,so,hr0,hrA,hnd,h60,hw,hwA,hg,hgA,ngd,q⟩:=h;exists (qa2 (qc9 (pv 0) (pv 1) rfl)
  (qa2 (qc9 (pv 0) (pv 4) rfl)
  (qa2 (qc9 (pv 0) (qaf (qck rfl) rfl T.w3q wF #[pv 3]) rfl)
  (qa2 (qc9 (pv 0) qb1 rfl)
  (qa2 (qc9 (pv 0) qb1 rfl)
  (qa2 (qec (qb2 (qbh rfl rfl) rfl (qcy (pv 2)) (qab (i:=5) w37.nd rfl (uI rfl)) (qa6 (qbg (qav hr) (qax (pv 0) rfl) (pv 5) (qcc #[pv 2|||pv 5,qa7]) rfl))))
  (qa6 (qec (qb2 (qbh rfl rfl) rfl (qcy (pv 3)) (qab (i:=6) w37.nd rfl (uI rfl)) (qa6 (qbg (qav hr) (qax (pv 0) rfl) (pv 6) (qaw ((w3b T).mono ∅) hr rfl T.w46 T.w36.kp T.w44 .nil qaj #[pv 3|||pv 6,pv 4|||pv 6]) rfl))))))))))),[sr x,sr t,sr dr,sr dw,sr dg,none,none];have cl:=T.w0h;have n1:qao K d.w00 "tree":=T.w0f;have n2:qao K d.w00 "weights":=T.w0b;have n3:qao K d.w00 "waiting":=T.w04;have n4:qao K d.w00 "left":=T.w0p;have n5:qao K d.w00 "goals":=T.w0j;have l8:=ok.l8;have kp:=qe2 hwA ok.nd;have kpr:=qe2 hrA hnd;have nxw:dw≠x:=fun e=>by subst e;rw[hx] at hw;cases hw
 have nxr:dr≠x:=fun e=>by subst e;rw[hx] at hr0;cases hr0
 have nxg:dg≠x:=fun e=>by subst e;rw[hx] at hg;cases hg
 left;refine qdx qa1 cl n2 (by show 1<1000;decide) ?_;have ef:qds "weights" (.ref dg) (qds "tree" (.ref t) [])=(fs2 t dg):=rfl;rw[ef,qcx];have sb1:SameBut x H (upd H x (.ins d.w00 dx (fs2 t dg))):=fun b u hb e=>by rw[qa4 hb];exact e
 have ex1:upd H x (.ins d.w00 dx (fs2 t dg)) x=some (.ins d.w00 dx (fs2 t dg)):=qa1;have fr1:∀b,upd H x (.ins d.w00 dx (fs2 t dg)) b=none->H b=none:=fun b hb=>by
  by_cases c:b=x
  .subst c;rw[qa1] at hb;cases hb
  .rw[qa4 c] at hb;exact hb
 generalize upd H x (.ins d.w00 dx (fs2 t dg))=H1 at*;have hw1:=sb1 _ _ nxw hw;left;refine qep (ss:=qbx kw) (.inl hw1) hwA.keys (by have:=kp.length_eq;omega) fun lw ss hlw hp hs=>?_;have ess:ss=D.W0:=qgl (hp.trans kp) hs so;subst ess;have s2:=qa5 hlw (.lst (D.W0.map V.str));have ew2:upd H1 lw (.lst (D.W0.map V.str)) lw=some (.lst (D.W0.map V.str)):=qa1;have flw:=fr1 lw hlw;generalize upd H1 lw (.lst (D.W0.map V.str))=H2 at*;have ex2:=s2 _ _ ex1;have nlx:lw≠x:=fun e=>by subst e;rw[ex1] at hlw;cases hlw
 left;refine qdx ex2 cl n3 (by show 2<1000;decide) ?_;rw[show qds "waiting" (.ref lw) (fs2 t dg)=(fs3 t dg lw) from rfl];have sb3:SameBut x H (upd H2 x (.ins d.w00 dx (fs3 t dg lw))):=fun b u hb e=>by rw[qa4 hb];exact s2 _ _ (sb1 _ _ hb e)
 have ex3:upd H2 x (.ins d.w00 dx (fs3 t dg lw)) x=some (.ins d.w00 dx (fs3 t dg lw)):=qa1;have ew3:upd H2 x (.ins d.w00 dx (fs3 t dg lw)) lw=some (.lst (D.W0.map V.str)):=by rw[qa4 nlx];exact ew2
 have fr3:∀b,upd H2 x (.ins d.w00 dx (fs3 t dg lw)) b=none->H b=none:=fun b hb=>by
  by_cases c:b=x
  .subst c;rw[qa1] at hb;cases hb
  .rw[qa4 c] at hb;exact fr1 b (s2.free hb)
 generalize upd H2 x (.ins d.w00 dx (fs3 t dg lw))=H3 at*;clear ex1 ex2 s2 sb1 fr1 hlw ew2 hw1;left;rename_i dl hdl;have s4:=qa5 hdl (.dK []);have el4:upd H3 dl (.dK []) dl=some (.dK []):=qa1;have fdl:=fr3 dl hdl;generalize upd H3 dl (.dK [])=H4 at*;have ex4:=s4 _ _ ex3;have ndx:dl≠x:=fun e=>by subst e;rw[ex3] at hdl;cases hdl
 refine qdx ex4 cl n4 (by show 3<1000;decide) ?_;rw[show qds "left" (.ref dl) (fs3 t dg lw)=(fs4 t dg lw dl) from rfl];have sb5:SameBut x H (upd H4 x (.ins d.w00 dx (fs4 t dg lw dl))):=fun b u hb e=>by rw[qa4 hb];exact s4 _ _ (sb3 _ _ hb e)
 have ex5:upd H4 x (.ins d.w00 dx (fs4 t dg lw dl)) x=some (.ins d.w00 dx (fs4 t dg lw dl)):=qa1;have ew5:upd H4 x (.ins d.w00 dx (fs4 t dg lw dl)) lw=some (.lst (D.W0.map V.str)):=by rw[qa4 nlx];exact s4 _ _ ew3
 have el5:upd H4 x (.ins d.w00 dx (fs4 t dg lw dl)) dl=some (.dK []):=by rw[qa4 ndx];exact el4
 have fr5:∀b,upd H4 x (.ins d.w00 dx (fs4 t dg lw dl)) b=none->H b=none:=fun b hb=>by
  by_cases c:b=x
  .subst c;rw[qa1] at hb;cases hb
  .rw[qa4 c] at hb;exact fr3 b (s4.free hb)
 generalize upd H4 x (.ins d.w00 dx (fs4 t dg lw dl))=H5 at*;clear ex3 ex4 s4 sb3 fr3 hdl ew3 el4;left;rename_i dgo hdgo;have s6:=qa5 hdgo (.dK []);have eg6:upd H5 dgo (.dK []) dgo=some (.dK []):=qa1;have fdgo:=fr5 dgo hdgo;generalize upd H5 dgo (.dK [])=H6 at*;have ex6:=s6 _ _ ex5;have ngx:dgo≠x:=fun e=>by subst e;rw[ex5] at hdgo;cases hdgo
 have ngl:dl≠dgo:=fun e=>by subst e;rw[el5] at hdgo;cases hdgo
 refine qdx ex6 cl n5 (by show 4<1000;decide) ?_;rw[show qds "goals" (.ref dgo) (fs4 t dg lw dl)=fsD t dg lw dl dgo from rfl];have sb7:SameBut x H (upd H6 x (.ins d.w00 dx (fsD t dg lw dl dgo))):=fun b u hb e=>by rw[qa4 hb];exact s6 _ _ (sb5 _ _ hb e)
 have ex7:upd H6 x (.ins d.w00 dx (fsD t dg lw dl dgo)) x=some (.ins d.w00 dx (fsD t dg lw dl dgo)):=qa1;have ew7:upd H6 x (.ins d.w00 dx (fsD t dg lw dl dgo)) lw=some (.lst (D.W0.map V.str)):=by rw[qa4 nlx];exact s6 _ _ ew5
 have el7:upd H6 x (.ins d.w00 dx (fsD t dg lw dl dgo)) dl=some (.dK []):=by rw[qa4 ndx];exact s6 _ _ el5
 have eg7:upd H6 x (.ins d.w00 dx (fsD t dg lw dl dgo)) dgo=some (.dK []):=by rw[qa4 ngx];exact eg6
 have fr7:∀b,upd H6 x (.ins d.w00 dx (fsD t dg lw dl dgo)) b=none->H b=none:=fun b hb=>by
  by_cases c:b=x
  .subst c;rw[qa1] at hb;cases hb
  .rw[qa4 c] at hb;exact fr5 b (s6.free hb)
 generalize upd H6 x (.ins d.w00 dx (fsD t dg lw dl dgo))=H7 at*;clear ex5 ex6 s6 sb5 fr5 hdgo ew5 el5 eg6;have hr7:=sb7 _ _ nxr hr0;have nlr:dl≠dr:=fun e=>by subst e;rw[fdl] at hr0;cases hr0
 have ngr:dgo≠dr:=fun e=>by subst e;rw[fdgo] at hr0;cases hr0
 have nwr:lw≠dr:=fun e=>by subst e;rw[flw] at hr0;cases hr0
 left;refine qg1 hr7 fun o=>?_;refine qen (fun i σ H'=>∃(kl:List (Key×V))(w1 w2:Option V),σ=[sr x,sr t,sr dr,sr dw,sr dg,w1,w2]/\Sb2 dr dl H7 H'/\H' dr=some (.frz o (.dK kr))/\H' dl=some (.dK kl)/\FD H' kl (qdt ((qbx kr).take i) fun h=>(D.rm h:Rat))/\kl.length<=i)
  ⟨[],none,none,rfl,fun b u n1 _ e=>by rw[qa4 n1];exact e,qa1,by rw[qa4 nlr];exact el7,FD.nil.cast fun z=>rfl,uG _⟩ ?_ ?_ ?_
 .rintro i σ H' _ ⟨kl,w1,w2,rfl,sb,fz,_⟩;exact fz
 .rintro i k v σ H' hk ⟨kl,w1,w2,rfl,sb,fz,el,hF,hlen⟩;obtain⟨z,n,rfl,rfl,hf,hzi⟩:=hrA.at hk;have hi:i<kr.length:=(uF.mp hk).1;have hRd:Rd H' dr (.dK kr):=.inr ⟨o,fz⟩;have ex':=sb _ _ nxr.symm ndx.symm ex7;have hz:z∈HS:=qch.mp (by rw[hf];simp);have en:n=D.rm z:=by rw[qbi hz] at hf;exact(uN hf).symm
  have jo1:kr.length<=60:=by have:=kpr.length_eq;rw[hrA.klen] at this;omega
  have zl:kl.length<sizeLine:=by show _<16777216;omega
  show qek _ (.str z) _ _ _;left;rename_i tp htp;have ntl:tp≠dl:=fun e=>by subst e;rw[el] at htp;cases htp
  have lput:=qay kl (uH z) (.ref tp);have t1:qb4 H' (upd H' tp (.tup [V.int n,V.int 1])):=qb4.of (qa5 htp _);have t2:qb4 (upd H' tp (.tup [V.int n,V.int 1])) (upd (upd H' tp (.tup [V.int n,V.int 1])) dl (.dK (qbl kl (uH z) (.ref tp)))):=qb4.upd (u:=.dK kl) (by rw[qa4 ntl.symm];exact el) fun xs e=>by cases e
  have hfr:qbf (upd H' tp (.tup [V.int n,V.int 1])) tp ((n:Int):Rat):=qel qa1;refine⟨_,_,_,rfl,fun b u n1 n2 e=>by rw[qa4 n2];exact qaa (sb b u n1 n2 e) htp,by rw[qa4 nlr.symm];exact qaa fz htp,qa1,(((hF.t t1).put z hfr).t t2).cast fun y=>?_,#[]⟩;unfold qdt;have tk:y∈(qbx kr).take (i+1)↔y∈(qbx kr).take i\/y=z:=qar hzi y;by_cases c:y=z
  .rw[gU c,gU (tk.mpr (.inr c)),c,en]
  .rw[gT c];by_cases c2:y∈(qbx kr).take i
   .rw[gU c2,gU (tk.mpr (.inl c2))]
   .rw[gT c2,gT fun h'=>(tk.mp h').elim c2 c]
 rintro σ H' ⟨kl,w1,w2,rfl,sb,fz,el,hF,hlen⟩;refine qe9 (qg0 fz (qcg hr0)) ?_;have jo1:kr.length<=60:=by have:=kpr.length_eq;rw[hrA.klen] at this;omega
 rw[<-hrA.klen,zJ] at hF;have e8:upd H' dr (.dK kr) dr=some (.dK kr):=qa1;have sb8:∀b u,b≠dl->H7 b=some u->upd H' dr (.dK kr) b=some u:=fun b u n2 e=>by
  by_cases c:b=dr
  .subst c;rw[qa1,<-hr7];exact e
  .rw[qa4 c];exact sb b u c n2 e
 have el8:upd H' dr (.dK kr) dl=some (.dK kl):=by rw[qa4 nlr];exact el
 have hF8:FD (upd H' dr (.dK kr)) kl (qdt HS fun h=>(D.rm h:Rat)):=(hF.t (qb4.upd fz fun xs e=>by cases e)).cast fun z=>by
  unfold qdt;by_cases c:z∈HS
  .rw[gU c,gU (kpr.mem_iff.mpr c)]
  .rw[gT c,gT fun h=>c (kpr.mem_iff.mp h)]
 have fr8:∀b,upd H' dr (.dK kr) b=none->H7 b=none\/b=dl:=fun b hb=>by
  by_cases c:b=dl
  .exact .inr c
  .refine .inl ?_
   cases e:H7 b with
   |none=>rfl
   |some u=>rw[sb8 b u c e] at hb;cases hb
 generalize upd H' dr (.dK kr)=H8 at*;clear sb fz el hF e8 hr7;have hw8:=sb8 _ _ (fun e=>by subst e;rw[fdl] at hw;cases hw) (sb7 _ _ nxw hw);have hg8:=sb8 _ _ (fun e=>by subst e;rw[fdl] at hg;cases hg) (sb7 _ _ nxg hg);have ex8:=sb8 _ _ ndx.symm ex7;have ew8:=sb8 _ _ (fun e=>by subst e;rw[ew7] at el7;cases el7) ew7;have eg8:=sb8 _ _ ngl.symm eg7;clear ex7 ew7 eg7 el7;have ngw:dgo≠dw:=fun e=>by subst e;rw[fdgo] at hw;cases hw
 have ngg:dgo≠dg:=fun e=>by subst e;rw[fdgo] at hg;cases hg
 left;refine qg1 hw8 fun o=>?_;refine qen (fun i σ H'=>∃(kgo:List (Key×V))(w1 w2:Option V),σ=[sr x,sr t,sr dr,sr dw,sr dg,w1,w2]/\Sb2 dw dgo H8 H'/\H' dw=some (.frz o (.dK kw))/\H' dgo=some (.dK kgo)/\FD H' kgo (qdt ((qbx kw).take i) (goQ D))/\kgo.length<=i)
  ⟨[],_,_,rfl,fun b u n1 _ e=>by rw[qa4 n1];exact e,qa1,by rw[qa4 ngw];exact eg8,FD.nil.cast fun z=>rfl,uG _⟩ ?_ ?_ ?_
 .rintro i σ H' _ ⟨kgo,w1,w2,rfl,sb,fz,_⟩;exact fz
 .rintro i k v σ H' hk ⟨kgo,w1,w2,rfl,sb,fz,eg,hF,hlen⟩;obtain⟨z,n,rfl,rfl,hf,hzi⟩:=hwA.at hk;have hi:i<kw.length:=(uF.mp hk).1;have hRd:Rd H' dw (.dK kw):=.inr ⟨o,fz⟩;have hz:z∈D.W0:=qch.mp (by rw[hf];simp);have en:n=D.wa z:=by rw[qbi hz] at hf;exact(uN hf).symm
  have gw:qby D.W0 D.wt z=some (D.wt z):=qbi hz;have hRg:Rd H' dg (.dK kg):=.inl (sb _ _ ngd ngg.symm hg8);have ex':=sb _ _ nxw.symm ngx.symm ex8;have kw7:kw.length<=7:=by have:=kp.length_eq;rw[hwA.klen] at this;omega
  have zl:kgo.length<sizeLine:=by show _<16777216;omega
  have wa1:=ok.w1 z hz;have wa2:=ok.w2 z hz;have wn:D.wt z≠0:=by omega
  have wb:(D.wt z).natAbs<2^600:=vI (show(D.wt z).natAbs<=1000 by omega) ∅;subst en;show qek _ (.str z) _ _ _;left;refine⟨_,_,rfl,wb,wn,fun tp htp=>?_⟩;have s1:=qa5 htp (frO ((D.wa z:Rat) /(D.wt z:Rat)));have hfr:qbf (upd H' tp (frO ((D.wa z:Rat) /(D.wt z:Rat)))) tp (goQ D z):=qa1;have eg1:=s1 _ _ eg;have ex1:=s1 _ _ ex';have fz1:=s1 _ _ fz;have t1:qb4 H' (upd H' tp (frO ((D.wa z:Rat) /(D.wt z:Rat)))):=qb4.of s1;have sb1:=sb.same s1;generalize upd H' tp (frO ((D.wa z:Rat) /(D.wt z:Rat)))=H9 at*;left;have lput:=qay kgo (uH z) (.ref tp);have t2:qb4 H9 (upd H9 dgo (.dK (qbl kgo (uH z) (.ref tp)))):=qb4.upd eg1 fun xs e=>by cases e
  refine⟨_,_,_,rfl,fun b u n1 n2 e=>by rw[qa4 n2];exact sb1 b u n1 n2 e,by rw[qa4 ngw.symm];exact fz1,qa1,(((hF.t t1).put z hfr).t t2).cast fun y=>?_,#[]⟩;unfold qdt;have tk:y∈(qbx kw).take (i+1)↔y∈(qbx kw).take i\/y=z:=qar hzi y;by_cases c:y=z
  .rw[gU c,gU (tk.mpr (.inr c)),c]
  .rw[gT c];by_cases c2:y∈(qbx kw).take i
   .rw[gU c2,gU (tk.mpr (.inl c2))]
   .rw[gT c2,gT fun h'=>(tk.mp h').elim c2 c]
 rintro σ H' ⟨kgo,w1,w2,rfl,sb,fz,eg,hF,hlen⟩;refine qe9 (qg0 fz (qcg hw)) ?_;rw[<-hwA.klen,zJ] at hF;have sb9:∀b u,b≠dgo->H8 b=some u->upd H' dw (.dK kw) b=some u:=fun b u n2 e=>by
  by_cases c:b=dw
  .subst c;rw[qa1,<-hw8];exact e
  .rw[qa4 c];exact sb b u c n2 e
 have nlw:dl≠dw:=fun e=>by subst e;rw[fdl] at hw;cases hw
 have t3:qb4 H8 (upd H' dw (.dK kw)):=fun a xs e=>sb9 a _ (fun z=>by subst z;rw[eg8] at e;cases e) e;have nlg:lw≠dgo:=fun e=>by subst e;rw[ew8] at eg8;cases eg8
 refine q lw dl dgo kl kgo _ (fun b u hb e=>?_) flw fdl fdgo ngl (sb9 _ _ ngx.symm ex8) (sb9 _ _ nlg ew8) (sb9 _ _ ngl el8) (hF8.t t3) #[] (by rw[qa4 ngw];exact eg) ((hF.t (qb4.upd fz fun xs e=>by cases e)).cast fun z=>?_)
 .refine sb9 b u (fun z=>by subst z;rw[fdgo] at e;cases e) (sb8 b u (fun z=>by subst z;rw[fdl] at e;cases e) (sb7 b u hb e))
 .unfold qdt;by_cases c:z∈D.W0
  .rw[gU c,gU (kp.mem_iff.mpr c)]
  .rw[gT c,gT fun h=>c (kp.mem_iff.mp h)]
structure jdq(d:Ad)(H:Hp)(de t dg lw dl dgo:Addr)(S:Ts)(D:Dl)(HS:List Str)(kg kl kgo:List (Key×V))(W:List Str)(lf:Str->Rat):Prop where
 ob:∃dx,H de=some (.ins d.w00 dx (fsD t dg lw dl dgo))
 tz:∃H0,jab H0 H/\H0 de=none/\H0 dl=none/\TrD d H0 t S D
 g:H dg=some (.dK kg)
 gA:AD kg (qby D.W0 D.wt)
 w:H lw=some (.lst (W.map V.str))
 l:H dl=some (.dK kl)
 lA:FD H kl (qdt HS lf)
 lz:kl.length<=60
 go:H dgo=some (.dK kgo)
 goA:FD H kgo (qdt D.W0 (goQ D))
 nlg:dl≠dgo
 nld:dl≠dg
 hs:∀n∈D.W0,∀h∈D.ln n,h∈HS
def jdq.tr{d:Ad}{de t dg lw dl dgo:Addr}{HS:List Str}{kg kl kgo:List (Key×V)}(h:jdq d H de t dg lw dl dgo S D HS kg kl kgo W lf):TrD d H t S D:=h.tz.elim fun _ z=>z.2.2.2.same z.1
def jdq.same{d:Ad}{H H':Hp}{de t dg lw dl dgo:Addr}{S:Ts}{D:Dl}{HS:List Str}{kg kl kgo:List (Key×V)}{W:List Str}{lf:Str->Rat}(h:jdq d H de t dg lw dl dgo S D HS kg kl kgo W lf)(s:jab H H'):jdq d H' de t dg lw dl dgo S D HS kg kl kgo W lf:=
 ⟨h.ob.elim fun dx e=>⟨dx,s _ _ e⟩,h.tz.elim fun H0 z=>⟨H0,z.1.trans s,z.2⟩,s _ _ h.g,h.gA,s _ _ h.w,s _ _ h.l,h.lA.t (qb4.of s),h.lz,s _ _ h.go,h.goA.t (qb4.of s),h.nlg,h.nld,h.hs⟩
open Classical in
noncomputable def flF(D:Dl)(W:List Str)(lf:Str->Rat):Str->Option Rat:=fun h=>if ∃n∈W,h∈D.ln n then some (lf h /(ldI D W h:Rat)) else none
def qce{g:Str->Rat}(h:z∈W):qdt W g z=some (g z):=gU h
theorem jn9(ok:jay D){W:List Str}(sub:∀n∈W,n∈D.W0){h:Str}(hn:∃n∈W,h∈D.ln n):1<=ldI D W h:=by
 have nn:∀V:List Str,(∀n∈V,n∈D.W0)->0<=ldI D V h:=fun V=>by
  unfold ldI
  induction V with
  |nil=>intro _;exact Int.le_refl _
  |cons m V ih=>
   intro hs;rw[zU,cR];have:=ih fun n hn=>hs n (zD _ hn);have:=ok.w1 m (hs m (zF ..))
   split<;>omega
 induction W with
 |nil=>obtain⟨n,hn,_⟩:=hn;simp at hn
 |cons m W ih=>
  have h0:=nn W fun n hn=>sub n (zD _ hn);have hw:=ok.w1 m (sub m (zF ..));unfold ldI at h0 ih⊢;rw[zU,cR];by_cases c:h∈D.ln m
  .rw[gU c];omega
  .rw[gT c];have:=ih (fun n hn=>sub n (zD _ hn)) (by
    obtain⟨n,hn,hl⟩:=hn;rcases zO.mp hn with rfl|hn
    .exact absurd hl c
    .exact⟨n,hn,hl⟩)
   omega
theorem jrx(ok:jay D){W:List Str}(sub:∀n∈W,n∈D.W0)(w7:W.length<=7)(h:Str):ldI D W h<=7000:=by
 have:ldI D W h<=1000*(W.length:Int):=by
  unfold ldI;clear w7
  induction W with
  |nil=>simp
  |cons m W ih=>
   rw[zU,cR,zR];have:=ih fun n hn=>sub n (zD _ hn);have:=ok.w2 m (sub m (zF ..))
   split<;>omega
 omega
inductive jbz(K:uT)(d:Ad)(vs:List V)(H:Hp)(Q:VK)(E:XK):Prop
 |mk(de t dg lw dl dgo:Addr)(S:Ts)(D:Dl)(HS:List Str)(kg kl kgo:List (Key×V))(W:List Str)(lf:Str->Rat)(_:vs=[.ref de])(_:jay D)(_:jdq d H de t dg lw dl dgo S D HS kg kl kgo W lf)(_:(∀n∈W,n∈D.W0))(_:W.length<=7)(_:(∀n∈W,∀h∈D.ln n,RB (lf h)))(_:∀l kf H',jab H H'->H l=none->H' l=some (.dK kf)->FD H' kf (flF D W lf)->kf.length<=200->Q (.ref l) H')
include T in
theorem w8e:jac P w K mg base (My.CX1 P w) 7 d.w3k d.w2u ["self"] (jbz K d):=by
 exists okX T.w9b w1t
 .right
 obtain⟨de,t,dg,lw,dl,dgo,S,D,HS,kg,kl,kgo,W,lf,rfl,ok,hD,sub,w7,rb,q⟩:=h;exists (qa2 (qad (i:=1) w1t.nd rfl (uI rfl) (qaw ((wcq T).mono ∅) hr rfl T.wem T.w9p.kp T.weq .nil qaj #[qax (pv 0) rfl,qax (pv 0) rfl,qax (pv 0) rfl]))
  (qa2 (qad (i:=2) w1t.nd rfl (uI rfl) qb1)
  (qa2 (qec (qb2 (qbh rfl rfl) rfl (qcy (pv 1)) (qab (i:=3) w1t.nd rfl (uI rfl)) (qa6 (qbg (qav hr) (pv 2) (pv 3) (qaw ((w9q T).mono ∅) hr rfl T.wc1 T.w8q.kp T.wb4 .nil qaj #[qax (pv 0) rfl|||pv 3,qcc #[pv 1|||pv 3,qa7]]) rfl))))
  (qa6 (qae (pv 2)))))),[sr de,none,none,none];have cl:=T.w0h;have n1:qao K d.w00 "tree":=T.w0f;have n2:qao K d.w00 "weights":=T.w0b;have n3:qao K d.w00 "waiting":=T.w04;have n4:qao K d.w00 "left":=T.w0p;obtain⟨dx,ho⟩:=hD.ob;left;refine⟨t,dg,lw,S,D,kg,W,rfl,ok,hD.tr,hD.g,hD.gA,hD.w,sub,w7,fun ll k1 H1 s1 hll el1 hA1 hk1=>?_⟩;left;rename_i l hl;have s2:=s1.trans (qa5 hl (.dK []));have el2:=qaa (o':=.dK []) el1 hl;have e2:upd H1 l (.dK []) l=some (.dK []):=qa1;have hl0:H l=none:=s1.free hl;have nll:l≠ll:=fun e=>by subst e;rw[el1] at hl;cases hl
 generalize upd H1 l (.dK [])=H2 at*;have nlo:l≠dl:=fun e=>by subst e;rw[hD.l] at hl0;cases hl0
 have nod:dl≠ll:=fun e=>by subst e;rw[hD.l] at hll;cases hll
 have noe:de≠ll:=fun e=>by subst e;rw[ho] at hll;cases hll
 have nle:l≠de:=fun e=>by subst e;rw[ho] at hl0;cases hl0
 have ho2:=s2 _ _ ho;have hd2:=s2 _ _ hD.l;have hF2:=hD.lA.t (qb4.of s2);have nf2:jho H ll:=fun o u e=>by rw[hll] at e;cases e
 clear hl el1;refine qg1 el2 fun o=>?_;refine qen (fun i σ H'=>∃(kf:List (Key×V))(w:Option V),σ=[sr de,sr ll,sr l,w]/\Sb2 ll l H2 H'/\H' ll=some (.frz o (.dK k1))/\H' l=some (.dK kf)/\FD H' kf (fun h=>if h∈(qbx k1).take i then flF D W lf h else none)/\kf.length<=i)
  ⟨[],none,rfl,fun b u n1 _ e=>by rw[qa4 n1];exact e,qa1,by rw[qa4 nll];exact e2,FD.nil.cast fun z=>by simp,uG _⟩ ?_ ?_ ?_
 .rintro i σ H' _ ⟨kf,w,rfl,sb,fz,_⟩;exact fz
 .rintro i k v σ H' hk ⟨kf,w,rfl,sb,fz,ef,hF,hlen⟩;obtain⟨z,n,rfl,rfl,hf,hzi⟩:=hA1.at hk;have hi:i<k1.length:=(uF.mp hk).1;have hRd:Rd H' ll (.dK k1):=.inr ⟨o,fz⟩;have ho':=sb _ _ noe nle.symm ho2;have hd':=sb _ _ nod nlo.symm hd2;have hRl:Rd H' dl (.dK kl):=.inl hd';have tS:qb4 H2 H':=fun a xs e=>sb a _ (fun z=>by subst z;rw[el2] at e;cases e) (fun z=>by subst z;rw[e2] at e;cases e) e;have hFl:=hF2.t tS;have hex:∃m∈W,z∈D.ln m:=by
   refine wL fun c=>?_;unfold ldF at hf;rw[gT c] at hf
   cases hf
  have en:n=ldI D W z:=by
   unfold ldF at hf;rw[gU hex] at hf;exact(uN hf).symm
  obtain⟨m,hm,hml⟩:=id hex;have hzH:z∈HS:=hD.hs m (sub m hm) z hml;have b1:=jn9 ok sub hex;have b2:=jrx ok sub w7 z;have zl:kf.length<sizeLine:=by show _<16777216;omega
  show qek _ (.str z) _ _ _;left;refine qeq hRl hFl (qce hzH) fun bq hbq=>?_;left;rename_i tp htp;have s3:=qa5 htp (.tup [V.int n,V.int 1]);have hfr:qbf (upd H' tp (.tup [V.int n,V.int 1])) tp ((n:Int):Rat):=qel qa1;generalize upd H' tp (.tup [V.int n,V.int 1])=H3 at*;have nq:((n:Int):Rat)≠0:=fun e=>by
   have:n=0:=by exact_mod_cast e
   omega
  refine⟨bq,tp,_,_,rfl,s3 _ _ hbq,hfr,rb m hm z hml,jdf (vI (show n.natAbs<=7000 by omega) ∅),nq,fun r hr=>?_⟩;have s4:=s3.trans (qa5 hr (frO (lf z /(n:Rat))));have hfq:qbf (upd H3 r (frO (lf z /(n:Rat)))) r (lf z /(n:Rat)):=qa1;generalize upd H3 r (frO (lf z /(n:Rat)))=H4 at*;have ef4:=s4 _ _ ef;have fz4:=s4 _ _ fz;left;have lput:=qay kf (uH z) (.ref r);have t2:qb4 H4 (upd H4 l (.dK (qbl kf (uH z) (.ref r)))):=qb4.upd ef4 fun xs e=>by cases e
  refine⟨_,_,rfl,fun b u n1 n2 e=>by rw[qa4 n2];exact s4 _ _ (sb b u n1 n2 e),by rw[qa4 nll.symm];exact fz4,qa1,(((hF.t (qb4.of s4)).put z hfq).t t2).cast fun y=>?_,#[]⟩;have tk:y∈(qbx k1).take (i+1)↔y∈(qbx k1).take i\/y=z:=qar hzi y;by_cases c:y=z
  .rw[gU c,gU (tk.mpr (.inr c)),c,en];unfold flF;rw[gU hex]
  .rw[gT c];by_cases c2:y∈(qbx k1).take i
   .rw[gU c2,gU (tk.mpr (.inl c2))]
   .rw[gT c2,gT fun h'=>(tk.mp h').elim c2 c]
 rintro σ H' ⟨kf,w,rfl,sb,fz,ef,hF,hlen⟩;refine qe9 (qg0 fz nf2) ?_;rw[<-hA1.klen,zJ] at hF;have sb9:∀b u,b≠l->H2 b=some u->upd H' ll (.dK k1) b=some u:=fun b u n2 e=>by
  by_cases c:b=ll
  .subst c;rw[qa1,<-el2];exact e
  .rw[qa4 c];exact sb b u c n2 e
 left;refine q l kf _ (fun b u e=>sb9 b u (fun z=>by subst z;rw[hl0] at e;cases e) (s2 b u e)) hl0 (by rw[qa4 nll];exact ef) ((hF.t (qb4.upd fz fun xs e=>by cases e)).cast fun z=>?_) #[];by_cases c:z∈qbx k1
 .rw[gU c]
 .rw[gT c];unfold flF;rw[gT fun hex=>c ((hA1.kin z).mpr (by unfold ldF;rw[gU hex];simp))]
theorem jdg{f:Str->Rat}:∀{l:List Str} {m:Str},l.Nodup->m∈l->qc3 l (fun n=>if n=m then f n else 0)=f m
 | [],_,_,h=>by simp at h
 |k::l,m,nd,h=>by
  rw[zT] at nd;show(if k=m then f k else 0)+qc3 l _=f m;by_cases c:k=m
  .subst c;rw[gU rfl,qe6 fun n hn=>gT fun e=>nd.1 (by rw[<-e];exact hn)];grind
  .rw[gT c,jdg nd.2 ((zO.mp h).resolve_left fun e=>c e.symm)];grind
theorem qgq{D:Dl}(ok:jay D)(h:Str):∀{W:List Str},W.Nodup->(∀n∈W,n∈D.W0)->ldQ D W h=(ldI D W h:Rat)
 | [],_,_=>by rw[qej fun m hm=>by simp at hm];rfl
 |m::W,nd,sub=>by
  rw[zT] at nd;have ih:=qgq ok h nd.2 fun n hn=>sub n (zD _ hn);have e1:ldI D (m::W) h=(if h∈D.ln m then D.wt m else 0)+ldI D W h:=by unfold ldI;rw[zU,cR]
  rw[e1,aP,<-ih];have e2:=jdg (f:=fun n=>if h∈D.ln n then(D.wt n:Rat) else 0) ok.nd (sub m (zF ..));have e3:(((if h∈D.ln m then D.wt m else 0:Int)):Rat)=if h∈D.ln m then(D.wt m:Rat) else 0:=by split<;>rfl
  rw[e3,<-e2];unfold ldQ;rw[<-qf3];refine qbv fun n _=>?_
  try dsimp only
  by_cases c:n=m
  .subst c;by_cases c2:h∈D.ln n
   .rw[gU ⟨zF ..,c2⟩,gU rfl,gU c2,gT fun z=>nd.1 z.1];grind
   .rw[gT fun z=>c2 z.2,gU rfl,gT c2,gT fun z=>c2 z.2];grind
  .rw[gT c];by_cases c2:n∈W/\h∈D.ln n
   .rw[gU ⟨zD _ c2.1,c2.2⟩,gU c2];grind
   .rw[gT fun z=>c2 ⟨(zO.mp z.1).resolve_left c,z.2⟩,gT c2];grind
theorem ji0(ok:jay D){W:List Str}(nd:W.Nodup)(sub:∀n∈W,n∈D.W0)(lf:Str->Rat){h n:Str}(hn:n∈W)(hl:h∈D.ln n):flF D W lf h=some (lf h/ldQ D W h):=by
 unfold flF;rw[gU ⟨n,hn,hl⟩,qgq ok h nd sub]
theorem jry{K:uT}(ha:qbf H a q)(hb:qbf H b r):PEq K H 1 (.ref a) (.ref b) (decide (q=r)):=by
 by_cases c:a=b
 .subst c;rw[gW (ha.uniq hb)];exact .same
 .have key:((vG (min [V.int q.num,V.int (q.den:Int)].length [V.int r.num,V.int (r.den:Int)].length)).all (fun j=>if j=0 then eqV (V.int q.num) (V.int r.num) else eqV (V.int (q.den:Int)) (V.int (r.den:Int))) && [V.int q.num,V.int (q.den:Int)].length==[V.int r.num,V.int (r.den:Int)].length)=decide (q=r):=by
   show((eqV (V.int q.num) (V.int r.num) && (eqV (V.int (q.den:Int)) (V.int (r.den:Int)) && true)) && true)=_;show((decide (q.num=r.num) && (decide ((q.den:Int)=(r.den:Int)) && true)) && true)=_;by_cases e1:q.num=r.num
   .by_cases e2:q.den=r.den
    .rw[gW e1,gW (by rw[e2]),gW (Rat.ext e1 e2)];rfl
    .rw[gW e1,gX #[],gX (p:=q=r) (fun z=>e2 (by rw[z]))];rfl
   .rw[gX e1,gX (p:=q=r) (fun z=>e1 (by rw[z]))];rfl
  rw[<-key];refine .ts (SqT.of ha) (SqT.of hb) c fun j h1 h2=>?_;have:j<2:=h1;obtain rfl|rfl:j=0\/j=1:=by omega
  .exact .flat rfl rfl
  .exact .flat rfl rfl
inductive jb0(K:uT)(d:Ad)(vs:List V)(H:Hp)(Q:VK)(E:XK):Prop
 |mk(de t dg lw dl dgo lv ff:Addr)(S:Ts)(D:Dl)(HS:List Str)(kg kl kgo kf:List (Key×V))(W:List Str)(lf:Str->Rat)(L:Rat)(_:vs=[.ref de,.ref lv,.ref ff])(_:jay D)(_:jdq d H de t dg lw dl dgo S D HS kg kl kgo W lf)(_:(∀n∈W,n∈D.W0))(_:W.Nodup)(_:qbf H lv L)(_:H ff=some (.dK kf))(_:FD H kf (flF D W lf))(_:∀l H',jab H H'->H l=none->H' l=some (.lst ((rdy D W lf L).map V.str))->Q (.ref l) H')
open Classical in
include T in
theorem w88:jac P w K mg base (My.CX1 P w) 6 d.w3j d.w2q ["self","level","fills"] (jb0 K d):=by
 exists okX T.w8k w1q
 .right
 obtain⟨de,t,dg,lw,dl,dgo,lv,ff,S,D,HS,kg,kl,kgo,kf,W,lf,L,rfl,ok,hD,sub,nd,hL,hff,hF,q⟩:=h;exists (qa2 (qad (i:=3) w1q.nd rfl (uI rfl) (qbd qa3))
  (qa2 (qb2 (qbh rfl rfl) rfl (qb0 (qax (pv 0) rfl)) (qab (i:=4) w1q.nd rfl (uI rfl)) (qa2 (qad (i:=5) w1q.nd rfl (uI rfl) (qah jg0 (qd6 (caps:=[2]) (cn:=["fills"]) (qcf rfl rfl (by rfl) (by rfl) rfl ⟨rfl,trivial⟩ (by rfl) rfl ⟨⟨rfl,rfl,rfl,rfl,_,rfl⟩,trivial⟩ ∅) rfl (qb0 (qas (qax (pv 0) rfl) T.w02 T.w08 ((w0l T).mono ∅) hr T.w0u .nil qaj #[pv 4])) (fun _ _ _ _=>qex) (fun _ _ _ _=>(pv 1|||pv 0))) (qbd #[qax (pv 0) rfl|||pv 4])))
  (qa6 (qdg (qb8 (qak (jrk (hu8 hr)) (pv 1) (pv 5) (by rfl)) (qa6 (qb9 (qg2 vY wG wH qc8 (pv 3) #[pv 4]))) qap)))))
  (qa6 (qae (pv 3))))),[sr de,sr lv,sr ff,none,none,none];have cl:=T.w0h;have ct:=T.w02;have n1:qao K d.w00 "tree":=T.w0f;have n3:qao K d.w00 "waiting":=T.w04;have n5:qao K d.w00 "goals":=T.w0j;obtain⟨dx,ho⟩:=hD.ob;have w7:W.length<=7:=vK (vT nd sub) ok.l8;left;rename_i l hl;have s1:=qa5 hl (.lst []);have el:upd H l (.lst []) l=some (.lst []):=qa1;have ho1:=s1 _ _ ho;have hw1:=s1 _ _ hD.w;generalize upd H l (.lst [])=H1 at*;left;refine qbt (xs:=W.map V.str) (fun i σ H'=>∃(w1 w2:Option V),σ=[sr de,sr lv,sr ff,sr l,w1,w2]/\jab H H'/\H' l=some (.lst (((W.take i).filter fun n=>decide (n∈rdy D W lf L)).map V.str))) ⟨none,none,rfl,s1,el⟩ ?_ ?_ ?_
 .rintro i σ H' _ ⟨w1,w2,rfl,sm,_⟩;exact SqL.of (sm _ _ hD.w)
 .rintro i v σ H' hv ⟨w1,w2,rfl,sm,el2⟩;rw[zC] at hv;obtain⟨n,hn,rfl⟩:=uK.mp hv;have hnW:=zG hn;have hn0:=sub n hnW;obtain⟨e,ae,ew,hln⟩:=hD.tr.ln n hn0;obtain⟨tx,ht⟩:=id (hD.tr.tr.same sm).1;have lz:=ok.lz n hn0;have etk:W.take (i+1)=W.take i++[n]:=by rw[zN,hn];rfl
  have ho2:=sm _ _ ho;clear hv;left;refine⟨t,S,.str n,rfl,hD.tr.tr.same sm,.inl ⟨n,_,rfl,hln,#[],fun ll hll=>?_⟩⟩;have s2:=sm.trans (qa5 hll (.lst ((D.ln n).map V.str)));have ell:upd H' ll (.lst ((D.ln n).map V.str)) ll=some (.lst ((D.ln n).map V.str)):=qa1;have el3:=qaa (o':=.lst ((D.ln n).map V.str)) el2 hll;generalize upd H' ll (.lst ((D.ln n).map V.str))=H2 at*;clear hll el2 ho2 ht;left;intro C s0 H0 fp acc hacc;refine jge (D.ln n).length (fun j H'=>∃ps:List (Addr×Rat),jab H2 H'/\H' acc=some (.lst (ps.map fun p=>V.ref p.1))/\(∀p∈ps,qbf H' p.1 p.2)/\ps.map (·.2)=((D.ln n).take j).map fun h=>lf h/ldQ D W h) ⟨[],qa5 hacc _,qa1,fun p hp=>by simp at hp,rfl⟩ ?_ ?_ ?_ ?_
  .rintro j H' hj ⟨ps,sx,_⟩;exact⟨_,.str (D.ln n)[j],SqL.of (sx _ _ ell),by rw[zC,zB hj];rfl⟩
  .rintro H' ⟨ps,sx,_⟩;exact⟨_,SqL.of (sx _ _ ell),by rw[zA];exact uG _⟩
  .rintro j H' v H'' hj ⟨ps,sx,ea,hps,hms⟩ ⟨rfl,hv⟩;have hv:=hv _ (SqL.of (sx _ _ ell));rw[zC,zB hj] at hv
   cases hv
   have hm:=yB hj;have etj:(D.ln n).take (j+1)=(D.ln n).take j++[(D.ln n)[j]]:=by rw[zN,zB hj];rfl
   have hlen:ps.length=j:=by have:=congrArg wJ hms;rw[zA,zA,zW] at this;omega
   generalize (D.ln n)[j]=h at*;have hRf:Rd H'' ff (.dK kf):=.inl (sx _ _ (s2 _ _ hff));have hFf:=hF.t (qb4.of (s2.trans sx));have zl:(ps.map fun p=>V.ref p.1).length<sizeLine:=by rw[zA];show _<16777216;omega
   clear hv;left;refine qeq hRf hFf (ji0 ok nd sub lf hnW hm) fun b hb=>?_;left;have t5:qb4 H'' (upd H'' acc (.lst ((ps.map fun p=>V.ref p.1)++[V.ref b]))):=qb4.upd ea fun xs e=>by cases e
   refine⟨ps++[(b,lf h/ldQ D W h)],qb5 sx hacc,by rw[qa1,zL];rfl,fun p hp=>?_,by rw[zL,hms,etj,zL];rfl⟩;rcases zM.mp hp with h1|h1
   .exact t5 _ _ (hps p h1)
   .rw[zE.mp h1];exact t5 _ _ hb
  rintro H3 ⟨ps,s3,ea,hps,hms⟩;rw[zJ] at hms;have s4:=s2.trans s3;have ho3:=s4 _ _ ho;have hRg:Rd H3 dgo (.dK kgo):=.inl (s4 _ _ hD.go);have hFg:=hD.goA.t (qb4.of s4);left;refine qeq hRg hFg (qce hn0) fun b hb=>?_;left;rename_i p1 hp1;have nal:acc≠p1:=fun e=>by subst e;rw[ea] at hp1;cases hp1
  have plen:ps.length=(D.ln n).length:=by have:=congrArg wJ hms;rw[zA,zA] at this;exact this
  refine jnc (xs:=ps.map fun p=>V.ref p.1) (by rw[qa4 nal];exact ea) qa1 (by rw[zA];show _+1<=16777216;omega) fun p2 hp2=>?_;have s5:jab H3 (upd (upd H3 p1 (.lst [V.ref b])) p2 (.lst ((ps.map fun p=>V.ref p.1)++[V.ref b]))):=(qa5 hp1 _).trans (qa5 hp2 _);have e5:upd (upd H3 p1 (.lst [V.ref b])) p2 (.lst ((ps.map fun p=>V.ref p.1)++[V.ref b])) p2=some (.lst ((ps.map fun p=>V.ref p.1)++[V.ref b])):=qa1;generalize upd (upd H3 p1 (.lst [V.ref b])) p2 (.lst ((ps.map fun p=>V.ref p.1)++[V.ref b]))=H5 at*;have s6:=s4.trans s5;have el5:=s5 _ _ (s3 _ _ el3);have hL5:qbf H5 lv L:=s6 _ _ hL;have hb5:qbf H5 b (goQ D n):=s5 _ _ hb;have hps5:∀p∈ps,qbf H5 p.1 p.2:=fun p hp=>s5 _ _ (hps p hp);clear hp1 hp2 s5 hRg hFg ho3 hb hps ea s3 s4;left;refine qff ?_;left;refine⟨p2,_,fun v=>decide (∃a,v=.ref a/\qbf H5 a L),rfl,SqL.of e5,fun v hv=>⟨1,∅,?_⟩,?_⟩
  .have:∃a q,v=.ref a/\qbf H5 a q:=by
    rcases zM.mp hv with h1|h1
    .obtain⟨p,hp,rfl⟩:=zH.mp h1;exact⟨_,_,rfl,hps5 p hp⟩
    .exact⟨b,_,zE.mp h1,hb5⟩
   obtain⟨a,r,rfl,ha⟩:=this;have e6:decide (∃a',V.ref a=.ref a'/\qbf H5 a' L)=decide (r=L):=by
    refine decide_eq_decide.mpr ⟨?_,fun e=>⟨a,rfl,e▸ha⟩⟩;rintro⟨a',e,h'⟩
    cases e
    exact ha.uniq h'
   show PEq K H5 1 (V.ref a) (V.ref lv) (decide (∃a',V.ref a=.ref a'/\qbf H5 a' L));rw[e6];exact jry ha hL5
  have e7:(((ps.map fun p=>V.ref p.1)++[V.ref b]).any fun v=>decide (∃a,v=.ref a/\qbf H5 a L))=decide (n∈rdy D W lf L):=by
   rw[xJ,yM,decide_eq_true_iff,qcz];constructor
   .rintro⟨v,hv,he⟩;obtain⟨a,rfl,ha⟩:=of_decide_eq_true he;refine⟨hnW,?_⟩;rcases zM.mp hv with h1|h1
    .obtain⟨p,hp,e⟩:=zH.mp h1
     cases e
     have h2:=(hps5 p hp).uniq ha;have h3:p.2∈ps.map (·.2):=zH.mpr ⟨p,hp,rfl⟩;rw[hms] at h3;obtain⟨h,hh,e⟩:=zH.mp h3;exact .inl ⟨h,hh,by rw[e,h2]⟩
    .have e:=zE.mp h1
     cases e
     exact .inr (hb5.uniq ha)
   .rintro⟨_,⟨h,hh,e⟩|e⟩
    .have h3:L∈ps.map (·.2):=by rw[hms];exact zH.mpr ⟨h,hh,e⟩
     obtain⟨p,hp,e2⟩:=zH.mp h3;exact⟨.ref p.1,zP _ (zH.mpr ⟨p,hp,rfl⟩),gW ⟨p.1,rfl,e2▸hps5 p hp⟩⟩
    .exact⟨.ref b,zI _ (zE.mpr rfl),gW ⟨b,rfl,e▸hb5⟩⟩
  rw[e7];have zl:(((W.take i).filter fun n=>decide (n∈rdy D W lf L)).map V.str).length<sizeLine:=by
   rw[zA];have h1:=zZ (fun n=>decide (n∈rdy D W lf L)) (W.take i);rw[zW] at h1;show _<16777216;omega
  by_cases c:n∈rdy D W lf L
  .rw[gW c];left;refine⟨_,_,rfl,qb5 s6 hl,?_⟩;rw[qa1,etk,zY,zL,aU (p:=fun n=>decide (n∈rdy D W lf L)) (gW c)];rfl
  .rw[gX c];left;refine⟨_,_,rfl,s6,?_⟩;rw[el5,etk,zY,zL,aV (by rw[gX c];simp)];simp
 rintro σ H' ⟨w1,w2,rfl,sm,el2⟩;left;refine q l H' sm hl ?_;rw[el2,zA,zJ]
 congr 3
 refine(List.filter_congr fun n hn=>?_);exact decide_eq_decide.mpr ((qcz).trans ⟨fun z=>z.2,fun z=>⟨hn,z⟩⟩)
theorem qem(L:List Str):((L.map V.str).all fun v=>qd4 v)=true:=by
 rw[List.all_map];exact yA.mpr fun _ _=>rfl
theorem ji1(x:Str):∀L:List Str,inV (.str x) (L.map V.str)=decide (x∈L)
 | []=>rfl
 |y::L=>by
  have ih:=ji1 x L;unfold inV at ih⊢;rw[zU,yQ,ih];by_cases c:y=x
  .subst c;rw[show eqV (V.str y) (V.str y)=true from beq_self_eq_true _,gW (zF ..)];rfl
  .rw[show eqV (V.str y) (V.str x)=false from beq_false_of_ne c,eK];by_cases m:x∈L
   .rw[gW m,gW (zD _ m)]
   .rw[gX m,gX fun z=>(zO.mp z).elim (fun e=>c e.symm) m]
def jdh{K:uT}{p:Addr}{x:Str}(h:SqL K H p (L.map V.str))(q:Q (.bl (!decide (x∈L))) H):rIn K true (.str x) (.ref p) H Q:=⟨p,_,rfl,.inl h,rfl,qem L,by rw[ji1];exact q⟩
theorem joa(ok:jay D){V:List Str}{n:Str}(nd:(V++[n]).Nodup)(sub:∀m∈V++[n],m∈D.W0)(h:Str):ldQ D (V++[n]) h=ldQ D V h+if h∈D.ln n then(D.wt n:Rat) else 0:=by
 rw[qgq ok h nd sub,qgq ok h (yK.mp nd).1 fun m hm=>sub m (zP _ hm),jiz,aP]
 split<;>rfl
theorem jkt{kvs:List (Key×V)}{k:Key}{v w:V}(h:qci kvs k=some w):(qbl kvs k v).length=kvs.length:=by
 have:=congrArg wJ (qea (kvs:=kvs) (k:=k) (v:=v) (by rw[h];simp));rw[zA,zA] at this;exact this
def job(W R:List Str):(wls W R).length<=W.length:=zZ _ _
inductive jbu(K:uT)(d:Ad)(vs:List V)(H:Hp)(Q:VK)(E:XK):Prop
 |mk(de t dg lw dl dgo lv ln:Addr)(S:Ts)(D:Dl)(HS:List Str)(kg kl kgo:List (Key×V))(W R:List Str)(lf:Str->Rat)(L:Rat)(_:vs=[.ref de,.ref lv,.ref ln])(_:jay D)(_:jdq d H de t dg lw dl dgo S D HS kg kl kgo W lf)(_:(∀n∈W,n∈D.W0))(_:W.Nodup)(_:qbf H lv L)(_:RB L)(_:H ln=some (.lst (R.map V.str)))(_:(∀n∈R,n∈W))(_:R.Nodup)(_:(∀n∈R,RB (L*(D.wt n:Rat))))(_:(∀i,∀n∈D.W0,∀h∈D.ln n,RB (lf h-L*ldQ D (R.take i) h)))(_:∀lw' kl' H',Sb2 de dl H H'->H lw'=none->jdq d H' de t dg lw' dl dgo S D HS kg kl' kgo (wls W R) (lfN D lf L R)->Q .non H')
include T in
theorem w7b:jac P w K mg base (My.CX1 P w) 6 d.w2y d.w2d ["self","level","names"] (jbu K d):=by
 exists okX T.w8a w1l
 .right
 obtain⟨de,t,dg,lw,dl,dgo,lv,ln,S,D,HS,kg,kl,kgo,W,R,lf,L,rfl,ok,hD,sub,nd,hL,rL,hln,hRW,ndR,rLw,rLf,q⟩:=h;refine⟨_,(qa2 (qb2 (qbh rfl rfl) rfl (qb0 (pv 2)) (qab (i:=3) w1l.nd rfl (uI rfl)) (qa2 (qad (i:=4) w1l.nd rfl (uI rfl) (qaw ((we2 T).mono ∅) hr rfl T.wf0 T.wdp.kp T.wg1 .nil qaj #[pv 1,qcc #[qax (pv 0) rfl|||pv 3,qa7]]))
  (qa6 (qb2 (qbh rfl rfl) rfl (qb0 (qas (qax (pv 0) rfl) T.w02 T.w08 ((w0l T).mono ∅) hr T.w0u .nil qaj #[pv 3])) (qab (i:=5) w1l.nd rfl (uI rfl)) (qa6 (qbg (qav hr) (qax (pv 0) rfl) (pv 5) (qaw ((wg7 T).mono ∅) hr rfl T.whq T.wfz.kp T.whb .nil qaj #[qax (pv 0) rfl|||pv 5,pv 4]) rfl))))))
  (qa6 (qc9 (pv 0) (qd6 (caps:=[2]) (cn:=["names"]) (qcf rfl rfl (by rfl) (by rfl) rfl ⟨rfl,trivial⟩ (by rfl) rfl ⟨⟨rfl,rfl,rfl,rfl,_,rfl⟩,trivial⟩ ∅) rfl (qb0 (qax (pv 0) rfl)) (fun _ _ _ _=>(jfb (qak qct (pv 0) (pv 1) (by rfl)))) (fun _ _ _ _=>(pv 0))) rfl))),?_⟩
 walk_at"d"
 try dsimp only[cxC]
 refine qac (σ:=[sr de,sr lv,sr ln,none,none,none]) rfl ?_;have cl:=T.w0h;have ct:=T.w02;have n1:qao K d.w00 "tree":=T.w0f;have n2:qao K d.w00 "weights":=T.w0b;have n3:qao K d.w00 "waiting":=T.w04;have n4:qao K d.w00 "left":=T.w0p;obtain⟨dx,ho⟩:=hD.ob;obtain⟨H0,s0,f0e,f0l,hT0⟩:=hD.tz;have w7:W.length<=7:=vK (vT nd sub) ok.l8;have nel:de≠dl:=fun e=>by subst e;rw[hD.l] at ho;cases ho
 have nll:ln≠dl:=fun e=>by subst e;rw[hD.l] at hln;cases hln
 have nvl:lv≠dl:=fun e=>by subst e;unfold qbf at hL;rw[hD.l] at hL;cases hL
 have nwl:lw≠dl:=fun e=>by subst e;have:=hD.w;rw[hD.l] at this;cases this
 left;refine qbt (xs:=R.map V.str) (fun i σ H'=>∃(kl':List (Key×V))(w1 w2 w3:Option V),σ=[sr de,sr lv,sr ln,w1,w2,w3]/\SameBut dl H H'/\H' dl=some (.dK kl')/\FD H' kl' (qdt HS fun h=>lf h-L*ldQ D (R.take i) h)/\kl'.length=kl.length) ⟨kl,none,none,none,rfl,fun b u _ e=>e,hD.l,hD.lA.cast fun z=>?_,rfl⟩ ?_ ?_ ?_
 .congr 1
  funext h
  rw[List.take_zero,qej fun m hm=>by simp at hm];grind
 .rintro i σ H' _ ⟨kl',w1,w2,w3,rfl,sm,_⟩;exact SqL.of (sm _ _ nll hln)
 .rintro i v σ H' hv ⟨kl',w1,w2,w3,rfl,sm,el,hF,hkl⟩;rw[zC] at hv;obtain⟨n,hn,rfl⟩:=uK.mp hv;have hnR:=zG hn;have hn0:=sub n (hRW n hnR);obtain⟨e,ae,ew,hlN⟩:=hD.tr.ln n hn0;have sT:jab H0 H':=fun b u e=>sm b u (fun z=>by subst z;rw[f0l] at e;cases e) (s0 b u e);obtain⟨tx,ht⟩:=id (hT0.tr.same sT).1;have lz:=ok.lz n hn0;have lnd:=ok.ld n hn0;have etk:R.take (i+1)=R.take i++[n]:=by rw[zN,hn];rfl
  have ho2:=sm _ _ nel ho;have hRg:Rd H' dg (.dK kg):=.inl (sm _ _ hD.nld.symm hD.g);have gw:qby D.W0 D.wt n=some (D.wt n):=qbi hn0;have hgA:=hD.gA;clear hv;left;rename_i tp htp;have s3:=qa5 htp (.tup [V.int (D.wt n),V.int 1]);have hfr:qbf (upd H' tp (.tup [V.int (D.wt n),V.int 1])) tp ((D.wt n:Int):Rat):=qel qa1;generalize upd H' tp (.tup [V.int (D.wt n),V.int 1])=H3 at*;have wa1:=ok.w1 n hn0;have wa2:=ok.w2 n hn0;refine⟨lv,tp,_,_,rfl,s3 _ _ (sm _ _ nvl hL),hfr,rL,jdf (vI (show(D.wt n).natAbs<=1000 by omega) ∅),fun r hr=>?_⟩;have s4:=s3.trans (qa5 hr (frO (L*(D.wt n:Rat))));have hsh:qbf (upd H3 r (frO (L*(D.wt n:Rat)))) r (L*(D.wt n:Rat)):=qa1;generalize upd H3 r (frO (L*(D.wt n:Rat)))=H4 at*;have ho4:=s4 _ _ ho2;have ht4:=s4 _ _ ht;have el4:=s4 _ _ el;clear ho2 ht hRg hr htp s3 hfr;left;refine⟨t,S,.str n,rfl,hT0.tr.same (sT.trans s4),.inl ⟨n,_,rfl,hlN,#[],fun ll hll=>?_⟩⟩;have s5:=s4.trans (qa5 hll (.lst ((D.ln n).map V.str)));have ell:upd H4 ll (.lst ((D.ln n).map V.str)) ll=some (.lst ((D.ln n).map V.str)):=qa1;have el5:=qaa (o':=.lst ((D.ln n).map V.str)) el4 hll;have hsh5:qbf (upd H4 ll (.lst ((D.ln n).map V.str))) r (L*(D.wt n:Rat)):=qaa hsh hll;have nl5:ll≠dl:=fun z=>by subst z;rw[el4] at hll;cases hll
  generalize upd H4 ll (.lst ((D.ln n).map V.str))=H5 at*;have ho5:=s5 _ _ (sm _ _ nel ho);have nrl:r≠dl:=fun z=>by subst z;unfold qbf at hsh5;rw[el5] at hsh5;cases hsh5
  clear hll el4 ht4 ho4 hsh s4;left;refine qbt (xs:=(D.ln n).map V.str) (fun j σ H'=>∃(k2:List (Key×V))(w3:Option V),σ=[sr de,sr lv,sr ln,some (.str n),sr r,w3]/\SameBut dl H5 H'/\H' dl=some (.dK k2)/\FD H' k2 (qdt HS fun h=>if h∈(D.ln n).take j then lf h-L*ldQ D (R.take i) h-L*(D.wt n:Rat) else lf h-L*ldQ D (R.take i) h)/\k2.length=kl.length) ⟨kl',_,rfl,fun b u _ e=>e,el5,(hF.t (qb4.of s5)).cast fun z=>by simp,hkl⟩ ?_ ?_ ?_
  .rintro j σ H' _ ⟨k2,w3,rfl,s6,_⟩;exact SqL.of (s6 _ _ nl5 ell)
  .rintro j v σ H6 hv ⟨k2,w3,rfl,s6,el6,hF6,hk6⟩;rw[zC] at hv;obtain⟨h,hh,rfl⟩:=uK.mp hv;have hhl:=zG hh;have hnt:h∉(D.ln n).take j:=qf7 lnd hh;have hRl:Rd H6 dl (.dK k2):=.inl el6;have ho6:=s6 _ _ nel ho5;have hhH:h∈HS:=hD.hs n hn0 h hhl;clear hv;left;refine qeq hRl hF6 (qce hhH) fun bq hbq=>?_;rw[gT hnt] at hbq;obtain⟨w0,hw0,_⟩:=hF6.get h _ (qce hhH);left;refine⟨bq,r,_,_,rfl,hbq,s6 _ _ nrl hsh5,rLf i n hn0 h hhl,rLw n hnR,fun r2 hr2=>?_⟩;have s7:=qa5 hr2 (frO (lf h-L*ldQ D (R.take i) h-L*(D.wt n:Rat)));have hfq:qbf (upd H6 r2 (frO (lf h-L*ldQ D (R.take i) h-L*(D.wt n:Rat)))) r2 (lf h-L*ldQ D (R.take i) h-L*(D.wt n:Rat)):=qa1;generalize upd H6 r2 (frO (lf h-L*ldQ D (R.take i) h-L*(D.wt n:Rat)))=H7 at*;have el7:=s7 _ _ el6;have ho7:=s7 _ _ ho6;have hlz:=hD.lz;have zl:k2.length<sizeLine:=by show _<16777216;omega
   clear hr2 el6 ho6;left;have t2:qb4 H7 (upd H7 dl (.dK (qbl k2 (uH h) (.ref r2)))):=qb4.upd el7 fun xs e=>by cases e
   refine⟨_,_,rfl,fun b u n2 e=>by rw[qa4 n2];exact s7 _ _ (s6 b u n2 e),qa1,(((hF6.t (qb4.of s7)).put h hfq).t t2).cast fun y=>?_,by rw[jkt hw0];exact hk6⟩;have tk:y∈(D.ln n).take (j+1)↔y∈(D.ln n).take j\/y=h:=qar hh y;unfold qdt;dsimp only;by_cases c:y=h
   .rw[gU c,gU (by rw[c];exact hhH),gU (tk.mpr (.inr c)),c]
   .rw[gT c];by_cases c2:y∈(D.ln n).take j
    .rw[gU c2,gU (tk.mpr (.inl c2))]
    .rw[gT c2,gT fun h'=>(tk.mp h').elim c2 c]
  .rintro σ H6 ⟨k2,w3',rfl,s6,el6,hF6,hk6⟩;rw[zA,zJ] at hF6;refine⟨k2,_,_,_,rfl,fun b u n2 e=>s6 _ _ n2 (s5 _ _ (sm b u n2 e)),el6,hF6.cast fun z=>?_,hk6⟩
   congr 1
   funext h
   have e8:=joa ok (V:=R.take i) (n:=n) (by rw[<-etk];exact ndR.sublist (fT _ _)) (fun m hm=>sub m (hRW m (yH (by rw[<-etk] at hm;exact hm)))) h;rw[etk,e8];by_cases c:h∈D.ln n
   .rw[gU c,gU c];grind
   .rw[gT c,gT c];grind
 rintro σ H' ⟨kl',w1,w2,w3,rfl,sm,el,hF,hkl⟩;have ho2:=sm _ _ nel ho;have hw2:=sm _ _ nwl hD.w;have hln2:=sm _ _ nll hln;left;intro C s9 H9 fp acc hacc;refine jge W.length (fun j Hx=>jab H' Hx/\Hx acc=some (.lst ((wls (W.take j) R).map V.str))) ⟨qa5 hacc _,qa1⟩ ?_ ?_ ?_ ?_
 .rintro j Hx hj ⟨sx,_⟩;exact⟨_,.str W[j],SqL.of (sx _ _ hw2),by rw[zC,zB hj];rfl⟩
 .rintro Hx ⟨sx,_⟩;exact⟨_,SqL.of (sx _ _ hw2),by rw[zA];exact uG _⟩
 .rintro j Hx v H'' hj ⟨sx,ea⟩ ⟨rfl,hv⟩;have hv:=hv _ (SqL.of (sx _ _ hw2));rw[zC,zB hj] at hv
  cases hv
  have etj:W.take (j+1)=W.take j++[W[j]]:=by rw[zN,zB hj];rfl
  generalize W[j]=n at*;have hln3:=sx _ _ hln2;have zl:((wls (W.take j) R).map V.str).length<sizeLine:=by
   rw[zA];have h1:=job (W.take j) R;rw[zW] at h1;show _<16777216;omega
  clear hv;left;refine jdh (SqL.of hln3) ?_;by_cases c:n∈R
  .rw[gW c];left;refine⟨sx,?_⟩;rw[ea,etj];unfold wls;rw[zY,yJ,gT (by simp[c]),bT,zX]
  .rw[gX c];left;refine⟨qb5 sx hacc,?_⟩;rw[qa1,etj];unfold wls;rw[zY,yJ,gU (by simp[c]),zL];rfl
 rintro H3 ⟨s3,ea⟩;rw[zJ] at ea;have ho3:=s3 _ _ ho2;have hF3:=hF.t (qb4.of s3);have el3:=s3 _ _ el;have ne3:acc≠de:=fun e=>by subst e;rw[ho2] at hacc;cases hacc
 left;refine qdx ho3 cl n3 (by show 5<1000;decide) ?_;rw[show qds "waiting" (.ref acc) (fsD t dg lw dl dgo)=fsD t dg acc dl dgo from rfl];have hacc0:H acc=none:=by
  cases e:H acc with
  |none=>rfl
  |some u=>
   by_cases c:acc=dl
   .subst c;rw[el] at hacc;cases hacc
   .rw[sm _ _ c e] at hacc;cases hacc
 have sb:Sb2 de dl H (upd H3 de (.ins d.w00 dx (fsD t dg acc dl dgo))):=fun b u h1 h2 e=>by rw[qa4 h1];exact s3 _ _ (sm _ _ h2 e)
 have t4:qb4 H3 (upd H3 de (.ins d.w00 dx (fsD t dg acc dl dgo))):=qb4.upd ho3 fun xs e=>by cases e
 have sH0:jab H0 (upd H3 de (.ins d.w00 dx (fsD t dg acc dl dgo))):=fun b u e=>sb b u (fun z=>by subst z;rw[f0e] at e;cases e) (fun z=>by subst z;rw[f0l] at e;cases e) (s0 b u e);have tS:qb4 H (upd H3 de (.ins d.w00 dx (fsD t dg acc dl dgo))):=fun a xs e=>sb a _ (fun z=>by subst z;rw[ho] at e;cases e) (fun z=>by subst z;rw[hD.l] at e;cases e) e;have ngd:dg≠de:=fun z=>by subst z;have:=hD.g;rw[ho] at this;cases this
 have ngo:dgo≠de:=fun z=>by subst z;have:=hD.go;rw[ho] at this;cases this
 have hlz:=hD.lz;refine q acc kl' _ sb hacc0 ⟨⟨dx,qa1⟩,⟨H0,sH0,f0e,f0l,hT0⟩,sb _ _ ngd hD.nld.symm hD.g,hD.gA,by rw[qa4 ne3];exact ea,by rw[qa4 nel.symm];exact el3,(hF3.t t4).cast fun z=>?_,#[],sb _ _ ngo hD.nlg.symm hD.go,hD.goA.t tS,hD.nlg,hD.nld,hD.hs⟩;rw[zA,zJ];rfl
section
variable{D:Dl}
theorem RdI.hi(ok:jay D){W:List Str}{lf lv:Str->Rat}{M:Rat}{N:Nat}(I:RdI D W lf lv M N){n h:Str}(hn:n∈D.W0)(hl:h∈D.ln n):lf h<=(B31:Rat):=by
 have h1:=I.sum h;have h2:0<=qc3 D.W0 fun n=>if n∉W/\h∈D.ln n then lv n*(D.wt n:Rat) else 0:=qfc fun m hm=>by
  try dsimp only
  split
  .next c=>exact xT (I.st m hm c.1).1 (by have:=(wtQ ok hm).1;grind)
  .grind
 have h3:(D.rm h:Rat)<=(B31:Rat):=by
  have h:D.rm h<=((B31:Nat):Int):=ok.r1 n hn h hl;rw[<-uY];exact_mod_cast h
 grind
def nb7{k:Nat}(h:N<=10000^(7-k)):N<=10000^7:=vK h (wU ∅ #[])
def nb8(h:N<=10000^7):N<=10000^8:=vK h (wU ∅ ∅)
theorem jdi:B31<=10^40:=by show 10^31<=10^40;exact wU ∅ ∅
theorem ji2:(0:Rat)<=(B31:Rat):=by exact_mod_cast wO B31
def RdI.rb(ok:jay D){W:List Str}{lf lv:Str->Rat}{M:Rat}{N:Nat}(I:RdI D W lf lv M N){n h:Str}(hn:n∈D.W0)(hl:h∈D.ln n):RB (lf h):=
 jde I.n0 (nb8 (nb7 I.nb)) jdi (I.dl h) (by have:=I.nn n hn h hl;have:=ji2;grind) (I.hi ok hn hl)
theorem ji3{z:Int}(h:0<=z):((z.toNat:Nat):Rat)=(z:Rat):=by
 have:((z.toNat:Nat):Int)=z:=by omega
 rw[<-uY,this]
theorem RdI.rbF(ok:jay D){W:List Str}{lf lv:Str->Rat}{M:Rat}{N:Nat}(I:RdI D W lf lv M N){n h:Str}(hn:n∈W)(hl:h∈D.ln n):RB (lf h/ldQ D W h):=by
 obtain⟨z,hz⟩:=qfm (D:=D) W h;have b1:=jen ok hn (I.sub n hn) hl;have b2:=jiy ok W h;have l0:=I.nn n (I.sub n hn) h hl;have lh:=I.hi ok (I.sub n hn) hl;rw[hz] at b1 b2⊢;have b1':(1:Int)<=z:=by exact_mod_cast b1
 have b2':z<=7000:=by exact_mod_cast b2
 obtain⟨y,hy⟩:=I.dl h;have e:lf h /(z:Rat)*(z:Rat)=lf h:=cD (by grind);have p:(0:Rat) <(z:Rat):=by grind
 have g0:0<=lf h /(z:Rat):=(jft p).mpr (by grind);have g1:lf h /(z:Rat)<=lf h:=by
  have:=xV b1 g0;grind
 have bb:=ji2;refine jde (N:=N*z.toNat) (B:=B31) (Nat.mul_pos I.n0 #[]) ?_ jdi ⟨y,?_⟩ (by grind) (by grind)
 .have h1:N*z.toNat<=10000^7*10000:=cE (nb7 I.nb) #[];rw[<-Nat.pow_succ] at h1;exact h1
 .rw[aQ,ji3 #[],<-hy];grind
theorem jrz(ok:jay D){n:Str}(hn:n∈D.W0):RB (goQ D n):=by
 have h1:=jn8 ok hn;have h2:=qfq ok hn;have w1:=ok.w1 n hn;have w2:=ok.w2 n hn;have bb:=ji2;refine jde (N:=(D.wt n).toNat) (B:=B31) #[] (vK (show(D.wt n).toNat<=1000 by omega) ∅) jdi ⟨D.wa n,?_⟩ (by grind) h1.2;rw[ji3 #[],h2]
theorem qgw:(((10^36:Nat)):Rat)=100000*(B31:Rat):=by
 have:(10^36:Nat)=100000*B31:=by show(10^36:Nat)=100000*10^31;decide
 rw[this,aQ];rfl
structure Sz(D:Dl)(W:List Str)(lf:Str->Rat)(L:Rat):Prop where
 l:RB L
 w:∀n∈rdy D W lf L,RB (L*(D.wt n:Rat))
 f:∀i,∀n∈D.W0,∀h∈D.ln n,RB (lf h-L*ldQ D ((rdy D W lf L).take i) h)
theorem RdI.sz(ok:jay D){W:List Str}{lf lv:Str->Rat}{M L:Rat}{N:Nat}(I:RdI D W lf lv M N)(il:IsL D W lf L):Sz D W lf L:=by
 obtain⟨ML,Lb,_,N',_,kv,I'⟩:=I.next ok il;have L0:0<=L:=by have:=I.m0;grind
 have bb:=ji2;have n8:=nb8 (nb7 I'.nb);refine⟨jde I'.n0 n8 jdi kv (by grind) Lb,fun n hn=>?_,fun i n hn h hl=>?_⟩
 .have hw:=wtQ ok (I.sub n (qcz.mp hn).1);have w0:(0:Rat)<=(D.wt n:Rat):=by grind
  have h1:=xT L0 w0;have h2:=xV hw.2 L0;refine jde (B:=10^36) I'.n0 n8 ∅ (kv.ints _) ?_ ?_<;>rw[qgw]<;>grind
 .obtain⟨z1,e1⟩:=qfm (D:=D) ((rdy D W lf L).take i) h;obtain⟨z2,e2⟩:=qfm (D:=D) (rdy D W lf L) h;have n1:=jl5 ok ((rdy D W lf L).take i) h;have n2:=jiy ok ((rdy D W lf L).take i) h;have h1:=xT L0 n1;have h2:=xV n2 L0;have l0:=I.nn n hn h hl;have lh:=I.hi ok hn hl;have dv:Dv N' (lf h-L*ldQ D ((rdy D W lf L).take i) h):=by
   have:=(I'.dl h).sub (kv.ints (z1-z2));have e:lfN D lf L (rdy D W lf L) h-L*((z1-z2:Int):Rat)=lf h-L*ldQ D ((rdy D W lf L).take i) h:=by
    unfold lfN;rw[e1,e2,Rat.intCast_sub];grind
   rw[e] at this;exact this
  refine jde (B:=10^36) I'.n0 n8 ∅ dv ?_ ?_<;>rw[qgw]<;>grind
end
theorem jl6{H:Hp}{φ:Str->Option Rat}:∀{kvs:List (Key×V)},(∀p∈kvs,∃z a q,p=(uH z,V.ref a)/\qbf H a q/\φ z=some q)->∃ps:List (Addr×Rat),kvs.map (·.2)=ps.map (fun p=>V.ref p.1)/\(∀p∈ps,qbf H p.1 p.2/\∃z,φ z=some p.2)/\∀k a,(k,V.ref a)∈kvs->∃p∈ps,p.1=a
 | [],_=>⟨[],rfl,fun p hp=>by simp at hp,fun k a h=>by simp at h⟩
 |p::kvs,h=>by
  obtain⟨ps,e1,e2,e3⟩:=jl6 (kvs:=kvs) fun p hp=>h p (zD _ hp);obtain⟨z,a,q,rfl,hf,hz⟩:=h p (zF ..);refine⟨(a,q)::ps,by rw[zU,zU,e1],fun p hp=>?_,fun k b hb=>?_⟩
  .rcases zO.mp hp with rfl|hp
   .exact⟨hf,z,hz⟩
   .exact e2 p hp
  .rcases zO.mp hb with e|hb
   .injection e with _ e
    injection e with e
    exact⟨(a,q),zF ..,e.symm⟩
   .obtain⟨p,hp,e⟩:=e3 k b hb;exact⟨p,zD _ hp,e⟩
theorem FD.row{kvs:List (Key×V)}(h:FD H kvs φ):∃ps:List (Addr×Rat),kvs.map (·.2)=ps.map (fun p=>V.ref p.1)/\(∀p∈ps,qbf H p.1 p.2/\∃z,φ z=some p.2)/\∀z q,φ z=some q->∃p∈ps,p.2=q:=by
 obtain⟨ps,e1,e2,e3⟩:=jl6 h.sh;refine⟨ps,e1,e2,fun z q hz=>?_⟩;obtain⟨a,ha,hf⟩:=h.get z q hz;obtain⟨p,hp,rfl⟩:=e3 _ a (qgf ha);exact⟨p,hp,(e2 p hp).1.uniq hf⟩
inductive ja8(K:uT)(d:Ad)(vs:List V)(H:Hp)(Q:VK)(E:XK):Prop
 |mk(de t dg lw dl dgo:Addr)(S:Ts)(D:Dl)(HS:List Str)(kg kl kgo:List (Key×V))(W:List Str)(lf lv:Str->Rat)(M:Rat)(N:Nat)(_:vs=[.ref de])(_:jay D)(_:jdq d H de t dg lw dl dgo S D HS kg kl kgo W lf)(_:RdI D W lf lv M N)(_:W≠ [])(_:∀(L:Rat)(rt la ln lw':Addr)(kl':List (Key×V)) H',IsL D W lf L->Sb2 de dl H H'->H ln=none->H lw'=none->H' rt=some (.tup [.ref la,.ref ln])->qbf H' la L->H' ln=some (.lst ((rdy D W lf L).map V.str))->jdq d H' de t dg lw' dl dgo S D HS kg kl' kgo (wls W (rdy D W lf L)) (lfN D lf L (rdy D W lf L))->Q (.ref rt) H')
include T in
theorem w5e:jac P w K mg base (My.CX1 P w) 8 d.w1n d.w1i ["self"] (ja8 K d):=by
 exists okX T.w5v w0r
 .right
 obtain⟨de,t,dg,lw,dl,dgo,S,D,HS,kg,kl,kgo,W,lf,lv,M,N,rfl,ok,hD,I,wn,q⟩:=h;refine⟨_,(qa2 (qad (i:=1) w0r.nd rfl (uI rfl) (jdb (pv 0) T.w0h T.w1a ((w8e T).mono ∅) hr T.w98 .nil qaj))
  (qa2 (qad (i:=2) w0r.nd rfl (uI rfl) (qag ((wd4 T).mono ∅) hr rfl T.wec T.w9u.kp T.wee .nil qaz #[qah jg0 (qbz (jga rfl) rfl T.wdw bH #[jpq PySem.F.plainAttrs_dict PySem.F.slot_dict_values PySem.F.type_dict_values jnl (pv 1)]) (qd6 (caps:=[0]) (cn:=["self"]) (qcf rfl rfl (by rfl) (by rfl) rfl ⟨rfl,trivial⟩ (by rfl) rfl ⟨⟨rfl,rfl,rfl,rfl,_,rfl⟩,trivial⟩ ∅) rfl (qb0 (qax (pv 0) rfl)) (fun _ _ _ _=>qex) (fun _ _ _ _=>(qax (pv 1) rfl|||pv 0)))]))
  (qa2 (qad (i:=3) w0r.nd rfl (uI rfl) (qas (pv 0) T.w0h T.w1b ((w88 T).mono ∅) hr T.w8p .nil qaj #[pv 2,pv 1]))
  (qa2 (qb9 (qas (pv 0) T.w0h T.w0z ((w7b T).mono ∅) hr T.w8c .nil qaj #[pv 2,pv 3]))
  (qa6 (qae (qcc #[pv 2,pv 3]))))))),?_⟩
 walk_at"d"
 try dsimp only[cxC]
 refine qac (σ:=[sr de,none,none,none]) rfl ?_;have cl:=T.w0h;have n3:qao K d.w00 "waiting":=T.w04;have n5:qao K d.w00 "goals":=T.w0j;obtain⟨dx,ho⟩:=hD.ob;have w7:W.length<=7:=vK (vT I.nd I.sub) ok.l8;left;refine⟨de,t,dg,lw,dl,dgo,S,D,HS,kg,kl,kgo,W,lf,rfl,ok,hD,I.sub,w7,fun n hn h hl=>I.rb ok (I.sub n hn) hl,fun lf' kf H1 s1 hlf el1 hF1 hk1=>?_⟩;have ho1:=s1 _ _ ho;have hR1:Rd H1 lf' (.dK kf):=.inl el1;left;refine jrd hR1 fun v hv=>?_;have s2:=s1.trans (qa5 hv (jh5 v lf'));have el2:=qaa (o':=jh5 v lf') el1 hv;have ev2:upd H1 v (jh5 v lf') v=some (jh5 v lf'):=qa1;have hF2:=hF1.t (qb4.of (qa5 hv (jh5 v lf')));generalize upd H1 v (jh5 v lf')=H2 at*;clear hv hR1 el1 hF1 ho1;left;refine jnq ev2 (.inl el2) fun l1 hl1=>?_;have s3:=s2.trans (qa5 hl1 (.lst (kf.map (·.2))));have el3:=qaa (o':=.lst (kf.map (·.2))) el2 hl1;have e13:upd H2 l1 (.lst (kf.map (·.2))) l1=some (.lst (kf.map (·.2))):=qa1;have hF3:=hF2.t (qb4.of (qa5 hl1 (.lst (kf.map (·.2)))));generalize upd H2 l1 (.lst (kf.map (·.2)))=H3 at*;clear hl1 el2 ev2 hF2;have ho3:=s3 _ _ ho;have hw3:=s3 _ _ hD.w;left;intro C s9 H9 fp acc hacc;refine jge W.length (fun j Hx=>∃ps:List (Addr×Rat),jab H3 Hx/\Hx acc=some (.lst (ps.map fun p=>V.ref p.1))/\(∀p∈ps,qbf Hx p.1 p.2)/\ps.map (·.2)=(W.take j).map (goQ D)) ⟨[],qa5 hacc _,qa1,fun p hp=>by simp at hp,rfl⟩ ?_ ?_ ?_ ?_
 .rintro j Hx hj ⟨ps,sx,_⟩;exact⟨_,.str W[j],SqL.of (sx _ _ hw3),by rw[zC,zB hj];rfl⟩
 .rintro Hx ⟨ps,sx,_⟩;exact⟨_,SqL.of (sx _ _ hw3),by rw[zA];exact uG _⟩
 .rintro j Hx v H'' hj ⟨ps,sx,ea,hps,hms⟩ ⟨rfl,hv⟩;have hv:=hv _ (SqL.of (sx _ _ hw3));rw[zC,zB hj] at hv
  cases hv
  have hm:=I.sub _ (yB hj);have etj:W.take (j+1)=W.take j++[W[j]]:=by rw[zN,zB hj];rfl
  have hlen:ps.length=j:=by have:=congrArg wJ hms;rw[zA,zA,zW] at this;omega
  generalize W[j]=n at*;have hRg:Rd H'' dgo (.dK kgo):=.inl (sx _ _ (s3 _ _ hD.go));have hFg:=hD.goA.t (qb4.of (s3.trans sx));have ho4:=sx _ _ ho3;have zl:(ps.map fun p=>V.ref p.1).length<sizeLine:=by rw[zA];show _<16777216;omega
  clear hv;left;refine qeq hRg hFg (qce hm) fun b hb=>?_;left;have t5:qb4 H'' (upd H'' acc (.lst ((ps.map fun p=>V.ref p.1)++[V.ref b]))):=qb4.upd ea fun xs e=>by cases e
  refine⟨ps++[(b,goQ D n)],qb5 sx hacc,by rw[qa1,zL];rfl,fun p hp=>?_,by rw[zL,hms,etj,zL];rfl⟩;rcases zM.mp hp with h1|h1
  .exact t5 _ _ (hps p h1)
  .rw[zE.mp h1];exact t5 _ _ hb
 rintro H4 ⟨ps,s4,ea,hps,hms⟩;rw[zJ] at hms;obtain⟨pf,ef,hpf,hpa⟩:=(hF3.t (qb4.of s4)).row;have e14:=s4 _ _ e13;rw[ef] at e14;have plen:ps.length=W.length:=by have:=congrArg wJ hms;rw[zA,zA] at this;exact this
 have flen:pf.length=kf.length:=by have:=congrArg wJ ef;rw[zA,zA] at this;exact this.symm
 refine jnc e14 ea (by rw[zA,zA];show _<=16777216;omega) fun l2 hl2=>?_;rw[<-zL];have s5:=s4.trans (qa5 hl2 (.lst ((pf++ps).map fun p=>V.ref p.1)));have s5':jab H4 (upd H4 l2 (.lst ((pf++ps).map fun p=>V.ref p.1))):=qa5 hl2 _;have e5:upd H4 l2 (.lst ((pf++ps).map fun p=>V.ref p.1)) l2=some (.lst ((pf++ps).map fun p=>V.ref p.1)):=qa1;generalize upd H4 l2 (.lst ((pf++ps).map fun p=>V.ref p.1))=H5 at*;have s6:=s3.trans s5;have hD5:=hD.same s6;have ho5:=s6 _ _ ho;have el5:=s5 _ _ el3;have hF5:=hF3.t (qb4.of s5);have hpos:∀n∈W,∀h∈D.ln n,∃p∈pf,p.2=lf h/ldQ D W h:=fun n hn h hl=>hpa h _ (ji0 ok I.nd I.sub lf hn hl);have hfl:∀p∈pf,∃n∈W,∃h∈D.ln n,p.2=lf h/ldQ D W h:=fun p hp=>by
  obtain⟨z,hz⟩:=(hpf p hp).2;by_cases c:∃n∈W,z∈D.ln n
  .obtain⟨n,hn,hl⟩:=c;rw[ji0 ok I.nd I.sub lf hn hl] at hz;exact⟨n,hn,z,hl,(uN hz).symm⟩
  .unfold flF at hz;rw[gT c] at hz
   cases hz
 have hgo:∀p∈ps,∃n∈W,p.2=goQ D n:=fun p hp=>by
  have h1:p.2∈ps.map (·.2):=zH.mpr ⟨p,hp,rfl⟩;rw[hms] at h1;obtain⟨n,hn,e⟩:=zH.mp h1;exact⟨n,hn,e.symm⟩
 have hog:∀n∈W,∃p∈ps,p.2=goQ D n:=fun n hn=>by
  have h1:goQ D n∈ps.map (·.2):=by rw[hms];exact zH.mpr ⟨n,hn,rfl⟩
  obtain⟨p,hp,e⟩:=zH.mp h1;exact⟨p,hp,e⟩
 have hFr:FrL H5 (pf++ps):=fun p hp=>by
  rcases zM.mp hp with h1|h1
  .obtain⟨n,hn,h,hl,e⟩:=hfl p h1;exact⟨s5' _ _ (hpf p h1).1,by rw[e];exact I.rbF ok hn hl⟩
  .obtain⟨n,hn,e⟩:=hgo p h1;exact⟨s5' _ _ (hps p h1),by rw[e];exact jrz ok (I.sub n hn)⟩
 have hne:pf++ps≠ []:=fun e=>by
  have:=bW.mpr wn;have:=congrArg wJ e;rw[zQ,yL] at this;omega
 clear hl2 ea e14 s4 s5 s5' el3 hF3 e13 hw3 ho3;left;refine⟨l2,pf++ps,rfl,e5,hFr,hne,fun p hp hle=>?_⟩;have il:IsL D W lf p.2:=by
  refine⟨fun n hn=>⟨fun h hl=>?_,?_⟩,?_⟩
  .obtain⟨p',hp',e⟩:=hpos n hn h hl;rw[<-e];exact hle p' (zP _ hp')
  .obtain⟨p',hp',e⟩:=hog n hn;rw[<-e];exact hle p' (zI _ hp')
  .rcases zM.mp hp with h1|h1
   .obtain⟨n,hn,h,hl,e⟩:=hfl p h1;exact⟨n,hn,.inl ⟨h,hl,e.symm⟩⟩
   .obtain⟨n,hn,e⟩:=hgo p h1;exact⟨n,hn,.inr e.symm⟩
 have hLa:=(hFr p hp).1;have sz:=I.sz ok il;generalize p.2=L at*;generalize p.1=la at*;left;refine⟨de,t,dg,lw,dl,dgo,la,lf',S,D,HS,kg,kl,kgo,kf,W,lf,L,rfl,ok,hD5,I.sub,I.nd,hLa,el5,hF5,fun ln H6 s7 hln eln=>?_⟩;have ho6:=s7 _ _ ho5;have hLa6:qbf H6 la L:=s7 _ _ hLa;left;refine⟨de,t,dg,lw,dl,dgo,la,ln,S,D,HS,kg,kl,kgo,W,_,lf,L,rfl,ok,hD5.same s7,I.sub,I.nd,hLa6,sz.l,eln,fun n hn=>(qcz.mp hn).1,I.nd.filter _,sz.w,sz.f,fun lw' kl' H7 sb7 hlw' hD7=>?_⟩;have nae:la≠de:=fun e=>by subst e;unfold qbf at hLa6;rw[ho6] at hLa6;cases hLa6
 have nal:la≠dl:=fun e=>by subst e;unfold qbf at hLa;rw[hD5.l] at hLa;cases hLa
 have nne:ln≠de:=fun e=>by subst e;rw[ho6] at eln;cases eln
 have nnl:ln≠dl:=fun e=>by subst e;rw[(hD5.same s7).l] at eln;cases eln
 have eln7:=sb7 _ _ nne nnl eln;have hLa7:qbf H7 la L:=sb7 _ _ nae nal hLa6;left;rename_i rt hrt;have s8:=qa5 hrt (.tup [V.ref la,V.ref ln]);exact q L rt la ln lw' kl' _ il (fun b u h1 h2 e=>s8 _ _ (sb7 b u h1 h2 (s7 _ _ (s6 _ _ e)))) (s6.free hln) ((s6.trans s7).free hlw') qa1 (s8 _ _ hLa7) (s8 _ _ eln7) (hD7.same s8)
structure Rnd where
 a:Addr
 la:Addr
 ln:Addr
 L:Rat
 ns:List Str
structure jb1(H:Hp)(r:Rnd):Prop where
 t:H r.a=some (.tup [.ref r.la,.ref r.ln])
 l:qbf H r.la r.L
 n:H r.ln=some (.lst (r.ns.map V.str))
theorem jb1.sb{r:Rnd}{C dx:Addr}{fs:List (Str×V)}{kvs:List (Key×V)}(h:jb1 H r)(ea:H a=some (.ins C dx fs))(eb:H b=some (.dK kvs))(s:Sb2 a b H H'):jb1 H' r:=by
 have hl:=h.l;unfold qbf at hl;exact⟨s _ _ (fun e=>by have:=h.t;rw[e,ea] at this;cases this) (fun e=>by have:=h.t;rw[e,eb] at this;cases this) h.t,
  s _ _ (fun e=>by rw[e,ea] at hl;cases hl) (fun e=>by rw[e,eb] at hl;cases hl) hl,
  s _ _ (fun e=>by have:=h.n;rw[e,ea] at this;cases this) (fun e=>by have:=h.n;rw[e,eb] at this;cases this) h.n⟩
theorem jb1.put{r:Rnd}{xs ys:List V}(h:jb1 H r)(el:H l=some (.lst xs))(n:r.ln≠l):jb1 (upd H l (.lst ys)) r:=by
 have hl:=h.l;unfold qbf at hl;refine⟨?_,?_,?_⟩
 .rw[qa4 fun e=>by have:=h.t;rw[e,el] at this;cases this];exact h.t
 .show upd H l (.lst ys) r.la=_;rw[qa4 fun e=>by rw[e,el] at hl;cases hl];exact hl
 .rw[qa4 n];exact h.n
structure jer(D:Dl)(W:List Str)(lv:Str->Rat)(N:Nat)(rs:List Rnd):Prop where
 m:∀r∈rs,∀n∈r.ns,n∈D.W0/\n∉W/\r.L=lv n
 e:∀n∈D.W0,n∉W->∃r∈rs,n∈r.ns
 rb:∀r∈rs,RB r.L
 dv:∀r∈rs,Dv N r.L
 z:rs.length+W.length<=D.W0.length
open Classical in
theorem jer.next{D:Dl}{W:List Str}{lf lv:Str->Rat}{N N':Nat}{rs:List Rnd}{r:Rnd}(h:jer D W lv N rs)(hk:∃k:Nat,N'=N*k)(kv:Dv N' r.L)(sub:∀n∈W,n∈D.W0)(e:r.ns=rdy D W lf r.L)(rb:RB r.L)(len:(wls W (rdy D W lf r.L)).length<W.length):
  jer D (wls W (rdy D W lf r.L)) (fun n=>if n∈rdy D W lf r.L then r.L else lv n) N' (rs++[r]):=by
 refine⟨fun r' hr' n hn=>?_,fun n hn hnw=>?_,fun r' hr'=>?_,fun r' hr'=>?_,?_⟩
 .rcases zM.mp hr' with h1|h1
  .obtain⟨a1,a2,a3⟩:=h.m r' h1 n hn;refine⟨a1,fun z=>a2 (qc4.mp z).1,?_⟩;rw[gT fun z=>a2 (qcz.mp z).1];exact a3
  .have:=zE.mp h1;subst this;rw[e] at hn;exact⟨sub n (qcz.mp hn).1,fun z=>(qc4.mp z).2 hn,by rw[gU hn]⟩
 .by_cases c:n∈W
  .refine⟨r,zI _ (zE.mpr rfl),?_⟩;rw[e];exact wL fun z=>hnw (qc4.mpr ⟨c,z⟩)
  .obtain⟨r',h1,h2⟩:=h.e n hn c;exact⟨r',zP _ h1,h2⟩
 .rcases zM.mp hr' with h1|h1
  .exact h.rb r' h1
  .rw[zE.mp h1];exact rb
 .obtain⟨k,rfl⟩:=hk;rcases zM.mp hr' with h1|h1
  .exact(h.dv r' h1).mul k
  .rw[zE.mp h1];exact kv
 .have:=h.z;rw[zQ,yC];omega
open Classical in
theorem RdI.start(ok:jay D):RdI D D.W0 (fun h=>(D.rm h:Rat)) (fun _=>0) 0 1:=by
 refine⟨fun n h=>h,ok.nd,fun h=>?_,fun n hn h hl=>?_,fun n hn h hl=>?_,fun n hn=>(jn8 ok hn).1,dU,fun n hn hnw=>absurd hn hnw,∅,fun h=>⟨D.rm h,?_⟩,Nat.one_le_pow _ _ ∅⟩
 .rw[qe6 fun n hn=>gT fun z=>z.1 hn];grind
 .have:(0:Rat)<=(D.rm h:Rat):=by exact_mod_cast ok.r0 n hn h hl
  grind
 .exact_mod_cast ok.r0 n hn h hl
 .show(D.rm h:Rat)*((1:Nat):Rat)=_;grind
theorem jdq.lst{d:Ad}{H:Hp}{de t dg lw dl dgo:Addr}{S:Ts}{D:Dl}{HS:List Str}{kg kl kgo:List (Key×V)}{W:List Str}{lf:Str->Rat}{H0:Hp}{lt:Addr}{xs ys:List V}(h:jdq d H de t dg lw dl dgo S D HS kg kl kgo W lf)(el:H lt=some (.lst xs))(n:lw≠lt)(s:jab H0 (upd H lt (.lst ys)))(f1:H0 de=none)(f2:H0 dl=none)(hT:TrD d H0 t S D):jdq d (upd H lt (.lst ys)) de t dg lw dl dgo S D HS kg kl kgo W lf:=by
 obtain⟨dx,ho⟩:=h.ob;have t1:qb4 H (upd H lt (.lst ys)):=qb4.upd el fun xs e=>by cases e
 refine⟨⟨dx,?_⟩,⟨H0,s,f1,f2,hT⟩,?_,h.gA,?_,?_,h.lA.t t1,h.lz,?_,h.goA.t t1,h.nlg,h.nld,h.hs⟩
 .rw[qa4 fun e=>by rw[e,el] at ho;cases ho];exact ho
 .rw[qa4 fun e=>by have:=h.g;rw[e,el] at this;cases this];exact h.g
 .rw[qa4 n];exact h.w
 .rw[qa4 fun e=>by have:=h.l;rw[e,el] at this;cases this];exact h.l
 .rw[qa4 fun e=>by have:=h.go;rw[e,el] at this;cases this];exact h.go
inductive jdj(K:uT)(d:Ad)(vs:List V)(H:Hp)(Q:VK)(E:XK):Prop
 |mk(t dr dw dg:Addr)(S:Ts)(D:Dl)(HS:List Str)(kr kw kg:List (Key×V))(_:vs=[.ref t,.ref dr,.ref dw,.ref dg])(_:jay D)(_:vX D.W0=true)(_:TrD d H t S D)(_:H dr=some (.dK kr))(_:AD kr (qby HS D.rm))(_:HS.Nodup)(_:HS.length<=60)(_:H dw=some (.dK kw))(_:AD kw (qby D.W0 D.wa))(_:H dg=some (.dK kg))(_:AD kg (qby D.W0 D.wt))(_:dg≠dw)(_:(∀n∈D.W0,∀h∈D.ln n,h∈HS))(_:∀(lt:Addr)(rs:List Rnd)(lf lv:Str->Rat)(M:Rat)(N:Nat) H',jab H H'->H lt=none->H' lt=some (.lst (rs.map fun r=>V.ref r.a))->(∀r∈rs,jb1 H' r)->RdI D [] lf lv M N->jer D [] lv N rs->Q (.ref lt) H')
include T in
theorem wb2:jac P w K mg base (My.CX1 P w) 9 d.w6c d.w5k ["tree","rooms","wants","weights"] (jdj K d):=by
 exists okX T.w8l w5d
 .right
 obtain⟨t,dr,dw,dg,S,D,HS,kr,kw,kg,rfl,ok,srt,hT,hr0,hrA,hsn,hsl,hw,hwA,hg,hgA,ngw,hs,q⟩:=h;refine⟨_,(qa2 (qad (i:=4) w5d.nd rfl (uI rfl) (qgo T.w4a ((w9a T).mono ∅) hr rfl T.wfj T.w9f .nil qaj #[pv 0,pv 1,pv 2,pv 3]))
  (qa2 (qad (i:=5) w5d.nd rfl (uI rfl) (qbd qa3))
  (qa2 (qeb (qbh rfl rfl) (qak qfi (qaf qb3 rfl T.w3n vO #[qax (pv 4) rfl]) qa7 (qau _)) (qa6 (qb9 (qg2 vY wG wH qc8 (pv 5) #[jdb (pv 4) T.w0h T.w0e ((w5e T).mono ∅) hr T.w5w .nil qaj]))))
  (qa6 (qae (pv 5)))))),?_⟩
 walk_at"d"
 try dsimp only[cxC]
 refine qac (σ:=[sr t,sr dr,sr dw,sr dg,none,none]) rfl ?_;have cl:=T.w0h;have n3:qao K d.w00 "waiting":=T.w04;left;intro x dx hx hdx ndx;have sH:jab H (upd (upd H dx (.own x)) x (.ins d.w00 dx [])):=(qa5 hdx _).trans (qa5 (by rw[qa4 ndx.symm];exact hx) _);refine⟨x,dx,t,dr,dw,dg,D,HS,kr,kw,kg,rfl,qa1,ok,srt,sH _ _ hr0,hrA,hsn,hsl,sH _ _ hw,hwA,sH _ _ hg,hgA,ngw,fun lw dl dgo kl kgo H2 sb hlw hdl hdgo nlg ex ew el hFl jo1 eg hFg=>⟨rfl,?_⟩⟩;have s2:jab H H2:=fun b u e=>sb b u (fun z=>by subst z;rw[hx] at e;cases e) (sH b u e);have hD:jdq d H2 x t dg lw dl dgo S D HS kg kl kgo D.W0 (fun h=>(D.rm h:Rat)):=⟨⟨dx,ex⟩,⟨H,s2,hx,sH.free hdl,hT⟩,s2 _ _ hg,hgA,ew,el,hFl,jo1,eg,hFg,nlg,(fun e=>by have:=sH.free hdl;rw[e,hg] at this;cases this),hs⟩;clear sb hlw hdgo ex ew el hFl eg hFg;have hdl0:=sH.free hdl;clear hdl sH;left;rename_i lt hlt;have s3:=s2.trans (qa5 hlt (.lst []));have et:upd H2 lt (.lst []) lt=some (.lst []):=qa1;have hD3:=hD.same (qa5 hlt (.lst []));have hlt0:=s2.free hlt;have hwlt:=hD.w;generalize upd H2 lt (.lst [])=H3 at*;clear hD;refine qe5 (fun σ H'=>∃(W:List Str)(rs:List Rnd)(lf lv:Str->Rat)(M:Rat)(N:Nat)(lw:Addr)(kl:List (Key×V)),σ=[sr t,sr dr,sr dw,sr dg,sr x,sr lt]/\jab H H'/\H' lt=some (.lst (rs.map fun r=>V.ref r.a))/\jdq d H' x t dg lw dl dgo S D HS kg kl kgo W lf/\lw≠lt/\RdI D W lf lv M N/\jer D W lv N rs/\∀r∈rs,jb1 H' r/\r.ln≠lt) (fun _ H'=>D.W0.length+1-jei lt H') ?_ ?_ ?_
 .refine⟨D.W0,[],_,fun _=>0,0,1,lw,kl,rfl,s3,et,hD3,fun e=>?_,RdI.start ok,⟨fun r hr=>by simp at hr,fun n hn h=>absurd hn h,fun r hr=>by simp at hr,fun r hr=>by simp at hr,by simp⟩,fun r hr=>by simp at hr⟩;subst e;rw[hwlt] at hlt
  cases hlt
 .rintro σ H' ⟨W,rs,lf,lv,M,N,lw,kl,rfl,sm,el,hD,nlt,I,R,hrs⟩;obtain⟨dx',ho⟩:=hD.ob;have hw':=hD.w;have wl7:W.length<=7:=vK (vT I.nd I.sub) ok.l8;have lr:jei lt H'=rs.length:=by rw[qf8 el,zA]
  have rz:=R.z;have l8:=ok.l8;left;by_cases c:W=[]
  .subst c;rw[gT ∅];left;exact q lt rs lf lv M N H' sm hlt0 el (fun r hr=>(hrs r hr).1) I R
  .have w0:=bW.mpr c;rw[gU (gW (by rw[zA];omega))];have zl:(rs.map fun r=>V.ref r.a).length<sizeLine:=by rw[zA];show _<16777216;omega
   left;refine⟨x,t,dg,lw,dl,dgo,S,D,HS,kg,kl,kgo,W,lf,lv,M,N,rfl,ok,hD,I,c,fun L rt la ln lw' kl' H4 il sb4 fln flw' ert hLa eln hD4=>?_⟩;obtain⟨ML,Lb,len,N',hk',kv,I'⟩:=I.next ok il;have sz:=I.sz ok il;have nxl:lt≠x:=fun e=>by subst e;rw[ho] at el;cases el
   have ndl:lt≠dl:=fun e=>by subst e;rw[hD.l] at el;cases el
   have el4:=sb4 _ _ nxl ndl el;have nln:ln≠lt:=fun e=>by subst e;rw[el] at fln;cases fln
   have nlw:lw'≠lt:=fun e=>by subst e;rw[el] at flw';cases flw'
   have s4:jab H H4:=fun b u e=>sb4 b u (fun z=>by subst z;rw[hx] at e;cases e) (fun z=>by subst z;rw[hdl0] at e;cases e) (sm b u e);left;have s5:jab H (upd H4 lt (.lst ((rs.map fun r=>V.ref r.a)++[V.ref rt]))):=qb5 s4 hlt0;have R':jer D (wls W (rdy D W lf L)) (fun n=>if n∈rdy D W lf L then L else lv n) N' (rs++[⟨rt,la,ln,L,rdy D W lf L⟩]):=R.next (r:=⟨rt,la,ln,L,rdy D W lf L⟩) hk' kv I.sub rfl sz.l len;refine⟨⟨_,rs++[⟨rt,la,ln,L,rdy D W lf L⟩],_,_,L,N',lw',kl',rfl,s5,by rw[qa1,zL];rfl,hD4.lst el4 nlw s5 hx hdl0 hT,nlw,I',R',fun r hr=>?_⟩,?_⟩
   .rcases zM.mp hr with h1|h1
    .exact⟨((hrs r h1).1.sb ho hD.l sb4).put el4 (hrs r h1).2,(hrs r h1).2⟩
    .rw[zE.mp h1];exact⟨jb1.put ⟨ert,hLa,eln⟩ el4 nln,nln⟩
   .have g2:jei lt (upd H4 lt (.lst ((rs.map fun r=>V.ref r.a)++[V.ref rt])))=_:=qf8 qa1;rw[zQ,zA,yC] at g2;rw[g2,lr];omega
 .rintro σ H' Q1 Q2 hm ⟨v,hv,a,C,dx,fs,w,e1,e2,e3,e4,e5,p,ys,e6,e7,i,j,e8,e9,k,e10,e11⟩;exact⟨v,hv,a,C,dx,fs,w,e1,e2,e3,e4,e5,p,ys,e6,e7,i,j,e8,e9,k,e10,hm _ _ e11⟩
section
variable(D:Dl)
noncomputable def shQ(lv:Str->Rat)(n:Str):Rat:=lv n*(D.wt n:Rat)
noncomputable def toQ(lv:Str->Rat)(V:List Str)(h:Str):Rat:=qc3 V fun n=>if h∈D.ln n then shQ D lv n else 0
open Classical in
noncomputable def onF(V:List Str)(g:Str->Rat):Str->Option Rat:=fun h=>if ∃n∈V,h∈D.ln n then some (g h) else none
structure Top(V:List Str)(lv tp:Str->Rat):Prop where
 ex:∀h,(∃n∈V,h∈D.ln n)->∃n∈V,h∈D.ln n/\tp h=lv n
 ge:∀h,∀n∈V,h∈D.ln n->lv n<=tp h
open Classical in
noncomputable def tpN(V:List Str)(lv tp:Str->Rat)(n h:Str):Rat:=if ∃m∈V,h∈D.ln m then(if tp h<lv n then lv n else tp h) else lv n
end
theorem jl7{K:uT}(ha:qbf H a q)(hb:qbf H b r)(c:a≠b):DEq K H 1 (.ref a) (.ref b) (decide (q=r)):=by
 have key:((vG (min [V.int q.num,V.int (q.den:Int)].length [V.int r.num,V.int (r.den:Int)].length)).all (fun j=>if j=0 then eqV (V.int q.num) (V.int r.num) else eqV (V.int (q.den:Int)) (V.int (r.den:Int))) && [V.int q.num,V.int (q.den:Int)].length==[V.int r.num,V.int (r.den:Int)].length)=decide (q=r):=by
  show((eqV (V.int q.num) (V.int r.num) && (eqV (V.int (q.den:Int)) (V.int (r.den:Int)) && true)) && true)=_;show((decide (q.num=r.num) && (decide ((q.den:Int)=(r.den:Int)) && true)) && true)=_;by_cases e1:q.num=r.num
  .by_cases e2:q.den=r.den
   .rw[gW e1,gW (by rw[e2]),gW (Rat.ext e1 e2)];rfl
   .rw[gW e1,gX #[],gX (p:=q=r) (fun z=>e2 (by rw[z]))];rfl
  .rw[gX e1,gX (p:=q=r) (fun z=>e1 (by rw[z]))];rfl
 rw[<-key];refine .ts (SqT.of ha) (SqT.of hb) c fun j h1 h2=>?_;have:j<2:=h1;obtain rfl|rfl:j=0\/j=1:=by omega
 .exact .flat rfl rfl
 .exact .flat rfl rfl
theorem qgi{f:Str->Rat}:∀{l:List Str} {n:Str},qc3 (l++[n]) f=qc3 l f+f n
 | [],n=>by show f n+0=0+f n;grind
 |m::l,n=>by
  show f m+qc3 (l++[n]) f=f m+qc3 l f+f n;rw[qgi];grind
theorem jdk{f:Str->Rat}{l l':List Str}(h:l.Perm l'):qc3 l f=qc3 l' f:=by
 induction h with
 |nil=>rfl
 |cons x _ ih=>show f x+qc3 _ f=f x+qc3 _ f;rw[ih]
 |swap x y l=>show f y+(f x+qc3 l f)=f x+(f y+qc3 l f);grind
 |trans _ _ a b=>rw[a,b]
section
variable{D:Dl}
theorem joc(lv:Str->Rat)(V:List Str)(n h:Str):toQ D lv (V++[n]) h=toQ D lv V h+if h∈D.ln n then shQ D lv n else 0:=by unfold toQ;rw[qgi]
def jfv{V:List Str}(hn:¬∃n∈V,h∈D.ln n):toQ D lv V h=0:=qe6 fun n hv=>gT fun z=>hn ⟨n,hv,z⟩
theorem qfs{V:List Str}{n:Str} :(∃m∈V++[n],h∈D.ln m)↔(∃m∈V,h∈D.ln m)\/h∈D.ln n:=by
 constructor
 .rintro⟨m,hm,hl⟩;rcases zM.mp hm with h1|h1
  .exact .inl ⟨m,h1,hl⟩
  .rw[zE.mp h1] at hl;exact .inr hl
 .rintro(⟨m,hm,hl⟩|hl)
  .exact⟨m,zP _ hm,hl⟩
  .exact⟨n,zI _ (zE.mpr rfl),hl⟩
open Classical in
theorem Top.app{V:List Str}{tp:Str->Rat}(h:Top D V lv tp)(n:Str):Top D (V++[n]) lv (fun x=>if x∈D.ln n then tpN D V lv tp n x else tp x):=by
 refine⟨fun x hx=>?_,fun x m hm hl=>?_⟩
 .have hx:=qfs.mp hx
  try dsimp only
  by_cases c:x∈D.ln n
  .rw[gU c];unfold tpN;by_cases c2:∃m∈V,x∈D.ln m
   .rw[gU c2];by_cases c3:tp x<lv n
    .rw[gU c3];exact⟨n,zI _ (zE.mpr rfl),c,rfl⟩
    .rw[gT c3];obtain⟨m,hm,hl,e⟩:=h.ex x c2;exact⟨m,zP _ hm,hl,e⟩
   .rw[gT c2];exact⟨n,zI _ (zE.mpr rfl),c,rfl⟩
  .rw[gT c];obtain⟨m,hm,hl,e⟩:=h.ex x (hx.resolve_right c);exact⟨m,zP _ hm,hl,e⟩
 .try dsimp only
  by_cases c:x∈D.ln n
  .rw[gU c];unfold tpN;rcases zM.mp hm with h1|h1
   .have:=h.ge x m h1 hl;rw[gU ⟨m,h1,hl⟩]
    split<;>grind
   .rw[zE.mp h1]
    split
    .split<;>grind
    .exact dU
  .rw[gT c];rcases zM.mp hm with h1|h1
   .exact h.ge x m h1 hl
   .rw[zE.mp h1] at hl;exact absurd hl c
end
def fsS(t dr dlv dto dtp:Addr):List (Str×V):=[("tree",.ref t),("rooms",.ref dr),("levels",.ref dlv),("totals",.ref dto),("tops",.ref dtp)]
structure LvB(D:Dl)(lv:Str->Rat):Prop where
 l0:∀n∈D.W0,0<=lv n
 rl:∀n∈D.W0,RB (lv n)
 rs:∀n∈D.W0,RB (shQ D lv n)
 rt:∀V:List Str,V.Nodup->(∀n∈V,n∈D.W0)->∀h,RB (toQ D lv V h)
theorem jr0(ok:jay D){lv:Str->Rat}{n:Str}(hn:n∈D.W0):shQ D lv n /(D.wt n:Rat)=lv n:=by
 have:=(wtQ ok hn).1;unfold shQ;exact(jix (by grind)).mpr rfl
theorem jes{H Hk:Hp}{x dx C dl:Addr}{fs fs':List (Str×V)}(sb:SameBut x H Hk)(ex:Hk x=some (.ins C dx fs))(fr:∀b,Hk b=none->H b=none)(hd:Hk dl=none):
  SameBut x H (upd (upd Hk dl (.dK [])) x (.ins C dx fs'))/\upd (upd Hk dl (.dK [])) x (.ins C dx fs') x=some (.ins C dx fs')/\upd (upd Hk dl (.dK [])) x (.ins C dx fs') dl=some (.dK [])/\(∀b,upd (upd Hk dl (.dK [])) x (.ins C dx fs') b=none->H b=none)/\dl≠x/\H dl=none:=by
 have ne:dl≠x:=fun e=>by subst e;rw[ex] at hd;cases hd
 refine⟨fun b u hb e=>?_,qa1,?_,fun b hb=>?_,ne,fr _ hd⟩
 .rw[qa4 hb];exact qaa (sb b u hb e) hd
 .rw[qa4 ne];exact qa1
 .by_cases c:b=x
  .subst c;rw[qa1] at hb;cases hb
  .rw[qa4 c] at hb;by_cases c2:b=dl
   .subst c2;exact fr _ hd
   .rw[qa4 c2] at hb;exact fr _ hb
theorem jl8{dz:Addr}{kvs:List (Key×V)}{q0:Rat}(d:Rd H a (.dK kvs))(A:FD H kvs φ)(e:qbf H dz q0)(h:∀b,qbf H b ((φ z).getD q0)->Q (.ref b) H):rDG a (.str z) (.ref dz) H Q:=by
 refine⟨qci kvs (uH z),.inl ⟨kvs,uH z,d,rfl,rfl⟩,?_⟩
 cases c:φ z with
 |none=>rw[A.no z c];rw[c] at h;exact h dz e
 |some q=>
  obtain⟨b,e1,e2⟩:=A.get z q c;rw[e1];rw[c] at h;exact h b e2
theorem jod{V:List Str}{g:Str->Rat}{q0:Rat}(e:(¬∃n∈V,h∈D.ln n)->g h=q0):(onF D V g h).getD q0=g h:=by
 unfold onF;by_cases c:∃n∈V,h∈D.ln n
 .rw[gU c];rfl
 .rw[gT c];exact(e c).symm
def Sb4(a b c e:Addr)(H H':Hp):Prop:=∀y u,y≠a->y≠b->y≠c->y≠e->H y=some u->H' y=some u
inductive jdl(K:uT)(d:Ad)(vs:List V)(H:Hp)(Q:VK)(E:XK):Prop
 |mk(x dx t dr ds dg:Addr)(S:Ts)(D:Dl)(lv:Str->Rat)(ks kg:List (Key×V))(_:vs=[.ref x,.ref t,.ref dr,.ref ds,.ref dg])(_:H x=some (.ins d.w05 dx []))(_:jay D)(_:(∃H0,jab H0 H/\H0 x=none/\H0 ds=none/\TrD d H0 t S D))(_:LvB D lv)(_:H ds=some (.dK ks))(_:FD H ks (qdt D.W0 (shQ D lv)))(_:(∃fs:List Str,ks.map (·.1)=fs.map uH/\fs.Perm D.W0))(_:H dg=some (.dK kg))(_:AD kg (qby D.W0 D.wt))(_:dg≠ds)(_:∀(dlv dto dtp:Addr)(klv kto ktp:List (Key×V))(tp:Str->Rat) H',SameBut x H H'->H' x=some (.ins d.w05 dx (fsS t dr dlv dto dtp))->H' dlv=some (.dK klv)->FD H' klv (qdt D.W0 lv)->H' dto=some (.dK kto)->FD H' kto (onF D D.W0 (toQ D lv D.W0))->H' dtp=some (.dK ktp)->FD H' ktp (onF D D.W0 tp)->Top D D.W0 lv tp->H dlv=none->H dto=none->H dtp=none->Q .non H')
include T in
theorem wbp:jac P w K mg base (My.CX1 P w) 6 d.w61 d.w53 ["self","tree","rooms","shares","weights"] (jdl K d):=by
 exists okX T.wce w3t
 .right
 obtain⟨x,dx,t,dr,ds,dg,S,D,lv,ks,kg,rfl,hx,ok,⟨H0,s0,f0x,f0s,hT0⟩,hB,hs,hsF,⟨fs,efs,pfs⟩,hg,hgA,ngs,q⟩:=h;refine⟨_,(qa2 (qc9 (pv 0) (pv 1) rfl)
  (qa2 (qc9 (pv 0) (pv 2) rfl)
  (qa2 (qc9 (pv 0) qb1 rfl)
  (qa2 (qc9 (pv 0) qb1 rfl)
  (qa2 (qc9 (pv 0) qb1 rfl)
  (qa6 (qec (qb2 (qbh rfl rfl) rfl (qcy (pv 3)) (qab (i:=5) w3t.nd rfl (uI rfl)) (qa2 (qad (i:=6) w3t.nd rfl (uI rfl) (qaw ((w9q T).mono ∅) hr rfl T.wc1 T.w8q.kp T.wb4 .nil qaj #[pv 3|||pv 5,qcc #[pv 4|||pv 5,qa7]]))
  (qa2 (qbg (qav hr) (qax (pv 0) rfl) (pv 5) (pv 6) rfl)
  (qa6 (qb2 (qbh rfl rfl) rfl (qb0 (qas (pv 1) T.w02 T.w08 ((w0l T).mono ∅) hr T.w0u .nil qaj #[pv 5])) (qab (i:=7) w3t.nd rfl (uI rfl)) (qa2 (qbg (qav hr) (qax (pv 0) rfl) (pv 7) (qaw ((whx T).mono ∅) hr rfl T.wi7 T.wgq.kp T.wi9 .nil qaj #[qf4 (qav hr) (qax (pv 0) rfl) (pv 7) (qcc #[qa7,qa7]) ⟨rfl,rfl,rfl,rfl⟩,pv 3|||pv 5]) rfl)
  (qa6 (qdg (qb8 (qbj (qag ((wa3 T).mono ∅) hr rfl T.wcj T.wau.kp T.wdi .nil qaz #[qf4 (qav hr) (qax (pv 0) rfl) (pv 7) (qcc #[jph jk9 qa7,qa7]) ⟨rfl,rfl,rfl,rfl⟩,pv 6])) (qa6 (qbg (qav hr) (qax (pv 0) rfl) (pv 7) (pv 6) rfl)) qap)))))))))))))))),?_⟩
 walk_at"d"
 try dsimp only[cxC]
 refine qac (σ:=[sr x,sr t,sr dr,sr ds,sr dg,none,none,none]) rfl ?_;have cl:=T.w5q;have ct:=T.w02;have n1:qao K d.w05 "tree":=T.w21;have n2:qao K d.w05 "rooms":=T.w1j;have n3:qao K d.w05 "levels":=T.w1g;have n4:qao K d.w05 "totals":=T.w1d;have n5:qao K d.w05 "tops":=T.w20;have nxs:ds≠x:=fun e=>by subst e;rw[hx] at hs;cases hs
 have nxg:dg≠x:=fun e=>by subst e;rw[hx] at hg;cases hg
 left;refine qdx qa1 cl n2 (by show 1<1000;decide) ?_;rw[show qds "rooms" (.ref dr) (qds "tree" (.ref t) [])=(fsS t dr x x x).take 2 from rfl,qcx];have sb1:SameBut x H (upd H x (.ins d.w05 dx ((fsS t dr x x x).take 2))):=fun b u hb e=>by rw[qa4 hb];exact e
 have ex1:upd H x (.ins d.w05 dx ((fsS t dr x x x).take 2)) x=some (.ins d.w05 dx ((fsS t dr x x x).take 2)):=qa1;have fr1:∀b,upd H x (.ins d.w05 dx ((fsS t dr x x x).take 2)) b=none->H b=none:=fun b hb=>by
  by_cases c:b=x
  .subst c;rw[qa1] at hb;cases hb
  .rw[qa4 c] at hb;exact hb
 generalize upd H x (.ins d.w05 dx ((fsS t dr x x x).take 2))=H1 at*;left;rename_i dlv hdlv;obtain⟨sb2,ex2,e12,fr2,g1,fdlv⟩:=jes (fs':=(fsS t dr dlv x x).take 3) sb1 ex1 fr1 hdlv;refine qdx (qaa ex1 hdlv) cl n3 (by show 2<1000;decide) ?_;rw[show qds "levels" (.ref dlv) ((fsS t dr x x x).take 2)=(fsS t dr dlv x x).take 3 from rfl];generalize upd (upd H1 dlv (.dK [])) x (.ins d.w05 dx ((fsS t dr dlv x x).take 3))=H2 at*;clear sb1 ex1 fr1 hdlv;left;rename_i dto hdto;obtain⟨sb3,ex3,e23,fr3,g2,fdto⟩:=jes (fs':=(fsS t dr dlv dto x).take 4) sb2 ex2 fr2 hdto;have ntl:dto≠dlv:=fun e=>by subst e;rw[e12] at hdto;cases hdto
 have e13:upd (upd H2 dto (.dK [])) x (.ins d.w05 dx ((fsS t dr dlv dto x).take 4)) dlv=some (.dK []):=by rw[qa4 g1];exact qaa e12 hdto
 refine qdx (qaa ex2 hdto) cl n4 (by show 3<1000;decide) ?_;rw[show qds "totals" (.ref dto) ((fsS t dr dlv x x).take 3)=(fsS t dr dlv dto x).take 4 from rfl];generalize upd (upd H2 dto (.dK [])) x (.ins d.w05 dx ((fsS t dr dlv dto x).take 4))=H3 at*;clear sb2 ex2 fr2 hdto e12;left;rename_i dtp hdtp;obtain⟨sb4,ex4,e34,fr4,g3,fdtp⟩:=jes (fs':=fsS t dr dlv dto dtp) sb3 ex3 fr3 hdtp;have npl:dtp≠dlv:=fun e=>by subst e;rw[e13] at hdtp;cases hdtp
 have npt:dtp≠dto:=fun e=>by subst e;rw[e23] at hdtp;cases hdtp
 have e14:upd (upd H3 dtp (.dK [])) x (.ins d.w05 dx (fsS t dr dlv dto dtp)) dlv=some (.dK []):=by rw[qa4 g1];exact qaa e13 hdtp
 have e24:upd (upd H3 dtp (.dK [])) x (.ins d.w05 dx (fsS t dr dlv dto dtp)) dto=some (.dK []):=by rw[qa4 g2];exact qaa e23 hdtp
 refine qdx (qaa ex3 hdtp) cl n5 (by show 4<1000;decide) ?_;rw[show qds "tops" (.ref dtp) ((fsS t dr dlv dto x).take 4)=fsS t dr dlv dto dtp from rfl];generalize upd (upd H3 dtp (.dK [])) x (.ins d.w05 dx (fsS t dr dlv dto dtp))=H4 at*;clear sb3 ex3 fr3 hdtp e13 e23 fr4;have hs4:=sb4 _ _ nxs hs;have hg4:=sb4 _ _ nxg hg;have nsl:dlv≠ds:=fun e=>by subst e;rw[fdlv] at hs;cases hs
 have nst:dto≠ds:=fun e=>by subst e;rw[fdto] at hs;cases hs
 have nsp:dtp≠ds:=fun e=>by subst e;rw[fdtp] at hs;cases hs
 have ngl:dg≠dlv:=fun e=>by subst e;rw[fdlv] at hg;cases hg
 have ngt:dg≠dto:=fun e=>by subst e;rw[fdto] at hg;cases hg
 have ngp:dg≠dtp:=fun e=>by subst e;rw[fdtp] at hg;cases hg
 have klen:ks.length=fs.length:=by have:=congrArg wJ efs;rw[zA,zA] at this;exact this
 have fsnd:fs.Nodup:=pfs.nodup_iff.mpr ok.nd;have fsub:∀n∈fs,n∈D.W0:=fun n hn=>pfs.mem_iff.mp hn;have f7:fs.length<=7:=by rw[pfs.length_eq];exact ok.l8
 have f0l:H0 dlv=none:=s0.free fdlv;have f0t:H0 dto=none:=s0.free fdto;have f0p:H0 dtp=none:=s0.free fdtp;left;refine qg1 hs4 fun o=>?_;refine qen (fun i σ H'=>∃(klv kto ktp:List (Key×V))(tp:Str->Rat)(w1 w2 w3:Option V),σ=[sr x,sr t,sr dr,sr ds,sr dg,w1,w2,w3]/\Sb4 ds dlv dto dtp H4 H'/\H' ds=some (.frz o (.dK ks))/\H' dlv=some (.dK klv)/\H' dto=some (.dK kto)/\H' dtp=some (.dK ktp)/\FD H' klv (qdt (fs.take i) lv)/\FD H' kto (onF D (fs.take i) (toQ D lv (fs.take i)))/\FD H' ktp (onF D (fs.take i) tp)/\Top D (fs.take i) lv tp/\klv.length<=i/\kto.length<=20*i/\ktp.length<=20*i)
  ⟨[],[],[],fun _=>0,none,none,none,rfl,fun b u n1 _ _ _ e=>by rw[qa4 n1];exact e,qa1,by rw[qa4 nsl];exact e14,by rw[qa4 nst];exact e24,by rw[qa4 nsp];exact e34,FD.nil.cast fun z=>rfl,FD.nil.cast fun z=>(gT fun⟨n,hn,_⟩=>by simp at hn).symm,FD.nil.cast fun z=>(gT fun⟨n,hn,_⟩=>by simp at hn).symm,⟨fun h ⟨n,hn,_⟩=>by simp at hn,fun h n hn=>by simp at hn⟩,uG _,uG _,uG _⟩ ?_ ?_ ?_
 .rintro i σ H' _ ⟨klv,kto,ktp,tp,w1,w2,w3,rfl,sb,fz,_⟩;exact fz
 .rintro i k v σ H' hk ⟨klv,kto,ktp,tp,w1,w2,w3,rfl,sb,fz,elv,eto,etp,hlv,hto,htp,hT,z1,z2,z3⟩;obtain⟨n,a,q0,rfl,rfl,hfr,hf⟩:=hsF.at hk;have hi:i<fs.length:=by rw[<-klen];exact(uF.mp hk).1
  have hni:fs[i]?=some n:=by
   have h1:(ks.map (·.1))[i]?=some (uH n):=by rw[zC,hk];rfl
   rw[efs,zC] at h1;obtain⟨m,hm,e⟩:=uK.mp h1;rw[hm,yY e]
  have hn0:=fsub n (zG hni);have eq0:q0=shQ D lv n:=by rw[qce hn0] at hf;exact(uN hf).symm
  subst eq0;have etk:fs.take (i+1)=fs.take i++[n]:=by rw[zN,hni];rfl
  have hRs:Rd H' ds (.dK ks):=.inr ⟨o,fz⟩;have t4:qb4 H H':=fun a xs e=>sb a _ (fun z=>by subst z;rw[hs] at e;cases e) (fun z=>by subst z;rw[fdlv] at e;cases e) (fun z=>by subst z;rw[fdto] at e;cases e) (fun z=>by subst z;rw[fdtp] at e;cases e) (sb4 _ _ (fun z=>by subst z;rw[hx] at e;cases e) e);have hFs:=hsF.t t4;have hRg:Rd H' dg (.dK kg):=.inl (sb _ _ ngs ngl ngt ngp hg4);have gw:qby D.W0 D.wt n=some (D.wt n):=qbi hn0;have ex':=sb _ _ nxs.symm g1.symm g2.symm g3.symm ex4;have wa1:=ok.w1 n hn0;have wa2:=ok.w2 n hn0;have zl:klv.length<sizeLine:=by show _<16777216;omega
  show qek _ (.str n) _ _ _;left;refine qeq hRs hFs (qce hn0) fun sa hsa=>?_;left;rename_i tp1 htp1;have s5:=qa5 htp1 (.tup [V.int (D.wt n),V.int 1]);have hfr5:qbf (upd H' tp1 (.tup [V.int (D.wt n),V.int 1])) tp1 ((D.wt n:Int):Rat):=qel qa1;generalize upd H' tp1 (.tup [V.int (D.wt n),V.int 1])=H5 at*;have wq:=(wtQ ok hn0).1;refine⟨sa,tp1,_,_,rfl,s5 _ _ hsa,hfr5,hB.rs n hn0,jdf (vI (show(D.wt n).natAbs<=1000 by omega) ∅),by grind,fun r hr=>?_⟩;rw[jr0 ok hn0];have s6:=s5.trans (qa5 hr (frO (lv n)));have hl6:qbf (upd H5 r (frO (lv n))) r (lv n):=qa1;generalize upd H5 r (frO (lv n))=H6 at*;have ex6:=s6 _ _ ex';have elv6:=s6 _ _ elv;clear hr htp1 s5 hfr5 hsa;obtain⟨e,ae,ew,hlN⟩:=hT0.ln n hn0;have lz:=ok.lz n hn0;have lnd:=ok.ld n hn0;have sT:jab H0 (upd H6 dlv (.dK (qbl klv (uH n) (.ref r)))):=fun b u e=>by
   rw[qa4 fun z=>by subst z;rw[f0l] at e;cases e];exact s6 _ _ (sb b u (fun z=>by subst z;rw[f0s] at e;cases e) (fun z=>by subst z;rw[f0l] at e;cases e) (fun z=>by subst z;rw[f0t] at e;cases e) (fun z=>by subst z;rw[f0p] at e;cases e) (sb4 b u (fun z=>by subst z;rw[f0x] at e;cases e) (s0 b u e)))
  obtain⟨tx,ht⟩:=id (hT0.tr.same sT).1;have lput:=qay klv (uH n) (.ref r);have t6:qb4 H' (upd H6 dlv (.dK (qbl klv (uH n) (.ref r)))):=(qb4.of s6).trans (qb4.upd elv6 fun xs e=>by cases e);have hlv7:FD (upd H6 dlv (.dK (qbl klv (uH n) (.ref r)))) (qbl klv (uH n) (.ref r)) (qdt (fs.take (i+1)) lv):=(((hlv.t (qb4.of s6)).put n hl6).t (qb4.upd elv6 fun xs e=>by cases e)).cast fun y=>by
   have tk:y∈fs.take (i+1)↔y∈fs.take i\/y=n:=qar hni y;unfold qdt;by_cases c:y=n
   .rw[gU c,gU (tk.mpr (.inr c)),c]
   .rw[gT c];by_cases c2:y∈fs.take i
    .rw[gU c2,gU (tk.mpr (.inl c2))]
    .rw[gT c2,gT fun h'=>(tk.mp h').elim c2 c]
  have sb7:Sb4 ds dlv dto dtp H4 (upd H6 dlv (.dK (qbl klv (uH n) (.ref r)))):=fun y u a1 a2 a3 a4 e=>by rw[qa4 a2];exact s6 _ _ (sb y u a1 a2 a3 a4 e)
  have fz7:upd H6 dlv (.dK (qbl klv (uH n) (.ref r))) ds=some (.frz o (.dK ks)):=by rw[qa4 nsl.symm];exact s6 _ _ fz
  have eto7:upd H6 dlv (.dK (qbl klv (uH n) (.ref r))) dto=some (.dK kto):=by rw[qa4 ntl];exact s6 _ _ eto
  have etp7:upd H6 dlv (.dK (qbl klv (uH n) (.ref r))) dtp=some (.dK ktp):=by rw[qa4 npl];exact s6 _ _ etp
  have ex7:upd H6 dlv (.dK (qbl klv (uH n) (.ref r))) x=some (.ins d.w05 dx (fsS t dr dlv dto dtp)):=by rw[qa4 g1.symm];exact ex6
  have elv7:upd H6 dlv (.dK (qbl klv (uH n) (.ref r))) dlv=some (.dK (qbl klv (uH n) (.ref r))):=qa1;have hl7:qbf (upd H6 dlv (.dK (qbl klv (uH n) (.ref r)))) r (lv n):=qb4.upd elv6 (fun xs e=>by cases e) _ _ hl6;left;generalize upd H6 dlv (.dK (qbl klv (uH n) (.ref r)))=H7 at*;have hto7:=hto.t t6;have htp7:=htp.t t6;clear sb s6 ex6 elv6 hl6 ex' hRs hFs t4 hRg hlv elv fz eto etp zl hto htp t6;refine⟨t,S,.str n,rfl,hT0.tr.same sT,.inl ⟨n,_,rfl,hlN,#[],fun ll hll=>?_⟩⟩;have s8:=qa5 hll (.lst ((D.ln n).map V.str));have ell:upd H7 ll (.lst ((D.ln n).map V.str)) ll=some (.lst ((D.ln n).map V.str)):=qa1;have sb8:Sb4 ds dlv dto dtp H4 (upd H7 ll (.lst ((D.ln n).map V.str))):=fun y u a1 a2 a3 a4 e=>s8 _ _ (sb7 y u a1 a2 a3 a4 e);have fz8:=s8 _ _ fz7;have eto8:=s8 _ _ eto7;have etp8:=s8 _ _ etp7;have ex8:=s8 _ _ ex7;have elv8:=s8 _ _ elv7;have hl8:qbf _ r (lv n):=s8 _ _ hl7;have hlv8:=hlv7.t (qb4.of s8);have hto8:=hto7.t (qb4.of s8);have htp8:=htp7.t (qb4.of s8);generalize upd H7 ll (.lst ((D.ln n).map V.str))=H8 at*;clear sb7 fz7 eto7 etp7 ex7 elv7 hl7 hlv7 hto7 htp7 s8 hll ht sT;have t8:qb4 H H8:=fun a xs e=>sb8 a _ (fun z=>by subst z;rw[hs] at e;cases e) (fun z=>by subst z;rw[fdlv] at e;cases e) (fun z=>by subst z;rw[fdto] at e;cases e) (fun z=>by subst z;rw[fdtp] at e;cases e) (sb4 _ _ (fun z=>by subst z;rw[hx] at e;cases e) e);have hFs8:=hsF.t t8;have nlo:ll≠dto:=fun z=>by subst z;rw[ell] at eto8;cases eto8
  have nlp:ll≠dtp:=fun z=>by subst z;rw[ell] at etp8;cases etp8
  have nrt:r≠dto:=fun z=>by subst z;unfold qbf at hl8;rw[eto8] at hl8;cases hl8
  have nrp:r≠dtp:=fun z=>by subst z;unfold qbf at hl8;rw[etp8] at hl8;cases hl8
  left;refine qbt (xs:=(D.ln n).map V.str) (fun j σ Hx=>∃(kto' ktp':List (Key×V))(w3:Option V),σ=[sr x,sr t,sr dr,sr ds,sr dg,some (.str n),sr r,w3]/\Sb2 dto dtp H8 Hx/\Hx dto=some (.dK kto')/\Hx dtp=some (.dK ktp')/\FD Hx kto' (fun h=>if h∈(D.ln n).take j then some (toQ D lv (fs.take i) h+shQ D lv n) else onF D (fs.take i) (toQ D lv (fs.take i)) h)/\FD Hx ktp' (fun h=>if h∈(D.ln n).take j then some (tpN D (fs.take i) lv tp n h) else onF D (fs.take i) tp h)/\kto'.length<=20*i+j/\ktp'.length<=20*i+j) ⟨kto,ktp,_,rfl,fun b u _ _ e=>e,eto8,etp8,hto8.cast fun z=>by simp,htp8.cast fun z=>by simp,#[],#[]⟩ ?_ ?_ ?_
  .rintro j σ Hx _ ⟨kto',ktp',w3,rfl,s9,_⟩;exact SqL.of (s9 _ _ nlo nlp ell)
  .rintro j v σ Hx hv ⟨kto',ktp',w3,rfl,s9,eto9,etp9,hto9,htp9,z4,z5⟩;rw[zC] at hv;obtain⟨h,hh,rfl⟩:=uK.mp hv;have hj:=(uF.mp hh).1;have hhl:=zG hh;have hnt:h∉(D.ln n).take j:=qf7 lnd hh;have tk:∀y,y∈(D.ln n).take (j+1)↔y∈(D.ln n).take j\/y=h:=qar hh;have ex9:=s9 _ _ g2.symm g3.symm ex8;have hRt:Rd Hx dto (.dK kto'):=.inl eto9;have ftk:∀m∈fs.take i,m∈D.W0:=fun m hm=>fsub m (yH hm);have rto:=hB.rt (fs.take i) (fsnd.sublist (fT _ _)) ftk h;have rsh:=hB.rs n hn0;have rlv:=hB.rl n hn0;have rlA:=hB.rl;have lv0:=hB.l0 n hn0;have fz9:=s9 _ _ nst.symm nsp.symm fz8;have tS9:qb4 H8 Hx:=fun a xs e=>s9 a _ (fun z=>by subst z;rw[eto8] at e;cases e) (fun z=>by subst z;rw[etp8] at e;cases e) e;have hFs9:=hFs8.t tS9;have hl9:qbf Hx r (lv n):=tS9 _ _ hl8;have z6:kto'.length<sizeLine:=by show _<16777216;omega
   have z7:ktp'.length<sizeLine:=by show _<16777216;omega
   have lput1:=fun v=>qay kto' (uH h) v;have lput2:=fun v=>qay ktp' (uH h) v;clear hv hlv8 hto8 htp8 hFs8 hl8 elv8 ex8 sb8 etk hni hk hgA hg4 hs4 sb4 ex4 e14 e24 e34 t8 tS9 fz8 eto8 etp8 q;clear hB hsF hT0 f0x f0s s0 f0l f0t f0p efs pfs klen fsnd fsub hf hfr gw hlN ae ew ngl ngt ngp nsl;left;rename_i p1 hp1;have s10:=qa5 hp1 (.tup [V.int 0,V.int 1]);have hz1:qbf (upd Hx p1 (.tup [V.int 0,V.int 1])) p1 ((0:Int):Rat):=qel qa1;generalize upd Hx p1 (.tup [V.int 0,V.int 1])=Hy at*;refine jl8 (.inl (s10 _ _ eto9)) (hto9.t (qb4.of s10)) hz1 fun b hb=>?_;rw[gT hnt,jod (q0:=((0:Int):Rat)) fun c=>(jfv c).trans rfl] at hb;left;refine qeq (.inr ⟨o,s10 _ _ fz9⟩) (hFs9.t (qb4.of s10)) (qce hn0) fun sa hsa=>?_;left;refine⟨b,sa,_,_,rfl,hb,hsa,rto,rsh,fun r2 hr2=>?_⟩;have s11:=s10.trans (qa5 hr2 (frO (toQ D lv (fs.take i) h+shQ D lv n)));have hq2:qbf (upd Hy r2 (frO (toQ D lv (fs.take i) h+shQ D lv n))) r2 (toQ D lv (fs.take i) h+shQ D lv n):=qa1;generalize upd Hy r2 (frO (toQ D lv (fs.take i) h+shQ D lv n))=Hz at*;clear hr2 hp1 hz1 hb hsa s10 hRt rto rsh fz9 hFs9;have ex11:=s11 _ _ ex9;have eto11:=s11 _ _ eto9;have etp11:=s11 _ _ etp9;have hto11:=(hto9.t (qb4.of s11)).put h hq2;have htp11:=htp9.t (qb4.of s11);have hl11:qbf Hz r (lv n):=s11 _ _ hl9;clear ex9 eto9 etp9 hto9 htp9 hl9;have z8:=lput1 (.ref r2);clear lput1;left;have t12:qb4 Hz (upd Hz dto (.dK (qbl kto' (uH h) (.ref r2)))):=qb4.upd eto11 fun xs e=>by cases e
   have sb12:Sb2 dto dtp H8 (upd Hz dto (.dK (qbl kto' (uH h) (.ref r2)))):=fun b u a1 a2 e=>by rw[qa4 a1];exact s11 _ _ (s9 b u a1 a2 e)
   have eto12:upd Hz dto (.dK (qbl kto' (uH h) (.ref r2))) dto=some (.dK (qbl kto' (uH h) (.ref r2))):=qa1;have etp12:upd Hz dto (.dK (qbl kto' (uH h) (.ref r2))) dtp=some (.dK ktp'):=by rw[qa4 npt];exact etp11
   have ex12:upd Hz dto (.dK (qbl kto' (uH h) (.ref r2))) x=some (.ins d.w05 dx (fsS t dr dlv dto dtp)):=by rw[qa4 g2.symm];exact ex11
   have hto12:FD (upd Hz dto (.dK (qbl kto' (uH h) (.ref r2)))) (qbl kto' (uH h) (.ref r2)) (fun h=>if h∈(D.ln n).take (j+1) then some (toQ D lv (fs.take i) h+shQ D lv n) else onF D (fs.take i) (toQ D lv (fs.take i)) h):=(hto11.t t12).cast fun y=>by
    try dsimp only
    by_cases c:y=h
    .rw[gU c,gU ((tk y).mpr (.inr c)),c]
    .rw[gT c];by_cases c2:y∈(D.ln n).take j
     .rw[gU c2,gU ((tk y).mpr (.inl c2))]
     .rw[gT c2,gT fun h'=>((tk y).mp h').elim c2 c]
   have htp12:=htp11.t t12;have hl12:qbf _ r (lv n):=t12 _ _ hl11;generalize upd Hz dto (.dK (qbl kto' (uH h) (.ref r2)))=H9 at*;generalize qbl kto' (uH h) (.ref r2)=kto9 at*;clear ex11 eto11 etp11 hto11 htp11 hl11 t12 s11 hq2 s9;have hRp:Rd H9 dtp (.dK ktp'):=.inl etp12;refine qff ?_;left;rename_i p2 hp2;have s13:=qa5 hp2 (.tup [V.int (-1),V.int 1]);have hz2:qbf (upd H9 p2 (.tup [V.int (-1),V.int 1])) p2 (((-1:Int)):Rat):=qel qa1;generalize upd H9 p2 (.tup [V.int (-1),V.int 1])=Hw at*;refine jl8 (.inl (s13 _ _ etp12)) (htp12.t (qb4.of s13)) hz2 fun b hb=>?_;rw[gT hnt] at hb;have hl13:qbf Hw r (lv n):=s13 _ _ hl12;have ex13:=s13 _ _ ex12;have etp13:=s13 _ _ etp12;have htp13:=htp12.t (qb4.of s13);have m1:(((-1:Int)):Rat)<lv n:=by
    have:(((-1:Int)):Rat)<0:=∅
    grind
   have rtp:RB ((onF D (fs.take i) tp h).getD (((-1:Int)):Rat)):=by
    unfold onF;by_cases c:∃n∈fs.take i,h∈D.ln n
    .rw[gU c];obtain⟨m,hm,_,e⟩:=hT.ex h c;show RB (tp h);rw[e];exact rlA m (ftk m hm)
    .rw[gT c];exact jdf (z:=-1) ∅
   clear hp2 hz2 hl12 ex12 etp12 hRp;left;refine⟨b,r,_,_,rfl,hb,hl13,rtp,rlv,?_⟩;by_cases c:(onF D (fs.take i) tp h).getD (((-1:Int)):Rat)<lv n
   .rw[gW c];have tn:tpN D (fs.take i) lv tp n h=lv n:=by
     unfold tpN;by_cases c2:∃m∈fs.take i,h∈D.ln m
     .unfold onF at c;rw[gU c2] at c;have c:tp h<lv n:=c;rw[gU c2,gU c]
     .rw[gT c2]
    have z9:=lput2 (.ref r);clear lput2 htp12 rtp hb;left;have t14:qb4 Hw (upd Hw dtp (.dK (qbl ktp' (uH h) (.ref r)))):=qb4.upd etp13 fun xs e=>by cases e
    refine⟨kto9,_,_,rfl,fun b u a1 a2 e=>by rw[qa4 a2];exact s13 _ _ (sb12 b u a1 a2 e),by rw[qa4 npt.symm];exact s13 _ _ eto12,qa1,(hto12.t (qb4.of s13)).t t14,((htp13.put h hl13).t t14).cast fun y=>?_,#[],#[]⟩
    try dsimp only
    by_cases c3:y=h
    .rw[gU c3,gU ((tk y).mpr (.inr c3)),c3,tn]
    .rw[gT c3];by_cases c2:y∈(D.ln n).take j
     .rw[gU c2,gU ((tk y).mpr (.inl c2))]
     .rw[gT c2,gT fun h'=>((tk y).mp h').elim c2 c3]
   .rw[gX c];have c2:∃m∈fs.take i,h∈D.ln m:=wL fun c2=>c (by unfold onF;rw[gT c2];exact m1);have tn:onF D (fs.take i) tp h=some (tpN D (fs.take i) lv tp n h):=by
     unfold onF at c⊢;unfold tpN;rw[gU c2] at c;have c:¬tp h<lv n:=c;rw[gU c2,gU c2,gT c]
    clear lput2 htp12 rtp hb;left;refine⟨kto9,ktp',_,rfl,fun b u a1 a2 e=>s13 _ _ (sb12 b u a1 a2 e),s13 _ _ eto12,etp13,hto12.t (qb4.of s13),htp13.cast fun y=>?_,#[],#[]⟩
    try dsimp only
    by_cases c3:y=h
    .rw[c3,gT hnt,gU ((tk h).mpr (.inr rfl)),tn]
    .by_cases c2:y∈(D.ln n).take j
     .rw[gU c2,gU ((tk y).mpr (.inl c2))]
     .rw[gT c2,gT fun h'=>((tk y).mp h').elim c2 c3]
  .rintro σ Hx ⟨kto',ktp',w3',rfl,s9,eto9,etp9,hto9,htp9,z4,z5⟩;rw[zA,zJ] at hto9 htp9;rw[zA] at z4 z5;have tS9:qb4 H8 Hx:=fun a xs e=>s9 a _ (fun z=>by subst z;rw[eto8] at e;cases e) (fun z=>by subst z;rw[etp8] at e;cases e) e;refine⟨_,kto',ktp',fun h=>if h∈D.ln n then tpN D (fs.take i) lv tp n h else tp h,_,_,_,rfl,fun y u a1 a2 a3 a4 e=>s9 _ _ a3 a4 (sb8 y u a1 a2 a3 a4 e),s9 _ _ nst.symm nsp.symm fz8,s9 _ _ ntl.symm npl.symm elv8,eto9,etp9,hlv8.t tS9,hto9.cast fun h=>?_,htp9.cast fun h=>?_,?_,#[],#[],#[]⟩
   .unfold onF;rw[etk,joc];by_cases c:h∈D.ln n
    .rw[gU c,gU (qfs.mpr (.inr c)),gU c]
    .rw[gT c,gT c];by_cases c2:∃m∈fs.take i,h∈D.ln m
     .rw[gU c2,gU (qfs.mpr (.inl c2))];congr 1;grind
     .rw[gT c2,gT fun z=>(qfs.mp z).elim c2 c]
   .unfold onF;dsimp only;rw[etk];by_cases c:h∈D.ln n
    .rw[gU c,gU (qfs.mpr (.inr c)),gU c]
    .rw[gT c,gT c];by_cases c2:∃m∈fs.take i,h∈D.ln m
     .rw[gU c2,gU (qfs.mpr (.inl c2))]
     .rw[gT c2,gT fun z=>(qfs.mp z).elim c2 c]
   .rw[etk];exact hT.app n
 rintro σ H' ⟨klv,kto,ktp,tp,w1,w2,w3,rfl,sb,fz,elv,eto,etp,hlv,hto,htp,hT,z1,z2,z3⟩;refine qe9 (qg0 fz (qcg hs)) ?_;rw[klen,zJ] at hlv hto htp hT;have t1:qb4 H' (upd H' ds (.dK ks)):=qb4.upd fz fun xs e=>by cases e
 refine q dlv dto dtp klv kto ktp tp _ (fun b u hb e=>?_) (by rw[qa4 nxs.symm];exact sb _ _ nxs.symm g1.symm g2.symm g3.symm ex4) (by rw[qa4 nsl];exact elv) ((hlv.t t1).cast fun z=>?_) (by rw[qa4 nst];exact eto) ((hto.t t1).cast fun z=>?_) (by rw[qa4 nsp];exact etp) ((htp.t t1).cast fun z=>?_) ?_ fdlv fdto fdtp
 .by_cases c:b=ds
  .subst c;rw[qa1,<-hs];exact e
  .rw[qa4 c];exact sb b u c (fun z=>by subst z;rw[fdlv] at e;cases e) (fun z=>by subst z;rw[fdto] at e;cases e) (fun z=>by subst z;rw[fdtp] at e;cases e) (sb4 b u hb e)
 .unfold qdt;by_cases c:z∈D.W0
  .rw[gU c,gU (pfs.mem_iff.mpr c)]
  .rw[gT c,gT fun h=>c (pfs.mem_iff.mp h)]
 .unfold onF;rw[show toQ D lv fs z=toQ D lv D.W0 z from jdk pfs];by_cases c:∃n∈D.W0,z∈D.ln n
  .rw[gU c,gU (c.elim fun n h=>⟨n,pfs.mem_iff.mpr h.1,h.2⟩)]
  .rw[gT c,gT fun h=>c (h.elim fun n h=>⟨n,pfs.mem_iff.mp h.1,h.2⟩)]
 .unfold onF;by_cases c:∃n∈D.W0,z∈D.ln n
  .rw[gU c,gU (c.elim fun n h=>⟨n,pfs.mem_iff.mpr h.1,h.2⟩)]
  .rw[gT c,gT fun h=>c (h.elim fun n h=>⟨n,pfs.mem_iff.mp h.1,h.2⟩)]
 .exact⟨fun h ⟨n,hn,hl⟩=>(hT.ex h ⟨n,pfs.mem_iff.mpr hn,hl⟩).elim fun m hm=>⟨m,pfs.mem_iff.mp hm.1,hm.2⟩,fun h n hn hl=>hT.ge h n (pfs.mem_iff.mpr hn) hl⟩
open Classical in
noncomputable def stB(D:Dl)(lv:Str->Rat)(n h:Str):Bool:=decide (toQ D lv D.W0 h=(D.rm h:Rat)/\∀m∈D.W0,h∈D.ln m->lv m<=lv n)
structure jr1(d:Ad)(H:Hp)(sm t dr dlv dto dtp:Addr)(S:Ts)(D:Dl)(HS:List Str)(kr klv kto ktp:List (Key×V))(lv tp:Str->Rat):Prop where
 ob:∃dx,H sm=some (.ins d.w05 dx (fsS t dr dlv dto dtp))
 tr:TrD d H t S D
 r:H dr=some (.dK kr)
 rA:AD kr (qby HS D.rm)
 l:H dlv=some (.dK klv)
 lA:FD H klv (qdt D.W0 lv)
 o:H dto=some (.dK kto)
 oA:FD H kto (onF D D.W0 (toQ D lv D.W0))
 p:H dtp=some (.dK ktp)
 pA:FD H ktp (onF D D.W0 tp)
 top:Top D D.W0 lv tp
 b:LvB D lv
 hs:∀n∈D.W0,∀h∈D.ln n,h∈HS
theorem jr1.same{d:Ad}{H H':Hp}{sm t dr dlv dto dtp:Addr}{S:Ts}{D:Dl}{HS:List Str}{kr klv kto ktp:List (Key×V)}{lv tp:Str->Rat}(h:jr1 d H sm t dr dlv dto dtp S D HS kr klv kto ktp lv tp)(s:jab H H'):jr1 d H' sm t dr dlv dto dtp S D HS kr klv kto ktp lv tp:=
 ⟨h.ob.elim fun dx e=>⟨dx,s _ _ e⟩,h.tr.same s,s _ _ h.r,h.rA,s _ _ h.l,h.lA.t (qb4.of s),s _ _ h.o,h.oA.t (qb4.of s),s _ _ h.p,h.pA.t (qb4.of s),h.top,h.b,h.hs⟩
def jl9{V:List Str}{g:Str->Rat}{n:Str}(hn:n∈V)(hl:h∈D.ln n):onF D V g h=some (g h):=gU ⟨n,hn,hl⟩
inductive jb2(K:uT)(d:Ad)(vs:List V)(H:Hp)(Q:VK)(E:XK):Prop
 |mk(sm t dr dlv dto dtp:Addr)(S:Ts)(D:Dl)(HS:List Str)(kr klv kto ktp:List (Key×V))(lv tp:Str->Rat)(n:Str)(_:vs=[.ref sm,.str n])(_:jay D)(_:jr1 d H sm t dr dlv dto dtp S D HS kr klv kto ktp lv tp)(_:n∈D.W0)(_:∀l H',jab H H'->H l=none->H' l=some (.lst (((D.ln n).filter (stB D lv n)).map V.str))->Q (.ref l) H')
include T in
theorem w82:jac P w K mg base (My.CX1 P w) 6 d.w3l d.w2r ["self","name"] (jb2 K d):=by
 exists okX T.w8u w1s
 .right
 obtain⟨sm,t,dr,dlv,dto,dtp,S,D,HS,kr,klv,kto,ktp,lv,tp,n,rfl,ok,hS,hn0,q⟩:=h;refine⟨_,(qa2 (qad (i:=2) w1s.nd rfl (uI rfl) (qbd qa3))
  (qa2 (qb2 (qbh rfl rfl) rfl (qb0 (qas (qax (pv 0) rfl) T.w02 T.w08 ((w0l T).mono ∅) hr T.w0u .nil qaj #[pv 1])) (qab (i:=3) w1s.nd rfl (uI rfl)) (qa2 (qad (i:=4) w1s.nd rfl (uI rfl) (qd7 (jhk (hu8 hr)) (qax (pv 0) rfl|||pv 3) (qcc #[qax (pv 0) rfl|||pv 3,qa7]) (qau _)))
  (qa6 (qdg (qb8 (PW.pt (je0 (qbj (pv 4)) (qgn (qc6 (qbj (qag ((wa3 T).mono ∅) hr rfl T.wcj T.wau.kp T.wdi .nil qaz #[qax (pv 0) rfl|||pv 1,qax (pv 0) rfl|||pv 3])))))) (qa6 (qb9 (qg2 vY wG wH qc8 (pv 2) #[pv 3]))) qap)))))
  (qa6 (qae (pv 2))))),?_⟩
 walk_at"d"
 try dsimp only[cxC]
 refine qac (σ:=[sr sm,some (.str n),none,none,none]) rfl ?_;have cl:=T.w5q;have ct:=T.w02;have n1:qao K d.w05 "tree":=T.w21;have n2:qao K d.w05 "rooms":=T.w1j;have n3:qao K d.w05 "levels":=T.w1g;have n4:qao K d.w05 "totals":=T.w1d;have n5:qao K d.w05 "tops":=T.w20;obtain⟨dx,ho⟩:=hS.ob;obtain⟨e,ae,ew,hlN⟩:=hS.tr.ln n hn0;have lz:=ok.lz n hn0;left;rename_i l hl;have s1:=qa5 hl (.lst []);have el1:upd H l (.lst []) l=some (.lst []):=qa1;have ho1:=s1 _ _ ho;have hS1:=hS.same s1;generalize upd H l (.lst [])=H1 at*;obtain⟨tx,ht⟩:=id hS1.tr.tr.1;left;refine⟨t,S,.str n,rfl,hS1.tr.tr,.inl ⟨n,_,rfl,hlN,#[],fun ll hll=>?_⟩⟩;have s2:=s1.trans (qa5 hll (.lst ((D.ln n).map V.str)));have ell:upd H1 ll (.lst ((D.ln n).map V.str)) ll=some (.lst ((D.ln n).map V.str)):=qa1;have el2:=qaa (o':=.lst ((D.ln n).map V.str)) el1 hll;have nll:ll≠l:=fun z=>by subst z;rw[el1] at hll;cases hll
 generalize upd H1 ll (.lst ((D.ln n).map V.str))=H2 at*;clear hll el1 ht ho1 hS1;left;refine qbt (xs:=(D.ln n).map V.str) (fun i σ H'=>∃(w1 w2:Option V),σ=[sr sm,some (.str n),sr l,w1,w2]/\jab H H'/\H' ll=some (.lst ((D.ln n).map V.str))/\H' l=some (.lst ((((D.ln n).take i).filter (stB D lv n)).map V.str))) ⟨none,none,rfl,s2,ell,el2⟩ ?_ ?_ ?_
 .rintro i σ H' _ ⟨w1,w2,rfl,_,e,_⟩;exact SqL.of e
 .rintro i v σ H' hv ⟨w1,w2,rfl,sm',ell',el'⟩;rw[zC] at hv;obtain⟨h,hh,rfl⟩:=uK.mp hv;have hi:=(uF.mp hh).1;have hhl:=zG hh;have etk:(D.ln n).take (i+1)=(D.ln n).take i++[h]:=by rw[zN,hh];rfl
  have hS':=hS.same sm';have ho':=sm' _ _ ho;have hRo:Rd H' dto (.dK kto):=.inl hS'.o;have hRr:Rd H' dr (.dK kr):=.inl hS'.r;have hrA:=hS.rA;have gr:qby HS D.rm h=some (D.rm h):=qbi (hS.hs n hn0 h hhl);have zl:((((D.ln n).take i).filter (stB D lv n)).map V.str).length<sizeLine:=by
   rw[zA];have h1:=zZ (stB D lv n) ((D.ln n).take i);rw[zW] at h1;show _<16777216;omega
  have hnl:l≠sm:=fun z=>by subst z;rw[ho] at hl;cases hl
  clear hv s2 ell el2 s1;left;refine qeq hRo hS'.oA (jl9 hn0 hhl) fun b hb=>?_;left;rename_i tp1 htp1;have hb1:=hb;unfold qbf at hb1;have nb:b≠tp1:=fun z=>by subst z;rw[htp1] at hb1;cases hb1
  have s3:=qa5 htp1 (.tup [V.int (D.rm h),V.int 1]);have hfr:qbf (upd H' tp1 (.tup [V.int (D.rm h),V.int 1])) tp1 ((D.rm h:Int):Rat):=qel qa1;generalize upd H' tp1 (.tup [V.int (D.rm h),V.int 1])=H3 at*;refine jne nb ∅ (jl7 (s3 _ _ hb) hfr nb) ?_;have ho3:=s3 _ _ ho';have el3:=s3 _ _ el';have ell3:=s3 _ _ ell';have hS3:=hS'.same s3;have s4:=sm'.trans s3;have hRl:Rd H3 dlv (.dK klv):=.inl hS3.l;clear hRo hRr hb hb1 hfr htp1 ho' el' ell' hS';have hle:(∀m∈D.W0,h∈D.ln m->lv m<=lv n)↔¬lv n<tp h:=by
   obtain⟨m,hm,hml,e⟩:=hS.top.ex h ⟨n,hn0,hhl⟩;constructor
   .intro h1 h2;have:=h1 m hm hml;grind
   .intro h1 m' hm' hl';have:=hS.top.ge h m' hm' hl';grind
  have rtp:RB (tp h):=by
   obtain⟨m,hm,hml,e⟩:=hS.top.ex h ⟨n,hn0,hhl⟩;rw[e];exact hS.b.rl m hm
  by_cases c:toQ D lv D.W0 h=(D.rm h:Rat)
  .rw[gW c];left;refine qff ?_;left;refine qeq hRl hS3.lA (qce hn0) fun b1 hb1=>?_;have hRp:Rd H3 dtp (.dK ktp):=.inl hS3.p;left;refine qeq hRp hS3.pA (jl9 hn0 hhl) fun b2 hb2=>?_;left;refine⟨b1,b2,_,_,rfl,hb1,hb2,hS.b.rl n hn0,rtp,?_⟩;by_cases c2:lv n<tp h
   .rw[gW c2];have st:stB D lv n h=false:=gX fun z=>hle.mp z.2 c2;left;refine⟨_,_,rfl,s4,ell3,?_⟩;rw[el3,etk,zY,aV (by rw[st];simp),bT,zX]
   .rw[gX c2];have st:stB D lv n h=true:=gW ⟨c,hle.mpr c2⟩;left;refine⟨_,_,rfl,qb5 s4 hl,by rw[qa4 nll];exact ell3,?_⟩;rw[qa1,etk,zY,aU st,zL];rfl
  .rw[gX c];have st:stB D lv n h=false:=gX fun z=>c z.1;left;refine qff ?_;left;refine⟨_,_,rfl,s4,ell3,?_⟩;rw[el3,etk,zY,aV (by rw[st];simp),bT,zX]
 rintro σ H' ⟨w1,w2,rfl,sm',ell',el'⟩;rw[zA,zJ] at el';left;exact q l H' sm' hl el'
theorem Dv.add{a b:Rat}(h:Dv N a)(h':Dv N b):Dv N (a+b):=by
 obtain⟨x,hx⟩:=h;obtain⟨y,hy⟩:=h';exact⟨x+y,by rw[aP,<-hx,<-hy];grind⟩
theorem ji4{N:Nat}{f:Str->Rat}:∀{l:List Str},(∀n∈l,Dv N (f n))->Dv N (qc3 l f)
 | [],_=>⟨0,by show(0:Rat)*_=_;rw[Rat.zero_mul];rfl⟩
 |n::l,h=>(h n (zF ..)).add (ji4 fun m hm=>h m (zD _ hm))
theorem RdI.sh(ok:jay D){lf lv:Str->Rat}{M:Rat}{N:Nat}(I:RdI D [] lf lv M N){n:Str}(hn:n∈D.W0):0<=shQ D lv n/\shQ D lv n<=(D.wa n:Rat)/\(D.wa n:Rat)<=(B31:Rat):=by
 have h1:=(wtQ ok hn).1;obtain⟨h0,_,h2,_⟩:=I.st n hn (by simp);have h3:=qfq ok hn;have a1:(D.wa n:Rat)<=(B31:Rat):=by
  have h:D.wa n<=((B31:Nat):Int):=ok.a1 n hn;rw[<-uY];exact_mod_cast h
 have p:(0:Rat)<=(D.wt n:Rat):=by grind
 have m1:=xT h0 p;have m2:=xT (show 0<=goQ D n-lv n by grind) p;unfold shQ;exact⟨m1,by grind,a1⟩
theorem LvB.of(ok:jay D){lf lv:Str->Rat}{M:Rat}{N:Nat}{rs:List Rnd}(I:RdI D [] lf lv M N)(R:jer D [] lv N rs):LvB D lv:=by
 have n8:=nb8 (nb7 I.nb);have dv:∀n∈D.W0,Dv N (lv n):=fun n hn=>by
  obtain⟨r,hr,hn2⟩:=R.e n hn (by simp);rw[<-(R.m r hr n hn2).2.2];exact R.dv r hr
 have sv:∀n∈D.W0,Dv N (shQ D lv n):=fun n hn=>(dv n hn).ints _;have bb:=ji2;refine⟨fun n hn=>(I.st n hn (by simp)).1,fun n hn=>?_,fun n hn=>?_,fun V nd sub h=>?_⟩
 .obtain⟨r,hr,hn2⟩:=R.e n hn (by simp);rw[<-(R.m r hr n hn2).2.2];exact R.rb r hr
 .obtain⟨a,b,c⟩:=I.sh ok hn;exact jde I.n0 n8 jdi (sv n hn) (by grind) (by grind)
 .have h7:V.length<=7:=vK (vT nd sub) ok.l8;have h7q:((V.length:Nat):Rat)<=7:=by exact_mod_cast h7
  have d:Dv N (toQ D lv V h):=ji4 fun n hn=>by
   split
   .exact sv n (sub n hn)
   .exact⟨0,by rw[Rat.zero_mul];rfl⟩
  have lo:0<=toQ D lv V h:=qfc fun n hn=>by
   have:=(I.sh ok (sub n hn)).1
   split<;>grind
  have hi:toQ D lv V h<=((V.length:Nat):Rat)*(B31:Rat):=qgh fun n hn=>by
   obtain⟨a,b,c⟩:=I.sh ok (sub n hn)
   split<;>grind
  have m:=xT (show(0:Rat)<=7-((V.length:Nat):Rat) by grind) bb;refine jde (B:=10^36) I.n0 n8 ∅ d ?_ ?_<;>rw[qgw]<;>grind
theorem RdI.full{M:Rat}(I:RdI D [] lf lv M N)(h:Str):lf h=(D.rm h:Rat)-toQ D lv D.W0 h:=by
 rw[I.sum h]
 congr 1
 exact qbv fun n hn=>by
  by_cases c:h∈D.ln n
  .rw[gU ⟨by simp,c⟩,gU c];rfl
  .rw[gT fun z=>c z.2,gT c]
open Classical in
noncomputable def jb3(D:Dl)(lv:Str->Rat)(n:Str):V:=if shQ D lv n=(D.wa n:Rat) then .non else match (D.ln n).filter (stB D lv n) with
 |h::_=> .str h
 | []=> .non
theorem RdI.stop(ok:jay D){lf lv:Str->Rat}{M:Rat}{N:Nat}(I:RdI D [] lf lv M N){n:Str}(hn:n∈D.W0)(c:shQ D lv n≠(D.wa n:Rat)):∃h hs,(D.ln n).filter (stB D lv n)=h::hs/\jb3 D lv n=.str h:=by
 have hne:(D.ln n).filter (stB D lv n)≠ []:=by
  rcases(I.st n hn (by simp)).2.2.2 with e|⟨h,hl,b1,_,b3⟩
  .exact absurd (by unfold shQ;rw[e,qfq ok hn]) c
  .refine List.ne_nil_of_mem (a:=h) (zV.mpr ⟨hl,gW ⟨?_,b3⟩⟩);have:=I.full h;grind
 cases e:(D.ln n).filter (stB D lv n) with
 |nil=>exact absurd e hne
 |cons h hs=>exact⟨h,hs,rfl,by unfold jb3;rw[gT c,e]⟩
theorem FD.keys{kvs:List (Key×V)}{g:Str->Rat}(h:FD H kvs (qdt W g))(nd:W.Nodup):∃fs:List Str,kvs.map (·.1)=fs.map uH/\fs.Perm W:=by
 have ex:∃fs:List Str,kvs.map (·.1)=fs.map uH:=by
  have:=h.sh;clear h nd
  induction kvs with
  |nil=>exact⟨[],rfl⟩
  |cons p l ih=>
   obtain⟨fs,e⟩:=ih fun p hp=>this p (zD _ hp);obtain⟨z,a,q,e2,_⟩:=this p (zF ..);exact⟨z::fs,by rw[zU,e,e2];rfl⟩
 obtain⟨fs,e⟩:=ex;refine⟨fs,e,?_⟩;have nf:fs.Nodup:=by
  have:=h.nd;rw[e] at this;exact(bG.mp this).imp fun a b=>a (congrArg _ b)
 refine(aF nf nd).mpr fun z=>⟨fun hz=>?_,fun hz=>?_⟩
 .have h1:(uH z:Key)∈kvs.map (·.1):=by rw[e];exact zH.mpr ⟨z,hz,rfl⟩
  obtain⟨p,hp,e3⟩:=zH.mp h1;obtain⟨z',a,q,e2,_,e4⟩:=h.sh p hp;rw[e2] at e3;have:z'=z:=yY e3;subst this;unfold qdt at e4;by_cases c:z'∈W
  .exact c
  .rw[gT c] at e4;cases e4
 .obtain⟨a,e1,_⟩:=h.get z (g z) (gU hz);have h1:(uH z:Key)∈kvs.map (·.1):=zH.mpr ⟨_,qgf e1,rfl⟩;rw[e] at h1;obtain⟨z',hz',e3⟩:=zH.mp h1;rw[<-yY e3];exact hz'
theorem FD.len{kvs:List (Key×V)}{V:List Str}{g:Str->Rat}(h:FD H kvs (qdt V g))(sub:∀n∈V,n∈W):kvs.length<=W.length:=by
 have h1:(kvs.map (·.1)).length<=(W.map (uH:Str->Key)).length:=vT h.nd fun k hk=>by
  obtain⟨p,hp,e3⟩:=zH.mp hk;obtain⟨z',a,q,e2,_,e4⟩:=h.sh p hp;unfold qdt at e4;by_cases c:z'∈V
  .rw[<-e3,e2];exact zH.mpr ⟨z',sub _ c,rfl⟩
  .rw[gT c] at e4;cases e4
 rwa [zA,zA] at h1
theorem jb1.sb1{r:Rnd}{kvs:List (Key×V)}(h:jb1 H r)(eb:H b=some (.dK kvs))(s:SameBut b H H'):jb1 H' r:=by
 have hl:=h.l;unfold qbf at hl;exact⟨s _ _ (fun e=>by have:=h.t;rw[e,eb] at this;cases this) h.t,
  s _ _ (fun e=>by rw[e,eb] at hl;cases hl) hl,
  s _ _ (fun e=>by have:=h.n;rw[e,eb] at this;cases this) h.n⟩
theorem jku{V:List Str}{g:Str->Rat}{n:Str} :qdt (V++[n]) g y=if y=n then some (g n) else qdt V g y:=by
 unfold qdt;by_cases c:y=n
 .rw[gU c,gU (by rw[c];simp),c]
 .rw[gT c];by_cases c2:y∈V
  .rw[gU c2,gU (zP _ c2)]
  .rw[gT c2,gT fun z=>(zM.mp z).elim c2 fun h=>c (zE.mp h)]
def nsL(rs:List Rnd):List Str:=rs.flatMap fun r=>r.ns
structure jcd(H:Hp)(D:Dl)(lv:Str->Rat)(W:List Str)(l:Addr)(as:List (Addr×Addr)):Prop where
 l:H l=some (.lst (as.map fun p=>V.ref p.1))
 n:as.length=W.length
 r:∀(i:Nat)(n:Str)(p:Addr×Addr),W[i]?=some n->as[i]?=some p->H p.1=some (.tup [.str n,.ref p.2,jb3 D lv n])/\qbf H p.2 (shQ D lv n)
theorem jcd.app{tr:Addr}{n:Str}(h:jcd H D lv W l as)(t:qb4 H H')(el:H' l=some (.lst ((as.map fun p=>V.ref p.1)++[V.ref tr])))(et:H' tr=some (.tup [.str n,.ref b,jb3 D lv n]))(ef:qbf H' b (shQ D lv n)):jcd H' D lv (W++[n]) l (as++[(tr,b)]):=by
 refine⟨by rw[el,zL];rfl,by rw[zQ,zQ,h.n];rfl,fun i m p hm hp=>?_⟩;by_cases c:i<W.length
 .rw[xG c] at hm;rw[xG (by rw[h.n];exact c)] at hp;obtain⟨a1,a2⟩:=h.r i m p hm hp;exact⟨t _ _ a1,t _ _ a2⟩
 .rw[xF #[]] at hm;rw[xF (by rw[h.n];omega),h.n] at hp;have e0:i-W.length=0:=by
   have:=(uF.mp hm).1;rw[yC] at this;omega
  rw[e0] at hm hp;obtain rfl:n=m:=uN hm;obtain rfl:(tr,b)=p:=uN hp;exact⟨et,ef⟩
inductive joe(K:uT)(d:Ad)(vs:List V)(H:Hp)(Q:VK)(E:XK):Prop
 |mk(t dr dw:Addr)(wv:V)(S:Ts)(D:Dl)(HS:List Str)(kr kw:List (Key×V))(_:vs=[.ref t,.ref dr,.ref dw,wv])(_:jay D)(_:vX D.W0=true)(_:TrD d H t S D)(_:Wgh H S D wv)(_:H dr=some (.dK kr))(_:AD kr (qby HS D.rm))(_:HS.Nodup)(_:HS.length<=60)(_:H dw=some (.dK kw))(_:AD kw (qby D.W0 D.wa))(_:(∀n∈D.W0,∀h∈D.ln n,h∈HS))(_:∀(l:Addr)(as:List (Addr×Addr))(lf lv:Str->Rat)(M:Rat)(N:Nat) H',jab H H'->H l=none->RdI D [] lf lv M N->LvB D lv->jcd H' D lv D.W0 l as->Q (.ref l) H')
include T in
theorem w77:jac P w K mg base (My.CX1 P w) 10 d.wfo d.waf ["tree","rooms","wants","weigh"] (joe K d):=by
 exists jua T.w8g w4v
 .right
 obtain⟨t,dr,dw,wv,S,D,HS,kr,kw,rfl,ok,srt,hT,hg,hr0,hrA,hsn,hsl,hw,hwA,hs,q⟩:=h;refine⟨_,(qa2 (qad (i:=4) w4v.nd rfl (uI rfl) (qaw ((waw T).mono ∅) hr rfl T.wbz T.w7s.kp T.wc3 .nil qaj #[pv 0,pv 2,pv 3]))
  (qa2 (qad (i:=5) w4v.nd rfl (uI rfl) qb1)
  (qa2 (qb2 (qbh rfl rfl) rfl (qb0 (qaw ((wb2 T).mono ∅) hr rfl T.wcg T.w8l.kp T.wca .nil qaj #[pv 0,pv 1,pv 2,pv 4])) (qab (i:=6) w4v.nd rfl (uI rfl)) (qa6 (qb2 (qbh rfl rfl) rfl (qb0 (~~~6)) (qab (i:=7) w4v.nd rfl (uI rfl)) (qa6 (qbg (qav hr) (pv 5) (pv 7) (qaw ((we2 T).mono ∅) hr rfl T.wf0 T.wdp.kp T.wg1 .nil qaj #[~~~6,qcc #[pv 4|||pv 7,qa7]]) rfl)))))
  (qa2 (qad (i:=8) w4v.nd rfl (uI rfl) (qgo T.w8r ((wbp T).mono ∅) hr rfl T.wib T.wd6 .nil qaj #[pv 0,pv 1,pv 5,pv 4]))
  (qa2 (qad (i:=9) w4v.nd rfl (uI rfl) (qbd qa3))
  (qa2 (qb2 (qbh rfl rfl) rfl (qb0 (qaf (qck rfl) rfl T.w3q wF #[pv 2])) (qab (i:=7) w4v.nd rfl (uI rfl)) (qa2 (qad (i:=10) w4v.nd rfl (uI rfl) (je1 (qak (jhk (hu8 hr)) (pv 5|||pv 7) (qcc #[pv 2|||pv 7,qa7]) (qau _)) qd1 (qam qaq (qas (pv 8) T.w5q T.w19 ((w82 T).mono ∅) hr T.w8j .nil qaj #[pv 7]) qa7 nofun)))
  (qa6 (qb9 (qg2 vY wG wH qc8 (pv 9) #[qcc #[pv 7,pv 5|||pv 7,pv 10]])))))
  (qa6 (qae (pv 9))))))))),?_⟩
 walk_at"d"
 try dsimp only[cxC]
 refine qac (σ:=[sr t,sr dr,sr dw,some (wv),none,none,none,none,none,none,none]) rfl ?_;have cl:=T.w5q;have l8:=ok.l8;have kp:=qe2 hwA ok.nd;left;refine⟨t,dw,wv,S,D,kw,rfl,ok,srt,hT,hg,hw,hwA,fun lg kg H1 s1 flg elg hgA=>?_⟩;left;rename_i ds hds;have s2:=s1.trans (qa5 hds (.dK []));have eds:upd H1 ds (.dK []) ds=some (.dK []):=qa1;have elg2:=qaa (o':=.dK []) elg hds;have fds:=s1.free hds;have ngs:lg≠ds:=fun e=>by subst e;rw[elg] at hds;cases hds
 have ngw:lg≠dw:=fun e=>by subst e;rw[flg] at hw;cases hw
 generalize upd H1 ds (.dK [])=H2 at*;clear hds elg s1;refine⟨t,dr,dw,lg,S,D,HS,kr,kw,kg,rfl,ok,srt,hT.same s2,s2 _ _ hr0,hrA,hsn,hsl,s2 _ _ hw,hwA,elg2,hgA,ngw,hs,fun lt rs lf lv M N H3 s3 flt elt hrs I R=>?_⟩;have hB:=LvB.of ok I R;have eds3:=s3 _ _ eds;have elg3:=s3 _ _ elg2;have sm3:=s2.trans s3;have nts:lt≠ds:=fun e=>by subst e;rw[eds3] at elt;cases elt
 clear s3 s2 eds elg2 flt;have hmem:∀n,n∈nsL rs↔n∈D.W0:=fun n=>by
  constructor
  .intro h;obtain⟨r,hr,hn⟩:=gR.mp h;exact(R.m r hr n hn).1
  .intro h;obtain⟨r,hr,hn⟩:=R.e n h (by simp);exact gR.mpr ⟨r,hr,hn⟩
 have hmt:∀i,∀n∈nsL (rs.take i),n∈D.W0:=fun i n h=>by
  obtain⟨r,hr,hn⟩:=gR.mp h;exact(R.m r (yH hr) n hn).1
 left;refine qbt (xs:=rs.map fun r=>V.ref r.a) (fun i σ H'=>∃(ks:List (Key×V))(w1 w2:Option V),σ=[sr t,sr dr,sr dw,some wv,sr lg,sr ds,w1,w2,none,none,none]/\SameBut ds H3 H'/\H' ds=some (.dK ks)/\FD H' ks (qdt (nsL (rs.take i)) (shQ D lv))) ⟨[],none,none,rfl,fun b u _ e=>e,eds3,FD.nil.cast fun z=>rfl⟩ ?_ ?_ ?_
 .rintro i σ H' _ ⟨ks,w1,w2,rfl,sb,_⟩;exact SqL.of (sb _ _ nts elt)
 .rintro i v σ H' hv ⟨ks,w1,w2,rfl,sb,ed,hF⟩;rw[zC] at hv;obtain⟨r,hr,rfl⟩:=uK.mp hv;have hrm:=zG hr;have hR:=(hrs r hrm).sb1 eds3 sb;have ert:=hR.t;have ern:=hR.n;have etk:nsL (rs.take (i+1))=nsL (rs.take i)++r.ns:=by
   unfold nsL;rw[zN,hr];show(rs.take i++[r]).flatMap _=_;rw[List.flatMap_append,List.flatMap_cons,List.flatMap_nil,zX]
  clear hv;left;refine qbt (xs:=r.ns.map V.str) (fun j σ Hx=>∃(k':List (Key×V))(w2:Option V),σ=[sr t,sr dr,sr dw,some wv,sr lg,sr ds,sr r.a,w2,none,none,none]/\SameBut ds H3 Hx/\Hx ds=some (.dK k')/\FD Hx k' (qdt (nsL (rs.take i)++r.ns.take j) (shQ D lv))) ⟨ks,w2,rfl,sb,ed,hF.cast fun z=>by rw[List.take_zero,zX]⟩ ?_ ?_ ?_
  .rintro j σ Hx _ ⟨k',w2,rfl,sb',_⟩;exact SqL.of ((hrs r hrm).sb1 eds3 sb').n
  .rintro j v σ Hx hv ⟨k',w2,rfl,sb',ed',hF'⟩;rw[zC] at hv;obtain⟨n,hn,rfl⟩:=uK.mp hv;have hnr:=zG hn;obtain⟨hn0,_,eL⟩:=R.m r hrm n hnr;have hR':=(hrs r hrm).sb1 eds3 sb';have ert':=hR'.t;have hL:=hR'.l;have gw:qby D.W0 D.wt n=some (D.wt n):=qbi hn0;have hRg:Rd Hx lg (.dK kg):=.inl (sb' _ _ ngs elg3);have wa1:=ok.w1 n hn0;have wa2:=ok.w2 n hn0;have kl:=hF'.len (W:=D.W0) fun m hm=>by
    rcases zM.mp hm with h1|h1
    .exact hmt i m h1
    .exact(R.m r hrm m (yH h1)).1
   have zl:k'.length<sizeLine:=by show _<16777216;omega
   have rbL:=R.rb r hrm;have etk2:r.ns.take (j+1)=r.ns.take j++[n]:=by rw[zN,hn];rfl
   clear hv hF hR ert ern ed hB;left;rename_i tp1 htp1;have s5:=qa5 htp1 (.tup [V.int (D.wt n),V.int 1]);have hfr5:qbf (upd Hx tp1 (.tup [V.int (D.wt n),V.int 1])) tp1 ((D.wt n:Int):Rat):=qel qa1;generalize upd Hx tp1 (.tup [V.int (D.wt n),V.int 1])=H5 at*;refine⟨r.la,tp1,_,_,rfl,hL.same s5,hfr5,rbL,jdf (vI (show(D.wt n).natAbs<=1000 by omega) ∅),fun sa hsa=>?_⟩;have esh:r.L*((D.wt n:Int):Rat)=shQ D lv n:=by rw[eL];rfl
   have esh:(fun a b:Rat=>a*b) r.L ((D.wt n:Int):Rat)=shQ D lv n:=esh;rw[esh];have s6:=s5.trans (qa5 hsa (frO (shQ D lv n)));have hl6:qbf (upd H5 sa (frO (shQ D lv n))) sa (shQ D lv n):=qa1;generalize upd H5 sa (frO (shQ D lv n))=H6 at*;have ed6:=s6 _ _ ed';clear s5 hfr5 hsa htp1;left;have t6:qb4 H6 (upd H6 ds (.dK (qbl k' (uH n) (.ref sa)))):=qb4.upd ed6 fun xs e=>by cases e
   refine⟨_,_,rfl,fun b u hb e=>by rw[qa4 hb];exact s6 _ _ (sb' b u hb e),qa1,(((hF'.t (qb4.of s6)).put n hl6).t t6).cast fun y=>?_⟩;rw[etk2,<-bB,jku]
  .rintro σ Hx ⟨k',w2,rfl,sb',ed',hF'⟩;rw[zA,zJ] at hF';exact⟨k',_,_,rfl,sb',ed',by rw[etk];exact hF'⟩
 rintro σ H4 ⟨ks,w1,w2,rfl,sb,ed,hF⟩;rw[zA,zJ] at hF;have hF:FD H4 ks (qdt D.W0 (shQ D lv)):=hF.cast fun z=>by
  unfold qdt;by_cases c:z∈D.W0
  .rw[gU c,gU ((hmem z).mpr c)]
  .rw[gT c,gT fun h=>c ((hmem z).mp h)]
 have s4:jab H H4:=fun b u e=>sb b u (fun z=>by subst z;rw[fds] at e;cases e) (sm3 b u e);have elg4:=sb _ _ ngs elg3;clear sb eds3 elg3 elt hrs sm3 hmem hmt nts R;left;intro x dx hx hdx ndx;have sH:jab H4 (upd (upd H4 dx (.own x)) x (.ins d.w05 dx [])):=(qa5 hdx _).trans (qa5 (by rw[qa4 ndx.symm];exact hx) _);have hTo:upd (upd H4 dx (.own x)) x (.ins d.w05 dx []) x=some (.ins d.w05 dx []):=qa1;have hx0:=s4.free hx;generalize upd (upd H4 dx (.own x)) x (.ins d.w05 dx [])=H5 at*;refine⟨x,dx,t,dr,ds,lg,S,D,lv,ks,kg,rfl,hTo,ok,⟨H,s4.trans sH,hx0,fds,hT⟩,hB,sH _ _ ed,hF.t (qb4.of sH),hF.keys ok.nd,sH _ _ elg4,hgA,ngs,fun dlv dto dtp klv kto ktp tp H6 sb6 ex6 elv6 hlv6 eto6 hto6 etp6 htp6 hTp fdlv fdto fdtp=>⟨rfl,?_⟩⟩;have s6:jab H4 H6:=fun b u e=>sb6 b u (fun z=>by subst z;rw[hx] at e;cases e) (sH b u e);have s06:=s4.trans s6;have hS:jr1 d H6 x t dr dlv dto dtp S D HS kr klv kto ktp lv tp:=⟨⟨dx,ex6⟩,hT.same s06,s06 _ _ hr0,hrA,elv6,hlv6,eto6,hto6,etp6,htp6,hTp,hB,hs⟩;have ed6:=s6 _ _ ed;have hF6:=hF.t (qb4.of s6);clear sb6 ex6 elv6 hlv6 eto6 hto6 etp6 htp6 fdlv fdto fdtp hTo sH hx hdx ed hF s4 s6 elg4;left;rename_i l hl;have s7:=qa5 hl (.lst []);have el7:upd H6 l (.lst []) l=some (.lst []):=qa1;have hl0:=s06.free hl;generalize upd H6 l (.lst [])=H7 at*;refine qep (ss:=qbx kw) (.inl (s7 _ _ (s06 _ _ hw))) hwA.keys (by have:=kp.length_eq;omega) fun ls ss hls hp hss=>?_;have ess:ss=D.W0:=qgl (hp.trans kp) hss srt;subst ess;have s8:=s7.trans (qa5 hls (.lst (D.W0.map V.str)));have els:upd H7 ls (.lst (D.W0.map V.str)) ls=some (.lst (D.W0.map V.str)):=qa1;have el8:=qaa (o':=.lst (D.W0.map V.str)) el7 hls;have nls:ls≠l:=fun e=>by subst e;rw[el7] at hls;cases hls
 generalize upd H7 ls (.lst (D.W0.map V.str))=H8 at*;clear el7 s7 hls hp hss;left;refine qbt (xs:=D.W0.map V.str) (fun i σ H'=>∃(as:List (Addr×Addr))(w1 w2 w3:Option V),σ=[sr t,sr dr,sr dw,some wv,sr lg,sr ds,w1,w2,sr x,sr l,w3]/\jab H6 H'/\H' ls=some (.lst (D.W0.map V.str))/\jcd H' D lv (D.W0.take i) l as) ⟨[],_,_,none,rfl,s8,els,el8,rfl,fun i n p h=>by simp at h⟩ ?_ ?_ ?_
 .rintro i σ H' _ ⟨as,w1,w2,w3,rfl,_,e,_⟩;exact SqL.of e
 .rintro i v σ H' hv ⟨as,w1,w2,w3,rfl,s',els',hE⟩;rw[zC] at hv;obtain⟨n,hn,rfl⟩:=uK.mp hv;have hi:=(uF.mp hn).1;have hn0:=zG hn;have etk:D.W0.take (i+1)=D.W0.take i++[n]:=by rw[zN,hn];rfl
  have gw:qby D.W0 D.wa n=some (D.wa n):=qbi hn0;have hRw:Rd H' dw (.dK kw):=.inl (s' _ _ (s06 _ _ hw));have hRs:Rd H' ds (.dK ks):=.inl (s' _ _ ed6);have hF':=hF6.t (qb4.of s');have el':=hE.l;have zl:(as.map fun p=>V.ref p.1).length<sizeLine:=by rw[zA,hE.n,zW];show _<16777216;omega
  clear hv;left;refine qeq hRs hF' (qce hn0) fun b hb=>?_;left;rename_i tp1 htp1;have hb1:=hb;unfold qbf at hb1;have nb:b≠tp1:=fun z=>by subst z;rw[htp1] at hb1;cases hb1
  have s3:=qa5 htp1 (.tup [V.int (D.wa n),V.int 1]);have hfr:qbf (upd H' tp1 (.tup [V.int (D.wa n),V.int 1])) tp1 ((D.wa n:Int):Rat):=qel qa1;generalize upd H' tp1 (.tup [V.int (D.wa n),V.int 1])=H9 at*;refine jne nb ∅ (jl7 (s3 _ _ hb) hfr nb) ?_;have s9:=s'.trans s3;have el9:=s3 _ _ el';have els9:=s3 _ _ els';have t9:=qb4.of s3;clear hb hb1 hfr htp1 nb hRw hRs hF' s' el' els';by_cases c:shQ D lv n=(D.wa n:Rat)
  .rw[gW c];have ep:jb3 D lv n=.non:=by unfold jb3;rw[gU c]
   left;refine qeq (.inl (s9 _ _ ed6)) (hF6.t (qb4.of s9)) (qce hn0) fun b2 hb2=>?_;left;rename_i tr htr;have nl:tr≠l:=fun z=>by subst z;rw[el9] at htr;cases htr
   have s10:=qa5 htr (.tup [.str n,.ref b2,.non]);refine⟨as++[(tr,b2)],_,_,_,rfl,qb5 (s9.trans s10) hl,by rw[qa4 nls];exact s10 _ _ els9,?_⟩;rw[etk];have t11:qb4 (upd H9 tr (.tup [.str n,.ref b2,.non])) (upd (upd H9 tr (.tup [.str n,.ref b2,.non])) l (.lst ((as.map fun p=>V.ref p.1)++[V.ref tr]))):=qb4.upd (s10 _ _ el9) fun xs e=>by cases e
   exact hE.app (t9.trans ((qb4.of s10).trans t11)) qa1 (by rw[qa4 nl,qa1,ep]) (t11 _ _ (s10 _ _ hb2))
  .rw[gX c];obtain⟨h,hs2,e1,ep⟩:=I.stop ok hn0 c;have hS9:=hS.same s9;obtain⟨dx',ho9⟩:=hS9.ob;left;refine⟨x,t,dr,dlv,dto,dtp,S,D,HS,kr,klv,kto,ktp,lv,tp,n,rfl,ok,hS9,hn0,fun lh H10 s10 flh elh=>?_⟩;rw[e1] at elh;have elh:H10 lh=some (.lst (V.str h::hs2.map V.str)):=elh;have s9':=s9.trans s10;have el10:=s10 _ _ el9;have els10:=s10 _ _ els9;clear hS9 ho9 flh;left;refine qc7 (v:=.str h) (SqL.of elh) (qbp (j:=0) rfl) ?_;left;refine qeq (.inl (s9' _ _ ed6)) (hF6.t (qb4.of s9')) (qce hn0) fun b2 hb2=>?_;left;rename_i tr htr;have nl:tr≠l:=fun z=>by subst z;rw[el10] at htr;cases htr
   have s11:=qa5 htr (.tup [.str n,.ref b2,.str h]);refine⟨as++[(tr,b2)],_,_,_,rfl,qb5 (s9'.trans s11) hl,by rw[qa4 nls];exact s11 _ _ els10,?_⟩;rw[etk];have t11:qb4 (upd H10 tr (.tup [.str n,.ref b2,.str h])) (upd (upd H10 tr (.tup [.str n,.ref b2,.str h])) l (.lst ((as.map fun p=>V.ref p.1)++[V.ref tr]))):=qb4.upd (s11 _ _ el10) fun xs e=>by cases e
   exact hE.app (t9.trans ((qb4.of s10).trans ((qb4.of s11).trans t11))) qa1 (by rw[qa4 nl,qa1,ep]) (t11 _ _ (s11 _ _ hb2))
 rintro σ H' ⟨as,w1,w2,w3,rfl,s',_,hE⟩;rw[zA,zJ] at hE;left;exact q l as lf lv M N H' (s06.trans s') hl0 I hB hE
structure Bt(S:Ts)(nm:Nat->Str)(el:Nat->Nat)(n:Nat)(wt:Nat->Int):Prop where
 pl:Pl S nm el n
 no:∀e∈S.hl,(∀y,e.x.fp y=none)/\∀y,e.x.fc y=none
 w:∀(k:Nat)(e:He),S.hl[k]?=some e->e.x.w=wt k
 ws:S.ws.length<=6
def jof(y:Str):qdh noF y=none:=rfl
theorem ji5{g:Str->Option Int}(hf:∀y,f y=none)(hg:∀y,g y=none)(y:Str):qgy f g y=none:=by
 unfold qgy;rw[hg y];exact hf y
theorem ji6:∀(ts:List Pt)(f:Str->Option Int),(∀t∈ts,∀y,t.f y=none)->(∀y,f y=none)->∀y,ts.foldl (fun f t=>qgy f t.f) f y=none
 | [],f,_,hf,y=>hf y
 |t::ts,f,h,hf,y=>ji6 ts (qgy f t.f) (fun t' ht=>h t' (zD _ ht)) (fun z=>ji5 hf (h t (zF ..)) z) y
section
variable{S:Ts}{nm:Nat->Str}{el:Nat->Nat}{k:Nat}{wt:Nat->Int}
theorem Bt.one(h1:S.hl=[e])(en:e.n=nm 0)(ee:e.x.el=none)(ew:e.x.w=wt 0)(ep:∀v,e.x.fp v=none)(ec:∀v,e.x.fc v=none)(ws:S.ws.length<=6):Bt S nm el 1 wt:=by
 have split:∀(i:Nat)(e':He),S.hl[i]?=some e'->i=0/\e'=e:=fun i e' he=>by
  rw[h1] at he;have:=(uF.mp he).1;rw[yC] at this;obtain rfl:i=0:=by omega
  exact⟨rfl,(uN he).symm⟩
 refine⟨⟨by rw[h1];rfl,fun i e' he=>?_,fun i j hi hj _=>by omega,fun i a b=>by omega⟩,fun e' he=>?_,fun i e' he=>?_,ws⟩
 .obtain⟨rfl,rfl⟩:=split i e' he;exact⟨en,ee⟩
 .rw[h1] at he;rw[zE.mp he];exact⟨ep,ec⟩
 .obtain⟨rfl,rfl⟩:=split i e' he;exact ew
theorem Bt.next(h:Bt S nm el k wt)(k0:0<k)(inj:∀i j,i<k+1->j<k+1->nm i=nm j->i=j)(low:el k<k){e2:He}(en:e2.n=nm k)(ee:e2.x.el=some (nm (el k)))(ew:e2.x.w=wt k)(ep:∀v,e2.x.fp v=none)(ec:∀v,e2.x.fc v=none):
  Bt {S with hl:=S.hl++[e2]} nm el (k+1) wt:=by
 have hl:=h.pl.len;have split:∀(i:Nat)(e:He),(S.hl++[e2])[i]?=some e->(i<k/\S.hl[i]?=some e)\/(i=k/\e=e2):=fun i e he=>by
  rcases bY i S.hl.length with c|c
  .rw[xG c] at he;exact .inl ⟨#[],he⟩
  .have:=(uF.mp he).1;rw[zQ,yC] at this;have ei:i=S.hl.length:=by omega
   rw[xF c,ei,Nat.sub_self] at he;exact .inr ⟨#[],by simpa using he.symm⟩
 refine⟨⟨by show(S.hl++[e2]).length=_;rw[zQ,hl];rfl,fun i e he=>?_,inj,fun i i0 ik=>?_⟩,fun e he=>?_,fun i e he=>?_,h.ws⟩
 .rcases split i e he with⟨a,b⟩|⟨rfl,rfl⟩
  .exact h.pl.nam i e b
  .exact⟨en,by rw[gT #[]];exact ee⟩
 .by_cases c:i=k
  .rw[c];exact low
  .exact h.pl.low i i0 #[]
 .rcases zM.mp he with h1|h1
  .exact h.no e h1
  .rw[zE.mp h1];exact⟨ep,ec⟩
 .rcases split i e he with⟨a,b⟩|⟨rfl,rfl⟩
  .exact h.w i e b
  .exact ew
theorem Bt.ask(h:Bt S nm el k wt)(k0:0<k)(k9:k<=9)(inj:∀i j,i<k+1->j<k+1->nm i=nm j->i=j)(lk:el k<k):∃e,S.at (nm (el k))=some e/\e.n=nm (el k)/\WF S/\qfy S/\S.ws.length<=50/\S.hl.length<40/\S.at (nm k)=none/\
  ∃zs,jad S e.n zs/\zs.length<12/\∀y∈zs,∃e',S.at y=some e'/\Dep S 12 y/\∀bs,Ben S 12 y bs->∀v n,qgy (jgf (bs.map (jel S))) (qdh noF) v=some n->n<=gN e'.x.fc v:=by
 have low:=h.pl.low;have h6:=h.ws;obtain⟨e,h1,h2,h3⟩:=h.pl.at lk;have en:e.n=nm (el k):=(qc0 h1).2;refine⟨e,h1,en,h.pl.wf,⟨#[],fun e' he z hz=>absurd ((h.no e' he).1 z) hz⟩,#[],by rw[h.pl.len];omega,?_,(qbs el (el k)).map nm,by rw[en];exact h.pl.line _ lk,?_,fun y hy=>?_⟩
 .cases c:S.at (nm k) with
  |none=>rfl
  |some e'=>
   obtain⟨i,hi,_,q,_⟩:=h.pl.ix (qc0 c).1;have:=inj i k #[] #[] (by rw[<-q,(qc0 c).2]);omega
 .rw[zA];have hl:=qdk low (el k) lk;omega
 .obtain⟨j,hj,rfl⟩:=zH.mp hy;have jl:=qcv low (el k) lk j hj;have jk:j<k:=by omega
  obtain⟨e',q1,q2,_⟩:=h.pl.at jk;refine⟨e',q1,h.pl.dep 12 j jk #[],fun bs hb v n hn=>?_⟩;have z:qgy (jgf (bs.map (jel S))) (qdh noF) v=none:=ji5 (fun y=>ji6 _ _ (fun t ht y=>by
   obtain⟨b,_,rfl⟩:=zH.mp ht
   cases c:S.at b with
   |none=>unfold jel;rw[c];rfl
   |some e2=>rw[qfg c];exact(h.no e2 (qc0 c).1).1 y) (fun _=>rfl) y) jof v
  rw[z] at hn
  cases hn
theorem Bt.found{K:uT}{d:Ad}{H:Hp}{t p1 p2:Addr}{Q:VK}{E:XK}(h:Bt S nm el k wt)(hT:qdv d H t S)(k0:0<k)(k9:k<=9)(inj:∀i j,i<k+1->j<k+1->nm i=nm j->i=j)(lk:el k<k)(gz:qeu (nm k)=true)(e1:H p1=some (.dK []))(e2:H p2=some (.dK []))(w1:1<=wt k)(w2:wt k<=1000)
  (q:∀(e2:He) H',SameBut S.hs H H'->H e2.a=none->qdv d H' t {S with hl:=S.hl++[e2]}->Bt {S with hl:=S.hl++[e2]} nm el (k+1) wt->Q .non H'):w6t K d [.ref t,.str (nm k),.str (nm (el k)),.ref p1,.ref p2,.int (wt k)] H Q E:=by
 obtain⟨e,ae,een,hW,hOw,hw50,h40,nk,line⟩:=h.ask k0 k9 inj lk;have fn:∀ws,Fin ws noF:=fun ws z n e=>by cases e
 refine⟨t,p1,p2,S,nm k,.str (nm (el k)),[],[],noF,noF,wt k,rfl,hT,gz,nk,.inl ⟨_,rfl⟩,fun hn=>?_,fun e' he'=>?_⟩
 .rw[show who S (.str (nm (el k)))=some e from ae] at hn;cases hn
 .have ee':e=e':=uN (ae.symm.trans he');subst ee';exact⟨hW,hOw,hw50,e1,AD.nil,∅,e2,AD.nil,∅,fn _,fn _,w1,w2,h40,line,fun y=>Int.le_refl _,fun e3 H' sb f1 f2 f3 hT' n1 n2 n3 n4 n5=>q e3 H' sb f1 hT' (h.next k0 inj lk n1 (by rw[n2,een]) n3 n4 n5)⟩
end
def wb6(K:uT)(d:Ad):Sp:=fun vs H Q _=>∃i j:Int,vs=[.int i,.int j]/\0<=j/\Q (.int (jbk i j)) H
include T in
theorem wbk:jac P w K mg base CX0 1 d.w6m d.w5g ["_law_one","_law_other"] (wb6 K d):=by
 exists T.w8z.ok w7v
 .right
 obtain⟨i,j,rfl,j0,q⟩:=h;exists (qa2 (qeb vM (qak jdt (pv 1) qa7 (qau _)) (qa6 (jpe (i:=0) (j:=1) rfl w7v.nd rfl rfl ∅ rfl rfl #[pv 1,qah qbe (pv 0) (pv 1)] rfl)))
  (qa6 (qae (qaf qfv rfl T.whm dN #[pv 0])))),[some (.int i),some (.int j)];left;refine qe5 (fun σ H'=>H'=H/\∃(g t:Int),σ=[some (.int g),some (.int t)]/\0<=t/\wS g t=wS i j) (fun σ _=>meas 1 σ) ?_ ?_ ?_
 .exact⟨rfl,_,_,rfl,j0,rfl⟩
 .rintro σ H1 ⟨rfl,g,t,rfl,ht,e⟩;left;refine jv6 (fun c=>?_) (fun c=>?_)
  .have c:0<t:=by omega
   left;refine⟨⟨rfl,_,_,rfl,vA _ #[],?_⟩,?_⟩
   .rw[jfq g t c];exact e
   .show(g%t).toNat<t.toNat;have:=vF g c;have:=vA g (show t≠0 by omega);omega
  .subst c;left;have e2:(if g<0 then -g else g)=jbk i j:=by
    rw[Int.gcd_zero_right] at e;unfold jbk;rw[<-e];split<;>omega
   rw[e2];exact q
 .rintro σ H1 Q1 Q2 h ⟨v,e,e1,k,e2,q⟩;exact⟨v,e,e1,k,e2,h _ _ q⟩
structure Sc(sc:Int):Prop where
 lo:1<=sc
 hi:sc<=10^27
theorem Sc.abs(h:Sc sc):sc.natAbs<2^600:=by
 have h1:=h.lo;have h2:=h.hi;have:sc.natAbs<=10^27:=by omega
 exact vI this ∅
structure InB(B v:Int):Prop where
 lo:0<=v
 hi:v<=B
def whe(K:uT)(d:Ad):Sp:=fun vs H Q _=>∃r sc:Int,vs=[.int r,.int sc]/\0<=r/\Sc sc/\∀(v:Int) H',InB (10^30) v->jab H H'->Q (.int v) H'
def whc(K:uT)(d:Ad):Sp:=fun vs H Q _=>∃r sc:Int,vs=[.int r,.int sc]/\0<=r/\Sc sc/\∀(v:Int) H',InB (10^31) v->jab H H'->Q (.int v) H'
theorem jvn{m:Int}(h:m∈ [(0:Int),0,1]):0<=m/\m<=1:=by simp only[zO,yE,or_false] at h;omega
theorem jog{u m:Int}(h:Sc sc)(u0:0<=u)(u1:u<13)(hm:0<=m/\m<=1):InB (10^30) (u*sc+m):=by
 have h1:=Int.mul_le_mul (show u<=12 by omega) h.hi (by have:=h.lo;omega) ∅;have h2:=Int.mul_nonneg u0 (show 0<=sc by have:=h.lo;omega);have h3:(12:Int)*10^27+1<=10^30:=∅
 exact⟨#[],#[]⟩
theorem joh{u m:Int}(h:Sc sc)(u0:0<=u)(u1:u<30)(hm:0<=m/\m<=1):InB (10^31) (u*sc+m):=by
 have h1:=Int.mul_le_mul (show u<=29 by omega) h.hi (by have:=h.lo;omega) ∅;have h2:=Int.mul_nonneg u0 (show 0<=sc by have:=h.lo;omega);have h3:(29:Int)*10^27+1<=10^31:=∅
 exact⟨#[],#[]⟩
include T in
theorem whf:jac P w K mg base CX0 1 d.wfy d.wcp ["_law_number","_law_scale"] (whe K d):=by
 exists T.wh3.ok whv
 .right
 obtain⟨r,sc,rfl,r0,hsc,q⟩:=h;exists (qa2 (qb8 (qak qey (qah qbe (pv 0) qa7) qa7 (qau _)) (qa6 (qae (qah je4 qa7 qa7))) qap)
  (qa6 (qae (qah qbr (qah qba (qah qbe (qah qbo (pv 0) qa7) qa7) (pv 1)) (qam qaq (qbd #[qa7,qa7,qa7]) (qah qbe (qah qbo (pv 0) qa7) qa7) nofun))))),[some (.int r),some (.int sc)];left;refine i_2 (fun c=>?_) (fun c=>?_)
 .left;exact q _ _ ⟨∅,∅⟩ fun _ _ e=>e
 .have u0:=vA (r.fdiv 7) (show(13:Int)≠0 by decide);have u1:=vF (r.fdiv 7) (show(0:Int)<13 by decide);generalize eu:r.fdiv 7%13=u at*;have nu:u.natAbs<2^600:=vI (show u.natAbs<=1000 by omega) ∅;have ns:=hsc.abs;have m0:=vA (r.fdiv 91) (show(3:Int)≠0 by decide);have m1:=vF (r.fdiv 91) (show(0:Int)<3 by decide);generalize em:r.fdiv 91%3=m at*;have hv:∀x:Int,0<=x/\x<=1->_:=fun x hx=>jog hsc u0 u1 hx;clear u0 u1 r0;left;rw[eu];left;rename_i p hp;rw[em];refine jc1 (xs:=[0,0,1]) (SqL.of qa1) m0 m1 fun x hx=>?_;clear m0 m1 em eu nu ns;left;exact q _ _ (hv x (jvn hx)) (qa5 hp _)
include T in
theorem why:jac P w K mg base CX0 1 d.wev d.wdq ["_law_number","_law_scale"] (whc K d):=by
 exists T.wgs.ok whk
 .right
 obtain⟨r,sc,rfl,r0,hsc,q⟩:=h;exists (qa2 (qb8 (qak qey (qah qbe (pv 0) qa7) qa7 (qau _)) (qa6 (qae (qah je4 qa7 qa7))) qap)
  (qa6 (qae (qah qbr (qah qba (qah qbe (qah qbo (pv 0) qa7) qa7) (pv 1)) (qam qaq (qbd #[qa7,qa7,qa7]) (qah qbe (qah qbo (pv 0) qa7) qa7) nofun))))),[some (.int r),some (.int sc)];left;refine i_2 (fun c=>?_) (fun c=>?_)
 .left;exact q _ _ ⟨∅,∅⟩ fun _ _ e=>e
 .have u0:=vA (r.fdiv 4) (show(30:Int)≠0 by decide);have u1:=vF (r.fdiv 4) (show(0:Int)<30 by decide);generalize eu:r.fdiv 4%30=u at*;have nu:u.natAbs<2^600:=vI (show u.natAbs<=1000 by omega) ∅;have ns:=hsc.abs;have m0:=vA (r.fdiv 120) (show(3:Int)≠0 by decide);have m1:=vF (r.fdiv 120) (show(0:Int)<3 by decide);generalize em:r.fdiv 120%3=m at*;have hv:∀x:Int,0<=x/\x<=1->_:=fun x hx=>joh hsc u0 u1 hx;clear u0 u1 r0;left;rw[eu];left;rename_i p hp;rw[em];refine jc1 (xs:=[0,0,1]) (SqL.of qa1) m0 m1 fun x hx=>?_;clear m0 m1 em eu nu ns;left;exact q _ _ (hv x (jvn hx)) (qa5 hp _)
def wgk(K:uT)(d:Ad):Sp:=fun vs H Q _=>∃r:Int,vs=[.int r]/\Q (.bl true) H
include T in
theorem wdu:jac P w K mg base CX0 1 d.wdd d.wan ["_law_found"] (wgk K d):=by
 exists T.wd5.ok wgd
 .right
 obtain⟨r,rfl,q⟩:=h;exists qa6 (qae (qg6 (qaf qbn rfl T.w0a vH #[pv 0,qcb (v:=.ty "int") rfl T.whn dM rfl]) (qg5 (jk6 (qaf qbn rfl T.w0a vH #[pv 0,qcb (v:=.ty "bool") rfl T.wh4 PyProof.Rows.boot_bool rfl]))))),[some (.int r)];left;exact q
def iV(e:Nat):V:=.int (e:Int)
def elN(es:List Nat)(k:Nat):Nat:=(es[k-1]?).getD 0
def oV:Option Nat->V
 |none=> .non
 |some a=> .int (a:Int)
def juh(el:Nat->Nat):Option Nat->List Nat
 |none=> []
 |some a=>qbs el a
def wh9(K:uT)(d:Ad):Sp:=fun vs H Q _=>∃(le:Addr)(es:List Nat)(k:Nat),vs=[.ref le,.int (k:Int)]/\H le=some (.lst (.non::es.map iV))/\(∀(k e:Nat),es[k]?=some e->e<=k)/\k<=es.length/\es.length<=12/\
 ∀l,H l=none->Q (.ref l) (upd H l (.lst ((qbs (elN es) k).map iV)))
def qgu(lo:∀(k e:Nat),es[k]?=some e->e<=k)(n:Nat):Low (elN es) n:=fun k k0 kn=>by
 unfold elN
 cases e:es[k-1]? with
 |none=>exact k0
 |some a=>have:=lo _ _ e;show a<k;omega
theorem ji7{b:Nat}(hb:b<es.length):elN es (b+1)=es[b]:=by unfold elN;rw[Nat.add_sub_cancel,zB hb];rfl
def jui(σ:L2.St):Nat:=match σ[3]? with
 |some (some (V.int a))=>a.toNat+1
 |_=>0
include T in
theorem wf9:jac P w K mg base CX0 1 d.wfx d.wd7 ["_law_elders","_law_k"] (wh9 K d):=by
 exists T.wex.ok wag
 .right
 obtain⟨le,es,k,rfl,hE,lo,hk,h12,q⟩:=h;have low:=qgu lo (es.length+1);exists (qa2 (qad (i:=2) wag.nd rfl (uI rfl) (qbd qa3))
  (qa2 (qad (i:=3) wag.nd rfl (uI rfl) (pv 1))
  (qa2 (qeb vM (qak qf6 (pv 3) qd1 (qau _)) (qa2 (qb9 (qg2 vY wG wH qc8 (pv 2) #[pv 3]))
  (qa6 (qad (i:=3) wag.nd rfl (uI rfl) (qam qaq (pv 0) (pv 3) nofun)))))
  (qa6 (qae (pv 2)))))),[sr le,some (.int (k:Int)),none,none];generalize hki:((k:Nat):Int)=ki;left;rename_i l hl;refine qe5 (fun σ H'=>∃(done:List Nat)(o:Option Nat),σ=[sr le,some (.int ki),sr l,some (oV o)]/\H'=upd H l (.lst (done.map iV))/\done++juh (elN es) o=qbs (elN es) k/\(∀a,o=some a->a<=k)) (fun σ _=>jui σ) ⟨[],some k,by rw[<-hki];rfl,rfl,rfl,fun a h=>by cases h;exact uG _⟩ ?_ ?_
 .rintro σ H' ⟨done,o,rfl,rfl,hd,ha⟩;have hdl:done.length<=14:=by
   have h1:=congrArg wJ hd;rw[zQ] at h1;have h2:=qdk low k #[];omega
  cases o with
  |none=>
   rw[show oV none=V.non from rfl];have hd':done=qbs (elN es) k:=by rw[<-hd];exact(zX _).symm
   rw[hd'];left;exact q l hl
  |some a=>
   have hak:=ha a rfl;rw[show oV (some a)=V.int (a:Int) from rfl];have eE:=qaa (o':=.lst (done.map iV)) hE hl;have eL:upd H l (.lst (done.map iV)) l=some (.lst (done.map iV)):=qa1;have hz:(done.map iV).length<sizeLine:=by rw[zA];show _<16777216;omega
   generalize hai:((a:Nat):Int)=ai;left;rw[qcx];have eIv:V.int ai=iV a:=by rw[<-hai];rfl
   have eE2:=qaa (o':=.lst (done.map iV++[V.int ai])) hE hl;have fin:done.map iV++[V.int ai]=(done++[a]).map iV:=by rw[eIv,zL];rfl
   cases a with
   |zero=>
    refine qc7 (v:=.non) (SqL.of eE2) (by rw[<-hai];exact qbp (j:=0) rfl) ?_;left;refine⟨⟨done++[0],none,rfl,by rw[fin],by rw[<-hd];show(done++[0])++[]=_;rw[zX];rfl,fun a h=>(by cases h)⟩,?_⟩;show 0<ai.toNat+1;omega
   |succ b=>
    have hb:b<es.length:=by omega
    have eb:=ji7 hb;have lb:=low (b+1) #[] #[];refine qc7 (v:=iV es[b]) (SqL.of eE2) (by rw[<-hai];exact qbp (j:=b+1) (by rw[xR,zC,zB hb];rfl)) ?_;left;refine⟨⟨done++[b+1],some es[b],rfl,by rw[fin],?_,fun a h=>by cases h;rw[eb] at lb;omega⟩,?_⟩
    .rw[<-hd,bB];show done++([b+1]++qbs (elN es) es[b])=done++qbs (elN es) (b+1);rw[qcu (k:=b+1) low #[] #[],eb];rfl
    .rw[eb] at lb;show((es[b]:Nat):Int).toNat+1<ai.toNat+1;omega
 .rintro σ H1 Q1 Q2 h ⟨v,hv,w,k,hk,hq⟩;exact⟨v,hv,w,k,hk,h _ _ hq⟩
def nmG(nm:List Str)(k:Nat):Str:=(nm[k]?).getD (ofL [])
theorem qcp{k:Nat}(h:k<nm.length):nm[k]?=some (nmG nm k):=by unfold nmG;rw[zB h];rfl
def qco{k:Nat}(h:k<nm.length):nmG nm k∈nm:=zG (qcp h)
structure jfw(H:Hp)(p ln le dg dw dr:Addr)(nm:List Str)(es:List Nat)(kg kw kr:List (Key×V))(D:Dl):Prop where
 top:H p=some (.lst [.ref ln,.ref le,.ref dg,.ref dw,.ref dr])
 n:H ln=some (.lst (nm.map V.str))
 e:H le=some (.lst (.non::es.map iV))
 g:H dg=some (.dK kg)
 w:H dw=some (.dK kw)
 r:H dr=some (.dK kr)
 gA:AD kg (qby nm D.wt)
 wA:AD kw (qby D.W0 D.wa)
 rA:AD kr (qby nm D.rm)
def jfw.same{H H':Hp}{p ln le dg dw dr:Addr}{nm:List Str}{es:List Nat}{kg kw kr:List (Key×V)}{D:Dl}(h:jfw H p ln le dg dw dr nm es kg kw kr D)(s:jab H H'):jfw H' p ln le dg dw dr nm es kg kw kr D:=
 ⟨s _ _ h.top,s _ _ h.n,s _ _ h.e,s _ _ h.g,s _ _ h.w,s _ _ h.r,h.gA,h.wA,h.rA⟩
structure jce(nm:List Str)(es:List Nat)(D:Dl):Prop where
 nd:nm.Nodup
 gd:∀z∈nm,qeu z=true
 len:nm.length=es.length+1
 l7:nm.length<=7
 lo:∀(k e:Nat),es[k]?=some e->e<=k
 sub:∀n∈D.W0,n∈nm
 ln:∀k,k<nm.length->D.ln (nmG nm k)=(qbs (elN es) k).map (nmG nm)
 ok:jay D
 srt:vX D.W0=true
theorem qes(nd:nm.Nodup){i j:Nat}(hi:i<nm.length)(hj:j<nm.length)(e:nmG nm i=nmG nm j):i=j:=by
 have h1:=qcp hi;have h2:=qcp hj;rw[e,<-h2] at h1;exact(List.getElem?_inj hi nd).mp h1
def jce.low(h:jce nm es D):Low (elN es) nm.length:=qgu h.lo _
theorem jce.at_line(h:jce nm es D){k j:Nat}(hk:k<nm.length)(hj:j<nm.length):nmG nm j∈D.ln (nmG nm k)↔j∈qbs (elN es) k:=by
 rw[h.ln k hk];constructor
 .intro hm;obtain⟨i,hi,e⟩:=zH.mp hm;have:=qcv h.low k hk i hi;rw[<-qes h.nd (show i<nm.length by omega) hj e];exact hi
 .exact fun hm=>zH.mpr ⟨j,hm,rfl⟩
def qfp(D:Dl)(nm:List Str)(h:Str):List Str:=nm.filter fun n=>decide (n∈D.W0/\h∈D.ln n)
theorem ji8:(qby W g z).isSome=decide (z∈W):=by
 unfold qby;by_cases c:z∈W
 .rw[gU c,gW c];rfl
 .rw[gT c,gX c];rfl
def juj{kvs:List (Key×V)}(d:Rd H a (.dK kvs))(A:AD kvs (qby W g))(h:Q (.bl (decide (z∈W))) H):rDI (.ref a) (.str z) H Q:=jt1 d A (by rw[ji8];exact h)
theorem joi(L:List Nat):((L.map iV).all fun v=>qd4 v)=true:=by
 rw[yA];intro v hv;obtain⟨n,_,rfl⟩:=zH.mp hv;rfl
theorem jma(x:Nat):∀L:List Nat,inV (iV x) (L.map iV)=decide (x∈L)
 | []=>rfl
 |y::L=>by
  have ih:=jma x L;unfold inV at ih⊢;rw[zU,yQ,ih];by_cases c:y=x
  .subst c;rw[show eqV (iV y) (iV y)=true from beq_self_eq_true _,gW (zF ..)];rfl
  .rw[show eqV (iV y) (iV x)=false from beq_false_of_ne (show((y:Nat):Int)≠((x:Nat):Int) by omega),eK];by_cases m:x∈L
   .rw[gW m,gW (zD _ m)]
   .rw[gX m,gX fun z=>(zO.mp z).elim (fun e=>c e.symm) m]
def jr2{K:uT}{p:Addr}{x:Nat}{L:List Nat}(h:SqL K H p (L.map iV))(q:Q (.bl (decide (x∈L))) H):rIn K false (iV x) (.ref p) H Q:=⟨p,_,rfl,.inl h,rfl,joi L,by rw[jma];exact q⟩
inductive ji9(K:uT)(d:Ad)(vs:List V)(H:Hp)(Q:VK)(E:XK):Prop
 |mk(p ln le dg dw dr:Addr)(nm:List Str)(es:List Nat)(kg kw kr:List (Key×V))(D:Dl)(j:Nat)(_:vs=[.ref p,iV j])(_:jfw H p ln le dg dw dr nm es kg kw kr D)(_:jce nm es D)(_:j<nm.length)(_:∀l H',jab H H'->H l=none->H' l=some (.lst ((qfp D nm (nmG nm j)).map V.str))->Q (.ref l) H')
set_option maxHeartbeats 9000000 in
include T in
theorem wbg:jac P w K mg base CX0 3 d.waj d.w8n ["_law_sharing_here","_law_at"] (ji9 K d):=by
 exists T.wai.ok w48
 .right
 obtain⟨p,ln,le,dg,dw,dr,nm,es,kg,kw,kr,D,j,rfl,hA,ok,hj,q⟩:=h;refine⟨_,(qa2 (qed (pv 0) (qef rfl (qai (qab (i:=2) w48.nd rfl (fF rfl)) (qai (qab (i:=3) w48.nd rfl (fF rfl)) (qai (qab (i:=4) w48.nd rfl (uI rfl)) (qai (qab (i:=5) w48.nd rfl (fF rfl)) (qai (qab (i:=6) w48.nd rfl (uI rfl)) qcm)))))))
  (qa6 (qae (qd6 (caps:=[1,2,3,5]) (cn:=["_law_at","_law_names","_law_elders","_law_wants"]) (qcf rfl rfl (by rfl) (by rfl) rfl ⟨rfl,⟨rfl,⟨rfl,⟨rfl,trivial⟩⟩⟩⟩ (by rfl) rfl ⟨⟨rfl,rfl,rfl,rfl,_,rfl⟩,⟨⟨rfl,rfl,rfl,rfl,_,rfl⟩,⟨⟨rfl,rfl,rfl,rfl,_,rfl⟩,⟨⟨rfl,rfl,rfl,rfl,_,rfl⟩,trivial⟩⟩⟩⟩ ∅) rfl (qd0 rfl T.w5c #[qaf qb3 rfl T.w3n vO #[pv 2]]) (fun _ _ _ _=>(jfb (PW.pt (je0 (jo7 (jlm (qav hr) (qam qaq (pv 2) (pv 0) nofun) (pv 4))) (qgn (qak jcu (pv 1) (qag ((wf9 T).mono ∅) hr rfl T.wh6 T.wex.kp T.wgy .nil qaz #[pv 3,pv 0]) (by rfl))))))) (fun _ _ _ _=>(qam qaq (pv 2) (pv 0) nofun)))))),?_⟩
 walk_at"d"
 try dsimp only[cxC]
 refine qac (σ:=[sr p,some (iV j),none,none,none,none,none]) rfl ?_;have etop:=hA.top;have en:=hA.n;have l7:=ok.l7;have ln7:(nm.map V.str).length=nm.length:=zA _;left;intro C s0 H0 fp l hl;refine jge nm.length (fun i H'=>jab H H'/\H' l=some (.lst ((qfp D (nm.take i) (nmG nm j)).map V.str))) ⟨qa5 hl _,qa1⟩ (fun i H' hi _=>by show i <((nm.map V.str).length:Int).toNat;rw[ln7];omega) (fun H' _=>by show((nm.map V.str).length:Int).toNat<=_;rw[ln7];omega) ?_ ?_
 .rintro i H' v H'' hi ⟨sm,el⟩ ⟨rfl,rfl⟩;have hA':=hA.same sm;have xn:atI (nm.map V.str) (0+(i:Int))=some (.str (nmG nm i)):=by rw[dD];exact qbp (by rw[zC,qcp hi];rfl)
  have etk:nm.take (i+1)=nm.take i++[nmG nm i]:=by rw[zN,qcp hi];rfl
  have hRw:Rd H'' dw (.dK kw):=.inl hA'.w;have hwA:=hA.wA;have fcons:∀b:Bool,decide (nmG nm i∈D.W0/\nmG nm j∈D.ln (nmG nm i))=b->qfp D (nm.take (i+1)) (nmG nm j)=qfp D (nm.take i) (nmG nm j)++if b then[nmG nm i] else[]:=fun b hb=>by
   unfold qfp;rw[etk,zY]
   congr 1
   cases b with
   |true=>rw[yJ,gU hb];rfl
   |false=>rw[yJ,gT (by rw[hb];simp)];rfl
  left;refine qc7 (SqL.of hA'.n) xn ?_;left;refine juj hRw hwA ?_;by_cases c:nmG nm i∈D.W0
  .rw[gW c];have lo:=ok.lo;have len:=ok.len;left;refine⟨le,es,i,by rw[dD],hA'.e,lo,#[],#[],fun ll hll=>?_⟩;have s2:=qa5 hll (.lst ((qbs (elN es) i).map iV));have ell:upd H'' ll (.lst ((qbs (elN es) i).map iV)) ll=some (.lst ((qbs (elN es) i).map iV)):=qa1;have el2:=qaa (o':=.lst ((qbs (elN es) i).map iV)) el hll;generalize upd H'' ll (.lst ((qbs (elN es) i).map iV))=H2 at*;refine jr2 (SqL.of ell) ?_;by_cases c2:j∈qbs (elN es) i
   .rw[gW c2];have fc:=fcons true (gW ⟨c,(ok.at_line hi hj).mpr c2⟩);have zl:((qfp D (nm.take i) (nmG nm j)).map V.str).length<sizeLine:=by
     rw[zA];have h1:(qfp D (nm.take i) (nmG nm j)).length<=(nm.take i).length:=zZ _ _;rw[zW] at h1;show _<16777216;omega
    left;refine qc7 (SqL.of (s2 _ _ hA'.n)) xn ?_;refine⟨_,el2,zl,?_⟩;refine⟨qb5 (sm.trans s2) hl,?_⟩;rw[qa1,fc,zL];rfl
   .rw[gX c2];have fc:=fcons false (gX fun z=>c2 ((ok.at_line hi hj).mp z.2));left;refine⟨sm.trans s2,?_⟩;rw[el2,fc];show _=some (HO.lst ((_++[]).map V.str));rw[zX]
  .rw[gX c];have fc:=fcons false (gX fun z=>c z.1);left;refine⟨sm,?_⟩;rw[el,fc];show _=some (HO.lst ((_++[]).map V.str));rw[zX]
 rintro H' ⟨sm,el⟩;rw[zJ] at el;exact q l H' sm hl el
theorem jet{t1 b1 t2 b2:Int}{q1 q2:Rat}(h1:0<b1)(h2:0<b2)(e1:(t1:Rat)=q1*(b1:Rat))(e2:(t2:Rat)=q2*(b2:Rat)):(t1*b2<t2*b1)↔q1<q2:=by
 have p1:(0:Rat) <(b1:Rat):=by exact_mod_cast h1
 have p2:(0:Rat) <(b2:Rat):=by exact_mod_cast h2
 have c:(t1*b2<t2*b1)↔((t1*b2:Int):Rat) <((t2*b1:Int):Rat):=by exact_mod_cast Iff.rfl
 have pp:(0:Rat) <(b1:Rat)*(b2:Rat):=Rat.mul_pos p1 p2;rw[c,vJ,vJ,e1,e2];have x1:q1*(b1:Rat)*(b2:Rat)=q1*((b1:Rat)*(b2:Rat)):=by grind
 have x2:q2*(b2:Rat)*(b1:Rat)=q2*((b1:Rat)*(b2:Rat)):=by grind
 rw[x1,x2];constructor
 .intro h;apply wL;intro z;have:=wB (show q2<=q1 by grind) (show(0:Rat)<=(b1:Rat)*(b2:Rat) by grind);grind
 .intro h;exact bZ h pp
theorem joj{t b:Int}(b0:0<b)(hb:b<=2^3000)(e:(t:Rat)=q*(b:Rat))(q0: -(((10^60:Nat)):Rat)<=q)(q1:q<=(((10^60:Nat)):Rat)):Hug t:=by
 have bq:(0:Rat)<=(b:Rat):=by exact_mod_cast gH b0
 have h1:(t:Rat)<=(((10^60:Nat)):Rat)*(b:Rat):=by rw[e];exact wB q1 bq
 have h2: -(((10^60:Nat)):Rat)*(b:Rat)<=(t:Rat):=by rw[e];exact wB q0 bq
 have c:(((((10^60:Nat)):Int)*b:Int):Rat)=(((10^60:Nat)):Rat)*(b:Rat):=by rw[vJ,uY]
 have h1':t<=(((10^60:Nat)):Int)*b:=by
  have:(t:Rat)<=(((((10^60:Nat)):Int)*b:Int):Rat):=by rw[c];exact h1
  exact_mod_cast this
 have h2': -((((10^60:Nat)):Int)*b)<=t:=by
  have:((-((((10^60:Nat)):Int)*b):Int):Rat)<=(t:Rat):=by rw[Rat.intCast_neg,c];grind
  exact_mod_cast this
 have m:(((10^60:Nat)):Int)*b<=(((10^60:Nat)):Int)*2^3000:=Int.mul_le_mul_of_nonneg_left hb ∅;refine Hug.le (n:=10^60*2^3000) ?_ ∅;have e2:(((10^60:Nat)):Int)*2^3000=(((10^60*2^3000:Nat)):Int):=∅
 rw[e2] at m;generalize (((10^60:Nat)):Int)*b=x at*;generalize (10^60*2^3000:Nat)=y at*;omega
theorem jkv{b:Int}(b0:0<b)(hb:b<=2^3000):Hug b:=by
 refine Hug.le (n:=2^3000) ?_ ∅;have e:((2:Int)^3000)=(((2^3000:Nat)):Int):=∅
 rw[e] at hb;generalize (2^3000:Nat)=y at*;omega
inductive jok(K:uT)(d:Ad)(vs:List V)(H:Hp)(Q:VK)(E:XK):Prop
 |mk(a1 a2:Addr)(t1 b1 t2 b2:Int)(_:vs=[.ref a1,.ref a2])(_:H a1=some (.tup [.int t1,.int b1]))(_:H a2=some (.tup [.int t2,.int b2]))(_:Hug t1)(_:Hug b1)(_:Hug t2)(_:Hug b2)(_:Q (.bl (decide (t1*b2<t2*b1))) H)
include T in
theorem wds:jac P w K mg base CX0 1 d.wfg d.wdl ["_law_one","_law_other"] (jok K d):=by
 exists T.wdz.ok whd
 .right
 obtain⟨a1,a2,t1,b1,t2,b2,rfl,e1,e2,n1,n2,n3,n4,q⟩:=h;exists qa6 (qae (qd7 jdu (qah qd9 (~~~0) (~~~1)) (qah qd9 (~~~1) (~~~0)) (qau _))),[sr a1,sr a2];left;exact q
structure PD(H:Hp)(us:List (Str×Addr))(tp bt:Str->Int):Prop where
 nd:(us.map (·.1)).Nodup
 at_:∀p∈us,H p.2=some (.tup [.int (tp p.1),.int (bt p.1)])
theorem PD.t{us:List (Str×Addr)}(h:PD H us tp bt)(t:qb4 H H'):PD H' us tp bt:=⟨h.nd,fun p hp=>t _ _ (h.at_ p hp)⟩
theorem PD.look{us:List (Str×Addr)}(h:PD H us tp bt){z:Str}(hz:z∈us.map (·.1)):∃a,qdc us z=some a/\H a=some (.tup [.int (tp z),.int (bt z)]):=by
 obtain⟨⟨z',a⟩,hp,rfl⟩:=zH.mp hz;exact⟨a,qgp h.nd hp,h.at_ _ hp⟩
structure PsB(U:List Str)(tp bt:Str->Int)(s:Str->Rat):Prop where
 b0:∀n∈U,0<bt n
 b1:∀n∈U,bt n<=2^290
 e:∀n∈U,(tp n:Rat)=s n*(bt n:Rat)
 lo:∀n∈U,0<=s n
 hi:∀n∈U,s n<=(((10^35:Nat)):Rat)
theorem q35:(0:Rat)<=(((10^35:Nat)):Rat)/\8*(((10^35:Nat)):Rat)<=(((10^60:Nat)):Rat):=by
 constructor
 .exact_mod_cast wO _
 .have:8*(10^35:Nat)<=(10^60:Nat):=∅
  exact_mod_cast this
theorem PsB.sum{U:List Str}{s:Str->Rat}(h:PsB U tp bt s){L:List Str}(sub:∀n∈L,n∈U)(l7:L.length<=7):0<=qc3 L s/\qc3 L s<=7*(((10^35:Nat)):Rat):=by
 refine⟨qfc fun n hn=>h.lo n (sub n hn),?_⟩;have h1:=qgh (l:=L) (f:=s) (B:=(((10^35:Nat)):Rat)) fun n hn=>h.hi n (sub n hn);have h2:((L.length:Nat):Rat)<=7:=by exact_mod_cast l7
 have m:=xT (show(0:Rat)<=7-((L.length:Nat):Rat) by grind) q35.1;grind
theorem jvo(h:i<=7):((2:Int)^290)^i<=2^2100:=by
 have a:∀j,j<8->((2:Int)^290)^j<=2^2100:=∅
 exact a i #[]
def jja{b:Int}(h:b<=2^2100):b<=2^3000:=aH h ∅
inductive jeu(K:uT)(d:Ad)(vs:List V)(H:Hp)(Q:VK)(E:XK):Prop
 |mk(ds ls:Addr)(us:List (Str×Addr))(L:List Str)(tp bt:Str->Int)(s:Str->Rat)(_:vs=[.ref ds,.ref ls])(_:Rd H ds (.dK (oK us)))(_:PD H us tp bt)(_:PsB (us.map (·.1)) tp bt s)(_:H ls=some (.lst (L.map V.str)))(_:(∀n∈L,n∈us.map (·.1)))(_:L.length<=7)(_:∀(p:Addr)(t b:Int),H p=none->0<b->b<=2^2100->(t:Rat)=qc3 L s*(b:Rat)->Q (.ref p) (upd H p (.tup [.int t,.int b])))
include T in
theorem w8s:jac P w K mg base CX0 1 d.w7a d.w6i ["_law_shares","_law_some"] (jeu K d):=by
 exists T.w7c.ok w1u
 .right
 obtain⟨ds,ls,us,L,tp,bt,s,rfl,hR,hF,hB,hl,sub,l7,q⟩:=h;exists (qa2 (qad (i:=2) w1u.nd rfl (uI rfl) qa7)
  (qa2 (qad (i:=3) w1u.nd rfl (uI rfl) qa7)
  (qa2 (qb2 vM rfl (qb0 (pv 1)) (qab (i:=4) w1u.nd rfl (uI rfl)) (qa2 (qad (i:=5) w1u.nd rfl (uI rfl) (pv 0|||pv 4))
  (qa2 (qad (i:=2) w1u.nd rfl (uI rfl) (qah qbr (qah qd9 (pv 2) (~~~5)) (qah qd9 (~~~5) (pv 3))))
  (qa6 (qad (i:=3) w1u.nd rfl (uI rfl) (qah qd9 (pv 3) (~~~5)))))))
  (qa6 (qae (qcc #[pv 2,pv 3])))))),[sr ds,sr ls,none,none,none,none];left;refine qbt (xs:=L.map V.str) (fun i σ H'=>H'=H/\∃(t b:Int)(w1 w2:Option V),σ=[sr ds,sr ls,some (.int t),some (.int b),w1,w2]/\0<b/\b<=(2^290)^i/\(t:Rat)=qc3 (L.take i) s*(b:Rat)) ⟨rfl,0,1,none,none,rfl,∅,∅,by show(0:Rat)=0*_;grind⟩ ?_ ?_ ?_
 .rintro i σ H' _ ⟨rfl,_⟩;exact SqL.of hl
 .rintro i v σ H' hv ⟨rfl,t,b,w1,w2,rfl,b0,bb,et⟩;rw[zC] at hv;obtain⟨n,hn,rfl⟩:=uK.mp hv;have hi:=(uF.mp hn).1;have hnW:=sub n (zG hn);have etk:L.take (i+1)=L.take i++[n]:=by rw[zN,hn];rfl
  have b2:b<=2^3000:=jja (aH bb (jvo #[]));have sB:=hB.sum (L:=L.take i) (fun m hm=>sub m (yH hm)) (by rw[zW];omega);have q3:=q35;have nt:=joj b0 b2 et (by grind) (by grind);have nb:=jkv b0 b2;have d0:=hB.b0 n hnW;have d1:=hB.b1 n hnW;have d2:bt n<=2^3000:=aH d1 ∅;have sl:=hB.lo n hnW;have sh:=hB.hi n hnW;have nd:=jkv d0 d2;have nn:=joj d0 d2 (hB.e n hnW) (by grind) (by grind);have enu:=hB.e n hnW;obtain⟨a,lk,ha⟩:=hF.look hnW;clear hv sB b2 q3 d2 sl sh;left;refine qfe hR lk ?_;have key1:0<b*bt n:=dS b0 d0;have key2:b*bt n<=(2^290)^(i+1):=by
   rw[Int.pow_succ];exact Int.mul_le_mul bb d1 (gH d0) (aH (gH b0) bb)
  have key3:((t*bt n+tp n*b:Int):Rat)=qc3 (L.take (i+1)) s*((b*bt n:Int):Rat):=by
   rw[etk,qgi,aP,vJ,vJ,vJ,et,enu];grind
  clear et enu d1 d0 bb b0;left;exact⟨rfl,_,_,_,_,rfl,key1,key2,key3⟩
 rintro σ H' ⟨rfl,t,b,w1,w2,rfl,b0,bb,et⟩;rw[zA,zJ] at et;rw[zA] at bb;have b2:b<=2^2100:=aH bb (jvo l7);left;exact q _ t b (by assumption) b0 b2 et
def w9k(K:uT)(d:Ad):Sp:=fun vs H Q _=>∃(a:Addr)(q:Rat),vs=[.ref a]/\qbf H a q/\Q (.bl true) H
theorem jol(q:Rat):jbk q.num (q.den:Int)=1:=by
 unfold jbk;have:wS q.num (q.den:Int)=1:=q.reduced;rw[this];rfl
include T in
theorem w9i:jac P w K mg base CX0 2 d.w4n d.w40 ["_law_found"] (w9k K d):=by
 exists T.w6n.ok w9n
 .right
 obtain⟨a,x,rfl,ha,q⟩:=h;refine⟨_,(qa2 (qb8 (PW.pt (qdr (qc6 (qbj (qaf qbn rfl T.w0a vH #[pv 0,qcb (v:=.ty "tuple") rfl T.wf8 PyProof.Rows.boot_tuple rfl]))) (qdr (qak jdt (qaf qb3 rfl T.w3n vO #[pv 0]) qa7 (qau _)) (qdr (qc6 (qbj (qag ((wdu T).mono ∅) hr rfl T.wfv T.wd5.kp T.wg0 .nil qaz #[~~~0]))) (qdf (qc6 (qbj (qag ((wdu T).mono ∅) hr rfl T.wfv T.wd5.kp T.wg0 .nil qaz #[~~~0])))))))) (qa6 (qae qd8)) qap)
  (qa6 (qae (qg6 (qd7 qfi (~~~0) qa7 (qau _)) (qg5 (qd7 qey (qag ((wbk T).mono ∅) hr rfl T.wcr T.w8z.kp T.wdf .nil qaz #[~~~0,~~~0]) qa7 (qau _))))))),?_⟩
 walk_at"d"
 try dsimp only[cxC]
 refine qac (σ:=[sr a]) rfl ?_;have dp:=den_pos x;have gr:=jol x;unfold qbf at ha;left;refine⟨_,rfl,?_⟩;left;refine⟨_,rfl,?_⟩;left;refine⟨_,_,rfl,gH dp,?_⟩;rw[gr];left;exact q
inductive jev(K:uT)(d:Ad)(vs:List V)(H:Hp)(Q:VK)(E:XK):Prop
 |mk(l dw:Addr)(as:List (Addr×Addr))(kw:List (Key×V))(D:Dl)(lv:Str->Rat)(_:vs=[.ref l,.ref dw])(_:jcd H D lv D.W0 l as)(_:H dw=some (.dK kw))(_:AD kw (qby D.W0 D.wa))(_:jay D)(_:vX D.W0=true)(_:∀H',jab H H'->Q (.bl true) H')
theorem jjb(D:Dl)(lv:Str->Rat)(n:Str):jb3 D lv n=.non\/∃z,jb3 D lv n=.str z:=by
 unfold jb3
 split
 .exact .inl rfl
 .split
  .exact .inr ⟨_,rfl⟩
  .exact .inl rfl
def jcd.same{H H':Hp}{D:Dl}{lv:Str->Rat}{W:List Str}{l:Addr}{as:List (Addr×Addr)}(h:jcd H D lv W l as)(s:jab H H'):jcd H' D lv W l as:=⟨s _ _ h.l,h.n,fun i n p a b=>⟨s _ _ (h.r i n p a b).1,s _ _ (h.r i n p a b).2⟩⟩
set_option maxHeartbeats 9000000 in
include T in
theorem wcd:jac P w K mg base CX0 3 d.w75 d.w6d ["_law_found","_law_wants"] (jev K d):=by
 exists T.w9s.ok w6b
 .right
 obtain⟨l,dw,as,kw,D,lv,rfl,hE,hw,hwA,ok,srt,q⟩:=h;refine⟨_,(qa2 (qb8 (PW.pt (qdr (qc6 (qbj (qaf qbn rfl T.w0a vH #[pv 0,qcb (v:=.ty "list") rfl T.wdw bH rfl]))) (qdf (qak jdt (qaf qb3 rfl T.w3n vO #[pv 0]) (qaf qgc rfl T.w3n vO #[pv 1]) (qau _))))) (qa6 (qae qd8)) qap)
  (qa2 (qb2 vM rfl (jqz rfl T.wif #[pv 0,qaf (qck rfl) rfl T.w3q wF #[pv 1]]) (jk7 rfl (qai (qab (i:=2) w6b.nd rfl (uI rfl)) (qai (qab (i:=3) w6b.nd rfl (uI rfl)) qcm))) (qa2 (qb8 (PW.pt (qdr (qc6 (qbj (qaf qbn rfl T.w0a vH #[pv 2,qcb (v:=.ty "tuple") rfl T.wf8 PyProof.Rows.boot_tuple rfl]))) (qdr (qak jdt (qaf qb3 rfl T.w3n vO #[pv 2]) qa7 (qau _)) (qdr (qak jdt (~~~2) (pv 3) (qau _)) (qdf (qc6 (qbj (qag ((w9i T).mono ∅) hr rfl T.wao T.w6n.kp T.wab .nil qaz #[~~~2])))))))) (qa6 (qae qd8)) qap)
  (qa6 (qb8 (PW.pt (je0 (qak qf6 (~~~2) qd1 (qau _)) (qgn (qc6 (qbj (qaf qbn rfl T.w0a vH #[~~~2,qcb (v:=.ty "str") rfl T.wg8 bK rfl])))))) (qa6 (qae qd8)) qap))))
  (qa6 (qae qd8)))),?_⟩
 walk_at"d"
 try dsimp only[cxC]
 refine qac (σ:=[sr l,sr dw,none,none]) rfl ?_;have kp:=qe2 hwA ok.nd;have l8:=ok.l8;have el:=hE.l;have hkl:kw.length=D.W0.length:=by
  have h1:(qbx kw).length=kw.length:=by
   have h2:=congrArg wJ hwA.keys;rw[zA,zA] at h2;exact h2.symm
  rw[<-h1];exact kp.length_eq
 have hla:(as.map fun p=>V.ref p.1).length=D.W0.length:=by rw[zA];exact hE.n
 left;refine jlx hw ?_;rw[hla,hkl];left;refine qep (ss:=qbx kw) (.inl hw) hwA.keys (by have:=kp.length_eq;omega) fun lo ss hlo hp hss=>?_;have ess:ss=D.W0:=qgl (hp.trans kp) hss srt;subst ess;have s1:=qa5 hlo (.lst (D.W0.map V.str));have elo:upd H lo (.lst (D.W0.map V.str)) lo=some (.lst (D.W0.map V.str)):=qa1;have hE1:=hE.same s1;generalize upd H lo (.lst (D.W0.map V.str))=H1 at*;clear hE el hp hss hlo hkl kp;left;refine jt4 (SqL.of hE1.l) (SqL.of elo) ?_;refine jt5 (by rw[hla,zA]) (fun i σ H'=>jab H1 H'/\∃w2 w3:Option V,σ=[sr l,sr dw,w2,w3]) ⟨jab.refl _,none,none,rfl⟩ ?_ ?_ ?_
 .rintro i σ H' ⟨sm,_⟩;exact⟨SqL.of (sm _ _ hE1.l),SqL.of (sm _ _ elo)⟩
 .rintro i x y tz σ H' hx hy ⟨sm,w2,w3,rfl⟩ htz;rw[zC] at hx hy;obtain⟨pr,hpr,rfl⟩:=uK.mp hx;obtain⟨n,hn,rfl⟩:=uK.mp hy;have s2:=sm.trans (qa5 htz (.tup [V.ref pr.1,V.str n]));have etz:upd H' tz (.tup [V.ref pr.1,V.str n]) tz=some (.tup [V.ref pr.1,V.str n]):=qa1;obtain⟨e1,e2⟩:=(hE1.same s2).r i n pr hn hpr;generalize upd H' tz (.tup [V.ref pr.1,V.str n])=H2 at*;clear hx hy hpr hn hE1;rcases jjb D lv n with ep|⟨z,ep⟩
  .rw[ep] at e1;left;refine⟨pr.2,_,rfl,e2,?_⟩;left;exact⟨s2,_,_,rfl⟩
  .rw[ep] at e1;left;refine⟨pr.2,_,rfl,e2,?_⟩;left;exact⟨s2,_,_,rfl⟩
 rintro σ H' ⟨sm,w2,w3,rfl⟩;left;exact q H' (s1.trans sm)
theorem jdm:∀{p:Str} {l:List Str},(p::l).Pairwise leS->PyProof.Rows.risingS p l=true
 |p,[],_=>rfl
 |p,x::r,h=>by
  have h1:=aI h (zF ..);unfold PyProof.Rows.risingS;rw[vZ,cJ];exact⟨h1,jdm (List.Pairwise.of_cons h)⟩
theorem jmb(x:Str):∀{l:List Str},l.Pairwise leS->∃l':List Str,l'.Perm (x::l)/\l'.Pairwise leS
 | [],_=>⟨[x],List.Perm.refl _,List.pairwise_singleton _ _⟩
 |y::r,h=>by
  by_cases c:leS x y
  .refine⟨x::y::r,List.Perm.refl _,fJ.mpr ⟨fun z hz=>?_,h⟩⟩;rcases zO.mp hz with rfl|hz
   .exact c
   .exact jc8 c (aI h hz)
  .have c':leS y x:=qdl.mpr ((List.le_total _ _).resolve_left fun z=>c (qdl.mpr z));obtain⟨l',hp,hl⟩:=jmb x (List.Pairwise.of_cons h);refine⟨y::l',(hp.cons y).trans (List.Perm.swap x y r),fJ.mpr ⟨fun z hz=>?_,hl⟩⟩;rcases zO.mp (hp.mem_iff.mp hz) with rfl|hz
   .exact c'
   .exact aI h hz
theorem jom:∀ss:List Str,∃ss':List Str,ss'.Perm ss/\vX ss'=true:=fun ss=>by
 have:∃ss':List Str,ss'.Perm ss/\ss'.Pairwise leS:=by
  induction ss with
  |nil=>exact⟨[],List.Perm.refl _,fW⟩
  |cons x r ih=>
   obtain⟨r',hp,hr⟩:=ih;obtain⟨l',hp',hl⟩:=jmb x hr;exact⟨l',hp'.trans (hp.cons x),hl⟩
 obtain⟨l,hp,hl⟩:=this;refine⟨l,hp,?_⟩
 cases l with
 |nil=>rfl
 |cons x r=>exact jdm hl
structure R3 where
 a:Addr
 n:Str
 s:Addr
 pv:V
structure jon(H:Hp)(r:R3):Prop where
 t:H r.a=some (.tup [.str r.n,.ref r.s,r.pv])
 p:r.pv=.non\/∃z,r.pv=.str z
def jon.same{H H':Hp}{r:R3}(h:jon H r)(s:jab H H'):jon H' r:=⟨s _ _ h.t,h.p⟩
def jon.tt{r:R3}(h:jon H r)(s:qb4 H H'):jon H' r:=⟨s _ _ h.t,h.p⟩
structure Gd(H:Hp)(D:Dl)(lv:Str->Rat)(r:R3):Prop where
 at_:jon H r
 f:r.n∈D.W0->qbf H r.s (shQ D lv r.n)
theorem Gd.same{H H':Hp}{D:Dl}{lv:Str->Rat}{r:R3}(h:Gd H D lv r)(s:jab H H'):Gd H' D lv r:=⟨h.at_.same s,fun z=>(h.f z).same s⟩
theorem Gd.tt{r:R3}(h:Gd H D lv r)(s:qb4 H H'):Gd H' D lv r:=⟨h.at_.tt s,fun z=>s _ _ (h.f z)⟩
structure Shs(D:Dl)(lv:Str->Rat):Prop where
 b:LvB D lv
 lo:∀n∈D.W0,0<=shQ D lv n
 le:∀n∈D.W0,shQ D lv n<=(D.wa n:Rat)
 rm:∀n∈D.W0,∀h∈D.ln n,toQ D lv D.W0 h<=(D.rm h:Rat)
def Shs.of(ok:jay D){lf lv:Str->Rat}{M:Rat}{N:Nat}(I:RdI D [] lf lv M N)(b:LvB D lv):Shs D lv:=⟨b,fun n hn=>(I.sh ok hn).1,fun n hn=>(I.sh ok hn).2.1,fun n hn h hh=>by
 have h1:=I.nn n hn h hh;rw[I.full h] at h1;grind⟩
theorem jjc{n:Str} :((shQ D lv n).num:Rat)=lv n*(((shQ D lv n).den:Int)*D.wt n:Int):=by
 have h:=jep (shQ D lv n);rw[vJ,uY,h];have:shQ D lv n=lv n*(D.wt n:Rat):=rfl;generalize (((shQ D lv n).den:Nat):Rat)=x at*;rw[this];grind
theorem jjd(q:Rat):((q.num:Int):Rat)=q*(((q.den:Nat):Int):Rat):=by rw[uY];exact jep q
def RB.hn(h:RB q):Hug q.num:=Hug.small (vB h.n (wU ∅ ∅))
def RB.hd(h:RB q):Hug (q.den:Int):=Hug.small (by rw[wC];exact vB h.d (wU ∅ ∅))
theorem qdw{s:Str->Rat}{P:Str->Bool}:∀{l:List Str},qc3 (l.filter P) s=qc3 l fun n=>if P n=true then s n else 0
 | []=>rfl
 |n::l=>by
  show _=(if P n=true then s n else 0)+qc3 l _;by_cases c:P n=true
  .rw[aU c,gU c,<-qdw];rfl
  .rw[aV c,gT c,<-qdw];grind
theorem qdz:z∈qfp D nm h↔z∈nm/\z∈D.W0/\h∈D.ln z:=by unfold qfp;rw[zV,decide_eq_true_eq]
theorem jew(ok:jce nm es D)(lv:Str->Rat)(h:Str):qc3 (qfp D nm h) (shQ D lv)=toQ D lv D.W0 h:=by
 have p:(qfp D nm h).Perm (D.W0.filter fun n=>decide (h∈D.ln n)):=by
  refine(aF (ok.nd.filter _) (ok.ok.nd.filter _)).mpr fun z=>?_;show z∈qfp D nm h↔_;rw[qdz,zV,decide_eq_true_eq];exact⟨fun a=>a.2,fun a=>⟨ok.sub z a.1,a⟩⟩
 rw[jdk p,qdw];unfold toQ;exact qbv fun n _=>by
  by_cases c:h∈D.ln n
  .rw[gU (gW c),gU c]
  .rw[gT (by simpa using c),gT c]
noncomputable def tpS(D:Dl)(lv:Str->Rat)(n:Str):Int:=(shQ D lv n).num
noncomputable def btS(D:Dl)(lv:Str->Rat)(n:Str):Int:=((shQ D lv n).den:Int)
theorem Shs.ps(ok:jay D){lv:Str->Rat}(h:Shs D lv){U:List Str}(sub:∀n∈U,n∈D.W0):PsB U (tpS D lv) (btS D lv) (shQ D lv):=by
 refine⟨fun n hn=>den_pos _,fun n hn=>?_,fun n hn=>jjd _,fun n hn=>h.lo n (sub n hn),fun n hn=>?_⟩
 .have h1:=(h.b.rs n (sub n hn)).d;show(((shQ D lv n).den:Nat):Int)<=2^290;have h2:(((shQ D lv n).den:Nat):Int)<=(((2^290:Nat)):Int):=by exact_mod_cast aG h1
  exact aH h2 ∅
 .have h1:=h.le n (sub n hn);have h2:=ok.a1 n (sub n hn);have h3:(D.wa n:Rat)<=(((10^35:Nat)):Rat):=by
   have h1:D.wa n<=(((10^35:Nat)):Int):=aH h2 ∅;rw[<-uY];exact_mod_cast h1
  grind
def joo{K:uT}{p:Addr}(h:SqL K H p (nm.map V.str))(q:Q (.bl (!decide (y∈nm))) H):rIn K true (.str y) (.ref p) H Q:=⟨p,_,rfl,.inl h,rfl,My.qem nm,by rw[My.qgs];exact q⟩
def jfx{x:Int}(h0:0<=x)(h1:x<=10^31):Hug x:=Hug.small (vI (show x.natAbs<=10^31 by omega) ∅)
inductive jop(K:uT)(d:Ad)(vs:List V)(H:Hp)(Q:VK)(E:XK):Prop
 |mk(p ln le dg dw dr:Addr)(nm:List Str)(es:List Nat)(kg kw kr:List (Key×V))(D:Dl)(ds:Addr)(us:List (Str×Addr))(lv:Str->Rat)(z:Str)(j:Nat)(_:vs=[.ref p,.ref ds,.str z,iV j])(_:jfw H p ln le dg dw dr nm es kg kw kr D)(_:jce nm es D)(_:(∀y∈nm,0<=D.rm y/\D.rm y<=10^31))(_:H ds=some (.dK (oK us)))(_:PD H us (tpS D lv) (btS D lv))(_:(∀n,n∈us.map (·.1)↔n∈D.W0))(_:Shs D lv)(_:z∈D.W0)(_:j<nm.length)(_:∀H',jab H H'->Q (.bl (decide (nmG nm j∈(D.ln z).filter (stB D lv z)))) H')
set_option maxHeartbeats 9000000 in
include T in
theorem whl:jac P w K mg base CX0 5 d.wfn d.wcc ["_law_sharing_here","_law_shares","_law_name_here","_law_at"] (jop K d):=by
 exists T.wh5.ok w3w
 .right
 obtain⟨p,ln,le,dg,dw,dr,nm,es,kg,kw,kr,D,ds,us,lv,z,j,rfl,hA,ok,rmb,hds,hP,hu,hS,hz,hj,q⟩:=h;refine⟨_,(qa2 (qed (pv 0) (qef rfl (qai (qab (i:=4) w3w.nd rfl (uI rfl)) (qai (qab (i:=5) w3w.nd rfl (uI rfl)) (qai (qab (i:=6) w3w.nd rfl (uI rfl)) (qai (qab (i:=7) w3w.nd rfl (uI rfl)) (qai (qab (i:=8) w3w.nd rfl (uI rfl)) qcm)))))))
  (qa2 (qad (i:=9) w3w.nd rfl (uI rfl) (qag ((wbg T).mono ∅) hr rfl T.we1 T.wai.kp T.we5 .nil qaz #[pv 0,pv 3]))
  (qa2 (qad (i:=10) w3w.nd rfl (uI rfl) (qag ((w8s T).mono ∅) hr rfl T.w9x T.w7c.kp T.w9w .nil qaz #[pv 1,pv 9]))
  (qa2 (qb8 (PW.pt (qdr (qak qct (pv 2) (pv 9) (by rfl)) (qdf (qak jdt (~~~10) (qah qd9 (pv 8|||qam qaq (pv 4) (pv 3) nofun) (~~~10)) (qau _))))) (qa6 (qae qd8)) qap)
  (qa2 (qb2 vM rfl (qb0 (pv 9)) (qab (i:=11) w3w.nd rfl (uI rfl)) (qa2 (qad (i:=12) w3w.nd rfl (uI rfl) (qcc #[qam qat (pv 1|||pv 11) qa7 nofun,qah qd9 (qam qat (pv 1|||pv 11) qa7 nofun) (pv 6|||pv 11)]))
  (qa6 (qb8 (qbj (qag ((wds T).mono ∅) hr rfl T.wft T.wdz.kp T.wfp .nil qaz #[qcc #[qam qat (pv 1|||pv 2) qa7 nofun,qah qd9 (qam qat (pv 1|||pv 2) qa7 nofun) (pv 6|||pv 2)],pv 12])) (qa6 (qae qd8)) qap))))
  (qa6 (qae qd8))))))),?_⟩
 walk_at"d"
 try dsimp only[cxC]
 refine qac (σ:=[sr p,sr ds,some (.str z),some (iV j),none,none,none,none,none,none,none,none,none]) rfl ?_;have etop:=hA.top;have l7:=ok.l7;have hgA:=hA.gA;have hrA:=hA.rA;have hjm:nmG nm j∈nm:=qco hj;have znm:=ok.sub z hz;left;refine⟨p,ln,le,dg,dw,dr,nm,es,kg,kw,kr,D,j,rfl,hA,ok,hj,fun li H1 s1 fli eli=>?_⟩;have hA1:=hA.same s1;have il:(qfp D nm (nmG nm j)).length<=7:=vK (zZ _ _) l7;left;have ps:=hS.ps ok.ok (U:=us.map (·.1)) fun n hn=>(hu n).mp hn;have sbi:∀n∈qfp D nm (nmG nm j),n∈us.map (·.1):=fun n hn=>(hu n).mpr (qdz.mp hn).2.1;refine⟨ds,li,us,qfp D nm (nmG nm j),tpS D lv,btS D lv,shQ D lv,rfl,.inl (s1 _ _ hds),hP.t (qb4.of s1),ps,eli,sbi,il,fun pt t b hpt b0 b2 et=>?_⟩;rw[jew ok lv] at et;have q3:=q35;have sB:=ps.sum sbi il;rw[jew ok lv] at sB;have b3:b<=2^3000:=jja b2;have hgb:=jkv b0 b3;have hgr:=jfx (rmb _ hjm).1 (rmb _ hjm).2;have bq:(0:Rat) <(b:Rat):=by exact_mod_cast b0
 have ieq:t=D.rm (nmG nm j)*b↔toQ D lv D.W0 (nmG nm j)=(D.rm (nmG nm j):Rat):=by
  have c:(t=D.rm (nmG nm j)*b)↔((t:Int):Rat)=((D.rm (nmG nm j)*b:Int):Rat):=by exact_mod_cast Iff.rfl
  rw[c,et,vJ];constructor
  .intro h;have h1:(toQ D lv D.W0 (nmG nm j)-(D.rm (nmG nm j):Rat))*(b:Rat)=0:=by grind
   rcases Rat.mul_eq_zero.mp h1 with h2|h2
   .grind
   .grind
  .intro h;rw[h]
 have s2:=s1.trans (qa5 hpt (.tup [V.int t,V.int b]));have ept:upd H1 pt (.tup [V.int t,V.int b]) pt=some (.tup [V.int t,V.int b]):=qa1;have eli2:=qaa (o':=.tup [V.int t,V.int b]) eli hpt;generalize upd H1 pt (.tup [V.int t,V.int b])=H2 at*;have hA2:=hA.same s2;have hRr:Rd H2 dr (.dK kr):=.inl hA2.r;have hRg:Rd H2 dg (.dK kg):=.inl hA2.g;have grm:qby nm D.rm (nmG nm j)=some (D.rm (nmG nm j)):=qbi hjm;have xn:atI (nm.map V.str) ((j:Nat):Int)=some (.str (nmG nm j)):=qbp (by rw[zC,qcp hj];rfl);rw[show iV j=V.int ((j:Nat):Int) from rfl];generalize ((j:Nat):Int)=jj at*;clear sB q3 b3 bq et b2 hpt s1 hA1 eli fli;left;refine joo (SqL.of eli2) ?_;by_cases c:z∈qfp D nm (nmG nm j)
 .rw[gW c];left;refine qc7 (SqL.of hA2.n) xn ?_;left;by_cases ct:t=D.rm (nmG nm j)*b
  .rw[gW ct];have tq:=ieq.mp ct;clear ct ieq hgb hgr b0;left;refine qbt (xs:=(qfp D nm (nmG nm j)).map V.str) (fun i σ H'=>∃(w11 w12:Option V),σ=[sr p,sr ds,some (V.str z),some (V.int jj),sr ln,sr le,sr dg,sr dw,sr dr,sr li,sr pt,w11,w12]/\jab H2 H'/\∀m∈(qfp D nm (nmG nm j)).take i,¬lv z<lv m) ⟨none,none,rfl,jab.refl _,fun m hm=>by simp at hm⟩ ?_ ?_ ?_
   .rintro i σ H' _ ⟨w11,w12,rfl,sm,_⟩;exact SqL.of (sm _ _ eli2)
   .rintro i v σ H' hv ⟨w11,w12,rfl,sm,hlt⟩;rw[zC] at hv;obtain⟨m,hm,rfl⟩:=uK.mp hv;have hmI:=zG hm;obtain⟨mnm,mW,mln⟩:=qdz.mp hmI;have etk:(qfp D nm (nmG nm j)).take (i+1)=(qfp D nm (nmG nm j)).take i++[m]:=by rw[zN,hm];rfl
    have s02:=s2.trans sm;have hP':=hP.t (qb4.of s02);obtain⟨am,lkm,em⟩:=hP'.look ((hu m).mpr mW);obtain⟨az,lkz,ez⟩:=hP'.look ((hu z).mpr hz);have hRs:Rd H' ds (.dK (oK us)):=.inl (s02 _ _ hds);have hRg':Rd H' dg (.dK kg):=.inl (sm _ _ hA2.g);have gm:qby nm D.wt m=some (D.wt m):=qbi mnm;have gz:qby nm D.wt z=some (D.wt z):=qbi znm;have hg:∀y∈D.W0,Hug (tpS D lv y)/\Hug (btS D lv y)/\Hug (D.wt y)/\Hug (btS D lv y*D.wt y)/\0<btS D lv y*D.wt y:=fun y hy=>by
     have w1:=ok.ok.w1 y hy;have w2:=ok.ok.w2 y hy;have d1:=(hS.b.rs y hy).d;refine⟨(hS.b.rs y hy).hn,(hS.b.rs y hy).hd,Hug.small (vI (show(D.wt y).natAbs<=1000 by omega) ∅),Hug.small ?_,dS (den_pos _) #[]⟩;unfold btS;rw[xS,wC];have:(shQ D lv y).den*(D.wt y).natAbs<=2^290*1000:=cE (aG d1) #[];exact vI this ∅
    obtain⟨g1,g2,g3,g4,g5⟩:=hg m mW;obtain⟨k1,k2,k3,k4,k5⟩:=hg z hz;have lp:tpS D lv z*(btS D lv m*D.wt m)<tpS D lv m*(btS D lv z*D.wt z)↔lv z<lv m:=jet k5 g5 (jjc (D:=D) (lv:=lv) (n:=z)) (jjc (D:=D) (lv:=lv) (n:=m));clear hv hm hg hRg;left;refine qfe hRs lkm ?_;left;refine qfe hRs lkm ?_;left;rename_i p1 hp1;have s3:=qa5 hp1 (.tup [V.int (tpS D lv m),V.int (btS D lv m*D.wt m)]);have e1:upd H' p1 (.tup [V.int (tpS D lv m),V.int (btS D lv m*D.wt m)]) p1=some (.tup [V.int (tpS D lv m),V.int (btS D lv m*D.wt m)]):=qa1;generalize upd H' p1 (.tup [V.int (tpS D lv m),V.int (btS D lv m*D.wt m)])=H3 at*;have hRs3:Rd H3 ds (.dK (oK us)):=.inl (s3 _ _ (s02 _ _ hds));have hRg3:Rd H3 dg (.dK kg):=.inl (s3 _ _ (sm _ _ hA2.g));have ez3:=s3 _ _ ez;clear hRs hRg' em ez;refine qfe hRs3 lkz ?_;left;refine qfe hRs3 lkz ?_;left;rename_i p2 hp2;have s4:=qa5 hp2 (.tup [V.int (tpS D lv z),V.int (btS D lv z*D.wt z)]);refine⟨p2,p1,tpS D lv z,btS D lv z*D.wt z,tpS D lv m,btS D lv m*D.wt m,rfl,qa1,s4 _ _ e1,k1,k4,g1,g4,?_⟩;by_cases cl:lv z<lv m
    .rw[gW (lp.mpr cl)];left;have e:¬nmG nm j∈(D.ln z).filter (stB D lv z):=fun h=>by
      have h2:=(zV.mp h).2;unfold stB at h2;have h3:=(of_decide_eq_true h2).2 m mW mln;grind
     rw[gX e] at q;exact q _ (s02.trans (s3.trans s4))
    .rw[gX fun w=>cl (lp.mp w)];left;refine⟨_,_,rfl,sm.trans (s3.trans s4),fun y hy=>?_⟩;rw[etk] at hy;rcases zM.mp hy with h1|h1
     .exact hlt y h1
     .rw[zE.mp h1];exact cl
   rintro σ H' ⟨w11,w12,rfl,sm,hlt⟩;rw[zA,zJ] at hlt;left;have e:nmG nm j∈(D.ln z).filter (stB D lv z):=by
    refine zV.mpr ⟨(qdz.mp c).2.2,?_⟩;unfold stB;refine gW ⟨tq,fun m hm hml=>?_⟩;have:=hlt m (qdz.mpr ⟨ok.sub m hm,hm,hml⟩);grind
   rw[gW e] at q;exact q _ (s2.trans sm)
  .rw[gX ct];left;have e:¬nmG nm j∈(D.ln z).filter (stB D lv z):=fun h=>by
    have h2:=(zV.mp h).2;unfold stB at h2;exact ct (ieq.mpr (of_decide_eq_true h2).1)
   rw[gX e] at q;exact q _ s2
 .rw[gX c];left;have e:¬nmG nm j∈(D.ln z).filter (stB D lv z):=fun h=>c (qdz.mpr ⟨znm,hz,(zV.mp h).1⟩);rw[gX e] at q;exact q _ s2
theorem jkw(c:Int){n:Nat}(hn:n<=20):((vG n).map fun k:Nat=>nmS c (0+(k:Int))).Nodup:=by
 show List.Pairwise _ _;rw[bG];refine List.Pairwise.imp_of_mem (R:=fun a b=>a<b) (fun {a b} ha hb lt e=>?_) List.pairwise_lt_range;have h1:=yR.mp ha;have h2:=yR.mp hb;have:=jiu #[] #[] #[] #[] e;omega
theorem jkx(lo:Low el n):∀k,k<n->(qbs el k).Nodup:=by
 intro k
 induction k using aO with
 |ind k ih=>
  intro kn
  cases k with
  |zero=>rw[qcj];exact zT.mpr ⟨by simp,yG⟩
  |succ k=>
   have l:=lo (k+1) #[] kn;rw[qcu lo #[] kn];refine zT.mpr ⟨fun z=>?_,ih _ l #[]⟩;have:=qcv lo _ #[] _ z;omega
open Classical in
noncomputable def lnD(nm:List Str)(es:List Nat)(n:Str):List Str:=if h:∃k,k<nm.length/\nmG nm k=n then(qbs (elN es) h.choose).map (nmG nm) else[]
theorem jdn(nd:nm.Nodup){k:Nat}(hk:k<nm.length):lnD nm es (nmG nm k)=(qbs (elN es) k).map (nmG nm):=by
 have h:∃k',k'<nm.length/\nmG nm k'=nmG nm k:=⟨k,hk,rfl⟩;unfold lnD;rw[dif_pos h];rw[qes nd h.choose_spec.1 hk h.choose_spec.2]
structure Dn(nm:List Str)(i:Nat)(es:List Nat)(W:List Str)(wt wa rm:Str->Int):Prop where
 el:es.length=i-1
 lo:∀(k e:Nat),es[k]?=some e->e<=k
 wnd:W.Nodup
 wsub:∀n∈W,n∈nm.take i
 wt:∀n∈nm.take i,1<=wt n/\wt n<=1000
 wa:∀n∈W,InB (10^30) (wa n)
 rm:∀n∈nm.take i,InB (10^31) (rm n)
theorem Dn.ok{W0:List Str}{wt wa rm:Str->Int}(h:Dn nm nm.length es W wt wa rm)(n1:1<=nm.length)(n7:nm.length<=7)(nd:nm.Nodup)(gd:∀z∈nm,qeu z=true)(pm:W0.Perm W)(srt:vX W0=true):jce nm es ⟨W0,lnD nm es,wt,wa,rm⟩:=by
 have low:Low (elN es) nm.length:=qgu h.lo _;have wsub:∀n∈W0,n∈nm:=fun n hn=>yH (h.wsub n (pm.mem_iff.mp hn));have ix:∀n∈W0,∃k,k<nm.length/\nmG nm k=n:=fun n hn=>by
  obtain⟨k,hk,e⟩:=zS.mp (wsub n hn);exact⟨k,hk,by unfold nmG;rw[zB hk,e];rfl⟩
 have htw:∀n∈nm,n∈nm.take nm.length:=fun n hn=>by rw[zJ];exact hn
 have line:∀n∈W0,∀x∈lnD nm es n,∃j,j<nm.length/\x=nmG nm j:=fun n hn x hx=>by
  obtain⟨k,hk,rfl⟩:=ix n hn;rw[jdn nd hk] at hx;obtain⟨j,hj,rfl⟩:=zH.mp hx;exact⟨j,by have:=qcv low k hk j hj;omega,rfl⟩
 have rmb:∀n∈W0,∀x∈lnD nm es n,InB (10^31) (rm x):=fun n hn x hx=>by
  obtain⟨j,hj,rfl⟩:=line n hn x hx;exact h.rm _ (htw _ (qco hj))
 refine⟨nd,gd,by have:=h.el;omega,n7,h.lo,wsub,fun k hk=>jdn nd hk,⟨pm.nodup_iff.mpr h.wnd,fun n hn=>(h.wt n (htw n (wsub n hn))).1,fun n hn=>(h.wt n (htw n (wsub n hn))).2,fun n hn=>(h.wa n (pm.mem_iff.mp hn)).lo,fun n hn=>aH (h.wa n (pm.mem_iff.mp hn)).hi ∅,fun n hn x hx=>(rmb n hn x hx).lo,fun n hn x hx=>(rmb n hn x hx).hi,fun n hn=>?_,fun n hn=>?_,fun n hn=>?_,?_⟩,srt⟩
 .obtain⟨k,hk,rfl⟩:=ix n hn;show nmG nm k∈lnD nm es (nmG nm k);rw[jdn nd hk];exact zH.mpr ⟨k,jgc low hk,rfl⟩
 .obtain⟨k,hk,rfl⟩:=ix n hn;show(lnD nm es (nmG nm k)).Nodup;rw[jdn nd hk];refine bG.mpr ((xI.mpr fun i j hi hj lt z=>?_));have h1:=qcv low k hk _ (yB hi);have h2:=qcv low k hk _ (yB hj);have:=qes nd #[] #[] z;have:=(gK (jkx low k hk)).mp this;omega
 .obtain⟨k,hk,rfl⟩:=ix n hn;show(lnD nm es (nmG nm k)).length<=20;rw[jdn nd hk,zA];have:=qdk low k hk;omega
 .show W0.length<=7;exact vK (vT (pm.nodup_iff.mpr h.wnd) wsub) n7
theorem jwv{xs:List Int}(h:xs.length=3):∃x y z,xs=[x,y,z]:=by
 match xs,h with
 | [x,y,z],_=>exact⟨x,y,z,rfl⟩
def wes(K:uT)(d:Ad):Sp:=fun vs H Q _=>∃(a:Addr)(ns:List Int)(n:Nat),vs=[.ref a,.int (n:Int)]/\SqL K H a (ns.map V.int)/\1<=n/\n<=7/\
 ∀(p ln le dg dw dr:Addr)(nm:List Str)(es:List Nat)(kg kw kr:List (Key×V))(D:Dl) H',jab H H'->jfw H' p ln le dg dw dr nm es kg kw kr D->jce nm es D->(∀z∈nm,1<=D.wt z/\D.wt z<=1000)->(∀z∈nm,0<=D.rm z/\D.rm z<=10^31)->nmS (cell ns 1) (nm.length:Int)∉nm->Q (.ref p) H'
def jex{kvs:List (Key×V)}{f:Str->Int}{v:Int}(h:AD kvs (qby L f)):AD (qbl kvs (uH z) (.int v)) (qby (L++[z]) (fun y=>if y=z then v else f y)):=(h.put z v).cast fun y=>by
 rw[qer];unfold qby;by_cases c:y=z
 .rw[gU c,gU (by rw[c];simp)];show some v=some (if y=z then v else f y);rw[gU c]
 .rw[gT c];by_cases c2:y∈L
  .rw[gU c2,gU (zP _ c2)];show some (f y)=some (if y=z then v else f y);rw[gT c]
  .rw[gT c2,gT fun m=>(zM.mp m).elim c2 fun e=>c (zE.mp e)]
def jky{kvs:List (Key×V)}{f:Str->Int}{v:Int}(h:AD kvs (qby L f))(hz:z∈L):AD (qbl kvs (uH z) (.int v)) (qby L (fun y=>if y=z then v else f y)):=(h.put z v).cast fun y=>by
 rw[qer];unfold qby;by_cases c:y=z
 .rw[gU c,gU (by rw[c];exact hz)];show some v=some (if y=z then v else f y);rw[gU c]
 .rw[gT c];by_cases c2:y∈L
  .rw[gU c2,gU c2];show some (f y)=some (if y=z then v else f y);rw[gT c]
  .rw[gT c2,gT c2]
set_option maxHeartbeats 9000000 in
include T in
theorem wel:jac P w K mg base CX0 3 d.w8y d.w76 ["_law_script","_law_count"] (wes K d):=by
 exists T.wb5.ok w0w
 .right
 obtain⟨a,ns,n,rfl,hS,n1,n7,q⟩:=h;refine' ⟨_,?rx,?_⟩
 case' rx=>(with_unfolding_all change My.PSsx _ _ _);refine' (jkc (i:=2) w0w.nd rfl (uI rfl) (jns (qf5 qa7 (qf5 qa7 (qf5 qa7 (qf5 (qah je4 qa7 qa7) jnr)))) (qah qbe (qag ((w2h T).mono ∅) hr rfl T.w39 T.w2l.kp T.w3c .nil qaz #[pv 0,qa7]) qa7) nofun) ?ry)
 case' ry=>exact(qa2 (jhx (j:=3) (caps:=[0]) (cn:=["_law_script"]) (qcf rfl rfl (by rfl) (by rfl) rfl ⟨rfl,trivial⟩ (by rfl) rfl ⟨⟨rfl,rfl,rfl,rfl,_,rfl⟩,trivial⟩ ∅) rfl w0w.nd rfl rfl (qd0 rfl T.w5c #[pv 1]) (fun _ _ _ _=>qex) (fun _ _ _ _=>(qag ((wf3 T).mono ∅) hr rfl T.wh0 T.wez.kp T.wgp .nil qaz #[qag ((w2h T).mono ∅) hr rfl T.w39 T.w2l.kp T.w3c .nil qaz #[pv 1,qa7],pv 0])))
  (qa2 (qad (i:=4) w0w.nd rfl (uI rfl) (qbd #[qd1]))
  (qa2 (qad (i:=5) w0w.nd rfl (uI rfl) qb1)
  (qa2 (qad (i:=6) w0w.nd rfl (uI rfl) qb1)
  (qa2 (qad (i:=7) w0w.nd rfl (uI rfl) qb1)
  (qa2 (qb2 vM rfl (qd0 rfl T.w5c #[pv 1]) (qab (i:=8) w0w.nd rfl (fF rfl)) (qa2 (jhx (j:=9) (caps:=[0,8]) (cn:=["_law_script","_law_k"]) (qcf rfl rfl (by rfl) (by rfl) rfl ⟨rfl,⟨rfl,trivial⟩⟩ (by rfl) rfl ⟨⟨rfl,rfl,rfl,rfl,_,rfl⟩,⟨⟨rfl,rfl,rfl,rfl,_,rfl⟩,trivial⟩⟩ ∅) rfl w0w.nd rfl rfl (qd0 rfl T.w5c #[qa7]) (fun _ _ _ _=>qex) (fun _ _ _ _=>(qag ((w2h T).mono ∅) hr rfl T.w39 T.w2l.kp T.w3c .nil qaz #[pv 1,qah qbr (qah qbr qa7 (qah qba qa7 (pv 2))) (pv 0)])))
  (qa2 (qdg (qb8 (qak qfi (pv 8) qa7 (qau _)) (qa6 (qb9 (qg2 vY wG wH qc8 (pv 4) #[qam qaq (qbd #[qah qbe (qam qaq (pv 9) qa7 nofun) (pv 8),qah je3 (pv 8) qa7,qa7,qah qbe (qam qaq (pv 9) qa7 nofun) (pv 8)]) (qah qbe (qag ((w2h T).mono ∅) hr rfl T.w39 T.w2l.kp T.w3c .nil qaz #[pv 0,qa7]) qa7) nofun]))) qap))
  (qa2 (qad (i:=10) w0w.nd rfl (uI rfl) (qag ((wah T).mono ∅) hr rfl T.wck T.wap.kp T.wd2 .nil qaz #[qam qaq (pv 9) qa7 nofun,qah qba qa7 (pv 8)]))
  (qa2 (qbg (qav hr) (pv 5) (qam qaq (pv 3) (pv 8) nofun) (qam qaq (qbd #[qa7,qa7,qa7,qa7,qah qbr qa7 (qah qbe (qah qbo (pv 10) qa7) qa7),qa7]) (qah qbe (pv 10) qa7) nofun) rfl)
  (qa2 (qad (i:=10) w0w.nd rfl (uI rfl) (qag ((wah T).mono ∅) hr rfl T.wck T.wap.kp T.wd2 .nil qaz #[qam qaq (pv 9) qa7 nofun,qah qbr (qah qba qa7 (pv 8)) qa7]))
  (qa2 (qdg (qb8 (qak qfi (qah qbe (pv 10) qa7) qa7 (qau _)) (qa6 (qbg (qav hr) (pv 6) (qam qaq (pv 3) (pv 8) nofun) (qag ((whf T).mono ∅) hr rfl T.wi8 T.wh3.kp T.wi5 .nil qaz #[pv 10,pv 2]) rfl)) qap))
  (qa2 (qbg (qav hr) (pv 7) (qam qaq (pv 3) (pv 8) nofun) (qag ((why T).mono ∅) hr rfl T.wi3 T.wgs.kp T.wi6 .nil qaz #[qag ((wah T).mono ∅) hr rfl T.wck T.wap.kp T.wd2 .nil qaz #[qam qaq (pv 9) qa7 nofun,qah qbr (qah qba qa7 (pv 8)) qa7],pv 2]) rfl)
  (qa6 (qdg (qb8 (PW.pt (je0 (qak qfi (pv 8) qa7 (qau _)) (qgn (qak qey (qah qbe (qam qaq (pv 9) qa7 nofun) qa7) qa7 (qau _))))) (qa6 (qbg (qav hr) (pv 7) (qam qaq (pv 3) (pv 8) nofun) (pv 7|||qam qaq (pv 3) (qam qaq (pv 4) (pv 8) nofun) nofun) rfl)) qap)))))))))))
  (qa6 (qae (qbd #[pv 3,pv 4,pv 5,pv 6,pv 7])))))))))
 walk_at"d"
 try dsimp only[cxC]
 generalize hni:((n:Nat):Int)=ni;refine qac (σ:=[sr a,some (.int ni),none,none,none,none,none,none,none,none,none]) rfl ?_;left;rename_i pm hpm;have s2:=qa5 hpm (.lst [V.int 1,V.int 1,V.int 7000000001,V.int (10^eB 27)]);have e3:upd H pm (.lst [V.int 1,V.int 1,V.int 7000000001,V.int (10^eB 27)]) pm=some (.lst [V.int 1,V.int 1,V.int 7000000001,V.int (10^eB 27)]):=qa1;generalize upd H pm (.lst [V.int 1,V.int 1,V.int 7000000001,V.int (10^eB 27)])=H2 at*;refine⟨a,ns,2,rfl,s2.seq hS,∅,?_⟩;left;have m0:=vA (cell ns 2) (show(4:Int)≠0 by decide);have m1:=vF (cell ns 2) (show(0:Int)<4 by decide);refine jc1 (xs:=[1,1,7000000001,10^eB 27]) (SqL.of e3) m0 m1 fun sc hm=>?_;have hsc:Sc sc:=by
  simp only[zO,yE,or_false] at hm;have e27:(10:Int)^eB 27=10^27:=rfl;rw[e27] at hm;exact⟨#[],#[]⟩
 clear hm m0 m1 e3 hpm;left;intro C1 s01 H01 fp1 ln hln;have eni:ni.toNat=n:=by omega
 refine jge ni.toNat (fun i H'=>H'=upd H2 ln (.lst (((vG i).map fun k:Nat=>nmS (cell ns 1) (0+(k:Int))).map V.str))) rfl (fun i H' hi _=>hi) (fun H' _=>uG _) ?_ ?_
 .rintro i H' v H'' hi rfl ⟨rfl,rfl⟩;have hS':=jd2 (o:=.lst (((vG i).map fun k:Nat=>nmS (cell ns 1) (0+(k:Int))).map V.str)) (s2.seq hS) hln;left;refine⟨a,ns,_,rfl,hS',∅,?_⟩;left;refine⟨_,_,rfl,#[],#[],?_⟩;refine⟨_,qa1,by rw[zA,zA,cK];show _<16777216;omega,?_⟩;rw[qcx,List.range_succ,zL,zL];rfl
 rintro H3 rfl;rw[eni];have hwl:((vG n).map fun k:Nat=>nmS (cell ns 1) (0+(k:Int))).length=n:=by rw[zA,cK]
 have hwg:∀z∈(vG n).map fun k:Nat=>nmS (cell ns 1) (0+(k:Int)),qeu z=true:=fun z hz=>by
  obtain⟨k,_,rfl⟩:=zH.mp hz;exact jfp _ _
 have hwn:=jkw (cell ns 1) (n:=n) #[];have hst:nmS (cell ns 1) (n:Int)∉(vG n).map fun k:Nat=>nmS (cell ns 1) (0+(k:Int)):=fun z=>by
  obtain⟨k,hk,e⟩:=zH.mp z;have h1:=yR.mp hk;have:=jiu #[] #[] #[] #[] e;omega
 generalize ((vG n).map fun k:Nat=>nmS (cell ns 1) (0+(k:Int)))=nm at*;have s3:=s2.trans (qa5 hln (.lst (nm.map V.str)));have en3:upd H2 ln (.lst (nm.map V.str)) ln=some (.lst (nm.map V.str)):=qa1;generalize upd H2 ln (.lst (nm.map V.str))=H3 at*;clear s2 hln s01 H01 fp1;left;rename_i le hle dg hdg dw hdw dr hdr;have s4:jab H3 (upd (upd (upd (upd H3 le (.lst [V.non])) dg (.dK [])) dw (.dK [])) dr (.dK [])):=((qa5 hle _).trans (qa5 hdg _)).trans ((qa5 hdw _).trans (qa5 hdr _));have ele:upd (upd (upd (upd H3 le (.lst [V.non])) dg (.dK [])) dw (.dK [])) dr (.dK []) le=some (.lst [V.non]):=qaa (qaa (qaa qa1 hdg) hdw) hdr;have edg:upd (upd (upd (upd H3 le (.lst [V.non])) dg (.dK [])) dw (.dK [])) dr (.dK []) dg=some (.dK []):=qaa (qaa qa1 hdw) hdr;have edw:upd (upd (upd (upd H3 le (.lst [V.non])) dg (.dK [])) dw (.dK [])) dr (.dK []) dw=some (.dK []):=qaa qa1 hdr;have edr:upd (upd (upd (upd H3 le (.lst [V.non])) dg (.dK [])) dw (.dK [])) dr (.dK []) dr=some (.dK []):=qa1;have ngw:dg≠dw:=fun z=>by subst z;rw[qa1] at hdw;cases hdw
 have ngr:dg≠dr:=fun z=>by subst z;rw[qaa qa1 hdw] at hdr;cases hdr
 have nwr:dw≠dr:=fun z=>by subst z;rw[qa1] at hdr;cases hdr
 have fle:H3 le=none:=hle;have fdg:H3 dg=none:=(qa5 hle _).free hdg;have fdw:H3 dw=none:=((qa5 hle _).trans (qa5 hdg _)).free hdw;have fdr:H3 dr=none:=(((qa5 hle _).trans (qa5 hdg _)).trans (qa5 hdw _)).free hdr;generalize upd (upd (upd (upd H3 le (.lst [V.non])) dg (.dK [])) dw (.dK [])) dr (.dK [])=H4 at*;have nlg:le≠dg:=fun z=>by subst z;rw[edg] at ele;cases ele
 have nlw:le≠dw:=fun z=>by subst z;rw[edw] at ele;cases ele
 have nlr:le≠dr:=fun z=>by subst z;rw[edr] at ele;cases ele
 clear hle hdg hdw hdr;rw[eni];refine qfr (n:=n) (fun i σ H'=>∃(es:List Nat)(W:List Str)(wt wa rm:Str->Int)(kg kw kr:List (Key×V))(w8 w9 w10:Option V),σ=[sr a,some (.int ni),some (.int sc),sr ln,sr le,sr dg,sr dw,sr dr,w8,w9,w10]/\jab H3 H'/\H' le=some (.lst (.non::es.map iV))/\H' dg=some (.dK kg)/\H' dw=some (.dK kw)/\H' dr=some (.dK kr)/\AD kg (qby (nm.take i) wt)/\AD kw (qby W wa)/\AD kr (qby (nm.take i) rm)/\Dn nm i es W wt wa rm) ⟨[],[],fun _=>0,fun _=>0,fun _=>0,[],[],[],none,none,none,rfl,s4,ele,edg,edw,edr,AD.nil.cast fun z=>rfl,AD.nil.cast fun z=>rfl,AD.nil.cast fun z=>rfl,⟨rfl,fun k e h=>by simp at h,yG,fun z h=>by simp at h,fun z h=>by simp at h,fun z h=>by simp at h,fun z h=>by simp at h⟩⟩ ?_ ?_
 .rintro i σ H' hi ⟨es,W,wt,wa,rm,kg,kw,kr,w8,w9,w10,rfl,sm,el',eg',ew',er',hgA,hwA,hrA,hd⟩;have hil:i<nm.length:=by omega
  have etk:nm.take (i+1)=nm.take i++[nmG nm i]:=by rw[zN,qcp hil];rfl
  have xn:atI (nm.map V.str) (0+(i:Int))=some (.str (nmG nm i)):=by rw[dD];exact qbp (by rw[zC,qcp hil];rfl)
  have hS':=(s3.trans sm).seq hS;have en':=sm _ _ en3;have tl:(nm.take i).length<=7:=by rw[zW];omega
  have zg:kg.length<sizeLine:=by
   have:=hgA.le (ws:=nm.take i) fun z hz=>qch.mp hz;show _<16777216;omega
  have zw:kw.length<sizeLine:=by
   have h1:=hwA.le (ws:=W) fun z hz=>qch.mp hz;have h2:W.length<=(nm.take i).length:=vT hd.wnd hd.wsub;show _<16777216;omega
  have zr:kr.length<sizeLine:=by
   have:=hrA.le (ws:=nm.take i) fun z hz=>qch.mp hz;show _<16777216;omega
  generalize hki:(0+(i:Int))=ki at*;have k0:0<=ki:=by omega
  have k7:ki<=7:=by omega
  have nki:ki.natAbs<2^600:=vI (show ki.natAbs<=7 by omega) ∅;clear tl;left;intro C1 s01 H01 fp1 lc hlc;refine jge 3 (fun j Hx=>∃xs:List Int,Hx=upd H' lc (.lst (xs.map V.int))/\xs.length=j) ⟨[],rfl,rfl⟩ (fun i H' hi _=>hi) (fun H' _=>uG _) ?_ ?_
  .rintro j Hx v H'' hj ⟨xs,rfl,hx⟩ ⟨rfl,rfl⟩;have hS'':=jd2 (o:=.lst (xs.map V.int)) hS' hlc;left;refine⟨a,ns,_,rfl,hS'',#[],?_⟩;refine⟨_,qa1,by rw[zA];show _<16777216;omega,?_⟩;exact⟨xs++[_],by rw[qcx,zL];rfl,by rw[zQ,hx];rfl⟩
  rintro Hx ⟨xs,rfl,hx⟩;obtain⟨c0,c1,c2,rfl⟩:=jwv hx;have s5:=qa5 hlc (.lst ([c0,c1,c2].map V.int));have elc:upd H' lc (.lst ([c0,c1,c2].map V.int)) lc=some (.lst ([c0,c1,c2].map V.int)):=qa1;generalize upd H' lc (.lst ([c0,c1,c2].map V.int))=H5 at*;have elc:H5 lc=some (.lst [V.int c0,V.int c1,V.int c2]):=elc;have el5:=s5 _ _ el';have eg5:=s5 _ _ eg';have ew5:=s5 _ _ ew';have er5:=s5 _ _ er';have en5:=s5 _ _ en';have sm5:=sm.trans s5;have ncl:lc≠le:=fun z=>by subst z;rw[el'] at hlc;cases hlc
  have nnl:ln≠le:=fun z=>by subst z;rw[en3] at fle;cases fle
  clear hx hlc s5 el' eg' ew' er' en' sm hS' s01 H01 fp1;have hS5:=(s3.trans sm5).seq hS;left;refine jha (fun σ Hy=>∃es':List Nat,σ=[sr a,some (.int ni),some (.int sc),sr ln,sr le,sr dg,sr dw,sr dr,some (.int ki),sr lc,w10]/\SameBut le H5 Hy/\Hy le=some (.lst (.non::es'.map iV))/\es'.length=i/\∀(k e:Nat),es'[k]?=some e->e<=k) ?_ ?_
  .have hes:=hd.el;have hlo:=hd.lo;left;refine i_2 (fun c=>?_) (fun c=>?_)
   .have zl:(V.non::es.map iV).length<sizeLine:=by rw[zR,zA];show _<16777216;omega
    left;rename_i pl hpl;have s6:=qa5 hpl (.lst [V.int (c0%ki),V.int (ki-1),V.int 0,V.int (c0%ki)]);have epl:upd H5 pl (.lst [V.int (c0%ki),V.int (ki-1),V.int 0,V.int (c0%ki)]) pl=some (.lst [V.int (c0%ki),V.int (ki-1),V.int 0,V.int (c0%ki)]):=qa1;have el6:=s6 _ _ el5;generalize upd H5 pl (.lst [V.int (c0%ki),V.int (ki-1),V.int 0,V.int (c0%ki)])=H6 at*;refine⟨a,ns,3,rfl,s6.seq hS5,∅,?_⟩;left;have m0:=vA (cell ns 3) (show(4:Int)≠0 by decide);have m1:=vF (cell ns 3) (show(0:Int)<4 by decide);refine jc1 (xs:=[c0%ki,ki-1,0,c0%ki]) (SqL.of epl) m0 m1 fun x hx=>?_;have a0:=vA c0 (show ki≠0 by omega);have a1:=vF c0 c;have hx2:0<=x/\x<ki:=by
     simp only[zO,yE,or_false] at hx;omega
    obtain⟨e,rfl⟩:∃e:Nat,x=(e:Int):=⟨x.toNat,#[]⟩;have ei:e<=i-1:=by omega
    have i1:1<=i:=by omega
    clear hx m0 m1 a0 a1 hx2 epl hpl;generalize hei:((e:Nat):Int)=ei' at*;left;refine⟨es++[e],rfl,fun b u hb z=>by rw[qa4 hb];exact s6 _ _ z,?_,by rw[zQ,yC];omega,fun k e2 h2=>?_⟩
    .rw[qa1,<-hei,zL];rfl
    .by_cases ck:k<es.length
     .rw[xG ck] at h2;exact hlo k e2 h2
     .have h3:=(uF.mp h2).1;rw[zQ,yC] at h3;have ek:k=es.length:=by omega
      rw[xF #[],ek,Nat.sub_self] at h2;have:e=e2:=uN h2;omega
   .left;exact⟨es,rfl,fun b u _ z=>z,el5,#[],hlo⟩
  rintro σ' H6 ⟨es',rfl,sb6,el6,hel,hlo⟩;have sm6:jab H3 H6:=fun b u z=>sb6 b u (fun y=>by subst y;rw[fle] at z;cases z) (sm5 b u z);have elc6:=sb6 _ _ ncl elc;have eg6:=sb6 _ _ nlg.symm eg5;have ew6:=sb6 _ _ nlw.symm ew5;have er6:=sb6 _ _ nlr.symm er5;have en6:=sb6 _ _ nnl en5;clear sb6 elc eg5 ew5 er5 en5 sm5 hS5 el5;left;refine⟨c1,3*ki,rfl,#[],#[],fun r1 r10=>?_⟩;left;rename_i pl hpl;have s7:=qa5 hpl (.lst [V.int 1,V.int 1,V.int 2,V.int 3,V.int (1+r1.fdiv 6%1000),V.int 1000]);have epl:upd H6 pl (.lst [V.int 1,V.int 1,V.int 2,V.int 3,V.int (1+r1.fdiv 6%1000),V.int 1000]) pl=some (.lst [V.int 1,V.int 1,V.int 2,V.int 3,V.int (1+r1.fdiv 6%1000),V.int 1000]):=qa1;generalize upd H6 pl (.lst [V.int 1,V.int 1,V.int 2,V.int 3,V.int (1+r1.fdiv 6%1000),V.int 1000])=H7 at*;have m0:=vA r1 (show(6:Int)≠0 by decide);have m1:=vF r1 (show(0:Int)<6 by decide);have u0:=vA (r1.fdiv 6) (show(1000:Int)≠0 by decide);have u1:=vF (r1.fdiv 6) (show(0:Int)<1000 by decide);refine jc1 (xs:=[1,1,2,3,1+r1.fdiv 6%1000,1000]) (SqL.of epl) m0 m1 fun x hx=>?_;have hwt:1<=x/\x<=1000:=by
   simp only[zO,yE,or_false] at hx;omega
  have sm7:=sm6.trans s7;have elc7:=s7 _ _ elc6;have el7:=s7 _ _ el6;have eg7:=s7 _ _ eg6;have ew7:=s7 _ _ ew6;have er7:=s7 _ _ er6;have en7:=s7 _ _ en6;clear hx m0 m1 u0 u1 epl hpl s7 sm6 elc6 el6 eg6 ew6 er6 en6 r10;left;refine qc7 (SqL.of en7) xn ?_;left;have ncg:lc≠dg:=fun z=>by subst z;rw[eg7] at elc7;cases elc7
  have nng:ln≠dg:=fun z=>by subst z;rw[eg7] at en7;cases en7
  have sm8:jab H3 (upd H7 dg (.dK (qbl kg (uH (nmG nm i)) (.int x)))):=qb5 sm7 fdg;have elc8:upd H7 dg (.dK (qbl kg (uH (nmG nm i)) (.int x))) lc=_:=(qa4 ncg).trans elc7;have el8:upd H7 dg (.dK (qbl kg (uH (nmG nm i)) (.int x))) le=_:=(qa4 nlg).trans el7;have eg8:upd H7 dg (.dK (qbl kg (uH (nmG nm i)) (.int x))) dg=some (.dK (qbl kg (uH (nmG nm i)) (.int x))):=qa1;have ew8:upd H7 dg (.dK (qbl kg (uH (nmG nm i)) (.int x))) dw=_:=(qa4 ngw.symm).trans ew7;have er8:upd H7 dg (.dK (qbl kg (uH (nmG nm i)) (.int x))) dr=_:=(qa4 ngr.symm).trans er7;have en8:upd H7 dg (.dK (qbl kg (uH (nmG nm i)) (.int x))) ln=_:=(qa4 nng).trans en7;generalize upd H7 dg (.dK (qbl kg (uH (nmG nm i)) (.int x)))=H8 at*;have hgA8:=jex (z:=nmG nm i) (v:=x) hgA;rw[<-etk] at hgA8;clear elc7 el7 eg7 ew7 er7 en7 sm7 ncg nng zg;left;refine⟨c1,3*ki+1,rfl,#[],#[],fun r2 r20=>?_⟩;left;have r70:=vA r2 (show(7:Int)≠0 by decide);refine jha (fun σ Hy=>∃(W':List Str)(wa':Str->Int)(kw':List (Key×V)),σ=[sr a,some (.int ni),some (.int sc),sr ln,sr le,sr dg,sr dw,sr dr,some (.int ki),sr lc,some (.int r2)]/\SameBut dw H8 Hy/\Hy dw=some (.dK kw')/\AD kw' (qby W' wa')/\W'.Nodup/\(∀z∈W',z∈nm.take (i+1))/\∀z∈W',InB (10^30) (wa' z)) ?_ ?_
  .left;refine i_2 (fun c=>?_) (fun c=>?_)
   .left;refine⟨r2,sc,rfl,r20,hsc,fun v H9 hv s9=>?_⟩;have ew9:=s9 _ _ ew8;have en9:=s9 _ _ en8;left;refine qc7 (SqL.of en9) xn ?_;left;have nW:nmG nm i∉W:=fun z=>by
     obtain⟨j,hj,e⟩:=zS.mp (hd.wsub _ z);rw[zW] at hj;rw[gD] at e;have h2:nmG nm j=nm[j]:=by unfold nmG;rw[zB #[]];rfl
     have:=qes hwn (show j<nm.length by omega) hil (h2.trans e);omega
    refine⟨W++[nmG nm i],_,_,rfl,fun b u hb z=>by rw[qa4 hb];exact s9 _ _ z,qa1,jex hwA,?_,fun z hz=>?_,fun z hz=>?_⟩
    .exact yK.mpr ⟨hd.wnd,zT.mpr ⟨by simp,yG⟩,fun x hx y hy e=>by rw[zE.mp hy] at e;rw[e] at hx;exact nW hx⟩
    .rw[etk];rcases zM.mp hz with h1|h1
     .exact zP _ (hd.wsub z h1)
     .exact zI _ h1
    .try dsimp only
     by_cases c2:z=nmG nm i
     .rw[gU c2];exact hv
     .rw[gT c2];rcases zM.mp hz with h1|h1
      .exact hd.wa z h1
      .exact absurd (zE.mp h1) c2
   .left;exact⟨W,wa,kw,rfl,fun b u _ z=>z,ew8,hwA,hd.wnd,fun z hz=>by rw[etk];exact zP _ (hd.wsub z hz),hd.wa⟩
  rintro σ' H9 ⟨W',wa',kw',rfl,sb9,ew9,hwA9,wnd9,wsub9,wa9⟩;have ncw:lc≠dw:=fun z=>by subst z;rw[ew8] at elc8;cases elc8
  have nnw:ln≠dw:=fun z=>by subst z;rw[ew8] at en8;cases en8
  have sm9:jab H3 H9:=fun b u z=>sb9 b u (fun y=>by subst y;rw[fdw] at z;cases z) (sm8 b u z);have elc9:=sb9 _ _ ncw elc8;have el9:=sb9 _ _ nlw el8;have eg9:=sb9 _ _ ngw eg8;have er9:=sb9 _ _ nwr.symm er8;have en9:=sb9 _ _ nnw en8;clear sb9 elc8 el8 eg8 er8 en8 sm8 ew8 ncw nnw r70 r20 zw hwA;left;refine⟨c2,3*ki+2,rfl,#[],#[],fun r3 r30=>?_⟩;left;refine⟨r3,sc,rfl,r30,hsc,fun v HA hv sA=>?_⟩;have smA:=sm9.trans sA;have elcA:=sA _ _ elc9;have elA:=sA _ _ el9;have egA:=sA _ _ eg9;have ewA:=sA _ _ ew9;have erA:=sA _ _ er9;have enA:=sA _ _ en9;clear elc9 el9 eg9 ew9 er9 en9 sm9 sA r30;left;refine qc7 (SqL.of enA) xn ?_;left;have ncr:lc≠dr:=fun z=>by subst z;rw[erA] at elcA;cases elcA
  have nnr:ln≠dr:=fun z=>by subst z;rw[erA] at enA;cases enA
  have smB:jab H3 (upd HA dr (.dK (qbl kr (uH (nmG nm i)) (.int v)))):=qb5 smA fdr;have elcB:upd HA dr (.dK (qbl kr (uH (nmG nm i)) (.int v))) lc=_:=(qa4 ncr).trans elcA;have elB:upd HA dr (.dK (qbl kr (uH (nmG nm i)) (.int v))) le=_:=(qa4 nlr).trans elA;have egB:upd HA dr (.dK (qbl kr (uH (nmG nm i)) (.int v))) dg=_:=(qa4 ngr).trans egA;have ewB:upd HA dr (.dK (qbl kr (uH (nmG nm i)) (.int v))) dw=_:=(qa4 nwr).trans ewA;have erB:upd HA dr (.dK (qbl kr (uH (nmG nm i)) (.int v))) dr=some (.dK (qbl kr (uH (nmG nm i)) (.int v))):=qa1;have enB:upd HA dr (.dK (qbl kr (uH (nmG nm i)) (.int v))) ln=_:=(qa4 nnr).trans enA;generalize upd HA dr (.dK (qbl kr (uH (nmG nm i)) (.int v)))=HB at*;have hrAB:=jex (z:=nmG nm i) (v:=v) hrA;rw[<-etk] at hrAB;have tin:∀z∈nm.take (i+1),z≠nmG nm i->z∈nm.take i:=fun z hz ne=>by
   rw[etk] at hz;exact(zM.mp hz).resolve_right fun h=>ne (zE.mp h)
  have hrB:∀z∈nm.take (i+1),InB (10^31) (if z=nmG nm i then v else rm z):=fun z hz=>by
   by_cases c:z=nmG nm i
   .rw[gU c];exact hv
   .rw[gT c];exact hd.rm z (tin z hz c)
  have hwB:∀z∈nm.take (i+1),1<=(if z=nmG nm i then x else wt z)/\(if z=nmG nm i then x else wt z)<=1000:=fun z hz=>by
   by_cases c:z=nmG nm i
   .rw[gU c];exact hwt
   .rw[gT c];exact hd.wt z (tin z hz c)
  have zrB:(qbl kr (uH (nmG nm i)) (.int v)).length<sizeLine:=by
   have h1:=hrAB.le (ws:=nm.take (i+1)) fun z hz=>qch.mp hz;rw[zW] at h1;show _<16777216;omega
  generalize qbl kr (uH (nmG nm i)) (.int v)=krB at*;generalize hrm:(fun y=>if y=nmG nm i then v else rm y)=rmB at*;have hrB:∀z∈nm.take (i+1),InB (10^31) (rmB z):=fun z hz=>by rw[<-hrm];exact hrB z hz
  have hdn:∀rm':Str->Int,(∀z∈nm.take (i+1),InB (10^31) (rm' z))->Dn nm (i+1) es' W' (fun y=>if y=nmG nm i then x else wt y) wa' rm':=fun rm' h=>⟨#[],hlo,wnd9,wsub9,hwB,wa9,h⟩;clear elcA elA egA ewA erA enA smA ncr nnr hv hwt hrm tin zr hrA hgA;refine jha (fun σ Hy=>∃(rm':Str->Int)(kr':List (Key×V)),σ=[sr a,some (.int ni),some (.int sc),sr ln,sr le,sr dg,sr dw,sr dr,some (.int ki),sr lc,some (.int r2)]/\SameBut dr HB Hy/\Hy dr=some (.dK kr')/\AD kr' (qby (nm.take (i+1)) rm')/\∀z∈nm.take (i+1),InB (10^31) (rm' z)) ?_ ?_
  .left;refine i_2 (fun c=>?_) (fun c=>?_)
   .left;refine i_2 (fun c3=>?_) (fun c3=>?_)
    .have i1:i-1<es'.length:=by omega
     obtain⟨e,he⟩:∃e,es'[i-1]?=some e:=⟨_,zB i1⟩;have hle:=hlo _ _ he;have xe:atI (V.non::es'.map iV) ki=some (iV e):=by
      have e1:ki=((i:Nat):Int):=by omega
      rw[e1];refine qbp ?_;obtain⟨b,rfl⟩:∃b,i=b+1:=⟨i-1,#[]⟩;rw[xR,zC];rw[Nat.add_sub_cancel] at he;rw[he];rfl
     have hen:e<nm.length:=by omega
     have xne:atI (nm.map V.str) ((e:Nat):Int)=some (.str (nmG nm e)):=qbp (by rw[zC,qcp hen];rfl);have em:nmG nm e∈nm.take (i+1):=zG (i:=e) (by rw[List.getElem?_take_of_lt #[]];exact qcp hen);have im:nmG nm i∈nm.take (i+1):=by rw[etk];simp
     have gr:qby (nm.take (i+1)) rmB (nmG nm e)=some (rmB (nmG nm e)):=qbi em;have hRr:Rd HB dr (.dK krB):=.inl erB;clear he hle;left;refine qc7 (SqL.of elB) xe ?_;left;refine qc7 (SqL.of enB) xne ?_;left;refine qc7 (SqL.of enB) xn ?_;left;refine⟨_,_,rfl,fun b u hb z=>by rw[qa4 hb];exact z,qa1,jky hrAB im,fun z hz=>?_⟩
     try dsimp only
     by_cases c4:z=nmG nm i
     .rw[gU c4];exact hrB _ em
     .rw[gT c4];exact hrB z hz
    .left;exact⟨rmB,krB,rfl,fun b u _ z=>z,erB,hrAB,hrB⟩
   .left;exact⟨rmB,krB,rfl,fun b u _ z=>z,erB,hrAB,hrB⟩
  rintro σ' HC ⟨rm',kr',rfl,sbC,erC,hrAC,rmC⟩;exact⟨es',W',_,wa',rm',_,kw',kr',_,_,_,rfl,fun b u z=>sbC b u (fun y=>by subst y;rw[fdr] at z;cases z) (smB b u z),sbC _ _ nlr elB,sbC _ _ ngr egB,sbC _ _ nwr ewB,erC,hgA8,hwA9,hrAC,hdn rm' rmC⟩
 rintro σ H' ⟨es,W,wt,wa,rm,kg,kw,kr,w8,w9,w10,rfl,sm,el',eg',ew',er',hgA,hwA,hrA,hd⟩;obtain⟨W0,pm,srt⟩:=jom W;subst hwl;rw[zJ] at hgA hrA;have ok:=hd.ok n1 n7 hwn hwg pm srt;have en':=sm _ _ en3;left;rename_i p hp;have sF:=qa5 hp (.lst [V.ref ln,V.ref le,V.ref dg,V.ref dw,V.ref dr]);refine q p ln le dg dw dr nm es kg kw kr ⟨W0,lnD nm es,wt,wa,rm⟩ _ ((s3.trans sm).trans sF) ⟨qa1,sF _ _ en',sF _ _ el',sF _ _ eg',sF _ _ ew',sF _ _ er',hgA,hwA.cast fun z=>?_,hrA⟩ ok (fun z hz=>hd.wt z (by rw[zJ];exact hz)) (fun z hz=>?_) hst
 rotate_left
 .have:=hd.rm z (by rw[zJ];exact hz);exact⟨this.lo,this.hi⟩
 unfold qby;by_cases c:z∈W
 .rw[gU c,gU (pm.mem_iff.mpr c)]
 .rw[gT c,gT fun h=>c (pm.mem_iff.mp h)]
inductive joq(K:uT)(d:Ad)(vs:List V)(H:Hp)(Q:VK)(E:XK):Prop
 |mk(a:Addr)(ns:List Int)(p ln le dg dw dr:Addr)(nm:List Str)(es:List Nat)(kg kw kr:List (Key×V))(D:Dl)(_:vs=[.ref a,.ref p])(_:SqL K H a (ns.map V.int))(_:jfw H p ln le dg dw dr nm es kg kw kr D)(_:jce nm es D)(_:(∀z∈nm,1<=D.wt z/\D.wt z<=1000))(_:∀(t:Addr)(S:Ts) H',jab H H'->TrD d H' t S D->(∀n∈D.W0,∀e,S.at n=some e->e.x.w=D.wt n)->Bt S (nmG nm) (elN es) nm.length (fun k=>D.wt (nmG nm k))->(∀e∈S.hl,H e.a=none)->(S.hl.map (·.a)).Nodup->Q (.ref t) H')
set_option maxHeartbeats 9000000 in
include T in
theorem wey:jac P w K mg base CX0 20 d.wfs d.wcb ["_law_script","_law_sharing_here"] (joq K d):=by
 exists T.wfb.ok w50
 .right
 obtain⟨a,ns,p,ln,le,dg,dw,dr,nm,es,kg,kw,kr,D,rfl,hS,hA,ok,hw,q⟩:=h;refine⟨_,(qa2 (qed (pv 1) (qef rfl (qai (qab (i:=2) w50.nd rfl (uI rfl)) (qai (qab (i:=3) w50.nd rfl (uI rfl)) (qai (qab (i:=4) w50.nd rfl (uI rfl)) (qai (qab (i:=5) w50.nd rfl (uI rfl)) (qai (qab (i:=6) w50.nd rfl (uI rfl)) qcm)))))))
  (qa2 (qad (i:=7) w50.nd rfl (uI rfl) (qgo (W:=fun _ _ _ _=>False) T.w97 ((wb9 T).mono ∅) hr rfl T.wia T.wd0 .nil qe4 #[qbd #[qag ((wf3 T).mono ∅) hr rfl T.wh0 T.wez.kp T.wgp .nil qaz #[qag ((w2h T).mono ∅) hr rfl T.w39 T.w2l.kp T.w3c .nil qaz #[pv 0,qa7],qa7]],qam qaq (pv 2) qa7 nofun,qb1,qb1,pv 4|||qam qaq (pv 2) qa7 nofun]))
  (qa2 (qb2 vM rfl (jco rfl T.w5c #[qa7,qaf qb3 rfl T.w3n vO #[pv 2]]) (qab (i:=8) w50.nd rfl (uI rfl)) (qa6 (qb9 (qas (W:=fun _ _ _ _=>False) (pv 7) T.w02 T.w24 ((wa6 T).mono ∅) hr T.wbh .nil qe4 #[qam qaq (pv 2) (pv 8) nofun,qam qaq (pv 2) (qam qaq (pv 3) (pv 8) nofun) nofun,qb1,qb1,pv 4|||qam qaq (pv 2) (pv 8) nofun]))))
  (qa6 (qae (pv 7)))))),?_⟩
 walk_at"d"
 try dsimp only[cxC]
 refine qac (σ:=[sr a,sr p,none,none,none,none,none,none,none]) rfl ?_;have ct:=T.w02;have etop:=hA.top;have en:=hA.n;have l7:=ok.l7;have len:=ok.len;have low:=ok.low;have n0:0<nm.length:=by omega
 have ln7:(nm.map V.str).length=nm.length:=zA _;have xn:∀j,j<nm.length->atI (nm.map V.str) ((j:Nat):Int)=some (.str (nmG nm j)):=fun j hj=>qbp (by rw[zC,qcp hj];rfl);have hgA:=hA.gA;left;refine⟨a,ns,2,rfl,hS,∅,?_⟩;left;refine⟨_,_,rfl,∅,∅,?_⟩;have gz:=jfp (cell ns 2) 0;generalize nmS (cell ns 2) 0=z0 at*;left;rename_i pw hpw;refine qc7 (SqL.of (qaa en hpw)) (xn 0 n0) ?_;left;rename_i p1 hp1 p2 hp2;have s6:=(qa5 hpw (.lst [V.str z0])).trans ((qa5 hp1 (.dK [])).trans (qa5 hp2 (.dK [])));have ew6:upd (upd (upd H pw (.lst [V.str z0])) p1 (.dK [])) p2 (.dK []) pw=some (.lst [V.str z0]):=qaa (qaa qa1 hp1) hp2;have ep1:upd (upd (upd H pw (.lst [V.str z0])) p1 (.dK [])) p2 (.dK []) p1=some (.dK []):=qaa qa1 hp2;have ep2:upd (upd (upd H pw (.lst [V.str z0])) p1 (.dK [])) p2 (.dK []) p2=some (.dK []):=qa1;generalize upd (upd (upd H pw (.lst [V.str z0])) p1 (.dK [])) p2 (.dK [])=H6 at*;have hA6:=hA.same s6;clear hpw hp1 hp2;refine qc7 (SqL.of hA6.n) (xn 0 n0) ?_;have hRg:Rd H6 dg (.dK kg):=.inl hA6.g;have gw0:qby nm D.wt (nmG nm 0)=some (D.wt (nmG nm 0)):=qbi (qco n0);left;intro x dx hx hdx ne;have sN:jab H6 (upd (upd H6 dx (.own x)) x (.ins d.w01 dx [])):=(qa5 hdx _).trans (qa5 (by rw[qa4 ne.symm];exact hx) _);have ex7:upd (upd H6 dx (.own x)) x (.ins d.w01 dx []) x=some (.ins d.w01 dx []):=qa1;generalize upd (upd H6 dx (.own x)) x (.ins d.w01 dx [])=H7 at*;have fn:∀ws,Fin ws noF:=fun ws z n e=>by cases e
 have w0:=hw _ (qco n0);refine⟨x,dx,pw,p1,p2,nmG nm 0,[z0],[],[],noF,noF,D.wt (nmG nm 0),rfl,ex7,sN _ _ ew6,⟨by show 1<=1;decide,by show 1<=6;decide,fun z hz=>by rw[zE.mp hz];exact gz,zT.mpr ⟨by simp,yG⟩⟩,ok.gd _ (qco n0),sN _ _ ep1,AD.nil,∅,sN _ _ ep2,AD.nil,∅,fn _,fn _,w0.1,w0.2,fun y=>Int.le_refl _,fun S e H8 sb hT f1 f2 f3 f4 f5 ehl een ee ew efp efc hpm hso=>⟨rfl,?_⟩⟩;have s8:jab H6 H8:=fun b u e=>sb b u (qa9 e hx) (sN b u e);have fhs:H6 S.hs=none:=sN.free f1;have fhe:∀e'∈S.hl,H e'.a=none:=fun e' he=>by
  rw[ehl] at he;rw[zE.mp he];exact s6.free (sN.free f3)
 have fnd:(S.hl.map (·.a)).Nodup:=by rw[ehl];exact zT.mpr ⟨by simp,yG⟩
 have bt1:Bt S (nmG nm) (elN es) 1 (fun k=>D.wt (nmG nm k)):=Bt.one ehl een ee ew efp efc (by rw[hpm.length_eq];show 1<=6;decide);clear sb f1 f2 f3 f4 f5 ehl een ee ew efp efc hpm hso ex7 sN hx hdx ne e ew6 ep1 ep2 fn w0 hRg gw0 gz;have en8:=s8 _ _ hA6.n;left;unfold jmj;left;refine⟨1,((nm.map V.str).length:Int),rfl,?_,?_⟩
 .rw[ln7];omega
 rw[ln7,show(((nm.length:Nat):Int)-1).toNat=nm.length-1 by omega];have inj:∀i j,i<nm.length->j<nm.length->nmG nm i=nmG nm j->i=j:=fun i j hi hj e=>qes ok.nd hi hj e;refine qfr (n:=nm.length-1) (fun i σ H'=>∃(S:Ts)(w8:Option V),σ=[sr a,sr p,sr ln,sr le,sr dg,sr dw,sr dr,sr x,w8]/\jab H6 H'/\H6 S.hs=none/\(∀e∈S.hl,H e.a=none)/\(S.hl.map (·.a)).Nodup/\qdv d H' x S/\Bt S (nmG nm) (elN es) (1+i) (fun k=>D.wt (nmG nm k))) ⟨S,none,rfl,s8,fhs,fhe,fnd,hT,bt1⟩ ?_ ?_
 .rintro i σ H' hi ⟨S,w8,rfl,s',fhs',fhe',fnd',hT',bt'⟩;have hA':=hA6.same s';obtain⟨tx,ht⟩:=id hT'.1;have hk:1+i<nm.length:=by omega
  have lk:=low (1+i) #[] hk;have xe:atI (V.non::es.map iV) (1+(i:Int))=some (iV (elN es (1+i))):=by
   have e1:(1+(i:Int))=((i+1:Nat):Int):=by omega
   have hb:i<es.length:=by omega
   rw[e1,Nat.add_comm 1 i,ji7 hb];exact qbp (by rw[xR,zC,zB hb];rfl)
  have xk:atI (nm.map V.str) (1+(i:Int))=some (.str (nmG nm (1+i))):=by
   have:=xn (1+i) hk;rw[show(1+(i:Int))=((1+i:Nat):Int) by omega];exact this
  have xel:=xn (elN es (1+i)) #[];have wb:=hw _ (qco hk);have gk:=ok.gd _ (qco hk);have gw:qby nm D.wt (nmG nm (1+i))=some (D.wt (nmG nm (1+i))):=qbi (qco hk);generalize (1+(i:Int))=ii at*;left;refine qc7 (SqL.of hA'.n) xk ?_;left;refine qc7 (SqL.of hA'.e) xe ?_;left;refine qc7 (SqL.of hA'.n) xel ?_;left;rename_i q1 hq1 q2 hq2;have s9:=(qa5 hq1 (.dK [])).trans (qa5 hq2 (.dK []));have eq1:upd (upd H' q1 (.dK [])) q2 (.dK []) q1=some (.dK []):=qaa qa1 hq2;have eq2:upd (upd H' q1 (.dK [])) q2 (.dK []) q2=some (.dK []):=qa1;generalize upd (upd H' q1 (.dK [])) q2 (.dK [])=H9 at*;refine qc7 (SqL.of (s9 _ _ hA'.n)) xk ?_;have hRg:Rd H9 dg (.dK kg):=.inl (s9 _ _ hA'.g);left;refine Bt.found (nm:=nmG nm) (el:=elN es) (wt:=fun k=>D.wt (nmG nm k)) (k:=1+i) bt' (hT'.same s9) #[] #[] (fun i' j' a b=>inj i' j' #[] #[]) lk gk eq1 eq2 wb.1 wb.2 fun e2 H10 sb fe2 hT2 bt2=>?_;have fnd2:((S.hl++[e2]).map (·.a)).Nodup:=by
   rw[zL];refine yK.mpr ⟨fnd',zT.mpr ⟨by simp,yG⟩,fun a ha b hb e=>?_⟩;obtain⟨e1,he1,rfl⟩:=zH.mp ha;obtain rfl:b=e2.a:=by simpa using hb
   obtain⟨⟨_,z⟩,_⟩:=(hT'.same s9).2.2.2.2.2 e1 he1;rw[e,fe2] at z
   cases z
  left;exact⟨{S with hl:=S.hl++[e2]},_,rfl,fun b u e=>sb b u (fun z=>by subst z;rw[fhs'] at e;cases e) (s9 _ _ (s' _ _ e)),fhs',fun e' he=>(zM.mp he).elim (fhe' e') (fun z=>by rw[zE.mp z];exact s6.free (s'.free (s9.free fe2))),fnd2,hT2,bt2⟩
 rintro σ H9 ⟨S,w8,rfl,s',fhs',fhe',fnd',hT',bt'⟩;rw[show 1+(nm.length-1)=nm.length by omega] at bt';left;have all:∀n∈D.W0,∃e,S.at n=some e/\e.x.w=D.wt n/\jad S n (D.ln n):=fun n hn=>by
  obtain⟨k,hk,e⟩:=zS.mp (ok.sub n hn);have e2:nmG nm k=n:=by unfold nmG;rw[zB hk,e];rfl
  obtain⟨e,h1,h2,h3⟩:=bt'.pl.at (k:=k) hk;have hl:=bt'.pl.line k hk;rw[<-ok.ln k hk] at hl;rw[e2] at h1 hl;exact⟨e,h1,by rw[bt'.w k e h2,e2],hl⟩
 refine q x S H9 (s6.trans s') ⟨hT',fun n hn=>?_⟩ (fun n hn e he=>?_) bt' fhe' fnd'
 .obtain⟨e,h1,_,h3⟩:=all n hn;exact⟨e,h1,trivial,h3⟩
 .obtain⟨e',h1,h2,_⟩:=all n hn;rw[he] at h1
  cases h1
  exact h2
def qdm(H H':Hp):Prop:=∀b u,(∀ps,u≠HO.tbl ps)->H b=some u->H' b=some u
def jab.sn(s:jab H H'):qdm H H':=fun b u _ e=>s b u e
def qdm.trans{H'':Hp}(s:qdm H H')(s':qdm H' H''):qdm H H'':=fun b u n e=>s' b u n (s b u n e)
theorem qdm.seq{K:uT}{xs:List V}(s:qdm H H')(h:SqL K H a xs):SqL K H' a xs:=by
 rcases h with (h|⟨o,h⟩) |h
 .exact .inl (.inl (s _ _ (fun ps e=>by cases e) h))
 .exact .inl (.inr ⟨o,s _ _ (fun ps e=>by cases e) h⟩)
 .exact .inr h
def jfw.sn{p ln le dg dw dr:Addr}{kg kw kr:List (Key×V)}(h:jfw H p ln le dg dw dr nm es kg kw kr D)(s:qdm H H'):jfw H' p ln le dg dw dr nm es kg kw kr D:=
 ⟨s _ _ (fun ps e=>by cases e) h.top,s _ _ (fun ps e=>by cases e) h.n,s _ _ (fun ps e=>by cases e) h.e,s _ _ (fun ps e=>by cases e) h.g,s _ _ (fun ps e=>by cases e) h.w,s _ _ (fun ps e=>by cases e) h.r,h.gA,h.wA,h.rA⟩
def jl1.sn{d:Ad}{x:Ho}(h:jl1 d H a x)(s:qdm H H'):jl1 d H' a x:=⟨let ⟨dx,e⟩:=h.1;⟨dx,s _ _ (fun ps e=>by cases e) e⟩,s _ _ (fun ps e=>by cases e) h.2.1,h.2.2.1,s _ _ (fun ps e=>by cases e) h.2.2.2.1,h.2.2.2.2⟩
theorem qdv.sn{d:Ad}{t:Addr}(h:qdv d H t S)(s:qdm H H'):qdv d H' t S:=
 ⟨let ⟨dx,e⟩:=h.1;⟨dx,s _ _ (fun ps e=>by cases e) e⟩,s _ _ (fun ps e=>by cases e) h.2.1,s _ _ (fun ps e=>by cases e) h.2.2.1,h.2.2.2.1,h.2.2.2.2.1,fun e he=>(h.2.2.2.2.2 e he).sn s⟩
theorem TrD.sn{d:Ad}{t:Addr}(h:TrD d H t S D)(s:qdm H H'):TrD d H' t S D:=⟨h.tr.sn s,h.ln⟩
theorem qf1{tp:Addr}{ps:PySem.Pos}{ql:Str}(h:TbS tp ps ql H)(s:jab H H'):TbS tp ps ql H':=by
 rcases h with h|⟨cd,h1,h2⟩
 .exact .inl (s _ _ h)
 .exact .inr ⟨cd,s _ _ h1,s _ _ h2⟩
def wgn(K:uT)(d:Ad)(tp:Addr):Sp:=fun vs H Q _=>∃(a:Addr)(ns:List Int)(p ln le dg dw dr:Addr)(nm:List Str)(es:List Nat)(kg kw kr:List (Key×V))(D:Dl),vs=[.ref a,.ref p]/\SqL K H a (ns.map V.int)/\jfw H p ln le dg dw dr nm es kg kw kr D/\jce nm es D/\(∀z∈nm,1<=D.wt z/\D.wt z<=1000)/\TbS tp posw qw H/\
 ∀(l t:Addr)(wv:V)(S:Ts) H',qdm H H'->H l=none->H' l=some (.lst [.ref t,wv])->TrD d H' t S D->Wgh H' S D wv->(∃wt,Bt S (nmG nm) (elN es) nm.length wt)->(∀e∈S.hl,H e.a=none)->(S.hl.map (·.a)).Nodup->(∀b,H' b=none->H b=none)->TbS tp posw qw H'->Q (.ref l) H'
theorem jfy{n:Str}(hn:W[i]?=some n)(z:Str):jd6 (qby (W.take i) g) n (g n) z=qby (W.take (i+1)) g z:=by
 rw[qer];unfold qby;have tk:z∈W.take (i+1)↔z∈W.take i\/z=n:=qar hn z;by_cases c:z=n
 .rw[gU c,gU (tk.mpr (.inr c)),c]
 .rw[gT c];by_cases c2:z∈W.take i
  .rw[gU c2,gU (tk.mpr (.inl c2))]
  .rw[gT c2,gT fun h=>(tk.mp h).elim c2 c]
theorem wdy{P:uW}{w:vL}{K:uT}{mg:Str->Option uB}{base:vQ}{d:Ad}(T:Tx K mg d){tp:Addr}(hwg:jac P w K mg base CX0 2 d.w6q d.w5t ["_law_table"] (w7f tp)):jac P w K mg base CX0 24 d.wcv d.wa4 ["_law_script","_law_sharing_here"] (wgn K d tp):=by
 exists T.wcy.ok w2i
 .right
 obtain⟨a,ns,p,ln,le,dg,dw,dr,nm,es,kg,kw,kr,D,rfl,hS,hA,ok,hw,htp,q⟩:=h;exists (qa2 (qed (pv 1) (qef rfl (qai (qab (i:=2) w2i.nd rfl (uI rfl)) (qai (qab (i:=3) w2i.nd rfl (uI rfl)) (qai (qab (i:=4) w2i.nd rfl (uI rfl)) (qai (qab (i:=5) w2i.nd rfl (uI rfl)) (qai (qab (i:=6) w2i.nd rfl (uI rfl)) qcm)))))))
  (qa2 (qb8 (qak qey (qah qbe (qah qbo (qag ((w2h T).mono ∅) hr rfl T.w39 T.w2l.kp T.w3c .nil qaz #[pv 0,qa7]) qa7) qa7) qa7 (qau _)) (qa6 (qae (qbd #[qag ((wey T).mono ∅) hr rfl T.wh1 T.wfb.kp T.wgv .nil qaz #[pv 0,pv 1],qd1]))) qap)
  (qa2 (qad (i:=7) w2i.nd rfl (uI rfl) qb1)
  (qa2 (qb2 vM rfl (qb0 (pv 2)) (qab (i:=8) w2i.nd rfl (uI rfl)) (qa6 (qbg (qav hr) (pv 7) (pv 8) (qah qbr qa7 (qah qbe (pv 4|||pv 8) qa7)) rfl)))
  (qa2 (qad (i:=9) w2i.nd rfl (uI rfl) qb1)
  (qa2 (qec (qb2 vM rfl (qcy (pv 5)) (qab (i:=8) w2i.nd rfl (uI rfl)) (qa6 (qbg (qav hr) (pv 9) (pv 8) (pv 4|||pv 8) rfl))))
  (qa6 (qae (qbd #[qag ((wey T).mono ∅) hr rfl T.wh1 T.wfb.kp T.wgv .nil qaz #[pv 0,qbd #[pv 2,pv 3,pv 7,pv 5,pv 6]],qag (hwg.mono ∅) hr rfl T.wbi T.wb0.kp T.wff .nil qaz #[pv 9]]))))))))),[sr a,sr p,none,none,none,none,none,none,none,none];have etop:=hA.top;left;refine⟨a,ns,0,rfl,hS,∅,?_⟩;left;by_cases c:(cell ns 0).fdiv 7%2=0
 .rw[gU (gW c)];left;refine⟨a,ns,p,ln,le,dg,dw,dr,nm,es,kg,kw,kr,D,rfl,hS,hA,ok,hw,fun t S H1 s1 hT hwt bt fr nda=>?_⟩;left;rename_i l hl;exact q l t .non S _ (jab.sn (s1.trans (qa5 hl _))) (s1.free hl) qa1 (hT.same (qa5 hl _)) (.inl ⟨rfl,hwt⟩) ⟨_,bt⟩ fr nda (fun b e=>(s1.trans (qa5 hl _)).free e) (qf1 htp (s1.trans (qa5 hl _)))
 .rw[gT (by simpa using c)];have en:=hA.n;have len:=ok.len;have l7:=ok.l7;left;rename_i lo hlo;have s1:=qa5 hlo (.dK []);have elo:upd H lo (.dK []) lo=some (.dK []):=qa1;generalize upd H lo (.dK [])=H1 at*;refine qbt (xs:=nm.map V.str) (fun i σ H'=>∃(k':List (Key×V))(w:Option V),σ=[sr a,sr p,sr ln,sr le,sr dg,sr dw,sr dr,sr lo,w,none]/\jab H H'/\H' lo=some (.dK k')/\AD k' (qby (nm.take i) fun z=>1+D.wt z%7)/\k'.length<=i) ⟨[],none,rfl,s1,elo,AD.nil.cast fun z=>rfl,uG _⟩ ?_ ?_ ?_
  .rintro i σ H' _ ⟨k',w,rfl,sm,_⟩;exact SqL.of (sm _ _ en)
  .rintro i v σ H' hv ⟨k',w,rfl,sm,ed,hK,hk⟩;rw[zC] at hv;obtain⟨n,hn,rfl⟩:=uK.mp hv;have hi:=(uF.mp hn).1;have hn0:=zG hn;have hRg:Rd H' dg (.dK kg):=.inl (sm _ _ hA.g);have hgA:=hA.gA;have gw:qby nm D.wt n=some (D.wt n):=qbi hn0;have zk:k'.length<sizeLine:=by show _<16777216;omega
   clear hv;left;have lput:=qay k' (uH n) (.int (1+D.wt n%7));refine⟨_,_,rfl,qb5 sm hlo,qa1,(hK.put n _).cast fun z=>?_,#[]⟩;exact jfy hn z
  rintro σ H2 ⟨ko,w,rfl,s2,ed,hK,hk⟩;rw[zA,zJ] at hK;left;rename_i tb htb;have s3:=s2.trans (qa5 htb (.dK []));have etb:upd H2 tb (.dK []) tb=some (.dK []):=qa1;have ed3:=qaa (o':=.dK []) ed htb;have htb0:H tb=none:=s2.free htb;have nob:lo≠tb:=fun e=>by subst e;rw[ed] at htb;cases htb
  generalize upd H2 tb (.dK [])=H3 at*;have hA3:=hA.same s3;have hw3:=hA3.w;have nwb:tb≠dw:=(qa9 hA.w htb0).symm;have nwo:lo≠dw:=(qa9 hA.w hlo).symm;refine qg1 hw3 fun o=>?_;refine qen (fun i σ H'=>∃(kt:List (Key×V))(w:Option V),σ=[sr a,sr p,sr ln,sr le,sr dg,sr dw,sr dr,sr lo,w,sr tb]/\Sb2 dw tb H3 H'/\H' dw=some (.frz o (.dK kw))/\H' tb=some (.dK kt)/\AD kt (qby ((qbx kw).take i) D.wt)/\kt.length<=i)
   ⟨[],_,rfl,fun b u n1 _ e=>by rw[qa4 n1];exact e,qa1,by rw[qa4 nwb];exact etb,AD.nil.cast fun z=>rfl,uG _⟩ ?_ ?_ ?_
  .rintro i σ H' _ ⟨kt,w,rfl,sb,fz,_⟩;exact fz
  .rintro i k v σ H' hk ⟨kt,w,rfl,sb,fz,el,hF,hlen⟩;obtain⟨z,n,rfl,rfl,hf,hzi⟩:=hA.wA.at hk;have hi:i<kw.length:=(uF.mp hk).1;have hz:z∈D.W0:=qch.mp (by rw[hf];simp);have hzn:=ok.sub z hz;have gw:qby nm D.wt z=some (D.wt z):=qbi hzn;have hgA:=hA.gA;have hRg:Rd H' dg (.dK kg):=by
    by_cases e:dg=dw
    .have e1:=hA.g;rw[e,hA.w] at e1
     cases e1
     rw[e];exact .inr ⟨o,fz⟩
    .exact .inl (sb _ _ e (qa9 hA.g htb0) hA3.g)
   have kl7:kw.length<=7:=by
    have:=(qe2 hA.wA ok.ok.nd).length_eq;rw[hA.wA.klen] at this;have:=ok.ok.l8;omega
   have zl:kt.length<sizeLine:=by show _<16777216;omega
   show qek _ (.str z) _ _ _;left;have lput:=qay kt (uH z) (.int (D.wt z));refine⟨_,_,rfl,fun b u n1 n2 e=>by rw[qa4 n2];exact sb b u n1 n2 e,by rw[qa4 nwb.symm];exact fz,qa1,(hF.put z _).cast fun y=>?_,#[]⟩;exact jfy hzi y
  rintro σ H' ⟨kt,w,rfl,sb,fz,el,hF,hlen⟩;refine qe9 (qg0 fz (qcg hA.w)) ?_;rw[<-hA.wA.klen,zJ] at hF;have s4:jab H (upd H' dw (.dK kw)):=fun b u e=>by
   by_cases c:b=dw
   .subst c;rw[qa1,<-hA.w];exact e
   .rw[qa4 c];exact sb b u c (qa9 e htb0) (s3 b u e)
  have etb4:upd H' dw (.dK kw) tb=some (.dK kt):=by rw[qa4 nwb];exact el
  have ed4:upd H' dw (.dK kw) lo=some (.dK ko):=by rw[qa4 nwo];exact sb _ _ nwo nob ed3
  have hT4:AD kt (qby D.W0 D.wt):=hF.cast fun z=>by
   have kp:=qe2 hA.wA ok.ok.nd;unfold qby;by_cases c:z∈D.W0
   .rw[gU c,gU (kp.mem_iff.mpr c)]
   .rw[gT c,gT fun h=>c (kp.mem_iff.mp h)]
  generalize upd H' dw (.dK kw)=H4 at*;left;rename_i p2 hp2;have s5:=s4.trans (qa5 hp2 (.lst [V.ref ln,V.ref le,V.ref lo,V.ref dw,V.ref dr]));have ep2:upd H4 p2 (.lst [V.ref ln,V.ref le,V.ref lo,V.ref dw,V.ref dr]) p2=some (.lst [V.ref ln,V.ref le,V.ref lo,V.ref dw,V.ref dr]):=qa1;have etb5:=qaa (o':=.lst [V.ref ln,V.ref le,V.ref lo,V.ref dw,V.ref dr]) etb4 hp2;have ed5:=qaa (o':=.lst [V.ref ln,V.ref le,V.ref lo,V.ref dw,V.ref dr]) ed4 hp2;generalize upd H4 p2 (.lst [V.ref ln,V.ref le,V.ref lo,V.ref dw,V.ref dr])=H5 at*;have hA5:=hA.same s5;have hw7:∀z,1<=1+D.wt z%7/\1+D.wt z%7<=1000:=fun z=>by omega
  have ok':jce nm es {D with wt:=fun z=>1+D.wt z%7}:=⟨ok.nd,ok.gd,ok.len,ok.l7,ok.lo,ok.sub,ok.ln,⟨ok.ok.nd,fun n _=>(hw7 n).1,fun n _=>(hw7 n).2,ok.ok.a0,ok.ok.a1,ok.ok.r0,ok.ok.r1,ok.ok.l0,ok.ok.ld,ok.ok.lz,ok.ok.l8⟩,ok.srt⟩;refine⟨a,ns,p2,ln,le,lo,dw,dr,nm,es,ko,kw,kr,{D with wt:=fun z=>1+D.wt z%7},rfl,s5.seq hS,⟨ep2,hA5.n,hA5.e,ed5,hA5.w,hA5.r,hK,hA5.wA,hA5.rA⟩,ok',fun z _=>hw7 z,fun t S H6 s6 hT _ bt fr nda=>?_⟩;have s06:=s5.trans s6;have fr0:∀e∈S.hl,H e.a=none:=fun e he=>s5.free (fr e he);have htp6:=qf1 htp s06;have etb6:=s6 _ _ etb5;clear ok' hA5 ed5 ep2 s5 s6 etb5 etb4 ed4 hp2 s4 fz el sb hF;left;refine⟨.ref tb,rfl,htp6,fun g cd cl H7 kp free hg hcl eg ecd ecl htp7=>?_⟩;obtain⟨ps6,etp6⟩:∃ps,H6 tp=some (.tbl ps):=by
   rcases htp6 with h|⟨_,h,_⟩
   .exact⟨_,h⟩
   .exact⟨_,h⟩
  have old:∀b u,(∀ps,u≠HO.tbl ps)->H6 b=some u->H7 b=some u:=fun b u nt e=>kp b u (fun z=>by subst z;rw[etp6] at e;exact nt _ (uN e).symm) e;have wg:WgH H7 g tb:=⟨cl,cd,eg,ecd,ecl⟩;have etb7:=old _ _ (fun ps e=>by cases e) etb6;have hT7:qdv d H7 t S:=hT.tr.sn old;left;rename_i l hl;have s8:=qa5 hl (.lst [V.ref t,V.ref g]);refine q l t (.ref g) S _ (qdm.trans (qdm.trans (jab.sn s06) old) (jab.sn s8)) (s06.free (free l hl)) qa1 ⟨hT7.same s8,hT.ln⟩ (.inr ⟨g,tb,kt,_,rfl,?_,s8 _ _ etb7,hT4,fun n hn=>qbi hn⟩) ⟨_,bt⟩ fr0 nda (fun b e=>s06.free (free b (s8.free e))) (qf1 htp7 s8);obtain⟨cl,cd,w1,w2,w3⟩:=wg;exact⟨cl,cd,s8 _ _ w1,s8 _ _ w2,s8 _ _ w3⟩
inductive jcb(K:uT)(d:Ad)(vs:List V)(H:Hp)(Q:VK)(E:XK):Prop
 |mk(t:Addr)(S:Ts)(z:Str)(e:He)(zs:List Str)(_:vs=[.ref t,.str z])(_:qdv d H t S)(_:WF S)(_:S.at z=some e)(_:Dep S 12 z)(_:jad S z zs)(_:zs.length<=1000)(_:(∀bs,Ben S 12 z bs->∀u∈bs,∃us,jad S u us/\us.length<=1000))(_:∀(bs:List Str)(u:Str)(us:List Str) H',jab H H'->Ben S 12 z bs->u∈bs->jad S u us->Q (.int (((us.length:Nat):Int)-((zs.length:Nat):Int)+1)) H')
include T in
theorem w9e:jac P w K mg base (My.CX1 P w) 17 d.w4l d.w3v ["self","name"] (jcb K d):=by
 exists okX T.w9z w5y
 .right
 obtain⟨t,S,z,e,zs,rfl,hT,hW,ae,hD,hL,hz,hlb,q⟩:=h;refine⟨_,(qa2 (qad (i:=2) w5y.nd rfl (uI rfl) (qaf (jh7 rfl) rfl T.wie PyProof.Rows.boot_max #[jj9 rfl rfl rfl qaj (caps:=[0]) (cn:=["self"]) (qcf rfl rfl (by rfl) (by rfl) rfl ⟨rfl,trivial⟩ (by rfl) rfl ⟨⟨rfl,rfl,rfl,rfl,_,rfl⟩,trivial⟩ ∅) rfl (qb0 (qas (pv 0) T.w02 T.w0n ((w5m T).mono ∅) hr T.w3x .nil qaj #[pv 1])) (fun _ _ _ _=>qex) (fun _ _ _ _=>(qaf qb3 rfl T.w3n vO #[jh9 (pv 1) T.w02 T.w08 ((w0l T).mono ∅) hr T.w0u .nil #[pv 0]]))]))
  (qa6 (qae (qah qbr (qah je3 (pv 2) (qaf qb3 rfl T.w3n vO #[qas (pv 0) T.w02 T.w08 ((w0l T).mono ∅) hr T.w0u .nil qaj #[pv 1]])) qa7)))),?_⟩
 walk_at"d"
 try dsimp only[cxC]
 refine qac (σ:=[sr t,some (.str z),none]) rfl ?_;have ct:=T.w02;obtain⟨dx,ht⟩:=id hT.1;have een:=(qc0 ae).2;left;refine⟨t,S,.str z,rfl,hT,qgm hW hT.2.2.2.2.1,.inl ⟨_,rfl⟩,fun e' he'=>?_,fun hn=>?_⟩
 rotate_left
 .rw[show who S (.str z)=some e from ae] at hn;cases hn
 have ee:e=e':=uN (ae.symm.trans he');subst ee;rw[een];refine⟨hD,fun lb zb H1 s1 hlb1 elb hBen=>?_⟩;have hub:=hlb zb hBen;have hT1:=hT.same s1;have ht1:=s1 _ _ ht;have zb1000:zb.length<=1000:=qgm hW hT.2.2.2.2.1 12 z zb hBen.part;clear ht he';left;intro C s0 H0 fp acc hacc;refine jge zb.length (fun i H'=>∃ns:List Int,jab H1 H'/\H' acc=some (.lst (ns.map V.int))/\ns.length=i/\∀m∈ns,∃u∈zb,∃us,jad S u us/\m=((us.length:Nat):Int)) ⟨[],qa5 hacc _,qa1,rfl,fun m hm=>by simp at hm⟩ ?_ ?_ ?_ ?_
 .rintro i H' hi ⟨ns,sm,_⟩;exact⟨_,.str zb[i],SqL.of (sm _ _ elb),by rw[zC,zB hi];rfl⟩
 .rintro H' ⟨ns,sm,_⟩;exact⟨_,SqL.of (sm _ _ elb),by rw[zA];exact uG _⟩
 .rintro i H' v H'' hi ⟨ns,sm,ea,hln,hns⟩ ⟨rfl,hv⟩;have hv:=hv _ (SqL.of (sm _ _ elb));rw[zC,zB hi] at hv
  cases hv
  have hm:=yB hi;generalize zb[i]=u at*;obtain⟨us,hLu,hu1⟩:=hub u hm;have ht2:=sm _ _ ht1;have zl:(ns.map V.int).length<sizeLine:=by rw[zA];show _<16777216;omega
  clear hv;left;refine⟨t,S,.str u,rfl,hT1.same sm,.inl ⟨u,us,rfl,hLu,hu1,fun ll hll=>?_⟩⟩;have s2:=qa5 hll (.lst (us.map V.str));have ell:upd H'' ll (.lst (us.map V.str)) ll=some (.lst (us.map V.str)):=qa1;have ea2:=qaa (o':=.lst (us.map V.str)) ea hll;have hlen:(us.map V.str).length=us.length:=zA _;generalize upd H'' ll (.lst (us.map V.str))=H3 at*;left;rw[hlen];refine⟨ns++[((us.length:Nat):Int)],qb5 (sm.trans s2) hacc,by rw[qa1,zL];rfl,by rw[zQ,hln];rfl,fun m hm2=>?_⟩;rcases zM.mp hm2 with h|h
  .exact hns m h
  .exact⟨u,hm,us,hLu,zE.mp h⟩
 rintro H2 ⟨ns,s2,en,hln,hns⟩;have z0:0<zb.length:=by
  cases hBen with
  |intro parts hb=>rw[hb.2.1];exact Nat.succ_pos _
 left;refine jrf (SqL.of en) #[] fun m hm _=>?_;obtain⟨u,hu,us,hLu,rfl⟩:=hns m hm;have ht3:=s2 _ _ ht1;left;refine⟨t,S,.str z,rfl,hT1.same s2,.inl ⟨z,zs,rfl,hL,hz,fun ll hll=>?_⟩⟩;have s3:=qa5 hll (.lst (zs.map V.str));have ell:upd H2 ll (.lst (zs.map V.str)) ll=some (.lst (zs.map V.str)):=qa1;have hlen:(zs.map V.str).length=zs.length:=zA _;generalize upd H2 ll (.lst (zs.map V.str))=H3 at*;left;rw[hlen];exact q zb u us H3 ((s1.trans s2).trans s3) hBen hu hLu
def jdo(ys zs:List Str):List Str:=ys.filter fun u=>!decide (u∈zs)
def jr3{K:uT}{p:Addr}{x:Str}(h:SqL K H p (L.map V.str))(q:Q (.bl (decide (x∈L))) H):rIn K false (.str x) (.ref p) H Q:=⟨p,_,rfl,.inl h,rfl,qem L,by rw[ji1];exact q⟩
structure jo0(K:uT)(d:Ad)(H:Hp)(t:Addr)(S:Ts)(z y:Str)(ez:He)(zs ys:List Str):Prop where
 tr:qdv d H t S
 wf:WF S
 ow:qfy S
 az:S.at z=some ez
 lz:jad S z zs
 l1:zs.length<=1000
 ly:jad S y ys
 l2:ys.length<=1000
 dz:Dep S 12 z
 w5:S.ws.length<=50
 bl:∀bs,Ben S 12 z bs->∀u∈bs,∃us,jad S u us/\us.length<=1000
 nz:z∉ys
 rt:∃u,ez.x.el=some u/\y≠u
 on:∀u∈ys,u∈zs
 dp:∀bs,Ben S 12 z bs->∀u∈bs,∀us,jad S u us->ys.length+us.length+1<=12+zs.length
theorem jo0.same{K:uT}{d:Ad}{H H':Hp}{t:Addr}{S:Ts}{z y:Str}{ez:He}{zs ys:List Str}(h:jo0 K d H t S z y ez zs ys)(s:jab H H'):jo0 K d H' t S z y ez zs ys:=⟨h.tr.same s,h.wf,h.ow,h.az,h.lz,h.l1,h.ly,h.l2,h.dz,h.w5,h.bl,h.nz,h.rt,h.on,h.dp⟩
def w6s(K:uT)(d:Ad):Sp:=fun vs H Q E=>∃(t:Addr)(S:Ts)(z y:Str)(ez:He)(zs ys:List Str),vs=[.ref t,.str z,.str y]/\jo0 K d H t S z y ez zs ys/\∀H',jab H H'->Q .non H'
include T in
theorem w6v:jac P w K mg base (My.CX1 P w) 19 d.w2c d.w27 ["self","name","elder"] (w6s K d):=by
 exists okX T.w70 w26
 .right
 obtain⟨t,S,z,y,ez,zs,ys,rfl,hM,q⟩:=h;refine⟨_,(qa2 (qad (i:=3) w26.nd rfl (fF rfl) (qas (pv 0) T.w02 T.w08 ((w0l T).mono ∅) hr T.w0u .nil qaj #[pv 1]))
  (qa2 (qad (i:=4) w26.nd rfl (uI rfl) (qas (pv 0) T.w02 T.w08 ((w0l T).mono ∅) hr T.w0u .nil qaj #[pv 2]))
  (qa2 (qb8 (PW.pt (qdr (qak jcu (pv 1) (pv 4) (by rfl)) (qdf (qak qey (pv 2) (qas (pv 0) T.w02 T.w0i ((w2w T).mono ∅) hr T.w3i .nil qaj #[pv 1]) (qau _))))) (qa6 (qbw rfl T.wgf rfl T.wgo qaj #[qcn])) qap)
  (qa2 (qb8 (qak qfi (qah qbr (qaf qb3 rfl T.w3n vO #[pv 4]) (qas (pv 0) T.w02 T.w1p ((w9e T).mono ∅) hr T.waq .nil qaj #[pv 1])) (qdy rfl T.w5x T.w1f) (qau _)) (qa6 (qbw rfl T.wbr rfl T.wb3 qaj #[qcn])) qap)
  (qa6 (qb9 (qas (pv 0) T.w02 T.w0g ((w3u T).mono ∅) hr T.w4b .nil qaj #[qd6 (caps:=[3]) (cn:=["own_line"]) (qcf rfl rfl (by rfl) (by rfl) rfl ⟨rfl,trivial⟩ (by rfl) rfl ⟨⟨rfl,rfl,rfl,rfl,_,rfl⟩,trivial⟩ ∅) rfl (qb0 (pv 4)) (fun _ _ _ _=>(jfb (qak qct (pv 0) (pv 1) (by rfl)))) (fun _ _ _ _=>(pv 0)),qas (pv 0) T.w02 T.w07 ((w1z T).mono ∅) hr T.w23 .nil qaj #[pv 1]]))))))),?_⟩
 walk_at"d"
 try dsimp only[cxC]
 refine qac (σ:=[sr t,some (.str z),some (.str y),none,none]) rfl ?_;have ct:=T.w02;obtain⟨dx,ht⟩:=id hM.tr.1;left;refine⟨t,S,.str z,rfl,hM.tr,.inl ⟨z,zs,rfl,hM.lz,hM.l1,fun lz hlz=>?_⟩⟩;have s1:=qa5 hlz (.lst (zs.map V.str));have elz:upd H lz (.lst (zs.map V.str)) lz=some (.lst (zs.map V.str)):=qa1;generalize upd H lz (.lst (zs.map V.str))=H1 at*;have ht1:=s1 _ _ ht;left;refine⟨t,S,.str y,rfl,hM.tr.same s1,.inl ⟨y,ys,rfl,hM.ly,hM.l2,fun ly hly=>?_⟩⟩;have s2:=qa5 hly (.lst (ys.map V.str));have ely:upd H1 ly (.lst (ys.map V.str)) ly=some (.lst (ys.map V.str)):=qa1;have elz2:=qaa (o':=.lst (ys.map V.str)) elz hly;generalize upd H1 ly (.lst (ys.map V.str))=H2 at*;have t2:=s1.trans s2;have hM2:=hM.same t2;have ht2:=t2 _ _ ht;clear ht ht1 elz hlz hly;left;refine jr3 (SqL.of ely) ?_;refine⟨_,rfl,?_⟩;have c1:=hM.nz;rw[gX c1];left;refine⟨t,S,.str z,rfl,hM2.tr,.inl ⟨z,rfl⟩,fun e he=>?_,fun hn=>?_⟩
 rotate_left
 .rw[show who S (.str z)=some ez from hM.az] at hn;cases hn
 have ee:ez=e:=uN (hM.az.symm.trans he);subst ee;obtain⟨u,hel,c2⟩:=hM.rt;rw[hel]
 .rw[show eV (some u)=V.str u from rfl];left;have hyl:(ys.map V.str).length=ys.length:=zA _;left;refine⟨t,S,z,ez,zs,rfl,hM2.tr,hM.wf,hM.az,hM.dz,hM.lz,hM.l1,hM.bl,fun bs0 u0 us0 H3 s3 hB0 hu0 hL0=>?_⟩;have hdp:=hM.dp bs0 hB0 u0 hu0 us0 hL0;have t3:=t2.trans s3;have ely3:=s3 _ _ ely;have elz3:=s3 _ _ elz2;have ht3:=s3 _ _ ht2;have hM3:=hM2.same s3;clear ely elz2 ht2 hM2;left;intro C s0 H0 fp ln hln;refine jge ys.length (fun i H'=>jab H3 H'/\H' ln=some (.lst ((jdo (ys.take i) zs).map V.str))) ⟨qa5 hln _,qa1⟩ ?_ ?_ ?_ ?_
  .rintro i H' hi ⟨sm,_⟩;exact⟨_,.str ys[i],SqL.of (sm _ _ ely3),by rw[zC,zB hi];rfl⟩
  .rintro H' ⟨sm,_⟩;exact⟨_,SqL.of (sm _ _ ely3),by rw[zA];exact uG _⟩
  .rintro i H' v H'' hi ⟨sm,ea⟩ ⟨rfl,hv⟩;have hv:=hv _ (SqL.of (sm _ _ ely3));rw[zC,zB hi] at hv
   cases hv
   have tk:ys.take (i+1)=ys.take i++[ys[i]]:=by rw[zN,zB hi];rfl
   generalize ys[i]=w at*;have elz4:=sm _ _ elz3;have zl:((jdo (ys.take i) zs).map V.str).length<sizeLine:=by
    rw[zA];have h1:=zZ (fun u=>!decide (u∈zs)) (ys.take i);rw[zW] at h1;have:=hM.l2;show(jdo (ys.take i) zs).length<16777216;unfold jdo;omega
   clear hv;left;refine jdh (SqL.of elz4) ?_;by_cases c:w∈zs
   .rw[gW c];left;refine⟨sm,?_⟩;rw[ea,tk];unfold jdo;rw[zY,yJ,gT (by rw[gW c];exact uU),bT,zX]
   .rw[gX c];left;refine⟨qb5 sm hln,?_⟩;rw[qa1,tk];unfold jdo;rw[zY,yJ,gU (by rw[gX c];rfl),zL];rfl
  rintro H4 ⟨s4,eln⟩;rw[zJ] at eln;have ht4:=s4 _ _ ht3;have hM4:=hM3.same s4;have t4:=t3.trans s4;clear ely3 elz3 ht3 hM3 hln;left;refine⟨t,S,.str z,rfl,hM4.tr,hM.wf,hM.ow,.inl ⟨z,rfl⟩,fun e1 he1=>?_,fun hn=>?_⟩
  rotate_left
  .rw[show who S (.str z)=some ez from hM.az] at hn;cases hn
  have ee:ez=e1:=uN (hM.az.symm.trans he1);subst ee;rw[(qc0 hM.az).2];refine⟨hM.dz,fun lp bs kp H5 s5 hlp elp hB hAp=>?_⟩;have hM5:=hM4.same s5;have ht5:=s5 _ _ ht4;have t5:=t4.trans s5;have hbs:∀b∈bs,∃eb,S.at b=some eb/\eb∈S.hl:=fun b hb1=>by
   have hb2:b∈S.hl.map (·.n):=by
    rcases(qcq hM.wf (Ben.part hB)).2 b hb1 with rfl|h
    .exact zH.mpr ⟨ez,(qc0 hM.az).1,(qc0 hM.az).2⟩
    .exact h
   obtain⟨eb,h3,rfl⟩:=zH.mp hb2;exact⟨eb,qg3 hM.wf.1 h3,h3⟩
  have sup:∀v,jgf (bs.map (jel S)) v≠none->v∈S.ws:=by
   refine jej (fun u hu v hv=>?_) noF (fun v hv=>absurd rfl hv);obtain⟨b,hb1,rfl⟩:=zH.mp hu;obtain⟨eb,h3,h4⟩:=hbs b hb1;rw[qfg h3] at hv;exact hM.ow.2 eb h4 v hv
  left;have e0:jdo ys zs=[]:=by
   unfold jdo;exact List.filter_eq_nil_iff.mpr fun u hu=>by rw[gW (hM.on u hu)];decide
  rw[e0] at eln;refine⟨t,ln,lp,S,[],kp,_,rfl,hM5.tr,hM.wf,hM.ow,SqL.of (s5 _ _ eln),elp,hAp,hM.w5,sup,(fun y hy=>nomatch hy),fun H6 s6=>?_⟩;left;exact q _ (t5.trans s6)
def mvE(z y:Str)(e:He):He:=if e.n=z then {e with x:={e.x with el:=some y}} else e
def mvS(S:Ts)(z y:Str):Ts:={S with hl:=S.hl.map (mvE z y)}
theorem jor(z y:Str)(e:He):(mvE z y e).n=e.n:=by unfold mvE;split<;>rfl
theorem jr4(z y:Str)(e:He):(mvE z y e).a=e.a:=by unfold mvE;split<;>rfl
theorem jkz(S:Ts)(z y:Str):(mvS S z y).keys=S.keys:=by
 unfold Ts.keys mvS;dsimp only;rw[yP];exact bV fun e _=>by show((mvE z y e).n,(mvE z y e).a)=_;rw[jor,jr4]
theorem jje(S:Ts)(z y:Str):(mvS S z y).hl.map (·.n)=S.hl.map (·.n):=by
 unfold mvS;dsimp only;rw[yP];exact bV fun e _=>jor z y e
def wbm(K:uT)(d:Ad):Sp:=fun vs H Q E=>∃(t:Addr)(S:Ts)(z y:Str)(ez:He)(zs ys:List Str),vs=[.ref t,.str z,.str y]/\jo0 K d H t S z y ez zs ys/\(S.hl.map (·.a)).Nodup/\∀H',SameBut ez.a H H'->qdv d H' t (mvS S z y)->Q .non H'
include T in
theorem wc2:jac P w K mg base (My.CX1 P w) 20 d.w6j d.w56 ["self","name","elder"] (wbm K d):=by
 exists okX T.wdo wbs
 .right
 obtain⟨t,S,z,y,ez,zs,ys,rfl,hM,nda,q⟩:=h;exists (qa2 (qb9 (qas (pv 0) T.w02 T.w0s ((w6v T).mono ∅) hr T.w7l .nil qaj #[pv 1,pv 2]))
  (qa6 (qc9 (qax (pv 0) rfl|||pv 1) (pv 2) rfl))),[sr t,some (.str z),some (.str y)];have ct:=T.w02;have ch:=T.w1m;have nh:qao K d.w01 "houses":=T.w03;have ne':qao K d.w06 "elder":=T.w0k;obtain⟨dx,ht⟩:=id hM.tr.1;left;refine⟨t,S,z,y,ez,zs,ys,rfl,hM,fun H1 s1=>?_⟩;have hM1:=hM.same s1;obtain⟨⟨dx1,ht1⟩,hw1,hh1,nd1,hz1,hE1⟩:=id hM1.tr;have hme:=qc0 hM.az;obtain⟨⟨dh,ho⟩,hp,hpA,hc,hcA⟩:=hE1 ez hme.1;clear ht;left;refine qfe (h:=ez.a) (.inl hh1) (by rw[qdj,hM.az];rfl) ?_;left;refine qdx ho ch ne' (by show 4<1000;decide) ?_;have ef:qds "elder" (.str y) (fsH ez.x)=fsH {ez.x with el:=some y}:=rfl;rw[ef];left;have sb:∀b u,b≠ez.a->H1 b=some u->upd H1 ez.a (.ins d.w06 dh (fsH {ez.x with el:=some y})) b=some u:=fun b u hb e=>by rw[qa4 hb];exact e
 have nk:∀{b:Addr} {u:HO},H1 b=some u->(∀dy f,u≠ .ins d.w06 dy f)->b≠ez.a:=fun e1 e2 e3=>by
  rw[e3,ho] at e1;exact e2 _ _ (uN e1).symm
 have ndT:d.w01≠d.w06\/True:=.inr trivial;refine q _ (fun b u hb e=>sb b u hb (s1 _ _ e)) ⟨⟨dx1,?_⟩,sb _ _ (nk hw1 (fun _ _ e=>by cases e)) hw1,?_,?_,?_,fun e he=>?_⟩
 .by_cases c:t=ez.a
  .rw[c] at ht1;rw[ht1] at ho;have h1:=uN ho;injection h1 with h1 h2 h3
   exact absurd (congrArg wJ h3) (show ¬2=4 by decide)
  .exact sb _ _ c ht1
 .rw[jkz];exact sb _ _ (nk hh1 (fun _ _ e=>by cases e)) hh1
 .rw[jje];exact nd1
 .show(S.hl.map (mvE z y)).length<=60;rw[zA];exact hz1
 .obtain⟨e0,he0,rfl⟩:=zH.mp he;obtain⟨⟨dy,h1⟩,h2,h3,h4,h5⟩:=hE1 e0 he0;have p2:=sb _ _ (nk h2 (fun _ _ e=>by cases e)) h2;have p4:=sb _ _ (nk h4 (fun _ _ e=>by cases e)) h4;by_cases c:e0.n=z
  .have e1:e0=ez:=uN (by rw[<-hM.az,<-c];exact(qg3 nd1 he0).symm);subst e1;unfold mvE;rw[gU c];exact⟨⟨dh,qa1⟩,p2,h3,p4,h5⟩
  .unfold mvE;rw[gT c];have na:e0.a≠ez.a:=fun ea=>by
    obtain⟨i,hi,ei⟩:=zS.mp he0;obtain⟨j,hj,ej⟩:=zS.mp hme.1;have hij:i≠j:=fun x=>c (by subst x;rw[<-ei,ej];exact hme.2);have pw:=xI.mp (show List.Pairwise (·≠·) (S.hl.map (·.a)) from nda);rcases Nat.lt_or_gt_of_ne hij with lt|lt
    .have:=pw i j (by rw[zA];exact hi) (by rw[zA];exact hj) lt;rw[yN,yN,ei,ej] at this;exact this ea
    .have:=pw j i (by rw[zA];exact hj) (by rw[zA];exact hi) lt;rw[yN,yN,ei,ej] at this;exact this ea.symm
   exact⟨⟨dy,sb _ _ na h1⟩,p2,h3,p4,h5⟩
theorem jmc(h:(mvS S z y).hl[i]?=some e):∃e0,S.hl[i]?=some e0/\e=mvE z y e0:=by
 have h:(S.hl.map (mvE z y))[i]?=some e:=h;rw[zC] at h;obtain⟨e0,h1,rfl⟩:=uK.mp h;exact⟨e0,h1,rfl⟩
theorem juk(z y:Str)(e:He):(mvE z y e).x.w=e.x.w:=by unfold mvE;split<;>rfl
theorem jr5(z y:Str)(e:He):(mvE z y e).x.fp=e.x.fp/\(mvE z y e).x.fc=e.x.fc:=by unfold mvE;split<;>exact⟨rfl,rfl⟩
theorem jr6(S:Ts)(z y:Str):(mvS S z y).hl.map (·.a)=S.hl.map (·.a):=by
 unfold mvS;dsimp only;rw[yP];exact bV fun e _=>jr4 z y e
section
variable{S:Ts}{nm:Nat->Str}{el el':Nat->Nat}{n k:Nat}{wt:Nat->Int}
theorem Bt.congr(h:Bt S nm el n wt)(e:∀j,j<n->el j=el' j):Bt S nm el' n wt:=by
 refine⟨⟨h.pl.len,fun i e' he=>?_,h.pl.inj,fun i i0 ik=>by rw[<-e i ik];exact h.pl.low i i0 ik⟩,h.no,h.w,h.ws⟩;have hi:i<n:=by rw[<-h.pl.len];exact(uF.mp he).1
 obtain⟨h1,h2⟩:=h.pl.nam i e' he;exact⟨h1,by rw[h2,e i hi]⟩
theorem Bt.mv(h:Bt S nm el n wt)(k0:0<k)(hk:k<n):Bt (mvS S (nm k) (nm 0)) nm (fun j=>if j=k then 0 else el j) n wt:=by
 refine⟨⟨by show(S.hl.map _).length=_;rw[zA];exact h.pl.len,fun i e he=>?_,h.pl.inj,fun i i0 ik=>?_⟩,fun e he=>?_,fun i e he=>?_,h.ws⟩
 .obtain⟨e0,h0,rfl⟩:=jmc he;have hi:i<n:=by rw[<-h.pl.len];exact(uF.mp h0).1
  obtain⟨h1,h2⟩:=h.pl.nam i e0 h0;refine⟨by rw[jor];exact h1,?_⟩;by_cases c:i=k
  .subst c;unfold mvE;rw[gU h1,gT #[],gU rfl]
  .unfold mvE;rw[gT (fun z=>c (h.pl.inj i k hi hk (by rw[<-h1,z]))),gT c];exact h2
 .show(if i=k then 0 else el i)<i;by_cases c:i=k
  .rw[gU c];exact i0
  .rw[gT c];exact h.pl.low i i0 ik
 .obtain⟨e0,h0,rfl⟩:=zH.mp he;rw[(jr5 _ _ e0).1,(jr5 _ _ e0).2];exact h.no e0 h0
 .obtain⟨e0,h0,rfl⟩:=jmc he;rw[juk];exact h.w i e0 h0
theorem jdp(low:∀i,0<i->i<n->el i<i):∀k,k<n->0∈qbs el k:=by
 intro k
 induction k using aO with
 |ind k ih=>
  intro hk;by_cases c:k=0
  .subst c;rw[qcj];exact zE.mpr rfl
  .have l:=low k #[] hk;rw[qcu low #[] hk];exact zD _ (ih _ l #[])
theorem Bt.line_uniq{us:List Str}(h:jad S z us):∀{vs:List Str},jad S z vs->us=vs:=by
 induction h with
 |top h n=>
  intro vs g
  cases g with
  |top _ _=>rfl
  |up h' n' _=>rw[h] at h';cases h';rw[n] at n';cases n'
 |up h n r ih=>
  intro vs g
  cases g with
  |top h' n'=>rw[h] at h';cases h';rw[n] at n';cases n'
  |up h' n' r'=>
   rw[h] at h';cases h';rw[n] at n';cases n';rw[ih r']
theorem Bt.move{K:uT}{d:Ad}{t:Addr}(h:Bt S nm el n wt)(hT:qdv d H t S)(n9:n<=9)(k0:0<k)(hk:k<n)(hne:el k≠0):∃ez,ez∈S.hl/\jo0 K d H t S (nm k) (nm 0) ez ((qbs el k).map nm) [nm 0]:=by
 have low:=h.pl.low;have h6:=h.ws;obtain⟨e,h1,h2,h3⟩:=h.pl.at hk;have ee:=(h.pl.nam k e h2).2;rw[gT #[]] at ee;have lk:=low k k0 hk;have ll:=qdk low k hk;have pos:1<=(qbs el k).length:=bW.mpr fun z=>by have:=jdp low k hk;rw[z] at this;cases this
 have lns:∀u us,u∈S.hl.map (·.n)->jad S u us->us.length<=n:=fun u us hu hL=>by
  obtain⟨e1,he1,rfl⟩:=zH.mp hu;obtain⟨i,hi⟩:=List.mem_iff_getElem?.mp he1;have hin:i<n:=by rw[<-h.pl.len];exact(uF.mp hi).1
  rw[(h.pl.nam i e1 hi).1] at hL;have e2:=Bt.line_uniq hL (h.pl.line i hin);have:=qdk low i hin;rw[e2,zA];omega
 have ben:∀bs,Ben S 12 (nm k) bs->∀u∈bs,u∈S.hl.map (·.n):=fun bs hB u hu=>by
  rcases(qcq h.pl.wf (Ben.part hB)).2 u hu with rfl|z
  .exact zH.mpr ⟨e,(qc0 h1).1,(qc0 h1).2⟩
  .exact z
 refine⟨e,(qc0 h1).1,hT,h.pl.wf,⟨#[],fun e' he z hz=>absurd ((h.no e' he).1 z) hz⟩,h1,h.pl.line k hk,by rw[zA];omega,?_,by show 1<=1000;decide,h.pl.dep 12 k hk #[],#[],fun bs hB u hu=>?_,?_,⟨nm (el k),ee,?_⟩,fun u hu=>?_,fun bs hB u hu us hL=>?_⟩
 .have:=h.pl.line 0 #[];rw[qcj] at this;exact this
 .obtain⟨e1,he1,e2⟩:=zH.mp (ben bs hB u hu);obtain⟨us,hL⟩:=h.pl.wf.2 e1 he1;rw[e2] at hL;exact⟨us,hL,by have:=lns u us (ben bs hB u hu) hL;omega⟩
 .intro z;have:=h.pl.inj k 0 hk #[] (zE.mp z);omega
 .intro z;exact hne (h.pl.inj 0 (el k) #[] #[] z).symm
 .rw[zE.mp hu];exact zH.mpr ⟨0,jdp low k hk,rfl⟩
 .have:=lns u us (ben bs hB u hu) hL;rw[zA];show 1+us.length+1<=_;omega
end
theorem jce.hs(ok:jce nm es D):∀n∈D.W0,∀h∈D.ln n,h∈nm:=fun n hn h hh=>by
 obtain⟨k,hk,e⟩:=zS.mp (ok.sub n hn);have e2:nmG nm k=n:=by unfold nmG;rw[zB hk,e];rfl
 rw[<-e2,ok.ln k hk] at hh;obtain⟨j,hj,rfl⟩:=zH.mp hh;exact qco (by have:=qcv ok.low k hk j hj;omega)
def usR(rows:List R3):List (Str×Addr):=rows.map fun r=>(r.n,r.s)
theorem qgg(rows:List R3):(usR rows).map (·.1)=rows.map (·.n):=by unfold usR;rw[yP];rfl
theorem jk0{n:Str}(c:shQ D lv n≠(D.wa n:Rat)){A B:List Str}{h:Str}(e:D.ln n=A++h::B)(hA:∀a∈A,a∉(D.ln n).filter (stB D lv n))(hh:h∈(D.ln n).filter (stB D lv n)):jb3 D lv n=.str h:=by
 have e1:(D.ln n).filter (stB D lv n)=h::B.filter (stB D lv n):=by
  have z:A.filter (stB D lv n)=[]:=List.filter_eq_nil_iff.mpr fun a ha hs=>hA a ha (zV.mpr ⟨by rw[e];exact zP _ ha,hs⟩);have hs:=(zV.mp hh).2;rw[e,zY,z,List.nil_append,aU hs]
 unfold jb3;rw[gT c,e1]
inductive jk1(K:uT)(d:Ad)(vs:List V)(H:Hp)(Q:VK)(E:XK):Prop
 |mk(p ln le dg dw dr:Addr)(nm:List Str)(es:List Nat)(kg kw kr:List (Key×V))(D:Dl)(ds:Addr)(us:List (Str×Addr))(lv:Str->Rat)(k:Nat)(_:vs=[.ref p,.ref ds,iV k])(_:jfw H p ln le dg dw dr nm es kg kw kr D)(_:jce nm es D)(_:(∀y∈nm,0<=D.rm y/\D.rm y<=10^31))(_:H ds=some (.dK (oK us)))(_:PD H us (tpS D lv) (btS D lv))(_:(∀n,n∈us.map (·.1)↔n∈D.W0))(_:Shs D lv)(_:nmG nm k∈D.W0)(_:k<nm.length)(_:(shQ D lv (nmG nm k)≠(D.wa (nmG nm k):Rat)->(D.ln (nmG nm k)).filter (stB D lv (nmG nm k))≠ []))(_:∀l H',jab H H'->H l=none->H' l=some (.lst [jb3 D lv (nmG nm k)])->Q (.ref l) H')
set_option maxHeartbeats 9000000 in
include T in
theorem wgh:jac P w K mg base CX0 7 d.wc8 d.wac ["_law_sharing_here","_law_shares","_law_k"] (jk1 K d):=by
 exists T.wfk.ok w3s
 .right
 obtain⟨p,ln,le,dg,dw,dr,nm,es,kg,kw,kr,D,ds,us,lv,k,rfl,hA,ok,rmb,hd,hP,hu,hS,hz,hk,hst,q⟩:=h;exists (qa2 (qed (pv 0) (qef rfl (qai (qab (i:=3) w3s.nd rfl (uI rfl)) (qai (qab (i:=4) w3s.nd rfl (uI rfl)) (qai (qab (i:=5) w3s.nd rfl (uI rfl)) (qai (qab (i:=6) w3s.nd rfl (uI rfl)) (qai (qab (i:=7) w3s.nd rfl (uI rfl)) qcm)))))))
  (qa2 (qad (i:=8) w3s.nd rfl (uI rfl) (pv 1|||qam qaq (pv 3) (pv 2) nofun))
  (qa2 (qb8 (qak qey (~~~8) (qah qd9 (pv 6|||qam qaq (pv 3) (pv 2) nofun) (~~~8)) (qau _)) (qa6 (qae (qbd #[qd1]))) qap)
  (qa2 (qb2 vM rfl (qb0 (qag ((wf9 T).mono ∅) hr rfl T.wh6 T.wex.kp T.wgy .nil qaz #[pv 4,pv 2])) (qab (i:=9) w3s.nd rfl (uI rfl)) (qa6 (qb8 (qbj (qag ((whl T).mono ∅) hr rfl T.wi4 T.wh5.kp T.wi2 .nil qaz #[pv 0,pv 1,qam qaq (pv 3) (pv 2) nofun,pv 9])) (qa6 (qae (qbd #[qam qaq (pv 3) (pv 9) nofun]))) qap)))
  (qa6 (qae (qbd qa3))))))),[sr p,sr ds,some (iV k),none,none,none,none,none,none,none];have etop:=hA.top;have l7:=ok.l7;have len:=ok.len;have xn:atI (nm.map V.str) ((k:Nat):Int)=some (.str (nmG nm k)):=qbp (by rw[zC,qcp hk];rfl);have en:=hA.n;have hRw:Rd H dw (.dK kw):=.inl hA.w;have hwA:=hA.wA;have gw:qby D.W0 D.wa (nmG nm k)=some (D.wa (nmG nm k)):=qbi hz;have hRd:Rd H ds (.dK (oK us)):=.inl hd;unfold iV;obtain⟨az,lkz,ez⟩:=hP.look ((hu _).mpr hz);have rbz:=hS.b.rs _ hz;have hg1:Hug (D.wa (nmG nm k)):=jfx (ok.ok.a0 _ hz) (ok.ok.a1 _ hz);have hg2:Hug (btS D lv (nmG nm k)):=rbz.hd;have eqv:tpS D lv (nmG nm k)=D.wa (nmG nm k)*btS D lv (nmG nm k)↔shQ D lv (nmG nm k)=(D.wa (nmG nm k):Rat):=by
  have c:(tpS D lv (nmG nm k)=D.wa (nmG nm k)*btS D lv (nmG nm k))↔((tpS D lv (nmG nm k):Int):Rat)=((D.wa (nmG nm k)*btS D lv (nmG nm k):Int):Rat):=by exact_mod_cast Iff.rfl
  have b0:(0:Rat) <((btS D lv (nmG nm k):Int):Rat):=by
   have b1:(0:Int)<btS D lv (nmG nm k):=den_pos _;exact_mod_cast b1
  have et:((tpS D lv (nmG nm k):Int):Rat)=shQ D lv (nmG nm k)*((btS D lv (nmG nm k):Int):Rat):=jjd _;rw[c,et,vJ];constructor
  .intro h;have h1:(shQ D lv (nmG nm k)-(D.wa (nmG nm k):Rat))*((btS D lv (nmG nm k):Int):Rat)=0:=by grind
   rcases Rat.mul_eq_zero.mp h1 with h2|h2
   .grind
   .grind
  .intro h;rw[h]
 have eln:=ok.ln k hk;have he:=hA.e;have lo:=ok.lo;have lowk:=qcv ok.low k hk;generalize nmG nm k=z at*;left;refine qc7 (SqL.of en) xn ?_;left;refine qfe hRd (h:=az) lkz ?_;left;refine qc7 (SqL.of en) xn ?_;left;by_cases c:tpS D lv z=D.wa z*btS D lv z
 .rw[gW c];left;rename_i l hl;exact q l _ (qa5 hl _) hl (by rw[qa1];unfold jb3;rw[gU (eqv.mp c)])
 rw[gX c];have cs:shQ D lv z≠(D.wa z:Rat):=fun e=>c (eqv.mpr e);have hst:=hst cs;clear eqv c hg1 hg2 rbz;left;refine⟨le,es,k,rfl,he,lo,#[],#[],fun l0 hl0=>?_⟩;have s1:=qa5 hl0 (.lst ((qbs (elN es) k).map iV));have el0:upd H l0 (.lst ((qbs (elN es) k).map iV)) l0=some (.lst ((qbs (elN es) k).map iV)):=qa1;generalize upd H l0 (.lst ((qbs (elN es) k).map iV))=H1 at*;left;refine qbt (xs:=(qbs (elN es) k).map iV) (fun i σ H'=>∃(w9:Option V),σ=[sr p,sr ds,some (V.int (k:Int)),sr ln,sr le,sr dg,sr dw,sr dr,sr az,w9]/\jab H1 H'/\∀a∈(D.ln z).take i,a∉(D.ln z).filter (stB D lv z)) ⟨none,rfl,jab.refl _,fun a ha=>by simp at ha⟩ ?_ ?_ ?_
 .rintro i σ H' _ ⟨w9,rfl,sm,_⟩;exact SqL.of (sm _ _ el0)
 .rintro i v σ H' hv ⟨w9,rfl,sm,hn⟩;rw[zC] at hv;obtain⟨j,hj,rfl⟩:=uK.mp hv;have hjm:=zG hj;have hjn:j<nm.length:=by have:=lowk j hjm;omega
  have t1:=s1.trans sm;have hA':=hA.same t1;have en':=hA'.n;have xj:atI (nm.map V.str) ((j:Nat):Int)=some (.str (nmG nm j)):=qbp (by rw[zC,qcp hjn];rfl);have edj:(D.ln z)[i]?=some (nmG nm j):=by rw[eln,zC,hj];rfl
  have spl:D.ln z=(D.ln z).take i++nmG nm j ::(D.ln z).drop (i+1):=by
   obtain⟨hi,e⟩:=uF.mp edj;rw[<-e,<-xH hi,List.take_append_drop]
  clear hv;left;refine qc7 (SqL.of en') xn ?_;left;refine⟨p,ln,le,dg,dw,dr,nm,es,kg,kw,kr,D,ds,us,lv,z,j,rfl,hA',ok,rmb,t1 _ _ hd,hP.t (qb4.of t1),hu,hS,hz,hjn,fun H2 s2=>?_⟩;have en2:=s2 _ _ en';by_cases c:nmG nm j∈(D.ln z).filter (stB D lv z)
  .rw[gW c];left;refine qc7 (SqL.of en2) xj ?_;left;rename_i l hl;have t2:=t1.trans s2;exact q l _ (t2.trans (qa5 hl _)) (t2.free hl) (by rw[qa1,jk0 cs spl hn c])
  .rw[gX c];left;refine⟨_,rfl,sm.trans s2,fun a ha=>?_⟩;rw[zN,edj] at ha;rcases zM.mp ha with h|h
   .exact hn a h
   .have:a=nmG nm j:=by simpa using h
    rw[this];exact c
 rintro σ H2 ⟨w9,rfl,sm,hn⟩
 exfalso
 rw[zA] at hn;have e1:(D.ln z).length=(qbs (elN es) k).length:=by rw[eln,zA]
 rw[<-e1,zJ] at hn;obtain⟨a,ha⟩:=List.exists_mem_of_ne_nil _ hst;exact hn a (zV.mp ha).1 ha
def rV(rows:List R3):List V:=rows.map fun r=>V.ref r.a
theorem jcd.rows(h:jcd H D lv D.W0 l as):∃rows:List R3,H l=some (.lst (rV rows))/\rows.map (·.n)=D.W0/\(∀r∈rows,Gd H D lv r)/\∀r∈rows,r.pv=jb3 D lv r.n:=by
 have hin:∀x∈as.zip D.W0,∃i:Nat,as[i]?=some x.1/\D.W0[i]?=some x.2:=fun x hx=>by
  obtain⟨i,hi⟩:=List.mem_iff_getElem?.mp hx;rw[List.getElem?_zip_eq_some] at hi;exact⟨i,hi⟩
 refine⟨(as.zip D.W0).map fun x=>⟨x.1.1,x.2,x.1.2,jb3 D lv x.2⟩,?_,?_,fun r hr=>?_,fun r hr=>?_⟩
 .rw[h.l];have e:(as.zip D.W0).map (·.1)=as:=List.map_fst_zip (by rw[h.n];exact uG _);unfold rV;rw[yP];have:((fun r:R3=>V.ref r.a)∘fun x:(Addr×Addr)×Str=>(⟨x.1.1,x.2,x.1.2,jb3 D lv x.2⟩:R3))=(fun p:Addr×Addr=>V.ref p.1)∘ (·.1):=rfl;rw[this,<-yP,e]
 .rw[yP];have:((fun r:R3=>r.n)∘fun x:(Addr×Addr)×Str=>(⟨x.1.1,x.2,x.1.2,jb3 D lv x.2⟩:R3))=(·.2):=rfl;rw[this];exact List.map_snd_zip (by rw[h.n];exact uG _)
 .obtain⟨x,hx,rfl⟩:=zH.mp hr;obtain⟨i,h1,h2⟩:=hin x hx;obtain⟨a1,a2⟩:=h.r i x.2 x.1 h2 h1;exact⟨⟨a1,jjb D lv x.2⟩,fun _=>a2⟩
 .obtain⟨x,hx,rfl⟩:=zH.mp hr;rfl
theorem jjf{K:uT}{m:Str} :DEq K H n (jb3 D lv m) (jb3 D lv m) true:=by
 rcases jjb D lv m with e|⟨z,e⟩
 .rw[e];exact DEq.flat rfl rfl
 .rw[e];exact jhn z
inductive jjg(K:uT)(d:Ad)(vs:List V)(H:Hp)(Q:VK)(E:XK):Prop
 |mk(p ln le dg dw dr:Addr)(nm:List Str)(es:List Nat)(kg kw kr:List (Key×V))(D:Dl)(lv:Str->Rat)(l:Addr)(as:List (Addr×Addr))(_:vs=[.ref p,.ref l])(_:jfw H p ln le dg dw dr nm es kg kw kr D)(_:jce nm es D)(_:(∀y∈nm,0<=D.rm y/\D.rm y<=10^31))(_:jcd H D lv D.W0 l as)(_:Shs D lv)(_:(∀n∈D.W0,shQ D lv n≠(D.wa n:Rat)->(D.ln n).filter (stB D lv n)≠ []))(_:∀H',jab H H'->Q (.bl true) H')
set_option maxHeartbeats 9000000 in
include T in
theorem wbq:jac P w K mg base CX0 8 d.wa7 d.w8x ["_law_sharing_here","_law_told"] (jjg K d):=by
 exists T.wae.ok w18
 .right
 obtain⟨p,ln,le,dg,dw,dr,nm,es,kg,kw,kr,D,lv,l,as,rfl,hA,ok,rmb,hE,hS,hst,q⟩:=h;obtain⟨rows,hl,cn,hR,hpv⟩:=hE.rows;refine⟨_,(qa2 (qed (pv 0) (qef rfl (qai (qab (i:=2) w18.nd rfl (uI rfl)) (qai (qab (i:=3) w18.nd rfl (uI rfl)) (qai (qab (i:=4) w18.nd rfl (uI rfl)) (qai (qab (i:=5) w18.nd rfl (uI rfl)) (qai (qab (i:=6) w18.nd rfl (uI rfl)) qcm)))))))
  (qa2 (qb8 (qc6 (qbj (qag ((wcd T).mono ∅) hr rfl T.weh T.w9s.kp T.wej .nil qaz #[pv 1,pv 5]))) (qa6 (qae qd8)) qap)
  (qa2 (qad (i:=7) w18.nd rfl (uI rfl) qb1)
  (qa2 (qb2 vM rfl (qb0 (pv 1)) (qab (i:=8) w18.nd rfl (uI rfl)) (qa6 (qbg (qav hr) (pv 7) (~~~8) (~~~8) rfl)))
  (qa2 (qb2 vM rfl (qd0 rfl T.w5c #[qaf qb3 rfl T.w3n vO #[pv 2]]) (qab (i:=9) w18.nd rfl (uI rfl)) (qa6 (qb8 (qbj (qag ((wds T).mono ∅) hr rfl T.wft T.wdz.kp T.wfp .nil qaz #[qcc #[pv 6|||qam qaq (pv 2) (pv 9) nofun,qa7],qag ((w8s T).mono ∅) hr rfl T.w9x T.w7c.kp T.w9w .nil qaz #[pv 7,qag ((wbg T).mono ∅) hr rfl T.we1 T.wai.kp T.we5 .nil qaz #[pv 0,pv 9]]])) (qa6 (qae qd8)) qap)))
  (qa2 (qb2 vM rfl (qb0 (pv 1)) (jk7 rfl (qai (qab (i:=10) w18.nd rfl (uI rfl)) (qai (qab (i:=11) w18.nd rfl (uI rfl)) (qai (qab (i:=12) w18.nd rfl (uI rfl)) qcm)))) (qa2 (qb8 (PW.pt (qdr (qak jdu (~~~11) qa7 (qau _)) (qdf (qbj (qag ((wds T).mono ∅) hr rfl T.wft T.wdz.kp T.wfp .nil qaz #[qcc #[pv 5|||pv 10,qa7],pv 11]))))) (qa6 (qae qd8)) qap)
  (qa6 (qb8 (qak (jff (hu8 hr)) (qbd #[pv 12]) (qag ((wgh T).mono ∅) hr rfl T.whp T.wfk.kp T.whz .nil qaz #[pv 0,pv 7,qg2 vY PySem.F.slot_list_index PySem.F.type_list_index jnn (pv 2) #[pv 10]]) (qau _)) (qa6 (qae qd8)) qap))))
  (qa6 (qae qd8)))))))),?_⟩
 walk_at"d"
 try dsimp only[cxC]
 refine qac (σ:=[sr p,sr l,none,none,none,none,none,none,none,none,none,none,none]) rfl ?_;have etop:=hA.top;have l7:=ok.l7;have l8:=ok.ok.l8;have hwA:=hA.wA;have hrA:=hA.rA;have rl:rows.length<=20:=by have:=congrArg wJ cn;rw[zA] at this;omega
 left;refine⟨l,dw,as,kw,D,lv,rfl,hE,hA.w,hwA,ok.ok,ok.srt,fun H2 s2=>?_⟩;have inW:∀r∈rows,r.n∈D.W0:=fun r hr=>by rw[<-cn];exact zH.mpr ⟨r,hr,rfl⟩
 have rnd:(rows.map (·.n)).Nodup:=by rw[cn];exact ok.ok.nd
 left;rename_i ds hds;have s3:=s2.trans (qa5 hds (.dK []));have eds:upd H2 ds (.dK []) ds=some (.dK (oK (usR (rows.take 0)))):=qa1;have fds:=s2.free hds;have nld:l≠ds:=qa9 hl fds;generalize upd H2 ds (.dK [])=H3 at*;have hl3:=s3 _ _ hl;have hR3:∀r∈rows,Gd H3 D lv r:=fun r hr=>(hR r hr).same s3;clear hds s2;left;refine qbt (xs:=rows.map fun r=>V.ref r.a) (fun i σ H'=>∃(w8:Option V),σ=[sr p,sr l,sr ln,sr le,sr dg,sr dw,sr dr,sr ds,w8,none,none,none,none]/\SameBut ds H3 H'/\H' ds=some (.dK (oK (usR (rows.take i))))) ⟨none,rfl,fun b u _ e=>e,eds⟩ ?_ ?_ ?_
 .rintro i σ H' _ ⟨w8,rfl,sb,_⟩;exact SqL.of (sb _ _ nld hl3)
 .rintro i v σ H' hv ⟨w8,rfl,sb,ed⟩;rw[zC] at hv;obtain⟨r,hr,rfl⟩:=uK.mp hv;have hrm:=zG hr;have tS:qb4 H3 H':=fun b xs e=>sb b _ (fun z=>by subst z;rw[eds] at e;cases e) e;have rT:=((hR3 r hrm).tt tS).at_.t;have nz:r.n∉(usR (rows.take i)).map (·.1):=by
   rw[qgg,List.map_take];exact qf7 rnd (by rw[zC,hr];rfl)
  have etk:usR (rows.take (i+1))=usR (rows.take i)++[(r.n,r.s)]:=by unfold usR;rw[zN,hr,zL];rfl
  have zk:(oK (usR (rows.take i))).length<sizeLine:=by
   rw[jq3];unfold usR;rw[zA,zW];show _<16777216;omega
  clear hv;left;rw[jhz (qet.mpr nz)];exact⟨_,rfl,fun b u hb e=>by rw[qa4 hb];exact sb b u hb e,by rw[qa1,etk]⟩
 rintro σ H4 ⟨w8,rfl,sb,ed⟩;rw[zA,zJ] at ed;have s4:jab H H4:=fun b u e=>sb b u (fun z=>by subst z;rw[fds] at e;cases e) (s3 b u e);have hA4:=hA.same s4;have hR4:∀r∈rows,Gd H4 D lv r:=fun r hr=>(hR r hr).same s4;have hl4:=s4 _ _ hl;have hP4:PD H4 (usR rows) (tpS D lv) (btS D lv):=⟨by rw[qgg];exact rnd,fun x hx=>by
  obtain⟨r,hr,rfl⟩:=zH.mp hx;exact(hR4 r hr).f (inW r hr)⟩
 have hu:∀n,n∈(usR rows).map (·.1)↔n∈D.W0:=fun n=>by rw[qgg,cn]
 have ps:=hS.ps ok.ok (U:=(usR rows).map (·.1)) fun n hn=>(hu n).mp hn;have en4:=hA4.n;have ln7:(nm.map V.str).length=nm.length:=zA _;clear sb eds nld hl3 hR3 s3;left;rw[show((nm.map V.str).length:Int).toNat=nm.length by rw[ln7];omega];refine qfr (n:=nm.length) (fun i σ H'=>∃(w9:Option V),σ=[sr p,sr l,sr ln,sr le,sr dg,sr dw,sr dr,sr ds,w8,w9,none,none,none]/\jab H4 H') ⟨none,rfl,jab.refl _⟩ ?_ ?_
 .rintro j σ H' hj ⟨w9,rfl,sm⟩;have hjm:nmG nm j∈nm:=qco hj;have hA':=hA4.same sm;have xn:atI (nm.map V.str) (0+((j:Nat):Int))=some (.str (nmG nm j)):=by rw[dD];exact qbp (by rw[zC,qcp hj];rfl)
  have hRr:Rd H' dr (.dK kr):=.inl hA'.r;have grm:qby nm D.rm (nmG nm j)=some (D.rm (nmG nm j)):=qbi hjm;have il:(qfp D nm (nmG nm j)).length<=7:=vK (zZ _ _) l7;have sbi:∀n∈qfp D nm (nmG nm j),n∈(usR rows).map (·.1):=fun n hn=>(hu n).mpr (qdz.mp hn).2.1;have rb:=rmb _ hjm;have tle:toQ D lv D.W0 (nmG nm j)<=(D.rm (nmG nm j):Rat):=by
   by_cases e:∃n∈D.W0,nmG nm j∈D.ln n
   .obtain⟨n,hn,hh⟩:=e;exact hS.rm n hn _ hh
   .rw[jfv e];exact_mod_cast rb.1
  left;refine qc7 (SqL.of hA'.n) xn ?_;left;rename_i p1 hp1;have s5:=sm.trans (qa5 hp1 (.tup [V.int (D.rm (nmG nm j)),V.int 1]));have e1:upd H' p1 (.tup [V.int (D.rm (nmG nm j)),V.int 1]) p1=some (.tup [V.int (D.rm (nmG nm j)),V.int 1]):=qa1;generalize upd H' p1 (.tup [V.int (D.rm (nmG nm j)),V.int 1])=H5 at*;refine⟨p,ln,le,dg,dw,dr,nm,es,kg,kw,kr,D,j,by rw[dD];rfl,hA4.same s5,ok,hj,fun li H6 s6 fli eli=>?_⟩;have s46:=s5.trans s6;left;refine⟨ds,li,usR rows,qfp D nm (nmG nm j),tpS D lv,btS D lv,shQ D lv,rfl,.inl (s46 _ _ ed),hP4.t (qb4.of s46),ps,eli,sbi,il,fun pt t b hpt b0 b2 et=>?_⟩;have q3:=q35;have sB:=ps.sum sbi il;have b3:b<=2^3000:=jja b2;have hgb:=jkv b0 b3;have hgt:=joj b0 b3 et (by grind) (by grind);rw[jew ok lv] at et;have lp:=jet (t1:=D.rm (nmG nm j)) (b1:=1) (q1:=(D.rm (nmG nm j):Rat)) ∅ b0 (by rw[show((1:Int):Rat)=1 from rfl];grind) et;left;refine⟨p1,pt,D.rm (nmG nm j),1,t,b,rfl,qa5 hpt _ _ _ (s6 _ _ e1),qa1,jfx rb.1 rb.2,Hug.small ∅,hgt,hgb,?_⟩;rw[gX fun w=>by have:=lp.mp w;grind];left;exact⟨_,rfl,s46.trans (qa5 hpt _)⟩
 rintro σ H5 ⟨w9,rfl,s5⟩;have hA5:=hA4.same s5;have hl5:=s5 _ _ hl4;have hR5:∀r∈rows,Gd H5 D lv r:=fun r hr=>(hR4 r hr).same s5;have hP5:=hP4.t (qb4.of s5);have ed5:=s5 _ _ ed;have s05:=s4.trans s5;clear hA4 hR4 hP4 hl4 ed s4 s5 en4;left;refine qbt (xs:=rows.map fun r=>V.ref r.a) (fun i σ H'=>∃(w10 w11 w12:Option V),σ=[sr p,sr l,sr ln,sr le,sr dg,sr dw,sr dr,sr ds,w8,w9,w10,w11,w12]/\jab H5 H') ⟨none,none,none,rfl,jab.refl _⟩ ?_ ?_ ?_
 .rintro i σ H' _ ⟨w10,w11,w12,rfl,sm⟩;exact SqL.of (sm _ _ hl5)
 .rintro i v σ H' hv ⟨w10,w11,w12,rfl,sm⟩;rw[zC] at hv;obtain⟨r,hr,rfl⟩:=uK.mp hv;have hrm:=zG hr;have hn:=inW r hrm;have hG:=(hR5 r hrm).same sm;have rT:=hG.at_.t;have rF:=hG.f hn;have hRw:Rd H' dw (.dK kw):=.inl (sm _ _ hA5.w);have gw:qby D.W0 D.wa r.n=some (D.wa r.n):=qbi hn;have nn:0<=(shQ D lv r.n).num:=Rat.num_nonneg.mpr (hS.lo r.n hn);have hw0:=jfx (ok.ok.a0 r.n hn) (ok.ok.a1 r.n hn);have h1:Hug 1:=Hug.small ∅;have rb:=hS.b.rs r.n hn;have hnu:=rb.hn;have hde:=rb.hd;have hle:=hS.le r.n hn;have ew1:((D.wa r.n:Int):Rat)=(D.wa r.n:Rat)*((1:Int):Rat):=by rw[show((1:Int):Rat)=1 from rfl];grind
  have lpA:=jet (t1:=D.wa r.n) (b1:=1) ∅ (den_pos (shQ D lv r.n)) ew1 (jjd (shQ D lv r.n));obtain⟨k,hk,ek⟩:=zS.mp (ok.sub _ hn);have ek2:nmG nm k=r.n:=by unfold nmG;rw[zB hk,ek];rfl
  have epv:=hpv r hrm;unfold qbf at rF;clear hv hr;left;rename_i p1 hp1;have s6:=sm.trans (qa5 hp1 (.tup [V.int (D.wa r.n),V.int 1]));have e1:upd H' p1 (.tup [V.int (D.wa r.n),V.int 1]) p1=some (.tup [V.int (D.wa r.n),V.int 1]):=qa1;have rF6:=qaa (o':=.tup [V.int (D.wa r.n),V.int 1]) rF hp1;generalize upd H' p1 (.tup [V.int (D.wa r.n),V.int 1])=H6 at*;refine⟨p1,r.s,D.wa r.n,1,_,_,rfl,e1,rF6,hw0,h1,hnu,hde,?_⟩;rw[gX fun w=>by have:=lpA.mp w;grind];have en6:=s6 _ _ hA5.n;left;rename_i p2 hp2;have s7:=s6.trans (qa5 hp2 (.lst [r.pv]));have e2:upd H6 p2 (.lst [r.pv]) p2=some (.lst [jb3 D lv r.n]):=by rw[qa1,epv]
  have en7:=qaa (o':=.lst [r.pv]) en6 hp2;generalize upd H6 p2 (.lst [r.pv])=H7 at*;left;rw[<-ek];refine jri (SqL.of en7) ok.nd hk ?_;rw[ek];left;refine⟨p,ln,le,dg,dw,dr,nm,es,kg,kw,kr,D,ds,usR rows,lv,k,rfl,hA5.same s7,ok,rmb,s7 _ _ ed5,hP5.t (qb4.of s7),hu,hS,by rw[ek2];exact hn,hk,by rw[ek2];exact hst r.n hn,fun lq H8 s8 hlq elq=>?_⟩;rw[ek2] at elq;have nlq:p2≠lq:=qa9 e2 hlq;refine jj1 (n:=1) nlq ∅ (DEq.ls (n:=0) (e:=fun _=>true) (SqL.of (s8 _ _ e2)) (SqL.of elq) nlq rfl (fun j h1 h2=>by
   have:j=0:=by simpa using h1
   subst this;exact jjf)) ?_
  rw[show(!(vG [jb3 D lv r.n].length).all fun _=>true)=false from rfl];left;exact⟨_,_,_,rfl,s7.trans s8⟩
 rintro σ H' ⟨w10,w11,w12,rfl,sm⟩;left;exact q _ (s05.trans sm)
def wha(K:uT)(d:Ad):Sp:=fun vs H Q _=>∃(ds:Addr)(k:List (Key×V))(f:Str->Option Int),vs=[.ref ds]/\H ds=some (.dK k)/\AD k f/\k.length<=60/\∀l k' H',jab H H'->H l=none->H' l=some (.dK k')->AD k' f->Q (.ref l) H'
def jsk(f:Str->Option Int)(L:List Str):Str->Option Int:=fun z=>if z∈L then f z else none
include T in
theorem wfe:jac P w K mg base CX0 2 d.wf6 d.wc6 ["_law_some"] (wha K d):=by
 exists T.wf5.ok wct
 .right
 obtain⟨ds,k,f,rfl,hd,hA,k60,q⟩:=h;exists (qa2 (qad (i:=1) wct.nd rfl (uI rfl) qb1)
  (qa2 (qb2 vM rfl (qb0 (qaf (qck rfl) rfl T.w3q wF #[pv 0])) (qab (i:=2) wct.nd rfl (uI rfl)) (qa6 (qbg (qav hr) (pv 1) (pv 2) (pv 0|||pv 2) rfl)))
  (qa6 (qae (pv 1))))),[sr ds,none,none];left;rename_i l hl;have s1:=qa5 hl (.dK []);have el:upd H l (.dK []) l=some (.dK []):=qa1;have hd1:=s1 _ _ hd;generalize upd H l (.dK [])=H1 at*;have kl:=hA.klen;left;refine qep (ss:=qbx k) (.inl hd1) hA.keys #[] fun lo ss hlo hp hss=>?_;have s2:=s1.trans (qa5 hlo (.lst (ss.map V.str)));have el2:=qaa (o':=.lst (ss.map V.str)) el hlo;have elo:upd H1 lo (.lst (ss.map V.str)) lo=some (.lst (ss.map V.str)):=qa1;have nlo:lo≠l:=fun z=>by rw[z,el] at hlo;cases hlo
 generalize upd H1 lo (.lst (ss.map V.str))=H2 at*;have sl:ss.length<=60:=by have:=hp.length_eq;omega
 have snd:ss.Nodup:=hp.nodup_iff.mpr hA.knd;left;refine qbt (xs:=ss.map V.str) (fun i σ H'=>∃(k':List (Key×V))(w2:Option V),σ=[sr ds,sr l,w2]/\SameBut l H2 H'/\H' l=some (.dK k')/\AD k' (jsk f (ss.take i))/\k'.length<=i) ⟨[],none,rfl,fun b u _ e=>e,el2,AD.nil.cast fun z=>by unfold jsk;simp[noF],uG _⟩ ?_ ?_ ?_
 .rintro i σ H' _ ⟨k',w2,rfl,sb,_⟩;exact SqL.of (sb _ _ nlo elo)
 .rintro i v σ H' hv ⟨k',w2,rfl,sb,ed,hK,hk⟩;rw[zC] at hv;obtain⟨z,hz,rfl⟩:=uK.mp hv;have hi:=(uF.mp hz).1;have hzm:=zG hz;obtain⟨n,hn⟩:∃n,f z=some n:=by
   have:=(hA.kin z).mp (hp.mem_iff.mp hzm)
   cases c:f z with
   |none=>exact absurd c this
   |some n=>exact⟨n,rfl⟩
  have nds:ds≠l:=qa9 hd hl;have hR:Rd H' ds (.dK k):=.inl (sb _ _ nds (s2 _ _ hd));have zk:k'.length<sizeLine:=by show _<16777216;omega
  clear hv;left;have lput:=qay k' (uH z) (.int n);refine⟨_,_,rfl,fun b u hb e=>by rw[qa4 hb];exact sb b u hb e,qa1,(hK.put z n).cast fun y=>?_,#[]⟩;unfold jd6 jsk;by_cases c:y=z
  .rw[gU c,c,zN,hz,gU (zI _ (by simp)),hn]
  .rw[gT c,zN,hz];by_cases c2:y∈ss.take i
   .rw[gU c2,gU (zP _ c2)]
   .rw[gT c2,gT fun w=>(zM.mp w).elim c2 fun w=>c (by simpa using w)]
 rintro σ H3 ⟨k',w2,rfl,sb,ed,hK,hk⟩;rw[zA,zJ] at hK;left;refine q l k' _ (fun b u e=>sb b u (qa9 e hl) (s2 b u e)) hl ed (hK.cast fun z=>?_);unfold jsk;by_cases c:z∈ss
 .rw[gU c]
 .rw[gT c]
  cases e:f z with
  |none=>rfl
  |some n=>exact absurd (hp.mem_iff.mpr ((hA.kin z).mpr (by rw[e];simp))) c
structure Fa(D:Dl)(lv:Str->Rat):Prop where
 lo:∀n∈D.W0,0<=shQ D lv n/\shQ D lv n<=(D.wa n:Rat)
 rm:∀n∈D.W0,∀h∈D.ln n,toQ D lv D.W0 h<=(D.rm h:Rat)
 st:∀n∈D.W0,shQ D lv n=(D.wa n:Rat)\/∃h∈D.ln n,toQ D lv D.W0 h=(D.rm h:Rat)/\∀m∈D.W0,h∈D.ln m->lv m<=lv n
theorem jjh{f g:Str->Rat}:∀{l:List Str} {n:Str},(∀m∈l,f m<=g m)->n∈l->f n<g n->qc3 l f<qc3 l g
 | [],_,_,h,_=>by simp at h
 |m::l,n,h,hn,lt=>by
  show f m+qc3 l f<g m+qc3 l g;have h1:=h m (zF ..);have h2:=jem (l:=l) fun k hk=>h k (zD _ hk);rcases zO.mp hn with e|e
  .subst e;grind
  .have:=jjh (fun k hk=>h k (zD _ hk)) e lt;grind
theorem Fa.lt(ok:jay D)(a:Fa D lv)(b:Fa D lv'){n:Str}(hn:n∈D.W0)(c:lv n<lv' n):∃m∈D.W0,lv' m<lv m/\lv' m<lv n:=by
 have w:=(wtQ ok hn).1;have e:shQ D lv n<shQ D lv' n:=bZ c (by grind);rcases a.st n hn with h|⟨h,hh,full,top⟩
 .have:=(b.lo n hn).2;grind
 .have le:=b.rm n hn h hh;refine wL fun no=>?_;have all:∀m∈D.W0,h∈D.ln m->lv m<=lv' m:=fun m hm hl=>wL fun z=>no ⟨m,hm,by grind,by have:=top m hm hl;grind⟩;have lt:toQ D lv D.W0 h<toQ D lv' D.W0 h:=by
   unfold toQ;refine jjh (fun m hm=>?_) hn ?_
   .by_cases c2:h∈D.ln m
    .rw[gU c2,gU c2];have w2:=(wtQ ok hm).1;exact wB (all m hm c2) (by grind)
    .rw[gT c2,gT c2];exact dU
   .rw[gU hh,gU hh];exact e
  grind
theorem jmd{f:Str->Rat}:∀{l:List Str},l≠ []->∃n∈l,∀m∈l,f n<=f m
 | [],h=>absurd rfl h
 | [n],_=>⟨n,zF ..,fun m hm=>by rw[zE.mp hm];exact dU⟩
 |n::k::l,_=>by
  obtain⟨x,hx,mx⟩:=jmd (f:=f) (l:=k::l) (by simp);by_cases c:f n<=f x
  .refine⟨n,zF ..,fun m hm=>?_⟩;rcases zO.mp hm with e|e
   .rw[e];exact dU
   .have:=mx m e;grind
  .refine⟨x,zD _ hx,fun m hm=>?_⟩;rcases zO.mp hm with e|e
   .rw[e];grind
   .exact mx m e
def Fa.uniq(ok:jay D)(a:Fa D lv)(b:Fa D lv'):∀n∈D.W0,lv n=lv' n:=fun x hx=>wL fun dx=>by
 have ne:D.W0.filter (fun n=>decide (lv n≠lv' n))≠ []:=fun e=>by
  have:x∈D.W0.filter (fun n=>decide (lv n≠lv' n)):=zV.mpr ⟨hx,gW dx⟩;rw[e] at this;simp at this
 obtain⟨n,hn,mn⟩:=jmd (f:=fun n=>if lv n<lv' n then lv n else lv' n) ne;obtain⟨hn0,dn⟩:=zV.mp hn;have dn:=of_decide_eq_true dn;by_cases lt:lv n<lv' n
 .obtain⟨m,hm,h1,h2⟩:=a.lt ok b hn0 lt;have:=mn m (zV.mpr ⟨hm,gW (by grind)⟩)
  try dsimp only at this
  rw[gU lt,gT (by grind)] at this;grind
 .obtain⟨m,hm,h1,h2⟩:=b.lt ok a hn0 (show lv' n<lv n by grind);have:=mn m (zV.mpr ⟨hm,gW (by grind)⟩)
  try dsimp only at this
  rw[gT lt,gU (by grind)] at this;grind
theorem Fa.ofR(ok:jay D){lf lv:Str->Rat}{M:Rat}{N:Nat}(I:RdI D [] lf lv M N)(b:LvB D lv):Fa D lv:=by
 have h:=Shs.of ok I b;refine⟨fun n hn=>⟨h.lo n hn,h.le n hn⟩,h.rm,fun n hn=>?_⟩;by_cases c:shQ D lv n=(D.wa n:Rat)
 .exact .inl c
 .obtain⟨x,xs,e,_⟩:=I.stop ok hn c;have hx:x∈(D.ln n).filter (stB D lv n):=by rw[e];exact zF ..
  obtain⟨h1,h2⟩:=zV.mp hx;exact .inr ⟨x,h1,of_decide_eq_true h2⟩
theorem jk2(e:∀n∈D.W0,lv n=lv' n){n:Str}(hn:n∈D.W0):shQ D lv n=shQ D lv' n/\jb3 D lv n=jb3 D lv' n:=by
 have hs:∀m∈D.W0,shQ D lv m=shQ D lv' m:=fun m hm=>by unfold shQ;rw[e m hm]
 have ht:∀h,toQ D lv D.W0 h=toQ D lv' D.W0 h:=fun h=>by
  unfold toQ;exact qbv fun m hm=>by by_cases c:h∈D.ln m<;>simp[c,hs m hm]
 have hb:∀h,stB D lv n h=stB D lv' n h:=fun h=>by
  unfold stB;exact decide_eq_decide.mpr ⟨fun⟨a,b⟩=>⟨by rw[<-ht h];exact a,fun m hm hh=>by rw[<-e m hm,<-e n hn];exact b m hm hh⟩,fun⟨a,b⟩=>⟨by rw[ht h];exact a,fun m hm hh=>by rw[e m hm,e n hn];exact b m hm hh⟩⟩
 refine⟨hs n hn,?_⟩;unfold jb3;rw[hs n hn,List.filter_congr fun h _=>hb h]
def flD(D:Dl)(r:Str):Dl:={D with ln:=fun z=>if z=r then[z] else[z,r]}
theorem jji(m k:Nat):elN (uR m 0) k=0:=by
 unfold elN;rw[cV]
 split<;>rfl
theorem jce.flat(ok:jce nm es D)(rmb:∀y∈nm,0<=D.rm y/\D.rm y<=10^31):jce nm (uR es.length 0) (flD D (nmG nm 0)):=by
 have len:=ok.len;have n0:0<nm.length:=by omega
 have mem:∀n∈D.W0,∀h∈(flD D (nmG nm 0)).ln n,h∈nm:=fun n hn h hh=>by
  have hh:h∈(if n=nmG nm 0 then[n] else[n,nmG nm 0]):=hh;by_cases c:n=nmG nm 0
  .rw[gU c] at hh;rw[zE.mp hh];exact ok.sub n hn
  .rw[gT c] at hh;rcases zO.mp hh with e|e
   .rw[e];exact ok.sub n hn
   .rw[zE.mp e];exact qco n0
 have lo:∀(k e:Nat),(uR es.length 0)[k]?=some e->e<=k:=fun k e h=>by
  rw[cV] at h
  split at h
  .cases h;exact wO _
  .cases h
 refine⟨ok.nd,ok.gd,by rw[yD];exact len,ok.l7,lo,ok.sub,fun k hk=>?_,⟨ok.ok.nd,ok.ok.w1,ok.ok.w2,ok.ok.a0,ok.ok.a1,fun n hn h hh=>(rmb h (mem n hn h hh)).1,fun n hn h hh=>(rmb h (mem n hn h hh)).2,fun n hn=>?_,fun n hn=>?_,fun n hn=>?_,ok.ok.l8⟩,ok.srt⟩
 .show(if nmG nm k=nmG nm 0 then[nmG nm k] else[nmG nm k,nmG nm 0])=_;by_cases c:k=0
  .subst c;rw[gU rfl,qcj];rfl
  .rw[gT (fun e=>c (qes ok.nd hk n0 e)),qcu (qgu lo nm.length) #[] hk,jji,qcj];rfl
 .show n∈(if n=nmG nm 0 then[n] else[n,nmG nm 0])
  split<;>simp
 .show(if n=nmG nm 0 then[n] else[n,nmG nm 0]).Nodup;by_cases c:n=nmG nm 0
  .rw[gU c];exact zT.mpr ⟨by simp,yG⟩
  .rw[gT c];exact zT.mpr ⟨by simpa using c,zT.mpr ⟨by simp,yG⟩⟩
 .show(if n=nmG nm 0 then[n] else[n,nmG nm 0]).length<=20
  split<;>simp
theorem Bt.trd{d:Ad}{t:Addr}{wt:Nat->Int}(bt:Bt S (nmG nm) (elN es) nm.length wt)(ok:jce nm es D)(hT:qdv d H t S):TrD d H t S D:=⟨hT,fun n hn=>by
 obtain⟨k,hk,e⟩:=zS.mp (ok.sub n hn);have e2:nmG nm k=n:=by unfold nmG;rw[zB hk,e];rfl
 obtain⟨e,h1,h2,h3⟩:=bt.pl.at (k:=k) hk;have hl:=bt.pl.line k hk;rw[<-ok.ln k hk] at hl;rw[e2] at h1 hl;exact⟨e,h1,trivial,hl⟩⟩
theorem Wgh.mv{S':Ts}{D':Dl}{wv:V}{el':Nat->Nat}{wt:Nat->Int}(h:Wgh H S D wv)(bt:Bt S (nmG nm) el nm.length wt)(bt':Bt S' (nmG nm) el' nm.length wt)(sub:∀n∈D.W0,n∈nm)(eW:∀n∈D'.W0,n∈D.W0)(ew:D'.wt=D.wt)(k:∀b u,H b=some u->(∀C dx fs,u≠ .ins C dx fs)->H' b=some u):Wgh H' S' D' wv:=by
 rcases h with⟨e,h⟩|⟨g,tb,kt,f,e,⟨cl,cd,w1,w2,w3⟩,ht,ha,hf⟩
 .refine .inl ⟨e,fun n hn e' he'=>?_⟩;obtain⟨i,hi,en⟩:=zS.mp (sub n (eW n hn));have e2:nmG nm i=n:=by unfold nmG;rw[zB hi,en];rfl
  obtain⟨a,a1,a2,_⟩:=bt.pl.at (k:=i) hi;obtain⟨b,b1,b2,_⟩:=bt'.pl.at (k:=i) hi;rw[e2] at a1 b1;rw[he'] at b1
  cases b1
  rw[bt'.w i _ b2,<-bt.w i _ a2,h n (eW n hn) a a1,ew]
 .exact .inr ⟨g,tb,kt,f,e,⟨cl,cd,k _ _ w1 (fun _ _ _ z=>by cases z),k _ _ w2 (fun _ _ _ z=>by cases z),k _ _ w3 (fun _ _ _ z=>by cases z)⟩,k _ _ ht (fun _ _ _ z=>by cases z),ha,fun n hn=>by rw[hf n (eW n hn),ew]⟩
theorem jme{K:uT}{ka kb:List (Key×V)}(ha:H a=some (.dK ka))(hb:H b=some (.dK kb))(hf:AD ka f)(hg:AD kb f):DEq K H (n+1) (.ref a) (.ref b) true:=by
 by_cases e:a=b
 .subst e;exact DEq.same
 .have w:=DEq.dd (K:=K) (n:=n) (.inl ha) (.inl hb) e hf.flat hg.flat;rw[hf.eq hg] at w;exact w
theorem jr7{K:uT}(x:Int):DEq K H n (.int x) (.int x) true:=by
 have:=DEq.flat (K:=K) (H:=H) (n:=n) (x:=.int x) (y:=.int x) rfl rfl;rw[show eqV (V.int x) (V.int x)=true from beq_self_eq_true _] at this;exact this
theorem jos{K:uT}{x y:Int}(ha:H a=some (.tup [.int x,.int y]))(hb:H b=some (.tup [.int x,.int y])):DEq K H 1 (.ref a) (.ref b) true:=by
 by_cases e:a=b
 .subst e;exact DEq.same
 .exact DEq.ts (K:=K) (n:=0) (e:=fun _=>true) (SqT.of ha) (SqT.of hb) e (fun j h1 h2=>by
   match j,h1 with
   |0,_=>exact jr7 x
   |1,_=>exact jr7 y)
theorem jmf{K:uT}{l':Addr}{as':List (Addr×Addr)}(h:jcd H D lv D.W0 l as)(h':jcd H D lv' D.W0 l' as')(e:∀n∈D.W0,lv n=lv' n)(ne:l≠l'):DEq K H 3 (.ref l) (.ref l') true:=by
 have l1:(as.map fun p=>V.ref p.1).length=as.length:=zA _;have l2:(as'.map fun p=>V.ref p.1).length=as'.length:=zA _;have n1:=h.n;have n2:=h'.n;have z:=DEq.ls (K:=K) (H:=H) (n:=2) (e:=fun _=>true) (SqL.of h.l) (SqL.of h'.l) ne #[] (fun j h1 h2=>by
  have k1:j<as.length:=by omega
  have k2:j<as'.length:=by omega
  have k3:j<D.W0.length:=by omega
  rw[yN,yN];obtain⟨a1,a2⟩:=h.r j D.W0[j] as[j] (zB k3) (zB k1);obtain⟨b1,b2⟩:=h'.r j D.W0[j] as'[j] (zB k3) (zB k2);obtain⟨c1,c2⟩:=jk2 e (yB k3);rw[<-c2] at b1;rw[<-c1] at b2;generalize as[j]=p at*;generalize as'[j]=p' at*;generalize D.W0[j]=m at*;by_cases c:p.1=p'.1
  .rw[c];exact DEq.same
  .exact DEq.ts (K:=K) (n:=1) (e:=fun _=>true) (SqT.of a1) (SqT.of b1) c (fun i h1 h2=>by
    match i,h1 with
    |0,_=>exact jhn m
    |1,_=>exact jos a2 b2
    |2,_=>exact jjf))
 rw[show(vG (as.map fun p=>V.ref p.1).length).all (fun _=>true)=true from yA.mpr fun _ _=>rfl] at z;exact z
def jk3{sp:Sp}{dvs:List V}{W:L2.St->XK}{t:TA}{σ:L2.St}(h:t σ H fun vs H1=>sp (vs++dvs) H1 Q (W σ)):jg8 sp dvs W t σ H Q:=h
theorem jr8{wv:V}(h:wv=.non\/∃g,wv=.ref g)(q1:wv=.non->Q (.bl true) H)(q2:Q (.bl false) H):jsg wv .non H Q:=by
 rcases h with rfl|⟨g,rfl⟩
 .exact jlj (q1 rfl)
 .exact jlk q2
def jr9{k:Int}{xs:List V}(e:H l=some (.lst xs))(k0:0<=k)(k1:k<=100)(hx:xs.length<=10)(h:∀p,H p=none->Q (.ref p) (upd H p (.lst (uR k.toNat xs).flatten))):L2.rRep (.ref l) (.int k) H Q:=
 ⟨l,k,xs,rfl,rfl,e,#[],#[],by
  rw[xC];have:xs.length*k.toNat<=10*100:=cE hx #[];omega,h⟩
theorem jfz:∀m:Nat,(uR m [V.int 0]).flatten=(uR m 0).map iV
 |0=>rfl
 |m+1=>by
  rw[yF,bA,jfz m];rfl
def elI(es:List Nat)(i j:Nat):Nat:=if 0<j/\j<=i then 0 else elN es j
def jk4(es:List Nat)(j:Nat):elI es 0 j=elN es j:=gT fun h=>by omega
theorem jk5(h:elN es (1+i)=0)(j:Nat):elI es i j=elI es (i+1) j:=by
 unfold elI;by_cases c:0<j/\j<=i
 .rw[gU c,gU #[]]
 .rw[gT c];by_cases c2:0<j/\j<=i+1
  .rw[gU c2,show j=1+i by omega,h]
  .rw[gT c2]
theorem jsa(j:Nat):(if j=1+i then 0 else elI es i j)=elI es (i+1) j:=by
 unfold elI;by_cases c:j=1+i
 .rw[gU c,gU #[]]
 .rw[gT c];by_cases c2:0<j/\j<=i
  .rw[gU c2,gU #[]]
  .rw[gT c2,gT #[]]
theorem jot{j:Nat}(h:elN es 0=0)(hj:j<=i):elI es i j=0:=by
 unfold elI;by_cases c:0<j/\j<=i
 .rw[gU c]
 .rw[gT c,show j=0 by omega,h]
theorem Wgh.sn{wv:V}(h:Wgh H S D wv)(s:qdm H H'):Wgh H' S D wv:=by
 rcases h with h|⟨g,tb,kt,f,e,⟨cl,cd,w1,w2,w3⟩,ht,ha⟩
 .exact .inl h
 .exact .inr ⟨g,tb,kt,f,e,⟨cl,cd,s _ _ (fun _ z=>by cases z) w1,s _ _ (fun _ z=>by cases z) w2,s _ _ (fun _ z=>by cases z) w3⟩,s _ _ (fun _ z=>by cases z) ht,ha⟩
def jcd.sn(h:jcd H D lv W l as)(e:H' l=H l)(s:qb4 H H'):jcd H' D lv W l as:=⟨e.trans h.l,h.n,fun i n p a b=>⟨s _ _ (h.r i n p a b).1,s _ _ (h.r i n p a b).2⟩⟩
def nlD(D:Dl):Dl:={D with W0:=[]}
def qdi{Q:Str->Prop} :∀n∈(nlD D).W0,Q n:=fun n hn=>by cases hn
def jsb(D:Dl):jay (nlD D):=⟨yG,qdi,qdi,qdi,qdi,qdi,qdi,qdi,qdi,qdi,wO _⟩
theorem jul{wv:V}(h:Wgh H S D wv):Wgh H S (nlD D) wv:=by
 rcases h with⟨e,_⟩|⟨g,tb,kt,f,e,w,ht,ha,_⟩
 .exact .inl ⟨e,qdi⟩
 .exact .inr ⟨g,tb,kt,f,e,w,ht,ha,qdi⟩
theorem jo1{k:List (Key×V)}(h:AD k (qby W g))(nd:W.Nodup)(l:W.length<=7):(qbx k).length<=60:=by
 have p:(qbx k).Perm W:=(aF h.knd nd).mpr fun z=>(h.kin z).trans qch;have:=p.length_eq;omega
def jjj(K:uT)(tp:Addr):Sp:=fun vs H Q _=>∃(a:Addr)(ns:List Int),vs=[.ref a]/\SqL K H a (ns.map V.int)/\ns.length<=63/\H tp=some (.tbl (List.toArray []))/\∀H',Q (.bl true) H'
set_option maxHeartbeats 9000000 in
theorem jsc{P:uW}{w:vL}{K:uT}{mg:Str->Option uB}{base:vQ}{d:Ad}(T:Tx K mg d){tp:Addr}(hwg:jac P w K mg base CX0 2 d.w6q d.w5t ["_law_table"] (w7f tp)):jac P w K mg base CX0 26 d.wcz d.wbx ["_law_script"] (jjj K tp):=by
 exists T.wic.ok w2k
 .right
 obtain⟨a,ns,rfl,hS,h63,htb0,q⟩:=h;refine⟨_,(qa2 (qad (i:=1) w2k.nd rfl (uI rfl) (qag ((wel T).mono ∅) hr rfl T.wfh T.wb5.kp T.wf2 .nil qaz #[pv 0,qah qbr qa7 (qah qbe (qag ((w2h T).mono ∅) hr rfl T.w39 T.w2l.kp T.w3c .nil qaz #[pv 0,qa7]) qa7)]))
  (qa2 (qed (pv 1) (qef rfl (qai (qab (i:=2) w2k.nd rfl (uI rfl)) (qai (qab (i:=3) w2k.nd rfl (uI rfl)) (qai (qab (i:=4) w2k.nd rfl (uI rfl)) (qai (qab (i:=5) w2k.nd rfl (uI rfl)) (qai (qab (i:=6) w2k.nd rfl (uI rfl)) qcm)))))))
  (qa2 (qed (qag ((wdy T hwg).mono ∅) hr rfl T.wfd T.wcy.kp T.wg2 .nil qaz #[pv 0,pv 1]) (qef rfl (qai (qab (i:=7) w2k.nd rfl (uI rfl)) (qai (qab (i:=8) w2k.nd rfl (uI rfl)) qcm))))
  (qa2 (qad (i:=9) w2k.nd rfl (uI rfl) (qbd #[pv 2,qah jg0 (qbd #[qd1]) (qah L2.op_rep (qbd #[qa7]) (qah je3 (qaf qb3 rfl T.w3n vO #[pv 2]) qa7)),pv 4,pv 5,pv 6]))
  (qa2 (qed (qag ((wdy T hwg).mono ∅) hr rfl T.wfd T.wcy.kp T.wg2 .nil qaz #[pv 0,pv 1]) (qef rfl (qai (qab (i:=10) w2k.nd rfl (uI rfl)) (qai (qab (i:=11) w2k.nd rfl (uI rfl)) qcm))))
  (qa2 (qb2 vM rfl (jco rfl T.w5c #[qa7,qaf qb3 rfl T.w3n vO #[pv 2]]) (qab (i:=12) w2k.nd rfl (uI rfl)) (qa6 (qdg (qb8 (qak jdt (qam qaq (pv 3) (pv 12) nofun) qa7 (qau _)) (qa6 (qb9 (qas (W:=fun _ _ _ _=>False) (pv 10) T.w02 T.w2n ((wc2 T).mono ∅) hr T.wcm .nil qe4 #[qam qaq (pv 2) (pv 12) nofun,qam qaq (pv 2) qa7 nofun]))) qap))))
  (qa2 (qad (i:=13) w2k.nd rfl (uI rfl) (qbd #[qbz qcl rfl T.w8h wR #[pv 6],qbz qcl rfl T.w8h wR #[pv 5]]))
  (qa2 (qdg (qb8 (qak jg9 (pv 8) qd1 (qau _)) (qa6 (qad (i:=14) w2k.nd rfl (uI rfl) (qaw (W:=fun _ _ _ _=>False) ((w77 T).mono ∅) hr rfl T.w9v T.w8g.kp T.whh T.whs qe4 #[pv 7,qam qaq (pv 13) qa7 nofun,qam qaq (pv 13) qa7 nofun]))) (qa6 (qad (i:=14) w2k.nd rfl (uI rfl) (qaw (W:=fun _ _ _ _=>False) ((w77 T).mono ∅) hr rfl T.w9v T.w8g.kp T.wbf .nil qe4 #[pv 7,qam qaq (pv 13) qa7 nofun,qam qaq (pv 13) qa7 nofun,pv 8])))))
  (qa2 (qb8 (PW.pt (qdr (qc6 (qbj (qag ((wbq T).mono ∅) hr rfl T.wdx T.wae.kp T.we0 .nil qaz #[pv 1,pv 14]))) (qdf (qak (jff (hu8 hr)) (pv 13) (qbd #[pv 6,pv 5]) (qau _))))) (qa6 (qae qd8)) qap)
  (qa2 (qb8 (qc6 (qbj (qag ((wbq T).mono ∅) hr rfl T.wdx T.wae.kp T.we0 .nil qaz #[pv 9,qaw (W:=fun _ _ _ _=>False) ((w77 T).mono ∅) hr rfl T.w9v T.w8g.kp T.wbf .nil qe4 #[pv 10,qbz qcl rfl T.w8h wR #[pv 6],qbz qcl rfl T.w8h wR #[pv 5],pv 11]]))) (qa6 (qae qd8)) qap)
  (qa2 (qad (i:=15) w2k.nd rfl (uI rfl) (qbz jf9 rfl T.wdw bH #[pv 14]))
  (qa2 (qb9 (qg2 vY wG wH qc8 (pv 14) #[qam qaq (pv 2) qa7 nofun]))
  (qa2 (qb8 (PW.pt (qdr (qak (jff (hu8 hr)) (qaw (W:=fun _ _ _ _=>False) ((w77 T).mono ∅) hr rfl T.w9v T.w8g.kp T.wbf .nil qe4 #[pv 7,qam qaq (pv 13) qa7 nofun,qam qaq (pv 13) qa7 nofun,pv 8]) (pv 15) (qau _)) (qdf (qak (jff (hu8 hr)) (qaw (W:=fun _ _ _ _=>False) ((w77 T).mono ∅) hr rfl T.w9v T.w8g.kp T.wbf .nil qe4 #[pv 7,qbz qcl rfl T.w8h wR #[pv 6],qb1,pv 8]) (qbd qa3) (qau _))))) (qa6 (qae qd8)) qap)
  (qa6 (qae (qd7 (jhk (hu8 hr)) (qaw (W:=fun _ _ _ _=>False) ((w77 T).mono ∅) hr rfl T.w9v T.w8g.kp T.wbf .nil qe4 #[pv 7,qag ((wfe T).mono ∅) hr rfl T.wgz T.wf5.kp T.wgt .nil qaz #[pv 6],qag ((wfe T).mono ∅) hr rfl T.wgz T.wf5.kp T.wgt .nil qaz #[pv 5],pv 8]) (pv 15) (qau _))))))))))))))))),?_⟩
 walk_at"d"
 try dsimp only[cxC]
 refine qac (σ:=[sr a,none,none,none,none,none,none,none,none,none,none,none,none,none,none,none]) rfl ?_;have ct:=T.w02;left;refine⟨a,ns,0,rfl,hS,∅,?_⟩;left;have c0:=vA (cell ns 0) (show(7:Int)≠0 by decide);have c1:=vF (cell ns 0) (show(0:Int)<7 by decide);obtain⟨n,hn'⟩:∃n:Nat,1+cell ns 0%7=(n:Int):=⟨(1+cell ns 0%7).toNat,#[]⟩;have n1:1<=n:=by omega
 have n7:n<=7:=by omega
 rw[hn'];clear hn' c0 c1;refine⟨a,ns,n,rfl,hS,n1,n7,fun p ln le dg dw dr nm es kg kw kr D H1 s1 hA ok hw rmb _=>?_⟩;have l7:=ok.l7;have len:=ok.len;have etop1:=hA.top;have hS1:=s1.seq hS;have htb1:TbS tp posw qw H1:=.inl (s1 _ _ htb0);clear s1 hS htb0 n1 n7;left;refine⟨a,ns,p,ln,le,dg,dw,dr,nm,es,kg,kw,kr,D,rfl,hS1,hA,ok,hw,htb1,fun l t wv S H2 sN2 fl el hT hW _ _ _ _ htb2=>?_⟩;have hA2:=hA.sn sN2;have hS2:=sN2.seq hS1;have en2:=hA2.n;have ln7:(nm.map V.str).length=nm.length:=zA _;have wvd:wv=.non\/∃g,wv=.ref g:=by
  rcases hW with⟨e,_⟩|⟨g,_,_,_,e,_⟩
  .exact .inl e
  .exact .inr ⟨g,e⟩
 clear hA hS1 htb1 sN2 fl etop1;left;rename_i q1 hq1 q2 hq2;refine jr9 qa1 (by rw[ln7];omega) (by rw[ln7];omega) ∅ fun q3 hq3=>?_;have s23:=((qa5 hq1 (.lst [V.non])).trans (qa5 hq2 (.lst [V.int 0]))).trans (qa5 hq3 (.lst (uR (((nm.map V.str).length:Int)-1).toNat [V.int 0]).flatten));have e1:upd (upd (upd H2 q1 (.lst [V.non])) q2 (.lst [V.int 0])) q3 (.lst (uR (((nm.map V.str).length:Int)-1).toNat [V.int 0]).flatten) q1=some (.lst [V.non]):=qaa (qaa qa1 hq2) hq3;have e3:upd (upd (upd H2 q1 (.lst [V.non])) q2 (.lst [V.int 0])) q3 (.lst (uR (((nm.map V.str).length:Int)-1).toNat [V.int 0]).flatten) q3=some (.lst ((uR es.length 0).map iV)):=by
  rw[qa1,jfz,show(((nm.map V.str).length:Int)-1).toNat=es.length by rw[ln7];omega]
 generalize upd (upd (upd H2 q1 (.lst [V.non])) q2 (.lst [V.int 0])) q3 (.lst (uR (((nm.map V.str).length:Int)-1).toNat [V.int 0]).flatten)=H3 at*;refine jnc e1 e3 (by rw[zA,yD,xC];show 1+es.length<=_;omega) fun q4 hq4=>?_;left;rename_i q5 hq5;have s24:=s23.trans ((qa5 hq4 (.lst ([V.non]++(uR es.length 0).map iV))).trans (qa5 hq5 (.lst [V.ref ln,V.ref q4,V.ref dg,V.ref dw,V.ref dr])));have e4:upd (upd H3 q4 (.lst ([V.non]++(uR es.length 0).map iV))) q5 (.lst [V.ref ln,V.ref q4,V.ref dg,V.ref dw,V.ref dr]) q4=some (.lst (V.non ::(uR es.length 0).map iV)):=qaa qa1 hq5;have e5:upd (upd H3 q4 (.lst ([V.non]++(uR es.length 0).map iV))) q5 (.lst [V.ref ln,V.ref q4,V.ref dg,V.ref dw,V.ref dr]) q5=some (.lst [V.ref ln,V.ref q4,V.ref dg,V.ref dw,V.ref dr]):=qa1;generalize upd (upd H3 q4 (.lst ([V.non]++(uR es.length 0).map iV))) q5 (.lst [V.ref ln,V.ref q4,V.ref dg,V.ref dw,V.ref dr])=H4 at*;have hA4:=hA2.same s24;have hF4:jfw H4 q5 ln q4 dg dw dr nm (uR es.length 0) kg kw kr (flD D (nmG nm 0)):=⟨e5,hA4.n,e4,hA4.g,hA4.w,hA4.r,hA4.gA,hA4.wA,hA4.rA⟩;have okF:=ok.flat rmb;have hT4:=hT.same s24;have hW4:=hW.same s24;have hS4:=s24.seq hS2;have htb4:=qf1 htb2 s24;clear e4 e5 e1 e3 hq1 hq2 hq3 hq4 hq5 s23 s24 hA2 hS2 hT hW htb2 el en2;refine⟨a,ns,p,ln,le,dg,dw,dr,nm,es,kg,kw,kr,D,rfl,hS4,hA4,ok,hw,htb4,fun l2 t2 wv2 S2 H5 sN5 fl2 el2 hT5 hW5 bt5 fr5 nda5 _ _=>?_⟩;obtain⟨wt5,bt5⟩:=bt5;have hA5:=hA4.sn sN5;have en5:=hA5.n;have xn:∀j,j<nm.length->atI (nm.map V.str) ((j:Nat):Int)=some (.str (nmG nm j)):=fun j hj=>qbp (by rw[zC,qcp hj];rfl);have n0:0<nm.length:=by omega
 clear hS4 htb4 fl2;left;unfold jmj;left;refine⟨1,((nm.map V.str).length:Int),rfl,?_,?_⟩
 .rw[ln7];omega
 rw[ln7,show(((nm.length:Nat):Int)-1).toNat=nm.length-1 by omega];refine qfr (n:=nm.length-1) (fun i σ H'=>∃(S':Ts)(w12:Option V),σ=[sr a,sr p,sr ln,sr le,sr dg,sr dw,sr dr,sr t,some wv,sr q5,sr t2,some wv2,w12,none,none,none]/\qdm H4 H'/\(∀b u,H5 b=some u->(∀C dx fs,u≠ .ins C dx fs)->H' b=some u)/\qdv d H' t2 S'/\Bt S' (nmG nm) (elI es i) nm.length wt5/\S'.hl.map (·.a)=S2.hl.map (·.a)) ⟨S2,none,rfl,sN5,fun b u e _=>e,hT5.tr,bt5.congr fun j _=>(jk4 es j).symm,rfl⟩ ?_ ?_
 .rintro i σ H' hi ⟨S',w12,rfl,sN,kk,hT',bt',ea⟩;have hk:1+i<nm.length:=by omega
  have hA':=hA4.sn sN;have xe:atI (V.non::es.map iV) (1+(i:Int))=some (.int ((elN es (1+i):Nat):Int)):=by
   have e1:(1+(i:Int))=((i+1:Nat):Int):=by omega
   have hb:i<es.length:=by omega
   rw[e1,Nat.add_comm 1 i,ji7 hb];exact qbp (by rw[xR,zC,zB hb];rfl)
  have xk:atI (nm.map V.str) (1+(i:Int))=some (.str (nmG nm (1+i))):=by
   have:=xn (1+i) hk;rw[show(1+(i:Int))=((1+i:Nat):Int) by omega];exact this
  have x0:=xn 0 n0;obtain⟨tx,ht⟩:=id hT'.1;have he':=hA'.e;have en':=hA'.n;generalize hii:(1+(i:Int))=ii at*;left;refine jha (fun σ H'=>∃(S':Ts)(w12:Option V),σ=[sr a,sr p,sr ln,sr le,sr dg,sr dw,sr dr,sr t,some wv,sr q5,sr t2,some wv2,w12,none,none,none]/\qdm H4 H'/\(∀b u,H5 b=some u->(∀C dx fs,u≠ .ins C dx fs)->H' b=some u)/\qdv d H' t2 S'/\Bt S' (nmG nm) (elI es (i+1)) nm.length wt5/\S'.hl.map (·.a)=S2.hl.map (·.a)) ?_ (fun σ' H' h=>h);left;refine qc7 (SqL.of he') xe ?_;left;by_cases cz:elN es (1+i)=0
  .rw[cz];left;exact⟨S',_,rfl,sN,kk,hT',bt'.congr fun j hj=>jk5 cz j,ea⟩
  .rw[gX #[]];have hne:elI es i (1+i)≠0:=by unfold elI;rw[gT #[]];exact cz
   obtain⟨ez,hez,hM⟩:=bt'.move (K:=K) hT' #[] #[] hk hne;left;refine qc7 (SqL.of en') xk ?_;left;refine qc7 (SqL.of en') x0 ?_;left;refine⟨t2,S',nmG nm (1+i),nmG nm 0,ez,_,_,rfl,hM,by rw[ea];exact nda5,fun H'' sb hT''=>?_⟩;have fz:H4 ez.a=none:=by
    have:ez.a∈S2.hl.map (·.a):=by rw[<-ea];exact zH.mpr ⟨ez,hez,rfl⟩
    obtain⟨e2,h2,e3⟩:=zH.mp this;rw[<-e3];exact fr5 e2 h2
   obtain⟨⟨dh,ho⟩,_⟩:=hT'.2.2.2.2.2 ez hez;left;exact⟨mvS S' _ _,_,rfl,fun b u n e=>sb b u (fun z=>by rw[z,fz] at e;cases e) (sN b u n e),fun b u e n=>sb b u (fun z=>by have:=kk b u e n;rw[z,ho] at this;exact n _ _ _ (uN this).symm) (kk b u e n),hT'',(bt'.mv #[] hk).congr fun j hj=>jsa j,by rw[jr6];exact ea⟩
 rintro σ H6 ⟨S6,w12,rfl,sN6,kk6,hT6,bt6,ea6⟩;have e0:elN es 0=0:=by
  unfold elN
  cases c:es[0-1]? with
  |none=>rfl
  |some e=>have:=ok.lo 0 e c;show e=0;omega
 have bt6:Bt S6 (nmG nm) (elN (uR es.length 0)) nm.length wt5:=bt6.congr fun j hj=>by rw[jji];exact jot e0 #[]
 have hTD6:TrD d H6 t2 S6 (flD D (nmG nm 0)):=bt6.trd okF hT6;have hWD6:Wgh H6 S6 (flD D (nmG nm 0)) wv2:=hW5.mv bt5 bt6 ok.sub (fun n hn=>hn) rfl kk6;have hA6:=hA4.sn sN6;have hF6:=hF4.sn sN6;have hT6t:=hT4.sn sN6;have hW6:=hW4.sn sN6;clear hA4 hF4 hT4 hW4 sN6 kk6 hT6 bt6 bt5 hW5 hT5 nda5 fr5 ea6 hA5 en5 sN5 el2;have hRr:Rd H6 dr (.dK kr):=.inl hA6.r;have hRw:Rd H6 dw (.dK kw):=.inl hA6.w;left;rename_i k1 hk1 k2 hk2 lh hlh;have s67:=((qa5 hk1 (.dK kr)).trans (qa5 hk2 (.dK kw))).trans (qa5 hlh (.lst [V.ref k1,V.ref k2]));have ek1:upd (upd (upd H6 k1 (.dK kr)) k2 (.dK kw)) lh (.lst [V.ref k1,V.ref k2]) k1=some (.dK kr):=qaa (qaa qa1 hk2) hlh;have ek2:upd (upd (upd H6 k1 (.dK kr)) k2 (.dK kw)) lh (.lst [V.ref k1,V.ref k2]) k2=some (.dK kw):=qaa qa1 hlh;have elh:upd (upd (upd H6 k1 (.dK kr)) k2 (.dK kw)) lh (.lst [V.ref k1,V.ref k2]) lh=some (.lst [V.ref k1,V.ref k2]):=qa1;generalize upd (upd (upd H6 k1 (.dK kr)) k2 (.dK kw)) lh (.lst [V.ref k1,V.ref k2])=H7 at*;have hA7:=hA6.same s67;have hF7:=hF6.same s67;have hTD7:=hTD6.same s67;have hWD7:=hWD6.same s67;have hT7:=hT6t.same s67;have hW7:=hW6.same s67;have hln:∀n∈D.W0,∀h∈D.ln n,h∈nm:=ok.hs;clear hA6 hF6 hTD6 hWD6 hT6t hW6 hRr hRw s67 hk1 hk2 hlh bt6;refine jha (fun σ' H8=>∃(l:Addr)(as:List (Addr×Addr))(lf lv:Str->Rat)(M:Rat)(N:Nat),σ'=[sr a,sr p,sr ln,sr le,sr dg,sr dw,sr dr,sr t,some wv,sr q5,sr t2,some wv2,w12,sr lh,sr l,none]/\jab H7 H8/\H7 l=none/\RdI D [] lf lv M N/\LvB D lv/\jcd H8 D lv D.W0 l as) ?_ ?_
 .left;refine jr8 wvd (fun ez=>?_) ?_
  .subst ez;left;refine jk3 ?_;left;refine⟨t,k1,k2,.non,S,D,nm,kr,kw,rfl,ok.ok,ok.srt,hT7,hW7,ek1,hA7.rA,ok.nd,#[],ek2,hA7.wA,hln,fun l as lf lv M N H8 s8 fl I hB hE=>?_⟩;left;exact⟨l,as,lf,lv,M,N,rfl,s8,fl,I,hB,hE⟩
  .left;refine⟨t,k1,k2,wv,S,D,nm,kr,kw,rfl,ok.ok,ok.srt,hT7,hW7,ek1,hA7.rA,ok.nd,#[],ek2,hA7.wA,hln,fun l as lf lv M N H8 s8 fl I hB hE=>?_⟩;left;exact⟨l,as,lf,lv,M,N,rfl,s8,fl,I,hB,hE⟩
 rintro σ' H8 ⟨l,as,lf,lv,M,N,rfl,s8,fl,I,hB,hE⟩;left;refine⟨p,ln,le,dg,dw,dr,nm,es,kg,kw,kr,D,lv,l,as,rfl,hA7.same s8,ok,rmb,hE,Shs.of ok.ok I hB,fun n hn c=>by obtain⟨x,xs,e,_⟩:=I.stop ok.ok hn c;rw[e];exact List.cons_ne_nil _ _,fun H9 s9b=>?_⟩;have s9:=s8.trans s9b;left;rename_i lp hlp;have s10:=s9.trans (qa5 hlp (.lst [V.ref dr,V.ref dw]));have nlp:lh≠lp:=qa9 (s9 _ _ elh) hlp;have elp:upd H9 lp (.lst [V.ref dr,V.ref dw]) lp=some (.lst [V.ref dr,V.ref dw]):=qa1;have hE10:=(hE.same s9b).same (qa5 hlp (.lst [V.ref dr,V.ref dw]));generalize upd H9 lp (.lst [V.ref dr,V.ref dw])=H10 at*;refine jj1 (n:=2) nlp ∅ (DEq.ls (n:=1) (e:=fun _=>true) (SqL.of (s10 _ _ elh)) (SqL.of elp) nlp rfl (fun j h1 h2=>by
  match j,h1 with
  |0,_=>exact jme (n:=0) (s10 _ _ ek1) (s10 _ _ hA7.r) hA7.rA hA7.rA
  |1,_=>exact jme (n:=0) (s10 _ _ ek2) (s10 _ _ hA7.w) hA7.wA hA7.wA)) ?_
 clear nlp elp hlp hE s9 s8 s9b;have hRr:Rd H10 dr (.dK kr):=.inl (s10 _ _ hA7.r);have hRw:Rd H10 dw (.dK kw):=.inl (s10 _ _ hA7.w);rw[show(!(vG [V.ref k1,V.ref k2].length).all fun _=>true)=false from rfl];left;rename_i r1 hr1 r2 hr2;have s11a:=(qa5 hr1 (.dK kr)).trans (qa5 hr2 (.dK kw));have er1:upd (upd H10 r1 (.dK kr)) r2 (.dK kw) r1=some (.dK kr):=qaa qa1 hr2;have er2:upd (upd H10 r1 (.dK kr)) r2 (.dK kw) r2=some (.dK kw):=qa1;generalize upd (upd H10 r1 (.dK kr)) r2 (.dK kw)=H11 at*;have s11:=s10.trans s11a;refine⟨t2,r1,r2,wv2,S6,flD D (nmG nm 0),nm,kr,kw,rfl,okF.ok,okF.srt,hTD7.same s11,hWD7.same s11,er1,hF7.rA,okF.nd,#[],er2,hF7.wA,okF.hs,fun lF asF lfF lvF MF NF H12 s12 flF IF hBF hEF=>?_⟩;left;refine⟨q5,ln,q4,dg,dw,dr,nm,_,kg,kw,kr,flD D (nmG nm 0),lvF,lF,asF,rfl,hF7.same (s11.trans s12),okF,rmb,hEF,Shs.of okF.ok IF hBF,fun n hn c=>by obtain⟨x,xs,e,_⟩:=IF.stop okF.ok hn c;rw[e];exact List.cons_ne_nil _ _,fun H13 s13a=>?_⟩;have hE13:=hE10.same (s11a.trans (s12.trans s13a));have s13:=s11.trans (s12.trans s13a);clear hRr hRw hEF flF IF hBF s12 s13a s11 s11a er1 er2 hr1 hr2 hE10 s10 hTD7 hWD7 hF7;have el13:=hE13.l;left;refine jnb (SqL.of el13) fun lk hlk=>?_;have hK:jcd (upd H13 lk (.lst (as.map fun p=>V.ref p.1))) D lv D.W0 lk as:=⟨qa1,hE13.n,(hE13.same (qa5 hlk _)).r⟩;have s14:=s13.trans (qa5 hlk (.lst (as.map fun p=>V.ref p.1)));have el14:=qaa (o':=.lst (as.map fun p=>V.ref p.1)) el13 hlk;have nlk:lk≠l:=(qa9 el13 hlk).symm;generalize upd H13 lk (.lst (as.map fun p=>V.ref p.1))=H14 at*;have en14:=s14 _ _ hA7.n;have x0:=xn 0 n0;have z14:(as.map fun p=>V.ref p.1).length<sizeLine:=by
  have:=ok.ok.l8;have:=hE13.n;rw[zA,xC];omega
 clear hE13 el13 s13 hlk;left;refine qc7 (SqL.of en14) x0 ?_;left;have s15:jab H7 (upd H14 l (.lst ((as.map fun p=>V.ref p.1)++[V.str (nmG nm 0)]))):=fun b u e=>by rw[qa4 (qa9 e fl)];exact s14 _ _ e
 have hK15:jcd (upd H14 l (.lst ((as.map fun p=>V.ref p.1)++[V.str (nmG nm 0)]))) D lv D.W0 lk as:=hK.sn (qa4 nlk) fun b u e=>by rw[qa4 (fun z=>by rw[z,el14] at e;cases e)];exact e
 generalize upd H14 l (.lst ((as.map fun p=>V.ref p.1)++[V.str (nmG nm 0)]))=H15 at*;have elh15:=s15 _ _ elh;clear el14 z14 en14 x0 nlk hK s14 fl;left;refine⟨t,k1,k2,wv,S,D,nm,kr,kw,rfl,ok.ok,ok.srt,hT7.same s15,hW7.same s15,s15 _ _ ek1,hA7.rA,ok.nd,#[],s15 _ _ ek2,hA7.wA,hln,fun l3 as3 lf3 lv3 M3 N3 H16 s16a fl3 I3 hB3 hE3=>?_⟩;have n3:l3≠lk:=(qa9 hK15.l fl3).symm;have hK16:=hK15.same s16a;have s16:=s15.trans s16a;left;refine jj1 (n:=3) n3 ∅ (jmf hE3 hK16 (Fa.uniq ok.ok (Fa.ofR ok.ok I3 hB3) (Fa.ofR ok.ok I hB)) n3) ?_;clear hK15 s16a fl3 hE3 I3 hB3 n3 s15 elh15;have hRr:Rd H16 dr (.dK kr):=.inl (s16 _ _ hA7.r);left;rename_i r1 hr1 r2 hr2;have s17a:=(qa5 hr1 (.dK kr)).trans (qa5 hr2 (.dK []));have er1:upd (upd H16 r1 (.dK kr)) r2 (.dK []) r1=some (.dK kr):=qaa qa1 hr2;have er2:upd (upd H16 r1 (.dK kr)) r2 (.dK []) r2=some (.dK []):=qa1;generalize upd (upd H16 r1 (.dK kr)) r2 (.dK [])=H17 at*;have s17:=s16.trans s17a;have hK17:=hK16.same s17a;have no:∀{P:Str->Prop},∀n∈([]:List Str),P n:=fun n hn=>by cases hn
 refine⟨t,r1,r2,wv,S,nlD D,nm,kr,[],rfl,jsb D,rfl,⟨hT7.tr.same s17,no⟩,jul (hW7.same s17),er1,hA7.rA,ok.nd,#[],er2,AD.nil.cast fun z=>(gT (by simp[nlD])).symm,no,fun l4 as4 _ _ _ _ H18 s18a fl4 _ _ hE4=>?_⟩;have e4:as4=[]:=List.length_eq_zero_iff.mp hE4.n;subst e4;have el4:=hE4.l;have s18:=s17.trans s18a;have hK18:=hK17.same s18a;clear hE4 hK17 hK16 s17 s17a s18a s16 hRr er1 er2 hr1 hr2 fl4;left;rename_i l5 hl5;have n5:l4≠l5:=qa9 el4 hl5;have s19:=s18.trans (qa5 hl5 (.lst []));have hK19:=hK18.same (qa5 hl5 (.lst []));refine jj1 (n:=1) n5 ∅ (jka (n:=0) (SqL.of (qaa el4 hl5)) (SqL.of qa1) n5) ?_;generalize upd H18 l5 (.lst [])=H19 at*;clear s18 hK18 el4 hl5 n5;rw[show(!decide ((List.map (fun p:Addr×Addr=>V.ref p.1) [])=[]))=false by simp];left;refine⟨dr,kr,_,rfl,s19 _ _ hA7.r,hA7.rA,by rw[<-hA7.rA.klen];exact jo1 hA7.rA ok.nd l7,fun g1 j1 H20 s20a fg1 eg1 aj1=>?_⟩;left;have s20:=s19.trans s20a;refine⟨dw,kw,_,rfl,s20 _ _ hA7.w,hA7.wA,by rw[<-hA7.wA.klen];exact jo1 hA7.wA ok.ok.nd ok.ok.l8,fun g2 j2 H21 s21a fg2 eg2 aj2=>?_⟩;left;have s21:=s20.trans s21a;refine⟨t,g1,g2,wv,S,D,nm,j1,j2,rfl,ok.ok,ok.srt,hT7.same s21,hW7.same s21,s21a _ _ eg1,aj1,ok.nd,#[],eg2,aj2,hln,fun l6 as6 lf6 lv6 M6 N6 H22 s22 fl6 I6 hB6 hE6=>?_⟩;have hK21:=(hK19.same s20a).same s21a;have n6:l6≠lk:=(qa9 hK21.l fl6).symm;have hK22:=hK21.same s22;left;refine jne (n:=3) n6 ∅ (jmf hE6 hK22 (Fa.uniq ok.ok (Fa.ofR ok.ok I6 hB6) (Fa.ofR ok.ok I hB)) n6) ?_;exact q _
structure Fz(K:uT)(n:Str)(s:Stmt)(f:Addr)(fd:uL):Prop where
 a:xU K uS n=some (some (.ref f))
 F:Fun K n n s f fd
structure Fm(K:uT)(c:Addr)(n q:Str)(s:Stmt)(f:Addr)(fd:uL):Prop where
 a:vW K (.ref c) n=some (some (.ref f))
 F:Fun K n q s f fd
def Fz.m{K:uT}{n:Str}{s:Stmt}{f:Addr}{fd:uL}{h:vQ}{mg:Str->Option uB}(g:Fz K n s f fd)(X:K.In h)(G:h.Ns uS mg):mg n=some (.ref f):=vN X G g.a
theorem ln0(h:p [])(us:List uB)(e:us.length=0):p us:=by
 cases us
 .exact h
 cases e
theorem ln1(h:∀x0:uB,p [x0])(us:List uB)(e:us.length=1):p us:=by
 cases us
 .cases e
 exact ln0 (p:=fun l=>p (_::l)) (h _) _ (bI e)
theorem ln2(h:∀x0 x1:uB,p [x0,x1])(us:List uB)(e:us.length=2):p us:=by
 cases us
 .cases e
 exact ln1 (p:=fun l=>p (_::l)) (h _) _ (bI e)
theorem ln3(h:∀x0 x1 x2:uB,p [x0,x1,x2])(us:List uB)(e:us.length=3):p us:=by
 cases us
 .cases e
 exact ln2 (p:=fun l=>p (_::l)) (h _) _ (bI e)
theorem ln4(h:∀x0 x1 x2 x3:uB,p [x0,x1,x2,x3])(us:List uB)(e:us.length=4):p us:=by
 cases us
 .cases e
 exact ln3 (p:=fun l=>p (_::l)) (h _) _ (bI e)
theorem ln5(h:∀x0 x1 x2 x3 x4:uB,p [x0,x1,x2,x3,x4])(us:List uB)(e:us.length=5):p us:=by
 cases us
 .cases e
 exact ln4 (p:=fun l=>p (_::l)) (h _) _ (bI e)
theorem ln6(h:∀x0 x1 x2 x3 x4 x5:uB,p [x0,x1,x2,x3,x4,x5])(us:List uB)(e:us.length=6):p us:=by
 cases us
 .cases e
 exact ln5 (p:=fun l=>p (_::l)) (h _) _ (bI e)
theorem ln7(h:∀x0 x1 x2 x3 x4 x5 x6:uB,p [x0,x1,x2,x3,x4,x5,x6])(us:List uB)(e:us.length=7):p us:=by
 cases us
 .cases e
 exact ln6 (p:=fun l=>p (_::l)) (h _) _ (bI e)
theorem txt_mk{K:uT}{h:vQ}{mg:Str->Option uB}{fa:Addr}{f_z0 f_z1 f_z2 f_z3 f_z4 f_z5 f_z6 f_z7 f_z8 f_z9 f_z10 f_z11 f_z12 f_z13 f_z14 f_z15 f_z16 f_z17 f_z18 f_z19 f_z20 f_z21 f_z22 f_z23 f_z24 f_z25 f_z26 f_z27 f_z28 f_z29 f_z30 f_z31 f_z32 f_z33 f_z34 f_z35 f_z36 f_z37 f_z38 f_z39 f_z40 f_z41 f_z42 f_z43 f_z44 f_z45 f_z46 wcz f_z48 f_z49 f_z50 f_z51 f_z52 f_z53 f_z54 f_z55 f_z56 f_z57 f_z58 f_z59 f_z60 f_z61 f_z62 f_z63 f_z64 f_z65 f_z66 f_z67 f_z68 f_z69 f_z70 f_z71 f_z72 f_z73 w06 w01 w00 w05 w4e w5r w7n w0o w5s w1x w5u w33 w35 w42 w49:Addr}{d_z0 d_z1 d_z2 d_z3 d_z4 d_z5 d_z6 d_z7 d_z8 d_z9 d_z10 d_z11 d_z12 d_z13 d_z14 d_z15 d_z16 d_z17 d_z18 d_z19 d_z20 d_z22 d_z23 d_z24 d_z25 d_z26 d_z27 d_z28 d_z29 d_z30 d_z31 d_z32 d_z33 d_z34 d_z35 d_z36 d_z37 d_z38 d_z39 d_z40 d_z41 d_z42 d_z43 d_z44 d_z45 d_z46 d_law d_z48 d_z51 d_z52 d_z53 d_z54 d_z55 d_z56 d_z57 d_z58 d_z59 d_z60 d_z61 d_z62 d_z63 d_z64 d_z65 d_z66 d_z67 d_z68 d_z69 d_z70 d_z71 d_z72 d_z73:uL}(X:K.In h)(G:h.Ns uS mg)(hfa:mg "law"=some (.ref fa))
  (g_z0:Fz K "is_whole" jbl f_z0 d_z0)
  (g_z1:Fz K "is_name" jb4 f_z1 d_z1)
  (g_z2:Fz K "is_whole_from" jap f_z2 d_z2)
  (g_z3:Fz K "is_amount" ja9 f_z3 d_z3)
  (g_z4:Fz K "amounts_of" ja2 f_z4 d_z4)
  (g_z5:Fz K "above_nought" jav f_z5 d_z5)
  (g_z6:Fz K "amount_of" jba f_z6 d_z6)
  (g_z7:Fz K "added" jea f_z7 d_z7)
  (g_z8:Fz K "beyond" jcf f_z8 d_z8)
  (g_z9:Fz K "total_of" jbm f_z9 d_z9)
  (g_z10:Fz K "divisor" jb5 f_z10 d_z10)
  (g_z11:Fz K "fraction" jbn f_z11 d_z11)
  (g_z12:Fz K "plus" jih f_z12 d_z12)
  (g_z13:Fz K "minus" jeb f_z13 d_z13)
  (g_z14:Fz K "times" jec f_z14 d_z14)
  (g_z15:Fz K "divided" jb6 f_z15 d_z15)
  (g_z16:Fz K "below" jed f_z16 d_z16)
  (g_z17:Fz K "weights_of" ja3 f_z17 d_z17)
  (g_z18:Fz K "loads_of" jbo f_z18 d_z18)
  (g_z19:Fz K "least_of" jbp f_z19 d_z19)
  (g_z20:Fz K "rounds_by" jbb f_z20 d_z20)
  {od_z21 an_z21:Option Addr}{sl_z21:Array (Option uB)}{oc_z21 kV_z21 dc_z21 pm_z21 cd_z21 ct_z21 w5l:uB}{t_z21:Addr}
  (a_z21:xU K uS "even"=some (some (.ref f_z21)))(l_z21:K.lookup f_z21=some ⟨oc_z21,od_z21,.func (eP "even" "even" (qc5 jcc) (qbu jcc) (qa8 jcc) (.ref t_z21) kV_z21 dc_z21 pm_z21 an_z21 cd_z21 ct_z21),sl_z21⟩)(c_z21:dO K cd_z21 "even"=true)(k_z21:cM K (.ref f_z21)=true)
  {ob_z21:Obj}{nn_z21:Nat}(tt_z21:K.lookup t_z21=some ob_z21)(td_z21:ob_z21.data=.seq (List.toArray [w5l]) nn_z21)(rd_z21:qbk [.non] [w5l])
  (g_z22:Fz K "are_wares" jbc f_z22 d_z22)
  (g_z23:Fz K "check_name" ja4 f_z23 d_z23)
  (g_z24:Fz K "read_house" ja5 f_z24 d_z24)
  (g_z25:Fz K "check_promises" jal f_z25 d_z25)
  (g_z26:Fz K "_law_cell_at" jb7 f_z26 d_z26)
  (g_z27:Fz K "_law_mixed" jee f_z27 d_z27)
  (g_z28:Fz K "_law_name" jii f_z28 d_z28)
  (g_z29:Fz K "_law_whole" jef f_z29 d_z29)
  (g_z30:Fz K "_law_want" jij f_z30 d_z30)
  (g_z31:Fz K "_law_room" jik f_z31 d_z31)
  (g_z32:Fz K "_law_sharing" jb8 f_z32 d_z32)
  (g_z33:Fz K "_law_tree" jil f_z33 d_z33)
  (g_z34:Fz K "_law_line" jim f_z34 d_z34)
  (g_z35:Fz K "_law_inside" jcg f_z35 d_z35)
  (g_z36:Fz K "_law_together" jbq f_z36 d_z36)
  (g_z37:Fz K "_law_less" jin f_z37 d_z37)
  (g_z38:Fz K "_law_weigher" ja6 f_z38 d_z38)
  (g_z39:Fz K "_law_asked" jeg f_z39 d_z39)
  (g_z40:Fz K "_law_divisor" jbd f_z40 d_z40)
  (g_z41:Fz K "_law_is_fraction" ja0 f_z41 d_z41)
  (g_z42:Fz K "_law_is_dealt" jbr f_z42 d_z42)
  (g_z43:Fz K "_law_ends" jio f_z43 d_z43)
  (g_z44:Fz K "_law_paper" jeh f_z44 d_z44)
  (g_z45:Fz K "_law_laid" jip f_z45 d_z45)
  (g_z46:Fz K "_law_papers" jch f_z46 d_z46)
  (g_law:Fz K "law" jnu wcz d_law)
  (g_z48:Fm K w06 "__init__" "House.__init__" ja7 f_z48 d_z48)
  {od_z49 an_z49:Option Addr}{sl_z49:Array (Option uB)}{oc_z49 kV_z49 dc_z49 pm_z49 cd_z49 ct_z49 w16:uB}{t_z49:Addr}
  (a_z49:vW K (.ref w01) "__init__"=some (some (.ref f_z49)))(l_z49:K.lookup f_z49=some ⟨oc_z49,od_z49,.func (eP "__init__" "Tree.__init__" (qc5 jai) (qbu jai) (qa8 jai) (.ref t_z49) kV_z49 dc_z49 pm_z49 an_z49 cd_z49 ct_z49),sl_z49⟩)(c_z49:dO K cd_z49 "Tree.__init__"=true)(k_z49:cM K (.ref f_z49)=true)
  {ob_z49:Obj}{nn_z49:Nat}(tt_z49:K.lookup t_z49=some ob_z49)(td_z49:ob_z49.data=.seq (List.toArray [w16]) nn_z49)(rd_z49:qbk [.int 1] [w16])
  {od_z50 an_z50:Option Addr}{sl_z50:Array (Option uB)}{oc_z50 kV_z50 dc_z50 pm_z50 cd_z50 ct_z50 w0t:uB}{t_z50:Addr}
  (a_z50:vW K (.ref w01) "found"=some (some (.ref f_z50)))(l_z50:K.lookup f_z50=some ⟨oc_z50,od_z50,.func (eP "found" "Tree.found" (qc5 jag) (qbu jag) (qa8 jag) (.ref t_z50) kV_z50 dc_z50 pm_z50 an_z50 cd_z50 ct_z50),sl_z50⟩)(c_z50:dO K cd_z50 "Tree.found"=true)(k_z50:cM K (.ref f_z50)=true)
  {ob_z50:Obj}{nn_z50:Nat}(tt_z50:K.lookup t_z50=some ob_z50)(td_z50:ob_z50.data=.seq (List.toArray [w0t]) nn_z50)(rd_z50:qbk [.int 1] [w0t])
  (g_z51:Fm K w01 "wares" "Tree.wares" jbw f_z51 d_z51)
  (g_z52:Fm K w01 "names" "Tree.names" jbx f_z52 d_z52)
  (g_z53:Fm K w01 "has" "Tree.has" jbs f_z53 d_z53)
  (g_z54:Fm K w01 "check_house" "Tree.check_house" jah f_z54 d_z54)
  (g_z55:Fm K w01 "house_of" "Tree.house_of" jaq f_z55 d_z55)
  (g_z56:Fm K w01 "elder_of" "Tree.elder_of" jar f_z56 d_z56)
  (g_z57:Fm K w01 "weight_of" "Tree.weight_of" jam f_z57 d_z57)
  (g_z58:Fm K w01 "kids" "Tree.kids" jbe f_z58 d_z58)
  (g_z59:Fm K w01 "line" "Tree.line" jbf f_z59 d_z59)
  (g_z60:Fm K w01 "beneath" "Tree.beneath" jaw f_z60 d_z60)
  (g_z61:Fm K w01 "promised_beneath" "Tree.promised_beneath" jae f_z61 d_z61)
  (g_z62:Fm K w01 "floors" "Tree.floors" ja1 f_z62 d_z62)
  (g_z63:Fm K w01 "check_more" "Tree.check_more" jaj f_z63 d_z63)
  (g_z64:Fm K w01 "check_move" "Tree.check_move" jak f_z64 d_z64)
  (g_z65:Fm K w01 "move" "Tree.move" jbg f_z65 d_z65)
  (g_z66:Fm K w00 "__init__" "Dealing.__init__" jax f_z66 d_z66)
  (g_z67:Fm K w00 "fills" "Dealing.fills" jas f_z67 d_z67)
  (g_z68:Fm K w00 "ready" "Dealing.ready" jat f_z68 d_z68)
  (g_z69:Fm K w00 "settle" "Dealing.settle" jan f_z69 d_z69)
  (g_z70:Fm K w00 "next_round" "Dealing.next_round" jaf f_z70 d_z70)
  (g_z71:Fm K w05 "__init__" "Sums.__init__" jbh f_z71 d_z71)
  (g_z72:Fm K w05 "stops_of" "Sums.stops_of" jau f_z72 d_z72)
  (g_z73:Fm K w1x "__init__" "NoPromise.__init__" jbi f_z73 d_z73)
  (qi_z73:jhm K w1x f_z73=true)(hi_z73:isFn K (.ref f_z73)=true)
  (a_House:xU K uS "House"=some (some (.ref w06)))
  (a_Tree:xU K uS "Tree"=some (some (.ref w01)))
  (a_Dealing:xU K uS "Dealing"=some (some (.ref w00)))
  (a_Sums:xU K uS "Sums"=some (some (.ref w05)))
  (a_TreeError:xU K uS "TreeError"=some (some (.ref w4e)))
  (a_NoName:xU K uS "NoName"=some (some (.ref w5r)))
  (a_Taken:xU K uS "Taken"=some (some (.ref w7n)))
  (a_NoHouse:xU K uS "NoHouse"=some (some (.ref w0o)))
  (a_NoMove:xU K uS "NoMove"=some (some (.ref w5s)))
  (a_NoPromise:xU K uS "NoPromise"=some (some (.ref w1x)))
  (a_NoWare:xU K uS "NoWare"=some (some (.ref w5u)))
  (a_NoAmount:xU K uS "NoAmount"=some (some (.ref w33)))
  (a_NoNumber:xU K uS "NoNumber"=some (some (.ref w35)))
  (a_TooMany:xU K uS "TooMany"=some (some (.ref w42)))
  (a_TooDeep:xU K uS "TooDeep"=some (some (.ref w49)))
  {w47:uB}(a_LETTERS:xU K uS "LETTERS"=some (some w47))(w52:qb6 (.str "abcdefghijklmnopqrstuvwxyz") w47)
  {w1e:uB}(a_LONGEST_NAME:xU K uS "LONGEST_NAME"=some (some w1e))(w1o:qb6 (.int 8) w1e)
  {w1y:uB}(a_MOST_WARES:xU K uS "MOST_WARES"=some (some w1y))(w2j:qb6 (.int 6) w1y)
  {w1k:uB}(a_MOST_HOUSES:xU K uS "MOST_HOUSES"=some (some w1k))(w28:qb6 (.int 40) w1k)
  {w1c:uB}(a_LONGEST_LINE:xU K uS "LONGEST_LINE"=some (some w1c))(w1f:qb6 (.int 12) w1c)
  {w0m:uB}(a_GREATEST_WEIGHT:xU K uS "GREATEST_WEIGHT"=some (some w0m))(w14:qb6 (.int 1000) w0m)
  (q_NoHouse:eG K w0o [.type "ValueError",.type "Exception",.type "BaseException",.type "object"] "ValueError.__new__"=true)
  (q_NoAmount:eG K w33 [.type "ValueError",.type "Exception",.type "BaseException",.type "object"] "ValueError.__new__"=true)
  (q_NoWare:eG K w5u [.type "ValueError",.type "Exception",.type "BaseException",.type "object"] "ValueError.__new__"=true)
  (q_NoName:eG K w5r [.type "ValueError",.type "Exception",.type "BaseException",.type "object"] "ValueError.__new__"=true)
  (q_NoNumber:eG K w35 [.type "ValueError",.type "Exception",.type "BaseException",.type "object"] "ValueError.__new__"=true)
  (q_Taken:eG K w7n [.type "ValueError",.type "Exception",.type "BaseException",.type "object"] "ValueError.__new__"=true)
  (q_TooMany:eG K w42 [.type "ValueError",.type "Exception",.type "BaseException",.type "object"] "ValueError.__new__"=true)
  (q_TooDeep:eG K w49 [.type "ValueError",.type "Exception",.type "BaseException",.type "object"] "ValueError.__new__"=true)
  (q_NoMove:eG K w5s [.type "ValueError",.type "Exception",.type "BaseException",.type "object"] "ValueError.__new__"=true)
  (w0h:Cls K w00)
  (w5q:Cls K w05)
  (w4a:Mk K w00 f_z66)
  (w8r:Mk K w05 f_z71)
  (w1a:jao K w00 "fills" f_z67)
  (w1b:jao K w00 "ready" f_z68)
  (w0z:jao K w00 "settle" f_z69)
  (w0e:jao K w00 "next_round" f_z70)
  (w19:jao K w05 "stops_of" f_z72)
  (w0f:vW K (.ref w00) "tree"=some none)
  (w0b:vW K (.ref w00) "weights"=some none)
  (w04:vW K (.ref w00) "waiting"=some none)
  (w0p:vW K (.ref w00) "left"=some none)
  (w0j:vW K (.ref w00) "goals"=some none)
  (w21:vW K (.ref w05) "tree"=some none)
  (w1j:vW K (.ref w05) "rooms"=some none)
  (w1g:vW K (.ref w05) "levels"=some none)
  (w1d:vW K (.ref w05) "totals"=some none)
  (w20:vW K (.ref w05) "tops"=some none)
  (w1m:Cls K w06)
  (w02:Cls K w01)
  (w6y:Mk K w06 f_z48)
  (w97:Mk K w01 f_z49)
  (w24:jao K w01 "found" f_z50)
  (w31:jao K w01 "wares" f_z51)
  (w30:jao K w01 "names" f_z52)
  (w2g:jao K w01 "has" f_z53)
  (w09:jao K w01 "check_house" f_z54)
  (w0q:jao K w01 "house_of" f_z55)
  (w0i:jao K w01 "elder_of" f_z56)
  (w13:jao K w01 "weight_of" f_z57)
  (w2m:jao K w01 "kids" f_z58)
  (w08:jao K w01 "line" f_z59)
  (w0n:jao K w01 "beneath" f_z60)
  (w07:jao K w01 "promised_beneath" f_z61)
  (w0g:jao K w01 "check_more" f_z63)
  (w1p:jao K w01 "floors" f_z62)
  (w0s:jao K w01 "check_move" f_z64)
  (w2n:jao K w01 "move" f_z65)
  (w0k:vW K (.ref w06) "elder"=some none)
  (w0d:vW K (.ref w06) "promise"=some none)
  (w15:vW K (.ref w06) "cap"=some none)
  (w0y:vW K (.ref w06) "weight"=some none)
  (w0c:vW K (.ref w01) "sorted_wares"=some none)
  (w03:vW K (.ref w01) "houses"=some none)
  (y_abs:xU K uS "abs"=some none)
  (y_all:xU K uS "all"=some none)
  (y_bool:xU K uS "bool"=some none)
  (y_dict:xU K uS "dict"=some none)
  (y_int:xU K uS "int"=some none)
  (y_isinstance:xU K uS "isinstance"=some none)
  (y_len:xU K uS "len"=some none)
  (y_list:xU K uS "list"=some none)
  (y_max:xU K uS "max"=some none)
  (y_range:xU K uS "range"=some none)
  (y_set:xU K uS "set"=some none)
  (y_sorted:xU K uS "sorted"=some none)
  (y_str:xU K uS "str"=some none)
  (y_tuple:xU K uS "tuple"=some none)
  (y_zip:xU K uS "zip"=some none)
  :∃d:Ad,Tx K mg d/\fa=d.wcz/\∀(s:uC)(v:uB),cZ s d.wbx ⟨[v],[]⟩ [("_law_script",v)]:=by
 have e:=hfa.symm.trans (g_law.m X G)
 cases e
 have Fl:=g_law.F;obtain⟨_,_,_,_,_,_,_,_,_,rfl,_,_⟩:=Fl.ex;have F_z21:=jd7 (st:=jcc) l_z21 c_z21 k_z21 tt_z21 td_z21;have b_z21:qan K _ ["tree","rooms","wants","weigh"] []:=F_z21.binds (ps:=["tree","rooms","wants","weigh"]) fun _ _ _ _ _ _ us hl=>by have e:us.length=4:=(by simpa using hl);clear hl;revert us e;exact ln4 fun _ _ _ _=>by first|exact .inl rfl|exact .inr ⟨_,rfl,rfl⟩
 have b1_z21:qan K _ ["tree","rooms","wants","weigh"] [w5l]:=F_z21.binds (ps:=["tree","rooms","wants","weigh"]) fun _ _ _ _ _ _ us hl=>by have e:us.length=3:=(by simpa using hl);clear hl;revert us e;exact ln3 fun _ _ _=>by first|exact .inl rfl|exact .inr ⟨_,rfl,rfl⟩
 have F_z49:=jd7 (st:=jai) l_z49 c_z49 k_z49 tt_z49 td_z49;have b_z49:qan K _ ["self","wares","name","promise","cap","weight"] []:=F_z49.binds (ps:=["self","wares","name","promise","cap","weight"]) fun _ _ _ _ _ _ us hl=>by have e:us.length=6:=(by simpa using hl);clear hl;revert us e;exact ln6 fun _ _ _ _ _ _=>by first|exact .inl rfl|exact .inr ⟨_,rfl,rfl⟩
 have b1_z49:qan K _ ["self","wares","name","promise","cap","weight"] [w16]:=F_z49.binds (ps:=["self","wares","name","promise","cap","weight"]) fun _ _ _ _ _ _ us hl=>by have e:us.length=5:=(by simpa using hl);clear hl;revert us e;exact ln5 fun _ _ _ _ _=>by first|exact .inl rfl|exact .inr ⟨_,rfl,rfl⟩
 have F_z50:=jd7 (st:=jag) l_z50 c_z50 k_z50 tt_z50 td_z50;have b_z50:qan K _ ["self","name","elder","promise","cap","weight"] []:=F_z50.binds (ps:=["self","name","elder","promise","cap","weight"]) fun _ _ _ _ _ _ us hl=>by have e:us.length=6:=(by simpa using hl);clear hl;revert us e;exact ln6 fun _ _ _ _ _ _=>by first|exact .inl rfl|exact .inr ⟨_,rfl,rfl⟩
 have b1_z50:qan K _ ["self","name","elder","promise","cap","weight"] [w0t]:=F_z50.binds (ps:=["self","name","elder","promise","cap","weight"]) fun _ _ _ _ _ _ us hl=>by have e:us.length=5:=(by simpa using hl);clear hl;revert us e;exact ln5 fun _ _ _ _ _=>by first|exact .inl rfl|exact .inr ⟨_,rfl,rfl⟩
 refine⟨⟨_,_,_,_,_,_,_,_,_,_,_,_,_,_,_,_,_,_,_,_,_,_,_,_,_,_,_,_,_,_,_,_,_,_,_,_,_,_,_,_,_,_,_,_,t_z21,w5l,_,_,_,_,_,_,_,_,_,_,_,_,_,_,_,_,_,_,_,_,_,_,_,_,_,_,_,_,_,_,_,_,_,_,_,_,_,_,_,_,_,_,_,_,_,_,_,_,_,_,_,_,_,_,_,_,t_z49,w16,_,_,t_z50,w0t,_,_,_,_,_,_,_,_,_,_,_,_,_,_,_,_,_,_,_,_,_,_,_,_,_,_,_,_,_,_,_,_,_,_,_,_,_,_,_,_,_,_,_,_,_,_,w06,w01,w00,w05,w4e,w5r,w7n,w0o,w5s,w1x,w5u,w33,w35,w42,w49,w47,w1e,w1y,w1k,w1c,w0m⟩,⟨g_z0.F,g_z0.m X G,g_z0.F.binds fun _ _ _ _ _ _=>ln1 fun _=>rfl,g_z1.F,g_z1.m X G,g_z1.F.binds fun _ _ _ _ _ _=>ln1 fun _=>rfl,g_z2.F,g_z2.m X G,g_z2.F.binds fun _ _ _ _ _ _=>ln3 fun _ _ _=>rfl,g_z3.F,g_z3.m X G,g_z3.F.binds fun _ _ _ _ _ _=>ln1 fun _=>rfl,g_z4.F,g_z4.m X G,g_z4.F.binds fun _ _ _ _ _ _=>ln2 fun _ _=>rfl,g_z5.F,g_z5.m X G,g_z5.F.binds fun _ _ _ _ _ _=>ln1 fun _=>rfl,g_z6.F,g_z6.m X G,g_z6.F.binds fun _ _ _ _ _ _=>ln2 fun _ _=>rfl,g_z7.F,g_z7.m X G,g_z7.F.binds fun _ _ _ _ _ _=>ln2 fun _ _=>rfl,g_z8.F,g_z8.m X G,g_z8.F.binds fun _ _ _ _ _ _=>ln2 fun _ _=>rfl,g_z9.F,g_z9.m X G,g_z9.F.binds fun _ _ _ _ _ _=>ln1 fun _=>rfl,g_z10.F,g_z10.m X G,g_z10.F.binds fun _ _ _ _ _ _=>ln2 fun _ _=>rfl,g_z11.F,g_z11.m X G,g_z11.F.binds fun _ _ _ _ _ _=>ln2 fun _ _=>rfl,g_z12.F,g_z12.m X G,g_z12.F.binds fun _ _ _ _ _ _=>ln2 fun _ _=>rfl,g_z13.F,g_z13.m X G,g_z13.F.binds fun _ _ _ _ _ _=>ln2 fun _ _=>rfl,g_z14.F,g_z14.m X G,g_z14.F.binds fun _ _ _ _ _ _=>ln2 fun _ _=>rfl,g_z15.F,g_z15.m X G,g_z15.F.binds fun _ _ _ _ _ _=>ln2 fun _ _=>rfl,g_z16.F,g_z16.m X G,g_z16.F.binds fun _ _ _ _ _ _=>ln2 fun _ _=>rfl,g_z17.F,g_z17.m X G,g_z17.F.binds fun _ _ _ _ _ _=>ln3 fun _ _ _=>rfl,g_z18.F,g_z18.m X G,g_z18.F.binds fun _ _ _ _ _ _=>ln3 fun _ _ _=>rfl,g_z19.F,g_z19.m X G,g_z19.F.binds fun _ _ _ _ _ _=>ln1 fun _=>rfl,g_z20.F,g_z20.m X G,g_z20.F.binds fun _ _ _ _ _ _=>ln4 fun _ _ _ _=>rfl,F_z21,vN X G a_z21,b_z21,b1_z21,rd_z21,g_z22.F,g_z22.m X G,g_z22.F.binds fun _ _ _ _ _ _=>ln1 fun _=>rfl,g_z23.F,g_z23.m X G,g_z23.F.binds fun _ _ _ _ _ _=>ln1 fun _=>rfl,g_z24.F,g_z24.m X G,g_z24.F.binds fun _ _ _ _ _ _=>ln5 fun _ _ _ _ _=>rfl,g_z25.F,g_z25.m X G,g_z25.F.binds fun _ _ _ _ _ _=>ln3 fun _ _ _=>rfl,g_z26.F,g_z26.m X G,g_z26.F.binds fun _ _ _ _ _ _=>ln2 fun _ _=>rfl,g_z27.F,g_z27.m X G,g_z27.F.binds fun _ _ _ _ _ _=>ln2 fun _ _=>rfl,g_z28.F,g_z28.m X G,g_z28.F.binds fun _ _ _ _ _ _=>ln2 fun _ _=>rfl,g_z29.F,g_z29.m X G,g_z29.F.binds fun _ _ _ _ _ _=>ln1 fun _=>rfl,g_z30.F,g_z30.m X G,g_z30.F.binds fun _ _ _ _ _ _=>ln2 fun _ _=>rfl,g_z31.F,g_z31.m X G,g_z31.F.binds fun _ _ _ _ _ _=>ln2 fun _ _=>rfl,g_z32.F,g_z32.m X G,g_z32.F.binds fun _ _ _ _ _ _=>ln2 fun _ _=>rfl,g_z33.F,g_z33.m X G,g_z33.F.binds fun _ _ _ _ _ _=>ln2 fun _ _=>rfl,g_z34.F,g_z34.m X G,g_z34.F.binds fun _ _ _ _ _ _=>ln2 fun _ _=>rfl,g_z35.F,g_z35.m X G,g_z35.F.binds fun _ _ _ _ _ _=>ln2 fun _ _=>rfl,g_z36.F,g_z36.m X G,g_z36.F.binds fun _ _ _ _ _ _=>ln2 fun _ _=>rfl,g_z37.F,g_z37.m X G,g_z37.F.binds fun _ _ _ _ _ _=>ln2 fun _ _=>rfl,g_z38.F,g_z38.m X G,g_z38.F.binds fun _ _ _ _ _ _=>ln1 fun _=>rfl,g_z39.F,g_z39.m X G,g_z39.F.binds fun _ _ _ _ _ _=>ln2 fun _ _=>rfl,g_z40.F,g_z40.m X G,g_z40.F.binds fun _ _ _ _ _ _=>ln2 fun _ _=>rfl,g_z41.F,g_z41.m X G,g_z41.F.binds fun _ _ _ _ _ _=>ln1 fun _=>rfl,g_z42.F,g_z42.m X G,g_z42.F.binds fun _ _ _ _ _ _=>ln2 fun _ _=>rfl,g_z43.F,g_z43.m X G,g_z43.F.binds fun _ _ _ _ _ _=>ln4 fun _ _ _ _=>rfl,g_z44.F,g_z44.m X G,g_z44.F.binds fun _ _ _ _ _ _=>ln3 fun _ _ _=>rfl,g_z45.F,g_z45.m X G,g_z45.F.binds fun _ _ _ _ _ _=>ln1 fun _=>rfl,g_z46.F,g_z46.m X G,g_z46.F.binds fun _ _ _ _ _ _=>ln2 fun _ _=>rfl,Fl,g_law.m X G,g_z48.F,g_z48.F.binds fun _ _ _ _ _ _=>ln5 fun _ _ _ _ _=>rfl,F_z49,b_z49,b1_z49,rd_z49,F_z50,b_z50,b1_z50,rd_z50,g_z51.F,g_z51.F.binds fun _ _ _ _ _ _=>ln1 fun _=>rfl,g_z52.F,g_z52.F.binds fun _ _ _ _ _ _=>ln1 fun _=>rfl,g_z53.F,g_z53.F.binds fun _ _ _ _ _ _=>ln2 fun _ _=>rfl,g_z54.F,g_z54.F.binds fun _ _ _ _ _ _=>ln2 fun _ _=>rfl,g_z55.F,g_z55.F.binds fun _ _ _ _ _ _=>ln2 fun _ _=>rfl,g_z56.F,g_z56.F.binds fun _ _ _ _ _ _=>ln2 fun _ _=>rfl,g_z57.F,g_z57.F.binds fun _ _ _ _ _ _=>ln2 fun _ _=>rfl,g_z58.F,g_z58.F.binds fun _ _ _ _ _ _=>ln2 fun _ _=>rfl,g_z59.F,g_z59.F.binds fun _ _ _ _ _ _=>ln2 fun _ _=>rfl,g_z60.F,g_z60.F.binds fun _ _ _ _ _ _=>ln2 fun _ _=>rfl,g_z61.F,g_z61.F.binds fun _ _ _ _ _ _=>ln2 fun _ _=>rfl,g_z62.F,g_z62.F.binds fun _ _ _ _ _ _=>ln2 fun _ _=>rfl,g_z63.F,g_z63.F.binds fun _ _ _ _ _ _=>ln3 fun _ _ _=>rfl,g_z64.F,g_z64.F.binds fun _ _ _ _ _ _=>ln3 fun _ _ _=>rfl,g_z65.F,g_z65.F.binds fun _ _ _ _ _ _=>ln3 fun _ _ _=>rfl,g_z66.F,g_z66.F.binds fun _ _ _ _ _ _=>ln5 fun _ _ _ _ _=>rfl,g_z67.F,g_z67.F.binds fun _ _ _ _ _ _=>ln1 fun _=>rfl,g_z68.F,g_z68.F.binds fun _ _ _ _ _ _=>ln3 fun _ _ _=>rfl,g_z69.F,g_z69.F.binds fun _ _ _ _ _ _=>ln3 fun _ _ _=>rfl,g_z70.F,g_z70.F.binds fun _ _ _ _ _ _=>ln1 fun _=>rfl,g_z71.F,g_z71.F.binds fun _ _ _ _ _ _=>ln5 fun _ _ _ _ _=>rfl,g_z72.F,g_z72.F.binds fun _ _ _ _ _ _=>ln2 fun _ _=>rfl,g_z73.F,jnd qi_z73 hi_z73,g_z73.F.binds fun _ _ _ _ _ _=>ln3 fun _ _ _=>rfl,vN X G a_House,vN X G a_Tree,vN X G a_Dealing,vN X G a_Sums,vN X G a_TreeError,vN X G a_NoName,vN X G a_Taken,vN X G a_NoHouse,vN X G a_NoMove,vN X G a_NoPromise,vN X G a_NoWare,vN X G a_NoAmount,vN X G a_NoNumber,vN X G a_TooMany,vN X G a_TooDeep,vN X G a_LETTERS,w52,vN X G a_LONGEST_NAME,w1o,vN X G a_MOST_WARES,w2j,vN X G a_MOST_HOUSES,w28,vN X G a_LONGEST_LINE,w1f,vN X G a_GREATEST_WEIGHT,w14,vU X G y_abs,vU X G y_all,vU X G y_bool,vU X G y_dict,vU X G y_int,vU X G y_isinstance,vU X G y_len,vU X G y_list,vU X G y_max,vU X G y_range,vU X G y_set,vU X G y_sorted,vU X G y_str,vU X G y_tuple,vU X G y_zip,w0h,w5q,w4a,w8r,w1a,w1b,w0z,w0e,w19,w0f,w0b,w04,w0p,w0j,w21,w1j,w1g,w1d,w20,w1m,w02,w6y,w97,w24,w31,w30,w2g,w09,w0q,w0i,w13,w2m,w08,w0n,w07,w0g,w1p,w0s,w2n,w0k,w0d,w15,w0y,w0c,w03,qd5 q_NoHouse,qd5 q_NoAmount,qd5 q_NoWare,qd5 q_NoName,qd5 q_NoNumber,qd5 q_Taken,qd5 q_TooMany,qd5 q_TooDeep,qd5 q_NoMove⟩,rfl,fun s v=> .of_eq rfl⟩
theorem walk{l:PySem.W.OpenLaw}{q:uW}{loose:List Str}{XP:(Str->Option uB)->vQ->Prop}{YP:vL->vQ->Prop}{e:DefRec}{K:Params->uT}(hn:l.most=some 63)(hdf:e.params.defaults=[])(hlaw:e.name= "law")
  (hY:∀(w:vL)(h:vQ),YP w h->(K w.params).In h){dy:DefRec}(hrec:(PyProof.Rows.recsOf q).find? (fun e=>e.name==("_law_weigher":Str))=some dy)(tab:∀w:vL,∃c p,tabIn (K w.params) "_law_weigher"=some (c,p)/\(K w.params).lookup p=none)
  (F:∀(w:vL)(mg:Str->Option uB)(fa:Addr)(h:vQ),(K w.params).In h->h.Ns uS mg->mg "law"=some (.ref fa)->∃d:Ad,Tx (K w.params) mg d/\fa=d.wcz/\∀(s:uC)(v:uB),cZ s d.wbx ⟨[v],[]⟩ [("_law_script",v)]):
  PySem.W.WalkO q loose XP YP l.row.toRowW e [] (fun f vs=>PySem.call f vs):=by
 refine jkd (n:=63) (k:=26) (x:="_law_script") (y:="_law_weigher") (CX:=fun _=>CX0) (sp:=fun w _ p=>jjj (K w.params) p) hn ∅ hdf ⟨rfl,∅,∅⟩ hY hrec tab (fun w mg fa h c p KX G hm ht=>?_) (fun _ _ _ _ a ns hl hp hS=>⟨a,ns,rfl,hS,hl,hp,fun _=>rfl⟩) fun _ _ _ _ _ z=>z;rw[hlaw] at hm;obtain⟨d,T,rfl,hb⟩:=F w mg fa h KX G hm;exact⟨d.wbx,hb,fun base kin hns C bm=>(jsc (P:=l.prog) (w:=w) (base:=base) T (wdr T.wb0 T.wbi kin hns ht C bm)).imp fun vs H Q E q=>q⟩
end Our
namespace PySem.W.Fast
def tw15982584772034497730:=Nat
def tw10071902283398830453:=Nat
def tw17812938828270949647:=Nat
def tw7190358894323684321:=Nat
def tw6938522175522810992:=Nat
def tw570365206058984996:=Nat
def tw1876959583184599498:=Nat
def tw869012205070254944:=Nat
def tw12292170291377975002:=Nat
def tw1328548560791284531:=Nat
def tw1996288814132669274:=Nat
def tw15232327620363873019:=Nat
def tw17067416861151048836:=Nat
def tw3125507583980933565:=Nat
def tw3674814189448437180:=Nat
def tw10912006947941110003:=Nat
def tw15685555248829845530:=Nat
def tw4500054775412374867:=Nat
def tw11339635523329376938:=Nat
def tw15187653063162389435:=Nat
def tw17530691911829099402:=Nat
def tw16254467508144187713:=Nat
def tw9807768715508634305:=Nat
def tw11677277383354659041:=Nat
def tw8097624457723049508:=Nat
def tw16255818793270178603:=Nat
def tw17087938229882994814:=Nat
def tw13440294094229988972:=Nat
def tw5594848201394846930:=Nat
def tw15636046022287198445:=Nat
def tw3387622070336257722:=Nat
def tw14088368474530924433:=Nat
def tw9110770007870194460:=Nat
def tw3815991502353378091:=Nat
def tw7148854840596252300:=Nat
def tw7213770420059174698:=Nat
def tw4802932141553479018:=Nat
def tw1477777348336321023:=Nat
def tw14012203443582949975:=Nat
def tw12219844407507646036:=Nat
def tw4707885608874051213:=Nat
def tw14592440686727320109:=Nat
def tw13502348101641582085:=Nat
def tw9775498395409056995:=Nat
def tw15214274380369971940:=Nat
def tw5220057362903504701:=Nat
def tw10998006003522099942:=Nat
def tw17382060839133148289:=Nat
def tw1905041248331131155:=Nat
def tw16987370208670539793:=Nat
def tw12052690700578572414:=Nat
def tw13834088482078697113:=Nat
def tw2091381981758763035:=Nat
def tw12509196299140281000:=Nat
def tw17266190080284957012:=Nat
def tw6228260933896493473:=Nat
def tw10198107694779979576:=Nat
def tw13685117707429029740:=Nat
def tw9983606664975756164:=Nat
def tw2923220226582627029:=Nat
def tw8799140238613126580:=Nat
def tw4289894327965758496:=Nat
def tw1030278340279752661:=Nat
def tw8604446528507884014:=Nat
def tw1372472590281269475:=Nat
def tw8019804519120371748:=Nat
def tw2760757627551371305:=Nat
def tw2473039252505350422:=Nat
def tw870203013887419821:=Nat
def tw16089311301068475748:=Nat
def tw4758702666593762443:=Nat
def tw5065065033046540401:=Nat
def tw7529177476226583245:=Nat
def tw5154064609685777184:=Nat
def tw16276204192258482255:=Nat
def tw9857085027939069012:=Nat
def tw3370597579492453474:=Nat
def tw275883832628952802:=Nat
def tw5667522101481001199:=Nat
def tw13628073647334246090:=Nat
def tw303154608306246521:=Nat
def tw12477612035456381549:=Nat
def tw8021949363117474485:=Nat
def tw11572101298703502703:=Nat
def tw15556600125324431859:=Nat
def tw4568685509874238094:=Nat
def tw14348633499254242020:=Nat
def tw8014080262924857463:=Nat
def tw13426050786355081316:=Nat
def tw6926822720430679161:=Nat
def tw564795360196014863:=Nat
def tw1539564710234633535:=Nat
def tw14599159517925189310:=Nat
def tw12492457582318967923:=Nat
def tw9345281148643753675:=Nat
def tw1460937571155922038:=Nat
def tw16736611430118048782:=Nat
def tw4103914965850588154:=Nat
def tw510773535482605655:=Nat
def tw4977251161685646170:=Nat
def tw2830751845589339542:=Nat
def tw5664999245905956423:=Nat
def tw2772076398369723864:=Nat
def tw3464596481052631030:=Nat
def tw9350435244756041259:=Nat
def tw14777293500317241982:=Nat
def tw656290613851594217:=Nat
def tw7899423975693420820:=Nat
def tw5554667706251807496:=Nat
def tw8955806880066164570:=Nat
def tw4140674733273020975:=Nat
def tw5261601325820718908:=Nat
def tw13691385619739865993:=Nat
def tw871011594638415900:=Nat
def tw5701013051665629217:=Nat
def tw16017498906436525092:=Nat
def tw14821690931801831805:=Nat
def tw15337538942610764096:=Nat
def tw13769945160025521443:=Nat
def tw6610216023325748002:=Nat
def tw8544442234902785060:=Nat
def tw10877953897913190163:=Nat
def tw16189379961427188610:=Nat
def tw8600820086332866088:=Nat
def tw16253478769136309488:=Nat
def tw6860164314009449677:=Nat
def tw18062219986818755194:=Nat
def tw2135645817545541279:=Nat
def tw9575247059104157185:=Nat
def tw6307911089320192768:=Nat
def tw11091491187804684410:=Nat
def tw18123721263581894228:=Nat
def tw1367830613359756320:=Nat
def tw9311934531040374760:=Nat
def tw1612959568838097811:=Nat
def tw11590559930458607253:=Nat
def tw7390302322123253388:=Nat
def tw1116608319043665428:=Nat
def tw14250798423740935955:=Nat
def tw13261677623900660995:=Nat
def tw15306792808901015439:=Nat
def tw355914635861305609:=Nat
def tw11343284361029028410:=Nat
def tw9168422711463832863:=Nat
def tw12336557623790407296:=Nat
def tw14527329714883721791:=Nat
def tw14494017921090799927:=Nat
def tw11933856749608457143:=Nat
def tw14683778917800438610:=Nat
def tw13142331596938957533:=Nat
def tw14763126632036065331:=Nat
def tw12438522845244141077:=Nat
def tw17131817524335974287:=Nat
def tw548377672052746710:=Nat
def tw17207686304567916681:=Nat
def tw6210672090769902051:=Nat
def tw5507420436570435657:=Nat
def tw13470699162919683119:=Nat
def tw10763219739776068212:=Nat
def tw9996715665867247214:=Nat
def tw17210150161540314292:=Nat
def tw428774380169203250:=Nat
def tw17114885509373407244:=Nat
def tw5175667683638899312:=Nat
def tw199830215088147417:=Nat
def tw14740221924950761315:=Nat
def tw16387373304563556715:=Nat
def tw6563646477906768821:=Nat
def tw11482649599541627259:=Nat
def tw10320909049583936253:=Nat
def tw15108859324311093697:=Nat
def tw8051244424932386543:=Nat
def tw11026978746429633949:=Nat
def tw8947848094474454444:=Nat
def tw13956572050814851075:=Nat
def tw8929545800700288683:=Nat
def tw16385398263410430014:=Nat
def tw6973676073351278320:=Nat
def tw11129034950146888086:=Nat
def tw5031825011530303549:=Nat
def tw7206314886959206874:=Nat
def tw11520879093407396751:=Nat
def tw11589971560416622584:=Nat
def tw17234286886461604534:=Nat
def tw9391376906264347549:=Nat
def tw2098383360654462296:=Nat
def tw3164622262272883697:=Nat
def tw1160440988268452010:=Nat
def tw10533071304795872498:=Nat
def tw689780050075675879:=Nat
def tw11725637491747217367:=Nat
def tw4948765090034362924:=Nat
def tw9896244503611286590:=Nat
def tw7006879414123695923:=Nat
def tw1437008979517515754:=Nat
def tw596199733229881391:=Nat
def tw3907765485369507971:=Nat
def tw7472323011631941965:=Nat
def tw4448712979723430269:=Nat
def tw9511109158927544063:=Nat
def tw8292605123352013371:=Nat
def tw4689303089031266810:=Nat
def tw14028294457147877275:=Nat
def tw1116952169047827920:=Nat
def tw12553707592047409525:=Nat
def tw13928760434173166472:=Nat
def tw12151983650284998376:=Nat
def tw5612720469777602265:=Nat
def tw6434602465103066678:=Nat
def tw16401138363950380435:=Nat
def tw5029137077161713738:=Nat
def tw12832373585451586121:=Nat
def tw5615241634761962622:=Nat
def tw2081173404519681724:=Nat
def tw5402991300019975439:=Nat
def tw493863136224273020:=Nat
def tw4795597378646624934:=Nat
def tw15308677499777121926:=Nat
def tw16160752156613753266:=Nat
def tw11841272942232497932:=Nat
def tw10665052360384526529:=Nat
def tw2034446695564325574:=Nat
def tw8951646969647033499:=Nat
def tw1859009087949091940:=Nat
def tw12807198630964194303:=Nat
def tw61430685656742872:=Nat
def tw16452128295320662768:=Nat
def tw2608138382399826863:=Nat
def tw11759194232650021470:=Nat
def tw11488590214853571065:=Nat
def tw1131922677244586975:=Nat
def tw1028691955054987185:=Nat
def tw4859156402902284494:=Nat
def tw5851343704230371882:=Nat
def tw5936199383423956798:=Nat
def tw3411181796521914418:=Nat
def tw8634125260863683873:=Nat
def tw4720502570095720676:=Nat
def tw15200839867882204099:=Nat
def tw14125544127677779082:=Nat
def tw16327949603973643354:=Nat
def tw13138036031561593668:=Nat
def tw6965075622412010873:=Nat
def tw6420706081973142221:=Nat
def tw15611712385521006743:=Nat
def tw18339484414990181695:=Nat
def tw15933667152876409578:=Nat
def tw14548558462899005141:=Nat
def tw6856959236091852234:=Nat
def tw12934966587645867034:=Nat
def tw17547525502313526731:=Nat
def tw8409241213539351934:=Nat
def tw2543872602314205738:=Nat
def tw14452292611355842057:=Nat
def tw17039914543525574022:=Nat
def tw9064792998513895528:=Nat
def tw15513632292467584211:=Nat
def tw10393753980579937933:=Nat
def tw1075232514939364179:=Nat
def tw1762212566325438729:=Nat
def tw8782613174945988064:=Nat
def tw4160062655296808396:=Nat
def tw15804091155144240812:=Nat
def tw4628905449921496076:=Nat
def tw2259085548924045842:=Nat
def tw1481677815110012462:=Nat
def tw13391751056172294158:=Nat
def tw12421848799767267908:=Nat
def tw11104320280979829858:=Nat
def tw10801266695968973495:=Nat
def tw6917497486350221686:=Nat
def tw12059781239787797473:=Nat
def tw11924911065317554576:=Nat
def tw7275653098344839131:=Nat
def tw3337330652366191244:=Nat
def tw5407562641001390364:=Nat
def tw6879826404175802468:=Nat
def tw496916912462243753:=Nat
def tw13331544737120806075:=Nat
def tw8880749169906598369:=Nat
def tw1558797423260904559:=Nat
def tw3719953152945895415:=Nat
def tw5731052706445228805:=Nat
def tw2611340361680476156:=Nat
def tw6070003197954382441:=Nat
def tw16835901482797836640:=Nat
def tw6386536322370445754:=Nat
def tw18000230958681091580:=Nat
def tw13854507806343613795:=Nat
def tw17773142894857225581:=Nat
def tw895871189259364045:=Nat
def tw457368039317580971:=Nat
def tw15622820257873904201:=Nat
def tw11251502510790092592:=Nat
def tw14038115565065517123:=Nat
def tw5561193540873189571:=Nat
def tw955456152302684826:=Nat
def tw6420177035194147410:=Nat
def tw15504354035921553042:=Nat
def tw7312321271961867797:=Nat
def tw16955681545181506114:=Nat
def tw2998324037420941361:=Nat
def tw18085225256224733168:=Nat
def tw16003461778270621552:=Nat
def tw14095964335102994974:=Nat
def tw10714875191465253415:=Nat
def tw16719096250520009397:=Nat
def tw3119895681479634350:=Nat
def tw369054229285503054:=Nat
def tw3298273003379628968:=Nat
def tw3240444462764959704:=Nat
def tw15592627379849724474:=Nat
def tw5441138370265559570:=Nat
def tw5135007051895988243:=Nat
def tw16380885090768015585:=Nat
def tw1266405034345724581:=Nat
def tw17120321723766279239:=Nat
def tw11138966804106601324:=Nat
def tw3001211782285850510:=Nat
def tw14648856355450599559:=Nat
def tw5090776608357729993:=Nat
def tw2701990700010780420:=Nat
def tw11858891737523589912:=Nat
def tw8417561864866303720:=Nat
def tw7156000832932613238:=Nat
def tw4527852840373302262:=Nat
def tw17135436689179179077:=Nat
def tw16568068019030057706:=Nat
def tw16521625834982999572:=Nat
def tw4432314651617973626:=Nat
def tw2096219637813010196:=Nat
def tw17815985269639207615:=Nat
def tw14351305551421910929:=Nat
def tw11060500135407403324:=Nat
def tw11023954933421111752:=Nat
def tw4608406534006114805:=Nat
def tw9353517337149522271:=Nat
def tw16248225071193065491:=Nat
def tw7381264655183752777:=Nat
def tw6594491319117843539:=Nat
def tw4069810364959934611:=Nat
def tw11770553384099371327:=Nat
def tw5967347839817444172:=Nat
def tw6458463356732040294:=Nat
def tw17974541913569079293:=Nat
def tw11494696310519904620:=Nat
def tw10721986118412366796:=Nat
def tw1040386168689363221:=Nat
def tw10764462720575154244:=Nat
def tw15141549760454248207:=Nat
def tw12205814823928597755:=Nat
def tw14991772394229363651:=Nat
def tw9629723486889285970:=Nat
def tw15983830762361320107:=Nat
def tw6888160527304365656:=Nat
def tw13563728692816325624:=Nat
def tw6052783719759865648:=Nat
def tw5238127746084439927:=Nat
def tw15427323568957523066:=Nat
def tw830636168734221887:=Nat
def tw17546226612282983590:=Nat
def tw7981343377181494449:=Nat
def tw5206523348741072320:=Nat
def tw3072141692652431327:=Nat
def tw15898963447797010050:=Nat
def tw15723545343869504591:=Nat
def tw17110846236191551642:=Nat
def tw18320257140068772720:=Nat
def tw10342959512066080153:=Nat
def tw8770280651667232523:=Nat
def tw5805810198857455374:=Nat
def tw500297722248244877:=Nat
def tw4178480125171268980:=Nat
def tw17610100510260418429:=Nat
def tw13758208491933852715:=Nat
def tw12499372625115615072:=Nat
def tw11970640193633023248:=Nat
def tw7560362032991630225:=Nat
def tw17404237515252948346:=Nat
def tw13144372486797886319:=Nat
end PySem.W.Fast
open PySem PySem.W PyProof.Rows
set_option maxRecDepth 100000 in
set_option maxHeartbeats 0 in
theorem PySem.Challenge.cw_quotatree_k55_shares_and_papers_holds : PySem.Challenge.rw_quotatree_k55_shares_and_papers.Holds := by
 w_on;o_law;k_head;(case hw=>w_witness2)
 k_fill
 refine Our.walk (l:=PySem.Challenge.rw_quotatree_k55_shares_and_papers) rfl rfl rfl (fun w h Y=>PySem.W.km_in_of Y) rfl (fun w=>⟨666,662,by kernel_rfl,by kernel_rfl⟩) ?F
 case F=>
  intro w mg fa h KX G hmg;refine' Our.txt_mk KX G hmg ?g_z0 ?g_z1 ?g_z2 ?g_z3 ?g_z4 ?g_z5 ?g_z6 ?g_z7 ?g_z8 ?g_z9 ?g_z10 ?g_z11 ?g_z12 ?g_z13 ?g_z14 ?g_z15 ?g_z16 ?g_z17 ?g_z18 ?g_z19 ?g_z20 ?a_z21 ?l_z21 ?c_z21 ?k_z21 ?tt_z21 ?td_z21 ?rd_z21 ?g_z22 ?g_z23 ?g_z24 ?g_z25 ?g_z26 ?g_z27 ?g_z28 ?g_z29 ?g_z30 ?g_z31 ?g_z32 ?g_z33 ?g_z34 ?g_z35 ?g_z36 ?g_z37 ?g_z38 ?g_z39 ?g_z40 ?g_z41 ?g_z42 ?g_z43 ?g_z44 ?g_z45 ?g_z46 ?g_law ?g_z48 ?a_z49 ?l_z49 ?c_z49 ?k_z49 ?tt_z49 ?td_z49 ?rd_z49 ?a_z50 ?l_z50 ?c_z50 ?k_z50 ?tt_z50 ?td_z50 ?rd_z50 ?g_z51 ?g_z52 ?g_z53 ?g_z54 ?g_z55 ?g_z56 ?g_z57 ?g_z58 ?g_z59 ?g_z60 ?g_z61 ?g_z62 ?g_z63 ?g_z64 ?g_z65 ?g_z66 ?g_z67 ?g_z68 ?g_z69 ?g_z70 ?g_z71 ?g_z72 ?g_z73 ?qi_z73 ?hi_z73 ?a_House ?a_Tree ?a_Dealing ?a_Sums ?a_TreeError ?a_NoName ?a_Taken ?a_NoHouse ?a_NoMove ?a_NoPromise ?a_NoWare ?a_NoAmount ?a_NoNumber ?a_TooMany ?a_TooDeep ?a_LETTERS ?w52 ?a_LONGEST_NAME ?w1o ?a_MOST_WARES ?w2j ?a_MOST_HOUSES ?w28 ?a_LONGEST_LINE ?w1f ?a_GREATEST_WEIGHT ?w14 ?q_NoHouse ?q_NoAmount ?q_NoWare ?q_NoName ?q_NoNumber ?q_Taken ?q_TooMany ?q_TooDeep ?q_NoMove ?w0h ?w5q ?w4a ?w8r ?w1a ?w1b ?w0z ?w0e ?w19 ?w0f ?w0b ?w04 ?w0p ?w0j ?w21 ?w1j ?w1g ?w1d ?w20 ?w1m ?w02 ?w6y ?w97 ?w24 ?w31 ?w30 ?w2g ?w09 ?w0q ?w0i ?w13 ?w2m ?w08 ?w0n ?w07 ?w0g ?w1p ?w0s ?w2n ?w0k ?w0d ?w15 ?w0y ?w0c ?w03 ?y_abs ?y_all ?y_bool ?y_dict ?y_int ?y_isinstance ?y_len ?y_list ?y_max ?y_range ?y_set ?y_sorted ?y_str ?y_tuple ?y_zip
  (case a_House|a_Tree|a_Dealing|a_Sums|a_TreeError|a_NoName|a_Taken|a_NoHouse|a_NoMove|a_NoPromise|a_NoWare|a_NoAmount|a_NoNumber|a_TooMany|a_TooDeep=>k_is)
  all_goals try (refine' ⟨?a,L2.fun_mk ?l ?c ?k⟩;(case a=>k_is);(case l=>k_is);(case c=>k_is);(case k=>k_is))
  (case a_z21=>k_is);(case l_z21=>k_is);(case c_z21=>k_is);(case k_z21=>k_is)
  (case tt_z21=>k_is);(case td_z21=>first|rfl|k_is);(case rd_z21=>first|exact .cons ⟨_,rfl⟩ .nil|exact .cons rfl .nil)
  (case a_z49=>k_is);(case l_z49=>k_is);(case c_z49=>k_is);(case k_z49=>k_is)
  (case tt_z49=>k_is);(case td_z49=>first|rfl|k_is);(case rd_z49=>first|exact .cons ⟨_,rfl⟩ .nil|exact .cons rfl .nil)
  (case a_z50=>k_is);(case l_z50=>k_is);(case c_z50=>k_is);(case k_z50=>k_is)
  (case tt_z50=>k_is);(case td_z50=>first|rfl|k_is);(case rd_z50=>first|exact .cons ⟨_,rfl⟩ .nil|exact .cons rfl .nil)
  (case qi_z73=>kernel_rfl);(case hi_z73=>k_is)
  (case a_LETTERS=>k_is)
  (case w52=>exact⟨_,rfl⟩)
  (case a_LONGEST_NAME=>k_is)
  (case w1o=>exact⟨_,rfl⟩)
  (case a_MOST_WARES=>k_is)
  (case w2j=>exact⟨_,rfl⟩)
  (case a_MOST_HOUSES=>k_is)
  (case w28=>exact⟨_,rfl⟩)
  (case a_LONGEST_LINE=>k_is)
  (case w1f=>exact⟨_,rfl⟩)
  (case a_GREATEST_WEIGHT=>k_is)
  (case w14=>exact⟨_,rfl⟩)
  (case q_NoHouse|q_NoAmount|q_NoWare|q_NoName|q_NoNumber|q_Taken|q_TooMany|q_TooDeep|q_NoMove=>k_exc)
  (case w0h=>(constructor<;>first|k_is|kernel_rfl))
  (case w5q=>(constructor<;>first|k_is|kernel_rfl))
  (case w4a=>(constructor<;>first|k_is|kernel_rfl))
  (case w8r=>(constructor<;>first|k_is|kernel_rfl))
  (case w1a=>(constructor<;>first|k_is|kernel_rfl))
  (case w1b=>(constructor<;>first|k_is|kernel_rfl))
  (case w0z=>(constructor<;>first|k_is|kernel_rfl))
  (case w0e=>(constructor<;>first|k_is|kernel_rfl))
  (case w19=>(constructor<;>first|k_is|kernel_rfl))
  (case w0f|w0b|w04|w0p|w0j|w21|w1j|w1g|w1d|w20=>k_is)
  (case w1m=>(constructor<;>first|k_is|kernel_rfl))
  (case w02=>(constructor<;>first|k_is|kernel_rfl))
  (case w6y=>(constructor<;>first|k_is|kernel_rfl))
  (case w97=>(constructor<;>first|k_is|kernel_rfl))
  (case w24=>(constructor<;>first|k_is|kernel_rfl))
  (case w31=>(constructor<;>first|k_is|kernel_rfl))
  (case w30=>(constructor<;>first|k_is|kernel_rfl))
  (case w2g=>(constructor<;>first|k_is|kernel_rfl))
  (case w09=>(constructor<;>first|k_is|kernel_rfl))
  (case w0q=>(constructor<;>first|k_is|kernel_rfl))
  (case w0i=>(constructor<;>first|k_is|kernel_rfl))
  (case w13=>(constructor<;>first|k_is|kernel_rfl))
  (case w2m=>(constructor<;>first|k_is|kernel_rfl))
  (case w08=>(constructor<;>first|k_is|kernel_rfl))
  (case w0n=>(constructor<;>first|k_is|kernel_rfl))
  (case w07=>(constructor<;>first|k_is|kernel_rfl))
  (case w0g=>(constructor<;>first|k_is|kernel_rfl))
  (case w1p=>(constructor<;>first|k_is|kernel_rfl))
  (case w0s=>(constructor<;>first|k_is|kernel_rfl))
  (case w2n=>(constructor<;>first|k_is|kernel_rfl))
  (case w0k|w0d|w15|w0y|w0c|w03|y_abs|y_all|y_bool|y_dict|y_int|y_isinstance|y_len|y_list|y_max|y_range|y_set|y_sorted|y_str|y_tuple|y_zip=>k_is)