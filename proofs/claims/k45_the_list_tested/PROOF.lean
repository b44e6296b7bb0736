import PyProof.Rows.All
import Wide.All
import OpenK.AllK
import Wide.FinOn
import Lean
import PyProof.EqAt
import PyProof.EqKinds
import PyProof.TupleCall
import PyProof.NeKinds
import KE.KEqDict
import KE.KRevIter
import PyProof.FactsAll.range_2
import PyProof.ZipIter
import PyProof.FitsReplace
import PyProof.MeetsStr
import PyProof.ListRange
import PyProof.CollectWalk
import PyProof.DictItems
import PyProof.DictItemsLoops
import PyProof.DictValues
import PyProof.DictWalks
import PyProof.StrCalls
import KE.KIsAll
import PyProof.Rows.Range3
import PyProof.Rows.MinMaxN
import PyProof.SumWalkG
import PyProof.MeetsStr2
import PyProof.StrBlockL
import PyProof.Rows.StrNews2
import PyProof.StrLawsOccR
import KE.KIntText
import PyProof.StrLawsIn
import PyProof.Rows.SeqMore2
import PyProof.ListOps
import PyProof.Rows.SeqMore
import PyProof.Rows.SeqGen
import PyProof.EnumFor
import PyProof.EnumMake
import KE.KSortTup
import KE.KDictList
import KE.KLam
import KE.KSortKey
import PyProof.AutoListH
import PySem.Challenge.RW_quotatree_k45_the_list_tested
local macro_rules|`(∅)=>`(by decide)
local macro_rules|`(nofun)=>`(fun _ _=>rfl)
local macro_rules|`(↑∅)=>`(by omega)|`(↑$x)=>`(($x).heap.objs.size)
open PySem.W (Frag instObj lookIn plainGet hasDictIn findIn isFn emptyDict specialIn keepIn mroIn kitOne fnOf codeIn excIn nsIn tabIn)
open List renaming getElem?_eq_getElem->zA,length_map->zB,getElem?_map->zC,mem_of_getElem?->zD,map_append->zE,length_append->zF,mem_singleton->zG,mem_cons_of_mem->zH,size_toArray->zI,mem_map->zJ,length_cons->zK,getElem_mem->zL,take_add_one->zM,mem_cons_self->zN,mem_cons->zO,mem_append->zP,take_length->zQ,mem_iff_getElem->zR,length_take->zS,map_cons->zT,length_filter_le->zU,nodup_cons->zV,pairwise_iff_getElem->zW,mem_append_right->zX,filter_cons->zY,getElem?_append_right->zZ,length_singleton->yA,filter_append->yB,append_nil->yC,getElem?_append_left->yD,mem_append_left->yE,all_eq_true->yF,mem_filter->yG,nodup_append->yH,not_mem_nil->yI,find?_cons->yJ,nodup_nil->yK,mem_of_mem_take->yL,mem_flatten->yM,any_eq_true->yN,length_range->yO,mem_range->yP,filter_nil->yQ,foldl_cons->yR,length_nil->yS,map_map->yT,all_cons->yU,any_cons->yV
open PySem renaming Value->uB,wpAny_bind->uC,Shared->uD,wpAny_pure->uF,FuncData->uL,Stmt->uM,mainGlobals->uR,wpAny->uS,model->uU,Program->uX,starEach->uZ,boot_len->vF,World->vG,Around->vI,Heap->vN,wpAny_mono->vS,Expr->vT,wpAny_newObj_type->vX,compareOp->wC,wpAny_call_entry->wF,wpAny_truthy_bool->wH,sizeLine_eq->wJ,eval->wK,backTo->wO,sysModules->wQ,wpAny_holding->wR,wpAny_callSpecial?_slot->wS,rawInt->wT,wpAny_Call_Name_kw->wW,wpAny_typeNameOfWhole_keyiter->xI,wpAny_typeNameOfWhole_valiter->xJ,codeAny_mono->xL,Builtin->xO,wpAny_passesOwn->xQ,codeAny_builtin->xS,wpAny_richCompare_same_room->xZ,wpAny_dictEntries->yW,binaryOp->yY,wpAny_field->aA,wpAny_setField->aB,mem_of_lookup->aI,Scope->aL,wpAny_standAt->aN,wpAny_dictEpoch->aP,wpAny_call->aR,tupleKind_room_in1->aS,keywordEach->aV,bootBuiltins->bA,wpAny_pyIter_list->bC,wpAny_loadPart_at->bG,behindInMarks->bS,attributeBase->bT,sliceBounds->bW,excClassObj->bY,compEnvC->bZ,codeAny->cG,valueAt->cH,call_meetsIn->cI,ExcBaseFacts->cJ,tupleKind->cL,Arguments->cM,pyNext->dA,plainId_quiet->dG,backToKw->dH,assignEach->dO,BindsTo->dQ,call_meets->dU,wpAny_execs_nil->eC,wpAny_isOneOf_valiter->eM,wpAny_fieldsOf->eU,firstArgMember->eW,swapsWith->eZ,getMethod->fA,getItem->fB,seqIndex?->fD,DictEntry->fE,wpAny_attempt->fL,builtinsNs->fO,nsFind->fQ,holding->fY,wpAny_assign_Name->gA,foldedSetIterable->gB,callWith->gE,callerA->gG,relabel->gJ,IsPart->gY,scanBound->hJ
open PySem.Heap renaming get?_push_of_some->uE,lt_size->uN,get?_push_size->uQ,get?_update_other->wU,SameBut->bB,size_push->bD,get?_update_self->bL,get?_none_of_le->bU
open List renaming getElem?_eq_some_iff->uG,range->vB,length->wV,drop_eq_getElem_cons->wY,rel_of_pairwise_cons->aG,map_congr_left->aJ,getElem?_cons_zero->aW,getElem?_cons_succ->aY,pairwise_singleton->aZ,replicate->bE,pairwise_map->bI,take_of_length_le->bJ,take_append_drop->bN,getElem?_eq_none->bO,length_drop->bQ,getElem_map->bR,lookup->bV,length_set->cB,length_pos_iff->cE,pairwise_cons->cP,getElem_take->cW,foldl_append->cY,drop_of_length_le->dW,length_zip->eG,contains_iff_mem->eK,filterMap_cons->fF,Pairwise->fM,mem_filterMap->fP,find?_eq_none->fU,any_eq_false->gC,map_nil->gF,all_map->gP
open Nat renaming le_refl->uH,lt_of_lt_of_le->vA,ne_of_lt->vC,lt_of_le_of_lt->vJ,le_trans->vP,lt_irrefl->wD,zero_le->wI,le_succ->xH,lt_of_succ_lt_succ->xP,strongRecOn->xU,lt_or_ge->bH,lt_succ_self->bP,not_lt_zero->cA,le_of_lt->cF,ne_of_gt->dP,sub_self->eB,lt_trans->gL,lt_succ_of_lt->gO,le_of_not_lt->gZ
open Or renaming inl->uI,inr->eS
open Bool renaming false_ne_true->uJ,and_eq_true->vO,eq_iff_iff->xR,not_eq_true'->cT,true_or->gK
open PySem.AutoSeq1 renaming wpAny_loadPart'->uO
open PySem.Value renaming ref->uP,none->vV,int->wZ,str->cK,type->dM,isStrOf->fJ,bool->fN
open PySem.W renaming Frag->uT,mg_none_of->vK,mg_of->vM,findIn->vU,kia_one->wL,nsIn->xK,callWith_K->xM,methodCall_KW->bK,kitOne->cN,Looks->dE,instObj->dJ,keepIn->dL,specialIn->eY,plainGet_of->fG,excIn->fV,methodObj->fX,hasDictIn->gW,codeIn->gX
open Sum renaming inr->uV,inl->fW
open Option.some renaming inj->uW,injEq->cU
open Option renaming map_eq_some_iff->uY,isSome_map->bF,isSome_iff_exists->dC,map_some->eF
open PySem.F renaming plainAttrs_list->vD,slot_list_append->vQ,type_list_append->vR,slot_dict_valueiterator_next->xG,slot_dict_keyiterator_next->xT,excBase_ValueError->aD,plainAttrs_dict->dI,slot_dict_pop->eI,slot_dict_get->eJ,args_dict_valueiterator_next_1->gQ,entry_dict_valueiterator_next->gU,args_dict_keyiterator_next_1->hV
open PySem.PassesOwn renaming never->vE
open PyProof.Rows renaming sortedS->vH,boot_isinstance->vW,boot_dict->wG,boot_list->wP,boot_sorted->xE,boot_int->xX,callWith_type1->xY,AllBare->cR,envOfC->dB,subscriptTail_builtinR->dR,boot_str->eP,StrsAre->gM,slot_tuple_getitem->gR
open Int renaming eq_ofNat_of_zero_le->vL,emod_lt_of_pos->vZ,emod_nonneg->wA,le_refl->wB,toNat_natCast->xA,fdiv_eq_ediv_of_nonneg->aE,zero_add->dZ
open False renaming elim->vY
open True renaming intro->wM
open PySem.Obj renaming mapFields->wN,data_mapFields->xN,isFreed_of_fields->bM,cls_mapFields->gH
open PySem.Str renaming ofString->xB
open PySem.Around renaming under_plainId->xC
open Nat.succ renaming inj->xD
open Ne renaming symm->xF
open PySem.MeetsSeq3 renaming plain_eq_loop->xV,entry_eq_loop->fK
open Array renaming getElem?_toList->xW,getElem?_eq_some_iff->aC,getElem?_eq_getElem->aH,length_toList->cC,getElem?_eq_none->dX,find?_toList->fR,all_eq_true_iff_forall_mem->gI
open Sum.inr renaming inj->yX
open PySem.Builtin.Slice renaming slicePlaces->aF,sliceAdjust->cQ
open PyProof.Rows.F renaming plain_set_update_loop->aK,entry_set_update_loop->fH
open PySem.Builtin.Tuple renaming tupleExact->aM,tupleCompareSizes->gT
open List.cons renaming inj->aO
open PySem.Builtin.Str renaming occurrences->aU
open PySem.Calls renaming evalArgs_plain->bX,callWith_builtin->dS,spliced_cons->fS
open PySem.Heap.SameBut renaming update->cD
open List.Pairwise renaming nil->cS,imp->cV
open Prod.mk renaming inj->cZ
open PySem.Builtin.List renaming listTooLong->dD
open ForInStep renaming yield->eE
open PySem.Builtin.Dict renaming showsAll->eO
open PySem.Code renaming quiet_builtin->fT
set_option compiler.extract_closed false
set_option Elab.async false
set_option linter.all false
set_option maxRecDepth 100000
theorem iA.{u} {c:Prop} {h:Decidable c} (n:¬c) {α:Sort u} {t e:α}:ite c t e=e:=if_neg n
theorem iB.{u} {c:Prop} {h:Decidable c} (n:c) {α:Sort u} {t e:α}:ite c t e=t:=if_pos n
def iC{p:Prop}[i:Decidable p](h:p):decide p=true:=decide_eq_true h
def iD{p:Prop}[i:Decidable p](h:¬p):decide p=false:=decide_eq_false h
namespace L2
open PySem PySem.Spec PyProof.Rows
variable{us:List uB}{H:Hp}{a b C:Addr}{o:HO}{u:uB}{h:vN}{X:Cx}{e c:vT}{A:vI}{s:uD}{i:Nat}{x:Str}{pos:Pos}{v:V}{op:CmpOp}{K:uT}{pins:List (Addr×Obj)}{σ:St}{fp:List Addr}{r:R2}
abbrev Key:=Sum Int Str
def jcb:Key->uB->Bool
 | .inl k,v=>Value.isInt k v
 | .inr x,v=>fJ x v
def jx1(w:vG):Key->Int
 | .inl k=>hashInt k
 | .inr x=>hashStr w x
def qbb:∀{k:Key} {v:uB},jcb k v=true->(∃i t,k=fW i/\v=wZ i t)\/(∃x t,k=uV x/\v=cK x t)
 | .inl i,v,h=>by
  obtain⟨t,e⟩:=Value.isInt_shape (k:=i) (v:=v) h;exact .inl ⟨i,t,rfl,e⟩
 | .inr x,v,h=>by
  obtain⟨t,e⟩:=Value.isStrOf_shape (x:=x) (v:=v) h;exact .inr ⟨x,t,rfl,e⟩
def jgs(i:Int)(t:Tok):jcb (.inl i) (.int i t)=true:=by simp[jcb,Value.isInt]
def jgt(x:Str)(t:Tok):jcb (.inr x) (.str x t)=true:=by simp[jcb,fJ]
def jqb(a b:Int):decide ((fW a:Key)=fW b)=(a==b):=by
 by_cases e:a=b
 .subst e;simp
 .have h:¬(fW a:Key)=fW b:=fun q=>e (Sum.inl.inj q);rw[iD h];exact(beq_eq_false_iff_ne.mpr e).symm
def jqc(a b:Str):decide ((uV a:Key)=uV b)=decide (a=b):=by
 by_cases e:a=b
 .subst e;simp
 .have h:¬(uV a:Key)=uV b:=fun q=>e (yX q);rw[iD h,iD e]
def jqd(a:Int)(b:Str):decide ((fW a:Key)=uV b)=false:=iD (fun q=>nomatch q)
def jqe(a:Str)(b:Int):decide ((uV a:Key)=fW b)=false:=iD (fun q=>nomatch q)
def qb4(prog:uX)(w:vG):PySem.KeyKind prog w Key where
 is:=jcb
 hash:=jx1 w
 inj:=fun v a b ha hb=>by
  rcases qbb ha with⟨i,t,rfl,rfl⟩|⟨x,t,rfl,rfl⟩
  .rcases qbb hb with⟨j,u,rfl,e⟩|⟨y,u,rfl,e⟩
   .injection e with e1 _;rw[e1]
   .exact nomatch e
  .rcases qbb hb with⟨j,u,rfl,e⟩|⟨y,u,rfl,e⟩
   .exact nomatch e
   .injection e with e1 _;rw[e1]
 byValue:=fun k v h=>by
  rcases qbb h with⟨i,t,rfl,rfl⟩|⟨x,t,rfl,rfl⟩<;>rfl
 pyHash:=fun hv h=>by
  rcases qbb hv with⟨i,t,rfl,rfl⟩|⟨x,t,rfl,rfl⟩
  .exact wpAny_pyHash_int h
  .exact wpAny_pyHash_str h
 eqBool:=fun hu hv h=>by
  rcases qbb hu with⟨i,t,rfl,rfl⟩|⟨x,t,rfl,rfl⟩
  .rcases qbb hv with⟨j,u,rfl,rfl⟩|⟨y,u,rfl,rfl⟩
   .rw[jqb] at h;exact wpAny_eqBool_int h
   .rw[jqd] at h;exact SeqAt.EqAt.int_str i t y u _ _ _ _ h
  .rcases qbb hv with⟨j,u,rfl,rfl⟩|⟨y,u,rfl,rfl⟩
   .rw[jqe] at h;exact SeqAt.EqAt.str_int x t j u _ _ _ _ h
   .rw[jqc] at h;exact wpAny_eqBool_str h
 «strs»:=fun k x t v h=>by
  rcases qbb h with⟨i,u,rfl,e⟩|⟨y,u,rfl,e⟩
  .exact nomatch e
  .injection e with e1 _
   subst e1
   cases v<;>rfl
def jdr(prog:uX)(w:vG)(i:Int)(t:Tok):(qb4 prog w).is (.inl i) (.int i t)=true:=jgs i t
def jds(prog:uX)(w:vG)(x:Str)(t:Tok):(qb4 prog w).is (.inr x) (.str x t)=true:=jgt x t
inductive V where
 |non|bl (b:Bool) |int (i:Int) |str (x:Str) |byt (b:Array UInt8) |flt (b:UInt64) |ref (a:Addr) |ty (n:String)
 deriving DecidableEq
def qb8:V->uB->Prop
 | .non,u=>u=vV
 | .bl b,u=>u=fN b
 | .int i,u=>∃t,u=wZ i t
 | .str x,u=>∃t,u=cK x t
 | .byt b,u=>∃t,u=Value.bytes b t
 | .flt b,u=>∃t,u=Value.float b t
 | .ref a,u=>u=uP a
 | .ty n,u=>u=dM n
abbrev qba:List V->List uB->Prop:=Paired qb8
theorem qba.length{xs:List V}(r:qba xs us):xs.length=us.length:=Paired.length r
theorem qba.get:∀{xs:List V} {us:List uB} {i:Nat} {x:V},qba xs us->xs[i]?=some x->∃u,us[i]?=some u/\qb8 x u
 |_,_,_,_,.nil,e=>by simp at e
 |_,_,0,_,.cons r _,e=>by simp at e;subst e;exact⟨_,rfl,r⟩
 |_,_,i+1,x,.cons _ t,e=>by
  obtain⟨u,h1,h2⟩:=qba.get (i:=i) (x:=x) t (by simpa using e);exact⟨u,by simpa using h1,h2⟩
theorem qba.set{x:V}{u:uB}(r:qb8 x u):∀{xs:List V} {us:List uB} (i:Nat),qba xs us->qba (xs.set i x) (us.set i u)
 |_,_,_,.nil=> .nil
 |_,_,0,.cons _ t=> .cons r t
 |_,_,i+1,.cons q t=> .cons q (qba.set r i t)
theorem qba.append:∀{xs ys:List V} {us ws:List uB},qba xs us->qba ys ws->qba (xs++ys) (us++ws)
 |_,_,_,_,.nil,s=>s
 |_,_,_,_,.cons r t,s=> .cons r (qba.append t s)
theorem qba.take:∀{xs:List V} {us:List uB} (n:Nat),qba xs us->qba (xs.take n) (us.take n)
 |_,_,0,_=> .nil
 |_,_,_+1,.nil=> .nil
 |_,_,n+1,.cons r t=> .cons r (qba.take n t)
theorem qba.drop:∀{xs:List V} {us:List uB} (n:Nat),qba xs us->qba (xs.drop n) (us.drop n)
 |_,_,0,r=>r
 |_,_,_+1,.nil=> .nil
 |_,_,n+1,.cons _ t=>qba.drop n t
def qfp:Option V->Option uB->Prop
 |some v,some u=>qb8 v u
 |none,none=>True
 |_,_=>False
def KV{κ:Type}:List (κ×V)->List (κ×uB)->Prop:=Paired fun(p:κ×V) (q:κ×uB)=>p.1=q.1/\qb8 p.2 q.2
def kV:Key->V
 | .inl i=> .int i
 | .inr x=> .str x
inductive HO where
 |lst(xs:List V)
 |tup(xs:List V)
 |dK(kvs:List (Key×V)) |dT (kvs:List (List Key×V))
 |set(S:Int->Bool)(n:Nat)
 |ins(C dx:Addr)(fs:List (Str×V))
 |own(x:Addr)
 |xd(fs:List (Str×V))
 |met(f x:Addr)
 |rng(lo hi:Int)
 |frz(o:Obj)(u:HO)
 |tbl(ps:Array uB)
 |ext(φ:vN->Prop)
abbrev Hp:=Addr->Option HO
def upd(H:Hp)(a:Addr)(o:HO):Hp:=fun b=>if b=a then some o else H b
def qa1:upd H a o a=some o:=by unfold upd;rw[iB rfl]
def qa7(h:b≠a):upd H a o b=H b:=by unfold upd;rw[iA h]
def qbn{u:HO} :upd (upd H a o) a u=upd H a u:=by
 funext b;unfold upd;split<;>rfl
def jgu{u:HO}(h:H a=some o)(h':H b=some u)(d:o≠u):a≠b:=by
 intro e;subst e;rw[h] at h';exact d (uW h')
def qa8(h:H a=some o)(h':H b=none):a≠b:=by
 intro e;subst e;rw[h] at h';cases h'
section
variable(P:uX)(w:vG)
def qbj(H:Hp)(h:vN)(a:Addr):HO->Prop
 | .lst xs=>xs.length<=sizeLine/\∃(its:List uB)(n:Nat),qba xs its/\h.get? a=some {cls:=.type "list",data:=.seq its.toArray n}
 | .tup xs=>xs.length<=sizeLine/\∃its:List uB,qba xs its/\IsTup h a its.toArray
 | .dK kvs=>kvs.length<=sizeLine/\(a==wQ)=false/\∃vs,KV kvs vs/\h.DictOf (qb4 P w) a vs
 | .dT kvs=>kvs.length<=sizeLine/\(a==wQ)=false/\∃xs:List (List Key×Addr×uB),
   Paired (fun(p:List Key×V) (q:List Key×Addr×uB)=>p.1=q.1/\H q.2.1=some (.tup (p.1.map kV))/\qb8 p.2 q.2.2) kvs xs/\
   ∃o es ep,h.get? a=some o/\o.ExactDict/\o.data=.dict es ep/\es.toList=xs.map (entryOfKey (cL (qb4 P w)))/\(xs.map (·.1)).Nodup
 | .set S n=>h.SetOf (intKind P w) a S n
 | .ins C dx fs=>H dx=some (.own a)/\fs.length<=1000/\dx≠a/\h.get? a=some (dJ C dx)/\
   ∃mA,h.Ns1 dx mA/\(∀f,qfp (fs.lookup f) (mA f))/\PySem.Within mA (fs.map (·.1))
 | .own _=>∃o,h.get? a=some o
 | .xd fs=>∃mA,h.Ns1 a mA/\∀f,qfp (fs.lookup f) (mA f)
 | .rng lo hi=>∃t u v,h.get? a=some {cls:=.type "range",data:=.fields #[.int lo t,.int hi u,.int 1 v]}
 | .frz o u=>h.get? a=some o/\qbj H h a u
 | .tbl ps=>h.get? a=some {cls:=.none,data:=.fields ps}
 | .met f x=>h.get? a=some (fX (.ref f) (.ref x))
 | .ext φ=>φ h/\(∃o,h.get? a=some o)/\∀h1 h2:vN,φ h1->(∀o,h1.get? a=some o->h2.get? a=some o)->φ h2
def HOk(H:Hp)(h:vN):Prop:=∀a o,H a=some o->qbj P w H h a o
end
section
variable{P:uX}{w:vG}{H H':Hp}{h h':vN}{a:Addr}{o:HO}
theorem qbj.lt(x:qbj P w H h a o):a<h.objs.size:=by
 cases o with
 |lst xs=>obtain⟨_,_,_,_,e⟩:=x;exact uN e
 |tup xs=>obtain⟨_,_,_,p⟩:=x;exact p.lt
 |dK kvs=>obtain⟨_,_,_,_,o,_,_,e,_⟩:=x;exact uN e
 |dT kvs=>obtain⟨_,_,_,_,o,_,_,e,_⟩:=x;exact uN e
 |set S n=>obtain⟨o,_,_,_,e,_⟩:=x;exact uN e
 |ins C dx fs=>obtain⟨_,_,_,e,_⟩:=x;exact uN e
 |own y=>obtain⟨_,e⟩:=x;exact uN e
 |xd fs=>obtain⟨_,⟨_,_,_,e,_⟩,_⟩:=x;exact uN e
 |rng lo hi=>obtain⟨_,_,_,e⟩:=x;exact uN e
 |frz ob u=>obtain⟨e,_⟩:=x;exact uN e
 |tbl ps=>exact uN (show h.get? a=some _ from x)
 |met f y=>exact uN (show h.get? a=some _ from x)
 |ext φ=>obtain⟨_,⟨_,e⟩,_⟩:=x;exact uN e
theorem Paired.mapP{α β:Type}{F G:α->β->Prop}:∀{l₁:List α} {l₂:List β},Paired F l₁ l₂->(∀a b,F a b->G a b)->Paired G l₁ l₂
 |_,_,.nil,_=> .nil
 |_,_,.cons r t,f=> .cons (f _ _ r) (Paired.mapP t f)
def qbj.stay(x:qbj P w H h a o)(k:∀b u,(b=a\/H b=some (.own a))->h.get? b=some u->h'.get? b=some u)
  (ho:∀b,H b=some (.own a)->H' b=some (.own a))(ht:∀b xs,H b=some (.tup xs)->H' b=some (.tup xs)):qbj P w H' h' a o:=by
 induction o with
 |lst xs=>obtain⟨z,its,n,r,e⟩:=x;exact⟨z,its,n,r,k _ _ (.inl rfl) e⟩
 |tup xs=>obtain⟨z,its,r,ob,e,c⟩:=x;exact⟨z,its,r,ob,k _ _ (.inl rfl) e,c⟩
 |dK kvs=>obtain⟨z,y,vs,r,ob,es,ep,e,c⟩:=x;exact⟨z,y,vs,r,ob,es,ep,k _ _ (.inl rfl) e,c⟩
 |dT kvs=>
  obtain⟨z,y,xs,r,ob,es,ep,e,c⟩:=x;exact⟨z,y,xs,Paired.mapP r fun p q z=>⟨z.1,ht _ _ z.2.1,z.2.2⟩,ob,es,ep,k _ _ (.inl rfl) e,c⟩
 |set S n=>obtain⟨ob,es,ep,t,e,c⟩:=x;exact⟨ob,es,ep,t,k _ _ (.inl rfl) e,c⟩
 |ins C dx fs=>
  obtain⟨d,z,ne,e,mA,⟨od,es,ep,e2,c⟩,r⟩:=x;exact⟨ho _ d,z,ne,k _ _ (.inl rfl) e,mA,⟨od,es,ep,k _ _ (.inr d) e2,c⟩,r⟩
 |own y=>obtain⟨ob,e⟩:=x;exact⟨ob,k _ _ (.inl rfl) e⟩
 |xd fs=>obtain⟨mA,⟨od,es,ep,e,c⟩,r⟩:=x;exact⟨mA,⟨od,es,ep,k _ _ (.inl rfl) e,c⟩,r⟩
 |rng lo hi=>obtain⟨t,u,v,e⟩:=x;exact⟨t,u,v,k _ _ (.inl rfl) e⟩
 |frz ob u ih=>obtain⟨e,q⟩:=x;exact⟨k _ _ (.inl rfl) e,ih q⟩
 |tbl ps=>
  have e:h.get? a=some {cls:=.none,data:=.fields ps}:=x;show h'.get? a=some {cls:=.none,data:=.fields ps};exact k a _ (.inl rfl) e
 |met f y=>
  have e:h.get? a=some (fX (.ref f) (.ref y)):=x;show h'.get? a=some (fX (.ref f) (.ref y));exact k a _ (.inl rfl) e
 |ext φ=>obtain⟨p,⟨o,e⟩,st⟩:=x;exact⟨st _ _ p fun o q=>k _ _ (.inl rfl) q,⟨o,k _ _ (.inl rfl) e⟩,st⟩
theorem HOk.lt(x:HOk P w H h)(e:H a=some o):a<h.objs.size:=(x a o e).lt
def HOk.fresh(x:HOk P w H h)(e:h.objs.size<=a):H a=none:=by
 cases q:H a with
 |none=>rfl
 |some u=>exact absurd (vA (x.lt q) e) (wD _)
def HOk.kept(x:HOk P w H h)(k:∀b u,h.get? b=some u->h'.get? b=some u):HOk P w H h':=fun a o e=>
 (x a o e).stay (fun b u _ q=>k b u q) (fun _ q=>q) fun _ _ q=>q
def HOk.laid(x:HOk P w H h)(k:∀b u,h.get? b=some u->h'.get? b=some u)(hp:h.objs.size<=a)(new:qbj P w (upd H a o) h' a o):HOk P w (upd H a o) h':=fun b u e=>by
 have hn:=x.fresh hp;by_cases hb:b=a
 .subst hb;rw[qa1] at e;cases e;exact new
 .rw[qa7 hb] at e;exact(x b u e).stay (fun c v _ q=>k c v q) (fun c q=>by rw[qa7 (qa8 q hn)];exact q) fun c xs q=>by rw[qa7 (qa8 q hn)];exact q
end
def Rd(H:Hp)(a:Addr)(u:HO):Prop:=H a=some u\/∃o,H a=some (.frz o u)
def Rd.of{u:HO}(h:H a=some u):Rd H a u:=.inl h
def Rd.ok{P:uX}{w:vG}{u:HO}(r:Rd H a u)(x:HOk P w H h):qbj P w H h a u:=by
 rcases r with r|⟨o,r⟩
 .exact x a u r
 .obtain⟨_,q⟩:=x a _ r;exact q
def Mut:Option HO->Prop
 |some (.lst _)=>True
 |some (.dK _)=>True
 |some (.dT _)=>True
 |some (.set _ _)=>True
 |some (.ins _ _ _)=>True
 |some (.ext _)=>True
 |_=>False
section
variable{P:uX}{w:vG}{H:Hp}{h h':vN}{x e:Addr}{o':HO}
def HOk.write(ok:HOk P w H h)(mu:Mut (H x))(he:e=x\/H e=some (.own x))(k:∀b u,b≠e->h.get? b=some u->h'.get? b=some u)(heo:∃u,h'.get? e=some u)
  (new:qbj P w (upd H x o') h' x o'):HOk P w (upd H x o') h':=fun b u q=>by
 have nown:∀c y,H c=some (.own y)->c≠x:=fun c y r z=>by subst z;rw[r] at mu;exact mu
 have ntup:∀c xs,H c=some (.tup xs)->c≠x:=fun c xs r z=>by subst z;rw[r] at mu;exact mu
 by_cases hb:b=x
 .subst hb;rw[qa1] at q;cases q;exact new
 .rw[qa7 hb] at q;by_cases hbe:b=e
  .have q':H b=some (.own x):=by
    rcases he with z|z
    .exact absurd (hbe.trans z) hb
    .rw[hbe];exact z
   rw[q] at q';cases q';obtain⟨v,hv⟩:=heo;exact⟨v,by rw[hbe];exact hv⟩
  .refine(ok b u q).stay (fun c v hc r=>k c v ?_ r) (fun c r=>by rw[qa7 (nown c b r)];exact r) fun c xs r=>by rw[qa7 (ntup c xs r)];exact r
   rcases hc with rfl|hc
   .exact hbe
   .rintro rfl;rcases he with z|z
    .exact nown c b hc z
    .rw[hc] at z;cases z;exact hb rfl
end
structure Un(fs ex:List Addr)(H H':Hp)(h h':vN):Prop where
 keep:∀b o,h.get? b=some o->H b=none->b∉fs->b∉ex->h'.get? b=some o
 slot:∀b o,h.get? b=some o->H b=none->b∈fs->b∉ex->∃sl,h'.get? b=some {o with slots:=sl}
 free:∀b o,h.get? b=some o->H b=none->b∉ex->H' b=none
 there:∀b o,h.get? b=some o->b∉ex->∃o',h'.get? b=some o'
 tups:∀b xs,H b=some (.tup xs)->H' b=some (.tup xs)
 frzs:∀b o u,H b=some (.frz o u)->H' b=some (.frz o u)
 tbls:∀b ps,H b=some (.tbl ps)->∃more,H' b=some (.tbl (ps++more))
section
variable{fs ex:List Addr}{H H1:Hp}{h h1 h':vN}{a x e:Addr}{o:HO}
def Un.any(u:Un fs ex H H1 h h1){b:Addr}{ob:Obj}(q:h.get? b=some ob)(n:H b=none)(hx:b∉ex):∃sl,h1.get? b=some {ob with slots:=sl}:=by
 by_cases hb:b∈fs
 .exact u.slot b ob q n hb hx
 .exact⟨ob.slots,u.keep b ob q n hb hx⟩
def Un.kept(k:∀b u,h.get? b=some u->h'.get? b=some u):Un fs ex H H h h':=
 ⟨fun b ob q _ _ _=>k b ob q,fun b ob q _ _ _=>⟨ob.slots,k b ob q⟩,fun _ _ _ n _=>n,fun b ob q _=>⟨ob,k b ob q⟩,fun _ _ q=>q,fun _ _ _ q=>q,fun _ ps q=>⟨#[],by rw[q];simp⟩⟩
def Un.refl:Un fs ex H H h h:=Un.kept fun _ _ q=>q
def Un.laid(k:∀b u,h.get? b=some u->h'.get? b=some u)(hp:h.objs.size<=a)(hn:H a=none):Un fs ex H (upd H a o) h h' where
 keep:=fun b u q _ _ _=>k b u q
 slot:=fun b u q _ _ _=>⟨u.slots,k b u q⟩
 free:=fun b u q n _=>by rw[qa7 (vC (vA (uN q) hp))];exact n
 there:=fun b u q _=>⟨u,k b u q⟩
 tups:=fun b xs q=>by rw[qa7 (qa8 q hn)];exact q
 frzs:=fun b u xs q=>by rw[qa7 (qa8 q hn)];exact q
 tbls:=fun b ps q=>⟨#[],by rw[qa7 (qa8 q hn),q];simp⟩
def Un.write(mu:Mut (H x))(he:e=x\/H e=some (.own x))(k:∀b u,b≠e->h.get? b=some u->h'.get? b=some u)(heo:∃u,h'.get? e=some u):Un fs ex H (upd H x o) h h':=by
 have hx:∀b,H b=none->b≠x:=fun b n z=>by subst z;rw[n] at mu;exact mu
 have hb:∀b,H b=none->b≠e:=fun b n z=>by
  subst z;rcases he with r|r
  .exact hx b n r
  .rw[n] at r;cases r
 have hm:∀b u,H b=some u->¬Mut (some u)->b≠x:=fun b u q nm z=>by subst z;rw[q] at mu;exact nm mu
 refine⟨fun b u q n _ _=>k b u (hb b n) q,fun b u q n _ _=>⟨u.slots,k b u (hb b n) q⟩,fun b u q n _=>by rw[qa7 (hx b n)];exact n,fun b u q _=>?_,
  fun b xs q=>by rw[qa7 (hm b _ q fun z=>z)];exact q,fun b u xs q=>by rw[qa7 (hm b _ q fun z=>z)];exact q,fun b ps q=>⟨#[],by rw[qa7 (hm b _ q fun z=>z),q];simp⟩⟩
 by_cases hbe:b=e
 .subst hbe;exact heo
 .exact⟨u,k b u hbe q⟩
end
def trk(h:vN)(H:Hp):List Addr:=(vB h.objs.size).filter fun a=>(H a).isSome
def jj5(h:vN)(H:Hp):vN:=PySem.W.hideAll h (trk h H)
def jgv(h:vN)(H:Hp):(jj5 h H).objs.size=h.objs.size:=PySem.W.hideAll_size _ _
def jj7{o:Obj}(e:h.get? b=some o)(n:H b=none):(jj5 h H).get? b=some o:=
 PySem.W.hideAll_get _ e fun hm=>by
  have q:(H b).isSome=true:=(yG.mp hm).2;rw[n] at q;simp at q
def jnt{o:Obj}(e:(jj5 h H).get? b=some o):h.get? b=some o/\H b=none:=by
 have e':h.get? b=some o:=PySem.W.of_hideAll (trk h H) e;refine⟨e',?_⟩
 cases q:H b with
 |none=>rfl
 |some x=>
  have hm:b∈trk h H:=yG.mpr ⟨yP.mpr (uN e'),by simp[q]⟩;have z:(jj5 h H).get? b=none:=PySem.W.hideAll_none (trk h H) hm;rw[z] at e;cases e
def jnu(g h:vN)(L:Addr):List (Addr×Obj):=(vB h.objs.size).filterMap fun a=>if a=L\/(g.get? a).isSome=true then none else(h.get? a).map fun o=>(a,o)
def rest(g h:vN)(L d:Addr):List (Addr×Obj):=(jnu g h L).filter fun p=>decide (p.1≠d)
structure Mod(K:uT)(mg:Str->Option uB)(base:vN):Prop where
 kin:K.In base
 glob:base.Ns uR mg
 blt:∃mb,base.Ns fO mb/\∀x:Str,x≠"__name__"->mb x=bA x
 nolimit:base.NoLimit
structure Cx where
 prog:uX
 w:vG
 K:uT
 mg:Str->Option uB
 base:vN
 A:vI
 N:List Str
 s₀:uD
 H₀:Hp
 env:Env
 outer:List Env
 stack:List Env
 ex:List Addr
 fn:Str->Bool
 calm:Bool
 pn:List (Addr×Obj)
 xe:uB->uD->Prop
def frs(l:List Env):List Addr:=l.filterMap (·.frame)
abbrev Cx.fs(X:Cx):List Addr:=frs X.outer
def Vis(sc:aL)(x:Str):Prop:=sc.names.lookup x=some .local\/sc.names.lookup x=some .cell\/sc.names.lookup x=some .free
def Loc(sc:aL)(x:Str):Prop:=sc.names.lookup x=some .local\/sc.names.lookup x=some .cell
def jx2(env:Env)(h:vN)(m:Str->Option uB)(x:Str)(u:uB):Prop:=
 (env.kindOf x=some .local/\m x=some u)\/((env.kindOf x=some .cell\/env.kindOf x=some .free)/\∃c,env.cells.lookup x=some c/\h.IsCell c (some u))
structure Cx.Ok(X:Cx):Prop where
 mod:Mod X.K X.mg X.base
 kind:X.env.scope.kind=.function
 glob:X.env.globals=uR
 blt:X.env.builtins=fO
 above:↑X.s₀<=X.env.locals
 inj:∀x y c,X.env.cells.lookup x=some c->X.env.cells.lookup y=some c->x=y
 has:∀x,(X.env.kindOf x=some .cell\/X.env.kindOf x=some .free)->∃c,X.env.cells.lookup x=some c
 cab:∀x c,X.fn x=true->X.env.cells.lookup x=some c->↑X.s₀<=c
 hd:X.calm=true->X.A.handled=none
 frames:X.A.frames=some X.stack
 stk:X.stack=X.outer\/(X.stack=X.env::X.outer/\X.env.frame=some X.env.locals)
 exf:∀b∈X.ex,b≠X.env.locals/\∀x c,X.env.cells.lookup x=some c->c≠b
 bs:∀b o,X.base.get? b=some o->X.s₀.heap.get? b=some o/\X.H₀ b=none
 bsz:X.base.objs.size<=↑X.s₀
 noex:∀b o,X.base.get? b=some o->b∉X.ex
 exfs:∀b∈X.ex,b∉X.fs
 funs:X.s₀.heap.FunFrames X.base X.outer
 frf:∀b∈X.fs,X.H₀ b=none
structure Inv(X:Cx)(pins:List (Addr×Obj))(σ:List (Option V))(H:Hp)(s:uD):Prop where
 ok:X.Ok
 os:s.os=X.s₀.os
 bare:cR s.gens
 base:Un X.fs X.ex X.H₀ H X.s₀.heap s.heap
 loc:∃m,s.heap.Ns X.env.locals m/\∀(i:Nat)(x:Str)(v:V),X.N[i]?=some x->σ[i]?=some (some v)->Vis X.env.scope x->∃u,qb8 v u/\jx2 X.env s.heap m x u
 cell:∀x c,X.env.cells.lookup x=some c->∃v,s.heap.IsCell c v
 free:H X.env.locals=none
 freeC:∀x c,X.env.cells.lookup x=some c->H c=none
 pin:∀p∈X.pn++pins,s.heap.get? p.1=some p.2/\H p.1=none/\p.1≠X.env.locals/\p.1∉X.fs/\∀v,p.2.data≠ .cell v
 hok:HOk X.prog X.w H s.heap
 len:σ.length=X.N.length
section
variable{X:Cx}{pins:List (Addr×Obj)}{σ:List (Option V)}{H H':Hp}{s:uD}{h':vN}
def Cx.Ok.nofr(ok:X.Ok){b:Addr}{o:Obj}(e:X.base.get? b=some o):b∉X.fs:=fun hb=>by
 have:=(ok.funs.mem hb).1;rw[e] at this;cases this
theorem Inv.bs(I:Inv X pins σ H s):∀b o,X.base.get? b=some o->s.heap.get? b=some o/\H b=none:=fun b o e=>
 ⟨I.base.keep b o (I.ok.bs b o e).1 (I.ok.bs b o e).2 (I.ok.nofr e) (I.ok.noex b o e),I.base.free b o (I.ok.bs b o e).1 (I.ok.bs b o e).2 (I.ok.noex b o e)⟩
def Inv.bk(I:Inv X pins σ H s):∀b o,X.base.get? b=some o->s.heap.get? b=some o:=fun b o e=>(I.bs b o e).1
theorem Inv.mod(I:Inv X pins σ H s):Mod X.K X.mg X.base:=I.ok.mod
def Inv.kIn(I:Inv X pins σ H s):X.K.In s.heap:=I.ok.mod.kin.keeps I.bk
theorem Inv.lt(I:Inv X pins σ H s):X.env.locals<↑s:=let ⟨_,hn,_⟩:=I.loc;hn.lt
def Inv.sz(I:Inv X pins σ H s):↑X.s₀<=↑s:=vP I.ok.above (cF I.lt)
def Inv.nofs(I:Inv X pins σ H s){a:Addr}(h:↑s<=a):a∉X.fs:=fun hb=>by
 obtain⟨_,o,ho,_⟩:=I.ok.funs.mem hb;exact absurd (vA (uN ho) (vP I.sz h)) (wD _)
def Inv.cne(I:Inv X pins σ H s):∀x c,X.env.cells.lookup x=some c->c≠X.env.locals:=fun x c e z=>by
 obtain⟨v,o,ho,hd⟩:=I.cell x c e;obtain⟨m,⟨o',es,ep,ho',hd',_⟩,_⟩:=I.loc;rw[z,ho'] at ho;cases ho;rw[hd'] at hd;cases hd
theorem Inv.funs(I:Inv X pins σ H s):s.heap.FunFrames X.base X.outer:=by
 have all:∀(l:List Env),(∀b∈frs l,b∈X.fs)->X.s₀.heap.FunFrames X.base l->s.heap.FunFrames X.base l:=by
  intro l
  induction l with
  |nil=>intro _ _;trivial
  |cons env r ih=>
   intro hs hl;obtain⟨hk,⟨L,o,hf,hn,ho,hd⟩,hr⟩:=hl;have hL:L∈X.fs:=hs L (by unfold frs;rw[fF,hf];exact zN);obtain⟨sl,e⟩:=I.base.slot L o ho (I.ok.frf L hL) hL fun z=>I.ok.exfs L z hL;exact⟨hk,⟨L,_,hf,hn,e,hd⟩,ih (fun b hb=>hs b (by unfold frs;rw[fF,hf];exact zH _ hb)) hr⟩
 exact all X.outer (fun _ hb=>hb) I.ok.funs
theorem Inv.stack(I:Inv X pins σ H s):s.heap.FunFrames X.base X.stack:=by
 rcases I.ok.stk with e|⟨e,hf⟩
 .rw[e];exact I.funs
 .rw[e];obtain⟨m,hn,_⟩:=I.loc;refine .cons (by rw[I.ok.kind];decide) hf hn ?_ I.funs;exact bU (vP I.ok.bsz I.ok.above)
def Inv.stkSub(I:Inv X pins σ H s):∀b∈frs X.stack,b∈X.env.locals::X.fs:=fun b hb=>by
 rcases I.ok.stk with e|⟨e,hf⟩
 .rw[e] at hb;exact zH _ hb
 .rw[e] at hb;unfold frs at hb;rw[fF,hf] at hb;exact hb
def Inv.stkFree(I:Inv X pins σ H s):∀b∈frs X.stack,H b=none:=fun b hb=>by
 rcases zO.mp (I.stkSub b hb) with e|hb
 .rw[e];exact I.free
 .obtain⟨_,o,ho,_⟩:=I.ok.funs.mem hb;exact I.base.free b o ho (I.ok.frf b hb) fun z=>I.ok.exfs b z hb
def Inv.step{g':Array GenState}{t':Nat}{d':Drawn}{ch:List Addr}(I:Inv X pins σ H s)
  (hch:∀b∈ch,(b∈X.ex\/↑X.s₀<=b)/\b≠X.env.locals/\(∀x c,X.env.cells.lookup x=some c->c≠b)/\∀p∈X.pn++pins,p.1≠b)
  (keep:∀b o,b≠X.env.locals->b∉X.fs->b∉ch->s.heap.get? b=some o->H b=none->h'.get? b=some o)
  (slot:∀b o,b≠X.env.locals->b∈X.fs->b∉ch->s.heap.get? b=some o->H b=none->∃sl,h'.get? b=some {o with slots:=sl})(free:∀b o,b∉ch->s.heap.get? b=some o->H b=none->H' b=none)
  (there:∀b o,b∉ch->s.heap.get? b=some o->∃o',h'.get? b=some o')
  (tups:∀b xs,H b=some (.tup xs)->H' b=some (.tup xs))(frzs:∀b o u,H b=some (.frz o u)->H' b=some (.frz o u))(tbls:∀b ps,H b=some (.tbl ps)->∃more,H' b=some (.tbl (ps++more)))
  (ns:∀m,s.heap.Ns X.env.locals m->h'.Ns X.env.locals m)(hok:HOk X.prog X.w H' h')(hg:cR g'):
  Inv X pins σ H' {s with heap:=h',gens:=g',drawn:=d',toks:=t'}:=by
 have neL:∀b o,X.s₀.heap.get? b=some o->b≠X.env.locals:=fun b o e=>vC (vA (uN e) I.ok.above);have neC:∀b o,X.s₀.heap.get? b=some o->b∉X.ex->b∉ch:=fun b o e hx hb=>by
  rcases(hch b hb).1 with z|z
  .exact hx z
  .exact absurd (vA (uN e) z) (wD _)
 have cellK:∀x c,X.env.cells.lookup x=some c->∀v,s.heap.IsCell c v->h'.IsCell c v:=fun x c e v ⟨o,ho,hd⟩=>by
  have nch:c∉ch:=fun z=>(hch c z).2.2.1 x c e rfl;by_cases hc:c∈X.fs
  .obtain⟨sl,q⟩:=slot c o (I.cne x c e) hc nch ho (I.freeC x c e);exact⟨_,q,hd⟩
  .exact⟨o,keep c o (I.cne x c e) hc nch ho (I.freeC x c e),hd⟩
 refine⟨I.ok,I.os,hg,⟨fun b o e n hb hx=>?_,fun b o e n hb hx=>?_,fun b o e n hx=>?_,fun b o e hx=>?_,fun b xs e=>tups b xs (I.base.tups b xs e),fun b o xs e=>frzs b o xs (I.base.frzs b o xs e),fun b ps e=>?_⟩,?_,fun x c e=>?_,?_,fun x c e=>?_,fun p hp=>?_,hok,I.len⟩
 .exact keep b o (neL b o e) hb (neC b o e hx) (I.base.keep b o e n hb hx) (I.base.free b o e n hx)
 .obtain⟨sl,e1⟩:=I.base.slot b o e n hb hx;obtain⟨sl',e2⟩:=slot b _ (neL b o e) hb (neC b o e hx) e1 (I.base.free b o e n hx);exact⟨sl',e2⟩
 .obtain⟨o',e1⟩:=I.base.there b o e hx;exact free b o' (neC b o e hx) e1 (I.base.free b o e n hx)
 .obtain⟨o',e1⟩:=I.base.there b o e hx;exact there b o' (neC b o e hx) e1
 .obtain⟨m1,e1⟩:=I.base.tbls b ps e;obtain⟨m2,e2⟩:=tbls b _ e1;exact⟨m1++m2,by rw[e2,Array.append_assoc]⟩
 .obtain⟨m,hn,hl⟩:=I.loc;refine⟨m,ns m hn,fun i x v e1 e2 e3=>?_⟩;obtain⟨u,r,l⟩:=hl i x v e1 e2 e3;refine⟨u,r,?_⟩;rcases l with l|⟨k,c,e,z⟩
  .exact .inl l
  .exact .inr ⟨k,c,e,cellK x c e _ z⟩
 .obtain⟨v,z⟩:=I.cell x c e;exact⟨v,cellK x c e v z⟩
 .obtain⟨m,⟨o,_,_,ho,_⟩,_⟩:=I.loc;exact free _ o (fun z=>(hch _ z).2.1 rfl) ho I.free
 .obtain⟨v,o,ho,hd⟩:=I.cell x c e;exact free c o (fun z=>(hch c z).2.2.1 x c e rfl) ho (I.freeC x c e)
 .obtain⟨e,n,ne,nf,d⟩:=I.pin p hp;have nch:p.1∉ch:=fun z=>(hch p.1 z).2.2.2 p hp rfl;exact⟨keep p.1 p.2 ne nf nch e n,free p.1 p.2 nch e n,ne,nf,d⟩
def Inv.un{t':Nat}(I:Inv X pins σ H s)(u:Un X.fs [] H H' s.heap h')(hok:HOk X.prog X.w H' h'):Inv X pins σ H' {s with heap:=h',toks:=t'}:=by
 obtain⟨m,⟨o,es,ep,ho,r⟩,_⟩:=id I.loc;obtain⟨sl,hL⟩:=u.any ho I.free (by simp);exact I.step (g':=s.gens) (d':=s.drawn) (ch:=[]) (fun _ z=>nomatch z) (fun b o _ hb _ e n=>u.keep b o e n hb (by simp)) (fun b o _ hb _ e n=>u.slot b o e n hb (by simp)) (fun b o _ e n=>u.free b o e n (by simp)) (fun b o _ e=>u.there b o e (by simp)) u.tups u.frzs u.tbls (fun m' hm=>by
  obtain⟨o',es',ep',ho',r'⟩:=hm;rw[ho] at ho';cases ho';exact⟨_,es',ep',hL,r'⟩) hok I.bare
def Inv.call{g':Array GenState}{t':Nat}{d':Drawn}{ch:List Addr}(I:Inv X pins σ H s)(u:Un (frs X.stack) ch H H' s.heap h')(hok:HOk X.prog X.w H' h')(hg:cR g')
  (hch:∀b∈ch,(b∈X.ex\/↑X.s₀<=b)/\b≠X.env.locals/\(∀x c,X.env.cells.lookup x=some c->c≠b)/\∀p∈X.pn++pins,p.1≠b):
  Inv X pins σ H' {s with heap:=h',gens:=g',drawn:=d',toks:=t'}:=by
 obtain⟨m,⟨o,es,ep,ho,r⟩,_⟩:=id I.loc;obtain⟨sl,hL⟩:=u.any ho I.free fun z=>(hch _ z).2.1 rfl;exact I.step (ch:=ch) hch (fun b o hL hb hc e n=>u.keep b o e n (fun z=>(zO.mp (I.stkSub b z)).elim hL hb) hc) (fun b o _ _ hc e n=>u.any e n hc) (fun b o hc e n=>u.free b o e n hc) (fun b o hc e=>u.there b o e hc) u.tups u.frzs u.tbls (fun m' hm=>by
  obtain⟨o',es',ep',ho',r'⟩:=hm;rw[ho] at ho';cases ho';exact⟨_,es',ep',hL,r'⟩) hok hg
def Inv.turned{t':Nat}{it:Addr}(I:Inv X pins σ H s)(k:∀b o,b≠it->s.heap.get? b=some o->h'.get? b=some o)(hn:H it=none)(hL:it≠X.env.locals)
  (h1:it∈X.ex\/↑X.s₀<=it)(h2:∀x c,X.env.cells.lookup x=some c->c≠it)(h3:∀p∈X.pn++pins,p.1≠it):Inv X pins σ H {s with heap:=h',toks:=t'}:=by
 have nit:∀b u,H b=some u->b≠it:=fun b u e z=>by rw[z,hn] at e;cases e
 refine I.step (g':=s.gens) (d':=s.drawn) (ch:=[it]) (fun b hb=>?_) (fun b o _ _ hc e _=>k b o (fun z=>hc (by simp[z])) e) (fun b o _ _ hc e _=>⟨o.slots,k b o (fun z=>hc (by simp[z])) e⟩) (fun _ _ _ _ n=>n)
  (fun b o hc e=>⟨o,k b o (fun z=>hc (by simp[z])) e⟩) (fun _ _ e=>e) (fun _ _ _ e=>e) (fun b ps e=>⟨#[],by rw[e];simp⟩) (fun m hm=>?_) (fun b u e=>?_) I.bare
 .have e:b=it:=by simpa using hb
  subst e;exact⟨h1,hL,h2,h3⟩
 .obtain⟨o,es,ep,ho,r⟩:=hm;exact⟨o,es,ep,k _ o (xF hL) ho,r⟩
 .refine(I.hok b u e).stay (fun c v hc q=>k c v ?_ q) (fun _ q=>q) fun _ _ q=>q;rcases hc with z|z
  .rw[z];exact nit b u e
  .exact nit c _ z
def Inv.tok(I:Inv X pins σ H s)(t:Nat):Inv X pins σ H {s with toks:=t}:=I.un (h':=s.heap) (t':=t) Un.refl I.hok
theorem Inv.kept{t':Nat}(I:Inv X pins σ H s)(k:∀b u,s.heap.get? b=some u->h'.get? b=some u):Inv X pins σ H {s with heap:=h',toks:=t'}:=I.un (Un.kept k) (I.hok.kept k)
theorem Inv.laid{a:Addr}{o:HO}{t':Nat}(I:Inv X pins σ H s)(k:∀b u,s.heap.get? b=some u->h'.get? b=some u)(hp:↑s<=a)(new:qbj X.prog X.w (upd H a o) h' a o):
  Inv X pins σ (upd H a o) {s with heap:=h',toks:=t'}:=I.un (Un.laid k hp (I.hok.fresh hp)) (I.hok.laid k hp new)
theorem Inv.write{x e:Addr}{o:HO}{t':Nat}(I:Inv X pins σ H s)(mu:Mut (H x))(he:e=x\/H e=some (.own x))(k:∀b u,b≠e->s.heap.get? b=some u->h'.get? b=some u)(heo:∃u,h'.get? e=some u)
  (new:qbj X.prog X.w (upd H x o) h' x o):Inv X pins σ (upd H x o) {s with heap:=h',toks:=t'}:=I.un (Un.write mu he k heo) (I.hok.write mu he k heo new)
def Inv.pins_of{pins':List (Addr×Obj)}(I:Inv X pins σ H s)(h:∀p∈pins',s.heap.get? p.1=some p.2/\H p.1=none/\p.1≠X.env.locals/\p.1∉X.fs/\∀v,p.2.data≠ .cell v):Inv X pins' σ H s:=
 ⟨I.ok,I.os,I.bare,I.base,I.loc,I.cell,I.free,I.freeC,fun p hp=>(zP.mp hp).elim (fun z=>I.pin p (yE _ z)) (h p),I.hok,I.len⟩
def jeu{N:List Str}(hN:N.Nodup){i j:Nat}{x:Str}(a:N[i]?=some x)(b:N[j]?=some x):i=j:=by
 obtain⟨h1,e1⟩:=uG.mp a;obtain⟨h2,e2⟩:=uG.mp b;exact(List.getElem_inj hN).mp (e1.trans e2.symm)
def jcc{M:Model}{A:vI}{E:uB->uD->Prop}{i:Nat}{x:Str}{v:V}{u:uB}{Q:Unit->uD->Prop}(I:Inv X pins σ H s)(hN:X.N.Nodup)(hi:X.N[i]?=some x)(hx:Loc X.env.scope x)(r:qb8 v u)
  (h:∀s',Inv X pins (σ.set i (some v)) H s'->(∃a,bB a s.heap s'.heap/\(a=X.env.locals\/X.env.cells.lookup x=some a))->Q () s')(hf:X.fn x=true\/X.env.scope.names.lookup x=some .local:=by first|exact .inl rfl|exact .inr rfl|assumption):uS M A (storeName X.env x u) Q E s:=by
 obtain⟨m,hn,hl⟩:=id I.loc;have hcls:(X.env.scope.kind==.class ||(X.env.scope.kind==.module && X.env.locals !=X.env.globals))=false:=by rw[I.ok.kind];rfl
 have hiσ:i<σ.length:=by rw[I.len];exact(uG.mp hi).1
 have cne:=I.cne;have tracked:∀{a:Addr} {h':vN},(∃o,s.heap.get? a=some o/\H a=none)->bB a s.heap h'->HOk X.prog X.w H h':=fun {a h'} ha hs b ob e=>by
  obtain⟨_,_,hfree⟩:=ha;refine(I.hok b ob e).stay (fun c w' hc q=>(hs.2 c ?_).trans q) (fun _ q=>q) fun _ _ q=>q;rintro rfl;rcases hc with rfl|hc
  .rw[hfree] at e;cases e
  .rw[hfree] at hc;cases hc
 rcases hx with hk|hk
 .refine wpAny_storeName_local hk hn (fun h' hn' hs=>?_) hcls;obtain⟨oL,_,_,hoL,_⟩:=id hn;refine h _ ⟨I.ok,I.os,I.bare,⟨fun b o e n hb hx=>?_,fun b o e n hb hx=>?_,I.base.free,fun b o e hx=>?_,I.base.tups,I.base.frzs,I.base.tbls⟩,⟨_,hn',fun j y v' e1 e2 e3=>?_⟩,fun y c e=>?_,I.free,I.freeC,fun p hp=>?_,tracked ⟨oL,hoL,I.free⟩ hs,by simpa using I.len⟩ ⟨_,hs,.inl rfl⟩
  .exact(hs.2 b (vC (vA (uN e) I.ok.above))).trans (I.base.keep b o e n hb hx)
  .obtain⟨sl,e1⟩:=I.base.slot b o e n hb hx;exact⟨sl,(hs.2 b (vC (vA (uN e) I.ok.above))).trans e1⟩
  .obtain⟨o',e1⟩:=I.base.there b o e hx;exact⟨o',(hs.2 b (vC (vA (uN e) I.ok.above))).trans e1⟩
  .by_cases hj:j=i
   .subst hj;rw[hi] at e1;cases e1;rw[List.getElem?_set_self hiσ] at e2
    cases e2
    exact⟨u,r,.inl ⟨hk,by simp⟩⟩
   .rw[List.getElem?_set_ne (xF hj)] at e2;obtain⟨u',r',q⟩:=hl j y v' e1 e2 e3;refine⟨u',r',?_⟩;rcases q with⟨k,e⟩|⟨k,c,e,z⟩
    .refine .inl ⟨k,?_⟩;have:y≠x:=fun e=>hj (jeu hN e1 (e▸hi));simp[this,e]
    .exact .inr ⟨k,c,e,z.sameBut hs (cne y c e)⟩
  .obtain⟨w',z⟩:=I.cell y c e;exact⟨w',z.sameBut hs (cne y c e)⟩
  .obtain⟨e,n,ne,nf,d⟩:=I.pin p hp;exact⟨(hs.2 p.1 ne).trans e,n,ne,nf,d⟩
 .have hfn:X.fn x=true:=by
   rcases hf with z|z
   .exact z
   .rw[z] at hk;cases hk
  obtain⟨c,hc⟩:=I.ok.has x (.inl hk);obtain⟨w',z⟩:=I.cell x c hc;refine wpAny_storeName_cell I.ok.kind hk hc z (fun h' hc' hs=>?_);obtain⟨oc,hoc,hocd⟩:=id z;refine h {s with heap:=h'} ⟨I.ok,I.os,I.bare,⟨fun b o e n hb hx=>?_,fun b o e n hb hx=>?_,I.base.free,fun b o e hx=>?_,I.base.tups,I.base.frzs,I.base.tbls⟩,⟨m,hn.sameBut hs (xF (cne x c hc)),fun j y v' e1 e2 e3=>?_⟩,fun y c' e=>?_,I.free,I.freeC,fun p hp=>?_,tracked ⟨oc,hoc,I.freeC x c hc⟩ hs,by simpa using I.len⟩ ⟨c,hs,.inr hc⟩
  .exact(hs.2 b (vC (vA (uN e) (I.ok.cab x c hfn hc)))).trans (I.base.keep b o e n hb hx)
  .obtain⟨sl,e1⟩:=I.base.slot b o e n hb hx;exact⟨sl,(hs.2 b (vC (vA (uN e) (I.ok.cab x c hfn hc)))).trans e1⟩
  .obtain⟨o',e1⟩:=I.base.there b o e hx;exact⟨o',(hs.2 b (vC (vA (uN e) (I.ok.cab x c hfn hc)))).trans e1⟩
  .by_cases hj:j=i
   .subst hj;rw[hi] at e1;cases e1;rw[List.getElem?_set_self hiσ] at e2
    cases e2
    exact⟨u,r,.inr ⟨.inl hk,c,hc,hc'⟩⟩
   .rw[List.getElem?_set_ne (xF hj)] at e2;obtain⟨u',r',q⟩:=hl j y v' e1 e2 e3;refine⟨u',r',?_⟩;rcases q with q|⟨k,c',e,z'⟩
    .exact .inl q
    .refine .inr ⟨k,c',e,z'.sameBut hs ?_⟩;rintro rfl;exact hj (jeu hN e1 (I.ok.inj _ _ _ e hc▸hi))
  .by_cases hcc:c'=c
   .subst hcc;exact⟨_,hc'⟩
   .obtain⟨w2,z2⟩:=I.cell y c' e;exact⟨w2,z2.sameBut hs hcc⟩
  .obtain⟨e,n,ne,nf,d⟩:=I.pin p hp;refine⟨(hs.2 p.1 ?_).trans e,n,ne,nf,d⟩;intro q;rw[q,hoc] at e;have q':oc=p.2:=uW e;exact d w' (by rw[<-q'];exact hocd)
def qg3{M:Model}{A:vI}{E:uB->uD->Prop}{i:Nat}{x:Str}{v:V}{u:uB}{Q:Unit->uD->Prop}(I:Inv X pins σ H s)(hN:X.N.Nodup)(hi:X.N[i]?=some x)(hx:Loc X.env.scope x)(r:qb8 v u)
  (h:∀s',Inv X pins (σ.set i (some v)) H s'->Q () s')(hf:X.fn x=true\/X.env.scope.names.lookup x=some .local:=by first|exact .inl rfl|exact .inr rfl|assumption):uS M A (storeName X.env x u) Q E s:=
 jcc I hN hi hx r (fun s' I' _=>h s' I') hf
def Inv.call'{s':uD}{ch:List Addr}(I:Inv X pins σ H s)(ho:s'.os=s.os)(u:Un (frs X.stack) ch H H' s.heap s'.heap)(hok:HOk X.prog X.w H' s'.heap)(hg:cR s'.gens)
  (hch:∀b∈ch,(b∈X.ex\/↑X.s₀<=b)/\b≠X.env.locals/\(∀x c,X.env.cells.lookup x=some c->c≠b)/\∀p∈X.pn++pins,p.1≠b):Inv X pins σ H' s':=by
 obtain⟨h',g',d',t',o'⟩:=s';have e:o'=s.os:=ho;subst e;exact I.call (g':=g') (t':=t') (d':=d') u hok hg hch
end
abbrev XK:=uB->Option Addr->Hp->Prop
abbrev St:=List (Option V)
abbrev VK:=V->Hp->Prop
abbrev TE:=St->Hp->VK->Prop
abbrev TT:=St->Hp->(Bool->Hp->Prop)->Prop
abbrev TA:=St->Hp->(List V->Hp->Prop)->Prop
structure jbe where
 nx:St->Hp->Prop
 rt:VK
 bk:St->Hp->Prop:=fun _ _=>False
 ct:St->Hp->Prop:=fun _ _=>False
abbrev TS:=jbe->St->Hp->Prop
def EP(X:Cx)(pins:List (Addr×Obj))(σ:St)(Q:VK)(u:uB)(s':uD):Prop:=∃v H',Inv X pins σ H' s'/\qb8 v u/\Q v H'
def TP(X:Cx)(pins:List (Addr×Obj))(σ:St)(Q:Bool->Hp->Prop)(b:Bool)(s':uD):Prop:=∃H',Inv X pins σ H' s'/\Q b H'
def AP(X:Cx)(pins:List (Addr×Obj))(σ:St)(Q:List V->Hp->Prop)(us:List uB)(s':uD):Prop:=∃vs H',Inv X pins σ H' s'/\qba vs us/\Q vs H'
def SP(X:Cx)(pins:List (Addr×Obj))(D:jbe)(f:Flow)(s':uD):Prop:=
 match f with
 | .next=>∃σ' H',Inv X pins σ' H' s'/\D.nx σ' H'
 | .brk=>∃σ' H',Inv X pins σ' H' s'/\D.bk σ' H'
 | .cont=>∃σ' H',Inv X pins σ' H' s'/\D.ct σ' H'
 | .ret u=>∃v σ' H',Inv X pins σ' H' s'/\qb8 v u/\D.rt v H'
def PE(X:Cx)(e:vT)(t:TE):Prop:=
 ∀(pins:List (Addr×Obj))(s:uD)(σ:St)(H:Hp)(Q:VK),Inv X pins σ H s->t σ H Q->uS (uU X.prog X.w) X.A (wK e X.env) (EP X pins σ Q) X.xe s
def PT(X:Cx)(e:vT)(t:TT):Prop:=
 ∀(pins:List (Addr×Obj))(s:uD)(σ:St)(H:Hp)(Q:Bool->Hp->Prop),Inv X pins σ H s->t σ H Q->uS (uU X.prog X.w) X.A (isTrue e X.env (wK e X.env)) (TP X pins σ Q) X.xe s
def PW(X:Cx)(e:vT)(t:TT):Prop:=
 ∀(whole:Sem uB)(pins:List (Addr×Obj))(s:uD)(σ:St)(H:Hp)(Q:Bool->Hp->Prop),Inv X pins σ H s->t σ H Q->uS (uU X.prog X.w) X.A (isTrue e X.env whole) (TP X pins σ Q) X.xe s
def PW.pt{t:TT}(h:PW X e t):PT X e t:=h _
def PA(X:Cx)(es:List vT)(t:TA):Prop:=
 ∀(pos:Pos)(pins:List (Addr×Obj))(s:uD)(σ:St)(H:Hp)(Q:List V->Hp->Prop),Inv X pins σ H s->t σ H Q->uS (uU X.prog X.w) X.A (spliced (wO pos (uZ es X.env))) (AP X pins σ Q) X.xe s
def PS(X:Cx)(st:Stmt)(t:TS):Prop:=
 ∀(pins:List (Addr×Obj))(s:uD)(σ:St)(H:Hp)(D:jbe),Inv X pins σ H s->t D σ H->uS (uU X.prog X.w) X.A (exec st X.env) (SP X pins D) X.xe s
def PSs(X:Cx)(st:List Stmt)(t:TS):Prop:=
 ∀(pins:List (Addr×Obj))(s:uD)(σ:St)(H:Hp)(D:jbe),Inv X pins σ H s->t D σ H->uS (uU X.prog X.w) X.A (execs st X.env) (SP X pins D) X.xe s
def thn{α:Type}{t:Sem α}{Q Q':α->uD->Prop}{M:Model}{E:uB->uD->Prop}(h:uS M A t Q E s)(hQ:∀a s,Q a s->Q' a s):uS M A t Q' E s:=vS h hQ fun _ _ x=>x
section
variable{X:Cx}
def bin{a b:vT}{ta tb:TE}(ha:PE X a ta)(hb:PE X b tb){pins:List (Addr×Obj)}{s:uD}{σ:St}{H:Hp}{R:V->V->Hp->Prop}(I:Inv X pins σ H s)(h:ta σ H fun x H1=>tb σ H1 fun y H2=>R x y H2)
  {α:Type}{Q:α->uD->Prop}{f:uB->uB->Sem α}
  (hf:∀v u s2 x y H2,Inv X pins σ H2 s2->qb8 x v->qb8 y u->R x y H2->uS (uU X.prog X.w) X.A (f v u) Q X.xe s2):
  uS (uU X.prog X.w) X.A (wK a X.env) (fun v s₁=>uS (uU X.prog X.w) X.A (wK b X.env) (fun u s₂=>uS (uU X.prog X.w) X.A (f v u) Q X.xe s₂) X.xe s₁) X.xe s:=by
 refine thn (ha pins s σ H _ I h) fun v s1 ⟨x,H1,I1,r1,q1⟩=>?_;refine thn (hb pins s1 σ H1 _ I1 q1) fun u s2 ⟨y,H2,I2,r2,q2⟩=>?_;exact hf v u s2 x y H2 I2 r1 r2 q2
def jui(i:Nat):TE:=fun σ H Q=>∃v,σ[i]?=some (some v)/\Q v H
def tC(v:V):TE:=fun _ H Q=>Q v H
def jqf(hN:X.N[i]?=some x)(hv:Vis X.env.scope x)(hd:(x==("__debug__":Str))=false:=by decide)(hcd:(x==("__classdict__":Str))=false:=by decide):PE X (.Name x pos) (jui i):=by
 intro pins s σ H Q I h;obtain⟨v,e,h⟩:=h;obtain⟨m,hn,hl⟩:=I.loc;obtain⟨u,r,l⟩:=hl i x v hN e hv;have fin:EP X pins σ Q u s:=⟨v,H,I,r,h⟩;rcases l with⟨hk,hm⟩|⟨hk,c,hc,hcell⟩
 .exact wpAny_Name (wpAny_loadName_local I.ok.kind hk hn hm fin) hd
 .rcases hk with hk|hk
  .exact wpAny_Name (wpAny_loadName_cell I.ok.kind hk hc hcell fin) hd
  .exact wpAny_Name (wpAny_loadName_free I.ok.kind hk hc hcell fin hcd) hd
def qa4{i j pos} :PE X (.Constant (.int i) j pos) (tC (.int i)):=fun _ _ _ H _ I h=>wpAny_Constant_int ⟨.int i,H,I.tok _,⟨_,rfl⟩,h⟩
def qeo{b j pos} :PE X (.Constant (.bool b) j pos) (tC (.bl b)):=fun _ _ _ H _ I h=>Constant_bool ⟨.bl b,H,I,rfl,h⟩
def qcm{j pos} :PE X (.Constant .none j pos) (tC .non):=fun _ _ _ H _ I h=>Constant_none ⟨.non,H,I,rfl,h⟩
def qcl{x j pos} :PE X (.Constant (.str x) j pos) (tC (.str x)):=fun _ _ _ H _ I h=>Calls.Constant_str ⟨.str x,H,I.tok _,⟨_,rfl⟩,h⟩
def Gl(X:Cx)(x:Str):Prop:=X.env.kindOf x=some .globalImplicit
def qds{E:uB->uD->Prop}{pins:List (Addr×Obj)}{s:uD}{σ:St}{H:Hp}{x:Str}{u:uB}{pos:Pos}{Q:uB->uD->Prop}(I:Inv X pins σ H s)(hg:Gl X x)(hm:X.mg x=some u)(h:Q u s)
  (hd:(x==("__debug__":Str))=false:=by decide):uS (uU X.prog X.w) X.A (wK (.Name x pos) X.env) Q E s:=
 Calls.Name_function_global I.ok.kind hg (Calls.loadGlobal_global (by rw[I.ok.glob];exact I.mod.glob.keeps I.bk) hm h) hd
def qf8{E:uB->uD->Prop}{pins:List (Addr×Obj)}{s:uD}{σ:St}{H:Hp}{x:Str}{u:uB}{pos:Pos}{Q:uB->uD->Prop}(I:Inv X pins σ H s)(hg:Gl X x)(hm:X.mg x=none)(hv:bA x=some u)(h:Q u s)
  (hn:x≠"__name__":=by decide)(hd:(x==("__debug__":Str))=false:=by decide):uS (uU X.prog X.w) X.A (wK (.Name x pos) X.env) Q E s:=by
 obtain⟨mb,h1,h2⟩:=I.mod.blt;exact Calls.Name_function_global I.ok.kind hg (Calls.loadGlobal_builtin (by rw[I.ok.glob];exact I.mod.glob.keeps I.bk) hm (by rw[I.ok.blt];exact h1.keeps I.bk) ((h2 x hn).trans hv) h) hd
def qec(hg:Gl X x)(hm:X.mg x=some u)(r:qb8 v u)(hd:(x==("__debug__":Str))=false:=by decide):PE X (.Name x pos) (tC v):=
 fun _ _ _ H _ I h=>qds I hg hm ⟨v,H,I,r,h⟩ hd
def qda(hg:Gl X x)(hm:X.mg x=none)(hv:bA x=some u)(r:qb8 v u)(hn:x≠"__name__":=by decide)(hd:(x==("__debug__":Str))=false:=by decide):PE X (.Name x pos) (tC v):=
 fun _ _ _ H _ I h=>qf8 I hg hm hv ⟨v,H,I,r,h⟩ hn hd
variable{a b:vT}{ta tb:TE}{pos:Pos}
def PC(X:Cx)(op:CmpOp)(a b:vT)(t:TE):Prop:=
 ∀(pins:List (Addr×Obj))(s:uD)(σ:St)(H:Hp)(Q:VK),Inv X pins σ H s->t σ H Q->
  uS (uU X.prog X.w) X.A (wK a X.env) (fun v s₁=>uS (uU X.prog X.w) X.A (wK b X.env) (fun u s₂=>uS (uU X.prog X.w) X.A (wC op v u) (EP X pins σ Q) X.xe s₂) X.xe s₁) X.xe s
def tB(t:TE):TT:=fun σ H Q=>t σ H fun x H1=>∃c,x=.bl c/\Q c H1
def jqg{t:TE}(h:PC X op a b t)(h1:bS op b=false:=by first|exact nobehind _ ∅ ∅ |rfl):PE X (.Compare a [op] [b] pos) t:=fun pins s σ H Q I hw=>wpAny_Compare1 (h pins s σ H Q I hw) h1
def jqh{t:TE}(h:PC X op a b t)(h1:bS op b=false:=by first|exact nobehind _ ∅ ∅ |rfl):PT X (.Compare a [op] [b] pos) (tB t):=by
 intro pins s σ H Q I hw;refine wpAny_isTrue_Compare1 (thn (h pins s σ H _ I hw) fun v s1 h1=>thn h1 fun u s2 h2=>thn h2 fun c s3 ⟨x,H1,I1,r1,q1⟩=>?_) h1;obtain⟨d,rfl,q⟩:=q1
 cases r1
 exact wH ⟨H1,I1,q⟩
def qby{t:TE}(h:PE X e t)(he:∀whole,isTrue e X.env whole=(do let v<-whole;standAt e.pos;fY [v] (truthy v)):=by intro _;rfl):PT X e (tB t):=by
 intro pins s σ H Q I hw;refine isTrue_plain (thn (h pins s σ H _ I hw) fun v s1 ⟨x,H1,I1,r1,q1⟩=>?_) (he _);obtain⟨d,rfl,q⟩:=q1
 cases r1
 exact wH ⟨H1,I1,q⟩
variable{tA tB':TT}{rest:List vT}
def jwp(t u:TT):TT:=fun σ H Q=>t σ H fun c H1=>if c=true then u σ H1 Q else Q false H1
def tOr(t u:TT):TT:=fun σ H Q=>t σ H fun c H1=>if c=true then Q true H1 else u σ H1 Q
def jwq(t:TT):TT:=fun σ H Q=>t σ H fun c H1=>Q (!c) H1
def jdt(ha:PT X a tA):PW X (.BoolOp .And [a] pos) tA:=by
 intro wh pins s σ H Q I h;refine isTrue_and (thn (ha pins s σ H Q I h) fun c s1 e=>?_)
 cases c with
 |true=>exact isTrue_and_nil e
 |false=>exact e
def jev(ha:PT X a tA):PW X (.BoolOp .Or [a] pos) tA:=by
 intro wh pins s σ H Q I h;refine isTrue_or (thn (ha pins s σ H Q I h) fun c s1 e=>?_)
 cases c with
 |false=>exact isTrue_or_nil e
 |true=>exact e
def jgw(ha:PT X a tA)(hb:PW X (.BoolOp .And (b::rest) pos) tB'):PW X (.BoolOp .And (a::b::rest) pos) (jwp tA tB'):=by
 intro wh pins s σ H Q I h;refine isTrue_and (thn (ha pins s σ H _ I h) fun c s1 ⟨H1,I1,q1⟩=>?_)
 cases c with
 |true=>exact hb wh pins s1 σ H1 Q I1 q1
 |false=>exact⟨H1,I1,q1⟩
def jgx(ha:PT X a tA)(hb:PW X (.BoolOp .Or (b::rest) pos) tB'):PW X (.BoolOp .Or (a::b::rest) pos) (tOr tA tB'):=by
 intro wh pins s σ H Q I h;refine isTrue_or (thn (ha pins s σ H _ I h) fun c s1 ⟨H1,I1,q1⟩=>?_)
 cases c with
 |true=>exact⟨H1,I1,q1⟩
 |false=>exact hb wh pins s1 σ H1 Q I1 q1
def qcq(ha:PT X a tA):PT X (.UnaryOp .Not a pos) (jwq tA):=by
 intro pins s σ H Q I h;exact isTrue_not (ha pins s σ H (fun c H1=>Q (!c) H1) I h)
def jqi(ta tb:TE):TE:=fun σ H Q=>ta σ H fun x H1=>∃c,x=.bl c/\if c=true then tb σ H1 Q else Q (.bl false) H1
def jwr(ta tb:TE):TE:=fun σ H Q=>ta σ H fun x H1=>∃c,x=.bl c/\if c=true then Q (.bl true) H1 else tb σ H1 Q
def jqj(ta:TE):TE:=fun σ H Q=>ta σ H fun x H1=>∃c,x=.bl c/\Q (.bl (!c)) H1
def qek{op}{t:TE}(h:PE X a t):PE X (.BoolOp op [a] pos) t:=fun pins s σ H Q I hw=>BoolOp_one (h pins s σ H Q I hw)
def qf2(ha:PE X a ta)(hb:PE X (.BoolOp .And (b::rest) pos) tb):PE X (.BoolOp .And (a::b::rest) pos) (jqi ta tb):=by
 intro pins s σ H Q I h;refine BoolOp_and (thn (ha pins s σ H _ I h) fun v s1 ⟨x,H1,I1,r1,q1⟩=>?_);obtain⟨c,rfl,q1⟩:=q1
 cases r1
 refine wH ?_
 cases c with
 |true=>exact hb pins s1 σ H1 Q I1 q1
 |false=>exact⟨.bl false,H1,I1,rfl,q1⟩
def jqk(ha:PE X a ta)(hb:PE X (.BoolOp .Or (b::rest) pos) tb):PE X (.BoolOp .Or (a::b::rest) pos) (jwr ta tb):=by
 intro pins s σ H Q I h;refine BoolOp_or (thn (ha pins s σ H _ I h) fun v s1 ⟨x,H1,I1,r1,q1⟩=>?_);obtain⟨c,rfl,q1⟩:=q1
 cases r1
 refine wH ?_
 cases c with
 |false=>exact hb pins s1 σ H1 Q I1 q1
 |true=>exact⟨.bl true,H1,I1,rfl,q1⟩
def jl1(ha:PE X a ta):PE X (.UnaryOp .Not a pos) (jqj ta):=by
 intro pins s σ H Q I h;refine UnaryOp_ (thn (ha pins s σ H _ I h) fun v s1 ⟨x,H1,I1,r1,q1⟩=>?_);obtain⟨c,rfl,q1⟩:=q1
 cases r1
 exact not_of (wH ⟨.bl (!c),H1,I1,rfl,q1⟩)
def tIf(t:TT)(ta tb:TE):TE:=fun σ H Q=>t σ H fun c H1=>if c=true then ta σ H1 Q else tb σ H1 Q
def jj8(hc:PT X c tA)(ha:PE X a ta)(hb:PE X b tb):PE X (.IfExp c a b pos) (tIf tA ta tb):=by
 intro pins s σ H Q I h;refine wpAny_IfExp (thn (hc pins s σ H _ I h) fun d s1 ⟨H1,I1,q1⟩=>?_)
 cases d with
 |true=>exact ha pins s1 σ H1 Q I1 q1
 |false=>exact hb pins s1 σ H1 Q I1 q1
end
def SqL(K:uT)(H:Hp)(a:Addr)(xs:List V):Prop:=
 Rd H a (.lst xs)\/
  ∃(o:Obj)(its:Array uB)(n:Nat),K.lookup a=some o/\o.cls=.type "list"/\o.dict=none/\o.data=.seq its n/\its.size<=sizeLine/\qba xs its.toList
def SqT(K:uT)(H:Hp)(a:Addr)(xs:List V):Prop:=
 Rd H a (.tup xs)\/
  ∃(o:Obj)(its:Array uB)(n:Nat),K.lookup a=some o/\o.cls=.type "tuple"/\o.data=.seq its n/\its.size<=sizeLine/\qba xs its.toList
def jws:uB->Option V
 | .none=>some .non
 | .bool b=>some (.bl b)
 | .int i _=>some (.int i)
 | .str x _=>some (.str x)
 | .bytes b _=>some (.byt b)
 | .float b _=>some (.flt b)
 | .ref a=>some (.ref a)
 | .type n=>some (.ty n)
 |_=>none
def qb8.abs{x:V}(r:qb8 x u):jws u=some x:=by
 cases x with
 |non=>cases r;rfl
 |bl _=>cases r;rfl
 |int _=>obtain⟨t,rfl⟩:=r;rfl
 |str _=>obtain⟨t,rfl⟩:=r;rfl
 |byt _=>obtain⟨t,rfl⟩:=r;rfl
 |flt _=>obtain⟨t,rfl⟩:=r;rfl
 |ref _=>cases r;rfl
 |ty _=>cases r;rfl
def qb8.inj{x y:V}(r:qb8 x u)(q:qb8 y u):x=y:=uW (r.abs.symm.trans q.abs)
theorem qba.inj:∀{xs ys:List V} {us:List uB},qba xs us->qba ys us->xs=ys
 |_,_,_,.nil,.nil=>rfl
 |_,_,_,.cons r t,.cons r' t'=>by rw[r.inj r',qba.inj t t']
section
variable{X:Cx}{pins:List (Addr×Obj)}{σ:St}{H:Hp}{s:uD}{a:Addr}{xs ys:List V}
def SqL.of(h:H a=some (.lst xs)):SqL K H a xs:=.inl (.inl h)
def SqT.of(h:H a=some (.tup xs)):SqT K H a xs:=.inl (.inl h)
def Inv.list(I:Inv X pins σ H s)(h:SqL X.K H a xs):∃its:List uB,qba xs its/\PlainL s.heap a its.toArray/\xs.length<=sizeLine:=by
 rcases h with h|⟨o,its,n,hk,hc,hd,hs,hz,r⟩
 .obtain⟨z,its,n,r,e⟩:=h.ok I.hok;exact⟨its,r,⟨_,n,e,rfl,rfl,rfl⟩,z⟩
 .refine⟨its.toList,r,⟨o,n,I.kIn a o hk,hc,hd,by simpa using hs⟩,?_⟩;have e:=r.length;simp only[cC] at e;omega
def Inv.tuple(I:Inv X pins σ H s)(h:SqT X.K H a xs):∃its:List uB,qba xs its/\IsTup s.heap a its.toArray/\xs.length<=sizeLine:=by
 rcases h with h|⟨o,its,n,hk,hc,hs,hz,r⟩
 .obtain⟨z,its,r,p⟩:=h.ok I.hok;exact⟨its,r,p,z⟩
 .refine⟨its.toList,r,⟨o,I.kIn a o hk,hc,n,by simpa using hs⟩,?_⟩;have e:=r.length;simp only[cC] at e;omega
def Inv.list_inj(I:Inv X pins σ H s)(h:SqL X.K H a xs)(h':SqL X.K H a ys):xs=ys:=by
 obtain⟨its,r,⟨o,n,e,_,_,d⟩,_⟩:=I.list h;obtain⟨its',r',⟨o',n',e',_,_,d'⟩,_⟩:=I.list h';rw[e] at e';cases e';rw[d] at d';injection d' with d1 _
 have:its=its':=by simpa using congrArg Array.toList d1
 subst this;exact r.inj r'
end
abbrev Cx.wish(X:Cx)(E:uB->uD->Prop):Cx:={X with xe:=E}
abbrev Cx.nox(X:Cx):Cx:=X.wish fun _ _=>False
theorem Cx.Ok.wish(ok:X.Ok)(E:uB->uD->Prop):(X.wish E).Ok:=
 ⟨ok.mod,ok.kind,ok.glob,ok.blt,ok.above,ok.inj,ok.has,ok.cab,ok.hd,ok.frames,ok.stk,ok.exf,ok.bs,ok.bsz,ok.noex,ok.exfs,ok.funs,ok.frf⟩
def Cx.Ok.unwish{E:uB->uD->Prop}(ok:(X.wish E).Ok):X.Ok:=
 ⟨ok.mod,ok.kind,ok.glob,ok.blt,ok.above,ok.inj,ok.has,ok.cab,ok.hd,ok.frames,ok.stk,ok.exf,ok.bs,ok.bsz,ok.noex,ok.exfs,ok.funs,ok.frf⟩
section
variable{X:Cx}{pins:List (Addr×Obj)}{σ:St}{H:Hp}{s:uD}{E:uB->uD->Prop}
theorem Inv.wish(I:Inv X pins σ H s)(E:uB->uD->Prop):Inv (X.wish E) pins σ H s:=⟨I.ok.wish E,I.os,I.bare,I.base,I.loc,I.cell,I.free,I.freeC,I.pin,I.hok,I.len⟩
theorem Inv.unwish(I:Inv (X.wish E) pins σ H s):Inv X pins σ H s:=⟨I.ok.unwish,I.os,I.bare,I.base,I.loc,I.cell,I.free,I.freeC,I.pin,I.hok,I.len⟩
theorem SP.unwish{D:jbe}{f:Flow}{s':uD}(h:SP (X.wish E) pins D f s'):SP X pins D f s':=by
 cases f with
 |next=>obtain⟨σ',H',I,q⟩:=h;exact⟨σ',H',I.unwish,q⟩
 |brk=>obtain⟨σ',H',I,q⟩:=h;exact⟨σ',H',I.unwish,q⟩
 |cont=>obtain⟨σ',H',I,q⟩:=h;exact⟨σ',H',I.unwish,q⟩
 |ret u=>obtain⟨v,σ',H',I,r,q⟩:=h;exact⟨v,σ',H',I.unwish,r,q⟩
theorem PSs.nox{st:List Stmt}{t:TS}(h:PSs X.nox st t):PSs X st t:=fun pins s σ H D I hw=>
 vS (h pins s σ H D (I.wish _) hw) (fun _ _ q=>q.unwish) fun _ _ z=>vY z
end
section
variable{X:Cx}{st:Stmt}{rest:List Stmt}{t u:TS}{e:vT}{te:TE}{pos:Pos}
def jql:TS:=fun D σ H=>D.nx σ H
def jwt(t u:TS):TS:=fun D σ H=>t {D with nx:=u D} σ H
def qao:PSs X [] jql:=fun _ _ σ H _ I h=>eC ⟨σ,H,I,h⟩
def qa2(h1:PS X st t)(h2:PSs X rest u):PSs X (st::rest) (jwt t u):=by
 intro pins s σ H D I h;refine wpAny_execs_cons (thn (h1 pins s σ H {D with nx:=u D} I h) fun f s1 q=>?_)
 cases f with
 |next=>
  obtain⟨σ',H',I',q⟩:=q;exact h2 pins s1 σ' H' D I' q
 |ret v=>exact q
 |brk=>exact q
 |cont=>exact q
def qa6(h1:PS X st t):PSs X [st] t:=by
 intro pins s σ H D I h;refine wpAny_execs_cons (thn (h1 pins s σ H D I h) fun f s1 q=>?_)
 cases f with
 |next=>exact eC q
 |ret v=>exact q
 |brk=>exact q
 |cont=>exact q
def Inv.quiet(I:Inv X pins σ H s):interactive X.env=false:=by simp[interactive,I.ok.kind]
def jqm(te:TE):TS:=fun D σ H=>te σ H fun _ H1=>D.nx σ H1
def qb2(he:PE X e te)(hs:eZ e none pos.line X.env=pure false:=by rfl):PS X (.Expr e pos) (jqm te):=by
 intro pins s σ H D I h;exact wpAny_Expr_any (thn (he pins s σ H _ I h) fun v s1 ⟨x,H1,I1,r1,q1⟩=>⟨σ,H1,I1,q1⟩) I.quiet hs
def jwu(te:TE):TS:=fun D σ H=>te σ H D.rt
def qak(he:PE X e te):PS X (.Return (some e) pos) (jwu te):=by
 intro pins s σ H D I h;exact wpAny_Return_some (thn (he pins s σ H _ I h) fun v s1 ⟨x,H1,I1,r1,q1⟩=>⟨x,σ,H1,I1,r1,q1⟩)
def jwv(c:TT)(t u:TS):TS:=fun D σ H=>c σ H fun b H1=>if b=true then t D σ H1 else u D σ H1
def qb5{a b:List Stmt}{tc:TT}(hc:PT X c tc)(ha:PSs X a t)(hb:PSs X b u):PS X (.If c a b pos) (jwv tc t u):=by
 intro pins s σ H D I h;refine wpAny_If (thn (hc pins s σ H _ I h) fun d s1 ⟨H1,I1,q1⟩=>?_)
 cases d with
 |true=>exact ha pins s1 σ H1 D I1 q1
 |false=>exact hb pins s1 σ H1 D I1 q1
end
abbrev TG:=V->St->Hp->(St->Hp->Prop)->Prop
abbrev TGs:=List V->St->Hp->(St->Hp->Prop)->Prop
def PG(X:Cx)(target:vT)(t:TG):Prop:=
 ∀(pins:List (Addr×Obj))(s:uD)(σ:St)(H:Hp)(v:V)(u:uB)(Q:St->Hp->Prop),Inv X pins σ H s->qb8 v u->t v σ H Q->
  uS (uU X.prog X.w) X.A (assign target X.env u) (fun _ s'=>∃σ' H',Inv X pins σ' H' s'/\Q σ' H') X.xe s
def PGs(X:Cx)(ts:List vT)(t:TGs):Prop:=
 ∀(pins:List (Addr×Obj))(s:uD)(σ:St)(H:Hp)(vs:List V)(us:List uB)(Q:St->Hp->Prop),Inv X pins σ H s->qba vs us->t vs σ H Q->
  uS (uU X.prog X.w) X.A (assignInOrder ((dO ts X.env).map (·.2)) us) (fun _ s'=>∃σ' H',Inv X pins σ' H' s'/\Q σ' H') X.xe s
section
variable{X:Cx}{pos:Pos}
def jcd(i:Nat):TG:=fun v σ H Q=>Q (σ.set i (some v)) H
def qab(hN:X.N.Nodup)(hi:X.N[i]?=some x)(hx:Loc X.env.scope x)(hf:X.fn x=true\/X.env.scope.names.lookup x=some .local:=by first|exact .inl rfl|exact .inr rfl|assumption):PG X (.Name x pos) (jcd i):=by
 intro pins s σ H v u Q I r h;exact gA (qg3 I hN hi hx r (fun s' I'=>⟨_,H,I',h⟩) hf)
def jww:TGs:=fun vs σ H Q=>vs=[]/\Q σ H
def jqn(t:TG)(u:TGs):TGs:=fun vs σ H Q=>∃v r,vs=v::r/\t v σ H fun σ' H'=>u r σ' H' Q
def qch:PGs X [] jww:=by
 intro pins s σ H vs us Q I r h;obtain⟨e,h⟩:=h;subst e
 cases r
 exact assignInOrder_nil ⟨σ,H,I,h⟩
def qaf{e:vT}{es:List vT}{t:TG}{u:TGs}(h1:PG X e t)(h2:PGs X es u)
  (hs:(dO (e::es) X.env).map (·.2)=assign e X.env ::(dO es X.env).map (·.2):=by rfl):PGs X (e::es) (jqn t u):=by
 intro pins s σ H vs us Q I r h;obtain⟨v,vr,e1,h⟩:=h;subst e1
 cases r with
 |cons r rr=>
  rw[hs];refine assignInOrder_cons (thn (h1 pins s σ H _ _ _ I r h) fun _ s1 ⟨σ1,H1,I1,q1⟩=>?_);exact h2 pins s1 σ1 H1 _ _ Q I1 rr q1
def jwx(K:uT)(n:Nat)(t:TGs):TG:=fun v σ H Q=>∃a xs,v=.ref a/\SqT K H a xs/\xs.length=n/\t xs σ H Q
def qd8{es:List vT}{k:Nat}{t:TGs}{n:Nat}(hc:X.calm=true)(h:PGs X es t)
  (hn:(dO es X.env).length=n:=by rfl)(hst:(dO es X.env).findIdx? (·.1)=none:=by rfl):PG X (.Tuple es k pos) (jwx X.K n t):=by
 intro pins s σ H v u Q I r hw;obtain⟨a,xs,e1,hq,hl,hw⟩:=hw;subst e1
 cases r
 obtain⟨its,rv,ht,hz⟩:=I.tuple hq;refine assign_Tuple_tuple (I.ok.hd hc) ht (by simp[hn,<-hl,rv.length]) hst fun h' hx=>?_;have I1:Inv X pins σ H {s with heap:=h'}:=I.kept (t':=s.toks) fun b o e=>hx b o (vC (uN e)) e;exact h pins _ σ H xs _ Q I1 (by simpa using rv) hw
def jt8(te:TE)(g:TG):TS:=fun D σ H=>te σ H fun x H1=>g x σ H1 D.nx
def qei{tg:vT}{te:TE}{g:TG}(he:PE X e te)(hg:PG X tg g)(hs:swapsWithSole [tg] e pos.line X.env=pure false:=by rfl)(hw:swappedStores [tg] e X.env=pure none:=by rfl)
  (h1:(dO [tg] X.env).map (·.2)=[assign tg X.env]:=by rfl):PS X (.Assign [tg] e pos) (jt8 te g):=by
 intro pins s σ H D I h;refine wpAny_Assign_stores (thn (he pins s σ H _ I h) fun v s1 ⟨x,H1,I1,r1,q1⟩=>?_) hs hw;rw[h1];exact thn (hg pins s1 σ H1 x v _ I1 r1 q1) fun _ s2 q=>q
def qae{te:TE}{pos':Pos}(hN:X.N.Nodup)(hi:X.N[i]?=some x)(hx:Loc X.env.scope x)(he:PE X e te)(hs:eZ e (some (.Name x pos')) pos.line X.env=pure false:=by rfl)(hf:X.fn x=true\/X.env.scope.names.lookup x=some .local:=by first|exact .inl rfl|exact .inr rfl|assumption):
  PS X (.Assign [.Name x pos'] e pos) (jt8 te (jcd i)):=by
 intro pins s σ H D I h;refine wpAny_Assign_Name (thn (he pins s σ H _ I h) fun v s1 ⟨y,H1,I1,r1,q1⟩=>?_) hs;exact qg3 I1 hN hi hx r1 (fun s2 I2=>⟨_,H1,I2,q1⟩) hf
end
section
variable{X:Cx}{pos:Pos}
def jl2(c:TT)(tb:TS):TS:=fun D σ H=>∃W:Nat->St->Hp->Prop,(∃m,W m σ H)/\∀m σ H,W m σ H->
 c σ H fun b H1=>if b=true then ∃N:St->Hp->Prop,(∀σ' H',N σ' H'->∃m',m'<m/\W m' σ' H')/\tb {D with nx:=N,ct:=N,bk:=D.nx} σ H1 else D.nx σ H1
def jj9{body:List Stmt}{tc:TT}{tb:TS}(hp:PassesOwn (uU X.prog X.w) X.A X.env X.xe)(hc:PT X c tc)(hb:PSs X body tb):PS X (.While c body [] pos) (jl2 tc tb):=by
 intro pins s σ H D I h;obtain⟨W,⟨m0,w0⟩,turn⟩:=h;refine wpAny_While (codeAny_whileLoop (fun n s'=>∃σ' H',Inv X pins σ' H' s'/\W n σ' H') ?_ m0 ⟨σ,H,I,w0⟩);rintro n s1 ⟨σ1,H1,I1,w1⟩;refine xQ hp (thn (hc pins s1 σ1 H1 _ I1 (turn n σ1 H1 w1)) fun b s2 ⟨H2,I2,q2⟩=>?_)
 cases b with
 |true=>
  obtain⟨N,hN,q2⟩:=q2;rw[iB rfl];refine xQ hp (thn (hb pins s2 σ1 H2 _ I2 q2) fun f s3 q3=>?_)
  cases f with
  |next=>
   obtain⟨σ3,H3,I3,n3⟩:=q3;obtain⟨m',hm,w3⟩:=hN σ3 H3 n3;exact⟨m',hm,σ3,H3,I3,w3⟩
  |cont=>
   obtain⟨σ3,H3,I3,n3⟩:=q3;obtain⟨m',hm,w3⟩:=hN σ3 H3 n3;exact⟨m',hm,σ3,H3,I3,w3⟩
  |brk=>exact q3
  |ret v=>exact q3
 |false=>
  rw[iA uJ];exact eC ⟨σ1,H2,I2,q2⟩
end
structure It where
 go:Nat->Hp->Prop
 yld:Nat->Hp->V->Hp->Prop
 stop:Nat->Hp->Prop
def jdo(X:Cx)(pins:List (Addr×Obj))(H:Hp)(b:Addr):Prop:=
 H b=none/\b≠X.env.locals/\b∉X.fs/\(b∈X.ex\/↑X.s₀<=b)/\(∀x c,X.env.cells.lookup x=some c->c≠b)/\∀p∈X.pn++pins,p.1≠b
def Inv.fpOk{H':Hp}(I:Inv X pins σ H s)(hb:↑s<=b)(hn:H' b=none):jdo X pins H' b:=by
 refine⟨hn,dP (vA I.lt hb),I.nofs hb,.inr (vP I.sz hb),fun x c e z=>?_,fun p hp z=>?_⟩
 .obtain⟨v,q⟩:=I.cell x c e;exact absurd (vA q.lt (by rw[z];exact hb)) (wD _)
 .exact absurd (vA (uN (I.pin p hp).1) (by rw[z];exact hb)) (wD _)
structure jl3(P:uX)(w:vG)(K:uT)(tg:vT)(J:It)(fp:List Addr)(it:Addr)(tn:Nat->vN->Prop):Prop where
 mem:it∈fp
 obj:∀i h,tn i h->∀b∈fp,∃o,h.get? b=some o/\∀v,o.data≠ .cell v
 keep:∀i h h',tn i h->(∀b∈fp,∀o,h.get? b=some o->h'.get? b=some o)->tn i h'
 item:∀(X:Cx),X.prog=P->X.w=w->X.K=K->X.calm=true->∀(i:Nat)(pins:List (Addr×Obj))(s:uD)(σ:St)(H:Hp)(E:uB->uD->Prop),Inv X pins σ H s->(∀b∈fp,jdo X pins H b)->tn i s.heap->J.go i H->
  uS (uU P w) X.A (dA (.ref it)) (fun r s1=>∃u,r=some u/\
   uS (uU P w) X.A (letOwnedTupleGo tg (.ref it) u) (fun _ s2=>∃x H',Inv X pins σ H' s2/\qb8 x u/\J.yld i H x H'/\tn (i+1) s2.heap/\∀b∈fp,H' b=none) E s1) E s
 done:∀(X:Cx),X.prog=P->X.w=w->X.K=K->X.calm=true->∀(i:Nat)(pins:List (Addr×Obj))(s:uD)(σ:St)(H:Hp)(E:uB->uD->Prop),Inv X pins σ H s->(∀b∈fp,jdo X pins H b)->tn i s.heap->J.stop i H->
  uS (uU P w) X.A (dA (.ref it)) (fun r s1=>r=none/\Inv X pins σ H s1) E s
 self:∀(A:vI)(i:Nat)(s:uD)(Q:uB->uD->Prop)(E:uB->uD->Prop),tn i s.heap->Q (.ref it) s->uS (uU P w) A (pyIter (.ref it)) Q E s
abbrev TI:=St->Hp->(It->Hp->Prop)->Prop
def PIE(X:Cx)(pins:List (Addr×Obj))(σ:St)(tg:vT)(R:It->Hp->Prop)(itv:uB)(s2:uD):Prop:=
 ∃(it:Addr)(fp:List Addr)(tn:Nat->vN->Prop)(J:It)(H':Hp),itv=.ref it/\Inv X pins σ H' s2/\jl3 X.prog X.w X.K tg J fp it tn/\tn 0 s2.heap/\(∀b∈fp,jdo X pins H' b)/\R J H'
def PI(X:Cx)(tg iter:vT)(wi:TI):Prop:=
 ∀(pins:List (Addr×Obj))(s:uD)(σ:St)(H:Hp)(R:It->Hp->Prop),Inv X pins σ H s->wi σ H R->
  uS (uU X.prog X.w) X.A (wK iter X.env) (fun v s1=>uS (uU X.prog X.w) X.A (pyIter v) (PIE X pins σ tg R) X.xe s1) X.xe s
def jgy{M:Model}{A:vI}{E:uB->uD->Prop}{s:uD}{tg:vT}{it:Addr}{u:uB}{o:Obj}{n:String}{vs:Array uB}{Q:Unit->uD->Prop}(ho:s.heap.get? it=some o)(hc:o.cls=.type n)(hd:o.data=.fields vs)
  (hn: ["enumerate","zip","dict_itemiterator","dict_reverseitemiterator","odict_iterator","itertools.zip_longest","itertools.pairwise"].contains n=false)(hQ:Q () s):uS M A (letOwnedTupleGo tg (.ref it) u) Q E s:=by
 unfold letOwnedTupleGo
 cases tg<;>first
  |exact uF hQ
  |(cases u<;>first
    |exact uF hQ
    |(refine uC (wpAny_load ho ?_)
      rw[hc,hd];show uS M A (if(["enumerate","zip","dict_itemiterator","dict_reverseitemiterator","odict_iterator","itertools.zip_longest","itertools.pairwise"].contains n && vs[0]?==some (wT _))=true then _ else _) Q E s;rw[iA (by intro h;rw[hn,Bool.false_and] at h;cases h)];exact uF hQ))
def Itl(K:uT)(a:Addr):It:=
 ⟨fun i H=>∃xs x,SqL K H a xs/\xs[i]?=some x,fun i H x H'=>H'=H/\∀xs,SqL K H a xs->xs[i]?=some x,fun i H=>∃xs,SqL K H a xs/\xs.length<=i⟩
def Itr(lo:Int)(n:Nat):It:=⟨fun i _=>i<n,fun i H x H'=>H'=H/\x=.int (lo+i),fun i _=>n<=i⟩
def jgz{P:uX}{w:vG}{K:uT}{tg:vT}(a it:Addr):jl3 P w K tg (Itl K a) [it] it (fun i h=>h.IsListIter it a i) where
 mem:=by simp
 obj:=fun i h st b hb=>by
  have e:b=it:=by simpa using hb
  subst e;obtain⟨o,e,c,d⟩:=st;exact⟨o,e,fun v z=>by rw[d] at z;cases z⟩
 keep:=fun i h h' st k=>st.at fun o e=>k it (by simp) o e
 item:=by
  intro X hP hw hK hc i pins s σ H E I hf st hg;subst hP hw hK;obtain⟨xs,x,hq,hx⟩:=hg;obtain⟨its,rv,p,hz⟩:=I.list hq;obtain⟨u,hu,ru⟩:=rv.get hx;obtain⟨f0,f1,f2,f3,f4,f5⟩:=hf it (by simp);refine wpAny_pyNext_list_item st p.isList (x:=u) (by simpa using hu) fun h' st' sb=>?_;have I1:Inv X pins σ H {s with heap:=h'}:=I.turned (t':=s.toks) (fun b o hb e=>(sb.2 b hb).trans e) f0 f1 f3 f4 f5;obtain⟨o,e,c,d⟩:=id st';exact⟨u,rfl,jgy (s:={s with heap:=h'}) e c d ∅ ⟨x,H,I1,ru,⟨rfl,fun ys hy=>by rw[I.list_inj hy hq];exact hx⟩,st',fun b hb=>(hf b hb).1⟩⟩
 done:=by
  intro X hP hw hK hc i pins s σ H E I hf st hg;subst hP hw hK;obtain⟨xs,hq,hx⟩:=hg;obtain⟨its,rv,p,hz⟩:=I.list hq;obtain⟨f0,f1,f2,f3,f4,f5⟩:=hf it (by simp);have hl:=rv.length;exact wpAny_pyNext_list_end (I.ok.hd hc) st p.isList (by simp;omega) fun h' eb=>⟨rfl,I.turned (t':=s.toks) (fun b o hb e=>eb b o hb e) f0 f1 f3 f4 f5⟩
 self:=fun _ _ _ _ _ st h=>wpAny_pyIter_listiter st h
def jf7{P:uX}{w:vG}{K:uT}{tg:vT}(it:Addr)(lo:Int)(n:Nat):jl3 P w K tg (Itr lo n) [it] it (fun i h=>IsRangeIter h it (lo+(i:Nat)*1) ((n:Int)-(i:Nat)) 1) where
 mem:=by simp
 obj:=fun i h st b hb=>by
  have e:b=it:=by simpa using hb
  subst e;exact⟨_,st,fun v z=>by
   have z':Data.fields _=Data.cell v:=z
   cases z'⟩
 keep:=fun i h h' st k=>k it (by simp) _ st
 item:=by
  intro X hP hw hK hc i pins s σ H E I hf st hg;subst hP hw hK;obtain⟨f0,f1,f2,f3,f4,f5⟩:=hf it (by simp);have W:=Walks.range (prog:=X.prog) (w:=X.w) (I.ok.hd hc) it lo 1 n;refine W.item i s _ _ hg st fun v h' tk hv st' kk=>?_;obtain⟨t,rfl⟩:=hv;have I1:Inv X pins σ H {s with heap:=h',toks:=tk}:=I.turned (fun b o hb e=>kk b o (by simpa using hb) e) f0 f1 f3 f4 f5;refine⟨_,rfl,jgy (s:={s with heap:=h',toks:=tk}) (n:="range_iterator") st' rfl rfl ∅ ⟨.int (lo+i),H,I1,⟨t,?_⟩,⟨rfl,rfl⟩,st',fun b hb=>(hf b hb).1⟩⟩;rw[Int.mul_one]
 done:=by
  intro X hP hw hK hc i pins s σ H E I hf st hg;subst hP hw hK;obtain⟨f0,f1,f2,f3,f4,f5⟩:=hf it (by simp);exact wpAny_pyNext_range_end (I.ok.hd hc) st (by have:n<=i:=hg;omega) fun h' eb=>⟨rfl,I.turned (t':=s.toks) (fun b o hb e=>eb b o hb e) f0 f1 f3 f4 f5⟩
 self:=fun _ _ _ _ _ st h=>wpAny_pyIter_rangeiter st h
section
variable{X:Cx}{tg:vT}
def jqo(K:uT)(tl:TE):TI:=fun σ H R=>tl σ H fun x H1=>∃a,x=.ref a/\(∃xs,SqL K H1 a xs)/\R (Itl K a) H1
def qb3{l:vT}{tl:TE}(hl:PE X l tl):PI X tg l (jqo X.K tl):=by
 intro pins s σ H R I h;refine thn (hl pins s σ H _ I h) fun v s1 ⟨x,H1,I1,r1,q1⟩=>?_;obtain⟨a,e,⟨xs,hq⟩,q⟩:=q1;subst e
 cases r1
 obtain⟨its,rv,p,hz⟩:=I1.list hq;refine bC p.isList ?_;refine⟨↑s1,[↑s1],_,_,H1,rfl,I1.kept (t':=s1.toks) fun b o e=>uE _ e,jgz a _,⟨_,uQ _ rfl,rfl,rfl⟩,fun b hb=>?_,q⟩;have e:b=↑s1:=by simpa using hb
 subst e;exact I1.fpOk (uH _) (I1.hok.fresh (uH _))
def jew{pins:List (Addr×Obj)}{σ:St}{H:Hp}{s:uD}{R:It->Hp->Prop}{E:uB->uD->Prop}{lo hi:Int}{t u v:Tok}{tk:Nat}(I:Inv X pins σ H s)(h1: -(2^62)<=lo)(h2:lo<2^62)(h3: -(2^62)<=hi)(h4:hi<2^62)
  (q:R (Itr lo (hi-lo).toNat) H):uS (uU X.prog X.w) X.A (pyIter (.ref ↑s)) (PIE X pins σ tg R) E {s with heap:=s.heap.push {cls:=.type "range",data:=.fields #[.int lo t,.int hi u,.int 1 v]},toks:=tk}:=by
 refine wpAny_pyIter_range (IsRange.new ..) (small_one h1 h2 h3 h4) ?_;have I1:Inv X pins σ H {s with heap:=s.heap.push {cls:=.type "range",data:=.fields #[.int lo t,.int hi u,.int 1 v]},toks:=tk}:=I.kept fun b o e=>uE _ e;refine⟨(s.heap.push {cls:=.type "range",data:=.fields #[.int lo t,.int hi u,.int 1 v]}).objs.size,[(s.heap.push {cls:=.type "range",data:=.fields #[.int lo t,.int hi u,.int 1 v]}).objs.size],_,_,H,rfl,
  I1.kept (t':=tk) fun b o e=>uE _ e,jf7 _ lo (hi-lo).toNat,?_,fun b hb=>?_,q⟩
 .have e1:lo+((0:Nat):Int)*1=lo:=by simp
  have e2:(((hi-lo).toNat:Nat):Int)-((0:Nat):Int)=Builtin.Range.rangeSize lo hi 1:=by rw[rangeSize_one];split<;>omega
  show IsRangeIter _ _ (lo+((0:Nat):Int)*1) ((((hi-lo).toNat:Nat):Int)-((0:Nat):Int)) 1;rw[e1,e2];exact uQ _ rfl
 .have e:b=(s.heap.push {cls:=.type "range",data:=.fields #[.int lo t,.int hi u,.int 1 v]}).objs.size:=by simpa using hb
  subst e;exact I1.fpOk (uH _) (I1.hok.fresh (uH _))
def jqp(ta:TA):TI:=fun σ H R=>ta σ H fun vs H1=>∃j:Int,vs=[.int j]/\-(2^62)<=j/\j<2^62/\R (Itr 0 j.toNat) H1
def jnv(ta:TA):TI:=fun σ H R=>ta σ H fun vs H1=>∃i j:Int,vs=[.int i,.int j]/\(-(2^62)<=i/\i<2^62/\-(2^62)<=j/\j<2^62)/\R (Itr i (j-i).toNat) H1
def qbv{a:vT}{ta:TA}{p:Pos}(hg:Gl X "range")(hm:X.mg "range"=none)(ha:PA X [a] ta)(hs:uZ [a] X.env=[(false,wK a X.env)]:=by rfl):PI X tg (.Call (.Name "range" p) [a] [] pos) (jqp ta):=by
 intro pins s σ H R I h;refine Call_ (qf8 I hg hm boot_range (xY (thn (ha pos pins s σ H _ I h) fun us s1 ⟨vs,H1,I1,r1,q1⟩=>?_) hs rfl));obtain⟨j,e,q1,q2,q⟩:=q1;subst e
 cases r1 with
 |cons r rr=>
  cases rr
  obtain⟨t,rfl⟩:=r;exact call_range_1 (jew I1 ↑∅ ↑∅ q1 q2 (by simpa using q))
def jce{a b:vT}{ta:TA}{p:Pos}(hg:Gl X "range")(hm:X.mg "range"=none)(ha:PA X [a,b] ta)(hs:uZ [a,b] X.env=[(false,wK a X.env),(false,wK b X.env)]:=by rfl)(hs2:uZ [b] X.env=[(false,wK b X.env)]:=by rfl):
  PI X tg (.Call (.Name "range" p) [a,b] [] pos) (jnv ta):=by
 intro pins s σ H R I h;refine Call_ (qf8 I hg hm boot_range (xY (thn (ha pos pins s σ H _ I h) fun us s1 ⟨vs,H1,I1,r1,q1⟩=>?_) (by rw[hs,hs2]) (by rw[hs2];rfl)));obtain⟨i,j,e,⟨q1,q2,q3,q4⟩,q⟩:=q1;subst e
 cases r1 with
 |cons r rr=>
  cases rr with
  |cons r' rr=>
   cases rr
   obtain⟨t,rfl⟩:=r;obtain⟨t',rfl⟩:=r';exact call_range_2 (jew I1 q1 q2 q3 q4 q)
def jwy(wi:TI)(g:TG)(tb:TS):TS:=fun D σ H=>wi σ H fun J H1=>∃W:Nat->Nat->St->Hp->Prop,(∃m,W 0 m σ H1)/\∀i m σ H,W i m σ H->
 (J.stop i H/\D.nx σ H)\/(J.go i H/\∃N:St->Hp->Prop,(∀σ' H',N σ' H'->∃m',m'<m/\W (i+1) m' σ' H')/\∀x H',J.yld i H x H'->g x σ H' fun σ2 H2=>tb {D with nx:=N,ct:=N,bk:=D.nx} σ2 H2)
def qdx(fp:List Addr)(h:vN):List (Addr×Obj):=fp.filterMap fun b=>(h.get? b).map fun o=>(b,o)
def qdh{o:Obj}(hb:b∈fp)(e:h.get? b=some o):(b,o)∈qdx fp h:=fP.mpr ⟨b,hb,by rw[e];rfl⟩
def jg0{p:Addr×Obj}(hp:p∈qdx fp h):p.1∈fp/\h.get? p.1=some p.2:=by
 obtain⟨b,hb,e⟩:=fP.mp hp
 cases q:h.get? b with
 |none=>rw[q] at e;cases e
 |some o=>
  rw[q] at e;have e':(b,o)=p:=uW e;subst e';exact⟨hb,q⟩
def Inv.pinned(I:Inv X pins σ H s)(hf:∀b∈fp,jdo X pins H b)(ho:∀b∈fp,∃o,s.heap.get? b=some o/\∀v,o.data≠ .cell v):Inv X (pins++qdx fp s.heap) σ H s:=
 I.pins_of fun p hp=>(zP.mp hp).elim (fun z=>I.pin p (zX _ z)) fun z=>by
  obtain⟨hb,e⟩:=jg0 z;obtain⟨f0,f1,f2,_⟩:=hf p.1 hb;obtain⟨o,e',d⟩:=ho p.1 hb;rw[e] at e';cases e';exact⟨e,f0,f1,f2,d⟩
def Inv.unpinned{pl:List (Addr×Obj)}(I:Inv X (pins++pl) σ H s):Inv X pins σ H s:=I.pins_of fun p hp=>I.pin p (zX _ (yE _ hp))
def qbc{iter:vT}{body:List Stmt}{wi:TI}{g:TG}{tb:TS}{pos:Pos}(hp:PassesOwn (uU X.prog X.w) X.A X.env X.xe)(hc:X.calm=true)(hi:PI X tg iter wi)(hg:PG X tg g)(hb:PSs X body tb)
  (hs:∀x,gB iter X.env x=pure x:=by intro _;rfl):PS X (.For tg iter body [] pos) (jwy wi g tb):=by
 intro pins s σ H D I h;refine wpAny_For (thn (hi pins s σ H _ I h) fun v s1 h1=>thn h1 fun itv s2 h2=>?_) hs;obtain⟨it,fp,tn,J,H2,e,I2,T,st2,f2,W,⟨m0,w0⟩,turn⟩:=h2;subst e;have stat:∀{H':Hp},(∀b∈fp,H' b=none)->∀b∈fp,jdo X pins H' b:=fun hn b hb=>⟨hn b hb,(f2 b hb).2⟩;refine codeAny_forLoop_any (fun n s'=>∃i σ' H',Inv X pins σ' H' s'/\tn i s'.heap/\(∀b∈fp,H' b=none)/\W i n σ' H') ?_ m0 ⟨0,σ,H2,I2,st2,fun b hb=>(f2 b hb).1,w0⟩;rintro n s3 ⟨i,σ3,H3,I3,st3,fr3,w3⟩;rcases turn i n σ3 H3 w3 with⟨stop,qn⟩|⟨go,N,hN,step⟩
 .refine xQ hp (thn (T.done X rfl rfl rfl hc i pins s3 σ3 H3 X.xe I3 (stat fr3) st3 stop) fun r s4 ⟨hr,I4⟩=>?_);subst hr;exact eC ⟨σ3,H3,I4,qn⟩
 .refine xQ hp (thn (T.item X rfl rfl rfl hc i pins s3 σ3 H3 X.xe I3 (stat fr3) st3 go) fun r s4 ⟨u,hr,h4⟩=>?_);subst hr;refine xQ hp (thn h4 fun _ s5 ⟨x,H5,I5,r5,y5,st5,fr5⟩=>?_);have I5':=I5.pinned (stat fr5) (T.obj _ _ st5);refine xQ hp (thn (hg _ s5 σ3 H5 x u _ I5' r5 (step x H5 y5)) fun _ s6 ⟨σ6,H6,I6,q6⟩=>?_);refine xQ hp (thn (hb _ s6 σ6 H6 _ I6 q6) fun f s7 q7=>?_);have again:∀{σ7:St} {H7:Hp},Inv X (pins++qdx fp s5.heap) σ7 H7 s7->N σ7 H7->∃m,m<n/\∃i σ' H',Inv X pins σ' H' s7/\tn i s7.heap/\(∀b∈fp,H' b=none)/\W i m σ' H':=fun {σ7 H7} I7 n7=>by
   obtain⟨m',hm,w7⟩:=hN σ7 H7 n7;refine⟨m',hm,i+1,σ7,H7,I7.unpinned,T.keep _ _ _ st5 fun b hb o e=>(I7.pin (b,o) (zX _ (zX _ (qdh hb e)))).1,fun b hb=>?_,w7⟩;obtain⟨o,e,d⟩:=T.obj _ _ st5 b hb;exact(I7.pin (b,o) (zX _ (zX _ (qdh hb e)))).2.1
  cases f with
  |next=>obtain⟨σ7,H7,I7,n7⟩:=q7;exact again I7 n7
  |cont=>obtain⟨σ7,H7,I7,n7⟩:=q7;exact again I7 n7
  |brk=>obtain⟨σ7,H7,I7,q7⟩:=q7;exact⟨σ7,H7,I7.unpinned,q7⟩
  |ret v=>obtain⟨x7,σ7,H7,I7,r7,q7⟩:=q7;exact⟨x7,σ7,H7,I7.unpinned,r7,q7⟩
end
def jka{K:uT}{a:Addr}{xs:List V}{g:TG}{tb:TS}{D:jbe}{σ:St}{H:Hp}(Pv:Nat->St->Hp->Prop)(h0:Pv 0 σ H)(hl:∀i σ H,i<=xs.length->Pv i σ H->SqL K H a xs)
  (hs:∀i x σ H,xs[i]?=some x->Pv i σ H->g x σ H fun σ2 H2=>tb {D with nx:=Pv (i+1),ct:=Pv (i+1),bk:=D.nx} σ2 H2)(hd:∀σ H,Pv xs.length σ H->D.nx σ H):
  ∃W:Nat->Nat->St->Hp->Prop,(∃m,W 0 m σ H)/\∀i m σ H,W i m σ H->
   ((Itl K a).stop i H/\D.nx σ H)\/((Itl K a).go i H/\∃N:St->Hp->Prop,(∀σ' H',N σ' H'->∃m',m'<m/\W (i+1) m' σ' H')/\∀x H',(Itl K a).yld i H x H'->g x σ H' fun σ2 H2=>tb {D with nx:=N,ct:=N,bk:=D.nx} σ2 H2):=by
 refine⟨fun i m σ H=>m=xs.length-i/\i<=xs.length/\Pv i σ H,⟨xs.length,by simp,wI _,h0⟩,?_⟩;rintro i m σ H ⟨rfl,hi,p⟩;have q:=hl i σ H hi p;by_cases hlt:i<xs.length
 .refine .inr ⟨⟨xs,xs[i],q,by simp[hlt]⟩,Pv (i+1),fun σ' H' p'=>⟨xs.length-(i+1),↑∅,rfl,hlt,p'⟩,fun x H' y=>?_⟩;obtain⟨e,y⟩:=y;subst e;exact hs i x σ _ (y xs q) p
 .have e:i=xs.length:=by omega
  subst e;exact .inl ⟨⟨xs,q,uH _⟩,hd σ H p⟩
def jg1{lo:Int}{n:Nat}{g:TG}{tb:TS}{D:jbe}{σ:St}{H:Hp}(Pv:Nat->St->Hp->Prop)(h0:Pv 0 σ H)
  (hs:∀i σ H,i<n->Pv i σ H->g (.int (lo+i)) σ H fun σ2 H2=>tb {D with nx:=Pv (i+1),ct:=Pv (i+1),bk:=D.nx} σ2 H2)(hd:∀σ H,Pv n σ H->D.nx σ H):
  ∃W:Nat->Nat->St->Hp->Prop,(∃m,W 0 m σ H)/\∀i m σ H,W i m σ H->
   ((Itr lo n).stop i H/\D.nx σ H)\/((Itr lo n).go i H/\∃N:St->Hp->Prop,(∀σ' H',N σ' H'->∃m',m'<m/\W (i+1) m' σ' H')/\∀x H',(Itr lo n).yld i H x H'->g x σ H' fun σ2 H2=>tb {D with nx:=N,ct:=N,bk:=D.nx} σ2 H2):=by
 refine⟨fun i m σ H=>m=n-i/\i<=n/\Pv i σ H,⟨n,by simp,wI _,h0⟩,?_⟩;rintro i m σ H ⟨rfl,hi,p⟩;by_cases hlt:i<n
 .refine .inr ⟨hlt,Pv (i+1),fun σ' H' p'=>⟨n-(i+1),↑∅,rfl,hlt,p'⟩,fun x H' y=>?_⟩;obtain⟨e,y⟩:=y;subst e y;exact hs i σ _ hlt p
 .have e:i=n:=by omega
  subst e;exact .inl ⟨uH _,hd σ H p⟩
def jkb{c:TT}{tb:TS}{D:jbe}{σ:St}{H:Hp}(Pv:St->Hp->Prop)(μ:St->Hp->Nat)(h0:Pv σ H)
  (hs:∀σ H,Pv σ H->c σ H fun b H1=>if b=true then tb {D with nx:=fun σ' H'=>Pv σ' H'/\μ σ' H'<μ σ H,ct:=fun σ' H'=>Pv σ' H'/\μ σ' H'<μ σ H,bk:=D.nx} σ H1 else D.nx σ H1)
  (mono:∀σ H Q Q',(∀b H1,Q b H1->Q' b H1)->c σ H Q->c σ H Q'):jl2 c tb D σ H:=by
 refine⟨fun m σ H=>m=μ σ H/\Pv σ H,⟨_,rfl,h0⟩,?_⟩;rintro m σ H ⟨rfl,p⟩;refine mono σ H _ _ (fun b H1 q=>?_) (hs σ H p)
 cases b with
 |true=>exact⟨_,fun σ' H' ⟨p',l⟩=>⟨_,l,rfl,p'⟩,q⟩
 |false=>exact q
abbrev R2:=V->V->Hp->VK->Prop
def OpR(X:Cx)(f:uB->uB->Sem uB)(r:R2):Prop:=
 ∀(pins:List (Addr×Obj))(s:uD)(σ:St)(H:Hp)(x y:V)(v u:uB)(Q:VK),Inv X pins σ H s->qb8 x v->qb8 y u->r x y H Q->
  uS (uU X.prog X.w) X.A (f v u) (EP X pins σ Q) X.xe s
def qcb(X:Cx)(f:uB)(r:List V->Hp->VK->Prop):Prop:=
 ∀(pins:List (Addr×Obj))(s:uD)(σ:St)(H:Hp)(xs:List V)(us:List uB)(Q:VK),Inv X pins σ H s->qba xs us->r xs H Q->
  uS (uU X.prog X.w) X.A (call f us) (EP X pins σ Q) X.xe s
def tOp(r:R2)(ta tb:TE):TE:=fun σ H Q=>ta σ H fun x H1=>tb σ H1 fun y H2=>r x y H2 Q
def rI(C:Int->Int->Prop)(g:Int->Int->V):R2:=fun x y H Q=>∃i j,x=.int i/\y=.int j/\C i j/\Q (g i j) H
def rI0(g:Int->Int->V):R2:=fun x y H Q=>∃i j,x=.int i/\y=.int j/\Q (g i j) H
section
variable{X:Cx}{a b:vT}{ta tb:TE}{pos:Pos}
def juj(ha:PE X a ta)(hb:PE X b tb){pins:List (Addr×Obj)}{s:uD}{σ:St}{H:Hp}{R:V->V->Hp->Prop}(I:Inv X pins σ H s)
  (h:ta σ H fun x H1=>tb σ H1 fun y H2=>R x y H2){Q:uB->uD->Prop}{f:uB->uB->Sem uB}
  (hf:∀v u s2 x y H2,Inv X pins σ H2 s2->qb8 x v->qb8 y u->R x y H2->uS (uU X.prog X.w) X.A (f v u) Q X.xe s2):
  uS (uU X.prog X.w) X.A (wK a X.env) (fun v s₁=>uS (uU X.prog X.w) X.A (wK b X.env) (fun u s₂=>uS (uU X.prog X.w) X.A (f v u) Q X.xe s₂) X.xe s₁) X.xe s:=by
 refine thn (ha pins s σ H _ I h) fun v s1 ⟨x,H1,I1,r1,q1⟩=>?_;refine thn (hb pins s1 σ H1 _ I1 q1) fun u s2 ⟨y,H2,I2,r2,q2⟩=>?_;exact hf v u s2 x y H2 I2 r1 r2 q2
def qam{op:Operator}(ho:OpR X (yY op) r)(ha:PE X a ta)(hb:PE X b tb):PE X (.BinOp a op b pos) (tOp r ta tb):=by
 intro pins s σ H Q I h;exact wpAny_BinOp (juj ha hb I h fun v u s2 x y H2 I2 rx ry q=>ho pins s2 σ H2 x y v u Q I2 rx ry q)
def opI{f:uB->uB->Sem uB}{C:Int->Int->Prop}{g:Int->Int->Int}
  (rule:∀(i j:Int)(t u:Tok)(s:uD)(Q:uB->uD->Prop)(E:uB->uD->Prop),C i j->Q (.int (g i j) s.toks) {s with toks:=s.toks+1}->uS (uU X.prog X.w) X.A (f (.int i t) (.int j u)) Q E s):
  OpR X f (rI C fun i j=> .int (g i j)):=by
 intro pins s σ H x y v u Q I rx ry h;obtain⟨i,j,rfl,rfl,hc,q⟩:=h;obtain⟨t,rfl⟩:=rx;obtain⟨t',rfl⟩:=ry;exact rule i j t t' s _ _ hc ⟨.int (g i j),H,I.tok _,⟨_,rfl⟩,q⟩
def jwz{f:uB->uB->Sem uB}{g:Int->Int->Int}
  (rule:∀(i j:Int)(t u:Tok)(s:uD)(Q:uB->uD->Prop)(E:uB->uD->Prop),Q (.int (g i j) s.toks) {s with toks:=s.toks+1}->uS (uU X.prog X.w) X.A (f (.int i t) (.int j u)) Q E s):
  OpR X f (rI0 fun i j=> .int (g i j)):=by
 intro pins s σ H x y v u Q I rx ry h;obtain⟨i,j,rfl,rfl,q⟩:=h;obtain⟨t,rfl⟩:=rx;obtain⟨t',rfl⟩:=ry;exact rule i j t t' s _ _ ⟨.int (g i j),H,I.tok _,⟨_,rfl⟩,q⟩
def jt9{f:uB->uB->Sem uB}{g:Int->Int->Bool}
  (rule:∀(i j:Int)(t u:Tok)(s:uD)(Q:uB->uD->Prop)(E:uB->uD->Prop),Q (.bool (g i j)) s->uS (uU X.prog X.w) X.A (f (.int i t) (.int j u)) Q E s):
  OpR X f (rI0 fun i j=> .bl (g i j)):=by
 intro pins s σ H x y v u Q I rx ry h;obtain⟨i,j,rfl,rfl,q⟩:=h;obtain⟨t,rfl⟩:=rx;obtain⟨t',rfl⟩:=ry;exact rule i j t t' s _ _ ⟨.bl (g i j),H,I,rfl,q⟩
def jx3(i j:Int):Prop:=0<=j/\j<=1000000/\i.natAbs<2^64
def qax:OpR X (yY .Add) (rI0 fun i j=> .int (i+j)):=jwz fun _ _ _ _ _ _ _ q=>add_int q
def qf5:OpR X (yY .Sub) (rI0 fun i j=> .int (i-j)):=jwz fun _ _ _ _ _ _ _ q=>sub_int q
def qc8:OpR X (yY .Mod) (rI (fun _ j=>0<j) fun i j=> .int (i%j)):=opI fun i j _ _ _ _ _ hc q=>by
 have h1:(0:Int)<j:=hc;exact mod_int' ↑∅ (by rw[Int.fmod_eq_emod_of_nonneg i ↑∅];exact q)
def jl4:OpR X (yY .Pow) (rI jx3 fun i j=> .int (i^j.toNat)):=opI fun _ _ _ _ _ _ _ hc q=>pow_int_small hc.1 hc.2.1 hc.2.2 q
end
def scal:V->V->Bool
 | .non,.non=>true| .non,.int _=>true| .int _,.non=>true| .non,.bl _=>true| .bl _,.non=>true| .non,.str _=>true| .str _,.non=>true
 | .int _,.int _=>true| .bl _,.bl _=>true| .str _,.str _=>true| .byt _,.byt _=>true
 | .int _,.str _=>true| .str _,.int _=>true| .bl _,.str _=>true| .str _,.bl _=>true
 |_,_=>false
def rEq:R2:=fun x y H Q=>scal x y=true/\Q (.bl (decide (x=y))) H
def rNe:R2:=fun x y H Q=>scal x y=true/\Q (.bl (!decide (x=y))) H
def jg2{i j:Int} :decide (V.int i=V.int j)=(i==j):=by
 rw[xR];simp
def jl5{i j:Bool} :decide (V.bl i=V.bl j)=(i==j):=by
 rw[xR];simp
def jg3{i j:Str} :decide (V.str i=V.str j)=(i==j):=by
 rw[xR];simp
def jg4{i j:Array UInt8} :decide (V.byt i=V.byt j)=(i.toList==j.toList):=by
 rw[xR]
 cases i
 cases j
 simp
section
variable{X:Cx}{a b c:vT}{ta tb tc:TE}{pos:Pos}
def qb7{Q:VK}{k k':Bool}(I:Inv X pins σ H s)(q:Q (.bl k) H)(e:k=k'):EP X pins σ Q (.bool k') s:=by
 subst e;exact⟨.bl k,H,I,rfl,q⟩
def qcc:OpR X (wC .Eq) rEq:=by
 intro pins s σ H x y v u Q I rx ry h;obtain⟨hs,q⟩:=h
 cases x with
 |non=>
  cases rx
  cases y with
  |non=>cases ry;exact PySem.EqNone.eq_none_none (qb7 I q (by simp))
  |bl j=>cases ry;exact PySem.EqNone.eq_none_bool (qb7 I q (by simp))
  |int j=>obtain⟨t',rfl⟩:=ry;exact PySem.EqNone.eq_none_int (qb7 I q (by simp))
  |str j=>obtain⟨t',rfl⟩:=ry;exact PySem.EqNone.eq_none_str (qb7 I q (by simp))
  |_=>exact absurd (show false=true from hs) uJ
 |bl i=>
  cases rx
  cases y with
  |non=>cases ry;exact PySem.EqNone.eq_bool_none (qb7 I q (by simp))
  |bl j=>cases ry;exact eq_bool (qb7 I q jl5)
  |str j=>obtain⟨t',rfl⟩:=ry;exact PySem.EqMixed.eq_bool_str (qb7 I q (by simp))
  |_=>exact absurd (show false=true from hs) uJ
 |int i=>
  obtain⟨t,rfl⟩:=rx
  cases y with
  |non=>cases ry;exact PySem.EqNone.eq_int_none (qb7 I q (by simp))
  |int j=>obtain⟨t',rfl⟩:=ry;exact eq_int (qb7 I q jg2)
  |str j=>obtain⟨t',rfl⟩:=ry;exact PySem.EqMixed.eq_int_str (qb7 I q (by simp))
  |_=>exact absurd (show false=true from hs) uJ
 |str i=>
  obtain⟨t,rfl⟩:=rx
  cases y with
  |non=>cases ry;exact PySem.EqNone.eq_str_none (qb7 I q (by simp))
  |bl j=>cases ry;exact PySem.EqMixed.eq_str_bool (qb7 I q (by simp))
  |int j=>obtain⟨t',rfl⟩:=ry;exact PySem.EqMixed.eq_str_int (qb7 I q (by simp))
  |str j=>obtain⟨t',rfl⟩:=ry;exact eq_str (qb7 I q jg3)
  |_=>exact absurd (show false=true from hs) uJ
 |byt i=>
  obtain⟨t,rfl⟩:=rx
  cases y with
  |byt j=>obtain⟨t',rfl⟩:=ry;exact PySem.W.eq_bytes (qb7 I q jg4)
  |_=>exact absurd (show false=true from hs) uJ
 |_=>cases y<;>exact absurd (show false=true from hs) uJ
def juk:OpR X (wC .NotEq) rNe:=by
 intro pins s σ H x y v u Q I rx ry h;obtain⟨hs,q⟩:=h
 cases x with
 |non=>
  cases rx
  cases y with
  |non=>cases ry;exact PySem.EqNone.ne_none_none (qb7 I q (by simp))
  |bl j=>cases ry;exact PySem.EqNone.ne_none_bool (qb7 I q (by simp))
  |int j=>obtain⟨t',rfl⟩:=ry;exact PySem.EqNone.ne_none_int (qb7 I q (by simp))
  |str j=>obtain⟨t',rfl⟩:=ry;exact PySem.EqNone.ne_none_str (qb7 I q (by simp))
  |_=>exact absurd (show false=true from hs) uJ
 |bl i=>
  cases rx
  cases y with
  |non=>cases ry;exact PySem.EqNone.ne_bool_none (qb7 I q (by simp))
  |bl j=>cases ry;exact ne_bool (qb7 I q (congrArg not jl5))
  |str j=>obtain⟨t',rfl⟩:=ry;exact PySem.EqMixed.ne_bool_str (qb7 I q (by simp))
  |_=>exact absurd (show false=true from hs) uJ
 |int i=>
  obtain⟨t,rfl⟩:=rx
  cases y with
  |non=>cases ry;exact PySem.EqNone.ne_int_none (qb7 I q (by simp))
  |int j=>obtain⟨t',rfl⟩:=ry;exact ne_int (qb7 I q (congrArg not jg2))
  |str j=>obtain⟨t',rfl⟩:=ry;exact PySem.EqMixed.ne_int_str (qb7 I q (by simp))
  |_=>exact absurd (show false=true from hs) uJ
 |str i=>
  obtain⟨t,rfl⟩:=rx
  cases y with
  |non=>cases ry;exact PySem.EqNone.ne_str_none (qb7 I q (by simp))
  |bl j=>cases ry;exact PySem.EqMixed.ne_str_bool (qb7 I q (by simp))
  |int j=>obtain⟨t',rfl⟩:=ry;exact PySem.EqMixed.ne_str_int (qb7 I q (by simp))
  |str j=>obtain⟨t',rfl⟩:=ry;exact ne_str (qb7 I q (congrArg not jg3))
  |_=>exact absurd (show false=true from hs) uJ
 |byt i=>
  obtain⟨t,rfl⟩:=rx
  cases y with
  |byt j=>obtain⟨t',rfl⟩:=ry;exact PySem.W.ne_bytes (qb7 I q (congrArg not jg4))
  |_=>exact absurd (show false=true from hs) uJ
 |_=>cases y<;>exact absurd (show false=true from hs) uJ
def jf8:OpR X (wC .Lt) (rI0 fun i j=> .bl (decide (i<j))):=jt9 fun _ _ _ _ _ _ _ q=>lt_int q
def jqq:OpR X (wC .LtE) (rI0 fun i j=> .bl (decide (i<=j))):=jt9 fun _ _ _ _ _ _ _ q=>le_int q
def qgb:OpR X (wC .Gt) (rI0 fun i j=> .bl (decide (j<i))):=jt9 fun _ _ _ _ _ _ _ q=>gt_int q
def jqr:OpR X (wC .GtE) (rI0 fun i j=> .bl (decide (j<=i))):=jt9 fun _ _ _ _ _ _ _ q=>ge_int q
def jg5:OpR X (wC .In) (fun x y H Q=>∃i j,x=.str i/\y=.str j/\Q (.bl (!(aU j i 0 j.length 1).isEmpty)) H):=by
 intro pins s σ H x y v u Q I rx ry h;obtain⟨i,j,rfl,rfl,q⟩:=h;obtain⟨t,rfl⟩:=rx;obtain⟨t',rfl⟩:=ry;exact in_str (qb7 I q rfl)
def jqs:OpR X (wC .Is) (fun x y H Q=>y=.non/\Q (.bl (decide (x=.non))) H):=by
 intro pins s σ H x y v u Q I rx ry h;obtain⟨rfl,q⟩:=h
 cases ry
 refine is_none_gen (qb7 I q ?_)
 cases x<;>first
  |(cases rx;rfl)
  |(obtain⟨t,rfl⟩:=rx;rfl)
def jnw:OpR X (wC .IsNot) (fun x y H Q=>y=.non/\Q (.bl (!decide (x=.non))) H):=by
 intro pins s σ H x y v u Q I rx ry h;obtain⟨rfl,q⟩:=h
 cases ry
 refine isnot_none_gen (qb7 I q ?_)
 cases x<;>first
  |(cases rx;rfl)
  |(obtain⟨t,rfl⟩:=rx;rfl)
def qaq(b:vT){op:CmpOp}(h:op≠ .In:=by decide)(h2:op≠ .NotIn:=by decide):bS op b=false:=by
 have e1:(op==CmpOp.In)=false:=by cases op<;>first|rfl|exact absurd rfl h
 have e2:(op==CmpOp.NotIn)=false:=by cases op<;>first|rfl|exact absurd rfl h2
 cases b<;>simp[bS,e1,e2]
def qbs(ho:OpR X (wC op) r)(ha:PE X a ta)(hb:PE X b tb)(hm:bS op b=false):PE X (.Compare a [op] [b] pos) (tOp r ta tb):=by
 intro pins s σ H Q I h;exact wpAny_Compare1 (juj ha hb I h fun v u s2 x y H2 I2 rx ry q=>ho pins s2 σ H2 x y v u Q I2 rx ry q) hm
def jqt(t:TE):TT:=fun σ H Q=>t σ H fun x H'=>∃k,x=.bl k/\Q k H'
def qan(ho:OpR X (wC op) r)(ha:PE X a ta)(hb:PE X b tb)(hm:bS op b=false):PT X (.Compare a [op] [b] pos) (jqt (tOp r ta tb)):=by
 intro pins s σ H Q I h;refine wpAny_isTrue_Compare1 (thn (ha pins s σ H _ I h) fun v s1 ⟨x,H1,I1,r1,q1⟩=>thn (hb pins s1 σ H1 _ I1 q1) fun u s2 ⟨y,H2,I2,r2,q2⟩=>
  thn (ho pins s2 σ H2 x y v u _ I2 r1 r2 q2) fun c s3 ⟨z,H3,I3,r3,k,e,q3⟩=>?_) hm
 subst e
 cases r3
 exact wH ⟨H3,I3,q3⟩
def jl6(r r':R2)(ta tb tc:TE):TE:=fun σ H Q=>ta σ H fun x H1=>tb σ H1 fun y H2=>r x y H2 fun z H3=>∃k,z=.bl k/\
 (if k=true then tc σ H3 fun w' H4=>r' y w' H4 Q else Q (.bl false) H3)
def jkc{op op':CmpOp}{r r':R2}(ho:OpR X (wC op) r)(ho':OpR X (wC op') r')(ha:PE X a ta)(hb:PE X b tb)(hc:PE X c tc)
  (hm:lastMarks [op,op'] [b,c]=false:=by with_unfolding_all rfl):PE X (.Compare a [op,op'] [b,c] pos) (jl6 r r' ta tb tc):=by
 intro pins s σ H Q I h;refine Compare_chain (thn (ha pins s σ H _ I h) fun v s1 ⟨x,H1,I1,r1,q1⟩=>chain_link (thn (hb pins s1 σ H1 _ I1 q1) fun u s2 ⟨y,H2,I2,r2,q2⟩=>
  thn (ho pins s2 σ H2 x y v u _ I2 r1 r2 q2) fun d s3 ⟨z,H3,I3,r3,k,e,q3⟩=>?_)) hm
 subst e
 cases r3
 refine wH ?_
 cases k with
 |false=>exact ite_ff ⟨.bl false,H3,I3,rfl,q3⟩
 |true=>exact ite_tt (chain_last (thn (hc pins s3 σ H3 _ I3 q3) fun w' s4 ⟨z',H4,I4,r4,q4⟩=>ho' pins s4 σ H4 y z' u w' Q I4 r2 r4 q4))
def jcf:(sizeLine:Nat)<2^63:=by rw[wJ];decide
def jf9:OpR X (yY .Add) (fun x y H Q=>∃i j,x=.str i/\y=.str j/\i.length+j.length<=sizeLine/\Q (.str (i++j)) H):=by
 intro pins s σ H x y v u Q I rx ry h;obtain⟨i,j,rfl,rfl,hz,q⟩:=h;obtain⟨t,rfl⟩:=rx;obtain⟨t',rfl⟩:=ry;exact add_str (fun t' tk=>⟨.str (i++j),H,I.tok _,⟨_,rfl⟩,q⟩) hz
def jkd{x:V}(r:qba [x] us):∃u,us=[u]/\qb8 x u:=by
 cases r with
 |cons r1 r2=>cases r2;exact⟨_,rfl,r1⟩
def jqu{x y:V}(r:qba [x,y] us):∃u w',us=[u,w']/\qb8 x u/\qb8 y w':=by
 cases r with
 |cons r1 r2=>
  cases r2 with
  |cons r3 r4=>cases r4;exact⟨_,_,rfl,r1,r3⟩
def jg6(hc:X.calm=true):qcb X (.builtin "max") (fun xs H Q=>∃i j,xs=[.int i,.int j]/\Q (.int (if j > i then j else i)) H):=by
 intro pins s σ H xs us Q I r h;obtain⟨i,j,rfl,q⟩:=h;obtain⟨u,w',rfl,⟨t,rfl⟩,⟨t',rfl⟩⟩:=jqu r;refine max_two_ints (I.ok.hd hc) fun h' tk k=>⟨_,H,I.kept k,?_,q⟩;by_cases hj:j > i
 .rw[iB hj,iB hj];exact⟨_,rfl⟩
 .rw[iA hj,iA hj];exact⟨_,rfl⟩
def jg7(hc:X.calm=true):qcb X (.builtin "min") (fun xs H Q=>∃i j,xs=[.int i,.int j]/\Q (.int (if j<i then j else i)) H):=by
 intro pins s σ H xs us Q I r h;obtain⟨i,j,rfl,q⟩:=h;obtain⟨u,w',rfl,⟨t,rfl⟩,⟨t',rfl⟩⟩:=jqu r;refine min_two_ints (I.ok.hd hc) fun h' tk k=>⟨_,H,I.kept k,?_,q⟩;by_cases hj:j<i
 .rw[iB hj,iB hj];exact⟨_,rfl⟩
 .rw[iA hj,iA hj];exact⟨_,rfl⟩
end
structure jnx(h:vN)(x dx C:Addr)(mA:Str->Option uB):Prop where
 obj:h.get? x=some (dJ C dx)
 ns:h.Ns1 dx mA
 ne:dx≠x
def jg8{dx:Addr}{mA:Str->Option uB}(n:h.Ns1 dx mA):∃od,h.get? dx=some od/\∀name,lookIn name od=some (mA name):=by
 obtain⟨o,es,ep,ho,hd,hk,_,hm⟩:=n;refine⟨o,ho,fun name=>?_⟩;have e:=hm name;unfold fQ findBy at e;rw[<-fR] at e;unfold lookIn;rw[hd];dsimp only
 split
 .rename_i y q;rw[q] at e;exact congrArg some e
 .rename_i q;rw[q] at e;have a:es.toList.any (·.refKey)=false:=by
   rw[gC];intro y hy;obtain⟨z,t,hkey⟩:=hk y (Array.mem_toList_iff.mp hy);simp[DictEntry.refKey,hkey]
  have a':¬es.toList.any (·.refKey)=true:=by rw[a];exact uJ
  rw[iA a'];exact congrArg some e
def jnx.look{x dx:Addr}{mA:Str->Option uB}(I:jnx h x dx C mA):∃od,PySem.W.InstAt h x (dJ C dx) C (some od)/\∀name,lookIn name od=some (mA name):=
 let ⟨od,ho,hl⟩:=jg8 I.ns
 ⟨od,⟨I.obj,rfl,rfl,ho⟩,hl⟩
section
variable{prog:uX}{w:vG}{A:vI}{E:uB->uD->Prop}{s:uD}{K:uT}{x dx C f:Addr}{mA:Str->Option uB}{name:Str}{v:uB}
def jny{expr:Bool}{Q:uB->uD->Prop}(X:K.In s.heap)(I:jnx s.heap x dx C mA)(hg:plainGet K C name=true)(hh:gW K C=true)
  (ha:vU K (.ref C) name=some none)(hv:mA name=some v)(hv':PySem.W.handedIn v=true)(h:Q v {s with toks:=s.toks+1}):
  uS (uU prog w) A (getAttr (.ref x) name expr) Q E s:=by
 obtain⟨od,J,hl⟩:=I.look;exact PySem.W.get_value X J (fG hg).1 (PySem.W.findObj_own hh ha rfl (by rw[hl,hv])) hv' h
def jke{pl:Sem Bool}{Q:uB×List uB->uD->Prop}(X:K.In s.heap)(I:jnx s.heap x dx C mA)(hg:plainGet K C name=true)
  (hf:vU K (.ref C) name=some (some (.ref f)))(ht:isFn K (.ref f)=true)(hv:mA name=none)(h:Q (.ref f,[.ref x]) s):
  uS (uU prog w) A (fA (.ref x) name pl) Q E s:=by
 obtain⟨od,J,hl⟩:=I.look;exact PySem.W.method_fn X J (fG hg).1 (fG hg).2 hf (beq_iff_eq.mp ht) (by show(lookIn name od).map (·.isSome)=some false;rw[hl,hv];rfl) h
def jnz{ns:List Str}{Q:Unit->uD->Prop}(X:K.In s.heap)(I:jnx s.heap x dx C mA)
  (hs:vU K (.ref C) "__setattr__"=some (some (.builtin "object.__setattr__")))(hp:PySem.W.plainOver K C=true)(ht:PySem.W.takerIn K C name=some none)(hh:gW K C=true)
  (hw:PySem.Within mA ns)(hsz:ns.length<=sizeLine)
  (h:∀h',jnx h' x dx C (fun y=>if y=name then some v else mA y)->bB dx s.heap h'->Q () {s with heap:=h',toks:=s.toks+2}):
  uS (uU prog w) A (setAttr (.ref x) name v) Q E s:=by
 obtain⟨od,J,hl⟩:=I.look;refine PySem.W.set_plain X J hs (PySem.W.osa_open (s:={s with toks:=s.toks+1}) (r:=none) X J hp ht fun b=>?_);obtain⟨cd,hc,hd'⟩:=PySem.W.any_some hh;have hx:s.heap.get? x=some ⟨.ref C,some dx,.plain,#[]⟩:=I.obj;refine uC (uF (uC (uC (wpAny_loadPart hx (uC (PySem.W.Looks.here (s:={s with toks:=s.toks+1}) (PySem.W.looks_clsIn X hc) ?_))))));rw[hd'];refine uF (a:=some dx) (uC (uF (uC ?_)));refine wpAny_nsSet1 (s:={s with toks:=s.toks+1}) I.ns fun h' hn2 hs2=>?_;obtain⟨oD,esD,epD,hoD,hdD,hcD⟩:=hn2.count (PySem.Within.cons name v hw);refine uC (wpAny_lookBehind hoD (by rw[hdD];exact pastItsLine_dict (vP hcD (by rw[zK];omega))) ?_);exact uF (h _ ⟨(hs2.2 _ (xF I.ne)).trans I.obj,hn2,I.ne⟩ hs2)
def jex{R:Result->uD->Prop}{vs:List uB}{kw:List (Str×uB)}(X:K.In s.heap)(hm:PySem.W.makesIn K C=true)
  (hi:vU K (.ref C) "__init__"=some (some (.ref f)))(hf:PySem.W.typeIn K (.ref f)=some (.type "function"))
  (h:cG (uU prog w) (A.under (.builtin "type.__call__" ⟨.ref C::vs,kw⟩)) (.call (.ref f) ⟨.ref (↑s+1)::vs,kw⟩) (PySem.W.InitBack (↑s+1) R)
   {s with heap:=(s.heap.push emptyDict).push (dJ C ↑s)}):
  cG (uU prog w) A (.call (.ref C) ⟨vs,kw⟩) R s:=by
 obtain⟨hh,g,d,t,os⟩:=s;exact PySem.W.make_core (PySem.W.makes_of X hm) (PySem.W.looks_findIn X hi) (fun self=>PySem.W.bind_fn X self hf) (.inl rfl) h
end
def qez(f:Str)(v:V):List (Str×V)->List (Str×V)
 | []=> [(f,v)]
 |(g,x)::r=>if g=f then(g,v)::r else(g,x)::qez f v r
theorem qf6(f g:Str)(v:V):∀fs:List (Str×V),(qez f v fs).lookup g=if g=f then some v else fs.lookup g
 | []=>by
  show bV g [(f,v)]=_;by_cases h:g=f
  .have hb:(g==f)=true:=beq_iff_eq.mpr h;simp only[bV,hb,iB h]
  .have hb:(g==f)=false:=beq_eq_false_iff_ne.mpr h;simp only[bV,hb,iA h]
 |(k,x)::r=>by
  have ih:=qf6 f g v r;rw[show qez f v ((k,x)::r)=(if k=f then(k,v)::r else(k,x)::qez f v r) from rfl];by_cases hk:k=f
  .rw[iB hk];by_cases h:g=k
   .have hb:(g==k)=true:=beq_iff_eq.mpr h;simp only[bV,hb,iB (h.trans hk)]
   .have hb:(g==k)=false:=beq_eq_false_iff_ne.mpr h;simp only[bV,hb,iA (fun e:g=f=>h (e.trans hk.symm))]
  .rw[iA hk];by_cases h:g=k
   .have hb:(g==k)=true:=beq_iff_eq.mpr h;simp only[bV,hb,iA (fun e:g=f=>hk (h.symm.trans e))]
   .have hb:(g==k)=false:=beq_eq_false_iff_ne.mpr h;simp only[bV,hb];exact ih
theorem qf9(f:Str)(v:V):∀fs:List (Str×V),f∈(qez f v fs).map (·.1)/\∀g,g∈fs.map (·.1)->g∈(qez f v fs).map (·.1)
 | []=>⟨by simp[qez],fun g h=>by simp at h⟩
 |(k,x)::r=>by
  obtain⟨i1,i2⟩:=qf9 f v r;rw[show qez f v ((k,x)::r)=(if k=f then(k,v)::r else(k,x)::qez f v r) from rfl];by_cases hk:k=f
  .rw[iB hk];subst hk;exact⟨by simp,fun g h=>by simpa using h⟩
  .rw[iA hk];refine⟨?_,fun g h=>?_⟩
   .rw[zT];exact zH _ i1
   .rw[zT] at h⊢;rcases zO.mp h with e|e
    .exact zO.mpr (.inl e)
    .exact zH _ (i2 g e)
theorem qf7(f:Str)(v:V):∀fs:List (Str×V),(qez f v fs).length<=fs.length+1
 | []=>by simp[qez]
 |(k,x)::r=>by
  have ih:=qf7 f v r;rw[show qez f v ((k,x)::r)=(if k=f then(k,v)::r else(k,x)::qez f v r) from rfl];by_cases hk:k=f
  .rw[iB hk,zK,zK];omega
  .rw[iA hk,zK,zK];omega
def qfp.some_of{o:Option uB}(r:qfp (some v) o):∃u,o=some u/\qb8 v u:=by
 cases o with
 |none=>exact(show False from r).elim
 |some u=>exact⟨u,rfl,r⟩
def qfp.none_of{o:Option uB}(r:qfp none o):o=none:=by
 cases o with
 |none=>rfl
 |some u=>exact(show False from r).elim
def jg9(r:qb8 v u):PySem.W.handedIn u=true:=by
 cases v with
 |non=>cases(show u=vV from r);rfl
 |bl b=>cases(show u=fN b from r);rfl
 |int i=>obtain⟨t,e⟩:=(show ∃t,u=wZ i t from r);cases e;rfl
 |str x=>obtain⟨t,e⟩:=(show ∃t,u=cK x t from r);cases e;rfl
 |byt b=>obtain⟨t,e⟩:=(show ∃t,u=Value.bytes b t from r);cases e;rfl
 |flt b=>obtain⟨t,e⟩:=(show ∃t,u=Value.float b t from r);cases e;rfl
 |ref a=>cases(show u=uP a from r);rfl
 |ty n=>cases(show u=dM n from r);rfl
section
variable{P:uX}{w:vG}{H:Hp}{h:vN}{a C dx:Addr}{fs:List (Str×V)}
def qgg(hok:HOk P w H h)(e:H a=some (.ins C dx fs)):∃mA,jnx h a dx C mA/\(∀f,qfp (fs.lookup f) (mA f))/\PySem.Within mA (fs.map (·.1))/\fs.length<=1000/\H dx=some (.own a):=by
 obtain⟨d,z,ne,ob,mA,n,r,q⟩:=(show qbj P w H h a (.ins C dx fs) from hok a _ e);exact⟨mA,⟨ob,n,ne⟩,r,q,z,d⟩
end
structure Cls(K:uT)(C:Addr):Prop where
 pg:plainGet K C Str.empty=true
 hd:gW K C=true
 po:PySem.W.plainOver K C=true
 sa:vU K (.ref C) "__setattr__"=some (some (.builtin "object.__setattr__"))
def Cls.get(c:Cls K C)(f:Str):plainGet K C f=true:=c.pg
def qav(K:uT)(C:Addr)(f:Str):Prop:=vU K (.ref C) f=some none
def qav.taker{f:Str}(n:qav K C f):PySem.W.takerIn K C f=some none:=by
 unfold PySem.W.takerIn;rw[show vU K (.ref C) f=some none from n];rfl
structure Con(K:uT)(C:Addr)(f:Str)(v:V)(u:uB):Prop where
 at_:vU K (.ref C) f=some (some u)
 rel:qb8 v u
 get:eY K u "__get__"=some none
 cp:PySem.W.copiedNames.contains f=false
structure jao(K:uT)(C:Addr)(m:Str)(f:Addr):Prop where
 at_:vU K (.ref C) m=some (some (.ref f))
 fn:isFn K (.ref f)=true
 kp:dL K (.ref f)=true
section
variable{X:Cx}{pins:List (Addr×Obj)}{σ:St}{H:Hp}{s:uD}{a C dx:Addr}{fs:List (Str×V)}{f:Str}{v:V}{A:vI}{E:uB->uD->Prop}
def jga{b:Bool}{Q:uB->uD->Prop}(I:Inv X pins σ H s)(e:H a=some (.ins C dx fs))(c:Cls X.K C)(n:qav X.K C f)(l:fs.lookup f=some v)
  (h:∀u s',Inv X pins σ H s'->qb8 v u->Q u s'):uS (uU X.prog X.w) A (getAttr (.ref a) f b) Q E s:=by
 obtain⟨mA,O,r,_,_,_⟩:=qgg I.hok e;obtain⟨u,hu,ru⟩:=qfp.some_of (v:=v) (o:=mA f) (by rw[<-l];exact r f);exact jny I.kIn O (c.get f) c.hd n hu (jg9 ru) (h u _ (I.tok _) ru)
def qdl{m:Str}{g:Addr}{pl:Sem Bool}{Q:uB×List uB->uD->Prop}(I:Inv X pins σ H s)(e:H a=some (.ins C dx fs))(c:Cls X.K C)(k:jao X.K C m g)(l:fs.lookup m=none)
  (h:Q (.ref g,[.ref a]) s):uS (uU X.prog X.w) A (fA (.ref a) m pl) Q E s:=by
 obtain⟨mA,O,r,_,_,_⟩:=qgg I.hok e;have hn:mA m=none:=qfp.none_of (by rw[<-l];exact r m);exact jke I.kIn O (c.get m) k.at_ k.fn hn h
def jgb{y:V}{u:uB}{Q:Unit->uD->Prop}(I:Inv X pins σ H s)(e:H a=some (.ins C dx fs))(c:Cls X.K C)(n:qav X.K C f)(hl:fs.length<1000)(ry:qb8 y u)
  (h:∀s',Inv X pins σ (upd H a (.ins C dx (qez f y fs))) s'->Q () s'):uS (uU X.prog X.w) A (setAttr (.ref a) f u) Q E s:=by
 obtain⟨mA,O,r,wi,_,ho⟩:=qgg I.hok e;have hz:(fs.map (·.1)).length<=sizeLine:=by rw[zB,wJ];omega
 refine jnz I.kIn O c.sa c.po n.taker c.hd wi hz fun h' O' sb=>h _ ?_;have hd:∃o,h'.get? dx=some o:=let ⟨o,_,_,e',_⟩:=O'.ns;⟨o,e'⟩
 refine I.write (x:=a) (e:=dx) (by rw[e];exact wM) (.inr ho) (fun b q hb z=>(sb.2 b hb).trans z) hd ?_;refine⟨by rw[qa7 O.ne];exact ho,?_,O.ne,O'.obj,_,O'.ns,fun g=>?_,fun g hg=>?_⟩
 .have:=qf7 f y fs;omega
 .show qfp ((qez f y fs).lookup g) (if g=f then some u else mA g);rw[qf6];by_cases q:g=f
  .rw[iB q,iB q];exact ry
  .rw[iA q,iA q];exact r g
 .by_cases q:g=f
  .rw[q];exact(qf9 f y fs).1
  .refine(qf9 f y fs).2 g (wi g fun z=>hg ?_);show(if g=f then some u else mA g)=none;rw[iA q];exact z
def Inv.made(I:Inv X pins σ H s):Inv X pins σ (upd (upd H ↑s (.own (↑s+1))) (↑s+1) (.ins C ↑s []))
  {s with heap:=(s.heap.push emptyDict).push (dJ C ↑s)}:=by
 have e1:(s.heap.push emptyDict).get? ↑s=some emptyDict:=uQ s.heap rfl;have e2:((s.heap.push emptyDict).push (dJ C ↑s)).get? (↑s+1)=some (dJ C ↑s):=by
  have:=uQ (s.heap.push emptyDict) (o:=dJ C ↑s) rfl
  rwa [bD] at this
 have e3:(s.heap.push emptyDict).Ns ↑s (fun _=>none):=⟨emptyDict,#[],_,e1,rfl,(fun e he=>absurd he (by simp)),fun _=>rfl⟩;have I1:=I.laid (a:=↑s) (o:=.own (↑s+1)) (h':=s.heap.push emptyDict) (t':=s.toks) (fun b u q=>uE _ q) (uH _) ⟨_,e1⟩;refine I1.laid (a:=↑s+1) (o:=.ins C ↑s []) (t':=s.toks) (fun b u q=>uE _ q) (Nat.le_of_eq (bD _ _)) ?_;have ne:↑s≠↑s+1:=vC (bP _);refine⟨by rw[qa7 ne,qa1],wI _,ne,e2,fun _=>none,(Heap.Ns1.of_empty e3).at fun o q=>uE _ q,fun _=>wM,fun y hy=>absurd rfl hy⟩
def jn0{prog:uX}{w:vG}{env:Env}{e:vT}{f:Str}{pos:Pos}{s:uD}{Q:uB->uD->Prop}(hb:bT e f env (wK e env)=wK e env)
  (h:uS (uU prog w) A (wK e env) (fun o s₁=>uS (uU prog w) A (getAttr o f true) Q E s₁) E s):uS (uU prog w) A (wK (.Attribute e f pos) env) Q E s:=
 Attribute_any_ h (by rw[arm_eval_Attribute,hb])
end
def jw0(K:uT)(ta:TE)(f:Str):TE:=fun σ H Q=>ta σ H fun x H1=>∃a C dx fs v,x=.ref a/\H1 a=some (.ins C dx fs)/\Cls K C/\qav K C f/\fs.lookup f=some v/\Q v H1
def jw1(K:uT)(ta tv:TE)(f:Str):TS:=fun D σ H=>tv σ H fun y H1=>ta σ H1 fun x H2=>∃a C dx fs,x=.ref a/\H2 a=some (.ins C dx fs)/\Cls K C/\qav K C f/\fs.length<1000/\
 D.nx σ (upd H2 a (.ins C dx (qez f y fs)))
def jw2(X:Cx)(op:Operator)(rd:V->V->Hp->VK->Prop):Prop:=
 ∀(pins:List (Addr×Obj))(s:uD)(σ:St)(H:Hp)(x y:V)(u v:uB)(Q:VK),Inv X pins σ H s->qb8 x u->qb8 y v->rd x y H Q->uS (uU X.prog X.w) X.A (inplaceOp op u v) (EP X pins σ Q) X.xe s
section
variable{X:Cx}{o e value:vT}{f:Str}{pos pos':Pos}{ta tv:TE}
def qb6(he:PE X e ta)(hb:bT e f X.env (wK e X.env)=wK e X.env):PE X (.Attribute e f pos) (jw0 X.K ta f):=by
 intro pins s σ H Q I h;refine jn0 hb (thn (he pins s σ H _ I h) fun u s1 ⟨x,H1,I1,rx,a,C,dx,fs,v,ex,ea,c,n,l,q⟩=>?_);subst ex;obtain rfl:u=uP a:=rx;exact jga I1 ea c n l fun u' s2 I2 ru=>⟨v,H1,I2,ru,q⟩
def qd7(ha:PE X o ta)(hv:PE X value tv)(hs:eZ value (some (.Attribute o f pos')) pos.line X.env=pure false):PS X (.Assign [.Attribute o f pos'] value pos) (jw1 X.K ta tv f):=by
 intro pins s σ H D I h;refine plainObj_wpAny_Assign_Attribute (thn (hv pins s σ H _ I h) fun u s1 ⟨y,H1,I1,ry,q⟩=>thn (ha pins s1 σ H1 _ I1 q) fun ov s2 ⟨x,H2,I2,rx,a,C,dx,fs,ex,ea,c,n,l,q2⟩=>?_) hs;subst ex;obtain rfl:ov=uP a:=rx;exact jgb I2 ea c n l ry fun s3 I3=>⟨σ,_,I3,q2⟩
def jx4:V->V->Hp->VK->Prop:=fun x y H Q=>∃i j,x=.int i/\y=.int j/\Q (.int (i-j)) H
def jqv:jw2 X .Sub jx4:=by
 rintro pins s σ H x y u v Q I rx ry ⟨i,j,rfl,rfl,q⟩;obtain⟨t,rfl⟩:=(show ∃t,u=wZ i t from rx);obtain⟨t',rfl⟩:=(show ∃t',v=wZ j t' from ry);exact PyProof.Rows.isub_int ⟨.int (i-j),H,I.tok _,⟨_,rfl⟩,q⟩
def jn1{pl:Sem Bool}{m:Str}{apos:Pos}{args:List vT}{pins:List (Addr×Obj)}{s:uD}{σ:St}{H:Hp}{Q:uB->uD->Prop}{te:TE}(he:PE X e te)(I:Inv X pins σ H s)
  (h:te σ H fun x H1=>∃a C dx fs g,x=.ref a/\H1 a=some (.ins C dx fs)/\Cls X.K C/\jao X.K C m g/\fs.lookup m=none/\
   ∀s1,Inv X pins σ H1 s1->uS (uU X.prog X.w) X.A (gE pos (.ref g) [.ref a] (wO pos (uZ args X.env)) (dH pos (aV [] X.env))) Q X.xe s1)
  (ht:wK (.Call (.Attribute e m apos) args [] pos) X.env=(do
   let ov<-wK e X.env
   standAt apos.atName
   let (f,first)<-fY [ov] (fA ov m pl)
   gE pos f first (wO pos (uZ args X.env)) (dH pos (aV [] X.env)))):
  uS (uU X.prog X.w) X.A (wK (.Call (.Attribute e m apos) args [] pos) X.env) Q X.xe s:=by
 refine bK (pl:=pl) (thn (he pins s σ H _ I h) fun u s1 ⟨x,H1,I1,rx,a,C,dx,fs,g,ex,ea,c,k,l,q⟩=>?_) ht;subst ex;obtain rfl:u=uP a:=rx;exact qdl I1 ea c k l (q s1 I1)
end
section
variable{X:Cx}{pins:List (Addr×Obj)}{σ:St}{H:Hp}{s:uD}{A:vI}{E:uB->uD->Prop}{Q:uB->uD->Prop}{c:uB}{b:Bool}
inductive jbp(K:uT)(H:Hp):V->uB->Prop where
 |non:jbp K H .non (.type "NoneType")
 |bl(x:Bool):jbp K H (.bl x) (.type "bool")
 |int(i:Int):jbp K H (.int i) (.type "int")
 |str(x:Str):jbp K H (.str x) (.type "str")
 |flt(x:UInt64):jbp K H (.flt x) (.type "float")
 |lst{a:Addr}{xs:List V}(e:H a=some (.lst xs)):jbp K H (.ref a) (.type "list")
 |frz{a:Addr}{o:Obj}{xs:List V}(e:H a=some (.frz o (.lst xs))):jbp K H (.ref a) (.type "list")
 |tup{a:Addr}{xs:List V}(e:H a=some (.tup xs)):jbp K H (.ref a) (.type "tuple")
 |dK{a:Addr}{kvs:List (Key×V)}(e:H a=some (.dK kvs)):jbp K H (.ref a) (.type "dict")
 |dT{a:Addr}{kvs:List (List Key×V)}(e:H a=some (.dT kvs)):jbp K H (.ref a) (.type "dict")
 |ins{a C dx:Addr}{fs:List (Str×V)}(e:H a=some (.ins C dx fs))(cl:Cls K C)(ha:vU K (.ref C) "__class__"=some (some (.builtin "object.__class__")))
   (hn:eY K (.builtin "object.__class__") "__get__"=some (some (.builtin "getset_descriptor.__get__"))) (htk:PySem.W.takesIn K (.builtin "object.__class__")=some true)
   (hm:mroIn K C (.type "object")=some true):jbp K H (.ref a) (.ref C)
def jha{x:V}{t:uB}(I:Inv X pins σ H s)(rx:qb8 x u)(ty:jbp X.K H x t)(e:cN X.K t c=some b)(h:∀tk,Q (.bool b) {s with toks:=tk}):
  uS (uU X.prog X.w) A (call (.builtin "isinstance") [u,c]) Q E s:=by
 cases ty with
 |non=>cases(show u=vV from rx);exact wL PySem.W.kitx_none I.kIn wM e (fun z=>nomatch z) h
 |bl y=>cases(show u=fN y from rx);exact wL PySem.W.kitx_bool I.kIn wM e (fun z=>nomatch z) h
 |int i=>obtain⟨t,q⟩:=(show ∃t,u=wZ i t from rx);cases q;exact wL PySem.W.kitx_int I.kIn wM e (fun z=>nomatch z) h
 |str y=>obtain⟨t,q⟩:=(show ∃t,u=cK y t from rx);cases q;exact wL PySem.W.kitx_str I.kIn wM e (fun z=>nomatch z) h
 |flt y=>obtain⟨t,q⟩:=(show ∃t,u=Value.float y t from rx);cases q;exact wL PySem.W.kitx_float I.kIn wM e (fun z=>nomatch z) h
 | @lst a xs ea=>
  cases(show u=uP a from rx)
  obtain⟨_,_,n,_,h1⟩:=(show qbj X.prog X.w H s.heap a (.lst xs) from I.hok a _ ea);exact wL PySem.W.kitx_list I.kIn ⟨_,h1,rfl⟩ e (fun z=>nomatch z) h
 | @frz a ob xs ea=>
  cases(show u=uP a from rx)
  obtain⟨_,_,_,n,_,h1⟩:=(show qbj X.prog X.w H s.heap a (.frz ob (.lst xs)) from I.hok a _ ea);exact wL PySem.W.kitx_list I.kIn ⟨_,h1,rfl⟩ e (fun z=>nomatch z) h
 | @tup a xs ea=>
  cases(show u=uP a from rx)
  obtain⟨_,_,_,p⟩:=(show qbj X.prog X.w H s.heap a (.tup xs) from I.hok a _ ea);obtain⟨o,h1,h2,_⟩:=p;exact wL PySem.W.kitx_tuple I.kIn ⟨o,h1,h2⟩ e (fun z=>nomatch z) h
 | @dK a kvs ea=>
  cases(show u=uP a from rx)
  obtain⟨_,_,vs,_,p⟩:=(show qbj X.prog X.w H s.heap a (.dK kvs) from I.hok a _ ea);obtain⟨o,es,ep,h1,h2,_⟩:=p;exact wL PySem.W.kitx_dict I.kIn ⟨o,h1,h2.1⟩ e (fun z=>nomatch z) h
 | @dT a kvs ea=>
  cases(show u=uP a from rx)
  obtain⟨_,_,xs,_,o,es,ep,h1,h2,_⟩:=(show qbj X.prog X.w H s.heap a (.dT kvs) from I.hok a _ ea);exact wL PySem.W.kitx_dict I.kIn ⟨o,h1,h2.1⟩ e (fun z=>nomatch z) h
 | @ins a C dx fs ea cl ha hn htk hm=>
  cases(show u=uP a from rx)
  obtain⟨mA,O,_⟩:=qgg I.hok ea;obtain⟨od,J,_⟩:=O.look;exact wL (PySem.W.kitx_own (cl.get _) cl.hd ha hn htk hm) I.kIn J e (fun z=>nomatch z) h
end
structure ja0(k:Nat)(A:vI):Prop where
 hd:A.handled=none
 dp:A.depth+3*k+5<recursionLimit
 un:A.units+16*k+200<cLine
def ja0.mono{j k:Nat}(r:ja0 k A)(h:j<=k):ja0 j A:=⟨r.hd,by have:=r.dp;omega,by have:=r.un;omega⟩
theorem ja0.deeper{k:Nat}(r:ja0 (k+1) A)(env:Env):ja0 k (A.deeper env):=
 ⟨r.hd,by have:=r.dp;show A.depth+1+3*k+5<_;omega,by have:=r.un;show A.units+3+16*k+200<_;omega⟩
def jgc{kw:List (Str×uB)} :(A.under (.builtin "type.__call__" ⟨.ref C::us,kw⟩)).depth=A.depth+1:=by
 first|rfl|simp[Around.under,Code.weight,Code.isCreation,Code.isGuard,Code.isCaller,Code.frames,Code.isFrame,guardIds]
def jgd{kw:List (Str×uB)} :(A.under (.builtin "type.__call__" ⟨.ref C::us,kw⟩)).units=A.units+1:=by
 first|rfl|simp[Around.under,Code.cUnits,Code.frames,Code.isFrame]
def ja0.make{k:Nat}(r:ja0 (k+1) A)(C:Addr)(us:List uB)(kw:List (Str×uB)):ja0 k (A.under (.builtin "type.__call__" ⟨.ref C::us,kw⟩)):=
 ⟨r.hd,by have:=r.dp;rw[jgc];omega,by have:=r.un;rw[jgd];omega⟩
theorem ja0.depth{k:Nat}(r:ja0 k A):A.depth<recursionLimit:=by have:=r.dp;omega
theorem ja0.units{k:Nat}(r:ja0 k A):A.units+64<cLine:=by have:=r.un;omega
def jua:TA:=fun _ H Q=>Q [] H
def jqw(ta:TE)(tr:TA):TA:=fun σ H Q=>ta σ H fun x H1=>tr σ H1 fun xs H2=>Q (x::xs) H2
section
variable{X:Cx}{e:vT}{es:List vT}{te:TE}{t:TA}{pos:Pos}
def qa3:PA X [] jua:=fun _ _ _ _ H Q I h=>Calls.spliced_nil ⟨[],H,I,.nil,h⟩
def qa0(ha:PE X e te)(hr:PA X es t)(hs:uZ (e::es) X.env=(false,wK e X.env)::uZ es X.env:=by rfl):PA X (e::es) (jqw te t):=by
 intro pos pins s σ H Q I h;rw[hs];show uS _ _ (spliced ((false,wK e X.env)::wO pos (uZ es X.env))) _ _ s;refine fS (thn (ha pins s σ H _ I h) fun u s1 ⟨x,H1,I1,r1,q1⟩=>?_);exact thn (hr pos pins s1 σ H1 _ I1 q1) fun us s2 ⟨xs,H2,I2,r2,q2⟩=>⟨x::xs,H2,I2,.cons r1 r2,q2⟩
def jw3(t:TA):TE:=fun σ H Q=>t σ H fun xs H1=>xs.length<=sizeLine/\∀p,H1 p=none->Q (.ref p) (upd H1 p (.tup xs))
def jw4(t:TA):TE:=fun σ H Q=>t σ H fun xs H1=>xs.length<=sizeLine/\∀p,H1 p=none->Q (.ref p) (upd H1 p (.lst xs))
def qc7{x1}(h:PA X es t):PE X (.Tuple es x1 pos) (jw3 t):=by
 intro pins s σ H Q I hq;refine wpAny_Tuple_spliced (thn (h pos pins s σ H _ I hq) fun us s1 ⟨xs,H1,I1,r,z,q⟩=>⟨by rw[<-r.length];exact z,?_⟩);have hf:H1 ↑s1=none:=I1.hok.fresh (uH _);refine⟨.ref ↑s1,upd H1 ↑s1 (.tup xs),I1.laid (t':=s1.toks) (fun b u e=>uE _ e) (uH _) ?_,rfl,q _ hf⟩;exact⟨z,us,r,⟨_,uQ _ rfl,rfl,_,rfl⟩⟩
def qbl(h:PA X es t):PE X (.List es pos) (jw4 t):=by
 intro pins s σ H Q I hq;refine wpAny_List_spliced (thn (h pos pins s σ H _ I hq) fun us s1 ⟨xs,H1,I1,r,z,q⟩=>⟨by rw[<-r.length];exact z,?_⟩);have hf:H1 ↑s1=none:=I1.hok.fresh (uH _);refine⟨.ref ↑s1,upd H1 ↑s1 (.lst xs),I1.laid (t':=s1.toks) (fun b u e=>uE _ e) (uH _) ?_,rfl,q _ hf⟩;exact⟨z,us,0,r,uQ _ rfl⟩
end
abbrev Sp:=List V->Hp->VK->XK->Prop
abbrev CXT:=List Env->Hp->uD->XK->uB->uD->Prop
structure jl7(P:uX)(w:vG)(K:uT)(mg:Str->Option uB)(base:vN)(A:vI)(outer:List Env)(s:uD)(H:Hp):Prop where
 frames:A.frames=some outer
 mod:Mod K mg base
 bs:∀b o,base.get? b=some o->s.heap.get? b=some o/\H b=none
 bsz:base.objs.size<=↑s
 funs:s.heap.FunFrames base outer
 frf:∀b∈frs outer,H b=none
 hok:HOk P w H s.heap
 bare:cR s.gens
def CE(outer:List Env)(P:uX)(w:vG)(H:Hp)(s:uD)(Q:VK)(u:uB)(s':uD):Prop:=
 ∃v H',s'.os=s.os/\cR s'.gens/\Un (frs outer) [] H H' s.heap s'.heap/\HOk P w H' s'.heap/\qb8 v u/\Q v H'
def CR(CX:CXT)(outer:List Env)(P:uX)(w:vG)(H:Hp)(s:uD)(Q:VK)(E:XK)(r:Result)(s':uD):Prop:=
 match r with
 | .ok (.ret u)=>CE outer P w H s Q u s'
 | .ok _=>False
 | .error e=>CX outer H s E e s'
structure jab(P:uX)(w:vG)(K:uT)(mg:Str->Option uB)(base:vN)(CX:CXT)(k:Nat)(f:Addr)(fd:uL)(ps:List Str)(sp:Sp):Prop where
 len:∀vs H Q E,sp vs H Q E->vs.length=ps.length
 run:∀(A:vI)(outer:List Env)(s:uD)(H:Hp)(args:Args)(us:List uB)(vs:List V)(Q:VK)(E:XK),ja0 k A->jl7 P w K mg base A outer s H->dQ s fd args (ps.zip us)->qba vs us->sp vs H Q E->
  cG (uU P w) A (.call (.ref f) args) (CR CX outer P w H s Q E) s
theorem jab.mono{P:uX}{w:vG}{K:uT}{mg:Str->Option uB}{base:vN}{CX:CXT}{j k:Nat}{f:Addr}{fd:uL}{ps:List Str}{sp:Sp}(F:jab P w K mg base CX j f fd ps sp)(h:j<=k):
  jab P w K mg base CX k f fd ps sp:=⟨F.len,fun A outer s H args us vs Q E hr=>F.run A outer s H args us vs Q E (hr.mono h)⟩
def jab.imp{P:uX}{w:vG}{K:uT}{mg:Str->Option uB}{base:vN}{CX:CXT}{k:Nat}{f:Addr}{fd:uL}{ps:List Str}{sp sp':Sp}(F:jab P w K mg base CX k f fd ps sp)
  (h:∀vs H Q E,sp' vs H Q E->sp vs H Q E):jab P w K mg base CX k f fd ps sp':=
 ⟨fun vs H Q E q=>F.len vs H Q E (h _ _ _ _ q),fun A outer s H args us vs Q E hr he hb hv hs=>F.run A outer s H args us vs Q E hr he hb hv (h _ _ _ _ hs)⟩
def jl7.make{P:uX}{w:vG}{K:uT}{mg:Str->Option uB}{base:vN}{A:vI}{outer:List Env}{s:uD}{H:Hp}(e:jl7 P w K mg base A outer s H)(C:Addr)(us:List uB)(kw:List (Str×uB)):
  jl7 P w K mg base (A.under (.builtin "type.__call__" ⟨.ref C::us,kw⟩)) outer s H:=⟨by first|exact e.frames|(simpa[Around.under,Code.envs,Code.isFrame,pushEnvs] using e.frames),e.mod,e.bs,e.bsz,e.funs,e.frf,e.hok,e.bare⟩
section
variable{X:Cx}{pins:List (Addr×Obj)}{σ:St}{H:Hp}{s s':uD}
def Inv.env0(I:Inv X pins σ H s):jl7 X.prog X.w X.K X.mg X.base X.A X.stack s H:=
 ⟨I.ok.frames,I.ok.mod,I.bs,vP I.ok.bsz I.sz,I.stack,I.stkFree,I.hok,I.bare⟩
def Inv.after{Q:VK}(I:Inv X pins σ H s)(h:CE X.stack X.prog X.w H s Q u s'):EP X pins σ Q u s':=by
 obtain⟨v,H',os,bare,un,hok,r,q⟩:=h;obtain⟨hh,g,d,t,os'⟩:=s';obtain rfl:os'=s.os:=os;exact⟨v,H',I.call (h':=hh) (g':=g) (d':=d) (t':=t) (ch:=[]) un hok bare (fun b z=>absurd z (by simp)),r,q⟩
end
def jqx(sp:Sp)(dvs:List V)(E:XK)(t:TA):TE:=fun σ H Q=>t σ H fun vs H1=>sp (vs++dvs) H1 Q E
def jn2(C:Addr)(m:Str)(sp:Sp)(dvs:List V)(E:XK)(ta:TE)(t:TA):TE:=fun σ H Q=>ta σ H fun x H1=>∃a dx fs,x=.ref a/\H1 a=some (.ins C dx fs)/\fs.lookup m=none/\
 t σ H1 fun vs H2=>sp (x ::(vs++dvs)) H2 Q E
def jqy(C:Addr)(sp:Sp)(dvs:List V)(E:XK)(t:TA):TE:=fun σ H Q=>t σ H fun vs H1=>∀x dx,H1 x=none->H1 dx=none->dx≠x->
 sp (.ref x ::(vs++dvs)) (upd (upd H1 dx (.own x)) x (.ins C dx [])) (fun v H2=>v=.non/\Q (.ref x) H2) E
def qap(K:uT)(fd:uL)(ps:List Str)(ds:List uB):Prop:=
 ∀(s:uD)(us:List uB),K.In s.heap->(us++ds).length=ps.length->dQ s fd ⟨us,[]⟩ (ps.zip (us++ds))
def qap.all{fd:uL}{ps:List Str}(h:∀us:List uB,us.length=ps.length->bindArgs fd ⟨us,[]⟩=pure (ps.zip us)):qap K fd ps []:=fun s us _ hl=>by
 rw[yC] at hl⊢;exact .of_eq (h us hl)
def qfl(CX:CXT)(X:Cx)(E:XK):Prop:=∀(pins:List (Addr×Obj))(σ:St)(H:Hp)(s:uD)(e:uB)(s':uD),Inv X pins σ H s->CX X.stack H s E e s'->X.xe e s'
section
variable{X:Cx}{CX:CXT}{k:Nat}{f C:Addr}{fd:uL}{ps:List Str}{sp:Sp}{dvs:List V}{ds:List uB}{E:XK}{x m:Str}{p pos apos:Pos}{e o:vT}{es:List vT}{ta:TE}{t:TA}
def jhb{pins:List (Addr×Obj)}{σ:St}{H:Hp}{s:uD}{Q:VK}{us:List uB}{vs:List V}(F:jab X.prog X.w X.K X.mg X.base CX k f fd ps sp)(hr:ja0 k X.A)(hb:qap X.K fd ps ds)(hd:qba dvs ds)(hx:qfl CX X E)
  (I:Inv X pins σ H s)(r:qba vs us)(h:sp (vs++dvs) H Q E):uS (uU X.prog X.w) X.A (call (.ref f) us) (EP X pins σ Q) X.xe s:=by
 have r2:qba (vs++dvs) (us++ds):=r.append hd;have hl:(us++ds).length=ps.length:=by rw[<-r2.length];exact F.len _ _ _ _ h
 refine aR (xL (F.run X.A X.stack s H ⟨us,[]⟩ (us++ds) (vs++dvs) Q E hr I.env0 (hb s us I.kIn hl) r2 h) fun r s' hq=>?_)
 cases r with
 |error e=>exact hx pins σ H s e s' I hq
 |ok fl=>
  cases fl with
  |ret u=>exact I.after hq
  |next=>exact vY hq
  |brk=>exact vY hq
  |cont=>exact vY hq
def qa9(F:jab X.prog X.w X.K X.mg X.base CX k f fd ps sp)(hr:ja0 k X.A)(hg:Gl X x)(hm:X.mg x=some (.ref f))(hk:dL X.K (.ref f)=true)(hb:qap X.K fd ps ds)(hd:qba dvs ds)(hx:qfl CX X E)
  (ha:PA X (e::es) t)(hdb:(x==("__debug__":Str))=false:=by decide)(he:uZ (e::es) X.env=(false,wK e X.env)::uZ es X.env:=by rfl)(hpl:(wO pos (uZ es X.env)).any (·.1)=false:=by rfl):
  PE X (.Call (.Name x p) (e::es) [] pos) (jqx sp dvs E t):=by
 intro pins s σ H Q I h;refine wW (qds I hg hm ?_ hdb);refine xM (h₀:=X.base) I.ok.mod.kin hk (thn (ha pos pins s σ H _ I h) fun us s1 ⟨vs,H1,I1,r,q⟩=>⟨I1.kIn,?_⟩) he hpl;exact jhb F hr hb hd hx I1 r q
def qeb{pl:Sem Bool}(he:PE X o ta)(c:Cls X.K C)(hm:jao X.K C m f)(F:jab X.prog X.w X.K X.mg X.base CX k f fd ps sp)(hr:ja0 k X.A)(hb:qap X.K fd ps ds)(hd:qba dvs ds)(hx:qfl CX X E)(ha:PA X (e::es) t)
  (hst:uZ (e::es) X.env=(false,wK e X.env)::uZ es X.env:=by rfl)(hpl:(wO pos (uZ es X.env)).any (·.1)=false:=by rfl)
  (ht:wK (.Call (.Attribute o m apos) (e::es) [] pos) X.env=(do
   let ov<-wK o X.env
   standAt apos.atName
   let (f,first)<-fY [ov] (fA ov m pl)
   gE pos f first (wO pos (uZ (e::es) X.env)) (dH pos (aV [] X.env))):=by rfl):
  PE X (.Call (.Attribute o m apos) (e::es) [] pos) (jn2 C m sp dvs E ta t):=by
 intro pins s σ H Q I h;refine bK (pl:=pl) (thn (he pins s σ H _ I h) fun u s1 ⟨x,H1,I1,rx,a,dx,fs,ex,ea,l,q⟩=>?_) ht;subst ex;obtain rfl:u=uP a:=rx;refine qdl I1 ea c hm l ?_;refine xM (first:=[.ref a]) (h₀:=X.base) I.ok.mod.kin hm.kp (thn (ha pos pins s1 σ H1 _ I1 q) fun us s2 ⟨vs,H2,I2,r,q2⟩=>⟨I2.kIn,?_⟩) hst hpl;exact jhb (us:=.ref a::us) (vs:=.ref a::vs) F hr hb hd hx I2 (.cons rfl r) q2
def qer{pl:Sem Bool}(he:PE X o ta)(c:Cls X.K C)(hm:jao X.K C m f)(F:jab X.prog X.w X.K X.mg X.base CX k f fd ps sp)(hr:ja0 k X.A)(hb:qap X.K fd ps ds)(hd:qba dvs ds)(hx:qfl CX X E)
  (ht:wK (.Call (.Attribute o m apos) [] [] pos) X.env=(do
   let ov<-wK o X.env
   standAt apos.atName
   let (f,first)<-fY [ov] (fA ov m pl)
   gE pos f first (wO pos (uZ [] X.env)) (dH pos (aV [] X.env))):=by rfl):
  PE X (.Call (.Attribute o m apos) [] [] pos) (jn2 C m sp dvs E ta jua):=by
 intro pins s σ H Q I h;refine bK (pl:=pl) (thn (he pins s σ H _ I h) fun u s1 ⟨x,H1,I1,rx,a,dx,fs,ex,ea,l,q⟩=>?_) ht;subst ex;obtain rfl:u=uP a:=rx;refine qdl I1 ea c hm l ?_;exact PySem.W.callWith_K0 (first:=[.ref a]) I1.kIn hm.kp (jhb (us:=[.ref a]) (vs:=[.ref a]) F hr hb hd hx I1 (.cons rfl .nil) q)
structure Mk(K:uT)(C f:Addr):Prop where
 makes:PySem.W.makesIn K C=true
 init:vU K (.ref C) "__init__"=some (some (.ref f))
 fn:isFn K (.ref f)=true
 kp:dL K (.ref C)=true
def jkf{pins:List (Addr×Obj)}{σ:St}{H:Hp}{s:uD}{Q:VK}{us:List uB}{vs:List V}(M:Mk X.K C f)(F:jab X.prog X.w X.K X.mg X.base CX k f fd ps sp)(hr:ja0 (k+1) X.A)(hb:qap X.K fd ps ds)(hd:qba dvs ds)
  (hx:qfl CX X E)(I:Inv X pins σ H s)(r:qba vs us)
  (h:∀x dx,H x=none->H dx=none->dx≠x->sp (.ref x ::(vs++dvs)) (upd (upd H dx (.own x)) x (.ins C dx [])) (fun v H2=>v=.non/\Q (.ref x) H2) E):
  uS (uU X.prog X.w) X.A (call (.ref C) us) (EP X pins σ Q) X.xe s:=by
 have hq:=h (↑s+1) ↑s (I.hok.fresh (xH _)) (I.hok.fresh (uH _)) (vC (bP _));have I2:=Inv.made (C:=C) I;have r2:qba (V.ref (↑s+1) ::(vs++dvs)) (uP (↑s+1) ::(us++ds)):=.cons rfl (r.append hd);have hl:(uP (↑s+1)::us++ds).length=ps.length:=by
  have e:=r2.length;rw[F.len _ _ _ _ hq] at e;exact e.symm
 refine aR (jex (f:=f) I.kIn M.makes M.init (beq_iff_eq.mp M.fn) (xL (F.run _ X.stack _ _ ⟨uP (↑s+1)::us,[]⟩ (uP (↑s+1) ::(us++ds)) _ _ E (hr.make C us [])
  (I2.env0.make C us []) (hb _ (uP (↑s+1)::us) I2.kIn hl) r2 hq) fun r s' hq'=>?_))
 cases r with
 |error e=>exact hx pins σ _ _ e s' I2 hq'
 |ok fl=>
  cases fl with
  |ret u=>
   obtain⟨v,H',I3,rv,ev,q3⟩:=I2.after hq';subst ev;exact⟨rv,⟨V.ref (↑s+1),H',I3,rfl,q3⟩⟩
  |next=>exact vY hq'
  |brk=>exact vY hq'
  |cont=>exact vY hq'
def jdu(M:Mk X.K C f)(F:jab X.prog X.w X.K X.mg X.base CX k f fd ps sp)(hr:ja0 (k+1) X.A)(hg:Gl X x)(hm:X.mg x=some (.ref C))(hb:qap X.K fd ps ds)(hd:qba dvs ds)(hx:qfl CX X E)
  (ha:PA X (e::es) t)(hdb:(x==("__debug__":Str))=false:=by decide)(he:uZ (e::es) X.env=(false,wK e X.env)::uZ es X.env:=by rfl)(hpl:(wO pos (uZ es X.env)).any (·.1)=false:=by rfl):
  PE X (.Call (.Name x p) (e::es) [] pos) (jqy C sp dvs E t):=by
 intro pins s σ H Q I h;refine wW (qds I hg hm ?_ hdb);refine xM (h₀:=X.base) I.ok.mod.kin M.kp (thn (ha pos pins s σ H _ I h) fun us s1 ⟨vs,H1,I1,r,q⟩=>⟨I1.kIn,?_⟩) he hpl;exact jkf M F hr hb hd hx I1 r q
end
section
variable{fd:uL}{ps ks:List Str}
structure jw5(K:uT)(fd:uL)(ps ks:List Str)(g:List uB->List uB->List uB)(gV:List V->List V->List V):Prop where
 to:∀(s:uD)(us ws:List uB),K.In s.heap->(g us ws).length=ps.length->dQ s fd ⟨us,ks.zip ws⟩ (ps.zip (g us ws))
 rel:∀{vs:List V} {us:List uB} {zs:List V} {ws:List uB},qba vs us->qba zs ws->qba (gV vs zs) (g us ws)
end
structure jaa(N P:List Str)(sc:aL):Prop where
 kind:sc.kind=.function
 co:sc.isCoroutine=false
 gen:sc.isGenerator=false
 nd:N.Nodup
 pre:N.take P.length=P
 par:∀x∈P,sc.names.lookup x=some .local\/sc.names.lookup x=some .cell
 nofree:∀y∈sc.names,y.2≠ .free
theorem jcg{kindOf:Str->Option NameKind}{x:Str}:∀{binds:List (Str×uB)} {m:Str->Option uB},(∀v,(x,v)∉binds)->bindL kindOf binds m x=m x
 | [],_,_=>rfl
 |(n,v)::r,m,h=>by
  unfold bindL;rw[jcg fun w hw=>h w (zH _ hw)]
  split
  .have:x≠n:=by rintro rfl;exact h v zN
   simp[this]
  .rfl
theorem jch{kindOf:Str->Option NameKind}{x:Str}:∀{binds:List (Str×uB)} {m:Str->Option uB},(∀v,(x,v)∉binds)->bindC kindOf binds m x=m x
 | [],_,_=>rfl
 |(n,v)::r,m,h=>by
  unfold bindC;rw[jch fun w hw=>h w (zH _ hw)]
  split
  .rfl
  .have:x≠n:=by rintro rfl;exact h v zN
   simp[this]
theorem jci{kindOf:Str->Option NameKind}{x:Str}{v:uB}:∀{P:List Str} {vs:List uB} {i:Nat} {m:Str->Option uB},P.Nodup->P[i]?=some x->vs[i]?=some v->kindOf x=some .local->
  bindL kindOf (P.zip vs) m x=some v
 | [],_,_,_,_,h,_,_=>by simp at h
 |_::_,[],_,_,_,_,h,_=>by simp at h
 |p::P,w::vs,0,m,nd,h1,h2,hk=>by
  simp at h1 h2;subst h1;subst h2;show bindL kindOf ((p,w)::P.zip vs) m p=_;unfold bindL;rw[jcg fun v hv=>(zV.mp nd).1 (List.of_mem_zip hv).1,iB hk];simp
 |p::P,w::vs,i+1,m,nd,h1,h2,hk=>by
  show bindL kindOf ((p,w)::P.zip vs) m x=_;unfold bindL;exact jci (i:=i) (zV.mp nd).2 (by simpa using h1) (by simpa using h2) hk
theorem jcj{kindOf:Str->Option NameKind}{x:Str}{v:uB}:∀{P:List Str} {vs:List uB} {i:Nat} {m:Str->Option uB},P.Nodup->P[i]?=some x->vs[i]?=some v->kindOf x≠some .local->
  bindC kindOf (P.zip vs) m x=some v
 | [],_,_,_,_,h,_,_=>by simp at h
 |_::_,[],_,_,_,_,h,_=>by simp at h
 |p::P,w::vs,0,m,nd,h1,h2,hk=>by
  simp at h1 h2;subst h1;subst h2;show bindC kindOf ((p,w)::P.zip vs) m p=_;unfold bindC;rw[jch fun v hv=>(zV.mp nd).1 (List.of_mem_zip hv).1,iA hk];simp
 |p::P,w::vs,i+1,m,nd,h1,h2,hk=>by
  show bindC kindOf ((p,w)::P.zip vs) m x=_;unfold bindC;exact jcj (i:=i) (zV.mp nd).2 (by simpa using h1) (by simpa using h2) hk
def qe8(N:List Str)(vs:List V):St:=vs.map some++bE (N.length-vs.length) none
def cxOf(CX:CXT)(P:uX)(w:vG)(K:uT)(mg:Str->Option uB)(base:vN)(N:List Str)(qual:Str)(scope:aL)(f:Addr)(cd:uB)(A:vI)(outer:List Env)(s:uD)(H:Hp)(E:XK):Cx where
 prog:=P
 w:=w
 K:=K
 mg:=mg
 base:=base
 A:=A.deeper (dB qual scope ↑s f cd)
 N:=N
 s₀:=s
 H₀:=H
 env:=dB qual scope ↑s f cd
 outer:=outer
 stack:=dB qual scope ↑s f cd::outer
 ex:=[]
 calm:=true
 fn:=fun _=>true
 pn:=[]
 xe:=fun e s'=>uS (uU P w) (A.deeper (dB qual scope ↑s f cd)) (leaving (dB qual scope ↑s f cd) e) (fun _ s''=>CX outer H s E e s'') (fun e' s''=>CX outer H s E e' s'') s'
def jey{sc:aL}{n:Nat}(h:sc.names.lookup x=some .cell):∃c,(cellsFrom n sc.names []).lookup x=some c:=by
 have q:=PySem.W.cellsFrom_some sc.names n [] (.inl h);exact dC.mp q
def jhc{CX:CXT}{P:uX}{w:vG}{K:uT}{mg:Str->Option uB}{base:vN}{N ps:List Str}{qual:Str}{scope:aL}{f:Addr}{cd:uB}{A:vI}{outer:List Env}{s s1:uD}{H:Hp}{E:XK}{us:List uB}{vs:List V}
  (S:jaa N ps scope)(hd:A.handled=none)(e0:jl7 P w K mg base A outer s H)(hl:vs.length=ps.length)(r:qba vs us)
  (x:InCallC s ↑s (bindL (dB qual scope ↑s f cd).kindOf (ps.zip us) fun _=>none) (cellsFrom (↑s+1) scope.names []) (bindC (dB qual scope ↑s f cd).kindOf (ps.zip us) fun _=>none) s1):
  Inv (cxOf CX P w K mg base N qual scope f cd A outer s H E) [] (qe8 N vs) H s1:=by
 have hpl:ps.length<=N.length:=by have:=congrArg wV S.pre;rw[zS] at this;omega
 obtain⟨h1,tk,rfl,hk⟩:=x.done;have noA:∀b:Addr,b∉(cxOf CX P w K mg base N qual scope f cd A outer s H E).ex:=fun b z=>absurd (show b∈([]:List Addr) from z) (by simp);refine⟨⟨e0.mod,S.kind,rfl,rfl,uH _,fun y z c h1 h2=>?_,fun y hy=>?_,fun y c _ h=>?_,fun _=>hd,Around.frames_deeper e0.frames,.inr ⟨rfl,rfl⟩,fun b z=>absurd z (noA b),e0.bs,e0.bsz,fun b _ _=>noA b,fun b z=>absurd z (noA b),e0.funs,e0.frf⟩,
  rfl,e0.bare,Un.kept hk,⟨_,x.toInCall.ns,fun i y v h1 h2 h3=>?_⟩,fun y c h=>⟨_,x.cell y c h⟩,e0.hok.fresh (uH _),fun y c h=>?_,fun p hp=>absurd (show p∈([]:List (Addr×Obj)) from hp) (by simp),e0.hok.kept hk,?_⟩
 .exact name_of_addr x.apart (aI h1) (aI h2)
 .have hy:scope.names.lookup y=some .cell\/scope.names.lookup y=some .free:=hy;rcases hy with hy|hy
  .exact jey hy
  .exact absurd rfl (S.nofree _ (aI hy))
 .exact cF (x.above y c (aI h))
 .have hi:i<vs.length:=by
   unfold qe8 at h2;by_cases hi:i<vs.length
   .exact hi
   .rw[zZ (by simpa using hi)] at h2;rw[List.getElem?_replicate] at h2
    split at h2<;>cases h2
  have ha:vs[i]?=some v:=by
   unfold qe8 at h2;rw[yD (by simpa using hi),zC] at h2
   cases e:vs[i]? with
   |none=>rw[e] at h2;cases h2
   |some a=>rw[e] at h2;cases h2;rfl
  obtain⟨u,hu,rv⟩:=r.get ha;have hp:ps[i]?=some y:=by
   rw[<-S.pre,List.getElem?_take_of_lt ↑∅];exact h1
  have ndP:ps.Nodup:=by rw[<-S.pre];exact S.nd.sublist (List.take_sublist _ _)
  refine⟨u,rv,?_⟩;rcases S.par y (zD hp) with k|k
  .exact .inl ⟨k,jci ndP hp hu k⟩
  .obtain⟨c,e⟩:=jey (n:=↑s+1) k;refine .inr ⟨.inl k,c,e,?_⟩;have q:=x.cell y c e;rw[jcj ndP hp hu (by show scope.names.lookup y≠_;rw[k];decide)] at q;exact q
 .exact e0.hok.fresh (cF (x.above y c (aI h)))
 .unfold qe8;show _=N.length;rw[zF,zB,List.length_replicate];omega
def jkg{CX:CXT}{P:uX}{w:vG}{K:uT}{mg:Str->Option uB}{base:vN}{k:Nat}{f:Addr}{name qual:Str}{params:cM}{body:List Stmt}{scope:aL}{dV kV doc pm cdv ct oc:uB}{an od:Option Addr}
  {osl:Array (Option uB)}{N ps:List Str}{sp:Sp}(lk:K.lookup f=some ⟨oc,od,.func (fnOf name qual params body scope dV kV doc pm an cdv ct),osl⟩)(hcd:gX K cdv qual=true)(S:jaa N ps scope)
  (len:∀vs H Q E,sp vs H Q E->vs.length=ps.length)
  (hbody:∀(A:vI)(outer:List Env)(s:uD)(H:Hp)(vs:List V)(Q:VK)(E:XK),ja0 k (A.deeper (dB qual scope ↑s f cdv))->sp vs H Q E->
   ∃t,PSs (cxOf CX P w K mg base N qual scope f cdv A outer s H E) body t/\t {nx:=fun _ H'=>Q .non H',rt:=Q} (qe8 N vs) H):
  jab P w K mg base CX (k+1) f (fnOf name qual params body scope dV kV doc pm an cdv ct) ps sp:=by
 refine⟨len,fun A outer s H args us vs Q E hr e0 hb r hsp=>?_⟩;have hl:=len _ _ _ _ hsp;have KX:K.In s.heap:=e0.mod.kin.keeps fun b o e=>(e0.bs b o e).1;have lim:s.heap.NoLimit:=e0.mod.nolimit.keeps fun b o e=>(e0.bs b o e).1;have hkind:∀y∈ps.zip us,scope.names.lookup y.1=some .local\/(scope.names.lookup y.1=some .cell/\((cellsFrom (↑s+1) scope.names []).lookup y.1).isSome=true):=fun⟨n,v⟩ hy=>by
  rcases S.par n (List.of_mem_zip hy).1 with q|q
  .exact .inl q
  .exact .inr ⟨q,PySem.W.cellsFrom_some _ _ _ (.inl q)⟩
 refine codeAny_call_function hr.depth (KX _ _ lk) rfl S.co S.gen rfl (PySem.W.codeRec_of KX hcd) (hb _ _ _ _ ?_);refine wpAny_newFunctionEnv_cells S.kind hkind fun env he s1 x=>?_;subst he;refine⟨lim.keeps x.toInCall.keep,codeAny_func ?_⟩;obtain⟨t,ht,hq⟩:=hbody A outer s H vs Q E (hr.deeper _) hsp;have I:Inv (cxOf CX P w K mg base N qual scope f cdv A outer s H E) [] (qe8 N vs) H s1:=jhc S hr.hd e0 hl r x;refine vS (ht [] s1 (qe8 N vs) H _ I hq) (fun fl s' hs=>?_) fun e s' hs=>hs;have fin:∀{σ':St} {H':Hp} {v:V} {u:uB},Inv (cxOf CX P w K mg base N qual scope f cdv A outer s H E) [] σ' H' s'->qb8 v u->Q v H'->CE outer P w H s Q u s':=
  fun {σ' H' v u} J rv q=>⟨v,H',J.os,J.bare,J.base,J.hok,rv,q⟩
 cases fl with
 |ret u=>
  obtain⟨v,σ',H',J,rv,q⟩:=hs;exact fin J rv q
 |next=>
  obtain⟨σ',H',J,q⟩:=hs;exact fin (v:=V.non) (u:=vV) J rfl q
 |brk=>
  obtain⟨_,_,_,q⟩:=hs;exact vY q
 |cont=>
  obtain⟨_,_,_,q⟩:=hs;exact vY q
section
variable{X:Cx}{x:Str}{p pos:Pos}{e:vT}{es:List vT}{t:TA}{id T:String}{r:List V->Hp->VK->Prop}
def tCB(r:List V->Hp->VK->Prop)(t:TA):TE:=fun σ H Q=>t σ H fun vs H1=>r vs H1 Q
def qai(hc:qcb X (.builtin id) r)(hg:Gl X x)(hm:X.mg x=none)(hv:bA x=some (.builtin id))(ha:PA X (e::es) t)(hn:x≠"__name__":=by decide)(hdb:(x==("__debug__":Str))=false:=by decide)
  (he:uZ (e::es) X.env=(false,wK e X.env)::uZ es X.env:=by rfl) (hpl:(wO pos (uZ es X.env)).any (·.1)=false:=by rfl):PE X (.Call (.Name x p) (e::es) [] pos) (tCB r t):=by
 intro pins s σ H Q I h;refine wW (qf8 I hg hm hv ?_ hn hdb);exact PyProof.Rows.callWith_builtin1 (thn (ha pos pins s σ H _ I h) fun us s1 ⟨vs,H1,I1,r1,q1⟩=>hc pins s1 σ H1 vs us Q I1 r1 q1) he hpl
def qaz(hc:qcb X (.type T) r)(hg:Gl X x)(hm:X.mg x=none)(hv:bA x=some (.type T))(ha:PA X (e::es) t)(hn:x≠"__name__":=by decide)(hdb:(x==("__debug__":Str))=false:=by decide)
  (he:uZ (e::es) X.env=(false,wK e X.env)::uZ es X.env:=by rfl) (hpl:(wO pos (uZ es X.env)).any (·.1)=false:=by rfl):PE X (.Call (.Name x p) (e::es) [] pos) (tCB r t):=by
 intro pins s σ H Q I h;refine wW (qf8 I hg hm hv ?_ hn hdb);exact xY (thn (ha pos pins s σ H _ I h) fun us s1 ⟨vs,H1,I1,r1,q1⟩=>hc pins s1 σ H1 vs us Q I1 r1 q1) he hpl
end
end L2
namespace HT
open PySem PyProof.Rows
section
variable{prog:uX}{w:vG}{A:vI}{E:uB->uD->Prop}{s:uD}
def cat_tup{t b:Addr}{vs ws:List uB}{Q:uB->uD->Prop}(ht:IsTup s.heap t vs.toArray)(hb:IsTup s.heap b ws.toArray)(hv:vs≠ [])
  (h1:ws=[]->Q (.ref t) s)(h2:ws≠ []->Q (.ref ↑s) {s with heap:=s.heap.push {cls:=.type "tuple",data:=.seq (vs++ws).toArray}})
  (hsz:vs.length+ws.length<=sizeLine):uS (uU prog w) A (yY .Add (.ref t) (.ref b)) Q E s:=by
 obtain⟨⟨cls,dd,data,sl⟩,ho,hc,n,hd⟩:=id ht;obtain⟨⟨cls2,dd2,data2,sl2⟩,ho2,hc2,n2,hd2⟩:=id hb;simp only at hc hd hc2 hd2;subst hc hd hc2 hd2;have e:vs.toArray++ws.toArray=(vs++ws).toArray:=by simp
 by_cases hw:ws=[]
 .exact concat_meets ⟨_,ho,rfl⟩ ⟨_,ho2,rfl⟩ noFill_tuple_add seq_tuple_add PySem.F.slot_tuple_add PySem.F.entry_tuple_add (PySem.F.args_tuple_add_2 _ _)
   (tuple_addW1 t b vs.toArray ws.toArray n n2 dd dd2 sl sl2 (by simpa using hv) (by simp[hw])) ⟨ho,ho2,h1 hw⟩
 .refine concat_meets ⟨_,ho,rfl⟩ ⟨_,ho2,rfl⟩ noFill_tuple_add seq_tuple_add PySem.F.slot_tuple_add PySem.F.entry_tuple_add (PySem.F.args_tuple_add_2 _ _)
   (tuple_addW2 t b vs.toArray ws.toArray n n2 dd dd2 sl sl2 (by simpa using hv) (by simpa using hw) (by rw[zI,zI];exact hsz)) ⟨ho,ho2,?_⟩
  rw[e];exact h2 hw
def sIx(n d:Nat):Option Int->Nat
 |none=>d
 |some v=>if v<0 then(v+(n:Int)).toNat else min v.toNat n
def sIx_none(n d:Nat):sIx n d none=d:=rfl
def sIx_nat(n d k:Nat):sIx n d (some (k:Int))=min k n:=by
 show(if(k:Int)<0 then((k:Int)+(n:Int)).toNat else min (k:Int).toNat n)=min k n;rw[iA ↑∅,xA]
def jqz(n d:Nat)(hd:d<=n)(o:Option Int):sIx n d o<=n:=by
 cases o with
 |none=>exact hd
 |some v=>
  show(if v<0 then(v+(n:Int)).toNat else min v.toNat n)<=n;by_cases hv:v<0
  .rw[iB hv];omega
  .rw[iA hv];exact Nat.min_le_right _ _
def jhd(v:Int)(n d:Nat):(if v<0 then max (v+(n:Int)) 0 else min v (n:Int))=((sIx n d (some v):Nat):Int):=by
 show(if v<0 then max (v+(n:Int)) 0 else min v (n:Int))=(((if v<0 then(v+(n:Int)).toNat else min v.toNat n):Nat):Int);by_cases hv:v<0
 .simp only[iB hv];omega
 .simp only[iA hv];omega
def jge(lo hi:Option Int)(n:Nat):cQ lo hi 1 (n:Int)=(((sIx n 0 lo:Nat):Int),((sIx n n hi:Nat):Int)):=by
 have h1:¬((1:Int)<0):=by omega
 unfold cQ;simp only[h1,if_false];refine Prod.ext ?_ ?_
 .cases lo with
  |none=>rfl
  |some v=>exact jhd v n 0
 .cases hi with
  |none=>rfl
  |some v=>exact jhd v n n
def jgf(i j:Nat):aF (i:Int) (j:Int) 1=j-i:=by
 unfold aF;have h1:(1:Int) > 0:=by omega
 simp only[h1,if_true,Int.ediv_one]
 split<;>omega
def qfr{v:uB}{o:Option Int}{Q:Option Int->uD->Prop}(p:gY v o)(h:Q o s):uS (uU prog w) A (Builtin.Slice.slicePartIndex v) Q E s:=by
 cases p with
 |none=>exact slicePart_none h
 |int i t=>exact slicePart_int h
def qem{sl:Addr}{vl vu:uB}{lo hi:Option Int}{n:Nat}{Q:Int×Int×Nat->uD->Prop}(hs:s.heap.IsSliceOf sl vl vu .none)(pl:gY vl lo)(pu:gY vu hi)
  (h:Q (((sIx n 0 lo:Nat):Int),1,sIx n n hi-sIx n 0 lo) s):uS (uU prog w) A (Builtin.Slice.sliceApplied (.ref sl) (pure (n:Int))) Q E s:=by
 obtain⟨os,hos,hcs,hds⟩:=id hs;unfold Builtin.Slice.sliceApplied Builtin.Slice.sliceFields;refine uC (uC (aA hos hds (x:=vl) rfl (uC (aA hos hds (x:=vu) rfl (uC (aA hos hds (x:=.none) rfl (uF ?_)))))));refine uC (slicePart_none ?_);show uS _ _ (if((1:Int)==0)=true then _ else _) _ _ s;rw[iA ∅];refine uC (qfr pl (uC (qfr pu (uC (uF ?_)))));show uS _ _ (match cQ lo hi 1 (n:Int) with|(lo,hi)=>pure (lo,(1:Int),aF lo hi 1)) _ _ s;rw[jge lo hi n];show uS _ _ (pure (((sIx n 0 lo:Nat):Int),(1:Int),aF ((sIx n 0 lo:Nat):Int) ((sIx n n hi:Nat):Int) 1)) _ _ s;rw[jgf];exact uF h
def jkh(xs:Array uB)(i k:Nat):((vB k).filterMap fun(m:Nat)=>xs[((i:Int)+(m:Int)*1).toNat]?).toArray=((xs.toList.drop i).take k).toArray:=by
 have e:(fun(m:Nat)=>xs[((i:Int)+(m:Int)*1).toNat]?)=fun m=>xs[i+m]?:=by
  funext m
  have:((i:Int)+(m:Int)*1).toNat=i+m:=by omega
  rw[this]
 rw[e];have:=pick_run xs i k;rw[List.filterMap_map] at this;have e2:((fun x=>xs[x]?)∘fun x=>i+x)=fun m=>xs[i+m]?:=rfl;rw[e2] at this;rw[this]
def getItem_tuple_cut{t sl:Addr}{items:Array uB}{vl vu:uB}{lo hi:Option Int}{Q:uB->uD->Prop}(ht:IsTup s.heap t items)(hs:s.heap.IsSliceOf sl vl vu .none)(pl:gY vl lo)(pu:gY vu hi)
  (hw:¬(sIx items.size 0 lo=0/\sIx items.size items.size hi=items.size))
  (h:Q (.ref ↑s) {s with heap:=s.heap.push {cls:=.type "tuple",data:=.seq ((items.toList.drop (sIx items.size 0 lo)).take (sIx items.size items.size hi-sIx items.size 0 lo)).toArray}})
  (hsz:items.size<=sizeLine):uS (uU prog w) A (fB (.ref t) (.ref sl)) Q E s:=by
 have htake:sizeOk (.seq ((items.toList.drop (sIx items.size 0 lo)).take (sIx items.size items.size hi-sIx items.size 0 lo)).toArray):=by
  show((items.toList.drop (sIx items.size 0 lo)).take (sIx items.size items.size hi-sIx items.size 0 lo)).toArray.size<=sizeLine;rw[zI,zS,bQ,cC];omega
 have hj:sIx items.size items.size hi<=items.size:=jqz _ _ (uH _) hi;obtain⟨os,hos,hcs,hds⟩:=id hs;have hTs:s.TypeIs (.ref sl) "slice":=⟨os,hos,hcs⟩;unfold fB
 try with_reducible refine wR ?_
 first|refine uC (uF ?_) |skip
 refine uC (wpAny_sequenceKey ht.typeIs ∅ ?_);refine uC (wS (name:=xB "__getitem__") ht.typeIs gR
  (wF gR ht.typeIs entry_tuple_getitem ?_ (args_tuple_getitem _ _)))
 show uS _ _ (Builtin.Tuple.tupleItemsOf (.ref t) >>= _) _ _ s;refine uC (tupleItemsOf_ ht ?_);refine uC (wpAny_typeOf hTs ?_);rw[iB ∅];refine uC (qem hs pl pu ?_);have hno:¬((((sIx items.size 0 lo:Nat):Int)==0 && (1:Int)==1 && (sIx items.size items.size hi-sIx items.size 0 lo)==items.size)=true):=by
  intro q;rw[vO,vO] at q;have q1:((sIx items.size 0 lo:Nat):Int)=0:=eq_of_beq q.1.1;have q2:sIx items.size items.size hi-sIx items.size 0 lo=items.size:=eq_of_beq q.2;exact hw ⟨↑∅,↑∅⟩
 show uS _ _ (if(((sIx items.size 0 lo:Nat):Int)==0 && (1:Int)==1 && (sIx items.size items.size hi-sIx items.size 0 lo)==items.size)=true then _ else _) _ _ s;rw[iA hno,jkh]
 first
  |exact uC (m:=aM _) (vX (uF ⟨_,rfl,uF h⟩) htake)
  |exact uC (m:=aM _) (vX (uC (uF (uF ⟨_,rfl,uF h⟩))) htake)
  |exact uC (uC (m:=aM _) (vX (uF (uF ⟨_,rfl,uF h⟩)) htake))
  |exact uC (uC (m:=aM _) (vX (uF ⟨_,rfl,uF h⟩) htake))
end
end HT
namespace L2
open PySem PySem.Spec PyProof.Rows
abbrev TO:=St->Hp->(Option Int->Hp->Prop)->Prop
def PO(X:Cx)(e:Option vT)(t:TO):Prop:=
 ∀(pins:List (Addr×Obj))(s:uD)(σ:St)(H:Hp)(Q:Option Int->Hp->Prop),Inv X pins σ H s->t σ H Q->
  uS (uU X.prog X.w) X.A (evalPart e X.env) (fun u s'=>∃o H',Inv X pins σ H' s'/\gY u o/\Q o H') X.xe s
def jhe:TO:=fun _ H Q=>Q none H
def jq0(t:TE):TO:=fun σ H Q=>t σ H fun x H1=>∃i,x=.int i/\Q (some i) H1
section
variable{X:Cx}{e:vT}{te:TE}{lo hi:Option vT}{tl th:TO}{pos p2:Pos}
def qcx:PO X none jhe:=by
 intro pins s σ H Q I h;rw[evalPart_none];exact uF ⟨none,H,I,.none,h⟩
def qcw(h:PE X e te):PO X (some e) (jq0 te):=by
 intro pins s σ H Q I hw;rw[evalPart_some];refine thn (h pins s σ H _ I hw) fun u s1 ⟨x,H1,I1,r1,q1⟩=>?_;obtain⟨i,rfl,q⟩:=q1;obtain⟨t,rfl⟩:=r1;exact⟨some i,H1,I1,.int i t,q⟩
def SlR(X:Cx)(r:V->Option Int->Option Int->Hp->VK->Prop):Prop:=
 ∀(pins:List (Addr×Obj))(s:uD)(σ:St)(H:Hp)(x:V)(v vl vu:uB)(lo hi:Option Int)(sl:Addr)(Q:VK),Inv X pins σ H s->qb8 x v->s.heap.IsSliceOf sl vl vu .none->gY vl lo->gY vu hi->r x lo hi H Q->
  ∃T id,typeLookup (.type T) "__getitem__"=pure (some (.builtin id))/\s.TypeIs v T/\uS (uU X.prog X.w) X.A (fB v (.ref sl)) (EP X pins σ Q) X.xe s
def tSl(r:V->Option Int->Option Int->Hp->VK->Prop)(te:TE)(tl th:TO):TE:=fun σ H Q=>te σ H fun x H1=>tl σ H1 fun l H2=>th σ H2 fun u H3=>r x l u H3 Q
def qcf{r:V->Option Int->Option Int->Hp->VK->Prop}(hr:SlR X r)(he:PE X e te)(hl:PO X lo tl)(hu:PO X hi th):PE X (.Subscript e (.Slice lo hi none p2) pos) (tSl r te tl th):=by
 intro pins s σ H Q I h;refine Subscript_ (thn (he pins s σ H _ I h) fun v s1 ⟨x,H1,I1,r1,q1⟩=>?_);refine wpAny_Slice (thn (hl pins s1 σ H1 _ I1 q1) fun vl s2 ⟨l,H2,I2,pl,q2⟩=>thn (hu pins s2 σ H2 _ I2 q2) fun vu s3 ⟨u,H3,I3,pu,q3⟩=>?_);rw[evalPart_none];refine uF ?_;have I4:Inv X pins σ H3 {s3 with heap:=s3.heap.push {cls:=.type "slice",data:=.fields #[vl,vu,.none]}}:=I3.kept (t':=s3.toks) fun b ob q=>uE _ q;obtain⟨T,id,hT,ht,hg⟩:=hr pins {s3 with heap:=s3.heap.push {cls:=.type "slice",data:=.fields #[vl,vu,.none]}} σ H3 x v vl vu l u ↑s3 Q I4 r1 (Heap.IsSliceOf.new ..) pl pu q3;show uS (uU X.prog X.w) X.A (subscriptTail e (.Slice lo hi none p2) v (.ref ↑s3)) (EP X pins σ Q) X.xe {s3 with heap:=s3.heap.push {cls:=.type "slice",data:=.fields #[vl,vu,.none]}};exact tail_any (ops:=[.ref ↑s3,v]) ht hT hg (by with_unfolding_all rfl)
def jhf(xs:List V)(lo hi:Option Int):List V:=(xs.drop (HT.sIx xs.length 0 lo)).take (HT.sIx xs.length xs.length hi-HT.sIx xs.length 0 lo)
def qff(xs:List V)(lo hi:Option Int):(jhf xs lo hi).length<=xs.length:=by
 unfold jhf;rw[zS,bQ];omega
def jul(K:uT):V->Option Int->Option Int->Hp->VK->Prop:=fun x lo hi H Q=>∃a xs,x=.ref a/\SqT K H a xs/\
 ¬(HT.sIx xs.length 0 lo=0/\HT.sIx xs.length xs.length hi=xs.length)/\∀p,H p=none->Q (.ref p) (upd H p (.tup (jhf xs lo hi)))
def qef:SlR X (jul X.K):=by
 intro pins s σ H x v vl vu lo hi sl Q I rx hs pl pu h;obtain⟨a,xs,rfl,hx,hw,q⟩:=h
 cases rx
 obtain⟨its,r,ht,hz⟩:=I.tuple hx;have hlen:its.toArray.size=xs.length:=by rw[zI];exact r.length.symm
 refine⟨"tuple",_,PyProof.Rows.slot_tuple_getitem.lookup,ht.typeIs,?_⟩;refine HT.getItem_tuple_cut ht hs pl pu (by rw[hlen];exact hw) ?_ (by rw[hlen];exact hz);rw[hlen];refine⟨.ref ↑s,_,I.laid (t':=s.toks) (o:=.tup (jhf xs lo hi)) (fun b ob q=>uE _ q) (uH _) ?_,rfl,q _ (I.hok.fresh (uH _))⟩;exact⟨vP (qff xs lo hi) hz,_,(r.drop (HT.sIx xs.length 0 lo)).take (HT.sIx xs.length xs.length hi-HT.sIx xs.length 0 lo),IsTup.new _ _⟩
def jq1(K:uT):R2:=fun x y H Q=>∃a b xs ys,x=.ref a/\y=.ref b/\SqT K H a xs/\SqT K H b ys/\xs≠ []/\xs.length+ys.length<=sizeLine/\
 (ys=[]->Q (.ref a) H)/\(ys≠ []->∀p,H p=none->Q (.ref p) (upd H p (.tup (xs++ys))))
def qba.nil_iff{xs:List V}{us:List uB}(r:qba xs us):us=[]↔xs=[]:=by
 cases r with
 |nil=>simp
 |cons _ _=>simp
def qdc:OpR X (yY .Add) (jq1 X.K):=by
 intro pins s σ H x y v u Q I rx ry h;obtain⟨a,b,xs,ys,rfl,rfl,ha,hb,hx,hz,q1,q2⟩:=h
 cases rx
 cases ry
 obtain⟨its,r1,p1,_⟩:=I.tuple ha;obtain⟨its2,r2,p2,_⟩:=I.tuple hb;refine HT.cat_tup p1 p2 (fun z=>hx (r1.nil_iff.mp z)) (fun z=>⟨.ref a,H,I,rfl,q1 (r2.nil_iff.mp z)⟩) (fun z=>?_) (by rw[<-r1.length,<-r2.length];exact hz);refine⟨.ref ↑s,_,I.laid (t':=s.toks) (o:=.tup (xs++ys)) (fun b ob q=>uE _ q) (uH _) ?_,rfl,q2 (fun w=>z (r2.nil_iff.mpr w)) _ (I.hok.fresh (uH _))⟩;exact⟨by rw[zF];exact hz,_,r1.append r2,IsTup.new _ _⟩
end
def ixN(n:Nat)(i:Int):Option Nat:=if 0<=i then(if i<n then some i.toNat else none) else if -(n:Int)<=i then some (i+n).toNat else none
def atI{α:Type}(xs:List α)(i:Int):Option α:=(ixN xs.length i).bind fun j=>xs[j]?
def jn3{n:Nat}{i:Int}{j:Nat}(h:ixN n i=some j):fD i n=some j/\j<n/\-(n:Int)<=i/\i<n:=by
 unfold ixN at h;by_cases h0:0<=i
 .rw[iB h0] at h;by_cases h1:i<n
  .rw[iB h1] at h;have e:i.toNat=j:=uW h;exact⟨by rw[seqIndex_of h0 h1,e],↑∅,↑∅,h1⟩
  .rw[iA h1] at h;cases h
 .rw[iA h0] at h;by_cases h1: -(n:Int)<=i
  .rw[iB h1] at h;have e:(i+n).toNat=j:=uW h;exact⟨by rw[seqIndex_neg ↑∅ h1,e],↑∅,h1,↑∅⟩
  .rw[iA h1] at h;cases h
def jdv{α:Type}{xs:List α}{i:Int}{v:α}(h:atI xs i=some v):∃j,fD i xs.length=some j/\xs[j]?=some v/\j<xs.length/\-(xs.length:Int)<=i/\i<xs.length:=by
 unfold atI at h
 cases e:ixN xs.length i with
 |none=>rw[e] at h;cases h
 |some j=>
  rw[e] at h;obtain⟨h1,h2,h3,h4⟩:=jn3 e;exact⟨j,h1,h,h2,h3,h4⟩
def qar{α:Type}{xs:List α}{j:Nat}{v:α}(h:xs[j]?=some v):atI xs (j:Int)=some v:=by
 have hj:j<xs.length:=(uG.mp h).1;have e:ixN xs.length (j:Int)=some j:=by
  unfold ixN;rw[iB ↑∅,iB ↑∅];simp
 unfold atI;rw[e];exact h
def jn4(b:vT):Prop:=∀o i,subscripted b false o i=operate [o,i] (fB o i)
def IxR(X:Cx)(r:R2):Prop:=
 ∀(value slice:vT)(pins:List (Addr×Obj))(s:uD)(σ:St)(H:Hp)(x y:V)(v u:uB)(Q:VK),Inv X pins σ H s->qb8 x v->qb8 y u->r x y H Q->
  subscripted slice false v u=operate [v,u] (fB v u)->uS (uU X.prog X.w) X.A (subscriptTail value slice v u) (EP X pins σ Q) X.xe s
def MtR(X:Cx)(id:String)(r:V->List V->Hp->VK->Prop):Prop:=
 ∀(pins:List (Addr×Obj))(s:uD)(σ:St)(H:Hp)(x:V)(xs:List V)(v:uB)(us:List uB)(Q:VK),Inv X pins σ H s->qb8 x v->qba xs us->r x xs H Q->
  uS (uU X.prog X.w) X.A (call (.builtin id) (v::us)) (EP X pins σ Q) X.xe s
section
variable{X:Cx}{a b:vT}{ta tb:TE}{pos:Pos}
def qal{r:R2}(hr:IxR X r)(ha:PE X a ta)(hb:PE X b tb)(hs:jn4 b):PE X (.Subscript a b pos) (tOp r ta tb):=by
 intro pins s σ H Q I h;exact Subscript_ (juj ha hb I h fun v u s2 x y H2 I2 rx ry q=>hr a b pins s2 σ H2 x y v u Q I2 rx ry q (hs _ _))
def jub(K:uT):R2:=fun x y H Q=>∃p xs i v,x=.ref p/\y=.int i/\SqL K H p xs/\atI xs i=some v/\Q v H
def jw6(K:uT):R2:=fun x y H Q=>∃p xs i v,x=.ref p/\y=.int i/\SqT K H p xs/\atI xs i=some v/\Q v H
def jw7:R2:=fun x y H Q=>∃z i c,x=.str z/\y=.int i/\z.length<=sizeLine/\atI z.cps.toList i=some c/\Q (.str ⟨#[c]⟩) H
def qaj:IxR X (jub X.K):=by
 intro value slice pins s σ H x y v u Q I rx ry h hs;obtain⟨p,xs,i,z,rfl,rfl,hq,he,q⟩:=h
 cases rx
 obtain⟨t,rfl⟩:=ry;obtain⟨its,r,pl,hz⟩:=I.list hq;obtain⟨j,h1,h2,h3,h4,h5⟩:=jdv he;obtain⟨w,ew,rw'⟩:=r.get h2;have hl:=r.length;have hn:=jcf;have fin:EP X pins σ Q w s:=⟨z,H,I,rw',q⟩;by_cases h0:0<=i
 .have hj:i.toNat=j:=by
   rw[seqIndex_of h0 h5] at h1;exact uW h1
  exact item_listR pl.isList h0 ↑∅ (by rw[hj];simpa using ew) fin hs
 .have hj:(i+(its.toArray.size:Int)).toNat=j:=by
   rw[seqIndex_neg ↑∅ h4] at h1;rw[zI,<-hl];exact uW h1
  exact dR (x:=w) pl.isList.typeIs slot_list_getitem.lookup
   (wpAny_getItem_list_neg (Q:=fun r s'=>r=w/\EP X pins σ Q r s') pl.isList ↑∅ (by rw[zI]<;>omega) ↑∅ (by rw[hj];simpa using ew) ⟨rfl,fin⟩) hs
def qau:IxR X (jw6 X.K):=by
 intro value slice pins s σ H x y v u Q I rx ry h hs;obtain⟨p,xs,i,z,rfl,rfl,hq,he,q⟩:=h
 cases rx
 obtain⟨t,rfl⟩:=ry;obtain⟨its,r,pl,hz⟩:=I.tuple hq;obtain⟨j,h1,h2,h3,h4,h5⟩:=jdv he;obtain⟨w,ew,rw'⟩:=r.get h2;have hl:=r.length;have hn:=jcf;have fin:EP X pins σ Q w s:=⟨z,H,I,rw',q⟩;exact dR (x:=w) pl.typeIs slot_tuple_getitem.lookup
  (getItem_tuple (j:=j) (Q:=fun r s'=>r=w/\EP X pins σ Q r s') pl ↑∅ ↑∅ (by rw[zI,<-hl];exact h1) (by simpa using ew) ⟨rfl,fin⟩) hs
def jl8:IxR X jw7:=by
 intro value slice pins s σ H x y v u Q I rx ry h hs;obtain⟨z,i,c,rfl,rfl,hz,he,q⟩:=h;obtain⟨t,rfl⟩:=rx;obtain⟨t',rfl⟩:=ry;obtain⟨j,h1,h2,h3,h4,h5⟩:=jdv he;have hl:z.cps.toList.length=z.length:=by simp[Str.length]
 rw[hl] at h1 h4 h5;have hn:=jcf;exact tail_any (typeIs_str s z t) slot_str_getitem.lookup (getItem_str (c:=c) (by
  have e1:decide (i < -(2^63:Int))=false:=iD ↑∅;have e2:decide (i≥2^63)=false:=iD ↑∅;rw[e1,e2,Bool.or_false]) (by rw[h1];simpa using h2) ⟨.str ⟨#[c]⟩,H,I.tok _,⟨_,rfl⟩,q⟩) hs
def jck(lo hi:Option Int)(n:Nat):(bW lo hi none n).1=((HT.sIx n 0 lo:Nat):Int)/\(bW lo hi none n).2.1=((HT.sIx n n hi:Nat):Int)/\(bW lo hi none n).2.2=1:=by
 refine⟨?_,?_,rfl⟩
 .cases lo with
  |none=>simp[bW,HT.sIx]
  |some i=>
   simp only[bW,HT.sIx,Option.getD_none,show(1:Int) > 0 by decide,if_true];by_cases h:i<0
   .simp only[h,if_true]<;>omega
   .simp only[h,if_false]<;>omega
 .cases hi with
  |none=>simp[bW,HT.sIx]
  |some i=>
   simp only[bW,HT.sIx,Option.getD_none,show(1:Int) > 0 by decide,if_true];by_cases h:i<0
   .simp only[h,if_true]<;>omega
   .simp only[h,if_false]<;>omega
def qg5(its:List uB)(lo hi:Option Int):slicePick its.toArray lo hi none=((its.drop (HT.sIx its.length 0 lo)).take (HT.sIx its.length its.length hi-HT.sIx its.length 0 lo)).toArray:=by
 obtain⟨h1,h2,h3⟩:=jck lo hi its.toArray.size;unfold slicePick;rw[h1,h2,h3];simp only[sliceRange_one,pick_run,zI]<;>rfl
def jw8(K:uT):V->Option Int->Option Int->Hp->VK->Prop:=fun x lo hi H Q=>∃a xs,x=.ref a/\SqL K H a xs/\∀p,H p=none->Q (.ref p) (upd H p (.lst (jhf xs lo hi)))
def jn5:SlR X (jw8 X.K):=by
 intro pins s σ H x v vl vu lo hi sl Q I rx hs pl pu h;obtain⟨a,xs,rfl,hx,q⟩:=h
 cases rx
 obtain⟨its,r,ht,hz⟩:=I.list hx;have hlen:=r.length;refine⟨"list",_,slot_list_getitem.lookup,ht.isList.typeIs,?_⟩;refine wpAny_getItem_list_slice ht.isList hs pl pu .none (by simp) ?_ (by rw[zI]<;>omega);rw[qg5,<-hlen];refine⟨.ref ↑s,_,I.laid (t':=s.toks) (o:=.lst (jhf xs lo hi)) (fun b ob q=>uE _ q) (uH _) ?_,rfl,q _ (I.hok.fresh (uH _))⟩;exact⟨vP (qff xs lo hi) hz,_,0,(r.drop (HT.sIx xs.length 0 lo)).take (HT.sIx xs.length xs.length hi-HT.sIx xs.length 0 lo),uQ _ rfl⟩
def qcy:V->Bool
 | .non=>true
 | .bl _=>true
 | .int _=>true
 | .str _=>true
 |_=>false
def eqV:V->V->Bool
 | .non,.non=>true
 | .bl a,.bl b=>a==b
 | .bl a,.int b=>(if a then 1 else 0)==b
 | .int a,.bl b=>a==(if b then 1 else 0)
 | .int a,.int b=>a==b
 | .str a,.str b=>a==b
 |_,_=>false
def jhg{A:vI}{s:uD}{y x:V}{u v:uB}(ry:qb8 y u)(rx:qb8 x v)(fy:qcy y=true)(fx:qcy x=true):SeqAt.EqAt A s u v (eqV y x):=by
 cases y with
 |non=>
  cases ry
  cases x with
  |non=>cases rx;exact SeqAt.EqAt.same _
  |bl b=>cases rx;exact SeqAt.EqAt.none_bool b
  |int b=>obtain⟨t,rfl⟩:=rx;exact SeqAt.EqAt.none_int b t
  |str b=>obtain⟨t,rfl⟩:=rx;exact SeqAt.EqAt.none_str b t
  |_=>exact absurd (show false=true from fx) uJ
 |bl a=>
  cases ry
  cases x with
  |non=>cases rx;exact SeqAt.EqAt.bool_none a
  |bl b=>cases rx;exact SeqAt.EqAt.bool_bool a b
  |int b=>obtain⟨t,rfl⟩:=rx;exact SeqAt.EqAt.bool_int a b t
  |str b=>obtain⟨t,rfl⟩:=rx;exact SeqAt.EqAt.bool_str a b t
  |_=>exact absurd (show false=true from fx) uJ
 |int a=>
  obtain⟨t',rfl⟩:=ry
  cases x with
  |non=>cases rx;exact SeqAt.EqAt.int_none a t'
  |bl b=>cases rx;exact SeqAt.EqAt.int_bool a t' b
  |int b=>obtain⟨t,rfl⟩:=rx;exact SeqAt.EqAt.int_int a t' b t
  |str b=>obtain⟨t,rfl⟩:=rx;exact SeqAt.EqAt.int_str a t' b t
  |_=>exact absurd (show false=true from fx) uJ
 |str a=>
  obtain⟨t',rfl⟩:=ry
  cases x with
  |non=>cases rx;exact SeqAt.EqAt.str_none a t'
  |bl b=>cases rx;exact SeqAt.EqAt.str_bool a t' b
  |int b=>obtain⟨t,rfl⟩:=rx;exact SeqAt.EqAt.str_int a t' b t
  |str b=>obtain⟨t,rfl⟩:=rx;exact SeqAt.EqAt.str_str a t' b t
  |_=>exact absurd (show false=true from fx) uJ
 |_=>exact absurd (show false=true from fy) uJ
def eqU(x:V)(u:uB):Bool:=match u with
 | .none=>eqV .non x
 | .bool b=>eqV (.bl b) x
 | .int i _=>eqV (.int i) x
 | .str z _=>eqV (.str z) x
 |_=>false
def jl9{x y:V}{u:uB}(r:qb8 y u)(f:qcy y=true):eqU x u=eqV y x:=by
 cases y with
 |non=>cases r;rfl
 |bl b=>cases r;rfl
 |int i=>obtain⟨t,rfl⟩:=r;rfl
 |str z=>obtain⟨t,rfl⟩:=r;rfl
 |_=>exact absurd (show false=true from f) uJ
theorem qfi{x:V}:∀{xs:List V} {us:List uB},qba xs us->xs.all qcy=true->us.any (eqU x)=xs.any fun y=>eqV y x
 |_,_,.nil,_=>rfl
 |y::xs,u::us,.cons r t,f=>by
  rw[yU,vO] at f;rw[yV,yV,jl9 r f.1,qfi t f.2]
theorem qe0{A:vI}{s:uD}{x:V}{v:uB}(rx:qb8 x v)(fx:qcy x=true):∀{xs:List V} {us:List uB},qba xs us->xs.all qcy=true->∀u∈us,SeqAt.EqAt A s u v (eqU x u)
 |_,_,.nil,_=>fun u hu=>by cases hu
 |y::xs,u::us,.cons r t,f=>fun u' hu=>by
  rw[yU,vO] at f;rcases zO.mp hu with rfl|hu
  .rw[jl9 r f.1];exact jhg r rx f.1 fx
  .exact qe0 rx fx t f.2 u' hu
def inV(x:V)(xs:List V):Bool:=xs.any fun y=>eqV y x
def rIn(K:uT)(neg:Bool):R2:=fun x y H Q=>∃p xs,y=.ref p/\(SqL K H p xs\/SqT K H p xs)/\qcy x=true/\xs.all qcy=true/\Q (.bl (if neg then !inV x xs else inV x xs)) H
def qdb:OpR X (wC .In) (rIn X.K false):=by
 intro pins s σ H x y v u Q I rx ry h;obtain⟨p,xs,rfl,hq,fx,fs,q⟩:=h
 cases ry
 rcases hq with hq|hq
 .obtain⟨its,r,pl,hz⟩:=I.list hq;refine SeqAt.in_listAt (eqU x) pl.isList (fun w hw=>qe0 rx fx r fs w (by simpa using hw)) ⟨.bl _,H,I,rfl,?_⟩;rw[show its.toArray.any (eqU x)=its.any (eqU x) by simp,qfi r fs];exact q
 .obtain⟨its,r,pl,hz⟩:=I.tuple hq;refine SeqAt.in_tupleAt (eqU x) pl (fun w hw=>qe0 rx fx r fs w (by simpa using hw)) ⟨.bl _,H,I,rfl,?_⟩;rw[show its.toArray.any (eqU x)=its.any (eqU x) by simp,qfi r fs];exact q
def jcl:OpR X (wC .NotIn) (rIn X.K true):=by
 intro pins s σ H x y v u Q I rx ry h;obtain⟨p,xs,rfl,hq,fx,fs,q⟩:=h
 cases ry
 rcases hq with hq|hq
 .obtain⟨its,r,pl,hz⟩:=I.list hq;refine SeqAt.notIn_listAt (eqU x) pl.isList (fun w hw=>qe0 rx fx r fs w (by simpa using hw)) ⟨.bl _,H,I,rfl,?_⟩;rw[show its.toArray.any (eqU x)=its.any (eqU x) by simp,qfi r fs];exact q
 .obtain⟨its,r,pl,hz⟩:=I.tuple hq;refine SeqAt.notIn_tupleAt (eqU x) pl (fun w hw=>qe0 rx fx r fs w (by simpa using hw)) ⟨.bl _,H,I,rfl,?_⟩;rw[show its.toArray.any (eqU x)=its.any (eqU x) by simp,qfi r fs];exact q
def jcm:qcb X (.builtin "len") (fun xs H Q=>∃p ys,xs=[.ref p]/\(SqL X.K H p ys\/SqT X.K H p ys)/\Q (.int ys.length) H):=by
 intro pins s σ H xs us Q I r h;obtain⟨p,ys,rfl,hq,q⟩:=h;obtain⟨u,rfl,rx⟩:=jkd r
 cases rx
 have hn:=jcf;rcases hq with hq|hq
 .obtain⟨its,r',pl,hz⟩:=I.list hq;have hlen:=r'.length;exact Calls.call_len_list pl.isList (by simp only[zI]<;>omega) ⟨.int ys.length,H,I.tok _,⟨s.toks+1,by rw[zI,hlen]⟩,q⟩
 .obtain⟨its,r',pl,hz⟩:=I.tuple hq;have hlen:=r'.length;exact len_tuple pl (by simp only[zI]<;>omega) ⟨.int ys.length,H,I.tok _,⟨s.toks+1,by rw[zI,hlen]⟩,q⟩
def jcn:qcb X (.builtin "len") (fun xs H Q=>∃z,xs=[.str z]/\z.length<=sizeLine/\Q (.int z.length) H):=by
 intro pins s σ H xs us Q I r h;obtain⟨z,rfl,hz,q⟩:=h;obtain⟨u,rfl,t,rfl⟩:=jkd r;have hn:=jcf;exact len_str ↑∅ ⟨.int z.length,H,I.tok _,⟨_,rfl⟩,q⟩
def jco:qcb X (.type "list") (fun xs H Q=>∃p ys,xs=[.ref p]/\(SqL X.K H p ys\/SqT X.K H p ys)/\∀l,H l=none->Q (.ref l) (upd H l (.lst ys))):=by
 intro pins s σ H xs us Q I r h;obtain⟨p,ys,rfl,hq,q⟩:=h;obtain⟨u,rfl,rx⟩:=jkd r
 cases rx
 have fin:∀(its:List uB),qba ys its->ys.length<=sizeLine->∀(h':vN)(c':Nat),(∀b o',s.heap.get? b=some o'->h'.get? b=some o')->
   h'.get? ↑s=some {cls:=.type "list",dict:=none,data:=.seq its.toArray c',slots:=#[]}->EP X pins σ Q (.ref ↑s) {s with heap:=h'}:=fun its r' hz h' c' kp e=>
  ⟨.ref ↑s,_,I.laid (t':=s.toks) kp (uH _) (show qbj X.prog X.w _ h' _ (.lst ys) from⟨hz,its,c',r',e⟩),rfl,q _ (I.hok.fresh (uH _))⟩
 rcases hq with hq|hq
 .obtain⟨its,r',pl,hz⟩:=I.list hq;have hlen:=r'.length;obtain⟨o,ho,hc,n,hd⟩:=pl.isList;exact call_list_seq p (.inl rfl) ho hc hd (fun h' c' kp e=>fin its r' hz h' c' kp e) (by simp only[zI]<;>omega)
 .obtain⟨its,r',pl,hz⟩:=I.tuple hq;have hlen:=r'.length;obtain⟨o,ho,hc,n,hd⟩:=pl;exact call_list_seq p (.inr rfl) ho hc hd (fun h' c' kp e=>fin its r' hz h' c' kp e) (by simp only[zI]<;>omega)
def tyV(K:uT)(T:String)(x:V)(H:Hp):Prop:=match x with
 | .str _=>T= "str"
 | .int _=>T= "int"
 | .ref p=>(T= "list"/\∃xs,SqL K H p xs)\/(T= "tuple"/\∃o,K.lookup p=some o/\o.cls=.type "tuple"/\o.dict=none)\/
   (T= "dict"/\((∃kvs,H p=some (.dK kvs))\/∃kvs,H p=some (.dT kvs)))\/(T= "set"/\∃S n,H p=some (.set S n))
 |_=>False
def jma{pins:List (Addr×Obj)}{σ:St}{H:Hp}{s:uD}{T:String}{x:V}{v:uB}(I:Inv X pins σ H s)(r:qb8 x v)(ty:tyV X.K T x H):
  s.TypeIs v T/\∀a,v=.ref a->∃ob,s.heap.get? a=some ob/\ob.dict=none:=by
 cases x with
 |str z=>
  obtain⟨t,rfl⟩:=r
  cases(show T= "str" from ty)
  exact⟨typeIs_str s z t,fun _ e=>nomatch e⟩
 |int i=>
  obtain⟨t,rfl⟩:=r
  cases(show T= "int" from ty)
  exact⟨typeIs_int s i t,fun _ e=>nomatch e⟩
 |ref p=>
  cases r
  rcases ty with⟨rfl,xs,hq⟩|⟨rfl,o,hk,hc,hd⟩|⟨rfl,hk⟩|⟨rfl,S,n,hk⟩
  .obtain⟨its,_,pl,_⟩:=I.list hq;refine⟨pl.isList.typeIs,fun a e=>?_⟩
   cases e
   obtain⟨o,n,e,c,hd,_⟩:=pl;exact⟨o,e,hd⟩
  .refine⟨⟨o,I.kIn p o hk,hc⟩,fun a e=>?_⟩
   cases e
   exact⟨o,I.kIn _ o hk,hd⟩
  .have z:∃o,s.heap.get? p=some o/\o.ExactDict:=by
    rcases hk with⟨kvs,hk⟩|⟨kvs,hk⟩
    .obtain⟨_,_,_,_,o,_,_,e,ex,_⟩:=I.hok p _ hk;exact⟨o,e,ex⟩
    .obtain⟨_,_,_,_,o,_,_,e,ex,_⟩:=I.hok p _ hk;exact⟨o,e,ex⟩
   obtain⟨o,e,ex⟩:=z;refine⟨⟨o,e,ex.1⟩,fun a e2=>?_⟩
   cases e2
   exact⟨o,e,ex.2.1⟩
  .obtain⟨o,_,_,_,e,ex,_⟩:=I.hok p _ hk;refine⟨⟨o,e,ex.1⟩,fun a e2=>?_⟩
   cases e2
   exact⟨o,e,ex.2.1⟩
 |_=>exact vY ty
def jw9(K:uT)(T:String)(r:V->List V->Hp->VK->Prop)(to:TE):TE:=fun σ H Q=>to σ H fun x H1=>tyV K T x H1/\r x [] H1 Q
def tBM(K:uT)(T:String)(r:V->List V->Hp->VK->Prop)(to:TE)(t:TA):TE:=fun σ H Q=>to σ H fun x H1=>tyV K T x H1/\t σ H1 fun xs H2=>r x xs H2 Q
variable{o e:vT}{es:List vT}{to:TE}{t:TA}{name:Str}{apos cpos:Pos}{T id:String}{r:V->List V->Hp->VK->Prop}
def jmb(pa:PlainAttrs T)(slot:Slot T name id)(hty:typeOf (.builtin id)=pure (.type "method_descriptor"))(hm:MtR X id r)(ho:PE X o to)
  (hbase:bT o name X.env (wK o X.env)=wK o X.env:=by rfl)(hline:(apos.endLine==cpos.line)=true:=by rfl):PE X (.Call (.Attribute o name apos) [] [] cpos) (jw9 X.K T r to):=by
 intro pins s σ H Q I h;refine wpAny_Call_method0_late hbase hline (thn (ho pins s σ H _ I h) fun v s1 ⟨x,H1,I1,r1,ty,q1⟩=>?_);obtain⟨h1,h2⟩:=jma I1 r1 ty;exact⟨T,id,pa,slot,hty,h1,h2,dS rfl (PySem.evalArgs_none (hm pins s1 σ H1 x [] v [] Q I1 r1 .nil q1))⟩
def qdn(pa:PlainAttrs T)(slot:Slot T name id)(hty:typeOf (.builtin id)=pure (.type "method_descriptor"))(hm:MtR X id r)(ho:PE X o to)(ha:PA X (e::es) t)
  (hbase:bT o name X.env (wK o X.env)=wK o X.env:=by rfl)
  (hfew:((wO cpos (uZ (e::es) X.env)).all (fun x=>!x.1) && (dH cpos (aV [] X.env)).all (fun x=>x.1.isSome)
   && decide ((e::es).length+([]:List Keyword).length+(if([]:List Keyword).isEmpty then 0 else 1)<30))=true:=by rfl)
  (hline:(apos.endLine==cpos.line)=true:=by rfl) (hs:uZ (e::es) X.env=(false,wK e X.env)::uZ es X.env:=by rfl) (hplain:(wO cpos (uZ es X.env)).any (·.1)=false:=by rfl):
  PE X (.Call (.Attribute o name apos) (e::es) [] cpos) (tBM X.K T r to t):=by
 intro pins s σ H Q I h;refine wpAny_Call_method_late hbase hfew hline rfl (thn (ho pins s σ H _ I h) fun v s1 ⟨x,H1,I1,r1,ty,q1⟩=>?_);obtain⟨h1,h2⟩:=jma I1 r1 ty;refine⟨T,id,pa,slot,hty,h1,h2,?_⟩;have hA:=ha cpos pins s1 σ H1 _ I1 q1;rw[hs] at hA⊢;refine dS (by show(false ||(wO cpos (uZ es X.env)).any (·.1))=false;rw[hplain]<;>rfl) (bX ?_);exact thn hA fun us s2 ⟨vs,H2,I2,r2,q2⟩=>hm pins s2 σ H2 x vs v us Q I2 r1 r2 q2
end
def MtM(X:Cx)(id:String)(r:V->List V->Hp->VK->Prop):Prop:=
 ∀(pins:List (Addr×Obj))(s:uD)(σ:St)(H:Hp)(x:V)(xs:List V)(v:uB)(us:List uB)(Q:VK),Inv X pins σ H s->qb8 x v->qba xs us->r x xs H Q->
  uS (uU X.prog X.w) X.A (call (.builtin id) (v::us)) (EP X pins σ Q) X.xe s
def qba.one:∀{x:V} {us:List uB},qba [x] us->∃u,us=[u]/\qb8 x u
 |_,_,.cons r .nil=>⟨_,rfl,r⟩
def qba.zero:∀{us:List uB},qba [] us->us=[]
 |_,.nil=>rfl
theorem qba.eraseIdx:∀{xs:List V} {us:List uB} (i:Nat),qba xs us->qba (xs.eraseIdx i) (us.eraseIdx i)
 |_,_,_,.nil=> .nil
 |_,_,0,.cons _ t=>t
 |_,_,i+1,.cons r t=> .cons r (qba.eraseIdx i t)
theorem qba.reverse{xs:List V}{us:List uB}(h:qba xs us):qba xs.reverse us.reverse:=by
 induction h with
 |nil=>exact .nil
 |cons r t ih=>rw[List.reverse_cons,List.reverse_cons];exact qba.append ih (.cons r .nil)
theorem jcp{α:Type}:∀(l:List α)(i:Nat),(l.eraseIdx i).length<=l.length
 | [],_=>uH _
 |_::_,0=>xH _
 |_::r,i+1=>Nat.succ_le_succ (jcp r i)
section
variable{X:Cx}{pins:List (Addr×Obj)}{σ:St}{H:Hp}{s:uD}{l:Addr}{xs ys:List V}
def Inv.lset{its its':List uB}{n:Nat}{f:Array uB->Array uB}{t':Nat}(I:Inv X pins σ H s)(hH:H l=some (.lst xs))
  (e:s.heap.get? l=some {cls:=.type "list",data:=.seq its.toArray n})(hf:f its.toArray=its'.toArray)(hv:qba ys its')(hz:ys.length<=sizeLine):
  Inv X pins σ (upd H l (.lst ys)) {s with heap:=s.heap.update l (Obj.mapSeq f),toks:=t'}:=by
 have q:=PySem.IsL.update e f;rw[hf] at q;refine I.write (x:=l) (e:=l) (by rw[hH];exact trivial) (.inl rfl) (fun b' u hb hu=>(wU s.heap (Obj.mapSeq f) (xF hb)).trans hu) ⟨_,q⟩ ?_;exact⟨hz,its',_,hv,q⟩
def Inv.lnew{its:List uB}{t':Nat}(I:Inv X pins σ H s)(hv:qba ys its)(hz:ys.length<=sizeLine):
  Inv X pins σ (upd H ↑s (.lst ys)) {s with heap:=s.heap.push {cls:=.type "list",data:=.seq its.toArray},toks:=t'}:=
 I.laid (fun _ _ q=>uE _ q) (uH _) ⟨hz,its,0,hv,uQ _ rfl⟩
theorem Inv.fresh(I:Inv X pins σ H s):H ↑s=none:=I.hok.fresh (uH _)
def Inv.lstM(I:Inv X pins σ H s)(hH:H l=some (.lst xs)):xs.length<=sizeLine/\∃(its:List uB)(n:Nat),qba xs its/\xs.length=its.length/\s.heap.get? l=some {cls:=.type "list",data:=.seq its.toArray n}:=by
 obtain⟨z,its,n,r,e⟩:=I.hok l _ hH;exact⟨z,its,n,r,r.length,e⟩
def jki{n:Nat}(h:n<=sizeLine):dD n=false:=by
 unfold dD;exact iD ↑∅
end
section
variable{X:Cx}
def jhh:V->List V->Hp->VK->Prop:=fun x vs H Q=>∃l xs y,x=.ref l/\vs=[y]/\H l=some (.lst xs)/\xs.length<sizeLine/\Q .non (upd H l (.lst (xs++[y])))
def qbi:MtM X "list.append" jhh:=by
 intro pins s σ H x vs v us Q I rx rv h;obtain⟨l,xs,y,rfl,rfl,hH,hz,q⟩:=h
 cases rx
 obtain⟨u,rfl,ru⟩:=rv.one;obtain⟨z,its,n,r,hl,e⟩:=I.lstM hH;refine dU F.slot_list_append ⟨_,e,rfl⟩ F.entry_list_append (F.args_list_append_2 _ _) (PySem.list_append l its.toArray n u (by rw[zI];omega)) ⟨e,?_⟩;refine⟨.non,_,I.lset (its':=its++[u]) hH e (by simp) (r.append (.cons ru .nil)) ?_,rfl,q⟩;rw[zF,yA];omega
def jhi:V->List V->Hp->VK->Prop:=fun x vs H Q=>∃l b xs zs,x=.ref l/\vs=[.ref b]/\H l=some (.lst xs)/\H b=some (.lst zs)/\xs.length+zs.length<=sizeLine/\Q .non (upd H l (.lst (xs++zs)))
def jhj:MtM X "list.extend" jhi:=by
 intro pins s σ H x vs v us Q I rx rv h;obtain⟨l,b,xs,zs,rfl,rfl,hH,hB,hz,q⟩:=h
 cases rx
 obtain⟨u,rfl,ru⟩:=rv.one
 cases ru
 obtain⟨z,its,n,r,hl,e⟩:=I.lstM hH;obtain⟨z2,its2,n2,r2,hl2,e2⟩:=I.lstM hB;have hsz:its.toArray.size+its2.toArray.size<=sizeLine:=by rw[zI,zI];omega
 have hlong:¬(!its.toArray.isEmpty && dD (its.toArray.size+its2.toArray.size))=true:=by
  rw[jki hsz,Bool.and_false];exact uJ
 refine dU F.slot_list_extend ⟨_,e,rfl⟩ F.entry_list_extend (F.args_list_extend_2 _ _)
  (AutoSeq1.list_extend_list_list_0 l its.toArray n b its2.toArray n2 hlong (by rw[zI];omega) ↑∅) ⟨e,e2,?_⟩
 refine⟨.non,_,I.lset (its':=its++its2) hH e (by simp) (r.append r2) ?_,rfl,q⟩;rw[zF];omega
def jmc:V->List V->Hp->VK->Prop:=fun x vs H Q=>∃l xs i k y,x=.ref l/\vs=[.int i]/\H l=some (.lst xs)/\-(2^63)<=i/\i<2^63/\fD i xs.length=some k/\xs[k]?=some y/\Q y (upd H l (.lst (xs.eraseIdx k)))
def jkj:MtM X "list.pop" jmc:=by
 intro pins s σ H x vs v us Q I rx rv h;obtain⟨l,xs,i,k,y,rfl,rfl,hH,h1,h2,hk,hy,q⟩:=h
 cases rx
 obtain⟨u,rfl,ru⟩:=rv.one;obtain⟨t,rfl⟩:=ru;obtain⟨z,its,n,r,hl,e⟩:=I.lstM hH;obtain⟨w,hw,rw'⟩:=r.get hy;refine dU F.slot_list_pop ⟨_,e,rfl⟩ F.entry_list_pop (F.args_list_pop_2 _ _)
  (MeetsSeq.list_pop_at l its.toArray n i t k w (fitsIndex_both h1 h2) (by rw[zI,<-hl];exact hk) (by rw[<-xW];exact hw) (by rw[zI];omega)) ⟨e,?_⟩
 refine⟨y,_,I.lset (its':=its.eraseIdx k) hH e ?_ (r.eraseIdx k) ?_,rw',q⟩
 .show its.toArray.eraseIdxIfInBounds k=(its.eraseIdx k).toArray;rw[List.eraseIdxIfInBounds_toArray]
 .have:=jcp xs k;omega
def jez:V->List V->Hp->VK->Prop:=fun x vs H Q=>∃l xs,x=.ref l/\vs=[]/\H l=some (.lst xs)/\Q .non (upd H l (.lst xs.reverse))
def jgg:MtM X "list.reverse" jez:=by
 intro pins s σ H x vs v us Q I rx rv h;obtain⟨l,xs,rfl,rfl,hH,q⟩:=h
 cases rx
 have hus:=rv.zero;subst hus;obtain⟨z,its,n,r,hl,e⟩:=I.lstM hH;refine dU F.slot_list_reverse ⟨_,e,rfl⟩ F.entry_list_reverse (F.args_list_reverse_1 _) (AutoSeq1.list_reverse_list_0 l its.toArray n (by rw[zI];omega)) ⟨e,?_⟩;refine⟨.non,_,I.lset (its':=its.reverse) hH e (by simp) r.reverse ?_,rfl,q⟩;rw[List.length_reverse];omega
def jxa:R2:=fun x y H Q=>∃l b xs zs,x=.ref l/\y=.ref b/\H l=some (.lst xs)/\H b=some (.lst zs)/\xs.length+zs.length<=sizeLine/\∀p,H p=none->Q (.ref p) (upd H p (.lst (xs++zs)))
def jhk:OpR X (yY .Add) jxa:=by
 intro pins s σ H x y v u Q I rx ry h;obtain⟨l,b,xs,zs,rfl,rfl,hH,hB,hz,q⟩:=h
 cases rx
 cases ry
 obtain⟨z,its,n,r,hl,e⟩:=I.lstM hH;obtain⟨z2,its2,n2,r2,hl2,e2⟩:=I.lstM hB;refine PySem.P.add_list e e2 ?_ (by rw[zI,zI];omega);have ea:its.toArray++its2.toArray=(its++its2).toArray:=by simp
 rw[ea];exact⟨.ref _,_,I.lnew (t':=s.toks) (r.append r2) (by rw[zF];omega),rfl,q _ I.fresh⟩
def jum:R2:=fun x y H Q=>∃l k xs,x=.ref l/\y=.int k/\H l=some (.lst xs)/\-(2^63)<=k/\k<2^63/\xs.length*k.toNat<=sizeLine/\
 ∀p,H p=none->Q (.ref p) (upd H p (.lst (bE k.toNat xs).flatten))
end
end L2
namespace Att
open PySem PySem.W PySem.Calls PyProof.Rows
def qfa{P:Params}{h:vN}:∀(ns:List Int)(vs:List uB),WellAll P h vs (ns.map WData.int)->IntsAre vs ns:=by
 intro ns
 induction ns with
 |nil=>
  intro vs w;rw[gF] at w
  cases w
  exact .nil
 |cons n ns ih=>
  intro vs w;rw[zT] at w
  cases w with
  |cons a b=>
   cases a
   exact .cons _ _ (ih _ b)
def jhl{l:OpenLaw}{n:Nat}(hn:l.most=some n){P:Params}{h:vN}{args:List WData}{vals:List uB}
  (hpre:l.row.toRowW.claim.pre args=true)(hwl:WellAll P h vals args):
  ∃a vs ns,vals=[uP a]/\args=[WData.list (ns.map WData.int)]/\h.get? a=some {cls:=.type "list",data:=.seq vs.toArray}/\IntsAre vs ns/\ns.length<=n:=by
 have hsh:WShape.hasAll [] args [.list .int]=true:=(pre_splitW hpre).1;have hc:l.pre.holds [] {args:=args}=true:=(pre_splitW hpre).2;obtain⟨d,r,rfl,h1,h2⟩:=hasAllW_cons hsh;obtain rfl:=hasAllW_nil h2;obtain⟨xs,rfl,h3⟩:=hasW_list h1;obtain⟨ns,rfl⟩:=items_int h3;have hlen:ns.length<=n:=by
  unfold OpenLaw.pre at hc;have h4:(WTm.not (.lt (.lit (.int (n:Int))) (.len (.arg 0)))).holds [] {args:=[.list (ns.map .int)]}=true:=by
   have h4:=(holds_andW hc).1;rw[hn] at h4;exact h4
  have h5:=condW_of h4 (w_not (w_lt w_lit (w_len_list (w_arg rfl))));rw[zB] at h5;refine gZ fun q=>?_;have q':(n:Int) <((ns.length:Nat):Int):=by omega
  first
   |(rw[iC q'] at h5;exact absurd h5 ∅)
   |(simp at h5;omega)
 cases hwl with
 |cons w1 w2=>
  cases w2
  cases w1 with
  |list ho hall=>exact⟨_,_,ns,rfl,rfl,ho,qfa ns _ hall,hlen⟩
def jhm(l:OpenLaw)(args:List WData):l.row.toRowW.claim.post args (.bool true) args=true:=
 postW_of (r:=l.row.toRowW) (X:=(true==true))
  (show WShape.has [] (.bool true) .bool=true by first|rfl|decide|simp[WShape.has,WShape.arms,WShape.armsAll])
  (show(WTm.eq .res (.lit (.bool true))).value [] {args:=args,res:=some (.bool true),after:=args}=some (.bool (true==true)) from w_eq_bool (w_res rfl) w_lit) rfl
def attach_call{l:OpenLaw}{n:Nat}{q:uX}{loose:List Str}{XP:(Str->Option uB)->vN->Prop}{YP:vG->vN->Prop}{d:DefRec}
  (hn:l.most=some n)(hdf:d.params.defaults=[])
  (call:∀(w:vG)(s₀ s₁:uD)(mg mb:Str->Option uB)(fa:Addr)(o:Obj)(pm cd doc:uB)(a:Addr)(vs:List uB)(ns:List Int),
   Ground q loose [] XP w s₀ mg mb s₁.heap->YP w s₁.heap->
   s₁.heap.get? fa=some o->o.data=.func (docDef d.name d.params d.body d.scope pm cd doc)->s₁.heap.CodeRec cd d.name->mg d.name=some (.ref fa)->
   s₁.heap.get? a=some {cls:=.type "list",data:=.seq vs.toArray}->IntsAre vs ns->ns.length<=n->s₁.gens= #[]->
   cG (uU l.prog w) gG (.call (.ref fa) ⟨[.ref a],[]⟩) (fun r s'=>r=.ok (.ret (.bool true))/\OldK s₁.heap s'.heap/\s'.os=s₁.os/\cR s'.gens) s₁):
  WalkO q loose XP YP l.row.toRowW d [] (fun f vs=>PySem.call f vs):=by
 intro w s₀ s₁ mg mb G Y fa o pm cd doc dV kV ho hd hcd hD hmg hg args vals as hpre hlay hrd hwl hlo;obtain rfl:dV=.none:=Dflts.none hD hdf;obtain rfl:kV=.none:=Dflts.noKw hD;obtain⟨a,vs,ns,rfl,rfl,hobj,hints,hlen⟩:=jhl hn hpre hwl;refine enter_call (xL (call w s₀ s₁ mg mb fa o pm cd doc a vs ns G Y ho (fd_plain hd) hcd hmg hobj hints hlen hg) fun r s' hq=>?_);obtain⟨rfl,h2,h3,h4⟩:=hq;exact⟨.inl ⟨.bool true,.bool true,[],rfl,fun _=>rfl,.bool true,jhm l _,fun _=>⟨cS,fun _ hm=>(nomatch hm)⟩⟩,h2,h3,h4⟩
end Att
namespace L2
open PySem PySem.Spec PyProof.Rows
theorem jcq:∀{vs:List uB} {ns:List Int},IntsAre vs ns->qba (ns.map V.int) vs
 |_,_,.nil=> .nil
 |_,_,.cons n t h=> .cons ⟨t,rfl⟩ (jcq h)
def qcj(s:Stmt):cM:=match s with
 | .FunctionDef _ a _ _ _ _ _ _ _ _=>a
 |_=>{posonlyargs:=[],args:=[],vararg:=none,kwonlyargs:=[],kw_defaults:=[],kwarg:=none,defaults:=[]}
def qbt(s:Stmt):List Stmt:=match s with
 | .FunctionDef _ _ b _ _ _ _ _ _ _=>b
 |_=> []
def qaa(s:Stmt):aL:=match s with
 | .FunctionDef _ _ _ _ _ _ sc _ _ _=>sc
 |_=>{kind:=.function,names:=[],isGenerator:=false,isCoroutine:=false}
abbrev CX0:CXT:=fun _ _ _ _ _ _=>False
abbrev E0:XK:=fun _ _ _=>False
def qah{X:Cx}:qfl CX0 X E0:=fun _ _ _ _ _ _ _ h=>h.elim
structure Fun(K:uT)(x qual:Str)(st:Stmt)(f:Addr)(fd:uL):Prop where
 ex:∃(oc:uB)(od:Option Addr)(kV doc pm:uB)(an:Option Addr)(cdv ct:uB)(osl:Array (Option uB)),
  fd=fnOf x qual (qcj st) (qbt st) (qaa st) .none kV doc pm an cdv ct/\K.lookup f=some ⟨oc,od,.func fd,osl⟩/\gX K cdv qual=true
 kp:dL K (.ref f)=true
section
variable{P:uX}{w:vG}{K:uT}{mg:Str->Option uB}{base:vN}
def Fun.ok{x qual:Str}{st:Stmt}{f:Addr}{fd:uL}{N ps:List Str}{k:Nat}{sp:Sp}(F:Fun K x qual st f fd)(S:jaa N ps (qaa st))(len:∀vs H Q E,sp vs H Q E->vs.length=ps.length)
  (hbody:∀(cdv:uB)(A:vI)(outer:List Env)(s:uD)(H:Hp)(vs:List V)(Q:VK)(E:XK),ja0 k (A.deeper (dB qual (qaa st) ↑s f cdv))->sp vs H Q E->
   ∃t,PSs (cxOf CX0 P w K mg base N qual (qaa st) f cdv A outer s H E).nox (qbt st) t/\t {nx:=fun _ H'=>Q .non H',rt:=Q} (qe8 N vs) H):jab P w K mg base CX0 (k+1) f fd ps sp:=by
 obtain⟨oc,od,kV,doc,pm,an,cdv,ct,osl,rfl,lk,hcd⟩:=F.ex;refine jkg lk hcd S len fun A outer s H vs Q E hr hsp=>?_;obtain⟨t,h,q⟩:=hbody cdv A outer s H vs Q E hr hsp;exact⟨t,h.nox,q⟩
def Fun.binds{x qual:Str}{st:Stmt}{f:Addr}{fd:uL}{ps:List Str}(F:Fun K x qual st f fd)
  (h:∀(kV doc pm:uB)(an:Option Addr)(cdv ct:uB)(us:List uB),us.length=ps.length->bindArgs (fnOf x qual (qcj st) (qbt st) (qaa st) .none kV doc pm an cdv ct) ⟨us,[]⟩=pure (ps.zip us)):qap K fd ps []:=by
 obtain⟨oc,od,kV,doc,pm,an,cdv,ct,osl,rfl,lk,hcd⟩:=F.ex;exact .all (h kV doc pm an cdv ct)
def fun_mk{x qual:Str}{st:Stmt}{f:Addr}{oc:uB}{od an:Option Addr}{osl:Array (Option uB)}{kV doc pm cdv ct:uB}(l:K.lookup f=some ⟨oc,od,.func (fnOf x qual (qcj st) (qbt st) (qaa st) .none kV doc pm an cdv ct),osl⟩)
  (c:gX K cdv qual=true)(k:dL K (.ref f)=true):Fun K x qual st f (fnOf x qual (qcj st) (qbt st) (qaa st) .none kV doc pm an cdv ct):=⟨⟨oc,od,kV,doc,pm,an,cdv,ct,osl,rfl,l,c⟩,k⟩
end
def qc3{A:vI}{k:Nat}(hr:ja0 k A):A.units+1<cLine:=vJ (Nat.add_le_add_left (by decide:1<=64) _) hr.units
section
variable{X:Cx}
def pv(i:Nat){x:Str}{pos:Pos}(hN:X.N[i]?=some x:=by rfl)(hv:Vis X.env.scope x:=by first|exact uI rfl|exact eS (uI rfl) |exact eS (eS rfl))(hd:(x==("__debug__":Str))=false:=by decide)
  (hcd:(x==("__classdict__":Str))=false:=by decide):PE X (.Name x pos) (jui i):=jqf hN hv hd hcd
end
def juc{A B:Prop}(h:B):if false=true then A else B:=by
 rw[iA uJ];exact h
def jud{A B:Prop}(h:A):if true=true then A else B:=by
 rw[iB rfl];exact h
def qas(H H':Hp):Prop:=∀b o,H b=some o->H' b=some o
def qas.refl(H:Hp):qas H H:=fun _ _ h=>h
def qas.trans{H H1 H2:Hp}(a:qas H H1)(b:qas H1 H2):qas H H2:=fun c o h=>b c o (a c o h)
def qas.free{H H':Hp}(e:qas H H'){l:Addr}(h:H' l=Option.none):H l=Option.none:=by
 cases q:H l with
 |none=>rfl
 |some o=>
  rw[e l o q] at h
  cases h
def qas.seq{K:uT}{H H':Hp}{a:Addr}{xs:List V}(e:qas H H')(h:SqL K H a xs):SqL K H' a xs:=by
 rcases h with (h|⟨o,h⟩) |h
 .exact .inl (.inl (e _ _ h))
 .exact .inl (.inr ⟨o,e _ _ h⟩)
 .exact .inr h
end L2
namespace My
open PySem PySem.Spec PyProof.Rows L2
section
variable{X:Cx}
def jhn{k:Int}(h:k.natAbs<2^600):Builtin.Int.intBits k<=2^20:=
 vP (PyProof.Rows.intBits_le (k:=600) h) ∅
def jx5(i j:Int):Prop:=i.natAbs<2^600/\j.natAbs<2^600
def qbw:OpR X (yY .Mult) (rI jx5 fun i j=> .int (i*j)):=opI fun _ _ _ _ _ _ _ hc q=>mul_int q (IntMulOk.of_bits (jhn hc.1) (jhn hc.2))
def jun(i j:Int):Prop:=j≠0/\j.natAbs<2^600
def jx6{x y:Int}(h:y.natAbs<2^600):Builtin.divisionGoesByPylong x y=false:=by
 refine PyProof.noPylong_of_log2 ?_;by_cases h0:y.natAbs=0
 .rw[h0];decide+kernel
 .have h30:y.natAbs.log2<600:=(Nat.log2_lt h0).mpr h;omega
def qcn:OpR X (yY .FloorDiv) (rI jun fun i j=> .int (i.fdiv j)):=opI fun _ _ _ _ _ _ _ hc q=>floordiv_int hc.1 q (.inl (jx6 hc.2))
end
def qa5{H:Hp}{p:Addr}(h:H p=none)(o:HO):qas H (upd H p o):=fun b u q=>by rw[qa7 (qa8 q h)];exact q
def jkk{K:uT}{H H':Hp}{a:Addr}{xs:List V}(e:qas H H')(h:SqT K H a xs):SqT K H' a xs:=by
 rcases h with (h|⟨o,h⟩) |h
 .exact .inl (.inl (e _ _ h))
 .exact .inl (.inr ⟨o,e _ _ h⟩)
 .exact .inr h
def cell(ns:List Int)(k:Int):Int:=(ns[k.toNat]?).getD 0
def jho{ns:List Int}{k:Int}(h0:0<=k)(h:k <(ns.length:Int)):atI (ns.map V.int) k=some (.int (cell ns k)):=by
 have hk:k.toNat<ns.length:=by omega
 have ek:k=((k.toNat:Nat):Int):=by omega
 have q:atI (ns.map V.int) ((k.toNat:Nat):Int)=some (.int ns[k.toNat]):=qar (by rw[zC,zA hk]<;>rfl);rw[<-ek] at q;rw[q];unfold cell;rw[zA hk];rfl
end My
set_option maxHeartbeats 1000000
namespace My
open PySem PySem.Spec PyProof.Rows L2
variable{h:vN}{a p:Addr}{o:HO}{C:uB}{d:Option Addr}{W:L2.St->XK}{K:uT}{X:Cx}{xs:List V}{A c B:Prop}{R:It->Hp->Prop}{H:Hp}
section
variable{X:Cx}{pins:List (Addr×Obj)}{σ:L2.St}{H:Hp}{s:uD}{h':vN}
structure Rec(X:Cx)(pins:List (Addr×Obj))(H:Hp)(h:vN)(b:Addr):Prop where
 nw:X.s₀.heap.get? b=none
 un:H b=none
 pin:∀p∈X.pn++pins,p.1≠b
 ob:∃o vs,h.get? b=some o/\o.data=.fields vs
theorem Rec.loc(I:Inv X pins σ H s){b:Addr}(r:Rec X pins H s.heap b):b≠X.env.locals:=fun z=>by
 obtain⟨o,vs,e,d⟩:=r.ob;obtain⟨m,⟨o',es,ep,e',d',_⟩,_⟩:=I.loc;rw[z,e'] at e;cases e;rw[d'] at d;cases d
def Rec.cel(I:Inv X pins σ H s){b:Addr}(r:Rec X pins H s.heap b):∀x c,X.env.cells.lookup x=some c->c≠b:=fun x c hc z=>by
 obtain⟨o,vs,e,d⟩:=r.ob;obtain⟨v,o',e',d'⟩:=I.cell x c hc;rw[z,e] at e';cases e';rw[d] at d';cases d'
theorem Rec.frs(I:Inv X pins σ H s){b:Addr}(r:Rec X pins H s.heap b):b∉frs X.stack:=fun z=>by
 obtain⟨o,vs,e,d⟩:=r.ob;obtain⟨_,o',e',d'⟩:=I.stack.mem z;rw[e] at e';cases e';exact d' vs d
def Inv.marks{ch:List Addr}{t':Nat}(I:Inv X pins σ H s)(hch:∀b∈ch,Rec X pins H s.heap b)
  (k1:∀b o,b∉frs X.stack->b∉ch->s.heap.get? b=some o->h'.get? b=some o)
  (k2:∀b o,b∉ch->s.heap.get? b=some o->∃sl,h'.get? b=some {o with slots:=sl}):Inv X pins σ H {s with heap:=h',toks:=t'}:=by
 have sub:∀b,b≠X.env.locals->b∉X.fs->b∉frs X.stack:=fun b h1 h2 z=>(zO.mp (I.stkSub b z)).elim h1 h2;have neL:∀b o,X.s₀.heap.get? b=some o->b≠X.env.locals:=fun b o e=>vC (vA (uN e) I.ok.above);have neC:∀b o,X.s₀.heap.get? b=some o->b∉ch:=fun b o e z=>by rw[(hch b z).nw] at e;cases e
 have cel:∀x c,X.env.cells.lookup x=some c->∀v,s.heap.IsCell c v->h'.IsCell c v:=fun x c e v ⟨o,ho,hd⟩=>by
  obtain⟨sl,q⟩:=k2 c o (fun z=>(hch c z).cel I x c e rfl) ho;exact⟨_,q,hd⟩
 refine⟨I.ok,I.os,I.bare,⟨fun b o e n hb hx=>k1 b o (sub b (neL b o e) hb) (neC b o e) (I.base.keep b o e n hb hx),fun b o e n hb hx=>?_,I.base.free,fun b o e hx=>?_,I.base.tups,I.base.frzs,I.base.tbls⟩,
  ?_,fun x c e=>?_,I.free,I.freeC,fun p hp=>?_,fun a o e=>?_,I.len⟩
 .obtain⟨sl,e1⟩:=I.base.slot b o e n hb hx;obtain⟨sl',e2⟩:=k2 b _ (neC b o e) e1;exact⟨sl',e2⟩
 .obtain⟨o',e1⟩:=I.base.there b o e hx;obtain⟨sl',e2⟩:=k2 b _ (neC b o e) e1;exact⟨_,e2⟩
 .obtain⟨m,hm,hl⟩:=I.loc;have hm':h'.Ns X.env.locals m:=by
   obtain⟨o,es,ep,e,r⟩:=hm;obtain⟨sl,q⟩:=k2 _ o (fun z=>(hch _ z).loc I rfl) e;exact⟨_,es,ep,q,r⟩
  refine⟨m,hm',fun i x v e1 e2 e3=>?_⟩;obtain⟨u,r,l⟩:=hl i x v e1 e2 e3;refine⟨u,r,?_⟩;rcases l with l|⟨k,c,e,z⟩
  .exact .inl l
  .exact .inr ⟨k,c,e,cel x c e _ z⟩
 .obtain⟨v,z⟩:=I.cell x c e;exact⟨v,cel x c e v z⟩
 .obtain⟨e,n,ne,nf,d⟩:=I.pin p hp;exact⟨k1 p.1 p.2 (sub p.1 ne nf) (fun z=>(hch p.1 z).pin p hp rfl) e,n,ne,nf,d⟩
 .refine(I.hok a o e).stay (fun b u hb q=>k1 b u ?_ ?_ q) (fun _ q=>q) fun _ _ q=>q
  .intro z;have n:=I.stkFree b z;rcases hb with rfl|hb
   .rw[n] at e;cases e
   .rw[n] at hb;cases hb
  .intro z;have n:=(hch b z).un;rcases hb with rfl|hb
   .rw[n] at e;cases e
   .rw[n] at hb;cases hb
def jhp{P:uX}{w:vG}{H:Hp}(x:qbj P w H h a o):∃ob,h.get? a=some ob:=by
 cases o with
 |lst xs=>obtain⟨_,_,_,_,e⟩:=x;exact⟨_,e⟩
 |tup xs=>obtain⟨_,_,_,ob,e,_⟩:=x;exact⟨_,e⟩
 |dK kvs=>obtain⟨_,_,_,_,o,_,_,e,_⟩:=x;exact⟨_,e⟩
 |dT kvs=>obtain⟨_,_,_,_,o,_,_,e,_⟩:=x;exact⟨_,e⟩
 |set S n=>obtain⟨o,_,_,_,e,_⟩:=x;exact⟨_,e⟩
 |ins C dx fs=>obtain⟨_,_,_,e,_⟩:=x;exact⟨_,e⟩
 |own y=>exact x
 |xd fs=>obtain⟨_,⟨_,_,_,e,_⟩,_⟩:=x;exact⟨_,e⟩
 |rng lo hi=>obtain⟨_,_,_,e⟩:=x;exact⟨_,e⟩
 |frz ob u=>obtain⟨e,_⟩:=x;exact⟨_,e⟩
 |tbl ps=>exact⟨_,(show h.get? a=some _ from x)⟩
 |met f y=>exact⟨_,(show h.get? a=some _ from x)⟩
 |ext φ=>obtain⟨_,e,_⟩:=x;exact e
def juo{P:uX}{w:vG}{H:Hp}(x:HOk P w H h)(e:h.get? a=none):H a=none:=by
 cases q:H a with
 |none=>rfl
 |some o=>obtain⟨ob,z⟩:=jhp (x a o q);rw[e] at z;cases z
def je0(I:Inv X pins σ H s)(hex:X.ex=[]){b:Addr}(e:s.heap.get? b=none):X.s₀.heap.get? b=none:=by
 cases q:X.s₀.heap.get? b with
 |none=>rfl
 |some o=>obtain⟨o',z⟩:=I.base.there b o q (by rw[hex];simp);rw[e] at z;cases z
def jx7(h:vN)(e:Addr)(C:uB)(d:Option Addr):Prop:=
 ∃oe vs,h.get? e=some oe/\oe.cls=C/\oe.dict=d/\oe.data=.fields vs/\vs[1]?=some .none
def XTr(h:vN)(e:Addr)(C:uB)(d:Option Addr)(fl:uB)(T:Addr):Prop:=
 ∃oe vs oT ts,h.get? e=some oe/\oe.cls=C/\oe.dict=d/\oe.data=.fields vs/\vs[1]?=some (.ref T)/\T≠e/\h.get? T=some oT/\oT.data=.fields ts/\ts[3]?=some fl
def XIn(X:Cx)(pins:List (Addr×Obj))(H:Hp)(h:vN)(e:Addr)(C:uB)(d:Option Addr):Prop:=
 Rec X pins H h e/\(jx7 h e C d\/∃T,Rec X pins H h T/\∃fl,XTr h e C d fl T)
def qfj(X:Cx)(pins:List (Addr×Obj))(H:Hp)(h:vN)(e:Addr)(C:uB)(d:Option Addr)(fl:uB):Prop:=
 Rec X pins H h e/\∃T,Rec X pins H h T/\XTr h e C d fl T
def jhq(f:Array uB->Array uB)(o:Obj):(o.mapFields f).dict=o.dict:=by
 obtain⟨c,d,dt,sl⟩:=o
 cases dt<;>rfl
def jhr{M:Model}{A:vI}{E:uB->uD->Prop}{e:Addr}{C:uB}{d:Option Addr}{head:uB}{hadNext:Bool}{Q:Unit->uD->Prop}
  (I:Inv X pins σ H s)(hA:A.frames=some X.stack)(hst:X.stack=X.env::X.outer)(hf:X.env.frame=some X.env.locals)(r:Rec X pins H s.heap e)
  (ho:∃oe vs,s.heap.get? e=some oe/\oe.cls=C/\oe.dict=d/\oe.data=.fields vs/\1<vs.size)
  (h:∀s',Inv X pins σ H s'->qfj X pins H s'.heap e C d (wT X.env.locals)->Q () s'):
  uS M A (do let a<-frameOf X.env;let pl<-entryPlaceOf X.env.locals hadNext;let b<-EntryCells.newEntry head a .none (wT X.env.locals) .none pl;setField (.ref e) 1 b) Q E s:=by
 obtain⟨oe,vs,he,hc,hdd,hd,hsz⟩:=ho;have hl:=I.stack;rw[hst] at hl hA;have ne:e∉L2.frs X.stack:=r.frs I;refine uC (wpAny_frameOf_fun hA hl hf fun h₁ hs₁=>uC (wpAny_entryPlaceOf fun pl hpl=>?_));unfold EntryCells.newEntry newFields;refine uC (vX ?_ (hpl.sizeOk5 _ _ _ _ _));rw[<-hst] at hs₁;have he1:h₁.get? e=some oe:=(hs₁.2.1 e ne).trans he;generalize hN:({cls:=.type "traceback",dict:=none,data:=.fields ([head,.ref X.env.locals,.none,wT X.env.locals,.none]++(if pl.isEmpty then bE 6 vV else pl)).toArray}:Obj)=N;have he2:(h₁.push N).get? e=some oe:=uE _ he1;refine aB he2 hd hsz (h _ ?_ ?_)
 .refine Inv.marks (s:=s) (ch:=[e]) (t':=s.toks) I (fun b hb=>by rw[zG.mp hb];exact r) (fun b o h1 h2 q=>?_) fun b o h2 q=>?_
  .have hb:b≠e:=fun z=>h2 (by simp[z]);rw[wU _ _ (xF hb)];exact uE _ ((hs₁.2.1 b h1).trans q)
  .have hb:b≠e:=fun z=>h2 (by simp[z]);obtain⟨sl,q1⟩:=hs₁.2.2 b o q;exact⟨sl,by rw[wU _ _ (xF hb)];exact uE _ q1⟩
 .have sz1:h₁.objs.size=↑s:=hs₁.1;have hTe:h₁.objs.size≠e:=dP (uN he1);have d3:=xN hd (·.setIfInBounds 1 (uP h₁.objs.size));have e3:=bL (wN (·.setIfInBounds 1 (uP h₁.objs.size))) he2 (bM d3);have nf:N.isFreed=false:=by rw[<-hN];rfl
  have t3:=(wU (h₁.push N) (wN (·.setIfInBounds 1 (uP h₁.objs.size))) (xF hTe)).trans (uQ h₁ nf);have rT:Rec X pins H ((h₁.push N).update e (wN (·.setIfInBounds 1 (uP h₁.objs.size)))) h₁.objs.size:=by
   refine⟨bU (by rw[sz1];exact I.sz),I.hok.fresh (by rw[sz1];exact uH _),fun p hp z=>?_,⟨N,_,t3,by rw[<-hN]⟩⟩;obtain⟨q,_⟩:=I.pin p hp;have w:=uN q;rw[z,sz1] at w;exact absurd w (wD _)
  refine⟨⟨r.nw,r.un,r.pin,⟨_,_,e3,d3⟩⟩,h₁.objs.size,rT,_,_,N,_,e3,(gH _ _).trans hc,?_,d3,by simp[hsz],hTe,t3,by rw[<-hN],?_⟩
  .rw[<-hdd];exact jhq _ _
  .first|(simp;done) |(rcases hpl with rfl|⟨_,_,_,_,_,_,_,rfl⟩<;>simp)
def jmd{M:Model}{A:vI}{E:uB->uD->Prop}{e:Addr}{C:uB}{d:Option Addr}{Q:Unit->uD->Prop}
  (I:Inv X pins σ H s)(hA:A.frames=some X.stack)(hst:X.stack=X.env::X.outer)(hf:X.env.frame=some X.env.locals)(x:XIn X pins H s.heap e C d)
  (h:∀s',Inv X pins σ H s'->qfj X pins H s'.heap e C d (wT X.env.locals)->Q () s'):uS M A (noteFrame (.ref e) X.env) Q E s:=by
 obtain⟨r,x⟩:=x;unfold noteFrame;simp only[hf];rcases x with⟨oe,vs,he,hc,hdd,hd,h1⟩|⟨T,rT,fl,oe,vs,oT,ts,he,hc,hdd,hd,h1,hTe,hT,hdT,h3⟩
 .refine uC (aA he hd h1 ?_);rw[iA ∅];exact jhr I hA hst hf r ⟨oe,vs,he,hc,hdd,hd,(aC.mp h1).1⟩ h
 .refine uC (aA he hd h1 ?_);rw[iB (show(uP T !=vV)=true from by simp)];refine uC (aA hT hdT h3 ?_);by_cases qf:(fl==wT X.env.locals)=true
  .rw[iB qf];have ef:fl=wT X.env.locals:=eq_of_beq qf;rw[ef] at h3;exact uF (h s I ⟨r,T,rT,oe,vs,oT,ts,he,hc,hdd,hd,h1,hTe,hT,hdT,h3⟩)
  .rw[iA qf];refine uC (aB hT hdT (aC.mp h3).1 ?_);have oth:∀b,b≠T->(s.heap.update T (wN (·.setIfInBounds 3 vV))).get? b=s.heap.get? b:=fun b hb=>wU _ _ (xF hb);have J:Inv X pins σ H {s with heap:=s.heap.update T (wN (·.setIfInBounds 3 vV))}:=
    Inv.marks (s:=s) (ch:=[T]) (t':=s.toks) I (fun b hb=>by rw[zG.mp hb];exact rT) (fun b o _ h2 q=>(oth b fun z=>h2 (by simp[z])).trans q) fun b o h2 q=>⟨o.slots,(oth b fun z=>h2 (by simp[z])).trans q⟩
   have he':=(oth e (xF hTe)).trans he;exact jhr J hA hst hf ⟨r.nw,r.un,r.pin,⟨oe,vs,he',hd⟩⟩ ⟨oe,vs,he',hc,hdd,hd,(aC.mp h1).1⟩ h
def je1(fr:Option Addr){M:Model}{A:vI}{E:uB->uD->Prop}{e:Addr}{C fl:uB}{d:Option Addr}{Q:Unit->uD->Prop}
  (I:Inv X pins σ H s)(x:qfj X pins H s.heap e C d fl)
  (h:∀s',Inv X pins σ H s'->qfj X pins H s'.heap e C d (fr.elim vV fun f=>wT f)->Q () s'):uS M A (setFlight (.ref e) fr) Q E s:=by
 obtain⟨r,T,rT,oe,vs,oT,ts,he,hc,hdd,hd,h1,hTe,hT,hdT,h3⟩:=x;have hsz:=(aC.mp h3).1;unfold setFlight;refine uC (aA he hd h1 ?_);rw[iB (show(uP T !=vV)=true from by simp)];refine aB hT hdT hsz (h _ ?_ ?_)
 all_goals have oth:∀b,b≠T->(s.heap.update T (wN (·.setIfInBounds 3 (fr.elim vV fun f=>wT f)))).get? b=s.heap.get? b:=fun b hb=>wU _ _ (xF hb)
 .exact Inv.marks (s:=s) (ch:=[T]) (t':=s.toks) I (fun b hb=>by rw[zG.mp hb];exact rT) (fun b o _ h2 q=>(oth b fun z=>h2 (by simp[z])).trans q) fun b o h2 q=>⟨o.slots,(oth b fun z=>h2 (by simp[z])).trans q⟩
 .have he':=(oth e (xF hTe)).trans he;have d3:=xN hdT (·.setIfInBounds 3 (fr.elim vV fun f=>wT f));have hT':=bL (wN (·.setIfInBounds 3 (fr.elim vV fun f=>wT f))) hT (bM d3);exact⟨⟨r.nw,r.un,r.pin,⟨oe,vs,he',hd⟩⟩,T,⟨rT.nw,rT.un,rT.pin,⟨_,_,hT',d3⟩⟩,oe,vs,_,_,he',hc,hdd,hd,h1,hTe,hT',d3,by simp[hsz]⟩
def jkl{M:Model}{A:vI}{E:uB->uD->Prop}{e:Addr}{C fl:uB}{d:Option Addr}{Q:Unit->uD->Prop}
  (I:Inv X pins σ H s)(x:qfj X pins H s.heap e C d fl)
  (h:∀s',Inv X pins σ H s'->qfj X pins H s'.heap e C d .none->Q () s'):uS M A (setFlight (.ref e) none) Q E s:=je1 none I x h
def qfj.xin{e:Addr}{fl:uB}(x:qfj X pins H h e C d fl):XIn X pins H h e C d:=
 let ⟨r,T,rT,q⟩:=x
 ⟨r,.inr ⟨T,rT,_,q⟩⟩
def qfj.xinL{e:Addr}(x:qfj X pins H h e C d (wT X.env.locals)):XIn X pins H h e C d:=x.xin
def CX1(P:uX)(w:vG):CXT:=fun outer H s E e s'=>∃(a:Addr)(C:uB)(d:Option Addr)(H':Hp),e=.ref a/\s'.os=s.os/\cR s'.gens/\Un (L2.frs outer) [] H H' s.heap s'.heap/\HOk P w H' s'.heap/\
 s.heap.get? a=none/\H' a=none/\(∃T,s.heap.get? T=none/\H' T=none/\XTr s'.heap a C d .none T)/\E C d H'
def Xes(X:Cx)(W:L2.St->XK):Prop:=∀(pins:List (Addr×Obj))(σ:L2.St)(H:Hp)(s:uD)(a:Addr)(C:uB)(d:Option Addr),Inv X pins σ H s->XIn X pins H s.heap a C d->W σ C d H->X.xe (.ref a) s
def je2(h:Xes X W)(hex:X.ex=[]){e:uB}{s':uD}(I:Inv X pins σ H s)(q:CX1 X.prog X.w X.stack H s (W σ) e s'):X.xe e s':=by
 obtain⟨a,C,d,H',rfl,os,bare,un,hok,la,na,⟨T,lT,nT,x⟩,w⟩:=q;have J:Inv X pins σ H' s':=I.call' (ch:=[]) os un hok bare (fun b z=>absurd z (by simp));have pn:∀b,s.heap.get? b=none->∀p∈X.pn++pins,p.1≠b:=fun b lb p hp z=>by
  have w:=(I.pin p hp).1;rw[z,lb] at w
  cases w
 obtain⟨oe,vs,oT,ts,he,hc,hdd,hd,h1,hTe,hT,hdT,h3⟩:=id x;exact h pins σ H' s' a C d J ⟨⟨je0 I hex la,na,pn a la,⟨oe,vs,he,hd⟩⟩,.inr ⟨T,⟨je0 I hex lT,nT,pn T lT,⟨oT,ts,hT,hdT⟩⟩,_,x⟩⟩ w
end
section
variable{X:Cx}{pins:List (Addr×Obj)}{σ:L2.St}{H:Hp}{s:uD}{W:L2.St->XK}
def XSt(X:Cx)(W:L2.St->XK)(e:uB)(s:uD):Prop:=∃(a:Addr)(C:uB)(d:Option Addr)(σ:L2.St)(H:Hp),e=.ref a/\Inv X [] σ H s/\XIn X [] H s.heap a C d/\W σ C d H
abbrev xw(X:Cx)(W:L2.St->XK):Cx:=X.wish (XSt X W)
def Rec.less{b:Addr}(r:Rec X pins H h b):Rec X [] H h b:=⟨r.nw,r.un,fun p hp=>r.pin p (by rw[yC] at hp;exact yE _ hp),r.ob⟩
theorem XIn.less(x:XIn X pins H h a C d):XIn X [] H h a C d:=by
 obtain⟨r,x⟩:=x;rcases x with x|⟨T,rT,x⟩
 .exact⟨r.less,.inl x⟩
 .exact⟨r.less,.inr ⟨T,rT.less,x⟩⟩
def Rec.unwish{E:uB->uD->Prop}{b:Addr}(r:Rec (X.wish E) pins H h b):Rec X pins H h b:=⟨r.nw,r.un,r.pin,r.ob⟩
theorem XIn.unwish{E:uB->uD->Prop}(x:XIn (X.wish E) pins H h a C d):XIn X pins H h a C d:=by
 obtain⟨r,x⟩:=x;rcases x with x|⟨T,rT,x⟩
 .exact⟨r.unwish,.inl x⟩
 .exact⟨r.unwish,.inr ⟨T,rT.unwish,x⟩⟩
def qay:Xes (xw X W) W:=fun pins σ H s a C d I x w=>⟨a,C,d,σ,H,rfl,I.unwish.pins_of (fun _ z=>nomatch z),x.unwish.less,w⟩
def qf3(hst:X.stack=X.env::X.outer)(hf:X.env.frame=some X.env.locals):PassesOwn (uU X.prog X.w) X.A X.env (XSt X W):=by
 rintro e s' ⟨a,C,d,σ,H,rfl,I,x,w⟩;show uS _ _ (noteFrame (.ref a) X.env) _ _ s';refine jmd I I.ok.frames hst hf x fun s2 I2 x2=>?_;obtain⟨r,T,rT,oe,vs,oT,ts,he,hc,hdd,hd,h1,r2⟩:=id x2;unfold cameBackBy;refine uC (aA he hd h1 ?_);have fin:uS (uU X.prog X.w) X.A (setFlight (.ref a) X.env.frame) (fun _ s''=>XSt X W (.ref a) s'') (XSt X W) s2:=by
  rw[hf];exact je1 (some X.env.locals) I2 x2 fun s3 I3 x3=>⟨a,C,d,σ,H,rfl,I3,qfj.xinL x3,w⟩
 first
  |(rw[iA (show ¬((uP T==vV)=true) from by simp)];exact fin)
  |(rw[iA (show ¬((uP T==vV)=true) from by simp)];exact uC (uF fin))
  |(refine uC ?_;rw[iA (show ¬((uP T==vV)=true) from by simp)];exact uF fin)
def PSs.xes{st:List Stmt}{t:TS}(hx:Xes X W)(h:PSs (xw X W) st t):PSs X st t:=fun pins s σ H D I hw=>
 vS (h pins s σ H D (I.wish _) hw) (fun _ _ q=>q.unwish) fun _ _ ⟨a,C,d,σ',H',e,I',x,w⟩=>by subst e;exact hx [] σ' H' _ a C d I' x w
end
section
variable{P:uX}{w:vG}{K:uT}{mg:Str->Option uB}{base:vN}
def jme{N:List Str}{qual:Str}{scope:aL}{f:Addr}{cd:uB}{A:vI}{outer:List Env}{s:uD}{H:Hp}{E:XK}:
  Xes (cxOf (CX1 P w) P w K mg base N qual scope f cd A outer s H E) (fun _=>E):=by
 intro pins σ H1 s1 a C d I x wE;show uS _ _ (leaving _ _) _ _ s1;unfold leaving;refine uC (jmd I I.ok.frames rfl rfl x fun s2 I2 x2=>jkl I2 x2 fun s3 I3 x3=>?_);obtain⟨r,T,rT,xt⟩:=x3;exact⟨a,C,d,H1,rfl,I3.os,I3.bare,I3.base,I3.hok,r.nw,r.un,⟨T,rT.nw,rT.un,xt⟩,wE⟩
def okX{x qual:Str}{st:Stmt}{f:Addr}{fd:uL}{N ps:List Str}{k:Nat}{sp:Sp}(F:Fun K x qual st f fd)(S:jaa N ps (qaa st))(len:∀vs H Q E,sp vs H Q E->vs.length=ps.length)
  (hbody:∀(cdv:uB)(A:vI)(outer:List Env)(s:uD)(H:Hp)(vs:List V)(Q:VK)(E:XK),ja0 k (A.deeper (dB qual (qaa st) ↑s f cdv))->sp vs H Q E->
   ∃t,PSs (xw (cxOf (CX1 P w) P w K mg base N qual (qaa st) f cdv A outer s H E) (fun _=>E)) (qbt st) t/\t {nx:=fun _ H'=>Q .non H',rt:=Q} (qe8 N vs) H):jab P w K mg base (CX1 P w) (k+1) f fd ps sp:=by
 obtain⟨oc,od,kV,doc,pm,an,cdv,ct,osl,rfl,lk,hcd⟩:=F.ex;refine jkg lk hcd S len fun A outer s H vs Q E hr hsp=>?_;obtain⟨t,ht,q⟩:=hbody cdv A outer s H vs Q E hr hsp;exact⟨t,PSs.xes jme ht,q⟩
end
section
variable{X:Cx}{k:Nat}{f:Addr}{fd:uL}{ps:List Str}{sp:Sp}{dvs:List V}{ds:List uB}{W:L2.St->XK}{x:Str}{p pos:Pos}{e:vT}{es:List vT}{t:TA}
def jmf(sp:Sp)(dvs:List V)(W:L2.St->XK)(t:TA):TE:=fun σ H Q=>t σ H fun vs H1=>sp (vs++dvs) H1 Q (W σ)
def jhs{pins:List (Addr×Obj)}{σ:L2.St}{H:Hp}{s:uD}{Q:VK}{us:List uB}{vs:List V}(F:jab X.prog X.w X.K X.mg X.base (CX1 X.prog X.w) k f fd ps sp)(hr:ja0 k X.A)(hb:qap X.K fd ps ds)(hd:qba dvs ds)(hx:Xes X W)(hex:X.ex=[])
  (I:Inv X pins σ H s)(r:qba vs us)(h:sp (vs++dvs) H Q (W σ)):uS (uU X.prog X.w) X.A (call (.ref f) us) (EP X pins σ Q) X.xe s:=by
 have r2:qba (vs++dvs) (us++ds):=r.append hd;have hl:(us++ds).length=ps.length:=by rw[<-r2.length];exact F.len _ _ _ _ h
 refine aR (xL (F.run X.A X.stack s H ⟨us,[]⟩ (us++ds) (vs++dvs) Q (W σ) hr I.env0 (hb s us I.kIn hl) r2 h) fun r s' hq=>?_)
 match r,hq with
 | .error e,hq=>exact je2 hx hex I hq
 | .ok (.ret u),hq=>exact I.after hq
 | .ok .next,hq=>exact vY hq
 | .ok .brk,hq=>exact vY hq
 | .ok .cont,hq=>exact vY hq
def qbr(F:jab X.prog X.w X.K X.mg X.base (CX1 X.prog X.w) k f fd ps sp)(hr:ja0 k X.A)(hg:Gl X x)(hm:X.mg x=some (.ref f))(hk:dL X.K (.ref f)=true)(hb:qap X.K fd ps ds)(hd:qba dvs ds)(hx:Xes X W)
  (ha:PA X (e::es) t)(hex:X.ex=[]:=by rfl)(hdb:(x==("__debug__":Str))=false:=by decide)(he:uZ (e::es) X.env=(false,wK e X.env)::uZ es X.env:=by rfl)(hpl:(wO pos (uZ es X.env)).any (·.1)=false:=by rfl):
  PE X (.Call (.Name x p) (e::es) [] pos) (jmf sp dvs W t):=by
 intro pins s σ H Q I h;refine wW (qds I hg hm ?_ hdb);refine xM (h₀:=X.base) I.ok.mod.kin hk (thn (ha pos pins s σ H _ I h) fun us s1 ⟨vs,H1,I1,r,q⟩=>⟨I1.kIn,?_⟩) he hpl;exact jhs F hr hb hd hx hex I1 r q
end
structure XCls(K:uT)(C:Addr):Prop where
 ob:∃(nm q:Str)(N:Addr)(bs bm:List uB)(hdct:Bool)(sn:List Str)(sub:List uB)(ab:Bool)(col:Option Bool)(dd:Option Addr)(k0 k1 k2 k3 k5:Option uB)(mN:Str->Option uB),
  K.lookup C=some (bY nm q C N bs bm hdct sn sub ab col dd k0 k1 k2 k3 k5 "ValueError.__new__")/\(∀h:vN,K.In h->h.Ns N mN)/\mN "__init__"=none/\
  ∀h:vN,K.In h->OwnTail h [.type "ValueError",.type "Exception",.type "BaseException",.type "object"] bm
section
variable{X:Cx}{x:Str}{C:Addr}{W:L2.St->XK}{np cpos pos:Pos}{e:vT}{es:List vT}{t:TA}
def jmg(t:TA)(C:Addr)(W:L2.St->XK):TS:=fun _ σ H=>t σ H fun xs H1=>xs.length<=sizeLine/\W σ (.ref C) none H1
def qc5(hc:X.calm=true)(M:XCls X.K C)(hg:Gl X x)(hm:X.mg x=some (.ref C))(hx:Xes X W)(ha:PA X (e::es) t)(hex:X.ex=[]:=by rfl)(hdb:(x==("__debug__":Str))=false:=by decide)
  (he:uZ (e::es) X.env=(false,wK e X.env)::uZ es X.env:=by rfl) (hpl:(wO cpos (uZ es X.env)).any (·.1)=false:=by rfl):
  PS X (.Raise (some (.Call (.Name x np) (e::es) [] cpos)) none pos) (jmg t C W):=by
 intro pins s σ H D I h;obtain⟨nm,q,N,bs,bm,hdct,sn,sub,ab,col,dd,k0,k1,k2,k3,k5,mN,hC,hN,hni,T⟩:=M.ob;refine wpAny_Raise_call_subU (C:=C) (nm:=nm) (q:=q) (N:=N) (bs:=bs) (bm:=bm) (hdct:=hdct) (sn:=sn) (sub:=sub) (ab:=ab) (col:=col) (dd:=dd) (k0:=k0) (k1:=k1) (k2:=k2) (k3:=k3) (k5:=k5)
  aD ∅ aD (mN:=mN) ((T _ I.kIn).hasType PySem.F.excBase_ValueError.hasBase) (I.ok.hd hc) ?_ hni ?_
 .rw[he];show(false ||(wO cpos (uZ es X.env)).any (·.1))=false;rw[hpl];rfl
 .refine qds I hg hm ⟨rfl,?_⟩ hdb;have z:=ha cpos pins s σ H _ I h;rw[he] at z⊢;refine bX (vS z (fun us s2 ⟨vs,H2,I2,r,hl,q⟩=>⟨rfl,by rw[<-r.length];exact hl,I2.kIn _ _ hC,hN _ I2.kIn,T _ I2.kIn,fun h' a m=>?_⟩) fun _ _ y=>y);obtain⟨tp,ea,_,_⟩:=m.there;have J:Inv X pins σ H2 {s2 with heap:=h'}:=I2.kept (t':=s2.toks) m.keeps;refine hx pins σ H2 _ a (.ref C) none J ⟨⟨je0 I2 hex m.new,juo I2.hok m.new,fun p hp y=>?_,⟨_,_,ea,rfl⟩⟩,.inl ⟨_,_,ea,rfl,rfl,rfl,rfl⟩⟩ q;have w:=(I2.pin p hp).1;rw[y,m.new] at w
  cases w
end
section
variable{X:Cx}{pins:List (Addr×Obj)}
abbrev pnd(X:Cx)(pins:List (Addr×Obj)):Cx:={X with pn:=X.pn++pins}
abbrev suite(X:Cx)(a:Addr):Cx:={X with A:=X.A.mark (some (.ref a)),calm:=false,xe:=fun _ _=>False}
def XO(a:Addr)(C:uB)(d:Option Addr):HO:=.ext fun h=>∃(oe:Obj)(vs:Array uB),h.get? a=some oe/\oe.cls=C/\oe.dict=d/\oe.data=.fields vs
end
section
variable{X:Cx}
def jup(t:TS):TS:=fun D σ H=>∃J:L2.St->Hp->Prop,t {D with nx:=J} σ H/\∀σ' H',J σ' H'->D.nx σ' H'
def qbg{st:Stmt}{t:TS}(h:PS X st t):PS X st (jup t):=by
 intro pins s σ H D I ⟨J,hw,k⟩;refine vS (h pins s σ H _ I hw) (fun f s' q=>?_) fun _ _ z=>z
 cases f with
 |next=>obtain⟨σ',H',I',z⟩:=q;exact⟨σ',H',I',k _ _ z⟩
 |brk=>exact q
 |cont=>exact q
 |ret u=>exact q
end
def qd3{C:Addr}(q:fV K C [.type "ValueError",.type "Exception",.type "BaseException",.type "object"] "ValueError.__new__"=true):XCls K C:=by
 unfold fV at q
 split at q
 .rename_i dd cd sl ho
  split at q
  .rename_i C' bm k0 k1 k2 k3 n k5 hm hs;simp only[vO,beq_iff_eq,cT] at q;obtain⟨⟨⟨⟨⟨rfl,rfl⟩,hdel⟩,ht⟩,hok⟩,hni⟩:=q;obtain⟨nm,bs,mro,ns,qn,hd,sn,sub,ab,col,del⟩:=cd;dsimp only at hm hdel hok hni;subst hm hdel;have hsl:sl= #[k0,k1,k2,k3,some (.builtin "ValueError.__new__"),k5]:=by
    obtain⟨l⟩:=sl;simp only at hs;rw[hs]
   subst hsl;unfold PySem.W.nsOkIn at hok
   split at hok
   .rename_i c1 d1 es ep sl1 hN;have hSK:StrKeys es:=fun e he=>by
     have z:=gI.mp hok e he
     split at z
     .rename_i n t q;exact⟨n,t,q⟩
     .cases z
    have hNs:∀h:vN,K.In h->h.Ns ns (fun x=>fQ es x):=fun h X=>⟨_,es,ep,X _ _ hN,rfl,hSK,fun _=>rfl⟩;refine⟨nm,qn,ns,bs,bm,hd,sn,sub,ab,col,dd,k0,k1,k2,k3,k5,fun x=>fQ es x,ho,hNs,?_,fun h X=>PySem.W.tail_of_in X ht⟩;unfold xK at hni;rw[hN] at hni;dsimp only at hni
    split at hni
    .cases hni
    .rename_i hf;show fQ es "__init__"=none;unfold fQ findBy;rw[<-fR,hf];rfl
   .cases hok
  .cases q
 .cases q
def TyX(K:uT)(H:Hp)(x:V)(t:uB)(b:Bool):Prop:=jbp K H x t\/∃(a:Addr)(d:Option Addr),x=.ref a/\H a=some (XO a t d)/\b=true
def jxb(K:uT):List V->Hp->VK->Prop:=fun xs H Q=>∃(x c:V)(u t:uB)(b:Bool),xs=[x,c]/\qb8 c u/\(∀u',qb8 c u'->u'=u)/\TyX K H x t b/\cN K t u=some b/\Q (.bl b) H
def jn6{prog:uX}{w:vG}{A:vI}{E:uB->uD->Prop}{s:uD}{Q:uB->uD->Prop}{K:uT}{a:Addr}{t c:uB}(KX:K.In s.heap)(hp:∃o,s.heap.get? a=some o/\o.cls=t)(e:cN K t c=some true)
  (h:Q (.bool true) s):uS (uU prog w) A (call (.builtin "isinstance") [.ref a,c]) Q E s:=by
 refine call_isinstance_of ?_ (by intro q;cases q);obtain⟨h0,g,d,tt,os⟩:=s;obtain⟨o,ho,hc⟩:=hp;have LT:dE (uU prog w) h0 (typeOf (.ref a)) t:=hc▸(PySem.W.Looks.ld ho).andThen .now;unfold cN at e;unfold xO.«isinstance.nested»;refine uC (LT.at ?_);by_cases q:(t==c)=true
 .rw[iB q]
  first
   |exact uC (wpAny_rule (uF h))
   |exact uC (wpAny_rule h)
 .rw[iA q] at e;rw[iA q];obtain⟨hty,his,hsub⟩:=PySem.W.kit_cls (M:=uU prog w) KX e;have LI:dE (uU prog w) h0 (isInstance (.ref a) c) true:=LT.andThen hsub;refine uC (hty.at ?_);rw[iB ∅]
  k_delta "plainIsInstance"
  refine uC (uC (his.at ?_));simp only[Bool.not_true,Bool.false_eq_true,if_false];refine uC (LI.at ?_)
  first
   |exact uF (uF h)
   |(simp only[if_true];first|exact uF (uF h) |exact uF h|exact uC (uF (uF h)))
def qfq:Xes X (fun _ _ _ _=>False):=fun _ _ _ _ _ _ _ _ _ w=>w.elim
section
variable{X:Cx}
def qca:qcb X (.builtin "isinstance") (jxb X.K):=by
 intro pins s σ H xs us Q I hv h;obtain⟨x,c,u,t,b,rfl,hu,hu',ty,e,q⟩:=h
 cases hv with
 |cons r1 hv=>
  cases hv with
  |cons r2 hv=>
   cases hv
   rename_i v1 v2;rw[hu' v2 r2];rcases ty with ty|⟨a,d,rfl,ea,rfl⟩
   .exact jha I r1 ty e fun tk=>⟨.bl b,H,I.tok tk,rfl,q⟩
   .cases r1
    obtain⟨⟨oe,vs,h1,h2,_⟩,_⟩:=(show qbj X.prog X.w H s.heap a (XO a t d) from I.hok a _ ea);exact jn6 I.kIn ⟨oe,h1,h2⟩ e ⟨.bl true,H,I,rfl,q⟩
def juq:R2:=fun x y H Q=>y=.non/\Q (.bl (decide (x=.non))) H
def jkm:R2:=fun x y H Q=>y=.non/\Q (.bl (!decide (x=.non))) H
def jxc(K:uT):List V->Hp->VK->Prop:=fun xs H Q=>∃p ys,xs=[.ref p]/\(SqL K H p ys\/SqT K H p ys)/\Q (.int ys.length) H
def qat:qcb X (.builtin "len") (jxc X.K):=jcm
def jdw:OpR X (wC .Is) juq:=jqs
def qga:OpR X (wC .IsNot) jkm:=jnw
end
section
variable{K:uT}{H:Hp}{Q:VK}
def jur{x:V}{T:String}{t:uB}{b:Bool}(ty:jbp K H x t)(e:cN K t (.type T)=some b)(h:Q (.bl b) H):jxb K [x,.ty T] H Q:=⟨x,_,_,t,b,rfl,rfl,fun _ z=>z,.inl ty,e,h⟩
end
section
variable{K:uT}
def jdx:cN K (.type "int") (.type "int")=some true:=by rfl
def jcr:cN K (.type "int") (.type "bool")=some false:=by rfl
def qgf:cN K (.type "bool") (.type "bool")=some true:=by rfl
def jdy:cN K (.type "str") (.type "str")=some true:=by rfl
def jdz:cN K (.type "list") (.type "list")=some true:=by rfl
def jd0:cN K (.type "dict") (.type "dict")=some true:=by rfl
end
section
variable{K:uT}{σ σ':L2.St}{H H1:Hp}{Q:VK}{D:jbe}{ta tb te:TE}{t u:TS}{c c':TT}{ar:TA}{v x y:V}{i j:Nat}
def qag{N:List Str}{vs:List V}(e:qe8 N vs=σ)(h:t D σ H):t D (qe8 N vs) H:=e▸h
def jus(e:σ[i]?=some (some v))(h:Q v H):jui i σ H Q:=⟨v,e,h⟩
def r_c(h:Q v H):tC v σ H Q:=h
def jx8{r:R2}(h:ta σ H fun x H1=>tb σ H1 fun y H2=>r x y H2 Q):tOp r ta tb σ H Q:=h
def jx9{g:Int->Int->V}{i j:Int}(h:Q (g i j) H):rI0 g (.int i) (.int j) H Q:=⟨i,j,rfl,rfl,h⟩
def r_I{C:Int->Int->Prop}{g:Int->Int->V}{i j:Int}(hc:C i j)(h:Q (g i j) H):rI C g (.int i) (.int j) H Q:=⟨i,j,rfl,rfl,hc,h⟩
def jut{i j:Int}(h:Q (.bl (decide (i=j))) H):rEq (.int i) (.int j) H Q:=⟨rfl,by
 have e:decide (V.int i=V.int j)=decide (i=j):=by by_cases z:i=j<;>simp[z]
 rw[e];exact h⟩
def juu{i j:Int}(h:Q (.bl (!decide (i=j))) H):rNe (.int i) (.int j) H Q:=⟨rfl,by
 have e:decide (V.int i=V.int j)=decide (i=j):=by by_cases z:i=j<;>simp[z]
 rw[e];exact h⟩
def juv{i j:Bool}(h:Q (.bl (decide (i=j))) H):rEq (.bl i) (.bl j) H Q:=⟨rfl,by
 have e:decide (V.bl i=V.bl j)=decide (i=j):=by by_cases z:i=j<;>simp[z]
 rw[e];exact h⟩
def juw{b:Bool}{Q:Bool->Prop}(h:Q b):∃k,V.bl b=.bl k/\Q k:=⟨b,rfl,h⟩
def jq2{Q:Bool->Hp->Prop}(h:te σ H fun x H'=>∃k,x=.bl k/\Q k H'):jqt te σ H Q:=h
def jya{Q:Bool->Hp->Prop}(h:te σ H fun x H'=>∃k,x=.bl k/\Q k H'):tB te σ H Q:=h
def jux{Q:Bool->Hp->Prop}(h:c σ H fun b H1=>if b=true then c' σ H1 Q else Q false H1):jwp c c' σ H Q:=h
def jyb{Q:Bool->Hp->Prop}(h:c σ H fun b H1=>if b=true then Q true H1 else c' σ H1 Q):tOr c c' σ H Q:=h
def juy{Q:Bool->Hp->Prop}(h:c σ H fun b H1=>Q (!b) H1):jwq c σ H Q:=h
def jq3(h:ta σ H fun x H1=>∃k,x=.bl k/\if k=true then tb σ H1 Q else Q (.bl false) H1):jqi ta tb σ H Q:=h
def juz(h:ta σ H fun x H1=>∃k,x=.bl k/\if k=true then Q (.bl true) H1 else tb σ H1 Q):jwr ta tb σ H Q:=h
def jq4(h:ta σ H fun x H1=>∃k,x=.bl k/\Q (.bl (!k)) H1):jqj ta σ H Q:=h
def ju0(h:c σ H fun b H1=>if b=true then ta σ H1 Q else tb σ H1 Q):tIf c ta tb σ H Q:=h
def jq5(h:D.nx σ H):jql D σ H:=h
def ju1(h:t {nx:=u D,rt:=D.rt,bk:=D.bk,ct:=D.ct} σ H):jwt t u D σ H:=h
def jq6(h:te σ H fun _ H1=>D.nx σ H1):jqm te D σ H:=h
def ju2(h:te σ H D.rt):jwu te D σ H:=h
def jyc(h:c σ H fun b H1=>if b=true then t D σ H1 else u D σ H1):jwv c t u D σ H:=h
def ju3{g:TG}(h:te σ H fun x H1=>g x σ H1 D.nx):jt8 te g D σ H:=h
def jq7{Q:L2.St->Hp->Prop}(e:σ.set i (some v)=σ')(h:Q σ' H):jcd i v σ H Q:=by subst e;exact h
def jq8{Q:L2.St->Hp->Prop}(h:Q σ H):jww [] σ H Q:=⟨rfl,h⟩
def jn7{g:TG}{gs:TGs}{vs:List V}{Q:L2.St->Hp->Prop}(h:g v σ H fun σ' H'=>gs vs σ' H' Q):jqn g gs (v::vs) σ H Q:=⟨v,vs,rfl,h⟩
def jq9{n:Nat}{gs:TGs}{Q:L2.St->Hp->Prop}(hS:SqT K H a xs)(hn:xs.length=n)(h:gs xs σ H Q):jwx K n gs (.ref a) σ H Q:=⟨a,xs,rfl,hS,hn,h⟩
def jyd{f b c:L2.St->Hp->Prop}{r:VK}(h:f σ H):jbe.nx {nx:=f,rt:=r,bk:=b,ct:=c} σ H:=h
def jye{f b c:L2.St->Hp->Prop}{r:VK}(h:r v H):jbe.rt {nx:=f,rt:=r,bk:=b,ct:=c} v H:=h
def ju4{Q:List V->Hp->Prop}(h:Q [] H):jua σ H Q:=h
def jra{Q:List V->Hp->Prop}(h:te σ H fun x H1=>ar σ H1 fun xs H2=>Q (x::xs) H2):jqw te ar σ H Q:=h
def ju5(h:ar σ H fun xs H1=>xs.length<=sizeLine/\∀p,H1 p=none->Q (.ref p) (upd H1 p (.tup xs))):jw3 ar σ H Q:=h
def ju6(h:ar σ H fun xs H1=>xs.length<=sizeLine/\∀p,H1 p=none->Q (.ref p) (upd H1 p (.lst xs))):jw4 ar σ H Q:=h
def ju7(hn:xs.length<=sizeLine)(h:A):xs.length<=sizeLine/\A:=⟨hn,h⟩
def jrb{sp:Sp}{E:XK}(h:ar σ H fun vs H1=>sp vs H1 Q E):jqx sp [] E ar σ H Q:=by
 have e:(fun vs H1=>sp (vs++[]) H1 Q E)=fun vs H1=>sp vs H1 Q E:=by funext vs H1;rw[yC]
 show ar σ H fun vs H1=>sp (vs++[]) H1 Q E;rw[e];exact h
def jn8{sp:Sp}(h:ar σ H fun vs H1=>sp vs H1 Q (W σ)):jmf sp [] W ar σ H Q:=by
 have e:(fun vs H1=>sp (vs++[]) H1 Q (W σ))=fun vs H1=>sp vs H1 Q (W σ):=by funext vs H1;rw[yC]
 show ar σ H fun vs H1=>sp (vs++[]) H1 Q (W σ);rw[e];exact h
def jyf{r:List V->Hp->VK->Prop}(h:ar σ H fun vs H1=>r vs H1 Q):tCB r ar σ H Q:=h
def jn9{C:Addr}(h:ar σ H fun xs H1=>xs.length<=sizeLine/\W σ (.ref C) none H1):jmg ar C W D σ H:=h
def qb0{k:Int}(hS:SqL K H p xs)(e:atI xs k=some v)(h:Q v H):jub K (.ref p) (.int k) H Q:=⟨p,xs,k,v,rfl,rfl,hS,e,h⟩
def ju8{k:Int}(hS:SqT K H p xs)(e:atI xs k=some v)(h:Q v H):jw6 K (.ref p) (.int k) H Q:=⟨p,xs,k,v,rfl,rfl,hS,e,h⟩
def joa{R:Addr->Prop}(h:∀p,H p=none->R p):∀p,H p=none->R p:=h
def je3{xs:List Int}{r:Int}(hS:SqL K H p (xs.map V.int))(h0:0<=r)(h1:r<xs.length)(h:∀m,m∈xs->Q (.int m) H):jub K (.ref p) (.int r) H Q:=by
 have hk:r.toNat<xs.length:=by omega
 have ek:r=((r.toNat:Nat):Int):=by omega
 have q:atI (xs.map V.int) ((r.toNat:Nat):Int)=some (.int xs[r.toNat]):=qar (by rw[zC,zA hk]<;>rfl);rw[<-ek] at q;exact⟨p,_,r,_,rfl,rfl,hS,q,h _ (zL hk)⟩
def jcs(h:t {nx:=D.nx,rt:=D.rt,bk:=D.bk,ct:=D.ct} σ H):jup t D σ H:=⟨D.nx,h,fun _ _ z=>z⟩
def qce(J:L2.St->Hp->Prop)(h:t {nx:=J,rt:=D.rt,bk:=D.bk,ct:=D.ct} σ H)(k:∀σ' H',J σ' H'->D.nx σ' H'):jup t D σ H:=⟨J,h,k⟩
def jmh{ys:List V}(hS:SqL K H p ys)(h:Q (.int ys.length) H):jxc K [.ref p] H Q:=⟨p,ys,rfl,.inl hS,h⟩
def jrc(h:Q (.bl true) H):juq .non .non H Q:=⟨rfl,h⟩
def jrd(h:Q (.bl false) H):juq (.ref a) .non H Q:=⟨rfl,h⟩
def job(h:Q (.bl false) H):jkm .non .non H Q:=⟨rfl,h⟩
def joc(h:Q (.bl true) H):jkm (.ref a) .non H Q:=⟨rfl,h⟩
end
section
variable{K:uT}{σ:L2.St}{H:Hp}{D:jbe}{wi:TI}{g:TG}{tb:TS}{tl:TE}{ta:TA}
def FOR(J:It)(g:TG)(tb:TS)(D:jbe)(σ:L2.St)(H:Hp):Prop:=∃W:Nat->Nat->L2.St->Hp->Prop,(∃m,W 0 m σ H)/\∀i m σ H,W i m σ H->
 (J.stop i H/\D.nx σ H)\/(J.go i H/\∃N:L2.St->Hp->Prop,(∀σ' H',N σ' H'->∃m',m'<m/\W (i+1) m' σ' H')/\∀x H',J.yld i H x H'->g x σ H' fun σ2 H2=>tb {D with nx:=N,ct:=N,bk:=D.nx} σ2 H2)
def jxd(K:uT)(x:V)(H:Hp)(R:It->Hp->Prop):Prop:=∃a,x=.ref a/\(∃xs,SqL K H a xs)/\R (Itl K a) H
def jxe(vs:List V)(H:Hp)(R:It->Hp->Prop):Prop:=∃j:Int,vs=[.int j]/\-(2^62)<=j/\j<2^62/\R (Itr 0 j.toNat) H
def ju9(h:wi σ H fun J H1=>FOR J g tb D σ H1):jwy wi g tb D σ H:=h
def jyg(h:tl σ H fun x H1=>jxd K x H1 R):jqo K tl σ H R:=h
def jyh(h:ta σ H fun vs H1=>jxe vs H1 R):jqp ta σ H R:=h
def jva(hS:SqL K H a xs)(h:R (Itl K a) H):jxd K (.ref a) H R:=⟨a,rfl,⟨xs,hS⟩,h⟩
def jvb{j:Int}(h0: -(2^62)<=j)(h1:j<2^62)(h:R (Itr 0 j.toNat) H):jxe [.int j] H R:=⟨j,rfl,h0,h1,h⟩
def qdg{a:Addr}{xs:List V}(Pv:Nat->L2.St->Hp->Prop)(h0:Pv 0 σ H)(hl:∀i σ H,i<=xs.length->Pv i σ H->SqL K H a xs)
  (hs:∀i x σ H,xs[i]?=some x->Pv i σ H->g x σ H fun σ2 H2=>tb {nx:=Pv (i+1),rt:=D.rt,bk:=D.nx,ct:=Pv (i+1)} σ2 H2)(hd:∀σ H,Pv xs.length σ H->D.nx σ H):FOR (Itl K a) g tb D σ H:=jka Pv h0 hl hs hd
def qcz{lo:Int}{n:Nat}(Pv:Nat->L2.St->Hp->Prop)(h0:Pv 0 σ H)
  (hs:∀(i:Nat) σ H,i<n->Pv i σ H->g (.int (lo+i)) σ H fun σ2 H2=>tb {nx:=Pv (i+1),rt:=D.rt,bk:=D.nx,ct:=Pv (i+1)} σ2 H2)(hd:∀σ H,Pv n σ H->D.nx σ H):FOR (Itr lo n) g tb D σ H:=jg1 Pv h0 hs hd
end
def qad{o':HO}(h:H a=some o)(n:H p=none):upd H p o' a=some o:=by rw[qa7 (qa8 h n)];exact h
def jod(h:SqL K H a xs)(n:H p=none):SqL K (upd H p o) a xs:=(qa5 n o).seq h
def joe(h:SqT K H a xs)(n:H p=none):SqT K (upd H p o) a xs:=jkk (qa5 n o) h
def qep{H0:Hp}(h:qas H0 H)(n:H p=none):qas H0 (upd H p o):=h.trans (qa5 n o)
def i_t[Decidable c](h:c)(hA:A):if decide c=true then A else B:=by rw[iC h];exact jud hA
def i_f[Decidable c](h:¬c)(hB:B):if decide c=true then A else B:=by rw[iD h];exact juc hB
def i_2[Decidable c](h1:c->A)(h2:¬c->B):if decide c=true then A else B:=by
 by_cases h:c
 .exact i_t h (h1 h)
 .exact i_f h (h2 h)
def jyi[Decidable c](h:c)(hB:B):if(!decide c)=true then A else B:=by rw[iC h];exact juc hB
def jyj(h:B):if(!true)=true then A else B:=h
def jyk(h:A):if(!false)=true then A else B:=jud h
def jxf{b:Bool}(h1:b=true->A)(h2:b=false->B):if b=true then A else B:=by
 cases b
 .exact juc (h2 rfl)
 .exact jud (h1 rfl)
def jmi{α:Type}(f:α->Prop):List α->Prop
 | []=>True
 |a::l=>f a/\jmi f l
theorem jmi.mem{α:Type}{f:α->Prop}:∀{l:List α},jmi f l->∀a∈l,f a
 | [],_,_,h=>absurd h (by simp)
 |b::l,h,a,m=>by
  rcases zO.mp m with rfl|m
  .exact h.1
  .exact jmi.mem h.2 a m
def qbz(caps:List Nat)(σ:L2.St):L2.St:=caps.map fun j=>(σ[j]?).getD none
def jre(acc:Addr)(N:Hp->Prop)(y:V)(H:Hp):Prop:=∃ys,H acc=some (.lst ys)/\ys.length<sizeLine/\N (upd H acc (.lst (ys++[y])))
def jue(J:It)(caps:List Nat)(tt:TT)(te:TE)(acc:Addr)(σ:L2.St)(H:Hp)(Q:VK):Prop:=∃W:Nat->Nat->Hp->Prop,(∃m,W 0 m H)/\∀i m H,W i m H->
 (J.stop i H/\Q (.ref acc) H)\/(J.go i H/\∃N:Hp->Prop,(∀H',N H'->∃m',m'<m/\W (i+1) m' H')/\∀v H',J.yld i H v H'->tt (some v::qbz caps σ) H' fun b H2=>
  if b=true then te (some v::qbz caps σ) H2 fun y H3=>jre acc N y H3 else N H2)
abbrev CT(α:Type):=Addr->uD->Hp->List Addr->α
def jkn(wi:TI)(caps:List Nat)(tt:CT TT)(te:CT TE):TE:=fun σ H Q=>wi σ H fun J H1=>∀(C:Addr)(s:uD)(H0:Hp)(fp:List Addr)(acc:Addr),H1 acc=none->jue J caps (tt C s H0 fp) (te C s H0 fp) acc σ (upd H1 acc (.lst [])) Q
def jrf:TT:=fun _ H Q=>Q true H
def jrg(X:Cx)(ifs:List vT)(t:TT):Prop:=
 ∀(pins:List (Addr×Obj))(s:uD)(σ:L2.St)(H:Hp)(Q:Bool->Hp->Prop),Inv X pins σ H s->t σ H Q->
  uS (uU X.prog X.w) X.A (forIn ifs true fun c r=>if r=true then do let ok<-isTrue c X.env (wK c X.env);pure (eE ok) else pure (eE r)) (TP X pins σ Q) X.xe s
def qd9:jrg X [] jrf:=fun pins s σ H Q I h=>wpAny_tests_nil ⟨H,I,h⟩
def qej{c:vT}{t:TT}(h:PT X c t):jrg X [c] t:=fun pins s σ H Q I hw=>wpAny_tests_one (h pins s σ H Q I hw)
def cxC(X:Cx)(N:List Str)(scope:aL)(cl:List (Str×Addr))(C:Addr)(s:uD)(H:Hp)(fp:List Addr):Cx where
 prog:=X.prog
 w:=X.w
 K:=X.K
 mg:=X.mg
 base:=X.base
 A:=X.A
 N:=N
 s₀:=s
 H₀:=H
 env:=bZ scope cl C X.env
 outer:=X.stack
 stack:=X.stack
 ex:=fp
 fn:=fun _=>false
 calm:=X.calm
 pn:=[]
 xe:=fun _ _=>False
structure jrh(X:Cx)(x:Str)(scope:aL)(cl:List (Str×Addr))(caps:List Nat)(cn:List Str):Prop where
 clos:closureFor scope X.env=pure cl
 kind:scope.kind=.function
 cell:∀y∈scope.names,y.2≠ .cell
 names:∀y∈scope.names,y.2=.local->scope.names.lookup y.1=some .local
 tg:scope.names.lookup x=some .local
 sub:∀y c,cl.lookup y=some c->X.env.cells.lookup y=some c
 has:∀y,((gJ scope X.env).names.lookup y=some .cell\/(gJ scope X.env).names.lookup y=some .free)->∃c,cl.lookup y=some c
 len:caps.length=cn.length
 cap:∀(k:Nat)(y:Str)(j:Nat),cn[k]?=some y->caps[k]?=some j->X.N[j]?=some y/\X.env.kindOf y=some .cell/\(gJ scope X.env).names.lookup y=some .cell/\X.env.scope.names.lookup y=some .cell/\∃c,cl.lookup y=some c
 nd:(x::cn).Nodup
section
variable{X:Cx}{pins:List (Addr×Obj)}{σ:L2.St}{H:Hp}{s:uD}
def Inv.comp{x:Str}{scope:aL}{cl:List (Str×Addr)}{caps:List Nat}{cn:List Str}(Cp:jrh X x scope cl caps cn)(I:Inv X pins σ H s){fp:List Addr}(hf:∀b∈fp,jdo X pins H b)(hlt:∀b∈fp,b<↑s){h₁:vN}{t':Nat}
  (hns:h₁.Ns ↑s (fun _=>none))(k:∀b o,s.heap.get? b=some o->h₁.get? b=some o):
  Inv (cxC X (x::cn) scope cl ↑s s H fp) [] (none::qbz caps σ) H {s with heap:=h₁,toks:=t'}:=by
 have cne:∀y c,cl.lookup y=some c->∃v,s.heap.IsCell c v:=fun y c e=>I.cell y c (Cp.sub y c e);have ltC:∀y c,cl.lookup y=some c->c<↑s:=fun y c e=>let ⟨v,q⟩:=cne y c e;q.lt
 have isC:∀c v,s.heap.IsCell c v->h₁.IsCell c v:=fun c v ⟨o,e,d⟩=>⟨o,k c o e,d⟩;refine⟨⟨I.ok.mod,Cp.kind,I.ok.glob,I.ok.blt,uH _,fun y z c e1 e2=>I.ok.inj y z c (Cp.sub y c e1) (Cp.sub z c e2),fun y hy=>Cp.has y hy,fun y c z=>(uJ z).elim,I.ok.hd,I.ok.frames,.inl rfl,
  fun b hb=>⟨vC (hlt b hb),fun y c e z=>?_⟩,I.bs,vP I.ok.bsz I.sz,fun b o e hb=>?_,fun b hb z=>?_,I.stack,I.stkFree⟩,
  rfl,I.bare,Un.kept k,⟨_,hns,fun i y v e1 e2 e3=>?_⟩,fun y c e=>?_,I.hok.fresh (uH _),fun y c e=>I.freeC y c (Cp.sub y c e),fun p hp=>absurd (show p∈([]:List (Addr×Obj)) from hp) (by simp),I.hok.kept k,?_⟩
 .exact(hf b hb).2.2.2.2.1 y c (Cp.sub y c e) z
 .rcases(hf b hb).2.2.2.1 with z|z
  .exact I.ok.noex b o e z
  .exact absurd (vA (uN e) (vP I.ok.bsz z)) (wD _)
 .rcases zO.mp (I.stkSub b z) with z|z
  .exact(hf b hb).2.1 z
  .exact(hf b hb).2.2.1 z
 .cases i with
  |zero=>cases e2
  |succ i=>
   have e1':cn[i]?=some y:=by simpa[cxC] using e1
   have e2':(qbz caps σ)[i]?=some (some v):=by simpa using e2
   unfold qbz at e2';rw[zC] at e2';obtain⟨j,hj,ej⟩:=uY.mp e2';obtain⟨c1,c2,c3,c5,c,c4⟩:=Cp.cap i y j e1' hj
   cases hs:σ[j]? with
   |none=>rw[hs] at ej;cases ej
   |some w=>
    rw[hs] at ej;have ej':w=some v:=ej;subst ej';obtain⟨m,hn,hl⟩:=I.loc;obtain⟨u,r,l⟩:=hl j y v c1 hs (.inr (.inl c5));refine⟨u,r,.inr ⟨.inl c3,c,c4,?_⟩⟩;rcases l with⟨l,_⟩|⟨_,c',e',q⟩
    .rw[c2] at l;cases l
    .rw[Cp.sub y c c4] at e'
     cases e'
     exact isC _ _ q
 .obtain⟨v,q⟩:=cne y c e;exact⟨v,isC c v q⟩
 .show(none::qbz caps σ).length=(x::cn).length;rw[zK,zK];unfold qbz;rw[zB,Cp.len]
def Inv.uncomp{N:List Str}{scope:aL}{cl:List (Str×Addr)}{C:Addr}{σ':L2.St}{H':Hp}{s':uD}{fp:List Addr}(I:Inv X pins σ H s)(hf:∀b∈fp,jdo X pins H b)(hC:C=↑s)
  (J:Inv (cxC X N scope cl C s H fp) [] σ' H' s'){h':vN}(sb:bB C s'.heap h'):Inv X pins σ H' {s' with heap:=h'}:=by
 have ne:∀b o,s.heap.get? b=some o->b≠C:=fun b o e=>by rw[hC];exact vC (uN e)
 have u:Un (frs X.stack) fp H H' s.heap s'.heap:=J.base;have hok:HOk X.prog X.w H' h':=fun b o e=>by
  refine(J.hok b o e).stay (fun c u' hc q=>(sb.2 c ?_).trans q) (fun _ q=>q) fun _ _ q=>q;intro z;have n:H' C=none:=J.free;rcases hc with hc|hc
  .rw[<-hc,z,n] at e;cases e
  .rw[z,n] at hc;cases hc
 refine I.call' (s':={s' with heap:=h'}) (ch:=fp) J.os ⟨fun b o e n hb hx=>(sb.2 b (ne b o e)).trans (u.keep b o e n hb hx),fun b o e n hb hx=>?_,u.free,fun b o e hx=>?_,u.tups,u.frzs,u.tbls⟩ hok J.bare fun b hb=>?_
 .obtain⟨sl,q⟩:=u.slot b o e n hb hx;exact⟨sl,(sb.2 b (ne b o e)).trans q⟩
 .obtain⟨o',q⟩:=u.there b o e hx;exact⟨o',(sb.2 b (ne b o e)).trans q⟩
 .obtain⟨f0,f1,f2,f3,f4,f5⟩:=hf b hb;exact⟨f3,f1,f4,f5⟩
end
section
variable{X:Cx}
def je4{elt iter:vT}{x:Str}{px:Pos}{ifs:List vT}{scope:aL}{cl:List (Str×Addr)}{pos:Pos}{caps:List Nat}{cn:List Str}{tt:CT TT}{te:CT TE}(Cp:jrh X x scope cl caps cn)(hc:X.calm=true)
  (ht:∀C s H fp,jrg (cxC X (x::cn) scope cl C s H fp) ifs (tt C s H fp)){pins:List (Addr×Obj)}{σ:L2.St}{Q:VK}{itv:uB}{s2:uD}{us:Option (uB->Sem Unit)}{P:uB->uD->Prop}
  (h2:PIE X pins σ (.Name x px) (fun J H1=>∀(C:Addr)(s:uD)(H0:Hp)(fp:List Addr)(acc:Addr),H1 acc=none->jue J caps (tt C s H0 fp) (te C s H0 fp) acc σ (upd H1 acc (.lst [])) Q) itv s2)
  (he:∀(acc:Addr)(s3:uD)(H3:Hp)(fp:List Addr),Inv X pins σ H3 s3->(∀b∈fp,jdo X pins H3 b)->∀(pn:List (Addr×Obj))(s9:uD)(τ:L2.St)(H9:Hp)(R:VK),Inv (cxC X (x::cn) scope cl ↑s3 s3 H3 fp) pn τ H9 s9->te ↑s3 s3 H3 fp τ H9 R->
   uS (uU X.prog X.w) X.A (wK elt (bZ scope cl ↑s3 X.env)) (EP (cxC X (x::cn) scope cl ↑s3 s3 H3 fp) pn τ R) (notedBy (uU X.prog X.w) X.A (bZ scope cl ↑s3 X.env) fun e s'=>compPost (uU X.prog X.w) X.A X.xe us P (.ref acc) ↑s3 (.error e) s') s9)
  (hd:∀(acc:Addr)(s3:uD)(H3:Hp)(fp:List Addr),Inv X pins σ H3 s3->(∀b∈fp,jdo X pins H3 b)->∀(τ:L2.St)(H5:Hp)(s6:uD)(v:Flow),Inv (cxC X (x::cn) scope cl ↑s3 s3 H3 fp) [] τ H5 s6->Q (.ref acc) H5->compPost (uU X.prog X.w) X.A X.xe us P (.ref acc) ↑s3 (.ok v) s6):
  uS (uU X.prog X.w) X.A (newList []) (fun acc s3=>uS (uU X.prog X.w) X.A (newFunctionEnv scope X.env.globals cl [] X.env.qual none .none (some X.env)) (fun ce s4=>
   cG (uU X.prog X.w) X.A (.compStart (.ListComp elt [⟨.Name x px,iter,ifs,0⟩] scope pos) 0 itv acc {ce with scope:=gJ scope X.env}) (compPost (uU X.prog X.w) X.A X.xe us P acc ce.locals) s4) X.xe s3) X.xe s2:=by
 obtain⟨it,fp,tn,J,H2,e,I2,T,st2,f2,R⟩:=h2;subst e;have hacc:H2 ↑s2=none:=I2.hok.fresh (uH _);refine vX ?_;have I3:Inv X pins σ (upd H2 ↑s2 (.lst [])) {s2 with heap:=s2.heap.push {cls:=.type "list",dict:=none,data:=.seq ([]:List uB).toArray}}:=Inv.lnew (its:=[]) (t':=s2.toks) I2 .nil (wI _);have lt2:∀b∈fp,b<↑s2:=fun b hb=>let ⟨o,e,_⟩:=T.obj _ _ st2 b hb;uN e
 have f3:∀b∈fp,jdo X pins (upd H2 ↑s2 (.lst [])) b:=fun b hb=>⟨by rw[qa7 (vC (lt2 b hb))];exact(f2 b hb).1,(f2 b hb).2⟩;have st3:tn 0 (s2.heap.push {cls:=.type "list",dict:=none,data:=.seq ([]:List uB).toArray}):=T.keep _ _ _ st2 fun b _ o e=>uE _ e;generalize hs3:({s2 with heap:=s2.heap.push {cls:=.type "list",dict:=none,data:=.seq ([]:List uB).toArray}}:uD)=s3 at I3⊢;have st3':tn 0 s3.heap:=by rw[<-hs3];exact st3
 generalize ↑s2=acc at hacc I3 f3⊢;obtain⟨W,⟨m0,w0⟩,turn⟩:=R ↑s3 s3 (upd H2 acc (.lst [])) fp acc hacc;have lt3:∀b∈fp,b<↑s3:=fun b hb=>let ⟨o,e,_⟩:=T.obj _ _ st3' b hb;uN e
 clear st3 hs3;refine wpAny_newFunctionEnv Cp.cell (by intro y hy;simp at hy) (fun h₁ hns hsb=>?_) Cp.kind;have k1:∀b o,s3.heap.get? b=some o->h₁.get? b=some o:=fun b o e=>hsb.extBut b o (vC (uN e)) (uE _ e);have I4:Inv (cxC X (x::cn) scope cl ↑s3 s3 (upd H2 acc (.lst [])) fp) [] (none::qbz caps σ) (upd H2 acc (.lst [])) {s3 with heap:=h₁,toks:=s3.toks+([]:List (Str×uB)).length}:=
  Inv.comp Cp I3 f3 lt3 hns k1
 have st4:tn 0 h₁:=T.keep _ _ _ st3' fun b _ o e=>k1 b o e;generalize hX:cxC X (x::cn) scope cl ↑s3 s3 (upd H2 acc (.lst [])) fp=X' at I4;have stat:∀{H':Hp},(∀b∈fp,H' b=none)->∀b∈fp,jdo X' [] H' b:=fun hn b hb=>by
  subst hX;obtain⟨g0,g1,g2,g3,g4,g5⟩:=f3 b hb;refine⟨hn b hb,vC (lt3 b hb),fun z=>?_,.inl hb,fun y c e=>g4 y c (Cp.sub y c e),fun p hp=>absurd (show p∈([]:List (Addr×Obj)) from hp) (by simp)⟩;rcases zO.mp (I3.stkSub b z) with z|z
  .exact g1 z
  .exact g2 z
 have core:cG (uU X.prog X.w) X.A (.compLoop (.ListComp elt [⟨.Name x px,iter,ifs,0⟩] scope pos) 0 (.ref it) (.ref acc) (bZ scope cl ↑s3 X.env))
   (compPost (uU X.prog X.w) X.A X.xe us P (.ref acc) ↑s3) {s3 with heap:=h₁,toks:=s3.toks+([]:List (Str×uB)).length}:=by
  refine codeAny_loop rfl (fun n s'=>∃i a H',Inv X' [] (a::qbz caps σ) H' s'/\tn i s'.heap/\(∀b∈fp,H' b=none)/\W i n H') (fun n s5 hI=>?_) m0 ⟨0,none,_,I4,st4,fun b hb=>(f3 b hb).1,w0⟩;obtain⟨i,a0,H5,I5,st5,fr5,w5⟩:=hI;show uS _ _ ((compTurn _ 0 _ _ _).onRaise _) _ _ s5;refine wpAny_noted ?_;rw[compTurn_list];refine uC (aN (uC ?_));have aX:X'.A=X.A:=by subst hX;rfl
  have pX:X'.prog=X.prog:=by subst hX;rfl
  have wX:X'.w=X.w:=by subst hX;rfl
  have kX:X'.K=X.K:=by subst hX;rfl
  have cX:X'.calm=true:=by subst hX;exact hc
  have eX:X'.env=bZ scope cl ↑s3 X.env:=by subst hX;rfl
  rcases turn i n H5 w5 with⟨stop,qn⟩|⟨go,N,hN,step⟩
  .have z:=T.done X' pX wX kX cX i [] s5 _ H5 (fun _ _=>False) I5 (stat fr5) st5 stop;rw[aX] at z;refine vS z (fun r s6 ⟨hr,I6⟩=>?_) fun _ _ q=>q.elim;subst hr;subst hX;exact uF (hd acc s3 _ fp I3 f3 _ H5 s6 _ I6 qn)
  .have z:=T.item X' pX wX kX cX i [] s5 _ H5 (fun _ _=>False) I5 (stat fr5) st5 go;rw[aX] at z;refine vS z (fun r s6 ⟨u,hr,h6⟩=>?_) fun _ _ q=>q.elim;subst hr;refine uC (vS h6 (fun _ s7 ⟨v,H7,I7,r7,y7,st7,fr7⟩=>?_) fun _ _ q=>q.elim);have I7':=I7.pinned (stat fr7) (T.obj _ _ st7);have asg:uS (uU X.prog X.w) X.A (assign (.Name x px) (bZ scope cl ↑s3 X.env) u) (fun _ s8=>Inv X' ([]++qdx fp s7.heap) (some v::qbz caps σ) H7 s8) (fun _ _=>False) s7:=by
    subst hX;exact gA (qg3 (X:=cxC X (x::cn) scope cl ↑s3 s3 (upd H2 acc (.lst [])) fp) (i:=0) I7' Cp.nd rfl (.inl (lookup_relabel_local Cp.tg)) r7 (fun s' I'=>I') (.inr (lookup_relabel_local Cp.tg)))
   refine uC (vS asg (fun _ s8 I8=>?_) fun _ _ q=>q.elim);have tst:uS (uU X.prog X.w) X.A (forIn ifs true fun c r=>if r=true then do let ok<-isTrue c (bZ scope cl ↑s3 X.env) (wK c (bZ scope cl ↑s3 X.env));pure (eE ok) else pure (eE r))
     (TP X' ([]++qdx fp s7.heap) (some v::qbz caps σ) (fun b H9=>if b=true then te ↑s3 s3 (upd H2 acc (.lst [])) fp (some v::qbz caps σ) H9 (fun y H3=>jre acc N y H3) else N H9)) (fun _ _=>False) s8:=by
    subst hX;exact ht _ _ _ _ _ s8 _ H7 _ I8 (step v H7 y7)
   refine uC (vS tst (fun b s9 ⟨H9,I9,q9⟩=>?_) fun _ _ q=>q.elim);have fin:∀{a:Option V} {H10:Hp} {s10:uD},Inv X' ([]++qdx fp s7.heap) (a::qbz caps σ) H10 s10->N H10->∃m',m'<n/\∃i a H',Inv X' [] (a::qbz caps σ) H' s10/\tn i s10.heap/\(∀b∈fp,H' b=none)/\W i m' H':=fun {a H10 s10} I10 n10=>
    let ⟨m',hm,w10⟩:=hN _ n10
    ⟨m',hm,i+1,a,H10,I10.unpinned,T.keep _ _ _ st7 fun b hb o e=>(I10.pin (b,o) (zX _ (zX _ (qdh hb e)))).1,fun b hb=>by
     obtain⟨o,e,d⟩:=T.obj _ _ st7 b hb;exact(I10.pin (b,o) (zX _ (zX _ (qdh hb e)))).2.1,w10⟩
   cases b with
   |false=>exact uF ⟨rfl,fin I9 q9⟩
   |true=>
    have elt':uS (uU X.prog X.w) X.A (wK elt (bZ scope cl ↑s3 X.env)) (EP X' ([]++qdx fp s7.heap) (some v::qbz caps σ) (fun y H3=>jre acc N y H3)) (notedBy (uU X.prog X.w) X.A (bZ scope cl ↑s3 X.env) fun e s'=>compPost (uU X.prog X.w) X.A X.xe us P (.ref acc) ↑s3 (.error e) s') s9:=by
     subst hX;exact he acc s3 _ fp I3 f3 _ s9 _ H9 _ I9 q9
    refine uC (uC (vS elt' (fun y s10 ⟨w,H10,I10,r10,ys,ha,hz,q10⟩=>?_) fun _ _ q=>q));have app:uS (uU X.prog X.w) X.A (call (.builtin "list.append") [.ref acc,y]) (EP X' ([]++qdx fp s7.heap) (some v::qbz caps σ) fun _ H11=>H11=upd H10 acc (.lst (ys++[w]))) (fun _ _=>False) s10:=by
     subst hX;exact qbi (X:=cxC X (x::cn) scope cl ↑s3 s3 (upd H2 acc (.lst [])) fp) _ s10 _ H10 (.ref acc) [w] (.ref acc) [y] _ I10 rfl (.cons r10 .nil) ⟨acc,ys,w,rfl,rfl,ha,hz,rfl⟩
    refine uC (vS app (fun _ s11 ⟨_,H11,I11,_,e11⟩=>?_) fun _ _ q=>q.elim);subst e11;exact uF (uF ⟨rfl,fin I11 q10⟩)
 exact codeAny_compStart_list core (T.self _ 0 _ _ _ st4 core)
def qc2{elt iter:vT}{x:Str}{px:Pos}{ifs:List vT}{scope:aL}{cl:List (Str×Addr)}{pos:Pos}{caps:List Nat}{cn:List Str}{wi:TI}{tt:CT TT}{te:CT TE}(Cp:jrh X x scope cl caps cn)(hc:X.calm=true)
  (hi:PI X (.Name x px) iter wi)(ht:∀C s H fp,jrg (cxC X (x::cn) scope cl C s H fp) ifs (tt C s H fp))(he:∀C s H fp,PE (cxC X (x::cn) scope cl C s H fp) elt (te C s H fp))
  (hs:∀x,gB iter X.env x=pure x:=by intro _;rfl):
  PE X (.ListComp elt [⟨.Name x px,iter,ifs,0⟩] scope pos) (jkn wi caps tt te):=by
 intro pins s σ H Q I h;rw[eval_ListComp];refine wpAny_comprehension_free (use:=none) rfl hs Cp.clos Cp.kind Cp.names (thn (hi pins s σ H _ I h) fun v s1 h1=>thn h1 fun itv s2 h2=>je4 Cp hc ht h2 (fun acc s3 H3 fp I3 f3 pn s9 τ H9 R I9 q9=>vS (he _ _ _ _ pn s9 τ H9 R I9 q9) (fun _ _ q=>q) fun _ _ q=>q.elim) fun acc s3 H3 fp I3 f3 τ H5 s6 v I6 q=>?_);obtain⟨m,hm,_⟩:=id I6.loc;exact⟨m,hm,fun h' sb=>⟨.ref acc,H5,Inv.uncomp I3 f3 rfl I6 sb,rfl,q⟩⟩
def Its(x:Str):It:=⟨fun i _=>i<x.cps.size,fun i H v H'=>H'=H/\∃c,x.cps[i]?=some c/\v=.str ⟨#[c]⟩,fun i _=>i=x.cps.size⟩
def je5{P:uX}{w:vG}{K:uT}{y:Str}{py:Pos}(x:Str)(t:Tok)(it:Addr)(ty:String)(W:∀A:vI,A.handled=none->Walks P w A it [it] [it] x.cps.size (SignAt x) (fun i h=>h.IsStrIter it ty x t i))
  (hself:∀(A:vI)(i:Nat)(s:uD)(Q:uB->uD->Prop)(E:uB->uD->Prop),s.heap.IsStrIter it ty x t i->Q (.ref it) s->uS (uU P w) A (pyIter (.ref it)) Q E s):
  jl3 P w K (.Name y py) (Its x) [it] it (fun i h=>h.IsStrIter it ty x t i) where
 mem:=by simp
 obj:=fun i h st b hb=>by
  have e:b=it:=by simpa using hb
  subst e;obtain⟨o,e,c,d⟩:=st;exact⟨o,e,fun v z=>by rw[d] at z;cases z⟩
 keep:=fun i h h' ⟨o,e,r⟩ k=>⟨o,k it (by simp) o e,r⟩
 item:=by
  intro X hP hw hK hc i pins s σ H E I hf st hg;subst hP hw hK;obtain⟨f0,f1,f2,f3,f4,f5⟩:=hf it (by simp);refine(W X.A (I.ok.hd hc)).item i s _ _ hg st fun v h' tk hv st' k=>?_;have I1:Inv X pins σ H {s with heap:=h',toks:=tk}:=I.turned (t':=tk) (fun b o hb e=>k b o (fun z=>hb (by simpa using z)) e) f0 f1 f3 f4 f5;obtain⟨c,u,hx,rfl⟩:=hv;exact⟨_,rfl,uF ⟨.str ⟨#[c]⟩,H,I1,⟨_,rfl⟩,⟨rfl,c,hx,rfl⟩,st',fun b hb=>(hf b hb).1⟩⟩
 done:=by
  intro X hP hw hK hc i pins s σ H E I hf st hg;subst hP hw hK;have hg':i=x.cps.size:=hg;subst hg';obtain⟨f0,f1,f2,f3,f4,f5⟩:=hf it (by simp);exact(W X.A (I.ok.hd hc)).done s _ _ st fun h' tk k=>⟨rfl,I.turned (t':=tk) (fun b o hb e=>k b o (fun z=>hb (by simpa using z)) e) f0 f1 f3 f4 f5⟩
 self:=hself
def jvc(v:V)(H:Hp)(R:It->Hp->Prop):Prop:=∃x,v=.str x/\R (Its x) H
def jxg(tl:TE):TI:=fun σ H R=>tl σ H fun v H1=>jvc v H1 R
end
end My
namespace L2
open PySem PySem.Spec PyProof.Rows
variable{o:Option V}{P:uX}{w:vG}{H:Hp}{a:Addr}
section
variable{κ:Type}[DecidableEq κ]
def qbx(kvs:List (κ×V))(k:κ):Option V:=(kvs.find? fun kv=>decide (kv.1=k)).map (·.2)
def qcp(kvs:List (κ×V))(k:κ)(v:V):List (κ×V):=
 if(kvs.any fun kv=>decide (kv.1=k))=true then kvs.map (fun kv=>if kv.1=k then(kv.1,v) else kv) else kvs++[(k,v)]
def qd2(kvs:List (κ×V))(k:κ):List (κ×V):=kvs.filter fun kv=>decide (kv.1≠k)
def qbk{p:κ×V}{r:List (κ×V)}{k:κ}(e:p.1=k):qbx (p::r) k=some p.2:=by simp[qbx,yJ,e]
def qbf{p:κ×V}{r:List (κ×V)}{k:κ}(e:¬p.1=k):qbx (p::r) k=qbx r k:=by simp[qbx,yJ,e]
theorem qcd(k:κ):∀kvs:List (κ×V),(kvs.any fun kv=>decide (kv.1=k))=(qbx kvs k).isSome
 | []=>rfl
 |p::r=>by
  rw[yV];by_cases e:p.1=k
  .simp only[qbk e,iC e,gK,Option.isSome_some]
  .rw[qbf e,iD e,Bool.false_or];exact qcd k r
theorem je6(k j:κ)(y:V):∀kvs:List (κ×V),qbx (kvs.map fun kv=>if kv.1=k then(kv.1,y) else kv) j=(qbx kvs j).map fun x=>if j=k then y else x
 | []=>rfl
 |p::r=>by
  have ih:=je6 k j y r;rw[zT];by_cases h:p.1=k
  .rw[iB h];by_cases e:p.1=j
   .rw[qbk (p:=(p.1,y)) e,qbk e,eF,iB (e.symm.trans h)]
   .rw[qbf (p:=(p.1,y)) e,qbf e,ih]
  .rw[iA h];by_cases e:p.1=j
   .rw[qbk (p:=p) e,qbk e,eF,iA (fun z=>h (e.trans z))]
   .rw[qbf (p:=p) e,qbf e,ih]
theorem jct(k j:κ)(y:V):∀kvs:List (κ×V),qbx kvs k=none->qbx (kvs++[(k,y)]) j=if j=k then some y else qbx kvs j
 | [],_=>by
  by_cases e:k=j
  .rw[iB e.symm];exact qbk (p:=(k,y)) e
  .rw[iA (fun z=>e z.symm)];exact qbf (p:=(k,y)) e
 |p::r,hn=>by
  rw[List.cons_append];have hk:¬p.1=k:=fun z=>by rw[qbk z] at hn;cases hn
  rw[qbf hk] at hn;have ih:=jct k j y r hn;by_cases e:p.1=j
  .rw[qbk e,qbk e,iA (fun z=>hk (e.trans z))]
  .rw[qbf e,qbf e,ih]
def jko(kvs:List (κ×V))(k j:κ)(y:V):qbx (qcp kvs k y) j=if j=k then some y else qbx kvs j:=by
 unfold qcp;by_cases a:(kvs.any fun kv=>decide (kv.1=k))=true
 .rw[iB a,je6];rw[qcd] at a;by_cases e:j=k
  .obtain⟨x,hx⟩:=dC.mp a;rw[iB e,e,hx,eF,iB rfl]
  .rw[iA e]
   cases qbx kvs j with
   |none=>rfl
   |some x=>rw[eF,iA e]
 .rw[iA a];refine jct k j y kvs ?_;rw[qcd] at a
  cases q:qbx kvs k with
  |none=>rfl
  |some x=>rw[q] at a;exact(a rfl).elim
def qbd(kvs:List (κ×V))(k:κ)(v:V):(qcp kvs k v).length<=kvs.length+1:=by
 unfold qcp
 split
 .rw[zB];omega
 .rw[zF,zK,yS];omega
def qeq{kvs:List (κ×V)}{k:κ}(v:V)(h:qbx kvs k=none):qcp kvs k v=kvs++[(k,v)]:=by
 unfold qcp;rw[qcd,h];exact iA ∅
def qfp.isSome_eq{u:Option uB}(r:qfp o u):o.isSome=u.isSome:=by
 cases o with
 |none=>cases u with
  |none=>rfl
  |some _=>exact(show False from r).elim
 |some _=>cases u with
  |none=>exact(show False from r).elim
  |some _=>rfl
theorem qfp.getD{u:Option uB}{d:V}{d':uB}(r:qfp o u)(rd:qb8 d d'):qb8 (o.getD d) (u.getD d'):=by
 cases o with
 |none=>cases u with
  |none=>exact rd
  |some _=>exact(show False from r).elim
 |some _=>cases u with
  |none=>exact(show False from r).elim
  |some _=>exact r
def KV.val{kvs:List (κ×V)}{vs:List (κ×uB)}(r:KV kvs vs)(k:κ):qfp (qbx kvs k) (cH vs k):=by
 unfold KV at r
 induction r with
 |nil=>exact wM
 | @cons p q ps qs h t ih=>
  obtain⟨h1,h2⟩:=h;by_cases e:p.1=k
  .have e':q.1=k:=h1.symm.trans e;have b:cH (q::qs) k=some q.2:=by simp[cH,yJ,e']
   rw[qbk e,b];exact h2
  .have e':¬q.1=k:=fun z=>e (h1.trans z);have b:cH (q::qs) k=cH qs k:=by simp[cH,yJ,e']
   rw[qbf e,b];exact ih
theorem KV.any{kvs:List (κ×V)}{vs:List (κ×uB)}(r:KV kvs vs)(k:κ):(kvs.any fun kv=>decide (kv.1=k))=vs.any fun kv=>decide (kv.1=k):=by
 unfold KV at r
 induction r with
 |nil=>rfl
 |cons h t ih=>rw[yV,yV,ih,h.1]
def KV.repl{kvs:List (κ×V)}{vs:List (κ×uB)}(r:KV kvs vs)(k:κ){y:V}{u:uB}(ry:qb8 y u):
  KV (kvs.map fun kv=>if kv.1=k then(kv.1,y) else kv) (vs.map fun kv=>if kv.1=k then(kv.1,u) else kv):=by
 unfold KV at r⊢
 induction r with
 |nil=>exact .nil
 | @cons p q ps qs h t ih=>
  rw[zT,zT];refine .cons ?_ ih;obtain⟨h1,h2⟩:=h;by_cases e:p.1=k
  .rw[iB e,iB (h1.symm.trans e)];exact⟨h1,ry⟩
  .rw[iA e,iA (fun z=>e (h1.trans z))];exact⟨h1,h2⟩
def KV.put{kvs:List (κ×V)}{vs:List (κ×uB)}(r:KV kvs vs)(k:κ){y:V}{u:uB}(ry:qb8 y u):KV (qcp kvs k y) (stored vs k u):=by
 unfold qcp stored;rw[r.any k];by_cases e:(vs.any fun kv=>decide (kv.1=k))=true
 .rw[iB e,iB e];exact r.repl k ry
 .rw[iA e,iA e];exact Paired.snoc r ⟨rfl,ry⟩
def KV.drop{kvs:List (κ×V)}{vs:List (κ×uB)}(r:KV kvs vs)(k:κ):KV (qd2 kvs k) (without vs k):=by
 unfold KV at r⊢;unfold qd2 without
 induction r with
 |nil=>exact .nil
 | @cons p q ps qs h t ih=>
  obtain⟨h1,h2⟩:=h;rw[zY,zY];by_cases e:p.1=k
  .have a:¬decide (p.1≠k)=true:=by simp[e]
   have b:¬decide (q.1≠k)=true:=by simp[h1.symm.trans e]
   rw[iA a,iA b];exact ih
  .have e':¬q.1=k:=fun z=>e (h1.trans z);have a:decide (p.1≠k)=true:=by simp[e]
   have b:decide (q.1≠k)=true:=by simp[e']
   rw[iB a,iB b];exact .cons ⟨h1,h2⟩ ih
def KV.keys{kvs:List (κ×V)}{vs:List (κ×uB)}(r:KV kvs vs):kvs.map (·.1)=vs.map (·.1):=by
 unfold KV at r
 induction r with
 |nil=>rfl
 |cons h t ih=>rw[zT,zT,ih,h.1]
theorem KV.length{kvs:List (κ×V)}{vs:List (κ×uB)}(r:KV kvs vs):kvs.length=vs.length:=Paired.length r
def qgl(kvs:List (κ×V))(k:κ):(qd2 kvs k).length<=kvs.length:=zU _ _
end
def qfo{k:Key}{u:uB}(r:qb8 (kV k) u):(qb4 P w).is k u=true:=by
 cases k with
 |inl i=>obtain⟨t,e⟩:=(show ∃t,u=wZ i t from r);subst e;exact jdr P w i t
 |inr x=>obtain⟨t,e⟩:=(show ∃t,u=cK x t from r);subst e;exact jds P w x t
theorem jcu{P:uX}{w:vG}:∀{ks:List Key} {us:List uB},qba (ks.map kV) us->ItemsAre (qb4 P w) ks us
 | [],_,r=>by rw[gF] at r;cases r;exact .nil
 |k::ks,_,r=>by
  rw[zT] at r
  cases r with
  |cons h t=>exact .cons (qfo h) (jcu t)
abbrev KT(H:Hp):List (List Key×V)->List (List Key×Addr×uB)->Prop:=Paired fun p q=>p.1=q.1/\H q.2.1=some (.tup (p.1.map kV))/\qb8 p.2 q.2.2
def KT.val{kvs:List (List Key×V)}{xs:List (List Key×Addr×uB)}(r:KT H kvs xs)(k:List Key):qfp (qbx kvs k) ((atKey xs k).map (·.2)):=by
 induction r with
 |nil=>exact wM
 | @cons p q ps qs h t ih=>
  obtain⟨h1,_,h2⟩:=h;by_cases e:p.1=k
  .have e':q.1=k:=h1.symm.trans e;have b:atKey (q::qs) k=some q.2:=by simp[atKey,yJ,e']
   rw[qbk e,b];exact h2
  .have e':¬q.1=k:=fun z=>e (h1.trans z);have b:atKey (q::qs) k=atKey qs k:=by simp[atKey,yJ,e']
   rw[qbf e,b];exact ih
def KT.repl{H:Hp}{kvs:List (List Key×V)}{xs:List (List Key×Addr×uB)}(r:KT H kvs xs)(k:List Key){y:V}{u:uB}(ry:qb8 y u):
  KT H (kvs.map fun kv=>if kv.1=k then(kv.1,y) else kv) (xs.map (putAt k u)):=by
 induction r with
 |nil=>exact .nil
 | @cons p q ps qs h t ih=>
  rw[zT,zT];refine .cons ?_ ih;obtain⟨h1,h2,h3⟩:=h;unfold putAt;by_cases e:p.1=k
  .rw[iB e,iB (h1.symm.trans e)];exact⟨h1,h2,ry⟩
  .rw[iA e,iA (fun z=>e (h1.trans z))];exact⟨h1,h2,h3⟩
def KT.put{H:Hp}{kvs:List (List Key×V)}{xs:List (List Key×Addr×uB)}(r:KT H kvs xs)(k:List Key){b:Addr}{y:V}{u:uB}(hb:H b=some (.tup (k.map kV)))(ry:qb8 y u):
  KT H (qcp kvs k y) (storedH xs k b u):=by
 have e:(kvs.any fun kv=>decide (kv.1=k))=(atKey xs k).isSome:=by
  rw[qcd,(r.val k).isSome_eq,bF]
 unfold qcp storedH;rw[e];by_cases q:(atKey xs k).isSome=true
 .rw[iB q,iB q];exact r.repl k ry
 .rw[iA q,iA q];exact Paired.snoc r ⟨rfl,hb,ry⟩
def KT.keeps{H':Hp}{kvs:List (List Key×V)}{xs:List (List Key×Addr×uB)}(r:KT H kvs xs)(ht:∀b ys,H b=some (.tup ys)->H' b=some (.tup ys)):KT H' kvs xs:=
 Paired.mapP r fun _ _ z=>⟨z.1,ht _ _ z.2.1,z.2.2⟩
section
variable{P:uX}{w:vG}{H:Hp}{h:vN}{a:Addr}
def jri{u:HO}(ok:HOk P w H h)(e:Rd H a u):qbj P w H h a u:=e.ok ok
def qfd{kvs:List (Key×V)}(ok:HOk P w H h)(e:Rd H a (.dK kvs)):kvs.length<=sizeLine/\(a==wQ)=false/\∃vs,KV kvs vs/\h.DictOf (qb4 P w) a vs:=
 show qbj P w H h a (.dK kvs) from jri ok e
def jht{kvs:List (Key×V)}(ok:HOk P w H h)(e:H a=some (.dK kvs)):kvs.length<=sizeLine/\(a==wQ)=false/\∃vs,KV kvs vs/\h.DictOf (qb4 P w) a vs:=qfd ok (.inl e)
def qfw{ks:List Key}(ok:HOk P w H h)(e:H a=some (.tup (ks.map kV))):(cL (qb4 P w)).is h ks a:=by
 obtain⟨_,its,r,o,h1,h2,n,h3⟩:=(show qbj P w H h a (.tup (ks.map kV)) from ok a _ e);exact⟨o,its.toArray,n,h1,h2,h3,by simpa using jcu r⟩
def jd1{kvs:List (List Key×V)}(ok:HOk P w H h)(e:Rd H a (.dT kvs)):kvs.length<=sizeLine/\(a==wQ)=false/\
  ∃xs,KT H kvs xs/\h.DictOfH (cL (qb4 P w)) a xs:=by
 obtain⟨z,y,xs,r,o,es,ep,h1,h2,h3,h4,h5⟩:=(show qbj P w H h a (.dT kvs) from jri ok e);refine⟨z,y,xs,r,o,es,ep,h1,h2,h3,h4,fun x hx=>?_,h5⟩;have all:∀{l:List (List Key×V)} {m:List (List Key×Addr×uB)},KT H l m->∀x∈m,(cL (qb4 P w)).is h x.1 x.2.1:=by
  intro l m q
  induction q with
  |nil=>intro x hx;exact nomatch hx
  | @cons p q ps qs hq t ih=>
   intro x hx;rcases zO.mp hx with e|hx
   .subst e;exact qfw ok (by rw[<-hq.1];exact hq.2.1)
   .exact ih x hx
 exact all r x hx
def jvd{kvs:List (List Key×V)}(ok:HOk P w H h)(e:H a=some (.dT kvs)):kvs.length<=sizeLine/\(a==wQ)=false/\
  ∃xs,KT H kvs xs/\h.DictOfH (cL (qb4 P w)) a xs:=jd1 ok (.inl e)
end
def jb6(H:Hp)(a:Addr)(y:V)(r:Option V):Prop:=
 (∃kvs k,Rd H a (.dK kvs)/\y=kV k/\r=qbx kvs k)\/∃kvs k b,Rd H a (.dT kvs)/\y=.ref b/\H b=some (.tup (k.map kV))/\r=qbx kvs k
def jgq(H:Hp)(a:Addr)(y v:V)(H':Hp):Prop:=
 (∃kvs k,H a=some (.dK kvs)/\y=kV k/\kvs.length<sizeLine/\H'=upd H a (.dK (qcp kvs k v)))\/
 ∃kvs k b,H a=some (.dT kvs)/\y=.ref b/\H b=some (.tup (k.map kV))/\kvs.length<sizeLine/\H'=upd H a (.dT (qcp kvs k v))
theorem jb6.k{kvs:List (Key×V)}{k:Key}(e:H a=some (.dK kvs)):jb6 H a (kV k) (qbx kvs k):=.inl ⟨kvs,k,.inl e,rfl,rfl⟩
theorem jgq.k{kvs:List (Key×V)}{k:Key}{v:V}(e:H a=some (.dK kvs))(hl:kvs.length<sizeLine):jgq H a (kV k) v (upd H a (.dK (qcp kvs k v))):=.inl ⟨kvs,k,e,rfl,hl,rfl⟩
def jgq.t{H:Hp}{a b:Addr}{kvs:List (List Key×V)}{k:List Key}{v:V}(e:H a=some (.dT kvs))(eb:H b=some (.tup (k.map kV)))(hl:kvs.length<sizeLine):
  jgq H a (.ref b) v (upd H a (.dT (qcp kvs k v))):=.inr ⟨kvs,k,b,e,rfl,eb,hl,rfl⟩
section
variable{X:Cx}{pins:List (Addr×Obj)}{σ:St}{H:Hp}{s:uD}{a:Addr}{y v:V}{u r:uB}{o:Option V}{A:vI}{E:uB->uD->Prop}
def Inv.big(I:Inv X pins σ H s):wQ<↑s:=by
 have h:uR<↑s:=(I.mod.glob.keeps I.bk).lt;exact gL ∅ h
def jcv{Q:uB->uD->Prop}(hu:A.units+1<cLine)(I:Inv X pins σ H s)(g:jb6 H a y (some v))(ry:qb8 y u)(h:∀w' s',Inv X pins σ H s'->qb8 v w'->Q w' s'):
  uS (uU X.prog X.w) A (fB (.ref a) u) Q E s:=by
 rcases g with⟨kvs,k,e,ey,l⟩|⟨kvs,k,b,e,ey,eb,l⟩
 .subst ey;obtain⟨z,hd,vs,rel,dd⟩:=qfd I.hok e;obtain⟨w',hw,rw'⟩:=qfp.some_of (v:=v) (o:=cH vs k) (by rw[l];exact rel.val k);exact wpAny_getItem_of (qfo ry) dd.mapOf hw (h w' _ (I.tok _) rw')
 .subst ey
  cases(show u=uP b from ry)
  obtain⟨z,hd,xs,rel,dd⟩:=jd1 I.hok e;obtain⟨w',hw,rw'⟩:=qfp.some_of (v:=v) (o:=(atKey xs k).map (·.2)) (by rw[l];exact rel.val k);obtain⟨p,hp,hp2⟩:=uY.mp hw;refine wpAny_getItem_heap (aS hu) (qfw I.hok eb) dd hp ?_;rw[hp2];exact h w' _ (I.tok _) rw'
def jyl{Q:uB->uD->Prop}(hu:A.units+1<cLine)(I:Inv X pins σ H s)(g:jb6 H a y o)(ry:qb8 y u)(h:∀s',Inv X pins σ H s'->Q (.bool o.isSome) s'):
  uS (uU X.prog X.w) A (wC .In u (.ref a)) Q E s:=by
 rcases g with⟨kvs,k,e,ey,l⟩|⟨kvs,k,b,e,ey,eb,l⟩
 .subst ey;obtain⟨z,hd,vs,rel,dd⟩:=qfd I.hok e;refine wpAny_in_of (qfo ry) hd dd.mapOf ?_;rw[<-(rel.val k).isSome_eq,<-l];exact h _ (I.tok _)
 .subst ey
  cases(show u=uP b from ry)
  obtain⟨z,hd,xs,rel,dd⟩:=jd1 I.hok e;refine wpAny_in_heap (aS hu) (qfw I.hok eb) hd dd ?_;have q:=(rel.val k).isSome_eq;rw[bF] at q;rw[<-q,<-l];exact h _ (I.tok _)
def jof{Q:uB->uD->Prop}(hu:A.units+1<cLine)(I:Inv X pins σ H s)(g:jb6 H a y o)(ry:qb8 y u)(h:∀s',Inv X pins σ H s'->Q (.bool (!o.isSome)) s'):
  uS (uU X.prog X.w) A (wC .NotIn u (.ref a)) Q E s:=by
 rcases g with⟨kvs,k,e,ey,l⟩|⟨kvs,k,b,e,ey,eb,l⟩
 .subst ey;obtain⟨z,hd,vs,rel,dd⟩:=qfd I.hok e;refine wpAny_notIn_of (qfo ry) hd dd.mapOf ?_;rw[<-(rel.val k).isSome_eq,<-l];exact h _ (I.tok _)
 .subst ey
  cases(show u=uP b from ry)
  obtain⟨z,hd,xs,rel,dd⟩:=jd1 I.hok e;refine wpAny_notIn_heap (aS hu) (qfw I.hok eb) hd dd ?_;have q:=(rel.val k).isSome_eq;rw[bF] at q;rw[<-q,<-l];exact h _ (I.tok _)
def qfe{h':vN}{t':Nat}{ob:HO}(I:Inv X pins σ H s)(mu:Mut (H a))(hs:bB a s.heap h')(he:∃q,h'.get? a=some q)(new:qbj X.prog X.w (upd H a ob) h' a ob):
  Inv X pins σ (upd H a ob) {s with heap:=h',toks:=t'}:=
 I.write (x:=a) (e:=a) mu (.inl rfl) (fun b q hb z=>(hs.2 b hb).trans z) he new
def jcw{P:uX}{w:vG}{H':Hp}{h':vN}{kvs:List (Key×V)}{vs:List (Key×uB)}(z:kvs.length<=sizeLine)(hd:(a==wQ)=false)(rel:KV kvs vs)(dd:h'.DictOf (qb4 P w) a vs):
  qbj P w H' h' a (.dK kvs):=⟨z,hd,vs,rel,dd⟩
def jcx{H':Hp}{Q:Unit->uD->Prop}(hu:A.units+1<cLine)(I:Inv X pins σ H s)(g:jgq H a y v H')(ry:qb8 y u)(rv:qb8 v r)(h:∀s',Inv X pins σ H' s'->Q () s'):
  uS (uU X.prog X.w) A (setItem (.ref a) u r) Q E s:=by
 rcases g with⟨kvs,k,e,ey,l,eH⟩|⟨kvs,k,b,e,ey,eb,l,eH⟩
 .subst ey eH;obtain⟨z,hd,vs,rel,dd⟩:=jht I.hok e;have hz:vs.length<=sizeLine:=by rw[<-rel.length];exact z
  have hl:(qcp kvs k v).length<=sizeLine:=by have:=qbd kvs k v;omega
  refine wpAny_setItem_pairs (hsz:=hz) (qfo ry) dd fun h' dd' hs=>h _ ?_;have he:∃q,h'.get? a=some q:=let ⟨q,_,_,hq,_⟩:=dd';⟨q,hq⟩
  exact qfe I (by rw[e];exact wM) hs he (jcw hl hd (rel.put k rv) dd')
 .subst ey eH
  cases(show u=uP b from ry)
  obtain⟨z,hd,xs,rel,dd⟩:=jvd I.hok e;have hz:xs.length<=sizeLine:=by rw[<-Paired.length rel];exact z
  have hl:(qcp kvs k v).length<=sizeLine:=by have:=qbd kvs k v;omega
  refine wpAny_setItem_heap (hsz:=hz) (aS hu) (qfw I.hok eb) dd fun h' dd' hs=>h _ ?_;obtain⟨q,es,ep,hq,h2,h3,h4,_,h5⟩:=dd';refine qfe I (by rw[e];exact wM) hs ⟨q,hq⟩ ⟨hl,hd,_,(rel.put k eb rv).keeps fun c ys ec=>?_,q,es,ep,hq,h2,h3,h4,h5⟩;rw[qa7 (jgu ec e (fun z=>nomatch z))];exact ec
end
section
variable{X:Cx}{pins:List (Addr×Obj)}{σ:St}{H:Hp}{s:uD}{a:Addr}{kvs:List (Key×V)}{k:Key}{u:uB}{A:vI}{E:uB->uD->Prop}
def jrj{Q:Unit->uD->Prop}(I:Inv X pins σ H s)(e:H a=some (.dK kvs))(ry:qb8 (kV k) u)(l:(qbx kvs k).isSome=true)(h:∀s',Inv X pins σ (upd H a (.dK (qd2 kvs k))) s'->Q () s'):
  uS (uU X.prog X.w) A (delItem (.ref a) u) Q E s:=by
 obtain⟨z,hd,vs,rel,dd⟩:=jht I.hok e;refine wpAny_delItem_slot dd.typeIs ∅ PySem.F.slot_dict_delitem
  (cI PySem.F.slot_dict_delitem dd.typeIs PySem.F.entry_dict_delitem (PySem.F.args_dict_delitem_2 _ _) (meets_dict_delitem_pairs (qb4 X.prog X.w) a (qfo ry)) ⟨vs,dd,by rw[<-rel.length];exact z,by rw[<-(rel.val k).isSome_eq];exact l,fun h' dd' hs=>h _ ?_⟩)
 have he:∃q,h'.get? a=some q:=let ⟨q,_,_,hq,_⟩:=dd';⟨q,hq⟩
 exact qfe I (by rw[e];exact wM) hs he (jcw (vP (qgl kvs k) z) hd (rel.drop k) dd')
def jve{v:V}{more:List uB}{Q:uB->uD->Prop}(I:Inv X pins σ H s)(e:H a=some (.dK kvs))(ry:qb8 (kV k) u)(l:qbx kvs k=some v)(hm:more=[]\/∃x,more=[x])
  (h:∀w' s',Inv X pins σ (upd H a (.dK (qd2 kvs k))) s'->qb8 v w'->Q w' s'):uS (uU X.prog X.w) A (call (.builtin "dict.pop") (.ref a::u::more)) Q E s:=by
 obtain⟨z,hd,vs,rel,dd⟩:=jht I.hok e;obtain⟨w',hw,rw'⟩:=qfp.some_of (v:=v) (o:=cH vs k) (by rw[<-l];exact rel.val k);have hp:(keyPart u).isSome=true:=by
  cases k with
  |inl i=>obtain⟨t,q⟩:=(show ∃t,u=wZ i t from ry);subst q;rfl
  |inr x=>obtain⟨t,q⟩:=(show ∃t,u=cK x t from ry);subst q;rfl
 have ha:argsOk "dict.pop" ⟨.ref a::u::more,[]⟩:=by
  rcases hm with q|⟨x,q⟩
  .subst q;exact PySem.F.args_dict_pop_2 _ _
  .subst q;exact PySem.F.args_dict_pop_3 _ _ _
 refine cI eI dd.typeIs PySem.F.entry_dict_pop ha (meets_dict_pop_there (qb4 X.prog X.w) a (qfo ry) more hm hp)
  ⟨vs,w',dd,by rw[<-rel.length];exact z,hw,fun h' dd' hs=>h w' _ ?_ rw'⟩
 have he:∃q,h'.get? a=some q:=let ⟨q,_,_,hq,_⟩:=dd';⟨q,hq⟩
 exact qfe I (by rw[e];exact wM) hs he (jcw (vP (qgl kvs k) z) hd (rel.drop k) dd')
def jrk{r:uB}{Q:uB->uD->Prop}(I:Inv X pins σ H s)(e:H a=some (.dK kvs))(ry:qb8 (kV k) u)(l:qbx kvs k=none)(h:∀s',Inv X pins σ H s'->Q r s'):
  uS (uU X.prog X.w) A (call (.builtin "dict.pop") [.ref a,u,r]) Q E s:=by
 obtain⟨z,hd,vs,rel,dd⟩:=jht I.hok e;have hn:cH vs k=none:=qfp.none_of (by rw[<-l];exact rel.val k);have hp:(keyPart u).isSome=true:=by
  cases k with
  |inl i=>obtain⟨t,q⟩:=(show ∃t,u=wZ i t from ry);subst q;rfl
  |inr x=>obtain⟨t,q⟩:=(show ∃t,u=cK x t from ry);subst q;rfl
 exact cI eI dd.typeIs PySem.F.entry_dict_pop (PySem.F.args_dict_pop_3 _ _ _) (meets_dict_pop_default (qb4 X.prog X.w) a (qfo ry) hd hp r) ⟨vs,dd,hn,h _ (I.tok _)⟩
def jvf{Q:uB->uD->Prop}(I:Inv X pins σ H s)(e:Rd H a (.dK kvs))(h:∀t s',Inv X pins σ H s'->Q (.int kvs.length t) s'):uS (uU X.prog X.w) A (call (.builtin "len") [.ref a]) Q E s:=by
 obtain⟨z,hd,vs,rel,dd⟩:=qfd I.hok e;refine call_len_dict hd dd (by rw[<-rel.length];rw[wJ] at z;omega) ?_;rw[<-rel.length];exact h _ _ (I.tok _)
end
def jxh(i:vT):Prop:=∀ov iv,subscripted i false ov iv=operate [ov,iv] (fB ov iv)
def jog{prog:uX}{w:vG}{A:vI}{E:uB->uD->Prop}{s:uD}{env:Env}{value slice:vT}{pos:Pos}{T id:String}{Q:uB->uD->Prop}
  (hl:typeLookup (.type T) "__getitem__"=pure (some (.builtin id)))(hs:jxh slice)
  (h:uS (uU prog w) A (wK value env) (fun o s₁=>uS (uU prog w) A (wK slice env) (fun i s₂=>s₂.TypeIs o T/\uS (uU prog w) A (fB o i) Q E s₂) E s₁) E s):
  uS (uU prog w) A (wK (.Subscript value slice pos) env) Q E s:=by
 refine Subscript_ (vS h (fun o s₁ h₁=>vS h₁ (fun i s₂ h₂=>?_) fun _ _ x=>x) fun _ _ x=>x);obtain⟨hT,h₂⟩:=h₂;unfold subscriptTail;refine uC ?_;rw[getitemInPython_of_ne hT.not_modules];refine uC (wpAny_specialOf hT hl ?_);have fin:uS (uU prog w) A (subscripted slice false o i) (fun r s₃=>uS (uU prog w) A (letTemporaryGo value o r >>= fun _=>pure r) Q E s₃) E s₂:=by
  rw[hs o i];exact wpAny_operating (vS h₂ (fun r s₃ h₃=>uC (wpAny_letTemporaryGo (uF h₃))) fun _ _ x=>x)
 first
  |exact uF (uC fin)
  |exact uC (uF (uC fin))
  |exact uC fin
def jd2{X:Cx}{pins:List (Addr×Obj)}{σ:St}{s:uD}{y:V}(I:Inv X pins σ H s)(g:jb6 H a y o):s.TypeIs (.ref a) "dict":=by
 rcases g with⟨kvs,k,e,_,_⟩|⟨kvs,k,b,e,_,_,_⟩
 .obtain⟨_,_,vs,_,dd⟩:=qfd I.hok e;exact dd.typeIs
 .obtain⟨_,_,xs,_,dd⟩:=jd1 I.hok e;exact dd.typeIs
def jrl(td ty:TE):TE:=fun σ H Q=>td σ H fun x H1=>ty σ H1 fun y H2=>∃a v,x=.ref a/\jb6 H2 a y (some v)/\Q v H2
def jxi(ty td:TE):TE:=fun σ H Q=>ty σ H fun y H1=>td σ H1 fun x H2=>∃a o,x=.ref a/\jb6 H2 a y o/\Q (.bl o.isSome) H2
def jhu(ty td:TE):TE:=fun σ H Q=>ty σ H fun y H1=>td σ H1 fun x H2=>∃a o,x=.ref a/\jb6 H2 a y o/\Q (.bl (!o.isSome)) H2
def jrm(td ty tv:TE):TS:=fun D σ H=>tv σ H fun v H1=>td σ H1 fun x H2=>ty σ H2 fun y H3=>∃a H4,x=.ref a/\jgq H3 a y v H4/\D.nx σ H4
def jrn(td ty tv:TE)(rd:V->V->Hp->VK->Prop):TS:=fun D σ H=>td σ H fun x H1=>ty σ H1 fun y H2=>∃a v,x=.ref a/\jb6 H2 a y (some v)/\
 tv σ H2 fun y2 H3=>rd v y2 H3 fun z H4=>∃H5,jgq H4 a y z H5/\D.nx σ H5
section
variable{X:Cx}{o i value:vT}{pos pos' tpos:Pos}{td ty tv:TE}
def qc1(hu:X.A.units+1<cLine)(ho:PE X o td)(hi:PE X i ty)(hs:jxh i):PE X (.Subscript o i pos) (jrl td ty):=by
 intro pins s σ H Q I h;refine jog PySem.F.slot_dict_getitem.lookup hs (thn (ho pins s σ H _ I h) fun u s1 ⟨x,H1,I1,rx,q1⟩=>thn (hi pins s1 σ H1 _ I1 q1) fun iv s2 ⟨y,H2,I2,ry,a,v,ex,g,q2⟩=>?_);subst ex;obtain rfl:u=uP a:=rx;exact⟨jd2 I2 g,jcv hu I2 g ry fun w' s3 I3 rw'=>⟨v,H2,I3,rw',q2⟩⟩
def jro(hu:X.A.units+1<cLine)(hi:PE X i ty)(ho:PE X o td):PC X .In i o (jxi ty td):=by
 intro pins s σ H Q I h;refine thn (hi pins s σ H _ I h) fun iv s1 ⟨y,H1,I1,ry,q1⟩=>thn (ho pins s1 σ H1 _ I1 q1) fun u s2 ⟨x,H2,I2,rx,a,ov,ex,g,q2⟩=>?_;subst ex;obtain rfl:u=uP a:=rx;exact jyl hu I2 g ry fun s3 I3=>⟨.bl ov.isSome,H2,I3,rfl,q2⟩
def jhv(hu:X.A.units+1<cLine)(hi:PE X i ty)(ho:PE X o td):PC X .NotIn i o (jhu ty td):=by
 intro pins s σ H Q I h;refine thn (hi pins s σ H _ I h) fun iv s1 ⟨y,H1,I1,ry,q1⟩=>thn (ho pins s1 σ H1 _ I1 q1) fun u s2 ⟨x,H2,I2,rx,a,ov,ex,g,q2⟩=>?_;subst ex;obtain rfl:u=uP a:=rx;exact jof hu I2 g ry fun s3 I3=>⟨.bl (!ov.isSome),H2,I3,rfl,q2⟩
def qcv(hu:X.A.units+1<cLine)(ho:PE X o td)(hi:PE X i ty)(hv:PE X value tv)(hs:eZ value (some (.Subscript o i pos')) pos.line X.env=pure false):
  PS X (.Assign [.Subscript o i pos'] value pos) (jrm td ty tv):=by
 intro pins s σ H D I h;refine wpAny_Assign_Subscript (thn (hv pins s σ H _ I h) fun r s1 ⟨v,H1,I1,rv,q1⟩=>thn (ho pins s1 σ H1 _ I1 q1) fun u s2 ⟨x,H2,I2,rx,q2⟩=>thn (hi pins s2 σ H2 _ I2 q2) fun iv s3 ⟨y,H3,I3,ry,a,H4,ex,g,q3⟩=>?_) hs;subst ex;obtain rfl:u=uP a:=rx;exact jcx hu I3 g ry rv fun s4 I4=>⟨σ,H4,I4,q3⟩
def joh{op:Operator}{rd:V->V->Hp->VK->Prop}(hu:X.A.units+1<cLine)(ho:PE X o td)(hi:PE X i ty)(hv:PE X value tv)(hop:jw2 X op rd)
  (ha:∀ov iv new,augStore i ov iv new=(do fY [new,ov,iv] (setItem ov iv new);release [new,ov,iv] [];pure .next)):PS X (.AugAssign (.Subscript o i tpos) op value pos) (jrn td ty tv rd):=by
 intro pins s σ H D I h;refine wpAny_AugAssign_SubscriptAny (thn (ho pins s σ H _ I h) fun u s1 ⟨x,H1,I1,rx,q1⟩=>thn (hi pins s1 σ H1 _ I1 q1) fun iv s2 ⟨y,H2,I2,ry,a,v,ex,g,q2⟩=>?_) ha;subst ex;obtain rfl:u=uP a:=rx;refine jcv hu I2 g ry fun w' s3 I3 rw'=>thn (hv pins s3 σ H2 _ I3 q2) fun w2 s4 ⟨y2,H3,I4,ry2,q3⟩=>thn (hop pins s4 σ H3 v y2 w' w2 _ I4 rw' ry2 q3) fun w3 s5 ⟨z,H4,I5,rz,H5,g5,q4⟩=>?_;exact jcx hu I5 g5 ry rz fun s6 I6=>⟨σ,H5,I6,q4⟩
end
def je7(h:vN)(hb:wQ<h.objs.size):qbj P w H (h.push {cls:=.type "dict",data:=.dict #[]}) h.objs.size (.dK []):=
 ⟨wI _,beq_eq_false_iff_ne.mpr (xF (vC hb)),[],.nil,Heap.DictOf.new h⟩
def jkp(h:vN)(hb:wQ<h.objs.size):qbj P w H (h.push {cls:=.type "dict",data:=.dict #[]}) h.objs.size (.dT []):=
 ⟨wI _,beq_eq_false_iff_ne.mpr (xF (vC hb)),[],.nil,_,#[],0,uQ _ rfl,⟨rfl,rfl,rfl⟩,rfl,rfl,yK⟩
def jmj:TE:=fun _ H Q=>∀p,H p=none->Q (.ref p) (upd H p (.dK []))
def jmk:TE:=fun _ H Q=>∀p,H p=none->Q (.ref p) (upd H p (.dT []))
section
variable{X:Cx}{pos:Pos}
def qg9:PE X (.Dict [] [] pos) jmj:=fun pins s σ H Q I h=>
 wpAny_Dict_empty ⟨.ref ↑s,_,I.laid (a:=↑s) (o:=.dK []) (t':=s.toks) (fun _ _ q=>uE _ q) (uH _) (je7 s.heap I.big),rfl,h _ (I.hok.fresh (uH _))⟩
def je8:PE X (.Dict [] [] pos) jmk:=fun pins s σ H Q I h=>
 wpAny_Dict_empty ⟨.ref ↑s,_,I.laid (a:=↑s) (o:=.dT []) (t':=s.toks) (fun _ _ q=>uE _ q) (uH _) (jkp s.heap I.big),rfl,h _ (I.hok.fresh (uH _))⟩
end
def jhw:List (TE×TE)->St->Hp->(List (V×V)->Hp->Prop)->Prop
 | [],_,H,Q=>Q [] H
 |(tk,tv)::r,σ,H,Q=>tk σ H fun x H1=>tv σ H1 fun y H2=>jhw r σ H2 fun ps H3=>Q ((x,y)::ps) H3
abbrev VV:List (V×V)->List (uB×uB)->Prop:=Paired fun p q=>qb8 p.1 q.1/\qb8 p.2 q.2
def PPs(X:Cx)(pos:Pos)(keys:List (Option vT))(values:List vT)(trs:List (TE×TE)):Prop:=
 ∀(pins:List (Addr×Obj))(s:uD)(σ:St)(H:Hp)(Q:List (V×V)->Hp->Prop),Inv X pins σ H s->jhw trs σ H Q->
  uS (uU X.prog X.w) X.A (evalPairs (pairTrees keys values X.env pos)) (fun vs s'=>∃ps H',Inv X pins σ H' s'/\VV ps vs/\Q ps H') X.xe s
def jhx{X:Cx}{pos:Pos} :PPs X pos [] [] []:=fun pins s σ H Q I h=>pairTrees_nil_walk ⟨[],H,I,.nil,h⟩
def je9{X:Cx}{pos:Pos}{k v:vT}{ks:List (Option vT)}{vs:List vT}{tk tv:TE}{trs:List (TE×TE)}(hk:PE X k tk)(hv:PE X v tv)(hr:PPs X pos ks vs trs):
  PPs X pos (some k::ks) (v::vs) ((tk,tv)::trs):=fun pins s σ H Q I h=>
 pairTrees_cons_walk (thn (hk pins s σ H _ I h) fun u s1 ⟨x,H1,I1,rx,q1⟩=>thn (hv pins s1 σ H1 _ I1 q1) fun w2 s2 ⟨y,H2,I2,ry,q2⟩=>
  thn (hr pins s2 σ H2 _ I2 q2) fun ws s3 ⟨ps,H3,I3,rel,q3⟩=>⟨(x,y)::ps,H3,I3,.cons ⟨rx,ry⟩ rel,q3⟩)
def qfu(kvs more:List (Key×V)):List (Key×V):=more.foldl (fun acc kv=>qcp acc kv.1 kv.2) kvs
def KV.merge:∀{more:List (Key×V)} {rs:List (Key×uB)} {kvs:List (Key×V)} {vs:List (Key×uB)},KV more rs->KV kvs vs->KV (qfu kvs more) (merged vs rs):=by
 intro more rs kvs vs r;unfold KV at r
 induction r generalizing kvs vs with
 |nil=>intro q;exact q
 | @cons p q ps qs h t ih=>
  intro r0;have e:KV (qcp kvs p.1 p.2) (stored vs q.1 q.2):=by
   have:=r0.put p.1 h.2;rw[<-h.1];exact this
  exact ih e
theorem qe1:∀(more kvs:List (Key×V)),(qfu kvs more).length<=kvs.length+more.length
 | [],kvs=>by show kvs.length<=kvs.length+0;omega
 |p::r,kvs=>by
  have h1:=qe1 r (qcp kvs p.1 p.2);have h2:=qbd kvs p.1 p.2;show(qfu (qcp kvs p.1 p.2) r).length<=_;rw[zK];omega
theorem qfx{P:uX}{w:vG}:∀{kvs:List (Key×V)} {ws:List (uB×uB)},VV (kvs.map fun kv=>(kV kv.1,kv.2)) ws->∃rs,Carries (qb4 P w) ws rs/\KV kvs rs
 | [],_,r=>by rw[gF] at r;cases r;exact⟨[],wM,.nil⟩
 |p::kvs,_,r=>by
  rw[zT] at r
  cases r with
  | @cons a b as bs h t=>
   obtain⟨rs,c,q⟩:=qfx (P:=P) (w:=w) t;obtain⟨b1,b2⟩:=b;exact⟨(p.1,b2)::rs,⟨qfo h.1,rfl,c⟩,.cons ⟨rfl,h.2⟩ q⟩
def jrp(trs:List (TE×TE)):TE:=fun σ H Q=>∀p,H p=none->jhw trs σ (upd H p (.dK [])) fun ps H2=>H2 p=some (.dK [])/\∃kvs:List (Key×V),ps=kvs.map (fun kv=>(kV kv.1,kv.2))/\kvs.length<=15/\Q (.ref p) (upd H2 p (.dK (qfu [] kvs)))
def jhy{X:Cx}{pos:Pos}{keys:List (Option vT)}{values:List vT}{trs:List (TE×TE)}(h:PPs X pos keys values trs)(hall:keys.all (·.isSome)=true)(hl:keys.length=values.length)(h0:keys≠ [])
  (h15:keys.length<=15):PE X (.Dict keys values pos) (jrp trs):=by
 intro pins s σ H Q I q;have hn:=I.hok.fresh (uH ↑s);have I1:=I.laid (a:=↑s) (o:=.dK []) (h':=s.heap.push {cls:=.type "dict",data:=.dict #[]}) (t':=s.toks) (fun _ _ q=>uE _ q) (uH _) (je7 s.heap I.big);refine wpAny_Dict_walk (knd:=qb4 X.prog X.w) hall hl h0 h15 (thn (h pins _ σ _ _ I1 (q _ hn)) fun ws s2 ⟨ps,H2,I2,rel,e,kvs,ep,lk,q2⟩=>?_);subst ep;obtain⟨rs,c,rk⟩:=qfx (P:=X.prog) (w:=X.w) rel;obtain⟨z,hd,vs0,r0,dd⟩:=jht I2.hok e
 cases r0
 refine⟨rs,c,dd,fun h' dd' hs=>⟨.ref ↑s,_,?_,rfl,q2⟩⟩;have hz:(qfu [] kvs).length<=sizeLine:=by
  have h1:=qe1 kvs [];rw[yS] at h1;rw[wJ];omega
 have he:∃q,h'.get? ↑s=some q:=let ⟨q,_,_,hq,_⟩:=dd';⟨q,hq⟩
 exact qfe I2 (by rw[e];exact wM) hs he (jcw hz hd (rk.merge .nil) dd')
structure M1(X:Cx)(o:vT)(m:Str)(apos:Pos)(e:vT)(cpos:Pos):Prop where
 base:bT o m X.env (wK o X.env)=wK o X.env
 few:((wO cpos (uZ [e] X.env)).all (fun x=>!x.1) && (dH cpos (aV [] X.env)).all (fun x=>x.1.isSome)
  && decide (([e]:List vT).length+([]:List Keyword).length+(if([]:List Keyword).isEmpty then 0 else 1)<30))=true
 line:(apos.endLine==cpos.line)=true
 trees:wO cpos (uZ [e] X.env)=[(false,wK e X.env)]
structure M2(X:Cx)(o:vT)(m:Str)(apos:Pos)(e f:vT)(cpos:Pos):Prop where
 base:bT o m X.env (wK o X.env)=wK o X.env
 few:((wO cpos (uZ [e,f] X.env)).all (fun x=>!x.1) && (dH cpos (aV [] X.env)).all (fun x=>x.1.isSome)
  && decide (([e,f]:List vT).length+([]:List Keyword).length+(if([]:List Keyword).isEmpty then 0 else 1)<30))=true
 line:(apos.endLine==cpos.line)=true
 trees:wO cpos (uZ [e,f] X.env)=[(false,wK e X.env),(false,wK f X.env)]
def IsD(H:Hp)(a:Addr):Prop:=(∃kvs,Rd H a (.dK kvs))\/∃kvs,Rd H a (.dT kvs)
def jrq{X:Cx}{pins:List (Addr×Obj)}{σ:St}{H:Hp}{s:uD}{a:Addr}(I:Inv X pins σ H s)(d:IsD H a):
  s.TypeIs (.ref a) "dict"/\(∀b,uP a=.ref b->∃ob,s.heap.get? b=some ob/\ob.dict=none)/\(a==wQ)=false:=by
 rcases d with⟨kvs,e⟩|⟨kvs,e⟩
 .obtain⟨_,hd,vs,_,dd⟩:=qfd I.hok e;refine⟨dd.typeIs,fun b q=>?_,hd⟩
  cases q
  obtain⟨ob,_,_,h1,h2,_⟩:=dd;exact⟨ob,h1,h2.2.1⟩
 .obtain⟨_,hd,xs,_,dd⟩:=jd1 I.hok e;refine⟨dd.typeIs,fun b q=>?_,hd⟩
  cases q
  obtain⟨ob,_,_,h1,h2,_⟩:=dd;exact⟨ob,h1,h2.2.1⟩
section
variable{X:Cx}{pins:List (Addr×Obj)}{σ:St}{H:Hp}{s:uD}{a:Addr}{y d:V}{u r:uB}{o:Option V}{A:vI}{E:uB->uD->Prop}
def jrr{Q:uB->uD->Prop}(hu:A.units+1<cLine)(I:Inv X pins σ H s)(g:jb6 H a y o)(ry:qb8 y u)(rd:qb8 d r)(h:∀w' s',Inv X pins σ H s'->qb8 (o.getD d) w'->Q w' s'):
  uS (uU X.prog X.w) A (call (.builtin "dict.get") [.ref a,u,r]) Q E s:=by
 rcases g with⟨kvs,k,e,ey,l⟩|⟨kvs,k,b,e,ey,eb,l⟩
 .subst ey;obtain⟨z,hd,vs,rel,dd⟩:=qfd I.hok e;refine cI eJ dd.typeIs PySem.F.entry_dict_get (PySem.F.args_dict_get_3 _ _ _) (meets_dict_get_default (qb4 X.prog X.w) a (qfo ry) hd r) ⟨_,dd.mapOf,h _ _ (I.tok _) ?_⟩;rw[l];exact(rel.val k).getD rd
 .subst ey
  cases(show u=uP b from ry)
  obtain⟨z,hd,xs,rel,dd⟩:=jd1 I.hok e;refine cI eJ dd.typeIs PySem.F.entry_dict_get (PySem.F.args_dict_get_3 _ _ _) (meetsH_dict_get_default (cL (qb4 X.prog X.w)) a b hd r) ⟨aS hu,k,xs,qfw I.hok eb,dd,h _ _ (I.tok _) ?_⟩;rw[l];exact(rel.val k).getD rd
end
def jml(td ty tx:TE):TE:=fun σ H Q=>td σ H fun x H1=>∃a,x=.ref a/\IsD H1 a/\ty σ H1 fun y H2=>tx σ H2 fun z H3=>∃o,jb6 H3 a y o/\Q (o.getD z) H3
section
variable{X:Cx}{o e f:vT}{apos cpos:Pos}{td ty tx:TE}
def jfa(hu:X.A.units+1<cLine)(ho:PE X o td)(he:PE X e ty)(hf:PE X f tx)(m:M2 X o "get" apos e f cpos):PE X (.Call (.Attribute o "get" apos) [e,f] [] cpos) (jml td ty tx):=by
 intro pins s σ H Q I h;refine wpAny_Call_method m.base m.few m.line dI eJ PySem.F.type_dict_get (thn (ho pins s σ H _ I h) fun u s1 ⟨x,H1,I1,rx,a,ex,d,q1⟩=>?_);subst ex;obtain rfl:u=uP a:=rx;obtain⟨t1,t2,_⟩:=jrq I1 d;refine⟨t1,t2,?_⟩;rw[m.trees];refine dS rfl (bX (fS (thn (he pins s1 σ H1 _ I1 q1) fun iv s2 ⟨y,H2,I2,ry,q2⟩=>
  fS (thn (hf pins s2 σ H2 _ I2 q2) fun fv s3 ⟨z,H3,I3,rz,ov,g,q3⟩=>Calls.spliced_nil ?_))))
 exact jrr hu I3 g ry rz fun w' s4 I4 rw'=>⟨_,H3,I4,rw',q3⟩
end
section
variable{X:Cx}{pins:List (Addr×Obj)}{σ:St}{H:Hp}{s:uD}{a:Addr}{kvs:List (Key×V)}{A:vI}{E:uB->uD->Prop}
def jkq{Q:uB->uD->Prop}(I:Inv X pins σ H s)(e:Rd H a (.dK kvs))(h:∀p s',H p=none->Inv X pins σ (upd H p (.dK kvs)) s'->Q (.ref p) s'):uS (uU X.prog X.w) A (call (.type "dict") [.ref a]) Q E s:=by
 obtain⟨z,hd,vs,rel,dd⟩:=qfd I.hok e;refine kt_call_dict hd dd (by rw[<-rel.length];exact z) fun h' dd' hs=>?_;refine h _ _ (I.hok.fresh (uH _)) (I.laid (a:=↑s) (o:=.dK kvs) (t':=s.toks) (fun b q hq=>?_) (uH _) (jcw z (beq_eq_false_iff_ne.mpr (xF (vC I.big))) rel dd'));exact(hs.2 b (vC (uN hq))).trans (uE _ hq)
end
section
variable{X:Cx}
def call_lenD:qcb X (.builtin "len") (fun xs H Q=>∃a kvs,xs=[V.ref a]/\H a=some (.dK kvs)/\Q (.int kvs.length) H):=by
 intro pins s σ H xs us Q I r h;obtain⟨a,kvs,rfl,ha,q⟩:=h;obtain⟨u,rfl,ru⟩:=jkd r
 cases ru
 exact jvf I (.inl ha) fun t s' I'=>⟨.int kvs.length,H,I',⟨t,rfl⟩,q⟩
end
section
variable{κ:Type}[DecidableEq κ]
def jkr{kvs:List (κ×V)}{k:κ}(h:qbx kvs k=none):¬k∈kvs.map (·.1):=by
 intro m;obtain⟨p,hp,e⟩:=zJ.mp m;have q:(kvs.any fun kv=>decide (kv.1=k))=true:=yN.mpr ⟨p,hp,iC e⟩;rw[qcd,h] at q;exact absurd q (by simp)
def joi{kvs:List (κ×V)}{k:κ}{v:V}(h:qbx kvs k=some v):k∈kvs.map (·.1):=by
 have q:(kvs.any fun kv=>decide (kv.1=k))=true:=by
  rw[qcd,h]
  all_goals rfl
 obtain⟨p,hp,e⟩:=yN.mp q;exact zJ.mpr ⟨p,hp,of_decide_eq_true e⟩
theorem jhz:∀{l:List κ} {k:κ},l.Nodup->¬k∈l->(l++[k]).Nodup
 | [],k,_,_=>by simp
 |a::r,k,h,hk=>by
  obtain⟨h1,h2⟩:=zV.mp h;show(a ::(r++[k])).Nodup;refine zV.mpr ⟨fun m=>?_,jhz h2 fun m=>hk (zO.mpr (eS m))⟩;rcases zP.mp m with q|q
  .exact h1 q
  .exact hk (zO.mpr (uI (zG.mp q).symm))
def joj{kvs:List (κ×V)}{k:κ}(v:V)(hn:(kvs.map (·.1)).Nodup)(h:qbx kvs k=none):((qcp kvs k v).map (·.1)).Nodup:=by
 rw[qeq v h,zE];exact jhz hn (jkr h)
def qfb{p:κ×V}{r:List (κ×V)}{k:κ}(e:p.1=k):qd2 (p::r) k=qd2 r k:=by
 unfold qd2;rw[zY,iA (by simp[e])]
def qfc{p:κ×V}{r:List (κ×V)}{k:κ}(e:¬p.1=k):qd2 (p::r) k=p::qd2 r k:=by
 unfold qd2;rw[zY,iB (by simp[e])]
def jcy{kvs:List (κ×V)}{k:κ}{p:κ×V}(h:p∈qd2 kvs k):p∈kvs:=(yG.mp h).1
theorem qge:∀{kvs:List (κ×V)} {k:κ},(kvs.map (·.1)).Nodup->((qd2 kvs k).map (·.1)).Nodup
 | [],_,_=>yK
 |p::r,k,h=>by
  have h:(p.1::r.map (·.1)).Nodup:=h;obtain⟨h1,h2⟩:=zV.mp h;by_cases e:p.1=k
  .rw[qfb e];exact qge h2
  .rw[qfc e];show(p.1 ::(qd2 r k).map (·.1)).Nodup;refine zV.mpr ⟨fun m=>h1 ?_,qge h2⟩;obtain⟨q,hq,eq⟩:=zJ.mp m;exact zJ.mpr ⟨q,jcy hq,eq⟩
end
end L2
namespace My
open PySem PySem.Spec PyProof.Rows L2
theorem qdi{α:Type}{β:Type}[BEq α][LawfulBEq α]:∀{l:List (α×β)} {x:α} {v:β},l.lookup x=some v->(x,v)∈l
 |(a,b)::l,x,v,h=>by
  rw[List.lookup_cons] at h
  cases e:x==a with
  |true=>rw[e] at h;have e':=eq_of_beq e;have h':b=v:=uW h;subst e' h';exact zN
  |false=>rw[e] at h;exact zH _ (qdi h)
def qbh{X:Cx}{x:Str}{scope:aL}{cl:List (Str×Addr)}{caps:List Nat}{cn:List Str}(h1:closureFor scope X.env=pure cl)(h2:scope.kind=.function)(h3:scope.names.all (fun p=>p.2 !=.cell)=true)
  (h4:scope.names.all (fun p=>p.2 !=.local || scope.names.lookup p.1==some .local)=true)(h5:scope.names.lookup x=some .local)(h6:jmi (fun p=>X.env.cells.lookup p.1=some p.2) cl)
  (h7:(gJ scope X.env).names.all (fun p=>!(p.2==.cell || p.2==.free) ||(cl.lookup p.1).isSome)=true)(h8:caps.length=cn.length)
  (h9:jmi (fun p=>X.N[p.1]?=some p.2/\X.env.kindOf p.2=some .cell/\(gJ scope X.env).names.lookup p.2=some .cell/\X.env.scope.names.lookup p.2=some .cell/\∃c,cl.lookup p.2=some c) (caps.zip cn))(h10:(x::cn).Nodup):jrh X x scope cl caps cn:=by
 refine⟨h1,h2,fun y hy z=>?_,fun y hy z=>?_,h5,fun y c e=>jmi.mem h6 _ (qdi e),fun y hy=>?_,h8,fun k y j e1 e2=>?_,h10⟩
 .have q:=yF.mp h3 y hy;rw[z] at q
  cases q
 .have q:=yF.mp h4 y hy;rw[z] at q;simpa using q
 .have m:∃k,(y,k)∈(gJ scope X.env).names/\(k=.cell\/k=.free):=by
   rcases hy with hy|hy
   .exact⟨_,qdi hy,.inl rfl⟩
   .exact⟨_,qdi hy,.inr rfl⟩
  obtain⟨k,hm,hk⟩:=m;have q:=yF.mp h7 _ hm;have hk':(k==NameKind.cell || k==NameKind.free)=true:=by rcases hk with rfl|rfl<;>decide
  rw[hk'] at q;exact dC.mp (by simpa using q)
 .refine jmi.mem h9 (j,y) ?_;have hz:(caps.zip cn)[k]?=some (j,y):=by rw[List.getElem?_zip_eq_some];exact⟨e2,e1⟩
  exact zD hz
section
variable{X:Cx}
def jrs{l:vT}{tl:TE}{y:Str}{py:Pos}(hl:PE X l tl):PI X (.Name y py) l (jxg tl):=by
 intro pins s σ H R I h;refine thn (hl pins s σ H _ I h) fun u s1 ⟨v,H1,I1,r,x,ev,q⟩=>?_;subst ev;obtain⟨t,rfl⟩:=r;have hn:H1 ↑s1=none:=I1.hok.fresh (uH _);have fp:∀b∈ [↑s1],jdo X pins H1 b:=fun b hb=>by
  have e:b=↑s1:=by simpa using hb
  subst e;exact I1.fpOk (uH _) hn
 cases ha:x.cps.all (·< 128)
 .exact wpAny_pyIter_wide ha ⟨_,[↑s1],fun i h=>h.IsStrIter ↑s1 "str_iterator" x t i,Its x,H1,rfl,I1.kept (t':=s1.toks) (fun _ _ e=>uE _ e),
   je5 x t _ _ (fun A hA=>Walks.strWide hA _ x t) fun A i s' Q' E' st hq=>wpAny_pyIter_striter_wide st hq,⟨_,uQ _ rfl,rfl,rfl⟩,fp,q⟩
 .exact wpAny_pyIter_ascii ha ⟨_,[↑s1],fun i h=>h.IsStrIter ↑s1 "str_ascii_iterator" x t i,Its x,H1,rfl,I1.kept (t':=s1.toks) (fun _ _ e=>uE _ e),
   je5 x t _ _ (fun A hA=>Walks.strAscii hA _ x t) fun A i s' Q' E' st hq=>wpAny_pyIter_striter_ascii st hq,⟨_,uQ _ rfl,rfl,rfl⟩,fp,q⟩
def jxj(K:uT):List V->Hp->VK->Prop:=fun xs H Q=>∃(p:Addr)(bs:List Bool),xs=[.ref p]/\SqL K H p (bs.map V.bl)/\Q (.bl (bs.all id)) H
def jh0(bs:List Bool):((vB bs.length).all fun i=>(bs[i]?).getD true)=bs.all id:=by
 rw[xR,yF,yF];constructor
 .intro h b hb;obtain⟨i,hi,e⟩:=zR.mp hb;have q:=h i (yP.mpr hi);rw[zA hi,e] at q;exact q
 .intro h i hi;have hi':=yP.mp hi;rw[zA hi'];exact h _ (zL hi')
def jcz(hc:X.calm=true):qcb X (.builtin "all") (jxj X.K):=by
 intro pins s σ H xs us Q I hv h;obtain⟨p,bs,rfl,hS,q⟩:=h;obtain⟨u,rfl,ru⟩:=hv.one
 cases ru
 obtain⟨its,rv,pl,hz⟩:=I.list hS;have hl:=pl.isList;have hlt:p<↑s:=by obtain⟨_,e,_⟩:=hl;exact uN e
 have hlen:=rv.length;rw[zB] at hlen;refine call_all_walk (bC hl ?_);refine⟨↑s,[↑s,p],[↑s],its.toArray.size,_,_,fun i=>(bs[i]?).getD true,rfl,Walks.list (A:=X.A.in1) (I.ok.hd hc) _ p (vC hlt) its.toArray,⟨⟨_,uQ _ rfl,rfl,rfl⟩,hl.push _⟩,fun i v s' Q' E' hP hQ=>?_,fun h' tk hk=>?_⟩
 .have hi:its[i]?=some v:=by simpa using hP
  have hb:i<bs.length:=by rw[hlen];exact(uG.mp hi).1
  have hx:(bs.map V.bl)[i]?=some (.bl bs[i]):=by rw[zC,zA hb];rfl
  obtain⟨u,e,r⟩:=rv.get hx;rw[hi] at e
  cases e
  cases r
  dsimp only at hQ;rw[zA hb] at hQ;exact wH hQ
 .have e:((vB its.toArray.size).all fun i=>(bs[i]?).getD true)=bs.all id:=by
   rw[zI,<-hlen];exact jh0 bs
  rw[e];exact⟨.bl _,H,I.kept (t':=tk) (fun b o eb=>hk b o (fun hm=>by have z:=uN eb;rw[zG.mp hm] at z;exact wD _ z) (uE _ eb)),rfl,q⟩
def jrt:R2:=fun x y H Q=>∃i j,x=.str i/\y=.str j/\i.length+j.length<=sizeLine/\Q (.str (i++j)) H
def jd3:OpR X (yY .Add) jrt:=jf9
def jxk:R2:=fun x y H Q=>∃i j,x=.str i/\y=.str j/\Q (.bl (!(aU j i 0 j.length 1).isEmpty)) H
def jru:OpR X (wC .In) jxk:=jg5
def jrv:List V->Hp->VK->Prop:=fun xs H Q=>∃z,xs=[.str z]/\z.length<=sizeLine/\Q (.int z.length) H
def jc0:qcb X (.builtin "len") jrv:=jcn
end
section
variable{K:uT}{H:Hp}{Q:VK}{σ:L2.St}
def jym{r:V->Option Int->Option Int->Hp->VK->Prop}{te:TE}{tl th:TO}(h:te σ H fun x H1=>tl σ H1 fun l H2=>th σ H2 fun u H3=>r x l u H3 Q):tSl r te tl th σ H Q:=h
def jks{Q:Option Int->Hp->Prop}(h:Q none H):jhe σ H Q:=h
def jrw{te:TE}{Q:Option Int->Hp->Prop}(h:te σ H fun x H1=>∃i,x=.int i/\Q (some i) H1):jq0 te σ H Q:=h
def jvg{i:Int}{Q:Int->Prop}(h:Q i):∃j,V.int i=.int j/\Q j:=⟨i,rfl,h⟩
def jok{r r':R2}{ta tb tc:TE}(h:ta σ H fun x H1=>tb σ H1 fun y H2=>r x y H2 fun z H3=>∃k,z=.bl k/\(if k=true then tc σ H3 fun w' H4=>r' y w' H4 Q else Q (.bl false) H3)):jl6 r r' ta tb tc σ H Q:=h
def jrx{p:Addr}{bs:List Bool}(hS:SqL K H p (bs.map V.bl))(h:Q (.bl (bs.all id)) H):jxj K [.ref p] H Q:=⟨p,bs,rfl,hS,h⟩
def jc1{i j:Str}(hn:i.length+j.length<=sizeLine)(h:Q (.str (i++j)) H):jrt (.str i) (.str j) H Q:=⟨i,j,rfl,rfl,hn,h⟩
def jvh{i j:Str}(h:Q (.bl (!(aU j i 0 j.length 1).isEmpty)) H):jxk (.str i) (.str j) H Q:=⟨i,j,rfl,rfl,h⟩
def jry{z:Str}(hn:z.length<=sizeLine)(h:Q (.int z.length) H):jrv [.str z] H Q:=⟨z,rfl,hn,h⟩
def jrz{z:Str}{i:Int}{c:Nat}(hn:z.length<=sizeLine)(e:atI z.cps.toList i=some c)(h:Q (.str ⟨#[c]⟩) H):jw7 (.str z) (.int i) H Q:=⟨z,i,c,rfl,rfl,hn,e,h⟩
def jyn{tl:TE}{R:It->Hp->Prop}(h:tl σ H fun v H1=>jvc v H1 R):jxg tl σ H R:=h
def jvi{x:Str}{R:It->Hp->Prop}(h:R (Its x) H):jvc (.str x) H R:=⟨x,rfl,h⟩
def jr0{wi:TI}{caps:List Nat}{tt:CT TT}{te:CT TE}(h:wi σ H fun J H1=>∀(C:Addr)(s:uD)(H0:Hp)(fp:List Addr)(acc:Addr),H1 acc=none->jue J caps (tt C s H0 fp) (te C s H0 fp) acc σ (upd H1 acc (.lst [])) Q):jkn wi caps tt te σ H Q:=h
def jr1{Q:Bool->Hp->Prop}(h:Q true H):jrf σ H Q:=h
def jvj{acc:Addr}{N:Hp->Prop}{y:V}{ys:List V}(ha:H acc=some (.lst ys))(hz:ys.length<sizeLine)(h:N (upd H acc (.lst (ys++[y])))):jre acc N y H:=⟨ys,ha,hz,h⟩
def jb7{J:It}{caps:List Nat}{tt:TT}{te:TE}{acc:Addr}(n:Nat)(Pv:Nat->Hp->Prop)(h0:Pv 0 H)(hgo:∀i H,i<n->Pv i H->J.go i H)(hst:∀H,Pv n H->J.stop n H)
  (hs:∀i H v H',i<n->Pv i H->J.yld i H v H'->tt (some v::qbz caps σ) H' fun b H2=>if b=true then te (some v::qbz caps σ) H2 fun y H3=>jre acc (Pv (i+1)) y H3 else Pv (i+1) H2)
  (hd:∀H,Pv n H->Q (.ref acc) H):jue J caps tt te acc σ H Q:=by
 refine⟨fun i m H=>m=n-i/\i<=n/\Pv i H,⟨n,rfl,wI _,h0⟩,?_⟩;rintro i m H ⟨rfl,hi,p⟩;by_cases hlt:i<n
 .exact .inr ⟨hgo i H hlt p,Pv (i+1),fun H' p'=>⟨n-(i+1),↑∅,rfl,hlt,p'⟩,fun v H' y=>hs i H v H' hlt p y⟩
 .have e:i=n:=by omega
  subst e;exact .inl ⟨hst H p,hd H p⟩
end
section
variable{X:Cx}
def jum:R2:=fun x y H Q=>∃z n,x=.str z/\y=.int n/\0<=n/\n<=1/\Q (.str (if n<1 then Str.empty else z)) H
def jr2:OpR X (yY .Mult) jum:=by
 intro pins s σ H x y v u Q I rx ry h;obtain⟨z,n,rfl,rfl,h0,h1,q⟩:=h;obtain⟨t,rfl⟩:=rx;obtain⟨k,rfl⟩:=ry;refine P.mul_str (by rw[iD ↑∅,iD ↑∅];rfl) (fun h2 h3=>?_) (fun h2 h3=>?_) ?_
 .have e:n=1:=by omega
  subst e;rw[show((1:Int)==1)=true from rfl,gK] at h3;cases h3
 .have e:n=1:=by omega
  subst e;rw[show((1:Int)==1)=true from rfl,gK] at h3;cases h3
 .by_cases c:n<1
  .rw[iB c] at q⊢;exact⟨∅,.str Str.empty,H,I.tok _,⟨_,rfl⟩,q⟩
  .have e:n=1:=by omega
   subst e;rw[iA c] at q⊢;rw[iB (by rw[show((1:Int)==1)=true from rfl,gK])];exact⟨.str z,H,I,⟨_,rfl⟩,q⟩
def jr3:List V->Hp->VK->Prop:=fun xs H Q=>∃b:Bool,xs=[.bl b]/\Q (.int (if b then 1 else 0)) H
def qe3:qcb X (.type "int") jr3:=by
 intro pins s σ H xs us Q I r h;obtain⟨b,rfl,q⟩:=h
 cases r with
 |cons r1 r2=>
  cases r2
  cases r1
  exact call_int_bool ⟨.int _,H,I.tok _,⟨_,rfl⟩,q⟩
end
section
variable{H:Hp}{Q:VK}
def jvk{z:Str}{n:Int}(h0:0<=n)(h1:n<=1)(h:Q (.str (if n<1 then Str.empty else z)) H):jum (.str z) (.int n) H Q:=⟨z,n,rfl,rfl,h0,h1,h⟩
def jr4{b:Bool}(h:Q (.int (if b then 1 else 0)) H):jr3 [.bl b] H Q:=⟨b,rfl,h⟩
end
section
variable{prog:uX}{w:vG}{A:vI}{E:uB->uD->Prop}{h:vN}{g:Array GenState}{d:Drawn}{t:Nat}{os:OsState}
variable{nm q:Str}{C N fI:Addr}{bs bm bmB:List uB}{hdct:Bool}{sn:List Str}{sub:List uB}{ab:Bool}{col:Option Bool}{dd:Option Addr}{k0 k1 k2 k3 k5:Option uB}{B Bn newId nid initId inN:String}{bmN:List uB}
def qd0(h:vN)(C:Addr)(rest:List uB):vN:=(h.push {cls:=.type "tuple",data:=.seq rest.toArray}).push {cls:=.ref C,data:=.fields #[.ref h.objs.size,.none,.none,.none,.bool false,.none]}
def qfm(Fn:cJ Bn newId inN bmN)(hBn:bmB.contains (.type Bn)=true)(F:cJ B nid initId bmB)(T:OwnTail h bmB bm){mN:Str->Option uB}{rest:List uB}{Q:Fin->uD->Prop}
  (hC:h.get? C=some (bY nm q C N bs bm hdct sn sub ab col dd k0 k1 k2 k3 k5 newId))(hn:h.Ns N mN)(hni:mN "__init__"=some (.ref fI))
  (hb:dE (uU prog w) (qd0 h C rest) (bindSpecial (.ref fI) (.ref (h.objs.size+1))) (.ref fI,[.ref (h.objs.size+1)]))
  (hq:uS (uU prog w) A (call (.ref fI) (.ref (h.objs.size+1)::rest)) (fun v s'=>v=.none/\Q (.done (.ret (.ref (h.objs.size+1)))) s') E ⟨qd0 h C rest,g,d,t,os⟩)(hrest:rest.length<=sizeLine:=by size_fits):
  uS (uU prog w) A (xO.«type.__call__» ⟨.ref C::rest,[]⟩) Q E ⟨h,g,d,t,os⟩:=by
 repeat (first|with_reducible refine bG hC ?_|with_reducible refine wpAny_madeBy_exc hC ?_|wp_step)
 refine codeAny_call_builtin_code (fT _ Fn.quiet) (wpAny_check_new_subU Fn hBn T hC ?_);refine codeAny_exc_new_subU Fn hBn F T hC ?_ hrest;show uS _ _ _ _ _ _;have hC₁:=uE {cls:=.ref C,data:=.fields #[.ref h.objs.size,.none,.none,.none,.bool false,.none]}
  (uE {cls:=.type "tuple",data:=.seq rest.toArray} hC)
 have hn₁:((h.push {cls:=.type "tuple",data:=.seq rest.toArray}).push {cls:=.ref C,data:=.fields #[.ref h.objs.size,.none,.none,.none,.bool false,.none]}).Ns N mN:=
  let ⟨o,es,ep,e,r⟩:=hn;⟨o,es,ep,uE _ (uE _ e),r⟩
 have hget:((h.push {cls:=.type "tuple",data:=.seq rest.toArray}).push
   {cls:=.ref C,data:=.fields #[.ref h.objs.size,.none,.none,.none,.bool false,.none]}).get? (h.objs.size+1)=some
   {cls:=.ref C,data:=.fields #[.ref h.objs.size,.none,.none,.none,.bool false,.none]}:=by heap_get
 have hcC:(uP C::bm).contains (.ref C)=true:=by simp
 have T₁:=T.keeps (h':=(h.push {cls:=.type "tuple",data:=.seq rest.toArray}).push {cls:=.ref C,data:=.fields #[.ref h.objs.size,.none,.none,.none,.bool false,.none]})
  fun b o e=>uE _ (uE _ e)
 unfold isInstance
 repeat (first|with_reducible refine bG hget ?_|(with_reducible refine wpAny_isSubtype_exc hC₁ ?_;rw[hcC]) |wp_step)
 show uS _ _ (typeLookup (.ref C) _) _ _ _;refine wpAny_typeLookup_tail hC₁ hn₁ T₁ F.mroIs F.init.lookup ?_;rw[hni];refine wR (uC (hb.at ?_));refine uC (vS hq (fun v s' ⟨ev,q⟩=>?_) fun _ _ x=>x);subst ev
 wp_walk
 exact q
def qgn(Fn:cJ Bn newId inN bmN)(hBn:bmB.contains (.type Bn)=true)(F:cJ B nid initId bmB)(T:OwnTail h bmB bm){mN:Str->Option uB}{rest:List uB}{Q:uB->uD->Prop}
  (hC:h.get? C=some (bY nm q C N bs bm hdct sn sub ab col dd k0 k1 k2 k3 k5 newId))(hn:h.Ns N mN)(hni:mN "__init__"=some (.ref fI))
  (hb:dE (uU prog w) (qd0 h C rest) (bindSpecial (.ref fI) (.ref (h.objs.size+1))) (.ref fI,[.ref (h.objs.size+1)]))
  (hq:uS (uU prog w) (A.under (.builtin "type.__call__" ⟨.ref C::rest,[]⟩)) (call (.ref fI) (.ref (h.objs.size+1)::rest)) (fun v s'=>v=.none/\Q (.ref (h.objs.size+1)) s') E ⟨qd0 h C rest,g,d,t,os⟩)(hrest:rest.length<=sizeLine:=by size_fits):
  uS (uU prog w) A (call (.ref C) rest) Q E ⟨h,g,d,t,os⟩:=by
 have f1:=tc_lookup;have f2:=tc_bind (.ref C);have hT:(⟨h,g,d,t,os⟩:uD).TypeIs (.ref C) "type":=⟨_,hC,rfl⟩;refine aR (codeAny_of_tree ?_);show uS _ _ (callAny (.ref C) _) _ _ _
 repeat (any_goals (first|assumption|with_reducible refine bG hC ?_|wp_step))
 refine⟨rfl,?_⟩;refine codeAny_call_builtin_at (fT _ (by decide+kernel)) entry_typeCall (wpAny_check_type_call_sub hC (qfm (hrest:=hrest) Fn hBn F T hC hn hni hb ?_));exact hq
def qfs{env:Env}{M:Model}{s:uD}{x:Sem uB}{Q:Flow->uD->Prop}(hbase:bm.contains (.type "BaseException")=true)(hh:A.handled=none)
  (h:uS M A x (fun v s₁=>∃e oe,v=.ref e/\s₁.heap.get? C=some (bY nm q C N bs bm hdct sn sub ab col dd k0 k1 k2 k3 k5 newId)/\
   s₁.heap.get? e=some oe/\oe.cls=.ref C/\(∃vs,oe.data=.fields vs/\vs[1]?=some .none)/\E (.ref e) s₁) E s):
  uS M A (raiseStmt env (some x) none) Q E s:=by
 have hcB:(uP C::bm).contains (.type "BaseException")=true:=by rw[List.contains_cons,hbase,Bool.or_true]
 unfold raiseStmt;refine uC (vS h (fun v s₁ h₁=>?_) fun _ _ x=>x);obtain⟨e,oe,rfl,hC,he,hcls,⟨vs,hd,h1⟩,hE⟩:=h₁;obtain⟨hp,g,d,tk,os⟩:=s₁;obtain⟨oc,odd,oda,osl⟩:=oe;obtain rfl:oc=.ref C:=hcls;obtain rfl:oda=.fields vs:=hd
 repeat (first|with_reducible refine bG he ?_|with_reducible refine bG hC ?_|(with_reducible refine wpAny_isSubtype_exc hC ?_;rw[hcB]) |wp_step)
 rw[h1];refine uF ?_;rw[iA ∅];exact uF (wpAny_raiseNew_none hh hE)
def qfk{env:Env}{s:uD}(Fn:cJ Bn newId inN bmN)(hBn:bmB.contains (.type Bn)=true)(F:cJ B nid initId bmB){mN:Str->Option uB}{x:Str}{np cpos pos:Pos}{args:List vT}{Q:Flow->uD->Prop}
  (hbase:bm.contains (.type "BaseException")=true)(hh:A.handled=none)(hplain:(wO cpos (uZ args env)).any (·.1)=false)(hni:mN "__init__"=some (.ref fI))
  (h:uS (uU prog w) A (wK (.Name x np) env) (fun f s₁=>f=.ref C/\uS (uU prog w) A (evalArgs (.ref C) true (wO cpos (uZ args env)) [])
   (fun a s₂=>a.kw=[]/\a.pos.length<=sizeLine/\s₂.heap.get? C=some (bY nm q C N bs bm hdct sn sub ab col dd k0 k1 k2 k3 k5 newId)/\s₂.heap.Ns N mN/\OwnTail s₂.heap bmB bm/\
    dE (uU prog w) (qd0 s₂.heap C a.pos) (bindSpecial (.ref fI) (.ref (↑s₂+1))) (.ref fI,[.ref (↑s₂+1)])/\
    uS (uU prog w) (A.under (.builtin "type.__call__" ⟨.ref C::a.pos,[]⟩)) (call (.ref fI) (.ref (↑s₂+1)::a.pos))
     (fun v s'=>v=.none/\s'.heap.get? C=some (bY nm q C N bs bm hdct sn sub ab col dd k0 k1 k2 k3 k5 newId)/\(∃oe,s'.heap.get? (↑s₂+1)=some oe/\oe.cls=.ref C/\∃vs,oe.data=.fields vs/\vs[1]?=some .none)/\E (.ref (↑s₂+1)) s') E {s₂ with heap:=qd0 s₂.heap C a.pos}) E s₁) E s):
  uS (uU prog w) A (exec (.Raise (some (.Call (.Name x np) args [] cpos)) none pos) env) Q E s:=by
 rw[arm_exec_Raise]
 first
  |refine uC (aN (qfs (C:=C) (nm:=nm) (q:=q) (N:=N) (bs:=bs) (bm:=bm) (hdct:=hdct) (sn:=sn) (sub:=sub) (ab:=ab) (col:=col) (dd:=dd) (k0:=k0) (k1:=k1) (k2:=k2) (k3:=k3) (k5:=k5) (newId:=newId) hbase hh (uC (vS (wpAny_Call_ofName (vS h (fun f s₁ h₁=>?_) fun _ _ x=>x)) (fun v s₃ h₃=>uC (aN (uF h₃))) fun _ _ x=>x))))
  |(simp only[evalOpt,Option.map];refine uC (aN (qfs (C:=C) (nm:=nm) (q:=q) (N:=N) (bs:=bs) (bm:=bm) (hdct:=hdct) (sn:=sn) (sub:=sub) (ab:=ab) (col:=col) (dd:=dd) (k0:=k0) (k1:=k1) (k2:=k2) (k3:=k3) (k5:=k5) (newId:=newId) hbase hh (uC (vS (wpAny_Call_ofName (vS h (fun f s₁ h₁=>?_) fun _ _ x=>x)) (fun v s₃ h₃=>uC (aN (uF h₃))) fun _ _ x=>x)))))
 obtain⟨rfl,h₁⟩:=h₁;unfold gE;refine uC (wR (vS h₁ (fun a s₂ h₂=>uC (aN ?_)) fun _ _ x=>x));obtain⟨apos,akw⟩:=a;obtain⟨hkw,hlen,hC,hn,T,hb,h₂⟩:=h₂;obtain rfl:akw=[]:=hkw;obtain⟨hp,g,d,tk,os⟩:=s₂;simp only[hplain];refine uC (wpAny_keeperOf_exc hC ?_);refine uC (qgn (hrest:=hlen) Fn hBn F T hC hn hni hb (vS h₂ (fun v s' ⟨e1,e2,⟨oe,e3,e4,e6⟩,e5⟩=>⟨e1,uC (wR (wpAny_point (uF ?_)))⟩) fun _ _ x=>x));exact⟨_,oe,rfl,e2,e3,e4,e6,e5⟩
end
def jmm:List uB->Bool
 | .ref _::r=>jmm r
 | [.type a,.type b,.type c,.type e]=>a== "ValueError" && b== "Exception" && c== "BaseException" && e== "object"
 |_=>false
def jr5(K:uT)(C:Addr):Bool:=(PySem.W.clsIn K C).any fun cd=>jmm cd.mro
section
variable{K:uT}{C:Addr}
open PySem.W in
open PySem.W in
open PySem.W in
open PySem.W in
structure XAt(K:uT)(C:Addr):Prop where
 ga:vU K (.ref C) "__getattribute__"=some (some (.builtin "BaseException.__getattribute__"))
 gn:vU K (.ref C) "__getattr__"=some none
 mb:mroIn K C (.type "BaseException")=some true
 mo:mroIn K C (.type "object")=some true
 hd:gW K C=true
 cl:vU K (.ref C) "__class__"=some (some (.builtin "object.__class__"))
 sp:eY K (.builtin "object.__class__") "__get__"=some (some (.builtin "getset_descriptor.__get__"))
 tk:PySem.W.takesIn K (.builtin "object.__class__")=some true
 sa:vU K (.ref C) "__setattr__"=some (some (.builtin "object.__setattr__"))
 po:jr5 K C=true
open PySem.W in
open PySem.W in
end
def XS(a C:Addr)(d:Option Addr):HO:=.ext fun h=>∃(oe:Obj)(vs:Array uB),h.get? a=some oe/\oe.cls=.ref C/\oe.dict=d/\oe.data=.fields vs/\vs[1]?=some .none/\(∃t0:Addr,vs[0]?=some (.ref t0))/\∀dx,d=some dx->dx≠a
section
variable{H:Hp}{a C dx:Addr}
def jvl{P:uX}{w:vG}{H:Hp}{h:vN}{d:Option Addr}(x:∃(oe:Obj)(vs:Array uB),h.get? a=some oe/\oe.cls=.ref C/\oe.dict=d/\oe.data=.fields vs/\vs[1]?=some .none/\(∃t0:Addr,vs[0]?=some (.ref t0))/\∀dx,d=some dx->dx≠a):qbj P w H h a (XS a C d):=by
 obtain⟨oe,vs,h1,h2⟩:=id x;exact⟨x,⟨oe,h1⟩,fun h1 h2 ⟨oe,vs,z,zz⟩ k=>⟨oe,vs,k _ z,zz⟩⟩
def jr6{P:uX}{w:vG}{h:vN}{d:Option Addr}(x:HOk P w H h)(e:H a=some (XS a C d)):∃(oe:Obj)(vs:Array uB),h.get? a=some oe/\oe.cls=.ref C/\oe.dict=d/\oe.data=.fields vs/\vs[1]?=some .none/\(∃t0:Addr,vs[0]?=some (.ref t0))/\∀dx,d=some dx->dx≠a:=
 (show qbj P w H h a (XS a C d) from x a _ e).1
end
def del(H:Hp)(a:Addr):Hp:=fun b=>if b=a then none else H b
def qdm{H:Hp}{a:Addr}:del H a a=none:=by unfold del;rw[iB rfl]
def qdo{H:Hp}{a b:Addr}(h:b≠a):del H a b=H b:=by unfold del;rw[iA h]
section
variable{X:Cx}{pins:List (Addr×Obj)}{σ:L2.St}{H:Hp}{s:uD}{a:Addr}{φ:vN->Prop}
theorem Inv.del(I:Inv X pins σ H s)(e:H a=some (.ext φ)):Inv X pins σ (My.del H a) s:=by
 have ne:∀b o,H b=some o->(∀φ,o≠ .ext φ)->b≠a:=fun b o q d z=>by rw[z,e] at q;cases q;exact d _ rfl
 refine⟨I.ok,I.os,I.bare,⟨I.base.keep,I.base.slot,fun b o q n hx=>?_,I.base.there,fun b xs q=>?_,fun b o u q=>?_,fun b ps q=>?_⟩,I.loc,I.cell,?_,fun x c q=>?_,fun p hp=>?_,fun b o q=>?_,I.len⟩
 .have z:=I.base.free b o q n hx;by_cases hb:b=a
  .rw[hb];exact qdm
  .rw[qdo hb];exact z
 .have z:=I.base.tups b xs q;rw[qdo (ne _ _ z (by intro φ y;cases y))];exact z
 .have z:=I.base.frzs b o u q;rw[qdo (ne _ _ z (by intro φ y;cases y))];exact z
 .obtain⟨more,z⟩:=I.base.tbls b ps q;exact⟨more,by rw[qdo (ne _ _ z (by intro φ y;cases y))];exact z⟩
 .by_cases hb:X.env.locals=a
  .rw[hb];exact qdm
  .rw[qdo hb];exact I.free
 .by_cases hb:c=a
  .rw[hb];exact qdm
  .rw[qdo hb];exact I.freeC x c q
 .obtain⟨z,n,l⟩:=I.pin p hp;refine⟨z,?_,l⟩;by_cases hb:p.1=a
  .rw[hb];exact qdm
  .rw[qdo hb];exact n
 .have hb:b≠a:=fun z=>by rw[z,qdm] at q;cases q
  rw[qdo hb] at q;exact(I.hok b o q).stay (fun _ _ _ q=>q) (fun c q=>by rw[qdo (ne _ _ q (by intro φ y;cases y))];exact q) fun c xs q=>by rw[qdo (ne _ _ q (by intro φ y;cases y))];exact q
end
structure XClI(K:uT)(C f:Addr):Prop where
 ob:∃(nm q:Str)(N:Addr)(bs bm:List uB)(hdct:Bool)(sn:List Str)(sub:List uB)(ab:Bool)(col:Option Bool)(dd:Option Addr)(k0 k1 k2 k3 k5:Option uB)(mN:Str->Option uB),
  K.lookup C=some (bY nm q C N bs bm hdct sn sub ab col dd k0 k1 k2 k3 k5 "ValueError.__new__")/\(∀h:vN,K.In h->h.Ns N mN)/\mN "__init__"=some (.ref f)/\
  ∀h:vN,K.In h->OwnTail h [.type "ValueError",.type "Exception",.type "BaseException",.type "object"] bm
 fn:isFn K (.ref f)=true
section
variable{X:Cx}{k:Nat}{f:Addr}{fd:uL}{ps:List Str}{sp:Sp}{x:Str}{C:Addr}{W:L2.St->XK}{np cpos pos:Pos}{e:vT}{es:List vT}{t:TA}
def jol(t:TA)(C:Addr)(sp:Sp)(W:L2.St->XK):TS:=fun _ σ H=>t σ H fun xs H1=>xs.length<=sizeLine/\∀a,H1 a=none->sp (.ref a::xs) (upd H1 a (XS a C none)) (fun v H2=>v=.non/\∃d,H2 a=some (XS a C d)/\W σ (.ref C) d (My.del H2 a)) E0
def jh1(hc:X.calm=true)(M:XClI X.K C f)(F:jab X.prog X.w X.K X.mg X.base CX0 k f fd ps sp)(hr:ja0 (k+1) X.A)(hb:qap X.K fd ps [])(hg:Gl X x)(hm:X.mg x=some (.ref C))(hx:Xes X W)(ha:PA X (e::es) t)(hex:X.ex=[]:=by rfl)(hdb:(x==("__debug__":Str))=false:=by decide)
  (he:uZ (e::es) X.env=(false,wK e X.env)::uZ es X.env:=by rfl) (hpl:(wO cpos (uZ es X.env)).any (·.1)=false:=by rfl):
  PS X (.Raise (some (.Call (.Name x np) (e::es) [] cpos)) none pos) (jol t C sp W):=by
 intro pins s σ H D I h;obtain⟨nm,q,N,bs,bm,hdct,sn,sub,ab,col,dd,k0,k1,k2,k3,k5,mN,hC,hN,hni,T⟩:=M.ob;refine qfk (C:=C) (fI:=f) (nm:=nm) (q:=q) (N:=N) (bs:=bs) (bm:=bm) (hdct:=hdct) (sn:=sn) (sub:=sub) (ab:=ab) (col:=col) (dd:=dd) (k0:=k0) (k1:=k1) (k2:=k2) (k3:=k3) (k5:=k5)
  aD ∅ aD (mN:=mN) ((T _ I.kIn).hasType PySem.F.excBase_ValueError.hasBase) (I.ok.hd hc) ?_ hni ?_
 .rw[he];show(false ||(wO cpos (uZ es X.env)).any (·.1))=false;rw[hpl];rfl
 .refine qds I hg hm ⟨rfl,?_⟩ hdb;have z:=ha cpos pins s σ H _ I h;rw[he] at z⊢;refine bX (vS z (fun us s2 ⟨vs,H2,I2,r,hl,q⟩=>?_) fun _ _ y=>y);have ea:(qd0 s2.heap C us).get? (↑s2+1)=some {cls:=.ref C,data:=.fields #[.ref ↑s2,.none,.none,.none,.bool false,.none]}:=by
   have:=uQ (s2.heap.push {cls:=.type "tuple",data:=.seq us.toArray}) (o:={cls:=.ref C,data:=.fields #[.ref ↑s2,.none,.none,.none,.bool false,.none]}) rfl
   rwa [bD] at this
  have hn:H2 (↑s2+1)=none:=I2.hok.fresh (xH _);have I3:Inv X pins σ (upd H2 (↑s2+1) (XS (↑s2+1) C none)) {s2 with heap:=qd0 s2.heap C us}:=
   I2.laid (t':=s2.toks) (fun b o y=>uE _ (uE _ y)) (xH _) (jvl ⟨_,_,ea,rfl,rfl,rfl,rfl,⟨_,rfl⟩,fun dx y=>by cases y⟩)
  have q:=q _ hn;refine⟨rfl,by rw[<-r.length];exact hl,I2.kIn _ _ hC,hN _ I2.kIn,T _ I2.kIn,PySem.W.bind_fn I3.kIn _ (beq_iff_eq.mp M.fn),?_⟩;have r2:qba (V.ref (↑s2+1)::vs) (uP (↑s2+1)::us):=.cons rfl r;have hln:(uP (↑s2+1)::us++[]).length=ps.length:=by rw[yC,<-r2.length];exact F.len _ _ _ _ q
  have hb':=hb {s2 with heap:=qd0 s2.heap C us} (uP (↑s2+1)::us) I3.kIn hln;rw[yC] at hb';refine aR (xL (F.run _ X.stack _ _ ⟨uP (↑s2+1)::us,[]⟩ (uP (↑s2+1)::us) _ _ E0 (hr.make C us []) (I3.env0.make C us []) hb' r2 q) fun r s' hq'=>?_)
  cases r with
  |error e=>exact vY hq'
  |ok fl=>
   cases fl with
   |ret u=>
    obtain⟨v,H',I4,rv,ev,d,e4,q4⟩:=I3.after hq';subst ev;obtain⟨oe,ws,g1,g2,g3,g4,g5,g6,g7⟩:=jr6 I4.hok e4;refine⟨rv,I4.kIn _ _ hC,⟨oe,g1,g2,ws,g4,g5⟩,?_⟩;have new:s2.heap.get? (↑s2+1)=none:=bU (xH _);refine hx pins σ _ _ _ (.ref C) d (Inv.del I4 e4) ⟨⟨je0 I2 hex new,qdm,fun p hp y=>?_,⟨_,_,g1,g4⟩⟩,.inl ⟨_,_,g1,g2,g3,g4,g5⟩⟩ q4;have w:=(I2.pin p hp).1;rw[y,new] at w
    cases w
   |next=>exact vY hq'
   |brk=>exact vY hq'
   |cont=>exact vY hq'
end
section
variable{X:Cx}
inductive PJ(X:Cx):List vT->List TE->Prop
 |nil:PJ X [] []
 |cons{e:vT}{es:List vT}{t:TE}{ts:List TE}(h:PE X e t)(r:PJ X es ts):PJ X (e::es) (t::ts)
end
structure jyo(K:uT)(T:Addr):Prop where
 ga:eY K (.ref T) "__getattribute__"=some (some (.builtin "type.__getattribute__"))
 rd:PySem.W.readsIn K T (.type "type")=true
 at_:PySem.W.findCls K (.ref T) (.type "type") "__init__"=some (.val (.builtin "ValueError.__init__"))
open PySem.MeetsSeq PySem.MeetsSeq2 PySem.MeetsSeq3 PySem.SeqRoads2
def EqW(P:uX)(w:vG)(A:vI)(s:uD)(y x:uB)(b:Bool):Prop:=∀(E:uB->uD->Prop)(Q:Bool->uD->Prop),Q b s->uS (uU P w) A (eqBool y x) Q E s
def opN:Bool->CmpOp
 |false=> .Eq
 |true=> .NotEq
def RcW(P:uX)(w:vG)(A:vI)(s:uD)(ne:Bool)(y x:uB)(b:Bool):Prop:=∀(E:uB->uD->Prop)(Q:uB->uD->Prop),Q (.bool b) s->uS (uU P w) A (richCompare (opN ne) y x) Q E s
def jvm:Bool->Int
 |false=>2
 |true=>3
abbrev lo(dd:Option Addr)(xs:Array uB)(n:Nat)(sl:Array (Option uB)):Obj:={cls:=.type "list",dict:=dd,data:=.seq xs n,slots:=sl}
abbrev tob(dd:Option Addr)(xs:Array uB)(n:Nat)(sl:Array (Option uB)):Obj:={cls:=.type "tuple",dict:=dd,data:=.seq xs n,slots:=sl}
section
variable{P:uX}{w:vG}{A:vI}{s:uD}{l b:Addr}{k:Bool}
def EqW.of{y x:uB}(h:SeqAt.EqAt A s y x k):EqW P w A s y x k:=fun E Q q=>h P w E Q q
def EqW.refs(hn:l≠b)(h:RcW P w A s false (.ref l) (.ref b) k):EqW P w A s (.ref l) (.ref b) k:=fun E Q q=>by
 unfold eqBool;refine wR (wpAny_ite_split (fun z=>?_) fun _=>uC (h E _ (wH q)));have z':=eq_of_beq z;injection z' with z'
 exact absurd z' hn
abbrev jvn(P:uX)(w:vG)(A:vI)(R:Result->uD->Prop):PySem.Fin->uD->Prop:=fun f s'=>match f with| .done r=>R (.ok r) s'| .again c=>c.quiet=true/\cG (uU P w) A c R s'
def jr7(ne:Bool){xs ys:Array uB}{n m:Nat}{d1 d2:Option Addr}{s1 s2:Array (Option uB)}(hz:xs.size=ys.size)(f:Nat->Bool)(r:Nat):∀(i:Nat),xs.size-i=r->∀(A:vI)(R:Result->uD->Prop)(s:uD),s.heap.get? l=some (lo d1 xs n s1)->s.heap.get? b=some (lo d2 ys m s2)->
  (∀j (h1:j<xs.size) (h2:j<ys.size),EqW P w A.in1 s xs[j] ys[j] (f j))->R (.ok (.ret (.bool (ne !=((vB xs.size).drop i).all f)))) s->
  uS (uU P w) A.in1 (xO.«list.__eq__.loop» ⟨[.ref l,.ref b,wT i,wT (jvm ne)],[]⟩) (jvn P w A R) (fun e s'=>R (.error e) s') s:=by
 induction r with
 |zero=>
  intro i hr A R s hl hb he q;obtain⟨hp,g,d,tk,os⟩:=s;have t1:xs[((i:Nat):Int).toNat]?=none:=by simp;omega
  have t2:ys[((i:Nat):Int).toNat]?=none:=by simp;omega
  have t3:(vB xs.size).drop i=[]:=by simp;omega
  rw[t3] at q
  cases ne with
  |false=>
   wp_walk using uO hl,uO hb
   rw[t1,t2]
   wp_walk using uO hl,uO hb
   show R (.ok (.ret (.bool (xs.size==ys.size)))) _;rw[hz];simpa using q
  |true=>
   wp_walk using uO hl,uO hb
   rw[t1,t2]
   wp_walk using uO hl,uO hb
   show R (.ok (.ret (.bool (xs.size !=ys.size)))) _;rw[hz];simpa using q
 |succ r ih=>
  intro i hr A R s hl hb he q;obtain⟨hp,g,d,tk,os⟩:=s;have j1:i<xs.size:=by omega
  have j2:i<ys.size:=by omega
  have t1:xs[((i:Nat):Int).toNat]?=some xs[i]:=by simp[j1]
  have t2:ys[((i:Nat):Int).toNat]?=some ys[i]:=by simp[j2]
  have t3:(vB xs.size).drop i=i ::(vB xs.size).drop (i+1):=by simp[wY,j1]
  have t4:((i:Int)+1)=((i+1:Nat):Int):=by push_cast;rfl
  rw[t3,yU] at q
  cases ne with
  |false=>
   wp_walk using uO hl,uO hb
   rw[t1,t2];refine uC (he i j1 j2 _ _ ?_)
   cases hf:f i with
   |true=>
    rw[hf] at q
    wp_walk
    rw[t4];refine⟨dG xV _,xS fK ?_⟩;rw[xC xV _];exact ih (i+1) ↑∅ A R _ hl hb he (by simpa using q)
   |false=>
    rw[hf] at q
    wp_walk using uO hl,uO hb
    rw[t1,t2]
    wp_walk
    simpa using q
  |true=>
   wp_walk using uO hl,uO hb
   rw[t1,t2];refine uC (he i j1 j2 _ _ ?_)
   cases hf:f i with
   |true=>
    rw[hf] at q
    wp_walk
    rw[t4];refine⟨dG xV _,xS fK ?_⟩;rw[xC xV _];exact ih (i+1) ↑∅ A R _ hl hb he (by simpa using q)
   |false=>
    rw[hf] at q
    wp_walk using uO hl,uO hb
    rw[t1,t2]
    wp_walk
    simpa using q
def jr8(ne:Bool){xs ys:Array uB}{n m:Nat}{d1 d2:Option Addr}{s1 s2:Array (Option uB)}(hz:xs.size=ys.size)(f:Nat->Bool){R:Result->uD->Prop}(hl:s.heap.get? l=some (lo d1 xs n s1))(hb:s.heap.get? b=some (lo d2 ys m s2))
  (he:∀j (h1:j<xs.size) (h2:j<ys.size),EqW P w A.in1 s xs[j] ys[j] (f j))(q:R (.ok (.ret (.bool (ne !=(vB xs.size).all f)))) s):
  uS (uU P w) A.in1 ((if ne=true then xO.«list.__ne__» else xO.«list.__eq__») ⟨[.ref l,.ref b],[]⟩) (jvn P w A R) (fun e s'=>R (.error e) s') s:=by
 obtain⟨hp,g,d,tk,os⟩:=s;have f3:=AutoSeq1.sub_list_list;have z0:¬(xs.size !=ys.size)=true:=by simp[hz]
 cases ne with
 |false=>
  show uS _ _ (xO.«list.__eq__» _) _ _ _
  wp_walk using uO hl,uO hb
  refine⟨dG xV _,xS fK ?_⟩;rw[xC xV _];exact jr7 false hz f _ 0 rfl A R _ hl hb he (by simpa using q)
 |true=>
  show uS _ _ (xO.«list.__ne__» _) _ _ _
  wp_walk using uO hl,uO hb
  refine⟨dG xV _,xS fK ?_⟩;rw[xC xV _];exact jr7 true hz f _ 0 rfl A R _ hl hb he (by simpa using q)
def jr9{T id:String}{name:Str}{B:xO}{self:uB}{rest:List uB}{E Q:uB->uD->Prop}(slot:Slot T name id)(hT:s.TypeIs self T)(entry:entryFor table id=some B)(args:argsOk id ⟨self::rest,[]⟩)
  (h:uS (uU P w) A.in1 (B ⟨self::rest,[]⟩) (jvn P w A (wants Q E)) (fun e s'=>wants Q E (.error e) s') s):uS (uU P w) A (call (.builtin id) (self::rest)) Q E s:=
 aR (codeAny_call_builtin slot.plain entry (slot.check _ _ _ _ _ _ _ _ hT args h))
def RcW.lists(ne:Bool){xs ys:Array uB}{f:Nat->Bool}(hl:s.heap.IsList l xs)(hb:s.heap.IsList b ys)(hz:xs.size=ys.size)(hu:A.units<cLine)(he:∀j (h1:j<xs.size) (h2:j<ys.size),EqW P w A.in1 s xs[j] ys[j] (f j)):
  RcW P w A s ne (.ref l) (.ref b) (ne !=(vB xs.size).all f):=fun E Q q=>by
 obtain⟨⟨c1,d1,e1,s1⟩,ho,hc,n,hd⟩:=id hl;obtain⟨⟨c2,d2,e2,s2⟩,ho2,hc2,m,hd2⟩:=id hb;simp only at hc hd hc2 hd2;subst hc hd hc2 hd2;have q':fN (ne !=(vB xs.size).all f)≠Value.notImplemented/\Q (.bool (ne !=(vB xs.size).all f)) s:=⟨(fun x=>nomatch x),q⟩
 cases ne with
 |false=>exact xZ (op:=.Eq) ⟨_,ho,rfl⟩ ⟨_,ho2,rfl⟩ F.slot_list_eq (jr9 F.slot_list_eq ⟨_,ho,rfl⟩ F.entry_list_eq (F.args_list_eq_2 _ _) (jr8 (R:=wants (fun v s'=>v≠ .notImplemented/\Q v s') E) false hz f ho ho2 he q')) hu
 |true=>exact xZ (op:=.NotEq) ⟨_,ho,rfl⟩ ⟨_,ho2,rfl⟩ F.slot_list_ne (jr9 F.slot_list_ne ⟨_,ho,rfl⟩ F.entry_list_ne (F.args_list_ne_2 _ _) (jr8 (R:=wants (fun v s'=>v≠ .notImplemented/\Q v s') E) true hz f ho ho2 he q')) hu
def RcW.listsN(ne:Bool){xs ys:Array uB}(hl:s.heap.IsList l xs)(hb:s.heap.IsList b ys)(hz:(xs.size !=ys.size)=true)(hu:A.units<cLine):RcW P w A s ne (.ref l) (.ref b) (ne !=false):=fun E Q q=>by
 cases ne with
 |false=>exact SeqAt.RcAt.lists_lengths hl hb hz hu P w E Q q
 |true=>exact SeqAt.RcNeAt.lists_lengths hl hb hz hu P w E Q q
def jxl(ne:Bool){xs ys:Array uB}{n m:Nat}{d1 d2:Option Addr}{s1 s2:Array (Option uB)}(f:Nat->Bool){E Q:uB->uD->Prop}(hl:s.heap.get? l=some (tob d1 xs n s1))(hb:s.heap.get? b=some (tob d2 ys m s2))
  (he:∀j (h1:j<xs.size) (h2:j<ys.size),EqW P w A.in1 s xs[j] ys[j] (f j))(q:Q (.bool (ne !=((vB (min xs.size ys.size)).all f && xs.size==ys.size))) s):
  uS (uU P w) A.in1 ((if ne=true then xO.«tuple.__ne__» else xO.«tuple.__eq__») ⟨[.ref l,.ref b],[]⟩) (fun fin s'=>∃v,fin=.done (.ret v)/\Q v s') E s:=by
 obtain⟨hp,g,d,tk,os⟩:=s;have f2:=AutoSeq1.sub_tuple_tuple;have hZ:(xs.toList.zip ys.toList).length=min xs.size ys.size:=by simp
 have turn:∀(x y:uB)(rest:List (uB×uB))(i:Nat),(x,y)::rest=(xs.toList.zip ys.toList).drop i->∃(h1:i<xs.size)(h2:i<ys.size),x=xs[i]/\y=ys[i]/\rest=(xs.toList.zip ys.toList).drop (i+1)/\(vB (min xs.size ys.size)).drop i=i ::(vB (min xs.size ys.size)).drop (i+1):=fun x y rest i hz=>by
  have hlt:i <(xs.toList.zip ys.toList).length:=by
   rcases bH i (xs.toList.zip ys.toList).length with z|z
   .exact z
   .rw[dW z] at hz;cases hz
  have hm:i<min xs.size ys.size:=hZ▸hlt;have h1:i<xs.size:=vA hm (Nat.min_le_left _ _);have h2:i<ys.size:=vA hm (Nat.min_le_right _ _);rw[wY hlt] at hz;injection hz with hxy hrest
  exact⟨h1,h2,by have:=congrArg Prod.fst hxy;simpa using this,by have:=congrArg Prod.snd hxy;simpa using this,hrest,by simp[wY,hm]⟩
 have last:∀i:Nat,[]=(xs.toList.zip ys.toList).drop i->(vB (min xs.size ys.size)).drop i=[]:=fun i hz=>by
  have hge:min xs.size ys.size<=i:=by
   rcases bH i (xs.toList.zip ys.toList).length with z|z
   .rw[wY z] at hz;cases hz
   .exact hZ▸z
  exact dW (by simpa using hge)
 cases ne with
 |false=>
  show uS _ _ (xO.«tuple.__eq__» _) _ _ _
  wp_walk using uO hl,uO hb,wpAny_forIn_list _ (fun rest c s'=>c.1=none/\s'=⟨hp,g,d,tk,os⟩/\∃i,rest=(xs.toList.zip ys.toList).drop i/\Q (.bool (((vB (min xs.size ys.size)).drop i).all f && xs.size==ys.size)) ⟨hp,g,d,tk,os⟩) _
  case turn=>
   rintro⟨x,y⟩ rest c s' ⟨hc,rfl,i,hz,hR⟩;obtain⟨h1,h2,rfl,rfl,hrest,hd⟩:=turn x y rest i hz;rw[hd,yU] at hR;refine uC (he i h1 h2 _ _ ?_)
   cases hf:f i with
   |true=>
    rw[hf] at hR
    wp_walk
    exact⟨rfl,rfl,i+1,hrest,by simpa using hR⟩
   |false=>
    rw[hf] at hR
    wp_walk
    exact⟨_,rfl,by simpa using hR⟩
  case fin=>
   rintro⟨c1,c2⟩ s' ⟨hc,rfl,i,hz,hR⟩;simp only at hc;subst hc;rw[last i hz] at hR
   wp_walk
   exact⟨_,rfl,by simpa[gT] using hR⟩
  case h=>exact⟨rfl,rfl,0,rfl,by simpa using q⟩
 |true=>
  show uS _ _ (xO.«tuple.__ne__» _) _ _ _
  wp_walk using uO hl,uO hb,wpAny_forIn_list _ (fun rest c s'=>c.1=none/\s'=⟨hp,g,d,tk,os⟩/\∃i,rest=(xs.toList.zip ys.toList).drop i/\Q (.bool (!(((vB (min xs.size ys.size)).drop i).all f && xs.size==ys.size))) ⟨hp,g,d,tk,os⟩) _
  case turn=>
   rintro⟨x,y⟩ rest c s' ⟨hc,rfl,i,hz,hR⟩;obtain⟨h1,h2,rfl,rfl,hrest,hd⟩:=turn x y rest i hz;rw[hd,yU] at hR;refine uC (he i h1 h2 _ _ ?_)
   cases hf:f i with
   |true=>
    rw[hf] at hR
    wp_walk
    exact⟨rfl,rfl,i+1,hrest,by simpa using hR⟩
   |false=>
    rw[hf] at hR
    wp_walk
    exact⟨_,rfl,by simpa using hR⟩
  case fin=>
   rintro⟨c1,c2⟩ s' ⟨hc,rfl,i,hz,hR⟩;simp only at hc;subst hc;rw[last i hz] at hR
   wp_walk
   exact⟨_,rfl,by simpa[gT,bne] using hR⟩
  case h=>exact⟨rfl,rfl,0,rfl,by simpa using q⟩
def RcW.tuples(ne:Bool){xs ys:Array uB}{f:Nat->Bool}(hl:s.heap.IsTuple l xs)(hb:s.heap.IsTuple b ys)(hu:A.units<cLine)(he:∀j (h1:j<xs.size) (h2:j<ys.size),EqW P w A.in1 s xs[j] ys[j] (f j)):
  RcW P w A s ne (.ref l) (.ref b) (ne !=((vB (min xs.size ys.size)).all f && xs.size==ys.size)):=fun E Q q=>by
 obtain⟨⟨c1,d1,e1,s1⟩,ho,hc,n,hd⟩:=id hl;obtain⟨⟨c2,d2,e2,s2⟩,ho2,hc2,m,hd2⟩:=id hb;simp only at hc hd hc2 hd2;subst hc hd hc2 hd2
 cases ne with
 |false=>exact xZ (op:=.Eq) ⟨_,ho,rfl⟩ ⟨_,ho2,rfl⟩ F.slot_tuple_eq (wF F.slot_tuple_eq ⟨_,ho,rfl⟩ F.entry_tuple_eq (jxl (Q:=fun v s'=>v≠ .notImplemented/\Q v s') false f ho ho2 he ⟨(fun x=>nomatch x),q⟩) (F.args_tuple_eq_2 _ _)) hu
 |true=>exact xZ (op:=.NotEq) ⟨_,ho,rfl⟩ ⟨_,ho2,rfl⟩ F.slot_tuple_ne (wF F.slot_tuple_ne ⟨_,ho,rfl⟩ F.entry_tuple_ne (jxl (Q:=fun v s'=>v≠ .notImplemented/\Q v s') true f ho ho2 he ⟨(fun x=>nomatch x),q⟩) (F.args_tuple_ne_2 _ _)) hu
end
end My
namespace My
open PySem PySem.Spec PyProof.Rows L2
variable{kvs:List (Key×V)}{v:V}{h:vN}{a b z:Str}{K:uT}{f g:Str->Option Int}{H:Hp}{n i:Nat}{X:Cx}{l:List Str}{R:It->Hp->Prop}
inductive DEq(K:uT)(H:Hp):Nat->V->V->Bool->Prop
 |same{n:Nat}{a:Addr}:DEq K H n (.ref a) (.ref a) true
 |flat{n:Nat}{x y:V}(hx:qcy x=true)(hy:qcy y=true):DEq K H n x y (eqV x y)
 |ls{n:Nat}{a b:Addr}{xs ys:List V}{e:Nat->Bool}(ha:SqL K H a xs)(hb:SqL K H b ys)(ne:a≠b)(hl:xs.length=ys.length)
   (he:∀j (h1:j<xs.length) (h2:j<ys.length),DEq K H n xs[j] ys[j] (e j)):DEq K H (n+1) (.ref a) (.ref b) ((vB xs.length).all e)
 |lsN{n:Nat}{a b:Addr}{xs ys:List V}(ha:SqL K H a xs)(hb:SqL K H b ys)(ne:a≠b)(hl:xs.length≠ys.length):DEq K H (n+1) (.ref a) (.ref b) false
 |ts{n:Nat}{a b:Addr}{xs ys:List V}{e:Nat->Bool}(ha:SqT K H a xs)(hb:SqT K H b ys)(ne:a≠b)
   (he:∀j (h1:j<xs.length) (h2:j<ys.length),DEq K H n xs[j] ys[j] (e j)):DEq K H (n+1) (.ref a) (.ref b) ((vB (min xs.length ys.length)).all e && xs.length==ys.length)
 |dd{n:Nat}{a b:Addr}{ka kb:List (Key×V)}(ha:Rd H a (.dK ka))(hb:Rd H b (.dK kb))(ne:a≠b)(fa:∀p∈ka,qcy p.2=true)(fb:∀p∈kb,qcy p.2=true):
   DEq K H (n+1) (.ref a) (.ref b) (ka.length==kb.length && ka.all fun p=>(qbx kb p.1).elim false (eqV p.2))
def qfz{xs:List V}{us:List uB}(r:qba xs us){j:Nat}(h1:j<xs.length)(h2:j<us.length):qb8 xs[j] us[j]:=by
 obtain⟨u,e,ru⟩:=r.get (zA h1);rw[zA h2] at e
 cases e
 exact ru
def jfb{k:Key}(h:qbx kvs k=some v):(k,v)∈kvs:=by
 unfold qbx at h;obtain⟨p,hp,rfl⟩:=uY.mp h;have e:=List.find?_some hp;have e':p.1=k:=of_decide_eq_true e;subst e';exact List.mem_of_find?_eq_some hp
def jom{A:vI}{s:uD}{kb:List (Key×V)}{vb:List (Key×uB)}(rb:KV kb vb)(fb:∀p∈kb,qcy p.2=true){ka:List (Key×V)}{va:List (Key×uB)}(ra:KV ka va)(fa:∀p∈ka,qcy p.2=true):
  PySem.W.KeqHits A s vb va (ka.all fun p=>(qbx kb p.1).elim false (eqV p.2)):=by
 induction ra with
 |nil=>exact .nil
 | @cons p q l1 l2 h t ih=>
  obtain⟨k,v⟩:=p;obtain⟨k',u⟩:=q;obtain⟨e,ru⟩:=h;dsimp only at e ru;subst e;have z:=rb.val k;rw[yU];have ih':=ih fun p hp=>fa p (zH _ hp)
  cases hv:qbx kb k with
  |none=>
   rw[hv] at z;have hn:cH vb k=none:=qfp.none_of z;exact .miss hn
  |some y=>
   rw[hv] at z
   cases hu:cH vb k with
   |none=>rw[hu] at z;exact z.elim
   |some yu=>
    rw[hu] at z;exact .hit hu (jhg ru z (fa _ (zN ..)) (fb _ (jfb hv))) ih'
section
variable{X:Cx}{pins:List (Addr×Obj)}{σ:L2.St}{H:Hp}{s:uD}
def PlainL.isList{a:Addr}{its:Array uB}(p:PlainL h a its):h.IsList a its:=by
 obtain⟨o,n,e,c,d,t⟩:=p;exact⟨o,e,c,n,t⟩
def jmn(I:Inv X pins σ H s){n:Nat}{x y:V}{k:Bool}(q:DEq X.K H n x y k):∀(A:vI)(u v:uB),qb8 x u->qb8 y v->A.units+n<cLine->
  EqW X.prog X.w A s u v k/\∀a b,x=.ref a->y=.ref b->a≠b->∀ne:Bool,RcW X.prog X.w A s ne (.ref a) (.ref b) (ne !=k):=by
 have both:∀{A:vI} {a b:Addr} {k:Bool},a≠b->(∀ne:Bool,RcW X.prog X.w A s ne (.ref a) (.ref b) (ne !=k))->
   EqW X.prog X.w A s (.ref a) (.ref b) k/\∀a' b',V.ref a=.ref a'->V.ref b=.ref b'->a'≠b'->∀ne:Bool,RcW X.prog X.w A s ne (.ref a') (.ref b') (ne !=k):=fun {A a b k} ne R=>
  ⟨EqW.refs ne (by have z:=R false;simpa using z),fun a' b' e1 e2 _=>by cases e1;cases e2;exact R⟩
 induction q with
 | @same n a=>
  intro A u v ru rv hu;obtain rfl:u=uP a:=ru;obtain rfl:v=uP a:=rv;exact⟨EqW.of (SeqAt.EqAt.same _),fun a' b' e1 e2 ne=>by cases e1;cases e2;exact absurd rfl ne⟩
 |flat hx hy=>
  intro A u v ru rv hu;exact⟨EqW.of (jhg ru rv hx hy),fun a b e _ _=>by subst e;cases hx⟩
 | @ls n a b xs ys e ha hb ne hl he ih=>
  intro A u v ru rv hu;obtain rfl:u=uP a:=ru;obtain rfl:v=uP b:=rv;obtain⟨its,r1,p1,_⟩:=I.list ha;obtain⟨its2,r2,p2,_⟩:=I.list hb;have l1:=r1.length;have l2:=r2.length;refine both ne fun nb=>?_;have z:=RcW.lists (P:=X.prog) (w:=X.w) (A:=A) (s:=s) nb (f:=e) (PlainL.isList p1) (PlainL.isList p2) (by rw[zI,zI];omega) ↑∅ fun j h1 h2=>by
   have k1:j<its.length:=by simpa using h1
   have k2:j<its2.length:=by simpa using h2
   have w:=(ih j ↑∅ ↑∅ A.in1 its[j] its2[j] (qfz r1 ↑∅ k1) (qfz r2 ↑∅ k2) (by show A.units+1+n<cLine;omega)).1;simpa using w
  rw[zI,<-l1] at z;exact z
 | @lsN n a b xs ys ha hb ne hl=>
  intro A u v ru rv hu;obtain rfl:u=uP a:=ru;obtain rfl:v=uP b:=rv;obtain⟨its,r1,p1,_⟩:=I.list ha;obtain⟨its2,r2,p2,_⟩:=I.list hb;have l1:=r1.length;have l2:=r2.length;exact both ne fun nb=>RcW.listsN nb (PlainL.isList p1) (PlainL.isList p2) (by rw[zI,zI];simp;omega) ↑∅
 | @ts n a b xs ys e ha hb ne he ih=>
  intro A u v ru rv hu;obtain rfl:u=uP a:=ru;obtain rfl:v=uP b:=rv;obtain⟨its,r1,p1,_⟩:=I.tuple ha;obtain⟨its2,r2,p2,_⟩:=I.tuple hb;have l1:=r1.length;have l2:=r2.length;refine both ne fun nb=>?_;have z:=RcW.tuples (P:=X.prog) (w:=X.w) (A:=A) (s:=s) nb (f:=e) p1 p2 ↑∅ fun j h1 h2=>by
   have k1:j<its.length:=by simpa using h1
   have k2:j<its2.length:=by simpa using h2
   have w:=(ih j ↑∅ ↑∅ A.in1 its[j] its2[j] (qfz r1 ↑∅ k1) (qfz r2 ↑∅ k2) (by show A.units+1+n<cLine;omega)).1;simpa using w
  rw[zI,zI,<-l1,<-l2] at z;exact z
 | @dd n a b ka kb ha hb ne fa fb=>
  intro A u v ru rv hu;obtain rfl:u=uP a:=ru;obtain rfl:v=uP b:=rv;obtain⟨_,ga,va,ra,da⟩:=qfd I.hok ha;obtain⟨_,gb,vb,rb,db⟩:=qfd I.hok hb;have l1:=ra.length;have l2:=rb.length;refine both ne fun nb E Q q=>?_;have hits:=jom (A:=A.in1) (s:=s) rb fb ra fa;rw[l1,l2] at q
  cases nb with
  |false=>exact PySem.W.keq_eq ga gb da db ↑∅ (fun _=>hits) (by simpa using q)
  |true=>exact PySem.W.keq_ne ga gb da db ↑∅ (fun _=>hits) (by simpa using q)
def jvo(K:uT):R2:=fun x y H Q=>∃a b n k,x=.ref a/\y=.ref b/\a≠b/\n<=8/\DEq K H n (.ref a) (.ref b) k/\Q (.bl k) H
def jc2(hu:X.A.units+8<cLine):OpR X (wC .Eq) (jvo X.K):=by
 intro pins s σ H x y v u Q I rx ry h;obtain⟨a,b,n,k,rfl,rfl,ne,hn,q,z⟩:=h
 cases rx
 cases ry
 have r:=(jmn I q X.A _ _ rfl rfl ↑∅).2 a b rfl rfl ne false X.xe (EP X pins σ Q);rw[Bool.false_bne] at r;exact r ⟨.bl k,H,I,rfl,z⟩
end
section
variable{X:Cx}
def jh2(K:uT):List V->Hp->VK->Prop:=fun xs H Q=>∃p ys,xs=[.ref p]/\(SqL K H p ys\/SqT K H p ys)/\∀l,H l=none->Q (.ref l) (upd H l (.lst ys))
def qcg:qcb X (.type "list") (jh2 X.K):=jco
end
section
variable{K:uT}{σ:L2.St}{H:Hp}{Q:VK}{p l b:Addr}{ys xs zs:List V}{to:TE}{t:TA}{T:String}{r:V->List V->Hp->VK->Prop}{x v:V}
def qd6(h:SqL K H p ys)(q:∀l,H l=none->Q (.ref l) (upd H l (.lst ys))):jh2 K [.ref p] H Q:=⟨p,ys,rfl,.inl h,q⟩
def jyp(h:to σ H fun x H1=>tyV K T x H1/\t σ H1 fun xs H2=>r x xs H2 Q):tBM K T r to t σ H Q:=h
def jvp(h:to σ H fun x H1=>tyV K T x H1/\r x [] H1 Q):jw9 K T r to σ H Q:=h
def jvq{P:Prop}(h:SqL K H p ys)(q:P):tyV K "list" (.ref p) H/\P:=⟨.inl ⟨rfl,_,h⟩,q⟩
def jkt(h:H l=some (.lst xs))(hz:xs.length<sizeLine)(q:Q .non (upd H l (.lst (xs++[v])))):jhh (.ref l) [v] H Q:=⟨l,xs,v,rfl,rfl,h,hz,q⟩
def jon(h:H l=some (.lst xs))(h':H b=some (.lst zs))(hz:xs.length+zs.length<=sizeLine)(q:∀p,H p=none->Q (.ref p) (upd H p (.lst (xs++zs)))):jxa (.ref l) (.ref b) H Q:=⟨l,b,xs,zs,rfl,rfl,h,h',hz,q⟩
end
def jh3(K:uT)(C f:Addr):Bool:=match K.lookup C with
 |some ⟨.type "type",_,.cls cd,sl⟩=>(match cd.mro,sl.toList with
  | .ref C'::bm,[_,_,_,_,some (.builtin n),_]=>C'==C && n== "ValueError.__new__" && !cd.hasDel && PySem.W.tailIn K [.type "ValueError",.type "Exception",.type "BaseException",.type "object"] bm && PySem.W.nsOkIn K cd.ns && xK K cd.ns "__init__"==some (some (.ref f))
  |_,_=>false)
 |_=>false
def joo{C f:Addr}(q:jh3 K C f=true)(hf:isFn K (.ref f)=true):XClI K C f:=by
 refine⟨?_,hf⟩;unfold jh3 at q
 split at q
 .rename_i dd cd sl ho
  split at q
  .rename_i C' bm k0 k1 k2 k3 n k5 hm hs;simp only[vO,beq_iff_eq,cT] at q;obtain⟨⟨⟨⟨⟨rfl,rfl⟩,hdel⟩,ht⟩,hok⟩,hni⟩:=q;obtain⟨nm,bs,mro,ns,qn,hd,sn,sub,ab,col,del⟩:=cd;dsimp only at hm hdel hok hni;subst hm hdel;have hsl:sl= #[k0,k1,k2,k3,some (.builtin "ValueError.__new__"),k5]:=by
    obtain⟨l⟩:=sl;simp only at hs;rw[hs]
   subst hsl;unfold PySem.W.nsOkIn at hok
   split at hok
   .rename_i c1 d1 es ep sl1 hN;have hSK:StrKeys es:=fun e he=>by
     have z:=gI.mp hok e he
     split at z
     .rename_i n t q;exact⟨n,t,q⟩
     .cases z
    have hNs:∀h:vN,K.In h->h.Ns ns (fun x=>fQ es x):=fun h X=>⟨_,es,ep,X _ _ hN,rfl,hSK,fun _=>rfl⟩;refine⟨nm,qn,ns,bs,bm,hd,sn,sub,ab,col,dd,k0,k1,k2,k3,k5,fun x=>fQ es x,ho,hNs,?_,fun h X=>PySem.W.tail_of_in X ht⟩;unfold xK at hni;rw[hN] at hni;dsimp only at hni
    split at hni
    .rename_i hf;show fQ es "__init__"=some (.ref f);unfold fQ findBy;rw[<-fR,hf];exact congrArg some (uW (uW hni))
    .first|(split at hni<;>cases hni) |simp at hni
   .cases hok
  .cases q
 .cases q
structure jvr(k:Nat)(A:vI):Prop where
 dp:A.depth+3*k+5<recursionLimit
 un:A.units+16*k+200<cLine
structure jyq(P:uX)(w:vG)(K:uT)(mg:Str->Option uB)(base:vN)(k:Nat)(f:Addr)(fd:uL)(ps:List Str)(sp:Sp):Prop where
 len:∀vs H Q E,sp vs H Q E->vs.length=ps.length
 run:∀(a:Addr)(A:vI)(outer:List Env)(s:uD)(H:Hp)(args:Args)(us:List uB)(vs:List V)(Q:VK)(E:XK),jvr k A->A.handled=some (.ref a)->jl7 P w K mg base A outer s H->dQ s fd args (ps.zip us)->qba vs us->sp vs H Q E->
  cG (uU P w) A (.call (.ref f) args) (CR CX0 outer P w H s Q E) s
section
variable{X:Cx}
def jxm(K:uT):R2:=fun x y H Q=>∃a b n k,x=.ref a/\y=.ref b/\a≠b/\n<=8/\DEq K H n (.ref a) (.ref b) k/\Q (.bl (!k)) H
def jh4(hu:X.A.units+8<cLine):OpR X (wC .NotEq) (jxm X.K):=by
 intro pins s σ H x y v u Q I rx ry h;obtain⟨a,b,n,k,rfl,rfl,ne,hn,q,z⟩:=h
 cases rx
 cases ry
 have r:=(jmn I q X.A _ _ rfl rfl ↑∅).2 a b rfl rfl ne true X.xe (EP X pins σ Q);rw[Bool.true_bne] at r;exact r ⟨.bl (!k),H,I,rfl,z⟩
end
section
variable{K:uT}{H:Hp}{Q:VK}{a b:Addr}{n:Nat}{k:Bool}
def jgh(ne:a≠b)(hn:n<=8)(q:DEq K H n (.ref a) (.ref b) k)(h:Q (.bl k) H):jvo K (.ref a) (.ref b) H Q:=⟨a,b,n,k,rfl,rfl,ne,hn,q,h⟩
def jh5(ne:a≠b)(hn:n<=8)(q:DEq K H n (.ref a) (.ref b) k)(h:Q (.bl (!k)) H):jxm K (.ref a) (.ref b) H Q:=⟨a,b,n,k,rfl,rfl,ne,hn,q,h⟩
end
def hu8{k:Nat}{A:vI}(r:ja0 k A):A.units+8<cLine:=by have:=r.un;omega
def jmo(K:uT)(H:Hp)(n:Nat):List V->List V->Prop
 | [],[]=>True
 |x::xs,y::ys=>DEq K H n x y true/\jmo K H n xs ys
 |_,_=>False
theorem jmo.len{K:uT}{H:Hp}{n:Nat}:∀{xs ys:List V},jmo K H n xs ys->xs.length=ys.length
 | [],[],_=>rfl
 |_::_,_::_,h=>congrArg (·+1) (jmo.len h.2)
 | [],_::_,h=>h.elim
 |_::_,[],h=>h.elim
theorem jmo.get{K:uT}{H:Hp}{n:Nat}:∀{xs ys:List V},jmo K H n xs ys->∀j (h1:j<xs.length) (h2:j<ys.length),DEq K H n xs[j] ys[j] true
 | [],[],_,j,h1,_=>absurd h1 (cA j)
 |_::_,_::_,h,0,_,_=>h.1
 |_::_,_::_,h,j+1,h1,h2=>jmo.get h.2 j (xP h1) (xP h2)
 | [],_::_,h,_,_,_=>h.elim
 |_::_,[],h,_,_,_=>h.elim
def jop(z:Str):DEq K H n (.str z) (.str z) true:=by
 have w:=DEq.flat (K:=K) (H:=H) (n:=n) (x:=.str z) (y:=.str z) rfl rfl;have e:eqV (.str z) (.str z)=true:=by simp[eqV]
 rw[e] at w;exact w
def jsa(b:Bool):DEq K H n (.bl b) (.bl b) true:=by
 have w:=DEq.flat (K:=K) (H:=H) (n:=n) (x:=.bl b) (y:=.bl b) rfl rfl;have e:eqV (.bl b) (.bl b)=true:=by cases b<;>rfl
 rw[e] at w;exact w
def SameBut(L:Addr)(H H':Hp):Prop:=∀b o,b≠L->H b=some o->H' b=some o
def SameBut.at{H':Hp}{L:Addr}{o:HO}(e:SameBut L H H'):SameBut L H (upd H' L o):=fun b u hb q=>by
 rw[qa7 hb];exact e b u hb q
def SameBut.of{H':Hp}{L:Addr}(s:qas H H'):SameBut L H H':=fun b u _ q=>s b u q
def qgq(H:Hp)(a:Addr):Prop:=∀o u,H a≠some (.frz o u)
section
variable{X:Cx}{pins:List (Addr×Obj)}{σ:L2.St}{H H':Hp}{s:uD}{a:Addr}{kvs:List (Key×V)}{o:Obj}
def Inv.freeze(I:Inv X pins σ H s)(e:H a=some (.dK kvs))(ho:s.heap.get? a=some o):Inv X pins σ (upd H a (.frz o (.dK kvs))) s:=by
 have ok:=I.hok a _ e;have z:=I.write (x:=a) (e:=a) (o:=.frz o (.dK kvs)) (h':=s.heap) (t':=s.toks) (by rw[e];exact wM) (.inl rfl) (fun _ _ _ q=>q) ⟨o,ho⟩ ⟨ho,ok⟩;exact z
def Inv.thaw(I:Inv X pins σ H s)(e:H a=some (.frz o (.dK kvs)))(n0:qgq X.H₀ a):Inv X pins σ (upd H a (.dK kvs)) s:=by
 have ne:∀b,H b=none->b≠a:=fun b q z=>by subst z;rw[e] at q;cases q
 have nk:∀b u,H b=some u->(∀o' u',u≠ .frz o' u')->b≠a:=fun b u q z w=>by subst w;rw[e] at q;cases q;exact z _ _ rfl
 refine⟨I.ok,I.os,I.bare,⟨I.base.keep,I.base.slot,fun b ob q n hx=>?_,I.base.there,fun b xs q=>?_,fun b ob u q=>?_,fun b ps q=>?_⟩,I.loc,I.cell,?_,fun x c q=>?_,fun p hp=>?_,fun b u q=>?_,I.len⟩
 .have z:=I.base.free b ob q n hx;rw[qa7 (ne b z)];exact z
 .have z:=I.base.tups b xs q;rw[qa7 (nk b _ z (by intro _ _ h;cases h))];exact z
 .have z:=I.base.frzs b ob u q;rw[qa7 (fun w=>by subst w;exact n0 _ _ q)];exact z
 .obtain⟨m,z⟩:=I.base.tbls b ps q;exact⟨m,by rw[qa7 (nk b _ z (by intro _ _ h;cases h))];exact z⟩
 .have z:=I.free;rw[qa7 (ne _ z)];exact z
 .have z:=I.freeC x c q;rw[qa7 (ne _ z)];exact z
 .obtain⟨p1,p2,p3⟩:=I.pin p hp;exact⟨p1,by rw[qa7 (ne _ p2)];exact p2,p3⟩
 .by_cases hb:b=a
  .subst hb;rw[qa1] at q
   cases q
   exact(I.hok b _ e).2
  .rw[qa7 hb] at q;exact(I.hok b u q).stay (fun _ _ _ r=>r) (fun c r=>by rw[qa7 (nk c _ r (by intro _ _ h;cases h))];exact r) fun c xs r=>by rw[qa7 (nk c _ r (by intro _ _ h;cases h))];exact r
def jku(H0 H H':Hp):Prop:=H'=H\/∃a o kvs,H a=some (.frz o (.dK kvs))/\qgq H0 a/\H'=upd H a (.dK kvs)
def Inv.thawed(I:Inv X pins σ H s)(t:jku X.H₀ H H'):Inv X pins σ H' s:=by
 rcases t with rfl|⟨a,o,kvs,e,n,rfl⟩
 .exact I
 .exact Inv.thaw I e n
end
section
variable{X:Cx}{st:Stmt}{e:vT}{t:TS}{te:TE}
def thE(H0:Hp)(D:jbe):jbe:={nx:=fun σ H=>∃H',jku H0 H H'/\D.nx σ H',rt:=fun v H=>∃H',jku H0 H H'/\D.rt v H',bk:=fun σ H=>∃H',jku H0 H H'/\D.bk σ H',ct:=fun σ H=>∃H',jku H0 H H'/\D.ct σ H'}
def jxn(H0:Hp)(t:TS):TS:=fun D σ H=>t (thE H0 D) σ H
def jfc(h:PS X st t):PS X st (jxn X.H₀ t):=fun pins s σ H D I q=>thn (h pins s σ H _ I q) fun f s' hs=>by
 cases f with
 |next=>obtain⟨σ',H1,J,H2,th,q⟩:=hs;exact⟨σ',H2,Inv.thawed J th,q⟩
 |brk=>obtain⟨σ',H1,J,H2,th,q⟩:=hs;exact⟨σ',H2,Inv.thawed J th,q⟩
 |cont=>obtain⟨σ',H1,J,H2,th,q⟩:=hs;exact⟨σ',H2,Inv.thawed J th,q⟩
 |ret u=>obtain⟨v,σ',H1,J,r,H2,th,q⟩:=hs;exact⟨v,σ',H2,Inv.thawed J th,r,q⟩
def jxo(H0:Hp)(t:TE):TE:=fun σ H Q=>t σ H fun v H1=>∃H',jku H0 H1 H'/\Q v H'
def jsb(h:PE X e te):PE X e (jxo X.H₀ te):=fun pins s σ H Q I q=>thn (h pins s σ H _ I q) fun u s' ⟨v,H1,J,r,H2,th,q⟩=>⟨v,H2,Inv.thawed J th,r,q⟩
end
def kvget{κ:Type}{kvs:List (κ×V)}{vs:List (κ×uB)}(r:KV kvs vs):∀{i:Nat} {k:κ} {v:V},kvs[i]?=some (k,v)->∃u,vs[i]?=some (k,u)/\qb8 v u:=by
 induction r with
 |nil=>intro i k v e;simp at e
 |cons h t ih=>
  intro i k v e
  cases i with
  |zero=>
   simp only[aW,cU] at e⊢;subst e;obtain⟨h1,h2⟩:=h;exact⟨_,Prod.ext h1.symm rfl,h2⟩
  |succ i=>
   simp only[aY] at e⊢;exact ih e
def jsc{k:Key}{u:uB}(h:jcb k u=true):qb8 (kV k) u:=by
 rcases qbb h with⟨i,t,rfl,rfl⟩|⟨x,t,rfl,rfl⟩
 .exact⟨t,rfl⟩
 .exact⟨t,rfl⟩
def ItD(d:Addr)(o:Obj)(kvs:List (Key×V)):It:=
 ⟨fun i H=>H d=some (.frz o (.dK kvs))/\i<kvs.length,fun i H x H'=>H'=H/\∃k v,kvs[i]?=some (k,v)/\x=kV k,fun i H=>H d=some (.frz o (.dK kvs))/\kvs.length<=i⟩
def jmp{P:uX}{w:vG}{H:Hp}{h:vN}{d:Addr}{o:Obj}{kvs:List (Key×V)}{es:Array fE}{ep:Nat}(ok:HOk P w H h)(e:H d=some (.frz o (.dK kvs)))(hd:o.data=.dict es ep):
  ∃vs,KV kvs vs/\h.DictAt (qb4 P w) d vs ep:=by
 obtain⟨ho,_,_,vs,rel,o',es',ep',ho',ex,hd',ks,ps,nd⟩:=ok d _ e;rw[ho] at ho'
 cases ho'
 rw[hd] at hd'
 cases hd'
 exact⟨vs,rel,o,es,ho,ex,hd,ks,ps,nd⟩
def jc3{P:uX}{w:vG}{K:uT}{tg:vT}{o:Obj}{kvs:List (Key×V)}{es:Array fE}{ep:Nat}(d it:Addr)(hd:o.data=.dict es ep):jl3 P w K tg (ItD d o kvs) [it] it (fun i h=>h.IsKeyIter it d i kvs.length ep) where
 mem:=by simp
 obj:=fun i h st b hb=>by
  have e:b=it:=by simpa using hb
  subst e;obtain⟨ob,e,c,dd⟩:=st;exact⟨ob,e,fun v z=>by rw[dd] at z;cases z⟩
 keep:=fun i h h' st k=>st.at fun ob e=>k it (by simp) ob e
 item:=by
  intro X hP hw hK hc i pins s σ H E I hf st hg;subst hP hw hK;obtain⟨hfz,hi⟩:=hg;obtain⟨vs,rel,dat⟩:=jmp I.hok hfz hd;obtain⟨f0,f1,f2,f3,f4,f5⟩:=hf it (by simp);have hl:=rel.length;obtain⟨u,hu,ru⟩:=kvget rel (i:=i) (k:=kvs[i].1) (v:=kvs[i].2) (by rw[zA hi]);rw[hl] at st;refine wpAny_pyNext_dict_item st dat hu fun key h' hkey st' hs'=>?_;have I1:Inv X pins σ H {s with heap:=h'}:=I.turned (t':=s.toks) (fun b ob hb e=>hs'.extBut b ob hb e) f0 f1 f3 f4 f5;obtain⟨ob,e,c,dd⟩:=id st';exact⟨key,rfl,jgy (s:={s with heap:=h'}) e c dd ∅ ⟨kV kvs[i].1,H,I1,jsc hkey,⟨rfl,kvs[i].1,kvs[i].2,zA hi,rfl⟩,by rw[hl];exact st',fun b hb=>(hf b hb).1⟩⟩
 done:=by
  intro X hP hw hK hc i pins s σ H E I hf st hg;subst hP hw hK;obtain⟨hfz,hi⟩:=hg;obtain⟨vs,rel,dat⟩:=jmp I.hok hfz hd;obtain⟨f0,f1,f2,f3,f4,f5⟩:=hf it (by simp);have hl:=rel.length;rw[hl] at st hi;exact wpAny_pyNext_dict_end (I.ok.hd hc) st dat (by simpa using hi) fun h' eb=>⟨rfl,I.turned (t':=s.toks) (fun b ob hb e=>eb b ob hb e) f0 f1 f3 f4 f5⟩
 self:=fun _ _ _ _ _ st h=>wpAny_pyIter_keyiter st h
def jvs(x:V)(H:Hp)(R:It->Hp->Prop):Prop:=∃a kvs,x=.ref a/\((H a=some (.dK kvs)/\∀o,R (ItD a o kvs) (upd H a (.frz o (.dK kvs))))\/∃o,H a=some (.frz o (.dK kvs))/\R (ItD a o kvs) H)
def jsd(td:TE):TI:=fun σ H R=>td σ H fun x H1=>jvs x H1 R
def jmq{P:uX}{w:vG}{d:Addr}(ok:qbj P w H h d (.dK kvs)):∃o es ep vs,h.get? d=some o/\o.data=.dict es ep/\KV kvs vs/\h.DictAt (qb4 P w) d vs ep/\(d==wQ)=false:=by
 obtain⟨_,hs,vs,rel,o,es,ep,ho,ex,hd,ks,ps,nd⟩:=ok;exact⟨o,es,ep,vs,ho,hd,rel,⟨o,es,ho,ex,hd,ks,ps,nd⟩,hs⟩
def qf1{tg l:vT}{tl:TE}(hl:PE X l tl):PI X tg l (jsd tl):=by
 intro pins s σ H R I h;refine thn (hl pins s σ H _ I h) fun v s1 ⟨x,H1,I1,r1,q1⟩=>?_;obtain⟨a,kvs,e,q⟩:=q1;subst e
 cases r1
 have ok:qbj X.prog X.w H1 s1.heap a (.dK kvs):=by
  rcases q with⟨e,_⟩|⟨o,e,_⟩
  .exact I1.hok a _ e
  .exact(I1.hok a _ e).2
 obtain⟨o,es,ep,vs,ho,hd,rel,dat,hs⟩:=jmq ok;have hlen:=rel.length;refine wpAny_pyIter_dict hs dat ?_;have it0:(s1.heap.push {cls:=.type "dict_keyiterator",data:=.fields #[.ref a,.int 0 0,.int vs.length 0,.int ep 0]}).IsKeyIter ↑s1 a 0 kvs.length ep:=by
  rw[hlen];exact⟨_,uQ _ rfl,rfl,rfl⟩
 rcases q with⟨e,q⟩|⟨o',e,q⟩
 .have I2:=Inv.freeze I1 e ho;refine⟨↑s1,[↑s1],_,_,_,rfl,I2.kept (t':=s1.toks) fun b ob e=>uE _ e,jc3 (kvs:=kvs) a _ hd,it0,fun b hb=>?_,q o⟩;have e:b=↑s1:=by simpa using hb
  subst e;exact I2.fpOk (uH _) (I2.hok.fresh (uH _))
 .have eo:o'=o:=by
   have z:=(I1.hok a _ e).1;rw[ho] at z
   cases z
   rfl
  subst eo;refine⟨↑s1,[↑s1],_,_,_,rfl,I1.kept (t':=s1.toks) fun b ob e=>uE _ e,jc3 (kvs:=kvs) a _ hd,it0,fun b hb=>?_,q⟩;have e:b=↑s1:=by simpa using hb
  subst e;exact I1.fpOk (uH _) (I1.hok.fresh (uH _))
section
variable{σ:L2.St}{H H':Hp}{D:jbe}{t:TS}{te tl:TE}{Q:VK}{g:TG}{tb:TS}{a:Addr}{o:Obj}{kvs:List (Key×V)}{H0:Hp}{v:V}
def jvt(h:t (thE H0 D) σ H):jxn H0 t D σ H:=h
def jfd(th:jku H0 H H')(h:D.nx σ H'):(thE H0 D).nx σ H:=⟨H',th,h⟩
def jvu(h:te σ H fun v H1=>∃H',jku H0 H1 H'/\Q v H'):jxo H0 te σ H Q:=h
def jh6(e:H a=some (.frz o (.dK kvs)))(n:qgq H0 a):jku H0 H (upd H a (.dK kvs)):=.inr ⟨a,o,kvs,e,n,rfl⟩
def jyr(h:tl σ H fun x H1=>jvs x H1 R):jsd tl σ H R:=h
def jh7(e:H a=some (.dK kvs))(h:∀o,R (ItD a o kvs) (upd H a (.frz o (.dK kvs)))):jvs (.ref a) H R:=⟨a,kvs,rfl,.inl ⟨e,h⟩⟩
def jfe(Pv:Nat->L2.St->Hp->Prop)(h0:Pv 0 σ H)(hl:∀i σ H,i<=kvs.length->Pv i σ H->H a=some (.frz o (.dK kvs)))
  (hs:∀i k v σ H,kvs[i]?=some (k,v)->Pv i σ H->g (kV k) σ H fun σ2 H2=>tb {nx:=Pv (i+1),rt:=D.rt,bk:=D.nx,ct:=Pv (i+1)} σ2 H2)(hd:∀σ H,Pv kvs.length σ H->D.nx σ H):FOR (ItD a o kvs) g tb D σ H:=by
 refine⟨fun i m σ H=>m=kvs.length-i/\i<=kvs.length/\Pv i σ H,⟨kvs.length,rfl,wI _,h0⟩,?_⟩;rintro i m σ H ⟨rfl,hi,p⟩;have q:=hl i σ H hi p;by_cases hlt:i<kvs.length
 .refine .inr ⟨⟨q,hlt⟩,Pv (i+1),fun σ' H' p'=>⟨kvs.length-(i+1),↑∅,rfl,hlt,p'⟩,fun x H' y=>?_⟩;obtain⟨e,k,v,hk,rfl⟩:=y;subst e;exact hs i k v σ _ hk p
 .have e:i=kvs.length:=Nat.le_antisymm hi (gZ hlt);subst e;exact .inl ⟨⟨q,uH _⟩,hd σ H p⟩
end
def jh8{P:uX}{w:vG}{a:Addr}{o:HO}(x:qbj P w H h a o):∃u,h.get? a=some u:=by
 induction o with
 |lst xs=>obtain⟨_,_,_,_,e⟩:=x;exact⟨_,e⟩
 |tup xs=>obtain⟨_,_,_,ob,e,_⟩:=x;exact⟨_,e⟩
 |dK kvs=>obtain⟨_,_,_,_,o,_,_,e,_⟩:=x;exact⟨_,e⟩
 |dT kvs=>obtain⟨_,_,_,_,o,_,_,e,_⟩:=x;exact⟨_,e⟩
 |set S n=>obtain⟨o,_,_,_,e,_⟩:=x;exact⟨_,e⟩
 |ins C dx fs=>obtain⟨_,_,_,e,_⟩:=x;exact⟨_,e⟩
 |own y=>exact x
 |xd fs=>obtain⟨_,⟨_,_,_,e,_⟩,_⟩:=x;exact⟨_,e⟩
 |rng lo hi=>obtain⟨_,_,_,e⟩:=x;exact⟨_,e⟩
 |frz ob u ih=>exact⟨_,x.1⟩
 |tbl ps=>exact⟨_,x⟩
 |met f y=>exact⟨_,x⟩
 |ext φ=>exact x.2.1
def Inv.laidN{X:Cx}{pins:List (Addr×Obj)}{σ:L2.St}{H:Hp}{s:uD}{h':vN}{a:Addr}{o:HO}{t':Nat}(I:Inv X pins σ H s)(k:∀b u,s.heap.get? b=some u->h'.get? b=some u)(hg:s.heap.get? a=none)(new:qbj X.prog X.w (upd H a o) h' a o):
  H a=none/\Inv X pins σ (upd H a o) {s with heap:=h',toks:=t'}:=by
 have hn:H a=none:=by
  cases q:H a with
  |none=>rfl
  |some u=>obtain⟨v,e⟩:=jh8 (I.hok a u q);rw[hg] at e;cases e
 refine⟨hn,I.un ⟨fun b u q _ _ _=>k b u q,fun b u q _ _ _=>⟨u.slots,k b u q⟩,fun b u q n _=>by rw[qa7 (fun z=>by subst z;rw[hg] at q;cases q)];exact n,fun b u q _=>⟨u,k b u q⟩,fun b xs q=>by rw[qa7 (qa8 q hn)];exact q,
  fun b u xs q=>by rw[qa7 (qa8 q hn)];exact q,fun b ps q=>⟨#[],by rw[qa7 (qa8 q hn),q];simp⟩⟩ fun b u e=>?_⟩
 by_cases hb:b=a
 .subst hb;rw[qa1] at e;cases e;exact new
 .rw[qa7 hb] at e;exact(I.hok b u e).stay (fun c v _ q=>k c v q) (fun c q=>by rw[qa7 (qa8 q hn)];exact q) fun c xs q=>by rw[qa7 (qa8 q hn)];exact q
section
variable{X:Cx}
def jh9:List V->Hp->VK->Prop:=fun xs H Q=>∃p kvs,xs=[.ref p]/\Rd H p (.dK kvs)/\∀q,H q=none->Q (.ref q) (upd H q (.dK kvs))
def qc4:qcb X (.type "dict") jh9:=by
 intro pins s σ H xs us Q I hv h;obtain⟨p,kvs,rfl,e,q⟩:=h;obtain⟨u,rfl,ru⟩:=hv.one
 cases ru
 exact jkq I e fun l s' hl I'=>⟨.ref l,_,I',rfl,q l hl⟩
theorem qg2:∀{ss:List Str} {us:List uB},qba (ss.map V.str) us->gM us ss
 | [],_,r=>by cases r;exact .nil
 |x::ss,_,r=>by
  cases r with
  |cons h t=>obtain⟨k,rfl⟩:=h;exact .cons x k (qg2 t)
theorem qeu:∀{us:List uB} {ss:List Str},gM us ss->qba (ss.map V.str) us
 |_,_,.nil=> .nil
 |_,_,.cons x t h=> .cons ⟨t,rfl⟩ (qeu h)
def jmr(K:uT):List V->Hp->VK->Prop:=fun xs H Q=>∃p ss,xs=[.ref p]/\SqL K H p (ss.map V.str)/\ss.length<64/\∀l ss',H l=none->ss'.Perm ss->sortedS ss'=true->Q (.ref l) (upd H l (.lst (ss'.map V.str)))
def qee:qcb X (.builtin "sorted") (jmr X.K):=by
 intro pins s σ H xs us Q I hv h;obtain⟨p,ss,rfl,hS,hz,q⟩:=h;obtain⟨u,rfl,ru⟩:=hv.one
 cases ru
 obtain⟨its,rv,pl,hz'⟩:=I.list hS;have hlen:=rv.length;rw[zB] at hlen;refine sorted_strs (vs:=its) (PlainL.isList pl) (qg2 rv) ↑∅ fun out ss' a1 a2 a3=>?_;obtain⟨e,he⟩:=sortedAll_at s.heap its out;have hl2:=a2.length_eq;have I2:=I.laid (a:=↑s+1) (o:=.lst (ss'.map V.str)) (t':=s.toks) (fun b ob hb=>sortedAll_old hb) (xH _) ⟨by rw[zB,wJ];omega,out.toList,e,qeu a1,by simpa[seqObj] using he⟩;exact⟨.ref _,_,I2,rfl,q _ ss' (I.hok.fresh (xH _)) a2 a3⟩
def jms:List V->Hp->VK->Prop:=fun xs H Q=>∃p kvs ss,xs=[.ref p]/\Rd H p (.dK kvs)/\kvs.map (·.1)=ss.map uV/\ss.length<64/\∀l ss',H l=none->ss'.Perm ss->sortedS ss'=true->Q (.ref l) (upd H l (.lst (ss'.map V.str)))
def jia{ss:List Str}{us:List uB}(hl:us.length=ss.length)(h:∀(j:Nat)(u:uB),us[j]?=some u->∃x,ss[j]?=some x/\jcb (.inr x) u=true):gM us ss:=by
 induction us generalizing ss with
 |nil=>cases ss with
  |nil=>exact .nil
  |cons _ _=>simp at hl
 |cons u us ih=>cases ss with
  |nil=>simp at hl
  |cons x ss=>
   obtain⟨y,hy,hk⟩:=h 0 u rfl;simp only[aW,cU] at hy;subst hy;rcases qbb hk with⟨i,t,e,_⟩|⟨z,t,e,rfl⟩
   .cases e
   .cases e
    exact .cons x t (ih (by simpa using hl) fun j v hv=>by have:=h (j+1) v (by simpa using hv);simpa using this)
def qfy(hc:X.calm=true):qcb X (.builtin "sorted") jms:=by
 intro pins s σ H xs us Q I hv h;obtain⟨p,kvs,ss,rfl,hR,hk,hz,q⟩:=h;obtain⟨u,rfl,ru⟩:=hv.one
 cases ru
 obtain⟨o,es,ep,vs,ho,hd,rel,dat,hs⟩:=jmq (hR.ok I.hok);have hlen:=rel.length;have hks:=rel.keys;have hl2:kvs.length=ss.length:=by have:=congrArg wV hk;simpa using this
 refine Calls.call_function_entry kind_sorted plain_sorted entry_sorted (args_sorted1 _) ?_;unfold xO.«sorted»;refine uC (m:=checkCount "sorted" 1 1 _) (uF ?_);refine uC (PySem.W.kdu_collect (A:=X.A.in1) (PySem.W.kdl_dict (knd:=qb4 X.prog X.w) (kvs:=vs) (ep:=ep) hs) (I.ok.hd hc) dat (by rw[wJ];omega) fun h' tk acc hkeep hacc=>?_);have hal:acc.toList.length=vs.length:=by rw[cC];exact hacc.1
 refine uC (wpAny_newList ?_ (by rw[hal,wJ];omega));have hS:gM acc.toList ss:=by
  refine jia ↑∅ fun j v hv=>?_;obtain⟨k,x,hx,hkv⟩:=hacc.2 j v (by rw[<-xW];exact hv);have e1:(vs.map (·.1))[j]?=some k:=by rw[zC,hx];rfl
  rw[<-hks,hk,zC] at e1;obtain⟨z,hz1,rfl⟩:=uY.mp e1;exact⟨z,hz1,hkv⟩
 have hoL:(h'.push {cls:=.type "list",data:=.seq acc.toList.toArray}).get? h'.objs.size=some (seqObj "list" acc.toList.toArray 0):=uQ _ rfl;refine uC (wR (wF slot_list_sort ⟨_,hoL,rfl⟩ entry_list_sort (list_sort_treeK strKind_oneLt hoL hS.keysOf (fun v₁ v₂ rest e=>keyKind_strs (by rw[<-e];exact hS)) ↑∅ fun st' a1 a2=>⟨_,rfl,?_⟩) (args_list_sort _)));obtain⟨ss',b1,b2,b3⟩:=sorted_out_str hS a1 a2;obtain⟨e,he⟩:=sortedHeap_at (out:=(arrOf st').map (·.2)) hoL;have hl3:=b2.length_eq;have hg:s.heap.get? h'.objs.size=none:=by
  cases q:s.heap.get? h'.objs.size with
  |none=>rfl
  |some ob=>exact absurd (uN (hkeep _ _ q)) (wD _)
 obtain⟨hn,I2⟩:=Inv.laidN I (h':=sortedHeap (h'.push {cls:=.type "list",data:=.seq acc.toList.toArray}) h'.objs.size acc.toList ((arrOf st').map (·.2))) (a:=h'.objs.size) (o:=.lst (ss'.map V.str)) (t':=tk) (fun b ob hb=>by
  have hb':=hkeep b ob hb;rw[sortedHeap_old (vC (uN hb')) (by rw[size_push'];exact gO (uN hb'))];exact uE _ hb') hg ⟨by rw[zB,wJ];omega,((arrOf st').map (·.2)).toList,e,qeu b1,by rw[Array.toArray_toList];exact he⟩
 exact uF ⟨_,rfl,.ref _,_,I2,rfl,q _ ss' hn b2 b3⟩
end
section
variable{K:uT}{H:Hp}{Q:VK}{p:Addr}{kvs:List (Key×V)}{ss:List Str}
def jkv(e:Rd H p (.dK kvs))(h:∀q,H q=none->Q (.ref q) (upd H q (.dK kvs))):jh9 [.ref p] H Q:=⟨p,kvs,rfl,e,h⟩
def jvv{B:Prop}(h:H p=some (.dK kvs))(q:B):tyV K "dict" (.ref p) H/\B:=⟨.inr (.inr (.inl ⟨rfl,.inl ⟨_,h⟩⟩)),q⟩
def jd4(e:SqL K H p (ss.map V.str))(hz:ss.length<64)(h:∀l ss',H l=none->ss'.Perm ss->sortedS ss'=true->Q (.ref l) (upd H l (.lst (ss'.map V.str)))):jmr K [.ref p] H Q:=⟨p,ss,rfl,e,hz,h⟩
def jib(e:Rd H p (.dK kvs))(hk:kvs.map (·.1)=ss.map uV)(hz:ss.length<64)(h:∀l ss',H l=none->ss'.Perm ss->sortedS ss'=true->Q (.ref l) (upd H l (.lst (ss'.map V.str)))):jms [.ref p] H Q:=⟨p,kvs,ss,rfl,e,hk,hz,h⟩
end
structure AD(kvs:List (Key×V))(f:Str->Option Int):Prop where
 nd:(kvs.map (·.1)).Nodup
 sh:∀p∈kvs,∃z i,p=(uV z,V.int i)
 get:∀z,qbx kvs (uV z)=(f z).map V.int
def noF:Str->Option Int:=fun _=>none
def qfn(f:Str->Option Int)(z:Str)(i:Int):Str->Option Int:=fun y=>if y=z then some i else f y
def AD.nil:AD [] noF:=⟨yK,fun p hp=>absurd hp (by simp),fun z=>rfl⟩
def AD.cast(h:AD kvs f)(e:∀z,f z=g z):AD kvs g:=⟨h.nd,h.sh,fun z=>by rw[h.get,e]⟩
def jic{k:Key}(h:qbx kvs k≠none):(qcp kvs k v).map (·.1)=kvs.map (·.1):=by
 unfold qcp;have e:(kvs.any fun kv=>decide (kv.1=k))=true:=by rw[qcd];cases q:qbx kvs k with
  |none=>exact absurd q h
  |some _=>rfl
 rw[iB e,yT];apply aJ;intro p _;show(if p.1=k then(p.1,v) else p).1=p.1
 split<;>rfl
def jkw{k:Key}{p:Key×V}(h:p∈qcp kvs k v):p=(k,v)\/p∈kvs:=by
 unfold qcp at h
 split at h
 .obtain⟨q,hq,e⟩:=zJ.mp h
  split at e
  .rename_i ek;subst ek;exact .inl e.symm
  .subst e;exact .inr hq
 .rcases zP.mp h with h|h
  .exact .inr h
  .exact .inl (by simpa using h)
def AD.put(h:AD kvs f)(z:Str)(i:Int):AD (qcp kvs (uV z) (.int i)) (qfn f z i):=by
 refine⟨?_,fun p hp=>?_,fun y=>?_⟩
 .cases q:qbx kvs (uV z) with
  |none=>exact joj _ h.nd q
  |some v=>rw[jic (by rw[q];simp)];exact h.nd
 .rcases jkw hp with rfl|hp
  .exact⟨z,i,rfl⟩
  .exact h.sh p hp
 .rw[jko];unfold qfn;by_cases e:y=z
  .subst e;rw[iB rfl,iB rfl];rfl
  .rw[iA (fun q=>e (yX q)),iA e];exact h.get y
def AD.flat(h:AD kvs f):∀p∈kvs,qcy p.2=true:=fun p hp=>by
 obtain⟨z,i,rfl⟩:=h.sh p hp;rfl
def jd5(nd:(kvs.map (·.1)).Nodup){k:Key}{v:V}(h:(k,v)∈kvs):qbx kvs k=some v:=by
 induction kvs with
 |nil=>simp at h
 |cons p r ih=>
  rw[zT,zV] at nd;rcases zO.mp h with rfl|h
  .exact qbk rfl
  .have ne:¬p.1=k:=fun e=>nd.1 (e▸zJ.mpr ⟨(k,v),h,rfl⟩);rw[qbf ne];exact ih nd.2 h
def AD.mem(h:AD kvs f){k:Key}{v:V}(hm:(k,v)∈kvs):∃z n,k=uV z/\v=.int n/\f z=some n:=by
 obtain⟨z,n,e⟩:=h.sh _ hm
 cases e
 have q:=jd5 h.nd hm;rw[h.get] at q
 cases hf:f z with
 |none=>rw[hf] at q;cases q
 |some m=>rw[hf] at q;cases q;exact⟨z,_,rfl,rfl,hf⟩
def qcs(kvs:List (Key×V)):List Str:=kvs.filterMap fun p=>match p.1 with| .inr z=>some z| .inl _=>none
def AD.keys(h:AD kvs f):kvs.map (·.1)=(qcs kvs).map uV:=by
 have sh:=h.sh;clear h
 induction kvs with
 |nil=>rfl
 |cons p r ih=>
  obtain⟨z,i,rfl⟩:=sh p (zN ..);show uV z::r.map (·.1)=(z::qcs r).map uV;rw[zT,ih fun q hq=>sh q (zH _ hq)]
def AD.klen(h:AD kvs f):(qcs kvs).length=kvs.length:=by
 have:=congrArg wV h.keys;simpa using this.symm
def AD.knd(h:AD kvs f):(qcs kvs).Nodup:=by
 have nd:=h.nd;rw[h.keys] at nd;exact cV (fun ne e=>ne (congrArg uV e)) (bI.mp nd)
def AD.kin(h:AD kvs f)(z:Str):z∈qcs kvs↔f z≠none:=by
 constructor
 .intro hz;have hm:(uV z:Key)∈kvs.map (·.1):=by rw[h.keys];exact zJ.mpr ⟨z,hz,rfl⟩
  obtain⟨⟨k,v⟩,hp,e⟩:=zJ.mp hm;dsimp only at e;subst e;obtain⟨z',n,e1,_,hf⟩:=h.mem hp
  cases e1
  rw[hf];simp
 .intro hf
  cases q:f z with
  |none=>exact absurd q hf
  |some n=>
   have hv:=h.get z;rw[q] at hv;have hm:=joi hv;rw[h.keys] at hm;obtain⟨y,hy,e⟩:=zJ.mp hm
   cases e
   exact hy
theorem jgi:∀{l m:List Str},l.Nodup->(∀a∈l,a∈m)->l.length<=m.length
 | [],_,_,_=>wI _
 |a::l,m,nd,h=>by
  have ha:=h a (zN ..);rw[zV] at nd;have q:=jgi (l:=l) (m:=m.erase a) nd.2 fun b hb=>(List.mem_erase_of_ne (fun(e:b=a)=>nd.1 (by rw[<-e];exact hb))).mpr (h b (zH _ hb));rw[List.length_erase_of_mem ha] at q;have:0<m.length:=List.length_pos_of_mem ha;simp only[zK];omega
def AD.le(h:AD kvs f){ws:List Str}(hs:∀z,f z≠none->z∈ws):kvs.length<=ws.length:=by
 rw[<-h.klen];exact jgi h.knd fun z hz=>hs z ((h.kin z).mp hz)
def AD.eq{ka kb:List (Key×V)}(h:AD ka f)(h':AD kb f):(ka.length==kb.length && ka.all fun p=>(qbx kb p.1).elim false (eqV p.2))=true:=by
 rw[vO,beq_iff_eq,yF];constructor
 .have l1:=jgi h.knd fun z hz=>(h'.kin z).mpr ((h.kin z).mp hz);have l2:=jgi h'.knd fun z hz=>(h.kin z).mpr ((h'.kin z).mp hz);rw[h.klen,h'.klen] at l1;rw[h.klen,h'.klen] at l2;omega
 .rintro⟨k,v⟩ hp;obtain⟨z,n,rfl,rfl,hf⟩:=h.mem hp;show((qbx kb (uV z)).elim false (eqV (.int n)))=true;rw[h'.get,hf];show(n==n)=true;simp
theorem AD.at(h:AD kvs f){i:Nat}{k:Key}{v:V}(e:kvs[i]?=some (k,v)):∃z n,k=uV z/\v=.int n/\f z=some n/\(qcs kvs)[i]?=some z:=by
 obtain⟨z,n,rfl,rfl,hf⟩:=h.mem (zD e);refine⟨z,n,rfl,rfl,hf,?_⟩;have q:(kvs.map (·.1))[i]?=some (uV z):=by rw[zC,e];rfl
 rw[h.keys,zC] at q;obtain⟨y,hy,e⟩:=uY.mp q
 cases e
 exact hy
def leS(a b:Str):Prop:=ltCps b.cps.toList a.cps.toList=false
def qdf:leS a b↔a.cps.toList<=b.cps.toList:=by
 unfold leS;rw[ltCps_eq,decide_eq_false_iff_not];exact List.not_lt
def jkx(a:Str):leS a a:=qdf.mpr (List.le_refl _)
def jc4{c:Str}(h:leS a b)(h':leS b c):leS a c:=qdf.mpr (List.le_trans (qdf.mp h) (qdf.mp h'))
def jky(h:leS a b)(h':leS b a):a=b:=by
 have e:=List.le_antisymm (qdf.mp h) (qdf.mp h');obtain⟨⟨x⟩⟩:=a;obtain⟨⟨y⟩⟩:=b;have e':x=y:=e;subst e';rfl
theorem jc5:∀{p:Str} {l:List Str},risingS p l=true->(p::l).Pairwise leS
 |p,[],_=>aZ _ _
 |p,x::r,h=>by
  have h':(!ltCps x.cps.toList p.cps.toList && risingS x r)=true:=h;rw[vO,cT] at h';have q:=jc5 h'.2;refine cP.mpr ⟨fun y hy=>?_,q⟩;rcases zO.mp hy with rfl|hy
  .exact h'.1
  .exact jc4 h'.1 (aG q hy)
def qew:∀{l:List Str},sortedS l=true->l.Pairwise leS
 | [],_=>cS
 |x::r,h=>jc5 h
def gN(f:Str->Option Int)(z:Str):Int:=(f z).getD 0
def jb8(f g:Str->Option Int):Str->Option Int:=fun y=>match g y with|none=>f y|some b=>some (gN f y+b)
def qcu(f:Str->Option Int):Str->Option Int:=fun y=>match f y with|none=>none|some a=>if 0<a then some a else none
def jse(h:AD kvs f)(z:Str):(qbx kvs (uV z)).getD (.int 0)=.int (gN f z):=by
 rw[h.get];unfold gN
 cases f z<;>rfl
def qbp(h:l[i]?=some z)(y:Str):y∈l.take (i+1)↔y∈l.take i\/y=z:=by
 rw[zM,h,zP];simp
section
variable{σ:L2.St}{H H':Hp}{Q:VK}{D:jbe}{td ty tx tv:TE}{a b p:Addr}{kvs kb:List (Key×V)}{f:Str->Option Int}{z:Str}{n:Int}{v:V}{o:Obj}
def rDG(a:Addr)(y z:V)(H:Hp)(Q:VK):Prop:=∃o,jb6 H a y o/\Q (o.getD z) H
def jxp(ty tx:TE)(σ:L2.St)(Q:VK)(x:V)(H:Hp):Prop:=∃a,x=.ref a/\IsD H a/\ty σ H fun y H2=>tx σ H2 fun z H3=>rDG a y z H3 Q
def jvw(h:td σ H fun x H1=>jxp ty tx σ Q x H1):jml td ty tx σ H Q:=h
def jsf(d:Rd H a (.dK kvs))(h:ty σ H fun y H2=>tx σ H2 fun z H3=>rDG a y z H3 Q):jxp ty tx σ Q (.ref a) H:=⟨a,rfl,.inl ⟨kvs,d⟩,h⟩
def jsg(d:Rd H a (.dK kvs))(A:AD kvs f)(h:Q (.int (gN f z)) H):rDG a (.str z) (.int 0) H Q:=by
 refine⟨qbx kvs (uV z),.inl ⟨kvs,uV z,d,rfl,rfl⟩,?_⟩;rw[jse A];exact h
def juf(x y:V)(H:Hp)(Q:VK):Prop:=∃a v,x=.ref a/\jb6 H a y (some v)/\Q v H
def jys(h:td σ H fun x H1=>ty σ H1 fun y H2=>juf x y H2 Q):jrl td ty σ H Q:=h
def jvx(d:Rd H a (.dK kvs))(A:AD kvs f)(e:f z=some n)(h:Q (.int n) H):juf (.ref a) (.str z) H Q:=
 ⟨a,.int n,rfl,.inl ⟨kvs,uV z,d,rfl,by rw[A.get,e];rfl⟩,h⟩
def rDP(x y v:V)(H:Hp)(D:jbe)(σ:L2.St):Prop:=∃a H4,x=.ref a/\jgq H a y v H4/\D.nx σ H4
def jyt(h:tv σ H fun v H1=>td σ H1 fun x H2=>ty σ H2 fun y H3=>rDP x y v H3 D σ):jrm td ty tv D σ H:=h
def jsh(e:H a=some (.dK kvs))(hz:kvs.length<sizeLine)(h:D.nx σ (upd H a (.dK (qcp kvs (uV z) v)))):rDP (.ref a) (.str z) v H D σ:=⟨a,_,rfl,jgq.k (k:=uV z) e hz,h⟩
def rDI(x y:V)(H:Hp)(Q:VK):Prop:=∃a o,x=.ref a/\jb6 H a y o/\Q (.bl o.isSome) H
def jyu(h:ty σ H fun y H1=>td σ H1 fun x H2=>rDI x y H2 Q):jxi ty td σ H Q:=h
def jsi(h:∀p,H p=none->Q (.ref p) (upd H p (.dK []))):jmj σ H Q:=h
def qdy(e:H a=some (.dK kvs)):qgq H a:=fun o u z=>by rw[e] at z;cases z
def qft(e:H a=none):qgq H a:=fun o u z=>by rw[e] at z;cases z
def jc6(d:Rd H a (.dK kvs))(n:H p=none){u:HO}:Rd (upd H p u) a (.dK kvs):=by
 rcases d with d|⟨o,d⟩
 .exact .inl (qad d n)
 .exact .inr ⟨o,qad d n⟩
def jvy(d:Rd H b (.dK kb))(ea:H a=some (.dK kvs))(sb:SameBut a H H')(fz:H' a=some (.frz o (.dK kvs))):Rd H' b (.dK kb):=by
 by_cases e:b=a
 .subst e;rcases d with d|⟨o',d⟩
  .rw[ea] at d;cases d;exact .inr ⟨o,fz⟩
  .rw[ea] at d;cases d
 .rcases d with d|⟨o',d⟩
  .exact .inl (sb _ _ e d)
  .exact .inr ⟨o',sb _ _ e d⟩
def qd5(e:H a=some (.dK kvs))(sb:SameBut a H H'):qas H (upd H' a (.dK kvs)):=fun b u q=>by
 by_cases h:b=a
 .subst h;rw[qa1];rw[e] at q;exact q
 .rw[qa7 h];exact sb b u h q
def jid(e:H a=some (.dK kvs)):SameBut a H (upd H a (.frz o (.dK kvs))):=fun b u h q=>by rw[qa7 h];exact q
def jie{l:Addr}{u:HO}(sb:SameBut a H H')(n:H l=none):SameBut a H (upd H' l u):=fun b w h q=>by
 rw[qa7 (qa8 q n)];exact sb b w h q
def qaw{l:Addr}{u:HO}(s:qas H H')(n:H l=none):qas H (upd H' l u):=fun b w q=>by rw[qa7 (qa8 q n)];exact s b w q
end
def viol(f g:Str->Option Int)(y:Str):Prop:=f y≠none/\gN g y<gN f y
def jff{ws:List Str}(hf:∀z,f z≠none->z∈ws)(hg:∀z,g z≠none->z∈ws)(z:Str)(h:jb8 f g z≠none):z∈ws:=by
 unfold jb8 at h
 cases e:g z with
 |none=>rw[e] at h;exact hf z h
 |some b=>exact hg z (by rw[e];simp)
def jfg(h:l[i]?=some z)(F G:Str->Option Int){v:Int}(hv:F z=some v)(y:Str):qfn (fun y=>if y∈l.take i then F y else G y) z v y=if y∈l.take (i+1) then F y else G y:=by
 unfold qfn;by_cases e:y=z
 .subst e;rw[iB rfl,iB ((qbp h y).mpr (.inr rfl)),hv]
 .rw[iA e];by_cases e2:y∈l.take i
  .rw[iB ((qbp h y).mpr (.inl e2))];exact iB e2
  .rw[iA (fun q=>((qbp h y).mp q).elim e2 e)];exact iA e2
def joq(h:l[i]?=some z)(F G:Str->Option Int)(hv:F z=G z)(y:Str):(if y∈l.take i then F y else G y)=if y∈l.take (i+1) then F y else G y:=by
 by_cases e2:y∈l.take i
 .rw[iB e2,iB ((qbp h y).mpr (.inl e2))]
 .rw[iA e2];by_cases e:y=z
  .subst e;rw[iB ((qbp h y).mpr (.inr rfl)),hv]
  .rw[iA (fun q=>((qbp h y).mp q).elim e2 e)]
def jfh(hB:AD kvs g)(F G:Str->Option Int)(hn:∀y,g y=none->F y=G y)(y:Str):(if y∈(qcs kvs).take kvs.length then F y else G y)=F y:=by
 rw[<-hB.klen,zQ];by_cases e:y∈qcs kvs
 .rw[iB e]
 .rw[iA e];refine(hn y ?_).symm
  cases hf:g y with
  |none=>rfl
  |some n=>exact absurd ((hB.kin y).mpr (by rw[hf];simp)) e
section
variable{X:Cx}
def qea{elt iter:vT}{x y:Str}{px py:Pos}{ifs:List vT}{scope:aL}{cl:List (Str×Addr)}{pos spos:Pos}{caps:List Nat}{cn:List Str}{wi:TI}{tt:CT TT}{te:CT TE}{j:Nat}(Cp:jrh X x scope cl caps cn)(hc:X.calm=true)
  (hN:X.N.Nodup)(hy:X.N[j]?=some y)(hly:X.env.scope.names.lookup y=some .local)
  (hi:PI X (.Name x px) iter wi)(ht:∀C s H fp,jrg (cxC X (x::cn) scope cl C s H fp) ifs (tt C s H fp))(he:∀C s H fp,PE (cxC X (x::cn) scope cl C s H fp) elt (te C s H fp))
  (hsw:eZ (.ListComp elt [⟨.Name x px,iter,ifs,0⟩] scope pos) (some (.Name y py)) spos.line X.env=pure true:=by rfl)(hs:∀x,gB iter X.env x=pure x:=by intro _;rfl):
  PS X (.Assign [.Name y py] (.ListComp elt [⟨.Name x px,iter,ifs,0⟩] scope pos) spos) (jt8 (jkn wi caps tt te) (jcd j)):=by
 intro pins s σ H D I h
 replace h:jkn wi caps tt te σ H (fun v H1=>D.nx (σ.set j (some v)) H1):=h
 rw[exec_Assign_Name_used _ _ _ _ hsw];refine uC (aN (uC ?_));show uS _ X.A (do let _<-comprehension (.ListComp elt [⟨.Name x px,iter,ifs,0⟩] scope pos) scope X.env _ (newList []) false (wK iter X.env) (some (assign (.Name y py) X.env))) _ _ s;refine uC (vS (wpAny_comprehension_free (use:=some (assign (.Name y py) X.env)) (Q:=fun _ s'=>SP X pins D .next s') rfl hs Cp.clos Cp.kind Cp.names
  (thn (hi pins s σ H _ I h) fun v s1 h1=>thn h1 fun itv s2 h2=>je4 Cp hc ht h2 (fun acc s3 H3 fp I3 f3 pn s9 τ H9 R I9 q9=>vS (he _ _ _ _ pn s9 τ H9 R I9 q9) (fun _ _ q=>q) fun _ _ q=>q.elim) fun acc s3 H3 fp I3 f3 τ H5 s6 v I6 qn=>?_)) (fun _ s' hq=>uF (uF hq)) fun _ _ e=>e)
 obtain⟨m,hm,_⟩:=id I6.loc;have J0:Inv X pins σ H5 s6:=Inv.uncomp I3 f3 rfl I6 (h':=s6.heap) ⟨rfl,fun _ _=>rfl⟩;have fC:jdo X pins H5 ↑s3:=I3.fpOk (uH _) I6.free;show uS _ X.A (assign (.Name y py) X.env (.ref acc)) _ _ s6;refine gA (jcc (X:=X) (v:=.ref acc) J0 hN hy (.inl hly) rfl (fun s7 I7 ⟨a,sb,ha⟩=>?_) (.inr hly));have nC:↑s3≠a:=by
  rcases ha with rfl|ha
  .exact fC.2.1
  .exact(fC.2.2.2.2.1 y a ha).symm
 refine⟨m,hm.sameBut sb nC,fun h' sb'=>⟨_,H5,?_,qn⟩⟩;exact I7.turned (t':=s7.toks) (fun b o hb e=>(sb'.2 b hb).trans e) fC.1 fC.2.1 fC.2.2.2.1 fC.2.2.2.2.1 fC.2.2.2.2.2
end
section
variable{X:Cx}{pins:List (Addr×Obj)}{σ:L2.St}{H:Hp}{s:uD}{h':vN}
def Inv.turnedL{t':Nat}{ch:List Addr}(I:Inv X pins σ H s)(hf:∀b∈ch,jdo X pins H b)(k:∀b o,b∉ch->s.heap.get? b=some o->h'.get? b=some o):Inv X pins σ H {s with heap:=h',toks:=t'}:=by
 have nit:∀b u,H b=some u->b∉ch:=fun b u e z=>by rw[(hf b z).1] at e;cases e
 refine I.step (g':=s.gens) (d':=s.drawn) (ch:=ch) (fun b hb=>⟨(hf b hb).2.2.2.1,(hf b hb).2.1,(hf b hb).2.2.2.2.1,(hf b hb).2.2.2.2.2⟩) (fun b o _ _ hc e _=>k b o hc e) (fun b o _ _ hc e _=>⟨o.slots,k b o hc e⟩) (fun _ _ _ _ n=>n)
  (fun b o hc e=>⟨o,k b o hc e⟩) (fun _ _ e=>e) (fun _ _ _ e=>e) (fun b ps e=>⟨#[],by rw[e];simp⟩) (fun m hm=>?_) (fun b u e=>?_) I.bare
 .obtain⟨o,es,ep,ho,r⟩:=hm;exact⟨o,es,ep,k _ o (fun z=>(hf _ z).2.1 rfl) ho,r⟩
 .refine(I.hok b u e).stay (fun c v hc q=>k c v ?_ q) (fun _ q=>q) fun _ _ q=>q;rcases hc with rfl|hc
  .exact nit _ _ e
  .exact nit _ _ hc
def Inv.turnedT{t':Nat}{ch:List Addr}{T:Addr}{ob:HO}(I:Inv X pins σ H s)(hf:∀b∈ch,jdo X pins H b)(k:∀b o,b∉ch->s.heap.get? b=some o->h'.get? b=some o)(hT:s.heap.get? T=none)(hn:H T=none)(new:qbj X.prog X.w (upd H T ob) h' T ob):
  Inv X pins σ (upd H T ob) {s with heap:=h',toks:=t'}:=by
 have nit:∀b u,H b=some u->b∉ch:=fun b u e z=>by rw[(hf b z).1] at e;cases e
 refine I.step (g':=s.gens) (d':=s.drawn) (ch:=ch) (fun b hb=>⟨(hf b hb).2.2.2.1,(hf b hb).2.1,(hf b hb).2.2.2.2.1,(hf b hb).2.2.2.2.2⟩) (fun b o _ _ hc e _=>k b o hc e) (fun b o _ _ hc e _=>⟨o.slots,k b o hc e⟩)
  (fun b o _ e n=>by rw[qa7 (fun z=>by subst z;rw[hT] at e;cases e)];exact n)
  (fun b o hc e=>⟨o,k b o hc e⟩) (fun b xs e=>by rw[qa7 (qa8 e hn)];exact e) (fun b o u e=>by rw[qa7 (qa8 e hn)];exact e) (fun b ps e=>⟨#[],by rw[qa7 (qa8 e hn),e];simp⟩) (fun m hm=>?_) (fun b u e=>?_) I.bare
 .obtain⟨o,es,ep,ho,r⟩:=hm;exact⟨o,es,ep,k _ o (fun z=>(hf _ z).2.1 rfl) ho,r⟩
 .by_cases hb:b=T
  .subst hb;rw[qa1] at e;cases e;exact new
  .rw[qa7 hb] at e;refine(I.hok b u e).stay (fun c v hc q=>k c v ?_ q) (fun c q=>by rw[qa7 (qa8 q hn)];exact q) fun c xs q=>by rw[qa7 (qa8 q hn)];exact q
   rcases hc with rfl|hc
   .exact nit _ _ e
   .exact nit _ _ hc
end
def ItZ(K:uT)(l1 l2:Addr)(xs ys:List V):It:=
 ⟨fun i H=>SqL K H l1 xs/\SqL K H l2 ys/\i<xs.length/\i<ys.length,fun i H v H'=>∃T x y,H T=none/\xs[i]?=some x/\ys[i]?=some y/\v=.ref T/\H'=upd H T (.tup [x,y]),fun i H=>SqL K H l1 xs/\SqL K H l2 ys/\(xs.length<=i\/ys.length<=i)⟩
def ZSt(z TI TO i1 i2 l1 l2:Addr)(i:Nat)(h:vN):Prop:=IsZip h z TI TO .none/\IsPair h TI (.ref i1) (.ref i2)/\(∃a b,IsPair h TO a b)/\h.IsListIter i1 l1 i/\h.IsListIter i2 l2 i
def jkz{P:uX}{w:vG}{K:uT}{elts:List vT}{kk:Nat}{tp:Pos}{z TI TO i1 i2 l1 l2:Addr}(D:ZipApart z TI TO i1 i2 l1 l2)(xs ys:List V):
  jl3 P w K (.Tuple elts kk tp) (ItZ K l1 l2 xs ys) [z,TI,TO,i1,i2] z (ZSt z TI TO i1 i2 l1 l2) where
 mem:=by simp
 obj:=fun i h st b hb=>by
  obtain⟨hz,hTI,⟨a,c,hTO⟩,⟨o1,e1,_,d1⟩,o2,e2,_,d2⟩:=st;simp only[zO,yI,or_false] at hb;rcases hb with rfl|rfl|rfl|rfl|rfl
  .exact⟨_,hz,fun v q=>by have q':Data.fields _=Data.cell v:=q;cases q'⟩
  .exact⟨_,hTI,fun v q=>by have q':Data.seq _ _=Data.cell v:=q;cases q'⟩
  .exact⟨_,hTO,fun v q=>by have q':Data.seq _ _=Data.cell v:=q;cases q'⟩
  .exact⟨o1,e1,fun v q=>by rw[d1] at q;cases q⟩
  .exact⟨o2,e2,fun v q=>by rw[d2] at q;cases q⟩
 keep:=fun i h h' st k=>by
  obtain⟨hz,hTI,⟨a,c,hTO⟩,h1,h2⟩:=st;exact⟨k z (by simp) _ hz,k TI (by simp) _ hTI,⟨a,c,k TO (by simp) _ hTO⟩,h1.at fun o e=>k i1 (by simp) o e,h2.at fun o e=>k i2 (by simp) o e⟩
 item:=by
  intro X hP hw hK hc i pins s σ H E I hf st hg;subst hP hw hK;obtain⟨hz,hTI,⟨a,c,hTO⟩,h1,h2⟩:=st;obtain⟨q1,q2,g1,g2⟩:=hg;obtain⟨us,r1,p1,_⟩:=I.list q1;obtain⟨ws,r2,p2,_⟩:=I.list q2;obtain⟨u1,hu1,ru1⟩:=r1.get (zA g1);obtain⟨u2,hu2,ru2⟩:=r2.get (zA g2);refine wpAny_pyNext_zip_item D hz hTI hTO h1 h2 (PlainL.isList p1) (PlainL.isList p2) (x:=u1) (y:=u2) (by simpa using hu1) (by simpa using hu2) fun h' b1 b2 b3 b4 b5 b6 hk=>?_;have hn:H ↑s=none:=I.hok.fresh (uH _);have lt:∀{b:Addr} {o:Obj},s.heap.get? b=some o->b≠↑s:=fun e=>vC (uN e);have nz:z≠↑s:=lt hz;have hg0:s.heap.get? ↑s=none:=bU (uH _);have I1:Inv X pins σ (upd H ↑s (.tup [xs[i],ys[i]])) {s with heap:=h'}:=Inv.turnedT (t':=s.toks) (ch:=[z,TO,i1,i2]) I
   (fun b hb=>hf b (by simp only[zO,yI,or_false] at hb⊢;rcases hb with e|e|e|e<;>simp[e]))
   (fun b o hb e=>hk b o (fun q=>hb (by simp[q])) (fun q=>hb (by simp[q])) (fun q=>hb (by simp[q])) (fun q=>hb (by simp[q])) e) hg0 hn
   ⟨by show 2<=16777216;decide,[u1,u2],.cons ru1 (.cons ru2 .nil),⟨_,b5,rfl,_,rfl⟩⟩
  refine⟨.ref ↑s,rfl,wpAny_letOwnedTupleGo_zip (s:={s with heap:=h'}) b1 fun h2' c1 hs2=>?_⟩;have hfz:=hf z (by simp);have I2:Inv X pins σ (upd H ↑s (.tup [xs[i],ys[i]])) {s with heap:=h2'}:=I1.turned (t':=s.toks) (fun b o hb e=>(hs2.2 b hb).trans e) (by rw[qa7 nz];exact hfz.1) hfz.2.1 hfz.2.2.2.1 hfz.2.2.2.2.1 hfz.2.2.2.2.2;refine⟨.ref ↑s,_,I2,rfl,⟨↑s,xs[i],ys[i],hn,zA g1,zA g2,rfl,rfl⟩,
   ⟨c1,hs2.extBut _ _ D.TIz (hk _ _ D.TIz D.TITO D.TIi1 D.TIi2 hTI),⟨_,_,hs2.extBut _ _ D.TOz b2⟩,b3.extBut hs2.extBut D.i1z,b4.extBut hs2.extBut D.i2z⟩,fun b hb=>?_⟩
  have e:b≠↑s:=by
   simp only[zO,yI,or_false] at hb;obtain⟨o1,e1,_⟩:=h1;obtain⟨o2,e2,_⟩:=h2;rcases hb with rfl|rfl|rfl|rfl|rfl
   .exact nz
   .exact lt hTI
   .exact lt hTO
   .exact lt e1
   .exact lt e2
  rw[qa7 e];exact(hf b hb).1
 done:=by
  intro X hP hw hK hc i pins s σ H E I hf st hg;subst hP hw hK;obtain⟨hz,hTI,⟨a,c,hTO⟩,h1,h2⟩:=st;obtain⟨q1,q2,g⟩:=hg;obtain⟨us,r1,p1,_⟩:=I.list q1;obtain⟨ws,r2,p2,_⟩:=I.list q2;have l1:=r1.length;have l2:=r2.length;exact wpAny_pyNext_zip_end (I.ok.hd hc) D hz hTI hTO h1 h2 (PlainL.isList p1) (PlainL.isList p2) (g.elim (fun g=> .inl (by simp;omega)) fun g=> .inr (by simp;omega)) fun h' hk=>
   ⟨rfl,Inv.turnedL (t':=s.toks) (ch:=[z,TO,i1,i2]) I (fun b hb=>hf b (by simp only[zO,yI,or_false] at hb⊢;rcases hb with e|e|e|e<;>simp[e]))
    fun b o hb e=>hk b o (fun q=>hb (by simp[q])) (fun q=>hb (by simp[q])) (fun q=>hb (by simp[q])) (fun q=>hb (by simp[q])) e⟩
 self:=fun _ _ _ _ _ st h=>wpAny_pyIter_zip st.1 h
def jvz(K:uT)(vs:List V)(H:Hp)(R:It->Hp->Prop):Prop:=∃l1 l2 xs ys,vs=[.ref l1,.ref l2]/\SqL K H l1 xs/\SqL K H l2 ys/\R (ItZ K l1 l2 xs ys) H
def jxq(K:uT)(ta:TA):TI:=fun σ H R=>ta σ H fun vs H1=>jvz K vs H1 R
def jk0:bA "zip"=some (.type "zip"):=by decide+kernel
def jmt{elts:List vT}{kk:Nat}{tp:Pos}{a b:vT}{ta:TA}{p pos:Pos}(hg:Gl X "zip")(hm:X.mg "zip"=none)(ha:PA X [a,b] ta)(hs:uZ [a,b] X.env=[(false,wK a X.env),(false,wK b X.env)]:=by rfl)(hs2:uZ [b] X.env=[(false,wK b X.env)]:=by rfl):
  PI X (.Tuple elts kk tp) (.Call (.Name "zip" p) [a,b] [] pos) (jxq X.K ta):=by
 intro pins s σ H R I h;refine Call_ (qf8 I hg hm jk0 (xY (thn (ha pos pins s σ H _ I h) fun us s1 ⟨vs,H1,I1,r1,q1⟩=>?_) (by rw[hs,hs2]) (by rw[hs2];rfl)));obtain⟨l1,l2,xs,ys,rfl,g1,g2,q⟩:=q1
 cases r1 with
 |cons r rr=>
  cases rr with
  |cons r' rr=>
   cases rr
   cases r
   cases r'
   obtain⟨us,v1,p1,_⟩:=I1.list g1;obtain⟨ws,v2,p2,_⟩:=I1.list g2;have t1:=PlainL.isList p1;have t2:=PlainL.isList p2;have lt1:l1<↑s1:=by obtain⟨_,e,_⟩:=t1;exact uN e
   have lt2:l2<↑s1:=by obtain⟨_,e,_⟩:=t2;exact uN e
   refine call_zip_2 t1 t2 fun h' hz hTI hTO hi1 hi2 hsz hk=>?_;have I2:Inv X pins σ H1 {s1 with heap:=h'}:=I1.kept (t':=s1.toks) fun b o e=>hk b o e;refine wpAny_pyIter_zip (s:={s1 with heap:=h'}) hz ?_;refine⟨↑s1+4,_,_,_,H1,rfl,I2,jkz (zipApart_new lt1 lt2) xs ys,⟨hz,hTI,⟨_,_,hTO⟩,hi1,hi2⟩,fun b hb=>?_,q⟩;have le:↑s1<=b:=by
    simp only[zO,yI,or_false] at hb;rcases hb with rfl|rfl|rfl|rfl|rfl<;>omega
   exact I1.fpOk le (I1.hok.fresh le)
section
variable{K:uT}{σ:L2.St}{H:Hp}{D:jbe}{g:TG}{tb:TS}{ta:TA}{l1 l2:Addr}{xs ys:List V}
def jyv(h:ta σ H fun vs H1=>jvz K vs H1 R):jxq K ta σ H R:=h
def jsj(e1:SqL K H l1 xs)(e2:SqL K H l2 ys)(h:R (ItZ K l1 l2 xs ys) H):jvz K [.ref l1,.ref l2] H R:=⟨l1,l2,xs,ys,rfl,e1,e2,h⟩
def jsk(hxy:xs.length=ys.length)(Pv:Nat->L2.St->Hp->Prop)(h0:Pv 0 σ H)(hl:∀i σ H,Pv i σ H->SqL K H l1 xs/\SqL K H l2 ys)
  (hs:∀i x y T σ H,xs[i]?=some x->ys[i]?=some y->Pv i σ H->H T=none->g (.ref T) σ (upd H T (.tup [x,y])) fun σ2 H2=>tb {nx:=Pv (i+1),rt:=D.rt,bk:=D.nx,ct:=Pv (i+1)} σ2 H2)(hd:∀σ H,Pv xs.length σ H->D.nx σ H):FOR (ItZ K l1 l2 xs ys) g tb D σ H:=by
 refine⟨fun i m σ H=>m=xs.length-i/\i<=xs.length/\Pv i σ H,⟨xs.length,rfl,wI _,h0⟩,?_⟩;rintro i m σ H ⟨rfl,hi,p⟩;obtain⟨q1,q2⟩:=hl i σ H p;by_cases hlt:i<xs.length
 .refine .inr ⟨⟨q1,q2,hlt,↑∅⟩,Pv (i+1),fun σ' H' p'=>⟨xs.length-(i+1),↑∅,rfl,hlt,p'⟩,fun v H' e=>?_⟩;obtain⟨T,x,y,hT,hx,hy,rfl,rfl⟩:=e;exact hs i x y T σ H hx hy p hT
 .have e:i=xs.length:=by omega
  subst e;exact .inl ⟨⟨q1,q2,.inl (uH _)⟩,hd σ H p⟩
end
section
variable{prog:uX}{w:vG}{A:vI}{E:uB->uD->Prop}{s:uD}
def jif{l:Addr}{items:Array uB}{k:Int}{t:Tok}{v:uB}{Q:Unit->uD->Prop}(ho:s.heap.get? l=some {cls:=.type "list",data:=.seq items n})(h0:0<=k)(hk:k<items.size)(hfit:k<2^63)
  (q:Q () {s with heap:=s.heap.update l (Obj.mapSeq fun a=>a.setIfInBounds k.toNat v)}):uS (uU prog w) A (setItem (.ref l) (.int k t) v) Q E s:=by
 have hT:s.TypeIs (.ref l) "list":=⟨_,ho,rfl⟩;unfold setItem
 try with_reducible refine wR ?_
 first|refine uC (uF ?_) |skip
 refine uC (wpAny_sequenceKey hT ∅ ?_);refine uC (wS (name:=xB "__setitem__") hT slot_list_setitem (wF slot_list_setitem hT entry_list_setitem ?_ (args_list_setitem _ _ _)));show uS _ _ (Builtin.List.listSubscript? (.int k t) >>= _) _ _ s;refine uC (wpAny_listSubscript_int (fitsIndex_of h0 hfit) ?_);clear hfit;obtain⟨j,rfl⟩:=vL h0;have hj:j<items.size:=by omega
 have hx:items[j]?=some items[j]:=aH hj;show uS _ _ ((seqItemAt l j >>= fun r=>pure (r.map (j,·))) >>= _) _ _ s;refine uC (uC (wpAny_seqItemAt ho rfl (uF ?_)));rw[hx];show uS _ _ (setSeqItemAt l j v >>= _) _ _ s;refine uC (wpAny_setSeqItemAt ho rfl ?_)
 first
 |exact uC (uF (uF ⟨.none,rfl,uF q⟩))
 |exact uF ⟨.none,rfl,uF q⟩
end
def rLP(x y v:V)(H:Hp)(D:jbe)(σ:L2.St):Prop:=∃l xs k,x=.ref l/\y=.int (k:Nat)/\H l=some (.lst xs)/\k<xs.length/\D.nx σ (upd H l (.lst (xs.set k v)))
def jsl(td ty tv:TE):TS:=fun D σ H=>tv σ H fun v H1=>td σ H1 fun x H2=>ty σ H2 fun y H3=>rLP x y v H3 D σ
def qdq{o i value:vT}{pos pos':Pos}{td ty tv:TE}(ho:PE X o td)(hi:PE X i ty)(hv:PE X value tv)(hs:eZ value (some (.Subscript o i pos')) pos.line X.env=pure false):PS X (.Assign [.Subscript o i pos'] value pos) (jsl td ty tv):=by
 intro pins s σ H D I h;refine wpAny_Assign_Subscript (thn (hv pins s σ H _ I h) fun r s1 ⟨v,H1,I1,rv,q1⟩=>thn (ho pins s1 σ H1 _ I1 q1) fun u s2 ⟨x,H2,I2,rx,q2⟩=>thn (hi pins s2 σ H2 _ I2 q2) fun iv s3 ⟨y,H3,I3,ry,q3⟩=>?_) hs;obtain⟨l,xs,k,rfl,rfl,hl,hk,q⟩:=q3;obtain rfl:u=uP l:=rx;obtain⟨t,rfl⟩:=ry;obtain⟨z,its,n,rr,hlen,e⟩:=I3.lstM hl;have hz:xs.length<=16777216:=z;refine jif e (Int.natCast_nonneg k) (by simp;omega) ↑∅ ?_;rw[xA];exact⟨σ,_,I3.lset (its':=its.set k r) (ys:=xs.set k v) (t':=s3.toks) hl e (by simp) (rr.set rv k) (by rw[cB];exact z),q⟩
section
variable{X:Cx}
def jv0(t1 t2:TE):TE:=fun σ H Q=>t1 σ H Q\/t2 σ H Q
def jfi{e:vT}{t1 t2:TE}(h1:PE X e t1)(h2:PE X e t2):PE X e (jv0 t1 t2):=fun pins s σ H Q I h=>h.elim (h1 pins s σ H Q I) (h2 pins s σ H Q I)
def jxr:List V->Hp->VK->Prop:=fun xs H Q=>∃i j,xs=[.int i,.int j]/\Q (.int (if j > i then j else i)) H
def jxs:List V->Hp->VK->Prop:=fun xs H Q=>∃i j,xs=[.int i,.int j]/\Q (.int (if j<i then j else i)) H
def jig(hc:X.calm=true):qcb X (.builtin "max") jxr:=jg6 hc
def jih(hc:X.calm=true):qcb X (.builtin "min") jxs:=jg7 hc
end
section
variable{σ:L2.St}{H:Hp}{Q:VK}{D:jbe}{td ty tv t1 t2:TE}{l:Addr}{xs:List V}{k:Nat}{v:V}{i j:Int}
def jyw(h:tv σ H fun v H1=>td σ H1 fun x H2=>ty σ H2 fun y H3=>rLP x y v H3 D σ):jsl td ty tv D σ H:=h
def jd6(e:H l=some (.lst xs))(hk:k<xs.length)(h:D.nx σ (upd H l (.lst (xs.set k v)))){y:Int}(ey:y=(k:Int)):rLP (.ref l) (.int y) v H D σ:=by subst ey;exact⟨l,xs,k,rfl,rfl,e,hk,h⟩
def jfj(h:t1 σ H Q):jv0 t1 t2 σ H Q:=.inl h
def jfk(h:t2 σ H Q):jv0 t1 t2 σ H Q:=.inr h
def jv1(h:Q (.int (if j > i then j else i)) H):jxr [.int i,.int j] H Q:=⟨i,j,rfl,h⟩
def jv2(h:Q (.int (if j<i then j else i)) H):jxs [.int i,.int j] H Q:=⟨i,j,rfl,h⟩
end
section
variable{K:uT}{σ:L2.St}{H:Hp}{Q:VK}{D:jbe}{ta tv:TE}{t:TA}{a C dx:Addr}{fs:List (Str×V)}{f m:Str}{v y:V}{sp:Sp}{dvs:List V}{E:XK}
def kMk(C:Addr)(sp:Sp)(dvs:List V)(E:XK)(Q:VK)(vs:List V)(H:Hp):Prop:=∀x dx,H x=none->H dx=none->dx≠x->sp (.ref x ::(vs++dvs)) (upd (upd H dx (.own x)) x (.ins C dx [])) (fun v H2=>v=.non/\Q (.ref x) H2) E
def jyx(h:t σ H fun vs H1=>kMk C sp dvs E Q vs H1):jqy C sp dvs E t σ H Q:=h
def kMt(C:Addr)(m:Str)(sp:Sp)(dvs:List V)(E:XK)(t:TA)(σ:L2.St)(Q:VK)(x:V)(H:Hp):Prop:=∃a dx fs,x=.ref a/\H a=some (.ins C dx fs)/\fs.lookup m=none/\t σ H fun vs H2=>sp (x ::(vs++dvs)) H2 Q E
def jyy(h:ta σ H fun x H1=>kMt C m sp dvs E t σ Q x H1):jn2 C m sp dvs E ta t σ H Q:=h
def jv3(e:H a=some (.ins C dx fs))(l:fs.lookup m=none)(h:t σ H fun vs H2=>sp (.ref a ::(vs++dvs)) H2 Q E):kMt C m sp dvs E t σ Q (.ref a) H:=⟨a,dx,fs,rfl,e,l,h⟩
def kFl(K:uT)(f:Str)(Q:VK)(x:V)(H:Hp):Prop:=∃a C dx fs v,x=.ref a/\H a=some (.ins C dx fs)/\Cls K C/\qav K C f/\fs.lookup f=some v/\Q v H
def jyz(h:ta σ H fun x H1=>kFl K f Q x H1):jw0 K ta f σ H Q:=h
def jv4(e:H a=some (.ins C dx fs))(c:Cls K C)(n:qav K C f)(l:fs.lookup f=some v)(h:Q v H):kFl K f Q (.ref a) H:=⟨a,C,dx,fs,v,rfl,e,c,n,l,h⟩
def kFs(K:uT)(f:Str)(y:V)(D:jbe)(σ:L2.St)(x:V)(H:Hp):Prop:=∃a C dx fs,x=.ref a/\H a=some (.ins C dx fs)/\Cls K C/\qav K C f/\fs.length<1000/\D.nx σ (upd H a (.ins C dx (qez f y fs)))
def jy0(h:tv σ H fun y H1=>ta σ H1 fun x H2=>kFs K f y D σ x H2):jw1 K ta tv f D σ H:=h
def qg6(e:H a=some (.ins C dx fs))(c:Cls K C)(n:qav K C f)(hz:fs.length<1000)(h:D.nx σ (upd H a (.ins C dx (qez f y fs)))):kFs K f y D σ (.ref a) H:=⟨a,C,dx,fs,rfl,e,c,n,hz,h⟩
end
structure IsC(K:uT)(C:Addr):Prop where
 ha:vU K (.ref C) "__class__"=some (some (.builtin "object.__class__"))
 hn:eY K (.builtin "object.__class__") "__get__"=some (some (.builtin "getset_descriptor.__get__"))
 htk:PySem.W.takesIn K (.builtin "object.__class__")=some true
 hm:mroIn K C (.type "object")=some true
section
variable{X:Cx}{k:Nat}{f C:Addr}{fd:uL}{ps:List Str}{sp:Sp}{dvs:List V}{ds:List uB}{W:L2.St->XK}{x m:Str}{p pos apos:Pos}{e o:vT}{es:List vT}{ta:TE}{t:TA}
def jmu(C:Addr)(m:Str)(sp:Sp)(dvs:List V)(W:L2.St->XK)(ta:TE)(t:TA):TE:=fun σ H Q=>ta σ H fun x H1=>∃a dx fs,x=.ref a/\H1 a=some (.ins C dx fs)/\fs.lookup m=none/\t σ H1 fun vs H2=>sp (x ::(vs++dvs)) H2 Q (W σ)
def qb9{pl:Sem Bool}(he:PE X o ta)(c:Cls X.K C)(hm:jao X.K C m f)(F:jab X.prog X.w X.K X.mg X.base (CX1 X.prog X.w) k f fd ps sp)(hr:ja0 k X.A)(hb:qap X.K fd ps ds)(hd:qba dvs ds)(hx:Xes X W)(ha:PA X (e::es) t)(hex:X.ex=[]:=by rfl)
  (hst:uZ (e::es) X.env=(false,wK e X.env)::uZ es X.env:=by rfl)(hpl:(wO pos (uZ es X.env)).any (·.1)=false:=by rfl)
  (ht:wK (.Call (.Attribute o m apos) (e::es) [] pos) X.env=(do
   let ov<-wK o X.env
   standAt apos.atName
   let (f,first)<-fY [ov] (fA ov m pl)
   gE pos f first (wO pos (uZ (e::es) X.env)) (dH pos (aV [] X.env))):=by rfl):
  PE X (.Call (.Attribute o m apos) (e::es) [] pos) (jmu C m sp dvs W ta t):=by
 intro pins s σ H Q I h;refine bK (pl:=pl) (thn (he pins s σ H _ I h) fun u s1 ⟨x,H1,I1,rx,a,dx,fs,ex,ea,l,q⟩=>?_) ht;subst ex;obtain rfl:u=uP a:=rx;refine qdl I1 ea c hm l (xM (first:=[.ref a]) (h₀:=X.base) I.ok.mod.kin hm.kp (thn (ha pos pins s1 σ H1 _ I1 q) fun us s2 ⟨vs,H2,I2,r,q2⟩=>⟨I2.kIn,?_⟩) hst hpl);exact jhs (us:=.ref a::us) (vs:=.ref a::vs) F hr hb hd hx hex I2 (.cons rfl r) q2
def jmv(C:Addr)(sp:Sp)(dvs:List V)(W:L2.St->XK)(t:TA):TE:=fun σ H Q=>t σ H fun vs H1=>∀x dx,H1 x=none->H1 dx=none->dx≠x->sp (.ref x ::(vs++dvs)) (upd (upd H1 dx (.own x)) x (.ins C dx [])) (fun v H2=>v=.non/\Q (.ref x) H2) (W σ)
def jii{pins:List (Addr×Obj)}{σ:L2.St}{H:Hp}{s:uD}{Q:VK}{us:List uB}{vs:List V}(M:Mk X.K C f)(F:jab X.prog X.w X.K X.mg X.base (CX1 X.prog X.w) k f fd ps sp)(hr:ja0 (k+1) X.A)(hb:qap X.K fd ps ds)(hd:qba dvs ds)
  (hx:Xes X W)(hex:X.ex=[])(I:Inv X pins σ H s)(r:qba vs us)
  (h:∀x dx,H x=none->H dx=none->dx≠x->sp (.ref x ::(vs++dvs)) (upd (upd H dx (.own x)) x (.ins C dx [])) (fun v H2=>v=.non/\Q (.ref x) H2) (W σ)):
  uS (uU X.prog X.w) X.A (call (.ref C) us) (EP X pins σ Q) X.xe s:=by
 have hq:=h (↑s+1) ↑s (I.hok.fresh (xH _)) (I.hok.fresh (uH _)) (vC (bP _));have I2:=Inv.made (C:=C) I;have r2:qba (V.ref (↑s+1) ::(vs++dvs)) (uP (↑s+1) ::(us++ds)):=.cons rfl (r.append hd);have hl:(uP (↑s+1)::us++ds).length=ps.length:=by
  have e:=r2.length;rw[F.len _ _ _ _ hq] at e;exact e.symm
 refine aR (jex (f:=f) I.kIn M.makes M.init (beq_iff_eq.mp M.fn) (xL (F.run _ X.stack _ _ ⟨uP (↑s+1)::us,[]⟩ (uP (↑s+1) ::(us++ds)) _ _ (W σ) (hr.make C us [])
  (I2.env0.make C us []) (hb _ (uP (↑s+1)::us) I2.kIn hl) r2 hq) fun r s' hq'=>?_))
 cases r with
 |error e=>exact je2 hx hex I2 hq'
 |ok fl=>
  cases fl with
  |ret u=>
   obtain⟨v,H',I3,rv,ev,q3⟩:=I2.after hq';subst ev;exact⟨rv,⟨V.ref (↑s+1),H',I3,rfl,q3⟩⟩
  |next=>exact vY hq'
  |brk=>exact vY hq'
  |cont=>exact vY hq'
def jk1(M:Mk X.K C f)(F:jab X.prog X.w X.K X.mg X.base (CX1 X.prog X.w) k f fd ps sp)(hr:ja0 (k+1) X.A)(hg:Gl X x)(hm:X.mg x=some (.ref C))(hb:qap X.K fd ps ds)(hd:qba dvs ds)(hx:Xes X W)
  (ha:PA X (e::es) t)(hex:X.ex=[]:=by rfl)(hdb:(x==("__debug__":Str))=false:=by decide)(he:uZ (e::es) X.env=(false,wK e X.env)::uZ es X.env:=by rfl)(hpl:(wO pos (uZ es X.env)).any (·.1)=false:=by rfl):
  PE X (.Call (.Name x p) (e::es) [] pos) (jmv C sp dvs W t):=by
 intro pins s σ H Q I h;refine wW (qds I hg hm ?_ hdb);refine xM (h₀:=X.base) I.ok.mod.kin M.kp (thn (ha pos pins s σ H _ I h) fun us s1 ⟨vs,H1,I1,r,q⟩=>⟨I1.kIn,?_⟩) he hpl;exact jii M F hr hb hd hx hex I1 r q
end
structure FunD(K:uT)(x qual:Str)(st:Stmt)(f:Addr)(fd:uL)(T:Addr)(items:Array uB):Prop where
 ex:∃(oc:uB)(od:Option Addr)(kV doc pm:uB)(an:Option Addr)(cdv ct:uB)(osl:Array (Option uB)),
  fd=fnOf x qual (qcj st) (qbt st) (qaa st) (.ref T) kV doc pm an cdv ct/\K.lookup f=some ⟨oc,od,.func fd,osl⟩/\gX K cdv qual=true
 kp:dL K (.ref f)=true
 tup:∃(o:Obj)(n:Nat),K.lookup T=some o/\o.data=.seq items n
section
variable{K:uT}{x qual:Str}{st:Stmt}{f T:Addr}{fd:uL}{ps:List Str}{items:Array uB}
def FunD.binds(F:FunD K x qual st f fd T items){ds:List uB} (h:∀(kV doc pm:uB)(an:Option Addr)(cdv ct:uB)(us:List uB),(us++ds).length=ps.length->
   bindArgs (fnOf x qual (qcj st) (qbt st) (qaa st) (.ref T) kV doc pm an cdv ct) ⟨us,[]⟩=pure (ps.zip (us++ds))\/
   ∃g:Option (Array uB)->Sem (List (Str×uB)),bindArgs (fnOf x qual (qcj st) (qbt st) (qaa st) (.ref T) kV doc pm an cdv ct) ⟨us,[]⟩=seqItems? (.ref T) >>= g/\g (some items)=pure (ps.zip (us++ds))):qap K fd ps ds:=by
 obtain⟨oc,od,kV,doc,pm,an,cdv,ct,osl,rfl,lk,hcd⟩:=F.ex;obtain⟨o,n,hT,hd⟩:=F.tup;intro s us KX hl;rcases h kV doc pm an cdv ct us hl with h|⟨g,h1,h2⟩
 .exact .of_eq h
 .exact BindsTo.of_defaults (T:=T) rfl (KX _ _ hT) hd h1 h2
end
section
variable{σ:L2.St}{H:Hp}{Q:VK}{ta:TE}{t:TA}{a C dx:Addr}{fs:List (Str×V)}{m:Str}{sp:Sp}{dvs:List V}{W:L2.St->XK}
def jxt(C:Addr)(m:Str)(sp:Sp)(dvs:List V)(W:L2.St->XK)(t:TA)(σ:L2.St)(Q:VK)(x:V)(H:Hp):Prop:=∃a dx fs,x=.ref a/\H a=some (.ins C dx fs)/\fs.lookup m=none/\t σ H fun vs H2=>sp (x ::(vs++dvs)) H2 Q (W σ)
def jv5(h:ta σ H fun x H1=>jxt C m sp dvs W t σ Q x H1):jmu C m sp dvs W ta t σ H Q:=h
def jsm(e:H a=some (.ins C dx fs))(l:fs.lookup m=none)(h:t σ H fun vs H2=>sp (.ref a ::(vs++dvs)) H2 Q (W σ)):jxt C m sp dvs W t σ Q (.ref a) H:=⟨a,dx,fs,rfl,e,l,h⟩
def jy1(C:Addr)(sp:Sp)(dvs:List V)(W:L2.St->XK)(σ:L2.St)(Q:VK)(vs:List V)(H:Hp):Prop:=∀x dx,H x=none->H dx=none->dx≠x->sp (.ref x ::(vs++dvs)) (upd (upd H dx (.own x)) x (.ins C dx [])) (fun v H2=>v=.non/\Q (.ref x) H2) (W σ)
def jv6(h:t σ H fun vs H1=>jy1 C sp dvs W σ Q vs H1):jmv C sp dvs W t σ H Q:=h
end
def kDs(p:Addr)(Q:VK)(x y:V)(H2:Hp):Prop:=H2 p=some (.dK [])/\∃kvs:List (Key×V),[(x,y)]=kvs.map (fun kv=>(kV kv.1,kv.2))/\kvs.length<=15/\Q (.ref p) (upd H2 p (.dK (qfu [] kvs)))
def jor{σ:L2.St}{Q:VK}{tk tv:TE}(h:∀p,H p=none->tk σ (upd H p (.dK [])) fun x H1=>tv σ H1 fun y H2=>kDs p Q x y H2):jrp [(tk,tv)] σ H Q:=fun p hp=>h p hp
def jy2{Q:VK}{p:Addr}{y:V}(e:H p=some (.dK []))(h:Q (.ref p) (upd H p (.dK [(uV z,y)]))):kDs p Q (.str z) y H:=⟨e,[(uV z,y)],rfl,Nat.le_of_ble_eq_true rfl,h⟩
section
variable{P:uX}{w:vG}{K:uT}{mg:Str->Option uB}{base:vN}{x qual:Str}{st:Stmt}{f T:Addr}{fd:uL}{N ps:List Str}{k:Nat}{sp:Sp}{items:Array uB}
def jxu(F:FunD K x qual st f fd T items)(S:jaa N ps (qaa st))(len:∀vs H Q E,sp vs H Q E->vs.length=ps.length)
  (hbody:∀(cdv:uB)(A:vI)(outer:List Env)(s:uD)(H:Hp)(vs:List V)(Q:VK)(E:XK),ja0 k (A.deeper (dB qual (qaa st) ↑s f cdv))->sp vs H Q E->
   ∃t,PSs (xw (cxOf (CX1 P w) P w K mg base N qual (qaa st) f cdv A outer s H E) (fun _=>E)) (qbt st) t/\t {nx:=fun _ H'=>Q .non H',rt:=Q} (qe8 N vs) H):jab P w K mg base (CX1 P w) (k+1) f fd ps sp:=by
 obtain⟨oc,od,kV,doc,pm,an,cdv,ct,osl,rfl,lk,hcd⟩:=F.ex;refine jkg lk hcd S len fun A outer s H vs Q E hr hsp=>?_;obtain⟨t,ht,q⟩:=hbody cdv A outer s H vs Q E hr hsp;exact⟨t,PSs.xes jme ht,q⟩
def jij{oc:uB}{od an:Option Addr}{osl:Array (Option uB)}{kV doc pm cdv ct:uB}{o:Obj}{n:Nat}(l:K.lookup f=some ⟨oc,od,.func (fnOf x qual (qcj st) (qbt st) (qaa st) (.ref T) kV doc pm an cdv ct),osl⟩)
  (c:gX K cdv qual=true)(kp:dL K (.ref f)=true)(t:K.lookup T=some o)(hd:o.data=.seq items n):FunD K x qual st f (fnOf x qual (qcj st) (qbt st) (qaa st) (.ref T) kV doc pm an cdv ct) T items:=
 ⟨⟨oc,od,kV,doc,pm,an,cdv,ct,osl,rfl,l,c⟩,kp,o,n,t,hd⟩
end
def oK(hs:List (Str×Addr)):List (Key×V):=hs.map fun p=>(uV p.1,.ref p.2)
def qde:List (Str×Addr)->Str->Option Addr
 | [],_=>none
 |p::r,z=>if p.1=z then some p.2 else qde r z
theorem qg0(z:Str):∀hs:List (Str×Addr),qbx (oK hs) (uV z)=(qde hs z).map V.ref
 | []=>rfl
 |p::r=>by
  have ih:=qg0 z r;unfold qbx oK at ih⊢;rw[zT,yJ];by_cases h:p.1=z
  .have e:decide ((uV p.1:Key)=uV z)=true:=by rw[h];exact iC rfl
   simp only[e,qde,iB h];rfl
  .have e:decide ((uV p.1:Key)=uV z)=false:=iD fun q=>h (yX q);simp only[e,qde,iA h];exact ih
theorem qfv{z:Str}:∀{hs:List (Str×Addr)},qde hs z=none↔z∉hs.map (·.1)
 | []=>by simp[qde]
 |p::r=>by
  have ih:=qfv (z:=z) (hs:=r);unfold qde;by_cases q:p.1=z
  .rw[iB q];simp[q]
  .rw[iA q,ih];simp[xF q,fun e:z=p.1=>q e.symm]
theorem jfl{z:Str}{h:Addr}:∀{hs:List (Str×Addr)},(hs.map (·.1)).Nodup->(z,h)∈hs->qde hs z=some h
 |p::r,nd,m=>by
  rw[zT,zV] at nd;unfold qde;rcases zO.mp m with e|e
  .rw[<-e,iB rfl]
  .have q:p.1≠z:=fun q=>nd.1 (by rw[q];exact zJ.mpr ⟨(z,h),e,rfl⟩);rw[iA q];exact jfl nd.2 e
def jos{hs:List (Str×Addr)}{h:Addr}(n:qde hs z=none):qcp (oK hs) (uV z) (.ref h)=oK (hs++[(z,h)]):=by
 have hn:=qfv.mp n;have e:((oK hs).any fun kv=>decide (kv.1=uV z))=false:=by
  rw[gC];intro kv hkv;obtain⟨p,hp,rfl⟩:=zJ.mp hkv;intro q;have q':=yX (of_decide_eq_true q);exact hn (zJ.mpr ⟨p,hp,q'⟩)
 unfold qcp;rw[iA (by rw[e];decide)];unfold oK;rw[zE];rfl
section
variable{H:Hp}{Q:VK}{a h:Addr}{hs:List (Str×Addr)}{z:Str}
def jv7(d:Rd H a (.dK (oK hs)))(q:Q (.bl (qde hs z).isSome) H):rDI (.ref a) (.str z) H Q:=by
 refine⟨a,qbx (oK hs) (uV z),rfl,.inl ⟨_,uV z,d,rfl,rfl⟩,?_⟩;rw[qg0,bF];exact q
def jk2(d:Rd H a (.dK (oK hs)))(e:qde hs z=some h)(q:Q (.ref h) H):juf (.ref a) (.str z) H Q:=
 ⟨a,.ref h,rfl,.inl ⟨_,uV z,d,rfl,by rw[qg0,e];rfl⟩,q⟩
end
end My
set_option exponentiation.threshold 2000
namespace My
open PySem PySem.Spec PyProof.Rows L2
end My
set_option maxHeartbeats 3200000
namespace My
open PySem PySem.Spec PyProof.Rows L2
section
variable{P:uX}{w:vG}{A:vI}
def jsn(z:Str)(t:Tok):(strKind P w).is z (.str z t)=true:=by
 show fJ z (.str z t)=true;simp[fJ]
def jot{zs:List Str}{i:Nat}{z:Str}(nd:zs.Nodup)(h:zs[i]?=some z):(zs.take i).contains z=false:=by
 rw[<-Bool.not_eq_true,eK];intro m;obtain⟨j,hj,e⟩:=zR.mp m;obtain⟨hi,e2⟩:=uG.mp h;rw[zS] at hj;rw[cW] at e;exact(zW.mp nd) j i ↑∅ hi ↑∅ (by rw[e,e2])
def jik{zs:List Str}{i:Nat}{z:Str}(h:zs[i]?=some z)(y:Str):((zs.take i).contains y || decide (y=z))=(zs.take (i+1)).contains y:=by
 rw[zM,h,xR,Bool.or_eq_true,eK,eK,zP,decide_eq_true_iff];simp
def jil{R:Result->uD->Prop}{it c:Addr}{fp wr:List Addr}{G:Array GenState->Array GenState->Prop}{zs:List Str}{pv:Nat->uB->Prop}{St:Nat->uD->Prop}
  (W:WalksS P w A.in1 it fp wr G zs.length pv St)(hc:c∉fp)(nd:zs.Nodup)(hv:∀i v,pv i v->∃z t,zs[i]?=some z/\v=.str z t)(hb:zs.length+1<hJ):
  ∀(k i:Nat)(s:uD),zs.length-i=k->i<=zs.length->St i s->s.heap.SetOf (strKind P w) c (fun y=>(zs.take i).contains y) i->
   (∀s',Moved (c::wr) G s s'->s'.heap.SetOf (strKind P w) c (fun y=>(zs.take zs.length).contains y) zs.length->R (.ok (.ret .none)) s')->
   cG (uU P w) A (.builtin "set.update.loop" ⟨[.ref c,.ref it],[]⟩) R s:=by
 have cw:c∉wr:=fun h=>hc (W.sub _ h);have qb1:∀{n:Nat} {S:Str->Bool} {s s':uD},Moved wr G s s'->s.heap.SetOf (strKind P w) c S n->s'.heap.SetOf (strKind P w) c S n:=fun hm hS=>by
  obtain⟨o,es,ep,t,ho,rest⟩:=hS;exact⟨o,es,ep,t,hm.heap c _ cw ho,rest⟩
 intro k
 induction k with
 |zero=>
  intro i s hk hi st hS hR;have e:i=zs.length:=by omega
  subst e;refine xS fH ?_;rw[xC aK];show uS _ _ (dA (.ref it) >>= _) _ _ _;refine uC (W.done s _ _ st fun s1 hm=>?_);exact uF (hR s1 (hm.mono fun b h=>zH _ h) (qb1 hm hS))
 |succ k ih=>
  intro i s hk hi st hS hR;have lt:i<zs.length:=by omega
  refine xS fH ?_;rw[xC aK];show uS _ _ (dA (.ref it) >>= _) _ _ _;refine uC (W.item i s _ _ lt st fun v s1 hp st1 hm=>?_);obtain⟨z,t,hz,rfl⟩:=hv i v hp;have S1:=qb1 hm hS;show uS _ _ (fY [cK z t] (setAdd c (.str z t)) >>= _) _ _ _;refine uC (wR ?_);unfold setAdd;refine wR (uC ((strKind P w).pyHash (k:=z) (jsn z t) ?_));refine wpAny_setAddHashed_of (knd:=strKind P w) (s:={s1 with toks:=s1.toks+1}) (jsn z t) rfl S1 ↑∅ fun h2 sb S2=>?_;have S3:h2.SetOf (strKind P w) c (fun y=>(zs.take (i+1)).contains y) (i+1):=SetOf_congr S2 (jik hz) (by simp only[jot nd hz];rfl);refine uF ⟨dG aK _,ih (i+1) _ ↑∅ lt (W.frame _ s1 _ _ st1 (xH _) fun b h o e=>?_) S3 fun s4 hm4 S4=>?_⟩
  .rw[sb.2 b fun q=>hc (q▸h)];exact e
  .refine hR s4 (Moved.trans W.gtrans ((hm.mono fun b h=>zH _ h).then_heap (xH _) fun b o h e=>?_) hm4) S4;rw[sb.2 b fun q=>h (q▸zN)];exact e
abbrev jmw(led:Bool):Obj:={cls:=.type "set",dict:=none,data:=.set #[] 0 (.fresh 0 0 led)}
def jim{E:uB->uD->Prop}{s:uD}{l:Addr}{items:Array uB}{zs:List Str}{Q:uB->uD->Prop}(hh:A.handled=none)(hl:s.heap.IsList l items)(hi:gM items.toList zs)(nd:zs.Nodup)(hb:zs.length+1<hJ)
  (h:∀(h':vN)(tk:Nat),h'.SetOf (strKind P w) ↑s (fun y=>(zs.take zs.length).contains y) zs.length->(∀b o,b<↑s->s.heap.get? b=some o->h'.get? b=some o)->Q (.ref ↑s) {s with heap:=h',toks:=tk}):
  uS (uU P w) A (call (.type "set") [.ref l]) Q E s:=by
 obtain⟨c,tl,hmro⟩:=PySem.F.called_set.mro;have hmade:=PySem.F.called_set.made;have hsub:=PySem.F.called_set.sub;refine aR (codeAny_of_tree ?_);show uS _ _ (callAny (.type "set") _) _ _ _;refine uF ⟨fT _ (by decide+kernel),xS PySem.F.entry_type_call ?_⟩;rw[Around.under_plain (weight_type_call_type "set" [.ref l] []) rfl];have h1:=PySem.F.called_set.notType;have h2:=PySem.F.called_set.canCreate;have hct:=PySem.F.typeCall_set_1 (.ref l)
 repeat any_goals first|assumption|wp_step
 refine xL (code_set_new_1 (.ref l) (E:=E) (Q₁:=fun x s1=>∃led:Bool,x=.ref ↑s/\s1={s with heap:=s.heap.push (jmw led)}) fun led=>⟨led,rfl,rfl⟩) fun r s1 hr=>?_
 cases r with
 |error e=>exact hr
 |ok fl=>
  cases fl with
  |ret obj=>
   obtain⟨led,rfl,rfl⟩:=hr;have hS:(s.heap.push (jmw led)).get? ↑s=some (jmw led):=uQ _ rfl;have hT:Shared.TypeIs {s with heap:=s.heap.push (jmw led)} (.ref ↑s) "set":=⟨_,hS,rfl⟩;have hli:=PySem.F.called_set.init.lookup;have hbi:=PySem.F.called_set.init.bind (.ref ↑s)
   repeat any_goals first|assumption|wp_step
   refine xL (codeAny_call_builtin (R:=wants (fun x s2=>x=.none/\∃h' tk,s2={s with heap:=h',toks:=tk}/\h'.SetOf (strKind P w) ↑s (fun y=>(zs.take zs.length).contains y) zs.length/\(∀b o,b<↑s->s.heap.get? b=some o->h'.get? b=some o)) E) PySem.F.called_set.init.plain PySem.F.entry_set_init (check_set_init_1 hT ?_)) fun r2 s2 hr2=>?_
   .obtain⟨ol,hol,hcl,nl,hdl⟩:=hl;obtain⟨ocls,odict,odata,oslots⟩:=ol;dsimp only at hcl hdl;subst hcl hdl;have hol':=uE (jmw led) hol;have q1:=PySem.F.sub_list_set;have q2:=PySem.F.sub_list_frozenset;have q3:(dM "list"==dM "dict")=false:=∅
    have hl1:(s.heap.push (jmw led)).IsList l items:=⟨_,hol',rfl,nl,rfl⟩;unfold xO.«set.__init__» noKeywords Builtin.Frozenset.updateFrom;generalize hPI:pyIter=PI
    wp_walk
    subst hPI;refine bC hl1 (uC (wpAny_runValue ?_));have lS:l<↑s:=uN hol;have h3:A.in1.in1.in1.handled=none:=by simp[hh]
    have nI:l≠(s.heap.push (jmw led)).objs.size:=by
     rw[bD];exact vC (gO lS)
    have nS:↑s∉ [(s.heap.push (jmw led)).objs.size,l]:=by
     rw[bD];intro z;simp only[zO,yI,or_false] at z;rcases z with z|z
     .exact absurd z (vC (bP _))
     .rw[z] at lS;exact wD _ lS
    have ez:items.size=zs.length:=by
     have:=hi.length;simpa using this
    have W:WalksS P w A.in1.in1.in1 _ _ _ _ items.size _ _:=(Walks.list h3 _ l nI items).toS;rw[ez] at W;refine jil (zs:=zs) W nS nd (fun i v hv=>?_) hb (zs.length-0) 0 _ ↑∅ (wI _) ⟨⟨_,uQ _ rfl,rfl,rfl⟩,hl1.push _⟩ ?_ ?_
    .obtain⟨y,t,e1,e2⟩:=hi.item i v (by rw[xW];exact hv);exact⟨y,t,e2,e1⟩
    .have hget:=uE {cls:=.type "list_iterator",data:=.fields #[.ref l,.int 0 0]} hS;exact SetOf_congr ((setObjOf_fresh (knd:=strKind P w) led).setOf hget (by unfold hJ;omega)) (fun _=>rfl) rfl
    .intro s4 hm hS4;obtain⟨h4,g4,d4,tk4,os4⟩:=s4;have eg:g4=s.gens:=hm.gens;have ed:d4=s.drawn:=hm.drawn;have eo:os4=s.os:=hm.os;subst eg ed eo;refine uF ?_;refine uF ⟨rfl,h4,tk4,rfl,hS4,fun b o hb' e=>?_⟩;refine hm.heap b o (fun z=>?_) (uE _ (uE _ e));rw[bD] at z;simp only[zO,yI,or_false] at z;rcases z with z|z
     .rw[z] at hb';exact wD _ hb'
     .rw[z] at hb';exact wD _ (gL (bP _) hb')
   .cases r2 with
    |error e=>exact hr2
    |ok fl2=>
     cases fl2 with
     |ret r=>
      obtain⟨rfl,h',tk,rfl,hS',hk'⟩:=hr2
      repeat any_goals first|assumption|wp_step
      exact h _ _ hS' hk'
     |next=>exact hr2.elim
     |brk=>exact hr2.elim
     |cont=>exact hr2.elim
  |next=>exact hr.elim
  |brk=>exact hr.elim
  |cont=>exact hr.elim
end
def jso(P:uX)(w:vG)(c:Addr)(n:Nat):HO:=.ext fun h=>∃S,h.SetOf (strKind P w) c S n
def jsp(P:uX)(w:vG)(K:uT):List V->Hp->VK->Prop:=fun xs H Q=>∃(p:Addr)(zs:List Str),xs=[.ref p]/\SqL K H p (zs.map V.str)/\zs.Nodup/\zs.length<=60/\∀c,H c=none->Q (.ref c) (upd H c (jso P w c zs.length))
def jsq(P:uX)(w:vG):List V->Hp->VK->Prop:=fun xs H Q=>∃c n,xs=[.ref c]/\H c=some (jso P w c n)/\Q (.int n) H
section
variable{X:Cx}
def jin(hc:X.calm=true:=by rfl):qcb X (.type "set") (jsp X.prog X.w X.K):=by
 intro pins s σ H xs us Q I hv h;obtain⟨p,zs,rfl,hS,nd,hz,q⟩:=h;obtain⟨u,rfl,ru⟩:=hv.one
 cases ru
 obtain⟨its,rv,pl,hz'⟩:=I.list hS;refine jim (I.ok.hd hc) (PlainL.isList pl) (zs:=zs) (by simpa using qg2 rv) nd (by unfold hJ;omega) fun h' tk hT hk=>?_;have hg:=hT;obtain⟨o,es,ep,t,ho,_⟩:=hg;exact⟨.ref _,_,I.laid (a:=↑s) (o:=jso X.prog X.w ↑s zs.length) (t':=tk) (fun b ob e=>hk b ob (uN e) e) (uH _) ⟨⟨_,hT⟩,⟨o,ho⟩,fun h1 h2 ⟨S,o1,r1,r2,r3,e1,rest⟩ k=>⟨S,o1,r1,r2,r3,k _ e1,rest⟩⟩,rfl,q _ (I.hok.fresh (uH _))⟩
def jio:qcb X (.builtin "len") (jsq X.prog X.w):=by
 intro pins s σ H xs us Q I hv h;obtain⟨c,n,rfl,e,q⟩:=h;obtain⟨u,rfl,ru⟩:=hv.one
 cases ru
 obtain⟨⟨S,o,es,ep,t,ho,hx,hd,_,_,hb,hf,rfl⟩,_⟩:=I.hok c _ e;refine call_len_set ho hx hd hf (by unfold hJ at hb;omega) ⟨.int es.size,H,I.tok _,⟨_,rfl⟩,q⟩
end
section
variable{P:uX}{w:vG}{K:uT}{H:Hp}{Q:VK}
def jsr{p:Addr}{zs:List Str}(hS:SqL K H p (zs.map V.str))(nd:zs.Nodup)(hz:zs.length<=60)(h:∀c,H c=none->Q (.ref c) (upd H c (jso P w c zs.length))):jsp P w K [.ref p] H Q:=⟨p,zs,rfl,hS,nd,hz,h⟩
def jou{c:Addr}{n:Nat}(e:H c=some (jso P w c n))(h:Q (.int n) H):jsq P w [.ref c] H Q:=⟨c,n,rfl,e,h⟩
end
def jss:List V->Hp->VK->Prop:=fun xs H Q=>∃a kvs,xs=[V.ref a]/\H a=some (.dK kvs)/\Q (.int kvs.length) H
def jgj{X:Cx}:qcb X (.builtin "len") jss:=L2.call_lenD
def jst{H:Hp}{Q:VK}{a:Addr}{kvs:List (Key×V)}(e:H a=some (.dK kvs))(h:Q (.int kvs.length) H):jss [.ref a] H Q:=⟨a,kvs,rfl,e,h⟩
end My
set_option maxHeartbeats 1000000
namespace My
open PySem PySem.Spec PyProof.Rows L2
def jmx(v d:Addr):HO:=.ext fun h=>h.IsValuesView v d
end My
namespace My
open PySem PySem.Spec PyProof.Rows L2 PyProof
end My
namespace My
open PySem PySem.Spec PyProof.Rows L2
section
inductive jp9(K:uT)(H:Hp):V->Prop
 |non:jp9 K H .non
 |bl(b:Bool):jp9 K H (.bl b)
 |int(i:Int):jp9 K H (.int i)
 |lst{a:Addr}{xs:List V}(h:SqL K H a xs):jp9 K H (.ref a)
 |tup{a:Addr}{xs:List V}(h:SqT K H a xs):jp9 K H (.ref a)
 |dct{a:Addr}{kvs:List (Key×V)}(h:H a=some (.dK kvs)):jp9 K H (.ref a)
end
section
variable{K:uT}{H:Hp}{Q:VK}
theorem qgh{y:Str}:∀nm:List Str,inV (.str y) (nm.map V.str)=decide (y∈nm)
 | []=>rfl
 |z::r=>by
  have ih:=qgh (y:=y) r;unfold inV at ih⊢;rw[zT,yV,ih];by_cases c:z=y
  .subst c;rw[show eqV (V.str z) (V.str z)=true from beq_self_eq_true z,iC (zN ..)];rfl
  .rw[show eqV (V.str z) (V.str y)=false from beq_false_of_ne c,Bool.false_or];by_cases m:y∈r
   .rw[iC m,iC (zH _ m)]
   .rw[iD m,iD fun h=>(zO.mp h).elim (fun e=>c e.symm) m]
def jip(nm:List Str):(nm.map V.str).all qcy=true:=by
 rw[gP];exact yF.mpr fun _ _=>rfl
def jmy{p:Addr}{y:Str}{nm:List Str}(h:SqL K H p (nm.map V.str))(q:Q (.bl (decide (y∈nm))) H):rIn K false (.str y) (.ref p) H Q:=⟨p,_,rfl,.inl h,rfl,jip nm,by rw[qgh];exact q⟩
end
section
variable{K:uT}{H:Hp}{Q:VK}
def jv8{a:Addr}{xs:List V}{lo hi:Option Int}(e:SqT K H a xs)(ne:¬(HT.sIx xs.length 0 lo=0/\HT.sIx xs.length xs.length hi=xs.length))(h:∀p,H p=none->Q (.ref p) (upd H p (.tup (jhf xs lo hi)))):jul K (.ref a) lo hi H Q:=⟨a,xs,rfl,e,ne,h⟩
end
theorem jd7:∀{ns:List Int} {its:List uB},qba (ns.map V.int) its->∃ys:List (Int×Tok),its=ys.map (fun p=>wZ p.1 p.2)/\ys.map (·.1)=ns
 | [],_,r=>by cases r;exact⟨[],rfl,rfl⟩
 |n::ns,_,r=>by
  cases r with
  |cons h t=>
   obtain⟨tk,rfl⟩:=h;obtain⟨ys,e1,e2⟩:=jd7 t;exact⟨(n,tk)::ys,by rw[e1];rfl,by rw[zT,e2]⟩
def jfm(ys:List (Int×Tok)):(ys.map (fun p=>wZ p.1 p.2)).toArray=intItems ys.toArray:=by
 unfold intItems;simp
def jsu(K:uT):List V->Hp->VK->Prop:=fun xs H Q=>∃(p:Addr)(ns:List Int),xs=[.ref p]/\SqL K H p (ns.map V.int)/\0<ns.length/\∀m,m∈ns->(∀a∈ns,m<=a)->Q (.int m) H
def jsv(K:uT):List V->Hp->VK->Prop:=fun xs H Q=>∃(p:Addr)(ns:List Int),xs=[.ref p]/\SqL K H p (ns.map V.int)/\0<ns.length/\∀m,m∈ns->(∀a∈ns,a<=m)->Q (.int m) H
def jsw(K:uT):List V->Hp->VK->Prop:=fun xs H Q=>∃(p:Addr)(ns:List Int),xs=[.ref p]/\SqL K H p (ns.map V.int)/\Q (.int ns.sum) H
section
variable{X:Cx}
def jiq(hc:X.calm=true):qcb X (.builtin "min") (jsu X.K):=by
 intro pins s σ H xs us Q I hv h;obtain⟨p,ns,rfl,hS,hn,q⟩:=h;obtain⟨u,rfl,ru⟩:=hv.one
 cases ru
 obtain⟨its,rv,pl,hz⟩:=I.list hS;have hl:=pl.isList;obtain⟨ys,rfl,rfl⟩:=jd7 rv;rw[jfm] at hl;have hsz:0<ys.toArray.size:=by rw[zB] at hn;simpa using hn
 refine min_intList (I.ok.hd hc) hl hsz fun v h' tk hv hk=>?_;obtain⟨t,rfl⟩:=intItems_at hv;obtain⟨h1,h2⟩:=argBest_lt (numAt ys.toArray) (ys.toArray.size-1);refine⟨.int _,H,I.kept (t':=tk) hk,⟨t,rfl⟩,q _ ?_ fun a ha=>?_⟩
 .rw[numAt_eq];have hsy:ys.toArray.size=ys.length:=by simp
  exact getD_mem (show _ <(List.map (fun x:Int×Tok=>x.fst) ys).length by rw[zB];omega)
 .obtain⟨j,hj,rfl⟩:=mem_getD ha;rw[zB] at hj;have z:=h2 j (by have:ys.toArray.size=ys.length:=(by simp);omega);rw[numAt_eq ys.toArray j] at z;exact z
def jir(hc:X.calm=true):qcb X (.builtin "max") (jsv X.K):=by
 intro pins s σ H xs us Q I hv h;obtain⟨p,ns,rfl,hS,hn,q⟩:=h;obtain⟨u,rfl,ru⟩:=hv.one
 cases ru
 obtain⟨its,rv,pl,hz⟩:=I.list hS;have hl:=pl.isList;obtain⟨ys,rfl,rfl⟩:=jd7 rv;rw[jfm] at hl;have hsz:0<ys.toArray.size:=by rw[zB] at hn;simpa using hn
 refine max_intList (I.ok.hd hc) hl hsz fun v h' tk hv hk=>?_;obtain⟨t,rfl⟩:=intItems_at hv;obtain⟨h1,h2⟩:=argBest_gt (numAt ys.toArray) (ys.toArray.size-1);refine⟨.int _,H,I.kept (t':=tk) hk,⟨t,rfl⟩,q _ ?_ fun a ha=>?_⟩
 .rw[numAt_eq];have hsy:ys.toArray.size=ys.length:=by simp
  exact getD_mem (show _ <(List.map (fun x:Int×Tok=>x.fst) ys).length by rw[zB];omega)
 .obtain⟨j,hj,rfl⟩:=mem_getD ha;rw[zB] at hj;have z:=h2 j (by have:ys.toArray.size=ys.length:=(by simp);omega);rw[numAt_eq ys.toArray j] at z;exact z
theorem qf0(ns:List Int):∀k,k<=ns.length->preSum (fun i=>(ns[i]?).getD 0) k=(ns.take k).sum
 |0,_=>by simp[preSum]
 |k+1,h=>by
  have hk:k<ns.length:=by omega
  show preSum _ k+(ns[k]?).getD 0=_;rw[qf0 ns k ↑∅,zM,zA hk,List.sum_append];simp
def jis(hc:X.calm=true):qcb X (.builtin "sum") (jsw X.K):=by
 intro pins s σ H xs us Q I hv h;obtain⟨p,ns,rfl,hS,q⟩:=h;obtain⟨u,rfl,ru⟩:=hv.one
 cases ru
 obtain⟨its,rv,pl,hz⟩:=I.list hS;have hl:=pl.isList;have hlt:p<↑s:=by obtain⟨_,e,_⟩:=hl;exact uN e
 have hlen:=rv.length;rw[zB] at hlen;refine call_sum_walkG (bC hl ?_);refine⟨↑s,[↑s,p],[↑s],its.toArray.size,_,_,fun i=>(ns[i]?).getD 0,rfl,Walks.list (A:=X.A.in1) (I.ok.hd hc) _ p (vC hlt) its.toArray,⟨⟨_,uQ _ rfl,rfl,rfl⟩,hl.push _⟩,fun b hb=>?_,fun i v hP=>?_,fun h' tk t' hk=>?_⟩
 .have e:(s.heap.push {cls:=.type "list_iterator",data:=.fields #[.ref p,.int 0 0]}).objs.size=↑s+1:=by simp[Heap.push]
  rcases zO.mp hb with rfl|hb
  .show _ <(s.heap.push _).objs.size;rw[e];omega
  .rw[zG.mp hb];show _ <(s.heap.push _).objs.size;rw[e];exact gO hlt
 .have hi:its[i]?=some v:=by simpa using hP
  have hb:i<ns.length:=by rw[hlen];exact(uG.mp hi).1
  have hx:(ns.map V.int)[i]?=some (.int ns[i]):=by rw[zC,zA hb];rfl
  obtain⟨u,e,r⟩:=rv.get hx;rw[hi] at e
  cases e
  obtain⟨t,rfl⟩:=r;exact⟨t,by show wZ ns[i] t=wZ ((ns[i]?).getD 0) t;rw[zA hb];rfl⟩
 .have e:preSum (fun i=>(ns[i]?).getD 0) its.toArray.size=ns.sum:=by
   rw[zI,<-hlen,qf0 ns _ (uH _),zQ]
  rw[e];exact⟨.int _,H,I.kept (t':=tk) (fun b o eb=>hk b o (fun hm=>by have z:=uN eb;rw[zG.mp hm] at z;exact wD _ z) (uE _ eb)),⟨_,rfl⟩,q⟩
end
section
variable{K:uT}{H:Hp}{Q:VK}{p:Addr}{ns:List Int}
def jsx(hS:SqL K H p (ns.map V.int))(hn:0<ns.length)(h:∀m,m∈ns->(∀a∈ns,m<=a)->Q (.int m) H):jsu K [.ref p] H Q:=⟨p,ns,rfl,hS,hn,h⟩
def jsy(hS:SqL K H p (ns.map V.int))(hn:0<ns.length)(h:∀m,m∈ns->(∀a∈ns,a<=m)->Q (.int m) H):jsv K [.ref p] H Q:=⟨p,ns,rfl,hS,hn,h⟩
def jsz(hS:SqL K H p (ns.map V.int))(h:Q (.int ns.sum) H):jsw K [.ref p] H Q:=⟨p,ns,rfl,hS,h⟩
end
def XB(X:Cx)(E:XK)(e:uB)(s':uD):Prop:=∃(a:Addr)(C:uB)(d:Option Addr)(σ':L2.St)(H':Hp),e=.ref a/\Inv X [] σ' H' s'/\E C d H'/\
 ∃(T:Addr)(fl:uB)(σ1:L2.St)(H1:Hp)(s1:uD),Inv X [] σ1 H1 s1/\s1.heap.get? a=none/\s1.heap.get? T=none/\H' a=none/\H' T=none/\XTr s'.heap a C d fl T
abbrev xb(X:Cx)(E:XK):Cx:=X.wish (XB X E)
end My
namespace My
open PySem PySem.Spec PyProof.Rows L2 PyProof PySem.Builtin.Str
end My
namespace My
open PySem PySem.Spec PyProof.Rows L2 PyProof PySem.Builtin.Str PySem.StrLaws
def hits(l:List Nat)(c:Nat)(is:List Nat):List Nat:=is.filter fun i=>decide (l[i]?=some c)
end My
namespace My
open PySem PySem.Spec PyProof.Rows L2 PyProof PySem.Builtin.Str PySem.NumText
end My
namespace My
open PySem PySem.Spec PyProof.Rows L2 PyProof PySem.Builtin.Str
end My
namespace My
open PySem PySem.Spec PyProof.Rows L2 PySem.Builtin
section
variable{prog:uX}{w:vG}{A:vI}{E:uB->uD->Prop}{s:uD}{it d:Addr}{i ep:Nat}{od:Obj}{es:Array fE}
def js0(hit:s.heap.IsKeyIter it d i es.size ep)(hod:s.heap.get? d=some od)(hdd:od.data=.dict es ep){Q:Option uB->uD->Prop}(hi:i<es.size)
  (hQ:∀h',h'.IsKeyIter it d (i+1) es.size ep->bB it s.heap h'->Q (some es[i].key) {s with heap:=h'}):uS (uU prog w) A (dA (.ref it)) Q E s:=by
 obtain⟨o,ho,hc,hd⟩:=id hit;have up:(s.heap.update it (wN (·.setIfInBounds 1 (wT ((i:Int)+1))))).IsKeyIter it d (i+1) es.size ep:=by
  refine⟨_,bL _ ho (bM (xN hd _)),?_,?_⟩
  .rw[gH];exact hc
  .rw[xN hd];simp[wT]
 have own:Dict_items.ownsTuple "dict_keyiterator"=false:=∅
 have n1:¬((uP d==vV)=true):=uJ;unfold dA;refine uC (fL (wS (name:=xB "__next__") hit.typeIs xT (wF xT hit.typeIs F.entry_dict_keyiterator_next ?_ (hV _))));refine uC (uF (uC (uC (uC (xI hit.typeIs (uF (uC (eU ho hd ?_))))))));rw[own,iA uJ];show uS _ _ (ite ((uP d==vV)=true) _ _) _ _ s;rw[iA n1];refine uC (uF (uC (yW hod hdd ?_)));rw[iA (by simp)];refine uC (uF (uC (aP hod hdd ?_)));rw[iA (by simp)];refine uF ?_;have eg:(if(i:Int)<0 then none else es[(i:Int).toNat]?)=some es[i]:=by rw[iA ↑∅,xA];exact aH hi
 dsimp only;rw[eg];dsimp only;refine uC (uC (xI hit.typeIs (uF ?_)));refine uC (wpAny_isOneOf_keyiter hit.typeIs ?_);rw[own];refine uC (aB ho hd (by simp) ?_);refine uC (wR ?_);refine uC (wpAny_isOneOf_keyiter (s:={s with heap:=s.heap.update it (wN (·.setIfInBounds 1 (wT ((i:Int)+1))))}) up.typeIs ?_);exact uF (uF ⟨_,rfl,uF (hQ _ up (cD ..))⟩)
def jit(hh:A.handled=none)(hit:s.heap.IsKeyIter it d i es.size ep)(hod:s.heap.get? d=some od)(hdd:od.data=.dict es ep){Q:Option uB->uD->Prop}(hi:es.size<=i)
  (hQ:∀h',Heap.ExtBut it s.heap h'->Q none {s with heap:=h'}):uS (uU prog w) A (dA (.ref it)) Q E s:=by
 obtain⟨o,ho,hc,hd⟩:=id hit;have own:Dict_items.ownsTuple "dict_keyiterator"=false:=∅
 have n1:¬((uP d==vV)=true):=uJ;unfold dA;refine uC (fL (wS (name:=xB "__next__") hit.typeIs xT (wF xT hit.typeIs F.entry_dict_keyiterator_next ?_ (hV _))));refine uC (uF (uC (uC (uC (xI hit.typeIs (uF (uC (eU ho hd ?_))))))));rw[own,iA uJ];show uS _ _ (ite ((uP d==vV)=true) _ _) _ _ s;rw[iA n1];refine uC (uF (uC (yW hod hdd ?_)));rw[iA (by simp)];refine uC (uF (uC (aP hod hdd ?_)));rw[iA (by simp)];refine uF ?_;have eg:(if(i:Int)<0 then none else es[(i:Int).toNat]?)=none:=by rw[iA ↑∅,xA];exact dX hi
 dsimp only;rw[eg];dsimp only;refine uC (uC (xI hit.typeIs (uF ?_)));rw[own];refine uC (aB ho hd (by simp) (uC ?_));unfold newExc newTuple;refine uC (vX ?_ (by size_fits));refine uC (m:=eW _ _) (wpAny_of_eq (a:=vV) (by first|rfl|(simp only[eW];rfl)) (vX ?_ (by size_fits)));unfold raiseNew;refine uC (wpAny_handled ?_);rw[show A.in1.handled=none from hh];refine uC (uF (wpAny_throw ?_));refine uC (wpAny_isInstance (T:="StopIteration") (b:=true) ⟨_,uQ _ rfl,rfl⟩ isSubtype_stop ?_);exact uF (hQ _ (((cD ..).extBut.push _).push _))
def js1(hit:s.heap.IsValIter it d i es.size ep)(hod:s.heap.get? d=some od)(hdd:od.data=.dict es ep){Q:Option uB->uD->Prop}(hi:i<es.size)
  (hQ:∀h',h'.IsValIter it d (i+1) es.size ep->bB it s.heap h'->Q (some es[i].val) {s with heap:=h'}):uS (uU prog w) A (dA (.ref it)) Q E s:=by
 obtain⟨o,ho,hc,hd⟩:=id hit;have up:(s.heap.update it (wN (·.setIfInBounds 1 (wT ((i:Int)+1))))).IsValIter it d (i+1) es.size ep:=by
  refine⟨_,bL _ ho (bM (xN hd _)),?_,?_⟩
  .rw[gH];exact hc
  .rw[xN hd];simp[wT]
 have own:Dict_items.ownsTuple "dict_valueiterator"=false:=∅
 have n1:¬((uP d==vV)=true):=uJ;unfold dA;refine uC (fL (wS (name:=xB "__next__") hit.typeIs xG (wF xG hit.typeIs gU ?_ (gQ _))));refine uC (uF (uC (uC (uC (xJ hit.typeIs (uF (uC (eU ho hd ?_))))))));rw[own,iA uJ];show uS _ _ (ite ((uP d==vV)=true) _ _) _ _ s;rw[iA n1];refine uC (uF (uC (yW hod hdd ?_)));rw[iA (by simp)];refine uC (uF (uC (aP hod hdd ?_)));rw[iA (by simp)];refine uF ?_;have eg:(if(i:Int)<0 then none else es[(i:Int).toNat]?)=some es[i]:=by rw[iA ↑∅,xA];exact aH hi
 dsimp only;rw[eg];dsimp only;refine uC (uC (xJ hit.typeIs (uF ?_)));refine uC (eM hit.typeIs ?_);rw[own];refine uC (aB ho hd (by simp) ?_);refine uC (wR ?_);refine uC (eM (s:={s with heap:=s.heap.update it (wN (·.setIfInBounds 1 (wT ((i:Int)+1))))}) up.typeIs ?_);refine uC (eM (s:={s with heap:=s.heap.update it (wN (·.setIfInBounds 1 (wT ((i:Int)+1))))}) up.typeIs ?_);exact uF (uF ⟨_,rfl,uF (hQ _ up (cD ..))⟩)
def jiu(hh:A.handled=none)(hit:s.heap.IsValIter it d i es.size ep)(hod:s.heap.get? d=some od)(hdd:od.data=.dict es ep){Q:Option uB->uD->Prop}(hi:es.size<=i)
  (hQ:∀h',Heap.ExtBut it s.heap h'->Q none {s with heap:=h'}):uS (uU prog w) A (dA (.ref it)) Q E s:=by
 obtain⟨o,ho,hc,hd⟩:=id hit;have own:Dict_items.ownsTuple "dict_valueiterator"=false:=∅
 have n1:¬((uP d==vV)=true):=uJ;unfold dA;refine uC (fL (wS (name:=xB "__next__") hit.typeIs xG (wF xG hit.typeIs gU ?_ (gQ _))));refine uC (uF (uC (uC (uC (xJ hit.typeIs (uF (uC (eU ho hd ?_))))))));rw[own,iA uJ];show uS _ _ (ite ((uP d==vV)=true) _ _) _ _ s;rw[iA n1];refine uC (uF (uC (yW hod hdd ?_)));rw[iA (by simp)];refine uC (uF (uC (aP hod hdd ?_)));rw[iA (by simp)];refine uF ?_;have eg:(if(i:Int)<0 then none else es[(i:Int).toNat]?)=none:=by rw[iA ↑∅,xA];exact dX hi
 dsimp only;rw[eg];dsimp only;refine uC (uC (xJ hit.typeIs (uF ?_)));rw[own];refine uC (aB ho hd (by simp) (uC ?_));unfold newExc newTuple;refine uC (vX ?_ (by size_fits));refine uC (m:=eW _ _) (wpAny_of_eq (a:=vV) (by first|rfl|(simp only[eW];rfl)) (vX ?_ (by size_fits)));unfold raiseNew;refine uC (wpAny_handled ?_);rw[show A.in1.handled=none from hh];refine uC (uF (wpAny_throw ?_));refine uC (wpAny_isInstance (T:="StopIteration") (b:=true) ⟨_,uQ _ rfl,rfl⟩ isSubtype_stop ?_);exact uF (hQ _ (((cD ..).extBut.push _).push _))
def jov{Q:uB->uD->Prop}(hd:(d==wQ)=false)(hod:s.heap.get? d=some od)(hx:od.ExactDict)(hdd:od.data=.dict es ep)
  (hQ:Q (.ref ↑s) {s with heap:=s.heap.push {cls:=.type "dict_keyiterator",data:=.fields #[.ref d,.int 0 0,.int es.size 0,.int ep 0]}}):uS (uU prog w) A (pyIter (.ref d)) Q E s:=by
 have hT:s.TypeIs (.ref d) "dict":=⟨od,hod,hx.1⟩;refine wpAny_pyIter_slot hT F.slot_dict_iter (wF F.slot_dict_iter hT F.entry_dict_iter ?_ (F.args_dict_iter_1 _));unfold xO.«dict.__iter__» Builtin.Dict.dictSlotNone;refine uC (uC (wpAny_notOrdered_dict hT (uF ?_)));unfold eO;dsimp only;refine uC (uF (uC ?_));rw[iA (by rw[hd];exact uJ)];refine uF (uC (yW hod hdd (uC (aP hod hdd (uC (vX (uF ⟨_,rfl,"dict_keyiterator",_,⟨_,uQ _ rfl,rfl⟩,F.slot_dict_keyiterator_next.lookup,?_⟩)))))));simpa[wT] using hQ
def jd8{v:Addr}{Q:uB->uD->Prop}(hv:s.heap.IsValuesView v d)(hod:s.heap.get? d=some od)(hdd:od.data=.dict es ep)
  (hQ:Q (.ref ↑s) {s with heap:=s.heap.push {cls:=.type "dict_valueiterator",data:=.fields #[.ref d,.int 0 0,.int es.size 0,.int ep 0]}}):uS (uU prog w) A (pyIter (.ref v)) Q E s:=by
 obtain⟨ov,hov,hcv,hdv⟩:=id hv;refine wpAny_pyIter_slot hv.typeIs F.slot_dict_values_iter (wF F.slot_dict_values_iter hv.typeIs F.entry_dict_values_iter ?_ (F.args_dict_values_iter_1 _));unfold xO.«dict_values.__iter__» Dict_items.dictOf;refine uC (uF (uC (uC (aA hov hdv (x:=.ref d) rfl (uF (uC ?_))))));unfold Dict_items.newIterator;refine uC (yW hod hdd (uC (aP hod hdd ?_)));have own:Dict_items.ownsTuple "dict_valueiterator"=false:=∅
 simp only[own,Bool.false_eq_true,if_false];refine vX (uF ⟨_,rfl,"dict_valueiterator",_,⟨_,uQ _ rfl,rfl⟩,F.slot_dict_valueiterator_next.lookup,?_⟩);simpa[wT] using hQ
def jiv(d:Addr)(hd:(d==wQ)=false):MeetsIn prog w (xO.«dict.values» ⟨[.ref d],[]⟩) (fun _ R s=>s.TypeIs (.ref d) "dict"/\
  R (.ok (.ret (.ref ↑s))) {s with heap:=s.heap.push {cls:=.type "dict_values",data:=.fields #[.ref d]}}):=
 .of_wp fun A R s ⟨hT,h⟩=>by
  refine uC ?_;unfold Builtin.Dict.noArgs;refine uC (wpAny_notOrdered_dict hT ?_);show uS _ _ (pure d) _ _ s;refine uF ?_;show uS _ _ (eO d >>= _) _ _ s;refine uC ?_;unfold eO;rw[iA (by rw[hd];exact uJ)];exact uF (uC (vX (uF ⟨_,rfl,h⟩)))
end
end My
namespace My
open PySem PySem.Spec PyProof.Rows L2
section
variable{X:Cx}{pins:List (Addr×Obj)}{σ:L2.St}{H:Hp}{s:uD}{a:Addr}{kvs:List (List Key×V)}{o:Obj}
def Inv.freezeT(I:Inv X pins σ H s)(e:H a=some (.dT kvs))(ho:s.heap.get? a=some o):Inv X pins σ (upd H a (.frz o (.dT kvs))) s:=by
 have ok:=I.hok a _ e;have z:=I.write (x:=a) (e:=a) (o:=.frz o (.dT kvs)) (h':=s.heap) (t':=s.toks) (by rw[e];exact wM) (.inl rfl) (fun _ _ _ q=>q) ⟨o,ho⟩ ⟨ho,ok.stay (fun _ _ _ r=>r) (fun c r=>by
  rw[qa7 (fun w=>by subst w;rw[e] at r;cases r)];exact r) fun c xs r=>by
  rw[qa7 (fun w=>by subst w;rw[e] at r;cases r)];exact r⟩
 exact z
end
def jow{P:uX}{w:vG}{H:Hp}{h:vN}{a:Addr}{kvs:List (List Key×V)}(ok:qbj P w H h a (.dT kvs)):∃o es ep,h.get? a=some o/\o.ExactDict/\o.data=.dict es ep/\es.size=kvs.length/\(a==wQ)=false/\
  ∀(i:Nat)(hi:i<es.size) k v,kvs[i]?=some (k,v)->∃b,es[i].key=.ref b/\H b=some (.tup (k.map kV))/\qb8 v es[i].val:=by
 obtain⟨_,y,xs,r,o,es,ep,h1,h2,h3,h4,_⟩:=ok;have key:∀{l:List (List Key×V)} {m:List (List Key×Addr×uB)},KT H l m->l.length=m.length/\∀(i:Nat) k v,l[i]?=some (k,v)->∃q,m[i]?=some q/\H q.2.1=some (.tup (k.map kV))/\qb8 v q.2.2:=by
  intro l m q
  induction q with
  |nil=>exact⟨rfl,fun i k v e=>by simp at e⟩
  | @cons p q ps qs hq t ih=>
   refine⟨by rw[zK,zK,ih.1],fun i k v e=>?_⟩
   cases i with
   |zero=>
    simp only[aW,cU] at e⊢;subst e;exact⟨q,rfl,hq.2.1,hq.2.2⟩
   |succ i=>
    simp only[aY] at e⊢;exact ih.2 i k v e
 obtain⟨kl,kg⟩:=key r;have hs:es.size=xs.length:=by
  have:=congrArg wV h4;rw[zB] at this;simpa using this
 refine⟨o,es,ep,h1,h2,h3,↑∅,y,fun i hi k v e=>?_⟩;obtain⟨q,hq,hb,hv⟩:=kg i k v e;have e1:es[i]?=some (entryOfKey (cL (qb4 P w)) q):=by
  rw[<-xW,h4,zC,hq];rfl
 have e2:es[i]=entryOfKey (cL (qb4 P w)) q:=by
  rw[aH hi] at e1;exact uW e1
 rw[e2];exact⟨q.2.1,rfl,hb,hv⟩
def jug(d:Addr)(o:Obj)(kvs:List (List Key×V)):It:=
 ⟨fun i H=>H d=some (.frz o (.dT kvs))/\i<kvs.length,fun i H x H'=>H'=H/\∃k v b,kvs[i]?=some (k,v)/\x=.ref b/\H b=some (.tup (k.map kV)),fun i H=>H d=some (.frz o (.dT kvs))/\kvs.length<=i⟩
def jox{P:uX}{w:vG}{K:uT}{tg:vT}{o:Obj}{kvs:List (List Key×V)}{es:Array fE}{ep:Nat}(d it:Addr)(hd:o.data=.dict es ep):jl3 P w K tg (jug d o kvs) [it] it (fun i h=>h.IsKeyIter it d i kvs.length ep) where
 mem:=by simp
 obj:=fun i h st b hb=>by
  have e:b=it:=by simpa using hb
  subst e;obtain⟨ob,e,c,dd⟩:=st;exact⟨ob,e,fun v z=>by rw[dd] at z;cases z⟩
 keep:=fun i h h' st k=>st.at fun ob e=>k it (by simp) ob e
 item:=by
  intro X hP hw hK hc i pins s σ H E I hf st hg;subst hP hw hK;obtain⟨hfz,hi⟩:=hg;obtain⟨ho,okd⟩:=I.hok d _ hfz;obtain⟨o',es',ep',ho',hx,hd',hsz,hsy,get⟩:=jow okd;rw[ho] at ho'
  cases ho'
  rw[hd] at hd'
  cases hd'
  obtain⟨f0,f1,f2,f3,f4,f5⟩:=hf it (by simp);obtain⟨b,hb,hbt,_⟩:=get i ↑∅ kvs[i].1 kvs[i].2 (by rw[zA hi]);rw[<-hsz] at st;refine js0 st ho hd ↑∅ fun h' st' hs'=>?_;have I1:Inv X pins σ H {s with heap:=h'}:=I.turned (t':=s.toks) (fun b ob hb e=>hs'.extBut b ob hb e) f0 f1 f3 f4 f5;obtain⟨ob,e,c,dd⟩:=id st';rw[hb];exact⟨_,rfl,jgy (s:={s with heap:=h'}) e c dd ∅ ⟨.ref b,H,I1,rfl,⟨rfl,kvs[i].1,kvs[i].2,b,zA hi,rfl,hbt⟩,by rw[<-hsz];exact st',fun b hb=>(hf b hb).1⟩⟩
 done:=by
  intro X hP hw hK hc i pins s σ H E I hf st hg;subst hP hw hK;obtain⟨hfz,hi⟩:=hg;obtain⟨ho,okd⟩:=I.hok d _ hfz;obtain⟨o',es',ep',ho',hx,hd',hsz,hsy,get⟩:=jow okd;rw[ho] at ho'
  cases ho'
  rw[hd] at hd'
  cases hd'
  obtain⟨f0,f1,f2,f3,f4,f5⟩:=hf it (by simp);rw[<-hsz] at st;exact jit (I.ok.hd hc) st ho hd ↑∅ fun h' eb=>⟨rfl,I.turned (t':=s.toks) (fun b ob hb e=>eb b ob hb e) f0 f1 f3 f4 f5⟩
 self:=fun _ _ _ _ _ st h=>wpAny_pyIter_keyiter st h
def joy(x:V)(H:Hp)(R:It->Hp->Prop):Prop:=∃a kvs,x=.ref a/\H a=some (.dT kvs)/\∀o,R (jug a o kvs) (upd H a (.frz o (.dT kvs)))
def jmz(td:TE):TI:=fun σ H R=>td σ H fun x H1=>joy x H1 R
def qg8{X:Cx}{tg l:vT}{tl:TE}(hl:PE X l tl):PI X tg l (jmz tl):=by
 intro pins s σ H R I h;refine thn (hl pins s σ H _ I h) fun v s1 ⟨x,H1,I1,r1,q1⟩=>?_;obtain⟨a,kvs,e,ea,q⟩:=q1;subst e
 cases r1
 obtain⟨o,es,ep,ho,hx,hd,hsz,hsy,get⟩:=jow (I1.hok a _ ea);refine jov hsy ho hx hd ?_;have it0:(s1.heap.push {cls:=.type "dict_keyiterator",data:=.fields #[.ref a,.int 0 0,.int es.size 0,.int ep 0]}).IsKeyIter ↑s1 a 0 kvs.length ep:=by
  rw[<-hsz];exact⟨_,uQ _ rfl,rfl,rfl⟩
 have I2:=Inv.freezeT I1 ea ho;refine⟨↑s1,[↑s1],_,_,_,rfl,I2.kept (t':=s1.toks) fun b ob e=>uE _ e,jox (kvs:=kvs) a _ hd,it0,fun b hb=>?_,q o⟩;have e:b=↑s1:=by simpa using hb
 subst e;exact I2.fpOk (uH _) (I2.hok.fresh (uH _))
def js2:V->List V->Hp->VK->Prop:=fun x xs H Q=>∃p kvs,x=.ref p/\xs=[]/\Rd H p (.dT kvs)/\∀v,H v=none->Q (.ref v) (upd H v (jmx v p))
section
variable{X:Cx}
def jk3:MtR X "dict.values" js2:=by
 intro pins s σ H x xs v us Q I rx rv h;obtain⟨p,kvs,rfl,rfl,e,q⟩:=h
 cases rx
 have hus:=rv.zero;subst hus;obtain⟨o,es,ep,ho,hx,hd,hsz,hsy,get⟩:=jow (e.ok I.hok);have hT:s.TypeIs (.ref p) "dict":=⟨o,ho,hx.1⟩;refine cI PySem.F.slot_dict_values hT PySem.F.entry_dict_values (PySem.F.args_dict_values_1 _) (jiv p hsy) ⟨hT,?_⟩;exact⟨.ref _,_,I.laid (a:=↑s) (o:=jmx ↑s p) (t':=s.toks) (fun b ob e=>uE _ e) (uH _) ⟨⟨_,uQ _ rfl,rfl,rfl⟩,⟨_,uQ _ rfl⟩,fun h1 h2 ⟨o,e1,r⟩ k=>⟨o,k _ e1,r⟩⟩,rfl,q _ (I.hok.fresh (uH _))⟩
end
end My
namespace My
open PySem PySem.Spec PyProof.Rows L2 PyProof PySem.SeqAt
def js3(z:Str):uB->Bool
 | .str a _=>a==z
 |_=>false
theorem jd9(z:Str):∀{us:List uB} {ss:List Str},gM us ss->∀(j:Nat)(h1:j<us.length)(h2:j<ss.length),js3 z us[j]=(ss[j]==z)
 |_,_,.nil,j,h1,_=>absurd h1 (cA j)
 |_,_,.cons x t h,0,_,_=>rfl
 |_,_,.cons x t h,j+1,h1,h2=>jd9 z h j (xP h1) (xP h2)
theorem jiw{A:vI}{s:uD}(z:Str)(t:Tok):∀{us:List uB} {ss:List Str},gM us ss->∀y∈us,EqAt A s y (.str z t) (js3 z y)
 |_,_,.nil,y,h=>by simp at h
 |_,_,.cons x u r,y,h=>by
  rcases zO.mp h with rfl|h
  .exact EqAt.str_str x u z t
  .exact jiw z t r y h
theorem jm0{z:Str}:∀{ss:List Str} {j:Nat} (h:j<ss.length),j<ss.idxOf z->ss[j]≠z
 | [],j,h,_=>absurd h (cA j)
 |x::ss,0,_,hj=>fun e=>by
  have e:x=z:=e;rw[List.idxOf_cons,e] at hj;simp at hj
 |x::ss,j+1,h,hj=>by
  rw[List.idxOf_cons] at hj
  cases c:(x==z) with
  |true=>rw[c] at hj;simp at hj
  |false=>
   rw[c] at hj;exact jm0 (xP h) (by simpa using hj)
section
variable{X:Cx}
def js4(K:uT):V->List V->Hp->VK->Prop:=fun x xs H Q=>∃(l:Addr)(ss:List Str)(z:Str),x=.ref l/\xs=[.str z]/\SqL K H l (ss.map V.str)/\z∈ss/\Q (.int ((ss.idxOf z:Nat):Int)) H
def joz:MtR X "list.index" (js4 X.K):=by
 intro pins s σ H x xs v us Q I rx rv h;obtain⟨l,ss,z,rfl,rfl,hS,hz,q⟩:=h
 cases rx
 obtain⟨u,rfl,ru⟩:=rv.one;obtain⟨t,rfl⟩:=ru;obtain⟨its,r1,pl,hz'⟩:=I.list hS;have sa:=qg2 r1;have hlen:=r1.length;rw[zB] at hlen;obtain⟨⟨cls,dd,data,sl⟩,ho,hc,n,hd⟩:=id pl.isList;simp only at hc hd;subst hc hd;have hj:ss.idxOf z<ss.length:=List.idxOf_lt_length_iff.mpr hz;have hz2:ss.length<=16777216:=by rw[zB] at hz';exact hz'
 refine dU PySem.F.slot_list_index ⟨_,ho,rfl⟩ PySem.F.entry_list_index (PySem.F.args_list_index_2 _ _)
  (list_indexAt l its.toArray n dd sl (.str z t) (js3 z) (ss.idxOf z) (by simp;omega) ↑∅ ?_ ?_) ⟨ho,fun y hy=>jiw z t sa y (by simpa using hy),.int ((ss.idxOf z:Nat):Int),H,I.tok _,⟨_,rfl⟩,q⟩
 .show js3 z its[ss.idxOf z]=true;rw[jd9 z sa _ ↑∅ hj];simpa using List.getElem_idxOf hj
 .intro j hjs hlt;show js3 z its[j]=false;rw[jd9 z sa j (by simpa using hjs) ↑∅];exact beq_false_of_ne (jm0 _ hlt)
end
section
variable{K:uT}{H:Hp}{Q:VK}
def js5{l:Addr}{ss:List Str}{j:Nat}(h:SqL K H l (ss.map V.str))(nd:ss.Nodup)(hj:j<ss.length)(q:Q (.int (j:Int)) H):js4 K (.ref l) [.str ss[j]] H Q:=⟨l,ss,ss[j],rfl,rfl,h,zL hj,by
 have e:ss.idxOf ss[j]=j:=List.Nodup.idxOf_getElem nd j hj;rw[e];exact q⟩
end
end My
namespace My
open PySem PySem.Spec PyProof.Rows L2
section
variable{K:uT}{H:Hp}{Q:VK}
def jo0{p:Addr}{xs:List V}{r:Int}(hS:SqL K H p xs)(h0:0<=r)(h1:r<xs.length)(h:∀m,m∈xs->Q m H):jub K (.ref p) (.int r) H Q:=by
 obtain⟨j,rfl⟩:=vL h0;have hj:j<xs.length:=by omega
 exact qb0 hS (qar (zA hj)) (h _ (zL hj))
end
end My
namespace My
open PySem PySem.Spec PyProof.Rows L2 PyProof PySem.SeqAt
end My
namespace My
open PySem PySem.Spec PyProof.Rows L2
section
variable{K:uT}{H:Hp}{Q:VK}{p l:Addr}{n:Int}{y:V}{xs:List V}
def jo1{k:Nat}(e:H l=some (.lst xs))(hk:xs[k]?=some y)(hz:xs.length<2^62)(h:Q y (upd H l (.lst (xs.eraseIdx k)))):jmc (.ref l) [.int (k:Int)] H Q:=by
 have hl:=(uG.mp hk).1;refine⟨l,xs,(k:Int),k,y,rfl,rfl,e,↑∅,↑∅,?_,hk,h⟩;unfold fD;simp only[]
 split<;>simp_all<;>omega
def qet{n:Nat}{a b:Addr}(ha:SqL K H a xs)(hb:SqL K H b [])(ne:a≠b):DEq K H (n+1) (.ref a) (.ref b) (decide (xs=[])):=by
 cases xs with
 |nil=>
  have z:=DEq.ls (n:=n) (e:=fun _=>true) ha hb ne rfl (fun j h1 h2=>absurd h1 (cA j));exact z
 |cons p r=>exact DEq.lsN ha hb ne (by simp)
end
def jxv(K:uT):List V->Hp->VK->Prop:=fun xs H Q=>∃(p:Addr)(bs:List Bool),xs=[.ref p]/\SqL K H p (bs.map V.bl)/\Q (.bl (bs.any id)) H
def jix(bs:List Bool):((vB bs.length).any fun i=>(bs[i]?).getD true)=bs.any id:=by
 rw[xR,yN,yN];constructor
 .rintro⟨i,hi,h⟩;have hi':=yP.mp hi;rw[zA hi'] at h;exact⟨_,zL hi',h⟩
 .rintro⟨b,hb,h⟩;obtain⟨i,hi,e⟩:=zR.mp hb;exact⟨i,yP.mpr hi,by rw[zA hi,e];exact h⟩
section
variable{X:Cx}
def jiy(hc:X.calm=true):qcb X (.builtin "any") (jxv X.K):=by
 intro pins s σ H xs us Q I hv h;obtain⟨p,bs,rfl,hS,q⟩:=h;obtain⟨u,rfl,ru⟩:=hv.one
 cases ru
 obtain⟨its,rv,pl,hz⟩:=I.list hS;have hl:=pl.isList;have hlt:p<↑s:=by obtain⟨_,e,_⟩:=hl;exact uN e
 have hlen:=rv.length;rw[zB] at hlen;refine call_any_walk (bC hl ?_);refine⟨↑s,[↑s,p],[↑s],its.toArray.size,_,_,fun i=>(bs[i]?).getD true,rfl,Walks.list (A:=X.A.in1) (I.ok.hd hc) _ p (vC hlt) its.toArray,⟨⟨_,uQ _ rfl,rfl,rfl⟩,hl.push _⟩,fun i v s' Q' E' hP hQ=>?_,fun h' tk hk=>?_⟩
 .have hi:its[i]?=some v:=by simpa using hP
  have hb:i<bs.length:=by rw[hlen];exact(uG.mp hi).1
  have hx:(bs.map V.bl)[i]?=some (.bl bs[i]):=by rw[zC,zA hb];rfl
  obtain⟨u,e,r⟩:=rv.get hx;rw[hi] at e
  cases e
  cases r
  dsimp only at hQ;rw[zA hb] at hQ;exact wH hQ
 .have e:((vB its.toArray.size).any fun i=>(bs[i]?).getD true)=bs.any id:=by
   rw[zI,<-hlen];exact jix bs
  rw[e];exact⟨.bl _,H,I.kept (t':=tk) (fun b o eb=>hk b o (fun hm=>by have z:=uN eb;rw[zG.mp hm] at z;exact wD _ z) (uE _ eb)),rfl,q⟩
end
def jv9(a:Addr)(o:Obj)(kvs:List (List Key×V)):It:=
 ⟨fun i H=>H a=some (.frz o (.dT kvs))/\i<kvs.length,fun i H v H'=>H'=H/\∃k,kvs[i]?=some (k,v),fun i H=>H a=some (.frz o (.dT kvs))/\kvs.length<=i⟩
def jo2{P:uX}{w:vG}{K:uT}{tg:vT}{o:Obj}{kvs:List (List Key×V)}{es:Array fE}{ep:Nat}(d it:Addr)(hd:o.data=.dict es ep):jl3 P w K tg (jv9 d o kvs) [it] it (fun i h=>h.IsValIter it d i kvs.length ep) where
 mem:=by simp
 obj:=fun i h st b hb=>by
  have e:b=it:=by simpa using hb
  subst e;obtain⟨ob,e,c,dd⟩:=st;exact⟨ob,e,fun v z=>by rw[dd] at z;cases z⟩
 keep:=fun i h h' st k=>st.at fun ob e=>k it (by simp) ob e
 item:=by
  intro X hP hw hK hc i pins s σ H E I hf st hg;subst hP hw hK;obtain⟨hfz,hi⟩:=hg;obtain⟨ho,okd⟩:=I.hok d _ hfz;obtain⟨o',es',ep',ho',hx,hd',hsz,hsy,get⟩:=jow okd;rw[ho] at ho'
  cases ho'
  rw[hd] at hd'
  cases hd'
  obtain⟨f0,f1,f2,f3,f4,f5⟩:=hf it (by simp);obtain⟨b,_,_,ru⟩:=get i ↑∅ kvs[i].1 kvs[i].2 (by rw[zA hi]);rw[<-hsz] at st;refine js1 st ho hd ↑∅ fun h' st' hs'=>?_;have I1:Inv X pins σ H {s with heap:=h'}:=I.turned (t':=s.toks) (fun b ob hb e=>hs'.extBut b ob hb e) f0 f1 f3 f4 f5;obtain⟨ob,e,c,dd⟩:=id st';exact⟨_,rfl,jgy (s:={s with heap:=h'}) e c dd ∅ ⟨kvs[i].2,H,I1,ru,⟨rfl,kvs[i].1,zA hi⟩,by rw[<-hsz];exact st',fun b hb=>(hf b hb).1⟩⟩
 done:=by
  intro X hP hw hK hc i pins s σ H E I hf st hg;subst hP hw hK;obtain⟨hfz,hi⟩:=hg;obtain⟨ho,okd⟩:=I.hok d _ hfz;obtain⟨o',es',ep',ho',hx,hd',hsz,hsy,get⟩:=jow okd;rw[ho] at ho'
  cases ho'
  rw[hd] at hd'
  cases hd'
  obtain⟨f0,f1,f2,f3,f4,f5⟩:=hf it (by simp);rw[<-hsz] at st;exact jiu (I.ok.hd hc) st ho hd ↑∅ fun h' eb=>⟨rfl,I.turned (t':=s.toks) (fun b ob hb e=>eb b ob hb e) f0 f1 f3 f4 f5⟩
 self:=fun _ _ _ _ _ st h=>wpAny_pyIter_valiter st h
def jo3(x:V)(H:Hp)(R:It->Hp->Prop):Prop:=∃v a kvs,x=.ref v/\H v=some (jmx v a)/\H a=some (.dT kvs)/\∀o,R (jv9 a o kvs) (upd H a (.frz o (.dT kvs)))
def jm1(td:TE):TI:=fun σ H R=>td σ H fun x H1=>jo3 x H1 R
def jk4{X:Cx}{tg l:vT}{tl:TE}(hl:PE X l tl):PI X tg l (jm1 tl):=by
 intro pins s σ H R I h;refine thn (hl pins s σ H _ I h) fun v s1 ⟨x,H1,I1,r1,q1⟩=>?_;obtain⟨v,a,kvs,e,hv,ea,q⟩:=q1;subst e
 cases r1
 obtain⟨o,es,ep,ho,hx,hd,hsz,hsy,get⟩:=jow (I1.hok a _ ea);obtain⟨hv1,_⟩:=I1.hok v _ hv;refine jd8 hv1 ho hd ?_;have I2:=Inv.freezeT I1 ea ho;refine⟨↑s1,[↑s1],_,_,_,rfl,I2.kept (t':=s1.toks) fun b ob e=>uE _ e,jo2 (kvs:=kvs) a _ hd,by rw[<-hsz];exact⟨_,uQ _ rfl,rfl,rfl⟩,fun b hb=>?_,q o⟩;have e:b=↑s1:=by simpa using hb
 subst e;exact I2.fpOk (uH _) (I2.hok.fresh (uH _))
section
variable{K:uT}{σ:L2.St}{H:Hp}{tl td ty tv:TE}{a p:Addr}{kvs:List (List Key×V)}{Q:VK}{D:jbe}{rd:V->V->Hp->VK->Prop}
def jwa{R:It->Hp->Prop}(h:tl σ H fun x H1=>jo3 x H1 R):jm1 tl σ H R:=h
def js6{R:It->Hp->Prop}{v:Addr}(hv:H v=some (jmx v a))(e:H a=some (.dT kvs))(h:∀o,R (jv9 a o kvs) (upd H a (.frz o (.dT kvs)))):jo3 (.ref v) H R:=⟨v,a,kvs,rfl,hv,e,h⟩
def jwb{bs:List Bool}(e:SqL K H p (bs.map V.bl))(h:Q (.bl (bs.any id)) H):jxv K [.ref p] H Q:=⟨p,bs,rfl,e,h⟩
def kDA(tv:TE)(rd:V->V->Hp->VK->Prop)(D:jbe)(σ:L2.St)(x y:V)(H2:Hp):Prop:=∃a v,x=.ref a/\jb6 H2 a y (some v)/\tv σ H2 fun y2 H3=>rd v y2 H3 fun z H4=>∃H5,jgq H4 a y z H5/\D.nx σ H5
def jy3(h:td σ H fun x H1=>ty σ H1 fun y H2=>kDA tv rd D σ x y H2):jrn td ty tv rd D σ H:=h
end
section
variable{X:Cx}{pins:List (Addr×Obj)}{σ:L2.St}{H H':Hp}{s:uD}{a:Addr}{kvs:List (List Key×V)}{o:Obj}
def Inv.thawT(I:Inv X pins σ H s)(e:H a=some (.frz o (.dT kvs)))(n0:qgq X.H₀ a):Inv X pins σ (upd H a (.dT kvs)) s:=by
 have ne:∀b,H b=none->b≠a:=fun b q z=>by subst z;rw[e] at q;cases q
 have nk:∀b u,H b=some u->(∀o' u',u≠ .frz o' u')->b≠a:=fun b u q z w=>by subst w;rw[e] at q;cases q;exact z _ _ rfl
 refine⟨I.ok,I.os,I.bare,⟨I.base.keep,I.base.slot,fun b ob q n hx=>?_,I.base.there,fun b xs q=>?_,fun b ob u q=>?_,fun b ps q=>?_⟩,I.loc,I.cell,?_,fun x c q=>?_,fun p hp=>?_,fun b u q=>?_,I.len⟩
 .have z:=I.base.free b ob q n hx;rw[qa7 (ne b z)];exact z
 .have z:=I.base.tups b xs q;rw[qa7 (nk b _ z (by intro _ _ h;cases h))];exact z
 .have z:=I.base.frzs b ob u q;rw[qa7 (fun w=>by subst w;exact n0 _ _ q)];exact z
 .obtain⟨m,z⟩:=I.base.tbls b ps q;exact⟨m,by rw[qa7 (nk b _ z (by intro _ _ h;cases h))];exact z⟩
 .have z:=I.free;rw[qa7 (ne _ z)];exact z
 .have z:=I.freeC x c q;rw[qa7 (ne _ z)];exact z
 .obtain⟨p1,p2,p3⟩:=I.pin p hp;exact⟨p1,by rw[qa7 (ne _ p2)];exact p2,p3⟩
 .by_cases hb:b=a
  .subst hb;rw[qa1] at q
   cases q
   exact((I.hok b _ e).2).stay (fun _ _ _ r=>r) (fun c r=>by rw[qa7 (nk c _ r (by intro _ _ h;cases h))];exact r) fun c xs r=>by rw[qa7 (nk c _ r (by intro _ _ h;cases h))];exact r
  .rw[qa7 hb] at q;exact(I.hok b u q).stay (fun _ _ _ r=>r) (fun c r=>by rw[qa7 (nk c _ r (by intro _ _ h;cases h))];exact r) fun c xs r=>by rw[qa7 (nk c _ r (by intro _ _ h;cases h))];exact r
def qgo(H0 H H':Hp):Prop:=H'=H\/∃a o kvs,H a=some (.frz o (.dT kvs))/\qgq H0 a/\H'=upd H a (.dT kvs)
def Inv.thawedT(I:Inv X pins σ H s)(t:qgo X.H₀ H H'):Inv X pins σ H' s:=by
 rcases t with rfl|⟨a,o,kvs,e,n,rfl⟩
 .exact I
 .exact Inv.thawT I e n
end
section
variable{X:Cx}{st:Stmt}{e:vT}{t:TS}{te:TE}
def jwc(H0:Hp)(D:jbe):jbe:={nx:=fun σ H=>∃H',qgo H0 H H'/\D.nx σ H',rt:=fun v H=>∃H',qgo H0 H H'/\D.rt v H',bk:=fun σ H=>∃H',qgo H0 H H'/\D.bk σ H',ct:=fun σ H=>∃H',qgo H0 H H'/\D.ct σ H'}
def js7(H0:Hp)(t:TS):TS:=fun D σ H=>t (jwc H0 D) σ H
def jea(h:PS X st t):PS X st (js7 X.H₀ t):=fun pins s σ H D I q=>thn (h pins s σ H _ I q) fun f s' hs=>by
 cases f with
 |next=>obtain⟨σ',H1,J,H2,th,q⟩:=hs;exact⟨σ',H2,Inv.thawedT J th,q⟩
 |brk=>obtain⟨σ',H1,J,H2,th,q⟩:=hs;exact⟨σ',H2,Inv.thawedT J th,q⟩
 |cont=>obtain⟨σ',H1,J,H2,th,q⟩:=hs;exact⟨σ',H2,Inv.thawedT J th,q⟩
 |ret u=>obtain⟨v,σ',H1,J,r,H2,th,q⟩:=hs;exact⟨v,σ',H2,Inv.thawedT J th,r,q⟩
def js8(H0:Hp)(t:TE):TE:=fun σ H Q=>t σ H fun v H1=>∃H',qgo H0 H1 H'/\Q v H'
def jo4(h:PE X e te):PE X e (js8 X.H₀ te):=fun pins s σ H Q I q=>thn (h pins s σ H _ I q) fun u s' ⟨v,H1,J,r,H2,th,q⟩=>⟨v,H2,Inv.thawedT J th,r,q⟩
end
section
variable{σ:L2.St}{H H' H0:Hp}{D:jbe}{t:TS}{te:TE}{Q:VK}{a:Addr}{o:Obj}{kvs:List (List Key×V)}{v:V}
def jiz(h:t (jwc H0 D) σ H):js7 H0 t D σ H:=h
def jeb(th:qgo H0 H H')(h:D.nx σ H'):(jwc H0 D).nx σ H:=⟨H',th,h⟩
def js9(h:te σ H fun v H1=>∃H',qgo H0 H1 H'/\Q v H'):js8 H0 te σ H Q:=h
def jc7(e:H a=some (.frz o (.dT kvs)))(n:qgq H0 a):qgo H0 H (upd H a (.dT kvs)):=.inr ⟨a,o,kvs,e,n,rfl⟩
def qgd(e:H a=some (.dT kvs)):qgq H a:=fun o u z=>by rw[e] at z;cases z
end
def jta(K:uT):TE:=fun _ H Q=>∀p,H p=none->(∀a xs,SqL K H a xs->a≠p)->Q (.ref p) (upd H p (.lst []))
def jo5{X:Cx}{pos:Pos}:PE X (.List [] pos) (jta X.K):=by
 intro pins s σ H Q I hq;refine wpAny_List_spliced (thn (qa3 (X:=X) pos pins s σ H (fun xs H1=>xs=[]/\H1=H) I ⟨rfl,rfl⟩) fun us s1 ⟨xs,H1,I1,r,e1,e2⟩=>?_);subst e1 e2;have hu:=r.zero;subst hu;refine⟨by show 0<=_;exact wI _,?_⟩;have hf:H1 ↑s1=none:=I1.hok.fresh (uH _);refine⟨.ref ↑s1,upd H1 ↑s1 (.lst []),I1.laid (t':=s1.toks) (fun b u e=>uE _ e) (uH _) ?_,rfl,hq _ hf fun a xs hS=>?_⟩
 .exact⟨wI _,[],0,r,uQ _ rfl⟩
 .obtain⟨its,rv,pl,hz⟩:=I1.list hS;obtain⟨_,e,_⟩:=pl.isList;exact vC (uN e)
def jtb{K:uT}{σ:L2.St}{H:Hp}{Q:VK}(h:∀p,H p=none->(∀a xs,SqL K H a xs->a≠p)->Q (.ref p) (upd H p (.lst []))):jta K σ H Q:=h
inductive PEq(K:uT)(H:Hp):Nat->V->V->Bool->Prop
 |same{n:Nat}{a:Addr}:PEq K H n (.ref a) (.ref a) true
 |flat{n:Nat}{x y:V}(hx:qcy x=true)(hy:qcy y=true):PEq K H n x y (eqV x y)
 |ls{n:Nat}{a b:Addr}{xs ys:List V}{e:Nat->Bool}(ha:SqL K H a xs)(hb:SqL K H b ys)(ne:a≠b)(hl:xs.length=ys.length)
   (he:∀j (h1:j<xs.length) (h2:j<ys.length),PEq K H n xs[j] ys[j] (e j)):PEq K H (n+1) (.ref a) (.ref b) ((vB xs.length).all e)
 |lsN{n:Nat}{a b:Addr}{xs ys:List V}(ha:SqL K H a xs)(hb:SqL K H b ys)(ne:a≠b)(hl:xs.length≠ys.length):PEq K H (n+1) (.ref a) (.ref b) false
 |ts{n:Nat}{a b:Addr}{xs ys:List V}{e:Nat->Bool}(ha:SqT K H a xs)(hb:SqT K H b ys)(ne:a≠b)
   (he:∀j (h1:j<xs.length) (h2:j<ys.length),PEq K H n xs[j] ys[j] (e j)):PEq K H (n+1) (.ref a) (.ref b) ((vB (min xs.length ys.length)).all e && xs.length==ys.length)
section
variable{X:Cx}
def jy4(K:uT):R2:=fun x y H Q=>jvo K x y H Q\/∃a xs,x=.ref a/\y=.non/\SqL K H a xs/\Q (.bl false) H
def jtc(hu:X.A.units+8<cLine):OpR X (wC .Eq) (jy4 X.K):=by
 intro pins s σ H x y v u Q I rx ry h;rcases h with h|⟨a,xs,rfl,rfl,hS,q⟩
 .exact jc2 hu pins s σ H x y v u Q I rx ry h
 .cases rx
  cases ry
  obtain⟨its,r1,p1,_⟩:=I.list hS;exact SeqAt.RcAt.list_none (PlainL.isList p1) ↑∅ X.prog X.w X.xe (EP X pins σ Q) ⟨.bl false,H,I,rfl,q⟩
end
open Classical in
noncomputable def fEq(f g:Str->Option Int):Bool:=decide (∀z,f z=g z)
def AD.iff{ka kb:List (Key×V)}{f g:Str->Option Int}(h:AD ka f)(h':AD kb g):(ka.length==kb.length && ka.all fun p=>(qbx kb p.1).elim false (eqV p.2))=fEq f g:=by
 classical
 by_cases c:∀z,f z=g z
 .rw[show fEq f g=true from by unfold fEq;exact iC c];exact(h.cast c).eq h'
 .rw[show fEq f g=false from by unfold fEq;exact iD c];rw[Bool.eq_false_iff];intro e;rw[vO,beq_iff_eq,yF] at e;obtain⟨el,ea⟩:=e;have sub:∀z n,f z=some n->g z=some n:=fun z n hf=>by
   have hv:=h.get z;rw[hf] at hv;have hm:=jfb hv;have:=ea _ hm;dsimp only at this;rw[h'.get] at this
   cases hg:g z with
   |none=>rw[hg] at this;exact absurd (show false=true from this) uJ
   |some m=>
    rw[hg] at this;have this:(n==m)=true:=this;rw[beq_iff_eq] at this;rw[this]
  refine c fun z=>?_
  cases hf:f z with
  |some n=>exact(sub z n hf).symm
  |none=>
   cases hg:g z with
   |none=>rfl
   |some m=>
    have hzb:z∈qcs kb:=(h'.kin z).mpr (by rw[hg];simp);have hza:z∉qcs ka:=fun hz=>absurd hf ((h.kin z).mp hz);have hle:=jgi (l:=z::qcs ka) (m:=qcs kb) (zV.mpr ⟨hza,h.knd⟩) fun y hy=>by
     rcases zO.mp hy with rfl|hy
     .exact hzb
     .cases hf2:f y with
      |none=>exact absurd hf2 ((h.kin y).mp hy)
      |some n=>exact(h'.kin y).mpr (by rw[sub y n hf2];simp)
    rw[zK,h.klen,h'.klen] at hle;omega
def jfn(f:Str->Option Int):fEq f f=true:=by
 classical
 unfold fEq;exact iC fun _=>rfl
end My
namespace My
open PySem PySem.Spec PyProof.Rows L2 PyProof PySem.SeqAt
end My
namespace My
open PySem PySem.Spec PyProof.Rows L2 PySem.W
structure SO(n:Nat)(lt:Nat->Nat->Bool):Prop where
 tr:∀i j k,i<n->j<n->k<n->lt i j=true->lt j k=true->lt i k=true
 to:∀i j,i<n->j<n->i≠j->lt i j=false->lt j i=true
structure Pm(n:Nat)(p:Array Nat):Prop where
 pm:p.Perm (List.toArray (vB n))
end My
namespace My
open PySem PySem.Spec PyProof.Rows L2
end My
namespace My
open PySem PySem.Spec PyProof.Rows L2 PySem.W
def jws:uB->V
 | .none=> .non
 | .bool b=> .bl b
 | .int i _=> .int i
 | .str x _=> .str x
 | .bytes b _=> .byt b
 | .float b _=> .flt b
 | .ref a=> .ref a
 | .type n=> .ty n
 |_=> .non
structure Rw2 where
 a:Addr
 n:Str
 r:List V
def lt2(a b:Rw2):Bool:=decide (a.n.cps.toList<b.n.cps.toList)
end My
namespace My
open PySem PySem.Spec PyProof.Rows L2
@[irreducible] def jzc(X:Cx)(l:List Stmt)(t:TS):Prop:=PSs X l t
@[irreducible] def PEx(X:Cx)(e:vT)(t:TE):Prop:=PE X e t
@[irreducible] def PAx(X:Cx)(es:List vT)(t:TA):Prop:=PA X es t
def jwd(p:Addr)(H:Hp):Prop:=∀b,H b=none\/(∃o xs,H b=some (.frz o (.lst xs)))\/(b=p/\H b=some (.tbl #[]))
def ji0{P:uX}{w:vG}{K:uT}{mg mb:Str->Option uB}{CX:CXT}{k:Nat}{fa a p c:Addr}{fd:uL}{x:Str}{sp:Sp}{s₁:uD}{vs:List uB}{ns:List Int}
  (KX:K.In s₁.heap)(hns:s₁.heap.Ns uR mg)(hb:s₁.heap.Ns fO mb)(hbb:∀x:Str,x≠"__name__"->mb x=bA x)(hlim:s₁.heap.NoLimit)(hg:s₁.gens= #[])
  (ha:s₁.heap.get? a=some {cls:=.type "list",data:=.seq vs.toArray})(hi:IntsAre vs ns)(hl:ns.length<=sizeLine)(hr:ja0 k gG)
  (hT:s₁.heap.TableAt c p #[])(hKp:K.lookup p=none)
  (F:∀base:vN,K.In base->base.Ns uR mg->(∀b o,s₁.heap.get? b=some o->b≠a->b≠p->base.get? b=some o)->jab P w K mg base CX k fa fd [x] sp)(hbind:∀(s:uD)(u:uB),dQ s fd ⟨[u],[]⟩ [(x,u)])
  (hsp:∀H:Hp,H p=some (.tbl #[])->SqL K H a (ns.map V.int)->sp [.ref a] H (fun v _=>v=.bl true) fun _ _ _=>False)
  (hCX:∀H e s',CX [] H s₁ (fun _ _ _=>False) e s'->False):
  cG (uU P w) gG (.call (.ref fa) ⟨[.ref a],[]⟩) (fun r s'=>r=.ok (.ret (.bool true))/\OldK s₁.heap s'.heap/\s'.os=s₁.os/\cR s'.gens) s₁:=by
 have rv:=jcq hi;have lenV:=hi.length;have hTo:s₁.heap.get? p=some {cls:=.none,data:=.fields #[]}:=hT.2;have npa:p≠a:=fun z=>by subst z;rw[ha] at hTo;cases hTo
 have core:∀H:Hp,jwd p H->H p=some (.tbl #[])->SqL K H a (ns.map V.int)->HOk P w H s₁.heap->(∀b,H b≠none->b=a\/b=p)->(H a≠none->K.lookup a=none)->
   cG (uU P w) gG (.call (.ref fa) ⟨[.ref a],[]⟩) (fun r s'=>r=.ok (.ret (.bool true))/\OldK s₁.heap s'.heap/\s'.os=s₁.os/\cR s'.gens) s₁:=by
  intro H hO hp hS hok hA hK;have base_of:∀{b:Addr} {o:Obj},s₁.heap.get? b=some o->H b=none->(jj5 s₁.heap H).get? b=some o:=fun e n=>jj7 e n;have noA:∀{b:Addr} {o:Obj} {es:Array fE} {ep:Nat},s₁.heap.get? b=some o->o.data=.dict es ep->H b=none:=fun {b o es ep} e d=>by
   cases q:H b with
   |none=>rfl
   |some u=>
    rcases hA b (by rw[q];simp) with e'|e'
    .subst e';rw[ha] at e;cases e;have d':Data.seq vs.toArray _=Data.dict es ep:=d
     cases d'
    .subst e';rw[hTo] at e;cases e;have d':Data.fields #[]=Data.dict es ep:=d
     cases d'
  have nsK:∀{b:Addr} {m:Str->Option uB},s₁.heap.Ns b m->(jj5 s₁.heap H).Ns b m:=fun {b m} ⟨o,es,ep,e,d,r⟩=>⟨o,es,ep,base_of e (noA e d),d,r⟩;have hKb:K.In (jj5 s₁.heap H):=fun b o e=>base_of (KX b o e) (by
   cases q:H b with
   |none=>rfl
   |some u=>
    rcases hA b (by rw[q];simp) with e'|e'
    .subst e';rw[hK (by rw[q];simp)] at e;cases e
    .subst e';rw[hKp] at e;cases e)
  have hM:Mod K mg (jj5 s₁.heap H):=⟨hKb,nsK hns,⟨mb,nsK hb,hbb⟩,let ⟨mc,h1,h2⟩:=hlim;⟨mc,nsK h1,h2⟩⟩;have e0:jl7 P w K mg (jj5 s₁.heap H) gG [] s₁ H:=⟨rfl,hM,fun b o e=>jnt e,Nat.le_of_eq (jgv _ _),trivial,fun b hb=>absurd (show b∈([]:List Addr) from hb) (by simp),hok,.of_eq hg⟩;have hbase:∀b o,s₁.heap.get? b=some o->b≠a->b≠p->(jj5 s₁.heap H).get? b=some o:=fun b o e n1 n2=>base_of e (by
   cases q:H b with
   |none=>rfl
   |some u=>exact absurd (hA b (by rw[q];simp)) (by simp[n1,n2]))
  refine xL ((F _ hKb (nsK hns) hbase).run gG [] s₁ H ⟨[.ref a],[]⟩ [.ref a] [.ref a] _ _ hr e0 (hbind s₁ (.ref a)) (.cons rfl .nil) (hsp H hp hS)) fun r s' h=>?_
  cases r with
  |error e=>exact(hCX H e s' h).elim
  |ok fl=>
   cases fl with
   |next=>exact vY h
   |brk=>exact vY h
   |cont=>exact vY h
   |ret u=>
    obtain⟨v,H',os,bare,un,hok',r',q⟩:=h;have q':v=.bl true:=q;subst q';obtain rfl:u=fN true:=r';have main:∀b o,s₁.heap.get? b=some o->b≠p->s'.heap.get? b=some o:=fun b o e np=>by
     cases q:H b with
     |none=>exact un.keep b o e q (by intro z;exact absurd (show b∈([]:List Addr) from z) (by simp)) (by simp)
     |some u=>
      rcases hO b with z|⟨ob,xs,z⟩|⟨z,_⟩
      .rw[q] at z;cases z
      .have z2:=un.frzs b ob _ z;obtain⟨e1,_⟩:=hok b _ z;obtain⟨e2,_⟩:=hok' b _ z2;rw[e] at e1;cases e1;exact e2
      .exact absurd z np
    obtain⟨more,hp'⟩:=un.tbls p #[] hp;have ep':s'.heap.get? p=some {cls:=.none,data:=.fields (#[]++more)}:=hok' p _ hp';refine⟨rfl,⟨fun b o e=>?_,fun b o e=>?_⟩,os,bare⟩
    .by_cases hb:b=p
     .subst hb;rw[hTo] at e
      cases e
      exact .inr (.inl ⟨hT.isCodeTable,rfl,#[],more,rfl,ep'⟩)
     .exact .inl (main b o e hb)
    .by_cases hb:b=p
     .subst hb;exact⟨_,ep'⟩
     .exact⟨o,main b o e hb⟩
 have okP:∀H:Hp,qbj P w H s₁.heap p (.tbl #[]):=fun H=>hTo
 cases hk:K.lookup a with
 |some o=>
  have e:=KX a o hk;rw[ha] at e
  cases e
  refine core (fun b=>if b=p then some (.tbl #[]) else none) (fun b=>?_) (iB rfl) (.inr ⟨_,vs.toArray,_,hk,rfl,rfl,rfl,by rw[zI,lenV];exact hl,by simpa using rv⟩) (fun b u z=>?_) (fun b z=>?_) fun z=>absurd (iA npa.symm) z
  .by_cases hb:b=p
   .exact .inr (.inr ⟨hb,iB hb⟩)
   .exact .inl (iA hb)
  .by_cases hb:b=p
   .have z':=(iB hb).symm.trans z
    cases z'
    subst hb;exact okP _
   .have z':=(iA hb).symm.trans z
    cases z'
  .by_cases hb:b=p
   .exact .inr hb
   .exact absurd (iA hb) z
 |none=>
  refine core (fun b=>if b=p then some (.tbl #[]) else if b=a then some (.frz {cls:=.type "list",data:=.seq vs.toArray} (.lst (ns.map V.int))) else none) (fun b=>?_) (iB rfl) (.inl (.inr ⟨{cls:=.type "list",data:=.seq vs.toArray},?_⟩)) (fun b u z=>?_) (fun b z=>?_) fun _=>hk
  .by_cases hb:b=p
   .exact .inr (.inr ⟨hb,iB hb⟩)
   .by_cases hb2:b=a
    .exact .inr (.inl ⟨_,_,(iA hb).trans (iB hb2)⟩)
    .exact .inl ((iA hb).trans (iA hb2))
  .exact(iA npa.symm).trans (iB rfl)
  .by_cases hb:b=p
   .have z':=(iB hb).symm.trans z
    cases z'
    subst hb;exact okP _
   .by_cases hb2:b=a
    .have z':=((iA hb).trans (iB hb2)).symm.trans z
     cases z'
     subst hb2;exact⟨ha,by rw[zB];exact hl,vs,_,rv,ha⟩
    .have z':=((iA hb).trans (iA hb2)).symm.trans z
     cases z'
  .by_cases hb:b=p
   .exact .inr hb
   .by_cases hb2:b=a
    .exact .inl hb2
    .exact absurd ((iA hb).trans (iA hb2)) z
def BmAt(mg:Str->Option uB)(h:vN):Prop:=∃bm o,mg "__builtins__"=some (.ref bm)/\bm≠fO/\bm≠uR/\h.get? bm=some o/\o.cls=.type "module"/\o.dict=some fO/\o.data=.plain
def jk5{l:PySem.W.OpenLaw}{n k:Nat}{q:uX}{loose:List Str}{XP:(Str->Option uB)->vN->Prop}{YP:vG->vN->Prop}{d dy:DefRec}{K:Params->uT}{CX:vG->CXT}{sp:vG->Addr->Addr->Sp}{x y:Str}
  (hn:l.most=some n)(hn2:n<=sizeLine)(hdf:d.params.defaults=[])(hr:ja0 k gG)
  (hY:∀(w:vG)(h:vN),YP w h->(K w.params).In h)
  (hrec:(PyProof.Rows.recsOf q).find? (fun e=>e.name==y)=some dy)(tab:∀w:vG,∃c p,tabIn (K w.params) y=some (c,p)/\(K w.params).lookup p=none)
  (F:∀(w:vG)(mg:Str->Option uB)(fa:Addr)(h:vN)(c p:Addr),(K w.params).In h->h.Ns uR mg->mg d.name=some (.ref fa)->tabIn (K w.params) y=some (c,p)->
   ∃fd:uL,(∀(s:uD)(u:uB),dQ s fd ⟨[u],[]⟩ [(x,u)])/\
    ∀base:vN,(K w.params).In base->base.Ns uR mg->PySem.W.CodeHd base c p->BmAt mg base->jab l.prog w (K w.params) mg base (CX w) k fa fd [x] (sp w c p))
  (hsp:∀(w:vG)(c p:Addr)(H:Hp)(a:Addr)(ns:List Int),ns.length<=n->H p=some (.tbl #[])->SqL (K w.params) H a (ns.map V.int)->sp w c p [.ref a] H (fun v _=>v=.bl true) fun _ _ _=>False)
  (hCX:∀(w:vG)(H:Hp)(s:uD)(e:uB)(s':uD),CX w [] H s (fun _ _ _=>False) e s'->False):
  PySem.W.WalkO q loose XP YP l.row.toRowW d [] (fun f vs=>PySem.call f vs):=by
 refine Att.attach_call hn hdf fun w s₀ s₁ mg mb fa o pm cd doc a vs ns G Y ho hd hcd hmg hobj hints hlen hg=>?_;have KX:=hY w _ Y;obtain⟨c,p,ht,hKp⟩:=tab w;obtain⟨hc,hp⟩:=PySem.W.tab_of G.T KX hrec ht;obtain⟨fd,hb,hF⟩:=F w mg fa _ c p KX G.T.g hmg ht;refine ji0 KX G.T.g G.T.b G.T.builtins G.T.nolimit hg hobj hints (vP hlen hn2) hr (hc.tab hp) hKp (fun base kb nb keep=>hF base kb nb ?_ ?_) hb (fun H hH hS=>hsp w c p H a ns hlen hH hS) fun H e s'=>hCX w H s₁ e s'
 .obtain⟨oc,vc,file,tf,flags,tg,inF,text,tt,e1,e2,e3,r⟩:=hc;refine⟨oc,vc,file,tf,flags,tg,inF,text,tt,keep c oc e1 (fun z=>?_) r.2.2.2.2.2.2,e2,e3,r⟩;subst z;rw[hobj] at e1
  cases e1
  exact absurd (show dM "list"=dM "code" from e2) (by intro h;injection h with h;revert h;decide)
 .obtain⟨bm,ob,b1,b2,b3,b4,b5,b6⟩:=G.T.bmain;refine⟨bm,ob,b1,b2,fun z=>?_,keep bm ob b3 (fun z=>?_) (fun z=>?_),b4,b5,b6⟩
  .obtain⟨o,es,ep,e,hd,_⟩:=G.T.g;rw[z,e] at b3;cases b3;rw[hd] at b6;cases b6
  .rw[z,hobj] at b3;cases b3;cases b6
  .rw[z,hp] at b3;cases b3;cases b4
def FnO(g:Addr)(name qual:Str)(params:cM)(body:List Stmt)(scope:aL)(x:Str)(cl cd:Addr):HO:=
 .ext fun h=>∃doc pm ctv,h.get? g=some (PySem.W.fnMade name qual params body scope [(x,cl)] doc pm cd ctv)
def jy5(cd:Addr)(qual:Str):HO:=.ext fun h=>h.CodeRec (.ref cd) qual
def jwe(cl:Addr)(v:V):HO:=.ext fun h=>∃u,qb8 v u/\h.IsCell cl (some u)
def made(H:Hp)(p g cd cl:Addr)(more:Array uB)(v:V)(name qual:Str)(params:cM)(body:List Stmt)(scope:aL)(x:Str):Hp:=
 upd (upd (upd (upd H p (.tbl more)) cl (jwe cl v)) cd (jy5 cd qual)) g (FnO g name qual params body scope x cl cd)
def less(H:Hp)(c:Addr):Hp:=fun b=>if b=c then none else H b
structure jxw(name qual:Str)(params:cM)(body:List Stmt)(scope:aL)(z x:Str):Prop where
 kind:scope.kind=.function
 co:scope.isCoroutine=false
 gen:scope.isGenerator=false
 nocell:∀y∈scope.names,y.2≠ .cell
 par:scope.names.lookup z=some .local
 free:scope.names.lookup x=some .free
 only:∀y,scope.names.lookup y=some .free->y=x
 bind:∀(cl cd:Addr)(ct doc pm:uB)(s:uD)(u:uB),dQ s (PySem.W.fnX name qual params body scope [(x,cl)] .none .none doc pm none (.ref cd) ct) ⟨[u],[]⟩ [(z,u)]
end My
set_option exponentiation.threshold 5000
namespace My
open PySem PySem.Spec PyProof.Rows L2
def jo6(its:List uB)(u:uB)(k:Nat):(its.toArray.extract 0 (min k its.toArray.size)).push u++its.toArray.extract (min k its.toArray.size) its.toArray.size=(its.take k++u::its.drop k).toArray:=by
 apply Array.ext';rw[zI];by_cases h:k<=its.length
 .rw[Nat.min_eq_left h];simp;exact bJ (by rw[bQ];omega)
 .have h':its.length<=k:=by omega
  rw[Nat.min_eq_right h'];simp[bJ h',dW h']
def jk6{xs:List V}{us:List uB}{y:V}{u:uB}(r:qba xs us)(ry:qb8 y u){k:Nat}:qba (xs.take k++y::xs.drop k) (us.take k++u::us.drop k):=by
 induction r generalizing k with
 |nil=>simp;exact .cons ry .nil
 |cons a b ih=>
  cases k with
  |zero=>exact .cons ry (.cons a b)
  |succ k=>exact .cons a ih
section
variable{X:Cx}
def ji1:V->List V->Hp->VK->Prop:=fun x vs H Q=>∃l xs i y,x=.ref l/\vs=[.int i,y]/\H l=some (.lst xs)/\0<=i/\i<2^63/\xs.length<64/\Q .non (upd H l (.lst (xs.take i.toNat++y::xs.drop i.toNat)))
def ji2:MtM X "list.insert" ji1:=by
 intro pins s σ H x vs v us Q I rx rv h;obtain⟨l,xs,i,y,rfl,rfl,hH,h1,h2,hz,q⟩:=h
 cases rx
 obtain⟨u1,u2,rfl,r1,r2⟩:∃u1 u2,us=[u1,u2]/\qb8 (.int i) u1/\qb8 y u2:=by
  cases rv with
  |cons a b=>cases b with
   |cons c d=>cases d;exact⟨_,_,rfl,a,c⟩
 obtain⟨t,rfl⟩:=r1;obtain⟨z,its,n,r,hl,e⟩:=I.lstM hH;refine dU F.slot_list_insert ⟨_,e,rfl⟩ F.entry_list_insert (F.args_list_insert_3 _ _ _)
  (AutoListH.list_insert_list_int_val_1 l its.toArray n i t u2 (by rw[fitsIndex_both ↑∅ h2];decide) (by rw[zI,wJ];omega)) ⟨e,?_⟩
 refine⟨.non,_,I.lset (its':=its.take i.toNat++u2::its.drop i.toNat) hH e ?_ (jk6 r r2) ?_,rfl,q⟩
 .show(its.toArray.extract 0 _).push u2++its.toArray.extract _ _=_;rw[iA ↑∅];exact jo6 its u2 i.toNat
 .rw[zF,zK,zS,bQ,wJ];omega
end
section
variable{prog:uX}{w:vG}{A:vI}{E:uB->uD->Prop}{s:uD}
abbrev jqa(z:Str)(p1 p2 p3:Pos)(j:Nat):vT:=.Subscript (.Name z p1) (.Constant (.int 0) j p2) p3
structure jtd(qual:Str)(params:cM)(scope:aL)(z:Str)(b:vT):Prop where
 bind:∀(pm cd ct u:uB),bindArgs (PySem.W.kla_fn "<lambda>" qual params b scope [] pm cd ct) ⟨[u],[]⟩=pure [(z,u)]
 par:scope.names.lookup z=some .local
 co:scope.isCoroutine=false
 gen:scope.isGenerator=false
 kind:scope.kind=.function
 cell:∀x∈scope.names,x.2≠ .cell
 dbg:(z==("__debug__":Str))=false
def jk7{n:Nat}(h:0<n):fD 0 n=some 0:=by
 unfold fD;simp[h]
def jk8{f q c':Addr}{z qual:Str}{params:cM}{scope:aL}{p1 p2 p3:Pos}{j:Nat}{pm ctv:uB}{its:Array uB}{k:Int}{t:Tok}{Q:uB->uD->Prop}
  (M:jtd qual params scope z (jqa z p1 p2 p3 j))(ho:s.heap.get? f=some (PySem.W.kla_obj "<lambda>" qual params (jqa z p1 p2 p3 j) scope [] pm c' ctv))
  (hcd:s.heap.CodeRec (.ref c') qual)(lim:s.heap.NoLimit)(hroom:A.depth<recursionLimit)(hq:IsTup s.heap q its)(h0:its[0]?=some (.int k t))
  (h:∀(h₁:vN)(tk:Nat),(∀b o,s.heap.get? b=some o->h₁.get? b=some o)->Q (.int k t) {s with heap:=h₁,toks:=tk}):
  uS (uU prog w) A (call (.ref f) [.ref q]) Q E s:=by
 refine aR (PySem.W.kla_callFunE hroom ho rfl M.co M.gen rfl hcd ?_);rw[M.bind];refine uF (wpAny_newFunctionEnv M.cell (fun x hx=>?_) (fun h₁ hns hsb=>⟨lim.fresh _ hsb,?_⟩) M.kind)
 .have e:x=(z,.ref q):=by simpa using hx
  rw[e];exact M.par
 have hk₁:∀b o,s.heap.get? b=some o->h₁.get? b=some o:=fun b o e=>hsb.extBut b o (vC (uN e)) (uE _ e);have hq1:IsTup h₁ q its:=let ⟨o,e,r⟩:=hq;⟨o,hk₁ _ _ e,r⟩
 have hn:its.size≠0:=fun e=>by
  rw[dX ↑∅] at h0;cases h0
 refine PySem.W.kla_codeExpr (Subscript_ (wpAny_Name (wpAny_loadName_local M.kind M.par hns (v:=.ref q) (by show([(z,uP q)]:List (Str×uB)).lookup z=_;rw[List.lookup_cons,beq_self_eq_true]) ?_) M.dbg));refine wpAny_Constant_int ?_;refine dR (x:=.int k t) hq1.typeIs slot_tuple_getitem.lookup (getItem_tuple (j:=0) hq1 ∅ ∅ (jk7 (Nat.pos_of_ne_zero hn)) h0 ⟨rfl,h h₁ _ hk₁⟩) rfl
end
def ji3{out vs:List uB}(h:out.Perm vs):∀{xs:List V},qba xs vs->∃xs',qba xs' out/\xs'.Perm xs:=by
 induction h with
 |nil=>intro xs r;exact⟨xs,r,.refl _⟩
 |cons a _ ih=>
  intro xs r
  cases r with
  |cons r1 r2=>
   obtain⟨ys,h1,h2⟩:=ih r2;exact⟨_::ys,.cons r1 h1,h2.cons _⟩
 |swap a b l=>
  intro xs r
  cases r with
  |cons r1 r2=>
   cases r2 with
   |cons r2 r3=>exact⟨_,.cons r2 (.cons r1 r3),.swap _ _ _⟩
 |trans _ _ ih1 ih2=>
  intro xs r;obtain⟨ys,h1,h2⟩:=ih2 r;obtain⟨zs,h3,h4⟩:=ih1 h1;exact⟨zs,h3,h4.trans h2⟩
theorem jc8{P:uB->Int->Prop}:∀{vs:List uB},(∀v∈vs,∃k,P v k)->∃kz:List Int,kz.length=vs.length/\∀(i:Nat)(v:uB)(k:Int),vs[i]?=some v->kz[i]?=some k->P v k
 | [],_=>⟨[],rfl,fun i v k e _=>by simp at e⟩
 |v::vs,h=>by
  obtain⟨kz,h1,h2⟩:=jc8 (vs:=vs) fun u m=>h u (.tail _ m);obtain⟨k,hk⟩:=h v (.head _);refine⟨k::kz,by rw[zK,zK,h1],fun i u n e1 e2=>?_⟩
  cases i with
  |zero=>cases e1;cases e2;exact hk
  |succ i=>exact h2 i u n e1 e2
def jfo(h:vN)(L:Addr):List (Addr×Obj):=(vB h.objs.size).filterMap fun b=>if b=L then none else(h.get? b).map fun o=>(b,o)
def qdz{h:vN}{L b:Addr}{o:Obj}:(b,o)∈jfo h L↔b≠L/\h.get? b=some o:=by
 unfold jfo;rw[fP];constructor
 .rintro⟨c,_,e⟩;by_cases hc:c=L
  .rw[iB hc] at e;cases e
  .rw[iA hc] at e
   cases hg:h.get? c with
   |none=>rw[hg] at e;cases e
   |some u=>rw[hg] at e;cases e;exact⟨hc,hg⟩
 .rintro⟨h1,h2⟩;exact⟨b,yP.mpr (uN h2),by rw[iA h1,h2];rfl⟩
def jte{h h':vN}{a:Addr}{m m':Str->Option uB}(e:h.Ns a m)(e':h.Ns a m')(k:h'.Ns a m):h'.Ns a m':=by
 obtain⟨o,es,ep,q1,q2,q3,q4⟩:=e;obtain⟨o',es',ep',p1,p2,p3,p4⟩:=e';rw[q1] at p1;cases p1;rw[q2] at p2;cases p2;have:m=m':=funext fun x=>(q4 x).symm.trans (p4 x);rw[<-this];exact k
def jfp(p:Addr)(ta:TA):TE:=fun σ H Q=>ta σ H fun vs H1=>∃l xs,vs=[.ref l]/\H1 l=some (.lst xs)/\xs.length<64/\H1 p=some (.tbl #[])/\(∀y∈xs,∃q n rest,y=.ref q/\H1 q=some (.tup (.int n::rest)))/\
 ∀(l':Addr)(more:Array uB)(xs':List V),H1 l'=none->l'≠p->xs'.Perm xs->Q (.ref l') (upd (upd H1 p (.tbl more)) l' (.lst xs'))
def jgk{X:Cx}{k j:Nat}{p c:Addr}{e:vT}{ta:TA}{z:Str}{params:cM}{scope:aL}{p0 p1 p2 p3 pos kp cpos:Pos}(hr:ja0 k X.A)(hcode:X.env.code=.ref c)(hcl:closureFor scope X.env=pure [])(C:PySem.W.CodeHd X.base c p)(hbm:BmAt X.mg X.base)
  (M:jtd (X.env.qual++"<lambda>") params scope z (jqa z p1 p2 p3 j))(hg:Gl X "sorted")(hm:X.mg "sorted"=none)(ha:PA X [e] ta)(hdef:defaultsOf params X.env=([],[]):=by rfl)
  (he:wO cpos (uZ [e] X.env)=(false,wK e X.env)::wO cpos (uZ [] X.env):=by rfl) (hpl:(wO cpos (uZ [e] X.env)).any (·.1)=false:=by rfl):
  PE X (.Call (.Name "sorted" p0) [e] [⟨some "key",.Lambda params (jqa z p1 p2 p3 j) scope pos,kp⟩] cpos) (jfp p ta):=by
 intro pins s σ H Q I h;refine wW (qf8 I hg hm boot_sorted ?_ ∅ ∅);refine callWith_kw (thn (ha cpos pins s σ H _ I h) fun us s1 ⟨vs,H1,I1,r1,q1⟩=>?_) he hpl;obtain⟨l,xs,rfl,hl,hlen,hp,hkey,q⟩:=q1;obtain⟨u,rfl,ru⟩:=r1.one
 cases ru
 have hP:s1.heap.get? p=some (PySem.W.tabObj #[]):=I1.hok p _ hp;have gS:s1.heap.Ns uR X.mg:=I1.ok.mod.glob.keeps I1.bk;have hgP:uR≠p:=fun z=>by
  obtain⟨o,es,ep,e,hd,_⟩:=gS;rw[z,hP] at e;cases e;cases hd
 have hbuilt:s1.heap.BuiltinsAt X.mg p:=by
  obtain⟨bm,o,b1,b2,b3,b4,r⟩:=hbm;refine⟨bm,o,b1,b2,b3,fun z=>?_,I1.bk _ _ b4,r⟩;have:=(I1.bs _ _ b4).2;rw[z,hp] at this;cases this
 refine kws_cons (PySem.W.kla_eval hdef (PySem.W.kla_makeFunction (mg:=X.mg) (c:=c) (P:=p) (ps:=#[]) hcl I1.ok.glob gS hcode (C.keeps I1.bk) hP trivial rfl hgP hbuilt fun c' ctv h' tk hxt hge hlt hrec htb=>?_));refine kws_nil ?_;obtain⟨m,hn,hlk⟩:=id I1.loc;have hLp:X.env.locals≠p:=fun z=>by
  have:=I1.free;rw[z,hp] at this;cases this
 have nL:(h'.push (PySem.W.kla_obj "<lambda>" (X.env.qual++"<lambda>") params (jqa z p1 p2 p3 j) scope [] ((X.mg "__name__").getD .none) c' ctv)).Ns X.env.locals m:=(hn.extBut hxt hLp).push _;generalize hfo:PySem.W.kla_obj "<lambda>" (X.env.qual++"<lambda>") params (jqa z p1 p2 p3 j) scope [] ((X.mg "__name__").getD .none) c' ctv=fo at nL⊢;have hgt:(h'.push fo).get? h'.objs.size=some fo:=uQ _ (by rw[<-hfo];rfl);have k1:∀b o,b≠p->s1.heap.get? b=some o->(h'.push fo).get? b=some o:=fun b o hb e=>uE _ (hxt b o hb e);have hgL:h'.objs.size≠X.env.locals:=dP (vA hn.lt (cF (vJ hge hlt)));obtain⟨hz,its,nn,rv,hlist⟩:=I1.hok l _ hl;have hlL:l≠X.env.locals:=fun z=>by have:=I1.free;rw[<-z,hl] at this;cases this
 have hlp:l≠p:=fun z=>by rw[z,hp] at hl;cases hl
 have hlen2:=rv.length;have base:∀b o,X.base.get? b=some o->(b,o)∈jfo (h'.push fo) X.env.locals:=fun b o e=>by
  refine qdz.mpr ⟨vC (vA (uN (I1.ok.bs b o e).1) I1.ok.above),k1 b o (fun z=>?_) (I1.bk b o e)⟩
  .have:=(I1.bs b o e).2;rw[z,hp] at this;cases this
 have keyOf:∀v∈its,∃n:Int,∃q' its' t,v=.ref q'/\IsTup (h'.push fo) q' its'/\q'≠X.env.locals/\its'[0]?=some (wZ n t):=by
  intro v hv;obtain⟨i,hi⟩:=List.mem_iff_getElem?.mp hv;have hix:i<xs.length:=by rw[hlen2];exact(uG.mp hi).1
  obtain⟨q',n,rest,ey,eq⟩:=hkey _ (zL hix);obtain⟨u,eu,ru⟩:=rv.get (zA hix);rw[hi] at eu;cases eu;rw[ey] at ru
  cases ru
  obtain⟨_,its',rv',ob,e1,e2⟩:=I1.hok q' _ eq
  cases rv' with
  |cons r1 r2=>
   obtain⟨t,rfl⟩:=r1;exact⟨n,q',_,t,rfl,⟨ob,k1 _ _ (fun z=>by rw[z,hp] at eq;cases eq) e1,e2⟩,(fun z=>by have:=I1.free;rw[<-z,eq] at this;cases this),by simp⟩
 obtain⟨kz,hkz,hkz2⟩:=jc8 keyOf;show uS (uU X.prog X.w) X.A (call (.builtin "sorted") [.ref l] [(xB "key",.ref h'.objs.size)]) _ _ _;refine ksk_sorted (s:={s1 with heap:=h'.push fo,toks:=tk}) (h₀:={}) (L:=X.env.locals) (m:=m) (news:=jfo (h'.push fo) X.env.locals) (b:=false) (kz:=kz) (vs:=its) (f:=.ref h'.objs.size) ⟨nL,(fun b o e=>by cases e),wI _⟩ (fun a hm=>?_) ⟨_,k1 l _ hlp hlist,rfl,_,rfl⟩ hkz ↑∅ (ksk_s1 _ _) (fun x=>ksk_l1 _ _) (fun x=>ksk_t1 _ _) (fun i v n ev ek hh tk' own F' N'=>?_) fun D h2 tk2 out cc F2 N2 lt2 ko=>?_
 .obtain⟨h1,h2⟩:=qdz.mp hm;exact⟨h2,h1,rfl⟩
 .obtain⟨q',its',t,rfl,ht,hqL,h0⟩:=hkz2 i v n ev ek;have old:∀b o,b≠X.env.locals->(h'.push fo).get? b=some o->hh.get? b=some o:=fun b o hb e=>(N' (b,o) (yE _ (qdz.mpr ⟨hb,e⟩))).1;refine jk8 (s:={s1 with heap:=hh,toks:=tk'}) (c':=c') (pm:=(X.mg "__name__").getD .none) (ctv:=ctv) (t:=t) M (by rw[hfo];exact old _ _ hgL hgt) ?_ ?_ ?_ (let ⟨o,e,r⟩:=ht;⟨o,old _ _ hqL e,r⟩) h0 fun h₁ tk1 kk=>?_
  .obtain⟨cc,o,vs,t,q1,q2,q3⟩:=hrec
   cases q1
   exact⟨c',o,vs,t,rfl,old _ _ (dP (vA hn.lt hge)) (uE _ q2),q3⟩
  .exact I1.ok.mod.nolimit.keeps fun b o e=>(N' (b,o) (yE _ (base b o e))).1
  .have:=hr.dp;show X.A.depth<_;omega
  .exact⟨h₁,tk1,t,rfl,rfl,F'.kept kk,fun a hm=>⟨kk _ _ (N' a hm).1,(N' a hm).2⟩⟩
 .obtain⟨ps,hp1,hp2,_⟩:=ko;have hpm:out.toList.Perm its:=by
   rw[hp2];have:=hp1.map Prod.snd;rw[List.map_snd_zip ↑∅] at this;exact this
  obtain⟨xs',rx,hx⟩:=ji3 hpm rv;have gD:h'.objs.size<D:=lt2 (h'.objs.size,fo) (qdz.mpr ⟨hgL,hgt⟩);have sD:↑s1<=D:=cF (gL (vJ hge hlt) gD);have hHD:H1 D=none:=I1.hok.fresh sD;have hDp:D≠p:=dP (vA (uN hP) sD);have old:∀b o,b≠X.env.locals->(h'.push fo).get? b=some o->h2.get? b=some o:=fun b o hb e=>(N2 (b,o) (.tail _ (qdz.mpr ⟨hb,e⟩))).1;have gp:h2.get? p=some (PySem.W.tabObj (#[]++#[wT pos.line,wT pos.col,.ref c'])):=old _ _ hLp.symm (uE _ htb);have kk:∀b o,b≠X.env.locals->b≠p->s1.heap.get? b=some o->h2.get? b=some o:=fun b o h1 h2 e=>old b o h1 (k1 b o h2 e);have nep:∀{b:Addr},H1 b=none->b≠p:=fun e z=>by rw[z,hp] at e;cases e
  have neD:∀{b:Addr} {o:Obj},s1.heap.get? b=some o->b≠D:=fun e=>vC (vA (uN e) sD);have neH:∀{b:Addr} {o:HO},H1 b=some o->b≠D:=fun e z=>by rw[z,hHD] at e;cases e
  have neL:∀{b:Addr} {o:HO},H1 b=some o->b≠X.env.locals:=fun e z=>by have:=I1.free;rw[<-z,e] at this;cases this
  have gD2:=(N2 (D,seqObj "list" out cc) (.head _)).1;refine⟨.ref D,upd (upd H1 p (.tbl (#[]++#[wT pos.line,wT pos.col,.ref c']))) D (.lst xs'),?_,rfl,q D _ xs' hHD hDp hx⟩;refine L2.Inv.step (s:=s1) (h':=h2) (t':=tk2) (g':=s1.gens) (d':=s1.drawn) (ch:=[]) I1 (fun _ z=>nomatch z) (fun b o hb _ _ e n=>kk b o hb (nep n) e) (fun b o hb _ _ e n=>⟨o.slots,kk b o hb (nep n) e⟩) (fun b o _ e n=>?_) (fun b o _ e=>?_) (fun b ys e=>?_) (fun b o u e=>?_) (fun b ys e=>?_) (fun m' hm'=>jte hn hm' F2.ns) (fun b o e=>?_) I1.bare
  .rw[qa7 (neD e),qa7 (nep n)];exact n
  .by_cases hb:b=X.env.locals
   .obtain⟨o',_,_,e',_⟩:=F2.ns;rw[hb];exact⟨o',e'⟩
   .by_cases hb2:b=p
    .rw[hb2];exact⟨_,gp⟩
    .exact⟨o,kk b o hb hb2 e⟩
  .rw[qa7 (neH e),qa7 (fun z=>by rw[z,hp] at e;cases e)];exact e
  .rw[qa7 (neH e),qa7 (fun z=>by rw[z,hp] at e;cases e)];exact e
  .by_cases hb:b=p
   .subst hb;rw[hp] at e;cases e;exact⟨_,by rw[qa7 (xF hDp),qa1]⟩
   .exact⟨#[],by rw[qa7 (neH e),qa7 hb,e];simp⟩
  .by_cases hb:b=D
   .subst hb;rw[qa1] at e;cases e;refine⟨by rw[hx.length_eq,wJ];omega,out.toList,cc,rx,?_⟩;rw[gD2]
   .rw[qa7 hb] at e;by_cases hb2:b=p
    .subst hb2;rw[qa1] at e;cases e;exact gp
    .rw[qa7 hb2] at e;have own_p:∀{c:Addr},H1 c=some (.own b)->c≠p:=fun e z=>by rw[z,hp] at e;cases e
     refine(I1.hok b o e).stay (fun d u hd ed=>?_) (fun d ed=>?_) fun d ys ed=>?_
     .rcases hd with rfl|hd
      .exact kk d u (neL e) hb2 ed
      .exact kk d u (neL hd) (own_p hd) ed
     .rw[qa7 (neH ed),qa7 (own_p ed)];exact ed
     .rw[qa7 (neH ed),qa7 (fun z=>by rw[z,hp] at ed;cases ed)];exact ed
def jk9{K:uT}{mg:Str->Option uB}{base:vN}{f c p:Addr}{nm:Str}{oc:uB}{od:Option Addr}{fd:uL}{osl:Array (Option uB)}(lk:K.lookup f=some ⟨oc,od,.func fd,osl⟩)(hm:mg nm=some (.ref f))(kin:K.In base)(hns:base.Ns uR mg)(ht:tabIn K nm=some (c,p)):fd.code=.ref c:=by
 unfold tabIn at ht
 split at ht
 .rename_i f' hf;have e1:=vM kin hns hf;rw[hm] at e1
  cases e1
  split at ht
  .rename_i hfo;rw[lk] at hfo
   cases hfo
   split at ht
   .rename_i c2 hc2
    split at ht
    .split at ht
     .cases ht;exact hc2
     .cases ht
    .cases ht
   .cases ht
  .cases ht
 .cases ht
def Fun.okC{P:uX}{w:vG}{K:uT}{mg:Str->Option uB}{base:vN}{x qual:Str}{st:Stmt}{f c p:Addr}{fd:uL}{N ps:List Str}{k:Nat}{sp:Sp}(F:Fun K x qual st f fd)(hm:mg x=some (.ref f))(kin:K.In base)(hns:base.Ns uR mg)(ht:tabIn K x=some (c,p))
  (S:jaa N ps (qaa st))(len:∀vs H Q E,sp vs H Q E->vs.length=ps.length)
  (hbody:∀(A:vI)(outer:List Env)(s:uD)(H:Hp)(vs:List V)(Q:VK)(E:XK),ja0 k (A.deeper (dB qual (qaa st) ↑s f (.ref c)))->sp vs H Q E->
   ∃t,PSs (cxOf CX0 P w K mg base N qual (qaa st) f (.ref c) A outer s H E).nox (qbt st) t/\t {nx:=fun _ H'=>Q .non H',rt:=Q} (qe8 N vs) H):jab P w K mg base CX0 (k+1) f fd ps sp:=by
 obtain⟨oc,od,kV,doc,pm,an,cdv,ct,osl,rfl,lk,hcd⟩:=F.ex;have e:cdv=.ref c:=jk9 lk hm kin hns ht;subst e;refine jkg lk hcd S len fun A outer s H vs Q E hr hsp=>?_;obtain⟨t,h,q⟩:=hbody A outer s H vs Q E hr hsp;exact⟨t,h.nox,q⟩
def jla{H:Hp}{a:Addr}{o u:HO}:upd (upd H a o) a u=upd H a u:=by
 funext c
 by_cases e:c=a
 .subst e;rw[qa1,qa1]
 .rw[qa7 e,qa7 e,qa7 e]
section
variable{X:Cx}
def jm2:V->List V->Hp->VK->Prop:=fun x xs H Q=>∃p kvs z y,x=.ref p/\xs=[.str z,y]/\H p=some (.dK kvs)/\(qbx kvs (uV z:Key)=none->Q y H)/\∀v,qbx kvs (uV z:Key)=some v->Q v (upd H p (.dK (qd2 kvs (uV z:Key))))
def jlb:MtR X "dict.pop" jm2:=by
 intro pins s σ H x xs v us Q I rx rv h;obtain⟨p,kvs,z,y,rfl,rfl,e,qn,qs⟩:=h
 cases rx
 obtain⟨u1,u2,rfl,r1,r2⟩:∃u1 u2,us=[u1,u2]/\qb8 (.str z) u1/\qb8 y u2:=by
  cases rv with
  |cons a b=>cases b with
   |cons c d=>cases d;exact⟨_,_,rfl,a,c⟩
 cases l:qbx kvs (uV z:Key) with
 |none=>exact jrk (k:=uV z) I e r1 l fun s' I'=>⟨y,_,I',r2,qn l⟩
 |some v=>exact jve (k:=uV z) I e r1 l (.inr ⟨_,rfl⟩) fun w' s' I' rw'=>⟨v,_,I',rw',qs v l⟩
end
section
variable{H:Hp}{Q:VK}{p l:Addr}{kvs:List (Key×V)}{z:Str}{y:V}{xs:List V}
def jo7(e:H p=some (.dK kvs))(qn:qbx kvs (uV z:Key)=none->Q y H)(qs:∀v,qbx kvs (uV z:Key)=some v->Q v (upd H p (.dK (qd2 kvs (uV z:Key))))):jm2 (.ref p) [.str z,y] H Q:=⟨p,kvs,z,y,rfl,rfl,e,qn,qs⟩
def jwf(e:H l=some (.lst xs))(h:Q .non (upd H l (.lst xs.reverse))):jez (.ref l) [] H Q:=⟨l,xs,rfl,rfl,e,h⟩
def jlc{k:Nat}(e:H l=some (.lst xs))(hz:xs.length<64)(hk:k<64)(h:Q .non (upd H l (.lst (xs.take k++y::xs.drop k)))):ji1 (.ref l) [.int (k:Int),y] H Q:=
 ⟨l,xs,(k:Int),y,rfl,rfl,e,↑∅,↑∅,hz,h⟩
def AD.drop{f:Str->Option Int}(h:AD kvs f)(z:Str):AD (qd2 kvs (uV z)) (fun w=>if w=z then none else f w):=by
 refine⟨qge h.nd,fun p hp=>h.sh p (jcy hp),fun w=>?_⟩;by_cases c:w=z
 .subst c;rw[iB rfl];have e:qbx (qd2 kvs (uV w:Key)) (uV w:Key)=none:=by
   clear h
   induction kvs with
   |nil=>rfl
   |cons p r ih=>
    by_cases e:p.1=(uV w:Key)
    .rw[qfb e,ih]
    .rw[qfc e,qbf e,ih]
  rw[e];rfl
 .rw[iA c,<-h.get w];clear h
  induction kvs with
  |nil=>rfl
  |cons p r ih=>
   by_cases e:p.1=(uV z:Key)
   .rw[qfb e,ih,qbf (by rw[e];intro q;exact c (yX q).symm)]
   .rw[qfc e];by_cases e':p.1=(uV w:Key)
    .rw[qbk e',qbk e']
    .rw[qbf e',qbf e',ih]
end
end My
set_option maxHeartbeats 4000000
set_option exponentiation.threshold 1000
namespace Our
open PySem L2 My
variable{S:Ts}{z y:Str}{e:He}{x i n j kd:Nat}{H H' H2:Hp}{Q:VK}{a l b lh:Addr}{xs:List V}{kvs:List (List Key×V)}{f g:Str->Option Int}{ws ss:List Str}{v:V}{o:HO}{parts:List (Str×List Str)}{ps:List Pc}{p:List uB->Prop}{el:Nat->Nat}{es js:List Nat}{nm:Nat->Str}{c1 r:Int}{las ls:List Addr}{X:Nat->Nat->Int}{qs cs:List Pq}{Rs:List Rw}{σ:L2.St}{ys:List Gx}
abbrev sr(a:Addr):Option V:=some (.ref a)
def top(i:Nat):uM:=PySem.Challenge.pw_quotatree_k45_the_list_tested.main.body.getD i (.Pass ⟨0,0,0,0⟩)
def qck:uM->Nat->uM
 | .ClassDef _ _ _ body _ _ _ _ _ _ _,j=>body.getD j (.Pass ⟨0,0,0,0⟩)
 |s,_=>s
abbrev jbh:uM:=top 15
abbrev jbu:uM:=top 16
abbrev jaj:uM:=top 17
abbrev ja6:uM:=top 19
abbrev ja1:uM:=top 20
abbrev jap:uM:=top 21
abbrev ja7:uM:=top 22
abbrev jec:uM:=top 23
abbrev jb1:uM:=top 24
abbrev jbi:uM:=top 25
abbrev jak:uM:=top 29
abbrev jbv:uM:=top 30
abbrev ji4:uM:=top 32
abbrev jed:uM:=top 33
abbrev ja2:uM:=top 34
abbrev jbj:uM:=top 36
abbrev jaq:uM:=top 37
abbrev jb2:uM:=top 38
abbrev ja8:uM:=top 39
abbrev ja9:uM:=top 46
abbrev ja3:uM:=top 47
abbrev ja4:uM:=top 48
abbrev jai:uM:=top 49
abbrev ji5:uM:=top 52
abbrev jo8:uM:=top 53
abbrev ji6:uM:=top 54
abbrev jee:uM:=top 55
abbrev jef:uM:=top 56
abbrev ji7:uM:=top 57
abbrev ji8:uM:=top 58
abbrev jo9:uM:=top 59
abbrev ji9:uM:=top 60
abbrev jeg:uM:=top 61
abbrev jja:uM:=top 62
abbrev jbk:uM:=top 63
abbrev jjb:uM:=top 64
abbrev jbw:uM:=top 65
abbrev jbx:uM:=top 66
abbrev jeh:uM:=top 67
abbrev jei:uM:=top 68
abbrev jbl:uM:=top 69
abbrev jal:uM:=top 70
abbrev jbm:uM:=top 71
abbrev jby:uM:=top 72
abbrev jb3:uM:=top 73
abbrev jpa:uM:=top 74
abbrev ja5:uM:=qck (top 45) 0
abbrev jaf:uM:=qck (top 50) 0
abbrev jad:uM:=qck (top 50) 1
abbrev jbq:uM:=qck (top 50) 2
abbrev jbr:uM:=qck (top 50) 3
abbrev jbn:uM:=qck (top 50) 4
abbrev jae:uM:=qck (top 50) 5
abbrev jam:uM:=qck (top 50) 6
abbrev jan:uM:=qck (top 50) 7
abbrev jay:uM:=qck (top 50) 9
abbrev jba:uM:=qck (top 50) 11
abbrev jbb:uM:=qck (top 50) 12
abbrev jar:uM:=qck (top 50) 13
abbrev jac:uM:=qck (top 50) 14
abbrev jag:uM:=qck (top 50) 16
abbrev jbc:uM:=qck (top 27) 0
abbrev jas:uM:=qck (top 27) 1
abbrev jat:uM:=qck (top 27) 2
abbrev jbd:uM:=qck (top 27) 3
abbrev jau:uM:=qck (top 28) 0
abbrev jav:uM:=qck (top 28) 1
abbrev jbf:uM:=qck (top 11) 0
set_option genSizeOf false in
set_option genInjectivity false in
structure Ad where
 w73:Addr
 w6f:uL
 w8u:Addr
 w6y:uL
 w3d:Addr
 w2k:uL
 w68:Addr
 w5o:uL
 w5p:Addr
 w4d:uL
 w3t:Addr
 w30:uL
 w64:Addr
 w5i:uL
 wcr:Addr
 wa9:uL
 w9s:Addr
 w7z:uL
 w6x:Addr
 w6c:uL
 w3h:Addr
 w2l:uL
 w8e:Addr
 w76:uL
 wef:Addr
 wc8:uL
 wc3:Addr
 wa6:uL
 w5k:Addr
 w4l:uL
 w6w:Addr
 w6d:uL
 w3v:Addr
 w33:uL
 wak:Addr
 w8k:uL
 w67:Addr
 w54:uL
 w6b:Addr
 w5n:uL
 w4y:Addr
 w4a:uL
 w5d:Addr
 w4e:uL
 w2r:Addr
 w28:uL
 wdu:Addr
 wca:uL
 wgg:Addr
 web:uL
 wdx:Addr
 wcq:uL
 wcu:Addr
 wa1:uL
 wcf:Addr
 wai:uL
 weg:Addr
 wci:uL
 wdw:Addr
 wcs:uL
 wg7:Addr
 wdv:uL
 weq:Addr
 wcp:uL
 wc6:Addr
 wa3:uL
 we9:Addr
 wcb:uL
 w70:Addr
 w5z:uL
 we0:Addr
 wcm:uL
 w8i:Addr
 w6r:uL
 w8r:Addr
 w6s:uL
 wcd:Addr
 wa2:uL
 wc1:Addr
 wad:uL
 w48:Addr
 w3f:uL
 w3g:Addr
 w2m:uL
 w6t:Addr
 w62:uL
 w8m:Addr
 w71:uL
 wag:Addr
 w8x:uL
 wc0:Addr
 wat:uL
 w50:Addr
 w49:uL
 w6e:Addr
 w3q:uL
 wbz:Addr
 w0t:uB
 w5c:Addr
 w2u:uL
 wbb:Addr
 w0j:uB
 w78:Addr
 w6n:uL
 w7a:Addr
 w6m:uL
 w72:Addr
 w61:uL
 w20:Addr
 w1q:uL
 w37:Addr
 w2o:uL
 w3a:Addr
 w2t:uL
 w4j:Addr
 w3r:uL
 w65:Addr
 w55:uL
 w66:Addr
 w5f:uL
 w0x:Addr
 w0q:uL
 w0v:Addr
 w0n:uL
 w2a:Addr
 w23:uL
 w4q:Addr
 w4z:uL
 w3y:Addr
 w38:uL
 w3x:Addr
 w32:uL
 w4r:Addr
 w52:uL
 w3w:Addr
 w3b:uL
 w40:Addr
 w35:uL
 w4h:Addr
 w3z:uL
 w03:Addr
 w00:Addr
 w0d:Addr
 w0c:Addr
 w4b:Addr
 w5r:Addr
 w6z:Addr
 w0e:Addr
 w1p:Addr
 w5q:Addr
 w2y:Addr
 w2x:Addr
 w47:Addr
 w41:Addr
 w43:uB
 w0w:uB
 w1s:uB
 w1f:uB
 w0z:uB
 w0f:uB
structure Tx(K:uT)(mg:Str->Option uB)(d:Ad):Prop where
 w9o:Fun K "is_whole" "is_whole" jbh d.w73 d.w6f
 wdj:mg "is_whole"=some (.ref d.w73)
 wdf:qap K d.w6f ["thing"] []
 w81:Fun K "is_name" "is_name" jbu d.w8u d.w6y
 wb2:mg "is_name"=some (.ref d.w8u)
 was:qap K d.w6y ["thing"] []
 w3k:Fun K "is_whole_from" "is_whole_from" jaj d.w3d d.w2k
 w56:mg "is_whole_from"=some (.ref d.w3d)
 w51:qap K d.w2k ["thing","least","most"] []
 w88:Fun K "is_amount" "is_amount" ja6 d.w68 d.w5o
 wch:mg "is_amount"=some (.ref d.w68)
 wc7:qap K d.w5o ["thing"] []
 w53:Fun K "amounts_of" "amounts_of" ja1 d.w5p d.w4d
 w7k:mg "amounts_of"=some (.ref d.w5p)
 w7h:qap K d.w4d ["handed","wares"] []
 w5t:Fun K "above_nought" "above_nought" jap d.w3t d.w30
 w93:mg "above_nought"=some (.ref d.w3t)
 w8z:qap K d.w30 ["amounts"] []
 w25:Fun K "amount_of" "amount_of" ja7 d.w64 d.w5i
 w31:mg "amount_of"=some (.ref d.w64)
 w2z:qap K d.w5i ["amounts","ware"] []
 wbv:Fun K "added" "added" jec d.wcr d.wa9
 we1:mg "added"=some (.ref d.wcr)
 weh:qap K d.wa9 ["one","other"] []
 wd3:Fun K "beyond" "beyond" jb1 d.w9s d.w7z
 wez:mg "beyond"=some (.ref d.w9s)
 wev:qap K d.w7z ["one","other"] []
 w6u:Fun K "total_of" "total_of" jbi d.w6x d.w6c
 w9l:mg "total_of"=some (.ref d.w6x)
 w9k:qap K d.w6c ["many"] []
 w36:Fun K "holds_beneath" "holds_beneath" jak d.w3h d.w2l
 w5j:mg "holds_beneath"=some (.ref d.w3h)
 w5b:qap K d.w2l ["tree","holds","house"] []
 w82:Fun K "held_by" "held_by" jbv d.w8e d.w76
 wav:mg "held_by"=some (.ref d.w8e)
 wbk:qap K d.w76 ["holds"] []
 wfl:Fun K "used" "used" ji4 d.wef d.wc8
 wgx:mg "used"=some (.ref d.wef)
 wgv:qap K d.wc8 ["tree","holds","house"] []
 weo:Fun K "fixed" "fixed" jed d.wc3 d.wa6
 wgc:mg "fixed"=some (.ref d.wc3)
 wgf:qap K d.wa6 ["holds","rank","sure"] []
 w7g:Fun K "rooms_left" "rooms_left" ja2 d.w5k d.w4l
 wb8:mg "rooms_left"=some (.ref d.w5k)
 wbi:qap K d.w4l ["tree","holds","line","amounts"] []
 w9n:Fun K "parts_at" "parts_at" jbj d.w6w d.w6d
 wde:mg "parts_at"=some (.ref d.w6w)
 wdb:qap K d.w6d ["tree","hold","places"] []
 w5u:Fun K "first_beyond" "first_beyond" jaq d.w3v d.w33
 w9e:mg "first_beyond"=some (.ref d.w3v)
 w9d:qap K d.w33 ["parts","rooms"] []
 wae:Fun K "claims" "claims" jb2 d.wak d.w8k
 wd0:mg "claims"=some (.ref d.wak)
 wd2:qap K d.w8k ["tree","holds","house","amounts","rank","sure"] []
 w8d:Fun K "is_claims" "is_claims" ja8 d.w67 d.w54
 wcl:mg "is_claims"=some (.ref d.w67)
 wbt:qap K d.w54 ["tree","holds","house","amounts","rank","sure","given"] []
 w8o:Fun K "are_wares" "are_wares" ja9 d.w6b d.w5n
 wce:mg "are_wares"=some (.ref d.w6b)
 wbu:qap K d.w5n ["thing"] []
 w58:Fun K "check_name" "check_name" ja3 d.w4y d.w4a
 w7d:mg "check_name"=some (.ref d.w4y)
 w79:qap K d.w4a ["thing"] []
 w59:Fun K "read_house" "read_house" ja4 d.w5d d.w4e
 w77:mg "read_house"=some (.ref d.w5d)
 w7j:qap K d.w4e ["wares","elder","promise","cap","weight"] []
 w1m:Fun K "check_promises" "check_promises" jai d.w2r d.w28
 w2n:mg "check_promises"=some (.ref d.w2r)
 w2p:qap K d.w28 ["name","promises","cap"] []
 w3e:Fun K "_law_cell" "_law_cell" ji5 d.wdu d.wca
 w3m:mg "_law_cell"=some (.ref d.wdu)
 w3n:qap K d.wca ["_law_script","_law_k"] []
 w15:Fun K "_law_mix" "_law_mix" jo8 d.wgg d.web
 w18:mg "_law_mix"=some (.ref d.wgg)
 w1b:qap K d.web ["_law_cell_here","_law_k","_law_many"] []
 wau:Fun K "_law_name" "_law_name" ji6 d.wdx d.wcq
 wcv:mg "_law_name"=some (.ref d.wdx)
 wcz:qap K d.wcq ["_law_script","_law_number"] []
 wec:Fun K "_law_lines" "_law_lines" jee d.wcu d.wa1
 wg5:mg "_law_lines"=some (.ref d.wcu)
 wfq:qap K d.wa1 ["_law_script","_law_many"] []
 wc4:Fun K "_law_parts" "_law_parts" jef d.wcf d.wai
 we7:mg "_law_parts"=some (.ref d.wcf)
 wdz:qap K d.wai ["_law_cell_here","_law_kinds","_law_scale"] []
 wfh:Fun K "_law_rows" "_law_rows" ji7 d.weg d.wci
 wh0:mg "_law_rows"=some (.ref d.weg)
 wgp:qap K d.wci ["_law_script","_law_houses","_law_kinds","_law_scale","_law_many"] []
 wdt:Fun K "_law_ends" "_law_ends" ji8 d.wdw d.wcs
 wfj:mg "_law_ends"=some (.ref d.wdw)
 wff:qap K d.wcs ["_law_row","_law_ask"] []
 wf5:Fun K "_law_sum" "_law_sum" jo9 d.wg7 d.wdv
 wgd:mg "_law_sum"=some (.ref d.wg7)
 wg0:qap K d.wdv ["_law_rows_here","_law_lines_here","_law_at","_law_j"] []
 wfb:Fun K "_law_caps" "_law_caps" ji9 d.weq d.wcp
 wgm:mg "_law_caps"=some (.ref d.weq)
 wgy:qap K d.wcp ["_law_script","_law_rows_here","_law_lines_here","_law_ask"] []
 we5:Fun K "_law_world" "_law_world" jeg d.wc6 d.wa3
 wg2:mg "_law_world"=some (.ref d.wc6)
 wgi:qap K d.wa3 ["_law_script","_law_many"] []
 w5w:Fun K "_law_told" "_law_told" jja d.we9 d.wcb
 w6g:mg "_law_told"=some (.ref d.we9)
 w6i:qap K d.wcb ["_law_wares","_law_parts_here"] []
 w9q:Fun K "_law_promises" "_law_promises" jbk d.w70 d.w5z
 wdi:mg "_law_promises"=some (.ref d.w70)
 wd8:qap K d.w5z ["_law_script","_law_lines_here","_law_caps_here"] []
 wfg:Fun K "_law_tree" "_law_tree" jjb d.we0 d.wcm
 wgq:mg "_law_tree"=some (.ref d.we0)
 wgl:qap K d.wcm ["_law_script","_law_world_here"] []
 wbm:Fun K "_law_objects" "_law_objects" jbw d.w8i d.w6r
 wdy:mg "_law_objects"=some (.ref d.w8i)
 wei:qap K d.w6r ["_law_world_here"] []
 wbh:Fun K "_law_stay_so" "_law_stay_so" jbx d.w8r d.w6s
 wel:mg "_law_stay_so"=some (.ref d.w8r)
 we4:qap K d.w6s ["_law_objects_here","_law_world_here"] []
 we3:Fun K "_law_short" "_law_short" jeh d.wcd d.wa2
 wfv:mg "_law_short"=some (.ref d.wcd)
 wfz:qap K d.wa2 ["_law_world_here","_law_some"] []
 wes:Fun K "_law_asked" "_law_asked" jei d.wc1 d.wad
 wg9:mg "_law_asked"=some (.ref d.wc1)
 wg6:qap K d.wad ["_law_world_here","_law_tree_here","_law_objects_here"] []
 w9g:Fun K "_law_one_more" "_law_one_more" jbl d.w48 d.w3f
 w9f:mg "_law_one_more"=some (.ref d.w48)
 wdo:qap K d.w3f ["_law_world_here","_law_given","_law_cell_here"] []
 w4x:Fun K "_law_other_amounts" "_law_other_amounts" jal d.w3g d.w2m
 w80:mg "_law_other_amounts"=some (.ref d.w3g)
 w8a:qap K d.w2m ["_law_world_here","_law_amounts","_law_cell_here"] []
 w9p:Fun K "_law_one_else" "_law_one_else" jbm d.w6t d.w62
 wdq:mg "_law_one_else"=some (.ref d.w6t)
 wds:qap K d.w62 ["_law_world_here","_law_given","_law_cell_here","_law_house","_law_ware"] []
 waz:Fun K "_law_changed" "_law_changed" jby d.w8m d.w71
 wea:mg "_law_changed"=some (.ref d.w8m)
 wek:qap K d.w71 ["_law_script","_law_world_here","_law_given"] []
 w9w:Fun K "_law_tested" "_law_tested" jb3 d.wag d.w8x
 wd1:mg "_law_tested"=some (.ref d.wag)
 wd7:qap K d.w8x ["_law_world_here","_law_tree_here","_law_objects_here","_law_given","_law_due"] []
 wh2:Fun K "law" "law" jpa d.wc0 d.wat
 wh5:mg "law"=some (.ref d.wc0)
 wbc:Fun K "__init__" "House.__init__" ja5 d.w50 d.w49
 wb0:qap K d.w49 ["self","elder","promise","cap","weight"] []
 wcc:My.FunD K "__init__" "Tree.__init__" jaf d.w6e d.w3q d.wbz (List.toArray [d.w0t])
 wfy:qap K d.w3q ["self","wares","name","promise","cap","weight"] []
 wbl:qap K d.w3q ["self","wares","name","promise","cap","weight"] [d.w0t]
 wb9:qba [.int 1] [d.w0t]
 wan:My.FunD K "found" "Tree.found" jad d.w5c d.w2u d.wbb (List.toArray [d.w0j])
 wfn:qap K d.w2u ["self","name","elder","promise","cap","weight"] []
 wab:qap K d.w2u ["self","name","elder","promise","cap","weight"] [d.w0j]
 waf:qba [.int 1] [d.w0j]
 wfe:Fun K "wares" "Tree.wares" jbq d.w78 d.w6n
 wfk:qap K d.w6n ["self"] []
 wfd:Fun K "names" "Tree.names" jbr d.w7a d.w6m
 wfm:qap K d.w6m ["self"] []
 wdm:Fun K "has" "Tree.has" jbn d.w72 d.w61
 w9m:qap K d.w61 ["self","thing"] []
 w6l:Fun K "check_house" "Tree.check_house" jae d.w20 d.w1q
 w1w:qap K d.w1q ["self","thing"] []
 w87:Fun K "house_of" "Tree.house_of" jam d.w37 d.w2o
 w5a:qap K d.w2o ["self","name"] []
 w8s:Fun K "elder_of" "Tree.elder_of" jan d.w3a d.w2t
 w5g:qap K d.w2t ["self","name"] []
 wa7:Fun K "cap_of" "Tree.cap_of" jay d.w4j d.w3r
 wa0:qap K d.w3r ["self","name"] []
 wco:Fun K "kids" "Tree.kids" jba d.w65 d.w55
 wbs:qap K d.w55 ["self","name"] []
 wbx:Fun K "line" "Tree.line" jbb d.w66 d.w5f
 w5y:qap K d.w5f ["self","name"] []
 w9c:Fun K "beneath" "Tree.beneath" jar d.w0x d.w0q
 w2d:qap K d.w0q ["self","name"] []
 w4i:Fun K "promised_beneath" "Tree.promised_beneath" jac d.w0v d.w0n
 w4o:qap K d.w0n ["self","name"] []
 w75:Fun K "check_more" "Tree.check_more" jag d.w2a d.w23
 w74:qap K d.w23 ["self","names","more"] []
 wby:Fun K "__init__" "Hold.__init__" jbc d.w4q d.w4z
 w8c:qap K d.w4z ["self","number","house","amounts","rank","turns"] []
 w90:Fun K "is_sure" "Hold.is_sure" jas d.w3y d.w38
 w91:qap K d.w38 ["self"] []
 w8y:Fun K "may_end" "Hold.may_end" jat d.w3x d.w32
 w5v:qap K d.w32 ["self","rank","sure"] []
 wcn:Fun K "told" "Hold.told" jbd d.w4r d.w52
 w8l:qap K d.w52 ["self"] []
 w9b:Fun K "is_sure" "Loan.is_sure" jau d.w3w d.w3b
 w95:qap K d.w3b ["self"] []
 w97:Fun K "may_end" "Loan.may_end" jav d.w40 d.w35
 w5x:qap K d.w35 ["self","rank","sure"] []
 wf7:Fun K "__init__" "NoPromise.__init__" jbf d.w4h d.w3z
 wb7:My.XClI K d.w1p d.w4h
 w9z:qap K d.w3z ["self","house","ware"] []
 wgh:mg "House"=some (.ref d.w03)
 wgr:mg "Tree"=some (.ref d.w00)
 wgu:mg "Hold"=some (.ref d.w0d)
 wgt:mg "Loan"=some (.ref d.w0c)
 wft:mg "TreeError"=some (.ref d.w4b)
 wf4:mg "NoName"=some (.ref d.w5r)
 wg8:mg "Taken"=some (.ref d.w6z)
 wed:mg "NoHouse"=some (.ref d.w0e)
 wct:mg "NoPromise"=some (.ref d.w1p)
 wcx:mg "NoWare"=some (.ref d.w5q)
 w9j:mg "NoAmount"=some (.ref d.w2y)
 wdp:mg "NoNumber"=some (.ref d.w2x)
 wer:mg "TooMany"=some (.ref d.w47)
 wep:mg "TooDeep"=some (.ref d.w41)
 we8:mg "LETTERS"=some d.w43
 w57:qb8 (.str "abcdefghijklmnopqrstuvwxyz") d.w43
 w96:mg "LONGEST_NAME"=some d.w0w
 w1j:qb8 (.int 8) d.w0w
 wbg:mg "MOST_WARES"=some d.w1s
 w2f:qb8 (.int 6) d.w1s
 w9v:mg "MOST_HOUSES"=some d.w1f
 w1u:qb8 (.int 40) d.w1f
 w94:mg "LONGEST_LINE"=some d.w0z
 w1g:qb8 (.int 12) d.w0z
 w6v:mg "GREATEST_WEIGHT"=some d.w0f
 w0r:qb8 (.int 1000) d.w0f
 wgs:mg "all"=none
 wh1:mg "any"=none
 wfo:mg "bool"=none
 w7e:mg "dict"=none
 wej:mg "int"=none
 w0s:mg "isinstance"=none
 w29:mg "len"=none
 w8w:mg "list"=none
 wgw:mg "max"=none
 wgz:mg "min"=none
 w3l:mg "range"=none
 wh3:mg "set"=none
 w5s:mg "sorted"=none
 wgj:mg "str"=none
 wh4:mg "sum"=none
 wgo:mg "zip"=none
 w1c:jao K d.w0d "is_sure" d.w3y
 w17:jao K d.w0c "is_sure" d.w3w
 w2e:jao K d.w0d "told" d.w4r
 w2j:jao K d.w0c "told" d.w4r
 w0p:jao K d.w0d "may_end" d.w3x
 w0o:jao K d.w0c "may_end" d.w40
 w1l:Cls K d.w03
 w01:Cls K d.w00
 w6p:Mk K d.w03 d.w50
 w8g:Mk K d.w00 d.w6e
 w4f:Cls K d.w0d
 w3s:Cls K d.w0c
 w84:Mk K d.w0d d.w4q
 w7y:Mk K d.w0c d.w4q
 w24:jao K d.w00 "found" d.w5c
 w2w:jao K d.w00 "wares" d.w78
 w2v:jao K d.w00 "names" d.w7a
 w26:jao K d.w00 "has" d.w72
 w04:jao K d.w00 "check_house" d.w20
 w0h:jao K d.w00 "house_of" d.w37
 w0i:jao K d.w00 "elder_of" d.w3a
 w1i:jao K d.w00 "cap_of" d.w4j
 w2g:jao K d.w00 "kids" d.w65
 w19:jao K d.w00 "line" d.w66
 w0a:jao K d.w00 "beneath" d.w0x
 w05:jao K d.w00 "promised_beneath" d.w0v
 w0l:jao K d.w00 "check_more" d.w2a
 w0m:vU K (.ref d.w03) "elder"=some none
 w08:vU K (.ref d.w03) "promise"=some none
 w0k:vU K (.ref d.w03) "cap"=some none
 w16:vU K (.ref d.w03) "weight"=some none
 w06:vU K (.ref d.w00) "sorted_wares"=some none
 w02:vU K (.ref d.w00) "houses"=some none
 w1k:vU K (.ref d.w0d) "number"=some none
 w1v:vU K (.ref d.w0d) "house"=some none
 w1d:vU K (.ref d.w0d) "amounts"=some none
 w2h:vU K (.ref d.w0d) "rank"=some none
 w1t:vU K (.ref d.w0d) "turns"=some none
 w1h:vU K (.ref d.w0c) "number"=some none
 w1x:vU K (.ref d.w0c) "house"=some none
 w1a:vU K (.ref d.w0c) "amounts"=some none
 w1r:vU K (.ref d.w0c) "rank"=some none
 w1y:vU K (.ref d.w0c) "turns"=some none
 we6:My.XCls K d.w0e
 w9h:My.XCls K d.w2y
 wd5:My.XCls K d.w5q
 wex:My.XCls K d.w5r
 wda:My.XCls K d.w2x
 wfx:My.XCls K d.w6z
 wen:My.XCls K d.w47
 wem:My.XCls K d.w41
def eV:Option Str->V
 |none=> .non
 |some z=> .str z
structure Ho where
 el:Option Str
 pa:Addr
 kp:List (Key×V)
 fp:Str->Option Int
 ca:Addr
 kc:List (Key×V)
 fc:Str->Option Int
 w:Int
structure He where
 n:Str
 a:Addr
 x:Ho
structure Ts where
 sw:Addr
 ws:List Str
 hs:Addr
 hl:List He
def fsH(x:Ho):List (Str×V):=[("elder",eV x.el),("promise",.ref x.pa),("cap",.ref x.ca),("weight",.int x.w)]
def jm3(d:Ad)(H:Hp)(a:Addr)(x:Ho):Prop:=(∃dx,H a=some (.ins d.w03 dx (fsH x)))/\H x.pa=some (.dK x.kp)/\AD x.kp x.fp/\H x.ca=some (.dK x.kc)/\AD x.kc x.fc
def jm3.same{d:Ad}{H H':Hp}{a:Addr}{x:Ho}(h:jm3 d H a x)(s:qas H H'):jm3 d H' a x:=⟨let ⟨dx,e⟩:=h.1;⟨dx,s _ _ e⟩,s _ _ h.2.1,h.2.2.1,s _ _ h.2.2.2.1,h.2.2.2.2⟩
def Ts.keys(S:Ts):List (Str×Addr):=S.hl.map fun e=>(e.n,e.a)
def Ts.at(S:Ts)(z:Str):Option He:=S.hl.find? fun e=>decide (e.n=z)
def fsT(S:Ts):List (Str×V):=[("sorted_wares",.ref S.sw),("houses",.ref S.hs)]
def qel(d:Ad)(H:Hp)(t:Addr)(S:Ts):Prop:=(∃dx,H t=some (.ins d.w00 dx (fsT S)))/\H S.sw=some (.lst (S.ws.map V.str))/\H S.hs=some (.dK (oK S.keys))/\(S.hl.map (·.n)).Nodup/\S.hl.length<=60/\∀e∈S.hl,jm3 d H e.a e.x
theorem qel.same{d:Ad}{H H':Hp}{t:Addr}{S:Ts}(h:qel d H t S)(s:qas H H'):qel d H' t S:=
 ⟨let ⟨dx,e⟩:=h.1;⟨dx,s _ _ e⟩,s _ _ h.2.1,s _ _ h.2.2.1,h.2.2.2.1,h.2.2.2.2.1,fun e he=>(h.2.2.2.2.2 e he).same s⟩
theorem qdr(S:Ts)(z:Str):qde S.keys z=(S.at z).map (·.a):=by
 obtain⟨sw,ws,hs,hl⟩:=S;unfold Ts.keys Ts.at;dsimp only
 induction hl with
 |nil=>rfl
 |cons e r ih=>
  rw[zT,yJ];unfold qde;by_cases q:e.n=z
  .rw[iB q,iC q];rfl
  .rw[iA q,iD q];exact ih
def qco(h:S.at z=some e):e∈S.hl/\e.n=z:=⟨List.mem_of_find?_eq_some h,by have:=List.find?_some h;simpa using this⟩
def jy6(K:uT)(H:Hp)(x:V):Prop:=∃t,jbp K H x t/\cN K t (.type "str")=some false
def qe4(K:uT)(H:Hp)(x:V):Prop:=(∃z,x=.str z)\/(jy6 K H x/\∀z,x≠ .str z)
def who(S:Ts):V->Option He
 | .str z=>S.at z
 |_=>none
theorem qd4{x:V}(h:∀z,x≠ .str z):who S x=none:=by
 cases x<;>first|rfl|(rename_i z;exact absurd rfl (h z))
def wbq(K:uT)(d:Ad):Sp:=fun vs H Q _=>∃(t:Addr)(S:Ts)(x:V),vs=[.ref t,x]/\qel d H t S/\qe4 K H x/\Q (.bl (who S x).isSome) H
def w60(K:uT)(d:Ad):Sp:=fun vs H Q E=>∃(t:Addr)(S:Ts)(x:V),vs=[.ref t,x]/\qel d H t S/\qe4 K H x/\(∀e,who S x=some e->Q .non H)/\(who S x=none->E (.ref d.w0e) none H)
def w7t(K:uT)(d:Ad):Sp:=fun vs H Q E=>∃(t:Addr)(S:Ts)(x:V),vs=[.ref t,x]/\qel d H t S/\qe4 K H x/\(∀e,who S x=some e->Q (.ref e.a) H)/\(who S x=none->E (.ref d.w0e) none H)
def w7l(K:uT)(d:Ad):Sp:=fun vs H Q E=>∃(t:Addr)(S:Ts)(x:V),vs=[.ref t,x]/\qel d H t S/\qe4 K H x/\(∀e,who S x=some e->Q (eV e.x.el) H)/\(who S x=none->E (.ref d.w0e) none H)
def w99(K:uT)(d:Ad):Sp:=fun vs H Q E=>∃(t:Addr)(S:Ts)(x:V),vs=[.ref t,x]/\qel d H t S/\qe4 K H x/\(∀e,who S x=some e->∀p,H p=none->Q (.ref p) (upd H p (.dK e.x.kc)))/\(who S x=none->E (.ref d.w0e) none H)
def jpb{a:Str}(h:Q (.bl true) H):jkm (.str a) .non H Q:=⟨rfl,h⟩
theorem jbp.same{K:uT}{H H':Hp}{x:V}{t:uB}(h:jbp K H x t)(s:qas H H'):jbp K H' x t:=by
 cases h with
 |non=>exact .non
 |bl b=>exact .bl b
 |int i=>exact .int i
 |str z=>exact .str z
 |flt z=>exact .flt z
 |lst e=>exact .lst (s _ _ e)
 |frz e=>exact .frz (s _ _ e)
 |tup e=>exact .tup (s _ _ e)
 |dK e=>exact .dK (s _ _ e)
 |dT e=>exact .dT (s _ _ e)
 |ins e c a n k m=>exact .ins (s _ _ e) c a n k m
theorem qe4.same{K:uT}{H H':Hp}{x:V}(h:qe4 K H x)(s:qas H H'):qe4 K H' x:=by
 rcases h with h|⟨⟨t,a,b⟩,n⟩
 .exact .inl h
 .exact .inr ⟨⟨t,jbp.same a s,b⟩,n⟩
inductive jaw(S:Ts):Str->List Str->Prop
 |top{z:Str}{e:He}(h:S.at z=some e)(n:e.x.el=none):jaw S z [z]
 |up{z y:Str}{e:He}{zs:List Str}(h:S.at z=some e)(n:e.x.el=some y)(r:jaw S y zs):jaw S z (z::zs)
def jm4(S:Ts):Option Str->List Str->Prop
 |none,zs=>zs=[]
 |some y,zs=>jaw S y zs
theorem jaw.open{zs:List Str}(h:jaw S z zs):∃e r,S.at z=some e/\zs=z::r/\jm4 S e.x.el r:=by
 cases h with
 |top h n=>exact⟨_,[],h,rfl,by rw[n];rfl⟩
 |up h n r=>exact⟨_,_,h,rfl,by rw[n];exact r⟩
def jld(l:Addr)(H:Hp):Nat:=match H l with
 |some (.lst xs)=>xs.length
 |_=>0
theorem jfq(e:H l=some (.lst xs)):jld l H=xs.length:=by unfold jld;rw[e]
def wbn(K:uT)(d:Ad):Sp:=fun vs H Q E=>∃(t:Addr)(S:Ts)(x:V),vs=[.ref t,x]/\qel d H t S/\
 ((∃z zs,x=.str z/\jaw S z zs/\zs.length<=1000/\∀l,H l=none->Q (.ref l) (upd H l (.lst (zs.map V.str))))\/(qe4 K H x/\who S x=none/\∀l,H l=none->E (.ref d.w0e) none (upd H l (.lst [x]))))
def qbe(S:Ts)(z:Str):List Str:=(S.hl.filter fun e=>decide (e.x.el=some z)).map (·.n)
def way(K:uT)(d:Ad):Sp:=fun vs H Q E=>∃(t:Addr)(S:Ts)(x:V),vs=[.ref t,x]/\qel d H t S/\qe4 K H x/\(∀e,who S x=some e->∀l ss H',qas H H'->H l=none->H' l=some (.lst (ss.map V.str))->ss.Perm (qbe S e.n)->vH ss=true->Q (.ref l) H')/\(who S x=none->E (.ref d.w0e) none H)
def w7i(K:uT)(d:Ad):Sp:=fun vs H Q _=>∃(a:Addr)(kvs:List (Key×V))(f:Str->Option Int)(z:Str),vs=[.ref a,.str z]/\Rd H a (.dK kvs)/\AD kvs f/\Q (.int (gN f z)) H
def w8n(K:uT)(d:Ad):Sp:=fun vs H Q _=>∃(a:Addr)(kvs:List (Key×V))(f:Str->Option Int),vs=[.ref a]/\H a=some (.dK kvs)/\AD kvs f/\kvs.length<=1000/\
 ∀l k' H',qas H H'->H l=none->H' l=some (.dK k')->AD k' (qcu f)->Q (.ref l) H'
inductive jle(K:uT)(d:Ad)(vs:List V)(H:Hp)(Q:VK)(E:XK):Prop
 |mk(a b:Addr)(ka kb:List (Key×V))(f g:Str->Option Int)(_:vs=[.ref a,.ref b])(_:Rd H a (.dK ka))(_:H b=some (.dK kb))(_:AD ka f)(_:AD kb g)(_:ka.length<=1000)(_:kb.length<=1000)(_:∀l k' H',qas H H'->H l=none->H' l=some (.dK k')->AD k' (jb8 f g)->Q (.ref l) H')
inductive jjc(K:uT)(d:Ad)(vs:List V)(H:Hp)(Q:VK)(E:XK):Prop
 |mk(a b:Addr)(ka kb:List (Key×V))(f g:Str->Option Int)(_:vs=[.ref a,.ref b])(_:Rd H a (.dK ka))(_:Rd H b (.dK kb))(_:AD ka f)(_:AD kb g)(_:ka.length<64)(_:(∀H',qas H H'->(∀y,¬viol f g y)->Q .non H'))(_:∀z H',qas H H'->viol f g z->(∀y,viol f g y->leS z y)->Q (.str z) H')
structure Pt where
 a:Addr
 k:List (Key×V)
 f:Str->Option Int
def jdp(ts:List Pt):Str->Option Int:=ts.foldl (fun f t=>jb8 f t.f) noF
def jy7(H:Hp)(ws:List Str)(t:Pt):Prop:=H t.a=some (.dK t.k)/\AD t.k t.f/\∀z,t.f z≠none->z∈ws
def wc2(K:uT)(d:Ad):Sp:=fun vs H Q _=>∃(L:Addr)(ts:List Pt)(ws:List Str),vs=[.ref L]/\SqL K H L (ts.map fun t=> .ref t.a)/\ws.length<=100/\(∀t∈ts,jy7 H ws t)/\
 ∀l k' H',qas H H'->H l=none->H' l=some (.dK k')->AD k' (jdp ts)->Q (.ref l) H'
section
variable{K:uT}{d:Ad}{H:Hp}{Q:VK}{E:XK}
def jlf{kvs:List (Key×V)}(hR:Rd H a (.dK kvs))(hA:AD kvs f)(q:Q (.int (gN f z)) H):w7i K d [.ref a,.str z] H Q E:=⟨a,kvs,f,z,rfl,hR,hA,q⟩
end
local macro_rules | `(tactic| walk_at "kit") => `(tactic| (with_reducible (first
 |assumption|exact jdx|exact jcr|exact qgf
 |exact jdy|exact jdz|exact jd0)))
local macro_rules | `(tactic| walk_at "ty") => `(tactic| (first
 |(with_reducible assumption) |(with_reducible exact jbp.int _) |(with_reducible exact jbp.bl _) |(with_reducible exact jbp.str _)
 |(with_reducible exact jbp.non) |((with_reducible refine' jbp.tup ?h);(case h=>walk_at "heap")) |((with_reducible refine' jbp.lst ?h);(case h=>walk_at "heap")) |((with_reducible refine' jbp.dK ?h);(case h=>walk_at "heap"))))
local macro_rules | `(tactic| walk_at "heap") => `(tactic| first
 |with_reducible assumption|with_reducible exact qa1|((with_reducible refine' qad ?h ?n);(case n=>with_reducible assumption);(case h=>walk_at "heap")))
local macro_rules | `(tactic| walk_at "sqL") => `(tactic| first
 |with_reducible assumption|((with_reducible refine' jod ?h ?n);(case n=>with_reducible assumption);(case h=>walk_at "sqL")) |((with_reducible refine' SqL.of ?h);(case h=>walk_at "heap")))
local macro_rules | `(tactic| walk_at "sqT") => `(tactic| first
 |with_reducible assumption|((with_reducible refine' joe ?h ?n);(case n=>with_reducible assumption);(case h=>walk_at "sqT")) |((with_reducible refine' SqT.of ?h);(case h=>walk_at "heap")))
local macro_rules | `(tactic| walk_at "side") => `(tactic| first
 |assumption|exact rfl|omega|decide
 |(simp only[zK,yS,zB];omega) |exact⟨↑∅,↑∅⟩|exact⟨∅,∅⟩|exact⟨↑∅,by assumption⟩
 |exact⟨by assumption,by assumption⟩|exact⟨∅,by assumption⟩|exact⟨∅,∅,∅⟩)
local macro_rules | `(tactic| walk_at "size") => `(tactic| (first
 |assumption|(simp only[zK,yS,zB,zS];first|decide|(show _<=16777216;omega) |(show _<16777216;omega)) |(show _<=16777216;omega) |(show _<16777216;omega)))
local macro_rules | `(tactic| walk_at "sp") => `(tactic| fail)
local macro_rules | `(tactic| walk_at "r1") => `(tactic| first
 |(with_reducible refine jus (by with_unfolding_all exact rfl) ?_) |(with_reducible first|refine r_c ?_|refine jx8 ?_|refine jx9 ?_) |((with_reducible refine r_I ?hc ?_);(case hc=>walk_at "side")) |(with_reducible first|refine jut ?_|refine juu ?_|refine juv ?_|refine juw ?_|refine jq2 ?_|refine jya ?_|refine jux ?_|refine jyb ?_|refine juy ?_|refine jq3 ?_|refine juz ?_|refine jq4 ?_|refine ju0 ?_|refine jq5 ?_|refine ju1 ?_|refine jq6 ?_|refine ju2 ?_|refine jyc ?_|refine ju3 ?_)
 |(with_reducible refine jq7 (by with_unfolding_all (simp only [List.set];exact rfl)) ?_) |(with_reducible first|refine jq8 ?_|refine jn7 ?_) |((with_reducible refine' jq9 ?s ?n ?_);(case s=>walk_at "sqT");(case n=>exact rfl)) |(with_reducible first|refine ju9 ?_|refine jyg ?_|refine jyh ?_)
 |((with_reducible refine' jva ?s ?_);(case s=>walk_at "sqL")) |((with_reducible refine' jvb ?s ?t ?_);(case s=>walk_at "side");(case t=>walk_at "side")) |(with_reducible first|refine jyd ?_|refine jye ?_|refine ju4 ?_|refine jra ?_|refine ju5 ?_|refine ju6 ?_) |((with_reducible refine ju7 ?n ?_);(case n=>(simp only [zK,yS];decide)))
 |((with_reducible refine joa ?_);intro p hp) |(with_reducible first|refine jrb ?_|refine jn8 ?_|refine jyf ?_|refine jn9 ?_) |((with_reducible refine' ju8 ?s ?e ?_);(case s=>walk_at "sqT");(case e=>exact rfl)) |(with_reducible first|refine jr0 ?_|refine jr1 ?_|refine jyn ?_|refine jvi ?_|refine jvh ?_)
 |((with_reducible refine' jvj ?a ?z ?_);(case a=>walk_at "heap");(case z=>walk_at "size")) |((with_reducible refine' jc1 ?z ?_);(case z=>walk_at "size")) |((with_reducible refine' jry ?z ?_);(case z=>walk_at "size")) |(with_reducible first|refine jym ?_|refine jks ?_|refine jrw ?_|refine jvg ?_|refine jok ?_)
 |((with_reducible refine' jmh ?s ?_);(case s=>walk_at "sqL")) |(with_reducible first|refine jrc ?_|refine jrd ?_|refine job ?_|refine joc ?_) |((with_reducible refine' jur ?t ?k ?_);(case t=>walk_at "ty");(case k=>walk_at "kit")) |(with_reducible first|refine jyj ?_|refine jyk ?_|refine jud ?_|refine juc ?_)
 |((with_reducible refine i_t ?c ?_);(case c=>walk_at "side")) |((with_reducible refine i_f ?c ?_);(case c=>walk_at "side")) |((with_reducible refine jyi ?c ?_);(case c=>walk_at "side")) |walk_at "sp")
local macro_rules | `(tactic| walk_at "g") => `(tactic| repeat walk_at "r1")
local macro_rules|`(tactic|left)=>`(tactic|walk_at "g")
local macro_rules|`(~~~$x)=>`(qal qau (pv $x) qa4 fun _ _=>rfl)
set_option hygiene false in
local macro_rules|`($x|||$y)=>`(qc1 (qc3 hr) $x $y fun _ _=>rfl)
local macro_rules|`(#[()])=>`(⟨rfl,rfl,rfl,by decide+kernel,rfl,by decide+kernel,by decide+kernel⟩)|`(#[])=>`(by omega)|`(#[$x])=>`(qa0 $x qa3)|`(#[$x,$y,*])=>`(qa0 $x #[$y,*])
set_option hygiene false in
local macro_rules|`(tactic|exists $x)=>`(tactic|refine $x (fun vs H Q E h=>?_) (fun cdv A outer s H vs Q E hr h=>?_))|`(tactic|exists $x,$y)=>`(tactic|(refine⟨_,$x,?_⟩;walk_at "d";refine qag (σ:=$y) rfl ?_))
set_option hygiene false in
local macro_rules|`(tactic|right)=>`(tactic|first|(obtain⟨_,rfl,_⟩:=h;rfl)|(obtain⟨_,_,rfl,_⟩:=h;rfl)|(obtain⟨_,_,_,rfl,_⟩:=h;rfl)|(obtain⟨_,_,_,_,rfl,_⟩:=h;rfl)|(obtain⟨_,_,_,_,_,rfl,_⟩:=h;rfl)|(obtain⟨_,_,_,_,_,_,rfl,_⟩:=h;rfl)|(obtain⟨_,_,_,_,_,_,_,rfl,_⟩:=h;rfl)|(obtain⟨_,_,_,_,_,_,_,_,rfl,_⟩:=h;rfl)|(obtain⟨_,_,_,_,_,_,_,_,_,rfl,_⟩:=h;rfl)|(obtain⟨_,_,_,_,_,_,_,_,_,_,rfl,_⟩:=h;rfl)|(obtain⟨_,_,_,_,_,_,_,_,_,_,_,rfl,_⟩:=h;rfl)|(obtain⟨_,_,_,_,_,_,_,_,_,_,_,_,rfl,_⟩:=h;rfl)|(obtain⟨_,_,_,_,_,_,_,_,_,_,_,_,_,rfl,_⟩:=h;rfl)|(obtain⟨_,_,_,_,_,_,_,_,_,_,_,_,_,_,rfl,_⟩:=h;rfl)|(obtain⟨_,_,_,_,_,_,_,_,_,_,_,_,_,_,_,rfl,_⟩:=h;rfl))
local macro_rules | `(tactic| walk_at "d") => `(tactic| try dsimp only [L2.cxOf, L2.Cx.nox, L2.Cx.wish, My.xw, pnd, suite])
local macro_rules | `(tactic| walk_at "rd") => `(tactic| first
 |with_reducible assumption|((with_reducible refine' jc6 ?h ?n);(case n=>with_reducible assumption);(case h=>walk_at "rd")) |((with_reducible refine' Rd.of ?h);(case h=>walk_at "heap")))
local macro_rules | `(tactic| walk_at "same") => `(tactic| first
 |with_reducible assumption|exact qas.refl _|((with_reducible refine' qep ?h ?n);(case n=>with_reducible assumption);(case h=>walk_at "same")))
local macro_rules | `(tactic| walk_at "sp") => `(tactic| first
 |((with_reducible refine jor ?_);intro p hp) |((with_reducible refine' jy2 ?e ?_);(case e=>walk_at "heap")) |((with_reducible refine' jlf ?r ?a ?_);(case r=>walk_at "rd");(case a=>with_reducible assumption)) |(with_reducible refine jr4 ?_)
 |((with_reducible refine' qb0 ?s ?e ?_);(case s=>walk_at "sqL");(case e=>exact rfl)) |(with_reducible refine jvw ?_) |((with_reducible refine' jsf ?r ?_);(case r=>walk_at "rd")) |((with_reducible refine' jsg ?r ?a ?_);(case r=>walk_at "rd");(case a=>with_reducible assumption))
 |(with_reducible refine jys ?_) |((with_reducible refine' jvx ?r ?a ?e ?_);(case r=>walk_at "rd");(case a=>with_reducible assumption);(case e=>with_reducible assumption)) |(with_reducible refine jyt ?_) |((with_reducible refine' jsh ?e ?z ?_);(case e=>walk_at "heap");(case z=>walk_at "size"))
 |((with_reducible refine jsi ?_);intro p hp) |(with_reducible first|refine jvt ?_|refine jyr ?_) |((with_reducible refine' jkv ?e ?_);(case e=>walk_at "rd");intro p hp) |(with_reducible first|refine jyv ?_|refine jyw ?_|refine jv1 ?_|refine jv2 ?_|refine jv5 ?_)
 |((with_reducible refine' jsm ?e ?l ?_);(case e=>walk_at "heap");(case l=>exact rfl)) |(with_reducible refine jv6 ?_) |((with_reducible refine' jv3 ?e ?l ?_);(case e=>walk_at "heap");(case l=>exact rfl)) |(with_reducible first|refine jpb ?_|refine jyu ?_)
 |((with_reducible refine' jv7 ?r ?_);(case r=>walk_at "rd")) |(with_reducible first|refine jyx ?_|refine jyy ?_|refine jyz ?_|refine jy0 ?_) |((with_reducible refine' jv4 ?e ?c ?n ?l ?_);(case e=>walk_at "heap");(case c=>with_reducible assumption);(case n=>with_reducible assumption);(case l=>exact rfl)) |((with_reducible refine' qg6 ?e ?c ?n ?z ?_);(case e=>walk_at "heap");(case c=>with_reducible assumption);(case n=>with_reducible assumption);(case z=>(show _ < 1000;decide)))
 |(with_reducible first|refine jyp ?_|refine jvp ?_) |((with_reducible refine' jvq ?s ?_);(case s=>walk_at "sqL")) |((with_reducible refine' jvv ?s ?_);(case s=>walk_at "heap")) |((with_reducible refine' jkt ?h ?z ?_);(case h=>walk_at "heap");(case z=>walk_at "size")))
def wbw:jaa ["thing"] ["thing"] (qaa jbh):=#[()]
def wd9:jaa ["thing"] ["thing"] (qaa jbu):=#[()]
def w7r:jaa ["thing","least","most"] ["thing","least","most"] (qaa jaj):=#[()]
def wam:jaa ["thing"] ["thing"] (qaa ja6):=#[()]
def w4s:jaa ["handed","wares","key","ware"] ["handed","wares"] (qaa ja1):=#[()]
def w3j:jaa ["amounts","told","ware"] ["amounts"] (qaa jap):=#[()]
def wbd:jaa ["amounts","ware"] ["amounts","ware"] (qaa ja7):=#[()]
def w9u:jaa ["one","other","told","ware"] ["one","other"] (qaa jec):=#[()]
def wbe:jaa ["one","other","ware"] ["one","other"] (qaa jb1):=#[()]
def w4k:jaa ["many","total","amounts"] ["many"] (qaa jbi):=#[()]
def w2s:jaa ["tree","holds","house","names"] ["tree","holds","house"] (qaa jak):=#[()]
def wdd:jaa ["holds"] ["holds"] (qaa jbv):=#[()]
def wfr:jaa ["tree","holds","house"] ["tree","holds","house"] (qaa ji4):=#[()]
def wf2:jaa ["holds","rank","sure"] ["holds","rank","sure"] (qaa jed):=#[()]
def w1e:jaa ["tree","holds","line","amounts","rooms","at","cap","use","ware"] ["tree","holds","line","amounts"] (qaa ja2):=#[()]
def w4g:jaa ["tree","hold","places","line","parts","place"] ["tree","hold","places"] (qaa jbj):=#[()]
def w5h:jaa ["parts","rooms","place"] ["parts","rooms"] (qaa jaq):=#[()]
def w34:jaa ["tree","holds","house","amounts","rank","sure","rooms","given","hold","parts","place","taken"] ["tree","holds","house","amounts","rank","sure"] (qaa jb2):=#[()]
def wb4:jaa ["tree","holds","house","amounts","rank","sure","given"] ["tree","holds","house","amounts","rank","sure","given"] (qaa ja8):=#[()]
def waw:jaa ["thing"] ["thing"] (qaa ja9):=#[()]
def w9t:jaa ["thing"] ["thing"] (qaa ja3):=#[()]
def w4m:jaa ["wares","elder","promise","cap","weight","own_promise","own_cap"] ["wares","elder","promise","cap","weight"] (qaa ja4):=#[()]
def w46:jaa ["name","promises","cap","ware"] ["name","promises","cap"] (qaa jai):=#[()]
def wfs:jaa ["_law_script","_law_k"] ["_law_script","_law_k"] (qaa ji5):=#[()]
def wfc:jaa ["_law_cell_here","_law_k","_law_many","_law_number"] ["_law_cell_here","_law_k","_law_many"] (qaa jo8):=#[()]
def w2q:jaa ["_law_script","_law_number","_law_letters","_law_cell_here","_law_size","_law_at","_law_shift","_law_tail","_law_name_here","_law_k"] ["_law_script","_law_number"] (qaa ji6):=#[()]
def w6q:jaa ["_law_script","_law_many","_law_lines_here","_law_k","_law_elder"] ["_law_script","_law_many"] (qaa jee):=#[()]
def w7u:jaa ["_law_cell_here","_law_kinds","_law_scale","_law_parts_here","_law_j","_law_part"] ["_law_cell_here","_law_kinds","_law_scale"] (qaa jef):=#[()]
def w63:jaa ["_law_script","_law_houses","_law_kinds","_law_scale","_law_many","_law_rows_here","_law_number","_law_k","_law_cell_here","_law_parts_here"] ["_law_script","_law_houses","_law_kinds","_law_scale","_law_many"] (qaa ji7):=#[()]
def wg1:jaa ["_law_row","_law_ask"] ["_law_row","_law_ask"] (qaa ji8):=#[()]
def wgn:jaa ["_law_rows_here","_law_lines_here","_law_at","_law_j"] ["_law_rows_here","_law_lines_here","_law_at","_law_j"] (qaa jo9):=#[()]
def w2b:jaa ["_law_script","_law_rows_here","_law_lines_here","_law_ask","_law_cell_here","_law_stay","_law_go","_law_short_here","_law_caps_here","_law_at","_law_cap","_law_j","_law_low","_law_more","_law_near"] ["_law_script","_law_rows_here","_law_lines_here","_law_ask"] (qaa ji9):=#[()]
def w2c:jaa ["_law_script","_law_many","_law_cell_here","_law_lines_here","_law_kinds","_law_scale","_law_names","_law_wares","_law_rows_here","_law_parts_here","_law_ask"] ["_law_script","_law_many"] (qaa jeg):=#[()]
def w9y:jaa ["_law_wares","_law_parts_here","_law_told_here","_law_ware","_law_part"] ["_law_wares","_law_parts_here"] (qaa jja):=#[()]
def w0u:jaa ["_law_script","_law_lines_here","_law_caps_here","_law_cell_here","_law_left","_law_promises_here","_law_at","_law_j","_law_free","_law_part","_law_house"] ["_law_script","_law_lines_here","_law_caps_here"] (qaa jbk):=#[()]
def w3u:jaa ["_law_script","_law_world_here","_law_names","_law_wares","_law_lines_here","_law_rows_here","_law_ask","_law_caps_here","_law_due","_law_tree_here","_law_k"] ["_law_script","_law_world_here"] (qaa jjb):=#[()]
def w0b:jaa ["_law_world_here","_law_names","_law_wares","_law_lines_here","_law_rows_here","_law_ask","_law_caps_here","_law_objects_here","_law_number","_law_at","_law_parts_here","_law_rank","_law_sure","_law_turns"] ["_law_world_here"] (qaa jbw):=#[()]
def w0y:jaa ["_law_objects_here","_law_world_here","_law_names","_law_wares","_law_lines_here","_law_rows_here","_law_ask","_law_caps_here","_law_hold","_law_row","_law_turns"] ["_law_objects_here","_law_world_here"] (qaa jbx):=#[()]
def w1z:jaa ["_law_world_here","_law_some","_law_names","_law_wares","_law_lines_here","_law_rows_here","_law_ask","_law_caps_here","_law_at","_law_ware","_law_j","_law_here"] ["_law_world_here","_law_some"] (qaa jeh):=#[()]
def w4c:jaa ["_law_world_here","_law_tree_here","_law_objects_here","_law_names","_law_wares","_law_lines_here","_law_rows_here","_law_ask","_law_caps_here"] ["_law_world_here","_law_tree_here","_law_objects_here"] (qaa jei):=#[()]
def w0g:jaa ["_law_world_here","_law_given","_law_cell_here","_law_names","_law_wares","_law_lines_here","_law_rows_here","_law_ask","_law_caps_here","_law_place","_law_row","_law_more"] ["_law_world_here","_law_given","_law_cell_here"] (qaa jbl):=#[()]
def w1n:jaa ["_law_world_here","_law_amounts","_law_cell_here","_law_more","_law_way","_law_ware"] ["_law_world_here","_law_amounts","_law_cell_here"] (qaa jal):=#[()]
def w3c:jaa ["_law_world_here","_law_given","_law_cell_here","_law_house","_law_ware","_law_some","_law_way","_law_at","_law_row"] ["_law_world_here","_law_given","_law_cell_here","_law_house","_law_ware"] (qaa jbm):=#[()]
def w07:jaa ["_law_script","_law_world_here","_law_given","_law_names","_law_wares","_law_lines_here","_law_rows_here","_law_ask","_law_caps_here","_law_cell_here","_law_house","_law_ware","_law_some"] ["_law_script","_law_world_here","_law_given"] (qaa jby):=#[()]
def w21:jaa ["_law_world_here","_law_tree_here","_law_objects_here","_law_given","_law_due","_law_names","_law_wares","_law_lines_here","_law_rows_here","_law_ask","_law_caps_here","_law_kept","_law_found"] ["_law_world_here","_law_tree_here","_law_objects_here","_law_given","_law_due"] (qaa jb3):=#[()]
def w8h:jaa ["_law_script","_law_world_here","_law_tree_here","_law_objects_here","_law_given","_law_good"] ["_law_script"] (qaa jpa):=#[()]
def waj:jaa ["self","elder","promise","cap","weight"] ["self","elder","promise","cap","weight"] (qaa ja5):=#[()]
def w7b:jaa ["self","wares","name","promise","cap","weight","house"] ["self","wares","name","promise","cap","weight"] (qaa jaf):=#[()]
def w4p:jaa ["self","name","elder","promise","cap","weight","house","elders"] ["self","name","elder","promise","cap","weight"] (qaa jad):=#[()]
def wcg:jaa ["self","thing"] ["self","thing"] (qaa jbn):=#[()]
def w69:jaa ["self","thing"] ["self","thing"] (qaa jae):=#[()]
def w7n:jaa ["self","name"] ["self","name"] (qaa jam):=#[()]
def w7s:jaa ["self","name"] ["self","name"] (qaa jan):=#[()]
def w92:jaa ["self","name"] ["self","name"] (qaa jay):=#[()]
def wb1:jaa ["self","name"] ["self","name"] (qaa jba):=#[()]
def w3o:jaa ["self","name","told","elder"] ["self","name"] (qaa jbb):=#[()]
def w39:jaa ["self","name","told","kid"] ["self","name"] (qaa jar):=#[()]
def w45:jaa ["self","name"] ["self","name"] (qaa jac):=#[()]
def w3p:jaa ["self","names","more","name"] ["self","names","more"] (qaa jag):=#[()]
def wbj:jaa ["self","number","house","amounts","rank","turns"] ["self","number","house","amounts","rank","turns"] (qaa jbc):=#[()]
def w8p:jaa ["self"] ["self"] (qaa jas):=#[()]
def w7w:jaa ["self","rank","sure"] ["self","rank","sure"] (qaa jat):=#[()]
def wb5:jaa ["self"] ["self"] (qaa jbd):=#[()]
def w7v:jaa ["self"] ["self"] (qaa jau):=#[()]
def w8v:jaa ["self","rank","sure"] ["self","rank","sure"] (qaa jav):=#[()]
variable{P:uX}{w:vG}{K:uT}{mg:Str->Option uB}{base:vN}{d:Ad}(T:Tx K mg d)
include T in
theorem w8j:jab P w K mg base CX0 1 d.w72 d.w61 ["self","thing"] (wbq K d):=by
 exists T.wdm.ok wcg
 .right
 obtain⟨t,S,x,rfl,hT,hx,q⟩:=h;exists qa6 (qak (qf2 (qai qca rfl T.w0s vW #[pv 1,qda (v:=.ty "str") rfl T.wgj eP rfl]) (qek (jqg (jro (qc3 hr) (pv 1) (qb6 (pv 0) rfl)))))),[sr t,some (x)];obtain⟨⟨dx,ht⟩,hw,hh,nd,hz,hE⟩:=hT;have ct:=T.w01;have nh:qav K d.w00 "houses":=T.w02;rcases hx with⟨z,rfl⟩|⟨⟨ty,ht1,ht2⟩,nz⟩
 .left;rw[qdr,bF];exact q
 .left;rw[qd4 nz] at q;exact q
include T in
theorem w1o:jab P w K mg base (My.CX1 P w) 2 d.w20 d.w1q ["self","thing"] (w60 K d):=by
 exists okX T.w6l w69
 .right
 obtain⟨t,S,x,rfl,hT,hx,q1,q2⟩:=h;exists qa6 (qb5 (qcq (qby (qeb (pv 0) T.w01 T.w26 ((w8j T).mono ∅) hr T.w9m .nil qah #[pv 1]))) (qa6 (qc5 rfl T.we6 rfl T.wed qay #[qcl])) qao),[sr t,some (x)];have hT0:=hT;obtain⟨⟨dx,ht⟩,hw,hh,nd,hz,hE⟩:=hT;have ct:=T.w01;have nh:qav K d.w00 "houses":=T.w02;left;refine⟨t,S,x,rfl,hT0,hx,?_⟩
 cases hw':who S x with
 |none=>
  left;show if(!false)=true then _ else _
  left;exact q2 hw'
 |some e=>
  left;exact q1 e hw'
include T in
theorem w4w:jab P w K mg base (My.CX1 P w) 3 d.w37 d.w2o ["self","name"] (w7t K d):=by
 exists okX T.w87 w7n
 .right
 obtain⟨t,S,x,rfl,hT,hx,q1,q2⟩:=h;exists (qa2 (qb2 (qb9 (pv 0) T.w01 T.w04 ((w1o T).mono ∅) hr T.w1w .nil qay #[pv 1]))
  (qa6 (qak (qb6 (pv 0) rfl|||pv 1)))),[sr t,some (x)];have hT0:=hT;obtain⟨⟨dx,ht⟩,hw,hh,nd,hz,hE⟩:=hT;have ct:=T.w01;have nh:qav K d.w00 "houses":=T.w02;left;refine⟨t,S,x,rfl,hT0,hx,fun e he=>?_,q2⟩;have hz':∃z,x=.str z:=by
  rcases hx with h|⟨_,nz⟩
  .exact h
  .rw[qd4 nz] at he;cases he
 obtain⟨z,rfl⟩:=hz';left;refine jk2 (.inl hh) (h:=e.a) (by rw[qdr];show(S.at z).map _=_;rw[show S.at z=some e from he];rfl) ?_;left;exact q1 e he
include T in
theorem w4v:jab P w K mg base (My.CX1 P w) 4 d.w3a d.w2t ["self","name"] (w7l K d):=by
 exists okX T.w8s w7s
 .right
 obtain⟨t,S,x,rfl,hT,hx,q1,q2⟩:=h;exists qa6 (qak (qb6 (qb9 (pv 0) T.w01 T.w0h ((w4w T).mono ∅) hr T.w5a .nil qay #[pv 1]) rfl)),[sr t,some (x)];have hT0:=hT;obtain⟨⟨dx,ht⟩,hw,hh,nd,hz,hE⟩:=hT;have ct:=T.w01;have nh:qav K d.w00 "houses":=T.w02;left;refine⟨t,S,x,rfl,hT0,hx,fun e he=>?_,q2⟩;obtain⟨z,rfl⟩:∃z,x=.str z:=by
  rcases hx with h|⟨_,nz⟩
  .exact h
  .rw[qd4 nz] at he;cases he
 obtain⟨⟨dh,ho⟩,hp,hpA,hc,hcA⟩:=hE e (qco he).1;have ch:=T.w1l;have nf:qav K d.w03 "elder":=T.w0m;have hRp:Rd H e.x.pa (.dK e.x.kp):=.inl hp;have hRc:Rd H e.x.ca (.dK e.x.kc):=.inl hc;left;exact q1 e he
include T in
theorem w2i:jab P w K mg base CX0 1 d.w64 d.w5i ["amounts","ware"] (w7i K d):=by
 exists T.w25.ok wbd
 .right
 obtain⟨a,kvs,f,z,rfl,hR,hA,q⟩:=h;exists qa6 (qak (jfa (qc3 hr) (pv 0) (pv 1) qa4 ⟨rfl,rfl,rfl,rfl⟩)),[sr a,some (.str z)];left;exact q
include T in
theorem w8b:jab P w K mg base CX0 1 d.w3t d.w30 ["amounts"] (w8n K d):=by
 exists T.w5t.ok w3j
 .right
 obtain⟨a,kvs,f,rfl,hH,hA,hz,q⟩:=h;exists (qa2 (qae (i:=1) w3j.nd rfl (uI rfl) qg9)
  (qa2 (jfc (qbc vE rfl (qf1 (pv 0)) (qab (i:=2) w3j.nd rfl (uI rfl)) (qa6 (qbg (qb5 (qan qgb (pv 0|||pv 2) qa4 (qaq _)) (qa6 (qcv (qc3 hr) (pv 1) (pv 2) (pv 0|||pv 2) rfl)) qao)))))
  (qa6 (qak (pv 1))))),[sr a,none,none];left;rename_i l hl;have ea:=qad (o':=.dK []) hH hl;have nla:l≠a:=(qa8 hH hl).symm;refine jh7 ea fun o=>?_;refine jfe (fun i σ H'=>∃(k':List (Key×V))(w:Option V),σ=[sr a,sr l,w]/\SameBut a H H'/\H' a=some (.frz o (.dK kvs))/\H' l=some (.dK k')/\k'.length<=i/\AD k' (fun y=>if y∈(qcs kvs).take i then qcu f y else none))
  ⟨[],none,rfl,SameBut.at (SameBut.of (qa5 hl _)),qa1,by rw[qa7 nla];exact qa1,uH _,AD.nil.cast fun z=>by simp[noF]⟩ ?_ ?_ ?_
 .rintro i σ H' _ ⟨k',w,rfl,sb,fz,hl',_⟩;exact fz
 .rintro i k v σ H' hk ⟨k',w,rfl,sb,fz,hl',hlen,hA'⟩;obtain⟨z,n,rfl,rfl,hf,hzi⟩:=hA.at hk;have hi:i<kvs.length:=(uG.mp hk).1;have hRd:Rd H' a (.dK kvs):=.inr ⟨o,fz⟩;show jcd _ (.str z) _ _ _;left;refine jcs ?_;left;refine i_2 (fun c=>?_) (fun c=>?_)
  .left;refine⟨_,_,rfl,?_,by rw[qa7 nla.symm];exact fz,qa1,?_,(hA'.put z n).cast fun y=>?_⟩
   .exact jie sb hl
   .have:=qbd k' (uV z) (.int n);omega
   .exact jfg hzi (qcu f) (fun _=>none) (by unfold qcu;rw[hf];exact iB c) y
  .left;refine⟨_,_,rfl,sb,fz,hl',#[],hA'.cast fun y=>?_⟩;exact joq hzi (qcu f) (fun _=>none) (by unfold qcu;rw[hf];exact iA c) y
 .rintro σ H' ⟨k',w,rfl,sb,fz,hl',_,hA'⟩;refine jfd (jh6 fz (qdy hH)) ?_;left;refine q l k' _ (qd5 hH sb) hl (by rw[qa7 nla];exact hl') (hA'.cast fun y=>?_);exact jfh hA (qcu f) (fun _=>none) (fun y e=>by unfold qcu;rw[e]) y
include T in
theorem wd4:jab P w K mg base CX0 2 d.wcr d.wa9 ["one","other"] (jle K d):=by
 exists T.wbv.ok w9u
 .right
 obtain⟨a,b,ka,kb,f,g,rfl,hRa,hb,hA,hB,za,zb,q⟩:=h;exists (qa2 (qae (i:=2) w9u.nd rfl (uI rfl) (qaz qc4 rfl T.w7e wG #[pv 0]))
  (qa2 (jfc (qbc vE rfl (qf1 (pv 1)) (qab (i:=3) w9u.nd rfl (uI rfl)) (qa6 (qcv (qc3 hr) (pv 2) (pv 3) (qam qax (qa9 ((w2i T).mono ∅) hr rfl T.w31 T.w25.kp T.w2z .nil qah #[pv 0,pv 3]) (pv 1|||pv 3)) rfl))))
  (qa6 (qak (pv 2))))),[sr a,sr b,none,none];left;rename_i l hl;have eb:=qad (o':=.dK ka) hb hl;have nlb:l≠b:=(qa8 hb hl).symm;refine jh7 eb fun o=>?_;refine jfe (fun i σ H'=>∃(k':List (Key×V))(w:Option V),σ=[sr a,sr b,sr l,w]/\SameBut b H H'/\H' b=some (.frz o (.dK kb))/\H' l=some (.dK k')/\k'.length<=1000+i/\AD k' (fun y=>if y∈(qcs kb).take i then jb8 f g y else f y))
  ⟨ka,none,rfl,SameBut.at (SameBut.of (qa5 hl _)),qa1,by rw[qa7 nlb];exact qa1,#[],hA.cast fun z=>by simp⟩ ?_ ?_ ?_
 .rintro i σ H' _ ⟨k',w,rfl,sb,fz,hl',_⟩;exact fz
 .rintro i k v σ H' hk ⟨k',w,rfl,sb,fz,hl',hlen,hA'⟩;obtain⟨z,n,rfl,rfl,hf,hzi⟩:=hB.at hk;have hi:i<kb.length:=(uG.mp hk).1;have hRb:Rd H' b (.dK kb):=.inr ⟨o,fz⟩;have hRa':Rd H' a (.dK ka):=jvy hRa hb sb fz;show jcd _ (.str z) _ _ _;left;refine⟨_,_,rfl,jie sb hl,by rw[qa7 nlb.symm];exact fz,qa1,?_,(hA'.put z _).cast fun y=>?_⟩
  .have:=qbd k' (uV z) (.int (gN f z+n));omega
  .exact jfg hzi (jb8 f g) f (by unfold jb8;rw[hf]) y
 .rintro σ H' ⟨k',w,rfl,sb,fz,hl',_,hA'⟩;refine jfd (jh6 fz (qdy hb)) ?_;left;refine q l k' _ (qd5 hb sb) hl (by rw[qa7 nlb];exact hl') (hA'.cast fun y=>?_);exact jfh hB (jb8 f g) f (fun y e=>by unfold jb8;rw[e]) y
include T in
theorem weu:jab P w K mg base CX0 2 d.w9s d.w7z ["one","other"] (jjc K d):=by
 exists T.wd3.ok wbe
 .right
 obtain⟨a,b,ka,kb,f,g,rfl,hRa,hRb,hA,hB,za,qn,qs⟩:=h;exists (qa2 (qbc vE rfl (qb3 (qai (qfy rfl) rfl T.w5s xE #[pv 0])) (qab (i:=2) wbe.nd rfl (uI rfl)) (qa6 (qb5 (qan qgb (pv 0|||pv 2) (qa9 ((w2i T).mono ∅) hr rfl T.w31 T.w25.kp T.w2z .nil qah #[pv 1,pv 2]) (qaq _)) (qa6 (qak (pv 2))) qao)))
  (qa6 (qak qcm))),[sr a,sr b,none];left;refine jib hRa hA.keys (by rw[hA.klen];exact za) fun l ss hl hp hs=>?_;have pw:=qew hs;have hin:∀y,y∈ss↔f y≠none:=fun y=>(hp.mem_iff).trans (hA.kin y);left;have sm:=qa5 hl (.lst (ss.map V.str));have hRa':=jc6 hRa hl (u:=.lst (ss.map V.str));have hRb':=jc6 hRb hl (u:=.lst (ss.map V.str));refine qdg (xs:=ss.map V.str) (fun i σ H'=>H'=upd H l (.lst (ss.map V.str))/\(∃w,σ=[sr a,sr b,w])/\∀j y,j<i->ss[j]?=some y->¬viol f g y) ⟨rfl,⟨_,rfl⟩,fun j y hj=>absurd hj (cA j)⟩ ?_ ?_ ?_
 .rintro i σ H' _ ⟨rfl,_⟩;exact SqL.of qa1
 .rintro i v σ H' hv ⟨rfl,⟨w,rfl⟩,hno⟩;rw[zC] at hv;obtain⟨z,hz,rfl⟩:=uY.mp hv;have hfz:=(hin z).mp (zD hz);obtain⟨n,hn⟩:∃n,f z=some n:=by
   cases e:f z with
   |none=>exact absurd e hfz
   |some n=>exact⟨n,rfl⟩
  have gz:gN f z=n:=by unfold gN;rw[hn];rfl
  left;refine i_2 (fun c=>?_) (fun c=>?_)
  .left;refine qs z _ sm ⟨hfz,by rw[gz];exact c⟩ fun y hy=>?_;obtain⟨j,hj,e⟩:=zR.mp ((hin y).mpr hy.1);have hji:i<=j:=by
    rcases bH j i with h|h
    .exact absurd hy (hno j y h (by rw[zA hj,e]))
    .exact h
   obtain⟨hi,ez⟩:=uG.mp hz;rcases Nat.eq_or_lt_of_le hji with h|h
   .subst h;rw[ez] at e;subst e;exact jkx _
   .have:=zW.mp pw i j hi hj h;rw[ez,e] at this;exact this
  .left;refine⟨rfl,⟨_,rfl⟩,fun j y hj hy=>?_⟩;rcases bH j i with h|h
   .exact hno j y h hy
   .have e:j=i:=by omega
    subst e;rw[hz] at hy
    cases hy
    exact fun hv=>c (by have:=hv.2;rw[gz] at this;exact this)
 .rintro σ H' ⟨rfl,⟨w,rfl⟩,hno⟩;left;refine qn _ sm fun y hy=>?_;obtain⟨j,hj,e⟩:=zR.mp ((hin y).mpr hy.1);exact hno j y (by rw[zB];exact hj) (by rw[zA hj,e]) hy
theorem jjd{ts:List Pt}(h:∀t∈ts,∀z,t.f z≠none->z∈ws):∀f0:Str->Option Int,(∀z,f0 z≠none->z∈ws)->∀z,ts.foldl (fun f t=>jb8 f t.f) f0 z≠none->z∈ws:=by
 induction ts with
 |nil=>intro f0 h0 z hz;exact h0 z hz
 |cons t ts ih=>intro f0 h0 z hz;exact ih (fun t' ht=>h t' (zH _ ht)) (jb8 f0 t.f) (jff h0 (h t (zN ..))) z hz
include T in
theorem w83:jab P w K mg base CX0 3 d.w6x d.w6c ["many"] (wc2 K d):=by
 exists T.w6u.ok w4k
 .right
 obtain⟨L,ts,ws,rfl,hS,hw,hts,q⟩:=h;exists (qa2 (qae (i:=1) w4k.nd rfl (uI rfl) qg9)
  (qa2 (qbc vE rfl (qb3 (pv 0)) (qab (i:=2) w4k.nd rfl (uI rfl)) (qa6 (qae (i:=1) w4k.nd rfl (uI rfl) (qa9 ((wd4 T).mono ∅) hr rfl T.we1 T.wbv.kp T.weh .nil qah #[pv 1,pv 2]))))
  (qa6 (qak (pv 1))))),[sr L,none,none];left;rename_i l0 hl0;refine qdg (xs:=ts.map fun t=> .ref t.a) (fun i σ H'=>∃(l:Addr)(k':List (Key×V))(w:Option V),σ=[sr L,sr l,w]/\qas H H'/\H l=none/\H' l=some (.dK k')/\AD k' (jdp (ts.take i))) ⟨l0,[],none,rfl,qa5 hl0 _,hl0,qa1,AD.nil⟩ ?_ ?_ ?_
 .rintro i σ H' _ ⟨l,k',w,rfl,sm,_⟩;exact sm.seq hS
 .rintro i v σ H' hv ⟨l,k',w,rfl,sm,hl,hl',hA'⟩;rw[zC] at hv;obtain⟨t,ht,rfl⟩:=uY.mp hv;have hm:=zD ht;obtain⟨h1,h2,h3⟩:=hts t hm;have sup:∀z,jdp (ts.take i) z≠none->z∈ws:=jjd (fun t' ht'=>(hts t' (yL ht')).2.2) noF (fun z h=>absurd rfl h);have c1:=hA'.le sup;have c2:=h2.le h3;left;refine⟨l,t.a,k',t.k,jdp (ts.take i),t.f,rfl,.inl hl',sm _ _ h1,hA',h2,#[],#[],fun l2 k2 H2 sm2 hl2 e2 hA2=>?_⟩;left;refine⟨l2,k2,_,rfl,sm.trans sm2,sm.free hl2,e2,?_⟩;have e:ts.take (i+1)=ts.take i++[t]:=by rw[zM,ht];rfl
  rw[e];unfold jdp;rw[cY];exact hA2
 .rintro σ H' ⟨l,k',w,rfl,sm,hl,hl',hA'⟩;rw[zB,zQ] at hA';left;exact q l k' H' sm hl hl' hA'
include T in
theorem w5e:jab P w K mg base (My.CX1 P w) 5 d.w66 d.w5f ["self","name"] (wbn K d):=by
 exists okX T.wbx w3o
 .right
 obtain⟨t,S,x,rfl,hT,q⟩:=h;exists (qa2 (qae (i:=2) w3o.nd rfl (uI rfl) (qbl #[pv 1]))
  (qa2 (qae (i:=3) w3o.nd rfl (uI rfl) (qb9 (pv 0) T.w01 T.w0i ((w4v T).mono ∅) hr T.w5g .nil qay #[pv 1]))
  (qa2 (jj9 (qf3 rfl rfl) (qan qga (pv 3) qcm (qaq _)) (qa2 (qb2 (qdn vD vQ vR qbi (pv 2) #[pv 3]))
  (qa6 (qae (i:=3) w3o.nd rfl (uI rfl) (qb9 (pv 0) T.w01 T.w0i ((w4v T).mono ∅) hr T.w5g .nil qay #[pv 3])))))
  (qa6 (qak (pv 2)))))),[sr t,some (x),none,none];have ct:=T.w01;obtain⟨dx,ht⟩:=hT.1;left;rename_i l hl;have sl:=qa5 hl (.lst [x]);rcases q with⟨z,zs,rfl,hL,hz,q⟩|⟨hx,hn,q⟩
 .obtain⟨e0,r0,h0,rfl,hr0⟩:=hL.open;refine⟨t,S,.str z,rfl,hT.same sl,.inl ⟨z,rfl⟩,fun e he=>?_,fun he=>?_⟩
  .have ee:e0=e:=uW (h0.symm.trans he);subst ee;left;refine jkb (fun σ H'=>∃(ys rs:List Str)(o:Option Str),σ=[sr t,some (.str z),sr l,some (eV o)]/\H'=upd H l (.lst (ys.map V.str))/\ys++rs=z::r0/\jm4 S o rs) (fun _ H'=>(r0.length+1)-jld l H') ⟨[z],r0,_,rfl,rfl,rfl,hr0⟩ ?_ ?_
   .rintro σ H' ⟨ys,rs,o,rfl,rfl,hyr,hR⟩;have hlen:=congrArg wV hyr;rw[zF,zK] at hlen;have hz2:(z::r0).length<=1000:=hz;rw[zK] at hz2
    cases o with
    |none=>
     have:rs=[]:=hR;subst this;rw[yC] at hyr;subst hyr;rw[show eV none=V.non from rfl];left;exact q l hl
    |some y=>
     obtain⟨e1,r1,h1,rfl,hr1⟩:=jaw.open hR;have sy:=qa5 hl (.lst (ys.map V.str));have eL:upd H l (.lst (ys.map V.str)) l=some (.lst (ys.map V.str)):=qa1;have hzz:(ys.map V.str).length<sizeLine:=by rw[zB];show _<16777216;omega
     rw[show eV (some y)=V.str y from rfl];left;rw[qbn];have s2:=qa5 hl (.lst (ys.map V.str++[.str y]));have ht2:=s2 _ _ ht;left;refine⟨t,S,.str y,rfl,hT.same s2,.inl ⟨y,rfl⟩,fun e he=>?_,fun he=>?_⟩
     .have ee:e1=e:=uW (h1.symm.trans he);subst ee;left;rw[zK] at hlen;refine⟨⟨ys++[y],r1,_,rfl,by rw[zE];rfl,by rw[List.append_assoc];exact hyr,hr1⟩,?_⟩;have g1:=jfq eL;have g2:jld l (upd H l (.lst (ys.map V.str++[V.str y])))=(ys.map V.str++[V.str y]).length:=jfq qa1;rw[zF,zB] at g2;rw[zB] at g1;rw[g1,g2];simp only[zK,yS];omega
     .rw[show who S (.str y)=some e1 from h1] at he;cases he
   .rintro σ H' Q1 Q2 hm ⟨v,hv,w,k,hk,hq⟩;exact⟨v,hv,w,k,hk,hm _ _ hq⟩
  .rw[show who S (.str z)=some e0 from h0] at he;cases he
 .refine⟨t,S,x,rfl,hT.same sl,hx.same sl,fun e he=>?_,fun _=>q l hl⟩;rw[hn] at he;cases he
theorem jc9(nd:(S.hl.map (·.n)).Nodup)(h:e∈S.hl):S.at e.n=some e:=by
 have q:qde S.keys e.n=some e.a:=jfl (by unfold Ts.keys;rw[yT];exact nd) (zJ.mpr ⟨e,h,rfl⟩);unfold Ts.at
 revert nd h
 obtain⟨sw,ws,hs,hl⟩:=S;dsimp only;clear q;intro nd h
 induction hl with
 |nil=>simp at h
 |cons y r ih=>
  rw[zT,zV] at nd;rw[yJ];rcases zO.mp h with h|h
  .subst h;rw[iC rfl]
  .have ne:y.n≠e.n:=fun z=>nd.1 (by rw[z];exact zJ.mpr ⟨e,h,rfl⟩);rw[iD ne];exact ih nd.2 h
theorem jpc{k:Key}(h:(oK S.keys)[i]?=some (k,v)):∃e,S.hl[i]?=some e/\k=uV e.n/\v=.ref e.a:=by
 unfold oK Ts.keys at h;rw[zC,zC] at h
 cases q:S.hl[i]? with
 |none=>rw[q] at h;cases h
 |some e=>rw[q] at h;cases h;exact⟨e,rfl,rfl,rfl⟩
theorem qes(S:Ts):(oK S.keys).length=S.hl.length:=by unfold oK Ts.keys;rw[zB,zB]
theorem jtf{o:Option Str} :decide (eV o=V.str z)=decide (o=some z):=by
 cases o with
 |none=>rfl
 |some y=>
  by_cases h:y=z
  .subst h;show decide (V.str y=V.str y)=_;rw[iC rfl,iC rfl]
  .rw[iD (fun q=>h (by cases q;rfl)),iD (fun q=>h (uW q))]
theorem jpd{o:Option Str} :scal (eV o) (V.str z)=true:=by cases o<;>rfl
include T in
theorem waq:jab P w K mg base (My.CX1 P w) 3 d.w65 d.w55 ["self","name"] (way K d):=by
 exists okX T.wco wb1
 .right
 obtain⟨t,S,x,rfl,hT,hx,q1,q2⟩:=h;refine⟨_,(qa2 (qb2 (qb9 (pv 0) T.w01 T.w04 ((w1o T).mono ∅) hr T.w1w .nil qay #[pv 1]))
  (qa6 (qak (qai qee rfl T.w5s xE #[jsb (qc2 (caps:=[0,1]) (cn:=["self","name"]) (qbh rfl rfl (by rfl) (by rfl) rfl ⟨rfl,⟨rfl,trivial⟩⟩ (by rfl) rfl ⟨⟨rfl,rfl,rfl,rfl,_,rfl⟩,⟨⟨rfl,rfl,rfl,rfl,_,rfl⟩,trivial⟩⟩ ∅) rfl (qf1 (qb6 (pv 0) rfl)) (fun _ _ _ _=>(qej (qan qcc (qb6 (qb6 (pv 1) rfl|||pv 0) rfl) (pv 2) (qaq _)))) (fun _ _ _ _=>(pv 0)))])))),?_⟩
 walk_at"d"
 dsimp only[cxC];refine qag (σ:=[sr t,some (x)]) rfl ?_;have hT0:=hT;obtain⟨⟨dx,ht⟩,hw,hh,nd,hz,hE⟩:=hT;have ct:=T.w01;have ch:=T.w1l;have nh:qav K d.w00 "houses":=T.w02;have nf:qav K d.w03 "elder":=T.w0m;left;refine⟨t,S,x,rfl,hT0,hx,fun e he=>?_,q2⟩;obtain⟨z,rfl⟩:∃z,x=.str z:=by
  rcases hx with h|⟨_,nz⟩
  .exact h
  .rw[qd4 nz] at he;cases he
 obtain⟨hme,rfl⟩:=qco he;left;refine jvu ?_;left;refine jh7 hh fun o=>?_;intro C s0 H0 fp na hna;have hF:upd H S.hs (.frz o (.dK (oK S.keys))) S.hs=some (.frz o (.dK (oK S.keys))):=qa1;have sb:SameBut S.hs H (upd H S.hs (.frz o (.dK (oK S.keys)))):=jid hh;have ht2:=sb _ _ (jgu ht hh (by intro z;cases z)) ht;have hna0:H na=none:=by
  by_cases z:na=S.hs
  .subst z;rw[hF] at hna;cases hna
  .rw[qa7 z] at hna;exact hna
 have hE2:∀e∈S.hl,∃dx,upd H S.hs (.frz o (.dK (oK S.keys))) e.a=some (.ins d.w03 dx (fsH e.x)):=fun e he=>by
  obtain⟨⟨dx,q⟩,_⟩:=hE e he;exact⟨dx,sb _ _ (jgu q hh (by intro z;cases z)) q⟩
 generalize upd H S.hs (.frz o (.dK (oK S.keys)))=HF at*;refine jb7 S.hl.length (fun i H'=>H'=upd HF na (.lst ((((S.hl.take i).filter fun y=>decide (y.x.el=some e.n)).map (·.n)).map V.str))) rfl ?_ ?_ ?_ ?_
 .rintro i H' hi rfl;exact⟨qad hF hna,by rw[qes];exact hi⟩
 .rintro H' rfl;exact⟨qad hF hna,by rw[qes];exact uH _⟩
 .rintro i H' v H'' hi rfl ⟨rfl,k,v',hk,rfl⟩;obtain⟨y,hy,rfl,rfl⟩:=jpc hk;have hym:=zD hy;obtain⟨dy,hya⟩:=hE2 y hym;have nx:(S.hl.take (i+1)).filter (fun y=>decide (y.x.el=some e.n))=(S.hl.take i).filter (fun y=>decide (y.x.el=some e.n))++(if decide (y.x.el=some e.n)=true then[y] else[]):=by
   rw[zM,hy,yB]
   congr 1
   simp only[Option.toList_some,zY,yQ]
  have hlen:((S.hl.take i).filter (fun y=>decide (y.x.el=some e.n))).length<=S.hl.length:=vP (zU ..) (by rw[zS];omega);left;refine jk2 (h:=y.a) (jc6 (.inr ⟨o,hF⟩) hna) (by rw[qdr,jc9 nd hym];rfl) ?_;left;refine⟨jpd,?_⟩;rw[jtf];refine⟨_,rfl,?_⟩;refine i_2 (fun c=>?_) (fun c=>?_)
  .left;rw[qbn,nx,iB (iC c),zE,zE];rfl
  .rw[nx,iA (by rw[iD c];decide),yC]
 rintro H' rfl;rw[zQ];have nns:na≠S.hs:=fun z=>by subst z;rw[hF] at hna;cases hna
 have eN:upd (upd HF na (.lst ((qbe S e.n).map V.str))) S.hs (.dK (oK S.keys)) na=some (.lst ((qbe S e.n).map V.str)):=by rw[qa7 nns];exact qa1
 have sm:qas H (upd (upd HF na (.lst ((qbe S e.n).map V.str))) S.hs (.dK (oK S.keys))):=qd5 hh (jie sb hna0);have hkl:(qbe S e.n).length<=60:=by unfold qbe;rw[zB];exact vP (zU ..) hz
 refine⟨_,jh6 (qad hF hna) (qdy hh),?_⟩;show jua _ (upd (upd HF na (.lst ((qbe S e.n).map V.str))) S.hs (.dK (oK S.keys))) _;generalize upd (upd HF na (.lst ((qbe S e.n).map V.str))) S.hs (.dK (oK S.keys))=H3 at*;left;refine jd4 (SqL.of eN) #[] fun l ss hl hp hs=>?_;left;exact q1 e he l ss _ (qep sm hl) (sm.free hl) qa1 hp hs
def jlg{zs:List V}(h:H l=some (.lst xs))(hb:H b=some (.lst zs))(hz:xs.length+zs.length<=sizeLine)(q:Q .non (upd H l (.lst (xs++zs)))):jhi (.ref l) [.ref b] H Q:=⟨l,b,xs,zs,rfl,rfl,h,hb,hz,q⟩
def flat(parts:List (Str×List Str)):List Str:=(parts.map (·.2)).flatten
def Ben(S:Ts):Nat->Str->List Str->Prop
 |0,z,zs=>∃parts:List (Str×List Str),(parts.map (·.1)).Perm (qbe S z)/\zs=z::flat parts/\∀p∈parts,False
 |n+1,z,zs=>∃parts:List (Str×List Str),(parts.map (·.1)).Perm (qbe S z)/\zs=z::flat parts/\∀p∈parts,Ben S n p.1 p.2
def jpe(S:Ts):Nat->Str->List Str->Prop
 |0,z,zs=>∃(parts:List (Str×List Str))(rest:List Str),(parts.map (·.1)++rest).Perm (qbe S z)/\zs=z::flat parts/\∀p∈parts,False
 |n+1,z,zs=>∃(parts:List (Str×List Str))(rest:List Str),(parts.map (·.1)++rest).Perm (qbe S z)/\zs=z::flat parts/\∀p∈parts,jpe S n p.1 p.2
theorem Ben.part{S:Ts}:∀{n:Nat} {z:Str} {zs:List Str},Ben S n z zs->jpe S n z zs
 |0,_,_,⟨parts,a,b,c⟩=>⟨parts,[],by rw[yC];exact a,b,c⟩
 |n+1,_,_,⟨parts,a,b,c⟩=>⟨parts,[],by rw[yC];exact a,b,fun p hp=>Ben.part (c p hp)⟩
def jtg(S:Ts):Nat->Str->List Str->Prop
 |0,_,_=>False
 |n+1,z,zs=>Ben S n z zs
theorem jth(h:(parts.map (·.1)).Perm (qbe S z))(hp:∀p∈parts,jtg S n p.1 p.2):Ben S n z (z::flat parts):=by
 cases n with
 |zero=>exact⟨parts,h,rfl,hp⟩
 |succ n=>exact⟨parts,h,rfl,hp⟩
theorem jpf{rest:List Str}(h:(parts.map (·.1)++rest).Perm (qbe S z))(hp:∀p∈parts,jtg S n p.1 p.2):jpe S n z (z::flat parts):=by
 cases n with
 |zero=>exact⟨parts,rest,h,rfl,hp⟩
 |succ n=>exact⟨parts,rest,h,rfl,fun p q=>Ben.part (hp p q)⟩
def jwg(S:Ts):Prop:=∀n z zs,jpe S n z zs->zs.length<=1000
def Dep(S:Ts):Nat->Str->Prop
 |0,z=>qbe S z=[]
 |n+1,z=>∀y∈qbe S z,Dep S n y
def wcw(n:Nat)(K:uT)(d:Ad):Sp:=fun vs H Q E=>∃(t:Addr)(S:Ts)(x:V),vs=[.ref t,x]/\qel d H t S/\jwg S/\qe4 K H x/\(∀e,who S x=some e->Dep S n e.n/\∀l zs H',qas H H'->H l=none->H' l=some (.lst (zs.map V.str))->Ben S n e.n zs->Q (.ref l) H')/\(who S x=none->∀l,H l=none->E (.ref d.w0e) none (upd H l (.lst [x])))
theorem jti(nd:(S.hl.map (·.n)).Nodup)(h:y∈qbe S z):∃e,S.at y=some e/\e.n=y:=by
 obtain⟨e,he,rfl⟩:=zJ.mp h;exact⟨e,jc9 nd (yG.mp he).1,rfl⟩
theorem jlh(a b:List (Str×List Str)):flat (a++b)=flat a++flat b:=by unfold flat;rw[zE,List.flatten_append]
theorem jfr{P:uX}{w:vG}{K:uT}{mg:Str->Option uB}{base:vN}{d:Ad}(T:Tx K mg d)(n:Nat)(spi:Sp)(IH:jab P w K mg base (My.CX1 P w) (3+n) d.w0x d.w0q ["self","name"] spi)
  (use:∀(t:Addr)(S:Ts)(z y:Str)(e:He)(H:Hp)(Q:VK)(E:XK),qel d H t S->jwg S->Dep S n z->y∈qbe S z->S.at y=some e->e.n=y->(∀l zs H',qas H H'->H l=none->H' l=some (.lst (zs.map V.str))->jtg S n y zs->Q (.ref l) H')->spi [.ref t,.str y] H Q E):
  jab P w K mg base (My.CX1 P w) (3+n+1) d.w0x d.w0q ["self","name"] (wcw n K d):=by
 exists okX T.w9c w39
 .right
 obtain⟨t,S,x,rfl,hT,hS,hx,q1,q2⟩:=h;exists (qa2 (qae (i:=2) w39.nd rfl (uI rfl) (qbl #[pv 1]))
  (qa2 (qbc (qf3 rfl rfl) rfl (qb3 (qb9 (pv 0) T.w01 T.w2g ((waq T).mono #[]) hr T.wbs .nil qay #[pv 1])) (qab (i:=3) w39.nd rfl (uI rfl)) (qa6 (qb2 (qdn vD PySem.F.slot_list_extend PySem.F.type_list_extend jhj (pv 2) #[qb9 (pv 0) T.w01 T.w0a IH hr T.w2d .nil qay #[pv 3]]))))
  (qa6 (qak (pv 2))))),[sr t,some (x),none,none];have ct:=T.w01;obtain⟨dx,ht⟩:=hT.1;have nd:=hT.2.2.2.1;left;rename_i lt hlt;have sl:=qa5 hlt (.lst [x]);refine⟨t,S,x,rfl,hT.same sl,hx.same sl,fun e he=>?_,fun he=>q2 he lt hlt⟩;obtain⟨hD,q⟩:=q1 e he;obtain⟨z,rfl⟩:∃z,x=.str z:=by
  rcases hx with h|⟨_,nz⟩
  .exact h
  .rw[qd4 nz] at he;cases he
 obtain⟨hme,rfl⟩:=qco he;intro lk ss H1 s1 hlk ek hp hs;have eT:=s1 _ _ (qa1 (H:=H) (a:=lt) (o:=.lst [V.str e.n]));left;have ntk:lk≠lt:=fun z=>by subst z;rw[qa1] at hlk;cases hlk
 refine qdg (xs:=ss.map V.str) (fun i σ H'=>∃(parts:List (Str×List Str))(w:Option V),σ=[sr t,some (.str e.n),sr lt,w]/\parts.map (·.1)=ss.take i/\(∀p∈parts,jtg S n p.1 p.2)/\qas H H'/\H' lk=some (.lst (ss.map V.str))/\H' lt=some (.lst ((e.n::flat parts).map V.str)))
  ⟨[],_,rfl,rfl,fun p hp=>absurd hp (by simp),sl.trans s1,ek,eT⟩ ?_ ?_ ?_
 .rintro i σ H' _ ⟨parts,w,_,_,_,_,ek',_⟩;exact SqL.of ek'
 .rintro i v σ H' hv ⟨parts,w,rfl,hps,hB,sm,ek',eT'⟩;rw[zC] at hv;obtain⟨y,hy,rfl⟩:=uY.mp hv;have hyk:y∈qbe S e.n:=hp.mem_iff.mp (zD hy);obtain⟨ey,h1,h2⟩:=jti nd hyk;have ht':=sm _ _ ht;left;refine use t S e.n y ey H' _ _ (hT.same sm) hS hD hyk h1 h2 fun l zs H2 s2 hl el hBy=>?_;have eT2:=s2 _ _ eT';have hps2:(parts++[(y,zs)]).map (·.1)=ss.take (i+1):=by rw[zE,hps,zM,hy];rfl
  have hB2:∀p∈parts++[(y,zs)],jtg S n p.1 p.2:=fun p hp=>by
   rcases zP.mp hp with h|h
   .exact hB p h
   .have:=zG.mp h;subst this;exact hBy
  have ef:flat (parts++[(y,zs)])=flat parts++zs:=by rw[jlh];congr 1;simp[flat]
  have hlen:=hS _ _ _ (jpf (n:=n) (z:=e.n) (parts:=parts++[(y,zs)]) (rest:=ss.drop (i+1)) (by rw[hps2,bN];exact hp) hB2);rw[ef,zK,zF] at hlen;left;refine jlg eT2 el (by rw[zB,zB,zK];show _<=16777216;omega) ?_;left;refine⟨parts++[(y,zs)],_,rfl,hps2,hB2,qaw (sm.trans s2) hlt,by rw[qa7 ntk];exact s2 _ _ ek',?_⟩;rw[ef,<-zE];exact qa1
 .rintro σ H' ⟨parts,w,rfl,hps,hB,sm,ek',eT'⟩;rw[zB,zQ] at hps;left;exact q lt _ H' sm hlt eT' (jth (by rw[hps];exact hp) hB)
def we2{P:uX}{w:vG}{K:uT}{mg:Str->Option uB}{base:vN}{CX:CXT}{k:Nat}{f:Addr}{fd:uL}{ps:List Str} :jab P w K mg base CX k f fd ps (fun _ _ _ _=>False):=
 ⟨fun _ _ _ _ h=>h.elim,fun _ _ _ _ _ _ _ _ _ _ _ _ _ h=>h.elim⟩
theorem wfp{P:uX}{w:vG}{K:uT}{mg:Str->Option uB}{base:vN}{d:Ad}(T:Tx K mg d):∀n:Nat,jab P w K mg base (My.CX1 P w) (3+n+1) d.w0x d.w0q ["self","name"] (wcw n K d)
 |0=>jfr T 0 (fun _ _ _ _=>False) we2 fun t S z y e H Q E _ _ hD hy _ _ _=>by
  have:qbe S z=[]:=hD;rw[this] at hy;simp at hy
 |n+1=>jfr T (n+1) (wcw n K d) (wfp T n) fun t S z y e H Q E hT hS hD hy h1 h2 q=>by
  refine⟨t,S,.str y,rfl,hT,hS,.inl ⟨y,rfl⟩,fun e' he'=>?_,fun he'=>?_⟩
  .have ee:e=e':=uW (h1.symm.trans he');subst ee;rw[h2];exact⟨hD y hy,fun l zs H' sm hl el hB=>q l zs H' sm hl el hB⟩
  .rw[show who S (.str y)=some e from h1] at he';cases he'
def w8t(K:uT)(d:Ad):Sp:=wcw 12 K d
def w3i:jab P w K mg base (My.CX1 P w) 16 d.w0x d.w0q ["self","name"] (w8t K d):=wfp T 12
def upS(S:Ts)(y:Str):Option Str:=(S.at y).bind fun e=>e.x.el
def anc(S:Ts):Nat->Str->Option Str
 |0,y=>some y
 |k+1,y=>(upS S y).bind (anc S k)
theorem qdv{S:Ts}:∀(i j:Nat)(y:Str),anc S (i+j) y=(anc S i y).bind (anc S j)
 |0,j,y=>by rw[Nat.zero_add];rfl
 |i+1,j,y=>by
  rw[show i+1+j=(i+j)+1 by omega];show(upS S y).bind (anc S (i+j))=((upS S y).bind (anc S i)).bind (anc S j)
  cases upS S y with
  |none=>rfl
  |some u=>exact qdv i j u
def WF(S:Ts):Prop:=(S.hl.map (·.n)).Nodup/\∀e∈S.hl,∃zs,jaw S e.n zs
theorem jtj(h:S.at z=some e):upS S z=e.x.el:=by unfold upS;rw[h];rfl
theorem jli{zs:List Str}(h:jaw S z zs):anc S zs.length z=none:=by
 induction h with
 |top h n=>show(upS S _).bind _=none;rw[jtj h,n];rfl
 |up h n r ih=>show(upS S _).bind _=none;rw[jtj h,n];exact ih
theorem jfs(w:WF S){k:Nat}{z:Str}:anc S (k+1) z≠some z:=by
 intro c
 cases hz:S.at z with
 |none=>
  have:anc S (k+1) z=none:=by show(upS S z).bind _=none;unfold upS;rw[hz];rfl
  rw[this] at c;cases c
 |some e=>
  obtain⟨zs,hl⟩:=w.2 e (qco hz).1;rw[(qco hz).2] at hl;have he:=jli hl;have rep:∀m,anc S (m*(k+1)) z=some z:=by
   intro m
   induction m with
   |zero=>rw[Nat.zero_mul];rfl
   |succ m ih=>rw[Nat.succ_mul,qdv,ih];exact c
  have h1:=rep zs.length;have h2:zs.length*(k+1)=zs.length+zs.length*k:=by rw[Nat.mul_add,Nat.mul_one];omega
  rw[h2,qdv,he] at h1
  cases h1
theorem jm5(w:WF S){y z:Str}(h:y∈qbe S z):upS S y=some z:=by
 obtain⟨e,he,rfl⟩:=zJ.mp h;obtain⟨hm,hd⟩:=yG.mp he;unfold upS;rw[jc9 w.1 hm];exact of_decide_eq_true hd
theorem jgl(w:WF S)(z:Str):(qbe S z).Nodup:=by
 unfold qbe;exact List.Nodup.sublist (List.Sublist.map _ List.filter_sublist) w.1
theorem jej{S:Ts}(w:WF S):∀{n:Nat} {z:Str} {zs:List Str},jpe S n z zs->∀y∈zs,∃k,anc S k y=some z
 |0,z,_,⟨parts,rest,hp,rfl,hb⟩,y,hy=>by
  rcases zO.mp hy with rfl|hy
  .exact⟨0,rfl⟩
  .obtain⟨l,hl,_⟩:=yM.mp hy;obtain⟨p,hpp,_⟩:=zJ.mp hl;exact(hb p hpp).elim
 |n+1,z,_,⟨parts,rest,hp,rfl,hb⟩,y,hy=>by
  rcases zO.mp hy with rfl|hy
  .exact⟨0,rfl⟩
  .obtain⟨l,hl,hyl⟩:=yM.mp hy;obtain⟨p,hpp,rfl⟩:=zJ.mp hl;obtain⟨k,hk⟩:=jej w (hb p hpp) y hyl;have hu:=jm5 w (hp.mem_iff.mp (yE _ (zJ.mpr ⟨p,hpp,rfl⟩)));exact⟨k+1,by rw[qdv,hk];show(upS S p.1).bind _=_;rw[hu];rfl⟩
theorem apart(w:WF S){p q z y:Str}{i j:Nat}(hp:upS S p=some z)(hq:upS S q=some z)(ne:p≠q)(hi:anc S i y=some p)(hj:anc S j y=some q)(le:i<=j):False:=by
 obtain⟨c,rfl⟩:=Nat.exists_eq_add_of_le le;rw[qdv,hi] at hj;have hj':anc S c p=some q:=hj
 cases c with
 |zero=>exact ne (uW hj')
 |succ c=>
  have h1:(upS S p).bind (anc S c)=some q:=hj';rw[hp] at h1;have h2:anc S c z=some q:=h1;refine jfs w (k:=c) (z:=z) ?_;rw[qdv,h2];show(upS S q).bind _=_;rw[hq];rfl
theorem qf4{S:Ts}(w:WF S){z:Str}:∀{parts:List (Str×List Str)},(parts.map (·.1)).Nodup->(∀p∈parts,upS S p.1=some z)->(∀p∈parts,p.2.Nodup/\∀y∈p.2,∃k,anc S k y=some p.1)->(flat parts).Nodup
 | [],_,_,_=>yK
 |p::r,nd,hu,hb=>by
  rw[zT,zV] at nd;have ih:=qf4 w (z:=z) nd.2 (fun q hq=>hu q (zH _ hq)) fun q hq=>hb q (zH _ hq);show(p.2++flat r).Nodup;rw[yH];refine⟨(hb p (zN ..)).1,ih,fun a ha b hbm e=>?_⟩;subst e;obtain⟨l,hl,hal⟩:=yM.mp hbm;obtain⟨q,hq,rfl⟩:=zJ.mp hl;obtain⟨i,hi⟩:=(hb p (zN ..)).2 a ha;obtain⟨j,hj⟩:=(hb q (zH _ hq)).2 a hal;have ne:p.1≠q.1:=fun z=>nd.1 (by rw[z];exact zJ.mpr ⟨q,hq,rfl⟩);have up:=hu p (zN ..);have uq:=hu q (zH _ hq);rcases Nat.le_total i j with h|h
  .exact apart w up uq ne hi hj h
  .exact apart w uq up ne.symm hj hi h
theorem qct{S:Ts}(w:WF S):∀{n:Nat} {z:Str} {zs:List Str},jpe S n z zs->zs.Nodup/\∀y∈zs,y=z\/y∈S.hl.map (·.n)
 |0,z,_,⟨parts,rest,hp,rfl,hb⟩=>by
  have:parts=[]:=by
   cases parts with
   |nil=>rfl
   |cons p r=>exact(hb p (zN ..)).elim
  subst this;exact⟨by simp[flat],fun y hy=> .inl (by simpa[flat] using hy)⟩
 |n+1,z,_,⟨parts,rest,hp,rfl,hb⟩=>by
  have kd:=jgl w z;have hk:∀p∈parts,p.1∈qbe S z:=fun p h=>hp.mem_iff.mp (yE _ (zJ.mpr ⟨p,h,rfl⟩));have hu:∀p∈parts,upS S p.1=some z:=fun p h=>jm5 w (hk p h);have hn:(parts.map (·.1)).Nodup:=(yH.mp (hp.nodup_iff.mpr kd)).1;have fl:=qf4 w (z:=z) hn hu fun p h=>⟨(qct w (hb p h)).1,jej w (hb p h)⟩;refine⟨zV.mpr ⟨fun hm=>?_,fl⟩,fun y hy=>?_⟩
  .obtain⟨l,hl,hal⟩:=yM.mp hm;obtain⟨q,hq,rfl⟩:=zJ.mp hl;obtain⟨k,hk'⟩:=jej w (hb q hq) z hal;refine jfs w (k:=k) (z:=z) ?_;rw[qdv,hk'];show(upS S q.1).bind _=_;rw[hu q hq];rfl
  .rcases zO.mp hy with rfl|hy
   .exact .inl rfl
   .obtain⟨l,hl,hal⟩:=yM.mp hy;obtain⟨q,hq,rfl⟩:=zJ.mp hl;have hq1:q.1∈S.hl.map (·.n):=by
     obtain⟨e,he,e1⟩:=zJ.mp (hk q hq);rw[<-e1];exact zJ.mpr ⟨e,(yG.mp he).1,rfl⟩
    rcases(qct w (hb q hq)).2 y hal with rfl|h
    .exact .inr hq1
    .exact .inr h
def qg4(w:WF S)(hz:S.hl.length<=60):jwg S:=fun n z zs h=>by
 obtain⟨nd,hm⟩:=qct w h;have:=jgi (m:=z::S.hl.map (·.n)) nd fun y hy=>by
  rcases hm y hy with rfl|h
  .exact zN ..
  .exact zH _ h
 rw[zK,zB] at this;omega
def jek(S:Ts)(y:Str):Pt:=match S.at y with
 |some e=>⟨e.x.pa,e.x.kp,e.x.fp⟩
 |none=>⟨0,[],noF⟩
theorem qg7(h:S.at y=some e):jek S y=⟨e.x.pa,e.x.kp,e.x.fp⟩:=by unfold jek;rw[h]
def qgp(S:Ts):Prop:=S.ws.length<=100/\∀e∈S.hl,∀z,e.x.fp z≠none->z∈S.ws
def w42(K:uT)(d:Ad):Sp:=fun vs H Q E=>∃(t:Addr)(S:Ts)(x:V),vs=[.ref t,x]/\qel d H t S/\WF S/\qgp S/\qe4 K H x/\
 (∀e,who S x=some e->Dep S 12 e.n/\∀l zs k' H',qas H H'->H l=none->H' l=some (.dK k')->Ben S 12 e.n zs->AD k' (jdp (zs.map (jek S)))->Q (.ref l) H')/\(who S x=none->∀l,H l=none->E (.ref d.w0e) none (upd H l (.lst [x])))
include T in
theorem w44:jab P w K mg base (My.CX1 P w) 17 d.w0v d.w0n ["self","name"] (w42 K d):=by
 exists okX T.w4i w45
 .right
 obtain⟨t,S,x,rfl,hT,hW,hO,hx,q1,q2⟩:=h;refine⟨_,(qa6 (qak (qa9 ((w83 T).mono ∅) hr rfl T.w9l T.w6u.kp T.w9k .nil qah #[qc2 (caps:=[0]) (cn:=["self"]) (qbh rfl rfl (by rfl) (by rfl) rfl ⟨rfl,trivial⟩ (by rfl) rfl ⟨⟨rfl,rfl,rfl,rfl,_,rfl⟩,trivial⟩ ∅) rfl (qb3 (qb9 (pv 0) T.w01 T.w0a ((w3i T).mono ∅) hr T.w2d .nil qay #[pv 1])) (fun _ _ _ _=>qd9) (fun _ _ _ _=>(qb6 (qb6 (pv 1) rfl|||pv 0) rfl))]))),?_⟩
 walk_at"d"
 dsimp only[cxC];refine qag (σ:=[sr t,some (x)]) rfl ?_;have ct:=T.w01;have ch:=T.w1l;have nh:qav K d.w00 "houses":=T.w02;have nf:qav K d.w03 "promise":=T.w08;obtain⟨dx,ht⟩:=hT.1;have nd:=hT.2.2.2.1;left;refine⟨t,S,x,rfl,hT,qg4 hW hT.2.2.2.2.1,hx,fun e he=>⟨(q1 e he).1,?_⟩,q2⟩;obtain⟨hD,q⟩:=q1 e he;intro lb zs H1 s1 hlb eb hB;left;have hT1:=hT.same s1;obtain⟨⟨_,ht1⟩,hw,hh,_,hz,hE⟩:=hT1;have hbn:=qct hW (Ben.part hB);have hzs:=qg4 hW hz 12 _ _ (Ben.part hB);have hin:∀y∈zs,∃ey,S.at y=some ey/\ey∈S.hl:=fun y hy=>by
  have hy':y∈S.hl.map (·.n):=by
   rcases hbn.2 y hy with rfl|h
   .obtain⟨z,rfl⟩:∃z,x=.str z:=by
     rcases hx with h|⟨_,nz⟩
     .exact h
     .rw[qd4 nz] at he;cases he
    exact zJ.mpr ⟨e,(qco he).1,rfl⟩
   .exact h
  obtain⟨ey,hm,rfl⟩:=zJ.mp hy';exact⟨ey,jc9 nd hm,hm⟩
 intro C s0 H0 fp na hna;refine jb7 zs.length (fun i H'=>H'=upd H1 na (.lst (((zs.take i).map (jek S)).map fun u=> .ref u.a))) rfl ?_ ?_ ?_ ?_
 .rintro i H' hi rfl;exact⟨_,.str zs[i],SqL.of (qad eb hna),by rw[zC,zA hi];rfl⟩
 .rintro H' rfl;exact⟨_,SqL.of (qad eb hna),by rw[zB];exact uH _⟩
 .rintro i H' v H'' hi rfl ⟨rfl,hy⟩;have hv:=hy _ (SqL.of (qad eb hna));rw[zC,zA hi] at hv
  cases hv
  obtain⟨ey,h1,hm⟩:=hin _ (zL hi);obtain⟨⟨dy,hya⟩,_⟩:=hE ey hm;left;refine jk2 (h:=ey.a) (jc6 (.inl hh) hna) (by rw[qdr,h1];rfl) ?_;left;rw[qbn,zM,zA hi]
  congr 2
  simp only[Option.toList_some,zE,zT,gF,qg7 h1]
 rintro H' rfl;rw[zQ];have s2:=qa5 hna (.lst ((zs.map (jek S)).map fun u=>V.ref u.a));have eN:upd H1 na (.lst ((zs.map (jek S)).map fun u=>V.ref u.a)) na=some (.lst ((zs.map (jek S)).map fun u=>V.ref u.a)):=qa1;left;refine⟨na,zs.map (jek S),S.ws,rfl,SqL.of eN,hO.1,fun u hu=>?_,fun l k' H2 s3 hl el hA=>q l zs k' H2 ((s1.trans s2).trans s3) ((s1.trans s2).free hl) el hB hA⟩;obtain⟨y,hy,rfl⟩:=zJ.mp hu;obtain⟨ey,h1,hm⟩:=hin y hy;obtain⟨_,hp,hA,_⟩:=hE ey hm;rw[qg7 h1];exact⟨s2 _ _ hp,hA,hO.2 ey hm⟩
include T in
theorem w9a:jab P w K mg base CX0 1 d.w4h d.w3z ["self","house","ware"] (fun _ _ _ _=>False):=we2
inductive jbo(K:uT)(d:Ad)(vs:List V)(H:Hp)(Q:VK)(E:XK):Prop
 |mk(x:V)(a b:Addr)(ka kb:List (Key×V))(f g:Str->Option Int)(_:vs=[x,.ref a,.ref b])(_:Rd H a (.dK ka))(_:Rd H b (.dK kb))(_:AD ka f)(_:AD kb g)(_:ka.length<64)(_:(∀z n,f z=some n->n<=gN g z))(_:∀H',qas H H'->Q .non H')
include T in
theorem w27:jab P w K mg base (My.CX1 P w) 3 d.w2r d.w28 ["name","promises","cap"] (jbo K d):=by
 exists okX T.w1m w46
 .right
 obtain⟨x,a,b,ka,kb,f,g,rfl,ha,hb,hf,hg,hz,hw,q⟩:=h;exists (qa2 (qae (i:=3) w46.nd rfl (uI rfl) (qa9 ((weu T).mono ∅) hr rfl T.wez T.wd3.kp T.wev .nil qah #[pv 1,pv 2]))
  (qa6 (qb5 (qan qga (pv 3) qcm (qaq _)) (qa6 (jh1 rfl T.wb7 ((w9a T).mono ∅) hr T.w9z rfl T.wct qay #[pv 0,pv 3])) qao))),[some (x),sr a,sr b,none];left;refine⟨a,b,ka,kb,f,g,rfl,ha,hb,hf,hg,hz,fun H' sm _=>?_,fun z H' sm hv _=>?_⟩
 .left;exact q _ sm
 .obtain⟨h1,h2⟩:=hv
  cases e:f z with
  |none=>exact absurd e h1
  |some n=>
   have h3:=hw z n e;have h4:gN f z=n:=by unfold gN;rw[e];rfl
   omega
inductive jbg(K:uT)(d:Ad)(vs:List V)(H:Hp)(Q:VK)(E:XK):Prop
 |mk(t lb m:Addr)(S:Ts)(zs:List Str)(km:List (Key×V))(fm:Str->Option Int)(_:vs=[.ref t,.ref lb,.ref m])(_:qel d H t S)(_:WF S)(_:qgp S)(_:SqL K H lb (zs.map V.str))(_:H m=some (.dK km))(_:AD km fm)(_:S.ws.length<=50)(_:(∀z,fm z≠none->z∈S.ws))(_:(∀y∈zs,∃e,S.at y=some e/\Dep S 12 y/\∀bs,Ben S 12 y bs->∀z n,jb8 (jdp (bs.map (jek S))) fm z=some n->n<=gN e.x.fc z))(_:∀H',qas H H'->Q .non H')
include T in
theorem w6k:jab P w K mg base (My.CX1 P w) 18 d.w2a d.w23 ["self","names","more"] (jbg K d):=by
 exists okX T.w75 w3p
 .right
 obtain⟨t,lb,m,S,zs,km,fm,rfl,hT,hW,hO,hL,hm,hA,hws,hfm,hy,q⟩:=h;exists qa6 (qbc (qf3 rfl rfl) rfl (qb3 (pv 1)) (qab (i:=3) w3p.nd rfl (uI rfl)) (qa6 (qb2 (qbr ((w27 T).mono ∅) hr rfl T.w2n T.w1m.kp T.w2p .nil qay #[pv 3,qa9 ((wd4 T).mono ∅) hr rfl T.we1 T.wbv.kp T.weh .nil qah #[qb9 (pv 0) T.w01 T.w05 ((w44 T).mono ∅) hr T.w4o .nil qay #[pv 3],pv 2],qb6 (qb6 (pv 0) rfl|||pv 3) rfl])))),[sr t,sr lb,sr m,none];have ct:=T.w01;have ch:=T.w1l;have nh:qav K d.w00 "houses":=T.w02;have nf:qav K d.w03 "cap":=T.w0k;left;refine qdg (xs:=zs.map V.str) (fun i σ H'=>qas H H'/\∃w,σ=[sr t,sr lb,sr m,w]) ⟨qas.refl _,_,rfl⟩ ?_ ?_ ?_
 .rintro i σ H' _ ⟨sm,_⟩;exact sm.seq hL
 .rintro i v σ H' hv ⟨sm,w,rfl⟩;rw[zC] at hv;obtain⟨y,hyi,rfl⟩:=uY.mp hv;obtain⟨e,h1,hD,hb⟩:=hy y (zD hyi);obtain⟨dx,ht⟩:=(hT.same sm).1;left;have sup:∀bs:List Str,(∀b∈bs,∃eb,S.at b=some eb/\eb∈S.hl)->∀z,jdp (bs.map (jek S)) z≠none->z∈S.ws:=fun bs hbs=>by
   refine jjd (fun u hu z hz=>?_) noF (fun z hz=>absurd rfl hz);obtain⟨b,hb1,rfl⟩:=zJ.mp hu;obtain⟨eb,h3,h4⟩:=hbs b hb1;rw[qg7 h3] at hz;exact hO.2 eb h4 z hz
  refine⟨t,S,.str y,rfl,hT.same sm,hW,hO,.inl ⟨y,rfl⟩,fun e' he'=>?_,fun hn=>?_⟩
  .have ee:e=e':=uW (h1.symm.trans he');subst ee;have hme:=qco h1;rw[hme.2];refine⟨hD,fun l bs k' H2 s2 hl el hB hA2=>?_⟩;have hbs:∀b∈bs,∃eb,S.at b=some eb/\eb∈S.hl:=fun b hb1=>by
    have hb2:b∈S.hl.map (·.n):=by
     rcases(qct hW (Ben.part hB)).2 b hb1 with rfl|h
     .exact zJ.mpr ⟨e,hme.1,hme.2⟩
     .exact h
    obtain⟨eb,h3,rfl⟩:=zJ.mp hb2;exact⟨eb,jc9 hW.1 h3,h3⟩
   have l1:=hA2.le (sup bs hbs);have l2:=hA.le hfm;left;refine⟨l,m,k',km,_,fm,rfl,.inl el,(sm.trans s2) _ _ hm,hA2,hA,#[],#[],fun lx kx H3 s3 hlx elx hA3=>?_⟩;have sx:=(sm.trans s2).trans s3;obtain⟨⟨dx3,ht3⟩,_,hh3,_,_,hE3⟩:=hT.same sx;obtain⟨⟨dh,ho⟩,_,_,hc,hcA⟩:=hE3 e hme.1;left;refine jk2 (h:=e.a) (.inl hh3) (by rw[qdr,h1];rfl) ?_;left;refine⟨.str y,lx,e.x.ca,kx,e.x.kc,_,e.x.fc,rfl,.inl elx,.inl hc,hA3,hcA,?_,hb bs hB,fun H4 s4=>⟨sx.trans s4,_,rfl⟩⟩;have l3:=hA3.le (ws:=S.ws) (jff (sup bs hbs) hfm);omega
  .rw[show who S (.str y)=some e from h1] at hn;cases hn
 .rintro σ H' ⟨sm,w,rfl⟩;left;exact q _ sm
def wc9(K:uT)(d:Ad):Sp:=fun vs H Q _=>∃i:Int,vs=[.int i]/\Q (.bl true) H
def w7m(K:uT)(d:Ad):Sp:=fun vs H Q _=>∃i a b:Int,vs=[.int i,.int a,.int b]/\a<=i/\i<=b/\Q (.bl true) H
def wba(K:uT)(d:Ad):Sp:=fun vs H Q _=>∃i:Int,vs=[.int i]/\0<=i/\i<=10^30/\Q (.bl true) H
include T in
theorem wbr:jab P w K mg base CX0 1 d.w73 d.w6f ["thing"] (wc9 K d):=by
 exists T.w9o.ok wbw
 .right
 obtain⟨i,rfl,q⟩:=h;exists qa6 (qak (qf2 (qai qca rfl T.w0s vW #[pv 0,qda (v:=.ty "int") rfl T.wej xX rfl]) (qek (jl1 (qai qca rfl T.w0s vW #[pv 0,qda (v:=.ty "bool") rfl T.wfo PyProof.Rows.boot_bool rfl]))))),[some (.int i)];left;exact q
include T in
theorem w4t:jab P w K mg base CX0 2 d.w3d d.w2k ["thing","least","most"] (w7m K d):=by
 exists T.w3k.ok w7r
 .right
 obtain⟨i,a,b,rfl,h1,h2,q⟩:=h;exists qa6 (qak (qf2 (qa9 ((wbr T).mono ∅) hr rfl T.wdj T.w9o.kp T.wdf .nil qah #[pv 0]) (qek (jkc jqq jqq (pv 1) (pv 0) (pv 2))))),[some (.int i),some (.int a),some (.int b)];left;refine⟨i,rfl,?_⟩;left;rw[iC h2];exact q
include T in
theorem wb6:jab P w K mg base CX0 3 d.w68 d.w5o ["thing"] (wba K d):=by
 exists T.w88.ok wam
 .right
 obtain⟨i,rfl,h1,h2,q⟩:=h;exists qa6 (qak (qa9 ((w4t T).mono ∅) hr rfl T.w56 T.w3k.kp T.w51 .nil qah #[pv 0,qa4,qam jl4 qa4 qa4])),[some (.int i)];left;refine⟨i,0,_,rfl,h1,?_,?_⟩
 .exact h2
 left;exact q
theorem qgh(h:z∈ws):inV (.str z) (ws.map V.str)=true:=by
 unfold inV;rw[yN];exact⟨.str z,zJ.mpr ⟨z,h,rfl⟩,by simp[eqV]⟩
theorem jlj{K:uT}{p:Addr}(hS:SqL K H p (ws.map V.str))(h:z∈ws)(q:Q (.bl false) H):rIn K true (.str z) (.ref p) H Q:=by
 refine⟨p,_,rfl,.inl hS,rfl,?_,?_⟩
 .rw[yF];intro x hx;obtain⟨y,_,rfl⟩:=zJ.mp hx;rfl
 .rw[qgh h];exact q
def waa(K:uT)(d:Ad):Sp:=fun vs H Q _=>∃(a w:Addr)(k:List (Key×V))(f:Str->Option Int)(ws:List Str),vs=[.ref a,.ref w]/\H a=some (.dK k)/\AD k f/\k.length<=1000/\H w=some (.lst (ws.map V.str))/\(∀z n,f z=some n->z∈ws/\0<=n/\n<=10^30)/\
 ∀l k' H',qas H H'->H l=none->H' l=some (.dK k')->AD k' (qcu f)->Q (.ref l) H'
include T in
theorem w6j:jab P w K mg base (My.CX1 P w) 4 d.w5p d.w4d ["handed","wares"] (waa K d):=by
 exists okX T.w53 w4s
 .right
 obtain⟨a,w,kvs,f,ws,rfl,ha,hA,hz,hw,hf,q⟩:=h;exists (qa2 (qb5 (qcq (qby (qai qca rfl T.w0s vW #[pv 0,qda (v:=.ty "dict") rfl T.w7e wG rfl]))) (qa6 (qc5 rfl T.w9h rfl T.w9j qay #[qcl])) qao)
  (qa2 (jfc (qbc (qf3 rfl rfl) rfl (qf1 (pv 0)) (qab (i:=2) w4s.nd rfl (uI rfl)) (qa6 (qb5 (PW.pt (jgx (qcq (qby (qai qca rfl T.w0s vW #[pv 2,qda (v:=.ty "str") rfl T.wgj eP rfl]))) (jev (qan jcl (pv 2) (pv 1) (by rfl))))) (qa6 (qc5 rfl T.wd5 rfl T.wcx qay #[qcl])) qao))))
  (qa2 (jfc (qbc (qf3 rfl rfl) rfl (qf1 (pv 0)) (qab (i:=3) w4s.nd rfl (uI rfl)) (qa6 (qb5 (qcq (qby (qa9 ((wb6 T).mono ∅) hr rfl T.wch T.w88.kp T.wc7 .nil qah #[pv 0|||pv 3]))) (qa6 (qc5 rfl T.w9h rfl T.w9j qay #[qcl])) qao))))
  (qa6 (qak (qa9 ((w8b T).mono ∅) hr rfl T.w93 T.w5t.kp T.w8z .nil qah #[pv 0])))))),[sr a,sr w,none,none];left;refine jh7 ha fun o=>?_;have hwa:w≠a:=jgu hw ha (by intro z;cases z);refine jfe (fun i σ H'=>H'=upd H a (.frz o (.dK kvs))/\∃w2 w3,σ=[sr a,sr w,w2,w3]) ⟨rfl,_,_,rfl⟩ ?_ ?_ ?_
 .rintro i σ H' _ ⟨rfl,_⟩;exact qa1
 .rintro i k v σ H' hk ⟨rfl,w2,w3,rfl⟩;obtain⟨z,n,rfl,rfl,hfz,hzi⟩:=hA.at hk;have hw':upd H a (.frz o (.dK kvs)) w=some (.lst (ws.map V.str)):=by rw[qa7 hwa];exact hw
  show jcd _ (.str z) _ _ _;left;refine jlj (SqL.of hw') (hf z n hfz).1 ?_;left;exact⟨rfl,_,_,rfl⟩
 .rintro σ H' ⟨rfl,w2,w3,rfl⟩;refine jfd (jh6 qa1 (qdy ha)) ?_;have s2:=qd5 ha (jid (o:=o) ha);have ha2:upd (upd H a (.frz o (.dK kvs))) a (.dK kvs) a=some (.dK kvs):=qa1;generalize upd (upd H a (.frz o (.dK kvs))) a (.dK kvs)=H2 at*;left;refine jh7 ha2 fun o2=>?_;refine jfe (fun i σ H'=>H'=upd H2 a (.frz o2 (.dK kvs))/\∃w3,σ=[sr a,sr w,w2,w3]) ⟨rfl,_,rfl⟩ ?_ ?_ ?_
  .rintro i σ H' _ ⟨rfl,_⟩;exact qa1
  .rintro i k v σ H' hk ⟨rfl,w3,rfl⟩;obtain⟨z,n,rfl,rfl,hfz,hzi⟩:=hA.at hk;have hRd:Rd (upd H2 a (.frz o2 (.dK kvs))) a (.dK kvs):=.inr ⟨o2,qa1⟩;show jcd _ (.str z) _ _ _;left;refine⟨n,rfl,(hf z n hfz).2.1,(hf z n hfz).2.2,?_⟩;left;exact⟨rfl,_,rfl⟩
  .rintro σ H' ⟨rfl,w3,rfl⟩;refine jfd (jh6 qa1 ?_) ?_
   .exact qdy ha
   have s3:=qd5 ha2 (jid (o:=o2) ha2);have ha3:upd (upd H2 a (.frz o2 (.dK kvs))) a (.dK kvs) a=some (.dK kvs):=qa1;generalize upd (upd H2 a (.frz o2 (.dK kvs))) a (.dK kvs)=H3 at*;left;refine⟨a,kvs,f,rfl,ha3,hA,hz,fun l k' H4 s4 hl el hA4=>?_⟩;left;exact q l k' H4 ((s2.trans s3).trans s4) ((s2.trans s3).free hl) el hA4
def wa4(K:uT)(d:Ad):Sp:=fun vs H Q _=>∃(x dx:Addr)(o:Ho),vs=[.ref x,eV o.el,.ref o.pa,.ref o.ca,.int o.w]/\H x=some (.ins d.w03 dx [])/\∀H',H' x=some (.ins d.w03 dx (fsH o))->SameBut x H H'->Q .non H'
include T in
theorem wa8:jab P w K mg base CX0 1 d.w50 d.w49 ["self","elder","promise","cap","weight"] (wa4 K d):=by
 exists T.wbc.ok waj
 .right
 obtain⟨x,dx,o,rfl,hx,q⟩:=h;exists (qa2 (qd7 (pv 0) (pv 1) rfl)
  (qa2 (qd7 (pv 0) (pv 2) rfl)
  (qa2 (qd7 (pv 0) (pv 3) rfl)
  (qa6 (qd7 (pv 0) (pv 4) rfl))))),[sr x,some (eV o.el),sr o.pa,sr o.ca,some (.int o.w)];have cl:=T.w1l;have n1:qav K d.w03 "elder":=T.w0m;have n2:qav K d.w03 "promise":=T.w08;have n3:qav K d.w03 "cap":=T.w0k;have n4:qav K d.w03 "weight":=T.w16;left;refine qg6 qa1 cl n2 (by show 1<1000;decide) ?_;left;refine qg6 qa1 cl n3 (by show 2<1000;decide) ?_;left;refine qg6 qa1 cl n4 (by show 3<1000;decide) ?_;left;refine q _ (by rw[qa1];rfl) fun b u hb e=>?_;rw[qa7 hb,qa7 hb,qa7 hb,qa7 hb];exact e
inductive jb4(K:uT)(d:Ad)(vs:List V)(H:Hp)(Q:VK)(E:XK):Prop
 |mk(w a b:Addr)(el:Option Str)(ws:List Str)(ka kb:List (Key×V))(f g:Str->Option Int)(wt:Int)(_:vs=[.ref w,eV el,.ref a,.ref b,.int wt])(_:H w=some (.lst (ws.map V.str)))(_:H a=some (.dK ka))(_:AD ka f)(_:ka.length<=1000)(_:H b=some (.dK kb))(_:AD kb g)(_:kb.length<=1000)(_:(∀z n,f z=some n->z∈ws/\0<=n/\n<=10^30))(_:(∀z n,g z=some n->z∈ws/\0<=n/\n<=10^30))(_:1<=wt)(_:wt<=1000)(_:∀h o H',qas H H'->H h=none->H o.pa=none->H o.ca=none->jm3 d H' h o->o.el=el->o.w=wt->(∀z,o.fp z=qcu f z)->(∀z,o.fc z=qcu g z)->Q (.ref h) H')
include T in
theorem w6o:jab P w K mg base (My.CX1 P w) 5 d.w5d d.w4e ["wares","elder","promise","cap","weight"] (jb4 K d):=by
 exists okX T.w59 w4m
 .right
 obtain⟨w,a,b,el,ws,ka,kb,f,g,wt,rfl,hw,ha,hA,hz,hb,hB,hz2,hf,hg,w0,w1,q⟩:=h;exists (qa2 (qae (i:=5) w4m.nd rfl (uI rfl) (qbr ((w6j T).mono ∅) hr rfl T.w7k T.w53.kp T.w7h .nil qay #[pv 2,pv 0]))
  (qa2 (qae (i:=6) w4m.nd rfl (uI rfl) (qbr ((w6j T).mono ∅) hr rfl T.w7k T.w53.kp T.w7h .nil qay #[pv 3,pv 0]))
  (qa2 (qb5 (qcq (qby (qa9 ((w4t T).mono ∅) hr rfl T.w56 T.w3k.kp T.w51 .nil qah #[pv 4,qa4,qec rfl T.w6v T.w0r]))) (qa6 (qc5 rfl T.wda rfl T.wdp qay #[qcl])) qao)
  (qa6 (qak (jdu T.w6p ((wa8 T).mono ∅) hr rfl T.wgh T.wb0 .nil qah #[pv 1,pv 5,pv 6,pv 4])))))),[sr w,some (eV el),sr a,sr b,some (.int wt),none,none];left;refine⟨a,w,ka,f,ws,rfl,ha,hA,hz,hw,hf,fun lp kp H1 s1 hlp ep hAp=>?_⟩;left;refine⟨b,w,kb,g,ws,rfl,s1 _ _ hb,hB,hz2,s1 _ _ hw,hg,fun lc kc H2 s2 hlc ec hAc=>?_⟩;left;refine⟨wt,1,1000,rfl,w0,w1,?_⟩;left;intro x dx hx hdx ne;have ep2:=s2 _ _ ep;refine⟨x,dx,⟨el,lp,kp,qcu f,lc,kc,qcu g,wt⟩,rfl,qa1,fun H3 ex sb=>⟨rfl,?_⟩⟩;have s3:qas H2 H3:=fun c o hc=>sb c o (qa8 hc hx) (by rw[qa7 (qa8 hc hx),qa7 (qa8 hc hdx)];exact hc);left;exact q x ⟨el,lp,kp,qcu f,lc,kc,qcu g,wt⟩ H3 ((s1.trans s2).trans s3) ((s1.trans s2).free hx) hlp (s1.free hlc) ⟨⟨dx,ex⟩,s3 _ _ ep2,hAp,s3 _ _ ec,hAc⟩ rfl rfl (fun _=>rfl) fun _=>rfl
def qaw(s:qas H H')(n:H a=none):qas H (upd H' a o):=fun b u e=>by rw[qa7 (qa8 e n)];exact s b u e
def isL(c:Nat):Bool:=decide (97<=c) && decide (c<=122)
theorem inL:∀c:Nat,c<128->(!(aU (xB "abcdefghijklmnopqrstuvwxyz") ⟨(List.toArray [c])⟩ 0 (xB "abcdefghijklmnopqrstuvwxyz").length 1).isEmpty)=isL c:=by decide+kernel
def qed(x:Str):List Nat:=x.cps.toList
def qdt(x:Str):Bool:=decide (1<=x.length) && decide (x.length<=8) && (qed x).all isL
theorem jje(x:Str):(qed x).length=x.length:=by simp[qed,Str.length]
theorem qgj(h:qdt z=true):1<=z.length/\z.length<=8/\∀c∈qed z,isL c=true:=by
 unfold qdt at h;rw[vO,vO,yF] at h;exact⟨of_decide_eq_true h.1.1,of_decide_eq_true h.1.2,h.2⟩
theorem jtk{c:Nat}(h:isL c=true):c<128:=by
 unfold isL at h;rw[vO] at h;have:=of_decide_eq_true h.2;omega
def wdr(K:uT)(d:Ad):Sp:=fun vs H Q _=>∃z,vs=[.str z]/\qdt z=true/\∀H',qas H H'->Q (.bl true) H'
include T in
theorem w9i:jab P w K mg base CX0 1 d.w8u d.w6y ["thing"] (wdr K d):=by
 exists T.w81.ok wd9
 .right
 obtain⟨z,rfl,hg,q⟩:=h;obtain⟨h1,h8,hL⟩:=qgj hg;have lz:=jje z;refine⟨_,(qa2 (qb5 (qcq (qby (qai qca rfl T.w0s vW #[pv 0,qda (v:=.ty "str") rfl T.wgj eP rfl]))) (qa6 (qak qeo)) qao)
  (qa2 (qb5 (PW.pt (jgx (qan jf8 (qai jc0 rfl T.w29 vF #[pv 0]) qa4 (qaq _)) (jev (qan qgb (qai jc0 rfl T.w29 vF #[pv 0]) (qec rfl T.w96 T.w1j) (qaq _))))) (qa6 (qak qeo)) qao)
  (qa6 (qak (qai (jcz rfl) rfl T.wgs PyProof.Rows.boot_all #[qc2 (caps:=[]) (cn:=[]) (qbh rfl rfl (by rfl) (by rfl) rfl trivial (by rfl) rfl trivial ∅) rfl (jrs (pv 0)) (fun _ _ _ _=>qd9) (fun _ _ _ _=>(qbs jru (pv 0) (qec rfl T.we8 T.w57) (by rfl)))]))))),?_⟩
 walk_at"d"
 try dsimp only[cxC]
 refine qag (σ:=[some (.str z)]) rfl ?_;left;intro C s0 H0 fp acc hacc;refine jb7 z.length (fun i H'=>H'=upd H acc (.lst (((qed z).take i).map fun c=>V.bl (isL c)))) (by simp) (fun i H' hi _=>hi) (fun H' _=>rfl) ?_ ?_
 .rintro i H' v H'' hi rfl ⟨rfl,c,hc,rfl⟩;have hc':(qed z)[i]?=some c:=by unfold qed;rw[xW];exact hc
  have c128:=jtk (hL c (zD hc'));left;rw[inL c c128,qbn]
  congr 2
  rw[zM,hc',zE];rfl
 .rintro H' rfl;left;have e1:((qed z).take z.length).map (fun c=>V.bl (isL c))=((qed z).map isL).map V.bl:=by
   rw[<-lz,zQ,yT];rfl
  rw[e1];refine jrx (bs:=(qed z).map isL) (SqL.of qa1) ?_;have e2:((qed z).map isL).all id=true:=by
   rw[gP,yF];exact hL
  rw[e2];left;exact q _ (qa5 hacc _)
def wal(K:uT)(d:Ad):Sp:=fun vs H Q _=>∃z,vs=[.str z]/\qdt z=true/\∀H',qas H H'->Q .non H'
include T in
theorem w6h:jab P w K mg base (My.CX1 P w) 2 d.w4y d.w4a ["thing"] (wal K d):=by
 exists okX T.w58 w9t
 .right
 obtain⟨z,rfl,hg,q⟩:=h;exists qa6 (qb5 (qcq (qby (qa9 ((w9i T).mono ∅) hr rfl T.wb2 T.w81.kp T.was .nil qah #[pv 0]))) (qa6 (qc5 rfl T.wex rfl T.wf4 qay #[qcl])) qao),[some (.str z)];left;refine⟨z,rfl,hg,fun H' sm=>?_⟩;left;exact q _ sm
structure jpg(ws:List Str):Prop where
 lo:1<=ws.length
 hi:ws.length<=6
 ok:∀z∈ws,qdt z=true
 nd:ws.Nodup
def wax(K:uT)(d:Ad):Sp:=fun vs H Q _=>∃(a:Addr)(ws:List Str),vs=[.ref a]/\H a=some (.lst (ws.map V.str))/\jpg ws/\∀H',qas H H'->Q (.bl true) H'
include T in
theorem war:jab P w K mg base CX0 2 d.w6b d.w5n ["thing"] (wax K d):=by
 exists T.w8o.ok waw
 .right
 obtain⟨a,ws,rfl,ha,g,q⟩:=h;have g1:=g.lo;have g2:=g.hi;have hl:(ws.map V.str).length=ws.length:=zB _;refine⟨_,(qa2 (qb5 (PW.pt (jgx (qcq (qby (qai qca rfl T.w0s vW #[pv 0,qda (v:=.ty "list") rfl T.w8w wP rfl]))) (jgx (qan jf8 (qai qat rfl T.w29 vF #[pv 0]) qa4 (qaq _)) (jev (qan qgb (qai qat rfl T.w29 vF #[pv 0]) (qec rfl T.wbg T.w2f) (qaq _)))))) (qa6 (qak qeo)) qao)
  (qa6 (qak (qf2 (qai (jcz rfl) rfl T.wgs PyProof.Rows.boot_all #[qc2 (caps:=[]) (cn:=[]) (qbh rfl rfl (by rfl) (by rfl) rfl trivial (by rfl) rfl trivial ∅) rfl (qb3 (pv 0)) (fun _ _ _ _=>qd9) (fun _ _ _ _=>(qa9 ((w9i T).mono ∅) hr rfl T.wb2 T.w81.kp T.was .nil qah #[pv 0]))]) (qek (qbs qcc (qai jio rfl T.w29 vF #[qaz jin rfl T.wh3 PyProof.Rows.boot_set #[pv 0]]) (qai qat rfl T.w29 vF #[pv 0]) (qaq _))))))),?_⟩
 walk_at"d"
 try dsimp only[cxC]
 refine qag (σ:=[sr a]) rfl ?_;left;intro C s0 H0 fp acc hacc;refine jb7 ws.length (fun i H'=>qas H H'/\H' acc=some (.lst ((bE i true).map V.bl))) ⟨qa5 hacc _,qa1⟩ ?_ ?_ ?_ ?_
 .rintro i H' hi ⟨sm,_⟩;exact⟨_,.str ws[i],SqL.of (sm _ _ ha),by rw[zC,zA hi];rfl⟩
 .rintro H' ⟨sm,_⟩;exact⟨_,SqL.of (sm _ _ ha),by rw[hl];exact uH _⟩
 .rintro i H' v H'' hi ⟨sm,ea⟩ ⟨rfl,hy⟩;have hv:=hy _ (SqL.of (sm _ _ ha));rw[zC,zA hi] at hv
  cases hv
  left;refine⟨ws[i],rfl,g.ok _ (zL hi),fun H2 s2=>?_⟩;refine⟨_,s2 _ _ ea,by rw[zB,List.length_replicate];show _<16777216;omega,qaw (sm.trans s2) hacc,?_⟩;rw[qa1,List.replicate_succ',zE];rfl
 rintro H' ⟨sm,ea⟩;left;refine jrx (bs:=bE ws.length true) (SqL.of ea) ?_;have e2:(bE ws.length true).all id=true:=by simp
 rw[e2];left;refine jsr (zs:=ws) (SqL.of (sm _ _ ha)) g.nd #[] fun c hc=>?_;left;refine jou qa1 ?_;left;refine jmh (SqL.of (qad (sm _ _ ha) hc)) ?_;left;rw[hl,iC rfl];exact q _ (sm.trans (qa5 hc _))
def Fin(ws:List Str)(f:Str->Option Int):Prop:=∀z n,f z=some n->z∈ws/\0<=n/\n<=10^30
theorem jda{n:Int}(h:qcu f y=some n):f y=some n/\0<n:=by
 unfold qcu at h
 cases e:f y with
 |none=>rw[e] at h;cases h
 |some m=>
  rw[e] at h;by_cases c:0<m
  .have h':some m=some n:=by simpa[c] using h
   cases h'
   exact⟨rfl,c⟩
  .exact absurd h (by simp[c])
theorem qgk(hf:Fin ws f)(y:Str):gN (qcu f) y=gN f y:=by
 unfold gN qcu
 cases e:f y with
 |none=>rfl
 |some m=>
  have:=(hf y m e).2.1;by_cases c:0<m
  .simp[c]
  .have z:m=0:=by omega
   subst z;rfl
def jm6(hg:Fin ws g)(h:∀y,gN f y<=gN g y):∀z n,qcu f z=some n->n<=gN (qcu g) z:=fun z n e=>by
 have e1:=(jda e).1;have:=h z;rw[qgk hg];unfold gN at this⊢;rw[e1] at this;exact this
def jft(hf:Fin ws f):∀z,qcu f z≠none->z∈ws:=fun z h=>by
 cases e:qcu f z with
 |none=>exact absurd e h
 |some n=>exact(hf z n (jda e).1).1
inductive jdb(K:uT)(d:Ad)(vs:List V)(H:Hp)(Q:VK)(E:XK):Prop
 |mk(x dx w a b:Addr)(z:Str)(ws:List Str)(ka kb:List (Key×V))(f g:Str->Option Int)(wt:Int)(_:vs=[.ref x,.ref w,.str z,.ref a,.ref b,.int wt])(_:H x=some (.ins d.w00 dx []))(_:H w=some (.lst (ws.map V.str)))(_:jpg ws)(_:qdt z=true)(_:H a=some (.dK ka))(_:AD ka f)(_:ka.length<=1000)(_:H b=some (.dK kb))(_:AD kb g)(_:kb.length<=1000)(_:Fin ws f)(_:Fin ws g)(_:1<=wt)(_:wt<=1000)(_:(∀y,gN f y<=gN g y))(_:∀(S:Ts)(e:He) H',SameBut x H H'->qel d H' x S->H S.hs=none->H S.sw=none->H e.a=none->H e.x.pa=none->H e.x.ca=none->S.hl=[e]->e.n=z->e.x.el=none->e.x.w=wt->(∀y,e.x.fp y=qcu f y)->(∀y,e.x.fc y=qcu g y)->S.ws.Perm ws->vH S.ws=true->Q .non H')
include T in
theorem wb3:jab P w K mg base (My.CX1 P w) 6 d.w6e d.w3q ["self","wares","name","promise","cap","weight"] (jdb K d):=by
 exists jxu T.wcc w7b
 .right
 obtain⟨x,dx,w,a,b,z,ws,ka,kb,f,g,wt,rfl,hx,hw,gt,gz,ha,hA,za,hb,hB,zb,ff,fg,w0,w1,le,q⟩:=h;have g2:=gt.hi;exists (qa2 (qb5 (qcq (qby (qa9 ((war T).mono ∅) hr rfl T.wce T.w8o.kp T.wbu .nil qah #[pv 1]))) (qa6 (qc5 rfl T.wd5 rfl T.wcx qay #[qcl])) qao)
  (qa2 (qb2 (qbr ((w6h T).mono ∅) hr rfl T.w7d T.w58.kp T.w79 .nil qay #[pv 2]))
  (qa2 (qae (i:=6) w7b.nd rfl (uI rfl) (qbr ((w6o T).mono ∅) hr rfl T.w77 T.w59.kp T.w7j .nil qay #[pv 1,qcm,pv 3,pv 4,pv 5]))
  (qa2 (qb2 (qbr ((w27 T).mono ∅) hr rfl T.w2n T.w1m.kp T.w2p .nil qay #[pv 2,qb6 (pv 6) rfl,qb6 (pv 6) rfl]))
  (qa2 (qd7 (pv 0) (qai qee rfl T.w5s xE #[pv 1]) rfl)
  (qa6 (qd7 (pv 0) (jhy (je9 (pv 2) (pv 6) jhx) rfl rfl (by simp) ∅) rfl))))))),[sr x,sr w,some (.str z),sr a,sr b,some (.int wt),none];have ct:=T.w01;have ch:=T.w1l;have n1:qav K d.w00 "sorted_wares":=T.w06;have n2:qav K d.w00 "houses":=T.w02;have n3:qav K d.w03 "promise":=T.w08;have n4:qav K d.w03 "cap":=T.w0k;left;refine⟨w,ws,rfl,hw,gt,fun H1 s1=>?_⟩;left;refine⟨z,rfl,gz,fun H2 s2=>?_⟩;have t2:=s1.trans s2;left;refine⟨w,a,b,none,ws,ka,kb,f,g,wt,rfl,t2 _ _ hw,t2 _ _ ha,hA,za,t2 _ _ hb,hB,zb,ff,fg,w0,w1,fun h o H3 s3 nh np nc hO eel ew efp efc=>?_⟩;obtain⟨⟨dh,ho⟩,hp,hpA,hc,hcA⟩:=id hO;have efp':o.fp=qcu f:=funext efp;have efc':o.fc=qcu g:=funext efc;have lk:o.kp.length<=ws.length:=hpA.le (by rw[efp'];exact jft ff);left;refine⟨.str z,o.pa,o.ca,o.kp,o.kc,o.fp,o.fc,rfl,.inl hp,.inl hc,hpA,hcA,#[],by rw[efp',efc'];exact jm6 fg le,fun H4 s4=>?_⟩;have t4:=(t2.trans s3).trans s4;have hx4:=t4 _ _ hx;have hO4:=hO.same s4;left;refine jd4 (SqL.of (t4 _ _ hw)) #[] fun l ss hl hpm hs=>?_;left;rename_i p hpp;rw[qbn];refine qg6 (qad qa1 hpp) ct n2 (by show 1<1000;decide) ?_;left;have npx:p≠x:=fun e=>by subst e;rw[qa1] at hpp;cases hpp
 have np4':upd H4 l (.lst (ss.map V.str)) p=none:=by rw[qa7 npx] at hpp;exact hpp
 have nlx:x≠l:=qa8 hx4 hl;have npl:p≠l:=fun e=>by subst e;rw[qa1] at np4';cases np4'
 have np4:H4 p=none:=by rw[qa7 npl] at np4';exact np4'
 have sF:∀b u,b≠x->H4 b=some u->upd (upd (upd (upd H4 l (.lst (ss.map V.str))) x (.ins d.w00 dx (qez "sorted_wares" (V.ref l) []))) p (.dK [(uV z,V.ref h)])) x (.ins d.w00 dx (qez "houses" (V.ref p) (qez "sorted_wares" (V.ref l) []))) b=some u:=fun b u hb e=>by
  rw[qa7 hb,qa7 (qa8 e np4),qa7 hb,qa7 (qa8 e hl)];exact e
 obtain⟨⟨dh4,ho4⟩,hp4,hpA4,hc4,hcA4⟩:=hO4;refine q ⟨l,ss,p,[⟨z,h,o⟩]⟩ ⟨z,h,o⟩ _ (fun b u hb e=>sF b u hb (t4 _ _ e)) ⟨⟨dx,by rw[qa1];rfl⟩,?_,?_,zV.mpr ⟨by simp,yK⟩,by show 1<=60;decide,fun e he=>?_⟩ (t4.free np4) (t4.free hl) (t2.free nh) (t2.free np) (t2.free nc) rfl rfl eel ew efp efc hpm hs
 .show upd _ _ _ l=_;rw[qa7 nlx.symm,qa7 npl.symm,qa7 nlx.symm,qa1]
 .show upd _ _ _ p=_;rw[qa7 npx,qa1];rfl
 .have e':e=⟨z,h,o⟩:=by simpa using he
  subst e';have n1:∀{b:Addr} {u:HO},H4 b=some u->u≠ .ins d.w00 dx []->b≠x:=fun e1 e2 e3=>by
   subst e3;rw[hx4] at e1;exact e2 (uW e1).symm
  refine⟨⟨dh4,sF _ _ (n1 ho4 fun e=>?_) ho4⟩,sF _ _ (n1 hp4 fun e=>by cases e) hp4,hpA4,sF _ _ (n1 hc4 fun e=>by cases e) hc4,hcA4⟩;have:=congrArg (fun u:HO=>match u with| .ins _ _ fs=>fs.length|_=>0) e;simp[fsH] at this
def upL(el:Nat->Nat):Nat->Nat->List Nat
 |0,k=> [k]
 |f+1,k=>k ::(if k=0 then[] else upL el f (el k))
def qac(el:Nat->Nat)(k:Nat):List Nat:=upL el k k
def Low(el:Nat->Nat)(n:Nat):Prop:=∀k,0<k->k<n->el k<k
theorem jtl(lo:Low el n):∀(f k:Nat),k<n->k<=f->upL el f k=qac el k:=by
 intro f
 induction f using xU with
 |ind f ih=>
  intro k kn kf
  cases f with
  |zero=>have:k=0:=#[];subst this;rfl
  |succ f=>
   cases k with
   |zero=>rfl
   |succ k=>
    have l:=lo (k+1) #[] kn;show(k+1) ::(if k+1=0 then[] else upL el f (el (k+1)))=(k+1) ::(if k+1=0 then[] else upL el k (el (k+1)));rw[iA #[],iA #[],ih f #[] (el (k+1)) #[] #[]];rcases bH k f with h|h
    .rw[ih k #[] (el (k+1)) #[] #[]]
    .have:f=k:=by omega
     subst this;rw[ih f #[] (el (f+1)) #[] #[]]
def qdj(el:Nat->Nat):qac el 0=[0]:=rfl
theorem qc6{k:Nat}(lo:Low el n)(k0:0<k)(kn:k<n):qac el k=k::qac el (el k):=by
 cases k with
 |zero=>omega
 |succ k=>
  have l:=lo (k+1) k0 kn;show(k+1) ::(if k+1=0 then[] else upL el k (el (k+1)))=_;rw[iA #[],jtl lo k _ #[] #[]]
theorem qci(lo:Low el n):∀k,k<n->(qac el k).length<=k+1:=by
 intro k
 induction k using xU with
 |ind k ih=>
  intro kn
  cases k with
  |zero=>exact uH _
  |succ k=>
   have l:=lo (k+1) #[] kn;rw[qc6 lo #[] kn,zK];have:=ih (el (k+1)) l #[];omega
theorem qcr{k:Nat}(lo:Low el n)(kn:k<n):k∈qac el k:=by
 cases k with
 |zero=>exact zN ..
 |succ k=>rw[qc6 lo #[] kn];exact zN ..
theorem qdk(lo:Low el n):∀k,k<n->∀j∈qac el k,j<=k:=by
 intro k
 induction k using xU with
 |ind k ih=>
  intro kn j hj
  cases k with
  |zero=>rw[qdj] at hj;simp at hj;omega
  |succ k=>
   have l:=lo (k+1) #[] kn;rw[qc6 lo #[] kn] at hj;rcases zO.mp hj with h|h
   .omega
   .have:=ih (el (k+1)) l #[] j h;omega
theorem jlk(lo:Low el n){j:Nat}(j0:0<j):∀k,k<n->j∈qac el k->el j∈qac el k:=by
 intro k
 induction k using xU with
 |ind k ih=>
  intro kn hj
  cases k with
  |zero=>rw[qdj] at hj;simp at hj;omega
  |succ k=>
   have l:=lo (k+1) #[] kn;rw[qc6 lo #[] kn] at hj⊢;rcases zO.mp hj with h|h
   .subst h;exact zH _ (qcr lo #[])
   .exact zH _ (ih (el (k+1)) l #[] h)
structure Pl(S:Ts)(nm:Nat->Str)(el:Nat->Nat)(n:Nat):Prop where
 len:S.hl.length=n
 nam:∀k e,S.hl[k]?=some e->e.n=nm k/\e.x.el=if k=0 then none else some (nm (el k))
 inj:∀i j,i<n->j<n->nm i=nm j->i=j
 low:Low el n
section
variable{S:Ts}{nm:Nat->Str}{el:Nat->Nat}{n:Nat}
theorem Pl.get(p:Pl S nm el n){k:Nat}(kn:k<n):∃e,S.hl[k]?=some e/\e.n=nm k/\e.x.el=if k=0 then none else some (nm (el k)):=by
 have h:k<S.hl.length:=by rw[p.len];exact kn
 have e:=zA h;exact⟨_,e,p.nam k _ e⟩
theorem Pl.ix(p:Pl S nm el n){e:He}(h:e∈S.hl):∃k,k<n/\S.hl[k]?=some e/\e.n=nm k/\e.x.el=if k=0 then none else some (nm (el k)):=by
 obtain⟨k,hk,q⟩:=zR.mp h;have e1:S.hl[k]?=some e:=by rw[zA hk,q]
 exact⟨k,by rw[<-p.len];exact hk,e1,p.nam k e e1⟩
theorem Pl.nodup(p:Pl S nm el n):(S.hl.map (·.n)).Nodup:=by
 show fM _ _;rw[bI,zW];intro i j hi hj lt q;have h1:=(p.nam i _ (zA hi)).1;have h2:=(p.nam j _ (zA hj)).1;have:=p.inj i j (by rw[<-p.len];exact hi) (by rw[<-p.len];exact hj) (by rw[<-h1,<-h2];exact q);omega
theorem Pl.at(p:Pl S nm el n){k:Nat}(kn:k<n):∃e,S.at (nm k)=some e/\S.hl[k]?=some e/\e.x.el=if k=0 then none else some (nm (el k)):=by
 obtain⟨e,h1,h2,h3⟩:=p.get kn;have:=jc9 p.nodup (zD h1);rw[h2] at this;exact⟨e,this,h1,h3⟩
theorem Pl.line(p:Pl S nm el n):∀k,k<n->jaw S (nm k) ((qac el k).map nm):=by
 intro k
 induction k using xU with
 |ind k ih=>
  intro kn;obtain⟨e,h1,_,h3⟩:=p.at kn
  cases k with
  |zero=>exact .top h1 h3
  |succ k=>
   have l:=p.low (k+1) #[] kn;rw[iA #[]] at h3;rw[qc6 p.low #[] kn,zT];exact .up h1 h3 (ih _ l #[])
def Pl.wf(p:Pl S nm el n):WF S:=⟨p.nodup,fun e he=>by
 obtain⟨k,kn,_,h,_⟩:=p.ix he;rw[h];exact⟨_,p.line k kn⟩⟩
theorem Pl.kid(p:Pl S nm el n){j:Nat}{y:Str}(jn:j<n)(h:y∈qbe S (nm j)):∃k,0<k/\k<n/\el k=j/\y=nm k:=by
 obtain⟨e,he,rfl⟩:=zJ.mp h;obtain⟨hm,hd⟩:=yG.mp he;obtain⟨k,kn,_,h1,h2⟩:=p.ix hm;have hd':e.x.el=some (nm j):=of_decide_eq_true hd;rw[h2] at hd';by_cases z:k=0
 .rw[iB z] at hd';cases hd'
 .rw[iA z] at hd';have l:=p.low k #[] kn;exact⟨k,#[],kn,p.inj _ _ #[] jn (uW hd'),h1⟩
theorem Pl.dep(p:Pl S nm el n):∀m j,j<n->n<=j+m+1->Dep S m (nm j):=by
 intro m
 induction m with
 |zero=>
  intro j jn hn;show qbe S (nm j)=[]
  cases e:qbe S (nm j) with
  |nil=>rfl
  |cons y r=>
   obtain⟨k,k0,kn,ke,_⟩:=p.kid jn (y:=y) (by rw[e];exact zN ..);have:=p.low k k0 kn;omega
 |succ m ih=>
  intro j jn hn y hy;obtain⟨k,k0,kn,ke,rfl⟩:=p.kid jn hy;have:=p.low k k0 kn;exact ih k kn #[]
theorem Pl.ben(p:Pl S nm el n):∀(m j:Nat)(zs:List Str),j<n->jpe S m (nm j) zs->∀y∈zs,∃k,k<n/\y=nm k/\j∈qac el k:=by
 intro m
 induction m with
 |zero=>
  rintro j _ jn ⟨parts,rest,hp,rfl,hb⟩ y hy;rcases zO.mp hy with h|h
  .exact⟨j,jn,h,qcr p.low jn⟩
  .obtain⟨l,hl,_⟩:=yM.mp h;obtain⟨q,hq,_⟩:=zJ.mp hl;exact(hb q hq).elim
 |succ m ih=>
  rintro j _ jn ⟨parts,rest,hp,rfl,hb⟩ y hy;rcases zO.mp hy with h|h
  .exact⟨j,jn,h,qcr p.low jn⟩
  .obtain⟨l,hl,hyl⟩:=yM.mp h;obtain⟨q,hq,rfl⟩:=zJ.mp hl;obtain⟨k,k0,kn,ke,e⟩:=p.kid jn (hp.mem_iff.mp (yE _ (zJ.mpr ⟨q,hq,rfl⟩)));have hB:=hb q hq;rw[e] at hB;obtain⟨i,i1,i2,i3⟩:=ih k q.2 kn hB y hyl;refine⟨i,i1,i2,?_⟩;have:=jlk p.low k0 i i1 i3;rw[ke] at this;exact this
end
def qdp:Nat->(Nat->Int)->Int
 |0,_=>0
 |n+1,f=>qdp n f+f n
theorem jjf{f g:Nat->Int}:∀{n:Nat},(∀k,k<n->f k<=g k)->qdp n f<=qdp n g
 |0,_=>wB _
 |n+1,h=>by
  have h1:=jjf (n:=n) fun k hk=>h k #[];have h2:=h n #[];show qdp n f+f n<=qdp n g+g n;omega
theorem jjg{f:Nat->Int}:∀{n:Nat},(∀k,k<n->0<=f k)->0<=qdp n f
 |0,_=>wB _
 |n+1,h=>by
  have h1:=jjg (n:=n) fun k hk=>h k #[];have h2:=h n #[];show 0<=qdp n f+f n;omega
theorem jjh{f:Nat->Int}{m:Nat}(hm:n<=m)(h:∀k,k<m->0<=f k):qdp n f<=qdp m f:=by
 induction m with
 |zero=>have:n=0:=#[];subst this;exact wB _
 |succ m ih=>
  rcases bH n (m+1) with c|c
  .have h1:=ih #[] fun k hk=>h k #[];have h2:=h m #[];show _<=qdp m f+f m;omega
  .have:n=m+1:=by omega
   subst this;exact wB _
def jll(f:Nat->Int):List Nat->Int
 | []=>0
 |k::r=>f k+jll f r
theorem jji{f:Nat->Int}{a b:List Nat}(h:a.Perm b):jll f a=jll f b:=by
 induction h with
 |nil=>rfl
 |cons x _ ih=>show _+_=_+_;rw[ih]
 |swap x y l=>show f y+(f x+jll f l)=f x+(f y+jll f l);omega
 |trans _ _ h1 h2=>rw[h1,h2]
theorem qg1{f:Nat->Int}:∀{n:Nat} {ks:List Nat},ks.Nodup->(∀k∈ks,k<n)->(∀k,k<n->0<=f k)->jll f ks<=qdp n f
 |0,ks,_,h,_=>by
  cases ks with
  |nil=>exact wB _
  |cons k r=>exact absurd (h k (zN ..)) #[]
 |n+1,ks,nd,h,p=>by
  show _<=qdp n f+f n;by_cases m:n∈ks
  .rw[jji (List.perm_cons_erase m)];have nd2:=nd.erase n;have:=qg1 (n:=n) nd2 (fun k hk=>by
    have h1:=h k (List.mem_of_mem_erase hk);have:k≠n:=fun z=>by subst z;exact(List.Nodup.not_mem_erase nd) hk
    omega) fun k hk=>p k #[]
   show f n+_<=_;omega
  .have:=qg1 (n:=n) nd (fun k hk=>by
    have h1:=h k hk;have:k≠n:=fun z=>m (z▸hk);omega) fun k hk=>p k #[]
   have:=p n #[];omega
theorem jm7(f g:Str->Option Int)(z:Str):gN (jb8 f g) z=gN f z+gN g z:=by
 unfold gN jb8
 cases e:g z with
 |none=>simp
 |some b=>rfl
theorem jm8(z:Str):∀(ts:List Pt)(f0:Str->Option Int),gN (ts.foldl (fun f t=>jb8 f t.f) f0) z=gN f0 z+(ts.map fun t=>gN t.f z).sum
 | [],f0=>by simp
 |t::ts,f0=>by
  rw[yR,jm8 z ts,jm7,zT,List.sum_cons];omega
section
variable{S:Ts}{nm:Nat->Str}{el:Nat->Nat}{n:Nat}
theorem Pl.sums(p:Pl S nm el n){v:Str}{pr:Nat->Int}(hp:∀k e,S.hl[k]?=some e->gN e.x.fp v=pr k)(h0:∀k,k<n->0<=pr k){m j:Nat}{bs:List Str}(jn:j<n)(hb:Ben S m (nm j) bs):
  gN (jdp (bs.map (jek S))) v<=qdp n fun k=>if j∈qac el k then pr k else 0:=by
 have nd:=(qct p.wf hb.part).1;have hk:=p.ben m j bs jn hb.part;have key:∀bs:List Str,bs.Nodup->(∀y∈bs,∃k,k<n/\y=nm k/\j∈qac el k)->∃ks:List Nat,ks.Nodup/\(∀k∈ks,k<n/\nm k∈bs)/\((bs.map (jek S)).map fun t=>gN t.f v).sum=jll (fun k=>if j∈qac el k then pr k else 0) ks:=by
  intro bs
  induction bs with
  |nil=>intro _ _;exact⟨[],yK,fun k hk=>absurd hk (by simp),rfl⟩
  |cons y r ih=>
   intro nd h;rw[zV] at nd;obtain⟨ks,k1,k2,k3⟩:=ih nd.2 fun y' hy=>h y' (zH _ hy);obtain⟨k,kn,rfl,kj⟩:=h y (zN ..);obtain⟨e,e1,e2,_⟩:=p.at kn;refine⟨k::ks,zV.mpr ⟨fun m=>nd.1 (k2 k m).2,k1⟩,fun k' hk'=>?_,?_⟩
   .rcases zO.mp hk' with rfl|hk'
    .exact⟨kn,zN ..⟩
    .exact⟨(k2 k' hk').1,zH _ (k2 k' hk').2⟩
   .rw[zT,zT,List.sum_cons,k3,qg7 e1];show gN e.x.fp v+_=(if j∈qac el k then pr k else 0)+_;rw[hp k e e2,iB kj]
 obtain⟨ks,k1,k2,k3⟩:=key bs nd hk;unfold jdp;rw[jm8,k3];have z:gN noF v=0:=rfl;rw[z,dZ];exact qg1 k1 (fun k hk=>(k2 k hk).1) fun k hk=>by
  split
  .exact h0 k hk
  .exact wB _
end
theorem jwh{k:List (Key×V)}(hk:AD k f){ks:List (Str×Addr)}{z:Str}{h:Addr}(hl:qde ks z=some h):HO.dK k≠ .dK (oK ks):=fun e=>by
 have e2:k=oK ks:=by injection e
 subst e2;have g1:=hk.get z;rw[qg0,hl] at g1
 cases hf:f z with
 |none=>rw[hf] at g1;cases g1
 |some n=>rw[hf] at g1;cases g1
def wa5(K:uT)(d:Ad):Sp:=fun vs H Q E=>∃(t a b:Addr)(S:Ts)(z:Str)(xe:V)(ka kb:List (Key×V))(f g:Str->Option Int)(wt:Int),vs=[.ref t,.str z,xe,.ref a,.ref b,.int wt]/\qel d H t S/\qdt z=true/\S.at z=none/\qe4 K H xe/\
 (who S xe=none->∀H',qas H H'->E (.ref d.w0e) none H')/\
 ∀e,who S xe=some e->WF S/\qgp S/\S.ws.length<=50/\H a=some (.dK ka)/\AD ka f/\ka.length<=1000/\H b=some (.dK kb)/\AD kb g/\kb.length<=1000/\Fin S.ws f/\Fin S.ws g/\1<=wt/\wt<=1000/\S.hl.length<40/\
  (∃zs,jaw S e.n zs/\zs.length<12/\∀y∈zs,∃e',S.at y=some e'/\Dep S 12 y/\∀bs,Ben S 12 y bs->∀v n,jb8 (jdp (bs.map (jek S))) (qcu f) v=some n->n<=gN e'.x.fc v)/\(∀y,gN f y<=gN g y)/\
  ∀(e2:He) H',SameBut S.hs H H'->H e2.a=none->H e2.x.pa=none->H e2.x.ca=none->qel d H' t {S with hl:=S.hl++[e2]}->e2.n=z->e2.x.el=some e.n->e2.x.w=wt->(∀y,e2.x.fp y=qcu f y)->(∀y,e2.x.fc y=qcu g y)->Q .non H'
include T in
theorem wac:jab P w K mg base (My.CX1 P w) 19 d.w5c d.w2u ["self","name","elder","promise","cap","weight"] (wa5 K d):=by
 exists jxu T.wan w4p
 .right
 obtain⟨t,a,b,S,z,xe,ka,kb,f,g,wt,rfl,hT,gz,nz,hx,q2,q1⟩:=h;exists (qa2 (qb2 (qbr ((w6h T).mono ∅) hr rfl T.w7d T.w58.kp T.w79 .nil qay #[pv 1]))
  (qa2 (qb5 (qby (qeb (pv 0) T.w01 T.w26 ((w8j T).mono ∅) hr T.w9m .nil qah #[pv 1])) (qa6 (qc5 rfl T.wfx rfl T.wg8 qay #[qcl])) qao)
  (qa2 (qb2 (qb9 (pv 0) T.w01 T.w04 ((w1o T).mono ∅) hr T.w1w .nil qay #[pv 2]))
  (qa2 (qae (i:=6) w4p.nd rfl (uI rfl) (qbr ((w6o T).mono ∅) hr rfl T.w77 T.w59.kp T.w7j .nil qay #[qb6 (pv 0) rfl,pv 2,pv 3,pv 4,pv 5]))
  (qa2 (qb5 (qan jqr (qai jgj rfl T.w29 vF #[qb6 (pv 0) rfl]) (qec rfl T.w9v T.w1u) (qaq _)) (qa6 (qc5 rfl T.wen rfl T.wer qay #[qcl])) qao)
  (qa2 (qae (i:=7) w4p.nd rfl (uI rfl) (qb9 (pv 0) T.w01 T.w19 ((w5e T).mono ∅) hr T.w5y .nil qay #[pv 2]))
  (qa2 (qb5 (qan jqr (qai qat rfl T.w29 vF #[pv 7]) (qec rfl T.w94 T.w1g) (qaq _)) (qa6 (qc5 rfl T.wem rfl T.wep qay #[qcl])) qao)
  (qa2 (qb2 (qbr ((w27 T).mono ∅) hr rfl T.w2n T.w1m.kp T.w2p .nil qay #[pv 1,qb6 (pv 6) rfl,qb6 (pv 6) rfl]))
  (qa2 (qb2 (qb9 (pv 0) T.w01 T.w0l ((w6k T).mono ∅) hr T.w74 .nil qay #[pv 7,qb6 (pv 6) rfl]))
  (qa6 (qcv (qc3 hr) (qb6 (pv 0) rfl) (pv 1) (pv 6) rfl))))))))))),[sr t,some (.str z),some (xe),sr a,sr b,some (.int wt),none,none];have ct:=T.w01;have ch:=T.w1l;have n1:qav K d.w00 "sorted_wares":=T.w06;have n2:qav K d.w00 "houses":=T.w02;have n3:qav K d.w03 "promise":=T.w08;have n4:qav K d.w03 "cap":=T.w0k;left;refine⟨z,rfl,gz,fun H1 s1=>?_⟩;have hT1:=hT.same s1;obtain⟨dx,ht⟩:=id hT1.1;left;refine⟨t,S,.str z,rfl,hT1,.inl ⟨z,rfl⟩,?_⟩;rw[show who S (.str z)=none from nz];left;show if false=true then _ else _
 left;refine⟨t,S,xe,rfl,hT1,hx.same s1,fun e he=>?_,fun he=>q2 he H1 s1⟩;obtain⟨hW,hO,hws,ha,hA,za,hb,hB,zb,ff,fg,w0,w1,h40,⟨zs,hL,hz12,hy⟩,le,q⟩:=q1 e he;obtain⟨y,rfl⟩:∃y,xe=.str y:=by
  rcases hx with h|⟨_,nz'⟩
  .exact h
  .rw[qd4 nz'] at he;cases he
 have ey:e.n=y:=(qco he).2;have hsw:=hT1.2.1;left;refine⟨S.sw,a,b,some y,S.ws,ka,kb,f,g,wt,rfl,hsw,s1 _ _ ha,hA,za,s1 _ _ hb,hB,zb,ff,fg,w0,w1,fun h o H3 s3 nh np nc hOo eel ew efp efc=>?_⟩;obtain⟨⟨dh,ho⟩,hp,hpA,hc,hcA⟩:=id hOo;have efp':o.fp=qcu f:=funext efp;have efc':o.fc=qcu g:=funext efc;have lk:o.kp.length<=S.ws.length:=hpA.le (by rw[efp'];exact jft ff);have hT3:=hT1.same s3;obtain⟨⟨dx3,ht3⟩,hw3,hh3,nd3,hz3,hE3⟩:=id hT3;left;refine jst hh3 ?_;rw[qes];left;refine⟨t,S,.str y,rfl,hT3,.inl ⟨y,zs,rfl,by rw[<-ey];exact hL,#[],fun l hl=>?_⟩⟩;have s4:=qa5 hl (.lst (zs.map V.str));have eL:upd H3 l (.lst (zs.map V.str)) l=some (.lst (zs.map V.str)):=qa1;have hzl:(zs.map V.str).length=zs.length:=zB _;generalize upd H3 l (.lst (zs.map V.str))=H4 at*;have ho4:=s4 _ _ ho;have hp4:=s4 _ _ hp;have hc4:=s4 _ _ hc;left;refine⟨.str z,o.pa,o.ca,o.kp,o.kc,o.fp,o.fc,rfl,.inl hp4,.inl hc4,hpA,hcA,#[],by rw[efp',efc'];exact jm6 fg le,fun H5 s5=>?_⟩;have s35:=s4.trans s5;have ho5:=s35 _ _ ho;have hT5:=hT3.same s35;obtain⟨dx5,ht5⟩:=id hT5.1;left;refine⟨t,l,o.pa,S,zs,o.kp,o.fp,rfl,hT5,hW,hO,SqL.of (s5 _ _ eL),s35 _ _ hp,hpA,hws,by rw[efp'];exact jft ff,by rw[efp'];exact hy,fun H6 s6=>?_⟩;have s36:=s35.trans s6;have s16:=s3.trans s36;have s06:=s1.trans s16;obtain⟨⟨dx6,ht6⟩,hw6,hh6,nd6,hz6,hE6⟩:=hT3.same s36;left;have lkn:qde S.keys z=none:=by rw[qdr,nz];rfl
 have hksz:(oK S.keys).length<sizeLine:=by rw[qes];show _<16777216;omega
 refine jsh hh6 hksz ?_;rw[jos lkn];left;have sF:∀b u,b≠S.hs->H6 b=some u->upd H6 S.hs (.dK (oK (S.keys++[(z,h)]))) b=some u:=fun b u hb e=>by rw[qa7 hb];exact e
 have nH:∀{b:Addr} {u:HO},H6 b=some u->u≠ .dK (oK S.keys)->b≠S.hs:=fun e1 e2 e3=>by
  subst e3;rw[hh6] at e1;exact e2 (uW e1).symm
 have hT1':=hT1;have fresh:∀{b:Addr} {u:HO},H1 b=none->H6 b=some u->b≠S.hs:=fun e1 _ e3=>by
  subst e3;rw[hT1'.2.2.1] at e1;cases e1
 refine q ⟨z,h,o⟩ _ (fun b u hb e=>sF b u hb (s06 _ _ e)) (s1.free nh) (s1.free np) (s1.free nc) ⟨⟨dx6,sF _ _ (nH ht6 (by intro e;cases e)) ht6⟩,sF _ _ (nH hw6 (by intro e;cases e)) hw6,?_,?_,?_,fun e1 he1=>?_⟩ rfl (by rw[ey];exact eel) ew efp efc
 .show upd _ _ _ S.hs=some (.dK (oK (Ts.keys _)));rw[qa1];unfold Ts.keys;rw[zE];rfl
 .show(List.map _ (S.hl++[_])).Nodup;rw[zE,yH];refine⟨nd6,zV.mpr ⟨by simp,yK⟩,fun x hx1 y' hy1 e=>?_⟩;have:y'=z:=by simpa using hy1
  subst this;subst e;obtain⟨e2,m2,rfl⟩:=zJ.mp hx1;rw[jc9 nd6 m2] at nz
  cases nz
 .show(S.hl++[_]).length<=60;rw[zF];show _+1<=60;omega
 .rcases zP.mp he1 with m|m
  .obtain⟨⟨dy,hy1⟩,hy2,hy3,hy4,hy5⟩:=hE6 e1 m;have no:∀{k:List (Key×V)} {f:Str->Option Int},AD k f->HO.dK k≠ .dK (oK S.keys):=fun hk=>jwh hk (z:=e1.n) (h:=e1.a) (by rw[qdr,jc9 nd6 m];rfl);exact⟨⟨dy,sF _ _ (nH hy1 (by intro e;cases e)) hy1⟩,sF _ _ (nH hy2 (no hy3)) hy2,hy3,sF _ _ (nH hy4 (no hy5)) hy4,hy5⟩
  .have:e1=⟨z,h,o⟩:=by simpa using m
   subst this;have h6:=s36 _ _ ho;refine⟨⟨dh,sF _ _ (fresh nh h6) h6⟩,sF _ _ (fresh np (s36 _ _ hp)) (s36 _ _ hp),hpA,sF _ _ (fresh nc (s36 _ _ hc)) (s36 _ _ hc),hcA⟩
abbrev ABC:Str:=xB "abcdefghijklmnopqrstuvwxyz"
def letc(i:Int):Nat:=97+(i%26).toNat
theorem jtm(g:Int):atI ABC.cps.toList (g%26)=some (letc g):=by
 have e0:=wA g (show(26:Int)≠0 by decide);have e1:=vZ g (show(0:Int)<26 by decide);have h:∀k:Nat,k<26->ABC.cps.toList[k]?=some (97+k):=by decide+kernel
 have e:g%26=(((g%26).toNat:Nat):Int):=by omega
 rw[e];rw[qar (h (g%26).toNat #[])];rfl
theorem jfu(g:Int):isL (letc g)=true:=by
 have e0:=wA g (show(26:Int)≠0 by decide);have e1:=vZ g (show(0:Int)<26 by decide);unfold isL letc;rw[vO,decide_eq_true_iff,decide_eq_true_iff];omega
theorem jlm{g g':Int}(h:letc g=letc g'):g%26=g'%26:=by
 have e0:=wA g (show(26:Int)≠0 by decide);have f0:=wA g' (show(26:Int)≠0 by decide);unfold letc at h;omega
def ofL(l:List Nat):Str:=⟨l.toArray⟩
theorem qfg(l:List Nat):qed (ofL l)=l:=by simp[qed,ofL]
theorem jph{l m:List Nat}(h:ofL l=ofL m):l=m:=by rw[<-qfg l,<-qfg m,h]
theorem jln(l:List Nat)(c:Nat):ofL l++(⟨(List.toArray [c])⟩:Str)=ofL (l++[c]):=by
 have e:(ofL l++(⟨(List.toArray [c])⟩:Str)).cps=(ofL (l++[c])).cps:=by
  rw[Str.cps_append];simp[ofL]
 exact congrArg Str.mk e
theorem qgc(l:List Nat):(ofL l).length=l.length:=by simp[ofL,Str.length]
def iV(e:Nat):V:=.int (e:Int)
def jtn(ws:List Str)(B:Int)(f:Str->Option Int):Prop:=∀z n,f z=some n->z∈ws/\0<=n/\n<=B
def elN(es:List Nat)(k:Nat):Nat:=(es[k-1]?).getD 0
def ptN(ts:List Pt)(k:Nat)(v:Str):Int:=match ts[k]? with
 |some t=>gN t.f v
 |none=>0
theorem jfv(lo:Low el n):∀k,k<n->(qac el k).Pairwise (fun a b=>b<a):=by
 intro k
 induction k using xU with
 |ind k ih=>
  intro kn
  cases k with
  |zero=>rw[qdj];exact aZ ..
  |succ k=>
   have l:=lo (k+1) #[] kn;rw[qc6 lo #[] kn,cP];refine⟨fun a ha=>?_,ih _ l #[]⟩;have:=qdk lo (el (k+1)) #[] a ha;omega
structure PL where
 lw:Addr
 ln:Addr
 le:Addr
 lp:Addr
 lc:Addr
 ws:List Str
 nm:List Str
 es:List Nat
 tp:List Pt
 tc:List Pt
structure PlF(P:PL):Prop where
 w1:1<=P.ws.length
 w3:P.ws.length<=6
 wg:∀z∈P.ws,qdt z=true
 wn:P.ws.Nodup
 nl:P.nm.length=P.es.length+1
 n12:P.nm.length<=12
 ng:∀z∈P.nm,qdt z=true
 nn:P.nm.Nodup
 lo:∀(k e:Nat),P.es[k]?=some e->e<=k/\e<=10
 pl:P.tp.length=P.nm.length
 cl:P.tc.length=P.nm.length
 pa:∀t∈P.tp,AD t.k t.f/\jtn P.ws (10^30) t.f
 ca:∀t∈P.tc,AD t.k t.f/\jtn P.ws (10^30) t.f
 le:∀(j:Nat)(t:Pt),P.tc[j]?=some t->∀v∈P.ws,(qdp P.tp.length fun k=>if j∈qac (elN P.es) k then ptN P.tp k v else 0)<=gN t.f v
def qdu(lo:∀(k e:Nat),es[k]?=some e->e<=k)(n:Nat):Low (elN es) n:=fun k k0 kn=>by
 unfold elN
 cases e:es[k-1]? with
 |none=>exact k0
 |some a=>have:=lo _ _ e;show a<k;omega
theorem jdc{b:Nat}(hb:b<es.length):elN es (b+1)=es[b]:=by unfold elN;rw[Nat.add_sub_cancel,zA hb];rfl
def jtn.fin{B:Int}(h:jtn ws B f)(hB:B<=10^30):Fin ws f:=fun z n e=>by
 obtain⟨a,b,c⟩:=h z n e;exact⟨a,b,#[]⟩
def jfw{ws':List Str}(h:Fin ws f)(p:ws'.Perm ws):Fin ws' f:=fun z n e=>by
 obtain⟨a,b,c⟩:=h z n e;exact⟨p.mem_iff.mpr a,b,c⟩
def nmF(P:PL)(k:Nat):Str:=(P.nm[k]?).getD (ofL [])
def tfF(ts:List Pt)(k:Nat):Str->Option Int:=match ts[k]? with
 |some t=>t.f
 |none=>noF
theorem jto(ts:List Pt)(k:Nat)(v:Str):ptN ts k v=gN (tfF ts k) v:=by
 unfold ptN tfF
 cases ts[k]?<;>rfl
structure jjj(S:Ts)(P:PL)(n:Nat)(wt:Nat->Int):Prop where
 pl:Pl S (nmF P) (elN P.es) n
 wp:S.ws.Perm P.ws
 ws:vH S.ws=true
 da:∀(k:Nat)(e:He),S.hl[k]?=some e->(∀v,e.x.fp v=qcu (tfF P.tp k) v)/\(∀v,e.x.fc v=qcu (tfF P.tc k) v)/\e.x.w=wt k
theorem qdd{P:PL}{k:Nat}(h:k<P.nm.length):nmF P k=P.nm[k]:=by unfold nmF;rw[zA h];rfl
def jjk{P:PL}(f:PlF P){n:Nat}(hn:n<=P.nm.length):∀i j,i<n->j<n->nmF P i=nmF P j->i=j:=fun i j hi hj e=>by
 rw[qdd #[],qdd #[]] at e;rcases Nat.lt_trichotomy i j with h|h|h
 .exact absurd e ((zW.mp f.nn) i j #[] #[] h)
 .exact h
 .exact absurd e.symm ((zW.mp f.nn) j i #[] #[] h)
def PlF.low{P:PL}(f:PlF P)(n:Nat):Low (elN P.es) n:=qdu (fun k e h=>(f.lo k e h).1) n
theorem qev{P:PL}(f:PlF P){k:Nat}(hk:k<P.nm.length):∃t,P.tp[k]?=some t/\t∈P.tp/\tfF P.tp k=t.f/\AD t.k t.f/\Fin P.ws t.f:=by
 have h:k<P.tp.length:=by rw[f.pl];exact hk
 have e:=zA h;refine⟨_,e,zL h,by unfold tfF;rw[e],(f.pa _ (zL h)).1,(f.pa _ (zL h)).2.fin ∅⟩
theorem jm9{P:PL}(f:PlF P){k:Nat}(hk:k<P.nm.length):∃t,P.tc[k]?=some t/\t∈P.tc/\tfF P.tc k=t.f/\AD t.k t.f/\Fin P.ws t.f:=by
 have h:k<P.tc.length:=by rw[f.cl];exact hk
 have e:=zA h;refine⟨_,e,zL h,by unfold tfF;rw[e],(f.ca _ (zL h)).1,(f.ca _ (zL h)).2.fin ∅⟩
theorem jna(h:Fin ws f)(v:Str):0<=gN f v:=by
 unfold gN
 cases e:f v with
 |none=>exact wB _
 |some n=>exact(h v n e).2.1
theorem jpi(h:Fin ws f){v:Str}(hv:v∉ws):gN f v=0:=by
 unfold gN
 cases e:f v with
 |none=>rfl
 |some n=>exact absurd (h v n e).1 hv
theorem jpj{P:PL}(f:PlF P){k:Nat}(hk:k<P.nm.length)(v:Str):0<=gN (tfF P.tp k) v:=by
 obtain⟨t,_,_,e,_,h⟩:=qev f hk;rw[e];exact jna h v
theorem jnb{P:PL}(f:PlF P){j:Nat}(hj:j<P.nm.length)(v:Str):(qdp P.nm.length fun k=>if j∈qac (elN P.es) k then gN (tfF P.tp k) v else 0)<=gN (tfF P.tc j) v:=by
 obtain⟨t,e1,e2,e3,e4,e5⟩:=jm9 f hj;rw[e3];by_cases hv:v∈P.ws
 .have z:=f.le j t e1 v hv;rw[f.pl] at z;have:(fun k=>if j∈qac (elN P.es) k then ptN P.tp k v else 0)=fun k=>if j∈qac (elN P.es) k then gN (tfF P.tp k) v else 0:=funext fun k=>by rw[jto]
  rw[this] at z;exact z
 .have z:(qdp P.nm.length fun k=>if j∈qac (elN P.es) k then gN (tfF P.tp k) v else 0)<=qdp P.nm.length fun _=>0:=jjf fun k hk=>by
   split
   .obtain⟨t',_,_,q,_,h⟩:=qev f hk;rw[q,jpi h hv];exact wB _
   .exact wB _
  have z0:∀n,(qdp n fun _=>0)=0:=fun n=>by
   induction n with
   |zero=>rfl
   |succ n ih=>show qdp n _+0=0;rw[ih];rfl
  rw[z0] at z;have:=jna e5 v;omega
theorem jnc{P:PL}(f:PlF P){k:Nat}(hk:k<P.nm.length)(v:Str):gN (tfF P.tp k) v<=gN (tfF P.tc k) v:=by
 have z:=jnb f hk v;have h:gN (tfF P.tp k) v<=qdp P.nm.length fun i=>if k∈qac (elN P.es) i then gN (tfF P.tp i) v else 0:=by
  have h1:jll (fun i=>if k∈qac (elN P.es) i then gN (tfF P.tp i) v else 0) [k]<=qdp P.nm.length fun i=>if k∈qac (elN P.es) i then gN (tfF P.tp i) v else 0:=
   qg1 (zV.mpr ⟨by simp,yK⟩) (fun i hi=>by have:i=k:=(by simpa using hi);omega) fun i hi=>by
    split
    .exact jpj f hi v
    .exact wB _
  have h2:jll (fun i=>if k∈qac (elN P.es) i then gN (tfF P.tp i) v else 0) [k]=gN (tfF P.tp k) v:=by
   show(if k∈qac (elN P.es) k then gN (tfF P.tp k) v else 0)+0=_;rw[iB (qcr (f.low P.nm.length) hk),Int.add_zero]
  omega
 omega
theorem jjj.ask{S:Ts}{P:PL}{k:Nat}{wt:Nat->Int}(h:jjj S P k wt)(f:PlF P)(k0:0<k)(kn:k<P.nm.length):∃e,S.at (nmF P (elN P.es k))=some e/\e.n=nmF P (elN P.es k)/\WF S/\qgp S/\S.ws.length<=50/\S.hl.length<40/\S.at (nmF P k)=none/\
  ∃zs,jaw S e.n zs/\zs.length<12/\∀y∈zs,∃e',S.at y=some e'/\Dep S 12 y/\∀bs,Ben S 12 y bs->∀v n,jb8 (jdp (bs.map (jek S))) (qcu (tfF P.tp k)) v=some n->n<=gN e'.x.fc v:=by
 have low:=f.low P.nm.length;have lk:=low k k0 kn;have n12:=f.n12;obtain⟨e,h1,h2,h3⟩:=h.pl.at lk;have en:e.n=nmF P (elN P.es k):=(qco h1).2;refine⟨e,h1,en,h.pl.wf,⟨by have:=h.wp.length_eq;have:=f.w3;omega,fun e' he z hz=>?_⟩,by have:=h.wp.length_eq;have:=f.w3;omega,by rw[h.pl.len];omega,?_,(qac (elN P.es) (elN P.es k)).map (nmF P),by rw[en];exact h.pl.line _ lk,?_,fun y hy=>?_⟩
 .obtain⟨i,hi,q,_⟩:=h.pl.ix he;obtain⟨t,_,_,q2,_,q3⟩:=qev f (k:=i) #[];rw[(h.da i e' q).1,q2] at hz;exact h.wp.mem_iff.mpr (jft q3 z hz)
 .cases c:S.at (nmF P k) with
  |none=>rfl
  |some e'=>
   obtain⟨i,hi,_,q,_⟩:=h.pl.ix (qco c).1;have:=jjk f (n:=P.nm.length) (uH _) i k #[] kn (by rw[<-q,(qco c).2]);omega
 .rw[zB];have hl:=qci low (elN P.es k) #[];have:elN P.es k<=10:=by
   obtain⟨b,rfl⟩:∃b,k=b+1:=⟨k-1,#[]⟩;have hb:b<P.es.length:=by have:=f.nl;omega
   rw[jdc hb];exact(f.lo b _ (zA hb)).2
  omega
 .obtain⟨j,hj,rfl⟩:=zJ.mp hy;have jl:=qdk low (elN P.es k) #[] j hj;have jk:j<k:=by omega
  obtain⟨e',q1,q2,_⟩:=h.pl.at jk;refine⟨e',q1,h.pl.dep 12 j jk #[],fun bs hb v n hn=>?_⟩;have hs:=h.pl.sums (v:=v) (pr:=fun i=>gN (tfF P.tp i) v) (fun i e2 he2=>?_) (fun i hi=>jpj f #[] v) jk hb
  .have g1:n=gN (jb8 (jdp (bs.map (jek S))) (qcu (tfF P.tp k))) v:=by unfold gN;rw[hn];rfl
   obtain⟨t,_,_,t3,_,t5⟩:=qev f kn;rw[jm7,t3,qgk t5,<-t3] at g1;obtain⟨u,_,_,u3,_,u5⟩:=jm9 f (k:=j) #[];have fc:e'.x.fc=qcu u.f:=by rw[<-u3];exact funext (h.da j e' q2).2.1
   rw[fc,qgk u5,<-u3];have cg:=jnb f (j:=j) #[] v;have mono:=jjh (f:=fun i=>if j∈qac (elN P.es) i then gN (tfF P.tp i) v else 0) (n:=k+1) (m:=P.nm.length) #[] fun i hi=>by
    try dsimp only
    split
    .exact jpj f hi v
    .exact wB _
   have top:(qdp (k+1) fun i=>if j∈qac (elN P.es) i then gN (tfF P.tp i) v else 0)=(qdp k fun i=>if j∈qac (elN P.es) i then gN (tfF P.tp i) v else 0)+gN (tfF P.tp k) v:=by
    show qdp k _+(if j∈qac (elN P.es) k then gN (tfF P.tp k) v else 0)=_;rw[iB];rw[qc6 low k0 kn];exact zH _ hj
   omega
  .obtain⟨t,_,_,t3,_,t5⟩:=qev f (k:=i) (by have:=(uG.mp he2).1;rw[h.pl.len] at this;omega);rw[show e2.x.fp=qcu (tfF P.tp i) from funext (h.da i e2 he2).1,t3];exact qgk t5 v
theorem jjj.next{S:Ts}{P:PL}{k:Nat}{wt:Nat->Int}(h:jjj S P k wt)(f:PlF P)(k0:0<k)(kn:k<P.nm.length){e2:He}{w:Int}(en:e2.n=nmF P k)(el:e2.x.el=some (nmF P (elN P.es k)))(ew:e2.x.w=w)(ep:∀v,e2.x.fp v=qcu (tfF P.tp k) v)(ec:∀v,e2.x.fc v=qcu (tfF P.tc k) v):
  jjj {S with hl:=S.hl++[e2]} P (k+1) (fun i=>if i=k then w else wt i):=by
 have hl:=h.pl.len;have split:∀(i:Nat)(e:He),(S.hl++[e2])[i]?=some e->(i<k/\S.hl[i]?=some e)\/(i=k/\e=e2):=fun i e he=>by
  rcases bH i S.hl.length with c|c
  .rw[yD c] at he;exact .inl ⟨#[],he⟩
  .have:=(uG.mp he).1;rw[zF,yA] at this;have ei:i=S.hl.length:=by omega
   rw[zZ c,ei,eB] at he;exact .inr ⟨#[],by simpa using he.symm⟩
 refine⟨⟨by show(S.hl++[e2]).length=_;rw[zF,hl];rfl,fun i e he=>?_,jjk f #[],fun i i0 ik=>f.low P.nm.length i i0 #[]⟩,h.wp,h.ws,fun i e he=>?_⟩
 .rcases split i e he with⟨a,b⟩|⟨rfl,rfl⟩
  .exact h.pl.nam i e b
  .exact⟨en,by rw[iA #[]];exact el⟩
 .rcases split i e he with⟨a,b⟩|⟨rfl,rfl⟩
  .obtain⟨x,y,z⟩:=h.da i e b;exact⟨x,y,by rw[iA #[]];exact z⟩
  .exact⟨ep,ec,by rw[iB rfl];exact ew⟩
structure jy8(S:Ts)(t q:Addr):Prop where
 t:t≠q
 sw:S.sw≠q
 hs:S.hs≠q
 ho:∀e∈S.hl,e.a≠q/\e.x.pa≠q/\e.x.ca≠q
def jjl{ss':List Str}(h:ss.Perm ss')(a:vH ss=true)(b:vH ss'=true):ss=ss':=
 List.Perm.eq_of_pairwise (le:=leS) (fun x y _ _ h1 h2=>jky h1 h2) (qew a) (qew b) h
theorem jtp{P:PL}(f:PlF P)(hl:S.hl=[e])(en:e.n=nmF P 0)(el:e.x.el=none):Pl S (nmF P) (elN P.es) 1:=by
 refine⟨by rw[hl];rfl,fun k e' he=>?_,fun i j hi hj _=>by omega,fun k k0 k1=>by omega⟩;rw[hl] at he;have hk:=(uG.mp he).1;have e0:k=0:=by rw[yA] at hk;omega
 subst e0;have:e'=e:=by simpa using he.symm
 subst this;exact⟨en,el⟩
def jjj.cast{P:PL}{wt wt':Nat->Int}(h:jjj S P n wt)(e:∀j,j<n->wt j=wt' j):jjj S P n wt':=⟨h.pl,h.wp,h.ws,fun k x hx=>by
 have hk:=(uG.mp hx).1;rw[h.pl.len] at hk;obtain⟨a,b,c⟩:=h.da k x hx;exact⟨a,b,c.trans (e k hk)⟩⟩
def tV:Option Int->V
 |none=> .non
 |some n=> .int n
def qfh(d:Ad)(s:Bool):Addr:=if s=true then d.w0d else d.w0c
def fsB(n:Int)(z:Str)(m:Addr)(r:Int)(t:Option Int):List (Str×V):=[("number",.int n),("house",.str z),("amounts",.ref m),("rank",.int r),("turns",tV t)]
theorem jgm{K:uT}{mg:Str->Option uB}{d:Ad}(T:Tx K mg d)(s:Bool):Cls K (qfh d s)/\qav K (qfh d s) "number"/\qav K (qfh d s) "house"/\qav K (qfh d s) "amounts"/\qav K (qfh d s) "rank"/\qav K (qfh d s) "turns":=by
 cases s
 .exact⟨T.w3s,T.w1h,T.w1x,T.w1a,T.w1r,T.w1y⟩
 .exact⟨T.w4f,T.w1k,T.w1v,T.w1d,T.w2h,T.w1t⟩
inductive jdd(K:uT)(d:Ad)(vs:List V)(H:Hp)(Q:VK)(E:XK):Prop
 |mk(x dx a:Addr)(s:Bool)(n:Int)(z:Str)(k:List (Key×V))(r:Int)(t:Option Int)(_:vs=[.ref x,.int n,.str z,.ref a,.int r,tV t])(_:H x=some (.ins (qfh d s) dx []))(_:H a=some (.dK k))(_:∀m H',H m=none->H' x=some (.ins (qfh d s) dx (fsB n z m r t))->H' m=some (.dK k)->SameBut x H H'->Q .non H')
include T in
theorem w7c:jab P w K mg base CX0 1 d.w4q d.w4z ["self","number","house","amounts","rank","turns"] (jdd K d):=by
 exists T.wby.ok wbj
 .right
 obtain⟨x,dx,a,s,n,z,k,r,t,rfl,hx,ha,q⟩:=h;exists (qa2 (qd7 (pv 0) (pv 1) rfl)
  (qa2 (qd7 (pv 0) (pv 2) rfl)
  (qa2 (qd7 (pv 0) (qaz qc4 rfl T.w7e wG #[pv 3]) rfl)
  (qa2 (qd7 (pv 0) (pv 4) rfl)
  (qa6 (qd7 (pv 0) (pv 5) rfl)))))),[sr x,some (.int n),some (.str z),sr a,some (.int r),some (tV t)];obtain⟨cl,n1,n2,n3,n4,n5⟩:=jgm T s;left;refine qg6 qa1 cl n2 (by show 1<1000;decide) ?_;rw[qbn];have nxa:a≠x:=fun z=>by subst z;rw[hx] at ha;cases ha
 have hRa:Rd (upd H x (.ins (qfh d s) dx (qez "house" (.str z) (qez "number" (.int n) [])))) a (.dK k):=.inl (by rw[qa7 nxa];exact ha);left;rename_i m hm;have nmx:m≠x:=fun z=>by subst z;rw[qa1] at hm;cases hm
 have hm0:H m=none:=by rw[qa7 nmx] at hm;exact hm
 refine qg6 (qad qa1 hm) cl n3 (by show 2<1000;decide) ?_;left;refine qg6 qa1 cl n4 (by show 3<1000;decide) ?_;left;refine qg6 qa1 cl n5 (by show 4<1000;decide) ?_;left;refine q m _ hm0 (by rw[qa1];rfl) (by rw[qa7 nmx,qa7 nmx,qa7 nmx];exact qa1) fun b o hb e=>?_;rw[qa7 hb,qa7 hb,qa7 hb,qa7 (qa8 e hm0),qa7 hb];exact e
def InW(ws:List Str)(f:Str->Option Int):Prop:=∀z,f z≠none->z∈ws
structure Rr where
 p:Addr
 e:Addr
 n:Int
 i:Nat
 k:List (Key×V)
 f:Str->Option Int
 r:Int
 s:Bool
structure Ob where
 R:Rr
 o:Addr
 m:Addr
 t:Option Int
structure jbs(d:Ad)(H:Hp)(P:PL)(b:Ob):Prop where
 obj:∃dx,H b.o=some (.ins (qfh d b.R.s) dx (fsB b.R.n (nmF P b.R.i) b.m b.R.r b.t))
 amt:H b.m=some (.dK b.R.k)
 ad:AD b.R.k b.R.f
 inw:InW P.ws b.R.f
 il:b.R.i<P.nm.length
def jbs.same{d:Ad}{H H':Hp}{P:PL}{b:Ob}(h:jbs d H P b)(s:qas H H'):jbs d H' P b:=⟨let ⟨dx,e⟩:=h.obj;⟨dx,s _ _ e⟩,s _ _ h.amt,h.ad,h.inw,h.il⟩
theorem jfx(lo:Low el n){j:Nat}:∀k,k<n->j∈qac el k->j≠k->∃c,0<c/\c<n/\el c=j/\c∈qac el k:=by
 intro k
 induction k using xU with
 |ind k ih=>
  intro kn hj ne
  cases k with
  |zero=>rw[qdj] at hj;simp at hj;omega
  |succ k=>
   have l:=lo (k+1) #[] kn;rw[qc6 lo #[] kn] at hj⊢;rcases zO.mp hj with h|h
   .exact absurd h ne
   .by_cases c:j=el (k+1)
    .exact⟨k+1,#[],kn,c.symm,zN ..⟩
    .obtain⟨x,x0,x1,x2,x3⟩:=ih (el (k+1)) l #[] h c;exact⟨x,x0,x1,x2,zH _ x3⟩
theorem Pl.isKid(p:Pl S nm el n){c:Nat}(c0:0<c)(cn:c<n):nm c∈qbe S (nm (el c)):=by
 obtain⟨e,h1,h2,h3⟩:=p.get cn;rw[iA #[]] at h3;rw[<-h2];exact zJ.mpr ⟨e,yG.mpr ⟨zD h1,iC h3⟩,rfl⟩
def jpk{q:Str×List Str}(hq:q∈parts)(hy:y∈q.2):y∈flat parts:=yM.mpr ⟨q.2,zJ.mpr ⟨q,hq,rfl⟩,hy⟩
theorem Pl.allBen(p:Pl S nm el n):∀(m j:Nat)(zs:List Str),j<n->Ben S m (nm j) zs->∀k,k<n->j∈qac el k->nm k∈zs:=by
 intro m
 induction m with
 |zero=>
  rintro j _ jn ⟨parts,hp,rfl,hb⟩ k kn hk;by_cases c:j=k
  .rw[c];exact zN ..
  .obtain⟨x,x0,x1,x2,x3⟩:=jfx p.low k kn hk c;have z:=p.isKid x0 x1;rw[x2] at z;obtain⟨q,hq,_⟩:=zJ.mp (hp.mem_iff.mpr z);exact(hb q hq).elim
 |succ m ih=>
  rintro j _ jn ⟨parts,hp,rfl,hb⟩ k kn hk;by_cases c:j=k
  .rw[c];exact zN ..
  .obtain⟨x,x0,x1,x2,x3⟩:=jfx p.low k kn hk c;have z:=p.isKid x0 x1;rw[x2] at z;obtain⟨q,hq,e⟩:=zJ.mp (hp.mem_iff.mpr z);have hB:=hb q hq;rw[e] at hB;exact zH _ (jpk hq (ih x q.2 x1 hB k kn x3))
theorem Pl.benIff(p:Pl S nm el n){m j:Nat}{zs:List Str}(jn:j<n)(h:Ben S m (nm j) zs){k:Nat}(kn:k<n):nm k∈zs↔j∈qac el k:=by
 refine⟨fun hk=>?_,p.allBen m j zs jn h k kn⟩;obtain⟨i,i1,i2,i3⟩:=p.ben m j zs jn h.part _ hk;rw[p.inj k i kn i1 i2];exact i3
def bsV(bs:List Ob):List V:=bs.map fun b=> .ref b.o
def inZ(P:PL)(zs:List Str)(b:Ob):Bool:=decide (nmF P b.R.i∈zs)
def jxx(K:uT)(d:Ad)(H:Hp)(t:Addr)(x:V)(E:XK):Prop:=∃S:Ts,qel d H t S/\WF S/\qe4 K H x/\who S x=none/\∀H',qas H H'->E (.ref d.w0e) none H'
def w7q(K:uT)(d:Ad):Sp:=fun vs H Q E=>(∃(t:Addr)(l x:V),vs=[.ref t,l,x]/\jxx K d H t x E)\/∃(t lh:Addr)(S:Ts)(P:PL)(bs:List Ob)(z:Str)(e:He),vs=[.ref t,.ref lh,.str z]/\qel d H t S/\WF S/\S.at z=some e/\Dep S 12 z/\H lh=some (.lst (bsV bs))/\bs.length<=63/\(∀b∈bs,jbs d H P b)/\
 ∀(l:Addr)(zs:List Str) H',qas H H'->H l=none->Ben S 12 z zs->H' l=some (.lst (bsV (bs.filter (inZ P zs))))->Q (.ref l) H'
include T in
theorem w4u:jab P w K mg base (My.CX1 P w) 17 d.w3h d.w2l ["tree","holds","house"] (w7q K d):=by
 exists okX T.w36 w2s
 .rcases h with⟨t,l,x,rfl,_⟩|⟨t,lh,S,P,bs,z,e,rfl,_⟩<;>rfl
 rcases h with⟨t,l,x,rfl,S,hT,hW,hx,wn,q⟩|h
 .refine⟨_,(qa2 (qae (i:=3) w2s.nd rfl (eS rfl) (qb9 (pv 0) T.w01 T.w0a ((w3i T).mono ∅) hr T.w2d .nil qay #[pv 2]))
  (qa6 (qak (qc2 (caps:=[3]) (cn:=["names"]) (qbh rfl rfl (by rfl) (by rfl) rfl ⟨rfl,trivial⟩ (by rfl) rfl ⟨⟨rfl,rfl,rfl,rfl,_,rfl⟩,trivial⟩ ∅) rfl (qb3 (pv 1)) (fun _ _ _ _=>(qej (qan qdb (qb6 (pv 0) rfl) (pv 1) (by rfl)))) (fun _ _ _ _=>(pv 0)))))),?_⟩
  walk_at"d"
  try dsimp only[cxC]
  refine qag (σ:=[sr t,some (l),some (x),none]) rfl ?_;have ct:=T.w01;obtain⟨dx,ht⟩:=id hT.1;left;refine⟨t,S,x,rfl,hT,qg4 hW hT.2.2.2.2.1,hx,fun e he=>?_,fun _ ll hll=>?_⟩
  .rw[wn] at he;cases he
  exact q _ (qa5 hll _)
 obtain⟨t,lh,S,P,bs,z,e,rfl,hT,hW,ae,hD,hL,h63,hB,q⟩:=h;have een:=(qco ae).2;refine⟨_,(qa2 (qae (i:=3) w2s.nd rfl (eS rfl) (qb9 (pv 0) T.w01 T.w0a ((w3i T).mono ∅) hr T.w2d .nil qay #[pv 2]))
  (qa6 (qak (qc2 (caps:=[3]) (cn:=["names"]) (qbh rfl rfl (by rfl) (by rfl) rfl ⟨rfl,trivial⟩ (by rfl) rfl ⟨⟨rfl,rfl,rfl,rfl,_,rfl⟩,trivial⟩ ∅) rfl (qb3 (pv 1)) (fun _ _ _ _=>(qej (qan qdb (qb6 (pv 0) rfl) (pv 1) (by rfl)))) (fun _ _ _ _=>(pv 0)))))),?_⟩
 walk_at"d"
 try dsimp only[cxC]
 refine qag (σ:=[sr t,sr lh,some (.str z),none]) rfl ?_;have ct:=T.w01;obtain⟨dx,ht⟩:=id hT.1;left;refine⟨t,S,.str z,rfl,hT,qg4 hW hT.2.2.2.2.1,.inl ⟨_,rfl⟩,fun e' he'=>?_,fun hn=>?_⟩
 rotate_left
 .rw[show who S (.str z)=some e from ae] at hn;cases hn
 have ee:e=e':=uW (ae.symm.trans he');subst ee;rw[een];refine⟨hD,fun lb zs H1 s1 hlb elb hBen=>?_⟩;have hL1:=s1 _ _ hL;have hB1:∀b∈bs,jbs d H1 P b:=fun b hb=>(hB b hb).same s1;clear hT hD he' ht hL hB;left;intro C s0 H0 fp acc hacc;refine jb7 bs.length (fun i H'=>H'=upd H1 acc (.lst (bsV ((bs.take i).filter (inZ P zs))))) rfl ?_ ?_ ?_ ?_
 .rintro i H' hi rfl;exact⟨_,.ref bs[i].o,SqL.of (qad hL1 hacc),by unfold bsV;rw[zC,zA hi];rfl⟩
 .rintro H' rfl;exact⟨_,SqL.of (qad hL1 hacc),by unfold bsV;rw[zB];exact uH _⟩
 .rintro i H' v H'' hi rfl ⟨rfl,hy⟩;have hv:=hy _ (SqL.of (qad hL1 hacc));unfold bsV at hv;rw[zC,zA hi] at hv
  cases hv
  have hb:=hB1 _ (zL hi);have tk:bs.take (i+1)=bs.take i++[bs[i]]:=by rw[zM,zA hi];rfl
  generalize hbi:bs[i]=b at*;obtain⟨dx,hbo⟩:=hb.obj;have hbo':=qad (o':=.lst (bsV ((bs.take i).filter (inZ P zs)))) hbo hacc;have elb':=qad (o':=.lst (bsV ((bs.take i).filter (inZ P zs)))) elb hacc;obtain⟨cl,n1,n2,n3,n4,n5⟩:=jgm T b.R.s;have zl:(bsV ((bs.take i).filter (inZ P zs))).length<sizeLine:=by
   unfold bsV;rw[zB];have h1:=zU (inZ P zs) (bs.take i);rw[zS] at h1;show _<16777216;omega
  left;refine jmy (SqL.of elb') ?_;by_cases m:nmF P b.R.i∈zs
  .rw[iC m];left;rw[qbn,tk,yB,zY,iB (show inZ P zs b=true from iC m)]
   congr 2
   unfold bsV;rw[zE];rfl
  .rw[iD m];left;rw[tk,yB,zY,iA (show ¬inZ P zs b=true by rw[show inZ P zs b=false from iD m];decide),yQ,yC]
 rintro H' rfl;rw[zQ];left;exact q acc zs _ (s1.trans (qa5 hacc _)) (s1.free hacc) hBen qa1
def jjm(b:Ob):Pt:=⟨b.m,b.R.k,b.R.f⟩
def wdg(K:uT)(d:Ad):Sp:=fun vs H Q _=>∃(lh:Addr)(P:PL)(bs:List Ob),vs=[.ref lh]/\H lh=some (.lst (bsV bs))/\bs.length<=63/\P.ws.length<=6/\(∀b∈bs,jbs d H P b)/\
 ∀(l:Addr)(k:List (Key×V)) H',qas H H'->H l=none->H' l=some (.dK k)->AD k (jdp (bs.map jjm))->Q (.ref l) H'
include T in
theorem w9r:jab P w K mg base CX0 4 d.w8e d.w76 ["holds"] (wdg K d):=by
 exists T.w82.ok wdd
 .right
 obtain⟨lh,P,bs,rfl,hL,h63,w3,hB,q⟩:=h;refine⟨_,(qa6 (qak (qa9 ((w83 T).mono ∅) hr rfl T.w9l T.w6u.kp T.w9k .nil qah #[qc2 (caps:=[]) (cn:=[]) (qbh rfl rfl (by rfl) (by rfl) rfl trivial (by rfl) rfl trivial ∅) rfl (qb3 (pv 0)) (fun _ _ _ _=>qd9) (fun _ _ _ _=>(qb6 (pv 0) rfl))]))),?_⟩
 walk_at"d"
 try dsimp only[cxC]
 refine qag (σ:=[sr lh]) rfl ?_;left;intro C s0 H0 fp acc hacc;refine jb7 bs.length (fun i H'=>H'=upd H acc (.lst (((bs.take i).map jjm).map fun u=> .ref u.a))) rfl ?_ ?_ ?_ ?_
 .rintro i H' hi rfl;exact⟨_,.ref bs[i].o,SqL.of (qad hL hacc),by unfold bsV;rw[zC,zA hi];rfl⟩
 .rintro H' rfl;exact⟨_,SqL.of (qad hL hacc),by unfold bsV;rw[zB];exact uH _⟩
 .rintro i H' v H'' hi rfl ⟨rfl,hy⟩;have hv:=hy _ (SqL.of (qad hL hacc));unfold bsV at hv;rw[zC,zA hi] at hv
  cases hv
  have hb:=hB _ (zL hi);have tk:bs.take (i+1)=bs.take i++[bs[i]]:=by rw[zM,zA hi];rfl
  generalize hbi:bs[i]=b at*;obtain⟨dx,hbo⟩:=hb.obj;have hbo':=qad (o':=.lst (((bs.take i).map jjm).map fun u=> .ref u.a)) hbo hacc;obtain⟨cl,n1,n2,n3,n4,n5⟩:=jgm T b.R.s;left;rw[qbn,tk,zE,zE];rfl
 rintro H' rfl;rw[zQ];have s2:=qa5 hacc (.lst ((bs.map jjm).map fun u=>V.ref u.a));have eN:upd H acc (.lst ((bs.map jjm).map fun u=>V.ref u.a)) acc=some (.lst ((bs.map jjm).map fun u=>V.ref u.a)):=qa1;left;refine⟨acc,bs.map jjm,P.ws,rfl,SqL.of eN,#[],fun u hu=>?_,fun l k' H2 s3 hl el hA=>q l k' H2 (s2.trans s3) (s2.free hl) el hA⟩;obtain⟨b,hb,rfl⟩:=zJ.mp hu;have hb':=hB b hb;exact⟨s2 _ _ hb'.amt,hb'.ad,hb'.inw⟩
def wga(K:uT)(d:Ad):Sp:=fun vs H Q E=>(∃(t:Addr)(l x:V),vs=[.ref t,l,x]/\jxx K d H t x E)\/∃(t lh:Addr)(S:Ts)(P:PL)(bs:List Ob)(z:Str)(e:He),vs=[.ref t,.ref lh,.str z]/\qel d H t S/\WF S/\S.at z=some e/\Dep S 12 z/\H lh=some (.lst (bsV bs))/\bs.length<=63/\P.ws.length<=6/\(∀b∈bs,jbs d H P b)/\
 ∀(l:Addr)(zs:List Str)(k:List (Key×V)) H',qas H H'->H l=none->Ben S 12 z zs->H' l=some (.dK k)->AD k (jdp ((bs.filter (inZ P zs)).map jjm))->Q (.ref l) H'
include T in
theorem wg3:jab P w K mg base (My.CX1 P w) 18 d.wef d.wc8 ["tree","holds","house"] (wga K d):=by
 exists okX T.wfl wfr
 .rcases h with⟨t,l,x,rfl,_⟩|⟨t,lh,S,P,bs,z,e,rfl,_⟩<;>rfl
 rcases h with⟨t,l,x,rfl,hN⟩|h
 .exists qa6 (qak (qa9 ((w9r T).mono ∅) hr rfl T.wav T.w82.kp T.wbk .nil qah #[qbr ((w4u T).mono ∅) hr rfl T.w5j T.w36.kp T.w5b .nil qay #[pv 0,pv 1,pv 2]])),[sr t,some (l),some (x)];left;exact .inl ⟨t,l,x,rfl,hN⟩
 obtain⟨t,lh,S,P,bs,z,e,rfl,hT,hW,ae,hD,hL,h63,w3,hB,q⟩:=h;exists qa6 (qak (qa9 ((w9r T).mono ∅) hr rfl T.wav T.w82.kp T.wbk .nil qah #[qbr ((w4u T).mono ∅) hr rfl T.w5j T.w36.kp T.w5b .nil qay #[pv 0,pv 1,pv 2]])),[sr t,sr lh,some (.str z)];left;refine .inr ⟨t,lh,S,P,bs,z,e,rfl,hT,hW,ae,hD,hL,h63,hB,fun l zs H1 s1 hl hBen el=>?_⟩;left;refine⟨l,P,_,rfl,el,vP (zU ..) h63,w3,fun b hb=>(hB b (yG.mp hb).1).same s1,fun l2 k H2 s2 hl2 el2 hA=>?_⟩;exact q l2 zs k H2 (s1.trans s2) (s1.free hl2) hBen el2 hA
theorem jjn{k:Nat}:∀L:List Nat,inV (.int ((k:Nat):Int)) (L.map iV)=decide (k∈L)
 | []=>rfl
 |z::r=>by
  have ih:=jjn (k:=k) r;unfold inV at ih⊢;rw[zT,yV,ih];by_cases c:z=k
  .subst c;rw[show eqV (iV z) (V.int ((z:Nat):Int))=true from beq_self_eq_true _,iC (zN ..)];rfl
  .rw[show eqV (iV z) (V.int ((k:Nat):Int))=false from beq_false_of_ne fun e=>c #[],Bool.false_or];by_cases m:k∈r
   .rw[iC m,iC (zH _ m)]
   .rw[iD m,iD fun h=>(zO.mp h).elim (fun e=>c e.symm) m]
theorem jjo(L:List Nat):(L.map iV).all qcy=true:=by
 rw[gP];exact yF.mpr fun _ _=>rfl
def jtq{K:uT}{p:Addr}{k:Nat}{ki:Int}{L:List Nat}(h:SqL K H p (L.map iV))(e:((k:Nat):Int)=ki)(q:Q (.bl (decide (k∈L))) H):rIn K false (.int ki) (.ref p) H Q:=⟨p,_,rfl,.inl h,rfl,jjo L,by rw[<-e,jjn];exact q⟩
def jbs.put{d:Ad}{P:PL}{b:Ob}{q:Addr}(h:jbs d H P b)(n1:b.o≠q)(n2:b.m≠q):jbs d (upd H q o) P b:=⟨let ⟨dx,e⟩:=h.obj;⟨dx,by rw[qa7 n1];exact e⟩,by rw[qa7 n2];exact h.amt,h.ad,h.inw,h.il⟩
def qbu(ns:List Int)(k:Int):Int:=if k <((ns.length:Nat):Int) then cell ns k else if ns=[] then 7919*k else(cell ns (k%((ns.length:Nat):Int))).fdiv (k+1)+7919*k
def wgb(K:uT)(d:Ad):Sp:=fun vs H Q _=>∃(a:Addr)(ns:List Int)(k:Int),vs=[.ref a,.int k]/\SqL K H a (ns.map V.int)/\0<=k/\k<=1000/\ns.length<=63/\∀H',qas H H'->Q (.int (qbu ns k)) H'
def wfi(K:uT)(d:Ad):Sp:=fun vs H Q _=>∃c k m:Int,vs=[.int c,.int k,.int m]/\0<=k/\k<=100000/\1<=m/\m<=100000/\∀r:Int,0<=r->r<m->Q (.int r) H
section
variable{K:uT}{d:Ad}{H:Hp}{Q:VK}{E:XK}
def qbo{c k m:Int}(k0:0<=k)(k1:k<=100000)(m0:1<=m)(m1:m<=100000)(q:∀r:Int,0<=r->r<m->Q (.int r) H):wfi K d [.int c,.int k,.int m] H Q E:=⟨c,k,m,rfl,k0,k1,m0,m1,q⟩
end
include T in
theorem w22:jab P w K mg base CX0 1 d.wdu d.wca ["_law_script","_law_k"] (wgb K d):=by
 exists T.w3e.ok wfs
 .right
 obtain⟨a,ns,k,rfl,hS,k0,k1,hn,q⟩:=h;exists (qa2 (qb5 (qan jf8 (pv 1) (qai qat rfl T.w29 vF #[pv 0]) (qaq _)) (qa6 (qak (qal qaj (pv 0) (pv 1) nofun))) qao)
  (qa2 (qb5 (qan (jc2 (hu8 hr)) (pv 0) jo5 (qaq _)) (qa6 (qak (qam qbw qa4 (pv 1)))) qao)
  (qa6 (qak (qam qax (qam qcn (qal qaj (pv 0) (qam qc8 (pv 1) (qai qat rfl T.w29 vF #[pv 0])) nofun) (qam qax (pv 1) qa4)) (qam qbw qa4 (pv 1))))))),[sr a,some (.int k)];left;have hl:(ns.map V.int).length=ns.length:=zB _;have ks:k.natAbs<2^600:=vJ (show k.natAbs<=1000 by omega) ∅;rw[hl];refine i_2 (fun c=>?_) (fun c=>?_)
 .have q:=q H (qas.refl _);unfold qbu at q;rw[iB c] at q;left;refine qb0 hS (jho k0 c) ?_;left;exact q
 .left;refine jtb fun pe hpe npe=>?_;have s1:=qa5 hpe (.lst []);have hS1:=s1.seq hS;have q:=q _ s1;have epe:upd H pe (.lst []) pe=some (.lst []):=qa1;generalize upd H pe (.lst [])=H1 at*;have ne:=npe a _ hS;refine jgh ne ∅ (qet (n:=0) hS1 (SqL.of epe) ne) ?_;have em:(ns.map V.int=[])=(ns=[]):=propext ⟨fun e=>by simpa using e,fun e=>by rw[e];rfl⟩;simp only[em];unfold qbu at q;rw[iA c] at q;by_cases c2:ns=[]
  .rw[iB c2] at q;rw[iC c2];left;exact q
  .rw[iA c2] at q;rw[iD c2];have l0:0<ns.length:=cE.mpr c2;left;rw[hl];have e0:=wA k (show((ns.length:Nat):Int)≠0 by omega);have e1:=vZ k (show(0:Int) <((ns.length:Nat):Int) by omega);left;refine qb0 hS1 (jho e0 e1) ?_;left;exact q
include T in
theorem w09:jab P w K mg base CX0 1 d.wgg d.web ["_law_cell_here","_law_k","_law_many"] (wfi K d):=by
 exists T.w15.ok wfc
 .right
 obtain⟨c,k,m,rfl,k0,k1,m0,m1,q⟩:=h;exists (qa2 (qae (i:=3) wfc.nd rfl (uI rfl) (qam qc8 (qam qbw (qam qax (qam qc8 (pv 0) qa4) (qam qbw qa4 (pv 1))) qa4) qa4))
  (qa6 (qak (qam qc8 (qam qcn (qam qc8 (qam qax (qam qbw (pv 3) (pv 3)) (pv 3)) qa4) qa4) (pv 2))))),[some (.int c),some (.int k),some (.int m),none];left;have a0:=wA c (show(1000003:Int)≠0 by decide);have a1:=vZ c (show(0:Int)<1000003 by decide);generalize c%1000003=u at*;left;have n0:=wA ((u+7919*k)*48271) (show(2147483647:Int)≠0 by decide);have n1:=vZ ((u+7919*k)*48271) (show(0:Int)<2147483647 by decide);generalize (u+7919*k)*48271%2147483647=y at*;left;exact q _ (wA _ #[]) (vZ _ #[])
def nJ(c1 sh A:Int)(j:Nat):Nat:=letc (c1.fdiv (0+(j:Int)+1)+(0+(j:Int))*(0+(j:Int))+sh*if decide (0+(j:Int)=A)=true then 1 else 0)
def nB(c1 sh A:Int)(L:Nat):List Nat:=(vB L).map (nJ c1 sh A)
def nE(c0:Int):Int:=c0.fdiv 64%2
def nL(c0:Int):Nat:=(1+c0%(8-nE c0)).toNat
def nA(c0:Int):Int:=c0.fdiv 8%((nL c0:Nat):Int)
def nmC(c0 c1:Int)(m:Int):List Nat:=if nE c0=1 then nB c1 (m.fdiv 2) (nA c0) (nL c0)++(if m%2=1 then[letc c1] else[]) else nB c1 m (nA c0) (nL c0)
def nmS(c0 c1:Int)(m:Int):Str:=ofL (nmC c0 c1 m)
theorem jlo(c0:Int):nE c0=0\/nE c0=1:=by unfold nE;omega
theorem jpl(c0:Int):1<=nL c0/\((nL c0:Nat):Int)<=8-nE c0/\((nL c0:Nat):Int)=1+c0%(8-nE c0):=by
 have h:=jlo c0;unfold nL;generalize nE c0=e at*;have f0:=wA c0 (show(8-e:Int)≠0 by omega);have f1:=vZ c0 (show(0:Int)<8-e by omega);omega
theorem jtr(c0:Int):0<=nA c0/\nA c0 <((nL c0:Nat):Int):=by
 have h:=(jpl c0).1;unfold nA;exact⟨wA _ #[],vZ _ #[]⟩
theorem qd1(c1 sh A:Int)(L:Nat):(nB c1 sh A L).length=L:=by unfold nB;rw[zB,yO]
theorem jnd{sh sh' A:Int}{L:Nat}(a0:0<=A)(a1:A<L)(h0:0<=sh)(h1:sh<26)(h2:0<=sh')(h3:sh'<26)(h:nB c1 sh A L=nB c1 sh' A L):sh=sh':=by
 have hj:=congrArg (fun l:List Nat=>l[A.toNat]?) h;unfold nB at hj;simp only[zC] at hj;rw[List.getElem?_range #[]] at hj;have hj':nJ c1 sh A A.toNat=nJ c1 sh' A A.toNat:=by simpa using hj
 unfold nJ at hj';have e:decide ((0:Int)+(A.toNat:Int)=A)=true:=iC #[];rw[e,iB rfl] at hj';have z:=jlm hj';generalize c1.fdiv (0+(A.toNat:Int)+1)+(0+(A.toNat:Int))*(0+(A.toNat:Int))=x at z;omega
theorem qgi{l:List Nat}(h1:1<=l.length)(h8:l.length<=8)(h:∀x∈l,isL x=true):qdt (ofL l)=true:=by
 unfold qdt;rw[qgc,qfg,vO,vO,decide_eq_true_iff,decide_eq_true_iff,yF];exact⟨⟨h1,h8⟩,h⟩
def jjp(c1 sh A:Int)(L:Nat):∀x∈nB c1 sh A L,isL x=true:=fun x hx=>by
 unfold nB at hx;obtain⟨j,_,rfl⟩:=zJ.mp hx;exact jfu _
theorem jlp(c0 c1 m:Int):qdt (nmS c0 c1 m)=true:=by
 obtain⟨h1,h2,_⟩:=jpl c0;unfold nmS nmC;rcases jlo c0 with e|e
 .rw[iA #[]];exact qgi (by rw[qd1];exact h1) (by rw[qd1];omega) (jjp _ _ _ _)
 .rw[iB e];by_cases c:m%2=1
  .rw[iB c];refine qgi (by rw[zF,qd1];omega) (by rw[zF,qd1,yA];omega) fun x hx=>?_;rcases zP.mp hx with h|h
   .exact jjp _ _ _ _ x h
   .rw[zG.mp h];exact jfu _
  .rw[iA c,yC];exact qgi (by rw[qd1];exact h1) (by rw[qd1];omega) (jjp _ _ _ _)
theorem jpm{c0 m m':Int}(m0:0<=m)(m1:m<26)(m2:0<=m')(m3:m'<26)(h:nmS c0 c1 m=nmS c0 c1 m'):m=m':=by
 have z:=jph h;obtain⟨a0,a1⟩:=jtr c0;unfold nmC at z;have d1:m.fdiv 2=m/2:=aE m ∅;have d2:m'.fdiv 2=m'/2:=aE m' ∅;rcases jlo c0 with e|e
 .rw[iA #[],iA #[]] at z;exact jnd a0 a1 m0 m1 m2 m3 z
 .rw[iB e,iB e,d1,d2] at z;have hl:=congrArg wV z;rw[zF,zF,qd1,qd1] at hl;have hx:=jnd a0 a1 (show 0<=m/2 by omega) #[] (show 0<=m'/2 by omega) #[] (List.append_inj_left z (by rw[qd1,qd1]));by_cases c:m%2=1
  .by_cases c':m'%2=1
   .omega
   .rw[iB c,iA c'] at hl;have hl:nL c0+1=nL c0+0:=hl;omega
  .by_cases c':m'%2=1
   .rw[iA c,iB c'] at hl;have hl:nL c0+0=nL c0+1:=hl;omega
   .omega
structure Nms(ss:List Str)(n:Nat):Prop where
 len:ss.length=n
 nd:ss.Nodup
 good:∀z∈ss,qdt z=true
theorem jne{c0 b:Int}(b0:0<=b)(b1:b+n<=26):Nms ((vB n).map fun(k:Nat)=>nmS c0 c1 (b+(k:Int))) n:=by
 refine⟨by rw[zB,yO],?_,fun z hz=>?_⟩
 .show fM _ _;rw[bI];refine List.Pairwise.imp_of_mem (R:=fun a b=>a<b) (fun {x y} hx hy lt e=>?_) List.pairwise_lt_range;have h1:=yP.mp hx;have h2:=yP.mp hy;have:=jpm #[] #[] #[] #[] e;omega
 .obtain⟨k,_,rfl⟩:=zJ.mp hz;exact jlp _ _ _
theorem jpn(l l':List Nat):ofL l++ofL l'=ofL (l++l'):=by
 have e:(ofL l++ofL l').cps=(ofL (l++l')).cps:=by
  rw[Str.cps_append];simp[ofL]
 exact congrArg Str.mk e
def wfu(K:uT)(d:Ad):Sp:=fun vs H Q _=>∃(a:Addr)(ns:List Int)(m:Int),vs=[.ref a,.int m]/\SqL K H a (ns.map V.int)/\ns.length<=63/\0<=m/\m<=25/\∀H',qas H H'->Q (.str (nmS (qbu ns 0) (qbu ns 1) m)) H'
include T in
theorem wah:jab P w K mg base CX0 2 d.wdx d.wcq ["_law_script","_law_number"] (wfu K d):=by
 exists T.wau.ok w2q
 .right
 obtain⟨a,ns,m,rfl,hS,h63,m0,m1,q⟩:=h;exists (qa2 (qae (i:=2) w2q.nd rfl (uI rfl) qcl)
  (qa2 (qae (i:=3) w2q.nd rfl (uI rfl) (qa9 ((w22 T).mono ∅) hr rfl T.w3m T.w3e.kp T.w3n .nil qah #[pv 0,qa4]))
  (qa2 (qae (i:=4) w2q.nd rfl (uI rfl) (qam qax qa4 (qam qc8 (pv 3) (qam qf5 qa4 (qam qc8 (qam qcn (pv 3) qa4) qa4)))))
  (qa2 (qae (i:=5) w2q.nd rfl (uI rfl) (qam qc8 (qam qcn (pv 3) qa4) (pv 4)))
  (qa2 (qae (i:=6) w2q.nd rfl (uI rfl) (pv 1))
  (qa2 (qae (i:=7) w2q.nd rfl (uI rfl) qcl)
  (qa2 (qbg (qb5 (qan qcc (qam qc8 (qam qcn (pv 3) qa4) qa4) qa4 (qaq _)) (qa2 (qae (i:=6) w2q.nd rfl (uI rfl) (qam qcn (pv 1) qa4))
  (qa6 (qae (i:=7) w2q.nd rfl (uI rfl) (qam jr2 (qal jl8 (pv 2) (qam qc8 (qa9 ((w22 T).mono ∅) hr rfl T.w3m T.w3e.kp T.w3n .nil qah #[pv 0,qa4]) qa4) nofun) (qam qc8 (pv 1) qa4))))) qao))
  (qa2 (qae (i:=8) w2q.nd rfl (uI rfl) qcl)
  (qa2 (qbc vE rfl (qbv rfl T.w3l #[pv 4]) (qab (i:=9) w2q.nd rfl (uI rfl)) (qa6 (qae (i:=8) w2q.nd rfl (uI rfl) (qam jd3 (pv 8) (qal jl8 (pv 2) (qam qc8 (qam qax (qam qax (qam qcn (qa9 ((w22 T).mono ∅) hr rfl T.w3m T.w3e.kp T.w3n .nil qah #[pv 0,qa4]) (qam qax (pv 9) qa4)) (qam qbw (pv 9) (pv 9))) (qam qbw (pv 6) (qaz qe3 rfl T.wej xX #[qbs qcc (pv 9) (pv 5) (qaq _)]))) qa4) nofun)))))
  (qa6 (qak (qam jd3 (pv 8) (pv 7))))))))))))),[sr a,some (.int m),none,none,none,none,none,none,none,none];left;refine⟨a,ns,0,rfl,hS,∅,∅,h63,fun H1 s1=>?_⟩;generalize hc0:qbu ns 0=c0 at*;generalize hc1:qbu ns 1=c1 at*;have hS1:=s1.seq hS;obtain⟨L1,L8,eL⟩:=jpl c0;obtain⟨A0,A1⟩:=jtr c0;have E01:=jlo c0;have q:∀H',qas H1 H'->Q (.str (nmS c0 c1 m)) H':=fun H' s'=>q H' (s1.trans s');left;have eL':1+c0%(8-c0.fdiv 64%2)=((nL c0:Nat):Int):=eL.symm;rw[eL'];refine r_I #[] ?_;have eA:c0.fdiv 8%((nL c0:Nat):Int)=nA c0:=rfl;rw[eA];clear eL eL' eA;have eN:((nL c0:Nat):Int).toNat=nL c0:=by omega
 generalize hLi:((nL c0:Nat):Int)=Li at*;generalize hAi:nA c0=A at*;left;refine qce (fun σ' H'=>∃(sh:Int)(tl:List Nat),σ'=[sr a,some (.int m),some (.str ABC),some (.int c0),some (.int Li),some (.int A),some (.int sh),some (.str (ofL tl)),none,none]/\qas H1 H'/\0<=sh/\sh<=25/\tl.length<=1/\nmC c0 c1 m=nB c1 sh A (nL c0)++tl) ?_ ?_
 .left;refine i_2 (fun c=>?_) (fun c=>?_)
  .have ed:m.fdiv 2=m/2:=aE m ∅;have ez:nmC c0 c1 m=nB c1 (m.fdiv 2) A (nL c0)++(if m%2=1 then[letc c1] else[]):=by unfold nmC;rw[iB (show nE c0=1 from c),hAi]
   left;refine⟨a,ns,1,rfl,hS1,∅,∅,h63,fun H2 s2=>?_⟩;rw[hc1];left;refine jrz ∅ (jtm _) ?_;left;refine jvk #[] #[] ?_;left;refine⟨m.fdiv 2,if m%2=1 then[letc c1] else[],?_,s2,#[],#[],by split;exact uH _;exact wI _,ez⟩;by_cases c3:m%2=1
   .rw[iB c3,iA #[]];rfl
   .rw[iA c3,iB #[]];rfl
  .left;refine⟨m,[],rfl,qas.refl _,m0,#[],∅,?_⟩;unfold nmC;rw[iA (show ¬nE c0=1 from c),yC,hAi]
 rintro σ' H2 ⟨sh,tl,rfl,s2,h0,h1,ht,ez⟩;left;rw[eN];have shs:sh.natAbs<2^600:=vJ (show sh.natAbs<=25 by omega) ∅;refine qcz (fun i σ H'=>∃(w:Option V),σ=[sr a,some (.int m),some (.str ABC),some (.int c0),some (.int Li),some (.int A),some (.int sh),some (.str (ofL tl)),some (.str (ofL (nB c1 sh A i))),w]/\qas H2 H') ⟨_,rfl,qas.refl _⟩ ?_ ?_
 .rintro i σ H' hi ⟨w,rfl,s3⟩;have ki:((0:Int)+(i:Int)).natAbs<2^600:=vJ (show((0:Int)+(i:Int)).natAbs<=8 by omega) ∅;have ez:nB c1 sh A (i+1)=nB c1 sh A i++[nJ c1 sh A i]:=by unfold nB;rw[List.range_succ,zE];rfl
  have lz:(ofL (nB c1 sh A i)).length=i:=by rw[qgc,qd1]
  left;refine⟨a,ns,1,rfl,(s2.trans s3).seq hS1,∅,∅,h63,fun H4 s4=>?_⟩;rw[hc1];left;refine jrz ∅ (jtm _) ?_;refine jc1 ?_ ?_
  .rw[lz];show _+1<=16777216;omega
  left;rw[ez,<-jln];exact⟨_,rfl,s3.trans s4⟩
 .rintro σ H' ⟨w,rfl,s3⟩;have ln:(ofL (nB c1 sh A (nL c0))).length=nL c0:=by rw[qgc,qd1]
  left;refine jc1 (by rw[ln,qgc];show nL c0+_<=16777216;omega) ?_;left;have en:ofL (nB c1 sh A (nL c0))++ofL tl=nmS c0 c1 m:=by
   unfold nmS;rw[ez];exact jpn _ _
  rw[en];exact q _ (s2.trans s3)
theorem jde{el el':Nat->Nat}{n:Nat}(lo:∀j,0<j->j<=n->el j<j)(h:∀j,0<j->j<=n->el j=el' j):∀(f k:Nat),k<=n->upL el f k=upL el' f k
 |0,_,_=>rfl
 |f+1,k,hk=>by
  show k ::(if k=0 then[] else upL el f (el k))=k ::(if k=0 then[] else upL el' f (el' k));by_cases c:k=0
  .rw[iB c,iB c]
  .rw[iA c,iA c,<-h k #[] hk,jde lo h f (el k) (by have:=lo k #[] hk;omega)]
structure jaz(H:Hp)(le:Addr)(las:List Addr)(es:List Nat):Prop where
 top:H le=some (.lst (las.map V.ref))
 len:las.length=es.length+1
 row:∀(k:Nat)(a:Addr),las[k]?=some a->H a=some (.lst ((qac (elN es) k).map iV))
 lo:∀(k e:Nat),es[k]?=some e->e<=k/\e<=10
def jaz.same{H H':Hp}{le:Addr}{las:List Addr}{es:List Nat}(h:jaz H le las es)(s:qas H H'):jaz H' le las es:=⟨s _ _ h.top,h.len,fun k a e=>s _ _ (h.row k a e),h.lo⟩
theorem jaz.at{le:Addr}(h:jaz H le las es){k:Nat}(hk:k<es.length+1):∃a,las[k]?=some a/\atI (las.map V.ref) ((k:Nat):Int)=some (.ref a)/\H a=some (.lst ((qac (elN es) k).map iV)):=by
 have e:=zA (show k<las.length by rw[h.len];exact hk);exact⟨_,e,qar (by rw[zC,e];rfl),h.row k _ e⟩
theorem jjq(h:∀(k e:Nat),es[k]?=some e->e<=k/\e<=10)(hx:x<=es.length)(h10:x<=10):∀(k e:Nat),(es++[x])[k]?=some e->e<=k/\e<=10:=fun k e hk=>by
 by_cases c:k<es.length
 .rw[yD c] at hk;exact h k e hk
 .rw[zZ #[]] at hk;by_cases z:k-es.length=0
  .rw[z] at hk;have:x=e:=by simpa using hk
   subst this;exact⟨#[],h10⟩
  .rw[bO (by rw[yA];omega)] at hk
   cases hk
theorem jlq(h0:0<j)(h:j<=es.length):elN (es++[x]) j=elN es j:=by
 cases j with
 |zero=>omega
 |succ b=>
  have h1:b<es.length:=by omega
  rw[jdc (es:=es++[x]) (b:=b) (by rw[zF];omega),jdc h1,List.getElem_append_left h1]
theorem jdf(lo:∀(k e:Nat),es[k]?=some e->e<=k/\e<=10)(h:j<=es.length):qac (elN (es++[x])) j=qac (elN es) j:=by
 have low:=qdu (fun k e h=>(lo k e h).1) (es.length+1);exact(jde (n:=es.length) (fun i h0 h1=>low i h0 #[]) (fun i h0 h1=>(jlq h0 h1).symm) j j h).symm
theorem jlr(lo:∀(k e:Nat),es[k]?=some e->e<=k/\e<=10)(hx:x<=es.length)(h10:x<=10):qac (elN (es++[x])) (es.length+1)=(es.length+1)::qac (elN es) x:=by
 have low:=qdu (fun k e h=>(jjq lo hx h10 k e h).1) (es.length+2);rw[qc6 low #[] #[]];have e:elN (es++[x]) (es.length+1)=x:=by
  rw[jdc (es:=es++[x]) (b:=es.length) (by rw[zF];show _<_+1;omega)];simp
 rw[e,jdf lo hx]
theorem jaz.snoc{le p:Addr}(h:jaz H le las es)(hx:x<=es.length)(h10:x<=10)(hp:H p=some (.lst (((es.length+1)::qac (elN es) x).map iV)))(np:p≠le)(nl:∀a∈las,a≠le):jaz (upd H le (.lst (las.map V.ref++[V.ref p]))) le (las++[p]) (es++[x]):=by
 refine⟨by rw[qa1,zE];rfl,by rw[zF,zF,h.len];rfl,fun k a e=>?_,jjq h.lo hx h10⟩;have hl:=h.len;by_cases c:k<las.length
 .rw[yD c] at e;rw[qa7 (nl a (zD e)),jdf h.lo #[]];exact h.row k a e
 .have h1:=(uG.mp e).1;rw[zF,yA] at h1;have ek:k=las.length:=by omega
  rw[zZ #[],ek,eB] at e;have e:p=a:=by simpa using e
  rw[<-e,qa7 np,ek,hl,jlr h.lo hx h10];exact hp
def wf9(K:uT)(d:Ad):Sp:=fun vs H Q _=>∃(a:Addr)(ns:List Int)(n:Nat),vs=[.ref a,.int (n:Int)]/\SqL K H a (ns.map V.int)/\ns.length<=63/\1<=n/\n<=6/\
 ∀(le:Addr)(las:List Addr)(es:List Nat)(H':Hp),qas H H'->jaz H' le las es->es.length+1=n->Q (.ref le) H'
include T in
theorem wf3:jab P w K mg base CX0 2 d.wcu d.wa1 ["_law_script","_law_many"] (wf9 K d):=by
 exists T.wec.ok w6q
 .right
 obtain⟨a,ns,n,rfl,hS,h63,n1,n6,q⟩:=h;exists (qa2 (qae (i:=2) w6q.nd rfl (uI rfl) (qbl #[qbl #[qa4]]))
  (qa2 (qbc vE rfl (jce rfl T.w3l #[qa4,pv 1]) (qab (i:=3) w6q.nd rfl (uI rfl)) (qa2 (qae (i:=4) w6q.nd rfl (uI rfl) (qa9 ((w09 T).mono ∅) hr rfl T.w18 T.w15.kp T.w1b .nil qah #[qa9 ((w22 T).mono ∅) hr rfl T.w3m T.w3e.kp T.w3n .nil qah #[pv 0,qa4],pv 3,pv 3]))
  (qa2 (qbg (qb5 (qan qcc (qam qc8 (qa9 ((w22 T).mono ∅) hr rfl T.w3m T.w3e.kp T.w3n .nil qah #[pv 0,qa4]) qa4) qa4 (qaq _)) (qa6 (qae (i:=4) w6q.nd rfl (uI rfl) (qam qf5 (pv 3) qa4))) qao))
  (qa6 (qb2 (qdn vD vQ vR qbi (pv 2) #[qam jhk (qbl #[pv 3]) (qal qaj (pv 2) (pv 4) nofun)]))))))
  (qa6 (qak (pv 2))))),[sr a,some (.int (n:Int)),none,none,none];left;rename_i l0 hl0 le hle;have s1:=qa5 hl0 (.lst [.int 0]);have e0:upd H l0 (.lst [.int 0]) l0=some (.lst [.int 0]):=qa1;generalize upd H l0 (.lst [.int 0])=H1 at*;have s2:=s1.trans (qa5 hle (.lst [V.ref l0]));have e02:=qad (o':=.lst [V.ref l0]) e0 hle;have ele:upd H1 le (.lst [V.ref l0]) le=some (.lst [V.ref l0]):=qa1;have nl0:l0≠le:=qa8 e0 hle;have fle:H le=none:=s1.free hle;generalize upd H1 le (.lst [V.ref l0])=H2 at*;have L0:jaz H2 le [l0] []:=⟨ele,rfl,fun k x e=>by
  have hk:k=0:=by
   have:=(uG.mp e).1;rw[yA] at this;omega
  subst hk;have e:l0=x:=by simpa using e
  rw[<-e];exact e02,fun k e h=>by simp at h⟩
 clear e0 e02 ele hl0 hle s1;generalize hni:((n:Nat):Int)=ni at*;unfold jnv;left;refine⟨1,_,rfl,⟨∅,∅,#[],#[]⟩,?_⟩;refine qcz (fun i σ H'=>∃(las:List Addr)(es:List Nat)(w3 w4:Option V),σ=[sr a,some (V.int ni),sr le,w3,w4]/\qas H H'/\jaz H' le las es/\es.length=i/\∀x∈las,x≠le) ⟨[l0],[],_,_,rfl,s2,L0,rfl,fun x hx=>by rw[zG.mp hx];exact nl0⟩ ?_ ?_
 .rintro i σ H' hi ⟨las,es,w3,w4,rfl,sm,L,hel,nla⟩;have hi:i <(ni-1).toNat:=hi;have hS':=sm.seq hS;left;refine⟨a,ns,2,rfl,hS',∅,∅,h63,fun H3 s3=>?_⟩;left;refine qbo #[] #[] #[] #[] fun r r0 r1=>?_;left;refine qce (fun σ' H4=>∃e:Nat,σ'=[sr a,some (V.int ni),sr le,some (V.int (1+(i:Int))),some (V.int (e:Int))]/\qas H3 H4/\e<=i) ?_ ?_
  .left;refine⟨a,ns,2,rfl,s3.seq hS',∅,∅,h63,fun H4 s4=>?_⟩;left;refine i_2 (fun c=>?_) (fun c=>?_)
   .left;exact⟨i,by rw[show(1:Int)+(i:Int)-1=(i:Int) by omega],s4,uH _⟩
   .left;exact⟨r.toNat,by rw[Int.toNat_of_nonneg r0],s4,#[]⟩
  rintro σ' H4 ⟨e,rfl,s4,he⟩;have t4:=s3.trans s4;have L4:=L.same t4;obtain⟨x,hx,ax,ex⟩:=L4.at (k:=e) #[];have etop:=L4.top;have zl:(las.map V.ref).length<sizeLine:=by rw[zB,L.len];show _<16777216;omega
  have ll:=qci (qdu (fun k e h=>(L.lo k e h).1) (es.length+1)) e #[];clear r0 r1;generalize hei:((e:Nat):Int)=ei at*;left;rename_i pk hpk;have s5:=qa5 hpk (.lst [V.int (1+(i:Int))]);have epk:upd H4 pk (.lst [V.int (1+(i:Int))]) pk=some (.lst [V.int (1+(i:Int))]):=qa1;have L5:=L4.same s5;generalize upd H4 pk (.lst [V.int (1+(i:Int))])=H5 at*;refine qb0 (SqL.of L5.top) ax ?_;refine jon epk (s5 _ _ ex) (by rw[zB];show 1+_<=16777216;omega) fun p hp=>?_;have eap: [V.int (1+(i:Int))]++(qac (elN es) e).map iV=((es.length+1)::qac (elN es) e).map iV:=by
   rw[zT];show V.int (1+(i:Int))::_=V.int (((es.length+1:Nat)):Int)::_;rw[show(1:Int)+(i:Int)=((es.length+1:Nat):Int) by omega];rfl
  rw[eap];have s6:=qa5 hp (.lst (((es.length+1)::qac (elN es) e).map iV));have ep:upd H5 p (.lst (((es.length+1)::qac (elN es) e).map iV)) p=some (.lst (((es.length+1)::qac (elN es) e).map iV)):=qa1;have L6:=L5.same s6;have np:p≠le:=(qa8 L5.top hp).symm;generalize upd H5 p (.lst (((es.length+1)::qac (elN es) e).map iV))=H6 at*;clear etop epk ex ax hpk hp eap;have etop:=L6.top;left;refine⟨las++[p],es++[e],_,_,rfl,qaw (((sm.trans t4).trans s5).trans s6) fle,L6.snoc #[] #[] ep np nla,by rw[zF,hel];rfl,fun y hy=>?_⟩;rcases zP.mp hy with hy|hy
  .exact nla y hy
  .rw[zG.mp hy];exact np
 .rintro σ H' ⟨las,es,w3,w4,rfl,sm,L,hel,nla⟩;left;exact q le las es H' sm L #[]
def tdS(f:Str->Option Int)(p:Str×Int):Str->Option Int:=if 0<p.2 then qfn f p.1 p.2 else f
def tdP(k:List (Key×V))(p:Str×Int):List (Key×V):=if 0<p.2 then qcp k (uV p.1) (.int p.2) else k
def tdF(l:List (Str×Int)):Str->Option Int:=l.foldl tdS noF
def tdK(l:List (Str×Int)):List (Key×V):=l.foldl tdP []
theorem jpo(l:List (Str×Int))(p:Str×Int):tdF (l++[p])=tdS (tdF l) p/\tdK (l++[p])=tdP (tdK l) p:=by
 unfold tdF tdK;rw[cY,cY];exact⟨rfl,rfl⟩
theorem jnf:∀(l:List (Str×Int)){k:List (Key×V)}{f:Str->Option Int},AD k f->AD (l.foldl tdP k) (l.foldl tdS f)
 | [],_,_,h=>h
 |p::l,k,f,h=>by
  rw[yR,yR];refine jnf l ?_;unfold tdP tdS;by_cases c:0<p.2
  .rw[iB c,iB c];exact h.put _ _
  .rw[iA c,iA c];exact h
def qe6(l:List (Str×Int)):AD (tdK l) (tdF l):=jnf l AD.nil
theorem jjr:∀(l:List (Str×Int))(k:List (Key×V)),(l.foldl tdP k).length<=k.length+l.length
 | [],k=>uH _
 |p::l,k=>by
  rw[yR,zK];have h:=jjr l (tdP k p);have:(tdP k p).length<=k.length+1:=by
   unfold tdP;by_cases c:0<p.2
   .rw[iB c];have:=qbd k (uV p.1) (.int p.2);omega
   .rw[iA c];omega
  omega
theorem jng(l:List (Str×Int)):(tdK l).length<=l.length:=by
 have:=jjr l [];rw[yS,Nat.zero_add] at this;exact this
theorem jel:∀(l:List (Str×Int))(f:Str->Option Int)(z:Str),z∉l.map (·.1)->l.foldl tdS f z=f z
 | [],_,_,_=>rfl
 |p::l,f,z,h=>by
  rw[zT,zO,not_or] at h;rw[yR,jel l _ z h.2];unfold tdS;by_cases c:0<p.2
  .rw[iB c];unfold qfn;rw[iA h.1]
  .rw[iA c]
theorem jnh:∀(l:List (Str×Int))(f:Str->Option Int)(p:Str×Int),(l.map (·.1)).Nodup->p∈l->f p.1=none->l.foldl tdS f p.1=if 0<p.2 then some p.2 else none
 | [],_,_,_,h,_=>absurd h (by simp)
 |x::l,f,p,nd,h,hf=>by
  rw[zT,zV] at nd;rw[yR];rcases zO.mp h with e|e
  .subst e;rw[jel l _ _ nd.1];unfold tdS;by_cases c:0<p.2
   .rw[iB c,iB c];unfold qfn;rw[iB rfl]
   .rw[iA c,iA c];exact hf
  .have ne:p.1≠x.1:=fun z=>nd.1 (z▸zJ.mpr ⟨p,e,rfl⟩);refine jnh l _ p nd.2 e ?_;unfold tdS;by_cases c:0<x.2
   .rw[iB c];unfold qfn;rw[iA ne];exact hf
   .rw[iA c];exact hf
theorem jjs{ps:List Int}(h:ws.length=ps.length):(ws.zip ps).map (·.1)=ws:=by
 rw[List.map_fst_zip #[]]
theorem jni{ps:List Int}(h:ws.length=ps.length)(nd:ws.Nodup){j:Nat}(h1:j<ws.length)(h2:j<ps.length):tdF (ws.zip ps) ws[j]=if 0<ps[j] then some ps[j] else none:=by
 have hm:(ws[j],ps[j])∈ws.zip ps:=by
  refine zR.mpr ⟨j,by rw[eG];omega,?_⟩;rw[List.getElem_zip]
 exact jnh (ws.zip ps) noF (ws[j],ps[j]) (by rw[jjs h];exact nd) hm rfl
def jjt{ps:List Int}(h:ws.length=ps.length):InW ws (tdF (ws.zip ps)):=fun z hz=>by
 apply Classical.byContradiction;intro c;exact hz (jel (ws.zip ps) noF z (by rw[jjs h];exact c))
theorem jem{ps:List Int}{B:Int}(h:ws.length=ps.length)(nd:ws.Nodup)(hp:∀p∈ps,p<=B):jtn ws B (tdF (ws.zip ps)):=fun z n e=>by
 have hz:=jjt h z (by rw[e];simp);obtain⟨j,hj,rfl⟩:=zR.mp hz;have hj2:j<ps.length:=by omega
 rw[jni h nd hj hj2] at e;by_cases c:0<ps[j]
 .rw[iB c] at e;have e:ps[j]=n:=uW e;exact⟨hz,#[],by rw[<-e];exact hp _ (zL hj2)⟩
 .rw[iA c] at e;cases e
theorem jdg{ps:List Int}(h:ws.length=ps.length)(nd:ws.Nodup)(h0:∀p∈ps,0<=p){j:Nat}(h1:j<ws.length)(h2:j<ps.length):gN (tdF (ws.zip ps)) ws[j]=ps[j]:=by
 unfold gN;rw[jni h nd h1 h2];have:=h0 _ (zL h2);by_cases c:0<ps[j]
 .rw[iB c];rfl
 .rw[iA c];show(0:Int)=_;omega
def wg4(K:uT)(d:Ad):Sp:=fun vs H Q _=>∃(lw lp:Addr)(ws:List Str)(ps:List Int),vs=[.ref lw,.ref lp]/\SqL K H lw (ws.map V.str)/\SqL K H lp (ps.map V.int)/\ws.length=ps.length/\ws.length<=100/\
 ∀(l:Addr)(H':Hp),qas H H'->H l=none->H' l=some (.dK (tdK (ws.zip ps)))->Q (.ref l) H'
include T in
theorem w4n:jab P w K mg base CX0 1 d.we9 d.wcb ["_law_wares","_law_parts_here"] (wg4 K d):=by
 exists T.w5w.ok w9y
 .right
 obtain⟨lw,lp,ws,ps,rfl,hW,hP,hwp,h100,q⟩:=h;exists (qa2 (qae (i:=2) w9y.nd rfl (uI rfl) qg9)
  (qa2 (qbc vE rfl (jmt rfl T.wgo #[pv 0,pv 1]) (qd8 rfl (qaf (qab (i:=3) w9y.nd rfl (uI rfl)) (qaf (qab (i:=4) w9y.nd rfl (uI rfl)) qch))) (qa6 (qbg (qb5 (qan qgb (pv 4) qa4 (qaq _)) (qa6 (qcv (qc3 hr) (pv 2) (pv 3) (pv 4) rfl)) qao))))
  (qa6 (qak (pv 2))))),[sr lw,sr lp,none,none,none];left;rename_i l hl;have s1:=qa5 hl (.dK []);refine jsj (s1.seq hW) (s1.seq hP) ?_;refine jsk (by rw[zB,zB];exact hwp) (fun i σ H'=>∃w1 w2:Option V,σ=[sr lw,sr lp,sr l,w1,w2]/\qas H H'/\H' l=some (.dK (tdK ((ws.zip ps).take i)))) ⟨_,_,rfl,s1,qa1⟩ ?_ ?_ ?_
 .rintro i σ H' ⟨w1,w2,rfl,sm,el⟩;exact⟨sm.seq hW,sm.seq hP⟩
 .rintro i x y Tt σ H' hx hy ⟨w1,w2,rfl,sm,el⟩ hTt;rw[zC] at hx hy;obtain⟨z,hz,rfl⟩:=uY.mp hx;obtain⟨n,hn,rfl⟩:=uY.mp hy;have hzn:(ws.zip ps)[i]?=some (z,n):=by rw[List.getElem?_zip_eq_some];exact⟨hz,hn⟩
  have tk:(ws.zip ps).take (i+1)=(ws.zip ps).take i++[(z,n)]:=by rw[zM,hzn];rfl
  have st:=jpo ((ws.zip ps).take i) (z,n);rw[<-tk] at st;have s2:=qa5 hTt (.tup [.str z,.int n]);have el2:=s2 _ _ el;have tT:upd H' Tt (.tup [.str z,.int n]) Tt=some (.tup [.str z,.int n]):=qa1;generalize upd H' Tt (.tup [.str z,.int n])=H2 at*;have kl:(tdK ((ws.zip ps).take i)).length<sizeLine:=by
   have:=jng ((ws.zip ps).take i);rw[zS,eG] at this;show _<16777216;omega
  rw[st.2];unfold tdP;clear hx hy hz hn hzn tk st;left;refine jcs ?_;left;refine i_2 (fun c=>?_) (fun c=>?_)
  .left;exact⟨_,_,rfl,qaw (sm.trans s2) hl,by rw[qa1,iB c]⟩
  .left;exact⟨_,_,rfl,sm.trans s2,by rw[iA c];exact el2⟩
 .rintro σ H' ⟨w1,w2,rfl,sm,el⟩;left;rw[zB,show(ws.zip ps).take ws.length=ws.zip ps from bJ (by rw[eG];omega)] at el;exact q l H' sm hl el
structure Sc(sc:Int):Prop where
 lo:1<=sc
 hi:sc<=10^27
structure jgr(p:Int):Prop where
 lo:0<=p
 hi:p<=6*10^27
structure jy9(x:Int):Prop where
 hi:x<=5*10^27
def wew(K:uT)(d:Ad):Sp:=fun vs H Q _=>∃(c sc:Int)(k:Nat),vs=[.int c,.int (k:Int),.int sc]/\1<=k/\k<=6/\Sc sc/\
 ∀(l:Addr)(ps:List Int)(H':Hp),qas H H'->H l=none->H' l=some (.lst (ps.map V.int))->ps.length=k->(∀p∈ps,jgr p)->(∃p∈ps,0<p)->Q (.ref l) H'
include T in
theorem wcy:jab P w K mg base CX0 2 d.wcf d.wai ["_law_cell_here","_law_kinds","_law_scale"] (wew K d):=by
 exists T.wc4.ok w7u
 .right
 obtain⟨c,sc,k,rfl,k1,k3,hsc,q⟩:=h;exists (qa2 (qae (i:=3) w7u.nd rfl (uI rfl) (qbl qa3))
  (qa2 (qbc vE rfl (qbv rfl T.w3l #[pv 1]) (qab (i:=4) w7u.nd rfl (uI rfl)) (qa2 (qae (i:=5) w7u.nd rfl (uI rfl) (qam qax (qam qbw (qa9 ((w09 T).mono ∅) hr rfl T.w18 T.w15.kp T.w1b .nil qah #[pv 0,qam qax qa4 (pv 4),qa4]) (pv 2)) (qa9 ((w09 T).mono ∅) hr rfl T.w18 T.w15.kp T.w1b .nil qah #[pv 0,qam qax qa4 (pv 4),qa4])))
  (qa6 (qb2 (qdn vD vQ vR qbi (pv 3) #[qam qbw (pv 5) (qai (jih rfl) rfl T.wgz PyProof.Rows.boot_min #[qa4,qa9 ((w09 T).mono ∅) hr rfl T.w18 T.w15.kp T.w1b .nil qah #[pv 0,qam qax qa4 (pv 4),qa4]])])))))
  (qa2 (qbg (qb5 (qan qcc (qai (jir rfl) rfl T.wgw PyProof.Rows.boot_max #[pv 3]) qa4 (qaq _)) (qa6 (qdq (pv 3) (qa9 ((w09 T).mono ∅) hr rfl T.w18 T.w15.kp T.w1b .nil qah #[pv 0,qa4,pv 1]) (pv 2) rfl)) qao))
  (qa6 (qak (pv 3)))))),[some (.int c),some (.int (k:Int)),some (.int sc),none,none,none];have ek:((k:Nat):Int).toNat=k:=by omega
 generalize hki:((k:Nat):Int)=ki at*;have sb:sc.natAbs<2^200:=by
  have a:=hsc.lo;have b:=hsc.hi;exact vJ (show sc.natAbs<=10^28 by omega) ∅
 have s0:0<=sc:=by have:=hsc.lo;omega
 have sb6:sc.natAbs<2^600:=gL sb ∅;left;rename_i l hl;rw[ek];refine qcz (fun i σ H'=>∃(ps:List Int)(w1 w2:Option V),σ=[some (V.int c),some (V.int ki),some (V.int sc),sr l,w1,w2]/\H'=upd H l (.lst (ps.map V.int))/\ps.length=i/\∀p∈ps,jgr p) ⟨[],_,_,rfl,rfl,rfl,fun p h=>by simp at h⟩ ?_ ?_
 .rintro i σ H' hi ⟨ps,w1,w2,rfl,rfl,hlen,hp⟩;have zl:(ps.map V.int).length<sizeLine:=by rw[zB];show _<16777216;omega
  have b2:((2:Int)).natAbs<2^600/\((0:Int)+(i:Int)).natAbs<2^600:=⟨∅,vJ (show((0:Int)+(i:Int)).natAbs<=5 by omega) ∅⟩;left;refine qbo #[] #[] ∅ ∅ fun r r0 r1=>?_;have rb:r.natAbs<2^600:=vJ (show r.natAbs<=5 by omega) ∅;left;refine qbo #[] #[] ∅ ∅ fun r2 a0 a1=>?_;left;refine qbo #[] #[] ∅ ∅ fun r3 d0 d1=>?_;have x0:0<=r*sc:=Int.mul_nonneg r0 s0;have xu:jy9 (r*sc):=⟨Int.mul_le_mul (show r<=5 by omega) hsc.hi s0 ∅⟩;have xb:(r*sc).natAbs<2^300:=by
   rw[Int.natAbs_mul];exact vJ (Nat.mul_le_mul (show r.natAbs<=5 by omega) (cF sb)) ∅
  generalize r*sc=x at*;have yb:(x+r2).natAbs<2^600:=vJ (show(x+r2).natAbs<=2^300+10 by omega) ∅;have y0:0<=x+r2:=by omega
  have yu:jgr (x+r2):=⟨y0,by have:=xu.hi;omega⟩;generalize x+r2=y at*;left;have m0:(if r3<1 then r3 else(1:Int))=0\/(if r3<1 then r3 else(1:Int))=1:=by split<;>omega
  have m1:(if r3<1 then r3 else(1:Int)).natAbs<2^600:=vJ (show _<=5 by split<;>omega) ∅;generalize (if r3<1 then r3 else(1:Int))=z at*;refine⟨ps++[y*z],_,_,rfl,by rw[qbn,zE];rfl,by rw[zF,hlen];rfl,fun p h=>?_⟩;rcases zP.mp h with h|h
  .exact hp p h
  .rw[zG.mp h];rcases m0 with e|e
   .rw[e,Int.mul_zero];exact⟨∅,∅⟩
   .rw[e,Int.mul_one];exact yu
 .rintro σ H' ⟨ps,w1,w2,rfl,rfl,hlen,hp⟩;left;refine qce (fun σ' H'=>∃(ps:List Int)(w1 w2:Option V),σ'=[some (V.int c),some (V.int ki),some (V.int sc),sr l,w1,w2]/\H'=upd H l (.lst (ps.map V.int))/\ps.length=k/\(∀p∈ps,jgr p)/\∃p∈ps,0<p) ?_ ?_
  .left;refine jsy (SqL.of qa1) #[] fun m hm0 _=>?_;left;refine i_2 (fun c0=>?_) (fun c0=>?_)
   .left;refine qbo ∅ ∅ #[] #[] fun r r0 r1=>?_;refine jd6 qa1 (k:=r.toNat) (by rw[zB];omega) ?_ #[];left;refine⟨ps.set r.toNat sc,_,_,rfl,by rw[qbn,<-List.map_set],by rw[cB];exact hlen,fun p h=>?_,sc,zR.mpr ⟨r.toNat,by rw[cB];omega,by rw[List.getElem_set_self]⟩,by have:=hsc.lo;omega⟩;rcases List.mem_or_eq_of_mem_set h with h|h
    .exact hp p h
    .rw[h];exact⟨s0,by have:=hsc.hi;omega⟩
   .left;exact⟨ps,_,_,rfl,rfl,hlen,hp,m,hm0,by have:=(hp m hm0).lo;omega⟩
  .rintro σ' H' ⟨ps,w1,w2,rfl,rfl,hlen,hp,hx⟩;left;exact q l ps _ (qa5 hl _) hl qa1 hlen hp hx
structure Rw where
 p:Addr
 e:Addr
 n:Int
 i:Nat
 ps:List Int
 r:Int
 s:Bool
structure jbt(H:Hp)(nh kd:Nat)(R:Rw):Prop where
 row:H R.p=some (.tup [.int R.n,.int ((R.i:Nat):Int),.ref R.e,.int R.r,.bl R.s])
 par:H R.e=some (.lst (R.ps.map V.int))
 len:R.ps.length=kd
 nn:∀p∈R.ps,jgr p
 il:R.i<nh
 n1:1<=R.n
def jbt.same{H H':Hp}{nh kd:Nat}{R:Rw}(h:jbt H nh kd R)(s:qas H H'):jbt H' nh kd R:=⟨s _ _ h.row,s _ _ h.par,h.len,h.nn,h.il,h.n1⟩
def rwV(Rs:List Rw):List V:=Rs.map fun R=> .ref R.p
inductive jpp(K:uT)(d:Ad)(vs:List V)(H:Hp)(Q:VK)(E:XK):Prop
 |mk(a:Addr)(ns:List Int)(sc:Int)(nh kd m:Nat)(_:vs=[.ref a,.int (nh:Int),.int (kd:Int),.int sc,.int (m:Int)])(_:SqL K H a (ns.map V.int))(_:ns.length<=63)(_:Sc sc)(_:1<=nh)(_:nh<=12)(_:1<=kd)(_:kd<=6)(_:m<=30)(_:∀(l:Addr)(Rs:List Rw)(H':Hp),qas H H'->H' l=some (.lst (rwV Rs))->Rs.length=m->(∀R∈Rs,jbt H' nh kd R)->(Rs.map fun R=>R.n).Pairwise (·< ·)->Q (.ref l) H')
include T in
theorem wfw:jab P w K mg base CX0 3 d.weg d.wci ["_law_script","_law_houses","_law_kinds","_law_scale","_law_many"] (jpp K d):=by
 exists T.wfh.ok w63
 .right
 obtain⟨a,ns,sc,nh,kd,mm,rfl,hS,h63,hsc,n1,n12,k1,k3,m30,q⟩:=h;exists (qa2 (qae (i:=5) w63.nd rfl (uI rfl) (qbl qa3))
  (qa2 (qae (i:=6) w63.nd rfl (uI rfl) (qa9 ((w09 T).mono ∅) hr rfl T.w18 T.w15.kp T.w1b .nil qah #[qa9 ((w22 T).mono ∅) hr rfl T.w3m T.w3e.kp T.w3n .nil qah #[pv 0,qa4],qa4,qa4]))
  (qa2 (qbc vE rfl (qbv rfl T.w3l #[pv 4]) (qab (i:=7) w63.nd rfl (uI rfl)) (qa2 (qae (i:=8) w63.nd rfl (uI rfl) (qa9 ((w22 T).mono ∅) hr rfl T.w3m T.w3e.kp T.w3n .nil qah #[pv 0,qam qax qa4 (pv 7)]))
  (qa2 (qae (i:=6) w63.nd rfl (uI rfl) (qam qax (qam qax (pv 6) qa4) (qa9 ((w09 T).mono ∅) hr rfl T.w18 T.w15.kp T.w1b .nil qah #[pv 8,qa4,qa4])))
  (qa2 (qae (i:=9) w63.nd rfl (uI rfl) (qa9 ((wcy T).mono ∅) hr rfl T.we7 T.wc4.kp T.wdz .nil qah #[pv 8,pv 2,pv 3]))
  (qa6 (qb2 (qdn vD vQ vR qbi (pv 5) #[qc7 #[pv 6,qa9 ((w09 T).mono ∅) hr rfl T.w18 T.w15.kp T.w1b .nil qah #[pv 8,qa4,pv 1],pv 9,qa9 ((w09 T).mono ∅) hr rfl T.w18 T.w15.kp T.w1b .nil qah #[pv 8,qa4,qa4],qbs qcc (qa9 ((w09 T).mono ∅) hr rfl T.w18 T.w15.kp T.w1b .nil qah #[pv 8,qa4,qa4]) qa4 (qaq _)]])))))))
  (qa6 (qak (pv 5)))))),[sr a,some (.int (nh:Int)),some (.int (kd:Int)),some (.int sc),some (.int (mm:Int)),none,none,none,none,none];have emm:((mm:Nat):Int).toNat=mm:=by omega
 generalize hni:((nh:Nat):Int)=ni;generalize hki:((kd:Nat):Int)=ki;generalize hmi:((mm:Nat):Int)=mi at*;left;rename_i l hl;have s1:=qa5 hl (.lst []);have e1:upd H l (.lst []) l=some (.lst []):=qa1;generalize upd H l (.lst [])=H1 at*;refine⟨a,ns,3,rfl,s1.seq hS,∅,∅,h63,fun H2 s2=>?_⟩;have e2:=s2 _ _ e1;have t2:=s1.trans s2;left;refine qbo ∅ ∅ ∅ ∅ fun r2 r20 _=>?_;left;rw[emm];refine qcz (fun i σ H'=>∃(Rs:List Rw)(m:Int)(w1 w2 w3:Option V),σ=[sr a,some (V.int ni),some (V.int ki),some (V.int sc),some (V.int mi),sr l,some (V.int m),w1,w2,w3]/\qas H H'/\H' l=some (.lst (rwV Rs))/\Rs.length=i/\(∀R∈Rs,jbt H' nh kd R/\R.e≠l)/\(Rs.map fun R=>R.n).Pairwise (·< ·)/\(∀R∈Rs,R.n<=m)/\0<=m)
  ⟨[],_,_,_,_,rfl,t2,e2,rfl,fun R h=>by simp at h,cS,fun R h=>by simp at h,r20⟩ ?_ ?_
 .rintro i σ H' hi ⟨Rs,m,w1,w2,w3,rfl,sm,el,hlen,hR,hup,hle,m0⟩;left;refine⟨a,ns,8+(0+(i:Int)),rfl,sm.seq hS,#[],#[],h63,fun H2' s2'=>?_⟩;generalize qbu ns (8+(0+(i:Int)))=c3;left;refine qbo ∅ ∅ ∅ ∅ fun r4 r40 _=>?_;left;refine⟨c3,sc,kd,by rw[hki],k1,k3,hsc,fun e ps H3 s3 he ee hps h0 _=>?_⟩;have el3:=s3 _ _ (s2' _ _ el);left;refine qbo ∅ ∅ #[] #[] fun r6 d0 d1=>?_;left;refine qbo ∅ ∅ ∅ ∅ fun r7 _ _=>?_;left;refine qbo ∅ ∅ ∅ ∅ fun r5 _ _=>?_;have zl:(rwV Rs).length<sizeLine:=by unfold rwV;rw[zB];show _<16777216;omega
  left;rename_i pr hpr;have er:r6=((r6.toNat:Nat):Int):=by omega
  have s4:=qa5 hpr (.tup [.int (m+1+r4),.int r6,.ref e,.int r7,.bl (decide (r5=0))]);have epr:upd H3 pr (.tup [.int (m+1+r4),.int r6,.ref e,.int r7,.bl (decide (r5=0))]) pr=some (.tup [.int (m+1+r4),.int r6,.ref e,.int r7,.bl (decide (r5=0))]):=qa1;have el4:=s4 _ _ el3;have nel:e≠l:=(qa8 (s2' _ _ el) he).symm;generalize upd H3 pr (.tup [.int (m+1+r4),.int r6,.ref e,.int r7,.bl (decide (r5=0))])=H4 at*;have putR:∀{R:Rw} {o:HO},jbt H4 nh kd R->R.e≠l->jbt (upd H4 l o) nh kd R:=fun {R o} h ne=>by
   have np:R.p≠l:=jgu h.row el4 (by simp);exact⟨by rw[qa7 np];exact h.row,by rw[qa7 ne];exact h.par,h.len,h.nn,h.il,h.n1⟩
  obtain⟨R0,e01,e02,e03,e04⟩:∃R0:Rw,R0.p=pr/\R0.e≠l/\jbt H4 nh kd R0/\R0.n=m+1+r4:=⟨⟨pr,e,m+1+r4,r6.toNat,ps,r7,decide (r5=0)⟩,rfl,nel,⟨by rw[<-er];exact epr,s4 _ _ ee,hps,h0,by show r6.toNat<nh;omega,by show 1<=m+1+r4;omega⟩,rfl⟩;have e05:upd H4 l (.lst (rwV Rs++[.ref pr])) l=some (.lst (rwV (Rs++[R0]))):=by rw[qa1];unfold rwV;rw[zE,<-e01];rfl
  have sm4:qas H (upd H4 l (.lst (rwV Rs++[.ref pr]))):=qaw (((sm.trans s2').trans s3).trans s4) hl;have hlen4:(Rs++[R0]).length=i+1:=by rw[zF,hlen];rfl
  have hR4:∀R∈Rs++[R0],jbt (upd H4 l (.lst (rwV Rs++[.ref pr]))) nh kd R/\R.e≠l:=fun R hr=>by
   rcases zP.mp hr with h|h
   .obtain⟨h1,h2⟩:=hR R h;exact⟨putR (h1.same ((s2'.trans s3).trans s4)) h2,h2⟩
   .rw[zG.mp h];exact⟨putR e03 e02,e02⟩
  have hup4:((Rs++[R0]).map fun R=>R.n).Pairwise (·< ·):=by
   rw[zE,List.pairwise_append];refine⟨hup,aZ _ _,fun x hx y hy=>?_⟩;obtain⟨R,hr,rfl⟩:=zJ.mp hx;have hy:y=R0.n:=by simpa using hy
   have:=hle R hr;omega
  have hle4:∀R∈Rs++[R0],R.n<=m+1+r4:=fun R hr=>by
   rcases zP.mp hr with h|h
   .have:=hle R h;omega
   .rw[zG.mp h,e04];exact wB _
  clear hR putR e03 epr hl hS s1 s2 s3 s4 hup hle;exact⟨Rs++[R0],_,_,_,_,rfl,sm4,e05,hlen4,hR4,hup4,hle4,#[]⟩
 .rintro σ H' ⟨Rs,m,w1,w2,w3,rfl,sm,el,hlen,hR,hup,hle,m0⟩;left;exact q l Rs H' sm el #[] (fun R h=>(hR R h).1) hup
def jls(ws:List Str)(R:Rw):Rr:=⟨R.p,R.e,R.n,R.i,tdK (ws.zip R.ps),tdF (ws.zip R.ps),R.r,R.s⟩
def jdq(kd:Nat)(f:Nat->Int):List V:=(vB kd).map fun j=>V.int (f j)
theorem jlt(kd:Nat)(f:Nat->Int):(jdq kd f).length=kd:=by unfold jdq;rw[zB,yO]
def jpq(f:Nat->Int)(h:j<kd):atI (jdq kd f) ((j:Nat):Int)=some (V.int (f j)):=qar (by unfold jdq;rw[zC,List.getElem?_range h];rfl)
theorem jlu(f:Nat->Int)(v:Int)(h:j<kd):(jdq kd f).set j (V.int v)=jdq kd fun i=>if i=j then v else f i:=by
 unfold jdq;refine List.ext_getElem (by rw[cB,zB,zB]) fun i g1 g2=>?_;rw[List.getElem_set,bR,bR,List.getElem_range];by_cases c:j=i
 .show(if j=i then V.int v else _)=V.int (if i=j then v else f i);rw[iB c,iB c.symm]
 .show(if j=i then V.int v else V.int (f i))=V.int (if i=j then v else f i);rw[iA c,iA (fun z=>c z.symm)]
theorem jgn{f g:Nat->Int}(h:∀j,j<kd->f j=g j):jdq kd f=jdq kd g:=by
 unfold jdq;refine aJ fun j hj=>?_;rw[h j (yP.mp hj)]
def qc0(H:Hp)(ls:List Addr)(kd:Nat)(X:Nat->Nat->Int):Prop:=∀(h:Nat)(l:Addr),ls[h]?=some l->H l=some (.lst (jdq kd (X h)))
def qc0.cast{Y:Nat->Nat->Int}(h:qc0 H ls kd X)(e:∀i j,i<ls.length->j<kd->X i j=Y i j):qc0 H ls kd Y:=fun i l hl=>by
 rw[h i l hl];rw[jgn fun j hj=>e i j (uG.mp hl).1 hj]
def qc0.put(nd:ls.Nodup)(h:qc0 H ls kd X){i:Nat}{l:Addr}(hl:ls[i]?=some l){f:Nat->Int}:qc0 (upd H l (.lst (jdq kd f))) ls kd fun k=>if k=i then f else X k:=fun k l' hl'=>by
 try dsimp only
 by_cases c:k=i
 .subst c;rw[hl] at hl'
  cases hl'
  rw[iB rfl,qa1]
 .rw[iA c,qa7]
  .exact h k l' hl'
  .intro z;subst z;obtain⟨h1,e1⟩:=uG.mp hl;obtain⟨h2,e2⟩:=uG.mp hl';rcases Nat.lt_trichotomy k i with lt|lt|lt
   .exact(zW.mp nd) k i h2 h1 lt (e2.trans e1.symm)
   .exact c lt
   .exact(zW.mp nd) i k h1 h2 lt (e1.trans e2.symm)
def qc0.other(h:qc0 H ls kd X){a:Addr}{o:HO}(ha:a∉ls):qc0 (upd H a o) ls kd X:=fun i l hl=>by
 rw[qa7 (show l≠a from fun z=>ha (z▸zD hl))];exact h i l hl
def qc0.same{H H':Hp}{ls:List Addr}{kd:Nat}{X:Nat->Nat->Int}(h:qc0 H ls kd X)(s:qas H H'):qc0 H' ls kd X:=fun i l hl=>s _ _ (h i l hl)
def SB(ls:List Addr)(H H':Hp):Prop:=∀b o,H b=some o->b∉ls->H' b=some o
def SB.new{H'':Hp}(s:SB ls H H')(t:qas H' H''):SB ls H H'':=fun b o hb hn=>t _ _ (s b o hb hn)
def SB.put(s:SB ls H H'){a:Addr}{o:HO}(h:H a=none\/a∈ls):SB ls H (upd H' a o):=fun b u hb hn=>by
 rw[qa7]
 .exact s b u hb hn
 .intro z;subst z;rcases h with h|h
  .rw[h] at hb;cases hb
  .exact hn h
abbrev Pq:=Addr×List Int
def qsV(qs:List Pq):List V:=qs.map fun q=> .ref q.1
def atQ(qs:List Pq)(k j:Nat):Int:=match qs[k]? with
 |some q=>(q.2[j]?).getD 0
 |none=>0
structure jza(H1 H:Hp)(lp:Addr)(kd:Nat)(qs:List Pq):Prop where
 top:H lp=some (.lst (qsV qs))
 row:∀q∈qs,H q.1=some (.lst (q.2.map V.int))/\H1 q.1=none/\q.1≠lp
 nd:(qs.map (·.1)).Nodup
 val:∀q∈qs,q.2.length=kd/\∀x∈q.2,0<=x/\x<=10^30
def jj6(el:Nat->Nat)(qs:List Pq)(n h j:Nat):Int:=qdp n fun k=>if h∈qac el k then atQ qs k j else 0
theorem qe7{f g:Nat->Int}:∀{n:Nat},(∀k,k<n->f k=g k)->qdp n f=qdp n g
 |0,_=>rfl
 |n+1,h=>by
  show qdp n f+f n=qdp n g+g n;rw[qe7 fun k hk=>h k #[],h n #[]]
theorem jpr{q:Pq}{k:Nat}(h:k<qs.length):atQ (qs++[q]) k j=atQ qs k j:=by
 unfold atQ;rw[yD h]
theorem jps{q:Pq} :atQ (qs++[q]) qs.length j=(q.2[j]?).getD 0:=by
 unfold atQ;rw[zZ (uH _),eB];rfl
theorem jju(el:Nat->Nat)(qs:List Pq)(q:Pq)(h j:Nat):jj6 el (qs++[q]) (qs.length+1) h j=jj6 el qs qs.length h j+if h∈qac el qs.length then(q.2[j]?).getD 0 else 0:=by
 show(qdp qs.length fun k=>if h∈qac el k then atQ (qs++[q]) k j else 0)+(if h∈qac el qs.length then atQ (qs++[q]) qs.length j else 0)=_;rw[jps]
 congr 1
 refine qe7 fun k hk=>?_;rw[jpr hk]
theorem jts(hv:∀q∈qs,∀x∈q.2,0<=x)(k j:Nat):0<=atQ qs k j:=by
 unfold atQ
 cases e:qs[k]? with
 |none=>exact wB _
 |some q=>
  show 0<=(q.2[j]?).getD 0
  cases e2:q.2[j]? with
  |none=>exact wB _
  |some x=>exact hv q (zD e) x (zD e2)
def jpt(hv:∀q∈qs,∀x∈q.2,0<=x)(n h j:Nat):0<=jj6 el qs n h j:=jjg fun k _=>by
 by_cases c:h∈qac el k
 .rw[iB c];exact jts hv k j
 .rw[iA c];exact wB _
def jb9(H:Hp)(kd:Nat)(cs:List Pq):Prop:=∀c∈cs,H c.1=some (.lst (c.2.map V.int))/\c.2.length=kd/\∀x∈c.2,0<=x/\x<=10^30
def jb9.same{H H':Hp}{kd:Nat}{cs:List Pq}(h:jb9 H kd cs)(s:qas H H'):jb9 H' kd cs:=fun c hc=>⟨s _ _ (h c hc).1,(h c hc).2⟩
theorem jb9.bd(h:jb9 H kd cs)(i j:Nat):0<=atQ cs i j/\atQ cs i j<=10^30:=by
 unfold atQ
 cases e:cs[i]? with
 |none=>exact⟨wB _,show(0:Int)<=10^30 by decide⟩
 |some q=>
  show 0<=(q.2[j]?).getD 0/\(q.2[j]?).getD 0<=10^30
  cases e2:q.2[j]? with
  |none=>exact⟨wB _,show(0:Int)<=10^30 by decide⟩
  |some x=>exact(h q (zD e)).2.2 x (zD e2)
theorem jb9.col(h:jb9 H kd cs){i:Nat}{c:Pq}(hc:cs[i]?=some c):c.2.map V.int=jdq kd fun j=>atQ cs i j:=by
 unfold jdq;have hl:=(h c (zD hc)).2.1;refine List.ext_getElem (by rw[zB,zB,yO,hl]) fun j g1 g2=>?_;rw[zB] at g1;rw[bR,bR,List.getElem_range];unfold atQ;rw[hc];show _=V.int ((c.2[j]?).getD 0);rw[zA g1];rfl
inductive jen(K:uT)(d:Ad)(vs:List V)(H:Hp)(Q:VK)(E:XK):Prop
 |mk(a:Addr)(ns:List Int)(le lc:Addr)(las:List Addr)(cs:List Pq)(es:List Nat)(kd:Nat)(_:vs=[.ref a,.ref le,.ref lc])(_:SqL K H a (ns.map V.int))(_:ns.length<=63)(_:jaz H le las es)(_:es.length<=11)(_:H lc=some (.lst (qsV cs)))(_:cs.length=es.length+1)(_:jb9 H kd cs)(_:kd<=6)(_:∀(l:Addr)(qs:List Pq)(H':Hp),qas H H'->H' l=some (.lst (qsV qs))->qs.length=es.length+1->(∀q∈qs,H' q.1=some (.lst (q.2.map V.int))/\q.2.length=kd/\∀x∈q.2,0<=x/\x<=10^30)->(∀h j,h<es.length+1->j<kd->jj6 (elN es) qs (es.length+1) h j<=atQ cs h j)->Q (.ref l) H')
include T in
theorem wc5:jab P w K mg base CX0 2 d.w70 d.w5z ["_law_script","_law_lines_here","_law_caps_here"] (jen K d):=by
 exists T.w9q.ok w0u
 .right
 obtain⟨a,ns,le,lc,las,cs,es,kd,rfl,hSa,h63,hE,h11,hC,hcl,h9,k3,q⟩:=h;have lo:∀(k e:Nat),es[k]?=some e->e<=k:=fun k e h=>(hE.lo k e h).1;have low:=qdu lo (es.length+1);refine⟨_,(qa2 (qae (i:=3) w0u.nd rfl (uI rfl) (qa9 ((w22 T).mono ∅) hr rfl T.w3m T.w3e.kp T.w3n .nil qah #[pv 0,qa4]))
  (qa2 (qae (i:=4) w0u.nd rfl (eS rfl) (qc2 (caps:=[]) (cn:=[]) (qbh rfl rfl (by rfl) (by rfl) rfl trivial (by rfl) rfl trivial ∅) rfl (qb3 (pv 2)) (fun _ _ _ _=>qd9) (fun _ _ _ _=>(qaz qcg rfl T.w8w wP #[pv 0]))))
  (qa2 (qae (i:=5) w0u.nd rfl (uI rfl) (qbl qa3))
  (qa2 (qbc vE rfl (qbv rfl T.w3l #[qai qat rfl T.w29 vF #[pv 1]]) (qab (i:=6) w0u.nd rfl (uI rfl)) (qa2 (qb2 (qdn vD vQ vR qbi (pv 5) #[qbl qa3]))
  (qa6 (qbc vE rfl (qbv rfl T.w3l #[qai qat rfl T.w29 vF #[qal qaj (pv 2) (pv 6) nofun]]) (qab (i:=7) w0u.nd rfl (eS rfl)) (qa2 (qae (i:=8) w0u.nd rfl (uI rfl) (qai (jiq rfl) rfl T.wgz PyProof.Rows.boot_min #[qc2 (caps:=[4,7]) (cn:=["_law_left","_law_j"]) (qbh rfl rfl (by rfl) (by rfl) rfl ⟨rfl,⟨rfl,trivial⟩⟩ (by rfl) rfl ⟨⟨rfl,rfl,rfl,rfl,_,rfl⟩,⟨⟨rfl,rfl,rfl,rfl,_,rfl⟩,trivial⟩⟩ ∅) rfl (qb3 (qal qaj (pv 1) (pv 6) nofun)) (fun _ _ _ _=>qd9) (fun _ _ _ _=>(qal qaj (qal qaj (pv 1) (pv 0) nofun) (pv 2) nofun))]))
  (qa2 (qae (i:=9) w0u.nd rfl (uI rfl) (qal qaj (qbl #[qa4,pv 8,qam qcn (pv 8) qa4]) (qa9 ((w09 T).mono ∅) hr rfl T.w18 T.w15.kp T.w1b .nil qah #[pv 3,qam qax (qam qax qa4 (qam qbw qa4 (pv 6))) (pv 7),qa4]) nofun))
  (qa2 (qb2 (qdn vD vQ vR qbi (qal qaj (pv 5) (pv 6) nofun) #[pv 9]))
  (qa6 (qbc vE rfl (qb3 (qal qaj (pv 1) (pv 6) nofun)) (qab (i:=10) w0u.nd rfl (uI rfl)) (qa6 (qdq (qal qaj (pv 4) (pv 10) nofun) (pv 7) (qam qf5 (qal qaj (qal qaj (pv 4) (pv 10) nofun) (pv 7) nofun) (pv 9)) rfl)))))))))))
  (qa6 (qak (pv 5))))))),?_⟩
 walk_at"d"
 try dsimp only[cxC]
 refine qag (σ:=[sr a,sr le,sr lc,none,none,none,none,none,none,none,none]) rfl ?_;left;refine⟨a,ns,5,rfl,hSa,∅,∅,h63,fun H sc=>?_⟩;have hE:=hE.same sc;have hC:=sc _ _ hC;have h9:=h9.same sc;have q:=fun l qs H' (s:qas H H')=>q l qs H' (sc.trans s);generalize qbu ns 5=c;left;intro C s0 H0 fp ll hll;refine jb7 (es.length+1) (fun i H'=>∃ls:List Addr,qas H H'/\H' ll=some (.lst (ls.map V.ref))/\ls.length=i/\ls.Nodup/\(∀l∈ls,l≠ll/\H l=none)/\qc0 H' ls kd (atQ cs)) ⟨[],qa5 hll _,qa1,rfl,yK,fun l h=>by simp at h,fun h l hl=>by simp at hl⟩ ?_ ?_ ?_ ?_
 .rintro i H' hi ⟨ls,sm,_⟩;exact⟨_,.ref (cs[i]'#[]).1,SqL.of (sm _ _ hC),by unfold qsV;rw[zC,zA #[]];rfl⟩
 .rintro H' ⟨ls,sm,_⟩;exact⟨_,SqL.of (sm _ _ hC),by unfold qsV;rw[zB];omega⟩
 .rintro i H' v H'' hi ⟨ls,sm,eL,hlen,nd,hls,hA⟩ ⟨rfl,hv⟩;have hv:=hv _ (SqL.of (sm _ _ hC));unfold qsV at hv;have hci:cs[i]?=some (cs[i]'#[]):=zA #[];rw[zC,hci] at hv
  cases hv
  have h9i:=(h9 _ (zD hci)).1;have e9:=h9.col hci;generalize cs[i]'#[]=ci at*;left;refine qd6 (SqL.of (sm _ _ h9i)) fun l hl=>?_;have s1:=qa5 hl (.lst (ci.2.map V.int));have eL1:=s1 _ _ eL;have el:upd H'' l (.lst (ci.2.map V.int)) l=some (.lst (jdq kd fun j=>atQ cs i j)):=by rw[qa1,e9]
  have nl:l≠ll:=(qa8 eL hl).symm;have nls:l∉ls:=fun hm=>by
   obtain⟨j,hj,e⟩:=zR.mp hm;have:=hA j l (by rw[zA hj,e]);rw[hl] at this;cases this
  generalize upd H'' l (.lst (ci.2.map V.int))=H2 at*;have zl:(ls.map V.ref).length<sizeLine:=by rw[zB];show _<16777216;omega
  left;refine⟨ls++[l],qaw (sm.trans s1) hll,by rw[qa1,zE];rfl,by rw[zF,hlen];rfl,?_,fun x hx=>?_,fun h x hx=>?_⟩
  .exact yH.mpr ⟨nd,zV.mpr ⟨by simp,yK⟩,fun a ha b hb=>by rw[zG.mp hb];exact fun z=>nls (z▸ha)⟩
  .rcases zP.mp hx with h|h
   .exact hls x h
   .rw[zG.mp h];exact⟨nl,sm.free hl⟩
  .by_cases cc:h<ls.length
   .rw[yD cc] at hx;rw[qa7 (hls x (zD hx)).1];exact s1 _ _ (hA h x hx)
   .rw[zZ #[]] at hx;have:x=l:=by
     have hm:=zD hx;exact zG.mp hm
    subst this;rw[qa7 nl];have hh:h=i:=by
     have:=(uG.mp hx).1;rw[yA] at this;omega
    rw[hh];exact el
 rintro H1 ⟨ls,s1,eL1,hlen,nd,hls,hA1⟩;have hE1:=(hE.same s1).top;have hle:(las.map V.ref).length=es.length+1:=by rw[zB,hE.len]
 have hrn:(((las.map V.ref).length:Nat):Int).toNat=es.length+1:=by rw[hle];omega
 have inLs:∀{H':Hp} {X:Nat->Nat->Int} {a:Addr},qc0 H' ls kd X->H' a=none->a∉ls:=fun {H' X a} hA ha hm=>by
  obtain⟨j,hj,e⟩:=zR.mp hm;have:=hA j a (by rw[zA hj,e]);rw[ha] at this;cases this
 have notL:∀{b:Addr} {o:HO},H b=some o->b∉ls:=fun {b o} hb hm=>by rw[(hls b hm).2] at hb;cases hb
 left;rename_i lp hlp;rw[hrn];have nlpL:lp∉ls:=inLs hA1 hlp;refine qcz (fun i σ H'=>∃(qs:List Pq)(X:Nat->Nat->Int)(w1 w2 w3 w4 w5:Option V),σ=[sr a,sr le,sr lc,some (V.int c),sr ll,sr lp,w1,w2,w3,w4,w5]/\SB ls H1 H'/\jza H1 H' lp kd qs/\qs.length=i/\qc0 H' ls kd X/\∀h j,h<es.length+1->j<kd->0<=X h j/\X h j=atQ cs h j-jj6 (elN es) qs i h j)
  ⟨[],atQ cs,_,_,_,_,_,rfl,SB.put (fun b o hb _=>hb) (.inl hlp),⟨qa1,fun q hq=>by simp at hq,yK,fun q hq=>by simp at hq⟩,rfl,hA1.other nlpL,fun h j _ _=>⟨(h9.bd h j).1,by show _=_-(0:Int);omega⟩⟩ ?_ ?_
 .rintro i σ H' hi ⟨qs,X,w1,w2,w3,w4,w5,rfl,sb,hq,hql,hA,hX⟩;have smH:∀{H'':Hp},SB ls H1 H''->qas H H'':=fun {H''} sb b o hb=>sb b o (s1 b o hb) (notL hb);have sm:=smH sb;rw[dZ];have hci:cs[i]?=some (cs[i]'#[]):=zA #[];obtain⟨h9i,h9l,_⟩:=h9 _ (zD hci);have xc:atI (qsV cs) ((i:Nat):Int)=some (.ref (cs[i]'#[]).1):=qar (by unfold qsV;rw[zC,hci];rfl);generalize cs[i]'#[]=ci at*;have kb:((i:Nat):Int).natAbs<2^600:=vJ (show((i:Nat):Int).natAbs<=12 by omega) ∅;have pw:=jfv low i hi;have lle:=qdk low i hi;obtain⟨lh,_,alh,elh0⟩:=hE.at hi;generalize hki:((i:Nat):Int)=ki at*;have nlhL:lh∉ls:=notL elh0;have elh:=sm _ _ elh0;have nlhp:lp≠lh:=fun z=>by rw[z,s1 _ _ elh0] at hlp;cases hlp
  have nq:∀q∈qs,q.1≠lh:=fun q h z=>by
   have:=(hq.row q h).2.1;rw[z,s1 _ _ elh0] at this;cases this
  have hq2:=hq;have hA2:=hA;have sb2:=sb;have etop:=hq2.top;have zq:(qsV qs).length<sizeLine:=by unfold qsV;rw[zB];show _<16777216;omega
  left;rename_i pi hpi;have nplp:lp≠pi:=qa8 etop hpi;have nplh:lh≠pi:=qa8 elh hpi;have npL:pi∉ls:=inLs hA2 hpi;have n1pi:H1 pi=none:=by
   cases e:H1 pi with
   |none=>rfl
   |some o=>have:=sb2 pi o e npL;rw[hpi] at this;cases this
  have npq:∀q∈qs,q.1≠pi:=fun q hq=>qa8 (hq2.row q hq).1 hpi;have e3lp:(upd (upd H' pi (.lst [])) lp (.lst (qsV qs++[.ref pi]))) lp=some (.lst (qsV qs++[.ref pi])):=qa1;have e3pi:(upd (upd H' pi (.lst [])) lp (.lst (qsV qs++[.ref pi]))) pi=some (.lst (([]:List Int).map V.int)):=by rw[qa7 nplp.symm];exact qa1
  have e3lh:(upd (upd H' pi (.lst [])) lp (.lst (qsV qs++[.ref pi]))) lh=some (.lst ((qac (elN es) i).map iV)):=by rw[qa7 nlhp.symm,qa7 nplh];exact elh
  have e3q:∀q∈qs,(upd (upd H' pi (.lst [])) lp (.lst (qsV qs++[.ref pi]))) q.1=some (.lst (q.2.map V.int)):=fun q h=>by rw[qa7 (hq2.row q h).2.2,qa7 (npq q h)];exact(hq2.row q h).1
  have hA3:qc0 (upd (upd H' pi (.lst [])) lp (.lst (qsV qs++[.ref pi]))) ls kd X:=(hA2.other npL).other nlpL;have sb3:SB ls H1 (upd (upd H' pi (.lst [])) lp (.lst (qsV qs++[.ref pi]))):=(sb2.put (.inl n1pi)).put (.inl hlp);generalize upd (upd H' pi (.lst [])) lp (.lst (qsV qs++[.ref pi]))=H3 at*;have nlhq:∀q∈qs,q.1≠lh/\q.1≠pi/\q.1≠lp/\q.1∉ls:=fun q h=>⟨nq q h,npq q h,(hq2.row q h).2.2,fun hm=>by
   obtain⟨j,hj,e⟩:=zR.mp hm;have e2:=hA1 j q.1 (by rw[zA hj,e]);rw[(hq2.row q h).2.1] at e2;cases e2⟩
  have hk9:(ci.2.map V.int).length=kd:=by rw[zB];exact h9l
  have hkn:(((ci.2.map V.int).length:Nat):Int).toNat=kd:=by rw[hk9];omega
  have h93:=(smH sb3) _ _ h9i;have nn:=fun h j=>jpt (el:=elN es) (fun q hq x hx=>((hq2.val q hq).2 x hx).1) i h j;have nd1:=hq2.nd;have val1:=hq2.val;have row1:=fun q h=>(hq2.row q h).2;clear hq2 hA2 sb2 hq hA sb sm etop elh zq hpi npq;refine qb0 (SqL.of ((smH sb3) _ _ hC)) xc ?_;left;rw[hkn];have lnd:(qac (elN es) i).Nodup:=cV (fun h z=>by omega) pw;refine qcz (fun j σ H4=>∃(cur:List Int)(Y:Nat->Nat->Int)(w1 w2 w3 w4:Option V),σ=[sr a,sr le,sr lc,some (V.int c),sr ll,sr lp,some (V.int ki),w1,w2,w3,w4]/\SB ls H1 H4/\H4 lp=some (.lst (qsV qs++[.ref pi]))/\H4 pi=some (.lst (cur.map V.int))/\H4 lh=some (.lst ((qac (elN es) i).map iV))/\(∀q∈qs,H4 q.1=some (.lst (q.2.map V.int)))/\cur.length=j/\(∀x∈cur,0<=x/\x<=10^30)/\qc0 H4 ls kd Y/\
    ∀h j',h<es.length+1->j'<kd->0<=Y h j'/\Y h j'=atQ cs h j'-jj6 (elN es) qs i h j'-(if h∈qac (elN es) i then(cur[j']?).getD 0 else 0))
   ⟨[],X,_,_,_,_,rfl,sb3,e3lp,e3pi,e3lh,e3q,rfl,fun x h=>by simp at h,hA3,fun h j' hh hj'=>⟨(hX h j' hh hj').1,by rw[(hX h j' hh hj').2];simp⟩⟩ ?_ ?_
  .rintro j σ H4 hj ⟨cur,Y,w1,w2,w3,w4,rfl,sb4,e4lp,e4pi,e4lh,e4q,hcl,hcur,hA4,hY⟩;clear e3lp e3pi e3lh e3q hA3 sb3 hX h93 hkn hk9;rw[dZ];have e4le:H4 le=some (.lst (las.map V.ref)):=sb4 le _ (s1 _ _ hE.top) (notL hE.top);have e4ll:H4 ll=some (.lst (ls.map V.ref)):=sb4 ll _ eL1 fun hm=>(hls ll hm).1 rfl;have xl:∀h,h<es.length+1->∃l,ls[h]?=some l/\atI (ls.map V.ref) ((h:Nat):Int)=some (.ref l):=fun h hh=>⟨ls[h],zA #[],qar (by rw[zC,zA #[]];rfl)⟩;have xj:∀f:Nat->Int,atI (jdq kd f) ((j:Nat):Int)=some (V.int (f j)):=fun f=>jpq f hj;generalize hji:((j:Nat):Int)=ji at*;left;refine qb0 (SqL.of e4le) alh ?_;left;intro C s0 H0 fp acc hacc;refine jb7 (qac (elN es) i).length (fun c Hc=>Hc=upd H4 acc (.lst ((((qac (elN es) i).take c).map fun h=>Y h j).map V.int))) rfl ?_ ?_ ?_ ?_
   .rintro c Hc hc rfl;exact⟨_,iV (qac (elN es) i)[c],SqL.of (qad e4lh hacc),by rw[zC,zA hc];rfl⟩
   .rintro Hc rfl;exact⟨_,SqL.of (qad e4lh hacc),by rw[zB];exact uH _⟩
   .rintro c Hc v Hd hc rfl ⟨rfl,hv⟩;have hv:=hv _ (SqL.of (qad e4lh hacc));rw[zC,zA hc] at hv
    cases hv
    have tk:(qac (elN es) i).take (c+1)=(qac (elN es) i).take c++[(qac (elN es) i)[c]]:=by rw[zM,zA hc];rfl
    have hh:=lle _ (zL hc);have hcl2:=qci low i hi;generalize (qac (elN es) i)[c]=h at*;obtain⟨l,hl,al⟩:=xl h #[];have zl:((((qac (elN es) i).take c).map fun h=>Y h j).map V.int).length<sizeLine:=by rw[zB,zB,zS];show _<16777216;omega
    unfold iV;left;refine qb0 (SqL.of (qad e4ll hacc)) al ?_;left;refine qb0 (SqL.of (qad (hA4 h l hl) hacc)) (xj _) ?_;left;rw[qbn,tk,zE,zE];rfl
   rintro Hc rfl;rw[zQ];have s5:=qa5 hacc (.lst (((qac (elN es) i).map fun h=>Y h j).map V.int));have e5:upd H4 acc (.lst (((qac (elN es) i).map fun h=>Y h j).map V.int)) acc=some (.lst (((qac (elN es) i).map fun h=>Y h j).map V.int)):=qa1;generalize upd H4 acc (.lst (((qac (elN es) i).map fun h=>Y h j).map V.int))=H5 at*;left;refine jsx (SqL.of e5) (by rw[zB];exact List.length_pos_of_mem (qcr low hi)) fun m hm hmin=>?_;have mle:∀h∈qac (elN es) i,m<=Y h j:=fun h hh=>hmin _ (zJ.mpr ⟨h,hh,rfl⟩);have cj:(cur[j]?).getD 0=0:=by rw[bO #[]];rfl
   obtain⟨m0,m9⟩:0<=m/\m<=10^30:=by
    obtain⟨h,hh,rfl⟩:=zJ.mp hm;have z:=hY h j (by have:=lle h hh;omega) hj;have z2:=nn h j;rw[cj] at z;have:(if h∈qac (elN es) i then(0:Int) else 0)=0:=by split<;>rfl
    rw[this] at z;have:=(h9.bd h j).2;omega
   clear hm hmin e5 hacc;left;rename_i pm hpm;refine qbo #[] #[] ∅ ∅ fun r r0 r1=>?_;refine je3 (xs:=[0,m,m.fdiv 2]) (SqL.of qa1) r0 r1 fun pt hpt=>?_;obtain⟨p0,pm'⟩:0<=pt/\pt<=m:=by
    have ed:m.fdiv 2=m/2:=aE m ∅;simp only[zO,yI,or_false] at hpt;rw[ed] at hpt;omega
   have s6:=s5.trans (qa5 hpm (.lst [.int 0,.int m,.int (m.fdiv 2)]));generalize upd H5 pm (.lst [.int 0,.int m,.int (m.fdiv 2)])=H6 at*;have e6lp:=s6 _ _ e4lp;have e6pi:=s6 _ _ e4pi;have e6lh:=s6 _ _ e4lh;have e6q:∀q∈qs,H6 q.1=some (.lst (q.2.map V.int)):=fun q h=>s6 _ _ (e4q q h);have hA6:=hA4.same s6;have sb6:=sb4.new s6;have zc:(cur.map V.int).length<sizeLine:=by rw[zB];show _<16777216;omega
   have xpi:atI (qsV qs++[V.ref pi]) ki=some (.ref pi):=by
    rw[<-hki];refine qar ?_;rw[zZ (by unfold qsV;rw[zB];omega)];unfold qsV;rw[zB,hql,eB];rfl
   clear hpt r0 r1 s5 s6 e4lp e4pi e4lh e4q hA4 sb4 e4ll hpm;left;refine qb0 (SqL.of e6lp) xpi ?_;left;have ecur:cur.map V.int++[V.int pt]=(cur++[pt]).map V.int:=by rw[zE];rfl
   rw[ecur];have e7lp:upd H6 pi (.lst ((cur++[pt]).map V.int)) lp=some (.lst (qsV qs++[.ref pi])):=by rw[qa7 nplp];exact e6lp
   have e7pi:upd H6 pi (.lst ((cur++[pt]).map V.int)) pi=some (.lst ((cur++[pt]).map V.int)):=qa1;have e7lh:upd H6 pi (.lst ((cur++[pt]).map V.int)) lh=some (.lst ((qac (elN es) i).map iV)):=by rw[qa7 nplh];exact e6lh
   have e7q:∀q∈qs,upd H6 pi (.lst ((cur++[pt]).map V.int)) q.1=some (.lst (q.2.map V.int)):=fun q h=>by rw[qa7 (nlhq q h).2.1];exact e6q q h
   have hA7:=hA6.other (o:=.lst ((cur++[pt]).map V.int)) npL;have sb7:SB ls H1 (upd H6 pi (.lst ((cur++[pt]).map V.int))):=sb6.put (.inl n1pi);generalize upd H6 pi (.lst ((cur++[pt]).map V.int))=H7 at*;clear e6lp e6pi e6lh e6q hA6 sb6 zc;have e7le:H7 le=some (.lst (las.map V.ref)):=sb7 le _ (s1 _ _ hE.top) (notL hE.top);left;refine qb0 (SqL.of e7le) alh ?_;left;refine qdg (xs:=(qac (elN es) i).map iV) (fun c' σ H8=>∃w:Option V,σ=[sr a,sr le,sr lc,some (V.int c),sr ll,sr lp,some (V.int ki),some (V.int ji),some (V.int m),some (V.int pt),w]/\SB ls H1 H8/\H8 lp=some (.lst (qsV qs++[.ref pi]))/\H8 pi=some (.lst ((cur++[pt]).map V.int))/\H8 lh=some (.lst ((qac (elN es) i).map iV))/\(∀q∈qs,H8 q.1=some (.lst (q.2.map V.int)))/\qc0 H8 ls kd fun h j'=>if h∈(qac (elN es) i).take c'/\j'=j then Y h j'-pt else Y h j')
    ⟨_,rfl,sb7,e7lp,e7pi,e7lh,e7q,hA7.cast fun h j' _ _=>by rw[iA (by simp)]⟩ ?_ ?_ ?_
   .rintro c' σ H8 _ ⟨w,_,_,_,_,e,_⟩;exact SqL.of e
   .rintro c' x σ H8 hx ⟨w,rfl,sb8,e8lp,e8pi,e8lh,e8q,hA8⟩;rw[zC] at hx;obtain⟨h,hh,rfl⟩:=uY.mp hx;have hc':c' <(qac (elN es) i).length:=(uG.mp hh).1;have tk:(qac (elN es) i).take (c'+1)=(qac (elN es) i).take c'++[h]:=by rw[zM,hh];rfl
    have hin:=lle h (zD hh);have hnt:h∉(qac (elN es) i).take c':=fun hm=>by
     obtain⟨b,hb,e⟩:=zR.mp hm;rw[zS] at hb;rw[cW] at e;obtain⟨g1,g2⟩:=uG.mp hh;exact(zW.mp lnd) b c' #[] hc' #[] (e.trans g2.symm)
    obtain⟨l,hl,al⟩:=xl h #[];have hlm:=zD hl;have e8ll:H8 ll=some (.lst (ls.map V.ref)):=sb8 ll _ eL1 fun hm=>(hls ll hm).1 rfl;have e8l:=hA8 h l hl;have yv:(if h∈(qac (elN es) i).take c'/\j=j then Y h j-pt else Y h j)=Y h j:=iA fun z=>hnt z.1;have xv:=xj fun j'=>if h∈(qac (elN es) i).take c'/\j'=j then Y h j'-pt else Y h j'
    rw[yv] at xv;clear hx;unfold iV;left;refine qb0 (SqL.of e8ll) al ?_;left;refine qb0 (SqL.of e8l) xv ?_;left;refine qb0 (SqL.of e8ll) al ?_;left;refine jd6 e8l (k:=j) (by rw[jlt];exact hj) ?_ hji.symm;rw[jlu _ _ hj];have nl:∀a,a∉ls->a≠l:=fun a ha z=>ha (z▸hlm);left;refine⟨_,rfl,sb8.put (.inr hlm),by rw[qa7 (nl lp nlpL)];exact e8lp,by rw[qa7 (nl pi npL)];exact e8pi,by rw[qa7 (nl lh nlhL)];exact e8lh,fun q hq=>by rw[qa7 (nl q.1 (nlhq q hq).2.2.2)];exact e8q q hq,(hA8.put nd hl).cast fun a b ha hb=>?_⟩
    try dsimp only
    rw[tk];by_cases ca:a=h
    .rw[iB ca,ca];by_cases cb:b=j
     .rw[iB cb,iB ⟨zX _ (zG.mpr rfl),cb⟩,cb]
     .rw[iA cb,iA (fun z=>cb z.2),iA (fun z=>cb z.2)]
    .rw[iA ca];by_cases cm:a∈(qac (elN es) i).take c'/\b=j
     .rw[iB cm,iB ⟨yE _ cm.1,cm.2⟩]
     .rw[iA cm,iA fun z=>(zP.mp z.1).elim (fun z1=>cm ⟨z1,z.2⟩) fun z1=>ca (zG.mp z1)]
   .rintro σ H8 ⟨w,rfl,sb8,e8lp,e8pi,e8lh,e8q,hA8⟩;rw[zB,zQ] at hA8;left;refine⟨cur++[pt],_,_,_,_,_,rfl,sb8,e8lp,e8pi,e8lh,e8q,by rw[zF,hcl];rfl,fun x hx=>?_,hA8,fun h j' hh hj'=>?_⟩
    .rcases zP.mp hx with z|z
     .exact hcur x z
     .rw[zG.mp z];omega
    .obtain⟨y0,y1⟩:=hY h j' hh hj';by_cases cj':j'=j
     .subst cj';rw[cj] at y1;have eg:((cur++[pt])[j']?).getD 0=pt:=by rw[zZ #[],hcl,eB];rfl
      rw[eg];by_cases ch:h∈qac (elN es) i
      .have:=mle h ch;rw[iB ch] at y1⊢;rw[iB ⟨ch,rfl⟩];omega
      .rw[iA ch] at y1⊢;rw[iA fun z=>ch z.1];exact⟨y0,y1⟩
     .have eg:((cur++[pt])[j']?).getD 0=(cur[j']?).getD 0:=by
       by_cases lt:j'<cur.length
       .rw[yD lt]
       .rw[bO (l:=cur) #[],bO (by rw[zF,yA];omega)]
      rw[eg,iA fun z=>cj' z.2];exact⟨y0,y1⟩
  .rintro σ H4 ⟨cur,Y,w1,w2,w3,w4,rfl,sb4,e4lp,e4pi,e4lh,e4q,hcl,hcur,hA4,hY⟩;left;refine⟨qs++[(pi,cur)],Y,_,_,_,_,_,rfl,sb4,⟨by rw[e4lp];unfold qsV;rw[zE];rfl,fun q hq=>?_,?_,fun q hq=>?_⟩,by rw[zF,hql];rfl,hA4,fun h j' hh hj'=>?_⟩
   .rcases zP.mp hq with z|z
    .exact⟨e4q q z,row1 q z⟩
    .rw[zG.mp z];exact⟨e4pi,n1pi,nplp.symm⟩
   .rw[zE];exact yH.mpr ⟨nd1,zV.mpr ⟨by simp,yK⟩,fun a ha b hb=>by
     have eb:b=pi:=by simpa using hb
     obtain⟨q,hq,rfl⟩:=zJ.mp ha;rw[eb];exact(nlhq q hq).2.1⟩
   .rcases zP.mp hq with z|z
    .exact val1 q z
    .rw[zG.mp z];exact⟨hcl,hcur⟩
   .have z:jj6 (elN es) (qs++[(pi,cur)]) (qs.length+1) h j'=jj6 (elN es) qs qs.length h j'+(if h∈qac (elN es) qs.length then(cur[j']?).getD 0 else 0):=jju (elN es) qs (pi,cur) h j';rw[hql] at z;rw[z];obtain⟨y0,y1⟩:=hY h j' hh hj';exact⟨y0,by rw[y1,Int.sub_sub]⟩
 .rintro σ H' ⟨qs,X,w1,w2,w3,w4,w5,rfl,sb,hq,hql,hA,hX⟩;left;exact q lp qs H' (fun b o hb=>sb b o (s1 b o hb) (notL hb)) hq.top hql (fun x hx=>⟨(hq.row x hx).1,hq.val x hx⟩) fun h j hh hj=>by
   have:=hX h j hh hj;omega
def csD(cs:List Pq)(k:Nat):List Int:=match cs[k]? with
 |some c=>c.2
 |none=> []
def csA(cs:List Pq)(k:Nat):Addr:=match cs[k]? with
 |some c=>c.1
 |none=>0
def csT(ws:List Str)(cs:List Pq):List Pt:=cs.map fun c=>⟨0,tdK (ws.zip c.2),tdF (ws.zip c.2)⟩
theorem jb9.at(h:jb9 H kd cs){k:Nat}(hk:k<cs.length):H (csA cs k)=some (.lst ((csD cs k).map V.int))/\(csD cs k).length=kd/\(∀x∈csD cs k,0<=x/\x<=10^30)/\atI (qsV cs) ((k:Nat):Int)=some (.ref (csA cs k)):=by
 have e:=zA hk;have z:=h _ (zL hk);unfold csA csD;rw[e];exact⟨z.1,z.2.1,z.2.2,qar (by unfold qsV;rw[zC,e];rfl)⟩
theorem jnj{k:Nat}(hk:k<cs.length):(csT ws cs)[k]?=some ⟨0,tdK (ws.zip (csD cs k)),tdF (ws.zip (csD cs k))⟩:=by
 have e:=zA hk;unfold csT csD;rw[zC,e];rfl
def mkP(ws nm:List Str)(es:List Nat)(ts:List Pt)(cs:List Pq):PL:=⟨0,0,0,0,0,ws,nm,es,ts,csT ws cs⟩
theorem jtt{H:Hp}{ws nm:List Str}{es:List Nat}{ts:List Pt}{qs cs:List Pq}(hcl:cs.length=es.length+1)(hcs:jb9 H ws.length cs)(hw:Nms ws ws.length)(w1:1<=ws.length)(w3:ws.length<=6)(hn:Nms nm (es.length+1))(h11:es.length<=11)(lo:∀(k e:Nat),es[k]?=some e->e<=k/\e<=10)
  (hts:ts.map (fun t=>(t.k,t.f))=qs.map fun q=>(tdK (ws.zip q.2),tdF (ws.zip q.2)))(hql:qs.length=es.length+1)(hq:∀q∈qs,q.2.length=ws.length/\∀x∈q.2,0<=x/\x<=10^30)(hs:∀h j,h<es.length+1->j<ws.length->jj6 (elN es) qs (es.length+1) h j<=atQ cs h j):PlF (mkP ws nm es ts cs):=by
 have htl:ts.length=es.length+1:=by have:=congrArg wV hts;rw[zB,zB] at this;omega
 have htk:∀(k:Nat)(t:Pt),ts[k]?=some t->∃q,qs[k]?=some q/\t.k=tdK (ws.zip q.2)/\t.f=tdF (ws.zip q.2):=fun k t ht=>by
  have z:=congrArg (fun l=>l[k]?) hts;simp only[zC,ht] at z
  cases e:qs[k]? with
  |none=>rw[e] at z;cases z
  |some q=>
   rw[e] at z;have z':(t.k,t.f)=(tdK (ws.zip q.2),tdF (ws.zip q.2)):=uW z;exact⟨q,rfl,(cZ z').1,(cZ z').2⟩
 refine⟨w1,w3,hw.good,hw.nd,hn.len,by show nm.length<=12;rw[hn.len];omega,hn.good,hn.nd,lo,by show ts.length=nm.length;rw[hn.len];exact htl,by show(csT ws cs).length=nm.length;unfold csT;rw[zB,hn.len];exact hcl,fun t ht=>?_,fun t ht=>?_,fun j t ht v hv=>?_⟩
 .obtain⟨k,hk,e⟩:=zR.mp ht;obtain⟨q,h1,h2,h3⟩:=htk k t (by rw[<-e];exact zA hk);rw[h2,h3];exact⟨qe6 _,jem (hq q (zD h1)).1.symm hw.nd fun p hp=>((hq q (zD h1)).2 p hp).2⟩
 .obtain⟨c,hc,rfl⟩:=zJ.mp ht;exact⟨qe6 _,jem (hcs c hc).2.1.symm hw.nd fun p hp=>((hcs c hc).2.2 p hp).2⟩
 .have hj:j<es.length+1:=by
   have:=(uG.mp ht).1;rw[show(mkP ws nm es ts cs).tc=csT ws cs from rfl] at this;unfold csT at this;rw[zB] at this;omega
  have e:t=⟨0,tdK (ws.zip (csD cs j)),tdF (ws.zip (csD cs j))⟩:=uW (ht.symm.trans (jnj #[]));subst e;obtain⟨_,cl,cb,_⟩:=hcs.at (show j<cs.length by omega);obtain⟨a,ha,rfl⟩:=zR.mp hv;have ha:a<ws.length:=ha;have g9:gN (tdF (ws.zip (csD cs j))) ws[a]=atQ cs j a:=by
   rw[jdg cl.symm hw.nd (fun p hp=>(cb p hp).1) ha (by rw[cl];exact ha)];have e:=zA (show j<cs.length by omega);unfold atQ;rw[e];show _=((cs[j]'#[]).2[a]?).getD 0;have e2:csD cs j=(cs[j]'#[]).2:=by unfold csD;rw[e]
   rw[<-e2,zA (by rw[cl];exact ha)];rfl
  show(qdp ts.length fun k=>if j∈qac (elN es) k then ptN ts k ws[a] else 0)<=gN (tdF (ws.zip (csD cs j))) ws[a];rw[g9,htl];refine Int.le_trans (Int.le_of_eq ?_) (hs j a hj ha);unfold jj6;refine qe7 fun k hk=>?_;have hkt:k<ts.length:=by omega
  obtain⟨q,h1,h2,h3⟩:=htk k ts[k] (zA hkt);have hqm:=hq q (zD h1);have e1:ptN ts k ws[a]=atQ qs k a:=by
   unfold ptN atQ;rw[zA hkt,h1];show gN ts[k].f ws[a]=(q.2[a]?).getD 0;rw[h3,jdg hqm.1.symm hw.nd (fun p hp=>(hqm.2 p hp).1) ha #[],zA #[]];rfl
  rw[e1]
theorem jdh(el:Nat->Nat)(k:Nat):(qac el k)[0]?=some k:=by cases k<;>rfl
inductive jpu(K:uT)(d:Ad)(vs:List V)(H:Hp)(Q:VK)(E:XK):Prop
 |mk(a:Addr)(ns:List Int)(wt ln lw le lr la lc:Addr)(las:List Addr)(cs:List Pq)(nm ws:List Str)(es:List Nat)(_:vs=[.ref a,.ref wt])(_:SqL K H a (ns.map V.int))(_:ns.length<=63)(_:H wt=some (.tup [.ref ln,.ref lw,.ref le,.ref lr,.ref la,.ref lc]))(_:H ln=some (.lst (nm.map V.str)))(_:H lw=some (.lst (ws.map V.str)))(_:jaz H le las es)(_:H lc=some (.lst (qsV cs)))(_:cs.length=es.length+1)(_:jb9 H ws.length cs)(_:Nms nm (es.length+1))(_:Nms ws ws.length)(_:1<=ws.length)(_:ws.length<=6)(_:es.length<=11)(_:∀(t:Addr)(S:Ts)(P:PL)(wt:Nat->Int)(H':Hp),qas H H'->P.nm=nm->P.ws=ws->P.es=es->P.tc=csT ws cs->PlF P->qel d H' t S->jjj S P nm.length wt->Q (.ref t) H')
include T in
theorem wgk:jab P w K mg base CX0 20 d.we0 d.wcm ["_law_script","_law_world_here"] (jpu K d):=by
 exists T.wfg.ok w3u
 .right
 obtain⟨a,ns,wt,ln,lw,le,lr,la,lc,las,cs,nm,ws,es,rfl,hSa,h63,hwt,hN,hW,hE,hC,hcl,h9,hn,hw,w1,w3,h11,q⟩:=h;have lo:=hE.lo;refine⟨_,(qa2 (qei (pv 1) (qd8 rfl (qaf (qab (i:=2) w3u.nd rfl (uI rfl)) (qaf (qab (i:=3) w3u.nd rfl (eS rfl)) (qaf (qab (i:=4) w3u.nd rfl (uI rfl)) (qaf (qab (i:=5) w3u.nd rfl (uI rfl)) (qaf (qab (i:=6) w3u.nd rfl (uI rfl)) (qaf (qab (i:=7) w3u.nd rfl (uI rfl)) qch))))))))
  (qa2 (qea (j:=8) (caps:=[3]) (cn:=["_law_wares"]) (qbh rfl rfl (by rfl) (by rfl) rfl ⟨rfl,trivial⟩ (by rfl) rfl ⟨⟨rfl,rfl,rfl,rfl,_,rfl⟩,trivial⟩ ∅) rfl w3u.nd rfl rfl (qb3 (qa9 ((wc5 T).mono ∅) hr rfl T.wdi T.w9q.kp T.wd8 .nil qah #[pv 0,pv 4,pv 7])) (fun _ _ _ _=>qd9) (fun _ _ _ _=>(qa9 ((w4n T).mono ∅) hr rfl T.w6g T.w5w.kp T.w6i .nil qah #[pv 1,pv 0])))
  (qa2 (qae (i:=9) w3u.nd rfl (uI rfl) (jk1 (W:=fun _ _ _ _=>False) T.w8g ((wb3 T).mono ∅) hr rfl T.wgr T.wbl T.wb9 qfq #[qaz qcg rfl T.w8w wP #[pv 3],qal qaj (pv 2) qa4 nofun,qal qaj (pv 8) qa4 nofun,qa9 ((w4n T).mono ∅) hr rfl T.w6g T.w5w.kp T.w6i .nil qah #[pv 3,qal qaj (pv 7) qa4 nofun]]))
  (qa2 (qbc vE rfl (jce rfl T.w3l #[qa4,qai qat rfl T.w29 vF #[pv 2]]) (qab (i:=10) w3u.nd rfl (uI rfl)) (qa6 (qb2 (qb9 (W:=fun _ _ _ _=>False) (pv 9) T.w01 T.w24 ((wac T).mono ∅) hr T.wab T.waf qfq #[qal qaj (pv 2) (pv 10) nofun,qal qaj (pv 2) (qal qaj (qal qaj (pv 4) (pv 10) nofun) qa4 nofun) nofun,qal qaj (pv 8) (pv 10) nofun,qa9 ((w4n T).mono ∅) hr rfl T.w6g T.w5w.kp T.w6i .nil qah #[pv 3,qal qaj (pv 7) (pv 10) nofun]]))))
  (qa6 (qak (pv 9))))))),?_⟩
 walk_at"d"
 try dsimp only[cxC]
 refine qag (σ:=[sr a,sr wt,none,none,none,none,none,none,none,none,none]) rfl ?_;have ct:=T.w01;left;refine⟨a,ns,le,lc,las,cs,es,ws.length,rfl,hSa,h63,hE,h11,hC,hcl,h9,w3,fun lq qs H1 s1 elq hql hq hsum=>?_⟩;have hW1:=s1 _ _ hW;left;intro C s0 H0 fp ld hld;refine jb7 qs.length (fun i H'=>∃ts:List Pt,qas H1 H'/\H' ld=some (.lst (ts.map fun t=> .ref t.a))/\ts.map (fun t=>(t.k,t.f))=(qs.take i).map (fun q=>(tdK (ws.zip q.2),tdF (ws.zip q.2)))/\∀t∈ts,H' t.a=some (.dK t.k)/\t.a≠ld) ⟨[],qa5 hld _,qa1,rfl,fun t h=>by simp at h⟩ ?_ ?_ ?_ ?_
 .rintro i H' hi ⟨ts,sm,_⟩;exact⟨_,.ref qs[i].1,SqL.of (sm _ _ elq),by unfold qsV;rw[zC,zA hi];rfl⟩
 .rintro H' ⟨ts,sm,_⟩;exact⟨_,SqL.of (sm _ _ elq),by unfold qsV;rw[zB];exact uH _⟩
 .rintro i H' v H'' hi ⟨ts,sm,eD,hts,hT⟩ ⟨rfl,hv⟩;have hv:=hv _ (SqL.of (sm _ _ elq));unfold qsV at hv;rw[zC,zA hi] at hv
  cases hv
  have tk:qs.take (i+1)=qs.take i++[qs[i]]:=by rw[zM,zA hi];rfl
  obtain⟨q1,q2,q3⟩:=hq _ (zL hi);have htl:ts.length=i:=by have:=congrArg wV hts;rw[zB,zB,zS] at this;omega
  generalize qs[i]=qi at*;have zl:(ts.map fun t=>V.ref t.a).length<sizeLine:=by rw[zB];show _<16777216;omega
  left;refine⟨lw,qi.1,ws,qi.2,rfl,SqL.of (sm _ _ hW1),SqL.of (sm _ _ q1),q2.symm,#[],fun l H3 s3 hl el=>?_⟩;have eD3:=s3 _ _ eD;have nl:l≠ld:=(qa8 eD hl).symm;refine⟨_,eD3,zl,ts++[⟨l,tdK (ws.zip qi.2),tdF (ws.zip qi.2)⟩],qaw (sm.trans s3) hld,by rw[qa1,zE];rfl,by rw[zE,hts,tk,zE];rfl,fun t ht=>?_⟩;rcases zP.mp ht with h|h
  .exact⟨by rw[qa7 (hT t h).2];exact s3 _ _ (hT t h).1,(hT t h).2⟩
  .rw[zG.mp h];exact⟨by rw[qa7 nl];exact el,nl⟩
 rintro H2 ⟨ts,s2,eD,hts,hT⟩;rw[zQ] at hts;have pf:PlF (mkP ws nm es ts cs):=jtt hcl h9 hw w1 w3 hn h11 lo hts hql (fun q h=>(hq q h).2) hsum;have s02:=s1.trans s2;have hlen:=hn.len;have etp:(mkP ws nm es ts cs).tp=ts:=rfl;have etc:(mkP ws nm es ts cs).tc=csT ws cs:=rfl;have ews:(mkP ws nm es ts cs).ws=ws:=rfl;have enm:(mkP ws nm es ts cs).nm=nm:=rfl;have ees:(mkP ws nm es ts cs).es=es:=rfl;generalize mkP ws nm es ts cs=P at*;subst etp ews enm ees;have nlc:P.nm.length=cs.length:=by have:=pf.nl;omega
 have tcE:∀k,k<P.nm.length->tfF P.tc k=tdF (P.ws.zip (csD cs k)):=fun k hk=>by unfold tfF;rw[etc,jnj #[]]
 have tcF:∀k,k<P.nm.length->Fin P.ws (tdF (P.ws.zip (csD cs k))):=fun k hk=>(jem (h9.at #[]).2.1.symm hw.nd fun p hp=>((h9.at #[]).2.2.1 p hp).2).fin ∅;have tcL:∀k,k<P.nm.length->(tdK (P.ws.zip (csD cs k))).length<=1000:=fun k hk=>by
  have:=jng (P.ws.zip (csD cs k));rw[eG] at this;omega
 have nl:=pf.nl;have n12:=pf.n12;have gt:jpg P.ws:=⟨pf.w1,by have:=pf.w3;omega,pf.wg,pf.wn⟩;have hz0:P.nm[0]?=some (nmF P 0):=by rw[qdd #[]];exact zA #[]
 have gz:qdt (nmF P 0)=true:=pf.ng _ (zD hz0);have xn0:atI (P.nm.map V.str) 0=some (.str (nmF P 0)):=qar (j:=0) (by rw[zC,hz0];rfl);obtain⟨tp,tp1,tp2,tp3,tp4,tp5⟩:=qev pf (k:=0) #[];have xp:atI (P.tp.map fun t=>V.ref t.a) 0=some (.ref tp.a):=qar (j:=0) (by rw[zC,tp1];rfl);obtain⟨h90,h90l,_,xc0⟩:=h9.at (k:=0) #[];have xc0:atI (qsV cs) 0=some (.ref (csA cs 0)):=xc0;have lp1:tp.k.length<=1000:=by have:=tp4.le (fun z hz=>by cases e:tp.f z with|none=>exact absurd e hz|some n=>exact(tp5 z n e).1);omega
 have ole:=jnc pf (k:=0) #[];rw[tcE 0 #[]] at ole;have hW2:=s02 _ _ hW;left;refine qd6 (SqL.of hW2) fun h0 hh0=>?_;have s3:=qa5 hh0 (.lst (P.ws.map V.str));have e0:upd H2 h0 (.lst (P.ws.map V.str)) h0=some (.lst (P.ws.map V.str)):=qa1;generalize upd H2 h0 (.lst (P.ws.map V.str))=H3 at*;have s03:=s02.trans s3;have eD3:=s3 _ _ eD;left;refine qb0 (SqL.of (s03 _ _ hN)) xn0 ?_;left;refine qb0 (SqL.of eD3) xp ?_;left;refine qb0 (SqL.of (s03 _ _ hC)) xc0 ?_;left;refine⟨lw,csA cs 0,P.ws,csD cs 0,rfl,SqL.of (s03 _ _ hW),SqL.of (s03 _ _ h90),h90l.symm,#[],fun h2 H4 s4 hh2 e2=>?_⟩;have s04:=s03.trans s4;have e1:=s4 _ _ (s3 _ _ (hT tp tp2).1);have e04:=s4 _ _ e0;left;intro x dx hx hdx ne;have sN:∀b u,H4 b=some u->upd (upd H4 dx (.own x)) x (.ins d.w00 dx []) b=some u:=fun b u e=>by rw[qa7 (qa8 e hx),qa7 (qa8 e hdx)];exact e
 refine⟨x,dx,h0,tp.a,h2,nmF P 0,P.ws,tp.k,tdK (P.ws.zip (csD cs 0)),tp.f,tdF (P.ws.zip (csD cs 0)),1,rfl,qa1,sN _ _ e04,gt,gz,sN _ _ e1,tp4,lp1,sN _ _ e2,qe6 _,tcL 0 #[],tp5,tcF 0 #[],∅,∅,fun y=>by rw[<-tp3];exact ole y,fun S e H5 sb hTr hs' f1 f2 f3 f4 hl en' ee ew' efp efc hpm hso=>⟨rfl,?_⟩⟩;have s5:qas H4 H5:=fun b u e=>sb b u (qa8 e hx) (sN b u e);have fr:H4 S.hs=none:=by
  cases r:H4 S.hs with
  |none=>rfl
  |some u=>rw[sN _ _ r] at hs';cases hs'
 have s05:=s04.trans s5;have s25:=(s3.trans s4).trans s5;have hs2:H2 S.hs=none:=(s3.trans s4).free fr;have tI:jjj S P (1+0) (fun _=>(1:Int)):=⟨jtp pf hl en' ee,hpm,hso,fun k e' he=>by
  rw[hl] at he;have hk:=(uG.mp he).1;have e0:k=0:=by rw[yA] at hk;omega
  subst e0;have:e'=e:=by simpa using he.symm
  subst this;exact⟨by rw[tp3];exact efp,by rw[tcE 0 #[]];exact efc,by rw[ew']⟩⟩
 have hnl2:(P.nm.map V.str).length=P.nm.length:=zB _;have hrn1:((((P.nm.map V.str).length:Nat):Int)-1).toNat=P.nm.length-1:=by rw[hnl2];omega
 have en5:=s05 _ _ hN;clear sN fr hs' sb f1 f2 f3 f4 hpm hso efp efc ew' ee hl en' s5 s4 s3 e0 e1 e2 e04 hx hdx ne hh0 hh2 xp xc0 tp4 tp5 tp1 tp2 tp3 lp1 ole gt xn0 gz hz0 hld eD3 elq hW1 hW2 s1 s03 s04;left;unfold jnv;left;refine⟨1,_,rfl,⟨∅,∅,by rw[hnl2];omega,by rw[hnl2];omega⟩,?_⟩;rw[hrn1];refine qcz (fun i σ H'=>∃(w:Option V)(S':Ts),σ=[sr a,sr wt,sr ln,sr lw,sr le,sr lr,sr la,sr lc,sr ld,sr x,w]/\H2 S'.hs=none/\qel d H' x S'/\jjj S' P (1+i) (fun _=>(1:Int))/\qas H2 H') ⟨_,S,rfl,hs2,hTr,tI,s25⟩ ?_ ?_
 .rintro i σ H' hi ⟨w,S',rfl,hs1,hT',hI',sm⟩;clear hTr tI s05 s25 hs2 en5;have kn:1+i<P.nm.length:=by omega
  obtain⟨e',ae,een,hWf,hOw,hw50,h40,nk,line⟩:=hI'.ask pf #[] kn;obtain⟨tp,tp1,tp2,tp3,tp4,tp5⟩:=qev pf kn;have low:=pf.low P.nm.length (1+i) #[] kn;have hb:i<P.es.length:=by omega
  have eb:elN P.es (1+i)=P.es[i]:=by rw[Nat.add_comm 1 i];exact jdc hb
  obtain⟨lk,_,xl,elk⟩:=hE.at (k:=1+i) #[];have xe:atI ((qac (elN P.es) (1+i)).map iV) ((1:Nat):Int)=some (V.int ((elN P.es (1+i):Nat):Int)):=qar (by rw[qc6 (pf.low P.nm.length) #[] kn,zT,aY,zC,jdh];try rfl);have xe:atI ((qac (elN P.es) (1+i)).map iV) 1=some (V.int ((elN P.es (1+i):Nat):Int)):=xe;have xn2:atI (P.nm.map V.str) ((elN P.es (1+i):Nat):Int)=some (.str (nmF P (elN P.es (1+i)))):=by rw[qdd #[]];exact qar (by rw[zC,zA #[]];rfl)
  have xp:atI (P.tp.map fun t=>V.ref t.a) (((1+i:Nat)):Int)=some (.ref tp.a):=qar (by rw[zC,tp1];rfl);obtain⟨h9k,h9kl,_,xc⟩:=h9.at (k:=1+i) #[];have xn:atI (P.nm.map V.str) (((1+i:Nat)):Int)=some (.str (nmF P (1+i))):=by rw[qdd kn];exact qar (by rw[zC,zA kn];rfl)
  have gzk:qdt (nmF P (1+i))=true:=by rw[qdd kn];exact pf.ng _ (zL kn)
  have lp1:tp.k.length<=1000:=by have:=tp4.le (fun z hz=>by cases e:tp.f z with|none=>exact absurd e hz|some n=>exact(tp5 z n e).1);omega
  have ole:=jnc pf kn;rw[tcE _ kn] at ole;rw[show(1:Int)+(i:Int)=(((1+i:Nat)):Int) by omega];generalize ((elN P.es (1+i):Nat):Int)=ej at xe xn2;generalize hki:(((1+i:Nat)):Int)=ki at*;have s0':=s02.trans sm;obtain⟨dx',ht'⟩:=id hT'.1;have eD':=sm _ _ eD;clear hrn1 hnl2;left;refine qb0 (SqL.of (s0' _ _ hN)) xn ?_;left;refine qb0 (SqL.of (s0' _ _ hE.top)) xl ?_;left;refine qb0 (SqL.of (s0' _ _ elk)) xe ?_;left;refine qb0 (SqL.of (s0' _ _ hN)) xn2 ?_;left;refine qb0 (SqL.of eD') xp ?_;left;refine qb0 (SqL.of (s0' _ _ hC)) xc ?_;left;refine⟨lw,csA cs (1+i),P.ws,csD cs (1+i),rfl,SqL.of (s0' _ _ hW),SqL.of (s0' _ _ h9k),h9kl.symm,#[],fun h2 H4 s4 hh2 e2=>?_⟩;have e1:=s4 _ _ (sm _ _ (hT tp tp2).1);left;refine⟨x,tp.a,h2,S',nmF P (1+i),.str (nmF P (elN P.es (1+i))),tp.k,tdK (P.ws.zip (csD cs (1+i))),tp.f,tdF (P.ws.zip (csD cs (1+i))),1,rfl,hT'.same s4,gzk,nk,.inl ⟨_,rfl⟩,fun hn=>?_,fun e3 he3=>?_⟩
  .rw[show who S' (.str (nmF P (elN P.es (1+i))))=some e' from ae] at hn;cases hn
  .have e33:e'=e3:=uW (ae.symm.trans he3);subst e33;refine⟨hWf,hOw,hw50,e1,tp4,lp1,e2,qe6 _,tcL _ kn,jfw tp5 hI'.wp,jfw (tcF _ kn) hI'.wp,∅,∅,h40,by rw[<-tp3];exact line,fun y=>by rw[<-tp3];exact ole y,fun e4 H5 sb f1 f2 f3 hT5 n1 n2 n3 n4 n5=>?_⟩;left;refine⟨_,{S' with hl:=S'.hl++[e4]},rfl,hs1,hT5,(hI'.next pf #[] kn n1 (by rw[n2,een]) n3 (by rw[tp3];exact n4) (by rw[tcE _ kn];exact n5)).cast fun j hj=>?_,fun b u e=>sb b u (qa8 e hs1) ((sm.trans s4) b u e)⟩
   split<;>rfl
 rintro σ H' ⟨w,S',rfl,hs1,hT',hI',sm⟩;left;exact q x S' P _ H' (s02.trans sm) rfl rfl rfl etc pf hT' (by rw[show P.nm.length=1+(P.nm.length-1) by omega];exact hI')
def tuO(n r:Int):Option Int:=if n%2=0 then none else some (1+r)
inductive jgo(K:uT)(d:Ad)(vs:List V)(H:Hp)(Q:VK)(E:XK):Prop
 |mk(wt ln lw le lr la lc:Addr)(P:PL)(Rs:List Rw)(_:vs=[.ref wt])(_:H wt=some (.tup [.ref ln,.ref lw,.ref le,.ref lr,.ref la,.ref lc]))(_:H lr=some (.lst (rwV Rs)))(_:H ln=some (.lst (P.nm.map V.str)))(_:H lw=some (.lst (P.ws.map V.str)))(_:P.ws.length<=6)(_:Rs.length<=30)(_:(∀R∈Rs,jbt H P.nm.length P.ws.length R))(_:∀(l:Addr)(bs:List Ob)(H':Hp),qas H H'->H' l=some (.lst (bsV bs))->bs.map (·.R)=Rs.map (jls P.ws)->(∀b∈bs,jbs d H' P b)->(∀b∈bs,b.t=tuO b.R.n b.R.r)->Q (.ref l) H')
include T in
theorem wdh:jab P w K mg base CX0 3 d.w8i d.w6r ["_law_world_here"] (jgo K d):=by
 exists T.wbm.ok w0b
 .right
 obtain⟨wt,ln,lw,le,lr,la,lc,P,Rs,rfl,hwt,hL,hN,hW,w3,h9,hR,q⟩:=h;exists (qa2 (qei (pv 0) (qd8 rfl (qaf (qab (i:=1) w0b.nd rfl (uI rfl)) (qaf (qab (i:=2) w0b.nd rfl (uI rfl)) (qaf (qab (i:=3) w0b.nd rfl (uI rfl)) (qaf (qab (i:=4) w0b.nd rfl (uI rfl)) (qaf (qab (i:=5) w0b.nd rfl (uI rfl)) (qaf (qab (i:=6) w0b.nd rfl (uI rfl)) qch))))))))
  (qa2 (qae (i:=7) w0b.nd rfl (uI rfl) (qbl qa3))
  (qa2 (qbc vE rfl (qb3 (pv 4)) (qd8 rfl (qaf (qab (i:=8) w0b.nd rfl (uI rfl)) (qaf (qab (i:=9) w0b.nd rfl (uI rfl)) (qaf (qab (i:=10) w0b.nd rfl (uI rfl)) (qaf (qab (i:=11) w0b.nd rfl (uI rfl)) (qaf (qab (i:=12) w0b.nd rfl (uI rfl)) qch)))))) (qa2 (qae (i:=13) w0b.nd rfl (uI rfl) (qal qaj (qbl #[qcm,qam qax qa4 (pv 11)]) (qam qc8 (pv 8) qa4) nofun))
  (qa6 (qbg (qb5 (qby (pv 12)) (qa6 (qb2 (qdn vD vQ vR qbi (pv 7) #[jdu T.w84 ((w7c T).mono ∅) hr rfl T.wgu T.w8c .nil qah #[pv 8,qal qaj (pv 1) (pv 9) nofun,qa9 ((w4n T).mono ∅) hr rfl T.w6g T.w5w.kp T.w6i .nil qah #[pv 2,pv 10],pv 11,pv 13]]))) (qa6 (qb2 (qdn vD vQ vR qbi (pv 7) #[jdu T.w7y ((w7c T).mono ∅) hr rfl T.wgt T.w8c .nil qah #[pv 8,qal qaj (pv 1) (pv 9) nofun,qa9 ((w4n T).mono ∅) hr rfl T.w6g T.w5w.kp T.w6i .nil qah #[pv 2,pv 10],pv 11,pv 13]]))))))))
  (qa6 (qak (pv 7)))))),[sr wt,none,none,none,none,none,none,none,none,none,none,none,none,none];left;rename_i l hl;have s1:=qa5 hl (.lst []);have hL1:=s1 _ _ hL;left;refine qdg (xs:=rwV Rs) (fun i σ H'=>∃(bs:List Ob)(w1 w2 w3 w4 w5 w6:Option V),σ=[sr wt,sr ln,sr lw,sr le,sr lr,sr la,sr lc,sr l,w1,w2,w3,w4,w5,w6]/\qas H H'/\H' l=some (.lst (bsV bs))/\bs.map (·.R)=(Rs.take i).map (jls P.ws)/\(∀b∈bs,jbs d H' P b)/\∀b∈bs,b.t=tuO b.R.n b.R.r)
  ⟨[],_,_,_,_,_,_,rfl,s1,qa1,rfl,fun b h=>by simp at h,fun b h=>by simp at h⟩ ?_ ?_ ?_
 .rintro i σ H' hi ⟨bs,w1,w2,w3,w4,w5,w6,rfl,sm,el,hbs,hB,hU⟩;exact SqL.of (sm _ _ hL)
 .rintro i x σ H' hx ⟨bs,w1,w2,w3,w4,w5,w6,rfl,sm,el,hbs,hB,hU⟩;unfold rwV at hx;rw[zC] at hx;obtain⟨R,hr,rfl⟩:=uY.mp hx;have tk:Rs.take (i+1)=Rs.take i++[R]:=by rw[zM,hr];rfl
  have hi9:i<Rs.length:=(uG.mp hr).1;have hRi:=(hR R (zD hr)).same sm;have hrow:=hRi.row;have hbl:bs.length<=30:=by have:=congrArg wV hbs;rw[zB,zB,zS] at this;omega
  have xn:atI (P.nm.map V.str) ((R.i:Nat):Int)=some (.str (nmF P R.i)):=by rw[qdd hRi.il];exact qar (by rw[zC,zA hRi.il];rfl)
  generalize hri:((R.i:Nat):Int)=ri at*;clear hx;left;rename_i pm hpm;have m0:=wA R.n (show(2:Int)≠0 by decide);have m1:=vZ R.n (show(0:Int)<2 by decide);have hturn:∃t:Option Int,atI [V.non,V.int (1+R.r)] (R.n%2)=some (tV t)/\t=tuO R.n R.r:=by
   have hc:R.n%2=0\/R.n%2=1:=by omega
   rcases hc with c|c
   .exact⟨none,by rw[c];exact qar (j:=0) rfl,by unfold tuO;rw[iB c]⟩
   .exact⟨some (1+R.r),by rw[c];exact qar (j:=1) rfl,by unfold tuO;rw[iA #[]]⟩
  obtain⟨t,ht,htu⟩:=hturn;refine qb0 (SqL.of qa1) ht ?_;have s2:=qa5 hpm (.lst [V.non,V.int (1+R.r)]);generalize upd H' pm (.lst [V.non,V.int (1+R.r)])=H1 at*;clear m0 m1 ht hrow;have hN1:=s2 _ _ (sm _ _ hN);have hW1:=s2 _ _ (sm _ _ hW);have hP1:=s2 _ _ hRi.par;have el1:=s2 _ _ el;have hB1:∀b∈bs,jbs d H1 P b:=fun b hb=>(hB b hb).same s2;have zl:(bsV bs).length<sizeLine:=by unfold bsV;rw[zB];show _<16777216;omega
  have fin:∀(x dx a m:Addr)(H2 H3:Hp),qas H1 H2->H2 x=none->H2 dx=none->H2 a=some (.dK (tdK (P.ws.zip R.ps)))->upd (upd H2 dx (.own x)) x (.ins (qfh d R.s) dx []) m=none->H3 x=some (.ins (qfh d R.s) dx (fsB R.n (nmF P R.i) m R.r t))->H3 m=some (.dK (tdK (P.ws.zip R.ps)))->SameBut x (upd (upd H2 dx (.own x)) x (.ins (qfh d R.s) dx [])) H3->
    qas H1 H3/\H3 l=some (.lst (bsV bs))/\∃bs':List Ob,bsV bs'=bsV bs++[.ref x]/\bs'.map (·.R)=(Rs.take (i+1)).map (jls P.ws)/\(∀b∈bs',jbs d (upd H3 l (.lst (bsV bs++[.ref x]))) P b)/\∀b∈bs',b.t=tuO b.R.n b.R.r:=fun x dx a m H2 H3 s3 hx hdx ha hm ex em sb=>by
   have nmx:m≠x:=fun z=>by subst z;rw[qa1] at hm;cases hm
   rw[qa7 nmx] at hm;have s13:qas H1 H3:=fun b o hb=>by
    have hb2:=s3 _ _ hb;exact sb b o (qa8 hb2 hx) (by rw[qa7 (qa8 hb2 hx),qa7 (qa8 hb2 hdx)];exact hb2)
   have el3:=s13 _ _ el1;refine⟨s13,el3,bs++[⟨jls P.ws R,x,m,t⟩],by unfold bsV;rw[zE];rfl,by rw[zE,hbs,tk,zE];rfl,fun b hb=>?_,fun b hb=>?_⟩
   rotate_left
   .rcases zP.mp hb with h|h
    .exact hU b h
    .rw[zG.mp h];exact htu
   have nel:∀y:Ob,jbs d H3 P y->y.o≠l/\y.m≠l:=fun y hy=>by
    refine⟨fun z=>?_,fun z=>?_⟩
    .obtain⟨dx,e⟩:=hy.obj;rw[z,el3] at e;cases e
    .have e:=hy.amt;rw[z,el3] at e;cases e
   rcases zP.mp hb with h|h
   .have h1:=(hB1 b h).same s13;exact h1.put (nel b h1).1 (nel b h1).2
   .have:b=⟨jls P.ws R,x,m,t⟩:=by simpa using h
    subst this;have h1:jbs d H3 P ⟨jls P.ws R,x,m,t⟩:=⟨⟨dx,ex⟩,em,qe6 _,jjt hRi.len.symm,hRi.il⟩;exact h1.put (nel _ h1).1 (nel _ h1).2
  left;refine jcs ?_;left;refine jxf (fun hs=>?_) (fun hs=>?_)
  .have ec:qfh d R.s=d.w0d:=by rw[hs];rfl
   left;refine qb0 (SqL.of hN1) xn ?_;left;refine⟨lw,R.e,P.ws,R.ps,rfl,SqL.of hW1,SqL.of hP1,hRi.len.symm,#[],fun a H2 s3 ha ea=>?_⟩;left;intro x dx hx hdx ne;refine⟨x,dx,a,R.s,R.n,nmF P R.i,tdK (P.ws.zip R.ps),R.r,t,rfl,by rw[ec];exact qa1,by rw[qa7 (qa8 ea hx),qa7 (qa8 ea hdx)];exact ea,fun m H3 hm ex em sb=>⟨rfl,?_⟩⟩;rw[<-ec] at hm sb;obtain⟨s13,el3,bs',e1,e2,e3,e4⟩:=fin x dx a m H2 H3 s3 hx hdx ea hm ex em sb;left;exact⟨bs',_,_,_,_,_,_,rfl,qaw ((sm.trans s2).trans s13) hl,by rw[qa1,e1],e2,e3,e4⟩
  .have ec:qfh d R.s=d.w0c:=by rw[hs];rfl
   left;refine qb0 (SqL.of hN1) xn ?_;left;refine⟨lw,R.e,P.ws,R.ps,rfl,SqL.of hW1,SqL.of hP1,hRi.len.symm,#[],fun a H2 s3 ha ea=>?_⟩;left;intro x dx hx hdx ne;refine⟨x,dx,a,R.s,R.n,nmF P R.i,tdK (P.ws.zip R.ps),R.r,t,rfl,by rw[ec];exact qa1,by rw[qa7 (qa8 ea hx),qa7 (qa8 ea hdx)];exact ea,fun m H3 hm ex em sb=>⟨rfl,?_⟩⟩;rw[<-ec] at hm sb;obtain⟨s13,el3,bs',e1,e2,e3,e4⟩:=fin x dx a m H2 H3 s3 hx hdx ea hm ex em sb;left;exact⟨bs',_,_,_,_,_,_,rfl,qaw ((sm.trans s2).trans s13) hl,by rw[qa1,e1],e2,e3,e4⟩
 .rintro σ H' ⟨bs,w1,w2,w3,w4,w5,w6,rfl,sm,el,hbs,hB,hU⟩;left;rw[show Rs.take (rwV Rs).length=Rs by unfold rwV;rw[zB,zQ]] at hbs;exact q l bs H' sm el hbs hB hU
def qe5(r:Int)(su:Bool)(R:Rw):Bool:=!R.s && (su || decide (R.r<r))
inductive jpv(K:uT)(d:Ad)(vs:List V)(H:Hp)(Q:VK)(E:XK):Prop
 |mk(la:Addr)(nh kd:Nat)(R:Rw)(h:Int)(pa:Addr)(r:Int)(su:Bool)(_:vs=[.ref R.p,.ref la])(_:jbt H nh kd R)(_:H la=some (.tup [.int h,.ref pa,.int r,.bl su]))(_:Q (.bl (qe5 r su R)) H)
include T in
theorem wet:jab P w K mg base CX0 1 d.wdw d.wcs ["_law_row","_law_ask"] (jpv K d):=by
 exists T.wdt.ok wg1
 .right
 obtain⟨la,nh,kd,R,h,pa,r,su,rfl,hR,hla,q⟩:=h;exists qa6 (qak (qf2 (jl1 (~~~0)) (qek (jqk (~~~1) (qek (qbs jf8 (~~~0) (~~~1) (qaq _))))))),[sr R.p,sr la];have hrow:=hR.row;generalize hri:((R.i:Nat):Int)=ri at*;unfold qe5 at q
 cases c1:R.s with
 |true=>
  rw[c1] at hrow q;left;exact q
 |false=>
  rw[c1] at hrow q
  cases c2:su with
  |true=>
   rw[c2] at hla q;left;exact q
  |false=>
   rw[c2] at hla q;left;exact q
def psN(R:Rw)(j:Nat):Int:=(R.ps[j]?).getD 0
def qdw(el:Nat->Nat)(Rs:List Rw)(a j:Nat):Int:=((Rs.filter fun R=>decide (a∈qac el R.i)).map fun R=>psN R j).sum
inductive jtu(K:uT)(d:Ad)(vs:List V)(H:Hp)(Q:VK)(E:XK):Prop
 |mk(lr le:Addr)(las:List Addr)(Rs:List Rw)(es:List Nat)(nh kd a j:Nat)(_:vs=[.ref lr,.ref le,.int (a:Int),.int (j:Int)])(_:H lr=some (.lst (rwV Rs)))(_:Rs.length<=100)(_:(∀R∈Rs,jbt H nh kd R))(_:jaz H le las es)(_:nh=es.length+1)(_:j<kd)(_:∀H',qas H H'->Q (.int (qdw (elN es) Rs a j)) H')
include T in
theorem wee:jab P w K mg base CX0 3 d.wg7 d.wdv ["_law_rows_here","_law_lines_here","_law_at","_law_j"] (jtu K d):=by
 exists T.wf5.ok wgn
 .right
 obtain⟨lr,le,las,Rs,es,nh,kd,a,j,rfl,hL,h9,hR,hE,en,jk,q⟩:=h;refine⟨_,(qa6 (qak (qai (jis rfl) rfl T.wh4 PyProof.Rows.boot_sum #[qc2 (caps:=[1,2,3]) (cn:=["_law_lines_here","_law_at","_law_j"]) (qbh rfl rfl (by rfl) (by rfl) rfl ⟨rfl,⟨rfl,⟨rfl,trivial⟩⟩⟩ (by rfl) rfl ⟨⟨rfl,rfl,rfl,rfl,_,rfl⟩,⟨⟨rfl,rfl,rfl,rfl,_,rfl⟩,⟨⟨rfl,rfl,rfl,rfl,_,rfl⟩,trivial⟩⟩⟩ ∅) rfl (qb3 (pv 0)) (fun _ _ _ _=>(qej (qan qdb (pv 2) (qal qaj (pv 1) (~~~0) nofun) (by rfl)))) (fun _ _ _ _=>(qal qaj (~~~0) (pv 3) nofun))]))),?_⟩
 walk_at"d"
 try dsimp only[cxC]
 refine qag (σ:=[sr lr,sr le,some (.int (a:Int)),some (.int (j:Int))]) rfl ?_;have xj:∀(R:Rw),R.ps.length=kd->atI (R.ps.map V.int) ((j:Nat):Int)=some (.int (psN R j)):=fun R hl=>qar (by unfold psN;rw[zC,zA #[]];rfl);generalize hai:((a:Nat):Int)=ai;generalize hji:((j:Nat):Int)=ji at*;left;intro C s0 H0 fp acc hacc;refine jb7 Rs.length (fun i H'=>qas H H'/\H' acc=some (.lst ((((Rs.take i).filter fun R=>decide (a∈qac (elN es) R.i)).map fun R=>psN R j).map V.int))) ⟨qa5 hacc _,qa1⟩ ?_ ?_ ?_ ?_
 .rintro i H' hi ⟨sm,_⟩;exact⟨_,.ref Rs[i].p,SqL.of (sm _ _ hL),by unfold rwV;rw[zC,zA hi];rfl⟩
 .rintro H' ⟨sm,_⟩;exact⟨_,SqL.of (sm _ _ hL),by unfold rwV;rw[zB];exact uH _⟩
 .rintro i H' v H'' hi ⟨sm,ea⟩ ⟨rfl,hv⟩;have hv:=hv _ (SqL.of (sm _ _ hL));unfold rwV at hv;rw[zC,zA hi] at hv
  cases hv
  have tk:Rs.take (i+1)=Rs.take i++[Rs[i]]:=by rw[zM,zA hi];rfl
  have hRi:=(hR _ (zL hi)).same sm;generalize Rs[i]=R at*;have hrow:=hRi.row;have ril:=hRi.il;obtain⟨x,_,ax,ex⟩:=(hE.same sm).at (k:=R.i) #[];have etop:=(hE.same sm).top;have hpar:=hRi.par;generalize hri:((R.i:Nat):Int)=ri at*;have zl:((((Rs.take i).filter fun R=>decide (a∈qac (elN es) R.i)).map fun R=>psN R j).map V.int).length<sizeLine:=by
   rw[zB,zB];have h1:=zU (fun R:Rw=>decide (a∈qac (elN es) R.i)) (Rs.take i);rw[zS] at h1;show _<16777216;omega
  left;refine qb0 (SqL.of etop) ax ?_;left;refine jtq (SqL.of ex) hai ?_;by_cases c:a∈qac (elN es) R.i
  .rw[iC c];left;refine qb0 (SqL.of hpar) (xj R hRi.len) ?_;left;refine⟨qaw sm hacc,?_⟩;rw[qa1,tk,yB,zY,iB (iC c),zE,zE];rfl
  .rw[iD c];left;refine⟨sm,?_⟩;rw[ea,tk,yB,zY,iA (by rw[iD c];decide),yQ,yC]
 rintro H1 ⟨sm,ea⟩;rw[zQ] at ea;left;refine jsz (SqL.of ea) ?_;left;exact q _ sm
def jwi{K:uT}{lo hi:Option Int}(h:SqL K H a xs)(q:∀p,H p=none->Q (.ref p) (upd H p (.lst (jhf xs lo hi)))):jw8 K (.ref a) lo hi H Q:=⟨a,xs,rfl,h,q⟩
theorem jtv{R:Rw}(h:∀p∈R.ps,jgr p):0<=psN R j/\psN R j<=6*10^27:=by
 unfold psN
 cases e:R.ps[j]? with
 |none=>exact⟨wB _,∅⟩
 |some x=>have:=h x (zD e);exact⟨this.lo,this.hi⟩
theorem jfy{el:Nat->Nat}{a j:Nat}:∀{Rs:List Rw},(∀R∈Rs,∀p∈R.ps,jgr p)->0<=qdw el Rs a j/\qdw el Rs a j<=((Rs.length:Nat):Int)*(6*10^27)
 | [],_=>⟨wB _,by show(0:Int)<=0*(6*10^27);decide⟩
 |R::Rs,h=>by
  have ih:=jfy (el:=el) (a:=a) (j:=j) (Rs:=Rs) fun x hx=>h x (zH _ hx);have hb:=jtv (j:=j) (h R (zN ..));unfold qdw at ih⊢;rw[zY,zK];by_cases c:decide (a∈qac el R.i)=true
  .rw[iB c,zT,List.sum_cons];omega
  .rw[iA c];omega
theorem jzb(h0:0<=r):jhf (rwV Rs) none (some r)=rwV (Rs.take r.toNat):=by
 obtain⟨n,rfl⟩:=vL h0;unfold jhf;rw[HT.sIx_none,HT.sIx_nat,List.drop_zero,Nat.sub_zero,xA];unfold rwV;rw[<-List.map_take,zB]
 congr 1
 by_cases c:n<=Rs.length
 .rw[Nat.min_eq_left c]
 .rw[Nat.min_eq_right #[],zQ,bJ #[]]
structure CpB(x:Int):Prop where
 lo:0<=x
 hi:x<=10^30
structure IxB(x:Int):Prop where
 lo:0<=x
 hi:x<=6
structure SmB(x:Int):Prop where
 lo:0<=x
 hi:x<=2*10^29
theorem jjv{a:Nat}(h:∀R∈Rs,∀p∈R.ps,jgr p)(l:Rs.length<=30):SmB (qdw el Rs a j):=by
 have:=jfy (el:=el) (a:=a) (j:=j) h;exact⟨this.1,#[]⟩
structure LwB(x:Int):Prop where
 lo:0<=x
 hi:x<=3*10^29
theorem jwj{x p:Int}{b:Bool}(h:SmB x)(hp:jgr p):LwB (x+p*if b=true then 1 else 0):=by
 have h1:=h.lo;have h2:=h.hi;have p1:=hp.lo;have p2:=hp.hi
 cases b with
 |true=>rw[iB rfl,Int.mul_one];exact⟨#[],#[]⟩
 |false=>rw[iA uJ,Int.mul_zero];exact⟨#[],#[]⟩
theorem jwk{x y z v:Int}(h:LwB x)(hy:SmB y)(hz:z∈ [0,0,1,0-if decide (0<y)=true then 1 else 0])(hv:v∈ [x+y+z,if x-1 > 0 then x-1 else 0]):CpB v:=by
 have h1:=h.lo;have h2:=h.hi;have y1:=hy.lo;have y2:=hy.hi;have hz:z=0\/z=1\/z=0-(if decide (0<y)=true then 1 else 0):=by
  simp only[zO,yI,or_false] at hz;omega
 have hv:v=x+y+z\/v=if x-1 > 0 then x-1 else 0:=by
  simp only[zO,yI,or_false] at hv;exact hv
 have zb:0<=y+z/\z<=1:=by
  rcases hz with e|e|e
  .omega
  .omega
  .rw[e];by_cases c:0<y
   .rw[iC c,iB rfl];omega
   .rw[iD c,iA uJ];omega
 rcases hv with e|e
 .exact⟨#[],#[]⟩
 .rw[e];split
  .exact⟨#[],#[]⟩
  .exact⟨#[],#[]⟩
inductive jpw(K:uT)(d:Ad)(vs:List V)(H:Hp)(Q:VK)(E:XK):Prop
 |mk(a:Addr)(ns:List Int)(lr le la pa:Addr)(las:List Addr)(Rs:List Rw)(es:List Nat)(kd h:Nat)(aps:List Int)(rk:Int)(su:Bool)(_:vs=[.ref a,.ref lr,.ref le,.ref la])(_:SqL K H a (ns.map V.int))(_:ns.length<=63)(_:H lr=some (.lst (rwV Rs)))(_:Rs.length<=30)(_:(∀R∈Rs,jbt H (es.length+1) kd R))(_:jaz H le las es)(_:es.length<=5)(_:1<=kd)(_:kd<=6)(_:h<es.length+1)(_:H la=some (.tup [.int (h:Int),.ref pa,.int rk,.bl su]))(_:H pa=some (.lst (aps.map V.int)))(_:aps.length=kd)(_:(∀p∈aps,jgr p))(_:∀(lc:Addr)(cs:List Pq)(H':Hp),qas H H'->H' lc=some (.lst (qsV cs))->cs.length=es.length+1->jb9 H' kd cs->Q (.ref lc) H')
include T in
theorem wge:jab P w K mg base CX0 4 d.weq d.wcp ["_law_script","_law_rows_here","_law_lines_here","_law_ask"] (jpw K d):=by
 exists T.wfb.ok w2b
 .right
 obtain⟨a,ns,lr,le,la,pa,las,Rs,es,kd,h,aps,rk,su,rfl,hSa,h63,hL,r30,hR,hE,e5,k1,k3,hh,hla,hpa,apl,apn,q⟩:=h;refine⟨_,(qa2 (qae (i:=4) w2b.nd rfl (uI rfl) (qa9 ((w22 T).mono ∅) hr rfl T.w3m T.w3e.kp T.w3n .nil qah #[pv 0,qa4]))
  (qa2 (qea (j:=5) (caps:=[3]) (cn:=["_law_ask"]) (qbh rfl rfl (by rfl) (by rfl) rfl ⟨rfl,trivial⟩ (by rfl) rfl ⟨⟨rfl,rfl,rfl,rfl,_,rfl⟩,trivial⟩ ∅) rfl w2b.nd rfl rfl (qb3 (pv 1)) (fun _ _ _ _=>(qej (qcq (qby (qa9 ((wet T).mono ∅) hr rfl T.wfj T.wdt.kp T.wff .nil qah #[pv 0,pv 1]))))) (fun _ _ _ _=>(pv 0)))
  (qa2 (qea (j:=6) (caps:=[3]) (cn:=["_law_ask"]) (qbh rfl rfl (by rfl) (by rfl) rfl ⟨rfl,trivial⟩ (by rfl) rfl ⟨⟨rfl,rfl,rfl,rfl,_,rfl⟩,trivial⟩ ∅) rfl w2b.nd rfl rfl (qb3 (pv 1)) (fun _ _ _ _=>(qej (qby (qa9 ((wet T).mono ∅) hr rfl T.wfj T.wdt.kp T.wff .nil qah #[pv 0,pv 1])))) (fun _ _ _ _=>(pv 0)))
  (qa2 (qae (i:=7) w2b.nd rfl (uI rfl) qa4)
  (qa2 (qbg (qb5 (qan qcc (qa9 ((w09 T).mono ∅) hr rfl T.w18 T.w15.kp T.w1b .nil qah #[pv 4,qa4,qa4]) qa4 (qaq _)) (qa6 (qae (i:=7) w2b.nd rfl (uI rfl) (qal qaj (qal qaj (pv 2) (~~~3) nofun) (qa9 ((w09 T).mono ∅) hr rfl T.w18 T.w15.kp T.w1b .nil qah #[pv 4,qa4,qai qat rfl T.w29 vF #[qal qaj (pv 2) (~~~3) nofun]]) nofun))) qao))
  (qa2 (qae (i:=8) w2b.nd rfl (uI rfl) (qbl qa3))
  (qa2 (qbc vE rfl (qbv rfl T.w3l #[qai qat rfl T.w29 vF #[pv 2]]) (qab (i:=9) w2b.nd rfl (uI rfl)) (qa2 (qae (i:=10) w2b.nd rfl (uI rfl) (qbl qa3))
  (qa2 (qbc vE rfl (qbv rfl T.w3l #[qai qat rfl T.w29 vF #[~~~3]]) (qab (i:=11) w2b.nd rfl (uI rfl)) (qa2 (qae (i:=12) w2b.nd rfl (uI rfl) (qam qax (qa9 ((wee T).mono ∅) hr rfl T.wgd T.wf5.kp T.wg0 .nil qah #[pv 5,pv 2,pv 9,pv 11]) (qam qbw (qal qaj (~~~3) (pv 11) nofun) (qaz qe3 rfl T.wej xX #[qbs qdb (pv 9) (qal qaj (pv 2) (~~~3) nofun) (by rfl)]))))
  (qa2 (qae (i:=13) w2b.nd rfl (uI rfl) (qa9 ((wee T).mono ∅) hr rfl T.wgd T.wf5.kp T.wg0 .nil qah #[qcf jn5 (pv 6) qcx (qcw (qa9 ((w09 T).mono ∅) hr rfl T.w18 T.w15.kp T.w1b .nil qah #[pv 4,qam qax (qam qax qa4 (qam qbw qa4 (pv 9))) (pv 11),qam qax (qai qat rfl T.w29 vF #[pv 6]) qa4])),pv 2,pv 9,pv 11]))
  (qa2 (qae (i:=14) w2b.nd rfl (uI rfl) (qal qaj (qbl #[qa4,qa4,qa4,qam qf5 qa4 (qaz qe3 rfl T.wej xX #[qbs qgb (pv 13) qa4 (qaq _)])]) (qa9 ((w09 T).mono ∅) hr rfl T.w18 T.w15.kp T.w1b .nil qah #[pv 4,qam qax (qam qax qa4 (qam qbw qa4 (pv 9))) (pv 11),qa4]) nofun))
  (qa6 (qb2 (qdn vD vQ vR qbi (pv 10) #[qal qaj (qbl #[qam qax (qam qax (pv 12) (pv 13)) (pv 14),qai (jig rfl) rfl T.wgw PyProof.Rows.boot_max #[qa4,qam qf5 (pv 12) qa4]]) (qaz qe3 rfl T.wej xX #[qbs qcc (pv 9) (pv 7) (qaq _)]) nofun])))))))
  (qa6 (qb2 (qdn vD vQ vR qbi (pv 8) #[pv 10]))))))
  (qa6 (qak (pv 8)))))))))),?_⟩
 walk_at"d"
 try dsimp only[cxC]
 refine qag (σ:=[sr a,sr lr,sr le,sr la,none,none,none,none,none,none,none,none,none,none,none]) rfl ?_;left;refine⟨a,ns,7,rfl,hSa,∅,∅,h63,fun H sc=>?_⟩;have hL:=sc _ _ hL;have hR:=fun R hr=>(hR R hr).same sc;have hE:=hE.same sc;have hla:=sc _ _ hla;have hpa:=sc _ _ hpa;have q:=fun lc cs H' (s:qas H H')=>q lc cs H' (sc.trans s);generalize qbu ns 7=c;clear hSa sc;have hLH:=hL;have hRH:=hR;have hlaH:=hla;left;intro C s0 H0 fp ls hls;refine jb7 Rs.length (fun i H'=>H'=upd H ls (.lst (rwV ((Rs.take i).filter fun R=>!qe5 rk su R)))) rfl ?_ ?_ ?_ ?_
 .rintro i H' hi rfl;exact⟨_,.ref Rs[i].p,SqL.of (qad hLH hls),by unfold rwV;rw[zC,zA hi];rfl⟩
 .rintro H' rfl;exact⟨_,SqL.of (qad hLH hls),by unfold rwV;rw[zB];exact uH _⟩
 .rintro i H' v H'' hi rfl ⟨rfl,hv⟩;have hv:=hv _ (SqL.of (qad hLH hls));unfold rwV at hv;rw[zC,zA hi] at hv
  cases hv
  have tk:Rs.take (i+1)=Rs.take i++[Rs[i]]:=by rw[zM,zA hi];rfl
  have hRi:=(hRH _ (zL hi)).same (qa5 hls (.lst (rwV ((Rs.take i).filter fun R=>!qe5 rk su R))));generalize Rs[i]=R at*;have hla':=qad (o':=.lst (rwV ((Rs.take i).filter fun R=>!qe5 rk su R))) hlaH hls;have zl:(rwV ((Rs.take i).filter fun R=>!qe5 rk su R)).length<sizeLine:=by
   unfold rwV;rw[zB];have h1:=zU (fun R:Rw=>!qe5 rk su R) (Rs.take i);rw[zS] at h1;show _<16777216;omega
  left;refine⟨la,_,kd,R,_,pa,rk,su,rfl,hRi,hla',?_⟩
  cases c:qe5 rk su R with
  |true=>
   left;rw[tk,yB,zY,iA (by rw[c];exact uJ),yQ,yC]
  |false=>
   left;rw[qbn,tk,yB,zY,iB (by rw[c];try rfl)];unfold rwV;rw[zE];rfl
 rintro H' rfl;rw[zQ];have s1:=qa5 hls (.lst (rwV (Rs.filter fun R=>!qe5 rk su R)));have els:upd H ls (.lst (rwV (Rs.filter fun R=>!qe5 rk su R))) ls=some (.lst (rwV (Rs.filter fun R=>!qe5 rk su R))):=qa1;generalize upd H ls (.lst (rwV (Rs.filter fun R=>!qe5 rk su R)))=H1 at*;have hLH1:=s1 _ _ hL;have hRH1:=fun R hr=>(hR R hr).same s1;have hlaH1:=s1 _ _ hla;left;intro C s0 H0 fp lg hlg;refine jb7 Rs.length (fun i H'=>H'=upd H1 lg (.lst (rwV ((Rs.take i).filter fun R=>qe5 rk su R)))) rfl ?_ ?_ ?_ ?_
 .rintro i H' hi rfl;exact⟨_,.ref Rs[i].p,SqL.of (qad hLH1 hlg),by unfold rwV;rw[zC,zA hi];rfl⟩
 .rintro H' rfl;exact⟨_,SqL.of (qad hLH1 hlg),by unfold rwV;rw[zB];exact uH _⟩
 .rintro i H' v H'' hi rfl ⟨rfl,hv⟩;have hv:=hv _ (SqL.of (qad hLH1 hlg));unfold rwV at hv;rw[zC,zA hi] at hv
  cases hv
  have tk:Rs.take (i+1)=Rs.take i++[Rs[i]]:=by rw[zM,zA hi];rfl
  have hRi:=(hRH1 _ (zL hi)).same (qa5 hlg (.lst (rwV ((Rs.take i).filter fun R=>qe5 rk su R))));generalize Rs[i]=R at*;have hla':=qad (o':=.lst (rwV ((Rs.take i).filter fun R=>qe5 rk su R))) hlaH1 hlg;have zl:(rwV ((Rs.take i).filter fun R=>qe5 rk su R)).length<sizeLine:=by
   unfold rwV;rw[zB];have h1:=zU (fun R:Rw=>qe5 rk su R) (Rs.take i);rw[zS] at h1;show _<16777216;omega
  left;refine⟨la,_,kd,R,_,pa,rk,su,rfl,hRi,hla',?_⟩
  cases c:qe5 rk su R with
  |true=>
   left;rw[qbn,tk,yB,zY,iB (by rw[c];try rfl)];unfold rwV;rw[zE];rfl
  |false=>
   left;rw[tk,yB,zY,iA (by rw[c];exact uJ),yQ,yC]
 rintro H' rfl;rw[zQ];have s2:=qa5 hlg (.lst (rwV (Rs.filter fun R=>qe5 rk su R)));have elg:upd H1 lg (.lst (rwV (Rs.filter fun R=>qe5 rk su R))) lg=some (.lst (rwV (Rs.filter fun R=>qe5 rk su R))):=qa1;have els2:=s2 _ _ els;generalize upd H1 lg (.lst (rwV (Rs.filter fun R=>qe5 rk su R)))=H2 at*;have t2:=s1.trans s2;have hE2:=hE.same t2;have hla2:=t2 _ _ hla;have hpa2:=t2 _ _ hpa;have hR2:∀R∈Rs,jbt H2 (es.length+1) kd R:=fun R hr=>(hR R hr).same t2;have f30:∀p:Rw->Bool,(Rs.filter p).length<=30:=fun p=>vP (zU ..) r30;have fst:∀R∈Rs.filter (fun R=>!qe5 rk su R),R∈Rs:=fun R hr=>(yG.mp hr).1;have fgo:∀R∈Rs.filter (fun R=>qe5 rk su R),R∈Rs:=fun R hr=>(yG.mp hr).1;have fs30:=f30 fun R=>!qe5 rk su R;have fg30:=f30 fun R=>qe5 rk su R;generalize (Rs.filter fun R=>!qe5 rk su R)=Ss at*;generalize (Rs.filter fun R=>qe5 rk su R)=Gs at*;clear hLH hLH1 hRH hRH1 hlaH hlaH1 els hls hlg s1 s2 f30;obtain⟨xh,_,axh,exh⟩:=hE2.at hh;have etop2:=hE2.top;have lh1:1<=(qac (elN es) h).length:=by have:=jdh (elN es) h;cases e:qac (elN es) h with|nil=>rw[e] at this;cases this|cons _ _=>show 1<=_+1;omega
 have lh2:=qci (qdu (fun k e h=>(hE.lo k e h).1) (es.length+1)) h hh;have lnm:(((qac (elN es) h).map iV).length:Int)=(((qac (elN es) h).length:Nat):Int):=by rw[zB]
 generalize hhi:((h:Nat):Int)=hi at*;left;refine qce (fun σ' H'=>H'=H2/\∃sh:Int,σ'=[sr a,sr lr,sr le,sr la,some (V.int c),sr ls,sr lg,some (V.int sh),none,none,none,none,none,none,none]) ?_ ?_
 .left;refine qbo ∅ ∅ ∅ ∅ fun r _ _=>?_;left;refine i_2 (fun c1=>?_) (fun c1=>?_)
  .left;refine qb0 (SqL.of etop2) axh ?_;left;refine qb0 (SqL.of etop2) axh ?_;left;rw[lnm];refine qbo ∅ ∅ #[] #[] fun r2 a0 a1=>?_;refine jo0 (SqL.of exh) a0 (by rw[zB];exact a1) fun m hm=>?_;obtain⟨k,_,rfl⟩:=zJ.mp hm;left;exact⟨rfl,_,rfl⟩
  .left;exact⟨rfl,_,rfl⟩
 rintro σ' H' ⟨rfl,sh,rfl⟩;clear lh1 lh2 lnm;left;rename_i lc hlc;have s3:=qa5 hlc (.lst []);have elc:upd H' lc (.lst []) lc=some (.lst []):=qa1;generalize upd H' lc (.lst [])=H3 at*;have hln:(las.map V.ref).length=es.length+1:=by rw[zB,hE.len]
 have hrn:(((las.map V.ref).length:Nat):Int).toNat=es.length+1:=by rw[hln];omega
 left;rw[hrn];refine qcz (fun i σ Hx=>∃(cs:List Pq)(w9 w10 w11 w12 w13 w14:Option V),σ=[sr a,sr lr,sr le,sr la,some (V.int c),sr ls,sr lg,some (V.int sh),sr lc,w9,w10,w11,w12,w13,w14]/\qas H' Hx/\Hx lc=some (.lst (qsV cs))/\cs.length=i/\jb9 Hx kd cs/\∀q∈cs,q.1≠lc) ⟨[],_,_,_,_,_,_,rfl,s3,elc,rfl,fun q hq=>by simp at hq,fun q hq=>by simp at hq⟩ ?_ ?_
 .rintro i σ Hx hi ⟨cs,w9,w10,w11,w12,w13,w14,rfl,sx,elx,hcl,hcs,ncs⟩;rw[dZ];have ki:((i:Nat):Int).natAbs<2^600:=vJ (show((i:Nat):Int).natAbs<=12 by omega) ∅;have ib:IxB ((i:Nat):Int):=⟨#[],#[]⟩;generalize hii:((i:Nat):Int)=ii at*;have hpax:=sx _ _ hpa2;have hlax:=sx _ _ hla2;clear hln hrn;have apn2:(((aps.map V.int).length:Nat):Int).toNat=kd:=by rw[zB,apl];omega
  left;rename_i lp hlp;have s4:=qa5 hlp (.lst []);have elp:upd Hx lp (.lst []) lp=some (.lst []):=qa1;generalize upd Hx lp (.lst [])=H4 at*;have hpa4:=s4 _ _ hpax;have hla4:=s4 _ _ hlax;clear hpax hlax;left;rw[apn2];refine qcz (fun j σ Hy=>∃(cur:List Int)(w11 w12 w13 w14:Option V),σ=[sr a,sr lr,sr le,sr la,some (V.int c),sr ls,sr lg,some (V.int sh),sr lc,some (V.int ii),sr lp,w11,w12,w13,w14]/\qas Hx Hy/\Hy lp=some (.lst (cur.map V.int))/\cur.length=j/\∀x∈cur,CpB x) ⟨[],_,_,_,_,rfl,s4,elp,rfl,fun x hx=>by simp at hx⟩ ?_ ?_
  .clear hpa4 hla4 elp s4;rintro j σ Hy hj ⟨cur,w11,w12,w13,w14,rfl,sy,ely,hcu,hcv⟩;rw[dZ];have sxy:=sx.trans sy;have hpay:=sxy _ _ hpa2;have hlay:=sxy _ _ hla2;have hEy:=hE2.same sxy;have etopy:=hEy.top;have exhy:=sxy _ _ exh;have elsy:=sxy _ _ els2;have elgy:=sxy _ _ elg;have hRy:∀R∈Rs,jbt Hy (es.length+1) kd R:=fun R hr=>(hR2 R hr).same sxy;have eap:=zA (show j<aps.length by omega);have xj:atI (aps.map V.int) ((j:Nat):Int)=some (.int (aps[j]'#[])):=qar (by rw[zC,eap];rfl);have pj:=apn _ (zD eap);generalize aps[j]'#[]=pv at*;have pb:pv.natAbs<2^600:=by have:=pj.lo;have:=pj.hi;exact vJ (show pv.natAbs<=10^28 by omega) ∅
   have jb:IxB ((j:Nat):Int):=⟨#[],#[]⟩;generalize hjj:((j:Nat):Int)=jj at*;left;refine⟨ls,le,las,Ss,es,_,kd,i,j,by rw[hii,hjj],elsy,vP fs30 ∅,fun R hr=>hRy R (fst R hr),hEy,rfl,hj,fun H5 s5=>?_⟩;have lowb:SmB (qdw (elN es) Ss i j):=jjv (fun R hr=>(hR2 R (fst R hr)).nn) fs30;generalize qdw (elN es) Ss i j=lo at*;have hpa5:=s5 _ _ hpay;have hla5:=s5 _ _ hlay;have etop5:=s5 _ _ etopy;have exh5:=s5 _ _ exhy;have ely5:=s5 _ _ ely;have elg5:=s5 _ _ elgy;have hE5:=hEy.same s5;have hR5:∀R∈Rs,jbt H5 (es.length+1) kd R:=fun R hr=>(hRy R hr).same s5;clear hpay hlay etopy exhy elsy elgy hRy ely;left;refine qb0 (SqL.of hpa5) xj ?_;left;refine qb0 (SqL.of etop5) axh ?_;left;refine jtq (SqL.of exh5) hii ?_;have mb:∀b:Bool,(if b=true then(1:Int) else 0).natAbs<2^600:=fun b=>by cases b<;>decide
   have mb1:=mb (decide (i∈qac (elN es) h));generalize hbb:decide (i∈qac (elN es) h)=bb at*;have lwb:=jwj (b:=bb) lowb pj;left;generalize lo+pv*(if bb=true then 1 else 0)=low at*;have glen:(rwV Gs).length=Gs.length:=by unfold rwV;rw[zB]
   rw[glen];have x1:=ib.lo;have x2:=ib.hi;have x3:=jb.lo;have x4:=jb.hi;refine qbo #[] #[] #[] #[] fun r r0 r1=>?_;refine⟨_,rfl,?_⟩;refine jwi (SqL.of elg5) fun lx hlx=>?_;rw[jzb r0];have s6:=qa5 hlx (.lst (rwV (Gs.take r.toNat)));have elx6:upd H5 lx (.lst (rwV (Gs.take r.toNat))) lx=some (.lst (rwV (Gs.take r.toNat))):=qa1;generalize upd H5 lx (.lst (rwV (Gs.take r.toNat)))=H6 at*;have tg30:(Gs.take r.toNat).length<=30:=by rw[zS];omega
   clear r0 r1 glen x1 x2 x3 x4 hlx;left;refine⟨lx,le,las,Gs.take r.toNat,es,_,kd,i,j,by rw[hii,hjj],elx6,vP tg30 ∅,fun R hr=>(hR5 R (fgo R (yL hr))).same s6,hE5.same s6,rfl,hj,fun H7 s7=>?_⟩;have mob:SmB (qdw (elN es) (Gs.take r.toNat) i j):=jjv (fun R hr=>(hR2 R (fgo R (yL hr))).nn) tg30;generalize qdw (elN es) (Gs.take r.toNat) i j=mo at*;have ely7:=s7 _ _ (s6 _ _ ely5);have t57:=(s5.trans s6).trans s7;clear hpa5 hla5 etop5 exh5 ely5 elg5 hE5 hR5 s5 s6 s7 elx6 hbb lowb pj pb mb mb1 xj eap;left;rename_i pm hpm;have x1:=ib.lo;have x2:=ib.hi;have x3:=jb.lo;have x4:=jb.hi;refine qbo #[] #[] ∅ ∅ fun r2 b0 b1=>?_;refine je3 (xs:=[0,0,1,0-if decide (0<mo)=true then 1 else 0]) (SqL.of qa1) b0 b1 fun nr hnr=>?_;have s8:=qa5 hpm (.lst [V.int 0,V.int 0,V.int 1,V.int (0-if decide (0<mo)=true then 1 else 0)]);generalize upd H7 pm (.lst [V.int 0,V.int 0,V.int 1,V.int (0-if decide (0<mo)=true then 1 else 0)])=H8 at*;have ely8:=s8 _ _ ely7;clear b0 b1 ely7 hpm x1 x2 x3 x4;left;rename_i p9 hp9;have ely9:=qad (o':=.lst [V.int (low+mo+nr),V.int (if low-1 > 0 then low-1 else 0)]) ely8 hp9;have s9:=qa5 hp9 (.lst [V.int (low+mo+nr),V.int (if low-1 > 0 then low-1 else 0)]);have e9:upd H8 p9 (.lst [V.int (low+mo+nr),V.int (if low-1 > 0 then low-1 else 0)]) p9=some (.lst [V.int (low+mo+nr),V.int (if low-1 > 0 then low-1 else 0)]):=qa1;generalize upd H8 p9 (.lst [V.int (low+mo+nr),V.int (if low-1 > 0 then low-1 else 0)])=H9 at*;refine je3 (xs:=[low+mo+nr,if low-1 > 0 then low-1 else 0]) (SqL.of e9) (by split<;>decide) (by show _ <(2:Int);split<;>decide) fun v hv=>?_;have cv:=jwk lwb mob hnr hv;have zl:(cur.map V.int).length<sizeLine:=by rw[zB];show _<16777216;omega
   clear hv hnr lwb mob ely8 e9 hp9;left;refine⟨cur++[v],_,_,_,_,rfl,qaw (((sy.trans t57).trans s8).trans s9) hlp,by rw[qa1,zE];rfl,by rw[zF,hcu];rfl,fun x hx=>?_⟩;rcases zP.mp hx with hx|hx
   .exact hcv x hx
   .rw[zG.mp hx];exact cv
  .rintro σ Hy ⟨cur,w11,w12,w13,w14,rfl,sy,ely,hcu,hcv⟩;have ecy:=sy _ _ elx;have zq:(qsV cs).length<sizeLine:=by unfold qsV;rw[zB];show _<16777216;omega
   have nlp:lp≠lc:=(qa8 elx hlp).symm;left;refine⟨cs++[(lp,cur)],_,_,_,_,_,_,rfl,qaw (sx.trans sy) hlc,by rw[qa1];unfold qsV;rw[zE];rfl,by rw[zF,hcl];rfl,fun c' hc'=>?_,fun c' hc'=>?_⟩
   .rcases zP.mp hc' with h|h
    .obtain⟨g1,g2⟩:=hcs c' h;exact⟨by rw[qa7 (ncs c' h)];exact sy _ _ g1,g2⟩
    .rw[zG.mp h];exact⟨by rw[qa7 nlp];exact ely,hcu,fun x hx=>⟨(hcv x hx).lo,(hcv x hx).hi⟩⟩
   .rcases zP.mp hc' with h|h
    .exact ncs c' h
    .rw[zG.mp h];exact nlp
 .rintro σ Hx ⟨cs,w9,w10,w11,w12,w13,w14,rfl,sx,elx,hcl,hcs,ncs⟩;left;exact q lc cs Hx (t2.trans sx) elx hcl hcs
include T in
theorem w98:jab P w K mg base (My.CX1 P w) 4 d.w4j d.w3r ["self","name"] (w99 K d):=by
 exists okX T.wa7 w92
 .right
 obtain⟨t,S,x,rfl,hT,hx,q1,q2⟩:=h;exists qa6 (qak (qaz qc4 rfl T.w7e wG #[qb6 (qb9 (pv 0) T.w01 T.w0h ((w4w T).mono ∅) hr T.w5a .nil qay #[pv 1]) rfl])),[sr t,some (x)];have hT0:=hT;obtain⟨⟨dx,ht⟩,hw,hh,nd,hz,hE⟩:=hT;have ct:=T.w01;have nh:qav K d.w00 "houses":=T.w02;left;refine⟨t,S,x,rfl,hT0,hx,fun e he=>?_,q2⟩;obtain⟨z,rfl⟩:∃z,x=.str z:=by
  rcases hx with h|⟨_,nz⟩
  .exact h
  .rw[qd4 nz] at he;cases he
 obtain⟨⟨dh,ho⟩,hp,hpA,hc,hcA⟩:=hE e (qco he).1;have ch:=T.w1l;have nf:qav K d.w03 "cap":=T.w0k;have hRp:Rd H e.x.pa (.dK e.x.kp):=.inl hp;have hRc:Rd H e.x.ca (.dK e.x.kc):=.inl hc;left;rename_i p hp;exact q1 e he p hp
def w7x(K:uT)(d:Ad):Sp:=fun vs H Q _=>∃x y z:V,vs=[x,y,z]/\Q (.bl false) H
inductive jbz(K:uT)(d:Ad)(vs:List V)(H:Hp)(Q:VK)(E:XK):Prop
 |mk(o m dx:Addr)(n:Int)(z:Str)(rk:Int)(t:Option Int)(r:Int)(s:Bool)(_:vs=[.ref o,.int r,.bl s])(_:H o=some (.ins d.w0c dx (fsB n z m rk t)))(_:Q (.bl (s || decide (rk<r))) H)
include T in
theorem w5m:jab P w K mg base CX0 1 d.w3x d.w32 ["self","rank","sure"] (w7x K d):=by
 exists T.w8y.ok w7w
 .right
 obtain⟨x,y,z,rfl,q⟩:=h;exists qa6 (qak qeo),[some (x),some (y),some (z)];left;exact q
include T in
theorem w5l:jab P w K mg base CX0 1 d.w40 d.w35 ["self","rank","sure"] (jbz K d):=by
 exists T.w97.ok w8v
 .right
 obtain⟨o,m,dx,n,z,rk,t,r,b,rfl,ho,q⟩:=h;exists qa6 (qak (jqk (pv 2) (qek (qbs jf8 (qb6 (pv 0) rfl) (pv 1) (qaq _))))),[sr o,some (.int r),some (.bl b)];have c:=T.w3s;have n4:qav K d.w0c "rank":=T.w1r;unfold fsB at ho;left;refine jxf (fun e=>?_) (fun e=>?_)
 .subst e;left;exact q
 .subst e;left;exact q
def qb1(r:Int)(s:Bool)(b:Ob):Bool:=b.R.s || !(s || decide (b.R.r<r))
def wey(K:uT)(d:Ad):Sp:=fun vs H Q _=>∃(lh:Addr)(P:PL)(bs:List Ob)(r:Int)(s:Bool),vs=[.ref lh,.int r,.bl s]/\H lh=some (.lst (bsV bs))/\bs.length<=63/\(∀b∈bs,jbs d H P b)/\
 ∀(l:Addr),H l=none->Q (.ref l) (upd H l (.lst (bsV (bs.filter (qb1 r s)))))
include T in
theorem wf0:jab P w K mg base CX0 2 d.wc3 d.wa6 ["holds","rank","sure"] (wey K d):=by
 exists T.weo.ok wf2
 .right
 obtain⟨lh,P,bs,r,s',rfl,hL,h63,hB,q⟩:=h;refine⟨_,(qa6 (qak (qc2 (caps:=[1,2]) (cn:=["rank","sure"]) (qbh rfl rfl (by rfl) (by rfl) rfl ⟨rfl,⟨rfl,trivial⟩⟩ (by rfl) rfl ⟨⟨rfl,rfl,rfl,rfl,_,rfl⟩,⟨⟨rfl,rfl,rfl,rfl,_,rfl⟩,trivial⟩⟩ ∅) rfl (qb3 (pv 0)) (fun _ _ _ _=>(qej (qcq (qby (jfi (qeb (pv 0) T.w4f T.w0p ((w5m T).mono ∅) hr T.w5v .nil qah #[pv 1,pv 2]) (qeb (pv 0) T.w3s T.w0o ((w5l T).mono ∅) hr T.w5x .nil qah #[pv 1,pv 2])))))) (fun _ _ _ _=>(pv 0))))),?_⟩
 walk_at"d"
 try dsimp only[cxC]
 refine qag (σ:=[sr lh,some (.int r),some (.bl s')]) rfl ?_;left;intro C s0 H0 fp acc hacc;refine jb7 bs.length (fun i H'=>H'=upd H acc (.lst (bsV ((bs.take i).filter (qb1 r s'))))) rfl ?_ ?_ ?_ ?_
 .rintro i H' hi rfl;exact⟨_,.ref bs[i].o,SqL.of (qad hL hacc),by unfold bsV;rw[zC,zA hi];rfl⟩
 .rintro H' rfl;exact⟨_,SqL.of (qad hL hacc),by unfold bsV;rw[zB];exact uH _⟩
 .rintro i H' v H'' hi rfl ⟨rfl,hy⟩;have hv:=hy _ (SqL.of (qad hL hacc));unfold bsV at hv;rw[zC,zA hi] at hv
  cases hv
  have hb:=hB _ (zL hi);have tk:bs.take (i+1)=bs.take i++[bs[i]]:=by rw[zM,zA hi];rfl
  generalize hbi:bs[i]=b at*;obtain⟨dx,hbo⟩:=hb.obj;have hbo':=qad (o':=.lst (bsV ((bs.take i).filter (qb1 r s')))) hbo hacc;have zl:(bsV ((bs.take i).filter (qb1 r s'))).length<sizeLine:=by
   unfold bsV;rw[zB];have h1:=zU (qb1 r s') (bs.take i);rw[zS] at h1;show _<16777216;omega
  have yes:qb1 r s' b=true->upd (upd H acc (.lst (bsV ((bs.take i).filter (qb1 r s'))))) acc (.lst (bsV ((bs.take i).filter (qb1 r s'))++[.ref b.o]))=upd H acc (.lst (bsV ((bs.take (i+1)).filter (qb1 r s')))):=fun e=>by
   rw[qbn,tk,yB,zY,iB e]
   congr 2
   unfold bsV;rw[zE];rfl
  have no:qb1 r s' b=false->upd H acc (.lst (bsV ((bs.take i).filter (qb1 r s'))))=upd H acc (.lst (bsV ((bs.take (i+1)).filter (qb1 r s')))):=fun e=>by
   rw[tk,yB,zY,iA (by rw[e];exact uJ),yQ,yC]
  cases hs:b.R.s with
  |true=>
   rw[hs,show qfh d true=d.w0d from rfl] at hbo';left;refine jfj ?_;left;refine⟨_,_,_,rfl,?_⟩;left;exact yes (by unfold qb1;rw[hs];rfl)
  |false=>
   rw[hs,show qfh d false=d.w0c from rfl] at hbo';left;refine jfk ?_;left;refine⟨b.o,b.m,dx,b.R.n,nmF P b.R.i,b.R.r,b.t,r,s',rfl,hbo',?_⟩
   cases hq:(s' || decide (b.R.r<r)) with
   |true=>
    left;exact no (by unfold qb1;rw[hs,hq];rfl)
   |false=>
    left;exact yes (by unfold qb1;rw[hs,hq];rfl)
 rintro H' rfl;rw[zQ];left;exact q acc hacc
def jpx{k:List Key}{D:jbe}(e:H a=some (.dT kvs))(eb:H b=some (.tup (k.map kV)))(hz:kvs.length<sizeLine)(h:D.nx σ (upd H a (.dT (qcp kvs k v)))):rDP (.ref a) (.ref b) v H D σ:=⟨a,_,rfl,jgq.t e eb hz,h⟩
def jpy{k:List Key}(d:Rd H a (.dT kvs))(eb:H b=some (.tup (k.map kV)))(e:qbx kvs k=some v)(h:Q v H):juf (.ref a) (.ref b) H Q:=⟨a,v,rfl,.inr ⟨kvs,k,b,d,rfl,eb,e.symm⟩,h⟩
def jjw(h:∀p,H p=none->Q (.ref p) (upd H p (.dT []))):jmk σ H Q:=h
theorem qeq{κ:Type}[DecidableEq κ]{kvs:List (κ×V)}{k:κ}{v:V}(h:k∉kvs.map (·.1)):qcp kvs k v=kvs++[(k,v)]:=by
 unfold qcp;rw[iA];intro e;obtain⟨x,hx,hk⟩:=yN.mp e;exact h (zJ.mpr ⟨x,hx,of_decide_eq_true hk⟩)
def qen(z:Str)(ss:List Str)(val:Str->Int):List (List Key×V):=ss.map fun w=>([uV z,uV w],V.int (val w))
def qe9(P:PL)(js:List Nat)(ss:List Str)(val:Nat->Str->Int):List (List Key×V):=js.flatMap fun j=>qen (nmF P j) ss (val j)
def jwl(S:Ts)(z:Str):Str->Option Int:=match S.at z with
 |some e=>e.x.fc
 |none=>noF
def jwm(P:PL)(bs:List Ob)(j:Nat):Str->Option Int:=jdp ((bs.filter fun b=>decide (j∈qac (elN P.es) b.R.i)).map jjm)
def qbm(S:Ts)(P:PL)(bs:List Ob)(f:Str->Option Int)(j:Nat)(w:Str):Int:=gN (jwl S (nmF P j)) w-gN (jwm P bs j) w-gN f w
structure jeo(K:uT)(d:Ad)(H:Hp)(t lh:Addr)(S:Ts)(P:PL)(bs:List Ob)(n:Nat):Prop where
 tr:qel d H t S
 wf:WF S
 pl:Pl S (nmF P) (elN P.es) n
 nn:P.nm.length=n
 hs:∀j,j<n->(∃e,S.at (nmF P j)=some e)/\Dep S 12 (nmF P j)
 w3:P.ws.length<=6
 h:H lh=some (.lst (bsV bs))
 h63:bs.length<=63
 ob:∀b∈bs,jbs d H P b
theorem jeo.same{K:uT}{d:Ad}{H H':Hp}{t lh:Addr}{S:Ts}{P:PL}{bs:List Ob}{n:Nat}(h:jeo K d H t lh S P bs n)(s:qas H H'):jeo K d H' t lh S P bs n:=⟨h.tr.same s,h.wf,h.pl,h.nn,h.hs,h.w3,s _ _ h.h,h.h63,fun b hb=>(h.ob b hb).same s⟩
theorem jwn{P:PL}{val:Nat->Str->Int}{k:List Key}(h:k∈(qe9 P js ss val).map (·.1)):∃j∈js,∃w∈ss,k=[uV (nmF P j),uV w]:=by
 obtain⟨x,hx,rfl⟩:=zJ.mp h;obtain⟨j,hj,hx⟩:=List.mem_flatMap.mp hx;obtain⟨w,hw,rfl⟩:=zJ.mp hx;exact⟨j,hj,w,hw,rfl⟩
theorem jtw(P:PL)(js:List Nat)(ss:List Str)(val:Nat->Str->Int):(qe9 P js ss val).length=js.length*ss.length:=by
 induction js with
 |nil=>simp[qe9]
 |cons j r ih=>
  show(qen (nmF P j) ss (val j)++qe9 P r ss val).length=_;rw[zF,ih,zK,Nat.succ_mul];unfold qen;rw[zB];omega
inductive jb5(K:uT)(d:Ad)(vs:List V)(H:Hp)(Q:VK)(E:XK):Prop
 |mk(t lh ll am:Addr)(S:Ts)(P:PL)(bs:List Ob)(n:Nat)(js:List Nat)(ka:List (Key×V))(f:Str->Option Int)(ss:List Str)(_:vs=[.ref t,.ref lh,.ref ll,.ref am])(_:jeo K d H t lh S P bs n)(_:H ll=some (.lst (js.map fun j=>V.str (nmF P j))))(_:(∀j∈js,j<n))(_:js.Nodup)(_:js.length<=12)(_:H am=some (.dK ka))(_:AD ka f)(_:ss.Perm (qcs ka))(_:vH ss=true)(_:ss.length<=6)(_:∀(rm:Addr) H',qas H H'->H rm=none->H' rm=some (.dT (qe9 P js ss (qbm S P bs f)))->Q (.ref rm) H')
include T in
theorem w9x:jab P w K mg base CX0 19 d.w5k d.w4l ["tree","holds","line","amounts"] (jb5 K d):=by
 exists T.w7g.ok w1e
 .right
 obtain⟨t,lh,ll,am,S,P,bs,n,js,ka,f,ss,rfl,hW,hl,jn,jd,j12,ha,hA,hp,hs,s6,q⟩:=h;exists (qa2 (qae (i:=4) w1e.nd rfl (uI rfl) je8)
  (qa2 (qbc vE rfl (qb3 (pv 2)) (qab (i:=5) w1e.nd rfl (uI rfl)) (qa2 (qae (i:=6) w1e.nd rfl (uI rfl) (qb9 (W:=fun _ _ _ _=>False) (pv 0) T.w01 T.w1i ((w98 T).mono ∅) hr T.wa0 .nil qfq #[pv 5]))
  (qa2 (qae (i:=7) w1e.nd rfl (uI rfl) (qbr (W:=fun _ _ _ _=>False) ((wg3 T).mono ∅) hr rfl T.wgx T.wfl.kp T.wgv .nil qfq #[pv 0,pv 1,pv 5]))
  (qa6 (qbc vE rfl (qb3 (qai (qfy rfl) rfl T.w5s xE #[pv 3])) (qab (i:=8) w1e.nd rfl (uI rfl)) (qa6 (qcv (qc3 hr) (pv 4) (qc7 #[pv 5,pv 8]) (qam qf5 (qam qf5 (qa9 ((w2i T).mono ∅) hr rfl T.w31 T.w25.kp T.w2z .nil qah #[pv 6,pv 8]) (qa9 ((w2i T).mono ∅) hr rfl T.w31 T.w25.kp T.w2z .nil qah #[pv 7,pv 8])) (pv 3|||pv 8)) rfl)))))))
  (qa6 (qak (pv 4))))),[sr t,sr lh,sr ll,sr am,none,none,none,none,none];left;refine jjw fun rm hrm=>?_;have s1:=qa5 hrm (.dT []);have e1:upd H rm (.dT []) rm=some (.dT (qe9 P [] ss (qbm S P bs f))):=qa1;have l1:=s1 _ _ hl;generalize upd H rm (.dT [])=H1 at*;have snd:ss.Nodup:=hp.nodup_iff.mpr hA.knd;have sk:∀w∈ss,∃m,f w=some m:=fun w hw=>by
  have z:=(hA.kin w).mp (hp.mem_iff.mp hw)
  cases e:f w with
  |none=>exact absurd e z
  |some m=>exact⟨m,rfl⟩
 have kl:ka.length<=6:=by have:=hp.length_eq;have:=hA.klen;omega
 left;refine qdg (xs:=js.map fun j=>V.str (nmF P j)) (fun i σ H'=>∃w1 w2 w3 w4:Option V,σ=[sr t,sr lh,sr ll,sr am,sr rm,w1,w2,w3,w4]/\qas H H'/\H' rm=some (.dT (qe9 P (js.take i) ss (qbm S P bs f))))
  ⟨_,_,_,_,rfl,s1,e1⟩ ?_ ?_ ?_
 .rintro i σ H' _ ⟨w1,w2,w3,w4,rfl,sm,_⟩;exact SqL.of (sm _ _ hl)
 .rintro i v σ H' hv ⟨w1,w2,w3,w4,rfl,sm,er⟩;rw[zC] at hv;obtain⟨j,hj,rfl⟩:=uY.mp hv;have hi:=(uG.mp hj).1;have hjm:=zD hj;have hjn:=jn j hjm;have tk:js.take (i+1)=js.take i++[j]:=by rw[zM,hj];rfl
  have hnt:j∉js.take i:=fun hm=>by
   obtain⟨b,hb,e⟩:=zR.mp hm;rw[zS] at hb;rw[cW] at e;obtain⟨g1,g2⟩:=uG.mp hj;exact(zW.mp jd) b i #[] hi #[] (e.trans g2.symm)
  have hW1:=hW.same sm;obtain⟨⟨e,ae⟩,dp⟩:=hW.hs j hjn;have ct:=T.w01;obtain⟨dx,ht⟩:=id hW1.tr.1;left;refine⟨t,S,.str (nmF P j),rfl,hW1.tr,.inl ⟨_,rfl⟩,fun e' he' p hp'=>?_,fun hn=>by rw[show who S (.str (nmF P j))=some e from ae] at hn;cases hn⟩;have ee:e=e':=uW (ae.symm.trans he');subst ee;have hcA:AD e.x.kc e.x.fc:=(hW1.tr.2.2.2.2.2 e (qco ae).1).2.2.2.2;have efc:jwl S (nmF P j)=e.x.fc:=by unfold jwl;rw[ae]
  have s2:=sm.trans (qa5 hp' (.dK e.x.kc));have ec:upd H' p (.dK e.x.kc) p=some (.dK e.x.kc):=qa1;have er2:=qad (o':=.dK e.x.kc) er hp';generalize upd H' p (.dK e.x.kc)=H2 at*;have hW2:=hW.same s2;clear hW1 ht hp';left;refine .inr ⟨t,lh,S,P,bs,nmF P j,e,rfl,hW2.tr,hW.wf,ae,dp,hW2.h,hW.h63,hW.w3,hW2.ob,fun lu zs ku H3 s3 hlu hBen eu hAu=>?_⟩;have euf:(bs.filter (inZ P zs)).map jjm=(bs.filter fun b=>decide (j∈qac (elN P.es) b.R.i)).map jjm:=by
   congr 1
   refine List.filter_congr fun b hb=>?_;unfold inZ;have:=hW.pl.benIff hjn hBen (k:=b.R.i) (by have:=(hW.ob b hb).il;rw[hW.nn] at this;exact this);exact decide_eq_decide.mpr this
  rw[euf] at hAu
  change AD ku (jwm P bs j) at hAu
  have s23:=s2.trans s3;have ec3:=s3 _ _ ec;have er3:=s3 _ _ er2;have ha3:=s23 _ _ ha;clear hBen euf hW2 hlu s2 s3 ec er2 er;left;refine jib (.inl ha3) hA.keys (by have:=hA.klen;omega) fun ls ss' hls hp2 hs2=>?_;have ess:ss'=ss:=jjl (hp2.trans hp.symm) hs2 hs;subst ess;have s4:=s23.trans (qa5 hls (.lst (ss'.map V.str)));have el:upd H3 ls (.lst (ss'.map V.str)) ls=some (.lst (ss'.map V.str)):=qa1;have ec4:=qad (o':=.lst (ss'.map V.str)) ec3 hls;have er4:=qad (o':=.lst (ss'.map V.str)) er3 hls;have eu4:=qad (o':=.lst (ss'.map V.str)) eu hls;have nrl:rm≠ls:=qa8 er3 hls;generalize upd H3 ls (.lst (ss'.map V.str))=H4 at*;clear hp2 hs2 hls s23 ec3 er3 eu ha3;left;refine qdg (xs:=ss'.map V.str) (fun c σ H5=>∃w4:Option V,σ=[sr t,sr lh,sr ll,sr am,sr rm,some (.str (nmF P j)),sr p,sr lu,w4]/\SameBut rm H4 H5/\H5 rm=some (.dT (qe9 P (js.take i) ss' (qbm S P bs f)++qen (nmF P j) (ss'.take c) (qbm S P bs f j))))
   ⟨_,rfl,fun b o _ e=>e,by rw[er4];unfold qen;simp⟩ ?_ ?_ ?_
  .rintro c σ H5 _ ⟨w4,rfl,sb,_⟩;exact SqL.of (sb _ _ nrl.symm el)
  .rintro c v σ H5 hv5 ⟨w4,rfl,sb,er5⟩;rw[zC] at hv5;obtain⟨w,hw,rfl⟩:=uY.mp hv5;have hc:=(uG.mp hw).1;obtain⟨m,fm⟩:=sk w (zD hw);have hRp:Rd H5 p (.dK e.x.kc):=.inl (sb _ _ (fun z=>by subst z;rw[er4] at ec4;cases ec4) ec4);have hRu:Rd H5 lu (.dK ku):=.inl (sb _ _ (fun z=>by subst z;rw[er4] at eu4;cases eu4) eu4);have ha4:=s4 _ _ ha;have hRa:Rd H5 am (.dK ka):=.inl (sb _ _ (fun z=>by subst z;rw[er4] at ha4;cases ha4) ha4);left;rename_i p5 hp5;have er6:=qad (o':=.tup [V.str (nmF P j),V.str w]) er5 hp5;have tkw:ss'.take (c+1)=ss'.take c++[w]:=by rw[zM,hw];rfl
   have wnt:w∉ss'.take c:=fun hm=>by
    obtain⟨b,hb,e'⟩:=zR.mp hm;rw[zS] at hb;rw[cW] at e';obtain⟨g1,g2⟩:=uG.mp hw;exact(zW.mp snd) b c #[] hc #[] (e'.trans g2.symm)
   have nin:([uV (nmF P j),uV w]:List Key)∉(qe9 P (js.take i) ss' (qbm S P bs f)++qen (nmF P j) (ss'.take c) (qbm S P bs f j)).map (·.1):=fun hm=>by
    rw[zE] at hm;rcases zP.mp hm with hm|hm
    .obtain⟨j',hj',w',_,e'⟩:=jwn hm;have e1:nmF P j=nmF P j':=by
      have:=(aO e').1;exact yX this
     have:=hW.pl.inj j j' hjn (jn j' (yL hj')) e1;subst this;exact hnt hj'
    .unfold qen at hm;rw[yT] at hm;obtain⟨w',hw',e'⟩:=zJ.mp hm;have e2:w'=w:=yX (aO (aO e').2).1;exact wnt (e2▸hw')
   have gf:gN f w=m:=by unfold gN;rw[fm];rfl
   have ev:gN e.x.fc w-gN (jwm P bs j) w-m=qbm S P bs f j w:=by unfold qbm;rw[efc,gf]
   rw[ev];have sz:(qe9 P (js.take i) ss' (qbm S P bs f)++qen (nmF P j) (ss'.take c) (qbm S P bs f j)).length<sizeLine:=by
    rw[zF,jtw];unfold qen;rw[zB,zS,zS];have:min i js.length*ss'.length<=12*6:=Nat.mul_le_mul #[] s6;show _<16777216;omega
   refine jpx (k:=[uV (nmF P j),uV w]) er6 qa1 sz ?_;rw[qeq nin];left;refine⟨_,rfl,fun b o hb e'=>?_,?_⟩
   .rw[qa7 hb,qa7 (qa8 (sb b o hb e') hp5)];exact sb b o hb e'
   .rw[qa1,tkw,List.append_assoc];unfold qen;rw[zE];rfl
  .rintro σ H5 ⟨w4,rfl,sb,er5⟩;rw[zB,zQ] at er5;refine⟨_,_,_,_,rfl,fun b o hb=>?_,?_⟩
   .exact sb _ _ (fun z=>by subst z;rw[hrm] at hb;cases hb) (s4 _ _ hb)
   .rw[er5,tk];unfold qe9;rw[List.flatMap_append];simp
 .rintro σ H' ⟨w1,w2,w3,w4,rfl,sm,er⟩;rw[zB,zQ] at er;left;exact q rm H' sm hrm er
structure Wd where
 wt:Addr
 ln:Addr
 lw:Addr
 le:Addr
 lr:Addr
 la:Addr
 lc:Addr
 pa:Addr
 las:List Addr
 nm:List Str
 ws:List Str
 es:List Nat
 Rs:List Rw
 h:Nat
 aps:List Int
 rk:Int
 su:Bool
 cs:List Pq
structure WAt(H:Hp)(w:Wd):Prop where
 tup:H w.wt=some (.tup [.ref w.ln,.ref w.lw,.ref w.le,.ref w.lr,.ref w.la,.ref w.lc])
 ln:H w.ln=some (.lst (w.nm.map V.str))
 lw:H w.lw=some (.lst (w.ws.map V.str))
 le:jaz H w.le w.las w.es
 lr:H w.lr=some (.lst (rwV w.Rs))
 rs:∀R∈w.Rs,jbt H (w.es.length+1) w.ws.length R
 la:H w.la=some (.tup [.int ((w.h:Nat):Int),.ref w.pa,.int w.rk,.bl w.su])
 pa:H w.pa=some (.lst (w.aps.map V.int))
 lc:H w.lc=some (.lst (qsV w.cs))
 cs:jb9 H w.ws.length w.cs
structure WOk(w:Wd):Prop where
 apl:w.aps.length=w.ws.length
 apn:∀p∈w.aps,jgr p
 hh:w.h<w.es.length+1
 cl:w.cs.length=w.es.length+1
 nms:Nms w.nm (w.es.length+1)
 wsn:Nms w.ws w.ws.length
 w1:1<=w.ws.length
 w6:w.ws.length<=6
 e5:w.es.length<=5
 up:(w.Rs.map fun R=>R.n).Pairwise (·< ·)
 r30:w.Rs.length<=30
 apx:∃p∈w.aps,0<p
theorem WAt.same{H H':Hp}{w:Wd}(h:WAt H w)(s:qas H H'):WAt H' w:=⟨s _ _ h.tup,s _ _ h.ln,s _ _ h.lw,h.le.same s,s _ _ h.lr,fun R hr=>(h.rs R hr).same s,s _ _ h.la,s _ _ h.pa,s _ _ h.lc,h.cs.same s⟩
def wf1(K:uT)(d:Ad):Sp:=fun vs H Q _=>∃(a:Addr)(ns:List Int)(m:Nat),vs=[.ref a,.int (m:Int)]/\SqL K H a (ns.map V.int)/\ns.length<=63/\m<=30/\∀(w:Wd)(H':Hp),qas H H'->WAt H' w->WOk w->Q (.ref w.wt) H'
include T in
theorem wfa:jab P w K mg base CX0 5 d.wc6 d.wa3 ["_law_script","_law_many"] (wf1 K d):=by
 exists T.we5.ok w2c
 .right
 obtain⟨a,ns,m,rfl,hS,h63,m30,q⟩:=h;refine⟨_,(qa2 (qae (i:=2) w2c.nd rfl (eS rfl) (qa9 ((w22 T).mono ∅) hr rfl T.w3m T.w3e.kp T.w3n .nil qah #[pv 0,qa4]))
  (qa2 (qae (i:=3) w2c.nd rfl (uI rfl) (qa9 ((wf3 T).mono ∅) hr rfl T.wg5 T.wec.kp T.wfq .nil qah #[pv 0,qam qax qa4 (qa9 ((w09 T).mono ∅) hr rfl T.w18 T.w15.kp T.w1b .nil qah #[pv 2,qa4,qa4])]))
  (qa2 (qae (i:=4) w2c.nd rfl (uI rfl) (qam qax qa4 (qa9 ((w09 T).mono ∅) hr rfl T.w18 T.w15.kp T.w1b .nil qah #[pv 2,qa4,qa4])))
  (qa2 (qae (i:=5) w2c.nd rfl (uI rfl) (qal qaj (qbl #[qa4,qa4,qam qax qa4 (qam qc8 (qa9 ((w22 T).mono ∅) hr rfl T.w3m T.w3e.kp T.w3n .nil qah #[pv 0,qa4]) (qam jl4 qa4 qa4))]) (qa9 ((w09 T).mono ∅) hr rfl T.w18 T.w15.kp T.w1b .nil qah #[pv 2,qa4,qa4]) nofun))
  (qa2 (qea (j:=6) (caps:=[0]) (cn:=["_law_script"]) (qbh rfl rfl (by rfl) (by rfl) rfl ⟨rfl,trivial⟩ (by rfl) rfl ⟨⟨rfl,rfl,rfl,rfl,_,rfl⟩,trivial⟩ ∅) rfl w2c.nd rfl rfl (qbv rfl T.w3l #[qai qat rfl T.w29 vF #[pv 3]]) (fun _ _ _ _=>qd9) (fun _ _ _ _=>(qa9 ((wah T).mono ∅) hr rfl T.wcv T.wau.kp T.wcz .nil qah #[pv 1,pv 0])))
  (qa2 (qea (j:=7) (caps:=[0,2]) (cn:=["_law_script","_law_cell_here"]) (qbh rfl rfl (by rfl) (by rfl) rfl ⟨rfl,⟨rfl,trivial⟩⟩ (by rfl) rfl ⟨⟨rfl,rfl,rfl,rfl,_,rfl⟩,⟨⟨rfl,rfl,rfl,rfl,_,rfl⟩,trivial⟩⟩ ∅) rfl w2c.nd rfl rfl (qbv rfl T.w3l #[pv 4]) (fun _ _ _ _=>qd9) (fun _ _ _ _=>(qa9 ((wah T).mono ∅) hr rfl T.wcv T.wau.kp T.wcz .nil qah #[pv 1,qam qax (pv 0) (qam qbw qa4 (qam qc8 (pv 2) qa4))])))
  (qa2 (qae (i:=8) w2c.nd rfl (uI rfl) (qa9 ((wfw T).mono ∅) hr rfl T.wh0 T.wfh.kp T.wgp .nil qah #[pv 0,qai qat rfl T.w29 vF #[pv 3],pv 4,pv 5,pv 1]))
  (qa2 (qae (i:=9) w2c.nd rfl (uI rfl) (qa9 ((wcy T).mono ∅) hr rfl T.we7 T.wc4.kp T.wdz .nil qah #[qa9 ((w22 T).mono ∅) hr rfl T.w3m T.w3e.kp T.w3n .nil qah #[pv 0,qa4],pv 4,pv 5]))
  (qa2 (qae (i:=10) w2c.nd rfl (uI rfl) (qc7 #[qa9 ((w09 T).mono ∅) hr rfl T.w18 T.w15.kp T.w1b .nil qah #[pv 2,qa4,qai qat rfl T.w29 vF #[pv 3]],pv 9,qa9 ((w09 T).mono ∅) hr rfl T.w18 T.w15.kp T.w1b .nil qah #[pv 2,qa4,qa4],qbs qcc (qa9 ((w09 T).mono ∅) hr rfl T.w18 T.w15.kp T.w1b .nil qah #[pv 2,qa4,qa4]) qa4 (qaq _)]))
  (qa6 (qak (qc7 #[pv 6,pv 7,pv 3,pv 8,pv 10,qa9 ((wge T).mono ∅) hr rfl T.wgm T.wfb.kp T.wgy .nil qah #[pv 0,pv 8,pv 3,pv 10]])))))))))))),?_⟩
 walk_at"d"
 try dsimp only[cxC]
 refine qag (σ:=[sr a,some (.int (m:Int)),none,none,none,none,none,none,none,none,none]) rfl ?_;generalize hmi:((m:Nat):Int)=mi;left;refine⟨a,ns,4,rfl,hS,∅,∅,h63,fun H1 s1=>?_⟩;generalize qbu ns 4=c;left;refine qbo ∅ ∅ ∅ ∅ fun r r0 r1=>?_;left;obtain⟨n,hn⟩:=vL (show 0<=1+r by omega);rw[hn];refine⟨a,ns,n,rfl,s1.seq hS,h63,#[],#[],fun le las es H2 s2 L hel=>?_⟩;have t2:=s1.trans s2;have e5:es.length<=5:=by omega
 clear hn r0 r1;left;refine qbo ∅ ∅ ∅ ∅ fun r2 b0 b1=>?_;obtain⟨kd,hkd⟩:=vL (show 0<=1+r2 by omega);have k1:1<=kd:=by omega
 have k6:kd<=6:=by omega
 have ek:((kd:Nat):Int).toNat=kd:=by omega
 left;rw[hkd];clear hkd b0 b1;generalize hki:((kd:Nat):Int)=ki at*;refine⟨a,ns,5,rfl,t2.seq hS,∅,∅,h63,fun H3 s3=>?_⟩;generalize qbu ns 5=c5;left;rename_i pm hpm;refine qbo ∅ ∅ ∅ ∅ fun r3 b0 b1=>?_;refine je3 (xs:=[1,1,1+c5%10^Int.toNat 27]) (SqL.of qa1) b0 b1 fun sc hm=>?_;have hsc:Sc sc:=by
  have e27:(10:Int)^Int.toNat 27=10^27:=rfl;rw[e27] at hm;simp only[zO,yI,or_false] at hm;have m0:=wA c5 (show(10^27:Int)≠0 by decide);have m1:=vZ c5 (show(0:Int)<10^27 by decide);exact⟨#[],#[]⟩
 have s4:=qa5 hpm (.lst [V.int 1,V.int 1,V.int (1+c5%10^Int.toNat 27)]);generalize upd H3 pm (.lst [V.int 1,V.int 1,V.int (1+c5%10^Int.toNat 27)])=H4 at*;have t4:=(t2.trans s3).trans s4;have L4:=L.same (s3.trans s4);clear hm b0 b1 hpm s3 s4 s1 s2 t2 L;have etop:=L4.top;have lnl:(((las.map V.ref).length:Nat):Int)=((n:Nat):Int):=by rw[zB,L4.len,hel]
 have ntn:((n:Nat):Int).toNat=n:=by omega
 left;rw[lnl];generalize hni:((n:Nat):Int)=ni at*;left;intro C s0 H0 fp ln hln;rw[ntn];refine jb7 n (fun i H'=>qas H4 H'/\H' ln=some (.lst (((vB i).map fun(k:Nat)=>nmS (qbu ns 0) (qbu ns 1) (0+(k:Int))).map V.str))) ⟨qa5 hln _,qa1⟩ ?_ ?_ ?_ ?_
 .rintro i H' hi _;exact hi
 .rintro H' _;exact uH _
 .rintro i H' v H'' hi ⟨sm,ea⟩ ⟨rfl,rfl⟩;have zl:(((vB i).map fun(k:Nat)=>nmS (qbu ns 0) (qbu ns 1) (0+(k:Int))).map V.str).length<sizeLine:=by rw[zB,zB,yO];show _<16777216;omega
  left;refine⟨a,ns,0+(i:Int),rfl,(t4.trans sm).seq hS,h63,#[],#[],fun H5 s5=>?_⟩;have ea5:=s5 _ _ ea;refine⟨_,ea5,zl,qaw (sm.trans s5) hln,?_⟩;rw[qa1,List.range_succ,zE,zE];rfl
 rintro H5 ⟨s5,eln⟩;have hnm:Nms ((vB n).map fun(k:Nat)=>nmS (qbu ns 0) (qbu ns 1) (0+(k:Int))) n:=jne ∅ #[];generalize (vB n).map (fun(k:Nat)=>nmS (qbu ns 0) (qbu ns 1) (0+(k:Int)))=nm at*;have t5:=t4.trans s5;have L5:=L4.same s5;clear etop L4 hln;left;intro C s0 H0 fp lw hlw;rw[ek];have o0:=wA c (show(2:Int)≠0 by decide);have o1:=vZ c (show(0:Int)<2 by decide);refine jb7 kd (fun i H'=>qas H5 H'/\H' lw=some (.lst (((vB i).map fun(k:Nat)=>nmS (qbu ns 0) (qbu ns 1) (20*(c%2)+(k:Int))).map V.str))) ⟨qa5 hlw _,qa1⟩ ?_ ?_ ?_ ?_
 .rintro i H' hi _;exact hi
 .rintro H' _;exact uH _
 .rintro i H' v H'' hi ⟨sm,ea⟩ ⟨rfl,rfl⟩;have zl:(((vB i).map fun(k:Nat)=>nmS (qbu ns 0) (qbu ns 1) (20*(c%2)+(k:Int))).map V.str).length<sizeLine:=by rw[zB,zB,yO];show _<16777216;omega
  have ob:(c%2).natAbs<2^600:=vJ (show(c%2).natAbs<=2 by omega) ∅;left;refine⟨a,ns,0+(i:Int)+20*(c%2),rfl,(t5.trans sm).seq hS,h63,#[],#[],fun H6 s6=>?_⟩;have ea6:=s6 _ _ ea;refine⟨_,ea6,zl,qaw (sm.trans s6) hlw,?_⟩;rw[qa1,List.range_succ,zE,zE,show 0+(i:Int)+20*(c%2)=20*(c%2)+(i:Int) by omega];rfl
 rintro H6 ⟨s6,elw⟩;have hws:Nms ((vB kd).map fun(k:Nat)=>nmS (qbu ns 0) (qbu ns 1) (20*(c%2)+(k:Int))) kd:=jne #[] #[];generalize (vB kd).map (fun(k:Nat)=>nmS (qbu ns 0) (qbu ns 1) (20*(c%2)+(k:Int)))=ws at*;have t6:=t5.trans s6;have L6:=L5.same s6;have eln6:=s6 _ _ eln;clear hlw o0 o1 eln L5 s5 s6;have etop:=L6.top;left;rw[lnl];have nl1:1<=n:=by omega
 have nl6:n<=6:=by omega
 refine⟨a,ns,sc,n,kd,m,by rw[hni,hki,hmi],t6.seq hS,h63,hsc,nl1,#[],k1,k6,m30,fun lr Rs H7 s7 elr hrl hR hup=>?_⟩;have t7:=t6.trans s7;left;refine⟨a,ns,6,rfl,t7.seq hS,∅,∅,h63,fun H8 s8=>?_⟩;generalize qbu ns 6=c6;left;refine⟨c6,sc,kd,by rw[hki],k1,k6,hsc,fun pa aps H9 s9 hpa epa hal han hax=>?_⟩;have s79:=s8.trans s9;have L9:=L6.same (s7.trans s79);have eln9:=s79 _ _ (s7 _ _ eln6);have elw9:=s79 _ _ (s7 _ _ elw);have elr9:=s79 _ _ elr;have hR9:∀R∈Rs,jbt H9 n kd R:=fun R hr=>(hR R hr).same s79;have t9:=t7.trans s79;clear etop L6 eln6 elw elr hR t6 t7 s7 s8 s9 s79 t4 t5 hpa;have etop:=L9.top;left;rw[lnl];have nb1:1<=ni:=by omega
 have nb2:ni<=6:=by omega
 refine qbo ∅ ∅ #[] #[] fun r4 b0 b1=>?_;obtain⟨h,hh0⟩:=vL b0;have hh:h<n:=by omega
 rw[hh0];clear hh0 b0 b1 nb1 nb2;generalize hhi:((h:Nat):Int)=hi at*;left;refine qbo ∅ ∅ ∅ ∅ fun r5 _ _=>?_;left;refine qbo ∅ ∅ ∅ ∅ fun r6 _ _=>?_;left;rename_i la hla;have s10:=qa5 hla (.tup [V.int hi,V.ref pa,V.int r5,V.bl (decide (r6=0))]);have ela:upd H9 la (.tup [V.int hi,V.ref pa,V.int r5,V.bl (decide (r6=0))]) la=some (.tup [V.int hi,V.ref pa,V.int r5,V.bl (decide (r6=0))]):=qa1;generalize upd H9 la (.tup [V.int hi,V.ref pa,V.int r5,V.bl (decide (r6=0))])=H10 at*;generalize hsu:decide (r6=0)=su at*;have n0:n=es.length+1:=by omega
 refine⟨a,ns,lr,le,la,pa,las,Rs,es,kd,h,aps,r5,su,rfl,(t9.trans s10).seq hS,h63,s10 _ _ elr9,#[],fun R hr=>by rw[<-n0];exact(hR9 R hr).same s10,L9.same s10,e5,k1,k6,#[],by rw[hhi];exact ela,s10 _ _ epa,hal,han,fun lc cs H11 s11 elc hcl hcs=>?_⟩;have t11:=(t9.trans s10).trans s11;have s911:=s10.trans s11;left;rename_i wt hwt;have s12:=qa5 hwt (.tup [V.ref ln,V.ref lw,V.ref le,V.ref lr,V.ref la,V.ref lc]);have ewt:upd H11 wt (.tup [V.ref ln,V.ref lw,V.ref le,V.ref lr,V.ref la,V.ref lc]) wt=some (.tup [V.ref ln,V.ref lw,V.ref le,V.ref lr,V.ref la,V.ref lc]):=qa1;generalize upd H11 wt (.tup [V.ref ln,V.ref lw,V.ref le,V.ref lr,V.ref la,V.ref lc])=H12 at*;have s912:=s911.trans s12;have ewl:ws.length=kd:=hws.len;subst ewl;exact q ⟨wt,ln,lw,le,lr,la,lc,pa,las,nm,ws,es,Rs,h,aps,r5,su,cs⟩ H12 (t11.trans s12) ⟨ewt,s912 _ _ eln9,s912 _ _ elw9,L9.same s912,s912 _ _ elr9,fun R hr=>by show jbt H12 (es.length+1) _ R;rw[<-n0];exact(hR9 R hr).same s912,by show H12 la=some (.tup [.int ((h:Nat):Int),_,_,_]);rw[hhi];exact(s11.trans s12) _ _ ela,s912 _ _ epa,s12 _ _ elc,hcs.same s12⟩ ⟨hal,han,by show h<es.length+1;omega,hcl,by show Nms nm (es.length+1);rw[<-n0];exact hnm,hws,k1,k6,e5,hup,by show Rs.length<=30;omega,hax⟩
theorem jpz{κ:Type}[DecidableEq κ]{kvs:List (κ×V)}(nd:(kvs.map (·.1)).Nodup){i:Nat}{k:κ}{v:V}(h:kvs[i]?=some (k,v)):qbx kvs k=some v:=by
 induction kvs generalizing i with
 |nil=>simp at h
 |cons x r ih=>
  rw[zT,zV] at nd
  cases i with
  |zero=>
   simp only[aW,cU] at h;subst h;unfold qbx;simp
  |succ i=>
   simp only[aY] at h;have hne:¬x.1=k:=fun e=>nd.1 (e▸zJ.mpr ⟨(k,v),zD h,rfl⟩);have z:=ih nd.2 h;unfold qbx at z⊢;simpa[yJ,hne] using z
def jjx{R:It->Hp->Prop}(e:H a=some (.dT kvs))(h:∀o,R (jug a o kvs) (upd H a (.frz o (.dT kvs)))):joy (.ref a) H R:=⟨a,kvs,rfl,e,h⟩
def jp0{tl:TE}{R:It->Hp->Prop}(h:tl σ H fun x H1=>joy x H1 R):jmz tl σ H R:=h
theorem jep{D:jbe}{σ:L2.St}{H:Hp}{g:TG}{tb:TS}{a:Addr}{o:Obj}{kvs:List (List Key×V)}(Pv:Nat->L2.St->Hp->Prop)(h0:Pv 0 σ H)(hl:∀i σ H,i<=kvs.length->Pv i σ H->H a=some (.frz o (.dT kvs)))
  (hs:∀i k v b σ H,kvs[i]?=some (k,v)->H b=some (.tup (k.map kV))->Pv i σ H->g (.ref b) σ H fun σ2 H2=>tb {nx:=Pv (i+1),rt:=D.rt,bk:=D.nx,ct:=Pv (i+1)} σ2 H2)(hd:∀σ H,Pv kvs.length σ H->D.nx σ H):FOR (jug a o kvs) g tb D σ H:=by
 refine⟨fun i m σ H=>m=kvs.length-i/\i<=kvs.length/\Pv i σ H,⟨kvs.length,rfl,wI _,h0⟩,?_⟩;rintro i m σ H ⟨rfl,hi,p⟩;have q:=hl i σ H hi p;by_cases hlt:i<kvs.length
 .refine .inr ⟨⟨q,hlt⟩,Pv (i+1),fun σ' H' p'=>⟨kvs.length-(i+1),#[],rfl,hlt,p'⟩,fun x H' y=>?_⟩;obtain⟨e,k,v,b,hk,rfl,hb⟩:=y;subst e;exact hs i k v b σ _ hk hb p
 .have e:i=kvs.length:=Nat.le_antisymm hi (gZ hlt);subst e;exact .inl ⟨⟨q,uH _⟩,hd σ H p⟩
theorem jeo.fix{K:uT}{d:Ad}{t:Addr}{P:PL}{bs:List Ob}(h:jeo K d H t lh S P bs n)(hl:H l=none)(r:Int)(s:Bool):jeo K d (upd H l (.lst (bsV (bs.filter (qb1 r s))))) t l S P (bs.filter (qb1 r s)) n:=by
 have s1:=qa5 hl (.lst (bsV (bs.filter (qb1 r s))));have z:=h.same s1;exact⟨z.tr,z.wf,z.pl,z.nn,z.hs,z.w3,qa1,vP (zU ..) z.h63,fun b hb=>z.ob b (yG.mp hb).1⟩
abbrev Pc:=Nat×Str
def pls(js:List Nat)(ss:List Str):List Pc:=js.flatMap fun j=>ss.map fun w=>(j,w)
def pcK(P:PL)(p:Pc):List Key:=[uV (nmF P p.1),uV p.2]
def rmM(P:PL)(ps:List Pc)(val:Pc->Int):List (List Key×V):=ps.map fun p=>(pcK P p,V.int (val p))
theorem jnk(P:PL)(ss:List Str)(val:Nat->Str->Int):∀js:List Nat,qe9 P js ss val=rmM P (pls js ss) fun p=>val p.1 p.2
 | []=>rfl
 |j::js=>by
  show qen (nmF P j) ss (val j)++qe9 P js ss val=rmM P (ss.map (fun w=>(j,w))++pls js ss) _;rw[jnk P ss val js];unfold rmM qen;rw[zE,yT];rfl
theorem jfz{p:Pc}(h:p∈pls js ss):p.1∈js/\p.2∈ss:=by
 obtain⟨j,hj,hx⟩:=List.mem_flatMap.mp h;obtain⟨w,hw,rfl⟩:=zJ.mp hx;exact⟨hj,hw⟩
theorem jp1(js:List Nat)(ss:List Str):(pls js ss).length=js.length*ss.length:=by
 induction js with
 |nil=>simp[pls]
 |cons j r ih=>
  show(ss.map (fun w=>(j,w))++pls r ss).length=_;rw[zF,ih,zK,Nat.succ_mul,zB];omega
theorem jtx(jd:js.Nodup)(sd:ss.Nodup):(pls js ss).Nodup:=by
 induction js with
 |nil=>exact yK
 |cons j r ih=>
  rw[zV] at jd;show(ss.map (fun w=>(j,w))++pls r ss).Nodup;refine yH.mpr ⟨?_,ih jd.2,fun a ha b hb e=>?_⟩
  .show fM _ _;rw[bI];exact cV (fun {x y} h e=>h (cZ e).2) sd
  .obtain⟨w,_,rfl⟩:=zJ.mp ha;subst e;exact jd.1 (jfz hb).1
structure jnl(P:PL)(ps:List Pc)(n:Nat):Prop where
 nd:ps.Nodup
 lt:∀p∈ps,p.1<n
 inj:∀i j,i<n->j<n->nmF P i=nmF P j->i=j
 len:ps.length<=100
theorem jeq{P:PL}(h:jnl P ps n){p q:Pc}(hp:p∈ps)(hq:q∈ps)(e:pcK P p=pcK P q):p=q:=by
 have e1:nmF P p.1=nmF P q.1:=yX (aO e).1;have e2:p.2=q.2:=yX (aO (aO e).2).1;have:=h.inj _ _ (h.lt p hp) (h.lt q hq) e1;exact Prod.ext this e2
theorem jlv{P:PL}(h:jnl P ps n)(val:Pc->Int):((rmM P ps val).map (·.1)).Nodup:=by
 have e:(rmM P ps val).map (·.1)=ps.map (pcK P):=by unfold rmM;rw[yT];rfl
 rw[e];show fM _ _;rw[bI];exact List.Pairwise.imp_of_mem (fun {x y} hx hy ne e=>ne (jeq h hx hy e)) h.nd
theorem jf0{P:PL}{val:Pc->Int}{k:List Key}(h:(rmM P ps val)[i]?=some (k,v)):∃p,ps[i]?=some p/\k=pcK P p/\v=.int (val p):=by
 unfold rmM at h;rw[zC] at h;obtain⟨p,hp,e⟩:=uY.mp h;exact⟨p,hp,(cZ e).1.symm,(cZ e).2.symm⟩
def qex{P:PL}(h:jnl P ps n){val:Pc->Int}{i:Nat}{p:Pc}(hp:ps[i]?=some p):qbx (rmM P ps val) (pcK P p)=some (.int (val p)):=jpz (jlv h val) (i:=i) (by unfold rmM;rw[zC,hp];rfl)
theorem jlw{P:PL}(h:jnl P ps n){val:Pc->Int}{i:Nat}{p:Pc}(hp:ps[i]?=some p):qcp (rmM P (ps.take i) val) (pcK P p) (.int (val p))=rmM P (ps.take (i+1)) val:=by
 have tk:ps.take (i+1)=ps.take i++[p]:=by rw[zM,hp];rfl
 rw[qeq,tk]
 .unfold rmM;rw[zE];rfl
 .intro hm;have e:(rmM P (ps.take i) val).map (·.1)=(ps.take i).map (pcK P):=by unfold rmM;rw[yT];rfl
  rw[e] at hm;obtain⟨q,hq,eq⟩:=zJ.mp hm;have:=jeq h (yL hq) (zD hp) eq;subst this;have nd:=h.nd;have e2:=bN (i+1) ps;rw[tk] at e2;rw[<-e2,yH,yH] at nd;exact nd.1.2.2 q hq q (zG.mpr rfl) rfl
def prN(P:PL)(b:Ob)(p:Pc):Int:=if p.1∈qac (elN P.es) b.R.i then gN b.R.f p.2 else 0
inductive jer(K:uT)(d:Ad)(vs:List V)(H:Hp)(Q:VK)(E:XK):Prop
 |mk(t lh rm:Addr)(S:Ts)(P:PL)(bs:List Ob)(b:Ob)(n:Nat)(ps:List Pc)(val:Pc->Int)(_:vs=[.ref t,.ref b.o,.ref rm])(_:jeo K d H t lh S P bs n)(_:n<=12)(_:jbs d H P b)(_:jnl P ps n)(_:H rm=some (.dT (rmM P ps val)))(_:∀pt H',qas H H'->H pt=none->H' pt=some (.dT (rmM P ps (prN P b)))->Q (.ref pt) H')
include T in
theorem wck:jab P w K mg base CX0 7 d.w6w d.w6d ["tree","hold","places"] (jer K d):=by
 exists T.w9n.ok w4g
 .right
 obtain⟨t,lh,rm,S,P,bs,b,n,ps,val,rfl,hW,n12,hb,hP,er,q⟩:=h;exists (qa2 (qae (i:=3) w4g.nd rfl (uI rfl) (qb9 (W:=fun _ _ _ _=>False) (pv 0) T.w01 T.w19 ((w5e T).mono ∅) hr T.w5y .nil qfq #[qb6 (pv 1) rfl]))
  (qa2 (qae (i:=4) w4g.nd rfl (uI rfl) je8)
  (qa2 (jea (qbc vE rfl (qg8 (pv 2)) (qab (i:=5) w4g.nd rfl (uI rfl)) (qa6 (qcv (qc3 hr) (pv 4) (pv 5) (jj8 (qan qdb (~~~5) (pv 3) (by rfl)) (qa9 ((w2i T).mono ∅) hr rfl T.w31 T.w25.kp T.w2z .nil qah #[qb6 (pv 1) rfl,~~~5]) qa4) rfl))))
  (qa6 (qak (pv 4)))))),[sr t,sr b.o,sr rm,none,none,none];have ct:=T.w01;obtain⟨dx,ht⟩:=id hW.tr.1;obtain⟨db,hbo⟩:=hb.obj;obtain⟨cl,m1,m2,m3,m4,m5⟩:=jgm T b.R.s;unfold fsB at hbo;have bi:b.R.i<n:=by have:=hb.il;rw[hW.nn] at this;exact this
 left;refine⟨t,S,.str (nmF P b.R.i),rfl,hW.tr,.inl ⟨nmF P b.R.i,(qac (elN P.es) b.R.i).map (nmF P),rfl,hW.pl.line b.R.i bi,by rw[zB];have:=qci hW.pl.low b.R.i bi;omega,fun ll hll=>?_⟩⟩;have s1:=qa5 hll (.lst (((qac (elN P.es) b.R.i).map (nmF P)).map V.str));have ell:upd H ll (.lst (((qac (elN P.es) b.R.i).map (nmF P)).map V.str)) ll=some (.lst (((qac (elN P.es) b.R.i).map (nmF P)).map V.str)):=qa1;generalize upd H ll (.lst (((qac (elN P.es) b.R.i).map (nmF P)).map V.str))=H1 at*;left;refine jjw fun pt hpt=>?_;have s2:=qa5 hpt (.dT []);have ept:upd H1 pt (.dT []) pt=some (.dT (rmM P (ps.take 0) (prN P b))):=qa1;generalize upd H1 pt (.dT [])=H2 at*;have t2:=s1.trans s2;have er2:=t2 _ _ er;have fpt:H pt=none:=s1.free hpt;have npr:pt≠rm:=(qa8 er fpt).symm;have ell2:=s2 _ _ ell;have hb2:=hb.same t2;have hbo2:=t2 _ _ hbo;clear hbo ht ell;left;refine jiz ?_;left;refine jp0 ?_;left;refine jjx er2 fun o=>?_;have hF:upd H2 rm (.frz o (.dT (rmM P ps val))) rm=some (.frz o (.dT (rmM P ps val))):=qa1;have sF:∀x u,x≠rm->H2 x=some u->upd H2 rm (.frz o (.dT (rmM P ps val))) x=some u:=fun x u ne e=>by rw[qa7 ne];exact e
 have nll:ll≠rm:=fun z=>by rw[z,er2] at ell2;cases ell2
 have nlp:ll≠pt:=fun z=>by rw[z,ept] at ell2;cases ell2
 have nbo:b.o≠rm:=fun z=>by rw[z,er2] at hbo2;cases hbo2
 have nbm:b.m≠rm:=fun z=>by have:=hb2.amt;rw[z,er2] at this;cases this
 have nbo2:b.o≠pt:=fun z=>by rw[z,ept] at hbo2;cases hbo2
 have nbm2:b.m≠pt:=fun z=>by have:=hb2.amt;rw[z,ept] at this;cases this
 have ept2:=sF pt _ npr ept;generalize upd H2 rm (.frz o (.dT (rmM P ps val)))=HF at*;have l100:=hP.len;refine jep (fun i σ H'=>∃w:Option V,σ=[sr t,sr b.o,sr rm,sr ll,sr pt,w]/\H' rm=some (.frz o (.dT (rmM P ps val)))/\(∀x u,x≠rm->x≠pt->H2 x=some u->H' x=some u)/\H' pt=some (.dT (rmM P (ps.take i) (prN P b)))) ⟨_,rfl,hF,fun x u n1 _ e=>sF x u n1 e,ept2⟩ ?_ ?_ ?_
 .rintro i σ H' _ ⟨w,_,fz,_⟩;exact fz
 .rintro i k v a σ H' hk ha ⟨w,rfl,fz,sm,ep⟩;obtain⟨p,hp,rfl,rfl⟩:=jf0 hk;have ha:H' a=some (.tup [.str (nmF P p.1),.str p.2]):=ha;have hpm:=zD hp;have ell':=sm _ _ nll nlp ell2;have hbo':=sm _ _ nbo nbo2 hbo2;have hRb:Rd H' b.m (.dK b.R.k):=.inl (sm _ _ nbm nbm2 hb2.amt);have had:=hb2.ad;have sz:(rmM P (ps.take i) (prN P b)).length<sizeLine:=by unfold rmM;rw[zB,zS];show _<16777216;omega
  have ein:(nmF P p.1∈(qac (elN P.es) b.R.i).map (nmF P))=(p.1∈qac (elN P.es) b.R.i):=propext ⟨fun hm=>by
   obtain⟨j,hj,e⟩:=zJ.mp hm;have hjn:=qdk hW.pl.low b.R.i bi j hj;have:=hP.inj _ _ #[] (hP.lt p hpm) e;rw[<-this];exact hj,fun hm=>zJ.mpr ⟨_,hm,rfl⟩⟩
  have fin:∀v:Int,v=prN P b p->∃w':Option V,[sr t,sr b.o,sr rm,sr ll,sr pt,sr a]=[sr t,sr b.o,sr rm,sr ll,sr pt,w']/\upd H' pt (.dT (qcp (rmM P (ps.take i) (prN P b)) (pcK P p) (.int v))) rm=some (.frz o (.dT (rmM P ps val)))/\(∀x u,x≠rm->x≠pt->H2 x=some u->upd H' pt (.dT (qcp (rmM P (ps.take i) (prN P b)) (pcK P p) (.int v))) x=some u)/\upd H' pt (.dT (qcp (rmM P (ps.take i) (prN P b)) (pcK P p) (.int v))) pt=some (.dT (rmM P (ps.take (i+1)) (prN P b))):=fun v ev=>by
   rw[ev,jlw hP hp];exact⟨_,rfl,by rw[qa7 npr.symm];exact fz,fun x u n1 n2 e=>by rw[qa7 n2];exact sm x u n1 n2 e,qa1⟩
  left;refine jmy (SqL.of ell') ?_;simp only[ein];by_cases c:p.1∈qac (elN P.es) b.R.i
  .rw[iC c];left;refine jpx (k:=pcK P p) ep ha sz ?_;exact fin _ (by unfold prN;rw[iB c])
  .rw[iD c];left;refine jpx (k:=pcK P p) ep ha sz ?_;exact fin _ (by unfold prN;rw[iA c])
 .rintro σ H' ⟨w,rfl,fz,sm,ep⟩;have el:(rmM P ps val).length=ps.length:=by unfold rmM;rw[zB]
  rw[el,zQ] at ep;refine jeb (jc7 fz (qgd er)) ?_;left;refine q pt _ (fun x u e=>?_) fpt (by rw[qa7 npr];exact ep);by_cases c:x=rm
  .subst c;rw[qa1];rw[er] at e;exact e
  .rw[qa7 c];exact sm x u c (qa8 e fpt) (t2 _ _ e)
inductive jb0(K:uT)(d:Ad)(vs:List V)(H:Hp)(Q:VK)(E:XK):Prop
 |mk(pt rm:Addr)(P:PL)(n:Nat)(ps:List Pc)(pu ru:Pc->Int)(_:vs=[.ref pt,.ref rm])(_:jnl P ps n)(_:H pt=some (.dT (rmM P ps pu)))(_:H rm=some (.dT (rmM P ps ru)))(_:pt≠rm)(_:(ps.find? (fun p=>decide (ru p<pu p))=none->∀H',qas H H'->Q .non H'))(_:∀p,ps.find? (fun p=>decide (ru p<pu p))=some p->∀b H',qas H H'->H' b=some (.tup [.str (nmF P p.1),.str p.2])->Q (.ref b) H')
theorem jdi{α:Type}{f:α->Bool}{l:List α}{x:α}(hx:l[i]?=some x)(hn:∀y∈l.take i,f y=false)(hf:f x=true):l.find? f=some x:=by
 induction l generalizing i with
 |nil=>simp at hx
 |cons a l ih=>
  cases i with
  |zero=>
   have e:a=x:=by simpa using hx
   subst e;rw[yJ,hf]
  |succ i=>
   have hx:l[i]?=some x:=by simpa using hx
   rw[yJ,hn a (by simp)];exact ih hx fun y hy=>hn y (by rw[List.take_succ_cons];exact zH _ hy)
include T in
theorem w85:jab P w K mg base CX0 1 d.w3v d.w33 ["parts","rooms"] (jb0 K d):=by
 exists T.w5u.ok w5h
 .right
 obtain⟨pt,rm,P,n,ps,pu,ru,rfl,hP,ept,er,ne,qn,q⟩:=h;exists (qa2 (jea (qbc vE rfl (qg8 (pv 0)) (qab (i:=2) w5h.nd rfl (uI rfl)) (qa6 (qb5 (qan qgb (pv 0|||pv 2) (pv 1|||pv 2) (qaq _)) (qa6 (qak (pv 2))) qao))))
  (qa6 (qak qcm))),[sr pt,sr rm,none];left;refine jiz ?_;left;refine jp0 ?_;left;refine jjx ept fun o=>?_;have sT:∀x u,H x=some u->upd (upd H pt (.frz o (.dT (rmM P ps pu)))) pt (.dT (rmM P ps pu)) x=some u:=fun x u e=>by
  rw[qbn];by_cases c:x=pt
  .rw[c,qa1];rw[c,ept] at e;exact e
  .rw[qa7 c];exact e
 have erF:upd H pt (.frz o (.dT (rmM P ps pu))) rm=some (.dT (rmM P ps ru)):=by rw[qa7 ne.symm];exact er
 have hF:upd H pt (.frz o (.dT (rmM P ps pu))) pt=some (.frz o (.dT (rmM P ps pu))):=qa1;have el:(rmM P ps pu).length=ps.length:=by unfold rmM;rw[zB]
 generalize upd H pt (.frz o (.dT (rmM P ps pu)))=HF at*;refine jep (fun i σ H'=>H'=HF/\(∃w:Option V,σ=[sr pt,sr rm,w])/\∀y∈ps.take i,decide (ru y<pu y)=false) ⟨rfl,⟨_,rfl⟩,fun y hy=>by simp at hy⟩ ?_ ?_ ?_
 .rintro i σ H' _ ⟨rfl,_⟩;exact hF
 .rintro i k v a σ H' hk ha ⟨rfl,⟨w,rfl⟩,hno⟩;obtain⟨p,hp,rfl,rfl⟩:=jf0 hk;have tk:ps.take (i+1)=ps.take i++[p]:=by rw[zM,hp];rfl
  left;refine jpy (k:=pcK P p) (.inr ⟨o,hF⟩) ha (qex hP hp) ?_;left;refine jpy (k:=pcK P p) (.inl erF) ha (qex hP hp) ?_;left;refine i_2 (fun c=>?_) (fun c=>?_)
  .refine⟨V.ref a,rfl,_,jc7 hF (qgd ept),?_⟩;have nap:a≠pt:=fun z=>by rw[z,hF] at ha;cases ha
   refine q p (jdi hp hno (iC c)) a _ sT ?_;rw[qa7 nap];exact ha
  .left;refine⟨rfl,⟨_,rfl⟩,fun y hy=>?_⟩;rw[tk] at hy;rcases zP.mp hy with hy|hy
   .exact hno y hy
   .rw[zG.mp hy];exact iD c
 .rintro σ H' ⟨rfl,⟨w,rfl⟩,hno⟩;rw[el,zQ] at hno;refine jeb (jc7 hF (qgd ept)) ?_;left;exact qn (fU.mpr fun y hy=>by rw[hno y hy];exact uJ) _ sT
def clF(P:PL)(ps:List Pc)(st:(Pc->Int)×List (Ob×Pc))(b:Ob):(Pc->Int)×List (Ob×Pc):=match ps.find? (fun p=>decide (st.1 p<prN P b p)) with
 |none=>(fun p=>st.1 p-prN P b p,st.2)
 |some p=>(st.1,st.2++[(b,p)])
def clL(P:PL)(ps:List Pc)(v0:Pc->Int)(bs:List Ob):(Pc->Int)×List (Ob×Pc):=bs.foldl (clF P ps) (v0,[])
theorem jlx(P:PL)(ps:List Pc)(v0:Pc->Int)(bs:List Ob)(b:Ob):clL P ps v0 (bs++[b])=clF P ps (clL P ps v0 bs) b:=by unfold clL;rw[cY];rfl
theorem jf1{P:PL}{st:(Pc->Int)×List (Ob×Pc)}{b:Ob}(h:ps.find? (fun p=>decide (st.1 p<prN P b p))=none):clF P ps st b=(fun p=>st.1 p-prN P b p,st.2):=by unfold clF;rw[h]
theorem jf2{P:PL}{st:(Pc->Int)×List (Ob×Pc)}{b:Ob}{p:Pc}(h:ps.find? (fun p=>decide (st.1 p<prN P b p))=some p):clF P ps st b=(st.1,st.2++[(b,p)]):=by unfold clF;rw[h]
structure Gr where
 p:Addr
 m:Addr
 b:Ob
 c:Pc
structure jgp(H:Hp)(P:PL)(g:Gr):Prop where
 tup:H g.p=some (.tup [.int g.b.R.n,.str (nmF P g.b.R.i),.ref g.m,.str (nmF P g.c.1),.str g.c.2])
 dic:H g.m=some (.dK g.b.R.k)
def jgp.same{H H':Hp}{P:PL}{g:Gr}(h:jgp H P g)(s:qas H H'):jgp H' P g:=⟨s _ _ h.tup,s _ _ h.dic⟩
def grV(gs:List Gr):List V:=gs.map fun g=>V.ref g.p
def jgp.mv{P:PL}{g:Gr}{rm:Addr}{k:List (List Key×V)}(h:jgp H P g)(e:H rm=some (.dT k))(s:∀x u,x≠rm->H x=some u->H' x=some u):jgp H' P g:=⟨s _ _ (fun z=>by have:=h.tup;rw[z,e] at this;cases this) h.tup,s _ _ (fun z=>by have:=h.dic;rw[z,e] at this;cases this) h.dic⟩
theorem jp2{P:PL}(h:jnl P ps n){val:Pc->Int}{i:Nat}{p:Pc}(hp:ps[i]?=some p)(x:Int):qcp (rmM P ps val) (pcK P p) (.int x)=rmM P ps fun q=>if q=p then x else val q:=by
 unfold qcp;rw[iB (by rw[L2.qcd,qex h hp];rfl)];unfold rmM;rw[yT];refine aJ fun q hq=>?_;show(if pcK P q=pcK P p then(pcK P q,V.int x) else(pcK P q,V.int (val q)))=(pcK P q,V.int (if q=p then x else val q));by_cases c:q=p
 .rw[iB (by rw[c]),iB c]
 .rw[iA (fun e=>c (jeq h hq (zD hp) e)),iA c]
theorem qey{P:PL}{u v:Pc->Int}(h:∀p∈ps,u p=v p):rmM P ps u=rmM P ps v:=by
 unfold rmM;exact aJ fun p hp=>by rw[h p hp]
def jty{K:uT}{p:Addr}{B:Prop}(e:H p=some (.dT kvs))(q:B):tyV K "dict" (.ref p) H/\B:=⟨.inr (.inr (.inl ⟨rfl,.inr ⟨_,e⟩⟩)),q⟩
def qbq(r:Int)(su:Bool)(b:Ob):Bool:=!qb1 r su b
inductive jjy(K:uT)(d:Ad)(vs:List V)(H:Hp)(Q:VK)(E:XK):Prop
 |mk(t lh am:Addr)(S:Ts)(P:PL)(bs:List Ob)(n h:Nat)(ka:List (Key×V))(f:Str->Option Int)(ss:List Str)(r:Int)(su:Bool)(_:vs=[.ref t,.ref lh,.str (nmF P h),.ref am,.int r,.bl su])(_:jeo K d H t lh S P bs n)(_:n<=12)(_:h<n)(_:H am=some (.dK ka))(_:AD ka f)(_:ss.Perm (qcs ka))(_:vH ss=true)(_:ss.length<=6)(_:((∃p∈pls (qac (elN P.es) h) ss,qbm S P (bs.filter (qb1 r su)) f p.1 p.2<0)->∀H',qas H H'->Q .non H'))(_:((∀p∈pls (qac (elN P.es) h) ss,0<=qbm S P (bs.filter (qb1 r su)) f p.1 p.2)->∀(l:Addr)(gs:List Gr)(H':Hp),qas H H'->H l=none->H' l=some (.lst (grV gs))->(∀g∈gs,jgp H' P g/\g.b∈bs/\H g.m=none/\H g.p=none)->gs.map (fun g=>(g.b,g.c))=(clL P (pls (qac (elN P.es) h) ss) (fun p=>qbm S P (bs.filter (qb1 r su)) f p.1 p.2) (bs.filter (qbq r su))).2->Q (.ref l) H'))
include T in
theorem wap:jab P w K mg base CX0 21 d.wak d.w8k ["tree","holds","house","amounts","rank","sure"] (jjy K d):=by
 exists T.wae.ok w34
 .right
 obtain⟨t,lh,am,S,P,bs,n,h,ka,f,ss,r,su,rfl,hW,n12,hn,ha,hA,hp,hs,s6,qn,q⟩:=h;refine⟨_,(qa2 (qae (i:=6) w34.nd rfl (uI rfl) (qa9 ((w9x T).mono ∅) hr rfl T.wb8 T.w7g.kp T.wbi .nil qah #[pv 0,qa9 ((wf0 T).mono ∅) hr rfl T.wgc T.weo.kp T.wgf .nil qah #[pv 1,pv 4,pv 5],qb9 (W:=fun _ _ _ _=>False) (pv 0) T.w01 T.w19 ((w5e T).mono ∅) hr T.w5y .nil qfq #[pv 2],pv 3]))
  (qa2 (qb5 (qby (qai (jiy rfl) rfl T.wh1 PyProof.Rows.boot_any #[jo4 (qc2 (caps:=[]) (cn:=[]) (qbh rfl rfl (by rfl) (by rfl) rfl trivial (by rfl) rfl trivial ∅) rfl (jk4 (jmb dI PySem.F.slot_dict_values PySem.F.type_dict_values jk3 (pv 6))) (fun _ _ _ _=>qd9) (fun _ _ _ _=>(qbs jf8 (pv 0) qa4 (qaq _))))])) (qa6 (qak qcm)) qao)
  (qa2 (qae (i:=7) w34.nd rfl (uI rfl) (qbl qa3))
  (qa2 (qbc vE rfl (qb3 (qc2 (caps:=[4,5]) (cn:=["rank","sure"]) (qbh rfl rfl (by rfl) (by rfl) rfl ⟨rfl,⟨rfl,trivial⟩⟩ (by rfl) rfl ⟨⟨rfl,rfl,rfl,rfl,_,rfl⟩,⟨⟨rfl,rfl,rfl,rfl,_,rfl⟩,trivial⟩⟩ ∅) rfl (qb3 (pv 1)) (fun _ _ _ _=>(qej (qby (jfi (qeb (pv 0) T.w4f T.w0p ((w5m T).mono ∅) hr T.w5v .nil qah #[pv 1,pv 2]) (qeb (pv 0) T.w3s T.w0o ((w5l T).mono ∅) hr T.w5x .nil qah #[pv 1,pv 2]))))) (fun _ _ _ _=>(pv 0)))) (qab (i:=8) w34.nd rfl (uI rfl)) (qa2 (qae (i:=9) w34.nd rfl (uI rfl) (qa9 ((wck T).mono ∅) hr rfl T.wde T.w9n.kp T.wdb .nil qah #[pv 0,pv 8,pv 6]))
  (qa2 (qae (i:=10) w34.nd rfl (uI rfl) (qa9 ((w85 T).mono ∅) hr rfl T.w9e T.w5u.kp T.w9d .nil qah #[pv 9,pv 6]))
  (qa6 (qbg (qb5 (qan jdw (pv 10) qcm (qaq _)) (qa6 (jea (qbc vE rfl (qg8 (pv 9)) (qab (i:=11) w34.nd rfl (uI rfl)) (qa6 (joh (qc3 hr) (pv 6) (pv 11) (pv 9|||pv 11) jqv (fun _ _ _=>rfl)))))) (qa6 (qb2 (qdn vD vQ vR qbi (pv 7) #[qc7 #[qb6 (pv 8) rfl,qb6 (pv 8) rfl,qaz qc4 rfl T.w7e wG #[qb6 (pv 8) rfl],~~~10,~~~10]])))))))))
  (qa6 (qak (pv 7))))))),?_⟩
 walk_at"d"
 try dsimp only[cxC]
 refine qag (σ:=[sr t,sr lh,some (.str (nmF P h)),sr am,some (.int r),some (.bl su),none,none,none,none,none,none]) rfl ?_;left;refine⟨lh,P,bs,r,su,rfl,hW.h,hW.h63,hW.ob,fun lf hlf=>?_⟩;have hW1:=hW.fix hlf r su;have s1:=qa5 hlf (.lst (bsV (bs.filter (qb1 r su))));generalize upd H lf (.lst (bsV (bs.filter (qb1 r su))))=H1 at*;have ct:=T.w01;obtain⟨dx,ht⟩:=id hW1.tr.1;left;refine⟨t,S,.str (nmF P h),rfl,hW1.tr,.inl ⟨nmF P h,(qac (elN P.es) h).map (nmF P),rfl,hW.pl.line h hn,by rw[zB];have:=qci hW.pl.low h hn;omega,fun ll hll=>?_⟩⟩;have lle:=qdk hW.pl.low h hn;have lnd:(qac (elN P.es) h).Nodup:=cV (fun h z=>by omega) (jfv hW.pl.low h hn);have l12:(qac (elN P.es) h).length<=12:=by have:=qci hW.pl.low h hn;omega
 have s2:=qa5 hll (.lst (((qac (elN P.es) h).map (nmF P)).map V.str));have ell:upd H1 ll (.lst (((qac (elN P.es) h).map (nmF P)).map V.str)) ll=some (.lst ((qac (elN P.es) h).map fun j=>V.str (nmF P j))):=by rw[qa1,yT];rfl
 generalize upd H1 ll (.lst (((qac (elN P.es) h).map (nmF P)).map V.str))=H2 at*;have hW2:=hW1.same s2;have t2:=s1.trans s2;have snd:ss.Nodup:=hp.nodup_iff.mpr hA.knd;have jn:∀j∈qac (elN P.es) h,j<n:=fun j hj=>by have:=lle j hj;omega
 clear ht;left;refine⟨t,lf,ll,am,S,P,_,n,qac (elN P.es) h,ka,f,ss,rfl,hW2,ell,jn,lnd,l12,t2 _ _ ha,hA,hp,hs,s6,fun rm H3 s3 hrm er=>?_⟩;rw[jnk] at er;have hP:jnl P (pls (qac (elN P.es) h) ss) n:=⟨jtx lnd snd,fun p hp=>jn p.1 (jfz hp).1,fun i j hi hj e=>hW.pl.inj i j hi hj e,by rw[jp1];have:=Nat.mul_le_mul l12 s6;omega⟩;have t3:=t2.trans s3;have frm:H rm=none:=t2.free hrm;generalize pls (qac (elN P.es) h) ss=ps at*;generalize hv0:(fun p:Pc=>qbm S P (bs.filter (qb1 r su)) f p.1 p.2)=v0 at*;have qn:(∃p∈ps,v0 p<0)->∀H',qas H H'->Q .non H':=fun⟨p,h1,h2⟩=>qn ⟨p,h1,by rw[<-hv0] at h2;exact h2⟩;have q:=fun(hq:∀p∈ps,0<=v0 p)=>q fun p h1=>by have:=hq p h1;rw[<-hv0] at this;exact this
 clear hW1 hW2 ell s1 s2 s3 hlf hll hrm hv0 t2;have l100:=hP.len;left;refine js9 ?_;left;refine jwa ?_;left;refine jty er ?_;refine⟨rm,_,rfl,rfl,.inl er,fun v hv=>?_⟩;have s4:=qa5 hv (jmx v rm);have ev:upd H3 v (jmx v rm) v=some (jmx v rm):=qa1;have er4:=s4 _ _ er;generalize upd H3 v (jmx v rm)=H4 at*;refine js6 ev er4 fun o=>?_;have hF:upd H4 rm (.frz o (.dT (rmM P ps v0))) rm=some (.frz o (.dT (rmM P ps v0))):=qa1;have sF:∀x u,x≠rm->H4 x=some u->upd H4 rm (.frz o (.dT (rmM P ps v0))) x=some u:=fun x u ne e=>by rw[qa7 ne];exact e
 generalize upd H4 rm (.frz o (.dT (rmM P ps v0)))=HF at*;have rml:(rmM P ps v0).length=ps.length:=by unfold rmM;rw[zB]
 intro C s0 H0 fp acc hacc;refine jb7 ps.length (fun i H'=>H'=upd HF acc (.lst (((ps.take i).map fun p=>decide (v0 p<0)).map V.bl))) rfl ?_ ?_ ?_ ?_
 .rintro i H' hi rfl;exact⟨qad hF hacc,by rw[rml];exact hi⟩
 .rintro H' rfl;exact⟨qad hF hacc,by rw[rml];exact uH _⟩
 .rintro i H' w H'' hi rfl ⟨rfl,k,hk⟩;obtain⟨p,hp,_,rfl⟩:=jf0 hk;have tk:ps.take (i+1)=ps.take i++[p]:=by rw[zM,hp];rfl
  have zl:(((ps.take i).map fun p=>decide (v0 p<0)).map V.bl).length<sizeLine:=by rw[zB,zB,zS];show _<16777216;omega
  left;rw[qbn,tk,zE,zE];rfl
 rintro H' rfl;rw[zQ];refine⟨_,jc7 (qad hF hacc) (qft frm),?_⟩;have nar:acc≠rm:=(qa8 hF hacc).symm;have eacc:upd (upd HF acc (.lst ((ps.map fun p=>decide (v0 p<0)).map V.bl))) rm (.dT (rmM P ps v0)) acc=some (.lst ((ps.map fun p=>decide (v0 p<0)).map V.bl)):=by rw[qa7 nar];exact qa1
 have er5:upd (upd HF acc (.lst ((ps.map fun p=>decide (v0 p<0)).map V.bl))) rm (.dT (rmM P ps v0)) rm=some (.dT (rmM P ps v0)):=qa1;have t5:qas H (upd (upd HF acc (.lst ((ps.map fun p=>decide (v0 p<0)).map V.bl))) rm (.dT (rmM P ps v0))):=fun x u e=>by
  have n1:x≠rm:=qa8 e frm;rw[qa7 n1];exact qad (sF x u n1 (s4 _ _ (t3 _ _ e))) hacc
 generalize upd (upd HF acc (.lst ((ps.map fun p=>decide (v0 p<0)).map V.bl))) rm (.dT (rmM P ps v0))=H5 at*;clear hF sF hacc nar er4 ev s4 er t3 hv rml;left;refine jwb (SqL.of eacc) ?_;refine⟨_,rfl,?_⟩
 cases hany:(ps.map fun p=>decide (v0 p<0)).any id with
 |true=>
  left;obtain⟨x,hx,e⟩:=yN.mp hany;obtain⟨p,hp1,rfl⟩:=zJ.mp hx;exact qn ⟨p,hp1,of_decide_eq_true e⟩ _ t5
 |false=>
  have hnn:∀p∈ps,0<=v0 p:=fun p hp1=>by
   have:=gC.mp hany (decide (v0 p<0)) (zJ.mpr ⟨p,hp1,rfl⟩);apply Classical.byContradiction;intro c;exact this (iC #[])
  have q:=q hnn;clear hany hnn qn eacc;left;rename_i lg hlg;have s6:=qa5 hlg (.lst []);have elg:upd H5 lg (.lst []) lg=some (.lst []):=qa1;have er6:=s6 _ _ er5;have t6:=t5.trans s6;have flg:H lg=none:=t5.free hlg;have ngr:lg≠rm:=(qa8 er5 hlg).symm;generalize upd H5 lg (.lst [])=H6 at*;have hW6:=hW.same t6;have hL6:=hW6.h;have l63:=hW.h63;clear s6 hlg er5 t5;left;intro C s0 H0 fp ac hac;refine jb7 bs.length (fun i H'=>H'=upd H6 ac (.lst (bsV ((bs.take i).filter (qbq r su))))) rfl ?_ ?_ ?_ ?_
  .rintro i H' hi rfl;exact⟨_,.ref bs[i].o,SqL.of (qad hL6 hac),by unfold bsV;rw[zC,zA hi];rfl⟩
  .rintro H' rfl;exact⟨_,SqL.of (qad hL6 hac),by unfold bsV;rw[zB];exact uH _⟩
  .rintro i H' v H'' hi rfl ⟨rfl,hy⟩;have hv:=hy _ (SqL.of (qad hL6 hac));unfold bsV at hv;rw[zC,zA hi] at hv
   cases hv
   have hb:=hW6.ob _ (zL hi);have tk:bs.take (i+1)=bs.take i++[bs[i]]:=by rw[zM,zA hi];rfl
   generalize hbi:bs[i]=b at*;obtain⟨dxb,hbo⟩:=hb.obj;have hbo':=qad (o':=.lst (bsV ((bs.take i).filter (qbq r su)))) hbo hac;have zl:(bsV ((bs.take i).filter (qbq r su))).length<sizeLine:=by
    unfold bsV;rw[zB];have h1:=zU (qbq r su) (bs.take i);rw[zS] at h1;show _<16777216;omega
   have yes:qbq r su b=true->upd (upd H6 ac (.lst (bsV ((bs.take i).filter (qbq r su))))) ac (.lst (bsV ((bs.take i).filter (qbq r su))++[.ref b.o]))=upd H6 ac (.lst (bsV ((bs.take (i+1)).filter (qbq r su)))):=fun e=>by
    rw[qbn,tk,yB,zY,iB e]
    congr 2
    unfold bsV;rw[zE];rfl
   have no:qbq r su b=false->upd H6 ac (.lst (bsV ((bs.take i).filter (qbq r su))))=upd H6 ac (.lst (bsV ((bs.take (i+1)).filter (qbq r su)))):=fun e=>by
    rw[tk,yB,zY,iA (by rw[e];exact uJ),yQ,yC]
   cases hs:b.R.s with
   |true=>
    rw[hs,show qfh d true=d.w0d from rfl] at hbo';left;refine jfj ?_;left;refine⟨_,_,_,rfl,?_⟩;left;exact no (by unfold qbq qb1;rw[hs];rfl)
   |false=>
    rw[hs,show qfh d false=d.w0c from rfl] at hbo';left;refine jfk ?_;left;refine⟨b.o,b.m,dxb,b.R.n,nmF P b.R.i,b.R.r,b.t,r,su,rfl,hbo',?_⟩
    cases hq:(su || decide (b.R.r<r)) with
    |true=>
     left;exact yes (by unfold qbq qb1;rw[hs,hq];rfl)
    |false=>
     left;exact no (by unfold qbq qb1;rw[hs,hq];rfl)
  rintro H' rfl;rw[zQ];have glm:∀b∈bs.filter (qbq r su),b∈bs:=fun b hb=>(yG.mp hb).1;have gl63:(bs.filter (qbq r su)).length<=63:=vP (zU ..) l63;have s7:=qa5 hac (.lst (bsV (bs.filter (qbq r su))));have eac:upd H6 ac (.lst (bsV (bs.filter (qbq r su)))) ac=some (.lst (bsV (bs.filter (qbq r su)))):=qa1;have elg7:=s7 _ _ elg;have er7:=s7 _ _ er6;have t7:=t6.trans s7;have nag:ac≠lg:=(qa8 elg hac).symm;have nar:ac≠rm:=(qa8 er6 hac).symm;generalize upd H6 ac (.lst (bsV (bs.filter (qbq r su))))=H7 at*;generalize bs.filter (qbq r su)=gl at*;clear hL6 hW6 elg er6 t6 s7 hac;left;refine qdg (xs:=bsV gl) (fun i σ H'=>∃(gs:List Gr)(w8 w9 w10 w11:Option V),σ=[sr t,sr lh,some (V.str (nmF P h)),sr am,some (V.int r),some (V.bl su),sr rm,sr lg,w8,w9,w10,w11]/\qas H H'/\H' ac=some (.lst (bsV gl))/\H' rm=some (.dT (rmM P ps (clL P ps v0 (gl.take i)).1))/\H' lg=some (.lst (grV gs))/\gs.length<=i/\(∀g∈gs,jgp H' P g/\g.b∈bs/\H g.m=none/\H g.p=none)/\gs.map (fun g=>(g.b,g.c))=(clL P ps v0 (gl.take i)).2) ⟨[],_,_,_,_,rfl,t7,eac,er7,elg7,uH _,fun g hg=>by simp at hg,rfl⟩ ?_ ?_ ?_
  .rintro i σ H' _ ⟨gs,w8,w9,w10,w11,_,_,ea,_⟩;exact SqL.of ea
  .rintro i x σ H' hx ⟨gs,w8,w9,w10,w11,rfl,sm,ea,erm,elg,gsl,hG,hgs⟩;have hi:i<gl.length:=by have:=(uG.mp hx).1;unfold bsV at this;rw[zB] at this;exact this
   have eb:=zA hi;have hbm:=glm _ (zL hi);have tk:gl.take (i+1)=gl.take i++[gl[i]]:=by rw[zM,eb];rfl
   generalize gl[i]=b at*;have hx:V.ref b.o=x:=by
    unfold bsV at hx;rw[zC,eb] at hx;exact uW hx
   subst hx;have cls:=jlx P ps v0 (gl.take i) b;rw[<-tk] at cls;rw[cls];generalize clL P ps v0 (gl.take i)=st at*;have hW':=hW.same sm;have hb':=hW'.ob b hbm;obtain⟨dxb,hbo⟩:=hb'.obj;obtain⟨cl,m1,m2,m3,m4,m5⟩:=jgm T b.R.s;unfold fsB at hbo;clear hx cls eac er7 elg7 t7;left;refine⟨t,lh,rm,S,P,bs,b,n,ps,st.1,rfl,hW',n12,hb',hP,erm,fun pt H8 s8 hpt ept=>?_⟩;have npr:pt≠rm:=(qa8 erm hpt).symm;left;refine⟨pt,rm,P,n,ps,prN P b,st.1,rfl,hP,ept,s8 _ _ erm,npr,fun hf H9 s9=>?_,fun p hf a H9 s9 ha=>?_⟩
   .rw[jf1 hf];left;refine jcs ?_;left;have t9:=s8.trans s9;have ept9:=s9 _ _ ept;have erm9:=t9 _ _ erm;have fpt:H pt=none:=sm.free hpt;refine jiz ?_;left;refine jp0 ?_;left;refine jjx ept9 fun o=>?_;have hF:upd H9 pt (.frz o (.dT (rmM P ps (prN P b)))) pt=some (.frz o (.dT (rmM P ps (prN P b)))):=qa1;have sF:∀x u,x≠pt->H9 x=some u->upd H9 pt (.frz o (.dT (rmM P ps (prN P b)))) x=some u:=fun x u ne e=>by rw[qa7 ne];exact e
    have ermF:=sF rm _ npr.symm erm9;generalize upd H9 pt (.frz o (.dT (rmM P ps (prN P b))))=HF at*;have sz:∀u:Pc->Int,(rmM P ps u).length<sizeLine:=fun u=>by unfold rmM;rw[zB];show _<16777216;omega
    have e0:rmM P ps st.1=rmM P ps (fun q=>if q∈ps.take 0 then st.1 q-prN P b q else st.1 q):=qey fun q _=>by rw[iA (by simp)]
    rw[e0] at ermF;refine jep (fun k σ Hx=>∃w:Option V,σ=[sr t,sr lh,some (V.str (nmF P h)),sr am,some (V.int r),some (V.bl su),sr rm,sr lg,sr b.o,sr pt,some V.non,w]/\Hx pt=some (.frz o (.dT (rmM P ps (prN P b))))/\(∀x u,x≠pt->x≠rm->H9 x=some u->Hx x=some u)/\Hx rm=some (.dT (rmM P ps (fun q=>if q∈ps.take k then st.1 q-prN P b q else st.1 q)))) ⟨_,rfl,hF,fun x u n1 _ e=>sF x u n1 e,ermF⟩ ?_ ?_ ?_
    .rintro k σ Hx _ ⟨w,_,fz,_⟩;exact fz
    .rintro k kk v a σ Hx hk ha ⟨w,rfl,fz,sx,ex⟩;obtain⟨p,hp1,rfl,rfl⟩:=jf0 hk;have tkp:ps.take (k+1)=ps.take k++[p]:=by rw[zM,hp1];rfl
     have pnt:p∉ps.take k:=fun hm=>by
      have nd:=hP.nd;have e2:=bN (k+1) ps;rw[tkp] at e2;rw[<-e2,yH,yH] at nd;exact nd.1.2.2 p hm p (zG.mpr rfl) rfl
     have fin:∃w':Option V,[sr t,sr lh,some (V.str (nmF P h)),sr am,some (V.int r),some (V.bl su),sr rm,sr lg,sr b.o,sr pt,some V.non,sr a]=[sr t,sr lh,some (V.str (nmF P h)),sr am,some (V.int r),some (V.bl su),sr rm,sr lg,sr b.o,sr pt,some V.non,w']/\upd Hx rm (.dT (qcp (rmM P ps (fun q=>if q∈ps.take k then st.1 q-prN P b q else st.1 q)) (pcK P p) (.int ((if p∈ps.take k then st.1 p-prN P b p else st.1 p)-prN P b p)))) pt=some (.frz o (.dT (rmM P ps (prN P b))))/\(∀x u,x≠pt->x≠rm->H9 x=some u->upd Hx rm (.dT (qcp (rmM P ps (fun q=>if q∈ps.take k then st.1 q-prN P b q else st.1 q)) (pcK P p) (.int ((if p∈ps.take k then st.1 p-prN P b p else st.1 p)-prN P b p)))) x=some u)/\upd Hx rm (.dT (qcp (rmM P ps (fun q=>if q∈ps.take k then st.1 q-prN P b q else st.1 q)) (pcK P p) (.int ((if p∈ps.take k then st.1 p-prN P b p else st.1 p)-prN P b p)))) rm=some (.dT (rmM P ps (fun q=>if q∈ps.take (k+1) then st.1 q-prN P b q else st.1 q))):=by
      rw[jp2 hP hp1];refine⟨_,rfl,by rw[qa7 npr];exact fz,fun x u n1 n2 e=>by rw[qa7 n2];exact sx x u n1 n2 e,?_⟩;rw[qa1,qey fun q _=>?_];rw[tkp];by_cases c:q=p
      .rw[iB c,iA pnt,c,iB (zX _ (zG.mpr rfl))]
      .rw[iA c];by_cases c2:q∈ps.take k
       .rw[iB c2,iB (yE _ c2)]
       .rw[iA c2,iA (fun hm=>(zP.mp hm).elim c2 fun h1=>c (zG.mp h1))]
     left;refine jy3 ?_;left;refine⟨rm,_,rfl,.inr ⟨_,pcK P p,a,.inl ex,rfl,ha,(qex hP hp1).symm⟩,?_⟩;left;refine jpy (k:=pcK P p) (.inr ⟨o,fz⟩) ha (qex hP hp1) ?_;exact⟨_,_,rfl,rfl,_,jgq.t ex ha (sz _),fin⟩
    .rintro σ Hx ⟨w,rfl,fz,sx,ex⟩;have el2:(rmM P ps (prN P b)).length=ps.length:=by unfold rmM;rw[zB]
     rw[el2,zQ,qey (v:=fun q=>st.1 q-prN P b q) fun q hq=>by rw[iB hq]] at ex;refine jeb (jc7 fz (qft fpt)) ?_;have mv:∀x u,x≠rm->H' x=some u->upd Hx pt (.dT (rmM P ps (prN P b))) x=some u:=fun x u n1 e=>by
      have n2:x≠pt:=qa8 e hpt;rw[qa7 n2];exact sx x u n2 n1 (t9 _ _ e)
     exact⟨gs,_,_,_,_,rfl,fun x u e=>mv x u (qa8 e frm) (sm _ _ e),mv _ _ nar ea,by rw[qa7 npr.symm];exact ex,mv _ _ ngr elg,#[],fun g hg=>⟨(hG g hg).1.mv erm mv,(hG g hg).2⟩,hgs⟩
   .rw[jf2 hf];have t9:=s8.trans s9;have elg9:=t9 _ _ elg;have hbo9:=t9 _ _ hbo;have hRb:Rd H9 b.m (.dK b.R.k):=.inl (t9 _ _ hb'.amt);have zl:(grV gs).length<sizeLine:=by unfold grV;rw[zB];show _<16777216;omega
    clear hbo ept;left;refine jcs ?_;left;rename_i m hm pp hpp;have u1:=qa5 hm (.dK b.R.k);have em:upd H9 m (.dK b.R.k) m=some (.dK b.R.k):=qa1;generalize upd H9 m (.dK b.R.k)=Ha at*;have u2:=qa5 hpp (.tup [V.int b.R.n,V.str (nmF P b.R.i),V.ref m,V.str (nmF P p.1),V.str p.2]);have epp:upd Ha pp (.tup [V.int b.R.n,V.str (nmF P b.R.i),V.ref m,V.str (nmF P p.1),V.str p.2]) pp=some (.tup [V.int b.R.n,V.str (nmF P b.R.i),V.ref m,V.str (nmF P p.1),V.str p.2]):=qa1;generalize upd Ha pp (.tup [V.int b.R.n,V.str (nmF P b.R.i),V.ref m,V.str (nmF P p.1),V.str p.2])=Hb at*;have tb:=(t9.trans u1).trans u2;have gn:jgp Hb P ⟨pp,m,b,p⟩:=⟨epp,u2 _ _ em⟩;have elgb:=tb _ _ elg;have put:∀{g:Gr},jgp Hb P g->jgp (upd Hb lg (.lst (grV gs++[V.ref pp]))) P g:=fun {g} hg=>⟨by rw[qa7 (fun z=>by have:=hg.tup;rw[z,elgb] at this;cases this)];exact hg.tup,by rw[qa7 (fun z=>by have:=hg.dic;rw[z,elgb] at this;cases this)];exact hg.dic⟩;refine⟨gs++[⟨pp,m,b,p⟩],_,_,_,_,rfl,qaw (sm.trans tb) flg,by rw[qa7 nag];exact tb _ _ ea,by rw[qa7 ngr.symm];exact tb _ _ erm,by rw[qa1];unfold grV;rw[zE];rfl,by rw[zF,yA];omega,fun g hg=>?_,by rw[zE,hgs];rfl⟩;rcases zP.mp hg with hg|hg
    .exact⟨put ((hG g hg).1.same tb),(hG g hg).2⟩
    .rw[zG.mp hg];exact⟨put gn,hbm,(sm.trans t9).free hm,((sm.trans t9).trans u1).free hpp⟩
  rintro σ H' ⟨gs,w8,w9,w10,w11,rfl,sm,ea,erm,elg,gsl,hG,hgs⟩;have ez:(bsV gl).length=gl.length:=zB _;rw[ez,zQ] at hgs;left;exact q lg gs H' sm flg elg hG hgs
structure WTr(K:uT)(d:Ad)(H:Hp)(w:Wd)(t lh:Addr)(S:Ts)(P:PL)(bs:List Ob):Prop where
 wd:jeo K d H t lh S P bs (w.es.length+1)
 nm:P.nm=w.nm
 ws:P.ws=w.ws
 es:P.es=w.es
theorem WTr.same{K:uT}{d:Ad}{H H':Hp}{w:Wd}{t lh:Addr}{S:Ts}{P:PL}{bs:List Ob}(h:WTr K d H w t lh S P bs)(s:qas H H'):WTr K d H' w t lh S P bs:=⟨h.wd.same s,h.nm,h.ws,h.es⟩
def akF(w:Wd):Str->Option Int:=tdF (w.ws.zip w.aps)
inductive jly(K:uT)(d:Ad)(vs:List V)(H:Hp)(Q:VK)(E:XK):Prop
 |mk(w:Wd)(t lh:Addr)(S:Ts)(P:PL)(bs:List Ob)(ss:List Str)(_:vs=[.ref w.wt,.ref t,.ref lh])(_:WAt H w)(_:WOk w)(_:WTr K d H w t lh S P bs)(_:ss.Perm (qcs (tdK (w.ws.zip w.aps))))(_:vH ss=true)(_:ss.length<=6)(_:((∃p∈pls (qac (elN P.es) w.h) ss,qbm S P (bs.filter (qb1 w.rk w.su)) (akF w) p.1 p.2<0)->∀H',qas H H'->Q .non H'))(_:((∀p∈pls (qac (elN P.es) w.h) ss,0<=qbm S P (bs.filter (qb1 w.rk w.su)) (akF w) p.1 p.2)->∀(l:Addr)(gs:List Gr)(H':Hp),qas H H'->H l=none->H' l=some (.lst (grV gs))->(∀g∈gs,jgp H' P g/\g.b∈bs/\H g.m=none/\H g.p=none)->gs.map (fun g=>(g.b,g.c))=(clL P (pls (qac (elN P.es) w.h) ss) (fun p=>qbm S P (bs.filter (qb1 w.rk w.su)) (akF w) p.1 p.2) (bs.filter (qbq w.rk w.su))).2->Q (.ref l) H'))
include T in
theorem wf6:jab P w K mg base CX0 22 d.wc1 d.wad ["_law_world_here","_law_tree_here","_law_objects_here"] (jly K d):=by
 exists T.wes.ok w4c
 .right
 obtain⟨w,t,lh,S,P,bs,ss,rfl,hw,ok,ht,hp,hs,s6,qn,q⟩:=h;exists (qa2 (qei (pv 0) (qd8 rfl (qaf (qab (i:=3) w4c.nd rfl (uI rfl)) (qaf (qab (i:=4) w4c.nd rfl (uI rfl)) (qaf (qab (i:=5) w4c.nd rfl (uI rfl)) (qaf (qab (i:=6) w4c.nd rfl (uI rfl)) (qaf (qab (i:=7) w4c.nd rfl (uI rfl)) (qaf (qab (i:=8) w4c.nd rfl (uI rfl)) qch))))))))
  (qa6 (qak (qa9 ((wap T).mono ∅) hr rfl T.wd0 T.wae.kp T.wd2 .nil qah #[pv 1,pv 2,qal qaj (pv 3) (~~~7) nofun,qa9 ((w4n T).mono ∅) hr rfl T.w6g T.w5w.kp T.w6i .nil qah #[pv 4,~~~7],~~~7,~~~7])))),[sr w.wt,sr t,sr lh,none,none,none,none,none,none];have htp:=hw.tup;have hla:=hw.la;have nl:=ht.wd.nn;have xn:atI (w.nm.map V.str) ((w.h:Nat):Int)=some (.str (nmF P w.h)):=by
  have e:w.h<P.nm.length:=by rw[nl];exact ok.hh
  rw[qdd e,<-ht.nm];exact qar (by rw[zC,zA e];rfl)
 have hh:=ok.hh;have e5:=ok.e5;have apl:=ok.apl;have w6:=ok.w6;generalize hhi:((w.h:Nat):Int)=hi at*;left;refine qb0 (SqL.of hw.ln) xn ?_;left;refine⟨w.lw,w.pa,w.ws,w.aps,rfl,SqL.of hw.lw,SqL.of hw.pa,apl.symm,#[],fun am H1 s1 ham eam=>?_⟩;have hla1:=s1 _ _ hla;clear htp hla;left;refine⟨t,lh,am,S,P,bs,_,w.h,tdK (w.ws.zip w.aps),akF w,ss,w.rk,w.su,rfl,ht.wd.same s1,#[],hh,eam,qe6 _,hp,hs,s6,fun c H2 s2=>?_,fun c l gs H2 s2 hl el hG hgs=>?_⟩
 .left;exact qn c _ (s1.trans s2)
 .left;exact q c l gs H2 (s1.trans s2) (s1.free hl) el (fun g hg=>⟨(hG g hg).1,(hG g hg).2.1,s1.free (hG g hg).2.2.1,s1.free (hG g hg).2.2.2⟩) hgs
def jxy(w:Wd)(p:Pc):Int:=gN (tdF (w.ws.zip (csD w.cs p.1))) p.2
def juh(w:Wd)(Bs:List Rw)(p:Pc):Int:=((Bs.filter fun R=>decide (p.1∈qac (elN w.es) R.i)).map fun R=>gN (tdF (w.ws.zip R.ps)) p.2).sum
def bad(w:Wd)(Bs:List Rw)(p:Pc):Bool:=decide (0<gN (akF w) p.2) && decide (jxy w p<juh w Bs p+gN (akF w) p.2)
theorem jp3(a b:List Nat)(ss:List Str):pls (a++b) ss=pls a ss++pls b ss:=by unfold pls;rw[List.flatMap_append]
theorem jlz{c:Nat}{f:Pc->Bool}(hj:js[i]?=some j)(hz:ss[c]?=some z)(h1:∀j'∈js.take i,∀z'∈ss,f (j',z')=false)(h2:∀z'∈ss.take c,f (j,z')=false)(hf:f (j,z)=true):(pls js ss).find? f=some (j,z):=by
 have hi:=(uG.mp hj).1;have e:js=js.take i++(j::js.drop (i+1)):=by
  have:=bN i js;rw[wY hi,(uG.mp hj).2] at this;exact this.symm
 rw[e,jp3,List.find?_append];have n1:(pls (js.take i) ss).find? f=none:=fU.mpr fun p hp=>by
  obtain⟨a,b⟩:=jfz hp;rw[h1 p.1 a p.2 b];exact uJ
 rw[n1];show(pls (j::js.drop (i+1)) ss).find? f=_;show(ss.map (fun w=>(j,w))++pls (js.drop (i+1)) ss).find? f=_;rw[List.find?_append];have n2:(ss.map (fun w=>(j,w))).find? f=some (j,z):=jdi (i:=c) (by rw[zC,hz];rfl) (fun y hy=>by
  rw[<-List.map_take] at hy;obtain⟨w,hw,rfl⟩:=zJ.mp hy;exact h2 w hw) hf
 rw[n2];rfl
def jes{f:Pc->Bool}(h1:∀j∈js,∀z∈ss,f (j,z)=false):(pls js ss).find? f=none:=fU.mpr fun p hp=>by
 obtain⟨a,b⟩:=jfz hp;rw[h1 p.1 a p.2 b];exact uJ
theorem jp4{w:Wd}{Bs:List Rw}{a:Nat}(nd:w.ws.Nodup)(hj:j<w.ws.length)(h:∀R∈Bs,R.ps.length=w.ws.length/\∀p∈R.ps,jgr p):juh w Bs (a,w.ws[j])=qdw (elN w.es) Bs a j:=by
 unfold juh qdw
 congr 1
 refine aJ fun R hR=>?_;obtain⟨l1,l2⟩:=h R (yG.mp hR).1;show gN (tdF (w.ws.zip R.ps)) w.ws[j]=psN R j;rw[jdg l1.symm nd (fun p hp=>(l2 p hp).lo) hj #[]];unfold psN;rw[zA #[]];rfl
def wd6(K:uT)(d:Ad):Sp:=fun vs H Q _=>∃(w:Wd)(ls:Addr)(P:PL)(Bs:List Rw)(sw:List Str),vs=[.ref w.wt,.ref ls]/\WAt H w/\WOk w/\P.nm=w.nm/\H ls=some (.lst (rwV Bs))/\(∀R∈Bs,jbt H (w.es.length+1) w.ws.length R)/\Bs.length<=100/\sw.Perm w.ws/\vH sw=true/\
 ((pls (qac (elN w.es) w.h) sw).find? (bad w Bs)=none->∀H',qas H H'->Q .non H')/\∀p,(pls (qac (elN w.es) w.h) sw).find? (bad w Bs)=some p->∀a H',qas H H'->H a=none->H' a=some (.tup [.str (nmF P p.1),.str p.2])->Q (.ref a) H'
include T in
theorem wf8:jab P w K mg base CX0 4 d.wcd d.wa2 ["_law_world_here","_law_some"] (wd6 K d):=by
 exists T.we3.ok w1z
 .right
 obtain⟨w,ls,P,Bs,sw,rfl,hw,ok,hPn,hl,hB,b30,hp,hs,qn,q⟩:=h;exists (qa2 (qei (pv 0) (qd8 rfl (qaf (qab (i:=2) w1z.nd rfl (uI rfl)) (qaf (qab (i:=3) w1z.nd rfl (uI rfl)) (qaf (qab (i:=4) w1z.nd rfl (uI rfl)) (qaf (qab (i:=5) w1z.nd rfl (uI rfl)) (qaf (qab (i:=6) w1z.nd rfl (uI rfl)) (qaf (qab (i:=7) w1z.nd rfl (uI rfl)) qch))))))))
  (qa2 (qbc vE rfl (qb3 (qal qaj (pv 4) (~~~6) nofun)) (qab (i:=8) w1z.nd rfl (uI rfl)) (qa6 (qbc vE rfl (qb3 (qai qee rfl T.w5s xE #[pv 3])) (qab (i:=9) w1z.nd rfl (uI rfl)) (qa2 (qae (i:=10) w1z.nd rfl (uI rfl) (qdn vD PySem.F.slot_list_index PySem.F.type_list_index joz (pv 3) #[pv 9]))
  (qa2 (qae (i:=11) w1z.nd rfl (uI rfl) (qa9 ((wee T).mono ∅) hr rfl T.wgd T.wf5.kp T.wg0 .nil qah #[pv 1,pv 4,pv 8,pv 10]))
  (qa6 (qb5 (PW.pt (jgw (qan qgb (qal qaj (~~~6) (pv 10) nofun) qa4 (qaq _)) (jdt (qan qgb (qam qax (pv 11) (qal qaj (~~~6) (pv 10) nofun)) (qal qaj (qal qaj (pv 7) (pv 8) nofun) (pv 10) nofun) (qaq _))))) (qa6 (qak (qc7 #[qal qaj (pv 2) (pv 8) nofun,pv 9]))) qao)))))))
  (qa6 (qak qcm)))),[sr w.wt,sr ls,none,none,none,none,none,none,none,none,none,none];have htp:=hw.tup;have hla:=hw.la;have etop:=hw.le.top;obtain⟨xh,_,axh,exh⟩:=hw.le.at ok.hh;have low:=qdu (fun k e h=>(hw.le.lo k e h).1) (w.es.length+1);have lle:=qdk low w.h ok.hh;have hh:=ok.hh;have w6:=ok.w6;generalize hhi:((w.h:Nat):Int)=hi at*;left;refine qb0 (SqL.of etop) axh ?_;left;refine qdg (xs:=(qac (elN w.es) w.h).map iV) (fun i σ H'=>∃(w8 w9 w10 w11:Option V),σ=[sr w.wt,sr ls,sr w.ln,sr w.lw,sr w.le,sr w.lr,sr w.la,sr w.lc,w8,w9,w10,w11]/\qas H H'/\∀j∈(qac (elN w.es) w.h).take i,∀z∈sw,bad w Bs (j,z)=false) ⟨_,_,_,_,rfl,qas.refl _,fun j hj=>by simp at hj⟩ ?_ ?_ ?_
 .rintro i σ H' _ ⟨w8,w9,w10,w11,_,sm,_⟩;exact SqL.of (sm _ _ exh)
 .rintro i x σ H' hx ⟨w8,w9,w10,w11,rfl,sm,hno⟩;rw[zC] at hx;obtain⟨a,ha,rfl⟩:=uY.mp hx;have tka:(qac (elN w.es) w.h).take (i+1)=(qac (elN w.es) w.h).take i++[a]:=by rw[zM,ha];rfl
  have hal:=lle a (zD ha);have han:a<w.es.length+1:=by omega
  obtain⟨ec,ecl,ecb,xc⟩:=hw.cs.at (k:=a) (by rw[ok.cl];exact han);have hlw':=sm _ _ hw.lw;clear hx axh etop htp hla;unfold iV;generalize hai:((a:Nat):Int)=ai at*;left;refine jd4 (SqL.of hlw') #[] fun l ss' hl2 hp2 hs2=>?_;have ess:ss'=sw:=jjl (hp2.trans hp.symm) hs2 hs;subst ess;have s2:=qa5 hl2 (.lst (ss'.map V.str));have el2:upd H' l (.lst (ss'.map V.str)) l=some (.lst (ss'.map V.str)):=qa1;generalize upd H' l (.lst (ss'.map V.str))=H2 at*;have t2:=sm.trans s2;clear hp2 hs2 hl2 hlw';left;refine qdg (xs:=ss'.map V.str) (fun c σ H3=>∃(w9 w10 w11:Option V),σ=[sr w.wt,sr ls,sr w.ln,sr w.lw,sr w.le,sr w.lr,sr w.la,sr w.lc,some (V.int ai),w9,w10,w11]/\qas H2 H3/\∀z∈ss'.take c,bad w Bs (a,z)=false) ⟨_,_,_,rfl,qas.refl _,fun z hz=>by simp at hz⟩ ?_ ?_ ?_
  .rintro c σ H3 _ ⟨w9,w10,w11,_,s3,_⟩;exact SqL.of (s3 _ _ el2)
  .rintro c x σ H3 hx ⟨w9,w10,w11,rfl,s3,hnc⟩;rw[zC] at hx;obtain⟨z,hz,rfl⟩:=uY.mp hx;have tkz:ss'.take (c+1)=ss'.take c++[z]:=by rw[zM,hz];rfl
   obtain⟨j,hj,rfl⟩:=zR.mp (hp.mem_iff.mp (zD hz));have t3:=t2.trans s3;have hw3:=hw.same t3;have la3:=hw3.la;have lw3:=hw3.lw;rw[hhi] at la3;have hap:j<w.aps.length:=by rw[ok.apl];exact hj
   have hcj:j <(csD w.cs a).length:=by rw[ecl];exact hj
   have x1:atI (w.aps.map V.int) ((j:Nat):Int)=some (.int w.aps[j]):=qar (by rw[zC,zA hap];rfl);have x2:atI ((csD w.cs a).map V.int) ((j:Nat):Int)=some (.int (csD w.cs a)[j]):=qar (by rw[zC,zA hcj];rfl);have x3:atI (w.nm.map V.str) ai=some (.str (nmF P a)):=by
    rw[<-hai,<-hPn];have e:a<P.nm.length:=by rw[hPn,ok.nms.len];exact han
    rw[qdd e];exact qar (by rw[zC,zA e];rfl)
   have v1:gN (akF w) w.ws[j]=w.aps[j]:=jdg ok.apl.symm ok.wsn.nd (fun p hp=>(ok.apn p hp).lo) hj hap;have v2:jxy w (a,w.ws[j])=(csD w.cs a)[j]:=jdg ecl.symm ok.wsn.nd (fun p hp=>(ecb p hp).1) hj hcj;have v3:juh w Bs (a,w.ws[j])=qdw (elN w.es) Bs a j:=jp4 ok.wsn.nd hj fun R hr=>⟨(hB R hr).len,(hB R hr).nn⟩;have ebad:bad w Bs (a,w.ws[j])=(decide (0<w.aps[j]) && decide ((csD w.cs a)[j]<qdw (elN w.es) Bs a j+w.aps[j])):=by
    unfold bad;rw[v2,v3];show(decide (0<gN (akF w) w.ws[j]) && decide (_<_+gN (akF w) w.ws[j]))=_;rw[v1]
   generalize w.aps[j]=av at*;generalize (csD w.cs a)[j]=cv at*;clear hx v1 v2 v3;left;refine js5 (SqL.of hw3.lw) ok.wsn.nd hj ?_;generalize hji:((j:Nat):Int)=ji at*;left;refine⟨ls,w.le,w.las,Bs,w.es,_,w.ws.length,a,j,by rw[hai,hji],t3 _ _ hl,b30,fun R hr=>(hB R hr).same t3,hw3.le,rfl,hj,fun H4 s4=>?_⟩;generalize qdw (elN w.es) Bs a j=sv at*;have hw4:=hw3.same s4;have la4:=hw4.la;rw[hhi] at la4;have t4:=t3.trans s4;clear la3;left;refine qb0 (SqL.of hw4.pa) x1 ?_;left;have nofin:bad w Bs (a,w.ws[j])=false->∀z∈ss'.take (c+1),bad w Bs (a,z)=false:=fun e z hz2=>by
    rw[tkz] at hz2;rcases zP.mp hz2 with h|h
    .exact hnc z h
    .rw[zG.mp h];exact e
   refine i_2 (fun c1=>?_) (fun c1=>?_)
   .left;refine qb0 (SqL.of hw4.pa) x1 ?_;left;refine qb0 (SqL.of hw4.lc) xc ?_;left;refine qb0 (SqL.of (t4 _ _ ec)) x2 ?_;left;refine i_2 (fun c2=>?_) (fun c2=>?_)
    .left;refine qb0 (SqL.of hw4.ln) x3 ?_;left;rename_i pp hpp;exact q (a,w.ws[j]) (jlz ha hz hno hnc (by rw[ebad,iC c1,iC c2];rfl)) pp _ (t4.trans (qa5 hpp _)) (t4.free hpp) qa1
    .left;exact⟨_,_,_,rfl,s3.trans s4,nofin (by rw[ebad,iD c2,Bool.and_false])⟩
   .left;exact⟨_,_,_,rfl,s3.trans s4,nofin (by rw[ebad,iD c1,Bool.false_and])⟩
  .rintro σ H3 ⟨w9,w10,w11,rfl,s3,hnc⟩;rw[zB,zQ] at hnc;left;refine⟨_,_,_,_,rfl,t2.trans s3,fun j hj z hz=>?_⟩;rw[tka] at hj;rcases zP.mp hj with h|h
   .exact hno j h z hz
   .rw[zG.mp h];exact hnc z hz
 .rintro σ H' ⟨w8,w9,w10,w11,rfl,sm,hno⟩;rw[zB,zQ] at hno;left;exact qn (jes hno) _ sm
theorem jdj:∀{p:Str} {l:List Str},(p::l).Pairwise leS->PyProof.Rows.risingS p l=true
 |p,[],_=>rfl
 |p,x::r,h=>by
  have h1:=aG h (zN ..);unfold PyProof.Rows.risingS;rw[vO,cT];exact⟨h1,jdj (List.Pairwise.of_cons h)⟩
theorem jnm(x:Str):∀{l:List Str},l.Pairwise leS->∃l':List Str,l'.Perm (x::l)/\l'.Pairwise leS
 | [],_=>⟨[x],List.Perm.refl _,aZ _ _⟩
 |y::r,h=>by
  by_cases c:leS x y
  .refine⟨x::y::r,List.Perm.refl _,cP.mpr ⟨fun z hz=>?_,h⟩⟩;rcases zO.mp hz with rfl|hz
   .exact c
   .exact jc4 c (aG h hz)
  .have c':leS y x:=qdf.mpr ((List.le_total _ _).resolve_left fun z=>c (qdf.mpr z));obtain⟨l',hp,hl⟩:=jnm x (List.Pairwise.of_cons h);refine⟨y::l',(hp.cons y).trans (List.Perm.swap x y r),cP.mpr ⟨fun z hz=>?_,hl⟩⟩;rcases zO.mp (hp.mem_iff.mp hz) with rfl|hz
   .exact c'
   .exact aG h hz
theorem jjz:∀ss:List Str,∃ss':List Str,ss'.Perm ss/\vH ss'=true:=fun ss=>by
 have:∃ss':List Str,ss'.Perm ss/\ss'.Pairwise leS:=by
  induction ss with
  |nil=>exact⟨[],List.Perm.refl _,cS⟩
  |cons x r ih=>
   obtain⟨r',hp,hr⟩:=ih;obtain⟨l',hp',hl⟩:=jnm x hr;exact⟨l',hp'.trans (hp.cons x),hl⟩
 obtain⟨l,hp,hl⟩:=this;refine⟨l,hp,?_⟩
 cases l with
 |nil=>rfl
 |cons x r=>exact jdj hl
theorem jl0{K:uT}(x y:Int):DEq K H n (.int x) (.int y) (decide (x=y)):=by
 have w:=DEq.flat (K:=K) (H:=H) (n:=n) (x:=.int x) (y:=.int y) rfl rfl;have e:eqV (.int x) (.int y)=decide (x=y):=by
  show(x==y)=decide (x=y);by_cases c:x=y
  .rw[iC c];exact beq_iff_eq.mpr c
  .rw[iD c];exact beq_eq_false_iff_ne.mpr c
 rw[e] at w;exact w
theorem qgm{K:uT}(x y:Str):DEq K H n (.str x) (.str y) (decide (x=y)):=by
 have w:=DEq.flat (K:=K) (H:=H) (n:=n) (x:=.str x) (y:=.str y) rfl rfl;have e:eqV (.str x) (.str y)=decide (x=y):=by
  show(x==y)=decide (x=y);by_cases c:x=y
  .rw[iC c];exact beq_iff_eq.mpr c
  .rw[iD c];exact beq_eq_false_iff_ne.mpr c
 rw[e] at w;exact w
structure Gx where
 p:Addr
 m:Addr
 n:Int
 z:Str
 k:List (Key×V)
 f:Str->Option Int
 a:Str
 b:Str
structure jax(H:Hp)(x:Gx):Prop where
 tup:H x.p=some (.tup [.int x.n,.str x.z,.ref x.m,.str x.a,.str x.b])
 dic:H x.m=some (.dK x.k)
 ad:AD x.k x.f
def jax.same{H H':Hp}{x:Gx}(h:jax H x)(s:qas H H'):jax H' x:=⟨s _ _ h.tup,s _ _ h.dic,h.ad⟩
def jax.put{x:Gx}(h:jax H x)(e:H l=some (.lst xs)):jax (upd H l o) x:=⟨by rw[qa7 (fun z=>by have:=h.tup;rw[z,e] at this;cases this)];exact h.tup,by rw[qa7 (fun z=>by have:=h.dic;rw[z,e] at this;cases this)];exact h.dic,h.ad⟩
def gxV(l:List Gx):List V:=l.map fun x=> .ref x.p
noncomputable def jca(x y:Gx):Bool:=decide (x.n=y.n) && (decide (x.z=y.z) && (fEq x.f y.f && (decide (x.a=y.a) && decide (x.b=y.b))))
theorem jnn{k:List (Key×V)}(h:AD k f)(h':AD k g):fEq f g=true:=by
 have e:f=g:=by
  funext z
  have h1:=h.get z;rw[h'.get z] at h1
  cases hf:f z<;>cases hg:g z<;>rw[hf,hg] at h1<;>first|rfl|(cases h1;rfl) |cases h1
 rw[e];exact jfn g
theorem jtz{K:uT}{k k':List (Key×V)}(ha:H a=some (.dK k))(hb:H b=some (.dK k'))(hf:AD k f)(hg:AD k' g):DEq K H (n+1) (.ref a) (.ref b) (fEq f g):=by
 by_cases e:a=b
 .subst e;rw[ha] at hb
  cases hb
  rw[jnn hf hg];exact DEq.same
 .have w:=DEq.dd (K:=K) (n:=n) (.inl ha) (.inl hb) e hf.flat hg.flat;rw[hf.iff hg] at w;exact w
theorem jt0{K:uT}{x y:Gx}(hx:jax H x)(hy:jax H y):DEq K H 2 (.ref x.p) (.ref y.p) (jca x y):=by
 by_cases e:x.p=y.p
 .have h1:=hx.tup;rw[e,hy.tup] at h1;have h1:=uW h1;injection h1 with h1
  simp only[List.cons.injEq,V.int.injEq,V.str.injEq,V.ref.injEq,and_true] at h1;obtain⟨h1,h2,h3,h4,h5⟩:=h1;have hd:=hx.dic;rw[<-h3,hy.dic] at hd;have hd:=uW hd;injection hd with hd
  have ea:=hx.ad;rw[<-hd] at ea;unfold jca;rw[iC h1.symm,iC h2.symm,iC h4.symm,iC h5.symm,jnn ea hy.ad,e];exact DEq.same
 .have z:=DEq.ts (K:=K) (H:=H) (n:=1) (e:=fun j=>if j=0 then decide (x.n=y.n) else if j=1 then decide (x.z=y.z) else if j=2 then fEq x.f y.f else if j=3 then decide (x.a=y.a) else decide (x.b=y.b)) (SqT.of hx.tup) (SqT.of hy.tup) e (fun j h1 h2=>by
   match j,h1 with
   |0,_=>exact jl0 _ _
   |1,_=>exact qgm _ _
   |2,_=>exact jtz hx.dic hy.dic hx.ad hy.ad
   |3,_=>exact qgm _ _
   |4,_=>exact qgm _ _)
  have e2:∀b1 b2 b3 b4 b5:Bool,((vB 5).all (fun j=>if j=0 then b1 else if j=1 then b2 else if j=2 then b3 else if j=3 then b4 else b5) && true)=(b1 && (b2 && (b3 && (b4 && b5)))):=∅
  have z:DEq K H 2 (.ref x.p) (.ref y.p) ((vB 5).all (fun j=>if j=0 then decide (x.n=y.n) else if j=1 then decide (x.z=y.z) else if j=2 then fEq x.f y.f else if j=3 then decide (x.a=y.a) else decide (x.b=y.b)) && true):=z;rw[e2] at z;exact z
noncomputable def qe2:List Gx->List Gx->Bool
 | [],[]=>true
 |x::l,y::m=>jca x y && qe2 l m
 |_,_=>false
theorem jf3{l m:List Gx}(h:l.length≠m.length):qe2 l m=false:=by
 induction l generalizing m with
 |nil=>cases m with
  |nil=>exact absurd rfl h
  |cons y m=>rfl
 |cons x l ih=>cases m with
  |nil=>rfl
  |cons y m=>show(jca x y && qe2 l m)=false;rw[ih (fun e=>h (by rw[zK,zK,e])),Bool.and_false]
theorem jf4:∀{l m:List Gx},l.length=m.length->(vB l.length).all (fun j=>match l[j]?,m[j]? with|some x,some y=>jca x y|_,_=>true)=qe2 l m
 | [],[],_=>rfl
 | [],_::_,e=>by simp at e
 |_::_,[],e=>by simp at e
 |x::l,y::m,e=>by
  have ih:=jf4 (l:=l) (m:=m) (by simpa using e);show _=(jca x y && qe2 l m);rw[zK,List.range_succ_eq_map,yU,gP,<-ih];rfl
def jno{l:List Gx}(h1:j <(gxV l).length)(h:j<l.length):(gxV l)[j]=.ref l[j].p:=bR ..
theorem jf5{K:uT}{l m:List Gx}(ha:H a=some (.lst (gxV l)))(hb:H b=some (.lst (gxV m)))(hl:∀x∈l,jax H x)(hm:∀x∈m,jax H x)(ne:a≠b):DEq K H 3 (.ref a) (.ref b) (qe2 l m):=by
 have l1:(gxV l).length=l.length:=by unfold gxV;rw[zB]
 have l2:(gxV m).length=m.length:=by unfold gxV;rw[zB]
 by_cases h:l.length=m.length
 .have z:=DEq.ls (K:=K) (H:=H) (n:=2) (e:=fun j=>match l[j]?,m[j]? with|some x,some y=>jca x y|_,_=>true) (SqL.of ha) (SqL.of hb) ne #[] (fun j h1 h2=>by
   have k1:j<l.length:=by omega
   have k2:j<m.length:=by omega
   rw[jno h1 k1,jno h2 k2,zA k1,zA k2];exact jt0 (hl _ (zL k1)) (hm _ (zL k2)))
  rw[l1,jf4 h] at z;exact z
 .rw[jf3 h];exact DEq.lsN (SqL.of ha) (SqL.of hb) ne #[]
def gxO(P:PL)(g:Gr):Gx:=⟨g.p,g.m,g.b.R.n,nmF P g.b.R.i,g.b.R.k,g.b.R.f,nmF P g.c.1,g.c.2⟩
theorem jt1(P:PL)(gs:List Gr):gxV (gs.map (gxO P))=grV gs:=by unfold gxV grV;rw[yT];rfl
def jnp{P:PL}{g:Gr}(h:jgp H P g)(ha:AD g.b.R.k g.b.R.f):jax H (gxO P g):=⟨h.tup,h.dic,ha⟩
theorem jnq{P:PL}{l:List Gx} :∀{gs ks:List Gr},gs.map (fun g=>(g.b,g.c))=ks.map (fun g=>(g.b,g.c))->qe2 l (gs.map (gxO P))=qe2 l (ks.map (gxO P)):=by
 induction l with
 |nil=>
  intro gs ks e
  cases gs<;>cases ks<;>first|rfl|simp at e
 |cons x l ih=>
  intro gs ks e
  cases gs with
  |nil=>cases ks with
   |nil=>rfl
   |cons k ks=>simp at e
  |cons g gs=>cases ks with
   |nil=>simp at e
   |cons k ks=>
    rw[zT,zT] at e;obtain⟨e1,e2⟩:=aO e;obtain⟨eb,ec⟩:=cZ e1;show(jca x (gxO P g) && qe2 l (gs.map (gxO P)))=(jca x (gxO P k) && qe2 l (ks.map (gxO P)));rw[ih e2];unfold gxO jca;dsimp only;rw[eb,ec]
def w89(K:uT)(d:Ad):Sp:=fun vs H Q _=>∃x:V,vs=[x]/\Q (.bl true) H
include T in
theorem w8f:jab P w K mg base CX0 1 d.w3y d.w38 ["self"] (w89 K d):=by
 exists T.w90.ok w8p
 .right
 obtain⟨x,rfl,q⟩:=h;exists qa6 (qak qeo),[some (x)];left;exact q
def w86(K:uT)(d:Ad):Sp:=fun vs H Q _=>∃x:V,vs=[x]/\Q (.bl false) H
include T in
theorem w8q:jab P w K mg base CX0 1 d.w3w d.w3b ["self"] (w86 K d):=by
 exists T.w9b.ok w7v
 .right
 obtain⟨x,rfl,q⟩:=h;exists qa6 (qak qeo),[some (x)];left;exact q
def wao(K:uT)(d:Ad):Sp:=fun vs H Q _=>∃(b:Ob)(P:PL),vs=[.ref b.o]/\jbs d H P b/\∀p m H',qas H H'->H p=none->H m=none->H' p=some (.tup [.int b.R.n,.str (nmF P b.R.i),.ref m,.int b.R.r,tV b.t,.bl b.R.s])->H' m=some (.dK b.R.k)->Q (.ref p) H'
include T in
theorem w7f:jab P w K mg base CX0 2 d.w4r d.w52 ["self"] (wao K d):=by
 exists T.wcn.ok wb5
 .right
 obtain⟨b,P,rfl,hb,q⟩:=h;exists qa6 (qak (qc7 #[qb6 (pv 0) rfl,qb6 (pv 0) rfl,qaz qc4 rfl T.w7e wG #[qb6 (pv 0) rfl],qb6 (pv 0) rfl,qb6 (pv 0) rfl,jfi (qer (pv 0) T.w4f T.w1c ((w8f T).mono ∅) hr T.w91 .nil qah) (qer (pv 0) T.w3s T.w17 ((w8q T).mono ∅) hr T.w95 .nil qah)])),[sr b.o];obtain⟨dx,hbo⟩:=hb.obj;obtain⟨cl,n1,n2,n3,n4,n5⟩:=jgm T b.R.s;have hRm:Rd H b.m (.dK b.R.k):=.inl hb.amt
 cases hs:b.R.s with
 |true=>
  rw[hs,show qfh d true=d.w0d from rfl] at hbo cl n1 n2 n3 n4 n5;rw[hs] at q;unfold fsB at hbo;left;rename_i m hm;refine jfj ?_;left;refine⟨_,rfl,?_⟩;left;rename_i p hp;exact q p m _ (qep (qa5 hm _) hp) (by have:=qa5 hm (.dK b.R.k);exact this.free hp) hm qa1 (qad qa1 hp)
 |false=>
  rw[hs,show qfh d false=d.w0c from rfl] at hbo cl n1 n2 n3 n4 n5;rw[hs] at q;unfold fsB at hbo;left;rename_i m hm;refine jfk ?_;left;refine⟨_,rfl,?_⟩;left;rename_i p hp;exact q p m _ (qep (qa5 hm _) hp) (by have:=qa5 hm (.dK b.R.k);exact this.free hp) hm qa1 (qad qa1 hp)
theorem jt2{K:uT}(t:Option Int):DEq K H n (tV t) (tV t) true:=by
 cases t with
 |none=>exact DEq.flat (x:=.non) (y:=.non) rfl rfl
 |some i=>
  have w:=DEq.flat (K:=K) (H:=H) (n:=n) (x:=.int i) (y:=.int i) rfl rfl;have e:eqV (.int i) (.int i)=true:=by simp[eqV]
  rw[e] at w;exact w
def jj0{K:uT}(i:Int):DEq K H n (.int i) (.int i) true:=jt2 (some i)
theorem jp5{K:uT}{ys:List V}(ha:SqT K H a xs)(hb:SqT K H b ys)(ne:a≠b)(h:jmo K H n xs ys):DEq K H (n+1) (.ref a) (.ref b) true:=by
 have z:=DEq.ts (n:=n) (e:=fun _=>true) ha hb ne h.get;have e:((vB (min xs.length ys.length)).all (fun _=>true) && xs.length==ys.length)=true:=by rw[h.len];simp
 rw[e] at z;exact z
theorem jp6{bs:List Ob}(h:bs.map (·.R)=Rs.map (jls ws)){i:Nat}{b:Ob}{R:Rw}(hb:bs[i]?=some b)(hR:Rs[i]?=some R):b.R=jls ws R:=by
 have z:=congrArg (fun l=>l[i]?) h;simp only[zC,hb,hR] at z;exact uW z
def wdk(K:uT)(d:Ad):Sp:=fun vs H Q _=>∃(w:Wd)(lh:Addr)(P:PL)(bs:List Ob),vs=[.ref lh,.ref w.wt]/\WAt H w/\WOk w/\P.nm=w.nm/\H lh=some (.lst (bsV bs))/\(∀b∈bs,jbs d H P b)/\bs.map (·.R)=w.Rs.map (jls w.ws)/\(∀b∈bs,b.t=tuO b.R.n b.R.r)/\∀H',qas H H'->Q (.bl true) H'
include T in
theorem wdl:jab P w K mg base CX0 4 d.w8r d.w6s ["_law_objects_here","_law_world_here"] (wdk K d):=by
 exists T.wbh.ok w0y
 .right
 obtain⟨w,lh,P,bs,rfl,hw,ok,hPn,hL,hB,hbs,hU,q⟩:=h;exists (qa2 (qei (pv 1) (qd8 rfl (qaf (qab (i:=2) w0y.nd rfl (uI rfl)) (qaf (qab (i:=3) w0y.nd rfl (uI rfl)) (qaf (qab (i:=4) w0y.nd rfl (uI rfl)) (qaf (qab (i:=5) w0y.nd rfl (uI rfl)) (qaf (qab (i:=6) w0y.nd rfl (uI rfl)) (qaf (qab (i:=7) w0y.nd rfl (uI rfl)) qch))))))))
  (qa2 (qb5 (qan juk (qai qat rfl T.w29 vF #[pv 0]) (qai qat rfl T.w29 vF #[pv 5]) (qaq _)) (qa6 (qak qeo)) qao)
  (qa2 (qbc vE rfl (jmt rfl T.wgo #[pv 0,pv 5]) (qd8 rfl (qaf (qab (i:=8) w0y.nd rfl (uI rfl)) (qaf (qab (i:=9) w0y.nd rfl (uI rfl)) qch))) (qa2 (qae (i:=10) w0y.nd rfl (uI rfl) (qal qaj (qbl #[qcm,qam qax qa4 (~~~9)]) (qam qc8 (~~~9) qa4) nofun))
  (qa6 (qb5 (qan (jh4 (hu8 hr)) (jfi (qer (pv 8) T.w4f T.w2e ((w7f T).mono ∅) hr T.w8l .nil qah) (qer (pv 8) T.w3s T.w2j ((w7f T).mono ∅) hr T.w8l .nil qah)) (qc7 #[~~~9,qal qaj (pv 2) (~~~9) nofun,qa9 ((w4n T).mono ∅) hr rfl T.w6g T.w5w.kp T.w6i .nil qah #[pv 3,~~~9],~~~9,pv 10,~~~9]) (qaq _)) (qa6 (qak qeo)) qao))))
  (qa6 (qak qeo))))),[sr lh,sr w.wt,none,none,none,none,none,none,none,none,none];have htp:=hw.tup;have hlr:=hw.lr;have hbl:(bsV bs).length=(rwV w.Rs).length:=by
  have:=congrArg wV hbs;rw[zB,zB] at this;unfold bsV rwV;rw[zB,zB];exact this
 left;refine jsj (SqL.of hL) (SqL.of hlr) ?_;refine jsk hbl (fun i σ H'=>∃w1 w2 w3:Option V,σ=[sr lh,sr w.wt,sr w.ln,sr w.lw,sr w.le,sr w.lr,sr w.la,sr w.lc,w1,w2,w3]/\qas H H') ⟨_,_,_,rfl,qas.refl _⟩ ?_ ?_ ?_
 .rintro i σ H' ⟨w1,w2,w3,rfl,sm⟩;exact⟨SqL.of (sm _ _ hL),SqL.of (sm _ _ hlr)⟩
 .rintro i x y Tt σ H' hx hy ⟨w1,w2,w3,rfl,sm⟩ hTt;unfold bsV at hx;unfold rwV at hy;rw[zC] at hx hy;obtain⟨b,hb,rfl⟩:=uY.mp hx;obtain⟨R,hr,rfl⟩:=uY.mp hy;have eR:=jp6 hbs hb hr;have hbm:=zD hb;have hrm:=zD hr;have et:=hU b hbm;have s2:=qa5 hTt (.tup [.ref b.o,.ref R.p]);have tT:upd H' Tt (.tup [.ref b.o,.ref R.p]) Tt=some (.tup [.ref b.o,.ref R.p]):=qa1;generalize upd H' Tt (.tup [.ref b.o,.ref R.p])=H2 at*;have t2:=sm.trans s2;have hw2:=hw.same t2;have hb2:=(hB b hbm).same t2;have hR2:=hw2.rs R hrm;have hrow:=hR2.row;have xn:atI (w.nm.map V.str) ((R.i:Nat):Int)=some (.str (nmF P R.i)):=by
   rw[<-hPn];have e:R.i<P.nm.length:=by rw[hPn,ok.nms.len];exact hR2.il
   rw[qdd e];exact qar (by rw[zC,zA e];rfl)
  generalize hri:((R.i:Nat):Int)=ri at*;clear hx hy hb hr hTt;left;rename_i pm hpm;have ht:atI [V.non,V.int (1+R.r)] (R.n%2)=some (tV (tuO R.n R.r)):=by
   have m0:=wA R.n (show(2:Int)≠0 by decide);have m1:=vZ R.n (show(0:Int)<2 by decide);have hc:R.n%2=0\/R.n%2=1:=by omega
   unfold tuO;rcases hc with c|c
   .rw[c];exact qar (j:=0) rfl
   .rw[c];exact qar (j:=1) rfl
  refine qb0 (SqL.of qa1) ht ?_;have s3:=qa5 hpm (.lst [V.non,V.int (1+R.r)]);generalize upd H2 pm (.lst [V.non,V.int (1+R.r)])=H3 at*;have t3:=t2.trans s3;have hw3:=hw.same t3;have hb3:=hb2.same s3;have hrow3:=s3 _ _ hrow;clear ht hrow tT hw2 hb2 hR2 hpm;obtain⟨dxb,hbo⟩:=hb3.obj;have fin:∀(p m am pq:Addr)(H4 H5:Hp),qas H3 H4->H4 p=some (.tup [.int b.R.n,.str (nmF P b.R.i),.ref m,.int b.R.r,tV b.t,.bl b.R.s])->H4 m=some (.dK b.R.k)->qas H4 H5->H4 am=none->H5 am=some (.dK (tdK (w.ws.zip R.ps)))->H5 pq=none->p≠pq/\DEq K (upd H5 pq (.tup [.int R.n,.str (nmF P R.i),.ref am,.int R.r,tV (tuO R.n R.r),.bl R.s])) 2 (.ref p) (.ref pq) true:=fun p m am pq H4 H5 s4 ep em s5 ham eam hpq=>by
   have ne:=qa8 (s5 _ _ ep) hpq;have nm:m≠am:=qa8 em ham;refine⟨ne,?_⟩;rw[et,eR] at ep;rw[eR] at em;have em:H4 m=some (.dK (tdK (w.ws.zip R.ps))):=em;have dd:=DEq.dd (K:=K) (n:=0) (.inl (qad (o':=.tup [.int R.n,.str (nmF P R.i),.ref am,.int R.r,tV (tuO R.n R.r),.bl R.s]) (s5 _ _ em) hpq)) (.inl (qad eam hpq)) nm (qe6 _).flat (qe6 _).flat;rw[(qe6 _).eq (qe6 _)] at dd;exact jp5 (n:=1) (SqT.of (qad (s5 _ _ ep) hpq)) (SqT.of qa1) ne ⟨jj0 _,jop _,dd,jj0 _,jt2 _,jsa _,trivial⟩
  left
  cases hs:b.R.s with
  |true=>
   rw[hs,show qfh d true=d.w0d from rfl] at hbo;refine jfj ?_;left;refine⟨b,P,rfl,hb3,fun p m H4 s4 hp hm ep em=>?_⟩;have hw4:=hw3.same s4;have hrow4:=s4 _ _ hrow3;left;refine qb0 (SqL.of hw4.ln) xn ?_;left;refine⟨w.lw,R.e,w.ws,R.ps,rfl,SqL.of hw4.lw,SqL.of (hw4.rs R hrm).par,(hw4.rs R hrm).len.symm,by have:=ok.w6;omega,fun am H5 s5 ham eam=>?_⟩;have hrow5:=s5 _ _ hrow4;left;rename_i pq hpq;obtain⟨ne,dq⟩:=fin p m am pq H4 H5 s4 ep em s5 ham eam hpq;refine jh5 ne ∅ dq ?_;refine⟨_,rfl,?_⟩;left;exact⟨_,_,_,rfl,((t3.trans s4).trans s5).trans (qa5 hpq _)⟩
  |false=>
   rw[hs,show qfh d false=d.w0c from rfl] at hbo;refine jfk ?_;left;refine⟨b,P,rfl,hb3,fun p m H4 s4 hp hm ep em=>?_⟩;have hw4:=hw3.same s4;have hrow4:=s4 _ _ hrow3;left;refine qb0 (SqL.of hw4.ln) xn ?_;left;refine⟨w.lw,R.e,w.ws,R.ps,rfl,SqL.of hw4.lw,SqL.of (hw4.rs R hrm).par,(hw4.rs R hrm).len.symm,by have:=ok.w6;omega,fun am H5 s5 ham eam=>?_⟩;have hrow5:=s5 _ _ hrow4;left;rename_i pq hpq;obtain⟨ne,dq⟩:=fin p m am pq H4 H5 s4 ep em s5 ham eam hpq;refine jh5 ne ∅ dq ?_;refine⟨_,rfl,?_⟩;left;exact⟨_,_,_,rfl,((t3.trans s4).trans s5).trans (qa5 hpq _)⟩
 .rintro σ H' ⟨w1,w2,w3,rfl,sm⟩;left;exact q _ sm
def noT:HO->Bool
 | .tbl _=>false
 |_=>true
structure jah(H H':Hp):Prop where
 k:∀b u,H b=some u->noT u=true->H' b=some u
 f:∀b,H' b=none->H b=none
def qas.sn(s:qas H H'):jah H H':=⟨fun b u e _=>s b u e,fun b e=>s.free e⟩
def jah.trans{H'':Hp}(s:jah H H')(s':jah H' H''):jah H H'':=⟨fun b u e n=>s'.k b u (s.k b u e n) n,fun b e=>s.f b (s'.f b e)⟩
def jm3.sn{d:Ad}{x:Ho}(h:jm3 d H a x)(s:jah H H'):jm3 d H' a x:=⟨let ⟨dx,e⟩:=h.1;⟨dx,s.k _ _ e rfl⟩,s.k _ _ h.2.1 rfl,h.2.2.1,s.k _ _ h.2.2.2.1 rfl,h.2.2.2.2⟩
theorem qel.sn{d:Ad}{t:Addr}(h:qel d H t S)(s:jah H H'):qel d H' t S:=
 ⟨let ⟨dx,e⟩:=h.1;⟨dx,s.k _ _ e rfl⟩,s.k _ _ h.2.1 rfl,s.k _ _ h.2.2.1 rfl,h.2.2.2.1,h.2.2.2.2.1,fun e he=>(h.2.2.2.2.2 e he).sn s⟩
def jaz.sn{le:Addr}(h:jaz H le las es)(s:jah H H'):jaz H' le las es:=⟨s.k _ _ h.top rfl,h.len,fun k a e=>s.k _ _ (h.row k a e) rfl,h.lo⟩
def jbt.sn{nh:Nat}{R:Rw}(h:jbt H nh kd R)(s:jah H H'):jbt H' nh kd R:=⟨s.k _ _ h.row rfl,s.k _ _ h.par rfl,h.len,h.nn,h.il,h.n1⟩
theorem jb9.sn(h:jb9 H kd cs)(s:jah H H'):jb9 H' kd cs:=by
 exact fun c hc=>⟨s.k _ _ (h c hc).1 rfl,(h c hc).2⟩
theorem WAt.sn{w:Wd}(h:WAt H w)(s:jah H H'):WAt H' w:=⟨s.k _ _ h.tup rfl,s.k _ _ h.ln rfl,s.k _ _ h.lw rfl,h.le.sn s,s.k _ _ h.lr rfl,fun R hr=>(h.rs R hr).sn s,s.k _ _ h.la rfl,s.k _ _ h.pa rfl,s.k _ _ h.lc rfl,h.cs.sn s⟩
def jbs.sn{d:Ad}{P:PL}{b:Ob}(h:jbs d H P b)(s:jah H H'):jbs d H' P b:=⟨let ⟨dx,e⟩:=h.obj;⟨dx,s.k _ _ e rfl⟩,s.k _ _ h.amt rfl,h.ad,h.inw,h.il⟩
theorem jeo.sn{K:uT}{d:Ad}{t:Addr}{P:PL}{bs:List Ob}(h:jeo K d H t lh S P bs n)(s:jah H H'):jeo K d H' t lh S P bs n:=⟨h.tr.sn s,h.wf,h.pl,h.nn,h.hs,h.w3,s.k _ _ h.h rfl,h.h63,fun b hb=>(h.ob b hb).sn s⟩
theorem WTr.sn{K:uT}{d:Ad}{w:Wd}{t:Addr}{P:PL}{bs:List Ob}(h:WTr K d H w t lh S P bs)(s:jah H H'):WTr K d H' w t lh S P bs:=⟨h.wd.sn s,h.nm,h.ws,h.es⟩
def jax.sn{x:Gx}(h:jax H x)(s:jah H H'):jax H' x:=⟨s.k _ _ h.tup rfl,s.k _ _ h.dic rfl,h.ad⟩
def jp7{K:uT}{d:Ad}{H:Hp}{Q:VK}{E:XK}{w:Wd}{ls:Addr}{P:PL}{Bs:List Rw}{sw:List Str}(hw:WAt H w)(ok:WOk w)(enm:P.nm=w.nm)(hl:H ls=some (.lst (rwV Bs)))(hB:∀R∈Bs,jbt H (w.es.length+1) w.ws.length R)(b:Bs.length<=100)(psw:sw.Perm w.ws)(qsw:vH sw=true)
  (q:∀(v:V)(H':Hp),qas H H'->(v=.non\/∃(a:Addr)(y z:Str),v=.ref a/\H' a=some (.tup [.str y,.str z]))->Q v H'):wd6 K d [.ref w.wt,.ref ls] H Q E:=
 ⟨w,ls,P,Bs,sw,rfl,hw,ok,enm,hl,hB,b,psw,qsw,fun _ H' s=>q _ H' s (.inl rfl),fun _ _ a H' s _ e=>q _ H' s (.inr ⟨a,_,_,rfl,e⟩)⟩
theorem qc9(l:List Gx):(gxV l).length=l.length:=by unfold gxV;rw[zB]
theorem jj1(l:List Rw):(rwV l).length=l.length:=by unfold rwV;rw[zB]
theorem jnr{l:List Gx}(h:v∈gxV l):∃x∈l,v=.ref x.p:=by
 unfold gxV at h;obtain⟨x,hx,rfl⟩:=zJ.mp h;exact⟨x,hx,rfl⟩
theorem jt3{l:List Gx}:∀{vs:List V},(∀v∈vs,v∈gxV l)->∃ys:List Gx,vs=gxV ys/\∀y∈ys,y∈l
 | [],_=>⟨[],rfl,fun y h=>nomatch h⟩
 |v::vs,h=>by
  obtain⟨ys,e,hy⟩:=jt3 (vs:=vs) fun u m=>h u (.tail _ m);obtain⟨x,hx,rfl⟩:=jnr (h v (.head _));exact⟨x::ys,by rw[e];rfl,fun y m=>by
   cases m with
   |head=>exact hx
   |tail _ m=>exact hy y m⟩
def w6a(K:uT)(d:Ad)(tp:Addr):Sp:=fun vs H Q _=>∃(w:Wd)(lg:Addr)(c:Int)(xs:List Gx)(P:PL)(sw:List Str),vs=[.ref w.wt,.ref lg,.int c]/\WAt H w/\WOk w/\P.nm=w.nm/\sw.Perm w.ws/\vH sw=true/\H lg=some (.lst (gxV xs))/\(∀x∈xs,jax H x)/\xs.length<=30/\w.Rs≠ []/\H tp=some (.tbl (List.toArray []))/\
 ∀(l:Addr)(ys:List Gx)(H':Hp),jah H H'->H l=none->H' l=some (.lst (gxV ys))->(∀y∈ys,jax H' y)->ys.length<=100->Q (.ref l) H'
theorem jt4{tp l':Addr}{ps more:Array uB}(ht:H tp=some (.tbl ps))(hl:H l'=none):jah H (upd (upd H tp (.tbl more)) l' o):=by
 refine⟨fun b u e n=>?_,fun b e=>?_⟩
 .rw[qa7 (qa8 e hl),qa7 (fun z=>by rw[z,ht] at e;cases e;cases n)];exact e
 .by_cases h1:b=l'
  .rw[h1,qa1] at e;cases e
  .by_cases h2:b=tp
   .rw[qa7 h1,h2,qa1] at e;cases e
   .rw[qa7 h1,qa7 h2] at e;exact e
def jj2{tp:Addr}{ta:TA}{σ:L2.St}{H:Hp}{Q:VK} (h:ta σ H fun vs H1=>∃l xs,vs=[.ref l]/\H1 l=some (.lst xs)/\xs.length<64/\H1 tp=some (.tbl (List.toArray []))/\(∀y∈xs,∃q n rest,y=.ref q/\H1 q=some (.tup (.int n::rest)))/\
 ∀(l':Addr)(more:Array uB)(xs':List V),H1 l'=none->l'≠tp->xs'.Perm xs->Q (.ref l') (upd (upd H1 tp (.tbl more)) l' (.lst xs'))):jfp tp ta σ H Q:=h
theorem wbp{P:uX}{w:vG}{K:uT}{mg:Str->Option uB}{base:vN}{d:Ad}(T:Tx K mg d){c tp:Addr}(kin:K.In base)(hns:base.Ns uR mg)(ht:tabIn K "_law_one_more"=some (c,tp))(hC:PySem.W.CodeHd base c tp)(hbm:My.BmAt mg base):
  jab P w K mg base CX0 8 d.w48 d.w3f ["_law_world_here","_law_given","_law_cell_here"] (w6a K d tp):=by
 refine My.Fun.okC T.w9g T.w9f kin hns ht w0g (fun vs H Q E h=>?_) (fun A outer s H vs Q E hr h=>?_)
 .right
 obtain⟨w,lg,c,xs,P,sw,rfl,hw,ok,enm,psw,qsw,hg,hxs,hl30,hne,htb,q⟩:=h;exists (qa2 (qei (pv 0) (qd8 rfl (qaf (qab (i:=3) w0g.nd rfl (uI rfl)) (qaf (qab (i:=4) w0g.nd rfl (uI rfl)) (qaf (qab (i:=5) w0g.nd rfl (uI rfl)) (qaf (qab (i:=6) w0g.nd rfl (uI rfl)) (qaf (qab (i:=7) w0g.nd rfl (uI rfl)) (qaf (qab (i:=8) w0g.nd rfl (uI rfl)) qch))))))))
  (qa2 (qae (i:=9) w0g.nd rfl (uI rfl) (qa9 ((wf8 T).mono ∅) hr rfl T.wfv T.we3.kp T.wfz .nil qah #[pv 0,pv 6]))
  (qa2 (qbg (qb5 (qan jdw (pv 9) qcm (qaq _)) (qa6 (qae (i:=9) w0g.nd rfl (uI rfl) (qc7 #[qal qaj (pv 3) qa4 nofun,qal qaj (pv 4) qa4 nofun]))) qao))
  (qa2 (qae (i:=10) w0g.nd rfl (uI rfl) (qal qaj (pv 6) (qa9 ((w09 T).mono ∅) hr rfl T.w18 T.w15.kp T.w1b .nil qah #[pv 2,qa4,qai qat rfl T.w29 vF #[pv 6]]) nofun))
  (qa2 (qae (i:=11) w0g.nd rfl (uI rfl) (qc7 #[~~~10,qal qaj (pv 3) (~~~10) nofun,qa9 ((w4n T).mono ∅) hr rfl T.w6g T.w5w.kp T.w6i .nil qah #[pv 4,~~~10],~~~9,~~~9]))
  (qa6 (qak (jgk hr rfl rfl hC hbm ⟨fun _ _ _ _=>rfl,rfl,rfl,rfl,rfl,∅,∅⟩ rfl T.w5s #[qam jhk (pv 1) (qbl #[pv 11])])))))))),[sr w.wt,sr lg,some (.int c),none,none,none,none,none,none,none,none,none];have htp:=hw.tup;have r30:=ok.r30;left;refine jp7 hw ok enm hw.lr hw.rs #[] psw qsw fun v H1 s1 hv=>?_;have hw1:=hw.same s1;clear htp;have x0:∃z,atI (w.nm.map V.str) 0=some (.str z):=by
  have e:0<w.nm.length:=by rw[ok.nms.len];omega
  exact⟨w.nm[0],qar (j:=0) (by rw[zC,zA e];rfl)⟩
 have x1:∃z,atI (w.ws.map V.str) 0=some (.str z):=by
  have e:0<w.ws.length:=ok.w1;exact⟨w.ws[0],qar (j:=0) (by rw[zC,zA e];rfl)⟩
 obtain⟨z0,x0⟩:=x0;obtain⟨z1,x1⟩:=x1;left;refine qce (fun σ' H5=>∃(pl:Addr)(y z:Str),σ'=[sr w.wt,sr lg,some (V.int c),sr w.ln,sr w.lw,sr w.le,sr w.lr,sr w.la,sr w.lc,sr pl,none,none]/\qas H H5/\H5 pl=some (.tup [.str y,.str z])) ?_ ?_
 .rcases hv with rfl|⟨pa,y,z,rfl,ev⟩
  .left;refine qb0 (SqL.of hw1.ln) x0 ?_;left;refine qb0 (SqL.of hw1.lw) x1 ?_;left;rename_i pp hpp;exact⟨pp,_,_,rfl,s1.trans (qa5 hpp _),qa1⟩
  .left;exact⟨pa,y,z,rfl,s1,ev⟩
 rintro σ' H5 ⟨pl,y,z,rfl,s5,epl⟩;have hw5:=hw.same s5;have hlr5:=hw5.lr;have hlen:0<w.Rs.length:=cE.mpr hne;clear hw1 s1 hv;left;refine qbo ∅ ∅ (by rw[jj1];omega) (by rw[jj1];omega) fun r r0 r1=>?_;obtain⟨k,rfl⟩:=vL r0;have hk:k<w.Rs.length:=by rw[jj1] at r1;omega
 clear r0 r1;left;refine qb0 (SqL.of hlr5) (qar (j:=k) (by unfold rwV;rw[zC,zA hk];rfl)) ?_;have hR:=hw5.rs _ (zL hk);generalize w.Rs[k]=R at*;have hrow:=hR.row;have xn:∃z,atI (w.nm.map V.str) ((R.i:Nat):Int)=some (.str z):=by
  have e:R.i<w.nm.length:=by rw[ok.nms.len];exact hR.il
  exact⟨w.nm[R.i],qar (by rw[zC,zA e];rfl)⟩
 obtain⟨zn,xn⟩:=xn;generalize hri:((R.i:Nat):Int)=ri at*;left;refine qb0 (SqL.of hw5.ln) xn ?_;left;refine⟨w.lw,R.e,w.ws,R.ps,rfl,SqL.of hw5.lw,SqL.of hR.par,hR.len.symm,by have:=ok.w6;omega,fun am H6 s6 ham eam=>?_⟩;have epl6:=s6 _ _ epl;have hrow6:=s6 _ _ hrow;have hg6:=s6 _ _ (s5 _ _ hg);have htb6:=s6 _ _ (s5 _ _ htb);have hxs6:∀x∈xs,jax H6 x:=fun x hx=>((hxs x hx).same s5).same s6;have t6:=s5.trans s6;clear hrow epl hw5 hlr5;left;rename_i mo hmo;refine jj2 ?_;have s7:=qa5 hmo (.tup [.int R.n,.str zn,.ref am,.str y,.str z]);have emo:upd H6 mo (.tup [.int R.n,.str zn,.ref am,.str y,.str z]) mo=some (.tup [.int R.n,.str zn,.ref am,.str y,.str z]):=qa1;have eam7:=s7 _ _ eam;have hg7:=s7 _ _ hg6;have htb7:=s7 _ _ htb6;have hxs7:∀x∈xs,jax _ x:=fun x hx=>(hxs6 x hx).same s7;have t7:=t6.trans s7;generalize upd H6 mo (.tup [.int R.n,.str zn,.ref am,.str y,.str z])=H7 at*;have hX:jax H7 ⟨mo,am,R.n,zn,tdK (w.ws.zip R.ps),tdF (w.ws.zip R.ps),y,z⟩:=⟨emo,eam7,qe6 _⟩;clear hrow6 epl6 hmo ham eam hg6 htb6 hxs6 hR s6 s5 t6 s7;left;rename_i l1 hl1;refine jon (by rw[qa7 (qa8 hg7 hl1)];exact hg7) qa1 (by rw[qc9,wJ];show xs.length+1<=_;omega) fun l2 hl2=>?_;have s8:=(qa5 hl1 (.lst [V.ref mo])).trans (qa5 hl2 (.lst (gxV xs++[V.ref mo])));have e2:upd (upd H7 l1 (.lst [V.ref mo])) l2 (.lst (gxV xs++[V.ref mo])) l2=some (.lst (gxV (xs++[⟨mo,am,R.n,zn,tdK (w.ws.zip R.ps),tdF (w.ws.zip R.ps),y,z⟩]))):=by rw[qa1];unfold gxV;rw[zE];rfl
 generalize upd (upd H7 l1 (.lst [V.ref mo])) l2 (.lst (gxV xs++[V.ref mo]))=H8 at*;have hall:∀x∈xs++[⟨mo,am,R.n,zn,tdK (w.ws.zip R.ps),tdF (w.ws.zip R.ps),y,z⟩],jax H8 x:=fun x hx=>by
  rcases zP.mp hx with h|h
  .exact(hxs7 x h).same s8
  .rw[zG.mp h];exact hX.same s8
 have hlen8:(xs++[(⟨mo,am,R.n,zn,tdK (w.ws.zip R.ps),tdF (w.ws.zip R.ps),y,z⟩:Gx)]).length=xs.length+1:=by rw[zF];rfl
 generalize xs++[(⟨mo,am,R.n,zn,tdK (w.ws.zip R.ps),tdF (w.ws.zip R.ps),y,z⟩:Gx)]=zs at*;refine⟨l2,gxV zs,rfl,e2,by rw[qc9];omega,s8 _ _ htb7,fun v hv=>?_,fun l' more xs' hl' _ hp=>?_⟩
 .obtain⟨x,hx,rfl⟩:=jnr hv;exact⟨x.p,x.n,_,rfl,(hall x hx).tup⟩
 .obtain⟨ys,rfl,hys⟩:=jt3 (l:=zs) fun v hv=>hp.mem_iff.mp hv;have sn:=jt4 (more:=more) (o:=.lst (gxV ys)) (s8 _ _ htb7) hl';have t8:=t7.trans s8;exact q l' ys _ (jah.trans (qas.sn t8) sn) (t8.free hl') qa1 (fun y hy=>(hall y (hys y hy)).sn sn) (by have:=hp.length_eq;rw[qc9,qc9] at this;omega)
def jxz(x y:V)(H:Hp)(Q:VK):Prop:=∃a o,x=.ref a/\jb6 H a y o/\Q (.bl (!o.isSome)) H
def jwo{ty td:TE}(h:ty σ H fun y H1=>td σ H1 fun x H2=>jxz x y H2 Q):jhu ty td σ H Q:=h
def jt5{k:List (Key×V)}(e:H a=some (.dK k))(h:∀b,Q (.bl b) H):jxz (.ref a) (.str z) H Q:=⟨a,_,rfl,jb6.k (k:=uV z) e,h _⟩
def w7o(K:uT)(d:Ad):Sp:=fun vs H Q _=>∃(w:Wd)(am:Addr)(c:Int)(k:List (Key×V))(f:Str->Option Int),vs=[.ref w.wt,.ref am,.int c]/\WAt H w/\WOk w/\H am=some (.dK k)/\AD k f/\k.length<=100/\
 ∀(m:Addr)(k':List (Key×V))(f':Str->Option Int)(H':Hp),qas H H'->H m=none->H' m=some (.dK k')->AD k' f'->Q (.ref m) H'
structure OaJ(H:Hp)(w:Wd)(am:Addr)(c r:Int)(m:Addr)(z:Str)(n:Nat)(σ:L2.St)(H2:Hp)(k:List (Key×V))(f:Str->Option Int):Prop where
 st:σ=[sr w.wt,sr am,some (V.int c),sr m,some (V.int r),some (V.str z)]
 sm:qas H H2
 e:H2 m=some (.dK k)
 ad:AD k f
 n:k.length<=n
include T in
theorem w7p:jab P w K mg base CX0 2 d.w3g d.w2m ["_law_world_here","_law_amounts","_law_cell_here"] (w7o K d):=by
 exists T.w4x.ok w1n
 .right
 obtain⟨w,am,c,k,f,rfl,hw,ok,ha,hA,k100,q⟩:=h;exists (qa2 (qae (i:=3) w1n.nd rfl (uI rfl) (qaz qc4 rfl T.w7e wG #[pv 1]))
  (qa2 (qae (i:=4) w1n.nd rfl (uI rfl) (qa9 ((w09 T).mono ∅) hr rfl T.w18 T.w15.kp T.w1b .nil qah #[pv 2,qa4,qa4]))
  (qa2 (qae (i:=5) w1n.nd rfl (uI rfl) (qal qaj (~~~0) (qa9 ((w09 T).mono ∅) hr rfl T.w18 T.w15.kp T.w1b .nil qah #[pv 2,qa4,qai qat rfl T.w29 vF #[~~~0]]) nofun))
  (qa2 (qbg (qb5 (qan qcc (pv 4) qa4 (qaq _)) (qa6 (qcv (qc3 hr) (pv 3) (pv 5) (qam qax (jfa (qc3 hr) (pv 3) (pv 5) qa4 ⟨rfl,rfl,rfl,rfl⟩) qa4) rfl)) qao))
  (qa2 (qbg (qb5 (qan qcc (pv 4) qa4 (qaq _)) (qa6 (qb2 (qdn dI eI PySem.F.type_dict_pop jlb (pv 3) #[pv 5,qcm]))) qao))
  (qa2 (qbg (qb5 (PW.pt (jgw (qan qcc (pv 4) qa4 (qaq _)) (jdt (jqh (jhv (qc3 hr) (pv 5) (pv 3)))))) (qa6 (qcv (qc3 hr) (pv 3) (pv 5) qa4 rfl)) qao))
  (qa2 (qbg (qb5 (PW.pt (jgx (qan qcc (pv 4) qa4 (qaq _)) (jev (qan (jc2 (hu8 hr)) (pv 3) (pv 1) (qaq _))))) (qa6 (qcv (qc3 hr) (pv 3) (qam jd3 (pv 5) qcl) qa4 rfl)) qao))
  (qa6 (qak (pv 3)))))))))),[sr w.wt,sr am,some (.int c),none,none,none];have htp:=hw.tup;have hlw:=hw.lw;have w1:=ok.w1;have w6:=ok.w6;left;rename_i m hm;have s1:=qa5 hm (.dK k);have em:upd H m (.dK k) m=some (.dK k):=qa1;generalize upd H m (.dK k)=H1 at*;have htp1:=s1 _ _ htp;have hlw1:=s1 _ _ hlw;clear htp hlw;refine qbo ∅ ∅ ∅ ∅ fun r r0 r1=>?_;clear r0 r1;left;refine qbo ∅ ∅ (by rw[zB];omega) (by rw[zB];omega) fun j j0 j1=>?_;obtain⟨j,rfl⟩:=vL j0;have hj:j<w.ws.length:=by rw[zB] at j1;omega
 clear j0 j1;left;refine qb0 (SqL.of hlw1) (qar (j:=j) (by rw[zC,zA hj];rfl)) ?_;have zg:=ok.wsn.good _ (zL hj);generalize w.ws[j]=z at*;left;refine qce (fun σ' H2=>∃k' f',OaJ H w am c r m z 101 σ' H2 k' f') ?_ ?_
 .left;by_cases c0:r=0
  .rw[iC c0];left;exact⟨_,_,rfl,qaw s1 hm,qa1,hA.put z _,by have:=qbd k (uV z:Key) (V.int (gN f z+1));omega⟩
  .rw[iD c0];left;exact⟨k,f,rfl,s1,em,hA,#[]⟩
 rintro σ' H2 ⟨k2,f2,rfl,s2,e2,A2,n2⟩;left;refine qce (fun σ' H2=>∃k' f',OaJ H w am c r m z 101 σ' H2 k' f') ?_ ?_
 .left;by_cases c0:r=1
  .rw[iC c0];left;refine jo7 e2 (fun _=>?_) fun v _=>?_
   .left;exact⟨k2,f2,rfl,s2,e2,A2,#[]⟩
   .left;exact⟨_,_,rfl,qaw s2 hm,qa1,A2.drop z,by have:=qgl k2 (uV z:Key);omega⟩
  .rw[iD c0];left;exact⟨k2,f2,rfl,s2,e2,A2,#[]⟩
 rintro σ' H3 ⟨k3,f3,rfl,s3,e3,A3,n3⟩;left;refine qce (fun σ' H2=>∃k' f',OaJ H w am c r m z 102 σ' H2 k' f') ?_ ?_
 .left;by_cases c0:r=2
  .rw[iC c0];left;refine jwo ?_;left;refine jt5 e3 fun b=>?_;refine⟨_,rfl,?_⟩
   cases b with
   |true=>
    left;exact⟨_,_,rfl,qaw s3 hm,qa1,A3.put z _,by have:=qbd k3 (uV z:Key) (V.int 0);omega⟩
   |false=>
    left;exact⟨k3,f3,rfl,s3,e3,A3,#[]⟩
  .rw[iD c0];left;exact⟨k3,f3,rfl,s3,e3,A3,#[]⟩
 rintro σ' H4 ⟨k4,f4,rfl,s4,e4,A4,n4⟩;have ha4:=s4 _ _ ha;have nem:m≠am:=fun e=>by rw[e,ha] at hm;cases hm
 left;refine qce (fun σ' H2=>∃k' f',OaJ H w am c r m z 103 σ' H2 k' f') ?_ ?_
 .left;by_cases c0:r=3
  .rw[iC c0];left;refine jc1 (by rw[wJ];have:=(qgj zg).2.1;show _+1<=_;omega) ?_;left;exact⟨_,_,rfl,qaw s4 hm,qa1,A4.put _ _,by have:=qbd k4 (uV (z++"x"):Key) (V.int 1);omega⟩
  .rw[iD c0];left;refine jgh nem ∅ (DEq.dd (n:=0) (.inl e4) (.inl ha4) nem A4.flat hA.flat) ?_;refine⟨_,rfl,?_⟩;generalize (k4.length==k.length && k4.all fun p=>(qbx k p.1).elim false (eqV p.2))=b
   cases b with
   |true=>
    left;refine jc1 (by rw[wJ];have:=(qgj zg).2.1;show _+1<=_;omega) ?_;left;exact⟨_,_,rfl,qaw s4 hm,qa1,A4.put _ _,by have:=qbd k4 (uV (z++"x"):Key) (V.int 1);omega⟩
   |false=>
    left;exact⟨k4,f4,rfl,s4,e4,A4,#[]⟩
 rintro σ' H5 ⟨k5,f5,rfl,s5,e5,A5,n5⟩;left;exact q m k5 f5 _ s5 hm e5 A5
def qeh{K:uT}{ys:List V}(e:SqT K H a xs)(e':SqT K H b ys)(nx:xs≠ [])(ny:ys≠ [])(hz:xs.length+ys.length<=100)(h:∀p,H p=none->Q (.ref p) (upd H p (.tup (xs++ys)))):jq1 K (.ref a) (.ref b) H Q:=
 ⟨a,b,xs,ys,rfl,rfl,e,e',nx,by rw[wJ];omega,fun z=>absurd z ny,fun _=>h⟩
def qeg{K:uT}{v0 v1 v2 v3 v4:V}{lo hi:Option Int}{ys:List V}(e:SqT K H a [v0,v1,v2,v3,v4])(ne:¬(HT.sIx 5 0 lo=0/\HT.sIx 5 5 hi=5))(hc:jhf [v0,v1,v2,v3,v4] lo hi=ys)(h:∀p,H p=none->Q (.ref p) (upd H p (.tup ys))):jul K (.ref a) lo hi H Q:=jv8 e ne (by rw[hc];exact h)
def jax.up{x:Gx}(h:jax H x)(e:H l=some (.lst xs)):jax (upd H l o) x:=h.put e
theorem jt6(ys:List Gx)(k:Nat)(X:Gx):(gxV ys).set k (.ref X.p)=gxV (ys.set k X):=by unfold gxV;rw[List.map_set]
theorem jf6:∀(ys:List Gx)(k:Nat),(gxV ys).eraseIdx k=gxV (ys.eraseIdx k)
 | [],_=>rfl
 |_::_,0=>rfl
 |y::ys,k+1=>congrArg (V.ref y.p::·) (jf6 ys k)
inductive jet(K:uT)(d:Ad)(vs:List V)(H:Hp)(Q:VK)(E:XK):Prop
 |mk(w:Wd)(lg:Addr)(c:Int)(hs wr:Str)(xs:List Gx)(_:vs=[.ref w.wt,.ref lg,.int c,.str hs,.str wr])(_:WAt H w)(_:WOk w)(_:H lg=some (.lst (gxV xs)))(_:(∀x∈xs,jax H x/\x.k.length<=100))(_:xs≠ [])(_:xs.length<=30)(_:∀(l:Addr)(ys:List Gx)(H':Hp),qas H H'->H l=none->H' l=some (.lst (gxV ys))->(∀y∈ys,jax H' y)->ys.length<=100->Q (.ref l) H')
structure OeI(H:Hp)(l:Addr)(xs:List Gx)(r n:Int)(H2:Hp)(ys:List Gx):Prop where
 sm:qas H H2
 e:H2 l=some (.lst (gxV ys))
 al:∀y∈ys,jax H2 y
 un:n<=r->ys=xs
 ln:ys.length<=64
def OeI.up{xs:List Gx}{n m:Int}(h:OeI H l xs r n H2 ys)(le:n<=m):OeI H l xs r m H2 ys:=⟨h.sm,h.e,h.al,fun q=>h.un #[],h.ln⟩
def OeI.put{xs:List Gx}{n m:Int}{H3:Hp}{zs:List Gx}(h:OeI H l xs r n H2 ys)(hl:H l=none)(s:qas H2 H3)(hz:∀y∈zs,jax H3 y)(hm:r<m)(hn:zs.length<=64):OeI H l xs r m (upd H3 l (.lst (gxV zs))) zs:=
 ⟨qaw (h.sm.trans s) hl,qa1,fun y hy=>(hz y hy).up (s _ _ h.e),fun q=>by omega,hn⟩
theorem OeI.set{xs:List Gx}{n m:Int}{H3:Hp}{k:Nat}{X:Gx}(h:OeI H l xs r n H2 ys)(hl:H l=none)(s:qas H2 H3)(hX:jax H3 X)(hm:r<m):OeI H l xs r m (upd H3 l (.lst ((gxV ys).set k (.ref X.p)))) (ys.set k X):=by
 rw[jt6];exact h.put hl s (fun y hy=>by
  rcases List.mem_or_eq_of_mem_set hy with z|z
  .exact(h.al y z).same s
  .rw[z];exact hX) hm (by rw[cB];exact h.ln)
include T in
theorem wcj:jab P w K mg base CX0 4 d.w6t d.w62 ["_law_world_here","_law_given","_law_cell_here","_law_house","_law_ware"] (jet K d):=by
 exists T.w9p.ok w3c
 .right
 obtain⟨w,lg,c,hs,wr,xs,rfl,hw,ok,hg,hxs,hne,hl30,q⟩:=h;exists (qa2 (qae (i:=5) w3c.nd rfl (uI rfl) (qaz qcg rfl T.w8w wP #[pv 1]))
  (qa2 (qae (i:=6) w3c.nd rfl (uI rfl) (qa9 ((w09 T).mono ∅) hr rfl T.w18 T.w15.kp T.w1b .nil qah #[pv 2,qa4,qa4]))
  (qa2 (qae (i:=7) w3c.nd rfl (uI rfl) (qa9 ((w09 T).mono ∅) hr rfl T.w18 T.w15.kp T.w1b .nil qah #[pv 2,qa4,qai qat rfl T.w29 vF #[pv 5]]))
  (qa2 (qae (i:=8) w3c.nd rfl (uI rfl) (qal qaj (pv 5) (pv 7) nofun))
  (qa2 (qbg (qb5 (qan qcc (pv 6) qa4 (qaq _)) (qa6 (qb2 (qdn vD PySem.F.slot_list_pop PySem.F.type_list_pop jkj (pv 5) #[pv 7]))) qao))
  (qa2 (qbg (qb5 (qan qcc (pv 6) qa4 (qaq _)) (qa6 (qb2 (qdn vD PySem.F.slot_list_insert PySem.F.type_list_insert ji2 (pv 5) #[pv 7,pv 8]))) qao))
  (qa2 (qbg (qb5 (qan qcc (pv 6) qa4 (qaq _)) (qa6 (qb2 (jmb vD PySem.F.slot_list_reverse PySem.F.type_list_reverse jgg (pv 5)))) qao))
  (qa2 (qbg (qb5 (qan qcc (pv 6) qa4 (qaq _)) (qa6 (qdq (pv 5) (pv 7) (qam qdc (qc7 #[qam qax (qam qax (~~~8) qa4) (qa9 ((w09 T).mono ∅) hr rfl T.w18 T.w15.kp T.w1b .nil qah #[pv 2,qa4,qa4])]) (qcf qef (pv 8) (qcw qa4) qcx)) rfl)) qao))
  (qa2 (qbg (qb5 (qan qcc (pv 6) qa4 (qaq _)) (qa6 (qdq (pv 5) (pv 7) (qam qdc (qc7 #[~~~8,pv 3]) (qcf qef (pv 8) (qcw qa4) qcx)) rfl)) qao))
  (qa2 (qbg (qb5 (qan qcc (pv 6) qa4 (qaq _)) (qa6 (qdq (pv 5) (pv 7) (qam qdc (qam qdc (qcf qef (pv 8) qcx (qcw qa4)) (qc7 #[qa9 ((w7p T).mono ∅) hr rfl T.w80 T.w4x.kp T.w8a .nil qah #[pv 0,~~~8,pv 2]])) (qcf qef (pv 8) (qcw qa4) qcx)) rfl)) qao))
  (qa2 (qbg (qb5 (qan qcc (pv 6) qa4 (qaq _)) (qa6 (qdq (pv 5) (pv 7) (qam qdc (qcf qef (pv 8) qcx (qcw qa4)) (qc7 #[pv 3,~~~8])) rfl)) qao))
  (qa2 (qbg (qb5 (qan qcc (pv 6) qa4 (qaq _)) (qa6 (qdq (pv 5) (pv 7) (qam qdc (qcf qef (pv 8) qcx (qcw qa4)) (qc7 #[pv 4])) rfl)) qao))
  (qa6 (qak (pv 5))))))))))))))),[sr w.wt,sr lg,some (.int c),some (.str hs),some (.str wr),none,none,none,none];left;refine qd6 (SqL.of hg) fun l hl=>?_;have s1:=qa5 hl (.lst (gxV xs));have el:upd H l (.lst (gxV xs)) l=some (.lst (gxV xs)):=qa1;have J0:OeI H l xs 0 0 (upd H l (.lst (gxV xs))) xs:=⟨s1,el,fun y hy=>(hxs y hy).1.same s1,fun _=>rfl,#[]⟩;generalize upd H l (.lst (gxV xs))=H1 at*;have hlen:0<xs.length:=cE.mpr hne;left;refine qbo ∅ ∅ ∅ ∅ fun r r0 r1=>?_;have J1:OeI H l xs r 0 H1 xs:=⟨J0.sm,J0.e,J0.al,fun _=>rfl,J0.ln⟩;clear J0;left;refine qbo ∅ ∅ (by rw[qc9];omega) (by rw[qc9];omega) fun j j0 j1=>?_;obtain⟨k,rfl⟩:=vL j0;have hk:k<xs.length:=by rw[qc9] at j1;omega
 clear j0 j1;left;have hat:(gxV xs)[k]?=some (.ref (xs[k]).p):=by unfold gxV;rw[zC,zA hk];rfl
 refine qb0 (SqL.of el) (qar (j:=k) hat) ?_;have hxm:=zL hk;have hX:=(hxs _ hxm).1;have hX100:=(hxs _ hxm).2;generalize xs[k]=x at*;clear r0 el s1;left;refine qce (fun σ' H2=>∃ys,σ'=[sr w.wt,sr lg,some (V.int c),some (V.str hs),some (V.str wr),sr l,some (V.int r),some (V.int (k:Int)),sr x.p]/\OeI H l xs r 1 H2 ys) ?_ ?_
 .left;by_cases c0:r=0
  .rw[iC c0];have e1:=J1.e;left;refine jo1 J1.e hat (by rw[qc9];omega) ?_;left;exact⟨xs.eraseIdx k,rfl,by
    rw[show(gxV xs).eraseIdx k=gxV (xs.eraseIdx k) from jf6 xs k];exact J1.put hl (qas.refl _) (fun y hy=>J1.al y (List.mem_of_mem_eraseIdx hy)) #[] (vP (List.length_eraseIdx_le _ _) J1.ln)⟩
  .rw[iD c0];left;exact⟨xs,rfl,J1.up #[]⟩
 rintro σ' H2 ⟨ys2,rfl,J2⟩;left;refine qce (fun σ' H2=>∃ys,σ'=[sr w.wt,sr lg,some (V.int c),some (V.str hs),some (V.str wr),sr l,some (V.int r),some (V.int (k:Int)),sr x.p]/\OeI H l xs r 2 H2 ys) ?_ ?_
 .left;by_cases c0:r=1
  .rw[iC c0];have e2:=J2.e;obtain rfl:=J2.un #[];left;refine jlc e2 (by rw[qc9];omega) #[] ?_;left;exact⟨ys2.take k++x::ys2.drop k,rfl,by
    rw[show(gxV ys2).take k++V.ref x.p ::(gxV ys2).drop k=gxV (ys2.take k++x::ys2.drop k) from by unfold gxV;rw[zE,zT,List.map_take,List.map_drop]];exact J2.put hl (qas.refl _) (fun y hy=>by
     rcases zP.mp hy with z|z
     .exact J2.al y (yL z)
     .rcases zO.mp z with z|z
      .rw[z];exact hX.same J2.sm
      .exact J2.al y (List.mem_of_mem_drop z)) #[] (by rw[zF,zK,zS,bQ];omega)⟩
  .rw[iD c0];left;exact⟨ys2,rfl,J2.up #[]⟩
 rintro σ' H3 ⟨ys3,rfl,J3⟩;left;refine qce (fun σ' H2=>∃ys,σ'=[sr w.wt,sr lg,some (V.int c),some (V.str hs),some (V.str wr),sr l,some (V.int r),some (V.int (k:Int)),sr x.p]/\OeI H l xs r 3 H2 ys) ?_ ?_
 .left;by_cases c0:r=2
  .rw[iC c0];have e3:=J3.e;left;refine jwf e3 ?_;left;exact⟨ys3.reverse,rfl,by
    rw[show(gxV ys3).reverse=gxV ys3.reverse from by unfold gxV;rw[List.map_reverse]];exact J3.put hl (qas.refl _) (fun y hy=>J3.al y (List.mem_reverse.mp hy)) #[] (by rw[List.length_reverse];exact J3.ln)⟩
  .rw[iD c0];left;exact⟨ys3,rfl,J3.up #[]⟩
 rintro σ' H4 ⟨ys4,rfl,J4⟩;left;refine qce (fun σ' H2=>∃ys,σ'=[sr w.wt,sr lg,some (V.int c),some (V.str hs),some (V.str wr),sr l,some (V.int r),some (V.int (k:Int)),sr x.p]/\OeI H l xs r 4 H2 ys) ?_ ?_
 .left;by_cases c0:r=3
  .rw[iC c0];obtain rfl:=J4.un #[];have hX4:=hX.same J4.sm;have ht4:=hX4.tup;left;refine qbo ∅ ∅ ∅ ∅ fun i _ _=>?_;left;rename_i p1 hp1;refine qeg (ys:=[.str x.z,.ref x.m,.str x.a,.str x.b]) (SqT.of (by walk_at"heap")) ∅ rfl fun p2 hp2=>?_;refine qeh (SqT.of (by walk_at"heap")) (SqT.of (by walk_at"heap")) (by simp) (by simp) (by simp) fun p3 hp3=>?_;have s4:=((qa5 hp1 (.tup [.int (x.n+1+i)])).trans (qa5 hp2 (.tup [.str x.z,.ref x.m,.str x.a,.str x.b]))).trans (qa5 hp3 (.tup ([.int (x.n+1+i)]++[.str x.z,.ref x.m,.str x.a,.str x.b])));have e4:=s4 _ _ J4.e;left;refine jd6 e4 (by rw[qc9];exact hk) ?_ rfl;exact⟨_,rfl,J4.set (X:=⟨p3,x.m,x.n+1+i,x.z,x.k,x.f,x.a,x.b⟩) hl s4 ⟨qa1,s4 _ _ hX4.dic,hX4.ad⟩ #[]⟩
  .rw[iD c0];left;exact⟨ys4,rfl,J4.up #[]⟩
 rintro σ' H5 ⟨ys5,rfl,J5⟩;left;refine qce (fun σ' H2=>∃ys,σ'=[sr w.wt,sr lg,some (V.int c),some (V.str hs),some (V.str wr),sr l,some (V.int r),some (V.int (k:Int)),sr x.p]/\OeI H l xs r 5 H2 ys) ?_ ?_
 .left;by_cases c0:r=4
  .rw[iC c0];obtain rfl:=J5.un #[];have hX4:=hX.same J5.sm;have ht4:=hX4.tup;left;rename_i p1 hp1;refine qeg (ys:=[.ref x.m,.str x.a,.str x.b]) (SqT.of (by walk_at"heap")) ∅ rfl fun p2 hp2=>?_;refine qeh (SqT.of (by walk_at"heap")) (SqT.of (by walk_at"heap")) (by simp) (by simp) (by simp) fun p3 hp3=>?_;have s4:=((qa5 hp1 (.tup [.int x.n,.str hs])).trans (qa5 hp2 (.tup [.ref x.m,.str x.a,.str x.b]))).trans (qa5 hp3 (.tup ([.int x.n,.str hs]++[.ref x.m,.str x.a,.str x.b])));have e4:=s4 _ _ J5.e;left;refine jd6 e4 (by rw[qc9];exact hk) ?_ rfl;exact⟨_,rfl,J5.set (X:=⟨p3,x.m,x.n,hs,x.k,x.f,x.a,x.b⟩) hl s4 ⟨qa1,s4 _ _ hX4.dic,hX4.ad⟩ #[]⟩
  .rw[iD c0];left;exact⟨ys5,rfl,J5.up #[]⟩
 rintro σ' H6 ⟨ys6,rfl,J6⟩;left;refine qce (fun σ' H2=>∃ys,σ'=[sr w.wt,sr lg,some (V.int c),some (V.str hs),some (V.str wr),sr l,some (V.int r),some (V.int (k:Int)),sr x.p]/\OeI H l xs r 6 H2 ys) ?_ ?_
 .left;by_cases c0:r=5
  .rw[iC c0];obtain rfl:=J6.un #[];have hX4:=hX.same J6.sm;have ht4:=hX4.tup;left;refine qeg (ys:=[.int x.n,.str x.z]) (SqT.of ht4) ∅ rfl fun p1 hp1=>?_;have s1:=qa5 hp1 (.tup [.int x.n,.str x.z]);have e1:upd H6 p1 (.tup [.int x.n,.str x.z]) p1=some (.tup [.int x.n,.str x.z]):=qa1;have ht5:=s1 _ _ ht4;generalize upd H6 p1 (.tup [.int x.n,.str x.z])=H61 at*;have hX5:=hX4.same s1;left;refine⟨w,x.m,c,x.k,x.f,rfl,(hw.same J6.sm).same s1,ok,hX5.dic,hX5.ad,hX100,fun mm k' f' H7 s7 _ emm A'=>?_⟩;have e17:=s7 _ _ e1;have ht7:=s7 _ _ ht5;left;rename_i p2 hp2;refine qeh (SqT.of (by walk_at"heap")) (SqT.of (by walk_at"heap")) (by simp) (by simp) (by simp) fun p3 hp3=>?_;left;refine qeg (ys:=[.str x.a,.str x.b]) (SqT.of (by walk_at"heap")) ∅ rfl fun p4 hp4=>?_;refine qeh (SqT.of (by walk_at"heap")) (SqT.of (by walk_at"heap")) (by simp) (by simp) (by simp) fun p5 hp5=>?_;have s8:=(((qa5 hp2 (.tup [.ref mm])).trans (qa5 hp3 (.tup ([.int x.n,.str x.z]++[.ref mm])))).trans (qa5 hp4 (.tup [.str x.a,.str x.b]))).trans (qa5 hp5 (.tup ([.int x.n,.str x.z]++[.ref mm]++[.str x.a,.str x.b])));have t8:=(s1.trans s7).trans s8;have e4:=t8 _ _ J6.e;left;refine jd6 e4 (by rw[qc9];exact hk) ?_ rfl;exact⟨_,rfl,J6.set (X:=⟨p5,mm,x.n,x.z,k',f',x.a,x.b⟩) hl t8 ⟨qa1,s8 _ _ emm,A'⟩ #[]⟩
  .rw[iD c0];left;exact⟨ys6,rfl,J6.up #[]⟩
 rintro σ' H7 ⟨ys7,rfl,J7⟩;left;refine qce (fun σ' H2=>∃ys,σ'=[sr w.wt,sr lg,some (V.int c),some (V.str hs),some (V.str wr),sr l,some (V.int r),some (V.int (k:Int)),sr x.p]/\OeI H l xs r 7 H2 ys) ?_ ?_
 .left;by_cases c0:r=6
  .rw[iC c0];obtain rfl:=J7.un #[];have hX4:=hX.same J7.sm;have ht4:=hX4.tup;left;refine qeg (ys:=[.int x.n,.str x.z,.ref x.m]) (SqT.of ht4) ∅ rfl fun p1 hp1=>?_;have ht5:upd H7 p1 (.tup [.int x.n,.str x.z,.ref x.m]) x.p=some (.tup [.int x.n,.str x.z,.ref x.m,.str x.a,.str x.b]):=by walk_at"heap"
   left;rename_i p2 hp2;refine qeh (SqT.of (by walk_at"heap")) (SqT.of (by walk_at"heap")) (by simp) (by simp) (by simp) fun p3 hp3=>?_;have s4:=((qa5 hp1 (.tup [.int x.n,.str x.z,.ref x.m])).trans (qa5 hp2 (.tup [.str hs,.str x.b]))).trans (qa5 hp3 (.tup ([.int x.n,.str x.z,.ref x.m]++[.str hs,.str x.b])));have e4:=s4 _ _ J7.e;left;refine jd6 e4 (by rw[qc9];exact hk) ?_ rfl;exact⟨_,rfl,J7.set (X:=⟨p3,x.m,x.n,x.z,x.k,x.f,hs,x.b⟩) hl s4 ⟨qa1,s4 _ _ hX4.dic,hX4.ad⟩ #[]⟩
  .rw[iD c0];left;exact⟨ys7,rfl,J7.up #[]⟩
 rintro σ' H8 ⟨ys8,rfl,J8⟩;left;refine qce (fun σ' H2=>∃ys,σ'=[sr w.wt,sr lg,some (V.int c),some (V.str hs),some (V.str wr),sr l,some (V.int r),some (V.int (k:Int)),sr x.p]/\OeI H l xs r 8 H2 ys) ?_ ?_
 .left;by_cases c0:r=7
  .rw[iC c0];obtain rfl:=J8.un #[];have hX4:=hX.same J8.sm;have ht4:=hX4.tup;left;refine qeg (ys:=[.int x.n,.str x.z,.ref x.m,.str x.a]) (SqT.of ht4) ∅ rfl fun p1 hp1=>?_;left;rename_i p2 hp2;refine qeh (SqT.of (by walk_at"heap")) (SqT.of (by walk_at"heap")) (by simp) (by simp) (by simp) fun p3 hp3=>?_;have s4:=((qa5 hp1 (.tup [.int x.n,.str x.z,.ref x.m,.str x.a])).trans (qa5 hp2 (.tup [.str wr]))).trans (qa5 hp3 (.tup ([.int x.n,.str x.z,.ref x.m,.str x.a]++[.str wr])));have e4:=s4 _ _ J8.e;left;refine jd6 e4 (by rw[qc9];exact hk) ?_ rfl;exact⟨_,rfl,J8.set (X:=⟨p3,x.m,x.n,x.z,x.k,x.f,x.a,wr⟩) hl s4 ⟨qa1,s4 _ _ hX4.dic,hX4.ad⟩ #[]⟩
  .rw[iD c0];left;exact⟨ys8,rfl,J8.up #[]⟩
 rintro σ' H9 ⟨ys9,rfl,J9⟩;left;exact q l ys9 _ J9.sm hl J9.e J9.al (by have:=J9.ln;omega)
def wdc(K:uT)(d:Ad)(tp:Addr):Sp:=fun vs H Q _=>∃(a:Addr)(ns:List Int)(w:Wd)(lg:Addr)(xs:List Gx)(P:PL)(sw:List Str),vs=[.ref a,.ref w.wt,.ref lg]/\SqL K H a (ns.map V.int)/\ns.length<=63/\WAt H w/\WOk w/\P.nm=w.nm/\sw.Perm w.ws/\vH sw=true/\H lg=some (.lst (gxV xs))/\(∀x∈xs,jax H x/\x.k.length<=100)/\xs.length<=30/\H tp=some (.tbl (List.toArray []))/\
 ∀(l:Addr)(ys:List Gx)(H':Hp),jah H H'->H l=none->H' l=some (.lst (gxV ys))->(∀y∈ys,jax H' y)->ys.length<=100->qe2 ys xs=false->Q (.ref l) H'
structure ChJ(H:Hp)(lg:Addr)(xs:List Gx)(H2:Hp)(l:Addr)(ys:List Gx):Prop where
 sm:jah H H2
 nw:H l=none
 e:H2 l=some (.lst (gxV ys))
 al:∀y∈ys,jax H2 y
 ln:ys.length<=100
def jp8{xs:List Gx}(h:ys≠ []):qe2 (xs++ys) xs=false:=jf3 (by
 have:=cE.mpr h;rw[zF];omega)
theorem wdn{P:uX}{w:vG}{K:uT}{mg:Str->Option uB}{base:vN}{d:Ad}(T:Tx K mg d){tp:Addr}(hom:jab P w K mg base CX0 8 d.w48 d.w3f ["_law_world_here","_law_given","_law_cell_here"] (w6a K d tp)):
  jab P w K mg base CX0 10 d.w8m d.w71 ["_law_script","_law_world_here","_law_given"] (wdc K d tp):=by
 exists T.waz.ok w07
 .right
 obtain⟨a,ns,w,lg,xs,P,sw,rfl,hS,h63,hw,ok,enm,psw,qsw,hg,hxs,hl30,htb,q⟩:=h;exists (qa2 (qei (pv 1) (qd8 rfl (qaf (qab (i:=3) w07.nd rfl (uI rfl)) (qaf (qab (i:=4) w07.nd rfl (uI rfl)) (qaf (qab (i:=5) w07.nd rfl (uI rfl)) (qaf (qab (i:=6) w07.nd rfl (uI rfl)) (qaf (qab (i:=7) w07.nd rfl (uI rfl)) (qaf (qab (i:=8) w07.nd rfl (uI rfl)) qch))))))))
  (qa2 (qae (i:=9) w07.nd rfl (uI rfl) (qa9 ((w22 T).mono ∅) hr rfl T.w3m T.w3e.kp T.w3n .nil qah #[pv 0,qa4]))
  (qa2 (qae (i:=10) w07.nd rfl (uI rfl) (qal qaj (pv 3) (qa9 ((w09 T).mono ∅) hr rfl T.w18 T.w15.kp T.w1b .nil qah #[pv 9,qa4,qai qat rfl T.w29 vF #[pv 3]]) nofun))
  (qa2 (qae (i:=11) w07.nd rfl (uI rfl) (qal qaj (pv 4) (qa9 ((w09 T).mono ∅) hr rfl T.w18 T.w15.kp T.w1b .nil qah #[pv 9,qa4,qai qat rfl T.w29 vF #[pv 4]]) nofun))
  (qa2 (qbg (qb5 (qan qcc (qa9 ((w09 T).mono ∅) hr rfl T.w18 T.w15.kp T.w1b .nil qah #[pv 9,qa4,qa4]) qa4 (qaq _)) (qa2 (qae (i:=10) w07.nd rfl (uI rfl) (qa9 ((wah T).mono ∅) hr rfl T.wcv T.wau.kp T.wcz .nil qah #[pv 0,qam qax qa4 (qa9 ((w09 T).mono ∅) hr rfl T.w18 T.w15.kp T.w1b .nil qah #[pv 9,qa4,qa4])]))
  (qa6 (qae (i:=11) w07.nd rfl (uI rfl) (qa9 ((wah T).mono ∅) hr rfl T.wcv T.wau.kp T.wcz .nil qah #[pv 0,qam qax qa4 (qa9 ((w09 T).mono ∅) hr rfl T.w18 T.w15.kp T.w1b .nil qah #[pv 9,qa4,qa4])])))) qao))
  (qa2 (qae (i:=12) w07.nd rfl (uI rfl) (qaz qcg rfl T.w8w wP #[pv 2]))
  (qa2 (qbg (qb5 (PW.pt (jgw (qan (jh4 (hu8 hr)) (pv 6) (qbl qa3) (qaq _)) (jdt (qan qcc (qa9 ((w09 T).mono ∅) hr rfl T.w18 T.w15.kp T.w1b .nil qah #[pv 9,qa4,qa4]) qa4 (qaq _))))) (qa6 (qae (i:=12) w07.nd rfl (uI rfl) (qa9 (hom.mono ∅) hr rfl T.w9f T.w9g.kp T.wdo .nil qah #[pv 1,pv 2,pv 9]))) (qa6 (qbg (qb5 (qan (jh4 (hu8 hr)) (pv 2) (qbl qa3) (qaq _)) (qa6 (qae (i:=12) w07.nd rfl (uI rfl) (qa9 ((wcj T).mono ∅) hr rfl T.wdq T.w9p.kp T.wds .nil qah #[pv 1,pv 2,pv 9,pv 10,pv 11]))) qao)))))
  (qa2 (qbg (qb5 (qan (jc2 (hu8 hr)) (pv 12) (pv 2) (qaq _)) (qa6 (qae (i:=12) w07.nd rfl (uI rfl) (qam jhk (pv 2) (qbl #[qc7 #[qam qax qa4 (qa9 ((w09 T).mono ∅) hr rfl T.w18 T.w15.kp T.w1b .nil qah #[pv 9,qa4,qa4]),pv 10,jhy (je9 (qal qaj (pv 4) qa4 nofun) qa4 jhx) rfl rfl (by simp) ∅,qal qaj (pv 3) qa4 nofun,qal qaj (pv 4) qa4 nofun]])))) qao))
  (qa6 (qak (pv 12))))))))))),[sr a,sr w.wt,sr lg,none,none,none,none,none,none,none,none,none,none];have htp:=hw.tup;have nl:=ok.nms.len;have w1:=ok.w1;have w6:=ok.w6;have e5:=ok.e5;have r30:=ok.r30;left;refine⟨a,ns,20,rfl,hS,∅,∅,h63,fun H1 s1=>?_⟩;generalize qbu ns 20=c;have hw1:=hw.same s1;have hln:=hw1.ln;have hlw:=hw1.lw;have hS1:=s1.seq hS;clear htp;left;refine qbo ∅ ∅ (by rw[zB,nl];omega) (by rw[zB,nl];omega) fun i i0 i1=>?_;obtain⟨i,rfl⟩:=vL i0;have hi:i<w.nm.length:=by rw[zB] at i1;omega
 clear i0 i1;left;refine qb0 (SqL.of hln) (qar (j:=i) (by rw[zC,zA hi];rfl)) ?_;generalize w.nm[i]=z1;clear hi;left;refine qbo ∅ ∅ (by rw[zB];omega) (by rw[zB];omega) fun j j0 j1=>?_;obtain⟨j,rfl⟩:=vL j0;have hj:j<w.ws.length:=by rw[zB] at j1;omega
 clear j0 j1;left;refine qb0 (SqL.of hlw) (qar (j:=j) (by rw[zC,zA hj];rfl)) ?_;generalize w.ws[j]=z2;clear hj;left;refine qce (fun σ' H2=>∃(hs wr:Str),σ'=[sr a,sr w.wt,sr lg,sr w.ln,sr w.lw,sr w.le,sr w.lr,sr w.la,sr w.lc,some (V.int c),some (V.str hs),some (V.str wr),none]/\qas H H2) ?_ ?_
 .left;refine qbo ∅ ∅ ∅ ∅ fun r r0 r1=>?_;left;by_cases c0:r=0
  .rw[iC c0];left;refine qbo ∅ ∅ ∅ ∅ fun k k0 k1=>?_;left;refine⟨a,ns,6+k,rfl,hS1,h63,#[],#[],fun H2 s2=>?_⟩;left;refine qbo ∅ ∅ ∅ ∅ fun k' k0' k1'=>?_;left;refine⟨a,ns,23+k',rfl,s2.seq hS1,h63,#[],#[],fun H3 s3=>?_⟩;left;exact⟨_,_,rfl,(s1.trans s2).trans s3⟩
  .rw[iD c0];left;exact⟨_,_,rfl,s1⟩
 rintro σ' H2 ⟨hs,wr,rfl,s2⟩;have hg2:=s2 _ _ hg;clear hw1 hln hlw hS1 s1;left;refine qd6 (SqL.of hg2) fun l hl=>?_;have s3:=s2.trans (qa5 hl (.lst (gxV xs)));have el:upd H2 l (.lst (gxV xs)) l=some (.lst (gxV xs)):=qa1;have hnl:=s2.free hl;generalize upd H2 l (.lst (gxV xs))=H3 at*;have hw3:=hw.same s3;have hlr3:=hw3.lr;have hg3:=s3 _ _ hg;have hx3:∀x∈xs,jax H3 x:=fun x hx=>(hxs x hx).1.same s3;have J3:ChJ H lg xs H3 l xs:=⟨qas.sn s3,hnl,el,hx3,#[]⟩;clear hg2 hl s2;left;refine qce (fun σ' H4=>∃(l:Addr)(ys:List Gx),σ'=[sr a,sr w.wt,sr lg,sr w.ln,sr w.lw,sr w.le,sr w.lr,sr w.la,sr w.lc,some (V.int c),some (V.str hs),some (V.str wr),sr l]/\ChJ H lg xs H4 l ys) ?_ ?_
 .left;rename_i pn hpn;have nep:w.lr≠pn:=qa8 hlr3 hpn;refine jh5 nep ∅ (qet (n:=0) (SqL.of (by walk_at"heap")) (SqL.of qa1) nep) ?_;have s4:=s3.trans (qa5 hpn (.lst []));have J4:ChJ H lg xs (upd H3 pn (.lst [])) l xs:=⟨qas.sn s4,hnl,qa5 hpn _ _ _ el,fun y hy=>(hx3 y hy).same (qa5 hpn _),#[]⟩;generalize upd H3 pn (.lst [])=H4 at*;have hg4:=s4 _ _ hg;clear hlr3 hg3 hx3 J3 el hw3 s3;refine⟨_,rfl,?_⟩;by_cases cr:rwV w.Rs=[]
  .rw[iC cr];left;refine qce (fun σ' H4=>∃(l:Addr)(ys:List Gx),σ'=[sr a,sr w.wt,sr lg,sr w.ln,sr w.lw,sr w.le,sr w.lr,sr w.la,sr w.lc,some (V.int c),some (V.str hs),some (V.str wr),sr l]/\ChJ H lg xs H4 l ys) ?_ (fun σ' H' h=>h);left;rename_i pe hpe;have nee:lg≠pe:=qa8 hg4 hpe;refine jh5 nee ∅ (qet (n:=0) (SqL.of (by walk_at"heap")) (SqL.of qa1) nee) ?_;have s5:=qa5 hpe (.lst []);have J5:ChJ H lg xs (upd H4 pe (.lst [])) l xs:=⟨jah.trans J4.sm (qas.sn s5),J4.nw,s5 _ _ J4.e,fun y hy=>(J4.al y hy).same s5,#[]⟩;generalize upd H4 pe (.lst [])=H5 at*;by_cases cx:gxV xs=[]
   .rw[iC cx];left;exact⟨l,xs,rfl,J5⟩
   .rw[iD cx];have t5:=s4.trans s5;left;refine⟨w,lg,c,hs,wr,xs,rfl,hw.same t5,ok,t5 _ _ hg,fun x hx=>⟨(hxs x hx).1.same t5,(hxs x hx).2⟩,fun z=>cx (by rw[z];rfl),hl30,fun l6 ys6 H6 s6 n6 e6 al6 ln6=>?_⟩;left;exact⟨l6,ys6,rfl,⟨qas.sn (t5.trans s6),t5.free n6,e6,al6,ln6⟩⟩
  .rw[iD cr];left;refine qbo ∅ ∅ ∅ ∅ fun r r0 r1=>?_;left;by_cases c0:r=0
   .rw[iC c0];left;refine⟨w,lg,c,xs,P,sw,rfl,hw.same s4,ok,enm,psw,qsw,hg4,fun x hx=>(hxs x hx).1.same s4,hl30,fun z=>cr (by rw[z];rfl),s4 _ _ htb,fun l6 ys6 H6 s6 n6 e6 al6 ln6=>?_⟩;left;exact⟨l6,ys6,rfl,⟨jah.trans (qas.sn s4) s6,s4.free n6,e6,al6,ln6⟩⟩
   .rw[iD c0];left;refine qce (fun σ' H4=>∃(l:Addr)(ys:List Gx),σ'=[sr a,sr w.wt,sr lg,sr w.ln,sr w.lw,sr w.le,sr w.lr,sr w.la,sr w.lc,some (V.int c),some (V.str hs),some (V.str wr),sr l]/\ChJ H lg xs H4 l ys) ?_ (fun σ' H' h=>h);left;rename_i pe hpe;have nee:lg≠pe:=qa8 hg4 hpe;refine jh5 nee ∅ (qet (n:=0) (SqL.of (by walk_at"heap")) (SqL.of qa1) nee) ?_;have s5:=qa5 hpe (.lst []);have J5:ChJ H lg xs (upd H4 pe (.lst [])) l xs:=⟨jah.trans J4.sm (qas.sn s5),J4.nw,s5 _ _ J4.e,fun y hy=>(J4.al y hy).same s5,#[]⟩;generalize upd H4 pe (.lst [])=H5 at*;by_cases cx:gxV xs=[]
    .rw[iC cx];left;exact⟨l,xs,rfl,J5⟩
    .rw[iD cx];have t5:=s4.trans s5;left;refine⟨w,lg,c,hs,wr,xs,rfl,hw.same t5,ok,t5 _ _ hg,fun x hx=>⟨(hxs x hx).1.same t5,(hxs x hx).2⟩,fun z=>cx (by rw[z];rfl),hl30,fun l6 ys6 H6 s6 n6 e6 al6 ln6=>?_⟩;left;exact⟨l6,ys6,rfl,⟨qas.sn (t5.trans s6),t5.free n6,e6,al6,ln6⟩⟩
 rintro σ' H4 ⟨l4,ys,rfl,J4⟩;have hw4:=hw.sn J4.sm;have hg4:=J4.sm.k _ _ hg rfl;have ne:l4≠lg:=fun z=>by rw[z] at J4;have:=J4.nw;rw[hg] at this;cases this
 have hx4:∀x∈xs,jax H4 x:=fun x hx=>(hxs x hx).1.sn J4.sm;left;refine qce (fun σ' H5=>∃(l:Addr)(ys:List Gx),σ'=[sr a,sr w.wt,sr lg,sr w.ln,sr w.lw,sr w.le,sr w.lr,sr w.la,sr w.lc,some (V.int c),some (V.str hs),some (V.str wr),sr l]/\ChJ H lg xs H5 l ys/\qe2 ys xs=false) ?_ ?_
 .left;refine jgh ne ∅ (jf5 J4.e hg4 J4.al hx4 ne) ?_
  cases hb:qe2 ys xs with
  |false=>
   left;exact⟨l4,ys,rfl,J4,hb⟩
  |true=>
   have hlw4:=hw4.lw;have hln4:=hw4.ln;have x0:∃z,atI (w.nm.map V.str) 0=some (.str z):=by
    have e:0<w.nm.length:=by rw[nl];omega
    exact⟨w.nm[0],qar (j:=0) (by rw[zC,zA e];rfl)⟩
   have x1:∃z,atI (w.ws.map V.str) 0=some (.str z):=⟨w.ws[0],qar (j:=0) (by rw[zC,zA w1];rfl)⟩;obtain⟨z0,x0⟩:=x0;obtain⟨z1,x1⟩:=x1;left;refine qbo ∅ ∅ ∅ ∅ fun i _ _=>?_;left;rename_i pd hpd;refine qb0 (SqL.of (by walk_at"heap")) x1 ?_;left;rw[jla];have s5:=qa5 hpd (.dK [(uV z1,V.int 1)]);have ed:upd H4 pd (.dK [(uV z1,V.int 1)]) pd=some (.dK [(uV z1,V.int 1)]):=qa1;generalize upd H4 pd (.dK [(uV z1,V.int 1)])=H5 at*;refine qb0 (SqL.of (s5 _ _ hln4)) x0 ?_;left;refine qb0 (SqL.of (s5 _ _ hlw4)) x1 ?_;have hg5:=s5 _ _ hg4;left;rename_i pt hpt pl hpl;refine jon (by walk_at"heap") qa1 (by rw[qc9,wJ];show xs.length+1<=_;omega) fun pc hpc=>?_;have s6:=((qa5 hpt (.tup [V.int (1000+i),V.str hs,V.ref pd,V.str z0,V.str z1])).trans (qa5 hpl (.lst [V.ref pt]))).trans (qa5 hpc (.lst (gxV xs++[V.ref pt])));have t6:=s5.trans s6;have ht:upd (upd (upd H5 pt (.tup [V.int (1000+i),V.str hs,V.ref pd,V.str z0,V.str z1])) pl (.lst [V.ref pt])) pc (.lst (gxV xs++[V.ref pt])) pt=some (.tup [V.int (1000+i),V.str hs,V.ref pd,V.str z0,V.str z1]):=by walk_at"heap"
   have hX:jax _ ⟨pt,pd,1000+i,hs,[(uV z1,V.int 1)],qfn noF z1 1,z0,z1⟩:=⟨ht,s6 _ _ ed,AD.nil.put z1 1⟩;have n5:H pc=none:=J4.sm.f _ (s5.free (((qa5 hpt _).trans (qa5 hpl _)).free hpc));left;exact⟨pc,xs++[⟨pt,pd,1000+i,hs,[(uV z1,V.int 1)],qfn noF z1 1,z0,z1⟩],rfl,⟨jah.trans J4.sm (qas.sn t6),n5,by rw[qa1];unfold gxV;rw[zE];rfl,fun y hy=>by
    rcases zP.mp hy with z|z
    .exact(hx4 y z).same t6
    .rw[zG.mp z];exact hX,by rw[zF];show xs.length+1<=_;omega⟩,jp8 (by simp)⟩
 rintro σ' H5 ⟨l5,ys5,rfl,J5,hb5⟩;left;exact q l5 ys5 _ J5.sm J5.nw J5.e J5.al J5.ln hb5
inductive jdk(K:uT)(d:Ad)(vs:List V)(H:Hp)(Q:VK)(E:XK):Prop
 |mk(t lh am lx:Addr)(S:Ts)(P:PL)(bs:List Ob)(n h:Nat)(ka:List (Key×V))(f:Str->Option Int)(ss:List Str)(r:Int)(su:Bool)(xs:List Gx)(_:vs=[.ref t,.ref lh,.str (nmF P h),.ref am,.int r,.bl su,.ref lx])(_:jeo K d H t lh S P bs n)(_:n<=12)(_:h<n)(_:H am=some (.dK ka))(_:AD ka f)(_:ss.Perm (qcs ka))(_:vH ss=true)(_:ss.length<=6)(_:H lx=some (.lst (gxV xs)))(_:(∀x∈xs,jax H x))(_:((∃p∈pls (qac (elN P.es) h) ss,qbm S P (bs.filter (qb1 r su)) f p.1 p.2<0)->∀H',qas H H'->Q (.bl false) H'))(_:((∀p∈pls (qac (elN P.es) h) ss,0<=qbm S P (bs.filter (qb1 r su)) f p.1 p.2)->∀(gs:List Gr)(H':Hp),qas H H'->gs.map (fun g=>(g.b,g.c))=(clL P (pls (qac (elN P.es) h) ss) (fun p=>qbm S P (bs.filter (qb1 r su)) f p.1 p.2) (bs.filter (qbq r su))).2->Q (.bl (qe2 xs (gs.map (gxO P)))) H'))
include T in
theorem wbo:jab P w K mg base CX0 22 d.w67 d.w54 ["tree","holds","house","amounts","rank","sure","given"] (jdk K d):=by
 exists T.w8d.ok wb4
 .right
 obtain⟨t,lh,am,lx,S,P,bs,n,h,ka,f,ss,r,su,xs,rfl,hW,n12,hn,ha,hA,hp,hs,s6,hx,hxs,qn,q⟩:=h;exists qa6 (qak (qbs (jtc (hu8 hr)) (pv 6) (qa9 ((wap T).mono ∅) hr rfl T.wd0 T.wae.kp T.wd2 .nil qah #[pv 0,pv 1,pv 2,pv 3,pv 4,pv 5]) (qaq _))),[sr t,sr lh,some (.str (nmF P h)),sr am,some (.int r),some (.bl su),sr lx];have had:∀b∈bs,AD b.R.k b.R.f:=fun b hb=>(hW.ob b hb).ad;left;refine⟨t,lh,am,S,P,bs,n,h,ka,f,ss,r,su,rfl,hW,n12,hn,ha,hA,hp,hs,s6,fun c H2 s2=>?_,fun c l gs H2 s2 hl el hG hgs=>?_⟩
 .refine .inr ⟨lx,_,rfl,rfl,SqL.of (s2 _ _ hx),?_⟩;exact qn c _ s2
 .rw[<-jt1 P] at el;have ne:lx≠l:=qa8 hx hl;have dq:=jf5 (K:=K) (s2 _ _ hx) el (fun x hx=>(hxs x hx).same s2) (fun x hx=>by
   obtain⟨g,hg,rfl⟩:=zJ.mp hx;exact jnp (hG g hg).1 (had _ (hG g hg).2.1)) ne
  refine .inl (jgh ne ∅ dq ?_);exact q c gs _ s2 hgs
theorem jdl:∀{l m:List Gx} {x y:Gx},qe2 l m=true->jca x y=true->qe2 (l++[x]) (m++[y])=true
 | [],[],x,y,_,h=>by show(jca x y && true)=true;rw[h];rfl
 | [],_::_,_,_,h,_=>by cases h
 |_::_,[],_,_,h,_=>by cases h
 |a::l,b::m,x,y,h,h'=>by
  have h:(jca a b && qe2 l m)=true:=h;rw[vO] at h;show(jca a b && qe2 (l++[x]) (m++[y]))=true;rw[h.1,jdl h.2 h'];rfl
theorem jdm(x:Gx)(p m:Addr):jca x ⟨p,m,x.n,x.z,x.k,x.f,x.a,x.b⟩=true:=by
 unfold jca;rw[iC rfl,iC rfl,iC rfl,iC rfl,jfn];rfl
inductive jj3(K:uT)(d:Ad)(vs:List V)(H:Hp)(Q:VK)(E:XK):Prop
 |mk(w:Wd)(t lh lx:Addr)(S:Ts)(P:PL)(bs:List Ob)(ss:List Str)(xs:List Gx)(due:Bool)(_:vs=[.ref w.wt,.ref t,.ref lh,.ref lx,.bl due])(_:WAt H w)(_:WOk w)(_:WTr K d H w t lh S P bs)(_:ss.Perm (qcs (tdK (w.ws.zip w.aps))))(_:vH ss=true)(_:ss.length<=6)(_:H lx=some (.lst (gxV xs)))(_:(∀x∈xs,jax H x))(_:xs.length<=1000)(_:((∃p∈pls (qac (elN P.es) w.h) ss,qbm S P (bs.filter (qb1 w.rk w.su)) (akF w) p.1 p.2<0)->due=false))(_:((∀p∈pls (qac (elN P.es) w.h) ss,0<=qbm S P (bs.filter (qb1 w.rk w.su)) (akF w) p.1 p.2)->∀gs:List Gr,gs.map (fun g=>(g.b,g.c))=(clL P (pls (qac (elN P.es) w.h) ss) (fun p=>qbm S P (bs.filter (qb1 w.rk w.su)) (akF w) p.1 p.2) (bs.filter (qbq w.rk w.su))).2->qe2 xs (gs.map (gxO P))=due))(_:∀H',qas H H'->Q (.bl true) H')
include T in
theorem wbf:jab P w K mg base CX0 24 d.wag d.w8x ["_law_world_here","_law_tree_here","_law_objects_here","_law_given","_law_due"] (jj3 K d):=by
 exists T.w9w.ok w21
 .right
 obtain⟨w,t,lh,lx,S,P,bs,ss,xs,due,rfl,hw,ok,ht,hp,hs,s6,hx,hxs,hl,dn,dy,q⟩:=h;refine⟨_,(qa2 (qei (pv 0) (qd8 rfl (qaf (qab (i:=5) w21.nd rfl (uI rfl)) (qaf (qab (i:=6) w21.nd rfl (uI rfl)) (qaf (qab (i:=7) w21.nd rfl (uI rfl)) (qaf (qab (i:=8) w21.nd rfl (uI rfl)) (qaf (qab (i:=9) w21.nd rfl (uI rfl)) (qaf (qab (i:=10) w21.nd rfl (uI rfl)) qch))))))))
  (qa2 (qea (j:=11) (caps:=[]) (cn:=[]) (qbh rfl rfl (by rfl) (by rfl) rfl trivial (by rfl) rfl trivial ∅) rfl w21.nd rfl rfl (qb3 (pv 3)) (fun _ _ _ _=>qd9) (fun _ _ _ _=>(qam qdc (qam qdc (qcf qef (pv 0) qcx (qcw qa4)) (qc7 #[qaz qc4 rfl T.w7e wG #[~~~0]])) (qcf qef (pv 0) (qcw qa4) qcx))))
  (qa2 (qae (i:=12) w21.nd rfl (uI rfl) (qa9 ((wbo T).mono ∅) hr rfl T.wcl T.w8d.kp T.wbt .nil qah #[pv 1,pv 2,qal qaj (pv 5) (~~~9) nofun,qa9 ((w4n T).mono ∅) hr rfl T.w6g T.w5w.kp T.w6i .nil qah #[pv 6,~~~9],~~~9,~~~9,pv 3]))
  (qa6 (qak (qf2 (qai qca rfl T.w0s vW #[pv 12,qda (v:=.ty "bool") rfl T.wfo PyProof.Rows.boot_bool rfl]) (qf2 (qbs qcc (pv 12) (pv 4) (qaq _)) (qek (qbs (jc2 (hu8 hr)) (pv 3) (pv 11) (qaq _)))))))))),?_⟩
 walk_at"d"
 try dsimp only[cxC]
 refine qag (σ:=[sr w.wt,sr t,sr lh,sr lx,some (.bl due),none,none,none,none,none,none,none,none]) rfl ?_;have htp:=hw.tup;left;intro C s0 H0 fp lk hlk;refine jb7 xs.length (fun k H2=>∃ks:List Gx,qas H H2/\H2 lk=some (.lst (gxV ks))/\(∀y∈ks,jax H2 y)/\ks.length=k/\qe2 (xs.take k) ks=true) ⟨[],qa5 hlk _,qa1,(fun y h=>nomatch h),rfl,rfl⟩ ?_ ?_ ?_ ?_
 .rintro k H2 hk ⟨ks,s2,_⟩;exact⟨_,.ref xs[k].p,SqL.of (s2 _ _ hx),by unfold gxV;rw[zC,zA hk];rfl⟩
 .rintro H2 ⟨ks,s2,_⟩;exact⟨_,SqL.of (s2 _ _ hx),by rw[qc9];exact uH _⟩
 .rintro k H2 v H3 hk ⟨ks,s2,ek,hks,hlen,heq⟩ ⟨rfl,hv⟩;have hv:=hv _ (SqL.of (s2 _ _ hx));rw[show(gxV xs)[k]?=some (.ref (xs[k]).p) from by unfold gxV;rw[zC,zA hk];rfl] at hv
  cases hv
  have tk:xs.take (k+1)=xs.take k++[xs[k]]:=by rw[zM,zA hk];rfl
  have hX:=(hxs _ (zL hk)).same s2;generalize xs[k]=x at*;have htx:=hX.tup;have hdx:=hX.dic;have zk:(gxV ks).length<sizeLine:=by rw[qc9];show _<16777216;omega
  left;refine qeg (ys:=[.int x.n,.str x.z]) (SqT.of htx) ∅ rfl fun p1 hp1=>?_;left;rename_i dd hdd p2 hp2;refine qeh (SqT.of (by walk_at"heap")) (SqT.of (by walk_at"heap")) (by simp) (by simp) (by simp) fun p3 hp3=>?_;left;refine qeg (ys:=[.str x.a,.str x.b]) (SqT.of (by walk_at"heap")) ∅ rfl fun p4 hp4=>?_;refine qeh (SqT.of (by walk_at"heap")) (SqT.of (by walk_at"heap")) (by simp) (by simp) (by simp) fun p5 hp5=>?_;left;have s3:=(((((qa5 hp1 (.tup [V.int x.n,V.str x.z])).trans (qa5 hdd (.dK x.k))).trans (qa5 hp2 (.tup [V.ref dd]))).trans (qa5 hp3 (.tup ([V.int x.n,V.str x.z]++[V.ref dd])))).trans (qa5 hp4 (.tup [V.str x.a,V.str x.b]))).trans (qa5 hp5 (.tup ([V.int x.n,V.str x.z]++[V.ref dd]++[V.str x.a,V.str x.b])));have hd:upd (upd (upd (upd (upd (upd H3 p1 (.tup [V.int x.n,V.str x.z])) dd (.dK x.k)) p2 (.tup [V.ref dd])) p3 (.tup ([V.int x.n,V.str x.z]++[V.ref dd]))) p4 (.tup [V.str x.a,V.str x.b])) p5 (.tup ([V.int x.n,V.str x.z]++[V.ref dd]++[V.str x.a,V.str x.b])) dd=some (.dK x.k):=by walk_at"heap"
  have h5:upd (upd (upd (upd (upd (upd H3 p1 (.tup [V.int x.n,V.str x.z])) dd (.dK x.k)) p2 (.tup [V.ref dd])) p3 (.tup ([V.int x.n,V.str x.z]++[V.ref dd]))) p4 (.tup [V.str x.a,V.str x.b])) p5 (.tup ([V.int x.n,V.str x.z]++[V.ref dd]++[V.str x.a,V.str x.b])) p5=some (.tup [.int x.n,.str x.z,.ref dd,.str x.a,.str x.b]):=qa1;generalize upd (upd (upd (upd (upd (upd H3 p1 (.tup [V.int x.n,V.str x.z])) dd (.dK x.k)) p2 (.tup [V.ref dd])) p3 (.tup ([V.int x.n,V.str x.z]++[V.ref dd]))) p4 (.tup [V.str x.a,V.str x.b])) p5 (.tup ([V.int x.n,V.str x.z]++[V.ref dd]++[V.str x.a,V.str x.b]))=H4 at*;have hY:jax H4 ⟨p5,dd,x.n,x.z,x.k,x.f,x.a,x.b⟩:=⟨h5,hd,hX.ad⟩;exact⟨ks++[⟨p5,dd,x.n,x.z,x.k,x.f,x.a,x.b⟩],qaw (s2.trans s3) hlk,by rw[qa1];unfold gxV;rw[zE];rfl,fun y hy=>by
   rcases zP.mp hy with z|z
   .exact((hks y z).same s3).up (s3 _ _ ek)
   .rw[zG.mp z];exact hY.up (s3 _ _ ek),by rw[zF,hlen];rfl,by rw[tk];exact jdl heq (jdm x p5 dd)⟩
 rintro H2 ⟨ks,s2,ek,hks,hlen,heq⟩;rw[zQ] at heq;have hw2:=hw.same s2;have ht2:=ht.same s2;have nl:=ht.wd.nn;have xn:atI (w.nm.map V.str) ((w.h:Nat):Int)=some (.str (nmF P w.h)):=by
  have e:w.h<P.nm.length:=by rw[nl];exact ok.hh
  rw[qdd e,<-ht.nm];exact qar (by rw[zC,zA e];rfl)
 have hla2:=hw2.la;have hln2:=hw2.ln;have hhh:=ok.hh;have e5:=ok.e5;have w6:=ok.w6;have hx2:=s2 _ _ hx;clear htp;generalize hhi:((w.h:Nat):Int)=hi at*;left;refine qb0 (SqL.of hln2) xn ?_;left;refine⟨w.lw,w.pa,w.ws,w.aps,rfl,SqL.of hw2.lw,SqL.of hw2.pa,ok.apl.symm,#[],fun am H4 s4 ham eam=>?_⟩;have hla4:=s4 _ _ hla2;have hx4:=s4 _ _ hx2;have ek4:=s4 _ _ ek;have t4:=s2.trans s4;have ne:lx≠lk:=fun z=>by rw[z,hlk] at hx;cases hx
 clear hla2 hx2 ek;left;refine⟨t,lh,am,lx,S,P,bs,_,w.h,_,akF w,ss,w.rk,w.su,xs,rfl,ht2.wd.same s4,#[],hhh,eam,qe6 _,hp,hs,s6,hx4,fun x hx=>(hxs x hx).same t4,fun cn H5 s5=>?_,fun cy gs H5 s5 hgs=>?_⟩
 .obtain rfl:=dn cn;have t5:=t4.trans s5;left;refine jgh ne ∅ (jf5 (t5 _ _ hx) (s5 _ _ ek4) (fun x hx=>(hxs x hx).same t5) (fun y hy=>(hks y hy).same (s4.trans s5)) ne) ?_;rw[heq];exact q _ t5
 .rw[dy cy gs hgs];have t5:=t4.trans s5;left;refine jgh ne ∅ (jf5 (t5 _ _ hx) (s5 _ _ ek4) (fun x hx=>(hxs x hx).same t5) (fun y hy=>(hks y hy).same (s4.trans s5)) ne) ?_;rw[heq];exact q _ t5
theorem jdn:∀l:List Gx,qe2 l l=true
 | []=>rfl
 |x::l=>by
  show(jca x x && qe2 l l)=true;rw[jdn l,show jca x x=true from jdm x x.p x.m];rfl
theorem jns(P:PL)(ps:List Pc):∀(C:List Ob)(st:(Pc->Int)×List (Ob×Pc)),(C.foldl (clF P ps) st).2.length<=st.2.length+C.length
 | [],st=>uH _
 |c::C,st=>by
  rw[yR,zK];have ih:=jns P ps C (clF P ps st c)
  cases hf:ps.find? (fun p=>decide (st.1 p<prN P c p)) with
  |none=>
   rw[jf1 hf] at ih⊢;have ih:_<=st.2.length+C.length:=ih;omega
  |some q=>
   rw[jf2 hf] at ih⊢;have ih:_<=(st.2++[(c,q)]).length+C.length:=ih;rw[zF] at ih;have e: [(c,q)].length=1:=rfl;omega
def jj4(K:uT)(tp:Addr):Sp:=fun vs H Q _=>∃(a:Addr)(ns:List Int),vs=[.ref a]/\SqL K H a (ns.map V.int)/\ns.length<=63/\H tp=some (.tbl (List.toArray []))/\∀H',Q (.bl true) H'
theorem jt7{P:uX}{w:vG}{K:uT}{mg:Str->Option uB}{base:vN}{d:Ad}(T:Tx K mg d){tp:Addr}(hom:jab P w K mg base CX0 8 d.w48 d.w3f ["_law_world_here","_law_given","_law_cell_here"] (w6a K d tp)):jab P w K mg base CX0 28 d.wc0 d.wat ["_law_script"] (jj4 K tp):=by
 exists T.wh2.ok w8h
 .right
 obtain⟨a,ns,rfl,hS,h63,htb0,q⟩:=h;refine⟨_,(qa2 (qae (i:=1) w8h.nd rfl (uI rfl) (qa9 ((wfa T).mono ∅) hr rfl T.wg2 T.we5.kp T.wgi .nil qah #[pv 0,qa9 ((w09 T).mono ∅) hr rfl T.w18 T.w15.kp T.w1b .nil qah #[qa9 ((w22 T).mono ∅) hr rfl T.w3m T.w3e.kp T.w3n .nil qah #[pv 0,qa4],qa4,qa4]]))
  (qa2 (qae (i:=2) w8h.nd rfl (uI rfl) (qa9 ((wgk T).mono ∅) hr rfl T.wgq T.wfg.kp T.wgl .nil qah #[pv 0,pv 1]))
  (qa2 (qae (i:=3) w8h.nd rfl (uI rfl) (qa9 ((wdh T).mono ∅) hr rfl T.wdy T.wbm.kp T.wei .nil qah #[pv 1]))
  (qa2 (qae (i:=4) w8h.nd rfl (uI rfl) (qa9 ((wf6 T).mono ∅) hr rfl T.wg9 T.wes.kp T.wg6 .nil qah #[pv 1,pv 2,pv 3]))
  (qa2 (qae (i:=5) w8h.nd rfl (uI rfl) (qbs qga (pv 4) qcm (qaq _)))
  (qa2 (qbg (qb5 (qan jdw (pv 4) qcm (qaq _)) (qa6 (qae (i:=4) w8h.nd rfl (uI rfl) (qbl qa3))) qao))
  (qa2 (qb5 (qcq (qby (qa9 ((wbf T).mono ∅) hr rfl T.wd1 T.w9w.kp T.wd7 .nil qah #[pv 1,pv 2,pv 3,qaz qcg rfl T.w8w wP #[pv 4],pv 5]))) (qa6 (qak qeo)) qao)
  (qa2 (qb5 (qcq (qby (qa9 ((wbf T).mono ∅) hr rfl T.wd1 T.w9w.kp T.wd7 .nil qah #[pv 1,pv 2,pv 3,qa9 ((wdn T hom).mono ∅) hr rfl T.wea T.waz.kp T.wek .nil qah #[pv 0,pv 1,qaz qcg rfl T.w8w wP #[pv 4]],qeo]))) (qa6 (qak qeo)) qao)
  (qa6 (qak (qa9 ((wdl T).mono ∅) hr rfl T.wel T.wbh.kp T.we4 .nil qah #[pv 3,pv 1]))))))))))),?_⟩
 walk_at"d"
 try dsimp only[cxC]
 refine qag (σ:=[sr a,none,none,none,none,none]) rfl ?_;have ct:=T.w01;left;refine⟨a,ns,3,rfl,hS,∅,∅,h63,fun H0 s0=>?_⟩;generalize qbu ns 3=c;left;refine qbo ∅ ∅ ∅ ∅ fun r r0 r1=>?_;obtain⟨m,rfl⟩:=vL r0;have m30:m<=30:=by omega
 clear r0 r1;left;refine⟨a,ns,m,rfl,s0.seq hS,h63,m30,fun w H1 s1 hw ok=>?_⟩;have hS1:=(s0.trans s1).seq hS;have htb1:=(s0.trans s1) _ _ htb0;have htp:=hw.tup;clear s0 s1 hS;left;refine⟨a,ns,w.wt,w.ln,w.lw,w.le,w.lr,w.la,w.lc,w.las,w.cs,w.nm,w.ws,w.es,rfl,hS1,h63,hw.tup,hw.ln,hw.lw,hw.le,hw.lc,ok.cl,hw.cs,ok.nms,ok.wsn,ok.w1,ok.w6,by have:=ok.e5;omega,fun t S P wt H2 s2 enm ews ees etc pf hT hI=>?_⟩;have hw2:=hw.same s2;have nl:P.nm.length=w.es.length+1:=by rw[enm,ok.nms.len]
 rw[ok.nms.len] at hI;have hS2:=s2.seq hS1;have htb2:=s2 _ _ htb1;clear hw s2 hS1 htp;left;refine⟨w.wt,w.ln,w.lw,w.le,w.lr,w.la,w.lc,P,w.Rs,rfl,hw2.tup,hw2.lr,by rw[enm];exact hw2.ln,by rw[ews];exact hw2.lw,by rw[ews];exact ok.w6,ok.r30,fun R hr=>by rw[nl,ews];exact hw2.rs R hr,fun lh bs H3 s3 elh hbs hB hU=>?_⟩;have hw3:=hw2.same s3;have hS3:=s3.seq hS2;have htb3:=s3 _ _ htb2;have hbl:bs.length=w.Rs.length:=by have:=congrArg wV hbs;rw[zB,zB] at this;exact this
 have hWd:jeo K d H3 t lh S P bs (w.es.length+1):=⟨hT.same s3,hI.pl.wf,hI.pl,nl,fun j hj=>by
  obtain⟨e,ae,_,_⟩:=hI.pl.at hj;exact⟨⟨e,ae⟩,hI.pl.dep 12 j hj (by have:=ok.e5;omega)⟩,by rw[ews];exact ok.w6,elh,by have:=ok.r30;omega,hB⟩
 have hWT:WTr K d H3 w t lh S P bs:=⟨hWd,enm,ews,ees⟩;rw[ews] at hbs;obtain⟨ss,pss,qss⟩:=jjz (qcs (tdK (w.ws.zip w.aps)));obtain⟨sw,psw,qsw⟩:=jjz w.ws;have hA:=qe6 (w.ws.zip w.aps);have hs6:ss.length<=6:=by
  have h1:=hA.le (ws:=w.ws) (fun z hz=>jjt ok.apl.symm z hz);have h2:=hA.klen;have h3:=pss.length_eq;have:=ok.w6;omega
 have had:∀b∈bs,AD b.R.k b.R.f:=fun b hb=>(hB b hb).ad;clear hw2 s3 hT hI pf etc hS2 elh hB hWd;have k100:∀b∈bs,b.R.k.length<=100:=fun b hb=>by
  have h1:=(had b hb).le (ws:=P.ws) (fun z hz=>(hWT.wd.ob b hb).inw z hz);have:=hWT.wd.w3;omega
 left;refine⟨w,t,lh,S,P,bs,ss,rfl,hw3,ok,hWT,pss,qss,hs6,fun c5 H5 s5=>?_,fun c5 l gs H5 s5 nl5 el hG hgs=>?_⟩
 .have hw5:=hw3.same s5;have hWT5:=hWT.same s5;have hS5:=s5.seq hS3;have htb5:=s5 _ _ htb3;clear hw3 hWT hS3 htb3 s5;left;refine qce (fun σ' H6=>∃lg,σ'=[sr a,sr w.wt,sr t,sr lh,sr lg,some (V.bl false)]/\qas H5 H6/\H6 lg=some (.lst (gxV []))) ?_ ?_
  .left;rename_i lg hlg;exact⟨lg,rfl,qa5 hlg _,qa1⟩
  rintro σ' H6 ⟨lg,rfl,s6,elg⟩;have hw6:=hw5.same s6;have hWT6:=hWT5.same s6;have hS6:=s6.seq hS5;have htb6:=s6 _ _ htb5;have hx6:∀x∈([]:List Gx),jax H6 x/\x.k.length<=100:=fun x hx=>nomatch hx;have hxl:([]:List Gx).length<=30:=∅
  have no:¬(∀p∈pls (qac (elN P.es) w.h) ss,0<=qbm S P (bs.filter (qb1 w.rk w.su)) (akF w) p.1 p.2):=fun h=>by
   obtain⟨p,h1,h2⟩:=c5;have:=h p h1;omega
  have dN:(∃p∈pls (qac (elN P.es) w.h) ss,qbm S P (bs.filter (qb1 w.rk w.su)) (akF w) p.1 p.2<0)->false=false:=fun _=>rfl;have dY:(∀p∈pls (qac (elN P.es) w.h) ss,0<=qbm S P (bs.filter (qb1 w.rk w.su)) (akF w) p.1 p.2)->∀gs:List Gr,gs.map (fun g=>(g.b,g.c))=(clL P (pls (qac (elN P.es) w.h) ss) (fun p=>qbm S P (bs.filter (qb1 w.rk w.su)) (akF w) p.1 p.2) (bs.filter (qbq w.rk w.su))).2->qe2 [] (gs.map (gxO P))=false:=fun h=>absurd h no;have dF:∀ys:List Gx,qe2 ys []=false->(∀p∈pls (qac (elN P.es) w.h) ss,0<=qbm S P (bs.filter (qb1 w.rk w.su)) (akF w) p.1 p.2)->∀gs:List Gr,gs.map (fun g=>(g.b,g.c))=(clL P (pls (qac (elN P.es) w.h) ss) (fun p=>qbm S P (bs.filter (qb1 w.rk w.su)) (akF w) p.1 p.2) (bs.filter (qbq w.rk w.su))).2->qe2 ys (gs.map (gxO P))=false:=fun _ _ h=>absurd h no;clear hw5 hWT5 hS5 htb5 s6 no;left;refine qd6 (SqL.of elg) fun l1 hl1=>?_;have s7:=qa5 hl1 (.lst (gxV []));have el1:upd H6 l1 (.lst (gxV [])) l1=some (.lst (gxV [])):=qa1;generalize upd H6 l1 (.lst (gxV []))=H7 at*;left;refine⟨w,t,lh,l1,S,P,bs,ss,[],false,rfl,hw6.same s7,ok,hWT6.same s7,pss,qss,hs6,el1,fun x hx=>(hx6 x hx).1.same s7,#[],dN,dY,fun H8 s8=>?_⟩;have t8:=s7.trans s8;have elg8:=t8 _ _ elg;left;refine qd6 (SqL.of elg8) fun l2 hl2=>?_;have s9:=t8.trans (qa5 hl2 (.lst (gxV [])));have el2:upd H8 l2 (.lst (gxV [])) l2=some (.lst (gxV [])):=qa1;generalize upd H8 l2 (.lst (gxV []))=H9 at*;clear elg8 s7 s8 t8 el1;left;refine⟨a,ns,w,l2,[],P,sw,rfl,s9.seq hS6,h63,hw6.same s9,ok,enm,psw,qsw,el2,fun x hx=>⟨(hx6 x hx).1.same s9,(hx6 x hx).2⟩,hxl,s9 _ _ htb6,fun l3 ys H10 s10 n10 e10 al10 jx0 ne10=>?_⟩;have sn:=jah.trans (qas.sn s9) s10;have hw10:=hw6.sn sn;have hWT10:=hWT6.sn sn;clear el2 s9 s10 n10;left;refine⟨w,t,lh,l3,S,P,bs,ss,ys,false,rfl,hw10,ok,hWT10,pss,qss,hs6,e10,al10,#[],fun _=>rfl,dF ys ne10,fun H11 s11=>?_⟩;left;refine⟨w,lh,P,bs,rfl,hw10.same s11,ok,enm,(hWT10.same s11).wd.h,(hWT10.same s11).wd.ob,hbs,hU,fun H12 _=>?_⟩;exact q _
 have hw6:=hw3.same s5;have hWT6:=hWT.same s5;have hS6:=s5.seq hS3;have htb6:=s5 _ _ htb3;rw[<-jt1 P] at el;have elg:=el;have hx6:∀x∈gs.map (gxO P),jax H5 x/\x.k.length<=100:=fun x hx=>by
  obtain⟨g,hg,rfl⟩:=zJ.mp hx;exact⟨jnp (hG g hg).1 (had _ (hG g hg).2.1),k100 _ (hG g hg).2.1⟩
 have hxl:(gs.map (gxO P)).length<=30:=by
  have h1:=congrArg wV hgs;rw[zB] at h1;have h2:(clL P (pls (qac (elN P.es) w.h) ss) (fun p=>qbm S P (bs.filter (qb1 w.rk w.su)) (akF w) p.1 p.2) (bs.filter (qbq w.rk w.su))).2.length<=0+(bs.filter (qbq w.rk w.su)).length:=jns P _ _ _;have h3:=zU (qbq w.rk w.su) bs;have:=ok.r30;rw[zB];omega
 have dN:(∃p∈pls (qac (elN P.es) w.h) ss,qbm S P (bs.filter (qb1 w.rk w.su)) (akF w) p.1 p.2<0)->true=false:=fun⟨p,h1,h2⟩=>by
  have:=c5 p h1;omega
 have dF:∀ys:List Gx,qe2 ys (gs.map (gxO P))=false->(∀p∈pls (qac (elN P.es) w.h) ss,0<=qbm S P (bs.filter (qb1 w.rk w.su)) (akF w) p.1 p.2)->∀gs':List Gr,gs'.map (fun g=>(g.b,g.c))=(clL P (pls (qac (elN P.es) w.h) ss) (fun p=>qbm S P (bs.filter (qb1 w.rk w.su)) (akF w) p.1 p.2) (bs.filter (qbq w.rk w.su))).2->qe2 ys (gs'.map (gxO P))=false:=fun ys h _ gs' e=>by
  rw[jnq (P:=P) (l:=ys) (e.trans hgs.symm)];exact h
 have dY:(∀p∈pls (qac (elN P.es) w.h) ss,0<=qbm S P (bs.filter (qb1 w.rk w.su)) (akF w) p.1 p.2)->∀gs':List Gr,gs'.map (fun g=>(g.b,g.c))=(clL P (pls (qac (elN P.es) w.h) ss) (fun p=>qbm S P (bs.filter (qb1 w.rk w.su)) (akF w) p.1 p.2) (bs.filter (qbq w.rk w.su))).2->qe2 (gs.map (gxO P)) (gs'.map (gxO P))=true:=fun _ gs' e=>by
  rw[jnq (P:=P) (l:=gs.map (gxO P)) (e.trans hgs.symm)];exact jdn _
 generalize gs.map (gxO P)=xs at*;clear hw3 hWT hS3 htb3 s5 hG hgs;left;refine qce (fun σ' H6=>σ'=[sr a,sr w.wt,sr t,sr lh,sr l,some (V.bl true)]/\H6=H5) ?_ ?_
 .left;exact⟨rfl,rfl⟩
 rintro σ' H6 ⟨rfl,rfl⟩;left;refine qd6 (SqL.of elg) fun l1 hl1=>?_;have s7:=qa5 hl1 (.lst (gxV xs));have el1:upd H6 l1 (.lst (gxV xs)) l1=some (.lst (gxV xs)):=qa1;generalize upd H6 l1 (.lst (gxV xs))=H7 at*;left;refine⟨w,t,lh,l1,S,P,bs,ss,xs,true,rfl,hw6.same s7,ok,hWT6.same s7,pss,qss,hs6,el1,fun x hx=>(hx6 x hx).1.same s7,#[],dN,dY,fun H8 s8=>?_⟩;have t8:=s7.trans s8;have elg8:=t8 _ _ elg;left;refine qd6 (SqL.of elg8) fun l2 hl2=>?_;have s9:=t8.trans (qa5 hl2 (.lst (gxV xs)));have el2:upd H8 l2 (.lst (gxV xs)) l2=some (.lst (gxV xs)):=qa1;generalize upd H8 l2 (.lst (gxV xs))=H9 at*;clear elg8 s7 s8 t8 el1;left;refine⟨a,ns,w,l2,xs,P,sw,rfl,s9.seq hS6,h63,hw6.same s9,ok,enm,psw,qsw,el2,fun x hx=>⟨(hx6 x hx).1.same s9,(hx6 x hx).2⟩,hxl,s9 _ _ htb6,fun l3 ys H10 s10 n10 e10 al10 jx0 ne10=>?_⟩;have sn:=jah.trans (qas.sn s9) s10;have hw10:=hw6.sn sn;have hWT10:=hWT6.sn sn;clear el2 s9 s10 n10;left;refine⟨w,t,lh,l3,S,P,bs,ss,ys,false,rfl,hw10,ok,hWT10,pss,qss,hs6,e10,al10,#[],fun _=>rfl,dF ys ne10,fun H11 s11=>?_⟩;left;refine⟨w,lh,P,bs,rfl,hw10.same s11,ok,enm,(hWT10.same s11).wd.h,(hWT10.same s11).wd.ob,hbs,hU,fun H12 _=>?_⟩;exact q _
structure Fz(K:uT)(n:Str)(s:Stmt)(f:Addr)(fd:uL):Prop where
 a:xK K uR n=some (some (.ref f))
 F:Fun K n n s f fd
structure Fm(K:uT)(c:Addr)(n q:Str)(s:Stmt)(f:Addr)(fd:uL):Prop where
 a:vU K (.ref c) n=some (some (.ref f))
 F:Fun K n q s f fd
def Fz.m{K:uT}{n:Str}{s:Stmt}{f:Addr}{fd:uL}{h:vN}{mg:Str->Option uB}(g:Fz K n s f fd)(X:K.In h)(G:h.Ns uR mg):mg n=some (.ref f):=vM X G g.a
theorem ln0(h:p [])(us:List uB)(e:us.length=0):p us:=by
 cases us
 .exact h
 cases e
theorem ln1(h:∀x0:uB,p [x0])(us:List uB)(e:us.length=1):p us:=by
 cases us
 .cases e
 exact ln0 (p:=fun l=>p (_::l)) (h _) _ (xD e)
theorem ln2(h:∀x0 x1:uB,p [x0,x1])(us:List uB)(e:us.length=2):p us:=by
 cases us
 .cases e
 exact ln1 (p:=fun l=>p (_::l)) (h _) _ (xD e)
theorem ln3(h:∀x0 x1 x2:uB,p [x0,x1,x2])(us:List uB)(e:us.length=3):p us:=by
 cases us
 .cases e
 exact ln2 (p:=fun l=>p (_::l)) (h _) _ (xD e)
theorem ln4(h:∀x0 x1 x2 x3:uB,p [x0,x1,x2,x3])(us:List uB)(e:us.length=4):p us:=by
 cases us
 .cases e
 exact ln3 (p:=fun l=>p (_::l)) (h _) _ (xD e)
theorem ln5(h:∀x0 x1 x2 x3 x4:uB,p [x0,x1,x2,x3,x4])(us:List uB)(e:us.length=5):p us:=by
 cases us
 .cases e
 exact ln4 (p:=fun l=>p (_::l)) (h _) _ (xD e)
theorem ln6(h:∀x0 x1 x2 x3 x4 x5:uB,p [x0,x1,x2,x3,x4,x5])(us:List uB)(e:us.length=6):p us:=by
 cases us
 .cases e
 exact ln5 (p:=fun l=>p (_::l)) (h _) _ (xD e)
theorem ln7(h:∀x0 x1 x2 x3 x4 x5 x6:uB,p [x0,x1,x2,x3,x4,x5,x6])(us:List uB)(e:us.length=7):p us:=by
 cases us
 .cases e
 exact ln6 (p:=fun l=>p (_::l)) (h _) _ (xD e)
theorem ln8(h:∀x0 x1 x2 x3 x4 x5 x6 x7:uB,p [x0,x1,x2,x3,x4,x5,x6,x7])(us:List uB)(e:us.length=8):p us:=by
 cases us
 .cases e
 exact ln7 (p:=fun l=>p (_::l)) (h _) _ (xD e)
theorem ln9(h:∀x0 x1 x2 x3 x4 x5 x6 x7 x8:uB,p [x0,x1,x2,x3,x4,x5,x6,x7,x8])(us:List uB)(e:us.length=9):p us:=by
 cases us
 .cases e
 exact ln8 (p:=fun l=>p (_::l)) (h _) _ (xD e)
theorem jx0(h:∀x0 x1 x2 x3 x4 x5 x6 x7 x8 x9:uB,p [x0,x1,x2,x3,x4,x5,x6,x7,x8,x9])(us:List uB)(e:us.length=10):p us:=by
 cases us
 .cases e
 exact ln9 (p:=fun l=>p (_::l)) (h _) _ (xD e)
theorem txt_mk{K:uT}{h:vN}{mg:Str->Option uB}{fa:Addr}{f_z0 f_z1 f_z2 f_z3 f_z4 f_z5 f_z6 f_z7 f_z8 f_z9 f_z10 f_z11 f_z12 f_z13 f_z14 f_z15 f_z16 f_z17 f_z18 f_z19 f_z20 f_z21 f_z22 f_z23 f_z24 f_z25 f_z26 f_z27 f_z28 f_z29 f_z30 f_z31 f_z32 f_z33 f_z34 f_z35 f_z36 f_z37 f_z38 f_z39 f_z40 f_z41 f_z42 f_z43 f_z44 wc0 f_z46 f_z47 f_z48 f_z49 f_z50 f_z51 f_z52 f_z53 f_z54 f_z55 f_z56 f_z57 f_z58 f_z59 f_z60 f_z61 f_z62 f_z63 f_z64 f_z65 f_z66 f_z67 w03 w00 w0d w0c w4b w5r w6z w0e w1p w5q w2y w2x w47 w41:Addr}{d_z0 d_z1 d_z2 d_z3 d_z4 d_z5 d_z6 d_z7 d_z8 d_z9 d_z10 d_z11 d_z12 d_z13 d_z14 d_z15 d_z16 d_z17 d_z18 d_z19 d_z20 d_z21 d_z22 d_z23 d_z24 d_z25 d_z26 d_z27 d_z28 d_z29 d_z30 d_z31 d_z32 d_z33 d_z34 d_z35 d_z36 d_z37 d_z38 d_z39 d_z40 d_z41 d_z42 d_z43 d_z44 d_law d_z46 d_z49 d_z50 d_z51 d_z52 d_z53 d_z54 d_z55 d_z56 d_z57 d_z58 d_z59 d_z60 d_z61 d_z62 d_z63 d_z64 d_z65 d_z66 d_z67:uL}(X:K.In h)(G:h.Ns uR mg)(hfa:mg "law"=some (.ref fa))
  (g_z0:Fz K "is_whole" jbh f_z0 d_z0)
  (g_z1:Fz K "is_name" jbu f_z1 d_z1)
  (g_z2:Fz K "is_whole_from" jaj f_z2 d_z2)
  (g_z3:Fz K "is_amount" ja6 f_z3 d_z3)
  (g_z4:Fz K "amounts_of" ja1 f_z4 d_z4)
  (g_z5:Fz K "above_nought" jap f_z5 d_z5)
  (g_z6:Fz K "amount_of" ja7 f_z6 d_z6)
  (g_z7:Fz K "added" jec f_z7 d_z7)
  (g_z8:Fz K "beyond" jb1 f_z8 d_z8)
  (g_z9:Fz K "total_of" jbi f_z9 d_z9)
  (g_z10:Fz K "holds_beneath" jak f_z10 d_z10)
  (g_z11:Fz K "held_by" jbv f_z11 d_z11)
  (g_z12:Fz K "used" ji4 f_z12 d_z12)
  (g_z13:Fz K "fixed" jed f_z13 d_z13)
  (g_z14:Fz K "rooms_left" ja2 f_z14 d_z14)
  (g_z15:Fz K "parts_at" jbj f_z15 d_z15)
  (g_z16:Fz K "first_beyond" jaq f_z16 d_z16)
  (g_z17:Fz K "claims" jb2 f_z17 d_z17)
  (g_z18:Fz K "is_claims" ja8 f_z18 d_z18)
  (g_z19:Fz K "are_wares" ja9 f_z19 d_z19)
  (g_z20:Fz K "check_name" ja3 f_z20 d_z20)
  (g_z21:Fz K "read_house" ja4 f_z21 d_z21)
  (g_z22:Fz K "check_promises" jai f_z22 d_z22)
  (g_z23:Fz K "_law_cell" ji5 f_z23 d_z23)
  (g_z24:Fz K "_law_mix" jo8 f_z24 d_z24)
  (g_z25:Fz K "_law_name" ji6 f_z25 d_z25)
  (g_z26:Fz K "_law_lines" jee f_z26 d_z26)
  (g_z27:Fz K "_law_parts" jef f_z27 d_z27)
  (g_z28:Fz K "_law_rows" ji7 f_z28 d_z28)
  (g_z29:Fz K "_law_ends" ji8 f_z29 d_z29)
  (g_z30:Fz K "_law_sum" jo9 f_z30 d_z30)
  (g_z31:Fz K "_law_caps" ji9 f_z31 d_z31)
  (g_z32:Fz K "_law_world" jeg f_z32 d_z32)
  (g_z33:Fz K "_law_told" jja f_z33 d_z33)
  (g_z34:Fz K "_law_promises" jbk f_z34 d_z34)
  (g_z35:Fz K "_law_tree" jjb f_z35 d_z35)
  (g_z36:Fz K "_law_objects" jbw f_z36 d_z36)
  (g_z37:Fz K "_law_stay_so" jbx f_z37 d_z37)
  (g_z38:Fz K "_law_short" jeh f_z38 d_z38)
  (g_z39:Fz K "_law_asked" jei f_z39 d_z39)
  (g_z40:Fz K "_law_one_more" jbl f_z40 d_z40)
  (g_z41:Fz K "_law_other_amounts" jal f_z41 d_z41)
  (g_z42:Fz K "_law_one_else" jbm f_z42 d_z42)
  (g_z43:Fz K "_law_changed" jby f_z43 d_z43)
  (g_z44:Fz K "_law_tested" jb3 f_z44 d_z44)
  (g_law:Fz K "law" jpa wc0 d_law)
  (g_z46:Fm K w03 "__init__" "House.__init__" ja5 f_z46 d_z46)
  {od_z47 an_z47:Option Addr}{sl_z47:Array (Option uB)}{oc_z47 kV_z47 dc_z47 pm_z47 cd_z47 ct_z47 w0t:uB}{t_z47:Addr}
  (a_z47:vU K (.ref w00) "__init__"=some (some (.ref f_z47)))(l_z47:K.lookup f_z47=some ⟨oc_z47,od_z47,.func (fnOf "__init__" "Tree.__init__" (qcj jaf) (qbt jaf) (qaa jaf) (.ref t_z47) kV_z47 dc_z47 pm_z47 an_z47 cd_z47 ct_z47),sl_z47⟩)(c_z47:gX K cd_z47 "Tree.__init__"=true)(k_z47:dL K (.ref f_z47)=true)
  {ob_z47:Obj}{nn_z47:Nat}(tt_z47:K.lookup t_z47=some ob_z47)(td_z47:ob_z47.data=.seq (List.toArray [w0t]) nn_z47)(rd_z47:qba [.int 1] [w0t])
  {od_z48 an_z48:Option Addr}{sl_z48:Array (Option uB)}{oc_z48 kV_z48 dc_z48 pm_z48 cd_z48 ct_z48 w0j:uB}{t_z48:Addr}
  (a_z48:vU K (.ref w00) "found"=some (some (.ref f_z48)))(l_z48:K.lookup f_z48=some ⟨oc_z48,od_z48,.func (fnOf "found" "Tree.found" (qcj jad) (qbt jad) (qaa jad) (.ref t_z48) kV_z48 dc_z48 pm_z48 an_z48 cd_z48 ct_z48),sl_z48⟩)(c_z48:gX K cd_z48 "Tree.found"=true)(k_z48:dL K (.ref f_z48)=true)
  {ob_z48:Obj}{nn_z48:Nat}(tt_z48:K.lookup t_z48=some ob_z48)(td_z48:ob_z48.data=.seq (List.toArray [w0j]) nn_z48)(rd_z48:qba [.int 1] [w0j])
  (g_z49:Fm K w00 "wares" "Tree.wares" jbq f_z49 d_z49)
  (g_z50:Fm K w00 "names" "Tree.names" jbr f_z50 d_z50)
  (g_z51:Fm K w00 "has" "Tree.has" jbn f_z51 d_z51)
  (g_z52:Fm K w00 "check_house" "Tree.check_house" jae f_z52 d_z52)
  (g_z53:Fm K w00 "house_of" "Tree.house_of" jam f_z53 d_z53)
  (g_z54:Fm K w00 "elder_of" "Tree.elder_of" jan f_z54 d_z54)
  (g_z55:Fm K w00 "cap_of" "Tree.cap_of" jay f_z55 d_z55)
  (g_z56:Fm K w00 "kids" "Tree.kids" jba f_z56 d_z56)
  (g_z57:Fm K w00 "line" "Tree.line" jbb f_z57 d_z57)
  (g_z58:Fm K w00 "beneath" "Tree.beneath" jar f_z58 d_z58)
  (g_z59:Fm K w00 "promised_beneath" "Tree.promised_beneath" jac f_z59 d_z59)
  (g_z60:Fm K w00 "check_more" "Tree.check_more" jag f_z60 d_z60)
  (g_z61:Fm K w0d "__init__" "Hold.__init__" jbc f_z61 d_z61)
  (g_z62:Fm K w0d "is_sure" "Hold.is_sure" jas f_z62 d_z62)
  (g_z63:Fm K w0d "may_end" "Hold.may_end" jat f_z63 d_z63)
  (g_z64:Fm K w0d "told" "Hold.told" jbd f_z64 d_z64)
  (g_z65:Fm K w0c "is_sure" "Loan.is_sure" jau f_z65 d_z65)
  (g_z66:Fm K w0c "may_end" "Loan.may_end" jav f_z66 d_z66)
  (g_z67:Fm K w1p "__init__" "NoPromise.__init__" jbf f_z67 d_z67)
  (qi_z67:jh3 K w1p f_z67=true)(hi_z67:isFn K (.ref f_z67)=true)
  (a_House:xK K uR "House"=some (some (.ref w03)))
  (a_Tree:xK K uR "Tree"=some (some (.ref w00)))
  (a_Hold:xK K uR "Hold"=some (some (.ref w0d)))
  (a_Loan:xK K uR "Loan"=some (some (.ref w0c)))
  (a_TreeError:xK K uR "TreeError"=some (some (.ref w4b)))
  (a_NoName:xK K uR "NoName"=some (some (.ref w5r)))
  (a_Taken:xK K uR "Taken"=some (some (.ref w6z)))
  (a_NoHouse:xK K uR "NoHouse"=some (some (.ref w0e)))
  (a_NoPromise:xK K uR "NoPromise"=some (some (.ref w1p)))
  (a_NoWare:xK K uR "NoWare"=some (some (.ref w5q)))
  (a_NoAmount:xK K uR "NoAmount"=some (some (.ref w2y)))
  (a_NoNumber:xK K uR "NoNumber"=some (some (.ref w2x)))
  (a_TooMany:xK K uR "TooMany"=some (some (.ref w47)))
  (a_TooDeep:xK K uR "TooDeep"=some (some (.ref w41)))
  {w43:uB}(a_LETTERS:xK K uR "LETTERS"=some (some w43))(w57:qb8 (.str "abcdefghijklmnopqrstuvwxyz") w43)
  {w0w:uB}(a_LONGEST_NAME:xK K uR "LONGEST_NAME"=some (some w0w))(w1j:qb8 (.int 8) w0w)
  {w1s:uB}(a_MOST_WARES:xK K uR "MOST_WARES"=some (some w1s))(w2f:qb8 (.int 6) w1s)
  {w1f:uB}(a_MOST_HOUSES:xK K uR "MOST_HOUSES"=some (some w1f))(w1u:qb8 (.int 40) w1f)
  {w0z:uB}(a_LONGEST_LINE:xK K uR "LONGEST_LINE"=some (some w0z))(w1g:qb8 (.int 12) w0z)
  {w0f:uB}(a_GREATEST_WEIGHT:xK K uR "GREATEST_WEIGHT"=some (some w0f))(w0r:qb8 (.int 1000) w0f)
  (q_NoHouse:fV K w0e [.type "ValueError",.type "Exception",.type "BaseException",.type "object"] "ValueError.__new__"=true)
  (q_NoAmount:fV K w2y [.type "ValueError",.type "Exception",.type "BaseException",.type "object"] "ValueError.__new__"=true)
  (q_NoWare:fV K w5q [.type "ValueError",.type "Exception",.type "BaseException",.type "object"] "ValueError.__new__"=true)
  (q_NoName:fV K w5r [.type "ValueError",.type "Exception",.type "BaseException",.type "object"] "ValueError.__new__"=true)
  (q_NoNumber:fV K w2x [.type "ValueError",.type "Exception",.type "BaseException",.type "object"] "ValueError.__new__"=true)
  (q_Taken:fV K w6z [.type "ValueError",.type "Exception",.type "BaseException",.type "object"] "ValueError.__new__"=true)
  (q_TooMany:fV K w47 [.type "ValueError",.type "Exception",.type "BaseException",.type "object"] "ValueError.__new__"=true)
  (q_TooDeep:fV K w41 [.type "ValueError",.type "Exception",.type "BaseException",.type "object"] "ValueError.__new__"=true)
  (w1c:jao K w0d "is_sure" f_z62)
  (w17:jao K w0c "is_sure" f_z65)
  (w2e:jao K w0d "told" f_z64)
  (w2j:jao K w0c "told" f_z64)
  (w0p:jao K w0d "may_end" f_z63)
  (w0o:jao K w0c "may_end" f_z66)
  (w1l:Cls K w03)
  (w01:Cls K w00)
  (w6p:Mk K w03 f_z46)
  (w8g:Mk K w00 f_z47)
  (w4f:Cls K w0d)
  (w3s:Cls K w0c)
  (w84:Mk K w0d f_z61)
  (w7y:Mk K w0c f_z61)
  (w24:jao K w00 "found" f_z48)
  (w2w:jao K w00 "wares" f_z49)
  (w2v:jao K w00 "names" f_z50)
  (w26:jao K w00 "has" f_z51)
  (w04:jao K w00 "check_house" f_z52)
  (w0h:jao K w00 "house_of" f_z53)
  (w0i:jao K w00 "elder_of" f_z54)
  (w1i:jao K w00 "cap_of" f_z55)
  (w2g:jao K w00 "kids" f_z56)
  (w19:jao K w00 "line" f_z57)
  (w0a:jao K w00 "beneath" f_z58)
  (w05:jao K w00 "promised_beneath" f_z59)
  (w0l:jao K w00 "check_more" f_z60)
  (w0m:vU K (.ref w03) "elder"=some none)
  (w08:vU K (.ref w03) "promise"=some none)
  (w0k:vU K (.ref w03) "cap"=some none)
  (w16:vU K (.ref w03) "weight"=some none)
  (w06:vU K (.ref w00) "sorted_wares"=some none)
  (w02:vU K (.ref w00) "houses"=some none)
  (w1k:vU K (.ref w0d) "number"=some none)
  (w1v:vU K (.ref w0d) "house"=some none)
  (w1d:vU K (.ref w0d) "amounts"=some none)
  (w2h:vU K (.ref w0d) "rank"=some none)
  (w1t:vU K (.ref w0d) "turns"=some none)
  (w1h:vU K (.ref w0c) "number"=some none)
  (w1x:vU K (.ref w0c) "house"=some none)
  (w1a:vU K (.ref w0c) "amounts"=some none)
  (w1r:vU K (.ref w0c) "rank"=some none)
  (w1y:vU K (.ref w0c) "turns"=some none)
  (y_all:xK K uR "all"=some none)
  (y_any:xK K uR "any"=some none)
  (y_bool:xK K uR "bool"=some none)
  (y_dict:xK K uR "dict"=some none)
  (y_int:xK K uR "int"=some none)
  (y_isinstance:xK K uR "isinstance"=some none)
  (y_len:xK K uR "len"=some none)
  (y_list:xK K uR "list"=some none)
  (y_max:xK K uR "max"=some none)
  (y_min:xK K uR "min"=some none)
  (y_range:xK K uR "range"=some none)
  (y_set:xK K uR "set"=some none)
  (y_sorted:xK K uR "sorted"=some none)
  (y_str:xK K uR "str"=some none)
  (y_sum:xK K uR "sum"=some none)
  (y_zip:xK K uR "zip"=some none)
  :∃d:Ad,Tx K mg d/\fa=d.wc0/\∀(s:uD)(v:uB),dQ s d.wat ⟨[v],[]⟩ [("_law_script",v)]:=by
 have e:=hfa.symm.trans (g_law.m X G)
 cases e
 have Fl:=g_law.F;obtain⟨_,_,_,_,_,_,_,_,_,rfl,_,_⟩:=Fl.ex;have F_z47:=jij (st:=jaf) l_z47 c_z47 k_z47 tt_z47 td_z47;have b_z47:qap K _ ["self","wares","name","promise","cap","weight"] []:=F_z47.binds (ps:=["self","wares","name","promise","cap","weight"]) fun _ _ _ _ _ _ us hl=>by have e:us.length=6:=(by simpa using hl);clear hl;revert us e;exact ln6 fun _ _ _ _ _ _=>by first|exact .inl rfl|exact .inr ⟨_,rfl,rfl⟩
 have b1_z47:qap K _ ["self","wares","name","promise","cap","weight"] [w0t]:=F_z47.binds (ps:=["self","wares","name","promise","cap","weight"]) fun _ _ _ _ _ _ us hl=>by have e:us.length=5:=(by simpa using hl);clear hl;revert us e;exact ln5 fun _ _ _ _ _=>by first|exact .inl rfl|exact .inr ⟨_,rfl,rfl⟩
 have F_z48:=jij (st:=jad) l_z48 c_z48 k_z48 tt_z48 td_z48;have b_z48:qap K _ ["self","name","elder","promise","cap","weight"] []:=F_z48.binds (ps:=["self","name","elder","promise","cap","weight"]) fun _ _ _ _ _ _ us hl=>by have e:us.length=6:=(by simpa using hl);clear hl;revert us e;exact ln6 fun _ _ _ _ _ _=>by first|exact .inl rfl|exact .inr ⟨_,rfl,rfl⟩
 have b1_z48:qap K _ ["self","name","elder","promise","cap","weight"] [w0j]:=F_z48.binds (ps:=["self","name","elder","promise","cap","weight"]) fun _ _ _ _ _ _ us hl=>by have e:us.length=5:=(by simpa using hl);clear hl;revert us e;exact ln5 fun _ _ _ _ _=>by first|exact .inl rfl|exact .inr ⟨_,rfl,rfl⟩
 refine⟨⟨_,_,_,_,_,_,_,_,_,_,_,_,_,_,_,_,_,_,_,_,_,_,_,_,_,_,_,_,_,_,_,_,_,_,_,_,_,_,_,_,_,_,_,_,_,_,_,_,_,_,_,_,_,_,_,_,_,_,_,_,_,_,_,_,_,_,_,_,_,_,_,_,_,_,_,_,_,_,_,_,_,_,_,_,_,_,_,_,_,_,_,_,_,_,_,_,t_z47,w0t,_,_,t_z48,w0j,_,_,_,_,_,_,_,_,_,_,_,_,_,_,_,_,_,_,_,_,_,_,_,_,_,_,_,_,_,_,_,_,_,_,_,_,_,_,w03,w00,w0d,w0c,w4b,w5r,w6z,w0e,w1p,w5q,w2y,w2x,w47,w41,w43,w0w,w1s,w1f,w0z,w0f⟩,⟨g_z0.F,g_z0.m X G,g_z0.F.binds fun _ _ _ _ _ _=>ln1 fun _=>rfl,g_z1.F,g_z1.m X G,g_z1.F.binds fun _ _ _ _ _ _=>ln1 fun _=>rfl,g_z2.F,g_z2.m X G,g_z2.F.binds fun _ _ _ _ _ _=>ln3 fun _ _ _=>rfl,g_z3.F,g_z3.m X G,g_z3.F.binds fun _ _ _ _ _ _=>ln1 fun _=>rfl,g_z4.F,g_z4.m X G,g_z4.F.binds fun _ _ _ _ _ _=>ln2 fun _ _=>rfl,g_z5.F,g_z5.m X G,g_z5.F.binds fun _ _ _ _ _ _=>ln1 fun _=>rfl,g_z6.F,g_z6.m X G,g_z6.F.binds fun _ _ _ _ _ _=>ln2 fun _ _=>rfl,g_z7.F,g_z7.m X G,g_z7.F.binds fun _ _ _ _ _ _=>ln2 fun _ _=>rfl,g_z8.F,g_z8.m X G,g_z8.F.binds fun _ _ _ _ _ _=>ln2 fun _ _=>rfl,g_z9.F,g_z9.m X G,g_z9.F.binds fun _ _ _ _ _ _=>ln1 fun _=>rfl,g_z10.F,g_z10.m X G,g_z10.F.binds fun _ _ _ _ _ _=>ln3 fun _ _ _=>rfl,g_z11.F,g_z11.m X G,g_z11.F.binds fun _ _ _ _ _ _=>ln1 fun _=>rfl,g_z12.F,g_z12.m X G,g_z12.F.binds fun _ _ _ _ _ _=>ln3 fun _ _ _=>rfl,g_z13.F,g_z13.m X G,g_z13.F.binds fun _ _ _ _ _ _=>ln3 fun _ _ _=>rfl,g_z14.F,g_z14.m X G,g_z14.F.binds fun _ _ _ _ _ _=>ln4 fun _ _ _ _=>rfl,g_z15.F,g_z15.m X G,g_z15.F.binds fun _ _ _ _ _ _=>ln3 fun _ _ _=>rfl,g_z16.F,g_z16.m X G,g_z16.F.binds fun _ _ _ _ _ _=>ln2 fun _ _=>rfl,g_z17.F,g_z17.m X G,g_z17.F.binds fun _ _ _ _ _ _=>ln6 fun _ _ _ _ _ _=>rfl,g_z18.F,g_z18.m X G,g_z18.F.binds fun _ _ _ _ _ _=>ln7 fun _ _ _ _ _ _ _=>rfl,g_z19.F,g_z19.m X G,g_z19.F.binds fun _ _ _ _ _ _=>ln1 fun _=>rfl,g_z20.F,g_z20.m X G,g_z20.F.binds fun _ _ _ _ _ _=>ln1 fun _=>rfl,g_z21.F,g_z21.m X G,g_z21.F.binds fun _ _ _ _ _ _=>ln5 fun _ _ _ _ _=>rfl,g_z22.F,g_z22.m X G,g_z22.F.binds fun _ _ _ _ _ _=>ln3 fun _ _ _=>rfl,g_z23.F,g_z23.m X G,g_z23.F.binds fun _ _ _ _ _ _=>ln2 fun _ _=>rfl,g_z24.F,g_z24.m X G,g_z24.F.binds fun _ _ _ _ _ _=>ln3 fun _ _ _=>rfl,g_z25.F,g_z25.m X G,g_z25.F.binds fun _ _ _ _ _ _=>ln2 fun _ _=>rfl,g_z26.F,g_z26.m X G,g_z26.F.binds fun _ _ _ _ _ _=>ln2 fun _ _=>rfl,g_z27.F,g_z27.m X G,g_z27.F.binds fun _ _ _ _ _ _=>ln3 fun _ _ _=>rfl,g_z28.F,g_z28.m X G,g_z28.F.binds fun _ _ _ _ _ _=>ln5 fun _ _ _ _ _=>rfl,g_z29.F,g_z29.m X G,g_z29.F.binds fun _ _ _ _ _ _=>ln2 fun _ _=>rfl,g_z30.F,g_z30.m X G,g_z30.F.binds fun _ _ _ _ _ _=>ln4 fun _ _ _ _=>rfl,g_z31.F,g_z31.m X G,g_z31.F.binds fun _ _ _ _ _ _=>ln4 fun _ _ _ _=>rfl,g_z32.F,g_z32.m X G,g_z32.F.binds fun _ _ _ _ _ _=>ln2 fun _ _=>rfl,g_z33.F,g_z33.m X G,g_z33.F.binds fun _ _ _ _ _ _=>ln2 fun _ _=>rfl,g_z34.F,g_z34.m X G,g_z34.F.binds fun _ _ _ _ _ _=>ln3 fun _ _ _=>rfl,g_z35.F,g_z35.m X G,g_z35.F.binds fun _ _ _ _ _ _=>ln2 fun _ _=>rfl,g_z36.F,g_z36.m X G,g_z36.F.binds fun _ _ _ _ _ _=>ln1 fun _=>rfl,g_z37.F,g_z37.m X G,g_z37.F.binds fun _ _ _ _ _ _=>ln2 fun _ _=>rfl,g_z38.F,g_z38.m X G,g_z38.F.binds fun _ _ _ _ _ _=>ln2 fun _ _=>rfl,g_z39.F,g_z39.m X G,g_z39.F.binds fun _ _ _ _ _ _=>ln3 fun _ _ _=>rfl,g_z40.F,g_z40.m X G,g_z40.F.binds fun _ _ _ _ _ _=>ln3 fun _ _ _=>rfl,g_z41.F,g_z41.m X G,g_z41.F.binds fun _ _ _ _ _ _=>ln3 fun _ _ _=>rfl,g_z42.F,g_z42.m X G,g_z42.F.binds fun _ _ _ _ _ _=>ln5 fun _ _ _ _ _=>rfl,g_z43.F,g_z43.m X G,g_z43.F.binds fun _ _ _ _ _ _=>ln3 fun _ _ _=>rfl,g_z44.F,g_z44.m X G,g_z44.F.binds fun _ _ _ _ _ _=>ln5 fun _ _ _ _ _=>rfl,Fl,g_law.m X G,g_z46.F,g_z46.F.binds fun _ _ _ _ _ _=>ln5 fun _ _ _ _ _=>rfl,F_z47,b_z47,b1_z47,rd_z47,F_z48,b_z48,b1_z48,rd_z48,g_z49.F,g_z49.F.binds fun _ _ _ _ _ _=>ln1 fun _=>rfl,g_z50.F,g_z50.F.binds fun _ _ _ _ _ _=>ln1 fun _=>rfl,g_z51.F,g_z51.F.binds fun _ _ _ _ _ _=>ln2 fun _ _=>rfl,g_z52.F,g_z52.F.binds fun _ _ _ _ _ _=>ln2 fun _ _=>rfl,g_z53.F,g_z53.F.binds fun _ _ _ _ _ _=>ln2 fun _ _=>rfl,g_z54.F,g_z54.F.binds fun _ _ _ _ _ _=>ln2 fun _ _=>rfl,g_z55.F,g_z55.F.binds fun _ _ _ _ _ _=>ln2 fun _ _=>rfl,g_z56.F,g_z56.F.binds fun _ _ _ _ _ _=>ln2 fun _ _=>rfl,g_z57.F,g_z57.F.binds fun _ _ _ _ _ _=>ln2 fun _ _=>rfl,g_z58.F,g_z58.F.binds fun _ _ _ _ _ _=>ln2 fun _ _=>rfl,g_z59.F,g_z59.F.binds fun _ _ _ _ _ _=>ln2 fun _ _=>rfl,g_z60.F,g_z60.F.binds fun _ _ _ _ _ _=>ln3 fun _ _ _=>rfl,g_z61.F,g_z61.F.binds fun _ _ _ _ _ _=>ln6 fun _ _ _ _ _ _=>rfl,g_z62.F,g_z62.F.binds fun _ _ _ _ _ _=>ln1 fun _=>rfl,g_z63.F,g_z63.F.binds fun _ _ _ _ _ _=>ln3 fun _ _ _=>rfl,g_z64.F,g_z64.F.binds fun _ _ _ _ _ _=>ln1 fun _=>rfl,g_z65.F,g_z65.F.binds fun _ _ _ _ _ _=>ln1 fun _=>rfl,g_z66.F,g_z66.F.binds fun _ _ _ _ _ _=>ln3 fun _ _ _=>rfl,g_z67.F,joo qi_z67 hi_z67,g_z67.F.binds fun _ _ _ _ _ _=>ln3 fun _ _ _=>rfl,vM X G a_House,vM X G a_Tree,vM X G a_Hold,vM X G a_Loan,vM X G a_TreeError,vM X G a_NoName,vM X G a_Taken,vM X G a_NoHouse,vM X G a_NoPromise,vM X G a_NoWare,vM X G a_NoAmount,vM X G a_NoNumber,vM X G a_TooMany,vM X G a_TooDeep,vM X G a_LETTERS,w57,vM X G a_LONGEST_NAME,w1j,vM X G a_MOST_WARES,w2f,vM X G a_MOST_HOUSES,w1u,vM X G a_LONGEST_LINE,w1g,vM X G a_GREATEST_WEIGHT,w0r,vK X G y_all,vK X G y_any,vK X G y_bool,vK X G y_dict,vK X G y_int,vK X G y_isinstance,vK X G y_len,vK X G y_list,vK X G y_max,vK X G y_min,vK X G y_range,vK X G y_set,vK X G y_sorted,vK X G y_str,vK X G y_sum,vK X G y_zip,w1c,w17,w2e,w2j,w0p,w0o,w1l,w01,w6p,w8g,w4f,w3s,w84,w7y,w24,w2w,w2v,w26,w04,w0h,w0i,w1i,w2g,w19,w0a,w05,w0l,w0m,w08,w0k,w16,w06,w02,w1k,w1v,w1d,w2h,w1t,w1h,w1x,w1a,w1r,w1y,qd3 q_NoHouse,qd3 q_NoAmount,qd3 q_NoWare,qd3 q_NoName,qd3 q_NoNumber,qd3 q_Taken,qd3 q_TooMany,qd3 q_TooDeep⟩,rfl,fun s v=> .of_eq rfl⟩
theorem walk{l:PySem.W.OpenLaw}{q:uX}{loose:List Str}{XP:(Str->Option uB)->vN->Prop}{YP:vG->vN->Prop}{e:DefRec}{K:Params->uT}(hn:l.most=some 63)(hdf:e.params.defaults=[])(hlaw:e.name= "law")
  (hY:∀(w:vG)(h:vN),YP w h->(K w.params).In h){dy:DefRec}(hrec:(PyProof.Rows.recsOf q).find? (fun e=>e.name==("_law_one_more":Str))=some dy)(tab:∀w:vG,∃c p,tabIn (K w.params) "_law_one_more"=some (c,p)/\(K w.params).lookup p=none)
  (F:∀(w:vG)(mg:Str->Option uB)(fa:Addr)(h:vN),(K w.params).In h->h.Ns uR mg->mg "law"=some (.ref fa)->∃d:Ad,Tx (K w.params) mg d/\fa=d.wc0/\∀(s:uD)(v:uB),dQ s d.wat ⟨[v],[]⟩ [("_law_script",v)]):
  PySem.W.WalkO q loose XP YP l.row.toRowW e [] (fun f vs=>PySem.call f vs):=by
 refine jk5 (n:=63) (k:=28) (x:="_law_script") (y:="_law_one_more") (CX:=fun _=>CX0) (sp:=fun w _ p=>jj4 (K w.params) p) hn ∅ hdf ⟨rfl,∅,∅⟩ hY hrec tab (fun w mg fa h c p KX G hm ht=>?_) (fun _ _ _ _ a ns hl hp hS=>⟨a,ns,rfl,hS,hl,hp,fun _=>rfl⟩) fun _ _ _ _ _ z=>z;rw[hlaw] at hm;obtain⟨d,T,rfl,hb⟩:=F w mg fa h KX G hm;exact⟨d.wat,hb,fun base kin hns C bm=>(jt7 (P:=l.prog) (w:=w) (base:=base) T (wbp T kin hns ht C bm)).imp fun vs H Q E q=>q⟩
end Our
namespace PySem.W.Fast
def tw7716751891501362470:=Nat
def tw5272717095092414990:=Nat
def tw12011211566735677631:=Nat
def tw12644660013501851096:=Nat
def tw9328226380929567226:=Nat
def tw4497959326644440051:=Nat
def tw12265732745543045435:=Nat
def tw1396507228697198520:=Nat
def tw15613112789799294330:=Nat
def tw486577289997136328:=Nat
def tw3574160782626501071:=Nat
def tw8075592914714279810:=Nat
def tw8112711146413819751:=Nat
def tw18195875919711545288:=Nat
def tw163681528721053241:=Nat
def tw482532759789045037:=Nat
def tw2028569870817417653:=Nat
def tw8655495108628567304:=Nat
def tw14556857612234397202:=Nat
def tw18328145561179074343:=Nat
def tw10077049155390625560:=Nat
def tw13596027408560589067:=Nat
def tw10404425955347188735:=Nat
def tw14483552459811111398:=Nat
def tw6750536824529570540:=Nat
def tw16341002028300913280:=Nat
def tw8385409483598728291:=Nat
def tw6267195922182534972:=Nat
def tw7729498221143435700:=Nat
def tw11196314349193320798:=Nat
def tw16174306930813187573:=Nat
def tw11663806968124821296:=Nat
def tw17346073035597952638:=Nat
def tw12191497115798545893:=Nat
def tw13010844275503792996:=Nat
def tw3378299498098836081:=Nat
def tw4209143807943069660:=Nat
def tw13889548379606511491:=Nat
def tw15153446253684521251:=Nat
def tw13902153383188335455:=Nat
def tw5610260374621902839:=Nat
def tw2044580731193735341:=Nat
def tw16464093885676149906:=Nat
def tw4810208518234955252:=Nat
def tw2212304621431408838:=Nat
def tw2793063129938379969:=Nat
def tw9182964562045908825:=Nat
def tw685639308289071651:=Nat
def tw2902017431321811925:=Nat
def tw15286675498548701039:=Nat
def tw11993730083282624214:=Nat
def tw10891910975743142887:=Nat
def tw10007481521190156285:=Nat
def tw18098264064604629251:=Nat
def tw4246589812037235356:=Nat
def tw622338316012810451:=Nat
def tw2590838438617436018:=Nat
def tw12184541510640290894:=Nat
def tw9428222657345445166:=Nat
def tw16711657532588620197:=Nat
def tw5790451868577056130:=Nat
def tw15900795119752445257:=Nat
def tw2261854659083382104:=Nat
def tw5412389050831024866:=Nat
def tw1344445024185352891:=Nat
def tw2916410280425405520:=Nat
def tw1177361331684374356:=Nat
def tw10015561599954491277:=Nat
def tw6346476566736464761:=Nat
def tw8718174900404055191:=Nat
def tw14420647961345096811:=Nat
def tw10950155092671551519:=Nat
def tw11571131456541844052:=Nat
def tw8857304361967078163:=Nat
def tw9799884266365281212:=Nat
def tw5995038006400631161:=Nat
def tw5851714809467415326:=Nat
def tw2307920023935319479:=Nat
def tw640093943110088686:=Nat
def tw10957989180738046492:=Nat
def tw1292393824804171695:=Nat
def tw16644691433944010141:=Nat
def tw9844427655640354783:=Nat
def tw12721414954183694040:=Nat
def tw492474877993346258:=Nat
def tw11460129066217708656:=Nat
def tw12088719012243126051:=Nat
def tw13647169311337957062:=Nat
def tw10136136122635650592:=Nat
def tw3145385928124764522:=Nat
def tw13023922701919696471:=Nat
def tw9938744618404221375:=Nat
def tw1706279400059425165:=Nat
def tw10635721662189141943:=Nat
def tw13145886127166215842:=Nat
def tw16669801453218721551:=Nat
def tw2221832748347037728:=Nat
def tw17520202633200039254:=Nat
def tw865981010342484378:=Nat
def tw11036942112698518617:=Nat
def tw18320993634058800513:=Nat
def tw224470487382490484:=Nat
def tw12687613375393614350:=Nat
def tw9172056534342194169:=Nat
def tw7808903273490760275:=Nat
def tw10559908101878096683:=Nat
def tw5528830251373642417:=Nat
def tw13599365113656655308:=Nat
def tw9010224036995869974:=Nat
def tw4386390338303846278:=Nat
def tw6989615720040003529:=Nat
def tw9854182574653062648:=Nat
def tw12018453974032425892:=Nat
def tw13072849158885230231:=Nat
def tw8407802454272320302:=Nat
def tw16806234440884943210:=Nat
def tw11490050660525847766:=Nat
def tw4313840673157409530:=Nat
def tw1990079701967422128:=Nat
def tw17013501412618762516:=Nat
def tw13863293695282259589:=Nat
def tw4286692636322758557:=Nat
def tw13234283831106566834:=Nat
def tw2102741448801119508:=Nat
def tw3967042455005366449:=Nat
def tw10620624155508644090:=Nat
def tw7783190963936754851:=Nat
def tw10019949018139828931:=Nat
def tw10950397221002003323:=Nat
def tw1993948864630496788:=Nat
def tw7887400828704206064:=Nat
def tw5010198406160084458:=Nat
def tw8975809351712074454:=Nat
def tw10575819756440257981:=Nat
def tw8310194994422402675:=Nat
def tw10474277139706083732:=Nat
def tw16327476988609417038:=Nat
def tw11835131780464185663:=Nat
def tw6786720096373531126:=Nat
def tw2849075993125892274:=Nat
def tw2394221282433271909:=Nat
def tw17125912596101564250:=Nat
def tw16569876271589354775:=Nat
def tw13377889462141490818:=Nat
def tw467875865892275448:=Nat
def tw8387626163285815235:=Nat
def tw6677405526281375892:=Nat
def tw10307787326798262682:=Nat
def tw6331789570852602235:=Nat
def tw1280106260237403362:=Nat
def tw1013625175316232904:=Nat
def tw258869709619395074:=Nat
def tw3574115018191477554:=Nat
def tw7240597723533879752:=Nat
def tw3093778509949335098:=Nat
def tw9477851825917319614:=Nat
def tw18174017814171452313:=Nat
def tw15508339528256254388:=Nat
def tw6583701140352097056:=Nat
def tw3014729076986820407:=Nat
def tw2486064778116712514:=Nat
def tw13968932433936724720:=Nat
def tw5805037553486147414:=Nat
def tw5722763086781192604:=Nat
def tw9670294347606186090:=Nat
def tw213201339074447269:=Nat
def tw2540929037365242255:=Nat
def tw7356853720777442560:=Nat
def tw17700524958596974824:=Nat
def tw13979155651021533338:=Nat
def tw16097803867801683955:=Nat
def tw10386593901761061033:=Nat
def tw8262691055353607975:=Nat
def tw12082135726794705844:=Nat
def tw7263722952743734414:=Nat
def tw7804577483663652431:=Nat
def tw3573673032087513806:=Nat
def tw7713573057368284829:=Nat
def tw7352714704569553804:=Nat
def tw5738511373080547050:=Nat
def tw9973094750422024295:=Nat
def tw11613150300098203948:=Nat
def tw8045484775029129549:=Nat
def tw786343062594145353:=Nat
def tw13220965614721342259:=Nat
def tw8999914767244197373:=Nat
def tw8224657501938031761:=Nat
def tw2230214526564560769:=Nat
def tw13314509311815880062:=Nat
def tw12305611522872976425:=Nat
def tw11839889074822729046:=Nat
def tw17603978545627044348:=Nat
def tw12678648903009802722:=Nat
def tw17606887154725769102:=Nat
def tw5069312940154399720:=Nat
def tw8492334354763741729:=Nat
def tw362435577483560611:=Nat
def tw4241110432782487147:=Nat
def tw2442901503364105421:=Nat
def tw1878119448133305504:=Nat
def tw15457930619321159631:=Nat
def tw2845799544727156359:=Nat
def tw13016491126653210173:=Nat
def tw17665781574862540864:=Nat
def tw11289538609756299630:=Nat
def tw4109011913030740869:=Nat
def tw15248985455924816939:=Nat
def tw14705447618896905573:=Nat
def tw9760324209027491412:=Nat
def tw196096151994285568:=Nat
def tw12655562252580636867:=Nat
def tw6053984659438442874:=Nat
def tw1116280139775438071:=Nat
def tw17559778963032741597:=Nat
def tw15175421039308245592:=Nat
def tw12855771221569379473:=Nat
def tw1798384318167514821:=Nat
def tw6270048019352648227:=Nat
def tw10733292084365255803:=Nat
def tw5140725237989833789:=Nat
def tw8035953438606339663:=Nat
def tw12709057230675364003:=Nat
def tw10248444061189212755:=Nat
def tw13969363584787882900:=Nat
def tw11523224758058690278:=Nat
def tw6113246837537584101:=Nat
def tw2236538053116205802:=Nat
def tw14102589872813774072:=Nat
def tw16798632776558041651:=Nat
def tw12801875435271730179:=Nat
def tw6306818863131928680:=Nat
def tw11522396179582095068:=Nat
def tw7673433173391959102:=Nat
def tw37927010640890606:=Nat
def tw11522141695564239269:=Nat
def tw7986662617929680883:=Nat
def tw4379595869839334467:=Nat
def tw9206483663025775522:=Nat
def tw9555754308623286271:=Nat
def tw16029812043195748747:=Nat
def tw4815265309646357247:=Nat
def tw9728068379586769579:=Nat
def tw7211713708454603143:=Nat
def tw4916177395754898540:=Nat
def tw5104014700361921955:=Nat
def tw3773980953019516574:=Nat
def tw12736742284366729703:=Nat
def tw16092969242975758995:=Nat
def tw8892481895310454515:=Nat
def tw14204937438367251598:=Nat
def tw13475969759991742395:=Nat
def tw7271362686162022157:=Nat
def tw6094048190920827318:=Nat
def tw5905028901535697679:=Nat
def tw4169947940849772475:=Nat
def tw17735998948298964933:=Nat
def tw17096661046586387467:=Nat
def tw17988002362705802999:=Nat
def tw16577795348814569016:=Nat
def tw7492034537501510541:=Nat
def tw8582486936134216064:=Nat
def tw2962700394012914944:=Nat
def tw7396089021147988777:=Nat
def tw13356690886494550499:=Nat
def tw1029781939183332509:=Nat
def tw5326216520127987344:=Nat
def tw16578286071131570048:=Nat
def tw3707667953483312402:=Nat
def tw16893263316196549688:=Nat
def tw1469458862268148854:=Nat
def tw10528976330515429803:=Nat
def tw16788388585302422397:=Nat
def tw14706149203784977600:=Nat
def tw13254153231177758473:=Nat
def tw15054351473955596643:=Nat
def tw15704756975057421754:=Nat
def tw13354753891814259069:=Nat
def tw7454924675678419436:=Nat
def tw4225386574268818690:=Nat
def tw10147269408144788300:=Nat
def tw5237146063864195616:=Nat
def tw11414176822125191194:=Nat
def tw14442555875064570010:=Nat
def tw7625653035700216579:=Nat
def tw5533075733958516516:=Nat
def tw9125334547746069520:=Nat
def tw8266647340085126808:=Nat
def tw10381966832815985723:=Nat
def tw5026274949310894856:=Nat
def tw13644398962802140051:=Nat
def tw17215194695186640043:=Nat
def tw17142126938431473464:=Nat
def tw1168656793236501328:=Nat
def tw1151800886170016910:=Nat
def tw22882177510293880:=Nat
def tw768002295463540197:=Nat
def tw2263102509027522187:=Nat
def tw16241345897593733382:=Nat
def tw14806694247483974907:=Nat
def tw10011016711196561364:=Nat
def tw3280346295807687031:=Nat
def tw1856404532496678407:=Nat
def tw17597350007589035994:=Nat
def tw9820751051828002275:=Nat
def tw195242065961809073:=Nat
def tw14422890708056475224:=Nat
def tw17819190416561026561:=Nat
def tw4843379665830165017:=Nat
def tw18318889045431076926:=Nat
def tw17855336817772388675:=Nat
def tw9169816651548246307:=Nat
def tw728541765118603292:=Nat
def tw4875546658748600485:=Nat
def tw1662986232105952555:=Nat
def tw16422623304079768625:=Nat
def tw12959389701558688403:=Nat
def tw13405251493859453161:=Nat
def tw713250754122780669:=Nat
def tw364245363505089098:=Nat
def tw18065487433926449066:=Nat
def tw1617183295864637583:=Nat
def tw12589957060072188286:=Nat
def tw4133895188825257998:=Nat
def tw18241322237464941479:=Nat
def tw10590341384425590890:=Nat
def tw978102024831845475:=Nat
def tw5814463243553685040:=Nat
def tw11236526453485434856:=Nat
def tw17746110151751472294:=Nat
def tw11088387704476678540:=Nat
def tw14177852989902680138:=Nat
def tw13304799200380448720:=Nat
def tw7590652098555550151:=Nat
def tw15930142328408217054:=Nat
def tw432310844468308691:=Nat
def tw5438351102422828823:=Nat
def tw17669404275148863668:=Nat
def tw9655965413367490575:=Nat
def tw9875612045406120114:=Nat
def tw17919892169264982786:=Nat
def tw2461194684298298101:=Nat
def tw12402116797777321715:=Nat
def tw15847485938613842339:=Nat
def tw16932972410348747601:=Nat
def tw8468556267391547466:=Nat
def tw15560520457328116531:=Nat
def tw13712909913653888718:=Nat
def tw12496204093080815700:=Nat
def tw11923122216127117634:=Nat
def tw12500216053476571560:=Nat
def tw7158332622312104784:=Nat
def tw9922437226243792137:=Nat
def tw9070235410989519184:=Nat
def tw7972858800235802111:=Nat
def tw11036970656481082364:=Nat
def tw10962331929228731515:=Nat
def tw3377670867054491105:=Nat
def tw2710597832802246673:=Nat
def tw165778782526361162:=Nat
def tw4187696152448188314:=Nat
def tw375125611674409616:=Nat
def tw15802410014575828140:=Nat
def tw7214155109325360958:=Nat
def tw11620239341392897758:=Nat
def tw240163254697027107:=Nat
def tw16848474391770023696:=Nat
def tw662671479311496424:=Nat
def tw7279717741822138647:=Nat
def tw11857243620325242622:=Nat
def tw13786856631510006678:=Nat
def tw9739324871476453681:=Nat
def tw8245229005130176404:=Nat
def tw3076933843469117323:=Nat
def tw1345479502888154020:=Nat
def tw13887057796417798642:=Nat
def tw12024679353698218225:=Nat
def tw1923530814068921204:=Nat
def tw18229184429752970860:=Nat
def tw17593214389248080662:=Nat
def tw13346796729240960859:=Nat
end PySem.W.Fast
open PySem PySem.W PyProof.Rows
set_option maxRecDepth 100000 in
set_option maxHeartbeats 0 in
theorem PySem.Challenge.cw_quotatree_k45_the_list_tested_holds : PySem.Challenge.rw_quotatree_k45_the_list_tested.Holds := by
 w_on;o_law;k_head;(case hw=>w_witness2)
 k_fill
 refine Our.walk (l:=PySem.Challenge.rw_quotatree_k45_the_list_tested) rfl rfl rfl (fun w h Y=>PySem.W.km_in_of Y) rfl (fun w=>⟨647,643,by kernel_rfl,by kernel_rfl⟩) ?F
 case F=>
  intro w mg fa h KX G hmg;refine' Our.txt_mk KX G hmg ?g_z0 ?g_z1 ?g_z2 ?g_z3 ?g_z4 ?g_z5 ?g_z6 ?g_z7 ?g_z8 ?g_z9 ?g_z10 ?g_z11 ?g_z12 ?g_z13 ?g_z14 ?g_z15 ?g_z16 ?g_z17 ?g_z18 ?g_z19 ?g_z20 ?g_z21 ?g_z22 ?g_z23 ?g_z24 ?g_z25 ?g_z26 ?g_z27 ?g_z28 ?g_z29 ?g_z30 ?g_z31 ?g_z32 ?g_z33 ?g_z34 ?g_z35 ?g_z36 ?g_z37 ?g_z38 ?g_z39 ?g_z40 ?g_z41 ?g_z42 ?g_z43 ?g_z44 ?g_law ?g_z46 ?a_z47 ?l_z47 ?c_z47 ?k_z47 ?tt_z47 ?td_z47 ?rd_z47 ?a_z48 ?l_z48 ?c_z48 ?k_z48 ?tt_z48 ?td_z48 ?rd_z48 ?g_z49 ?g_z50 ?g_z51 ?g_z52 ?g_z53 ?g_z54 ?g_z55 ?g_z56 ?g_z57 ?g_z58 ?g_z59 ?g_z60 ?g_z61 ?g_z62 ?g_z63 ?g_z64 ?g_z65 ?g_z66 ?g_z67 ?qi_z67 ?hi_z67 ?a_House ?a_Tree ?a_Hold ?a_Loan ?a_TreeError ?a_NoName ?a_Taken ?a_NoHouse ?a_NoPromise ?a_NoWare ?a_NoAmount ?a_NoNumber ?a_TooMany ?a_TooDeep ?a_LETTERS ?w57 ?a_LONGEST_NAME ?w1j ?a_MOST_WARES ?w2f ?a_MOST_HOUSES ?w1u ?a_LONGEST_LINE ?w1g ?a_GREATEST_WEIGHT ?w0r ?q_NoHouse ?q_NoAmount ?q_NoWare ?q_NoName ?q_NoNumber ?q_Taken ?q_TooMany ?q_TooDeep ?w1c ?w17 ?w2e ?w2j ?w0p ?w0o ?w1l ?w01 ?w6p ?w8g ?w4f ?w3s ?w84 ?w7y ?w24 ?w2w ?w2v ?w26 ?w04 ?w0h ?w0i ?w1i ?w2g ?w19 ?w0a ?w05 ?w0l ?w0m ?w08 ?w0k ?w16 ?w06 ?w02 ?w1k ?w1v ?w1d ?w2h ?w1t ?w1h ?w1x ?w1a ?w1r ?w1y ?y_all ?y_any ?y_bool ?y_dict ?y_int ?y_isinstance ?y_len ?y_list ?y_max ?y_min ?y_range ?y_set ?y_sorted ?y_str ?y_sum ?y_zip
  (case a_House|a_Tree|a_Hold|a_Loan|a_TreeError|a_NoName|a_Taken|a_NoHouse|a_NoPromise|a_NoWare|a_NoAmount|a_NoNumber|a_TooMany|a_TooDeep=>k_is)
  all_goals try (refine' ⟨?a,L2.fun_mk ?l ?c ?k⟩;(case a=>k_is);(case l=>k_is);(case c=>k_is);(case k=>k_is))
  (case a_z47=>k_is);(case l_z47=>k_is);(case c_z47=>k_is);(case k_z47=>k_is)
  (case tt_z47=>k_is);(case td_z47=>first|rfl|k_is);(case rd_z47=>first|exact .cons ⟨_,rfl⟩ .nil|exact .cons rfl .nil)
  (case a_z48=>k_is);(case l_z48=>k_is);(case c_z48=>k_is);(case k_z48=>k_is)
  (case tt_z48=>k_is);(case td_z48=>first|rfl|k_is);(case rd_z48=>first|exact .cons ⟨_,rfl⟩ .nil|exact .cons rfl .nil)
  (case qi_z67=>kernel_rfl);(case hi_z67=>k_is)
  (case a_LETTERS=>k_is)
  (case w57=>exact⟨_,rfl⟩)
  (case a_LONGEST_NAME=>k_is)
  (case w1j=>exact⟨_,rfl⟩)
  (case a_MOST_WARES=>k_is)
  (case w2f=>exact⟨_,rfl⟩)
  (case a_MOST_HOUSES=>k_is)
  (case w1u=>exact⟨_,rfl⟩)
  (case a_LONGEST_LINE=>k_is)
  (case w1g=>exact⟨_,rfl⟩)
  (case a_GREATEST_WEIGHT=>k_is)
  (case w0r=>exact⟨_,rfl⟩)
  (case q_NoHouse|q_NoAmount|q_NoWare|q_NoName|q_NoNumber|q_Taken|q_TooMany|q_TooDeep=>k_exc)
  (case w1c=>(constructor<;>first|k_is|kernel_rfl))
  (case w17=>(constructor<;>first|k_is|kernel_rfl))
  (case w2e=>(constructor<;>first|k_is|kernel_rfl))
  (case w2j=>(constructor<;>first|k_is|kernel_rfl))
  (case w0p=>(constructor<;>first|k_is|kernel_rfl))
  (case w0o=>(constructor<;>first|k_is|kernel_rfl))
  (case w1l=>(constructor<;>first|k_is|kernel_rfl))
  (case w01=>(constructor<;>first|k_is|kernel_rfl))
  (case w6p=>(constructor<;>first|k_is|kernel_rfl))
  (case w8g=>(constructor<;>first|k_is|kernel_rfl))
  (case w4f=>(constructor<;>first|k_is|kernel_rfl))
  (case w3s=>(constructor<;>first|k_is|kernel_rfl))
  (case w84=>(constructor<;>first|k_is|kernel_rfl))
  (case w7y=>(constructor<;>first|k_is|kernel_rfl))
  (case w24=>(constructor<;>first|k_is|kernel_rfl))
  (case w2w=>(constructor<;>first|k_is|kernel_rfl))
  (case w2v=>(constructor<;>first|k_is|kernel_rfl))
  (case w26=>(constructor<;>first|k_is|kernel_rfl))
  (case w04=>(constructor<;>first|k_is|kernel_rfl))
  (case w0h=>(constructor<;>first|k_is|kernel_rfl))
  (case w0i=>(constructor<;>first|k_is|kernel_rfl))
  (case w1i=>(constructor<;>first|k_is|kernel_rfl))
  (case w2g=>(constructor<;>first|k_is|kernel_rfl))
  (case w19=>(constructor<;>first|k_is|kernel_rfl))
  (case w0a=>(constructor<;>first|k_is|kernel_rfl))
  (case w05=>(constructor<;>first|k_is|kernel_rfl))
  (case w0l=>(constructor<;>first|k_is|kernel_rfl))
  (case w0m|w08|w0k|w16|w06|w02|w1k|w1v|w1d|w2h|w1t|w1h|w1x|w1a|w1r|w1y|y_all|y_any|y_bool|y_dict|y_int|y_isinstance|y_len|y_list|y_max|y_min|y_range|y_set|y_sorted|y_str|y_sum|y_zip=>k_is)