import PyProof.Rows.All
import Wide.All
import OpenK.AllK
import Wide.FinOn
import Lean
import PyProof.EqAt
import PyProof.EqKinds
import PyProof.TupleCall
import PyProof.NeKinds
import KE.KEqDict
import KE.KRevIter
import PyProof.FactsAll.range_2
import PyProof.ZipIter
import PyProof.FitsReplace
import PyProof.MeetsStr
import PyProof.ListRange
import PyProof.CollectWalk
import PyProof.DictItems
import PyProof.DictItemsLoops
import PyProof.DictValues
import PyProof.DictWalks
import PyProof.StrCalls
import KE.KIsAll
import PyProof.Rows.Range3
import PyProof.Rows.MinMaxN
import PyProof.SumWalkG
import PyProof.MeetsStr2
import PyProof.StrBlockL
import PyProof.Rows.StrNews2
import PyProof.StrLawsOccR
import KE.KIntText
import PyProof.StrLawsIn
import PyProof.Rows.SeqMore2
import PyProof.ListOps
import PyProof.Rows.SeqMore
import PyProof.Rows.SeqGen
import PyProof.EnumFor
import PyProof.EnumMake
import KE.KSortTup
import KE.KDictList
import KE.KLam
import KE.KSortKey
import PyProof.AutoListH
import Wide.Seal
import PyProof.AttrMissHeap
import KE.KDictOf
import PyProof.Rows.SetFrom
import PyProof.DictCopy
import PySem.Challenge.RW_quotatree_k14_refused_foundings
def aR0(_:True:=by rfl):=0
def aD0(_:True:=by decide):=0
abbrev auR:=aR0._auto_1
abbrev auD:=aD0._auto_1
local macro_rules|`(∅)=>`(by decide)
local macro_rules|`(nofun)=>`(fun _ _=>rfl)
local macro_rules|`(↑∅)=>`(by omega)|`(↑$x)=>`(($x).heap.objs.size)
open PySem.W (Frag instObj lookIn plainGet hasDictIn isFn emptyDict keepIn kitOne fnOf codeIn kitCls excIn nsIn)
open List renaming getElem?_eq_getElem->zA,length_map->zB,getElem?_map->zC,mem_of_getElem?->zD,map_append->zE,mem_cons_of_mem->zF,mem_cons_self->zG,length_append->zH,length_cons->zI,getElem_mem->zJ,mem_singleton->zK,mem_map->zM,size_toArray->zN,mem_append_right->zO,mem_cons->zP,pairwise_iff_getElem->zQ,mem_iff_getElem->zR,map_cons->zS,mem_append->zT,nodup_cons->zU,getElem?_append_left->zV,append_nil->zW,getElem?_append_right->zX,mem_append_left->zY,all_eq_true->zZ,length_singleton->yA,take_add_one->yB,mem_iff_getElem?->yC,length_range->yD,nodup_append->yE,length_nil->yF,take_length->yG,nodup_nil->yH,getElem?_set_ne->yI,mem_flatten->yJ,find?_cons->yK,mem_filter->yL,mem_range->yM,length_take->yN,not_mem_nil->yO,range_succ->yP,any_eq_true->yQ,getElem_map->yR,map_map->yS,all_cons->yT,any_cons->yU
open PySem renaming wpAny_bind->uA,Value->uB,Shared->uD,wpAny_pure->uE,Program->uI,wpAny->uM,model->uP,FuncData->uT,Stmt->uZ,World->vA,mainGlobals->vD,starEach->vF,boot_len->vH,Around->vI,wpAny_holding->vO,wpAny_mono->vR,Heap->vS,Expr->vT,compareOp->wA,sysModules->wD,wpAny_truthy_bool->wN,eval->wQ,wpAny_dictEpoch->wR,wpAny_call_entry->wT,backTo->wW,sizeLine_eq->xD,wpAny_dictEntries->xG,wpAny_call->xH,wpAny_richCompare_same_room->xI,DictEntry->xL,wpAny_Call_Name_kw->xN,placesWithHash->xQ,codeAny_mono->xU,codeAny_call_builtin->xV,Builtin->xY,wpAny_typeNameOfWhole_keyiter->yY,assignEach->aA,wpAny_passesOwn->aC,codeAny_builtin->aD,wpAny_standAt->aF,Paired->aM,wpAny_setField->aS,codeAny->aT,wpAny_forIn_list->aV,rawInt->bA,mem_of_lookup->bB,binaryOp->bD,attributeBase->bE,Scope->bJ,swapsWith->bK,excClassObj->bL,wpAny_callSpecial?_slot->bM,Within->bN,bootBuiltins->bO,wpAny_newObj_type->bT,ExcBaseFacts->bU,wpAny_loadPart_at->bV,wpAny_rule->cE,keywordEach->cH,sliceBounds->cI,compEnvC->cJ,tupleKind_room_in1->cR,wpAny_pyIter_list->cU,wpAny_field->cV,behindInMarks->dB,wpAny_attempt->dF,plainId_quiet->dG,Arguments->dL,BindsTo->dQ,isInstance->dU,valueAt->dX,wpAny_Assign_Subscript->dY,wpAny_execs_nil->eG,wpAny_notOrdered_dict->eY,backToKw->fF,tupleKind->fH,holding->fJ,getMethod->fK,Model->fU,ExceptHandler->fW,pyNext->gD,nsFind->gG,typeLookup->gJ,GenState->gS,wpAny_assign_Name->gT,foldedSetIterable->gU,callerA->gW,relabel->hJ,call_meetsIn->hU,plainObj_wpAny_Assign_Attribute->iB,assign->iE,wpAny_lookBehind->iF,pastItsLine_dict->iG,Result->iH,scanBound->iL
open PySem.Heap renaming get?_push_of_some->uF,lt_size->uV,get?_push_size->uX,get?_update_other->wM,get?_update_self->wZ,SameBut->yZ,size_push->bR,get?_none_of_le->cG
open Nat renaming le_refl->uG,ne_of_lt->vM,lt_of_lt_of_le->vN,lt_or_ge->vZ,le_trans->wG,not_lt_zero->wL,lt_irrefl->wO,lt_of_le_of_lt->wS,zero_le->wV,lt_of_succ_lt_succ->xJ,le_succ->aP,le_of_not_lt->aU,le_add_right->aW,sub_self->bX,lt_trichotomy->bY,lt_succ_self->cD,le_antisymm->cL,add_sub_cancel->cS,add_comm->iA
open List renaming getElem?_eq_some_iff->uH,range->uN,replicate->wH,length->xE,getElem?_cons_succ->yX,length_replicate->aH,getElem?_eq_none->aI,lookup->aO,drop_eq_getElem_cons->aY,getElem?_set_self->bP,append_assoc->bW,contains_iff_mem->cB,pairwise_map->cZ,getElem?_take_of_lt->dC,map_nil->dS,of_mem_zip->eI,length_set->eR,mem_of_mem_erase->fA,filterMap_cons->fM,mem_filterMap->gF,mem_replicate->gM
open PyProof.Rows renaming boot_isinstance->uJ,boot_dict->wC,boot_sorted->wP,sortedS->xF,boot_str->aJ,boot_min->aK,envOfC->cK,callWith_type1->cM,AllBare->cT,boot_list->eA,boot_int->eZ,StrsAre->fL
open Or renaming inl->uK
open Bool renaming false_ne_true->uL,and_eq_true->vP,false_eq_true->xA,noConfusion->xM,eq_iff_iff->xS,and_false->aR,eq_false_iff->cY,not_true->dE,not_eq_true'->gY
open PySem.Str renaming ofString->uO
open PySem.AutoSeq1 renaming wpAny_loadPart'->uR
open PySem.Value renaming ref->uS,none->vV,builtin->cF,type->dP,str->fG,isStrOf->fT,bool->gC,int->iD
open Int renaming emod_lt_of_pos->uU,emod_nonneg->uW,toNat->wB,le_refl->wU,zero_add->eB,toNat_natCast->hV
open PySem.W renaming Frag->uY,findIn->vC,mg_of->vW,mg_none_of->vX,kitOne->vY,kia_one->wJ,callWith_K->xO,Looks->xX,nsIn->aL,specialIn->bQ,methodCall_KW->bZ,keepIn->dA,hasDictIn->dJ,instObj->dO,cellsFrom_some->dR,looks_findIn->dZ,kitCls->fB,plainGet_of->fN,excIn->fS,mroIn->fV,codeIn->fZ,fnOf->gP,methodObj->gR
open Option.some renaming inj->vB
open Sum renaming inr->vE,inl->gQ
open PySem.F renaming plainAttrs_list->vG,slot_list_append->vK,type_list_append->vL,excBase_ValueError->xP,plainAttrs_dict->yV,slot_dict_keyiterator_next->aE,slot_dict_values->dH,slot_dict_items->dM,slot_list_index->dN,slot_dict_get->eU,slot_dict_itemiterator_iter->fY,args_dict_keyiterator_next_1->iM
open PySem.PassesOwn renaming never->vJ
open Option renaming map_eq_some_iff->vQ,isSome_iff_exists->bF,isSome_map->cW,map_some->eK,bind_some->iJ
open False renaming elim->vU
open True renaming intro->wF
open Array renaming getElem?_eq_some_iff->wI,getElem?_eq_getElem->wY,getElem?_toList->xR,mem_toList_iff->xT,length_toList->aZ,mem_of_getElem?->cC,find?_toList->gH,all_eq_true_iff_forall_mem->gZ
open Ne renaming symm->xB
open PySem.Obj renaming mapFields->xC,data_mapFields->bH,isFreed_of_fields->cA,cls_mapFields->gX
open PySem.Around renaming under_plainId->xW
open PySem.Builtin.Str renaming occurrences->xZ
open PySem.Builtin.ObjectAttr renaming storeInDict->yW,storeInOwnDict->gO,newKeyGuard->iK
open PySem.MeetsSeq3 renaming plain_eq_loop->aG,entry_eq_loop->fX
open PySem.Calls renaming evalArgs_plain->aQ,callWith_builtin->bS,spliced_cons->gI
open PyProof.Rows.F renaming plain_set_update_loop->bC,entry_set_update_loop->fQ
open PySem.SeqAt.EqAt renaming same->bG,str_int->cO,str_none->fO,str_bool->fP,int_str->gA,str_str->gK
open Nat.succ renaming inj->cN
open PySem.SeqAt renaming EqAt->cQ
open PySem.Builtin.List renaming listTooLong->dD
open List.Nodup renaming not_mem_erase->dI
open ForInStep renaming yield->eJ
open PySem.Heap.SameBut renaming update->fR
open PySem.Code renaming quiet_builtin->gL
open PySem.Builtin.Tuple renaming tupleCompareSizes->iC
open PySem.W.Looks renaming ld->iI
noncomputable section
set_option compiler.extract_closed false
set_option Elab.async false
set_option linter.all false
set_option maxRecDepth 100000
theorem iN.{u} {c:Prop} {h:Decidable c} (n:¬c) {α:Sort u} {t e:α}:ite c t e=e:=if_neg n
theorem iO.{u} {c:Prop} {h:Decidable c} (n:c) {α:Sort u} {t e:α}:ite c t e=t:=if_pos n
def iP{p:Prop}[i:Decidable p](h:p):decide p=true:=decide_eq_true h
def iQ{p:Prop}[i:Decidable p](h:¬p):decide p=false:=decide_eq_false h
namespace L2
open PySem PySem.Spec PyProof.Rows
variable{us:List uB}{H:Hp}{a b C:Addr}{o:HO}{u:uB}{h:vS}{X:Cx}{e c:vT}{t:TE}{A:vI}{s:uD}{i:Nat}{x:Str}{pos:Pos}{v:V}{op:CmpOp}{K:uY}{pins:List (Addr×Obj)}{σ:St}{fp:List Addr}{r:R2}
abbrev Key:=Sum Int Str
noncomputable def qh5:Key->uB->Bool
 | .inl k,v=>Value.isInt k v
 | .inr x,v=>fT x v
noncomputable def jsa(w:vA):Key->Int
 | .inl k=>hashInt k
 | .inr x=>hashStr w x
def qb6:∀{k:Key} {v:uB},qh5 k v=true->(∃i t,k=gQ i/\v=iD i t)\/(∃x t,k=vE x/\v=fG x t)
 | .inl i,v,h=>by
  obtain⟨t,e⟩:=Value.isInt_shape (k:=i) (v:=v) h;exact .inl ⟨i,t,rfl,e⟩
 | .inr x,v,h=>by
  obtain⟨t,e⟩:=Value.isStrOf_shape (x:=x) (v:=v) h;exact .inr ⟨x,t,rfl,e⟩
def je8(i:Int)(t:Tok):qh5 (.inl i) (.int i t)=true:=by simp[qh5,Value.isInt]
def je9(x:Str)(t:Tok):qh5 (.inr x) (.str x t)=true:=by simp[qh5,fT]
def jov(a b:Int):decide ((gQ a:Key)=gQ b)=(a==b):=by
 by_cases e:a=b
 .subst e;simp
 .have h:¬(gQ a:Key)=gQ b:=fun q=>e (Sum.inl.inj q);rw[iQ h];exact(beq_eq_false_iff_ne.mpr e).symm
def jow(a b:Str):decide ((vE a:Key)=vE b)=decide (a=b):=by
 by_cases e:a=b
 .subst e;simp
 .have h:¬(vE a:Key)=vE b:=fun q=>e (Sum.inr.inj q);rw[iQ h,iQ e]
def jox(a:Int)(b:Str):decide ((gQ a:Key)=vE b)=false:=iQ (fun q=>nomatch q)
def joy(a:Str)(b:Int):decide ((vE a:Key)=gQ b)=false:=iQ (fun q=>nomatch q)
noncomputable def qb2(prog:uI)(w:vA):PySem.KeyKind prog w Key where
 is:=qh5
 hash:=jsa w
 inj:=fun v a b ha hb=>by
  rcases qb6 ha with⟨i,t,rfl,rfl⟩|⟨x,t,rfl,rfl⟩
  .rcases qb6 hb with⟨j,u,rfl,e⟩|⟨y,u,rfl,e⟩
   .injection e with e1 _;rw[e1]
   .exact nomatch e
  .rcases qb6 hb with⟨j,u,rfl,e⟩|⟨y,u,rfl,e⟩
   .exact nomatch e
   .injection e with e1 _;rw[e1]
 byValue:=fun k v h=>by
  rcases qb6 h with⟨i,t,rfl,rfl⟩|⟨x,t,rfl,rfl⟩<;>rfl
 pyHash:=fun hv h=>by
  rcases qb6 hv with⟨i,t,rfl,rfl⟩|⟨x,t,rfl,rfl⟩
  .exact wpAny_pyHash_int h
  .exact wpAny_pyHash_str h
 eqBool:=fun hu hv h=>by
  rcases qb6 hu with⟨i,t,rfl,rfl⟩|⟨x,t,rfl,rfl⟩
  .rcases qb6 hv with⟨j,u,rfl,rfl⟩|⟨y,u,rfl,rfl⟩
   .rw[jov] at h;exact wpAny_eqBool_int h
   .rw[jox] at h;exact gA i t y u _ _ _ _ h
  .rcases qb6 hv with⟨j,u,rfl,rfl⟩|⟨y,u,rfl,rfl⟩
   .rw[joy] at h;exact cO x t j u _ _ _ _ h
   .rw[jow] at h;exact wpAny_eqBool_str h
 «strs»:=fun k x t v h=>by
  rcases qb6 h with⟨i,u,rfl,e⟩|⟨y,u,rfl,e⟩
  .exact nomatch e
  .injection e with e1 _
   subst e1
   cases v<;>rfl
def jcr(prog:uI)(w:vA)(i:Int)(t:Tok):(qb2 prog w).is (.inl i) (.int i t)=true:=je8 i t
def jcs(prog:uI)(w:vA)(x:Str)(t:Tok):(qb2 prog w).is (.inr x) (.str x t)=true:=je9 x t
inductive V where
 |non|bl (b:Bool) |int (i:Int) |str (x:Str) |byt (b:Array UInt8) |flt (b:UInt64) |ref (a:Addr) |ty (n:String)
 deriving DecidableEq
noncomputable def qbb:V->uB->Prop
 | .non,u=>u=vV
 | .bl b,u=>u=gC b
 | .int i,u=>∃t,u=iD i t
 | .str x,u=>∃t,u=fG x t
 | .byt b,u=>∃t,u=Value.bytes b t
 | .flt b,u=>∃t,u=Value.float b t
 | .ref a,u=>u=uS a
 | .ty n,u=>u=dP n
abbrev qbk:List V->List uB->Prop:=aM qbb
theorem qbk.length{xs:List V}(r:qbk xs us):xs.length=us.length:=Paired.length r
theorem qbk.get:∀{xs:List V} {us:List uB} {i:Nat} {x:V},qbk xs us->xs[i]?=some x->∃u,us[i]?=some u/\qbb x u
 |_,_,_,_,.nil,e=>by simp at e
 |_,_,0,_,.cons r _,e=>by simp at e;subst e;exact⟨_,rfl,r⟩
 |_,_,i+1,x,.cons _ t,e=>by
  obtain⟨u,h1,h2⟩:=qbk.get (i:=i) (x:=x) t (by simpa using e);exact⟨u,by simpa using h1,h2⟩
theorem qbk.set{x:V}{u:uB}(r:qbb x u):∀{xs:List V} {us:List uB} (i:Nat),qbk xs us->qbk (xs.set i x) (us.set i u)
 |_,_,_,.nil=> .nil
 |_,_,0,.cons _ t=> .cons r t
 |_,_,i+1,.cons q t=> .cons q (qbk.set r i t)
theorem qbk.append:∀{xs ys:List V} {us ws:List uB},qbk xs us->qbk ys ws->qbk (xs++ys) (us++ws)
 |_,_,_,_,.nil,s=>s
 |_,_,_,_,.cons r t,s=> .cons r (qbk.append t s)
theorem qbk.take:∀{xs:List V} {us:List uB} (n:Nat),qbk xs us->qbk (xs.take n) (us.take n)
 |_,_,0,_=> .nil
 |_,_,_+1,.nil=> .nil
 |_,_,n+1,.cons r t=> .cons r (qbk.take n t)
theorem qbk.drop:∀{xs:List V} {us:List uB} (n:Nat),qbk xs us->qbk (xs.drop n) (us.drop n)
 |_,_,0,r=>r
 |_,_,_+1,.nil=> .nil
 |_,_,n+1,.cons _ t=>qbk.drop n t
noncomputable def qf1:Option V->Option uB->Prop
 |some v,some u=>qbb v u
 |none,none=>True
 |_,_=>False
noncomputable def KV{κ:Type}:List (κ×V)->List (κ×uB)->Prop:=aM fun(p:κ×V) (q:κ×uB)=>p.1=q.1/\qbb p.2 q.2
noncomputable def kV:Key->V
 | .inl i=> .int i
 | .inr x=> .str x
inductive HO where
 |lst(xs:List V)
 |tup(xs:List V)
 |dK(kvs:List (Key×V)) |dT (kvs:List (List Key×V))
 |set(S:Int->Bool)(n:Nat)
 |ins(C dx:Addr)(fs:List (Str×V))
 |own(x:Addr)
 |xd(fs:List (Str×V))
 |met(f x:Addr)
 |rng(lo hi:Int)
 |frz(o:Obj)(u:HO)
 |tbl(ps:Array uB)
 |ext(φ:vS->Prop)
abbrev Hp:=Addr->Option HO
noncomputable def upd(H:Hp)(a:Addr)(o:HO):Hp:=fun b=>if b=a then some o else H b
def qa1:upd H a o a=some o:=by unfold upd;rw[iO rfl]
def qa9(h:b≠a):upd H a o b=H b:=by unfold upd;rw[iN h]
def qb4{u:HO} :upd (upd H a o) a u=upd H a u:=by
 funext b;unfold upd;split<;>rfl
def qds{u:HO}(h:H a=some o)(h':H b=some u)(d:o≠u):a≠b:=by
 intro e;subst e;rw[h] at h';exact d (vB h')
def qa8(h:H a=some o)(h':H b=none):a≠b:=by
 intro e;subst e;rw[h] at h';cases h'
section
variable(P:uI)(w:vA)
noncomputable def qbg(H:Hp)(h:vS)(a:Addr):HO->Prop
 | .lst xs=>xs.length<=sizeLine/\∃(its:List uB)(n:Nat),qbk xs its/\h.get? a=some {cls:=.type "list",data:=.seq its.toArray n}
 | .tup xs=>xs.length<=sizeLine/\∃its:List uB,qbk xs its/\IsTup h a its.toArray
 | .dK kvs=>kvs.length<=sizeLine/\(a==wD)=false/\∃vs,KV kvs vs/\h.DictOf (qb2 P w) a vs
 | .dT kvs=>kvs.length<=sizeLine/\(a==wD)=false/\∃xs:List (List Key×Addr×uB),
   aM (fun(p:List Key×V) (q:List Key×Addr×uB)=>p.1=q.1/\H q.2.1=some (.tup (p.1.map kV))/\qbb p.2 q.2.2) kvs xs/\
   ∃o es ep,h.get? a=some o/\o.ExactDict/\o.data=.dict es ep/\es.toList=xs.map (entryOfKey (fH (qb2 P w)))/\(xs.map (·.1)).Nodup
 | .set S n=>h.SetOf (intKind P w) a S n
 | .ins C dx fs=>H dx=some (.own a)/\fs.length<=1000/\dx≠a/\h.get? a=some (dO C dx)/\
   ∃mA,h.Ns1 dx mA/\(∀f,qf1 (fs.lookup f) (mA f))/\bN mA (fs.map (·.1))
 | .own _=>∃o,h.get? a=some o
 | .xd fs=>∃mA,h.Ns1 a mA/\∀f,qf1 (fs.lookup f) (mA f)
 | .rng lo hi=>∃t u v,h.get? a=some {cls:=.type "range",data:=.fields #[.int lo t,.int hi u,.int 1 v]}
 | .frz o u=>h.get? a=some o/\qbg H h a u
 | .tbl ps=>h.get? a=some {cls:=.none,data:=.fields ps}
 | .met f x=>h.get? a=some (gR (.ref f) (.ref x))
 | .ext φ=>φ h/\(∃o,h.get? a=some o)/\∀h1 h2:vS,φ h1->(∀o,h1.get? a=some o->h2.get? a=some o)->φ h2
def HOk(H:Hp)(h:vS):Prop:=∀a o,H a=some o->qbg P w H h a o
end
section
variable{P:uI}{w:vA}{H H':Hp}{h h':vS}{a:Addr}{o:HO}
theorem qbg.lt(x:qbg P w H h a o):a<h.objs.size:=by
 cases o with
 |lst xs=>obtain⟨_,_,_,_,e⟩:=x;exact uV e
 |tup xs=>obtain⟨_,_,_,p⟩:=x;exact p.lt
 |dK kvs=>obtain⟨_,_,_,_,o,_,_,e,_⟩:=x;exact uV e
 |dT kvs=>obtain⟨_,_,_,_,o,_,_,e,_⟩:=x;exact uV e
 |set S n=>obtain⟨o,_,_,_,e,_⟩:=x;exact uV e
 |ins C dx fs=>obtain⟨_,_,_,e,_⟩:=x;exact uV e
 |own y=>obtain⟨_,e⟩:=x;exact uV e
 |xd fs=>obtain⟨_,⟨_,_,_,e,_⟩,_⟩:=x;exact uV e
 |rng lo hi=>obtain⟨_,_,_,e⟩:=x;exact uV e
 |frz ob u=>obtain⟨e,_⟩:=x;exact uV e
 |tbl ps=>exact uV (show h.get? a=some _ from x)
 |met f y=>exact uV (show h.get? a=some _ from x)
 |ext φ=>obtain⟨_,⟨_,e⟩,_⟩:=x;exact uV e
theorem Paired.mapP{α β:Type}{F G:α->β->Prop}:∀{l₁:List α} {l₂:List β},aM F l₁ l₂->(∀a b,F a b->G a b)->aM G l₁ l₂
 |_,_,.nil,_=> .nil
 |_,_,.cons r t,f=> .cons (f _ _ r) (Paired.mapP t f)
def qbg.stay(x:qbg P w H h a o)(k:∀b u,(b=a\/H b=some (.own a))->h.get? b=some u->h'.get? b=some u)
  (ho:∀b,H b=some (.own a)->H' b=some (.own a))(ht:∀b xs,H b=some (.tup xs)->H' b=some (.tup xs)):qbg P w H' h' a o:=by
 induction o with
 |lst xs=>obtain⟨z,its,n,r,e⟩:=x;exact⟨z,its,n,r,k _ _ (.inl rfl) e⟩
 |tup xs=>obtain⟨z,its,r,ob,e,c⟩:=x;exact⟨z,its,r,ob,k _ _ (.inl rfl) e,c⟩
 |dK kvs=>obtain⟨z,y,vs,r,ob,es,ep,e,c⟩:=x;exact⟨z,y,vs,r,ob,es,ep,k _ _ (.inl rfl) e,c⟩
 |dT kvs=>
  obtain⟨z,y,xs,r,ob,es,ep,e,c⟩:=x;exact⟨z,y,xs,Paired.mapP r fun p q z=>⟨z.1,ht _ _ z.2.1,z.2.2⟩,ob,es,ep,k _ _ (.inl rfl) e,c⟩
 |set S n=>obtain⟨ob,es,ep,t,e,c⟩:=x;exact⟨ob,es,ep,t,k _ _ (.inl rfl) e,c⟩
 |ins C dx fs=>
  obtain⟨d,z,ne,e,mA,⟨od,es,ep,e2,c⟩,r⟩:=x;exact⟨ho _ d,z,ne,k _ _ (.inl rfl) e,mA,⟨od,es,ep,k _ _ (.inr d) e2,c⟩,r⟩
 |own y=>obtain⟨ob,e⟩:=x;exact⟨ob,k _ _ (.inl rfl) e⟩
 |xd fs=>obtain⟨mA,⟨od,es,ep,e,c⟩,r⟩:=x;exact⟨mA,⟨od,es,ep,k _ _ (.inl rfl) e,c⟩,r⟩
 |rng lo hi=>obtain⟨t,u,v,e⟩:=x;exact⟨t,u,v,k _ _ (.inl rfl) e⟩
 |frz ob u ih=>obtain⟨e,q⟩:=x;exact⟨k _ _ (.inl rfl) e,ih q⟩
 |tbl ps=>
  have e:h.get? a=some {cls:=.none,data:=.fields ps}:=x;show h'.get? a=some {cls:=.none,data:=.fields ps};exact k a _ (.inl rfl) e
 |met f y=>
  have e:h.get? a=some (gR (.ref f) (.ref y)):=x;show h'.get? a=some (gR (.ref f) (.ref y));exact k a _ (.inl rfl) e
 |ext φ=>obtain⟨p,⟨o,e⟩,st⟩:=x;exact⟨st _ _ p fun o q=>k _ _ (.inl rfl) q,⟨o,k _ _ (.inl rfl) e⟩,st⟩
theorem HOk.lt(x:HOk P w H h)(e:H a=some o):a<h.objs.size:=(x a o e).lt
def HOk.fresh(x:HOk P w H h)(e:h.objs.size<=a):H a=none:=by
 cases q:H a with
 |none=>rfl
 |some u=>exact absurd (vN (x.lt q) e) (wO _)
def HOk.kept(x:HOk P w H h)(k:∀b u,h.get? b=some u->h'.get? b=some u):HOk P w H h':=fun a o e=>
 (x a o e).stay (fun b u _ q=>k b u q) (fun _ q=>q) fun _ _ q=>q
def HOk.laid(x:HOk P w H h)(k:∀b u,h.get? b=some u->h'.get? b=some u)(hp:h.objs.size<=a)(new:qbg P w (upd H a o) h' a o):HOk P w (upd H a o) h':=fun b u e=>by
 have hn:=x.fresh hp;by_cases hb:b=a
 .subst hb;rw[qa1] at e;cases e;exact new
 .rw[qa9 hb] at e;exact(x b u e).stay (fun c v _ q=>k c v q) (fun c q=>by rw[qa9 (qa8 q hn)];exact q) fun c xs q=>by rw[qa9 (qa8 q hn)];exact q
end
def Rd(H:Hp)(a:Addr)(u:HO):Prop:=H a=some u\/∃o,H a=some (.frz o u)
def Rd.of{u:HO}(h:H a=some u):Rd H a u:=.inl h
def Rd.ok{P:uI}{w:vA}{u:HO}(r:Rd H a u)(x:HOk P w H h):qbg P w H h a u:=by
 rcases r with r|⟨o,r⟩
 .exact x a u r
 .obtain⟨_,q⟩:=x a _ r;exact q
noncomputable def Mut:Option HO->Prop
 |some (.lst _)=>True
 |some (.dK _)=>True
 |some (.dT _)=>True
 |some (.set _ _)=>True
 |some (.ins _ _ _)=>True
 |some (.ext _)=>True
 |_=>False
section
variable{P:uI}{w:vA}{H:Hp}{h h':vS}{x e:Addr}{o':HO}
def HOk.write(ok:HOk P w H h)(mu:Mut (H x))(he:e=x\/H e=some (.own x))(k:∀b u,b≠e->h.get? b=some u->h'.get? b=some u)(heo:∃u,h'.get? e=some u)
  (new:qbg P w (upd H x o') h' x o'):HOk P w (upd H x o') h':=fun b u q=>by
 have nown:∀c y,H c=some (.own y)->c≠x:=fun c y r z=>by subst z;rw[r] at mu;exact mu
 have ntup:∀c xs,H c=some (.tup xs)->c≠x:=fun c xs r z=>by subst z;rw[r] at mu;exact mu
 by_cases hb:b=x
 .subst hb;rw[qa1] at q;cases q;exact new
 .rw[qa9 hb] at q;by_cases hbe:b=e
  .have q':H b=some (.own x):=by
    rcases he with z|z
    .exact absurd (hbe.trans z) hb
    .rw[hbe];exact z
   rw[q] at q';cases q';obtain⟨v,hv⟩:=heo;exact⟨v,by rw[hbe];exact hv⟩
  .refine(ok b u q).stay (fun c v hc r=>k c v ?_ r) (fun c r=>by rw[qa9 (nown c b r)];exact r) fun c xs r=>by rw[qa9 (ntup c xs r)];exact r
   rcases hc with rfl|hc
   .exact hbe
   .rintro rfl;rcases he with z|z
    .exact nown c b hc z
    .rw[hc] at z;cases z;exact hb rfl
end
structure Un(fs ex:List Addr)(H H':Hp)(h h':vS):Prop where
 keep:∀b o,h.get? b=some o->H b=none->b∉fs->b∉ex->h'.get? b=some o
 slot:∀b o,h.get? b=some o->H b=none->b∈fs->b∉ex->∃sl,h'.get? b=some {o with slots:=sl}
 free:∀b o,h.get? b=some o->H b=none->b∉ex->H' b=none
 there:∀b o,h.get? b=some o->b∉ex->∃o',h'.get? b=some o'
 tups:∀b xs,H b=some (.tup xs)->H' b=some (.tup xs)
 frzs:∀b o u,H b=some (.frz o u)->H' b=some (.frz o u)
 tbls:∀b ps,H b=some (.tbl ps)->∃more,H' b=some (.tbl (ps++more))
section
variable{fs ex:List Addr}{H H1:Hp}{h h1 h':vS}{a x e:Addr}{o:HO}
def Un.any(u:Un fs ex H H1 h h1){b:Addr}{ob:Obj}(q:h.get? b=some ob)(n:H b=none)(hx:b∉ex):∃sl,h1.get? b=some {ob with slots:=sl}:=by
 by_cases hb:b∈fs
 .exact u.slot b ob q n hb hx
 .exact⟨ob.slots,u.keep b ob q n hb hx⟩
def Un.kept(k:∀b u,h.get? b=some u->h'.get? b=some u):Un fs ex H H h h':=
 ⟨fun b ob q _ _ _=>k b ob q,fun b ob q _ _ _=>⟨ob.slots,k b ob q⟩,fun _ _ _ n _=>n,fun b ob q _=>⟨ob,k b ob q⟩,fun _ _ q=>q,fun _ _ _ q=>q,fun _ ps q=>⟨#[],by rw[q];simp⟩⟩
def Un.refl:Un fs ex H H h h:=Un.kept fun _ _ q=>q
def Un.laid(k:∀b u,h.get? b=some u->h'.get? b=some u)(hp:h.objs.size<=a)(hn:H a=none):Un fs ex H (upd H a o) h h' where
 keep:=fun b u q _ _ _=>k b u q
 slot:=fun b u q _ _ _=>⟨u.slots,k b u q⟩
 free:=fun b u q n _=>by rw[qa9 (vM (vN (uV q) hp))];exact n
 there:=fun b u q _=>⟨u,k b u q⟩
 tups:=fun b xs q=>by rw[qa9 (qa8 q hn)];exact q
 frzs:=fun b u xs q=>by rw[qa9 (qa8 q hn)];exact q
 tbls:=fun b ps q=>⟨#[],by rw[qa9 (qa8 q hn),q];simp⟩
def Un.write(mu:Mut (H x))(he:e=x\/H e=some (.own x))(k:∀b u,b≠e->h.get? b=some u->h'.get? b=some u)(heo:∃u,h'.get? e=some u):Un fs ex H (upd H x o) h h':=by
 have hx:∀b,H b=none->b≠x:=fun b n z=>by subst z;rw[n] at mu;exact mu
 have hb:∀b,H b=none->b≠e:=fun b n z=>by
  subst z;rcases he with r|r
  .exact hx b n r
  .rw[n] at r;cases r
 have hm:∀b u,H b=some u->¬Mut (some u)->b≠x:=fun b u q nm z=>by subst z;rw[q] at mu;exact nm mu
 refine⟨fun b u q n _ _=>k b u (hb b n) q,fun b u q n _ _=>⟨u.slots,k b u (hb b n) q⟩,fun b u q n _=>by rw[qa9 (hx b n)];exact n,fun b u q _=>?_,
  fun b xs q=>by rw[qa9 (hm b _ q fun z=>z)];exact q,fun b u xs q=>by rw[qa9 (hm b _ q fun z=>z)];exact q,fun b ps q=>⟨#[],by rw[qa9 (hm b _ q fun z=>z),q];simp⟩⟩
 by_cases hbe:b=e
 .subst hbe;exact heo
 .exact⟨u,k b u hbe q⟩
end
noncomputable def trk(h:vS)(H:Hp):List Addr:=(uN h.objs.size).filter fun a=>(H a).isSome
noncomputable def jiv(h:vS)(H:Hp):vS:=PySem.W.hideAll h (trk h H)
def jfa(h:vS)(H:Hp):(jiv h H).objs.size=h.objs.size:=PySem.W.hideAll_size _ _
def jiw{o:Obj}(e:h.get? b=some o)(n:H b=none):(jiv h H).get? b=some o:=
 PySem.W.hideAll_get _ e fun hm=>by
  have q:(H b).isSome=true:=(yL.mp hm).2;rw[n] at q;simp at q
def jl2{o:Obj}(e:(jiv h H).get? b=some o):h.get? b=some o/\H b=none:=by
 have e':h.get? b=some o:=PySem.W.of_hideAll (trk h H) e;refine⟨e',?_⟩
 cases q:H b with
 |none=>rfl
 |some x=>
  have hm:b∈trk h H:=yL.mpr ⟨yM.mpr (uV e'),by simp[q]⟩;have z:(jiv h H).get? b=none:=PySem.W.hideAll_none (trk h H) hm;rw[z] at e;cases e
noncomputable def jl3(g h:vS)(L:Addr):List (Addr×Obj):=(uN h.objs.size).filterMap fun a=>if a=L\/(g.get? a).isSome=true then none else(h.get? a).map fun o=>(a,o)
noncomputable def rest(g h:vS)(L d:Addr):List (Addr×Obj):=(jl3 g h L).filter fun p=>decide (p.1≠d)
structure Mod(K:uY)(mg:Str->Option uB)(base:vS):Prop where
 kin:K.In base
 glob:base.Ns vD mg
 blt:∃mb,base.Ns builtinsNs mb/\∀x:Str,x≠"__name__"->mb x=bO x
 nolimit:base.NoLimit
structure Cx where
 prog:uI
 w:vA
 K:uY
 mg:Str->Option uB
 base:vS
 A:vI
 N:List Str
 s₀:uD
 H₀:Hp
 env:Env
 outer:List Env
 stack:List Env
 ex:List Addr
 fn:Str->Bool
 calm:Bool
 pn:List (Addr×Obj)
 xe:uB->uD->Prop
noncomputable def frs(l:List Env):List Addr:=l.filterMap (·.frame)
abbrev Cx.fs(X:Cx):List Addr:=frs X.outer
def Vis(sc:bJ)(x:Str):Prop:=sc.names.lookup x=some .local\/sc.names.lookup x=some .cell\/sc.names.lookup x=some .free
def Loc(sc:bJ)(x:Str):Prop:=sc.names.lookup x=some .local\/sc.names.lookup x=some .cell
def jv3(env:Env)(h:vS)(m:Str->Option uB)(x:Str)(u:uB):Prop:=
 (env.kindOf x=some .local/\m x=some u)\/((env.kindOf x=some .cell\/env.kindOf x=some .free)/\∃c,env.cells.lookup x=some c/\h.IsCell c (some u))
structure Cx.Ok(X:Cx):Prop where
 mod:Mod X.K X.mg X.base
 kind:X.env.scope.kind=.function
 glob:X.env.globals=vD
 blt:X.env.builtins=builtinsNs
 above:↑X.s₀<=X.env.locals
 inj:∀x y c,X.env.cells.lookup x=some c->X.env.cells.lookup y=some c->x=y
 has:∀x,(X.env.kindOf x=some .cell\/X.env.kindOf x=some .free)->∃c,X.env.cells.lookup x=some c
 cab:∀x c,X.fn x=true->X.env.cells.lookup x=some c->↑X.s₀<=c
 hd:X.calm=true->X.A.handled=none
 frames:X.A.frames=some X.stack
 stk:X.stack=X.outer\/(X.stack=X.env::X.outer/\X.env.frame=some X.env.locals)
 exf:∀b∈X.ex,b≠X.env.locals/\∀x c,X.env.cells.lookup x=some c->c≠b
 bs:∀b o,X.base.get? b=some o->X.s₀.heap.get? b=some o/\X.H₀ b=none
 bsz:X.base.objs.size<=↑X.s₀
 noex:∀b o,X.base.get? b=some o->b∉X.ex
 exfs:∀b∈X.ex,b∉X.fs
 funs:X.s₀.heap.FunFrames X.base X.outer
 frf:∀b∈X.fs,X.H₀ b=none
structure Inv(X:Cx)(pins:List (Addr×Obj))(σ:List (Option V))(H:Hp)(s:uD):Prop where
 ok:X.Ok
 os:s.os=X.s₀.os
 bare:cT s.gens
 base:Un X.fs X.ex X.H₀ H X.s₀.heap s.heap
 loc:∃m,s.heap.Ns X.env.locals m/\∀(i:Nat)(x:Str)(v:V),X.N[i]?=some x->σ[i]?=some (some v)->Vis X.env.scope x->∃u,qbb v u/\jv3 X.env s.heap m x u
 cell:∀x c,X.env.cells.lookup x=some c->∃v,s.heap.IsCell c v
 free:H X.env.locals=none
 freeC:∀x c,X.env.cells.lookup x=some c->H c=none
 pin:∀p∈X.pn++pins,s.heap.get? p.1=some p.2/\H p.1=none/\p.1≠X.env.locals/\p.1∉X.fs/\∀v,p.2.data≠ .cell v
 hok:HOk X.prog X.w H s.heap
 len:σ.length=X.N.length
section
variable{X:Cx}{pins:List (Addr×Obj)}{σ:List (Option V)}{H H':Hp}{s:uD}{h':vS}
def Cx.Ok.nofr(ok:X.Ok){b:Addr}{o:Obj}(e:X.base.get? b=some o):b∉X.fs:=fun hb=>by
 have:=(ok.funs.mem hb).1;rw[e] at this;cases this
theorem Inv.bs(I:Inv X pins σ H s):∀b o,X.base.get? b=some o->s.heap.get? b=some o/\H b=none:=fun b o e=>
 ⟨I.base.keep b o (I.ok.bs b o e).1 (I.ok.bs b o e).2 (I.ok.nofr e) (I.ok.noex b o e),I.base.free b o (I.ok.bs b o e).1 (I.ok.bs b o e).2 (I.ok.noex b o e)⟩
def Inv.bk(I:Inv X pins σ H s):∀b o,X.base.get? b=some o->s.heap.get? b=some o:=fun b o e=>(I.bs b o e).1
theorem Inv.mod(I:Inv X pins σ H s):Mod X.K X.mg X.base:=I.ok.mod
def Inv.kIn(I:Inv X pins σ H s):X.K.In s.heap:=I.ok.mod.kin.keeps I.bk
theorem Inv.lt(I:Inv X pins σ H s):X.env.locals<↑s:=let ⟨_,hn,_⟩:=I.loc;hn.lt
def Inv.sz(I:Inv X pins σ H s):↑X.s₀<=↑s:=wG I.ok.above (Nat.le_of_lt I.lt)
def Inv.nofs(I:Inv X pins σ H s){a:Addr}(h:↑s<=a):a∉X.fs:=fun hb=>by
 obtain⟨_,o,ho,_⟩:=I.ok.funs.mem hb;exact absurd (vN (uV ho) (wG I.sz h)) (wO _)
def Inv.cne(I:Inv X pins σ H s):∀x c,X.env.cells.lookup x=some c->c≠X.env.locals:=fun x c e z=>by
 obtain⟨v,o,ho,hd⟩:=I.cell x c e;obtain⟨m,⟨o',es,ep,ho',hd',_⟩,_⟩:=I.loc;rw[z,ho'] at ho;cases ho;rw[hd'] at hd;cases hd
theorem Inv.funs(I:Inv X pins σ H s):s.heap.FunFrames X.base X.outer:=by
 have all:∀(l:List Env),(∀b∈frs l,b∈X.fs)->X.s₀.heap.FunFrames X.base l->s.heap.FunFrames X.base l:=by
  intro l
  induction l with
  |nil=>intro _ _;trivial
  |cons env r ih=>
   intro hs hl;obtain⟨hk,⟨L,o,hf,hn,ho,hd⟩,hr⟩:=hl;have hL:L∈X.fs:=hs L (by unfold frs;rw[fM,hf];exact zG);obtain⟨sl,e⟩:=I.base.slot L o ho (I.ok.frf L hL) hL fun z=>I.ok.exfs L z hL;exact⟨hk,⟨L,_,hf,hn,e,hd⟩,ih (fun b hb=>hs b (by unfold frs;rw[fM,hf];exact zF _ hb)) hr⟩
 exact all X.outer (fun _ hb=>hb) I.ok.funs
theorem Inv.stack(I:Inv X pins σ H s):s.heap.FunFrames X.base X.stack:=by
 rcases I.ok.stk with e|⟨e,hf⟩
 .rw[e];exact I.funs
 .rw[e];obtain⟨m,hn,_⟩:=I.loc;refine .cons (by rw[I.ok.kind];decide) hf hn ?_ I.funs;exact cG (wG I.ok.bsz I.ok.above)
def Inv.stkSub(I:Inv X pins σ H s):∀b∈frs X.stack,b∈X.env.locals::X.fs:=fun b hb=>by
 rcases I.ok.stk with e|⟨e,hf⟩
 .rw[e] at hb;exact zF _ hb
 .rw[e] at hb;unfold frs at hb;rw[fM,hf] at hb;exact hb
def Inv.stkFree(I:Inv X pins σ H s):∀b∈frs X.stack,H b=none:=fun b hb=>by
 rcases zP.mp (I.stkSub b hb) with e|hb
 .rw[e];exact I.free
 .obtain⟨_,o,ho,_⟩:=I.ok.funs.mem hb;exact I.base.free b o ho (I.ok.frf b hb) fun z=>I.ok.exfs b z hb
def Inv.step{g':Array gS}{t':Nat}{d':Drawn}{ch:List Addr}(I:Inv X pins σ H s)
  (hch:∀b∈ch,(b∈X.ex\/↑X.s₀<=b)/\b≠X.env.locals/\(∀x c,X.env.cells.lookup x=some c->c≠b)/\∀p∈X.pn++pins,p.1≠b)
  (keep:∀b o,b≠X.env.locals->b∉X.fs->b∉ch->s.heap.get? b=some o->H b=none->h'.get? b=some o)
  (slot:∀b o,b≠X.env.locals->b∈X.fs->b∉ch->s.heap.get? b=some o->H b=none->∃sl,h'.get? b=some {o with slots:=sl})(free:∀b o,b∉ch->s.heap.get? b=some o->H b=none->H' b=none)
  (there:∀b o,b∉ch->s.heap.get? b=some o->∃o',h'.get? b=some o')
  (tups:∀b xs,H b=some (.tup xs)->H' b=some (.tup xs))(frzs:∀b o u,H b=some (.frz o u)->H' b=some (.frz o u))(tbls:∀b ps,H b=some (.tbl ps)->∃more,H' b=some (.tbl (ps++more)))
  (ns:∀m,s.heap.Ns X.env.locals m->h'.Ns X.env.locals m)(hok:HOk X.prog X.w H' h')(hg:cT g'):
  Inv X pins σ H' {s with heap:=h',gens:=g',drawn:=d',toks:=t'}:=by
 have neL:∀b o,X.s₀.heap.get? b=some o->b≠X.env.locals:=fun b o e=>vM (vN (uV e) I.ok.above);have neC:∀b o,X.s₀.heap.get? b=some o->b∉X.ex->b∉ch:=fun b o e hx hb=>by
  rcases(hch b hb).1 with z|z
  .exact hx z
  .exact absurd (vN (uV e) z) (wO _)
 have cellK:∀x c,X.env.cells.lookup x=some c->∀v,s.heap.IsCell c v->h'.IsCell c v:=fun x c e v ⟨o,ho,hd⟩=>by
  have nch:c∉ch:=fun z=>(hch c z).2.2.1 x c e rfl;by_cases hc:c∈X.fs
  .obtain⟨sl,q⟩:=slot c o (I.cne x c e) hc nch ho (I.freeC x c e);exact⟨_,q,hd⟩
  .exact⟨o,keep c o (I.cne x c e) hc nch ho (I.freeC x c e),hd⟩
 refine⟨I.ok,I.os,hg,⟨fun b o e n hb hx=>?_,fun b o e n hb hx=>?_,fun b o e n hx=>?_,fun b o e hx=>?_,fun b xs e=>tups b xs (I.base.tups b xs e),fun b o xs e=>frzs b o xs (I.base.frzs b o xs e),fun b ps e=>?_⟩,?_,fun x c e=>?_,?_,fun x c e=>?_,fun p hp=>?_,hok,I.len⟩
 .exact keep b o (neL b o e) hb (neC b o e hx) (I.base.keep b o e n hb hx) (I.base.free b o e n hx)
 .obtain⟨sl,e1⟩:=I.base.slot b o e n hb hx;obtain⟨sl',e2⟩:=slot b _ (neL b o e) hb (neC b o e hx) e1 (I.base.free b o e n hx);exact⟨sl',e2⟩
 .obtain⟨o',e1⟩:=I.base.there b o e hx;exact free b o' (neC b o e hx) e1 (I.base.free b o e n hx)
 .obtain⟨o',e1⟩:=I.base.there b o e hx;exact there b o' (neC b o e hx) e1
 .obtain⟨m1,e1⟩:=I.base.tbls b ps e;obtain⟨m2,e2⟩:=tbls b _ e1;exact⟨m1++m2,by rw[e2,Array.append_assoc]⟩
 .obtain⟨m,hn,hl⟩:=I.loc;refine⟨m,ns m hn,fun i x v e1 e2 e3=>?_⟩;obtain⟨u,r,l⟩:=hl i x v e1 e2 e3;refine⟨u,r,?_⟩;rcases l with l|⟨k,c,e,z⟩
  .exact .inl l
  .exact .inr ⟨k,c,e,cellK x c e _ z⟩
 .obtain⟨v,z⟩:=I.cell x c e;exact⟨v,cellK x c e v z⟩
 .obtain⟨m,⟨o,_,_,ho,_⟩,_⟩:=I.loc;exact free _ o (fun z=>(hch _ z).2.1 rfl) ho I.free
 .obtain⟨v,o,ho,hd⟩:=I.cell x c e;exact free c o (fun z=>(hch c z).2.2.1 x c e rfl) ho (I.freeC x c e)
 .obtain⟨e,n,ne,nf,d⟩:=I.pin p hp;have nch:p.1∉ch:=fun z=>(hch p.1 z).2.2.2 p hp rfl;exact⟨keep p.1 p.2 ne nf nch e n,free p.1 p.2 nch e n,ne,nf,d⟩
def Inv.un{t':Nat}(I:Inv X pins σ H s)(u:Un X.fs [] H H' s.heap h')(hok:HOk X.prog X.w H' h'):Inv X pins σ H' {s with heap:=h',toks:=t'}:=by
 obtain⟨m,⟨o,es,ep,ho,r⟩,_⟩:=id I.loc;obtain⟨sl,hL⟩:=u.any ho I.free (by simp);exact I.step (g':=s.gens) (d':=s.drawn) (ch:=[]) (fun _ z=>nomatch z) (fun b o _ hb _ e n=>u.keep b o e n hb (by simp)) (fun b o _ hb _ e n=>u.slot b o e n hb (by simp)) (fun b o _ e n=>u.free b o e n (by simp)) (fun b o _ e=>u.there b o e (by simp)) u.tups u.frzs u.tbls (fun m' hm=>by
  obtain⟨o',es',ep',ho',r'⟩:=hm;rw[ho] at ho';cases ho';exact⟨_,es',ep',hL,r'⟩) hok I.bare
def Inv.call{g':Array gS}{t':Nat}{d':Drawn}{ch:List Addr}(I:Inv X pins σ H s)(u:Un (frs X.stack) ch H H' s.heap h')(hok:HOk X.prog X.w H' h')(hg:cT g')
  (hch:∀b∈ch,(b∈X.ex\/↑X.s₀<=b)/\b≠X.env.locals/\(∀x c,X.env.cells.lookup x=some c->c≠b)/\∀p∈X.pn++pins,p.1≠b):
  Inv X pins σ H' {s with heap:=h',gens:=g',drawn:=d',toks:=t'}:=by
 obtain⟨m,⟨o,es,ep,ho,r⟩,_⟩:=id I.loc;obtain⟨sl,hL⟩:=u.any ho I.free fun z=>(hch _ z).2.1 rfl;exact I.step (ch:=ch) hch (fun b o hL hb hc e n=>u.keep b o e n (fun z=>(zP.mp (I.stkSub b z)).elim hL hb) hc) (fun b o _ _ hc e n=>u.any e n hc) (fun b o hc e n=>u.free b o e n hc) (fun b o hc e=>u.there b o e hc) u.tups u.frzs u.tbls (fun m' hm=>by
  obtain⟨o',es',ep',ho',r'⟩:=hm;rw[ho] at ho';cases ho';exact⟨_,es',ep',hL,r'⟩) hok hg
def Inv.turned{t':Nat}{it:Addr}(I:Inv X pins σ H s)(k:∀b o,b≠it->s.heap.get? b=some o->h'.get? b=some o)(hn:H it=none)(hL:it≠X.env.locals)
  (h1:it∈X.ex\/↑X.s₀<=it)(h2:∀x c,X.env.cells.lookup x=some c->c≠it)(h3:∀p∈X.pn++pins,p.1≠it):Inv X pins σ H {s with heap:=h',toks:=t'}:=by
 have nit:∀b u,H b=some u->b≠it:=fun b u e z=>by rw[z,hn] at e;cases e
 refine I.step (g':=s.gens) (d':=s.drawn) (ch:=[it]) (fun b hb=>?_) (fun b o _ _ hc e _=>k b o (fun z=>hc (by simp[z])) e) (fun b o _ _ hc e _=>⟨o.slots,k b o (fun z=>hc (by simp[z])) e⟩) (fun _ _ _ _ n=>n)
  (fun b o hc e=>⟨o,k b o (fun z=>hc (by simp[z])) e⟩) (fun _ _ e=>e) (fun _ _ _ e=>e) (fun b ps e=>⟨#[],by rw[e];simp⟩) (fun m hm=>?_) (fun b u e=>?_) I.bare
 .have e:b=it:=by simpa using hb
  subst e;exact⟨h1,hL,h2,h3⟩
 .obtain⟨o,es,ep,ho,r⟩:=hm;exact⟨o,es,ep,k _ o (xB hL) ho,r⟩
 .refine(I.hok b u e).stay (fun c v hc q=>k c v ?_ q) (fun _ q=>q) fun _ _ q=>q;rcases hc with z|z
  .rw[z];exact nit b u e
  .exact nit c _ z
def Inv.tok(I:Inv X pins σ H s)(t:Nat):Inv X pins σ H {s with toks:=t}:=I.un (h':=s.heap) (t':=t) Un.refl I.hok
theorem Inv.kept{t':Nat}(I:Inv X pins σ H s)(k:∀b u,s.heap.get? b=some u->h'.get? b=some u):Inv X pins σ H {s with heap:=h',toks:=t'}:=I.un (Un.kept k) (I.hok.kept k)
theorem Inv.laid{a:Addr}{o:HO}{t':Nat}(I:Inv X pins σ H s)(k:∀b u,s.heap.get? b=some u->h'.get? b=some u)(hp:↑s<=a)(new:qbg X.prog X.w (upd H a o) h' a o):
  Inv X pins σ (upd H a o) {s with heap:=h',toks:=t'}:=I.un (Un.laid k hp (I.hok.fresh hp)) (I.hok.laid k hp new)
theorem Inv.write{x e:Addr}{o:HO}{t':Nat}(I:Inv X pins σ H s)(mu:Mut (H x))(he:e=x\/H e=some (.own x))(k:∀b u,b≠e->s.heap.get? b=some u->h'.get? b=some u)(heo:∃u,h'.get? e=some u)
  (new:qbg X.prog X.w (upd H x o) h' x o):Inv X pins σ (upd H x o) {s with heap:=h',toks:=t'}:=I.un (Un.write mu he k heo) (I.hok.write mu he k heo new)
def Inv.pins_of{pins':List (Addr×Obj)}(I:Inv X pins σ H s)(h:∀p∈pins',s.heap.get? p.1=some p.2/\H p.1=none/\p.1≠X.env.locals/\p.1∉X.fs/\∀v,p.2.data≠ .cell v):Inv X pins' σ H s:=
 ⟨I.ok,I.os,I.bare,I.base,I.loc,I.cell,I.free,I.freeC,fun p hp=>(zT.mp hp).elim (fun z=>I.pin p (zY _ z)) (h p),I.hok,I.len⟩
def qh0{N:List Str}(hN:N.Nodup){i j:Nat}{x:Str}(a:N[i]?=some x)(b:N[j]?=some x):i=j:=by
 obtain⟨h1,e1⟩:=uH.mp a;obtain⟨h2,e2⟩:=uH.mp b;exact(List.getElem_inj hN).mp (e1.trans e2.symm)
def jbn{M:fU}{A:vI}{E:uB->uD->Prop}{i:Nat}{x:Str}{v:V}{u:uB}{Q:Unit->uD->Prop}(I:Inv X pins σ H s)(hN:X.N.Nodup)(hi:X.N[i]?=some x)(hx:Loc X.env.scope x)(r:qbb v u)
  (h:∀s',Inv X pins (σ.set i (some v)) H s'->(∃a,yZ a s.heap s'.heap/\(a=X.env.locals\/X.env.cells.lookup x=some a))->Q () s')(hf:X.fn x=true\/X.env.scope.names.lookup x=some .local:=by first|exact .inl rfl|exact .inr rfl|assumption):uM M A (storeName X.env x u) Q E s:=by
 obtain⟨m,hn,hl⟩:=id I.loc;have hcls:(X.env.scope.kind==.class ||(X.env.scope.kind==.module && X.env.locals !=X.env.globals))=false:=by rw[I.ok.kind];rfl
 have hiσ:i<σ.length:=by rw[I.len];exact(uH.mp hi).1
 have cne:=I.cne;have tracked:∀{a:Addr} {h':vS},(∃o,s.heap.get? a=some o/\H a=none)->yZ a s.heap h'->HOk X.prog X.w H h':=fun {a h'} ha hs b ob e=>by
  obtain⟨_,_,hfree⟩:=ha;refine(I.hok b ob e).stay (fun c w' hc q=>(hs.2 c ?_).trans q) (fun _ q=>q) fun _ _ q=>q;rintro rfl;rcases hc with rfl|hc
  .rw[hfree] at e;cases e
  .rw[hfree] at hc;cases hc
 rcases hx with hk|hk
 .refine wpAny_storeName_local hk hn (fun h' hn' hs=>?_) hcls;obtain⟨oL,_,_,hoL,_⟩:=id hn;refine h _ ⟨I.ok,I.os,I.bare,⟨fun b o e n hb hx=>?_,fun b o e n hb hx=>?_,I.base.free,fun b o e hx=>?_,I.base.tups,I.base.frzs,I.base.tbls⟩,⟨_,hn',fun j y v' e1 e2 e3=>?_⟩,fun y c e=>?_,I.free,I.freeC,fun p hp=>?_,tracked ⟨oL,hoL,I.free⟩ hs,by simpa using I.len⟩ ⟨_,hs,.inl rfl⟩
  .exact(hs.2 b (vM (vN (uV e) I.ok.above))).trans (I.base.keep b o e n hb hx)
  .obtain⟨sl,e1⟩:=I.base.slot b o e n hb hx;exact⟨sl,(hs.2 b (vM (vN (uV e) I.ok.above))).trans e1⟩
  .obtain⟨o',e1⟩:=I.base.there b o e hx;exact⟨o',(hs.2 b (vM (vN (uV e) I.ok.above))).trans e1⟩
  .by_cases hj:j=i
   .subst hj;rw[hi] at e1;cases e1;rw[bP hiσ] at e2
    cases e2
    exact⟨u,r,.inl ⟨hk,by simp⟩⟩
   .rw[yI (xB hj)] at e2;obtain⟨u',r',q⟩:=hl j y v' e1 e2 e3;refine⟨u',r',?_⟩;rcases q with⟨k,e⟩|⟨k,c,e,z⟩
    .refine .inl ⟨k,?_⟩;have:y≠x:=fun e=>hj (qh0 hN e1 (e▸hi));simp[this,e]
    .exact .inr ⟨k,c,e,z.sameBut hs (cne y c e)⟩
  .obtain⟨w',z⟩:=I.cell y c e;exact⟨w',z.sameBut hs (cne y c e)⟩
  .obtain⟨e,n,ne,nf,d⟩:=I.pin p hp;exact⟨(hs.2 p.1 ne).trans e,n,ne,nf,d⟩
 .have hfn:X.fn x=true:=by
   rcases hf with z|z
   .exact z
   .rw[z] at hk;cases hk
  obtain⟨c,hc⟩:=I.ok.has x (.inl hk);obtain⟨w',z⟩:=I.cell x c hc;refine wpAny_storeName_cell I.ok.kind hk hc z (fun h' hc' hs=>?_);obtain⟨oc,hoc,hocd⟩:=id z;refine h {s with heap:=h'} ⟨I.ok,I.os,I.bare,⟨fun b o e n hb hx=>?_,fun b o e n hb hx=>?_,I.base.free,fun b o e hx=>?_,I.base.tups,I.base.frzs,I.base.tbls⟩,⟨m,hn.sameBut hs (xB (cne x c hc)),fun j y v' e1 e2 e3=>?_⟩,fun y c' e=>?_,I.free,I.freeC,fun p hp=>?_,tracked ⟨oc,hoc,I.freeC x c hc⟩ hs,by simpa using I.len⟩ ⟨c,hs,.inr hc⟩
  .exact(hs.2 b (vM (vN (uV e) (I.ok.cab x c hfn hc)))).trans (I.base.keep b o e n hb hx)
  .obtain⟨sl,e1⟩:=I.base.slot b o e n hb hx;exact⟨sl,(hs.2 b (vM (vN (uV e) (I.ok.cab x c hfn hc)))).trans e1⟩
  .obtain⟨o',e1⟩:=I.base.there b o e hx;exact⟨o',(hs.2 b (vM (vN (uV e) (I.ok.cab x c hfn hc)))).trans e1⟩
  .by_cases hj:j=i
   .subst hj;rw[hi] at e1;cases e1;rw[bP hiσ] at e2
    cases e2
    exact⟨u,r,.inr ⟨.inl hk,c,hc,hc'⟩⟩
   .rw[yI (xB hj)] at e2;obtain⟨u',r',q⟩:=hl j y v' e1 e2 e3;refine⟨u',r',?_⟩;rcases q with q|⟨k,c',e,z'⟩
    .exact .inl q
    .refine .inr ⟨k,c',e,z'.sameBut hs ?_⟩;rintro rfl;exact hj (qh0 hN e1 (I.ok.inj _ _ _ e hc▸hi))
  .by_cases hcc:c'=c
   .subst hcc;exact⟨_,hc'⟩
   .obtain⟨w2,z2⟩:=I.cell y c' e;exact⟨w2,z2.sameBut hs hcc⟩
  .obtain⟨e,n,ne,nf,d⟩:=I.pin p hp;refine⟨(hs.2 p.1 ?_).trans e,n,ne,nf,d⟩;intro q;rw[q,hoc] at e;have q':oc=p.2:=vB e;exact d w' (by rw[<-q'];exact hocd)
def qf5{M:fU}{A:vI}{E:uB->uD->Prop}{i:Nat}{x:Str}{v:V}{u:uB}{Q:Unit->uD->Prop}(I:Inv X pins σ H s)(hN:X.N.Nodup)(hi:X.N[i]?=some x)(hx:Loc X.env.scope x)(r:qbb v u)
  (h:∀s',Inv X pins (σ.set i (some v)) H s'->Q () s')(hf:X.fn x=true\/X.env.scope.names.lookup x=some .local:=by first|exact .inl rfl|exact .inr rfl|assumption):uM M A (storeName X.env x u) Q E s:=
 jbn I hN hi hx r (fun s' I' _=>h s' I') hf
def Inv.call'{s':uD}{ch:List Addr}(I:Inv X pins σ H s)(ho:s'.os=s.os)(u:Un (frs X.stack) ch H H' s.heap s'.heap)(hok:HOk X.prog X.w H' s'.heap)(hg:cT s'.gens)
  (hch:∀b∈ch,(b∈X.ex\/↑X.s₀<=b)/\b≠X.env.locals/\(∀x c,X.env.cells.lookup x=some c->c≠b)/\∀p∈X.pn++pins,p.1≠b):Inv X pins σ H' s':=by
 obtain⟨h',g',d',t',o'⟩:=s';have e:o'=s.os:=ho;subst e;exact I.call (g':=g') (t':=t') (d':=d') u hok hg hch
end
abbrev XK:=uB->Option Addr->Hp->Prop
abbrev St:=List (Option V)
abbrev VK:=V->Hp->Prop
abbrev TE:=St->Hp->VK->Prop
abbrev TT:=St->Hp->(Bool->Hp->Prop)->Prop
abbrev TA:=St->Hp->(List V->Hp->Prop)->Prop
structure jam where
 nx:St->Hp->Prop
 rt:VK
 bk:St->Hp->Prop:=fun _ _=>False
 ct:St->Hp->Prop:=fun _ _=>False
abbrev TS:=jam->St->Hp->Prop
def EP(X:Cx)(pins:List (Addr×Obj))(σ:St)(Q:VK)(u:uB)(s':uD):Prop:=∃v H',Inv X pins σ H' s'/\qbb v u/\Q v H'
def TP(X:Cx)(pins:List (Addr×Obj))(σ:St)(Q:Bool->Hp->Prop)(b:Bool)(s':uD):Prop:=∃H',Inv X pins σ H' s'/\Q b H'
def AP(X:Cx)(pins:List (Addr×Obj))(σ:St)(Q:List V->Hp->Prop)(us:List uB)(s':uD):Prop:=∃vs H',Inv X pins σ H' s'/\qbk vs us/\Q vs H'
def SP(X:Cx)(pins:List (Addr×Obj))(D:jam)(f:Flow)(s':uD):Prop:=
 match f with
 | .next=>∃σ' H',Inv X pins σ' H' s'/\D.nx σ' H'
 | .brk=>∃σ' H',Inv X pins σ' H' s'/\D.bk σ' H'
 | .cont=>∃σ' H',Inv X pins σ' H' s'/\D.ct σ' H'
 | .ret u=>∃v σ' H',Inv X pins σ' H' s'/\qbb v u/\D.rt v H'
def PE(X:Cx)(e:vT)(t:TE):Prop:=
 ∀(pins:List (Addr×Obj))(s:uD)(σ:St)(H:Hp)(Q:VK),Inv X pins σ H s->t σ H Q->uM (uP X.prog X.w) X.A (wQ e X.env) (EP X pins σ Q) X.xe s
def PT(X:Cx)(e:vT)(t:TT):Prop:=
 ∀(pins:List (Addr×Obj))(s:uD)(σ:St)(H:Hp)(Q:Bool->Hp->Prop),Inv X pins σ H s->t σ H Q->uM (uP X.prog X.w) X.A (isTrue e X.env (wQ e X.env)) (TP X pins σ Q) X.xe s
def PW(X:Cx)(e:vT)(t:TT):Prop:=
 ∀(whole:Sem uB)(pins:List (Addr×Obj))(s:uD)(σ:St)(H:Hp)(Q:Bool->Hp->Prop),Inv X pins σ H s->t σ H Q->uM (uP X.prog X.w) X.A (isTrue e X.env whole) (TP X pins σ Q) X.xe s
def PW.pt{t:TT}(h:PW X e t):PT X e t:=h _
def PA(X:Cx)(es:List vT)(t:TA):Prop:=
 ∀(pos:Pos)(pins:List (Addr×Obj))(s:uD)(σ:St)(H:Hp)(Q:List V->Hp->Prop),Inv X pins σ H s->t σ H Q->uM (uP X.prog X.w) X.A (spliced (wW pos (vF es X.env))) (AP X pins σ Q) X.xe s
def PS(X:Cx)(st:Stmt)(t:TS):Prop:=
 ∀(pins:List (Addr×Obj))(s:uD)(σ:St)(H:Hp)(D:jam),Inv X pins σ H s->t D σ H->uM (uP X.prog X.w) X.A (exec st X.env) (SP X pins D) X.xe s
def PSs(X:Cx)(st:List Stmt)(t:TS):Prop:=
 ∀(pins:List (Addr×Obj))(s:uD)(σ:St)(H:Hp)(D:jam),Inv X pins σ H s->t D σ H->uM (uP X.prog X.w) X.A (execs st X.env) (SP X pins D) X.xe s
def thn{α:Type}{t:Sem α}{Q Q':α->uD->Prop}{M:fU}{E:uB->uD->Prop}(h:uM M A t Q E s)(hQ:∀a s,Q a s->Q' a s):uM M A t Q' E s:=vR h hQ fun _ _ x=>x
section
variable{X:Cx}
noncomputable def jsl(i:Nat):TE:=fun σ H Q=>∃v,σ[i]?=some (some v)/\Q v H
noncomputable def tC(v:V):TE:=fun _ H Q=>Q v H
def joz(hN:X.N[i]?=some x)(hv:Vis X.env.scope x)(hd:autoParam ((x==("__debug__":Str))=false) auD)(hcd:autoParam ((x==("__classdict__":Str))=false) auD):PE X (.Name x pos) (jsl i):=by
 intro pins s σ H Q I h;obtain⟨v,e,h⟩:=h;obtain⟨m,hn,hl⟩:=I.loc;obtain⟨u,r,l⟩:=hl i x v hN e hv;have fin:EP X pins σ Q u s:=⟨v,H,I,r,h⟩;rcases l with⟨hk,hm⟩|⟨hk,c,hc,hcell⟩
 .exact wpAny_Name (wpAny_loadName_local I.ok.kind hk hn hm fin) hd
 .rcases hk with hk|hk
  .exact wpAny_Name (wpAny_loadName_cell I.ok.kind hk hc hcell fin) hd
  .exact wpAny_Name (wpAny_loadName_free I.ok.kind hk hc hcell fin hcd) hd
def qa5{i j pos} :PE X (.Constant (.int i) j pos) (tC (.int i)):=fun _ _ _ H _ I h=>wpAny_Constant_int ⟨.int i,H,I.tok _,⟨_,rfl⟩,h⟩
def qdi{b j pos} :PE X (.Constant (.bool b) j pos) (tC (.bl b)):=fun _ _ _ H _ I h=>Constant_bool ⟨.bl b,H,I,rfl,h⟩
def qcq{j pos} :PE X (.Constant .none j pos) (tC .non):=fun _ _ _ H _ I h=>Constant_none ⟨.non,H,I,rfl,h⟩
def qaq{x j pos} :PE X (.Constant (.str x) j pos) (tC (.str x)):=fun _ _ _ H _ I h=>Calls.Constant_str ⟨.str x,H,I.tok _,⟨_,rfl⟩,h⟩
def Gl(X:Cx)(x:Str):Prop:=X.env.kindOf x=some .globalImplicit
def qcw{E:uB->uD->Prop}{pins:List (Addr×Obj)}{s:uD}{σ:St}{H:Hp}{x:Str}{u:uB}{pos:Pos}{Q:uB->uD->Prop}(I:Inv X pins σ H s)(hg:Gl X x)(hm:X.mg x=some u)(h:Q u s)
  (hd:autoParam ((x==("__debug__":Str))=false) auD):uM (uP X.prog X.w) X.A (wQ (.Name x pos) X.env) Q E s:=
 Calls.Name_function_global I.ok.kind hg (Calls.loadGlobal_global (by rw[I.ok.glob];exact I.mod.glob.keeps I.bk) hm h) hd
def jbo{E:uB->uD->Prop}{pins:List (Addr×Obj)}{s:uD}{σ:St}{H:Hp}{x:Str}{u:uB}{pos:Pos}{Q:uB->uD->Prop}(I:Inv X pins σ H s)(hg:Gl X x)(hm:X.mg x=none)(hv:bO x=some u)(h:Q u s)
  (hn:autoParam (x≠"__name__") auD)(hd:autoParam ((x==("__debug__":Str))=false) auD):uM (uP X.prog X.w) X.A (wQ (.Name x pos) X.env) Q E s:=by
 obtain⟨mb,h1,h2⟩:=I.mod.blt;exact Calls.Name_function_global I.ok.kind hg (Calls.loadGlobal_builtin (by rw[I.ok.glob];exact I.mod.glob.keeps I.bk) hm (by rw[I.ok.blt];exact h1.keeps I.bk) ((h2 x hn).trans hv) h) hd
def qbt(hg:Gl X x)(hm:X.mg x=some u)(r:qbb v u)(hd:autoParam ((x==("__debug__":Str))=false) auD):PE X (.Name x pos) (tC v):=
 fun _ _ _ H _ I h=>qcw I hg hm ⟨v,H,I,r,h⟩ hd
def qc4(hg:Gl X x)(hm:X.mg x=none)(hv:bO x=some u)(r:qbb v u)(hn:autoParam (x≠"__name__") auD)(hd:autoParam ((x==("__debug__":Str))=false) auD):PE X (.Name x pos) (tC v):=
 fun _ _ _ H _ I h=>jbo I hg hm hv ⟨v,H,I,r,h⟩ hn hd
variable{a b:vT}{ta tb:TE}{pos:Pos}
def PC(X:Cx)(op:CmpOp)(a b:vT)(t:TE):Prop:=
 ∀(pins:List (Addr×Obj))(s:uD)(σ:St)(H:Hp)(Q:VK),Inv X pins σ H s->t σ H Q->
  uM (uP X.prog X.w) X.A (wQ a X.env) (fun v s₁=>uM (uP X.prog X.w) X.A (wQ b X.env) (fun u s₂=>uM (uP X.prog X.w) X.A (wA op v u) (EP X pins σ Q) X.xe s₂) X.xe s₁) X.xe s
noncomputable def tB(t:TE):TT:=fun σ H Q=>t σ H fun x H1=>∃c,x=.bl c/\Q c H1
def jo0(h:PC X op a b t)(h1:dB op b=false:=by first|exact nobehind _ ∅ ∅ |rfl):PE X (.Compare a [op] [b] pos) t:=fun pins s σ H Q I hw=>wpAny_Compare1 (h pins s σ H Q I hw) h1
def qbd(h:PE X e t)(he:∀whole,isTrue e X.env whole=(do let v<-whole;standAt e.pos;fJ [v] (truthy v)):=by intro _;rfl):PT X e (tB t):=by
 intro pins s σ H Q I hw;refine isTrue_plain (thn (h pins s σ H _ I hw) fun v s1 h9=>?_) (he _);obtain⟨x,H1,I1,r1,q1⟩:=h9;obtain⟨d,rfl,q⟩:=q1
 cases r1
 exact wN ⟨H1,I1,q⟩
variable{tA tB':TT}{rest:List vT}
noncomputable def tOr(t u:TT):TT:=fun σ H Q=>t σ H fun c H1=>if c=true then Q true H1 else u σ H1 Q
noncomputable def jur(t:TT):TT:=fun σ H Q=>t σ H fun c H1=>Q (!c) H1
def qd6(ha:PT X a tA):PW X (.BoolOp .Or [a] pos) tA:=by
 intro wh pins s σ H Q I h;refine isTrue_or (thn (ha pins s σ H Q I h) fun c s1 e=>?_)
 cases c with
 |false=>exact isTrue_or_nil e
 |true=>exact e
def qek(ha:PT X a tA)(hb:PW X (.BoolOp .Or (b::rest) pos) tB'):PW X (.BoolOp .Or (a::b::rest) pos) (tOr tA tB'):=by
 intro wh pins s σ H Q I h;refine isTrue_or (thn (ha pins s σ H _ I h) fun c s1 h9=>?_);obtain⟨H1,I1,q1⟩:=h9
 cases c with
 |true=>exact⟨H1,I1,q1⟩
 |false=>exact hb wh pins s1 σ H1 Q I1 q1
def qbr(ha:PT X a tA):PT X (.UnaryOp .Not a pos) (jur tA):=by
 intro pins s σ H Q I h;exact isTrue_not (ha pins s σ H (fun c H1=>Q (!c) H1) I h)
noncomputable def jo1(ta tb:TE):TE:=fun σ H Q=>ta σ H fun x H1=>∃c,x=.bl c/\if c=true then tb σ H1 Q else Q (.bl false) H1
noncomputable def jus(ta tb:TE):TE:=fun σ H Q=>ta σ H fun x H1=>∃c,x=.bl c/\if c=true then Q (.bl true) H1 else tb σ H1 Q
noncomputable def jo2(ta:TE):TE:=fun σ H Q=>ta σ H fun x H1=>∃c,x=.bl c/\Q (.bl (!c)) H1
def qg4{op}(h:PE X a t):PE X (.BoolOp op [a] pos) t:=fun pins s σ H Q I hw=>BoolOp_one (h pins s σ H Q I hw)
def jbp(ha:PE X a ta)(hb:PE X (.BoolOp .And (b::rest) pos) tb):PE X (.BoolOp .And (a::b::rest) pos) (jo1 ta tb):=by
 intro pins s σ H Q I h;refine BoolOp_and (thn (ha pins s σ H _ I h) fun v s1 h9=>?_);obtain⟨x,H1,I1,r1,q1⟩:=h9;obtain⟨c,rfl,q1⟩:=q1
 cases r1
 refine wN ?_
 cases c with
 |true=>exact hb pins s1 σ H1 Q I1 q1
 |false=>exact⟨.bl false,H1,I1,rfl,q1⟩
def jsm(ha:PE X a ta)(hb:PE X (.BoolOp .Or (b::rest) pos) tb):PE X (.BoolOp .Or (a::b::rest) pos) (jus ta tb):=by
 intro pins s σ H Q I h;refine BoolOp_or (thn (ha pins s σ H _ I h) fun v s1 h9=>?_);obtain⟨x,H1,I1,r1,q1⟩:=h9;obtain⟨c,rfl,q1⟩:=q1
 cases r1
 refine wN ?_
 cases c with
 |false=>exact hb pins s1 σ H1 Q I1 q1
 |true=>exact⟨.bl true,H1,I1,rfl,q1⟩
def jkb(ha:PE X a ta):PE X (.UnaryOp .Not a pos) (jo2 ta):=by
 intro pins s σ H Q I h;refine UnaryOp_ (thn (ha pins s σ H _ I h) fun v s1 h9=>?_);obtain⟨x,H1,I1,r1,q1⟩:=h9;obtain⟨c,rfl,q1⟩:=q1
 cases r1
 exact not_of (wN ⟨.bl (!c),H1,I1,rfl,q1⟩)
noncomputable def tIf(t:TT)(ta tb:TE):TE:=fun σ H Q=>t σ H fun c H1=>if c=true then ta σ H1 Q else tb σ H1 Q
def jix(hc:PT X c tA)(ha:PE X a ta)(hb:PE X b tb):PE X (.IfExp c a b pos) (tIf tA ta tb):=by
 intro pins s σ H Q I h;refine wpAny_IfExp (thn (hc pins s σ H _ I h) fun d s1 h9=>?_);obtain⟨H1,I1,q1⟩:=h9
 cases d with
 |true=>exact ha pins s1 σ H1 Q I1 q1
 |false=>exact hb pins s1 σ H1 Q I1 q1
end
def SqL(K:uY)(H:Hp)(a:Addr)(xs:List V):Prop:=
 Rd H a (.lst xs)\/
  ∃(o:Obj)(its:Array uB)(n:Nat),K.lookup a=some o/\o.cls=.type "list"/\o.dict=none/\o.data=.seq its n/\its.size<=sizeLine/\qbk xs its.toList
def SqT(K:uY)(H:Hp)(a:Addr)(xs:List V):Prop:=
 Rd H a (.tup xs)\/
  ∃(o:Obj)(its:Array uB)(n:Nat),K.lookup a=some o/\o.cls=.type "tuple"/\o.data=.seq its n/\its.size<=sizeLine/\qbk xs its.toList
noncomputable def jut:uB->Option V
 | .none=>some .non
 | .bool b=>some (.bl b)
 | .int i _=>some (.int i)
 | .str x _=>some (.str x)
 | .bytes b _=>some (.byt b)
 | .float b _=>some (.flt b)
 | .ref a=>some (.ref a)
 | .type n=>some (.ty n)
 |_=>none
def qbb.abs{x:V}(r:qbb x u):jut u=some x:=by
 cases x with
 |non=>cases r;rfl
 |bl _=>cases r;rfl
 |int _=>obtain⟨t,rfl⟩:=r;rfl
 |str _=>obtain⟨t,rfl⟩:=r;rfl
 |byt _=>obtain⟨t,rfl⟩:=r;rfl
 |flt _=>obtain⟨t,rfl⟩:=r;rfl
 |ref _=>cases r;rfl
 |ty _=>cases r;rfl
def qbb.inj{x y:V}(r:qbb x u)(q:qbb y u):x=y:=vB (r.abs.symm.trans q.abs)
theorem qbk.inj:∀{xs ys:List V} {us:List uB},qbk xs us->qbk ys us->xs=ys
 |_,_,_,.nil,.nil=>rfl
 |_,_,_,.cons r t,.cons r' t'=>by rw[r.inj r',qbk.inj t t']
section
variable{X:Cx}{pins:List (Addr×Obj)}{σ:St}{H:Hp}{s:uD}{a:Addr}{xs ys:List V}
def SqL.of(h:H a=some (.lst xs)):SqL K H a xs:=.inl (.inl h)
def SqT.of(h:H a=some (.tup xs)):SqT K H a xs:=.inl (.inl h)
def Inv.list(I:Inv X pins σ H s)(h:SqL X.K H a xs):∃its:List uB,qbk xs its/\PlainL s.heap a its.toArray/\xs.length<=sizeLine:=by
 rcases h with h|⟨o,its,n,hk,hc,hd,hs,hz,r⟩
 .obtain⟨z,its,n,r,e⟩:=h.ok I.hok;exact⟨its,r,⟨_,n,e,rfl,rfl,rfl⟩,z⟩
 .refine⟨its.toList,r,⟨o,n,I.kIn a o hk,hc,hd,by simpa using hs⟩,?_⟩;have e:=r.length;simp only[aZ] at e;omega
def Inv.tuple(I:Inv X pins σ H s)(h:SqT X.K H a xs):∃its:List uB,qbk xs its/\IsTup s.heap a its.toArray/\xs.length<=sizeLine:=by
 rcases h with h|⟨o,its,n,hk,hc,hs,hz,r⟩
 .obtain⟨z,its,r,p⟩:=h.ok I.hok;exact⟨its,r,p,z⟩
 .refine⟨its.toList,r,⟨o,I.kIn a o hk,hc,n,by simpa using hs⟩,?_⟩;have e:=r.length;simp only[aZ] at e;omega
def Inv.list_inj(I:Inv X pins σ H s)(h:SqL X.K H a xs)(h':SqL X.K H a ys):xs=ys:=by
 obtain⟨its,r,⟨o,n,e,_,_,d⟩,_⟩:=I.list h;obtain⟨its',r',⟨o',n',e',_,_,d'⟩,_⟩:=I.list h';rw[e] at e';cases e';rw[d] at d';injection d' with d1 _
 have:its=its':=by simpa using congrArg Array.toList d1
 subst this;exact r.inj r'
end
abbrev Cx.wish(X:Cx)(E:uB->uD->Prop):Cx:={X with xe:=E}
abbrev Cx.nox(X:Cx):Cx:=X.wish fun _ _=>False
theorem Cx.Ok.wish(ok:X.Ok)(E:uB->uD->Prop):(X.wish E).Ok:=
 ⟨ok.mod,ok.kind,ok.glob,ok.blt,ok.above,ok.inj,ok.has,ok.cab,ok.hd,ok.frames,ok.stk,ok.exf,ok.bs,ok.bsz,ok.noex,ok.exfs,ok.funs,ok.frf⟩
def Cx.Ok.unwish{E:uB->uD->Prop}(ok:(X.wish E).Ok):X.Ok:=
 ⟨ok.mod,ok.kind,ok.glob,ok.blt,ok.above,ok.inj,ok.has,ok.cab,ok.hd,ok.frames,ok.stk,ok.exf,ok.bs,ok.bsz,ok.noex,ok.exfs,ok.funs,ok.frf⟩
section
variable{X:Cx}{pins:List (Addr×Obj)}{σ:St}{H:Hp}{s:uD}{E:uB->uD->Prop}
theorem Inv.wish(I:Inv X pins σ H s)(E:uB->uD->Prop):Inv (X.wish E) pins σ H s:=⟨I.ok.wish E,I.os,I.bare,I.base,I.loc,I.cell,I.free,I.freeC,I.pin,I.hok,I.len⟩
theorem Inv.unwish(I:Inv (X.wish E) pins σ H s):Inv X pins σ H s:=⟨I.ok.unwish,I.os,I.bare,I.base,I.loc,I.cell,I.free,I.freeC,I.pin,I.hok,I.len⟩
theorem SP.unwish{D:jam}{f:Flow}{s':uD}(h:SP (X.wish E) pins D f s'):SP X pins D f s':=by
 cases f with
 |next=>obtain⟨σ',H',I,q⟩:=h;exact⟨σ',H',I.unwish,q⟩
 |brk=>obtain⟨σ',H',I,q⟩:=h;exact⟨σ',H',I.unwish,q⟩
 |cont=>obtain⟨σ',H',I,q⟩:=h;exact⟨σ',H',I.unwish,q⟩
 |ret u=>obtain⟨v,σ',H',I,r,q⟩:=h;exact⟨v,σ',H',I.unwish,r,q⟩
theorem PSs.nox{st:List Stmt}{t:TS}(h:PSs X.nox st t):PSs X st t:=fun pins s σ H D I hw=>
 vR (h pins s σ H D (I.wish _) hw) (fun _ _ q=>q.unwish) fun _ _ z=>vU z
end
section
variable{X:Cx}{st:Stmt}{rest:List Stmt}{t u:TS}{e:vT}{te:TE}{pos:Pos}
noncomputable def jo3:TS:=fun D σ H=>D.nx σ H
noncomputable def jsn(t u:TS):TS:=fun D σ H=>t {D with nx:=u D} σ H
def qad:PSs X [] jo3:=fun _ _ σ H _ I h=>eG ⟨σ,H,I,h⟩
def qa3(h1:PS X st t)(h2:PSs X rest u):PSs X (st::rest) (jsn t u):=by
 intro pins s σ H D I h;refine wpAny_execs_cons (thn (h1 pins s σ H {D with nx:=u D} I h) fun f s1 q=>?_)
 cases f with
 |next=>
  obtain⟨σ',H',I',q⟩:=q;exact h2 pins s1 σ' H' D I' q
 |ret v=>exact q
 |brk=>exact q
 |cont=>exact q
def qa6(h1:PS X st t):PSs X [st] t:=by
 intro pins s σ H D I h;refine wpAny_execs_cons (thn (h1 pins s σ H D I h) fun f s1 q=>?_)
 cases f with
 |next=>exact eG q
 |ret v=>exact q
 |brk=>exact q
 |cont=>exact q
def Inv.quiet(I:Inv X pins σ H s):interactive X.env=false:=by simp[interactive,I.ok.kind]
noncomputable def jo4(te:TE):TS:=fun D σ H=>te σ H fun _ H1=>D.nx σ H1
def qb3(he:PE X e te)(hs:autoParam (bK e none pos.line X.env=pure false) auR):PS X (.Expr e pos) (jo4 te):=by
 intro pins s σ H D I h;exact wpAny_Expr_any (thn (he pins s σ H _ I h) fun v s1 ⟨x,H1,I1,r1,q1⟩=>⟨σ,H1,I1,q1⟩) I.quiet hs
noncomputable def juu(te:TE):TS:=fun D σ H=>te σ H D.rt
def qaj(he:PE X e te):PS X (.Return (some e) pos) (juu te):=by
 intro pins s σ H D I h;exact wpAny_Return_some (thn (he pins s σ H _ I h) fun v s1 ⟨x,H1,I1,r1,q1⟩=>⟨x,σ,H1,I1,r1,q1⟩)
noncomputable def juv(c:TT)(t u:TS):TS:=fun D σ H=>c σ H fun b H1=>if b=true then t D σ H1 else u D σ H1
def qay{a b:List Stmt}{tc:TT}(hc:PT X c tc)(ha:PSs X a t)(hb:PSs X b u):PS X (.If c a b pos) (juv tc t u):=by
 intro pins s σ H D I h;refine wpAny_If (thn (hc pins s σ H _ I h) fun d s1 h9=>?_);obtain⟨H1,I1,q1⟩:=h9
 cases d with
 |true=>exact ha pins s1 σ H1 D I1 q1
 |false=>exact hb pins s1 σ H1 D I1 q1
end
abbrev TG:=V->St->Hp->(St->Hp->Prop)->Prop
abbrev TGs:=List V->St->Hp->(St->Hp->Prop)->Prop
def PG(X:Cx)(target:vT)(t:TG):Prop:=
 ∀(pins:List (Addr×Obj))(s:uD)(σ:St)(H:Hp)(v:V)(u:uB)(Q:St->Hp->Prop),Inv X pins σ H s->qbb v u->t v σ H Q->
  uM (uP X.prog X.w) X.A (iE target X.env u) (fun _ s'=>∃σ' H',Inv X pins σ' H' s'/\Q σ' H') X.xe s
def PGs(X:Cx)(ts:List vT)(t:TGs):Prop:=
 ∀(pins:List (Addr×Obj))(s:uD)(σ:St)(H:Hp)(vs:List V)(us:List uB)(Q:St->Hp->Prop),Inv X pins σ H s->qbk vs us->t vs σ H Q->
  uM (uP X.prog X.w) X.A (assignInOrder ((aA ts X.env).map (·.2)) us) (fun _ s'=>∃σ' H',Inv X pins σ' H' s'/\Q σ' H') X.xe s
section
variable{X:Cx}{pos:Pos}
noncomputable def qdl(i:Nat):TG:=fun v σ H Q=>Q (σ.set i (some v)) H
def qah(hN:X.N.Nodup)(hi:X.N[i]?=some x)(hx:Loc X.env.scope x)(hf:X.fn x=true\/X.env.scope.names.lookup x=some .local:=by first|exact .inl rfl|exact .inr rfl|assumption):PG X (.Name x pos) (qdl i):=by
 intro pins s σ H v u Q I r h;exact gT (qf5 I hN hi hx r (fun s' I'=>⟨_,H,I',h⟩) hf)
noncomputable def juw:TGs:=fun vs σ H Q=>vs=[]/\Q σ H
noncomputable def jo5(t:TG)(u:TGs):TGs:=fun vs σ H Q=>∃v r,vs=v::r/\t v σ H fun σ' H'=>u r σ' H' Q
def qdf:PGs X [] juw:=by
 intro pins s σ H vs us Q I r h;obtain⟨e,h⟩:=h;subst e
 cases r
 exact assignInOrder_nil ⟨σ,H,I,h⟩
def qap{e:vT}{es:List vT}{t:TG}{u:TGs}(h1:PG X e t)(h2:PGs X es u)
  (hs:autoParam ((aA (e::es) X.env).map (·.2)=iE e X.env ::(aA es X.env).map (·.2)) auR):PGs X (e::es) (jo5 t u):=by
 intro pins s σ H vs us Q I r h;obtain⟨v,vr,e1,h⟩:=h;subst e1
 cases r with
 |cons r rr=>
  rw[hs];refine assignInOrder_cons (thn (h1 pins s σ H _ _ _ I r h) fun _ s1 h9=>?_);obtain⟨σ1,H1,I1,q1⟩:=h9;exact h2 pins s1 σ1 H1 _ _ Q I1 rr q1
noncomputable def jsb(K:uY)(n:Nat)(t:TGs):TG:=fun v σ H Q=>∃a xs,v=.ref a/\SqT K H a xs/\xs.length=n/\t xs σ H Q
def jkc{es:List vT}{k:Nat}{t:TGs}{n:Nat}(hc:X.calm=true)(h:PGs X es t)
  (hn:autoParam ((aA es X.env).length=n) auR)(hst:autoParam ((aA es X.env).findIdx? (·.1)=none) auR):PG X (.Tuple es k pos) (jsb X.K n t):=by
 intro pins s σ H v u Q I r hw;obtain⟨a,xs,e1,hq,hl,hw⟩:=hw;subst e1
 cases r
 obtain⟨its,rv,ht,hz⟩:=I.tuple hq;refine assign_Tuple_tuple (I.ok.hd hc) ht (by simp[hn,<-hl,rv.length]) hst fun h' hx=>?_;have I1:Inv X pins σ H {s with heap:=h'}:=I.kept (t':=s.toks) fun b o e=>hx b o (vM (uV e)) e;exact h pins _ σ H xs _ Q I1 (by simpa using rv) hw
noncomputable def jol(te:TE)(g:TG):TS:=fun D σ H=>te σ H fun x H1=>g x σ H1 D.nx
def qg2{tg:vT}{te:TE}{g:TG}(he:PE X e te)(hg:PG X tg g)(hs:autoParam (swapsWithSole [tg] e pos.line X.env=pure false) auR)(hw:autoParam (swappedStores [tg] e X.env=pure none) auR)
  (h1:autoParam ((aA [tg] X.env).map (·.2)=[iE tg X.env]) auR):PS X (.Assign [tg] e pos) (jol te g):=by
 intro pins s σ H D I h;refine wpAny_Assign_stores (thn (he pins s σ H _ I h) fun v s1 h9=>?_) hs hw;obtain⟨x,H1,I1,r1,q1⟩:=h9;rw[h1];exact thn (hg pins s1 σ H1 x v _ I1 r1 q1) fun _ s2 q=>q
def qag{te:TE}{pos':Pos}(hN:X.N.Nodup)(hi:X.N[i]?=some x)(hx:Loc X.env.scope x)(he:PE X e te)(hs:autoParam (bK e (some (.Name x pos')) pos.line X.env=pure false) auR)(hf:X.fn x=true\/X.env.scope.names.lookup x=some .local:=by first|exact .inl rfl|exact .inr rfl|assumption):
  PS X (.Assign [.Name x pos'] e pos) (jol te (qdl i)):=by
 intro pins s σ H D I h;refine wpAny_Assign_Name (thn (he pins s σ H _ I h) fun v s1 h9=>?_) hs;obtain⟨y,H1,I1,r1,q1⟩:=h9;exact qf5 I1 hN hi hx r1 (fun s2 I2=>⟨_,H1,I2,q1⟩) hf
end
section
variable{X:Cx}{pos:Pos}
noncomputable def jkd(c:TT)(tb:TS):TS:=fun D σ H=>∃W:Nat->St->Hp->Prop,(∃m,W m σ H)/\∀m σ H,W m σ H->
 c σ H fun b H1=>if b=true then ∃N:St->Hp->Prop,(∀σ' H',N σ' H'->∃m',m'<m/\W m' σ' H')/\tb {D with nx:=N,ct:=N,bk:=D.nx} σ H1 else D.nx σ H1
def qgx{body:List Stmt}{tc:TT}{tb:TS}(hp:PassesOwn (uP X.prog X.w) X.A X.env X.xe)(hc:PT X c tc)(hb:PSs X body tb):PS X (.While c body [] pos) (jkd tc tb):=by
 intro pins s σ H D I h;obtain⟨W,⟨m0,w0⟩,turn⟩:=h;refine wpAny_While (codeAny_whileLoop (fun n s'=>∃σ' H',Inv X pins σ' H' s'/\W n σ' H') ?_ m0 ⟨σ,H,I,w0⟩);rintro n s1 ⟨σ1,H1,I1,w1⟩;refine aC hp (thn (hc pins s1 σ1 H1 _ I1 (turn n σ1 H1 w1)) fun b s2 h9=>?_);obtain⟨H2,I2,q2⟩:=h9
 cases b with
 |true=>
  obtain⟨N,hN,q2⟩:=q2;rw[iO rfl];refine aC hp (thn (hb pins s2 σ1 H2 _ I2 q2) fun f s3 q3=>?_)
  cases f with
  |next=>
   obtain⟨σ3,H3,I3,n3⟩:=q3;obtain⟨m',hm,w3⟩:=hN σ3 H3 n3;exact⟨m',hm,σ3,H3,I3,w3⟩
  |cont=>
   obtain⟨σ3,H3,I3,n3⟩:=q3;obtain⟨m',hm,w3⟩:=hN σ3 H3 n3;exact⟨m',hm,σ3,H3,I3,w3⟩
  |brk=>exact q3
  |ret v=>exact q3
 |false=>
  rw[iN uL];exact eG ⟨σ1,H2,I2,q2⟩
end
structure It where
 go:Nat->Hp->Prop
 yld:Nat->Hp->V->Hp->Prop
 stop:Nat->Hp->Prop
def jct(X:Cx)(pins:List (Addr×Obj))(H:Hp)(b:Addr):Prop:=
 H b=none/\b≠X.env.locals/\b∉X.fs/\(b∈X.ex\/↑X.s₀<=b)/\(∀x c,X.env.cells.lookup x=some c->c≠b)/\∀p∈X.pn++pins,p.1≠b
def Inv.fpOk{H':Hp}(I:Inv X pins σ H s)(hb:↑s<=b)(hn:H' b=none):jct X pins H' b:=by
 refine⟨hn,Nat.ne_of_gt (vN I.lt hb),I.nofs hb,.inr (wG I.sz hb),fun x c e z=>?_,fun p hp z=>?_⟩
 .obtain⟨v,q⟩:=I.cell x c e;exact absurd (vN q.lt (by rw[z];exact hb)) (wO _)
 .exact absurd (vN (uV (I.pin p hp).1) (by rw[z];exact hb)) (wO _)
structure jke(P:uI)(w:vA)(K:uY)(tg:vT)(J:It)(fp:List Addr)(it:Addr)(tn:Nat->vS->Prop):Prop where
 mem:it∈fp
 obj:∀i h,tn i h->∀b∈fp,∃o,h.get? b=some o/\∀v,o.data≠ .cell v
 keep:∀i h h',tn i h->(∀b∈fp,∀o,h.get? b=some o->h'.get? b=some o)->tn i h'
 item:∀(X:Cx),X.prog=P->X.w=w->X.K=K->X.calm=true->∀(i:Nat)(pins:List (Addr×Obj))(s:uD)(σ:St)(H:Hp)(E:uB->uD->Prop),Inv X pins σ H s->(∀b∈fp,jct X pins H b)->tn i s.heap->J.go i H->
  uM (uP P w) X.A (gD (.ref it)) (fun r s1=>∃u,r=some u/\
   uM (uP P w) X.A (letOwnedTupleGo tg (.ref it) u) (fun _ s2=>∃x H',Inv X pins σ H' s2/\qbb x u/\J.yld i H x H'/\tn (i+1) s2.heap/\∀b∈fp,H' b=none) E s1) E s
 done:∀(X:Cx),X.prog=P->X.w=w->X.K=K->X.calm=true->∀(i:Nat)(pins:List (Addr×Obj))(s:uD)(σ:St)(H:Hp)(E:uB->uD->Prop),Inv X pins σ H s->(∀b∈fp,jct X pins H b)->tn i s.heap->J.stop i H->
  uM (uP P w) X.A (gD (.ref it)) (fun r s1=>r=none/\Inv X pins σ H s1) E s
 self:∀(A:vI)(i:Nat)(s:uD)(Q:uB->uD->Prop)(E:uB->uD->Prop),tn i s.heap->Q (.ref it) s->uM (uP P w) A (pyIter (.ref it)) Q E s
abbrev TI:=St->Hp->(It->Hp->Prop)->Prop
def PIE(X:Cx)(pins:List (Addr×Obj))(σ:St)(tg:vT)(R:It->Hp->Prop)(itv:uB)(s2:uD):Prop:=
 ∃(it:Addr)(fp:List Addr)(tn:Nat->vS->Prop)(J:It)(H':Hp),itv=.ref it/\Inv X pins σ H' s2/\jke X.prog X.w X.K tg J fp it tn/\tn 0 s2.heap/\(∀b∈fp,jct X pins H' b)/\R J H'
def PI(X:Cx)(tg iter:vT)(wi:TI):Prop:=
 ∀(pins:List (Addr×Obj))(s:uD)(σ:St)(H:Hp)(R:It->Hp->Prop),Inv X pins σ H s->wi σ H R->
  uM (uP X.prog X.w) X.A (wQ iter X.env) (fun v s1=>uM (uP X.prog X.w) X.A (pyIter v) (PIE X pins σ tg R) X.xe s1) X.xe s
def jfb{M:fU}{A:vI}{E:uB->uD->Prop}{s:uD}{tg:vT}{it:Addr}{u:uB}{o:Obj}{n:String}{vs:Array uB}{Q:Unit->uD->Prop}(ho:s.heap.get? it=some o)(hc:o.cls=.type n)(hd:o.data=.fields vs)
  (hn: ["enumerate","zip","dict_itemiterator","dict_reverseitemiterator","odict_iterator","itertools.zip_longest","itertools.pairwise"].contains n=false)(hQ:Q () s):uM M A (letOwnedTupleGo tg (.ref it) u) Q E s:=by
 unfold letOwnedTupleGo
 cases tg<;>first
  |exact uE hQ
  |(cases u<;>first
    |exact uE hQ
    |(refine uA (wpAny_load ho ?_)
      rw[hc,hd];show uM M A (if(["enumerate","zip","dict_itemiterator","dict_reverseitemiterator","odict_iterator","itertools.zip_longest","itertools.pairwise"].contains n && vs[0]?==some (bA _))=true then _ else _) Q E s;rw[iN (by intro h;rw[hn,Bool.false_and] at h;cases h)];exact uE hQ))
noncomputable def Itl(K:uY)(a:Addr):It:=
 ⟨fun i H=>∃xs x,SqL K H a xs/\xs[i]?=some x,fun i H x H'=>H'=H/\∀xs,SqL K H a xs->xs[i]?=some x,fun i H=>∃xs,SqL K H a xs/\xs.length<=i⟩
noncomputable def Itr(lo:Int)(n:Nat):It:=⟨fun i _=>i<n,fun i H x H'=>H'=H/\x=.int (lo+i),fun i _=>n<=i⟩
def jfc{P:uI}{w:vA}{K:uY}{tg:vT}(a it:Addr):jke P w K tg (Itl K a) [it] it (fun i h=>h.IsListIter it a i) where
 mem:=by simp
 obj:=fun i h st b hb=>by
  have e:b=it:=by simpa using hb
  subst e;obtain⟨o,e,c,d⟩:=st;exact⟨o,e,fun v z=>by rw[d] at z;cases z⟩
 keep:=fun i h h' st k=>st.at fun o e=>k it (by simp) o e
 item:=by
  intro X hP hw hK hc i pins s σ H E I hf st hg;subst hP hw hK;obtain⟨xs,x,hq,hx⟩:=hg;obtain⟨its,rv,p,hz⟩:=I.list hq;obtain⟨u,hu,ru⟩:=rv.get hx;obtain⟨f0,f1,f2,f3,f4,f5⟩:=hf it (by simp);refine wpAny_pyNext_list_item st p.isList (x:=u) (by simpa using hu) fun h' st' sb=>?_;have I1:Inv X pins σ H {s with heap:=h'}:=I.turned (t':=s.toks) (fun b o hb e=>(sb.2 b hb).trans e) f0 f1 f3 f4 f5;obtain⟨o,e,c,d⟩:=id st';exact⟨u,rfl,jfb (s:={s with heap:=h'}) e c d ∅ ⟨x,H,I1,ru,⟨rfl,fun ys hy=>by rw[I.list_inj hy hq];exact hx⟩,st',fun b hb=>(hf b hb).1⟩⟩
 done:=by
  intro X hP hw hK hc i pins s σ H E I hf st hg;subst hP hw hK;obtain⟨xs,hq,hx⟩:=hg;obtain⟨its,rv,p,hz⟩:=I.list hq;obtain⟨f0,f1,f2,f3,f4,f5⟩:=hf it (by simp);have hl:=rv.length;exact wpAny_pyNext_list_end (I.ok.hd hc) st p.isList (by simp;omega) fun h' eb=>⟨rfl,I.turned (t':=s.toks) (fun b o hb e=>eb b o hb e) f0 f1 f3 f4 f5⟩
 self:=fun _ _ _ _ _ st h=>wpAny_pyIter_listiter st h
def jeq{P:uI}{w:vA}{K:uY}{tg:vT}(it:Addr)(lo:Int)(n:Nat):jke P w K tg (Itr lo n) [it] it (fun i h=>IsRangeIter h it (lo+(i:Nat)*1) ((n:Int)-(i:Nat)) 1) where
 mem:=by simp
 obj:=fun i h st b hb=>by
  have e:b=it:=by simpa using hb
  subst e;exact⟨_,st,fun v z=>by
   have z':Data.fields _=Data.cell v:=z
   cases z'⟩
 keep:=fun i h h' st k=>k it (by simp) _ st
 item:=by
  intro X hP hw hK hc i pins s σ H E I hf st hg;subst hP hw hK;obtain⟨f0,f1,f2,f3,f4,f5⟩:=hf it (by simp);have W:=Walks.range (prog:=X.prog) (w:=X.w) (I.ok.hd hc) it lo 1 n;refine W.item i s _ _ hg st fun v h' tk hv st' kk=>?_;obtain⟨t,rfl⟩:=hv;have I1:Inv X pins σ H {s with heap:=h',toks:=tk}:=I.turned (fun b o hb e=>kk b o (by simpa using hb) e) f0 f1 f3 f4 f5;refine⟨_,rfl,jfb (s:={s with heap:=h',toks:=tk}) (n:="range_iterator") st' rfl rfl ∅ ⟨.int (lo+i),H,I1,⟨t,?_⟩,⟨rfl,rfl⟩,st',fun b hb=>(hf b hb).1⟩⟩;rw[Int.mul_one]
 done:=by
  intro X hP hw hK hc i pins s σ H E I hf st hg;subst hP hw hK;obtain⟨f0,f1,f2,f3,f4,f5⟩:=hf it (by simp);exact wpAny_pyNext_range_end (I.ok.hd hc) st (by have:n<=i:=hg;omega) fun h' eb=>⟨rfl,I.turned (t':=s.toks) (fun b o hb e=>eb b o hb e) f0 f1 f3 f4 f5⟩
 self:=fun _ _ _ _ _ st h=>wpAny_pyIter_rangeiter st h
section
variable{X:Cx}{tg:vT}
noncomputable def jo6(K:uY)(tl:TE):TI:=fun σ H R=>tl σ H fun x H1=>∃a,x=.ref a/\(∃xs,SqL K H1 a xs)/\R (Itl K a) H1
def qcj{l:vT}{tl:TE}(hl:PE X l tl):PI X tg l (jo6 X.K tl):=by
 intro pins s σ H R I h;refine thn (hl pins s σ H _ I h) fun v s1 h9=>?_;obtain⟨x,H1,I1,r1,q1⟩:=h9;obtain⟨a,e,⟨xs,hq⟩,q⟩:=q1;subst e
 cases r1
 obtain⟨its,rv,p,hz⟩:=I1.list hq;refine cU p.isList ?_;refine⟨↑s1,[↑s1],_,_,H1,rfl,I1.kept (t':=s1.toks) fun b o e=>uF _ e,jfc a _,⟨_,uX _ rfl,rfl,rfl⟩,fun b hb=>?_,q⟩;have e:b=↑s1:=by simpa using hb
 subst e;exact I1.fpOk (uG _) (I1.hok.fresh (uG _))
def jdk{pins:List (Addr×Obj)}{σ:St}{H:Hp}{s:uD}{R:It->Hp->Prop}{E:uB->uD->Prop}{lo hi:Int}{t u v:Tok}{tk:Nat}(I:Inv X pins σ H s)(h1: -(2^62)<=lo)(h2:lo<2^62)(h3: -(2^62)<=hi)(h4:hi<2^62)
  (q:R (Itr lo (hi-lo).toNat) H):uM (uP X.prog X.w) X.A (pyIter (.ref ↑s)) (PIE X pins σ tg R) E {s with heap:=s.heap.push {cls:=.type "range",data:=.fields #[.int lo t,.int hi u,.int 1 v]},toks:=tk}:=by
 refine wpAny_pyIter_range (IsRange.new ..) (small_one h1 h2 h3 h4) ?_;have I1:Inv X pins σ H {s with heap:=s.heap.push {cls:=.type "range",data:=.fields #[.int lo t,.int hi u,.int 1 v]},toks:=tk}:=I.kept fun b o e=>uF _ e;refine⟨(s.heap.push {cls:=.type "range",data:=.fields #[.int lo t,.int hi u,.int 1 v]}).objs.size,[(s.heap.push {cls:=.type "range",data:=.fields #[.int lo t,.int hi u,.int 1 v]}).objs.size],_,_,H,rfl,
  I1.kept (t':=tk) fun b o e=>uF _ e,jeq _ lo (hi-lo).toNat,?_,fun b hb=>?_,q⟩
 .have e1:lo+((0:Nat):Int)*1=lo:=by simp
  have e2:(((hi-lo).toNat:Nat):Int)-((0:Nat):Int)=Builtin.Range.rangeSize lo hi 1:=by rw[rangeSize_one];split<;>omega
  show IsRangeIter _ _ (lo+((0:Nat):Int)*1) ((((hi-lo).toNat:Nat):Int)-((0:Nat):Int)) 1;rw[e1,e2];exact uX _ rfl
 .have e:b=(s.heap.push {cls:=.type "range",data:=.fields #[.int lo t,.int hi u,.int 1 v]}).objs.size:=by simpa using hb
  subst e;exact I1.fpOk (uG _) (I1.hok.fresh (uG _))
noncomputable def jo7(ta:TA):TI:=fun σ H R=>ta σ H fun vs H1=>∃j:Int,vs=[.int j]/\-(2^62)<=j/\j<2^62/\R (Itr 0 j.toNat) H1
noncomputable def jl4(ta:TA):TI:=fun σ H R=>ta σ H fun vs H1=>∃i j:Int,vs=[.int i,.int j]/\(-(2^62)<=i/\i<2^62/\-(2^62)<=j/\j<2^62)/\R (Itr i (j-i).toNat) H1
def qb9{a:vT}{ta:TA}{p:Pos}(hg:Gl X "range")(hm:X.mg "range"=none)(ha:PA X [a] ta)(hs:autoParam (vF [a] X.env=[(false,wQ a X.env)]) auR):PI X tg (.Call (.Name "range" p) [a] [] pos) (jo7 ta):=by
 intro pins s σ H R I h;refine Call_ (jbo I hg hm boot_range (cM (thn (ha pos pins s σ H _ I h) fun us s1 h9=>?_) hs rfl));obtain⟨vs,H1,I1,r1,q1⟩:=h9;obtain⟨j,e,q1,q2,q⟩:=q1;subst e
 cases r1 with
 |cons r rr=>
  cases rr
  obtain⟨t,rfl⟩:=r;exact call_range_1 (jdk I1 ↑∅ ↑∅ q1 q2 (by simpa using q))
def jbq{a b:vT}{ta:TA}{p:Pos}(hg:Gl X "range")(hm:X.mg "range"=none)(ha:PA X [a,b] ta)(hs:autoParam (vF [a,b] X.env=[(false,wQ a X.env),(false,wQ b X.env)]) auR)(hs2:autoParam (vF [b] X.env=[(false,wQ b X.env)]) auR):
  PI X tg (.Call (.Name "range" p) [a,b] [] pos) (jl4 ta):=by
 intro pins s σ H R I h;refine Call_ (jbo I hg hm boot_range (cM (thn (ha pos pins s σ H _ I h) fun us s1 h9=>?_) (by rw[hs,hs2]) (by rw[hs2];rfl)));obtain⟨vs,H1,I1,r1,q1⟩:=h9;obtain⟨i,j,e,⟨q1,q2,q3,q4⟩,q⟩:=q1;subst e
 cases r1 with
 |cons r rr=>
  cases rr with
  |cons r' rr=>
   cases rr
   obtain⟨t,rfl⟩:=r;obtain⟨t',rfl⟩:=r';exact call_range_2 (jdk I1 q1 q2 q3 q4 q)
noncomputable def jux(wi:TI)(g:TG)(tb:TS):TS:=fun D σ H=>wi σ H fun J H1=>∃W:Nat->Nat->St->Hp->Prop,(∃m,W 0 m σ H1)/\∀i m σ H,W i m σ H->
 (J.stop i H/\D.nx σ H)\/(J.go i H/\∃N:St->Hp->Prop,(∀σ' H',N σ' H'->∃m',m'<m/\W (i+1) m' σ' H')/\∀x H',J.yld i H x H'->g x σ H' fun σ2 H2=>tb {D with nx:=N,ct:=N,bk:=D.nx} σ2 H2)
noncomputable def qea(fp:List Addr)(h:vS):List (Addr×Obj):=fp.filterMap fun b=>(h.get? b).map fun o=>(b,o)
def qdo{o:Obj}(hb:b∈fp)(e:h.get? b=some o):(b,o)∈qea fp h:=gF.mpr ⟨b,hb,by rw[e];rfl⟩
def jfd{p:Addr×Obj}(hp:p∈qea fp h):p.1∈fp/\h.get? p.1=some p.2:=by
 obtain⟨b,hb,e⟩:=gF.mp hp
 cases q:h.get? b with
 |none=>rw[q] at e;cases e
 |some o=>
  rw[q] at e;have e':(b,o)=p:=vB e;subst e';exact⟨hb,q⟩
def Inv.pinned(I:Inv X pins σ H s)(hf:∀b∈fp,jct X pins H b)(ho:∀b∈fp,∃o,s.heap.get? b=some o/\∀v,o.data≠ .cell v):Inv X (pins++qea fp s.heap) σ H s:=
 I.pins_of fun p hp=>(zT.mp hp).elim (fun z=>I.pin p (zO _ z)) fun z=>by
  obtain⟨hb,e⟩:=jfd z;obtain⟨f0,f1,f2,_⟩:=hf p.1 hb;obtain⟨o,e',d⟩:=ho p.1 hb;rw[e] at e';cases e';exact⟨e,f0,f1,f2,d⟩
def Inv.unpinned{pl:List (Addr×Obj)}(I:Inv X (pins++pl) σ H s):Inv X pins σ H s:=I.pins_of fun p hp=>I.pin p (zO _ (zY _ hp))
def qbl{iter:vT}{body:List Stmt}{wi:TI}{g:TG}{tb:TS}{pos:Pos}(hp:PassesOwn (uP X.prog X.w) X.A X.env X.xe)(hc:X.calm=true)(hi:PI X tg iter wi)(hg:PG X tg g)(hb:PSs X body tb)
  (hs:∀x,gU iter X.env x=pure x:=by intro _;rfl):PS X (.For tg iter body [] pos) (jux wi g tb):=by
 intro pins s σ H D I h;refine wpAny_For (thn (hi pins s σ H _ I h) fun v s1 h1=>thn h1 fun itv s2 h2=>?_) hs;obtain⟨it,fp,tn,J,H2,e,I2,T,st2,f2,W,⟨m0,w0⟩,turn⟩:=h2;subst e;have stat:∀{H':Hp},(∀b∈fp,H' b=none)->∀b∈fp,jct X pins H' b:=fun hn b hb=>⟨hn b hb,(f2 b hb).2⟩;refine codeAny_forLoop_any (fun n s'=>∃i σ' H',Inv X pins σ' H' s'/\tn i s'.heap/\(∀b∈fp,H' b=none)/\W i n σ' H') ?_ m0 ⟨0,σ,H2,I2,st2,fun b hb=>(f2 b hb).1,w0⟩;rintro n s3 ⟨i,σ3,H3,I3,st3,fr3,w3⟩;rcases turn i n σ3 H3 w3 with⟨stop,qn⟩|⟨go,N,hN,step⟩
 .refine aC hp (thn (T.done X rfl rfl rfl hc i pins s3 σ3 H3 X.xe I3 (stat fr3) st3 stop) fun r s4 h9=>?_);obtain⟨hr,I4⟩:=h9;subst hr;exact eG ⟨σ3,H3,I4,qn⟩
 .refine aC hp (thn (T.item X rfl rfl rfl hc i pins s3 σ3 H3 X.xe I3 (stat fr3) st3 go) fun r s4 h9=>?_);obtain⟨u,hr,h4⟩:=h9;subst hr;refine aC hp (thn h4 fun _ s5 h9=>?_);obtain⟨x,H5,I5,r5,y5,st5,fr5⟩:=h9;have I5':=I5.pinned (stat fr5) (T.obj _ _ st5);refine aC hp (thn (hg _ s5 σ3 H5 x u _ I5' r5 (step x H5 y5)) fun _ s6 h9=>?_);obtain⟨σ6,H6,I6,q6⟩:=h9;refine aC hp (thn (hb _ s6 σ6 H6 _ I6 q6) fun f s7 q7=>?_);have again:∀{σ7:St} {H7:Hp},Inv X (pins++qea fp s5.heap) σ7 H7 s7->N σ7 H7->∃m,m<n/\∃i σ' H',Inv X pins σ' H' s7/\tn i s7.heap/\(∀b∈fp,H' b=none)/\W i m σ' H':=fun {σ7 H7} I7 n7=>by
   obtain⟨m',hm,w7⟩:=hN σ7 H7 n7;refine⟨m',hm,i+1,σ7,H7,I7.unpinned,T.keep _ _ _ st5 fun b hb o e=>(I7.pin (b,o) (zO _ (zO _ (qdo hb e)))).1,fun b hb=>?_,w7⟩;obtain⟨o,e,d⟩:=T.obj _ _ st5 b hb;exact(I7.pin (b,o) (zO _ (zO _ (qdo hb e)))).2.1
  cases f with
  |next=>obtain⟨σ7,H7,I7,n7⟩:=q7;exact again I7 n7
  |cont=>obtain⟨σ7,H7,I7,n7⟩:=q7;exact again I7 n7
  |brk=>obtain⟨σ7,H7,I7,q7⟩:=q7;exact⟨σ7,H7,I7.unpinned,q7⟩
  |ret v=>obtain⟨x7,σ7,H7,I7,r7,q7⟩:=q7;exact⟨x7,σ7,H7,I7.unpinned,r7,q7⟩
end
def jiy{K:uY}{a:Addr}{xs:List V}{g:TG}{tb:TS}{D:jam}{σ:St}{H:Hp}(Pv:Nat->St->Hp->Prop)(h0:Pv 0 σ H)(hl:∀i σ H,i<=xs.length->Pv i σ H->SqL K H a xs)
  (hs:∀i x σ H,xs[i]?=some x->Pv i σ H->g x σ H fun σ2 H2=>tb {D with nx:=Pv (i+1),ct:=Pv (i+1),bk:=D.nx} σ2 H2)(hd:∀σ H,Pv xs.length σ H->D.nx σ H):
  ∃W:Nat->Nat->St->Hp->Prop,(∃m,W 0 m σ H)/\∀i m σ H,W i m σ H->
   ((Itl K a).stop i H/\D.nx σ H)\/((Itl K a).go i H/\∃N:St->Hp->Prop,(∀σ' H',N σ' H'->∃m',m'<m/\W (i+1) m' σ' H')/\∀x H',(Itl K a).yld i H x H'->g x σ H' fun σ2 H2=>tb {D with nx:=N,ct:=N,bk:=D.nx} σ2 H2):=by
 refine⟨fun i m σ H=>m=xs.length-i/\i<=xs.length/\Pv i σ H,⟨xs.length,by simp,wV _,h0⟩,?_⟩;rintro i m σ H ⟨rfl,hi,p⟩;have q:=hl i σ H hi p;by_cases hlt:i<xs.length
 .refine .inr ⟨⟨xs,xs[i],q,by simp[hlt]⟩,Pv (i+1),fun σ' H' p'=>⟨xs.length-(i+1),↑∅,rfl,hlt,p'⟩,fun x H' y=>?_⟩;obtain⟨e,y⟩:=y;subst e;exact hs i x σ _ (y xs q) p
 .have e:i=xs.length:=by omega
  subst e;exact .inl ⟨⟨xs,q,uG _⟩,hd σ H p⟩
def jfe{lo:Int}{n:Nat}{g:TG}{tb:TS}{D:jam}{σ:St}{H:Hp}(Pv:Nat->St->Hp->Prop)(h0:Pv 0 σ H)
  (hs:∀i σ H,i<n->Pv i σ H->g (.int (lo+i)) σ H fun σ2 H2=>tb {D with nx:=Pv (i+1),ct:=Pv (i+1),bk:=D.nx} σ2 H2)(hd:∀σ H,Pv n σ H->D.nx σ H):
  ∃W:Nat->Nat->St->Hp->Prop,(∃m,W 0 m σ H)/\∀i m σ H,W i m σ H->
   ((Itr lo n).stop i H/\D.nx σ H)\/((Itr lo n).go i H/\∃N:St->Hp->Prop,(∀σ' H',N σ' H'->∃m',m'<m/\W (i+1) m' σ' H')/\∀x H',(Itr lo n).yld i H x H'->g x σ H' fun σ2 H2=>tb {D with nx:=N,ct:=N,bk:=D.nx} σ2 H2):=by
 refine⟨fun i m σ H=>m=n-i/\i<=n/\Pv i σ H,⟨n,by simp,wV _,h0⟩,?_⟩;rintro i m σ H ⟨rfl,hi,p⟩;by_cases hlt:i<n
 .refine .inr ⟨hlt,Pv (i+1),fun σ' H' p'=>⟨n-(i+1),↑∅,rfl,hlt,p'⟩,fun x H' y=>?_⟩;obtain⟨e,y⟩:=y;subst e y;exact hs i σ _ hlt p
 .have e:i=n:=by omega
  subst e;exact .inl ⟨uG _,hd σ H p⟩
def qgi{c:TT}{tb:TS}{D:jam}{σ:St}{H:Hp}(Pv:St->Hp->Prop)(μ:St->Hp->Nat)(h0:Pv σ H)
  (hs:∀σ H,Pv σ H->c σ H fun b H1=>if b=true then tb {D with nx:=fun σ' H'=>Pv σ' H'/\μ σ' H'<μ σ H,ct:=fun σ' H'=>Pv σ' H'/\μ σ' H'<μ σ H,bk:=D.nx} σ H1 else D.nx σ H1)
  (mono:∀σ H Q Q',(∀b H1,Q b H1->Q' b H1)->c σ H Q->c σ H Q'):jkd c tb D σ H:=by
 refine⟨fun m σ H=>m=μ σ H/\Pv σ H,⟨_,rfl,h0⟩,?_⟩;rintro m σ H ⟨rfl,p⟩;refine mono σ H _ _ (fun b H1 q=>?_) (hs σ H p)
 cases b with
 |true=>exact⟨_,fun σ' H' ⟨p',l⟩=>⟨_,l,rfl,p'⟩,q⟩
 |false=>exact q
abbrev R2:=V->V->Hp->VK->Prop
def OpR(X:Cx)(f:uB->uB->Sem uB)(r:R2):Prop:=
 ∀(pins:List (Addr×Obj))(s:uD)(σ:St)(H:Hp)(x y:V)(v u:uB)(Q:VK),Inv X pins σ H s->qbb x v->qbb y u->r x y H Q->
  uM (uP X.prog X.w) X.A (f v u) (EP X pins σ Q) X.xe s
def UnR(X:Cx)(f:uB->Sem uB)(r:V->Hp->VK->Prop):Prop:=
 ∀(pins:List (Addr×Obj))(s:uD)(σ:St)(H:Hp)(x:V)(v:uB)(Q:VK),Inv X pins σ H s->qbb x v->r x H Q->
  uM (uP X.prog X.w) X.A (f v) (EP X pins σ Q) X.xe s
def qcc(X:Cx)(f:uB)(r:List V->Hp->VK->Prop):Prop:=
 ∀(pins:List (Addr×Obj))(s:uD)(σ:St)(H:Hp)(xs:List V)(us:List uB)(Q:VK),Inv X pins σ H s->qbk xs us->r xs H Q->
  uM (uP X.prog X.w) X.A (call f us) (EP X pins σ Q) X.xe s
noncomputable def tOp(r:R2)(ta tb:TE):TE:=fun σ H Q=>ta σ H fun x H1=>tb σ H1 fun y H2=>r x y H2 Q
noncomputable def tUn(r:V->Hp->VK->Prop)(ta:TE):TE:=fun σ H Q=>ta σ H fun x H1=>r x H1 Q
noncomputable def rI(C:Int->Int->Prop)(g:Int->Int->V):R2:=fun x y H Q=>∃i j,x=.int i/\y=.int j/\C i j/\Q (g i j) H
noncomputable def rI0(g:Int->Int->V):R2:=fun x y H Q=>∃i j,x=.int i/\y=.int j/\Q (g i j) H
noncomputable def rU(g:Int->V):V->Hp->VK->Prop:=fun x H Q=>∃i,x=.int i/\Q (g i) H
section
variable{X:Cx}{a b:vT}{ta tb:TE}{pos:Pos}
def jso(ha:PE X a ta)(hb:PE X b tb){pins:List (Addr×Obj)}{s:uD}{σ:St}{H:Hp}{R:V->V->Hp->Prop}(I:Inv X pins σ H s)
  (h:ta σ H fun x H1=>tb σ H1 fun y H2=>R x y H2){Q:uB->uD->Prop}{f:uB->uB->Sem uB}
  (hf:∀v u s2 x y H2,Inv X pins σ H2 s2->qbb x v->qbb y u->R x y H2->uM (uP X.prog X.w) X.A (f v u) Q X.xe s2):
  uM (uP X.prog X.w) X.A (wQ a X.env) (fun v s₁=>uM (uP X.prog X.w) X.A (wQ b X.env) (fun u s₂=>uM (uP X.prog X.w) X.A (f v u) Q X.xe s₂) X.xe s₁) X.xe s:=by
 refine thn (ha pins s σ H _ I h) fun v s1 h9=>?_;obtain⟨x,H1,I1,r1,q1⟩:=h9;refine thn (hb pins s1 σ H1 _ I1 q1) fun u s2 h9=>?_;obtain⟨y,H2,I2,r2,q2⟩:=h9;exact hf v u s2 x y H2 I2 r1 r2 q2
def qae{op:Operator}(ho:OpR X (bD op) r)(ha:PE X a ta)(hb:PE X b tb):PE X (.BinOp a op b pos) (tOp r ta tb):=by
 intro pins s σ H Q I h;exact wpAny_BinOp (jso ha hb I h fun v u s2 x y H2 I2 rx ry q=>ho pins s2 σ H2 x y v u Q I2 rx ry q)
def jo8{op:UnaryOp}{r:V->Hp->VK->Prop}(ho:UnR X (unaryOp op) r)(ha:PE X a ta):PE X (.UnaryOp op a pos) (tUn r ta):=by
 intro pins s σ H Q I h;exact UnaryOp_ (thn (ha pins s σ H _ I h) fun v s1 ⟨x,H1,I1,r1,q1⟩=>ho pins s1 σ H1 x v Q I1 r1 q1)
def opI{f:uB->uB->Sem uB}{C:Int->Int->Prop}{g:Int->Int->Int}
  (rule:∀(i j:Int)(t u:Tok)(s:uD)(Q:uB->uD->Prop)(E:uB->uD->Prop),C i j->Q (.int (g i j) s.toks) {s with toks:=s.toks+1}->uM (uP X.prog X.w) X.A (f (.int i t) (.int j u)) Q E s):
  OpR X f (rI C fun i j=> .int (g i j)):=by
 intro pins s σ H x y v u Q I rx ry h;obtain⟨i,j,rfl,rfl,hc,q⟩:=h;obtain⟨t,rfl⟩:=rx;obtain⟨t',rfl⟩:=ry;exact rule i j t t' s _ _ hc ⟨.int (g i j),H,I.tok _,⟨_,rfl⟩,q⟩
def juy{f:uB->uB->Sem uB}{g:Int->Int->Int}
  (rule:∀(i j:Int)(t u:Tok)(s:uD)(Q:uB->uD->Prop)(E:uB->uD->Prop),Q (.int (g i j) s.toks) {s with toks:=s.toks+1}->uM (uP X.prog X.w) X.A (f (.int i t) (.int j u)) Q E s):
  OpR X f (rI0 fun i j=> .int (g i j)):=by
 intro pins s σ H x y v u Q I rx ry h;obtain⟨i,j,rfl,rfl,q⟩:=h;obtain⟨t,rfl⟩:=rx;obtain⟨t',rfl⟩:=ry;exact rule i j t t' s _ _ ⟨.int (g i j),H,I.tok _,⟨_,rfl⟩,q⟩
def jsc{f:uB->uB->Sem uB}{g:Int->Int->Bool}
  (rule:∀(i j:Int)(t u:Tok)(s:uD)(Q:uB->uD->Prop)(E:uB->uD->Prop),Q (.bool (g i j)) s->uM (uP X.prog X.w) X.A (f (.int i t) (.int j u)) Q E s):
  OpR X f (rI0 fun i j=> .bl (g i j)):=by
 intro pins s σ H x y v u Q I rx ry h;obtain⟨i,j,rfl,rfl,q⟩:=h;obtain⟨t,rfl⟩:=rx;obtain⟨t',rfl⟩:=ry;exact rule i j t t' s _ _ ⟨.bl (g i j),H,I,rfl,q⟩
def jv4(i j:Int):Prop:=0<=j/\j<=1000000/\i.natAbs<2^64
def jsp(i j:Int):Prop:=(-(2^64)<i/\i<2^64)\/(-(2^64)<j/\j<2^64)
def jsp.ok{i j:Int}(h:jsp i j):IntMulOk i j:=by
 rcases h with⟨h1,h2⟩|⟨h1,h2⟩
 .exact .of_left (intBits_le_64 h1 h2)
 .exact .of_right (intBits_le_64 h1 h2)
def qbp:OpR X (bD .Add) (rI0 fun i j=> .int (i+j)):=juy fun _ _ _ _ _ _ _ q=>add_int q
def jdl:OpR X (bD .Sub) (rI0 fun i j=> .int (i-j)):=juy fun _ _ _ _ _ _ _ q=>sub_int q
def jkf:OpR X (bD .Mult) (rI jsp fun i j=> .int (i*j)):=opI fun _ _ _ _ _ _ _ hc q=>mul_int q hc.ok
def qb1:OpR X (bD .Mod) (rI (fun _ j=>0<j) fun i j=> .int (i%j)):=opI fun i j _ _ _ _ _ hc q=>by
 have h1:(0:Int)<j:=hc;exact mod_int' ↑∅ (by rw[Int.fmod_eq_emod_of_nonneg i ↑∅];exact q)
def qeb:OpR X (bD .Pow) (rI jv4 fun i j=> .int (i^j.toNat)):=opI fun _ _ _ _ _ _ _ hc q=>pow_int_small hc.1 hc.2.1 hc.2.2 q
def unI{f:uB->Sem uB}{g:Int->Int}
  (rule:∀(i:Int)(t:Tok)(s:uD)(Q:uB->uD->Prop)(E:uB->uD->Prop),Q (.int (g i) s.toks) {s with toks:=s.toks+1}->uM (uP X.prog X.w) X.A (f (.int i t)) Q E s):
  UnR X f (rU fun i=> .int (g i)):=by
 intro pins s σ H x v Q I rx h;obtain⟨i,rfl,q⟩:=h;obtain⟨t,rfl⟩:=rx;exact rule i t s _ _ ⟨.int (g i),H,I.tok _,⟨_,rfl⟩,q⟩
def jkg:UnR X (unaryOp .USub) (rU fun i=> .int (-i)):=unI fun _ _ _ _ _ q=>neg_int q
end
noncomputable def scal:V->V->Bool
 | .non,.non=>true| .non,.int _=>true| .int _,.non=>true| .non,.bl _=>true| .bl _,.non=>true| .non,.str _=>true| .str _,.non=>true
 | .int _,.int _=>true| .bl _,.bl _=>true| .str _,.str _=>true| .byt _,.byt _=>true
 | .int _,.str _=>true| .str _,.int _=>true| .bl _,.str _=>true| .str _,.bl _=>true
 |_,_=>false
noncomputable def rEq:R2:=fun x y H Q=>scal x y=true/\Q (.bl (decide (x=y))) H
noncomputable def rNe:R2:=fun x y H Q=>scal x y=true/\Q (.bl (!decide (x=y))) H
def jff{i j:Int} :decide (V.int i=V.int j)=(i==j):=by
 rw[xS];simp
def jkh{i j:Bool} :decide (V.bl i=V.bl j)=(i==j):=by
 rw[xS];simp
def jfg{i j:Str} :decide (V.str i=V.str j)=(i==j):=by
 rw[xS];simp
def jfh{i j:Array UInt8} :decide (V.byt i=V.byt j)=(i.toList==j.toList):=by
 rw[xS]
 cases i
 cases j
 simp
section
variable{X:Cx}{a b c:vT}{ta tb tc:TE}{pos:Pos}
def qbe{Q:VK}{k k':Bool}(I:Inv X pins σ H s)(q:Q (.bl k) H)(e:k=k'):EP X pins σ Q (.bool k') s:=by
 subst e;exact⟨.bl k,H,I,rfl,q⟩
def qcu:OpR X (wA .Eq) rEq:=by
 intro pins s σ H x y v u Q I rx ry h;obtain⟨hs,q⟩:=h
 cases x with
 |non=>
  cases rx
  cases y with
  |non=>cases ry;exact PySem.EqNone.eq_none_none (qbe I q (by simp))
  |bl j=>cases ry;exact PySem.EqNone.eq_none_bool (qbe I q (by simp))
  |int j=>obtain⟨t',rfl⟩:=ry;exact PySem.EqNone.eq_none_int (qbe I q (by simp))
  |str j=>obtain⟨t',rfl⟩:=ry;exact PySem.EqNone.eq_none_str (qbe I q (by simp))
  |_=>exact absurd (show false=true from hs) uL
 |bl i=>
  cases rx
  cases y with
  |non=>cases ry;exact PySem.EqNone.eq_bool_none (qbe I q (by simp))
  |bl j=>cases ry;exact eq_bool (qbe I q jkh)
  |str j=>obtain⟨t',rfl⟩:=ry;exact PySem.EqMixed.eq_bool_str (qbe I q (by simp))
  |_=>exact absurd (show false=true from hs) uL
 |int i=>
  obtain⟨t,rfl⟩:=rx
  cases y with
  |non=>cases ry;exact PySem.EqNone.eq_int_none (qbe I q (by simp))
  |int j=>obtain⟨t',rfl⟩:=ry;exact eq_int (qbe I q jff)
  |str j=>obtain⟨t',rfl⟩:=ry;exact PySem.EqMixed.eq_int_str (qbe I q (by simp))
  |_=>exact absurd (show false=true from hs) uL
 |str i=>
  obtain⟨t,rfl⟩:=rx
  cases y with
  |non=>cases ry;exact PySem.EqNone.eq_str_none (qbe I q (by simp))
  |bl j=>cases ry;exact PySem.EqMixed.eq_str_bool (qbe I q (by simp))
  |int j=>obtain⟨t',rfl⟩:=ry;exact PySem.EqMixed.eq_str_int (qbe I q (by simp))
  |str j=>obtain⟨t',rfl⟩:=ry;exact eq_str (qbe I q jfg)
  |_=>exact absurd (show false=true from hs) uL
 |byt i=>
  obtain⟨t,rfl⟩:=rx
  cases y with
  |byt j=>obtain⟨t',rfl⟩:=ry;exact PySem.W.eq_bytes (qbe I q jfh)
  |_=>exact absurd (show false=true from hs) uL
 |_=>cases y<;>exact absurd (show false=true from hs) uL
def jo9:OpR X (wA .NotEq) rNe:=by
 intro pins s σ H x y v u Q I rx ry h;obtain⟨hs,q⟩:=h
 cases x with
 |non=>
  cases rx
  cases y with
  |non=>cases ry;exact PySem.EqNone.ne_none_none (qbe I q (by simp))
  |bl j=>cases ry;exact PySem.EqNone.ne_none_bool (qbe I q (by simp))
  |int j=>obtain⟨t',rfl⟩:=ry;exact PySem.EqNone.ne_none_int (qbe I q (by simp))
  |str j=>obtain⟨t',rfl⟩:=ry;exact PySem.EqNone.ne_none_str (qbe I q (by simp))
  |_=>exact absurd (show false=true from hs) uL
 |bl i=>
  cases rx
  cases y with
  |non=>cases ry;exact PySem.EqNone.ne_bool_none (qbe I q (by simp))
  |bl j=>cases ry;exact ne_bool (qbe I q (congrArg not jkh))
  |str j=>obtain⟨t',rfl⟩:=ry;exact PySem.EqMixed.ne_bool_str (qbe I q (by simp))
  |_=>exact absurd (show false=true from hs) uL
 |int i=>
  obtain⟨t,rfl⟩:=rx
  cases y with
  |non=>cases ry;exact PySem.EqNone.ne_int_none (qbe I q (by simp))
  |int j=>obtain⟨t',rfl⟩:=ry;exact ne_int (qbe I q (congrArg not jff))
  |str j=>obtain⟨t',rfl⟩:=ry;exact PySem.EqMixed.ne_int_str (qbe I q (by simp))
  |_=>exact absurd (show false=true from hs) uL
 |str i=>
  obtain⟨t,rfl⟩:=rx
  cases y with
  |non=>cases ry;exact PySem.EqNone.ne_str_none (qbe I q (by simp))
  |bl j=>cases ry;exact PySem.EqMixed.ne_str_bool (qbe I q (by simp))
  |int j=>obtain⟨t',rfl⟩:=ry;exact PySem.EqMixed.ne_str_int (qbe I q (by simp))
  |str j=>obtain⟨t',rfl⟩:=ry;exact ne_str (qbe I q (congrArg not jfg))
  |_=>exact absurd (show false=true from hs) uL
 |byt i=>
  obtain⟨t,rfl⟩:=rx
  cases y with
  |byt j=>obtain⟨t',rfl⟩:=ry;exact PySem.W.ne_bytes (qbe I q (congrArg not jfh))
  |_=>exact absurd (show false=true from hs) uL
 |_=>cases y<;>exact absurd (show false=true from hs) uL
def jfi:OpR X (wA .Lt) (rI0 fun i j=> .bl (decide (i<j))):=jsc fun _ _ _ _ _ _ _ q=>lt_int q
def jbr:OpR X (wA .LtE) (rI0 fun i j=> .bl (decide (i<=j))):=jsc fun _ _ _ _ _ _ _ q=>le_int q
def qfj:OpR X (wA .Gt) (rI0 fun i j=> .bl (decide (j<i))):=jsc fun _ _ _ _ _ _ _ q=>gt_int q
def jiz:OpR X (wA .GtE) (rI0 fun i j=> .bl (decide (j<=i))):=jsc fun _ _ _ _ _ _ _ q=>ge_int q
def jfj:OpR X (wA .In) (fun x y H Q=>∃i j,x=.str i/\y=.str j/\Q (.bl (!(xZ j i 0 j.length 1).isEmpty)) H):=by
 intro pins s σ H x y v u Q I rx ry h;obtain⟨i,j,rfl,rfl,q⟩:=h;obtain⟨t,rfl⟩:=rx;obtain⟨t',rfl⟩:=ry;exact in_str (qbe I q rfl)
def jl5:OpR X (wA .IsNot) (fun x y H Q=>y=.non/\Q (.bl (!decide (x=.non))) H):=by
 intro pins s σ H x y v u Q I rx ry h;obtain⟨rfl,q⟩:=h
 cases ry
 refine isnot_none_gen (qbe I q ?_)
 cases x<;>first
  |(cases rx;rfl)
  |(obtain⟨t,rfl⟩:=rx;rfl)
def qar(b:vT){op:CmpOp}(h:autoParam (op≠ .In) auD)(h2:autoParam (op≠ .NotIn) auD):dB op b=false:=by
 have e1:(op==CmpOp.In)=false:=by cases op<;>first|rfl|exact absurd rfl h
 have e2:(op==CmpOp.NotIn)=false:=by cases op<;>first|rfl|exact absurd rfl h2
 cases b<;>simp[dB,e1,e2]
def qdh(ho:OpR X (wA op) r)(ha:PE X a ta)(hb:PE X b tb)(hm:dB op b=false):PE X (.Compare a [op] [b] pos) (tOp r ta tb):=by
 intro pins s σ H Q I h;exact wpAny_Compare1 (jso ha hb I h fun v u s2 x y H2 I2 rx ry q=>ho pins s2 σ H2 x y v u Q I2 rx ry q) hm
noncomputable def jl6(t:TE):TT:=fun σ H Q=>t σ H fun x H'=>∃k,x=.bl k/\Q k H'
def qal(ho:OpR X (wA op) r)(ha:PE X a ta)(hb:PE X b tb)(hm:dB op b=false):PT X (.Compare a [op] [b] pos) (jl6 (tOp r ta tb)):=by
 intro pins s σ H Q I h;refine wpAny_isTrue_Compare1 (thn (ha pins s σ H _ I h) fun v s1 ⟨x,H1,I1,r1,q1⟩=>thn (hb pins s1 σ H1 _ I1 q1) fun u s2 ⟨y,H2,I2,r2,q2⟩=>
  thn (ho pins s2 σ H2 x y v u _ I2 r1 r2 q2) fun c s3 ⟨z,H3,I3,r3,k,e,q3⟩=>?_) hm
 subst e
 cases r3
 exact wN ⟨H3,I3,q3⟩
noncomputable def jfk(r r':R2)(ta tb tc:TE):TE:=fun σ H Q=>ta σ H fun x H1=>tb σ H1 fun y H2=>r x y H2 fun z H3=>∃k,z=.bl k/\
 (if k=true then tc σ H3 fun w' H4=>r' y w' H4 Q else Q (.bl false) H3)
def ji0{op op':CmpOp}{r r':R2}(ho:OpR X (wA op) r)(ho':OpR X (wA op') r')(ha:PE X a ta)(hb:PE X b tb)(hc:PE X c tc)
  (hm:lastMarks [op,op'] [b,c]=false:=by with_unfolding_all rfl):PE X (.Compare a [op,op'] [b,c] pos) (jfk r r' ta tb tc):=by
 intro pins s σ H Q I h;refine Compare_chain (thn (ha pins s σ H _ I h) fun v s1 ⟨x,H1,I1,r1,q1⟩=>chain_link (thn (hb pins s1 σ H1 _ I1 q1) fun u s2 ⟨y,H2,I2,r2,q2⟩=>
  thn (ho pins s2 σ H2 x y v u _ I2 r1 r2 q2) fun d s3 ⟨z,H3,I3,r3,k,e,q3⟩=>?_)) hm
 subst e
 cases r3
 refine wN ?_
 cases k with
 |false=>exact ite_ff ⟨.bl false,H3,I3,rfl,q3⟩
 |true=>exact ite_tt (chain_last (thn (hc pins s3 σ H3 _ I3 q3) fun w' s4 ⟨z',H4,I4,r4,q4⟩=>ho' pins s4 σ H4 y z' u w' Q I4 r2 r4 q4))
def qgu{op op':CmpOp}{r r':R2}(ho:OpR X (wA op) r)(ho':OpR X (wA op') r')(ha:PE X a ta)(hb:PE X b tb)(hc:PE X c tc)
  (hm:lastMarks [op,op'] [b,c]=false:=by with_unfolding_all rfl):PT X (.Compare a [op,op'] [b,c] pos) (jl6 (jfk r r' ta tb tc)):=by
 intro pins s σ H Q I h;refine isTrue_chain (thn (ha pins s σ H _ I h) fun v s1 ⟨x,H1,I1,r1,q1⟩=>test_link (thn (hb pins s1 σ H1 _ I1 q1) fun u s2 ⟨y,H2,I2,r2,q2⟩=>
  thn (ho pins s2 σ H2 x y v u _ I2 r1 r2 q2) fun d s3 ⟨z,H3,I3,r3,k,e,q3⟩=>?_)) hm
 subst e
 cases r3
 refine wN ?_
 cases k with
 |false=>
  obtain⟨k',e',q'⟩:=q3
  cases e'
  exact ite_ff ⟨H3,I3,q'⟩
 |true=>
  refine ite_tt (test_last (thn (hc pins s3 σ H3 _ I3 q3) fun w' s4 ⟨z',H4,I4,r4,q4⟩=>thn (ho' pins s4 σ H4 y z' u w' _ I4 r2 r4 q4) fun d' s5 h9=>?_));obtain⟨z2,H5,I5,r5,k2,e2,q5⟩:=h9;subst e2
  cases r5
  exact wN ⟨H5,I5,q5⟩
def jdm:(sizeLine:Nat)<2^63:=by rw[xD];decide
def jer:OpR X (bD .Add) (fun x y H Q=>∃i j,x=.str i/\y=.str j/\i.length+j.length<=sizeLine/\Q (.str (i++j)) H):=by
 intro pins s σ H x y v u Q I rx ry h;obtain⟨i,j,rfl,rfl,hz,q⟩:=h;obtain⟨t,rfl⟩:=rx;obtain⟨t',rfl⟩:=ry;exact add_str (fun t' tk=>⟨.str (i++j),H,I.tok _,⟨_,rfl⟩,q⟩) hz
def ji1{x:V}(r:qbk [x] us):∃u,us=[u]/\qbb x u:=by
 cases r with
 |cons r1 r2=>cases r2;exact⟨_,rfl,r1⟩
def jpa{x y:V}(r:qbk [x,y] us):∃u w',us=[u,w']/\qbb x u/\qbb y w':=by
 cases r with
 |cons r1 r2=>
  cases r2 with
  |cons r3 r4=>cases r4;exact⟨_,_,rfl,r1,r3⟩
def jfl(hc:X.calm=true):qcc X (.builtin "max") (fun xs H Q=>∃i j,xs=[.int i,.int j]/\Q (.int (if j > i then j else i)) H):=by
 intro pins s σ H xs us Q I r h;obtain⟨i,j,rfl,q⟩:=h;obtain⟨u,w',rfl,⟨t,rfl⟩,⟨t',rfl⟩⟩:=jpa r;refine max_two_ints (I.ok.hd hc) fun h' tk k=>⟨_,H,I.kept k,?_,q⟩;by_cases hj:j > i
 .rw[iO hj,iO hj];exact⟨_,rfl⟩
 .rw[iN hj,iN hj];exact⟨_,rfl⟩
def jfm(hc:X.calm=true):qcc X (.builtin "min") (fun xs H Q=>∃i j,xs=[.int i,.int j]/\Q (.int (if j<i then j else i)) H):=by
 intro pins s σ H xs us Q I r h;obtain⟨i,j,rfl,q⟩:=h;obtain⟨u,w',rfl,⟨t,rfl⟩,⟨t',rfl⟩⟩:=jpa r;refine min_two_ints (I.ok.hd hc) fun h' tk k=>⟨_,H,I.kept k,?_,q⟩;by_cases hj:j<i
 .rw[iO hj,iO hj];exact⟨_,rfl⟩
 .rw[iN hj,iN hj];exact⟨_,rfl⟩
end
structure jl7(h:vS)(x dx C:Addr)(mA:Str->Option uB):Prop where
 obj:h.get? x=some (dO C dx)
 ns:h.Ns1 dx mA
 ne:dx≠x
def jbs{dx:Addr}{mA:Str->Option uB}(n:h.Ns1 dx mA):∃od,h.get? dx=some od/\∀name,lookIn name od=some (mA name):=by
 obtain⟨o,es,ep,ho,hd,hk,_,hm⟩:=n;refine⟨o,ho,fun name=>?_⟩;have e:=hm name;unfold gG findBy at e;rw[<-gH] at e;unfold lookIn;rw[hd];dsimp only
 split
 .rename_i y q;rw[q] at e;exact congrArg some e
 .rename_i q;rw[q] at e;have a:es.toList.any (·.refKey)=false:=by
   rw[List.any_eq_false];intro y hy;obtain⟨z,t,hkey⟩:=hk y (xT.mp hy);simp[DictEntry.refKey,hkey]
  have a':¬es.toList.any (·.refKey)=true:=by rw[a];exact uL
  rw[iN a'];exact congrArg some e
def jl7.look{x dx:Addr}{mA:Str->Option uB}(I:jl7 h x dx C mA):∃od,PySem.W.InstAt h x (dO C dx) C (some od)/\∀name,lookIn name od=some (mA name):=
 let ⟨od,ho,hl⟩:=jbs I.ns
 ⟨od,⟨I.obj,rfl,rfl,ho⟩,hl⟩
section
variable{prog:uI}{w:vA}{A:vI}{E:uB->uD->Prop}{s:uD}{K:uY}{x dx C f:Addr}{mA:Str->Option uB}{name:Str}{v:uB}
def jl8{expr:Bool}{Q:uB->uD->Prop}(X:K.In s.heap)(I:jl7 s.heap x dx C mA)(hg:plainGet K C name=true)(hh:dJ K C=true)
  (ha:vC K (.ref C) name=some none)(hv:mA name=some v)(hv':PySem.W.handedIn v=true)(h:Q v {s with toks:=s.toks+1}):
  uM (uP prog w) A (getAttr (.ref x) name expr) Q E s:=by
 obtain⟨od,J,hl⟩:=I.look;exact PySem.W.get_value X J (fN hg).1 (PySem.W.findObj_own hh ha rfl (by rw[hl,hv])) hv' h
def ji2{pl:Sem Bool}{Q:uB×List uB->uD->Prop}(X:K.In s.heap)(I:jl7 s.heap x dx C mA)(hg:plainGet K C name=true)
  (hf:vC K (.ref C) name=some (some (.ref f)))(ht:isFn K (.ref f)=true)(hv:mA name=none)(h:Q (.ref f,[.ref x]) s):
  uM (uP prog w) A (fK (.ref x) name pl) Q E s:=by
 obtain⟨od,J,hl⟩:=I.look;exact PySem.W.method_fn X J (fN hg).1 (fN hg).2 hf (beq_iff_eq.mp ht) (by show(lookIn name od).map (·.isSome)=some false;rw[hl,hv];rfl) h
def jl9{ns:List Str}{Q:Unit->uD->Prop}(X:K.In s.heap)(I:jl7 s.heap x dx C mA)
  (hs:vC K (.ref C) "__setattr__"=some (some (.builtin "object.__setattr__")))(hp:PySem.W.plainOver K C=true)(ht:PySem.W.takerIn K C name=some none)(hh:dJ K C=true)
  (hw:bN mA ns)(hsz:ns.length<=sizeLine)
  (h:∀h',jl7 h' x dx C (fun y=>if y=name then some v else mA y)->yZ dx s.heap h'->Q () {s with heap:=h',toks:=s.toks+2}):
  uM (uP prog w) A (setAttr (.ref x) name v) Q E s:=by
 obtain⟨od,J,hl⟩:=I.look;refine PySem.W.set_plain X J hs (PySem.W.osa_open (s:={s with toks:=s.toks+1}) (r:=none) X J hp ht fun b=>?_);obtain⟨cd,hc,hd'⟩:=PySem.W.any_some hh;have hx:s.heap.get? x=some ⟨.ref C,some dx,.plain,#[]⟩:=I.obj;refine uA (uE (uA (uA (wpAny_loadPart hx (uA (PySem.W.Looks.here (s:={s with toks:=s.toks+1}) (PySem.W.looks_clsIn X hc) ?_))))));rw[hd'];refine uE (a:=some dx) (uA (uE (uA ?_)));refine wpAny_nsSet1 (s:={s with toks:=s.toks+1}) I.ns fun h' hn2 hs2=>?_;obtain⟨oD,esD,epD,hoD,hdD,hcD⟩:=hn2.count (PySem.Within.cons name v hw);refine uA (iF hoD (by rw[hdD];exact iG (wG hcD (by rw[zI];omega))) ?_);exact uE (h _ ⟨(hs2.2 _ (xB I.ne)).trans I.obj,hn2,I.ne⟩ hs2)
def jdn{R:iH->uD->Prop}{vs:List uB}{kw:List (Str×uB)}(X:K.In s.heap)(hm:PySem.W.makesIn K C=true)
  (hi:vC K (.ref C) "__init__"=some (some (.ref f)))(hf:PySem.W.typeIn K (.ref f)=some (.type "function"))
  (h:aT (uP prog w) (A.under (.builtin "type.__call__" ⟨.ref C::vs,kw⟩)) (.call (.ref f) ⟨.ref (↑s+1)::vs,kw⟩) (PySem.W.InitBack (↑s+1) R)
   {s with heap:=(s.heap.push emptyDict).push (dO C ↑s)}):
  aT (uP prog w) A (.call (.ref C) ⟨vs,kw⟩) R s:=by
 obtain⟨hh,g,d,t,os⟩:=s;exact PySem.W.make_core (PySem.W.makes_of X hm) (PySem.W.looks_findIn X hi) (fun self=>PySem.W.bind_fn X self hf) (.inl rfl) h
end
noncomputable def qe9(f:Str)(v:V):List (Str×V)->List (Str×V)
 | []=> [(f,v)]
 |(g,x)::r=>if g=f then(g,v)::r else(g,x)::qe9 f v r
theorem qd2(f g:Str)(v:V):∀fs:List (Str×V),(qe9 f v fs).lookup g=if g=f then some v else fs.lookup g
 | []=>by
  show aO g [(f,v)]=_;by_cases h:g=f
  .have hb:(g==f)=true:=beq_iff_eq.mpr h;simp only[aO,hb,iO h]
  .have hb:(g==f)=false:=beq_eq_false_iff_ne.mpr h;simp only[aO,hb,iN h]
 |(k,x)::r=>by
  have ih:=qd2 f g v r;rw[show qe9 f v ((k,x)::r)=(if k=f then(k,v)::r else(k,x)::qe9 f v r) from rfl];by_cases hk:k=f
  .rw[iO hk];by_cases h:g=k
   .have hb:(g==k)=true:=beq_iff_eq.mpr h;simp only[aO,hb,iO (h.trans hk)]
   .have hb:(g==k)=false:=beq_eq_false_iff_ne.mpr h;simp only[aO,hb,iN (fun e:g=f=>h (e.trans hk.symm))]
  .rw[iN hk];by_cases h:g=k
   .have hb:(g==k)=true:=beq_iff_eq.mpr h;simp only[aO,hb,iN (fun e:g=f=>hk (h.symm.trans e))]
   .have hb:(g==k)=false:=beq_eq_false_iff_ne.mpr h;simp only[aO,hb];exact ih
theorem qdj(f:Str)(v:V):∀fs:List (Str×V),f∈(qe9 f v fs).map (·.1)/\∀g,g∈fs.map (·.1)->g∈(qe9 f v fs).map (·.1)
 | []=>⟨by simp[qe9],fun g h=>by simp at h⟩
 |(k,x)::r=>by
  obtain⟨i1,i2⟩:=qdj f v r;rw[show qe9 f v ((k,x)::r)=(if k=f then(k,v)::r else(k,x)::qe9 f v r) from rfl];by_cases hk:k=f
  .rw[iO hk];subst hk;exact⟨by simp,fun g h=>by simpa using h⟩
  .rw[iN hk];refine⟨?_,fun g h=>?_⟩
   .rw[zS];exact zF _ i1
   .rw[zS] at h⊢;rcases zP.mp h with e|e
    .exact zP.mpr (.inl e)
    .exact zF _ (i2 g e)
theorem qe1(f:Str)(v:V):∀fs:List (Str×V),(qe9 f v fs).length<=fs.length+1
 | []=>by simp[qe9]
 |(k,x)::r=>by
  have ih:=qe1 f v r;rw[show qe9 f v ((k,x)::r)=(if k=f then(k,v)::r else(k,x)::qe9 f v r) from rfl];by_cases hk:k=f
  .rw[iO hk,zI,zI];omega
  .rw[iN hk,zI,zI];omega
def qf1.some_of{o:Option uB}(r:qf1 (some v) o):∃u,o=some u/\qbb v u:=by
 cases o with
 |none=>exact(show False from r).elim
 |some u=>exact⟨u,rfl,r⟩
def qf1.none_of{o:Option uB}(r:qf1 none o):o=none:=by
 cases o with
 |none=>rfl
 |some u=>exact(show False from r).elim
def jbt(r:qbb v u):PySem.W.handedIn u=true:=by
 cases v with
 |non=>cases(show u=vV from r);rfl
 |bl b=>cases(show u=gC b from r);rfl
 |int i=>obtain⟨t,e⟩:=(show ∃t,u=iD i t from r);cases e;rfl
 |str x=>obtain⟨t,e⟩:=(show ∃t,u=fG x t from r);cases e;rfl
 |byt b=>obtain⟨t,e⟩:=(show ∃t,u=Value.bytes b t from r);cases e;rfl
 |flt b=>obtain⟨t,e⟩:=(show ∃t,u=Value.float b t from r);cases e;rfl
 |ref a=>cases(show u=uS a from r);rfl
 |ty n=>cases(show u=dP n from r);rfl
section
variable{P:uI}{w:vA}{H:Hp}{h:vS}{a C dx:Addr}{fs:List (Str×V)}
def qh6(hok:HOk P w H h)(e:H a=some (.ins C dx fs)):∃mA,jl7 h a dx C mA/\(∀f,qf1 (fs.lookup f) (mA f))/\bN mA (fs.map (·.1))/\fs.length<=1000/\H dx=some (.own a):=by
 obtain⟨d,z,ne,ob,mA,n,r,q⟩:=(show qbg P w H h a (.ins C dx fs) from hok a _ e);exact⟨mA,⟨ob,n,ne⟩,r,q,z,d⟩
end
structure Cls(K:uY)(C:Addr):Prop where
 pg:plainGet K C Str.empty=true
 hd:dJ K C=true
 po:PySem.W.plainOver K C=true
 sa:vC K (.ref C) "__setattr__"=some (some (.builtin "object.__setattr__"))
def Cls.get(c:Cls K C)(f:Str):plainGet K C f=true:=c.pg
def qb0(K:uY)(C:Addr)(f:Str):Prop:=vC K (.ref C) f=some none
def qb0.taker{f:Str}(n:qb0 K C f):PySem.W.takerIn K C f=some none:=by
 unfold PySem.W.takerIn;rw[show vC K (.ref C) f=some none from n];rfl
structure Con(K:uY)(C:Addr)(f:Str)(v:V)(u:uB):Prop where
 at_:vC K (.ref C) f=some (some u)
 rel:qbb v u
 get:bQ K u "__get__"=some none
 cp:PySem.W.copiedNames.contains f=false
structure ja7(K:uY)(C:Addr)(m:Str)(f:Addr):Prop where
 at_:vC K (.ref C) m=some (some (.ref f))
 fn:isFn K (.ref f)=true
 kp:dA K (.ref f)=true
section
variable{X:Cx}{pins:List (Addr×Obj)}{σ:St}{H:Hp}{s:uD}{a C dx:Addr}{fs:List (Str×V)}{f:Str}{v:V}{A:vI}{E:uB->uD->Prop}
def jes{b:Bool}{Q:uB->uD->Prop}(I:Inv X pins σ H s)(e:H a=some (.ins C dx fs))(c:Cls X.K C)(n:qb0 X.K C f)(l:fs.lookup f=some v)
  (h:∀u s',Inv X pins σ H s'->qbb v u->Q u s'):uM (uP X.prog X.w) A (getAttr (.ref a) f b) Q E s:=by
 obtain⟨mA,O,r,_,_,_⟩:=qh6 I.hok e;obtain⟨u,hu,ru⟩:=qf1.some_of (v:=v) (o:=mA f) (by rw[<-l];exact r f);exact jl8 I.kIn O (c.get f) c.hd n hu (jbt ru) (h u _ (I.tok _) ru)
def qeq{m:Str}{g:Addr}{pl:Sem Bool}{Q:uB×List uB->uD->Prop}(I:Inv X pins σ H s)(e:H a=some (.ins C dx fs))(c:Cls X.K C)(k:ja7 X.K C m g)(l:fs.lookup m=none)
  (h:Q (.ref g,[.ref a]) s):uM (uP X.prog X.w) A (fK (.ref a) m pl) Q E s:=by
 obtain⟨mA,O,r,_,_,_⟩:=qh6 I.hok e;have hn:mA m=none:=qf1.none_of (by rw[<-l];exact r m);exact ji2 I.kIn O (c.get m) k.at_ k.fn hn h
def jet{y:V}{u:uB}{Q:Unit->uD->Prop}(I:Inv X pins σ H s)(e:H a=some (.ins C dx fs))(c:Cls X.K C)(n:qb0 X.K C f)(hl:fs.length<1000)(ry:qbb y u)
  (h:∀s',Inv X pins σ (upd H a (.ins C dx (qe9 f y fs))) s'->Q () s'):uM (uP X.prog X.w) A (setAttr (.ref a) f u) Q E s:=by
 obtain⟨mA,O,r,wi,_,ho⟩:=qh6 I.hok e;have hz:(fs.map (·.1)).length<=sizeLine:=by rw[zB,xD];omega
 refine jl9 I.kIn O c.sa c.po n.taker c.hd wi hz fun h' O' sb=>h _ ?_;have hd:∃o,h'.get? dx=some o:=let ⟨o,_,_,e',_⟩:=O'.ns;⟨o,e'⟩
 refine I.write (x:=a) (e:=dx) (by rw[e];exact wF) (.inr ho) (fun b q hb z=>(sb.2 b hb).trans z) hd ?_;refine⟨by rw[qa9 O.ne];exact ho,?_,O.ne,O'.obj,_,O'.ns,fun g=>?_,fun g hg=>?_⟩
 .have:=qe1 f y fs;omega
 .show qf1 ((qe9 f y fs).lookup g) (if g=f then some u else mA g);rw[qd2];by_cases q:g=f
  .rw[iO q,iO q];exact ry
  .rw[iN q,iN q];exact r g
 .by_cases q:g=f
  .rw[q];exact(qdj f y fs).1
  .refine(qdj f y fs).2 g (wi g fun z=>hg ?_);show(if g=f then some u else mA g)=none;rw[iN q];exact z
def Inv.made(I:Inv X pins σ H s):Inv X pins σ (upd (upd H ↑s (.own (↑s+1))) (↑s+1) (.ins C ↑s []))
  {s with heap:=(s.heap.push emptyDict).push (dO C ↑s)}:=by
 have e1:(s.heap.push emptyDict).get? ↑s=some emptyDict:=uX s.heap rfl;have e2:((s.heap.push emptyDict).push (dO C ↑s)).get? (↑s+1)=some (dO C ↑s):=by
  have:=uX (s.heap.push emptyDict) (o:=dO C ↑s) rfl
  rwa [bR] at this
 have e3:(s.heap.push emptyDict).Ns ↑s (fun _=>none):=⟨emptyDict,#[],_,e1,rfl,(fun e he=>absurd he (by simp)),fun _=>rfl⟩;have I1:=I.laid (a:=↑s) (o:=.own (↑s+1)) (h':=s.heap.push emptyDict) (t':=s.toks) (fun b u q=>uF _ q) (uG _) ⟨_,e1⟩;refine I1.laid (a:=↑s+1) (o:=.ins C ↑s []) (t':=s.toks) (fun b u q=>uF _ q) (Nat.le_of_eq (bR _ _)) ?_;have ne:↑s≠↑s+1:=vM (cD _);refine⟨by rw[qa9 ne,qa1],wV _,ne,e2,fun _=>none,(Heap.Ns1.of_empty e3).at fun o q=>uF _ q,fun _=>wF,fun y hy=>absurd rfl hy⟩
def jfn{prog:uI}{w:vA}{env:Env}{e:vT}{f:Str}{pos:Pos}{s:uD}{Q:uB->uD->Prop}(hb:bE e f env (wQ e env)=wQ e env)
  (h:uM (uP prog w) A (wQ e env) (fun o s₁=>uM (uP prog w) A (getAttr o f true) Q E s₁) E s):uM (uP prog w) A (wQ (.Attribute e f pos) env) Q E s:=
 Attribute_any_ h (by rw[arm_eval_Attribute,hb])
end
noncomputable def juz(K:uY)(ta:TE)(f:Str):TE:=fun σ H Q=>ta σ H fun x H1=>∃a C dx fs v,x=.ref a/\H1 a=some (.ins C dx fs)/\Cls K C/\qb0 K C f/\fs.lookup f=some v/\Q v H1
noncomputable def ju0(K:uY)(ta tv:TE)(f:Str):TS:=fun D σ H=>tv σ H fun y H1=>ta σ H1 fun x H2=>∃a C dx fs,x=.ref a/\H2 a=some (.ins C dx fs)/\Cls K C/\qb0 K C f/\fs.length<1000/\
 D.nx σ (upd H2 a (.ins C dx (qe9 f y fs)))
section
variable{X:Cx}{o e value:vT}{f:Str}{pos pos':Pos}{ta tv:TE}
def qc2(he:PE X e ta)(hb:bE e f X.env (wQ e X.env)=wQ e X.env):PE X (.Attribute e f pos) (juz X.K ta f):=by
 intro pins s σ H Q I h;refine jfn hb (thn (he pins s σ H _ I h) fun u s1 h9=>?_);obtain⟨x,H1,I1,rx,a,C,dx,fs,v,ex,ea,c,n,l,q⟩:=h9;subst ex;obtain rfl:u=uS a:=rx;exact jes I1 ea c n l fun u' s2 I2 ru=>⟨v,H1,I2,ru,q⟩
def qg1(ha:PE X o ta)(hv:PE X value tv)(hs:bK value (some (.Attribute o f pos')) pos.line X.env=pure false):PS X (.Assign [.Attribute o f pos'] value pos) (ju0 X.K ta tv f):=by
 intro pins s σ H D I h;refine iB (thn (hv pins s σ H _ I h) fun u s1 ⟨y,H1,I1,ry,q⟩=>thn (ha pins s1 σ H1 _ I1 q) fun ov s2 h9=>?_) hs;obtain⟨x,H2,I2,rx,a,C,dx,fs,ex,ea,c,n,l,q2⟩:=h9;subst ex;obtain rfl:ov=uS a:=rx;exact jet I2 ea c n l ry fun s3 I3=>⟨σ,_,I3,q2⟩
end
section
variable{X:Cx}{pins:List (Addr×Obj)}{σ:St}{H:Hp}{s:uD}{A:vI}{E:uB->uD->Prop}{Q:uB->uD->Prop}{c:uB}{b:Bool}
inductive ja5(K:uY)(H:Hp):V->uB->Prop where
 |non:ja5 K H .non (.type "NoneType")
 |bl(x:Bool):ja5 K H (.bl x) (.type "bool")
 |int(i:Int):ja5 K H (.int i) (.type "int")
 |str(x:Str):ja5 K H (.str x) (.type "str")
 |flt(x:UInt64):ja5 K H (.flt x) (.type "float")
 |lst{a:Addr}{xs:List V}(e:H a=some (.lst xs)):ja5 K H (.ref a) (.type "list")
 |frz{a:Addr}{o:Obj}{xs:List V}(e:H a=some (.frz o (.lst xs))):ja5 K H (.ref a) (.type "list")
 |tup{a:Addr}{xs:List V}(e:H a=some (.tup xs)):ja5 K H (.ref a) (.type "tuple")
 |dK{a:Addr}{kvs:List (Key×V)}(e:H a=some (.dK kvs)):ja5 K H (.ref a) (.type "dict")
 |dT{a:Addr}{kvs:List (List Key×V)}(e:H a=some (.dT kvs)):ja5 K H (.ref a) (.type "dict")
 |ins{a C dx:Addr}{fs:List (Str×V)}(e:H a=some (.ins C dx fs))(cl:Cls K C)(ha:vC K (.ref C) "__class__"=some (some (.builtin "object.__class__")))
   (hn:bQ K (.builtin "object.__class__") "__get__"=some (some (.builtin "getset_descriptor.__get__"))) (htk:PySem.W.takesIn K (.builtin "object.__class__")=some true)
   (hm:fV K C (.type "object")=some true):ja5 K H (.ref a) (.ref C)
def jfo{x:V}{t:uB}(I:Inv X pins σ H s)(rx:qbb x u)(ty:ja5 X.K H x t)(e:vY X.K t c=some b)(h:∀tk,Q (.bool b) {s with toks:=tk}):
  uM (uP X.prog X.w) A (call (.builtin "isinstance") [u,c]) Q E s:=by
 cases ty with
 |non=>cases(show u=vV from rx);exact wJ PySem.W.kitx_none I.kIn wF e (fun z=>nomatch z) h
 |bl y=>cases(show u=gC y from rx);exact wJ PySem.W.kitx_bool I.kIn wF e (fun z=>nomatch z) h
 |int i=>obtain⟨t,q⟩:=(show ∃t,u=iD i t from rx);cases q;exact wJ PySem.W.kitx_int I.kIn wF e (fun z=>nomatch z) h
 |str y=>obtain⟨t,q⟩:=(show ∃t,u=fG y t from rx);cases q;exact wJ PySem.W.kitx_str I.kIn wF e (fun z=>nomatch z) h
 |flt y=>obtain⟨t,q⟩:=(show ∃t,u=Value.float y t from rx);cases q;exact wJ PySem.W.kitx_float I.kIn wF e (fun z=>nomatch z) h
 | @lst a xs ea=>
  cases(show u=uS a from rx)
  obtain⟨_,_,n,_,h1⟩:=(show qbg X.prog X.w H s.heap a (.lst xs) from I.hok a _ ea);exact wJ PySem.W.kitx_list I.kIn ⟨_,h1,rfl⟩ e (fun z=>nomatch z) h
 | @frz a ob xs ea=>
  cases(show u=uS a from rx)
  obtain⟨_,_,_,n,_,h1⟩:=(show qbg X.prog X.w H s.heap a (.frz ob (.lst xs)) from I.hok a _ ea);exact wJ PySem.W.kitx_list I.kIn ⟨_,h1,rfl⟩ e (fun z=>nomatch z) h
 | @tup a xs ea=>
  cases(show u=uS a from rx)
  obtain⟨_,_,_,p⟩:=(show qbg X.prog X.w H s.heap a (.tup xs) from I.hok a _ ea);obtain⟨o,h1,h2,_⟩:=p;exact wJ PySem.W.kitx_tuple I.kIn ⟨o,h1,h2⟩ e (fun z=>nomatch z) h
 | @dK a kvs ea=>
  cases(show u=uS a from rx)
  obtain⟨_,_,vs,_,p⟩:=(show qbg X.prog X.w H s.heap a (.dK kvs) from I.hok a _ ea);obtain⟨o,es,ep,h1,h2,_⟩:=p;exact wJ PySem.W.kitx_dict I.kIn ⟨o,h1,h2.1⟩ e (fun z=>nomatch z) h
 | @dT a kvs ea=>
  cases(show u=uS a from rx)
  obtain⟨_,_,xs,_,o,es,ep,h1,h2,_⟩:=(show qbg X.prog X.w H s.heap a (.dT kvs) from I.hok a _ ea);exact wJ PySem.W.kitx_dict I.kIn ⟨o,h1,h2.1⟩ e (fun z=>nomatch z) h
 | @ins a C dx fs ea cl ha hn htk hm=>
  cases(show u=uS a from rx)
  obtain⟨mA,O,_⟩:=qh6 I.hok ea;obtain⟨od,J,_⟩:=O.look;exact wJ (PySem.W.kitx_own (cl.get _) cl.hd ha hn htk hm) I.kIn J e (fun z=>nomatch z) h
end
structure jar(k:Nat)(A:vI):Prop where
 hd:A.handled=none
 dp:A.depth+3*k+5<recursionLimit
 un:A.units+16*k+200<cLine
def jar.mono{j k:Nat}(r:jar k A)(h:j<=k):jar j A:=⟨r.hd,by have:=r.dp;omega,by have:=r.un;omega⟩
theorem jar.deeper{k:Nat}(r:jar (k+1) A)(env:Env):jar k (A.deeper env):=
 ⟨r.hd,by have:=r.dp;show A.depth+1+3*k+5<_;omega,by have:=r.un;show A.units+3+16*k+200<_;omega⟩
def jeu{kw:List (Str×uB)} :(A.under (.builtin "type.__call__" ⟨.ref C::us,kw⟩)).depth=A.depth+1:=by
 first|rfl|simp[Around.under,Code.weight,Code.isCreation,Code.isGuard,Code.isCaller,Code.frames,Code.isFrame,guardIds]
def jev{kw:List (Str×uB)} :(A.under (.builtin "type.__call__" ⟨.ref C::us,kw⟩)).units=A.units+1:=by
 first|rfl|simp[Around.under,Code.cUnits,Code.frames,Code.isFrame]
def jar.make{k:Nat}(r:jar (k+1) A)(C:Addr)(us:List uB)(kw:List (Str×uB)):jar k (A.under (.builtin "type.__call__" ⟨.ref C::us,kw⟩)):=
 ⟨r.hd,by have:=r.dp;rw[jeu];omega,by have:=r.un;rw[jev];omega⟩
theorem jar.depth{k:Nat}(r:jar k A):A.depth<recursionLimit:=by have:=r.dp;omega
theorem jar.units{k:Nat}(r:jar k A):A.units+64<cLine:=by have:=r.un;omega
noncomputable def jom:TA:=fun _ H Q=>Q [] H
noncomputable def jma(ta:TE)(tr:TA):TA:=fun σ H Q=>ta σ H fun x H1=>tr σ H1 fun xs H2=>Q (x::xs) H2
section
variable{X:Cx}{e:vT}{es:List vT}{te:TE}{t:TA}{pos:Pos}
def qa2:PA X [] jom:=fun _ _ _ _ H Q I h=>Calls.spliced_nil ⟨[],H,I,.nil,h⟩
def qa0(ha:PE X e te)(hr:PA X es t)(hs:autoParam (vF (e::es) X.env=(false,wQ e X.env)::vF es X.env) auR):PA X (e::es) (jma te t):=by
 intro pos pins s σ H Q I h;rw[hs];show uM _ _ (spliced ((false,wQ e X.env)::wW pos (vF es X.env))) _ _ s;refine gI (thn (ha pins s σ H _ I h) fun u s1 h9=>?_);obtain⟨x,H1,I1,r1,q1⟩:=h9;exact thn (hr pos pins s1 σ H1 _ I1 q1) fun us s2 ⟨xs,H2,I2,r2,q2⟩=>⟨x::xs,H2,I2,.cons r1 r2,q2⟩
noncomputable def ju1(t:TA):TE:=fun σ H Q=>t σ H fun xs H1=>xs.length<=sizeLine/\∀p,H1 p=none->Q (.ref p) (upd H1 p (.tup xs))
noncomputable def jsq(t:TA):TE:=fun σ H Q=>t σ H fun xs H1=>xs.length<=sizeLine/\∀p,H1 p=none->Q (.ref p) (upd H1 p (.lst xs))
def jfp{x1}(h:PA X es t):PE X (.Tuple es x1 pos) (ju1 t):=by
 intro pins s σ H Q I hq;refine wpAny_Tuple_spliced (thn (h pos pins s σ H _ I hq) fun us s1 ⟨xs,H1,I1,r,z,q⟩=>⟨by rw[<-r.length];exact z,?_⟩);have hf:H1 ↑s1=none:=I1.hok.fresh (uG _);refine⟨.ref ↑s1,upd H1 ↑s1 (.tup xs),I1.laid (t':=s1.toks) (fun b u e=>uF _ e) (uG _) ?_,rfl,q _ hf⟩;exact⟨z,us,r,⟨_,uX _ rfl,rfl,_,rfl⟩⟩
def qam(h:PA X es t):PE X (.List es pos) (jsq t):=by
 intro pins s σ H Q I hq;refine wpAny_List_spliced (thn (h pos pins s σ H _ I hq) fun us s1 ⟨xs,H1,I1,r,z,q⟩=>⟨by rw[<-r.length];exact z,?_⟩);have hf:H1 ↑s1=none:=I1.hok.fresh (uG _);refine⟨.ref ↑s1,upd H1 ↑s1 (.lst xs),I1.laid (t':=s1.toks) (fun b u e=>uF _ e) (uG _) ?_,rfl,q _ hf⟩;exact⟨z,us,0,r,uX _ rfl⟩
end
abbrev Sp:=List V->Hp->VK->XK->Prop
abbrev CXT:=List Env->Hp->uD->XK->uB->uD->Prop
structure ji3(P:uI)(w:vA)(K:uY)(mg:Str->Option uB)(base:vS)(A:vI)(outer:List Env)(s:uD)(H:Hp):Prop where
 frames:A.frames=some outer
 mod:Mod K mg base
 bs:∀b o,base.get? b=some o->s.heap.get? b=some o/\H b=none
 bsz:base.objs.size<=↑s
 funs:s.heap.FunFrames base outer
 frf:∀b∈frs outer,H b=none
 hok:HOk P w H s.heap
 bare:cT s.gens
def CE(outer:List Env)(P:uI)(w:vA)(H:Hp)(s:uD)(Q:VK)(u:uB)(s':uD):Prop:=
 ∃v H',s'.os=s.os/\cT s'.gens/\Un (frs outer) [] H H' s.heap s'.heap/\HOk P w H' s'.heap/\qbb v u/\Q v H'
def CR(CX:CXT)(outer:List Env)(P:uI)(w:vA)(H:Hp)(s:uD)(Q:VK)(E:XK)(r:iH)(s':uD):Prop:=
 match r with
 | .ok (.ret u)=>CE outer P w H s Q u s'
 | .ok _=>False
 | .error e=>CX outer H s E e s'
structure jab(P:uI)(w:vA)(K:uY)(mg:Str->Option uB)(base:vS)(CX:CXT)(k:Nat)(f:Addr)(fd:uT)(ps:List Str)(sp:Sp):Prop where
 len:∀vs H Q E,sp vs H Q E->vs.length=ps.length
 run:∀(A:vI)(outer:List Env)(s:uD)(H:Hp)(args:Args)(us:List uB)(vs:List V)(Q:VK)(E:XK),jar k A->ji3 P w K mg base A outer s H->dQ s fd args (ps.zip us)->qbk vs us->sp vs H Q E->
  aT (uP P w) A (.call (.ref f) args) (CR CX outer P w H s Q E) s
theorem jab.mono{P:uI}{w:vA}{K:uY}{mg:Str->Option uB}{base:vS}{CX:CXT}{j k:Nat}{f:Addr}{fd:uT}{ps:List Str}{sp:Sp}(F:jab P w K mg base CX j f fd ps sp)(h:j<=k):
  jab P w K mg base CX k f fd ps sp:=⟨F.len,fun A outer s H args us vs Q E hr=>F.run A outer s H args us vs Q E (hr.mono h)⟩
def jab.imp{P:uI}{w:vA}{K:uY}{mg:Str->Option uB}{base:vS}{CX:CXT}{k:Nat}{f:Addr}{fd:uT}{ps:List Str}{sp sp':Sp}(F:jab P w K mg base CX k f fd ps sp)
  (h:∀vs H Q E,sp' vs H Q E->sp vs H Q E):jab P w K mg base CX k f fd ps sp':=
 ⟨fun vs H Q E q=>F.len vs H Q E (h _ _ _ _ q),fun A outer s H args us vs Q E hr he hb hv hs=>F.run A outer s H args us vs Q E hr he hb hv (h _ _ _ _ hs)⟩
def ji3.make{P:uI}{w:vA}{K:uY}{mg:Str->Option uB}{base:vS}{A:vI}{outer:List Env}{s:uD}{H:Hp}(e:ji3 P w K mg base A outer s H)(C:Addr)(us:List uB)(kw:List (Str×uB)):
  ji3 P w K mg base (A.under (.builtin "type.__call__" ⟨.ref C::us,kw⟩)) outer s H:=⟨by first|exact e.frames|(simpa[Around.under,Code.envs,Code.isFrame,pushEnvs] using e.frames),e.mod,e.bs,e.bsz,e.funs,e.frf,e.hok,e.bare⟩
section
variable{X:Cx}{pins:List (Addr×Obj)}{σ:St}{H:Hp}{s s':uD}
def Inv.env0(I:Inv X pins σ H s):ji3 X.prog X.w X.K X.mg X.base X.A X.stack s H:=
 ⟨I.ok.frames,I.ok.mod,I.bs,wG I.ok.bsz I.sz,I.stack,I.stkFree,I.hok,I.bare⟩
def Inv.after{Q:VK}(I:Inv X pins σ H s)(h:CE X.stack X.prog X.w H s Q u s'):EP X pins σ Q u s':=by
 obtain⟨v,H',os,bare,un,hok,r,q⟩:=h;obtain⟨hh,g,d,t,os'⟩:=s';obtain rfl:os'=s.os:=os;exact⟨v,H',I.call (h':=hh) (g':=g) (d':=d) (t':=t) (ch:=[]) un hok bare (fun b z=>absurd z (by simp)),r,q⟩
end
noncomputable def jmb(sp:Sp)(dvs:List V)(E:XK)(t:TA):TE:=fun σ H Q=>t σ H fun vs H1=>sp (vs++dvs) H1 Q E
noncomputable def jmc(C:Addr)(m:Str)(sp:Sp)(dvs:List V)(E:XK)(ta:TE)(t:TA):TE:=fun σ H Q=>ta σ H fun x H1=>∃a dx fs,x=.ref a/\H1 a=some (.ins C dx fs)/\fs.lookup m=none/\
 t σ H1 fun vs H2=>sp (x ::(vs++dvs)) H2 Q E
noncomputable def jpb(C:Addr)(sp:Sp)(dvs:List V)(E:XK)(t:TA):TE:=fun σ H Q=>t σ H fun vs H1=>∀x dx,H1 x=none->H1 dx=none->dx≠x->
 sp (.ref x ::(vs++dvs)) (upd (upd H1 dx (.own x)) x (.ins C dx [])) (fun v H2=>v=.non/\Q (.ref x) H2) E
def qat(K:uY)(fd:uT)(ps:List Str)(ds:List uB):Prop:=
 ∀(s:uD)(us:List uB),K.In s.heap->(us++ds).length=ps.length->dQ s fd ⟨us,[]⟩ (ps.zip (us++ds))
def qat.all{fd:uT}{ps:List Str}(h:∀us:List uB,us.length=ps.length->bindArgs fd ⟨us,[]⟩=pure (ps.zip us)):qat K fd ps []:=fun s us _ hl=>by
 rw[zW] at hl⊢;exact .of_eq (h us hl)
def qft(CX:CXT)(X:Cx)(E:XK):Prop:=∀(pins:List (Addr×Obj))(σ:St)(H:Hp)(s:uD)(e:uB)(s':uD),Inv X pins σ H s->CX X.stack H s E e s'->X.xe e s'
section
variable{X:Cx}{CX:CXT}{k:Nat}{f C:Addr}{fd:uT}{ps:List Str}{sp:Sp}{dvs:List V}{ds:List uB}{E:XK}{x m:Str}{p pos apos:Pos}{e o:vT}{es:List vT}{ta:TE}{t:TA}
def jfq{pins:List (Addr×Obj)}{σ:St}{H:Hp}{s:uD}{Q:VK}{us:List uB}{vs:List V}(F:jab X.prog X.w X.K X.mg X.base CX k f fd ps sp)(hr:jar k X.A)(hb:qat X.K fd ps ds)(hd:qbk dvs ds)(hx:qft CX X E)
  (I:Inv X pins σ H s)(r:qbk vs us)(h:sp (vs++dvs) H Q E):uM (uP X.prog X.w) X.A (call (.ref f) us) (EP X pins σ Q) X.xe s:=by
 have r2:qbk (vs++dvs) (us++ds):=r.append hd;have hl:(us++ds).length=ps.length:=by rw[<-r2.length];exact F.len _ _ _ _ h
 refine xH (xU (F.run X.A X.stack s H ⟨us,[]⟩ (us++ds) (vs++dvs) Q E hr I.env0 (hb s us I.kIn hl) r2 h) fun r s' hq=>?_)
 cases r with
 |error e=>exact hx pins σ H s e s' I hq
 |ok fl=>
  cases fl with
  |ret u=>exact I.after hq
  |next=>exact vU hq
  |brk=>exact vU hq
  |cont=>exact vU hq
def qaf(F:jab X.prog X.w X.K X.mg X.base CX k f fd ps sp)(hr:jar k X.A)(hg:Gl X x)(hm:X.mg x=some (.ref f))(hk:dA X.K (.ref f)=true)(hb:qat X.K fd ps ds)(hd:qbk dvs ds)(hx:qft CX X E)
  (ha:PA X (e::es) t)(hdb:autoParam ((x==("__debug__":Str))=false) auD)(he:autoParam (vF (e::es) X.env=(false,wQ e X.env)::vF es X.env) auR)(hpl:autoParam ((wW pos (vF es X.env)).any (·.1)=false) auR):
  PE X (.Call (.Name x p) (e::es) [] pos) (jmb sp dvs E t):=by
 intro pins s σ H Q I h;refine xN (qcw I hg hm ?_ hdb);refine xO (h₀:=X.base) I.ok.mod.kin hk (thn (ha pos pins s σ H _ I h) fun us s1 ⟨vs,H1,I1,r,q⟩=>⟨I1.kIn,?_⟩) he hpl;exact jfq F hr hb hd hx I1 r q
def jcu{pl:Sem Bool}(he:PE X o ta)(c:Cls X.K C)(hm:ja7 X.K C m f)(F:jab X.prog X.w X.K X.mg X.base CX k f fd ps sp)(hr:jar k X.A)(hb:qat X.K fd ps ds)(hd:qbk dvs ds)(hx:qft CX X E)(ha:PA X (e::es) t)
  (hst:autoParam (vF (e::es) X.env=(false,wQ e X.env)::vF es X.env) auR)(hpl:autoParam ((wW pos (vF es X.env)).any (·.1)=false) auR)
  (ht:autoParam (wQ (.Call (.Attribute o m apos) (e::es) [] pos) X.env=(do
   let ov<-wQ o X.env
   standAt apos.atName
   let (f,first)<-fJ [ov] (fK ov m pl)
   callWith pos f first (wW pos (vF (e::es) X.env)) (fF pos (cH [] X.env)))) auR):
  PE X (.Call (.Attribute o m apos) (e::es) [] pos) (jmc C m sp dvs E ta t):=by
 intro pins s σ H Q I h;refine bZ (pl:=pl) (thn (he pins s σ H _ I h) fun u s1 h9=>?_) ht;obtain⟨x,H1,I1,rx,a,dx,fs,ex,ea,l,q⟩:=h9;subst ex;obtain rfl:u=uS a:=rx;refine qeq I1 ea c hm l ?_;refine xO (first:=[.ref a]) (h₀:=X.base) I.ok.mod.kin hm.kp (thn (ha pos pins s1 σ H1 _ I1 q) fun us s2 ⟨vs,H2,I2,r,q2⟩=>⟨I2.kIn,?_⟩) hst hpl;exact jfq (us:=.ref a::us) (vs:=.ref a::vs) F hr hb hd hx I2 (.cons rfl r) q2
def ji4{pl:Sem Bool}(he:PE X o ta)(c:Cls X.K C)(hm:ja7 X.K C m f)(F:jab X.prog X.w X.K X.mg X.base CX k f fd ps sp)(hr:jar k X.A)(hb:qat X.K fd ps ds)(hd:qbk dvs ds)(hx:qft CX X E)
  (ht:autoParam (wQ (.Call (.Attribute o m apos) [] [] pos) X.env=(do
   let ov<-wQ o X.env
   standAt apos.atName
   let (f,first)<-fJ [ov] (fK ov m pl)
   callWith pos f first (wW pos (vF [] X.env)) (fF pos (cH [] X.env)))) auR):
  PE X (.Call (.Attribute o m apos) [] [] pos) (jmc C m sp dvs E ta jom):=by
 intro pins s σ H Q I h;refine bZ (pl:=pl) (thn (he pins s σ H _ I h) fun u s1 h9=>?_) ht;obtain⟨x,H1,I1,rx,a,dx,fs,ex,ea,l,q⟩:=h9;subst ex;obtain rfl:u=uS a:=rx;refine qeq I1 ea c hm l ?_;exact PySem.W.callWith_K0 (first:=[.ref a]) I1.kIn hm.kp (jfq (us:=[.ref a]) (vs:=[.ref a]) F hr hb hd hx I1 (.cons rfl .nil) q)
structure Mk(K:uY)(C f:Addr):Prop where
 makes:PySem.W.makesIn K C=true
 init:vC K (.ref C) "__init__"=some (some (.ref f))
 fn:isFn K (.ref f)=true
 kp:dA K (.ref C)=true
def ji5{pins:List (Addr×Obj)}{σ:St}{H:Hp}{s:uD}{Q:VK}{us:List uB}{vs:List V}(M:Mk X.K C f)(F:jab X.prog X.w X.K X.mg X.base CX k f fd ps sp)(hr:jar (k+1) X.A)(hb:qat X.K fd ps ds)(hd:qbk dvs ds)
  (hx:qft CX X E)(I:Inv X pins σ H s)(r:qbk vs us)
  (h:∀x dx,H x=none->H dx=none->dx≠x->sp (.ref x ::(vs++dvs)) (upd (upd H dx (.own x)) x (.ins C dx [])) (fun v H2=>v=.non/\Q (.ref x) H2) E):
  uM (uP X.prog X.w) X.A (call (.ref C) us) (EP X pins σ Q) X.xe s:=by
 have hq:=h (↑s+1) ↑s (I.hok.fresh (aP _)) (I.hok.fresh (uG _)) (vM (cD _));have I2:=Inv.made (C:=C) I;have r2:qbk (V.ref (↑s+1) ::(vs++dvs)) (uS (↑s+1) ::(us++ds)):=.cons rfl (r.append hd);have hl:(uS (↑s+1)::us++ds).length=ps.length:=by
  have e:=r2.length;rw[F.len _ _ _ _ hq] at e;exact e.symm
 refine xH (jdn (f:=f) I.kIn M.makes M.init (beq_iff_eq.mp M.fn) (xU (F.run _ X.stack _ _ ⟨uS (↑s+1)::us,[]⟩ (uS (↑s+1) ::(us++ds)) _ _ E (hr.make C us [])
  (I2.env0.make C us []) (hb _ (uS (↑s+1)::us) I2.kIn hl) r2 hq) fun r s' hq'=>?_))
 cases r with
 |error e=>exact hx pins σ _ _ e s' I2 hq'
 |ok fl=>
  cases fl with
  |ret u=>
   obtain⟨v,H',I3,rv,ev,q3⟩:=I2.after hq';subst ev;exact⟨rv,⟨V.ref (↑s+1),H',I3,rfl,q3⟩⟩
  |next=>exact vU hq'
  |brk=>exact vU hq'
  |cont=>exact vU hq'
def jmd(M:Mk X.K C f)(F:jab X.prog X.w X.K X.mg X.base CX k f fd ps sp)(hr:jar (k+1) X.A)(hg:Gl X x)(hm:X.mg x=some (.ref C))(hb:qat X.K fd ps ds)(hd:qbk dvs ds)(hx:qft CX X E)
  (ha:PA X (e::es) t)(hdb:autoParam ((x==("__debug__":Str))=false) auD)(he:autoParam (vF (e::es) X.env=(false,wQ e X.env)::vF es X.env) auR)(hpl:autoParam ((wW pos (vF es X.env)).any (·.1)=false) auR):
  PE X (.Call (.Name x p) (e::es) [] pos) (jpb C sp dvs E t):=by
 intro pins s σ H Q I h;refine xN (qcw I hg hm ?_ hdb);refine xO (h₀:=X.base) I.ok.mod.kin M.kp (thn (ha pos pins s σ H _ I h) fun us s1 ⟨vs,H1,I1,r,q⟩=>⟨I1.kIn,?_⟩) he hpl;exact ji5 M F hr hb hd hx I1 r q
end
section
variable{fd:uT}{ps ks:List Str}
structure ju2(K:uY)(fd:uT)(ps ks:List Str)(g:List uB->List uB->List uB)(gV:List V->List V->List V):Prop where
 to:∀(s:uD)(us ws:List uB),K.In s.heap->(g us ws).length=ps.length->dQ s fd ⟨us,ks.zip ws⟩ (ps.zip (g us ws))
 rel:∀{vs:List V} {us:List uB} {zs:List V} {ws:List uB},qbk vs us->qbk zs ws->qbk (gV vs zs) (g us ws)
end
structure jaa(N P:List Str)(sc:bJ):Prop where
 kind:sc.kind=.function
 co:sc.isCoroutine=false
 gen:sc.isGenerator=false
 nd:N.Nodup
 pre:N.take P.length=P
 par:∀x∈P,sc.names.lookup x=some .local\/sc.names.lookup x=some .cell
 nofree:∀y∈sc.names,y.2≠ .free
theorem jbu{kindOf:Str->Option NameKind}{x:Str}:∀{binds:List (Str×uB)} {m:Str->Option uB},(∀v,(x,v)∉binds)->bindL kindOf binds m x=m x
 | [],_,_=>rfl
 |(n,v)::r,m,h=>by
  unfold bindL;rw[jbu fun w hw=>h w (zF _ hw)]
  split
  .have:x≠n:=by rintro rfl;exact h v zG
   simp[this]
  .rfl
theorem jbv{kindOf:Str->Option NameKind}{x:Str}:∀{binds:List (Str×uB)} {m:Str->Option uB},(∀v,(x,v)∉binds)->bindC kindOf binds m x=m x
 | [],_,_=>rfl
 |(n,v)::r,m,h=>by
  unfold bindC;rw[jbv fun w hw=>h w (zF _ hw)]
  split
  .rfl
  .have:x≠n:=by rintro rfl;exact h v zG
   simp[this]
theorem jbw{kindOf:Str->Option NameKind}{x:Str}{v:uB}:∀{P:List Str} {vs:List uB} {i:Nat} {m:Str->Option uB},P.Nodup->P[i]?=some x->vs[i]?=some v->kindOf x=some .local->
  bindL kindOf (P.zip vs) m x=some v
 | [],_,_,_,_,h,_,_=>by simp at h
 |_::_,[],_,_,_,_,h,_=>by simp at h
 |p::P,w::vs,0,m,nd,h1,h2,hk=>by
  simp at h1 h2;subst h1;subst h2;show bindL kindOf ((p,w)::P.zip vs) m p=_;unfold bindL;rw[jbu fun v hv=>(zU.mp nd).1 (eI hv).1,iO hk];simp
 |p::P,w::vs,i+1,m,nd,h1,h2,hk=>by
  show bindL kindOf ((p,w)::P.zip vs) m x=_;unfold bindL;exact jbw (i:=i) (zU.mp nd).2 (by simpa using h1) (by simpa using h2) hk
theorem jbx{kindOf:Str->Option NameKind}{x:Str}{v:uB}:∀{P:List Str} {vs:List uB} {i:Nat} {m:Str->Option uB},P.Nodup->P[i]?=some x->vs[i]?=some v->kindOf x≠some .local->
  bindC kindOf (P.zip vs) m x=some v
 | [],_,_,_,_,h,_,_=>by simp at h
 |_::_,[],_,_,_,_,h,_=>by simp at h
 |p::P,w::vs,0,m,nd,h1,h2,hk=>by
  simp at h1 h2;subst h1;subst h2;show bindC kindOf ((p,w)::P.zip vs) m p=_;unfold bindC;rw[jbv fun v hv=>(zU.mp nd).1 (eI hv).1,iN hk];simp
 |p::P,w::vs,i+1,m,nd,h1,h2,hk=>by
  show bindC kindOf ((p,w)::P.zip vs) m x=_;unfold bindC;exact jbx (i:=i) (zU.mp nd).2 (by simpa using h1) (by simpa using h2) hk
noncomputable def qdr(N:List Str)(vs:List V):St:=vs.map some++wH (N.length-vs.length) none
noncomputable def cxOf(CX:CXT)(P:uI)(w:vA)(K:uY)(mg:Str->Option uB)(base:vS)(N:List Str)(qual:Str)(scope:bJ)(f:Addr)(cd:uB)(A:vI)(outer:List Env)(s:uD)(H:Hp)(E:XK):Cx where
 prog:=P
 w:=w
 K:=K
 mg:=mg
 base:=base
 A:=A.deeper (cK qual scope ↑s f cd)
 N:=N
 s₀:=s
 H₀:=H
 env:=cK qual scope ↑s f cd
 outer:=outer
 stack:=cK qual scope ↑s f cd::outer
 ex:=[]
 calm:=true
 fn:=fun _=>true
 pn:=[]
 xe:=fun e s'=>uM (uP P w) (A.deeper (cK qual scope ↑s f cd)) (leaving (cK qual scope ↑s f cd) e) (fun _ s''=>CX outer H s E e s'') (fun e' s''=>CX outer H s E e' s'') s'
def jdo{sc:bJ}{n:Nat}(h:sc.names.lookup x=some .cell):∃c,(cellsFrom n sc.names []).lookup x=some c:=by
 have q:=dR sc.names n [] (.inl h);exact bF.mp q
def jby{CX:CXT}{P:uI}{w:vA}{K:uY}{mg:Str->Option uB}{base:vS}{N ps:List Str}{qual:Str}{scope:bJ}{f:Addr}{cd:uB}{A:vI}{outer:List Env}{s s1:uD}{H:Hp}{E:XK}{us:List uB}{vs:List V}
  (S:jaa N ps scope)(hd:A.handled=none)(e0:ji3 P w K mg base A outer s H)(hl:vs.length=ps.length)(r:qbk vs us)
  (x:InCallC s ↑s (bindL (cK qual scope ↑s f cd).kindOf (ps.zip us) fun _=>none) (cellsFrom (↑s+1) scope.names []) (bindC (cK qual scope ↑s f cd).kindOf (ps.zip us) fun _=>none) s1):
  Inv (cxOf CX P w K mg base N qual scope f cd A outer s H E) [] (qdr N vs) H s1:=by
 have hpl:ps.length<=N.length:=by have:=congrArg xE S.pre;rw[yN] at this;omega
 obtain⟨h1,tk,rfl,hk⟩:=x.done;have noA:∀b:Addr,b∉(cxOf CX P w K mg base N qual scope f cd A outer s H E).ex:=fun b z=>absurd (show b∈([]:List Addr) from z) (by simp);refine⟨⟨e0.mod,S.kind,rfl,rfl,uG _,fun y z c h1 h2=>?_,fun y hy=>?_,fun y c _ h=>?_,fun _=>hd,Around.frames_deeper e0.frames,.inr ⟨rfl,rfl⟩,fun b z=>absurd z (noA b),e0.bs,e0.bsz,fun b _ _=>noA b,fun b z=>absurd z (noA b),e0.funs,e0.frf⟩,
  rfl,e0.bare,Un.kept hk,⟨_,x.toInCall.ns,fun i y v h1 h2 h3=>?_⟩,fun y c h=>⟨_,x.cell y c h⟩,e0.hok.fresh (uG _),fun y c h=>?_,fun p hp=>absurd (show p∈([]:List (Addr×Obj)) from hp) (by simp),e0.hok.kept hk,?_⟩
 .exact name_of_addr x.apart (bB h1) (bB h2)
 .have hy:scope.names.lookup y=some .cell\/scope.names.lookup y=some .free:=hy;rcases hy with hy|hy
  .exact jdo hy
  .exact absurd rfl (S.nofree _ (bB hy))
 .exact Nat.le_of_lt (x.above y c (bB h))
 .have hi:i<vs.length:=by
   unfold qdr at h2;by_cases hi:i<vs.length
   .exact hi
   .rw[zX (by simpa using hi)] at h2;rw[List.getElem?_replicate] at h2
    split at h2<;>cases h2
  have ha:vs[i]?=some v:=by
   unfold qdr at h2;rw[zV (by simpa using hi),zC] at h2
   cases e:vs[i]? with
   |none=>rw[e] at h2;cases h2
   |some a=>rw[e] at h2;cases h2;rfl
  obtain⟨u,hu,rv⟩:=r.get ha;have hp:ps[i]?=some y:=by
   rw[<-S.pre,dC ↑∅];exact h1
  have ndP:ps.Nodup:=by rw[<-S.pre];exact S.nd.sublist (List.take_sublist _ _)
  refine⟨u,rv,?_⟩;rcases S.par y (zD hp) with k|k
  .exact .inl ⟨k,jbw ndP hp hu k⟩
  .obtain⟨c,e⟩:=jdo (n:=↑s+1) k;refine .inr ⟨.inl k,c,e,?_⟩;have q:=x.cell y c e;rw[jbx ndP hp hu (by show scope.names.lookup y≠_;rw[k];decide)] at q;exact q
 .exact e0.hok.fresh (Nat.le_of_lt (x.above y c (bB h)))
 .unfold qdr;show _=N.length;rw[zH,zB,aH];omega
def jme{CX:CXT}{P:uI}{w:vA}{K:uY}{mg:Str->Option uB}{base:vS}{k:Nat}{f:Addr}{name qual:Str}{params:dL}{body:List Stmt}{scope:bJ}{dV kV doc pm cdv ct oc:uB}{an od:Option Addr}
  {osl:Array (Option uB)}{N ps:List Str}{sp:Sp}(lk:K.lookup f=some ⟨oc,od,.func (gP name qual params body scope dV kV doc pm an cdv ct),osl⟩)(hcd:fZ K cdv qual=true)(S:jaa N ps scope)
  (len:∀vs H Q E,sp vs H Q E->vs.length=ps.length)
  (hbody:∀(A:vI)(outer:List Env)(s:uD)(H:Hp)(vs:List V)(Q:VK)(E:XK),jar k (A.deeper (cK qual scope ↑s f cdv))->sp vs H Q E->
   ∃t,PSs (cxOf CX P w K mg base N qual scope f cdv A outer s H E) body t/\t {nx:=fun _ H'=>Q .non H',rt:=Q} (qdr N vs) H):
  jab P w K mg base CX (k+1) f (gP name qual params body scope dV kV doc pm an cdv ct) ps sp:=by
 refine⟨len,fun A outer s H args us vs Q E hr e0 hb r hsp=>?_⟩;have hl:=len _ _ _ _ hsp;have KX:K.In s.heap:=e0.mod.kin.keeps fun b o e=>(e0.bs b o e).1;have lim:s.heap.NoLimit:=e0.mod.nolimit.keeps fun b o e=>(e0.bs b o e).1;have hkind:∀y∈ps.zip us,scope.names.lookup y.1=some .local\/(scope.names.lookup y.1=some .cell/\((cellsFrom (↑s+1) scope.names []).lookup y.1).isSome=true):=fun⟨n,v⟩ hy=>by
  rcases S.par n (eI hy).1 with q|q
  .exact .inl q
  .exact .inr ⟨q,dR _ _ _ (.inl q)⟩
 refine codeAny_call_function hr.depth (KX _ _ lk) rfl S.co S.gen rfl (PySem.W.codeRec_of KX hcd) (hb _ _ _ _ ?_);refine wpAny_newFunctionEnv_cells S.kind hkind fun env he s1 x=>?_;subst he;refine⟨lim.keeps x.toInCall.keep,codeAny_func ?_⟩;obtain⟨t,ht,hq⟩:=hbody A outer s H vs Q E (hr.deeper _) hsp;have I:Inv (cxOf CX P w K mg base N qual scope f cdv A outer s H E) [] (qdr N vs) H s1:=jby S hr.hd e0 hl r x;refine vR (ht [] s1 (qdr N vs) H _ I hq) (fun fl s' hs=>?_) fun e s' hs=>hs;have fin:∀{σ':St} {H':Hp} {v:V} {u:uB},Inv (cxOf CX P w K mg base N qual scope f cdv A outer s H E) [] σ' H' s'->qbb v u->Q v H'->CE outer P w H s Q u s':=
  fun {σ' H' v u} J rv q=>⟨v,H',J.os,J.bare,J.base,J.hok,rv,q⟩
 cases fl with
 |ret u=>
  obtain⟨v,σ',H',J,rv,q⟩:=hs;exact fin J rv q
 |next=>
  obtain⟨σ',H',J,q⟩:=hs;exact fin (v:=V.non) (u:=vV) J rfl q
 |brk=>
  obtain⟨_,_,_,q⟩:=hs;exact vU q
 |cont=>
  obtain⟨_,_,_,q⟩:=hs;exact vU q
section
variable{X:Cx}{x:Str}{p pos:Pos}{e:vT}{es:List vT}{t:TA}{id T:String}{r:List V->Hp->VK->Prop}
noncomputable def tCB(r:List V->Hp->VK->Prop)(t:TA):TE:=fun σ H Q=>t σ H fun vs H1=>r vs H1 Q
def qac(hc:qcc X (.builtin id) r)(hg:Gl X x)(hm:X.mg x=none)(hv:bO x=some (.builtin id))(ha:PA X (e::es) t)(hn:autoParam (x≠"__name__") auD)(hdb:autoParam ((x==("__debug__":Str))=false) auD)
  (he:autoParam (vF (e::es) X.env=(false,wQ e X.env)::vF es X.env) auR) (hpl:autoParam ((wW pos (vF es X.env)).any (·.1)=false) auR):PE X (.Call (.Name x p) (e::es) [] pos) (tCB r t):=by
 intro pins s σ H Q I h;refine xN (jbo I hg hm hv ?_ hn hdb);exact PyProof.Rows.callWith_builtin1 (thn (ha pos pins s σ H _ I h) fun us s1 ⟨vs,H1,I1,r1,q1⟩=>hc pins s1 σ H1 vs us Q I1 r1 q1) he hpl
def qbu(hc:qcc X (.type T) r)(hg:Gl X x)(hm:X.mg x=none)(hv:bO x=some (.type T))(ha:PA X (e::es) t)(hn:autoParam (x≠"__name__") auD)(hdb:autoParam ((x==("__debug__":Str))=false) auD)
  (he:autoParam (vF (e::es) X.env=(false,wQ e X.env)::vF es X.env) auR) (hpl:autoParam ((wW pos (vF es X.env)).any (·.1)=false) auR):PE X (.Call (.Name x p) (e::es) [] pos) (tCB r t):=by
 intro pins s σ H Q I h;refine xN (jbo I hg hm hv ?_ hn hdb);exact cM (thn (ha pos pins s σ H _ I h) fun us s1 ⟨vs,H1,I1,r1,q1⟩=>hc pins s1 σ H1 vs us Q I1 r1 q1) he hpl
end
end L2
namespace HT
open PySem PyProof.Rows
section
noncomputable def sIx(n d:Nat):Option Int->Nat
 |none=>d
 |some v=>if v<0 then(v+(n:Int)).toNat else min v.toNat n
end
end HT
namespace L2
open PySem PySem.Spec PyProof.Rows
abbrev TO:=St->Hp->(Option Int->Hp->Prop)->Prop
def PO(X:Cx)(e:Option vT)(t:TO):Prop:=
 ∀(pins:List (Addr×Obj))(s:uD)(σ:St)(H:Hp)(Q:Option Int->Hp->Prop),Inv X pins σ H s->t σ H Q->
  uM (uP X.prog X.w) X.A (evalPart e X.env) (fun u s'=>∃o H',Inv X pins σ H' s'/\IsPart u o/\Q o H') X.xe s
noncomputable def jfr:TO:=fun _ H Q=>Q none H
noncomputable def jpc(t:TE):TO:=fun σ H Q=>t σ H fun x H1=>∃i,x=.int i/\Q (some i) H1
section
variable{X:Cx}{e:vT}{te:TE}{lo hi:Option vT}{tl th:TO}{pos p2:Pos}
def jmf:PO X none jfr:=by
 intro pins s σ H Q I h;rw[evalPart_none];exact uE ⟨none,H,I,.none,h⟩
def jmg(h:PE X e te):PO X (some e) (jpc te):=by
 intro pins s σ H Q I hw;rw[evalPart_some];refine thn (h pins s σ H _ I hw) fun u s1 h9=>?_;obtain⟨x,H1,I1,r1,q1⟩:=h9;obtain⟨i,rfl,q⟩:=q1;obtain⟨t,rfl⟩:=r1;exact⟨some i,H1,I1,.int i t,q⟩
def SlR(X:Cx)(r:V->Option Int->Option Int->Hp->VK->Prop):Prop:=
 ∀(pins:List (Addr×Obj))(s:uD)(σ:St)(H:Hp)(x:V)(v vl vu:uB)(lo hi:Option Int)(sl:Addr)(Q:VK),Inv X pins σ H s->qbb x v->s.heap.IsSliceOf sl vl vu .none->IsPart vl lo->IsPart vu hi->r x lo hi H Q->
  ∃T id,gJ (.type T) "__getitem__"=pure (some (.builtin id))/\s.TypeIs v T/\uM (uP X.prog X.w) X.A (getItem v (.ref sl)) (EP X pins σ Q) X.xe s
noncomputable def tSl(r:V->Option Int->Option Int->Hp->VK->Prop)(te:TE)(tl th:TO):TE:=fun σ H Q=>te σ H fun x H1=>tl σ H1 fun l H2=>th σ H2 fun u H3=>r x l u H3 Q
def ji6{r:V->Option Int->Option Int->Hp->VK->Prop}(hr:SlR X r)(he:PE X e te)(hl:PO X lo tl)(hu:PO X hi th):PE X (.Subscript e (.Slice lo hi none p2) pos) (tSl r te tl th):=by
 intro pins s σ H Q I h;refine Subscript_ (thn (he pins s σ H _ I h) fun v s1 h9=>?_);obtain⟨x,H1,I1,r1,q1⟩:=h9;refine wpAny_Slice (thn (hl pins s1 σ H1 _ I1 q1) fun vl s2 ⟨l,H2,I2,pl,q2⟩=>thn (hu pins s2 σ H2 _ I2 q2) fun vu s3 h9=>?_);obtain⟨u,H3,I3,pu,q3⟩:=h9;rw[evalPart_none];refine uE ?_;have I4:Inv X pins σ H3 {s3 with heap:=s3.heap.push {cls:=.type "slice",data:=.fields #[vl,vu,.none]}}:=I3.kept (t':=s3.toks) fun b ob q=>uF _ q;obtain⟨T,id,hT,ht,hg⟩:=hr pins {s3 with heap:=s3.heap.push {cls:=.type "slice",data:=.fields #[vl,vu,.none]}} σ H3 x v vl vu l u ↑s3 Q I4 r1 (Heap.IsSliceOf.new ..) pl pu q3;show uM (uP X.prog X.w) X.A (subscriptTail e (.Slice lo hi none p2) v (.ref ↑s3)) (EP X pins σ Q) X.xe {s3 with heap:=s3.heap.push {cls:=.type "slice",data:=.fields #[vl,vu,.none]}};exact tail_any (ops:=[.ref ↑s3,v]) ht hT hg (by with_unfolding_all rfl)
noncomputable def jon(xs:List V)(lo hi:Option Int):List V:=(xs.drop (HT.sIx xs.length 0 lo)).take (HT.sIx xs.length xs.length hi-HT.sIx xs.length 0 lo)
def jcv(xs:List V)(lo hi:Option Int):(jon xs lo hi).length<=xs.length:=by
 unfold jon;rw[yN,List.length_drop];omega
end
noncomputable def ixN(n:Nat)(i:Int):Option Nat:=if 0<=i then(if i<n then some i.toNat else none) else if -(n:Int)<=i then some (i+n).toNat else none
noncomputable def atI{α:Type}(xs:List α)(i:Int):Option α:=(ixN xs.length i).bind fun j=>xs[j]?
def jmh{n:Nat}{i:Int}{j:Nat}(h:ixN n i=some j):seqIndex? i n=some j/\j<n/\-(n:Int)<=i/\i<n:=by
 unfold ixN at h;by_cases h0:0<=i
 .rw[iO h0] at h;by_cases h1:i<n
  .rw[iO h1] at h;have e:i.toNat=j:=vB h;exact⟨by rw[seqIndex_of h0 h1,e],↑∅,↑∅,h1⟩
  .rw[iN h1] at h;cases h
 .rw[iN h0] at h;by_cases h1: -(n:Int)<=i
  .rw[iO h1] at h;have e:(i+n).toNat=j:=vB h;exact⟨by rw[seqIndex_neg ↑∅ h1,e],↑∅,h1,↑∅⟩
  .rw[iN h1] at h;cases h
def jfs{α:Type}{xs:List α}{i:Int}{v:α}(h:atI xs i=some v):∃j,seqIndex? i xs.length=some j/\xs[j]?=some v/\j<xs.length/\-(xs.length:Int)<=i/\i<xs.length:=by
 unfold atI at h
 cases e:ixN xs.length i with
 |none=>rw[e] at h;cases h
 |some j=>
  rw[e] at h;obtain⟨h1,h2,h3,h4⟩:=jmh e;exact⟨j,h1,h,h2,h3,h4⟩
def qau{α:Type}{xs:List α}{j:Nat}{v:α}(h:xs[j]?=some v):atI xs (j:Int)=some v:=by
 have hj:j<xs.length:=(uH.mp h).1;have e:ixN xs.length (j:Int)=some j:=by
  unfold ixN;rw[iO ↑∅,iO ↑∅];simp
 unfold atI;rw[e];exact h
def jft(b:vT):Prop:=∀o i,subscripted b false o i=operate [o,i] (getItem o i)
def IxR(X:Cx)(r:R2):Prop:=
 ∀(value slice:vT)(pins:List (Addr×Obj))(s:uD)(σ:St)(H:Hp)(x y:V)(v u:uB)(Q:VK),Inv X pins σ H s->qbb x v->qbb y u->r x y H Q->
  subscripted slice false v u=operate [v,u] (getItem v u)->uM (uP X.prog X.w) X.A (subscriptTail value slice v u) (EP X pins σ Q) X.xe s
def MtR(X:Cx)(id:String)(r:V->List V->Hp->VK->Prop):Prop:=
 ∀(pins:List (Addr×Obj))(s:uD)(σ:St)(H:Hp)(x:V)(xs:List V)(v:uB)(us:List uB)(Q:VK),Inv X pins σ H s->qbb x v->qbk xs us->r x xs H Q->
  uM (uP X.prog X.w) X.A (call (.builtin id) (v::us)) (EP X pins σ Q) X.xe s
section
variable{X:Cx}{a b:vT}{ta tb:TE}{pos:Pos}
def qao{r:R2}(hr:IxR X r)(ha:PE X a ta)(hb:PE X b tb)(hs:jft b):PE X (.Subscript a b pos) (tOp r ta tb):=by
 intro pins s σ H Q I h;exact Subscript_ (jso ha hb I h fun v u s2 x y H2 I2 rx ry q=>hr a b pins s2 σ H2 x y v u Q I2 rx ry q (hs _ _))
noncomputable def joo(K:uY):R2:=fun x y H Q=>∃p xs i v,x=.ref p/\y=.int i/\SqL K H p xs/\atI xs i=some v/\Q v H
noncomputable def ju3:R2:=fun x y H Q=>∃z i c,x=.str z/\y=.int i/\z.length<=sizeLine/\atI z.cps.toList i=some c/\Q (.str ⟨#[c]⟩) H
def qab:IxR X (joo X.K):=by
 intro value slice pins s σ H x y v u Q I rx ry h hs;obtain⟨p,xs,i,z,rfl,rfl,hq,he,q⟩:=h
 cases rx
 obtain⟨t,rfl⟩:=ry;obtain⟨its,r,pl,hz⟩:=I.list hq;obtain⟨j,h1,h2,h3,h4,h5⟩:=jfs he;obtain⟨w,ew,rw'⟩:=r.get h2;have hl:=r.length;have hn:=jdm;have fin:EP X pins σ Q w s:=⟨z,H,I,rw',q⟩;by_cases h0:0<=i
 .have hj:i.toNat=j:=by
   rw[seqIndex_of h0 h5] at h1;exact vB h1
  exact item_listR pl.isList h0 ↑∅ (by rw[hj];simpa using ew) fin hs
 .have hj:(i+(its.toArray.size:Int)).toNat=j:=by
   rw[seqIndex_neg ↑∅ h4] at h1;rw[zN,<-hl];exact vB h1
  exact subscriptTail_builtinR (x:=w) pl.isList.typeIs slot_list_getitem.lookup
   (wpAny_getItem_list_neg (Q:=fun r s'=>r=w/\EP X pins σ Q r s') pl.isList ↑∅ (by rw[zN]<;>omega) ↑∅ (by rw[hj];simpa using ew) ⟨rfl,fin⟩) hs
def jki:IxR X ju3:=by
 intro value slice pins s σ H x y v u Q I rx ry h hs;obtain⟨z,i,c,rfl,rfl,hz,he,q⟩:=h;obtain⟨t,rfl⟩:=rx;obtain⟨t',rfl⟩:=ry;obtain⟨j,h1,h2,h3,h4,h5⟩:=jfs he;have hl:z.cps.toList.length=z.length:=by simp[Str.length]
 rw[hl] at h1 h4 h5;have hn:=jdm;exact tail_any (typeIs_str s z t) slot_str_getitem.lookup (getItem_str (c:=c) (by
  have e1:decide (i < -(2^63:Int))=false:=iQ ↑∅;have e2:decide (i≥2^63)=false:=iQ ↑∅;rw[e1,e2,Bool.or_false]) (by rw[h1];simpa using h2) ⟨.str ⟨#[c]⟩,H,I.tok _,⟨_,rfl⟩,q⟩) hs
def jbz(lo hi:Option Int)(n:Nat):(cI lo hi none n).1=((HT.sIx n 0 lo:Nat):Int)/\(cI lo hi none n).2.1=((HT.sIx n n hi:Nat):Int)/\(cI lo hi none n).2.2=1:=by
 refine⟨?_,?_,rfl⟩
 .cases lo with
  |none=>simp[cI,HT.sIx]
  |some i=>
   simp only[cI,HT.sIx,Option.getD_none,show(1:Int) > 0 by decide,if_true];by_cases h:i<0
   .simp only[h,if_true]<;>omega
   .simp only[h,if_false]<;>omega
 .cases hi with
  |none=>simp[cI,HT.sIx]
  |some i=>
   simp only[cI,HT.sIx,Option.getD_none,show(1:Int) > 0 by decide,if_true];by_cases h:i<0
   .simp only[h,if_true]<;>omega
   .simp only[h,if_false]<;>omega
def qgp(its:List uB)(lo hi:Option Int):slicePick its.toArray lo hi none=((its.drop (HT.sIx its.length 0 lo)).take (HT.sIx its.length its.length hi-HT.sIx its.length 0 lo)).toArray:=by
 obtain⟨h1,h2,h3⟩:=jbz lo hi its.toArray.size;unfold slicePick;rw[h1,h2,h3];simp only[sliceRange_one,pick_run,zN]<;>rfl
noncomputable def jv5(K:uY):V->Option Int->Option Int->Hp->VK->Prop:=fun x lo hi H Q=>∃a xs,x=.ref a/\SqL K H a xs/\∀p,H p=none->Q (.ref p) (upd H p (.lst (jon xs lo hi)))
def jmi:SlR X (jv5 X.K):=by
 intro pins s σ H x v vl vu lo hi sl Q I rx hs pl pu h;obtain⟨a,xs,rfl,hx,q⟩:=h
 cases rx
 obtain⟨its,r,ht,hz⟩:=I.list hx;have hlen:=r.length;refine⟨"list",_,slot_list_getitem.lookup,ht.isList.typeIs,?_⟩;refine wpAny_getItem_list_slice ht.isList hs pl pu .none (by simp) ?_ (by rw[zN]<;>omega);rw[qgp,<-hlen];refine⟨.ref ↑s,_,I.laid (t':=s.toks) (o:=.lst (jon xs lo hi)) (fun b ob q=>uF _ q) (uG _) ?_,rfl,q _ (I.hok.fresh (uG _))⟩;exact⟨wG (jcv xs lo hi) hz,_,0,(r.drop (HT.sIx xs.length 0 lo)).take (HT.sIx xs.length xs.length hi-HT.sIx xs.length 0 lo),uX _ rfl⟩
noncomputable def qd3:V->Bool
 | .non=>true
 | .bl _=>true
 | .int _=>true
 | .str _=>true
 |_=>false
noncomputable def eqV:V->V->Bool
 | .non,.non=>true
 | .bl a,.bl b=>a==b
 | .bl a,.int b=>(if a then 1 else 0)==b
 | .int a,.bl b=>a==(if b then 1 else 0)
 | .int a,.int b=>a==b
 | .str a,.str b=>a==b
 |_,_=>false
def jfu{A:vI}{s:uD}{y x:V}{u v:uB}(ry:qbb y u)(rx:qbb x v)(fy:qd3 y=true)(fx:qd3 x=true):cQ A s u v (eqV y x):=by
 cases y with
 |non=>
  cases ry
  cases x with
  |non=>cases rx;exact bG _
  |bl b=>cases rx;exact SeqAt.EqAt.none_bool b
  |int b=>obtain⟨t,rfl⟩:=rx;exact SeqAt.EqAt.none_int b t
  |str b=>obtain⟨t,rfl⟩:=rx;exact SeqAt.EqAt.none_str b t
  |_=>exact absurd (show false=true from fx) uL
 |bl a=>
  cases ry
  cases x with
  |non=>cases rx;exact SeqAt.EqAt.bool_none a
  |bl b=>cases rx;exact SeqAt.EqAt.bool_bool a b
  |int b=>obtain⟨t,rfl⟩:=rx;exact SeqAt.EqAt.bool_int a b t
  |str b=>obtain⟨t,rfl⟩:=rx;exact SeqAt.EqAt.bool_str a b t
  |_=>exact absurd (show false=true from fx) uL
 |int a=>
  obtain⟨t',rfl⟩:=ry
  cases x with
  |non=>cases rx;exact SeqAt.EqAt.int_none a t'
  |bl b=>cases rx;exact SeqAt.EqAt.int_bool a t' b
  |int b=>obtain⟨t,rfl⟩:=rx;exact SeqAt.EqAt.int_int a t' b t
  |str b=>obtain⟨t,rfl⟩:=rx;exact gA a t' b t
  |_=>exact absurd (show false=true from fx) uL
 |str a=>
  obtain⟨t',rfl⟩:=ry
  cases x with
  |non=>cases rx;exact fO a t'
  |bl b=>cases rx;exact fP a t' b
  |int b=>obtain⟨t,rfl⟩:=rx;exact cO a t' b t
  |str b=>obtain⟨t,rfl⟩:=rx;exact gK a t' b t
  |_=>exact absurd (show false=true from fx) uL
 |_=>exact absurd (show false=true from fy) uL
noncomputable def eqU(x:V)(u:uB):Bool:=match u with
 | .none=>eqV .non x
 | .bool b=>eqV (.bl b) x
 | .int i _=>eqV (.int i) x
 | .str z _=>eqV (.str z) x
 |_=>false
def jkj{x y:V}{u:uB}(r:qbb y u)(f:qd3 y=true):eqU x u=eqV y x:=by
 cases y with
 |non=>cases r;rfl
 |bl b=>cases r;rfl
 |int i=>obtain⟨t,rfl⟩:=r;rfl
 |str z=>obtain⟨t,rfl⟩:=r;rfl
 |_=>exact absurd (show false=true from f) uL
theorem qfr{x:V}:∀{xs:List V} {us:List uB},qbk xs us->xs.all qd3=true->us.any (eqU x)=xs.any fun y=>eqV y x
 |_,_,.nil,_=>rfl
 |y::xs,u::us,.cons r t,f=>by
  rw[yT,vP] at f;rw[yU,yU,jkj r f.1,qfr t f.2]
theorem qee{A:vI}{s:uD}{x:V}{v:uB}(rx:qbb x v)(fx:qd3 x=true):∀{xs:List V} {us:List uB},qbk xs us->xs.all qd3=true->∀u∈us,cQ A s u v (eqU x u)
 |_,_,.nil,_=>fun u hu=>by cases hu
 |y::xs,u::us,.cons r t,f=>fun u' hu=>by
  rw[yT,vP] at f;rcases zP.mp hu with rfl|hu
  .rw[jkj r f.1];exact jfu r rx f.1 fx
  .exact qee rx fx t f.2 u' hu
noncomputable def inV(x:V)(xs:List V):Bool:=xs.any fun y=>eqV y x
noncomputable def rIn(K:uY)(neg:Bool):R2:=fun x y H Q=>∃p xs,y=.ref p/\(SqL K H p xs\/SqT K H p xs)/\qd3 x=true/\xs.all qd3=true/\Q (.bl (if neg then !inV x xs else inV x xs)) H
def jb0:OpR X (wA .In) (rIn X.K false):=by
 intro pins s σ H x y v u Q I rx ry h;obtain⟨p,xs,rfl,hq,fx,fs,q⟩:=h
 cases ry
 rcases hq with hq|hq
 .obtain⟨its,r,pl,hz⟩:=I.list hq;refine SeqAt.in_listAt (eqU x) pl.isList (fun w hw=>qee rx fx r fs w (by simpa using hw)) ⟨.bl _,H,I,rfl,?_⟩;rw[show its.toArray.any (eqU x)=its.any (eqU x) by simp,qfr r fs];exact q
 .obtain⟨its,r,pl,hz⟩:=I.tuple hq;refine SeqAt.in_tupleAt (eqU x) pl (fun w hw=>qee rx fx r fs w (by simpa using hw)) ⟨.bl _,H,I,rfl,?_⟩;rw[show its.toArray.any (eqU x)=its.any (eqU x) by simp,qfr r fs];exact q
def qey:OpR X (wA .NotIn) (rIn X.K true):=by
 intro pins s σ H x y v u Q I rx ry h;obtain⟨p,xs,rfl,hq,fx,fs,q⟩:=h
 cases ry
 rcases hq with hq|hq
 .obtain⟨its,r,pl,hz⟩:=I.list hq;refine SeqAt.notIn_listAt (eqU x) pl.isList (fun w hw=>qee rx fx r fs w (by simpa using hw)) ⟨.bl _,H,I,rfl,?_⟩;rw[show its.toArray.any (eqU x)=its.any (eqU x) by simp,qfr r fs];exact q
 .obtain⟨its,r,pl,hz⟩:=I.tuple hq;refine SeqAt.notIn_tupleAt (eqU x) pl (fun w hw=>qee rx fx r fs w (by simpa using hw)) ⟨.bl _,H,I,rfl,?_⟩;rw[show its.toArray.any (eqU x)=its.any (eqU x) by simp,qfr r fs];exact q
def jb1:OpR X (wA .NotIn) (fun x y H Q=>∃i j,x=.str i/\y=.str j/\Q (.bl (!(!(xZ j i 0 j.length 1).isEmpty))) H):=by
 intro pins s σ H x y v u Q I rx ry h;obtain⟨i,j,rfl,rfl,q⟩:=h;obtain⟨t,rfl⟩:=rx;obtain⟨t',rfl⟩:=ry;exact notIn_str ⟨.bl _,H,I,rfl,q⟩
def jb2:qcc X (.builtin "len") (fun xs H Q=>∃p ys,xs=[.ref p]/\(SqL X.K H p ys\/SqT X.K H p ys)/\Q (.int ys.length) H):=by
 intro pins s σ H xs us Q I r h;obtain⟨p,ys,rfl,hq,q⟩:=h;obtain⟨u,rfl,rx⟩:=ji1 r
 cases rx
 have hn:=jdm;rcases hq with hq|hq
 .obtain⟨its,r',pl,hz⟩:=I.list hq;have hlen:=r'.length;exact Calls.call_len_list pl.isList (by simp only[zN]<;>omega) ⟨.int ys.length,H,I.tok _,⟨s.toks+1,by rw[zN,hlen]⟩,q⟩
 .obtain⟨its,r',pl,hz⟩:=I.tuple hq;have hlen:=r'.length;exact len_tuple pl (by simp only[zN]<;>omega) ⟨.int ys.length,H,I.tok _,⟨s.toks+1,by rw[zN,hlen]⟩,q⟩
def jb3:qcc X (.builtin "len") (fun xs H Q=>∃z,xs=[.str z]/\z.length<=sizeLine/\Q (.int z.length) H):=by
 intro pins s σ H xs us Q I r h;obtain⟨z,rfl,hz,q⟩:=h;obtain⟨u,rfl,t,rfl⟩:=ji1 r;have hn:=jdm;exact len_str ↑∅ ⟨.int z.length,H,I.tok _,⟨_,rfl⟩,q⟩
def jb4:qcc X (.type "list") (fun xs H Q=>∃p ys,xs=[.ref p]/\(SqL X.K H p ys\/SqT X.K H p ys)/\∀l,H l=none->Q (.ref l) (upd H l (.lst ys))):=by
 intro pins s σ H xs us Q I r h;obtain⟨p,ys,rfl,hq,q⟩:=h;obtain⟨u,rfl,rx⟩:=ji1 r
 cases rx
 have fin:∀(its:List uB),qbk ys its->ys.length<=sizeLine->∀(h':vS)(c':Nat),(∀b o',s.heap.get? b=some o'->h'.get? b=some o')->
   h'.get? ↑s=some {cls:=.type "list",dict:=none,data:=.seq its.toArray c',slots:=#[]}->EP X pins σ Q (.ref ↑s) {s with heap:=h'}:=fun its r' hz h' c' kp e=>
  ⟨.ref ↑s,_,I.laid (t':=s.toks) kp (uG _) (show qbg X.prog X.w _ h' _ (.lst ys) from⟨hz,its,c',r',e⟩),rfl,q _ (I.hok.fresh (uG _))⟩
 rcases hq with hq|hq
 .obtain⟨its,r',pl,hz⟩:=I.list hq;have hlen:=r'.length;obtain⟨o,ho,hc,n,hd⟩:=pl.isList;exact call_list_seq p (.inl rfl) ho hc hd (fun h' c' kp e=>fin its r' hz h' c' kp e) (by simp only[zN]<;>omega)
 .obtain⟨its,r',pl,hz⟩:=I.tuple hq;have hlen:=r'.length;obtain⟨o,ho,hc,n,hd⟩:=pl;exact call_list_seq p (.inr rfl) ho hc hd (fun h' c' kp e=>fin its r' hz h' c' kp e) (by simp only[zN]<;>omega)
def tyV(K:uY)(T:String)(x:V)(H:Hp):Prop:=match x with
 | .str _=>T= "str"
 | .int _=>T= "int"
 | .ref p=>(T= "list"/\∃xs,SqL K H p xs)\/(T= "tuple"/\∃o,K.lookup p=some o/\o.cls=.type "tuple"/\o.dict=none)\/
   (T= "dict"/\((∃kvs,H p=some (.dK kvs))\/∃kvs,H p=some (.dT kvs)))\/(T= "set"/\∃S n,H p=some (.set S n))
 |_=>False
def jkk{pins:List (Addr×Obj)}{σ:St}{H:Hp}{s:uD}{T:String}{x:V}{v:uB}(I:Inv X pins σ H s)(r:qbb x v)(ty:tyV X.K T x H):
  s.TypeIs v T/\∀a,v=.ref a->∃ob,s.heap.get? a=some ob/\ob.dict=none:=by
 cases x with
 |str z=>
  obtain⟨t,rfl⟩:=r
  cases(show T= "str" from ty)
  exact⟨typeIs_str s z t,fun _ e=>nomatch e⟩
 |int i=>
  obtain⟨t,rfl⟩:=r
  cases(show T= "int" from ty)
  exact⟨typeIs_int s i t,fun _ e=>nomatch e⟩
 |ref p=>
  cases r
  rcases ty with⟨rfl,xs,hq⟩|⟨rfl,o,hk,hc,hd⟩|⟨rfl,hk⟩|⟨rfl,S,n,hk⟩
  .obtain⟨its,_,pl,_⟩:=I.list hq;refine⟨pl.isList.typeIs,fun a e=>?_⟩
   cases e
   obtain⟨o,n,e,c,hd,_⟩:=pl;exact⟨o,e,hd⟩
  .refine⟨⟨o,I.kIn p o hk,hc⟩,fun a e=>?_⟩
   cases e
   exact⟨o,I.kIn _ o hk,hd⟩
  .have z:∃o,s.heap.get? p=some o/\o.ExactDict:=by
    rcases hk with⟨kvs,hk⟩|⟨kvs,hk⟩
    .obtain⟨_,_,_,_,o,_,_,e,ex,_⟩:=I.hok p _ hk;exact⟨o,e,ex⟩
    .obtain⟨_,_,_,_,o,_,_,e,ex,_⟩:=I.hok p _ hk;exact⟨o,e,ex⟩
   obtain⟨o,e,ex⟩:=z;refine⟨⟨o,e,ex.1⟩,fun a e2=>?_⟩
   cases e2
   exact⟨o,e,ex.2.1⟩
  .obtain⟨o,_,_,_,e,ex,_⟩:=I.hok p _ hk;refine⟨⟨o,e,ex.1⟩,fun a e2=>?_⟩
   cases e2
   exact⟨o,e,ex.2.1⟩
 |_=>exact vU ty
noncomputable def ju4(K:uY)(T:String)(r:V->List V->Hp->VK->Prop)(to:TE):TE:=fun σ H Q=>to σ H fun x H1=>tyV K T x H1/\r x [] H1 Q
noncomputable def tBM(K:uY)(T:String)(r:V->List V->Hp->VK->Prop)(to:TE)(t:TA):TE:=fun σ H Q=>to σ H fun x H1=>tyV K T x H1/\t σ H1 fun xs H2=>r x xs H2 Q
variable{o e:vT}{es:List vT}{to:TE}{t:TA}{name:Str}{apos cpos:Pos}{T id:String}{r:V->List V->Hp->VK->Prop}
def jdp(pa:PlainAttrs T)(slot:Slot T name id)(hty:typeOf (.builtin id)=pure (.type "method_descriptor"))(hm:MtR X id r)(ho:PE X o to)
  (hbase:autoParam (bE o name X.env (wQ o X.env)=wQ o X.env) auR)(hline:autoParam ((apos.endLine==cpos.line)=true) auR):PE X (.Call (.Attribute o name apos) [] [] cpos) (ju4 X.K T r to):=by
 intro pins s σ H Q I h;refine wpAny_Call_method0_late hbase hline (thn (ho pins s σ H _ I h) fun v s1 h9=>?_);obtain⟨x,H1,I1,r1,ty,q1⟩:=h9;obtain⟨h1,h2⟩:=jkk I1 r1 ty;exact⟨T,id,pa,slot,hty,h1,h2,bS rfl (PySem.evalArgs_none (hm pins s1 σ H1 x [] v [] Q I1 r1 .nil q1))⟩
def qdb(pa:PlainAttrs T)(slot:Slot T name id)(hty:typeOf (.builtin id)=pure (.type "method_descriptor"))(hm:MtR X id r)(ho:PE X o to)(ha:PA X (e::es) t)
  (hbase:autoParam (bE o name X.env (wQ o X.env)=wQ o X.env) auR)
  (hfew:autoParam (((wW cpos (vF (e::es) X.env)).all (fun x=>!x.1) && (fF cpos (cH [] X.env)).all (fun x=>x.1.isSome)
   && decide ((e::es).length+([]:List Keyword).length+(if([]:List Keyword).isEmpty then 0 else 1)<30))=true) auR)
  (hline:autoParam ((apos.endLine==cpos.line)=true) auR) (hs:autoParam (vF (e::es) X.env=(false,wQ e X.env)::vF es X.env) auR) (hplain:autoParam ((wW cpos (vF es X.env)).any (·.1)=false) auR):
  PE X (.Call (.Attribute o name apos) (e::es) [] cpos) (tBM X.K T r to t):=by
 intro pins s σ H Q I h;refine wpAny_Call_method_late hbase hfew hline rfl (thn (ho pins s σ H _ I h) fun v s1 h9=>?_);obtain⟨x,H1,I1,r1,ty,q1⟩:=h9;obtain⟨h1,h2⟩:=jkk I1 r1 ty;refine⟨T,id,pa,slot,hty,h1,h2,?_⟩;have hA:=ha cpos pins s1 σ H1 _ I1 q1;rw[hs] at hA⊢;refine bS (by show(false ||(wW cpos (vF es X.env)).any (·.1))=false;rw[hplain]<;>rfl) (aQ ?_);exact thn hA fun us s2 ⟨vs,H2,I2,r2,q2⟩=>hm pins s2 σ H2 x vs v us Q I2 r1 r2 q2
end
def MtM(X:Cx)(id:String)(r:V->List V->Hp->VK->Prop):Prop:=
 ∀(pins:List (Addr×Obj))(s:uD)(σ:St)(H:Hp)(x:V)(xs:List V)(v:uB)(us:List uB)(Q:VK),Inv X pins σ H s->qbb x v->qbk xs us->r x xs H Q->
  uM (uP X.prog X.w) X.A (call (.builtin id) (v::us)) (EP X pins σ Q) X.xe s
def qbk.one:∀{x:V} {us:List uB},qbk [x] us->∃u,us=[u]/\qbb x u
 |_,_,.cons r .nil=>⟨_,rfl,r⟩
def qbk.zero:∀{us:List uB},qbk [] us->us=[]
 |_,.nil=>rfl
section
variable{X:Cx}{pins:List (Addr×Obj)}{σ:St}{H:Hp}{s:uD}{l:Addr}{xs ys:List V}
def Inv.lset{its its':List uB}{n:Nat}{f:Array uB->Array uB}{t':Nat}(I:Inv X pins σ H s)(hH:H l=some (.lst xs))
  (e:s.heap.get? l=some {cls:=.type "list",data:=.seq its.toArray n})(hf:f its.toArray=its'.toArray)(hv:qbk ys its')(hz:ys.length<=sizeLine):
  Inv X pins σ (upd H l (.lst ys)) {s with heap:=s.heap.update l (Obj.mapSeq f),toks:=t'}:=by
 have q:=PySem.IsL.update e f;rw[hf] at q;refine I.write (x:=l) (e:=l) (by rw[hH];exact trivial) (.inl rfl) (fun b' u hb hu=>(wM s.heap (Obj.mapSeq f) (xB hb)).trans hu) ⟨_,q⟩ ?_;exact⟨hz,its',_,hv,q⟩
def Inv.lnew{its:List uB}{t':Nat}(I:Inv X pins σ H s)(hv:qbk ys its)(hz:ys.length<=sizeLine):
  Inv X pins σ (upd H ↑s (.lst ys)) {s with heap:=s.heap.push {cls:=.type "list",data:=.seq its.toArray},toks:=t'}:=
 I.laid (fun _ _ q=>uF _ q) (uG _) ⟨hz,its,0,hv,uX _ rfl⟩
theorem Inv.fresh(I:Inv X pins σ H s):H ↑s=none:=I.hok.fresh (uG _)
def Inv.lstM(I:Inv X pins σ H s)(hH:H l=some (.lst xs)):xs.length<=sizeLine/\∃(its:List uB)(n:Nat),qbk xs its/\xs.length=its.length/\s.heap.get? l=some {cls:=.type "list",data:=.seq its.toArray n}:=by
 obtain⟨z,its,n,r,e⟩:=I.hok l _ hH;exact⟨z,its,n,r,r.length,e⟩
def ji7{n:Nat}(h:n<=sizeLine):dD n=false:=by
 unfold dD;exact iQ ↑∅
end
section
variable{X:Cx}
noncomputable def jfv:V->List V->Hp->VK->Prop:=fun x vs H Q=>∃l xs y,x=.ref l/\vs=[y]/\H l=some (.lst xs)/\xs.length<sizeLine/\Q .non (upd H l (.lst (xs++[y])))
def qba:MtM X "list.append" jfv:=by
 intro pins s σ H x vs v us Q I rx rv h;obtain⟨l,xs,y,rfl,rfl,hH,hz,q⟩:=h
 cases rx
 obtain⟨u,rfl,ru⟩:=rv.one;obtain⟨z,its,n,r,hl,e⟩:=I.lstM hH;refine call_meets F.slot_list_append ⟨_,e,rfl⟩ F.entry_list_append (F.args_list_append_2 _ _) (PySem.list_append l its.toArray n u (by rw[zN];omega)) ⟨e,?_⟩;refine⟨.non,_,I.lset (its':=its++[u]) hH e (by simp) (r.append (.cons ru .nil)) ?_,rfl,q⟩;rw[zH,yA];omega
noncomputable def jfw:V->List V->Hp->VK->Prop:=fun x vs H Q=>∃l b xs zs,x=.ref l/\vs=[.ref b]/\H l=some (.lst xs)/\H b=some (.lst zs)/\xs.length+zs.length<=sizeLine/\Q .non (upd H l (.lst (xs++zs)))
def jfx:MtM X "list.extend" jfw:=by
 intro pins s σ H x vs v us Q I rx rv h;obtain⟨l,b,xs,zs,rfl,rfl,hH,hB,hz,q⟩:=h
 cases rx
 obtain⟨u,rfl,ru⟩:=rv.one
 cases ru
 obtain⟨z,its,n,r,hl,e⟩:=I.lstM hH;obtain⟨z2,its2,n2,r2,hl2,e2⟩:=I.lstM hB;have hsz:its.toArray.size+its2.toArray.size<=sizeLine:=by rw[zN,zN];omega
 have hlong:¬(!its.toArray.isEmpty && dD (its.toArray.size+its2.toArray.size))=true:=by
  rw[ji7 hsz,aR];exact uL
 refine call_meets F.slot_list_extend ⟨_,e,rfl⟩ F.entry_list_extend (F.args_list_extend_2 _ _)
  (AutoSeq1.list_extend_list_list_0 l its.toArray n b its2.toArray n2 hlong (by rw[zN];omega) ↑∅) ⟨e,e2,?_⟩
 refine⟨.non,_,I.lset (its':=its++its2) hH e (by simp) (r.append r2) ?_,rfl,q⟩;rw[zH];omega
noncomputable def ju5:R2:=fun x y H Q=>∃l b xs zs,x=.ref l/\y=.ref b/\H l=some (.lst xs)/\H b=some (.lst zs)/\xs.length+zs.length<=sizeLine/\∀p,H p=none->Q (.ref p) (upd H p (.lst (xs++zs)))
def qed:OpR X (bD .Add) ju5:=by
 intro pins s σ H x y v u Q I rx ry h;obtain⟨l,b,xs,zs,rfl,rfl,hH,hB,hz,q⟩:=h
 cases rx
 cases ry
 obtain⟨z,its,n,r,hl,e⟩:=I.lstM hH;obtain⟨z2,its2,n2,r2,hl2,e2⟩:=I.lstM hB;refine PySem.P.add_list e e2 ?_ (by rw[zN,zN];omega);have ea:its.toArray++its2.toArray=(its++its2).toArray:=by simp
 rw[ea];exact⟨.ref _,_,I.lnew (t':=s.toks) (r.append r2) (by rw[zH];omega),rfl,q _ I.fresh⟩
end
end L2
namespace Att
open PySem PySem.W PySem.Calls PyProof.Rows
def qfm{P:Params}{h:vS}:∀(ns:List Int)(vs:List uB),WellAll P h vs (ns.map WData.int)->IntsAre vs ns:=by
 intro ns
 induction ns with
 |nil=>
  intro vs w;rw[dS] at w
  cases w
  exact .nil
 |cons n ns ih=>
  intro vs w;rw[zS] at w
  cases w with
  |cons a b=>
   cases a
   exact .cons _ _ (ih _ b)
def jfy{l:OpenLaw}{n:Nat}(hn:l.most=some n){P:Params}{h:vS}{args:List WData}{vals:List uB}
  (hpre:l.row.toRowW.claim.pre args=true)(hwl:WellAll P h vals args):
  ∃a vs ns,vals=[uS a]/\args=[WData.list (ns.map WData.int)]/\h.get? a=some {cls:=.type "list",data:=.seq vs.toArray}/\IntsAre vs ns/\ns.length<=n:=by
 have hsh:WShape.hasAll [] args [.list .int]=true:=(pre_splitW hpre).1;have hc:l.pre.holds [] {args:=args}=true:=(pre_splitW hpre).2;obtain⟨d,r,rfl,h1,h2⟩:=hasAllW_cons hsh;obtain rfl:=hasAllW_nil h2;obtain⟨xs,rfl,h3⟩:=hasW_list h1;obtain⟨ns,rfl⟩:=items_int h3;have hlen:ns.length<=n:=by
  unfold OpenLaw.pre at hc;have h4:(WTm.not (.lt (.lit (.int (n:Int))) (.len (.arg 0)))).holds [] {args:=[.list (ns.map .int)]}=true:=by
   have h4:=(holds_andW hc).1;rw[hn] at h4;exact h4
  have h5:=condW_of h4 (w_not (w_lt w_lit (w_len_list (w_arg rfl))));rw[zB] at h5;refine aU fun q=>?_;have q':(n:Int) <((ns.length:Nat):Int):=by omega
  first
   |(rw[iP q'] at h5;exact absurd h5 ∅)
   |(simp at h5;omega)
 cases hwl with
 |cons w1 w2=>
  cases w2
  cases w1 with
  |list ho hall=>exact⟨_,_,ns,rfl,rfl,ho,qfm ns _ hall,hlen⟩
def jfz(l:OpenLaw)(args:List WData):l.row.toRowW.claim.post args (.bool true) args=true:=
 postW_of (r:=l.row.toRowW) (X:=(true==true))
  (show WShape.has [] (.bool true) .bool=true by first|rfl|decide|simp[WShape.has,WShape.arms,WShape.armsAll])
  (show(WTm.eq .res (.lit (.bool true))).value [] {args:=args,res:=some (.bool true),after:=args}=some (.bool (true==true)) from w_eq_bool (w_res rfl) w_lit) rfl
def attach_call{l:OpenLaw}{n:Nat}{q:uI}{loose:List Str}{XP:(Str->Option uB)->vS->Prop}{YP:vA->vS->Prop}{d:DefRec}
  (hn:l.most=some n)(hdf:d.params.defaults=[])
  (call:∀(w:vA)(s₀ s₁:uD)(mg mb:Str->Option uB)(fa:Addr)(o:Obj)(pm cd doc:uB)(a:Addr)(vs:List uB)(ns:List Int),
   Ground q loose [] XP w s₀ mg mb s₁.heap->YP w s₁.heap->
   s₁.heap.get? fa=some o->o.data=.func (docDef d.name d.params d.body d.scope pm cd doc)->s₁.heap.CodeRec cd d.name->mg d.name=some (.ref fa)->
   s₁.heap.get? a=some {cls:=.type "list",data:=.seq vs.toArray}->IntsAre vs ns->ns.length<=n->s₁.gens= #[]->
   aT (uP l.prog w) gW (.call (.ref fa) ⟨[.ref a],[]⟩) (fun r s'=>r=.ok (.ret (.bool true))/\OldK s₁.heap s'.heap/\s'.os=s₁.os/\cT s'.gens) s₁):
  WalkO q loose XP YP l.row.toRowW d [] (fun f vs=>PySem.call f vs):=by
 intro w s₀ s₁ mg mb G Y fa o pm cd doc dV kV ho hd hcd hD hmg hg args vals as hpre hlay hrd hwl hlo;obtain rfl:dV=.none:=Dflts.none hD hdf;obtain rfl:kV=.none:=Dflts.noKw hD;obtain⟨a,vs,ns,rfl,rfl,hobj,hints,hlen⟩:=jfy hn hpre hwl;refine enter_call (xU (call w s₀ s₁ mg mb fa o pm cd doc a vs ns G Y ho (fd_plain hd) hcd hmg hobj hints hlen hg) fun r s' hq=>?_);obtain⟨rfl,h2,h3,h4⟩:=hq;exact⟨.inl ⟨.bool true,.bool true,[],rfl,fun _=>rfl,.bool true,jfz l _,fun _=>⟨List.Pairwise.nil,fun _ hm=>(nomatch hm)⟩⟩,h2,h3,h4⟩
end Att
namespace L2
open PySem PySem.Spec PyProof.Rows
theorem jb5:∀{vs:List uB} {ns:List Int},IntsAre vs ns->qbk (ns.map V.int) vs
 |_,_,.nil=> .nil
 |_,_,.cons n t h=> .cons ⟨t,rfl⟩ (jb5 h)
def jsr(H:Hp):Prop:=∀b,H b=none\/∃o xs,H b=some (.frz o (.lst xs))
def ji8{P:uI}{w:vA}{K:uY}{mg mb:Str->Option uB}{CX:CXT}{k:Nat}{fa a:Addr}{fd:uT}{x:Str}{sp:Sp}{s₁:uD}{vs:List uB}{ns:List Int}
  (KX:K.In s₁.heap)(hns:s₁.heap.Ns vD mg)(hb:s₁.heap.Ns builtinsNs mb)(hbb:∀x:Str,x≠"__name__"->mb x=bO x)(hlim:s₁.heap.NoLimit)(hg:s₁.gens= #[])
  (ha:s₁.heap.get? a=some {cls:=.type "list",data:=.seq vs.toArray})(hi:IntsAre vs ns)(hl:ns.length<=sizeLine)(hr:jar k gW)
  (F:∀base:vS,K.In base->base.Ns vD mg->jab P w K mg base CX k fa fd [x] sp)(hbind:∀(s:uD)(u:uB),dQ s fd ⟨[u],[]⟩ [(x,u)])
  (hsp:∀H:Hp,jsr H->SqL K H a (ns.map V.int)->sp [.ref a] H (fun v _=>v=.bl true) fun _ _ _=>False)
  (hCX:∀H e s',CX [] H s₁ (fun _ _ _=>False) e s'->False):
  aT (uP P w) gW (.call (.ref fa) ⟨[.ref a],[]⟩) (fun r s'=>r=.ok (.ret (.bool true))/\OldK s₁.heap s'.heap/\s'.os=s₁.os/\cT s'.gens) s₁:=by
 have rv:=jb5 hi;have lenV:=hi.length;have core:∀H:Hp,jsr H->SqL K H a (ns.map V.int)->HOk P w H s₁.heap->(∀b,H b≠none->b=a)->(H a≠none->K.lookup a=none)->
   aT (uP P w) gW (.call (.ref fa) ⟨[.ref a],[]⟩) (fun r s'=>r=.ok (.ret (.bool true))/\OldK s₁.heap s'.heap/\s'.os=s₁.os/\cT s'.gens) s₁:=by
  intro H hO hS hok hA hK;have base_of:∀{b:Addr} {o:Obj},s₁.heap.get? b=some o->H b=none->(jiv s₁.heap H).get? b=some o:=fun e n=>jiw e n;have noA:∀{b:Addr} {o:Obj} {es:Array xL} {ep:Nat},s₁.heap.get? b=some o->o.data=.dict es ep->H b=none:=fun {b o es ep} e d=>by
   cases q:H b with
   |none=>rfl
   |some u=>
    have e':b=a:=hA b (by rw[q];simp);subst e';rw[ha] at e;cases e;have d':Data.seq vs.toArray _=Data.dict es ep:=d
    cases d'
  have nsK:∀{b:Addr} {m:Str->Option uB},s₁.heap.Ns b m->(jiv s₁.heap H).Ns b m:=fun {b m} ⟨o,es,ep,e,d,r⟩=>⟨o,es,ep,base_of e (noA e d),d,r⟩;have hKb:K.In (jiv s₁.heap H):=fun b o e=>base_of (KX b o e) (by
   cases q:H b with
   |none=>rfl
   |some u=>
    have e':b=a:=hA b (by rw[q];simp);subst e';rw[hK (by rw[q];simp)] at e;cases e)
  have hM:Mod K mg (jiv s₁.heap H):=⟨hKb,nsK hns,⟨mb,nsK hb,hbb⟩,let ⟨mc,h1,h2⟩:=hlim;⟨mc,nsK h1,h2⟩⟩;have e0:ji3 P w K mg (jiv s₁.heap H) gW [] s₁ H:=⟨rfl,hM,fun b o e=>jl2 e,Nat.le_of_eq (jfa _ _),trivial,fun b hb=>absurd (show b∈([]:List Addr) from hb) (by simp),hok,.of_eq hg⟩;refine xU ((F _ hKb (nsK hns)).run gW [] s₁ H ⟨[.ref a],[]⟩ [.ref a] [.ref a] _ _ hr e0 (hbind s₁ (.ref a)) (.cons rfl .nil) (hsp H hO hS)) fun r s' h=>?_
  cases r with
  |error e=>exact(hCX H e s' h).elim
  |ok fl=>
   cases fl with
   |next=>exact vU h
   |brk=>exact vU h
   |cont=>exact vU h
   |ret u=>
    obtain⟨v,H',os,bare,un,hok',r',q⟩:=h;have q':v=.bl true:=q;subst q';obtain rfl:u=gC true:=r';refine⟨rfl,OldK.of_keep fun b o e=>?_,os,bare⟩
    cases q:H b with
    |none=>exact un.keep b o e q (by intro z;exact absurd (show b∈([]:List Addr) from z) (by simp)) (by simp)
    |some u=>
     rcases hO b with z|⟨ob,xs,z⟩
     .rw[q] at z;cases z
     .have z2:=un.frzs b ob _ z;obtain⟨e1,_⟩:=hok b _ z;obtain⟨e2,_⟩:=hok' b _ z2;rw[e] at e1;cases e1;exact e2
 cases hk:K.lookup a with
 |some o=>
  have e:=KX a o hk;rw[ha] at e
  cases e
  refine core (fun _=>none) (fun _=> .inl rfl) (.inr ⟨_,vs.toArray,_,hk,rfl,rfl,rfl,by rw[zN,lenV];exact hl,by simpa using rv⟩) (fun b u z=>by have z':(none:Option HO)=some u:=z;cases z') (fun b z=>absurd rfl z) fun z=>absurd rfl z
 |none=>
  refine core (fun b=>if b=a then some (.frz {cls:=.type "list",data:=.seq vs.toArray} (.lst (ns.map V.int))) else none) (fun b=>?_) (.inl (.inr ⟨{cls:=.type "list",data:=.seq vs.toArray},iO rfl⟩)) (fun b u z=>?_) (fun b z=>?_) fun _=>hk
  .by_cases hb:b=a
   .exact .inr ⟨_,_,iO hb⟩
   .exact .inl (iN hb)
  .by_cases hb:b=a
   .have z':=(iO hb).symm.trans z
    cases z'
    subst hb;exact⟨ha,by rw[zB];exact hl,vs,_,rv,ha⟩
   .have z':=(iN hb).symm.trans z
    cases z'
  .by_cases hb:b=a
   .exact hb
   .exact absurd (iN hb) z
def walk_of{l:PySem.W.OpenLaw}{n k:Nat}{q:uI}{loose:List Str}{XP:(Str->Option uB)->vS->Prop}{YP:vA->vS->Prop}{d:DefRec}{K:Params->uY}{CX:vA->CXT}{sp:vA->Sp}{x:Str}
  (hn:l.most=some n)(hn2:n<=sizeLine)(hdf:d.params.defaults=[])(hr:jar k gW)
  (hY:∀(w:vA)(h:vS),YP w h->(K w.params).In h)
  (F:∀(w:vA)(mg:Str->Option uB)(fa:Addr)(h:vS),(K w.params).In h->h.Ns vD mg->mg d.name=some (.ref fa)->
   ∃fd:uT,(∀(s:uD)(u:uB),dQ s fd ⟨[u],[]⟩ [(x,u)])/\
    ∀base:vS,(K w.params).In base->base.Ns vD mg->jab l.prog w (K w.params) mg base (CX w) k fa fd [x] (sp w))
  (hsp:∀(w:vA)(H:Hp)(a:Addr)(ns:List Int),ns.length<=n->jsr H->SqL (K w.params) H a (ns.map V.int)->sp w [.ref a] H (fun v _=>v=.bl true) fun _ _ _=>False)
  (hCX:∀(w:vA)(H:Hp)(s:uD)(e:uB)(s':uD),CX w [] H s (fun _ _ _=>False) e s'->False):
  PySem.W.WalkO q loose XP YP l.row.toRowW d [] (fun f vs=>PySem.call f vs):=by
 refine Att.attach_call hn hdf fun w s₀ s₁ mg mb fa o pm cd doc a vs ns G Y ho hd hcd hmg hobj hints hlen hg=>?_;have KX:=hY w _ Y;obtain⟨fd,hb,hF⟩:=F w mg fa _ KX G.T.g hmg;exact ji8 KX G.T.g G.T.b G.T.builtins G.T.nolimit hg hobj hints (wG hlen hn2) hr hF hb (fun H hO hS=>hsp w H a ns hlen hO hS) fun H e s'=>hCX w H s₁ e s'
noncomputable def qcl(s:Stmt):dL:=match s with
 | .FunctionDef _ a _ _ _ _ _ _ _ _=>a
 |_=>{posonlyargs:=[],args:=[],vararg:=none,kwonlyargs:=[],kw_defaults:=[],kwarg:=none,defaults:=[]}
noncomputable def qbz(s:Stmt):List Stmt:=match s with
 | .FunctionDef _ _ b _ _ _ _ _ _ _=>b
 |_=> []
noncomputable def qaa(s:Stmt):bJ:=match s with
 | .FunctionDef _ _ _ _ _ _ sc _ _ _=>sc
 |_=>{kind:=.function,names:=[],isGenerator:=false,isCoroutine:=false}
abbrev CX0:CXT:=fun _ _ _ _ _ _=>False
abbrev E0:XK:=fun _ _ _=>False
def qaz{X:Cx}:qft CX0 X E0:=fun _ _ _ _ _ _ _ h=>h.elim
structure Fun(K:uY)(x qual:Str)(st:Stmt)(f:Addr)(fd:uT):Prop where
 ex:∃(oc:uB)(od:Option Addr)(kV doc pm:uB)(an:Option Addr)(cdv ct:uB)(osl:Array (Option uB)),
  fd=gP x qual (qcl st) (qbz st) (qaa st) .none kV doc pm an cdv ct/\K.lookup f=some ⟨oc,od,.func fd,osl⟩/\fZ K cdv qual=true
 kp:dA K (.ref f)=true
section
variable{P:uI}{w:vA}{K:uY}{mg:Str->Option uB}{base:vS}
def Fun.ok{x qual:Str}{st:Stmt}{f:Addr}{fd:uT}{N ps:List Str}{k:Nat}{sp:Sp}(F:Fun K x qual st f fd)(S:jaa N ps (qaa st))(len:∀vs H Q E,sp vs H Q E->vs.length=ps.length)
  (hbody:∀(cdv:uB)(A:vI)(outer:List Env)(s:uD)(H:Hp)(vs:List V)(Q:VK)(E:XK),jar k (A.deeper (cK qual (qaa st) ↑s f cdv))->sp vs H Q E->
   ∃t,PSs (cxOf CX0 P w K mg base N qual (qaa st) f cdv A outer s H E).nox (qbz st) t/\t {nx:=fun _ H'=>Q .non H',rt:=Q} (qdr N vs) H):jab P w K mg base CX0 (k+1) f fd ps sp:=by
 obtain⟨oc,od,kV,doc,pm,an,cdv,ct,osl,rfl,lk,hcd⟩:=F.ex;refine jme lk hcd S len fun A outer s H vs Q E hr hsp=>?_;obtain⟨t,h,q⟩:=hbody cdv A outer s H vs Q E hr hsp;exact⟨t,h.nox,q⟩
def Fun.binds{x qual:Str}{st:Stmt}{f:Addr}{fd:uT}{ps:List Str}(F:Fun K x qual st f fd)
  (h:∀(kV doc pm:uB)(an:Option Addr)(cdv ct:uB)(us:List uB),us.length=ps.length->bindArgs (gP x qual (qcl st) (qbz st) (qaa st) .none kV doc pm an cdv ct) ⟨us,[]⟩=pure (ps.zip us)):qat K fd ps []:=by
 obtain⟨oc,od,kV,doc,pm,an,cdv,ct,osl,rfl,lk,hcd⟩:=F.ex;exact .all (h kV doc pm an cdv ct)
def fun_mk{x qual:Str}{st:Stmt}{f:Addr}{oc:uB}{od an:Option Addr}{osl:Array (Option uB)}{kV doc pm cdv ct:uB}(l:K.lookup f=some ⟨oc,od,.func (gP x qual (qcl st) (qbz st) (qaa st) .none kV doc pm an cdv ct),osl⟩)
  (c:fZ K cdv qual=true)(k:dA K (.ref f)=true):Fun K x qual st f (gP x qual (qcl st) (qbz st) (qaa st) .none kV doc pm an cdv ct):=⟨⟨oc,od,kV,doc,pm,an,cdv,ct,osl,rfl,l,c⟩,k⟩
end
def qc1{A:vI}{k:Nat}(hr:jar k A):A.units+1<cLine:=wS (Nat.add_le_add_left (by decide:1<=64) _) hr.units
section
variable{X:Cx}
def pv(i:Nat){x:Str}{pos:Pos}(hN:autoParam (X.N[i]?=some x) auR)(hv:Vis X.env.scope x:=by first|exact uK rfl|exact Or.inr (uK rfl) |exact Or.inr (Or.inr rfl))(hd:autoParam ((x==("__debug__":Str))=false) auD)
  (hcd:autoParam ((x==("__classdict__":Str))=false) auD):PE X (.Name x pos) (jsl i):=joz hN hv hd hcd
end
def jkl{A B:Prop}(h:B):if false=true then A else B:=by
 rw[iN uL];exact h
def qez{A B:Prop}(h:A):if true=true then A else B:=by
 rw[iO rfl];exact h
def qas(H H':Hp):Prop:=∀b o,H b=some o->H' b=some o
def qas.refl(H:Hp):qas H H:=fun _ _ h=>h
def qas.trans{H H1 H2:Hp}(a:qas H H1)(b:qas H1 H2):qas H H2:=fun c o h=>b c o (a c o h)
def qas.free{H H':Hp}(e:qas H H'){l:Addr}(h:H' l=Option.none):H l=Option.none:=by
 cases q:H l with
 |none=>rfl
 |some o=>
  rw[e l o q] at h
  cases h
def qas.seq{K:uY}{H H':Hp}{a:Addr}{xs:List V}(e:qas H H')(h:SqL K H a xs):SqL K H' a xs:=by
 rcases h with (h|⟨o,h⟩) |h
 .exact .inl (.inl (e _ _ h))
 .exact .inl (.inr ⟨o,e _ _ h⟩)
 .exact .inr h
end L2
namespace My
open PySem PySem.Spec PyProof.Rows L2
section
variable{X:Cx}
def jf0{k:Int}(h:k.natAbs<2^600):Builtin.Int.intBits k<=2^20:=
 wG (PyProof.Rows.intBits_le (k:=600) h) ∅
def jv6(i j:Int):Prop:=i.natAbs<2^600/\j.natAbs<2^600
def qck:OpR X (bD .Mult) (rI jv6 fun i j=> .int (i*j)):=opI fun _ _ _ _ _ _ _ hc q=>mul_int q (IntMulOk.of_bits (jf0 hc.1) (jf0 hc.2))
def jss(i j:Int):Prop:=j≠0/\j.natAbs<2^600
def jv7{x y:Int}(h:y.natAbs<2^600):Builtin.divisionGoesByPylong x y=false:=by
 refine PyProof.noPylong_of_log2 ?_;by_cases h0:y.natAbs=0
 .rw[h0];decide+kernel
 .have h30:y.natAbs.log2<600:=(Nat.log2_lt h0).mpr h;omega
def qav:OpR X (bD .FloorDiv) (rI jss fun i j=> .int (i.fdiv j)):=opI fun _ _ _ _ _ _ _ hc q=>floordiv_int hc.1 q (.inl (jv7 hc.2))
end
def qa4{H:Hp}{p:Addr}(h:H p=none)(o:HO):qas H (upd H p o):=fun b u q=>by rw[qa9 (qa8 q h)];exact q
noncomputable def cell(ns:List Int)(k:Int):Int:=(ns[k.toNat]?).getD 0
def qhc{ns:List Int}{k:Int}(h0:0<=k)(h:k <(ns.length:Int)):atI (ns.map V.int) k=some (.int (cell ns k)):=by
 have hk:k.toNat<ns.length:=by omega
 have ek:k=((k.toNat:Nat):Int):=by omega
 have q:atI (ns.map V.int) ((k.toNat:Nat):Int)=some (.int ns[k.toNat]):=qau (by rw[zC,zA hk]<;>rfl);rw[<-ek] at q;rw[q];unfold cell;rw[zA hk];rfl
def ji9{ns:List Int}{k:Int}(h:¬k <(ns.length:Int))(h0:0<=k):cell ns k=0:=by
 unfold cell;rw[aI ↑∅];rfl
end My
set_option maxHeartbeats 1000000
namespace My
open PySem PySem.Spec PyProof.Rows L2
variable{h:vS}{a p:Addr}{o:HO}{C:uB}{d:Option Addr}{W:L2.St->XK}{X:Cx}{xs:List V}{A c B:Prop}{R:It->Hp->Prop}{H:Hp}
section
variable{X:Cx}{pins:List (Addr×Obj)}{σ:L2.St}{H:Hp}{s:uD}{h':vS}
structure Rec(X:Cx)(pins:List (Addr×Obj))(H:Hp)(h:vS)(b:Addr):Prop where
 nw:X.s₀.heap.get? b=none
 un:H b=none
 pin:∀p∈X.pn++pins,p.1≠b
 ob:∃o vs,h.get? b=some o/\o.data=.fields vs
theorem Rec.loc(I:Inv X pins σ H s){b:Addr}(r:Rec X pins H s.heap b):b≠X.env.locals:=fun z=>by
 obtain⟨o,vs,e,d⟩:=r.ob;obtain⟨m,⟨o',es,ep,e',d',_⟩,_⟩:=I.loc;rw[z,e'] at e;cases e;rw[d'] at d;cases d
def Rec.cel(I:Inv X pins σ H s){b:Addr}(r:Rec X pins H s.heap b):∀x c,X.env.cells.lookup x=some c->c≠b:=fun x c hc z=>by
 obtain⟨o,vs,e,d⟩:=r.ob;obtain⟨v,o',e',d'⟩:=I.cell x c hc;rw[z,e] at e';cases e';rw[d] at d';cases d'
theorem Rec.frs(I:Inv X pins σ H s){b:Addr}(r:Rec X pins H s.heap b):b∉frs X.stack:=fun z=>by
 obtain⟨o,vs,e,d⟩:=r.ob;obtain⟨_,o',e',d'⟩:=I.stack.mem z;rw[e] at e';cases e';exact d' vs d
def Inv.marks{ch:List Addr}{t':Nat}(I:Inv X pins σ H s)(hch:∀b∈ch,Rec X pins H s.heap b)
  (k1:∀b o,b∉frs X.stack->b∉ch->s.heap.get? b=some o->h'.get? b=some o)
  (k2:∀b o,b∉ch->s.heap.get? b=some o->∃sl,h'.get? b=some {o with slots:=sl}):Inv X pins σ H {s with heap:=h',toks:=t'}:=by
 have sub:∀b,b≠X.env.locals->b∉X.fs->b∉frs X.stack:=fun b h1 h2 z=>(zP.mp (I.stkSub b z)).elim h1 h2;have neL:∀b o,X.s₀.heap.get? b=some o->b≠X.env.locals:=fun b o e=>vM (vN (uV e) I.ok.above);have neC:∀b o,X.s₀.heap.get? b=some o->b∉ch:=fun b o e z=>by rw[(hch b z).nw] at e;cases e
 have cel:∀x c,X.env.cells.lookup x=some c->∀v,s.heap.IsCell c v->h'.IsCell c v:=fun x c e v ⟨o,ho,hd⟩=>by
  obtain⟨sl,q⟩:=k2 c o (fun z=>(hch c z).cel I x c e rfl) ho;exact⟨_,q,hd⟩
 refine⟨I.ok,I.os,I.bare,⟨fun b o e n hb hx=>k1 b o (sub b (neL b o e) hb) (neC b o e) (I.base.keep b o e n hb hx),fun b o e n hb hx=>?_,I.base.free,fun b o e hx=>?_,I.base.tups,I.base.frzs,I.base.tbls⟩,
  ?_,fun x c e=>?_,I.free,I.freeC,fun p hp=>?_,fun a o e=>?_,I.len⟩
 .obtain⟨sl,e1⟩:=I.base.slot b o e n hb hx;obtain⟨sl',e2⟩:=k2 b _ (neC b o e) e1;exact⟨sl',e2⟩
 .obtain⟨o',e1⟩:=I.base.there b o e hx;obtain⟨sl',e2⟩:=k2 b _ (neC b o e) e1;exact⟨_,e2⟩
 .obtain⟨m,hm,hl⟩:=I.loc;have hm':h'.Ns X.env.locals m:=by
   obtain⟨o,es,ep,e,r⟩:=hm;obtain⟨sl,q⟩:=k2 _ o (fun z=>(hch _ z).loc I rfl) e;exact⟨_,es,ep,q,r⟩
  refine⟨m,hm',fun i x v e1 e2 e3=>?_⟩;obtain⟨u,r,l⟩:=hl i x v e1 e2 e3;refine⟨u,r,?_⟩;rcases l with l|⟨k,c,e,z⟩
  .exact .inl l
  .exact .inr ⟨k,c,e,cel x c e _ z⟩
 .obtain⟨v,z⟩:=I.cell x c e;exact⟨v,cel x c e v z⟩
 .obtain⟨e,n,ne,nf,d⟩:=I.pin p hp;exact⟨k1 p.1 p.2 (sub p.1 ne nf) (fun z=>(hch p.1 z).pin p hp rfl) e,n,ne,nf,d⟩
 .refine(I.hok a o e).stay (fun b u hb q=>k1 b u ?_ ?_ q) (fun _ q=>q) fun _ _ q=>q
  .intro z;have n:=I.stkFree b z;rcases hb with rfl|hb
   .rw[n] at e;cases e
   .rw[n] at hb;cases hb
  .intro z;have n:=(hch b z).un;rcases hb with rfl|hb
   .rw[n] at e;cases e
   .rw[n] at hb;cases hb
def jb6{P:uI}{w:vA}{H:Hp}(x:qbg P w H h a o):∃ob,h.get? a=some ob:=by
 cases o with
 |lst xs=>obtain⟨_,_,_,_,e⟩:=x;exact⟨_,e⟩
 |tup xs=>obtain⟨_,_,_,ob,e,_⟩:=x;exact⟨_,e⟩
 |dK kvs=>obtain⟨_,_,_,_,o,_,_,e,_⟩:=x;exact⟨_,e⟩
 |dT kvs=>obtain⟨_,_,_,_,o,_,_,e,_⟩:=x;exact⟨_,e⟩
 |set S n=>obtain⟨o,_,_,_,e,_⟩:=x;exact⟨_,e⟩
 |ins C dx fs=>obtain⟨_,_,_,e,_⟩:=x;exact⟨_,e⟩
 |own y=>exact x
 |xd fs=>obtain⟨_,⟨_,_,_,e,_⟩,_⟩:=x;exact⟨_,e⟩
 |rng lo hi=>obtain⟨_,_,_,e⟩:=x;exact⟨_,e⟩
 |frz ob u=>obtain⟨e,_⟩:=x;exact⟨_,e⟩
 |tbl ps=>exact⟨_,(show h.get? a=some _ from x)⟩
 |met f y=>exact⟨_,(show h.get? a=some _ from x)⟩
 |ext φ=>obtain⟨_,e,_⟩:=x;exact e
def jst{P:uI}{w:vA}{H:Hp}(x:HOk P w H h)(e:h.get? a=none):H a=none:=by
 cases q:H a with
 |none=>rfl
 |some o=>obtain⟨ob,z⟩:=jb6 (x a o q);rw[e] at z;cases z
def jdq(I:Inv X pins σ H s)(hex:X.ex=[]){b:Addr}(e:s.heap.get? b=none):X.s₀.heap.get? b=none:=by
 cases q:X.s₀.heap.get? b with
 |none=>rfl
 |some o=>obtain⟨o',z⟩:=I.base.there b o q (by rw[hex];simp);rw[e] at z;cases z
def jv8(h:vS)(e:Addr)(C:uB)(d:Option Addr):Prop:=
 ∃oe vs,h.get? e=some oe/\oe.cls=C/\oe.dict=d/\oe.data=.fields vs/\vs[1]?=some .none
def XTr(h:vS)(e:Addr)(C:uB)(d:Option Addr)(fl:uB)(T:Addr):Prop:=
 ∃oe vs oT ts,h.get? e=some oe/\oe.cls=C/\oe.dict=d/\oe.data=.fields vs/\vs[1]?=some (.ref T)/\T≠e/\h.get? T=some oT/\oT.data=.fields ts/\ts[3]?=some fl
def XIn(X:Cx)(pins:List (Addr×Obj))(H:Hp)(h:vS)(e:Addr)(C:uB)(d:Option Addr):Prop:=
 Rec X pins H h e/\(jv8 h e C d\/∃T,Rec X pins H h T/\∃fl,XTr h e C d fl T)
def qf4(X:Cx)(pins:List (Addr×Obj))(H:Hp)(h:vS)(e:Addr)(C:uB)(d:Option Addr)(fl:uB):Prop:=
 Rec X pins H h e/\∃T,Rec X pins H h T/\XTr h e C d fl T
def jb7(f:Array uB->Array uB)(o:Obj):(o.mapFields f).dict=o.dict:=by
 obtain⟨c,d,dt,sl⟩:=o
 cases dt<;>rfl
def jf1{M:fU}{A:vI}{E:uB->uD->Prop}{e:Addr}{C:uB}{d:Option Addr}{head:uB}{hadNext:Bool}{Q:Unit->uD->Prop}
  (I:Inv X pins σ H s)(hA:A.frames=some X.stack)(hst:X.stack=X.env::X.outer)(hf:X.env.frame=some X.env.locals)(r:Rec X pins H s.heap e)
  (ho:∃oe vs,s.heap.get? e=some oe/\oe.cls=C/\oe.dict=d/\oe.data=.fields vs/\1<vs.size)
  (h:∀s',Inv X pins σ H s'->qf4 X pins H s'.heap e C d (bA X.env.locals)->Q () s'):
  uM M A (do let a<-frameOf X.env;let pl<-entryPlaceOf X.env.locals hadNext;let b<-EntryCells.newEntry head a .none (bA X.env.locals) .none pl;setField (.ref e) 1 b) Q E s:=by
 obtain⟨oe,vs,he,hc,hdd,hd,hsz⟩:=ho;have hl:=I.stack;rw[hst] at hl hA;have ne:e∉L2.frs X.stack:=r.frs I;refine uA (wpAny_frameOf_fun hA hl hf fun h₁ hs₁=>uA (wpAny_entryPlaceOf fun pl hpl=>?_));unfold EntryCells.newEntry newFields;refine uA (bT ?_ (hpl.sizeOk5 _ _ _ _ _));rw[<-hst] at hs₁;have he1:h₁.get? e=some oe:=(hs₁.2.1 e ne).trans he;generalize hN:({cls:=.type "traceback",dict:=none,data:=.fields ([head,.ref X.env.locals,.none,bA X.env.locals,.none]++(if pl.isEmpty then wH 6 vV else pl)).toArray}:Obj)=N;have he2:(h₁.push N).get? e=some oe:=uF _ he1;refine aS he2 hd hsz (h _ ?_ ?_)
 .refine Inv.marks (s:=s) (ch:=[e]) (t':=s.toks) I (fun b hb=>by rw[zK.mp hb];exact r) (fun b o h1 h2 q=>?_) fun b o h2 q=>?_
  .have hb:b≠e:=fun z=>h2 (by simp[z]);rw[wM _ _ (xB hb)];exact uF _ ((hs₁.2.1 b h1).trans q)
  .have hb:b≠e:=fun z=>h2 (by simp[z]);obtain⟨sl,q1⟩:=hs₁.2.2 b o q;exact⟨sl,by rw[wM _ _ (xB hb)];exact uF _ q1⟩
 .have sz1:h₁.objs.size=↑s:=hs₁.1;have hTe:h₁.objs.size≠e:=Nat.ne_of_gt (uV he1);have d3:=bH hd (·.setIfInBounds 1 (uS h₁.objs.size));have e3:=wZ (xC (·.setIfInBounds 1 (uS h₁.objs.size))) he2 (cA d3);have nf:N.isFreed=false:=by rw[<-hN];rfl
  have t3:=(wM (h₁.push N) (xC (·.setIfInBounds 1 (uS h₁.objs.size))) (xB hTe)).trans (uX h₁ nf);have rT:Rec X pins H ((h₁.push N).update e (xC (·.setIfInBounds 1 (uS h₁.objs.size)))) h₁.objs.size:=by
   refine⟨cG (by rw[sz1];exact I.sz),I.hok.fresh (by rw[sz1];exact uG _),fun p hp z=>?_,⟨N,_,t3,by rw[<-hN]⟩⟩;obtain⟨q,_⟩:=I.pin p hp;have w:=uV q;rw[z,sz1] at w;exact absurd w (wO _)
  refine⟨⟨r.nw,r.un,r.pin,⟨_,_,e3,d3⟩⟩,h₁.objs.size,rT,_,_,N,_,e3,(gX _ _).trans hc,?_,d3,by simp[hsz],hTe,t3,by rw[<-hN],?_⟩
  .rw[<-hdd];exact jb7 _ _
  .first|(simp;done) |(rcases hpl with rfl|⟨_,_,_,_,_,_,_,rfl⟩<;>simp)
def jf2{M:fU}{A:vI}{E:uB->uD->Prop}{e:Addr}{C:uB}{d:Option Addr}{Q:Unit->uD->Prop}
  (I:Inv X pins σ H s)(hA:A.frames=some X.stack)(hst:X.stack=X.env::X.outer)(hf:X.env.frame=some X.env.locals)(x:XIn X pins H s.heap e C d)
  (h:∀s',Inv X pins σ H s'->qf4 X pins H s'.heap e C d (bA X.env.locals)->Q () s'):uM M A (noteFrame (.ref e) X.env) Q E s:=by
 obtain⟨r,x⟩:=x;unfold noteFrame;simp only[hf];rcases x with⟨oe,vs,he,hc,hdd,hd,h1⟩|⟨T,rT,fl,oe,vs,oT,ts,he,hc,hdd,hd,h1,hTe,hT,hdT,h3⟩
 .refine uA (cV he hd h1 ?_);rw[iN ∅];exact jf1 I hA hst hf r ⟨oe,vs,he,hc,hdd,hd,(wI.mp h1).1⟩ h
 .refine uA (cV he hd h1 ?_);rw[iO (show(uS T !=vV)=true from by simp)];refine uA (cV hT hdT h3 ?_);by_cases qf:(fl==bA X.env.locals)=true
  .rw[iO qf];have ef:fl=bA X.env.locals:=eq_of_beq qf;rw[ef] at h3;exact uE (h s I ⟨r,T,rT,oe,vs,oT,ts,he,hc,hdd,hd,h1,hTe,hT,hdT,h3⟩)
  .rw[iN qf];refine uA (aS hT hdT (wI.mp h3).1 ?_);have oth:∀b,b≠T->(s.heap.update T (xC (·.setIfInBounds 3 vV))).get? b=s.heap.get? b:=fun b hb=>wM _ _ (xB hb);have J:Inv X pins σ H {s with heap:=s.heap.update T (xC (·.setIfInBounds 3 vV))}:=
    Inv.marks (s:=s) (ch:=[T]) (t':=s.toks) I (fun b hb=>by rw[zK.mp hb];exact rT) (fun b o _ h2 q=>(oth b fun z=>h2 (by simp[z])).trans q) fun b o h2 q=>⟨o.slots,(oth b fun z=>h2 (by simp[z])).trans q⟩
   have he':=(oth e (xB hTe)).trans he;exact jf1 J hA hst hf ⟨r.nw,r.un,r.pin,⟨oe,vs,he',hd⟩⟩ ⟨oe,vs,he',hc,hdd,hd,(wI.mp h1).1⟩ h
def jdr(fr:Option Addr){M:fU}{A:vI}{E:uB->uD->Prop}{e:Addr}{C fl:uB}{d:Option Addr}{Q:Unit->uD->Prop}
  (I:Inv X pins σ H s)(x:qf4 X pins H s.heap e C d fl)
  (h:∀s',Inv X pins σ H s'->qf4 X pins H s'.heap e C d (fr.elim vV fun f=>bA f)->Q () s'):uM M A (setFlight (.ref e) fr) Q E s:=by
 obtain⟨r,T,rT,oe,vs,oT,ts,he,hc,hdd,hd,h1,hTe,hT,hdT,h3⟩:=x;have hsz:=(wI.mp h3).1;unfold setFlight;refine uA (cV he hd h1 ?_);rw[iO (show(uS T !=vV)=true from by simp)];refine aS hT hdT hsz (h _ ?_ ?_)
 all_goals have oth:∀b,b≠T->(s.heap.update T (xC (·.setIfInBounds 3 (fr.elim vV fun f=>bA f)))).get? b=s.heap.get? b:=fun b hb=>wM _ _ (xB hb)
 .exact Inv.marks (s:=s) (ch:=[T]) (t':=s.toks) I (fun b hb=>by rw[zK.mp hb];exact rT) (fun b o _ h2 q=>(oth b fun z=>h2 (by simp[z])).trans q) fun b o h2 q=>⟨o.slots,(oth b fun z=>h2 (by simp[z])).trans q⟩
 .have he':=(oth e (xB hTe)).trans he;have d3:=bH hdT (·.setIfInBounds 3 (fr.elim vV fun f=>bA f));have hT':=wZ (xC (·.setIfInBounds 3 (fr.elim vV fun f=>bA f))) hT (cA d3);exact⟨⟨r.nw,r.un,r.pin,⟨oe,vs,he',hd⟩⟩,T,⟨rT.nw,rT.un,rT.pin,⟨_,_,hT',d3⟩⟩,oe,vs,_,_,he',hc,hdd,hd,h1,hTe,hT',d3,by simp[hsz]⟩
def qh8{M:fU}{A:vI}{E:uB->uD->Prop}{e:Addr}{C fl:uB}{d:Option Addr}{Q:Unit->uD->Prop}
  (I:Inv X pins σ H s)(x:qf4 X pins H s.heap e C d fl)
  (h:∀s',Inv X pins σ H s'->qf4 X pins H s'.heap e C d .none->Q () s'):uM M A (setFlight (.ref e) none) Q E s:=jdr none I x h
def qf4.xin{e:Addr}{fl:uB}(x:qf4 X pins H h e C d fl):XIn X pins H h e C d:=
 let ⟨r,T,rT,q⟩:=x
 ⟨r,.inr ⟨T,rT,_,q⟩⟩
def qf4.xinL{e:Addr}(x:qf4 X pins H h e C d (bA X.env.locals)):XIn X pins H h e C d:=x.xin
noncomputable def CX1(P:uI)(w:vA):CXT:=fun outer H s E e s'=>∃(a:Addr)(C:uB)(d:Option Addr)(H':Hp),e=.ref a/\s'.os=s.os/\cT s'.gens/\Un (L2.frs outer) [] H H' s.heap s'.heap/\HOk P w H' s'.heap/\
 s.heap.get? a=none/\H' a=none/\(∃T,s.heap.get? T=none/\H' T=none/\XTr s'.heap a C d .none T)/\E C d H'
def Xes(X:Cx)(W:L2.St->XK):Prop:=∀(pins:List (Addr×Obj))(σ:L2.St)(H:Hp)(s:uD)(a:Addr)(C:uB)(d:Option Addr),Inv X pins σ H s->XIn X pins H s.heap a C d->W σ C d H->X.xe (.ref a) s
def jds(h:Xes X W)(hex:X.ex=[]){e:uB}{s':uD}(I:Inv X pins σ H s)(q:CX1 X.prog X.w X.stack H s (W σ) e s'):X.xe e s':=by
 obtain⟨a,C,d,H',rfl,os,bare,un,hok,la,na,⟨T,lT,nT,x⟩,w⟩:=q;have J:Inv X pins σ H' s':=I.call' (ch:=[]) os un hok bare (fun b z=>absurd z (by simp));have pn:∀b,s.heap.get? b=none->∀p∈X.pn++pins,p.1≠b:=fun b lb p hp z=>by
  have w:=(I.pin p hp).1;rw[z,lb] at w
  cases w
 obtain⟨oe,vs,oT,ts,he,hc,hdd,hd,h1,hTe,hT,hdT,h3⟩:=id x;exact h pins σ H' s' a C d J ⟨⟨jdq I hex la,na,pn a la,⟨oe,vs,he,hd⟩⟩,.inr ⟨T,⟨jdq I hex lT,nT,pn T lT,⟨oT,ts,hT,hdT⟩⟩,_,x⟩⟩ w
end
section
variable{X:Cx}{pins:List (Addr×Obj)}{σ:L2.St}{H:Hp}{s:uD}{W:L2.St->XK}
def XSt(X:Cx)(W:L2.St->XK)(e:uB)(s:uD):Prop:=∃(a:Addr)(C:uB)(d:Option Addr)(σ:L2.St)(H:Hp),e=.ref a/\Inv X [] σ H s/\XIn X [] H s.heap a C d/\W σ C d H
abbrev xw(X:Cx)(W:L2.St->XK):Cx:=X.wish (XSt X W)
def Rec.less{b:Addr}(r:Rec X pins H h b):Rec X [] H h b:=⟨r.nw,r.un,fun p hp=>r.pin p (by rw[zW] at hp;exact zY _ hp),r.ob⟩
theorem XIn.less(x:XIn X pins H h a C d):XIn X [] H h a C d:=by
 obtain⟨r,x⟩:=x;rcases x with x|⟨T,rT,x⟩
 .exact⟨r.less,.inl x⟩
 .exact⟨r.less,.inr ⟨T,rT.less,x⟩⟩
def Rec.unwish{E:uB->uD->Prop}{b:Addr}(r:Rec (X.wish E) pins H h b):Rec X pins H h b:=⟨r.nw,r.un,r.pin,r.ob⟩
theorem XIn.unwish{E:uB->uD->Prop}(x:XIn (X.wish E) pins H h a C d):XIn X pins H h a C d:=by
 obtain⟨r,x⟩:=x;rcases x with x|⟨T,rT,x⟩
 .exact⟨r.unwish,.inl x⟩
 .exact⟨r.unwish,.inr ⟨T,rT.unwish,x⟩⟩
def qb7:Xes (xw X W) W:=fun pins σ H s a C d I x w=>⟨a,C,d,σ,H,rfl,I.unwish.pins_of (fun _ z=>nomatch z),x.unwish.less,w⟩
def qfh(hst:X.stack=X.env::X.outer)(hf:X.env.frame=some X.env.locals):PassesOwn (uP X.prog X.w) X.A X.env (XSt X W):=by
 rintro e s' ⟨a,C,d,σ,H,rfl,I,x,w⟩;show uM _ _ (noteFrame (.ref a) X.env) _ _ s';refine jf2 I I.ok.frames hst hf x fun s2 I2 x2=>?_;obtain⟨r,T,rT,oe,vs,oT,ts,he,hc,hdd,hd,h1,r2⟩:=id x2;unfold cameBackBy;refine uA (cV he hd h1 ?_);have fin:uM (uP X.prog X.w) X.A (setFlight (.ref a) X.env.frame) (fun _ s''=>XSt X W (.ref a) s'') (XSt X W) s2:=by
  rw[hf];exact jdr (some X.env.locals) I2 x2 fun s3 I3 x3=>⟨a,C,d,σ,H,rfl,I3,qf4.xinL x3,w⟩
 first
  |(rw[iN (show ¬((uS T==vV)=true) from by simp)];exact fin)
  |(rw[iN (show ¬((uS T==vV)=true) from by simp)];exact uA (uE fin))
  |(refine uA ?_;rw[iN (show ¬((uS T==vV)=true) from by simp)];exact uE fin)
def PSs.xes{st:List Stmt}{t:TS}(hx:Xes X W)(h:PSs (xw X W) st t):PSs X st t:=fun pins s σ H D I hw=>
 vR (h pins s σ H D (I.wish _) hw) (fun _ _ q=>q.unwish) fun _ _ ⟨a,C,d,σ',H',e,I',x,w⟩=>by subst e;exact hx [] σ' H' _ a C d I' x w
end
section
variable{P:uI}{w:vA}{K:uY}{mg:Str->Option uB}{base:vS}
def jkm{N:List Str}{qual:Str}{scope:bJ}{f:Addr}{cd:uB}{A:vI}{outer:List Env}{s:uD}{H:Hp}{E:XK}:
  Xes (cxOf (CX1 P w) P w K mg base N qual scope f cd A outer s H E) (fun _=>E):=by
 intro pins σ H1 s1 a C d I x wE;show uM _ _ (leaving _ _) _ _ s1;unfold leaving;refine uA (jf2 I I.ok.frames rfl rfl x fun s2 I2 x2=>qh8 I2 x2 fun s3 I3 x3=>?_);obtain⟨r,T,rT,xt⟩:=x3;exact⟨a,C,d,H1,rfl,I3.os,I3.bare,I3.base,I3.hok,r.nw,r.un,⟨T,rT.nw,rT.un,xt⟩,wE⟩
def okX{x qual:Str}{st:Stmt}{f:Addr}{fd:uT}{N ps:List Str}{k:Nat}{sp:Sp}(F:Fun K x qual st f fd)(S:jaa N ps (qaa st))(len:∀vs H Q E,sp vs H Q E->vs.length=ps.length)
  (hbody:∀(cdv:uB)(A:vI)(outer:List Env)(s:uD)(H:Hp)(vs:List V)(Q:VK)(E:XK),jar k (A.deeper (cK qual (qaa st) ↑s f cdv))->sp vs H Q E->
   ∃t,PSs (xw (cxOf (CX1 P w) P w K mg base N qual (qaa st) f cdv A outer s H E) (fun _=>E)) (qbz st) t/\t {nx:=fun _ H'=>Q .non H',rt:=Q} (qdr N vs) H):jab P w K mg base (CX1 P w) (k+1) f fd ps sp:=by
 obtain⟨oc,od,kV,doc,pm,an,cdv,ct,osl,rfl,lk,hcd⟩:=F.ex;refine jme lk hcd S len fun A outer s H vs Q E hr hsp=>?_;obtain⟨t,ht,q⟩:=hbody cdv A outer s H vs Q E hr hsp;exact⟨t,PSs.xes jkm ht,q⟩
end
section
variable{X:Cx}{k:Nat}{f:Addr}{fd:uT}{ps:List Str}{sp:Sp}{dvs:List V}{ds:List uB}{W:L2.St->XK}{x:Str}{p pos:Pos}{e:vT}{es:List vT}{t:TA}
noncomputable def jkn(sp:Sp)(dvs:List V)(W:L2.St->XK)(t:TA):TE:=fun σ H Q=>t σ H fun vs H1=>sp (vs++dvs) H1 Q (W σ)
def jf3{pins:List (Addr×Obj)}{σ:L2.St}{H:Hp}{s:uD}{Q:VK}{us:List uB}{vs:List V}(F:jab X.prog X.w X.K X.mg X.base (CX1 X.prog X.w) k f fd ps sp)(hr:jar k X.A)(hb:qat X.K fd ps ds)(hd:qbk dvs ds)(hx:Xes X W)(hex:X.ex=[])
  (I:Inv X pins σ H s)(r:qbk vs us)(h:sp (vs++dvs) H Q (W σ)):uM (uP X.prog X.w) X.A (call (.ref f) us) (EP X pins σ Q) X.xe s:=by
 have r2:qbk (vs++dvs) (us++ds):=r.append hd;have hl:(us++ds).length=ps.length:=by rw[<-r2.length];exact F.len _ _ _ _ h
 refine xH (xU (F.run X.A X.stack s H ⟨us,[]⟩ (us++ds) (vs++dvs) Q (W σ) hr I.env0 (hb s us I.kIn hl) r2 h) fun r s' hq=>?_)
 match r,hq with
 | .error e,hq=>exact jds hx hex I hq
 | .ok (.ret u),hq=>exact I.after hq
 | .ok .next,hq=>exact vU hq
 | .ok .brk,hq=>exact vU hq
 | .ok .cont,hq=>exact vU hq
def qcf(F:jab X.prog X.w X.K X.mg X.base (CX1 X.prog X.w) k f fd ps sp)(hr:jar k X.A)(hg:Gl X x)(hm:X.mg x=some (.ref f))(hk:dA X.K (.ref f)=true)(hb:qat X.K fd ps ds)(hd:qbk dvs ds)(hx:Xes X W)
  (ha:PA X (e::es) t)(hex:autoParam (X.ex=[]) auR)(hdb:autoParam ((x==("__debug__":Str))=false) auD)(he:autoParam (vF (e::es) X.env=(false,wQ e X.env)::vF es X.env) auR)(hpl:autoParam ((wW pos (vF es X.env)).any (·.1)=false) auR):
  PE X (.Call (.Name x p) (e::es) [] pos) (jkn sp dvs W t):=by
 intro pins s σ H Q I h;refine xN (qcw I hg hm ?_ hdb);refine xO (h₀:=X.base) I.ok.mod.kin hk (thn (ha pos pins s σ H _ I h) fun us s1 ⟨vs,H1,I1,r,q⟩=>⟨I1.kIn,?_⟩) he hpl;exact jf3 F hr hb hd hx hex I1 r q
end
structure XCls(K:uY)(C:Addr):Prop where
 ob:∃(nm q:Str)(N:Addr)(bs bm:List uB)(hdct:Bool)(sn:List Str)(sub:List uB)(ab:Bool)(col:Option Bool)(dd:Option Addr)(k0 k1 k2 k3 k5:Option uB)(mN:Str->Option uB),
  K.lookup C=some (bL nm q C N bs bm hdct sn sub ab col dd k0 k1 k2 k3 k5 "ValueError.__new__")/\(∀h:vS,K.In h->h.Ns N mN)/\mN "__init__"=none/\
  ∀h:vS,K.In h->OwnTail h [.type "ValueError",.type "Exception",.type "BaseException",.type "object"] bm
section
variable{X:Cx}{x:Str}{C:Addr}{W:L2.St->XK}{np cpos pos:Pos}{e:vT}{es:List vT}{t:TA}
noncomputable def jko(t:TA)(C:Addr)(W:L2.St->XK):TS:=fun _ σ H=>t σ H fun xs H1=>xs.length<=sizeLine/\W σ (.ref C) none H1
def qcb(hc:X.calm=true)(M:XCls X.K C)(hg:Gl X x)(hm:X.mg x=some (.ref C))(hx:Xes X W)(ha:PA X (e::es) t)(hex:autoParam (X.ex=[]) auR)(hdb:autoParam ((x==("__debug__":Str))=false) auD)
  (he:autoParam (vF (e::es) X.env=(false,wQ e X.env)::vF es X.env) auR) (hpl:autoParam ((wW cpos (vF es X.env)).any (·.1)=false) auR):
  PS X (.Raise (some (.Call (.Name x np) (e::es) [] cpos)) none pos) (jko t C W):=by
 intro pins s σ H D I h;obtain⟨nm,q,N,bs,bm,hdct,sn,sub,ab,col,dd,k0,k1,k2,k3,k5,mN,hC,hN,hni,T⟩:=M.ob;refine wpAny_Raise_call_subU (C:=C) (nm:=nm) (q:=q) (N:=N) (bs:=bs) (bm:=bm) (hdct:=hdct) (sn:=sn) (sub:=sub) (ab:=ab) (col:=col) (dd:=dd) (k0:=k0) (k1:=k1) (k2:=k2) (k3:=k3) (k5:=k5)
  xP ∅ xP (mN:=mN) ((T _ I.kIn).hasType PySem.F.excBase_ValueError.hasBase) (I.ok.hd hc) ?_ hni ?_
 .rw[he];show(false ||(wW cpos (vF es X.env)).any (·.1))=false;rw[hpl];rfl
 .refine qcw I hg hm ⟨rfl,?_⟩ hdb;have z:=ha cpos pins s σ H _ I h;rw[he] at z⊢;refine aQ (vR z (fun us s2 ⟨vs,H2,I2,r,hl,q⟩=>⟨rfl,by rw[<-r.length];exact hl,I2.kIn _ _ hC,hN _ I2.kIn,T _ I2.kIn,fun h' a m=>?_⟩) fun _ _ y=>y);obtain⟨tp,ea,_,_⟩:=m.there;have J:Inv X pins σ H2 {s2 with heap:=h'}:=I2.kept (t':=s2.toks) m.keeps;refine hx pins σ H2 _ a (.ref C) none J ⟨⟨jdq I2 hex m.new,jst I2.hok m.new,fun p hp y=>?_,⟨_,_,ea,rfl⟩⟩,.inl ⟨_,_,ea,rfl,rfl,rfl,rfl⟩⟩ q;have w:=(I2.pin p hp).1;rw[y,m.new] at w
  cases w
end
section
variable{X:Cx}{pins:List (Addr×Obj)}{σ:L2.St}{H:Hp}{s:uD}
abbrev pnd(X:Cx)(pins:List (Addr×Obj)):Cx:={X with pn:=X.pn++pins}
theorem Inv.pnd(I:Inv X pins σ H s):Inv (pnd X pins) [] σ H s:=
 ⟨⟨I.ok.mod,I.ok.kind,I.ok.glob,I.ok.blt,I.ok.above,I.ok.inj,I.ok.has,I.ok.cab,I.ok.hd,I.ok.frames,I.ok.stk,I.ok.exf,I.ok.bs,I.ok.bsz,I.ok.noex,I.ok.exfs,I.ok.funs,I.ok.frf⟩,I.os,I.bare,I.base,I.loc,I.cell,I.free,I.freeC,fun p hp=>I.pin p (by rw[zW] at hp;exact hp),I.hok,I.len⟩
def Inv.unpnd{pins':List (Addr×Obj)}(I:Inv (My.pnd X pins) pins' σ H s):Inv X pins σ H s:=
 ⟨⟨I.ok.mod,I.ok.kind,I.ok.glob,I.ok.blt,I.ok.above,I.ok.inj,I.ok.has,I.ok.cab,I.ok.hd,I.ok.frames,I.ok.stk,I.ok.exf,I.ok.bs,I.ok.bsz,I.ok.noex,I.ok.exfs,I.ok.funs,I.ok.frf⟩,I.os,I.bare,I.base,I.loc,I.cell,I.free,I.freeC,fun p hp=>I.pin p (zY _ hp),I.hok,I.len⟩
def Rec.unpnd{b:Addr}(r:Rec (My.pnd X pins) [] H h b):Rec X pins H h b:=⟨r.nw,r.un,fun p hp=>r.pin p (by rw[zW];exact hp),r.ob⟩
theorem XIn.unpnd(x:XIn (My.pnd X pins) [] H h a C d):XIn X pins H h a C d:=by
 obtain⟨r,x⟩:=x;rcases x with x|⟨T,rT,x⟩
 .exact⟨r.unpnd,.inl x⟩
 .exact⟨r.unpnd,.inr ⟨T,rT.unpnd,x⟩⟩
abbrev suite(X:Cx)(a:Addr):Cx:={X with A:=X.A.mark (some (.ref a)),calm:=false,xe:=fun _ _=>False}
theorem Inv.suite(I:Inv X pins σ H s)(a:Addr):Inv (suite X a) pins σ H s:=
 ⟨⟨I.ok.mod,I.ok.kind,I.ok.glob,I.ok.blt,I.ok.above,I.ok.inj,I.ok.has,I.ok.cab,fun z=>(uL z).elim,I.ok.frames,I.ok.stk,I.ok.exf,I.ok.bs,I.ok.bsz,I.ok.noex,I.ok.exfs,I.ok.funs,I.ok.frf⟩,I.os,I.bare,I.base,I.loc,I.cell,I.free,I.freeC,I.pin,I.hok,I.len⟩
def Inv.unsuite(I:Inv (My.suite X a) pins σ H s)(ok:X.Ok):Inv X pins σ H s:=
 ⟨ok,I.os,I.bare,I.base,I.loc,I.cell,I.free,I.freeC,I.pin,I.hok,I.len⟩
def jmj{M:fU}{A:vI}{E:uB->uD->Prop}{i:Nat}{x:Str}{pos:Pos}{Q:Unit->uD->Prop}(I:Inv X pins σ H s)(hN:X.N.Nodup)(hi:X.N[i]?=some x)(hk:X.env.scope.names.lookup x=some .local)
  (h:∀s',Inv X pins (σ.set i none) H s'->Q () s'):uM M A (do bindName X.env x .none;unbindBehindTheSuite X.env x pos) Q E s:=by
 obtain⟨m,hn,hl⟩:=id I.loc;have hcls:(X.env.scope.kind==.class ||(X.env.scope.kind==.module && X.env.locals !=X.env.globals))=false:=by rw[I.ok.kind];rfl
 have hiσ:i<σ.length:=by rw[I.len];exact(uH.mp hi).1
 have cne:=I.cne;refine wpAny_nameGoes_keeps hk hn hcls fun h' v hn' hs=>?_;have tracked:HOk X.prog X.w H h':=fun b ob e=>by
  refine(I.hok b ob e).stay (fun c w' hc q=>(hs.2 c ?_).trans q) (fun _ q=>q) fun _ _ q=>q;intro z;have hfree:=I.free;rcases hc with hc|hc
  .rw[hc] at z;rw[z,hfree] at e;cases e
  .rw[z,hfree] at hc;cases hc
 have lt:∀b o,X.s₀.heap.get? b=some o->b≠X.env.locals:=fun b o e=>vM (vN (uV e) I.ok.above);refine h _ ⟨I.ok,I.os,I.bare,⟨fun b o e n hb hx=>?_,fun b o e n hb hx=>?_,I.base.free,fun b o e hx=>?_,I.base.tups,I.base.frzs,I.base.tbls⟩,⟨_,hn',fun j y v' e1 e2 e3=>?_⟩,fun y c e=>?_,I.free,I.freeC,fun p hp=>?_,tracked,by simpa using I.len⟩
 .exact(hs.2 b (lt b o e)).trans (I.base.keep b o e n hb hx)
 .obtain⟨sl,e1⟩:=I.base.slot b o e n hb hx;exact⟨sl,(hs.2 b (lt b o e)).trans e1⟩
 .obtain⟨o',e1⟩:=I.base.there b o e hx;exact⟨o',(hs.2 b (lt b o e)).trans e1⟩
 .by_cases hj:j=i
  .subst hj;rw[bP hiσ] at e2
   cases e2
  .rw[yI (xB hj)] at e2;obtain⟨u',r',q⟩:=hl j y v' e1 e2 e3;refine⟨u',r',?_⟩;rcases q with⟨k,e⟩|⟨k,c,e,z⟩
   .refine .inl ⟨k,?_⟩;have:y≠x:=fun e=>hj (qh0 hN e1 (e▸hi));simp[this,e]
   .exact .inr ⟨k,c,e,z.sameBut hs (cne y c e)⟩
 .obtain⟨w',z⟩:=I.cell y c e;exact⟨w',z.sameBut hs (cne y c e)⟩
 .obtain⟨e,n,ne,nf,d⟩:=I.pin p hp;exact⟨(hs.2 p.1 ne).trans e,n,ne,nf,d⟩
noncomputable def XO(a:Addr)(C:uB)(d:Option Addr):HO:=.ext fun h=>∃(oe:Obj)(vs:Array uB),h.get? a=some oe/\oe.cls=C/\oe.dict=d/\oe.data=.fields vs
def Inv.track(I:Inv X pins σ H s)(r:Rec X pins H s.heap a)(ho:∃(oe:Obj)(vs:Array uB),s.heap.get? a=some oe/\oe.cls=C/\oe.dict=d/\oe.data=.fields vs):Inv X pins σ (upd H a (XO a C d)) s:=by
 have ne:∀b o,H b=some o->b≠a:=fun b o e z=>by rw[z,r.un] at e;cases e
 refine⟨I.ok,I.os,I.bare,⟨I.base.keep,I.base.slot,fun b o e n hx=>?_,I.base.there,fun b xs e=>?_,fun b o u e=>?_,fun b ps e=>?_⟩,I.loc,I.cell,?_,fun x c e=>?_,fun p hp=>?_,fun b o e=>?_,I.len⟩
 .have hb:b≠a:=fun z=>by rw[z,r.nw] at e;cases e
  rw[qa9 hb];exact I.base.free b o e n hx
 .have q:=I.base.tups b xs e;rw[qa9 (ne _ _ q)];exact q
 .have q:=I.base.frzs b o u e;rw[qa9 (ne _ _ q)];exact q
 .obtain⟨more,q⟩:=I.base.tbls b ps e;exact⟨more,by rw[qa9 (ne _ _ q)];exact q⟩
 .rw[qa9 (xB (r.loc I))];exact I.free
 .rw[qa9 (r.cel I x c e)];exact I.freeC x c e
 .obtain⟨q,n,l⟩:=I.pin p hp;exact⟨q,by rw[qa9 (r.pin p hp)];exact n,l⟩
 .by_cases hb:b=a
  .subst hb;rw[qa1] at e
   cases e
   obtain⟨oe,vs,h1,h2⟩:=id ho;exact⟨ho,⟨oe,h1⟩,fun h1 h2 ⟨oe,vs,z,zz⟩ k=>⟨oe,vs,k _ z,zz⟩⟩
  .rw[qa9 hb] at e;exact(I.hok b o e).stay (fun _ _ _ q=>q) (fun c q=>by rw[qa9 (ne _ _ q)];exact q) fun c xs q=>by rw[qa9 (ne _ _ q)];exact q
end
section
variable{X:Cx}
noncomputable def jsu(t:TS):TS:=fun D σ H=>∃J:L2.St->Hp->Prop,t {D with nx:=J} σ H/\∀σ' H',J σ' H'->D.nx σ' H'
def qbf{st:Stmt}{t:TS}(h:PS X st t):PS X st (jsu t):=by
 intro pins s σ H D I ⟨J,hw,k⟩;refine vR (h pins s σ H _ I hw) (fun f s' q=>?_) fun _ _ z=>z
 cases f with
 |next=>obtain⟨σ',H',I',z⟩:=q;exact⟨σ',H',I',k _ _ z⟩
 |brk=>exact q
 |cont=>exact q
 |ret u=>exact q
end
section
variable{X:Cx}
def PH(X:Cx)(hs:List fW)(th:jam->L2.St->XK):Prop:=
 ∀(pins:List (Addr×Obj))(s:uD)(σ:L2.St)(H:Hp)(D:jam)(a:Addr)(C:uB)(d:Option Addr),Inv X pins σ H s->qf4 X pins H s.heap a C d .none->th D σ C d H->
  uM (uP X.prog X.w) X.A (handleBy (.ref a) X.env hs) (SP X pins D) X.xe s
noncomputable def ju6(tb:List (Addr×Obj)->jam->TS)(to:TS):TS:=fun D σ H=>∀pins,tb pins D {D with nx:=to D} σ H
def jpd{body orelse:List Stmt}{h₀:fW}{hs:List fW}{pos:Pos}{tb:List (Addr×Obj)->jam->TS}{th:jam->L2.St->XK}{to:TS}(hst:X.stack=X.env::X.outer)(hf:X.env.frame=some X.env.locals)
  (hb:∀(pins:List (Addr×Obj))(D:jam),PSs (xw (pnd X pins) (th D)) body (tb pins D))(hh:PH X (h₀::hs) th)(ho:PSs X orelse to):PS X (.Try body (h₀::hs) orelse [] pos) (ju6 tb to):=by
 intro pins s σ H D I h;refine wpAny_Try_except (vR (hb pins D [] s σ H {D with nx:=to D} ((Inv.pnd I).wish _) (h pins)) (fun f s1 q=>?_) fun e s1 q=>?_)
 .cases f with
  |next=>obtain⟨σ',H',J,z⟩:=q;exact ho pins s1 σ' H' D (Inv.unpnd J.unwish) z
  |brk=>obtain⟨σ',H',J,z⟩:=q;exact⟨σ',H',Inv.unpnd J.unwish,z⟩
  |cont=>obtain⟨σ',H',J,z⟩:=q;exact⟨σ',H',Inv.unpnd J.unwish,z⟩
  |ret u=>obtain⟨v,σ',H',J,r,z⟩:=q;exact⟨v,σ',H',Inv.unpnd J.unwish,r,z⟩
 .obtain⟨a,C,d,σ',H',rfl,J,x,w⟩:=q;have J':Inv X pins σ' H' s1:=Inv.unpnd J;exact jf2 J' J'.ok.frames hst hf (XIn.unpnd x) fun s2 I2 x2=>qh8 I2 x2 fun s3 I3 x3=>hh pins s3 σ' H' D a C d I3 x3 w
def jmk:PH X [] (fun _ _ _ _ _=>False):=fun _ _ _ _ _ _ _ _ _ _ w=>vU w
def jcw{M:fU}{A:vI}{E:uB->uD->Prop}{K:uY}{s:uD}{e:Addr}{oe:Obj}{C c:Addr}{b:Bool}{Q:Bool->uD->Prop}(KX:K.In s.heap)(he:s.heap.get? e=some oe)(hcls:oe.cls=.ref C)
  (hC:fB K (.ref C) (.ref c)=some b)(hc:fB K (.ref c) (.type "BaseException")=some true)(hq:Q b s):uM M A (excMatches (.ref e) (.ref c)) Q E s:=by
 obtain⟨h,g,d,t,os⟩:=s;obtain⟨L1,L2',L3⟩:=PySem.W.kit_cls (M:=M) KX hC;obtain⟨_,_,L4⟩:=PySem.W.kit_cls (M:=M) KX hc;have f:=tc_notTuple;have LT:xX M h (typeOf (.ref e)) (.ref C):=hcls▸(iI he).andThen .now;have LI:xX M h (dU (.ref c) (.type "tuple")) false:=L1.andThen (PySem.W.Looks.of_pure f);have LE:xX M h (isExcClass (.ref c)) true:=L2'.andThen L4;unfold excMatches;refine uA (LI.at ?_);simp only[xA,if_false];refine uA (uE ?_);refine uA ?_;rw[List.forIn_cons];refine uA (uA (LE.at ?_));simp only[dE,xA,if_false];refine uE ?_;dsimp only;rw[List.forIn_nil];refine uE (uA (LT.at (uA ?_)));rw[List.forIn_cons];refine uA (uA (L3.at ?_))
 cases b with
 |true=>exact uE (uE (uE hq))
 |false=>exact uE (uE (uE hq))
noncomputable def tCl(K:uY)(c:Addr)(hit miss:jam->L2.St->XK):jam->L2.St->XK:=fun D σ C d H=>∃(C':Addr)(b:Bool),C=.ref C'/\fB K (.ref C') (.ref c)=some b/\if b=true then hit D σ C d H else miss D σ C d H
noncomputable def gone(i:Nat)(D:jam):jam:={nx:=fun σ H=>D.nx (σ.set i none) H,rt:=D.rt,bk:=fun σ H=>D.bk (σ.set i none) H,ct:=fun σ H=>D.ct (σ.set i none) H}
noncomputable def tAs(i:Nat)(ts:Addr->TS):jam->L2.St->XK:=fun D σ C d H=>∀a,H a=none->ts a (gone i D) (σ.set i (some (.ref a))) (upd H a (XO a C d))
def jsv{i:Nat}{n x:Str}{c:Addr}{np hpos:Pos}{b₀:Stmt}{body:List Stmt}{rest:List fW}{ts:Addr->TS}{tr:jam->L2.St->XK}(hN:X.N.Nodup)(hi:X.N[i]?=some n)(hk:X.env.scope.names.lookup n=some .local)
  (hc:fB X.K (.ref c) (.type "BaseException")=some true)(hg:Gl X x)(hm:X.mg x=some (.ref c))
  (hs:∀a,PSs (suite X a) (b₀::body) (ts a))(hr:PH X rest tr)(hdb:autoParam ((x==("__debug__":Str))=false) auD):
  PH X (.ExceptHandler (some (.Name x np)) (some n) (b₀::body) hpos::rest) (tCl X.K c (tAs i ts) tr):=by
 intro pins s σ H D a C d I x h;obtain⟨C',b,rfl,hb,h⟩:=h;obtain⟨r,T,rT,oe,vs,oT,ts',he,hcl,r2⟩:=id x;refine wpAny_handleBy_cons (codeAny_handlers_test ?_) (by intro q;cases q);refine qcw (X:=suite X a) (Inv.suite I a) hg hm ?_ hdb;refine jcw I.kIn he hcl hb hc ?_
 cases b with
 |false=>exact hr pins s σ H D a _ d I x h
 |true=>
  refine codeAny_handlers_suite_as (qh8 I x fun s2 I2 x2=>?_);obtain⟨r',T',rT',oe',vs',oT',ts2,he',hcl',hdd',hd',r3⟩:=id x2;have J:=Inv.track I2 r' ⟨oe',vs',he',hcl',hdd',hd'⟩;refine qf5 (X:=suite X a) (v:=.ref a) (Inv.suite J a) hN hi (.inl hk) rfl (fun s3 I3=>?_) (.inr hk);have hq:=h a r.un;refine vR (hs a pins s3 _ _ (gone i D) I3 hq) (fun f s4 q=>?_) (fun _ _ z=>z.elim);have go:∀{σ':L2.St} {H':Hp} {Q:Unit->uD->Prop},Inv (suite X a) pins σ' H' s4->(∀s',Inv X pins (σ'.set i none) H' s'->Q () s')->uM (uP X.prog X.w) X.A (do bindName X.env n .none;unbindBehindTheSuite X.env n hpos) Q X.xe s4:=
   fun I4 k=>jmj (Inv.unsuite I4 I.ok) hN hi hk k
  cases f with
  |next=>obtain⟨σ',H',I4,z⟩:=q;exact go I4 fun s5 I5=>⟨_,H',I5,z⟩
  |brk=>obtain⟨σ',H',I4,z⟩:=q;exact go I4 fun s5 I5=>⟨_,H',I5,z⟩
  |cont=>obtain⟨σ',H',I4,z⟩:=q;exact go I4 fun s5 I5=>⟨_,H',I5,z⟩
  |ret u=>obtain⟨v,σ',H',I4,rv,z⟩:=q;exact go I4 fun s5 I5=>⟨v,_,H',I5,rv,z⟩
end
def qd1{K:uY}{C:Addr}(q:fS K C [.type "ValueError",.type "Exception",.type "BaseException",.type "object"] "ValueError.__new__"=true):XCls K C:=by
 unfold fS at q
 split at q
 .rename_i dd cd sl ho
  split at q
  .rename_i C' bm k0 k1 k2 k3 n k5 hm hs;simp only[vP,beq_iff_eq,gY] at q;obtain⟨⟨⟨⟨⟨rfl,rfl⟩,hdel⟩,ht⟩,hok⟩,hni⟩:=q;obtain⟨nm,bs,mro,ns,qn,hd,sn,sub,ab,col,del⟩:=cd;dsimp only at hm hdel hok hni;subst hm hdel;have hsl:sl= #[k0,k1,k2,k3,some (.builtin "ValueError.__new__"),k5]:=by
    obtain⟨l⟩:=sl;simp only at hs;rw[hs]
   subst hsl;unfold PySem.W.nsOkIn at hok
   split at hok
   .rename_i c1 d1 es ep sl1 hN;have hSK:StrKeys es:=fun e he=>by
     have z:=gZ.mp hok e he
     split at z
     .rename_i n t q;exact⟨n,t,q⟩
     .cases z
    have hNs:∀h:vS,K.In h->h.Ns ns (fun x=>gG es x):=fun h X=>⟨_,es,ep,X _ _ hN,rfl,hSK,fun _=>rfl⟩;refine⟨nm,qn,ns,bs,bm,hd,sn,sub,ab,col,dd,k0,k1,k2,k3,k5,fun x=>gG es x,ho,hNs,?_,fun h X=>PySem.W.tail_of_in X ht⟩;unfold aL at hni;rw[hN] at hni;dsimp only at hni
    split at hni
    .cases hni
    .rename_i hf;show gG es "__init__"=none;unfold gG findBy;rw[<-gH,hf];rfl
   .cases hok
  .cases q
 .cases q
def TyX(K:uY)(H:Hp)(x:V)(t:uB)(b:Bool):Prop:=ja5 K H x t\/∃(a:Addr)(d:Option Addr),x=.ref a/\H a=some (XO a t d)/\b=true
noncomputable def jsd(K:uY):List V->Hp->VK->Prop:=fun xs H Q=>∃(x c:V)(u t:uB)(b:Bool),xs=[x,c]/\qbb c u/\(∀u',qbb c u'->u'=u)/\TyX K H x t b/\vY K t u=some b/\Q (.bl b) H
def qfq:bO "ValueError"=some (.type "ValueError"):=by decide+kernel
def jf4{prog:uI}{w:vA}{A:vI}{E:uB->uD->Prop}{s:uD}{Q:uB->uD->Prop}{K:uY}{a:Addr}{t c:uB}(KX:K.In s.heap)(hp:∃o,s.heap.get? a=some o/\o.cls=t)(e:vY K t c=some true)
  (h:Q (.bool true) s):uM (uP prog w) A (call (.builtin "isinstance") [.ref a,c]) Q E s:=by
 refine call_isinstance_of ?_ (by intro q;cases q);obtain⟨h0,g,d,tt,os⟩:=s;obtain⟨o,ho,hc⟩:=hp;have LT:xX (uP prog w) h0 (typeOf (.ref a)) t:=hc▸(iI ho).andThen .now;unfold vY at e;unfold xY.«isinstance.nested»;refine uA (LT.at ?_);by_cases q:(t==c)=true
 .rw[iO q]
  first
   |exact uA (cE (uE h))
   |exact uA (cE h)
 .rw[iN q] at e;rw[iN q];obtain⟨hty,his,hsub⟩:=PySem.W.kit_cls (M:=uP prog w) KX e;have LI:xX (uP prog w) h0 (dU (.ref a) c) true:=LT.andThen hsub;refine uA (hty.at ?_);rw[iO ∅]
  k_delta "plainIsInstance"
  refine uA (uA (his.at ?_));simp only[dE,xA,if_false];refine uA (LI.at ?_)
  first
   |exact uE (uE h)
   |(simp only[if_true];first|exact uE (uE h) |exact uE h|exact uA (uE (uE h)))
def jb8:Xes X (fun _ _ _ _=>False):=fun _ _ _ _ _ _ _ _ _ w=>w.elim
section
variable{X:Cx}
def qbq:qcc X (.builtin "isinstance") (jsd X.K):=by
 intro pins s σ H xs us Q I hv h;obtain⟨x,c,u,t,b,rfl,hu,hu',ty,e,q⟩:=h
 cases hv with
 |cons r1 hv=>
  cases hv with
  |cons r2 hv=>
   cases hv
   rename_i v1 v2;rw[hu' v2 r2];rcases ty with ty|⟨a,d,rfl,ea,rfl⟩
   .exact jfo I r1 ty e fun tk=>⟨.bl b,H,I.tok tk,rfl,q⟩
   .cases r1
    obtain⟨⟨oe,vs,h1,h2,_⟩,_⟩:=(show qbg X.prog X.w H s.heap a (XO a t d) from I.hok a _ ea);exact jf4 I.kIn ⟨oe,h1,h2⟩ e ⟨.bl true,H,I,rfl,q⟩
noncomputable def jja:R2:=fun x y H Q=>y=.non/\Q (.bl (!decide (x=.non))) H
noncomputable def ju7(K:uY):List V->Hp->VK->Prop:=fun xs H Q=>∃p ys,xs=[.ref p]/\(SqL K H p ys\/SqT K H p ys)/\Q (.int ys.length) H
def qaw:qcc X (.builtin "len") (ju7 X.K):=jb2
def qec:OpR X (wA .IsNot) jja:=jl5
end
section
variable{K:uY}{H:Hp}{Q:VK}
def jml{x:V}{T:String}{t:uB}{b:Bool}(ty:ja5 K H x t)(e:vY K t (.type T)=some b)(h:Q (.bl b) H):jsd K [x,.ty T] H Q:=⟨x,_,_,t,b,rfl,rfl,fun _ z=>z,.inl ty,e,h⟩
end
section
variable{K:uY}
def jcx:vY K (.type "int") (.type "int")=some true:=by rfl
def jb9:vY K (.type "int") (.type "bool")=some false:=by rfl
def jca:vY K (.type "bool") (.type "int")=some true:=by rfl
def qh4:vY K (.type "bool") (.type "bool")=some true:=by rfl
def jcy:vY K (.type "str") (.type "str")=some true:=by rfl
def jcz:vY K (.type "list") (.type "list")=some true:=by rfl
def jc0:vY K (.type "dict") (.type "dict")=some true:=by rfl
end
section
variable{K:uY}{σ σ':L2.St}{H H1:Hp}{Q:VK}{D:jam}{ta tb te:TE}{t u:TS}{c c':TT}{ar:TA}{v x y:V}{i j:Nat}
def qak{N:List Str}{vs:List V}(e:qdr N vs=σ)(h:t D σ H):t D (qdr N vs) H:=e▸h
def jsw(e:σ[i]?=some (some v))(h:Q v H):jsl i σ H Q:=⟨v,e,h⟩
def r_c(h:Q v H):tC v σ H Q:=h
def jv9{r:R2}(h:ta σ H fun x H1=>tb σ H1 fun y H2=>r x y H2 Q):tOp r ta tb σ H Q:=h
def jwa{r:V->Hp->VK->Prop}(h:ta σ H fun x H1=>r x H1 Q):tUn r ta σ H Q:=h
def jwb{g:Int->Int->V}{i j:Int}(h:Q (g i j) H):rI0 g (.int i) (.int j) H Q:=⟨i,j,rfl,rfl,h⟩
def r_I{C:Int->Int->Prop}{g:Int->Int->V}{i j:Int}(hc:C i j)(h:Q (g i j) H):rI C g (.int i) (.int j) H Q:=⟨i,j,rfl,rfl,hc,h⟩
def r_U{g:Int->V}{i:Int}(h:Q (g i) H):rU g (.int i) H Q:=⟨i,rfl,h⟩
def jsx{i j:Int}(h:Q (.bl (decide (i=j))) H):rEq (.int i) (.int j) H Q:=⟨rfl,by
 have e:decide (V.int i=V.int j)=decide (i=j):=by by_cases z:i=j<;>simp[z]
 rw[e];exact h⟩
def jsy{i j:Bool}(h:Q (.bl (decide (i=j))) H):rEq (.bl i) (.bl j) H Q:=⟨rfl,by
 have e:decide (V.bl i=V.bl j)=decide (i=j):=by by_cases z:i=j<;>simp[z]
 rw[e];exact h⟩
def jsz{i j:Str}(h:Q (.bl (decide (i=j))) H):rEq (.str i) (.str j) H Q:=⟨rfl,by
 have e:decide (V.str i=V.str j)=decide (i=j):=by by_cases z:i=j<;>simp[z]
 rw[e];exact h⟩
def js0{i j:Str}(h:Q (.bl (!decide (i=j))) H):rNe (.str i) (.str j) H Q:=⟨rfl,by
 have e:decide (V.str i=V.str j)=decide (i=j):=by by_cases z:i=j<;>simp[z]
 rw[e];exact h⟩
def js1{b:Bool}{Q:Bool->Prop}(h:Q b):∃k,V.bl b=.bl k/\Q k:=⟨b,rfl,h⟩
def jpe{Q:Bool->Hp->Prop}(h:te σ H fun x H'=>∃k,x=.bl k/\Q k H'):jl6 te σ H Q:=h
def jwc{Q:Bool->Hp->Prop}(h:te σ H fun x H'=>∃k,x=.bl k/\Q k H'):tB te σ H Q:=h
def jwd{Q:Bool->Hp->Prop}(h:c σ H fun b H1=>if b=true then Q true H1 else c' σ H1 Q):tOr c c' σ H Q:=h
def js2{Q:Bool->Hp->Prop}(h:c σ H fun b H1=>Q (!b) H1):jur c σ H Q:=h
def jpf(h:ta σ H fun x H1=>∃k,x=.bl k/\if k=true then tb σ H1 Q else Q (.bl false) H1):jo1 ta tb σ H Q:=h
def js3(h:ta σ H fun x H1=>∃k,x=.bl k/\if k=true then Q (.bl true) H1 else tb σ H1 Q):jus ta tb σ H Q:=h
def jpg(h:ta σ H fun x H1=>∃k,x=.bl k/\Q (.bl (!k)) H1):jo2 ta σ H Q:=h
def js4(h:c σ H fun b H1=>if b=true then ta σ H1 Q else tb σ H1 Q):tIf c ta tb σ H Q:=h
def jph(h:D.nx σ H):jo3 D σ H:=h
def js5(h:t {nx:=u D,rt:=D.rt,bk:=D.bk,ct:=D.ct} σ H):jsn t u D σ H:=h
def jpi(h:te σ H fun _ H1=>D.nx σ H1):jo4 te D σ H:=h
def js6(h:te σ H D.rt):juu te D σ H:=h
def jwe(h:c σ H fun b H1=>if b=true then t D σ H1 else u D σ H1):juv c t u D σ H:=h
def js7{g:TG}(h:te σ H fun x H1=>g x σ H1 D.nx):jol te g D σ H:=h
def jpj{Q:L2.St->Hp->Prop}(e:σ.set i (some v)=σ')(h:Q σ' H):qdl i v σ H Q:=by subst e;exact h
def jpk{Q:L2.St->Hp->Prop}(h:Q σ H):juw [] σ H Q:=⟨rfl,h⟩
def jmm{g:TG}{gs:TGs}{vs:List V}{Q:L2.St->Hp->Prop}(h:g v σ H fun σ' H'=>gs vs σ' H' Q):jo5 g gs (v::vs) σ H Q:=⟨v,vs,rfl,h⟩
def jpl{n:Nat}{gs:TGs}{Q:L2.St->Hp->Prop}(hS:SqT K H a xs)(hn:xs.length=n)(h:gs xs σ H Q):jsb K n gs (.ref a) σ H Q:=⟨a,xs,rfl,hS,hn,h⟩
def jwf{f b c:L2.St->Hp->Prop}{r:VK}(h:f σ H):jam.nx {nx:=f,rt:=r,bk:=b,ct:=c} σ H:=h
def jwg{f b c:L2.St->Hp->Prop}{r:VK}(h:r v H):jam.rt {nx:=f,rt:=r,bk:=b,ct:=c} v H:=h
def js8{Q:List V->Hp->Prop}(h:Q [] H):jom σ H Q:=h
def jpm{Q:List V->Hp->Prop}(h:te σ H fun x H1=>ar σ H1 fun xs H2=>Q (x::xs) H2):jma te ar σ H Q:=h
def js9(h:ar σ H fun xs H1=>xs.length<=sizeLine/\∀p,H1 p=none->Q (.ref p) (upd H1 p (.tup xs))):ju1 ar σ H Q:=h
def jta(h:ar σ H fun xs H1=>xs.length<=sizeLine/\∀p,H1 p=none->Q (.ref p) (upd H1 p (.lst xs))):jsq ar σ H Q:=h
def jtb(hn:xs.length<=sizeLine)(h:A):xs.length<=sizeLine/\A:=⟨hn,h⟩
def jpn{sp:Sp}{E:XK}(h:ar σ H fun vs H1=>sp vs H1 Q E):jmb sp [] E ar σ H Q:=by
 have e:(fun vs H1=>sp (vs++[]) H1 Q E)=fun vs H1=>sp vs H1 Q E:=by funext vs H1;rw[zW]
 show ar σ H fun vs H1=>sp (vs++[]) H1 Q E;rw[e];exact h
def jmn{sp:Sp}(h:ar σ H fun vs H1=>sp vs H1 Q (W σ)):jkn sp [] W ar σ H Q:=by
 have e:(fun vs H1=>sp (vs++[]) H1 Q (W σ))=fun vs H1=>sp vs H1 Q (W σ):=by funext vs H1;rw[zW]
 show ar σ H fun vs H1=>sp (vs++[]) H1 Q (W σ);rw[e];exact h
def jwh{r:List V->Hp->VK->Prop}(h:ar σ H fun vs H1=>r vs H1 Q):tCB r ar σ H Q:=h
def jtc{tb:List (Addr×Obj)->jam->TS}{to:TS}(h:∀pins,tb pins D {nx:=to D,rt:=D.rt,bk:=D.bk,ct:=D.ct} σ H):ju6 tb to D σ H:=h
def jmo{C:Addr}(h:ar σ H fun xs H1=>xs.length<=sizeLine/\W σ (.ref C) none H1):jko ar C W D σ H:=h
def qb5{k:Int}(hS:SqL K H p xs)(e:atI xs k=some v)(h:Q v H):joo K (.ref p) (.int k) H Q:=⟨p,xs,k,v,rfl,rfl,hS,e,h⟩
def jmp{R:Addr->Prop}(h:∀p,H p=none->R p):∀p,H p=none->R p:=h
def jf5{c C':Addr}{b:Bool}{hit miss:jam->L2.St->XK}(k:fB K (.ref C') (.ref c)=some b)(h:if b=true then hit D σ (.ref C') d H else miss D σ (.ref C') d H):tCl K c hit miss D σ (.ref C') d H:=⟨C',b,rfl,k,h⟩
def jwi{t:Addr->TS}(h:∀a,H a=none->t a (gone i D) (σ.set i (some (.ref a))) (upd H a (XO a C d))):tAs i t D σ C d H:=h
def jpo(e:σ.set i none=σ')(h:D.nx σ' H):(gone i D).nx σ H:=by subst e;exact h
def jkp{xs:List Int}{r:Int}(hS:SqL K H p (xs.map V.int))(h0:0<=r)(h1:r<xs.length)(h:∀m,m∈xs->Q (.int m) H):joo K (.ref p) (.int r) H Q:=by
 have hk:r.toNat<xs.length:=by omega
 have ek:r=((r.toNat:Nat):Int):=by omega
 have q:atI (xs.map V.int) ((r.toNat:Nat):Int)=some (.int xs[r.toNat]):=qau (by rw[zC,zA hk]<;>rfl);rw[<-ek] at q;exact⟨p,_,r,_,rfl,rfl,hS,q,h _ (zJ hk)⟩
def qc8(h:t {nx:=D.nx,rt:=D.rt,bk:=D.bk,ct:=D.ct} σ H):jsu t D σ H:=⟨D.nx,h,fun _ _ z=>z⟩
def qce(J:L2.St->Hp->Prop)(h:t {nx:=J,rt:=D.rt,bk:=D.bk,ct:=D.ct} σ H)(k:∀σ' H',J σ' H'->D.nx σ' H'):jsu t D σ H:=⟨J,h,k⟩
def jkq{ys:List V}(hS:SqL K H p ys)(h:Q (.int ys.length) H):ju7 K [.ref p] H Q:=⟨p,ys,rfl,.inl hS,h⟩
def jmq(h:Q (.bl false) H):jja .non .non H Q:=⟨rfl,h⟩
def jmr{a:Int}(h:Q (.bl true) H):jja (.int a) .non H Q:=⟨rfl,h⟩
end
section
variable{K:uY}{σ:L2.St}{H:Hp}{D:jam}{wi:TI}{g:TG}{tb:TS}{tl:TE}{ta:TA}
def FOR(J:It)(g:TG)(tb:TS)(D:jam)(σ:L2.St)(H:Hp):Prop:=∃W:Nat->Nat->L2.St->Hp->Prop,(∃m,W 0 m σ H)/\∀i m σ H,W i m σ H->
 (J.stop i H/\D.nx σ H)\/(J.go i H/\∃N:L2.St->Hp->Prop,(∀σ' H',N σ' H'->∃m',m'<m/\W (i+1) m' σ' H')/\∀x H',J.yld i H x H'->g x σ H' fun σ2 H2=>tb {D with nx:=N,ct:=N,bk:=D.nx} σ2 H2)
def ju8(K:uY)(x:V)(H:Hp)(R:It->Hp->Prop):Prop:=∃a,x=.ref a/\(∃xs,SqL K H a xs)/\R (Itl K a) H
def ju9(vs:List V)(H:Hp)(R:It->Hp->Prop):Prop:=∃j:Int,vs=[.int j]/\-(2^62)<=j/\j<2^62/\R (Itr 0 j.toNat) H
def jtd(h:wi σ H fun J H1=>FOR J g tb D σ H1):jux wi g tb D σ H:=h
def jwj(h:tl σ H fun x H1=>ju8 K x H1 R):jo6 K tl σ H R:=h
def jwk(h:ta σ H fun vs H1=>ju9 vs H1 R):jo7 ta σ H R:=h
def jte(hS:SqL K H a xs)(h:R (Itl K a) H):ju8 K (.ref a) H R:=⟨a,rfl,⟨xs,hS⟩,h⟩
def jtf{j:Int}(h0: -(2^62)<=j)(h1:j<2^62)(h:R (Itr 0 j.toNat) H):ju9 [.int j] H R:=⟨j,rfl,h0,h1,h⟩
def qf0{a:Addr}{xs:List V}(Pv:Nat->L2.St->Hp->Prop)(h0:Pv 0 σ H)(hl:∀i σ H,i<=xs.length->Pv i σ H->SqL K H a xs)
  (hs:∀i x σ H,xs[i]?=some x->Pv i σ H->g x σ H fun σ2 H2=>tb {nx:=Pv (i+1),rt:=D.rt,bk:=D.nx,ct:=Pv (i+1)} σ2 H2)(hd:∀σ H,Pv xs.length σ H->D.nx σ H):FOR (Itl K a) g tb D σ H:=jiy Pv h0 hl hs hd
def qcx{lo:Int}{n:Nat}(Pv:Nat->L2.St->Hp->Prop)(h0:Pv 0 σ H)
  (hs:∀(i:Nat) σ H,i<n->Pv i σ H->g (.int (lo+i)) σ H fun σ2 H2=>tb {nx:=Pv (i+1),rt:=D.rt,bk:=D.nx,ct:=Pv (i+1)} σ2 H2)(hd:∀σ H,Pv n σ H->D.nx σ H):FOR (Itr lo n) g tb D σ H:=jfe Pv h0 hs hd
end
def qa7{o':HO}(h:H a=some o)(n:H p=none):upd H p o' a=some o:=by rw[qa9 (qa8 h n)];exact h
def qe0{K:uY}(h:SqL K H a xs)(n:H p=none):SqL K (upd H p o) a xs:=(qa4 n o).seq h
def qgq{H0:Hp}(h:qas H0 H)(n:H p=none):qas H0 (upd H p o):=h.trans (qa4 n o)
def i_t[Decidable c](h:c)(hA:A):if decide c=true then A else B:=by rw[iP h];exact qez hA
def i_f[Decidable c](h:¬c)(hB:B):if decide c=true then A else B:=by rw[iQ h];exact jkl hB
def i_2[Decidable c](h1:c->A)(h2:¬c->B):if decide c=true then A else B:=by
 by_cases h:c
 .exact i_t h (h1 h)
 .exact i_f h (h2 h)
def jwl[Decidable c](h:¬c)(hA:A):if(!decide c)=true then A else B:=by rw[iQ h];exact qez hA
def jwm[Decidable c](h:c)(hB:B):if(!decide c)=true then A else B:=by rw[iP h];exact jkl hB
def jwn(h:B):if(!true)=true then A else B:=h
def jwo(h:A):if(!false)=true then A else B:=qez h
def jjb{b:Bool}(h1:b=true->A)(h2:b=false->B):if b=true then A else B:=by
 cases b
 .exact jkl (h2 rfl)
 .exact qez (h1 rfl)
noncomputable def jkr{α:Type}(f:α->Prop):List α->Prop
 | []=>True
 |a::l=>f a/\jkr f l
theorem jkr.mem{α:Type}{f:α->Prop}:∀{l:List α},jkr f l->∀a∈l,f a
 | [],_,_,h=>absurd h (by simp)
 |b::l,h,a,m=>by
  rcases zP.mp m with rfl|m
  .exact h.1
  .exact jkr.mem h.2 a m
noncomputable def qc9(caps:List Nat)(σ:L2.St):L2.St:=caps.map fun j=>(σ[j]?).getD none
def jpp(acc:Addr)(N:Hp->Prop)(y:V)(H:Hp):Prop:=∃ys,H acc=some (.lst ys)/\ys.length<sizeLine/\N (upd H acc (.lst (ys++[y])))
def jse(J:It)(caps:List Nat)(tt:TT)(te:TE)(acc:Addr)(σ:L2.St)(H:Hp)(Q:VK):Prop:=∃W:Nat->Nat->Hp->Prop,(∃m,W 0 m H)/\∀i m H,W i m H->
 (J.stop i H/\Q (.ref acc) H)\/(J.go i H/\∃N:Hp->Prop,(∀H',N H'->∃m',m'<m/\W (i+1) m' H')/\∀v H',J.yld i H v H'->tt (some v::qc9 caps σ) H' fun b H2=>
  if b=true then te (some v::qc9 caps σ) H2 fun y H3=>jpp acc N y H3 else N H2)
abbrev CT(α:Type):=Addr->uD->Hp->List Addr->α
noncomputable def jjc(wi:TI)(caps:List Nat)(tt:CT TT)(te:CT TE):TE:=fun σ H Q=>wi σ H fun J H1=>∀(C:Addr)(s:uD)(H0:Hp)(fp:List Addr)(acc:Addr),H1 acc=none->jse J caps (tt C s H0 fp) (te C s H0 fp) acc σ (upd H1 acc (.lst [])) Q
noncomputable def jpq:TT:=fun _ H Q=>Q true H
def jpr(X:Cx)(ifs:List vT)(t:TT):Prop:=
 ∀(pins:List (Addr×Obj))(s:uD)(σ:L2.St)(H:Hp)(Q:Bool->Hp->Prop),Inv X pins σ H s->t σ H Q->
  uM (uP X.prog X.w) X.A (forIn ifs true fun c r=>if r=true then do let ok<-isTrue c X.env (wQ c X.env);pure (eJ ok) else pure (eJ r)) (TP X pins σ Q) X.xe s
def qd7:jpr X [] jpq:=fun pins s σ H Q I h=>wpAny_tests_nil ⟨H,I,h⟩
def jks{c:vT}{t:TT}(h:PT X c t):jpr X [c] t:=fun pins s σ H Q I hw=>wpAny_tests_one (h pins s σ H Q I hw)
noncomputable def cxC(X:Cx)(N:List Str)(scope:bJ)(cl:List (Str×Addr))(C:Addr)(s:uD)(H:Hp)(fp:List Addr):Cx where
 prog:=X.prog
 w:=X.w
 K:=X.K
 mg:=X.mg
 base:=X.base
 A:=X.A
 N:=N
 s₀:=s
 H₀:=H
 env:=cJ scope cl C X.env
 outer:=X.stack
 stack:=X.stack
 ex:=fp
 fn:=fun _=>false
 calm:=X.calm
 pn:=[]
 xe:=fun _ _=>False
structure jps(X:Cx)(x:Str)(scope:bJ)(cl:List (Str×Addr))(caps:List Nat)(cn:List Str):Prop where
 clos:closureFor scope X.env=pure cl
 kind:scope.kind=.function
 cell:∀y∈scope.names,y.2≠ .cell
 names:∀y∈scope.names,y.2=.local->scope.names.lookup y.1=some .local
 tg:scope.names.lookup x=some .local
 sub:∀y c,cl.lookup y=some c->X.env.cells.lookup y=some c
 has:∀y,((hJ scope X.env).names.lookup y=some .cell\/(hJ scope X.env).names.lookup y=some .free)->∃c,cl.lookup y=some c
 len:caps.length=cn.length
 cap:∀(k:Nat)(y:Str)(j:Nat),cn[k]?=some y->caps[k]?=some j->X.N[j]?=some y/\X.env.kindOf y=some .cell/\(hJ scope X.env).names.lookup y=some .cell/\X.env.scope.names.lookup y=some .cell/\∃c,cl.lookup y=some c
 nd:(x::cn).Nodup
section
variable{X:Cx}{pins:List (Addr×Obj)}{σ:L2.St}{H:Hp}{s:uD}
def Inv.comp{x:Str}{scope:bJ}{cl:List (Str×Addr)}{caps:List Nat}{cn:List Str}(Cp:jps X x scope cl caps cn)(I:Inv X pins σ H s){fp:List Addr}(hf:∀b∈fp,jct X pins H b)(hlt:∀b∈fp,b<↑s){h₁:vS}{t':Nat}
  (hns:h₁.Ns ↑s (fun _=>none))(k:∀b o,s.heap.get? b=some o->h₁.get? b=some o):
  Inv (cxC X (x::cn) scope cl ↑s s H fp) [] (none::qc9 caps σ) H {s with heap:=h₁,toks:=t'}:=by
 have cne:∀y c,cl.lookup y=some c->∃v,s.heap.IsCell c v:=fun y c e=>I.cell y c (Cp.sub y c e);have ltC:∀y c,cl.lookup y=some c->c<↑s:=fun y c e=>let ⟨v,q⟩:=cne y c e;q.lt
 have isC:∀c v,s.heap.IsCell c v->h₁.IsCell c v:=fun c v ⟨o,e,d⟩=>⟨o,k c o e,d⟩;refine⟨⟨I.ok.mod,Cp.kind,I.ok.glob,I.ok.blt,uG _,fun y z c e1 e2=>I.ok.inj y z c (Cp.sub y c e1) (Cp.sub z c e2),fun y hy=>Cp.has y hy,fun y c z=>(uL z).elim,I.ok.hd,I.ok.frames,.inl rfl,
  fun b hb=>⟨vM (hlt b hb),fun y c e z=>?_⟩,I.bs,wG I.ok.bsz I.sz,fun b o e hb=>?_,fun b hb z=>?_,I.stack,I.stkFree⟩,
  rfl,I.bare,Un.kept k,⟨_,hns,fun i y v e1 e2 e3=>?_⟩,fun y c e=>?_,I.hok.fresh (uG _),fun y c e=>I.freeC y c (Cp.sub y c e),fun p hp=>absurd (show p∈([]:List (Addr×Obj)) from hp) (by simp),I.hok.kept k,?_⟩
 .exact(hf b hb).2.2.2.2.1 y c (Cp.sub y c e) z
 .rcases(hf b hb).2.2.2.1 with z|z
  .exact I.ok.noex b o e z
  .exact absurd (vN (uV e) (wG I.ok.bsz z)) (wO _)
 .rcases zP.mp (I.stkSub b z) with z|z
  .exact(hf b hb).2.1 z
  .exact(hf b hb).2.2.1 z
 .cases i with
  |zero=>cases e2
  |succ i=>
   have e1':cn[i]?=some y:=by simpa[cxC] using e1
   have e2':(qc9 caps σ)[i]?=some (some v):=by simpa using e2
   unfold qc9 at e2';rw[zC] at e2';obtain⟨j,hj,ej⟩:=vQ.mp e2';obtain⟨c1,c2,c3,c5,c,c4⟩:=Cp.cap i y j e1' hj
   cases hs:σ[j]? with
   |none=>rw[hs] at ej;cases ej
   |some w=>
    rw[hs] at ej;have ej':w=some v:=ej;subst ej';obtain⟨m,hn,hl⟩:=I.loc;obtain⟨u,r,l⟩:=hl j y v c1 hs (.inr (.inl c5));refine⟨u,r,.inr ⟨.inl c3,c,c4,?_⟩⟩;rcases l with⟨l,_⟩|⟨_,c',e',q⟩
    .rw[c2] at l;cases l
    .rw[Cp.sub y c c4] at e'
     cases e'
     exact isC _ _ q
 .obtain⟨v,q⟩:=cne y c e;exact⟨v,isC c v q⟩
 .show(none::qc9 caps σ).length=(x::cn).length;rw[zI,zI];unfold qc9;rw[zB,Cp.len]
def Inv.uncomp{N:List Str}{scope:bJ}{cl:List (Str×Addr)}{C:Addr}{σ':L2.St}{H':Hp}{s':uD}{fp:List Addr}(I:Inv X pins σ H s)(hf:∀b∈fp,jct X pins H b)(hC:C=↑s)
  (J:Inv (cxC X N scope cl C s H fp) [] σ' H' s'){h':vS}(sb:yZ C s'.heap h'):Inv X pins σ H' {s' with heap:=h'}:=by
 have ne:∀b o,s.heap.get? b=some o->b≠C:=fun b o e=>by rw[hC];exact vM (uV e)
 have u:Un (frs X.stack) fp H H' s.heap s'.heap:=J.base;have hok:HOk X.prog X.w H' h':=fun b o e=>by
  refine(J.hok b o e).stay (fun c u' hc q=>(sb.2 c ?_).trans q) (fun _ q=>q) fun _ _ q=>q;intro z;have n:H' C=none:=J.free;rcases hc with hc|hc
  .rw[<-hc,z,n] at e;cases e
  .rw[z,n] at hc;cases hc
 refine I.call' (s':={s' with heap:=h'}) (ch:=fp) J.os ⟨fun b o e n hb hx=>(sb.2 b (ne b o e)).trans (u.keep b o e n hb hx),fun b o e n hb hx=>?_,u.free,fun b o e hx=>?_,u.tups,u.frzs,u.tbls⟩ hok J.bare fun b hb=>?_
 .obtain⟨sl,q⟩:=u.slot b o e n hb hx;exact⟨sl,(sb.2 b (ne b o e)).trans q⟩
 .obtain⟨o',q⟩:=u.there b o e hx;exact⟨o',(sb.2 b (ne b o e)).trans q⟩
 .obtain⟨f0,f1,f2,f3,f4,f5⟩:=hf b hb;exact⟨f3,f1,f4,f5⟩
end
section
variable{X:Cx}
def jdt{elt iter:vT}{x:Str}{px:Pos}{ifs:List vT}{scope:bJ}{cl:List (Str×Addr)}{pos:Pos}{caps:List Nat}{cn:List Str}{tt:CT TT}{te:CT TE}(Cp:jps X x scope cl caps cn)(hc:X.calm=true)
  (ht:∀C s H fp,jpr (cxC X (x::cn) scope cl C s H fp) ifs (tt C s H fp)){pins:List (Addr×Obj)}{σ:L2.St}{Q:VK}{itv:uB}{s2:uD}{us:Option (uB->Sem Unit)}{P:uB->uD->Prop}
  (h2:PIE X pins σ (.Name x px) (fun J H1=>∀(C:Addr)(s:uD)(H0:Hp)(fp:List Addr)(acc:Addr),H1 acc=none->jse J caps (tt C s H0 fp) (te C s H0 fp) acc σ (upd H1 acc (.lst [])) Q) itv s2)
  (he:∀(acc:Addr)(s3:uD)(H3:Hp)(fp:List Addr),Inv X pins σ H3 s3->(∀b∈fp,jct X pins H3 b)->∀(pn:List (Addr×Obj))(s9:uD)(τ:L2.St)(H9:Hp)(R:VK),Inv (cxC X (x::cn) scope cl ↑s3 s3 H3 fp) pn τ H9 s9->te ↑s3 s3 H3 fp τ H9 R->
   uM (uP X.prog X.w) X.A (wQ elt (cJ scope cl ↑s3 X.env)) (EP (cxC X (x::cn) scope cl ↑s3 s3 H3 fp) pn τ R) (notedBy (uP X.prog X.w) X.A (cJ scope cl ↑s3 X.env) fun e s'=>compPost (uP X.prog X.w) X.A X.xe us P (.ref acc) ↑s3 (.error e) s') s9)
  (hd:∀(acc:Addr)(s3:uD)(H3:Hp)(fp:List Addr),Inv X pins σ H3 s3->(∀b∈fp,jct X pins H3 b)->∀(τ:L2.St)(H5:Hp)(s6:uD)(v:Flow),Inv (cxC X (x::cn) scope cl ↑s3 s3 H3 fp) [] τ H5 s6->Q (.ref acc) H5->compPost (uP X.prog X.w) X.A X.xe us P (.ref acc) ↑s3 (.ok v) s6):
  uM (uP X.prog X.w) X.A (newList []) (fun acc s3=>uM (uP X.prog X.w) X.A (newFunctionEnv scope X.env.globals cl [] X.env.qual none .none (some X.env)) (fun ce s4=>
   aT (uP X.prog X.w) X.A (.compStart (.ListComp elt [⟨.Name x px,iter,ifs,0⟩] scope pos) 0 itv acc {ce with scope:=hJ scope X.env}) (compPost (uP X.prog X.w) X.A X.xe us P acc ce.locals) s4) X.xe s3) X.xe s2:=by
 obtain⟨it,fp,tn,J,H2,e,I2,T,st2,f2,R⟩:=h2;subst e;have hacc:H2 ↑s2=none:=I2.hok.fresh (uG _);refine bT ?_;have I3:Inv X pins σ (upd H2 ↑s2 (.lst [])) {s2 with heap:=s2.heap.push {cls:=.type "list",dict:=none,data:=.seq ([]:List uB).toArray}}:=Inv.lnew (its:=[]) (t':=s2.toks) I2 .nil (wV _);have lt2:∀b∈fp,b<↑s2:=fun b hb=>let ⟨o,e,_⟩:=T.obj _ _ st2 b hb;uV e
 have f3:∀b∈fp,jct X pins (upd H2 ↑s2 (.lst [])) b:=fun b hb=>⟨by rw[qa9 (vM (lt2 b hb))];exact(f2 b hb).1,(f2 b hb).2⟩;have st3:tn 0 (s2.heap.push {cls:=.type "list",dict:=none,data:=.seq ([]:List uB).toArray}):=T.keep _ _ _ st2 fun b _ o e=>uF _ e;generalize hs3:({s2 with heap:=s2.heap.push {cls:=.type "list",dict:=none,data:=.seq ([]:List uB).toArray}}:uD)=s3 at I3⊢;have st3':tn 0 s3.heap:=by rw[<-hs3];exact st3
 generalize ↑s2=acc at hacc I3 f3⊢;obtain⟨W,⟨m0,w0⟩,turn⟩:=R ↑s3 s3 (upd H2 acc (.lst [])) fp acc hacc;have lt3:∀b∈fp,b<↑s3:=fun b hb=>let ⟨o,e,_⟩:=T.obj _ _ st3' b hb;uV e
 clear st3 hs3;refine wpAny_newFunctionEnv Cp.cell (by intro y hy;simp at hy) (fun h₁ hns hsb=>?_) Cp.kind;have k1:∀b o,s3.heap.get? b=some o->h₁.get? b=some o:=fun b o e=>hsb.extBut b o (vM (uV e)) (uF _ e);have I4:Inv (cxC X (x::cn) scope cl ↑s3 s3 (upd H2 acc (.lst [])) fp) [] (none::qc9 caps σ) (upd H2 acc (.lst [])) {s3 with heap:=h₁,toks:=s3.toks+([]:List (Str×uB)).length}:=
  Inv.comp Cp I3 f3 lt3 hns k1
 have st4:tn 0 h₁:=T.keep _ _ _ st3' fun b _ o e=>k1 b o e;generalize hX:cxC X (x::cn) scope cl ↑s3 s3 (upd H2 acc (.lst [])) fp=X' at I4;have stat:∀{H':Hp},(∀b∈fp,H' b=none)->∀b∈fp,jct X' [] H' b:=fun hn b hb=>by
  subst hX;obtain⟨g0,g1,g2,g3,g4,g5⟩:=f3 b hb;refine⟨hn b hb,vM (lt3 b hb),fun z=>?_,.inl hb,fun y c e=>g4 y c (Cp.sub y c e),fun p hp=>absurd (show p∈([]:List (Addr×Obj)) from hp) (by simp)⟩;rcases zP.mp (I3.stkSub b z) with z|z
  .exact g1 z
  .exact g2 z
 have core:aT (uP X.prog X.w) X.A (.compLoop (.ListComp elt [⟨.Name x px,iter,ifs,0⟩] scope pos) 0 (.ref it) (.ref acc) (cJ scope cl ↑s3 X.env))
   (compPost (uP X.prog X.w) X.A X.xe us P (.ref acc) ↑s3) {s3 with heap:=h₁,toks:=s3.toks+([]:List (Str×uB)).length}:=by
  refine codeAny_loop rfl (fun n s'=>∃i a H',Inv X' [] (a::qc9 caps σ) H' s'/\tn i s'.heap/\(∀b∈fp,H' b=none)/\W i n H') (fun n s5 hI=>?_) m0 ⟨0,none,_,I4,st4,fun b hb=>(f3 b hb).1,w0⟩;obtain⟨i,a0,H5,I5,st5,fr5,w5⟩:=hI;show uM _ _ ((compTurn _ 0 _ _ _).onRaise _) _ _ s5;refine wpAny_noted ?_;rw[compTurn_list];refine uA (aF (uA ?_));have aX:X'.A=X.A:=by subst hX;rfl
  have pX:X'.prog=X.prog:=by subst hX;rfl
  have wX:X'.w=X.w:=by subst hX;rfl
  have kX:X'.K=X.K:=by subst hX;rfl
  have cX:X'.calm=true:=by subst hX;exact hc
  have eX:X'.env=cJ scope cl ↑s3 X.env:=by subst hX;rfl
  rcases turn i n H5 w5 with⟨stop,qn⟩|⟨go,N,hN,step⟩
  .have z:=T.done X' pX wX kX cX i [] s5 _ H5 (fun _ _=>False) I5 (stat fr5) st5 stop;rw[aX] at z;refine vR z (fun r s6 h9=>?_) fun _ _ q=>q.elim;obtain⟨hr,I6⟩:=h9;subst hr;subst hX;exact uE (hd acc s3 _ fp I3 f3 _ H5 s6 _ I6 qn)
  .have z:=T.item X' pX wX kX cX i [] s5 _ H5 (fun _ _=>False) I5 (stat fr5) st5 go;rw[aX] at z;refine vR z (fun r s6 h9=>?_) fun _ _ q=>q.elim;obtain⟨u,hr,h6⟩:=h9;subst hr;refine uA (vR h6 (fun _ s7 h9=>?_) fun _ _ q=>q.elim);obtain⟨v,H7,I7,r7,y7,st7,fr7⟩:=h9;have I7':=I7.pinned (stat fr7) (T.obj _ _ st7);have asg:uM (uP X.prog X.w) X.A (iE (.Name x px) (cJ scope cl ↑s3 X.env) u) (fun _ s8=>Inv X' ([]++qea fp s7.heap) (some v::qc9 caps σ) H7 s8) (fun _ _=>False) s7:=by
    subst hX;exact gT (qf5 (X:=cxC X (x::cn) scope cl ↑s3 s3 (upd H2 acc (.lst [])) fp) (i:=0) I7' Cp.nd rfl (.inl (lookup_relabel_local Cp.tg)) r7 (fun s' I'=>I') (.inr (lookup_relabel_local Cp.tg)))
   refine uA (vR asg (fun _ s8 I8=>?_) fun _ _ q=>q.elim);have tst:uM (uP X.prog X.w) X.A (forIn ifs true fun c r=>if r=true then do let ok<-isTrue c (cJ scope cl ↑s3 X.env) (wQ c (cJ scope cl ↑s3 X.env));pure (eJ ok) else pure (eJ r))
     (TP X' ([]++qea fp s7.heap) (some v::qc9 caps σ) (fun b H9=>if b=true then te ↑s3 s3 (upd H2 acc (.lst [])) fp (some v::qc9 caps σ) H9 (fun y H3=>jpp acc N y H3) else N H9)) (fun _ _=>False) s8:=by
    subst hX;exact ht _ _ _ _ _ s8 _ H7 _ I8 (step v H7 y7)
   refine uA (vR tst (fun b s9 h9=>?_) fun _ _ q=>q.elim);obtain⟨H9,I9,q9⟩:=h9;have fin:∀{a:Option V} {H10:Hp} {s10:uD},Inv X' ([]++qea fp s7.heap) (a::qc9 caps σ) H10 s10->N H10->∃m',m'<n/\∃i a H',Inv X' [] (a::qc9 caps σ) H' s10/\tn i s10.heap/\(∀b∈fp,H' b=none)/\W i m' H':=fun {a H10 s10} I10 n10=>
    let ⟨m',hm,w10⟩:=hN _ n10
    ⟨m',hm,i+1,a,H10,I10.unpinned,T.keep _ _ _ st7 fun b hb o e=>(I10.pin (b,o) (zO _ (zO _ (qdo hb e)))).1,fun b hb=>by
     obtain⟨o,e,d⟩:=T.obj _ _ st7 b hb;exact(I10.pin (b,o) (zO _ (zO _ (qdo hb e)))).2.1,w10⟩
   cases b with
   |false=>exact uE ⟨rfl,fin I9 q9⟩
   |true=>
    have elt':uM (uP X.prog X.w) X.A (wQ elt (cJ scope cl ↑s3 X.env)) (EP X' ([]++qea fp s7.heap) (some v::qc9 caps σ) (fun y H3=>jpp acc N y H3)) (notedBy (uP X.prog X.w) X.A (cJ scope cl ↑s3 X.env) fun e s'=>compPost (uP X.prog X.w) X.A X.xe us P (.ref acc) ↑s3 (.error e) s') s9:=by
     subst hX;exact he acc s3 _ fp I3 f3 _ s9 _ H9 _ I9 q9
    refine uA (uA (vR elt' (fun y s10 h9=>?_) fun _ _ q=>q));obtain⟨w,H10,I10,r10,ys,ha,hz,q10⟩:=h9;have app:uM (uP X.prog X.w) X.A (call (.builtin "list.append") [.ref acc,y]) (EP X' ([]++qea fp s7.heap) (some v::qc9 caps σ) fun _ H11=>H11=upd H10 acc (.lst (ys++[w]))) (fun _ _=>False) s10:=by
     subst hX;exact qba (X:=cxC X (x::cn) scope cl ↑s3 s3 (upd H2 acc (.lst [])) fp) _ s10 _ H10 (.ref acc) [w] (.ref acc) [y] _ I10 rfl (.cons r10 .nil) ⟨acc,ys,w,rfl,rfl,ha,hz,rfl⟩
    refine uA (vR app (fun _ s11 h9=>?_) fun _ _ q=>q.elim);obtain⟨_,H11,I11,_,e11⟩:=h9;subst e11;exact uE (uE ⟨rfl,fin I11 q10⟩)
 exact codeAny_compStart_list core (T.self _ 0 _ _ _ st4 core)
def qdg{elt iter:vT}{x:Str}{px:Pos}{ifs:List vT}{scope:bJ}{cl:List (Str×Addr)}{pos:Pos}{caps:List Nat}{cn:List Str}{wi:TI}{tt:CT TT}{te:CT TE}(Cp:jps X x scope cl caps cn)(hc:X.calm=true)
  (hi:PI X (.Name x px) iter wi)(ht:∀C s H fp,jpr (cxC X (x::cn) scope cl C s H fp) ifs (tt C s H fp))(he:∀C s H fp,PE (cxC X (x::cn) scope cl C s H fp) elt (te C s H fp))
  (hs:∀x,gU iter X.env x=pure x:=by intro _;rfl):
  PE X (.ListComp elt [⟨.Name x px,iter,ifs,0⟩] scope pos) (jjc wi caps tt te):=by
 intro pins s σ H Q I h;rw[eval_ListComp];refine wpAny_comprehension_free (use:=none) rfl hs Cp.clos Cp.kind Cp.names (thn (hi pins s σ H _ I h) fun v s1 h1=>thn h1 fun itv s2 h2=>jdt Cp hc ht h2 (fun acc s3 H3 fp I3 f3 pn s9 τ H9 R I9 q9=>vR (he _ _ _ _ pn s9 τ H9 R I9 q9) (fun _ _ q=>q) fun _ _ q=>q.elim) fun acc s3 H3 fp I3 f3 τ H5 s6 v I6 q=>?_);obtain⟨m,hm,_⟩:=id I6.loc;exact⟨m,hm,fun h' sb=>⟨.ref acc,H5,Inv.uncomp I3 f3 rfl I6 sb,rfl,q⟩⟩
noncomputable def Its(x:Str):It:=⟨fun i _=>i<x.cps.size,fun i H v H'=>H'=H/\∃c,x.cps[i]?=some c/\v=.str ⟨#[c]⟩,fun i _=>i=x.cps.size⟩
def jdu{P:uI}{w:vA}{K:uY}{y:Str}{py:Pos}(x:Str)(t:Tok)(it:Addr)(ty:String)(W:∀A:vI,A.handled=none->Walks P w A it [it] [it] x.cps.size (SignAt x) (fun i h=>h.IsStrIter it ty x t i))
  (hself:∀(A:vI)(i:Nat)(s:uD)(Q:uB->uD->Prop)(E:uB->uD->Prop),s.heap.IsStrIter it ty x t i->Q (.ref it) s->uM (uP P w) A (pyIter (.ref it)) Q E s):
  jke P w K (.Name y py) (Its x) [it] it (fun i h=>h.IsStrIter it ty x t i) where
 mem:=by simp
 obj:=fun i h st b hb=>by
  have e:b=it:=by simpa using hb
  subst e;obtain⟨o,e,c,d⟩:=st;exact⟨o,e,fun v z=>by rw[d] at z;cases z⟩
 keep:=fun i h h' ⟨o,e,r⟩ k=>⟨o,k it (by simp) o e,r⟩
 item:=by
  intro X hP hw hK hc i pins s σ H E I hf st hg;subst hP hw hK;obtain⟨f0,f1,f2,f3,f4,f5⟩:=hf it (by simp);refine(W X.A (I.ok.hd hc)).item i s _ _ hg st fun v h' tk hv st' k=>?_;have I1:Inv X pins σ H {s with heap:=h',toks:=tk}:=I.turned (t':=tk) (fun b o hb e=>k b o (fun z=>hb (by simpa using z)) e) f0 f1 f3 f4 f5;obtain⟨c,u,hx,rfl⟩:=hv;exact⟨_,rfl,uE ⟨.str ⟨#[c]⟩,H,I1,⟨_,rfl⟩,⟨rfl,c,hx,rfl⟩,st',fun b hb=>(hf b hb).1⟩⟩
 done:=by
  intro X hP hw hK hc i pins s σ H E I hf st hg;subst hP hw hK;have hg':i=x.cps.size:=hg;subst hg';obtain⟨f0,f1,f2,f3,f4,f5⟩:=hf it (by simp);exact(W X.A (I.ok.hd hc)).done s _ _ st fun h' tk k=>⟨rfl,I.turned (t':=tk) (fun b o hb e=>k b o (fun z=>hb (by simpa using z)) e) f0 f1 f3 f4 f5⟩
 self:=hself
def jtg(v:V)(H:Hp)(R:It->Hp->Prop):Prop:=∃x,v=.str x/\R (Its x) H
noncomputable def jva(tl:TE):TI:=fun σ H R=>tl σ H fun v H1=>jtg v H1 R
end
end My
namespace L2
open PySem PySem.Spec PyProof.Rows
section
variable{κ:Type}[DecidableEq κ]
noncomputable def qco(kvs:List (κ×V))(k:κ):Option V:=(kvs.find? fun kv=>decide (kv.1=k)).map (·.2)
noncomputable def qcs(kvs:List (κ×V))(k:κ)(v:V):List (κ×V):=
 if(kvs.any fun kv=>decide (kv.1=k))=true then kvs.map (fun kv=>if kv.1=k then(kv.1,v) else kv) else kvs++[(k,v)]
def qbx{p:κ×V}{r:List (κ×V)}{k:κ}(e:p.1=k):qco (p::r) k=some p.2:=by simp[qco,yK,e]
def qby{p:κ×V}{r:List (κ×V)}{k:κ}(e:¬p.1=k):qco (p::r) k=qco r k:=by simp[qco,yK,e]
theorem qcn(k:κ):∀kvs:List (κ×V),(kvs.any fun kv=>decide (kv.1=k))=(qco kvs k).isSome
 | []=>rfl
 |p::r=>by
  rw[yU];by_cases e:p.1=k
  .simp only[qbx e,iP e,Bool.true_or,Option.isSome_some]
  .rw[qby e,iQ e,Bool.false_or];exact qcn k r
theorem jdv(k j:κ)(y:V):∀kvs:List (κ×V),qco (kvs.map fun kv=>if kv.1=k then(kv.1,y) else kv) j=(qco kvs j).map fun x=>if j=k then y else x
 | []=>rfl
 |p::r=>by
  have ih:=jdv k j y r;rw[zS];by_cases h:p.1=k
  .rw[iO h];by_cases e:p.1=j
   .rw[qbx (p:=(p.1,y)) e,qbx e,eK,iO (e.symm.trans h)]
   .rw[qby (p:=(p.1,y)) e,qby e,ih]
  .rw[iN h];by_cases e:p.1=j
   .rw[qbx (p:=p) e,qbx e,eK,iN (fun z=>h (e.trans z))]
   .rw[qby (p:=p) e,qby e,ih]
theorem jcb(k j:κ)(y:V):∀kvs:List (κ×V),qco kvs k=none->qco (kvs++[(k,y)]) j=if j=k then some y else qco kvs j
 | [],_=>by
  by_cases e:k=j
  .rw[iO e.symm];exact qbx (p:=(k,y)) e
  .rw[iN (fun z=>e z.symm)];exact qby (p:=(k,y)) e
 |p::r,hn=>by
  rw[List.cons_append];have hk:¬p.1=k:=fun z=>by rw[qbx z] at hn;cases hn
  rw[qby hk] at hn;have ih:=jcb k j y r hn;by_cases e:p.1=j
  .rw[qbx e,qbx e,iN (fun z=>hk (e.trans z))]
  .rw[qby e,qby e,ih]
def jdw(kvs:List (κ×V))(k j:κ)(y:V):qco (qcs kvs k y) j=if j=k then some y else qco kvs j:=by
 unfold qcs;by_cases a:(kvs.any fun kv=>decide (kv.1=k))=true
 .rw[iO a,jdv];rw[qcn] at a;by_cases e:j=k
  .obtain⟨x,hx⟩:=bF.mp a;rw[iO e,e,hx,eK,iO rfl]
  .rw[iN e]
   cases qco kvs j with
   |none=>rfl
   |some x=>rw[eK,iN e]
 .rw[iN a];refine jcb k j y kvs ?_;rw[qcn] at a
  cases q:qco kvs k with
  |none=>rfl
  |some x=>rw[q] at a;exact(a rfl).elim
def qbo(kvs:List (κ×V))(k:κ)(v:V):(qcs kvs k v).length<=kvs.length+1:=by
 unfold qcs
 split
 .rw[zB];omega
 .rw[zH,zI,yF];omega
def jjd{kvs:List (κ×V)}{k:κ}(v:V)(h:qco kvs k=none):qcs kvs k v=kvs++[(k,v)]:=by
 unfold qcs;rw[qcn,h];exact iN ∅
def qf1.isSome_eq{o:Option V}{u:Option uB}(r:qf1 o u):o.isSome=u.isSome:=by
 cases o with
 |none=>cases u with
  |none=>rfl
  |some _=>exact(show False from r).elim
 |some _=>cases u with
  |none=>exact(show False from r).elim
  |some _=>rfl
theorem qf1.getD{o:Option V}{u:Option uB}{d:V}{d':uB}(r:qf1 o u)(rd:qbb d d'):qbb (o.getD d) (u.getD d'):=by
 cases o with
 |none=>cases u with
  |none=>exact rd
  |some _=>exact(show False from r).elim
 |some _=>cases u with
  |none=>exact(show False from r).elim
  |some _=>exact r
def KV.val{kvs:List (κ×V)}{vs:List (κ×uB)}(r:KV kvs vs)(k:κ):qf1 (qco kvs k) (dX vs k):=by
 unfold KV at r
 induction r with
 |nil=>exact wF
 | @cons p q ps qs h t ih=>
  obtain⟨h1,h2⟩:=h;by_cases e:p.1=k
  .have e':q.1=k:=h1.symm.trans e;have b:dX (q::qs) k=some q.2:=by simp[dX,yK,e']
   rw[qbx e,b];exact h2
  .have e':¬q.1=k:=fun z=>e (h1.trans z);have b:dX (q::qs) k=dX qs k:=by simp[dX,yK,e']
   rw[qby e,b];exact ih
theorem KV.any{kvs:List (κ×V)}{vs:List (κ×uB)}(r:KV kvs vs)(k:κ):(kvs.any fun kv=>decide (kv.1=k))=vs.any fun kv=>decide (kv.1=k):=by
 unfold KV at r
 induction r with
 |nil=>rfl
 |cons h t ih=>rw[yU,yU,ih,h.1]
def KV.repl{kvs:List (κ×V)}{vs:List (κ×uB)}(r:KV kvs vs)(k:κ){y:V}{u:uB}(ry:qbb y u):
  KV (kvs.map fun kv=>if kv.1=k then(kv.1,y) else kv) (vs.map fun kv=>if kv.1=k then(kv.1,u) else kv):=by
 unfold KV at r⊢
 induction r with
 |nil=>exact .nil
 | @cons p q ps qs h t ih=>
  rw[zS,zS];refine .cons ?_ ih;obtain⟨h1,h2⟩:=h;by_cases e:p.1=k
  .rw[iO e,iO (h1.symm.trans e)];exact⟨h1,ry⟩
  .rw[iN e,iN (fun z=>e (h1.trans z))];exact⟨h1,h2⟩
def KV.put{kvs:List (κ×V)}{vs:List (κ×uB)}(r:KV kvs vs)(k:κ){y:V}{u:uB}(ry:qbb y u):KV (qcs kvs k y) (stored vs k u):=by
 unfold qcs stored;rw[r.any k];by_cases e:(vs.any fun kv=>decide (kv.1=k))=true
 .rw[iO e,iO e];exact r.repl k ry
 .rw[iN e,iN e];exact Paired.snoc r ⟨rfl,ry⟩
def KV.keys{kvs:List (κ×V)}{vs:List (κ×uB)}(r:KV kvs vs):kvs.map (·.1)=vs.map (·.1):=by
 unfold KV at r
 induction r with
 |nil=>rfl
 |cons h t ih=>rw[zS,zS,ih,h.1]
theorem KV.length{kvs:List (κ×V)}{vs:List (κ×uB)}(r:KV kvs vs):kvs.length=vs.length:=Paired.length r
end
def jew{P:uI}{w:vA}{k:Key}{u:uB}(r:qbb (kV k) u):(qb2 P w).is k u=true:=by
 cases k with
 |inl i=>obtain⟨t,e⟩:=(show ∃t,u=iD i t from r);subst e;exact jcr P w i t
 |inr x=>obtain⟨t,e⟩:=(show ∃t,u=fG x t from r);subst e;exact jcs P w x t
theorem jcc{P:uI}{w:vA}:∀{ks:List Key} {us:List uB},qbk (ks.map kV) us->ItemsAre (qb2 P w) ks us
 | [],_,r=>by rw[dS] at r;cases r;exact .nil
 |k::ks,_,r=>by
  rw[zS] at r
  cases r with
  |cons h t=>exact .cons (jew h) (jcc t)
abbrev KT(H:Hp):List (List Key×V)->List (List Key×Addr×uB)->Prop:=aM fun p q=>p.1=q.1/\H q.2.1=some (.tup (p.1.map kV))/\qbb p.2 q.2.2
def KT.val{H:Hp}{kvs:List (List Key×V)}{xs:List (List Key×Addr×uB)}(r:KT H kvs xs)(k:List Key):qf1 (qco kvs k) ((atKey xs k).map (·.2)):=by
 induction r with
 |nil=>exact wF
 | @cons p q ps qs h t ih=>
  obtain⟨h1,_,h2⟩:=h;by_cases e:p.1=k
  .have e':q.1=k:=h1.symm.trans e;have b:atKey (q::qs) k=some q.2:=by simp[atKey,yK,e']
   rw[qbx e,b];exact h2
  .have e':¬q.1=k:=fun z=>e (h1.trans z);have b:atKey (q::qs) k=atKey qs k:=by simp[atKey,yK,e']
   rw[qby e,b];exact ih
def KT.repl{H:Hp}{kvs:List (List Key×V)}{xs:List (List Key×Addr×uB)}(r:KT H kvs xs)(k:List Key){y:V}{u:uB}(ry:qbb y u):
  KT H (kvs.map fun kv=>if kv.1=k then(kv.1,y) else kv) (xs.map (putAt k u)):=by
 induction r with
 |nil=>exact .nil
 | @cons p q ps qs h t ih=>
  rw[zS,zS];refine .cons ?_ ih;obtain⟨h1,h2,h3⟩:=h;unfold putAt;by_cases e:p.1=k
  .rw[iO e,iO (h1.symm.trans e)];exact⟨h1,h2,ry⟩
  .rw[iN e,iN (fun z=>e (h1.trans z))];exact⟨h1,h2,h3⟩
def KT.put{H:Hp}{kvs:List (List Key×V)}{xs:List (List Key×Addr×uB)}(r:KT H kvs xs)(k:List Key){b:Addr}{y:V}{u:uB}(hb:H b=some (.tup (k.map kV)))(ry:qbb y u):
  KT H (qcs kvs k y) (storedH xs k b u):=by
 have e:(kvs.any fun kv=>decide (kv.1=k))=(atKey xs k).isSome:=by
  rw[qcn,(r.val k).isSome_eq,cW]
 unfold qcs storedH;rw[e];by_cases q:(atKey xs k).isSome=true
 .rw[iO q,iO q];exact r.repl k ry
 .rw[iN q,iN q];exact Paired.snoc r ⟨rfl,hb,ry⟩
def KT.keeps{H H':Hp}{kvs:List (List Key×V)}{xs:List (List Key×Addr×uB)}(r:KT H kvs xs)(ht:∀b ys,H b=some (.tup ys)->H' b=some (.tup ys)):KT H' kvs xs:=
 Paired.mapP r fun _ _ z=>⟨z.1,ht _ _ z.2.1,z.2.2⟩
section
variable{P:uI}{w:vA}{H:Hp}{h:vS}{a:Addr}
def jpt{u:HO}(ok:HOk P w H h)(e:Rd H a u):qbg P w H h a u:=e.ok ok
def qf2{kvs:List (Key×V)}(ok:HOk P w H h)(e:Rd H a (.dK kvs)):kvs.length<=sizeLine/\(a==wD)=false/\∃vs,KV kvs vs/\h.DictOf (qb2 P w) a vs:=
 show qbg P w H h a (.dK kvs) from jpt ok e
def jpu{kvs:List (Key×V)}(ok:HOk P w H h)(e:H a=some (.dK kvs)):kvs.length<=sizeLine/\(a==wD)=false/\∃vs,KV kvs vs/\h.DictOf (qb2 P w) a vs:=qf2 ok (.inl e)
def qga{ks:List Key}(ok:HOk P w H h)(e:H a=some (.tup (ks.map kV))):(fH (qb2 P w)).is h ks a:=by
 obtain⟨_,its,r,o,h1,h2,n,h3⟩:=(show qbg P w H h a (.tup (ks.map kV)) from ok a _ e);exact⟨o,its.toArray,n,h1,h2,h3,by simpa using jcc r⟩
def jex{kvs:List (List Key×V)}(ok:HOk P w H h)(e:Rd H a (.dT kvs)):kvs.length<=sizeLine/\(a==wD)=false/\
  ∃xs,KT H kvs xs/\h.DictOfH (fH (qb2 P w)) a xs:=by
 obtain⟨z,y,xs,r,o,es,ep,h1,h2,h3,h4,h5⟩:=(show qbg P w H h a (.dT kvs) from jpt ok e);refine⟨z,y,xs,r,o,es,ep,h1,h2,h3,h4,fun x hx=>?_,h5⟩;have all:∀{l:List (List Key×V)} {m:List (List Key×Addr×uB)},KT H l m->∀x∈m,(fH (qb2 P w)).is h x.1 x.2.1:=by
  intro l m q
  induction q with
  |nil=>intro x hx;exact nomatch hx
  | @cons p q ps qs hq t ih=>
   intro x hx;rcases zP.mp hx with e|hx
   .subst e;exact qga ok (by rw[<-hq.1];exact hq.2.1)
   .exact ih x hx
 exact all r x hx
def jth{kvs:List (List Key×V)}(ok:HOk P w H h)(e:H a=some (.dT kvs)):kvs.length<=sizeLine/\(a==wD)=false/\
  ∃xs,KT H kvs xs/\h.DictOfH (fH (qb2 P w)) a xs:=jex ok (.inl e)
end
def jit(H:Hp)(a:Addr)(y:V)(r:Option V):Prop:=
 (∃kvs k,Rd H a (.dK kvs)/\y=kV k/\r=qco kvs k)\/∃kvs k b,Rd H a (.dT kvs)/\y=.ref b/\H b=some (.tup (k.map kV))/\r=qco kvs k
def jms(H:Hp)(a:Addr)(y v:V)(H':Hp):Prop:=
 (∃kvs k,H a=some (.dK kvs)/\y=kV k/\kvs.length<sizeLine/\H'=upd H a (.dK (qcs kvs k v)))\/
 ∃kvs k b,H a=some (.dT kvs)/\y=.ref b/\H b=some (.tup (k.map kV))/\kvs.length<sizeLine/\H'=upd H a (.dT (qcs kvs k v))
theorem jms.k{H:Hp}{a:Addr}{kvs:List (Key×V)}{k:Key}{v:V}(e:H a=some (.dK kvs))(hl:kvs.length<sizeLine):jms H a (kV k) v (upd H a (.dK (qcs kvs k v))):=.inl ⟨kvs,k,e,rfl,hl,rfl⟩
section
variable{X:Cx}{pins:List (Addr×Obj)}{σ:St}{H:Hp}{s:uD}{a:Addr}{y v:V}{u r:uB}{o:Option V}{A:vI}{E:uB->uD->Prop}
def Inv.big(I:Inv X pins σ H s):wD<↑s:=by
 have h:vD<↑s:=(I.mod.glob.keeps I.bk).lt;exact Nat.lt_trans ∅ h
def jf6{Q:uB->uD->Prop}(hu:A.units+1<cLine)(I:Inv X pins σ H s)(g:jit H a y (some v))(ry:qbb y u)(h:∀w' s',Inv X pins σ H s'->qbb v w'->Q w' s'):
  uM (uP X.prog X.w) A (getItem (.ref a) u) Q E s:=by
 rcases g with⟨kvs,k,e,ey,l⟩|⟨kvs,k,b,e,ey,eb,l⟩
 .subst ey;obtain⟨z,hd,vs,rel,dd⟩:=qf2 I.hok e;obtain⟨w',hw,rw'⟩:=qf1.some_of (v:=v) (o:=dX vs k) (by rw[l];exact rel.val k);exact wpAny_getItem_of (jew ry) dd.mapOf hw (h w' _ (I.tok _) rw')
 .subst ey
  cases(show u=uS b from ry)
  obtain⟨z,hd,xs,rel,dd⟩:=jex I.hok e;obtain⟨w',hw,rw'⟩:=qf1.some_of (v:=v) (o:=(atKey xs k).map (·.2)) (by rw[l];exact rel.val k);obtain⟨p,hp,hp2⟩:=vQ.mp hw;refine wpAny_getItem_heap (cR hu) (qga I.hok eb) dd hp ?_;rw[hp2];exact h w' _ (I.tok _) rw'
def jwp{Q:uB->uD->Prop}(hu:A.units+1<cLine)(I:Inv X pins σ H s)(g:jit H a y o)(ry:qbb y u)(h:∀s',Inv X pins σ H s'->Q (.bool o.isSome) s'):
  uM (uP X.prog X.w) A (wA .In u (.ref a)) Q E s:=by
 rcases g with⟨kvs,k,e,ey,l⟩|⟨kvs,k,b,e,ey,eb,l⟩
 .subst ey;obtain⟨z,hd,vs,rel,dd⟩:=qf2 I.hok e;refine wpAny_in_of (jew ry) hd dd.mapOf ?_;rw[<-(rel.val k).isSome_eq,<-l];exact h _ (I.tok _)
 .subst ey
  cases(show u=uS b from ry)
  obtain⟨z,hd,xs,rel,dd⟩:=jex I.hok e;refine wpAny_in_heap (cR hu) (qga I.hok eb) hd dd ?_;have q:=(rel.val k).isSome_eq;rw[cW] at q;rw[<-q,<-l];exact h _ (I.tok _)
def qha{h':vS}{t':Nat}{ob:HO}(I:Inv X pins σ H s)(mu:Mut (H a))(hs:yZ a s.heap h')(he:∃q,h'.get? a=some q)(new:qbg X.prog X.w (upd H a ob) h' a ob):
  Inv X pins σ (upd H a ob) {s with heap:=h',toks:=t'}:=
 I.write (x:=a) (e:=a) mu (.inl rfl) (fun b q hb z=>(hs.2 b hb).trans z) he new
def jf7{P:uI}{w:vA}{H':Hp}{h':vS}{kvs:List (Key×V)}{vs:List (Key×uB)}(z:kvs.length<=sizeLine)(hd:(a==wD)=false)(rel:KV kvs vs)(dd:h'.DictOf (qb2 P w) a vs):
  qbg P w H' h' a (.dK kvs):=⟨z,hd,vs,rel,dd⟩
def jcd{H':Hp}{Q:Unit->uD->Prop}(hu:A.units+1<cLine)(I:Inv X pins σ H s)(g:jms H a y v H')(ry:qbb y u)(rv:qbb v r)(h:∀s',Inv X pins σ H' s'->Q () s'):
  uM (uP X.prog X.w) A (setItem (.ref a) u r) Q E s:=by
 rcases g with⟨kvs,k,e,ey,l,eH⟩|⟨kvs,k,b,e,ey,eb,l,eH⟩
 .subst ey eH;obtain⟨z,hd,vs,rel,dd⟩:=jpu I.hok e;have hz:vs.length<=sizeLine:=by rw[<-rel.length];exact z
  have hl:(qcs kvs k v).length<=sizeLine:=by have:=qbo kvs k v;omega
  refine wpAny_setItem_pairs (hsz:=hz) (jew ry) dd fun h' dd' hs=>h _ ?_;have he:∃q,h'.get? a=some q:=let ⟨q,_,_,hq,_⟩:=dd';⟨q,hq⟩
  exact qha I (by rw[e];exact wF) hs he (jf7 hl hd (rel.put k rv) dd')
 .subst ey eH
  cases(show u=uS b from ry)
  obtain⟨z,hd,xs,rel,dd⟩:=jth I.hok e;have hz:xs.length<=sizeLine:=by rw[<-Paired.length rel];exact z
  have hl:(qcs kvs k v).length<=sizeLine:=by have:=qbo kvs k v;omega
  refine wpAny_setItem_heap (hsz:=hz) (cR hu) (qga I.hok eb) dd fun h' dd' hs=>h _ ?_;obtain⟨q,es,ep,hq,h2,h3,h4,_,h5⟩:=dd';refine qha I (by rw[e];exact wF) hs ⟨q,hq⟩ ⟨hl,hd,_,(rel.put k eb rv).keeps fun c ys ec=>?_,q,es,ep,hq,h2,h3,h4,h5⟩;rw[qa9 (qds ec e (fun z=>nomatch z))];exact ec
end
section
variable{X:Cx}{pins:List (Addr×Obj)}{σ:St}{H:Hp}{s:uD}{a:Addr}{kvs:List (Key×V)}{A:vI}{E:uB->uD->Prop}
def jti{Q:uB->uD->Prop}(I:Inv X pins σ H s)(e:Rd H a (.dK kvs))(h:∀t s',Inv X pins σ H s'->Q (.int kvs.length t) s'):uM (uP X.prog X.w) A (call (.builtin "len") [.ref a]) Q E s:=by
 obtain⟨z,hd,vs,rel,dd⟩:=qf2 I.hok e;refine call_len_dict hd dd (by rw[<-rel.length];rw[xD] at z;omega) ?_;rw[<-rel.length];exact h _ _ (I.tok _)
end
def jvb(i:vT):Prop:=∀ov iv,subscripted i false ov iv=operate [ov,iv] (getItem ov iv)
def jmt{prog:uI}{w:vA}{A:vI}{E:uB->uD->Prop}{s:uD}{env:Env}{value slice:vT}{pos:Pos}{T id:String}{Q:uB->uD->Prop}
  (hl:gJ (.type T) "__getitem__"=pure (some (.builtin id)))(hs:jvb slice)
  (h:uM (uP prog w) A (wQ value env) (fun o s₁=>uM (uP prog w) A (wQ slice env) (fun i s₂=>s₂.TypeIs o T/\uM (uP prog w) A (getItem o i) Q E s₂) E s₁) E s):
  uM (uP prog w) A (wQ (.Subscript value slice pos) env) Q E s:=by
 refine Subscript_ (vR h (fun o s₁ h₁=>vR h₁ (fun i s₂ h₂=>?_) fun _ _ x=>x) fun _ _ x=>x);obtain⟨hT,h₂⟩:=h₂;unfold subscriptTail;refine uA ?_;rw[getitemInPython_of_ne hT.not_modules];refine uA (wpAny_specialOf hT hl ?_);have fin:uM (uP prog w) A (subscripted slice false o i) (fun r s₃=>uM (uP prog w) A (letTemporaryGo value o r >>= fun _=>pure r) Q E s₃) E s₂:=by
  rw[hs o i];exact wpAny_operating (vR h₂ (fun r s₃ h₃=>uA (wpAny_letTemporaryGo (uE h₃))) fun _ _ x=>x)
 first
  |exact uE (uA fin)
  |exact uA (uE (uA fin))
  |exact uA fin
def jc1{X:Cx}{pins:List (Addr×Obj)}{σ:St}{H:Hp}{s:uD}{a:Addr}{y:V}{o:Option V}(I:Inv X pins σ H s)(g:jit H a y o):s.TypeIs (.ref a) "dict":=by
 rcases g with⟨kvs,k,e,_,_⟩|⟨kvs,k,b,e,_,_,_⟩
 .obtain⟨_,_,vs,_,dd⟩:=qf2 I.hok e;exact dd.typeIs
 .obtain⟨_,_,xs,_,dd⟩:=jex I.hok e;exact dd.typeIs
noncomputable def jpv(td ty:TE):TE:=fun σ H Q=>td σ H fun x H1=>ty σ H1 fun y H2=>∃a v,x=.ref a/\jit H2 a y (some v)/\Q v H2
noncomputable def jvc(ty td:TE):TE:=fun σ H Q=>ty σ H fun y H1=>td σ H1 fun x H2=>∃a o,x=.ref a/\jit H2 a y o/\Q (.bl o.isSome) H2
noncomputable def jpw(td ty tv:TE):TS:=fun D σ H=>tv σ H fun v H1=>td σ H1 fun x H2=>ty σ H2 fun y H3=>∃a H4,x=.ref a/\jms H3 a y v H4/\D.nx σ H4
section
variable{X:Cx}{o i value:vT}{pos pos':Pos}{td ty tv:TE}
def qct(hu:X.A.units+1<cLine)(ho:PE X o td)(hi:PE X i ty)(hs:jvb i):PE X (.Subscript o i pos) (jpv td ty):=by
 intro pins s σ H Q I h;refine jmt PySem.F.slot_dict_getitem.lookup hs (thn (ho pins s σ H _ I h) fun u s1 ⟨x,H1,I1,rx,q1⟩=>thn (hi pins s1 σ H1 _ I1 q1) fun iv s2 h9=>?_);obtain⟨y,H2,I2,ry,a,v,ex,g,q2⟩:=h9;subst ex;obtain rfl:u=uS a:=rx;exact⟨jc1 I2 g,jf6 hu I2 g ry fun w' s3 I3 rw'=>⟨v,H2,I3,rw',q2⟩⟩
def jpx(hu:X.A.units+1<cLine)(hi:PE X i ty)(ho:PE X o td):PC X .In i o (jvc ty td):=by
 intro pins s σ H Q I h;refine thn (hi pins s σ H _ I h) fun iv s1 ⟨y,H1,I1,ry,q1⟩=>thn (ho pins s1 σ H1 _ I1 q1) fun u s2 h9=>?_;obtain⟨x,H2,I2,rx,a,ov,ex,g,q2⟩:=h9;subst ex;obtain rfl:u=uS a:=rx;exact jwp hu I2 g ry fun s3 I3=>⟨.bl ov.isSome,H2,I3,rfl,q2⟩
def qci(hu:X.A.units+1<cLine)(ho:PE X o td)(hi:PE X i ty)(hv:PE X value tv)(hs:bK value (some (.Subscript o i pos')) pos.line X.env=pure false):
  PS X (.Assign [.Subscript o i pos'] value pos) (jpw td ty tv):=by
 intro pins s σ H D I h;refine dY (thn (hv pins s σ H _ I h) fun r s1 ⟨v,H1,I1,rv,q1⟩=>thn (ho pins s1 σ H1 _ I1 q1) fun u s2 ⟨x,H2,I2,rx,q2⟩=>thn (hi pins s2 σ H2 _ I2 q2) fun iv s3 h9=>?_) hs;obtain⟨y,H3,I3,ry,a,H4,ex,g,q3⟩:=h9;subst ex;obtain rfl:u=uS a:=rx;exact jcd hu I3 g ry rv fun s4 I4=>⟨σ,H4,I4,q3⟩
end
def jdx{P:uI}{w:vA}{H:Hp}(h:vS)(hb:wD<h.objs.size):qbg P w H (h.push {cls:=.type "dict",data:=.dict #[]}) h.objs.size (.dK []):=
 ⟨wV _,beq_eq_false_iff_ne.mpr (xB (vM hb)),[],.nil,Heap.DictOf.new h⟩
noncomputable def jkt:TE:=fun _ H Q=>∀p,H p=none->Q (.ref p) (upd H p (.dK []))
section
variable{X:Cx}{pos:Pos}
def qc3:PE X (.Dict [] [] pos) jkt:=fun pins s σ H Q I h=>
 wpAny_Dict_empty ⟨.ref ↑s,_,I.laid (a:=↑s) (o:=.dK []) (t':=s.toks) (fun _ _ q=>uF _ q) (uG _) (jdx s.heap I.big),rfl,h _ (I.hok.fresh (uG _))⟩
end
noncomputable def jf8:List (TE×TE)->St->Hp->(List (V×V)->Hp->Prop)->Prop
 | [],_,H,Q=>Q [] H
 |(tk,tv)::r,σ,H,Q=>tk σ H fun x H1=>tv σ H1 fun y H2=>jf8 r σ H2 fun ps H3=>Q ((x,y)::ps) H3
abbrev VV:List (V×V)->List (uB×uB)->Prop:=aM fun p q=>qbb p.1 q.1/\qbb p.2 q.2
def PPs(X:Cx)(pos:Pos)(keys:List (Option vT))(values:List vT)(trs:List (TE×TE)):Prop:=
 ∀(pins:List (Addr×Obj))(s:uD)(σ:St)(H:Hp)(Q:List (V×V)->Hp->Prop),Inv X pins σ H s->jf8 trs σ H Q->
  uM (uP X.prog X.w) X.A (evalPairs (pairTrees keys values X.env pos)) (fun vs s'=>∃ps H',Inv X pins σ H' s'/\VV ps vs/\Q ps H') X.xe s
def jmu{X:Cx}{pos:Pos}:PPs X pos [] [] []:=fun pins s σ H Q I h=>pairTrees_nil_walk ⟨[],H,I,.nil,h⟩
def jje{X:Cx}{pos:Pos}{k v:vT}{ks:List (Option vT)}{vs:List vT}{tk tv:TE}{trs:List (TE×TE)}(hk:PE X k tk)(hv:PE X v tv)(hr:PPs X pos ks vs trs):
  PPs X pos (some k::ks) (v::vs) ((tk,tv)::trs):=fun pins s σ H Q I h=>
 pairTrees_cons_walk (thn (hk pins s σ H _ I h) fun u s1 ⟨x,H1,I1,rx,q1⟩=>thn (hv pins s1 σ H1 _ I1 q1) fun w2 s2 ⟨y,H2,I2,ry,q2⟩=>
  thn (hr pins s2 σ H2 _ I2 q2) fun ws s3 ⟨ps,H3,I3,rel,q3⟩=>⟨(x,y)::ps,H3,I3,.cons ⟨rx,ry⟩ rel,q3⟩)
noncomputable def qg6(kvs more:List (Key×V)):List (Key×V):=more.foldl (fun acc kv=>qcs acc kv.1 kv.2) kvs
def KV.merge:∀{more:List (Key×V)} {rs:List (Key×uB)} {kvs:List (Key×V)} {vs:List (Key×uB)},KV more rs->KV kvs vs->KV (qg6 kvs more) (merged vs rs):=by
 intro more rs kvs vs r;unfold KV at r
 induction r generalizing kvs vs with
 |nil=>intro q;exact q
 | @cons p q ps qs h t ih=>
  intro r0;have e:KV (qcs kvs p.1 p.2) (stored vs q.1 q.2):=by
   have:=r0.put p.1 h.2;rw[<-h.1];exact this
  exact ih e
theorem qef:∀(more kvs:List (Key×V)),(qg6 kvs more).length<=kvs.length+more.length
 | [],kvs=>by show kvs.length<=kvs.length+0;omega
 |p::r,kvs=>by
  have h1:=qef r (qcs kvs p.1 p.2);have h2:=qbo kvs p.1 p.2;show(qg6 (qcs kvs p.1 p.2) r).length<=_;rw[zI];omega
theorem qge{P:uI}{w:vA}:∀{kvs:List (Key×V)} {ws:List (uB×uB)},VV (kvs.map fun kv=>(kV kv.1,kv.2)) ws->∃rs,Carries (qb2 P w) ws rs/\KV kvs rs
 | [],_,r=>by rw[dS] at r;cases r;exact⟨[],wF,.nil⟩
 |p::kvs,_,r=>by
  rw[zS] at r
  cases r with
  | @cons a b as bs h t=>
   obtain⟨rs,c,q⟩:=qge (P:=P) (w:=w) t;obtain⟨b1,b2⟩:=b;exact⟨(p.1,b2)::rs,⟨jew h.1,rfl,c⟩,.cons ⟨rfl,h.2⟩ q⟩
noncomputable def jpy(trs:List (TE×TE)):TE:=fun σ H Q=>∀p,H p=none->jf8 trs σ (upd H p (.dK [])) fun ps H2=>H2 p=some (.dK [])/\∃kvs:List (Key×V),ps=kvs.map (fun kv=>(kV kv.1,kv.2))/\kvs.length<=15/\Q (.ref p) (upd H2 p (.dK (qg6 [] kvs)))
def jmv{X:Cx}{pos:Pos}{keys:List (Option vT)}{values:List vT}{trs:List (TE×TE)}(h:PPs X pos keys values trs)(hall:keys.all (·.isSome)=true)(hl:keys.length=values.length)(h0:keys≠ [])
  (h15:keys.length<=15):PE X (.Dict keys values pos) (jpy trs):=by
 intro pins s σ H Q I q;have hn:=I.hok.fresh (uG ↑s);have I1:=I.laid (a:=↑s) (o:=.dK []) (h':=s.heap.push {cls:=.type "dict",data:=.dict #[]}) (t':=s.toks) (fun _ _ q=>uF _ q) (uG _) (jdx s.heap I.big);refine wpAny_Dict_walk (knd:=qb2 X.prog X.w) hall hl h0 h15 (thn (h pins _ σ _ _ I1 (q _ hn)) fun ws s2 h9=>?_);obtain⟨ps,H2,I2,rel,e,kvs,ep,lk,q2⟩:=h9;subst ep;obtain⟨rs,c,rk⟩:=qge (P:=X.prog) (w:=X.w) rel;obtain⟨z,hd,vs0,r0,dd⟩:=jpu I2.hok e
 cases r0
 refine⟨rs,c,dd,fun h' dd' hs=>⟨.ref ↑s,_,?_,rfl,q2⟩⟩;have hz:(qg6 [] kvs).length<=sizeLine:=by
  have h1:=qef kvs [];rw[yF] at h1;rw[xD];omega
 have he:∃q,h'.get? ↑s=some q:=let ⟨q,_,_,hq,_⟩:=dd';⟨q,hq⟩
 exact qha I2 (by rw[e];exact wF) hs he (jf7 hz hd (rk.merge .nil) dd')
structure M1(X:Cx)(o:vT)(m:Str)(apos:Pos)(e:vT)(cpos:Pos):Prop where
 base:bE o m X.env (wQ o X.env)=wQ o X.env
 few:((wW cpos (vF [e] X.env)).all (fun x=>!x.1) && (fF cpos (cH [] X.env)).all (fun x=>x.1.isSome)
  && decide (([e]:List vT).length+([]:List Keyword).length+(if([]:List Keyword).isEmpty then 0 else 1)<30))=true
 line:(apos.endLine==cpos.line)=true
 trees:wW cpos (vF [e] X.env)=[(false,wQ e X.env)]
structure M2(X:Cx)(o:vT)(m:Str)(apos:Pos)(e f:vT)(cpos:Pos):Prop where
 base:bE o m X.env (wQ o X.env)=wQ o X.env
 few:((wW cpos (vF [e,f] X.env)).all (fun x=>!x.1) && (fF cpos (cH [] X.env)).all (fun x=>x.1.isSome)
  && decide (([e,f]:List vT).length+([]:List Keyword).length+(if([]:List Keyword).isEmpty then 0 else 1)<30))=true
 line:(apos.endLine==cpos.line)=true
 trees:wW cpos (vF [e,f] X.env)=[(false,wQ e X.env),(false,wQ f X.env)]
def IsD(H:Hp)(a:Addr):Prop:=(∃kvs,Rd H a (.dK kvs))\/∃kvs,Rd H a (.dT kvs)
def jpz{X:Cx}{pins:List (Addr×Obj)}{σ:St}{H:Hp}{s:uD}{a:Addr}(I:Inv X pins σ H s)(d:IsD H a):
  s.TypeIs (.ref a) "dict"/\(∀b,uS a=.ref b->∃ob,s.heap.get? b=some ob/\ob.dict=none)/\(a==wD)=false:=by
 rcases d with⟨kvs,e⟩|⟨kvs,e⟩
 .obtain⟨_,hd,vs,_,dd⟩:=qf2 I.hok e;refine⟨dd.typeIs,fun b q=>?_,hd⟩
  cases q
  obtain⟨ob,_,_,h1,h2,_⟩:=dd;exact⟨ob,h1,h2.2.1⟩
 .obtain⟨_,hd,xs,_,dd⟩:=jex I.hok e;refine⟨dd.typeIs,fun b q=>?_,hd⟩
  cases q
  obtain⟨ob,_,_,h1,h2,_⟩:=dd;exact⟨ob,h1,h2.2.1⟩
section
variable{X:Cx}{pins:List (Addr×Obj)}{σ:St}{H:Hp}{s:uD}{a:Addr}{y d:V}{u r:uB}{o:Option V}{A:vI}{E:uB->uD->Prop}
def jp0{Q:uB->uD->Prop}(hu:A.units+1<cLine)(I:Inv X pins σ H s)(g:jit H a y o)(ry:qbb y u)(rd:qbb d r)(h:∀w' s',Inv X pins σ H s'->qbb (o.getD d) w'->Q w' s'):
  uM (uP X.prog X.w) A (call (.builtin "dict.get") [.ref a,u,r]) Q E s:=by
 rcases g with⟨kvs,k,e,ey,l⟩|⟨kvs,k,b,e,ey,eb,l⟩
 .subst ey;obtain⟨z,hd,vs,rel,dd⟩:=qf2 I.hok e;refine hU eU dd.typeIs PySem.F.entry_dict_get (PySem.F.args_dict_get_3 _ _ _) (meets_dict_get_default (qb2 X.prog X.w) a (jew ry) hd r) ⟨_,dd.mapOf,h _ _ (I.tok _) ?_⟩;rw[l];exact(rel.val k).getD rd
 .subst ey
  cases(show u=uS b from ry)
  obtain⟨z,hd,xs,rel,dd⟩:=jex I.hok e;refine hU eU dd.typeIs PySem.F.entry_dict_get (PySem.F.args_dict_get_3 _ _ _) (meetsH_dict_get_default (fH (qb2 X.prog X.w)) a b hd r) ⟨cR hu,k,xs,qga I.hok eb,dd,h _ _ (I.tok _) ?_⟩;rw[l];exact(rel.val k).getD rd
end
noncomputable def jku(td ty tx:TE):TE:=fun σ H Q=>td σ H fun x H1=>∃a,x=.ref a/\IsD H1 a/\ty σ H1 fun y H2=>tx σ H2 fun z H3=>∃o,jit H3 a y o/\Q (o.getD z) H3
section
variable{X:Cx}{o e f:vT}{apos cpos:Pos}{td ty tx:TE}
def qcr(hu:X.A.units+1<cLine)(ho:PE X o td)(he:PE X e ty)(hf:PE X f tx)(m:M2 X o "get" apos e f cpos):PE X (.Call (.Attribute o "get" apos) [e,f] [] cpos) (jku td ty tx):=by
 intro pins s σ H Q I h;refine wpAny_Call_method m.base m.few m.line yV eU PySem.F.type_dict_get (thn (ho pins s σ H _ I h) fun u s1 h9=>?_);obtain⟨x,H1,I1,rx,a,ex,d,q1⟩:=h9;subst ex;obtain rfl:u=uS a:=rx;obtain⟨t1,t2,_⟩:=jpz I1 d;refine⟨t1,t2,?_⟩;rw[m.trees];refine bS rfl (aQ (gI (thn (he pins s1 σ H1 _ I1 q1) fun iv s2 ⟨y,H2,I2,ry,q2⟩=>
  gI (thn (hf pins s2 σ H2 _ I2 q2) fun fv s3 ⟨z,H3,I3,rz,ov,g,q3⟩=>Calls.spliced_nil ?_))))
 exact jp0 hu I3 g ry rz fun w' s4 I4 rw'=>⟨_,H3,I4,rw',q3⟩
end
section
variable{X:Cx}{pins:List (Addr×Obj)}{σ:St}{H:Hp}{s:uD}{a:Addr}{kvs:List (Key×V)}{A:vI}{E:uB->uD->Prop}
def jjf{Q:uB->uD->Prop}(I:Inv X pins σ H s)(e:Rd H a (.dK kvs))(h:∀p s',H p=none->Inv X pins σ (upd H p (.dK kvs)) s'->Q (.ref p) s'):uM (uP X.prog X.w) A (call (.type "dict") [.ref a]) Q E s:=by
 obtain⟨z,hd,vs,rel,dd⟩:=qf2 I.hok e;refine kt_call_dict hd dd (by rw[<-rel.length];exact z) fun h' dd' hs=>?_;refine h _ _ (I.hok.fresh (uG _)) (I.laid (a:=↑s) (o:=.dK kvs) (t':=s.toks) (fun b q hq=>?_) (uG _) (jf7 z (beq_eq_false_iff_ne.mpr (xB (vM I.big))) rel dd'));exact(hs.2 b (vM (uV hq))).trans (uF _ hq)
end
section
variable{X:Cx}
def call_lenD:qcc X (.builtin "len") (fun xs H Q=>∃a kvs,xs=[V.ref a]/\H a=some (.dK kvs)/\Q (.int kvs.length) H):=by
 intro pins s σ H xs us Q I r h;obtain⟨a,kvs,rfl,ha,q⟩:=h;obtain⟨u,rfl,ru⟩:=ji1 r
 cases ru
 exact jti I (.inl ha) fun t s' I'=>⟨.int kvs.length,H,I',⟨t,rfl⟩,q⟩
end
section
variable{κ:Type}[DecidableEq κ]
def jjg{kvs:List (κ×V)}{k:κ}(h:qco kvs k=none):¬k∈kvs.map (·.1):=by
 intro m;obtain⟨p,hp,e⟩:=zM.mp m;have q:(kvs.any fun kv=>decide (kv.1=k))=true:=yQ.mpr ⟨p,hp,iP e⟩;rw[qcn,h] at q;exact absurd q (by simp)
def jmw{kvs:List (κ×V)}{k:κ}{v:V}(h:qco kvs k=some v):k∈kvs.map (·.1):=by
 have q:(kvs.any fun kv=>decide (kv.1=k))=true:=by
  rw[qcn,h]
  all_goals rfl
 obtain⟨p,hp,e⟩:=yQ.mp q;exact zM.mpr ⟨p,hp,of_decide_eq_true e⟩
theorem jf9:∀{l:List κ} {k:κ},l.Nodup->¬k∈l->(l++[k]).Nodup
 | [],k,_,_=>by simp
 |a::r,k,h,hk=>by
  obtain⟨h1,h2⟩:=zU.mp h;show(a ::(r++[k])).Nodup;refine zU.mpr ⟨fun m=>?_,jf9 h2 fun m=>hk (zP.mpr (Or.inr m))⟩;rcases zT.mp m with q|q
  .exact h1 q
  .exact hk (zP.mpr (uK (zK.mp q).symm))
def jga{kvs:List (κ×V)}{k:κ}(v:V)(hn:(kvs.map (·.1)).Nodup)(h:qco kvs k=none):((qcs kvs k v).map (·.1)).Nodup:=by
 rw[jjd v h,zE];exact jf9 hn (jjg h)
end
end L2
namespace My
open PySem PySem.Spec PyProof.Rows L2
variable{te:TE}{P:uI}{w:vA}{h:vS}
theorem qdp{α:Type}{β:Type}[BEq α][LawfulBEq α]:∀{l:List (α×β)} {x:α} {v:β},l.lookup x=some v->(x,v)∈l
 |(a,b)::l,x,v,h=>by
  rw[List.lookup_cons] at h
  cases e:x==a with
  |true=>rw[e] at h;have e':=eq_of_beq e;have h':b=v:=vB h;subst e' h';exact zG
  |false=>rw[e] at h;exact zF _ (qdp h)
def qc6{X:Cx}{x:Str}{scope:bJ}{cl:List (Str×Addr)}{caps:List Nat}{cn:List Str}(h1:closureFor scope X.env=pure cl)(h2:scope.kind=.function)(h3:scope.names.all (fun p=>p.2 !=.cell)=true)
  (h4:scope.names.all (fun p=>p.2 !=.local || scope.names.lookup p.1==some .local)=true)(h5:scope.names.lookup x=some .local)(h6:jkr (fun p=>X.env.cells.lookup p.1=some p.2) cl)
  (h7:(hJ scope X.env).names.all (fun p=>!(p.2==.cell || p.2==.free) ||(cl.lookup p.1).isSome)=true)(h8:caps.length=cn.length)
  (h9:jkr (fun p=>X.N[p.1]?=some p.2/\X.env.kindOf p.2=some .cell/\(hJ scope X.env).names.lookup p.2=some .cell/\X.env.scope.names.lookup p.2=some .cell/\∃c,cl.lookup p.2=some c) (caps.zip cn))(h10:(x::cn).Nodup):jps X x scope cl caps cn:=by
 refine⟨h1,h2,fun y hy z=>?_,fun y hy z=>?_,h5,fun y c e=>jkr.mem h6 _ (qdp e),fun y hy=>?_,h8,fun k y j e1 e2=>?_,h10⟩
 .have q:=zZ.mp h3 y hy;rw[z] at q
  cases q
 .have q:=zZ.mp h4 y hy;rw[z] at q;simpa using q
 .have m:∃k,(y,k)∈(hJ scope X.env).names/\(k=.cell\/k=.free):=by
   rcases hy with hy|hy
   .exact⟨_,qdp hy,.inl rfl⟩
   .exact⟨_,qdp hy,.inr rfl⟩
  obtain⟨k,hm,hk⟩:=m;have q:=zZ.mp h7 _ hm;have hk':(k==NameKind.cell || k==NameKind.free)=true:=by rcases hk with rfl|rfl<;>decide
  rw[hk'] at q;exact bF.mp (by simpa using q)
 .refine jkr.mem h9 (j,y) ?_;have hz:(caps.zip cn)[k]?=some (j,y):=by rw[List.getElem?_zip_eq_some];exact⟨e2,e1⟩
  exact zD hz
section
variable{X:Cx}
def jkv{l:vT}{tl:TE}{y:Str}{py:Pos}(hl:PE X l tl):PI X (.Name y py) l (jva tl):=by
 intro pins s σ H R I h;refine thn (hl pins s σ H _ I h) fun u s1 h9=>?_;obtain⟨v,H1,I1,r,x,ev,q⟩:=h9;subst ev;obtain⟨t,rfl⟩:=r;have hn:H1 ↑s1=none:=I1.hok.fresh (uG _);have fp:∀b∈ [↑s1],jct X pins H1 b:=fun b hb=>by
  have e:b=↑s1:=by simpa using hb
  subst e;exact I1.fpOk (uG _) hn
 cases ha:x.cps.all (·< 128)
 .exact wpAny_pyIter_wide ha ⟨_,[↑s1],fun i h=>h.IsStrIter ↑s1 "str_iterator" x t i,Its x,H1,rfl,I1.kept (t':=s1.toks) (fun _ _ e=>uF _ e),
   jdu x t _ _ (fun A hA=>Walks.strWide hA _ x t) fun A i s' Q' E' st hq=>wpAny_pyIter_striter_wide st hq,⟨_,uX _ rfl,rfl,rfl⟩,fp,q⟩
 .exact wpAny_pyIter_ascii ha ⟨_,[↑s1],fun i h=>h.IsStrIter ↑s1 "str_ascii_iterator" x t i,Its x,H1,rfl,I1.kept (t':=s1.toks) (fun _ _ e=>uF _ e),
   jdu x t _ _ (fun A hA=>Walks.strAscii hA _ x t) fun A i s' Q' E' st hq=>wpAny_pyIter_striter_ascii st hq,⟨_,uX _ rfl,rfl,rfl⟩,fp,q⟩
noncomputable def jvd(K:uY):List V->Hp->VK->Prop:=fun xs H Q=>∃(p:Addr)(bs:List Bool),xs=[.ref p]/\SqL K H p (bs.map V.bl)/\Q (.bl (bs.all id)) H
def jgb(bs:List Bool):((uN bs.length).all fun i=>(bs[i]?).getD true)=bs.all id:=by
 rw[xS,zZ,zZ];constructor
 .intro h b hb;obtain⟨i,hi,e⟩:=zR.mp hb;have q:=h i (yM.mpr hi);rw[zA hi,e] at q;exact q
 .intro h i hi;have hi':=yM.mp hi;rw[zA hi'];exact h _ (zJ hi')
def jce(hc:X.calm=true):qcc X (.builtin "all") (jvd X.K):=by
 intro pins s σ H xs us Q I hv h;obtain⟨p,bs,rfl,hS,q⟩:=h;obtain⟨u,rfl,ru⟩:=hv.one
 cases ru
 obtain⟨its,rv,pl,hz⟩:=I.list hS;have hl:=pl.isList;have hlt:p<↑s:=by obtain⟨_,e,_⟩:=hl;exact uV e
 have hlen:=rv.length;rw[zB] at hlen;refine call_all_walk (cU hl ?_);refine⟨↑s,[↑s,p],[↑s],its.toArray.size,_,_,fun i=>(bs[i]?).getD true,rfl,Walks.list (A:=X.A.in1) (I.ok.hd hc) _ p (vM hlt) its.toArray,⟨⟨_,uX _ rfl,rfl,rfl⟩,hl.push _⟩,fun i v s' Q' E' hP hQ=>?_,fun h' tk hk=>?_⟩
 .have hi:its[i]?=some v:=by simpa using hP
  have hb:i<bs.length:=by rw[hlen];exact(uH.mp hi).1
  have hx:(bs.map V.bl)[i]?=some (.bl bs[i]):=by rw[zC,zA hb];rfl
  obtain⟨u,e,r⟩:=rv.get hx;rw[hi] at e
  cases e
  cases r
  dsimp only at hQ;rw[zA hb] at hQ;exact wN hQ
 .have e:((uN its.toArray.size).all fun i=>(bs[i]?).getD true)=bs.all id:=by
   rw[zN,<-hlen];exact jgb bs
  rw[e];exact⟨.bl _,H,I.kept (t':=tk) (fun b o eb=>hk b o (fun hm=>by have z:=uV eb;rw[zK.mp hm] at z;exact wO _ z) (uF _ eb)),rfl,q⟩
noncomputable def jp1:R2:=fun x y H Q=>∃i j,x=.str i/\y=.str j/\i.length+j.length<=sizeLine/\Q (.str (i++j)) H
def jmx:OpR X (bD .Add) jp1:=jer
noncomputable def jve:R2:=fun x y H Q=>∃i j,x=.str i/\y=.str j/\Q (.bl (!(xZ j i 0 j.length 1).isEmpty)) H
def jp2:OpR X (wA .In) jve:=jfj
noncomputable def jp3:List V->Hp->VK->Prop:=fun xs H Q=>∃z,xs=[.str z]/\z.length<=sizeLine/\Q (.int z.length) H
def qfp:qcc X (.builtin "len") jp3:=jb3
end
section
variable{K:uY}{H:Hp}{Q:VK}{σ:L2.St}
def jwq{r:V->Option Int->Option Int->Hp->VK->Prop}{tl th:TO}(h:te σ H fun x H1=>tl σ H1 fun l H2=>th σ H2 fun u H3=>r x l u H3 Q):tSl r te tl th σ H Q:=h
def jjh{Q:Option Int->Hp->Prop}(h:Q none H):jfr σ H Q:=h
def jp4{Q:Option Int->Hp->Prop}(h:te σ H fun x H1=>∃i,x=.int i/\Q (some i) H1):jpc te σ H Q:=h
def jtj{i:Int}{Q:Int->Prop}(h:Q i):∃j,V.int i=.int j/\Q j:=⟨i,rfl,h⟩
def jmy{r r':R2}{ta tb tc:TE}(h:ta σ H fun x H1=>tb σ H1 fun y H2=>r x y H2 fun z H3=>∃k,z=.bl k/\(if k=true then tc σ H3 fun w' H4=>r' y w' H4 Q else Q (.bl false) H3)):jfk r r' ta tb tc σ H Q:=h
def jp5{p:Addr}{bs:List Bool}(hS:SqL K H p (bs.map V.bl))(h:Q (.bl (bs.all id)) H):jvd K [.ref p] H Q:=⟨p,bs,rfl,hS,h⟩
def jkw{i j:Str}(hn:i.length+j.length<=sizeLine)(h:Q (.str (i++j)) H):jp1 (.str i) (.str j) H Q:=⟨i,j,rfl,rfl,hn,h⟩
def jtk{i j:Str}(h:Q (.bl (!(xZ j i 0 j.length 1).isEmpty)) H):jve (.str i) (.str j) H Q:=⟨i,j,rfl,rfl,h⟩
def jp6{z:Str}(hn:z.length<=sizeLine)(h:Q (.int z.length) H):jp3 [.str z] H Q:=⟨z,rfl,hn,h⟩
def jp7{z:Str}{i:Int}{c:Nat}(hn:z.length<=sizeLine)(e:atI z.cps.toList i=some c)(h:Q (.str ⟨#[c]⟩) H):ju3 (.str z) (.int i) H Q:=⟨z,i,c,rfl,rfl,hn,e,h⟩
def jwr{tl:TE}{R:It->Hp->Prop}(h:tl σ H fun v H1=>jtg v H1 R):jva tl σ H R:=h
def jtl{x:Str}{R:It->Hp->Prop}(h:R (Its x) H):jtg (.str x) H R:=⟨x,rfl,h⟩
def jp8{wi:TI}{caps:List Nat}{tt:CT TT}{te:CT TE}(h:wi σ H fun J H1=>∀(C:Addr)(s:uD)(H0:Hp)(fp:List Addr)(acc:Addr),H1 acc=none->jse J caps (tt C s H0 fp) (te C s H0 fp) acc σ (upd H1 acc (.lst [])) Q):jjc wi caps tt te σ H Q:=h
def jp9{Q:Bool->Hp->Prop}(h:Q true H):jpq σ H Q:=h
def jtm{acc:Addr}{N:Hp->Prop}{y:V}{ys:List V}(ha:H acc=some (.lst ys))(hz:ys.length<sizeLine)(h:N (upd H acc (.lst (ys++[y])))):jpp acc N y H:=⟨ys,ha,hz,h⟩
def jdy{J:It}{caps:List Nat}{tt:TT}{te:TE}{acc:Addr}(n:Nat)(Pv:Nat->Hp->Prop)(h0:Pv 0 H)(hgo:∀i H,i<n->Pv i H->J.go i H)(hst:∀H,Pv n H->J.stop n H)
  (hs:∀i H v H',i<n->Pv i H->J.yld i H v H'->tt (some v::qc9 caps σ) H' fun b H2=>if b=true then te (some v::qc9 caps σ) H2 fun y H3=>jpp acc (Pv (i+1)) y H3 else Pv (i+1) H2)
  (hd:∀H,Pv n H->Q (.ref acc) H):jse J caps tt te acc σ H Q:=by
 refine⟨fun i m H=>m=n-i/\i<=n/\Pv i H,⟨n,rfl,wV _,h0⟩,?_⟩;rintro i m H ⟨rfl,hi,p⟩;by_cases hlt:i<n
 .exact .inr ⟨hgo i H hlt p,Pv (i+1),fun H' p'=>⟨n-(i+1),↑∅,rfl,hlt,p'⟩,fun v H' y=>hs i H v H' hlt p y⟩
 .have e:i=n:=by omega
  subst e;exact .inl ⟨hst H p,hd H p⟩
end
section
variable{X:Cx}
noncomputable def jqa:List V->Hp->VK->Prop:=fun xs H Q=>∃b:Bool,xs=[.bl b]/\Q (.int (if b then 1 else 0)) H
def jgc:qcc X (.type "int") jqa:=by
 intro pins s σ H xs us Q I r h;obtain⟨b,rfl,q⟩:=h
 cases r with
 |cons r1 r2=>
  cases r2
  cases r1
  exact call_int_bool ⟨.int _,H,I.tok _,⟨_,rfl⟩,q⟩
end
section
variable{H:Hp}{Q:VK}
def jqb{b:Bool}(h:Q (.int (if b then 1 else 0)) H):jqa [.bl b] H Q:=⟨b,rfl,h⟩
end
section
variable{prog:uI}{w:vA}{A:vI}{E:uB->uD->Prop}{h:vS}{g:Array gS}{d:Drawn}{t:Nat}{os:OsState}
variable{nm q:Str}{C N fI:Addr}{bs bm bmB:List uB}{hdct:Bool}{sn:List Str}{sub:List uB}{ab:Bool}{col:Option Bool}{dd:Option Addr}{k0 k1 k2 k3 k5:Option uB}{B Bn newId nid initId inN:String}{bmN:List uB}
noncomputable def qd5(h:vS)(C:Addr)(rest:List uB):vS:=(h.push {cls:=.type "tuple",data:=.seq rest.toArray}).push {cls:=.ref C,data:=.fields #[.ref h.objs.size,.none,.none,.none,.bool false,.none]}
def qfw(Fn:bU Bn newId inN bmN)(hBn:bmB.contains (.type Bn)=true)(F:bU B nid initId bmB)(T:OwnTail h bmB bm){mN:Str->Option uB}{rest:List uB}{Q:Fin->uD->Prop}
  (hC:h.get? C=some (bL nm q C N bs bm hdct sn sub ab col dd k0 k1 k2 k3 k5 newId))(hn:h.Ns N mN)(hni:mN "__init__"=some (.ref fI))
  (hb:xX (uP prog w) (qd5 h C rest) (bindSpecial (.ref fI) (.ref (h.objs.size+1))) (.ref fI,[.ref (h.objs.size+1)]))
  (hq:uM (uP prog w) A (call (.ref fI) (.ref (h.objs.size+1)::rest)) (fun v s'=>v=.none/\Q (.done (.ret (.ref (h.objs.size+1)))) s') E ⟨qd5 h C rest,g,d,t,os⟩)(hrest:rest.length<=sizeLine:=by size_fits):
  uM (uP prog w) A (xY.«type.__call__» ⟨.ref C::rest,[]⟩) Q E ⟨h,g,d,t,os⟩:=by
 repeat (first|with_reducible refine bV hC ?_|with_reducible refine wpAny_madeBy_exc hC ?_|wp_step)
 refine codeAny_call_builtin_code (gL _ Fn.quiet) (wpAny_check_new_subU Fn hBn T hC ?_);refine codeAny_exc_new_subU Fn hBn F T hC ?_ hrest;show uM _ _ _ _ _ _;have hC₁:=uF {cls:=.ref C,data:=.fields #[.ref h.objs.size,.none,.none,.none,.bool false,.none]}
  (uF {cls:=.type "tuple",data:=.seq rest.toArray} hC)
 have hn₁:((h.push {cls:=.type "tuple",data:=.seq rest.toArray}).push {cls:=.ref C,data:=.fields #[.ref h.objs.size,.none,.none,.none,.bool false,.none]}).Ns N mN:=
  let ⟨o,es,ep,e,r⟩:=hn;⟨o,es,ep,uF _ (uF _ e),r⟩
 have hget:((h.push {cls:=.type "tuple",data:=.seq rest.toArray}).push
   {cls:=.ref C,data:=.fields #[.ref h.objs.size,.none,.none,.none,.bool false,.none]}).get? (h.objs.size+1)=some
   {cls:=.ref C,data:=.fields #[.ref h.objs.size,.none,.none,.none,.bool false,.none]}:=by heap_get
 have hcC:(uS C::bm).contains (.ref C)=true:=by simp
 have T₁:=T.keeps (h':=(h.push {cls:=.type "tuple",data:=.seq rest.toArray}).push {cls:=.ref C,data:=.fields #[.ref h.objs.size,.none,.none,.none,.bool false,.none]})
  fun b o e=>uF _ (uF _ e)
 unfold dU
 repeat (first|with_reducible refine bV hget ?_|(with_reducible refine wpAny_isSubtype_exc hC₁ ?_;rw[hcC]) |wp_step)
 show uM _ _ (gJ (.ref C) _) _ _ _;refine wpAny_typeLookup_tail hC₁ hn₁ T₁ F.mroIs F.init.lookup ?_;rw[hni];refine vO (uA (hb.at ?_));refine uA (vR hq (fun v s' h9=>?_) fun _ _ x=>x);obtain⟨ev,q⟩:=h9;subst ev
 wp_walk
 exact q
def qhd(Fn:bU Bn newId inN bmN)(hBn:bmB.contains (.type Bn)=true)(F:bU B nid initId bmB)(T:OwnTail h bmB bm){mN:Str->Option uB}{rest:List uB}{Q:uB->uD->Prop}
  (hC:h.get? C=some (bL nm q C N bs bm hdct sn sub ab col dd k0 k1 k2 k3 k5 newId))(hn:h.Ns N mN)(hni:mN "__init__"=some (.ref fI))
  (hb:xX (uP prog w) (qd5 h C rest) (bindSpecial (.ref fI) (.ref (h.objs.size+1))) (.ref fI,[.ref (h.objs.size+1)]))
  (hq:uM (uP prog w) (A.under (.builtin "type.__call__" ⟨.ref C::rest,[]⟩)) (call (.ref fI) (.ref (h.objs.size+1)::rest)) (fun v s'=>v=.none/\Q (.ref (h.objs.size+1)) s') E ⟨qd5 h C rest,g,d,t,os⟩)(hrest:rest.length<=sizeLine:=by size_fits):
  uM (uP prog w) A (call (.ref C) rest) Q E ⟨h,g,d,t,os⟩:=by
 have f1:=tc_lookup;have f2:=tc_bind (.ref C);have hT:(⟨h,g,d,t,os⟩:uD).TypeIs (.ref C) "type":=⟨_,hC,rfl⟩;refine xH (codeAny_of_tree ?_);show uM _ _ (callAny (.ref C) _) _ _ _
 repeat (any_goals (first|assumption|with_reducible refine bV hC ?_|wp_step))
 refine⟨rfl,?_⟩;refine codeAny_call_builtin_at (gL _ (by decide+kernel)) entry_typeCall (wpAny_check_type_call_sub hC (qfw (hrest:=hrest) Fn hBn F T hC hn hni hb ?_));exact hq
def qg0{env:Env}{M:fU}{s:uD}{x:Sem uB}{Q:Flow->uD->Prop}(hbase:bm.contains (.type "BaseException")=true)(hh:A.handled=none)
  (h:uM M A x (fun v s₁=>∃e oe,v=.ref e/\s₁.heap.get? C=some (bL nm q C N bs bm hdct sn sub ab col dd k0 k1 k2 k3 k5 newId)/\
   s₁.heap.get? e=some oe/\oe.cls=.ref C/\(∃vs,oe.data=.fields vs/\vs[1]?=some .none)/\E (.ref e) s₁) E s):
  uM M A (raiseStmt env (some x) none) Q E s:=by
 have hcB:(uS C::bm).contains (.type "BaseException")=true:=by rw[List.contains_cons,hbase,Bool.or_true]
 unfold raiseStmt;refine uA (vR h (fun v s₁ h₁=>?_) fun _ _ x=>x);obtain⟨e,oe,rfl,hC,he,hcls,⟨vs,hd,h1⟩,hE⟩:=h₁;obtain⟨hp,g,d,tk,os⟩:=s₁;obtain⟨oc,odd,oda,osl⟩:=oe;obtain rfl:oc=.ref C:=hcls;obtain rfl:oda=.fields vs:=hd
 repeat (first|with_reducible refine bV he ?_|with_reducible refine bV hC ?_|(with_reducible refine wpAny_isSubtype_exc hC ?_;rw[hcB]) |wp_step)
 rw[h1];refine uE ?_;rw[iN ∅];exact uE (wpAny_raiseNew_none hh hE)
def qfs{env:Env}{s:uD}(Fn:bU Bn newId inN bmN)(hBn:bmB.contains (.type Bn)=true)(F:bU B nid initId bmB){mN:Str->Option uB}{x:Str}{np cpos pos:Pos}{args:List vT}{Q:Flow->uD->Prop}
  (hbase:bm.contains (.type "BaseException")=true)(hh:A.handled=none)(hplain:(wW cpos (vF args env)).any (·.1)=false)(hni:mN "__init__"=some (.ref fI))
  (h:uM (uP prog w) A (wQ (.Name x np) env) (fun f s₁=>f=.ref C/\uM (uP prog w) A (evalArgs (.ref C) true (wW cpos (vF args env)) [])
   (fun a s₂=>a.kw=[]/\a.pos.length<=sizeLine/\s₂.heap.get? C=some (bL nm q C N bs bm hdct sn sub ab col dd k0 k1 k2 k3 k5 newId)/\s₂.heap.Ns N mN/\OwnTail s₂.heap bmB bm/\
    xX (uP prog w) (qd5 s₂.heap C a.pos) (bindSpecial (.ref fI) (.ref (↑s₂+1))) (.ref fI,[.ref (↑s₂+1)])/\
    uM (uP prog w) (A.under (.builtin "type.__call__" ⟨.ref C::a.pos,[]⟩)) (call (.ref fI) (.ref (↑s₂+1)::a.pos))
     (fun v s'=>v=.none/\s'.heap.get? C=some (bL nm q C N bs bm hdct sn sub ab col dd k0 k1 k2 k3 k5 newId)/\(∃oe,s'.heap.get? (↑s₂+1)=some oe/\oe.cls=.ref C/\∃vs,oe.data=.fields vs/\vs[1]?=some .none)/\E (.ref (↑s₂+1)) s') E {s₂ with heap:=qd5 s₂.heap C a.pos}) E s₁) E s):
  uM (uP prog w) A (exec (.Raise (some (.Call (.Name x np) args [] cpos)) none pos) env) Q E s:=by
 rw[arm_exec_Raise]
 first
  |refine uA (aF (qg0 (C:=C) (nm:=nm) (q:=q) (N:=N) (bs:=bs) (bm:=bm) (hdct:=hdct) (sn:=sn) (sub:=sub) (ab:=ab) (col:=col) (dd:=dd) (k0:=k0) (k1:=k1) (k2:=k2) (k3:=k3) (k5:=k5) (newId:=newId) hbase hh (uA (vR (wpAny_Call_ofName (vR h (fun f s₁ h₁=>?_) fun _ _ x=>x)) (fun v s₃ h₃=>uA (aF (uE h₃))) fun _ _ x=>x))))
  |(simp only[evalOpt,Option.map];refine uA (aF (qg0 (C:=C) (nm:=nm) (q:=q) (N:=N) (bs:=bs) (bm:=bm) (hdct:=hdct) (sn:=sn) (sub:=sub) (ab:=ab) (col:=col) (dd:=dd) (k0:=k0) (k1:=k1) (k2:=k2) (k3:=k3) (k5:=k5) (newId:=newId) hbase hh (uA (vR (wpAny_Call_ofName (vR h (fun f s₁ h₁=>?_) fun _ _ x=>x)) (fun v s₃ h₃=>uA (aF (uE h₃))) fun _ _ x=>x)))))
 obtain⟨rfl,h₁⟩:=h₁;unfold callWith;refine uA (vO (vR h₁ (fun a s₂ h₂=>uA (aF ?_)) fun _ _ x=>x));obtain⟨apos,akw⟩:=a;obtain⟨hkw,hlen,hC,hn,T,hb,h₂⟩:=h₂;obtain rfl:akw=[]:=hkw;obtain⟨hp,g,d,tk,os⟩:=s₂;simp only[hplain];refine uA (wpAny_keeperOf_exc hC ?_);refine uA (qhd (hrest:=hlen) Fn hBn F T hC hn hni hb (vR h₂ (fun v s' ⟨e1,e2,⟨oe,e3,e4,e6⟩,e5⟩=>⟨e1,uA (vO (wpAny_point (uE ?_)))⟩) fun _ _ x=>x));exact⟨_,oe,rfl,e2,e3,e4,e6,e5⟩
end
noncomputable def qg5:List uB->Bool
 | .ref _::r=>qg5 r
 | [.type a,.type b,.type c,.type e]=>a== "ValueError" && b== "Exception" && c== "BaseException" && e== "object"
 |_=>false
def qfk{a b c e:String}(h:qg5 [.type a,.type b,.type c,.type e]=true):a= "ValueError"/\b= "Exception"/\c= "BaseException"/\e= "object":=by
 simp only[qg5,vP,beq_iff_eq] at h;exact⟨h.1.1.1,h.1.1.2,h.1.2,h.2⟩
theorem jcf(self:uB):∀{l:List uB},qg5 l=true->refuseLoop self "__setattr__" l=pure ()
 | .ref c::r,e=>by rw[refuseLoop_ref];exact jcf self e
 | [.type a,.type b,.type c,.type d],e=>by
  obtain⟨rfl,rfl,rfl,rfl⟩:=qfk e;exact PySem.F.store_ValueError.passes self
theorem jkx:∀{l:List uB},qg5 l=true->l.contains (.type "object")=true
 | .ref c::r,e=>by rw[List.contains_cons,jkx (l:=r) e,Bool.or_true]
 | [.type a,.type b,.type c,.type d],e=>by
  obtain⟨rfl,rfl,rfl,rfl⟩:=qfk e;decide
noncomputable def jgd(K:uY)(C:Addr):Bool:=(PySem.W.clsIn K C).any fun cd=>qg5 cd.mro
section
variable{prog:uI}{w:vA}{A:vI}{E:uB->uD->Prop}{s:uD}{K:uY}{x C:Addr}{o:Obj}{name:Str}{v:uB}{R:iH->uD->Prop}
open PySem.W in
def jqc{tk:Tok}(X:K.In s.heap)(hx:s.heap.get? x=some o)(hc:o.cls=.ref C)(hp:jgd K C=true)(ha:findIn K (.ref C) name=some none)
  (h:uM (uP prog w) A.in1 (gO (.ref x) (.ref C) (.str name tk) name v false)
   (fun fin s'=>match fin with| .done f=>R (.ok f) s'| .again c'=>c'.quiet=true/\aT (uP prog w) A c' R s') (fun e s'=>R (.error e) s') s):
  aT (uP prog w) A (.call (.builtin "object.__setattr__") ⟨[.ref x,.str name tk,v],[]⟩) R s:=by
 have SF:=PySem.F.store_object;obtain⟨cd,hcd,ho⟩:=any_some hp;have LT:Looks (uP prog w) s.heap (typeOf (.ref x)) (.ref C):=hc▸(Looks.ld hx).andThen .now;have ne:cd.mro.isEmpty=false:=by cases q:cd.mro with|nil=>rw[q] at ho;cases ho|cons _ _=>rfl
 have sub:Looks (uP prog w) s.heap (dU (.ref x) (.type "object")) true:=LT.andThen (looks_mroIn X (by unfold mroIn;rw[hcd,iJ,iN (by rw[ne];decide),jkx ho]));refine xV SF.slot.plain SF.entry (@check_slot (uP prog w) _ _ s "object.__setattr__" "object" "__setattr__" (.ref x) [.str name tk,v] [] _ SF.kind SF.split sub (SF.args (.ref x) (.str name tk) v) ?_);have hm:Looks (uP prog w) s.heap (mroOf (.ref C)) cd.mro:=(looks_clsIn X hcd).andThen .now;rw[osa_eq,refuse_eq];refine uA (uA (LT.here (uA (hm.here ?_))));rw[jcf _ ho];refine uE (uA (LT.here (uA ((dZ X ha).here (uA ?_)))));exact uE h
def jmz{tk:Tok}{Q:PySem.Fin->uD->Prop}{mA:Str->Option uB}{ns:List Str}(X:K.In s.heap)(hh:dJ K C=true)(I:s.heap.Inst x C mA)(hw:Within mA ns)(hsz:ns.length<=sizeLine)
  (hq:∀h' tk',h'.Inst x C (fun y=>if y=name then some v else mA y)->
   (∀b o,b≠x->(∀o₀ dx,s.heap.get? x=some o₀->o₀.dict=some dx->b≠dx)->s.heap.get? b=some o->h'.get? b=some o)->
   (∀o₀,s.heap.get? x=some o₀->∃o₁,h'.get? x=some o₁/\o₁.cls=o₀.cls/\o₁.data=o₀.data/\o₁.slots=o₀.slots/\(∀dx,o₀.dict=some dx->o₁.dict=some dx)/\(o₀.dict=none->o₁.dict=some ↑s))->Q (.done (.ret .none)) {s with heap:=h',toks:=tk'}):
  uM (uP prog w) A (gO (.ref x) (.ref C) (.str name tk) name v false) Q E s:=by
 obtain⟨cd,hcd,hd'⟩:=PySem.W.any_some hh;obtain⟨h,g,d,t,os⟩:=s;obtain⟨o,hx,hc,hnc,hd⟩:=I;refine uA (uE (uA (uA (wpAny_loadPart hx ?_))));rw[hc];refine uA (PySem.W.Looks.here (PySem.W.looks_clsIn X hcd) ?_);rw[hd'];rcases hd with⟨hdn,hmA⟩|⟨dx,hdx,hne,hns⟩
 .rw[hdn];show uM _ _ (match o.data with
     |Data.cls c=>pure none
     |x_1=>do
      let d<-alloc {cls:=dP "dict",data:=Data.dict #[]}
      update x fun o=>{cls:=o.cls,dict:=some d,data:=o.data,slots:=o.slots}
      dictMade (.ref C) x d) _ _ _
  split
  .rename_i c hcd;exact absurd hcd (hnc c)
  .have hx₁:(h.push {cls:=.type "dict",data:=.dict #[]}).get? x=some o:=uF _ hx;have hxs:x≠h.objs.size:=vM (uV hx);refine uA (wpAny_alloc' ?_);refine uA (wpAny_update' hx₁ ?_);refine uE ?_;have hgd:((h.push {cls:=.type "dict",data:=.dict #[]}).update x fun o=>{cls:=o.cls,dict:=some h.objs.size,data:=o.data,slots:=o.slots}).get? h.objs.size
     =some {cls:=.type "dict",data:=.dict #[]}:=
    (Heap.get?_update_ne _ _ _ _ hxs.symm).trans (Heap.get?_push_at rfl rfl)
   have hnd:((h.push {cls:=.type "dict",data:=.dict #[]}).update x fun o=>{cls:=o.cls,dict:=some h.objs.size,data:=o.data,slots:=o.slots}).Ns h.objs.size (fun _=>none):=
    ⟨_,#[],_,hgd,rfl,fun e he=>absurd he (by simp),fun _=>rfl⟩
   show uM _ _ (yW h.objs.size (.str name tk) name v) _ _ _;unfold yW iK;refine uA (uE (uA (wpAny_nsSet1 (Heap.Ns1.of_empty hnd) fun h' hn' hs=>?_)));obtain⟨oD,esD,epD,hoD,hdD,hcD⟩:=hn'.count (Within.cons name v Within.nil);refine uA (iF hoD (by rw[hdD];exact iG (wG hcD (by rw[zI,yF,xD];omega))) ?_)
   wp_walk
   have hx':h'.get? x=some {cls:=o.cls,dict:=some h.objs.size,data:=o.data,slots:=o.slots}:=by
    refine(hs.2 x hxs).trans (wZ _ hx₁ ?_);have hfr:=(Heap.get?_some_iff.mp hx).2;obtain⟨oc,od,odt,osl⟩:=o
    cases odt<;>first|rfl|exact hfr
   refine hq h' _ ⟨{cls:=o.cls,dict:=some h.objs.size,data:=o.data,slots:=o.slots},hx',hc,hnc,.inr ⟨h.objs.size,rfl,hxs.symm,?_⟩⟩ (fun b ob hbx _ hb=>?_)
    (fun o₀ h₀=>by obtain rfl:o=o₀:=vB (hx.symm.trans h₀);exact⟨_,hx',rfl,rfl,rfl,(fun dx e=>by rw[hdn] at e;cases e),fun _=>rfl⟩)
   .obtain⟨o',es,ep,e1,e2,e3,eu,e4⟩:=hn';exact⟨o',es,ep,e1,e2,e3,eu,fun y=>by rw[e4 y];by_cases hy:y=name<;>simp[hy,hmA]⟩
   .exact(hs.2 b (vM (uV hb))).trans ((Heap.get?_update_ne _ _ _ _ hbx).trans (uF _ hb))
 .rw[hdx];refine uE ?_;show uM _ _ (yW dx (.str name tk) name v) _ _ _;unfold yW iK;refine uA (uE (uA (wpAny_nsSet1 hns fun h' hn' hs=>?_)));obtain⟨oD,esD,epD,hoD,hdD,hcD⟩:=hn'.count (Within.cons name v hw);refine uA (iF hoD (by rw[hdD];exact iG (wG hcD (by rw[zI];omega))) ?_)
  wp_walk
  refine hq h' _ ⟨o,(hs.2 x hne.symm).trans hx,hc,hnc,.inr ⟨dx,hdx,hne,hn'⟩⟩ (fun b ob _ hbd hb=>?_)
   (fun o₀ h₀=>by obtain rfl:o=o₀:=vB (hx.symm.trans h₀);exact⟨o,(hs.2 x hne.symm).trans hx,rfl,rfl,rfl,(fun _ e=>e),fun z=>by rw[hdx] at z;cases z⟩)
  exact(hs.2 b (hbd o dx hx hdx)).trans hb
def jqd{Q:Unit->uD->Prop}{mA:Str->Option uB}{ns:List Str}(X:K.In s.heap)(hs:vC K (.ref C) "__setattr__"=some (some (.builtin "object.__setattr__")))(hp:jgd K C=true)(ha:vC K (.ref C) name=some none)
  (hh:dJ K C=true)(I:s.heap.Inst x C mA)(hw:Within mA ns)(hsz:ns.length<=sizeLine)
  (hq:∀h' tk',h'.Inst x C (fun y=>if y=name then some v else mA y)->
   (∀b o,b≠x->(∀o₀ dx,s.heap.get? x=some o₀->o₀.dict=some dx->b≠dx)->s.heap.get? b=some o->h'.get? b=some o)->
   (∀o₀,s.heap.get? x=some o₀->∃o₁,h'.get? x=some o₁/\o₁.cls=o₀.cls/\o₁.data=o₀.data/\o₁.slots=o₀.slots/\(∀dx,o₀.dict=some dx->o₁.dict=some dx)/\(o₀.dict=none->o₁.dict=some ↑s))->Q () {s with heap:=h',toks:=tk'}):
  uM (uP prog w) A (setAttr (.ref x) name v) Q E s:=by
 obtain⟨o,hx,hc,hnc,hd⟩:=id I;have LT:xX (uP prog w) s.heap (typeOf (.ref x)) (.ref C):=hc▸(iI hx).andThen .now;refine uA (wpAny_mkText (uA (uA (uA (LT _ _ _ _ (fun _ _ e=>e) (PySem.W.looks_findIn X hs _ _ _ _ (fun _ _ e=>e) (vO ?_)))))));rw[PySem.F.store_object.slot.bind];refine uA (uE (uA (xH (jqc (s:={s with toks:=s.toks+1}) X hx hc hp ha (jmz (s:={s with toks:=s.toks+1}) X hh I hw hsz fun h' tk' a b c=>?_)))));exact uE (uE (hq h' tk' a b c))
end
section
variable{prog:uI}{w:vA}{A:vI}{E:uB->uD->Prop}{s:uD}{K:uY}{x C:Addr}{ox:Obj}{od:Option Obj}{name:Str}{v:uB}{R:iH->uD->Prop}
open PySem.W in
def jws{tk:Tok}(X:K.In s.heap)(I:InstAt s.heap x ox C od)(hm:mroIn K C (.type "BaseException")=some true)(hf:findObj K C od name=some (.value v))(h:R (.ok (.ret v)) s):
  aT (uP prog w) A (.call (.builtin "BaseException.__getattribute__") ⟨[.ref x,.str name tk],[]⟩) R s:=by
 have L0:=I.type (M:=uP prog w);have sub:Looks (uP prog w) s.heap (dU (.ref x) (.type "BaseException")) true:=L0.andThen (looks_mroIn X hm);have hk:builtinKind "BaseException.__getattribute__"=some .slot:=by decide+kernel
 have hsplit:splitId "BaseException.__getattribute__"=some ("BaseException","__getattribute__"):=by decide+kernel
 refine xV PySem.F.attr_ValueError.ga.plain PySem.F.entry_bexc_ga (@check_slot (uP prog w) _ _ s "BaseException.__getattribute__" "BaseException" "__getattribute__" (.ref x) [.str name tk] [] _ hk hsplit sub (PySem.F.args_bexc_ga (.ref x) (.str name tk)) ?_);obtain⟨hh',g,d,t,os⟩:=s;have L1:=looks_find (M:=uP prog w) X I hf;unfold xY.«object.__getattribute__»;refine uA (uE (uA (uE (uA (L0.at (uA (L1.at ?_)))))));exact uE h
open PySem.W in
def jtn{expr:Bool}{Q:uB->uD->Prop}(X:K.In s.heap)(I:InstAt s.heap x ox C od)(hga:findIn K (.ref C) "__getattribute__"=some (some (.builtin "BaseException.__getattribute__")))(hgn:findIn K (.ref C) "__getattr__"=some none)
  (hm:mroIn K C (.type "BaseException")=some true)
  (hf:findObj K C od name=some (.value v))(hh:handedIn v=true)(h:Q v {s with toks:=s.toks+1}):uM (uP prog w) A (getAttr (.ref x) name expr) Q E s:=by
 obtain⟨hh',g,d,t,os⟩:=s;have L0:=I.type (M:=uP prog w);have L1:=dZ (M:=uP prog w) X hga;have L2:=dZ (M:=uP prog w) X hgn;unfold getAttr getAttrBy;refine uA (wpAny_mkText (vO (uA (L0.at (uA (L1.at ?_))))));have hx2:(cF "BaseException.__getattribute__"==cF "object.__getattribute__")=false:=by decide+kernel
 dsimp only;rw[hx2,aR,iN uL];unfold getAttrByItsOwn;refine uA ?_;show uM _ _ (gJ (.ref C) "__getattr__") _ _ _;refine L2.at ?_;have hx0:(expr && onTheHeap (cF "BaseException.__getattribute__"))=false:=by cases expr<;>rfl
 unfold callGetattribute;rw[hx0,iN uL];unfold boundAndCalled;rw[PySem.F.attr_ValueError.ga.bind];refine uA (dF (vO (uA (uE (xH (jws (s:=⟨hh',g,d,t+1,os⟩) X I hm hf ?_))))));show uM _ _ (handedOut v) _ _ _;rw[handedOut_of hh];exact uE h
open PySem.W in
def jm0{a g:uB}(hc:(clsIn K C).isSome=true)(ha:findIn K (.ref C) name=some (some a))(hg:specialIn K a "__get__"=some (some g))(ht:takesIn K a=some true):findObj K C od name=some (.bind g a):=by
 obtain⟨cd,hc⟩:=bF.mp hc;unfold findObj;rw[hc,iJ,ha,iJ];simp[hg,ht]
open PySem.W in
def jto{tk:Tok}{a f:uB}(X:K.In s.heap)(I:InstAt s.heap x ox C od)(hm:mroIn K C (.type "BaseException")=some true)(hf:findObj K C od name=some (.bind f a))
  (h:uM (uP prog w) A.in1 (call f [a,.ref x,.ref C]) (fun v s'=>R (.ok (.ret v)) s') (fun e s'=>R (.error e) s') s):
  aT (uP prog w) A (.call (.builtin "BaseException.__getattribute__") ⟨[.ref x,.str name tk],[]⟩) R s:=by
 have L0:=I.type (M:=uP prog w);have sub:Looks (uP prog w) s.heap (dU (.ref x) (.type "BaseException")) true:=L0.andThen (looks_mroIn X hm);have hk:builtinKind "BaseException.__getattribute__"=some .slot:=by decide+kernel
 have hsplit:splitId "BaseException.__getattribute__"=some ("BaseException","__getattribute__"):=by decide+kernel
 refine xV PySem.F.attr_ValueError.ga.plain PySem.F.entry_bexc_ga (@check_slot (uP prog w) _ _ s "BaseException.__getattribute__" "BaseException" "__getattribute__" (.ref x) [.str name tk] [] _ hk hsplit sub (PySem.F.args_bexc_ga (.ref x) (.str name tk)) ?_);obtain⟨hh',g,d,t,os⟩:=s;have L1:=looks_find (M:=uP prog w) X I hf;unfold xY.«object.__getattribute__»;refine uA (uE (uA (uE (uA (L0.at (uA (L1.at ?_)))))));show uM _ _ (fJ [a] (call f [a,.ref x,.ref C]) >>= ret) _ _ _;exact uA (vO (vR h (fun v s' z=>uE z) fun _ _ z=>z))
structure XAt(K:uY)(C:Addr):Prop where
 ga:vC K (.ref C) "__getattribute__"=some (some (.builtin "BaseException.__getattribute__"))
 gn:vC K (.ref C) "__getattr__"=some none
 mb:fV K C (.type "BaseException")=some true
 mo:fV K C (.type "object")=some true
 hd:dJ K C=true
 cl:vC K (.ref C) "__class__"=some (some (.builtin "object.__class__"))
 sp:bQ K (.builtin "object.__class__") "__get__"=some (some (.builtin "getset_descriptor.__get__"))
 tk:PySem.W.takesIn K (.builtin "object.__class__")=some true
 sa:vC K (.ref C) "__setattr__"=some (some (.builtin "object.__setattr__"))
 po:jgd K C=true
open PySem.W in
def jtp{Q:Option uB->uD->Prop}(c:XAt K C)(X:K.In s.heap)(I:InstAt s.heap x ox C od)(h:Q (some (.ref C)) {s with toks:=s.toks+1}):uM (uP prog w) A (getAttr? (.ref x) "__class__") Q E s:=by
 have hf:findObj K C od "__class__"=some (.bind (.builtin "getset_descriptor.__get__") (.builtin "object.__class__")):=jm0 (by obtain⟨cd,hc,_⟩:=any_some c.hd;rw[hc];rfl) c.cl c.sp c.tk;obtain⟨hh',g,d,t,os⟩:=s;have L0:=I.type (M:=uP prog w);have L1:=dZ (M:=uP prog w) X c.ga;have L2:=dZ (M:=uP prog w) X c.gn;unfold getAttr? getAttrBy? getAttrBy;refine uA (wpAny_mkText (uA (dF (vO (uA (L0.at (uA (L1.at ?_))))))));have hx2:(cF "BaseException.__getattribute__"==cF "object.__getattribute__")=false:=by decide+kernel
 dsimp only;rw[hx2,aR,iN uL];unfold getAttrByItsOwn;refine uA ?_;show uM _ _ (gJ (.ref C) "__getattr__") _ _ _;refine L2.at ?_;have hx0:(false && onTheHeap (cF "BaseException.__getattribute__"))=false:=rfl;unfold callGetattribute;rw[hx0,iN uL];unfold boundAndCalled;rw[PySem.F.attr_ValueError.ga.bind];refine uA (dF (vO (uA (uE (xH (jto (s:=⟨hh',g,d,t+1,os⟩) X I c.mb hf ?_))))));refine xH (class_get (s:=⟨hh',g,d,t+1,os⟩) (ox:=ox) (od:=od) X I c.mo ?_);show uM _ _ (handedOut (.ref C)) _ _ _;exact uE (uE h)
open PySem.W in
def jji(c:XAt K C):KitX K (.ref x) (.ref C) (fun h=>∃ox od,InstAt h x ox C od) where
 ty:=fun _ _ _ ⟨_,_,I⟩=>I.type
 it:=fun _ _ X _=>by
  obtain⟨cdD,hcD,_⟩:=any_some c.hd;unfold clsIn at hcD
  split at hcD
  .rename_i c' d' cd' sl' ho;intro A' Q' E' s' k q;unfold isType loadHead;exact uA (wpAny_loadPart (k _ _ (X _ _ ho)) (uE q))
  .cases hcD
 ne:=fun h tp dd its n sl X htp=>by
  obtain⟨cdD,hcD,_⟩:=any_some c.hd;refine cY.mpr fun q=>?_;have e:C=tp:=Value.ref.inj (beq_iff_eq.mp q);subst e;unfold clsIn at hcD
  split at hcD
  .rename_i c' d' cd' sl' ho;have z:=(X _ _ ho).symm.trans htp
   cases z
  .cases hcD
 ca:=fun X ⟨_,_,I⟩ k=>jtp c X I k
end
noncomputable def XS(a C:Addr)(d:Option Addr):HO:=.ext fun h=>∃(oe:Obj)(vs:Array uB),h.get? a=some oe/\oe.cls=.ref C/\oe.dict=d/\oe.data=.fields vs/\vs[1]?=some .none/\(∃t0:Addr,vs[0]?=some (.ref t0))/\∀dx,d=some dx->dx≠a
noncomputable def XD(dx:Addr)(fs:List (Str×V)):HO:=.ext fun h=>∃mA,h.Ns1 dx mA/\(∀f,qf1 (fs.lookup f) (mA f))/\bN mA (fs.map (·.1))/\fs.length<=1000
section
variable{X:Cx}{pins:List (Addr×Obj)}{σ:L2.St}{H:Hp}{s:uD}{a C dx:Addr}{fs:List (Str×V)}{f:Str}{v y:V}{u:uB}{A:vI}{E:uB->uD->Prop}
def jm1{H:Hp}{d:Option Addr}(x:∃(oe:Obj)(vs:Array uB),h.get? a=some oe/\oe.cls=.ref C/\oe.dict=d/\oe.data=.fields vs/\vs[1]?=some .none/\(∃t0:Addr,vs[0]?=some (.ref t0))/\∀dx,d=some dx->dx≠a):qbg P w H h a (XS a C d):=by
 obtain⟨oe,vs,h1,h2⟩:=id x;exact⟨x,⟨oe,h1⟩,fun h1 h2 ⟨oe,vs,z,zz⟩ k=>⟨oe,vs,k _ z,zz⟩⟩
def jqe{H:Hp}{mA:Str->Option uB}(n:h.Ns1 dx mA)(r:∀f,qf1 (fs.lookup f) (mA f))(wi:bN mA (fs.map (·.1)))(z:fs.length<=1000):qbg P w H h dx (XD dx fs):=by
 obtain⟨od,es,ep,e,c⟩:=id n;exact⟨⟨mA,n,r,wi,z⟩,⟨od,e⟩,fun h1 h2 ⟨mA,⟨od,es,ep,e,c⟩,q⟩ k=>⟨mA,⟨od,es,ep,k _ e,c⟩,q⟩⟩
def jdz{d:Option Addr}(x:HOk P w H h)(e:H a=some (XS a C d)):∃(oe:Obj)(vs:Array uB),h.get? a=some oe/\oe.cls=.ref C/\oe.dict=d/\oe.data=.fields vs/\vs[1]?=some .none/\(∃t0:Addr,vs[0]?=some (.ref t0))/\∀dx,d=some dx->dx≠a:=
 (show qbg P w H h a (XS a C d) from x a _ e).1
def jky(x:HOk P w H h)(e:H dx=some (XD dx fs)):∃mA,h.Ns1 dx mA/\(∀f,qf1 (fs.lookup f) (mA f))/\bN mA (fs.map (·.1))/\fs.length<=1000:=
 (show qbg P w H h dx (XD dx fs) from x dx _ e).1
def jge{Q:Unit->uD->Prop}(I:Inv X pins σ H s)(e:H a=some (XS a C none))(c:XAt X.K C)(n:qb0 X.K C f)(ry:qbb y u)
  (h:∀dx s',H dx=none->dx≠a->Inv X pins σ (upd (upd H dx (XD dx [(f,y)])) a (XS a C (some dx))) s'->Q () s'):uM (uP X.prog X.w) A (setAttr (.ref a) f u) Q E s:=by
 obtain⟨oe,vs,h1,h2,h3,h4,h5,h6,_⟩:=jdz I.hok e;have J:s.heap.Inst a C (fun _=>none):=⟨oe,h1,h2,(fun c q=>by rw[h4] at q;cases q),.inl ⟨h3,fun _=>rfl⟩⟩;refine jqd I.kIn c.sa c.po n c.hd J PySem.Within.nil (wV _) fun h' tk' I' kp ob=>?_;obtain⟨o1,q1,q2,q3,q4,_,q5⟩:=ob oe h1;have q5:=q5 h3;have hlt:=uV h1;have hne:↑s≠a:=Nat.ne_of_gt hlt;have hn:H ↑s=none:=I.hok.fresh (uG _);refine h ↑s _ hn hne ?_;have keep:∀b o,b≠a->s.heap.get? b=some o->h'.get? b=some o:=fun b o hb q=>kp b o hb (fun o₀ dx z zz=>by rw[h1] at z;cases z;rw[h3] at zz;cases zz) q;obtain⟨o2,w1,w2,w3,w4⟩:=id I';rw[q1] at w1;cases w1;rcases w4 with⟨w4,_⟩|⟨d2,w4,_,w5⟩
 .rw[q5] at w4;cases w4
 rw[q5] at w4;cases w4;have fr:oe.isFreed=false:=(Heap.get?_some_iff.mp h1).2;have z1:(h'.update a fun _=>oe).get? a=some oe:=wZ (fun _=>oe) q1 fr;have z2:∀b,b≠a->(h'.update a fun _=>oe).get? b=h'.get? b:=fun b hb=>wM _ _ (xB hb);have w6:(h'.update a fun _=>oe).Ns1 ↑s (fun y=>if y=f then some u else none):=by
  obtain⟨o,es,ep,e1,r⟩:=w5;exact⟨o,es,ep,(z2 _ hne).trans e1,r⟩
 have rel:∀g,qf1 (([(f,y)]:List (Str×V)).lookup g) (if g=f then some u else none):=fun g=>by
  show qf1 ((qe9 f y []).lookup g) _;rw[qd2];by_cases q:g=f
  .rw[iO q,iO q];exact ry
  .rw[iN q,iN q];exact wF
 have wi:bN (fun y=>if y=f then some u else none) (([(f,y)]:List (Str×V)).map (·.1)):=PySem.Within.cons f u PySem.Within.nil;have I1:Inv X pins σ (upd H ↑s (XD ↑s [(f,y)])) {s with heap:=h'.update a fun _=>oe,toks:=tk'}:=by
  refine I.laid (a:=↑s) (t':=tk') (fun b o q=>?_) (uG _) (jqe w6 rel wi (by show 1<=1000;decide));by_cases hb:b=a
  .subst hb;rw[h1] at q;cases q;exact z1
  .exact(z2 b hb).trans (keep b o hb q)
 refine I1.write (x:=a) (e:=a) (h':=h') (t':=tk') ?_ (.inl rfl) (fun b o hb q=>(z2 b hb).symm.trans q) ⟨_,q1⟩ ?_
 .rw[qa9 (xB hne),e];exact wF
 .exact jm1 ⟨o1,vs,q1,q2.trans h2,q5,q3.trans h4,h5,h6,fun dx z=>by cases z;exact hne⟩
def jjj{Q:Unit->uD->Prop}(I:Inv X pins σ H s)(e:H a=some (XS a C (some dx)))(ed:H dx=some (XD dx fs))(c:XAt X.K C)(n:qb0 X.K C f)(hl:fs.length<1000)(ry:qbb y u)
  (h:∀s',Inv X pins σ (upd H dx (XD dx (qe9 f y fs))) s'->Q () s'):uM (uP X.prog X.w) A (setAttr (.ref a) f u) Q E s:=by
 obtain⟨oe,vs,h1,h2,h3,h4,h5,h6,h7⟩:=jdz I.hok e;obtain⟨mA,nm,r,wi,_⟩:=jky I.hok ed;have hne:=h7 dx rfl;have J:s.heap.Inst a C mA:=⟨oe,h1,h2,(fun c q=>by rw[h4] at q;cases q),.inr ⟨dx,h3,hne,nm⟩⟩;refine jqd I.kIn c.sa c.po n c.hd J wi (by rw[zB,xD];omega) fun h' tk' I' kp ob=>?_;obtain⟨o1,q1,q2,q3,q4,q5,_⟩:=ob oe h1;have q6:=q5 dx h3;obtain⟨o2,w1,w2,w3,w4⟩:=id I';rw[q1] at w1;cases w1;rcases w4 with⟨w4,_⟩|⟨d2,w4,_,w5⟩
 .rw[q6] at w4;cases w4
 rw[q6] at w4;cases w4;refine h _ (I.write (x:=dx) (e:=dx) (h':=h') (t':=tk') (by rw[ed];exact wF) (.inl rfl) (fun b o hb q=>?_) (let ⟨o,_,_,z,_⟩:=w5;⟨o,z⟩) (jqe w5 (fun g=>?_) (fun g hg=>?_) ?_))
 .by_cases hba:b=a
  .subst hba;rw[h1] at q;cases q;have this:o1=oe:=by
    obtain⟨c1,d1,t1,l1⟩:=o1;obtain⟨c2,d2,t2,l2⟩:=oe;dsimp only at q2 q3 q4 q6 h3
    cases q2;cases q3;cases q4;cases q6;cases h3;rfl
   rw[<-this];exact q1
  .exact kp b o hba (fun o₀ d3 z zz=>by rw[h1] at z;cases z;rw[h3] at zz;cases zz;exact hb) q
 .show qf1 ((qe9 f y fs).lookup g) (if g=f then some u else mA g);rw[qd2];by_cases q:g=f
  .rw[iO q,iO q];exact ry
  .rw[iN q,iN q];exact r g
 .by_cases q:g=f
  .rw[q];exact(qdj f y fs).1
  .refine(qdj f y fs).2 g (wi g fun z=>hg ?_);show(if g=f then some u else mA g)=none;rw[iN q];exact z
 .have:=qe1 f y fs;omega
def jtq{b:Bool}{Q:uB->uD->Prop}(I:Inv X pins σ H s)(e:H a=some (XO a (.ref C) (some dx)))(ed:H dx=some (XD dx fs))(c:XAt X.K C)(n:qb0 X.K C f)(l:fs.lookup f=some v)
  (h:∀u s',Inv X pins σ H s'->qbb v u->Q u s'):uM (uP X.prog X.w) A (getAttr (.ref a) f b) Q E s:=by
 obtain⟨⟨oe,vs,h1,h2,h3,h4⟩,_⟩:=(show qbg X.prog X.w H s.heap a (XO a (.ref C) (some dx)) from I.hok a _ e);obtain⟨mA,nm,r,wi,_⟩:=jky I.hok ed;obtain⟨u,hu,ru⟩:=qf1.some_of (v:=v) (o:=mA f) (by rw[<-l];exact r f);obtain⟨od,ho,hlk⟩:=jbs nm;have J:PySem.W.InstAt s.heap a oe C (some od):=⟨h1,h2,by unfold PySem.W.notCls;rw[h4],by rw[h3];exact ho⟩;exact jtn I.kIn J c.ga c.gn c.mb (PySem.W.findObj_own c.hd n rfl (by rw[hlk,hu])) (jbt ru) (h u _ (I.tok _) ru)
def jtr{d:Option Addr}{t:uB}{b:Bool}{Q:uB->uD->Prop}(I:Inv X pins σ H s)(e:H a=some (XO a (.ref C) d))(ed:∀dx,d=some dx->∃o,H dx=some o)(c:XAt X.K C)(k:vY X.K (.ref C) t=some b)
  (h:∀s',Inv X pins σ H s'->Q (.bool b) s'):uM (uP X.prog X.w) A (call (.builtin "isinstance") [.ref a,t]) Q E s:=by
 obtain⟨⟨oe,vs,h1,h2,h3,h4⟩,_⟩:=(show qbg X.prog X.w H s.heap a (XO a (.ref C) d) from I.hok a _ e);have J:∃ox od,PySem.W.InstAt s.heap a ox C od:=by
  cases d with
  |none=>exact⟨oe,none,h1,h2,by unfold PySem.W.notCls;rw[h4],by rw[h3];exact wF⟩
  |some dx=>
   obtain⟨o,q⟩:=ed dx rfl;obtain⟨ob,z⟩:=jb6 (I.hok dx o q);exact⟨oe,some ob,h1,h2,by unfold PySem.W.notCls;rw[h4],by rw[h3];exact z⟩
 exact wJ (jji c) I.kIn J k (fun z=>nomatch z) fun tk=>h _ (I.tok tk)
end
noncomputable def del(H:Hp)(a:Addr):Hp:=fun b=>if b=a then none else H b
def qdq{H:Hp}{a:Addr} :del H a a=none:=by unfold del;rw[iO rfl]
def qd8{H:Hp}{a b:Addr}(h:b≠a):del H a b=H b:=by unfold del;rw[iN h]
section
variable{X:Cx}{pins:List (Addr×Obj)}{σ:L2.St}{H:Hp}{s:uD}{a:Addr}{φ:vS->Prop}
theorem Inv.del(I:Inv X pins σ H s)(e:H a=some (.ext φ)):Inv X pins σ (My.del H a) s:=by
 have ne:∀b o,H b=some o->(∀φ,o≠ .ext φ)->b≠a:=fun b o q d z=>by rw[z,e] at q;cases q;exact d _ rfl
 refine⟨I.ok,I.os,I.bare,⟨I.base.keep,I.base.slot,fun b o q n hx=>?_,I.base.there,fun b xs q=>?_,fun b o u q=>?_,fun b ps q=>?_⟩,I.loc,I.cell,?_,fun x c q=>?_,fun p hp=>?_,fun b o q=>?_,I.len⟩
 .have z:=I.base.free b o q n hx;by_cases hb:b=a
  .rw[hb];exact qdq
  .rw[qd8 hb];exact z
 .have z:=I.base.tups b xs q;rw[qd8 (ne _ _ z (by intro φ y;cases y))];exact z
 .have z:=I.base.frzs b o u q;rw[qd8 (ne _ _ z (by intro φ y;cases y))];exact z
 .obtain⟨more,z⟩:=I.base.tbls b ps q;exact⟨more,by rw[qd8 (ne _ _ z (by intro φ y;cases y))];exact z⟩
 .by_cases hb:X.env.locals=a
  .rw[hb];exact qdq
  .rw[qd8 hb];exact I.free
 .by_cases hb:c=a
  .rw[hb];exact qdq
  .rw[qd8 hb];exact I.freeC x c q
 .obtain⟨z,n,l⟩:=I.pin p hp;refine⟨z,?_,l⟩;by_cases hb:p.1=a
  .rw[hb];exact qdq
  .rw[qd8 hb];exact n
 .have hb:b≠a:=fun z=>by rw[z,qdq] at q;cases q
  rw[qd8 hb] at q;exact(I.hok b o q).stay (fun _ _ _ q=>q) (fun c q=>by rw[qd8 (ne _ _ q (by intro φ y;cases y))];exact q) fun c xs q=>by rw[qd8 (ne _ _ q (by intro φ y;cases y))];exact q
end
structure XClI(K:uY)(C f:Addr):Prop where
 ob:∃(nm q:Str)(N:Addr)(bs bm:List uB)(hdct:Bool)(sn:List Str)(sub:List uB)(ab:Bool)(col:Option Bool)(dd:Option Addr)(k0 k1 k2 k3 k5:Option uB)(mN:Str->Option uB),
  K.lookup C=some (bL nm q C N bs bm hdct sn sub ab col dd k0 k1 k2 k3 k5 "ValueError.__new__")/\(∀h:vS,K.In h->h.Ns N mN)/\mN "__init__"=some (.ref f)/\
  ∀h:vS,K.In h->OwnTail h [.type "ValueError",.type "Exception",.type "BaseException",.type "object"] bm
 fn:isFn K (.ref f)=true
section
variable{X:Cx}{k:Nat}{f:Addr}{fd:uT}{ps:List Str}{sp:Sp}{x:Str}{C:Addr}{W:L2.St->XK}{np cpos pos:Pos}{e:vT}{es:List vT}{t:TA}
noncomputable def jgf(t:TA)(C:Addr)(sp:Sp)(W:L2.St->XK):TS:=fun _ σ H=>t σ H fun xs H1=>xs.length<=sizeLine/\∀a,H1 a=none->sp (.ref a::xs) (upd H1 a (XS a C none)) (fun v H2=>v=.non/\∃d,H2 a=some (XS a C d)/\W σ (.ref C) d (My.del H2 a)) E0
def jgg(hc:X.calm=true)(M:XClI X.K C f)(F:jab X.prog X.w X.K X.mg X.base CX0 k f fd ps sp)(hr:jar (k+1) X.A)(hb:qat X.K fd ps [])(hg:Gl X x)(hm:X.mg x=some (.ref C))(hx:Xes X W)(ha:PA X (e::es) t)(hex:autoParam (X.ex=[]) auR)(hdb:autoParam ((x==("__debug__":Str))=false) auD)
  (he:autoParam (vF (e::es) X.env=(false,wQ e X.env)::vF es X.env) auR) (hpl:autoParam ((wW cpos (vF es X.env)).any (·.1)=false) auR):
  PS X (.Raise (some (.Call (.Name x np) (e::es) [] cpos)) none pos) (jgf t C sp W):=by
 intro pins s σ H D I h;obtain⟨nm,q,N,bs,bm,hdct,sn,sub,ab,col,dd,k0,k1,k2,k3,k5,mN,hC,hN,hni,T⟩:=M.ob;refine qfs (C:=C) (fI:=f) (nm:=nm) (q:=q) (N:=N) (bs:=bs) (bm:=bm) (hdct:=hdct) (sn:=sn) (sub:=sub) (ab:=ab) (col:=col) (dd:=dd) (k0:=k0) (k1:=k1) (k2:=k2) (k3:=k3) (k5:=k5)
  xP ∅ xP (mN:=mN) ((T _ I.kIn).hasType PySem.F.excBase_ValueError.hasBase) (I.ok.hd hc) ?_ hni ?_
 .rw[he];show(false ||(wW cpos (vF es X.env)).any (·.1))=false;rw[hpl];rfl
 .refine qcw I hg hm ⟨rfl,?_⟩ hdb;have z:=ha cpos pins s σ H _ I h;rw[he] at z⊢;refine aQ (vR z (fun us s2 h9=>?_) fun _ _ y=>y);obtain⟨vs,H2,I2,r,hl,q⟩:=h9;have ea:(qd5 s2.heap C us).get? (↑s2+1)=some {cls:=.ref C,data:=.fields #[.ref ↑s2,.none,.none,.none,.bool false,.none]}:=by
   have:=uX (s2.heap.push {cls:=.type "tuple",data:=.seq us.toArray}) (o:={cls:=.ref C,data:=.fields #[.ref ↑s2,.none,.none,.none,.bool false,.none]}) rfl
   rwa [bR] at this
  have hn:H2 (↑s2+1)=none:=I2.hok.fresh (aP _);have I3:Inv X pins σ (upd H2 (↑s2+1) (XS (↑s2+1) C none)) {s2 with heap:=qd5 s2.heap C us}:=
   I2.laid (t':=s2.toks) (fun b o y=>uF _ (uF _ y)) (aP _) (jm1 ⟨_,_,ea,rfl,rfl,rfl,rfl,⟨_,rfl⟩,fun dx y=>by cases y⟩)
  have q:=q _ hn;refine⟨rfl,by rw[<-r.length];exact hl,I2.kIn _ _ hC,hN _ I2.kIn,T _ I2.kIn,PySem.W.bind_fn I3.kIn _ (beq_iff_eq.mp M.fn),?_⟩;have r2:qbk (V.ref (↑s2+1)::vs) (uS (↑s2+1)::us):=.cons rfl r;have hln:(uS (↑s2+1)::us++[]).length=ps.length:=by rw[zW,<-r2.length];exact F.len _ _ _ _ q
  have hb':=hb {s2 with heap:=qd5 s2.heap C us} (uS (↑s2+1)::us) I3.kIn hln;rw[zW] at hb';refine xH (xU (F.run _ X.stack _ _ ⟨uS (↑s2+1)::us,[]⟩ (uS (↑s2+1)::us) _ _ E0 (hr.make C us []) (I3.env0.make C us []) hb' r2 q) fun r s' hq'=>?_)
  cases r with
  |error e=>exact vU hq'
  |ok fl=>
   cases fl with
   |ret u=>
    obtain⟨v,H',I4,rv,ev,d,e4,q4⟩:=I3.after hq';subst ev;obtain⟨oe,ws,g1,g2,g3,g4,g5,g6,g7⟩:=jdz I4.hok e4;refine⟨rv,I4.kIn _ _ hC,⟨oe,g1,g2,ws,g4,g5⟩,?_⟩;have new:s2.heap.get? (↑s2+1)=none:=cG (aP _);refine hx pins σ _ _ _ (.ref C) d (Inv.del I4 e4) ⟨⟨jdq I2 hex new,qdq,fun p hp y=>?_,⟨_,_,g1,g4⟩⟩,.inl ⟨_,_,g1,g2,g3,g4,g5⟩⟩ q4;have w:=(I2.pin p hp).1;rw[y,new] at w
    cases w
   |next=>exact vU hq'
   |brk=>exact vU hq'
   |cont=>exact vU hq'
end
noncomputable def jvf(te:TE):TE:=fun σ H Q=>te σ H fun v H1=>∃z,v=.str z/\z.length<=sizeLine/\Q (.str z) H1
noncomputable def qfb:List TE->Str->TE
 | [],out=>fun _ H Q=>Q (.str out) H
 |t::r,out=>fun σ H Q=>t σ H fun v H1=>∃y,v=.str y/\(out++y).length<=sizeLine/\qfb r (out++y) σ H1 Q
noncomputable def jqf(ts:List TE):TE:=qfb ts Str.empty
section
variable{X:Cx}
def jkz{e:vT}{pos:Pos}(he:PE X e te):PE X (.FormattedValue e (-1) none pos) (jvf te):=by
 intro pins s σ H Q I h;refine FormattedValue_plain (thn (he pins s σ H _ I h) fun u s1 h9=>?_);obtain⟨v,H1,I1,r,z,ev,hz,q⟩:=h9;subst ev;obtain⟨t,rfl⟩:=r;exact formatField_str (fun t' tk=>⟨.str z,H1,I1.tok tk,⟨t',rfl⟩,q⟩) hz
inductive PJ(X:Cx):List vT->List TE->Prop
 |nil:PJ X [] []
 |cons{e:vT}{es:List vT}{t:TE}{ts:List TE}(h:PE X e t)(r:PJ X es ts):PJ X (e::es) (t::ts)
theorem jd0{pins:List (Addr×Obj)}{σ:L2.St}:∀{es:List vT} {ts:List TE} (j:PJ X es ts) (out:Str) (ho:out.length<=sizeLine) (s:uD) (H:Hp) (Q:VK) (I:Inv X pins σ H s) (h:qfb ts out σ H Q),
  uM (uP X.prog X.w) X.A (joinParts out (evalEach es X.env)) (EP X pins σ Q) X.xe s
 |_,_,.nil,out,ho,s,H,Q,I,h=>joinParts_nil ⟨.str out,H,I.tok _,⟨_,rfl⟩,h⟩ ho
 |_,_,.cons (e:=e) he r,out,ho,s,H,Q,I,h=>by
  show uM _ _ (joinParts out (wQ e X.env::evalEach _ X.env)) _ _ _;refine joinParts_cons (thn (he pins s σ H _ I h) fun u s1 h9=>?_);obtain⟨v,H1,I1,rv,y,ev,hz,q⟩:=h9;subst ev;obtain⟨t,rfl⟩:=rv;exact⟨hz,jd0 r _ hz s1 H1 Q I1 q⟩
def jm2{v1 v2:vT}{rest:List vT}{pos:Pos}{ts:List TE}(j:PJ X (v1::v2::rest) ts):PE X (.JoinedStr (v1::v2::rest) pos) (jqf ts):=by
 intro pins s σ H Q I h;exact JoinedStr_many (jd0 j Str.empty ∅ s H Q I h)
end
section
variable{σ:L2.St}{H:Hp}{Q:VK}{te t:TE}{r:List TE}{z out:Str}
def jts(h:te σ H fun v H1=>∃z,v=.str z/\z.length<=sizeLine/\Q (.str z) H1):jvf te σ H Q:=h
def jqg{ts:List TE}(h:qfb ts Str.empty σ H Q):jqf ts σ H Q:=h
def jm3(h:Q (.str out) H):qfb [] out σ H Q:=h
def jm4(h:t σ H fun v H1=>∃y,v=.str y/\(out++y).length<=sizeLine/\qfb r (out++y) σ H1 Q):qfb (t::r) out σ H Q:=h
end
section
variable{prog:uI}{w:vA}{A:vI}{E:uB->uD->Prop}{h:vS}{g:Array gS}{d:Drawn}{t:Nat}{os:OsState}
variable{nm q:Str}{C N:Addr}{bs bm bmB:List uB}{hdct:Bool}{sn:List Str}{sub:List uB}{ab:Bool}{col:Option Bool}{dd:Option Addr}{k0 k1 k2 k3 k5:Option uB}{B newId nid initId:String}
def jqh(F:bU B nid initId bmB)(T:OwnTail h bmB bm){e t0:Addr}{oe:Obj}{vs:Array uB}{rest:List uB}{Q:uB->uD->Prop}
  (hC:h.get? C=some (bL nm q C N bs bm hdct sn sub ab col dd k0 k1 k2 k3 k5 newId))(he:h.get? e=some oe)(hcls:oe.cls=.ref C)(hd:oe.data=.fields vs)(h0:vs[0]?=some (.ref t0))
  (hq:Q .none ⟨(h.push {cls:=.type "tuple",data:=.seq rest.toArray}).update e (xC (·.setIfInBounds 0 (.ref h.objs.size))),g,d,t,os⟩)(hrest:rest.length<=sizeLine):
  uM (uP prog w) A (call (.builtin initId) (.ref e::rest)) Q E ⟨h,g,d,t,os⟩:=by
 refine xH (xV F.init.plain F.initEntry (wpAny_check_init_subU F T hC he hcls ?_));have he':=uF {cls:=.type "tuple",data:=.seq rest.toArray} he;have hsz:0<vs.size:=(wI.mp h0).1
 repeat (first|with_reducible refine cV he hd h0 ?_|with_reducible refine aS he' hd hsz ?_|wp_step)
 rw[hd];refine uE ?_;rw[h0];refine uE (uA (aS he' hd hsz ?_));dsimp only
 wp_walk
 exact hq
end
structure XBase(K:uY)(T:Addr):Prop where
 ga:bQ K (.ref T) "__getattribute__"=some (some (.builtin "type.__getattribute__"))
 rd:PySem.W.readsIn K T (.type "type")=true
 at_:PySem.W.findCls K (.ref T) (.type "type") "__init__"=some (.val (.builtin "ValueError.__init__"))
section
variable{X:Cx}{C T f:Addr}{x:Str}{p apos cpos:Pos}{e:vT}{es:List vT}{t:TA}
noncomputable def jk0(C:Addr)(t:TA):TE:=fun σ H Q=>t σ H fun xs H1=>∃a d ys,xs=.ref a::ys/\ys.length<=sizeLine/\H1 a=some (XS a C d)/\Q .non H1
def jjk{pl:Sem Bool}(M:XClI X.K C f)(b:XBase X.K T)(hg:Gl X x)(hm:X.mg x=some (.ref T))(ha:PA X (e::es) t)
  (hdb:autoParam ((x==("__debug__":Str))=false) auD)(hst:autoParam (vF (e::es) X.env=(false,wQ e X.env)::vF es X.env) auR)(hplain:autoParam ((wW cpos (vF es X.env)).any (·.1)=false) auR)
  (ht:autoParam (wQ (.Call (.Attribute (.Name x p) "__init__" apos) (e::es) [] cpos) X.env=(do
   let ov<-wQ (.Name x p) X.env
   standAt apos.atName
   let (f,first)<-fJ [ov] (fK ov "__init__" pl)
   callWith cpos f first (wW cpos (vF (e::es) X.env)) (fF cpos (cH [] X.env)))) auR):
  PE X (.Call (.Attribute (.Name x p) "__init__" apos) (e::es) [] cpos) (jk0 C t):=by
 intro pins s σ H Q I h;refine bZ (pl:=pl) (qcw I hg hm ?_ hdb) ht;refine PySem.W.method_cls I.kIn b.ga (PySem.W.cls_value I.kIn b.rd b.at_ (by decide+kernel) ?_);have hA:=ha cpos pins _ σ H _ (I.tok (s.toks+1)) h;rw[hst] at hA⊢;refine bS (by show(false ||(wW cpos (vF es X.env)).any (·.1))=false;rw[hplain]<;>rfl) (aQ ?_);refine thn hA fun us s2 h9=>?_;obtain⟨vs,H2,I2,r2,a,d,ys,ev,hl,ea,q2⟩:=h9;subst ev
 cases r2 with
 | @cons _ u _ us r1 r2=>
  obtain rfl:u=uS a:=r1;obtain⟨nm,q,N,bs,bm,hdct,sn,sub,ab,col,dd,k0,k1,k2,k3,k5,mN,hC,hN,hni,Tl⟩:=M.ob;obtain⟨oe,ws,g1,g2,g3,g4,g5,⟨t0,g6⟩,g7⟩:=jdz I2.hok ea;obtain⟨hp,gg,dw,tk,os⟩:=s2;refine jqh xP (Tl _ I2.kIn) (I2.kIn _ _ hC) g1 g2 g4 g6 ?_ (by rw[<-r2.length];exact hl);have hsz:0<ws.size:=(wI.mp g6).1;have e1:=uF {cls:=.type "tuple",data:=.seq us.toArray} g1;have d3:=bH g4 (·.setIfInBounds 0 (uS hp.objs.size));have e3:=wZ (xC (·.setIfInBounds 0 (uS hp.objs.size))) e1 (cA d3);refine⟨.non,upd H2 a (XS a C d),?_,rfl,?_⟩
  .refine I2.write (x:=a) (e:=a) (t':=tk) (by rw[ea];exact wF) (.inl rfl) (fun b o hb y=>?_) ⟨_,e3⟩ (jm1 ⟨_,_,e3,(gX _ _).trans g2,(jb7 _ _).trans g3,d3,?_,⟨hp.objs.size,?_⟩,g7⟩)
   .exact(wM _ _ (xB hb)).trans (uF _ y)
   .rw[Array.getElem?_setIfInBounds_ne ∅];exact g5
   .simp[hsz]
  .have:upd H2 a (XS a C d)=H2:=by
    funext b
    by_cases hb:b=a
    .rw[hb,qa1,ea]
    .rw[qa9 hb]
   rw[this];exact q2
end
noncomputable def sXF(K:uY)(ta tv:TE)(f:Str):TS:=fun D σ H=>tv σ H fun y H1=>ta σ H1 fun x H2=>∃a C,x=.ref a/\XAt K C/\qb0 K C f/\
 ((H2 a=some (XS a C none)/\∀dx,H2 dx=none->dx≠a->D.nx σ (upd (upd H2 dx (XD dx [(f,y)])) a (XS a C (some dx))))\/
  ∃dx fs,H2 a=some (XS a C (some dx))/\H2 dx=some (XD dx fs)/\fs.length<1000/\D.nx σ (upd H2 dx (XD dx (qe9 f y fs))))
noncomputable def tXF(K:uY)(ta:TE)(f:Str):TE:=fun σ H Q=>ta σ H fun x H1=>∃a C dx fs v,x=.ref a/\H1 a=some (XO a (.ref C) (some dx))/\H1 dx=some (XD dx fs)/\XAt K C/\qb0 K C f/\fs.lookup f=some v/\Q v H1
noncomputable def jsf(K:uY):List V->Hp->VK->Prop:=fun xs H Q=>∃(a C:Addr)(d:Option Addr)(c:V)(u:uB)(b:Bool),xs=[.ref a,c]/\(∀u',qbb c u'->u'=u)/\H a=some (XO a (.ref C) d)/\
 (∀dx,d=some dx->∃o,H dx=some o)/\XAt K C/\vY K (.ref C) u=some b/\Q (.bl b) H
section
variable{X:Cx}{o e value:vT}{f:Str}{pos pos':Pos}{ta tv:TE}
def jqi(ha:PE X o ta)(hv:PE X value tv)(hs:autoParam (bK value (some (.Attribute o f pos')) pos.line X.env=pure false) auR):PS X (.Assign [.Attribute o f pos'] value pos) (sXF X.K ta tv f):=by
 intro pins s σ H D I h;refine iB (thn (hv pins s σ H _ I h) fun u s1 ⟨y,H1,I1,ry,q⟩=>thn (ha pins s1 σ H1 _ I1 q) fun ov s2 h9=>?_) hs;obtain⟨x,H2,I2,rx,a,C,ex,c,n,q2⟩:=h9;subst ex;obtain rfl:ov=uS a:=rx;rcases q2 with⟨e1,q2⟩|⟨dx,fs,e1,e2,l,q2⟩
 .exact jge I2 e1 c n ry fun dx s3 h1 h2 I3=>⟨σ,_,I3,q2 dx h1 h2⟩
 .exact jjj I2 e1 e2 c n l ry fun s3 I3=>⟨σ,_,I3,q2⟩
def jqj(he:PE X e ta)(hb:autoParam (bE e f X.env (wQ e X.env)=wQ e X.env) auR):PE X (.Attribute e f pos) (tXF X.K ta f):=by
 intro pins s σ H Q I h;refine jfn hb (thn (he pins s σ H _ I h) fun u s1 h9=>?_);obtain⟨x,H1,I1,rx,a,C,dx,fs,v,ex,e1,e2,c,n,l,q⟩:=h9;subst ex;obtain rfl:u=uS a:=rx;exact jtq I1 e1 e2 c n l fun u' s2 I2 ru=>⟨v,H1,I2,ru,q⟩
def qc7:qcc X (.builtin "isinstance") (jsf X.K):=by
 intro pins s σ H xs us Q I hv h;obtain⟨a,C,d,c,u,b,rfl,hu,e1,e2,cc,k,q⟩:=h
 cases hv with
 |cons r1 hv=>
  cases hv with
  |cons r2 hv=>
   cases hv
   rename_i v1 v2;rw[hu v2 r2];obtain rfl:v1=uS a:=r1;exact jtr I e1 e2 cc k fun s' I'=>⟨.bl b,H,I',rfl,q⟩
end
section
variable{K:uY}{σ:L2.St}{H:Hp}{Q:VK}{D:jam}{f:Str}{a C dx c:Addr}{d:Option Addr}{fs:List (Str×V)}{y:V}{b:Bool}
def jtt(ha:XAt K C)(n:qb0 K C f)(e:H a=some (XS a C none))(h:∀dx,H dx=none->dx≠a->D.nx σ (upd (upd H dx (XD dx [(f,y)])) a (XS a C (some dx)))):
  ∃a' C',V.ref a=.ref a'/\XAt K C'/\qb0 K C' f/\((H a'=some (XS a' C' none)/\∀dx,H dx=none->dx≠a'->D.nx σ (upd (upd H dx (XD dx [(f,y)])) a' (XS a' C' (some dx))))\/
   ∃dx fs,H a'=some (XS a' C' (some dx))/\H dx=some (XD dx fs)/\fs.length<1000/\D.nx σ (upd H dx (XD dx (qe9 f y fs)))):=⟨a,C,rfl,ha,n,.inl ⟨e,h⟩⟩
def jtu(ha:XAt K C)(n:qb0 K C f)(e:H a=some (XS a C (some dx)))(ed:H dx=some (XD dx fs))(l:fs.length<1000)(h:D.nx σ (upd H dx (XD dx (qe9 f y fs)))):
  ∃a' C',V.ref a=.ref a'/\XAt K C'/\qb0 K C' f/\((H a'=some (XS a' C' none)/\∀dx,H dx=none->dx≠a'->D.nx σ (upd (upd H dx (XD dx [(f,y)])) a' (XS a' C' (some dx))))\/
   ∃dx fs,H a'=some (XS a' C' (some dx))/\H dx=some (XD dx fs)/\fs.length<1000/\D.nx σ (upd H dx (XD dx (qe9 f y fs)))):=⟨a,C,rfl,ha,n,.inr ⟨dx,fs,e,ed,l,h⟩⟩
def jtv(e:H a=some (XO a (.ref C) d))(ed:∀dx,d=some dx->∃o,H dx=some o)(ha:XAt K C)(k:vY K (.ref C) (.ref c)=some b)(h:Q (.bl b) H):jsf K [.ref a,.ref c] H Q:=⟨a,C,d,.ref c,.ref c,b,rfl,fun _ z=>z,e,ed,ha,k,h⟩
def jk1{T:String}(e:H a=some (XO a (.ref C) d))(ed:∀dx,d=some dx->∃o,H dx=some o)(ha:XAt K C)(k:vY K (.ref C) (.type T)=some b)(h:Q (.bl b) H):jsf K [.ref a,.ty T] H Q:=⟨a,C,d,.ty T,.type T,b,rfl,fun _ z=>z,e,ed,ha,k,h⟩
end
open PySem.MeetsSeq PySem.MeetsSeq2 PySem.MeetsSeq3 PySem.SeqRoads2
def EqW(P:uI)(w:vA)(A:vI)(s:uD)(y x:uB)(b:Bool):Prop:=∀(E:uB->uD->Prop)(Q:Bool->uD->Prop),Q b s->uM (uP P w) A (eqBool y x) Q E s
noncomputable def opN:Bool->CmpOp
 |false=> .Eq
 |true=> .NotEq
def RcW(P:uI)(w:vA)(A:vI)(s:uD)(ne:Bool)(y x:uB)(b:Bool):Prop:=∀(E:uB->uD->Prop)(Q:uB->uD->Prop),Q (.bool b) s->uM (uP P w) A (richCompare (opN ne) y x) Q E s
noncomputable def jtw:Bool->Int
 |false=>2
 |true=>3
abbrev lo(dd:Option Addr)(xs:Array uB)(n:Nat)(sl:Array (Option uB)):Obj:={cls:=.type "list",dict:=dd,data:=.seq xs n,slots:=sl}
abbrev tob(dd:Option Addr)(xs:Array uB)(n:Nat)(sl:Array (Option uB)):Obj:={cls:=.type "tuple",dict:=dd,data:=.seq xs n,slots:=sl}
section
variable{P:uI}{w:vA}{A:vI}{s:uD}{l b:Addr}{k:Bool}
def EqW.of{y x:uB}(h:cQ A s y x k):EqW P w A s y x k:=fun E Q q=>h P w E Q q
def EqW.refs(hn:l≠b)(h:RcW P w A s false (.ref l) (.ref b) k):EqW P w A s (.ref l) (.ref b) k:=fun E Q q=>by
 unfold eqBool;refine vO (wpAny_ite_split (fun z=>?_) fun _=>uA (h E _ (wN q)));have z':=eq_of_beq z;injection z' with z'
 exact absurd z' hn
abbrev jtx(P:uI)(w:vA)(A:vI)(R:iH->uD->Prop):PySem.Fin->uD->Prop:=fun f s'=>match f with| .done r=>R (.ok r) s'| .again c=>c.quiet=true/\aT (uP P w) A c R s'
def jqk(ne:Bool){xs ys:Array uB}{n m:Nat}{d1 d2:Option Addr}{s1 s2:Array (Option uB)}(hz:xs.size=ys.size)(f:Nat->Bool)(r:Nat):∀(i:Nat),xs.size-i=r->∀(A:vI)(R:iH->uD->Prop)(s:uD),s.heap.get? l=some (lo d1 xs n s1)->s.heap.get? b=some (lo d2 ys m s2)->
  (∀j (h1:j<xs.size) (h2:j<ys.size),EqW P w A.in1 s xs[j] ys[j] (f j))->R (.ok (.ret (.bool (ne !=((uN xs.size).drop i).all f)))) s->
  uM (uP P w) A.in1 (xY.«list.__eq__.loop» ⟨[.ref l,.ref b,bA i,bA (jtw ne)],[]⟩) (jtx P w A R) (fun e s'=>R (.error e) s') s:=by
 induction r with
 |zero=>
  intro i hr A R s hl hb he q;obtain⟨hp,g,d,tk,os⟩:=s;have t1:xs[((i:Nat):Int).toNat]?=none:=by simp;omega
  have t2:ys[((i:Nat):Int).toNat]?=none:=by simp;omega
  have t3:(uN xs.size).drop i=[]:=by simp;omega
  rw[t3] at q
  cases ne with
  |false=>
   wp_walk using uR hl,uR hb
   rw[t1,t2]
   wp_walk using uR hl,uR hb
   show R (.ok (.ret (.bool (xs.size==ys.size)))) _;rw[hz];simpa using q
  |true=>
   wp_walk using uR hl,uR hb
   rw[t1,t2]
   wp_walk using uR hl,uR hb
   show R (.ok (.ret (.bool (xs.size !=ys.size)))) _;rw[hz];simpa using q
 |succ r ih=>
  intro i hr A R s hl hb he q;obtain⟨hp,g,d,tk,os⟩:=s;have j1:i<xs.size:=by omega
  have j2:i<ys.size:=by omega
  have t1:xs[((i:Nat):Int).toNat]?=some xs[i]:=by simp[j1]
  have t2:ys[((i:Nat):Int).toNat]?=some ys[i]:=by simp[j2]
  have t3:(uN xs.size).drop i=i ::(uN xs.size).drop (i+1):=by simp[aY,j1]
  have t4:((i:Int)+1)=((i+1:Nat):Int):=by push_cast;rfl
  rw[t3,yT] at q
  cases ne with
  |false=>
   wp_walk using uR hl,uR hb
   rw[t1,t2];refine uA (he i j1 j2 _ _ ?_)
   cases hf:f i with
   |true=>
    rw[hf] at q
    wp_walk
    rw[t4];refine⟨dG aG _,aD fX ?_⟩;rw[xW aG _];exact ih (i+1) ↑∅ A R _ hl hb he (by simpa using q)
   |false=>
    rw[hf] at q
    wp_walk using uR hl,uR hb
    rw[t1,t2]
    wp_walk
    simpa using q
  |true=>
   wp_walk using uR hl,uR hb
   rw[t1,t2];refine uA (he i j1 j2 _ _ ?_)
   cases hf:f i with
   |true=>
    rw[hf] at q
    wp_walk
    rw[t4];refine⟨dG aG _,aD fX ?_⟩;rw[xW aG _];exact ih (i+1) ↑∅ A R _ hl hb he (by simpa using q)
   |false=>
    rw[hf] at q
    wp_walk using uR hl,uR hb
    rw[t1,t2]
    wp_walk
    simpa using q
def jql(ne:Bool){xs ys:Array uB}{n m:Nat}{d1 d2:Option Addr}{s1 s2:Array (Option uB)}(hz:xs.size=ys.size)(f:Nat->Bool){R:iH->uD->Prop}(hl:s.heap.get? l=some (lo d1 xs n s1))(hb:s.heap.get? b=some (lo d2 ys m s2))
  (he:∀j (h1:j<xs.size) (h2:j<ys.size),EqW P w A.in1 s xs[j] ys[j] (f j))(q:R (.ok (.ret (.bool (ne !=(uN xs.size).all f)))) s):
  uM (uP P w) A.in1 ((if ne=true then xY.«list.__ne__» else xY.«list.__eq__») ⟨[.ref l,.ref b],[]⟩) (jtx P w A R) (fun e s'=>R (.error e) s') s:=by
 obtain⟨hp,g,d,tk,os⟩:=s;have f3:=AutoSeq1.sub_list_list;have z0:¬(xs.size !=ys.size)=true:=by simp[hz]
 cases ne with
 |false=>
  show uM _ _ (xY.«list.__eq__» _) _ _ _
  wp_walk using uR hl,uR hb
  refine⟨dG aG _,aD fX ?_⟩;rw[xW aG _];exact jqk false hz f _ 0 rfl A R _ hl hb he (by simpa using q)
 |true=>
  show uM _ _ (xY.«list.__ne__» _) _ _ _
  wp_walk using uR hl,uR hb
  refine⟨dG aG _,aD fX ?_⟩;rw[xW aG _];exact jqk true hz f _ 0 rfl A R _ hl hb he (by simpa using q)
def jqm{T id:String}{name:Str}{B:xY}{self:uB}{rest:List uB}{E Q:uB->uD->Prop}(slot:Slot T name id)(hT:s.TypeIs self T)(entry:entryFor table id=some B)(args:argsOk id ⟨self::rest,[]⟩)
  (h:uM (uP P w) A.in1 (B ⟨self::rest,[]⟩) (jtx P w A (wants Q E)) (fun e s'=>wants Q E (.error e) s') s):uM (uP P w) A (call (.builtin id) (self::rest)) Q E s:=
 xH (xV slot.plain entry (slot.check _ _ _ _ _ _ _ _ hT args h))
def RcW.lists(ne:Bool){xs ys:Array uB}{f:Nat->Bool}(hl:s.heap.IsList l xs)(hb:s.heap.IsList b ys)(hz:xs.size=ys.size)(hu:A.units<cLine)(he:∀j (h1:j<xs.size) (h2:j<ys.size),EqW P w A.in1 s xs[j] ys[j] (f j)):
  RcW P w A s ne (.ref l) (.ref b) (ne !=(uN xs.size).all f):=fun E Q q=>by
 obtain⟨⟨c1,d1,e1,s1⟩,ho,hc,n,hd⟩:=id hl;obtain⟨⟨c2,d2,e2,s2⟩,ho2,hc2,m,hd2⟩:=id hb;simp only at hc hd hc2 hd2;subst hc hd hc2 hd2;have q':gC (ne !=(uN xs.size).all f)≠Value.notImplemented/\Q (.bool (ne !=(uN xs.size).all f)) s:=⟨(fun x=>nomatch x),q⟩
 cases ne with
 |false=>exact xI (op:=.Eq) ⟨_,ho,rfl⟩ ⟨_,ho2,rfl⟩ F.slot_list_eq (jqm F.slot_list_eq ⟨_,ho,rfl⟩ F.entry_list_eq (F.args_list_eq_2 _ _) (jql (R:=wants (fun v s'=>v≠ .notImplemented/\Q v s') E) false hz f ho ho2 he q')) hu
 |true=>exact xI (op:=.NotEq) ⟨_,ho,rfl⟩ ⟨_,ho2,rfl⟩ F.slot_list_ne (jqm F.slot_list_ne ⟨_,ho,rfl⟩ F.entry_list_ne (F.args_list_ne_2 _ _) (jql (R:=wants (fun v s'=>v≠ .notImplemented/\Q v s') E) true hz f ho ho2 he q')) hu
def RcW.listsN(ne:Bool){xs ys:Array uB}(hl:s.heap.IsList l xs)(hb:s.heap.IsList b ys)(hz:(xs.size !=ys.size)=true)(hu:A.units<cLine):RcW P w A s ne (.ref l) (.ref b) (ne !=false):=fun E Q q=>by
 cases ne with
 |false=>exact SeqAt.RcAt.lists_lengths hl hb hz hu P w E Q q
 |true=>exact SeqAt.RcNeAt.lists_lengths hl hb hz hu P w E Q q
def jvg(ne:Bool){xs ys:Array uB}{n m:Nat}{d1 d2:Option Addr}{s1 s2:Array (Option uB)}(f:Nat->Bool){E Q:uB->uD->Prop}(hl:s.heap.get? l=some (tob d1 xs n s1))(hb:s.heap.get? b=some (tob d2 ys m s2))
  (he:∀j (h1:j<xs.size) (h2:j<ys.size),EqW P w A.in1 s xs[j] ys[j] (f j))(q:Q (.bool (ne !=((uN (min xs.size ys.size)).all f && xs.size==ys.size))) s):
  uM (uP P w) A.in1 ((if ne=true then xY.«tuple.__ne__» else xY.«tuple.__eq__») ⟨[.ref l,.ref b],[]⟩) (fun fin s'=>∃v,fin=.done (.ret v)/\Q v s') E s:=by
 obtain⟨hp,g,d,tk,os⟩:=s;have f2:=AutoSeq1.sub_tuple_tuple;have hZ:(xs.toList.zip ys.toList).length=min xs.size ys.size:=by simp
 have turn:∀(x y:uB)(rest:List (uB×uB))(i:Nat),(x,y)::rest=(xs.toList.zip ys.toList).drop i->∃(h1:i<xs.size)(h2:i<ys.size),x=xs[i]/\y=ys[i]/\rest=(xs.toList.zip ys.toList).drop (i+1)/\(uN (min xs.size ys.size)).drop i=i ::(uN (min xs.size ys.size)).drop (i+1):=fun x y rest i hz=>by
  have hlt:i <(xs.toList.zip ys.toList).length:=by
   rcases vZ i (xs.toList.zip ys.toList).length with z|z
   .exact z
   .rw[List.drop_of_length_le z] at hz;cases hz
  have hm:i<min xs.size ys.size:=hZ▸hlt;have h1:i<xs.size:=vN hm (Nat.min_le_left _ _);have h2:i<ys.size:=vN hm (Nat.min_le_right _ _);rw[aY hlt] at hz;injection hz with hxy hrest
  exact⟨h1,h2,by have:=congrArg Prod.fst hxy;simpa using this,by have:=congrArg Prod.snd hxy;simpa using this,hrest,by simp[aY,hm]⟩
 have last:∀i:Nat,[]=(xs.toList.zip ys.toList).drop i->(uN (min xs.size ys.size)).drop i=[]:=fun i hz=>by
  have hge:min xs.size ys.size<=i:=by
   rcases vZ i (xs.toList.zip ys.toList).length with z|z
   .rw[aY z] at hz;cases hz
   .exact hZ▸z
  exact List.drop_of_length_le (by simpa using hge)
 cases ne with
 |false=>
  show uM _ _ (xY.«tuple.__eq__» _) _ _ _
  wp_walk using uR hl,uR hb,aV _ (fun rest c s'=>c.1=none/\s'=⟨hp,g,d,tk,os⟩/\∃i,rest=(xs.toList.zip ys.toList).drop i/\Q (.bool (((uN (min xs.size ys.size)).drop i).all f && xs.size==ys.size)) ⟨hp,g,d,tk,os⟩) _
  case turn=>
   rintro⟨x,y⟩ rest c s' ⟨hc,rfl,i,hz,hR⟩;obtain⟨h1,h2,rfl,rfl,hrest,hd⟩:=turn x y rest i hz;rw[hd,yT] at hR;refine uA (he i h1 h2 _ _ ?_)
   cases hf:f i with
   |true=>
    rw[hf] at hR
    wp_walk
    exact⟨rfl,rfl,i+1,hrest,by simpa using hR⟩
   |false=>
    rw[hf] at hR
    wp_walk
    exact⟨_,rfl,by simpa using hR⟩
  case fin=>
   rintro⟨c1,c2⟩ s' ⟨hc,rfl,i,hz,hR⟩;simp only at hc;subst hc;rw[last i hz] at hR
   wp_walk
   exact⟨_,rfl,by simpa[iC] using hR⟩
  case h=>exact⟨rfl,rfl,0,rfl,by simpa using q⟩
 |true=>
  show uM _ _ (xY.«tuple.__ne__» _) _ _ _
  wp_walk using uR hl,uR hb,aV _ (fun rest c s'=>c.1=none/\s'=⟨hp,g,d,tk,os⟩/\∃i,rest=(xs.toList.zip ys.toList).drop i/\Q (.bool (!(((uN (min xs.size ys.size)).drop i).all f && xs.size==ys.size))) ⟨hp,g,d,tk,os⟩) _
  case turn=>
   rintro⟨x,y⟩ rest c s' ⟨hc,rfl,i,hz,hR⟩;obtain⟨h1,h2,rfl,rfl,hrest,hd⟩:=turn x y rest i hz;rw[hd,yT] at hR;refine uA (he i h1 h2 _ _ ?_)
   cases hf:f i with
   |true=>
    rw[hf] at hR
    wp_walk
    exact⟨rfl,rfl,i+1,hrest,by simpa using hR⟩
   |false=>
    rw[hf] at hR
    wp_walk
    exact⟨_,rfl,by simpa using hR⟩
  case fin=>
   rintro⟨c1,c2⟩ s' ⟨hc,rfl,i,hz,hR⟩;simp only at hc;subst hc;rw[last i hz] at hR
   wp_walk
   exact⟨_,rfl,by simpa[iC,bne] using hR⟩
  case h=>exact⟨rfl,rfl,0,rfl,by simpa using q⟩
def RcW.tuples(ne:Bool){xs ys:Array uB}{f:Nat->Bool}(hl:s.heap.IsTuple l xs)(hb:s.heap.IsTuple b ys)(hu:A.units<cLine)(he:∀j (h1:j<xs.size) (h2:j<ys.size),EqW P w A.in1 s xs[j] ys[j] (f j)):
  RcW P w A s ne (.ref l) (.ref b) (ne !=((uN (min xs.size ys.size)).all f && xs.size==ys.size)):=fun E Q q=>by
 obtain⟨⟨c1,d1,e1,s1⟩,ho,hc,n,hd⟩:=id hl;obtain⟨⟨c2,d2,e2,s2⟩,ho2,hc2,m,hd2⟩:=id hb;simp only at hc hd hc2 hd2;subst hc hd hc2 hd2
 cases ne with
 |false=>exact xI (op:=.Eq) ⟨_,ho,rfl⟩ ⟨_,ho2,rfl⟩ F.slot_tuple_eq (wT F.slot_tuple_eq ⟨_,ho,rfl⟩ F.entry_tuple_eq (jvg (Q:=fun v s'=>v≠ .notImplemented/\Q v s') false f ho ho2 he ⟨(fun x=>nomatch x),q⟩) (F.args_tuple_eq_2 _ _)) hu
 |true=>exact xI (op:=.NotEq) ⟨_,ho,rfl⟩ ⟨_,ho2,rfl⟩ F.slot_tuple_ne (wT F.slot_tuple_ne ⟨_,ho,rfl⟩ F.entry_tuple_ne (jvg (Q:=fun v s'=>v≠ .notImplemented/\Q v s') true f ho ho2 he ⟨(fun x=>nomatch x),q⟩) (F.args_tuple_ne_2 _ _)) hu
end
end My
namespace My
open PySem PySem.Spec PyProof.Rows L2
variable{kvs:List (Key×V)}{v:V}{h:vS}{a:Addr}{P:uI}{K:uY}{f g:Str->Option Int}{A:vI}{z b:Str}{w:vA}{H:Hp}{o:HO}{l:List Str}{i n:Nat}
inductive DEq(K:uY)(H:Hp):Nat->V->V->Bool->Prop
 |same{n:Nat}{a:Addr}:DEq K H n (.ref a) (.ref a) true
 |flat{n:Nat}{x y:V}(hx:qd3 x=true)(hy:qd3 y=true):DEq K H n x y (eqV x y)
 |ls{n:Nat}{a b:Addr}{xs ys:List V}{e:Nat->Bool}(ha:SqL K H a xs)(hb:SqL K H b ys)(ne:a≠b)(hl:xs.length=ys.length)
   (he:∀j (h1:j<xs.length) (h2:j<ys.length),DEq K H n xs[j] ys[j] (e j)):DEq K H (n+1) (.ref a) (.ref b) ((uN xs.length).all e)
 |lsN{n:Nat}{a b:Addr}{xs ys:List V}(ha:SqL K H a xs)(hb:SqL K H b ys)(ne:a≠b)(hl:xs.length≠ys.length):DEq K H (n+1) (.ref a) (.ref b) false
 |ts{n:Nat}{a b:Addr}{xs ys:List V}{e:Nat->Bool}(ha:SqT K H a xs)(hb:SqT K H b ys)(ne:a≠b)
   (he:∀j (h1:j<xs.length) (h2:j<ys.length),DEq K H n xs[j] ys[j] (e j)):DEq K H (n+1) (.ref a) (.ref b) ((uN (min xs.length ys.length)).all e && xs.length==ys.length)
 |dd{n:Nat}{a b:Addr}{ka kb:List (Key×V)}(ha:Rd H a (.dK ka))(hb:Rd H b (.dK kb))(ne:a≠b)(fa:∀p∈ka,qd3 p.2=true)(fb:∀p∈kb,qd3 p.2=true):
   DEq K H (n+1) (.ref a) (.ref b) (ka.length==kb.length && ka.all fun p=>(qco kb p.1).elim false (eqV p.2))
def qdz{xs:List V}{us:List uB}(r:qbk xs us){j:Nat}(h1:j<xs.length)(h2:j<us.length):qbb xs[j] us[j]:=by
 obtain⟨u,e,ru⟩:=r.get (zA h1);rw[zA h2] at e
 cases e
 exact ru
def qgk{k:Key}(h:qco kvs k=some v):(k,v)∈kvs:=by
 unfold qco at h;obtain⟨p,hp,rfl⟩:=vQ.mp h;have e:=List.find?_some hp;have e':p.1=k:=of_decide_eq_true e;subst e';exact List.mem_of_find?_eq_some hp
def jm5{A:vI}{s:uD}{kb:List (Key×V)}{vb:List (Key×uB)}(rb:KV kb vb)(fb:∀p∈kb,qd3 p.2=true){ka:List (Key×V)}{va:List (Key×uB)}(ra:KV ka va)(fa:∀p∈ka,qd3 p.2=true):
  PySem.W.KeqHits A s vb va (ka.all fun p=>(qco kb p.1).elim false (eqV p.2)):=by
 induction ra with
 |nil=>exact .nil
 | @cons p q l1 l2 h t ih=>
  obtain⟨k,v⟩:=p;obtain⟨k',u⟩:=q;obtain⟨e,ru⟩:=h;dsimp only at e ru;subst e;have z:=rb.val k;rw[yT];have ih':=ih fun p hp=>fa p (zF _ hp)
  cases hv:qco kb k with
  |none=>
   rw[hv] at z;have hn:dX vb k=none:=qf1.none_of z;exact .miss hn
  |some y=>
   rw[hv] at z
   cases hu:dX vb k with
   |none=>rw[hu] at z;exact z.elim
   |some yu=>
    rw[hu] at z;exact .hit hu (jfu ru z (fa _ (zG ..)) (fb _ (qgk hv))) ih'
section
variable{X:Cx}{pins:List (Addr×Obj)}{σ:L2.St}{H:Hp}{s:uD}
def PlainL.isList{its:Array uB}(p:PlainL h a its):h.IsList a its:=by
 obtain⟨o,n,e,c,d,t⟩:=p;exact⟨o,e,c,n,t⟩
def jgh(I:Inv X pins σ H s){n:Nat}{x y:V}{k:Bool}(q:DEq X.K H n x y k):∀(A:vI)(u v:uB),qbb x u->qbb y v->A.units+n<cLine->
  EqW X.prog X.w A s u v k/\∀a b,x=.ref a->y=.ref b->a≠b->∀ne:Bool,RcW X.prog X.w A s ne (.ref a) (.ref b) (ne !=k):=by
 have both:∀{A:vI} {a b:Addr} {k:Bool},a≠b->(∀ne:Bool,RcW X.prog X.w A s ne (.ref a) (.ref b) (ne !=k))->
   EqW X.prog X.w A s (.ref a) (.ref b) k/\∀a' b',V.ref a=.ref a'->V.ref b=.ref b'->a'≠b'->∀ne:Bool,RcW X.prog X.w A s ne (.ref a') (.ref b') (ne !=k):=fun {A a b k} ne R=>
  ⟨EqW.refs ne (by have z:=R false;simpa using z),fun a' b' e1 e2 _=>by cases e1;cases e2;exact R⟩
 induction q with
 | @same n a=>
  intro A u v ru rv hu;obtain rfl:u=uS a:=ru;obtain rfl:v=uS a:=rv;exact⟨EqW.of (bG _),fun a' b' e1 e2 ne=>by cases e1;cases e2;exact absurd rfl ne⟩
 |flat hx hy=>
  intro A u v ru rv hu;exact⟨EqW.of (jfu ru rv hx hy),fun a b e _ _=>by subst e;cases hx⟩
 | @ls n a b xs ys e ha hb ne hl he ih=>
  intro A u v ru rv hu;obtain rfl:u=uS a:=ru;obtain rfl:v=uS b:=rv;obtain⟨its,r1,p1,_⟩:=I.list ha;obtain⟨its2,r2,p2,_⟩:=I.list hb;have l1:=r1.length;have l2:=r2.length;refine both ne fun nb=>?_;have z:=RcW.lists (P:=X.prog) (w:=X.w) (A:=A) (s:=s) nb (f:=e) (PlainL.isList p1) (PlainL.isList p2) (by rw[zN,zN];omega) ↑∅ fun j h1 h2=>by
   have k1:j<its.length:=by simpa using h1
   have k2:j<its2.length:=by simpa using h2
   have w:=(ih j ↑∅ ↑∅ A.in1 its[j] its2[j] (qdz r1 ↑∅ k1) (qdz r2 ↑∅ k2) (by show A.units+1+n<cLine;omega)).1;simpa using w
  rw[zN,<-l1] at z;exact z
 | @lsN n a b xs ys ha hb ne hl=>
  intro A u v ru rv hu;obtain rfl:u=uS a:=ru;obtain rfl:v=uS b:=rv;obtain⟨its,r1,p1,_⟩:=I.list ha;obtain⟨its2,r2,p2,_⟩:=I.list hb;have l1:=r1.length;have l2:=r2.length;exact both ne fun nb=>RcW.listsN nb (PlainL.isList p1) (PlainL.isList p2) (by rw[zN,zN];simp;omega) ↑∅
 | @ts n a b xs ys e ha hb ne he ih=>
  intro A u v ru rv hu;obtain rfl:u=uS a:=ru;obtain rfl:v=uS b:=rv;obtain⟨its,r1,p1,_⟩:=I.tuple ha;obtain⟨its2,r2,p2,_⟩:=I.tuple hb;have l1:=r1.length;have l2:=r2.length;refine both ne fun nb=>?_;have z:=RcW.tuples (P:=X.prog) (w:=X.w) (A:=A) (s:=s) nb (f:=e) p1 p2 ↑∅ fun j h1 h2=>by
   have k1:j<its.length:=by simpa using h1
   have k2:j<its2.length:=by simpa using h2
   have w:=(ih j ↑∅ ↑∅ A.in1 its[j] its2[j] (qdz r1 ↑∅ k1) (qdz r2 ↑∅ k2) (by show A.units+1+n<cLine;omega)).1;simpa using w
  rw[zN,zN,<-l1,<-l2] at z;exact z
 | @dd n a b ka kb ha hb ne fa fb=>
  intro A u v ru rv hu;obtain rfl:u=uS a:=ru;obtain rfl:v=uS b:=rv;obtain⟨_,ga,va,ra,da⟩:=qf2 I.hok ha;obtain⟨_,gb,vb,rb,db⟩:=qf2 I.hok hb;have l1:=ra.length;have l2:=rb.length;refine both ne fun nb E Q q=>?_;have hits:=jm5 (A:=A.in1) (s:=s) rb fb ra fa;rw[l1,l2] at q
  cases nb with
  |false=>exact PySem.W.keq_eq ga gb da db ↑∅ (fun _=>hits) (by simpa using q)
  |true=>exact PySem.W.keq_ne ga gb da db ↑∅ (fun _=>hits) (by simpa using q)
noncomputable def jvh(K:uY):R2:=fun x y H Q=>∃a b n k,x=.ref a/\y=.ref b/\a≠b/\n<=8/\DEq K H n (.ref a) (.ref b) k/\Q (.bl k) H
def jgi(hu:X.A.units+8<cLine):OpR X (wA .Eq) (jvh X.K):=by
 intro pins s σ H x y v u Q I rx ry h;obtain⟨a,b,n,k,rfl,rfl,ne,hn,q,z⟩:=h
 cases rx
 cases ry
 have r:=(jgh I q X.A _ _ rfl rfl ↑∅).2 a b rfl rfl ne false X.xe (EP X pins σ Q);rw[Bool.false_bne] at r;exact r ⟨.bl k,H,I,rfl,z⟩
end
section
variable{X:Cx}
noncomputable def jgj(K:uY):List V->Hp->VK->Prop:=fun xs H Q=>∃p ys,xs=[.ref p]/\(SqL K H p ys\/SqT K H p ys)/\∀l,H l=none->Q (.ref l) (upd H l (.lst ys))
def jey:qcc X (.type "list") (jgj X.K):=jb4
end
section
variable{K:uY}{σ:L2.St}{H:Hp}{Q:VK}{p l b:Addr}{ys xs zs:List V}{to:TE}{t:TA}{T:String}{r:V->List V->Hp->VK->Prop}{x v:V}
def jm6(h:SqL K H p ys)(q:∀l,H l=none->Q (.ref l) (upd H l (.lst ys))):jgj K [.ref p] H Q:=⟨p,ys,rfl,.inl h,q⟩
def jwt(h:to σ H fun x H1=>tyV K T x H1/\t σ H1 fun xs H2=>r x xs H2 Q):tBM K T r to t σ H Q:=h
def jty(h:to σ H fun x H1=>tyV K T x H1/\r x [] H1 Q):ju4 K T r to σ H Q:=h
def jtz{P:Prop}(h:SqL K H p ys)(q:P):tyV K "list" (.ref p) H/\P:=⟨.inl ⟨rfl,_,h⟩,q⟩
def jd1(h:H l=some (.lst xs))(hz:xs.length<sizeLine)(q:Q .non (upd H l (.lst (xs++[v])))):jfv (.ref l) [v] H Q:=⟨l,xs,v,rfl,rfl,h,hz,q⟩
def qgt(h:H l=some (.lst xs))(h':H b=some (.lst zs))(hz:xs.length+zs.length<=sizeLine)(q:∀p,H p=none->Q (.ref p) (upd H p (.lst (xs++zs)))):ju5 (.ref l) (.ref b) H Q:=⟨l,b,xs,zs,rfl,rfl,h,h',hz,q⟩
end
noncomputable def jgk(K:uY)(C f:Addr):Bool:=match K.lookup C with
 |some ⟨.type "type",_,.cls cd,sl⟩=>(match cd.mro,sl.toList with
  | .ref C'::bm,[_,_,_,_,some (.builtin n),_]=>C'==C && n== "ValueError.__new__" && !cd.hasDel && PySem.W.tailIn K [.type "ValueError",.type "Exception",.type "BaseException",.type "object"] bm && PySem.W.nsOkIn K cd.ns && aL K cd.ns "__init__"==some (some (.ref f))
  |_,_=>false)
 |_=>false
def jm7{C f:Addr}(q:jgk K C f=true)(hf:isFn K (.ref f)=true):XClI K C f:=by
 refine⟨?_,hf⟩;unfold jgk at q
 split at q
 .rename_i dd cd sl ho
  split at q
  .rename_i C' bm k0 k1 k2 k3 n k5 hm hs;simp only[vP,beq_iff_eq,gY] at q;obtain⟨⟨⟨⟨⟨rfl,rfl⟩,hdel⟩,ht⟩,hok⟩,hni⟩:=q;obtain⟨nm,bs,mro,ns,qn,hd,sn,sub,ab,col,del⟩:=cd;dsimp only at hm hdel hok hni;subst hm hdel;have hsl:sl= #[k0,k1,k2,k3,some (.builtin "ValueError.__new__"),k5]:=by
    obtain⟨l⟩:=sl;simp only at hs;rw[hs]
   subst hsl;unfold PySem.W.nsOkIn at hok
   split at hok
   .rename_i c1 d1 es ep sl1 hN;have hSK:StrKeys es:=fun e he=>by
     have z:=gZ.mp hok e he
     split at z
     .rename_i n t q;exact⟨n,t,q⟩
     .cases z
    have hNs:∀h:vS,K.In h->h.Ns ns (fun x=>gG es x):=fun h X=>⟨_,es,ep,X _ _ hN,rfl,hSK,fun _=>rfl⟩;refine⟨nm,qn,ns,bs,bm,hd,sn,sub,ab,col,dd,k0,k1,k2,k3,k5,fun x=>gG es x,ho,hNs,?_,fun h X=>PySem.W.tail_of_in X ht⟩;unfold aL at hni;rw[hN] at hni;dsimp only at hni
    split at hni
    .rename_i hf;show gG es "__init__"=some (.ref f);unfold gG findBy;rw[<-gH,hf];exact congrArg some (vB (vB hni))
    .first|(split at hni<;>cases hni) |simp at hni
   .cases hok
  .cases q
 .cases q
structure jbf(k:Nat)(A:vI):Prop where
 dp:A.depth+3*k+5<recursionLimit
 un:A.units+16*k+200<cLine
theorem jbf.deeper{k:Nat}(r:jbf (k+1) A)(env:Env):jbf k (A.deeper env):=
 ⟨by have:=r.dp;show A.depth+1+3*k+5<_;omega,by have:=r.un;show A.units+3+16*k+200<_;omega⟩
theorem jbf.depth{k:Nat}(r:jbf k A):A.depth<recursionLimit:=by have:=r.dp;omega
def jt0{k:Nat}(r:jar k A)(h:Option uB):jbf k (A.mark h):=⟨r.dp,r.un⟩
structure FnOkH(P:uI)(w:vA)(K:uY)(mg:Str->Option uB)(base:vS)(k:Nat)(f:Addr)(fd:uT)(ps:List Str)(sp:Sp):Prop where
 len:∀vs H Q E,sp vs H Q E->vs.length=ps.length
 run:∀(a:Addr)(A:vI)(outer:List Env)(s:uD)(H:Hp)(args:Args)(us:List uB)(vs:List V)(Q:VK)(E:XK),jbf k A->A.handled=some (.ref a)->ji3 P w K mg base A outer s H->dQ s fd args (ps.zip us)->qbk vs us->sp vs H Q E->
  aT (uP P w) A (.call (.ref f) args) (CR CX0 outer P w H s Q E) s
abbrev jc2(A:vI):vI:={A with handled:=none}
def jgl{env:Env}{v:uB}(h:A.handled=some v):((jc2 A).deeper env).mark (some v)=A.deeper env:=by
 obtain⟨hd,dp,fr,gu,un⟩:=A;obtain rfl:hd=some v:=h;rfl
def jqn{P:uI}{w:vA}{K:uY}{mg:Str->Option uB}{base:vS}{k:Nat}{f:Addr}{name qual:Str}{params:dL}{body:List Stmt}{scope:bJ}{dV kV doc pm cdv ct oc:uB}{an od:Option Addr}
  {osl:Array (Option uB)}{N ps:List Str}{sp:Sp}(lk:K.lookup f=some ⟨oc,od,.func (gP name qual params body scope dV kV doc pm an cdv ct),osl⟩)(hcd:fZ K cdv qual=true)(S:jaa N ps scope)
  (len:∀vs H Q E,sp vs H Q E->vs.length=ps.length)
  (hbody:∀(a:Addr)(A:vI)(outer:List Env)(s:uD)(H:Hp)(vs:List V)(Q:VK)(E:XK),jbf k (A.deeper (cK qual scope ↑s f cdv))->sp vs H Q E->
   ∃t,PSs (suite (cxOf CX0 P w K mg base N qual scope f cdv (jc2 A) outer s H E) a) body t/\t {nx:=fun _ H'=>Q .non H',rt:=Q} (qdr N vs) H):
  FnOkH P w K mg base (k+1) f (gP name qual params body scope dV kV doc pm an cdv ct) ps sp:=by
 refine⟨len,fun a A outer s H args us vs Q E hr hh e0 hb r hsp=>?_⟩;have hl:=len _ _ _ _ hsp;have KX:K.In s.heap:=e0.mod.kin.keeps fun b o e=>(e0.bs b o e).1;have lim:s.heap.NoLimit:=e0.mod.nolimit.keeps fun b o e=>(e0.bs b o e).1;have hkind:∀y∈ps.zip us,scope.names.lookup y.1=some .local\/(scope.names.lookup y.1=some .cell/\((cellsFrom (↑s+1) scope.names []).lookup y.1).isSome=true):=fun⟨n,v⟩ hy=>by
  rcases S.par n (eI hy).1 with q|q
  .exact .inl q
  .exact .inr ⟨q,dR _ _ _ (.inl q)⟩
 refine codeAny_call_function hr.depth (KX _ _ lk) rfl S.co S.gen rfl (PySem.W.codeRec_of KX hcd) (hb _ _ _ _ ?_);refine wpAny_newFunctionEnv_cells S.kind hkind fun env he s1 x=>?_;subst he;refine⟨lim.keeps x.toInCall.keep,codeAny_func ?_⟩;obtain⟨t,ht,hq⟩:=hbody a A outer s H vs Q E (hr.deeper _) hsp;have e1:ji3 P w K mg base (jc2 A) outer s H:=⟨e0.frames,e0.mod,e0.bs,e0.bsz,e0.funs,e0.frf,e0.hok,e0.bare⟩;have I0:Inv (cxOf CX0 P w K mg base N qual scope f cdv (jc2 A) outer s H E) [] (qdr N vs) H s1:=jby S rfl e1 hl r x;have I:=Inv.suite I0 a;have z:=ht [] s1 (qdr N vs) H _ I hq;have hA:(suite (cxOf CX0 P w K mg base N qual scope f cdv (jc2 A) outer s H E) a).A=A.deeper (cK qual scope ↑s f cdv):=jgl hh;rw[hA] at z;refine vR z (fun fl s' hs=>?_) fun e s' hs=>hs.elim;have fin:∀{σ':L2.St} {H':Hp} {v:V} {u:uB},Inv (suite (cxOf CX0 P w K mg base N qual scope f cdv (jc2 A) outer s H E) a) [] σ' H' s'->qbb v u->Q v H'->CE outer P w H s Q u s':=
  fun {σ' H' v u} J rv q=>⟨v,H',J.os,J.bare,J.base,J.hok,rv,q⟩
 cases fl with
 |ret u=>
  obtain⟨v,σ',H',J,rv,q⟩:=hs;exact fin J rv q
 |next=>
  obtain⟨σ',H',J,q⟩:=hs;exact fin (v:=V.non) (u:=vV) J rfl q
 |brk=>
  obtain⟨_,_,_,q⟩:=hs;exact vU q
 |cont=>
  obtain⟨_,_,_,q⟩:=hs;exact vU q
section
variable{X:Cx}{k:Nat}{f a:Addr}{fd:uT}{ps:List Str}{sp:Sp}{x:Str}{p pos:Pos}{e:vT}{es:List vT}{t:TA}
def jjl(F:FnOkH X.prog X.w X.K X.mg X.base k f fd ps sp)(hr:jar k X.A)(hg:Gl X x)(hm:X.mg x=some (.ref f))(hk:dA X.K (.ref f)=true)(hb:qat X.K fd ps [])
  (ha:PA (suite X a) (e::es) t)(hdb:autoParam ((x==("__debug__":Str))=false) auD)(he:autoParam (vF (e::es) X.env=(false,wQ e X.env)::vF es X.env) auR)(hpl:autoParam ((wW pos (vF es X.env)).any (·.1)=false) auR):
  PE (suite X a) (.Call (.Name x p) (e::es) [] pos) (jmb sp [] E0 t):=by
 intro pins s σ H Q I h;refine xN (qcw I hg hm ?_ hdb);refine xO (h₀:=X.base) I.ok.mod.kin hk (thn (ha pos pins s σ H _ I h) fun us s1 ⟨vs,H1,I1,r,q⟩=>⟨I1.kIn,?_⟩) he hpl
 replace q:sp (vs++[]) H1 Q E0:=q
 rw[zW] at q;have hl:(us++[]).length=ps.length:=by rw[zW,<-r.length];exact F.len _ _ _ _ q
 have hb':=hb s1 us I1.kIn hl;rw[zW] at hb';refine xH (xU (F.run a (suite X a).A (suite X a).stack s1 H1 ⟨us,[]⟩ us vs Q E0 (jt0 hr _) rfl I1.env0 hb' r q) fun r s' hq=>?_)
 cases r with
 |error e=>exact hq.elim
 |ok fl=>
  cases fl with
  |ret u=>exact I1.after hq
  |next=>exact vU hq
  |brk=>exact vU hq
  |cont=>exact vU hq
end
section
variable{X:Cx}
noncomputable def jvi(K:uY):R2:=fun x y H Q=>∃a b n k,x=.ref a/\y=.ref b/\a≠b/\n<=8/\DEq K H n (.ref a) (.ref b) k/\Q (.bl (!k)) H
def jk2(hu:X.A.units+8<cLine):OpR X (wA .NotEq) (jvi X.K):=by
 intro pins s σ H x y v u Q I rx ry h;obtain⟨a,b,n,k,rfl,rfl,ne,hn,q,z⟩:=h
 cases rx
 cases ry
 have r:=(jgh I q X.A _ _ rfl rfl ↑∅).2 a b rfl rfl ne true X.xe (EP X pins σ Q);rw[Bool.true_bne] at r;exact r ⟨.bl (!k),H,I,rfl,z⟩
end
section
variable{K:uY}{H:Hp}{Q:VK}{a b:Addr}{n:Nat}{k:Bool}
def jm8(ne:a≠b)(hn:n<=8)(q:DEq K H n (.ref a) (.ref b) k)(h:Q (.bl k) H):jvh K (.ref a) (.ref b) H Q:=⟨a,b,n,k,rfl,rfl,ne,hn,q,h⟩
def jqo(ne:a≠b)(hn:n<=8)(q:DEq K H n (.ref a) (.ref b) k)(h:Q (.bl (!k)) H):jvi K (.ref a) (.ref b) H Q:=⟨a,b,n,k,rfl,rfl,ne,hn,q,h⟩
end
section
variable{K:uY}{σ:L2.St}{H:Hp}{Q:VK}{D:jam}{ta tv:TE}{t:TA}{f:Str}{C:Addr}
def jwu(h:t σ H fun xs H1=>∃a d ys,xs=.ref a::ys/\ys.length<=sizeLine/\H1 a=some (XS a C d)/\Q .non H1):jk0 C t σ H Q:=h
def jt1 (h:tv σ H fun y H1=>ta σ H1 fun x H2=>∃a C,x=.ref a/\XAt K C/\qb0 K C f/\
 ((H2 a=some (XS a C none)/\∀dx,H2 dx=none->dx≠a->D.nx σ (upd (upd H2 dx (XD dx [(f,y)])) a (XS a C (some dx))))\/
  ∃dx fs,H2 a=some (XS a C (some dx))/\H2 dx=some (XD dx fs)/\fs.length<1000/\D.nx σ (upd H2 dx (XD dx (qe9 f y fs))))):sXF K ta tv f D σ H:=h
def jm9(h:ta σ H fun x H1=>∃a C dx fs v,x=.ref a/\H1 a=some (XO a (.ref C) (some dx))/\H1 dx=some (XD dx fs)/\XAt K C/\qb0 K C f/\fs.lookup f=some v/\Q v H1):tXF K ta f σ H Q:=h
def jvj{sp:Sp}{W:L2.St->XK}(h:t σ H fun xs H1=>xs.length<=sizeLine/\∀a,H1 a=none->sp (.ref a::xs) (upd H1 a (XS a C none)) (fun v H2=>v=.non/\∃d,H2 a=some (XS a C d)/\W σ (.ref C) d (My.del H2 a)) E0):jgf t C sp W D σ H:=h
def jt2{P:Str->Prop}(h:P z):∃y,V.str z=.str y/\P y:=⟨z,rfl,h⟩
def jqp{B:Prop}(hz:z.length<=sizeLine)(h:B):z.length<=sizeLine/\B:=⟨hz,h⟩
end
def okH{P:uI}{w:vA}{K:uY}{mg:Str->Option uB}{base:vS}{x qual:Str}{st:Stmt}{f:Addr}{fd:uT}{N ps:List Str}{k:Nat}{sp:Sp}(F:Fun K x qual st f fd)(S:jaa N ps (qaa st))(len:∀vs H Q E,sp vs H Q E->vs.length=ps.length)
  (hbody:∀(cdv:uB)(a:Addr)(A:vI)(outer:List Env)(s:uD)(H:Hp)(vs:List V)(Q:VK)(E:XK),jbf k (A.deeper (cK qual (qaa st) ↑s f cdv))->sp vs H Q E->
   ∃t,PSs (suite (cxOf CX0 P w K mg base N qual (qaa st) f cdv (jc2 A) outer s H E) a) (qbz st) t/\t {nx:=fun _ H'=>Q .non H',rt:=Q} (qdr N vs) H):FnOkH P w K mg base (k+1) f fd ps sp:=by
 obtain⟨oc,od,kV,doc,pm,an,cdv,ct,osl,rfl,lk,hcd⟩:=F.ex;exact jqn lk hcd S len fun a A outer s H vs Q E hr hsp=>hbody cdv a A outer s H vs Q E hr hsp
def jbf.mono{j k:Nat}(r:jbf k A)(h:j<=k):jbf j A:=⟨by have:=r.dp;omega,by have:=r.un;omega⟩
theorem FnOkH.mono{mg:Str->Option uB}{base:vS}{j k:Nat}{f:Addr}{fd:uT}{ps:List Str}{sp:Sp}(F:FnOkH P w K mg base j f fd ps sp)(h:j<=k):FnOkH P w K mg base k f fd ps sp:=
 ⟨F.len,fun a A outer s H args us vs Q E hr=>F.run a A outer s H args us vs Q E (hr.mono h)⟩
def hu8{k:Nat}(r:jar k A):A.units+8<cLine:=by have:=r.un;omega
def SameBut(L:Addr)(H H':Hp):Prop:=∀b o,b≠L->H b=some o->H' b=some o
def SameBut.at{H':Hp}{L:Addr}(e:SameBut L H H'):SameBut L H (upd H' L o):=fun b u hb q=>by
 rw[qa9 hb];exact e b u hb q
def SameBut.same{H H1 H2:Hp}{L:Addr}(e:SameBut L H H1)(s:qas H1 H2):SameBut L H H2:=fun b u hb q=>s b u (e b u hb q)
def SameBut.of{H':Hp}{L:Addr}(s:qas H H'):SameBut L H H':=fun b u _ q=>s b u q
def jc3(d:Option Addr)(H:Hp):Prop:=∀dx,d=some dx->∃o,H dx=some o
def jgm{d:Option Addr}{p:Addr}(h:jc3 d H)(n:H p=none):jc3 d (upd H p o):=fun dx e=>let ⟨u,hu⟩:=h dx e;⟨u,qa7 hu n⟩
def qg9:jc3 none H:=fun _ e=>by cases e
def qg8{dx:Addr}(h:H dx=some o):jc3 (some dx) H:=fun _ e=>by cases e;exact⟨o,h⟩
section
variable{K:uY}{H:Hp}{Q:VK}{a C c:Addr}{d:Option Addr}{b:Bool}
def jqq(e:H a=some (XO a (.ref C) d))(ed:jc3 d H)(ha:XAt K C)(k:vY K (.ref C) (.ref c)=some b)(h:Q (.bl b) H):jsf K [.ref a,.ref c] H Q:=jtv e ed ha k h
end
def jjm(H:Hp)(a:Addr):Prop:=∀o u,H a≠some (.frz o u)
section
variable{X:Cx}{pins:List (Addr×Obj)}{σ:L2.St}{H H':Hp}{s:uD}{a:Addr}{kvs:List (Key×V)}{o:Obj}
def Inv.freeze(I:Inv X pins σ H s)(e:H a=some (.dK kvs))(ho:s.heap.get? a=some o):Inv X pins σ (upd H a (.frz o (.dK kvs))) s:=by
 have ok:=I.hok a _ e;have z:=I.write (x:=a) (e:=a) (o:=.frz o (.dK kvs)) (h':=s.heap) (t':=s.toks) (by rw[e];exact wF) (.inl rfl) (fun _ _ _ q=>q) ⟨o,ho⟩ ⟨ho,ok⟩;exact z
def Inv.thaw(I:Inv X pins σ H s)(e:H a=some (.frz o (.dK kvs)))(n0:jjm X.H₀ a):Inv X pins σ (upd H a (.dK kvs)) s:=by
 have ne:∀b,H b=none->b≠a:=fun b q z=>by subst z;rw[e] at q;cases q
 have nk:∀b u,H b=some u->(∀o' u',u≠ .frz o' u')->b≠a:=fun b u q z w=>by subst w;rw[e] at q;cases q;exact z _ _ rfl
 refine⟨I.ok,I.os,I.bare,⟨I.base.keep,I.base.slot,fun b ob q n hx=>?_,I.base.there,fun b xs q=>?_,fun b ob u q=>?_,fun b ps q=>?_⟩,I.loc,I.cell,?_,fun x c q=>?_,fun p hp=>?_,fun b u q=>?_,I.len⟩
 .have z:=I.base.free b ob q n hx;rw[qa9 (ne b z)];exact z
 .have z:=I.base.tups b xs q;rw[qa9 (nk b _ z (by intro _ _ h;cases h))];exact z
 .have z:=I.base.frzs b ob u q;rw[qa9 (fun w=>by subst w;exact n0 _ _ q)];exact z
 .obtain⟨m,z⟩:=I.base.tbls b ps q;exact⟨m,by rw[qa9 (nk b _ z (by intro _ _ h;cases h))];exact z⟩
 .have z:=I.free;rw[qa9 (ne _ z)];exact z
 .have z:=I.freeC x c q;rw[qa9 (ne _ z)];exact z
 .obtain⟨p1,p2,p3⟩:=I.pin p hp;exact⟨p1,by rw[qa9 (ne _ p2)];exact p2,p3⟩
 .by_cases hb:b=a
  .subst hb;rw[qa1] at q
   cases q
   exact(I.hok b _ e).2
  .rw[qa9 hb] at q;exact(I.hok b u q).stay (fun _ _ _ r=>r) (fun c r=>by rw[qa9 (nk c _ r (by intro _ _ h;cases h))];exact r) fun c xs r=>by rw[qa9 (nk c _ r (by intro _ _ h;cases h))];exact r
def jcg(H0 H H':Hp):Prop:=H'=H\/∃a o kvs,H a=some (.frz o (.dK kvs))/\jjm H0 a/\H'=upd H a (.dK kvs)
def Inv.thawed(I:Inv X pins σ H s)(t:jcg X.H₀ H H'):Inv X pins σ H' s:=by
 rcases t with rfl|⟨a,o,kvs,e,n,rfl⟩
 .exact I
 .exact Inv.thaw I e n
end
section
variable{X:Cx}{st:Stmt}{e:vT}{t:TS}{te:TE}
noncomputable def jvk(H0:Hp)(t:TS):TS:=fun D σ H=>∃H',jcg H0 H H'/\t D σ H'
def jk3(h:PS X st t):PS X st (jvk X.H₀ t):=fun pins s σ H D I ⟨H',th,q⟩=>h pins s σ H' D (Inv.thawed I th) q
noncomputable def thE(H0:Hp)(D:jam):jam:={nx:=fun σ H=>∃H',jcg H0 H H'/\D.nx σ H',rt:=fun v H=>∃H',jcg H0 H H'/\D.rt v H',bk:=fun σ H=>∃H',jcg H0 H H'/\D.bk σ H',ct:=fun σ H=>∃H',jcg H0 H H'/\D.ct σ H'}
noncomputable def jvl(H0:Hp)(t:TS):TS:=fun D σ H=>t (thE H0 D) σ H
def qew(h:PS X st t):PS X st (jvl X.H₀ t):=fun pins s σ H D I q=>thn (h pins s σ H _ I q) fun f s' hs=>by
 cases f with
 |next=>obtain⟨σ',H1,J,H2,th,q⟩:=hs;exact⟨σ',H2,Inv.thawed J th,q⟩
 |brk=>obtain⟨σ',H1,J,H2,th,q⟩:=hs;exact⟨σ',H2,Inv.thawed J th,q⟩
 |cont=>obtain⟨σ',H1,J,H2,th,q⟩:=hs;exact⟨σ',H2,Inv.thawed J th,q⟩
 |ret u=>obtain⟨v,σ',H1,J,r,H2,th,q⟩:=hs;exact⟨v,σ',H2,Inv.thawed J th,r,q⟩
noncomputable def jvm(H0:Hp)(t:TE):TE:=fun σ H Q=>t σ H fun v H1=>∃H',jcg H0 H1 H'/\Q v H'
def jk4(h:PE X e te):PE X e (jvm X.H₀ te):=fun pins s σ H Q I q=>thn (h pins s σ H _ I q) fun u s' ⟨v,H1,J,r,H2,th,q⟩=>⟨v,H2,Inv.thawed J th,r,q⟩
end
def kvget{κ:Type}{kvs:List (κ×V)}{vs:List (κ×uB)}(r:KV kvs vs):∀{i:Nat} {k:κ} {v:V},kvs[i]?=some (k,v)->∃u,vs[i]?=some (k,u)/\qbb v u:=by
 induction r with
 |nil=>intro i k v e;simp at e
 |cons h t ih=>
  intro i k v e
  cases i with
  |zero=>
   simp only[List.getElem?_cons_zero,Option.some.injEq] at e⊢;subst e;obtain⟨h1,h2⟩:=h;exact⟨_,Prod.ext h1.symm rfl,h2⟩
  |succ i=>
   simp only[yX] at e⊢;exact ih e
def jgn{k:Key}{u:uB}(h:qh5 k u=true):qbb (kV k) u:=by
 rcases qb6 h with⟨i,t,rfl,rfl⟩|⟨x,t,rfl,rfl⟩
 .exact⟨t,rfl⟩
 .exact⟨t,rfl⟩
noncomputable def ItD(d:Addr)(o:Obj)(kvs:List (Key×V)):It:=
 ⟨fun i H=>H d=some (.frz o (.dK kvs))/\i<kvs.length,fun i H x H'=>H'=H/\∃k v,kvs[i]?=some (k,v)/\x=kV k,fun i H=>H d=some (.frz o (.dK kvs))/\kvs.length<=i⟩
def qgc{P:uI}{w:vA}{H:Hp}{h:vS}{d:Addr}{o:Obj}{kvs:List (Key×V)}{es:Array xL}{ep:Nat}(ok:HOk P w H h)(e:H d=some (.frz o (.dK kvs)))(hd:o.data=.dict es ep):
  ∃vs,KV kvs vs/\h.DictAt (qb2 P w) d vs ep:=by
 obtain⟨ho,_,_,vs,rel,o',es',ep',ho',ex,hd',ks,ps,nd⟩:=ok d _ e;rw[ho] at ho'
 cases ho'
 rw[hd] at hd'
 cases hd'
 exact⟨vs,rel,o,es,ho,ex,hd,ks,ps,nd⟩
def qe7{P:uI}{w:vA}{K:uY}{tg:vT}{o:Obj}{kvs:List (Key×V)}{es:Array xL}{ep:Nat}(d it:Addr)(hd:o.data=.dict es ep):jke P w K tg (ItD d o kvs) [it] it (fun i h=>h.IsKeyIter it d i kvs.length ep) where
 mem:=by simp
 obj:=fun i h st b hb=>by
  have e:b=it:=by simpa using hb
  subst e;obtain⟨ob,e,c,dd⟩:=st;exact⟨ob,e,fun v z=>by rw[dd] at z;cases z⟩
 keep:=fun i h h' st k=>st.at fun ob e=>k it (by simp) ob e
 item:=by
  intro X hP hw hK hc i pins s σ H E I hf st hg;subst hP hw hK;obtain⟨hfz,hi⟩:=hg;obtain⟨vs,rel,dat⟩:=qgc I.hok hfz hd;obtain⟨f0,f1,f2,f3,f4,f5⟩:=hf it (by simp);have hl:=rel.length;obtain⟨u,hu,ru⟩:=kvget rel (i:=i) (k:=kvs[i].1) (v:=kvs[i].2) (by rw[zA hi]);rw[hl] at st;refine wpAny_pyNext_dict_item st dat hu fun key h' hkey st' hs'=>?_;have I1:Inv X pins σ H {s with heap:=h'}:=I.turned (t':=s.toks) (fun b ob hb e=>hs'.extBut b ob hb e) f0 f1 f3 f4 f5;obtain⟨ob,e,c,dd⟩:=id st';exact⟨key,rfl,jfb (s:={s with heap:=h'}) e c dd ∅ ⟨kV kvs[i].1,H,I1,jgn hkey,⟨rfl,kvs[i].1,kvs[i].2,zA hi,rfl⟩,by rw[hl];exact st',fun b hb=>(hf b hb).1⟩⟩
 done:=by
  intro X hP hw hK hc i pins s σ H E I hf st hg;subst hP hw hK;obtain⟨hfz,hi⟩:=hg;obtain⟨vs,rel,dat⟩:=qgc I.hok hfz hd;obtain⟨f0,f1,f2,f3,f4,f5⟩:=hf it (by simp);have hl:=rel.length;rw[hl] at st hi;exact wpAny_pyNext_dict_end (I.ok.hd hc) st dat (by simpa using hi) fun h' eb=>⟨rfl,I.turned (t':=s.toks) (fun b ob hb e=>eb b ob hb e) f0 f1 f3 f4 f5⟩
 self:=fun _ _ _ _ _ st h=>wpAny_pyIter_keyiter st h
def jsg(x:V)(H:Hp)(R:It->Hp->Prop):Prop:=∃a kvs,x=.ref a/\((H a=some (.dK kvs)/\∀o,R (ItD a o kvs) (upd H a (.frz o (.dK kvs))))\/∃o,H a=some (.frz o (.dK kvs))/\R (ItD a o kvs) H)
noncomputable def jqr(td:TE):TI:=fun σ H R=>td σ H fun x H1=>jsg x H1 R
def qgd{d:Addr}(ok:qbg P w H h d (.dK kvs)):∃o es ep vs,h.get? d=some o/\o.data=.dict es ep/\KV kvs vs/\h.DictAt (qb2 P w) d vs ep/\(d==wD)=false:=by
 obtain⟨_,hs,vs,rel,o,es,ep,ho,ex,hd,ks,ps,nd⟩:=ok;exact⟨o,es,ep,vs,ho,hd,rel,⟨o,es,ho,ex,hd,ks,ps,nd⟩,hs⟩
def jc4{X:Cx}{tg l:vT}{tl:TE}(hl:PE X l tl):PI X tg l (jqr tl):=by
 intro pins s σ H R I h;refine thn (hl pins s σ H _ I h) fun v s1 h9=>?_;obtain⟨x,H1,I1,r1,q1⟩:=h9;obtain⟨a,kvs,e,q⟩:=q1;subst e
 cases r1
 have ok:qbg X.prog X.w H1 s1.heap a (.dK kvs):=by
  rcases q with⟨e,_⟩|⟨o,e,_⟩
  .exact I1.hok a _ e
  .exact(I1.hok a _ e).2
 obtain⟨o,es,ep,vs,ho,hd,rel,dat,hs⟩:=qgd ok;have hlen:=rel.length;refine wpAny_pyIter_dict hs dat ?_;have it0:(s1.heap.push {cls:=.type "dict_keyiterator",data:=.fields #[.ref a,.int 0 0,.int vs.length 0,.int ep 0]}).IsKeyIter ↑s1 a 0 kvs.length ep:=by
  rw[hlen];exact⟨_,uX _ rfl,rfl,rfl⟩
 rcases q with⟨e,q⟩|⟨o',e,q⟩
 .have I2:=Inv.freeze I1 e ho;refine⟨↑s1,[↑s1],_,_,_,rfl,I2.kept (t':=s1.toks) fun b ob e=>uF _ e,qe7 (kvs:=kvs) a _ hd,it0,fun b hb=>?_,q o⟩;have e:b=↑s1:=by simpa using hb
  subst e;exact I2.fpOk (uG _) (I2.hok.fresh (uG _))
 .have eo:o'=o:=by
   have z:=(I1.hok a _ e).1;rw[ho] at z
   cases z
   rfl
  subst eo;refine⟨↑s1,[↑s1],_,_,_,rfl,I1.kept (t':=s1.toks) fun b ob e=>uF _ e,qe7 (kvs:=kvs) a _ hd,it0,fun b hb=>?_,q⟩;have e:b=↑s1:=by simpa using hb
  subst e;exact I1.fpOk (uG _) (I1.hok.fresh (uG _))
section
variable{σ:L2.St}{H H':Hp}{D:jam}{t:TS}{te tl:TE}{Q:VK}{g:TG}{tb:TS}{a:Addr}{o:Obj}{kvs:List (Key×V)}{H0:Hp}{v:V}
def jjn(th:jcg H0 H H')(h:t D σ H'):jvk H0 t D σ H:=⟨H',th,h⟩
def jt3(h:t (thE H0 D) σ H):jvl H0 t D σ H:=h
def qdu(th:jcg H0 H H')(h:D.nx σ H'):(thE H0 D).nx σ H:=⟨H',th,h⟩
def jqs(h:te σ H fun v H1=>∃H',jcg H0 H1 H'/\Q v H'):jvm H0 te σ H Q:=h
def jna:jcg H0 H H:=.inl rfl
def qd9(e:H a=some (.frz o (.dK kvs)))(n:jjm H0 a):jcg H0 H (upd H a (.dK kvs)):=.inr ⟨a,o,kvs,e,n,rfl⟩
def jwv{R:It->Hp->Prop}(h:tl σ H fun x H1=>jsg x H1 R):jqr tl σ H R:=h
def jjo{R:It->Hp->Prop}(e:H a=some (.dK kvs))(h:∀o,R (ItD a o kvs) (upd H a (.frz o (.dK kvs)))):jsg (.ref a) H R:=⟨a,kvs,rfl,.inl ⟨e,h⟩⟩
def qdw(Pv:Nat->L2.St->Hp->Prop)(h0:Pv 0 σ H)(hl:∀i σ H,i<=kvs.length->Pv i σ H->H a=some (.frz o (.dK kvs)))
  (hs:∀i k v σ H,kvs[i]?=some (k,v)->Pv i σ H->g (kV k) σ H fun σ2 H2=>tb {nx:=Pv (i+1),rt:=D.rt,bk:=D.nx,ct:=Pv (i+1)} σ2 H2)(hd:∀σ H,Pv kvs.length σ H->D.nx σ H):FOR (ItD a o kvs) g tb D σ H:=by
 refine⟨fun i m σ H=>m=kvs.length-i/\i<=kvs.length/\Pv i σ H,⟨kvs.length,rfl,wV _,h0⟩,?_⟩;rintro i m σ H ⟨rfl,hi,p⟩;have q:=hl i σ H hi p;by_cases hlt:i<kvs.length
 .refine .inr ⟨⟨q,hlt⟩,Pv (i+1),fun σ' H' p'=>⟨kvs.length-(i+1),↑∅,rfl,hlt,p'⟩,fun x H' y=>?_⟩;obtain⟨e,k,v,hk,rfl⟩:=y;subst e;exact hs i k v σ _ hk p
 .have e:i=kvs.length:=cL hi (aU hlt);subst e;exact .inl ⟨⟨q,uG _⟩,hd σ H p⟩
end
def jgo(x:qbg P w H h a o):∃u,h.get? a=some u:=by
 induction o with
 |lst xs=>obtain⟨_,_,_,_,e⟩:=x;exact⟨_,e⟩
 |tup xs=>obtain⟨_,_,_,ob,e,_⟩:=x;exact⟨_,e⟩
 |dK kvs=>obtain⟨_,_,_,_,o,_,_,e,_⟩:=x;exact⟨_,e⟩
 |dT kvs=>obtain⟨_,_,_,_,o,_,_,e,_⟩:=x;exact⟨_,e⟩
 |set S n=>obtain⟨o,_,_,_,e,_⟩:=x;exact⟨_,e⟩
 |ins C dx fs=>obtain⟨_,_,_,e,_⟩:=x;exact⟨_,e⟩
 |own y=>exact x
 |xd fs=>obtain⟨_,⟨_,_,_,e,_⟩,_⟩:=x;exact⟨_,e⟩
 |rng lo hi=>obtain⟨_,_,_,e⟩:=x;exact⟨_,e⟩
 |frz ob u ih=>exact⟨_,x.1⟩
 |tbl ps=>exact⟨_,x⟩
 |met f y=>exact⟨_,x⟩
 |ext φ=>exact x.2.1
def Inv.laidN{X:Cx}{pins:List (Addr×Obj)}{σ:L2.St}{H:Hp}{s:uD}{h':vS}{a:Addr}{o:HO}{t':Nat}(I:Inv X pins σ H s)(k:∀b u,s.heap.get? b=some u->h'.get? b=some u)(hg:s.heap.get? a=none)(new:qbg X.prog X.w (upd H a o) h' a o):
  H a=none/\Inv X pins σ (upd H a o) {s with heap:=h',toks:=t'}:=by
 have hn:H a=none:=by
  cases q:H a with
  |none=>rfl
  |some u=>obtain⟨v,e⟩:=jgo (I.hok a u q);rw[hg] at e;cases e
 refine⟨hn,I.un ⟨fun b u q _ _ _=>k b u q,fun b u q _ _ _=>⟨u.slots,k b u q⟩,fun b u q n _=>by rw[qa9 (fun z=>by subst z;rw[hg] at q;cases q)];exact n,fun b u q _=>⟨u,k b u q⟩,fun b xs q=>by rw[qa9 (qa8 q hn)];exact q,
  fun b u xs q=>by rw[qa9 (qa8 q hn)];exact q,fun b ps q=>⟨#[],by rw[qa9 (qa8 q hn),q];simp⟩⟩ fun b u e=>?_⟩
 by_cases hb:b=a
 .subst hb;rw[qa1] at e;cases e;exact new
 .rw[qa9 hb] at e;exact(I.hok b u e).stay (fun c v _ q=>k c v q) (fun c q=>by rw[qa9 (qa8 q hn)];exact q) fun c xs q=>by rw[qa9 (qa8 q hn)];exact q
section
variable{X:Cx}
noncomputable def jgp:List V->Hp->VK->Prop:=fun xs H Q=>∃p kvs,xs=[.ref p]/\Rd H p (.dK kvs)/\∀q,H q=none->Q (.ref q) (upd H q (.dK kvs))
def qch:qcc X (.type "dict") jgp:=by
 intro pins s σ H xs us Q I hv h;obtain⟨p,kvs,rfl,e,q⟩:=h;obtain⟨u,rfl,ru⟩:=hv.one
 cases ru
 exact jjf I e fun l s' hl I'=>⟨.ref l,_,I',rfl,q l hl⟩
theorem qgm:∀{ss:List Str} {us:List uB},qbk (ss.map V.str) us->fL us ss
 | [],_,r=>by cases r;exact .nil
 |x::ss,_,r=>by
  cases r with
  |cons h t=>obtain⟨k,rfl⟩:=h;exact .cons x k (qgm t)
theorem qe6:∀{us:List uB} {ss:List Str},fL us ss->qbk (ss.map V.str) us
 |_,_,.nil=> .nil
 |_,_,.cons x t h=> .cons ⟨t,rfl⟩ (qe6 h)
noncomputable def jk5(K:uY):List V->Hp->VK->Prop:=fun xs H Q=>∃p ss,xs=[.ref p]/\SqL K H p (ss.map V.str)/\ss.length<64/\∀l ss',H l=none->ss'.Perm ss->sortedS ss'=true->Q (.ref l) (upd H l (.lst (ss'.map V.str)))
def qd0:qcc X (.builtin "sorted") (jk5 X.K):=by
 intro pins s σ H xs us Q I hv h;obtain⟨p,ss,rfl,hS,hz,q⟩:=h;obtain⟨u,rfl,ru⟩:=hv.one
 cases ru
 obtain⟨its,rv,pl,hz'⟩:=I.list hS;have hlen:=rv.length;rw[zB] at hlen;refine sorted_strs (vs:=its) (PlainL.isList pl) (qgm rv) ↑∅ fun out ss' a1 a2 a3=>?_;obtain⟨e,he⟩:=sortedAll_at s.heap its out;have hl2:=a2.length_eq;have I2:=I.laid (a:=↑s+1) (o:=.lst (ss'.map V.str)) (t':=s.toks) (fun b ob hb=>sortedAll_old hb) (aP _) ⟨by rw[zB,xD];omega,out.toList,e,qe6 a1,by simpa[seqObj] using he⟩;exact⟨.ref _,_,I2,rfl,q _ ss' (I.hok.fresh (aP _)) a2 a3⟩
noncomputable def jk6:List V->Hp->VK->Prop:=fun xs H Q=>∃p kvs ss,xs=[.ref p]/\Rd H p (.dK kvs)/\kvs.map (·.1)=ss.map vE/\ss.length<64/\∀l ss',H l=none->ss'.Perm ss->sortedS ss'=true->Q (.ref l) (upd H l (.lst (ss'.map V.str)))
def jch{ss:List Str}{us:List uB}(hl:us.length=ss.length)(h:∀(j:Nat)(u:uB),us[j]?=some u->∃x,ss[j]?=some x/\qh5 (.inr x) u=true):fL us ss:=by
 induction us generalizing ss with
 |nil=>cases ss with
  |nil=>exact .nil
  |cons _ _=>simp at hl
 |cons u us ih=>cases ss with
  |nil=>simp at hl
  |cons x ss=>
   obtain⟨y,hy,hk⟩:=h 0 u rfl;simp only[List.getElem?_cons_zero,Option.some.injEq] at hy;subst hy;rcases qb6 hk with⟨i,t,e,_⟩|⟨z,t,e,rfl⟩
   .cases e
   .cases e
    exact .cons x t (ih (by simpa using hl) fun j v hv=>by have:=h (j+1) v (by simpa using hv);simpa using this)
def qgf(hc:X.calm=true):qcc X (.builtin "sorted") jk6:=by
 intro pins s σ H xs us Q I hv h;obtain⟨p,kvs,ss,rfl,hR,hk,hz,q⟩:=h;obtain⟨u,rfl,ru⟩:=hv.one
 cases ru
 obtain⟨o,es,ep,vs,ho,hd,rel,dat,hs⟩:=qgd (hR.ok I.hok);have hlen:=rel.length;have hks:=rel.keys;have hl2:kvs.length=ss.length:=by have:=congrArg xE hk;simpa using this
 refine Calls.call_function_entry kind_sorted plain_sorted entry_sorted (args_sorted1 _) ?_;unfold xY.«sorted»;refine uA (m:=checkCount "sorted" 1 1 _) (uE ?_);refine uA (PySem.W.kdu_collect (A:=X.A.in1) (PySem.W.kdl_dict (knd:=qb2 X.prog X.w) (kvs:=vs) (ep:=ep) hs) (I.ok.hd hc) dat (by rw[xD];omega) fun h' tk acc hkeep hacc=>?_);have hal:acc.toList.length=vs.length:=by rw[aZ];exact hacc.1
 refine uA (wpAny_newList ?_ (by rw[hal,xD];omega));have hS:fL acc.toList ss:=by
  refine jch ↑∅ fun j v hv=>?_;obtain⟨k,x,hx,hkv⟩:=hacc.2 j v (by rw[<-xR];exact hv);have e1:(vs.map (·.1))[j]?=some k:=by rw[zC,hx];rfl
  rw[<-hks,hk,zC] at e1;obtain⟨z,hz1,rfl⟩:=vQ.mp e1;exact⟨z,hz1,hkv⟩
 have hoL:(h'.push {cls:=.type "list",data:=.seq acc.toList.toArray}).get? h'.objs.size=some (seqObj "list" acc.toList.toArray 0):=uX _ rfl;refine uA (vO (wT slot_list_sort ⟨_,hoL,rfl⟩ entry_list_sort (list_sort_treeK strKind_oneLt hoL hS.keysOf (fun v₁ v₂ rest e=>keyKind_strs (by rw[<-e];exact hS)) ↑∅ fun st' a1 a2=>⟨_,rfl,?_⟩) (args_list_sort _)));obtain⟨ss',b1,b2,b3⟩:=sorted_out_str hS a1 a2;obtain⟨e,he⟩:=sortedHeap_at (out:=(arrOf st').map (·.2)) hoL;have hl3:=b2.length_eq;have hg:s.heap.get? h'.objs.size=none:=by
  cases q:s.heap.get? h'.objs.size with
  |none=>rfl
  |some ob=>exact absurd (uV (hkeep _ _ q)) (wO _)
 obtain⟨hn,I2⟩:=Inv.laidN I (h':=sortedHeap (h'.push {cls:=.type "list",data:=.seq acc.toList.toArray}) h'.objs.size acc.toList ((arrOf st').map (·.2))) (a:=h'.objs.size) (o:=.lst (ss'.map V.str)) (t':=tk) (fun b ob hb=>by
  have hb':=hkeep b ob hb;rw[sortedHeap_old (vM (uV hb')) (by rw[size_push'];exact Nat.lt_succ_of_lt (uV hb'))];exact uF _ hb') hg ⟨by rw[zB,xD];omega,((arrOf st').map (·.2)).toList,e,qe6 b1,by rw[Array.toArray_toList];exact he⟩
 exact uE ⟨_,rfl,.ref _,_,I2,rfl,q _ ss' hn b2 b3⟩
end
section
variable{K:uY}{H:Hp}{Q:VK}{p:Addr}{kvs:List (Key×V)}{ss:List Str}
def jjp(e:Rd H p (.dK kvs))(h:∀q,H q=none->Q (.ref q) (upd H q (.dK kvs))):jgp [.ref p] H Q:=⟨p,kvs,rfl,e,h⟩
def jt4{B:Prop}(h:H p=some (.dK kvs))(q:B):tyV K "dict" (.ref p) H/\B:=⟨.inr (.inr (.inl ⟨rfl,.inl ⟨_,h⟩⟩)),q⟩
def qfc(e:SqL K H p (ss.map V.str))(hz:ss.length<64)(h:∀l ss',H l=none->ss'.Perm ss->sortedS ss'=true->Q (.ref l) (upd H l (.lst (ss'.map V.str)))):jk5 K [.ref p] H Q:=⟨p,ss,rfl,e,hz,h⟩
def jgq(e:Rd H p (.dK kvs))(hk:kvs.map (·.1)=ss.map vE)(hz:ss.length<64)(h:∀l ss',H l=none->ss'.Perm ss->sortedS ss'=true->Q (.ref l) (upd H l (.lst (ss'.map V.str)))):jk6 [.ref p] H Q:=⟨p,kvs,ss,rfl,e,hk,hz,h⟩
end
structure AD(kvs:List (Key×V))(f:Str->Option Int):Prop where
 nd:(kvs.map (·.1)).Nodup
 sh:∀p∈kvs,∃z i,p=(vE z,V.int i)
 get:∀z,qco kvs (vE z)=(f z).map V.int
noncomputable def noF:Str->Option Int:=fun _=>none
noncomputable def qda(f:Str->Option Int)(z:Str)(i:Int):Str->Option Int:=fun y=>if y=z then some i else f y
def AD.nil:AD [] noF:=⟨yH,fun p hp=>absurd hp (by simp),fun z=>rfl⟩
def AD.cast(h:AD kvs f)(e:∀z,f z=g z):AD kvs g:=⟨h.nd,h.sh,fun z=>by rw[h.get,e]⟩
def jci{k:Key}(h:qco kvs k≠none):(qcs kvs k v).map (·.1)=kvs.map (·.1):=by
 unfold qcs;have e:(kvs.any fun kv=>decide (kv.1=k))=true:=by rw[qcn];cases q:qco kvs k with
  |none=>exact absurd q h
  |some _=>rfl
 rw[iO e,yS];apply List.map_congr_left;intro p _;show(if p.1=k then(p.1,v) else p).1=p.1
 split<;>rfl
def qdn{k:Key}{p:Key×V}(h:p∈qcs kvs k v):p=(k,v)\/p∈kvs:=by
 unfold qcs at h
 split at h
 .obtain⟨q,hq,e⟩:=zM.mp h
  split at e
  .rename_i ek;subst ek;exact .inl e.symm
  .subst e;exact .inr hq
 .rcases zT.mp h with h|h
  .exact .inr h
  .exact .inl (by simpa using h)
def AD.put(h:AD kvs f)(z:Str)(i:Int):AD (qcs kvs (vE z) (.int i)) (qda f z i):=by
 refine⟨?_,fun p hp=>?_,fun y=>?_⟩
 .cases q:qco kvs (vE z) with
  |none=>exact jga _ h.nd q
  |some v=>rw[jci (by rw[q];simp)];exact h.nd
 .rcases qdn hp with rfl|hp
  .exact⟨z,i,rfl⟩
  .exact h.sh p hp
 .rw[jdw];unfold qda;by_cases e:y=z
  .subst e;rw[iO rfl,iO rfl];rfl
  .rw[iN (fun q=>e (Sum.inr.inj q)),iN e];exact h.get y
def AD.flat(h:AD kvs f):∀p∈kvs,qd3 p.2=true:=fun p hp=>by
 obtain⟨z,i,rfl⟩:=h.sh p hp;rfl
def qf8(nd:(kvs.map (·.1)).Nodup){k:Key}{v:V}(h:(k,v)∈kvs):qco kvs k=some v:=by
 induction kvs with
 |nil=>simp at h
 |cons p r ih=>
  rw[zS,zU] at nd;rcases zP.mp h with rfl|h
  .exact qbx rfl
  .have ne:¬p.1=k:=fun e=>nd.1 (e▸zM.mpr ⟨(k,v),h,rfl⟩);rw[qby ne];exact ih nd.2 h
def AD.mem(h:AD kvs f){k:Key}{v:V}(hm:(k,v)∈kvs):∃z n,k=vE z/\v=.int n/\f z=some n:=by
 obtain⟨z,n,e⟩:=h.sh _ hm
 cases e
 have q:=qf8 h.nd hm;rw[h.get] at q
 cases hf:f z with
 |none=>rw[hf] at q;cases q
 |some m=>rw[hf] at q;cases q;exact⟨z,_,rfl,rfl,hf⟩
noncomputable def qc0(kvs:List (Key×V)):List Str:=kvs.filterMap fun p=>match p.1 with| .inr z=>some z| .inl _=>none
def AD.keys(h:AD kvs f):kvs.map (·.1)=(qc0 kvs).map vE:=by
 have sh:=h.sh;clear h
 induction kvs with
 |nil=>rfl
 |cons p r ih=>
  obtain⟨z,i,rfl⟩:=sh p (zG ..);show vE z::r.map (·.1)=(z::qc0 r).map vE;rw[zS,ih fun q hq=>sh q (zF _ hq)]
def AD.klen(h:AD kvs f):(qc0 kvs).length=kvs.length:=by
 have:=congrArg xE h.keys;simpa using this.symm
def AD.knd(h:AD kvs f):(qc0 kvs).Nodup:=by
 have nd:=h.nd;rw[h.keys] at nd;exact List.Pairwise.imp (fun ne e=>ne (congrArg vE e)) (cZ.mp nd)
def AD.kin(h:AD kvs f)(z:Str):z∈qc0 kvs↔f z≠none:=by
 constructor
 .intro hz;have hm:(vE z:Key)∈kvs.map (·.1):=by rw[h.keys];exact zM.mpr ⟨z,hz,rfl⟩
  obtain⟨⟨k,v⟩,hp,e⟩:=zM.mp hm;dsimp only at e;subst e;obtain⟨z',n,e1,_,hf⟩:=h.mem hp
  cases e1
  rw[hf];simp
 .intro hf
  cases q:f z with
  |none=>exact absurd q hf
  |some n=>
   have hv:=h.get z;rw[q] at hv;have hm:=jmw hv;rw[h.keys] at hm;obtain⟨y,hy,e⟩:=zM.mp hm
   cases e
   exact hy
theorem jgr:∀{l m:List Str},l.Nodup->(∀a∈l,a∈m)->l.length<=m.length
 | [],_,_,_=>wV _
 |a::l,m,nd,h=>by
  have ha:=h a (zG ..);rw[zU] at nd;have q:=jgr (l:=l) (m:=m.erase a) nd.2 fun b hb=>(List.mem_erase_of_ne (fun(e:b=a)=>nd.1 (by rw[<-e];exact hb))).mpr (h b (zF _ hb));rw[List.length_erase_of_mem ha] at q;have:0<m.length:=List.length_pos_of_mem ha;simp only[zI];omega
def AD.le(h:AD kvs f){ws:List Str}(hs:∀z,f z≠none->z∈ws):kvs.length<=ws.length:=by
 rw[<-h.klen];exact jgr h.knd fun z hz=>hs z ((h.kin z).mp hz)
def AD.eq{ka kb:List (Key×V)}(h:AD ka f)(h':AD kb f):(ka.length==kb.length && ka.all fun p=>(qco kb p.1).elim false (eqV p.2))=true:=by
 rw[vP,beq_iff_eq,zZ];constructor
 .have l1:=jgr h.knd fun z hz=>(h'.kin z).mpr ((h.kin z).mp hz);have l2:=jgr h'.knd fun z hz=>(h.kin z).mpr ((h'.kin z).mp hz);rw[h.klen,h'.klen] at l1;rw[h.klen,h'.klen] at l2;omega
 .rintro⟨k,v⟩ hp;obtain⟨z,n,rfl,rfl,hf⟩:=h.mem hp;show((qco kb (vE z)).elim false (eqV (.int n)))=true;rw[h'.get,hf];show(n==n)=true;simp
theorem AD.at(h:AD kvs f){i:Nat}{k:Key}{v:V}(e:kvs[i]?=some (k,v)):∃z n,k=vE z/\v=.int n/\f z=some n/\(qc0 kvs)[i]?=some z:=by
 obtain⟨z,n,rfl,rfl,hf⟩:=h.mem (zD e);refine⟨z,n,rfl,rfl,hf,?_⟩;have q:(kvs.map (·.1))[i]?=some (vE z):=by rw[zC,e];rfl
 rw[h.keys,zC] at q;obtain⟨y,hy,e⟩:=vQ.mp q
 cases e
 exact hy
def leS(a b:Str):Prop:=ltCps b.cps.toList a.cps.toList=false
def qep{a:Str} :leS a b↔a.cps.toList<=b.cps.toList:=by
 unfold leS;rw[ltCps_eq,decide_eq_false_iff_not];exact List.not_lt
def qh2(a:Str):leS a a:=qep.mpr (List.le_refl _)
def jgs{a c:Str}(h:leS a b)(h':leS b c):leS a c:=qep.mpr (List.le_trans (qep.mp h) (qep.mp h'))
def qh3{a:Str}(h:leS a b)(h':leS b a):a=b:=by
 have e:=List.le_antisymm (qep.mp h) (qep.mp h');obtain⟨⟨x⟩⟩:=a;obtain⟨⟨y⟩⟩:=b;have e':x=y:=e;subst e';rfl
theorem jcj:∀{p:Str} {l:List Str},risingS p l=true->(p::l).Pairwise leS
 |p,[],_=>List.pairwise_singleton _ _
 |p,x::r,h=>by
  have h':(!ltCps x.cps.toList p.cps.toList && risingS x r)=true:=h;rw[vP,gY] at h';have q:=jcj h'.2;refine List.pairwise_cons.mpr ⟨fun y hy=>?_,q⟩;rcases zP.mp hy with rfl|hy
  .exact h'.1
  .exact jgs h'.1 (List.rel_of_pairwise_cons q hy)
def qdd:∀{l:List Str},sortedS l=true->l.Pairwise leS
 | [],_=>List.Pairwise.nil
 |x::r,h=>jcj h
noncomputable def gN(f:Str->Option Int)(z:Str):Int:=(f z).getD 0
noncomputable def qdx(f g:Str->Option Int):Str->Option Int:=fun y=>match g y with|none=>f y|some b=>some (gN f y+b)
noncomputable def qbm(f:Str->Option Int):Str->Option Int:=fun y=>match f y with|none=>none|some a=>if 0<a then some a else none
def jqt(h:AD kvs f)(z:Str):(qco kvs (vE z)).getD (.int 0)=.int (gN f z):=by
 rw[h.get];unfold gN
 cases f z<;>rfl
def qbn(h:l[i]?=some z)(y:Str):y∈l.take (i+1)↔y∈l.take i\/y=z:=by
 rw[yB,h,zT];simp
section
variable{σ:L2.St}{H H':Hp}{Q:VK}{D:jam}{td ty tx tv:TE}{a b p:Addr}{kvs kb:List (Key×V)}{f:Str->Option Int}{z:Str}{n:Int}{v:V}{o:Obj}
def rDG(a:Addr)(y z:V)(H:Hp)(Q:VK):Prop:=∃o,jit H a y o/\Q (o.getD z) H
def jvn(ty tx:TE)(σ:L2.St)(Q:VK)(x:V)(H:Hp):Prop:=∃a,x=.ref a/\IsD H a/\ty σ H fun y H2=>tx σ H2 fun z H3=>rDG a y z H3 Q
def jt5(h:td σ H fun x H1=>jvn ty tx σ Q x H1):jku td ty tx σ H Q:=h
def jqu(d:Rd H a (.dK kvs))(h:ty σ H fun y H2=>tx σ H2 fun z H3=>rDG a y z H3 Q):jvn ty tx σ Q (.ref a) H:=⟨a,rfl,.inl ⟨kvs,d⟩,h⟩
def jqv(d:Rd H a (.dK kvs))(A:AD kvs f)(h:Q (.int (gN f z)) H):rDG a (.str z) (.int 0) H Q:=by
 refine⟨qco kvs (vE z),.inl ⟨kvs,vE z,d,rfl,rfl⟩,?_⟩;rw[jqt A];exact h
def jsh(x y:V)(H:Hp)(Q:VK):Prop:=∃a v,x=.ref a/\jit H a y (some v)/\Q v H
def jww(h:td σ H fun x H1=>ty σ H1 fun y H2=>jsh x y H2 Q):jpv td ty σ H Q:=h
def jqw(d:Rd H a (.dK kvs))(A:AD kvs f)(e:f z=some n)(h:Q (.int n) H):jsh (.ref a) (.str z) H Q:=
 ⟨a,.int n,rfl,.inl ⟨kvs,vE z,d,rfl,by rw[A.get,e];rfl⟩,h⟩
def rDP(x y v:V)(H:Hp)(D:jam)(σ:L2.St):Prop:=∃a H4,x=.ref a/\jms H a y v H4/\D.nx σ H4
def jwx(h:tv σ H fun v H1=>td σ H1 fun x H2=>ty σ H2 fun y H3=>rDP x y v H3 D σ):jpw td ty tv D σ H:=h
def jqx(e:H a=some (.dK kvs))(hz:kvs.length<sizeLine)(h:D.nx σ (upd H a (.dK (qcs kvs (vE z) v)))):rDP (.ref a) (.str z) v H D σ:=⟨a,_,rfl,jms.k (k:=vE z) e hz,h⟩
def rDI(x y:V)(H:Hp)(Q:VK):Prop:=∃a o,x=.ref a/\jit H a y o/\Q (.bl o.isSome) H
def jwy(h:ty σ H fun y H1=>td σ H1 fun x H2=>rDI x y H2 Q):jvc ty td σ H Q:=h
def jqy(h:∀p,H p=none->Q (.ref p) (upd H p (.dK []))):jkt σ H Q:=h
def qbh(e:H a=some (.dK kvs)):jjm H a:=fun o u z=>by rw[e] at z;cases z
def jck(d:Rd H a (.dK kvs))(n:H p=none){u:HO}:Rd (upd H p u) a (.dK kvs):=by
 rcases d with d|⟨o,d⟩
 .exact .inl (qa7 d n)
 .exact .inr ⟨o,qa7 d n⟩
def jt6(d:Rd H b (.dK kb))(ea:H a=some (.dK kvs))(sb:SameBut a H H')(fz:H' a=some (.frz o (.dK kvs))):Rd H' b (.dK kb):=by
 by_cases e:b=a
 .subst e;rcases d with d|⟨o',d⟩
  .rw[ea] at d;cases d;exact .inr ⟨o,fz⟩
  .rw[ea] at d;cases d
 .rcases d with d|⟨o',d⟩
  .exact .inl (sb _ _ e d)
  .exact .inr ⟨o',sb _ _ e d⟩
def qb8(e:H a=some (.dK kvs))(sb:SameBut a H H'):qas H (upd H' a (.dK kvs)):=fun b u q=>by
 by_cases h:b=a
 .subst h;rw[qa1];rw[e] at q;exact q
 .rw[qa9 h];exact sb b u h q
def qde(e:H a=some (.dK kvs)):SameBut a H (upd H a (.frz o (.dK kvs))):=fun b u h q=>by rw[qa9 h];exact q
def qfz{l:Addr}{u:HO}(sb:SameBut a H H')(n:H l=none):SameBut a H (upd H' l u):=fun b w h q=>by
 rw[qa9 (qa8 q n)];exact sb b w h q
def qax{l:Addr}{u:HO}(s:qas H H')(n:H l=none):qas H (upd H' l u):=fun b w q=>by rw[qa9 (qa8 q n)];exact s b w q
end
def qfv(f g:Str->Option Int)(y:Str):Prop:=f y≠none/\gN g y<gN f y
def qhf{ws:List Str}(hf:∀z,f z≠none->z∈ws)(hg:∀z,g z≠none->z∈ws)(z:Str)(h:qdx f g z≠none):z∈ws:=by
 unfold qdx at h
 cases e:g z with
 |none=>rw[e] at h;exact hf z h
 |some b=>exact hg z (by rw[e];simp)
def qgn(h:l[i]?=some z)(F G:Str->Option Int){v:Int}(hv:F z=some v)(y:Str):qda (fun y=>if y∈l.take i then F y else G y) z v y=if y∈l.take (i+1) then F y else G y:=by
 unfold qda;by_cases e:y=z
 .subst e;rw[iO rfl,iO ((qbn h y).mpr (.inr rfl)),hv]
 .rw[iN e];by_cases e2:y∈l.take i
  .rw[iO ((qbn h y).mpr (.inl e2))];exact iO e2
  .rw[iN (fun q=>((qbn h y).mp q).elim e2 e)];exact iN e2
def jgt(h:l[i]?=some z)(F G:Str->Option Int)(hv:F z=G z)(y:Str):(if y∈l.take i then F y else G y)=if y∈l.take (i+1) then F y else G y:=by
 by_cases e2:y∈l.take i
 .rw[iO e2,iO ((qbn h y).mpr (.inl e2))]
 .rw[iN e2];by_cases e:y=z
  .subst e;rw[iO ((qbn h y).mpr (.inr rfl)),hv]
  .rw[iN (fun q=>((qbn h y).mp q).elim e2 e)]
def qgo(hB:AD kvs g)(F G:Str->Option Int)(hn:∀y,g y=none->F y=G y)(y:Str):(if y∈(qc0 kvs).take kvs.length then F y else G y)=F y:=by
 rw[<-hB.klen,yG];by_cases e:y∈qc0 kvs
 .rw[iO e]
 .rw[iN e];refine(hn y ?_).symm
  cases hf:g y with
  |none=>rfl
  |some n=>exact absurd ((hB.kin y).mpr (by rw[hf];simp)) e
section
variable{X:Cx}
def qel{elt iter:vT}{x y:Str}{px py:Pos}{ifs:List vT}{scope:bJ}{cl:List (Str×Addr)}{pos spos:Pos}{caps:List Nat}{cn:List Str}{wi:TI}{tt:CT TT}{te:CT TE}{j:Nat}(Cp:jps X x scope cl caps cn)(hc:X.calm=true)
  (hN:X.N.Nodup)(hy:X.N[j]?=some y)(hly:X.env.scope.names.lookup y=some .local)
  (hi:PI X (.Name x px) iter wi)(ht:∀C s H fp,jpr (cxC X (x::cn) scope cl C s H fp) ifs (tt C s H fp))(he:∀C s H fp,PE (cxC X (x::cn) scope cl C s H fp) elt (te C s H fp))
  (hsw:autoParam (bK (.ListComp elt [⟨.Name x px,iter,ifs,0⟩] scope pos) (some (.Name y py)) spos.line X.env=pure true) auR)(hs:∀x,gU iter X.env x=pure x:=by intro _;rfl):
  PS X (.Assign [.Name y py] (.ListComp elt [⟨.Name x px,iter,ifs,0⟩] scope pos) spos) (jol (jjc wi caps tt te) (qdl j)):=by
 intro pins s σ H D I h
 replace h:jjc wi caps tt te σ H (fun v H1=>D.nx (σ.set j (some v)) H1):=h
 rw[exec_Assign_Name_used _ _ _ _ hsw];refine uA (aF (uA ?_));show uM _ X.A (do let _<-comprehension (.ListComp elt [⟨.Name x px,iter,ifs,0⟩] scope pos) scope X.env _ (newList []) false (wQ iter X.env) (some (iE (.Name y py) X.env))) _ _ s;refine uA (vR (wpAny_comprehension_free (use:=some (iE (.Name y py) X.env)) (Q:=fun _ s'=>SP X pins D .next s') rfl hs Cp.clos Cp.kind Cp.names
  (thn (hi pins s σ H _ I h) fun v s1 h1=>thn h1 fun itv s2 h2=>jdt Cp hc ht h2 (fun acc s3 H3 fp I3 f3 pn s9 τ H9 R I9 q9=>vR (he _ _ _ _ pn s9 τ H9 R I9 q9) (fun _ _ q=>q) fun _ _ q=>q.elim) fun acc s3 H3 fp I3 f3 τ H5 s6 v I6 qn=>?_)) (fun _ s' hq=>uE (uE hq)) fun _ _ e=>e)
 obtain⟨m,hm,_⟩:=id I6.loc;have J0:Inv X pins σ H5 s6:=Inv.uncomp I3 f3 rfl I6 (h':=s6.heap) ⟨rfl,fun _ _=>rfl⟩;have fC:jct X pins H5 ↑s3:=I3.fpOk (uG _) I6.free;show uM _ X.A (iE (.Name y py) X.env (.ref acc)) _ _ s6;refine gT (jbn (X:=X) (v:=.ref acc) J0 hN hy (.inl hly) rfl (fun s7 I7 h9=>?_) (.inr hly));obtain⟨a,sb,ha⟩:=h9;have nC:↑s3≠a:=by
  rcases ha with rfl|ha
  .exact fC.2.1
  .exact(fC.2.2.2.2.1 y a ha).symm
 refine⟨m,hm.sameBut sb nC,fun h' sb'=>⟨_,H5,?_,qn⟩⟩;exact I7.turned (t':=s7.toks) (fun b o hb e=>(sb'.2 b hb).trans e) fC.1 fC.2.1 fC.2.2.2.1 fC.2.2.2.2.1 fC.2.2.2.2.2
end
section
variable{X:Cx}{pins:List (Addr×Obj)}{σ:L2.St}{H:Hp}{s:uD}{h':vS}
def Inv.turnedT{t':Nat}{ch:List Addr}{T:Addr}{ob:HO}(I:Inv X pins σ H s)(hf:∀b∈ch,jct X pins H b)(k:∀b o,b∉ch->s.heap.get? b=some o->h'.get? b=some o)(hT:s.heap.get? T=none)(hn:H T=none)(new:qbg X.prog X.w (upd H T ob) h' T ob):
  Inv X pins σ (upd H T ob) {s with heap:=h',toks:=t'}:=by
 have nit:∀b u,H b=some u->b∉ch:=fun b u e z=>by rw[(hf b z).1] at e;cases e
 refine I.step (g':=s.gens) (d':=s.drawn) (ch:=ch) (fun b hb=>⟨(hf b hb).2.2.2.1,(hf b hb).2.1,(hf b hb).2.2.2.2.1,(hf b hb).2.2.2.2.2⟩) (fun b o _ _ hc e _=>k b o hc e) (fun b o _ _ hc e _=>⟨o.slots,k b o hc e⟩)
  (fun b o _ e n=>by rw[qa9 (fun z=>by subst z;rw[hT] at e;cases e)];exact n)
  (fun b o hc e=>⟨o,k b o hc e⟩) (fun b xs e=>by rw[qa9 (qa8 e hn)];exact e) (fun b o u e=>by rw[qa9 (qa8 e hn)];exact e) (fun b ps e=>⟨#[],by rw[qa9 (qa8 e hn),e];simp⟩) (fun m hm=>?_) (fun b u e=>?_) I.bare
 .obtain⟨o,es,ep,ho,r⟩:=hm;exact⟨o,es,ep,k _ o (fun z=>(hf _ z).2.1 rfl) ho,r⟩
 .by_cases hb:b=T
  .subst hb;rw[qa1] at e;cases e;exact new
  .rw[qa9 hb] at e;refine(I.hok b u e).stay (fun c v hc q=>k c v ?_ q) (fun c q=>by rw[qa9 (qa8 q hn)];exact q) fun c xs q=>by rw[qa9 (qa8 q hn)];exact q
   rcases hc with rfl|hc
   .exact nit _ _ e
   .exact nit _ _ hc
end
section
variable{prog:uI}{w:vA}{A:vI}{E:uB->uD->Prop}{s:uD}
def jgu{l:Addr}{items:Array uB}{k:Int}{t:Tok}{v:uB}{Q:Unit->uD->Prop}(ho:s.heap.get? l=some {cls:=.type "list",data:=.seq items n})(h0:0<=k)(hk:k<items.size)(hfit:k<2^63)
  (q:Q () {s with heap:=s.heap.update l (Obj.mapSeq fun a=>a.setIfInBounds k.toNat v)}):uM (uP prog w) A (setItem (.ref l) (.int k t) v) Q E s:=by
 have hT:s.TypeIs (.ref l) "list":=⟨_,ho,rfl⟩;unfold setItem
 try with_reducible refine vO ?_
 first|refine uA (uE ?_) |skip
 refine uA (wpAny_sequenceKey hT ∅ ?_);refine uA (bM (name:=uO "__setitem__") hT slot_list_setitem (wT slot_list_setitem hT entry_list_setitem ?_ (args_list_setitem _ _ _)));show uM _ _ (Builtin.List.listSubscript? (.int k t) >>= _) _ _ s;refine uA (wpAny_listSubscript_int (fitsIndex_of h0 hfit) ?_);clear hfit;obtain⟨j,rfl⟩:=Int.eq_ofNat_of_zero_le h0;have hj:j<items.size:=by omega
 have hx:items[j]?=some items[j]:=wY hj;show uM _ _ ((seqItemAt l j >>= fun r=>pure (r.map (j,·))) >>= _) _ _ s;refine uA (uA (wpAny_seqItemAt ho rfl (uE ?_)));rw[hx];show uM _ _ (setSeqItemAt l j v >>= _) _ _ s;refine uA (wpAny_setSeqItemAt ho rfl ?_)
 first
 |exact uA (uE (uE ⟨.none,rfl,uE q⟩))
 |exact uE ⟨.none,rfl,uE q⟩
end
def rLP(x y v:V)(H:Hp)(D:jam)(σ:L2.St):Prop:=∃l xs k,x=.ref l/\y=.int (k:Nat)/\H l=some (.lst xs)/\k<xs.length/\D.nx σ (upd H l (.lst (xs.set k v)))
noncomputable def jqz(td ty tv:TE):TS:=fun D σ H=>tv σ H fun v H1=>td σ H1 fun x H2=>ty σ H2 fun y H3=>rLP x y v H3 D σ
def jgv{X:Cx}{o i value:vT}{pos pos':Pos}{td ty tv:TE}(ho:PE X o td)(hi:PE X i ty)(hv:PE X value tv)(hs:bK value (some (.Subscript o i pos')) pos.line X.env=pure false):PS X (.Assign [.Subscript o i pos'] value pos) (jqz td ty tv):=by
 intro pins s σ H D I h;refine dY (thn (hv pins s σ H _ I h) fun r s1 ⟨v,H1,I1,rv,q1⟩=>thn (ho pins s1 σ H1 _ I1 q1) fun u s2 ⟨x,H2,I2,rx,q2⟩=>thn (hi pins s2 σ H2 _ I2 q2) fun iv s3 h9=>?_) hs;obtain⟨y,H3,I3,ry,q3⟩:=h9;obtain⟨l,xs,k,rfl,rfl,hl,hk,q⟩:=q3;obtain rfl:u=uS l:=rx;obtain⟨t,rfl⟩:=ry;obtain⟨z,its,n,rr,hlen,e⟩:=I3.lstM hl;have hz:xs.length<=16777216:=z;refine jgu e (Int.natCast_nonneg k) (by simp;omega) ↑∅ ?_;rw[hV];exact⟨σ,_,I3.lset (its':=its.set k r) (ys:=xs.set k v) (t':=s3.toks) hl e (by simp) (rr.set rv k) (by rw[eR];exact z),q⟩
section
variable{X:Cx}
noncomputable def jvo:List V->Hp->VK->Prop:=fun xs H Q=>∃i j,xs=[.int i,.int j]/\Q (.int (if j > i then j else i)) H
noncomputable def jvp:List V->Hp->VK->Prop:=fun xs H Q=>∃i j,xs=[.int i,.int j]/\Q (.int (if j<i then j else i)) H
def jcl(hc:X.calm=true):qcc X (.builtin "max") jvo:=jfl hc
def qdm(hc:X.calm=true):qcc X (.builtin "min") jvp:=jfm hc
end
section
variable{σ:L2.St}{H:Hp}{Q:VK}{D:jam}{td ty tv:TE}{v:V}{i j:Int}
def jwz(h:tv σ H fun v H1=>td σ H1 fun x H2=>ty σ H2 fun y H3=>rLP x y v H3 D σ):jqz td ty tv D σ H:=h
def jt7(h:Q (.int (if j > i then j else i)) H):jvo [.int i,.int j] H Q:=⟨i,j,rfl,h⟩
def jt8(h:Q (.int (if j<i then j else i)) H):jvp [.int i,.int j] H Q:=⟨i,j,rfl,h⟩
end
section
variable{K:uY}{σ:L2.St}{H:Hp}{Q:VK}{D:jam}{ta tv:TE}{t:TA}{a C dx:Addr}{fs:List (Str×V)}{f m:Str}{v y:V}{sp:Sp}{dvs:List V}{E:XK}
def kMk(C:Addr)(sp:Sp)(dvs:List V)(E:XK)(Q:VK)(vs:List V)(H:Hp):Prop:=∀x dx,H x=none->H dx=none->dx≠x->sp (.ref x ::(vs++dvs)) (upd (upd H dx (.own x)) x (.ins C dx [])) (fun v H2=>v=.non/\Q (.ref x) H2) E
def jw0(h:t σ H fun vs H1=>kMk C sp dvs E Q vs H1):jpb C sp dvs E t σ H Q:=h
def kMt(C:Addr)(m:Str)(sp:Sp)(dvs:List V)(E:XK)(t:TA)(σ:L2.St)(Q:VK)(x:V)(H:Hp):Prop:=∃a dx fs,x=.ref a/\H a=some (.ins C dx fs)/\fs.lookup m=none/\t σ H fun vs H2=>sp (x ::(vs++dvs)) H2 Q E
def jw1(h:ta σ H fun x H1=>kMt C m sp dvs E t σ Q x H1):jmc C m sp dvs E ta t σ H Q:=h
def jt9(e:H a=some (.ins C dx fs))(l:fs.lookup m=none)(h:t σ H fun vs H2=>sp (.ref a ::(vs++dvs)) H2 Q E):kMt C m sp dvs E t σ Q (.ref a) H:=⟨a,dx,fs,rfl,e,l,h⟩
def kFl(K:uY)(f:Str)(Q:VK)(x:V)(H:Hp):Prop:=∃a C dx fs v,x=.ref a/\H a=some (.ins C dx fs)/\Cls K C/\qb0 K C f/\fs.lookup f=some v/\Q v H
def jw2(h:ta σ H fun x H1=>kFl K f Q x H1):juz K ta f σ H Q:=h
def jua(e:H a=some (.ins C dx fs))(c:Cls K C)(n:qb0 K C f)(l:fs.lookup f=some v)(h:Q v H):kFl K f Q (.ref a) H:=⟨a,C,dx,fs,v,rfl,e,c,n,l,h⟩
def kFs(K:uY)(f:Str)(y:V)(D:jam)(σ:L2.St)(x:V)(H:Hp):Prop:=∃a C dx fs,x=.ref a/\H a=some (.ins C dx fs)/\Cls K C/\qb0 K C f/\fs.length<1000/\D.nx σ (upd H a (.ins C dx (qe9 f y fs)))
def jw3(h:tv σ H fun y H1=>ta σ H1 fun x H2=>kFs K f y D σ x H2):ju0 K ta tv f D σ H:=h
def jgw(e:H a=some (.ins C dx fs))(c:Cls K C)(n:qb0 K C f)(hz:fs.length<1000)(h:D.nx σ (upd H a (.ins C dx (qe9 f y fs)))):kFs K f y D σ (.ref a) H:=⟨a,C,dx,fs,rfl,e,c,n,hz,h⟩
end
structure IsC(K:uY)(C:Addr):Prop where
 ha:vC K (.ref C) "__class__"=some (some (.builtin "object.__class__"))
 hn:bQ K (.builtin "object.__class__") "__get__"=some (some (.builtin "getset_descriptor.__get__"))
 htk:PySem.W.takesIn K (.builtin "object.__class__")=some true
 hm:fV K C (.type "object")=some true
section
variable{X:Cx}{k:Nat}{f C:Addr}{fd:uT}{ps:List Str}{sp:Sp}{dvs:List V}{ds:List uB}{W:L2.St->XK}{x m:Str}{p pos apos:Pos}{e o:vT}{es:List vT}{ta:TE}{t:TA}
noncomputable def jk7(C:Addr)(m:Str)(sp:Sp)(dvs:List V)(W:L2.St->XK)(ta:TE)(t:TA):TE:=fun σ H Q=>ta σ H fun x H1=>∃a dx fs,x=.ref a/\H1 a=some (.ins C dx fs)/\fs.lookup m=none/\t σ H1 fun vs H2=>sp (x ::(vs++dvs)) H2 Q (W σ)
def qbi{pl:Sem Bool}(he:PE X o ta)(c:Cls X.K C)(hm:ja7 X.K C m f)(F:jab X.prog X.w X.K X.mg X.base (CX1 X.prog X.w) k f fd ps sp)(hr:jar k X.A)(hb:qat X.K fd ps ds)(hd:qbk dvs ds)(hx:Xes X W)(ha:PA X (e::es) t)(hex:autoParam (X.ex=[]) auR)
  (hst:autoParam (vF (e::es) X.env=(false,wQ e X.env)::vF es X.env) auR)(hpl:autoParam ((wW pos (vF es X.env)).any (·.1)=false) auR)
  (ht:autoParam (wQ (.Call (.Attribute o m apos) (e::es) [] pos) X.env=(do
   let ov<-wQ o X.env
   standAt apos.atName
   let (f,first)<-fJ [ov] (fK ov m pl)
   callWith pos f first (wW pos (vF (e::es) X.env)) (fF pos (cH [] X.env)))) auR):
  PE X (.Call (.Attribute o m apos) (e::es) [] pos) (jk7 C m sp dvs W ta t):=by
 intro pins s σ H Q I h;refine bZ (pl:=pl) (thn (he pins s σ H _ I h) fun u s1 h9=>?_) ht;obtain⟨x,H1,I1,rx,a,dx,fs,ex,ea,l,q⟩:=h9;subst ex;obtain rfl:u=uS a:=rx;refine qeq I1 ea c hm l (xO (first:=[.ref a]) (h₀:=X.base) I.ok.mod.kin hm.kp (thn (ha pos pins s1 σ H1 _ I1 q) fun us s2 ⟨vs,H2,I2,r,q2⟩=>⟨I2.kIn,?_⟩) hst hpl);exact jf3 (us:=.ref a::us) (vs:=.ref a::vs) F hr hb hd hx hex I2 (.cons rfl r) q2
noncomputable def jk8(C:Addr)(sp:Sp)(dvs:List V)(W:L2.St->XK)(t:TA):TE:=fun σ H Q=>t σ H fun vs H1=>∀x dx,H1 x=none->H1 dx=none->dx≠x->sp (.ref x ::(vs++dvs)) (upd (upd H1 dx (.own x)) x (.ins C dx [])) (fun v H2=>v=.non/\Q (.ref x) H2) (W σ)
def jgx{pins:List (Addr×Obj)}{σ:L2.St}{H:Hp}{s:uD}{Q:VK}{us:List uB}{vs:List V}(M:Mk X.K C f)(F:jab X.prog X.w X.K X.mg X.base (CX1 X.prog X.w) k f fd ps sp)(hr:jar (k+1) X.A)(hb:qat X.K fd ps ds)(hd:qbk dvs ds)
  (hx:Xes X W)(hex:X.ex=[])(I:Inv X pins σ H s)(r:qbk vs us)
  (h:∀x dx,H x=none->H dx=none->dx≠x->sp (.ref x ::(vs++dvs)) (upd (upd H dx (.own x)) x (.ins C dx [])) (fun v H2=>v=.non/\Q (.ref x) H2) (W σ)):
  uM (uP X.prog X.w) X.A (call (.ref C) us) (EP X pins σ Q) X.xe s:=by
 have hq:=h (↑s+1) ↑s (I.hok.fresh (aP _)) (I.hok.fresh (uG _)) (vM (cD _));have I2:=Inv.made (C:=C) I;have r2:qbk (V.ref (↑s+1) ::(vs++dvs)) (uS (↑s+1) ::(us++ds)):=.cons rfl (r.append hd);have hl:(uS (↑s+1)::us++ds).length=ps.length:=by
  have e:=r2.length;rw[F.len _ _ _ _ hq] at e;exact e.symm
 refine xH (jdn (f:=f) I.kIn M.makes M.init (beq_iff_eq.mp M.fn) (xU (F.run _ X.stack _ _ ⟨uS (↑s+1)::us,[]⟩ (uS (↑s+1) ::(us++ds)) _ _ (W σ) (hr.make C us [])
  (I2.env0.make C us []) (hb _ (uS (↑s+1)::us) I2.kIn hl) r2 hq) fun r s' hq'=>?_))
 cases r with
 |error e=>exact jds hx hex I2 hq'
 |ok fl=>
  cases fl with
  |ret u=>
   obtain⟨v,H',I3,rv,ev,q3⟩:=I2.after hq';subst ev;exact⟨rv,⟨V.ref (↑s+1),H',I3,rfl,q3⟩⟩
  |next=>exact vU hq'
  |brk=>exact vU hq'
  |cont=>exact vU hq'
def jjq(M:Mk X.K C f)(F:jab X.prog X.w X.K X.mg X.base (CX1 X.prog X.w) k f fd ps sp)(hr:jar (k+1) X.A)(hg:Gl X x)(hm:X.mg x=some (.ref C))(hb:qat X.K fd ps ds)(hd:qbk dvs ds)(hx:Xes X W)
  (ha:PA X (e::es) t)(hex:autoParam (X.ex=[]) auR)(hdb:autoParam ((x==("__debug__":Str))=false) auD)(he:autoParam (vF (e::es) X.env=(false,wQ e X.env)::vF es X.env) auR)(hpl:autoParam ((wW pos (vF es X.env)).any (·.1)=false) auR):
  PE X (.Call (.Name x p) (e::es) [] pos) (jk8 C sp dvs W t):=by
 intro pins s σ H Q I h;refine xN (qcw I hg hm ?_ hdb);refine xO (h₀:=X.base) I.ok.mod.kin M.kp (thn (ha pos pins s σ H _ I h) fun us s1 ⟨vs,H1,I1,r,q⟩=>⟨I1.kIn,?_⟩) he hpl;exact jgx M F hr hb hd hx hex I1 r q
end
structure FunD(K:uY)(x qual:Str)(st:Stmt)(f:Addr)(fd:uT)(T:Addr)(items:Array uB):Prop where
 ex:∃(oc:uB)(od:Option Addr)(kV doc pm:uB)(an:Option Addr)(cdv ct:uB)(osl:Array (Option uB)),
  fd=gP x qual (qcl st) (qbz st) (qaa st) (.ref T) kV doc pm an cdv ct/\K.lookup f=some ⟨oc,od,.func fd,osl⟩/\fZ K cdv qual=true
 kp:dA K (.ref f)=true
 tup:∃(o:Obj)(n:Nat),K.lookup T=some o/\o.data=.seq items n
section
variable{K:uY}{x qual:Str}{st:Stmt}{f T:Addr}{fd:uT}{ps:List Str}{items:Array uB}
def FunD.binds(F:FunD K x qual st f fd T items){ds:List uB} (h:∀(kV doc pm:uB)(an:Option Addr)(cdv ct:uB)(us:List uB),(us++ds).length=ps.length->
   bindArgs (gP x qual (qcl st) (qbz st) (qaa st) (.ref T) kV doc pm an cdv ct) ⟨us,[]⟩=pure (ps.zip (us++ds))\/
   ∃g:Option (Array uB)->Sem (List (Str×uB)),bindArgs (gP x qual (qcl st) (qbz st) (qaa st) (.ref T) kV doc pm an cdv ct) ⟨us,[]⟩=seqItems? (.ref T) >>= g/\g (some items)=pure (ps.zip (us++ds))):qat K fd ps ds:=by
 obtain⟨oc,od,kV,doc,pm,an,cdv,ct,osl,rfl,lk,hcd⟩:=F.ex;obtain⟨o,n,hT,hd⟩:=F.tup;intro s us KX hl;rcases h kV doc pm an cdv ct us hl with h|⟨g,h1,h2⟩
 .exact .of_eq h
 .exact BindsTo.of_defaults (T:=T) rfl (KX _ _ hT) hd h1 h2
end
section
variable{σ:L2.St}{H:Hp}{Q:VK}{ta:TE}{t:TA}{a C dx:Addr}{fs:List (Str×V)}{m:Str}{sp:Sp}{dvs:List V}{W:L2.St->XK}
def jvq(C:Addr)(m:Str)(sp:Sp)(dvs:List V)(W:L2.St->XK)(t:TA)(σ:L2.St)(Q:VK)(x:V)(H:Hp):Prop:=∃a dx fs,x=.ref a/\H a=some (.ins C dx fs)/\fs.lookup m=none/\t σ H fun vs H2=>sp (x ::(vs++dvs)) H2 Q (W σ)
def jub(h:ta σ H fun x H1=>jvq C m sp dvs W t σ Q x H1):jk7 C m sp dvs W ta t σ H Q:=h
def jq0(e:H a=some (.ins C dx fs))(l:fs.lookup m=none)(h:t σ H fun vs H2=>sp (.ref a ::(vs++dvs)) H2 Q (W σ)):jvq C m sp dvs W t σ Q (.ref a) H:=⟨a,dx,fs,rfl,e,l,h⟩
def jw4(C:Addr)(sp:Sp)(dvs:List V)(W:L2.St->XK)(σ:L2.St)(Q:VK)(vs:List V)(H:Hp):Prop:=∀x dx,H x=none->H dx=none->dx≠x->sp (.ref x ::(vs++dvs)) (upd (upd H dx (.own x)) x (.ins C dx [])) (fun v H2=>v=.non/\Q (.ref x) H2) (W σ)
def juc(h:t σ H fun vs H1=>jw4 C sp dvs W σ Q vs H1):jk8 C sp dvs W t σ H Q:=h
end
section
variable{prog:uI}{w:vA}{A:vI}{E:uB->uD->Prop}
theorem jq1{j l:Addr}{xs:List uB}(ne:l≠j):∀(todo:List uB)(i:Nat)(s:uD)(Q:List uB->uD->Prop),xs.drop i=todo->s.heap.IsListIter j l i->s.heap.IsList l xs.toArray->
  (∀h',h'.IsListIter j l (i+todo.length)->(∀b o,b≠j->s.heap.get? b=some o->h'.get? b=some o)->Q todo {s with heap:=h'})->uM (uP prog w) A (draw (.ref j) todo.length) Q E s
 | [],i,s,Q,_,st,_,q=>by
  show uM _ _ (pure []) _ _ _;exact uE (q s.heap st fun _ _ _ e=>e)
 |x::todo,i,s,Q,hd,st,hl,q=>by
  have hx:xs[i]?=some x:=by
   have z:=congrArg (fun l=>l[0]?) hd;simpa using z
  have hd2:xs.drop (i+1)=todo:=by
   have z:=congrArg (List.drop 1) hd;simpa[List.drop_drop] using z
  show uM _ _ (gD (.ref j) >>= _) _ _ _;refine uA (wpAny_pyNext_list_item st hl (x:=x) (by simpa using hx) fun h1 st1 sb=>?_);have kp:∀b o,b≠j->s.heap.get? b=some o->h1.get? b=some o:=fun b o hb e=>(sb.2 b hb).trans e;refine uA (vO (jq1 ne todo (i+1) _ _ hd2 st1 (hl.at fun o e=>kp _ o ne e) fun h2 st2 kp2=>uE ?_));refine q h2 ?_ fun b o hb e=>kp2 b o hb (kp b o hb e);rw[zI,show i+(todo.length+1)=i+1+todo.length by omega];exact st2
def jnb{s:uD}{env:Env}{elts:List vT}{x1}{pos:Pos}{l:Addr}{xs:List uB}{Q:Unit->uD->Prop}(calm:A.handled=none)(hl:s.heap.IsList l xs.toArray)(hn:(aA elts env).length=xs.length)(hst:(aA elts env).findIdx? (·.1)=none)
  (q:∀h',(∀b o,s.heap.get? b=some o->h'.get? b=some o)->uM (uP prog w) A (assignInOrder ((aA elts env).map (·.2)) xs) Q E {s with heap:=h'}):uM (uP prog w) A (iE (.Tuple elts x1 pos) env (.ref l)) Q E s:=by
 have ne:l≠↑s:=by obtain⟨o,ho,_⟩:=hl;exact vM (uV ho)
 rw[assign_Tuple];refine uA (aF ?_);unfold unpack;rw[hn,hst];refine uA (vO ?_);unfold unpackItems notIterableAtAll;refine uA (uA (wpAny_specialOf hl.typeIs F.slot_list_iter.lookup (uE ?_)));simp only[xA,if_false];have hl1:(s.heap.push {cls:=.type "list_iterator",data:=.fields #[.ref l,.int 0 0]}).IsList l xs.toArray:=hl.at fun o e=>uF _ e;refine uA (vO (cU hl (uA (vO (jq1 ne xs 0 _ _ (by simp) ⟨_,uX _ rfl,rfl,rfl⟩ hl1 fun h1 st1 kp=>?_)))));rw[iN (wO _)];refine uA (vO (wpAny_pyNext_list_end calm st1 (hl1.at fun o e=>kp _ o ne e) (by simp) fun h2 kp2=>?_));simp only[Option.isSome_none,xA,if_false];refine uE (q h2 fun b o e=>?_);have nb:b≠↑s:=vM (uV e);exact kp2 b o nb (kp b o nb (uF _ e))
end
section
variable{X:Cx}{pos:Pos}
noncomputable def jvr(K:uY)(n:Nat)(t:TGs):TG:=fun v σ H Q=>∃a xs,v=.ref a/\SqL K H a xs/\xs.length=n/\t xs σ H Q
def qg3{es:List vT}{k:Nat}{t:TGs}(hc:X.calm=true)(h:PGs X es t)(hn:autoParam ((aA es X.env).length=n) auR)(hst:autoParam ((aA es X.env).findIdx? (·.1)=none) auR):PG X (.Tuple es k pos) (jvr X.K n t):=by
 intro pins s σ H v u Q I r hw;obtain⟨a,xs,rfl,hq,hl,hw⟩:=hw
 cases r
 obtain⟨ws,rv,pl,_⟩:=I.list hq;refine jnb (I.ok.hd hc) (PlainL.isList pl) (by rw[hn,<-hl,rv.length]) hst fun h' kp=>?_;exact h pins _ σ H xs _ Q (I.kept (t':=s.toks) kp) rv hw
end
def jq2{σ:L2.St}{xs:List V}{t:TGs}{Q:L2.St->Hp->Prop}(s:SqL K H a xs)(hn:xs.length=n)(h:t xs σ H Q):jvr K n t (.ref a) σ H Q:=⟨a,xs,rfl,s,hn,h⟩
def kDs(p:Addr)(Q:VK)(x y:V)(H2:Hp):Prop:=H2 p=some (.dK [])/\∃kvs:List (Key×V),[(x,y)]=kvs.map (fun kv=>(kV kv.1,kv.2))/\kvs.length<=15/\Q (.ref p) (upd H2 p (.dK (qg6 [] kvs)))
def jnc{σ:L2.St}{Q:VK}{tk tv:TE}(h:∀p,H p=none->tk σ (upd H p (.dK [])) fun x H1=>tv σ H1 fun y H2=>kDs p Q x y H2):jpy [(tk,tv)] σ H Q:=fun p hp=>h p hp
def jw5{Q:VK}{p:Addr}{y:V}(e:H p=some (.dK []))(h:Q (.ref p) (upd H p (.dK [(vE z,y)]))):kDs p Q (.str z) y H:=⟨e,[(vE z,y)],rfl,Nat.le_of_ble_eq_true rfl,h⟩
section
variable{P:uI}{w:vA}{K:uY}{mg:Str->Option uB}{base:vS}{x qual:Str}{st:Stmt}{f T:Addr}{fd:uT}{N ps:List Str}{k:Nat}{sp:Sp}{items:Array uB}
def jvs(F:FunD K x qual st f fd T items)(S:jaa N ps (qaa st))(len:∀vs H Q E,sp vs H Q E->vs.length=ps.length)
  (hbody:∀(cdv:uB)(A:vI)(outer:List Env)(s:uD)(H:Hp)(vs:List V)(Q:VK)(E:XK),jar k (A.deeper (cK qual (qaa st) ↑s f cdv))->sp vs H Q E->
   ∃t,PSs (xw (cxOf (CX1 P w) P w K mg base N qual (qaa st) f cdv A outer s H E) (fun _=>E)) (qbz st) t/\t {nx:=fun _ H'=>Q .non H',rt:=Q} (qdr N vs) H):jab P w K mg base (CX1 P w) (k+1) f fd ps sp:=by
 obtain⟨oc,od,kV,doc,pm,an,cdv,ct,osl,rfl,lk,hcd⟩:=F.ex;refine jme lk hcd S len fun A outer s H vs Q E hr hsp=>?_;obtain⟨t,ht,q⟩:=hbody cdv A outer s H vs Q E hr hsp;exact⟨t,PSs.xes jkm ht,q⟩
def jgy{oc:uB}{od an:Option Addr}{osl:Array (Option uB)}{kV doc pm cdv ct:uB}{o:Obj}{n:Nat}(l:K.lookup f=some ⟨oc,od,.func (gP x qual (qcl st) (qbz st) (qaa st) (.ref T) kV doc pm an cdv ct),osl⟩)
  (c:fZ K cdv qual=true)(kp:dA K (.ref f)=true)(t:K.lookup T=some o)(hd:o.data=.seq items n):FunD K x qual st f (gP x qual (qcl st) (qbz st) (qaa st) (.ref T) kV doc pm an cdv ct) T items:=
 ⟨⟨oc,od,kV,doc,pm,an,cdv,ct,osl,rfl,l,c⟩,kp,o,n,t,hd⟩
end
noncomputable def oK(hs:List (Str×Addr)):List (Key×V):=hs.map fun p=>(vE p.1,.ref p.2)
noncomputable def qdc:List (Str×Addr)->Str->Option Addr
 | [],_=>none
 |p::r,z=>if p.1=z then some p.2 else qdc r z
theorem qf9(z:Str):∀hs:List (Str×Addr),qco (oK hs) (vE z)=(qdc hs z).map V.ref
 | []=>rfl
 |p::r=>by
  have ih:=qf9 z r;unfold qco oK at ih⊢;rw[zS,yK];by_cases h:p.1=z
  .have e:decide ((vE p.1:Key)=vE z)=true:=by rw[h];exact iP rfl
   simp only[e,qdc,iO h];rfl
  .have e:decide ((vE p.1:Key)=vE z)=false:=iQ fun q=>h (Sum.inr.inj q);simp only[e,qdc,iN h];exact ih
theorem qg7{z:Str}:∀{hs:List (Str×Addr)},qdc hs z=none↔z∉hs.map (·.1)
 | []=>by simp[qdc]
 |p::r=>by
  have ih:=qg7 (z:=z) (hs:=r);unfold qdc;by_cases q:p.1=z
  .rw[iO q];simp[q]
  .rw[iN q,ih];simp[xB q,fun e:z=p.1=>q e.symm]
theorem jd2{z:Str}{h:Addr}:∀{hs:List (Str×Addr)},(hs.map (·.1)).Nodup->(z,h)∈hs->qdc hs z=some h
 |p::r,nd,m=>by
  rw[zS,zU] at nd;unfold qdc;rcases zP.mp m with e|e
  .rw[<-e,iO rfl]
  .have q:p.1≠z:=fun q=>nd.1 (by rw[q];exact zM.mpr ⟨(z,h),e,rfl⟩);rw[iN q];exact jd2 nd.2 e
def jnd{hs:List (Str×Addr)}{h:Addr}(n:qdc hs z=none):qcs (oK hs) (vE z) (.ref h)=oK (hs++[(z,h)]):=by
 have hn:=qg7.mp n;have e:((oK hs).any fun kv=>decide (kv.1=vE z))=false:=by
  rw[List.any_eq_false];intro kv hkv;obtain⟨p,hp,rfl⟩:=zM.mp hkv;intro q;have q':=Sum.inr.inj (of_decide_eq_true q);exact hn (zM.mpr ⟨p,hp,q'⟩)
 unfold qcs;rw[iN (by rw[e];decide)];unfold oK;rw[zE];rfl
def jne(hs:List (Str×Addr)):(oK hs).map (·.1)=(hs.map (·.1)).map vE:=by unfold oK;rw[yS,yS];rfl
section
variable{H:Hp}{Q:VK}{a h:Addr}{hs:List (Str×Addr)}{z:Str}
def jud(d:Rd H a (.dK (oK hs)))(q:Q (.bl (qdc hs z).isSome) H):rDI (.ref a) (.str z) H Q:=by
 refine⟨a,qco (oK hs) (vE z),rfl,.inl ⟨_,vE z,d,rfl,rfl⟩,?_⟩;rw[qf9,cW];exact q
def jjr(d:Rd H a (.dK (oK hs)))(e:qdc hs z=some h)(q:Q (.ref h) H):jsh (.ref a) (.str z) H Q:=
 ⟨a,.ref h,rfl,.inl ⟨_,vE z,d,rfl,by rw[qf9,e];rfl⟩,q⟩
end
end My
set_option exponentiation.threshold 2000
namespace My
open PySem PySem.Spec PyProof.Rows L2
end My
set_option maxHeartbeats 3200000
namespace My
open PySem PySem.Spec PyProof.Rows L2
section
variable{P:uI}{w:vA}{A:vI}
def jq3(z:Str)(t:Tok):(strKind P w).is z (.str z t)=true:=by
 show fT z (.str z t)=true;simp[fT]
def jgz{zs:List Str}{i:Nat}{z:Str}(nd:zs.Nodup)(h:zs[i]?=some z):(zs.take i).contains z=false:=by
 rw[<-Bool.not_eq_true,cB];intro m;obtain⟨j,hj,e⟩:=zR.mp m;obtain⟨hi,e2⟩:=uH.mp h;rw[yN] at hj;rw[List.getElem_take] at e;exact(zQ.mp nd) j i ↑∅ hi ↑∅ (by rw[e,e2])
def jg0{zs:List Str}{i:Nat}{z:Str}(h:zs[i]?=some z)(y:Str):((zs.take i).contains y || decide (y=z))=(zs.take (i+1)).contains y:=by
 rw[yB,h,xS,Bool.or_eq_true,cB,cB,zT,decide_eq_true_iff];simp
def jg1{R:iH->uD->Prop}{it c:Addr}{fp wr:List Addr}{G:Array gS->Array gS->Prop}{zs:List Str}{pv:Nat->uB->Prop}{St:Nat->uD->Prop}
  (W:WalksS P w A.in1 it fp wr G zs.length pv St)(hc:c∉fp)(nd:zs.Nodup)(hv:∀i v,pv i v->∃z t,zs[i]?=some z/\v=.str z t)(hb:zs.length+1<iL):
  ∀(k i:Nat)(s:uD),zs.length-i=k->i<=zs.length->St i s->s.heap.SetOf (strKind P w) c (fun y=>(zs.take i).contains y) i->
   (∀s',Moved (c::wr) G s s'->s'.heap.SetOf (strKind P w) c (fun y=>(zs.take zs.length).contains y) zs.length->R (.ok (.ret .none)) s')->
   aT (uP P w) A (.builtin "set.update.loop" ⟨[.ref c,.ref it],[]⟩) R s:=by
 have cw:c∉wr:=fun h=>hc (W.sub _ h);have stays:∀{n:Nat} {S:Str->Bool} {s s':uD},Moved wr G s s'->s.heap.SetOf (strKind P w) c S n->s'.heap.SetOf (strKind P w) c S n:=fun hm hS=>by
  obtain⟨o,es,ep,t,ho,rest⟩:=hS;exact⟨o,es,ep,t,hm.heap c _ cw ho,rest⟩
 intro k
 induction k with
 |zero=>
  intro i s hk hi st hS hR;have e:i=zs.length:=by omega
  subst e;refine aD fQ ?_;rw[xW bC];show uM _ _ (gD (.ref it) >>= _) _ _ _;refine uA (W.done s _ _ st fun s1 hm=>?_);exact uE (hR s1 (hm.mono fun b h=>zF _ h) (stays hm hS))
 |succ k ih=>
  intro i s hk hi st hS hR;have lt:i<zs.length:=by omega
  refine aD fQ ?_;rw[xW bC];show uM _ _ (gD (.ref it) >>= _) _ _ _;refine uA (W.item i s _ _ lt st fun v s1 hp st1 hm=>?_);obtain⟨z,t,hz,rfl⟩:=hv i v hp;have S1:=stays hm hS;show uM _ _ (fJ [fG z t] (setAdd c (.str z t)) >>= _) _ _ _;refine uA (vO ?_);unfold setAdd;refine vO (uA ((strKind P w).pyHash (k:=z) (jq3 z t) ?_));refine wpAny_setAddHashed_of (knd:=strKind P w) (s:={s1 with toks:=s1.toks+1}) (jq3 z t) rfl S1 ↑∅ fun h2 sb S2=>?_;have S3:h2.SetOf (strKind P w) c (fun y=>(zs.take (i+1)).contains y) (i+1):=SetOf_congr S2 (jg0 hz) (by simp only[jgz nd hz];rfl);refine uE ⟨dG bC _,ih (i+1) _ ↑∅ lt (W.frame _ s1 _ _ st1 (aP _) fun b h o e=>?_) S3 fun s4 hm4 S4=>?_⟩
  .rw[sb.2 b fun q=>hc (q▸h)];exact e
  .refine hR s4 (Moved.trans W.gtrans ((hm.mono fun b h=>zF _ h).then_heap (aP _) fun b o h e=>?_) hm4) S4;rw[sb.2 b fun q=>h (q▸zG)];exact e
abbrev jk9(led:Bool):Obj:={cls:=.type "set",dict:=none,data:=.set #[] 0 (.fresh 0 0 led)}
def jg2{E:uB->uD->Prop}{s:uD}{l:Addr}{items:Array uB}{zs:List Str}{Q:uB->uD->Prop}(hh:A.handled=none)(hl:s.heap.IsList l items)(hi:fL items.toList zs)(nd:zs.Nodup)(hb:zs.length+1<iL)
  (h:∀(h':vS)(tk:Nat),h'.SetOf (strKind P w) ↑s (fun y=>(zs.take zs.length).contains y) zs.length->(∀b o,b<↑s->s.heap.get? b=some o->h'.get? b=some o)->Q (.ref ↑s) {s with heap:=h',toks:=tk}):
  uM (uP P w) A (call (.type "set") [.ref l]) Q E s:=by
 obtain⟨c,tl,hmro⟩:=PySem.F.called_set.mro;have hmade:=PySem.F.called_set.made;have hsub:=PySem.F.called_set.sub;refine xH (codeAny_of_tree ?_);show uM _ _ (callAny (.type "set") _) _ _ _;refine uE ⟨gL _ (by decide+kernel),aD PySem.F.entry_type_call ?_⟩;rw[Around.under_plain (weight_type_call_type "set" [.ref l] []) rfl];have h1:=PySem.F.called_set.notType;have h2:=PySem.F.called_set.canCreate;have hct:=PySem.F.typeCall_set_1 (.ref l)
 repeat any_goals first|assumption|wp_step
 refine xU (code_set_new_1 (.ref l) (E:=E) (Q₁:=fun x s1=>∃led:Bool,x=.ref ↑s/\s1={s with heap:=s.heap.push (jk9 led)}) fun led=>⟨led,rfl,rfl⟩) fun r s1 hr=>?_
 cases r with
 |error e=>exact hr
 |ok fl=>
  cases fl with
  |ret obj=>
   obtain⟨led,rfl,rfl⟩:=hr;have hS:(s.heap.push (jk9 led)).get? ↑s=some (jk9 led):=uX _ rfl;have hT:Shared.TypeIs {s with heap:=s.heap.push (jk9 led)} (.ref ↑s) "set":=⟨_,hS,rfl⟩;have hli:=PySem.F.called_set.init.lookup;have hbi:=PySem.F.called_set.init.bind (.ref ↑s)
   repeat any_goals first|assumption|wp_step
   refine xU (xV (R:=wants (fun x s2=>x=.none/\∃h' tk,s2={s with heap:=h',toks:=tk}/\h'.SetOf (strKind P w) ↑s (fun y=>(zs.take zs.length).contains y) zs.length/\(∀b o,b<↑s->s.heap.get? b=some o->h'.get? b=some o)) E) PySem.F.called_set.init.plain PySem.F.entry_set_init (check_set_init_1 hT ?_)) fun r2 s2 hr2=>?_
   .obtain⟨ol,hol,hcl,nl,hdl⟩:=hl;obtain⟨ocls,odict,odata,oslots⟩:=ol;dsimp only at hcl hdl;subst hcl hdl;have hol':=uF (jk9 led) hol;have q1:=PySem.F.sub_list_set;have q2:=PySem.F.sub_list_frozenset;have q3:(dP "list"==dP "dict")=false:=∅
    have hl1:(s.heap.push (jk9 led)).IsList l items:=⟨_,hol',rfl,nl,rfl⟩;unfold xY.«set.__init__» noKeywords Builtin.Frozenset.updateFrom;generalize hPI:pyIter=PI
    wp_walk
    subst hPI;refine cU hl1 (uA (wpAny_runValue ?_));have lS:l<↑s:=uV hol;have h3:A.in1.in1.in1.handled=none:=by simp[hh]
    have nI:l≠(s.heap.push (jk9 led)).objs.size:=by
     rw[bR];exact vM (Nat.lt_succ_of_lt lS)
    have nS:↑s∉ [(s.heap.push (jk9 led)).objs.size,l]:=by
     rw[bR];intro z;simp only[zP,yO,or_false] at z;rcases z with z|z
     .exact absurd z (vM (cD _))
     .rw[z] at lS;exact wO _ lS
    have ez:items.size=zs.length:=by
     have:=hi.length;simpa using this
    have W:WalksS P w A.in1.in1.in1 _ _ _ _ items.size _ _:=(Walks.list h3 _ l nI items).toS;rw[ez] at W;refine jg1 (zs:=zs) W nS nd (fun i v hv=>?_) hb (zs.length-0) 0 _ ↑∅ (wV _) ⟨⟨_,uX _ rfl,rfl,rfl⟩,hl1.push _⟩ ?_ ?_
    .obtain⟨y,t,e1,e2⟩:=hi.item i v (by rw[xR];exact hv);exact⟨y,t,e2,e1⟩
    .have hget:=uF {cls:=.type "list_iterator",data:=.fields #[.ref l,.int 0 0]} hS;exact SetOf_congr ((setObjOf_fresh (knd:=strKind P w) led).setOf hget (by unfold iL;omega)) (fun _=>rfl) rfl
    .intro s4 hm hS4;obtain⟨h4,g4,d4,tk4,os4⟩:=s4;have eg:g4=s.gens:=hm.gens;have ed:d4=s.drawn:=hm.drawn;have eo:os4=s.os:=hm.os;subst eg ed eo;refine uE ?_;refine uE ⟨rfl,h4,tk4,rfl,hS4,fun b o hb' e=>?_⟩;refine hm.heap b o (fun z=>?_) (uF _ (uF _ e));rw[bR] at z;simp only[zP,yO,or_false] at z;rcases z with z|z
     .rw[z] at hb';exact wO _ hb'
     .rw[z] at hb';exact wO _ (Nat.lt_trans (cD _) hb')
   .cases r2 with
    |error e=>exact hr2
    |ok fl2=>
     cases fl2 with
     |ret r=>
      obtain⟨rfl,h',tk,rfl,hS',hk'⟩:=hr2
      repeat any_goals first|assumption|wp_step
      exact h _ _ hS' hk'
     |next=>exact hr2.elim
     |brk=>exact hr2.elim
     |cont=>exact hr2.elim
  |next=>exact hr.elim
  |brk=>exact hr.elim
  |cont=>exact hr.elim
end
noncomputable def jq4(P:uI)(w:vA)(c:Addr)(n:Nat):HO:=.ext fun h=>∃S,h.SetOf (strKind P w) c S n
noncomputable def jq5(P:uI)(w:vA)(K:uY):List V->Hp->VK->Prop:=fun xs H Q=>∃(p:Addr)(zs:List Str),xs=[.ref p]/\SqL K H p (zs.map V.str)/\zs.Nodup/\zs.length<=60/\∀c,H c=none->Q (.ref c) (upd H c (jq4 P w c zs.length))
noncomputable def jq6(P:uI)(w:vA):List V->Hp->VK->Prop:=fun xs H Q=>∃c n,xs=[.ref c]/\H c=some (jq4 P w c n)/\Q (.int n) H
section
variable{X:Cx}
def jg3(hc:autoParam (X.calm=true) auR):qcc X (.type "set") (jq5 X.prog X.w X.K):=by
 intro pins s σ H xs us Q I hv h;obtain⟨p,zs,rfl,hS,nd,hz,q⟩:=h;obtain⟨u,rfl,ru⟩:=hv.one
 cases ru
 obtain⟨its,rv,pl,hz'⟩:=I.list hS;refine jg2 (I.ok.hd hc) (PlainL.isList pl) (zs:=zs) (by simpa using qgm rv) nd (by unfold iL;omega) fun h' tk hT hk=>?_;have hg:=hT;obtain⟨o,es,ep,t,ho,_⟩:=hg;exact⟨.ref _,_,I.laid (a:=↑s) (o:=jq4 X.prog X.w ↑s zs.length) (t':=tk) (fun b ob e=>hk b ob (uV e) e) (uG _) ⟨⟨_,hT⟩,⟨o,ho⟩,fun h1 h2 ⟨S,o1,r1,r2,r3,e1,rest⟩ k=>⟨S,o1,r1,r2,r3,k _ e1,rest⟩⟩,rfl,q _ (I.hok.fresh (uG _))⟩
def jg4:qcc X (.builtin "len") (jq6 X.prog X.w):=by
 intro pins s σ H xs us Q I hv h;obtain⟨c,n,rfl,e,q⟩:=h;obtain⟨u,rfl,ru⟩:=hv.one
 cases ru
 obtain⟨⟨S,o,es,ep,t,ho,hx,hd,_,_,hb,hf,rfl⟩,_⟩:=I.hok c _ e;refine call_len_set ho hx hd hf (by unfold iL at hb;omega) ⟨.int es.size,H,I.tok _,⟨_,rfl⟩,q⟩
end
section
variable{P:uI}{w:vA}{K:uY}{H:Hp}{Q:VK}
def jq7{p:Addr}{zs:List Str}(hS:SqL K H p (zs.map V.str))(nd:zs.Nodup)(hz:zs.length<=60)(h:∀c,H c=none->Q (.ref c) (upd H c (jq4 P w c zs.length))):jq5 P w K [.ref p] H Q:=⟨p,zs,rfl,hS,nd,hz,h⟩
def jnf{c:Addr}{n:Nat}(e:H c=some (jq4 P w c n))(h:Q (.int n) H):jq6 P w [.ref c] H Q:=⟨c,n,rfl,e,h⟩
end
noncomputable def jq8:List V->Hp->VK->Prop:=fun xs H Q=>∃a kvs,xs=[V.ref a]/\H a=some (.dK kvs)/\Q (.int kvs.length) H
def qgg{X:Cx}:qcc X (.builtin "len") jq8:=L2.call_lenD
def jg5{H:Hp}{Q:VK}{a:Addr}{kvs:List (Key×V)}(e:H a=some (.dK kvs))(h:Q (.int kvs.length) H):jq8 [.ref a] H Q:=⟨a,kvs,rfl,e,h⟩
end My
set_option maxHeartbeats 1000000
namespace My
open PySem PySem.Spec PyProof.Rows L2
variable{R:It->Hp->Prop}
def jjs:entryFor table "dict_itemiterator.__iter__"=some xY.«dict_keyiterator.__iter__»:=entryFor_alias (id':="dict_keyiterator.__iter__") (by kernel_rfl) rfl (by decide+kernel) (by kernel_rfl)
noncomputable def ItI(a:Addr)(o:Obj)(kvs:List (Key×V)):It:=
 ⟨fun i H=>H a=some (.frz o (.dK kvs))/\i<kvs.length,fun i H v H'=>∃T k x,H T=none/\kvs[i]?=some (k,x)/\v=.ref T/\H'=upd H T (.tup [kV k,x]),fun i H=>H a=some (.frz o (.dK kvs))/\kvs.length<=i⟩
def ISt(it d:Addr)(n ep i:Nat)(h:vS):Prop:=∃ok ov,IsItemIter h it d i n ep ok ov
def jez{P:uI}{w:vA}{K:uY}{elts:List vT}{kk:Nat}{tp:Pos}{o:Obj}{kvs:List (Key×V)}{es:Array xL}{ep:Nat}(d it:Addr)(hd:o.data=.dict es ep):
  jke P w K (.Tuple elts kk tp) (ItI d o kvs) [it] it (ISt it d kvs.length ep) where
 mem:=by simp
 obj:=fun i h st b hb=>by
  have e:b=it:=by simpa using hb
  subst e;obtain⟨ok,ov,e⟩:=st;exact⟨_,e,fun v q=>by have q':Data.fields _=Data.cell v:=q;cases q'⟩
 keep:=fun i h h' ⟨ok,ov,e⟩ k=>⟨ok,ov,k it (by simp) _ e⟩
 item:=by
  intro X hP hw hK hc i pins s σ H E I hf st hg;subst hP hw hK;obtain⟨hfz,hi⟩:=hg;obtain⟨ok,ov,st⟩:=st;obtain⟨vs,rel,dat⟩:=qgc I.hok hfz hd;have hfi:=hf it (by simp);have hl:=rel.length;obtain⟨u,hu,ru⟩:=kvget rel (i:=i) (k:=kvs[i].1) (v:=kvs[i].2) (by rw[zA hi]);rw[hl] at st;refine wpAny_pyNext_items_item st dat hu fun key h' hkey out tup hsz keep=>?_;have hn:H ↑s=none:=I.hok.fresh (uG _);have hg0:s.heap.get? ↑s=none:=cG (uG _);have nit:it≠↑s:=vM (uV st);have I1:Inv X pins σ (upd H ↑s (.tup [kV kvs[i].1,kvs[i].2])) {s with heap:=h'}:=Inv.turnedT (t':=s.toks) (ch:=[it]) I (fun b hb=>(zK.mp hb)▸hfi) (fun b o hb e=>keep b o (fun q=>hb (by simp[q])) e) hg0 hn
   ⟨by show 2<=16777216;decide,[key,u],.cons (jgn hkey) (.cons ru .nil),⟨_,tup,rfl,_,rfl⟩⟩
  refine⟨.ref ↑s,rfl,wpAny_letOwnedTupleGo_items (s:={s with heap:=h'}) out fun h2 c1 sb=>?_⟩;have I2:Inv X pins σ (upd H ↑s (.tup [kV kvs[i].1,kvs[i].2])) {s with heap:=h2}:=I1.turned (t':=s.toks) (fun b o hb e=>(sb.2 b hb).trans e) (by rw[qa9 nit];exact hfi.1) hfi.2.1 hfi.2.2.2.1 hfi.2.2.2.2.1 hfi.2.2.2.2.2;refine⟨.ref ↑s,_,I2,rfl,⟨↑s,kvs[i].1,kvs[i].2,hn,zA hi,rfl,rfl⟩,⟨key,u,by rw[hl];exact c1⟩,fun b hb=>?_⟩;have e:b=it:=by simpa using hb
  subst e;rw[qa9 nit];exact hfi.1
 done:=by
  intro X hP hw hK hc i pins s σ H E I hf st hg;subst hP hw hK;obtain⟨hfz,hi⟩:=hg;obtain⟨ok,ov,st⟩:=st;obtain⟨vs,rel,dat⟩:=qgc I.hok hfz hd;obtain⟨f0,f1,f2,f3,f4,f5⟩:=hf it (by simp);have hl:=rel.length;rw[hl] at st hi;exact wpAny_pyNext_items_end (I.ok.hd hc) st dat (by simpa using hi) fun h' eb=>⟨rfl,I.turned (t':=s.toks) (fun b ob hb e=>eb b ob hb e) f0 f1 f3 f4 f5⟩
 self:=by
  rintro A i s Q E ⟨ok,ov,st⟩ h;have ty:s.TypeIs (.ref it) "dict_itemiterator":=⟨_,st,rfl⟩;refine wpAny_pyIter_slot ty fY (wT fY ty jjs ?_ (PySem.F.args_dict_itemiterator_iter_1 _));exact uE ⟨_,rfl,_,_,ty,PySem.F.slot_dict_itemiterator_next.lookup,h⟩
noncomputable def je0(v d:Addr):HO:=.ext fun h=>h.IsItemsView v d
noncomputable def jla:V->List V->Hp->VK->Prop:=fun x xs H Q=>∃p kvs,x=.ref p/\xs=[]/\Rd H p (.dK kvs)/\∀v,H v=none->Q (.ref v) (upd H v (je0 v p))
section
variable{X:Cx}
def jd3:MtR X "dict.items" jla:=by
 intro pins s σ H x xs v us Q I rx rv h;obtain⟨p,kvs,rfl,rfl,e,q⟩:=h
 cases rx
 have hus:=rv.zero;subst hus;obtain⟨z,hd,vs,rel,dd⟩:=qf2 I.hok e;refine hU dM dd.typeIs PySem.F.entry_dict_items (PySem.F.args_dict_items_1 _) (meets_dict_items (qb2 X.prog X.w) p hd) ⟨⟨vs,dd⟩,?_⟩;exact⟨.ref _,_,I.laid (a:=↑s) (o:=je0 ↑s p) (t':=s.toks) (fun b ob e=>uF _ e) (uG _) ⟨⟨_,uX _ rfl,rfl,rfl⟩,⟨_,uX _ rfl⟩,fun h1 h2 ⟨o,e1,r⟩ k=>⟨o,k _ e1,r⟩⟩,rfl,q _ (I.hok.fresh (uG _))⟩
def jue(x:V)(H:Hp)(R:It->Hp->Prop):Prop:=∃v a kvs,x=.ref v/\H v=some (je0 v a)/\H a=some (.dK kvs)/\∀o,R (ItI a o kvs) (upd H a (.frz o (.dK kvs)))
noncomputable def jlb(td:TE):TI:=fun σ H R=>td σ H fun x H1=>jue x H1 R
def jd4{elts:List vT}{kk:Nat}{tp:Pos}{l:vT}{tl:TE}(hl:PE X l tl):PI X (.Tuple elts kk tp) l (jlb tl):=by
 intro pins s σ H R I h;refine thn (hl pins s σ H _ I h) fun v s1 h9=>?_;obtain⟨x,H1,I1,r1,q1⟩:=h9;obtain⟨v,a,kvs,e,hv,ha,q⟩:=q1;subst e
 cases r1
 obtain⟨o,es,ep,vs,ho,hd,rel,dat,hs⟩:=qgd (I1.hok a _ ha);have hlen:=rel.length;obtain⟨hv1,_⟩:=I1.hok v _ hv;refine wpAny_pyIter_items hv1 dat ?_;have I2:=Inv.freeze I1 ha ho;refine⟨↑s1,[↑s1],_,_,_,rfl,I2.kept (t':=s1.toks) fun b ob e=>uF _ e,jez (kvs:=kvs) a _ hd,⟨.none,.none,by rw[hlen];exact uX _ rfl⟩,fun b hb=>?_,q o⟩;have e:b=↑s1:=by simpa using hb
 subst e;exact I2.fpOk (uG _) (I2.hok.fresh (uG _))
end
section
variable{σ:L2.St}{H:Hp}{D:jam}{g:TG}{tb:TS}{tl:TE}{a:Addr}{o:Obj}{kvs:List (Key×V)}{Q:VK}
def jvt(h:tl σ H fun x H1=>jue x H1 R):jlb tl σ H R:=h
def jq9{v:Addr}(hv:H v=some (je0 v a))(e:H a=some (.dK kvs))(h:∀o,R (ItI a o kvs) (upd H a (.frz o (.dK kvs)))):jue (.ref v) H R:=⟨v,a,kvs,rfl,hv,e,h⟩
def jg6{p:Addr}(e:Rd H p (.dK kvs))(h:∀v,H v=none->Q (.ref v) (upd H v (je0 v p))):jla (.ref p) [] H Q:=⟨p,kvs,rfl,rfl,e,h⟩
def jg7(Pv:Nat->L2.St->Hp->Prop)(h0:Pv 0 σ H)(hl:∀i σ H,i<=kvs.length->Pv i σ H->H a=some (.frz o (.dK kvs)))
  (hs:∀i k v T σ H,kvs[i]?=some (k,v)->Pv i σ H->H T=none->g (.ref T) σ (upd H T (.tup [kV k,v])) fun σ2 H2=>tb {nx:=Pv (i+1),rt:=D.rt,bk:=D.nx,ct:=Pv (i+1)} σ2 H2)(hd:∀σ H,Pv kvs.length σ H->D.nx σ H):FOR (ItI a o kvs) g tb D σ H:=by
 refine⟨fun i m σ H=>m=kvs.length-i/\i<=kvs.length/\Pv i σ H,⟨kvs.length,rfl,wV _,h0⟩,?_⟩;rintro i m σ H ⟨rfl,hi,p⟩;have q:=hl i σ H hi p;by_cases hlt:i<kvs.length
 .refine .inr ⟨⟨q,hlt⟩,Pv (i+1),fun σ' H' p'=>⟨kvs.length-(i+1),↑∅,rfl,hlt,p'⟩,fun x H' y=>?_⟩;obtain⟨T,k,v,hT,hk,rfl,rfl⟩:=y;exact hs i k v T σ H hk p hT
 .have e:i=kvs.length:=cL hi (aU hlt);subst e;exact .inl ⟨⟨q,uG _⟩,hd σ H p⟩
end
noncomputable def jra:R2:=fun x y H Q=>∃(c:Nat)(n:Int),x=.str ⟨#[c]⟩/\y=.int n/\1<=n/\n<=100/\Q (.str ⟨(wH n.toNat c).toArray⟩) H
def juf(c:Nat){n:Int}(h:1<=n):Txt.mul ⟨#[c]⟩ n=⟨(wH n.toNat c).toArray⟩:=by
 have key:∀(m:Nat)(a:Array Nat),(wH m #[c]).foldl (·++·) a=a++(wH m c).toArray:=by
  intro m
  induction m with
  |zero=>intro a;simp
  |succ m ih=>
   intro a;rw[List.replicate_succ,List.foldl_cons,ih,List.replicate_succ];apply Array.ext';simp
 unfold Txt.mul;rw[iN ↑∅];by_cases z:((n==1 ||(⟨#[c]⟩:Str).length==0)=true)
 .rw[iO z];have e:n=1:=by
   rw[Bool.or_eq_true] at z;rcases z with z|z
   .simpa using z
   .cases z
  subst e;rfl
 .rw[iN z,key];simp
section
variable{X:Cx}
def jng:OpR X (bD .Mult) jra:=by
 intro pins s σ H x y v u Q I rx ry h;obtain⟨c,n,rfl,rfl,h0,h1,q⟩:=h;obtain⟨t,rfl⟩:=rx;obtain⟨k,rfl⟩:=ry;refine SB.mul ?_ fun t' k=>⟨.str ⟨(wH n.toNat c).toArray⟩,H,I.tok _,⟨t',by rw[juf c h0]⟩,q⟩;refine⟨by rw[iQ ↑∅,iQ ↑∅];rfl,fun _ _=>?_,fun _ _=>?_⟩
 .have z:(1:Int)<=(2^63-1)/n:=Int.le_ediv_of_mul_le ↑∅ ↑∅;show ¬((1:Int) >(2^63-1)/n);omega
 .refine iQ (p:=(1*n.toNat > sizeLine)) ?_;rw[xD];omega
end
def jrb{H:Hp}{Q:VK}{c:Nat}{n:Int}(h0:1<=n)(h1:n<=100)(h:Q (.str ⟨(wH n.toNat c).toArray⟩) H):jra (.str ⟨#[c]⟩) (.int n) H Q:=⟨c,n,rfl,rfl,h0,h1,h⟩
noncomputable def ItV(a:Addr)(o:Obj)(kvs:List (Key×V)):It:=
 ⟨fun i H=>H a=some (.frz o (.dK kvs))/\i<kvs.length,fun i H v H'=>H'=H/\∃k,kvs[i]?=some (k,v),fun i H=>H a=some (.frz o (.dK kvs))/\kvs.length<=i⟩
def jg8{P:uI}{w:vA}{K:uY}{tg:vT}{o:Obj}{kvs:List (Key×V)}{es:Array xL}{ep:Nat}(d it:Addr)(hd:o.data=.dict es ep):jke P w K tg (ItV d o kvs) [it] it (fun i h=>h.IsValIter it d i kvs.length ep) where
 mem:=by simp
 obj:=fun i h st b hb=>by
  have e:b=it:=by simpa using hb
  subst e;obtain⟨ob,e,c,dd⟩:=st;exact⟨ob,e,fun v z=>by rw[dd] at z;cases z⟩
 keep:=fun i h h' st k=>st.at fun ob e=>k it (by simp) ob e
 item:=by
  intro X hP hw hK hc i pins s σ H E I hf st hg;subst hP hw hK;obtain⟨hfz,hi⟩:=hg;obtain⟨vs,rel,dat⟩:=qgc I.hok hfz hd;obtain⟨f0,f1,f2,f3,f4,f5⟩:=hf it (by simp);have hl:=rel.length;obtain⟨u,hu,ru⟩:=kvget rel (i:=i) (k:=kvs[i].1) (v:=kvs[i].2) (by rw[zA hi]);rw[hl] at st;refine wpAny_pyNext_values_item st dat hu fun h' st' hs'=>?_;have I1:Inv X pins σ H {s with heap:=h'}:=I.turned (t':=s.toks) (fun b ob hb e=>hs'.extBut b ob hb e) f0 f1 f3 f4 f5;obtain⟨ob,e,c,dd⟩:=id st';exact⟨u,rfl,jfb (s:={s with heap:=h'}) e c dd ∅ ⟨kvs[i].2,H,I1,ru,⟨rfl,kvs[i].1,zA hi⟩,by rw[hl];exact st',fun b hb=>(hf b hb).1⟩⟩
 done:=by
  intro X hP hw hK hc i pins s σ H E I hf st hg;subst hP hw hK;obtain⟨hfz,hi⟩:=hg;obtain⟨vs,rel,dat⟩:=qgc I.hok hfz hd;obtain⟨f0,f1,f2,f3,f4,f5⟩:=hf it (by simp);have hl:=rel.length;rw[hl] at st hi;exact wpAny_pyNext_values_end (I.ok.hd hc) st dat (by simpa using hi) fun h' eb=>⟨rfl,I.turned (t':=s.toks) (fun b ob hb e=>eb b ob hb e) f0 f1 f3 f4 f5⟩
 self:=fun _ _ _ _ _ st h=>wpAny_pyIter_valiter st h
noncomputable def je6(v d:Addr):HO:=.ext fun h=>h.IsValuesView v d
noncomputable def jrc:V->List V->Hp->VK->Prop:=fun x xs H Q=>∃p kvs,x=.ref p/\xs=[]/\Rd H p (.dK kvs)/\∀v,H v=none->Q (.ref v) (upd H v (je6 v p))
section
variable{X:Cx}
def jg9:MtR X "dict.values" jrc:=by
 intro pins s σ H x xs v us Q I rx rv h;obtain⟨p,kvs,rfl,rfl,e,q⟩:=h
 cases rx
 have hus:=rv.zero;subst hus;obtain⟨z,hd,vs,rel,dd⟩:=qf2 I.hok e;refine hU dH dd.typeIs PySem.F.entry_dict_values (PySem.F.args_dict_values_1 _) (meets_dict_values (qb2 X.prog X.w) p hd) ⟨⟨vs,dd⟩,?_⟩;exact⟨.ref _,_,I.laid (a:=↑s) (o:=je6 ↑s p) (t':=s.toks) (fun b ob e=>uF _ e) (uG _) ⟨⟨_,uX _ rfl,rfl,rfl⟩,⟨_,uX _ rfl⟩,fun h1 h2 ⟨o,e1,r⟩ k=>⟨o,k _ e1,r⟩⟩,rfl,q _ (I.hok.fresh (uG _))⟩
def jnh(x:V)(H:Hp)(R:It->Hp->Prop):Prop:=∃v a kvs,x=.ref v/\H v=some (je6 v a)/\H a=some (.dK kvs)/\∀o,R (ItV a o kvs) (upd H a (.frz o (.dK kvs)))
noncomputable def jrd(td:TE):TI:=fun σ H R=>td σ H fun x H1=>jnh x H1 R
def jha{tg l:vT}{tl:TE}(hl:PE X l tl):PI X tg l (jrd tl):=by
 intro pins s σ H R I h;refine thn (hl pins s σ H _ I h) fun v s1 h9=>?_;obtain⟨x,H1,I1,r1,q1⟩:=h9;obtain⟨v,a,kvs,e,hv,ha,q⟩:=q1;subst e
 cases r1
 obtain⟨o,es,ep,vs,ho,hd,rel,dat,hs⟩:=qgd (I1.hok a _ ha);have hlen:=rel.length;obtain⟨hv1,_⟩:=I1.hok v _ hv;refine wpAny_pyIter_values hv1 dat ?_;have I2:=Inv.freeze I1 ha ho;refine⟨↑s1,[↑s1],_,_,_,rfl,I2.kept (t':=s1.toks) fun b ob e=>uF _ e,jg8 (kvs:=kvs) a _ hd,by rw[hlen];exact⟨_,uX _ rfl,rfl,rfl⟩,fun b hb=>?_,q o⟩;have e:b=↑s1:=by simpa using hb
 subst e;exact I2.fpOk (uG _) (I2.hok.fresh (uG _))
end
section
variable{σ:L2.St}{H:Hp}{tl:TE}{a:Addr}{kvs:List (Key×V)}{Q:VK}
def jni(h:tl σ H fun x H1=>jnh x H1 R):jrd tl σ H R:=h
def jhb{v:Addr}(hv:H v=some (je6 v a))(e:H a=some (.dK kvs))(h:∀o,R (ItV a o kvs) (upd H a (.frz o (.dK kvs)))):jnh (.ref v) H R:=⟨v,a,kvs,rfl,hv,e,h⟩
def jhc{p:Addr}(e:Rd H p (.dK kvs))(h:∀v,H v=none->Q (.ref v) (upd H v (je6 v p))):jrc (.ref p) [] H Q:=⟨p,kvs,rfl,rfl,e,h⟩
end
end My
namespace My
open PySem PySem.Spec PyProof.Rows L2 PyProof
end My
namespace My
open PySem PySem.Spec PyProof.Rows L2
section
inductive jop(K:uY)(H:Hp):V->Prop
 |non:jop K H .non
 |bl(b:Bool):jop K H (.bl b)
 |int(i:Int):jop K H (.int i)
 |lst{a:Addr}{xs:List V}(h:SqL K H a xs):jop K H (.ref a)
 |tup{a:Addr}{xs:List V}(h:SqT K H a xs):jop K H (.ref a)
 |dct{a:Addr}{kvs:List (Key×V)}(h:H a=some (.dK kvs)):jop K H (.ref a)
end
section
variable{K:uY}{H:Hp}{Q:VK}
theorem qh7{y:Str}:∀nm:List Str,inV (.str y) (nm.map V.str)=decide (y∈nm)
 | []=>rfl
 |z::r=>by
  have ih:=qh7 (y:=y) r;unfold inV at ih⊢;rw[zS,yU,ih];by_cases c:z=y
  .subst c;rw[show eqV (V.str z) (V.str z)=true from beq_self_eq_true z,iP (zG ..)];rfl
  .rw[show eqV (V.str z) (V.str y)=false from beq_false_of_ne c,Bool.false_or];by_cases m:y∈r
   .rw[iP m,iP (zF _ m)]
   .rw[iQ m,iQ fun h=>(zP.mp h).elim (fun e=>c e.symm) m]
def qfn(nm:List Str):(nm.map V.str).all qd3=true:=by
 rw[List.all_map];exact zZ.mpr fun _ _=>rfl
def jhd{p:Addr}{y:Str}{nm:List Str}(h:SqL K H p (nm.map V.str))(q:Q (.bl (decide (y∈nm))) H):rIn K false (.str y) (.ref p) H Q:=⟨p,_,rfl,.inl h,rfl,qfn nm,by rw[qh7];exact q⟩
end
def XB(X:Cx)(E:XK)(e:uB)(s':uD):Prop:=∃(a:Addr)(C:uB)(d:Option Addr)(σ':L2.St)(H':Hp),e=.ref a/\Inv X [] σ' H' s'/\E C d H'/\
 ∃(T:Addr)(fl:uB)(σ1:L2.St)(H1:Hp)(s1:uD),Inv X [] σ1 H1 s1/\s1.heap.get? a=none/\s1.heap.get? T=none/\H' a=none/\H' T=none/\XTr s'.heap a C d fl T
abbrev xb(X:Cx)(E:XK):Cx:=X.wish (XB X E)
end My
namespace My
open PySem PySem.Spec PyProof.Rows L2 PyProof PySem.Builtin.Str
end My
namespace My
open PySem PySem.Spec PyProof.Rows L2 PyProof PySem.Builtin.Str PySem.StrLaws
noncomputable def hits(l:List Nat)(c:Nat)(is:List Nat):List Nat:=is.filter fun i=>decide (l[i]?=some c)
end My
namespace My
open PySem PySem.Spec PyProof.Rows L2 PyProof PySem.Builtin.Str PySem.NumText
end My
namespace My
open PySem PySem.Spec PyProof.Rows L2 PyProof PySem.Builtin.Str
end My
namespace My
open PySem PySem.Spec PyProof.Rows L2 PySem.Builtin
section
variable{prog:uI}{w:vA}{A:vI}{E:uB->uD->Prop}{s:uD}{it d:Addr}{i ep:Nat}{od:Obj}{es:Array xL}
def jre(hit:s.heap.IsKeyIter it d i es.size ep)(hod:s.heap.get? d=some od)(hdd:od.data=.dict es ep){Q:Option uB->uD->Prop}(hi:i<es.size)
  (hQ:∀h',h'.IsKeyIter it d (i+1) es.size ep->yZ it s.heap h'->Q (some es[i].key) {s with heap:=h'}):uM (uP prog w) A (gD (.ref it)) Q E s:=by
 obtain⟨o,ho,hc,hd⟩:=id hit;have up:(s.heap.update it (xC (·.setIfInBounds 1 (bA ((i:Int)+1))))).IsKeyIter it d (i+1) es.size ep:=by
  refine⟨_,wZ _ ho (cA (bH hd _)),?_,?_⟩
  .rw[gX];exact hc
  .rw[bH hd];simp[bA]
 have own:Dict_items.ownsTuple "dict_keyiterator"=false:=∅
 have n1:¬((uS d==vV)=true):=uL;unfold gD;refine uA (dF (bM (name:=uO "__next__") hit.typeIs aE (wT aE hit.typeIs F.entry_dict_keyiterator_next ?_ (iM _))));refine uA (uE (uA (uA (uA (yY hit.typeIs (uE (uA (wpAny_fieldsOf ho hd ?_))))))));rw[own,iN uL];show uM _ _ (ite ((uS d==vV)=true) _ _) _ _ s;rw[iN n1];refine uA (uE (uA (xG hod hdd ?_)));rw[iN (by simp)];refine uA (uE (uA (wR hod hdd ?_)));rw[iN (by simp)];refine uE ?_;have eg:(if(i:Int)<0 then none else es[(i:Int).toNat]?)=some es[i]:=by rw[iN ↑∅,hV];exact wY hi
 dsimp only;rw[eg];dsimp only;refine uA (uA (yY hit.typeIs (uE ?_)));refine uA (wpAny_isOneOf_keyiter hit.typeIs ?_);rw[own];refine uA (aS ho hd (by simp) ?_);refine uA (vO ?_);refine uA (wpAny_isOneOf_keyiter (s:={s with heap:=s.heap.update it (xC (·.setIfInBounds 1 (bA ((i:Int)+1))))}) up.typeIs ?_);exact uE (uE ⟨_,rfl,uE (hQ _ up (fR ..))⟩)
def jhe(hh:A.handled=none)(hit:s.heap.IsKeyIter it d i es.size ep)(hod:s.heap.get? d=some od)(hdd:od.data=.dict es ep){Q:Option uB->uD->Prop}(hi:es.size<=i)
  (hQ:∀h',Heap.ExtBut it s.heap h'->Q none {s with heap:=h'}):uM (uP prog w) A (gD (.ref it)) Q E s:=by
 obtain⟨o,ho,hc,hd⟩:=id hit;have own:Dict_items.ownsTuple "dict_keyiterator"=false:=∅
 have n1:¬((uS d==vV)=true):=uL;unfold gD;refine uA (dF (bM (name:=uO "__next__") hit.typeIs aE (wT aE hit.typeIs F.entry_dict_keyiterator_next ?_ (iM _))));refine uA (uE (uA (uA (uA (yY hit.typeIs (uE (uA (wpAny_fieldsOf ho hd ?_))))))));rw[own,iN uL];show uM _ _ (ite ((uS d==vV)=true) _ _) _ _ s;rw[iN n1];refine uA (uE (uA (xG hod hdd ?_)));rw[iN (by simp)];refine uA (uE (uA (wR hod hdd ?_)));rw[iN (by simp)];refine uE ?_;have eg:(if(i:Int)<0 then none else es[(i:Int).toNat]?)=none:=by rw[iN ↑∅,hV];exact Array.getElem?_eq_none hi
 dsimp only;rw[eg];dsimp only;refine uA (uA (yY hit.typeIs (uE ?_)));rw[own];refine uA (aS ho hd (by simp) (uA ?_));unfold newExc newTuple;refine uA (bT ?_ (by size_fits));refine uA (m:=firstArgMember _ _) (wpAny_of_eq (a:=vV) (by first|rfl|(simp only[firstArgMember];rfl)) (bT ?_ (by size_fits)));unfold raiseNew;refine uA (wpAny_handled ?_);rw[show A.in1.handled=none from hh];refine uA (uE (wpAny_throw ?_));refine uA (wpAny_isInstance (T:="StopIteration") (b:=true) ⟨_,uX _ rfl,rfl⟩ isSubtype_stop ?_);exact uE (hQ _ (((fR ..).extBut.push _).push _))
def jnj{Q:uB->uD->Prop}(hd:(d==wD)=false)(hod:s.heap.get? d=some od)(hx:od.ExactDict)(hdd:od.data=.dict es ep)
  (hQ:Q (.ref ↑s) {s with heap:=s.heap.push {cls:=.type "dict_keyiterator",data:=.fields #[.ref d,.int 0 0,.int es.size 0,.int ep 0]}}):uM (uP prog w) A (pyIter (.ref d)) Q E s:=by
 have hT:s.TypeIs (.ref d) "dict":=⟨od,hod,hx.1⟩;refine wpAny_pyIter_slot hT F.slot_dict_iter (wT F.slot_dict_iter hT F.entry_dict_iter ?_ (F.args_dict_iter_1 _));unfold xY.«dict.__iter__» Builtin.Dict.dictSlotNone;refine uA (uA (eY hT (uE ?_)));unfold Builtin.Dict.showsAll;dsimp only;refine uA (uE (uA ?_));rw[iN (by rw[hd];exact uL)];refine uE (uA (xG hod hdd (uA (wR hod hdd (uA (bT (uE ⟨_,rfl,"dict_keyiterator",_,⟨_,uX _ rfl,rfl⟩,F.slot_dict_keyiterator_next.lookup,?_⟩)))))));simpa[bA] using hQ
end
end My
namespace My
open PySem PySem.Spec PyProof.Rows L2
end My
namespace My
open PySem PySem.Spec PyProof.Rows L2 PyProof PySem.SeqAt
noncomputable def jrf(z:Str):uB->Bool
 | .str a _=>a==z
 |_=>false
theorem jc5(z:Str):∀{us:List uB} {ss:List Str},fL us ss->∀(j:Nat)(h1:j<us.length)(h2:j<ss.length),jrf z us[j]=(ss[j]==z)
 |_,_,.nil,j,h1,_=>absurd h1 (wL j)
 |_,_,.cons x t h,0,_,_=>rfl
 |_,_,.cons x t h,j+1,h1,h2=>jc5 z h j (xJ h1) (xJ h2)
theorem jhf{A:vI}{s:uD}(z:Str)(t:Tok):∀{us:List uB} {ss:List Str},fL us ss->∀y∈us,EqAt A s y (.str z t) (jrf z y)
 |_,_,.nil,y,h=>by simp at h
 |_,_,.cons x u r,y,h=>by
  rcases zP.mp h with rfl|h
  .exact EqAt.str_str x u z t
  .exact jhf z t r y h
theorem jlc{z:Str}:∀{ss:List Str} {j:Nat} (h:j<ss.length),j<ss.idxOf z->ss[j]≠z
 | [],j,h,_=>absurd h (wL j)
 |x::ss,0,_,hj=>fun e=>by
  have e:x=z:=e;rw[List.idxOf_cons,e] at hj;simp at hj
 |x::ss,j+1,h,hj=>by
  rw[List.idxOf_cons] at hj
  cases c:(x==z) with
  |true=>rw[c] at hj;simp at hj
  |false=>
   rw[c] at hj;exact jlc (xJ h) (by simpa using hj)
section
variable{X:Cx}
noncomputable def jrg(K:uY):V->List V->Hp->VK->Prop:=fun x xs H Q=>∃(l:Addr)(ss:List Str)(z:Str),x=.ref l/\xs=[.str z]/\SqL K H l (ss.map V.str)/\z∈ss/\Q (.int ((ss.idxOf z:Nat):Int)) H
def jhg:MtR X "list.index" (jrg X.K):=by
 intro pins s σ H x xs v us Q I rx rv h;obtain⟨l,ss,z,rfl,rfl,hS,hz,q⟩:=h
 cases rx
 obtain⟨u,rfl,ru⟩:=rv.one;obtain⟨t,rfl⟩:=ru;obtain⟨its,r1,pl,hz'⟩:=I.list hS;have sa:=qgm r1;have hlen:=r1.length;rw[zB] at hlen;obtain⟨⟨cls,dd,data,sl⟩,ho,hc,n,hd⟩:=id pl.isList;simp only at hc hd;subst hc hd;have hj:ss.idxOf z<ss.length:=List.idxOf_lt_length_iff.mpr hz;have hz2:ss.length<=16777216:=by rw[zB] at hz';exact hz'
 refine call_meets dN ⟨_,ho,rfl⟩ PySem.F.entry_list_index (PySem.F.args_list_index_2 _ _)
  (list_indexAt l its.toArray n dd sl (.str z t) (jrf z) (ss.idxOf z) (by simp;omega) ↑∅ ?_ ?_) ⟨ho,fun y hy=>jhf z t sa y (by simpa using hy),.int ((ss.idxOf z:Nat):Int),H,I.tok _,⟨_,rfl⟩,q⟩
 .show jrf z its[ss.idxOf z]=true;rw[jc5 z sa _ ↑∅ hj];simpa using List.getElem_idxOf hj
 .intro j hjs hlt;show jrf z its[j]=false;rw[jc5 z sa j (by simpa using hjs) ↑∅];exact beq_false_of_ne (jlc _ hlt)
end
section
variable{K:uY}{H:Hp}{Q:VK}
def jld{l:Addr}{ss:List Str}{j:Nat}(h:SqL K H l (ss.map V.str))(nd:ss.Nodup)(hj:j<ss.length)(q:Q (.int (j:Int)) H):jrg K (.ref l) [.str ss[j]] H Q:=⟨l,ss,ss[j],rfl,rfl,h,zJ hj,by
 have e:ss.idxOf ss[j]=j:=List.Nodup.idxOf_getElem nd j hj;rw[e];exact q⟩
end
end My
namespace My
open PySem PySem.Spec PyProof.Rows L2
end My
namespace My
open PySem PySem.Spec PyProof.Rows L2 PyProof PySem.SeqAt
end My
namespace My
open PySem PySem.Spec PyProof.Rows L2
inductive PEq(K:uY)(H:Hp):Nat->V->V->Bool->Prop
 |same{n:Nat}{a:Addr}:PEq K H n (.ref a) (.ref a) true
 |flat{n:Nat}{x y:V}(hx:qd3 x=true)(hy:qd3 y=true):PEq K H n x y (eqV x y)
 |ls{n:Nat}{a b:Addr}{xs ys:List V}{e:Nat->Bool}(ha:SqL K H a xs)(hb:SqL K H b ys)(ne:a≠b)(hl:xs.length=ys.length)
   (he:∀j (h1:j<xs.length) (h2:j<ys.length),PEq K H n xs[j] ys[j] (e j)):PEq K H (n+1) (.ref a) (.ref b) ((uN xs.length).all e)
 |lsN{n:Nat}{a b:Addr}{xs ys:List V}(ha:SqL K H a xs)(hb:SqL K H b ys)(ne:a≠b)(hl:xs.length≠ys.length):PEq K H (n+1) (.ref a) (.ref b) false
 |ts{n:Nat}{a b:Addr}{xs ys:List V}{e:Nat->Bool}(ha:SqT K H a xs)(hb:SqT K H b ys)(ne:a≠b)
   (he:∀j (h1:j<xs.length) (h2:j<ys.length),PEq K H n xs[j] ys[j] (e j)):PEq K H (n+1) (.ref a) (.ref b) ((uN (min xs.length ys.length)).all e && xs.length==ys.length)
end My
namespace My
open PySem PySem.Spec PyProof.Rows L2 PyProof PySem.SeqAt
end My
namespace My
open PySem PySem.Spec PyProof.Rows L2 PySem.W
structure SO(n:Nat)(lt:Nat->Nat->Bool):Prop where
 tr:∀i j k,i<n->j<n->k<n->lt i j=true->lt j k=true->lt i k=true
 to:∀i j,i<n->j<n->i≠j->lt i j=false->lt j i=true
structure Pm(n:Nat)(p:Array Nat):Prop where
 pm:p.Perm (List.toArray (uN n))
end My
namespace My
open PySem PySem.Spec PyProof.Rows L2
end My
namespace My
open PySem PySem.Spec PyProof.Rows L2 PySem.W
noncomputable def jut:uB->V
 | .none=> .non
 | .bool b=> .bl b
 | .int i _=> .int i
 | .str x _=> .str x
 | .bytes b _=> .byt b
 | .float b _=> .flt b
 | .ref a=> .ref a
 | .type n=> .ty n
 |_=> .non
structure Rw2 where
 a:Addr
 n:Str
 r:List V
noncomputable def lt2(a b:Rw2):Bool:=decide (a.n.cps.toList<b.n.cps.toList)
end My
namespace My
open PySem PySem.Spec PyProof.Rows L2
@[irreducible] def PSsx(X:Cx)(l:List Stmt)(t:TS):Prop:=PSs X l t
@[irreducible] def PEx(X:Cx)(e:vT)(t:TE):Prop:=PE X e t
@[irreducible] def PAx(X:Cx)(es:List vT)(t:TA):Prop:=PA X es t
section
variable{X:Cx}
def qgv{pos:Pos}{i:Nat}{x:Str}{e:vT}{te:TE}{pos':Pos}{rest:List Stmt}{u:TS}(hN:X.N.Nodup)(hi:X.N[i]?=some x)(hx:L2.Loc X.env.scope x)(he:PEx X e te)(h2:PSs X rest u)
  (hs:autoParam (bK e (some (Expr.Name x pos')) pos.line X.env=pure false) auR)(hf:X.fn x=true\/aO x X.env.scope.names=some NameKind.local:=by first|exact .inl rfl|exact .inr rfl|assumption):
  PSsx X (.Assign [.Name x pos'] e pos::rest) (jsn (jol te (qdl i)) u):=by
 unfold PEx at he;unfold PSsx;exact qa3 (qag hN hi hx he hs hf) h2
def qen:PAx X [] jom:=by unfold PAx;exact qa2
def qan{e:vT}{es:List vT}{te:TE}{t:TA}(h:PE X e te)(hr:PAx X es t)(hs:autoParam (vF (e::es) X.env=(false,wQ e X.env)::vF es X.env) auR):PAx X (e::es) (jma te t):=by
 unfold PAx at*;exact qa0 h hr hs
def qem{es:List vT}{t:TA}{b:vT}{tb:TE}{p p':Pos}(hl:PAx X es t)(hb:PE X b tb)(hsl:jft b):PEx X (.Subscript (.List es p) b p') (tOp (joo X.K) (jsq t) tb):=by
 unfold PAx at hl;unfold PEx;exact qao qab (qam hl) hb hsl
end
noncomputable def FnO(g:Addr)(name qual:Str)(params:dL)(body:List Stmt)(scope:bJ)(x:Str)(cl cd:Addr):HO:=
 .ext fun h=>∃doc pm ctv,h.get? g=some (PySem.W.fnMade name qual params body scope [(x,cl)] doc pm cd ctv)
noncomputable def jw6(cd:Addr)(qual:Str):HO:=.ext fun h=>h.CodeRec (.ref cd) qual
noncomputable def jug(cl:Addr)(v:V):HO:=.ext fun h=>∃u,qbb v u/\h.IsCell cl (some u)
noncomputable def made(H:Hp)(p g cd cl:Addr)(more:Array uB)(v:V)(name qual:Str)(params:dL)(body:List Stmt)(scope:bJ)(x:Str):Hp:=
 upd (upd (upd (upd H p (.tbl more)) cl (jug cl v)) cd (jw6 cd qual)) g (FnO g name qual params body scope x cl cd)
noncomputable def less(H:Hp)(c:Addr):Hp:=fun b=>if b=c then none else H b
structure jvu(name qual:Str)(params:dL)(body:List Stmt)(scope:bJ)(z x:Str):Prop where
 kind:scope.kind=.function
 co:scope.isCoroutine=false
 gen:scope.isGenerator=false
 nocell:∀y∈scope.names,y.2≠ .cell
 par:scope.names.lookup z=some .local
 free:scope.names.lookup x=some .free
 only:∀y,scope.names.lookup y=some .free->y=x
 bind:∀(cl cd:Addr)(ct doc pm:uB)(s:uD)(u:uB),dQ s (PySem.W.fnX name qual params body scope [(x,cl)] .none .none doc pm none (.ref cd) ct) ⟨[u],[]⟩ [(z,u)]
end My
set_option exponentiation.threshold 5000
namespace My
open PySem PySem.Spec PyProof.Rows L2
variable{h:vS}{v:uB}{es:Array xL}{xs:List MX}
section
structure jw7(qual:Str)(params:dL)(scope:bJ)(z:Str)(b:vT):Prop where
 bind:∀(pm cd ct u:uB),bindArgs (PySem.W.kla_fn "<lambda>" qual params b scope [] pm cd ct) ⟨[u],[]⟩=pure [(z,u)]
 par:scope.names.lookup z=some .local
 co:scope.isCoroutine=false
 gen:scope.isGenerator=false
 kind:scope.kind=.function
 cell:∀x∈scope.names,x.2≠ .cell
 dbg:(z==("__debug__":Str))=false
end
inductive MK where
 |k(x:Key)
 |no
 |tu(ks:List Key)
 deriving DecidableEq
section
variable(P:uI)(w:vA)
noncomputable def qfl(h:vS):MK->uB->Prop
 | .k (.inl i),v=>(∃t,v=.int i t)\/∃b:Bool,v=.bool b/\i=(if b then 1 else 0)
 | .k (.inr x),v=>∃t,v=.str x t
 | .no,v=>v=.none
 | .tu ks,v=>∃a,v=.ref a/\IsTupleKey (qb2 P w) h ks a
noncomputable def mkH:MK->Int
 | .k x=>jsa w x
 | .no=>PySem.reduceHash 0xFCA86420
 | .tu ks=>tupleKeyHash (qb2 P w) ks
end
section
variable{P:uI}{w:vA}{A:vI}{E:uB->uD->Prop}{s:uD}
def jhh{a b:MK}(ha:qfl P w h a v)(hb:qfl P w h b v):a=b:=by
 match a,b,ha,hb with
 | .k (.inl i),.k (.inl j),.inl ⟨t,e⟩,.inl ⟨u,f⟩=>rw[e] at f;cases f;rfl
 | .k (.inl i),.k (.inl j),.inl ⟨t,e⟩,.inr ⟨u,f,_⟩=>rw[e] at f;cases f
 | .k (.inl i),.k (.inl j),.inr ⟨t,e,_⟩,.inl ⟨u,f⟩=>rw[e] at f;cases f
 | .k (.inl i),.k (.inl j),.inr ⟨t,e,e2⟩,.inr ⟨u,f,f2⟩=>rw[e] at f;cases f;rw[e2,f2]
 | .k (.inl i),.k (.inr y),.inl ⟨t,e⟩,⟨u,f⟩=>rw[e] at f;cases f
 | .k (.inl i),.k (.inr y),.inr ⟨t,e,_⟩,⟨u,f⟩=>rw[e] at f;cases f
 | .k (.inl i),.no,.inl ⟨t,e⟩,f=>rw[e] at f;cases f
 | .k (.inl i),.no,.inr ⟨t,e,_⟩,f=>rw[e] at f;cases f
 | .k (.inl i),.tu ks,.inl ⟨t,e⟩,⟨u,f,_⟩=>rw[e] at f;cases f
 | .k (.inl i),.tu ks,.inr ⟨t,e,_⟩,⟨u,f,_⟩=>rw[e] at f;cases f
 | .k (.inr x),.k (.inl j),⟨t,e⟩,.inl ⟨u,f⟩=>rw[e] at f;cases f
 | .k (.inr x),.k (.inl j),⟨t,e⟩,.inr ⟨u,f,_⟩=>rw[e] at f;cases f
 | .k (.inr x),.k (.inr y),⟨t,e⟩,⟨u,f⟩=>rw[e] at f;cases f;rfl
 | .k (.inr x),.no,⟨t,e⟩,f=>rw[e] at f;cases f
 | .k (.inr x),.tu ks,⟨t,e⟩,⟨u,f,_⟩=>rw[e] at f;cases f
 | .no,.k (.inl j),e,.inl ⟨u,f⟩=>rw[show v=.none from e] at f;cases f
 | .no,.k (.inl j),e,.inr ⟨u,f,_⟩=>rw[show v=.none from e] at f;cases f
 | .no,.k (.inr y),e,⟨u,f⟩=>rw[show v=.none from e] at f;cases f
 | .no,.no,_,_=>rfl
 | .no,.tu ks,e,⟨u,f,_⟩=>rw[show v=.none from e] at f;cases f
 | .tu ks,.k (.inl j),⟨t,e,_⟩,.inl ⟨u,f⟩=>rw[e] at f;cases f
 | .tu ks,.k (.inl j),⟨t,e,_⟩,.inr ⟨u,f,_⟩=>rw[e] at f;cases f
 | .tu ks,.k (.inr y),⟨t,e,_⟩,⟨u,f⟩=>rw[e] at f;cases f
 | .tu ks,.no,⟨t,e,_⟩,f=>rw[e] at f;cases f
 | .tu ks,.tu ls,⟨t,e,h1⟩,⟨u,f,h2⟩=>rw[e] at f;cases f;rw[h1.inj h2]
def jnk{k:MK}{Q:Int->uD->Prop}(hu:A.units<cLine)(hk:qfl P w s.heap k v)(h:∀n,s.toks<=n->Q (mkH P w k) {s with toks:=n}):uM (uP P w) A (pyHash v) Q E s:=by
 match k,hk with
 | .k (.inl i),.inl ⟨t,e⟩=>subst e;exact wpAny_pyHash_int (h _ (aW _ _))
 | .k (.inl i),.inr ⟨b,e,e2⟩=>
  subst e;refine PySem.W.pyHash_slot (T:="bool") rfl F.slot_bool_hash entry_int_hash (args_int_hash _) (beq_builtin_none _) (.inr hu) ?_
  cases b
  .subst e2;exact(show uM _ _ (do ret (<-mkInt 0)) _ _ s from uA (wpAny_mkInt (uE ⟨_,_,rfl,h _ (aW _ _)⟩)))
  .subst e2;exact(show uM _ _ (do ret (<-mkInt 1)) _ _ s from uA (wpAny_mkInt (uE ⟨_,_,rfl,h _ (aW _ _)⟩)))
 | .k (.inr x),⟨t,e⟩=>subst e;exact wpAny_pyHash_str (h _ (aW _ _))
 | .no,e=>
  obtain rfl:v=.none:=e;exact PySem.W.pyHash_slot (T:="NoneType") rfl F.slot_NoneType_hash F.entry_NoneType_hash (F.args_NoneType_hash_1 _) (beq_builtin_none _) (.inr hu) (uA (uE (uA (wpAny_mkInt (uE ⟨_,_,rfl,h _ (aW _ _)⟩)))))
 | .tu ks,⟨a,e,hx⟩=>subst e;exact wpAny_pyHash_tuple hu hx (h _ (aW _ _))
def qet{ks:List Key}{a:Addr}(x:IsTupleKey (qb2 P w) h ks a):∃items,h.IsTuple a items:=by
 obtain⟨o,items,n,h1,h2,h3,_⟩:=x;exact⟨items,o,h1,h2,n,h3⟩
def jnl{a b:MK}{u:uB}{Q:Bool->uD->Prop}(hu:A.units<cLine)(ha:qfl P w s.heap a u)(hb:qfl P w s.heap b v)(h:Q (decide (a=b)) s):uM (uP P w) A (eqBool u v) Q E s:=by
 have ii:∀i j:Int,decide ((MK.k (.inl i))=.k (.inl j))=(i==j):=fun i j=>by
  by_cases c:i=j
  .subst c;simp
  .rw[iQ (fun e=>c (by cases e;rfl))];exact(beq_eq_false_iff_ne.mpr c).symm
 match a,b,ha,hb with
 | .k (.inl i),.k (.inl j),.inl ⟨t,e⟩,.inl ⟨u,f⟩=>subst e f;rw[ii] at h;exact wpAny_eqBool_int h
 | .k (.inl i),.k (.inl j),.inl ⟨t,e⟩,.inr ⟨u,f,g⟩=>subst e f;rw[ii,g] at h;exact SeqAt.EqAt.int_bool _ _ _ _ _ _ _ h
 | .k (.inl i),.k (.inl j),.inr ⟨t,e,g⟩,.inl ⟨u,f⟩=>subst e f;rw[ii,g] at h;exact SeqAt.EqAt.bool_int _ _ _ _ _ _ _ h
 | .k (.inl i),.k (.inl j),.inr ⟨t,e,e2⟩,.inr ⟨u,f,f2⟩=>
  subst e f;refine SeqAt.EqAt.bool_bool _ _ _ _ _ _ ?_;rw[ii,e2,f2] at h
  cases t<;>cases u<;>exact h
 | .k (.inl i),.k (.inr y),.inl ⟨t,e⟩,⟨u,f⟩=>subst e f;exact gA _ _ _ _ _ _ _ _ h
 | .k (.inl i),.k (.inr y),.inr ⟨t,e,_⟩,⟨u,f⟩=>subst e f;exact SeqAt.EqAt.bool_str _ _ _ _ _ _ _ h
 | .k (.inl i),.no,.inl ⟨t,e⟩,f=>obtain rfl:v=.none:=f;subst e;exact SeqAt.EqAt.int_none _ _ _ _ _ _ h
 | .k (.inl i),.no,.inr ⟨t,e,_⟩,f=>obtain rfl:v=.none:=f;subst e;exact SeqAt.EqAt.bool_none _ _ _ _ _ h
 | .k (.inl i),.tu ks,.inl ⟨t,e⟩,⟨u,f,x⟩=>obtain⟨its,y⟩:=qet x;subst e f;exact SeqAt.EqAt.int_tuple _ _ y hu _ _ _ _ h
 | .k (.inl i),.tu ks,.inr ⟨t,e,_⟩,⟨u,f,x⟩=>obtain⟨its,y⟩:=qet x;subst e f;exact SeqAt.EqAt.bool_tuple _ y hu _ _ _ _ h
 | .k (.inr x),.k (.inl j),⟨t,e⟩,.inl ⟨u,f⟩=>subst e f;exact cO _ _ _ _ _ _ _ _ h
 | .k (.inr x),.k (.inl j),⟨t,e⟩,.inr ⟨u,f,_⟩=>subst e f;exact fP _ _ _ _ _ _ _ h
 | .k (.inr x),.k (.inr y),⟨t,e⟩,⟨u,f⟩=>
  subst e f;refine wpAny_eqBool_str ?_;rw[show decide ((MK.k (.inr x))=.k (.inr y))=decide (x=y) from decide_eq_decide.mpr ⟨fun e=>by cases e;rfl,fun e=>by rw[e]⟩] at h;exact h
 | .k (.inr x),.no,⟨t,e⟩,f=>obtain rfl:v=.none:=f;subst e;exact fO _ _ _ _ _ _ h
 | .k (.inr z),.tu ks,⟨t,e⟩,⟨u,f,x⟩=>obtain⟨its,y⟩:=qet x;subst e f;exact SeqAt.EqAt.str_tuple _ _ y hu _ _ _ _ h
 | .no,.k (.inl j),e,.inl ⟨u,f⟩=>obtain rfl:_=vV:=e;subst f;exact SeqAt.EqAt.none_int _ _ _ _ _ _ h
 | .no,.k (.inl j),e,.inr ⟨u,f,_⟩=>obtain rfl:_=vV:=e;subst f;exact SeqAt.EqAt.none_bool _ _ _ _ _ h
 | .no,.k (.inr y),e,⟨u,f⟩=>obtain rfl:_=vV:=e;subst f;exact SeqAt.EqAt.none_str _ _ _ _ _ _ h
 | .no,.no,e,f=>obtain rfl:_=vV:=e;obtain rfl:_=vV:=f;exact(show uM (uP P w) A (pure true) Q E s from uE h)
 | .no,.tu ks,e,⟨u,f,x⟩=>obtain⟨its,y⟩:=qet x;obtain rfl:_=vV:=e;subst f;exact SeqAt.EqAt.none_tuple y hu _ _ _ _ h
 | .tu ks,.k (.inl j),⟨t,e,x⟩,.inl ⟨u,f⟩=>obtain⟨its,y⟩:=qet x;subst e f;exact SeqAt.EqAt.tuple_int _ _ y hu _ _ _ _ h
 | .tu ks,.k (.inl j),⟨t,e,x⟩,.inr ⟨u,f,_⟩=>obtain⟨its,y⟩:=qet x;subst e f;exact SeqAt.EqAt.tuple_bool _ y hu _ _ _ _ h
 | .tu ks,.k (.inr z),⟨t,e,x⟩,⟨u,f⟩=>obtain⟨its,y⟩:=qet x;subst e f;exact SeqAt.EqAt.tuple_str _ _ y hu _ _ _ _ h
 | .tu ks,.no,⟨t,e,x⟩,f=>obtain⟨its,y⟩:=qet x;obtain rfl:v=.none:=f;subst e;exact SeqAt.EqAt.tuple_none y hu _ _ _ _ h
 | .tu ks,.tu ls,⟨t,e,h1⟩,⟨u,f,h2⟩=>
  subst e f;refine wpAny_eqBool_tuple hu h1 h2 ?_;rw[show decide ((MK.tu ks)=.tu ls)=decide (ks=ls) from decide_eq_decide.mpr ⟨fun e=>by cases e;rfl,fun e=>by rw[e]⟩] at h;exact h
def jd5{k:MK}{Q:Bool->uD->Prop}(hk:qfl P w s.heap k v)(h:Q true s):uM (uP P w) A (eqIsQuiet 8 v) Q E s:=by
 match k,hk with
 | .k (.inl i),.inl ⟨t,e⟩=>subst e;exact uE h
 | .k (.inl i),.inr ⟨b,e,e2⟩=>subst e;exact uE h
 | .k (.inr x),⟨t,e⟩=>subst e;exact uE h
 | .no,e=>obtain rfl:v=.none:=e;exact uE h
 | .tu ks,⟨a,e,hx⟩=>subst e;exact wpAny_eqIsQuiet_tuple hx h
def qdk{α:Type}{M:fU}{c:Prop}[Decidable c]{x y:Sem α}{Q:α->uD->Prop}(h1:c->uM M A x Q E s)(h2:¬c->uM M A y Q E s):uM M A (if c then x else y) Q E s:=by
 by_cases h:c
 .rw[iO h];exact h1 h
 .rw[iN h];exact h2 h
abbrev MX:=MK×uB×uB
noncomputable def mxE(P:uI)(w:vA)(x:MX):xL:=⟨mkH P w x.1,x.2.1,x.2.2⟩
def jjt{k:MK}{key:uB}{stored:List uB}{Q:Bool->uD->Prop}(hkey:qfl P w s.heap k key)
  (hst:∀v∈stored,∃k',qfl P w s.heap k' v)(h:Q false s):uM (uP P w) A (tableMayTell key stored) Q E s:=by
 unfold tableMayTell
 split
 .exact uE h
 .refine uA (jd5 hkey ?_);simp only[dE,xA,if_false];refine uA ?_;refine aV _ (fun rest r s'=>s'=s/\r=(none,())/\∀v∈rest,∃k',qfl P w s.heap k' v) _ ?_ ?_ _ _ ⟨rfl,rfl,hst⟩
  .rintro x rest r s' ⟨rfl,rfl,hr⟩;obtain⟨k',hb⟩:=hr x zG;refine uA (jd5 hb ?_);simp only[dE,xA,if_false];exact uE ⟨rfl,rfl,fun v hv=>hr v (zF _ hv)⟩
  .rintro r s' ⟨rfl,rfl,_⟩;exact uE h
def qeo(he:es.toList=xs.map (mxE P w)):es.size=xs.length:=by
 rw[<-aZ,he,zB]
def jc6(he:es.toList=xs.map (mxE P w))(j:Nat):es[j]?=(xs[j]?).map (mxE P w):=by
 rw[<-xR,he,zC]
def jle(hn:(xs.map (·.1)).Nodup){i j:Nat}{k:MK}{p q:uB×uB}(hi:xs[i]?=some (k,p))(hj:xs[j]?=some (k,q)):i=j:=by
 have hi':(xs.map (·.1))[i]?=some k:=by rw[zC,hi];rfl
 have hj':(xs.map (·.1))[j]?=some k:=by rw[zC,hj];rfl
 exact(List.getElem?_inj (uH.mp hi').1 hn).mp (hi'.trans hj'.symm)
set_option maxHeartbeats 4000000 in
def jhi{d:Addr}{o:Obj}{es:Array xL}{ep:Nat}{xs:List MX}{k:MK}{key:uB}{Q:Option Nat->uD->Prop}(hu:A.units<cLine)(hkey:qfl P w s.heap k key)
  (ho:s.heap.get? d=some o)(hd:o.data=.dict es ep)(he:es.toList=xs.map (mxE P w))(his:∀x∈xs,qfl P w s.heap x.1 x.2.1)(hn:(xs.map (·.1)).Nodup)
  (hnone:(∀(j:Nat)(p:uB×uB),xs[j]?≠some (k,p))->Q none s)(hsome:∀(j:Nat)(p:uB×uB),xs[j]?=some (k,p)->Q (some j) s):
  uM (uP P w) A (dictFind d key (mkH P w k)) Q E s:=by
 have hsz:=qeo he;have haskey:∀(j:Nat)(p:uB×uB),xs[j]?=some (k,p)->((es[j]?.map (·.hash))==some (mkH P w k))=true:=by
  intro j p hj;rw[jc6 he j,hj];simp[mxE]
 have hmem:∀e∈es,∃x∈xs,e=mxE P w x:=by
  intro e hin;have:e∈xs.map (mxE P w):=he▸xT.mpr hin;obtain⟨x,hx,rfl⟩:=zM.mp this;exact⟨x,hx,rfl⟩
 have hany:¬(es.any fun e=>e.key==key && e.hash !=mkH P w k)=true:=by
  rw[<-Array.any_toList,yQ];rintro⟨e,hin,hc⟩;obtain⟨x,hx,rfl⟩:=hmem e (xT.mp hin);simp only[mxE,vP,beq_iff_eq,bne_iff_ne,ne_eq] at hc;obtain⟨hxa,hne⟩:=hc;have:=his x hx;rw[hxa] at this;exact hne (by rw[jhh this hkey])
 have hst:∀v∈(xQ es.size (fun i=>es[i]?.map (·.hash)) (mkH P w k)).filterMap (fun i=>es[i]?.map (·.key)),∃k',qfl P w s.heap k' v:=by
  intro v hv;obtain⟨i,_,hi⟩:=gF.mp hv
  cases hei:es[i]? with
  |none=>rw[hei] at hi;cases hi
  |some e=>
   rw[hei] at hi;obtain rfl:e.key=v:=by simpa using hi
   obtain⟨x,hx,rfl⟩:=hmem e (cC hei);exact⟨x.1,his x hx⟩
 have hin:∀j∈xQ es.size (fun i=>es[i]?.map (·.hash)) (mkH P w k),j<es.size/\(es[j]?.map (·.hash))=some (mkH P w k):=fun j hj=>by
  unfold xQ at hj;obtain⟨h1,h2⟩:=yL.mp hj;exact⟨yM.mp h1,eq_of_beq h2⟩
 have hout:∀j p,xs[j]?=some (k,p)->j∈xQ es.size (fun i=>es[i]?.map (·.hash)) (mkH P w k):=fun j p hj=>by
  unfold xQ;exact yL.mpr ⟨yM.mpr (by rw[hsz];exact(uH.mp hj).1),haskey j p hj⟩
 have hnd:(xQ es.size (fun i=>es[i]?.map (·.hash)) (mkH P w k)).Nodup:=by
  unfold xQ;exact List.nodup_range.filter _
 have hget:∀j∈xQ es.size (fun i=>es[i]?.map (·.hash)) (mkH P w k),∃k' b v,xs[j]?=some (k',b,v)/\es[j]?=some ⟨mkH P w k,b,v⟩/\qfl P w s.heap k' b:=fun j hj=>by
  obtain⟨h1,h2⟩:=hin j hj;obtain⟨⟨k',b,v⟩,hx⟩:∃y,xs[j]?=some y:=⟨xs[j]'(by rw[<-hsz];exact h1),zA _⟩;have hex:es[j]?=some ⟨mkH P w k',b,v⟩:=by rw[jc6 he j,hx];rfl
  rw[hex] at h2;refine⟨k',b,v,hx,?_,his _ (zD hx)⟩;rw[hex];have:mkH P w k'=mkH P w k:=vB h2;rw[this]
 generalize hPl:xQ es.size (fun i=>es[i]?.map (·.hash)) (mkH P w k)=pl at*;have walk:uM (uP P w) A (dictWalkPlain d key (mkH P w k) es pl) Q E s:=by
  unfold dictWalkPlain;refine uA ?_;refine aV _ (fun rest b s'=>s'=s/\b=(none,())/\∃pre,pl=pre++rest/\∀j∈pre,∀p,xs[j]?≠some (k,p)) _ ?_ ?_ _ _ ⟨rfl,rfl,[],rfl,fun _ h=>nomatch h⟩
  .rintro x rest b s' ⟨rfl,rfl,pre,hp,hno⟩;obtain⟨k',kb,kv,hx,hex,hib⟩:=hget x (by rw[hp];exact zO _ zG);simp only[hex];rw[iO (beq_self_eq_true _)];refine uA (wR ho hd (uA (jnl hu hib hkey (uA (wR ho hd ?_)))));show uM _ _ (if(ep !=ep)=true then _ else _) _ E _;rw[iN (by simp)];by_cases hkk:k'=k
   .subst hkk;rw[iP rfl];exact uA (cE (uE (uE (hsome x _ hx))))
   .rw[iQ hkk];refine uA (cE (uE ⟨rfl,rfl,pre++[x],by rw[hp,bW];rfl,fun j hj p e=>?_⟩));rcases zT.mp hj with h|h
    .exact hno j h p e
    .rw[zK.mp h,hx] at e
     cases e
     exact hkk rfl
  .rintro b s' ⟨rfl,rfl,pre,hp,hno⟩;rw[zW] at hp;subst hp;exact uE (hnone fun j p e=>hno j (hout j p e) p e)
 have found:∀z t,key=.str z t->uM (uP P w) A (foundByValue d key es z) Q E s:=fun z t ez=>by
  have ek:k=.k (.inr z):=by
   have h2:qfl P w s.heap (.k (.inr z)) key:=⟨t,ez⟩;exact jhh hkey h2
  have hst2:∀(e:xL)(x:MX),x∈xs->e=mxE P w x->(e.key.isStr z=true↔x.1=k):=fun e x hx ee=>by
   have hk:=his x hx;have e1:e.key=x.2.1:=by rw[ee];rfl
   rw[e1];constructor
   .intro h;have h2:qfl P w s.heap k x.2.1:=by
     rw[ek]
     cases hv:x.2.1 with
     |str y u=>
      rw[hv] at h;have:y=z:=eq_of_beq (show(y==z)=true from h);exact⟨u,by rw[this]⟩
     |_=>rw[hv] at h;exact absurd h (by simp[Value.isStr])
    exact jhh hk h2
   .intro h;rw[h,ek] at hk;obtain⟨u,eu⟩:=hk;rw[eu];exact beq_self_eq_true z
  unfold foundByValue
  cases hf:es.findIdx? (fun e=>e.key.isStr z) with
  |none=>
   refine uE (hnone fun j p e=>?_);have h1:=Array.findIdx?_eq_none_iff.mp hf;have hex:es[j]?=some (mxE P w (k,p)):=by rw[jc6 he j,e];rfl
   have:=h1 _ (cC hex);rw[(hst2 _ (k,p) (zD e) rfl).mpr rfl] at this
   cases this
  |some i=>
   obtain⟨hlt,hi,_⟩:=Array.findIdx?_eq_some_iff_getElem.mp hf;obtain⟨⟨k',b,v⟩,hx⟩:∃y,xs[i]?=some y:=⟨xs[i]'(by rw[<-hsz];exact hlt),zA _⟩;have hex:es[i]?=some (mxE P w (k',b,v)):=by rw[jc6 he i,hx];rfl
   have hkk:k'=k:=(hst2 _ (k',b,v) (zD hx) (by rw[wY hlt] at hex;exact vB hex)).mp hi;subst hkk;simp only[hex];refine uA (wR ho hd (uA (jnl hu (his _ (zD hx)) hkey (uA (wR ho hd ?_)))));show uM _ _ (if(ep !=ep)=true then _ else _) _ E _;rw[iN (by simp),iP rfl];exact uA (cE (uE (hsome i _ hx)))
 unfold dictFind;refine vO ?_;refine uA (xG ho hd ?_);have shape:(∃z t,key=.str z t)\/(∃a,key=.ref a)\/(∃b,key=.bool b)\/(∃i t,key=.int i t)\/key=.none:=by
  match k,hkey with
  | .k (.inl i),.inl ⟨t,e⟩=>exact .inr (.inr (.inr (.inl ⟨i,t,e⟩)))
  | .k (.inl i),.inr ⟨b,e,_⟩=>exact .inr (.inr (.inl ⟨b,e⟩))
  | .k (.inr x),⟨t,e⟩=>exact .inl ⟨x,t,e⟩
  | .no,e=>exact .inr (.inr (.inr (.inr e)))
  | .tu ks,⟨a,e,_⟩=>exact .inr (.inl ⟨a,e⟩)
 rcases shape with⟨z,t,rfl⟩|⟨a,rfl⟩|⟨b,rfl⟩|⟨i,t,rfl⟩|rfl
 all_goals
  dsimp only
  try rw[hPl]
 case' inl=>refine qdk (fun _=>found z t rfl) fun _=>?_
 all_goals
  refine qdk (fun _=>walk) fun _=>?_
  try refine qdk (fun h=>absurd h hany) fun _=>?_
  refine qdk (fun _=>uA (uE ?_)) fun _=>uA (jjt hkey hst ?_)
 all_goals
  refine qdk (fun h=>by simp at h) fun _=>?_;refine uA ?_;refine aV _ (fun rest b s'=>s'=s/\∃hit pre,b=(none,hit)/\pl=pre++rest/\((hit=none/\∀j∈pre,∀p,xs[j]?≠some (k,p))\/∃j p,hit=some j/\j∈pre/\xs[j]?=some (k,p))) _ ?_ ?_ _ _ ⟨rfl,none,[],rfl,rfl,.inl ⟨rfl,fun _ h=>nomatch h⟩⟩
  .rintro x rest b s' ⟨rfl,hit,pre,rfl,hp,hH⟩;obtain⟨k',kb,kv,hx,hex,hib⟩:=hget x (by rw[hp];exact zO _ zG);have hp2:pl=(pre++[x])++rest:=by rw[hp,bW];rfl
   rw[hex];dsimp only;rw[iO (beq_self_eq_true _)];refine uA (wR ho hd (uA (jnl hu hib hkey (uA (wR ho hd ?_)))));refine qdk (fun h=>by simp at h) fun _=>?_;by_cases hkk:k'=k
   .subst hkk;rw[iP rfl];rcases hH with⟨rfl,_⟩|⟨j,p,rfl,hj,ej⟩
    .refine qdk (fun _=>?_) fun h=>absurd rfl h;refine qdk (fun h=>by simp at h) fun _=>?_;refine uA (cE ?_);refine qdk (fun _=>uE (uE (hsome x _ hx))) fun _=>?_;exact uE ⟨rfl,some x,pre++[x],rfl,hp2,.inr ⟨x,_,rfl,zO _ zG,hx⟩⟩
    .exfalso
     have e:=jle hn ej hx;subst e;rw[hp] at hnd;exact(yE.mp hnd).2.2 _ hj _ zG rfl
   .rw[iQ hkk];refine qdk (fun h=>by cases h) fun _=>?_;refine uA (cE ?_);refine qdk (fun h=>by simp at h) fun _=>?_;refine uE ⟨rfl,hit,pre++[x],rfl,hp2,?_⟩;rcases hH with⟨h0,hno⟩|⟨j,p,h1,hj,ej⟩
    .refine .inl ⟨h0,fun j hj p e=>?_⟩;rcases zT.mp hj with h|h
     .exact hno j h p e
     .rw[zK.mp h,hx] at e
      cases e
      exact hkk rfl
    .exact .inr ⟨j,p,h1,zY _ hj,ej⟩
  .rintro b s' ⟨rfl,hit,pre,rfl,hp,hH⟩;rw[zW] at hp;subst hp;rcases hH with⟨rfl,hno⟩|⟨j,p,rfl,_,ej⟩
   .exact uE (hnone fun j p e=>hno j (hout j p e) p e)
   .exact uE (hsome j p ej)
end
section
variable{P:uI}{w:vA}{A:vI}{E:uB->uD->Prop}{s:uD}
def Mx(P:uI)(w:vA)(h:vS)(d:Addr)(xs:List MX):Prop:=
 ∃o es ep,h.get? d=some o/\o.ExactDict/\o.data=.dict es ep/\es.toList=xs.map (mxE P w)/\(∀x∈xs,qfl P w h x.1 x.2.1)/\(xs.map (·.1)).Nodup
def jju{h':vS}{k:MK}(hk:qfl P w h k v)(q:∀a o ys n,h.get? a=some o->o.data=.seq ys n->h'.get? a=some o):qfl P w h' k v:=by
 match k,hk with
 | .k (.inl i),x=>exact x
 | .k (.inr z),x=>exact x
 | .no,x=>exact x
 | .tu ks,⟨a,e,o,its,n,h1,h2,h3,h4⟩=>exact⟨a,e,o,its,n,q _ _ _ _ h1 h3,h2,h3,h4⟩
def jlf{h':vS}{k:MK}{d:Addr}{o:Obj}{ep:Nat}(hk:qfl P w h k v)(ho:h.get? d=some o)(hd:o.data=.dict es ep)(hs:yZ d h h'):qfl P w h' k v:=
 jju hk fun a o' ys n e e2=>by
  have:a≠d:=fun z=>by rw[z,ho] at e;cases e;rw[hd] at e2;cases e2
  rw[hs.2 a this];exact e
def jrh{d:Addr}{xs:List MX}{k:MK}{key v:uB}{Q:Unit->uD->Prop}(hu:A.units<cLine)(hkey:qfl P w s.heap k key)(hm:Mx P w s.heap d xs)(hno:k∉xs.map (·.1))(hz:xs.length<=1000)
  (hQ:∀h' n,s.toks<=n->Mx P w h' d (xs++[(k,key,v)])->yZ d s.heap h'->Q () {s with heap:=h',toks:=n}):uM (uP P w) A (dictSet d key v) Q E s:=by
 obtain⟨o,es,ep,ho,hc,hd,he,his,hn⟩:=hm;have hsz:=qeo he;unfold dictSet;refine vO ?_;refine uA (jnk hu hkey fun n hn2=>?_);unfold dictSetHashed;refine vO ?_;refine uA (jhi (s:={s with toks:=n}) hu hkey ho hd he his hn (fun _=>?_) fun j p hj=>absurd (zM.mpr ⟨_,zD hj,rfl⟩) hno);have sb:yZ d s.heap (s.heap.update d (Obj.mapDictKeys fun l=>l.push ⟨mkH P w k,key,v⟩)):=fR ..;refine uA (cE (wpAny_updateDictKeys (hz:=by rw[hsz];exact wG hz ∅) (s:={s with toks:=n}) ho hd (hQ _ _ hn2 ⟨_,_,ep+1,wZ _ ho (Obj.isFreed_of_dict (Obj.data_mapDictKeys hd _)),
   hc.mapDictKeys _,Obj.data_mapDictKeys hd _,?_,?_,?_⟩ sb)))
 .simp[he,mxE]
 .intro x hx;rcases zT.mp hx with hx|hx
  .exact jlf (his x hx) ho hd sb
  .rw[zK.mp hx];exact jlf hkey ho hd sb
 .rw[zE,yE];refine⟨hn,by simp,?_⟩;intro x hx y hy;simp only[zS,dS,zK] at hy;subst hy;exact fun e=>hno (e▸hx)
end
end My
set_option maxHeartbeats 3200000
namespace My
open PySem PySem.Spec PyProof.Rows L2
end My
set_option maxHeartbeats 1000000
namespace My
open PySem PySem.Spec PyProof.Rows L2
variable{P:uI}{w:vA}{H:Hp}{h:vS}{a:Addr}{v:V}{kvs:List MV}{xs:List MX}
noncomputable def qgh(a:Addr)(o:Obj):HO:=.ext fun h=>h.get? a=some o
def jnm{o:Obj}(e:h.get? a=some o):qbg P w H h a (qgh a o):=⟨e,⟨o,e⟩,fun _ _ e1 k=>k _ e1⟩
abbrev MV:=MK×V×V
noncomputable def MkV(H:Hp):MK->V->Prop
 | .k (.inl i),v=>v=.int i\/∃b:Bool,v=.bl b/\i=(if b then 1 else 0)
 | .k (.inr x),v=>v=.str x
 | .no,v=>v=.non
 | .tu ks,v=>∃b,v=.ref b/\H b=some (.tup (ks.map kV))
def MkV.keep{H':Hp}{k:MK}(h:MkV H k v)(q:∀b xs,H b=some (.tup xs)->H' b=some (.tup xs)):MkV H' k v:=by
 match k,h with
 | .k (.inl i),x=>exact x
 | .k (.inr z),x=>exact x
 | .no,x=>exact x
 | .tu ks,⟨b,e,x⟩=>exact⟨b,e,q _ _ x⟩
def MkV.is{k:MK}{u:uB}(ok:HOk P w H h)(hk:MkV H k v)(r:qbb v u):qfl P w h k u:=by
 match k,hk with
 | .k (.inl i),.inl e=>subst e;obtain⟨t,rfl⟩:=r;exact .inl ⟨t,rfl⟩
 | .k (.inl i),.inr ⟨b,e,e2⟩=>subst e;exact .inr ⟨b,r,e2⟩
 | .k (.inr x),e=>obtain rfl:v=.str x:=e;obtain⟨t,rfl⟩:=r;exact⟨t,rfl⟩
 | .no,e=>obtain rfl:v=.non:=e;exact r
 | .tu ks,⟨b,e,x⟩=>subst e;cases r;exact⟨b,rfl,qga ok x⟩
def mvR(p:MV)(x:MX):Prop:=p.1=x.1/\qbb p.2.1 x.2.1/\qbb p.2.2 x.2.2
def jsi(P:uI)(w:vA)(o:Obj)(kvs:List MV):Prop:=o.ExactDict/\∃es ep xs,o.data=.dict es ep/\es.toList=xs.map (mxE P w)/\aM mvR kvs xs
structure MD(P:uI)(w:vA)(H:Hp)(a:Addr)(kvs:List MV):Prop where
 ob:∃o,H a=some (qgh a o)/\jsi P w o kvs
 ks:∀p∈kvs,MkV H p.1 p.2.1
 nd:(kvs.map (·.1)).Nodup
 sy:(a==wD)=false
def Paired.keys(r:aM mvR kvs xs):kvs.map (·.1)=xs.map (·.1):=by
 induction r with
 |nil=>rfl
 |cons h t ih=>rw[zS,zS,h.1,ih]
def Paired.all(r:aM mvR kvs xs):∀x∈xs,∃p∈kvs,mvR p x:=by
 induction r with
 |nil=>intro x hx;cases hx
 |cons h t ih=>
  intro x hx;rcases zP.mp hx with e|e
  .exact⟨_,zG ..,by rw[e];exact h⟩
  .obtain⟨p,hp,q⟩:=ih x e;exact⟨p,zF _ hp,q⟩
def MD.mx(m:MD P w H a kvs)(ok:HOk P w H h):∃xs,aM mvR kvs xs/\Mx P w h a xs:=by
 obtain⟨o,e,hx,es,ep,xs,hd,he,r⟩:=m.ob;obtain⟨e2,_⟩:=(show qbg P w H h a (qgh a o) from ok a _ e);refine⟨xs,r,o,es,ep,e2,hx,hd,he,fun x hx=>?_,by rw[<-Paired.keys r];exact m.nd⟩;obtain⟨p,hp,e1,r1,_⟩:=Paired.all r x hx;have:=(m.ks p hp).is ok r1;rw[e1] at this;exact this
def MD.same{P:uI}{w:vA}{H H':Hp}{a:Addr}{kvs:List MV}(m:MD P w H a kvs)(s:qas H H'):MD P w H' a kvs:=by
 obtain⟨o,e,h⟩:=m.ob;exact⟨⟨o,s _ _ e,h⟩,fun p hp=>(m.ks p hp).keep fun b xs q=>s _ _ q,m.nd,m.sy⟩
def jhj{o:Obj}(m:jsi P w o kvs):∃es ep,o.ExactDict/\o.data=.dict es ep/\es.size=kvs.length/\∀(i:Nat)(hi:i<es.size) p,kvs[i]?=some p->qbb p.2.1 es[i].key/\qbb p.2.2 es[i].val:=by
 obtain⟨hx,es,ep,xs,hd,he,r⟩:=m;have hl:xs.length=kvs.length:=by
  have:=congrArg xE (Paired.keys r);rw[zB,zB] at this;exact this.symm
 refine⟨es,ep,hx,hd,(qeo he).trans hl,fun i hi p hp=>?_⟩;have get:∀{kvs:List MV} {xs:List MX},aM mvR kvs xs->∀(i:Nat) p x,kvs[i]?=some p->xs[i]?=some x->mvR p x:=by
  intro kvs xs r
  induction r with
  |nil=>intro i p x h;cases h
  |cons a b ih=>
   intro i p x h1 h2
   cases i with
   |zero=>cases h1;cases h2;exact a
   |succ i=>exact ih i p x h1 h2
 have hi2:i<xs.length:=by rw[<-qeo he];exact hi
 have e1:=jc6 he i;rw[zA hi2,wY hi] at e1;have e2:es[i]=mxE P w xs[i]:=vB e1;obtain⟨_,r1,r2⟩:=get r i p _ hp (zA hi2);rw[e2];exact⟨r1,r2⟩
noncomputable def ItM(d:Addr)(o:Obj)(kvs:List MV):It:=
 ⟨fun i H=>H d=some (qgh d o)/\i<kvs.length,fun i H x H'=>H'=H/\∃p,kvs[i]?=some p/\x=p.2.1,fun i H=>H d=some (qgh d o)/\kvs.length<=i⟩
def jri{P:uI}{w:vA}{K:uY}{tg:vT}{o:Obj}{kvs:List MV}{es:Array xL}{ep:Nat}(d it:Addr)(hd:o.data=.dict es ep)(m:jsi P w o kvs):jke P w K tg (ItM d o kvs) [it] it (fun i h=>h.IsKeyIter it d i kvs.length ep) where
 mem:=by simp
 obj:=fun i h st b hb=>by
  have e:b=it:=by simpa using hb
  subst e;obtain⟨ob,e,c,dd⟩:=st;exact⟨ob,e,fun v z=>by rw[dd] at z;cases z⟩
 keep:=fun i h h' st k=>st.at fun ob e=>k it (by simp) ob e
 item:=by
  intro X hP hw hK hc i pins s σ H E I hf st hg;subst hP hw hK;obtain⟨hfz,hi⟩:=hg;obtain⟨ho,_⟩:=(show qbg X.prog X.w H s.heap d (qgh d o) from I.hok d _ hfz);obtain⟨es',ep',hx,hd',hsz,get⟩:=jhj m;rw[hd] at hd'
  cases hd'
  obtain⟨f0,f1,f2,f3,f4,f5⟩:=hf it (by simp);obtain⟨r1,_⟩:=get i ↑∅ kvs[i] (by rw[zA hi]);rw[<-hsz] at st;refine jre st ho hd ↑∅ fun h' st' hs'=>?_;have I1:Inv X pins σ H {s with heap:=h'}:=I.turned (t':=s.toks) (fun b ob hb e=>hs'.extBut b ob hb e) f0 f1 f3 f4 f5;obtain⟨ob,e,c,dd⟩:=id st';exact⟨_,rfl,jfb (s:={s with heap:=h'}) e c dd ∅ ⟨kvs[i].2.1,H,I1,r1,⟨rfl,kvs[i],zA hi,rfl⟩,by rw[<-hsz];exact st',fun b hb=>(hf b hb).1⟩⟩
 done:=by
  intro X hP hw hK hc i pins s σ H E I hf st hg;subst hP hw hK;obtain⟨hfz,hi⟩:=hg;obtain⟨ho,_⟩:=(show qbg X.prog X.w H s.heap d (qgh d o) from I.hok d _ hfz);obtain⟨es',ep',hx,hd',hsz,get⟩:=jhj m;rw[hd] at hd'
  cases hd'
  obtain⟨f0,f1,f2,f3,f4,f5⟩:=hf it (by simp);rw[<-hsz] at st;exact jhe (I.ok.hd hc) st ho hd ↑∅ fun h' eb=>⟨rfl,I.turned (t':=s.toks) (fun b ob hb e=>eb b ob hb e) f0 f1 f3 f4 f5⟩
 self:=fun _ _ _ _ _ st h=>wpAny_pyIter_keyiter st h
def jsj(P:uI)(w:vA)(x:V)(H:Hp)(R:It->Hp->Prop):Prop:=jsg x H R\/∃a kvs,x=.ref a/\MD P w H a kvs/\∀o,H a=some (qgh a o)->R (ItM a o kvs) H
noncomputable def jlg(P:uI)(w:vA)(td:TE):TI:=fun σ H R=>td σ H fun x H1=>jsj P w x H1 R
def qgz{X:Cx}{tg l:vT}{tl:TE}(hl:PE X l tl):PI X tg l (jlg X.prog X.w tl):=by
 intro pins s σ H R I h;refine thn (hl pins s σ H _ I h) fun v s1 h9=>?_;obtain⟨x,H1,I1,r1,q1⟩:=h9;rcases q1 with q1|⟨a,kvs,e,m,q⟩
 .obtain⟨a,kvs,e,q⟩:=q1;subst e
  cases r1
  have ok:qbg X.prog X.w H1 s1.heap a (.dK kvs):=by
   rcases q with⟨e,_⟩|⟨o,e,_⟩
   .exact I1.hok a _ e
   .exact(I1.hok a _ e).2
  obtain⟨o,es,ep,vs,ho,hd,rel,dat,hs⟩:=qgd ok;have hlen:=rel.length;refine wpAny_pyIter_dict hs dat ?_;have it0:(s1.heap.push {cls:=.type "dict_keyiterator",data:=.fields #[.ref a,.int 0 0,.int vs.length 0,.int ep 0]}).IsKeyIter ↑s1 a 0 kvs.length ep:=by
   rw[hlen];exact⟨_,uX _ rfl,rfl,rfl⟩
  rcases q with⟨e,q⟩|⟨o',e,q⟩
  .have I2:=Inv.freeze I1 e ho;refine⟨↑s1,[↑s1],_,_,_,rfl,I2.kept (t':=s1.toks) fun b ob e=>uF _ e,qe7 (kvs:=kvs) a _ hd,it0,fun b hb=>?_,q o⟩;have e:b=↑s1:=by simpa using hb
   subst e;exact I2.fpOk (uG _) (I2.hok.fresh (uG _))
  .have eo:o'=o:=by
    have z:=(I1.hok a _ e).1;rw[ho] at z
    cases z
    rfl
   subst eo;refine⟨↑s1,[↑s1],_,_,_,rfl,I1.kept (t':=s1.toks) fun b ob e=>uF _ e,qe7 (kvs:=kvs) a _ hd,it0,fun b hb=>?_,q⟩;have e:b=↑s1:=by simpa using hb
   subst e;exact I1.fpOk (uG _) (I1.hok.fresh (uG _))
 subst e
 cases r1
 obtain⟨o,eo,mo⟩:=m.ob;obtain⟨es,ep,hx,hd,hsz,get⟩:=jhj mo;obtain⟨ho,_⟩:=(show qbg X.prog X.w H1 s1.heap a (qgh a o) from I1.hok a _ eo);refine jnj m.sy ho hx hd ?_;have it0:(s1.heap.push {cls:=.type "dict_keyiterator",data:=.fields #[.ref a,.int 0 0,.int es.size 0,.int ep 0]}).IsKeyIter ↑s1 a 0 kvs.length ep:=by
  rw[<-hsz];exact⟨_,uX _ rfl,rfl,rfl⟩
 refine⟨↑s1,[↑s1],_,_,_,rfl,I1.kept (t':=s1.toks) fun b ob e=>uF _ e,jri (kvs:=kvs) a _ hd mo,it0,fun b hb=>?_,q o eo⟩;have e:b=↑s1:=by simpa using hb
 subst e;exact I1.fpOk (uG _) (I1.hok.fresh (uG _))
section
variable{X:Cx}
noncomputable def jnn(K:uY):List V->Hp->VK->Prop:=fun xs H Q=>jsd K xs H Q\/∃p o,xs=[.ref p,.ty "dict"]/\H p=some (qgh p o)/\o.cls=.type "dict"/\Q (.bl true) H
def jcm:qcc X (.builtin "isinstance") (jnn X.K):=by
 intro pins s σ H xs us Q I hv h;rcases h with h|⟨p,o,rfl,e,hc,q⟩
 .exact qbq pins s σ H xs us Q I hv h
 cases hv with
 |cons r1 hv=>
  cases hv with
  |cons r2 hv=>
   cases hv
   cases r1
   cases(show _=dP "dict" from r2)
   obtain⟨ho,_⟩:=(show qbg X.prog X.w H s.heap p (qgh p o) from I.hok p _ e);exact jf4 I.kIn ⟨o,ho,hc⟩ (by unfold vY;rfl) ⟨.bl true,H,I,rfl,q⟩
end
noncomputable def okV:V->Bool
 | .byt _| .flt _=>false
 |_=>true
section
variable{P:uI}{w:vA}{A:vI}{E:uB->uD->Prop}{s:uD}
def jhk{x y:uB}(h:okV v=true)(hx:qbb v x)(hy:qbb v y):cQ A s x y true:=by
 cases v with
 |non=>cases(show x=_ from hx);cases(show y=_ from hy);exact bG _
 |bl b=>cases(show x=_ from hx);cases(show y=_ from hy);exact bG _
 |ref a=>cases(show x=_ from hx);cases(show y=_ from hy);exact bG _
 |ty n=>cases(show x=_ from hx);cases(show y=_ from hy);exact bG _
 |int i=>
  obtain⟨t,rfl⟩:=hx;obtain⟨u,rfl⟩:=hy;have:=SeqAt.EqAt.int_int (A:=A) (s:=s) i t i u
  rwa [beq_self_eq_true] at this
 |str z=>
  obtain⟨t,rfl⟩:=hx;obtain⟨u,rfl⟩:=hy;have:=gK (A:=A) (s:=s) z t z u
  rwa [beq_self_eq_true] at this
 |byt b=>cases h
 |flt b=>cases h
def jno{nm:String}{a b:Addr}{xs ys:List MX}{Q:Bool->uD->Prop}(hu:A.units<cLine)(ha:(a==wD)=false)(hb:(b==wD)=false)(ma:Mx P w s.heap a xs)(mb:Mx P w s.heap b ys)
  (hl:xs.length=ys.length) (hit:∀(i:Nat) x y,xs[i]?=some x->ys[i]?=some y->x.1=y.1/\cQ A s x.2.2 y.2.2 true) (h:Q true s):uM (uP P w) A (Builtin.Dict.samePairs nm a b) Q E s:=by
 obtain⟨oa,es,ep,hoa,_,hda,hea,hia,hna⟩:=ma;obtain⟨ob,es',ep',hob,_,hdb,heb,hib,hnb⟩:=mb;have s1:=qeo hea;have s2:=qeo heb;unfold Builtin.Dict.samePairs Builtin.Dict.showsAll;rw[iN (show ¬(a==wD)=true by rw[ha];exact uL),iN (show ¬(b==wD)=true by rw[hb];exact uL)];refine uA (uE (uA (uE ?_)));refine uA (xG hoa hda ?_);dsimp only;refine uA (xG hob hdb ?_);rw[iN (by rw[s1,s2,hl];simp)];refine uA (wR hoa hda ?_);refine uA ?_;rw[Std.Legacy.Range.forIn_eq_forIn_range'];simp only[Std.Legacy.Range.size,Nat.sub_zero,cS,Nat.div_one];refine aV _ (fun rest q s'=>s'=s/\q=(none,())/\∀x∈rest,x<es.size) _ ?_ ?_ _ _ ⟨rfl,rfl,fun x hx=>by have:=List.mem_range'_1.mp hx;omega⟩
 .rintro x rest q s' ⟨rfl,rfl,hr⟩;have hlt:x<es.size:=hr x zG;refine uA (xG hoa hda ?_);rw[wY hlt];have hx1:x<xs.length:=by omega
  have hx2:x<ys.length:=by omega
  have e1:es[x]=mxE P w xs[x]:=by
   have:=jc6 hea x;rw[wY hlt,zA hx1] at this;exact vB this
  obtain⟨k1,k2⟩:=hit x _ _ (zA hx1) (zA hx2);show uM _ _ (fJ [es[x].key,es[x].val] _ >>= _) _ _ _;rw[e1];refine uA (vO (uA (jhi hu (hia _ (zJ hx1)) hob hdb heb hib hnb (fun no=>?_) fun j p hj=>?_)))
  .exact absurd (zA hx2) (by
    have:=no x ys[x].2;rw[k1] at this;exact this)
  .have ej:j=x:=by
    refine jle hnb (k:=xs[x].1) (p:=p) (q:=ys[x].2) hj ?_;rw[zA hx2,k1]
   subst ej;refine uA (xG hob hdb ?_);rw[jc6 heb j,zA hx2];refine vO (k2 P w _ _ ?_);show uM _ _ (if(!true)=true then _ else _) _ _ _;rw[iN ∅];refine uA (wR hoa hda ?_);rw[iN (by simp)];exact uE ⟨rfl,rfl,fun y hy=>hr y (zF _ hy)⟩
 .rintro q s' ⟨rfl,rfl,_⟩;exact uE h
def Mx.typeIs(m:Mx P w s.heap a xs):s.TypeIs (.ref a) "dict":=by
 obtain⟨o,_,_,ho,hc,_⟩:=m;exact⟨o,ho,hc.1⟩
end
def DV(P:uI)(w:vA)(H:Hp)(a:Addr)(kvs:List MV):Prop:=MD P w H a kvs\/∃ks:List (Key×V),H a=some (.dK ks)/\kvs=ks.map fun p=>(MK.k p.1,kV p.1,p.2)
def juh{P:uI}{w:vA}{es:List xL}{vs:List (Key×uB)}(r:Pairs (qb2 P w) es vs):∀{ks:List (Key×V)},KV ks vs->(∀e∈es,∃k,(qb2 P w).is k e.key=true/\e.hash=(qb2 P w).hash k)->
  ∃xs:List MX,es=xs.map (mxE P w)/\aM mvR (ks.map fun p=>(MK.k p.1,kV p.1,p.2)) xs/\∀(h:vS),∀x∈xs,qfl P w h x.1 x.2.1:=by
 induction r with
 |nil=>
  intro ks kv _
  cases kv
  exact⟨[],rfl,.nil,fun h x hx=>by cases hx⟩
 | @cons e kv es vs h1 h2 _ ih=>
  intro ks r hk
  cases r with
  | @cons p _ ks' _ a b=>
   obtain⟨xs,e1,e2,e3⟩:=ih b fun e he=>hk e (zF _ he);obtain⟨k,g1,g2⟩:=hk e (zG ..);have ek:k=kv.1:=(qb2 P w).inj _ _ _ g1 h1;subst ek;obtain⟨a1,a2⟩:=a;refine⟨(MK.k kv.1,e.key,e.val)::xs,?_,.cons ⟨show MK.k p.1=MK.k kv.1 by rw[a1],show qbb (kV p.1) e.key by rw[a1];exact jgn h1,show qbb p.2 e.val by rw[h2];exact a2⟩ e2,fun h x hx=>?_⟩
   .rw[zS,<-e1];have:e=mxE P w (MK.k kv.1,e.key,e.val):=by
     obtain⟨eh,ek,ev⟩:=e;show _=(⟨jsa w kv.1,ek,ev⟩:xL);rw[show eh=jsa w kv.1 from g2]
    rw[<-this]
   .rcases zP.mp hx with z|z
    .subst z;have:=qb6 (show qh5 kv.1 e.key=true from h1);rcases this with⟨i,t,q1,q2⟩|⟨x,t,q1,q2⟩
     .rw[q1];exact .inl ⟨t,q2⟩
     .rw[q1];exact⟨t,q2⟩
    .exact e3 h x z
theorem DV.mx(d:DV P w H a kvs)(ok:HOk P w H h):∃xs,aM mvR kvs xs/\Mx P w h a xs/\(a==wD)=false:=by
 rcases d with m|⟨ks,e,rfl⟩
 .obtain⟨xs,r,x⟩:=m.mx ok;exact⟨xs,r,x,m.sy⟩
 .obtain⟨_,hs,vs,rel,o,es,ep,ho,ex,hd,hk,ps,nd⟩:=(show qbg P w H h a (.dK ks) from ok a _ e);obtain⟨xs,e1,e2,e3⟩:=juh ps rel fun e he=>hk e (xT.mp he);refine⟨xs,e2,⟨o,es,ep,ho,ex,hd,e1,e3 h,?_⟩,hs⟩;rw[<-Paired.keys e2,yS];have kk:∀{ks:List (Key×V)} {vs:List (Key×uB)},KV ks vs->vs.map (·.1)=ks.map (·.1):=by
   intro ks vs h
   induction h with
   |nil=>rfl
   |cons a _ ih=>rw[zS,zS,ih,a.1]
  rw[kk rel] at nd;have z:(ks.map fun p=>MK.k p.1)=(ks.map (·.1)).map MK.k:=by rw[yS];rfl
  show(ks.map fun p=>MK.k p.1).Nodup;rw[z];exact List.Pairwise.map MK.k (fun a b h e=>h (by cases e;rfl)) nd
def MD.raw(m:MD P w H a kvs):∃o,H a=some (qgh a o)/\o.cls=.type "dict"/\jsi P w o kvs:=by
 obtain⟨o,e,mo⟩:=m.ob;exact⟨o,e,mo.1.1,mo⟩
section
variable{P:uI}{w:vA}{K:uY}{σ:L2.St}{H:Hp}{D:jam}{Q:VK}{g:TG}{tb:TS}{tl:TE}{a:Addr}{o:Obj}{kvs:List MV}{R:It->Hp->Prop}
def jhl(Pv:Nat->L2.St->Hp->Prop)(h0:Pv 0 σ H)(hl:∀i σ H,i<=kvs.length->Pv i σ H->H a=some (qgh a o))
  (hs:∀i p σ H,kvs[i]?=some p->Pv i σ H->g p.2.1 σ H fun σ2 H2=>tb {nx:=Pv (i+1),rt:=D.rt,bk:=D.nx,ct:=Pv (i+1)} σ2 H2)(hd:∀σ H,Pv kvs.length σ H->D.nx σ H):FOR (ItM a o kvs) g tb D σ H:=by
 refine⟨fun i m σ H=>m=kvs.length-i/\i<=kvs.length/\Pv i σ H,⟨kvs.length,rfl,wV _,h0⟩,?_⟩;rintro i m σ H ⟨rfl,hi,p⟩;have q:=hl i σ H hi p;by_cases hlt:i<kvs.length
 .refine .inr ⟨⟨q,hlt⟩,Pv (i+1),fun σ' H' p'=>⟨kvs.length-(i+1),↑∅,rfl,hlt,p'⟩,fun x H' y=>?_⟩;obtain⟨e,p2,hk,rfl⟩:=y;subst e;exact hs i p2 σ _ hk p
 .have e:i=kvs.length:=cL hi (aU hlt);subst e;exact .inl ⟨⟨q,uG _⟩,hd σ H p⟩
def jiu(h:tl σ H fun x H1=>jsj P w x H1 R):jlg P w tl σ H R:=h
def qeu{ks:List (Key×V)}(e:H a=some (.dK ks))(h:∀o,R (ItD a o ks) (upd H a (.frz o (.dK ks)))):jsj P w (.ref a) H R:=.inl (jjo e h)
def jlh(m:MD P w H a kvs)(h:∀o,H a=some (qgh a o)->R (ItM a o kvs) H):jsj P w (.ref a) H R:=.inr ⟨a,kvs,rfl,m,h⟩
def jli(m:MD P w H a kvs)(q:Q (.bl true) H):jnn K [.ref a,.ty "dict"] H Q:=by
 obtain⟨o,e,hc,_⟩:=m.raw;exact .inr ⟨a,o,rfl,e,hc,q⟩
def qev{xs:List V}(h:jsd K xs H Q):jnn K xs H Q:=.inl h
end
end My
set_option maxHeartbeats 3200000
namespace My
open PySem PySem.Spec PyProof.Rows L2
end My
set_option maxHeartbeats 1000000
namespace My
open PySem PySem.Spec PyProof.Rows L2
section
variable{X:Cx}
noncomputable def jjv(k:MK):uB->Bool
 | .str y _=>decide (k=MK.k (.inr y))
 |_=>false
noncomputable def jvv(K:uY):R2:=fun x y H Q=>∃(k:MK)(p:Addr)(ws:List Str),MkV H k x/\y=.ref p/\SqL K H p (ws.map V.str)/\Q (.bl (!ws.any fun z=>decide (k=MK.k (.inr z)))) H
def jhm{k:MK}:∀{ws:List Str} {us:List uB},qbk (ws.map V.str) us->us.any (jjv k)=ws.any fun z=>decide (k=MK.k (.inr z)):=by
 intro ws
 induction ws with
 |nil=>intro us h;cases h;rfl
 |cons z ws ih=>
  intro us h
  cases h with
  |cons a b=>
   obtain⟨t,rfl⟩:=a;rw[yU,yU,ih b];rfl
def jrj(hu:X.A.units+8<cLine):OpR X (wA .NotIn) (jvv X.K):=by
 intro pins s σ H x y v u Q I rx ry h;obtain⟨k,p,ws,hk,rfl,hS,q⟩:=h
 cases ry
 obtain⟨its,r,pl,hz⟩:=I.list hS;refine SeqAt.notIn_listAt (jjv k) pl.isList (fun w hw=>?_) ⟨.bl _,H,I,rfl,?_⟩
 .have hw:w∈its:=by simpa using hw
  obtain⟨j,hj,rfl⟩:=zR.mp hw;have hl:=r.length;have hj2:j <(ws.map V.str).length:=by omega
  have ra:=qdz r hj2 hj;rw[yR] at ra;obtain⟨t,e⟩:=ra;have hj3:j<ws.length:=by rw[zB] at hj2;exact hj2
  rw[e];show cQ _ s (.str ws[j] t) v (decide (k=MK.k (.inr ws[j])));generalize ws[j]=y
  match k,hk with
  | .k (.inl i),.inl e=>subst e;obtain⟨t',rfl⟩:=rx;rw[iQ (fun e=>by cases e)];exact cO _ _ _ _
  | .k (.inl i),.inr ⟨b,e,_⟩=>subst e;cases(show v=_ from rx);rw[iQ (fun e=>by cases e)];exact fP _ _ _
  | .k (.inr z),e=>
   obtain rfl:x=.str z:=e;obtain⟨t',rfl⟩:=rx;have h:=gK (A:=X.A.in1) (s:=s) y t z t';rw[show decide ((MK.k (.inr z))=.k (.inr y))=(y==z) by
    by_cases c:y=z
    .rw[c,iP rfl];exact(beq_self_eq_true z).symm
    .rw[iQ (fun e=>c (by cases e;rfl))];exact(beq_eq_false_iff_ne.mpr c).symm]
   exact h
  | .no,e=>obtain rfl:x=.non:=e;cases(show v=_ from rx);rw[iQ (fun e=>by cases e)];exact fO _ _
  | .tu ks,⟨b,e,hx⟩=>
   subst e
   cases rx
   obtain⟨i2,r2,p2,_⟩:=I.tuple (.inl (.inl hx));rw[iQ (fun e=>by cases e)];exact SeqAt.EqAt.str_tuple _ _ p2 (show X.A.units+1<cLine by omega)
 .rw[show its.toArray.any (jjv k)=its.any (jjv k) by simp,jhm r];exact q
def jjw{K:uY}{H:Hp}{Q:VK}{k:MK}{x:V}{p:Addr}{ws:List Str}(hk:MkV H k x)(hS:SqL K H p (ws.map V.str))(q:Q (.bl (!ws.any fun z=>decide (k=MK.k (.inr z)))) H):jvv K x (.ref p) H Q:=⟨k,p,ws,hk,rfl,hS,q⟩
end
section
variable{σ:L2.St}{H:Hp}{D:jam}{g:TG}{tb:TS}{z:Str}
def jrk(Pv:Nat->L2.St->Hp->Prop)(h0:Pv 0 σ H)(hs:∀i c σ H,z.cps[i]?=some c->Pv i σ H->g (.str ⟨#[c]⟩) σ H fun σ2 H2=>tb {nx:=Pv (i+1),rt:=D.rt,bk:=D.nx,ct:=Pv (i+1)} σ2 H2)(hd:∀σ H,Pv z.cps.size σ H->D.nx σ H):FOR (Its z) g tb D σ H:=by
 refine⟨fun i m σ H=>m=z.cps.size-i/\i<=z.cps.size/\Pv i σ H,⟨z.cps.size,rfl,wV _,h0⟩,?_⟩;rintro i m σ H ⟨rfl,hi,p⟩;by_cases hlt:i<z.cps.size
 .refine .inr ⟨hlt,Pv (i+1),fun σ' H' p'=>⟨z.cps.size-(i+1),↑∅,rfl,hlt,p'⟩,fun x H' y=>?_⟩;obtain⟨e,c,hc,rfl⟩:=y;subst e;exact hs i c σ _ hc p
 .have e:i=z.cps.size:=cL hi (aU hlt);subst e;exact .inl ⟨rfl,hd σ H p⟩
end
section
variable{σ:L2.St}{H:Hp}{D:jam}{g:TG}{tb:TS}{a:Addr}{o:Obj}{kvs:List (Key×V)}
def jhn(Pv:Nat->L2.St->Hp->Prop)(h0:Pv 0 σ H)(hl:∀i σ H,i<=kvs.length->Pv i σ H->H a=some (.frz o (.dK kvs)))
  (hs:∀i k v σ H,kvs[i]?=some (k,v)->Pv i σ H->g v σ H fun σ2 H2=>tb {nx:=Pv (i+1),rt:=D.rt,bk:=D.nx,ct:=Pv (i+1)} σ2 H2)(hd:∀σ H,Pv kvs.length σ H->D.nx σ H):FOR (ItV a o kvs) g tb D σ H:=by
 refine⟨fun i m σ H=>m=kvs.length-i/\i<=kvs.length/\Pv i σ H,⟨kvs.length,rfl,wV _,h0⟩,?_⟩;rintro i m σ H ⟨rfl,hi,p⟩;have q:=hl i σ H hi p;by_cases hlt:i<kvs.length
 .refine .inr ⟨⟨q,hlt⟩,Pv (i+1),fun σ' H' p'=>⟨kvs.length-(i+1),↑∅,rfl,hlt,p'⟩,fun x H' y=>?_⟩;obtain⟨e,k,hk⟩:=y;subst e;exact hs i k _ σ _ hk p
 .have e:i=kvs.length:=cL hi (aU hlt);subst e;exact .inl ⟨⟨q,uG _⟩,hd σ H p⟩
end
section
variable{P:uI}{w:vA}{A:vI}{E:uB->uD->Prop}{s:uD}
def jui{a b:Addr}{xs ys:List MX}{Q:uB->uD->Prop}(hu:A.units+1<cLine)(ha:(a==wD)=false)(hb:(b==wD)=false)(ma:Mx P w s.heap a xs)(mb:Mx P w s.heap b ys)
  (hl:xs.length=ys.length) (hit:∀(i:Nat) x y,xs[i]?=some x->ys[i]?=some y->x.1=y.1/\cQ A.in1 s x.2.2 y.2.2 true) (h:Q (.bool true) s):uM (uP P w) A (richCompare .Eq (.ref a) (.ref b)) Q E s:=by
 refine xI (op:=.Eq) ma.typeIs mb.typeIs PySem.F.slot_dict_eq (wT PySem.F.slot_dict_eq ma.typeIs PySem.F.entry_dict_eq ?_ (PySem.F.args_dict_eq_2 _ _)) ↑∅;show uM _ _ (Builtin.Dict.dictSlotArgs "__eq__" ⟨[.ref a,.ref b],[]⟩ >>= _) _ _ s;refine uA ?_;unfold Builtin.Dict.dictSlotArgs;refine uA (eY ma.typeIs ?_);show uM _ _ (pure (uS a,uS b)) _ _ s;refine uE ?_;refine uA (wpAny_isInstance (T:="dict") mb.typeIs PySem.F.sub_dict_dict ?_);simp only[dE,xA,if_false];refine uA (uE (uA (uE ?_)));refine uA (jno (by simpa using hu) ha hb ma mb hl hit ?_);refine uE ⟨_,rfl,?_,?_⟩
 .exact fun x=>nomatch x
 .simpa using h
end
def XEq(P:uI)(w:vA)(K:uY)(H:Hp)(x y:V):Prop:=DEq K H 4 x y true\/∃a b ka kb,x=.ref a/\y=.ref b/\a≠b/\DV P w H a ka/\DV P w H b kb/\(ka.map fun p=>(p.1,p.2.2))=(kb.map fun p=>(p.1,p.2.2))/\∀p∈ka,okV p.2.2=true
def Paired.getX{kvs:List MV}{xs:List MX}(r:aM mvR kvs xs):∀(i:Nat) x,xs[i]?=some x->∃p,kvs[i]?=some p/\mvR p x:=by
 induction r with
 |nil=>intro i x h;cases h
 |cons a b ih=>
  intro i x h2
  cases i with
  |zero=>cases h2;exact⟨_,rfl,a⟩
  |succ i=>exact ih i x h2
section
variable{X:Cx}
def XEq.eqW{pins:List (Addr×Obj)}{σ:L2.St}{H:Hp}{s:uD}{x y:V}(I:Inv X pins σ H s)(q:XEq X.prog X.w X.K H x y){A:vI}{u v:uB}(ru:qbb x u)(rv:qbb y v)(hu:A.units+5<cLine):EqW X.prog X.w A s u v true:=by
 rcases q with q|⟨a,b,ka,kb,rfl,rfl,ne,da,db,hm,ok⟩
 .exact(jgh I q A u v ru rv ↑∅).1
 .cases ru
  cases rv
  obtain⟨xs,r1,m1,z1⟩:=da.mx I.hok;obtain⟨ys,r2,m2,z2⟩:=db.mx I.hok;have l1:=congrArg xE (Paired.keys r1);have l2:=congrArg xE (Paired.keys r2);have l3:=congrArg xE hm;simp only[zB] at l1 l2 l3;refine EqW.refs ne fun E Q q=>jui ↑∅ z1 z2 m1 m2 ↑∅ (fun i x y hx hy=>?_) q;obtain⟨p,hp,e1,_,v1⟩:=Paired.getX r1 i x hx;obtain⟨p',hp',e2,_,v2⟩:=Paired.getX r2 i y hy;have hm':=congrArg (·[i]?) hm;rw[zC,zC,hp,hp'] at hm';have hm':=vB hm';have h1:p.1=p'.1:=congrArg (fun z:MK×V=>z.1) hm';have h2:p.2.2=p'.2.2:=congrArg (fun z:MK×V=>z.2) hm';refine⟨by rw[<-e1,<-e2,h1],jhk (ok p (zD hp)) v1 (by rw[h2];exact v2)⟩
noncomputable def jvw(P:uI)(w:vA)(K:uY):R2:=fun x y H Q=>∃a b xs ys,x=.ref a/\y=.ref b/\a≠b/\SqL K H a xs/\SqL K H b ys/\xs.length=ys.length/\(∀j (h1:j<xs.length) (h2:j<ys.length),XEq P w K H xs[j] ys[j])/\Q (.bl false) H
def jrl(hu:X.A.units+8<cLine):OpR X (wA .NotEq) (jvw X.prog X.w X.K):=by
 intro pins s σ H x y v u Q I rx ry h;obtain⟨a,b,xs,ys,rfl,rfl,ne,ha,hb,hl,he,q⟩:=h
 cases rx
 cases ry
 obtain⟨its,r1,p1,_⟩:=I.list ha;obtain⟨its2,r2,p2,_⟩:=I.list hb;have l1:=r1.length;have l2:=r2.length;have z:=RcW.lists (P:=X.prog) (w:=X.w) (A:=X.A) (s:=s) true (f:=fun _=>true) (PlainL.isList p1) (PlainL.isList p2) (by rw[zN,zN];omega) ↑∅ fun j h1 h2=>by
  have k1:j<its.length:=by simpa using h1
  have k2:j<its2.length:=by simpa using h2
  have w:=(he j ↑∅ ↑∅).eqW I (A:=X.A.in1) (qdz r1 ↑∅ k1) (qdz r2 ↑∅ k2) (by show X.A.units+1+5<cLine;omega);simpa using w
 rw[show((uN its.toArray.size).all fun _=>true)=true by simp] at z;exact z X.xe (EP X pins σ Q) ⟨.bl false,H,I,rfl,q⟩
def juj{P:uI}{w:vA}{K:uY}{H:Hp}{Q:VK}{a b:Addr}{xs ys:List V}(ne:a≠b)(ha:SqL K H a xs)(hb:SqL K H b ys)(hl:xs.length=ys.length)(he:∀j (h1:j<xs.length) (h2:j<ys.length),XEq P w K H xs[j] ys[j])(q:Q (.bl false) H):jvw P w K (.ref a) (.ref b) H Q:=⟨a,b,xs,ys,rfl,rfl,ne,ha,hb,hl,he,q⟩
noncomputable def jlj:List V->Hp->VK->Prop:=fun xs H Q=>∃(p:Addr)(kvs:List (Key×V))(ss:List Str),xs=[.ref p]/\Rd H p (.dK kvs)/\kvs.map (·.1)=ss.map vE/\ss.length<64/\∀l,H l=none->Q (.ref l) (upd H l (.lst (ss.map V.str)))
def je1(hc:autoParam (X.calm=true) auR):qcc X (.type "list") jlj:=by
 intro pins s σ H xs us Q I hv h;obtain⟨p,kvs,ss,rfl,hR,hk,hz,q⟩:=h;obtain⟨u,rfl,ru⟩:=hv.one
 cases ru
 obtain⟨o,es,ep,vs,ho,hd,rel,dat,hs⟩:=qgd (hR.ok I.hok);have hlen:=rel.length;have hks:=rel.keys;have hl2:kvs.length=ss.length:=by have:=congrArg xE hk;simpa using this
 refine PySem.W.kdl_call (PySem.W.kdl_dict (knd:=qb2 X.prog X.w) (kvs:=vs) (ep:=ep) hs) (I.ok.hd hc) dat (by rw[xD];omega) fun h' tk acc c' hkeep hS' hacc=>?_;have hal:acc.toList.length=vs.length:=by rw[aZ];exact hacc.1
 have hS:fL acc.toList ss:=by
  refine jch ↑∅ fun j v hv=>?_;obtain⟨k,x,hx,hkv⟩:=hacc.2 j v (by rw[<-xR];exact hv);have e1:(vs.map (·.1))[j]?=some k:=by rw[zC,hx];rfl
  rw[<-hks,hk,zC] at e1;obtain⟨z,hz1,rfl⟩:=vQ.mp e1;exact⟨z,hz1,hkv⟩
 exact⟨.ref _,_,I.laid (a:=↑s) (o:=.lst (ss.map V.str)) (t':=tk) hkeep (uG _) ⟨by rw[zB,xD];omega,acc.toList,c',qe6 hS,by rw[Array.toArray_toList];exact hS'⟩,rfl,q _ (I.hok.fresh (uG _))⟩
def jnp{H:Hp}{Q:VK}{p:Addr}{kvs:List (Key×V)}{ss:List Str}(e:Rd H p (.dK kvs))(hk:kvs.map (·.1)=ss.map vE)(hz:ss.length<64)(h:∀l,H l=none->Q (.ref l) (upd H l (.lst (ss.map V.str)))):jlj [.ref p] H Q:=⟨p,kvs,ss,rfl,e,hk,hz,h⟩
def joq(P:uI)(w:vA)(H:Hp)(y v:V)(a:Addr)(q:Hp->Prop):Prop:=(∃H4,jms H a y v H4/\q H4)\/∃(k:MK)(ks:List (Key×V)),MkV H k y/\H a=some (.dK ks)/\k∉(ks.map fun p=>MK.k p.1)/\ks.length<=60/\∀o,MD P w (upd H a (qgh a o)) a ((ks.map fun p=>(MK.k p.1,kV p.1,p.2))++[(k,y,v)])->q (upd H a (qgh a o))
noncomputable def jlk(P:uI)(w:vA)(td ty tv:TE):TS:=fun D σ H=>tv σ H fun v H1=>td σ H1 fun x H2=>ty σ H2 fun y H3=>∃a,x=.ref a/\joq P w H3 y v a (D.nx σ)
def Paired.app{kvs kvs':List MV}{xs xs':List MX}(r:aM mvR kvs xs)(r':aM mvR kvs' xs'):aM mvR (kvs++kvs') (xs++xs'):=by
 induction r with
 |nil=>exact r'
 |cons h _ ih=>exact .cons h ih
variable{o i value:vT}{td ty tv:TE}{pos pos':Pos}
def jjx(hu:X.A.units+8<cLine)(ho:PE X o td)(hi:PE X i ty)(hv:PE X value tv)(hs:bK value (some (.Subscript o i pos')) pos.line X.env=pure false):
  PS X (.Assign [.Subscript o i pos'] value pos) (jlk X.prog X.w td ty tv):=by
 intro pins s σ H D I h;refine dY (thn (hv pins s σ H _ I h) fun r s1 ⟨v,H1,I1,rv,q1⟩=>thn (ho pins s1 σ H1 _ I1 q1) fun u s2 ⟨x,H2,I2,rx,q2⟩=>thn (hi pins s2 σ H2 _ I2 q2) fun iv s3 h9=>?_) hs;obtain⟨y,H3,I3,ry,a,ex,q3⟩:=h9;subst ex;obtain rfl:u=uS a:=rx;rcases q3 with⟨H4,g,q⟩|⟨k,ks,hk,e,hno,h60,q⟩
 .exact jcd ↑∅ I3 g ry rv fun s4 I4=>⟨σ,H4,I4,q⟩
 .obtain⟨xs,r1,m1,z1⟩:=(show DV X.prog X.w H3 a _ from .inr ⟨ks,e,rfl⟩).mx I3.hok;have hkey:=hk.is I3.hok ry;have l1:=congrArg xE (Paired.keys r1);simp only[zB] at l1;have hno':k∉xs.map (·.1):=by rw[<-Paired.keys r1,yS];exact hno
  show uM _ _ (setItem (.ref a) iv r) _ _ s3;unfold setItem
  try with_reducible refine vO ?_
  refine uA (wpAny_sequenceKey m1.typeIs ∅ ?_);refine uA (bM (name:=uO "__setitem__") m1.typeIs slot_dict_setitem (wT slot_dict_setitem m1.typeIs entry_dict_setitem ?_ (args_dict_setitem _ _ _)));show uM _ _ (Builtin.Dict.notOrdered "__setitem__" ⟨[.ref a,iv,r],[]⟩ >>= _) _ _ s3;refine uA (eY m1.typeIs ?_);show uM _ _ (dictSet a iv r >>= _) _ _ s3;refine uA (jrh (by show X.A.units+1<cLine;omega) hkey m1 hno' ↑∅ fun h' n hn m2 sb=>?_);refine uE ⟨.none,rfl,uE ?_⟩;obtain⟨o2,es,ep,ho2,ex2,hd2,he2,hi2,hn2⟩:=id m2;refine⟨σ,upd H3 a (qgh a o2),qha (t':=n) I3 (by rw[e];exact wF) sb ⟨o2,ho2⟩ (jnm ho2),q o2 ⟨⟨o2,qa1,ex2,es,ep,_,hd2,he2,Paired.app r1 (.cons ⟨rfl,ry,rv⟩ .nil)⟩,fun p hp=>?_,?_,z1⟩⟩
  .have kp:∀b xs,H3 b=some (.tup xs)->upd H3 a (qgh a o2) b=some (.tup xs):=fun b xs e2=>by rw[qa9 (fun z=>by rw[z,e] at e2;cases e2)];exact e2
   rcases zT.mp hp with hp|hp
   .obtain⟨q,_,rfl⟩:=zM.mp hp;obtain⟨k',v'⟩:=q
    cases k' with
    |inl i=>exact .inl rfl
    |inr z=>exact(rfl:kV (.inr z)=V.str z)
   .rw[zK.mp hp];exact hk.keep kp
  .rw[Paired.keys (Paired.app r1 (show aM mvR [(k,y,v)] [(k,iv,r)] from .cons ⟨rfl,ry,rv⟩ .nil))];exact hn2
end
section
variable{P:uI}{w:vA}{σ:L2.St}{H:Hp}{D:jam}{a:Addr}{y v:V}{q:Hp->Prop}
def qgs{td ty tv:TE}(h:tv σ H fun v H1=>td σ H1 fun x H2=>ty σ H2 fun y H3=>∃a,x=.ref a/\joq P w H3 y v a (D.nx σ)):jlk P w td ty tv D σ H:=h
def juk{ks:List (Key×V)}{k:MK}(hk:MkV H k y)(e:H a=some (.dK ks))(hno:k∉(ks.map fun p=>MK.k p.1))(h60:ks.length<=60)(h:∀o,MD P w (upd H a (qgh a o)) a ((ks.map fun p=>(MK.k p.1,kV p.1,p.2))++[(k,y,v)])->q (upd H a (qgh a o))):joq P w H y v a q:=.inr ⟨k,ks,hk,e,hno,h60,h⟩
end
section
variable{X:Cx}
def qgw{pos:Pos}{i:Nat}{x:Str}{e:vT}{te:TE}{pos':Pos}(hN:X.N.Nodup)(hi:X.N[i]?=some x)(hx:L2.Loc X.env.scope x)(he:PEx X e te)
  (hs:autoParam (bK e (some (Expr.Name x pos')) pos.line X.env=pure false) auR)(hf:X.fn x=true\/aO x X.env.scope.names=some NameKind.local:=by first|exact .inl rfl|exact .inr rfl|assumption):
  PSsx X [.Assign [.Name x pos'] e pos] (jol te (qdl i)):=by
 unfold PEx at he;unfold PSsx;exact qa6 (qag hN hi hx he hs hf)
end
end My
set_option exponentiation.threshold 1000
namespace Our
open PySem L2 My
variable{es l:List Nat}{i n j:Nat}{S:Ts}{z y:Str}{e:He}{x v:V}{H H':Hp}{Q:VK}{a b t:Addr}{xs ws ys xs' ys' nm:List Str}{kvs:List (Key×V)}{f g:Str->Option Int}{ts:List Pt}{parts:List (Str×List Str)}{p:List uB->Prop}{c B:Int}{el:Nat->Nat}{L:PL}{R:Rk}
abbrev sr(a:Addr):Option V:=some (.ref a)
noncomputable def qfx(K:uY)(te:Addr)(es:List Addr)(C:Addr)(i:Nat):Bool:=(fB K (.ref C) (.ref te)==some true) && (vY K (.ref C) (.type "ValueError")==some true) && (uN es.length).all fun j=>vY K (.ref C) (.ref (es[j]?.getD 0))==some (j==i)
theorem qca{K:uY}{te C:Addr}{es:List Addr}(h:qfx K te es C i=true):fB K (.ref C) (.ref te)=some true/\vY K (.ref C) (.type "ValueError")=some true/\∀j a,es[j]?=some a->vY K (.ref C) (.ref a)=some (j==i):=by
 unfold qfx at h;rw[vP,vP,zZ] at h;refine⟨beq_iff_eq.mp h.1.1,beq_iff_eq.mp h.1.2,fun j a e=>?_⟩;have:=beq_iff_eq.mp (h.2 j (yM.mpr (uH.mp e).1));rw[e] at this;exact this
noncomputable def top(i:Nat):uZ:=PySem.Challenge.pw_quotatree_k14_refused_foundings.main.body.getD i (.Pass ⟨0,0,0,0⟩)
noncomputable def qe2:uZ->Nat->uZ
 | .ClassDef _ _ _ body _ _ _ _ _ _ _,j=>body.getD j (.Pass ⟨0,0,0,0⟩)
 |s,_=>s
abbrev ja8:uZ:=top 16
abbrev jbg:uZ:=top 17
abbrev jai:uZ:=top 18
abbrev jaz:uZ:=top 20
abbrev jas:uZ:=top 21
abbrev jan:uZ:=top 22
abbrev ja0:uZ:=top 23
abbrev jc7:uZ:=top 24
abbrev jbi:uZ:=top 25
abbrev ja9:uZ:=top 26
abbrev ja1:uZ:=top 33
abbrev jat:uZ:=top 34
abbrev jau:uZ:=top 35
abbrev jah:uZ:=top 36
abbrev jbh:uZ:=top 39
abbrev jc8:uZ:=top 40
abbrev jho:uZ:=top 41
abbrev jc9:uZ:=top 42
abbrev jda:uZ:=top 43
abbrev jhp:uZ:=top 44
abbrev jbj:uZ:=top 45
abbrev jba:uZ:=top 46
abbrev jhq:uZ:=top 47
abbrev jhr:uZ:=top 48
abbrev jhs:uZ:=top 49
abbrev jht:uZ:=top 50
abbrev jhu:uZ:=top 51
abbrev ja2:uZ:=top 52
abbrev jnq:uZ:=top 53
abbrev jhv:uZ:=top 54
abbrev jdb:uZ:=top 55
abbrev jap:uZ:=top 56
abbrev jnr:uZ:=top 57
abbrev jav:uZ:=top 58
abbrev jns:uZ:=top 59
abbrev jdc:uZ:=top 60
abbrev jbk:uZ:=top 61
abbrev jhw:uZ:=top 62
abbrev jnt:uZ:=top 63
abbrev jaw:uZ:=qe2 (top 32) 0
abbrev jaf:uZ:=qe2 (top 37) 0
abbrev jad:uZ:=qe2 (top 37) 1
abbrev jbd:uZ:=qe2 (top 37) 2
abbrev jax:uZ:=qe2 (top 37) 3
abbrev jbb:uZ:=qe2 (top 37) 4
abbrev jae:uZ:=qe2 (top 37) 5
abbrev jaj:uZ:=qe2 (top 37) 6
abbrev jak:uZ:=qe2 (top 37) 7
abbrev ja3:uZ:=qe2 (top 37) 11
abbrev ja4:uZ:=qe2 (top 37) 12
abbrev jao:uZ:=qe2 (top 37) 13
abbrev jac:uZ:=qe2 (top 37) 14
abbrev jag:uZ:=qe2 (top 37) 16
abbrev jaq:uZ:=qe2 (top 12) 0
set_option genSizeOf false in
set_option genInjectivity false in
structure Ad where
 w5m:Addr
 w4r:uT
 w6m:Addr
 w5k:uT
 w2h:Addr
 w24:uT
 w51:Addr
 w42:uT
 w46:Addr
 w39:uT
 w2x:Addr
 w2s:uT
 w4z:Addr
 w4f:uT
 w99:Addr
 w7y:uT
 w7s:Addr
 w6o:uT
 w5g:Addr
 w50:uT
 w4u:Addr
 w3x:uT
 w3s:Addr
 w3n:uT
 w3u:Addr
 w3a:uT
 w25:Addr
 w1x:uT
 w6e:Addr
 w5l:uT
 w9a:Addr
 w7p:uT
 wb5:Addr
 wa5:uT
 w9q:Addr
 w7v:uT
 wae:Addr
 w83:uT
 wbo:Addr
 wa0:uT
 w7k:Addr
 w6b:uT
 w5h:Addr
 w4s:uT
 wbt:Addr
 w9v:uT
 wbf:Addr
 w9z:uT
 wbk:Addr
 wa3:uT
 wbq:Addr
 wa8:uT
 wbs:Addr
 w9s:uT
 w4m:Addr
 w45:uT
 wdc:Addr
 wbp:uT
 wbv:Addr
 w9p:uT
 w9o:Addr
 w7i:uT
 w3b:Addr
 w2z:uT
 wdl:Addr
 wc0:uT
 w4g:Addr
 w3h:uT
 wda:Addr
 wbm:uT
 w9f:Addr
 w7x:uT
 w82:Addr
 w6k:uT
 wb8:Addr
 wa6:uT
 w9i:Addr
 w8y:uT
 w47:Addr
 w3k:uT
 w4p:Addr
 w2w:uT
 wa2:Addr
 w0u:uB
 w3t:Addr
 w2c:uT
 w8e:Addr
 w0m:uB
 w5v:Addr
 w55:uT
 w4c:Addr
 w3e:uT
 w5p:Addr
 w4v:uT
 w1t:Addr
 w1i:uT
 w2g:Addr
 w27:uT
 w2p:Addr
 w26:uT
 w4o:Addr
 w4a:uT
 w4y:Addr
 w48:uT
 w12:Addr
 w0t:uT
 w0w:Addr
 w0q:uT
 w1y:Addr
 w1r:uT
 w3q:Addr
 w2y:uT
 w0g:Addr
 w07:Addr
 w05:Addr
 w09:Addr
 w0f:Addr
 w01:Addr
 w0e:Addr
 w00:Addr
 w0a:Addr
 w03:Addr
 w02:Addr
 w06:Addr
 w08:Addr
 w34:uB
 w11:uB
 w1k:uB
 w1b:uB
 w0z:uB
 w0l:uB
structure Tx(K:uY)(mg:Str->Option uB)(d:Ad):Prop where
 w78:Fun K "is_whole" "is_whole" ja8 d.w5m d.w4r
 wb1:mg "is_whole"=some (.ref d.w5m)
 wau:qat K d.w4r ["thing"] []
 w6j:Fun K "is_name" "is_name" jbg d.w6m d.w5k
 w8t:mg "is_name"=some (.ref d.w6m)
 w97:qat K d.w5k ["thing"] []
 w2n:Fun K "is_whole_from" "is_whole_from" jai d.w2h d.w24
 w44:mg "is_whole_from"=some (.ref d.w2h)
 w4b:qat K d.w24 ["thing","least","most"] []
 w6h:Fun K "is_amount" "is_amount" jaz d.w51 d.w42
 w9e:mg "is_amount"=some (.ref d.w51)
 wac:qat K d.w42 ["thing"] []
 w43:Fun K "amounts_of" "amounts_of" jas d.w46 d.w39
 w60:mg "amounts_of"=some (.ref d.w46)
 w61:qat K d.w39 ["handed","wares"] []
 w4j:Fun K "above_nought" "above_nought" jan d.w2x d.w2s
 w6w:mg "above_nought"=some (.ref d.w2x)
 w72:qat K d.w2s ["amounts"] []
 w4n:Fun K "amount_of" "amount_of" ja0 d.w4z d.w4f
 w6n:mg "amount_of"=some (.ref d.w4z)
 w6c:qat K d.w4f ["amounts","ware"] []
 waa:Fun K "added" "added" jc7 d.w99 d.w7y
 wbe:mg "added"=some (.ref d.w99)
 wbu:qat K d.w7y ["one","other"] []
 war:Fun K "beyond" "beyond" jbi d.w7s d.w6o
 wc8:mg "beyond"=some (.ref d.w7s)
 wca:qat K d.w6o ["one","other"] []
 w7a:Fun K "total_of" "total_of" ja9 d.w5g d.w50
 waw:mg "total_of"=some (.ref d.w5g)
 wat:qat K d.w50 ["many"] []
 w6v:Fun K "are_wares" "are_wares" ja1 d.w4u d.w3x
 w9d:mg "are_wares"=some (.ref d.w4u)
 w9c:qat K d.w3x ["thing"] []
 w40:Fun K "check_name" "check_name" jat d.w3s d.w3n
 w62:mg "check_name"=some (.ref d.w3s)
 w5y:qat K d.w3n ["thing"] []
 w3v:Fun K "read_house" "read_house" jau d.w3u d.w3a
 w5u:mg "read_house"=some (.ref d.w3u)
 w5x:qat K d.w3a ["wares","elder","promise","cap","weight"] []
 w1f:Fun K "check_promises" "check_promises" jah d.w25 d.w1x
 w28:mg "check_promises"=some (.ref d.w25)
 w29:qat K d.w1x ["name","promises","cap"] []
 w0x:Fun K "_law_cell_at" "_law_cell_at" jbh d.w6e d.w5l
 w19:mg "_law_cell_at"=some (.ref d.w6e)
 w16:qat K d.w5l ["_law_script","_law_k"] []
 w88:Fun K "_law_mixed" "_law_mixed" jc8 d.w9a d.w7p
 w9g:mg "_law_mixed"=some (.ref d.w9a)
 w9y:qat K d.w7p ["_law_cell","_law_k"] []
 w8m:Fun K "_law_name" "_law_name" jho d.wb5 d.wa5
 was:mg "_law_name"=some (.ref d.wb5)
 wai:qat K d.wa5 ["_law_cell","_law_k"] []
 w7h:Fun K "_law_whole" "_law_whole" jc9 d.w9q d.w7v
 w9h:mg "_law_whole"=some (.ref d.w9q)
 w9b:qat K d.w7v ["_law_found"] []
 wbd:Fun K "_law_alike" "_law_alike" jda d.wae d.w83
 wdb:mg "_law_alike"=some (.ref d.wae)
 wde:qat K d.w83 ["_law_found","_law_due_here"] []
 wcq:Fun K "_law_some" "_law_some" jhp d.wbo d.wa0
 wdq:mg "_law_some"=some (.ref d.wbo)
 we7:qat K d.wa0 ["_law_handed"] []
 wak:Fun K "_law_elders" "_law_elders" jbj d.w7k d.w6b
 wci:mg "_law_elders"=some (.ref d.w7k)
 wch:qat K d.w6b ["_law_cells","_law_shape"] []
 w75:Fun K "_law_promises" "_law_promises" jba d.w5h d.w4s
 wax:mg "_law_promises"=some (.ref d.w5h)
 wb4:qat K d.w4s ["_law_cells","_law_wares","_law_scale"] []
 waj:Fun K "_law_sums" "_law_sums" jhq d.wbt d.w9v
 wbn:mg "_law_sums"=some (.ref d.wbt)
 wb6:qat K d.w9v ["_law_elders_here","_law_promises_here"] []
 wcs:Fun K "_law_caps" "_law_caps" jhr d.wbf d.w9z
 wdy:mg "_law_caps"=some (.ref d.wbf)
 we1:qat K d.w9z ["_law_cells","_law_sums_here","_law_wares","_law_scale"] []
 wao:Fun K "_law_plan" "_law_plan" jhs d.wbk d.wa3
 wb9:mg "_law_plan"=some (.ref d.wbk)
 wbz:qat K d.wa3 ["_law_script","_law_start","_law_count"] []
 wcv:Fun K "_law_tree" "_law_tree" jht d.wbq d.wa8
 we9:mg "_law_tree"=some (.ref d.wbq)
 wdu:qat K d.wa8 ["_law_plan_here"] []
 wcw:Fun K "_law_line" "_law_line" jhu d.wbs d.w9s
 wdx:mg "_law_line"=some (.ref d.wbs)
 we6:qat K d.w9s ["_law_elders_here","_law_k"] []
 w6p:Fun K "_law_good_name" "_law_good_name" ja2 d.w4m d.w45
 wad:mg "_law_good_name"=some (.ref d.w4m)
 w9u:qat K d.w45 ["_law_thing"] []
 we5:Fun K "_law_bad" "_law_bad" jnq d.wdc d.wbp
 weg:mg "_law_bad"=some (.ref d.wdc)
 wef:qat K d.wbp ["_law_handed","_law_wares"] []
 wcu:Fun K "_law_told" "_law_told" jhv d.wbv d.w9p
 we0:mg "_law_told"=some (.ref d.wbv)
 wdv:qat K d.w9p ["_law_e"] []
 wb7:Fun K "_law_place" "_law_place" jdb d.w9o d.w7i
 wdj:mg "_law_place"=some (.ref d.w9o)
 wd1:qat K d.w7i ["_law_plan_here","_law_line_here","_law_more"] []
 w3m:Fun K "_law_odd_amounts" "_law_odd_amounts" jap d.w3b d.w2z
 w5e:mg "_law_odd_amounts"=some (.ref d.w3b)
 w54:qat K d.w2z ["_law_handed","_law_cell","_law_wares","_law_stranger"] []
 wdi:Fun K "_law_row" "_law_row" jnr d.wdl d.wc0
 wdz:mg "_law_row"=some (.ref d.wdl)
 wea:qat K d.wc0 ["_law_script","_law_plan_here"] []
 w3y:Fun K "_law_house_name" "_law_house_name" jav d.w4g d.w3h
 w5q:mg "_law_house_name"=some (.ref d.w4g)
 w5t:qat K d.w3h ["_law_script","_law_k"] []
 wc9:Fun K "_law_due" "_law_due" jns d.wda d.wbm
 wd8:mg "_law_due"=some (.ref d.wda)
 wdh:qat K d.wbm ["_law_plan_here","_law_row_here"] []
 wa9:Fun K "_law_tried" "_law_tried" jdc d.w9f d.w7x
 wc2:mg "_law_tried"=some (.ref d.w9f)
 wbw:qat K d.w7x ["_law_tree_here","_law_plan_here","_law_row_here"] []
 wal:Fun K "_law_stands" "_law_stands" jbk d.w82 d.w6k
 wcg:mg "_law_stands"=some (.ref d.w82)
 wcj:qat K d.w6k ["_law_tree_here","_law_plan_here"] []
 wcr:Fun K "_law_base" "_law_base" jhw d.wb8 d.wa6
 web:mg "_law_base"=some (.ref d.wb8)
 we8:qat K d.wa6 ["_law_script"] []
 wee:Fun K "law" "law" jnt d.w9i d.w8y
 weh:mg "law"=some (.ref d.w9i)
 w8d:Fun K "__init__" "House.__init__" jaw d.w47 d.w3k
 w8c:qat K d.w3k ["self","elder","promise","cap","weight"] []
 w98:My.FunD K "__init__" "Tree.__init__" jaf d.w4p d.w2w d.wa2 (List.toArray [d.w0u])
 wdf:qat K d.w2w ["self","wares","name","promise","cap","weight"] []
 w8v:qat K d.w2w ["self","wares","name","promise","cap","weight"] [d.w0u]
 w91:qbk [.int 1] [d.w0u]
 w8i:My.FunD K "found" "Tree.found" jad d.w3t d.w2c d.w8e (List.toArray [d.w0m])
 w8u:qat K d.w2c ["self","name","elder","promise","cap","weight"] []
 w86:qat K d.w2c ["self","name","elder","promise","cap","weight"] [d.w0m]
 w7j:qbk [.int 1] [d.w0m]
 wcp:Fun K "wares" "Tree.wares" jbd d.w5v d.w55
 wcn:qat K d.w55 ["self"] []
 w8o:Fun K "names" "Tree.names" jax d.w4c d.w3e
 w8j:qat K d.w3e ["self"] []
 wav:Fun K "has" "Tree.has" jbb d.w5p d.w4v
 w5i:qat K d.w4v ["self","thing"] []
 w5b:Fun K "check_house" "Tree.check_house" jae d.w1t d.w1i
 w1q:qat K d.w1i ["self","thing"] []
 w6l:Fun K "house_of" "Tree.house_of" jaj d.w2g d.w27
 w6s:qat K d.w27 ["self","name"] []
 w6u:Fun K "elder_of" "Tree.elder_of" jak d.w2p d.w26
 w1p:qat K d.w26 ["self","name"] []
 wa1:Fun K "kids" "Tree.kids" ja3 d.w4o d.w4a
 w9r:qat K d.w4a ["self","name"] []
 w9x:Fun K "line" "Tree.line" ja4 d.w4y d.w48
 wa4:qat K d.w48 ["self","name"] []
 w71:Fun K "beneath" "Tree.beneath" jao d.w12 d.w0t
 w4k:qat K d.w0t ["self","name"] []
 w3d:Fun K "promised_beneath" "Tree.promised_beneath" jac d.w0w d.w0q
 w1o:qat K d.w0q ["self","name"] []
 w5j:Fun K "check_more" "Tree.check_more" jag d.w1y d.w1r
 w5f:qat K d.w1r ["self","names","more"] []
 w7o:Fun K "__init__" "NoPromise.__init__" jaq d.w3q d.w2y
 w5z:My.XClI K d.w00 d.w3q
 w87:qat K d.w2y ["self","house","ware"] []
 wd0:mg "House"=some (.ref d.w0g)
 we3:mg "Tree"=some (.ref d.w07)
 w6t:mg "TreeError"=some (.ref d.w05)
 wan:mg "NoName"=some (.ref d.w09)
 wbg:mg "Taken"=some (.ref d.w0f)
 w94:mg "NoHouse"=some (.ref d.w01)
 wce:mg "NoMove"=some (.ref d.w0e)
 w6f:mg "NoPromise"=some (.ref d.w00)
 w7q:mg "NoWare"=some (.ref d.w0a)
 w5n:mg "NoAmount"=some (.ref d.w03)
 w77:mg "NoNumber"=some (.ref d.w02)
 w8h:mg "TooMany"=some (.ref d.w06)
 w8l:mg "TooDeep"=some (.ref d.w08)
 wbc:mg "LETTERS"=some d.w34
 w41:qbb (.str "abcdefghijklmnopqrstuvwxyz") d.w34
 w6z:mg "LONGEST_NAME"=some d.w11
 w1d:qbb (.int 8) d.w11
 w8q:mg "MOST_WARES"=some d.w1k
 w20:qbb (.int 6) d.w1k
 w80:mg "MOST_HOUSES"=some d.w1b
 w1n:qbb (.int 40) d.w1b
 w6y:mg "LONGEST_LINE"=some d.w0z
 w1c:qbb (.int 12) d.w0z
 w5o:mg "GREATEST_WEIGHT"=some d.w0l
 w0p:qbb (.int 1000) d.w0l
 w95:mg "ValueError"=none
 wdt:mg "all"=none
 wct:mg "bool"=none
 w5d:mg "dict"=none
 wd2:mg "int"=none
 w04:mg "isinstance"=none
 w1l:mg "len"=none
 wbb:mg "list"=none
 wdw:mg "max"=none
 wbj:mg "min"=none
 w13:mg "range"=none
 wed:mg "set"=none
 w3l:mg "sorted"=none
 wbl:mg "str"=none
 w1m:Cls K d.w0g
 w0b:Cls K d.w07
 w5c:Mk K d.w0g d.w47
 w6i:Mk K d.w07 d.w4p
 w17:My.XAt K d.w00
 w15:qfx K d.w05 [d.w09,d.w0f,d.w01,d.w0a,d.w03,d.w02,d.w06,d.w08,d.w0e,d.w00] d.w00 9=true
 w38:My.XAt K d.w09
 w21:qfx K d.w05 [d.w09,d.w0f,d.w01,d.w0a,d.w03,d.w02,d.w06,d.w08,d.w0e,d.w00] d.w09 0=true
 w57:My.XAt K d.w0f
 w4h:qfx K d.w05 [d.w09,d.w0f,d.w01,d.w0a,d.w03,d.w02,d.w06,d.w08,d.w0e,d.w00] d.w0f 1=true
 w32:My.XAt K d.w01
 w2f:qfx K d.w05 [d.w09,d.w0f,d.w01,d.w0a,d.w03,d.w02,d.w06,d.w08,d.w0e,d.w00] d.w01 2=true
 w49:My.XAt K d.w0a
 w4e:qfx K d.w05 [d.w09,d.w0f,d.w01,d.w0a,d.w03,d.w02,d.w06,d.w08,d.w0e,d.w00] d.w0a 3=true
 w2j:My.XAt K d.w03
 w2m:qfx K d.w05 [d.w09,d.w0f,d.w01,d.w0a,d.w03,d.w02,d.w06,d.w08,d.w0e,d.w00] d.w03 4=true
 w2q:My.XAt K d.w02
 w1u:qfx K d.w05 [d.w09,d.w0f,d.w01,d.w0a,d.w03,d.w02,d.w06,d.w08,d.w0e,d.w00] d.w02 5=true
 w36:My.XAt K d.w06
 w2d:qfx K d.w05 [d.w09,d.w0f,d.w01,d.w0a,d.w03,d.w02,d.w06,d.w08,d.w0e,d.w00] d.w06 6=true
 w33:My.XAt K d.w08
 w2e:qfx K d.w05 [d.w09,d.w0f,d.w01,d.w0a,d.w03,d.w02,d.w06,d.w08,d.w0e,d.w00] d.w08 7=true
 w2l:My.XBase K d.w05
 wdp:vC K (.ref d.w00) "house"=some none
 wdo:vC K (.ref d.w00) "ware"=some none
 w1a:ja7 K d.w07 "found" d.w3t
 w2b:ja7 K d.w07 "wares" d.w5v
 w1s:ja7 K d.w07 "names" d.w4c
 w1h:ja7 K d.w07 "has" d.w5p
 w0h:ja7 K d.w07 "check_house" d.w1t
 w0y:ja7 K d.w07 "house_of" d.w2g
 w0k:ja7 K d.w07 "elder_of" d.w2p
 w23:ja7 K d.w07 "kids" d.w4o
 w22:ja7 K d.w07 "line" d.w4y
 w0r:ja7 K d.w07 "beneath" d.w12
 w0d:ja7 K d.w07 "promised_beneath" d.w0w
 w0n:ja7 K d.w07 "check_more" d.w1y
 w0o:vC K (.ref d.w0g) "elder"=some none
 w0j:vC K (.ref d.w0g) "promise"=some none
 w0v:vC K (.ref d.w0g) "cap"=some none
 w18:vC K (.ref d.w0g) "weight"=some none
 w0i:vC K (.ref d.w07) "sorted_wares"=some none
 w0c:vC K (.ref d.w07) "houses"=some none
 wbx:My.XCls K d.w01
 w79:My.XCls K d.w03
 waq:My.XCls K d.w0a
 wcc:My.XCls K d.w09
 waz:My.XCls K d.w02
 wcz:My.XCls K d.w0f
 wc3:My.XCls K d.w06
 wc1:My.XCls K d.w08
 wec:My.XCls K d.w0e
 w2o:fB K (.ref d.w05) (.type "BaseException")=some true
noncomputable def eV:Option Str->V
 |none=> .non
 |some z=> .str z
structure Ho where
 el:Option Str
 pa:Addr
 kp:List (Key×V)
 fp:Str->Option Int
 ca:Addr
 kc:List (Key×V)
 fc:Str->Option Int
 w:Int
structure He where
 n:Str
 a:Addr
 x:Ho
structure Ts where
 sw:Addr
 ws:List Str
 hs:Addr
 hl:List He
noncomputable def fsH(x:Ho):List (Str×V):=[("elder",eV x.el),("promise",.ref x.pa),("cap",.ref x.ca),("weight",.int x.w)]
def jrm(d:Ad)(H:Hp)(a:Addr)(x:Ho):Prop:=(∃dx,H a=some (.ins d.w0g dx (fsH x)))/\H x.pa=some (.dK x.kp)/\AD x.kp x.fp/\H x.ca=some (.dK x.kc)/\AD x.kc x.fc
def jrm.same{d:Ad}{H H':Hp}{a:Addr}{x:Ho}(h:jrm d H a x)(s:qas H H'):jrm d H' a x:=⟨let ⟨dx,e⟩:=h.1;⟨dx,s _ _ e⟩,s _ _ h.2.1,h.2.2.1,s _ _ h.2.2.2.1,h.2.2.2.2⟩
noncomputable def Ts.keys(S:Ts):List (Str×Addr):=S.hl.map fun e=>(e.n,e.a)
noncomputable def Ts.at(S:Ts)(z:Str):Option He:=S.hl.find? fun e=>decide (e.n=z)
noncomputable def fsT(S:Ts):List (Str×V):=[("sorted_wares",.ref S.sw),("houses",.ref S.hs)]
def qdy(d:Ad)(H:Hp)(t:Addr)(S:Ts):Prop:=(∃dx,H t=some (.ins d.w07 dx (fsT S)))/\H S.sw=some (.lst (S.ws.map V.str))/\H S.hs=some (.dK (oK S.keys))/\(S.hl.map (·.n)).Nodup/\S.hl.length<=60/\∀e∈S.hl,jrm d H e.a e.x
theorem qdy.same{d:Ad}{H H':Hp}{t:Addr}{S:Ts}(h:qdy d H t S)(s:qas H H'):qdy d H' t S:=
 ⟨let ⟨dx,e⟩:=h.1;⟨dx,s _ _ e⟩,s _ _ h.2.1,s _ _ h.2.2.1,h.2.2.2.1,h.2.2.2.2.1,fun e he=>(h.2.2.2.2.2 e he).same s⟩
theorem qcv(S:Ts)(z:Str):qdc S.keys z=(S.at z).map (·.a):=by
 obtain⟨sw,ws,hs,hl⟩:=S;unfold Ts.keys Ts.at;dsimp only
 induction hl with
 |nil=>rfl
 |cons e r ih=>
  rw[zS,yK];unfold qdc;by_cases q:e.n=z
  .rw[iO q,iP q];rfl
  .rw[iN q,iQ q];exact ih
def qbw(h:S.at z=some e):e∈S.hl/\e.n=z:=⟨List.mem_of_find?_eq_some h,by have:=List.find?_some h;simpa using this⟩
def jvx(K:uY)(H:Hp)(x:V):Prop:=∃t,ja5 K H x t/\vY K t (.type "str")=some false
def qes(K:uY)(H:Hp)(x:V):Prop:=(∃z,x=.str z)\/(jvx K H x/\∀z,x≠ .str z)
noncomputable def who(S:Ts):V->Option He
 | .str z=>S.at z
 |_=>none
theorem qej(h:∀z,x≠ .str z):who S x=none:=by
 cases x<;>first|rfl|(rename_i z;exact absurd rfl (h z))
def wa7(K:uY)(d:Ad):Sp:=fun vs H Q _=>∃(t:Addr)(S:Ts)(x:V),vs=[.ref t,x]/\qdy d H t S/\qes K H x/\Q (.bl (who S x).isSome) H
def w4q(K:uY)(d:Ad):Sp:=fun vs H Q E=>∃(t:Addr)(S:Ts)(x:V),vs=[.ref t,x]/\qdy d H t S/\qes K H x/\(∀e,who S x=some e->Q .non H)/\(who S x=none->E (.ref d.w01) none H)
def w69(K:uY)(d:Ad):Sp:=fun vs H Q E=>∃(t:Addr)(S:Ts)(x:V),vs=[.ref t,x]/\qdy d H t S/\qes K H x/\(∀e,who S x=some e->Q (.ref e.a) H)/\(who S x=none->E (.ref d.w01) none H)
def w65(K:uY)(d:Ad):Sp:=fun vs H Q E=>∃(t:Addr)(S:Ts)(x:V),vs=[.ref t,x]/\qdy d H t S/\qes K H x/\(∀e,who S x=some e->Q (eV e.x.el) H)/\(who S x=none->E (.ref d.w01) none H)
def w7w(K:uY)(d:Ad):Sp:=fun vs H Q _=>∃(t:Addr)(S:Ts),vs=[.ref t]/\qdy d H t S/\∀l ss,H l=none->ss.Perm (S.hl.map (·.n))->xF ss=true->Q (.ref l) (upd H l (.lst (ss.map V.str)))
def jnu{a:Str}(h:Q (.bl true) H):jja (.str a) .non H Q:=⟨rfl,h⟩
theorem ja5.same{K:uY}{H H':Hp}{x:V}{t:uB}(h:ja5 K H x t)(s:qas H H'):ja5 K H' x t:=by
 cases h with
 |non=>exact .non
 |bl b=>exact .bl b
 |int i=>exact .int i
 |str z=>exact .str z
 |flt z=>exact .flt z
 |lst e=>exact .lst (s _ _ e)
 |frz e=>exact .frz (s _ _ e)
 |tup e=>exact .tup (s _ _ e)
 |dK e=>exact .dK (s _ _ e)
 |dT e=>exact .dT (s _ _ e)
 |ins e c a n k m=>exact .ins (s _ _ e) c a n k m
theorem qes.same{K:uY}{H H':Hp}{x:V}(h:qes K H x)(s:qas H H'):qes K H' x:=by
 rcases h with h|⟨⟨t,a,b⟩,n⟩
 .exact .inl h
 .exact .inr ⟨⟨t,ja5.same a s,b⟩,n⟩
inductive jal(S:Ts):Str->List Str->Prop
 |top{z:Str}{e:He}(h:S.at z=some e)(n:e.x.el=none):jal S z [z]
 |up{z y:Str}{e:He}{zs:List Str}(h:S.at z=some e)(n:e.x.el=some y)(r:jal S y zs):jal S z (z::zs)
noncomputable def jll(S:Ts):Option Str->List Str->Prop
 |none,zs=>zs=[]
 |some y,zs=>jal S y zs
theorem jal.open{zs:List Str}(h:jal S z zs):∃e r,S.at z=some e/\zs=z::r/\jll S e.x.el r:=by
 cases h with
 |top h n=>exact⟨_,[],h,rfl,by rw[n];rfl⟩
 |up h n r=>exact⟨_,_,h,rfl,by rw[n];exact r⟩
noncomputable def jjy(l:Addr)(H:Hp):Nat:=match H l with
 |some (.lst xs)=>xs.length
 |_=>0
theorem jd6{l:Addr}{xs:List V}(e:H l=some (.lst xs)):jjy l H=xs.length:=by unfold jjy;rw[e]
def w8p(K:uY)(d:Ad):Sp:=fun vs H Q E=>∃(t:Addr)(S:Ts)(x:V),vs=[.ref t,x]/\qdy d H t S/\
 ((∃z zs,x=.str z/\jal S z zs/\zs.length<=1000/\∀l,H l=none->Q (.ref l) (upd H l (.lst (zs.map V.str))))\/(qes K H x/\who S x=none/\∀l,H l=none->E (.ref d.w01) none (upd H l (.lst [x]))))
noncomputable def qbj(S:Ts)(z:Str):List Str:=(S.hl.filter fun e=>decide (e.x.el=some z)).map (·.n)
def w92(K:uY)(d:Ad):Sp:=fun vs H Q E=>∃(t:Addr)(S:Ts)(x:V),vs=[.ref t,x]/\qdy d H t S/\qes K H x/\(∀e,who S x=some e->∀l ss H',qas H H'->H l=none->H' l=some (.lst (ss.map V.str))->ss.Perm (qbj S e.n)->xF ss=true->Q (.ref l) H')/\(who S x=none->E (.ref d.w01) none H)
inductive jbe(K:uY)(d:Ad)(vs:List V)(H:Hp)(Q:VK)(E:XK):Prop
 |mk(a:Addr)(kvs:List (Key×V))(f:Str->Option Int)(z:Str)(_:vs=[.ref a,.str z])(_:Rd H a (.dK kvs))(_:AD kvs f)(_:Q (.int (gN f z)) H)
def w6r(K:uY)(d:Ad):Sp:=fun vs H Q _=>∃(a:Addr)(kvs:List (Key×V))(f:Str->Option Int),vs=[.ref a]/\H a=some (.dK kvs)/\AD kvs f/\kvs.length<=1000/\
 ∀l k' H',qas H H'->H l=none->H' l=some (.dK k')->AD k' (qbm f)->Q (.ref l) H'
inductive jjz(K:uY)(d:Ad)(vs:List V)(H:Hp)(Q:VK)(E:XK):Prop
 |mk(a b:Addr)(ka kb:List (Key×V))(f g:Str->Option Int)(_:vs=[.ref a,.ref b])(_:Rd H a (.dK ka))(_:H b=some (.dK kb))(_:AD ka f)(_:AD kb g)(_:ka.length<=1000)(_:kb.length<=1000)(_:∀l k' H',qas H H'->H l=none->H' l=some (.dK k')->AD k' (qdx f g)->Q (.ref l) H')
inductive jhx(K:uY)(d:Ad)(vs:List V)(H:Hp)(Q:VK)(E:XK):Prop
 |mk(a b:Addr)(ka kb:List (Key×V))(f g:Str->Option Int)(_:vs=[.ref a,.ref b])(_:Rd H a (.dK ka))(_:Rd H b (.dK kb))(_:AD ka f)(_:AD kb g)(_:ka.length<64)(_:(∀H',qas H H'->(∀y,¬qfv f g y)->Q .non H'))(_:∀z H',qas H H'->qfv f g z->(∀y,qfv f g y->leS z y)->Q (.str z) H')
structure Pt where
 a:Addr
 k:List (Key×V)
 f:Str->Option Int
noncomputable def qei(ts:List Pt):Str->Option Int:=ts.foldl (fun f t=>qdx f t.f) noF
def jw8(H:Hp)(ws:List Str)(t:Pt):Prop:=H t.a=some (.dK t.k)/\AD t.k t.f/\∀z,t.f z≠none->z∈ws
def w9n(K:uY)(d:Ad):Sp:=fun vs H Q _=>∃(L:Addr)(ts:List Pt)(ws:List Str),vs=[.ref L]/\SqL K H L (ts.map fun t=> .ref t.a)/\ws.length<=100/\(∀t∈ts,jw8 H ws t)/\
 ∀l k' H',qas H H'->H l=none->H' l=some (.dK k')->AD k' (qei ts)->Q (.ref l) H'
section
variable{K:uY}{d:Ad}{H:Hp}{Q:VK}{E:XK}
def jj0(hR:Rd H a (.dK kvs))(hA:AD kvs f)(q:Q (.int (gN f z)) H):jbe K d [.ref a,.str z] H Q E:=⟨a,kvs,f,z,rfl,hR,hA,q⟩
end
local macro_rules | `(tactic| walk_at "kit") => `(tactic| (with_reducible (first
 |assumption|exact jcx|exact jb9|exact jca
 |exact qh4|exact jcy|exact jcz|exact jc0)))
local macro_rules | `(tactic| walk_at "ty") => `(tactic| (first
 |(with_reducible assumption) |(with_reducible exact ja5.int _) |(with_reducible exact ja5.bl _) |(with_reducible exact ja5.str _)
 |(with_reducible exact ja5.non) |((with_reducible refine' ja5.tup ?h);(case h=>walk_at "heap")) |((with_reducible refine' ja5.lst ?h);(case h=>walk_at "heap")) |((with_reducible refine' ja5.dK ?h);(case h=>walk_at "heap"))))
local macro_rules | `(tactic| walk_at "heap") => `(tactic| first
 |with_reducible assumption|with_reducible exact qa1|((with_reducible refine' qa7 ?h ?n);(case n=>with_reducible assumption);(case h=>walk_at "heap")))
local macro_rules | `(tactic| walk_at "sqL") => `(tactic| first
 |with_reducible assumption|((with_reducible refine' qe0 ?h ?n);(case n=>with_reducible assumption);(case h=>walk_at "sqL")) |((with_reducible refine' SqL.of ?h);(case h=>walk_at "heap")))
local macro_rules | `(tactic| walk_at "sqT") => `(tactic| first
 |with_reducible assumption|((with_reducible refine' SqT.of ?h);(case h=>walk_at "heap")))
local macro_rules | `(tactic| walk_at "side") => `(tactic| first
 |assumption|exact rfl|omega|decide
 |(simp only[zI,yF,zB];omega) |exact⟨↑∅,↑∅⟩|exact⟨∅,∅⟩|exact⟨↑∅,by assumption⟩
 |exact⟨by assumption,by assumption⟩|exact⟨∅,by assumption⟩|exact⟨∅,∅,∅⟩)
local macro_rules | `(tactic| walk_at "size") => `(tactic| (first
 |assumption|(simp only[zI,yF,zB,yN];first|decide|(show _<=16777216;omega) |(show _<16777216;omega)) |(show _<=16777216;omega) |(show _<16777216;omega)))
local macro_rules | `(tactic| walk_at "sp") => `(tactic| fail)
local macro_rules | `(tactic| walk_at "r1") => `(tactic| first
 |(with_reducible refine jsw (by with_unfolding_all exact rfl) ?_) |(with_reducible first|refine r_c ?_|refine jv9 ?_|refine jwa ?_|refine jwb ?_|refine r_U ?_) |((with_reducible refine r_I ?hc ?_);(case hc=>walk_at "side")) |(with_reducible first|refine jsx ?_|refine jsy ?_|refine jsz ?_|refine js0 ?_|refine js1 ?_|refine jpe ?_|refine jwc ?_|refine jwd ?_|refine js2 ?_|refine jpf ?_|refine js3 ?_|refine jpg ?_|refine js4 ?_|refine jph ?_|refine js5 ?_|refine jpi ?_|refine js6 ?_|refine jwe ?_|refine js7 ?_)
 |(with_reducible refine jpj (by with_unfolding_all (simp only [List.set];exact rfl)) ?_) |(with_reducible first|refine jpk ?_|refine jmm ?_) |((with_reducible refine' jpl ?s ?n ?_);(case s=>walk_at "sqT");(case n=>exact rfl)) |(with_reducible first|refine jtd ?_|refine jwj ?_|refine jwk ?_)
 |((with_reducible refine' jte ?s ?_);(case s=>walk_at "sqL")) |((with_reducible refine' jtf ?s ?t ?_);(case s=>walk_at "side");(case t=>walk_at "side")) |(with_reducible refine jpo (by with_unfolding_all (simp only [List.set];exact rfl)) ?_) |(with_reducible first|refine jwf ?_|refine jwg ?_|refine js8 ?_|refine jpm ?_|refine js9 ?_|refine jta ?_)
 |((with_reducible refine jtb ?n ?_);(case n=>(simp only [zI,yF];decide))) |((with_reducible refine jmp ?_);intro p hp) |(with_reducible first|refine jwi ?_|refine jpn ?_|refine jmn ?_|refine jwh ?_) |((with_reducible refine jtc ?_);intro pins)
 |(with_reducible first|refine jmo ?_|refine jp8 ?_|refine jp9 ?_|refine jwr ?_|refine jtl ?_|refine jtk ?_) |((with_reducible refine' jtm ?a ?z ?_);(case a=>walk_at "heap");(case z=>walk_at "size")) |((with_reducible refine' jkw ?z ?_);(case z=>walk_at "size")) |((with_reducible refine' jp6 ?z ?_);(case z=>walk_at "size"))
 |(with_reducible first|refine jwq ?_|refine jjh ?_|refine jp4 ?_|refine jtj ?_|refine jmy ?_) |((with_reducible refine' jkq ?s ?_);(case s=>walk_at "sqL")) |(with_reducible first|refine jmq ?_|refine jmr ?_) |((with_reducible refine' jml ?t ?k ?_);(case t=>walk_at "ty");(case k=>walk_at "kit"))
 |(with_reducible first|refine jwn ?_|refine jwo ?_|refine qez ?_|refine jkl ?_) |((with_reducible refine i_t ?c ?_);(case c=>walk_at "side")) |((with_reducible refine i_f ?c ?_);(case c=>walk_at "side")) |((with_reducible refine jwl ?c ?_);(case c=>walk_at "side"))
 |((with_reducible refine jwm ?c ?_);(case c=>walk_at "side")) |walk_at "sp")
local macro_rules | `(tactic| walk_at "g") => `(tactic| repeat walk_at "r1")
local macro_rules|`(tactic|left)=>`(tactic|walk_at "g")
local macro_rules|`(~~~$x)=>`(qao qab (pv $x) qa5 fun _ _=>rfl)
set_option hygiene false in
local macro_rules|`($x|||$y)=>`(qct (qc1 hr) $x $y fun _ _=>rfl)
local macro_rules|`(#[()])=>`(⟨rfl,rfl,rfl,by decide+kernel,rfl,by decide+kernel,by decide+kernel⟩)|`(#[])=>`(by omega)|`(#[$x])=>`(qa0 $x qa2)|`(#[$x,$y,*])=>`(qa0 $x #[$y,*])
set_option hygiene false in
local macro_rules|`(tactic|exists $x)=>`(tactic|refine $x (fun vs H Q E h=>?_) (fun cdv A outer s H vs Q E hr h=>?_))|`(tactic|exists $x,$y)=>`(tactic|(refine⟨_,$x,?_⟩;walk_at "d";refine qak (σ:=$y) rfl ?_))
set_option hygiene false in
local macro_rules|`(tactic|right)=>`(tactic|first|(obtain⟨_,rfl,_⟩:=h;rfl)|(obtain⟨_,_,rfl,_⟩:=h;rfl)|(obtain⟨_,_,_,rfl,_⟩:=h;rfl)|(obtain⟨_,_,_,_,rfl,_⟩:=h;rfl)|(obtain⟨_,_,_,_,_,rfl,_⟩:=h;rfl)|(obtain⟨_,_,_,_,_,_,rfl,_⟩:=h;rfl)|(obtain⟨_,_,_,_,_,_,_,rfl,_⟩:=h;rfl)|(obtain⟨_,_,_,_,_,_,_,_,rfl,_⟩:=h;rfl)|(obtain⟨_,_,_,_,_,_,_,_,_,_,_,_,rfl,_⟩:=h;rfl))
local macro_rules | `(tactic| walk_at "d") => `(tactic| try dsimp only [L2.cxOf, L2.Cx.nox, L2.Cx.wish, My.xw, pnd, suite])
local macro_rules | `(tactic| walk_at "rd") => `(tactic| first
 |with_reducible assumption|((with_reducible refine' jck ?h ?n);(case n=>with_reducible assumption);(case h=>walk_at "rd")) |((with_reducible refine' Rd.of ?h);(case h=>walk_at "heap")))
local macro_rules | `(tactic| walk_at "same") => `(tactic| first
 |with_reducible assumption|exact qas.refl _|((with_reducible refine' qgq ?h ?n);(case n=>with_reducible assumption);(case h=>walk_at "same")))
local macro_rules | `(tactic| walk_at "sp") => `(tactic| first
 |((with_reducible refine jnc ?_);intro p hp) |((with_reducible refine' jw5 ?e ?_);(case e=>walk_at "heap")) |((with_reducible refine' jq2 ?s ?n ?_);(case s=>walk_at "sqL");(case n=>exact rfl)) |((with_reducible refine' jj0 ?r ?a ?_);(case r=>walk_at "rd");(case a=>with_reducible assumption))
 |(with_reducible refine jqb ?_) |((with_reducible refine' qb5 ?s ?e ?_);(case s=>walk_at "sqL");(case e=>exact rfl)) |(with_reducible refine jt5 ?_) |((with_reducible refine' jqu ?r ?_);(case r=>walk_at "rd"))
 |((with_reducible refine' jqv ?r ?a ?_);(case r=>walk_at "rd");(case a=>with_reducible assumption)) |(with_reducible refine jww ?_) |((with_reducible refine' jqw ?r ?a ?e ?_);(case r=>walk_at "rd");(case a=>with_reducible assumption);(case e=>with_reducible assumption)) |(with_reducible refine jwx ?_)
 |((with_reducible refine' jqx ?e ?z ?_);(case e=>walk_at "heap");(case z=>walk_at "size")) |((with_reducible refine jqy ?_);intro p hp) |(with_reducible first|refine jt3 ?_|refine jwv ?_) |((with_reducible refine' jjp ?e ?_);(case e=>walk_at "rd");intro p hp)
 |(with_reducible first|refine jwz ?_|refine jt7 ?_|refine jt8 ?_|refine jub ?_) |((with_reducible refine' jq0 ?e ?l ?_);(case e=>walk_at "heap");(case l=>exact rfl)) |(with_reducible refine juc ?_) |((with_reducible refine' jt9 ?e ?l ?_);(case e=>walk_at "heap");(case l=>exact rfl))
 |(with_reducible first|refine jnu ?_|refine jwy ?_) |((with_reducible refine' jud ?r ?_);(case r=>walk_at "rd")) |(with_reducible first|refine jw0 ?_|refine jw1 ?_|refine jw2 ?_|refine jw3 ?_) |((with_reducible refine' jua ?e ?c ?n ?l ?_);(case e=>walk_at "heap");(case c=>with_reducible assumption);(case n=>with_reducible assumption);(case l=>exact rfl))
 |((with_reducible refine' jgw ?e ?c ?n ?z ?_);(case e=>walk_at "heap");(case c=>with_reducible assumption);(case n=>with_reducible assumption);(case z=>(show _ < 1000;decide))) |(with_reducible first|refine jwt ?_|refine jty ?_) |((with_reducible refine' jtz ?s ?_);(case s=>walk_at "sqL")) |((with_reducible refine' jt4 ?s ?_);(case s=>walk_at "heap"))
 |((with_reducible refine' jd1 ?h ?z ?_);(case h=>walk_at "heap");(case z=>walk_at "size")) |((with_reducible refine jqp ?z ?_);(case z=>first|(show _<=16777216;omega) |(simp only [jh0];show _<=16777216;omega))))
def w9l:jaa ["thing"] ["thing"] (qaa ja8):=#[()]
def way:jaa ["thing"] ["thing"] (qaa jbg):=#[()]
def w63:jaa ["thing","least","most"] ["thing","least","most"] (qaa jai):=#[()]
def w8s:jaa ["thing"] ["thing"] (qaa jaz):=#[()]
def w3o:jaa ["handed","wares","key","ware"] ["handed","wares"] (qaa jas):=#[()]
def w2r:jaa ["amounts","told","ware"] ["amounts"] (qaa jan):=#[()]
def w8f:jaa ["amounts","ware"] ["amounts","ware"] (qaa ja0):=#[()]
def w7n:jaa ["one","other","told","ware"] ["one","other"] (qaa jc7):=#[()]
def w8a:jaa ["one","other","ware"] ["one","other"] (qaa jbi):=#[()]
def w3j:jaa ["many","total","amounts"] ["many"] (qaa ja9):=#[()]
def w8k:jaa ["thing"] ["thing"] (qaa ja1):=#[()]
def w7m:jaa ["thing"] ["thing"] (qaa jat):=#[()]
def w3i:jaa ["wares","elder","promise","cap","weight","own_promise","own_cap"] ["wares","elder","promise","cap","weight"] (qaa jau):=#[()]
def w37:jaa ["name","promises","cap","ware"] ["name","promises","cap"] (qaa jah):=#[()]
def wb2:jaa ["_law_script","_law_k"] ["_law_script","_law_k"] (qaa jbh):=#[()]
def wag:jaa ["_law_cell","_law_k","_law_number"] ["_law_cell","_law_k"] (qaa jc8):=#[()]
def w3p:jaa ["_law_cell","_law_k","_law_letters","_law_size","_law_at","_law_name_here","_law_j","_law_step","_law_place_here"] ["_law_cell","_law_k"] (qaa jho):=#[()]
def wc7:jaa ["_law_found"] ["_law_found"] (qaa jc9):=#[()]
def wc6:jaa ["_law_found","_law_due_here"] ["_law_found","_law_due_here"] (qaa jda):=#[()]
def w7b:jaa ["_law_handed","_law_some_here","_law_ware","_law_many"] ["_law_handed"] (qaa jhp):=#[()]
def w35:jaa ["_law_cells","_law_shape","_law_elders_here","_law_k","_law_at"] ["_law_cells","_law_shape"] (qaa jbj):=#[()]
def w1v:jaa ["_law_cells","_law_wares","_law_scale","_law_promises_here","_law_k","_law_one","_law_j","_law_number"] ["_law_cells","_law_wares","_law_scale"] (qaa jba):=#[()]
def w4w:jaa ["_law_elders_here","_law_promises_here","_law_sums_here","_law_k","_law_at","_law_ware","_law_many"] ["_law_elders_here","_law_promises_here"] (qaa jhq):=#[()]
def w4d:jaa ["_law_cells","_law_sums_here","_law_wares","_law_scale","_law_caps_here","_law_k","_law_one","_law_j","_law_number","_law_more","_law_many"] ["_law_cells","_law_sums_here","_law_wares","_law_scale"] (qaa jhr):=#[()]
def w3c:jaa ["_law_script","_law_start","_law_count","_law_head","_law_wares","_law_scale","_law_cells","_law_elders_here","_law_promises_here","_law_caps_here","_law_names"] ["_law_script","_law_start","_law_count"] (qaa jhs):=#[()]
def w3w:jaa ["_law_plan_here","_law_wares","_law_names","_law_elders_here","_law_promises_here","_law_caps_here","_law_tree_here","_law_k"] ["_law_plan_here"] (qaa jht):=#[()]
def w85:jaa ["_law_elders_here","_law_k","_law_some_here","_law_at"] ["_law_elders_here","_law_k"] (qaa jhu):=#[()]
def w5r:jaa ["_law_thing","_law_sign"] ["_law_thing"] (qaa ja2):=#[()]
def wc5:jaa ["_law_handed","_law_wares","_law_ware","_law_many"] ["_law_handed","_law_wares"] (qaa jnq):=#[()]
def wbi:jaa ["_law_e","_law_kinds"] ["_law_e"] (qaa jhv):=#[()]
def w2a:jaa ["_law_plan_here","_law_line_here","_law_more","_law_wares","_law_names","_law_elders_here","_law_promises_here","_law_caps_here","_law_sums_here","_law_at","_law_ware"] ["_law_plan_here","_law_line_here","_law_more"] (qaa jdb):=#[()]
def w1z:jaa ["_law_handed","_law_cell","_law_wares","_law_stranger","_law_kind","_law_some_here","_law_ware"] ["_law_handed","_law_cell","_law_wares","_law_stranger"] (qaa jap):=#[()]
def w14:jaa ["_law_script","_law_plan_here","_law_wares","_law_names","_law_elders_here","_law_promises_here","_law_caps_here","_law_cells","_law_fresh","_law_stranger","_law_name_here","_law_elder","_law_scale","_law_promise","_law_cap","_law_j","_law_number","_law_more","_law_weight"] ["_law_script","_law_plan_here"] (qaa jnr):=#[()]
def w3f:jaa ["_law_script","_law_k","_law_cell"] ["_law_script","_law_k"] (qaa jav):=#[()]
def w2k:jaa ["_law_plan_here","_law_row_here","_law_wares","_law_names","_law_elders_here","_law_promises_here","_law_caps_here","_law_name_here","_law_elder","_law_promise","_law_cap","_law_weight","_law_handed","_law_bad_here","_law_line_here","_law_ware"] ["_law_plan_here","_law_row_here"] (qaa jns):=#[()]
def w6a:jaa ["_law_tree_here","_law_plan_here","_law_row_here","_law_told_here","_law_e"] ["_law_tree_here","_law_plan_here","_law_row_here"] (qaa jdc):=#[()]
def w2t:jaa ["_law_tree_here","_law_plan_here","_law_wares","_law_names","_law_elders_here","_law_promises_here","_law_caps_here","_law_k"] ["_law_tree_here","_law_plan_here"] (qaa jbk):=#[()]
def w3z:jaa ["_law_script","_law_kind","_law_plan_here","_law_cells","_law_count","_law_some_here"] ["_law_script"] (qaa jhw):=#[()]
def w4i:jaa ["_law_script","_law_plan_here","_law_tree_here","_law_row_here","_law_due_here","_law_grown","_law_at","_law_fresh","_law_again"] ["_law_script"] (qaa jnt):=#[()]
def w7z:jaa ["self","elder","promise","cap","weight"] ["self","elder","promise","cap","weight"] (qaa jaw):=#[()]
def w5w:jaa ["self","wares","name","promise","cap","weight","house"] ["self","wares","name","promise","cap","weight"] (qaa jaf):=#[()]
def w3g:jaa ["self","name","elder","promise","cap","weight","house","elders"] ["self","name","elder","promise","cap","weight"] (qaa jad):=#[()]
def w7t:jaa ["self"] ["self"] (qaa jax):=#[()]
def w9k:jaa ["self","thing"] ["self","thing"] (qaa jbb):=#[()]
def w4t:jaa ["self","thing"] ["self","thing"] (qaa jae):=#[()]
def w67:jaa ["self","name"] ["self","name"] (qaa jaj):=#[()]
def w68:jaa ["self","name"] ["self","name"] (qaa jak):=#[()]
def w8z:jaa ["self","name"] ["self","name"] (qaa ja3):=#[()]
def w2v:jaa ["self","name","told","elder"] ["self","name"] (qaa ja4):=#[()]
def w2i:jaa ["self","name","told","kid"] ["self","name"] (qaa jao):=#[()]
def w30:jaa ["self","name"] ["self","name"] (qaa jac):=#[()]
def w2u:jaa ["self","names","more","name"] ["self","names","more"] (qaa jag):=#[()]
def w70:jaa ["self","house","ware"] ["self","house","ware"] (qaa jaq):=#[()]
variable{P:uI}{w:vA}{K:uY}{mg:Str->Option uB}{base:vS}{d:Ad}(T:Tx K mg d)
include T in
theorem w4x:jab P w K mg base CX0 1 d.w5p d.w4v ["self","thing"] (wa7 K d):=by
 exists T.wav.ok w9k
 .right
 obtain⟨t,S,x,rfl,hT,hx,q⟩:=h;exists qa6 (qaj (jbp (qac qbq rfl T.w04 uJ #[pv 1,qc4 (v:=.ty "str") rfl T.wbl aJ rfl]) (qg4 (jo0 (jpx (qc1 hr) (pv 1) (qc2 (pv 0) rfl)))))),[sr t,some (x)];obtain⟨⟨dx,ht⟩,hw,hh,nd,hz,hE⟩:=hT;have ct:=T.w0b;have nh:qb0 K d.w07 "houses":=T.w0c;rcases hx with⟨z,rfl⟩|⟨⟨ty,ht1,ht2⟩,nz⟩
 .left;rw[qcv,cW];exact q
 .left;rw[qej nz] at q;exact q
include T in
theorem w1g:jab P w K mg base (My.CX1 P w) 2 d.w1t d.w1i ["self","thing"] (w4q K d):=by
 exists okX T.w5b w4t
 .right
 obtain⟨t,S,x,rfl,hT,hx,q1,q2⟩:=h;exists qa6 (qay (qbr (qbd (jcu (pv 0) T.w0b T.w1h ((w4x T).mono ∅) hr T.w5i .nil qaz #[pv 1]))) (qa6 (qcb rfl T.wbx rfl T.w94 qb7 #[qaq])) qad),[sr t,some (x)];have hT0:=hT;obtain⟨⟨dx,ht⟩,hw,hh,nd,hz,hE⟩:=hT;have ct:=T.w0b;have nh:qb0 K d.w07 "houses":=T.w0c;left;refine⟨t,S,x,rfl,hT0,hx,?_⟩
 cases hw':who S x with
 |none=>
  left;show if(!false)=true then _ else _
  left;exact q2 hw'
 |some e=>
  left;exact q1 e hw'
include T in
theorem w66:jab P w K mg base (My.CX1 P w) 3 d.w2g d.w27 ["self","name"] (w69 K d):=by
 exists okX T.w6l w67
 .right
 obtain⟨t,S,x,rfl,hT,hx,q1,q2⟩:=h;exists (qa3 (qb3 (qbi (pv 0) T.w0b T.w0h ((w1g T).mono ∅) hr T.w1q .nil qb7 #[pv 1]))
  (qa6 (qaj (qc2 (pv 0) rfl|||pv 1)))),[sr t,some (x)];have hT0:=hT;obtain⟨⟨dx,ht⟩,hw,hh,nd,hz,hE⟩:=hT;have ct:=T.w0b;have nh:qb0 K d.w07 "houses":=T.w0c;left;refine⟨t,S,x,rfl,hT0,hx,fun e he=>?_,q2⟩;have hz':∃z,x=.str z:=by
  rcases hx with h|⟨_,nz⟩
  .exact h
  .rw[qej nz] at he;cases he
 obtain⟨z,rfl⟩:=hz';left;refine jjr (.inl hh) (h:=e.a) (by rw[qcv];show(S.at z).map _=_;rw[show S.at z=some e from he];rfl) ?_;left;exact q1 e he
include T in
theorem w1e:jab P w K mg base (My.CX1 P w) 4 d.w2p d.w26 ["self","name"] (w65 K d):=by
 exists okX T.w6u w68
 .right
 obtain⟨t,S,x,rfl,hT,hx,q1,q2⟩:=h;exists qa6 (qaj (qc2 (qbi (pv 0) T.w0b T.w0y ((w66 T).mono ∅) hr T.w6s .nil qb7 #[pv 1]) rfl)),[sr t,some (x)];have hT0:=hT;obtain⟨⟨dx,ht⟩,hw,hh,nd,hz,hE⟩:=hT;have ct:=T.w0b;have nh:qb0 K d.w07 "houses":=T.w0c;left;refine⟨t,S,x,rfl,hT0,hx,fun e he=>?_,q2⟩;obtain⟨z,rfl⟩:∃z,x=.str z:=by
  rcases hx with h|⟨_,nz⟩
  .exact h
  .rw[qej nz] at he;cases he
 obtain⟨⟨dh,ho⟩,hp,hpA,hc,hcA⟩:=hE e (qbw he).1;have ch:=T.w1m;have nf:qb0 K d.w0g "elder":=T.w0o;have hRp:Rd H e.x.pa (.dK e.x.kp):=.inl hp;have hRc:Rd H e.x.ca (.dK e.x.kc):=.inl hc;left;exact q1 e he
include T in
theorem w7f:jab P w K mg base CX0 1 d.w4c d.w3e ["self"] (w7w K d):=by
 exists T.w8o.ok w7t
 .right
 obtain⟨t,S,rfl,hT,q⟩:=h;exists qa6 (qaj (qac (qgf rfl) rfl T.w3l wP #[qc2 (pv 0) rfl])),[sr t];obtain⟨⟨dx,ht⟩,hw,hh,nd,hz,hE⟩:=hT;have ct:=T.w0b;have nh:qb0 K d.w07 "houses":=T.w0c;left;refine jgq (ss:=S.hl.map (·.n)) (.inl hh) (by rw[jne];congr 1;unfold Ts.keys;rw[yS];rfl) (by rw[zB];omega) fun l ss hl hp hs=>?_;left;exact q l ss hl hp hs
include T in
theorem w5s:jab P w K mg base CX0 1 d.w4z d.w4f ["amounts","ware"] (jbe K d):=by
 exists T.w4n.ok w8f
 .right
 obtain⟨a,kvs,f,z,rfl,hR,hA,q⟩:=h;exists qa6 (qaj (qcr (qc1 hr) (pv 0) (pv 1) qa5 ⟨rfl,rfl,rfl,rfl⟩)),[sr a,some (.str z)];left;exact q
include T in
theorem w6g:jab P w K mg base CX0 1 d.w2x d.w2s ["amounts"] (w6r K d):=by
 exists T.w4j.ok w2r
 .right
 obtain⟨a,kvs,f,rfl,hH,hA,hz,q⟩:=h;exists (qa3 (qag (i:=1) w2r.nd rfl (uK rfl) qc3)
  (qa3 (qew (qbl vJ rfl (jc4 (pv 0)) (qah (i:=2) w2r.nd rfl (uK rfl)) (qa6 (qbf (qay (qal qfj (pv 0|||pv 2) qa5 (qar _)) (qa6 (qci (qc1 hr) (pv 1) (pv 2) (pv 0|||pv 2) rfl)) qad)))))
  (qa6 (qaj (pv 1))))),[sr a,none,none];left;rename_i l hl;have ea:=qa7 (o':=.dK []) hH hl;have nla:l≠a:=(qa8 hH hl).symm;refine jjo ea fun o=>?_;refine qdw (fun i σ H'=>∃(k':List (Key×V))(w:Option V),σ=[sr a,sr l,w]/\SameBut a H H'/\H' a=some (.frz o (.dK kvs))/\H' l=some (.dK k')/\k'.length<=i/\AD k' (fun y=>if y∈(qc0 kvs).take i then qbm f y else none))
  ⟨[],none,rfl,SameBut.at (SameBut.of (qa4 hl _)),qa1,by rw[qa9 nla];exact qa1,uG _,AD.nil.cast fun z=>by simp[noF]⟩ ?_ ?_ ?_
 .rintro i σ H' _ ⟨k',w,rfl,sb,fz,hl',_⟩;exact fz
 .rintro i k v σ H' hk ⟨k',w,rfl,sb,fz,hl',hlen,hA'⟩;obtain⟨z,n,rfl,rfl,hf,hzi⟩:=hA.at hk;have hi:i<kvs.length:=(uH.mp hk).1;have hRd:Rd H' a (.dK kvs):=.inr ⟨o,fz⟩;show qdl _ (.str z) _ _ _;left;refine qc8 ?_;left;refine i_2 (fun c=>?_) (fun c=>?_)
  .left;refine⟨_,_,rfl,?_,by rw[qa9 nla.symm];exact fz,qa1,?_,(hA'.put z n).cast fun y=>?_⟩
   .exact qfz sb hl
   .have:=qbo k' (vE z) (.int n);omega
   .exact qgn hzi (qbm f) (fun _=>none) (by unfold qbm;rw[hf];exact iO c) y
  .left;refine⟨_,_,rfl,sb,fz,hl',#[],hA'.cast fun y=>?_⟩;exact jgt hzi (qbm f) (fun _=>none) (by unfold qbm;rw[hf];exact iN c) y
 .rintro σ H' ⟨k',w,rfl,sb,fz,hl',_,hA'⟩;refine qdu (qd9 fz (qbh hH)) ?_;left;refine q l k' _ (qb8 hH sb) hl (by rw[qa9 nla];exact hl') (hA'.cast fun y=>?_);exact qgo hA (qbm f) (fun _=>none) (fun y e=>by unfold qbm;rw[e]) y
include T in
theorem wam:jab P w K mg base CX0 2 d.w99 d.w7y ["one","other"] (jjz K d):=by
 exists T.waa.ok w7n
 .right
 obtain⟨a,b,ka,kb,f,g,rfl,hRa,hb,hA,hB,za,zb,q⟩:=h;exists (qa3 (qag (i:=2) w7n.nd rfl (uK rfl) (qbu qch rfl T.w5d wC #[pv 0]))
  (qa3 (qew (qbl vJ rfl (jc4 (pv 1)) (qah (i:=3) w7n.nd rfl (uK rfl)) (qa6 (qci (qc1 hr) (pv 2) (pv 3) (qae qbp (qaf ((w5s T).mono ∅) hr rfl T.w6n T.w4n.kp T.w6c .nil qaz #[pv 0,pv 3]) (pv 1|||pv 3)) rfl))))
  (qa6 (qaj (pv 2))))),[sr a,sr b,none,none];left;rename_i l hl;have eb:=qa7 (o':=.dK ka) hb hl;have nlb:l≠b:=(qa8 hb hl).symm;refine jjo eb fun o=>?_;refine qdw (fun i σ H'=>∃(k':List (Key×V))(w:Option V),σ=[sr a,sr b,sr l,w]/\SameBut b H H'/\H' b=some (.frz o (.dK kb))/\H' l=some (.dK k')/\k'.length<=1000+i/\AD k' (fun y=>if y∈(qc0 kb).take i then qdx f g y else f y))
  ⟨ka,none,rfl,SameBut.at (SameBut.of (qa4 hl _)),qa1,by rw[qa9 nlb];exact qa1,#[],hA.cast fun z=>by simp⟩ ?_ ?_ ?_
 .rintro i σ H' _ ⟨k',w,rfl,sb,fz,hl',_⟩;exact fz
 .rintro i k v σ H' hk ⟨k',w,rfl,sb,fz,hl',hlen,hA'⟩;obtain⟨z,n,rfl,rfl,hf,hzi⟩:=hB.at hk;have hi:i<kb.length:=(uH.mp hk).1;have hRb:Rd H' b (.dK kb):=.inr ⟨o,fz⟩;have hRa':Rd H' a (.dK ka):=jt6 hRa hb sb fz;show qdl _ (.str z) _ _ _;left;refine⟨_,_,rfl,qfz sb hl,by rw[qa9 nlb.symm];exact fz,qa1,?_,(hA'.put z _).cast fun y=>?_⟩
  .have:=qbo k' (vE z) (.int (gN f z+n));omega
  .exact qgn hzi (qdx f g) f (by unfold qdx;rw[hf]) y
 .rintro σ H' ⟨k',w,rfl,sb,fz,hl',_,hA'⟩;refine qdu (qd9 fz (qbh hb)) ?_;left;refine q l k' _ (qb8 hb sb) hl (by rw[qa9 nlb];exact hl') (hA'.cast fun y=>?_);exact qgo hB (qdx f g) f (fun y e=>by unfold qdx;rw[e]) y
include T in
theorem wbr:jab P w K mg base CX0 2 d.w7s d.w6o ["one","other"] (jhx K d):=by
 exists T.war.ok w8a
 .right
 obtain⟨a,b,ka,kb,f,g,rfl,hRa,hRb,hA,hB,za,qn,qs⟩:=h;exists (qa3 (qbl vJ rfl (qcj (qac (qgf rfl) rfl T.w3l wP #[pv 0])) (qah (i:=2) w8a.nd rfl (uK rfl)) (qa6 (qay (qal qfj (pv 0|||pv 2) (qaf ((w5s T).mono ∅) hr rfl T.w6n T.w4n.kp T.w6c .nil qaz #[pv 1,pv 2]) (qar _)) (qa6 (qaj (pv 2))) qad)))
  (qa6 (qaj qcq))),[sr a,sr b,none];left;refine jgq hRa hA.keys (by rw[hA.klen];exact za) fun l ss hl hp hs=>?_;have pw:=qdd hs;have hin:∀y,y∈ss↔f y≠none:=fun y=>(hp.mem_iff).trans (hA.kin y);left;have sm:=qa4 hl (.lst (ss.map V.str));have hRa':=jck hRa hl (u:=.lst (ss.map V.str));have hRb':=jck hRb hl (u:=.lst (ss.map V.str));refine qf0 (xs:=ss.map V.str) (fun i σ H'=>H'=upd H l (.lst (ss.map V.str))/\(∃w,σ=[sr a,sr b,w])/\∀j y,j<i->ss[j]?=some y->¬qfv f g y) ⟨rfl,⟨_,rfl⟩,fun j y hj=>absurd hj (wL j)⟩ ?_ ?_ ?_
 .rintro i σ H' _ ⟨rfl,_⟩;exact SqL.of qa1
 .rintro i v σ H' hv ⟨rfl,⟨w,rfl⟩,hno⟩;rw[zC] at hv;obtain⟨z,hz,rfl⟩:=vQ.mp hv;have hfz:=(hin z).mp (zD hz);obtain⟨n,hn⟩:∃n,f z=some n:=by
   cases e:f z with
   |none=>exact absurd e hfz
   |some n=>exact⟨n,rfl⟩
  have gz:gN f z=n:=by unfold gN;rw[hn];rfl
  left;refine i_2 (fun c=>?_) (fun c=>?_)
  .left;refine qs z _ sm ⟨hfz,by rw[gz];exact c⟩ fun y hy=>?_;obtain⟨j,hj,e⟩:=zR.mp ((hin y).mpr hy.1);have hji:i<=j:=by
    rcases vZ j i with h|h
    .exact absurd hy (hno j y h (by rw[zA hj,e]))
    .exact h
   obtain⟨hi,ez⟩:=uH.mp hz;rcases Nat.eq_or_lt_of_le hji with h|h
   .subst h;rw[ez] at e;subst e;exact qh2 _
   .have:=zQ.mp pw i j hi hj h;rw[ez,e] at this;exact this
  .left;refine⟨rfl,⟨_,rfl⟩,fun j y hj hy=>?_⟩;rcases vZ j i with h|h
   .exact hno j y h hy
   .have e:j=i:=by omega
    subst e;rw[hz] at hy
    cases hy
    exact fun hv=>c (by have:=hv.2;rw[gz] at this;exact this)
 .rintro σ H' ⟨rfl,⟨w,rfl⟩,hno⟩;left;refine qn _ sm fun y hy=>?_;obtain⟨j,hj,e⟩:=zR.mp ((hin y).mpr hy.1);exact hno j y (by rw[zB];exact hj) (by rw[zA hj,e]) hy
theorem jhy(h:∀t∈ts,∀z,t.f z≠none->z∈ws):∀f0:Str->Option Int,(∀z,f0 z≠none->z∈ws)->∀z,ts.foldl (fun f t=>qdx f t.f) f0 z≠none->z∈ws:=by
 induction ts with
 |nil=>intro f0 h0 z hz;exact h0 z hz
 |cons t ts ih=>intro f0 h0 z hz;exact ih (fun t' ht=>h t' (zF _ ht)) (qdx f0 t.f) (qhf h0 (h t (zG ..))) z hz
include T in
theorem w9w:jab P w K mg base CX0 3 d.w5g d.w50 ["many"] (w9n K d):=by
 exists T.w7a.ok w3j
 .right
 obtain⟨L,ts,ws,rfl,hS,hw,hts,q⟩:=h;exists (qa3 (qag (i:=1) w3j.nd rfl (uK rfl) qc3)
  (qa3 (qbl vJ rfl (qcj (pv 0)) (qah (i:=2) w3j.nd rfl (uK rfl)) (qa6 (qag (i:=1) w3j.nd rfl (uK rfl) (qaf ((wam T).mono ∅) hr rfl T.wbe T.waa.kp T.wbu .nil qaz #[pv 1,pv 2]))))
  (qa6 (qaj (pv 1))))),[sr L,none,none];left;rename_i l0 hl0;refine qf0 (xs:=ts.map fun t=> .ref t.a) (fun i σ H'=>∃(l:Addr)(k':List (Key×V))(w:Option V),σ=[sr L,sr l,w]/\qas H H'/\H l=none/\H' l=some (.dK k')/\AD k' (qei (ts.take i))) ⟨l0,[],none,rfl,qa4 hl0 _,hl0,qa1,AD.nil⟩ ?_ ?_ ?_
 .rintro i σ H' _ ⟨l,k',w,rfl,sm,_⟩;exact sm.seq hS
 .rintro i v σ H' hv ⟨l,k',w,rfl,sm,hl,hl',hA'⟩;rw[zC] at hv;obtain⟨t,ht,rfl⟩:=vQ.mp hv;have hm:=zD ht;obtain⟨h1,h2,h3⟩:=hts t hm;have sup:∀z,qei (ts.take i) z≠none->z∈ws:=jhy (fun t' ht'=>(hts t' (List.mem_of_mem_take ht')).2.2) noF (fun z h=>absurd rfl h);have c1:=hA'.le sup;have c2:=h2.le h3;left;refine⟨l,t.a,k',t.k,qei (ts.take i),t.f,rfl,.inl hl',sm _ _ h1,hA',h2,#[],#[],fun l2 k2 H2 sm2 hl2 e2 hA2=>?_⟩;left;refine⟨l2,k2,_,rfl,sm.trans sm2,sm.free hl2,e2,?_⟩;have e:ts.take (i+1)=ts.take i++[t]:=by rw[yB,ht];rfl
  rw[e];unfold qei;rw[List.foldl_append];exact hA2
 .rintro σ H' ⟨l,k',w,rfl,sm,hl,hl',hA'⟩;rw[zB,yG] at hA';left;exact q l k' H' sm hl hl' hA'
include T in
theorem w8w:jab P w K mg base (My.CX1 P w) 5 d.w4y d.w48 ["self","name"] (w8p K d):=by
 exists okX T.w9x w2v
 .right
 obtain⟨t,S,x,rfl,hT,q⟩:=h;exists (qa3 (qag (i:=2) w2v.nd rfl (uK rfl) (qam #[pv 1]))
  (qa3 (qag (i:=3) w2v.nd rfl (uK rfl) (qbi (pv 0) T.w0b T.w0k ((w1e T).mono ∅) hr T.w1p .nil qb7 #[pv 1]))
  (qa3 (qgx (qfh rfl rfl) (qal qec (pv 3) qcq (qar _)) (qa3 (qb3 (qdb vG vK vL qba (pv 2) #[pv 3]))
  (qa6 (qag (i:=3) w2v.nd rfl (uK rfl) (qbi (pv 0) T.w0b T.w0k ((w1e T).mono ∅) hr T.w1p .nil qb7 #[pv 3])))))
  (qa6 (qaj (pv 2)))))),[sr t,some (x),none,none];have ct:=T.w0b;obtain⟨dx,ht⟩:=hT.1;left;rename_i l hl;have sl:=qa4 hl (.lst [x]);rcases q with⟨z,zs,rfl,hL,hz,q⟩|⟨hx,hn,q⟩
 .obtain⟨e0,r0,h0,rfl,hr0⟩:=hL.open;refine⟨t,S,.str z,rfl,hT.same sl,.inl ⟨z,rfl⟩,fun e he=>?_,fun he=>?_⟩
  .have ee:e0=e:=vB (h0.symm.trans he);subst ee;left;refine qgi (fun σ H'=>∃(ys rs:List Str)(o:Option Str),σ=[sr t,some (.str z),sr l,some (eV o)]/\H'=upd H l (.lst (ys.map V.str))/\ys++rs=z::r0/\jll S o rs) (fun _ H'=>(r0.length+1)-jjy l H') ⟨[z],r0,_,rfl,rfl,rfl,hr0⟩ ?_ ?_
   .rintro σ H' ⟨ys,rs,o,rfl,rfl,hyr,hR⟩;have hlen:=congrArg xE hyr;rw[zH,zI] at hlen;have hz2:(z::r0).length<=1000:=hz;rw[zI] at hz2
    cases o with
    |none=>
     have:rs=[]:=hR;subst this;rw[zW] at hyr;subst hyr;rw[show eV none=V.non from rfl];left;exact q l hl
    |some y=>
     obtain⟨e1,r1,h1,rfl,hr1⟩:=jal.open hR;have sy:=qa4 hl (.lst (ys.map V.str));have eL:upd H l (.lst (ys.map V.str)) l=some (.lst (ys.map V.str)):=qa1;have hzz:(ys.map V.str).length<sizeLine:=by rw[zB];show _<16777216;omega
     rw[show eV (some y)=V.str y from rfl];left;rw[qb4];have s2:=qa4 hl (.lst (ys.map V.str++[.str y]));have ht2:=s2 _ _ ht;left;refine⟨t,S,.str y,rfl,hT.same s2,.inl ⟨y,rfl⟩,fun e he=>?_,fun he=>?_⟩
     .have ee:e1=e:=vB (h1.symm.trans he);subst ee;left;rw[zI] at hlen;refine⟨⟨ys++[y],r1,_,rfl,by rw[zE];rfl,by rw[bW];exact hyr,hr1⟩,?_⟩;have g1:=jd6 eL;have g2:jjy l (upd H l (.lst (ys.map V.str++[V.str y])))=(ys.map V.str++[V.str y]).length:=jd6 qa1;rw[zH,zB] at g2;rw[zB] at g1;rw[g1,g2];simp only[zI,yF];omega
     .rw[show who S (.str y)=some e1 from h1] at he;cases he
   .rintro σ H' Q1 Q2 hm ⟨v,hv,w,k,hk,hq⟩;exact⟨v,hv,w,k,hk,hm _ _ hq⟩
  .rw[show who S (.str z)=some e0 from h0] at he;cases he
 .refine⟨t,S,x,rfl,hT.same sl,hx.same sl,fun e he=>?_,fun _=>q l hl⟩;rw[hn] at he;cases he
theorem qf3(nd:(S.hl.map (·.n)).Nodup)(h:e∈S.hl):S.at e.n=some e:=by
 have q:qdc S.keys e.n=some e.a:=jd2 (by unfold Ts.keys;rw[yS];exact nd) (zM.mpr ⟨e,h,rfl⟩);unfold Ts.at
 revert nd h
 obtain⟨sw,ws,hs,hl⟩:=S;dsimp only;clear q;intro nd h
 induction hl with
 |nil=>simp at h
 |cons y r ih=>
  rw[zS,zU] at nd;rw[yK];rcases zP.mp h with h|h
  .subst h;rw[iP rfl]
  .have ne:y.n≠e.n:=fun z=>nd.1 (by rw[z];exact zM.mpr ⟨e,h,rfl⟩);rw[iQ ne];exact ih nd.2 h
theorem jnv{k:Key}(h:(oK S.keys)[i]?=some (k,v)):∃e,S.hl[i]?=some e/\k=vE e.n/\v=.ref e.a:=by
 unfold oK Ts.keys at h;rw[zC,zC] at h
 cases q:S.hl[i]? with
 |none=>rw[q] at h;cases h
 |some e=>rw[q] at h;cases h;exact⟨e,rfl,rfl,rfl⟩
theorem qeg(S:Ts):(oK S.keys).length=S.hl.length:=by unfold oK Ts.keys;rw[zB,zB]
theorem jrn{o:Option Str} :decide (eV o=V.str z)=decide (o=some z):=by
 cases o with
 |none=>rfl
 |some y=>
  by_cases h:y=z
  .subst h;show decide (V.str y=V.str y)=_;rw[iP rfl,iP rfl]
  .rw[iQ (fun q=>h (by cases q;rfl)),iQ (fun q=>h (vB q))]
theorem jnw{o:Option Str} :scal (eV o) (V.str z)=true:=by cases o<;>rfl
include T in
theorem w90:jab P w K mg base (My.CX1 P w) 3 d.w4o d.w4a ["self","name"] (w92 K d):=by
 exists okX T.wa1 w8z
 .right
 obtain⟨t,S,x,rfl,hT,hx,q1,q2⟩:=h;refine⟨_,(qa3 (qb3 (qbi (pv 0) T.w0b T.w0h ((w1g T).mono ∅) hr T.w1q .nil qb7 #[pv 1]))
  (qa6 (qaj (qac qd0 rfl T.w3l wP #[jk4 (qdg (caps:=[0,1]) (cn:=["self","name"]) (qc6 rfl rfl (by rfl) (by rfl) rfl ⟨rfl,⟨rfl,trivial⟩⟩ (by rfl) rfl ⟨⟨rfl,rfl,rfl,rfl,_,rfl⟩,⟨⟨rfl,rfl,rfl,rfl,_,rfl⟩,trivial⟩⟩ ∅) rfl (jc4 (qc2 (pv 0) rfl)) (fun _ _ _ _=>(jks (qal qcu (qc2 (qc2 (pv 1) rfl|||pv 0) rfl) (pv 2) (qar _)))) (fun _ _ _ _=>(pv 0)))])))),?_⟩
 walk_at"d"
 dsimp only[cxC];refine qak (σ:=[sr t,some (x)]) rfl ?_;have hT0:=hT;obtain⟨⟨dx,ht⟩,hw,hh,nd,hz,hE⟩:=hT;have ct:=T.w0b;have ch:=T.w1m;have nh:qb0 K d.w07 "houses":=T.w0c;have nf:qb0 K d.w0g "elder":=T.w0o;left;refine⟨t,S,x,rfl,hT0,hx,fun e he=>?_,q2⟩;obtain⟨z,rfl⟩:∃z,x=.str z:=by
  rcases hx with h|⟨_,nz⟩
  .exact h
  .rw[qej nz] at he;cases he
 obtain⟨hme,rfl⟩:=qbw he;left;refine jqs ?_;left;refine jjo hh fun o=>?_;intro C s0 H0 fp na hna;have hF:upd H S.hs (.frz o (.dK (oK S.keys))) S.hs=some (.frz o (.dK (oK S.keys))):=qa1;have sb:SameBut S.hs H (upd H S.hs (.frz o (.dK (oK S.keys)))):=qde hh;have ht2:=sb _ _ (qds ht hh (by intro z;cases z)) ht;have hna0:H na=none:=by
  by_cases z:na=S.hs
  .subst z;rw[hF] at hna;cases hna
  .rw[qa9 z] at hna;exact hna
 have hE2:∀e∈S.hl,∃dx,upd H S.hs (.frz o (.dK (oK S.keys))) e.a=some (.ins d.w0g dx (fsH e.x)):=fun e he=>by
  obtain⟨⟨dx,q⟩,_⟩:=hE e he;exact⟨dx,sb _ _ (qds q hh (by intro z;cases z)) q⟩
 generalize upd H S.hs (.frz o (.dK (oK S.keys)))=HF at*;refine jdy S.hl.length (fun i H'=>H'=upd HF na (.lst ((((S.hl.take i).filter fun y=>decide (y.x.el=some e.n)).map (·.n)).map V.str))) rfl ?_ ?_ ?_ ?_
 .rintro i H' hi rfl;exact⟨qa7 hF hna,by rw[qeg];exact hi⟩
 .rintro H' rfl;exact⟨qa7 hF hna,by rw[qeg];exact uG _⟩
 .rintro i H' v H'' hi rfl ⟨rfl,k,v',hk,rfl⟩;obtain⟨y,hy,rfl,rfl⟩:=jnv hk;have hym:=zD hy;obtain⟨dy,hya⟩:=hE2 y hym;have nx:(S.hl.take (i+1)).filter (fun y=>decide (y.x.el=some e.n))=(S.hl.take i).filter (fun y=>decide (y.x.el=some e.n))++(if decide (y.x.el=some e.n)=true then[y] else[]):=by
   rw[yB,hy,List.filter_append]
   congr 1
   simp only[Option.toList_some,List.filter_cons,List.filter_nil]
  have hlen:((S.hl.take i).filter (fun y=>decide (y.x.el=some e.n))).length<=S.hl.length:=wG (List.length_filter_le ..) (by rw[yN];omega);left;refine jjr (h:=y.a) (jck (.inr ⟨o,hF⟩) hna) (by rw[qcv,qf3 nd hym];rfl) ?_;left;refine⟨jnw,?_⟩;rw[jrn];refine⟨_,rfl,?_⟩;refine i_2 (fun c=>?_) (fun c=>?_)
  .left;rw[qb4,nx,iO (iP c),zE,zE];rfl
  .rw[nx,iN (by rw[iQ c];decide),zW]
 rintro H' rfl;rw[yG];have nns:na≠S.hs:=fun z=>by subst z;rw[hF] at hna;cases hna
 have eN:upd (upd HF na (.lst ((qbj S e.n).map V.str))) S.hs (.dK (oK S.keys)) na=some (.lst ((qbj S e.n).map V.str)):=by rw[qa9 nns];exact qa1
 have sm:qas H (upd (upd HF na (.lst ((qbj S e.n).map V.str))) S.hs (.dK (oK S.keys))):=qb8 hh (qfz sb hna0);have hkl:(qbj S e.n).length<=60:=by unfold qbj;rw[zB];exact wG (List.length_filter_le ..) hz
 refine⟨_,qd9 (qa7 hF hna) (qbh hh),?_⟩;show jom _ (upd (upd HF na (.lst ((qbj S e.n).map V.str))) S.hs (.dK (oK S.keys))) _;generalize upd (upd HF na (.lst ((qbj S e.n).map V.str))) S.hs (.dK (oK S.keys))=H3 at*;left;refine qfc (SqL.of eN) #[] fun l ss hl hp hs=>?_;left;exact q1 e he l ss _ (qgq sm hl) (sm.free hl) qa1 hp hs
def jj1{l:Addr}{xs zs:List V}(h:H l=some (.lst xs))(hb:H b=some (.lst zs))(hz:xs.length+zs.length<=sizeLine)(q:Q .non (upd H l (.lst (xs++zs)))):jfw (.ref l) [.ref b] H Q:=⟨l,b,xs,zs,rfl,rfl,h,hb,hz,q⟩
noncomputable def flat(parts:List (Str×List Str)):List Str:=(parts.map (·.2)).flatten
noncomputable def Ben(S:Ts):Nat->Str->List Str->Prop
 |0,z,zs=>∃parts:List (Str×List Str),(parts.map (·.1)).Perm (qbj S z)/\zs=z::flat parts/\∀p∈parts,False
 |n+1,z,zs=>∃parts:List (Str×List Str),(parts.map (·.1)).Perm (qbj S z)/\zs=z::flat parts/\∀p∈parts,Ben S n p.1 p.2
noncomputable def jnx(S:Ts):Nat->Str->List Str->Prop
 |0,z,zs=>∃(parts:List (Str×List Str))(rest:List Str),(parts.map (·.1)++rest).Perm (qbj S z)/\zs=z::flat parts/\∀p∈parts,False
 |n+1,z,zs=>∃(parts:List (Str×List Str))(rest:List Str),(parts.map (·.1)++rest).Perm (qbj S z)/\zs=z::flat parts/\∀p∈parts,jnx S n p.1 p.2
theorem Ben.part{S:Ts}:∀{n:Nat} {z:Str} {zs:List Str},Ben S n z zs->jnx S n z zs
 |0,_,_,⟨parts,a,b,c⟩=>⟨parts,[],by rw[zW];exact a,b,c⟩
 |n+1,_,_,⟨parts,a,b,c⟩=>⟨parts,[],by rw[zW];exact a,b,fun p hp=>Ben.part (c p hp)⟩
noncomputable def jro(S:Ts):Nat->Str->List Str->Prop
 |0,_,_=>False
 |n+1,z,zs=>Ben S n z zs
theorem jrp(h:(parts.map (·.1)).Perm (qbj S z))(hp:∀p∈parts,jro S n p.1 p.2):Ben S n z (z::flat parts):=by
 cases n with
 |zero=>exact⟨parts,h,rfl,hp⟩
 |succ n=>exact⟨parts,h,rfl,hp⟩
theorem jny{rest:List Str}(h:(parts.map (·.1)++rest).Perm (qbj S z))(hp:∀p∈parts,jro S n p.1 p.2):jnx S n z (z::flat parts):=by
 cases n with
 |zero=>exact⟨parts,rest,h,rfl,hp⟩
 |succ n=>exact⟨parts,rest,h,rfl,fun p q=>Ben.part (hp p q)⟩
def jul(S:Ts):Prop:=∀n z zs,jnx S n z zs->zs.length<=1000
noncomputable def Dep(S:Ts):Nat->Str->Prop
 |0,z=>qbj S z=[]
 |n+1,z=>∀y∈qbj S z,Dep S n y
def wah(n:Nat)(K:uY)(d:Ad):Sp:=fun vs H Q E=>∃(t:Addr)(S:Ts)(x:V),vs=[.ref t,x]/\qdy d H t S/\jul S/\qes K H x/\(∀e,who S x=some e->Dep S n e.n/\∀l zs H',qas H H'->H l=none->H' l=some (.lst (zs.map V.str))->Ben S n e.n zs->Q (.ref l) H')/\(who S x=none->∀l,H l=none->E (.ref d.w01) none (upd H l (.lst [x])))
theorem jrq(nd:(S.hl.map (·.n)).Nodup)(h:y∈qbj S z):∃e,S.at y=some e/\e.n=y:=by
 obtain⟨e,he,rfl⟩:=zM.mp h;exact⟨e,qf3 nd (yL.mp he).1,rfl⟩
theorem jj2(a b:List (Str×List Str)):flat (a++b)=flat a++flat b:=by unfold flat;rw[zE,List.flatten_append]
theorem jd7{P:uI}{w:vA}{K:uY}{mg:Str->Option uB}{base:vS}{d:Ad}(T:Tx K mg d)(n:Nat)(spi:Sp)(IH:jab P w K mg base (My.CX1 P w) (3+n) d.w12 d.w0t ["self","name"] spi)
  (use:∀(t:Addr)(S:Ts)(z y:Str)(e:He)(H:Hp)(Q:VK)(E:XK),qdy d H t S->jul S->Dep S n z->y∈qbj S z->S.at y=some e->e.n=y->(∀l zs H',qas H H'->H l=none->H' l=some (.lst (zs.map V.str))->jro S n y zs->Q (.ref l) H')->spi [.ref t,.str y] H Q E):
  jab P w K mg base (My.CX1 P w) (3+n+1) d.w12 d.w0t ["self","name"] (wah n K d):=by
 exists okX T.w71 w2i
 .right
 obtain⟨t,S,x,rfl,hT,hS,hx,q1,q2⟩:=h;exists (qa3 (qag (i:=2) w2i.nd rfl (uK rfl) (qam #[pv 1]))
  (qa3 (qbl (qfh rfl rfl) rfl (qcj (qbi (pv 0) T.w0b T.w23 ((w90 T).mono #[]) hr T.w9r .nil qb7 #[pv 1])) (qah (i:=3) w2i.nd rfl (uK rfl)) (qa6 (qb3 (qdb vG PySem.F.slot_list_extend PySem.F.type_list_extend jfx (pv 2) #[qbi (pv 0) T.w0b T.w0r IH hr T.w4k .nil qb7 #[pv 3]]))))
  (qa6 (qaj (pv 2))))),[sr t,some (x),none,none];have ct:=T.w0b;obtain⟨dx,ht⟩:=hT.1;have nd:=hT.2.2.2.1;left;rename_i lt hlt;have sl:=qa4 hlt (.lst [x]);refine⟨t,S,x,rfl,hT.same sl,hx.same sl,fun e he=>?_,fun he=>q2 he lt hlt⟩;obtain⟨hD,q⟩:=q1 e he;obtain⟨z,rfl⟩:∃z,x=.str z:=by
  rcases hx with h|⟨_,nz⟩
  .exact h
  .rw[qej nz] at he;cases he
 obtain⟨hme,rfl⟩:=qbw he;intro lk ss H1 s1 hlk ek hp hs;have eT:=s1 _ _ (qa1 (H:=H) (a:=lt) (o:=.lst [V.str e.n]));left;have ntk:lk≠lt:=fun z=>by subst z;rw[qa1] at hlk;cases hlk
 refine qf0 (xs:=ss.map V.str) (fun i σ H'=>∃(parts:List (Str×List Str))(w:Option V),σ=[sr t,some (.str e.n),sr lt,w]/\parts.map (·.1)=ss.take i/\(∀p∈parts,jro S n p.1 p.2)/\qas H H'/\H' lk=some (.lst (ss.map V.str))/\H' lt=some (.lst ((e.n::flat parts).map V.str)))
  ⟨[],_,rfl,rfl,fun p hp=>absurd hp (by simp),sl.trans s1,ek,eT⟩ ?_ ?_ ?_
 .rintro i σ H' _ ⟨parts,w,_,_,_,_,ek',_⟩;exact SqL.of ek'
 .rintro i v σ H' hv ⟨parts,w,rfl,hps,hB,sm,ek',eT'⟩;rw[zC] at hv;obtain⟨y,hy,rfl⟩:=vQ.mp hv;have hyk:y∈qbj S e.n:=hp.mem_iff.mp (zD hy);obtain⟨ey,h1,h2⟩:=jrq nd hyk;have ht':=sm _ _ ht;left;refine use t S e.n y ey H' _ _ (hT.same sm) hS hD hyk h1 h2 fun l zs H2 s2 hl el hBy=>?_;have eT2:=s2 _ _ eT';have hps2:(parts++[(y,zs)]).map (·.1)=ss.take (i+1):=by rw[zE,hps,yB,hy];rfl
  have hB2:∀p∈parts++[(y,zs)],jro S n p.1 p.2:=fun p hp=>by
   rcases zT.mp hp with h|h
   .exact hB p h
   .have:=zK.mp h;subst this;exact hBy
  have ef:flat (parts++[(y,zs)])=flat parts++zs:=by rw[jj2];congr 1;simp[flat]
  have hlen:=hS _ _ _ (jny (n:=n) (z:=e.n) (parts:=parts++[(y,zs)]) (rest:=ss.drop (i+1)) (by rw[hps2,List.take_append_drop];exact hp) hB2);rw[ef,zI,zH] at hlen;left;refine jj1 eT2 el (by rw[zB,zB,zI];show _<=16777216;omega) ?_;left;refine⟨parts++[(y,zs)],_,rfl,hps2,hB2,qax (sm.trans s2) hlt,by rw[qa9 ntk];exact s2 _ _ ek',?_⟩;rw[ef,<-zE];exact qa1
 .rintro σ H' ⟨parts,w,rfl,hps,hB,sm,ek',eT'⟩;rw[zB,yG] at hps;left;exact q lt _ H' sm hlt eT' (jrp (by rw[hps];exact hp) hB)
def wd3{P:uI}{w:vA}{K:uY}{mg:Str->Option uB}{base:vS}{CX:CXT}{k:Nat}{f:Addr}{fd:uT}{ps:List Str} :jab P w K mg base CX k f fd ps (fun _ _ _ _=>False):=
 ⟨fun _ _ _ _ h=>h.elim,fun _ _ _ _ _ _ _ _ _ _ _ _ _ h=>h.elim⟩
theorem wco{P:uI}{w:vA}{K:uY}{mg:Str->Option uB}{base:vS}{d:Ad}(T:Tx K mg d):∀n:Nat,jab P w K mg base (My.CX1 P w) (3+n+1) d.w12 d.w0t ["self","name"] (wah n K d)
 |0=>jd7 T 0 (fun _ _ _ _=>False) wd3 fun t S z y e H Q E _ _ hD hy _ _ _=>by
  have:qbj S z=[]:=hD;rw[this] at hy;simp at hy
 |n+1=>jd7 T (n+1) (wah n K d) (wco T n) fun t S z y e H Q E hT hS hD hy h1 h2 q=>by
  refine⟨t,S,.str y,rfl,hT,hS,.inl ⟨y,rfl⟩,fun e' he'=>?_,fun he'=>?_⟩
  .have ee:e=e':=vB (h1.symm.trans he');subst ee;rw[h2];exact⟨hD y hy,fun l zs H' sm hl el hB=>q l zs H' sm hl el hB⟩
  .rw[show who S (.str y)=some e from h1] at he';cases he'
def w6d(K:uY)(d:Ad):Sp:=wah 12 K d
def w6q:jab P w K mg base (My.CX1 P w) 16 d.w12 d.w0t ["self","name"] (w6d K d):=wco T 12
noncomputable def upS(S:Ts)(y:Str):Option Str:=(S.at y).bind fun e=>e.x.el
noncomputable def anc(S:Ts):Nat->Str->Option Str
 |0,y=>some y
 |k+1,y=>(upS S y).bind (anc S k)
theorem qe3{S:Ts}:∀(i j:Nat)(y:Str),anc S (i+j) y=(anc S i y).bind (anc S j)
 |0,j,y=>by rw[Nat.zero_add];rfl
 |i+1,j,y=>by
  rw[show i+1+j=(i+j)+1 by omega];show(upS S y).bind (anc S (i+j))=((upS S y).bind (anc S i)).bind (anc S j)
  cases upS S y with
  |none=>rfl
  |some u=>exact qe3 i j u
def WF(S:Ts):Prop:=(S.hl.map (·.n)).Nodup/\∀e∈S.hl,∃zs,jal S e.n zs
theorem jrr(h:S.at z=some e):upS S z=e.x.el:=by unfold upS;rw[h];rfl
theorem jj3{zs:List Str}(h:jal S z zs):anc S zs.length z=none:=by
 induction h with
 |top h n=>show(upS S _).bind _=none;rw[jrr h,n];rfl
 |up h n r ih=>show(upS S _).bind _=none;rw[jrr h,n];exact ih
theorem jd8(w:WF S){k:Nat}{z:Str}:anc S (k+1) z≠some z:=by
 intro c
 cases hz:S.at z with
 |none=>
  have:anc S (k+1) z=none:=by show(upS S z).bind _=none;unfold upS;rw[hz];rfl
  rw[this] at c;cases c
 |some e=>
  obtain⟨zs,hl⟩:=w.2 e (qbw hz).1;rw[(qbw hz).2] at hl;have he:=jj3 hl;have rep:∀m,anc S (m*(k+1)) z=some z:=by
   intro m
   induction m with
   |zero=>rw[Nat.zero_mul];rfl
   |succ m ih=>rw[Nat.succ_mul,qe3,ih];exact c
  have h1:=rep zs.length;have h2:zs.length*(k+1)=zs.length+zs.length*k:=by rw[Nat.mul_add,Nat.mul_one];omega
  rw[h2,qe3,he] at h1
  cases h1
theorem jlm(w:WF S){y z:Str}(h:y∈qbj S z):upS S y=some z:=by
 obtain⟨e,he,rfl⟩:=zM.mp h;obtain⟨hm,hd⟩:=yL.mp he;unfold upS;rw[qf3 w.1 hm];exact of_decide_eq_true hd
theorem je2(w:WF S)(z:Str):(qbj S z).Nodup:=by
 unfold qbj;exact List.Nodup.sublist (List.Sublist.map _ List.filter_sublist) w.1
theorem jdd{S:Ts}(w:WF S):∀{n:Nat} {z:Str} {zs:List Str},jnx S n z zs->∀y∈zs,∃k,anc S k y=some z
 |0,z,_,⟨parts,rest,hp,rfl,hb⟩,y,hy=>by
  rcases zP.mp hy with rfl|hy
  .exact⟨0,rfl⟩
  .obtain⟨l,hl,_⟩:=yJ.mp hy;obtain⟨p,hpp,_⟩:=zM.mp hl;exact(hb p hpp).elim
 |n+1,z,_,⟨parts,rest,hp,rfl,hb⟩,y,hy=>by
  rcases zP.mp hy with rfl|hy
  .exact⟨0,rfl⟩
  .obtain⟨l,hl,hyl⟩:=yJ.mp hy;obtain⟨p,hpp,rfl⟩:=zM.mp hl;obtain⟨k,hk⟩:=jdd w (hb p hpp) y hyl;have hu:=jlm w (hp.mem_iff.mp (zY _ (zM.mpr ⟨p,hpp,rfl⟩)));exact⟨k+1,by rw[qe3,hk];show(upS S p.1).bind _=_;rw[hu];rfl⟩
theorem apart(w:WF S){p q z y:Str}{i j:Nat}(hp:upS S p=some z)(hq:upS S q=some z)(ne:p≠q)(hi:anc S i y=some p)(hj:anc S j y=some q)(le:i<=j):False:=by
 obtain⟨c,rfl⟩:=Nat.exists_eq_add_of_le le;rw[qe3,hi] at hj;have hj':anc S c p=some q:=hj
 cases c with
 |zero=>exact ne (vB hj')
 |succ c=>
  have h1:(upS S p).bind (anc S c)=some q:=hj';rw[hp] at h1;have h2:anc S c z=some q:=h1;refine jd8 w (k:=c) (z:=z) ?_;rw[qe3,h2];show(upS S q).bind _=_;rw[hq];rfl
theorem qfi{S:Ts}(w:WF S){z:Str}:∀{parts:List (Str×List Str)},(parts.map (·.1)).Nodup->(∀p∈parts,upS S p.1=some z)->(∀p∈parts,p.2.Nodup/\∀y∈p.2,∃k,anc S k y=some p.1)->(flat parts).Nodup
 | [],_,_,_=>yH
 |p::r,nd,hu,hb=>by
  rw[zS,zU] at nd;have ih:=qfi w (z:=z) nd.2 (fun q hq=>hu q (zF _ hq)) fun q hq=>hb q (zF _ hq);show(p.2++flat r).Nodup;rw[yE];refine⟨(hb p (zG ..)).1,ih,fun a ha b hbm e=>?_⟩;subst e;obtain⟨l,hl,hal⟩:=yJ.mp hbm;obtain⟨q,hq,rfl⟩:=zM.mp hl;obtain⟨i,hi⟩:=(hb p (zG ..)).2 a ha;obtain⟨j,hj⟩:=(hb q (zF _ hq)).2 a hal;have ne:p.1≠q.1:=fun z=>nd.1 (by rw[z];exact zM.mpr ⟨q,hq,rfl⟩);have up:=hu p (zG ..);have uq:=hu q (zF _ hq);rcases Nat.le_total i j with h|h
  .exact apart w up uq ne hi hj h
  .exact apart w uq up ne.symm hj hi h
theorem qcm{S:Ts}(w:WF S):∀{n:Nat} {z:Str} {zs:List Str},jnx S n z zs->zs.Nodup/\∀y∈zs,y=z\/y∈S.hl.map (·.n)
 |0,z,_,⟨parts,rest,hp,rfl,hb⟩=>by
  have:parts=[]:=by
   cases parts with
   |nil=>rfl
   |cons p r=>exact(hb p (zG ..)).elim
  subst this;exact⟨by simp[flat],fun y hy=> .inl (by simpa[flat] using hy)⟩
 |n+1,z,_,⟨parts,rest,hp,rfl,hb⟩=>by
  have kd:=je2 w z;have hk:∀p∈parts,p.1∈qbj S z:=fun p h=>hp.mem_iff.mp (zY _ (zM.mpr ⟨p,h,rfl⟩));have hu:∀p∈parts,upS S p.1=some z:=fun p h=>jlm w (hk p h);have hn:(parts.map (·.1)).Nodup:=(yE.mp (hp.nodup_iff.mpr kd)).1;have fl:=qfi w (z:=z) hn hu fun p h=>⟨(qcm w (hb p h)).1,jdd w (hb p h)⟩;refine⟨zU.mpr ⟨fun hm=>?_,fl⟩,fun y hy=>?_⟩
  .obtain⟨l,hl,hal⟩:=yJ.mp hm;obtain⟨q,hq,rfl⟩:=zM.mp hl;obtain⟨k,hk'⟩:=jdd w (hb q hq) z hal;refine jd8 w (k:=k) (z:=z) ?_;rw[qe3,hk'];show(upS S q.1).bind _=_;rw[hu q hq];rfl
  .rcases zP.mp hy with rfl|hy
   .exact .inl rfl
   .obtain⟨l,hl,hal⟩:=yJ.mp hy;obtain⟨q,hq,rfl⟩:=zM.mp hl;have hq1:q.1∈S.hl.map (·.n):=by
     obtain⟨e,he,e1⟩:=zM.mp (hk q hq);rw[<-e1];exact zM.mpr ⟨e,(yL.mp he).1,rfl⟩
    rcases(qcm w (hb q hq)).2 y hal with rfl|h
    .exact .inr hq1
    .exact .inr h
def jhz(w:WF S)(hz:S.hl.length<=60):jul S:=fun n z zs h=>by
 obtain⟨nd,hm⟩:=qcm w h;have:=jgr (m:=z::S.hl.map (·.n)) nd fun y hy=>by
  rcases hm y hy with rfl|h
  .exact zG ..
  .exact zF _ h
 rw[zI,zB] at this;omega
noncomputable def qdv(S:Ts)(y:Str):Pt:=match S.at y with
 |some e=>⟨e.x.pa,e.x.kp,e.x.fp⟩
 |none=>⟨0,[],noF⟩
theorem qfe(h:S.at y=some e):qdv S y=⟨e.x.pa,e.x.kp,e.x.fp⟩:=by unfold qdv;rw[h]
def qfu(S:Ts):Prop:=S.ws.length<=100/\∀e∈S.hl,∀z,e.x.fp z≠none->z∈S.ws
def w31(K:uY)(d:Ad):Sp:=fun vs H Q E=>∃(t:Addr)(S:Ts)(x:V),vs=[.ref t,x]/\qdy d H t S/\WF S/\qfu S/\qes K H x/\
 (∀e,who S x=some e->Dep S 12 e.n/\∀l zs k' H',qas H H'->H l=none->H' l=some (.dK k')->Ben S 12 e.n zs->AD k' (qei (zs.map (qdv S)))->Q (.ref l) H')/\(who S x=none->∀l,H l=none->E (.ref d.w01) none (upd H l (.lst [x])))
include T in
theorem w1j:jab P w K mg base (My.CX1 P w) 17 d.w0w d.w0q ["self","name"] (w31 K d):=by
 exists okX T.w3d w30
 .right
 obtain⟨t,S,x,rfl,hT,hW,hO,hx,q1,q2⟩:=h;refine⟨_,(qa6 (qaj (qaf ((w9w T).mono ∅) hr rfl T.waw T.w7a.kp T.wat .nil qaz #[qdg (caps:=[0]) (cn:=["self"]) (qc6 rfl rfl (by rfl) (by rfl) rfl ⟨rfl,trivial⟩ (by rfl) rfl ⟨⟨rfl,rfl,rfl,rfl,_,rfl⟩,trivial⟩ ∅) rfl (qcj (qbi (pv 0) T.w0b T.w0r ((w6q T).mono ∅) hr T.w4k .nil qb7 #[pv 1])) (fun _ _ _ _=>qd7) (fun _ _ _ _=>(qc2 (qc2 (pv 1) rfl|||pv 0) rfl))]))),?_⟩
 walk_at"d"
 dsimp only[cxC];refine qak (σ:=[sr t,some (x)]) rfl ?_;have ct:=T.w0b;have ch:=T.w1m;have nh:qb0 K d.w07 "houses":=T.w0c;have nf:qb0 K d.w0g "promise":=T.w0j;obtain⟨dx,ht⟩:=hT.1;have nd:=hT.2.2.2.1;left;refine⟨t,S,x,rfl,hT,jhz hW hT.2.2.2.2.1,hx,fun e he=>⟨(q1 e he).1,?_⟩,q2⟩;obtain⟨hD,q⟩:=q1 e he;intro lb zs H1 s1 hlb eb hB;left;have hT1:=hT.same s1;obtain⟨⟨_,ht1⟩,hw,hh,_,hz,hE⟩:=hT1;have hbn:=qcm hW (Ben.part hB);have hzs:=jhz hW hz 12 _ _ (Ben.part hB);have hin:∀y∈zs,∃ey,S.at y=some ey/\ey∈S.hl:=fun y hy=>by
  have hy':y∈S.hl.map (·.n):=by
   rcases hbn.2 y hy with rfl|h
   .obtain⟨z,rfl⟩:∃z,x=.str z:=by
     rcases hx with h|⟨_,nz⟩
     .exact h
     .rw[qej nz] at he;cases he
    exact zM.mpr ⟨e,(qbw he).1,rfl⟩
   .exact h
  obtain⟨ey,hm,rfl⟩:=zM.mp hy';exact⟨ey,qf3 nd hm,hm⟩
 intro C s0 H0 fp na hna;refine jdy zs.length (fun i H'=>H'=upd H1 na (.lst (((zs.take i).map (qdv S)).map fun u=> .ref u.a))) rfl ?_ ?_ ?_ ?_
 .rintro i H' hi rfl;exact⟨_,.str zs[i],SqL.of (qa7 eb hna),by rw[zC,zA hi];rfl⟩
 .rintro H' rfl;exact⟨_,SqL.of (qa7 eb hna),by rw[zB];exact uG _⟩
 .rintro i H' v H'' hi rfl ⟨rfl,hy⟩;have hv:=hy _ (SqL.of (qa7 eb hna));rw[zC,zA hi] at hv
  cases hv
  obtain⟨ey,h1,hm⟩:=hin _ (zJ hi);obtain⟨⟨dy,hya⟩,_⟩:=hE ey hm;left;refine jjr (h:=ey.a) (jck (.inl hh) hna) (by rw[qcv,h1];rfl) ?_;left;rw[qb4,yB,zA hi]
  congr 2
  simp only[Option.toList_some,zE,zS,dS,qfe h1]
 rintro H' rfl;rw[yG];have s2:=qa4 hna (.lst ((zs.map (qdv S)).map fun u=>V.ref u.a));have eN:upd H1 na (.lst ((zs.map (qdv S)).map fun u=>V.ref u.a)) na=some (.lst ((zs.map (qdv S)).map fun u=>V.ref u.a)):=qa1;left;refine⟨na,zs.map (qdv S),S.ws,rfl,SqL.of eN,hO.1,fun u hu=>?_,fun l k' H2 s3 hl el hA=>q l zs k' H2 ((s1.trans s2).trans s3) ((s1.trans s2).free hl) el hB hA⟩;obtain⟨y,hy,rfl⟩:=zM.mp hu;obtain⟨ey,h1,hm⟩:=hin y hy;obtain⟨_,hp,hA,_⟩:=hE ey hm;rw[qfe h1];exact⟨s2 _ _ hp,hA,hO.2 ey hm⟩
def w74(K:uY)(d:Ad):Sp:=fun vs H Q _=>∃(a:Addr)(z1 z2:Str),vs=[.ref a,.str z1,.str z2]/\z1.length<=100/\z2.length<=100/\H a=some (XS a d.w00 none)/\
 ∀dx H',H dx=none->dx≠a->H' a=some (XS a d.w00 (some dx))->H' dx=some (XD dx [("house",.str z1),("ware",.str z2)])->(∀b,b≠a->b≠dx->H' b=H b)->Q .non H'
theorem jh0(x y:Str):(x++y).length=x.length+y.length:=by
 show(x.cps++y.cps).size=x.cps.size+y.cps.size;simp
section
local macro_rules | `(tactic| walk_at "sp") => `(tactic| first
 |(with_reducible first|refine jts ?_|refine jqg ?_|refine jm3 ?_|refine jm4 ?_|refine jvj ?_|refine jwu ?_|refine jt1 ?_|refine jm9 ?_|refine jt2 ?_) |((with_reducible refine jqp ?z ?_);(case z=>first|(show _<=16777216;omega) |(simp only [jh0];show _<=16777216;omega))))
include T in
theorem w73:jab P w K mg base CX0 1 d.w3q d.w2y ["self","house","ware"] (w74 K d):=by
 exists T.w7o.ok w70
 .right
 obtain⟨a,z1,z2,rfl,l1,l2,ha,q⟩:=h;exists (qa3 (qb3 (jjk T.w5z T.w2l rfl T.w6t #[pv 0,jm2 (My.PJ.cons qaq (My.PJ.cons (jkz (pv 1)) (My.PJ.cons qaq (My.PJ.cons (jkz (pv 2)) My.PJ.nil))))]))
  (qa3 (jqi (pv 0) (pv 1))
  (qa6 (jqi (pv 0) (pv 2))))),[sr a,some (.str z1),some (.str z2)];have e0:Str.empty.length=0:=∅
 have e1:(uO "too much is promised at ").length=24:=∅
 have e2:(uO " in ").length=4:=∅
 left;refine⟨a,none,_,rfl,(show 1<=16777216 by decide),ha,?_⟩;left;refine jtt T.w17 T.wdp ha fun dx hd ne=>?_;left;refine jtu (dx:=dx) (fs:=[(_,_)]) T.w17 T.wdo qa1 (by rw[qa9 ne];exact qa1) (by show 1<1000;decide) ?_;left;refine q dx _ hd ne ?_ ?_ ?_
 .rw[qa9 (xB ne)];exact qa1
 .rw[qa1];rfl
 .intro b h1 h2;rw[qa9 h2,qa9 h1,qa9 h2]
def NoP(d:Ad)(H:Hp)(z1 z2:Str)(E:XK):Prop:=∀dx H',qas H H'->H dx=none->H' dx=some (XD dx [("house",.str z1),("ware",.str z2)])->E (.ref d.w00) (some dx) H'
def NoP.same{d:Ad}{H H':Hp}{z1 z2:Str}{E:XK}(h:NoP d H z1 z2 E)(s:qas H H'):NoP d H' z1 z2 E:=fun dx H2 s2 hd e=>h dx H2 (s.trans s2) (s.free hd) e
inductive jbc(K:uY)(d:Ad)(vs:List V)(H:Hp)(Q:VK)(E:XK):Prop
 |mk(x:Str)(a b:Addr)(ka kb:List (Key×V))(f g:Str->Option Int)(_:vs=[.str x,.ref a,.ref b])(_:Rd H a (.dK ka))(_:Rd H b (.dK kb))(_:AD ka f)(_:AD kb g)(_:ka.length<64)(_:x.length<=100)(_:(∀z,f z≠none->z.length<=100))(_:((∀y,¬qfv f g y)->∀H',qas H H'->Q .non H'))(_:∀z,qfv f g z->(∀y,qfv f g y->leS z y)->NoP d H x z E)
local macro_rules | `(tactic| walk_at "sp") => `(tactic| (with_reducible refine jvj ?_))
include T in
theorem w1w:jab P w K mg base (My.CX1 P w) 3 d.w25 d.w1x ["name","promises","cap"] (jbc K d):=by
 exists okX T.w1f w37
 .right
 obtain⟨x,a,b,ka,kb,f,g,rfl,ha,hb,hf,hg,hz,hx,hl,q1,q2⟩:=h;exists (qa3 (qag (i:=3) w37.nd rfl (uK rfl) (qaf ((wbr T).mono ∅) hr rfl T.wc8 T.war.kp T.wca .nil qaz #[pv 1,pv 2]))
  (qa6 (qay (qal qec (pv 3) qcq (qar _)) (qa6 (jgg rfl T.w5z ((w73 T).mono ∅) hr T.w87 rfl T.w6f qb7 #[pv 0,pv 3])) qad))),[some (.str x),sr a,sr b,none];left;refine⟨a,b,ka,kb,f,g,rfl,ha,hb,hf,hg,hz,fun H1 s1 hn=>?_,fun z H1 s1 hv hle=>?_⟩
 .left;exact q1 hn _ s1
 .have hzl:=hl z hv.1;left;rename_i p hp;refine⟨p,x,z,rfl,hx,hzl,qa1,fun dx H' hd ne ha hx rest=>⟨rfl,some dx,ha,?_⟩⟩;rw[qa9 ne] at hd;refine q2 z hv hle dx _ (fun b o e=>?_) (s1.free hd) (by rw[qd8 ne];exact hx);have e1:=s1 _ _ e;have h:b≠p:=qa8 e1 hp;rw[qd8 h,rest b h (qa8 e1 hd),qa9 h];exact e1
def jor(S:Ts)(fm:Str->Option Int)(y:Str):Prop:=∃e bs,S.at y=some e/\Ben S 12 y bs/\∀v,¬qfv (qdx (qei (bs.map (qdv S))) fm) e.x.fc v
inductive ja6(K:uY)(d:Ad)(vs:List V)(H:Hp)(Q:VK)(E:XK):Prop
 |mk(t lb m:Addr)(S:Ts)(zs:List Str)(km:List (Key×V))(fm:Str->Option Int)(_:vs=[.ref t,.ref lb,.ref m])(_:qdy d H t S)(_:WF S)(_:qfu S)(_:SqL K H lb (zs.map V.str))(_:H m=some (.dK km))(_:AD km fm)(_:S.ws.length<=50)(_:(∀z∈S.ws,z.length<=100))(_:(∀z,fm z≠none->z∈S.ws))(_:(∀y∈zs,y.length<=100/\Dep S 12 y/\∃e,S.at y=some e))(_:((∀y∈zs,jor S fm y)->∀H',qas H H'->Q .non H'))(_:∀(i:Nat)(y:Str)(e:He)(bs:List Str)(z:Str),zs[i]?=some y->S.at y=some e->Ben S 12 y bs->qfv (qdx (qei (bs.map (qdv S))) fm) e.x.fc z->(∀v,qfv (qdx (qei (bs.map (qdv S))) fm) e.x.fc v->leS z v)->(∀(j:Nat)(y':Str),j<i->zs[j]?=some y'->jor S fm y')->NoP d H y z E)
include T in
theorem w53:jab P w K mg base (My.CX1 P w) 18 d.w1y d.w1r ["self","names","more"] (ja6 K d):=by
 exists okX T.w5j w2u
 .right
 obtain⟨t,lb,m,S,zs,km,fm,rfl,hT,hW,hO,hL,hm,hA,hws,hw100,hfm,hy,q1,q2⟩:=h;exists qa6 (qbl (qfh rfl rfl) rfl (qcj (pv 1)) (qah (i:=3) w2u.nd rfl (uK rfl)) (qa6 (qb3 (qcf ((w1w T).mono ∅) hr rfl T.w28 T.w1f.kp T.w29 .nil qb7 #[pv 3,qaf ((wam T).mono ∅) hr rfl T.wbe T.waa.kp T.wbu .nil qaz #[qbi (pv 0) T.w0b T.w0d ((w1j T).mono ∅) hr T.w1o .nil qb7 #[pv 3],pv 2],qc2 (qc2 (pv 0) rfl|||pv 3) rfl])))),[sr t,sr lb,sr m,none];have ct:=T.w0b;have ch:=T.w1m;have nh:qb0 K d.w07 "houses":=T.w0c;have nf:qb0 K d.w0g "cap":=T.w0v;left;refine qf0 (xs:=zs.map V.str) (fun i σ H'=>qas H H'/\(∃w,σ=[sr t,sr lb,sr m,w])/\∀(j:Nat)(y':Str),j<i->zs[j]?=some y'->jor S fm y') ⟨qas.refl _,⟨_,rfl⟩,fun j y' h=>absurd h #[]⟩ ?_ ?_ ?_
 .rintro i σ H' _ ⟨sm,_⟩;exact sm.seq hL
 .rintro i v σ H' hv ⟨sm,⟨w,rfl⟩,hall⟩;rw[zC] at hv;obtain⟨y,hyi,rfl⟩:=vQ.mp hv;obtain⟨hyl,hD,e,h1⟩:=hy y (zD hyi);obtain⟨dx,ht⟩:=(hT.same sm).1;left;have sup:∀bs:List Str,(∀b∈bs,∃eb,S.at b=some eb/\eb∈S.hl)->∀z,qei (bs.map (qdv S)) z≠none->z∈S.ws:=fun bs hbs=>by
   refine jhy (fun u hu z hz=>?_) noF (fun z hz=>absurd rfl hz);obtain⟨b,hb1,rfl⟩:=zM.mp hu;obtain⟨eb,h3,h4⟩:=hbs b hb1;rw[qfe h3] at hz;exact hO.2 eb h4 z hz
  refine⟨t,S,.str y,rfl,hT.same sm,hW,hO,.inl ⟨y,rfl⟩,fun e' he'=>?_,fun hn=>?_⟩
  .have ee:e=e':=vB (h1.symm.trans he');subst ee;have hme:=qbw h1;rw[hme.2];refine⟨hD,fun l bs k' H2 s2 hl el hB hA2=>?_⟩;have hbs:∀b∈bs,∃eb,S.at b=some eb/\eb∈S.hl:=fun b hb1=>by
    have hb2:b∈S.hl.map (·.n):=by
     rcases(qcm hW (Ben.part hB)).2 b hb1 with rfl|h
     .exact zM.mpr ⟨e,hme.1,hme.2⟩
     .exact h
    obtain⟨eb,h3,rfl⟩:=zM.mp hb2;exact⟨eb,qf3 hW.1 h3,h3⟩
   have l1:=hA2.le (sup bs hbs);have l2:=hA.le hfm;left;refine⟨l,m,k',km,_,fm,rfl,.inl el,(sm.trans s2) _ _ hm,hA2,hA,#[],#[],fun lx kx H3 s3 hlx elx hA3=>?_⟩;have sx:=(sm.trans s2).trans s3;obtain⟨⟨dx3,ht3⟩,_,hh3,_,_,hE3⟩:=hT.same sx;obtain⟨⟨dh,ho⟩,_,_,hc,hcA⟩:=hE3 e hme.1;left;refine jjr (h:=e.a) (.inl hh3) (by rw[qcv,h1];rfl) ?_;left;have l3:=hA3.le (ws:=S.ws) (qhf (sup bs hbs) hfm);refine⟨y,lx,e.x.ca,kx,e.x.kc,_,e.x.fc,rfl,.inl elx,.inl hc,hA3,hcA,#[],hyl,fun z hz=>hw100 z (qhf (sup bs hbs) hfm z hz),fun hn H4 s4=>?_,fun z hv hle=>?_⟩
   .refine⟨sx.trans s4,⟨_,rfl⟩,fun j y' hj hy'=>?_⟩;by_cases c:j=i
    .subst c;rw[hyi] at hy'
     cases hy'
     exact⟨e,bs,h1,hB,hn⟩
    .exact hall j y' #[] hy'
   .exact(q2 i y e bs z hyi h1 hB hv hle hall).same sx
  .rw[show who S (.str y)=some e from h1] at hn;cases hn
 .rintro σ H' ⟨sm,⟨w,rfl⟩,hall⟩;rw[zB] at hall;left;refine q1 (fun y hy=>?_) _ sm;obtain⟨j,hj,e⟩:=zR.mp hy;exact hall j y hj (by rw[zA hj,e])
end
inductive Bd(H:Hp):V->Prop
 |far(i:Int)(h:i<0\/10^30<i):Bd H (.int i)
 |bl(b:Bool):Bd H (.bl b)
 |non:Bd H .non
 |str(z:Str):Bd H (.str z)
 |lst{a:Addr}{xs:List V}(h:H a=some (.lst xs)):Bd H (.ref a)
 |tup{a:Addr}{xs:List V}(h:H a=some (.tup xs)):Bd H (.ref a)
theorem Bd.same{H H':Hp}{v:V}(h:Bd H v)(s:qas H H'):Bd H' v:=by
 cases h with
 |far i h=>exact .far i h
 |bl b=>exact .bl b
 |non=>exact .non
 |str z=>exact .str z
 |lst h=>exact .lst (s _ _ h)
 |tup h=>exact .tup (s _ _ h)
def NoI(K:uY)(H:Hp)(x:V):Prop:=(∃b,x=.bl b)\/∃t,ja5 K H x t/\vY K t (.type "int")=some false
def NoD(K:uY)(H:Hp)(x:V):Prop:=∃t,ja5 K H x t/\vY K t (.type "dict")=some false
theorem Bd.noI{K:uY}(h:Bd H v):(∃i,v=.int i/\(i<0\/10^30<i))\/NoI K H v:=by
 cases h with
 |far i h=>exact .inl ⟨i,rfl,h⟩
 |bl b=>exact .inr (.inl ⟨b,rfl⟩)
 |non=>exact .inr (.inr ⟨_,.non,by unfold vY;rfl⟩)
 |str z=>exact .inr (.inr ⟨_,.str z,by unfold vY;rfl⟩)
 |lst h=>exact .inr (.inr ⟨_,.lst h,by unfold vY;rfl⟩)
 |tup h=>exact .inr (.inr ⟨_,.tup h,by unfold vY;rfl⟩)
def w9j(K:uY)(d:Ad):Sp:=fun vs H Q _=>∃x:V,vs=[x]/\((∃i,x=.int i)/\Q (.bl true) H\/NoI K H x/\Q (.bl false) H)
include T in
theorem w9m:jab P w K mg base CX0 1 d.w5m d.w4r ["thing"] (w9j K d):=by
 exists T.w78.ok w9l
 .right
 obtain⟨x,rfl,h⟩:=h;exists qa6 (qaj (jbp (qac qbq rfl T.w04 uJ #[pv 0,qc4 (v:=.ty "int") rfl T.wd2 eZ rfl]) (qg4 (jkb (qac qbq rfl T.w04 uJ #[pv 0,qc4 (v:=.ty "bool") rfl T.wct PyProof.Rows.boot_bool rfl]))))),[some (x)];rcases h with⟨⟨i,rfl⟩,q⟩|⟨⟨b,rfl⟩|⟨t,ty,e⟩,q⟩
 .left;exact q
 .left;exact q
 .left;exact q
def w64(K:uY)(d:Ad):Sp:=fun vs H Q _=>∃(x:V)(a b:Int),vs=[x,.int a,.int b]/\((∃i,x=.int i/\Q (.bl (decide (a<=i) && decide (i<=b))) H)\/NoI K H x/\Q (.bl false) H)
include T in
theorem w3r:jab P w K mg base CX0 2 d.w2h d.w24 ["thing","least","most"] (w64 K d):=by
 exists T.w2n.ok w63
 .right
 obtain⟨x,a,b,rfl,h⟩:=h;exists qa6 (qaj (jbp (qaf ((w9m T).mono ∅) hr rfl T.wb1 T.w78.kp T.wau .nil qaz #[pv 0]) (qg4 (ji0 jbr jbr (pv 1) (pv 0) (pv 2))))),[some (x),some (.int a),some (.int b)];left;rcases h with⟨i,rfl,q⟩|⟨n,q⟩
 .refine⟨_,rfl,.inl ⟨⟨i,rfl⟩,?_⟩⟩;left;by_cases c:a<=i
  .rw[iP c] at q⊢;refine qez ?_;left;exact q
  .rw[iQ c] at q⊢;refine jkl ?_;exact q
 .refine⟨_,rfl,.inr ⟨n,?_⟩⟩;left;exact q
def w93(K:uY)(d:Ad):Sp:=fun vs H Q _=>∃x:V,vs=[x]/\((∃i,x=.int i/\0<=i/\i<=10^30)/\Q (.bl true) H\/Bd H x/\Q (.bl false) H)
include T in
theorem w8r:jab P w K mg base CX0 3 d.w51 d.w42 ["thing"] (w93 K d):=by
 exists T.w6h.ok w8s
 .right
 obtain⟨x,rfl,h⟩:=h;exists qa6 (qaj (qaf ((w3r T).mono ∅) hr rfl T.w44 T.w2n.kp T.w4b .nil qaz #[pv 0,qa5,qae qeb qa5 qa5])),[some (x)];left;rcases h with⟨⟨i,rfl,h0,h1⟩,q⟩|⟨b,q⟩
 .refine⟨_,0,_,rfl,.inl ⟨i,rfl,?_⟩⟩;rw[show(10:Int)^wB 30=10^30 from rfl,iP h0,iP h1];left;exact q
 .rcases b.noI (K:=K) with⟨i,rfl,h⟩|n
  .refine⟨_,0,_,rfl,.inl ⟨i,rfl,?_⟩⟩;rw[show(10:Int)^wB 30=10^30 from rfl,show(decide ((0:Int)<=i) && decide (i<=10^30))=false by
    rcases h with h|h
    .rw[iQ #[]];rfl
    .rw[iQ (show ¬i<=10^30 by omega),aR]]
   left;exact q
  .refine⟨_,0,_,rfl,.inr ⟨n,?_⟩⟩;left;exact q
theorem jnz{K:uY}{k:MK}(h:MkV H k v):(∃z,k=.k (.inr z)/\v=.str z)\/((∀z,k≠ .k (.inr z))/\∃t,ja5 K H v t/\vY K t (.type "str")=some false):=by
 match k,h with
 | .k (.inl i),.inl e=>subst e;exact .inr ⟨fun z e=>(by cases e),_,.int i,by unfold vY;rfl⟩
 | .k (.inl i),.inr ⟨b,e,_⟩=>subst e;exact .inr ⟨fun z e=>(by cases e),_,.bl b,by unfold vY;rfl⟩
 | .k (.inr z),e=>obtain rfl:v=.str z:=e;exact .inl ⟨z,rfl,rfl⟩
 | .no,e=>obtain rfl:v=.non:=e;exact .inr ⟨fun z e=>(by cases e),_,.non,by unfold vY;rfl⟩
 | .tu ks,⟨b,e,x⟩=>subst e;exact .inr ⟨fun z e=>(by cases e),_,.tup x,by unfold vY;rfl⟩
theorem qgr{K:uY}{p:Addr}(hS:H p=some (.lst (ws.map V.str)))(q:Q (.bl (!decide (z∈ws))) H):rIn K true (.str z) (.ref p) H Q:=by
 refine⟨p,_,rfl,.inl (SqL.of hS),rfl,qfn ws,?_⟩;rw[qh7];by_cases c:z∈ws
 .rw[iP c] at q⊢;exact q
 .rw[iQ c] at q⊢;exact q
def jrs(nd:(kvs.map (·.1)).Nodup){i:Nat}{k:Key}{v:V}(h:kvs[i]?=some (k,v)):qco kvs k=some v:=qf8 nd (zD h)
theorem Bd.put{o:HO}(h:Bd H v)(ha:H a=some (.dK kvs)):Bd (upd H a o) v:=by
 cases h with
 |far i h=>exact .far i h
 |bl b=>exact .bl b
 |non=>exact .non
 |str z=>exact .str z
 |lst h=>exact .lst (by rw[qa9 (qds h ha (by intro z;cases z))];exact h)
 |tup h=>exact .tup (by rw[qa9 (qds h ha (by intro z;cases z))];exact h)
def jum(d:Rd H a (.dK kvs))(e:qco kvs (vE z)=some v)(h:Q v H):jsh (.ref a) (.str z) H Q:=⟨a,v,rfl,.inl ⟨kvs,vE z,d,rfl,e.symm⟩,h⟩
def AmV(H:Hp)(v:V):Prop:=∃i,v=.int i/\0<=i/\i<=10^30
def AmV.no(h:AmV H v):¬Bd H v:=fun b=>by
 obtain⟨i,rfl,h0,h1⟩:=h
 cases b with
 |far i h=>omega
inductive Hd(P:uI)(w:vA)(K:uY)(d:Ad)(ws:List Str)(x:V)(H:Hp)(Q:VK)(E:XK):Prop
 |no(h:NoD K H x)(e:∀H',qas H H'->E (.ref d.w03) none H')
 |mx{a:Addr}{kvs:List MV}(hx:x=.ref a)(h:MD P w H a kvs)(b:∃p∈kvs,∀z∈ws,p.1≠MK.k (.inr z))(e:∀H',qas H H'->E (.ref d.w0a) none H')
 |ky{a:Addr}{kvs:List (Key×V)}(hx:x=.ref a)(h:H a=some (.dK kvs))(t:∀p∈kvs,∃z,p.1=vE z)(b:∃p∈kvs,∀z∈ws,p.1≠vE z)(e:∀H',qas H H'->E (.ref d.w0a) none H')
 |vl{a:Addr}{kvs:List (Key×V)}(hx:x=.ref a)(h:H a=some (.dK kvs))(nd:(kvs.map (·.1)).Nodup)(t:∀p∈kvs,∃z∈ws,p.1=vE z)(v:∀p∈kvs,AmV H p.2\/Bd H p.2)(b:∃p∈kvs,Bd H p.2)(e:∀H',qas H H'->E (.ref d.w03) none H')
 |ok{a:Addr}{kvs:List (Key×V)}{f:Str->Option Int}(hx:x=.ref a)(h:H a=some (.dK kvs))(A:AD kvs f)(z:kvs.length<=1000)(hf:∀z n,f z=some n->z∈ws/\0<=n/\n<=10^30)
   (q:∀l k' H',qas H H'->H l=none->H' l=some (.dK k')->AD k' (qbm f)->Q (.ref l) H')
def w7d(P:uI)(w:vA)(K:uY)(d:Ad):Sp:=fun vs H Q E=>∃(x:V)(wa:Addr)(ws:List Str),vs=[x,.ref wa]/\H wa=some (.lst (ws.map V.str))/\Hd P w K d ws x H Q E
include T in
theorem w56:jab P w K mg base (My.CX1 P w) 4 d.w46 d.w39 ["handed","wares"] (w7d P w K d):=by
 exists okX T.w43 w3o
 .right
 obtain⟨x,wa,ws,rfl,hw,h⟩:=h;exists (qa3 (qay (qbr (qbd (qac jcm rfl T.w04 uJ #[pv 0,qc4 (v:=.ty "dict") rfl T.w5d wC rfl]))) (qa6 (qcb rfl T.w79 rfl T.w5n qb7 #[qaq])) qad)
  (qa3 (qew (qbl (qfh rfl rfl) rfl (qgz (pv 0)) (qah (i:=2) w3o.nd rfl (uK rfl)) (qa6 (qay (PW.pt (qek (qbr (qbd (qac qbq rfl T.w04 uJ #[pv 2,qc4 (v:=.ty "str") rfl T.wbl aJ rfl]))) (qd6 (qal qey (pv 2) (pv 1) (by rfl))))) (qa6 (jk3 (qcb rfl T.waq rfl T.w7q qb7 #[qaq]))) qad))))
  (qa3 (qew (qbl (qfh rfl rfl) rfl (qgz (pv 0)) (qah (i:=3) w3o.nd rfl (uK rfl)) (qa6 (qay (qbr (qbd (qaf ((w8r T).mono ∅) hr rfl T.w9e T.w6h.kp T.wac .nil qaz #[pv 0|||pv 3]))) (qa6 (jk3 (qcb rfl T.w79 rfl T.w5n qb7 #[qaq]))) qad))))
  (qa6 (qaj (qaf ((w6g T).mono ∅) hr rfl T.w6w T.w4j.kp T.w72 .nil qaz #[pv 0])))))),[some (x),sr wa,none,none];left
 cases h with
 |no h e=>
  obtain⟨t,ty,ek⟩:=h;refine qev (jml ty ek ?_);left;exact e _ (qas.refl _)
 |mx hx h b e=>
  rename_i a kvs;subst hx;refine jli h ?_;left;refine jiu ?_;left;refine jlh h fun o ho=>?_;refine jhl (fun i σ H'=>H'=H/\(∃w2,σ=[sr a,sr wa,w2,none])/\∀j p,j<i->kvs[j]?=some p->∃z∈ws,p.1=MK.k (.inr z)) ⟨rfl,⟨_,rfl⟩,fun j p hj=>absurd hj (wL j)⟩ ?_ ?_ ?_
  .rintro i σ H' _ ⟨rfl,_⟩;exact ho
  .rintro i p σ H' hp ⟨rfl,⟨w2,rfl⟩,hno⟩;rcases jnz (K:=K) (h.ks p (zD hp)) with⟨z,ek,ev⟩|⟨nk,t,ty,et⟩
   .rw[ev];show qdl _ (.str z) _ _ _;left;refine qgr hw ?_;by_cases c:z∈ws
    .rw[iP c];left;refine⟨rfl,⟨_,rfl⟩,fun j p' hj hp'=>?_⟩;rcases vZ j i with hl|hl
     .exact hno j p' hl hp'
     .obtain rfl:j=i:=by omega
      rw[hp] at hp'
      cases hp'
      exact⟨z,c,ek⟩
    .rw[iQ c];left;refine jjn jna ?_;left;exact e _ (qas.refl _)
   .generalize p.2.1=v at*;left;refine jjn jna ?_;left;exact e _ (qas.refl _)
  .rintro σ H' ⟨rfl,⟨w2,rfl⟩,hno⟩;obtain⟨p,hp,hb⟩:=b;obtain⟨j,hj⟩:=yC.mp hp;obtain⟨z,hz,ez⟩:=hno j p (uH.mp hj).1 hj;exact absurd ez (hb z hz)
 |ky hx h t b e=>
  rename_i a kvs;subst hx;refine qev ?_;left;refine jiu ?_;left;refine qeu h fun o=>?_;have hwa:wa≠a:=qds hw h (by intro z;cases z);have hw':upd H a (.frz o (.dK kvs)) wa=some (.lst (ws.map V.str)):=by rw[qa9 hwa];exact hw
  refine qdw (fun i σ H'=>H'=upd H a (.frz o (.dK kvs))/\(∃w2,σ=[sr a,sr wa,w2,none])/\∀j p,j<i->kvs[j]?=some p->∃z∈ws,p.1=vE z) ⟨rfl,⟨_,rfl⟩,fun j p hj=>absurd hj (wL j)⟩ ?_ ?_ ?_
  .rintro i σ H' _ ⟨rfl,_⟩;exact qa1
  .rintro i k v σ H' hp ⟨rfl,⟨w2,rfl⟩,hno⟩;obtain⟨z,ez⟩:=t _ (zD hp);obtain rfl:k=vE z:=ez;show qdl _ (.str z) _ _ _;left;refine qgr hw' ?_;by_cases c:z∈ws
   .rw[iP c];left;refine⟨rfl,⟨_,rfl⟩,fun j p' hj hp'=>?_⟩;rcases vZ j i with hl|hl
    .exact hno j p' hl hp'
    .obtain rfl:j=i:=by omega
     rw[hp] at hp'
     cases hp'
     exact⟨z,c,rfl⟩
   .rw[iQ c];left;refine jjn (qd9 qa1 (qbh h)) ?_;left;exact e _ (qb8 h (qde h))
  .rintro σ H' ⟨rfl,⟨w2,rfl⟩,hno⟩;obtain⟨p,hp,hb⟩:=b;obtain⟨j,hj⟩:=yC.mp hp;obtain⟨z,hz,ez⟩:=hno j p (uH.mp hj).1 hj;exact absurd ez (hb z hz)
 |vl hx h nd t v b e=>
  rename_i a kvs;subst hx;refine qev ?_;left;refine jiu ?_;left;refine qeu h fun o=>?_;have hwa:wa≠a:=qds hw h (by intro z;cases z);have hw':upd H a (.frz o (.dK kvs)) wa=some (.lst (ws.map V.str)):=by rw[qa9 hwa];exact hw
  refine qdw (fun i σ H'=>H'=upd H a (.frz o (.dK kvs))/\(∃w2,σ=[sr a,sr wa,w2,none])) ⟨rfl,⟨_,rfl⟩⟩ ?_ ?_ ?_
  .rintro i σ H' _ ⟨rfl,_⟩;exact qa1
  .rintro i k v σ H' hp ⟨rfl,⟨w2,rfl⟩⟩;obtain⟨z,hz,ez⟩:=t _ (zD hp);obtain rfl:k=vE z:=ez;show qdl _ (.str z) _ _ _;left;refine qgr hw' ?_;rw[iP hz];left;exact⟨rfl,⟨_,rfl⟩⟩
  .rintro σ H' ⟨rfl,⟨w2,rfl⟩⟩;refine qdu (qd9 qa1 (qbh h)) ?_;have s2:=qb8 h (qde (o:=o) h);have ha2:upd (upd H a (.frz o (.dK kvs))) a (.dK kvs) a=some (.dK kvs):=qa1;clear hw';generalize upd (upd H a (.frz o (.dK kvs))) a (.dK kvs)=H2 at*;left;refine jiu ?_;left;refine qeu ha2 fun o2=>?_;refine qdw (fun i σ H'=>H'=upd H2 a (.frz o2 (.dK kvs))/\(∃w3,σ=[sr a,sr wa,w2,w3])/\∀j p,j<i->kvs[j]?=some p->¬Bd H p.2) ⟨rfl,⟨_,rfl⟩,fun j p hj=>absurd hj (wL j)⟩ ?_ ?_ ?_
   .rintro i σ H' _ ⟨rfl,_⟩;exact qa1
   .rintro i k y σ H' hp ⟨rfl,⟨w3,rfl⟩,hno⟩;obtain⟨z,hz,ez⟩:=t _ (zD hp);obtain rfl:k=vE z:=ez;have hRd:Rd (upd H2 a (.frz o2 (.dK kvs))) a (.dK kvs):=.inr ⟨o2,qa1⟩;have hv:=v _ (zD hp);dsimp only at hv;show qdl _ (.str z) _ _ _;left;refine jum hRd (jrs nd hp) ?_;left;rcases hv with am|bd
    .refine⟨_,rfl,.inl ⟨am,?_⟩⟩;left;refine⟨rfl,⟨_,rfl⟩,fun j p' hj hp'=>?_⟩;rcases vZ j i with hl|hl
     .exact hno j p' hl hp'
     .obtain rfl:j=i:=by omega
      rw[hp] at hp'
      cases hp'
      exact am.no
    .refine⟨_,rfl,.inr ⟨(bd.same s2).put ha2,?_⟩⟩;left;refine jjn (qd9 qa1 (qbh h)) ?_;left;exact e _ (s2.trans (qb8 ha2 (qde ha2)))
   .rintro σ H' ⟨rfl,⟨w3,rfl⟩,hno⟩;obtain⟨p,hp,hb⟩:=b;obtain⟨j,hj⟩:=yC.mp hp;exact absurd hb (hno j p (uH.mp hj).1 hj)
 |ok hx h A z hf q=>
  rename_i a kvs f;subst hx;refine qev ?_;left;refine jiu ?_;left;refine qeu h fun o=>?_;have hwa:wa≠a:=qds hw h (by intro z;cases z);have hw':upd H a (.frz o (.dK kvs)) wa=some (.lst (ws.map V.str)):=by rw[qa9 hwa];exact hw
  refine qdw (fun i σ H'=>H'=upd H a (.frz o (.dK kvs))/\(∃w2,σ=[sr a,sr wa,w2,none])) ⟨rfl,⟨_,rfl⟩⟩ ?_ ?_ ?_
  .rintro i σ H' _ ⟨rfl,_⟩;exact qa1
  .rintro i k v σ H' hp ⟨rfl,⟨w2,rfl⟩⟩;obtain⟨z,n,rfl,rfl,hfz,hzi⟩:=A.at hp;show qdl _ (.str z) _ _ _;left;refine qgr hw' ?_;rw[iP (hf z n hfz).1];left;exact⟨rfl,⟨_,rfl⟩⟩
  .rintro σ H' ⟨rfl,⟨w2,rfl⟩⟩;refine qdu (qd9 qa1 (qbh h)) ?_;have s2:=qb8 h (qde (o:=o) h);have ha2:upd (upd H a (.frz o (.dK kvs))) a (.dK kvs) a=some (.dK kvs):=qa1;clear hw';generalize upd (upd H a (.frz o (.dK kvs))) a (.dK kvs)=H2 at*;left;refine jiu ?_;left;refine qeu ha2 fun o2=>?_;refine qdw (fun i σ H'=>H'=upd H2 a (.frz o2 (.dK kvs))/\(∃w3,σ=[sr a,sr wa,w2,w3])) ⟨rfl,⟨_,rfl⟩⟩ ?_ ?_ ?_
   .rintro i σ H' _ ⟨rfl,_⟩;exact qa1
   .rintro i k y σ H' hp ⟨rfl,⟨w3,rfl⟩⟩;obtain⟨z,n,rfl,rfl,hfz,hzi⟩:=A.at hp;have hRd:Rd (upd H2 a (.frz o2 (.dK kvs))) a (.dK kvs):=.inr ⟨o2,qa1⟩;show qdl _ (.str z) _ _ _;left;refine⟨_,rfl,.inl ⟨⟨n,rfl,(hf z n hfz).2⟩,?_⟩⟩;left;exact⟨rfl,⟨_,rfl⟩⟩
   .rintro σ H' ⟨rfl,⟨w3,rfl⟩⟩;refine qdu (qd9 qa1 (qbh h)) ?_;have s3:=s2.trans (qb8 ha2 (qde (o:=o2) ha2));have ha3:upd (upd H2 a (.frz o2 (.dK kvs))) a (.dK kvs) a=some (.dK kvs):=qa1;generalize upd (upd H2 a (.frz o2 (.dK kvs))) a (.dK kvs)=H3 at*;left;refine⟨a,kvs,f,rfl,ha3,A,z,fun l k' H4 s4 hl e4 A4=>?_⟩;left;exact q l k' H4 (s3.trans s4) (s3.free hl) e4 A4
def w81(K:uY)(d:Ad):Sp:=fun vs H Q _=>∃(x dx:Addr)(o:Ho),vs=[.ref x,eV o.el,.ref o.pa,.ref o.ca,.int o.w]/\H x=some (.ins d.w0g dx [])/\∀H',H' x=some (.ins d.w0g dx (fsH o))->SameBut x H H'->Q .non H'
include T in
theorem w84:jab P w K mg base CX0 1 d.w47 d.w3k ["self","elder","promise","cap","weight"] (w81 K d):=by
 exists T.w8d.ok w7z
 .right
 obtain⟨x,dx,o,rfl,hx,q⟩:=h;exists (qa3 (qg1 (pv 0) (pv 1) rfl)
  (qa3 (qg1 (pv 0) (pv 2) rfl)
  (qa3 (qg1 (pv 0) (pv 3) rfl)
  (qa6 (qg1 (pv 0) (pv 4) rfl))))),[sr x,some (eV o.el),sr o.pa,sr o.ca,some (.int o.w)];have cl:=T.w1m;have n1:qb0 K d.w0g "elder":=T.w0o;have n2:qb0 K d.w0g "promise":=T.w0j;have n3:qb0 K d.w0g "cap":=T.w0v;have n4:qb0 K d.w0g "weight":=T.w18;left;refine jgw qa1 cl n2 (by show 1<1000;decide) ?_;left;refine jgw qa1 cl n3 (by show 2<1000;decide) ?_;left;refine jgw qa1 cl n4 (by show 3<1000;decide) ?_;left;refine q _ (by rw[qa1];rfl) fun b u hb e=>?_;rw[qa9 hb,qa9 hb,qa9 hb,qa9 hb];exact e
def Am(P:uI)(w:vA)(K:uY)(d:Ad)(ws:List Str)(x:V)(c:Addr)(H:Hp):Prop:=
 ∀H',qas H H'->∀(Q0:VK)(E0:XK),(∀H'',qas H' H''->E0 (.ref c) none H'')->Hd P w K d ws x H' Q0 E0
def AmO(P:uI)(w:vA)(K:uY)(d:Ad)(ws:List Str)(x:V)(f:Str->Option Int)(H:Hp):Prop:=
 ∀H',qas H H'->∀(Q0:VK)(E0:XK),(∀l k H'',qas H' H''->H' l=none->H'' l=some (.dK k)->AD k (qbm f)->Q0 (.ref l) H'')->Hd P w K d ws x H' Q0 E0
def Am.same{P:uI}{w:vA}{K:uY}{d:Ad}{ws:List Str}{x:V}{c:Addr}{H H':Hp}(h:Am P w K d ws x c H)(s:qas H H'):Am P w K d ws x c H':=fun H2 s2=>h H2 (s.trans s2)
def AmO.same{P:uI}{w:vA}{K:uY}{d:Ad}{ws:List Str}{x:V}{f:Str->Option Int}{H H':Hp}(h:AmO P w K d ws x f H)(s:qas H H'):AmO P w K d ws x f H':=fun H2 s2=>h H2 (s.trans s2)
def NoW(x:V):Prop:=(∃i,x=.int i/\(i<1\/1000<i))\/(∃b,x=.bl b)\/x=.non\/∃z,x=.str z
inductive RhO(P:uI)(w:vA)(K:uY)(d:Ad)(ws:List Str)(el:Option Str)(xa xb xw:V)(H:Hp)(Q:VK)(E:XK):Prop
 |bp(c:Addr)(h:Am P w K d ws xa c H)(e:∀H',qas H H'->E (.ref c) none H')
 |bc(f:Str->Option Int)(c:Addr)(h:AmO P w K d ws xa f H)(h2:Am P w K d ws xb c H)(e:∀H',qas H H'->E (.ref c) none H')
 |bw(f g:Str->Option Int)(h:AmO P w K d ws xa f H)(h2:AmO P w K d ws xb g H)(n:NoW xw)(e:∀H',qas H H'->E (.ref d.w02) none H')
 |ok(f g:Str->Option Int)(wt:Int)(h:AmO P w K d ws xa f H)(h2:AmO P w K d ws xb g H)(hw:xw=.int wt)(w0:1<=wt)(w1:wt<=1000)
   (q:∀h o H',qas H H'->H h=none->H o.pa=none->H o.ca=none->jrm d H' h o->o.el=el->o.w=wt->(∀z,o.fp z=qbm f z)->(∀z,o.fc z=qbm g z)->Q (.ref h) H')
def w7c(P:uI)(w:vA)(K:uY)(d:Ad):Sp:=fun vs H Q E=>∃(wa:Addr)(el:Option Str)(ws:List Str)(xa xb xw:V),vs=[.ref wa,eV el,xa,xb,xw]/\H wa=some (.lst (ws.map V.str))/\RhO P w K d ws el xa xb xw H Q E
include T in
theorem w58:jab P w K mg base (My.CX1 P w) 5 d.w3u d.w3a ["wares","elder","promise","cap","weight"] (w7c P w K d):=by
 exists okX T.w3v w3i
 .right
 obtain⟨wa,el,ws,xa,xb,xw,rfl,hw,h⟩:=h;exists (qa3 (qag (i:=5) w3i.nd rfl (uK rfl) (qcf ((w56 T).mono ∅) hr rfl T.w60 T.w43.kp T.w61 .nil qb7 #[pv 2,pv 0]))
  (qa3 (qag (i:=6) w3i.nd rfl (uK rfl) (qcf ((w56 T).mono ∅) hr rfl T.w60 T.w43.kp T.w61 .nil qb7 #[pv 3,pv 0]))
  (qa3 (qay (qbr (qbd (qaf ((w3r T).mono ∅) hr rfl T.w44 T.w2n.kp T.w4b .nil qaz #[pv 4,qa5,qbt rfl T.w5o T.w0p]))) (qa6 (qcb rfl T.waz rfl T.w77 qb7 #[qaq])) qad)
  (qa6 (qaj (jmd T.w5c ((w84 T).mono ∅) hr rfl T.wd0 T.w8c .nil qaz #[pv 1,pv 5,pv 6,pv 4])))))),[sr wa,some (eV el),some (xa),some (xb),some (xw),none,none];left
 cases h with
 |bp c h e=>exact⟨xa,wa,ws,rfl,hw,h H (qas.refl _) _ _ fun H1 s1=>e H1 s1⟩
 |bc f c h h2 e=>
  refine⟨xa,wa,ws,rfl,hw,h H (qas.refl _) _ _ fun lp kp H1 s1 hlp ep hAp=>?_⟩;left;exact⟨xb,wa,ws,rfl,s1 _ _ hw,h2 H1 s1 _ _ fun H2 s2=>e H2 (s1.trans s2)⟩
 |bw f g h h2 n e=>
  refine⟨xa,wa,ws,rfl,hw,h H (qas.refl _) _ _ fun lp kp H1 s1 hlp ep hAp=>?_⟩;left;refine⟨xb,wa,ws,rfl,s1 _ _ hw,h2 H1 s1 _ _ fun lc kc H2 s2 hlc ec hAc=>?_⟩;left;have nI:(∃i,xw=.int i/\(i<1\/1000<i))\/NoI K H2 xw:=by
   rcases n with h|h|rfl|⟨z,rfl⟩
   .exact .inl h
   .exact .inr (.inl h)
   .exact .inr (.inr ⟨_,.non,by unfold vY;rfl⟩)
   .exact .inr (.inr ⟨_,.str z,by unfold vY;rfl⟩)
  rcases nI with⟨i,rfl,hi⟩|nI
  .refine⟨_,1,1000,rfl,.inl ⟨i,rfl,?_⟩⟩;rw[show(decide ((1:Int)<=i) && decide (i<=1000))=false by
    rcases hi with h|h
    .rw[iQ #[]];rfl
    .rw[iQ (show ¬i<=1000 by omega),aR]]
   left;exact e _ (s1.trans s2)
  .refine⟨_,1,1000,rfl,.inr ⟨nI,?_⟩⟩;left;exact e _ (s1.trans s2)
 |ok f g wt h h2 hxw w0 w1 q=>
  subst hxw;refine⟨xa,wa,ws,rfl,hw,h H (qas.refl _) _ _ fun lp kp H1 s1 hlp ep hAp=>?_⟩;left;refine⟨xb,wa,ws,rfl,s1 _ _ hw,h2 H1 s1 _ _ fun lc kc H2 s2 hlc ec hAc=>?_⟩;left;refine⟨_,1,1000,rfl,.inl ⟨wt,rfl,?_⟩⟩;rw[iP w0,iP w1,Bool.and_self];left;intro x dx hx hdx ne;have ep2:=s2 _ _ ep;refine⟨x,dx,⟨el,lp,kp,qbm f,lc,kc,qbm g,wt⟩,rfl,qa1,fun H3 ex sb=>⟨rfl,?_⟩⟩;have s3:qas H2 H3:=fun c o hc=>sb c o (qa8 hc hx) (by rw[qa9 (qa8 hc hx),qa9 (qa8 hc hdx)];exact hc);left;exact q x ⟨el,lp,kp,qbm f,lc,kc,qbm g,wt⟩ H3 ((s1.trans s2).trans s3) ((s1.trans s2).free hx) hlp (s1.free hlc) ⟨⟨dx,ex⟩,s3 _ _ ep2,hAp,s3 _ _ ec,hAc⟩ rfl rfl (fun _=>rfl) fun _=>rfl
def qax{o:HO}(s:qas H H')(n:H a=none):qas H (upd H' a o):=fun b u e=>by rw[qa9 (qa8 e n)];exact s b u e
noncomputable def isL(c:Nat):Bool:=decide (97<=c) && decide (c<=122)
theorem inL:∀c:Nat,c<128->(!(xZ (uO "abcdefghijklmnopqrstuvwxyz") ⟨(List.toArray [c])⟩ 0 (uO "abcdefghijklmnopqrstuvwxyz").length 1).isEmpty)=isL c:=by decide+kernel
noncomputable def qcy(x:Str):List Nat:=x.cps.toList
noncomputable def qbc(x:Str):Bool:=decide (1<=x.length) && decide (x.length<=8) && (qcy x).all isL
theorem jcn(x:Str):(qcy x).length=x.length:=by simp[qcy,Str.length]
theorem qbs(h:qbc z=true):1<=z.length/\z.length<=8/\∀c∈qcy z,isL c=true:=by
 unfold qbc at h;rw[vP,vP,zZ] at h;exact⟨of_decide_eq_true h.1.1,of_decide_eq_true h.1.2,h.2⟩
theorem jh1{c:Nat}(h:isL c=true):c<128:=by
 unfold isL at h;rw[vP] at h;have:=of_decide_eq_true h.2;omega
def jh2(K:uY)(H:Hp)(x:V):Prop:=∃t,ja5 K H x t/\vY K t (.type "str")=some false
def wb3(K:uY)(d:Ad):Sp:=fun vs H Q _=>∃x:V,vs=[x]/\((∃z,x=.str z/\(∀c∈qcy z,c<128)/\z.length<=100/\∀H',qas H H'->Q (.bl (qbc z)) H')\/(jh2 K H x/\Q (.bl false) H))
include T in
theorem w76:jab P w K mg base CX0 1 d.w6m d.w5k ["thing"] (wb3 K d):=by
 exists T.w6j.ok way
 .right
 obtain⟨x,rfl,h⟩:=h;exists (qa3 (qay (qbr (qbd (qac qbq rfl T.w04 uJ #[pv 0,qc4 (v:=.ty "str") rfl T.wbl aJ rfl]))) (qa6 (qaj qdi)) qad)
  (qa3 (qay (PW.pt (qek (qal jfi (qac qfp rfl T.w1l vH #[pv 0]) qa5 (qar _)) (qd6 (qal qfj (qac qfp rfl T.w1l vH #[pv 0]) (qbt rfl T.w6z T.w1d) (qar _))))) (qa6 (qaj qdi)) qad)
  (qa6 (qaj (qac (jce rfl) rfl T.wdt PyProof.Rows.boot_all #[qdg (caps:=[]) (cn:=[]) (qc6 rfl rfl (by rfl) (by rfl) rfl trivial (by rfl) rfl trivial ∅) rfl (jkv (pv 0)) (fun _ _ _ _=>qd7) (fun _ _ _ _=>(qdh jp2 (pv 0) (qbt rfl T.wbc T.w41) (by rfl)))]))))),[some (x)];rcases h with⟨z,rfl,hz,hl,q⟩|⟨⟨t,ty,e⟩,q⟩
 .left;refine i_2 (fun c=>?_) (fun c=>?_)
  .left;have e:qbc z=false:=by unfold qbc;rw[iQ (show ¬1<=z.length by omega)];rfl
   rw[e] at q;exact q _ (qas.refl _)
  left;refine i_2 (fun c'=>?_) (fun c'=>?_)
  .left;have e:qbc z=false:=by unfold qbc;rw[iQ (show ¬z.length<=8 by omega),aR];rfl
   rw[e] at q;exact q _ (qas.refl _)
  left;intro C s0 H0 fp acc hacc;have lz:=jcn z;refine jdy z.length (fun i H'=>H'=upd H acc (.lst (((qcy z).take i).map fun c=>V.bl (isL c)))) (by simp) (fun i H' hi _=>hi) (fun H' _=>rfl) ?_ ?_
  .rintro i H' v H'' hi rfl ⟨rfl,c,hc,rfl⟩;have hc':(qcy z)[i]?=some c:=by unfold qcy;rw[xR];exact hc
   have c128:=hz c (zD hc');left;rw[inL c c128,qb4]
   congr 2
   rw[yB,hc',zE];rfl
  .rintro H' rfl;left;have e1:((qcy z).take z.length).map (fun c=>V.bl (isL c))=((qcy z).map isL).map V.bl:=by
    rw[<-lz,yG,yS];rfl
   rw[e1];refine jp5 (bs:=(qcy z).map isL) (SqL.of qa1) ?_;have e2:((qcy z).map isL).all id=qbc z:=by
    unfold qbc;rw[iP (show 1<=z.length by omega),iP (show z.length<=8 by omega),List.all_map];rfl
   rw[e2];left;exact q _ (qa4 hacc _)
 .left;exact q
def jvy(K:uY)(H:Hp)(x:V):Prop:=(∃z,x=.str z/\qbc z=false/\(∀c∈qcy z,c<128)/\z.length<=100)\/jh2 K H x
def w7r(K:uY)(d:Ad):Sp:=fun vs H Q E=>∃x,vs=[x]/\((∃z,x=.str z/\qbc z=true/\∀H',qas H H'->Q .non H')\/(jvy K H x/\∀H',qas H H'->E (.ref d.w09) none H'))
include T in
theorem w52:jab P w K mg base (My.CX1 P w) 2 d.w3s d.w3n ["thing"] (w7r K d):=by
 exists okX T.w40 w7m
 .right
 obtain⟨x,rfl,h⟩:=h;exists qa6 (qay (qbr (qbd (qaf ((w76 T).mono ∅) hr rfl T.w8t T.w6j.kp T.w97 .nil qaz #[pv 0]))) (qa6 (qcb rfl T.wcc rfl T.wan qb7 #[qaq])) qad),[some (x)];left;rcases h with⟨z,rfl,hg,q⟩|⟨⟨z,rfl,hg,hc,hl⟩|n,e⟩
 .obtain⟨_,z8,zL⟩:=qbs hg;refine⟨_,rfl,.inl ⟨z,rfl,fun c hc=>jh1 (zL c hc),#[],fun H' sm=>?_⟩⟩;rw[hg];left;exact q _ sm
 .refine⟨_,rfl,.inl ⟨z,rfl,hc,hl,fun H' sm=>?_⟩⟩;rw[hg];left;exact e _ sm
 .refine⟨_,rfl,.inr ⟨n,?_⟩⟩;left;exact e _ (qas.refl _)
structure jn0(ws:List Str):Prop where
 lo:1<=ws.length
 hi:ws.length<=6
 ok:∀z∈ws,qbc z=true
 nd:ws.Nodup
def w96(K:uY)(d:Ad):Sp:=fun vs H Q _=>∃(a:Addr)(ws:List Str),vs=[.ref a]/\H a=some (.lst (ws.map V.str))/\jn0 ws/\∀H',qas H H'->Q (.bl true) H'
include T in
theorem w8n:jab P w K mg base CX0 2 d.w4u d.w3x ["thing"] (w96 K d):=by
 exists T.w6v.ok w8k
 .right
 obtain⟨a,ws,rfl,ha,g,q⟩:=h;have g1:=g.lo;have g2:=g.hi;have hl:(ws.map V.str).length=ws.length:=zB _;refine⟨_,(qa3 (qay (PW.pt (qek (qbr (qbd (qac qbq rfl T.w04 uJ #[pv 0,qc4 (v:=.ty "list") rfl T.wbb eA rfl]))) (qek (qal jfi (qac qaw rfl T.w1l vH #[pv 0]) qa5 (qar _)) (qd6 (qal qfj (qac qaw rfl T.w1l vH #[pv 0]) (qbt rfl T.w8q T.w20) (qar _)))))) (qa6 (qaj qdi)) qad)
  (qa6 (qaj (jbp (qac (jce rfl) rfl T.wdt PyProof.Rows.boot_all #[qdg (caps:=[]) (cn:=[]) (qc6 rfl rfl (by rfl) (by rfl) rfl trivial (by rfl) rfl trivial ∅) rfl (qcj (pv 0)) (fun _ _ _ _=>qd7) (fun _ _ _ _=>(qaf ((w76 T).mono ∅) hr rfl T.w8t T.w6j.kp T.w97 .nil qaz #[pv 0]))]) (qg4 (qdh qcu (qac jg4 rfl T.w1l vH #[qbu jg3 rfl T.wed PyProof.Rows.boot_set #[pv 0]]) (qac qaw rfl T.w1l vH #[pv 0]) (qar _))))))),?_⟩
 walk_at"d"
 try dsimp only[cxC]
 refine qak (σ:=[sr a]) rfl ?_;left;intro C s0 H0 fp acc hacc;refine jdy ws.length (fun i H'=>qas H H'/\H' acc=some (.lst ((wH i true).map V.bl))) ⟨qa4 hacc _,qa1⟩ ?_ ?_ ?_ ?_
 .rintro i H' hi ⟨sm,_⟩;exact⟨_,.str ws[i],SqL.of (sm _ _ ha),by rw[zC,zA hi];rfl⟩
 .rintro H' ⟨sm,_⟩;exact⟨_,SqL.of (sm _ _ ha),by rw[hl];exact uG _⟩
 .rintro i H' v H'' hi ⟨sm,ea⟩ ⟨rfl,hy⟩;have hv:=hy _ (SqL.of (sm _ _ ha));rw[zC,zA hi] at hv
  cases hv
  left;have gi:=g.ok _ (zJ hi);refine⟨.str ws[i],rfl,.inl ⟨ws[i],rfl,fun c hc=>jh1 ((qbs gi).2.2 c hc),by have:=(qbs gi).2.1;omega,fun H2 s2=>?_⟩⟩;rw[gi];refine⟨_,s2 _ _ ea,by rw[zB,aH];show _<16777216;omega,qax (sm.trans s2) hacc,?_⟩;rw[qa1,List.replicate_succ',zE];rfl
 rintro H' ⟨sm,ea⟩;left;refine jp5 (bs:=wH ws.length true) (SqL.of ea) ?_;have e2:(wH ws.length true).all id=true:=by simp
 rw[e2];left;refine jq7 (zs:=ws) (SqL.of (sm _ _ ha)) g.nd #[] fun c hc=>?_;left;refine jnf qa1 ?_;left;refine jkq (SqL.of (qa7 (sm _ _ ha) hc)) ?_;left;rw[hl,iP rfl];exact q _ (sm.trans (qa4 hc _))
def Fin(ws:List Str)(f:Str->Option Int):Prop:=∀z n,f z=some n->z∈ws/\0<=n/\n<=10^30
theorem qff{n:Int}(h:qbm f y=some n):f y=some n/\0<n:=by
 unfold qbm at h
 cases e:f y with
 |none=>rw[e] at h;cases h
 |some m=>
  rw[e] at h;by_cases c:0<m
  .have h':some m=some n:=by simpa[c] using h
   cases h'
   exact⟨rfl,c⟩
  .exact absurd h (by simp[c])
theorem qc5(hf:Fin ws f)(y:Str):gN (qbm f) y=gN f y:=by
 unfold gN qbm
 cases e:f y with
 |none=>rfl
 |some m=>
  have:=(hf y m e).2.1;by_cases c:0<m
  .simp[c]
  .have z:m=0:=by omega
   subst z;rfl
def jrt(hg:Fin ws g)(h:∀y,gN f y<=gN g y):∀z n,qbm f z=some n->n<=gN (qbm g) z:=fun z n e=>by
 have e1:=(qff e).1;have:=h z;rw[qc5 hg];unfold gN at this⊢;rw[e1] at this;exact this
def qex(hf:Fin ws f):∀z,qbm f z≠none->z∈ws:=fun z h=>by
 cases e:qbm f z with
 |none=>exact absurd e h
 |some n=>exact(hf z n (qff e).1).1
def jd9{P:uI}{w:vA}{K:uY}{d:Ad}{k:List (Key×V)}(h:H a=some (.dK k))(A:AD k f)(z:k.length<=1000)(hf:Fin ws f):AmO P w K d ws (.ref a) f H:=fun H' s Q0 E0 q=> .ok rfl (s _ _ h) A z hf q
inductive jco(K:uY)(d:Ad)(vs:List V)(H:Hp)(Q:VK)(E:XK):Prop
 |mk(x dx w a b:Addr)(z:Str)(ws:List Str)(ka kb:List (Key×V))(f g:Str->Option Int)(wt:Int)(_:vs=[.ref x,.ref w,.str z,.ref a,.ref b,.int wt])(_:H x=some (.ins d.w07 dx []))(_:H w=some (.lst (ws.map V.str)))(_:jn0 ws)(_:qbc z=true)(_:H a=some (.dK ka))(_:AD ka f)(_:ka.length<=1000)(_:H b=some (.dK kb))(_:AD kb g)(_:kb.length<=1000)(_:Fin ws f)(_:Fin ws g)(_:1<=wt)(_:wt<=1000)(_:(∀y,gN f y<=gN g y))(_:∀(S:Ts)(e:He) H',SameBut x H H'->qdy d H' x S->H S.hs=none->H S.sw=none->H e.a=none->H e.x.pa=none->H e.x.ca=none->S.hl=[e]->e.n=z->e.x.el=none->e.x.w=wt->(∀y,e.x.fp y=qbm f y)->(∀y,e.x.fc y=qbm g y)->S.ws.Perm ws->xF S.ws=true->Q .non H')
include T in
theorem w8g:jab P w K mg base (My.CX1 P w) 6 d.w4p d.w2w ["self","wares","name","promise","cap","weight"] (jco K d):=by
 exists jvs T.w98 w5w
 .right
 obtain⟨x,dx,w,a,b,z,ws,ka,kb,f,g,wt,rfl,hx,hw,gt,gz,ha,hA,za,hb,hB,zb,ff,fg,w0,w1,le,q⟩:=h;have g2:=gt.hi;exists (qa3 (qay (qbr (qbd (qaf ((w8n T).mono ∅) hr rfl T.w9d T.w6v.kp T.w9c .nil qaz #[pv 1]))) (qa6 (qcb rfl T.waq rfl T.w7q qb7 #[qaq])) qad)
  (qa3 (qb3 (qcf ((w52 T).mono ∅) hr rfl T.w62 T.w40.kp T.w5y .nil qb7 #[pv 2]))
  (qa3 (qag (i:=6) w5w.nd rfl (uK rfl) (qcf ((w58 T).mono ∅) hr rfl T.w5u T.w3v.kp T.w5x .nil qb7 #[pv 1,qcq,pv 3,pv 4,pv 5]))
  (qa3 (qb3 (qcf ((w1w T).mono ∅) hr rfl T.w28 T.w1f.kp T.w29 .nil qb7 #[pv 2,qc2 (pv 6) rfl,qc2 (pv 6) rfl]))
  (qa3 (qg1 (pv 0) (qac qd0 rfl T.w3l wP #[pv 1]) rfl)
  (qa6 (qg1 (pv 0) (jmv (jje (pv 2) (pv 6) jmu) rfl rfl (by simp) ∅) rfl))))))),[sr x,sr w,some (.str z),sr a,sr b,some (.int wt),none];have ct:=T.w0b;have ch:=T.w1m;have n1:qb0 K d.w07 "sorted_wares":=T.w0i;have n2:qb0 K d.w07 "houses":=T.w0c;have n3:qb0 K d.w0g "promise":=T.w0j;have n4:qb0 K d.w0g "cap":=T.w0v;left;refine⟨w,ws,rfl,hw,gt,fun H1 s1=>?_⟩;left;refine⟨.str z,rfl,.inl ⟨z,rfl,gz,fun H2 s2=>?_⟩⟩;have t2:=s1.trans s2;left;refine⟨w,none,ws,.ref a,.ref b,.int wt,rfl,t2 _ _ hw,.ok f g wt (jd9 (t2 _ _ ha) hA za ff) (jd9 (t2 _ _ hb) hB zb fg) rfl w0 w1 fun h o H3 s3 nh np nc hO eel ew efp efc=>?_⟩;obtain⟨⟨dh,ho⟩,hp,hpA,hc,hcA⟩:=id hO;have efp':o.fp=qbm f:=funext efp;have efc':o.fc=qbm g:=funext efc;have lk:o.kp.length<=ws.length:=hpA.le (by rw[efp'];exact qex ff);left;refine⟨z,o.pa,o.ca,o.kp,o.kc,o.fp,o.fc,rfl,.inl hp,.inl hc,hpA,hcA,#[],by have:=(qbs gz).2.1;omega,fun y hy=>?_,fun _ H4 s4=>?_,fun y hv _=>?_⟩
 .rw[efp'] at hy;have:=(qbs (gt.ok y (qex ff y hy))).2.1;omega
 rotate_left
 .obtain⟨h1,h2⟩:=hv
  cases e:o.fp y with
  |none=>exact absurd e h1
  |some n=>
   have h3:=jrt fg le y n (by rw[<-efp'];exact e);have h4:gN o.fp y=n:=by unfold gN;rw[e];rfl
   rw[efc'] at h2;omega
 have t4:=(t2.trans s3).trans s4;have hx4:=t4 _ _ hx;have hO4:=hO.same s4;left;refine qfc (SqL.of (t4 _ _ hw)) #[] fun l ss hl hpm hs=>?_;left;rename_i p hpp;rw[qb4];refine jgw (qa7 qa1 hpp) ct n2 (by show 1<1000;decide) ?_;left;have npx:p≠x:=fun e=>by subst e;rw[qa1] at hpp;cases hpp
 have np4':upd H4 l (.lst (ss.map V.str)) p=none:=by rw[qa9 npx] at hpp;exact hpp
 have nlx:x≠l:=qa8 hx4 hl;have npl:p≠l:=fun e=>by subst e;rw[qa1] at np4';cases np4'
 have np4:H4 p=none:=by rw[qa9 npl] at np4';exact np4'
 have sF:∀b u,b≠x->H4 b=some u->upd (upd (upd (upd H4 l (.lst (ss.map V.str))) x (.ins d.w07 dx (qe9 "sorted_wares" (V.ref l) []))) p (.dK [(vE z,V.ref h)])) x (.ins d.w07 dx (qe9 "houses" (V.ref p) (qe9 "sorted_wares" (V.ref l) []))) b=some u:=fun b u hb e=>by
  rw[qa9 hb,qa9 (qa8 e np4),qa9 hb,qa9 (qa8 e hl)];exact e
 obtain⟨⟨dh4,ho4⟩,hp4,hpA4,hc4,hcA4⟩:=hO4;refine q ⟨l,ss,p,[⟨z,h,o⟩]⟩ ⟨z,h,o⟩ _ (fun b u hb e=>sF b u hb (t4 _ _ e)) ⟨⟨dx,by rw[qa1];rfl⟩,?_,?_,zU.mpr ⟨by simp,yH⟩,by show 1<=60;decide,fun e he=>?_⟩ (t4.free np4) (t4.free hl) (t2.free nh) (t2.free np) (t2.free nc) rfl rfl eel ew efp efc hpm hs
 .show upd _ _ _ l=_;rw[qa9 nlx.symm,qa9 npl.symm,qa9 nlx.symm,qa1]
 .show upd _ _ _ p=_;rw[qa9 npx,qa1];rfl
 .have e':e=⟨z,h,o⟩:=by simpa using he
  subst e';have n1:∀{b:Addr} {u:HO},H4 b=some u->u≠ .ins d.w07 dx []->b≠x:=fun e1 e2 e3=>by
   subst e3;rw[hx4] at e1;exact e2 (vB e1).symm
  refine⟨⟨dh4,sF _ _ (n1 ho4 fun e=>?_) ho4⟩,sF _ _ (n1 hp4 fun e=>by cases e) hp4,hpA4,sF _ _ (n1 hc4 fun e=>by cases e) hc4,hcA4⟩;have:=congrArg (fun u:HO=>match u with| .ins _ _ fs=>fs.length|_=>0) e;simp[fsH] at this
inductive LnN(el:Nat->Nat):Nat->List Nat->Prop
 |top:LnN el 0 [0]
 |up{k:Nat}{l:List Nat}(k0:0<k)(h:LnN el (el k) l):LnN el k (k::l)
theorem LnN.uniq{k:Nat}{m:List Nat}(h:LnN el k l)(h':LnN el k m):l=m:=by
 induction h generalizing m with
 |top=>cases h' with
  |top=>rfl
  |up k0 _=>omega
 |up k0 h ih=>cases h' with
  |top=>omega
  |up _ h2=>rw[ih h2]
theorem LnN.self{k:Nat}(h:LnN el k l):k∈l:=by
 cases h with
 |top=>exact zG ..
 |up=>exact zG ..
theorem LnN.tail{k:Nat}(h:LnN el k l){j:Nat}(hj:j∈l):∃p m,l=p++m/\LnN el j m:=by
 induction h with
 |top=>
  have:=zK.mp hj;subst this;exact⟨[],[0],rfl,.top⟩
 | @up k l k0 h ih=>
  rcases zP.mp hj with e|e
  .subst e;exact⟨[],_,rfl,.up k0 h⟩
  .obtain⟨p,m,e1,e2⟩:=ih e;exact⟨k::p,m,by rw[e1];rfl,e2⟩
theorem LnN.nodup{k:Nat}(h:LnN el k l):l.Nodup:=by
 induction h with
 |top=>exact zU.mpr ⟨by simp,yH⟩
 | @up k l k0 h ih=>
  refine zU.mpr ⟨fun hm=>?_,ih⟩;obtain⟨p,m,e1,e2⟩:=h.tail hm;have e3:=e2.uniq (.up k0 h);have:=congrArg xE e1;rw[e3,zH,zI] at this;omega
open Classical in
noncomputable def qai(el:Nat->Nat)(k:Nat):List Nat:=if h:∃l,LnN el k l then choose h else[]
theorem qcg{k:Nat}(h:LnN el k l):qai el k=l:=by
 unfold qai;have hx:∃l,LnN el k l:=⟨l,h⟩;rw[dif_pos hx];exact(Classical.choose_spec hx).uniq h
def qcz(el:Nat->Nat):qai el 0=[0]:=qcg .top
def Ac(el:Nat->Nat)(n:Nat):Prop:=∀k,k<n->∃l,LnN el k l/\∀j∈l,j<n
section
variable{el:Nat->Nat}{n k:Nat}
theorem Ac.ln(ac:Ac el n)(kn:k<n):LnN el k (qai el k):=by
 obtain⟨l,h,_⟩:=ac k kn;rw[qcg h];exact h
theorem Ac.lt(ac:Ac el n)(kn:k<n):∀j∈qai el k,j<n:=by
 obtain⟨l,h,q⟩:=ac k kn;rw[qcg h];exact q
theorem Ac.up(ac:Ac el n)(k0:0<k)(kn:k<n):qai el k=k::qai el (el k):=by
 obtain⟨l,h,_⟩:=ac k kn;rw[qcg h]
 cases h with
 |top=>omega
 |up _ h2=>rw[qcg h2]
theorem Ac.elt(ac:Ac el n)(k0:0<k)(kn:k<n):el k<n:=by
 obtain⟨l,h,q⟩:=ac k kn
 cases h with
 |top=>omega
 |up _ h2=>exact q _ (zF _ h2.self)
theorem Ac.self(ac:Ac el n)(kn:k<n):k∈qai el k:=(ac.ln kn).self
theorem Ac.tl(ac:Ac el n)(kn:k<n){j:Nat}(hj:j∈qai el k):∃p,qai el k=p++qai el j:=by
 obtain⟨p,m,e1,e2⟩:=(ac.ln kn).tail hj;exact⟨p,by rw[qcg e2];exact e1⟩
theorem Ac.trans(ac:Ac el n)(kn:k<n){i j:Nat}(hj:j∈qai el k)(hi:i∈qai el j):i∈qai el k:=by
 obtain⟨p,e⟩:=ac.tl kn hj;rw[e];exact zO _ hi
theorem Ac.inn(ac:Ac el n)(kn:k<n){j:Nat}(j0:0<j)(hj:j∈qai el k):el j∈qai el k:=by
 have jn:=ac.lt kn j hj;refine ac.trans kn hj ?_;rw[ac.up j0 jn];exact zF _ (ac.self (ac.elt j0 jn))
def Ac.nd(ac:Ac el n)(kn:k<n):(qai el k).Nodup:=(ac.ln kn).nodup
end
theorem jea:∀{n:Nat} {l:List Nat},l.Nodup->(∀a∈l,a<n)->l.length<=n
 |0,l,_,h=>by
  cases l with
  |nil=>exact uG _
  |cons a r=>exact absurd (h a (zG ..)) #[]
 |n+1,l,nd,h=>by
  by_cases m:n∈l
  .have e:=List.length_erase_of_mem m;have:=jea (n:=n) (nd.erase n) fun a ha=>by
    have h1:=h a (fA ha);have:a≠n:=fun z=>by subst z;exact(dI nd) ha
    omega
   omega
  .have:=jea (n:=n) nd fun a ha=>by
    have h1:=h a ha;have:a≠n:=fun z=>m (z▸ha);omega
   omega
def Ac.len{k:Nat}(ac:Ac el n)(kn:k<n):(qai el k).length<=n:=jea (ac.nd kn) (ac.lt kn)
def Low(el:Nat->Nat)(n:Nat):Prop:=∀k,0<k->k<n->el k<k
theorem Low.ln(lo:Low el n):∀k,k<n->∃l,LnN el k l/\∀j∈l,j<=k:=by
 intro k
 induction k using Nat.strongRecOn with
 |ind k ih=>
  intro kn;by_cases k0:k=0
  .subst k0;exact⟨_,.top,fun j hj=>by have:=zK.mp hj;omega⟩
  .have l:=lo k #[] kn;obtain⟨m,h1,h2⟩:=ih (el k) l #[];refine⟨k::m,.up #[] h1,fun j hj=>?_⟩;rcases zP.mp hj with e|e
   .omega
   .have:=h2 j e;omega
def Low.ac(lo:Low el n):Ac el n:=fun k kn=>by
 obtain⟨l,h1,h2⟩:=lo.ln k kn;exact⟨l,h1,fun j hj=>by have:=h2 j hj;omega⟩
def qh1{k:Nat}(lo:Low el n)(k0:0<k)(kn:k<n):qai el k=k::qai el (el k):=lo.ac.up k0 kn
def je3{k:Nat}(lo:Low el n)(kn:k<n):k∈qai el k:=lo.ac.self kn
def jeb(lo:Low el n):∀k,k<n->∀j∈qai el k,j<=k:=fun k kn=>by
 obtain⟨l,h1,h2⟩:=lo.ln k kn;rw[qcg h1];exact h2
def jh3(lo:Low el n)(k:Nat)(kn:k<n):(qai el k).length<=k+1:=jea (lo.ac.nd kn) fun j hj=>by have:=jeb lo k kn j hj;omega
structure Pl(S:Ts)(nm:Nat->Str)(el:Nat->Nat)(n:Nat):Prop where
 len:S.hl.length=n
 nam:∀k e,S.hl[k]?=some e->e.n=nm k/\e.x.el=if k=0 then none else some (nm (el k))
 inj:∀i j,i<n->j<n->nm i=nm j->i=j
 ac:Ac el n
section
variable{S:Ts}{nm:Nat->Str}{el:Nat->Nat}{n:Nat}
theorem Pl.get(p:Pl S nm el n){k:Nat}(kn:k<n):∃e,S.hl[k]?=some e/\e.n=nm k/\e.x.el=if k=0 then none else some (nm (el k)):=by
 have h:k<S.hl.length:=by rw[p.len];exact kn
 have e:=zA h;exact⟨_,e,p.nam k _ e⟩
theorem Pl.ix(p:Pl S nm el n){e:He}(h:e∈S.hl):∃k,k<n/\S.hl[k]?=some e/\e.n=nm k/\e.x.el=if k=0 then none else some (nm (el k)):=by
 obtain⟨k,hk,q⟩:=zR.mp h;have e1:S.hl[k]?=some e:=by rw[zA hk,q]
 exact⟨k,by rw[<-p.len];exact hk,e1,p.nam k e e1⟩
theorem Pl.nodup(p:Pl S nm el n):(S.hl.map (·.n)).Nodup:=by
 show List.Pairwise _ _;rw[cZ,zQ];intro i j hi hj lt q;have h1:=(p.nam i _ (zA hi)).1;have h2:=(p.nam j _ (zA hj)).1;have:=p.inj i j (by rw[<-p.len];exact hi) (by rw[<-p.len];exact hj) (by rw[<-h1,<-h2];exact q);omega
theorem Pl.at(p:Pl S nm el n){k:Nat}(kn:k<n):∃e,S.at (nm k)=some e/\S.hl[k]?=some e/\e.x.el=if k=0 then none else some (nm (el k)):=by
 obtain⟨e,h1,h2,h3⟩:=p.get kn;have:=qf3 p.nodup (zD h1);rw[h2] at this;exact⟨e,this,h1,h3⟩
theorem Pl.lineL(p:Pl S nm el n){k:Nat}{l:List Nat}(h:LnN el k l):k<n->jal S (nm k) (l.map nm):=by
 induction h with
 |top=>
  intro kn;obtain⟨e,h1,_,h3⟩:=p.at kn;exact .top h1 h3
 | @up k l k0 h ih=>
  intro kn;obtain⟨e,h1,_,h3⟩:=p.at kn;rw[iN #[]] at h3;exact .up h1 h3 (ih (p.ac.elt k0 kn))
def Pl.line(p:Pl S nm el n)(k:Nat)(kn:k<n):jal S (nm k) ((qai el k).map nm):=p.lineL (p.ac.ln kn) kn
def Pl.wf(p:Pl S nm el n):WF S:=⟨p.nodup,fun e he=>by
 obtain⟨k,kn,_,h,_⟩:=p.ix he;rw[h];exact⟨_,p.line k kn⟩⟩
theorem Pl.kid(p:Pl S nm el n){j:Nat}{y:Str}(jn:j<n)(h:y∈qbj S (nm j)):∃k,0<k/\k<n/\el k=j/\y=nm k:=by
 obtain⟨e,he,rfl⟩:=zM.mp h;obtain⟨hm,hd⟩:=yL.mp he;obtain⟨k,kn,_,h1,h2⟩:=p.ix hm;have hd':e.x.el=some (nm j):=of_decide_eq_true hd;rw[h2] at hd';by_cases z:k=0
 .rw[iO z] at hd';cases hd'
 .rw[iN z] at hd';exact⟨k,#[],kn,p.inj _ _ (p.ac.elt #[] kn) jn (vB hd'),h1⟩
theorem Pl.depL(p:Pl S nm el n){L:Nat}(hL:∀k,k<n->(qai el k).length<=L):∀m j,j<n->L<=(qai el j).length+m->Dep S m (nm j):=by
 intro m
 induction m with
 |zero=>
  intro j jn hn;show qbj S (nm j)=[]
  cases e:qbj S (nm j) with
  |nil=>rfl
  |cons y r=>
   obtain⟨k,k0,kn,ke,_⟩:=p.kid jn (y:=y) (by rw[e];exact zG ..);have h1:=hL k kn;rw[p.ac.up k0 kn,zI,ke] at h1;omega
 |succ m ih=>
  intro j jn hn y hy;obtain⟨k,k0,kn,ke,rfl⟩:=p.kid jn hy;refine ih k kn ?_;rw[p.ac.up k0 kn,zI,ke];omega
theorem Pl.ben(p:Pl S nm el n):∀(m j:Nat)(zs:List Str),j<n->jnx S m (nm j) zs->∀y∈zs,∃k,k<n/\y=nm k/\j∈qai el k:=by
 intro m
 induction m with
 |zero=>
  rintro j _ jn ⟨parts,rest,hp,rfl,hb⟩ y hy;rcases zP.mp hy with h|h
  .exact⟨j,jn,h,p.ac.self jn⟩
  .obtain⟨l,hl,_⟩:=yJ.mp h;obtain⟨q,hq,_⟩:=zM.mp hl;exact(hb q hq).elim
 |succ m ih=>
  rintro j _ jn ⟨parts,rest,hp,rfl,hb⟩ y hy;rcases zP.mp hy with h|h
  .exact⟨j,jn,h,p.ac.self jn⟩
  .obtain⟨l,hl,hyl⟩:=yJ.mp h;obtain⟨q,hq,rfl⟩:=zM.mp hl;obtain⟨k,k0,kn,ke,e⟩:=p.kid jn (hp.mem_iff.mp (zY _ (zM.mpr ⟨q,hq,rfl⟩)));have hB:=hb q hq;rw[e] at hB;obtain⟨i,i1,i2,i3⟩:=ih k q.2 kn hB y hyl;refine⟨i,i1,i2,?_⟩;have:=p.ac.inn i1 k0 i3;rw[ke] at this;exact this
end
noncomputable def qcp:Nat->(Nat->Int)->Int
 |0,_=>0
 |n+1,f=>qcp n f+f n
theorem jh4{f g:Nat->Int}:∀{n:Nat},(∀k,k<n->f k<=g k)->qcp n f<=qcp n g
 |0,_=>wU _
 |n+1,h=>by
  have h1:=jh4 (n:=n) fun k hk=>h k #[];have h2:=h n #[];show qcp n f+f n<=qcp n g+g n;omega
theorem jh5{f:Nat->Int}:∀{n:Nat},(∀k,k<n->0<=f k)->0<=qcp n f
 |0,_=>wU _
 |n+1,h=>by
  have h1:=jh5 (n:=n) fun k hk=>h k #[];have h2:=h n #[];show 0<=qcp n f+f n;omega
theorem jh6{f:Nat->Int}{m:Nat}(hm:n<=m)(h:∀k,k<m->0<=f k):qcp n f<=qcp m f:=by
 induction m with
 |zero=>have:n=0:=#[];subst this;exact wU _
 |succ m ih=>
  rcases vZ n (m+1) with c|c
  .have h1:=ih #[] fun k hk=>h k #[];have h2:=h m #[];show _<=qcp m f+f m;omega
  .have:n=m+1:=by omega
   subst this;exact wU _
noncomputable def jh7(f:Nat->Int):List Nat->Int
 | []=>0
 |k::r=>f k+jh7 f r
theorem jcp{f:Nat->Int}{a b:List Nat}(h:a.Perm b):jh7 f a=jh7 f b:=by
 induction h with
 |nil=>rfl
 |cons x _ ih=>show _+_=_+_;rw[ih]
 |swap x y l=>show f y+(f x+jh7 f l)=f x+(f y+jh7 f l);omega
 |trans _ _ h1 h2=>rw[h1,h2]
theorem qgl{f:Nat->Int}:∀{n:Nat} {ks:List Nat},ks.Nodup->(∀k∈ks,k<n)->(∀k,k<n->0<=f k)->jh7 f ks<=qcp n f
 |0,ks,_,h,_=>by
  cases ks with
  |nil=>exact wU _
  |cons k r=>exact absurd (h k (zG ..)) #[]
 |n+1,ks,nd,h,p=>by
  show _<=qcp n f+f n;by_cases m:n∈ks
  .rw[jcp (List.perm_cons_erase m)];have nd2:=nd.erase n;have:=qgl (n:=n) nd2 (fun k hk=>by
    have h1:=h k (fA hk);have:k≠n:=fun z=>by subst z;exact(dI nd) hk
    omega) fun k hk=>p k #[]
   show f n+_<=_;omega
  .have:=qgl (n:=n) nd (fun k hk=>by
    have h1:=h k hk;have:k≠n:=fun z=>m (z▸hk);omega) fun k hk=>p k #[]
   have:=p n #[];omega
theorem qgb(f g:Str->Option Int)(z:Str):gN (qdx f g) z=gN f z+gN g z:=by
 unfold gN qdx
 cases e:g z with
 |none=>simp
 |some b=>rfl
theorem jh8(z:Str):∀(ts:List Pt)(f0:Str->Option Int),gN (ts.foldl (fun f t=>qdx f t.f) f0) z=gN f0 z+(ts.map fun t=>gN t.f z).sum
 | [],f0=>by simp
 |t::ts,f0=>by
  rw[List.foldl_cons,jh8 z ts,qgb,zS,List.sum_cons];omega
section
variable{S:Ts}{nm:Nat->Str}{el:Nat->Nat}{n:Nat}
theorem Pl.sums(p:Pl S nm el n){v:Str}{pr:Nat->Int}(hp:∀k e,S.hl[k]?=some e->gN e.x.fp v=pr k)(h0:∀k,k<n->0<=pr k){m j:Nat}{bs:List Str}(jn:j<n)(hb:Ben S m (nm j) bs):
  gN (qei (bs.map (qdv S))) v<=qcp n fun k=>if j∈qai el k then pr k else 0:=by
 have nd:=(qcm p.wf hb.part).1;have hk:=p.ben m j bs jn hb.part;have key:∀bs:List Str,bs.Nodup->(∀y∈bs,∃k,k<n/\y=nm k/\j∈qai el k)->∃ks:List Nat,ks.Nodup/\(∀k∈ks,k<n/\nm k∈bs)/\((bs.map (qdv S)).map fun t=>gN t.f v).sum=jh7 (fun k=>if j∈qai el k then pr k else 0) ks:=by
  intro bs
  induction bs with
  |nil=>intro _ _;exact⟨[],yH,fun k hk=>absurd hk (by simp),rfl⟩
  |cons y r ih=>
   intro nd h;rw[zU] at nd;obtain⟨ks,k1,k2,k3⟩:=ih nd.2 fun y' hy=>h y' (zF _ hy);obtain⟨k,kn,rfl,kj⟩:=h y (zG ..);obtain⟨e,e1,e2,_⟩:=p.at kn;refine⟨k::ks,zU.mpr ⟨fun m=>nd.1 (k2 k m).2,k1⟩,fun k' hk'=>?_,?_⟩
   .rcases zP.mp hk' with rfl|hk'
    .exact⟨kn,zG ..⟩
    .exact⟨(k2 k' hk').1,zF _ (k2 k' hk').2⟩
   .rw[zS,zS,List.sum_cons,k3,qfe e1];show gN e.x.fp v+_=(if j∈qai el k then pr k else 0)+_;rw[hp k e e2,iO kj]
 obtain⟨ks,k1,k2,k3⟩:=key bs nd hk;unfold qei;rw[jh8,k3];have z:gN noF v=0:=rfl;rw[z,eB];exact qgl k1 (fun k hk=>(k2 k hk).1) fun k hk=>by
  split
  .exact h0 k hk
  .exact wU _
end
theorem jn1{k:List (Key×V)}(hk:AD k f){ks:List (Str×Addr)}{z:Str}{h:Addr}(hl:qdc ks z=some h):HO.dK k≠ .dK (oK ks):=fun e=>by
 have e2:k=oK ks:=by injection e
 subst e2;have g1:=hk.get z;rw[qf9,hl] at g1
 cases hf:f z with
 |none=>rw[hf] at g1;cases g1
 |some n=>rw[hf] at g1;cases g1
inductive FdO(P:uI)(w:vA)(K:uY)(d:Ad)(t:Addr)(S:Ts)(xz xy xa xb xw:V)(H:Hp)(Q:VK)(E:XK):Prop
 |nm(h:jvy K H xz)(e:∀H',qas H H'->E (.ref d.w09) none H')
 |tk(z:Str)(e0:He)(hz:xz=.str z)(g:qbc z=true)(h:S.at z=some e0)(e:∀H',qas H H'->E (.ref d.w0f) none H')
 |hs(z:Str)(hz:xz=.str z)(g:qbc z=true)(h:S.at z=none)(ty:∀H',qas H H'->qes K H' xy)(hn:who S xy=none)(e:∀H',qas H H'->E (.ref d.w01) none H')
 |rd(z y:Str)(e0:He)(hz:xz=.str z)(g:qbc z=true)(h:S.at z=none)(hy:xy=.str y)(he:S.at y=some e0)(c:Addr)
   (r:∀H',qas H H'->∀(Q0:VK)(E0:XK),(∀H'',qas H' H''->E0 (.ref c) none H'')->RhO P w K d S.ws (some y) xa xb xw H' Q0 E0) (e:∀H',qas H H'->E (.ref c) none H')
 |mn(z y:Str)(e0:He)(hz:xz=.str z)(g:qbc z=true)(h:S.at z=none)(hy:xy=.str y)(he:S.at y=some e0)(f g':Str->Option Int)(wt:Int)(ha:AmO P w K d S.ws xa f H)(hb:AmO P w K d S.ws xb g' H)(hw:xw=.int wt)(w0:1<=wt)(w1:wt<=1000)
   (h40:40<=S.hl.length) (e:∀H',qas H H'->E (.ref d.w06) none H')
 |go(z y:Str)(e:He)(zs:List Str)(f g:Str->Option Int)(wt:Int)(hz:xz=.str z)(gz:qbc z=true)(nz:S.at z=none)(hy0:xy=.str y)(he:S.at y=some e)(ha:AmO P w K d S.ws xa f H)(hb:AmO P w K d S.ws xb g H)(hw:xw=.int wt)(w0:1<=wt)(w1:wt<=1000)
   (hW:WF S) (hO:qfu S) (hws:S.ws.length<=50) (hw100:∀v∈S.ws,v.length<=100) (ff:Fin S.ws f) (fg:Fin S.ws g) (h40:S.hl.length<40) (hL:jal S y zs) (hz12:zs.length<=1000) (hy:∀u∈zs,u.length<=100/\Dep S 12 u/\∃e',S.at u=some e')
   (qt:12<=zs.length->∀H',qas H H'->E (.ref d.w08) none H')
   (qq:zs.length<12->((∀v,¬qfv (qbm f) (qbm g) v)->(∀u∈zs,jor S (qbm f) u)->∀(e2:He) H',SameBut S.hs H H'->H e2.a=none->H e2.x.pa=none->H e2.x.ca=none->qdy d H' t {S with hl:=S.hl++[e2]}->e2.n=z->e2.x.el=some y->e2.x.w=wt->(∀v,e2.x.fp v=qbm f v)->(∀v,e2.x.fc v=qbm g v)->Q .non H')/\
    (∀v,qfv (qbm f) (qbm g) v->(∀u,qfv (qbm f) (qbm g) u->leS v u)->NoP d H z v E)/\
    ((∀v,¬qfv (qbm f) (qbm g) v)->∀(i:Nat)(u:Str)(e':He)(bs:List Str)(v:Str),zs[i]?=some u->S.at u=some e'->Ben S 12 u bs->qfv (qdx (qei (bs.map (qdv S))) (qbm f)) e'.x.fc v->(∀v',qfv (qdx (qei (bs.map (qdv S))) (qbm f)) e'.x.fc v'->leS v v')->(∀(j:Nat)(u':Str),j<i->zs[j]?=some u'->jor S (qbm f) u')->NoP d H u v E))
def w7e(P:uI)(w:vA)(K:uY)(d:Ad):Sp:=fun vs H Q E=>∃(t:Addr)(S:Ts)(xz xy xa xb xw:V),vs=[.ref t,xz,xy,xa,xb,xw]/\qdy d H t S/\FdO P w K d t S xz xy xa xb xw H Q E
set_option maxHeartbeats 4000000 in
include T in
theorem w5a:jab P w K mg base (My.CX1 P w) 19 d.w3t d.w2c ["self","name","elder","promise","cap","weight"] (w7e P w K d):=by
 exists jvs T.w8i w3g
 .right
 obtain⟨t,S,xz,xy,xa,xb,xw,rfl,hT,h⟩:=h;exists (qa3 (qb3 (qcf ((w52 T).mono ∅) hr rfl T.w62 T.w40.kp T.w5y .nil qb7 #[pv 1]))
  (qa3 (qay (qbd (jcu (pv 0) T.w0b T.w1h ((w4x T).mono ∅) hr T.w5i .nil qaz #[pv 1])) (qa6 (qcb rfl T.wcz rfl T.wbg qb7 #[qaq])) qad)
  (qa3 (qb3 (qbi (pv 0) T.w0b T.w0h ((w1g T).mono ∅) hr T.w1q .nil qb7 #[pv 2]))
  (qa3 (qag (i:=6) w3g.nd rfl (uK rfl) (qcf ((w58 T).mono ∅) hr rfl T.w5u T.w3v.kp T.w5x .nil qb7 #[qc2 (pv 0) rfl,pv 2,pv 3,pv 4,pv 5]))
  (qa3 (qay (qal jiz (qac qgg rfl T.w1l vH #[qc2 (pv 0) rfl]) (qbt rfl T.w80 T.w1n) (qar _)) (qa6 (qcb rfl T.wc3 rfl T.w8h qb7 #[qaq])) qad)
  (qa3 (qag (i:=7) w3g.nd rfl (uK rfl) (qbi (pv 0) T.w0b T.w22 ((w8w T).mono ∅) hr T.wa4 .nil qb7 #[pv 2]))
  (qa3 (qay (qal jiz (qac qaw rfl T.w1l vH #[pv 7]) (qbt rfl T.w6y T.w1c) (qar _)) (qa6 (qcb rfl T.wc1 rfl T.w8l qb7 #[qaq])) qad)
  (qa3 (qb3 (qcf ((w1w T).mono ∅) hr rfl T.w28 T.w1f.kp T.w29 .nil qb7 #[pv 1,qc2 (pv 6) rfl,qc2 (pv 6) rfl]))
  (qa3 (qb3 (qbi (pv 0) T.w0b T.w0n ((w53 T).mono ∅) hr T.w5f .nil qb7 #[pv 7,qc2 (pv 6) rfl]))
  (qa6 (qci (qc1 hr) (qc2 (pv 0) rfl) (pv 1) (pv 6) rfl))))))))))),[sr t,some (xz),some (xy),some (xa),some (xb),some (xw),none,none];have ct:=T.w0b;have ch:=T.w1m;have n1:qb0 K d.w07 "sorted_wares":=T.w0i;have n2:qb0 K d.w07 "houses":=T.w0c;have n3:qb0 K d.w0g "promise":=T.w0j;have n4:qb0 K d.w0g "cap":=T.w0v;left
 cases h with
 |nm h e=>exact⟨xz,rfl,.inr ⟨h,e⟩⟩
 |tk z e0 hz g h e=>
  subst hz;refine⟨_,rfl,.inl ⟨z,rfl,g,fun H1 s1=>?_⟩⟩;have hT1:=hT.same s1;obtain⟨dx,ht⟩:=id hT1.1;left;refine⟨t,S,.str z,rfl,hT1,.inl ⟨z,rfl⟩,?_⟩;rw[show who S (.str z)=some e0 from h];left;show if true=true then _ else _
  left;exact e _ s1
 |hs z hz g h ty hn e=>
  subst hz;refine⟨_,rfl,.inl ⟨z,rfl,g,fun H1 s1=>?_⟩⟩;have hT1:=hT.same s1;obtain⟨dx,ht⟩:=id hT1.1;left;refine⟨t,S,.str z,rfl,hT1,.inl ⟨z,rfl⟩,?_⟩;rw[show who S (.str z)=none from h];left;show if false=true then _ else _
  left;refine⟨t,S,xy,rfl,hT1,ty H1 s1,fun e1 he1=>?_,fun _=>e _ s1⟩;rw[hn] at he1;cases he1
 |rd z y e0 hz g h hy he c r e=>
  subst hz hy;refine⟨_,rfl,.inl ⟨z,rfl,g,fun H1 s1=>?_⟩⟩;have hT1:=hT.same s1;obtain⟨dx,ht⟩:=id hT1.1;left;refine⟨t,S,.str z,rfl,hT1,.inl ⟨z,rfl⟩,?_⟩;rw[show who S (.str z)=none from h];left;show if false=true then _ else _
  left;refine⟨t,S,.str y,rfl,hT1,.inl ⟨y,rfl⟩,fun e1 he1=>?_,fun hn=>?_⟩
  rotate_left
  .rw[show who S (.str y)=some e0 from he] at hn;cases hn
  have hsw:=hT1.2.1;left;exact⟨S.sw,some y,S.ws,xa,xb,xw,rfl,hsw,r H1 s1 _ _ fun H2 s2=>e H2 (s1.trans s2)⟩
 |mn z y e0 hz g h hy he f g' wt ha hb hw w0 w1 h40 e=>
  subst hz hy hw;refine⟨_,rfl,.inl ⟨z,rfl,g,fun H1 s1=>?_⟩⟩;have hT1:=hT.same s1;obtain⟨dx,ht⟩:=id hT1.1;left;refine⟨t,S,.str z,rfl,hT1,.inl ⟨z,rfl⟩,?_⟩;rw[show who S (.str z)=none from h];left;show if false=true then _ else _
  left;refine⟨t,S,.str y,rfl,hT1,.inl ⟨y,rfl⟩,fun e1 he1=>?_,fun hn=>?_⟩
  rotate_left
  .rw[show who S (.str y)=some e0 from he] at hn;cases hn
  have hsw:=hT1.2.1;left;refine⟨S.sw,some y,S.ws,xa,xb,.int wt,rfl,hsw,.ok f g' wt (ha.same s1) (hb.same s1) rfl w0 w1 fun h o H3 s3 nh np nc hOo eel ew efp efc=>?_⟩;have hT3:=hT1.same s3;obtain⟨⟨dx3,ht3⟩,hw3,hh3,nd3,hz3,hE3⟩:=id hT3;left;refine jg5 hh3 ?_;rw[qeg];left;exact e _ (s1.trans s3)
 |go z y e zs f g wt hz gz nz hy0 he ha hb hw w0 w1 hW hO hws hw100 ff fg h40 hL hz12 hy qt qq=>
  subst hz hy0 hw;have ey:e.n=y:=(qbw he).2;refine⟨_,rfl,.inl ⟨z,rfl,gz,fun H1 s1=>?_⟩⟩;have hT1:=hT.same s1;obtain⟨dx,ht⟩:=id hT1.1;left;refine⟨t,S,.str z,rfl,hT1,.inl ⟨z,rfl⟩,?_⟩;rw[show who S (.str z)=none from nz];left;show if false=true then _ else _
  left;refine⟨t,S,.str y,rfl,hT1,.inl ⟨y,rfl⟩,fun e1 he1=>?_,fun hn=>?_⟩
  rotate_left
  .rw[show who S (.str y)=some e from he] at hn;cases hn
  have hsw:=hT1.2.1;left;refine⟨S.sw,some y,S.ws,xa,xb,.int wt,rfl,hsw,.ok f g wt (ha.same s1) (hb.same s1) rfl w0 w1 fun h o H3 s3 nh np nc hOo eel ew efp efc=>?_⟩;obtain⟨⟨dh,ho⟩,hp,hpA,hc,hcA⟩:=id hOo;have efp':o.fp=qbm f:=funext efp;have efc':o.fc=qbm g:=funext efc;have lk:o.kp.length<=S.ws.length:=hpA.le (by rw[efp'];exact qex ff);have hT3:=hT1.same s3;obtain⟨⟨dx3,ht3⟩,hw3,hh3,nd3,hz3,hE3⟩:=id hT3;left;refine jg5 hh3 ?_;rw[qeg];left;refine⟨t,S,.str y,rfl,hT3,.inl ⟨y,zs,rfl,hL,#[],fun l hl=>?_⟩⟩;have s4:=qa4 hl (.lst (zs.map V.str));have eL:upd H3 l (.lst (zs.map V.str)) l=some (.lst (zs.map V.str)):=qa1;have hzl:(zs.map V.str).length=zs.length:=zB _;generalize upd H3 l (.lst (zs.map V.str))=H4 at*;have ho4:=s4 _ _ ho;have hp4:=s4 _ _ hp;have hc4:=s4 _ _ hc;have t4:=(s1.trans s3).trans s4;by_cases c12:12<=zs.length
  .left;exact qt c12 _ t4
  obtain⟨q,qo,qm⟩:=qq #[];left;refine⟨z,o.pa,o.ca,o.kp,o.kc,o.fp,o.fc,rfl,.inl hp4,.inl hc4,hpA,hcA,#[],by have:=(qbs gz).2.1;omega,fun v hv=>?_,fun hn H5 s5=>?_,fun v hv hle=>?_⟩
  .rw[efp'] at hv;exact hw100 v (qex ff v hv)
  rotate_left
  .rw[efp',efc'] at hv hle;exact(qo v hv hle).same t4
  rw[efp',efc'] at hn;have s35:=s4.trans s5;have ho5:=s35 _ _ ho;have hT5:=hT3.same s35;obtain⟨dx5,ht5⟩:=id hT5.1;left;refine⟨t,l,o.pa,S,zs,o.kp,o.fp,rfl,hT5,hW,hO,SqL.of (s5 _ _ eL),s35 _ _ hp,hpA,hws,hw100,by rw[efp'];exact qex ff,hy,fun hfi H6 s6=>?_,fun i u e' bs v h1 h2 h3 h4 h5 h6=>?_⟩
  rotate_left
  .rw[efp'] at h4 h5 h6;exact(qm hn i u e' bs v h1 h2 h3 h4 h5 h6).same (t4.trans s5)
  rw[efp'] at hfi;have s36:=s35.trans s6;have s16:=s3.trans s36;have s06:=s1.trans s16;obtain⟨⟨dx6,ht6⟩,hw6,hh6,nd6,hz6,hE6⟩:=hT3.same s36;left;have lkn:qdc S.keys z=none:=by rw[qcv,nz];rfl
  have hksz:(oK S.keys).length<sizeLine:=by rw[qeg];show _<16777216;omega
  refine jqx hh6 hksz ?_;rw[jnd lkn];left;have sF:∀b u,b≠S.hs->H6 b=some u->upd H6 S.hs (.dK (oK (S.keys++[(z,h)]))) b=some u:=fun b u hb e=>by rw[qa9 hb];exact e
  have nH:∀{b:Addr} {u:HO},H6 b=some u->u≠ .dK (oK S.keys)->b≠S.hs:=fun e1 e2 e3=>by
   subst e3;rw[hh6] at e1;exact e2 (vB e1).symm
  have hT1':=hT1;have fresh:∀{b:Addr} {u:HO},H1 b=none->H6 b=some u->b≠S.hs:=fun e1 _ e3=>by
   subst e3;rw[hT1'.2.2.1] at e1;cases e1
  refine q hn hfi ⟨z,h,o⟩ _ (fun b u hb e=>sF b u hb (s06 _ _ e)) (s1.free nh) (s1.free np) (s1.free nc) ⟨⟨dx6,sF _ _ (nH ht6 (by intro e;cases e)) ht6⟩,sF _ _ (nH hw6 (by intro e;cases e)) hw6,?_,?_,?_,fun e1 he1=>?_⟩ rfl eel ew efp efc
  .show upd _ _ _ S.hs=some (.dK (oK (Ts.keys _)));rw[qa1];unfold Ts.keys;rw[zE];rfl
  .show(List.map _ (S.hl++[_])).Nodup;rw[zE,yE];refine⟨nd6,zU.mpr ⟨by simp,yH⟩,fun x hx1 y' hy1 e=>?_⟩;have:y'=z:=by simpa using hy1
   subst this;subst e;obtain⟨e2,m2,rfl⟩:=zM.mp hx1;rw[qf3 nd6 m2] at nz
   cases nz
  .show(S.hl++[_]).length<=60;rw[zH];show _+1<=60;omega
  .rcases zT.mp he1 with m|m
   .obtain⟨⟨dy,hy1⟩,hy2,hy3,hy4,hy5⟩:=hE6 e1 m;have no:∀{k:List (Key×V)} {f:Str->Option Int},AD k f->HO.dK k≠ .dK (oK S.keys):=fun hk=>jn1 hk (z:=e1.n) (h:=e1.a) (by rw[qcv,qf3 nd6 m];rfl);exact⟨⟨dy,sF _ _ (nH hy1 (by intro e;cases e)) hy1⟩,sF _ _ (nH hy2 (no hy3)) hy2,hy3,sF _ _ (nH hy4 (no hy5)) hy4,hy5⟩
   .have:e1=⟨z,h,o⟩:=by simpa using m
    subst this;have h6:=s36 _ _ ho;refine⟨⟨dh,sF _ _ (fresh nh h6) h6⟩,sF _ _ (fresh np (s36 _ _ hp)) (s36 _ _ hp),hpA,sF _ _ (fresh nc (s36 _ _ hc)) (s36 _ _ hc),hcA⟩
abbrev ABC:Str:=uO "abcdefghijklmnopqrstuvwxyz"
noncomputable def letc(i:Int):Nat:=97+(i%26).toNat
theorem jru(g:Int):atI ABC.cps.toList (g%26)=some (letc g):=by
 have e0:=uW g (show(26:Int)≠0 by decide);have e1:=uU g (show(0:Int)<26 by decide);have h:∀k:Nat,k<26->ABC.cps.toList[k]?=some (97+k):=by decide+kernel
 have e:g%26=(((g%26).toNat:Nat):Int):=by omega
 rw[e];rw[qau (h (g%26).toNat #[])];rfl
theorem jec(g:Int):isL (letc g)=true:=by
 have e0:=uW g (show(26:Int)≠0 by decide);have e1:=uU g (show(0:Int)<26 by decide);unfold isL letc;rw[vP,decide_eq_true_iff,decide_eq_true_iff];omega
theorem jed{g g':Int}(h:letc g=letc g'):g%26=g'%26:=by
 have e0:=uW g (show(26:Int)≠0 by decide);have f0:=uW g' (show(26:Int)≠0 by decide);unfold letc at h;omega
noncomputable def nmJ(c k:Int)(j:Nat):Nat:=letc (c.fdiv 192+(0+(j:Int))*(c.fdiv 7%11)+k*if decide (0+(j:Int)=c.fdiv 24%(1+c.fdiv 3%8))=true then 1 else 0)
noncomputable def nmL(c k:Int):List Nat:=if c%3=0 then wH (1+(k+c.fdiv 78)%8).toNat (letc (c.fdiv 3+k.fdiv 8)) else(uN (1+c.fdiv 3%8).toNat).map (nmJ c k)
noncomputable def ofL(l:List Nat):Str:=⟨l.toArray⟩
noncomputable def nmS(c k:Int):Str:=ofL (nmL c k)
theorem qfo(l:List Nat):qcy (ofL l)=l:=by simp[qcy,ofL]
theorem jn2{m:List Nat}(h:ofL l=ofL m):l=m:=by rw[<-qfo l,<-qfo m,h]
theorem jj4(l:List Nat)(c:Nat):ofL l++(⟨(List.toArray [c])⟩:Str)=ofL (l++[c]):=by
 have e:(ofL l++(⟨(List.toArray [c])⟩:Str)).cps=(ofL (l++[c])).cps:=by
  rw[Str.cps_append];simp[ofL]
 exact congrArg Str.mk e
theorem jh9(l:List Nat):(ofL l).length=l.length:=by simp[ofL,Str.length]
theorem qf6(c k:Int):qbc (nmS c k)=true:=by
 have a0:=uW (k+c.fdiv 78) (show(8:Int)≠0 by decide);have a1:=uU (k+c.fdiv 78) (show(0:Int)<8 by decide);have b0:=uW (c.fdiv 3) (show(8:Int)≠0 by decide);have b1:=uU (c.fdiv 3) (show(0:Int)<8 by decide);unfold qbc nmS;rw[jh9,qfo,vP,vP,decide_eq_true_iff,decide_eq_true_iff,zZ];unfold nmL;by_cases z:c%3=0
 .rw[iO z,aH];refine⟨#[],fun x hx=>?_⟩;rw[(gM.mp hx).2];exact jec _
 .rw[iN z,zB,yD];refine⟨#[],fun x hx=>?_⟩;obtain⟨j,_,rfl⟩:=zM.mp hx;exact jec _
theorem jia{k k':Int}(h0:0<=k)(g0:0<=k')(h1:k<=25/\k'<=25\/c%3=0/\k<=100/\k'<=100)(h:nmS c k=nmS c k'):k=k':=by
 have hl:=jn2 h;unfold nmL at hl;by_cases z:c%3=0
 .rw[iO z,iO z] at hl;have hn:=congrArg xE hl;rw[aH,aH] at hn;have a0:=uW (k+c.fdiv 78) (show(8:Int)≠0 by decide);have b0:=uW (k'+c.fdiv 78) (show(8:Int)≠0 by decide);have hc:letc (c.fdiv 3+k.fdiv 8)=letc (c.fdiv 3+k'.fdiv 8):=by
   have m:letc (c.fdiv 3+k.fdiv 8)∈wH (1+(k+c.fdiv 78)%8).toNat (letc (c.fdiv 3+k.fdiv 8)):=gM.mpr ⟨#[],rfl⟩;rw[hl] at m;exact(gM.mp m).2
  have hc':=jed hc;rw[Int.fdiv_eq_ediv_of_nonneg k ∅,Int.fdiv_eq_ediv_of_nonneg k' ∅] at hc';generalize c.fdiv 78=x at*;generalize c.fdiv 3=y at*;omega
 .rw[iN z,iN z] at hl;have b0:=uW (c.fdiv 3) (show(8:Int)≠0 by decide);have at0:=uW (c.fdiv 24) (show(1+c.fdiv 3%8:Int)≠0 by omega);have at1:=uU (c.fdiv 24) (show(0:Int)<1+c.fdiv 3%8 by omega);have hj:=congrArg (fun l:List Nat=>l[(c.fdiv 24%(1+c.fdiv 3%8)).toNat]?) hl;simp only[zC] at hj;rw[List.getElem?_range #[]] at hj;have hj':nmJ c k (c.fdiv 24%(1+c.fdiv 3%8)).toNat=nmJ c k' (c.fdiv 24%(1+c.fdiv 3%8)).toNat:=by simpa using hj
  unfold nmJ at hj';have e:(0:Int)+(((c.fdiv 24%(1+c.fdiv 3%8)).toNat:Nat):Int)=c.fdiv 24%(1+c.fdiv 3%8):=by omega
  rw[e,iP rfl,iO rfl] at hj';have:=jed hj';generalize c.fdiv 192+c.fdiv 24%(1+c.fdiv 3%8)*(c.fdiv 7%11)=x at*;omega
def wb0(K:uY)(d:Ad):Sp:=fun vs H Q _=>∃(a:Addr)(ns:List Int)(k:Int),vs=[.ref a,.int k]/\SqL K H a (ns.map V.int)/\0<=k/\Q (.int (cell ns k)) H
include T in
theorem w0s:jab P w K mg base CX0 1 d.w6e d.w5l ["_law_script","_law_k"] (wb0 K d):=by
 exists T.w0x.ok wb2
 .right
 obtain⟨a,ns,k,rfl,hS,h0,q⟩:=h;exists (qa3 (qay (qal jfi (pv 1) (qac qaw rfl T.w1l vH #[pv 0]) (qar _)) (qa6 (qaj (qao qab (pv 0) (pv 1) nofun))) qad)
  (qa6 (qaj qa5))),[sr a,some (.int k)];left;have hl:(ns.map V.int).length=ns.length:=zB _;refine i_2 (fun c=>?_) (fun c=>?_)
 .rw[hl] at c;left;refine qb5 hS (qhc h0 c) ?_;exact q
 .rw[hl] at c;left;rw[ji9 c h0] at q;exact q
noncomputable def mxN(c k:Int):Int:=(c+7919*k+12345)%2147483629*((c+7919*k+12345)%2147483629)%2147483629*48271%2147483647
def wcd(K:uY)(d:Ad):Sp:=fun vs H Q _=>∃c k:Int,vs=[.int c,.int k]/\0<=k/\k<=10000/\∀r:Int,0<=r->r=mxN c k->Q (.int r) H
include T in
theorem w89:jab P w K mg base CX0 1 d.w9a d.w7p ["_law_cell","_law_k"] (wcd K d):=by
 exists T.w88.ok wag
 .right
 obtain⟨c,k,rfl,k0,k1,q⟩:=h;exists (qa3 (qag (i:=2) wag.nd rfl (uK rfl) (qae qb1 (qae qbp (qae qbp (pv 0) (qae qck qa5 (pv 1))) qa5) qa5))
  (qa6 (qaj (qae qb1 (qae qck (qae qb1 (qae qck (pv 2) (pv 2)) qa5) qa5) qa5)))),[some (.int c),some (.int k),none];left;have m0:=uW (c+7919*k+12345) (show(2147483629:Int)≠0 by decide);have m1:=uU (c+7919*k+12345) (show(0:Int)<2147483629 by decide);generalize hu:(c+7919*k+12345)%2147483629=u at*;left;have n0:=uW (u*u) (show(2147483629:Int)≠0 by decide);have n1:=uU (u*u) (show(0:Int)<2147483629 by decide);generalize hy:u*u%2147483629=y at*;left;exact q _ (uW _ ∅) (by unfold mxN;rw[hu,hy])
def wdm(K:uY)(d:Ad):Sp:=fun vs H Q _=>∃c k:Int,vs=[.int c,.int k]/\0<=k/\k<=1000/\Q (.str (nmS c k)) H
include T in
theorem w7l:jab P w K mg base CX0 1 d.wb5 d.wa5 ["_law_cell","_law_k"] (wdm K d):=by
 exists T.w8m.ok w3p
 .right
 obtain⟨c,k,rfl,k0,k1,q⟩:=h;exists (qa3 (qag (i:=2) w3p.nd rfl (uK rfl) qaq)
  (qa3 (qay (qal qcu (qae qb1 (pv 0) qa5) qa5 (qar _)) (qa6 (qaj (qae jng (qao jki (pv 2) (qae qb1 (qae qbp (qae qav (pv 0) qa5) (qae qav (pv 1) qa5)) qa5) nofun) (qae qbp qa5 (qae qb1 (qae qbp (pv 1) (qae qav (pv 0) qa5)) qa5))))) qad)
  (qa3 (qag (i:=3) w3p.nd rfl (uK rfl) (qae qbp qa5 (qae qb1 (qae qav (pv 0) qa5) qa5)))
  (qa3 (qag (i:=4) w3p.nd rfl (uK rfl) (qae qb1 (qae qav (pv 0) qa5) (pv 3)))
  (qa3 (qag (i:=5) w3p.nd rfl (uK rfl) qaq)
  (qa3 (qbl vJ rfl (qb9 rfl T.w13 #[pv 3]) (qah (i:=6) w3p.nd rfl (uK rfl)) (qa3 (qag (i:=7) w3p.nd rfl (uK rfl) (qae qck (pv 1) (qbu jgc rfl T.wd2 eZ #[qdh qcu (pv 6) (pv 4) (qar _)])))
  (qa3 (qag (i:=8) w3p.nd rfl (uK rfl) (qae qbp (qae qbp (qae qav (pv 0) qa5) (qae qck (pv 6) (qae qb1 (qae qav (pv 0) qa5) qa5))) (pv 7)))
  (qa6 (qag (i:=5) w3p.nd rfl (uK rfl) (qae jmx (pv 5) (qao jki (pv 2) (qae qb1 (pv 8) qa5) nofun)))))))
  (qa6 (qaj (pv 5))))))))),[some (.int c),some (.int k),none,none,none,none,none,none,none];left;refine i_2 (fun z=>?_) (fun z=>?_)
 .left;refine jp7 ∅ (jru _) ?_;left;have a0:=uW (k+c.fdiv 78) (show(8:Int)≠0 by decide);have a1:=uU (k+c.fdiv 78) (show(0:Int)<8 by decide);refine jrb #[] #[] ?_;unfold nmS nmL at q;rw[iO z] at q;exact q
 .left;have b0:=uW (c.fdiv 3) (show(8:Int)≠0 by decide);have b1:=uU (c.fdiv 3) (show(0:Int)<8 by decide);have d0:=uW (c.fdiv 7) (show(11:Int)≠0 by decide);have d1:=uU (c.fdiv 7) (show(0:Int)<11 by decide);have ks:k.natAbs<2^600:=wS (show k.natAbs<=1000 by omega) ∅;have ds:(c.fdiv 7%11).natAbs<2^600:=wS (show(c.fdiv 7%11).natAbs<=11 by omega) ∅;refine qcx (fun i σ H'=>H'=H/\∃w1 w2 w3,σ=[some (V.int c),some (V.int k),some (V.str ABC),some (V.int (1+c.fdiv 3%8)),some (V.int (c.fdiv 24%(1+c.fdiv 3%8))),some (V.str (ofL ((uN i).map (nmJ c k)))),w1,w2,w3]) ⟨rfl,none,none,none,rfl⟩ ?_ ?_
  .rintro i σ H' hi ⟨rfl,w1,w2,w3,rfl⟩;have is:((0:Int)+(i:Int)).natAbs<2^600:=wS (show((0:Int)+(i:Int)).natAbs<=8 by omega) ∅;left;refine jp7 ∅ (jru _) ?_;have lz:(ofL ((uN i).map (nmJ c k))).length=i:=by rw[jh9,zB,yD]
   refine jkw ?_ ?_
   .rw[lz];show _+1<=16777216;omega
   left;have ee:(uN (i+1)).map (nmJ c k)=(uN i).map (nmJ c k)++[nmJ c k i]:=by rw[yP,zE];rfl
   rw[jj4,ee];exact⟨rfl,_,_,_,rfl⟩
  .rintro σ H' ⟨rfl,w1,w2,w3,rfl⟩;left;unfold nmS nmL at q;rw[iN z] at q;exact q
noncomputable def iV(e:Nat):V:=.int (e:Int)
def wba(K:uY)(d:Ad):Sp:=fun vs H Q _=>∃(lc:Addr)(cs:List Int)(sh:Int),vs=[.ref lc,.int sh]/\SqL K H lc (cs.map V.int)/\cs.length<=40/\
 ∀(l:Addr)(es:List Nat),H l=none->es.length=cs.length->(∀(k e:Nat),es[k]?=some e->e<=k/\e<=10)->Q (.ref l) (upd H l (.lst (.non::es.map iV)))
include T in
theorem wbh:jab P w K mg base CX0 1 d.w7k d.w6b ["_law_cells","_law_shape"] (wba K d):=by
 exists T.wak.ok w35
 .right
 obtain⟨lc,cs,sh,rfl,hS,hn,q⟩:=h;exists (qa3 (qag (i:=2) w35.nd rfl (uK rfl) (qam #[qcq]))
  (qa3 (qbl vJ rfl (qb9 rfl T.w13 #[qac qaw rfl T.w1l vH #[pv 0]]) (qah (i:=3) w35.nd rfl (uK rfl)) (qa3 (qag (i:=4) w35.nd rfl (uK rfl) (qae qb1 (qao qab (pv 0) (pv 3) nofun) (qac (qdm rfl) rfl T.wbj aK #[qae qbp (pv 3) qa5,qa5])))
  (qa3 (qbf (qay (qal qcu (pv 1) qa5 (qar _)) (qa6 (qag (i:=4) w35.nd rfl (uK rfl) (qac (qdm rfl) rfl T.wbj aK #[pv 3,qa5]))) qad))
  (qa3 (qbf (qay (qal qcu (pv 1) qa5 (qar _)) (qa6 (qag (i:=4) w35.nd rfl (uK rfl) (qac (qdm rfl) rfl T.wbj aK #[qac (jcl rfl) rfl T.wdw PyProof.Rows.boot_max #[qa5,qae jdl (pv 3) qa5],qa5]))) qad))
  (qa6 (qb3 (qdb vG vK vL qba (pv 2) #[pv 4])))))))
  (qa6 (qaj (pv 2))))),[sr lc,some (.int sh),none,none,none];have hl:(cs.map V.int).length=cs.length:=zB _;left;rename_i l hl0;refine qcx (fun i σ H'=>∃(es:List Nat)(w1 w2:Option V),σ=[sr lc,some (.int sh),sr l,w1,w2]/\H'=upd H l (.lst (.non::es.map iV))/\es.length=i/\∀(k e:Nat),es[k]?=some e->e<=k/\e<=10) ⟨[],none,none,rfl,rfl,rfl,fun k e h=>by simp at h⟩ ?_ ?_
 .rintro i σ H' hi ⟨es,w1,w2,rfl,rfl,hes,hp⟩;have hi':i<cs.length:=by omega
  have eL:upd H l (.lst (.non::es.map iV)) l=some (.lst (.non::es.map iV)):=qa1;have hS':=qe0 (o:=.lst (.non::es.map iV)) hS hl0;left;refine qb5 hS' (qhc #[] #[]) ?_;left;generalize hm:(if(11:Int)<0+(i:Int)+1 then(11:Int) else 0+(i:Int)+1)=m;have m0:0<m/\m<=(i:Int)+1/\m<=11:=by rw[<-hm];split<;>omega
  have a0:=uW (cell cs (0+(i:Int))) (show m≠0 by omega);have a1:=uU (cell cs (0+(i:Int))) m0.1;generalize cell cs (0+(i:Int))%m=a at*;refine qce (fun σ H'=>∃a:Int,σ=[sr lc,some (.int sh),sr l,some (.int (0+(i:Int))),some (.int a)]/\H'=upd H l (.lst (.non::es.map iV))/\0<=a/\a<=i/\a<=10) ?_ ?_
  .left;refine i_2 (fun c=>?_) (fun c=>?_)
   .left;exact⟨_,rfl,rfl,by split<;>omega,by split<;>omega,by split<;>omega⟩
   .left;exact⟨_,rfl,rfl,#[],#[],#[]⟩
  rintro σ' H' ⟨a,rfl,rfl,a0,a1,a2⟩;left;refine qce (fun σ H'=>∃a:Int,σ=[sr lc,some (.int sh),sr l,some (.int (0+(i:Int))),some (.int a)]/\H'=upd H l (.lst (.non::es.map iV))/\0<=a/\a<=i/\a<=10) ?_ ?_
  .left;refine i_2 (fun c=>?_) (fun c=>?_)
   .left;refine⟨_,rfl,rfl,?_,?_,?_⟩ <;>(split<;>split<;>omega)
   .left;exact⟨_,rfl,rfl,#[],#[],#[]⟩
  rintro σ' H' ⟨a,rfl,rfl,a0,a1,a2⟩;have hzz:(V.non::es.map iV).length<sizeLine:=by rw[zI,zB];show _<16777216;omega
  left;rw[qb4];have ea:V.int a=iV a.toNat:=by unfold iV;rw[Int.toNat_of_nonneg a0]
  refine⟨es++[a.toNat],_,_,rfl,by rw[ea,zE];rfl,by rw[zH,hes];rfl,fun k e he=>?_⟩;rcases vZ k es.length with h|h
  .rw[zV h] at he;exact hp k e he
  .have hk:=(uH.mp he).1;rw[zH,yA] at hk;have ek:k=es.length:=by omega
   subst ek;rw[zX (uG _),bX] at he;have:a.toNat=e:=by simpa using he
   omega
 .rintro σ H' ⟨es,w1,w2,rfl,rfl,hes,hp⟩;left;exact q l es hl0 #[] hp
theorem jj5(hi:i<ws.length){k:Int}(e:k=(i:Int)):atI (ws.map V.str) k=some (.str ws[i]):=by
 subst e;exact qau (by rw[zC,zA hi];rfl)
def jbm(ws:List Str)(B:Int)(f:Str->Option Int):Prop:=∀z n,f z=some n->z∈ws/\0<=n/\n<=B
def jbm.put(h:jbm ws B f){z:Str}{n:Int}(hz:z∈ws)(h0:0<=n)(h1:n<=B):jbm ws B (qda f z n):=fun y m e=>by
 unfold qda at e;by_cases c:y=z
 .rw[iO c] at e;cases e;rw[c];exact⟨hz,h0,h1⟩
 .rw[iN c] at e;exact h y m e
def jee:jbm ws B noF:=fun z n e=>by cases e
structure PtN(H H':Hp)(ws:List Str)(B:Int)(t:Pt):Prop where
 fr:H t.a=none
 loc:H' t.a=some (.dK t.k)
 ad:AD t.k t.f
 fn:jbm ws B t.f
structure jun(sc:Int):Prop where
 lo:0<=sc
 hi:sc<=10^27
inductive jde(K:uY)(d:Ad)(vs:List V)(H:Hp)(Q:VK)(E:XK):Prop
 |mk(lc lw:Addr)(cs:List Int)(ws:List Str)(sc:Int)(_:vs=[.ref lc,.ref lw,.int sc])(_:SqL K H lc (cs.map V.int))(_:cs.length<=41)(_:SqL K H lw (ws.map V.str))(_:ws.length<=3)(_:jun sc)(_:∀(l:Addr)(ts:List Pt) H',qas H H'->H l=none->H' l=some (.lst (ts.map fun t=> .ref t.a))->ts.length=cs.length->(∀t∈ts,PtN H H' ws (5*10^27) t)->Q (.ref l) H')
include T in
theorem wab:jab P w K mg base CX0 2 d.w5h d.w4s ["_law_cells","_law_wares","_law_scale"] (jde K d):=by
 exists T.w75.ok w1v
 .right
 obtain⟨lc,lw,cs,ws,sc,rfl,hS,hn,hW,hw,sk,q⟩:=h;exists (qa3 (qag (i:=3) w1v.nd rfl (uK rfl) (qam qa2))
  (qa3 (qbl vJ rfl (qb9 rfl T.w13 #[qac qaw rfl T.w1l vH #[pv 0]]) (qah (i:=4) w1v.nd rfl (uK rfl)) (qa3 (qag (i:=5) w1v.nd rfl (uK rfl) qc3)
  (qa3 (qbl vJ rfl (qb9 rfl T.w13 #[qac qaw rfl T.w1l vH #[pv 1]]) (qah (i:=6) w1v.nd rfl (uK rfl)) (qa3 (qag (i:=7) w1v.nd rfl (uK rfl) (qaf ((w89 T).mono ∅) hr rfl T.w9g T.w88.kp T.w9y .nil qaz #[qae qav (qao qab (pv 0) (pv 4) nofun) qa5,qae qbp (qae qck qa5 (pv 4)) (pv 6)]))
  (qa6 (qbf (qay (qal qfj (qae qb1 (pv 7) qa5) qa5 (qar _)) (qa6 (qci (qc1 hr) (pv 5) (qao qab (pv 1) (pv 6) nofun) (qae qck (qae qb1 (qae qav (pv 7) qa5) qa5) (pv 2)) rfl)) qad)))))
  (qa6 (qb3 (qdb vG vK vL qba (pv 3) #[pv 5]))))))
  (qa6 (qaj (pv 3))))),[sr lc,sr lw,some (.int sc),none,none,none,none,none];have hl:(cs.map V.int).length=cs.length:=zB _;have hl2:(ws.map V.str).length=ws.length:=zB _;left;rename_i l hl0;refine qcx (fun i σ H'=>∃(ts:List Pt)(w1 w2 w3 w4:Option V),σ=[sr lc,sr lw,some (.int sc),sr l,w1,w2,w3,w4]/\qas H H'/\H' l=some (.lst (ts.map fun t=> .ref t.a))/\ts.length=i/\∀t∈ts,PtN H H' ws (5*10^27) t) ⟨[],none,none,none,none,rfl,qa4 hl0 _,qa1,rfl,fun t h=>by simp at h⟩ ?_ ?_
 .rintro i σ H' hi ⟨ts,w1,w2,w3,w4,rfl,sm,eL,hts,hp⟩;have hi':i<cs.length:=by omega
  have hW1:=sm.seq hW;have hS1:=sm.seq hS;left;rename_i p hpn;have hp0:H p=none:=sm.free hpn;have nlp:l≠p:=fun z=>by subst z;rw[eL] at hpn;cases hpn
  refine qcx (fun j σ H2=>∃(k':List (Key×V))(f:Str->Option Int)(w3 w4:Option V),σ=[sr lc,sr lw,some (.int sc),sr l,some (.int (0+(i:Int))),sr p,w3,w4]/\H2=upd H' p (.dK k')/\AD k' f/\jbm ws (5*10^27) f/\k'.length<=j) ⟨[],noF,w3,w4,rfl,rfl,AD.nil,jee,uG _⟩ ?_ ?_
  .rintro j σ H2 hj ⟨k',f,w3,w4,rfl,rfl,hA,hF,hk⟩;have hj':j<ws.length:=by omega
   have s2:=qa4 hpn (.dK k');have hS2:=(sm.trans s2).seq hS;have hW2:=(sm.trans s2).seq hW;left;refine qb5 hS2 (qhc #[] #[]) ?_;left;refine⟨_,_,rfl,#[],#[],fun r r0 _=>?_⟩;left;have e0:=uW (r.fdiv 4) (show(6:Int)≠0 by decide);have e1:=uU (r.fdiv 4) (show(0:Int)<6 by decide);have sb:sc.natAbs<2^600:=by
    have a:=sk.lo;have b:=sk.hi;exact wS (show sc.natAbs<=10^27 by omega) ∅
   have eb:(r.fdiv 4%6).natAbs<2^600:=wS (show(r.fdiv 4%6).natAbs<=6 by omega) ∅;have v0:0<=r.fdiv 4%6*sc:=Int.mul_nonneg e0 sk.lo;have v1:r.fdiv 4%6*sc<=5*10^27:=Int.mul_le_mul #[] sk.hi sk.lo ∅;refine qc8 ?_;left;refine i_2 (fun c=>?_) (fun c=>?_)
   .left;refine qb5 hW2 (jj5 hj' #[]) ?_;left;rw[qb4];have:=qbo k' (vE ws[j]) (.int (r.fdiv 4%6*sc));exact⟨_,_,_,_,rfl,rfl,hA.put ws[j] _,hF.put (zJ hj') v0 v1,#[]⟩
   .left;exact⟨_,_,_,_,rfl,rfl,hA,hF,#[]⟩
  .rintro σ H2 ⟨k',f,w3,w4,rfl,rfl,hA,hF,hk⟩;have eL2:upd H' p (.dK k') l=some (.lst (ts.map fun t=> .ref t.a)):=by rw[qa9 nlp];exact eL
   left;refine⟨ts++[⟨p,k',f⟩],_,_,_,_,rfl,qax (qax sm hp0) hl0,by rw[qa1,zE];rfl,by rw[zH,hts];rfl,fun t ht=>?_⟩;have s3:∀b o,b≠l->b≠p->H' b=some o->upd (upd H' p (.dK k')) l (.lst (ts.map (fun t=>V.ref t.a)++[V.ref p])) b=some o:=fun b o h1 h2 e=>by rw[qa9 h1,qa9 h2];exact e
   rcases zT.mp ht with h|h
   .have z:=hp t h;refine⟨z.fr,s3 _ _ (fun e=>by have:=z.loc;rw[e,eL] at this;cases this) (fun e=>?_) z.loc,z.ad,z.fn⟩;have:=z.loc;rw[e,hpn] at this
    cases this
   .have:t=⟨p,k',f⟩:=by simpa using h
    subst this;exact⟨hp0,by rw[qa9 nlp.symm];exact qa1,hA,hF⟩
 .rintro σ H' ⟨ts,w1,w2,w3,w4,rfl,sm,eL,hts,hp⟩;left;exact q l ts H' sm hl0 eL #[] hp
noncomputable def elN(es:List Nat)(k:Nat):Nat:=(es[k-1]?).getD 0
noncomputable def ptN(ts:List Pt)(k:Nat)(v:Str):Int:=match ts[k]? with
 |some t=>gN t.f v
 |none=>0
def qcd(H:Hp)(ws:List Str)(qs:List Addr)(G:Nat->Str->Int):Prop:=∀(j:Nat)(q:Addr),qs[j]?=some q->∃(k:List (Key×V))(f:Str->Option Int),H q=some (.dK k)/\AD k f/\(∀z,f z≠none->z∈ws)/\∀v,gN f v=G j v
def qcd.cast{qs:List Addr}{G G':Nat->Str->Int}(h:qcd H ws qs G)(e:∀j v,j<qs.length->G j v=G' j v):qcd H ws qs G':=fun j q hq=>by
 obtain⟨k,f,a,b,c,g⟩:=h j q hq;have hj:=(uH.mp hq).1;exact⟨k,f,a,b,c,fun v=>by rw[g,e j v hj]⟩
def qcd.same{H H':Hp}{ws:List Str}{qs:List Addr}{G:Nat->Str->Int}(h:qcd H ws qs G)(s:∀q∈qs,∀o,H q=some o->H' q=some o):qcd H' ws qs G:=fun j q hq=>by
 obtain⟨k,f,a,r⟩:=h j q hq;exact⟨k,f,s q (zD hq) _ a,r⟩
theorem jln(f:Str->Option Int)(z:Str)(n:Int)(v:Str):gN (qda f z n) v=if v=z then n else gN f v:=by
 unfold gN qda;by_cases c:v=z
 .rw[iO c,iO c];rfl
 .rw[iN c,iN c]
theorem qcd.put{H:Hp}{ws:List Str}{qs:List Addr}{G:Nat->Str->Int}(nd:qs.Nodup)(h:qcd H ws qs G){at_:Nat}{q:Addr}(hq:qs[at_]?=some q){k:List (Key×V)}{f:Str->Option Int}(hA:AD k f)(hf:∀z,f z≠none->z∈ws)(hg:∀v,gN f v=G at_ v){z:Str}(hz:z∈ws){n:Int}:
  qcd (upd H q (.dK (qcs k (vE z) (.int n)))) ws qs (fun j v=>if j=at_/\v=z then n else G j v):=fun j r hr=>by
 by_cases e:j=at_
 .subst e;rw[hq] at hr;cases hr;refine⟨_,_,qa1,hA.put z n,fun y hy=>?_,fun v=>?_⟩
  .unfold qda at hy;by_cases c:y=z
   .rw[c];exact hz
   .rw[iN c] at hy;exact hf y hy
  .show _=if j=j/\v=z then n else G j v
   rw[jln];by_cases c:v=z
   .rw[iO c,iO ⟨rfl,c⟩]
   .rw[iN c,iN (fun x=>c x.2),hg]
 .obtain⟨k',f',a,b,c,g⟩:=h j r hr;have ne:r≠q:=fun x=>by
   subst x;obtain⟨h1,e1⟩:=uH.mp hr;obtain⟨h2,e2⟩:=uH.mp hq;rcases vZ j at_ with lt|ge
   .exact(zQ.mp nd) j at_ h1 h2 lt (by rw[e1,e2])
   .exact(zQ.mp nd) at_ j h2 h1 #[] (by rw[e1,e2])
  exact⟨k',f',by rw[qa9 ne];exact a,b,c,fun v=>by show _=if j=at_/\v=z then n else G j v;rw[g,iN (fun x=>e x.1)]⟩
noncomputable def oV:Option Nat->V
 |none=> .non
 |some a=> .int (a:Int)
noncomputable def jrv(el:Nat->Nat):Option Nat->List Nat
 |none=> []
 |some a=>qai el a
noncomputable def juo(es:List Nat)(σ:L2.St):Nat:=match σ[4]? with
 |some (some (V.int a))=>(qai (elN es) a.toNat).length
 |_=>0
inductive jn3(K:uY)(d:Ad)(vs:List V)(H:Hp)(Q:VK)(E:XK):Prop
 |mk(le lp:Addr)(es:List Nat)(ts:List Pt)(ws:List Str)(_:vs=[.ref le,.ref lp])(_:H le=some (.lst (.non::es.map iV)))(_:SqL K H lp (ts.map fun t=> .ref t.a))(_:ts.length=es.length+1)(_:ts.length<=41)(_:ws.length<=3)(_:Ac (elN es) ts.length)(_:(∀t∈ts,H t.a=some (.dK t.k)/\AD t.k t.f/\∀z,t.f z≠none->z∈ws))(_:∀(l:Addr)(qs:List Addr) H',qas H H'->H l=none->H' l=some (.lst (qs.map V.ref))->qs.length=ts.length->(∀q∈qs,H q=none)->qcd H' ws qs (fun j v=>qcp ts.length fun k=>if j∈qai (elN es) k then ptN ts k v else 0)->Q (.ref l) H')
include T in
theorem waf:jab P w K mg base CX0 1 d.wbt d.w9v ["_law_elders_here","_law_promises_here"] (jn3 K d):=by
 exists T.waj.ok w4w
 .right
 obtain⟨le,lp,es,ts,ws,rfl,hE,hP,hn,h13,hw,ac,hts,q⟩:=h;refine⟨_,(qa3 (qel (j:=2) (caps:=[]) (cn:=[]) (qc6 rfl rfl (by rfl) (by rfl) rfl trivial (by rfl) rfl trivial ∅) rfl w4w.nd rfl rfl (qcj (pv 1)) (fun _ _ _ _=>qd7) (fun _ _ _ _=>qc3))
  (qa3 (qbl vJ rfl (qb9 rfl T.w13 #[qac qaw rfl T.w1l vH #[pv 0]]) (qah (i:=3) w4w.nd rfl (uK rfl)) (qa3 (qag (i:=4) w4w.nd rfl (uK rfl) (pv 3))
  (qa6 (qgx vJ (qal qec (pv 4) qcq (qar _)) (qa3 (qew (qbl vJ rfl (jd4 (jdp yV dM PySem.F.type_dict_items jd3 (qao qab (pv 1) (pv 3) nofun))) (jkc rfl (qap (qah (i:=5) w4w.nd rfl (uK rfl)) (qap (qah (i:=6) w4w.nd rfl (uK rfl)) qdf))) (qa6 (qci (qc1 hr) (qao qab (pv 2) (pv 4) nofun) (pv 5) (qae qbp (qcr (qc1 hr) (qao qab (pv 2) (pv 4) nofun) (pv 5) qa5 ⟨rfl,rfl,rfl,rfl⟩) (pv 6)) rfl))))
  (qa6 (qag (i:=4) w4w.nd rfl (uK rfl) (qao qab (pv 0) (pv 4) nofun))))))))
  (qa6 (qaj (pv 2))))),?_⟩
 walk_at"d"
 try dsimp only[cxC]
 refine qak (σ:=[sr le,sr lp,none,none,none,none,none]) rfl ?_;have hl:(ts.map fun t=>V.ref t.a).length=ts.length:=zB _;left;intro C s0 H0 fp na hna;refine jdy ts.length (fun i H'=>∃qs:List Addr,qs.length=i/\qs.Nodup/\(∀q∈qs,H q=none/\q≠na/\H' q=some (.dK []))/\qas H H'/\H' na=some (.lst (qs.map V.ref))) ⟨[],rfl,yH,fun q h=>by simp at h,qa4 hna _,qa1⟩ ?_ ?_ ?_ ?_
 .rintro i H' hi ⟨qs,_,_,_,sm,_⟩;exact⟨_,.ref ts[i].a,sm.seq hP,by rw[zC,zA hi];rfl⟩
 .rintro H' ⟨qs,_,_,_,sm,_⟩;exact⟨_,sm.seq hP,by rw[hl];exact uG _⟩
 .rintro i H' v H'' hi ⟨qs,e1,e2,e3,sm,eN⟩ ⟨rfl,hy⟩;left;rename_i p hpn;have npn:p≠na:=fun z=>by subst z;rw[eN] at hpn;cases hpn
  refine⟨qs++[p],by rw[zH,e1];rfl,?_,fun q hq=>?_,qax (qax sm (sm.free hpn)) hna,by rw[qa1,zE];rfl⟩
  .rw[yE];refine⟨e2,zU.mpr ⟨by simp,yH⟩,fun a ha b hb e=>?_⟩;have:b=p:=by simpa using hb
   subst this;subst e;rw[(e3 a ha).2.2] at hpn
   cases hpn
  .rcases zT.mp hq with h|h
   .obtain⟨a1,a2,a3⟩:=e3 q h;exact⟨a1,a2,by rw[qa9 a2,qa9 (qa8 a3 hpn)];exact a3⟩
   .have:q=p:=by simpa using h
    subst this;exact⟨sm.free hpn,npn,by rw[qa9 npn];exact qa1⟩
 rintro H' ⟨qs,e1,e2,e3,sm,eN⟩;have hE':=sm _ _ hE;have fq:∀q∈qs,H q=none/\q≠na:=fun q hq=>⟨(e3 q hq).1,(e3 q hq).2.1⟩;left;have hll:(V.non::es.map iV).length=ts.length:=by rw[zI,zB,hn]
 refine qcx (fun i σ H2=>∃w1 w2 w3 w4,σ=[sr le,sr lp,sr na,w1,w2,w3,w4]/\qas H H2/\H2 na=some (.lst (qs.map V.ref))/\qcd H2 ws qs (fun j v=>qcp i fun k=>if j∈qai (elN es) k then ptN ts k v else 0)) ⟨none,none,none,none,rfl,sm,eN,fun j q hq=>?_⟩ ?_ ?_
 .exact⟨[],noF,(e3 q (zD hq)).2.2,AD.nil,fun z h=>absurd rfl h,fun v=>rfl⟩
 .rintro i σ H2 hi ⟨w1,w2,w3,w4,rfl,s2,eN2,hG⟩;have hi':i<ts.length:=by omega
  have tm:=zJ hi';generalize ht:ts[i]=t at tm;obtain⟨ht1,ht2,ht3⟩:=hts t tm;have pt:∀v,ptN ts i v=gN t.f v:=fun v=>by unfold ptN;rw[zA hi',ht]
  left;simp only[eB];refine qgi (fun σ H3=>∃(done:List Nat)(o:Option Nat)(w5 w6:Option V),σ=[sr le,sr lp,sr na,some (.int (i:Int)),some (oV o),w5,w6]/\done++jrv (elN es) o=qai (elN es) i/\(∀a,o=some a->a<ts.length)/\qas H H3/\H3 na=some (.lst (qs.map V.ref))/\qcd H3 ws qs (fun j v=>(qcp i fun k=>if j∈qai (elN es) k then ptN ts k v else 0)+if j∈done then gN t.f v else 0)) (fun σ _=>juo es σ) ⟨[],some i,w3,w4,rfl,rfl,fun a h=>by cases h;exact hi',s2,eN2,hG.cast fun j v _=>by simp⟩ ?_ ?_
  .rintro σ H3 ⟨done,o,w5,w6,rfl,hd,ha,s3,eN3,hG3⟩
   cases o with
   |none=>
    rw[show oV none=V.non from rfl];left;have hd':done=qai (elN es) i:=by rw[<-hd];exact(zW _).symm
    refine⟨_,_,_,_,rfl,s3,eN3,hG3.cast fun j v _=>?_⟩;rw[hd',<-pt v];rfl
   |some a=>
    have hai:=ha a rfl;have haq:a<qs.length:=by omega
    rw[show oV (some a)=V.int (a:Int) from rfl];have hP3:=s3.seq hP;have ht1':=s3 _ _ ht1;left;refine jvt ?_;left;refine qb5 hP3 (qau (j:=i) (by rw[zC,zA hi',ht];rfl)) ?_;left;refine jg6 (.inl ht1') fun vw hvw=>?_;refine jq9 qa1 (qa7 ht1' hvw) fun o2=>?_;have nqt:∀q∈qs,q≠t.a:=fun q hq=>(qa8 ht1 (fq q hq).1).symm;have nnt:na≠t.a:=(qa8 ht1 hna).symm;have sb0:SameBut t.a H (upd (upd H3 vw (je0 vw t.a)) t.a (.frz o2 (.dK t.k))):=SameBut.at (SameBut.of (s3.trans (qa4 hvw _)));refine jg7 (fun m σ H4=>∃(w5 w6:Option V),σ=[sr le,sr lp,sr na,some (.int (i:Int)),some (.int (a:Int)),w5,w6]/\SameBut t.a H H4/\H4 t.a=some (.frz o2 (.dK t.k))/\H4 na=some (.lst (qs.map V.ref))/\
     qcd H4 ws qs (fun j v=>((qcp i fun k=>if j∈qai (elN es) k then ptN ts k v else 0)+if j∈done then gN t.f v else 0)+if j=a/\v∈(qc0 t.k).take m then gN t.f v else 0)) ⟨w5,w6,rfl,sb0,qa1,by rw[qa9 nnt,qa9 (qa8 eN3 hvw)];exact eN3,?_⟩ ?_ ?_ ?_
    .refine(hG3.same fun q hq o e=>?_).cast fun j v _=>by simp
     rw[qa9 (nqt q hq),qa9 (qa8 e hvw)];exact e
    .rintro m σ H4 _ ⟨w5,w6,rfl,sb,fz,_⟩;exact fz
    .rintro m k x T σ H4 hk ⟨w5,w6,rfl,sb,fz,eN4,hG4⟩ hT;obtain⟨z,n,rfl,rfl,hf,hzm⟩:=ht2.at hk;obtain⟨kq,gq,q1,q2,q3,q4⟩:=hG4 a qs[a] (zA haq);have s5:=qa4 hT (.tup [.str z,.int n]);have eT:upd H4 T (.tup [.str z,.int n]) T=some (.tup [.str z,.int n]):=qa1;have eN5:=s5 _ _ eN4;have q1':=s5 _ _ q1;have fz5:=s5 _ _ fz;have hG5:=hG4.same (H':=upd H4 T (.tup [.str z,.int n])) fun q _ o e=>s5 _ _ e;have sb5:=sb.same s5;show jsb K _ _ (.ref T) _ (upd H4 T (.tup [.str z,.int n])) _;generalize upd H4 T (.tup [.str z,.int n])=H5 at*;have hRq:Rd H5 qs[a] (.dK kq):=.inl q1';have atq:atI (qs.map V.ref) (a:Int)=some (.ref qs[a]):=qau (by rw[zC,zA haq];rfl);left;refine qb5 (SqL.of eN5) atq ?_;left;refine qb5 (SqL.of eN5) atq ?_;have hkq:kq.length<sizeLine:=by have:=q2.le q3;show _<16777216;omega
     left;have mq:=zJ haq;refine⟨_,_,rfl,qfz sb5 (fq _ mq).1,by rw[qa9 (nqt _ mq).symm];exact fz5,by rw[qa9 (fq _ mq).2.symm];exact eN5,(qcd.put e2 hG5 (zA haq) q2 q3 q4 (ht3 z (by rw[hf];simp))).cast fun j v _=>?_⟩;have q4z:gN gq z=((qcp i fun k=>if a∈qai (elN es) k then ptN ts k z else 0)+if a∈done then gN t.f z else 0)+(if a=a/\z∈(qc0 t.k).take m then gN t.f z else 0):=q4 z;have nz:z∉(qc0 t.k).take m:=fun h=>by
      have:=jgz ht2.knd hzm;rw[cB.mpr h] at this
      cases this
     have gz:gN t.f z=n:=by unfold gN;rw[hf];rfl
     have ts1:=qbn hzm v;by_cases c:j=a/\v=z
     .rw[iN (show ¬(a=a/\z∈(qc0 t.k).take m) from fun h=>nz h.2)] at q4z;rw[iO c,q4z,iO (show j=a/\v∈(qc0 t.k).take (m+1) from⟨c.1,ts1.mpr (.inr c.2)⟩),c.1,c.2,gz];omega
     .rw[iN c]
      congr 1
      by_cases d1:j=a
      .have d2:v≠z:=fun h=>c ⟨d1,h⟩;have d3:(j=a/\v∈(qc0 t.k).take m)=(j=a/\v∈(qc0 t.k).take (m+1)):=propext ⟨fun h=>⟨h.1,ts1.mpr (.inl h.2)⟩,fun h=>⟨h.1,(ts1.mp h.2).resolve_right d2⟩⟩;simp only[d3]
      .rw[iN (show ¬(j=a/\v∈(qc0 t.k).take m) from fun h=>d1 h.1),iN (show ¬(j=a/\v∈(qc0 t.k).take (m+1)) from fun h=>d1 h.1)]
    .rintro σ H4 ⟨w5,w6,rfl,sb,fz,eN4,hG4⟩;refine qdu (qd9 fz (qbh ht1)) ?_;have s6:=qb8 ht1 sb;have eN6:upd H4 t.a (.dK t.k) na=some (.lst (qs.map V.ref)):=by rw[qa9 nnt];exact eN4
     have hG6:qcd (upd H4 t.a (.dK t.k)) ws qs _:=hG4.same fun q hq o e=>by rw[qa9 (nqt q hq)];exact e
     generalize upd H4 t.a (.dK t.k)=H6 at*;have eE:=s6 _ _ hE;have hai':a<ts.length:=hai;have pw:=ac.nd hi';rw[<-hd] at pw;have nda:a∉done:=fun h=>by
      exact(yE.mp pw).2.2 a h a (by show a∈qai (elN es) a;exact ac.self hai') rfl
     have gE:∀j v,j<qs.length->((qcp i fun k=>if j∈qai (elN es) k then ptN ts k v else 0)+if j∈done then gN t.f v else 0)+(if j=a/\v∈(qc0 t.k).take t.k.length then gN t.f v else 0)=(qcp i fun k=>if j∈qai (elN es) k then ptN ts k v else 0)+if j∈done++[a] then gN t.f v else 0:=fun j v _=>by
      rw[<-ht2.klen,yG];have z0:v∉qc0 t.k->gN t.f v=0:=fun h=>by
       have:t.f v=none:=by
        cases e:t.f v with
        |none=>rfl
        |some n=>exact absurd ((ht2.kin v).mpr (by rw[e];simp)) h
       unfold gN;rw[this];rfl
      by_cases d1:j=a
      .subst d1;rw[iN nda,iO (zO _ (zK.mpr rfl))];by_cases d2:v∈qc0 t.k
       .rw[iO ⟨rfl,d2⟩];omega
       .rw[iN (show ¬(j=j/\v∈qc0 t.k) from fun h=>d2 h.2),z0 d2];omega
      .rw[iN (show ¬(j=a/\v∈qc0 t.k) from fun h=>d1 h.1)];have d3:(j∈done++[a])=(j∈done):=propext ⟨fun h=>(zT.mp h).resolve_right (fun h=>d1 (zK.mp h)),fun h=>zY _ h⟩;simp only[d3];omega
     left
     cases a with
     |zero=>
      refine qb5 (SqL.of eE) (qau (j:=0) rfl) ?_;left;refine⟨⟨done++[0],none,_,_,rfl,by rw[<-hd];show(done++[0])++[]=done++qai (elN es) 0;rw[zW,qcz],fun a h=>(by cases h),s6,eN6,hG6.cast gE⟩,?_⟩;show 0 <(qai (elN es) (((0:Nat):Int)).toNat).length;rw[show(((0:Nat):Int)).toNat=0 from rfl,qcz];decide
     |succ b=>
      have hb:b<es.length:=by omega
      have eb:elN es (b+1)=es[b]:=by unfold elN;rw[cS,zA hb];rfl
      have lb:=ac.elt #[] hai';refine qb5 (v:=iV es[b]) (SqL.of eE) (qau (j:=b+1) (by rw[yX,zC,zA hb];rfl)) ?_;left;refine⟨⟨done++[b+1],some es[b],_,_,rfl,?_,fun a h=>by cases h;rw[eb] at lb;exact lb,s6,eN6,hG6.cast gE⟩,?_⟩
      .rw[<-hd,bW];show done++([b+1]++qai (elN es) es[b])=done++qai (elN es) (b+1);rw[ac.up #[] hai',eb];rfl
      .show(qai (elN es) (((es[b]:Nat):Int)).toNat).length <(qai (elN es) ((((b+1:Nat)):Int)).toNat).length;rw[show(((es[b]:Nat):Int)).toNat=es[b] by omega,show((((b+1:Nat)):Int)).toNat=b+1 by omega,ac.up #[] hai',eb,zI];omega
  .rintro σ H1 Q1 Q2 h ⟨v,hv,w,k,hk,hq⟩;exact⟨v,hv,w,k,hk,h _ _ hq⟩
 .rintro σ H2 ⟨w1,w2,w3,w4,rfl,s2,eN2,hG⟩;left;exact q na qs H2 s2 hna eN2 e1 (fun q hq=>(fq q hq).1) (hG.cast fun j v _=>by rw[hll];rfl)
theorem jbm.nn(h:jbm ws B f)(v:Str):0<=gN f v:=by
 unfold gN
 cases e:f v with
 |none=>exact wU _
 |some n=>exact(h v n e).2.1
inductive jn4(K:uY)(d:Ad)(vs:List V)(H:Hp)(Q:VK)(E:XK):Prop
 |mk(lc ls lw:Addr)(cs:List Int)(qs:List Addr)(ws:List Str)(sc:Int)(G:Nat->Str->Int)(_:vs=[.ref lc,.ref ls,.ref lw,.int sc])(_:SqL K H lc (cs.map V.int))(_:cs.length<=41)(_:SqL K H ls (qs.map V.ref))(_:qs.length=cs.length)(_:SqL K H lw (ws.map V.str))(_:ws.length<=3)(_:jun sc)(_:qcd H ws qs G)(_:(∀j v,j<qs.length->0<=G j v/\G j v<=3*10^29))(_:∀(l:Addr)(ts:List Pt) H',qas H H'->H l=none->H' l=some (.lst (ts.map fun t=> .ref t.a))->ts.length=cs.length->(∀(j:Nat)(t:Pt),ts[j]?=some t->PtN H H' ws (4*10^29) t/\∀v∈ws,G j v<=gN t.f v)->Q (.ref l) H')
include T in
theorem wd9:jab P w K mg base CX0 2 d.wbf d.w9z ["_law_cells","_law_sums_here","_law_wares","_law_scale"] (jn4 K d):=by
 exists T.wcs.ok w4d
 .right
 obtain⟨lc,ls,lw,cs,qs,ws,sc,G,rfl,hS,hn,hQ,hqn,hW,hw,sk,hG,hB,q⟩:=h;exists (qa3 (qag (i:=4) w4d.nd rfl (uK rfl) (qam qa2))
  (qa3 (qbl vJ rfl (qb9 rfl T.w13 #[qac qaw rfl T.w1l vH #[pv 0]]) (qah (i:=5) w4d.nd rfl (uK rfl)) (qa3 (qag (i:=6) w4d.nd rfl (uK rfl) qc3)
  (qa3 (qbl vJ rfl (qb9 rfl T.w13 #[qac qaw rfl T.w1l vH #[pv 2]]) (qah (i:=7) w4d.nd rfl (uK rfl)) (qa3 (qag (i:=8) w4d.nd rfl (uK rfl) (qaf ((w89 T).mono ∅) hr rfl T.w9g T.w88.kp T.w9y .nil qaz #[qae qav (qao qab (pv 0) (pv 5) nofun) qa5,qae qbp (qae qbp (qae qck qa5 (pv 5)) (pv 7)) qa5]))
  (qa3 (qag (i:=9) w4d.nd rfl (uK rfl) (qao qab (qam #[qa5,pv 3,qa5,qae qck qa5 (pv 3),qae qck qa5 (pv 3),qa5,qae qeb qa5 qa5,qa5]) (qae qb1 (pv 8) qa5) nofun))
  (qa3 (qag (i:=10) w4d.nd rfl (uK rfl) (qae qbp (qcr (qc1 hr) (qao qab (pv 1) (pv 5) nofun) (qao qab (pv 2) (pv 7) nofun) qa5 ⟨rfl,rfl,rfl,rfl⟩) (pv 9)))
  (qa6 (qbf (qay (PW.pt (qek (qal qfj (pv 10) qa5 (qar _)) (qd6 (qal qcu (qae qb1 (qae qav (pv 8) qa5) qa5) qa5 (qar _))))) (qa6 (qci (qc1 hr) (pv 6) (qao qab (pv 2) (pv 7) nofun) (pv 10) rfl)) qad)))))))
  (qa6 (qb3 (qdb vG vK vL qba (pv 4) #[pv 6]))))))
  (qa6 (qaj (pv 4))))),[sr lc,sr ls,sr lw,some (.int sc),none,none,none,none,none,none,none];have hl:(cs.map V.int).length=cs.length:=zB _;have hl2:(ws.map V.str).length=ws.length:=zB _;left;rename_i l hl0;refine qcx (fun i σ H'=>∃(ts:List Pt)(w1 w2 w3 w4 w5 w6:Option V),σ=[sr lc,sr ls,sr lw,some (.int sc),sr l,w1,w2,w3,w4,w5,w6]/\qas H H'/\H' l=some (.lst (ts.map fun t=> .ref t.a))/\ts.length=i/\∀(j:Nat)(t:Pt),ts[j]?=some t->PtN H H' ws (4*10^29) t/\∀v∈ws,G j v<=gN t.f v) ⟨[],none,none,none,none,none,none,rfl,qa4 hl0 _,qa1,rfl,fun j t h=>by simp at h⟩ ?_ ?_
 .rintro i σ H' hi ⟨ts,w1,w2,w3,w4,w5,w6,rfl,sm,eL,hts,hp⟩;have hi':i<cs.length:=by omega
  have hW1:=sm.seq hW;have hS1:=sm.seq hS;have hiq:i<qs.length:=by omega
  obtain⟨kq,fq,hq1,hq2,hq3,hq4⟩:=hG i qs[i] (zA hiq);have eix:atI (qs.map V.ref) (0+(i:Int))=some (.ref qs[i]):=by rw[eB];exact qau (by rw[zC,zA hiq];rfl)
  left;rename_i p hpn;have hp0:H p=none:=sm.free hpn;have nlp:l≠p:=fun z=>by subst z;rw[eL] at hpn;cases hpn
  refine qcx (fun j σ H2=>∃(k':List (Key×V))(f:Str->Option Int)(w3 w4 w5 w6:Option V),σ=[sr lc,sr ls,sr lw,some (.int sc),sr l,some (.int (0+(i:Int))),sr p,w3,w4,w5,w6]/\qas H' H2/\H2 p=some (.dK k')/\AD k' f/\jbm ws (4*10^29) f/\k'.length<=j/\∀v∈ws.take j,G i v<=gN f v) ⟨[],noF,w3,w4,w5,w6,rfl,qa4 hpn _,qa1,AD.nil,jee,uG _,fun v h=>by simp at h⟩ ?_ ?_
  .rintro j σ H2 hj ⟨k',f,w3,w4,w5,w6,rfl,s2,eP,hA,hF,hk,hg⟩;have hj':j<ws.length:=by omega
   have hS2:=(sm.trans s2).seq hS;have hW2:=(sm.trans s2).seq hW;have hQ2:=(sm.trans s2).seq hQ;have hq1':=(sm.trans s2) _ _ hq1;left;refine qb5 hS2 (qhc #[] #[]) ?_;left;refine⟨_,_,rfl,#[],#[],fun r r0 _=>?_⟩;have slo:=sk.lo;have sb:sc.natAbs<2^600:=by
    have b:=sk.hi;exact wS (show sc.natAbs<=10^27 by omega) ∅
   left;rename_i pm hpm;have s3:=qa4 hpm (.lst [V.int 0,V.int sc,V.int 0,V.int (2*sc),V.int (7*sc),V.int 1,V.int (10^wB 29),V.int 0]);have eM:upd H2 pm (.lst [V.int 0,V.int sc,V.int 0,V.int (2*sc),V.int (7*sc),V.int 1,V.int (10^wB 29),V.int 0]) pm=some (.lst ([0,sc,0,2*sc,7*sc,1,10^wB 29,0].map V.int)):=qa1;generalize upd H2 pm (.lst [V.int 0,V.int sc,V.int 0,V.int (2*sc),V.int (7*sc),V.int 1,V.int (10^wB 29),V.int 0])=H3 at*;have m8:=uW r (show(8:Int)≠0 by decide);have m9:=uU r (show(0:Int)<8 by decide);refine jkp (xs:=[0,sc,0,2*sc,7*sc,1,10^wB 29,0]) (SqL.of eM) m8 m9 fun m hm=>?_;have mb:0<=m/\m<=10^29:=by
    have b:=sk.hi;simp only[zP,yO,or_false] at hm;have e29:(10:Int)^wB 29=10^29:=rfl;rw[e29] at hm;omega
   clear hm;have s23:=s2.trans s3;have hS3:=s3.seq hS2;have hW3:=s3.seq hW2;have hQ3:=s3.seq hQ2;have hq1'':=s3 _ _ hq1';have eP3:=s3 _ _ eP;have hRq:Rd H3 qs[i] (.dK kq):=.inl hq1'';left;refine qb5 hQ3 eix ?_;left;refine qb5 hW3 (jj5 hj' #[]) ?_;left;have gq:gN fq ws[j]=G i ws[j]:=hq4 _;have gB:=hB i ws[j] hiq;have tk:∀v,v∈ws.take (j+1)->v∈ws.take j\/v=ws[j]:=fun v hv=>by
    rw[yB,zA hj'] at hv;rcases zT.mp hv with h|h
    .exact .inl h
    .exact .inr (by simpa using h)
   have fin:∀many:Int,many=gN fq ws[j]+m->AD (qcs k' (vE ws[j]) (.int many)) (qda f ws[j] many)/\jbm ws (4*10^29) (qda f ws[j] many)/\(qcs k' (vE ws[j]) (.int many)).length<=j+1/\∀v,v∈ws.take (j+1)->G i v<=gN (qda f ws[j] many) v:=fun many em=>by
    have:=qbo k' (vE ws[j]) (.int many);refine⟨hA.put ws[j] many,hF.put (zJ hj') #[] #[],#[],fun v hv=>?_⟩;rw[jln];by_cases c:v=ws[j]
    .rw[iO c,c];omega
    .rw[iN c];rcases tk v hv with h|h
     .exact hg v h
     .exact absurd h c
   refine qc8 ?_;left;refine i_2 (fun c=>?_) (fun c=>?_)
   .left;refine qb5 hW3 (jj5 hj' #[]) ?_;left;obtain⟨f1,f2,f3,f4⟩:=fin _ rfl;exact⟨_,_,_,_,_,_,rfl,qax s23 hpn,qa1,f1,f2,f3,f4⟩
   .left;refine i_2 (fun c2=>?_) (fun c2=>?_)
    .left;refine qb5 hW3 (jj5 hj' #[]) ?_;left;obtain⟨f1,f2,f3,f4⟩:=fin _ rfl;exact⟨_,_,_,_,_,_,rfl,qax s23 hpn,qa1,f1,f2,f3,f4⟩
    .left;refine⟨_,_,_,_,_,_,rfl,s23,eP3,hA,hF,#[],fun v hv=>?_⟩;rcases tk v hv with h|h
     .exact hg v h
     .have:=hF.nn v;rw[h] at this⊢;omega
  .rintro σ H2 ⟨k',f,w3,w4,w5,w6,rfl,s2,eP,hA,hF,hk,hg⟩;have eL2:=s2 _ _ eL;left;refine⟨ts++[⟨p,k',f⟩],_,_,_,_,_,_,rfl,qax (sm.trans s2) hl0,by rw[qa1,zE];rfl,by rw[zH,hts];rfl,fun j t ht=>?_⟩;rw[List.take_of_length_le #[]] at hg;rcases vZ j ts.length with h|h
   .rw[zV h] at ht;obtain⟨z,zz⟩:=hp j t ht;refine⟨⟨z.fr,?_,z.ad,z.fn⟩,zz⟩;have n1:t.a≠l:=fun e=>by have:=z.loc;rw[e,eL] at this;cases this
    rw[qa9 n1];exact s2 _ _ z.loc
   .have e:j=i:=by
     have:=(uH.mp ht).1;rw[zH,yA] at this;omega
    subst e;rw[zX h,hts,bX] at ht;have:t=⟨p,k',f⟩:=by simpa using ht.symm
    subst this;exact⟨⟨hp0,by rw[qa9 nlp.symm];exact eP,hA,hF⟩,hg⟩
 .rintro σ H' ⟨ts,w1,w2,w3,w4,w5,w6,rfl,sm,eL,hts,hp⟩;left;exact q l ts H' sm hl0 eL #[] hp
def wd5(K:uY)(d:Ad):Sp:=fun vs H Q _=>∃(le:Addr)(es:List Nat)(k:Nat),vs=[.ref le,.int (k:Int)]/\H le=some (.lst (.non::es.map iV))/\Ac (elN es) (es.length+1)/\k<=es.length/\es.length<=45/\
 ∀l,H l=none->Q (.ref l) (upd H l (.lst ((qai (elN es) k).map iV)))
def jdf(lo:∀(k e:Nat),es[k]?=some e->e<=k)(n:Nat):Low (elN es) n:=fun k k0 kn=>by
 unfold elN
 cases e:es[k-1]? with
 |none=>exact k0
 |some a=>have:=lo _ _ e;show a<k;omega
theorem jef{b:Nat}(hb:b<es.length):elN es (b+1)=es[b]:=by unfold elN;rw[cS,zA hb];rfl
noncomputable def jup(es:List Nat)(σ:L2.St):Nat:=match σ[3]? with
 |some (some (V.int a))=>(qai (elN es) a.toNat).length
 |_=>0
include T in
theorem wcy:jab P w K mg base CX0 1 d.wbs d.w9s ["_law_elders_here","_law_k"] (wd5 K d):=by
 exists T.wcw.ok w85
 .right
 obtain⟨le,es,k,rfl,hE,ac,hk,h12,q⟩:=h;exists (qa3 (qag (i:=2) w85.nd rfl (uK rfl) (qam qa2))
  (qa3 (qag (i:=3) w85.nd rfl (uK rfl) (pv 1))
  (qa3 (qgx vJ (qal qec (pv 3) qcq (qar _)) (qa3 (qb3 (qdb vG vK vL qba (pv 2) #[pv 3]))
  (qa6 (qag (i:=3) w85.nd rfl (uK rfl) (qao qab (pv 0) (pv 3) nofun)))))
  (qa6 (qaj (pv 2)))))),[sr le,some (.int (k:Int)),none,none];generalize hki:((k:Nat):Int)=ki;left;rename_i l hl;refine qgi (fun σ H'=>∃(done:List Nat)(o:Option Nat),σ=[sr le,some (.int ki),sr l,some (oV o)]/\H'=upd H l (.lst (done.map iV))/\done++jrv (elN es) o=qai (elN es) k/\(∀a,o=some a->a<es.length+1)) (fun σ _=>jup es σ) ⟨[],some k,by rw[<-hki];rfl,rfl,rfl,fun a h=>by cases h;omega⟩ ?_ ?_
 .rintro σ H' ⟨done,o,rfl,rfl,hd,ha⟩;have hdl:done.length<=47:=by
   have h1:=congrArg xE hd;rw[zH] at h1;have h2:=ac.len (k:=k) #[];omega
  cases o with
  |none=>
   rw[show oV none=V.non from rfl];have hd':done=qai (elN es) k:=by rw[<-hd];exact(zW _).symm
   rw[hd'];left;exact q l hl
  |some a=>
   have hak:=ha a rfl;rw[show oV (some a)=V.int (a:Int) from rfl];have eE:=qa7 (o':=.lst (done.map iV)) hE hl;have eL:upd H l (.lst (done.map iV)) l=some (.lst (done.map iV)):=qa1;have hz:(done.map iV).length<sizeLine:=by rw[zB];show _<16777216;omega
   generalize hai:((a:Nat):Int)=ai;left;rw[qb4];have eIv:V.int ai=iV a:=by rw[<-hai];rfl
   have eE2:=qa7 (o':=.lst (done.map iV++[V.int ai])) hE hl;have fin:done.map iV++[V.int ai]=(done++[a]).map iV:=by rw[eIv,zE];rfl
   cases a with
   |zero=>
    refine qb5 (v:=.non) (SqL.of eE2) (by rw[<-hai];exact qau (j:=0) rfl) ?_;left;refine⟨⟨done++[0],none,rfl,by rw[fin],by rw[<-hd];show(done++[0])++[]=done++qai (elN es) 0;rw[zW,qcz],fun a h=>(by cases h)⟩,?_⟩;show 0 <(qai (elN es) ai.toNat).length;rw[<-hai,show(((0:Nat):Int)).toNat=0 from rfl,qcz];decide
   |succ b=>
    have hb:b<es.length:=by omega
    have eb:=jef hb;have lb:=ac.elt (k:=b+1) #[] hak;refine qb5 (v:=iV es[b]) (SqL.of eE2) (by rw[<-hai];exact qau (j:=b+1) (by rw[yX,zC,zA hb];rfl)) ?_;left;refine⟨⟨done++[b+1],some es[b],rfl,by rw[fin],?_,fun a h=>by cases h;rw[eb] at lb;exact lb⟩,?_⟩
    .rw[<-hd,bW];show done++([b+1]++qai (elN es) es[b])=done++qai (elN es) (b+1);rw[ac.up (k:=b+1) #[] hak,eb];rfl
    .show(qai (elN es) (((es[b]:Nat):Int)).toNat).length <(qai (elN es) ai.toNat).length;rw[<-hai,show(((es[b]:Nat):Int)).toNat=es[b] by omega,show((((b+1:Nat)):Int)).toNat=b+1 by omega,ac.up (k:=b+1) #[] hak,eb,zI];omega
 .rintro σ H1 Q1 Q2 h ⟨v,hv,w,k,hk,hq⟩;exact⟨v,hv,w,k,hk,h _ _ hq⟩
structure PL where
 lw:Addr
 ln:Addr
 le:Addr
 lp:Addr
 lc:Addr
 ws:List Str
 nm:List Str
 es:List Nat
 tp:List Pt
 tc:List Pt
structure PlF(P:PL):Prop where
 w1:1<=P.ws.length
 w3:P.ws.length<=3
 wg:∀z∈P.ws,qbc z=true
 wn:P.ws.Nodup
 nl:P.nm.length=P.es.length+1
 n12:P.nm.length<=40
 ng:∀z∈P.nm,qbc z=true
 nn:P.nm.Nodup
 lo:∀(k e:Nat),P.es[k]?=some e->e<=k
 l12:∀k,k<P.nm.length->(qai (elN P.es) k).length<=12
 pl:P.tp.length=P.nm.length
 cl:P.tc.length=P.nm.length
 pa:∀t∈P.tp,AD t.k t.f/\jbm P.ws (5*10^27) t.f
 ca:∀t∈P.tc,AD t.k t.f/\jbm P.ws (4*10^29) t.f
 le:∀(j:Nat)(t:Pt),P.tc[j]?=some t->∀v∈P.ws,(qcp P.tp.length fun k=>if j∈qai (elN P.es) k then ptN P.tp k v else 0)<=gN t.f v
structure Dst(p w n e q c:Addr):Prop where
 pw:w≠p
 pn:n≠p
 pe:e≠p
 pq:q≠p
 pc:c≠p
 wn:w≠n
 we:w≠e
 wq:w≠q
 wc:w≠c
 ne:e≠n
 nq:q≠n
 nc:c≠n
 eq:e≠q
 ec:e≠c
 qc:q≠c
structure jbl(H:Hp)(p:Addr)(P:PL):Prop where
 top:H p=some (.lst [.ref P.lw,.ref P.ln,.ref P.le,.ref P.lp,.ref P.lc])
 w:H P.lw=some (.lst (P.ws.map V.str))
 n:H P.ln=some (.lst (P.nm.map V.str))
 e:H P.le=some (.lst (.non::P.es.map iV))
 pr:H P.lp=some (.lst (P.tp.map fun t=> .ref t.a))
 cp:H P.lc=some (.lst (P.tc.map fun t=> .ref t.a))
 pd:∀t∈P.tp,H t.a=some (.dK t.k)
 cd:∀t∈P.tc,H t.a=some (.dK t.k)
def jbl.same{H H':Hp}{p:Addr}{P:PL}(h:jbl H p P)(s:qas H H'):jbl H' p P:=
 ⟨s _ _ h.top,s _ _ h.w,s _ _ h.n,s _ _ h.e,s _ _ h.pr,s _ _ h.cp,fun t m=>s _ _ (h.pd t m),fun t m=>s _ _ (h.cd t m)⟩
theorem jrw(lo:∀(k e:Nat),es[k]?=some e->e<=k)(h:∀(k e:Nat),es[k]?=some e->e<=10):∀k,k<es.length+1->(qai (elN es) k).length<=12:=by
 have low:=jdf lo (es.length+1);intro k kn;by_cases k0:k=0
 .rw[k0,qcz];decide
 .have lk:=low k #[] kn;rw[qh1 low #[] kn,zI];have hl:=jh3 low (elN es k) #[];have:elN es k<=10:=by
   obtain⟨b,rfl⟩:∃b,k=b+1:=⟨k-1,#[]⟩;have hb:b<es.length:=by omega
   rw[jef hb];exact h b _ (zA hb)
  omega
theorem jeg(c:Int){n:Nat}(hn:n<=26\/c%3=0/\n<=100):((uN n).map fun k:Nat=>nmS c (0+(k:Int))).Nodup:=by
 show List.Pairwise _ _;rw[cZ];refine List.Pairwise.imp_of_mem (R:=fun a b=>a<b) (fun {a b} ha hb lt e=>?_) List.pairwise_lt_range;have h1:=yM.mp ha;have h2:=yM.mp hb;have:=jia #[] #[] #[] e;omega
theorem jib{f:Nat->Int}{B:Int}:∀{n:Nat},(∀k,k<n->f k<=B)->qcp n f<=n*B
 |0,_=>by show(0:Int)<=((0:Nat):Int)*B;rw[Int.natCast_zero,Int.zero_mul];exact wU _
 |n+1,h=>by
  have h1:=jib (n:=n) fun k hk=>h k #[];have h2:=h n #[];show qcp n f+f n<=((n+1:Nat):Int)*B;rw[Int.natCast_add,Int.add_mul];have:((1:Nat):Int)*B=B:=by rw[Int.natCast_one,Int.one_mul]
  omega
theorem jbm.gb(h:jbm ws B f)(b0:0<=B)(v:Str):gN f v<=B:=by
 unfold gN
 cases e:f v with
 |none=>exact b0
 |some n=>exact(h v n e).2.2
theorem jlo(b0:0<=B)(h:∀t∈ts,jbm ws B t.f)(k:Nat)(v:Str):0<=ptN ts k v/\ptN ts k v<=B:=by
 unfold ptN
 cases e:ts[k]? with
 |none=>exact⟨wU _,b0⟩
 |some t=>exact⟨(h t (zD e)).nn v,(h t (zD e)).gb b0 v⟩
inductive jn5(K:uY)(d:Ad)(vs:List V)(H:Hp)(Q:VK)(E:XK):Prop
 |mk(a:Addr)(ns:List Int)(st:Int)(ct:Nat)(_:vs=[.ref a,.int st,.int ct])(_:SqL K H a (ns.map V.int))(_:0<=st)(_:ct<=39)(_:(ct<=24\/cell ns 2%3=0))(_:∀(p:Addr)(P:PL) H',qas H H'->PlF P->jbl H' p P->P.nm.length=ct+1->P.nm=((uN (ct+1)).map fun k:Nat=>nmS (cell ns 2) (0+(k:Int)))->Dst p P.lw P.ln P.le P.lp P.lc->nmS (cell ns 1) 9∉P.ws->Q (.ref p) H')
include T in
theorem w9t:jab P w K mg base CX0 3 d.wbk d.wa3 ["_law_script","_law_start","_law_count"] (jn5 K d):=by
 exists T.wao.ok w3c
 .right
 obtain⟨a,ns,st,ct,rfl,hS,h0,h11,h24,q⟩:=h;refine⟨_,(qa3 (qag (i:=3) w3c.nd rfl (Or.inr rfl) (qdg (caps:=[0]) (cn:=["_law_script"]) (qc6 rfl rfl (by rfl) (by rfl) rfl ⟨rfl,trivial⟩ (by rfl) rfl ⟨⟨rfl,rfl,rfl,rfl,_,rfl⟩,trivial⟩ ∅) rfl (qb9 rfl T.w13 #[qa5]) (fun _ _ _ _=>qd7) (fun _ _ _ _=>(qaf ((w0s T).mono ∅) hr rfl T.w19 T.w0x.kp T.w16 .nil qaz #[pv 1,pv 0]))))
  (qa3 (qel (j:=4) (caps:=[3]) (cn:=["_law_head"]) (qc6 rfl rfl (by rfl) (by rfl) rfl ⟨rfl,trivial⟩ (by rfl) rfl ⟨⟨rfl,rfl,rfl,rfl,_,rfl⟩,trivial⟩ ∅) rfl w3c.nd rfl rfl (qb9 rfl T.w13 #[qae qbp qa5 (qae qb1 (~~~3) qa5)]) (fun _ _ _ _=>qd7) (fun _ _ _ _=>(qaf ((w7l T).mono ∅) hr rfl T.was T.w8m.kp T.wai .nil qaz #[~~~1,pv 0])))
  (qa3 (qag (i:=5) w3c.nd rfl (uK rfl) (qao qab (qam #[qa5,qa5,qa5,qae qeb qa5 qa5]) (qae qb1 (qae qav (~~~3) qa5) qa5) nofun))
  (qa3 (qel (j:=6) (caps:=[0,1]) (cn:=["_law_script","_law_start"]) (qc6 rfl rfl (by rfl) (by rfl) rfl ⟨rfl,⟨rfl,trivial⟩⟩ (by rfl) rfl ⟨⟨rfl,rfl,rfl,rfl,_,rfl⟩,⟨⟨rfl,rfl,rfl,rfl,_,rfl⟩,trivial⟩⟩ ∅) rfl w3c.nd rfl rfl (qb9 rfl T.w13 #[pv 2]) (fun _ _ _ _=>qd7) (fun _ _ _ _=>(qaf ((w0s T).mono ∅) hr rfl T.w19 T.w0x.kp T.w16 .nil qaz #[pv 1,qae qbp (pv 2) (pv 0)])))
  (qa3 (qag (i:=7) w3c.nd rfl (uK rfl) (qaf ((wbh T).mono ∅) hr rfl T.wci T.wak.kp T.wch .nil qaz #[pv 6,qae qb1 (~~~3) qa5]))
  (qa3 (qag (i:=8) w3c.nd rfl (uK rfl) (qaf ((wab T).mono ∅) hr rfl T.wax T.w75.kp T.wb4 .nil qaz #[qae qed (qam #[~~~3]) (pv 6),pv 4,pv 5]))
  (qa3 (qag (i:=9) w3c.nd rfl (uK rfl) (qaf ((wd9 T).mono ∅) hr rfl T.wdy T.wcs.kp T.we1 .nil qaz #[qae qed (qam #[~~~3]) (pv 6),qaf ((waf T).mono ∅) hr rfl T.wbn T.waj.kp T.wb6 .nil qaz #[pv 7,pv 8],pv 4,pv 5]))
  (qa3 (qel (j:=10) (caps:=[3]) (cn:=["_law_head"]) (qc6 rfl rfl (by rfl) (by rfl) rfl ⟨rfl,trivial⟩ (by rfl) rfl ⟨⟨rfl,rfl,rfl,rfl,_,rfl⟩,trivial⟩ ∅) rfl w3c.nd rfl rfl (qb9 rfl T.w13 #[qae qbp (pv 2) qa5]) (fun _ _ _ _=>qd7) (fun _ _ _ _=>(qaf ((w7l T).mono ∅) hr rfl T.was T.w8m.kp T.wai .nil qaz #[~~~1,pv 0])))
  (qa6 (qaj (qam #[pv 4,pv 10,pv 7,pv 8,pv 9]))))))))))),?_⟩
 walk_at"d"
 try dsimp only[cxC]
 refine qak (σ:=[sr a,some (.int st),some (.int ct),none,none,none,none,none,none,none,none]) rfl ?_;generalize hci:((ct:Nat):Int)=ci;left;intro C s0 H0 fp lh hlh;refine jdy 4 (fun i H'=>H'=upd H lh (.lst (((uN i).map fun k:Nat=>cell ns (0+(k:Int))).map V.int))) rfl (fun i H' hi _=>hi) (fun H' _=>uG _) ?_ ?_
 .rintro i H' v H'' hi rfl ⟨rfl,rfl⟩;have hS':=qe0 (o:=.lst (((uN i).map fun k:Nat=>cell ns (0+(k:Int))).map V.int)) hS hlh;left;refine⟨a,ns,_,rfl,hS',#[],?_⟩;refine⟨_,qa1,by rw[zB,zB,yD];show _<16777216;omega,?_⟩;rw[qb4,yP,zE,zE];rfl
 rintro H' rfl;have eH:upd H lh (.lst (((uN 4).map fun k:Nat=>cell ns (0+(k:Int))).map V.int)) lh=some (.lst [.int (cell ns (0+((0:Nat):Int))),.int (cell ns (0+((1:Nat):Int))),.int (cell ns (0+((2:Nat):Int))),.int (cell ns (0+((3:Nat):Int)))]):=qa1;have s1:=qa4 hlh (.lst (((uN 4).map fun k:Nat=>cell ns (0+(k:Int))).map V.int));generalize upd H lh (.lst (((uN 4).map fun k:Nat=>cell ns (0+(k:Int))).map V.int))=H1 at*;generalize cell ns (0+((0:Nat):Int))=c0 at*;rw[show(0:Int)+((2:Nat):Int)=2 from rfl,show(0:Int)+((1:Nat):Int)=1 from rfl] at eH;generalize hc1:cell ns 1=c1 at*;generalize hc2:cell ns 2=c2 at*;generalize cell ns (0+((3:Nat):Int))=c3 at*;have k0:=uW c0 (show(3:Int)≠0 by decide);have k1:=uU c0 (show(0:Int)<3 by decide);left;intro C2 s2' H02 fp2 lw hlw;generalize hnw:(1+c0%3).toNat=nw;have nw1:1<=nw/\nw<=3:=by omega
 refine jdy nw (fun i H'=>H'=upd H1 lw (.lst (((uN i).map fun k:Nat=>nmS c1 (0+(k:Int))).map V.str))) rfl (fun i H' hi _=>hi) (fun H' _=>uG _) ?_ ?_
 .rintro i H' v H'' hi rfl ⟨rfl,rfl⟩;have eH':=qa7 (o':=.lst (((uN i).map fun k:Nat=>nmS c1 (0+(k:Int))).map V.str)) eH hlw;left;refine⟨_,_,rfl,#[],#[],?_⟩;refine⟨_,qa1,by rw[zB,zB,yD];show _<16777216;omega,?_⟩;rw[qb4,yP,zE,zE];rfl
 rintro H' rfl;have hwl:((uN nw).map fun k:Nat=>nmS c1 (0+(k:Int))).length=nw:=by rw[zB,yD]
 have hwg:∀z∈(uN nw).map fun k:Nat=>nmS c1 (0+(k:Int)),qbc z=true:=fun z hz=>by
  obtain⟨k,_,rfl⟩:=zM.mp hz;exact qf6 _ _
 have hwn:=jeg c1 (n:=nw) #[];have hw9:nmS c1 9∉(uN nw).map fun k:Nat=>nmS c1 (0+(k:Int)):=fun hz=>by
  obtain⟨k,hk,e⟩:=zM.mp hz;have:=yM.mp hk;have:=jia #[] #[] #[] e;omega
 generalize ((uN nw).map fun k:Nat=>nmS c1 (0+(k:Int)))=ws at*;have s2:=qa4 hlw (.lst (ws.map V.str));have eW:upd H1 lw (.lst (ws.map V.str)) lw=some (.lst (ws.map V.str)):=qa1;generalize upd H1 lw (.lst (ws.map V.str))=H2 at*;have eH2:=s2 _ _ eH;left;rename_i pm hpm;have s3:=qa4 hpm (.lst [V.int 1,V.int 1,V.int 7000000001,V.int (10^wB 27)]);have m0:=uW (c0.fdiv 3) (show(4:Int)≠0 by decide);have m1:=uU (c0.fdiv 3) (show(0:Int)<4 by decide);refine jkp (xs:=[1,1,7000000001,10^wB 27]) (SqL.of qa1) m0 m1 fun sc hsc=>?_;have sk:jun sc:=by
  simp only[zP,yO,or_false] at hsc;have e27:(10:Int)^wB 27=10^27:=rfl;rw[e27] at hsc;exact⟨#[],#[]⟩
 clear hsc;generalize upd H2 pm (.lst [V.int 1,V.int 1,V.int 7000000001,V.int (10^wB 27)])=H3 at*;have s13:=(s1.trans s2).trans s3;have eH3:=s3 _ _ eH2;have eW3:=s3 _ _ eW;left;intro C3 s3' H03 fp3 lc hlc;have ect:ci.toNat=ct:=by omega
 refine jdy ci.toNat (fun i H'=>∃cs:List Int,H'=upd H3 lc (.lst (cs.map V.int))/\cs.length=i) ⟨[],rfl,rfl⟩ (fun i H' hi _=>hi) (fun H' _=>uG _) ?_ ?_
 .rintro i H' v H'' hi ⟨cs,rfl,hc⟩ ⟨rfl,rfl⟩;have hS':=qe0 (o:=.lst (cs.map V.int)) (s13.seq hS) hlc;left;refine⟨a,ns,_,rfl,hS',#[],?_⟩;refine⟨_,qa1,by rw[zB];show _<16777216;omega,?_⟩;exact⟨cs++[_],by rw[qb4,zE];rfl,by rw[zH,hc];rfl⟩
 rintro H' ⟨cs,rfl,hc⟩;have s4:=qa4 hlc (.lst (cs.map V.int));have eC:upd H3 lc (.lst (cs.map V.int)) lc=some (.lst (cs.map V.int)):=qa1;generalize upd H3 lc (.lst (cs.map V.int))=H4 at*;have eH4:=s4 _ _ eH3;have eW4:=s4 _ _ eW3;left;refine⟨lc,cs,_,rfl,SqL.of eC,#[],fun le es hle hel hlt=>?_⟩;have hlo:∀(k e:Nat),es[k]?=some e->e<=k:=fun k e h=>(hlt k e h).1;have s5:=qa4 hle (.lst (.non::es.map iV));have eE:upd H4 le (.lst (.non::es.map iV)) le=some (.lst (.non::es.map iV)):=qa1;generalize upd H4 le (.lst (.non::es.map iV))=H5 at*;have eH5:=s5 _ _ eH4;have eW5:=s5 _ _ eW4;have eC5:=s5 _ _ eC;left;rename_i p1 hp1;have hcl:(cs.map V.int).length=cs.length:=zB _;refine qgt qa1 (qa7 eC5 hp1) (by rw[hcl];show 1+_<=16777216;omega) fun p2 hp2=>?_;have s6:=(qa4 hp1 (.lst [V.int c3])).trans (qa4 hp2 (.lst ([V.int c3]++cs.map V.int)));have e6:upd (upd H5 p1 (.lst [V.int c3])) p2 (.lst ([V.int c3]++cs.map V.int)) p2=some (.lst ((c3::cs).map V.int)):=qa1;generalize upd (upd H5 p1 (.lst [V.int c3])) p2 (.lst ([V.int c3]++cs.map V.int))=H6 at*;left;refine⟨p2,lw,c3::cs,ws,sc,rfl,SqL.of e6,by rw[zI];omega,SqL.of (s6 _ _ eW5),#[],sk,fun lp tp H7 s7 hlp elp htl htp=>?_⟩;rw[zI] at htl;have s57:=s6.trans s7;have eH7:=s57 _ _ eH5;have eC7:=s57 _ _ eC5;have eW7:=s57 _ _ eW5;have eE7:=s57 _ _ eE;left;rename_i p3 hp3;refine qgt qa1 (qa7 eC7 hp3) (by rw[hcl];show 1+_<=16777216;omega) fun p4 hp4=>?_;have s8:=(qa4 hp3 (.lst [V.int c3])).trans (qa4 hp4 (.lst ([V.int c3]++cs.map V.int)));have e8:upd (upd H7 p3 (.lst [V.int c3])) p4 (.lst ([V.int c3]++cs.map V.int)) p4=some (.lst ((c3::cs).map V.int)):=qa1;generalize upd (upd H7 p3 (.lst [V.int c3])) p4 (.lst ([V.int c3]++cs.map V.int))=H8 at*;left;have tpf:∀t∈tp,jbm ws (5*10^27) t.f:=fun t m=>(htp t m).fn;refine⟨le,lp,es,tp,ws,rfl,s8 _ _ eE7,SqL.of (s8 _ _ elp),#[],#[],#[],(jdf hlo _).ac,fun t m=>⟨s8 _ _ (htp t m).loc,(htp t m).ad,fun z hz=>?_⟩,fun ls qs H9 s9 hls els hql hqf hG=>?_⟩
 .cases e:t.f z with
  |none=>exact absurd e hz
  |some n=>exact(tpf t m z n e).1
 have s89:=s8.trans s9;left;refine⟨p4,ls,lw,c3::cs,qs,ws,sc,_,rfl,SqL.of (s9 _ _ e8),by rw[zI];omega,SqL.of els,by rw[zI];omega,SqL.of (s89 _ _ eW7),#[],sk,hG,fun j v hj=>⟨?_,?_⟩,fun lcp tc H10 s10 hlcp elcp htcl htc=>?_⟩
 .refine jh5 fun k hk=>?_
  split
  .exact(jlo ∅ tpf k v).1
  .exact wU _
 .have z:=jib (n:=tp.length) (f:=fun k=>if j∈qai (elN es) k then ptN tp k v else 0) (B:=5*10^27) fun k hk=>by
   show(if j∈qai (elN es) k then ptN tp k v else 0)<=_
   split
   .exact(jlo ∅ tpf k v).2
   .decide
  have z2:(tp.length:Int)*(5*10^27)<=41*(5*10^27):=Int.mul_le_mul_of_nonneg_right #[] ∅;omega
 rw[zI] at htcl;have s710:=s89.trans s10;have eH10:=s710 _ _ eH7;left;intro C4 s4' H04 fp4 ln hln;generalize hnn:(ci+1).toNat=nn;have nn1:nn=ct+1:=by omega
 refine jdy nn (fun i H'=>H'=upd H10 ln (.lst (((uN i).map fun k:Nat=>nmS c2 (0+(k:Int))).map V.str))) rfl (fun i H' hi _=>hi) (fun H' _=>uG _) ?_ ?_
 .rintro i H' v H'' hi rfl ⟨rfl,rfl⟩;have eH':=qa7 (o':=.lst (((uN i).map fun k:Nat=>nmS c2 (0+(k:Int))).map V.str)) eH10 hln;left;refine⟨_,_,rfl,#[],#[],?_⟩;refine⟨_,qa1,by rw[zB,zB,yD];show _<16777216;omega,?_⟩;rw[qb4,yP,zE,zE];rfl
 rintro H' rfl;have hnl:((uN nn).map fun k:Nat=>nmS c2 (0+(k:Int))).length=nn:=by rw[zB,yD]
 have hng:∀z∈(uN nn).map fun k:Nat=>nmS c2 (0+(k:Int)),qbc z=true:=fun z hz=>by
  obtain⟨k,_,rfl⟩:=zM.mp hz;exact qf6 _ _
 have hnd:=jeg c2 (n:=nn) #[];have hnmE:((uN nn).map fun k:Nat=>nmS c2 (0+(k:Int)))=(uN (ct+1)).map fun k:Nat=>nmS c2 (0+(k:Int)):=by rw[nn1]
 generalize hnmG:((uN nn).map fun k:Nat=>nmS c2 (0+(k:Int)))=nm at*;have s11:=qa4 hln (.lst (nm.map V.str));have eN:upd H10 ln (.lst (nm.map V.str)) ln=some (.lst (nm.map V.str)):=qa1;generalize upd H10 ln (.lst (nm.map V.str))=H11 at*;left;rename_i pl hpl;have s12:=qa4 hpl (.lst [V.ref lw,V.ref ln,V.ref le,V.ref lp,V.ref lcp]);have s1012:=s11.trans s12;have s712:=s710.trans s1012;have sAll:qas H _:=((((s13.trans s4).trans s5).trans s57).trans s712);have a1:1<=ws.length:=by omega
 have a2:ws.length<=3:=by omega
 have a3:nm.length=es.length+1:=by omega
 have a4:nm.length<=40:=by omega
 have a5:tp.length=nm.length:=by omega
 have a6:tc.length=nm.length:=by omega
 have a7:nm.length=ct+1:=by omega
 have s711:=s710.trans s11;have dst:Dst pl lw ln le lp lcp:=⟨qa8 (s711 _ _ eW7) hpl,qa8 eN hpl,qa8 (s711 _ _ eE7) hpl,qa8 (s711 _ _ elp) hpl,qa8 (s11 _ _ elcp) hpl,
  qa8 (s710 _ _ eW7) hln,qa8 eW4 hle,qa8 (s6 _ _ eW5) hlp,qa8 (s89 _ _ eW7) hlcp,
  qa8 (s710 _ _ eE7) hln,qa8 (s710 _ _ elp) hln,qa8 elcp hln,qa8 (s6 _ _ eE) hlp,qa8 (s89 _ _ eE7) hlcp,qa8 (s89 _ _ elp) hlcp⟩
 refine q pl ⟨lw,ln,le,lp,lcp,ws,nm,es,tp,tc⟩ _ sAll ⟨a1,a2,hwg,hwn,a3,a4,hng,hnd,hlo,(by rw[a3];exact jrw hlo fun k e h=>(hlt k e h).2),a5,a6,fun t m=>⟨(htp t m).ad,(htp t m).fn⟩,fun t m=>?_,fun j t ht=>(htc j t ht).2⟩
  ⟨qa1,s712 _ _ eW7,s12 _ _ eN,s712 _ _ eE7,s712 _ _ elp,s1012 _ _ elcp,fun t m=>s712 _ _ (htp t m).loc,fun t m=>?_⟩ a7 hnmE dst hw9
 .obtain⟨j,hj,e⟩:=zR.mp m;have:=(htc j t (by rw[zA hj,e])).1;exact⟨this.ad,this.fn⟩
 .obtain⟨j,hj,e⟩:=zR.mp m;exact s1012 _ _ (htc j t (by rw[zA hj,e])).1.loc
def jbm.fin(h:jbm ws B f)(hB:B<=10^30):Fin ws f:=fun z n e=>by
 obtain⟨a,b,c⟩:=h z n e;exact⟨a,b,#[]⟩
def qd4{ws':List Str}(h:Fin ws f)(p:ws'.Perm ws):Fin ws' f:=fun z n e=>by
 obtain⟨a,b,c⟩:=h z n e;exact⟨p.mem_iff.mpr a,b,c⟩
noncomputable def nmF(P:PL)(k:Nat):Str:=(P.nm[k]?).getD (ofL [])
noncomputable def tfF(ts:List Pt)(k:Nat):Str->Option Int:=match ts[k]? with
 |some t=>t.f
 |none=>noF
theorem jlp(ts:List Pt)(k:Nat)(v:Str):ptN ts k v=gN (tfF ts k) v:=by
 unfold ptN tfF
 cases ts[k]?<;>rfl
structure je4(S:Ts)(P:PL)(n:Nat)(wt:Nat->Int):Prop where
 pl:Pl S (nmF P) (elN P.es) n
 wp:S.ws.Perm P.ws
 ws:xF S.ws=true
 da:∀(k:Nat)(e:He),S.hl[k]?=some e->(∀v,e.x.fp v=qbm (tfF P.tp k) v)/\(∀v,e.x.fc v=qbm (tfF P.tc k) v)/\e.x.w=wt k
theorem qbv{P:PL}{k:Nat}(h:k<P.nm.length):nmF P k=P.nm[k]:=by unfold nmF;rw[zA h];rfl
def jic{P:PL}(f:PlF P){n:Nat}(hn:n<=P.nm.length):∀i j,i<n->j<n->nmF P i=nmF P j->i=j:=fun i j hi hj e=>by
 rw[qbv #[],qbv #[]] at e;rcases bY i j with h|h|h
 .exact absurd e ((zQ.mp f.nn) i j #[] #[] h)
 .exact h
 .exact absurd e.symm ((zQ.mp f.nn) j i #[] #[] h)
def PlF.low{P:PL}(f:PlF P)(n:Nat):Low (elN P.es) n:=jdf f.lo n
theorem qfa{P:PL}(f:PlF P){k:Nat}(hk:k<P.nm.length):∃t,P.tp[k]?=some t/\t∈P.tp/\tfF P.tp k=t.f/\AD t.k t.f/\Fin P.ws t.f:=by
 have h:k<P.tp.length:=by rw[f.pl];exact hk
 have e:=zA h;refine⟨_,e,zJ h,by unfold tfF;rw[e],(f.pa _ (zJ h)).1,(f.pa _ (zJ h)).2.fin ∅⟩
theorem jeh{P:PL}(f:PlF P){k:Nat}(hk:k<P.nm.length):∃t,P.tc[k]?=some t/\t∈P.tc/\tfF P.tc k=t.f/\AD t.k t.f/\Fin P.ws t.f:=by
 have h:k<P.tc.length:=by rw[f.cl];exact hk
 have e:=zA h;refine⟨_,e,zJ h,by unfold tfF;rw[e],(f.ca _ (zJ h)).1,(f.ca _ (zJ h)).2.fin ∅⟩
theorem jei(h:Fin ws f)(v:Str):0<=gN f v:=by
 unfold gN
 cases e:f v with
 |none=>exact wU _
 |some n=>exact(h v n e).2.1
theorem jdg(h:Fin ws f){v:Str}(hv:v∉ws):gN f v=0:=by
 unfold gN
 cases e:f v with
 |none=>rfl
 |some n=>exact absurd (h v n e).1 hv
theorem jn6{P:PL}(f:PlF P){k:Nat}(hk:k<P.nm.length)(v:Str):0<=gN (tfF P.tp k) v:=by
 obtain⟨t,_,_,e,_,h⟩:=qfa f hk;rw[e];exact jei h v
theorem jlq{P:PL}(f:PlF P){j:Nat}(hj:j<P.nm.length)(v:Str):(qcp P.nm.length fun k=>if j∈qai (elN P.es) k then gN (tfF P.tp k) v else 0)<=gN (tfF P.tc j) v:=by
 obtain⟨t,e1,e2,e3,e4,e5⟩:=jeh f hj;rw[e3];by_cases hv:v∈P.ws
 .have z:=f.le j t e1 v hv;rw[f.pl] at z;have:(fun k=>if j∈qai (elN P.es) k then ptN P.tp k v else 0)=fun k=>if j∈qai (elN P.es) k then gN (tfF P.tp k) v else 0:=funext fun k=>by rw[jlp]
  rw[this] at z;exact z
 .have z:(qcp P.nm.length fun k=>if j∈qai (elN P.es) k then gN (tfF P.tp k) v else 0)<=qcp P.nm.length fun _=>0:=jh4 fun k hk=>by
   split
   .obtain⟨t',_,_,q,_,h⟩:=qfa f hk;rw[q,jdg h hv];exact wU _
   .exact wU _
  have z0:∀n,(qcp n fun _=>0)=0:=fun n=>by
   induction n with
   |zero=>rfl
   |succ n ih=>show qcp n _+0=0;rw[ih];rfl
  rw[z0] at z;have:=jei e5 v;omega
theorem jlr{P:PL}(f:PlF P){k:Nat}(hk:k<P.nm.length)(v:Str):gN (tfF P.tp k) v<=gN (tfF P.tc k) v:=by
 have z:=jlq f hk v;have h:gN (tfF P.tp k) v<=qcp P.nm.length fun i=>if k∈qai (elN P.es) i then gN (tfF P.tp i) v else 0:=by
  have h1:jh7 (fun i=>if k∈qai (elN P.es) i then gN (tfF P.tp i) v else 0) [k]<=qcp P.nm.length fun i=>if k∈qai (elN P.es) i then gN (tfF P.tp i) v else 0:=
   qgl (zU.mpr ⟨by simp,yH⟩) (fun i hi=>by have:i=k:=(by simpa using hi);omega) fun i hi=>by
    split
    .exact jn6 f hi v
    .exact wU _
  have h2:jh7 (fun i=>if k∈qai (elN P.es) i then gN (tfF P.tp i) v else 0) [k]=gN (tfF P.tp k) v:=by
   show(if k∈qai (elN P.es) k then gN (tfF P.tp k) v else 0)+0=_;rw[iO (je3 (f.low P.nm.length) hk),Int.add_zero]
  omega
 omega
theorem je4.ask{S:Ts}{P:PL}{k:Nat}{wt:Nat->Int}(h:je4 S P k wt)(f:PlF P)(k0:0<k)(kn:k<P.nm.length):∃e,S.at (nmF P (elN P.es k))=some e/\e.n=nmF P (elN P.es k)/\WF S/\qfu S/\S.ws.length<=50/\S.hl.length<40/\S.at (nmF P k)=none/\
  ∃zs,jal S e.n zs/\zs.length<12/\∀y∈zs,∃e',S.at y=some e'/\Dep S 12 y/\∀bs,Ben S 12 y bs->∀v n,qdx (qei (bs.map (qdv S))) (qbm (tfF P.tp k)) v=some n->n<=gN e'.x.fc v:=by
 have low:=f.low P.nm.length;have lk:=low k k0 kn;have n12:=f.n12;obtain⟨e,h1,h2,h3⟩:=h.pl.at lk;have en:e.n=nmF P (elN P.es k):=(qbw h1).2;refine⟨e,h1,en,h.pl.wf,⟨by have:=h.wp.length_eq;have:=f.w3;omega,fun e' he z hz=>?_⟩,by have:=h.wp.length_eq;have:=f.w3;omega,by rw[h.pl.len];omega,?_,(qai (elN P.es) (elN P.es k)).map (nmF P),by rw[en];exact h.pl.line _ lk,?_,fun y hy=>?_⟩
 .obtain⟨i,hi,q,_⟩:=h.pl.ix he;obtain⟨t,_,_,q2,_,q3⟩:=qfa f (k:=i) #[];rw[(h.da i e' q).1,q2] at hz;exact h.wp.mem_iff.mpr (qex q3 z hz)
 .cases c:S.at (nmF P k) with
  |none=>rfl
  |some e'=>
   obtain⟨i,hi,_,q,_⟩:=h.pl.ix (qbw c).1;have:=jic f (n:=P.nm.length) (uG _) i k #[] kn (by rw[<-q,(qbw c).2]);omega
 .rw[zB];have hl:=f.l12 k kn;rw[qh1 low k0 kn,zI] at hl;omega
 .obtain⟨j,hj,rfl⟩:=zM.mp hy;have jl:=jeb low (elN P.es k) #[] j hj;have jk:j<k:=by omega
  obtain⟨e',q1,q2,_⟩:=h.pl.at jk;refine⟨e',q1,h.pl.depL (fun i hi=>f.l12 i #[]) 12 j jk #[],fun bs hb v n hn=>?_⟩;have hs:=h.pl.sums (v:=v) (pr:=fun i=>gN (tfF P.tp i) v) (fun i e2 he2=>?_) (fun i hi=>jn6 f #[] v) jk hb
  .have g1:n=gN (qdx (qei (bs.map (qdv S))) (qbm (tfF P.tp k))) v:=by unfold gN;rw[hn];rfl
   obtain⟨t,_,_,t3,_,t5⟩:=qfa f kn;rw[qgb,t3,qc5 t5,<-t3] at g1;obtain⟨u,_,_,u3,_,u5⟩:=jeh f (k:=j) #[];have fc:e'.x.fc=qbm u.f:=by rw[<-u3];exact funext (h.da j e' q2).2.1
   rw[fc,qc5 u5,<-u3];have cg:=jlq f (j:=j) #[] v;have mono:=jh6 (f:=fun i=>if j∈qai (elN P.es) i then gN (tfF P.tp i) v else 0) (n:=k+1) (m:=P.nm.length) #[] fun i hi=>by
    try dsimp only
    split
    .exact jn6 f hi v
    .exact wU _
   have top:(qcp (k+1) fun i=>if j∈qai (elN P.es) i then gN (tfF P.tp i) v else 0)=(qcp k fun i=>if j∈qai (elN P.es) i then gN (tfF P.tp i) v else 0)+gN (tfF P.tp k) v:=by
    show qcp k _+(if j∈qai (elN P.es) k then gN (tfF P.tp k) v else 0)=_;rw[iO];rw[qh1 low k0 kn];exact zF _ hj
   omega
  .obtain⟨t,_,_,t3,_,t5⟩:=qfa f (k:=i) (by have:=(uH.mp he2).1;rw[h.pl.len] at this;omega);rw[show e2.x.fp=qbm (tfF P.tp i) from funext (h.da i e2 he2).1,t3];exact qc5 t5 v
theorem je4.next{S:Ts}{P:PL}{k:Nat}{wt:Nat->Int}(h:je4 S P k wt)(f:PlF P)(k0:0<k)(kn:k<P.nm.length){e2:He}{w:Int}(en:e2.n=nmF P k)(el:e2.x.el=some (nmF P (elN P.es k)))(ew:e2.x.w=w)(ep:∀v,e2.x.fp v=qbm (tfF P.tp k) v)(ec:∀v,e2.x.fc v=qbm (tfF P.tc k) v):
  je4 {S with hl:=S.hl++[e2]} P (k+1) (fun i=>if i=k then w else wt i):=by
 have hl:=h.pl.len;have split:∀(i:Nat)(e:He),(S.hl++[e2])[i]?=some e->(i<k/\S.hl[i]?=some e)\/(i=k/\e=e2):=fun i e he=>by
  rcases vZ i S.hl.length with c|c
  .rw[zV c] at he;exact .inl ⟨#[],he⟩
  .have:=(uH.mp he).1;rw[zH,yA] at this;have ei:i=S.hl.length:=by omega
   rw[zX c,ei,bX] at he;exact .inr ⟨#[],by simpa using he.symm⟩
 refine⟨⟨by show(S.hl++[e2]).length=_;rw[zH,hl];rfl,fun i e he=>?_,jic f #[],(f.low (k+1)).ac⟩,h.wp,h.ws,fun i e he=>?_⟩
 .rcases split i e he with⟨a,b⟩|⟨rfl,rfl⟩
  .exact h.pl.nam i e b
  .exact⟨en,by rw[iN #[]];exact el⟩
 .rcases split i e he with⟨a,b⟩|⟨rfl,rfl⟩
  .obtain⟨x,y,z⟩:=h.da i e b;exact⟨x,y,by rw[iN #[]];exact z⟩
  .exact⟨ep,ec,by rw[iO rfl];exact ew⟩
structure jw9(S:Ts)(t q:Addr):Prop where
 t:t≠q
 sw:S.sw≠q
 hs:S.hs≠q
 ho:∀e∈S.hl,e.a≠q/\e.x.pa≠q/\e.x.ca≠q
def jn7{ss ss':List Str}(h:ss.Perm ss')(a:xF ss=true)(b:xF ss'=true):ss=ss':=
 List.Perm.eq_of_pairwise (le:=leS) (fun x y _ _ h1 h2=>qh3 h1 h2) (qdd a) (qdd b) h
theorem jrx{P:PL}(f:PlF P)(hl:S.hl=[e])(en:e.n=nmF P 0)(el:e.x.el=none):Pl S (nmF P) (elN P.es) 1:=by
 refine⟨by rw[hl];rfl,fun k e' he=>?_,fun i j hi hj _=>by omega,(show Low (elN P.es) 1 from fun k k0 k1=>by omega).ac⟩;rw[hl] at he;have hk:=(uH.mp he).1;have e0:k=0:=by rw[yA] at hk;omega
 subst e0;have:e'=e:=by simpa using he.symm
 subst this;exact⟨en,el⟩
def je4.cast{P:PL}{wt wt':Nat->Int}(h:je4 S P n wt)(e:∀j,j<n->wt j=wt' j):je4 S P n wt':=⟨h.pl,h.wp,h.ws,fun k x hx=>by
 have hk:=(uH.mp hx).1;rw[h.pl.len] at hk;obtain⟨a,b,c⟩:=h.da k x hx;exact⟨a,b,c.trans (e k hk)⟩⟩
def wdk(K:uY)(d:Ad):Sp:=fun vs H Q _=>∃(p:Addr)(P:PL),vs=[.ref p]/\PlF P/\jbl H p P/\∀(t:Addr)(S:Ts) H',qas H H'->H t=none->H S.hs=none->H S.sw=none->qdy d H' t S->je4 S P P.nm.length (fun _=>1)->(S.hl.map (·.a)).Nodup->Q (.ref t) H'
include T in
theorem wcx:jab P w K mg base CX0 20 d.wbq d.wa8 ["_law_plan_here"] (wdk K d):=by
 exists T.wcv.ok w3w
 .right
 obtain⟨p,P,rfl,pf,pa,q⟩:=h;have n12:=pf.n12;have nl:=pf.nl;have gt:jn0 P.ws:=⟨pf.w1,by have:=pf.w3;omega,pf.wg,pf.wn⟩;exists (qa3 (qg2 (pv 0) (qg3 rfl (qap (qah (i:=1) w3w.nd rfl (uK rfl)) (qap (qah (i:=2) w3w.nd rfl (uK rfl)) (qap (qah (i:=3) w3w.nd rfl (uK rfl)) (qap (qah (i:=4) w3w.nd rfl (uK rfl)) (qap (qah (i:=5) w3w.nd rfl (uK rfl)) qdf)))))))
  (qa3 (qag (i:=6) w3w.nd rfl (uK rfl) (jjq (W:=fun _ _ _ _=>False) T.w6i ((w8g T).mono ∅) hr rfl T.we3 T.w8v T.w91 jb8 #[qbu jey rfl T.wbb eA #[pv 1],~~~2,qbu qch rfl T.w5d wC #[~~~4],qbu qch rfl T.w5d wC #[~~~5]]))
  (qa3 (qbl vJ rfl (jbq rfl T.w13 #[qa5,qac qaw rfl T.w1l vH #[pv 2]]) (qah (i:=7) w3w.nd rfl (uK rfl)) (qa6 (qb3 (qbi (W:=fun _ _ _ _=>False) (pv 6) T.w0b T.w1a ((w5a T).mono ∅) hr T.w86 T.w7j jb8 #[qao qab (pv 2) (pv 7) nofun,qao qab (pv 2) (qao qab (pv 3) (pv 7) nofun) nofun,qbu qch rfl T.w5d wC #[qao qab (pv 4) (pv 7) nofun],qbu qch rfl T.w5d wC #[qao qab (pv 5) (pv 7) nofun]]))))
  (qa6 (qaj (pv 6)))))),[sr p,none,none,none,none,none,none,none];have ct:=T.w0b;have etop:=pa.top;have ew:=pa.w;have hz0:P.nm[0]?=some (nmF P 0):=by rw[qbv #[]];exact zA #[]
 have gz:qbc (nmF P 0)=true:=pf.ng _ (zD hz0);have xn0:atI (P.nm.map V.str) 0=some (.str (nmF P 0)):=qau (j:=0) (by rw[zC,hz0];rfl);obtain⟨tp,tp1,tp2,tp3,tp4,tp5⟩:=qfa pf (k:=0) #[];obtain⟨tc,tc1,tc2,tc3,tc4,tc5⟩:=jeh pf (k:=0) #[];have xp:atI (P.tp.map fun t=>V.ref t.a) 0=some (.ref tp.a):=qau (j:=0) (by rw[zC,tp1];rfl);have xc:atI (P.tc.map fun t=>V.ref t.a) 0=some (.ref tc.a):=qau (j:=0) (by rw[zC,tc1];rfl);have lp1:tp.k.length<=1000:=by have:=tp4.le (fun z hz=>by cases e:tp.f z with|none=>exact absurd e hz|some n=>exact(tp5 z n e).1);have:=pf.w3;omega
 have lc1:tc.k.length<=1000:=by have:=tc4.le (fun z hz=>by cases e:tc.f z with|none=>exact absurd e hz|some n=>exact(tc5 z n e).1);have:=pf.w3;omega
 have ole:=jlr pf (k:=0) #[];left;refine jm6 (SqL.of ew) fun h0 hh0=>?_;have s1:=qa4 hh0 (.lst (P.ws.map V.str));have e0:upd H h0 (.lst (P.ws.map V.str)) h0=some (.lst (P.ws.map V.str)):=qa1;generalize upd H h0 (.lst (P.ws.map V.str))=H1 at*;have pa1:=pa.same s1;have en1:=pa1.n;have ep1:=pa1.pr;left;refine qb5 (SqL.of en1) xn0 ?_;left;refine qb5 (SqL.of ep1) xp ?_;have hRp:Rd H1 tp.a (.dK tp.k):=.inl (pa1.pd tp tp2);left;rename_i h1 hh1;have s2:=qa4 hh1 (.dK tp.k);have e1:upd H1 h1 (.dK tp.k) h1=some (.dK tp.k):=qa1;generalize upd H1 h1 (.dK tp.k)=H2 at*;have pa2:=pa1.same s2;have ec2:=pa2.cp;refine qb5 (SqL.of ec2) xc ?_;have hRc:Rd H2 tc.a (.dK tc.k):=.inl (pa2.cd tc tc2);left;rename_i h2 hh2;have s3:=qa4 hh2 (.dK tc.k);have e2:upd H2 h2 (.dK tc.k) h2=some (.dK tc.k):=qa1;generalize upd H2 h2 (.dK tc.k)=H3 at*;have s03:=(s1.trans s2).trans s3;intro x dx hx hdx ne;have sN:∀b u,H3 b=some u->upd (upd H3 dx (.own x)) x (.ins d.w07 dx []) b=some u:=fun b u e=>by rw[qa9 (qa8 e hx),qa9 (qa8 e hdx)];exact e
 refine⟨x,dx,h0,h1,h2,nmF P 0,P.ws,tp.k,tc.k,tp.f,tc.f,1,rfl,qa1,sN _ _ ((s2.trans s3) _ _ e0),gt,gz,sN _ _ (s3 _ _ e1),tp4,lp1,sN _ _ e2,tc4,lc1,tp5,tc5,∅,∅,fun y=>by rw[<-tp3,<-tc3];exact ole y,fun S e H4 sb hT hs' f1 f2 f3 f4 hl en' ee ew' efp efc hpm hso=>⟨rfl,?_⟩⟩;have s4:qas H3 H4:=fun b u e=>sb b u (qa8 e hx) (sN b u e);have fr:H3 S.hs=none:=by
  cases r:H3 S.hs with
  |none=>rfl
  |some u=>rw[sN _ _ r] at hs';cases hs'
 have fr2:H3 S.sw=none:=by
  cases r:H3 S.sw with
  |none=>rfl
  |some u=>rw[sN _ _ r] at f1;cases f1
 have hw0:H S.sw=none:=s03.free fr2;have s04:=s03.trans s4;have hs0:H S.hs=none:=s03.free fr;have hx0:H x=none:=s03.free hx;have tI:je4 S P (1+0) (fun _=>1):=⟨jrx pf hl en' ee,hpm,hso,fun k e' he=>by
  rw[hl] at he;have hk:=(uH.mp he).1;have e0:k=0:=by rw[yA] at hk;omega
  subst e0;have:e'=e:=by simpa using he.symm
  subst this;exact⟨by rw[tp3];exact efp,by rw[tc3];exact efc,ew'⟩⟩
 have nd0:(S.hl.map (·.a)).Nodup:=by rw[hl];exact zU.mpr ⟨by simp,yH⟩
 have hnl2:(P.nm.map V.str).length=P.nm.length:=zB _;have hrn1:((((P.nm.map V.str).length:Nat):Int)-1).toNat=P.nm.length-1:=by rw[hnl2];omega
 have en4:=s04 _ _ pa.n;clear sN fr fr2 hs' sb f1 f2 f3 f4 hpm hso efp efc ew' ee hl en' s4 s03 s3 s2 s1 hRp hRc e0 e1 e2 pa1 pa2 en1 ep1 ec2 hx hdx ne hh0 hh1 hh2 xp xc tp4 tp5 tc4 tc5 tp1 tp2 tp3 tc1 tc2 tc3 lp1 lc1 ole gt etop ew;left;unfold jl4;left;refine⟨1,_,rfl,⟨∅,∅,by rw[hnl2];omega,by rw[hnl2];omega⟩,?_⟩;rw[hrn1];refine qcx (fun i σ H'=>∃(w:Option V)(S':Ts),σ=[sr p,sr P.lw,sr P.ln,sr P.le,sr P.lp,sr P.lc,sr x,w]/\H S'.hs=none/\H S'.sw=none/\qdy d H' x S'/\je4 S' P (1+i) (fun _=>1)/\qas H H'/\(S'.hl.map (·.a)).Nodup) ⟨none,S,rfl,hs0,hw0,hT,tI,s04,nd0⟩ ?_ ?_
 .rintro i σ H' hi ⟨w,S',rfl,hs1,hw1,hT',hI',sm,nd1⟩;clear hT tI s04 hs0 nd0;have kn:1+i<P.nm.length:=by omega
  obtain⟨e',ae,een,hW,hOw,hw50,h40,nk,line⟩:=hI'.ask pf #[] kn;obtain⟨tp,tp1,tp2,tp3,tp4,tp5⟩:=qfa pf kn;obtain⟨tc,tc1,tc2,tc3,tc4,tc5⟩:=jeh pf kn;have low:=pf.low P.nm.length (1+i) #[] kn;have hb:i<P.es.length:=by omega
  have eb:elN P.es (1+i)=P.es[i]:=by rw[iA 1 i];exact jef hb
  have xe:atI (V.non::P.es.map iV) (((1+i:Nat)):Int)=some (V.int ((elN P.es (1+i):Nat):Int)):=by rw[eb];exact qau (by rw[iA 1 i,yX,zC,zA hb];rfl)
  have xn2:atI (P.nm.map V.str) ((elN P.es (1+i):Nat):Int)=some (.str (nmF P (elN P.es (1+i)))):=by rw[qbv #[]];exact qau (by rw[zC,zA #[]];rfl)
  have xp:atI (P.tp.map fun t=>V.ref t.a) (((1+i:Nat)):Int)=some (.ref tp.a):=qau (by rw[zC,tp1];rfl);have xc:atI (P.tc.map fun t=>V.ref t.a) (((1+i:Nat)):Int)=some (.ref tc.a):=qau (by rw[zC,tc1];rfl);have xn:atI (P.nm.map V.str) (((1+i:Nat)):Int)=some (.str (nmF P (1+i))):=by rw[qbv kn];exact qau (by rw[zC,zA kn];rfl)
  have gzk:qbc (nmF P (1+i))=true:=by rw[qbv kn];exact pf.ng _ (zJ kn)
  have lp1:tp.k.length<=1000:=by have:=tp4.le (fun z hz=>by cases e:tp.f z with|none=>exact absurd e hz|some n=>exact(tp5 z n e).1);have:=pf.w3;omega
  have lc1:tc.k.length<=1000:=by have:=tc4.le (fun z hz=>by cases e:tc.f z with|none=>exact absurd e hz|some n=>exact(tc5 z n e).1);have:=pf.w3;omega
  have ole:=jlr pf kn;rw[show(1:Int)+(i:Int)=(((1+i:Nat)):Int) by omega];generalize ((elN P.es (1+i):Nat):Int)=ej at xe xn2;generalize hki:(((1+i:Nat)):Int)=ki at*;have pa':=pa.same sm;have en':=pa'.n;have ee':=pa'.e;have ep':=pa'.pr;obtain⟨dx',ht'⟩:=id hT'.1;clear hrn1 hnl2;left;refine qb5 (SqL.of en') xn ?_;left;refine qb5 (SqL.of ee') xe ?_;left;refine qb5 (SqL.of en') xn2 ?_;left;refine qb5 (SqL.of ep') xp ?_;have hRp:Rd H' tp.a (.dK tp.k):=.inl (pa'.pd tp tp2);left;rename_i h1 hh1;have s1:=qa4 hh1 (.dK tp.k);have e1:upd H' h1 (.dK tp.k) h1=some (.dK tp.k):=qa1;generalize upd H' h1 (.dK tp.k)=H1 at*;have pa1:=pa'.same s1;refine qb5 (SqL.of pa1.cp) xc ?_;have hRc:Rd H1 tc.a (.dK tc.k):=.inl (pa1.cd tc tc2);left;rename_i h2 hh2;have s2:=qa4 hh2 (.dK tc.k);have e2:upd H1 h2 (.dK tc.k) h2=some (.dK tc.k):=qa1;generalize upd H1 h2 (.dK tc.k)=H2 at*;have s12:=s1.trans s2;obtain⟨zs,hL,hz12,hy⟩:=line;rw[een] at hL;have wl:∀v∈S'.ws,v.length<=100:=fun v hv=>by
   have:=(qbs (pf.wg v (hI'.wp.mem_iff.mp hv))).2.1;omega
  have nl:∀u∈zs,u.length<=100:=fun u hu=>by
   obtain⟨e3,h3,_⟩:=hy u hu;obtain⟨k3,k3n,_,h4,_⟩:=hI'.pl.ix (qbw h3).1;rw[(qbw h3).2,qbv #[]] at h4;have:=(qbs (pf.ng _ (zJ (by omega:k3<P.nm.length)))).2.1;rw[h4];omega
  refine⟨x,S',.str (nmF P (1+i)),.str (nmF P (elN P.es (1+i))),.ref h1,.ref h2,.int 1,rfl,hT'.same s12,.go (nmF P (1+i)) (nmF P (elN P.es (1+i))) e' zs tp.f tc.f 1 rfl gzk nk rfl ae (jd9 (s2 _ _ e1) tp4 lp1 (qd4 tp5 hI'.wp)) (jd9 e2 tc4 lc1 (qd4 tc5 hI'.wp)) rfl ∅ ∅ hW hOw hw50 wl (qd4 tp5 hI'.wp) (qd4 tc5 hI'.wp) h40 hL #[] (fun u hu=>⟨nl u hu,(hy u hu).elim fun e3 h3=>h3.2.1,(hy u hu).elim fun e3 h3=>⟨e3,h3.1⟩⟩) (fun h12=>by omega) fun _=>⟨fun _ _ e4 H5 sb f1 f2 f3 hT5 n1 n2 n3 n4 n5=>?_,fun v hv _=>?_,fun _ i2 u e5 bs v g1 g2 g3 g4 _ _=>?_⟩⟩
  .left;refine⟨_,{S' with hl:=S'.hl++[e4]},rfl,hs1,hw1,hT5,(hI'.next pf #[] kn n1 n2 n3 (by rw[tp3];exact n4) (by rw[tc3];exact n5)).cast fun j hj=>by(split<;>rfl),fun b u e=>sb b u (qa8 e hs1) ((sm.trans s12) b u e),?_⟩;show((S'.hl++[e4]).map (·.a)).Nodup;rw[zE,yE];refine⟨nd1,zU.mpr ⟨by simp,yH⟩,fun a1 ha1 b1 hb1 e=>?_⟩;have:b1=e4.a:=by simpa using hb1
   subst this;subst e;obtain⟨e6,m6,e6a⟩:=zM.mp ha1;obtain⟨⟨dy,hy6⟩,_⟩:=(hT'.same s12).2.2.2.2.2 e6 m6;rw[e6a,f1] at hy6
   cases hy6
  .obtain⟨v1,v2⟩:=hv;rw[qc5 tp5,qc5 tc5] at v2;have:=ole v;rw[tp3,tc3] at this;omega
  .obtain⟨e7,h7,_,h8⟩:=hy u (zD g1);rw[g2] at h7
   cases h7
   obtain⟨v1,v2⟩:=g4;rw[<-tp3] at v1 v2
   cases e:qdx (qei (bs.map (qdv S'))) (qbm (tfF P.tp (1+i))) v with
   |none=>exact absurd e v1
   |some n=>
    have h9:=h8 bs g3 v n e;have:gN (qdx (qei (bs.map (qdv S'))) (qbm (tfF P.tp (1+i)))) v=n:=by unfold gN;rw[e];rfl
    omega
 rintro σ H' ⟨w,S',rfl,hs1,hw1,hT',hI',sm,nd1⟩;left;exact q x S' H' sm hx0 hs1 hw1 hT' (by rw[show P.nm.length=1+(P.nm.length-1) by omega];exact hI') nd1
theorem LnN.kid{k:Nat}(h:LnN el k l){j:Nat}(hj:j∈l)(ne:j≠k):∃c∈l,0<c/\el c=j:=by
 induction h with
 |top=>exact absurd (zK.mp hj) ne
 | @up k l k0 h ih=>
  rcases zP.mp hj with e|e
  .exact absurd e ne
  .by_cases c:j=el k
   .exact⟨k,zG ..,k0,c.symm⟩
   .obtain⟨x,x1,x2,x3⟩:=ih e c;exact⟨x,zF _ x1,x2,x3⟩
section
variable{S:Ts}{nm:Nat->Str}{el:Nat->Nat}{n:Nat}
theorem Pl.isKid(p:Pl S nm el n){c:Nat}(c0:0<c)(cn:c<n):nm c∈qbj S (nm (el c)):=by
 obtain⟨e,h1,h2,h3⟩:=p.get cn;rw[iN #[]] at h3;rw[<-h2];exact zM.mpr ⟨e,yL.mpr ⟨zD h1,iP h3⟩,rfl⟩
def jn8{q:Str×List Str}(hq:q∈parts)(hy:y∈q.2):y∈flat parts:=yJ.mpr ⟨q.2,zM.mpr ⟨q,hq,rfl⟩,hy⟩
theorem Pl.allBen(p:Pl S nm el n):∀(m j:Nat)(zs:List Str),j<n->Ben S m (nm j) zs->∀k,k<n->j∈qai el k->nm k∈zs:=by
 intro m
 induction m with
 |zero=>
  rintro j _ jn ⟨parts,hp,rfl,hb⟩ k kn hk;by_cases c:j=k
  .rw[c];exact zG ..
  .obtain⟨x,x3,x0,x2⟩:=(p.ac.ln kn).kid hk c;have z:=p.isKid x0 (p.ac.lt kn x x3);rw[x2] at z;obtain⟨q,hq,_⟩:=zM.mp (hp.mem_iff.mpr z);exact(hb q hq).elim
 |succ m ih=>
  rintro j _ jn ⟨parts,hp,rfl,hb⟩ k kn hk;by_cases c:j=k
  .rw[c];exact zG ..
  .obtain⟨x,x3,x0,x2⟩:=(p.ac.ln kn).kid hk c;have x1:=p.ac.lt kn x x3;have z:=p.isKid x0 x1;rw[x2] at z;obtain⟨q,hq,e⟩:=zM.mp (hp.mem_iff.mpr z);have hB:=hb q hq;rw[e] at hB;exact zF _ (jn8 hq (ih x q.2 x1 hB k kn x3))
theorem Pl.benIff(p:Pl S nm el n){m j:Nat}{zs:List Str}(jn:j<n)(h:Ben S m (nm j) zs){k:Nat}(kn:k<n):nm k∈zs↔j∈qai el k:=by
 refine⟨fun hk=>?_,p.allBen m j zs jn h k kn⟩;obtain⟨i,i1,i2,i3⟩:=p.ben m j zs jn h.part _ hk;rw[p.inj k i kn i1 i2];exact i3
theorem jdh{f:Nat->Int}:∀{n:Nat} {ks:List Nat},ks.Nodup->(∀k∈ks,k<n)->(∀k,k<n->k∉ks->f k=0)->jh7 f ks=qcp n f
 |0,ks,_,h,_=>by
  cases ks with
  |nil=>rfl
  |cons k r=>exact absurd (h k (zG ..)) #[]
 |n+1,ks,nd,h,p=>by
  show _=qcp n f+f n;by_cases m:n∈ks
  .rw[jcp (List.perm_cons_erase m)];have:=jdh (n:=n) (nd.erase n) (fun k hk=>by
    have h1:=h k (fA hk);have:k≠n:=fun z=>by subst z;exact(dI nd) hk
    omega) fun k hk hn=>p k #[] fun hm=>hn ((List.mem_erase_of_ne #[]).mpr hm)
   show f n+_=_;omega
  .have:=jdh (n:=n) nd (fun k hk=>by
    have h1:=h k hk;have:k≠n:=fun z=>m (z▸hk);omega) fun k hk hn=>p k #[] hn
   have:=p n #[] m;omega
theorem Pl.sumE(p:Pl S nm el n){v:Str}{pr:Nat->Int}(hp:∀k e,S.hl[k]?=some e->gN e.x.fp v=pr k){m j:Nat}{bs:List Str}(jn:j<n)(hb:Ben S m (nm j) bs):
  gN (qei (bs.map (qdv S))) v=qcp n fun k=>if j∈qai el k then pr k else 0:=by
 have nd:=(qcm p.wf hb.part).1;have hk:=p.ben m j bs jn hb.part;have key:∀cs:List Str,(∀y∈cs,∃k,k<n/\y=nm k/\j∈qai el k)->∃ks:List Nat,cs=ks.map nm/\(∀k∈ks,k<n)/\((cs.map (qdv S)).map fun t=>gN t.f v).sum=jh7 (fun k=>if j∈qai el k then pr k else 0) ks:=by
  intro cs
  induction cs with
  |nil=>intro _;exact⟨[],rfl,fun k hk=>absurd hk (by simp),rfl⟩
  |cons y r ih=>
   intro h;obtain⟨ks,k1,k2,k3⟩:=ih fun y' hy=>h y' (zF _ hy);obtain⟨k,kn,rfl,kj⟩:=h y (zG ..);obtain⟨e,e1,e2,_⟩:=p.at kn;refine⟨k::ks,by rw[zS,k1],fun k' hk'=>?_,?_⟩
   .rcases zP.mp hk' with rfl|hk'
    .exact kn
    .exact k2 k' hk'
   .rw[zS,zS,List.sum_cons,k3,qfe e1];show gN e.x.fp v+_=(if j∈qai el k then pr k else 0)+_;rw[hp k e e2,iO kj]
 obtain⟨ks,k1,k2,k3⟩:=key bs hk;unfold qei;rw[jh8,k3];have z:gN noF v=0:=rfl;rw[z,eB];refine jdh ?_ k2 fun k kn hn=>?_
 .rw[k1] at nd;exact(cZ.mp nd).imp fun h e=>h (by rw[e])
 .refine iN fun hj=>hn ?_;have:=(p.benIff jn hb kn).mpr hj;rw[k1] at this;obtain⟨k',h1,h2⟩:=zM.mp this;rw[<-p.inj k' k (k2 k' h1) kn h2];exact h1
end
structure GF(P:PL):Prop where
 w1:1<=P.ws.length
 w3:P.ws.length<=3
 wg:∀z∈P.ws,qbc z=true
 wn:P.ws.Nodup
 nl:P.nm.length=P.es.length+1
 n10:P.nm.length<=41
 l12:∀k,k<P.nm.length->(qai (elN P.es) k).length<=12
 ng:∀z∈P.nm,qbc z=true
 nn:P.nm.Nodup
 ac:Ac (elN P.es) P.nm.length
 pl:P.tp.length=P.nm.length
 cl:P.tc.length=P.nm.length
 pa:∀t∈P.tp,AD t.k t.f/\Fin P.ws t.f
 ca:∀t∈P.tc,AD t.k t.f/\Fin P.ws t.f
structure GT(S:Ts)(P:PL):Prop where
 pl:Pl S (nmF P) (elN P.es) P.nm.length
 wp:S.ws.Perm P.ws
 ws:xF S.ws=true
 da:∀(k:Nat)(e:He),S.hl[k]?=some e->(∀v,e.x.fp v=qbm (tfF P.tp k) v)/\(∀v,e.x.fc v=qbm (tfF P.tc k) v)
 nda:(S.hl.map (·.a)).Nodup
noncomputable def jid(P:PL)(j:Nat)(v:Str):Int:=qcp P.nm.length fun k=>if j∈qai (elN P.es) k then gN (tfF P.tp k) v else 0
section
variable{S:Ts}{P:PL}
theorem GF.tf(f:GF P){k:Nat}(hk:k<P.nm.length):∃t,P.tp[k]?=some t/\t∈P.tp/\tfF P.tp k=t.f/\AD t.k t.f/\Fin P.ws t.f:=by
 have h:k<P.tp.length:=by rw[f.pl];exact hk
 have e:=zA h;exact⟨_,e,zJ h,by unfold tfF;rw[e],(f.pa _ (zJ h)).1,(f.pa _ (zJ h)).2⟩
theorem GF.tc(f:GF P){k:Nat}(hk:k<P.nm.length):∃t,P.tc[k]?=some t/\t∈P.tc/\tfF P.tc k=t.f/\AD t.k t.f/\Fin P.ws t.f:=by
 have h:k<P.tc.length:=by rw[f.cl];exact hk
 have e:=zA h;exact⟨_,e,zJ h,by unfold tfF;rw[e],(f.ca _ (zJ h)).1,(f.ca _ (zJ h)).2⟩
theorem GF.capn(f:GF P){k:Nat}(hk:k<P.nm.length)(v:Str):0<=gN (tfF P.tc k) v:=by
 obtain⟨t,_,_,e,_,h⟩:=f.tc hk;rw[e];exact jei h v
def GF.inj(f:GF P):∀i j,i<P.nm.length->j<P.nm.length->nmF P i=nmF P j->i=j:=fun i j hi hj e=>by
 rw[qbv hi,qbv hj] at e;rcases bY i j with h|h|h
 .exact absurd e ((zQ.mp f.nn) i j hi hj h)
 .exact h
 .exact absurd e.symm ((zQ.mp f.nn) j i hj hi h)
def GT.sum(g:GT S P)(f:GF P){m j:Nat}{bs:List Str}(jn:j<P.nm.length)(hb:Ben S m (nmF P j) bs)(v:Str):gN (qei (bs.map (qdv S))) v=jid P j v:=
 g.pl.sumE (pr:=fun k=>gN (tfF P.tp k) v) (fun k e he=>by
  have hk:=(uH.mp he).1;rw[g.pl.len] at hk;obtain⟨t,_,_,t3,_,t5⟩:=f.tf hk;rw[show e.x.fp=qbm (tfF P.tp k) from funext (g.da k e he).1,t3];exact qc5 t5 v) jn hb
theorem GT.cap(g:GT S P)(f:GF P){j:Nat}{e:He}(jn:j<P.nm.length)(ae:S.at (nmF P j)=some e)(v:Str):gN e.x.fc v=gN (tfF P.tc j) v:=by
 obtain⟨e',h1,h2,_⟩:=g.pl.at jn;rw[ae] at h1
 cases h1
 obtain⟨t,_,_,t3,_,t5⟩:=f.tc jn;rw[show e.x.fc=qbm (tfF P.tc j) from funext (g.da j e h2).2,t3];exact qc5 t5 v
theorem GT.fine(g:GT S P)(f:GF P){fm:Str->Option Int}{j:Nat}(jn:j<P.nm.length)(h:jor S fm (nmF P j))(v:Str):jid P j v+gN fm v<=gN (tfF P.tc j) v:=by
 obtain⟨e,bs,ae,hb,hv⟩:=h;rw[<-g.sum f jn hb v,<-g.cap f jn ae v,<-qgb]
 cases c:qdx (qei (bs.map (qdv S))) fm v with
 |none=>
  have:gN (qdx (qei (bs.map (qdv S))) fm) v=0:=by unfold gN;rw[c];rfl
  rw[this,g.cap f jn ae v];exact f.capn jn v
 |some n=>
  have:=hv v;unfold qfv at this;rw[c] at this;have h2:¬gN e.x.fc v<gN (qdx (qei (bs.map (qdv S))) fm) v:=fun h=>this ⟨by simp,h⟩;omega
theorem GT.vioA(g:GT S P)(f:GF P){fm:Str->Option Int}{j:Nat}{e:He}{bs:List Str}{v:Str}(jn:j<P.nm.length)(ae:S.at (nmF P j)=some e)(hb:Ben S 12 (nmF P j) bs)(h:qfv (qdx (qei (bs.map (qdv S))) fm) e.x.fc v):gN (tfF P.tc j) v<jid P j v+gN fm v:=by
 have:=h.2;rw[qgb,g.sum f jn hb v,g.cap f jn ae v] at this;exact this
theorem GT.vioB(g:GT S P)(f:GF P){fm:Str->Option Int}{j:Nat}{e:He}{bs:List Str}{v:Str}(jn:j<P.nm.length)(ae:S.at (nmF P j)=some e)(hb:Ben S 12 (nmF P j) bs)(h:∀u,qfv (qdx (qei (bs.map (qdv S))) fm) e.x.fc u->leS v u){u:Str}(hu:gN (tfF P.tc j) u<jid P j u+gN fm u):leS v u:=by
 refine h u ⟨fun c=>?_,by rw[qgb,g.sum f jn hb u,g.cap f jn ae u];exact hu⟩;have h0:gN (qdx (qei (bs.map (qdv S))) fm) u=0:=by unfold gN;rw[c];rfl
 rw[qgb,g.sum f jn hb u] at h0;have:=f.capn jn u;omega
end
theorem LnN.cong{el':Nat->Nat}{k:Nat}(h:LnN el k l)(e:∀j∈l,0<j->el j=el' j):LnN el' k l:=by
 induction h with
 |top=>exact .top
 | @up k l k0 h ih=>
  have e1:=e k (zG ..) k0;refine .up k0 ?_;rw[<-e1];exact ih fun j hj=>e j (zF _ hj)
theorem qfy{f g:Nat->Int}:∀{n:Nat},(∀k,k<n->f k=g k)->qcp n f=qcp n g
 |0,_=>rfl
 |n+1,h=>by
  show qcp n f+f n=qcp n g+g n;rw[qfy fun k hk=>h k #[],h n #[]]
theorem qh9{a:Nat} :elN (es++[a]) (es.length+1)=a/\∀j,0<j->j<es.length+1->elN (es++[a]) j=elN es j:=by
 refine⟨?_,fun j j0 jn=>?_⟩
 .unfold elN;rw[cS,zX (uG _),bX];rfl
 .unfold elN;rw[zV #[]]
def qhe{a:Nat}(ac:Ac (elN es) (es.length+1)){k:Nat}(kn:k<es.length+1):LnN (elN (es++[a])) k (qai (elN es) k):=
 (ac.ln kn).cong fun j hj j0=>(qh9.2 j j0 (ac.lt kn j hj)).symm
theorem jls{a:Nat}(ac:Ac (elN es) (es.length+1))(ha:a<es.length+1):Ac (elN (es++[a])) (es.length+1+1)/\(∀k,k<es.length+1->qai (elN (es++[a])) k=qai (elN es) k)/\qai (elN (es++[a])) (es.length+1)=(es.length+1)::qai (elN es) a:=by
 have h1:∀k,k<es.length+1->qai (elN (es++[a])) k=qai (elN es) k:=fun k kn=>qcg (qhe ac kn);have h2:LnN (elN (es++[a])) (es.length+1) ((es.length+1)::qai (elN es) a):=.up #[] (by rw[qh9.1];exact qhe ac ha);refine⟨fun k kn=>?_,h1,qcg h2⟩;by_cases c:k=es.length+1
 .subst c;refine⟨_,h2,fun j hj=>?_⟩;rcases zP.mp hj with e|e
  .omega
  .have:=ac.lt ha j e;omega
 .exact⟨_,qhe ac #[],fun j hj=>by have:=ac.lt (k:=k) #[] j hj;omega⟩
noncomputable def fdP(P:PL)(z:Str)(a:Nat)(tp tc:Pt):PL:={P with nm:=P.nm++[z],es:=P.es++[a],tp:=P.tp++[tp],tc:=P.tc++[tc]}
theorem jie{t:Pt}{k:Nat}(h:k<ts.length):tfF (ts++[t]) k=tfF ts k:=by unfold tfF;rw[zV h]
theorem jej{t:Pt} :tfF (ts++[t]) ts.length=t.f:=by unfold tfF;rw[zX (uG _),bX];rfl
def PlF.gf{P:PL}(f:PlF P):GF P:=⟨f.w1,f.w3,f.wg,f.wn,f.nl,by have:=f.n12;omega,f.l12,f.ng,f.nn,(f.low P.nm.length).ac,f.pl,f.cl,fun t m=>⟨(f.pa t m).1,(f.pa t m).2.fin ∅⟩,fun t m=>⟨(f.ca t m).1,(f.ca t m).2.fin ∅⟩⟩
def je4.gt{P:PL}{wt:Nat->Int}(h:je4 S P P.nm.length wt)(nd:(S.hl.map (·.a)).Nodup):GT S P:=⟨h.pl,h.wp,h.ws,fun k e he=>⟨(h.da k e he).1,(h.da k e he).2.1⟩,nd⟩
section
variable{S:Ts}{P:PL}
theorem GF.acE(f:GF P):Ac (elN P.es) (P.es.length+1):=by rw[<-f.nl];exact f.ac
theorem GF.fd(f:GF P)(n9:P.nm.length<=40){z:Str}(gz:qbc z=true)(nz:z∉P.nm){a:Nat}(an:a<P.nm.length){tp tc:Pt}(hp:AD tp.k tp.f/\Fin P.ws tp.f)(hc:AD tc.k tc.f/\Fin P.ws tc.f)(h12:(qai (elN P.es) a).length<12):GF (fdP P z a tp tc):=by
 have nl:=f.nl;obtain⟨ac,ac2,ac3⟩:=jls (a:=a) f.acE #[];refine⟨f.w1,f.w3,f.wg,f.wn,?_,?_,?_,fun y hy=>?_,?_,?_,?_,?_,fun t ht=>?_,fun t ht=>?_⟩
 .show(P.nm++[z]).length=(P.es++[a]).length+1;rw[zH,zH,nl];rfl
 .show(P.nm++[z]).length<=41;rw[zH];exact Nat.succ_le_succ n9
 .intro k kn;have kn:k <(P.nm++[z]).length:=kn;rw[zH,yA] at kn;show(qai (elN (P.es++[a])) k).length<=12;by_cases c:k<P.es.length+1
  .rw[ac2 k c];exact f.l12 k #[]
  .have e:k=P.es.length+1:=by omega
   rw[e,ac3,zI];omega
 .rcases zT.mp hy with m|m
  .exact f.ng y m
  .rw[zK.mp m];exact gz
 .show(P.nm++[z]).Nodup;refine yE.mpr ⟨f.nn,zU.mpr ⟨by simp,yH⟩,fun x hx y hy e=>nz ?_⟩;rw[<-zK.mp hy,<-e];exact hx
 .show Ac (elN (P.es++[a])) (P.nm++[z]).length;rw[zH,nl];exact ac
 .show(P.tp++[tp]).length=(P.nm++[z]).length;rw[zH,zH,f.pl];rfl
 .show(P.tc++[tc]).length=(P.nm++[z]).length;rw[zH,zH,f.cl];rfl
 .rcases zT.mp ht with m|m
  .exact f.pa t m
  .rw[zK.mp m];exact hp
 .rcases zT.mp ht with m|m
  .exact f.ca t m
  .rw[zK.mp m];exact hc
theorem jlt(f:GF P){z:Str}{a:Nat}(tp tc:Pt):(∀j,j<P.nm.length->tfF (fdP P z a tp tc).tc j=tfF P.tc j)/\tfF (fdP P z a tp tc).tc P.nm.length=tc.f:=by
 refine⟨fun j hj=>jie (by rw[f.cl];exact hj),?_⟩;show tfF (P.tc++[tc]) P.nm.length=_;rw[<-f.cl];exact jej
theorem jry(f:GF P){z:Str}{a:Nat}(tp tc:Pt):(∀j,j<P.nm.length->nmF (fdP P z a tp tc) j=nmF P j)/\nmF (fdP P z a tp tc) P.nm.length=z:=by
 refine⟨fun j hj=>?_,?_⟩
 .unfold nmF;show((P.nm++[z])[j]?).getD _=_;rw[zV hj]
 .unfold nmF;show((P.nm++[z])[P.nm.length]?).getD _=_;rw[zX (uG _),bX];rfl
theorem GT.fd{a:Nat}{tp tc:Pt}(g:GT S P)(f:GF P)(f':GF (fdP P z a tp tc))(an:a<P.nm.length){e2:He}(en:e2.n=z)(el:e2.x.el=some (nmF P a))(ep:∀v,e2.x.fp v=qbm tp.f v)(ec:∀v,e2.x.fc v=qbm tc.f v)(na:∀e∈S.hl,e.a≠e2.a):GT {S with hl:=S.hl++[e2]} (fdP P z a tp tc):=by
 have hl:=g.pl.len;have nl:=f.nl;obtain⟨n1,n2⟩:=jry f (z:=z) (a:=a) tp tc;obtain⟨ac,a1,a2⟩:=jls (a:=a) f.acE #[];have hlen:(fdP P z a tp tc).nm.length=P.nm.length+1:=by
  show(P.nm++[z]).length=_;rw[zH];rfl
 have split:∀(i:Nat)(e:He),(S.hl++[e2])[i]?=some e->(i<P.nm.length/\S.hl[i]?=some e)\/(i=P.nm.length/\e=e2):=fun i e he=>by
  rcases vZ i S.hl.length with c|c
  .rw[zV c] at he;exact .inl ⟨#[],he⟩
  .have:=(uH.mp he).1;rw[zH,yA] at this;have ei:i=S.hl.length:=by omega
   rw[zX c,ei,bX] at he;exact .inr ⟨#[],by simpa using he.symm⟩
 refine⟨⟨by show(S.hl++[e2]).length=_;rw[zH,hl,hlen];rfl,fun i e he=>?_,f'.inj,f'.ac⟩,g.wp,g.ws,fun i e he=>?_,?_⟩
 .show _/\e.x.el=if i=0 then none else some (nmF _ (elN (P.es++[a]) i))
  rcases split i e he with⟨c,b⟩|⟨rfl,rfl⟩
  .obtain⟨x,y⟩:=g.pl.nam i e b;refine⟨by rw[n1 i c];exact x,?_⟩;rw[y];by_cases i0:i=0
   .rw[iO i0,iO i0]
   .rw[iN i0,iN i0,qh9.2 i #[] #[],n1 _ (f.ac.elt #[] c)]
  .refine⟨by rw[n2];exact en,?_⟩;rw[iN #[],el,nl,qh9.1,n1 a an]
 .rcases split i e he with⟨c,b⟩|⟨rfl,rfl⟩
  .obtain⟨x,y⟩:=g.da i e b;refine⟨?_,?_⟩
   .rw[show tfF (fdP P z a tp tc).tp i=tfF P.tp i from jie (by rw[f.pl];exact c)];exact x
   .rw[(jlt f (z:=z) (a:=a) tp tc).1 i c];exact y
  .refine⟨?_,?_⟩
   .rw[show tfF (fdP P z a tp tc).tp P.nm.length=tp.f from by rw[<-f.pl];exact jej];exact ep
   .rw[(jlt f (z:=z) (a:=a) tp tc).2];exact ec
 .show((S.hl++[e2]).map (·.a)).Nodup;rw[zE,yE];refine⟨g.nda,zU.mpr ⟨by simp,yH⟩,fun x hx y hy e=>?_⟩;obtain⟨e0,m0,rfl⟩:=zM.mp hx;have:y=e2.a:=by simpa using hy
  exact na e0 m0 (e.trans this)
theorem GT.hs(g:GT S P)(f:GF P):qfu S/\S.ws.length<=50/\(∀v∈S.ws,v.length<=100)/\(∀k,k<P.nm.length->(nmF P k).length<=100):=by
 have h50:S.ws.length<=50:=by have:=g.wp.length_eq;have:=f.w3;omega
 refine⟨⟨#[],fun e' he z hz=>?_⟩,h50,fun v hv=>?_,fun k hk=>?_⟩
 .obtain⟨i,hi,q,_⟩:=g.pl.ix he;obtain⟨t,_,_,q2,_,q3⟩:=f.tf (k:=i) #[];rw[(g.da i e' q).1,q2] at hz;exact g.wp.mem_iff.mpr (qex q3 z hz)
 .have:=(qbs (f.wg v (g.wp.mem_iff.mp hv))).2.1;omega
 .rw[qbv hk];have:=(qbs (f.ng _ (zJ hk))).2.1;omega
end
theorem qeh{K:uY}(ha:SqL K H a (xs.map V.str))(hb:SqL K H b (ys.map V.str))(ne:a≠b):DEq K H (n+1) (.ref a) (.ref b) (decide (xs=ys)):=by
 by_cases hl:xs.length=ys.length
 .have hl':(xs.map V.str).length=(ys.map V.str).length:=by rw[zB,zB,hl]
  have z:=DEq.ls (K:=K) (n:=n) (e:=fun j=>decide (xs[j]?=ys[j]?)) ha hb ne hl' fun j h1 h2=>by
   rw[zB] at h1 h2;rw[yR,yR,zA h1,zA h2];have:=DEq.flat (K:=K) (H:=H) (n:=n) (x:=V.str xs[j]) (y:=V.str ys[j]) rfl rfl;have e:eqV (V.str xs[j]) (V.str ys[j])=decide (some xs[j]=some ys[j]):=by
    show(xs[j]==ys[j])=_;by_cases c:xs[j]=ys[j]
    .rw[c,iP rfl];exact beq_self_eq_true _
    .rw[iQ fun h=>c (vB h)];exact beq_false_of_ne c
   rw[e] at this;exact this
  have e:((uN (xs.map V.str).length).all fun j=>decide (xs[j]?=ys[j]?))=decide (xs=ys):=by
   rw[xS,zZ,decide_eq_true_iff];constructor
   .intro h;apply List.ext_getElem?
    intro j;rcases vZ j xs.length with c|c
    .exact of_decide_eq_true (h j (yM.mpr (by rw[zB];exact c)))
    .rw[aI c,aI #[]]
   .rintro rfl j _;exact iP rfl
  rw[e] at z;exact z
 .rw[iQ fun e=>hl (by rw[e])];exact .lsN ha hb ne (by rw[zB,zB];exact hl)
theorem jif{K:uY}{x1 x2 y1 y2:V}{b1 b2:Bool}(ha:SqL K H a [x1,x2])(hb:SqL K H b [y1,y2])(ne:a≠b)(h1:DEq K H n x1 y1 b1)(h2:DEq K H n x2 y2 b2):DEq K H (n+1) (.ref a) (.ref b) (b1 && b2):=by
 have z:=DEq.ls (K:=K) (n:=n) (e:=fun j=>if j=0 then b1 else b2) ha hb ne rfl fun j j1 j2=>by
  match j,j1,j2 with
  |0,_,_=>exact h1
  |1,_,_=>exact h2
  |j+2,c,_=>exact absurd c (by show ¬j+2<2;omega)
 have e:((uN [x1,x2].length).all fun j=>if j=0 then b1 else b2)=(b1 && b2):=by
  show((uN 2).all fun j=>if j=0 then b1 else b2)=_;rw[show uN 2=[0,1] from rfl,yT,yT,List.all_nil];simp
 rw[e] at z;exact z
structure jay(H:Hp)(l:Addr)(xs ys:List Str):Prop where
 ex:∃m1 m2,H l=some (.lst [.ref m1,.ref m2])/\H m1=some (.lst (xs.map V.str))/\H m2=some (.lst (ys.map V.str))
theorem jay.same{H H':Hp}{l:Addr}{xs ys:List Str}(h:jay H l xs ys)(s:qas H H'):jay H' l xs ys:=by
 obtain⟨m1,m2,a,b,c⟩:=h.ex;exact⟨m1,m2,s _ _ a,s _ _ b,s _ _ c⟩
noncomputable def wd(i:Nat):Str:=(["name","taken","house","ware","amount","number","many","deep","move"].map uO)[i]?.getD (uO "")
noncomputable def wK(i j:Nat):List V:=if i<j then[V.str (wd i)] else[]
theorem qe5(i j:Nat):(wK i j).length<sizeLine:=by
 unfold wK;split
 .exact(by decide:1<16777216)
 .exact(by decide:0<16777216)
theorem qgj(h:(j==i)=false):wK i j=wK i (j+1):=by
 have h:j≠i:=by simpa using h
 unfold wK;by_cases c:i<j
 .rw[iO c,iO #[]]
 .rw[iN c,iN #[]]
theorem qe4(h:(j==i)=true):wK i j++[V.str (wd j)]=wK i (j+1):=by
 have h:j=i:=by simpa using h
 subst h;unfold wK;rw[iN #[],iO #[]];rfl
def jrz(K:uY)(d:Ad)(C:Addr)(i:Nat):Prop:=My.XAt K C/\qfx K d.w05 [d.w09,d.w0f,d.w01,d.w0a,d.w03,d.w02,d.w06,d.w08,d.w0e,d.w00] C i=true
def wd7(K:uY)(d:Ad):Sp:=fun vs H Q _=>∃(a:Addr),vs=[.ref a]/\
 ((∃(C:Addr)(i:Nat),i<9/\jrz K d C i/\H a=some (XO a (.ref C) none)/\∀l H',qas H H'->H l=none->jay H' l [wd i] []->Q (.ref l) H')\/
  ∃(dx:Addr)(z1 z2:Str),H a=some (XO a (.ref d.w00) (some dx))/\H dx=some (XD dx [("house",.str z1),("ware",.str z2)])/\∀l H',qas H H'->H l=none->jay H' l [uO "promise"] [z1,z2]->Q (.ref l) H')
section
local macro_rules | `(tactic| walk_at "liv") => `(tactic| first
 |with_reducible assumption|((with_reducible refine' jgm ?h ?n);(case n=>with_reducible assumption);(case h=>walk_at "liv")))
local macro_rules | `(tactic| walk_at "same") => `(tactic| first
 |with_reducible assumption|exact qas.refl _|((with_reducible refine' qgq ?h ?n);(case n=>with_reducible assumption);(case h=>walk_at "same")))
local macro_rules | `(tactic| walk_at "sp") => `(tactic| first
 |((with_reducible refine' jqq ?e ?l ?x ?k ?_);(case e=>walk_at "heap");(case l=>walk_at "liv");(case x=>with_reducible assumption);(case k=>with_reducible assumption)) |((with_reducible refine' qgt ?a ?b ?z ?_);(case a=>walk_at "heap");(case b=>walk_at "heap");(case z=>(simp only [zH,zI,yF];decide));intro p hp) |((with_reducible refine' jd1 ?h ?z ?_);(case h=>walk_at "heap");(case z=>walk_at "size")))
include T in
theorem wdg:My.FnOkH P w K mg base 1 d.wbv d.w9p ["_law_e"] (wd7 K d):=by
 refine okH T.wcu wbi (fun vs H Q E h=>?_) (fun cdv ax A outer s H vs Q E hr h=>?_)
 .right
 obtain⟨a,rfl,hq⟩:=h;exists (qa3 (qag (i:=1) wbi.nd rfl (uK rfl) (qam qa2))
  (qa3 (qbf (qay (qbd (qac qc7 rfl T.w04 uJ #[pv 0,qbt (v:=.ref d.w09) rfl T.wan rfl])) (qa6 (qb3 (qdb vG vK vL qba (pv 1) #[qaq]))) qad))
  (qa3 (qbf (qay (qbd (qac qc7 rfl T.w04 uJ #[pv 0,qbt (v:=.ref d.w0f) rfl T.wbg rfl])) (qa6 (qb3 (qdb vG vK vL qba (pv 1) #[qaq]))) qad))
  (qa3 (qbf (qay (qbd (qac qc7 rfl T.w04 uJ #[pv 0,qbt (v:=.ref d.w01) rfl T.w94 rfl])) (qa6 (qb3 (qdb vG vK vL qba (pv 1) #[qaq]))) qad))
  (qa3 (qbf (qay (qbd (qac qc7 rfl T.w04 uJ #[pv 0,qbt (v:=.ref d.w0a) rfl T.w7q rfl])) (qa6 (qb3 (qdb vG vK vL qba (pv 1) #[qaq]))) qad))
  (qa3 (qbf (qay (qbd (qac qc7 rfl T.w04 uJ #[pv 0,qbt (v:=.ref d.w03) rfl T.w5n rfl])) (qa6 (qb3 (qdb vG vK vL qba (pv 1) #[qaq]))) qad))
  (qa3 (qbf (qay (qbd (qac qc7 rfl T.w04 uJ #[pv 0,qbt (v:=.ref d.w02) rfl T.w77 rfl])) (qa6 (qb3 (qdb vG vK vL qba (pv 1) #[qaq]))) qad))
  (qa3 (qbf (qay (qbd (qac qc7 rfl T.w04 uJ #[pv 0,qbt (v:=.ref d.w06) rfl T.w8h rfl])) (qa6 (qb3 (qdb vG vK vL qba (pv 1) #[qaq]))) qad))
  (qa3 (qbf (qay (qbd (qac qc7 rfl T.w04 uJ #[pv 0,qbt (v:=.ref d.w08) rfl T.w8l rfl])) (qa6 (qb3 (qdb vG vK vL qba (pv 1) #[qaq]))) qad))
  (qa3 (qbf (qay (qbd (qac qc7 rfl T.w04 uJ #[pv 0,qbt (v:=.ref d.w0e) rfl T.wce rfl])) (qa6 (qb3 (qdb vG vK vL qba (pv 1) #[qaq]))) qad))
  (qa3 (qbf (qay (qbr (qbd (qac qc7 rfl T.w04 uJ #[pv 0,qc4 (v:=.ty "ValueError") rfl T.w95 qfq rfl]))) (qa6 (qb3 (qdb vG vK vL qba (pv 1) #[qaq]))) qad))
  (qa3 (qay (qbd (qac qc7 rfl T.w04 uJ #[pv 0,qbt (v:=.ref d.w00) rfl T.w6f rfl])) (qa6 (qaj (qam #[qae qed (pv 1) (qam #[qaq]),qam #[jqj (pv 0),jqj (pv 0)]]))) qad)
  (qa6 (qaj (qam #[pv 1,qam qa2]))))))))))))))),[sr a,none];rcases hq with⟨C,i,i9,⟨xa,kt⟩,ha,q⟩|⟨dx,z1,z2,ha,hx,q⟩
 .have lv:jc3 none H:=qg9;obtain⟨_,kv,kj⟩:=qca kt;have k0:=kj 0 _ rfl;have k1:=kj 1 _ rfl;have k2:=kj 2 _ rfl;have k3:=kj 3 _ rfl;have k4:=kj 4 _ rfl;have k5:=kj 5 _ rfl;have k6:=kj 6 _ rfl;have k7:=kj 7 _ rfl;have k8:=kj 8 _ rfl;have k9:=kj 9 _ rfl;left;rename_i p hp;rw[show([]:List V)=wK i 0 by unfold wK;rw[iN #[]]];have hz0:=qe5 i 0;refine qce (fun σ' H'=>σ'=[sr a,sr p]/\H'=upd H p (.lst (wK i 1))) ?_ ?_
  .left;refine jjb (fun c=>?_) (fun c=>?_)
   .left;exact⟨rfl,by rw[qb4];exact congrArg (fun x=>upd H p (.lst x)) (qe4 c)⟩
   .left;exact⟨rfl,by rw[qgj c]⟩
  rintro _ _ ⟨rfl,rfl⟩;left;have hz1:=qe5 i 1;refine qce (fun σ' H'=>σ'=[sr a,sr p]/\H'=upd H p (.lst (wK i 2))) ?_ ?_
  .left;refine jjb (fun c=>?_) (fun c=>?_)
   .left;exact⟨rfl,by rw[qb4];exact congrArg (fun x=>upd H p (.lst x)) (qe4 c)⟩
   .left;exact⟨rfl,by rw[qgj c]⟩
  rintro _ _ ⟨rfl,rfl⟩;left;have hz2:=qe5 i 2;refine qce (fun σ' H'=>σ'=[sr a,sr p]/\H'=upd H p (.lst (wK i 3))) ?_ ?_
  .left;refine jjb (fun c=>?_) (fun c=>?_)
   .left;exact⟨rfl,by rw[qb4];exact congrArg (fun x=>upd H p (.lst x)) (qe4 c)⟩
   .left;exact⟨rfl,by rw[qgj c]⟩
  rintro _ _ ⟨rfl,rfl⟩;left;have hz3:=qe5 i 3;refine qce (fun σ' H'=>σ'=[sr a,sr p]/\H'=upd H p (.lst (wK i 4))) ?_ ?_
  .left;refine jjb (fun c=>?_) (fun c=>?_)
   .left;exact⟨rfl,by rw[qb4];exact congrArg (fun x=>upd H p (.lst x)) (qe4 c)⟩
   .left;exact⟨rfl,by rw[qgj c]⟩
  rintro _ _ ⟨rfl,rfl⟩;left;have hz4:=qe5 i 4;refine qce (fun σ' H'=>σ'=[sr a,sr p]/\H'=upd H p (.lst (wK i 5))) ?_ ?_
  .left;refine jjb (fun c=>?_) (fun c=>?_)
   .left;exact⟨rfl,by rw[qb4];exact congrArg (fun x=>upd H p (.lst x)) (qe4 c)⟩
   .left;exact⟨rfl,by rw[qgj c]⟩
  rintro _ _ ⟨rfl,rfl⟩;left;have hz5:=qe5 i 5;refine qce (fun σ' H'=>σ'=[sr a,sr p]/\H'=upd H p (.lst (wK i 6))) ?_ ?_
  .left;refine jjb (fun c=>?_) (fun c=>?_)
   .left;exact⟨rfl,by rw[qb4];exact congrArg (fun x=>upd H p (.lst x)) (qe4 c)⟩
   .left;exact⟨rfl,by rw[qgj c]⟩
  rintro _ _ ⟨rfl,rfl⟩;left;have hz6:=qe5 i 6;refine qce (fun σ' H'=>σ'=[sr a,sr p]/\H'=upd H p (.lst (wK i 7))) ?_ ?_
  .left;refine jjb (fun c=>?_) (fun c=>?_)
   .left;exact⟨rfl,by rw[qb4];exact congrArg (fun x=>upd H p (.lst x)) (qe4 c)⟩
   .left;exact⟨rfl,by rw[qgj c]⟩
  rintro _ _ ⟨rfl,rfl⟩;left;have hz7:=qe5 i 7;refine qce (fun σ' H'=>σ'=[sr a,sr p]/\H'=upd H p (.lst (wK i 8))) ?_ ?_
  .left;refine jjb (fun c=>?_) (fun c=>?_)
   .left;exact⟨rfl,by rw[qb4];exact congrArg (fun x=>upd H p (.lst x)) (qe4 c)⟩
   .left;exact⟨rfl,by rw[qgj c]⟩
  rintro _ _ ⟨rfl,rfl⟩;left;have hz8:=qe5 i 8;refine qce (fun σ' H'=>σ'=[sr a,sr p]/\H'=upd H p (.lst (wK i 9))) ?_ ?_
  .left;refine jjb (fun c=>?_) (fun c=>?_)
   .left;exact⟨rfl,by rw[qb4];exact congrArg (fun x=>upd H p (.lst x)) (qe4 c)⟩
   .left;exact⟨rfl,by rw[qgj c]⟩
  rintro _ _ ⟨rfl,rfl⟩;left;refine qc8 ?_;left;refine jk1 (qa7 ha hp) qg9 xa kv ?_;have k9':vY K (.ref C) (.ref d.w00)=some false:=by rw[k9];exact congrArg some (by simp;omega)
  clear k9;left;rename_i p1 hp1 p2 hp2;have ew:wK i 9=[wd i].map V.str:=by unfold wK;rw[iO i9];rfl
  rw[ew] at hp1 hp2⊢;have h1:=qa7 (o':=.lst [V.ref p,V.ref p1]) (qa7 (o':=.lst []) (show upd H p (HO.lst ([wd i].map V.str)) p=some (.lst ([wd i].map V.str)) from qa1) hp1) hp2;exact q p2 _ (((qa4 hp _).trans (qa4 hp1 _)).trans (qa4 hp2 _)) ((qa4 hp _).free ((qa4 hp1 _).free hp2)) ⟨p,p1,qa1,h1,qa7 qa1 hp2⟩
 .have lv:jc3 (some dx) H:=qg8 hx;obtain⟨_,kv,kj⟩:=qca T.w15;have k0:vY K (.ref d.w00) (.ref d.w09)=some false:=kj 0 _ rfl;have k1:vY K (.ref d.w00) (.ref d.w0f)=some false:=kj 1 _ rfl;have k2:vY K (.ref d.w00) (.ref d.w01)=some false:=kj 2 _ rfl;have k3:vY K (.ref d.w00) (.ref d.w0a)=some false:=kj 3 _ rfl;have k4:vY K (.ref d.w00) (.ref d.w03)=some false:=kj 4 _ rfl;have k5:vY K (.ref d.w00) (.ref d.w02)=some false:=kj 5 _ rfl;have k6:vY K (.ref d.w00) (.ref d.w06)=some false:=kj 6 _ rfl;have k7:vY K (.ref d.w00) (.ref d.w08)=some false:=kj 7 _ rfl;have k8:vY K (.ref d.w00) (.ref d.w0e)=some false:=kj 8 _ rfl;have k9:vY K (.ref d.w00) (.ref d.w00)=some true:=kj 9 _ rfl;have xa:=T.w17;left;rename_i p hp;refine qc8 ?_;left;refine qc8 ?_;left;refine qc8 ?_;left;refine qc8 ?_;left;refine qc8 ?_;left;refine qc8 ?_;left;refine qc8 ?_;left;refine qc8 ?_;left;refine qc8 ?_;left;refine qc8 ?_;left;refine jk1 (qa7 ha hp) (qg8 (qa7 hx hp)) xa kv ?_;left;rename_i p1 hp1 p2 hp2;have s2:=((qa4 hp (.lst [])).trans (qa4 hp1 (.lst [V.str (uO "promise")]))).trans (qa4 hp2 (.lst ([]++[V.str (uO "promise")])));have e2:upd (upd (upd H p (.lst [])) p1 (.lst [V.str (uO "promise")])) p2 (.lst ([]++[V.str (uO "promise")])) p2=some (.lst ([uO "promise"].map V.str)):=qa1;generalize upd (upd (upd H p (.lst [])) p1 (.lst [V.str (uO "promise")])) p2 (.lst ([]++[V.str (uO "promise")]))=H2 at*;refine jm9 ?_;left;refine⟨a,d.w00,dx,_,.str z1,rfl,s2 _ _ ha,s2 _ _ hx,xa,T.wdp,rfl,?_⟩;left;refine jm9 ?_;left;refine⟨a,d.w00,dx,_,.str z2,rfl,s2 _ _ ha,s2 _ _ hx,xa,T.wdo,rfl,?_⟩;left;rename_i p3 hp3 p4 hp4;exact q p4 _ ((s2.trans (qa4 hp3 _)).trans (qa4 hp4 _)) (s2.free ((qa4 hp3 _).free hp4)) ⟨p2,p3,qa1,qa7 (qa7 e2 hp3) hp4,qa7 qa1 hp4⟩
end
def Ov(P:PL)(fm:Str->Option Int)(j:Nat)(v:Str):Prop:=gN (tfF P.tc j) v<jid P j v+gN fm v
def Plc(P:PL)(js:List Nat)(fm:Str->Option Int)(xs ys:List Str):Prop:=
 (xs=[]/\ys=[]/\∀j∈js,∀v∈P.ws,¬Ov P fm j v)\/
 ∃(i0 j0:Nat)(v:Str),js[i0]?=some j0/\v∈P.ws/\Ov P fm j0 v/\(∀v'∈P.ws,Ov P fm j0 v'->leS v v')/\(∀i j,i<i0->js[i]?=some j->∀v'∈P.ws,¬Ov P fm j v')/\xs=[uO "promise"]/\ys=[nmF P j0,v]
theorem Plc.uniq{P:PL}{js:List Nat}{fm:Str->Option Int}(h:Plc P js fm xs ys)(h':Plc P js fm xs' ys'):xs=xs'/\ys=ys':=by
 rcases h with⟨a1,a2,a3⟩|⟨i,j,v,b1,b2,b3,b4,b5,b6,b7⟩
 .rcases h' with⟨c1,c2,c3⟩|⟨i',j',v',d1,d2,d3,d4,d5,d6,d7⟩
  .exact⟨a1.trans c1.symm,a2.trans c2.symm⟩
  .exact absurd d3 (a3 j' (zD d1) v' d2)
 .rcases h' with⟨c1,c2,c3⟩|⟨i',j',v',d1,d2,d3,d4,d5,d6,d7⟩
  .exact absurd b3 (c3 j (zD b1) v b2)
  .have ei:i=i':=by
    rcases bY i i' with lt|e|lt
    .exact absurd b3 (d5 i j lt b1 v b2)
    .exact e
    .exact absurd d3 (b5 i' j' lt d1 v' d2)
   subst ei;rw[b1] at d1;have ej:=vB d1;subst ej;have ev:v=v':=qh3 (b4 v' d2 d3) (d4 v b2 b3);subst ev;exact⟨b6.trans d6.symm,b7.trans d7.symm⟩
theorem GF.sumE{P:PL}(f:GF P)(j:Nat)(v:Str):(qcp P.tp.length fun k=>if j∈qai (elN P.es) k then ptN P.tp k v else 0)=jid P j v:=by
 unfold jid;rw[f.pl];exact qfy fun k _=>by rw[jlp]
inductive jj6(K:uY)(d:Ad)(vs:List V)(H:Hp)(Q:VK)(E:XK):Prop
 |mk(p ll lm:Addr)(P:PL)(js:List Nat)(km:List (Key×V))(fm:Str->Option Int)(_:vs=[.ref p,.ref ll,.ref lm])(_:GF P)(_:jbl H p P)(_:H ll=some (.lst (js.map iV)))(_:(∀j∈js,j<P.nm.length))(_:H lm=some (.dK km))(_:AD km fm)(_:∀l xs ys H',qas H H'->H l=none->jay H' l xs ys->Plc P js fm xs ys->Q (.ref l) H')
include T in
theorem wcl:jab P w K mg base CX0 2 d.w9o d.w7i ["_law_plan_here","_law_line_here","_law_more"] (jj6 K d):=by
 exists T.wb7.ok w2a
 .right
 obtain⟨p,ll,lm,P,js,km,fm,rfl,f,pa,hL,hj,hm,hA,q⟩:=h;exists (qa3 (qg2 (pv 0) (qg3 rfl (qap (qah (i:=3) w2a.nd rfl (uK rfl)) (qap (qah (i:=4) w2a.nd rfl (uK rfl)) (qap (qah (i:=5) w2a.nd rfl (uK rfl)) (qap (qah (i:=6) w2a.nd rfl (uK rfl)) (qap (qah (i:=7) w2a.nd rfl (uK rfl)) qdf)))))))
  (qa3 (qag (i:=8) w2a.nd rfl (uK rfl) (qaf ((waf T).mono ∅) hr rfl T.wbn T.waj.kp T.wb6 .nil qaz #[pv 5,pv 6]))
  (qa3 (qbl vJ rfl (qcj (pv 1)) (qah (i:=9) w2a.nd rfl (uK rfl)) (qa6 (qbl vJ rfl (qcj (qac qd0 rfl T.w3l wP #[pv 3])) (qah (i:=10) w2a.nd rfl (uK rfl)) (qa6 (qay (qal qfj (qae qbp (qcr (qc1 hr) (qao qab (pv 8) (pv 9) nofun) (pv 10) qa5 ⟨rfl,rfl,rfl,rfl⟩) (qcr (qc1 hr) (pv 2) (pv 10) qa5 ⟨rfl,rfl,rfl,rfl⟩)) (qcr (qc1 hr) (qao qab (pv 7) (pv 9) nofun) (pv 10) qa5 ⟨rfl,rfl,rfl,rfl⟩) (qar _)) (qa6 (qaj (qam #[qam #[qaq],qam #[qao qab (pv 4) (pv 9) nofun,pv 10]]))) qad)))))
  (qa6 (qaj (qam #[qam qa2,qam qa2])))))),[sr p,sr ll,sr lm,none,none,none,none,none,none,none,none];have n10:=f.n10;have w3:=f.w3;have nl:=f.nl;have etop:=pa.top;left;refine⟨P.le,P.lp,P.es,P.tp,P.ws,rfl,pa.e,SqL.of pa.pr,by rw[f.pl];omega,by rw[f.pl];omega,#[],by rw[f.pl];exact f.ac,fun x m=>⟨pa.pd x m,(f.pa x m).1,fun y hy=>?_⟩,fun ls qs H1 s1 hls els hql hqf hG=>?_⟩
 .cases e:x.f y with
  |none=>exact absurd e hy
  |some n=>exact((f.pa x m).2 y n e).1
 rw[f.pl] at hql;have hsum:∀(j:Nat),j<P.nm.length->∃(qa:Addr)(kq:List (Key×V))(fq:Str->Option Int),atI (qs.map V.ref) (j:Int)=some (.ref qa)/\H1 qa=some (.dK kq)/\AD kq fq/\∀v,gN fq v=jid P j v:=fun j jn=>by
  have jq:j<qs.length:=by omega
  obtain⟨kq,fq,hq1,hq2,hq3,hq4⟩:=hG j qs[j] (zA jq);exact⟨qs[j],kq,fq,qau (by rw[zC,zA jq];rfl),hq1,hq2,fun v=>by rw[hq4 v];exact f.sumE j v⟩
 clear hG hqf hql etop;have hL1:=s1 _ _ hL;have ssn:=f.wn;left;refine qf0 (xs:=js.map iV) (fun i σ H'=>qas H1 H'/\(∃w1 w2,σ=[sr p,sr ll,sr lm,sr P.lw,sr P.ln,sr P.le,sr P.lp,sr P.lc,sr ls,w1,w2])/\∀i' j,i'<i->js[i']?=some j->∀v'∈P.ws,¬Ov P fm j v') ⟨qas.refl _,⟨none,none,rfl⟩,fun i' j h=>by omega⟩ ?_ ?_ ?_
 .rintro i σ H' _ ⟨sm,_⟩;exact sm.seq (SqL.of hL1)
 .rintro i v σ H' hv ⟨sm,⟨w1,w2,rfl⟩,hno⟩;rw[zC] at hv;obtain⟨j,hji,rfl⟩:=vQ.mp hv;have jn:=hj j (zD hji);have pa':=pa.same (s1.trans sm);have ew:=pa'.w;obtain⟨qa,kq,fq,xq,hq1,hq2,hq4⟩:=hsum j jn;obtain⟨tc,tc1,tc2,tc3,tc4,tc5⟩:=f.tc jn;have xc:atI (P.tc.map fun t=>V.ref t.a) (j:Int)=some (.ref tc.a):=qau (by rw[zC,tc1];rfl);have xn:atI (P.nm.map V.str) (j:Int)=some (.str (nmF P j)):=by rw[qbv jn];exact qau (by rw[zC,zA jn];rfl)
  rw[show iV j=V.int (j:Int) from rfl];generalize ((j:Nat):Int)=jI at*;clear hv;left;refine qfc (SqL.of ew) #[] fun l ss hl hp hs=>?_;have s2:=sm.trans (qa4 hl (.lst (ss.map V.str)));have el:upd H' l (.lst (ss.map V.str)) l=some (.lst (ss.map V.str)):=qa1;generalize upd H' l (.lst (ss.map V.str))=H2 at*;have pw:=qdd hs;have pa2:=pa.same (s1.trans s2);clear ew pa' hl;left;refine qf0 (xs:=ss.map V.str) (fun m σ H3=>H3=H2/\(∃w,σ=[sr p,sr ll,sr lm,sr P.lw,sr P.ln,sr P.le,sr P.lp,sr P.lc,sr ls,some (.int jI),w])/\∀v'∈ss.take m,¬Ov P fm j v') ⟨rfl,⟨_,rfl⟩,fun v' h=>by simp at h⟩ ?_ ?_ ?_
  .rintro m σ H3 _ ⟨rfl,_⟩;exact SqL.of el
  .rintro m v σ H3 hv2 ⟨rfl,⟨w,rfl⟩,hno2⟩;rw[zC] at hv2;obtain⟨u,hu,rfl⟩:=vQ.mp hv2;obtain⟨hmk,eu⟩:=uH.mp hu;have huw:u∈P.ws:=hp.mem_iff.mp (zD hu);have els2:=s2 _ _ els;have ec2:=pa2.cp;have en2:=pa2.n;have hRq:Rd H3 qa (.dK kq):=.inl (s2 _ _ hq1);have hRc:Rd H3 tc.a (.dK tc.k):=.inl (pa2.cd tc tc2);have hRm:Rd H3 lm (.dK km):=.inl ((s1.trans s2) _ _ hm);clear hv2;left;refine qb5 (SqL.of els2) xq ?_;left;refine qb5 (SqL.of ec2) xc ?_;left;have eOv:gN tc.f u<gN fq u+gN fm u↔Ov P fm j u:=by unfold Ov;rw[tc3,hq4 u]
   by_cases c:gN tc.f u<gN fq u+gN fm u
   .rw[iO (iP c)];left;rename_i p1 hp1;refine qb5 (SqL.of (qa7 en2 hp1)) xn ?_;left;rename_i p2 hp2 p3 hp3;refine q p3 [uO "promise"] [nmF P j,u] _ ((s1.trans s2).trans (((qa4 hp1 _).trans (qa4 hp2 _)).trans (qa4 hp3 _))) ((s1.trans s2).free ((qa4 hp1 _).free ((qa4 hp2 _).free hp3))) ⟨p1,p2,qa1,qa7 (qa7 qa1 hp2) hp3,qa7 qa1 hp3⟩ (.inr ⟨i,j,u,hji,huw,eOv.mp c,fun v' hv' ho=>?_,hno,rfl,rfl⟩);obtain⟨m',hm',em'⟩:=zR.mp (hp.mem_iff.mpr hv');rcases bY m' m with lt|e|lt
    .refine absurd ho (hno2 v' ?_);rw[<-em'];exact List.mem_take_iff_getElem.mpr ⟨m',#[],rfl⟩
    .subst e;rw[<-em',<-eu];exact qh2 _
    .have:=(zQ.mp pw) m m' hmk hm' lt;rw[eu,em'] at this;exact this
   .rw[iN (by rw[iQ c];exact uL)];left;refine⟨rfl,⟨_,rfl⟩,fun v' hv'=>?_⟩;rw[yB,hu] at hv';rcases zT.mp hv' with h|h
    .exact hno2 v' h
    .rw[show v'=u by simpa using h];exact fun h=>c (eOv.mpr h)
  .rintro σ H3 ⟨rfl,⟨w,rfl⟩,hno2⟩;rw[zB,yG] at hno2;refine⟨s2,⟨_,_,rfl⟩,fun i' j' hi' hj' v' hv'=>?_⟩;rcases vZ i' i with lt|ge
   .exact hno i' j' lt hj' v' hv'
   .have:i'=i:=by omega
    subst this;rw[hji] at hj'
    cases hj'
    exact hno2 v' (hp.mem_iff.mpr hv')
 .rintro σ H' ⟨sm,⟨w1,w2,rfl⟩,hno⟩;rw[zB] at hno;left;rename_i p1 hp1 p2 hp2 p3 hp3;refine q p3 [] [] _ ((s1.trans sm).trans (((qa4 hp1 _).trans (qa4 hp2 _)).trans (qa4 hp3 _))) ((s1.trans sm).free ((qa4 hp1 _).free ((qa4 hp2 _).free hp3))) ⟨p1,p2,qa1,qa7 (qa7 qa1 hp2) hp3,qa7 qa1 hp3⟩ (.inl ⟨rfl,rfl,fun j hj' v hv=>?_⟩);obtain⟨i',hi',e'⟩:=zR.mp hj';exact hno i' j hi' (by rw[zA hi',e']) v hv
def wck(K:uY)(d:Ad):Sp:=fun vs H Q _=>∃x:V,vs=[x]/\((∃i,x=.int i)/\Q (.bl true) H\/NoI K H x/\Q (.bl false) H)
include T in
theorem w7g:jab P w K mg base CX0 1 d.w9q d.w7v ["_law_found"] (wck K d):=by
 exists T.w7h.ok wc7
 .right
 obtain⟨x,rfl,h⟩:=h;exists qa6 (qaj (jbp (qac qbq rfl T.w04 uJ #[pv 0,qc4 (v:=.ty "int") rfl T.wd2 eZ rfl]) (qg4 (jkb (qac qbq rfl T.w04 uJ #[pv 0,qc4 (v:=.ty "bool") rfl T.wct PyProof.Rows.boot_bool rfl]))))),[some (x)];rcases h with⟨⟨i,rfl⟩,q⟩|⟨⟨b,rfl⟩|⟨t,ty,e⟩,q⟩
 .left;exact q
 .left;exact q
 .left;exact q
def wdn(K:uY)(d:Ad):Sp:=fun vs H Q _=>∃(a:Addr)(k:List (Key×V))(f:Str->Option Int),vs=[.ref a]/\H a=some (.dK k)/\AD k f/\k.length<=1000/\∀l k' H',qas H H'->H l=none->H' l=some (.dK k')->AD k' (qbm f)->Q (.ref l) H'
include T in
theorem wd6:jab P w K mg base CX0 1 d.wbo d.wa0 ["_law_handed"] (wdn K d):=by
 exists T.wcq.ok w7b
 .right
 obtain⟨a,kvs,f,rfl,hH,hA,hz,q⟩:=h;exists (qa3 (qag (i:=1) w7b.nd rfl (uK rfl) qc3)
  (qa3 (qew (qbl vJ rfl (jd4 (jdp yV dM PySem.F.type_dict_items jd3 (pv 0))) (jkc rfl (qap (qah (i:=2) w7b.nd rfl (uK rfl)) (qap (qah (i:=3) w7b.nd rfl (uK rfl)) qdf))) (qa6 (qbf (qay (qal qfj (pv 3) qa5 (qar _)) (qa6 (qci (qc1 hr) (pv 1) (pv 2) (pv 3) rfl)) qad)))))
  (qa6 (qaj (pv 1))))),[sr a,none,none,none];left;rename_i p hpn;have ea:=qa7 (o':=.dK []) hH hpn;have npa:p≠a:=(qa8 hH hpn).symm;refine jvt ?_;left;refine jg6 (.inl ea) fun vw hvw=>?_;refine jq9 qa1 (qa7 ea hvw) fun o2=>?_;have npv:p≠vw:=fun z=>by subst z;rw[qa1] at hvw;cases hvw
 refine jg7 (fun i σ H'=>∃(k':List (Key×V))(w1 w2:Option V),σ=[sr a,sr p,w1,w2]/\SameBut a H H'/\H' a=some (.frz o2 (.dK kvs))/\H' p=some (.dK k')/\k'.length<=i/\AD k' (fun y=>if y∈(qc0 kvs).take i then qbm f y else none))
  ⟨[],none,none,rfl,SameBut.at (SameBut.of ((qa4 hpn _).trans (qa4 hvw _))),qa1,by rw[qa9 npa,qa9 npv];exact qa1,uG _,AD.nil.cast fun z=>by simp[noF]⟩ ?_ ?_ ?_
 .rintro i σ H' _ ⟨k',w1,w2,rfl,sb,fz,_⟩;exact fz
 .rintro i k x T' σ H' hk ⟨k',w1,w2,rfl,sb,fz,ep,hlen,hA'⟩ hT;obtain⟨z,n,rfl,rfl,hf,hzi⟩:=hA.at hk;have hi:i<kvs.length:=(uH.mp hk).1;have s5:=qa4 hT (.tup [.str z,.int n]);have eT:upd H' T' (.tup [.str z,.int n]) T'=some (.tup [.str z,.int n]):=qa1;have ep5:=s5 _ _ ep;have fz5:=s5 _ _ fz;have sb5:=sb.same s5;show jsb K _ _ (.ref T') _ (upd H' T' (.tup [.str z,.int n])) _;generalize upd H' T' (.tup [.str z,.int n])=H5 at*;have hk5:k'.length<sizeLine:=by show _<16777216;omega
  left;refine qc8 ?_;left;refine i_2 (fun c=>?_) (fun c=>?_)
  .left;refine⟨_,_,_,rfl,qfz sb5 hpn,by rw[qa9 npa.symm];exact fz5,qa1,?_,(hA'.put z n).cast fun y=>?_⟩
   .have:=qbo k' (vE z) (.int n);omega
   .exact qgn hzi (qbm f) (fun _=>none) (by unfold qbm;rw[hf];exact iO c) y
  .left;refine⟨_,_,_,rfl,sb5,fz5,ep5,#[],hA'.cast fun y=>?_⟩;exact jgt hzi (qbm f) (fun _=>none) (by unfold qbm;rw[hf];exact iN c) y
 .rintro σ H' ⟨k',w1,w2,rfl,sb,fz,ep,_,hA'⟩;refine qdu (qd9 fz (qbh hH)) ?_;left;refine q p k' _ (qb8 hH sb) hpn (by rw[qa9 npa];exact ep) (hA'.cast fun y=>?_);exact qgo hA (qbm f) (fun _=>none) (fun y e=>by unfold qbm;rw[e]) y
theorem jr0{K:uY}{ka kb:List (Key×V)}(ha:H a=some (.dK ka))(hb:H b=some (.dK kb))(ne:a≠b)(A:AD ka f)(B:AD kb f):DEq K H (n+1) (.ref a) (.ref b) true:=by
 have z:=DEq.dd (K:=K) (n:=n) (.inl ha) (.inl hb) ne A.flat B.flat;rw[A.eq B] at z;exact z
inductive jj7(K:uY)(d:Ad)(vs:List V)(H:Hp)(Q:VK)(E:XK):Prop
 |mk(a b:Addr)(ka kb:List (Key×V))(f:Str->Option Int)(_:vs=[.ref a,.ref b])(_:H a=some (.dK ka))(_:H b=some (.dK kb))(_:a≠b)(_:AD ka f)(_:AD kb f)(_:ka.length<=1000)(_:∀H',qas H H'->Q (.bl true) H')
include T in
theorem wcb:jab P w K mg base CX0 2 d.wae d.w83 ["_law_found","_law_due_here"] (jj7 K d):=by
 exists T.wbd.ok wc6
 .right
 obtain⟨a,b,ka,kb,f,rfl,ha,hb,ne,hA,hB,hz,q⟩:=h;refine⟨_,(qa3 (qay (PW.pt (qek (qbr (qbd (qac qbq rfl T.w04 uJ #[pv 0,qc4 (v:=.ty "dict") rfl T.w5d wC rfl]))) (qd6 (qal (jk2 (hu8 hr)) (pv 0) (pv 1) (qar _))))) (qa6 (qaj qdi)) qad)
  (qa6 (qaj (qdh qcu (qac qaw rfl T.w1l vH #[jk4 (qdg (caps:=[]) (cn:=[]) (qc6 rfl rfl (by rfl) (by rfl) rfl trivial (by rfl) rfl trivial ∅) rfl (jha (jdp yV dH PySem.F.type_dict_values jg9 (pv 0))) (fun _ _ _ _=>(jks (qbd (qaf ((w7g T).mono ∅) hr rfl T.w9h T.w7h.kp T.w9b .nil qaz #[pv 0])))) (fun _ _ _ _=>(pv 0)))]) (qac qgg rfl T.w1l vH #[pv 1]) (qar _))))),?_⟩
 walk_at"d"
 try dsimp only[cxC]
 refine qak (σ:=[sr a,sr b]) rfl ?_;left;refine jqo (n:=1) ne ∅ (jr0 (n:=0) ha hb ne hA hB) ?_;left;refine jqs ?_;left;refine jni ?_;left;refine jhc (.inl ha) fun vw hvw=>?_;refine jhb qa1 (qa7 ha hvw) fun o2=>?_;intro C s0 H0 fp na hna;have nva:vw≠a:=(qa8 ha hvw).symm;have hF:upd (upd H vw (je6 vw a)) a (.frz o2 (.dK ka)) a=some (.frz o2 (.dK ka)):=qa1;have sb:SameBut a H (upd (upd H vw (je6 vw a)) a (.frz o2 (.dK ka))):=SameBut.at (SameBut.of (qa4 hvw _));have hna0:H na=none:=by
  by_cases z:na=a
  .subst z;rw[hF] at hna;cases hna
  .rw[qa9 z] at hna;by_cases z2:na=vw
   .subst z2;rw[qa1] at hna;cases hna
   .rw[qa9 z2] at hna;exact hna
 generalize upd (upd H vw (je6 vw a)) a (.frz o2 (.dK ka))=HF at*;refine jdy ka.length (fun i H'=>H'=upd HF na (.lst ((ka.take i).map (·.2)))) rfl ?_ ?_ ?_ ?_
 .rintro i H' hi rfl;exact⟨qa7 hF hna,hi⟩
 .rintro H' rfl;exact⟨qa7 hF hna,uG _⟩
 .rintro i H' v H'' hi rfl ⟨rfl,k,hk⟩;obtain⟨z,n,rfl,rfl,hf,hzi⟩:=hA.at hk;left;refine⟨_,rfl,.inl ⟨⟨n,rfl⟩,?_⟩⟩;have hzz:((ka.take i).map (·.2)).length<sizeLine:=by rw[zB,yN];show _<16777216;omega
  left;rw[qb4,yB,hk,zE];rfl
 rintro H' rfl;rw[yG];have nna:na≠a:=fun z=>by subst z;rw[hF] at hna;cases hna
 have sT:qas H (upd (upd HF na (.lst (ka.map (·.2)))) a (.dK ka)):=qb8 ha (qfz sb hna0);have eN:upd (upd HF na (.lst (ka.map (·.2)))) a (.dK ka) na=some (.lst (ka.map (·.2))):=by rw[qa9 nna];exact qa1
 refine⟨_,qd9 (qa7 hF hna) (qbh ha),?_⟩;show jom _ (upd (upd HF na (.lst (ka.map (·.2)))) a (.dK ka)) _;generalize upd (upd HF na (.lst (ka.map (·.2)))) a (.dK ka)=H3 at*;left;refine jg5 (sT _ _ hb) ?_;left;have el:ka.length=kb.length:=by
  have z:=hA.eq hB;rw[vP,beq_iff_eq] at z;exact z.1
 rw[zB,el,iP rfl];exact q _ sT
def w8x(K:uY)(d:Ad):Sp:=fun vs H Q _=>∃x:V,vs=[x]/\((∃z,x=.str z/\(∀c∈qcy z,c<128)/\z.length<=100/\Q (.bl (qbc z)) H)\/(jh2 K H x/\Q (.bl false) H))
include T in
theorem w8b:jab P w K mg base CX0 1 d.w4m d.w45 ["_law_thing"] (w8x K d):=by
 exists T.w6p.ok w5r
 .right
 obtain⟨x,rfl,h⟩:=h;exists (qa3 (qay (PW.pt (qek (qbr (qbd (qac qbq rfl T.w04 uJ #[pv 0,qc4 (v:=.ty "str") rfl T.wbl aJ rfl]))) (qd6 (qbr (qgu jbr jbr qa5 (qac qfp rfl T.w1l vH #[pv 0]) qa5))))) (qa6 (qaj qdi)) qad)
  (qa3 (qbl vJ rfl (jkv (pv 0)) (qah (i:=1) w5r.nd rfl (uK rfl)) (qa6 (qay (qal jb1 (pv 1) qaq (by rfl)) (qa6 (qaj qdi)) qad)))
  (qa6 (qaj qdi)))),[some (x),none];rcases h with⟨z,rfl,hz,hl,q⟩|⟨⟨t,ty,e⟩,q⟩
 .have lz:=jcn z;left;by_cases c1:(1:Int)<=((z.length:Nat):Int)
  .rw[iP c1];refine qez ?_;left;by_cases c8:((z.length:Nat):Int)<=8
   .rw[iP c8];left;refine jrk (fun i σ H'=>H'=H/\(∃w,σ=[some (.str z),w])/\∀j c,j<i->z.cps[j]?=some c->isL c=true) ⟨rfl,⟨_,rfl⟩,fun j c hj=>absurd hj (wL j)⟩ ?_ ?_
    .rintro i c σ H' hc ⟨rfl,⟨w,rfl⟩,hno⟩;have c128:c<128:=hz c (by unfold qcy;exact xT.mpr (cC hc));left;refine⟨_,_,rfl,rfl,?_⟩;rw[inL c c128]
     cases ci:isL c with
     |true=>
      left;refine⟨rfl,⟨_,rfl⟩,fun j c' hj hc'=>?_⟩;rcases vZ j i with h|h
      .exact hno j c' h hc'
      .obtain rfl:j=i:=by omega
       rw[hc] at hc'
       cases hc'
       exact ci
     |false=>
      left;have:qbc z=false:=by
       unfold qbc;rw[Bool.and_eq_false_iff];refine .inr (cY.mpr fun h=>?_);have:=zZ.mp h c (by unfold qcy;exact xT.mpr (cC hc));rw[ci] at this;cases this
      rw[this] at q;exact q
    .rintro σ H' ⟨rfl,⟨w,rfl⟩,hno⟩;left;have:qbc z=true:=by
      unfold qbc;rw[iP (show 1<=z.length by omega),iP (show z.length<=8 by omega),Bool.and_self,Bool.true_and,zZ];intro c hc;unfold qcy at hc;obtain⟨j,hj⟩:=yC.mp hc;rw[xR] at hj;exact hno j c (wI.mp hj).1 hj
     rw[this] at q;exact q
   .rw[iQ c8];left;have:qbc z=false:=by unfold qbc;rw[iQ (show ¬z.length<=8 by omega),aR];rfl
    rw[this] at q;exact q
  .rw[iQ c1];refine jkl ?_;left;have:qbc z=false:=by unfold qbc;rw[iQ (show ¬1<=z.length by omega)];rfl
   rw[this] at q;exact q
 .left;exact q
theorem jig:(ws.any fun y=>decide (MK.k (.inr z)=MK.k (.inr y)))=decide (z∈ws):=by
 rw[xS,yQ,decide_eq_true_iff];constructor
 .rintro⟨y,hy,e⟩;have e:=of_decide_eq_true e;injection e with e
  injection e with e
  rw[e];exact hy
 .intro h;exact⟨z,h,iP rfl⟩
inductive Hk(P:uI)(w:vA)(K:uY)(ws:List Str)(f:Str->Option Int)(x:V)(H:Hp):Nat->Prop
 |no(h:∀H',qas H H'->NoD K H' x):Hk P w K ws f x H 1
 |mx{a:Addr}{kvs:List MV}(hx:x=.ref a)(h:MD P w H a kvs)(b:∃p∈kvs,∀z∈ws,p.1≠MK.k (.inr z)):Hk P w K ws f x H 2
 |ky{a:Addr}{kvs:List (Key×V)}(hx:x=.ref a)(h:H a=some (.dK kvs))(t:∀p∈kvs,∃z,p.1=vE z)(b:∃p∈kvs,∀z∈ws,p.1≠vE z):Hk P w K ws f x H 2
 |vl{a:Addr}{kvs:List (Key×V)}(hx:x=.ref a)(h:H a=some (.dK kvs))(nd:(kvs.map (·.1)).Nodup)(t:∀p∈kvs,∃z∈ws,p.1=vE z)(v:∀p∈kvs,AmV H p.2\/Bd H p.2)(b:∃p∈kvs,Bd H p.2):Hk P w K ws f x H 1
 |ok{a:Addr}{kvs:List (Key×V)}(hx:x=.ref a)(h:H a=some (.dK kvs))(A:AD kvs f)(z:kvs.length<=1000)(hf:Fin ws f):Hk P w K ws f x H 0
noncomputable def wdB(n:Nat):Str:=uO (if n=0 then "" else if n=1 then "amount" else "ware")
theorem jr1:wdB 0=uO "":=by unfold wdB;rw[iO rfl]
theorem jn9:wdB 1=uO "amount":=by unfold wdB;rw[iN ∅,iO rfl]
theorem joa:wdB 2=uO "ware":=by unfold wdB;rw[iN ∅,iN ∅]
def we2(P:uI)(w:vA)(K:uY)(d:Ad):Sp:=fun vs H Q _=>∃(x:V)(wa:Addr)(ws:List Str)(f:Str->Option Int)(n:Nat),vs=[x,.ref wa]/\H wa=some (.lst (ws.map V.str))/\Hk P w K ws f x H n/\∀H',qas H H'->Q (.str (wdB n)) H'
include T in
theorem wds:jab P w K mg base CX0 2 d.wdc d.wbp ["_law_handed","_law_wares"] (we2 P w K d):=by
 exists T.we5.ok wc5
 .right
 obtain⟨x,wa,ws,f,n,rfl,hw,h,q⟩:=h;exists (qa3 (qay (qbr (qbd (qac jcm rfl T.w04 uJ #[pv 0,qc4 (v:=.ty "dict") rfl T.w5d wC rfl]))) (qa6 (qaj qaq)) qad)
  (qa3 (qew (qbl vJ rfl (qgz (pv 0)) (qah (i:=2) wc5.nd rfl (uK rfl)) (qa6 (qay (qal (jrj (hu8 hr)) (pv 2) (pv 1) (by rfl)) (qa6 (qaj qaq)) qad))))
  (qa3 (qew (qbl vJ rfl (jha (jdp yV dH PySem.F.type_dict_values jg9 (pv 0))) (qah (i:=3) wc5.nd rfl (uK rfl)) (qa6 (qay (PW.pt (qek (qbr (qbd (qaf ((w7g T).mono ∅) hr rfl T.w9h T.w7h.kp T.w9b .nil qaz #[pv 3]))) (qd6 (qbr (qgu jbr jbr qa5 (pv 3) (qae qeb qa5 qa5)))))) (qa6 (qaj qaq)) qad))))
  (qa6 (qaj qaq))))),[some (x),sr wa,none,none];left
 cases h with
 |no h=>
  rw[jn9] at q;obtain⟨t,ty,ek⟩:=h H (qas.refl _);refine qev (jml ty ek ?_);left;exact q _ (qas.refl _)
 |mx hx h b=>
  rw[joa] at q;rename_i a kvs;subst hx;refine jli h ?_;left;refine jiu ?_;left;refine jlh h fun o ho=>?_;refine jhl (fun i σ H'=>H'=H/\(∃w2,σ=[sr a,sr wa,w2,none])/\∀j p,j<i->kvs[j]?=some p->∃z∈ws,p.1=MK.k (.inr z)) ⟨rfl,⟨_,rfl⟩,fun j p hj=>absurd hj (wL j)⟩ ?_ ?_ ?_
  .rintro i σ H' _ ⟨rfl,_⟩;exact ho
  .rintro i p σ H' hp ⟨rfl,⟨w2,rfl⟩,hno⟩;have hk:=h.ks p (zD hp);left;refine jjw hk (SqL.of hw) ?_;by_cases c:∃z∈ws,p.1=MK.k (.inr z)
   .rw[show(ws.any fun z=>decide (p.1=MK.k (.inr z)))=true from yQ.mpr (c.imp fun z h=>⟨h.1,iP h.2⟩)];show ∃k,V.bl false=V.bl k/\_;left;refine⟨rfl,⟨_,rfl⟩,fun j p' hj hp'=>?_⟩;rcases vZ j i with hl|hl
    .exact hno j p' hl hp'
    .obtain rfl:j=i:=by omega
     rw[hp] at hp'
     cases hp'
     exact c
   .rw[show(ws.any fun z=>decide (p.1=MK.k (.inr z)))=false from cY.mpr fun h=>c (by obtain⟨z,hz,e⟩:=yQ.mp h;exact⟨z,hz,of_decide_eq_true e⟩)];show ∃k,V.bl true=V.bl k/\_;refine⟨true,rfl,qez ?_⟩;show ∃H2,jcg _ _ H2/\Q (V.str (uO "ware")) H2;exact⟨_,jna,q _ (qas.refl _)⟩
  .rintro σ H' ⟨rfl,⟨w2,rfl⟩,hno⟩;obtain⟨p,hp,hb⟩:=b;obtain⟨j,hj⟩:=yC.mp hp;obtain⟨z,hz,ez⟩:=hno j p (uH.mp hj).1 hj;exact absurd ez (hb z hz)
 |ky hx h t b=>
  rw[joa] at q;rename_i a kvs;subst hx;refine qev ?_;left;refine jiu ?_;left;refine qeu h fun o=>?_;have hwa:wa≠a:=qds hw h (by intro z;cases z);have hw':upd H a (.frz o (.dK kvs)) wa=some (.lst (ws.map V.str)):=by rw[qa9 hwa];exact hw
  refine qdw (fun i σ H'=>H'=upd H a (.frz o (.dK kvs))/\(∃w2,σ=[sr a,sr wa,w2,none])/\∀j p,j<i->kvs[j]?=some p->∃z∈ws,p.1=vE z) ⟨rfl,⟨_,rfl⟩,fun j p hj=>absurd hj (wL j)⟩ ?_ ?_ ?_
  .rintro i σ H' _ ⟨rfl,_⟩;exact qa1
  .rintro i k v σ H' hp ⟨rfl,⟨w2,rfl⟩,hno⟩;obtain⟨z,ez⟩:=t _ (zD hp);obtain rfl:k=vE z:=ez;show qdl _ (.str z) _ _ _;left;refine jjw (k:=.k (.inr z)) rfl (SqL.of hw') ?_;rw[jig];by_cases c:z∈ws
   .rw[iP c];show ∃k,V.bl false=V.bl k/\_;left;refine⟨rfl,⟨_,rfl⟩,fun j p' hj hp'=>?_⟩;rcases vZ j i with hl|hl
    .exact hno j p' hl hp'
    .obtain rfl:j=i:=by omega
     rw[hp] at hp'
     cases hp'
     exact⟨z,c,rfl⟩
   .rw[iQ c];show ∃k,V.bl true=V.bl k/\_;refine⟨true,rfl,qez ?_⟩;show ∃H2,jcg _ _ H2/\Q (V.str (uO "ware")) H2;exact⟨_,qd9 qa1 (qbh h),q _ (qb8 h (qde h))⟩
  .rintro σ H' ⟨rfl,⟨w2,rfl⟩,hno⟩;obtain⟨p,hp,hb⟩:=b;obtain⟨j,hj⟩:=yC.mp hp;obtain⟨z,hz,ez⟩:=hno j p (uH.mp hj).1 hj;exact absurd ez (hb z hz)
 |vl hx h nd t v b=>
  rw[jn9] at q;rename_i a kvs;subst hx;refine qev ?_;left;refine jiu ?_;left;refine qeu h fun o=>?_;have hwa:wa≠a:=qds hw h (by intro z;cases z);have hw':upd H a (.frz o (.dK kvs)) wa=some (.lst (ws.map V.str)):=by rw[qa9 hwa];exact hw
  refine qdw (fun i σ H'=>H'=upd H a (.frz o (.dK kvs))/\(∃w2,σ=[sr a,sr wa,w2,none])) ⟨rfl,⟨_,rfl⟩⟩ ?_ ?_ ?_
  .rintro i σ H' _ ⟨rfl,_⟩;exact qa1
  .rintro i k v σ H' hp ⟨rfl,⟨w2,rfl⟩⟩;obtain⟨z,hz,ez⟩:=t _ (zD hp);obtain rfl:k=vE z:=ez;show qdl _ (.str z) _ _ _;left;refine jjw (k:=.k (.inr z)) rfl (SqL.of hw') ?_;rw[jig,iP hz];show ∃k,V.bl false=V.bl k/\_;left;exact⟨rfl,⟨_,rfl⟩⟩
  .rintro σ H' ⟨rfl,⟨w2,rfl⟩⟩;refine qdu (qd9 qa1 (qbh h)) ?_;have s2:=qb8 h (qde (o:=o) h);have ha2:upd (upd H a (.frz o (.dK kvs))) a (.dK kvs) a=some (.dK kvs):=qa1;clear hw';generalize upd (upd H a (.frz o (.dK kvs))) a (.dK kvs)=H2 at*;left;refine jni ?_;left;refine jhc (.inl ha2) fun vw hvw=>?_;refine jhb qa1 (qa7 ha2 hvw) fun o2=>?_;have sv:=qa4 hvw (je6 vw a);have ha3:=sv _ _ ha2;generalize upd H2 vw (je6 vw a)=H3 at*;have s3:=s2.trans sv;refine jhn (fun i σ H'=>H'=upd H3 a (.frz o2 (.dK kvs))/\(∃w3,σ=[sr a,sr wa,w2,w3])/\∀j p,j<i->kvs[j]?=some p->¬Bd H p.2) ⟨rfl,⟨_,rfl⟩,fun j p hj=>absurd hj (wL j)⟩ ?_ ?_ ?_
   .rintro i σ H' _ ⟨rfl,_⟩;exact qa1
   .rintro i k y σ H' hp ⟨rfl,⟨w3,rfl⟩,hno⟩;have hv:=v _ (zD hp);dsimp only at hv;left;rcases hv with⟨n,rfl,n0,n1⟩|bd
    .refine⟨_,rfl,.inl ⟨⟨n,rfl⟩,?_⟩⟩;left;refine⟨rfl,⟨_,rfl⟩,fun j p' hj hp'=>?_⟩;rcases vZ j i with hl|hl
     .exact hno j p' hl hp'
     .obtain rfl:j=i:=by omega
      rw[hp] at hp'
      cases hp'
      exact AmV.no ⟨n,rfl,n0,n1⟩
    .have fin:=q _ (s3.trans (qb8 ha3 (qde (o:=o2) ha3)));rcases((bd.same s3).put (o:=.frz o2 (.dK kvs)) ha3).noI (K:=K) with⟨n,rfl,hn⟩|nI
     .refine⟨_,rfl,.inl ⟨⟨n,rfl⟩,?_⟩⟩;left;by_cases n0:0<=n
      .rw[iP n0];refine qez ?_;left;rw[show(10:Int)^wB 30=10^30 from rfl,iQ (show ¬n<=10^30 by omega)];refine qez ?_;show ∃H2,jcg _ _ H2/\Q (V.str (uO "amount")) H2;exact⟨_,qd9 qa1 (qbh h),fin⟩
      .rw[iQ n0];refine jkl ?_;refine⟨false,rfl,qez ?_⟩;show ∃H2,jcg _ _ H2/\Q (V.str (uO "amount")) H2;exact⟨_,qd9 qa1 (qbh h),fin⟩
     .refine⟨_,rfl,.inr ⟨nI,?_⟩⟩;refine⟨false,rfl,qez (qez ?_)⟩;show ∃H2,jcg _ _ H2/\Q (V.str (uO "amount")) H2;exact⟨_,qd9 qa1 (qbh h),fin⟩
   .rintro σ H' ⟨rfl,⟨w3,rfl⟩,hno⟩;obtain⟨p,hp,hb⟩:=b;obtain⟨j,hj⟩:=yC.mp hp;exact absurd hb (hno j p (uH.mp hj).1 hj)
 |ok hx h A z hf=>
  rw[jr1] at q;rename_i a kvs;subst hx;refine qev ?_;left;refine jiu ?_;left;refine qeu h fun o=>?_;have hwa:wa≠a:=qds hw h (by intro z;cases z);have hw':upd H a (.frz o (.dK kvs)) wa=some (.lst (ws.map V.str)):=by rw[qa9 hwa];exact hw
  refine qdw (fun i σ H'=>H'=upd H a (.frz o (.dK kvs))/\(∃w2,σ=[sr a,sr wa,w2,none])) ⟨rfl,⟨_,rfl⟩⟩ ?_ ?_ ?_
  .rintro i σ H' _ ⟨rfl,_⟩;exact qa1
  .rintro i k v σ H' hp ⟨rfl,⟨w2,rfl⟩⟩;obtain⟨z,n,rfl,rfl,hfz,hzi⟩:=A.at hp;show qdl _ (.str z) _ _ _;left;refine jjw (k:=.k (.inr z)) rfl (SqL.of hw') ?_;rw[jig,iP (hf z n hfz).1];show ∃k,V.bl false=V.bl k/\_;left;exact⟨rfl,⟨_,rfl⟩⟩
  .rintro σ H' ⟨rfl,⟨w2,rfl⟩⟩;refine qdu (qd9 qa1 (qbh h)) ?_;have s2:=qb8 h (qde (o:=o) h);have ha2:upd (upd H a (.frz o (.dK kvs))) a (.dK kvs) a=some (.dK kvs):=qa1;clear hw';generalize upd (upd H a (.frz o (.dK kvs))) a (.dK kvs)=H2 at*;left;refine jni ?_;left;refine jhc (.inl ha2) fun vw hvw=>?_;refine jhb qa1 (qa7 ha2 hvw) fun o2=>?_;have sv:=qa4 hvw (je6 vw a);have ha3:=sv _ _ ha2;generalize upd H2 vw (je6 vw a)=H3 at*;have s3:=s2.trans sv;refine jhn (fun i σ H'=>H'=upd H3 a (.frz o2 (.dK kvs))/\(∃w3,σ=[sr a,sr wa,w2,w3])) ⟨rfl,⟨_,rfl⟩⟩ ?_ ?_ ?_
   .rintro i σ H' _ ⟨rfl,_⟩;exact qa1
   .rintro i k y σ H' hp ⟨rfl,⟨w3,rfl⟩⟩;obtain⟨z,n,rfl,rfl,hfz,hzi⟩:=A.at hp;obtain⟨_,n0,n1⟩:=hf z n hfz;left;refine⟨_,rfl,.inl ⟨⟨n,rfl⟩,?_⟩⟩;left;exact⟨rfl,⟨_,rfl⟩⟩
   .rintro σ H' ⟨rfl,⟨w3,rfl⟩⟩;refine qdu (qd9 qa1 (qbh h)) ?_;left;exact q _ (s3.trans (qb8 ha3 (qde ha3)))
noncomputable def clA(d:Ad)(n:Nat):Addr:=if n=1 then d.w03 else d.w0a
theorem Hk.same{P:uI}{w:vA}{K:uY}{ws:List Str}{f:Str->Option Int}{x:V}{H H':Hp}{n:Nat}(h:Hk P w K ws f x H n)(s:qas H H'):Hk P w K ws f x H' n:=by
 cases h with
 |no h=>exact .no fun H2 s2=>h H2 (s.trans s2)
 |mx hx h b=>exact .mx hx (h.same s) b
 |ky hx h t b=>exact .ky hx (s _ _ h) t b
 |vl hx h nd t v b=>exact .vl hx (s _ _ h) nd t (fun p hp=>(v p hp).imp (fun a=>a) fun a=>a.same s) (b.imp fun p hp=>⟨hp.1,hp.2.same s⟩)
 |ok hx h A z hf=>exact .ok hx (s _ _ h) A z hf
theorem Hk.perm{P:uI}{w:vA}{K:uY}{ws':List Str}(h:Hk P w K ws f x H n)(p:ws'.Perm ws):Hk P w K ws' f x H n:=by
 cases h with
 |no h=>exact .no h
 |mx hx h b=>exact .mx hx h (b.imp fun q hq=>⟨hq.1,fun z hz=>hq.2 z (p.mem_iff.mp hz)⟩)
 |ky hx h t b=>exact .ky hx h t (b.imp fun q hq=>⟨hq.1,fun z hz=>hq.2 z (p.mem_iff.mp hz)⟩)
 |vl hx h nd t v b=>exact .vl hx h nd (fun q hq=>(t q hq).imp fun z hz=>⟨p.mem_iff.mpr hz.1,hz.2⟩) v b
 |ok hx h A z hf=>exact .ok hx h A z (qd4 hf p)
theorem Hk.am{P:uI}{w:vA}{K:uY}{d:Ad}(h:Hk P w K ws f x H n)(n0:n≠0):Am P w K d ws x (clA d n) H:=by
 intro H' s Q0 E0 e;have g:=h.same s;clear h
 cases g with
 |no h=>exact .no (h H' (qas.refl _)) e
 |mx hx h b=>exact .mx hx h b e
 |ky hx h t b=>exact .ky hx h t b e
 |vl hx h nd t v b=>exact .vl hx h nd t v b e
 |ok hx h A z hf=>exact absurd rfl n0
theorem Hk.amO{P:uI}{w:vA}{K:uY}{d:Ad}(h:Hk P w K ws f x H 0):AmO P w K d ws x f H:=by
 intro H' s Q0 E0 q;have g:=h.same s;clear h
 cases g with
 |ok hx h A z hf=>exact .ok hx h A z hf q
inductive Th where
 |fl(v:V)
 |li(ws:List Str)
 |tu(ws:List Str)
 |dk(kvs:List (Key×V))
 |mx(es:List (MK×V))
noncomputable def fl4:V->Bool
 | .non| .bl _| .int _| .str _=>true
 |_=>false
theorem jlu(h:fl4 v=true):okV v=true:=by cases v<;>first|rfl|cases h
theorem jek(h:fl4 v=true):qd3 v=true:=by cases v<;>first|rfl|cases h
theorem jr2(h:fl4 v=true):eqV v v=true:=by
 cases v<;>first|cases h|skip
 .rfl
 .rename_i b;cases b<;>rfl
 .exact beq_self_eq_true _
 .exact beq_self_eq_true _
noncomputable def qdt(P:uI)(w:vA)(H:Hp):Th->V->Prop
 | .fl v,x=>x=v/\fl4 v=true
 | .li ws,x=>∃a,x=.ref a/\H a=some (.lst (ws.map V.str))
 | .tu ws,x=>∃a,x=.ref a/\H a=some (.tup (ws.map V.str))
 | .dk kvs,x=>∃a,x=.ref a/\H a=some (.dK kvs)/\∀p∈kvs,fl4 p.2=true
 | .mx es,x=>∃a kvs,x=.ref a/\MD P w H a kvs/\(kvs.map fun p=>(p.1,p.2.2))=es/\∀p∈kvs,okV p.2.2=true
section
variable{P:uI}{w:vA}{K:uY}{H H':Hp}{t:Th}{x y:V}
theorem qdt.same(h:qdt P w H t x)(s:qas H H'):qdt P w H' t x:=by
 cases t with
 |fl v=>exact h
 |li ws=>obtain⟨a,e,h⟩:=h;exact⟨a,e,s _ _ h⟩
 |tu ws=>obtain⟨a,e,h⟩:=h;exact⟨a,e,s _ _ h⟩
 |dk kvs=>obtain⟨a,e,h,f⟩:=h;exact⟨a,e,s _ _ h,f⟩
 |mx es=>obtain⟨a,kvs,e,h,f⟩:=h;exact⟨a,kvs,e,h.same s,f⟩
theorem qdt.sbO{ks:List (Str×Addr)}{ho:Addr}(h:qdt P w H t x)(hb:H b=some (.dK (oK ks)))(hl:qdc ks z=some ho)(s:SameBut b H H'):qdt P w H' t x:=by
 cases t with
 |fl v=>exact h
 |li ws=>obtain⟨a,e,h⟩:=h;exact⟨a,e,s _ _ (qds h hb (by intro z;cases z)) h⟩
 |tu ws=>obtain⟨a,e,h⟩:=h;exact⟨a,e,s _ _ (qds h hb (by intro z;cases z)) h⟩
 |dk kvs=>
  obtain⟨a,e,h,f⟩:=h;refine⟨a,e,s _ _ (qds h hb fun q=>?_) h,f⟩;have q2:kvs=oK ks:=by injection q
  have q3:qco (oK ks) (vE z)=some (.ref ho):=by rw[qf9,hl];rfl
  rw[<-q2] at q3;have:=f _ (qgk q3)
  cases this
 |mx es=>
  obtain⟨a,kvs,e,h,f⟩:=h;obtain⟨o,eo,mo⟩:=h.ob;exact⟨a,kvs,e,⟨⟨o,s _ _ (qds eo hb (by intro z;cases z)) eo,mo⟩,fun p hp=>(h.ks p hp).keep fun c xs q=>s _ _ (qds q hb (by intro z;cases z)) q,h.nd,h.sy⟩,f⟩
theorem qdt.xeq(h:qdt P w H t x)(h':qdt P w H t y):XEq P w K H x y:=by
 cases t with
 |fl v=>
  obtain⟨rfl,f⟩:=h;obtain⟨rfl,_⟩:=h';have:=DEq.flat (K:=K) (H:=H) (n:=4) (jek f) (jek f);rw[jr2 f] at this;exact .inl this
 |li ws=>
  obtain⟨a,rfl,h⟩:=h;obtain⟨b,rfl,h'⟩:=h';by_cases c:a=b
  .subst c;exact .inl .same
  .have:=qeh (K:=K) (n:=3) (SqL.of h) (SqL.of h') c;rw[iP rfl] at this;exact .inl this
 |tu ws=>
  obtain⟨a,rfl,h⟩:=h;obtain⟨b,rfl,h'⟩:=h';by_cases c:a=b
  .subst c;exact .inl .same
  .have z:=DEq.ts (K:=K) (n:=3) (e:=fun _=>true) (.inl (.inl h)) (.inl (.inl h')) c fun j h1 h2=>by
    have:=DEq.flat (K:=K) (H:=H) (n:=3) (x:=(ws.map V.str)[j]) (y:=(ws.map V.str)[j]) (by rw[yR];rfl) (by rw[yR];rfl);rw[show eqV (ws.map V.str)[j] (ws.map V.str)[j]=true by rw[yR];exact beq_self_eq_true _] at this;exact this
   rw[show((uN (min (ws.map V.str).length (ws.map V.str).length)).all (fun _=>true) && (ws.map V.str).length==(ws.map V.str).length)=true by simp] at z;exact .inl z
 |dk kvs=>
  obtain⟨a,rfl,h,f⟩:=h;obtain⟨b,rfl,h',_⟩:=h';by_cases c:a=b
  .subst c;exact .inl .same
  .refine .inr ⟨a,b,_,_,rfl,rfl,c,.inr ⟨kvs,h,rfl⟩,.inr ⟨kvs,h',rfl⟩,rfl,fun p hp=>?_⟩;obtain⟨q,hq,rfl⟩:=zM.mp hp;exact jlu (f q hq)
 |mx es=>
  obtain⟨a,ka,rfl,h,e,f⟩:=h;obtain⟨b,kb,rfl,h',e',_⟩:=h';by_cases c:a=b
  .subst c;exact .inl .same
  .exact .inr ⟨a,b,ka,kb,rfl,rfl,c,.inl h,.inl h',e.trans e'.symm,f⟩
end
noncomputable def Ths(P:uI)(w:vA)(H:Hp):List Th->List V->Prop
 | [],[]=>True
 |t::ts,x::xs=>qdt P w H t x/\Ths P w H ts xs
 |_,_=>False
theorem Ths.get{P:uI}{w:vA}{H:Hp}:∀{ts:List Th} {xs:List V},Ths P w H ts xs->∀(j:Nat),j<ts.length->∃t x,ts[j]?=some t/\xs[j]?=some x/\qdt P w H t x
 | [],[],_,j,hj=>absurd hj (wL j)
 |t::ts,x::xs,h,0,_=>⟨t,x,rfl,rfl,h.1⟩
 |t::ts,x::xs,h,j+1,hj=>Ths.get h.2 j (xJ hj)
 | [],_::_,h,_,_=>h.elim
 |_::_,[],h,_,_=>h.elim
noncomputable def thI(ts:List Th)(c:Int)(n:Int):Th:=(ts[(c%n).toNat]?).getD (.fl .non)
theorem job{P:uI}{w:vA}{K:uY}{l:Addr}{xs:List V}{ts:List Th}{n:Int}(hl:SqL K H l xs)(h:Ths P w H ts xs)(hn:n=(ts.length:Int))(n0:0<n)(q:∀x,qdt P w H (thI ts c n) x->Q x H):joo K (.ref l) (.int (c%n)) H Q:=by
 have m0:=uW c (show n≠0 by omega);have m1:=uU c n0;obtain⟨t,x,e1,e2,e3⟩:=h.get (c%n).toNat #[];have e4:atI xs (c%n)=some x:=by
  have:((c%n).toNat:Int)=c%n:=by omega
  rw[<-this];exact qau e2
 refine qb5 hl e4 (q x ?_);unfold thI;rw[e1];exact e3
def qfd{k:Key} :(k,v)∈qcs kvs k v:=qgk (by rw[jdw,iO rfl])
theorem jih{k:Key}{p:Key×V}(h:p∈kvs)(ne:p.1≠k):p∈qcs kvs k v:=by
 unfold qcs
 split
 .exact zM.mpr ⟨p,h,iN ne⟩
 .exact zY _ h
theorem joc{k:Key}(h:(kvs.map (·.1)).Nodup):((qcs kvs k v).map (·.1)).Nodup:=by
 by_cases c:qco kvs k=none
 .exact jga v h c
 .rw[jci c];exact h
noncomputable def mk4:List MK:=[.k (.inl 5),.no,.k (.inl 1),.tu [vE (uO "a")]]
noncomputable def jvz:List V:=[.int (-1),.int (10^30+1),.bl true,.str (uO "1"),.non]
noncomputable def odW(c:Int)(ws:List Str)(st:Str):Str:=(ws[(c.fdiv 9%(ws.length:Int)).toNat]?).getD st
noncomputable def odK(kvs:List (Key×V))(c:Int)(st:Str):List (Key×V):=if c%9=2\/c%9=8 then qcs kvs (.inr st) (.int 0) else kvs
noncomputable def jel(kvs:List (Key×V))(c:Int)(ws:List Str)(st:Str):Th:=
 if c%9=0 then .fl .non else if c%9=1 then .li (qc0 kvs)
 else if c%9=3 then .mx ((kvs.map fun p=>(MK.k p.1,p.2))++[((mk4[(c.fdiv 9%4).toNat]?).getD .no,.int 1)])
 else if c%9=2 then .dk (odK kvs c st)
 else .dk (qcs (odK kvs c st) (.inr (odW c ws st)) ((jvz[(c%9-4).toNat]?).getD .non))
theorem qer(A:AD kvs f)(hf:Fin ws f)(H:Hp){p:Key×V}(hp:p∈kvs):(∃z∈ws,p.1=vE z)/\AmV H p.2/\fl4 p.2=true:=by
 obtain⟨z,n,e1,e2,e3⟩:=A.mem (k:=p.1) (v:=p.2) hp;obtain⟨h1,h2,h3⟩:=hf z n e3;exact⟨⟨z,h1,e1⟩,⟨n,e2,h2,h3⟩,by rw[e2];rfl⟩
theorem qe8{P:uI}{w:vA}{y:V}{q q':Hp->Prop}(h:joq P w H y v a q)(m:∀H',q H'->q' H'):joq P w H y v a q':=by
 rcases h with⟨H4,g,e⟩|⟨k,ks,h1,h2,h3,h4,e⟩
 .exact .inl ⟨H4,g,m _ e⟩
 .exact .inr ⟨k,ks,h1,h2,h3,h4,fun o md=>m _ (e o md)⟩
def w6x(P:uI)(w:vA)(K:uY)(d:Ad):Sp:=fun vs H Q _=>∃(ha lw:Addr)(kvs:List (Key×V))(f:Str->Option Int)(c:Int)(ws:List Str)(st:Str),vs=[.ref ha,.int c,.ref lw,.str st]/\H ha=some (.dK kvs)/\AD kvs f/\Fin ws f/\H lw=some (.lst (ws.map V.str))/\1<=ws.length/\ws.length<=3/\st∉ws/\
 ∀x H' n,qas H H'->qdt P w H' (jel kvs c ws st) x->Hk P w K ws f x H' n->Q x H'
include T in
theorem w4l:jab P w K mg base CX0 1 d.w3b d.w2z ["_law_handed","_law_cell","_law_wares","_law_stranger"] (w6x P w K d):=by
 exists T.w3m.ok w1z
 .right
 obtain⟨ha,lw,kvs,f,c,ws,st,rfl,hH,hA,hf,hw,w1,w3,hst,q⟩:=h;exists (qa3 (qag (i:=4) w1z.nd rfl (uK rfl) (qae qb1 (pv 1) qa5))
  (qa3 (qay (qal jfi (pv 4) qa5 (qar _)) (qa6 (qaj (qao qab (qam #[qcq,qbu je1 rfl T.wbb eA #[pv 0]]) (pv 4) nofun))) qad)
  (qa3 (qag (i:=5) w1z.nd rfl (uK rfl) (qbu qch rfl T.w5d wC #[pv 0]))
  (qa3 (qag (i:=6) w1z.nd rfl (uK rfl) (qao qab (pv 2) (qae qb1 (qae qav (pv 1) qa5) (qac qaw rfl T.w1l vH #[pv 2])) nofun))
  (qa3 (qbf (qay (PW.pt (qek (qal qcu (pv 4) qa5 (qar _)) (qd6 (qal qcu (pv 4) qa5 (qar _))))) (qa6 (qci (qc1 hr) (pv 5) (pv 3) qa5 rfl)) qad))
  (qa3 (qbf (qay (qal qcu (pv 4) qa5 (qar _)) (qa6 (jjx (hu8 hr) (pv 5) (qao qab (qam #[qa5,qcq,qdi,jfp #[qaq]]) (qae qb1 (qae qav (pv 1) qa5) qa5) nofun) qa5 rfl)) qad))
  (qa3 (qbf (qay (qal qfj (pv 4) qa5 (qar _)) (qa6 (qci (qc1 hr) (pv 5) (pv 6) (qao qab (qam #[jo8 jkg qa5,qae qbp (qae qeb qa5 qa5) qa5,qdi,qaq,qcq]) (qae jdl (pv 4) qa5) nofun) rfl)) qad))
  (qa6 (qaj (pv 5)))))))))),[sr ha,some (.int c),sr lw,some (.str st),none,none,none];have hlk:kvs.length<=3:=by have:=hA.le (fun y hy=>by cases e:f y with|none=>exact absurd e hy|some n=>exact(hf y n e).1);omega
 have hkl:=hA.klen;have hR:Rd H ha (.dK kvs):=.inl hH;have k0:=uW c (show(9:Int)≠0 by decide);have k9:=uU c (show(0:Int)<9 by decide);have hwl:(ws.map V.str).length=ws.length:=zB _;generalize hk:c%9=k at k0 k9;left;rw[hk];left;refine i_2 (fun c2=>?_) (fun c2=>?_)
 .left;refine jnp hR hA.keys #[] fun l hl=>?_;have sl:=qa4 hl (.lst ((qc0 kvs).map V.str));have el:upd H l (.lst ((qc0 kvs).map V.str)) l=some (.lst ((qc0 kvs).map V.str)):=qa1;generalize upd H l (.lst ((qc0 kvs).map V.str))=H1 at*;left;rename_i p hp;have s2:=sl.trans (qa4 hp (.lst [.non,.ref l]));have el2:=qa7 (o':=.lst [.non,.ref l]) el hp;rcases(show k=0\/k=1 by omega) with rfl|rfl
  .refine qb5 (SqL.of qa1) rfl ?_;refine q _ _ 1 s2 ?_ (.no fun H' s=>⟨_,.non,by unfold vY;rfl⟩);unfold jel;rw[iO hk];exact⟨rfl,rfl⟩
  .refine qb5 (SqL.of qa1) rfl ?_;refine q _ _ 1 s2 ?_ (.no fun H' s=>⟨_,.lst (s _ _ el2),by unfold vY;rfl⟩);unfold jel;rw[iN #[],iO hk];exact⟨l,rfl,el2⟩
 left;rename_i l hl;have sl:=qa4 hl (.dK kvs);have el:upd H l (.dK kvs) l=some (.dK kvs):=qa1;have hl0:=hl;generalize upd H l (.dK kvs)=H1 at*;have hw1:=sl _ _ hw;have m0:=uW (c.fdiv 9) (show(ws.length:Int)≠0 by omega);have m1:=uU (c.fdiv 9) (show(0:Int) <(ws.length:Int) by omega);have hmw:atI (ws.map V.str) (c.fdiv 9%(ws.length:Int))=some (.str (odW c ws st))/\odW c ws st∈ws:=by
  unfold odW;generalize c.fdiv 9%(ws.length:Int)=m at*;obtain⟨j,rfl⟩:∃j:Nat,m=(j:Int):=⟨m.toNat,#[]⟩;have hj:j<ws.length:=by omega
  rw[show((j:Nat):Int).toNat=j by omega,zA hj];exact⟨qau (by rw[zC,zA hj];rfl),zJ hj⟩
 obtain⟨ew,mw⟩:=hmw;rw[hwl];refine qb5 (SqL.of hw1) ew ?_;have ewv:odW c ws st=odW c ws st:=rfl;generalize hwv:odW c ws st=wv at*;clear ew m0 m1 ewv;left;have hk1l:(odK kvs c st).length<=4:=by
  unfold odK
  split
  .have:=qbo kvs (vE st) (.int 0);omega
  .omega
 refine qce (fun σ' H'=>σ'=[sr ha,some (.int c),sr lw,some (.str st),some (.int k),sr l,some (.str wv)]/\qas H H'/\H' l=some (.dK (odK kvs c st))) ?_ ?_
 .have hz:kvs.length<sizeLine:=by show _<16777216;omega
  by_cases c28:k=2\/k=8
  .have eO:odK kvs c st=qcs kvs (vE st) (.int 0):=by unfold odK;rw[hk,iO c28]
   rw[eO];rcases c28 with rfl|rfl
   .left;exact⟨rfl,qax sl hl0,qa1⟩
   .left;exact⟨rfl,qax sl hl0,qa1⟩
  .have eO:odK kvs c st=kvs:=by unfold odK;rw[hk,iN c28]
   rw[eO];left;exact⟨rfl,sl,el⟩
 rintro σ' H2 ⟨rfl,s2,el2⟩;left;refine qce (fun σ' H'=>σ'=[sr ha,some (.int c),sr lw,some (.str st),some (.int k),sr l,some (.str wv)]/\qas H H'/\((k≠3/\H' l=some (.dK (odK kvs c st)))\/(k=3/\qdt P w H' (jel kvs c ws st) (.ref l)/\Hk P w K ws f (.ref l) H' 2))) ?_ ?_
 .by_cases c3:k=3
  .subst c3;have eO:odK kvs c st=kvs:=by unfold odK;rw[hk,iN #[]]
   rw[eO] at el2;have j0:=uW (c.fdiv 9) (show(4:Int)≠0 by decide);have j4:=uU (c.fdiv 9) (show(0:Int)<4 by decide);have fin:∀(mk:MK)(y:V)(H3:Hp),(mk4[(c.fdiv 9%4).toNat]?).getD .no=mk->(∀z,mk≠MK.k (.inr z))->MkV H3 mk y->qas H H3->H3 l=some (.dK kvs)->joq P w H3 y (.int 1) l fun H'=>qas H H'/\((3:Int)≠3/\H' l=some (.dK (odK kvs c st))\/(3:Int)=3/\qdt P w H' (jel kvs c ws st) (.ref l)/\Hk P w K ws f (.ref l) H' 2):=by
    intro mk y H3 em nm hy s3 e3;refine juk hy e3 (fun hm=>?_) #[] fun o md=>⟨qax s3 hl0,.inr ⟨rfl,?_,?_⟩⟩
    .obtain⟨p,hp,e⟩:=zM.mp hm;obtain⟨⟨z,_,ez⟩,_⟩:=qer hA hf H hp;exact nm z (by rw[<-e,ez])
    .unfold jel;rw[iN #[],iN #[],iO hk];refine⟨l,_,rfl,md,?_,fun p hp=>?_⟩
     .rw[zE,yS,em];rfl
     .rcases zT.mp hp with hp|hp
      .obtain⟨p',hp',rfl⟩:=zM.mp hp;exact jlu (qer hA hf H hp').2.2
      .rw[zK.mp hp];rfl
    .exact .mx rfl md ⟨(mk,y,.int 1),zO _ (zK.mpr rfl),fun z _=>nm z⟩
   generalize hj:c.fdiv 9%4=j at*;rcases(show j=0\/j=1\/j=2\/j=3 by omega) with rfl|rfl|rfl|rfl
   .left;refine qgs ?_;left;rename_i p1 hp1 p2 hp2;rw[hj];refine qb5 (SqL.of qa1) rfl ?_;exact⟨l,rfl,qe8 (fin (.k (.inl 5)) _ _ rfl (fun z e=>by cases e) (.inl rfl) (s2.trans ((qa4 hp1 _).trans (qa4 hp2 _))) (qa7 (qa7 el2 hp1) hp2)) fun H' h=>⟨rfl,h⟩⟩
   .left;refine qgs ?_;left;rename_i p1 hp1 p2 hp2;rw[hj];refine qb5 (SqL.of qa1) rfl ?_;exact⟨l,rfl,qe8 (fin .no _ _ rfl (fun z e=>by cases e) (show MkV _ _ _ from rfl) (s2.trans ((qa4 hp1 _).trans (qa4 hp2 _))) (qa7 (qa7 el2 hp1) hp2)) fun H' h=>⟨rfl,h⟩⟩
   .left;refine qgs ?_;left;rename_i p1 hp1 p2 hp2;rw[hj];refine qb5 (SqL.of qa1) rfl ?_;exact⟨l,rfl,qe8 (fin (.k (.inl 1)) _ _ rfl (fun z e=>by cases e) (.inr ⟨true,rfl,rfl⟩) (s2.trans ((qa4 hp1 _).trans (qa4 hp2 _))) (qa7 (qa7 el2 hp1) hp2)) fun H' h=>⟨rfl,h⟩⟩
   .left;refine qgs ?_;left;rename_i p1 hp1 p2 hp2;rw[hj];refine qb5 (SqL.of qa1) rfl ?_;exact⟨l,rfl,qe8 (fin (.tu [vE (uO "a")]) _ _ rfl (fun z e=>by cases e) ⟨p1,rfl,qa7 qa1 hp2⟩ (s2.trans ((qa4 hp1 _).trans (qa4 hp2 _))) (qa7 (qa7 el2 hp1) hp2)) fun H' h=>⟨rfl,h⟩⟩
  .left;exact⟨rfl,s2,.inl ⟨c3,el2⟩⟩
 rintro σ' H3 ⟨rfl,s3,h3⟩;left;have fk:∀p∈odK kvs c st,fl4 p.2=true/\∃z,p.1=vE z:=fun p hp=>by
  unfold odK at hp
  split at hp
  .rcases qdn hp with rfl|hp
   .exact⟨rfl,st,rfl⟩
   .obtain⟨⟨z,_,e⟩,_,h⟩:=qer hA hf H hp;exact⟨h,z,e⟩
  .obtain⟨⟨z,_,e⟩,_,h⟩:=qer hA hf H hp;exact⟨h,z,e⟩
 have stw:st≠wv:=fun e=>hst (e▸mw);rcases h3 with⟨n3,el3⟩|⟨rfl,ht,hh⟩
 .refine qce (fun σ' H'=>σ'=[sr ha,some (.int c),sr lw,some (.str st),some (.int k),sr l,some (.str wv)]/\qas H H'/\qdt P w H' (jel kvs c ws st) (.ref l)/\∃n,Hk P w K ws f (.ref l) H' n) ?_ ?_
  .by_cases c3:3<k
   .have hz:(odK kvs c st).length<sizeLine:=by show _<16777216;omega
    have fin:∀(v:V)(H4:Hp),(jvz[(k-4).toNat]?).getD .non=v->fl4 v=true->Bd H4 v->qas H H4->H4 l=some (.dK (qcs (odK kvs c st) (.inr wv) v))->qdt P w H4 (jel kvs c ws st) (.ref l)/\∃n,Hk P w K ws f (.ref l) H4 n:=by
     intro v H4 ev fv bv s4 e4;refine⟨?_,?_⟩
     .unfold jel;rw[hk,iN #[],iN #[],iN #[],iN #[],ev,hwv];refine⟨l,rfl,e4,fun p hp=>?_⟩;rcases qdn hp with rfl|hp
      .exact fv
      .exact(fk p hp).1
     .by_cases c8:k=8
      .refine⟨2,.ky rfl e4 (fun p hp=>?_) ⟨(vE st,.int 0),jih ?_ (fun e=>stw (by injection e)),fun z hz e=>hst (by injection e with e;rw[e];exact hz)⟩⟩
       .rcases qdn hp with rfl|hp
        .exact⟨wv,rfl⟩
        .exact(fk p hp).2
       .unfold odK;rw[hk,iO (.inr c8)];exact qfd
      .have eO:odK kvs c st=kvs:=by unfold odK;rw[hk,iN #[]]
       rw[eO] at e4;refine⟨1,.vl rfl e4 (joc hA.nd) (fun p hp=>?_) (fun p hp=>?_) ⟨_,qfd,bv⟩⟩
       .rcases qdn hp with rfl|hp
        .exact⟨wv,mw,rfl⟩
        .exact(qer hA hf H hp).1
       .rcases qdn hp with rfl|hp
        .exact .inr bv
        .exact .inl (qer hA hf H4 hp).2.1
    rcases(show k=4\/k=5\/k=6\/k=7\/k=8 by omega) with rfl|rfl|rfl|rfl|rfl
    .left;rename_i p hp;exact⟨rfl,qax (s3.trans (qa4 hp _)) hl0,fin _ _ rfl rfl (.far _ (.inl ∅)) (qax (s3.trans (qa4 hp _)) hl0) qa1⟩
    .left;rename_i p hp;exact⟨rfl,qax (s3.trans (qa4 hp _)) hl0,fin _ _ rfl rfl (.far _ (.inr ∅)) (qax (s3.trans (qa4 hp _)) hl0) qa1⟩
    .left;rename_i p hp;exact⟨rfl,qax (s3.trans (qa4 hp _)) hl0,fin _ _ rfl rfl (.bl _) (qax (s3.trans (qa4 hp _)) hl0) qa1⟩
    .left;rename_i p hp;exact⟨rfl,qax (s3.trans (qa4 hp _)) hl0,fin _ _ rfl rfl (.str _) (qax (s3.trans (qa4 hp _)) hl0) qa1⟩
    .left;rename_i p hp;exact⟨rfl,qax (s3.trans (qa4 hp _)) hl0,fin _ _ rfl rfl .non (qax (s3.trans (qa4 hp _)) hl0) qa1⟩
   .have ek:k=2:=by omega
    subst ek;left;refine⟨rfl,s3,?_,2,.ky rfl el3 (fun p hp=>(fk p hp).2) ⟨(vE st,.int 0),?_,fun z hz e=>hst (by injection e with e;rw[e];exact hz)⟩⟩
    .unfold jel;rw[hk,iN #[],iN #[],iN #[],iO rfl];exact⟨l,rfl,el3,fun p hp=>(fk p hp).1⟩
    .unfold odK;rw[hk,iO (.inl rfl)];exact qfd
  .rintro σ' H4 ⟨rfl,s4,ht,n,hh⟩;left;exact q _ _ _ s4 ht hh
 .left;refine qc8 ?_;left;exact q _ _ _ s3 ht hh
noncomputable def hnC(ns:List Int):Int:=if(cell ns 3).fdiv 4%8=7 then 3*cell ns 2 else cell ns 2
def w7u(K:uY)(d:Ad):Sp:=fun vs H Q _=>∃(a:Addr)(ns:List Int)(k:Int),vs=[.ref a,.int k]/\SqL K H a (ns.map V.int)/\0<=k/\k<=1000/\Q (.str (nmS (hnC ns) k)) H
include T in
theorem w59:jab P w K mg base CX0 2 d.w4g d.w3h ["_law_script","_law_k"] (w7u K d):=by
 exists T.w3y.ok w3f
 .right
 obtain⟨a,ns,k,rfl,hS,k0,k1,q⟩:=h;exists (qa3 (qag (i:=2) w3f.nd rfl (uK rfl) (qaf ((w0s T).mono ∅) hr rfl T.w19 T.w0x.kp T.w16 .nil qaz #[pv 0,qa5]))
  (qa3 (qbf (qay (qal qcu (qae qb1 (qae qav (qaf ((w0s T).mono ∅) hr rfl T.w19 T.w0x.kp T.w16 .nil qaz #[pv 0,qa5]) qa5) qa5) qa5 (qar _)) (qa6 (qag (i:=2) w3f.nd rfl (uK rfl) (qae jkf qa5 (pv 2)))) qad))
  (qa6 (qaj (qaf ((w7l T).mono ∅) hr rfl T.was T.w8m.kp T.wai .nil qaz #[pv 2,pv 1]))))),[sr a,some (.int k),none];left;refine⟨a,ns,2,rfl,hS,∅,?_⟩;left;refine qce (fun σ' H'=>σ'=[sr a,some (.int k),some (.int (hnC ns))]/\H'=H) ?_ ?_
 .left;refine⟨a,ns,3,rfl,hS,∅,?_⟩;left;unfold hnC;refine i_2 (fun c=>?_) (fun c=>?_)
  .left;refine⟨_,_,rfl,rfl,.inl ⟨∅,∅⟩,?_⟩;left;rw[iO c];exact⟨rfl,rfl⟩
  .left;rw[iN c];exact⟨rfl,rfl⟩
 .rintro σ' H' ⟨rfl,rfl⟩;left;exact⟨_,_,rfl,k0,k1,q⟩
noncomputable def qfg(nm:List Str)(c:Int):Str:=(nm[(c.fdiv 6%(nm.length:Int)).toNat]?).getD (uO "")
theorem qgy(h:1<=nm.length)(c:Int):atI (nm.map V.str) (c.fdiv 6%(nm.length:Int))=some (.str (qfg nm c))/\qfg nm c∈nm:=by
 unfold qfg;have m0:=uW (c.fdiv 6) (show(nm.length:Int)≠0 by omega);have m1:=uU (c.fdiv 6) (show(0:Int) <(nm.length:Int) by omega);generalize c.fdiv 6%(nm.length:Int)=m at*;obtain⟨j,rfl⟩:∃j:Nat,m=(j:Int):=⟨m.toNat,#[]⟩;have hj:j<nm.length:=by omega
 rw[show((j:Nat):Int).toNat=j by omega,zA hj];exact⟨qau (by rw[zC,zA hj];rfl),zJ hj⟩
noncomputable def jii(nm:List Str):Str:=(nm[min 11 (nm.length-1)]?).getD (uO "")
theorem jj8(h:1<=nm.length):atI (nm.map V.str) (if(nm.length:Int)-1<11 then(nm.length:Int)-1 else 11)=some (.str (jii nm))/\jii nm∈nm:=by
 have e:(if(nm.length:Int)-1<11 then(nm.length:Int)-1 else 11)=((min 11 (nm.length-1):Nat):Int):=by split<;>omega
 have hj:min 11 (nm.length-1)<nm.length:=by omega
 rw[e];unfold jii;rw[zA hj];exact⟨qau (by rw[zC,zA hj];rfl),zJ hj⟩
noncomputable def tS(s:String):Th:=.fl (.str (uO s))
noncomputable def jod:List Th:=[.fl .non,tS "",tS "abcdefghi",tS "aB",tS "a b",tS "a1",.fl (.int 7),.fl (.bl true),.li [uO "a"],.tu [uO "a"]]
noncomputable def joe(fr:Str):List Th:=[.fl .non,tS "",.fl (.str fr),tS "A",.fl (.int 7),.fl (.bl true),.li [uO "a"],.tu [uO "a"],.dk []]
noncomputable def jof:List Th:=[.fl (.int 0),.fl (.int 1001),.fl (.int (-1)),.fl (.bl true),.fl .non,tS "1",.fl (.int (10^30))]
noncomputable def jos(fr:Str)(nm:List Str)(c:Int):Th:=if c%6=4 then thI jod (c.fdiv 6) 10 else if c%6=5 then .fl (.str (qfg nm c)) else .fl (.str fr)
noncomputable def jot(fr:Str)(nm:List Str)(c:Int):Th:=if c%6=4 then thI (joe fr) (c.fdiv 6) 9 else if c%6=3 then .fl (.str (jii nm)) else .fl (.str (qfg nm c))
noncomputable def jou(c:Int):Th:=if c%6=4 then thI jof (c.fdiv 6) 7 else .fl (.int (1+c.fdiv 6%1000))
noncomputable def atN(xs:List Int)(c n:Int):Int:=(xs[(c%n).toNat]?).getD 0
theorem jr3{K:uY}{l:Addr}{xs:List Int}{n:Int}(hl:SqL K H l (xs.map V.int))(hn:n=(xs.length:Int))(n0:0<n)(q:Q (.int (atN xs c n)) H):joo K (.ref l) (.int (c%n)) H Q:=by
 have m0:=uW c (show n≠0 by omega);have m1:=uU c n0;have hj:(c%n).toNat<xs.length:=by omega
 refine qb5 (v:=.int (atN xs c n)) hl ?_ q;have:((c%n).toNat:Int)=c%n:=by omega
 rw[<-this];refine qau ?_;unfold atN;rw[zC,zA hj];rfl
theorem jr4{xs:List Int}{n:Int}{p:Int->Prop}(hn:n=(xs.length:Int))(n0:0<n)(h:∀x∈xs,p x):p (atN xs c n):=by
 have m0:=uW c (show n≠0 by omega);have m1:=uU c n0;have hj:(c%n).toNat<xs.length:=by omega
 unfold atN;rw[zA hj];exact h _ (zJ hj)
noncomputable def scR(c:Int):Int:=atN [1,7000000001,10^27] (c.fdiv 6) 3
theorem jij(c:Int):1<=scR c/\scR c<=10^27:=by
 unfold scR;refine jr4 (p:=fun z=>1<=z/\z<=10^27) rfl ∅ fun x hx=>?_;rcases zP.mp hx with rfl|hx
 .decide
 rcases zP.mp hx with rfl|hx
 .decide
 rw[zK.mp hx];decide
noncomputable def prV(c j:Int):Int:=mxN (c.fdiv 18) j%4*scR c
noncomputable def cpM(c j:Int):Int:=prV c j+atN [0,scR c,10^30,1,0,0-scR c] ((mxN (c.fdiv 18) j).fdiv 4) 6
noncomputable def cpV(c j:Int):Int:=if(if cpM c j > 0 then cpM c j else 0)<10^30 then(if cpM c j > 0 then cpM c j else 0) else 10^30
theorem jlv(c j:Int):0<=prV c j/\prV c j<=10^30:=by
 unfold prV;obtain⟨s1,s2⟩:=jij c;have m0:=uW (mxN (c.fdiv 18) j) (show(4:Int)≠0 by decide);have m1:=uU (mxN (c.fdiv 18) j) (show(0:Int)<4 by decide);generalize mxN (c.fdiv 18) j%4=m at*;generalize scR c=s at*;rcases(show m=0\/m=1\/m=2\/m=3 by omega) with rfl|rfl|rfl|rfl<;>omega
theorem jlw(c j:Int):0<=cpV c j/\cpV c j<=10^30:=by
 unfold cpV;generalize cpM c j=m
 split<;>split<;>omega
noncomputable def je7(ws:List Str)(j:Nat):Str:=(ws[j]?).getD (uO "")
noncomputable def prK(ws:List Str)(c:Int):Nat->List (Key×V)
 |0=> []
 |j+1=>qcs (prK ws c j) (.inr (je7 ws j)) (.int (prV c (0+(j:Int))))
noncomputable def prF(ws:List Str)(c:Int):Nat->Str->Option Int
 |0=>noF
 |j+1=>qda (prF ws c j) (je7 ws j) (prV c (0+(j:Int)))
noncomputable def cpK(ws:List Str)(c:Int):Nat->List (Key×V)
 |0=> []
 |j+1=>if(mxN (c.fdiv 18) (0+(j:Int))).fdiv 24%6 > 0 then qcs (cpK ws c j) (.inr (je7 ws j)) (.int (cpV c (0+(j:Int)))) else cpK ws c j
noncomputable def cpF(ws:List Str)(c:Int):Nat->Str->Option Int
 |0=>noF
 |j+1=>if(mxN (c.fdiv 18) (0+(j:Int))).fdiv 24%6 > 0 then qda (cpF ws c j) (je7 ws j) (cpV c (0+(j:Int))) else cpF ws c j
theorem jem(h:j<ws.length):je7 ws j∈ws:=by unfold je7;rw[zA h];exact zJ h
theorem jen(ws:List Str)(c:Int):∀j,AD (prK ws c j) (prF ws c j)
 |0=>AD.nil
 |j+1=>(jen ws c j).put _ _
theorem jeo(ws:List Str)(c:Int):∀j,AD (cpK ws c j) (cpF ws c j)
 |0=>AD.nil
 |j+1=>by
  unfold cpK cpF
  split
  .exact(jeo ws c j).put _ _
  .exact jeo ws c j
def jik{i:Int}(h:Fin ws f)(hz:z∈ws)(i0:0<=i)(i1:i<=10^30):Fin ws (qda f z i):=fun y n e=>by
 unfold qda at e
 split at e
 .rename_i ey
  cases e
  exact⟨ey▸hz,i0,i1⟩
 .exact h y n e
theorem jdi{ws:List Str}{c:Int}:∀{j:Nat},j<=ws.length->Fin ws (prF ws c j)
 |0,_=>fun z n e=>by cases e
 |j+1,h=>jik (jdi #[]) (jem #[]) (jlv _ _).1 (jlv _ _).2
theorem qhb{ws:List Str}{c:Int}:∀{j:Nat},j<=ws.length->Fin ws (cpF ws c j)
 |0,_=>fun z n e=>by cases e
 |j+1,h=>by
  unfold cpF
  split
  .exact jik (qhb #[]) (jem #[]) (jlw _ _).1 (jlw _ _).2
  .exact qhb #[]
def kfl(A:AD kvs f):∀p∈kvs,fl4 p.2=true:=fun p hp=>by
 obtain⟨z,n,_,e,_⟩:=A.mem (k:=p.1) (v:=p.2) hp;rw[e];rfl
noncomputable def jv0(ws:List Str)(st:Str)(c:Int):Th:=if c%6=4 then jel (prK ws c ws.length) (c.fdiv 18) ws st else .dk (prK ws c ws.length)
noncomputable def jv1(ws:List Str)(st:Str)(c e:Int):Th:=if e%6=4 then jel (cpK ws c ws.length) (e.fdiv 6) ws st else .dk (cpK ws c ws.length)
noncomputable def jv2(ns:List Int)(ws nm:List Str):List Th:=
 [jos (nmS (hnC ns) (nm.length:Int)) nm (cell ns 4),jot (nmS (hnC ns) (nm.length:Int)) nm (cell ns 5),jv0 ws (nmS (cell ns 1) 9) (cell ns 6),jv1 ws (nmS (cell ns 1) 9) (cell ns 6) (cell ns 7),jou (cell ns 8)]
theorem jil{ts:List Th}{n:Int}{p:Th->Prop}(hn:n=(ts.length:Int))(n0:0<n)(h:∀t∈ts,p t):p (thI ts c n):=by
 have m0:=uW c (show n≠0 by omega);have m1:=uU c n0;have hj:(c%n).toNat<ts.length:=by omega
 unfold thI;rw[zA hj];exact h _ (zJ hj)
inductive Odd(H:Hp):V->Prop
 |non:Odd H .non
 |tru:Odd H (.bl true)
 |num:Odd H (.int 7)
 |lst{a:Addr}{xs:List V}(h:H a=some (.lst xs)):Odd H (.ref a)
 |tup{a:Addr}{xs:List V}(h:H a=some (.tup xs)):Odd H (.ref a)
 |dct{a:Addr}(h:H a=some (.dK [])):Odd H (.ref a)
theorem Odd.thing{K:uY}(h:Odd H x):qes K H x:=by
 cases h with
 |non=>exact .inr ⟨⟨_,.non,rfl⟩,fun z e=>by cases e⟩
 |tru=>exact .inr ⟨⟨_,.bl true,rfl⟩,fun z e=>by cases e⟩
 |num=>exact .inr ⟨⟨_,.int 7,rfl⟩,fun z e=>by cases e⟩
 |lst h=>exact .inr ⟨⟨_,.lst h,rfl⟩,fun z e=>by cases e⟩
 |tup h=>exact .inr ⟨⟨_,.tup h,rfl⟩,fun z e=>by cases e⟩
 |dct h=>exact .inr ⟨⟨_,.dK h,rfl⟩,fun z e=>by cases e⟩
theorem Odd.same{H H':Hp}{x:V}(h:Odd H x)(s:qas H H'):Odd H' x:=by
 cases h with
 |non=>exact .non
 |tru=>exact .tru
 |num=>exact .num
 |lst h=>exact .lst (s _ _ h)
 |tup h=>exact .tup (s _ _ h)
 |dct h=>exact .dct (s _ _ h)
theorem Odd.nots{K:uY}(h:Odd H x):jvx K H x/\∀z,x≠ .str z:=by
 rcases h.thing (K:=K) with⟨z,e⟩|q
 .cases h<;>cases e
 .exact q
theorem Odd.who(h:Odd H x):who S x=none:=by cases h<;>rfl
def Asc(z:Str):Prop:=(∀c∈qcy z,c<128)/\z.length<=100
def qf7(h:qbc z=true):Asc z:=⟨fun c hc=>jh1 ((qbs h).2.2 c hc),by have:=(qbs h).2.1;omega⟩
def jlx(H:Hp)(x:V):Prop:=(∃z,x=.str z/\Asc z)\/Odd H x
def jog(H:Hp)(x:V):Prop:=(∃y,x=.str y)\/Odd H x
def jsk(x:V):Prop:=(∃i,x=.int i/\1<=i/\i<=1000)\/NoW x
theorem jlx.same{H H':Hp}{x:V}(h:jlx H x)(s:qas H H'):jlx H' x:=h.imp id fun o=>o.same s
theorem jog.same{H H':Hp}{x:V}(h:jog H x)(s:qas H H'):jog H' x:=h.imp id fun o=>o.same s
section
variable{P:uI}{w:vA}{H:Hp}{x:V}
theorem jim{s:String}(h:((qcy (uO s)).all (fun c=>decide (c<128)) && decide ((uO s).length<=100))=true)(g:qdt P w H (tS s) x):jlx H x:=by
 rw[vP,zZ] at h;exact .inl ⟨_,g.1,fun c hc=>of_decide_eq_true (h.1 c hc),of_decide_eq_true h.2⟩
theorem joh{fr:Str}(gf:qbc fr=true)(gn:∀z∈nm,qbc z=true)(n1:1<=nm.length)(h:qdt P w H (jos fr nm c) x):jlx H x:=by
 unfold jos at h
 split at h
 .revert h
  refine jil (p:=fun t=>qdt P w H t x->jlx H x) rfl ∅ fun t ht h=>?_;unfold jod at ht;simp only[zP,yO,or_false] at ht;rcases ht with rfl|rfl|rfl|rfl|rfl|rfl|rfl|rfl|rfl|rfl
  .rw[h.1];exact .inr .non
  .exact jim (by decide+kernel) h
  .exact jim (by decide+kernel) h
  .exact jim (by decide+kernel) h
  .exact jim (by decide+kernel) h
  .exact jim (by decide+kernel) h
  .rw[h.1];exact .inr .num
  .rw[h.1];exact .inr .tru
  .obtain⟨a,rfl,h⟩:=h;exact .inr (.lst h)
  .obtain⟨a,rfl,h⟩:=h;exact .inr (.tup h)
 .split at h
  .rw[h.1];exact .inl ⟨_,rfl,qf7 (gn _ (qgy n1 c).2)⟩
  .rw[h.1];exact .inl ⟨_,rfl,qf7 gf⟩
theorem joi{fr:Str}(h:qdt P w H (jot fr nm c) x):jog H x:=by
 unfold jot at h
 split at h
 .revert h
  refine jil (p:=fun t=>qdt P w H t x->jog H x) rfl ∅ fun t ht h=>?_;unfold joe at ht;simp only[zP,yO,or_false] at ht;rcases ht with rfl|rfl|rfl|rfl|rfl|rfl|rfl|rfl|rfl
  .rw[h.1];exact .inr .non
  .rw[h.1];exact .inl ⟨_,rfl⟩
  .rw[h.1];exact .inl ⟨_,rfl⟩
  .rw[h.1];exact .inl ⟨_,rfl⟩
  .rw[h.1];exact .inr .num
  .rw[h.1];exact .inr .tru
  .obtain⟨a,rfl,h⟩:=h;exact .inr (.lst h)
  .obtain⟨a,rfl,h⟩:=h;exact .inr (.tup h)
  .obtain⟨a,rfl,h,_⟩:=h;exact .inr (.dct h)
 .split at h
  .rw[h.1];exact .inl ⟨_,rfl⟩
  .rw[h.1];exact .inl ⟨_,rfl⟩
theorem joj(h:qdt P w H (jou c) x):jsk x:=by
 unfold jou at h
 split at h
 .revert h
  refine jil (p:=fun t=>qdt P w H t x->jsk x) rfl ∅ fun t ht h=>?_;unfold jof at ht;simp only[zP,yO,or_false] at ht;rcases ht with rfl|rfl|rfl|rfl|rfl|rfl|rfl
  .rw[h.1];exact .inr (.inl ⟨_,rfl,∅⟩)
  .rw[h.1];exact .inr (.inl ⟨_,rfl,∅⟩)
  .rw[h.1];exact .inr (.inl ⟨_,rfl,∅⟩)
  .rw[h.1];exact .inr (.inr (.inl ⟨_,rfl⟩))
  .rw[h.1];exact .inr (.inr (.inr (.inl rfl)))
  .rw[h.1];exact .inr (.inr (.inr (.inr ⟨_,rfl⟩)))
  .rw[h.1];exact .inr (.inl ⟨_,rfl,∅⟩)
 .rw[h.1];have m0:=uW (c.fdiv 6) (show(1000:Int)≠0 by decide);have m1:=uU (c.fdiv 6) (show(0:Int)<1000 by decide);exact .inl ⟨_,rfl,#[],#[]⟩
end
structure Rk where
 z:V
 y:V
 a:V
 b:V
 wt:V
 f:Str->Option Int
 g:Str->Option Int
 n:Nat
 m:Nat
noncomputable def gdV:V->Bool
 | .str z=>qbc z
 |_=>false
noncomputable def sV:V->Str
 | .str z=>z
 |_=>uO ""
noncomputable def ixV(nm:List Str):V->Option Nat
 | .str y=>if y∈nm then some (nm.idxOf y) else none
 |_=>none
noncomputable def wtB:V->Bool
 | .int i=>decide (1<=i) && decide (i<=1000)
 |_=>false
def je5(P:uI)(w:vA)(K:uY)(ws:List Str)(R:Rk)(H:Hp):Prop:=jlx H R.z/\jog H R.y/\Hk P w K ws R.f R.a H R.n/\Hk P w K ws R.g R.b H R.m/\jsk R.wt
theorem je5.same{P:uI}{w:vA}{K:uY}{ws:List Str}{R:Rk}{H H':Hp}(h:je5 P w K ws R H)(s:qas H H'):je5 P w K ws R H':=⟨h.1.same s,h.2.1.same s,h.2.2.1.same s,h.2.2.2.1.same s,h.2.2.2.2⟩
def Ov1(R:Rk)(v:Str):Prop:=gN R.g v<gN R.f v
def Prm(L:PL)(R:Rk)(k:Nat)(xs ys:List Str):Prop:=
 (∃v∈L.ws,Ov1 R v/\(∀v'∈L.ws,Ov1 R v'->leS v v')/\xs=[uO "promise"]/\ys=[sV R.z,v])\/((∀v∈L.ws,¬Ov1 R v)/\Plc L (qai (elN L.es) k) R.f xs ys)
theorem Prm.uniq{k:Nat}(h:Prm L R k xs ys)(h':Prm L R k xs' ys'):xs=xs'/\ys=ys':=by
 rcases h with⟨v,hv,o,l,rfl,rfl⟩|⟨no,p⟩
 .rcases h' with⟨v',hv',o',l',rfl,rfl⟩|⟨no,_⟩
  .rw[qh3 (l v' hv' o') (l' v hv o)];exact⟨rfl,rfl⟩
  .exact absurd o (no v hv)
 .rcases h' with⟨v',hv',o',_⟩|⟨_,p'⟩
  .exact absurd o' (no v' hv')
  .exact p.uniq p'
noncomputable def dWd(L:PL)(R:Rk)(k:Nat):Option Str:=
 if R.n≠0 then some (wdB R.n) else if R.m≠0 then some (wdB R.m) else if wtB R.wt=false then some (wd 5) else if 40<=L.nm.length then some (wd 6) else if 12<=(qai (elN L.es) k).length then some (wd 7) else none
def Due(L:PL)(R:Rk)(xs ys:List Str):Prop:=
 (gdV R.z=false/\xs=[wd 0]/\ys=[])\/(gdV R.z=true/\sV R.z∈L.nm/\xs=[wd 1]/\ys=[])\/
 (gdV R.z=true/\sV R.z∉L.nm/\ixV L.nm R.y=none/\xs=[wd 2]/\ys=[])\/
 (gdV R.z=true/\sV R.z∉L.nm/\∃k,ixV L.nm R.y=some k/\((∃s,dWd L R k=some s/\xs=[s]/\ys=[])\/(dWd L R k=none/\Prm L R k xs ys)))
theorem Due.uniq(h:Due L R xs ys)(h':Due L R xs' ys'):xs=xs'/\ys=ys':=by
 rcases h with⟨a,rfl,rfl⟩|⟨a,b,rfl,rfl⟩|⟨a,b,c,rfl,rfl⟩|⟨a,b,k,c,e⟩
 .rcases h' with⟨_,rfl,rfl⟩|⟨a',_⟩|⟨a',_⟩|⟨a',_⟩
  .exact⟨rfl,rfl⟩
  all_goals (rw[a] at a';cases a')
 .rcases h' with⟨a',_⟩|⟨_,_,rfl,rfl⟩|⟨_,b',_⟩|⟨_,b',_⟩
  .rw[a] at a';cases a'
  .exact⟨rfl,rfl⟩
  all_goals exact absurd b b'
 .rcases h' with⟨a',_⟩|⟨_,b',_⟩|⟨_,_,_,rfl,rfl⟩|⟨_,_,k,c',_⟩
  .rw[a] at a';cases a'
  .exact absurd b' b
  .exact⟨rfl,rfl⟩
  .rw[c] at c';cases c'
 .rcases h' with⟨a',_⟩|⟨_,b',_⟩|⟨_,_,c',_⟩|⟨_,_,k',c',e'⟩
  .rw[a] at a';cases a'
  .exact absurd b' b
  .rw[c] at c';cases c'
  .rw[c] at c'
   cases c'
   rcases e with⟨s,e,rfl,rfl⟩|⟨e,p⟩
   .rcases e' with⟨s',e',rfl,rfl⟩|⟨e',_⟩
    .rw[e] at e';cases e';exact⟨rfl,rfl⟩
    .rw[e] at e';cases e'
   .rcases e' with⟨s',e',_⟩|⟨_,p'⟩
    .rw[e] at e';cases e'
    .exact p.uniq p'
structure Acc(L:PL)(R:Rk)(k:Nat):Prop where
 g:gdV R.z=true
 nin:sV R.z∉L.nm
 ix:ixV L.nm R.y=some k
 n:R.n=0
 m:R.m=0
 wt:wtB R.wt=true
 h40:L.nm.length<40
 h12:(qai (elN L.es) k).length<12
theorem jok{k:Nat}(n:R.n=0)(m:R.m=0)(w:wtB R.wt=true)(h40:L.nm.length<40)(h12:(qai (elN L.es) k).length<12):dWd L R k=none:=by
 unfold dWd;rw[iN (fun z=>z n),iN (fun z=>z m),iN (by rw[w];exact xM),iN #[],iN #[]]
theorem jly(h:n=1\/n=2):wdB n=wd (if n=1 then 4 else 3):=by
 rcases h with rfl|rfl
 .exact jn9
 .exact joa
theorem Hk.le{P:uI}{w:vA}{K:uY}(h:Hk P w K ws f x H n):n=0\/n=1\/n=2:=by
 cases h<;>simp
theorem Hk.get{P:uI}{w:vA}{K:uY}(h:Hk P w K ws f x H 0):∃a kvs,x=.ref a/\H a=some (.dK kvs)/\AD kvs f/\Fin ws f:=by
 cases h with
 |ok hx h A z hf=>exact⟨_,_,hx,h,A,hf⟩
theorem jr5(h:n≠0):wdB n≠uO "":=by
 unfold wdB;rw[iN h]
 split<;>decide
theorem jin(h:gdV x=true):∃z,x=.str z/\qbc z=true/\sV x=z:=by
 cases x<;>first|exact⟨_,rfl,h,rfl⟩|cases h
theorem jdj{k:Nat}(h:ixV nm x=some k):∃hk:k<nm.length,x=.str nm[k]:=by
 cases x<;>first|cases h|skip
 rename_i y;unfold ixV at h;simp only at h
 split at h
 .rename_i hy
  cases h
  exact⟨List.idxOf_lt_length_iff.mpr hy,by rw[List.getElem_idxOf]⟩
 .cases h
theorem jlz(nd:nm.Nodup){k:Nat}(hk:k<nm.length):ixV nm (.str nm[k])=some k:=by
 unfold ixV;simp only;rw[iO (zJ hk),List.Nodup.idxOf_getElem nd k hk]
theorem jl0{i:Int}(h0:1<=i)(h1:i<=1000):wtB (.int i)=true:=by
 unfold wtB;simp only[vP,decide_eq_true_eq];exact⟨h0,h1⟩
theorem NoW.wtB(h:NoW x):wtB x=false:=by
 rcases h with⟨i,rfl,h⟩|⟨b,rfl⟩|rfl|⟨z,rfl⟩
 .unfold Our.wtB;simp only[Bool.and_eq_false_iff,decide_eq_false_iff_not];omega
 .rfl
 .rfl
 .rfl
def jio{K:uY}{p:Addr}(h:SqL K H p (nm.map V.str))(q:Q (.bl (!decide (y∈nm))) H):rIn K true (.str y) (.ref p) H Q:=⟨p,_,rfl,.inl h,rfl,qfn nm,by rw[qh7];exact q⟩
theorem Odd.gd(h:Odd H x):gdV x=false:=by cases h<;>rfl
theorem Odd.ix(h:Odd H x):ixV nm x=none:=by cases h<;>rfl
def wdr(P:uI)(w:vA)(K:uY)(d:Ad):Sp:=fun vs H Q _=>∃(p r:Addr)(L:PL)(R:Rk),vs=[.ref p,.ref r]/\GF L/\jbl H p L/\H r=some (.lst [R.z,R.y,R.a,R.b,R.wt])/\je5 P w K L.ws R H/\
 ∀l xs ys H',qas H H'->H l=none->jay H' l xs ys->Due L R xs ys->Q (.ref l) H'
set_option maxHeartbeats 4000000 in
include T in
theorem wc4:jab P w K mg base CX0 3 d.wda d.wbm ["_law_plan_here","_law_row_here"] (wdr P w K d):=by
 exists T.wc9.ok w2k
 .right
 obtain⟨p,r,L,R,rfl,f,pa,hr5,rw5,q⟩:=h;have fin:∀(xs ys:List Str)(H1:Hp)(p1 p2 p3:Addr),qas H H1->H1 p1=none->upd H1 p1 (.lst (xs.map V.str)) p2=none->upd (upd H1 p1 (.lst (xs.map V.str))) p2 (.lst (ys.map V.str)) p3=none->Due L R xs ys->Q (.ref p3) (upd (upd (upd H1 p1 (.lst (xs.map V.str))) p2 (.lst (ys.map V.str))) p3 (.lst [.ref p1,.ref p2])):=by
  intro xs ys H1 p1 p2 p3 s h1 h2 h3 hd;exact q p3 xs ys _ (s.trans (((qa4 h1 _).trans (qa4 h2 _)).trans (qa4 h3 _))) (s.free ((qa4 h1 _).free ((qa4 h2 _).free h3))) ⟨p1,p2,qa1,qa7 (qa7 qa1 h2) h3,qa7 qa1 h3⟩ hd
 obtain⟨x0,x1,x2,x3,x4,ff,gg,n,m⟩:=R;obtain⟨hz,hy,ha,hb,hw⟩:=rw5;dsimp only at hz hy ha hb hw hr5;exists (qa3 (qg2 (pv 0) (qg3 rfl (qap (qah (i:=2) w2k.nd rfl (uK rfl)) (qap (qah (i:=3) w2k.nd rfl (uK rfl)) (qap (qah (i:=4) w2k.nd rfl (uK rfl)) (qap (qah (i:=5) w2k.nd rfl (uK rfl)) (qap (qah (i:=6) w2k.nd rfl (uK rfl)) qdf)))))))
  (qa3 (qg2 (pv 1) (qg3 rfl (qap (qah (i:=7) w2k.nd rfl (uK rfl)) (qap (qah (i:=8) w2k.nd rfl (uK rfl)) (qap (qah (i:=9) w2k.nd rfl (uK rfl)) (qap (qah (i:=10) w2k.nd rfl (uK rfl)) (qap (qah (i:=11) w2k.nd rfl (uK rfl)) qdf)))))))
  (qa3 (qay (qbr (qbd (qaf ((w8b T).mono ∅) hr rfl T.wad T.w6p.kp T.w9u .nil qaz #[pv 7]))) (qa6 (qaj (qam #[qam #[qaq],qam qa2]))) qad)
  (qa3 (qay (qal jb0 (pv 7) (pv 3) (by rfl)) (qa6 (qaj (qam #[qam #[qaq],qam qa2]))) qad)
  (qa3 (qay (PW.pt (qek (qbr (qbd (qac qbq rfl T.w04 uJ #[pv 8,qc4 (v:=.ty "str") rfl T.wbl aJ rfl]))) (qd6 (qal qey (pv 8) (pv 3) (by rfl))))) (qa6 (qaj (qam #[qam #[qaq],qam qa2]))) qad)
  (qa3 (qbl vJ rfl (qcj (qam #[pv 9,pv 10])) (qah (i:=12) w2k.nd rfl (uK rfl)) (qa3 (qag (i:=13) w2k.nd rfl (uK rfl) (qaf ((wds T).mono ∅) hr rfl T.weg T.we5.kp T.wef .nil qaz #[pv 12,pv 2]))
  (qa6 (qay (qal jo9 (pv 13) qaq (qar _)) (qa6 (qaj (qam #[qam #[pv 13],qam qa2]))) qad))))
  (qa3 (qay (PW.pt (qek (qbr (qbd (qaf ((w7g T).mono ∅) hr rfl T.w9h T.w7h.kp T.w9b .nil qaz #[pv 11]))) (qd6 (qbr (qgu jbr jbr qa5 (pv 11) qa5))))) (qa6 (qaj (qam #[qam #[qaq],qam qa2]))) qad)
  (qa3 (qay (qal jiz (qac qaw rfl T.w1l vH #[pv 3]) qa5 (qar _)) (qa6 (qaj (qam #[qam #[qaq],qam qa2]))) qad)
  (qa3 (qag (i:=14) w2k.nd rfl (uK rfl) (qaf ((wcy T).mono ∅) hr rfl T.wdx T.wcw.kp T.we6 .nil qaz #[pv 4,qdb vG dN PySem.F.type_list_index jhg (pv 3) #[pv 8]]))
  (qa3 (qay (qal jiz (qac qaw rfl T.w1l vH #[pv 14]) qa5 (qar _)) (qa6 (qaj (qam #[qam #[qaq],qam qa2]))) qad)
  (qa3 (qbl vJ rfl (qcj (qac qd0 rfl T.w3l wP #[pv 2])) (qah (i:=15) w2k.nd rfl (uK rfl)) (qa6 (qay (qal qfj (qcr (qc1 hr) (pv 9) (pv 15) qa5 ⟨rfl,rfl,rfl,rfl⟩) (qcr (qc1 hr) (pv 10) (pv 15) qa5 ⟨rfl,rfl,rfl,rfl⟩) (qar _)) (qa6 (qaj (qam #[qam #[qaq],qam #[pv 7,pv 15]]))) qad)))
  (qa6 (qaj (qaf ((wcl T).mono ∅) hr rfl T.wdj T.wb7.kp T.wd1 .nil qaz #[pv 0,pv 14,pv 9])))))))))))))),[sr p,sr r,none,none,none,none,none,none,none,none,none,none,none,none,none,none];have nl:=f.nl;have n10:=f.n10;have w3:=f.w3;have etop:=pa.top;have hN:=pa.n;have hnl2:(L.nm.map V.str).length=L.nm.length:=zB _;left;rcases hz with⟨z,rfl,za,zl⟩|ho
 rotate_left
 .refine⟨x0,rfl,.inr ⟨ho.nots.1,?_⟩⟩;left;rename_i p1 hp1 p2 hp2 p3 hp3;exact fin [wd 0] [] H p1 p2 p3 (qas.refl _) hp1 hp2 hp3 (.inl ⟨ho.gd,rfl,rfl⟩)
 refine⟨_,rfl,.inl ⟨z,rfl,za,zl,?_⟩⟩
 cases gz:qbc z with
 |false=>
  left;rename_i p1 hp1 p2 hp2 p3 hp3;exact fin [wd 0] [] H p1 p2 p3 (qas.refl _) hp1 hp2 hp3 (.inl ⟨gz,rfl,rfl⟩)
 |true=>
 clear za zl;left;refine jhd (SqL.of hN) ?_;by_cases zi:z∈L.nm
 .rw[iP zi];left;rename_i p1 hp1 p2 hp2 p3 hp3;exact fin [wd 1] [] H p1 p2 p3 (qas.refl _) hp1 hp2 hp3 (.inr (.inl ⟨gz,zi,rfl,rfl⟩))
 rw[iQ zi];left;rcases hy with⟨y,rfl⟩|ho
 rotate_left
 .obtain⟨t,ty,ek⟩:=ho.nots (K:=K).1;left;rename_i p1 hp1 p2 hp2 p3 hp3;exact fin [wd 2] [] H p1 p2 p3 (qas.refl _) hp1 hp2 hp3 (.inr (.inr (.inl ⟨gz,zi,ho.ix,rfl,rfl⟩)))
 left;refine jio (SqL.of hN) ?_;by_cases yi:y∈L.nm
 rotate_left
 .rw[iQ yi];left;rename_i p1 hp1 p2 hp2 p3 hp3;exact fin [wd 2] [] H p1 p2 p3 (qas.refl _) hp1 hp2 hp3 (.inr (.inr (.inl ⟨gz,zi,by unfold ixV;simp only;rw[iN yi],rfl,rfl⟩)))
 rw[iP yi];obtain⟨k,hk,rfl⟩:=zR.mp yi;have ek:=jlz f.nn hk;have fin2:∀(s:Str)(H1:Hp)(p1 p2 p3:Addr),qas H H1->H1 p1=none->upd H1 p1 (.lst [V.str s]) p2=none->upd (upd H1 p1 (.lst [V.str s])) p2 (.lst []) p3=none->dWd L ⟨.str z,.str L.nm[k],x2,x3,x4,ff,gg,n,m⟩ k=some s->Q (.ref p3) (upd (upd (upd H1 p1 (.lst [V.str s])) p2 (.lst [])) p3 (.lst [.ref p1,.ref p2])):=by
  intro s H1 p1 p2 p3 sm h1 h2 h3 e;exact fin [s] [] H1 p1 p2 p3 sm h1 h2 h3 (.inr (.inr (.inr ⟨gz,zi,k,ek,.inl ⟨s,e,rfl,rfl⟩⟩)))
 have fin3:∀(xs ys:List Str),dWd L ⟨.str z,.str L.nm[k],x2,x3,x4,ff,gg,n,m⟩ k=none->Prm L ⟨.str z,.str L.nm[k],x2,x3,x4,ff,gg,n,m⟩ k xs ys->Due L ⟨.str z,.str L.nm[k],x2,x3,x4,ff,gg,n,m⟩ xs ys:=fun xs ys e pr=> .inr (.inr (.inr ⟨gz,zi,k,ek,.inr ⟨e,pr⟩⟩));generalize hyk:L.nm[k]=y at*;left;rename_i pl hpl;have sl:=qa4 hpl (.lst [x2,x3]);have el:upd H pl (.lst [x2,x3]) pl=some (.lst [x2,x3]):=qa1;generalize upd H pl (.lst [x2,x3])=H1 at*;refine qf0 (xs:=[x2,x3]) (fun i σ H'=>qas H1 H'/\(∃w1 w2,σ=[sr p,sr r,sr L.lw,sr L.ln,sr L.le,sr L.lp,sr L.lc,some (.str z),some (.str y),some x2,some x3,some x4,w1,w2,none,none])/\(1<=i->n=0)/\(2<=i->m=0)) ⟨qas.refl _,⟨none,none,rfl⟩,fun h=>by omega,fun h=>by omega⟩ ?_ ?_ ?_
 .rintro i σ H' _ ⟨sm,_⟩;exact SqL.of (sm _ _ el)
 .rintro i v σ H' hv ⟨sm,⟨w1,w2,rfl⟩,i1,i2⟩;have s2:=sl.trans sm;obtain⟨fx,nx,hkx,hi⟩:∃fx nx,Hk P w K L.ws fx v H nx/\((i=0/\nx=n)\/(i=1/\nx=m)):=by
   rcases i with _|_|i
   .cases hv;exact⟨_,_,ha,.inl ⟨rfl,rfl⟩⟩
   .cases hv;exact⟨_,_,hb,.inr ⟨rfl,rfl⟩⟩
   .cases hv
  clear hv;left;refine⟨v,L.lw,L.ws,fx,nx,rfl,s2 _ _ pa.w,hkx.same s2,fun H2 s3=>?_⟩;by_cases c:nx=0
  .subst c;rw[jr1];left;exact⟨sm.trans s3,⟨_,_,rfl⟩,fun h=>by omega,fun h=>by omega⟩
  .have hne:=jr5 c;have e:dWd L ⟨.str z,.str y,x2,x3,x4,ff,gg,n,m⟩ k=some (wdB nx):=by
    unfold dWd;rcases hi with⟨_,rfl⟩|⟨e1,rfl⟩
    .rw[iO c]
    .rw[iN (fun z=>z (i1 #[])),iO c]
   generalize wdB nx=s at*;left;rename_i p1 hp1 p2 hp2 p3 hp3;exact fin2 s H2 p1 p2 p3 (s2.trans s3) hp1 hp2 hp3 e
 rintro σ H2 ⟨sm,⟨w1,w2,rfl⟩,i1,i2⟩;have n0:n=0:=i1 (by show 1<=2;decide);have m0:m=0:=i2 (by show 2<=2;decide);subst n0 m0;have s2:=sl.trans sm;clear i1 i2 sl sm el hpl etop;have hN2:=s2 _ _ hN;have hE2:=s2 _ _ pa.e;left;rcases hw with⟨i,rfl,iw0,iw1⟩|nw
 rotate_left
 .have e:dWd L ⟨.str z,.str y,x2,x3,x4,ff,gg,0,0⟩ k=some (wd 5):=by
   unfold dWd;rw[iN (fun z=>z rfl),iN (fun z=>z rfl),iO nw.wtB]
  rcases nw with⟨i,rfl,ho⟩|⟨b,rfl⟩|rfl|⟨s,rfl⟩
  .refine⟨_,rfl,.inl ⟨⟨_,rfl⟩,?_⟩⟩;left;by_cases c1:(1:Int)<=i
   .rw[iP c1];refine qez ?_;left;rename_i p1 hp1 p2 hp2 p3 hp3;exact fin2 (wd 5) H2 p1 p2 p3 s2 hp1 hp2 hp3 e
   .rw[iQ c1];refine jkl ?_;left;rename_i p1 hp1 p2 hp2 p3 hp3;exact fin2 (wd 5) H2 p1 p2 p3 s2 hp1 hp2 hp3 e
  .refine⟨_,rfl,.inr ⟨.inl ⟨_,rfl⟩,?_⟩⟩;left;rename_i p1 hp1 p2 hp2 p3 hp3;exact fin2 (wd 5) H2 p1 p2 p3 s2 hp1 hp2 hp3 e
  .refine⟨_,rfl,.inr ⟨.inr ⟨_,.non,rfl⟩,?_⟩⟩;left;rename_i p1 hp1 p2 hp2 p3 hp3;exact fin2 (wd 5) H2 p1 p2 p3 s2 hp1 hp2 hp3 e
  .refine⟨_,rfl,.inr ⟨.inr ⟨_,.str s,rfl⟩,?_⟩⟩;left;rename_i p1 hp1 p2 hp2 p3 hp3;exact fin2 (wd 5) H2 p1 p2 p3 s2 hp1 hp2 hp3 e
 have hwt:=jl0 iw0 iw1;refine⟨_,rfl,.inl ⟨⟨_,rfl⟩,?_⟩⟩;left;clear iw0 iw1;rw[hnl2];have eW:∀(j:Nat),(if wtB (.int i)=false then some (wd 5) else if 40<=L.nm.length then some (wd 6) else if 12<=(qai (elN L.es) j).length then some (wd 7) else none)=dWd L ⟨.str z,.str y,x2,x3,.int i,ff,gg,0,0⟩ j:=fun j=>Eq.symm (by
  unfold dWd;rw[iN (fun z=>z rfl),iN (fun z=>z rfl)])
 rw[hwt] at eW;by_cases c40:40<=L.nm.length
 .rw[iO (iP (show(40:Int)<=((L.nm.length:Nat):Int) by omega))];left;rename_i p1 hp1 p2 hp2 p3 hp3;exact fin2 (wd 6) H2 p1 p2 p3 s2 hp1 hp2 hp3 (by rw[<-eW,iN xM,iO c40])
 rw[iN (by rw[iQ (show ¬(40:Int)<=((L.nm.length:Nat):Int) by omega)];exact xM)];left;subst hyk;refine jld (SqL.of hN2) f.nn hk ?_;generalize hyk:L.nm[k]=y at*;left;refine⟨L.le,L.es,k,rfl,hE2,f.acE,#[],#[],fun ll hll=>?_⟩;have s3:=s2.trans (qa4 hll (.lst ((qai (elN L.es) k).map iV)));have eL:upd H2 ll (.lst ((qai (elN L.es) k).map iV)) ll=some (.lst ((qai (elN L.es) k).map iV)):=qa1;generalize upd H2 ll (.lst ((qai (elN L.es) k).map iV))=H3 at*;have hl2:((qai (elN L.es) k).map iV).length=(qai (elN L.es) k).length:=zB _;have l12:=f.l12 k hk;left;rw[hl2];by_cases c12:12<=(qai (elN L.es) k).length
 .rw[iO (iP (show(12:Int)<=(((qai (elN L.es) k).length:Nat):Int) by omega))];left;rename_i p1 hp1 p2 hp2 p3 hp3;exact fin2 (wd 7) H3 p1 p2 p3 s3 hp1 hp2 hp3 (by rw[<-eW,iN xM,iN c40,iO c12])
 rw[iN (by rw[iQ (show ¬(12:Int)<=(((qai (elN L.es) k).length:Nat):Int) by omega)];exact xM)];have eD:dWd L ⟨.str z,.str y,x2,x3,.int i,ff,gg,0,0⟩ k=none:=by rw[<-eW,iN xM,iN c40,iN c12]
 have lnk:∀j∈qai (elN L.es) k,j<L.nm.length:=f.ac.lt hk;clear eW c40 c12 l12 hl2 fin2 hwt hN hN2 hE2 hnl2 s2;obtain⟨aa,ka,rfl,ea,Aa,_⟩:=ha.get;obtain⟨ab,kb,rfl,eb,Ab,_⟩:=hb.get;have ea3:Rd H3 aa (.dK ka):=.inl (s3 _ _ ea);have eb3:Rd H3 ab (.dK kb):=.inl (s3 _ _ eb);have ew3:=s3 _ _ pa.w;left;refine qfc (SqL.of ew3) #[] fun l ss hl hp hs=>?_;have s4:=s3.trans (qa4 hl (.lst (ss.map V.str)));have s34:=qa4 hl (.lst (ss.map V.str));have el:upd H3 l (.lst (ss.map V.str)) l=some (.lst (ss.map V.str)):=qa1;generalize upd H3 l (.lst (ss.map V.str))=H4 at*;have ea4:Rd H4 aa (.dK ka):=.inl (s4 _ _ ea);have eb4:Rd H4 ab (.dK kb):=.inl (s4 _ _ eb);have pw:=qdd hs;clear ea3 eb3 ew3 hl;left;refine qf0 (xs:=ss.map V.str) (fun j σ H5=>H5=H4/\(∃w,σ=[sr p,sr r,sr L.lw,sr L.ln,sr L.le,sr L.lp,sr L.lc,some (.str z),some (.str y),sr aa,sr ab,some (.int i),w1,w2,sr ll,w])/\∀v'∈ss.take j,¬Ov1 ⟨.str z,.str y,.ref aa,.ref ab,.int i,ff,gg,0,0⟩ v') ⟨rfl,⟨none,rfl⟩,fun v' h=>by simp at h⟩ ?_ ?_ ?_
 .rintro j σ H5 _ ⟨rfl,_⟩;exact SqL.of el
 .rintro j v σ H5 hv ⟨rfl,⟨w,rfl⟩,hno⟩;rw[zC] at hv;obtain⟨u,hu,rfl⟩:=vQ.mp hv;obtain⟨hmk,eu⟩:=uH.mp hu;have huw:u∈L.ws:=hp.mem_iff.mp (zD hu);clear hv;left;by_cases c:gN gg u<gN ff u
  .rw[iO (iP c)];left;rename_i p1 hp1 p2 hp2 p3 hp3;refine fin [uO "promise"] [z,u] H5 p1 p2 p3 s4 hp1 hp2 hp3 (fin3 _ _ eD (.inl ⟨u,huw,c,fun v' hv' ho=>?_,rfl,rfl⟩));obtain⟨m',hm',em'⟩:=zR.mp (hp.mem_iff.mpr hv');rcases bY m' j with lt|e|lt
   .refine absurd ho (hno v' ?_);rw[<-em'];exact List.mem_take_iff_getElem.mpr ⟨m',#[],rfl⟩
   .subst e;rw[<-em',<-eu];exact qh2 _
   .have:=(zQ.mp pw) j m' hmk hm' lt;rw[eu,em'] at this;exact this
  .rw[iN (by rw[iQ c];exact uL)];left;refine⟨rfl,⟨_,rfl⟩,fun v' hv'=>?_⟩;rw[yB,hu] at hv';rcases zT.mp hv' with h|h
   .exact hno v' h
   .rw[show v'=u by simpa using h];exact c
 .rintro σ H5 ⟨rfl,⟨w,rfl⟩,hno⟩;rw[zB,yG] at hno;left;refine⟨p,ll,aa,L,qai (elN L.es) k,ka,ff,rfl,f,pa.same s4,s34 _ _ eL,lnk,s4 _ _ ea,Aa,fun l xs ys H' s5 hl tw pl=>?_⟩;left;exact q l xs ys H' (s4.trans s5) (s4.free hl) tw (fin3 _ _ eD (.inr ⟨fun v hv=>hno v (hp.mem_iff.mpr hv),pl⟩))
theorem GT.nobody{P:PL}(g:GT S P){x:V}(h:∀k,k<P.nm.length->x≠ .str (nmF P k)):who S x=none:=by
 cases x with
 |str z=>
  show S.at z=none
  cases e:S.at z with
  |none=>rfl
  |some e'=>
   obtain⟨i,hi,_,e1,_⟩:=g.pl.ix (qbw e).1;rw[(qbw e).2] at e1;exact absurd (by rw[e1]) (h i hi)
 |_=>rfl
def GF.adr{P:PL}(f:GF P)(ln le lp lc:Addr):GF {P with ln:=ln,le:=le,lp:=lp,lc:=lc}:=⟨f.w1,f.w3,f.wg,f.wn,f.nl,f.n10,f.l12,f.ng,f.nn,f.ac,f.pl,f.cl,f.pa,f.ca⟩
theorem jbl.sbG{d:Ad}{p:Addr}{P:PL}(h:jbl H p P)(f:GF P)(hT:qdy d H t S)(he:e∈S.hl)(sb:SameBut S.hs H H'):jbl H' p P:=by
 have hh:=hT.2.2.1;have nL:∀{b:Addr} {xs:List V},H b=some (.lst xs)->b≠S.hs:=fun e1 e2=>by subst e2;rw[hh] at e1;cases e1
 have nD:∀{b:Addr} {k:List (Key×V)} {g:Str->Option Int},H b=some (.dK k)->AD k g->b≠S.hs:=fun e1 a e2=>by
  subst e2;rw[hh] at e1;exact jn1 a (z:=e.n) (h:=e.a) (by rw[qcv,qf3 hT.2.2.2.1 he];rfl) (vB e1).symm
 exact⟨sb _ _ (nL h.top) h.top,sb _ _ (nL h.w) h.w,sb _ _ (nL h.n) h.n,sb _ _ (nL h.e) h.e,sb _ _ (nL h.pr) h.pr,sb _ _ (nL h.cp) h.cp,
  fun t m=>sb _ _ (nD (h.pd t m) (f.pa t m).1) (h.pd t m),fun t m=>sb _ _ (nD (h.cd t m) (f.ca t m).1) (h.cd t m)⟩
theorem jj9(ff:Fin ws f)(fg:Fin ws g)(v:Str):qfv (qbm f) (qbm g) v↔gN g v<gN f v:=by
 constructor
 .rintro⟨_,h⟩;rw[qc5 ff,qc5 fg] at h;exact h
 .intro h;refine⟨fun e=>?_,by rw[qc5 ff,qc5 fg];exact h⟩;have h0:gN (qbm f) v=0:=by unfold gN;rw[e];rfl
  rw[qc5 ff] at h0;have:=jei fg v;omega
theorem jl1{f:Nat->Int}:∀{n:Nat},(∀k,k<n->f k=0)->qcp n f=0
 |0,_=>rfl
 |n+1,h=>by
  show qcp n f+f n=0;rw[jl1 fun k hk=>h k #[],h n #[]];rfl
theorem GF.sum0{P:PL}(f:GF P){v:Str}(hv:v∉P.ws)(j:Nat):jid P j v=0:=by
 unfold jid;refine jl1 fun k hk=>?_
 split
 .obtain⟨t,_,_,e,_,hf⟩:=f.tf hk;rw[e];exact jdg hf hv
 .rfl
theorem jep{K:uY}(ha:H a=some (.lst (xs.map V.str)))(hb:H b=some (.lst (xs.map V.str))):DEq K H 1 (.ref a) (.ref b) true:=by
 by_cases c:a=b
 .subst c;exact .same
 .have:=qeh (K:=K) (n:=0) (SqL.of ha) (SqL.of hb) c;rw[iP rfl] at this;exact this
theorem jay.eqT{K:uY}(h:jay H a xs ys)(h':jay H b xs ys)(ne:a≠b):DEq K H 2 (.ref a) (.ref b) true:=by
 obtain⟨m1,m2,e1,e2,e3⟩:=h.ex;obtain⟨n1,n2,g1,g2,g3⟩:=h'.ex;exact jif (SqL.of e1) (SqL.of g1) ne (jep e2 g2) (jep e3 g3)
structure AcO(d:Ad)(L:PL)(R:Rk)(S:Ts)(t:Addr)(k:Nat)(e2:He)(H H':Hp):Prop where
 sb:SameBut S.hs H H'
 ac:Acc L R k
 o1:∀v∈L.ws,¬Ov1 R v
 o2:∀j∈qai (elN L.es) k,∀v∈L.ws,¬Ov L R.f j v
 tr:qdy d H' t {S with hl:=S.hl++[e2]}
 en:e2.n=sV R.z
 el:e2.x.el=some (nmF L k)
 fp:∀v,e2.x.fp v=qbm R.f v
 fc:∀v,e2.x.fc v=qbm R.g v
 na:H e2.a=none
def Acc.due{k:Nat}(c:Acc L R k){xs ys:List Str}(p:Prm L R k xs ys):Due L R xs ys:=.inr (.inr (.inr ⟨c.g,c.nin,k,c.ix,.inr ⟨jok c.n c.m c.wt c.h40 c.h12,p⟩⟩))
theorem AcO.due{d:Ad}{k:Nat}{e2:He}(a:AcO d L R S t k e2 H H'):Due L R [] []:=a.ac.due (.inr ⟨a.o1,.inl ⟨rfl,rfl,a.o2⟩⟩)
theorem je5.sb{P:uI}{w:vA}{K:uY}{d:Ad}{k:Nat}(h:je5 P w K L.ws R H)(c:Acc L R k)(hT:qdy d H t S)(he:e∈S.hl)(sb:SameBut S.hs H H'):je5 P w K L.ws R H':=by
 have hh:=hT.2.2.1;have nD:∀{b:Addr} {k:List (Key×V)} {g:Str->Option Int},H b=some (.dK k)->AD k g->b≠S.hs:=fun e1 a e2=>by
  subst e2;rw[hh] at e1;exact jn1 a (z:=e.n) (h:=e.a) (by rw[qcv,qf3 hT.2.2.2.1 he];rfl) (vB e1).symm
 have hk:∀{f:Str->Option Int} {x:V} {n:Nat},n=0->Hk P w K L.ws f x H n->Hk P w K L.ws f x H' n:=by
  intro f x n n0 h
  cases h with
  |ok hx h A z hf=>exact .ok hx (sb _ _ (nD h A) h) A z hf
  |_=>cases n0
 obtain⟨h1,h2,h3,h4,h5⟩:=h;refine⟨?_,?_,hk c.n h3,hk c.m h4,h5⟩
 .obtain⟨z,e1,g,_⟩:=jin c.g;exact .inl ⟨z,e1,qf7 g⟩
 .obtain⟨_,e1⟩:=jdj c.ix;exact .inl ⟨_,e1⟩
def TrO(d:Ad)(L:PL)(R:Rk)(S:Ts)(t:Addr)(H H':Hp):Prop:=(qas H H'/\∀ys,¬Due L R [] ys)\/∃k e2,AcO d L R S t k e2 H H'
def wcf(P:uI)(w:vA)(K:uY)(d:Ad):Sp:=fun vs H Q _=>∃(t p r:Addr)(S:Ts)(L:PL)(R:Rk),vs=[.ref t,.ref p,.ref r]/\GF L/\jbl H p L/\qdy d H t S/\GT S L/\H r=some (.lst [R.z,R.y,R.a,R.b,R.wt])/\je5 P w K L.ws R H/\
 ∀H',TrO d L R S t H H'->Q (.bl true) H'
set_option maxHeartbeats 4000000 in
include T in
theorem wap:jab P w K mg base CX0 22 d.w9f d.w7x ["_law_tree_here","_law_plan_here","_law_row_here"] (wcf P w K d):=by
 exists T.wa9.ok w6a
 .right
 obtain⟨t,p,r,S,L,R,rfl,f,pa,hT,g,hr5,rw5,q⟩:=h;exists (qa3 (qag (i:=3) w6a.nd rfl (uK rfl) (qam #[qam qa2,qam qa2]))
  (qa3 (qbf (jpd rfl rfl (fun _ _=>(qa6 (qb3 (qbi (pv 0) T.w0b T.w1a ((w5a T).mono ∅) hr T.w8u .nil qb7 #[~~~2,~~~2,~~~2,~~~2,~~~2]))))
  (jsv (i:=4) w6a.nd rfl rfl T.w2o rfl T.w6t (fun _=>(qa6 (qag (i:=3) w6a.nd rfl (uK rfl) (jjl ((wdg T).mono ∅) hr rfl T.we0 T.wcu.kp T.wdv #[pv 4]))))
  jmk) qad))
  (qa6 (qaj (qdh (jgi (hu8 hr)) (pv 3) (qaf ((wc4 T).mono ∅) hr rfl T.wd8 T.wc9.kp T.wdh .nil qaz #[pv 1,pv 2]) (qar _)))))),[sr t,sr p,sr r,none,none];have ct:=T.w0b;left;rename_i m1 hm1 m2 hm2 tl htl;have s08:=((qa4 hm1 (.lst [])).trans (qa4 hm2 (.lst []))).trans (qa4 htl (.lst [V.ref m1,V.ref m2]));have two:jay (upd (upd (upd H m1 (.lst [])) m2 (.lst [])) tl (.lst [V.ref m1,V.ref m2])) tl [] []:=⟨m1,m2,qa1,qa7 (qa7 qa1 hm2) htl,qa7 qa1 htl⟩;generalize upd (upd (upd H m1 (.lst [])) m2 (.lst [])) tl (.lst [V.ref m1,V.ref m2])=H8 at*;clear hm1 hm2 htl;have hT8:=hT.same s08;have hr8:=s08 _ _ hr5;have n10:=f.n10;have nl:=f.nl;have hl:=g.pl.len;refine qce (fun σ' H'=>∃(tl':Addr)(w:Option V)(xs ys:List Str),σ'=[sr t,sr p,sr r,sr tl',w]/\jay H' tl' xs ys/\Due L R xs ys/\((qas H H'/\xs≠ [])\/∃k e2,AcO d L R S t k e2 H H')) ?_ ?_
 .obtain⟨hz,hy,ha,hb,hw⟩:=rw5.same s08;obtain⟨dx0,ht0⟩:=id hT8.1;left;refine⟨t,S,R.z,R.y,R.a,R.b,R.wt,rfl,hT8,?_⟩;rcases hz with⟨z,ez,za,zl⟩|ho
  rotate_left
  .refine .nm (.inr ho.nots.1) fun H' s'=>?_;refine jf5 (qca T.w21).1 (qez ?_);left;rename_i ae hae;refine⟨ae,rfl,.inl ⟨d.w09,0,∅,⟨T.w38,T.w21⟩,qa1,fun l' H2 s2 hl' two'=>?_⟩⟩;left;exact⟨l',_,_,_,rfl,two',.inl ⟨ho.gd,rfl,rfl⟩,.inl ⟨((s08.trans s').trans (qa4 hae _)).trans s2,fun z=>by cases z⟩⟩
  cases gz:qbc z with
  |false=>
   refine .nm (.inl ⟨z,ez,gz,za,zl⟩) fun H' s'=>?_;refine jf5 (qca T.w21).1 (qez ?_);left;rename_i ae hae;refine⟨ae,rfl,.inl ⟨d.w09,0,∅,⟨T.w38,T.w21⟩,qa1,fun l' H2 s2 hl' two'=>?_⟩⟩;left;exact⟨l',_,_,_,rfl,two',.inl ⟨by rw[ez];exact gz,rfl,rfl⟩,.inl ⟨((s08.trans s').trans (qa4 hae _)).trans s2,fun z=>by cases z⟩⟩
  |true=>
  have gd:gdV R.z=true:=by rw[ez];exact gz
  have sv:sV R.z=z:=by rw[ez];rfl
  by_cases zi:z∈L.nm
  .obtain⟨k,hk,ek⟩:=zR.mp zi;obtain⟨e0,a0,_,_⟩:=g.pl.at hk;rw[qbv hk,ek] at a0;refine .tk z e0 ez gz a0 fun H' s'=>?_;refine jf5 (qca T.w4h).1 (qez ?_);left;rename_i ae hae;refine⟨ae,rfl,.inl ⟨d.w0f,1,∅,⟨T.w57,T.w4h⟩,qa1,fun l' H2 s2 hl' two'=>?_⟩⟩;left;exact⟨l',_,_,_,rfl,two',.inr (.inl ⟨gd,by rw[sv];exact zi,rfl,rfl⟩),.inl ⟨((s08.trans s').trans (qa4 hae _)).trans s2,fun z=>by cases z⟩⟩
  have nin:sV R.z∉L.nm:=by rw[sv];exact zi
  have atz:S.at z=none:=g.nobody (x:=.str z) fun k kn e=>zi (by injection e with e;rw[e,qbv kn];exact zJ kn)
  cases eix:ixV L.nm R.y with
  |none=>
   refine .hs z ez gz atz (fun H' s'=>?_) ?_ fun H' s'=>?_
   .rcases hy with⟨y,ey⟩|ho
    .exact .inl ⟨y,ey⟩
    .exact(ho.same s').thing
   .rcases hy with⟨y,ey⟩|ho
    .refine g.nobody fun k kn e=>?_;rw[e,qbv kn,jlz f.nn kn] at eix
     cases eix
    .exact ho.who
   refine jf5 (qca T.w2f).1 (qez ?_);left;rename_i ae hae;refine⟨ae,rfl,.inl ⟨d.w01,2,∅,⟨T.w32,T.w2f⟩,qa1,fun l' H2 s2 hl' two'=>?_⟩⟩;left;exact⟨l',_,_,_,rfl,two',.inr (.inr (.inl ⟨gd,nin,eix,rfl,rfl⟩)),.inl ⟨((s08.trans s').trans (qa4 hae _)).trans s2,fun z=>by cases z⟩⟩
  |some k=>
  obtain⟨hk,ey⟩:=jdj eix;rw[<-qbv hk] at ey;obtain⟨e0,y1,y2,y3⟩:=g.pl.at hk;have dW:∀s,dWd L R k=some s->Due L R [s] []:=fun s e=> .inr (.inr (.inr ⟨gd,nin,k,eix,.inl ⟨s,e,rfl,rfl⟩⟩));have clE:∀n,jrz K d (clA d n) (if n=1 then 4 else 3):=fun n=>by
   unfold clA;by_cases c:n=1
   .rw[iO c,iO c];exact⟨T.w2j,T.w2m⟩
   .rw[iN c,iN c];exact⟨T.w49,T.w4e⟩
  by_cases n0:R.n=0
  rotate_left
  .refine .rd z (nmF L k) e0 ez gz atz ey y1 (clA d R.n) (fun H' s' Q0 E0 e=> .bp (clA d R.n) (((ha.perm g.wp).am n0).same s') e) fun H' s'=>?_;have hn:R.n=1\/R.n=2:=ha.le.resolve_left n0;have du:=dW (wdB R.n) (by unfold dWd;rw[iO n0]);rw[jly hn] at du;refine jf5 (qca (clE R.n).2).1 (qez ?_);left;rename_i ae hae;refine⟨ae,rfl,.inl ⟨(clA d R.n),(if R.n=1 then 4 else 3),by split<;>decide,⟨(clE R.n).1,(clE R.n).2⟩,qa1,fun l' H2 s2 hl' two'=>?_⟩⟩;left;exact⟨l',_,_,_,rfl,two',du,.inl ⟨((s08.trans s').trans (qa4 hae _)).trans s2,fun z=>by cases z⟩⟩
  by_cases m0:R.m=0
  rotate_left
  .rw[n0] at ha;refine .rd z (nmF L k) e0 ez gz atz ey y1 (clA d R.m) (fun H' s' Q0 E0 e=> .bc R.f (clA d R.m) ((ha.perm g.wp).amO.same s') (((hb.perm g.wp).am m0).same s') e) fun H' s'=>?_;have hn:R.m=1\/R.m=2:=hb.le.resolve_left m0;have du:=dW (wdB R.m) (by unfold dWd;rw[iN (fun z=>z n0),iO m0]);rw[jly hn] at du;refine jf5 (qca (clE R.m).2).1 (qez ?_);left;rename_i ae hae;refine⟨ae,rfl,.inl ⟨(clA d R.m),(if R.m=1 then 4 else 3),by split<;>decide,⟨(clE R.m).1,(clE R.m).2⟩,qa1,fun l' H2 s2 hl' two'=>?_⟩⟩;left;exact⟨l',_,_,_,rfl,two',du,.inl ⟨((s08.trans s').trans (qa4 hae _)).trans s2,fun z=>by cases z⟩⟩
  rw[n0] at ha;rw[m0] at hb;have haO:=(ha.perm g.wp).amO (d:=d);have hbO:=(hb.perm g.wp).amO (d:=d);obtain⟨_,_,_,_,_,fa⟩:=ha.get;obtain⟨_,_,_,_,_,fb⟩:=hb.get;rcases hw with⟨i,ew,i0,i1⟩|nw
  rotate_left
  .refine .rd z (nmF L k) e0 ez gz atz ey y1 d.w02 (fun H' s' Q0 E0 e=> .bw R.f R.g (haO.same s') (hbO.same s') nw e) fun H' s'=>?_;have du:=dW (wd 5) (by unfold dWd;rw[iN (fun z=>z n0),iN (fun z=>z m0),iO nw.wtB]);refine jf5 (qca T.w1u).1 (qez ?_);left;rename_i ae hae;refine⟨ae,rfl,.inl ⟨d.w02,5,∅,⟨T.w2q,T.w1u⟩,qa1,fun l' H2 s2 hl' two'=>?_⟩⟩;left;exact⟨l',_,_,_,rfl,two',du,.inl ⟨((s08.trans s').trans (qa4 hae _)).trans s2,fun z=>by cases z⟩⟩
  have wb:wtB R.wt=true:=by rw[ew];exact jl0 i0 i1
  by_cases c40:40<=L.nm.length
  .refine .mn z (nmF L k) e0 ez gz atz ey y1 R.f R.g i haO hbO ew i0 i1 #[] fun H' s'=>?_;have du:=dW (wd 6) (by unfold dWd;rw[iN (fun z=>z n0),iN (fun z=>z m0),iN (by rw[wb];exact xM),iO c40]);refine jf5 (qca T.w2d).1 (qez ?_);left;rename_i ae hae;refine⟨ae,rfl,.inl ⟨d.w06,6,∅,⟨T.w36,T.w2d⟩,qa1,fun l' H2 s2 hl' two'=>?_⟩⟩;left;exact⟨l',_,_,_,rfl,two',du,.inl ⟨((s08.trans s').trans (qa4 hae _)).trans s2,fun z=>by cases z⟩⟩
  obtain⟨ow,w5,wl,nlen⟩:=g.hs f;have vi:=jj9 fa fb;have ov1:∀v,qfv (qbm R.f) (qbm R.g) v↔Ov1 R v:=vi;have ovj:∀(j:Nat) v,(gN (tfF L.tc j) v<jid L j v+gN (qbm R.f) v)↔Ov L R.f j v:=fun j v=>by unfold Ov;rw[qc5 fa]
  have pin:=qex fa;have lll:((qai (elN L.es) k).map (nmF L)).length=(qai (elN L.es) k).length:=zB _;have l12:=f.l12 k hk;refine .go z (nmF L k) e0 ((qai (elN L.es) k).map (nmF L)) R.f R.g i ez gz atz ey y1 haO hbO ew i0 i1 g.pl.wf ow w5 wl (qd4 fa g.wp) (qd4 fb g.wp) #[] (g.pl.line k hk) #[] (fun u hu=>?_) (fun h12 H' s'=>?_) fun h12=>⟨fun nv hfi e2 H' sb g1 g2 g3 hT' k1 k2 k3 k4 k5=>?_,fun v hv hle=>?_,fun nv i' u e' bs v h1 h2 h3 h4 h5 h6=>?_⟩
  .obtain⟨j,hj,rfl⟩:=zM.mp hu;have jn:=f.ac.lt hk j hj;obtain⟨e,x1,_⟩:=g.pl.at jn;exact⟨nlen j jn,g.pl.depL (fun i hi=>f.l12 i hi) 12 j jn #[],e,x1⟩
  .have du:=dW (wd 7) (by unfold dWd;rw[iN (fun z=>z n0),iN (fun z=>z m0),iN (by rw[wb];exact xM),iN c40,iO #[]]);refine jf5 (qca T.w2e).1 (qez ?_);left;rename_i ae hae;refine⟨ae,rfl,.inl ⟨d.w08,7,∅,⟨T.w33,T.w2e⟩,qa1,fun l' H2 s2 hl' two'=>?_⟩⟩;left;exact⟨l',_,_,_,rfl,two',du,.inl ⟨((s08.trans s').trans (qa4 hae _)).trans s2,fun z=>by cases z⟩⟩
  .have acc:Acc L R k:=⟨gd,nin,eix,n0,m0,wb,#[],#[]⟩;have hh:=hT8.2.2.1;have nL:∀{b:Addr} {xs:List V},H8 b=some (.lst xs)->b≠S.hs:=fun e1 e2=>by subst e2;rw[hh] at e1;cases e1
   have ac:AcO d L R S t k e2 H H':=⟨fun b o hb e=>sb b o hb (s08 b o e),acc,fun v hv ho=>nv v ((ov1 v).mpr ho),fun j hj v hv ho=>by
    have:=g.fine f (f.ac.lt hk j hj) (hfi _ (zM.mpr ⟨j,hj,rfl⟩)) v;have:=(ovj j v).mpr ho;omega,hT',k1.trans sv.symm,k2,k4,k5,s08.free g1⟩
   left;obtain⟨x1,x2,z1,z2,z3⟩:=two.ex;exact⟨tl,_,[],[],rfl,⟨x1,x2,sb _ _ (nL z1) z1,sb _ _ (nL z2) z2,sb _ _ (nL z3) z3⟩,ac.due,.inr ⟨k,e2,ac⟩⟩
  .have acc:Acc L R k:=⟨gd,nin,eix,n0,m0,wb,#[],#[]⟩;intro dx H' s' hd hx;refine jf5 (qca T.w15).1 (qez ?_);left;rename_i ae hae;refine⟨ae,rfl,.inr ⟨dx,z,v,qa1,qa7 hx hae,fun l' H2 s2 hl' two'=>?_⟩⟩;left;exact⟨l',_,_,_,rfl,two',acc.due (.inl ⟨v,pin v hv.1,(ov1 v).mp hv,fun v' _ ho=>hle v' ((ov1 v').mpr ho),rfl,by rw[sv]⟩),.inl ⟨((s08.trans s').trans (qa4 hae _)).trans s2,fun z=>by cases z⟩⟩
  .have acc:Acc L R k:=⟨gd,nin,eix,n0,m0,wb,#[],#[]⟩;rw[zC] at h1;obtain⟨j,hji,rfl⟩:=vQ.mp h1;have hj:=zD hji;have jn:=f.ac.lt hk j hj;have sj:=(ovj j v).mp (g.vioA f jn h2 h3 h4);have vin:v∈L.ws:=by
    apply Classical.byContradiction;intro hno;have c0:=f.capn jn v;unfold Ov at sj;rw[f.sum0 hno,jdg fa hno] at sj;omega
   intro dx H' s' hd hx;refine jf5 (qca T.w15).1 (qez ?_);left;rename_i ae hae;refine⟨ae,rfl,.inr ⟨dx,nmF L j,v,qa1,qa7 hx hae,fun l' H2 s2 hl' two'=>?_⟩⟩;left;refine⟨l',_,_,_,rfl,two',acc.due (.inr ⟨fun v' _ ho=>nv v' ((ov1 v').mpr ho),.inr ⟨i',j,v,hji,vin,sj,fun v' _ ho=>?_,fun i2 j2 hi2 hj2 v' _ ho=>?_,rfl,rfl⟩⟩),.inl ⟨((s08.trans s').trans (qa4 hae _)).trans s2,fun z=>by cases z⟩⟩
   .exact g.vioB f jn h2 h3 h5 ((ovj j v').mpr ho)
   .have hj2':=f.ac.lt hk j2 (zD hj2);have:=g.fine f hj2' (h6 i2 (nmF L j2) hi2 (by rw[zC,hj2];rfl)) v';have:=(ovj j2 v').mpr ho;omega
 .rintro σ' H9 ⟨tl',w9,xs,ys,rfl,tw,du,hc⟩;have hne:L.nm.length≠0:=by omega
  obtain⟨e0,y1,_,_⟩:=g.pl.at (k:=0) #[];have pa9:jbl H9 p L:=by
   rcases hc with⟨s,_⟩|⟨k,e2,a⟩
   .exact pa.same s
   .exact pa.sbG f hT (qbw y1).1 a.sb
  have rw9:je5 P w K L.ws R H9:=by
   rcases hc with⟨s,_⟩|⟨k,e2,a⟩
   .exact rw5.same s
   .exact rw5.sb a.ac hT (qbw y1).1 a.sb
  have hr9:H9 r=some (.lst [R.z,R.y,R.a,R.b,R.wt]):=by
   rcases hc with⟨s,_⟩|⟨k,e2,a⟩
   .exact s _ _ hr5
   .exact a.sb _ _ (fun e=>by have hh:=hT.2.2.1;rw[<-e,hr5] at hh;cases hh) hr5
  left;refine⟨p,r,L,R,rfl,f,pa9,hr9,rw9,fun l xs' ys' H' s' hl' tw' du'=>?_⟩;obtain⟨rfl,rfl⟩:=du.uniq du';obtain⟨x1,x2,z1,z2,z3⟩:=tw.ex;have ne:tl'≠l:=qa8 z1 hl';refine jm8 ne ∅ ((tw.same s').eqT tw' ne) ?_;rcases hc with⟨s,hx⟩|⟨k,e2,a⟩
  .exact q _ (.inl ⟨s.trans s',fun ys2 h=>hx (du.uniq h).1⟩)
  .exact q _ (.inr ⟨k,e2,⟨fun b o hb e=>s' _ _ (a.sb b o hb e),a.ac,a.o1,a.o2,a.tr.same s',a.en,a.el,a.fp,a.fc,a.na⟩⟩)
theorem juq(f s:Str)(c:Int):atI [V.str f,.str f,.str f,.str f,.str (uO ""),.str s] (c%6)=some (.str (if c%6=4 then uO "" else if c%6=5 then s else f)):=by
 have m0:=uW c (show(6:Int)≠0 by decide);have m1:=uU c (show(0:Int)<6 by decide);generalize c%6=m at*;rcases(show m=0\/m=1\/m=2\/m=3\/m=4\/m=5 by omega) with rfl|rfl|rfl|rfl|rfl|rfl<;>rfl
structure ScE(c sc:Int):Prop where
 e:scR c=sc
 lo:0<=sc
 hi:sc<=10^27
def jr6(c:Int):ScE c (scR c):=⟨rfl,by have:=(jij c).1;omega,(jij c).2⟩
def jip(h:qbc z=true):z≠uO "":=fun e=>by
 have:=(qbs h).1;rw[e] at this;exact absurd this ∅
def we4(P:uI)(w:vA)(K:uY)(d:Ad):Sp:=fun vs H Q _=>∃(a p:Addr)(ns:List Int)(L:PL),vs=[.ref a,.ref p]/\SqL K H a (ns.map V.int)/\jbl H p L/\1<=L.ws.length/\L.ws.length<=3/\(∀z∈L.nm,qbc z=true)/\1<=L.nm.length/\L.nm.length<=41/\nmS (cell ns 1) 9∉L.ws/\
 ∀r x0 x1 x2 x3 x4 H' n m,qas H H'->H r=none->H' r=some (.lst [x0,x1,x2,x3,x4])->Ths P w H' (jv2 ns L.ws L.nm) [x0,x1,x2,x3,x4]->Hk P w K L.ws (prF L.ws (cell ns 6) L.ws.length) x2 H' n->Hk P w K L.ws (cpF L.ws (cell ns 6) L.ws.length) x3 H' m->Q (.ref r) H'
set_option maxHeartbeats 4000000 in
include T in
theorem wcm:jab P w K mg base CX0 3 d.wdl d.wc0 ["_law_script","_law_plan_here"] (we4 P w K d):=by
 exists T.wdi.ok w14
 .right
 obtain⟨a,p,ns,L,rfl,hS,pa,w1,w3,hng,n1,n41,hst,q⟩:=h;refine' ⟨_,(qa3 (qg2 (pv 1) (qg3 rfl (qap (qah (i:=2) w14.nd rfl (uK rfl)) (qap (qah (i:=3) w14.nd rfl (uK rfl)) (qap (qah (i:=4) w14.nd rfl (uK rfl)) (qap (qah (i:=5) w14.nd rfl (uK rfl)) (qap (qah (i:=6) w14.nd rfl (uK rfl)) qdf)))))))
  (qa3 (qel (j:=7) (caps:=[0]) (cn:=["_law_script"]) (qc6 rfl rfl (by rfl) (by rfl) rfl ⟨rfl,trivial⟩ (by rfl) rfl ⟨⟨rfl,rfl,rfl,rfl,_,rfl⟩,trivial⟩ ∅) rfl w14.nd rfl rfl (qb9 rfl T.w13 #[qa5]) (fun _ _ _ _=>qd7) (fun _ _ _ _=>(qaf ((w0s T).mono ∅) hr rfl T.w19 T.w0x.kp T.w16 .nil qaz #[pv 1,qae qbp qa5 (pv 0)])))
  (qa3 (qag (i:=8) w14.nd rfl (uK rfl) (qaf ((w59 T).mono ∅) hr rfl T.w5q T.w3y.kp T.w5t .nil qaz #[pv 0,qac qaw rfl T.w1l vH #[pv 3]]))
  (qa3 (qag (i:=9) w14.nd rfl (uK rfl) (qaf ((w7l T).mono ∅) hr rfl T.was T.w8m.kp T.wai .nil qaz #[qaf ((w0s T).mono ∅) hr rfl T.w19 T.w0x.kp T.w16 .nil qaz #[pv 0,qa5],qa5]))
  ?r1x)))),?_⟩
 case' r1x=>(with_unfolding_all change My.PSsx _ _ _);refine' (qgv (i:=10) w14.nd rfl (uK rfl) (qem (qan (pv 8) (qan (pv 8) (qan (pv 8) (qan (pv 8) (qan qaq (qan (qao qab (pv 3) (qae qb1 (qae qav (~~~7) qa5) (qac qaw rfl T.w1l vH #[pv 3])) nofun) qen)))))) (qae qb1 (~~~7) qa5) nofun) ?r1xy)
 case' r1xy=>refine' (qa3 (qbf (qay (qal qcu (pv 10) qaq (qar _)) ?r2x qad))
  (qa3 (qag (i:=11) w14.nd rfl (uK rfl) (qao qab (pv 3) (qae qb1 (qae qav (~~~7) qa5) (qac qaw rfl T.w1l vH #[pv 3])) nofun))
  (qa3 (qbf (qay (qal qcu (qae qb1 (~~~7) qa5) qa5 (qar _)) (qa6 (qag (i:=11) w14.nd rfl (uK rfl) (qao qab (pv 3) (qac (qdm rfl) rfl T.wbj aK #[qa5,qae jdl (qac qaw rfl T.w1l vH #[pv 3]) qa5]) nofun))) qad))
  (qa3 (qbf (qay (qal qcu (qae qb1 (~~~7) qa5) qa5 (qar _)) ?r3x qad))
  ?r4x))))
 case' r2x=>(with_unfolding_all change My.PSsx _ _ _);exact(qgw (i:=10) w14.nd rfl (uK rfl) (qem (qan qcq (qan qaq (qan qaq (qan qaq (qan qaq (qan qaq (qan qa5 (qan qdi (qan (qam #[qaq]) (qan (jfp #[qaq]) qen)))))))))) (qae qb1 (qae qav (~~~7) qa5) qa5) nofun))
 case' r3x=>(with_unfolding_all change My.PSsx _ _ _);exact(qgw (i:=11) w14.nd rfl (uK rfl) (qem (qan qcq (qan qaq (qan (pv 8) (qan qaq (qan qa5 (qan qdi (qan (qam #[qaq]) (qan (jfp #[qaq]) (qan qc3 qen))))))))) (qae qb1 (qae qav (~~~7) qa5) qa5) nofun))
 case' r4x=>(with_unfolding_all change My.PSsx _ _ _);refine' (qgv (i:=12) w14.nd rfl (uK rfl) (qem (qan qa5 (qan qa5 (qan (qae qeb qa5 qa5) qen))) (qae qb1 (qae qav (~~~7) qa5) qa5) nofun) ?r4xy)
 case' r4xy=>refine' (qa3 (qag (i:=13) w14.nd rfl (uK rfl) qc3)
  (qa3 (qag (i:=14) w14.nd rfl (uK rfl) qc3)
  (qa3 (qbl vJ rfl (qb9 rfl T.w13 #[qac qaw rfl T.w1l vH #[pv 2]]) (qah (i:=15) w14.nd rfl (uK rfl)) (qa3 (qag (i:=16) w14.nd rfl (uK rfl) (qaf ((w89 T).mono ∅) hr rfl T.w9g T.w88.kp T.w9y .nil qaz #[qae qav (~~~7) qa5,pv 15]))
  (qa3 (qci (qc1 hr) (pv 13) (qao qab (pv 2) (pv 15) nofun) (qae qck (qae qb1 (pv 16) qa5) (pv 12)) rfl)
  ?r5x)))
  (qa3 (qbf (qay (qal qcu (qae qb1 (~~~7) qa5) qa5 (qar _)) (qa6 (qag (i:=13) w14.nd rfl (uK rfl) (qaf ((w4l T).mono ∅) hr rfl T.w5e T.w3m.kp T.w54 .nil qaz #[pv 13,qae qav (~~~7) qa5,pv 2,pv 9]))) qad))
  (qa3 (qbf (qay (qal qcu (qae qb1 (~~~7) qa5) qa5 (qar _)) (qa6 (qag (i:=14) w14.nd rfl (uK rfl) (qaf ((w4l T).mono ∅) hr rfl T.w5e T.w3m.kp T.w54 .nil qaz #[pv 14,qae qav (~~~7) qa5,pv 2,pv 9]))) qad))
  (qa3 (qag (i:=18) w14.nd rfl (uK rfl) (qae qbp qa5 (qae qb1 (qae qav (~~~7) qa5) qa5)))
  (qa3 (qbf (qay (qal qcu (qae qb1 (~~~7) qa5) qa5 (qar _)) ?r6x qad))
  (qa6 (qaj (qam #[pv 10,pv 11,pv 13,pv 14,pv 18]))))))))))
 case' r5x=>(with_unfolding_all change My.PSsx _ _ _);refine' (qgv (i:=17) w14.nd rfl (uK rfl) (qem (qan qa5 (qan (pv 12) (qan (qae qeb qa5 qa5) (qan qa5 (qan qa5 (qan (qae jdl qa5 (pv 12)) qen)))))) (qae qb1 (qae qav (pv 16) qa5) qa5) nofun) ?r5xy)
 case' r5xy=>exact(qa6 (qbf (qay (qal qfj (qae qb1 (qae qav (pv 16) qa5) qa5) qa5 (qar _)) (qa6 (qci (qc1 hr) (pv 14) (qao qab (pv 2) (pv 15) nofun) (qac (qdm rfl) rfl T.wbj aK #[qae qeb qa5 qa5,qac (jcl rfl) rfl T.wdw PyProof.Rows.boot_max #[qa5,qae qbp (pv 13|||qao qab (pv 2) (pv 15) nofun) (pv 17)]]) rfl)) qad)))
 case' r6x=>(with_unfolding_all change My.PSsx _ _ _);exact(qgw (i:=18) w14.nd rfl (uK rfl) (qem (qan qa5 (qan qa5 (qan (jo8 jkg qa5) (qan qdi (qan qcq (qan qaq (qan (qae qeb qa5 qa5) qen))))))) (qae qb1 (qae qav (~~~7) qa5) qa5) nofun))
 walk_at"d"
 try dsimp only[cxC]
 refine qak (σ:=[sr a,sr p,none,none,none,none,none,none,none,none,none,none,none,none,none,none,none,none,none]) rfl ?_;have etop:=pa.top;have hW:=pa.w;have hN:=pa.n;have hnl2:(L.nm.map V.str).length=L.nm.length:=zB _;have hwl2:(L.ws.map V.str).length=L.ws.length:=zB _;left;intro C s0 H0 fp lh hlh;refine jdy 5 (fun i H'=>H'=upd H lh (.lst (((uN i).map fun k:Nat=>cell ns (4+(0+(k:Int)))).map V.int))) rfl (fun i H' hi _=>hi) (fun H' _=>uG _) ?_ ?_
 .rintro i H' v H'' hi rfl ⟨rfl,rfl⟩;have hS':=qe0 (o:=.lst (((uN i).map fun k:Nat=>cell ns (4+(0+(k:Int)))).map V.int)) hS hlh;left;refine⟨a,ns,_,rfl,hS',#[],?_⟩;refine⟨_,qa1,by rw[zB,zB,yD];show _<16777216;omega,?_⟩;rw[qb4,yP,zE,zE];rfl
 rintro H' rfl;have eC:upd H lh (.lst (((uN 5).map fun k:Nat=>cell ns (4+(0+(k:Int)))).map V.int)) lh=some (.lst [.int (cell ns 4),.int (cell ns 5),.int (cell ns 6),.int (cell ns 7),.int (cell ns 8)]):=qa1;have s1:=qa4 hlh (.lst (((uN 5).map fun k:Nat=>cell ns (4+(0+(k:Int)))).map V.int));generalize upd H lh (.lst (((uN 5).map fun k:Nat=>cell ns (4+(0+(k:Int)))).map V.int))=H1 at*;have hS1:=s1.seq hS;have hW1:=s1 _ _ hW;have hN1:=s1 _ _ hN;unfold jv2 at q;generalize cell ns 4=c0 at*;generalize cell ns 5=c1 at*;generalize cell ns 6=c2 at*;generalize cell ns 7=c3 at*;generalize cell ns 8=c4 at*;left;rw[hnl2];refine⟨a,ns,_,rfl,hS1,#[],#[],?_⟩;have gfr:qbc (nmS (hnC ns) ((L.nm.length:Nat):Int))=true:=qf6 _ _;generalize nmS (hnC ns) ((L.nm.length:Nat):Int)=fr at*;left;refine⟨a,ns,1,rfl,hS1,∅,?_⟩;left;refine⟨_,_,rfl,∅,∅,?_⟩;generalize nmS (cell ns 1) 9=st at*;clear hS hS1 hW hN hlh;obtain⟨pk,pm⟩:=qgy n1 c0;obtain⟨pk1,pm1⟩:=qgy n1 c1;obtain⟨lk,lm⟩:=jj8 n1;left;rw[hnl2];refine qb5 (SqL.of hN1) pk ?_;left;rename_i p0 hp0;have s2:=s1.trans (qa4 hp0 (.lst [V.str fr,V.str fr,V.str fr,V.str fr,V.str (uO ""),V.str (qfg L.nm c0)]));have eC2:=qa7 (o':=.lst [V.str fr,V.str fr,V.str fr,V.str fr,V.str (uO ""),V.str (qfg L.nm c0)]) eC hp0;refine qb5 (SqL.of qa1) (juq fr (qfg L.nm c0) c0) ?_;generalize upd H1 p0 (.lst [V.str fr,V.str fr,V.str fr,V.str fr,V.str (uO ""),V.str (qfg L.nm c0)])=H2 at*;clear eC hW1 hN1 hp0 pk s1;have gnm:(if c0%6=4 then uO "" else if c0%6=5 then qfg L.nm c0 else fr)=uO ""->c0%6=4:=fun e=>by
  by_cases c:c0%6=4
  .exact c
  .rw[iN c] at e
   split at e
   .exact absurd e (jip (hng _ pm))
   .exact absurd e (jip gfr)
 left;refine qce (fun σ' H'=>∃x,σ'=[sr a,sr p,sr L.lw,sr L.ln,sr L.le,sr L.lp,sr L.lc,sr lh,some (.str fr),some (.str st),some x,none,none,none,none,none,none,none,none]/\qas H H'/\qas H2 H'/\qdt P w H' (jos fr L.nm c0) x) ?_ ?_
 .left;refine i_2 (fun c=>?_) (fun c=>?_)
  .have c:=gnm c;left;rename_i p1 hp1 p2 hp2 p3 hp3;have t2:=fun o=>(qa4 hp1 _).trans ((qa4 hp2 _).trans (qa4 hp3 o));refine job (P:=P) (w:=w) (ts:=jod) (SqL.of qa1) ⟨⟨rfl,rfl⟩,⟨rfl,rfl⟩,⟨rfl,rfl⟩,⟨rfl,rfl⟩,⟨rfl,rfl⟩,⟨rfl,rfl⟩,⟨rfl,rfl⟩,⟨rfl,rfl⟩,⟨_,rfl,qa7 (qa7 qa1 hp2) hp3⟩,⟨_,rfl,qa7 qa1 hp3⟩,trivial⟩ rfl ∅ fun x hx=>?_;left;refine⟨x,rfl,s2.trans (t2 _),t2 _,?_⟩;unfold jos;rw[iO c];exact hx
  .left;refine⟨_,rfl,s2,qas.refl _,?_⟩;unfold jos;have c4:¬c0%6=4:=fun z=>c (by rw[iO z]);rw[iN c4,iN c4]
   split
   .exact⟨rfl,rfl⟩
   .exact⟨rfl,rfl⟩
 rintro σ' H3 ⟨x,rfl,s3,s23,hx⟩;have eC3:=s23 _ _ eC2;have hN3:=s3 _ _ pa.n;clear eC2 s2 s23 gnm;left;rw[hnl2];refine qb5 (SqL.of hN3) pk1 ?_;left;refine qce (fun σ' H'=>σ'=[sr a,sr p,sr L.lw,sr L.ln,sr L.le,sr L.lp,sr L.lc,sr lh,some (.str fr),some (.str st),some x,some (.str (if c1%6=3 then jii L.nm else qfg L.nm c1)),none,none,none,none,none,none,none]/\H'=H3) ?_ ?_
 .left;refine i_2 (fun c=>?_) (fun c=>?_)
  .left;rw[hnl2];refine qb5 (SqL.of hN3) lk ?_;left;rw[iO c];exact⟨rfl,rfl⟩
  .left;rw[iN c];exact⟨rfl,rfl⟩
 rintro σ' H' ⟨rfl,e⟩;obtain rfl:=e.symm;left;refine qce (fun σ' H'=>∃y,σ'=[sr a,sr p,sr L.lw,sr L.ln,sr L.le,sr L.lp,sr L.lc,sr lh,some (.str fr),some (.str st),some x,some y,none,none,none,none,none,none,none]/\qas H3 H'/\qdt P w H' (jot fr L.nm c1) y) ?_ ?_
 .left;refine i_2 (fun c=>?_) (fun c=>?_)
  .left;rename_i p1 hp1 p2 hp2 p3 hp3 p4 hp4;have t2:=fun o=>(qa4 hp1 _).trans ((qa4 hp2 _).trans ((qa4 hp3 _).trans (qa4 hp4 o)));refine job (P:=P) (w:=w) (ts:=joe fr) (SqL.of qa1) ⟨⟨rfl,rfl⟩,⟨rfl,rfl⟩,⟨rfl,rfl⟩,⟨rfl,rfl⟩,⟨rfl,rfl⟩,⟨rfl,rfl⟩,⟨_,rfl,qa7 (qa7 (qa7 qa1 hp2) hp3) hp4⟩,⟨_,rfl,qa7 (qa7 qa1 hp3) hp4⟩,⟨_,rfl,qa7 qa1 hp4,fun q hq=>absurd hq (by simp)⟩,trivial⟩ rfl ∅ fun y hy=>?_;left;refine⟨y,rfl,t2 _,?_⟩;unfold jot;rw[iO c];exact hy
  .left;refine⟨_,rfl,qas.refl _,?_⟩;unfold jot;rw[iN c]
   split
   .exact⟨rfl,rfl⟩
   .exact⟨rfl,rfl⟩
 rintro σ' H4 ⟨y,rfl,s34,hy⟩;have s4:=s3.trans s34;have eC4:=s34 _ _ eC3;have hx4:=hx.same s34;clear hx hN3 eC3 pk1 lk lm pm pm1 s34 s3;left;rename_i p5 hp5;have s45:=qa4 hp5 (.lst [V.int 1,V.int 7000000001,V.int (10^wB 27)]);refine jr3 (xs:=[1,7000000001,10^wB 27]) (SqL.of qa1) rfl ∅ ?_;generalize upd H4 p5 (.lst [V.int 1,V.int 7000000001,V.int (10^wB 27)])=H5 at*;have s5:=s4.trans s45;have eC5:=s45 _ _ eC4;have hx5:=hx4.same s45;have hy5:=hy.same s45;have hE:ScE c2 (atN [1,7000000001,10^wB 27] (c2.fdiv 6) 3):=jr6 c2;generalize atN [1,7000000001,10^wB 27] (c2.fdiv 6) 3=sc at*;clear eC4 hx4 hy s45 s4 hp5;have hW5:=s5 _ _ pa.w;left;rename_i dp hdp dc hdc;have hdc5:H5 dc=none:=(qa4 hdp _).free hdc;have ndpc:dp≠dc:=fun e=>by subst e;rw[qa1] at hdc;cases hdc
 rw[hwl2,show(((L.ws.length:Nat):Int)).toNat=L.ws.length by omega];refine qcx (fun j σ H'=>∃(u1 u2 u3:Option V),σ=[sr a,sr p,sr L.lw,sr L.ln,sr L.le,sr L.lp,sr L.lc,sr lh,some (.str fr),some (.str st),some x,some y,some (.int sc),sr dp,sr dc,u1,u2,u3,none]/\qas H5 H'/\H' dp=some (.dK (prK L.ws c2 j))/\H' dc=some (.dK (cpK L.ws c2 j))) ⟨none,none,none,rfl,(qa4 hdp _).trans (qa4 hdc _),qa7 qa1 hdc,qa1⟩ ?_ ?_
 .rintro j σ H' hj ⟨u1,u2,u3,rfl,sm,ep,ec⟩;have hW6:=sm _ _ hW5;have eC6:=sm _ _ eC5;have Ap:=jen L.ws c2 j;have Ac':=jeo L.ws c2 j;have lp:(prK L.ws c2 j).length<sizeLine:=by
   have:=Ap.le (ws:=L.ws) (fun z hz=>by cases e:prF L.ws c2 j z with|none=>exact absurd e hz|some n=>exact(jdi #[] z n e).1);show _<16777216;omega
  have lc:(cpK L.ws c2 j).length<sizeLine:=by
   have:=Ac'.le (ws:=L.ws) (fun z hz=>by cases e:cpF L.ws c2 j z with|none=>exact absurd e hz|some n=>exact(qhb #[] z n e).1);show _<16777216;omega
  have xw:atI (L.ws.map V.str) (0+(j:Int))=some (.str (je7 L.ws j)):=by
   unfold je7;rw[zA hj,eB];exact qau (by rw[zC,zA hj];rfl)
  have hj0:(0:Int)<=0+(j:Int)/\(0:Int)+(j:Int)<=10000:=by omega
  have eP:prK L.ws c2 (j+1)=qcs (prK L.ws c2 j) (.inr (je7 L.ws j)) (.int (prV c2 (0+(j:Int)))):=rfl;have eQ:cpK L.ws c2 (j+1)=if(mxN (c2.fdiv 18) (0+(j:Int))).fdiv 24%6 > 0 then qcs (cpK L.ws c2 j) (.inr (je7 L.ws j)) (.int (cpV c2 (0+(j:Int)))) else cpK L.ws c2 j:=rfl
  have eF:prF L.ws c2 (j+1) (je7 L.ws j)=some (prV c2 (0+(j:Int))):=by show qda _ _ _ _=_;unfold qda;rw[iO rfl]
  have Ap1:=jen L.ws c2 (j+1);unfold prV at eP eF;unfold cpV cpM at eQ;rw[hE.e] at eP eQ eF;unfold prV at eQ;rw[hE.e] at eQ;generalize je7 L.ws j=zw at*;generalize (0:Int)+(j:Int)=ji at*;left;refine⟨_,_,rfl,hj0.1,hj0.2,fun r r0 er=>?_⟩;rw[<-er] at eP eQ eF;clear er;have v0:=uW r (show(4:Int)≠0 by decide);have v1:=uU r (show(0:Int)<4 by decide);have sb:sc.natAbs<2^600:=by
   have a:=hE.lo;have b:=hE.hi;exact wS (show sc.natAbs<=10^27 by omega) ∅
  have vb:(r%4).natAbs<2^600:=wS (show(r%4).natAbs<=6 by omega) ∅;clear v0 v1;left;refine qb5 (SqL.of hW6) xw ?_;left;rename_i p6 hp6;rw[<-eP] at hp6⊢;have sm1:qas H5 (upd H' dp (.dK (prK L.ws c2 (j+1)))):=qax sm hdp;have ec1:upd H' dp (.dK (prK L.ws c2 (j+1))) dc=some (.dK (cpK L.ws c2 j)):=by rw[qa9 (xB ndpc)];exact ec
  have ep1:upd H' dp (.dK (prK L.ws c2 (j+1))) dp=some (.dK (prK L.ws c2 (j+1))):=qa1;generalize upd H' dp (.dK (prK L.ws c2 (j+1)))=H7 at*;refine jr3 (xs:=[0,sc,10^wB 30,1,0,0-sc]) (SqL.of qa1) rfl ∅ ?_;have sm2:=sm1.trans (qa4 hp6 (.lst [V.int 0,V.int sc,V.int (10^wB 30),V.int 1,V.int 0,V.int (0-sc)]));have ec2:=qa7 (o':=.lst [V.int 0,V.int sc,V.int (10^wB 30),V.int 1,V.int 0,V.int (0-sc)]) ec1 hp6;have ep2:=qa7 (o':=.lst [V.int 0,V.int sc,V.int (10^wB 30),V.int 1,V.int 0,V.int (0-sc)]) ep1 hp6;generalize upd H7 p6 (.lst [V.int 0,V.int sc,V.int (10^wB 30),V.int 1,V.int 0,V.int (0-sc)])=H8 at*;rw[show(10:Int)^wB 30=10^30 from rfl];generalize hmo:atN [0,sc,10^30,1,0,0-sc] (r.fdiv 4) 6=mo at*;clear hmo sm1 ec1 ep1 hp6 sm ep ec hW6 eC6 Ap Ac' lp;have hW8:=sm2 _ _ hW5;have hR8:Rd H8 dp (.dK (prK L.ws c2 (j+1))):=.inl ep2;left;refine qc8 ?_;left;refine i_2 (fun c=>?_) (fun c=>?_)
  .rw[iO c] at eQ;left;refine qb5 (SqL.of hW8) xw ?_;refine jqw hR8 Ap1 eF ?_;left;refine qb5 (SqL.of hW8) xw ?_;left;refine⟨_,_,_,rfl,qax sm2 hdc5,by rw[qa9 ndpc];exact ep2,?_⟩;rw[qa1,eQ];rfl
  .rw[iN c] at eQ;left;exact⟨_,_,_,rfl,sm2,ep2,by rw[eQ];exact ec2⟩
 .rintro σ H6 ⟨u1,u2,u3,rfl,sm,ep,ec⟩;have s6:=s5.trans sm;have eC6:=sm _ _ eC5;have hx6:=hx5.same sm;have hy6:=hy5.same sm;have hW6:=s6 _ _ pa.w;have Ap:=jen L.ws c2 L.ws.length;have Ac':=jeo L.ws c2 L.ws.length;have Fp:Fin L.ws (prF L.ws c2 L.ws.length):=jdi (uG _);have Fc:Fin L.ws (cpF L.ws c2 L.ws.length):=qhb (uG _);have lp:(prK L.ws c2 L.ws.length).length<=1000:=by
   have:=Ap.le (ws:=L.ws) (fun z hz=>by cases e:prF L.ws c2 L.ws.length z with|none=>exact absurd e hz|some n=>exact(Fp z n e).1);omega
  have lc:(cpK L.ws c2 L.ws.length).length<=1000:=by
   have:=Ac'.le (ws:=L.ws) (fun z hz=>by cases e:cpF L.ws c2 L.ws.length z with|none=>exact absurd e hz|some n=>exact(Fc z n e).1);omega
  unfold jv0 jv1 at q;generalize prK L.ws c2 L.ws.length=kp at*;generalize cpK L.ws c2 L.ws.length=kc at*;generalize prF L.ws c2 L.ws.length=fpp at*;generalize cpF L.ws c2 L.ws.length=fcc at*;clear hE hdc ndpc hdp hdc5 hx5 hy5 eC5 hW5 s5;left;refine qce (fun σ' H'=>∃xa n,σ'=[sr a,sr p,sr L.lw,sr L.ln,sr L.le,sr L.lp,sr L.lc,sr lh,some (.str fr),some (.str st),some x,some y,some (.int sc),some xa,sr dc,u1,u2,u3,none]/\qas H6 H'/\qdt P w H' (if c2%6=4 then jel kp (c2.fdiv 18) L.ws st else .dk kp) xa/\Hk P w K L.ws fpp xa H' n) ?_ ?_
  .left;refine i_2 (fun c=>?_) (fun c=>?_)
   .left;refine⟨dp,L.lw,kp,fpp,_,L.ws,st,rfl,ep,Ap,Fp,hW6,w1,w3,hst,fun xa H' n s' ht hh=>?_⟩;left;exact⟨xa,n,rfl,s',by rw[iO c];exact ht,hh⟩
   .left;exact⟨_,0,rfl,qas.refl _,by rw[iN c];exact⟨dp,rfl,ep,kfl Ap⟩,.ok rfl ep Ap lp Fp⟩
  rintro σ' H7 ⟨xa,n,rfl,s67,ta,ka⟩;have s7:=s6.trans s67;have eC7:=s67 _ _ eC6;have hx7:=hx6.same s67;have hy7:=hy6.same s67;have hW7:=s67 _ _ hW6;have ec7:=s67 _ _ ec;clear eC6 hx6 hy6 hW6 ep ec lp Ap Fp s67;left;refine qce (fun σ' H'=>∃xb m,σ'=[sr a,sr p,sr L.lw,sr L.ln,sr L.le,sr L.lp,sr L.lc,sr lh,some (.str fr),some (.str st),some x,some y,some (.int sc),some xa,some xb,u1,u2,u3,none]/\qas H7 H'/\qdt P w H' (if c3%6=4 then jel kc (c3.fdiv 6) L.ws st else .dk kc) xb/\Hk P w K L.ws fcc xb H' m) ?_ ?_
  .left;refine i_2 (fun c=>?_) (fun c=>?_)
   .left;refine⟨dc,L.lw,kc,fcc,_,L.ws,st,rfl,ec7,Ac',Fc,hW7,w1,w3,hst,fun xb H' m s' ht hh=>?_⟩;left;exact⟨xb,m,rfl,s',by rw[iO c];exact ht,hh⟩
   .left;exact⟨_,0,rfl,qas.refl _,by rw[iN c];exact⟨dc,rfl,ec7,kfl Ac'⟩,.ok rfl ec7 Ac' lc Fc⟩
  rintro σ' H8 ⟨xb,m,rfl,s78,tb,kb⟩;have s8:=s7.trans s78;have eC8:=s78 _ _ eC7;have hx8:=hx7.same s78;have hy8:=hy7.same s78;have ta8:=ta.same s78;have ka8:=ka.same s78;clear eC7 hx7 hy7 hW7 ec7 lc Ac' Fc s78 ta ka;left;refine qce (fun σ' H'=>∃xw,σ'=[sr a,sr p,sr L.lw,sr L.ln,sr L.le,sr L.lp,sr L.lc,sr lh,some (.str fr),some (.str st),some x,some y,some (.int sc),some xa,some xb,u1,u2,u3,some xw]/\qas H8 H'/\qdt P w H' (jou c4) xw) ?_ ?_
  .left;refine i_2 (fun c=>?_) (fun c=>?_)
   .left;rename_i p1 hp1;refine job (P:=P) (w:=w) (ts:=jof) (SqL.of qa1) ⟨⟨rfl,rfl⟩,⟨rfl,rfl⟩,⟨rfl,rfl⟩,⟨rfl,rfl⟩,⟨rfl,rfl⟩,⟨rfl,rfl⟩,⟨rfl,rfl⟩,trivial⟩ rfl ∅ fun xw hxw=>?_;left;refine⟨xw,rfl,qa4 hp1 _,?_⟩;unfold jou;rw[iO c];exact hxw
   .left;refine⟨_,rfl,qas.refl _,?_⟩;unfold jou;rw[iN c];exact⟨rfl,rfl⟩
  rintro σ' H9 ⟨xw,rfl,s89,tw⟩;left;rename_i pr hpr;have s9:=s89.trans (qa4 hpr (.lst [x,y,xa,xb,xw]));exact q pr x y xa xb xw _ n m (s8.trans s9) (s8.free (s89.free hpr)) qa1 ⟨hx8.same s9,hy8.same s9,ta8.same s9,tb.same s9,tw.same (qa4 hpr _),trivial⟩ (ka8.same s9) (kb.same s9)
theorem GT.names{P:PL}(g:GT S P):S.hl.map (·.n)=P.nm:=by
 apply List.ext_getElem?
 intro i;rw[zC];rcases vZ i P.nm.length with c|c
 .obtain⟨e,h1,h2,_⟩:=g.pl.get c;rw[h1,zA c,<-qbv c];show some e.n=_;rw[h2]
 .rw[aI (by rw[g.pl.len];exact c),aI c];rfl
def jka(hf:∀v n,f v=some n->0<n)(hg:∀v n,g v=some n->0<n):∀v n,qdx f g v=some n->0<n:=fun v n e=>by
 unfold qdx at e
 cases h:g v with
 |none=>rw[h] at e;exact hf v n e
 |some b=>
  rw[h] at e;have e:=vB e;have:=hg v b h;unfold gN at e
  cases h2:f v with
  |none=>rw[h2] at e;have e:0+b=n:=e;omega
  |some a=>rw[h2] at e;have:=hf v a h2;have e:a+b=n:=e;omega
theorem jcq:∀{ts:List Pt} {f:Str->Option Int},(∀v n,f v=some n->0<n)->(∀t∈ts,∀v n,t.f v=some n->0<n)->∀v n,ts.foldl (fun f t=>qdx f t.f) f v=some n->0<n
 | [],f,hf,_=>hf
 |t::ts,f,hf,h=>jcq (ts:=ts) (jka hf (h t (zG ..))) fun u hu=>h u (zF _ hu)
theorem jr7(hg:∀v n,g v=some n->0<n)(h:∀v,gN f v=gN g v)(v:Str):qbm f v=g v:=by
 have e:=h v;unfold gN at e;unfold qbm
 cases h1:g v with
 |none=>
  rw[h1] at e
  cases h2:f v with
  |none=>rfl
  |some a=>rw[h2] at e;have e:a=0:=e;show(if 0<a then some a else none)=none;rw[iN #[]]
 |some n=>
  have n0:=hg v n h1;rw[h1] at e
  cases h2:f v with
  |none=>rw[h2] at e;have e:(0:Int)=n:=e;omega
  |some a=>rw[h2] at e;have e:a=n:=e;show(if 0<a then some a else none)=some n;rw[iO #[],e]
theorem GT.ptPos{P:PL}(g:GT S P)(u v:Str)(n:Int)(h:(qdv S u).f v=some n):0<n:=by
 unfold qdv at h
 cases e:S.at u with
 |none=>rw[e] at h;cases h
 |some x=>
  rw[e] at h;obtain⟨i,hi,hx,_⟩:=g.pl.ix (qbw e).1;have:=(g.da i x hx).1 v;rw[show x.x.fp v=some n from h] at this;exact(qff this.symm).2
inductive jiq(K:uY)(d:Ad)(vs:List V)(H:Hp)(Q:VK)(E:XK):Prop
 |mk(t p:Addr)(S:Ts)(P:PL)(_:vs=[.ref t,.ref p])(_:GF P)(_:jbl H p P)(_:qdy d H t S)(_:GT S P)(_:∀H',qas H H'->Q (.bl true) H')
include T in
theorem wby:jab P w K mg base CX0 20 d.w82 d.w6k ["_law_tree_here","_law_plan_here"] (jiq K d):=by
 exists T.wal.ok w2t
 .right
 obtain⟨t,p,S,P,rfl,f,pa,hT,g,q⟩:=h;exists (qa3 (qg2 (pv 1) (qg3 rfl (qap (qah (i:=2) w2t.nd rfl (uK rfl)) (qap (qah (i:=3) w2t.nd rfl (uK rfl)) (qap (qah (i:=4) w2t.nd rfl (uK rfl)) (qap (qah (i:=5) w2t.nd rfl (uK rfl)) (qap (qah (i:=6) w2t.nd rfl (uK rfl)) qdf)))))))
  (qa3 (qay (PW.pt (qek (qal (jk2 (hu8 hr)) (ji4 (pv 0) T.w0b T.w1s ((w7f T).mono ∅) hr T.w8j .nil qaz) (qac qd0 rfl T.w3l wP #[pv 3]) (qar _)) (qd6 (qal qec (qbi (W:=fun _ _ _ _=>False) (pv 0) T.w0b T.w0k ((w1e T).mono ∅) hr T.w1p .nil jb8 #[~~~3]) qcq (qar _))))) (qa6 (qaj qdi)) qad)
  (qa3 (qbl vJ rfl (jbq rfl T.w13 #[qa5,qac qaw rfl T.w1l vH #[pv 3]]) (qah (i:=7) w2t.nd rfl (uK rfl)) (qa6 (qay (qal jo9 (qbi (W:=fun _ _ _ _=>False) (pv 0) T.w0b T.w0k ((w1e T).mono ∅) hr T.w1p .nil jb8 #[qao qab (pv 3) (pv 7) nofun]) (qao qab (pv 3) (qao qab (pv 4) (pv 7) nofun) nofun) (qar _)) (qa6 (qaj qdi)) qad)))
  (qa6 (qaj (qaf ((wcb T).mono ∅) hr rfl T.wdb T.wbd.kp T.wde .nil qaz #[qbi (W:=fun _ _ _ _=>False) (pv 0) T.w0b T.w0d ((w1j T).mono ∅) hr T.w1o .nil jb8 #[~~~3],qaf ((wd6 T).mono ∅) hr rfl T.wdq T.wcq.kp T.we7 .nil qaz #[qao qab (qaf ((waf T).mono ∅) hr rfl T.wbn T.waj.kp T.wb6 .nil qaz #[pv 4,pv 5]) qa5 nofun]])))))),[sr t,sr p,none,none,none,none,none,none];have ct:=T.w0b;have n10:=f.n10;have nl:=f.nl;have etop:=pa.top;obtain⟨dx,ht⟩:=id hT.1;have hnl2:(P.nm.map V.str).length=P.nm.length:=zB _;left;refine⟨t,S,rfl,hT,fun l1 ss hl1 hp hs=>?_⟩;have s2:=qa4 hl1 (.lst (ss.map V.str));have el1:upd H l1 (.lst (ss.map V.str)) l1=some (.lst (ss.map V.str)):=qa1;generalize upd H l1 (.lst (ss.map V.str))=H2 at*;have en2:=(pa.same s2).n;left;refine qfc (SqL.of en2) #[] fun l2 ss2 hl2 hp2 hs2=>?_;have e12:ss=ss2:=by
  rw[g.names] at hp;exact jn7 (hp.trans hp2.symm) hs hs2
 have ne12:l1≠l2:=qa8 el1 hl2;refine jqo (n:=1) ne12 ∅ (qeh (n:=0) (SqL.of (qa7 el1 hl2)) (SqL.of qa1) ne12) ?_;rw[iP e12];have s3:=s2.trans (qa4 hl2 (.lst (ss2.map V.str)));show ∃k,V.bl false=V.bl k/\_;generalize upd H2 l2 (.lst (ss2.map V.str))=H3 at*;have hT3:=hT.same s3;have pa3:=pa.same s3;have en3:=pa3.n;have ee3:=pa3.e;have ht3:=s3 _ _ ht;have xn0:atI (P.nm.map V.str) 0=some (.str (nmF P 0)):=qau (j:=0) (by rw[zC,zA #[],qbv #[]];rfl);obtain⟨e0,a0,_,b0⟩:=g.pl.at (k:=0) #[];clear en2 el1 hl1 hl2 ht etop;left;refine qb5 (SqL.of en3) xn0 ?_;left;refine⟨t,S,.str (nmF P 0),rfl,hT3,.inl ⟨_,rfl⟩,fun e he=>?_,fun hn=>?_⟩
 rotate_left
 .rw[show who S (.str (nmF P 0))=some e0 from a0] at hn;cases hn
 have ee:e0=e:=vB (a0.symm.trans he);subst ee;rw[b0,iO rfl,show eV none=V.non from rfl];left;unfold jl4;left;have hrn1:((((P.nm.map V.str).length:Nat):Int)-1).toNat=P.nm.length-1:=by rw[hnl2];omega
 refine⟨1,_,rfl,⟨∅,∅,by rw[hnl2];omega,by rw[hnl2];omega⟩,?_⟩;rw[hrn1];refine qcx (fun i σ H'=>∃(w:Option V),σ=[sr t,sr p,sr P.lw,sr P.ln,sr P.le,sr P.lp,sr P.lc,w]/\H'=H3) ⟨none,rfl,rfl⟩ ?_ ?_
 .rintro i σ H' hi ⟨w,rfl,rfl⟩;have kn:1+i<P.nm.length:=by omega
  have hb:i<P.es.length:=by omega
  have eb:elN P.es (1+i)=P.es[i]:=by rw[iA 1 i];exact jef hb
  have el:=f.ac.elt (k:=1+i) #[] kn;have xe:atI (V.non::P.es.map iV) (((1+i:Nat)):Int)=some (V.int ((elN P.es (1+i):Nat):Int)):=by rw[eb];exact qau (by rw[iA 1 i,yX,zC,zA hb];rfl)
  have xn2:atI (P.nm.map V.str) ((elN P.es (1+i):Nat):Int)=some (.str (nmF P (elN P.es (1+i)))):=by rw[qbv el];exact qau (by rw[zC,zA el];rfl)
  have xn:atI (P.nm.map V.str) (((1+i:Nat)):Int)=some (.str (nmF P (1+i))):=by rw[qbv kn];exact qau (by rw[zC,zA kn];rfl)
  obtain⟨e1,a1,_,b1⟩:=g.pl.at kn;rw[iN #[]] at b1;rw[show(1:Int)+(i:Int)=(((1+i:Nat)):Int) by omega];generalize ((elN P.es (1+i):Nat):Int)=ej at xe xn2;generalize (((1+i:Nat)):Int)=ki at*;clear hrn1;left;refine qb5 (SqL.of en3) xn ?_;left;refine⟨t,S,.str (nmF P (1+i)),rfl,hT3,.inl ⟨_,rfl⟩,fun e he=>?_,fun hn=>?_⟩
  rotate_left
  .rw[show who S (.str (nmF P (1+i)))=some e1 from a1] at hn;cases hn
  have ee:e1=e:=vB (a1.symm.trans he);subst ee;rw[b1,show eV (some (nmF P (elN P.es (1+i))))=V.str (nmF P (elN P.es (1+i))) from rfl];left;refine qb5 (SqL.of ee3) xe ?_;left;refine qb5 (SqL.of en3) xn2 ?_;left;exact⟨_,rfl,rfl⟩
 rintro σ H' ⟨w,rfl,e⟩;obtain rfl:=e.symm;obtain⟨ow,w5,wl,nlen⟩:=g.hs f;have w3:=f.w3;have hpl:=f.pl;clear hrn1;left;refine qb5 (SqL.of en3) xn0 ?_;left;refine⟨t,S,.str (nmF P 0),rfl,hT3,g.pl.wf,ow,.inl ⟨_,rfl⟩,fun e he=>?_,fun hn=>?_⟩
 rotate_left
 .rw[show who S (.str (nmF P 0))=some e0 from a0] at hn;cases hn
 have ee:e0=e:=vB (a0.symm.trans he);subst ee;have en0:e0.n=nmF P 0:=(qbw a0).2;refine⟨by rw[en0];exact g.pl.depL (fun i hi=>f.l12 i hi) 12 0 #[] #[],fun l zs k' H4 s4 hl el hb hA=>?_⟩;rw[en0] at hb;have s04:=s3.trans s4;have pa4:=pa.same s04;left;refine⟨P.le,P.lp,P.es,P.tp,P.ws,rfl,pa4.e,SqL.of pa4.pr,by rw[f.pl];omega,by rw[f.pl];omega,#[],by rw[f.pl];exact f.ac,fun x m=>⟨pa4.pd x m,(f.pa x m).1,fun y hy=>?_⟩,fun ls qs H5 s5 hls els hql hqf hG=>?_⟩
 .cases e:x.f y with
  |none=>exact absurd e hy
  |some n=>exact((f.pa x m).2 y n e).1
 rw[f.pl] at hql;have jq:0<qs.length:=by omega
 obtain⟨kq,fq,hq1,hq2,hq3,hq4⟩:=hG 0 qs[0] (zA jq);have xq:atI (qs.map V.ref) 0=some (.ref qs[0]):=qau (j:=0) (by rw[zC,zA jq];rfl);have eqF:∀v,qbm fq v=qei (zs.map (qdv S)) v:=jr7 (fun v n=>jcq (fun v n e=>by cases e) (fun t ht=>by
   obtain⟨u,_,rfl⟩:=zM.mp ht;exact g.ptPos u) v n) fun v=>(hq4 v).trans ((f.sumE 0 v).trans (g.sum f #[] hb v).symm)
 have lq:kq.length<=1000:=by have:=hq2.le hq3;omega
 have hA':=hA.cast fun v=>(eqF v).symm;have lk:k'.length<=1000:=by
  have:=hA'.le (ws:=P.ws) fun z hz=>hq3 z fun e=>hz (by unfold qbm;rw[e]);omega
 generalize qs[0]=qa at*;clear hG hqf hql eqF hb;left;refine qb5 (SqL.of els) xq ?_;left;refine⟨qa,kq,fq,rfl,hq1,hq2,lq,fun l2 k2 H6 s6 hl2 el2 hA2=>?_⟩;left;refine⟨l,l2,k',k2,qbm fq,rfl,s6 _ _ (s5 _ _ el),el2,qa8 (s5 _ _ el) hl2,hA',hA2,lk,fun H' s'=>?_⟩;left;exact q _ (((s04.trans s5).trans s6).trans s')
def wd4(K:uY)(d:Ad):Sp:=fun vs H Q _=>∃(a:Addr)(ns:List Int),vs=[.ref a]/\SqL K H a (ns.map V.int)/\
 ∀(p:Addr)(P:PL) H',qas H H'->PlF P->jbl H' p P->nmS (cell ns 1) 9∉P.ws->Q (.ref p) H'
set_option maxHeartbeats 4000000 in
include T in
theorem wdd:jab P w K mg base CX0 4 d.wb8 d.wa6 ["_law_script"] (wd4 K d):=by
 exists T.wcr.ok w3z
 .right
 obtain⟨a,ns,rfl,hS,q⟩:=h;refine⟨_,(qa3 (qag (i:=1) w3z.nd rfl (uK rfl) (qae qb1 (qae qav (qaf ((w0s T).mono ∅) hr rfl T.w19 T.w0x.kp T.w16 .nil qaz #[pv 0,qa5]) qa5) qa5))
  (qa3 (qbf (qay (qal qcu (pv 1) qa5 (qar _)) (qa6 (qag (i:=2) w3z.nd rfl (uK rfl) (qaf ((w9t T).mono ∅) hr rfl T.wb9 T.wao.kp T.wbz .nil qaz #[qae qed (qdg (caps:=[0]) (cn:=["_law_script"]) (qc6 rfl rfl (by rfl) (by rfl) rfl ⟨rfl,trivial⟩ (by rfl) rfl ⟨⟨rfl,rfl,rfl,rfl,_,rfl⟩,trivial⟩ ∅) rfl (qb9 rfl T.w13 #[qa5]) (fun _ _ _ _=>qd7) (fun _ _ _ _=>(qaf ((w0s T).mono ∅) hr rfl T.w19 T.w0x.kp T.w16 .nil qaz #[pv 1,pv 0]))) (qam #[qa5]),qa5,qa5]))) (qa6 (qbf (qay (qal qcu (pv 1) qa5 (qar _)) (qa3 (qag (i:=3) w3z.nd rfl (Or.inr rfl) (qdg (caps:=[0]) (cn:=["_law_script"]) (qc6 rfl rfl (by rfl) (by rfl) rfl ⟨rfl,trivial⟩ (by rfl) rfl ⟨⟨rfl,rfl,rfl,rfl,_,rfl⟩,trivial⟩ ∅) rfl (qb9 rfl T.w13 #[qa5]) (fun _ _ _ _=>qd7) (fun _ _ _ _=>(qaf ((w0s T).mono ∅) hr rfl T.w19 T.w0x.kp T.w16 .nil qaz #[pv 1,pv 0]))))
  (qa3 (jgv (pv 3) qa5 (qae jkf qa5 (~~~3)) rfl)
  (qa3 (jgv (pv 3) qa5 qa5 rfl)
  (qa3 (qag (i:=4) w3z.nd rfl (uK rfl) (qae qbp qa5 (qae qb1 (~~~3) qa5)))
  (qa3 (qel (j:=5) (caps:=[3]) (cn:=["_law_cells"]) (qc6 rfl rfl (by rfl) (by rfl) rfl ⟨rfl,trivial⟩ (by rfl) rfl ⟨⟨rfl,rfl,rfl,rfl,_,rfl⟩,trivial⟩ ∅) rfl w3z.nd rfl rfl (qb9 rfl T.w13 #[pv 4]) (fun _ _ _ _=>qd7) (fun _ _ _ _=>(jix (qal jfi (pv 0) qa5 (qar _)) (pv 0) (qae qb1 (qao qab (pv 1) (qae qbp qa5 (pv 0)) nofun) qa5))))
  (qa6 (qag (i:=2) w3z.nd rfl (uK rfl) (qaf ((w9t T).mono ∅) hr rfl T.wb9 T.wao.kp T.wbz .nil qaz #[qae qed (ji6 jmi (pv 3) jmf (jmg qa5)) (pv 5),qa5,pv 4])))))))) (qa6 (qag (i:=2) w3z.nd rfl (uK rfl) (qaf ((w9t T).mono ∅) hr rfl T.wb9 T.wao.kp T.wbz .nil qaz #[pv 0,qa5,qae qb1 (qae qav (qaf ((w0s T).mono ∅) hr rfl T.w19 T.w0x.kp T.w16 .nil qaz #[pv 0,qa5]) qa5) qa5]))))))))
  (qa6 (qaj (pv 2))))),?_⟩
 walk_at"d"
 try dsimp only[cxC]
 refine qak (σ:=[sr a,none,none,none,none,none]) rfl ?_;left;refine⟨a,ns,3,rfl,hS,∅,?_⟩;left;refine qce (fun σ' H'=>∃(p:Addr)(P:PL)(u1 u2 u3:Option V),σ'=[sr a,some (.int ((cell ns 3).fdiv 4%8)),sr p,u1,u2,u3]/\qas H H'/\PlF P/\jbl H' p P/\nmS (cell ns 1) 9∉P.ws) ?_ ?_
 rotate_left
 .rintro σ' H' ⟨p,P,u1,u2,u3,rfl,sm,pf,pa,h9⟩;left;exact q p P H' sm pf pa h9
 have k0:=uW ((cell ns 3).fdiv 4) (show(8:Int)≠0 by decide);have k8:=uU ((cell ns 3).fdiv 4) (show(0:Int)<8 by decide);generalize (cell ns 3).fdiv 4%8=kd at*;left;refine i_2 (fun c6=>?_) (fun c6=>?_)
 .left;intro C s0 H0 fp l1 hl1;refine jdy 3 (fun i H'=>H'=upd H l1 (.lst (((uN i).map fun k:Nat=>cell ns (0+(k:Int))).map V.int))) rfl (fun i H' hi _=>hi) (fun H' _=>uG _) ?_ ?_
  .rintro i H' v H'' hi rfl ⟨rfl,rfl⟩;have hS':=qe0 (o:=.lst (((uN i).map fun k:Nat=>cell ns (0+(k:Int))).map V.int)) hS hl1;left;refine⟨a,ns,_,rfl,hS',#[],?_⟩;refine⟨_,qa1,by rw[zB,zB,yD];show _<16777216;omega,?_⟩;rw[qb4,yP,zE,zE];rfl
  rintro H' rfl;have e1:upd H l1 (.lst (((uN 3).map fun k:Nat=>cell ns (0+(k:Int))).map V.int)) l1=some (.lst [.int (cell ns 0),.int (cell ns 1),.int (cell ns 2)]):=qa1;have s1:=qa4 hl1 (.lst (((uN 3).map fun k:Nat=>cell ns (0+(k:Int))).map V.int));generalize upd H l1 (.lst (((uN 3).map fun k:Nat=>cell ns (0+(k:Int))).map V.int))=H1 at*;left;rename_i p1 hp1;refine qgt (qa7 e1 hp1) qa1 (by show 3+1<=16777216;decide) fun p2 hp2=>?_;have s2:=s1.trans ((qa4 hp1 (.lst [V.int 1])).trans (qa4 hp2 (.lst ([V.int (cell ns 0),V.int (cell ns 1),V.int (cell ns 2)]++[V.int 1]))));have e2:upd (upd H1 p1 (.lst [V.int 1])) p2 (.lst ([V.int (cell ns 0),V.int (cell ns 1),V.int (cell ns 2)]++[V.int 1])) p2=some (.lst ([cell ns 0,cell ns 1,cell ns 2,1].map V.int)):=qa1;generalize upd (upd H1 p1 (.lst [V.int 1])) p2 (.lst ([V.int (cell ns 0),V.int (cell ns 1),V.int (cell ns 2)]++[V.int 1]))=H2 at*;left;refine⟨p2,[cell ns 0,cell ns 1,cell ns 2,1],4,11,rfl,SqL.of e2,∅,∅,.inl ∅,fun p P H' s' pf pa nl nm dst h9=>?_⟩;left;exact⟨p,P,_,_,_,rfl,s2.trans s',pf,pa,h9⟩
 .left;refine qc8 ?_;left;refine i_2 (fun c7=>?_) (fun c7=>?_)
  .left;intro C s0 H0 fp l1 hl1;refine jdy 60 (fun i H'=>H'=upd H l1 (.lst (((uN i).map fun k:Nat=>cell ns (0+(k:Int))).map V.int))) rfl (fun i H' hi _=>hi) (fun H' _=>uG _) ?_ ?_
   .rintro i H' v H'' hi rfl ⟨rfl,rfl⟩;have hS':=qe0 (o:=.lst (((uN i).map fun k:Nat=>cell ns (0+(k:Int))).map V.int)) hS hl1;left;refine⟨a,ns,_,rfl,hS',#[],?_⟩;refine⟨_,qa1,by rw[zB,zB,yD];show _<16777216;omega,?_⟩;rw[qb4,yP,zE,zE];rfl
   rintro H' rfl;obtain⟨cs,ecs⟩:∃cs:List Int,cs=(uN 60).map fun k:Nat=>cell ns (0+(k:Int)):=⟨_,rfl⟩;have cl:cs.length=60:=by rw[ecs];rfl
   have cc1:cs[1]?=some (cell ns 1):=by rw[ecs];rfl
   have cc2:cs[2]?=some (cell ns 2):=by rw[ecs];rfl
   rw[<-ecs];have e1:upd H l1 (.lst (cs.map V.int)) l1=some (.lst (cs.map V.int)):=qa1;have s1:=qa4 hl1 (.lst (cs.map V.int));clear ecs;generalize upd H l1 (.lst (cs.map V.int))=H1 at*;left;refine qb5 (v:=.int (cell ns 2)) (SqL.of e1) (qau (j:=2) (by rw[zC,cc2];rfl)) ?_;refine⟨_,_,rfl,rfl,.inl ⟨∅,∅⟩,?_⟩;left;refine⟨l1,_,2,rfl,rfl,e1,by rw[zB,cl];decide,?_⟩;rw[show(cs.map V.int).set 2 (.int (3*cell ns 2))=(cs.set 2 (3*cell ns 2)).map V.int from List.map_set.symm];have e2:upd H1 l1 (.lst ((cs.set 2 (3*cell ns 2)).map V.int)) l1=some (.lst ((cs.set 2 (3*cell ns 2)).map V.int)):=qa1;have s2:=qax (o:=.lst ((cs.set 2 (3*cell ns 2)).map V.int)) s1 hl1;generalize upd H1 l1 (.lst ((cs.set 2 (3*cell ns 2)).map V.int))=H2 at*;left;refine⟨l1,_,3,rfl,rfl,e2,by rw[zB,eR,cl];decide,?_⟩;rw[show((cs.set 2 (3*cell ns 2)).map V.int).set 3 (.int 0)=((cs.set 2 (3*cell ns 2)).set 3 0).map V.int from List.map_set.symm];have e3:upd H2 l1 (.lst (((cs.set 2 (3*cell ns 2)).set 3 0).map V.int)) l1=some (.lst (((cs.set 2 (3*cell ns 2)).set 3 0).map V.int)):=qa1;have s3:=qax (o:=.lst (((cs.set 2 (3*cell ns 2)).set 3 0).map V.int)) s2 hl1;generalize upd H2 l1 (.lst (((cs.set 2 (3*cell ns 2)).set 3 0).map V.int))=H3 at*;have dl:((cs.set 2 (3*cell ns 2)).set 3 0).length=60:=by rw[eR,eR,cl]
   have dc1:((cs.set 2 (3*cell ns 2)).set 3 0)[1]?=some (cell ns 1):=by rw[yI ∅,yI ∅,cc1]
   have dc2:((cs.set 2 (3*cell ns 2)).set 3 0)[2]?=some (3*cell ns 2):=by rw[yI ∅,bP #[]]
   generalize (cs.set 2 (3*cell ns 2)).set 3 0=ds at*;clear e1 e2 s1 s2 cc1 cc2 cl;left;refine qb5 (v:=.int (ds[9]'#[])) (SqL.of e3) (qau (j:=9) (by rw[zC,zA #[]];rfl)) ?_;generalize ds[9]'#[]=d9;have j0:=uW d9 (show(2:Int)≠0 by decide);have j2:=uU d9 (show(0:Int)<2 by decide);left;generalize hm:38+d9%2=m at*;obtain⟨ct,rfl⟩:∃ct:Nat,m=(ct:Int):=⟨m.toNat,#[]⟩;intro C2 s02 H02 fp2 l2 hl2;have ect:((ct:Nat):Int).toNat=ct:=by omega
   refine jdy ((ct:Nat):Int).toNat (fun i H'=>∃cs:List Int,H'=upd H3 l2 (.lst (cs.map V.int))/\cs.length=i) ⟨[],rfl,rfl⟩ (fun i H' hi _=>hi) (fun H' _=>uG _) ?_ ?_
   .rintro i H' v H'' hi ⟨cs,rfl,hc⟩ ⟨rfl,rfl⟩;have e3':=qa7 (o':=.lst (cs.map V.int)) e3 hl2;left;refine i_2 (fun c=>?_) (fun c=>?_)
    .left;exact⟨cs++[_],by rw[qb4,zE];rfl,by rw[zH,hc];rfl⟩
    .have xi:atI (ds.map V.int) (10+(0+(i:Int)))=some (.int (ds[10+i]'#[])):=by
      rw[show(10:Int)+(0+(i:Int))=((10+i:Nat):Int) by omega];exact qau (by rw[zC,zA #[]];rfl)
     generalize (0:Int)+(i:Int)=ii at*;left;refine qb5 (SqL.of e3') xi ?_;left;exact⟨cs++[_],by rw[qb4,zE];rfl,by rw[zH,hc];rfl⟩
   rintro H' ⟨cs,rfl,hc⟩;have e4:=qa7 (o':=.lst (cs.map V.int)) e3 hl2;have e42:upd H3 l2 (.lst (cs.map V.int)) l2=some (.lst (cs.map V.int)):=qa1;have s4:=s3.trans (qa4 hl2 (.lst (cs.map V.int)));generalize upd H3 l2 (.lst (cs.map V.int))=H4 at*;clear s3 hl2 e3;left;refine⟨l1,_,rfl,SqL.of e4,fun p3 hp3=>?_⟩;have ecut:jon (ds.map V.int) none (some 10)=(ds.take 10).map V.int:=by
    unfold jon;rw[zB,dl,List.map_take];rfl
   rw[ecut];have l10:(ds.take 10).length=10:=by rw[yN,dl];rfl
   left;refine qgt qa1 (qa7 e42 hp3) (by rw[zB,zB,l10,hc];show _<=16777216;omega) fun p4 hp4=>?_;have s5:=s4.trans ((qa4 hp3 (.lst ((ds.take 10).map V.int))).trans (qa4 hp4 (.lst ((ds.take 10).map V.int++cs.map V.int))));have e5:upd (upd H4 p3 (.lst ((ds.take 10).map V.int))) p4 (.lst ((ds.take 10).map V.int++cs.map V.int)) p4=some (.lst ((ds.take 10++cs).map V.int)):=by rw[qa1,zE]
   generalize upd (upd H4 p3 (.lst ((ds.take 10).map V.int))) p4 (.lst ((ds.take 10).map V.int++cs.map V.int))=H5 at*;have g1:cell (ds.take 10++cs) 1=cell ns 1:=by
    show((ds.take 10++cs)[1]?).getD 0=_;rw[zV #[],dC ∅,dc1];rfl
   have g2:cell (ds.take 10++cs) 2=3*cell ns 2:=by
    show((ds.take 10++cs)[2]?).getD 0=_;rw[zV #[],dC ∅,dc2];rfl
   left;refine⟨p4,ds.take 10++cs,10,ct,rfl,SqL.of e5,∅,#[],.inr (by rw[g2];omega),fun p P H' s' pf pa nl nm dst h9=>?_⟩;left;rw[g1] at h9;exact⟨p,P,_,_,_,rfl,s5.trans s',pf,pa,h9⟩
  .left;refine⟨a,ns,3,rfl,hS,∅,?_⟩;have j0:=uW ((cell ns 3).fdiv 32) (show(7:Int)≠0 by decide);have j7:=uU ((cell ns 3).fdiv 32) (show(0:Int)<7 by decide);left;generalize (cell ns 3).fdiv 32%7=m at*;obtain⟨ct,rfl⟩:∃ct:Nat,m=(ct:Int):=⟨m.toNat,#[]⟩;refine⟨a,ns,10,ct,rfl,hS,∅,#[],.inl #[],fun p P H' s' pf pa nl nm dst h9=>?_⟩;left;exact⟨p,P,_,_,_,rfl,s',pf,pa,h9⟩
theorem jay.deq{K:uY}{H:Hp}{tl p1 p2 p3:Addr}{xs ys:List Str}(zs ws:List Str)(tw:jay H tl xs ys)(h1:H p1=none)(h2:upd H p1 (.lst (zs.map V.str)) p2=none)(h3:upd (upd H p1 (.lst (zs.map V.str))) p2 (.lst (ws.map V.str)) p3=none):
  DEq K (upd (upd (upd H p1 (.lst (zs.map V.str))) p2 (.lst (ws.map V.str))) p3 (.lst [.ref p1,.ref p2])) 2 (.ref tl) (.ref p3) (decide (xs=zs) && decide (ys=ws))/\tl≠p3:=by
 obtain⟨x1,x2,y1,y2,y3⟩:=tw.ex;have s2:=(qa4 h1 (.lst (zs.map V.str))).trans (qa4 h2 (.lst (ws.map V.str)));have s3:=s2.trans (qa4 h3 (.lst [.ref p1,.ref p2]));have n3:tl≠p3:=qa8 (s2 _ _ y1) h3;have n1:x1≠p1:=qa8 y2 h1;have n2:x2≠p2:=qa8 (qa7 y3 h1) h2;exact⟨jif (SqL.of (s3 _ _ y1)) (SqL.of qa1) n3 (qeh (n:=0) (SqL.of (s3 _ _ y2)) (SqL.of (qa7 (qa7 qa1 h2) h3)) n1) (qeh (n:=0) (SqL.of (s3 _ _ y3)) (SqL.of (qa7 qa1 h3)) n2),n3⟩
section
variable{P:uI}{w:vA}{K:uY}{d:Ad}{L:PL}{R:Rk}{S:Ts}{t p b:Addr}{H H':Hp}{xs:List V}{e:He}
theorem TrO.lst(ho:TrO d L R S t H H')(hT:qdy d H t S)(h:H b=some (.lst xs)):H' b=some (.lst xs):=by
 rcases ho with⟨s,_⟩|⟨k,e2,a⟩
 .exact s _ _ h
 .exact a.sb _ _ (fun q=>by have hh:=hT.2.2.1;rw[<-q,h] at hh;cases hh) h
theorem TrO.sq(ho:TrO d L R S t H H')(hT:qdy d H t S)(h:SqL K H b xs):SqL K H' b xs:=by
 rcases h with (h|⟨o,h⟩) |h
 .exact .inl (.inl (ho.lst hT h))
 .refine .inl (.inr ⟨o,?_⟩);rcases ho with⟨s,_⟩|⟨k,e2,a⟩
  .exact s _ _ h
  .exact a.sb _ _ (fun q=>by have hh:=hT.2.2.1;rw[<-q,h] at hh;cases hh) h
 .exact .inr h
theorem TrO.two(ho:TrO d L R S t H H')(hT:qdy d H t S){ys zs:List Str}(h:jay H b ys zs):jay H' b ys zs:=by
 obtain⟨x1,x2,z1,z2,z3⟩:=h.ex;exact⟨x1,x2,ho.lst hT z1,ho.lst hT z2,ho.lst hT z3⟩
theorem TrO.pl(ho:TrO d L R S t H H')(f:GF L)(pa:jbl H p L)(hT:qdy d H t S)(he:e∈S.hl):jbl H' p L:=by
 rcases ho with⟨s,_⟩|⟨k,e2,a⟩
 .exact pa.same s
 .exact pa.sbG f hT he a.sb
theorem TrO.rw(ho:TrO d L R S t H H')(hT:qdy d H t S)(he:e∈S.hl)(h:je5 P w K L.ws R H):je5 P w K L.ws R H':=by
 rcases ho with⟨s,_⟩|⟨k,e2,a⟩
 .exact h.same s
 .exact h.sb a.ac hT he a.sb
theorem TrO.th(ho:TrO d L R S t H H')(hT:qdy d H t S)(he:e∈S.hl){h:Th}{x:V}(a:qdt P w H h x):qdt P w H' h x:=by
 rcases ho with⟨s,_⟩|⟨k,e2,c⟩
 .exact a.same s
 .exact a.sbO (z:=e.n) (ho:=e.a) hT.2.2.1 (by rw[qcv,qf3 hT.2.2.2.1 he];rfl) c.sb
theorem TrO.out(ho:TrO d L R S t H H')(hT:qdy d H t S):∃S',qdy d H' t S'/\((S'=S/\∀ys,¬Due L R [] ys)\/∃k e2,S'={S with hl:=S.hl++[e2]}/\AcO d L R S t k e2 H H'):=by
 rcases ho with⟨s,n⟩|⟨k,e2,a⟩
 .exact⟨S,hT.same s,.inl ⟨rfl,n⟩⟩
 .exact⟨_,a.tr,.inr ⟨k,e2,rfl,a⟩⟩
theorem Ths.imp(m:∀(t:Th)(x:V),qdt P w H t x->qdt P w H' t x):∀{ts:List Th} {xs:List V},Ths P w H ts xs->Ths P w H' ts xs
 | [],[],_=>trivial
 |t::ts,x::xs,h=>⟨m t x h.1,Ths.imp m h.2⟩
 | [],_::_,h=>h.elim
 |_::_,[],h=>h.elim
theorem jir:∀{ts:List Th} {xs ys:List V},Ths P w H ts xs->Ths P w H ts ys->∀(j:Nat)(h1:j<xs.length)(h2:j<ys.length),XEq P w K H xs[j] ys[j]
 | [],[],_,_,_,j,h1,_=>absurd h1 (wL j)
 |t::ts,x::xs,y::ys,h,h',0,_,_=>h.1.xeq h'.1
 |t::ts,x::xs,y::ys,h,h',j+1,h1,h2=>jir h.2 h'.2 j (xJ h1) (xJ h2)
 | [],_::_,_,h,_,_,_,_=>h.elim
 |_::_,[],_,h,_,_,_,_=>h.elim
 |_::_,_::_,[],_,h,_,_,_=>h.elim
def GT.adr(g:GT S L)(ln le lp lc:Addr):GT S {L with ln:=ln,le:=le,lp:=lp,lc:=lc}:=⟨g.pl,g.wp,g.ws,g.da,g.nda⟩
end
def jis(K:uY):Sp:=fun vs H Q _=>∃(a:Addr)(ns:List Int),vs=[.ref a]/\SqL K H a (ns.map V.int)/\ns.length<=63/\∀H',Q (.bl true) H'
def jr8(K:uY)(d:Ad):Sp:=jis K
set_option maxHeartbeats 4000000 in
include T in
theorem jr9:jab P w K mg base CX0 23 d.w9i d.w8y ["_law_script"] (jr8 K d):=by
 exists T.wee.ok w4i
 .right
 obtain⟨a,ns,rfl,hS,hn63,q⟩:=h;exists (qa3 (qag (i:=1) w4i.nd rfl (uK rfl) (qaf ((wdd T).mono ∅) hr rfl T.web T.wcr.kp T.we8 .nil qaz #[pv 0]))
  (qa3 (qag (i:=2) w4i.nd rfl (uK rfl) (qaf ((wcx T).mono ∅) hr rfl T.we9 T.wcv.kp T.wdu .nil qaz #[pv 1]))
  (qa3 (qag (i:=3) w4i.nd rfl (uK rfl) (qaf ((wcm T).mono ∅) hr rfl T.wdz T.wdi.kp T.wea .nil qaz #[pv 0,pv 1]))
  (qa3 (qag (i:=4) w4i.nd rfl (uK rfl) (qaf ((wc4 T).mono ∅) hr rfl T.wd8 T.wc9.kp T.wdh .nil qaz #[pv 1,pv 3]))
  (qa3 (qay (PW.pt (qek (qbr (qbd (qaf ((wap T).mono ∅) hr rfl T.wc2 T.wa9.kp T.wbw .nil qaz #[pv 2,pv 1,pv 3]))) (qd6 (qal (jrl (hu8 hr)) (pv 3) (qaf ((wcm T).mono ∅) hr rfl T.wdz T.wdi.kp T.wea .nil qaz #[pv 0,pv 1]) (qar _))))) (qa6 (qaj qdi)) qad)
  (qa3 (qag (i:=5) w4i.nd rfl (uK rfl) (pv 1))
  (qa3 (qbf (qay (qal (jgi (hu8 hr)) (pv 4) (qam #[qam qa2,qam qa2]) (qar _)) (qa3 (qag (i:=6) w4i.nd rfl (uK rfl) (qdb vG dN PySem.F.type_list_index jhg (~~~1) #[~~~3]))
  (qa6 (qag (i:=5) w4i.nd rfl (uK rfl) (qam #[~~~1,qae qed (~~~1) (qam #[~~~3]),qae qed (~~~1) (qam #[pv 6]),qae qed (~~~1) (qam #[~~~3]),qae qed (~~~1) (qam #[~~~3])])))) qad))
  (qa3 (qay (qbr (qbd (qaf ((wby T).mono ∅) hr rfl T.wcg T.wal.kp T.wcj .nil qaz #[pv 2,pv 5]))) (qa6 (qaj qdi)) qad)
  (qa3 (qag (i:=7) w4i.nd rfl (uK rfl) (qaf ((w59 T).mono ∅) hr rfl T.w5q T.w3y.kp T.w5t .nil qaz #[pv 0,qac qaw rfl T.w1l vH #[~~~1]]))
  (qa3 (qag (i:=8) w4i.nd rfl (uK rfl) (qam #[pv 7,qao qab (~~~5) (qae qb1 (qaf ((w0s T).mono ∅) hr rfl T.w19 T.w0x.kp T.w16 .nil qaz #[pv 0,qa5]) (qac qaw rfl T.w1l vH #[~~~5])) nofun,qc3,qc3,qa5]))
  (qa3 (qay (qbr (qbd (qaf ((wap T).mono ∅) hr rfl T.wc2 T.wa9.kp T.wbw .nil qaz #[pv 2,pv 5,pv 8]))) (qa6 (qaj qdi)) qad)
  (qa6 (qaj (qdh qcu (jcu (pv 2) T.w0b T.w1h ((w4x T).mono ∅) hr T.w5i .nil qaz #[pv 7]) (jsm (qdh jb0 (pv 7) (~~~5) (by rfl)) (qg4 (qdh (jgi (hu8 hr)) (qaf ((wc4 T).mono ∅) hr rfl T.wd8 T.wc9.kp T.wdh .nil qaz #[pv 5,pv 8]) (qam #[qam qa2,qam qa2]) (qar _)))) (qar _))))))))))))))),[sr a,none,none,none,none,none,none,none,none];have ct:=T.w0b;left;refine⟨a,ns,rfl,hS,fun p L H1 s1 pf pa h9=>?_⟩;have hS1:=s1.seq hS;left;refine⟨p,L,rfl,pf,pa,fun t S H2 s2 ht hhs hsw hT hI nd=>?_⟩;have g:=hI.gt nd;have f:=pf.gf;have n12:=pf.n12;have nl:=f.nl;have hS2:=s2.seq hS1;have pa2:=pa.same s2;clear hI nd hsw hhs ht pf hS1 pa s1 s2 hS;left;refine⟨a,p,ns,L,rfl,hS2,pa2,f.w1,f.w3,f.ng,#[],#[],h9,fun r x0 x1 x2 x3 x4 H3 n m s3 hr3 er ths ha hb=>?_⟩;have gfr:qbc (nmS (hnC ns) ((L.nm.length:Nat):Int))=true:=qf6 _ _;have rw3:jlx H3 x0/\jog H3 x1/\jsk x4:=⟨joh gfr f.ng #[] ths.1,joi ths.2.1,joj ths.2.2.2.2.1⟩;generalize prF L.ws (cell ns 6) L.ws.length=ff at*;generalize cpF L.ws (cell ns 6) L.ws.length=gg at*;obtain⟨R,rfl,rfl,rfl,rfl,rfl,rfl,rfl,rfl,rfl⟩:∃R:Rk,R.z=x0/\R.y=x1/\R.a=x2/\R.b=x3/\R.wt=x4/\R.f=ff/\R.g=gg/\R.n=n/\R.m=m:=⟨⟨x0,x1,x2,x3,x4,ff,gg,n,m⟩,rfl,rfl,rfl,rfl,rfl,rfl,rfl,rfl,rfl⟩;have rwR:je5 P w K L.ws R H3:=⟨rw3.1,rw3.2.1,ha,hb,rw3.2.2⟩;clear ha hb rw3 hr3;left;refine⟨p,r,L,R,rfl,f,pa2.same s3,er,rwR,fun l xs ys H4 s4 hl4 tw du=>?_⟩;have s24:=s3.trans s4;have hT4:=hT.same s24;have pa4:=pa2.same s24;have hS4:=s24.seq hS2;have er4:=s4 _ _ er;have rw4:=rwR.same s4;have th4:=ths.imp (H':=H4) fun t x h=>h.same s4;clear hT pa2 hS2 er rwR ths s3 s4 s24 hl4;left;refine⟨t,p,r,S,L,R,rfl,f,pa4,hT4,g,er4,rw4,fun H5 ho=>?_⟩;obtain⟨e0,y0,_,_⟩:=g.pl.at (k:=0) #[];have he0:=(qbw y0).1;have hS5:=ho.sq hT4 hS4;have pa5:=ho.pl f pa4 hT4 he0;have er5:=ho.lst hT4 er4;have tw5:=ho.two hT4 tw;have th5:=th4.imp (H':=H5) fun t x h=>ho.th hT4 he0 h;have rw5:=ho.rw hT4 he0 rw4;obtain⟨S5,hT5,hout⟩:=ho.out hT4;have hE4:=hT4.2.2.2.2.2;clear ho pa4 hT4 er4 rw4 th4 hS4 tw y0 he0;left;refine⟨a,p,ns,L,rfl,hS5,pa5,f.w1,f.w3,f.ng,#[],#[],h9,fun r2 x0' x1' x2' x3' x4' H6 n' m' s6 hr2 er2 ths2 _ _=>?_⟩;have ne:r≠r2:=qa8 er5 hr2;refine juj ne (SqL.of (s6 _ _ er5)) (SqL.of er2) rfl (jir (th5.imp (H':=H6) fun t x h=>h.same s6) ths2) ?_;have hS6:=s6.seq hS5;have pa6:=pa5.same s6;have er6:=s6 _ _ er5;have tw6:=tw5.same s6;have rw6:=rw5.same s6;have hT6:=hT5.same s6;clear hS5 pa5 er5 tw5 rw5 hT5 er2 ths2 th5 hr2 ne s6 h9;left;refine qce (fun σ' H'=>∃(p':Addr)(L':PL)(u:Option V),σ'=[sr a,sr p,sr t,sr r,sr l,sr p',u,none,none]/\qas H6 H'/\GF L'/\jbl H' p' L'/\GT S5 L') ?_ ?_
 .left;rename_i p1 hp1 p2 hp2 p3 hp3;obtain⟨dq,n3⟩:=tw6.deq (K:=K) [] [] hp1 hp2 hp3;refine jm8 n3 ∅ dq ?_;have sA:=((qa4 hp1 (.lst [])).trans (qa4 hp2 (.lst []))).trans (qa4 hp3 (.lst [V.ref p1,V.ref p2]));generalize upd (upd (upd H6 p1 (.lst [])) p2 (.lst [])) p3 (.lst [V.ref p1,V.ref p2])=H7 at*;clear dq n3 hp1 hp2 hp3;by_cases cx:xs=[]/\ys=[]
  .obtain⟨rfl,rfl⟩:=cx;rcases hout with⟨_,no⟩|⟨k,e2,rfl,ac⟩
   .exact absurd du (no _)
   have pa7:=pa6.same sA;have er7:=sA _ _ er6;obtain⟨_,_,ha,hb,_⟩:=rw6.same sA;rw[ac.ac.n] at ha;rw[ac.ac.m] at hb;obtain⟨aa,ka,ea,ha7,hAa,hFa⟩:=ha.get;obtain⟨ab,kb,eb,hb7,hAb,hFb⟩:=hb.get;obtain⟨hk,ey⟩:=jdj ac.ac.ix;obtain⟨z,ez,gz,sv⟩:=jin ac.ac.g;have nz:=ac.ac.nin;have een:=ac.en;rw[sv] at nz een;rw[ea,eb,ey,ez] at er7;obtain⟨tp,etp⟩:∃tp:Pt,tp=⟨aa,ka,R.f⟩:=⟨_,rfl⟩;obtain⟨tc,etc⟩:∃tc:Pt,tc=⟨ab,kb,R.g⟩:=⟨_,rfl⟩;have etpa:aa=tp.a:=by rw[etp]
   have etca:ab=tc.a:=by rw[etc]
   have gf:GF (fdP L z k tp tc):=f.fd #[] gz nz hk (by rw[etp];exact⟨hAa,hFa⟩) (by rw[etc];exact⟨hAb,hFb⟩) ac.ac.h12;have gt:GT {S with hl:=S.hl++[e2]} (fdP L z k tp tc):=g.fd f gf hk een ac.el (by rw[etp];exact ac.fp) (by rw[etc];exact ac.fc) fun x hx e=>by
    obtain⟨⟨dy,hy⟩,_⟩:=hE4 x hx;rw[e,ac.na] at hy
    cases hy
   have etop:=pa7.top;have en3:=pa7.n;have ee3:=pa7.e;have ep3:=pa7.pr;have ec3:=pa7.cp;have hpl:=f.pl;have hcl:=f.cl;have hnn:=f.nn;clear ha hb pa6 er6 hFa hFb hAa hAb gz nz een hE4 ac ea eb ey sv ez tw6 rw6 hT6;show ∃k,V.bl true=V.bl k/\_;left;refine jld (SqL.of en3) hnn hk ?_;generalize L.nm[k]=yk at*;generalize hkI:((k:Nat):Int)=kI at*;left;rename_i u1 hu1;refine qgt (qa7 en3 hu1) qa1 (by simp only[zB,zI,yF];show _<=16777216;omega) fun u2 hu2=>?_;have t3:=(qa4 hu1 (.lst [V.str z])).trans (qa4 hu2 (.lst (L.nm.map V.str++[V.str z])));have f3:upd (upd H7 u1 (.lst [V.str z])) u2 (.lst (L.nm.map V.str++[V.str z])) u2=some (.lst ((L.nm++[z]).map V.str)):=by rw[qa1];first|rfl|(rw[zE,etpa];rfl) |(rw[zE,etca];rfl) |(rw[zE];rfl) |(rw[<-hkI,zE];rfl)
   generalize upd (upd H7 u1 (.lst [V.str z])) u2 (.lst (L.nm.map V.str++[V.str z]))=G4 at*;have ee4:=t3 _ _ ee3;have ep4:=t3 _ _ ep3;have ec4:=t3 _ _ ec3;have etop4:=t3 _ _ etop;have er74:=t3 _ _ er7;left;rename_i u3 hu3;refine qgt (qa7 ee4 hu3) qa1 (by simp only[zB,zI,yF];show _<=16777216;omega) fun u4 hu4=>?_;have t4:=(qa4 hu3 (.lst [V.int kI])).trans (qa4 hu4 (.lst ((V.non::L.es.map iV)++[V.int kI])));have f4:upd (upd G4 u3 (.lst [V.int kI])) u4 (.lst ((V.non::L.es.map iV)++[V.int kI])) u4=some (.lst (V.non ::(L.es++[k]).map iV)):=by rw[qa1];first|rfl|(rw[zE,etpa];rfl) |(rw[zE,etca];rfl) |(rw[zE];rfl) |(rw[<-hkI,zE];rfl)
   generalize upd (upd G4 u3 (.lst [V.int kI])) u4 (.lst ((V.non::L.es.map iV)++[V.int kI]))=G5 at*;have ep5:=t4 _ _ ep4;have ec5:=t4 _ _ ec4;have etop5:=t4 _ _ etop4;have er75:=t4 _ _ er74;left;rename_i u5 hu5;refine qgt (qa7 ep5 hu5) qa1 (by simp only[zB,zI,yF];show _<=16777216;omega) fun u6 hu6=>?_;have t5:=(qa4 hu5 (.lst [V.ref aa])).trans (qa4 hu6 (.lst ((L.tp.map fun t=>V.ref t.a)++[V.ref aa])));have f5:upd (upd G5 u5 (.lst [V.ref aa])) u6 (.lst ((L.tp.map fun t=>V.ref t.a)++[V.ref aa])) u6=some (.lst ((L.tp++[tp]).map fun t=>V.ref t.a)):=by rw[qa1];first|rfl|(rw[zE,etpa];rfl) |(rw[zE,etca];rfl) |(rw[zE];rfl) |(rw[<-hkI,zE];rfl)
   generalize upd (upd G5 u5 (.lst [V.ref aa])) u6 (.lst ((L.tp.map fun t=>V.ref t.a)++[V.ref aa]))=G6 at*;have ec6:=t5 _ _ ec5;have etop6:=t5 _ _ etop5;have er76:=t5 _ _ er75;left;rename_i u7 hu7;refine qgt (qa7 ec6 hu7) qa1 (by simp only[zB,zI,yF];show _<=16777216;omega) fun u8 hu8=>?_;have t6:=(qa4 hu7 (.lst [V.ref ab])).trans (qa4 hu8 (.lst ((L.tc.map fun t=>V.ref t.a)++[V.ref ab])));have f6:upd (upd G6 u7 (.lst [V.ref ab])) u8 (.lst ((L.tc.map fun t=>V.ref t.a)++[V.ref ab])) u8=some (.lst ((L.tc++[tc]).map fun t=>V.ref t.a)):=by rw[qa1];first|rfl|(rw[zE,etpa];rfl) |(rw[zE,etca];rfl) |(rw[zE];rfl) |(rw[<-hkI,zE];rfl)
   generalize upd (upd G6 u7 (.lst [V.ref ab])) u8 (.lst ((L.tc.map fun t=>V.ref t.a)++[V.ref ab]))=G7 at*;left;rename_i gp hgp;have t7:=qa4 hgp (.lst [V.ref L.lw,V.ref u2,V.ref u4,V.ref u6,V.ref u8]);have t57:=t6.trans t7;have t47:=t5.trans t57;have t37:=t4.trans t47;have tA:=t3.trans t37;have pa8:=pa7.same tA;refine⟨gp,{fdP L z k tp tc with ln:=u2,le:=u4,lp:=u6,lc:=u8},_,rfl,sA.trans tA,gf.adr u2 u4 u6 u8,⟨qa1,pa8.w,t37 _ _ f3,t47 _ _ f4,t57 _ _ f5,t7 _ _ f6,fun x hx=>?_,fun x hx=>?_⟩,gt.adr u2 u4 u6 u8⟩
   .rcases zT.mp hx with h|h
    .exact pa8.pd x h
    .rw[zK.mp h,etp];exact tA _ _ ha7
   .rcases zT.mp hx with h|h
    .exact pa8.cd x h
    .rw[zK.mp h,etc];exact tA _ _ hb7
  .rw[show(decide (xs=[]) && decide (ys=[]))=false from cY.mpr fun h=>cx (by rw[vP] at h;exact⟨of_decide_eq_true h.1,of_decide_eq_true h.2⟩)];rcases hout with⟨rfl,no⟩|⟨k,e2,rfl,ac⟩
   rotate_left
   .exact absurd (du.uniq ac.due) cx
   show ∃k,V.bl false=V.bl k/\_;left;exact⟨p,L,_,rfl,sA,f,pa6.same sA,g⟩
 rintro σ' H8 ⟨p',L',u,rfl,s8,f',pa8,g'⟩;have hT8:=hT6.same s8;have hS8:=s8.seq hS6;have paL:=pa6.same s8;clear hout hE4 hT6 hS6 pa6 er6 tw6 rw6 s8 du;left;refine⟨t,p',S5,L',rfl,f',pa8,hT8,g',fun H9 s9=>?_⟩;have hT9:=hT8.same s9;have hS9:=s9.seq hS8;have paL9:=paL.same s9;have pa9:=pa8.same s9;have etopL:=paL9.top;have enL:=paL9.n;have etop:=pa9.top;have en:=pa9.n;have hnl2:(L.nm.map V.str).length=L.nm.length:=zB _;have hnl2':(L'.nm.map V.str).length=L'.nm.length:=zB _;have nl':=f'.nl;have n10:=f'.n10;clear hT8 hS8 paL pa8 s9;left;rw[hnl2];refine⟨a,ns,_,rfl,hS9,#[],#[],?_⟩;generalize nmS (hnC ns) ((L.nm.length:Nat):Int)=fr at*;left;refine⟨a,ns,9,rfl,hS9,∅,?_⟩;left;rw[hnl2'];have m0:=uW (cell ns 9) (show(L'.nm.length:Int)≠0 by omega);have m1:=uU (cell ns 9) (show(0:Int) <(L'.nm.length:Int) by omega);generalize cell ns 9%(L'.nm.length:Int)=mm at*;obtain⟨i,rfl⟩:∃i:Nat,mm=(i:Int):=⟨mm.toNat,#[]⟩;have hi:i<L'.nm.length:=by omega
 refine qb5 (SqL.of en) (qau (j:=i) (by rw[zC,zA hi];rfl)) ?_;generalize L'.nm[i]=yi at*;clear m0 m1 hi;left;rename_i d1 hd1 d2 hd2 r3 hr3;have sB:=((qa4 hd1 (.dK [])).trans (qa4 hd2 (.dK []))).trans (qa4 hr3 (.lst [V.str fr,V.str yi,V.ref d1,V.ref d2,V.int 7]));have er3:upd (upd (upd H9 d1 (.dK [])) d2 (.dK [])) r3 (.lst [V.str fr,V.str yi,V.ref d1,V.ref d2,V.int 7]) r3=some (.lst [V.str fr,V.str yi,V.ref d1,V.ref d2,V.int 7]):=qa1;have ed1:=qa7 (o':=.lst [V.str fr,V.str yi,V.ref d1,V.ref d2,V.int 7]) (qa7 (o':=.dK []) (show upd H9 d1 (.dK []) d1=some (.dK []) from qa1) hd2) hr3;have ed2:=qa7 (o':=.lst [V.str fr,V.str yi,V.ref d1,V.ref d2,V.int 7]) (show upd (upd H9 d1 (.dK [])) d2 (.dK []) d2=some (.dK []) from qa1) hr3;generalize upd (upd (upd H9 d1 (.dK [])) d2 (.dK [])) r3 (.lst [V.str fr,V.str yi,V.ref d1,V.ref d2,V.int 7])=HA at*;have hTA:=hT9.same sB;have paA:=pa9.same sB;have fnil:Fin L'.ws noF:=fun y n e=>by cases e
 obtain⟨R2,eR2⟩:∃R2:Rk,R2=⟨.str fr,.str yi,.ref d1,.ref d2,.int 7,noF,noF,0,0⟩:=⟨_,rfl⟩;have rwA:je5 P w K L'.ws R2 HA:=by
  rw[eR2];exact⟨.inl ⟨fr,rfl,qf7 gfr⟩,.inl ⟨yi,rfl⟩,.ok rfl ed1 AD.nil ∅ fnil,.ok rfl ed2 AD.nil ∅ fnil,.inl ⟨7,rfl,∅,∅⟩⟩
 have svR:sV R2.z=fr:=by rw[eR2];rfl
 have erA:HA r3=some (.lst [R2.z,R2.y,R2.a,R2.b,R2.wt]):=by rw[eR2];exact er3
 clear hT9 pa9 paL9 etopL enL etop en hS9 ed1 ed2 hd1 hd2 hr3 er3 sB fnil;left;refine⟨t,p',r3,S5,L',R2,rfl,f',paA,hTA,g',erA,rwA,fun HB ho=>?_⟩;obtain⟨e0,y0,_,_⟩:=g'.pl.at (k:=0) #[];have he0:=(qbw y0).1;have paB:=ho.pl f' paA hTA he0;have erB:=ho.lst hTA erA;have rwB:=ho.rw hTA he0 rwA;obtain⟨SB,hTB,hout⟩:=ho.out hTA;clear ho paA hTA erA rwA y0 he0 eR2;have etop:=paB.top;have en:=paB.n;obtain⟨dxB,htB⟩:=id hTB.1;left;refine⟨t,SB,.str fr,rfl,hTB,.inl ⟨fr,rfl⟩,?_⟩;by_cases ci:fr∈L'.nm
 .have w1:(who SB (.str fr)).isSome=true:=by
   rcases hout with⟨eS,_⟩|⟨k,e2,_,ac⟩
   .obtain⟨k,hk,ek⟩:=zR.mp ci;obtain⟨e,h1,_⟩:=g'.pl.at hk;rw[qbv hk,ek] at h1;rw[eS,show who S5 (.str fr)=some e from h1];rfl
   .exact absurd ci (by rw[<-svR];exact ac.ac.nin)
  rw[w1];left;refine jhd (SqL.of en) ?_;rw[iP ci];left;exact q _
 .have key:∃bb:Bool,(who SB (.str fr)).isSome=bb/\∀xs2 ys2,Due L' R2 xs2 ys2->(decide (xs2=[]) && decide (ys2=[]))=bb:=by
   rcases hout with⟨eS,no⟩|⟨k,e2,eS,ac⟩
   .refine⟨false,?_,fun xs2 ys2 du2=>?_⟩
    .rw[eS,g'.nobody (x:=.str fr) fun k kn e=>ci (by injection e with e;rw[e,qbv kn];exact zJ kn)];rfl
    .cases xs2 with
     |nil=>exact absurd du2 (no _)
     |cons x xs=>rfl
   .refine⟨true,?_,fun xs2 ys2 du2=>?_⟩
    .have h1:=qf3 hTB.2.2.2.1 (e:=e2) (by rw[eS];exact zO _ (zG ..));rw[ac.en,svR] at h1;rw[show who SB (.str fr)=some e2 from h1];rfl
    .obtain⟨rfl,rfl⟩:=du2.uniq ac.due;rfl
  obtain⟨bb,w1,w2⟩:=key;rw[w1];clear hout w1;left;refine jhd (SqL.of en) ?_;rw[iQ ci];left;refine⟨p',r3,L',R2,rfl,f',paB,erB,rwB,fun l2 xs2 ys2 HC sC hl2 tw2 du2=>?_⟩;left;rename_i p1 hp1 p2 hp2 p3 hp3;obtain⟨dq,n3⟩:=tw2.deq (K:=K) [] [] hp1 hp2 hp3;refine jm8 n3 ∅ dq ?_;rw[w2 xs2 ys2 du2]
  cases bb with
  |false=>
   left;exact q _
  |true=>
   left;exact q _
structure Fz(K:uY)(n:Str)(s:Stmt)(f:Addr)(fd:uT):Prop where
 a:aL K vD n=some (some (.ref f))
 F:Fun K n n s f fd
structure Fm(K:uY)(c:Addr)(n q:Str)(s:Stmt)(f:Addr)(fd:uT):Prop where
 a:vC K (.ref c) n=some (some (.ref f))
 F:Fun K n q s f fd
def Fz.m{K:uY}{n:Str}{s:Stmt}{f:Addr}{fd:uT}{h:vS}{mg:Str->Option uB}(g:Fz K n s f fd)(X:K.In h)(G:h.Ns vD mg):mg n=some (.ref f):=vW X G g.a
theorem ln0(h:p [])(us:List uB)(e:us.length=0):p us:=by
 cases us
 .exact h
 cases e
theorem ln1(h:∀x0:uB,p [x0])(us:List uB)(e:us.length=1):p us:=by
 cases us
 .cases e
 exact ln0 (p:=fun l=>p (_::l)) (h _) _ (cN e)
theorem ln2(h:∀x0 x1:uB,p [x0,x1])(us:List uB)(e:us.length=2):p us:=by
 cases us
 .cases e
 exact ln1 (p:=fun l=>p (_::l)) (h _) _ (cN e)
theorem ln3(h:∀x0 x1 x2:uB,p [x0,x1,x2])(us:List uB)(e:us.length=3):p us:=by
 cases us
 .cases e
 exact ln2 (p:=fun l=>p (_::l)) (h _) _ (cN e)
theorem ln4(h:∀x0 x1 x2 x3:uB,p [x0,x1,x2,x3])(us:List uB)(e:us.length=4):p us:=by
 cases us
 .cases e
 exact ln3 (p:=fun l=>p (_::l)) (h _) _ (cN e)
theorem ln5(h:∀x0 x1 x2 x3 x4:uB,p [x0,x1,x2,x3,x4])(us:List uB)(e:us.length=5):p us:=by
 cases us
 .cases e
 exact ln4 (p:=fun l=>p (_::l)) (h _) _ (cN e)
theorem ln6(h:∀x0 x1 x2 x3 x4 x5:uB,p [x0,x1,x2,x3,x4,x5])(us:List uB)(e:us.length=6):p us:=by
 cases us
 .cases e
 exact ln5 (p:=fun l=>p (_::l)) (h _) _ (cN e)
theorem txt_mk{K:uY}{h:vS}{mg:Str->Option uB}{fa:Addr}{f_z0 f_z1 f_z2 f_z3 f_z4 f_z5 f_z6 f_z7 f_z8 f_z9 f_z10 f_z11 f_z12 f_z13 f_z14 f_z15 f_z16 f_z17 f_z18 f_z19 f_z20 f_z21 f_z22 f_z23 f_z24 f_z25 f_z26 f_z27 f_z28 f_z29 f_z30 f_z31 f_z32 f_z33 f_z34 f_z35 f_z36 f_z37 w9i f_z39 f_z40 f_z41 f_z42 f_z43 f_z44 f_z45 f_z46 f_z47 f_z48 f_z49 f_z50 f_z51 f_z52 f_z53 w0g w07 w05 w09 w0f w01 w0e w00 w0a w03 w02 w06 w08:Addr}{d_z0 d_z1 d_z2 d_z3 d_z4 d_z5 d_z6 d_z7 d_z8 d_z9 d_z10 d_z11 d_z12 d_z13 d_z14 d_z15 d_z16 d_z17 d_z18 d_z19 d_z20 d_z21 d_z22 d_z23 d_z24 d_z25 d_z26 d_z27 d_z28 d_z29 d_z30 d_z31 d_z32 d_z33 d_z34 d_z35 d_z36 d_z37 d_law d_z39 d_z42 d_z43 d_z44 d_z45 d_z46 d_z47 d_z48 d_z49 d_z50 d_z51 d_z52 d_z53:uT}(X:K.In h)(G:h.Ns vD mg)(hfa:mg "law"=some (.ref fa))
  (g_z0:Fz K "is_whole" ja8 f_z0 d_z0)
  (g_z1:Fz K "is_name" jbg f_z1 d_z1)
  (g_z2:Fz K "is_whole_from" jai f_z2 d_z2)
  (g_z3:Fz K "is_amount" jaz f_z3 d_z3)
  (g_z4:Fz K "amounts_of" jas f_z4 d_z4)
  (g_z5:Fz K "above_nought" jan f_z5 d_z5)
  (g_z6:Fz K "amount_of" ja0 f_z6 d_z6)
  (g_z7:Fz K "added" jc7 f_z7 d_z7)
  (g_z8:Fz K "beyond" jbi f_z8 d_z8)
  (g_z9:Fz K "total_of" ja9 f_z9 d_z9)
  (g_z10:Fz K "are_wares" ja1 f_z10 d_z10)
  (g_z11:Fz K "check_name" jat f_z11 d_z11)
  (g_z12:Fz K "read_house" jau f_z12 d_z12)
  (g_z13:Fz K "check_promises" jah f_z13 d_z13)
  (g_z14:Fz K "_law_cell_at" jbh f_z14 d_z14)
  (g_z15:Fz K "_law_mixed" jc8 f_z15 d_z15)
  (g_z16:Fz K "_law_name" jho f_z16 d_z16)
  (g_z17:Fz K "_law_whole" jc9 f_z17 d_z17)
  (g_z18:Fz K "_law_alike" jda f_z18 d_z18)
  (g_z19:Fz K "_law_some" jhp f_z19 d_z19)
  (g_z20:Fz K "_law_elders" jbj f_z20 d_z20)
  (g_z21:Fz K "_law_promises" jba f_z21 d_z21)
  (g_z22:Fz K "_law_sums" jhq f_z22 d_z22)
  (g_z23:Fz K "_law_caps" jhr f_z23 d_z23)
  (g_z24:Fz K "_law_plan" jhs f_z24 d_z24)
  (g_z25:Fz K "_law_tree" jht f_z25 d_z25)
  (g_z26:Fz K "_law_line" jhu f_z26 d_z26)
  (g_z27:Fz K "_law_good_name" ja2 f_z27 d_z27)
  (g_z28:Fz K "_law_bad" jnq f_z28 d_z28)
  (g_z29:Fz K "_law_told" jhv f_z29 d_z29)
  (g_z30:Fz K "_law_place" jdb f_z30 d_z30)
  (g_z31:Fz K "_law_odd_amounts" jap f_z31 d_z31)
  (g_z32:Fz K "_law_row" jnr f_z32 d_z32)
  (g_z33:Fz K "_law_house_name" jav f_z33 d_z33)
  (g_z34:Fz K "_law_due" jns f_z34 d_z34)
  (g_z35:Fz K "_law_tried" jdc f_z35 d_z35)
  (g_z36:Fz K "_law_stands" jbk f_z36 d_z36)
  (g_z37:Fz K "_law_base" jhw f_z37 d_z37)
  (g_law:Fz K "law" jnt w9i d_law)
  (g_z39:Fm K w0g "__init__" "House.__init__" jaw f_z39 d_z39)
  {od_z40 an_z40:Option Addr}{sl_z40:Array (Option uB)}{oc_z40 kV_z40 dc_z40 pm_z40 cd_z40 ct_z40 w0u:uB}{t_z40:Addr}
  (a_z40:vC K (.ref w07) "__init__"=some (some (.ref f_z40)))(l_z40:K.lookup f_z40=some ⟨oc_z40,od_z40,.func (gP "__init__" "Tree.__init__" (qcl jaf) (qbz jaf) (qaa jaf) (.ref t_z40) kV_z40 dc_z40 pm_z40 an_z40 cd_z40 ct_z40),sl_z40⟩)(c_z40:fZ K cd_z40 "Tree.__init__"=true)(k_z40:dA K (.ref f_z40)=true)
  {ob_z40:Obj}{nn_z40:Nat}(tt_z40:K.lookup t_z40=some ob_z40)(td_z40:ob_z40.data=.seq (List.toArray [w0u]) nn_z40)(rd_z40:qbk [.int 1] [w0u])
  {od_z41 an_z41:Option Addr}{sl_z41:Array (Option uB)}{oc_z41 kV_z41 dc_z41 pm_z41 cd_z41 ct_z41 w0m:uB}{t_z41:Addr}
  (a_z41:vC K (.ref w07) "found"=some (some (.ref f_z41)))(l_z41:K.lookup f_z41=some ⟨oc_z41,od_z41,.func (gP "found" "Tree.found" (qcl jad) (qbz jad) (qaa jad) (.ref t_z41) kV_z41 dc_z41 pm_z41 an_z41 cd_z41 ct_z41),sl_z41⟩)(c_z41:fZ K cd_z41 "Tree.found"=true)(k_z41:dA K (.ref f_z41)=true)
  {ob_z41:Obj}{nn_z41:Nat}(tt_z41:K.lookup t_z41=some ob_z41)(td_z41:ob_z41.data=.seq (List.toArray [w0m]) nn_z41)(rd_z41:qbk [.int 1] [w0m])
  (g_z42:Fm K w07 "wares" "Tree.wares" jbd f_z42 d_z42)
  (g_z43:Fm K w07 "names" "Tree.names" jax f_z43 d_z43)
  (g_z44:Fm K w07 "has" "Tree.has" jbb f_z44 d_z44)
  (g_z45:Fm K w07 "check_house" "Tree.check_house" jae f_z45 d_z45)
  (g_z46:Fm K w07 "house_of" "Tree.house_of" jaj f_z46 d_z46)
  (g_z47:Fm K w07 "elder_of" "Tree.elder_of" jak f_z47 d_z47)
  (g_z48:Fm K w07 "kids" "Tree.kids" ja3 f_z48 d_z48)
  (g_z49:Fm K w07 "line" "Tree.line" ja4 f_z49 d_z49)
  (g_z50:Fm K w07 "beneath" "Tree.beneath" jao f_z50 d_z50)
  (g_z51:Fm K w07 "promised_beneath" "Tree.promised_beneath" jac f_z51 d_z51)
  (g_z52:Fm K w07 "check_more" "Tree.check_more" jag f_z52 d_z52)
  (g_z53:Fm K w00 "__init__" "NoPromise.__init__" jaq f_z53 d_z53)
  (qi_z53:jgk K w00 f_z53=true)(hi_z53:isFn K (.ref f_z53)=true)
  (a_House:aL K vD "House"=some (some (.ref w0g)))
  (a_Tree:aL K vD "Tree"=some (some (.ref w07)))
  (a_TreeError:aL K vD "TreeError"=some (some (.ref w05)))
  (a_NoName:aL K vD "NoName"=some (some (.ref w09)))
  (a_Taken:aL K vD "Taken"=some (some (.ref w0f)))
  (a_NoHouse:aL K vD "NoHouse"=some (some (.ref w01)))
  (a_NoMove:aL K vD "NoMove"=some (some (.ref w0e)))
  (a_NoPromise:aL K vD "NoPromise"=some (some (.ref w00)))
  (a_NoWare:aL K vD "NoWare"=some (some (.ref w0a)))
  (a_NoAmount:aL K vD "NoAmount"=some (some (.ref w03)))
  (a_NoNumber:aL K vD "NoNumber"=some (some (.ref w02)))
  (a_TooMany:aL K vD "TooMany"=some (some (.ref w06)))
  (a_TooDeep:aL K vD "TooDeep"=some (some (.ref w08)))
  {w34:uB}(a_LETTERS:aL K vD "LETTERS"=some (some w34))(w41:qbb (.str "abcdefghijklmnopqrstuvwxyz") w34)
  {w11:uB}(a_LONGEST_NAME:aL K vD "LONGEST_NAME"=some (some w11))(w1d:qbb (.int 8) w11)
  {w1k:uB}(a_MOST_WARES:aL K vD "MOST_WARES"=some (some w1k))(w20:qbb (.int 6) w1k)
  {w1b:uB}(a_MOST_HOUSES:aL K vD "MOST_HOUSES"=some (some w1b))(w1n:qbb (.int 40) w1b)
  {w0z:uB}(a_LONGEST_LINE:aL K vD "LONGEST_LINE"=some (some w0z))(w1c:qbb (.int 12) w0z)
  {w0l:uB}(a_GREATEST_WEIGHT:aL K vD "GREATEST_WEIGHT"=some (some w0l))(w0p:qbb (.int 1000) w0l)
  (q_NoHouse:fS K w01 [.type "ValueError",.type "Exception",.type "BaseException",.type "object"] "ValueError.__new__"=true)
  (q_NoAmount:fS K w03 [.type "ValueError",.type "Exception",.type "BaseException",.type "object"] "ValueError.__new__"=true)
  (q_NoWare:fS K w0a [.type "ValueError",.type "Exception",.type "BaseException",.type "object"] "ValueError.__new__"=true)
  (q_NoName:fS K w09 [.type "ValueError",.type "Exception",.type "BaseException",.type "object"] "ValueError.__new__"=true)
  (q_NoNumber:fS K w02 [.type "ValueError",.type "Exception",.type "BaseException",.type "object"] "ValueError.__new__"=true)
  (q_Taken:fS K w0f [.type "ValueError",.type "Exception",.type "BaseException",.type "object"] "ValueError.__new__"=true)
  (q_TooMany:fS K w06 [.type "ValueError",.type "Exception",.type "BaseException",.type "object"] "ValueError.__new__"=true)
  (q_TooDeep:fS K w08 [.type "ValueError",.type "Exception",.type "BaseException",.type "object"] "ValueError.__new__"=true)
  (q_NoMove:fS K w0e [.type "ValueError",.type "Exception",.type "BaseException",.type "object"] "ValueError.__new__"=true)
  (w2o:fB K (.ref w05) (.type "BaseException")=some true)
  (w1m:Cls K w0g)
  (w0b:Cls K w07)
  (w5c:Mk K w0g f_z39)
  (w6i:Mk K w07 f_z40)
  (w17:My.XAt K w00)
  (w15:qfx K w05 [w09,w0f,w01,w0a,w03,w02,w06,w08,w0e,w00] w00 9=true)
  (w38:My.XAt K w09)
  (w21:qfx K w05 [w09,w0f,w01,w0a,w03,w02,w06,w08,w0e,w00] w09 0=true)
  (w57:My.XAt K w0f)
  (w4h:qfx K w05 [w09,w0f,w01,w0a,w03,w02,w06,w08,w0e,w00] w0f 1=true)
  (w32:My.XAt K w01)
  (w2f:qfx K w05 [w09,w0f,w01,w0a,w03,w02,w06,w08,w0e,w00] w01 2=true)
  (w49:My.XAt K w0a)
  (w4e:qfx K w05 [w09,w0f,w01,w0a,w03,w02,w06,w08,w0e,w00] w0a 3=true)
  (w2j:My.XAt K w03)
  (w2m:qfx K w05 [w09,w0f,w01,w0a,w03,w02,w06,w08,w0e,w00] w03 4=true)
  (w2q:My.XAt K w02)
  (w1u:qfx K w05 [w09,w0f,w01,w0a,w03,w02,w06,w08,w0e,w00] w02 5=true)
  (w36:My.XAt K w06)
  (w2d:qfx K w05 [w09,w0f,w01,w0a,w03,w02,w06,w08,w0e,w00] w06 6=true)
  (w33:My.XAt K w08)
  (w2e:qfx K w05 [w09,w0f,w01,w0a,w03,w02,w06,w08,w0e,w00] w08 7=true)
  (w2l:My.XBase K w05)
  (wdp:vC K (.ref w00) "house"=some none)
  (wdo:vC K (.ref w00) "ware"=some none)
  (w1a:ja7 K w07 "found" f_z41)
  (w2b:ja7 K w07 "wares" f_z42)
  (w1s:ja7 K w07 "names" f_z43)
  (w1h:ja7 K w07 "has" f_z44)
  (w0h:ja7 K w07 "check_house" f_z45)
  (w0y:ja7 K w07 "house_of" f_z46)
  (w0k:ja7 K w07 "elder_of" f_z47)
  (w23:ja7 K w07 "kids" f_z48)
  (w22:ja7 K w07 "line" f_z49)
  (w0r:ja7 K w07 "beneath" f_z50)
  (w0d:ja7 K w07 "promised_beneath" f_z51)
  (w0n:ja7 K w07 "check_more" f_z52)
  (w0o:vC K (.ref w0g) "elder"=some none)
  (w0j:vC K (.ref w0g) "promise"=some none)
  (w0v:vC K (.ref w0g) "cap"=some none)
  (w18:vC K (.ref w0g) "weight"=some none)
  (w0i:vC K (.ref w07) "sorted_wares"=some none)
  (w0c:vC K (.ref w07) "houses"=some none)
  (y_ValueError:aL K vD "ValueError"=some none)
  (y_all:aL K vD "all"=some none)
  (y_bool:aL K vD "bool"=some none)
  (y_dict:aL K vD "dict"=some none)
  (y_int:aL K vD "int"=some none)
  (y_isinstance:aL K vD "isinstance"=some none)
  (y_len:aL K vD "len"=some none)
  (y_list:aL K vD "list"=some none)
  (y_max:aL K vD "max"=some none)
  (y_min:aL K vD "min"=some none)
  (y_range:aL K vD "range"=some none)
  (y_set:aL K vD "set"=some none)
  (y_sorted:aL K vD "sorted"=some none)
  (y_str:aL K vD "str"=some none)
  :∃d:Ad,Tx K mg d/\fa=d.w9i/\∀(s:uD)(v:uB),dQ s d.w8y ⟨[v],[]⟩ [("_law_script",v)]:=by
 have e:=hfa.symm.trans (g_law.m X G)
 cases e
 have Fl:=g_law.F;obtain⟨_,_,_,_,_,_,_,_,_,rfl,_,_⟩:=Fl.ex;have F_z40:=jgy (st:=jaf) l_z40 c_z40 k_z40 tt_z40 td_z40;have b_z40:qat K _ ["self","wares","name","promise","cap","weight"] []:=F_z40.binds (ps:=["self","wares","name","promise","cap","weight"]) fun _ _ _ _ _ _ us hl=>by have e:us.length=6:=(by simpa using hl);clear hl;revert us e;exact ln6 fun _ _ _ _ _ _=>by first|exact .inl rfl|exact .inr ⟨_,rfl,rfl⟩
 have b1_z40:qat K _ ["self","wares","name","promise","cap","weight"] [w0u]:=F_z40.binds (ps:=["self","wares","name","promise","cap","weight"]) fun _ _ _ _ _ _ us hl=>by have e:us.length=5:=(by simpa using hl);clear hl;revert us e;exact ln5 fun _ _ _ _ _=>by first|exact .inl rfl|exact .inr ⟨_,rfl,rfl⟩
 have F_z41:=jgy (st:=jad) l_z41 c_z41 k_z41 tt_z41 td_z41;have b_z41:qat K _ ["self","name","elder","promise","cap","weight"] []:=F_z41.binds (ps:=["self","name","elder","promise","cap","weight"]) fun _ _ _ _ _ _ us hl=>by have e:us.length=6:=(by simpa using hl);clear hl;revert us e;exact ln6 fun _ _ _ _ _ _=>by first|exact .inl rfl|exact .inr ⟨_,rfl,rfl⟩
 have b1_z41:qat K _ ["self","name","elder","promise","cap","weight"] [w0m]:=F_z41.binds (ps:=["self","name","elder","promise","cap","weight"]) fun _ _ _ _ _ _ us hl=>by have e:us.length=5:=(by simpa using hl);clear hl;revert us e;exact ln5 fun _ _ _ _ _=>by first|exact .inl rfl|exact .inr ⟨_,rfl,rfl⟩
 refine⟨⟨_,_,_,_,_,_,_,_,_,_,_,_,_,_,_,_,_,_,_,_,_,_,_,_,_,_,_,_,_,_,_,_,_,_,_,_,_,_,_,_,_,_,_,_,_,_,_,_,_,_,_,_,_,_,_,_,_,_,_,_,_,_,_,_,_,_,_,_,_,_,_,_,_,_,_,_,_,_,_,_,_,_,t_z40,w0u,_,_,t_z41,w0m,_,_,_,_,_,_,_,_,_,_,_,_,_,_,_,_,_,_,_,_,_,_,_,_,w0g,w07,w05,w09,w0f,w01,w0e,w00,w0a,w03,w02,w06,w08,w34,w11,w1k,w1b,w0z,w0l⟩,⟨g_z0.F,g_z0.m X G,g_z0.F.binds fun _ _ _ _ _ _=>ln1 fun _=>rfl,g_z1.F,g_z1.m X G,g_z1.F.binds fun _ _ _ _ _ _=>ln1 fun _=>rfl,g_z2.F,g_z2.m X G,g_z2.F.binds fun _ _ _ _ _ _=>ln3 fun _ _ _=>rfl,g_z3.F,g_z3.m X G,g_z3.F.binds fun _ _ _ _ _ _=>ln1 fun _=>rfl,g_z4.F,g_z4.m X G,g_z4.F.binds fun _ _ _ _ _ _=>ln2 fun _ _=>rfl,g_z5.F,g_z5.m X G,g_z5.F.binds fun _ _ _ _ _ _=>ln1 fun _=>rfl,g_z6.F,g_z6.m X G,g_z6.F.binds fun _ _ _ _ _ _=>ln2 fun _ _=>rfl,g_z7.F,g_z7.m X G,g_z7.F.binds fun _ _ _ _ _ _=>ln2 fun _ _=>rfl,g_z8.F,g_z8.m X G,g_z8.F.binds fun _ _ _ _ _ _=>ln2 fun _ _=>rfl,g_z9.F,g_z9.m X G,g_z9.F.binds fun _ _ _ _ _ _=>ln1 fun _=>rfl,g_z10.F,g_z10.m X G,g_z10.F.binds fun _ _ _ _ _ _=>ln1 fun _=>rfl,g_z11.F,g_z11.m X G,g_z11.F.binds fun _ _ _ _ _ _=>ln1 fun _=>rfl,g_z12.F,g_z12.m X G,g_z12.F.binds fun _ _ _ _ _ _=>ln5 fun _ _ _ _ _=>rfl,g_z13.F,g_z13.m X G,g_z13.F.binds fun _ _ _ _ _ _=>ln3 fun _ _ _=>rfl,g_z14.F,g_z14.m X G,g_z14.F.binds fun _ _ _ _ _ _=>ln2 fun _ _=>rfl,g_z15.F,g_z15.m X G,g_z15.F.binds fun _ _ _ _ _ _=>ln2 fun _ _=>rfl,g_z16.F,g_z16.m X G,g_z16.F.binds fun _ _ _ _ _ _=>ln2 fun _ _=>rfl,g_z17.F,g_z17.m X G,g_z17.F.binds fun _ _ _ _ _ _=>ln1 fun _=>rfl,g_z18.F,g_z18.m X G,g_z18.F.binds fun _ _ _ _ _ _=>ln2 fun _ _=>rfl,g_z19.F,g_z19.m X G,g_z19.F.binds fun _ _ _ _ _ _=>ln1 fun _=>rfl,g_z20.F,g_z20.m X G,g_z20.F.binds fun _ _ _ _ _ _=>ln2 fun _ _=>rfl,g_z21.F,g_z21.m X G,g_z21.F.binds fun _ _ _ _ _ _=>ln3 fun _ _ _=>rfl,g_z22.F,g_z22.m X G,g_z22.F.binds fun _ _ _ _ _ _=>ln2 fun _ _=>rfl,g_z23.F,g_z23.m X G,g_z23.F.binds fun _ _ _ _ _ _=>ln4 fun _ _ _ _=>rfl,g_z24.F,g_z24.m X G,g_z24.F.binds fun _ _ _ _ _ _=>ln3 fun _ _ _=>rfl,g_z25.F,g_z25.m X G,g_z25.F.binds fun _ _ _ _ _ _=>ln1 fun _=>rfl,g_z26.F,g_z26.m X G,g_z26.F.binds fun _ _ _ _ _ _=>ln2 fun _ _=>rfl,g_z27.F,g_z27.m X G,g_z27.F.binds fun _ _ _ _ _ _=>ln1 fun _=>rfl,g_z28.F,g_z28.m X G,g_z28.F.binds fun _ _ _ _ _ _=>ln2 fun _ _=>rfl,g_z29.F,g_z29.m X G,g_z29.F.binds fun _ _ _ _ _ _=>ln1 fun _=>rfl,g_z30.F,g_z30.m X G,g_z30.F.binds fun _ _ _ _ _ _=>ln3 fun _ _ _=>rfl,g_z31.F,g_z31.m X G,g_z31.F.binds fun _ _ _ _ _ _=>ln4 fun _ _ _ _=>rfl,g_z32.F,g_z32.m X G,g_z32.F.binds fun _ _ _ _ _ _=>ln2 fun _ _=>rfl,g_z33.F,g_z33.m X G,g_z33.F.binds fun _ _ _ _ _ _=>ln2 fun _ _=>rfl,g_z34.F,g_z34.m X G,g_z34.F.binds fun _ _ _ _ _ _=>ln2 fun _ _=>rfl,g_z35.F,g_z35.m X G,g_z35.F.binds fun _ _ _ _ _ _=>ln3 fun _ _ _=>rfl,g_z36.F,g_z36.m X G,g_z36.F.binds fun _ _ _ _ _ _=>ln2 fun _ _=>rfl,g_z37.F,g_z37.m X G,g_z37.F.binds fun _ _ _ _ _ _=>ln1 fun _=>rfl,Fl,g_law.m X G,g_z39.F,g_z39.F.binds fun _ _ _ _ _ _=>ln5 fun _ _ _ _ _=>rfl,F_z40,b_z40,b1_z40,rd_z40,F_z41,b_z41,b1_z41,rd_z41,g_z42.F,g_z42.F.binds fun _ _ _ _ _ _=>ln1 fun _=>rfl,g_z43.F,g_z43.F.binds fun _ _ _ _ _ _=>ln1 fun _=>rfl,g_z44.F,g_z44.F.binds fun _ _ _ _ _ _=>ln2 fun _ _=>rfl,g_z45.F,g_z45.F.binds fun _ _ _ _ _ _=>ln2 fun _ _=>rfl,g_z46.F,g_z46.F.binds fun _ _ _ _ _ _=>ln2 fun _ _=>rfl,g_z47.F,g_z47.F.binds fun _ _ _ _ _ _=>ln2 fun _ _=>rfl,g_z48.F,g_z48.F.binds fun _ _ _ _ _ _=>ln2 fun _ _=>rfl,g_z49.F,g_z49.F.binds fun _ _ _ _ _ _=>ln2 fun _ _=>rfl,g_z50.F,g_z50.F.binds fun _ _ _ _ _ _=>ln2 fun _ _=>rfl,g_z51.F,g_z51.F.binds fun _ _ _ _ _ _=>ln2 fun _ _=>rfl,g_z52.F,g_z52.F.binds fun _ _ _ _ _ _=>ln3 fun _ _ _=>rfl,g_z53.F,jm7 qi_z53 hi_z53,g_z53.F.binds fun _ _ _ _ _ _=>ln3 fun _ _ _=>rfl,vW X G a_House,vW X G a_Tree,vW X G a_TreeError,vW X G a_NoName,vW X G a_Taken,vW X G a_NoHouse,vW X G a_NoMove,vW X G a_NoPromise,vW X G a_NoWare,vW X G a_NoAmount,vW X G a_NoNumber,vW X G a_TooMany,vW X G a_TooDeep,vW X G a_LETTERS,w41,vW X G a_LONGEST_NAME,w1d,vW X G a_MOST_WARES,w20,vW X G a_MOST_HOUSES,w1n,vW X G a_LONGEST_LINE,w1c,vW X G a_GREATEST_WEIGHT,w0p,vX X G y_ValueError,vX X G y_all,vX X G y_bool,vX X G y_dict,vX X G y_int,vX X G y_isinstance,vX X G y_len,vX X G y_list,vX X G y_max,vX X G y_min,vX X G y_range,vX X G y_set,vX X G y_sorted,vX X G y_str,w1m,w0b,w5c,w6i,w17,w15,w38,w21,w57,w4h,w32,w2f,w49,w4e,w2j,w2m,w2q,w1u,w36,w2d,w33,w2e,w2l,wdp,wdo,w1a,w2b,w1s,w1h,w0h,w0y,w0k,w23,w22,w0r,w0d,w0n,w0o,w0j,w0v,w18,w0i,w0c,qd1 q_NoHouse,qd1 q_NoAmount,qd1 q_NoWare,qd1 q_NoName,qd1 q_NoNumber,qd1 q_Taken,qd1 q_TooMany,qd1 q_TooDeep,qd1 q_NoMove,w2o⟩,rfl,fun s v=> .of_eq rfl⟩
theorem walk{l:PySem.W.OpenLaw}{q:uI}{loose:List Str}{XP:(Str->Option uB)->vS->Prop}{YP:vA->vS->Prop}{e:DefRec}{K:Params->uY}(hn:l.most=some 63)(hdf:e.params.defaults=[])(hlaw:e.name= "law")
  (hY:∀(w:vA)(h:vS),YP w h->(K w.params).In h)
  (F:∀(w:vA)(mg:Str->Option uB)(fa:Addr)(h:vS),(K w.params).In h->h.Ns vD mg->mg "law"=some (.ref fa)->∃d:Ad,Tx (K w.params) mg d/\fa=d.w9i/\∀(s:uD)(v:uB),dQ s d.w8y ⟨[v],[]⟩ [("_law_script",v)]):
  PySem.W.WalkO q loose XP YP l.row.toRowW e [] (fun f vs=>PySem.call f vs):=by
 refine L2.walk_of (n:=63) (k:=23) (x:="_law_script") (CX:=fun _=>CX0) (sp:=fun w=>jis (K w.params)) hn ∅ hdf ⟨rfl,∅,∅⟩ hY (fun w mg fa h KX G hm=>?_) (fun _ _ a ns hl _ hS=>⟨a,ns,rfl,hS,hl,fun _=>rfl⟩) fun _ _ _ _ _ z=>z;rw[hlaw] at hm;obtain⟨d,T,rfl,hb⟩:=F w mg fa h KX G hm;exact⟨d.w8y,hb,fun base _ _=>(jr9 (P:=l.prog) (w:=w) (base:=base) T).imp fun vs H Q E q=>q⟩
end Our
namespace PySem.W.Fast
def tw9133298785700374541:=0
def tw17225307038403211162:=0
def tw7094079799808703791:=0
def tw12279987384237923169:=0
def tw2926225830479942117:=0
def tw4679196917438039103:=0
def tw13209091965582583798:=0
def tw16355311092889975055:=0
def tw3378335422663968822:=0
def tw14271703497968313872:=0
def tw1014209530850059582:=0
def tw13143257973949677078:=0
def tw598803549074808648:=0
def tw4605520576790135533:=0
def tw16555446229703091529:=0
def tw13378879900172736478:=0
def tw9439262369347338310:=0
def tw16342055684612239382:=0
def tw8953315176549560684:=0
def tw5901636728634151308:=0
def tw12147709854407369750:=0
def tw17972465151507921422:=0
def tw3934644293554953779:=0
def tw12653386794040993533:=0
def tw16340304310480870511:=0
def tw5683099808804870489:=0
def tw3796406918627628295:=0
def tw13303317558815884579:=0
def tw15701997699175986499:=0
def tw6594851262235675568:=0
def tw13542868272109589356:=0
def tw3922595783993149066:=0
def tw15444898838208083786:=0
def tw10281278466418343661:=0
def tw15843876784374343989:=0
def tw18163038225639149474:=0
def tw6329513068060876059:=0
def tw8037141393855769565:=0
def tw5220810490420907529:=0
def tw16676428580793686152:=0
def tw6283593070408082534:=0
def tw2534682515809340698:=0
def tw6958303227842268389:=0
def tw8539767454145967015:=0
def tw7698892954282081204:=0
def tw10830548409500169115:=0
def tw5255217329641028345:=0
def tw13111607850922059174:=0
def tw15510237350933250052:=0
def tw1281178432297860508:=0
def tw9263889358283295906:=0
def tw4746809323872427666:=0
def tw10244855341090741287:=0
def tw4809556653608296748:=0
def tw2043521731582738424:=0
def tw6437642472977647345:=0
def tw5247777132710066993:=0
def tw5319897878815232782:=0
def tw10180929853739657279:=0
def tw7560034320230959712:=0
def tw9462397209823751936:=0
def tw14422435766356337815:=0
def tw11571111960636297386:=0
def tw218820331210504820:=0
def tw982726738343913637:=0
def tw7042189274175131571:=0
def tw2452299635128067665:=0
def tw7040742887048906944:=0
def tw15460266335442070584:=0
def tw3117312541792491818:=0
def tw9406911906731517884:=0
def tw5137638437030191583:=0
def tw12468424727304261337:=0
def tw6985748155637075913:=0
def tw12274188825583118891:=0
def tw6946915454334627332:=0
def tw10885423807034741018:=0
def tw5355672089510283898:=0
def tw2206905759279051012:=0
def tw5178476457490228539:=0
def tw7919551707811190757:=0
def tw16480098306721934963:=0
def tw4714979638821639688:=0
def tw2545222130658769940:=0
def tw10727360588253572990:=0
def tw11290071619774084694:=0
def tw1033441193690597023:=0
def tw12468613528755859657:=0
def tw14054447665097130309:=0
def tw1960341511389717443:=0
def tw15206493357087632802:=0
def tw1856986527891887055:=0
def tw5446776835516058993:=0
def tw18361884184438252539:=0
def tw5816818159043602688:=0
def tw16298780020692301901:=0
def tw10309080894101280864:=0
def tw2373874375385552559:=0
def tw9999548012394960947:=0
def tw4671910675035836490:=0
def tw9950655309478211709:=0
def tw7916430351002699679:=0
def tw1022550494420432435:=0
def tw11358829423630523052:=0
def tw13354249102171406021:=0
def tw11971804797912910586:=0
def tw8376302260137626286:=0
def tw3673895605443925909:=0
def tw17796033095208122615:=0
def tw11788387413360944462:=0
def tw18265112026216553150:=0
def tw17836829161803277370:=0
def tw15697814116830321199:=0
def tw10836165583041644892:=0
def tw7872028028425634816:=0
def tw8812180552908484105:=0
def tw9781876872408363700:=0
def tw14208968049999093661:=0
def tw13119206047000150814:=0
def tw14677293749951341361:=0
def tw13118239051057546718:=0
def tw2369201229971938076:=0
def tw3156062398437109018:=0
def tw344467106835687932:=0
def tw11007734240093146190:=0
def tw14558012802126622648:=0
def tw3900059630039432020:=0
def tw6096918425248041482:=0
def tw10478003857750845728:=0
def tw6173233106750560202:=0
def tw16159396671355151833:=0
def tw10970383485699510974:=0
def tw7695284971826825483:=0
def tw6958285626051246418:=0
def tw10865240607659065353:=0
def tw11627116000937693429:=0
def tw12865342663748804152:=0
def tw8125204904131586485:=0
def tw15737654699037497624:=0
def tw9127211349800004267:=0
def tw4035260093467988462:=0
def tw12308732457338336182:=0
def tw9257190859224922374:=0
def tw11999779801458030411:=0
def tw14912652425326557452:=0
def tw18031691817622978477:=0
def tw8060883121406035432:=0
def tw4708143587311144483:=0
def tw15566796414581337975:=0
def tw802263733735045577:=0
def tw5342581763294155049:=0
def tw8059329549814229625:=0
def tw1964701685791181833:=0
def tw17212305029164140511:=0
def tw363761395149749167:=0
def tw7787337263118357085:=0
def tw16667977476618014136:=0
def tw15452412252973564572:=0
def tw162521201761947854:=0
def tw220132406534124039:=0
def tw16129465333261637437:=0
def tw12604255638151934090:=0
def tw16241928092843913428:=0
def tw3759222177384159365:=0
def tw9598900069031843547:=0
def tw8132156751201946621:=0
def tw5005403518823855662:=0
def tw2532179250149004574:=0
def tw729672748736529496:=0
def tw5404945439149231362:=0
def tw17092277458844168573:=0
def tw556509261171613610:=0
def tw2801225597464496535:=0
def tw13514890124695325952:=0
def tw6284183445004334459:=0
def tw11711883941196551999:=0
def tw5664282828482148591:=0
def tw16537209150109934107:=0
def tw5185950282007936357:=0
def tw8431541126334454852:=0
def tw2862968334809588252:=0
def tw14564094771822085709:=0
def tw10993924533571865483:=0
def tw9848750311876147450:=0
def tw12928949426493067140:=0
def tw3738531593083982031:=0
def tw16721958235539520959:=0
def tw16391682932041610130:=0
def tw277483057758785386:=0
def tw8254674898363521155:=0
def tw11956368724725813215:=0
def tw7406689464695266830:=0
def tw17593644241459298463:=0
def tw8738504443954002958:=0
def tw5873599821015970220:=0
def tw4978325119685290137:=0
def tw16344536369566904319:=0
def tw4618859394181792859:=0
def tw15699967263570691001:=0
def tw14944287358625799887:=0
def tw6974657755897460574:=0
def tw11554181416417884162:=0
def tw6230153709045542090:=0
def tw3389937950871022279:=0
def tw15831855850646031331:=0
def tw1915240361198282815:=0
def tw1895006748908616847:=0
def tw13154305572383976278:=0
def tw5147112148554838275:=0
def tw17307571011372332600:=0
def tw8777700766427147571:=0
def tw16756317086963939898:=0
def tw10258288139602223774:=0
def tw651716588819444509:=0
def tw13411116755333278632:=0
def tw11818881857141568101:=0
def tw6644147833408924099:=0
def tw9050406047371073116:=0
def tw12333290752522728506:=0
def tw10762773552812411937:=0
def tw9694278323676702530:=0
def tw8913892643967359395:=0
def tw7397554925732886471:=0
def tw17267567230760817687:=0
def tw16742293462263297729:=0
def tw15736268003748015289:=0
def tw11708047845329840067:=0
def tw9691956968648607852:=0
def tw9183655515922172203:=0
def tw8382547980255625281:=0
def tw5426397361775271974:=0
def tw11579703351270153361:=0
def tw11004527234006337332:=0
def tw12253423688447328070:=0
def tw9689611924243041900:=0
def tw17853317598682938498:=0
def tw11878224134599893840:=0
def tw15086025258591716785:=0
def tw4885402049450429653:=0
def tw360030219624466932:=0
def tw3769948287882197359:=0
def tw3890810587056153521:=0
def tw16633952545036808174:=0
def tw3889945442556525752:=0
def tw6806840061033683800:=0
def tw5329396726302370294:=0
def tw5110903289607638164:=0
def tw18277973805260939685:=0
def tw12246855043675598734:=0
def tw8170053141519057678:=0
def tw70479914191387383:=0
def tw1855023024071262413:=0
def tw11789605275743801159:=0
def tw10630456983662953528:=0
def tw12155178009300496431:=0
def tw8835171998835728216:=0
def tw3317645871605279009:=0
def tw2353311685316112760:=0
def tw1112371813082267435:=0
def tw2811340229041904896:=0
def tw6214597547320195190:=0
def tw4884572545546755488:=0
def tw4057733358392912435:=0
def tw2300625059616709273:=0
def tw7899603885391024026:=0
def tw1282129974225033237:=0
def tw4603372655855708913:=0
def tw285350944826241226:=0
def tw3223597930305736337:=0
def tw15708249943345053844:=0
def tw14022651841269042267:=0
def tw8274375098352520199:=0
def tw7998905443295775985:=0
def tw4326956655294937940:=0
def tw191842811387022396:=0
def tw14713087293846300479:=0
def tw7145789391374484898:=0
def tw15463119970019920274:=0
def tw10914105530444684925:=0
def tw10209541743714612832:=0
def tw6576066004135490258:=0
def tw10817882064317013367:=0
def tw6129474731832879624:=0
def tw12220885277002091122:=0
def tw8866064011866865889:=0
def tw13830884447166422123:=0
def tw8945502782951584825:=0
def tw3051977135838125314:=0
def tw15354201354498337976:=0
def tw5616962286169673376:=0
def tw4226037112282459126:=0
def tw2948418256971699123:=0
def tw15781853488322623147:=0
def tw9228923856397222278:=0
def tw6105074793585225110:=0
def tw9526427355940820954:=0
def tw13341546650244838816:=0
def tw2398062436429227700:=0
def tw11689135628458420003:=0
def tw9758765096298679235:=0
def tw7696958462254017051:=0
def tw3408787968270027488:=0
def tw17688876146770571381:=0
def tw6734198940066354191:=0
def tw1375666550169790780:=0
def tw176178962610299853:=0
def tw5089369875784428167:=0
def tw18371866748222723487:=0
def tw17794352630017525366:=0
def tw15797456450847528047:=0
def tw13334477951592919475:=0
def tw810813412315639361:=0
def tw4370499188953398812:=0
def tw7609792004266777974:=0
def tw5126217773768604111:=0
def tw4619311746640014266:=0
def tw16467593832879598233:=0
def tw6604244295035424049:=0
def tw1944735334198318993:=0
def tw4812453066698587785:=0
def tw14381755257529381125:=0
def tw3569260711694815236:=0
def tw9266426001579270318:=0
def tw4909823389202411967:=0
def tw8901871421815902275:=0
def tw1730624156292874927:=0
def tw15487756841968044355:=0
def tw6206298888949087293:=0
def tw2643150738628368641:=0
def tw15603367375071896189:=0
def tw14758045042717520121:=0
def tw10267982881472973055:=0
def tw16801970447099842234:=0
def tw5133411911420014560:=0
def tw17184179141360668953:=0
def tw16379923232114738991:=0
def tw11210858072768233533:=0
def tw2992747835882156125:=0
def tw12828944605273101656:=0
def tw9055472607034274985:=0
def tw8072127030787169208:=0
def tw2840907886209829767:=0
def tw2783014767137930722:=0
def tw16515527072844127180:=0
def tw10268999050047206147:=0
def tw5308396995960099037:=0
def tw3538673158318863447:=0
def tw2252099439588716852:=0
def tw8880123869358564937:=0
def tw5945357214207069101:=0
def tw17057544853548341628:=0
def tw7439507803990156449:=0
def tw6137710869545034530:=0
def tw4004075478415700520:=0
def tw1641112422452216207:=0
def tw6059220712225844866:=0
def tw12706735050379400879:=0
def tw5980199414396279958:=0
def tw13018325804320165917:=0
def tw7669760058466251007:=0
def tw6992788259341410231:=0
def tw234695752385944493:=0
def tw3495390960224068146:=0
def tw1353157518053332298:=0
def tw7102645823654067238:=0
def tw1699562788141697871:=0
def tw12539165710543377127:=0
def tw6890609075980577199:=0
def tw5796544586102141374:=0
def tw16207143326817476841:=0
def tw5190143530942986769:=0
def tw10893305420446315227:=0
def tw18022996507459633680:=0
def tw8025429931642153296:=0
def tw2427196384994932821:=0
def tw2993899332706230698:=0
def tw1817747633749789417:=0
def tw16925932528434344737:=0
def tw13265870960794487386:=0
def tw10911870462734196400:=0
end PySem.W.Fast
open PySem PySem.W PyProof.Rows
set_option maxRecDepth 100000 in
set_option maxHeartbeats 0 in
theorem PySem.Challenge.cw_quotatree_k14_refused_foundings_holds : PySem.Challenge.rw_quotatree_k14_refused_foundings.Holds := by
 w_on;o_law;k_head;(case hw=>w_witness2)
 k_fill
 refine Our.walk (l:=PySem.Challenge.rw_quotatree_k14_refused_foundings) rfl rfl rfl (fun w h Y=>PySem.W.kIn_of Y) ?F
 case F=>
  intro w mg fa h KX G hmg;refine' Our.txt_mk KX G hmg ?g_z0 ?g_z1 ?g_z2 ?g_z3 ?g_z4 ?g_z5 ?g_z6 ?g_z7 ?g_z8 ?g_z9 ?g_z10 ?g_z11 ?g_z12 ?g_z13 ?g_z14 ?g_z15 ?g_z16 ?g_z17 ?g_z18 ?g_z19 ?g_z20 ?g_z21 ?g_z22 ?g_z23 ?g_z24 ?g_z25 ?g_z26 ?g_z27 ?g_z28 ?g_z29 ?g_z30 ?g_z31 ?g_z32 ?g_z33 ?g_z34 ?g_z35 ?g_z36 ?g_z37 ?g_law ?g_z39 ?a_z40 ?l_z40 ?c_z40 ?k_z40 ?tt_z40 ?td_z40 ?rd_z40 ?a_z41 ?l_z41 ?c_z41 ?k_z41 ?tt_z41 ?td_z41 ?rd_z41 ?g_z42 ?g_z43 ?g_z44 ?g_z45 ?g_z46 ?g_z47 ?g_z48 ?g_z49 ?g_z50 ?g_z51 ?g_z52 ?g_z53 ?qi_z53 ?hi_z53 ?a_House ?a_Tree ?a_TreeError ?a_NoName ?a_Taken ?a_NoHouse ?a_NoMove ?a_NoPromise ?a_NoWare ?a_NoAmount ?a_NoNumber ?a_TooMany ?a_TooDeep ?a_LETTERS ?w41 ?a_LONGEST_NAME ?w1d ?a_MOST_WARES ?w20 ?a_MOST_HOUSES ?w1n ?a_LONGEST_LINE ?w1c ?a_GREATEST_WEIGHT ?w0p ?q_NoHouse ?q_NoAmount ?q_NoWare ?q_NoName ?q_NoNumber ?q_Taken ?q_TooMany ?q_TooDeep ?q_NoMove ?w2o ?w1m ?w0b ?w5c ?w6i ?w17 ?w15 ?w38 ?w21 ?w57 ?w4h ?w32 ?w2f ?w49 ?w4e ?w2j ?w2m ?w2q ?w1u ?w36 ?w2d ?w33 ?w2e ?w2l ?wdp ?wdo ?w1a ?w2b ?w1s ?w1h ?w0h ?w0y ?w0k ?w23 ?w22 ?w0r ?w0d ?w0n ?w0o ?w0j ?w0v ?w18 ?w0i ?w0c ?y_ValueError ?y_all ?y_bool ?y_dict ?y_int ?y_isinstance ?y_len ?y_list ?y_max ?y_min ?y_range ?y_set ?y_sorted ?y_str
  (case a_House|a_Tree|a_TreeError|a_NoName|a_Taken|a_NoHouse|a_NoMove|a_NoPromise|a_NoWare|a_NoAmount|a_NoNumber|a_TooMany|a_TooDeep=>k_is)
  all_goals try (refine' ⟨?a,L2.fun_mk ?l ?c ?k⟩;(case a=>k_is);(case l=>k_is);(case c=>k_is);(case k=>k_is))
  (case a_z40=>k_is);(case l_z40=>k_is);(case c_z40=>k_is);(case k_z40=>k_is)
  (case tt_z40=>k_is);(case td_z40=>first|rfl|k_is);(case rd_z40=>first|exact .cons ⟨_,rfl⟩ .nil|exact .cons rfl .nil)
  (case a_z41=>k_is);(case l_z41=>k_is);(case c_z41=>k_is);(case k_z41=>k_is)
  (case tt_z41=>k_is);(case td_z41=>first|rfl|k_is);(case rd_z41=>first|exact .cons ⟨_,rfl⟩ .nil|exact .cons rfl .nil)
  (case qi_z53=>kernel_rfl);(case hi_z53=>k_is)
  (case a_LETTERS=>k_is)
  (case w41=>exact⟨_,rfl⟩)
  (case a_LONGEST_NAME=>k_is)
  (case w1d=>exact⟨_,rfl⟩)
  (case a_MOST_WARES=>k_is)
  (case w20=>exact⟨_,rfl⟩)
  (case a_MOST_HOUSES=>k_is)
  (case w1n=>exact⟨_,rfl⟩)
  (case a_LONGEST_LINE=>k_is)
  (case w1c=>exact⟨_,rfl⟩)
  (case a_GREATEST_WEIGHT=>k_is)
  (case w0p=>exact⟨_,rfl⟩)
  (case q_NoHouse|q_NoAmount|q_NoWare|q_NoName|q_NoNumber|q_Taken|q_TooMany|q_TooDeep|q_NoMove=>k_exc)
  (case w2o=>kernel_rfl)
  (case w1m=>(constructor<;>first|k_is|kernel_rfl))
  (case w0b=>(constructor<;>first|k_is|kernel_rfl))
  (case w5c=>(constructor<;>first|k_is|kernel_rfl))
  (case w6i=>(constructor<;>first|k_is|kernel_rfl))
  (case w17=>(constructor<;>first|k_is|kernel_rfl))
  (case w15=>kernel_rfl)
  (case w38=>(constructor<;>first|k_is|kernel_rfl))
  (case w21=>kernel_rfl)
  (case w57=>(constructor<;>first|k_is|kernel_rfl))
  (case w4h=>kernel_rfl)
  (case w32=>(constructor<;>first|k_is|kernel_rfl))
  (case w2f=>kernel_rfl)
  (case w49=>(constructor<;>first|k_is|kernel_rfl))
  (case w4e=>kernel_rfl)
  (case w2j=>(constructor<;>first|k_is|kernel_rfl))
  (case w2m=>kernel_rfl)
  (case w2q=>(constructor<;>first|k_is|kernel_rfl))
  (case w1u=>kernel_rfl)
  (case w36=>(constructor<;>first|k_is|kernel_rfl))
  (case w2d=>kernel_rfl)
  (case w33=>(constructor<;>first|k_is|kernel_rfl))
  (case w2e=>kernel_rfl)
  (case w2l=>(constructor<;>first|k_is|kernel_rfl))
  (case wdp|wdo=>k_is)
  (case w1a=>(constructor<;>first|k_is|kernel_rfl))
  (case w2b=>(constructor<;>first|k_is|kernel_rfl))
  (case w1s=>(constructor<;>first|k_is|kernel_rfl))
  (case w1h=>(constructor<;>first|k_is|kernel_rfl))
  (case w0h=>(constructor<;>first|k_is|kernel_rfl))
  (case w0y=>(constructor<;>first|k_is|kernel_rfl))
  (case w0k=>(constructor<;>first|k_is|kernel_rfl))
  (case w23=>(constructor<;>first|k_is|kernel_rfl))
  (case w22=>(constructor<;>first|k_is|kernel_rfl))
  (case w0r=>(constructor<;>first|k_is|kernel_rfl))
  (case w0d=>(constructor<;>first|k_is|kernel_rfl))
  (case w0n=>(constructor<;>first|k_is|kernel_rfl))
  (case w0o|w0j|w0v|w18|w0i|w0c|y_ValueError|y_all|y_bool|y_dict|y_int|y_isinstance|y_len|y_list|y_max|y_min|y_range|y_set|y_sorted|y_str=>k_is)