import PyProof.Rows.All
import Wide.All
import OpenK.AllK
import Wide.FinOn
import Lean
import PyProof.EqAt
import PyProof.EqKinds
import PyProof.TupleCall
import PyProof.NeKinds
import KE.KEqDict
import KE.KRevIter
import PyProof.FactsAll.range_2
import PyProof.ZipIter
import PyProof.FitsReplace
import PyProof.MeetsStr
import PyProof.ListRange
import PyProof.CollectWalk
import PyProof.DictItems
import PyProof.DictItemsLoops
import PyProof.DictValues
import PyProof.DictWalks
import PyProof.StrCalls
import KE.KIsAll
import PyProof.Rows.Range3
import PyProof.Rows.MinMaxN
import PyProof.SumWalkG
import PyProof.MeetsStr2
import PyProof.StrBlockL
import PyProof.Rows.StrNews2
import PyProof.StrLawsOccR
import KE.KIntText
import PyProof.StrLawsIn
import PyProof.Rows.SeqMore2
import PyProof.ListOps
import PyProof.Rows.SeqMore
import PyProof.Rows.SeqGen
import PyProof.EnumFor
import PyProof.EnumMake
import PySem.Challenge.RW_quotatree_k46_lists_let_by
open PySem.W (Frag instObj lookIn plainGet hasDictIn findIn isFn emptyDict specialIn keepIn mroIn kitOne fnOf codeIn excIn nsIn)
open List renaming getElem?_eq_getElem->zA,length_map->zB,getElem?_map->zC,mem_of_getElem?->zD,map_append->zE,mem_singleton->zF,length_append->zG,mem_cons_of_mem->zH,size_toArray->zI,getElem_mem->zJ,mem_map->zK,length_cons->zL,mem_cons->zM,mem_cons_self->zN,take_add_one->zO,mem_append_right->zP,mem_iff_getElem->zQ,mem_append->zR,take_length->zS,length_singleton->zT,length_take->zU,map_cons->zV,pairwise_iff_getElem->zW,nodup_cons->zX,length_filter_le->zY,getElem?_append_right->zZ,filter_append->yA,append_nil->yB,getElem?_append_left->yC,all_eq_true->yD,filter_cons->yE,not_mem_nil->yF,mem_append_left->yG,mem_filter->yH,nodup_append->yI,find?_cons->yJ,getElem?_eq_none->yK,mem_of_mem_take->yL,nodup_nil->yM,mem_flatten->yN,any_eq_true->yO,getElem_map->yP,length_range->yQ,filter_nil->yR,length_nil->yS,mem_range->yT,foldl_cons->yU,map_map->yV,any_cons->yW,all_cons->yX
open PySem renaming wpAny_bind->uA,Value->uC,Shared->uE,wpAny_pure->uG,FuncData->uM,Stmt->uN,wpAny->uS,mainGlobals->uT,model->uV,Program->uY,starEach->uZ,wpAny_mono->vD,boot_len->vH,World->vL,Around->vM,Heap->vP,Expr->vQ,compareOp->wC,wpAny_newObj_type->wF,eval->wG,wpAny_truthy_bool->wI,wpAny_call_entry->wK,sysModules->wP,wpAny_holding->wR,backTo->wT,compEnvC->wU,wpAny_Call_Name_kw->wW,rawInt->xD,wpAny_standAt->xE,wpAny_callSpecial?_slot->xH,wpAny_typeNameOfWhole_keyiter->xK,wpAny_typeNameOfWhole_valiter->xL,bootBuiltins->xM,codeAny_mono->xN,Builtin->xQ,wpAny_passesOwn->xT,codeAny_builtin->xV,wpAny_richCompare_same_room->aA,wpAny_dictEntries->aC,wpAny_setField->aF,mem_of_lookup->aL,wpAny_dictEpoch->aQ,sizeLine_eq->aU,keywordEach->aV,wpAny_pyIter_list->bB,binaryOp->bC,codeAny->bD,wpAny_loadPart_at->bG,wpAny_call->bN,behindInMarks->bO,attributeBase->bP,plainId_quiet->bQ,sliceBounds->bT,excClassObj->bV,lookup_relabel_local->bW,Scope->bY,ExcBaseFacts->cA,tupleKind->cB,tupleKind_room_in1->cE,wpAny_assign_Name->cI,foldedSetIterable->cJ,wpAny_field->cL,pyNext->cT,wpAny_comprehension_free->cY,backToKw->cZ,assignEach->dC,codeAny_compStart_list->dG,valueAt->dH,wpAny_execs_nil->dM,wpAny_isOneOf_valiter->dS,assign->dX,wpAny_newFunctionEnv->dY,wpAny_fieldsOf->dZ,firstArgMember->eB,swapsWith->eF,getMethod->eG,BindsTo->eI,DictEntry->eJ,wpAny_attempt->eY,nsFind->fB,typeLookup->fE,holding->fO,callWith->fR,callerA->fU,wpAny_isInstance->gH,scanBound->gI
open PySem.Heap renaming get?_push_of_some->uD,lt_size->uL,get?_push_size->uP,get?_update_other->wN,get?_update_self->xZ,get?_none_of_le->aD,SameBut->bA,size_push->bE
open Nat renaming le_refl->uF,ne_of_lt->uX,lt_of_lt_of_le->vI,le_trans->vN,lt_of_le_of_lt->vR,zero_le->vY,lt_irrefl->wA,lt_of_succ_lt_succ->xR,strongRecOn->xX,le_succ->aE,lt_or_ge->bH,lt_succ_self->bM,not_lt_zero->bX,sub_self->dL,le_of_lt->fN,lt_succ_of_lt->fZ,le_of_not_lt->gG
open List renaming getElem?_eq_some_iff->uH,range->vC,drop_eq_getElem_cons->wY,length->xA,rel_of_pairwise_cons->aK,map_congr_left->aN,getElem?_cons_zero->aW,getElem?_cons_succ->aY,pairwise_singleton->aZ,replicate->bF,pairwise_map->bI,take_append_drop->bL,lookup->bS,pairwise_cons->cF,getElem_take->cQ,foldl_append->cR,all_map->dI,length_set->dO,length_zip->dP,contains_iff_mem->dR,filterMap_cons->eM,Pairwise->eZ,find?_eq_none->fJ,any_eq_false->fQ,map_nil->fT
open Or renaming inl->uI,inr->aM
open Bool renaming false_ne_true->uJ,and_eq_true->vU,eq_iff_iff->xU,not_eq_true'->cM,false_or->eU,true_or->fX
open PySem.Value renaming ref->uO,none->vT,int->aJ,str->eE,isStrOf->eS,bool->fA
open PySem.AutoSeq1 renaming wpAny_loadPart'->uQ
open PySem.W renaming Frag->uR,mg_none_of->vJ,mg_of->vO,findIn->vS,kia_one->wJ,nsIn->xG,callWith_K->xO,methodCall_KW->bJ,kitOne->cC,Looks->cW,instObj->dA,keepIn->dB,specialIn->eC,plainGet_of->eP,excIn->fK,methodObj->fM,hasDictIn->gD,codeIn->gE
open Option renaming map_eq_some_iff->uU,isSome_map->cN,isSome_iff_exists->cU,map_some->dN
open Option.some renaming inj->uW,injEq->cO
open PySem.PassesOwn renaming never->vA
open PySem.F renaming plainAttrs_list->vB,slot_list_append->vE,type_list_append->vF,slot_dict_valueiterator_next->xI,slot_dict_keyiterator_next->xW,excBase_ValueError->aH,slot_dict_get->dQ,args_dict_valueiterator_next_1->gA,entry_dict_valueiterator_next->gC,args_dict_keyiterator_next_1->gJ
open Sum renaming inr->vG,inl->fL
open PyProof.Rows renaming sortedS->vK,boot_isinstance->vV,callWith_type1->wD,boot_sorted->wS,boot_dict->wV,boot_list->xS,boot_int->yZ,AllBare->cH,envOfC->dD,boot_str->dW,StrsAre->fY
open False renaming elim->vW
open Int renaming emod_lt_of_pos->vX,emod_nonneg->vZ,le_refl->wB,eq_ofNat_of_zero_le->wL,toNat_natCast->xB,fdiv_eq_ediv_of_nonneg->aI,zero_add->dJ
open PySem.Str renaming ofString->wH
open PySem.Obj renaming mapFields->wM,data_mapFields->xP,isFreed_of_fields->bK,mapSeq->fF,cls_mapFields->fV
open Array renaming getElem?_eq_getElem->wO,getElem?_toList->yY,getElem?_eq_some_iff->aG,length_toList->eO,find?_toList->fD,all_eq_true_iff_forall_mem->fW
open True renaming intro->wQ
open ForInStep renaming yield->wZ
open PySem.Around renaming under_plainId->xC
open Ne renaming symm->xF
open PySem.MeetsSeq3 renaming plain_eq_loop->xY,entry_eq_loop->eW
open PySem.Builtin.List renaming listExtendWith->aB,listTooLong->cV
open PyProof.Rows.F renaming plain_set_update_loop->aO,entry_set_update_loop->eQ
open List.cons renaming inj->aP
open Sum.inr renaming inj->aS
open PySem.Builtin.Str renaming occurrences->aT
open PySem.Calls renaming evalArgs_plain->bU,spliced_cons->cD,callWith_builtin->dF,spliced_nil->fS
open PySem.Heap.SameBut renaming update->bZ
open List.Pairwise renaming nil->cK,imp->cP
open Prod.mk renaming inj->cS
open PySem.SeqAt renaming EqAt->dE
open PySem.Builtin.Dict renaming showsAll->dU
open Eq renaming symm->eK
open PySem.Code renaming quiet_builtin->fG
open PySem.SeqAt.EqAt renaming of_refs->fH
open PySem.Builtin.Tuple renaming tupleCompareSizes->gB
open PySem.Data renaming cell->gF
set_option compiler.extract_closed false
set_option Elab.async false
set_option linter.all false
set_option maxRecDepth 100000
theorem gK.{u} {c:Prop} {h:Decidable c} (n:¬c) {α:Sort u} {t e:α}:ite c t e=e:=if_neg n
theorem gL.{u} {c:Prop} {h:Decidable c} (n:c) {α:Sort u} {t e:α}:ite c t e=t:=if_pos n
theorem gM {p:Prop} [i:Decidable p] (h:p):decide p=true:=decide_eq_true h
theorem gO {p:Prop} [i:Decidable p] (h:¬p):decide p=false:=decide_eq_false h
namespace L2
open PySem PySem.Spec PyProof.Rows
abbrev Key:=Sum Int Str
def keyIs:Key->uC->Bool
 | .inl k,v=>Value.isInt k v
 | .inr x,v=>eS x v
def keyH (w:vL):Key->Int
 | .inl k=>hashInt k
 | .inr x=>hashStr w x
theorem qb9:∀{k:Key} {v:uC},keyIs k v=true->(∃i t,k=fL i/\v=aJ i t)\/(∃x t,k=vG x/\v=eE x t)
 | .inl i,v,h=>by
  obtain⟨t,e⟩:=Value.isInt_shape (k:=i) (v:=v) h
  exact .inl ⟨i,t,rfl,e⟩
 | .inr x,v,h=>by
  obtain⟨t,e⟩:=Value.isStrOf_shape (x:=x) (v:=v) h
  exact .inr ⟨x,t,rfl,e⟩
theorem keyIs_int (i:Int) (t:Tok):keyIs (.inl i) (.int i t)=true:=by simp [keyIs,Value.isInt]
theorem keyIs_str (x:Str) (t:Tok):keyIs (.inr x) (.str x t)=true:=by simp [keyIs,eS]
theorem key_ll (a b:Int):decide ((fL a:Key)=fL b)=(a==b):=by
 by_cases e:a=b
 .subst e;simp
 .have h:¬(fL a:Key)=fL b:=fun q=>e (Sum.inl.inj q)
  rw [gO h]
  exact(beq_eq_false_iff_ne.mpr e).symm
theorem key_rr (a b:Str):decide ((vG a:Key)=vG b)=decide (a=b):=by
 by_cases e:a=b
 .subst e;simp
 .have h:¬(vG a:Key)=vG b:=fun q=>e (aS q)
  rw [gO h,gO e]
theorem key_lr (a:Int) (b:Str):decide ((fL a:Key)=vG b)=false:=gO (fun q=>nomatch q)
theorem key_rl (a:Str) (b:Int):decide ((vG a:Key)=fL b)=false:=gO (fun q=>nomatch q)
def qbc (prog:uY) (w:vL):PySem.KeyKind prog w Key where
 is:=keyIs
 hash:=keyH w
 inj:=fun v a b ha hb=>by
  rcases qb9 ha with ⟨i,t,rfl,rfl⟩ |⟨x,t,rfl,rfl⟩
  .rcases qb9 hb with ⟨j,u,rfl,e⟩ |⟨y,u,rfl,e⟩
   .injection e with e1 _;rw [e1]
   .exact nomatch e
  .rcases qb9 hb with ⟨j,u,rfl,e⟩ |⟨y,u,rfl,e⟩
   .exact nomatch e
   .injection e with e1 _;rw [e1]
 byValue:=fun k v h=>by
  rcases qb9 h with ⟨i,t,rfl,rfl⟩ |⟨x,t,rfl,rfl⟩ <;> rfl
 pyHash:=fun hv h=>by
  rcases qb9 hv with ⟨i,t,rfl,rfl⟩ |⟨x,t,rfl,rfl⟩
  .exact wpAny_pyHash_int h
  .exact wpAny_pyHash_str h
 eqBool:=fun hu hv h=>by
  rcases qb9 hu with ⟨i,t,rfl,rfl⟩ |⟨x,t,rfl,rfl⟩
  .rcases qb9 hv with ⟨j,u,rfl,rfl⟩ |⟨y,u,rfl,rfl⟩
   .rw [key_ll] at h;exact wpAny_eqBool_int h
   .rw [key_lr] at h;exact SeqAt.EqAt.int_str i t y u _ _ _ _ h
  .rcases qb9 hv with ⟨j,u,rfl,rfl⟩ |⟨y,u,rfl,rfl⟩
   .rw [key_rl] at h;exact SeqAt.EqAt.str_int x t j u _ _ _ _ h
   .rw [key_rr] at h;exact wpAny_eqBool_str h
 «strs»:=fun k x t v h=>by
  rcases qb9 h with ⟨i,u,rfl,e⟩ |⟨y,u,rfl,e⟩
  .exact nomatch e
  .injection e with e1 _
   subst e1
   cases v <;> rfl
theorem mixKind_int (prog:uY) (w:vL) (i:Int) (t:Tok):(qbc prog w).is (.inl i) (.int i t)=true:=keyIs_int i t
theorem mixKind_str (prog:uY) (w:vL) (x:Str) (t:Tok):(qbc prog w).is (.inr x) (.str x t)=true:=keyIs_str x t
inductive V where
 |non|bl (b:Bool) |int (i:Int) |str (x:Str) |byt (b:Array UInt8) |flt (b:UInt64) |ref (a:Addr) |ty (n:String)
 deriving DecidableEq
def qbb:V->uC->Prop
 | .non,u=>u=vT
 | .bl b,u=>u=fA b
 | .int i,u=>∃t,u=aJ i t
 | .str x,u=>∃t,u=eE x t
 | .byt b,u=>∃t,u=Value.bytes b t
 | .flt b,u=>∃t,u=Value.float b t
 | .ref a,u=>u=uO a
 | .ty n,u=>u=Value.type n
abbrev qba:List V->List uC->Prop:=Paired qbb
theorem qba.length {xs:List V} {us:List uC} (r:qba xs us):xs.length=us.length:=Paired.length r
theorem qba.get:∀{xs:List V} {us:List uC} {i:Nat} {x:V},qba xs us->xs[i]?=some x->∃u,us[i]?=some u/\qbb x u
 |_,_,_,_,.nil,e=>by simp at e
 |_,_,0,_,.cons r _,e=>by simp at e;subst e;exact⟨_,rfl,r⟩
 |_,_,i+1,x,.cons _ t,e=>by
  obtain⟨u,h1,h2⟩:=qba.get (i:=i) (x:=x) t (by simpa using e)
  exact⟨u,by simpa using h1,h2⟩
theorem qba.set {x:V} {u:uC} (r:qbb x u):∀{xs:List V} {us:List uC} (i:Nat),qba xs us->qba (xs.set i x) (us.set i u)
 |_,_,_,.nil=> .nil
 |_,_,0,.cons _ t=> .cons r t
 |_,_,i+1,.cons q t=> .cons q (qba.set r i t)
theorem qba.append:∀{xs ys:List V} {us ws:List uC},qba xs us->qba ys ws->qba (xs++ys) (us++ws)
 |_,_,_,_,.nil,s=>s
 |_,_,_,_,.cons r t,s=> .cons r (qba.append t s)
theorem qba.take:∀{xs:List V} {us:List uC} (n:Nat),qba xs us->qba (xs.take n) (us.take n)
 |_,_,0,_=> .nil
 |_,_,_+1,.nil=> .nil
 |_,_,n+1,.cons r t=> .cons r (qba.take n t)
theorem qba.drop:∀{xs:List V} {us:List uC} (n:Nat),qba xs us->qba (xs.drop n) (us.drop n)
 |_,_,0,r=>r
 |_,_,_+1,.nil=> .nil
 |_,_,n+1,.cons _ t=>qba.drop n t
def qg9:Option V->Option uC->Prop
 |some v,some u=>qbb v u
 |none,none=>True
 |_,_=>False
def KV {κ:Type}:List (κ × V)->List (κ × uC)->Prop:=Paired fun(p:κ × V) (q:κ × uC)=>p.1=q.1/\qbb p.2 q.2
def kV:Key->V
 | .inl i=> .int i
 | .inr x=> .str x
inductive HO where
 |lst (xs:List V)
 |tup (xs:List V)
 |dK (kvs:List (Key × V)) |dT (kvs:List (List Key × V))
 |set (S:Int->Bool) (n:Nat)
 |ins (C dx:Addr) (fs:List (Str × V))
 |own (x:Addr)
 |xd (fs:List (Str × V))
 |met (f x:Addr)
 |rng (lo hi:Int)
 |frz (o:Obj) (u:HO)
 |tbl (ps:Array uC)
 |ext (φ:vP->Prop)
abbrev Hp:=Addr->Option HO
def upd (H:Hp) (a:Addr) (o:HO):Hp:=fun b=>if b=a then some o else H b
theorem qa1 {H:Hp} {a:Addr} {o:HO}:upd H a o a=some o:=by unfold upd;rw [gL rfl]
theorem qa6 {H:Hp} {a b:Addr} {o:HO} (h:b≠a):upd H a o b=H b:=by unfold upd;rw [gK h]
theorem qbi {H:Hp} {a:Addr} {o u:HO}:upd (upd H a o) a u=upd H a u:=by
 funext b;unfold upd;split <;> rfl
theorem ne_of {H:Hp} {a b:Addr} {o u:HO} (h:H a=some o) (h':H b=some u) (d:o≠u):a≠b:=by
 intro e;subst e;rw [h] at h';exact d (uW h')
theorem qa8 {H:Hp} {a b:Addr} {o:HO} (h:H a=some o) (h':H b=none):a≠b:=by
 intro e;subst e;rw [h] at h';cases h'
section
variable (P: uY) (w: vL)
def qbh (H:Hp) (h:vP) (a:Addr):HO->Prop
 | .lst xs=>xs.length<=sizeLine/\∃(its:List uC) (n:Nat),qba xs its/\h.get? a=some {cls:=.type "list",data:=.seq its.toArray n}
 | .tup xs=>xs.length<=sizeLine/\∃its:List uC,qba xs its/\IsTup h a its.toArray
 | .dK kvs=>kvs.length<=sizeLine/\(a==wP)=false/\∃vs,KV kvs vs/\h.DictOf (qbc P w) a vs
 | .dT kvs=>kvs.length<=sizeLine/\(a==wP)=false/\∃xs:List (List Key × Addr × uC),
   Paired (fun(p:List Key × V) (q:List Key × Addr × uC)=>p.1=q.1/\H q.2.1=some (.tup (p.1.map kV))/\qbb p.2 q.2.2) kvs xs/\
   ∃o es ep,h.get? a=some o/\o.ExactDict/\o.data=.dict es ep/\es.toList=xs.map (entryOfKey (cB (qbc P w)))/\(xs.map (·.1)).Nodup
 | .set S n=>h.SetOf (intKind P w) a S n
 | .ins C dx fs=>H dx=some (.own a)/\fs.length<=1000/\dx≠a/\h.get? a=some (dA C dx)/\
   ∃mA,h.Ns1 dx mA/\(∀f,qg9 (fs.lookup f) (mA f))/\PySem.Within mA (fs.map (·.1))
 | .own _=>∃o,h.get? a=some o
 | .xd fs=>∃mA,h.Ns1 a mA/\∀f,qg9 (fs.lookup f) (mA f)
 | .rng lo hi=>∃t u v,h.get? a=some {cls:=.type "range",data:=.fields #[.int lo t,.int hi u,.int 1 v]}
 | .frz o u=>h.get? a=some o/\qbh H h a u
 | .tbl ps=>h.get? a=some {cls:=.none,data:=.fields ps}
 | .met f x=>h.get? a=some (fM (.ref f) (.ref x))
 | .ext φ=>φ h/\(∃o,h.get? a=some o)/\∀h1 h2:vP,φ h1->(∀o,h1.get? a=some o->h2.get? a=some o)->φ h2
def HOk (H:Hp) (h:vP):Prop:=∀a o,H a=some o->qbh P w H h a o
end
section
variable {P: uY} {w: vL} {H H': Hp} {h h': vP} {a: Addr} {o: HO}
theorem qbh.lt (x:qbh P w H h a o):a < h.objs.size:=by
 cases o with
 |lst xs=>obtain⟨_,_,_,_,e⟩:=x;exact uL e
 |tup xs=>obtain⟨_,_,_,p⟩:=x;exact p.lt
 |dK kvs=>obtain⟨_,_,_,_,o,_,_,e,_⟩:=x;exact uL e
 |dT kvs=>obtain⟨_,_,_,_,o,_,_,e,_⟩:=x;exact uL e
 |set S n=>obtain⟨o,_,_,_,e,_⟩:=x;exact uL e
 |ins C dx fs=>obtain⟨_,_,_,e,_⟩:=x;exact uL e
 |own y=>obtain⟨_,e⟩:=x;exact uL e
 |xd fs=>obtain⟨_,⟨_,_,_,e,_⟩,_⟩:=x;exact uL e
 |rng lo hi=>obtain⟨_,_,_,e⟩:=x;exact uL e
 |frz ob u=>obtain⟨e,_⟩:=x;exact uL e
 |tbl ps=>exact uL (show h.get? a=some _ from x)
 |met f y=>exact uL (show h.get? a=some _ from x)
 |ext φ=>obtain⟨_,⟨_,e⟩,_⟩:=x;exact uL e
theorem Paired.mapP {α β:Type} {F G:α->β->Prop}:∀{l₁:List α} {l₂:List β},Paired F l₁ l₂->(∀a b,F a b->G a b)->Paired G l₁ l₂
 |_,_,.nil,_=> .nil
 |_,_,.cons r t,f=> .cons (f _ _ r) (Paired.mapP t f)
theorem qbh.stay (x:qbh P w H h a o) (k:∀b u,(b=a\/H b=some (.own a))->h.get? b=some u->h'.get? b=some u)
  (ho:∀b,H b=some (.own a)->H' b=some (.own a)) (ht:∀b xs,H b=some (.tup xs)->H' b=some (.tup xs)):qbh P w H' h' a o:=by
 induction o with
 |lst xs=>obtain⟨z,its,n,r,e⟩:=x;exact⟨z,its,n,r,k _ _ (.inl rfl) e⟩
 |tup xs=>obtain⟨z,its,r,ob,e,c⟩:=x;exact⟨z,its,r,ob,k _ _ (.inl rfl) e,c⟩
 |dK kvs=>obtain⟨z,y,vs,r,ob,es,ep,e,c⟩:=x;exact⟨z,y,vs,r,ob,es,ep,k _ _ (.inl rfl) e,c⟩
 |dT kvs=>
  obtain⟨z,y,xs,r,ob,es,ep,e,c⟩:=x
  exact⟨z,y,xs,Paired.mapP r fun p q z=>⟨z.1,ht _ _ z.2.1,z.2.2⟩,ob,es,ep,k _ _ (.inl rfl) e,c⟩
 |set S n=>obtain⟨ob,es,ep,t,e,c⟩:=x;exact⟨ob,es,ep,t,k _ _ (.inl rfl) e,c⟩
 |ins C dx fs=>
  obtain⟨d,z,ne,e,mA,⟨od,es,ep,e2,c⟩,r⟩:=x
  exact⟨ho _ d,z,ne,k _ _ (.inl rfl) e,mA,⟨od,es,ep,k _ _ (.inr d) e2,c⟩,r⟩
 |own y=>obtain⟨ob,e⟩:=x;exact⟨ob,k _ _ (.inl rfl) e⟩
 |xd fs=>obtain⟨mA,⟨od,es,ep,e,c⟩,r⟩:=x;exact⟨mA,⟨od,es,ep,k _ _ (.inl rfl) e,c⟩,r⟩
 |rng lo hi=>obtain⟨t,u,v,e⟩:=x;exact⟨t,u,v,k _ _ (.inl rfl) e⟩
 |frz ob u ih=>obtain⟨e,q⟩:=x;exact⟨k _ _ (.inl rfl) e,ih q⟩
 |tbl ps=>
  have e:h.get? a=some {cls:=.none,data:=.fields ps}:=x
  show h'.get? a=some {cls:=.none,data:=.fields ps}
  exact k a _ (.inl rfl) e
 |met f y=>
  have e:h.get? a=some (fM (.ref f) (.ref y)):=x
  show h'.get? a=some (fM (.ref f) (.ref y))
  exact k a _ (.inl rfl) e
 |ext φ=>obtain⟨p,⟨o,e⟩,st⟩:=x;exact⟨st _ _ p fun o q=>k _ _ (.inl rfl) q,⟨o,k _ _ (.inl rfl) e⟩,st⟩
theorem HOk.lt (x:HOk P w H h) (e:H a=some o):a < h.objs.size:=(x a o e).lt
theorem HOk.fresh (x:HOk P w H h) (e:h.objs.size<=a):H a=none:=by
 cases q:H a with
 |none=>rfl
 |some u=>exact absurd (vI (x.lt q) e) (wA _)
theorem HOk.kept (x:HOk P w H h) (k:∀b u,h.get? b=some u->h'.get? b=some u):HOk P w H h':=fun a o e=>
 (x a o e).stay (fun b u _ q=>k b u q) (fun _ q=>q) fun _ _ q=>q
theorem HOk.laid (x:HOk P w H h) (k:∀b u,h.get? b=some u->h'.get? b=some u) (hp:h.objs.size<=a) (new:qbh P w (upd H a o) h' a o):HOk P w (upd H a o) h':=fun b u e=>by
 have hn:=x.fresh hp
 by_cases hb:b=a
 .subst hb;rw [qa1] at e;cases e;exact new
 .rw [qa6 hb] at e
  exact(x b u e).stay (fun c v _ q=>k c v q) (fun c q=>by rw [qa6 (qa8 q hn)];exact q) fun c xs q=>by rw [qa6 (qa8 q hn)];exact q
end
def Rd (H:Hp) (a:Addr) (u:HO):Prop:=H a=some u\/∃o,H a=some (.frz o u)
theorem Rd.of {H:Hp} {a:Addr} {u:HO} (h:H a=some u):Rd H a u:=.inl h
theorem Rd.ok {P:uY} {w:vL} {H:Hp} {h:vP} {a:Addr} {u:HO} (r:Rd H a u) (x:HOk P w H h):qbh P w H h a u:=by
 rcases r with r|⟨o,r⟩
 .exact x a u r
 .obtain⟨_,q⟩:=x a _ r
  exact q
def Mut:Option HO->Prop
 |some (.lst _)=>True
 |some (.dK _)=>True
 |some (.dT _)=>True
 |some (.set _ _)=>True
 |some (.ins _ _ _)=>True
 |some (.ext _)=>True
 |_=>False
section
variable {P: uY} {w: vL} {H: Hp} {h h': vP} {x e: Addr} {o': HO}
theorem HOk.write (ok:HOk P w H h) (mu:Mut (H x)) (he:e=x\/H e=some (.own x)) (k:∀b u,b≠e->h.get? b=some u->h'.get? b=some u) (heo:∃u,h'.get? e=some u)
  (new:qbh P w (upd H x o') h' x o'):HOk P w (upd H x o') h':=fun b u q=>by
 have nown:∀c y,H c=some (.own y)->c≠x:=fun c y r z=>by subst z;rw [r] at mu;exact mu
 have ntup:∀c xs,H c=some (.tup xs)->c≠x:=fun c xs r z=>by subst z;rw [r] at mu;exact mu
 by_cases hb:b=x
 .subst hb;rw [qa1] at q;cases q;exact new
 .rw [qa6 hb] at q
  by_cases hbe:b=e
  .have q':H b=some (.own x):=by
    rcases he with z|z
    .exact absurd (hbe.trans z) hb
    .rw [hbe];exact z
   rw [q] at q';cases q'
   obtain⟨v,hv⟩:=heo
   exact⟨v,by rw [hbe];exact hv⟩
  .refine(ok b u q).stay (fun c v hc r=>k c v ?_ r) (fun c r=>by rw [qa6 (nown c b r)];exact r) fun c xs r=>by rw [qa6 (ntup c xs r)];exact r
   rcases hc with rfl|hc
   .exact hbe
   .rintro rfl
    rcases he with z|z
    .exact nown c b hc z
    .rw [hc] at z;cases z;exact hb rfl
end
structure Un (fs ex:List Addr) (H H':Hp) (h h':vP):Prop where
 keep:∀b o,h.get? b=some o->H b=none->b∉fs->b∉ex->h'.get? b=some o
 slot:∀b o,h.get? b=some o->H b=none->b∈fs->b∉ex->∃sl,h'.get? b=some {o with slots:=sl}
 free:∀b o,h.get? b=some o->H b=none->b∉ex->H' b=none
 there:∀b o,h.get? b=some o->b∉ex->∃o',h'.get? b=some o'
 tups:∀b xs,H b=some (.tup xs)->H' b=some (.tup xs)
 frzs:∀b o u,H b=some (.frz o u)->H' b=some (.frz o u)
 tbls:∀b ps,H b=some (.tbl ps)->∃more,H' b=some (.tbl (ps++more))
section
variable {fs ex: List Addr} {H H1: Hp} {h h1 h': vP} {a x e: Addr} {o: HO}
theorem Un.any (u:Un fs ex H H1 h h1) {b:Addr} {ob:Obj} (q:h.get? b=some ob) (n:H b=none) (hx:b∉ex):∃sl,h1.get? b=some {ob with slots:=sl}:=by
 by_cases hb:b∈fs
 .exact u.slot b ob q n hb hx
 .exact⟨ob.slots,u.keep b ob q n hb hx⟩
theorem Un.kept (k:∀b u,h.get? b=some u->h'.get? b=some u):Un fs ex H H h h':=
 ⟨fun b ob q _ _ _=>k b ob q,fun b ob q _ _ _=>⟨ob.slots,k b ob q⟩,fun _ _ _ n _=>n,fun b ob q _=>⟨ob,k b ob q⟩,fun _ _ q=>q,fun _ _ _ q=>q,fun _ ps q=>⟨#[],by rw [q];simp⟩⟩
theorem Un.refl:Un fs ex H H h h:=Un.kept fun _ _ q=>q
theorem Un.laid (k:∀b u,h.get? b=some u->h'.get? b=some u) (hp:h.objs.size<=a) (hn:H a=none):Un fs ex H (upd H a o) h h' where
 keep:=fun b u q _ _ _=>k b u q
 slot:=fun b u q _ _ _=>⟨u.slots,k b u q⟩
 free:=fun b u q n _=>by rw [qa6 (uX (vI (uL q) hp))];exact n
 there:=fun b u q _=>⟨u,k b u q⟩
 tups:=fun b xs q=>by rw [qa6 (qa8 q hn)];exact q
 frzs:=fun b u xs q=>by rw [qa6 (qa8 q hn)];exact q
 tbls:=fun b ps q=>⟨#[],by rw [qa6 (qa8 q hn),q];simp⟩
theorem Un.write (mu:Mut (H x)) (he:e=x\/H e=some (.own x)) (k:∀b u,b≠e->h.get? b=some u->h'.get? b=some u) (heo:∃u,h'.get? e=some u):Un fs ex H (upd H x o) h h':=by
 have hx:∀b,H b=none->b≠x:=fun b n z=>by subst z;rw [n] at mu;exact mu
 have hb:∀b,H b=none->b≠e:=fun b n z=>by
  subst z
  rcases he with r|r
  .exact hx b n r
  .rw [n] at r;cases r
 have hm:∀b u,H b=some u->¬Mut (some u)->b≠x:=fun b u q nm z=>by subst z;rw [q] at mu;exact nm mu
 refine⟨fun b u q n _ _=>k b u (hb b n) q,fun b u q n _ _=>⟨u.slots,k b u (hb b n) q⟩,fun b u q n _=>by rw [qa6 (hx b n)];exact n,fun b u q _=>?_,
  fun b xs q=>by rw [qa6 (hm b _ q fun z=>z)];exact q,fun b u xs q=>by rw [qa6 (hm b _ q fun z=>z)];exact q,fun b ps q=>⟨#[],by rw [qa6 (hm b _ q fun z=>z),q];simp⟩⟩
 by_cases hbe:b=e
 .subst hbe;exact heo
 .exact⟨u,k b u hbe q⟩
end
def trk (h:vP) (H:Hp):List Addr:=(vC h.objs.size).filter fun a=>(H a).isSome
def hidT (h:vP) (H:Hp):vP:=PySem.W.hideAll h (trk h H)
theorem hidT_size (h:vP) (H:Hp):(hidT h H).objs.size=h.objs.size:=PySem.W.hideAll_size _ _
theorem hidT_get {h:vP} {H:Hp} {b:Addr} {o:Obj} (e:h.get? b=some o) (n:H b=none):(hidT h H).get? b=some o:=
 PySem.W.hideAll_get _ e fun hm=>by
  have q:(H b).isSome=true:=(yH.mp hm).2
  rw [n] at q;simp at q
theorem of_hidT {h:vP} {H:Hp} {b:Addr} {o:Obj} (e:(hidT h H).get? b=some o):h.get? b=some o/\H b=none:=by
 have e':h.get? b=some o:=PySem.W.of_hideAll (trk h H) e
 refine⟨e',?_⟩
 cases q:H b with
 |none=>rfl
 |some x=>
  have hm:b∈trk h H:=yH.mpr ⟨yT.mpr (uL e'),by simp [q]⟩
  have z:(hidT h H).get? b=none:=PySem.W.hideAll_none (trk h H) hm
  rw [z] at e;cases e
def allNews (g h:vP) (L:Addr):List (Addr × Obj):=(vC h.objs.size).filterMap fun a=>if a=L\/(g.get? a).isSome=true then none else (h.get? a).map fun o=>(a,o)
def rest (g h:vP) (L d:Addr):List (Addr × Obj):=(allNews g h L).filter fun p=>decide (p.1≠d)
structure Mod (K:uR) (mg:Str->Option uC) (base:vP):Prop where
 kin:K.In base
 glob:base.Ns uT mg
 blt:∃mb,base.Ns builtinsNs mb/\∀x:Str,x≠"__name__"->mb x=xM x
 nolimit:base.NoLimit
structure Cx where
 prog:uY
 w:vL
 K:uR
 mg:Str->Option uC
 base:vP
 A:vM
 N:List Str
 s₀:uE
 H₀:Hp
 env:Env
 outer:List Env
 stack:List Env
 ex:List Addr
 fn:Str->Bool
 calm:Bool
 pn:List (Addr × Obj)
 xe:uC->uE->Prop
def frs (l:List Env):List Addr:=l.filterMap (·.frame)
abbrev Cx.fs (X:Cx):List Addr:=frs X.outer
def Vis (sc:bY) (x:Str):Prop:=sc.names.lookup x=some .local\/sc.names.lookup x=some .cell\/sc.names.lookup x=some .free
def Loc (sc:bY) (x:Str):Prop:=sc.names.lookup x=some .local\/sc.names.lookup x=some .cell
def Look (env:Env) (h:vP) (m:Str->Option uC) (x:Str) (u:uC):Prop:=
 (env.kindOf x=some .local/\m x=some u)\/((env.kindOf x=some .cell\/env.kindOf x=some .free)/\∃c,env.cells.lookup x=some c/\h.IsCell c (some u))
structure Cx.Ok (X:Cx):Prop where
 mod:Mod X.K X.mg X.base
 kind:X.env.scope.kind=.function
 glob:X.env.globals=uT
 blt:X.env.builtins=builtinsNs
 above:X.s₀.heap.objs.size<=X.env.locals
 inj:∀x y c,X.env.cells.lookup x=some c->X.env.cells.lookup y=some c->x=y
 has:∀x,(X.env.kindOf x=some .cell\/X.env.kindOf x=some .free)->∃c,X.env.cells.lookup x=some c
 cab:∀x c,X.fn x=true->X.env.cells.lookup x=some c->X.s₀.heap.objs.size<=c
 hd:X.calm=true->X.A.handled=none
 frames:X.A.frames=some X.stack
 stk:X.stack=X.outer\/(X.stack=X.env :: X.outer/\X.env.frame=some X.env.locals)
 exf:∀b∈X.ex,b≠X.env.locals/\∀x c,X.env.cells.lookup x=some c->c≠b
 bs:∀b o,X.base.get? b=some o->X.s₀.heap.get? b=some o/\X.H₀ b=none
 bsz:X.base.objs.size<=X.s₀.heap.objs.size
 noex:∀b o,X.base.get? b=some o->b∉X.ex
 exfs:∀b∈X.ex,b∉X.fs
 funs:X.s₀.heap.FunFrames X.base X.outer
 frf:∀b∈X.fs,X.H₀ b=none
structure Inv (X:Cx) (pins:List (Addr × Obj)) (σ:List (Option V)) (H:Hp) (s:uE):Prop where
 ok:X.Ok
 os:s.os=X.s₀.os
 bare:cH s.gens
 base:Un X.fs X.ex X.H₀ H X.s₀.heap s.heap
 loc:∃m,s.heap.Ns X.env.locals m/\∀(i:Nat) (x:Str) (v:V),X.N[i]?=some x->σ[i]?=some (some v)->Vis X.env.scope x->∃u,qbb v u/\Look X.env s.heap m x u
 cell:∀x c,X.env.cells.lookup x=some c->∃v,s.heap.IsCell c v
 free:H X.env.locals=none
 freeC:∀x c,X.env.cells.lookup x=some c->H c=none
 pin:∀p∈X.pn++pins,s.heap.get? p.1=some p.2/\H p.1=none/\p.1≠X.env.locals/\p.1∉X.fs/\∀v,p.2.data≠ .cell v
 hok:HOk X.prog X.w H s.heap
 len:σ.length=X.N.length
section
variable {X: Cx} {pins: List (Addr × Obj)} {σ: List (Option V)} {H H': Hp} {s: uE} {h': vP}
theorem Cx.Ok.nofr (ok:X.Ok) {b:Addr} {o:Obj} (e:X.base.get? b=some o):b∉X.fs:=fun hb=>by
 have:=(ok.funs.mem hb).1
 rw [e] at this;cases this
theorem Inv.bs (I:Inv X pins σ H s):∀b o,X.base.get? b=some o->s.heap.get? b=some o/\H b=none:=fun b o e=>
 ⟨I.base.keep b o (I.ok.bs b o e).1 (I.ok.bs b o e).2 (I.ok.nofr e) (I.ok.noex b o e),I.base.free b o (I.ok.bs b o e).1 (I.ok.bs b o e).2 (I.ok.noex b o e)⟩
theorem Inv.bk (I:Inv X pins σ H s):∀b o,X.base.get? b=some o->s.heap.get? b=some o:=fun b o e=>(I.bs b o e).1
theorem Inv.mod (I:Inv X pins σ H s):Mod X.K X.mg X.base:=I.ok.mod
theorem Inv.kIn (I:Inv X pins σ H s):X.K.In s.heap:=I.ok.mod.kin.keeps I.bk
theorem Inv.lt (I:Inv X pins σ H s):X.env.locals < s.heap.objs.size:=let ⟨_,hn,_⟩:=I.loc;hn.lt
theorem Inv.sz (I:Inv X pins σ H s):X.s₀.heap.objs.size<=s.heap.objs.size:=vN I.ok.above (fN I.lt)
theorem Inv.nofs (I:Inv X pins σ H s) {a:Addr} (h:s.heap.objs.size<=a):a∉X.fs:=fun hb=>by
 obtain⟨_,o,ho,_⟩:=I.ok.funs.mem hb
 exact absurd (vI (uL ho) (vN I.sz h)) (wA _)
theorem Inv.cne (I:Inv X pins σ H s):∀x c,X.env.cells.lookup x=some c->c≠X.env.locals:=fun x c e z=>by
 obtain⟨v,o,ho,hd⟩:=I.cell x c e
 obtain⟨m,⟨o',es,ep,ho',hd',_⟩,_⟩:=I.loc
 rw [z,ho'] at ho;cases ho;rw [hd'] at hd;cases hd
theorem Inv.funs (I:Inv X pins σ H s):s.heap.FunFrames X.base X.outer:=by
 have all:∀(l:List Env),(∀b∈frs l,b∈X.fs)->X.s₀.heap.FunFrames X.base l->s.heap.FunFrames X.base l:=by
  intro l
  induction l with
  |nil=>intro _ _;trivial
  |cons env r ih=>
   intro hs hl
   obtain⟨hk,⟨L,o,hf,hn,ho,hd⟩,hr⟩:=hl
   have hL:L∈X.fs:=hs L (by unfold frs;rw [eM,hf];exact zN)
   obtain⟨sl,e⟩:=I.base.slot L o ho (I.ok.frf L hL) hL fun z=>I.ok.exfs L z hL
   exact⟨hk,⟨L,_,hf,hn,e,hd⟩,ih (fun b hb=>hs b (by unfold frs;rw [eM,hf];exact zH _ hb)) hr⟩
 exact all X.outer (fun _ hb=>hb) I.ok.funs
theorem Inv.stack (I:Inv X pins σ H s):s.heap.FunFrames X.base X.stack:=by
 rcases I.ok.stk with e|⟨e,hf⟩
 .rw [e];exact I.funs
 .rw [e]
  obtain⟨m,hn,_⟩:=I.loc
  refine .cons (by rw [I.ok.kind];decide) hf hn ?_ I.funs
  exact aD (vN I.ok.bsz I.ok.above)
theorem Inv.stkSub (I:Inv X pins σ H s):∀b∈frs X.stack,b∈X.env.locals :: X.fs:=fun b hb=>by
 rcases I.ok.stk with e|⟨e,hf⟩
 .rw [e] at hb;exact zH _ hb
 .rw [e] at hb
  unfold frs at hb
  rw [eM,hf] at hb
  exact hb
theorem Inv.stkFree (I:Inv X pins σ H s):∀b∈frs X.stack,H b=none:=fun b hb=>by
 rcases zM.mp (I.stkSub b hb) with e|hb
 .rw [e];exact I.free
 .obtain⟨_,o,ho,_⟩:=I.ok.funs.mem hb
  exact I.base.free b o ho (I.ok.frf b hb) fun z=>I.ok.exfs b z hb
theorem Inv.step {g':Array GenState} {t':Nat} {d':Drawn} {ch:List Addr} (I:Inv X pins σ H s)
  (hch:∀b∈ch,(b∈X.ex\/X.s₀.heap.objs.size<=b)/\b≠X.env.locals/\(∀x c,X.env.cells.lookup x=some c->c≠b)/\∀p∈X.pn++pins,p.1≠b)
  (keep:∀b o,b≠X.env.locals->b∉X.fs->b∉ch->s.heap.get? b=some o->H b=none->h'.get? b=some o)
  (slot:∀b o,b≠X.env.locals->b∈X.fs->b∉ch->s.heap.get? b=some o->H b=none->∃sl,h'.get? b=some {o with slots:=sl}) (free:∀b o,b∉ch->s.heap.get? b=some o->H b=none->H' b=none)
  (there:∀b o,b∉ch->s.heap.get? b=some o->∃o',h'.get? b=some o')
  (tups:∀b xs,H b=some (.tup xs)->H' b=some (.tup xs)) (frzs:∀b o u,H b=some (.frz o u)->H' b=some (.frz o u)) (tbls:∀b ps,H b=some (.tbl ps)->∃more,H' b=some (.tbl (ps++more)))
  (ns:∀m,s.heap.Ns X.env.locals m->h'.Ns X.env.locals m) (hok:HOk X.prog X.w H' h') (hg:cH g'):
  Inv X pins σ H' {s with heap:=h',gens:=g',drawn:=d',toks:=t'}:=by
 have neL:∀b o,X.s₀.heap.get? b=some o->b≠X.env.locals:=fun b o e=>uX (vI (uL e) I.ok.above)
 have neC:∀b o,X.s₀.heap.get? b=some o->b∉X.ex->b∉ch:=fun b o e hx hb=>by
  rcases(hch b hb).1 with z|z
  .exact hx z
  .exact absurd (vI (uL e) z) (wA _)
 have cellK:∀x c,X.env.cells.lookup x=some c->∀v,s.heap.IsCell c v->h'.IsCell c v:=fun x c e v ⟨o,ho,hd⟩=>by
  have nch:c∉ch:=fun z=>(hch c z).2.2.1 x c e rfl
  by_cases hc:c∈X.fs
  .obtain⟨sl,q⟩:=slot c o (I.cne x c e) hc nch ho (I.freeC x c e)
   exact⟨_,q,hd⟩
  .exact⟨o,keep c o (I.cne x c e) hc nch ho (I.freeC x c e),hd⟩
 refine⟨I.ok,I.os,hg,⟨fun b o e n hb hx=>?_,fun b o e n hb hx=>?_,fun b o e n hx=>?_,fun b o e hx=>?_,fun b xs e=>tups b xs (I.base.tups b xs e),fun b o xs e=>frzs b o xs (I.base.frzs b o xs e),fun b ps e=>?_⟩,?_,fun x c e=>?_,?_,fun x c e=>?_,fun p hp=>?_,hok,I.len⟩
 .exact keep b o (neL b o e) hb (neC b o e hx) (I.base.keep b o e n hb hx) (I.base.free b o e n hx)
 .obtain⟨sl,e1⟩:=I.base.slot b o e n hb hx
  obtain⟨sl',e2⟩:=slot b _ (neL b o e) hb (neC b o e hx) e1 (I.base.free b o e n hx)
  exact⟨sl',e2⟩
 .obtain⟨o',e1⟩:=I.base.there b o e hx
  exact free b o' (neC b o e hx) e1 (I.base.free b o e n hx)
 .obtain⟨o',e1⟩:=I.base.there b o e hx
  exact there b o' (neC b o e hx) e1
 .obtain⟨m1,e1⟩:=I.base.tbls b ps e
  obtain⟨m2,e2⟩:=tbls b _ e1
  exact⟨m1++m2,by rw [e2,Array.append_assoc]⟩
 .obtain⟨m,hn,hl⟩:=I.loc
  refine⟨m,ns m hn,fun i x v e1 e2 e3=>?_⟩
  obtain⟨u,r,l⟩:=hl i x v e1 e2 e3
  refine⟨u,r,?_⟩
  rcases l with l|⟨k,c,e,z⟩
  .exact .inl l
  .exact .inr ⟨k,c,e,cellK x c e _ z⟩
 .obtain⟨v,z⟩:=I.cell x c e
  exact⟨v,cellK x c e v z⟩
 .obtain⟨m,⟨o,_,_,ho,_⟩,_⟩:=I.loc
  exact free _ o (fun z=>(hch _ z).2.1 rfl) ho I.free
 .obtain⟨v,o,ho,hd⟩:=I.cell x c e
  exact free c o (fun z=>(hch c z).2.2.1 x c e rfl) ho (I.freeC x c e)
 .obtain⟨e,n,ne,nf,d⟩:=I.pin p hp
  have nch:p.1∉ch:=fun z=>(hch p.1 z).2.2.2 p hp rfl
  exact⟨keep p.1 p.2 ne nf nch e n,free p.1 p.2 nch e n,ne,nf,d⟩
theorem Inv.un {t':Nat} (I:Inv X pins σ H s) (u:Un X.fs [] H H' s.heap h') (hok:HOk X.prog X.w H' h'):Inv X pins σ H' {s with heap:=h',toks:=t'}:=by
 obtain⟨m,⟨o,es,ep,ho,r⟩,_⟩:=id I.loc
 obtain⟨sl,hL⟩:=u.any ho I.free (by simp)
 exact I.step (g':=s.gens) (d':=s.drawn) (ch:=[]) (fun _ z=>nomatch z) (fun b o _ hb _ e n=>u.keep b o e n hb (by simp)) (fun b o _ hb _ e n=>u.slot b o e n hb (by simp)) (fun b o _ e n=>u.free b o e n (by simp)) (fun b o _ e=>u.there b o e (by simp)) u.tups u.frzs u.tbls (fun m' hm=>by
  obtain⟨o',es',ep',ho',r'⟩:=hm
  rw [ho] at ho';cases ho'
  exact⟨_,es',ep',hL,r'⟩) hok I.bare
theorem Inv.call {g':Array GenState} {t':Nat} {d':Drawn} {ch:List Addr} (I:Inv X pins σ H s) (u:Un (frs X.stack) ch H H' s.heap h') (hok:HOk X.prog X.w H' h') (hg:cH g')
  (hch:∀b∈ch,(b∈X.ex\/X.s₀.heap.objs.size<=b)/\b≠X.env.locals/\(∀x c,X.env.cells.lookup x=some c->c≠b)/\∀p∈X.pn++pins,p.1≠b):
  Inv X pins σ H' {s with heap:=h',gens:=g',drawn:=d',toks:=t'}:=by
 obtain⟨m,⟨o,es,ep,ho,r⟩,_⟩:=id I.loc
 obtain⟨sl,hL⟩:=u.any ho I.free fun z=>(hch _ z).2.1 rfl
 exact I.step (ch:=ch) hch (fun b o hL hb hc e n=>u.keep b o e n (fun z=>(zM.mp (I.stkSub b z)).elim hL hb) hc) (fun b o _ _ hc e n=>u.any e n hc) (fun b o hc e n=>u.free b o e n hc) (fun b o hc e=>u.there b o e hc) u.tups u.frzs u.tbls (fun m' hm=>by
  obtain⟨o',es',ep',ho',r'⟩:=hm
  rw [ho] at ho';cases ho'
  exact⟨_,es',ep',hL,r'⟩) hok hg
theorem Inv.turned {t':Nat} {it:Addr} (I:Inv X pins σ H s) (k:∀b o,b≠it->s.heap.get? b=some o->h'.get? b=some o) (hn:H it=none) (hL:it≠X.env.locals)
  (h1:it∈X.ex\/X.s₀.heap.objs.size<=it) (h2:∀x c,X.env.cells.lookup x=some c->c≠it) (h3:∀p∈X.pn++pins,p.1≠it):Inv X pins σ H {s with heap:=h',toks:=t'}:=by
 have nit:∀b u,H b=some u->b≠it:=fun b u e z=>by rw [z,hn] at e;cases e
 refine I.step (g':=s.gens) (d':=s.drawn) (ch:=[it]) (fun b hb=>?_) (fun b o _ _ hc e _=>k b o (fun z=>hc (by simp [z])) e) (fun b o _ _ hc e _=>⟨o.slots,k b o (fun z=>hc (by simp [z])) e⟩) (fun _ _ _ _ n=>n)
  (fun b o hc e=>⟨o,k b o (fun z=>hc (by simp [z])) e⟩) (fun _ _ e=>e) (fun _ _ _ e=>e) (fun b ps e=>⟨#[],by rw [e];simp⟩) (fun m hm=>?_) (fun b u e=>?_) I.bare
 .have e:b=it:=by simpa using hb
  subst e
  exact⟨h1,hL,h2,h3⟩
 .obtain⟨o,es,ep,ho,r⟩:=hm
  exact⟨o,es,ep,k _ o (xF hL) ho,r⟩
 .refine(I.hok b u e).stay (fun c v hc q=>k c v ?_ q) (fun _ q=>q) fun _ _ q=>q
  rcases hc with z|z
  .rw [z];exact nit b u e
  .exact nit c _ z
theorem Inv.tok (I:Inv X pins σ H s) (t:Nat):Inv X pins σ H {s with toks:=t}:=I.un (h':=s.heap) (t':=t) Un.refl I.hok
theorem Inv.kept {t':Nat} (I:Inv X pins σ H s) (k:∀b u,s.heap.get? b=some u->h'.get? b=some u):Inv X pins σ H {s with heap:=h',toks:=t'}:=I.un (Un.kept k) (I.hok.kept k)
theorem Inv.laid {a:Addr} {o:HO} {t':Nat} (I:Inv X pins σ H s) (k:∀b u,s.heap.get? b=some u->h'.get? b=some u) (hp:s.heap.objs.size<=a) (new:qbh X.prog X.w (upd H a o) h' a o):
  Inv X pins σ (upd H a o) {s with heap:=h',toks:=t'}:=I.un (Un.laid k hp (I.hok.fresh hp)) (I.hok.laid k hp new)
theorem Inv.write {x e:Addr} {o:HO} {t':Nat} (I:Inv X pins σ H s) (mu:Mut (H x)) (he:e=x\/H e=some (.own x)) (k:∀b u,b≠e->s.heap.get? b=some u->h'.get? b=some u) (heo:∃u,h'.get? e=some u)
  (new:qbh X.prog X.w (upd H x o) h' x o):Inv X pins σ (upd H x o) {s with heap:=h',toks:=t'}:=I.un (Un.write mu he k heo) (I.hok.write mu he k heo new)
theorem Inv.pins_of {pins':List (Addr × Obj)} (I:Inv X pins σ H s) (h:∀p∈pins',s.heap.get? p.1=some p.2/\H p.1=none/\p.1≠X.env.locals/\p.1∉X.fs/\∀v,p.2.data≠ .cell v):Inv X pins' σ H s:=
 ⟨I.ok,I.os,I.bare,I.base,I.loc,I.cell,I.free,I.freeC,fun p hp=>(zR.mp hp).elim (fun z=>I.pin p (yG _ z)) (h p),I.hok,I.len⟩
theorem nodup_ix {N:List Str} (hN:N.Nodup) {i j:Nat} {x:Str} (a:N[i]?=some x) (b:N[j]?=some x):i=j:=by
 obtain⟨h1,e1⟩:=uH.mp a
 obtain⟨h2,e2⟩:=uH.mp b
 exact(List.getElem_inj hN).mp (e1.trans e2.symm)
theorem store_ok2 {M:Model} {A:vM} {E:uC->uE->Prop} {i:Nat} {x:Str} {v:V} {u:uC} {Q:Unit->uE->Prop} (I:Inv X pins σ H s) (hN:X.N.Nodup) (hi:X.N[i]?=some x) (hx:Loc X.env.scope x) (r:qbb v u)
  (h:∀s',Inv X pins (σ.set i (some v)) H s'->(∃a,bA a s.heap s'.heap/\(a=X.env.locals\/X.env.cells.lookup x=some a))->Q () s') (hf:X.fn x=true\/X.env.scope.names.lookup x=some .local:=by first|exact .inl rfl|exact .inr rfl|assumption):uS M A (storeName X.env x u) Q E s:=by
 obtain⟨m,hn,hl⟩:=id I.loc
 have hcls:(X.env.scope.kind==.class ||(X.env.scope.kind==.module && X.env.locals !=X.env.globals))=false:=by rw [I.ok.kind];rfl
 have hiσ:i < σ.length:=by rw [I.len];exact(uH.mp hi).1
 have cne:=I.cne
 have tracked:∀{a:Addr} {h':vP},(∃o,s.heap.get? a=some o/\H a=none)->bA a s.heap h'->HOk X.prog X.w H h':=fun {a h'} ha hs b ob e=>by
  obtain⟨_,_,hfree⟩:=ha
  refine(I.hok b ob e).stay (fun c w' hc q=>(hs.2 c ?_).trans q) (fun _ q=>q) fun _ _ q=>q
  rintro rfl
  rcases hc with rfl|hc
  .rw [hfree] at e;cases e
  .rw [hfree] at hc;cases hc
 rcases hx with hk|hk
 .refine wpAny_storeName_local hk hn (fun h' hn' hs=>?_) hcls
  obtain⟨oL,_,_,hoL,_⟩:=id hn
  refine h _ ⟨I.ok,I.os,I.bare,⟨fun b o e n hb hx=>?_,fun b o e n hb hx=>?_,I.base.free,fun b o e hx=>?_,I.base.tups,I.base.frzs,I.base.tbls⟩,⟨_,hn',fun j y v' e1 e2 e3=>?_⟩,fun y c e=>?_,I.free,I.freeC,fun p hp=>?_,tracked ⟨oL,hoL,I.free⟩ hs,by simpa using I.len⟩ ⟨_,hs,.inl rfl⟩
  .exact(hs.2 b (uX (vI (uL e) I.ok.above))).trans (I.base.keep b o e n hb hx)
  .obtain⟨sl,e1⟩:=I.base.slot b o e n hb hx
   exact⟨sl,(hs.2 b (uX (vI (uL e) I.ok.above))).trans e1⟩
  .obtain⟨o',e1⟩:=I.base.there b o e hx
   exact⟨o',(hs.2 b (uX (vI (uL e) I.ok.above))).trans e1⟩
  .by_cases hj:j=i
   .subst hj
    rw [hi] at e1;cases e1
    rw [List.getElem?_set_self hiσ] at e2
    cases e2
    exact⟨u,r,.inl ⟨hk,by simp⟩⟩
   .rw [List.getElem?_set_ne (xF hj)] at e2
    obtain⟨u',r',q⟩:=hl j y v' e1 e2 e3
    refine⟨u',r',?_⟩
    rcases q with ⟨k,e⟩ |⟨k,c,e,z⟩
    .refine .inl ⟨k,?_⟩
     have:y≠x:=fun e=>hj (nodup_ix hN e1 (e ▸ hi))
     simp [this,e]
    .exact .inr ⟨k,c,e,z.sameBut hs (cne y c e)⟩
  .obtain⟨w',z⟩:=I.cell y c e
   exact⟨w',z.sameBut hs (cne y c e)⟩
  .obtain⟨e,n,ne,nf,d⟩:=I.pin p hp
   exact⟨(hs.2 p.1 ne).trans e,n,ne,nf,d⟩
 .have hfn:X.fn x=true:=by
   rcases hf with z|z
   .exact z
   .rw [z] at hk;cases hk
  obtain⟨c,hc⟩:=I.ok.has x (.inl hk)
  obtain⟨w',z⟩:=I.cell x c hc
  refine wpAny_storeName_cell I.ok.kind hk hc z (fun h' hc' hs=>?_)
  obtain⟨oc,hoc,hocd⟩:=id z
  refine h {s with heap:=h'} ⟨I.ok,I.os,I.bare,⟨fun b o e n hb hx=>?_,fun b o e n hb hx=>?_,I.base.free,fun b o e hx=>?_,I.base.tups,I.base.frzs,I.base.tbls⟩,⟨m,hn.sameBut hs (xF (cne x c hc)),fun j y v' e1 e2 e3=>?_⟩,fun y c' e=>?_,I.free,I.freeC,fun p hp=>?_,tracked ⟨oc,hoc,I.freeC x c hc⟩ hs,by simpa using I.len⟩ ⟨c,hs,.inr hc⟩
  .exact(hs.2 b (uX (vI (uL e) (I.ok.cab x c hfn hc)))).trans (I.base.keep b o e n hb hx)
  .obtain⟨sl,e1⟩:=I.base.slot b o e n hb hx
   exact⟨sl,(hs.2 b (uX (vI (uL e) (I.ok.cab x c hfn hc)))).trans e1⟩
  .obtain⟨o',e1⟩:=I.base.there b o e hx
   exact⟨o',(hs.2 b (uX (vI (uL e) (I.ok.cab x c hfn hc)))).trans e1⟩
  .by_cases hj:j=i
   .subst hj
    rw [hi] at e1;cases e1
    rw [List.getElem?_set_self hiσ] at e2
    cases e2
    exact⟨u,r,.inr ⟨.inl hk,c,hc,hc'⟩⟩
   .rw [List.getElem?_set_ne (xF hj)] at e2
    obtain⟨u',r',q⟩:=hl j y v' e1 e2 e3
    refine⟨u',r',?_⟩
    rcases q with q|⟨k,c',e,z'⟩
    .exact .inl q
    .refine .inr ⟨k,c',e,z'.sameBut hs ?_⟩
     rintro rfl
     exact hj (nodup_ix hN e1 (I.ok.inj _ _ _ e hc ▸ hi))
  .by_cases hcc:c'=c
   .subst hcc;exact⟨_,hc'⟩
   .obtain⟨w2,z2⟩:=I.cell y c' e
    exact⟨w2,z2.sameBut hs hcc⟩
  .obtain⟨e,n,ne,nf,d⟩:=I.pin p hp
   refine⟨(hs.2 p.1 ?_).trans e,n,ne,nf,d⟩
   intro q
   rw [q,hoc] at e
   have q':oc=p.2:=uW e
   exact d w' (by rw [<-q'];exact hocd)
theorem qef {M:Model} {A:vM} {E:uC->uE->Prop} {i:Nat} {x:Str} {v:V} {u:uC} {Q:Unit->uE->Prop} (I:Inv X pins σ H s) (hN:X.N.Nodup) (hi:X.N[i]?=some x) (hx:Loc X.env.scope x) (r:qbb v u)
  (h:∀s',Inv X pins (σ.set i (some v)) H s'->Q () s') (hf:X.fn x=true\/X.env.scope.names.lookup x=some .local:=by first|exact .inl rfl|exact .inr rfl|assumption):uS M A (storeName X.env x u) Q E s:=
 store_ok2 I hN hi hx r (fun s' I' _=>h s' I') hf
theorem Inv.call' {s':uE} {ch:List Addr} (I:Inv X pins σ H s) (ho:s'.os=s.os) (u:Un (frs X.stack) ch H H' s.heap s'.heap) (hok:HOk X.prog X.w H' s'.heap) (hg:cH s'.gens)
  (hch:∀b∈ch,(b∈X.ex\/X.s₀.heap.objs.size<=b)/\b≠X.env.locals/\(∀x c,X.env.cells.lookup x=some c->c≠b)/\∀p∈X.pn++pins,p.1≠b):Inv X pins σ H' s':=by
 obtain⟨h',g',d',t',o'⟩:=s'
 have e:o'=s.os:=ho
 subst e
 exact I.call (g':=g') (t':=t') (d':=d') u hok hg hch
end
abbrev XK:=uC->Option Addr->Hp->Prop
abbrev St:=List (Option V)
abbrev VK:=V->Hp->Prop
abbrev TE:=St->Hp->VK->Prop
abbrev TT:=St->Hp->(Bool->Hp->Prop)->Prop
abbrev TA:=St->Hp->(List V->Hp->Prop)->Prop
structure Ends where
 nx:St->Hp->Prop
 rt:VK
 bk:St->Hp->Prop:=fun _ _=>False
 ct:St->Hp->Prop:=fun _ _=>False
abbrev TS:=Ends->St->Hp->Prop
def EP (X:Cx) (pins:List (Addr × Obj)) (σ:St) (Q:VK) (u:uC) (s':uE):Prop:=∃v H',Inv X pins σ H' s'/\qbb v u/\Q v H'
def TP (X:Cx) (pins:List (Addr × Obj)) (σ:St) (Q:Bool->Hp->Prop) (b:Bool) (s':uE):Prop:=∃H',Inv X pins σ H' s'/\Q b H'
def AP (X:Cx) (pins:List (Addr × Obj)) (σ:St) (Q:List V->Hp->Prop) (us:List uC) (s':uE):Prop:=∃vs H',Inv X pins σ H' s'/\qba vs us/\Q vs H'
def SP (X:Cx) (pins:List (Addr × Obj)) (D:Ends) (f:Flow) (s':uE):Prop:=
 match f with
 | .next=>∃σ' H',Inv X pins σ' H' s'/\D.nx σ' H'
 | .brk=>∃σ' H',Inv X pins σ' H' s'/\D.bk σ' H'
 | .cont=>∃σ' H',Inv X pins σ' H' s'/\D.ct σ' H'
 | .ret u=>∃v σ' H',Inv X pins σ' H' s'/\qbb v u/\D.rt v H'
def PE (X:Cx) (e:vQ) (t:TE):Prop:=
 ∀(pins:List (Addr × Obj)) (s:uE) (σ:St) (H:Hp) (Q:VK),Inv X pins σ H s->t σ H Q->uS (uV X.prog X.w) X.A (wG e X.env) (EP X pins σ Q) X.xe s
def PT (X:Cx) (e:vQ) (t:TT):Prop:=
 ∀(pins:List (Addr × Obj)) (s:uE) (σ:St) (H:Hp) (Q:Bool->Hp->Prop),Inv X pins σ H s->t σ H Q->uS (uV X.prog X.w) X.A (isTrue e X.env (wG e X.env)) (TP X pins σ Q) X.xe s
def PW (X:Cx) (e:vQ) (t:TT):Prop:=
 ∀(whole:Sem uC) (pins:List (Addr × Obj)) (s:uE) (σ:St) (H:Hp) (Q:Bool->Hp->Prop),Inv X pins σ H s->t σ H Q->uS (uV X.prog X.w) X.A (isTrue e X.env whole) (TP X pins σ Q) X.xe s
theorem PW.pt {X:Cx} {e:vQ} {t:TT} (h:PW X e t):PT X e t:=h _
def PA (X:Cx) (es:List vQ) (t:TA):Prop:=
 ∀(pos:Pos) (pins:List (Addr × Obj)) (s:uE) (σ:St) (H:Hp) (Q:List V->Hp->Prop),Inv X pins σ H s->t σ H Q->uS (uV X.prog X.w) X.A (spliced (wT pos (uZ es X.env))) (AP X pins σ Q) X.xe s
def PS (X:Cx) (st:Stmt) (t:TS):Prop:=
 ∀(pins:List (Addr × Obj)) (s:uE) (σ:St) (H:Hp) (D:Ends),Inv X pins σ H s->t D σ H->uS (uV X.prog X.w) X.A (exec st X.env) (SP X pins D) X.xe s
def PSs (X:Cx) (st:List Stmt) (t:TS):Prop:=
 ∀(pins:List (Addr × Obj)) (s:uE) (σ:St) (H:Hp) (D:Ends),Inv X pins σ H s->t D σ H->uS (uV X.prog X.w) X.A (execs st X.env) (SP X pins D) X.xe s
theorem thn {α:Type} {t:Sem α} {Q Q':α->uE->Prop} {M:Model} {A:vM} {E:uC->uE->Prop} {s:uE} (h:uS M A t Q E s) (hQ:∀a s,Q a s->Q' a s):uS M A t Q' E s:=vD h hQ fun _ _ x=>x
section
variable {X: Cx}
theorem bin {a b:vQ} {ta tb:TE} (ha:PE X a ta) (hb:PE X b tb) {pins:List (Addr × Obj)} {s:uE} {σ:St} {H:Hp} {R:V->V->Hp->Prop} (I:Inv X pins σ H s) (h:ta σ H fun x H1=>tb σ H1 fun y H2=>R x y H2)
  {α:Type} {Q:α->uE->Prop} {f:uC->uC->Sem α}
  (hf:∀v u s2 x y H2,Inv X pins σ H2 s2->qbb x v->qbb y u->R x y H2->uS (uV X.prog X.w) X.A (f v u) Q X.xe s2):
  uS (uV X.prog X.w) X.A (wG a X.env) (fun v s₁=>uS (uV X.prog X.w) X.A (wG b X.env) (fun u s₂=>uS (uV X.prog X.w) X.A (f v u) Q X.xe s₂) X.xe s₁) X.xe s:=by
 refine thn (ha pins s σ H _ I h) fun v s1 ⟨x,H1,I1,r1,q1⟩=>?_
 refine thn (hb pins s1 σ H1 _ I1 q1) fun u s2 ⟨y,H2,I2,r2,q2⟩=>?_
 exact hf v u s2 x y H2 I2 r1 r2 q2
def tVar (i:Nat):TE:=fun σ H Q=>∃v,σ[i]?=some (some v)/\Q v H
def tC (v:V):TE:=fun _ H Q=>Q v H
theorem pe_var {i:Nat} {x:Str} {pos:Pos} (hN:X.N[i]?=some x) (hv:Vis X.env.scope x) (hd:(x==("__debug__" :Str))=false:=by decide) (hcd:(x==("__classdict__" :Str))=false:=by decide):PE X (.Name x pos) (tVar i):=by
 intro pins s σ H Q I h
 obtain⟨v,e,h⟩:=h
 obtain⟨m,hn,hl⟩:=I.loc
 obtain⟨u,r,l⟩:=hl i x v hN e hv
 have fin:EP X pins σ Q u s:=⟨v,H,I,r,h⟩
 rcases l with ⟨hk,hm⟩ |⟨hk,c,hc,hcell⟩
 .exact wpAny_Name (wpAny_loadName_local I.ok.kind hk hn hm fin) hd
 .rcases hk with hk|hk
  .exact wpAny_Name (wpAny_loadName_cell I.ok.kind hk hc hcell fin) hd
  .exact wpAny_Name (wpAny_loadName_free I.ok.kind hk hc hcell fin hcd) hd
theorem qa4 {i j pos}:PE X (.Constant (.int i) j pos) (tC (.int i)):=fun _ _ _ H _ I h=>wpAny_Constant_int ⟨.int i,H,I.tok _,⟨_,rfl⟩,h⟩
theorem qfc {b j pos}:PE X (.Constant (.bool b) j pos) (tC (.bl b)):=fun _ _ _ H _ I h=>Constant_bool ⟨.bl b,H,I,rfl,h⟩
theorem qcp {j pos}:PE X (.Constant .none j pos) (tC .non):=fun _ _ _ H _ I h=>Constant_none ⟨.non,H,I,rfl,h⟩
theorem qco {x j pos}:PE X (.Constant (.str x) j pos) (tC (.str x)):=fun _ _ _ H _ I h=>Calls.Constant_str ⟨.str x,H,I.tok _,⟨_,rfl⟩,h⟩
def Gl (X:Cx) (x:Str):Prop:=X.env.kindOf x=some .globalImplicit
theorem qdq {E:uC->uE->Prop} {pins:List (Addr × Obj)} {s:uE} {σ:St} {H:Hp} {x:Str} {u:uC} {pos:Pos} {Q:uC->uE->Prop} (I:Inv X pins σ H s) (hg:Gl X x) (hm:X.mg x=some u) (h:Q u s)
  (hd:(x==("__debug__" :Str))=false:=by decide):uS (uV X.prog X.w) X.A (wG (.Name x pos) X.env) Q E s:=
 Calls.Name_function_global I.ok.kind hg (Calls.loadGlobal_global (by rw [I.ok.glob];exact I.mod.glob.keeps I.bk) hm h) hd
theorem qe0 {E:uC->uE->Prop} {pins:List (Addr × Obj)} {s:uE} {σ:St} {H:Hp} {x:Str} {u:uC} {pos:Pos} {Q:uC->uE->Prop} (I:Inv X pins σ H s) (hg:Gl X x) (hm:X.mg x=none) (hv:xM x=some u) (h:Q u s)
  (hn:x≠"__name__":=by decide) (hd:(x==("__debug__" :Str))=false:=by decide):uS (uV X.prog X.w) X.A (wG (.Name x pos) X.env) Q E s:=by
 obtain⟨mb,h1,h2⟩:=I.mod.blt
 exact Calls.Name_function_global I.ok.kind hg (Calls.loadGlobal_builtin (by rw [I.ok.glob];exact I.mod.glob.keeps I.bk) hm (by rw [I.ok.blt];exact h1.keeps I.bk) ((h2 x hn).trans hv) h) hd
theorem qe7 {x:Str} {v:V} {u:uC} {pos:Pos} (hg:Gl X x) (hm:X.mg x=some u) (r:qbb v u) (hd:(x==("__debug__" :Str))=false:=by decide):PE X (.Name x pos) (tC v):=
 fun _ _ _ H _ I h=>qdq I hg hm ⟨v,H,I,r,h⟩ hd
theorem qd7 {x:Str} {v:V} {u:uC} {pos:Pos} (hg:Gl X x) (hm:X.mg x=none) (hv:xM x=some u) (r:qbb v u) (hn:x≠"__name__":=by decide) (hd:(x==("__debug__" :Str))=false:=by decide):PE X (.Name x pos) (tC v):=
 fun _ _ _ H _ I h=>qe0 I hg hm hv ⟨v,H,I,r,h⟩ hn hd
variable {a b: vQ} {ta tb: TE} {pos: Pos}
def PC (X:Cx) (op:CmpOp) (a b:vQ) (t:TE):Prop:=
 ∀(pins:List (Addr × Obj)) (s:uE) (σ:St) (H:Hp) (Q:VK),Inv X pins σ H s->t σ H Q->
  uS (uV X.prog X.w) X.A (wG a X.env) (fun v s₁=>uS (uV X.prog X.w) X.A (wG b X.env) (fun u s₂=>uS (uV X.prog X.w) X.A (wC op v u) (EP X pins σ Q) X.xe s₂) X.xe s₁) X.xe s
def tB (t:TE):TT:=fun σ H Q=>t σ H fun x H1=>∃c,x=.bl c/\Q c H1
theorem pe_cmp {op:CmpOp} {t:TE} (h:PC X op a b t) (h1:bO op b=false:=by first|exact nobehind _ (by decide) (by decide) |rfl):PE X (.Compare a [op] [b] pos) t:=fun pins s σ H Q I hw=>wpAny_Compare1 (h pins s σ H Q I hw) h1
theorem pt_cmp {op:CmpOp} {t:TE} (h:PC X op a b t) (h1:bO op b=false:=by first|exact nobehind _ (by decide) (by decide) |rfl):PT X (.Compare a [op] [b] pos) (tB t):=by
 intro pins s σ H Q I hw
 refine wpAny_isTrue_Compare1 (thn (h pins s σ H _ I hw) fun v s1 h1=>thn h1 fun u s2 h2=>thn h2 fun c s3 ⟨x,H1,I1,r1,q1⟩=>?_) h1
 obtain⟨d,rfl,q⟩:=q1
 cases r1
 exact wI ⟨H1,I1,q⟩
theorem qbk {e:vQ} {t:TE} (h:PE X e t) (he:∀whole,isTrue e X.env whole=(do let v<-whole;standAt e.pos;fO [v] (truthy v)):=by intro _;rfl):PT X e (tB t):=by
 intro pins s σ H Q I hw
 refine isTrue_plain (thn (h pins s σ H _ I hw) fun v s1 ⟨x,H1,I1,r1,q1⟩=>?_) (he _)
 obtain⟨d,rfl,q⟩:=q1
 cases r1
 exact wI ⟨H1,I1,q⟩
variable {tA tB': TT} {rest: List vQ}
def tAnd (t u:TT):TT:=fun σ H Q=>t σ H fun c H1=>if c=true then u σ H1 Q else Q false H1
def tOr (t u:TT):TT:=fun σ H Q=>t σ H fun c H1=>if c=true then Q true H1 else u σ H1 Q
def tNot (t:TT):TT:=fun σ H Q=>t σ H fun c H1=>Q (!c) H1
theorem pw_and1 (ha:PT X a tA):PW X (.BoolOp .And [a] pos) tA:=by
 intro wh pins s σ H Q I h
 refine isTrue_and (thn (ha pins s σ H Q I h) fun c s1 e=>?_)
 cases c with
 |true=>exact isTrue_and_nil e
 |false=>exact e
theorem qer (ha:PT X a tA):PW X (.BoolOp .Or [a] pos) tA:=by
 intro wh pins s σ H Q I h
 refine isTrue_or (thn (ha pins s σ H Q I h) fun c s1 e=>?_)
 cases c with
 |false=>exact isTrue_or_nil e
 |true=>exact e
theorem pw_and (ha:PT X a tA) (hb:PW X (.BoolOp .And (b :: rest) pos) tB'):PW X (.BoolOp .And (a :: b :: rest) pos) (tAnd tA tB'):=by
 intro wh pins s σ H Q I h
 refine isTrue_and (thn (ha pins s σ H _ I h) fun c s1 ⟨H1,I1,q1⟩=>?_)
 cases c with
 |true=>exact hb wh pins s1 σ H1 Q I1 q1
 |false=>exact⟨H1,I1,q1⟩
theorem pw_or (ha:PT X a tA) (hb:PW X (.BoolOp .Or (b :: rest) pos) tB'):PW X (.BoolOp .Or (a :: b :: rest) pos) (tOr tA tB'):=by
 intro wh pins s σ H Q I h
 refine isTrue_or (thn (ha pins s σ H _ I h) fun c s1 ⟨H1,I1,q1⟩=>?_)
 cases c with
 |true=>exact⟨H1,I1,q1⟩
 |false=>exact hb wh pins s1 σ H1 Q I1 q1
theorem qcb (ha:PT X a tA):PT X (.UnaryOp .Not a pos) (tNot tA):=by
 intro pins s σ H Q I h
 exact isTrue_not (ha pins s σ H (fun c H1=>Q (!c) H1) I h)
def tAndV (ta tb:TE):TE:=fun σ H Q=>ta σ H fun x H1=>∃c,x=.bl c/\if c=true then tb σ H1 Q else Q (.bl false) H1
def tOrV (ta tb:TE):TE:=fun σ H Q=>ta σ H fun x H1=>∃c,x=.bl c/\if c=true then Q (.bl true) H1 else tb σ H1 Q
def tNotV (ta:TE):TE:=fun σ H Q=>ta σ H fun x H1=>∃c,x=.bl c/\Q (.bl (!c)) H1
theorem qec {op} {t:TE} (h:PE X a t):PE X (.BoolOp op [a] pos) t:=fun pins s σ H Q I hw=>BoolOp_one (h pins s σ H Q I hw)
theorem qfh (ha:PE X a ta) (hb:PE X (.BoolOp .And (b :: rest) pos) tb):PE X (.BoolOp .And (a :: b :: rest) pos) (tAndV ta tb):=by
 intro pins s σ H Q I h
 refine BoolOp_and (thn (ha pins s σ H _ I h) fun v s1 ⟨x,H1,I1,r1,q1⟩=>?_)
 obtain⟨c,rfl,q1⟩:=q1
 cases r1
 refine wI ?_
 cases c with
 |true=>exact hb pins s1 σ H1 Q I1 q1
 |false=>exact⟨.bl false,H1,I1,rfl,q1⟩
theorem pe_or (ha:PE X a ta) (hb:PE X (.BoolOp .Or (b :: rest) pos) tb):PE X (.BoolOp .Or (a :: b :: rest) pos) (tOrV ta tb):=by
 intro pins s σ H Q I h
 refine BoolOp_or (thn (ha pins s σ H _ I h) fun v s1 ⟨x,H1,I1,r1,q1⟩=>?_)
 obtain⟨c,rfl,q1⟩:=q1
 cases r1
 refine wI ?_
 cases c with
 |false=>exact hb pins s1 σ H1 Q I1 q1
 |true=>exact⟨.bl true,H1,I1,rfl,q1⟩
theorem pe_not (ha:PE X a ta):PE X (.UnaryOp .Not a pos) (tNotV ta):=by
 intro pins s σ H Q I h
 refine UnaryOp_ (thn (ha pins s σ H _ I h) fun v s1 ⟨x,H1,I1,r1,q1⟩=>?_)
 obtain⟨c,rfl,q1⟩:=q1
 cases r1
 exact not_of (wI ⟨.bl (!c),H1,I1,rfl,q1⟩)
def tIf (t:TT) (ta tb:TE):TE:=fun σ H Q=>t σ H fun c H1=>if c=true then ta σ H1 Q else tb σ H1 Q
theorem pe_ifExp {c:vQ} (hc:PT X c tA) (ha:PE X a ta) (hb:PE X b tb):PE X (.IfExp c a b pos) (tIf tA ta tb):=by
 intro pins s σ H Q I h
 refine wpAny_IfExp (thn (hc pins s σ H _ I h) fun d s1 ⟨H1,I1,q1⟩=>?_)
 cases d with
 |true=>exact ha pins s1 σ H1 Q I1 q1
 |false=>exact hb pins s1 σ H1 Q I1 q1
end
def SqL (K:uR) (H:Hp) (a:Addr) (xs:List V):Prop:=
 Rd H a (.lst xs)\/
  ∃(o:Obj) (its:Array uC) (n:Nat),K.lookup a=some o/\o.cls=.type "list"/\o.dict=none/\o.data=.seq its n/\its.size<=sizeLine/\qba xs its.toList
def SqT (K:uR) (H:Hp) (a:Addr) (xs:List V):Prop:=
 Rd H a (.tup xs)\/
  ∃(o:Obj) (its:Array uC) (n:Nat),K.lookup a=some o/\o.cls=.type "tuple"/\o.data=.seq its n/\its.size<=sizeLine/\qba xs its.toList
def absV:uC->Option V
 | .none=>some .non
 | .bool b=>some (.bl b)
 | .int i _=>some (.int i)
 | .str x _=>some (.str x)
 | .bytes b _=>some (.byt b)
 | .float b _=>some (.flt b)
 | .ref a=>some (.ref a)
 | .type n=>some (.ty n)
 |_=>none
theorem qbb.abs {x:V} {u:uC} (r:qbb x u):absV u=some x:=by
 cases x with
 |non=>cases r;rfl
 |bl _=>cases r;rfl
 |int _=>obtain⟨t,rfl⟩:=r;rfl
 |str _=>obtain⟨t,rfl⟩:=r;rfl
 |byt _=>obtain⟨t,rfl⟩:=r;rfl
 |flt _=>obtain⟨t,rfl⟩:=r;rfl
 |ref _=>cases r;rfl
 |ty _=>cases r;rfl
theorem qbb.inj {x y:V} {u:uC} (r:qbb x u) (q:qbb y u):x=y:=uW (r.abs.symm.trans q.abs)
theorem qba.inj:∀{xs ys:List V} {us:List uC},qba xs us->qba ys us->xs=ys
 |_,_,_,.nil,.nil=>rfl
 |_,_,_,.cons r t,.cons r' t'=>by rw [r.inj r',qba.inj t t']
section
variable {X: Cx} {pins: List (Addr × Obj)} {σ: St} {H: Hp} {s: uE} {a: Addr} {xs ys: List V}
theorem SqL.of {K:uR} (h:H a=some (.lst xs)):SqL K H a xs:=.inl (.inl h)
theorem SqT.of {K:uR} (h:H a=some (.tup xs)):SqT K H a xs:=.inl (.inl h)
theorem Inv.list (I:Inv X pins σ H s) (h:SqL X.K H a xs):∃its:List uC,qba xs its/\PlainL s.heap a its.toArray/\xs.length<=sizeLine:=by
 rcases h with h|⟨o,its,n,hk,hc,hd,hs,hz,r⟩
 .obtain⟨z,its,n,r,e⟩:=h.ok I.hok
  exact⟨its,r,⟨_,n,e,rfl,rfl,rfl⟩,z⟩
 .refine⟨its.toList,r,⟨o,n,I.kIn a o hk,hc,hd,by simpa using hs⟩,?_⟩
  have e:=r.length
  simp only [eO] at e
  omega
theorem Inv.tuple (I:Inv X pins σ H s) (h:SqT X.K H a xs):∃its:List uC,qba xs its/\IsTup s.heap a its.toArray/\xs.length<=sizeLine:=by
 rcases h with h|⟨o,its,n,hk,hc,hs,hz,r⟩
 .obtain⟨z,its,r,p⟩:=h.ok I.hok
  exact⟨its,r,p,z⟩
 .refine⟨its.toList,r,⟨o,I.kIn a o hk,hc,n,by simpa using hs⟩,?_⟩
  have e:=r.length
  simp only [eO] at e
  omega
theorem Inv.list_inj (I:Inv X pins σ H s) (h:SqL X.K H a xs) (h':SqL X.K H a ys):xs=ys:=by
 obtain⟨its,r,⟨o,n,e,_,_,d⟩,_⟩:=I.list h
 obtain⟨its',r',⟨o',n',e',_,_,d'⟩,_⟩:=I.list h'
 rw [e] at e';cases e'
 rw [d] at d'
 injection d' with d1 _
 have:its=its':=by simpa using congrArg Array.toList d1
 subst this
 exact r.inj r'
end
abbrev Cx.wish (X:Cx) (E:uC->uE->Prop):Cx:={X with xe:=E}
abbrev Cx.nox (X:Cx):Cx:=X.wish fun _ _=>False
theorem Cx.Ok.wish {X:Cx} (ok:X.Ok) (E:uC->uE->Prop):(X.wish E).Ok:=
 ⟨ok.mod,ok.kind,ok.glob,ok.blt,ok.above,ok.inj,ok.has,ok.cab,ok.hd,ok.frames,ok.stk,ok.exf,ok.bs,ok.bsz,ok.noex,ok.exfs,ok.funs,ok.frf⟩
theorem Cx.Ok.unwish {X:Cx} {E:uC->uE->Prop} (ok:(X.wish E).Ok):X.Ok:=
 ⟨ok.mod,ok.kind,ok.glob,ok.blt,ok.above,ok.inj,ok.has,ok.cab,ok.hd,ok.frames,ok.stk,ok.exf,ok.bs,ok.bsz,ok.noex,ok.exfs,ok.funs,ok.frf⟩
section
variable {X: Cx} {pins: List (Addr × Obj)} {σ: St} {H: Hp} {s: uE} {E: uC -> uE -> Prop}
theorem Inv.wish (I:Inv X pins σ H s) (E:uC->uE->Prop):Inv (X.wish E) pins σ H s:=⟨I.ok.wish E,I.os,I.bare,I.base,I.loc,I.cell,I.free,I.freeC,I.pin,I.hok,I.len⟩
theorem Inv.unwish (I:Inv (X.wish E) pins σ H s):Inv X pins σ H s:=⟨I.ok.unwish,I.os,I.bare,I.base,I.loc,I.cell,I.free,I.freeC,I.pin,I.hok,I.len⟩
theorem SP.unwish {D:Ends} {f:Flow} {s':uE} (h:SP (X.wish E) pins D f s'):SP X pins D f s':=by
 cases f with
 |next=>obtain⟨σ',H',I,q⟩:=h;exact⟨σ',H',I.unwish,q⟩
 |brk=>obtain⟨σ',H',I,q⟩:=h;exact⟨σ',H',I.unwish,q⟩
 |cont=>obtain⟨σ',H',I,q⟩:=h;exact⟨σ',H',I.unwish,q⟩
 |ret u=>obtain⟨v,σ',H',I,r,q⟩:=h;exact⟨v,σ',H',I.unwish,r,q⟩
theorem PSs.nox {st:List Stmt} {t:TS} (h:PSs X.nox st t):PSs X st t:=fun pins s σ H D I hw=>
 vD (h pins s σ H D (I.wish _) hw) (fun _ _ q=>q.unwish) fun _ _ z=>vW z
end
section
variable {X: Cx} {st: Stmt} {rest: List Stmt} {t u: TS} {e: vQ} {te: TE} {pos: Pos}
def tNext:TS:=fun D σ H=>D.nx σ H
def tSeq (t u:TS):TS:=fun D σ H=>t {D with nx:=u D} σ H
theorem qas:PSs X [] tNext:=fun _ _ σ H _ I h=>dM ⟨σ,H,I,h⟩
theorem qa3 (h1:PS X st t) (h2:PSs X rest u):PSs X (st :: rest) (tSeq t u):=by
 intro pins s σ H D I h
 refine wpAny_execs_cons (thn (h1 pins s σ H {D with nx:=u D} I h) fun f s1 q=>?_)
 cases f with
 |next=>
  obtain⟨σ',H',I',q⟩:=q
  exact h2 pins s1 σ' H' D I' q
 |ret v=>exact q
 |brk=>exact q
 |cont=>exact q
theorem qa5 (h1:PS X st t):PSs X [st] t:=by
 intro pins s σ H D I h
 refine wpAny_execs_cons (thn (h1 pins s σ H D I h) fun f s1 q=>?_)
 cases f with
 |next=>exact dM q
 |ret v=>exact q
 |brk=>exact q
 |cont=>exact q
theorem Inv.quiet {pins:List (Addr × Obj)} {σ:St} {H:Hp} {s:uE} (I:Inv X pins σ H s):interactive X.env=false:=by simp [interactive,I.ok.kind]
def tDrop (te:TE):TS:=fun D σ H=>te σ H fun _ H1=>D.nx σ H1
theorem qb3 (he:PE X e te) (hs:eF e none pos.line X.env=pure false:=by rfl):PS X (.Expr e pos) (tDrop te):=by
 intro pins s σ H D I h
 exact wpAny_Expr_any (thn (he pins s σ H _ I h) fun v s1 ⟨x,H1,I1,r1,q1⟩=>⟨σ,H1,I1,q1⟩) I.quiet hs
def tRet (te:TE):TS:=fun D σ H=>te σ H D.rt
theorem qaj (he:PE X e te):PS X (.Return (some e) pos) (tRet te):=by
 intro pins s σ H D I h
 exact wpAny_Return_some (thn (he pins s σ H _ I h) fun v s1 ⟨x,H1,I1,r1,q1⟩=>⟨x,σ,H1,I1,r1,q1⟩)
def tIfS (c:TT) (t u:TS):TS:=fun D σ H=>c σ H fun b H1=>if b=true then t D σ H1 else u D σ H1
theorem qbg {c:vQ} {a b:List Stmt} {tc:TT} (hc:PT X c tc) (ha:PSs X a t) (hb:PSs X b u):PS X (.If c a b pos) (tIfS tc t u):=by
 intro pins s σ H D I h
 refine wpAny_If (thn (hc pins s σ H _ I h) fun d s1 ⟨H1,I1,q1⟩=>?_)
 cases d with
 |true=>exact ha pins s1 σ H1 D I1 q1
 |false=>exact hb pins s1 σ H1 D I1 q1
end
abbrev TG:=V->St->Hp->(St->Hp->Prop)->Prop
abbrev TGs:=List V->St->Hp->(St->Hp->Prop)->Prop
def PG (X:Cx) (target:vQ) (t:TG):Prop:=
 ∀(pins:List (Addr × Obj)) (s:uE) (σ:St) (H:Hp) (v:V) (u:uC) (Q:St->Hp->Prop),Inv X pins σ H s->qbb v u->t v σ H Q->
  uS (uV X.prog X.w) X.A (dX target X.env u) (fun _ s'=>∃σ' H',Inv X pins σ' H' s'/\Q σ' H') X.xe s
def PGs (X:Cx) (ts:List vQ) (t:TGs):Prop:=
 ∀(pins:List (Addr × Obj)) (s:uE) (σ:St) (H:Hp) (vs:List V) (us:List uC) (Q:St->Hp->Prop),Inv X pins σ H s->qba vs us->t vs σ H Q->
  uS (uV X.prog X.w) X.A (assignInOrder ((dC ts X.env).map (·.2)) us) (fun _ s'=>∃σ' H',Inv X pins σ' H' s'/\Q σ' H') X.xe s
section
variable {X: Cx} {pos: Pos}
def gName (i:Nat):TG:=fun v σ H Q=>Q (σ.set i (some v)) H
theorem qab {i:Nat} {x:Str} (hN:X.N.Nodup) (hi:X.N[i]?=some x) (hx:Loc X.env.scope x) (hf:X.fn x=true\/X.env.scope.names.lookup x=some .local:=by first|exact .inl rfl|exact .inr rfl|assumption):PG X (.Name x pos) (gName i):=by
 intro pins s σ H v u Q I r h
 exact cI (qef I hN hi hx r (fun s' I'=>⟨_,H,I',h⟩) hf)
def gNil:TGs:=fun vs σ H Q=>vs=[]/\Q σ H
def gCons (t:TG) (u:TGs):TGs:=fun vs σ H Q=>∃v r,vs=v :: r/\t v σ H fun σ' H'=>u r σ' H' Q
theorem qbu:PGs X [] gNil:=by
 intro pins s σ H vs us Q I r h
 obtain⟨e,h⟩:=h
 subst e
 cases r
 exact assignInOrder_nil ⟨σ,H,I,h⟩
theorem qac {e:vQ} {es:List vQ} {t:TG} {u:TGs} (h1:PG X e t) (h2:PGs X es u)
  (hs:(dC (e :: es) X.env).map (·.2)=dX e X.env ::(dC es X.env).map (·.2):=by rfl):PGs X (e :: es) (gCons t u):=by
 intro pins s σ H vs us Q I r h
 obtain⟨v,vr,e1,h⟩:=h
 subst e1
 cases r with
 |cons r rr=>
  rw [hs]
  refine assignInOrder_cons (thn (h1 pins s σ H _ _ _ I r h) fun _ s1 ⟨σ1,H1,I1,q1⟩=>?_)
  exact h2 pins s1 σ1 H1 _ _ Q I1 rr q1
def gTup (K:uR) (n:Nat) (t:TGs):TG:=fun v σ H Q=>∃a xs,v=.ref a/\SqT K H a xs/\xs.length=n/\t xs σ H Q
theorem qci {es:List vQ} {k:Nat} {t:TGs} {n:Nat} (hc:X.calm=true) (h:PGs X es t)
  (hn:(dC es X.env).length=n:=by rfl) (hst:(dC es X.env).findIdx? (·.1)=none:=by rfl):PG X (.Tuple es k pos) (gTup X.K n t):=by
 intro pins s σ H v u Q I r hw
 obtain⟨a,xs,e1,hq,hl,hw⟩:=hw
 subst e1
 cases r
 obtain⟨its,rv,ht,hz⟩:=I.tuple hq
 refine assign_Tuple_tuple (I.ok.hd hc) ht (by simp [hn,<-hl,rv.length]) hst fun h' hx=>?_
 have I1:Inv X pins σ H {s with heap:=h'}:=I.kept (t':=s.toks) fun b o e=>hx b o (uX (uL e)) e
 exact h pins _ σ H xs _ Q I1 (by simpa using rv) hw
def tAsg (te:TE) (g:TG):TS:=fun D σ H=>te σ H fun x H1=>g x σ H1 D.nx
theorem qdj {tg e:vQ} {te:TE} {g:TG} (he:PE X e te) (hg:PG X tg g) (hs:swapsWithSole [tg] e pos.line X.env=pure false:=by rfl) (hw:swappedStores [tg] e X.env=pure none:=by rfl)
  (h1:(dC [tg] X.env).map (·.2)=[dX tg X.env]:=by rfl):PS X (.Assign [tg] e pos) (tAsg te g):=by
 intro pins s σ H D I h
 refine wpAny_Assign_stores (thn (he pins s σ H _ I h) fun v s1 ⟨x,H1,I1,r1,q1⟩=>?_) hs hw
 rw [h1]
 exact thn (hg pins s1 σ H1 x v _ I1 r1 q1) fun _ s2 q=>q
theorem qaf {i:Nat} {x:Str} {e:vQ} {te:TE} {pos':Pos} (hN:X.N.Nodup) (hi:X.N[i]?=some x) (hx:Loc X.env.scope x) (he:PE X e te) (hs:eF e (some (.Name x pos')) pos.line X.env=pure false:=by rfl) (hf:X.fn x=true\/X.env.scope.names.lookup x=some .local:=by first|exact .inl rfl|exact .inr rfl|assumption):
  PS X (.Assign [.Name x pos'] e pos) (tAsg te (gName i)):=by
 intro pins s σ H D I h
 refine wpAny_Assign_Name (thn (he pins s σ H _ I h) fun v s1 ⟨y,H1,I1,r1,q1⟩=>?_) hs
 exact qef I1 hN hi hx r1 (fun s2 I2=>⟨_,H1,I2,q1⟩) hf
end
section
variable {X: Cx} {pos: Pos}
def tWhile (c:TT) (tb:TS):TS:=fun D σ H=>∃W:Nat->St->Hp->Prop,(∃m,W m σ H)/\∀m σ H,W m σ H->
 c σ H fun b H1=>if b=true then ∃N:St->Hp->Prop,(∀σ' H',N σ' H'->∃m',m' < m/\W m' σ' H')/\tb {D with nx:=N,ct:=N,bk:=D.nx} σ H1 else D.nx σ H1
theorem ps_while {c:vQ} {body:List Stmt} {tc:TT} {tb:TS} (hp:PassesOwn (uV X.prog X.w) X.A X.env X.xe) (hc:PT X c tc) (hb:PSs X body tb):PS X (.While c body [] pos) (tWhile tc tb):=by
 intro pins s σ H D I h
 obtain⟨W,⟨m0,w0⟩,turn⟩:=h
 refine wpAny_While (codeAny_whileLoop (fun n s'=>∃σ' H',Inv X pins σ' H' s'/\W n σ' H') ?_ m0 ⟨σ,H,I,w0⟩)
 rintro n s1 ⟨σ1,H1,I1,w1⟩
 refine xT hp (thn (hc pins s1 σ1 H1 _ I1 (turn n σ1 H1 w1)) fun b s2 ⟨H2,I2,q2⟩=>?_)
 cases b with
 |true=>
  obtain⟨N,hN,q2⟩:=q2
  rw [gL rfl]
  refine xT hp (thn (hb pins s2 σ1 H2 _ I2 q2) fun f s3 q3=>?_)
  cases f with
  |next=>
   obtain⟨σ3,H3,I3,n3⟩:=q3
   obtain⟨m',hm,w3⟩:=hN σ3 H3 n3
   exact⟨m',hm,σ3,H3,I3,w3⟩
  |cont=>
   obtain⟨σ3,H3,I3,n3⟩:=q3
   obtain⟨m',hm,w3⟩:=hN σ3 H3 n3
   exact⟨m',hm,σ3,H3,I3,w3⟩
  |brk=>exact q3
  |ret v=>exact q3
 |false=>
  rw [gK uJ]
  exact dM ⟨σ1,H2,I2,q2⟩
end
structure It where
 go:Nat->Hp->Prop
 yld:Nat->Hp->V->Hp->Prop
 stop:Nat->Hp->Prop
def qgc (X:Cx) (pins:List (Addr × Obj)) (H:Hp) (b:Addr):Prop:=
 H b=none/\b≠X.env.locals/\b∉X.fs/\(b∈X.ex\/X.s₀.heap.objs.size<=b)/\(∀x c,X.env.cells.lookup x=some c->c≠b)/\∀p∈X.pn++pins,p.1≠b
theorem Inv.fpOk {X:Cx} {pins:List (Addr × Obj)} {σ:St} {H H':Hp} {s:uE} {b:Addr} (I:Inv X pins σ H s) (hb:s.heap.objs.size<=b) (hn:H' b=none):qgc X pins H' b:=by
 refine⟨hn,Nat.ne_of_gt (vI I.lt hb),I.nofs hb,.inr (vN I.sz hb),fun x c e z=>?_,fun p hp z=>?_⟩
 .obtain⟨v,q⟩:=I.cell x c e
  exact absurd (vI q.lt (by rw [z];exact hb)) (wA _)
 .exact absurd (vI (uL (I.pin p hp).1) (by rw [z];exact hb)) (wA _)
structure Turn (P:uY) (w:vL) (K:uR) (tg:vQ) (J:It) (fp:List Addr) (it:Addr) (tn:Nat->vP->Prop):Prop where
 mem:it∈fp
 obj:∀i h,tn i h->∀b∈fp,∃o,h.get? b=some o/\∀v,o.data≠ .cell v
 keep:∀i h h',tn i h->(∀b∈fp,∀o,h.get? b=some o->h'.get? b=some o)->tn i h'
 item:∀(X:Cx),X.prog=P->X.w=w->X.K=K->X.calm=true->∀(i:Nat) (pins:List (Addr × Obj)) (s:uE) (σ:St) (H:Hp) (E:uC->uE->Prop),Inv X pins σ H s->(∀b∈fp,qgc X pins H b)->tn i s.heap->J.go i H->
  uS (uV P w) X.A (cT (.ref it)) (fun r s1=>∃u,r=some u/\
   uS (uV P w) X.A (letOwnedTupleGo tg (.ref it) u) (fun _ s2=>∃x H',Inv X pins σ H' s2/\qbb x u/\J.yld i H x H'/\tn (i+1) s2.heap/\∀b∈fp,H' b=none) E s1) E s
 done:∀(X:Cx),X.prog=P->X.w=w->X.K=K->X.calm=true->∀(i:Nat) (pins:List (Addr × Obj)) (s:uE) (σ:St) (H:Hp) (E:uC->uE->Prop),Inv X pins σ H s->(∀b∈fp,qgc X pins H b)->tn i s.heap->J.stop i H->
  uS (uV P w) X.A (cT (.ref it)) (fun r s1=>r=none/\Inv X pins σ H s1) E s
 self:∀(A:vM) (i:Nat) (s:uE) (Q:uC->uE->Prop) (E:uC->uE->Prop),tn i s.heap->Q (.ref it) s->uS (uV P w) A (pyIter (.ref it)) Q E s
abbrev TI:=St->Hp->(It->Hp->Prop)->Prop
def PIE (X:Cx) (pins:List (Addr × Obj)) (σ:St) (tg:vQ) (R:It->Hp->Prop) (itv:uC) (s2:uE):Prop:=
 ∃(it:Addr) (fp:List Addr) (tn:Nat->vP->Prop) (J:It) (H':Hp),itv=.ref it/\Inv X pins σ H' s2/\Turn X.prog X.w X.K tg J fp it tn/\tn 0 s2.heap/\(∀b∈fp,qgc X pins H' b)/\R J H'
def PI (X:Cx) (tg iter:vQ) (wi:TI):Prop:=
 ∀(pins:List (Addr × Obj)) (s:uE) (σ:St) (H:Hp) (R:It->Hp->Prop),Inv X pins σ H s->wi σ H R->
  uS (uV X.prog X.w) X.A (wG iter X.env) (fun v s1=>uS (uV X.prog X.w) X.A (pyIter v) (PIE X pins σ tg R) X.xe s1) X.xe s
theorem go_of {M:Model} {A:vM} {E:uC->uE->Prop} {s:uE} {tg:vQ} {it:Addr} {u:uC} {o:Obj} {n:String} {vs:Array uC} {Q:Unit->uE->Prop} (ho:s.heap.get? it=some o) (hc:o.cls=.type n) (hd:o.data=.fields vs)
  (hn: ["enumerate","zip","dict_itemiterator","dict_reverseitemiterator","odict_iterator","itertools.zip_longest","itertools.pairwise"].contains n=false) (hQ:Q () s):uS M A (letOwnedTupleGo tg (.ref it) u) Q E s:=by
 unfold letOwnedTupleGo
 cases tg <;> first
  |exact uG hQ
  |(cases u <;> first
    |exact uG hQ
    |(refine uA (wpAny_load ho ?_)
      rw [hc,hd]
      show uS M A (if (["enumerate","zip","dict_itemiterator","dict_reverseitemiterator","odict_iterator","itertools.zip_longest","itertools.pairwise"].contains n && vs[0]?==some (xD _))=true then _ else _) Q E s
      rw [gK (by intro h;rw [hn,Bool.false_and] at h;cases h)]
      exact uG hQ))
def Itl (K:uR) (a:Addr):It:=
 ⟨fun i H=>∃xs x,SqL K H a xs/\xs[i]?=some x,fun i H x H'=>H'=H/\∀xs,SqL K H a xs->xs[i]?=some x,fun i H=>∃xs,SqL K H a xs/\xs.length<=i⟩
def Itr (lo:Int) (n:Nat):It:=⟨fun i _=>i < n,fun i H x H'=>H'=H/\x=.int (lo+i),fun i _=>n<=i⟩
theorem turn_list {P:uY} {w:vL} {K:uR} {tg:vQ} (a it:Addr):Turn P w K tg (Itl K a) [it] it (fun i h=>h.IsListIter it a i) where
 mem:=by simp
 obj:=fun i h st b hb=>by
  have e:b=it:=by simpa using hb
  subst e
  obtain⟨o,e,c,d⟩:=st
  exact⟨o,e,fun v z=>by rw [d] at z;cases z⟩
 keep:=fun i h h' st k=>st.at fun o e=>k it (by simp) o e
 item:=by
  intro X hP hw hK hc i pins s σ H E I hf st hg
  subst hP hw hK
  obtain⟨xs,x,hq,hx⟩:=hg
  obtain⟨its,rv,p,hz⟩:=I.list hq
  obtain⟨u,hu,ru⟩:=rv.get hx
  obtain⟨f0,f1,f2,f3,f4,f5⟩:=hf it (by simp)
  refine wpAny_pyNext_list_item st p.isList (x:=u) (by simpa using hu) fun h' st' sb=>?_
  have I1:Inv X pins σ H {s with heap:=h'}:=I.turned (t':=s.toks) (fun b o hb e=>(sb.2 b hb).trans e) f0 f1 f3 f4 f5
  obtain⟨o,e,c,d⟩:=id st'
  exact⟨u,rfl,go_of (s:={s with heap:=h'}) e c d (by decide) ⟨x,H,I1,ru,⟨rfl,fun ys hy=>by rw [I.list_inj hy hq];exact hx⟩,st',fun b hb=>(hf b hb).1⟩⟩
 done:=by
  intro X hP hw hK hc i pins s σ H E I hf st hg
  subst hP hw hK
  obtain⟨xs,hq,hx⟩:=hg
  obtain⟨its,rv,p,hz⟩:=I.list hq
  obtain⟨f0,f1,f2,f3,f4,f5⟩:=hf it (by simp)
  have hl:=rv.length
  exact wpAny_pyNext_list_end (I.ok.hd hc) st p.isList (by simp;omega) fun h' eb=>⟨rfl,I.turned (t':=s.toks) (fun b o hb e=>eb b o hb e) f0 f1 f3 f4 f5⟩
 self:=fun _ _ _ _ _ st h=>wpAny_pyIter_listiter st h
theorem turn_range {P:uY} {w:vL} {K:uR} {tg:vQ} (it:Addr) (lo:Int) (n:Nat):Turn P w K tg (Itr lo n) [it] it (fun i h=>IsRangeIter h it (lo+(i:Nat)*1) ((n:Int) - (i:Nat)) 1) where
 mem:=by simp
 obj:=fun i h st b hb=>by
  have e:b=it:=by simpa using hb
  subst e
  exact⟨_,st,fun v z=>by
   have z':Data.fields _=gF v:=z
   cases z'⟩
 keep:=fun i h h' st k=>k it (by simp) _ st
 item:=by
  intro X hP hw hK hc i pins s σ H E I hf st hg
  subst hP hw hK
  obtain⟨f0,f1,f2,f3,f4,f5⟩:=hf it (by simp)
  have W:=Walks.range (prog:=X.prog) (w:=X.w) (I.ok.hd hc) it lo 1 n
  refine W.item i s _ _ hg st fun v h' tk hv st' kk=>?_
  obtain⟨t,rfl⟩:=hv
  have I1:Inv X pins σ H {s with heap:=h',toks:=tk}:=I.turned (fun b o hb e=>kk b o (by simpa using hb) e) f0 f1 f3 f4 f5
  refine⟨_,rfl,go_of (s:={s with heap:=h',toks:=tk}) (n:="range_iterator") st' rfl rfl (by decide) ⟨.int (lo+i),H,I1,⟨t,?_⟩,⟨rfl,rfl⟩,st',fun b hb=>(hf b hb).1⟩⟩
  rw [Int.mul_one]
 done:=by
  intro X hP hw hK hc i pins s σ H E I hf st hg
  subst hP hw hK
  obtain⟨f0,f1,f2,f3,f4,f5⟩:=hf it (by simp)
  exact wpAny_pyNext_range_end (I.ok.hd hc) st (by have:n<=i:=hg;omega) fun h' eb=>⟨rfl,I.turned (t':=s.toks) (fun b o hb e=>eb b o hb e) f0 f1 f3 f4 f5⟩
 self:=fun _ _ _ _ _ st h=>wpAny_pyIter_rangeiter st h
section
variable {X: Cx} {tg: vQ}
def iList (K:uR) (tl:TE):TI:=fun σ H R=>tl σ H fun x H1=>∃a,x=.ref a/\(∃xs,SqL K H1 a xs)/\R (Itl K a) H1
theorem qau {l:vQ} {tl:TE} (hl:PE X l tl):PI X tg l (iList X.K tl):=by
 intro pins s σ H R I h
 refine thn (hl pins s σ H _ I h) fun v s1 ⟨x,H1,I1,r1,q1⟩=>?_
 obtain⟨a,e,⟨xs,hq⟩,q⟩:=q1
 subst e
 cases r1
 obtain⟨its,rv,p,hz⟩:=I1.list hq
 refine bB p.isList ?_
 refine⟨s1.heap.objs.size, [s1.heap.objs.size],_,_,H1,rfl,I1.kept (t':=s1.toks) fun b o e=>uD _ e,turn_list a _,⟨_,uP _ rfl,rfl,rfl⟩,fun b hb=>?_,q⟩
 have e:b=s1.heap.objs.size:=by simpa using hb
 subst e
 exact I1.fpOk (uF _) (I1.hok.fresh (uF _))
theorem range_it {pins:List (Addr × Obj)} {σ:St} {H:Hp} {s:uE} {R:It->Hp->Prop} {E:uC->uE->Prop} {lo hi:Int} {t u v:Tok} {tk:Nat} (I:Inv X pins σ H s) (h1: -(2^62)<=lo) (h2:lo < 2^62) (h3: -(2^62)<=hi) (h4:hi < 2^62)
  (q:R (Itr lo (hi - lo).toNat) H):uS (uV X.prog X.w) X.A (pyIter (.ref s.heap.objs.size)) (PIE X pins σ tg R) E {s with heap:=s.heap.push {cls:=.type "range",data:=.fields #[.int lo t,.int hi u,.int 1 v]},toks:=tk}:=by
 refine wpAny_pyIter_range (IsRange.new ..) (small_one h1 h2 h3 h4) ?_
 have I1:Inv X pins σ H {s with heap:=s.heap.push {cls:=.type "range",data:=.fields #[.int lo t,.int hi u,.int 1 v]},toks:=tk}:=I.kept fun b o e=>uD _ e
 refine⟨(s.heap.push {cls:=.type "range",data:=.fields #[.int lo t,.int hi u,.int 1 v]}).objs.size, [(s.heap.push {cls:=.type "range",data:=.fields #[.int lo t,.int hi u,.int 1 v]}).objs.size],_,_,H,rfl,
  I1.kept (t':=tk) fun b o e=>uD _ e,turn_range _ lo (hi - lo).toNat,?_,fun b hb=>?_,q⟩
 .have e1:lo+((0:Nat):Int)*1=lo:=by simp
  have e2:(((hi - lo).toNat:Nat):Int) - ((0:Nat):Int)=Builtin.Range.rangeSize lo hi 1:=by rw [rangeSize_one];split <;> omega
  show IsRangeIter _ _ (lo+((0:Nat):Int)*1) ((((hi - lo).toNat:Nat):Int) - ((0:Nat):Int)) 1
  rw [e1,e2]
  exact uP _ rfl
 .have e:b=(s.heap.push {cls:=.type "range",data:=.fields #[.int lo t,.int hi u,.int 1 v]}).objs.size:=by simpa using hb
  subst e
  exact I1.fpOk (uF _) (I1.hok.fresh (uF _))
def iRng1 (ta:TA):TI:=fun σ H R=>ta σ H fun vs H1=>∃j:Int,vs=[.int j]/\-(2^62)<=j/\j < 2^62/\R (Itr 0 j.toNat) H1
def iRng2 (ta:TA):TI:=fun σ H R=>ta σ H fun vs H1=>∃i j:Int,vs=[.int i,.int j]/\(-(2^62)<=i/\i < 2^62/\-(2^62)<=j/\j < 2^62)/\R (Itr i (j - i).toNat) H1
theorem qbt {a:vQ} {ta:TA} {p pos:Pos} (hg:Gl X "range") (hm:X.mg "range" =none) (ha:PA X [a] ta) (hs:uZ [a] X.env=[(false,wG a X.env)]:=by rfl):PI X tg (.Call (.Name "range" p) [a] [] pos) (iRng1 ta):=by
 intro pins s σ H R I h
 refine Call_ (qe0 I hg hm boot_range (wD (thn (ha pos pins s σ H _ I h) fun us s1 ⟨vs,H1,I1,r1,q1⟩=>?_) hs rfl))
 obtain⟨j,e,q1,q2,q⟩:=q1
 subst e
 cases r1 with
 |cons r rr=>
  cases rr
  obtain⟨t,rfl⟩:=r
  exact call_range_1 (range_it I1 (by omega) (by omega) q1 q2 (by simpa using q))
theorem pi_range2 {a b:vQ} {ta:TA} {p pos:Pos} (hg:Gl X "range") (hm:X.mg "range" =none) (ha:PA X [a,b] ta) (hs:uZ [a,b] X.env=[(false,wG a X.env),(false,wG b X.env)]:=by rfl) (hs2:uZ [b] X.env=[(false,wG b X.env)]:=by rfl):
  PI X tg (.Call (.Name "range" p) [a,b] [] pos) (iRng2 ta):=by
 intro pins s σ H R I h
 refine Call_ (qe0 I hg hm boot_range (wD (thn (ha pos pins s σ H _ I h) fun us s1 ⟨vs,H1,I1,r1,q1⟩=>?_) (by rw [hs,hs2]) (by rw [hs2];rfl)))
 obtain⟨i,j,e,⟨q1,q2,q3,q4⟩,q⟩:=q1
 subst e
 cases r1 with
 |cons r rr=>
  cases rr with
  |cons r' rr=>
   cases rr
   obtain⟨t,rfl⟩:=r
   obtain⟨t',rfl⟩:=r'
   exact call_range_2 (range_it I1 q1 q2 q3 q4 q)
def tFor (wi:TI) (g:TG) (tb:TS):TS:=fun D σ H=>wi σ H fun J H1=>∃W:Nat->Nat->St->Hp->Prop,(∃m,W 0 m σ H1)/\∀i m σ H,W i m σ H->
 (J.stop i H/\D.nx σ H)\/(J.go i H/\∃N:St->Hp->Prop,(∀σ' H',N σ' H'->∃m',m' < m/\W (i+1) m' σ' H')/\∀x H',J.yld i H x H'->g x σ H' fun σ2 H2=>tb {D with nx:=N,ct:=N,bk:=D.nx} σ2 H2)
def qbs (fp:List Addr) (h:vP):List (Addr × Obj):=fp.filterMap fun b=>(h.get? b).map fun o=>(b,o)
theorem qbr {fp:List Addr} {h:vP} {b:Addr} {o:Obj} (hb:b∈fp) (e:h.get? b=some o):(b,o)∈qbs fp h:=List.mem_filterMap.mpr ⟨b,hb,by rw [e];rfl⟩
theorem of_pinsAt {fp:List Addr} {h:vP} {p:Addr × Obj} (hp:p∈qbs fp h):p.1∈fp/\h.get? p.1=some p.2:=by
 obtain⟨b,hb,e⟩:=List.mem_filterMap.mp hp
 cases q:h.get? b with
 |none=>rw [q] at e;cases e
 |some o=>
  rw [q] at e
  have e':(b,o)=p:=uW e
  subst e'
  exact⟨hb,q⟩
theorem Inv.pinned {pins:List (Addr × Obj)} {σ:St} {H:Hp} {s:uE} {fp:List Addr} (I:Inv X pins σ H s) (hf:∀b∈fp,qgc X pins H b) (ho:∀b∈fp,∃o,s.heap.get? b=some o/\∀v,o.data≠ .cell v):Inv X (pins++qbs fp s.heap) σ H s:=
 I.pins_of fun p hp=>(zR.mp hp).elim (fun z=>I.pin p (zP _ z)) fun z=>by
  obtain⟨hb,e⟩:=of_pinsAt z
  obtain⟨f0,f1,f2,_⟩:=hf p.1 hb
  obtain⟨o,e',d⟩:=ho p.1 hb
  rw [e] at e';cases e'
  exact⟨e,f0,f1,f2,d⟩
theorem Inv.unpinned {pins pl:List (Addr × Obj)} {σ:St} {H:Hp} {s:uE} (I:Inv X (pins++pl) σ H s):Inv X pins σ H s:=I.pins_of fun p hp=>I.pin p (zP _ (yG _ hp))
theorem qb8 {iter:vQ} {body:List Stmt} {wi:TI} {g:TG} {tb:TS} {pos:Pos} (hp:PassesOwn (uV X.prog X.w) X.A X.env X.xe) (hc:X.calm=true) (hi:PI X tg iter wi) (hg:PG X tg g) (hb:PSs X body tb)
  (hs:∀x,cJ iter X.env x=pure x:=by intro _;rfl):PS X (.For tg iter body [] pos) (tFor wi g tb):=by
 intro pins s σ H D I h
 refine wpAny_For (thn (hi pins s σ H _ I h) fun v s1 h1=>thn h1 fun itv s2 h2=>?_) hs
 obtain⟨it,fp,tn,J,H2,e,I2,T,st2,f2,W,⟨m0,w0⟩,turn⟩:=h2
 subst e
 have stat:∀{H':Hp},(∀b∈fp,H' b=none)->∀b∈fp,qgc X pins H' b:=fun hn b hb=>⟨hn b hb,(f2 b hb).2⟩
 refine codeAny_forLoop_any (fun n s'=>∃i σ' H',Inv X pins σ' H' s'/\tn i s'.heap/\(∀b∈fp,H' b=none)/\W i n σ' H') ?_ m0 ⟨0,σ,H2,I2,st2,fun b hb=>(f2 b hb).1,w0⟩
 rintro n s3 ⟨i,σ3,H3,I3,st3,fr3,w3⟩
 rcases turn i n σ3 H3 w3 with ⟨stop,qn⟩ |⟨go,N,hN,step⟩
 .refine xT hp (thn (T.done X rfl rfl rfl hc i pins s3 σ3 H3 X.xe I3 (stat fr3) st3 stop) fun r s4 ⟨hr,I4⟩=>?_)
  subst hr
  exact dM ⟨σ3,H3,I4,qn⟩
 .refine xT hp (thn (T.item X rfl rfl rfl hc i pins s3 σ3 H3 X.xe I3 (stat fr3) st3 go) fun r s4 ⟨u,hr,h4⟩=>?_)
  subst hr
  refine xT hp (thn h4 fun _ s5 ⟨x,H5,I5,r5,y5,st5,fr5⟩=>?_)
  have I5':=I5.pinned (stat fr5) (T.obj _ _ st5)
  refine xT hp (thn (hg _ s5 σ3 H5 x u _ I5' r5 (step x H5 y5)) fun _ s6 ⟨σ6,H6,I6,q6⟩=>?_)
  refine xT hp (thn (hb _ s6 σ6 H6 _ I6 q6) fun f s7 q7=>?_)
  have again:∀{σ7:St} {H7:Hp},Inv X (pins++qbs fp s5.heap) σ7 H7 s7->N σ7 H7->∃m,m < n/\∃i σ' H',Inv X pins σ' H' s7/\tn i s7.heap/\(∀b∈fp,H' b=none)/\W i m σ' H':=fun {σ7 H7} I7 n7=>by
   obtain⟨m',hm,w7⟩:=hN σ7 H7 n7
   refine⟨m',hm,i+1,σ7,H7,I7.unpinned,T.keep _ _ _ st5 fun b hb o e=>(I7.pin (b,o) (zP _ (zP _ (qbr hb e)))).1,fun b hb=>?_,w7⟩
   obtain⟨o,e,d⟩:=T.obj _ _ st5 b hb
   exact(I7.pin (b,o) (zP _ (zP _ (qbr hb e)))).2.1
  cases f with
  |next=>obtain⟨σ7,H7,I7,n7⟩:=q7;exact again I7 n7
  |cont=>obtain⟨σ7,H7,I7,n7⟩:=q7;exact again I7 n7
  |brk=>obtain⟨σ7,H7,I7,q7⟩:=q7;exact⟨σ7,H7,I7.unpinned,q7⟩
  |ret v=>obtain⟨x7,σ7,H7,I7,r7,q7⟩:=q7;exact⟨x7,σ7,H7,I7.unpinned,r7,q7⟩
end
theorem for_list {K:uR} {a:Addr} {xs:List V} {g:TG} {tb:TS} {D:Ends} {σ:St} {H:Hp} (Pv:Nat->St->Hp->Prop) (h0:Pv 0 σ H) (hl:∀i σ H,i<=xs.length->Pv i σ H->SqL K H a xs)
  (hs:∀i x σ H,xs[i]?=some x->Pv i σ H->g x σ H fun σ2 H2=>tb {D with nx:=Pv (i+1),ct:=Pv (i+1),bk:=D.nx} σ2 H2) (hd:∀σ H,Pv xs.length σ H->D.nx σ H):
  ∃W:Nat->Nat->St->Hp->Prop,(∃m,W 0 m σ H)/\∀i m σ H,W i m σ H->
   ((Itl K a).stop i H/\D.nx σ H)\/((Itl K a).go i H/\∃N:St->Hp->Prop,(∀σ' H',N σ' H'->∃m',m' < m/\W (i+1) m' σ' H')/\∀x H',(Itl K a).yld i H x H'->g x σ H' fun σ2 H2=>tb {D with nx:=N,ct:=N,bk:=D.nx} σ2 H2):=by
 refine⟨fun i m σ H=>m=xs.length - i/\i<=xs.length/\Pv i σ H,⟨xs.length,by simp,vY _,h0⟩,?_⟩
 rintro i m σ H ⟨rfl,hi,p⟩
 have q:=hl i σ H hi p
 by_cases hlt:i < xs.length
 .refine .inr ⟨⟨xs,xs[i],q,by simp [hlt]⟩,Pv (i+1),fun σ' H' p'=>⟨xs.length - (i+1),by omega,rfl,hlt,p'⟩,fun x H' y=>?_⟩
  obtain⟨e,y⟩:=y
  subst e
  exact hs i x σ _ (y xs q) p
 .have e:i=xs.length:=by omega
  subst e
  exact .inl ⟨⟨xs,q,uF _⟩,hd σ H p⟩
theorem for_range {lo:Int} {n:Nat} {g:TG} {tb:TS} {D:Ends} {σ:St} {H:Hp} (Pv:Nat->St->Hp->Prop) (h0:Pv 0 σ H)
  (hs:∀i σ H,i < n->Pv i σ H->g (.int (lo+i)) σ H fun σ2 H2=>tb {D with nx:=Pv (i+1),ct:=Pv (i+1),bk:=D.nx} σ2 H2) (hd:∀σ H,Pv n σ H->D.nx σ H):
  ∃W:Nat->Nat->St->Hp->Prop,(∃m,W 0 m σ H)/\∀i m σ H,W i m σ H->
   ((Itr lo n).stop i H/\D.nx σ H)\/((Itr lo n).go i H/\∃N:St->Hp->Prop,(∀σ' H',N σ' H'->∃m',m' < m/\W (i+1) m' σ' H')/\∀x H',(Itr lo n).yld i H x H'->g x σ H' fun σ2 H2=>tb {D with nx:=N,ct:=N,bk:=D.nx} σ2 H2):=by
 refine⟨fun i m σ H=>m=n - i/\i<=n/\Pv i σ H,⟨n,by simp,vY _,h0⟩,?_⟩
 rintro i m σ H ⟨rfl,hi,p⟩
 by_cases hlt:i < n
 .refine .inr ⟨hlt,Pv (i+1),fun σ' H' p'=>⟨n - (i+1),by omega,rfl,hlt,p'⟩,fun x H' y=>?_⟩
  obtain⟨e,y⟩:=y
  subst e y
  exact hs i σ _ hlt p
 .have e:i=n:=by omega
  subst e
  exact .inl ⟨uF _,hd σ H p⟩
theorem while_by {c:TT} {tb:TS} {D:Ends} {σ:St} {H:Hp} (Pv:St->Hp->Prop) (μ:St->Hp->Nat) (h0:Pv σ H)
  (hs:∀σ H,Pv σ H->c σ H fun b H1=>if b=true then tb {D with nx:=fun σ' H'=>Pv σ' H'/\μ σ' H' < μ σ H,ct:=fun σ' H'=>Pv σ' H'/\μ σ' H' < μ σ H,bk:=D.nx} σ H1 else D.nx σ H1)
  (mono:∀σ H Q Q',(∀b H1,Q b H1->Q' b H1)->c σ H Q->c σ H Q'):tWhile c tb D σ H:=by
 refine⟨fun m σ H=>m=μ σ H/\Pv σ H,⟨_,rfl,h0⟩,?_⟩
 rintro m σ H ⟨rfl,p⟩
 refine mono σ H _ _ (fun b H1 q=>?_) (hs σ H p)
 cases b with
 |true=>exact⟨_,fun σ' H' ⟨p',l⟩=>⟨_,l,rfl,p'⟩,q⟩
 |false=>exact q
abbrev R2:=V->V->Hp->VK->Prop
def OpR (X:Cx) (f:uC->uC->Sem uC) (r:R2):Prop:=
 ∀(pins:List (Addr × Obj)) (s:uE) (σ:St) (H:Hp) (x y:V) (v u:uC) (Q:VK),Inv X pins σ H s->qbb x v->qbb y u->r x y H Q->
  uS (uV X.prog X.w) X.A (f v u) (EP X pins σ Q) X.xe s
def qc7 (X:Cx) (f:uC) (r:List V->Hp->VK->Prop):Prop:=
 ∀(pins:List (Addr × Obj)) (s:uE) (σ:St) (H:Hp) (xs:List V) (us:List uC) (Q:VK),Inv X pins σ H s->qba xs us->r xs H Q->
  uS (uV X.prog X.w) X.A (call f us) (EP X pins σ Q) X.xe s
def tOp (r:R2) (ta tb:TE):TE:=fun σ H Q=>ta σ H fun x H1=>tb σ H1 fun y H2=>r x y H2 Q
def rI (C:Int->Int->Prop) (g:Int->Int->V):R2:=fun x y H Q=>∃i j,x=.int i/\y=.int j/\C i j/\Q (g i j) H
def rI0 (g:Int->Int->V):R2:=fun x y H Q=>∃i j,x=.int i/\y=.int j/\Q (g i j) H
section
variable {X: Cx} {a b: vQ} {ta tb: TE} {pos: Pos}
theorem binT (ha:PE X a ta) (hb:PE X b tb) {pins:List (Addr × Obj)} {s:uE} {σ:St} {H:Hp} {R:V->V->Hp->Prop} (I:Inv X pins σ H s)
  (h:ta σ H fun x H1=>tb σ H1 fun y H2=>R x y H2) {Q:uC->uE->Prop} {f:uC->uC->Sem uC}
  (hf:∀v u s2 x y H2,Inv X pins σ H2 s2->qbb x v->qbb y u->R x y H2->uS (uV X.prog X.w) X.A (f v u) Q X.xe s2):
  uS (uV X.prog X.w) X.A (wG a X.env) (fun v s₁=>uS (uV X.prog X.w) X.A (wG b X.env) (fun u s₂=>uS (uV X.prog X.w) X.A (f v u) Q X.xe s₂) X.xe s₁) X.xe s:=by
 refine thn (ha pins s σ H _ I h) fun v s1 ⟨x,H1,I1,r1,q1⟩=>?_
 refine thn (hb pins s1 σ H1 _ I1 q1) fun u s2 ⟨y,H2,I2,r2,q2⟩=>?_
 exact hf v u s2 x y H2 I2 r1 r2 q2
theorem qam {op:Operator} {r:R2} (ho:OpR X (bC op) r) (ha:PE X a ta) (hb:PE X b tb):PE X (.BinOp a op b pos) (tOp r ta tb):=by
 intro pins s σ H Q I h
 exact wpAny_BinOp (binT ha hb I h fun v u s2 x y H2 I2 rx ry q=>ho pins s2 σ H2 x y v u Q I2 rx ry q)
theorem opI {f:uC->uC->Sem uC} {C:Int->Int->Prop} {g:Int->Int->Int}
  (rule:∀(i j:Int) (t u:Tok) (s:uE) (Q:uC->uE->Prop) (E:uC->uE->Prop),C i j->Q (.int (g i j) s.toks) {s with toks:=s.toks+1}->uS (uV X.prog X.w) X.A (f (.int i t) (.int j u)) Q E s):
  OpR X f (rI C fun i j=> .int (g i j)):=by
 intro pins s σ H x y v u Q I rx ry h
 obtain⟨i,j,rfl,rfl,hc,q⟩:=h
 obtain⟨t,rfl⟩:=rx
 obtain⟨t',rfl⟩:=ry
 exact rule i j t t' s _ _ hc ⟨.int (g i j),H,I.tok _,⟨_,rfl⟩,q⟩
theorem opI0 {f:uC->uC->Sem uC} {g:Int->Int->Int}
  (rule:∀(i j:Int) (t u:Tok) (s:uE) (Q:uC->uE->Prop) (E:uC->uE->Prop),Q (.int (g i j) s.toks) {s with toks:=s.toks+1}->uS (uV X.prog X.w) X.A (f (.int i t) (.int j u)) Q E s):
  OpR X f (rI0 fun i j=> .int (g i j)):=by
 intro pins s σ H x y v u Q I rx ry h
 obtain⟨i,j,rfl,rfl,q⟩:=h
 obtain⟨t,rfl⟩:=rx
 obtain⟨t',rfl⟩:=ry
 exact rule i j t t' s _ _ ⟨.int (g i j),H,I.tok _,⟨_,rfl⟩,q⟩
theorem opB0 {f:uC->uC->Sem uC} {g:Int->Int->Bool}
  (rule:∀(i j:Int) (t u:Tok) (s:uE) (Q:uC->uE->Prop) (E:uC->uE->Prop),Q (.bool (g i j)) s->uS (uV X.prog X.w) X.A (f (.int i t) (.int j u)) Q E s):
  OpR X f (rI0 fun i j=> .bl (g i j)):=by
 intro pins s σ H x y v u Q I rx ry h
 obtain⟨i,j,rfl,rfl,q⟩:=h
 obtain⟨t,rfl⟩:=rx
 obtain⟨t',rfl⟩:=ry
 exact rule i j t t' s _ _ ⟨.bl (g i j),H,I,rfl,q⟩
def CPow (i j:Int):Prop:=0<=j/\j<=1000000/\i.natAbs < 2^64
theorem qb0:OpR X (bC .Add) (rI0 fun i j=> .int (i+j)):=opI0 fun _ _ _ _ _ _ _ q=>add_int q
theorem qez:OpR X (bC .Sub) (rI0 fun i j=> .int (i - j)):=opI0 fun _ _ _ _ _ _ _ q=>sub_int q
theorem qc5:OpR X (bC .Mod) (rI (fun _ j=>0 < j) fun i j=> .int (i%j)):=opI fun i j _ _ _ _ _ hc q=>by
 have h1:(0:Int) < j:=hc
 exact mod_int' (by omega) (by rw [Int.fmod_eq_emod_of_nonneg i (by omega)];exact q)
theorem op_pow:OpR X (bC .Pow) (rI CPow fun i j=> .int (i^j.toNat)):=opI fun _ _ _ _ _ _ _ hc q=>pow_int_small hc.1 hc.2.1 hc.2.2 q
end
def scal:V->V->Bool
 | .non,.non=>true| .non,.int _=>true| .int _,.non=>true| .non,.bl _=>true| .bl _,.non=>true| .non,.str _=>true| .str _,.non=>true
 | .int _,.int _=>true| .bl _,.bl _=>true| .str _,.str _=>true| .byt _,.byt _=>true
 | .int _,.str _=>true| .str _,.int _=>true| .bl _,.str _=>true| .str _,.bl _=>true
 |_,_=>false
def rEq:R2:=fun x y H Q=>scal x y=true/\Q (.bl (decide (x=y))) H
def rNe:R2:=fun x y H Q=>scal x y=true/\Q (.bl (!decide (x=y))) H
theorem dec_int {i j:Int}:decide (V.int i=V.int j)=(i==j):=by
 rw [xU]
 simp
theorem dec_bl {i j:Bool}:decide (V.bl i=V.bl j)=(i==j):=by
 rw [xU]
 simp
theorem dec_str {i j:Str}:decide (V.str i=V.str j)=(i==j):=by
 rw [xU]
 simp
theorem dec_byt {i j:Array UInt8}:decide (V.byt i=V.byt j)=(i.toList==j.toList):=by
 rw [xU]
 cases i
 cases j
 simp
section
variable {X: Cx} {a b c: vQ} {ta tb tc: TE} {pos: Pos}
theorem qb5 {pins:List (Addr × Obj)} {σ:St} {H:Hp} {s:uE} {Q:VK} {k k':Bool} (I:Inv X pins σ H s) (q:Q (.bl k) H) (e:k=k'):EP X pins σ Q (.bool k') s:=by
 subst e
 exact⟨.bl k,H,I,rfl,q⟩
theorem qdo:OpR X (wC .Eq) rEq:=by
 intro pins s σ H x y v u Q I rx ry h
 obtain⟨hs,q⟩:=h
 cases x with
 |non=>
  cases rx
  cases y with
  |non=>cases ry;exact PySem.EqNone.eq_none_none (qb5 I q (by simp))
  |bl j=>cases ry;exact PySem.EqNone.eq_none_bool (qb5 I q (by simp))
  |int j=>obtain⟨t',rfl⟩:=ry;exact PySem.EqNone.eq_none_int (qb5 I q (by simp))
  |str j=>obtain⟨t',rfl⟩:=ry;exact PySem.EqNone.eq_none_str (qb5 I q (by simp))
  |_=>exact absurd (show false=true from hs) uJ
 |bl i=>
  cases rx
  cases y with
  |non=>cases ry;exact PySem.EqNone.eq_bool_none (qb5 I q (by simp))
  |bl j=>cases ry;exact eq_bool (qb5 I q dec_bl)
  |str j=>obtain⟨t',rfl⟩:=ry;exact PySem.EqMixed.eq_bool_str (qb5 I q (by simp))
  |_=>exact absurd (show false=true from hs) uJ
 |int i=>
  obtain⟨t,rfl⟩:=rx
  cases y with
  |non=>cases ry;exact PySem.EqNone.eq_int_none (qb5 I q (by simp))
  |int j=>obtain⟨t',rfl⟩:=ry;exact eq_int (qb5 I q dec_int)
  |str j=>obtain⟨t',rfl⟩:=ry;exact PySem.EqMixed.eq_int_str (qb5 I q (by simp))
  |_=>exact absurd (show false=true from hs) uJ
 |str i=>
  obtain⟨t,rfl⟩:=rx
  cases y with
  |non=>cases ry;exact PySem.EqNone.eq_str_none (qb5 I q (by simp))
  |bl j=>cases ry;exact PySem.EqMixed.eq_str_bool (qb5 I q (by simp))
  |int j=>obtain⟨t',rfl⟩:=ry;exact PySem.EqMixed.eq_str_int (qb5 I q (by simp))
  |str j=>obtain⟨t',rfl⟩:=ry;exact eq_str (qb5 I q dec_str)
  |_=>exact absurd (show false=true from hs) uJ
 |byt i=>
  obtain⟨t,rfl⟩:=rx
  cases y with
  |byt j=>obtain⟨t',rfl⟩:=ry;exact PySem.W.eq_bytes (qb5 I q dec_byt)
  |_=>exact absurd (show false=true from hs) uJ
 |_=>cases y <;> exact absurd (show false=true from hs) uJ
theorem op_ne:OpR X (wC .NotEq) rNe:=by
 intro pins s σ H x y v u Q I rx ry h
 obtain⟨hs,q⟩:=h
 cases x with
 |non=>
  cases rx
  cases y with
  |non=>cases ry;exact PySem.EqNone.ne_none_none (qb5 I q (by simp))
  |bl j=>cases ry;exact PySem.EqNone.ne_none_bool (qb5 I q (by simp))
  |int j=>obtain⟨t',rfl⟩:=ry;exact PySem.EqNone.ne_none_int (qb5 I q (by simp))
  |str j=>obtain⟨t',rfl⟩:=ry;exact PySem.EqNone.ne_none_str (qb5 I q (by simp))
  |_=>exact absurd (show false=true from hs) uJ
 |bl i=>
  cases rx
  cases y with
  |non=>cases ry;exact PySem.EqNone.ne_bool_none (qb5 I q (by simp))
  |bl j=>cases ry;exact ne_bool (qb5 I q (congrArg not dec_bl))
  |str j=>obtain⟨t',rfl⟩:=ry;exact PySem.EqMixed.ne_bool_str (qb5 I q (by simp))
  |_=>exact absurd (show false=true from hs) uJ
 |int i=>
  obtain⟨t,rfl⟩:=rx
  cases y with
  |non=>cases ry;exact PySem.EqNone.ne_int_none (qb5 I q (by simp))
  |int j=>obtain⟨t',rfl⟩:=ry;exact ne_int (qb5 I q (congrArg not dec_int))
  |str j=>obtain⟨t',rfl⟩:=ry;exact PySem.EqMixed.ne_int_str (qb5 I q (by simp))
  |_=>exact absurd (show false=true from hs) uJ
 |str i=>
  obtain⟨t,rfl⟩:=rx
  cases y with
  |non=>cases ry;exact PySem.EqNone.ne_str_none (qb5 I q (by simp))
  |bl j=>cases ry;exact PySem.EqMixed.ne_str_bool (qb5 I q (by simp))
  |int j=>obtain⟨t',rfl⟩:=ry;exact PySem.EqMixed.ne_str_int (qb5 I q (by simp))
  |str j=>obtain⟨t',rfl⟩:=ry;exact ne_str (qb5 I q (congrArg not dec_str))
  |_=>exact absurd (show false=true from hs) uJ
 |byt i=>
  obtain⟨t,rfl⟩:=rx
  cases y with
  |byt j=>obtain⟨t',rfl⟩:=ry;exact PySem.W.ne_bytes (qb5 I q (congrArg not dec_byt))
  |_=>exact absurd (show false=true from hs) uJ
 |_=>cases y <;> exact absurd (show false=true from hs) uJ
theorem op_lt:OpR X (wC .Lt) (rI0 fun i j=> .bl (decide (i < j))):=opB0 fun _ _ _ _ _ _ _ q=>lt_int q
theorem op_le:OpR X (wC .LtE) (rI0 fun i j=> .bl (decide (i<=j))):=opB0 fun _ _ _ _ _ _ _ q=>le_int q
theorem qfd:OpR X (wC .Gt) (rI0 fun i j=> .bl (decide (j < i))):=opB0 fun _ _ _ _ _ _ _ q=>gt_int q
theorem op_ge:OpR X (wC .GtE) (rI0 fun i j=> .bl (decide (j<=i))):=opB0 fun _ _ _ _ _ _ _ q=>ge_int q
theorem op_in_str:OpR X (wC .In) (fun x y H Q=>∃i j,x=.str i/\y=.str j/\Q (.bl (!(aT j i 0 j.length 1).isEmpty)) H):=by
 intro pins s σ H x y v u Q I rx ry h
 obtain⟨i,j,rfl,rfl,q⟩:=h
 obtain⟨t,rfl⟩:=rx
 obtain⟨t',rfl⟩:=ry
 exact in_str (qb5 I q rfl)
theorem op_isN:OpR X (wC .Is) (fun x y H Q=>y=.non/\Q (.bl (decide (x=.non))) H):=by
 intro pins s σ H x y v u Q I rx ry h
 obtain⟨rfl,q⟩:=h
 cases ry
 refine is_none_gen (qb5 I q ?_)
 cases x <;> first
  |(cases rx;rfl)
  |(obtain⟨t,rfl⟩:=rx;rfl)
theorem op_notN:OpR X (wC .IsNot) (fun x y H Q=>y=.non/\Q (.bl (!decide (x=.non))) H):=by
 intro pins s σ H x y v u Q I rx ry h
 obtain⟨rfl,q⟩:=h
 cases ry
 refine isnot_none_gen (qb5 I q ?_)
 cases x <;> first
  |(cases rx;rfl)
  |(obtain⟨t,rfl⟩:=rx;rfl)
theorem qat (b:vQ) {op:CmpOp} (h:op≠ .In:=by decide) (h2:op≠ .NotIn:=by decide):bO op b=false:=by
 have e1:(op==CmpOp.In)=false:=by cases op <;> first|rfl|exact absurd rfl h
 have e2:(op==CmpOp.NotIn)=false:=by cases op <;> first|rfl|exact absurd rfl h2
 cases b <;> simp [bO,e1,e2]
theorem qbv {op:CmpOp} {r:R2} (ho:OpR X (wC op) r) (ha:PE X a ta) (hb:PE X b tb) (hm:bO op b=false):PE X (.Compare a [op] [b] pos) (tOp r ta tb):=by
 intro pins s σ H Q I h
 exact wpAny_Compare1 (binT ha hb I h fun v u s2 x y H2 I2 rx ry q=>ho pins s2 σ H2 x y v u Q I2 rx ry q) hm
def tTest (t:TE):TT:=fun σ H Q=>t σ H fun x H'=>∃k,x=.bl k/\Q k H'
theorem qan {op:CmpOp} {r:R2} (ho:OpR X (wC op) r) (ha:PE X a ta) (hb:PE X b tb) (hm:bO op b=false):PT X (.Compare a [op] [b] pos) (tTest (tOp r ta tb)):=by
 intro pins s σ H Q I h
 refine wpAny_isTrue_Compare1 (thn (ha pins s σ H _ I h) fun v s1 ⟨x,H1,I1,r1,q1⟩=>thn (hb pins s1 σ H1 _ I1 q1) fun u s2 ⟨y,H2,I2,r2,q2⟩=>
  thn (ho pins s2 σ H2 x y v u _ I2 r1 r2 q2) fun c s3 ⟨z,H3,I3,r3,k,e,q3⟩=>?_) hm
 subst e
 cases r3
 exact wI ⟨H3,I3,q3⟩
def tChain (r r':R2) (ta tb tc:TE):TE:=fun σ H Q=>ta σ H fun x H1=>tb σ H1 fun y H2=>r x y H2 fun z H3=>∃k,z=.bl k/\
 (if k=true then tc σ H3 fun w' H4=>r' y w' H4 Q else Q (.bl false) H3)
theorem pe_chain {op op':CmpOp} {r r':R2} (ho:OpR X (wC op) r) (ho':OpR X (wC op') r') (ha:PE X a ta) (hb:PE X b tb) (hc:PE X c tc)
  (hm:lastMarks [op,op'] [b,c]=false:=by with_unfolding_all rfl):PE X (.Compare a [op,op'] [b,c] pos) (tChain r r' ta tb tc):=by
 intro pins s σ H Q I h
 refine Compare_chain (thn (ha pins s σ H _ I h) fun v s1 ⟨x,H1,I1,r1,q1⟩=>chain_link (thn (hb pins s1 σ H1 _ I1 q1) fun u s2 ⟨y,H2,I2,r2,q2⟩=>
  thn (ho pins s2 σ H2 x y v u _ I2 r1 r2 q2) fun d s3 ⟨z,H3,I3,r3,k,e,q3⟩=>?_)) hm
 subst e
 cases r3
 refine wI ?_
 cases k with
 |false=>exact ite_ff ⟨.bl false,H3,I3,rfl,q3⟩
 |true=>exact ite_tt (chain_last (thn (hc pins s3 σ H3 _ I3 q3) fun w' s4 ⟨z',H4,I4,r4,q4⟩=>ho' pins s4 σ H4 y z' u w' Q I4 r2 r4 q4))
theorem line63:(sizeLine:Nat) < 2^63:=by rw [aU];decide
theorem op_add_str:OpR X (bC .Add) (fun x y H Q=>∃i j,x=.str i/\y=.str j/\i.length+j.length<=sizeLine/\Q (.str (i++j)) H):=by
 intro pins s σ H x y v u Q I rx ry h
 obtain⟨i,j,rfl,rfl,hz,q⟩:=h
 obtain⟨t,rfl⟩:=rx
 obtain⟨t',rfl⟩:=ry
 exact add_str (fun t' tk=>⟨.str (i++j),H,I.tok _,⟨_,rfl⟩,q⟩) hz
theorem vals1 {x:V} {us:List uC} (r:qba [x] us):∃u,us=[u]/\qbb x u:=by
 cases r with
 |cons r1 r2=>cases r2;exact⟨_,rfl,r1⟩
theorem vals2 {x y:V} {us:List uC} (r:qba [x,y] us):∃u w',us=[u,w']/\qbb x u/\qbb y w':=by
 cases r with
 |cons r1 r2=>
  cases r2 with
  |cons r3 r4=>cases r4;exact⟨_,_,rfl,r1,r3⟩
theorem call_max2 (hc:X.calm=true):qc7 X (.builtin "max") (fun xs H Q=>∃i j,xs=[.int i,.int j]/\Q (.int (if j > i then j else i)) H):=by
 intro pins s σ H xs us Q I r h
 obtain⟨i,j,rfl,q⟩:=h
 obtain⟨u,w',rfl,⟨t,rfl⟩,⟨t',rfl⟩⟩:=vals2 r
 refine max_two_ints (I.ok.hd hc) fun h' tk k=>⟨_,H,I.kept k,?_,q⟩
 by_cases hj:j > i
 .rw [gL hj,gL hj];exact⟨_,rfl⟩
 .rw [gK hj,gK hj];exact⟨_,rfl⟩
theorem call_min2 (hc:X.calm=true):qc7 X (.builtin "min") (fun xs H Q=>∃i j,xs=[.int i,.int j]/\Q (.int (if j < i then j else i)) H):=by
 intro pins s σ H xs us Q I r h
 obtain⟨i,j,rfl,q⟩:=h
 obtain⟨u,w',rfl,⟨t,rfl⟩,⟨t',rfl⟩⟩:=vals2 r
 refine min_two_ints (I.ok.hd hc) fun h' tk k=>⟨_,H,I.kept k,?_,q⟩
 by_cases hj:j < i
 .rw [gL hj,gL hj];exact⟨_,rfl⟩
 .rw [gK hj,gK hj];exact⟨_,rfl⟩
end
structure ObjM (h:vP) (x dx C:Addr) (mA:Str->Option uC):Prop where
 obj:h.get? x=some (dA C dx)
 ns:h.Ns1 dx mA
 ne:dx≠x
theorem lookIn_ns {h:vP} {dx:Addr} {mA:Str->Option uC} (n:h.Ns1 dx mA):∃od,h.get? dx=some od/\∀name,lookIn name od=some (mA name):=by
 obtain⟨o,es,ep,ho,hd,hk,_,hm⟩:=n
 refine⟨o,ho,fun name=>?_⟩
 have e:=hm name
 unfold fB findBy at e
 rw [<-fD] at e
 unfold lookIn
 rw [hd]
 dsimp only
 split
 .rename_i y q
  rw [q] at e
  exact congrArg some e
 .rename_i q
  rw [q] at e
  have a:es.toList.any (·.refKey)=false:=by
   rw [fQ]
   intro y hy
   obtain⟨z,t,hkey⟩:=hk y (Array.mem_toList_iff.mp hy)
   simp [DictEntry.refKey,hkey]
  have a':¬es.toList.any (·.refKey)=true:=by rw [a];exact uJ
  rw [gK a']
  exact congrArg some e
theorem ObjM.look {h:vP} {x dx C:Addr} {mA:Str->Option uC} (I:ObjM h x dx C mA):∃od,PySem.W.InstAt h x (dA C dx) C (some od)/\∀name,lookIn name od=some (mA name):=
 let ⟨od,ho,hl⟩:=lookIn_ns I.ns
 ⟨od,⟨I.obj,rfl,rfl,ho⟩,hl⟩
section
variable {prog: uY} {w: vL} {A: vM} {E: uC -> uE -> Prop} {s: uE} {K: uR} {x dx C f: Addr} {mA: Str -> Option uC} {name: Str} {v: uC}
theorem get_map {expr:Bool} {Q:uC->uE->Prop} (X:K.In s.heap) (I:ObjM s.heap x dx C mA) (hg:plainGet K C name=true) (hh:gD K C=true)
  (ha:vS K (.ref C) name=some none) (hv:mA name=some v) (hv':PySem.W.handedIn v=true) (h:Q v {s with toks:=s.toks+1}):
  uS (uV prog w) A (getAttr (.ref x) name expr) Q E s:=by
 obtain⟨od,J,hl⟩:=I.look
 exact PySem.W.get_value X J (eP hg).1 (PySem.W.findObj_own hh ha rfl (by rw [hl,hv])) hv' h
theorem get_meth {pl:Sem Bool} {Q:uC × List uC->uE->Prop} (X:K.In s.heap) (I:ObjM s.heap x dx C mA) (hg:plainGet K C name=true)
  (hf:vS K (.ref C) name=some (some (.ref f))) (ht:isFn K (.ref f)=true) (hv:mA name=none) (h:Q (.ref f, [.ref x]) s):
  uS (uV prog w) A (eG (.ref x) name pl) Q E s:=by
 obtain⟨od,J,hl⟩:=I.look
 exact PySem.W.method_fn X J (eP hg).1 (eP hg).2 hf (beq_iff_eq.mp ht) (by show (lookIn name od).map (·.isSome)=some false;rw [hl,hv];rfl) h
theorem set_map {ns:List Str} {Q:Unit->uE->Prop} (X:K.In s.heap) (I:ObjM s.heap x dx C mA)
  (hs:vS K (.ref C) "__setattr__" =some (some (.builtin "object.__setattr__"))) (hp:PySem.W.plainOver K C=true) (ht:PySem.W.takerIn K C name=some none) (hh:gD K C=true)
  (hw:PySem.Within mA ns) (hsz:ns.length<=sizeLine)
  (h:∀h',ObjM h' x dx C (fun y=>if y=name then some v else mA y)->bA dx s.heap h'->Q () {s with heap:=h',toks:=s.toks+2}):
  uS (uV prog w) A (setAttr (.ref x) name v) Q E s:=by
 obtain⟨od,J,hl⟩:=I.look
 refine PySem.W.set_plain X J hs (PySem.W.osa_open (s:={s with toks:=s.toks+1}) (r:=none) X J hp ht fun b=>?_)
 obtain⟨cd,hc,hd'⟩:=PySem.W.any_some hh
 have hx:s.heap.get? x=some ⟨.ref C,some dx,.plain,#[]⟩:=I.obj
 refine uA (uG (uA (uA (wpAny_loadPart hx (uA (PySem.W.Looks.here (s:={s with toks:=s.toks+1}) (PySem.W.looks_clsIn X hc) ?_))))))
 rw [hd']
 refine uG (a:=some dx) (uA (uG (uA ?_)))
 refine wpAny_nsSet1 (s:={s with toks:=s.toks+1}) I.ns fun h' hn2 hs2=>?_
 obtain⟨oD,esD,epD,hoD,hdD,hcD⟩:=hn2.count (PySem.Within.cons name v hw)
 refine uA (wpAny_lookBehind hoD (by rw [hdD];exact pastItsLine_dict (vN hcD (by rw [zL];omega))) ?_)
 exact uG (h _ ⟨(hs2.2 _ (xF I.ne)).trans I.obj,hn2,I.ne⟩ hs2)
theorem make_map {R:Result->uE->Prop} {vs:List uC} {kw:List (Str × uC)} (X:K.In s.heap) (hm:PySem.W.makesIn K C=true)
  (hi:vS K (.ref C) "__init__" =some (some (.ref f))) (hf:PySem.W.typeIn K (.ref f)=some (.type "function"))
  (h:bD (uV prog w) (A.under (.builtin "type.__call__" ⟨.ref C :: vs,kw⟩)) (.call (.ref f) ⟨.ref (s.heap.objs.size+1) :: vs,kw⟩) (PySem.W.InitBack (s.heap.objs.size+1) R)
   {s with heap:=(s.heap.push emptyDict).push (dA C s.heap.objs.size)}):
  bD (uV prog w) A (.call (.ref C) ⟨vs,kw⟩) R s:=by
 obtain⟨hh,g,d,t,os⟩:=s
 exact PySem.W.make_core (PySem.W.makes_of X hm) (PySem.W.looks_findIn X hi) (fun self=>PySem.W.bind_fn X self hf) (.inl rfl) h
end
def qes (f:Str) (v:V):List (Str × V)->List (Str × V)
 | []=> [(f,v)]
 |(g,x) :: r=>if g=f then (g,v) :: r else (g,x) :: qes f v r
theorem qf0 (f g:Str) (v:V):∀fs:List (Str × V),(qes f v fs).lookup g=if g=f then some v else fs.lookup g
 | []=>by
  show bS g [(f,v)]=_
  by_cases h:g=f
  .have hb:(g==f)=true:=beq_iff_eq.mpr h
   simp only [bS,hb,gL h]
  .have hb:(g==f)=false:=beq_eq_false_iff_ne.mpr h
   simp only [bS,hb,gK h]
 |(k,x) :: r=>by
  have ih:=qf0 f g v r
  rw [show qes f v ((k,x) :: r)=(if k=f then (k,v) :: r else (k,x) :: qes f v r) from rfl]
  by_cases hk:k=f
  .rw [gL hk]
   by_cases h:g=k
   .have hb:(g==k)=true:=beq_iff_eq.mpr h
    simp only [bS,hb,gL (h.trans hk)]
   .have hb:(g==k)=false:=beq_eq_false_iff_ne.mpr h
    simp only [bS,hb,gK (fun e:g=f=>h (e.trans hk.symm))]
  .rw [gK hk]
   by_cases h:g=k
   .have hb:(g==k)=true:=beq_iff_eq.mpr h
    simp only [bS,hb,gK (fun e:g=f=>hk (h.symm.trans e))]
   .have hb:(g==k)=false:=beq_eq_false_iff_ne.mpr h
    simp only [bS,hb]
    exact ih
theorem qf2 (f:Str) (v:V):∀fs:List (Str × V),f∈(qes f v fs).map (·.1)/\∀g,g∈fs.map (·.1)->g∈(qes f v fs).map (·.1)
 | []=>⟨by simp [qes],fun g h=>by simp at h⟩
 |(k,x) :: r=>by
  obtain⟨i1,i2⟩:=qf2 f v r
  rw [show qes f v ((k,x) :: r)=(if k=f then (k,v) :: r else (k,x) :: qes f v r) from rfl]
  by_cases hk:k=f
  .rw [gL hk]
   subst hk
   exact⟨by simp,fun g h=>by simpa using h⟩
  .rw [gK hk]
   refine⟨?_,fun g h=>?_⟩
   .rw [zV]
    exact zH _ i1
   .rw [zV] at h ⊢
    rcases zM.mp h with e|e
    .exact zM.mpr (.inl e)
    .exact zH _ (i2 g e)
theorem qf1 (f:Str) (v:V):∀fs:List (Str × V),(qes f v fs).length<=fs.length+1
 | []=>by simp [qes]
 |(k,x) :: r=>by
  have ih:=qf1 f v r
  rw [show qes f v ((k,x) :: r)=(if k=f then (k,v) :: r else (k,x) :: qes f v r) from rfl]
  by_cases hk:k=f
  .rw [gL hk,zL,zL];omega
  .rw [gK hk,zL,zL];omega
theorem qg9.some_of {v:V} {o:Option uC} (r:qg9 (some v) o):∃u,o=some u/\qbb v u:=by
 cases o with
 |none=>exact(show False from r).elim
 |some u=>exact⟨u,rfl,r⟩
theorem qg9.none_of {o:Option uC} (r:qg9 none o):o=none:=by
 cases o with
 |none=>rfl
 |some u=>exact(show False from r).elim
theorem handed_of {v:V} {u:uC} (r:qbb v u):PySem.W.handedIn u=true:=by
 cases v with
 |non=>cases (show u=vT from r);rfl
 |bl b=>cases (show u=fA b from r);rfl
 |int i=>obtain⟨t,e⟩:=(show ∃t,u=aJ i t from r);cases e;rfl
 |str x=>obtain⟨t,e⟩:=(show ∃t,u=eE x t from r);cases e;rfl
 |byt b=>obtain⟨t,e⟩:=(show ∃t,u=Value.bytes b t from r);cases e;rfl
 |flt b=>obtain⟨t,e⟩:=(show ∃t,u=Value.float b t from r);cases e;rfl
 |ref a=>cases (show u=uO a from r);rfl
 |ty n=>cases (show u=Value.type n from r);rfl
section
variable {P: uY} {w: vL} {H: Hp} {h: vP} {a C dx: Addr} {fs: List (Str × V)}
theorem qg0 (hok:HOk P w H h) (e:H a=some (.ins C dx fs)):∃mA,ObjM h a dx C mA/\(∀f,qg9 (fs.lookup f) (mA f))/\PySem.Within mA (fs.map (·.1))/\fs.length<=1000/\H dx=some (.own a):=by
 obtain⟨d,z,ne,ob,mA,n,r,q⟩:=(show qbh P w H h a (.ins C dx fs) from hok a _ e)
 exact⟨mA,⟨ob,n,ne⟩,r,q,z,d⟩
end
structure Cls (K:uR) (C:Addr):Prop where
 pg:plainGet K C Str.empty=true
 hd:gD K C=true
 po:PySem.W.plainOver K C=true
 sa:vS K (.ref C) "__setattr__" =some (some (.builtin "object.__setattr__"))
theorem Cls.get {K:uR} {C:Addr} (c:Cls K C) (f:Str):plainGet K C f=true:=c.pg
def qax (K:uR) (C:Addr) (f:Str):Prop:=vS K (.ref C) f=some none
theorem qax.taker {K:uR} {C:Addr} {f:Str} (n:qax K C f):PySem.W.takerIn K C f=some none:=by
 unfold PySem.W.takerIn
 rw [show vS K (.ref C) f=some none from n]
 rfl
structure Con (K:uR) (C:Addr) (f:Str) (v:V) (u:uC):Prop where
 at_:vS K (.ref C) f=some (some u)
 rel:qbb v u
 get:eC K u "__get__" =some none
 cp:PySem.W.copiedNames.contains f=false
structure Meth (K:uR) (C:Addr) (m:Str) (f:Addr):Prop where
 at_:vS K (.ref C) m=some (some (.ref f))
 fn:isFn K (.ref f)=true
 kp:dB K (.ref f)=true
section
variable {X: Cx} {pins: List (Addr × Obj)} {σ: St} {H: Hp} {s: uE} {a C dx: Addr} {fs: List (Str × V)} {f: Str} {v: V} {A: vM} {E: uC -> uE -> Prop}
theorem getattr_ok {b:Bool} {Q:uC->uE->Prop} (I:Inv X pins σ H s) (e:H a=some (.ins C dx fs)) (c:Cls X.K C) (n:qax X.K C f) (l:fs.lookup f=some v)
  (h:∀u s',Inv X pins σ H s'->qbb v u->Q u s'):uS (uV X.prog X.w) A (getAttr (.ref a) f b) Q E s:=by
 obtain⟨mA,O,r,_,_,_⟩:=qg0 I.hok e
 obtain⟨u,hu,ru⟩:=qg9.some_of (v:=v) (o:=mA f) (by rw [<-l];exact r f)
 exact get_map I.kIn O (c.get f) c.hd n hu (handed_of ru) (h u _ (I.tok _) ru)
theorem qdf {m:Str} {g:Addr} {pl:Sem Bool} {Q:uC × List uC->uE->Prop} (I:Inv X pins σ H s) (e:H a=some (.ins C dx fs)) (c:Cls X.K C) (k:Meth X.K C m g) (l:fs.lookup m=none)
  (h:Q (.ref g, [.ref a]) s):uS (uV X.prog X.w) A (eG (.ref a) m pl) Q E s:=by
 obtain⟨mA,O,r,_,_,_⟩:=qg0 I.hok e
 have hn:mA m=none:=qg9.none_of (by rw [<-l];exact r m)
 exact get_meth I.kIn O (c.get m) k.at_ k.fn hn h
theorem setattr_ok {y:V} {u:uC} {Q:Unit->uE->Prop} (I:Inv X pins σ H s) (e:H a=some (.ins C dx fs)) (c:Cls X.K C) (n:qax X.K C f) (hl:fs.length < 1000) (ry:qbb y u)
  (h:∀s',Inv X pins σ (upd H a (.ins C dx (qes f y fs))) s'->Q () s'):uS (uV X.prog X.w) A (setAttr (.ref a) f u) Q E s:=by
 obtain⟨mA,O,r,wi,_,ho⟩:=qg0 I.hok e
 have hz:(fs.map (·.1)).length<=sizeLine:=by rw [zB,aU];omega
 refine set_map I.kIn O c.sa c.po n.taker c.hd wi hz fun h' O' sb=>h _ ?_
 have hd:∃o,h'.get? dx=some o:=let ⟨o,_,_,e',_⟩:=O'.ns;⟨o,e'⟩
 refine I.write (x:=a) (e:=dx) (by rw [e];exact wQ) (.inr ho) (fun b q hb z=>(sb.2 b hb).trans z) hd ?_
 refine⟨by rw [qa6 O.ne];exact ho,?_,O.ne,O'.obj,_,O'.ns,fun g=>?_,fun g hg=>?_⟩
 .have:=qf1 f y fs;omega
 .show qg9 ((qes f y fs).lookup g) (if g=f then some u else mA g)
  rw [qf0]
  by_cases q:g=f
  .rw [gL q,gL q];exact ry
  .rw [gK q,gK q];exact r g
 .by_cases q:g=f
  .rw [q];exact(qf2 f y fs).1
  .refine(qf2 f y fs).2 g (wi g fun z=>hg ?_)
   show (if g=f then some u else mA g)=none
   rw [gK q];exact z
theorem Inv.made (I:Inv X pins σ H s):Inv X pins σ (upd (upd H s.heap.objs.size (.own (s.heap.objs.size+1))) (s.heap.objs.size+1) (.ins C s.heap.objs.size []))
  {s with heap:=(s.heap.push emptyDict).push (dA C s.heap.objs.size)}:=by
 have e1:(s.heap.push emptyDict).get? s.heap.objs.size=some emptyDict:=uP s.heap rfl
 have e2:((s.heap.push emptyDict).push (dA C s.heap.objs.size)).get? (s.heap.objs.size+1)=some (dA C s.heap.objs.size):=by
  have:=uP (s.heap.push emptyDict) (o:=dA C s.heap.objs.size) rfl
  rwa [bE] at this
 have e3:(s.heap.push emptyDict).Ns s.heap.objs.size (fun _=>none):=⟨emptyDict,#[],_,e1,rfl,(fun e he=>absurd he (by simp)),fun _=>rfl⟩
 have I1:=I.laid (a:=s.heap.objs.size) (o:=.own (s.heap.objs.size+1)) (h':=s.heap.push emptyDict) (t':=s.toks) (fun b u q=>uD _ q) (uF _) ⟨_,e1⟩
 refine I1.laid (a:=s.heap.objs.size+1) (o:=.ins C s.heap.objs.size []) (t':=s.toks) (fun b u q=>uD _ q) (Nat.le_of_eq (bE _ _)) ?_
 have ne:s.heap.objs.size≠s.heap.objs.size+1:=uX (bM _)
 refine⟨by rw [qa6 ne,qa1],vY _,ne,e2,fun _=>none,(Heap.Ns1.of_empty e3).at fun o q=>uD _ q,fun _=>wQ,fun y hy=>absurd rfl hy⟩
theorem attr_of {prog:uY} {w:vL} {env:Env} {e:vQ} {f:Str} {pos:Pos} {s:uE} {Q:uC->uE->Prop} (hb:bP e f env (wG e env)=wG e env)
  (h:uS (uV prog w) A (wG e env) (fun o s₁=>uS (uV prog w) A (getAttr o f true) Q E s₁) E s):uS (uV prog w) A (wG (.Attribute e f pos) env) Q E s:=
 Attribute_any_ h (by rw [arm_eval_Attribute,hb])
end
def tFld (K:uR) (ta:TE) (f:Str):TE:=fun σ H Q=>ta σ H fun x H1=>∃a C dx fs v,x=.ref a/\H1 a=some (.ins C dx fs)/\Cls K C/\qax K C f/\fs.lookup f=some v/\Q v H1
def sFld (K:uR) (ta tv:TE) (f:Str):TS:=fun D σ H=>tv σ H fun y H1=>ta σ H1 fun x H2=>∃a C dx fs,x=.ref a/\H2 a=some (.ins C dx fs)/\Cls K C/\qax K C f/\fs.length < 1000/\
 D.nx σ (upd H2 a (.ins C dx (qes f y fs)))
def InOp (X:Cx) (op:Operator) (rd:V->V->Hp->VK->Prop):Prop:=
 ∀(pins:List (Addr × Obj)) (s:uE) (σ:St) (H:Hp) (x y:V) (u v:uC) (Q:VK),Inv X pins σ H s->qbb x u->qbb y v->rd x y H Q->uS (uV X.prog X.w) X.A (inplaceOp op u v) (EP X pins σ Q) X.xe s
section
variable {X: Cx} {o e value: vQ} {f: Str} {pos pos': Pos} {ta tv: TE}
theorem qb4 (he:PE X e ta) (hb:bP e f X.env (wG e X.env)=wG e X.env):PE X (.Attribute e f pos) (tFld X.K ta f):=by
 intro pins s σ H Q I h
 refine attr_of hb (thn (he pins s σ H _ I h) fun u s1 ⟨x,H1,I1,rx,a,C,dx,fs,v,ex,ea,c,n,l,q⟩=>?_)
 subst ex
 obtain rfl:u=uO a:=rx
 exact getattr_ok I1 ea c n l fun u' s2 I2 ru=>⟨v,H1,I2,ru,q⟩
theorem qd5 (ha:PE X o ta) (hv:PE X value tv) (hs:eF value (some (.Attribute o f pos')) pos.line X.env=pure false):PS X (.Assign [.Attribute o f pos'] value pos) (sFld X.K ta tv f):=by
 intro pins s σ H D I h
 refine plainObj_wpAny_Assign_Attribute (thn (hv pins s σ H _ I h) fun u s1 ⟨y,H1,I1,ry,q⟩=>thn (ha pins s1 σ H1 _ I1 q) fun ov s2 ⟨x,H2,I2,rx,a,C,dx,fs,ex,ea,c,n,l,q2⟩=>?_) hs
 subst ex
 obtain rfl:ov=uO a:=rx
 exact setattr_ok I2 ea c n l ry fun s3 I3=>⟨σ,_,I3,q2⟩
def rSub:V->V->Hp->VK->Prop:=fun x y H Q=>∃i j,x=.int i/\y=.int j/\Q (.int (i - j)) H
theorem in_sub:InOp X .Sub rSub:=by
 rintro pins s σ H x y u v Q I rx ry ⟨i,j,rfl,rfl,q⟩
 obtain⟨t,rfl⟩:=(show ∃t,u=aJ i t from rx)
 obtain⟨t',rfl⟩:=(show ∃t',v=aJ j t' from ry)
 exact PyProof.Rows.isub_int ⟨.int (i - j),H,I.tok _,⟨_,rfl⟩,q⟩
theorem methcall_of {pl:Sem Bool} {m:Str} {apos:Pos} {args:List vQ} {pins:List (Addr × Obj)} {s:uE} {σ:St} {H:Hp} {Q:uC->uE->Prop} {te:TE} (he:PE X e te) (I:Inv X pins σ H s)
  (h:te σ H fun x H1=>∃a C dx fs g,x=.ref a/\H1 a=some (.ins C dx fs)/\Cls X.K C/\Meth X.K C m g/\fs.lookup m=none/\
   ∀s1,Inv X pins σ H1 s1->uS (uV X.prog X.w) X.A (fR pos (.ref g) [.ref a] (wT pos (uZ args X.env)) (cZ pos (aV [] X.env))) Q X.xe s1)
  (ht:wG (.Call (.Attribute e m apos) args [] pos) X.env=(do
   let ov<-wG e X.env
   standAt apos.atName
   let (f,first)<-fO [ov] (eG ov m pl)
   fR pos f first (wT pos (uZ args X.env)) (cZ pos (aV [] X.env)))):
  uS (uV X.prog X.w) X.A (wG (.Call (.Attribute e m apos) args [] pos) X.env) Q X.xe s:=by
 refine bJ (pl:=pl) (thn (he pins s σ H _ I h) fun u s1 ⟨x,H1,I1,rx,a,C,dx,fs,g,ex,ea,c,k,l,q⟩=>?_) ht
 subst ex
 obtain rfl:u=uO a:=rx
 exact qdf I1 ea c k l (q s1 I1)
end
section
variable {X: Cx} {pins: List (Addr × Obj)} {σ: St} {H: Hp} {s: uE} {A: vM} {E: uC -> uE -> Prop} {Q: uC -> uE -> Prop} {c: uC} {b: Bool}
inductive TyOf (K:uR) (H:Hp):V->uC->Prop where
 |non:TyOf K H .non (.type "NoneType")
 |bl (x:Bool):TyOf K H (.bl x) (.type "bool")
 |int (i:Int):TyOf K H (.int i) (.type "int")
 |str (x:Str):TyOf K H (.str x) (.type "str")
 |flt (x:UInt64):TyOf K H (.flt x) (.type "float")
 |lst {a:Addr} {xs:List V} (e:H a=some (.lst xs)):TyOf K H (.ref a) (.type "list")
 |frz {a:Addr} {o:Obj} {xs:List V} (e:H a=some (.frz o (.lst xs))):TyOf K H (.ref a) (.type "list")
 |tup {a:Addr} {xs:List V} (e:H a=some (.tup xs)):TyOf K H (.ref a) (.type "tuple")
 |dK {a:Addr} {kvs:List (Key × V)} (e:H a=some (.dK kvs)):TyOf K H (.ref a) (.type "dict")
 |dT {a:Addr} {kvs:List (List Key × V)} (e:H a=some (.dT kvs)):TyOf K H (.ref a) (.type "dict")
 |ins {a C dx:Addr} {fs:List (Str × V)} (e:H a=some (.ins C dx fs)) (cl:Cls K C) (ha:vS K (.ref C) "__class__" =some (some (.builtin "object.__class__")))
   (hn:eC K (.builtin "object.__class__") "__get__" =some (some (.builtin "getset_descriptor.__get__"))) (htk:PySem.W.takesIn K (.builtin "object.__class__")=some true)
   (hm:mroIn K C (.type "object")=some true):TyOf K H (.ref a) (.ref C)
theorem isinst_ok {x:V} {u t:uC} (I:Inv X pins σ H s) (rx:qbb x u) (ty:TyOf X.K H x t) (e:cC X.K t c=some b) (h:∀tk,Q (.bool b) {s with toks:=tk}):
  uS (uV X.prog X.w) A (call (.builtin "isinstance") [u,c]) Q E s:=by
 cases ty with
 |non=>cases (show u=vT from rx);exact wJ PySem.W.kitx_none I.kIn wQ e (fun z=>nomatch z) h
 |bl y=>cases (show u=fA y from rx);exact wJ PySem.W.kitx_bool I.kIn wQ e (fun z=>nomatch z) h
 |int i=>obtain⟨t,q⟩:=(show ∃t,u=aJ i t from rx);cases q;exact wJ PySem.W.kitx_int I.kIn wQ e (fun z=>nomatch z) h
 |str y=>obtain⟨t,q⟩:=(show ∃t,u=eE y t from rx);cases q;exact wJ PySem.W.kitx_str I.kIn wQ e (fun z=>nomatch z) h
 |flt y=>obtain⟨t,q⟩:=(show ∃t,u=Value.float y t from rx);cases q;exact wJ PySem.W.kitx_float I.kIn wQ e (fun z=>nomatch z) h
 | @lst a xs ea=>
  cases (show u=uO a from rx)
  obtain⟨_,_,n,_,h1⟩:=(show qbh X.prog X.w H s.heap a (.lst xs) from I.hok a _ ea)
  exact wJ PySem.W.kitx_list I.kIn ⟨_,h1,rfl⟩ e (fun z=>nomatch z) h
 | @frz a ob xs ea=>
  cases (show u=uO a from rx)
  obtain⟨_,_,_,n,_,h1⟩:=(show qbh X.prog X.w H s.heap a (.frz ob (.lst xs)) from I.hok a _ ea)
  exact wJ PySem.W.kitx_list I.kIn ⟨_,h1,rfl⟩ e (fun z=>nomatch z) h
 | @tup a xs ea=>
  cases (show u=uO a from rx)
  obtain⟨_,_,_,p⟩:=(show qbh X.prog X.w H s.heap a (.tup xs) from I.hok a _ ea)
  obtain⟨o,h1,h2,_⟩:=p
  exact wJ PySem.W.kitx_tuple I.kIn ⟨o,h1,h2⟩ e (fun z=>nomatch z) h
 | @dK a kvs ea=>
  cases (show u=uO a from rx)
  obtain⟨_,_,vs,_,p⟩:=(show qbh X.prog X.w H s.heap a (.dK kvs) from I.hok a _ ea)
  obtain⟨o,es,ep,h1,h2,_⟩:=p
  exact wJ PySem.W.kitx_dict I.kIn ⟨o,h1,h2.1⟩ e (fun z=>nomatch z) h
 | @dT a kvs ea=>
  cases (show u=uO a from rx)
  obtain⟨_,_,xs,_,o,es,ep,h1,h2,_⟩:=(show qbh X.prog X.w H s.heap a (.dT kvs) from I.hok a _ ea)
  exact wJ PySem.W.kitx_dict I.kIn ⟨o,h1,h2.1⟩ e (fun z=>nomatch z) h
 | @ins a C dx fs ea cl ha hn htk hm=>
  cases (show u=uO a from rx)
  obtain⟨mA,O,_⟩:=qg0 I.hok ea
  obtain⟨od,J,_⟩:=O.look
  exact wJ (PySem.W.kitx_own (cl.get _) cl.hd ha hn htk hm) I.kIn J e (fun z=>nomatch z) h
end
structure Room (k:Nat) (A:vM):Prop where
 hd:A.handled=none
 dp:A.depth+3*k+5 < recursionLimit
 un:A.units+16*k+200 < cLine
theorem Room.mono {j k:Nat} {A:vM} (r:Room k A) (h:j<=k):Room j A:=⟨r.hd,by have:=r.dp;omega,by have:=r.un;omega⟩
theorem Room.deeper {k:Nat} {A:vM} (r:Room (k+1) A) (env:Env):Room k (A.deeper env):=
 ⟨r.hd,by have:=r.dp;show A.depth+1+3*k+5 < _;omega,by have:=r.un;show A.units+3+16*k+200 < _;omega⟩
theorem make_depth {A:vM} {C:Addr} {us:List uC} {kw:List (Str × uC)}:(A.under (.builtin "type.__call__" ⟨.ref C :: us,kw⟩)).depth=A.depth+1:=by
 first|rfl|simp [Around.under,Code.weight,Code.isCreation,Code.isGuard,Code.isCaller,Code.frames,Code.isFrame,guardIds]
theorem make_units {A:vM} {C:Addr} {us:List uC} {kw:List (Str × uC)}:(A.under (.builtin "type.__call__" ⟨.ref C :: us,kw⟩)).units=A.units+1:=by
 first|rfl|simp [Around.under,Code.cUnits,Code.frames,Code.isFrame]
theorem Room.make {k:Nat} {A:vM} (r:Room (k+1) A) (C:Addr) (us:List uC) (kw:List (Str × uC)):Room k (A.under (.builtin "type.__call__" ⟨.ref C :: us,kw⟩)):=
 ⟨r.hd,by have:=r.dp;rw [make_depth];omega,by have:=r.un;rw [make_units];omega⟩
theorem Room.depth {k:Nat} {A:vM} (r:Room k A):A.depth < recursionLimit:=by have:=r.dp;omega
theorem Room.units {k:Nat} {A:vM} (r:Room k A):A.units+64 < cLine:=by have:=r.un;omega
def tNil:TA:=fun _ H Q=>Q [] H
def tCons (ta:TE) (tr:TA):TA:=fun σ H Q=>ta σ H fun x H1=>tr σ H1 fun xs H2=>Q (x :: xs) H2
section
variable {X: Cx} {e: vQ} {es: List vQ} {te: TE} {t: TA} {pos: Pos}
theorem qa2:PA X [] tNil:=fun _ _ _ _ H Q I h=>fS ⟨[],H,I,.nil,h⟩
theorem qa0 (ha:PE X e te) (hr:PA X es t) (hs:uZ (e :: es) X.env=(false,wG e X.env) :: uZ es X.env:=by rfl):PA X (e :: es) (tCons te t):=by
 intro pos pins s σ H Q I h
 rw [hs]
 show uS _ _ (spliced ((false,wG e X.env) :: wT pos (uZ es X.env))) _ _ s
 refine cD (thn (ha pins s σ H _ I h) fun u s1 ⟨x,H1,I1,r1,q1⟩=>?_)
 exact thn (hr pos pins s1 σ H1 _ I1 q1) fun us s2 ⟨xs,H2,I2,r2,q2⟩=>⟨x :: xs,H2,I2,.cons r1 r2,q2⟩
def tTup (t:TA):TE:=fun σ H Q=>t σ H fun xs H1=>xs.length<=sizeLine/\∀p,H1 p=none->Q (.ref p) (upd H1 p (.tup xs))
def tLst (t:TA):TE:=fun σ H Q=>t σ H fun xs H1=>xs.length<=sizeLine/\∀p,H1 p=none->Q (.ref p) (upd H1 p (.lst xs))
theorem qdl {x1} (h:PA X es t):PE X (.Tuple es x1 pos) (tTup t):=by
 intro pins s σ H Q I hq
 refine wpAny_Tuple_spliced (thn (h pos pins s σ H _ I hq) fun us s1 ⟨xs,H1,I1,r,z,q⟩=>⟨by rw [<-r.length];exact z,?_⟩)
 have hf:H1 s1.heap.objs.size=none:=I1.hok.fresh (uF _)
 refine⟨.ref s1.heap.objs.size,upd H1 s1.heap.objs.size (.tup xs),I1.laid (t':=s1.toks) (fun b u e=>uD _ e) (uF _) ?_,rfl,q _ hf⟩
 exact⟨z,us,r,⟨_,uP _ rfl,rfl,_,rfl⟩⟩
theorem qbl (h:PA X es t):PE X (.List es pos) (tLst t):=by
 intro pins s σ H Q I hq
 refine wpAny_List_spliced (thn (h pos pins s σ H _ I hq) fun us s1 ⟨xs,H1,I1,r,z,q⟩=>⟨by rw [<-r.length];exact z,?_⟩)
 have hf:H1 s1.heap.objs.size=none:=I1.hok.fresh (uF _)
 refine⟨.ref s1.heap.objs.size,upd H1 s1.heap.objs.size (.lst xs),I1.laid (t':=s1.toks) (fun b u e=>uD _ e) (uF _) ?_,rfl,q _ hf⟩
 exact⟨z,us,0,r,uP _ rfl⟩
end
abbrev Sp:=List V->Hp->VK->XK->Prop
abbrev CXT:=List Env->Hp->uE->XK->uC->uE->Prop
structure Env0 (P:uY) (w:vL) (K:uR) (mg:Str->Option uC) (base:vP) (A:vM) (outer:List Env) (s:uE) (H:Hp):Prop where
 frames:A.frames=some outer
 mod:Mod K mg base
 bs:∀b o,base.get? b=some o->s.heap.get? b=some o/\H b=none
 bsz:base.objs.size<=s.heap.objs.size
 funs:s.heap.FunFrames base outer
 frf:∀b∈frs outer,H b=none
 hok:HOk P w H s.heap
 bare:cH s.gens
def CE (outer:List Env) (P:uY) (w:vL) (H:Hp) (s:uE) (Q:VK) (u:uC) (s':uE):Prop:=
 ∃v H',s'.os=s.os/\cH s'.gens/\Un (frs outer) [] H H' s.heap s'.heap/\HOk P w H' s'.heap/\qbb v u/\Q v H'
def CR (CX:CXT) (outer:List Env) (P:uY) (w:vL) (H:Hp) (s:uE) (Q:VK) (E:XK) (r:Result) (s':uE):Prop:=
 match r with
 | .ok (.ret u)=>CE outer P w H s Q u s'
 | .ok _=>False
 | .error e=>CX outer H s E e s'
structure FnOk (P:uY) (w:vL) (K:uR) (mg:Str->Option uC) (base:vP) (CX:CXT) (k:Nat) (f:Addr) (fd:uM) (ps:List Str) (sp:Sp):Prop where
 len:∀vs H Q E,sp vs H Q E->vs.length=ps.length
 run:∀(A:vM) (outer:List Env) (s:uE) (H:Hp) (args:Args) (us:List uC) (vs:List V) (Q:VK) (E:XK),Room k A->Env0 P w K mg base A outer s H->eI s fd args (ps.zip us)->qba vs us->sp vs H Q E->
  bD (uV P w) A (.call (.ref f) args) (CR CX outer P w H s Q E) s
theorem FnOk.mono {P:uY} {w:vL} {K:uR} {mg:Str->Option uC} {base:vP} {CX:CXT} {j k:Nat} {f:Addr} {fd:uM} {ps:List Str} {sp:Sp} (F:FnOk P w K mg base CX j f fd ps sp) (h:j<=k):
  FnOk P w K mg base CX k f fd ps sp:=⟨F.len,fun A outer s H args us vs Q E hr=>F.run A outer s H args us vs Q E (hr.mono h)⟩
theorem FnOk.imp {P:uY} {w:vL} {K:uR} {mg:Str->Option uC} {base:vP} {CX:CXT} {k:Nat} {f:Addr} {fd:uM} {ps:List Str} {sp sp':Sp} (F:FnOk P w K mg base CX k f fd ps sp)
  (h:∀vs H Q E,sp' vs H Q E->sp vs H Q E):FnOk P w K mg base CX k f fd ps sp':=
 ⟨fun vs H Q E q=>F.len vs H Q E (h _ _ _ _ q),fun A outer s H args us vs Q E hr he hb hv hs=>F.run A outer s H args us vs Q E hr he hb hv (h _ _ _ _ hs)⟩
theorem Env0.make {P:uY} {w:vL} {K:uR} {mg:Str->Option uC} {base:vP} {A:vM} {outer:List Env} {s:uE} {H:Hp} (e:Env0 P w K mg base A outer s H) (C:Addr) (us:List uC) (kw:List (Str × uC)):
  Env0 P w K mg base (A.under (.builtin "type.__call__" ⟨.ref C :: us,kw⟩)) outer s H:=⟨by first|exact e.frames|(simpa [Around.under,Code.envs,Code.isFrame,pushEnvs] using e.frames),e.mod,e.bs,e.bsz,e.funs,e.frf,e.hok,e.bare⟩
section
variable {X: Cx} {pins: List (Addr × Obj)} {σ: St} {H: Hp} {s s': uE}
theorem Inv.env0 (I:Inv X pins σ H s):Env0 X.prog X.w X.K X.mg X.base X.A X.stack s H:=
 ⟨I.ok.frames,I.ok.mod,I.bs,vN I.ok.bsz I.sz,I.stack,I.stkFree,I.hok,I.bare⟩
theorem Inv.after {Q:VK} {u:uC} (I:Inv X pins σ H s) (h:CE X.stack X.prog X.w H s Q u s'):EP X pins σ Q u s':=by
 obtain⟨v,H',os,bare,un,hok,r,q⟩:=h
 obtain⟨hh,g,d,t,os'⟩:=s'
 obtain rfl:os'=s.os:=os
 exact⟨v,H',I.call (h':=hh) (g':=g) (d':=d) (t':=t) (ch:=[]) un hok bare (fun b z=>absurd z (by simp)),r,q⟩
end
def tCall (sp:Sp) (dvs:List V) (E:XK) (t:TA):TE:=fun σ H Q=>t σ H fun vs H1=>sp (vs++dvs) H1 Q E
def tMeth (C:Addr) (m:Str) (sp:Sp) (dvs:List V) (E:XK) (ta:TE) (t:TA):TE:=fun σ H Q=>ta σ H fun x H1=>∃a dx fs,x=.ref a/\H1 a=some (.ins C dx fs)/\fs.lookup m=none/\
 t σ H1 fun vs H2=>sp (x ::(vs++dvs)) H2 Q E
def tMake (C:Addr) (sp:Sp) (dvs:List V) (E:XK) (t:TA):TE:=fun σ H Q=>t σ H fun vs H1=>∀x dx,H1 x=none->H1 dx=none->dx≠x->
 sp (.ref x ::(vs++dvs)) (upd (upd H1 dx (.own x)) x (.ins C dx [])) (fun v H2=>v=.non/\Q (.ref x) H2) E
def qao (K:uR) (fd:uM) (ps:List Str) (ds:List uC):Prop:=
 ∀(s:uE) (us:List uC),K.In s.heap->(us++ds).length=ps.length->eI s fd ⟨us, []⟩ (ps.zip (us++ds))
theorem qao.all {K:uR} {fd:uM} {ps:List Str} (h:∀us:List uC,us.length=ps.length->bindArgs fd ⟨us, []⟩=pure (ps.zip us)):qao K fd ps []:=fun s us _ hl=>by
 rw [yB] at hl ⊢
 exact .of_eq (h us hl)
def qfa (CX:CXT) (X:Cx) (E:XK):Prop:=∀(pins:List (Addr × Obj)) (σ:St) (H:Hp) (s:uE) (e:uC) (s':uE),Inv X pins σ H s->CX X.stack H s E e s'->X.xe e s'
section
variable {X: Cx} {CX: CXT} {k: Nat} {f C: Addr} {fd: uM} {ps: List Str} {sp: Sp} {dvs: List V} {ds: List uC} {E: XK} {x m: Str} {p pos apos: Pos} {e o: vQ} {es: List vQ} {ta: TE} {t: TA}
theorem run_fn {pins:List (Addr × Obj)} {σ:St} {H:Hp} {s:uE} {Q:VK} {us:List uC} {vs:List V} (F:FnOk X.prog X.w X.K X.mg X.base CX k f fd ps sp) (hr:Room k X.A) (hb:qao X.K fd ps ds) (hd:qba dvs ds) (hx:qfa CX X E)
  (I:Inv X pins σ H s) (r:qba vs us) (h:sp (vs++dvs) H Q E):uS (uV X.prog X.w) X.A (call (.ref f) us) (EP X pins σ Q) X.xe s:=by
 have r2:qba (vs++dvs) (us++ds):=r.append hd
 have hl:(us++ds).length=ps.length:=by rw [<-r2.length];exact F.len _ _ _ _ h
 refine bN (xN (F.run X.A X.stack s H ⟨us, []⟩ (us++ds) (vs++dvs) Q E hr I.env0 (hb s us I.kIn hl) r2 h) fun r s' hq=>?_)
 cases r with
 |error e=>exact hx pins σ H s e s' I hq
 |ok fl=>
  cases fl with
  |ret u=>exact I.after hq
  |next=>exact vW hq
  |brk=>exact vW hq
  |cont=>exact vW hq
theorem qa9 (F:FnOk X.prog X.w X.K X.mg X.base CX k f fd ps sp) (hr:Room k X.A) (hg:Gl X x) (hm:X.mg x=some (.ref f)) (hk:dB X.K (.ref f)=true) (hb:qao X.K fd ps ds) (hd:qba dvs ds) (hx:qfa CX X E)
  (ha:PA X (e :: es) t) (hdb:(x==("__debug__" :Str))=false:=by decide) (he:uZ (e :: es) X.env=(false,wG e X.env) :: uZ es X.env:=by rfl) (hpl:(wT pos (uZ es X.env)).any (·.1)=false:=by rfl):
  PE X (.Call (.Name x p) (e :: es) [] pos) (tCall sp dvs E t):=by
 intro pins s σ H Q I h
 refine wW (qdq I hg hm ?_ hdb)
 refine xO (h₀:=X.base) I.ok.mod.kin hk (thn (ha pos pins s σ H _ I h) fun us s1 ⟨vs,H1,I1,r,q⟩=>⟨I1.kIn,?_⟩) he hpl
 exact run_fn F hr hb hd hx I1 r q
theorem qe6 {pl:Sem Bool} (he:PE X o ta) (c:Cls X.K C) (hm:Meth X.K C m f) (F:FnOk X.prog X.w X.K X.mg X.base CX k f fd ps sp) (hr:Room k X.A) (hb:qao X.K fd ps ds) (hd:qba dvs ds) (hx:qfa CX X E) (ha:PA X (e :: es) t)
  (hst:uZ (e :: es) X.env=(false,wG e X.env) :: uZ es X.env:=by rfl) (hpl:(wT pos (uZ es X.env)).any (·.1)=false:=by rfl)
  (ht:wG (.Call (.Attribute o m apos) (e :: es) [] pos) X.env=(do
   let ov<-wG o X.env
   standAt apos.atName
   let (f,first)<-fO [ov] (eG ov m pl)
   fR pos f first (wT pos (uZ (e :: es) X.env)) (cZ pos (aV [] X.env))):=by rfl):
  PE X (.Call (.Attribute o m apos) (e :: es) [] pos) (tMeth C m sp dvs E ta t):=by
 intro pins s σ H Q I h
 refine bJ (pl:=pl) (thn (he pins s σ H _ I h) fun u s1 ⟨x,H1,I1,rx,a,dx,fs,ex,ea,l,q⟩=>?_) ht
 subst ex
 obtain rfl:u=uO a:=rx
 refine qdf I1 ea c hm l ?_
 refine xO (first:=[.ref a]) (h₀:=X.base) I.ok.mod.kin hm.kp (thn (ha pos pins s1 σ H1 _ I1 q) fun us s2 ⟨vs,H2,I2,r,q2⟩=>⟨I2.kIn,?_⟩) hst hpl
 exact run_fn (us:=.ref a :: us) (vs:=.ref a :: vs) F hr hb hd hx I2 (.cons rfl r) q2
theorem qei {pl:Sem Bool} (he:PE X o ta) (c:Cls X.K C) (hm:Meth X.K C m f) (F:FnOk X.prog X.w X.K X.mg X.base CX k f fd ps sp) (hr:Room k X.A) (hb:qao X.K fd ps ds) (hd:qba dvs ds) (hx:qfa CX X E)
  (ht:wG (.Call (.Attribute o m apos) [] [] pos) X.env=(do
   let ov<-wG o X.env
   standAt apos.atName
   let (f,first)<-fO [ov] (eG ov m pl)
   fR pos f first (wT pos (uZ [] X.env)) (cZ pos (aV [] X.env))):=by rfl):
  PE X (.Call (.Attribute o m apos) [] [] pos) (tMeth C m sp dvs E ta tNil):=by
 intro pins s σ H Q I h
 refine bJ (pl:=pl) (thn (he pins s σ H _ I h) fun u s1 ⟨x,H1,I1,rx,a,dx,fs,ex,ea,l,q⟩=>?_) ht
 subst ex
 obtain rfl:u=uO a:=rx
 refine qdf I1 ea c hm l ?_
 exact PySem.W.callWith_K0 (first:=[.ref a]) I1.kIn hm.kp (run_fn (us:=[.ref a]) (vs:=[.ref a]) F hr hb hd hx I1 (.cons rfl .nil) q)
structure Mk (K:uR) (C f:Addr):Prop where
 makes:PySem.W.makesIn K C=true
 init:vS K (.ref C) "__init__" =some (some (.ref f))
 fn:isFn K (.ref f)=true
 kp:dB K (.ref C)=true
theorem run_make {pins:List (Addr × Obj)} {σ:St} {H:Hp} {s:uE} {Q:VK} {us:List uC} {vs:List V} (M:Mk X.K C f) (F:FnOk X.prog X.w X.K X.mg X.base CX k f fd ps sp) (hr:Room (k+1) X.A) (hb:qao X.K fd ps ds) (hd:qba dvs ds)
  (hx:qfa CX X E) (I:Inv X pins σ H s) (r:qba vs us)
  (h:∀x dx,H x=none->H dx=none->dx≠x->sp (.ref x ::(vs++dvs)) (upd (upd H dx (.own x)) x (.ins C dx [])) (fun v H2=>v=.non/\Q (.ref x) H2) E):
  uS (uV X.prog X.w) X.A (call (.ref C) us) (EP X pins σ Q) X.xe s:=by
 have hq:=h (s.heap.objs.size+1) s.heap.objs.size (I.hok.fresh (aE _)) (I.hok.fresh (uF _)) (uX (bM _))
 have I2:=Inv.made (C:=C) I
 have r2:qba (V.ref (s.heap.objs.size+1) ::(vs++dvs)) (uO (s.heap.objs.size+1) ::(us++ds)):=.cons rfl (r.append hd)
 have hl:(uO (s.heap.objs.size+1) :: us++ds).length=ps.length:=by
  have e:=r2.length
  rw [F.len _ _ _ _ hq] at e
  exact e.symm
 refine bN (make_map (f:=f) I.kIn M.makes M.init (beq_iff_eq.mp M.fn) (xN (F.run _ X.stack _ _ ⟨uO (s.heap.objs.size+1) :: us, []⟩ (uO (s.heap.objs.size+1) ::(us++ds)) _ _ E (hr.make C us [])
  (I2.env0.make C us []) (hb _ (uO (s.heap.objs.size+1) :: us) I2.kIn hl) r2 hq) fun r s' hq'=>?_))
 cases r with
 |error e=>exact hx pins σ _ _ e s' I2 hq'
 |ok fl=>
  cases fl with
  |ret u=>
   obtain⟨v,H',I3,rv,ev,q3⟩:=I2.after hq'
   subst ev
   exact⟨rv,⟨V.ref (s.heap.objs.size+1),H',I3,rfl,q3⟩⟩
  |next=>exact vW hq'
  |brk=>exact vW hq'
  |cont=>exact vW hq'
theorem pe_make (M:Mk X.K C f) (F:FnOk X.prog X.w X.K X.mg X.base CX k f fd ps sp) (hr:Room (k+1) X.A) (hg:Gl X x) (hm:X.mg x=some (.ref C)) (hb:qao X.K fd ps ds) (hd:qba dvs ds) (hx:qfa CX X E)
  (ha:PA X (e :: es) t) (hdb:(x==("__debug__" :Str))=false:=by decide) (he:uZ (e :: es) X.env=(false,wG e X.env) :: uZ es X.env:=by rfl) (hpl:(wT pos (uZ es X.env)).any (·.1)=false:=by rfl):
  PE X (.Call (.Name x p) (e :: es) [] pos) (tMake C sp dvs E t):=by
 intro pins s σ H Q I h
 refine wW (qdq I hg hm ?_ hdb)
 refine xO (h₀:=X.base) I.ok.mod.kin M.kp (thn (ha pos pins s σ H _ I h) fun us s1 ⟨vs,H1,I1,r,q⟩=>⟨I1.kIn,?_⟩) he hpl
 exact run_make M F hr hb hd hx I1 r q
end
section
variable {fd: uM} {ps ks: List Str}
structure KBinds (K:uR) (fd:uM) (ps ks:List Str) (g:List uC->List uC->List uC) (gV:List V->List V->List V):Prop where
 to:∀(s:uE) (us ws:List uC),K.In s.heap->(g us ws).length=ps.length->eI s fd ⟨us,ks.zip ws⟩ (ps.zip (g us ws))
 rel:∀{vs:List V} {us:List uC} {zs:List V} {ws:List uC},qba vs us->qba zs ws->qba (gV vs zs) (g us ws)
end
structure FnScope (N P:List Str) (sc:bY):Prop where
 kind:sc.kind=.function
 co:sc.isCoroutine=false
 gen:sc.isGenerator=false
 nd:N.Nodup
 pre:N.take P.length=P
 par:∀x∈P,sc.names.lookup x=some .local\/sc.names.lookup x=some .cell
 nofree:∀y∈sc.names,y.2≠ .free
theorem bindL_out {kindOf:Str->Option NameKind} {x:Str}:∀{binds:List (Str × uC)} {m:Str->Option uC},(∀v,(x,v)∉binds)->bindL kindOf binds m x=m x
 | [],_,_=>rfl
 |(n,v) :: r,m,h=>by
  unfold bindL
  rw [bindL_out fun w hw=>h w (zH _ hw)]
  split
  .have:x≠n:=by rintro rfl;exact h v zN
   simp [this]
  .rfl
theorem bindC_out {kindOf:Str->Option NameKind} {x:Str}:∀{binds:List (Str × uC)} {m:Str->Option uC},(∀v,(x,v)∉binds)->bindC kindOf binds m x=m x
 | [],_,_=>rfl
 |(n,v) :: r,m,h=>by
  unfold bindC
  rw [bindC_out fun w hw=>h w (zH _ hw)]
  split
  .rfl
  .have:x≠n:=by rintro rfl;exact h v zN
   simp [this]
theorem bindL_get {kindOf:Str->Option NameKind} {x:Str} {v:uC}:∀{P:List Str} {vs:List uC} {i:Nat} {m:Str->Option uC},P.Nodup->P[i]?=some x->vs[i]?=some v->kindOf x=some .local->
  bindL kindOf (P.zip vs) m x=some v
 | [],_,_,_,_,h,_,_=>by simp at h
 |_ :: _, [],_,_,_,_,h,_=>by simp at h
 |p :: P,w :: vs,0,m,nd,h1,h2,hk=>by
  simp at h1 h2;subst h1;subst h2
  show bindL kindOf ((p,w) :: P.zip vs) m p=_
  unfold bindL
  rw [bindL_out fun v hv=>(zX.mp nd).1 (List.of_mem_zip hv).1,gL hk]
  simp
 |p :: P,w :: vs,i+1,m,nd,h1,h2,hk=>by
  show bindL kindOf ((p,w) :: P.zip vs) m x=_
  unfold bindL
  exact bindL_get (i:=i) (zX.mp nd).2 (by simpa using h1) (by simpa using h2) hk
theorem bindC_get {kindOf:Str->Option NameKind} {x:Str} {v:uC}:∀{P:List Str} {vs:List uC} {i:Nat} {m:Str->Option uC},P.Nodup->P[i]?=some x->vs[i]?=some v->kindOf x≠some .local->
  bindC kindOf (P.zip vs) m x=some v
 | [],_,_,_,_,h,_,_=>by simp at h
 |_ :: _, [],_,_,_,_,h,_=>by simp at h
 |p :: P,w :: vs,0,m,nd,h1,h2,hk=>by
  simp at h1 h2;subst h1;subst h2
  show bindC kindOf ((p,w) :: P.zip vs) m p=_
  unfold bindC
  rw [bindC_out fun v hv=>(zX.mp nd).1 (List.of_mem_zip hv).1,gK hk]
  simp
 |p :: P,w :: vs,i+1,m,nd,h1,h2,hk=>by
  show bindC kindOf ((p,w) :: P.zip vs) m x=_
  unfold bindC
  exact bindC_get (i:=i) (zX.mp nd).2 (by simpa using h1) (by simpa using h2) hk
def qed (N:List Str) (vs:List V):St:=vs.map some++bF (N.length - vs.length) none
def cxOf (CX:CXT) (P:uY) (w:vL) (K:uR) (mg:Str->Option uC) (base:vP) (N:List Str) (qual:Str) (scope:bY) (f:Addr) (cd:uC) (A:vM) (outer:List Env) (s:uE) (H:Hp) (E:XK):Cx where
 prog:=P
 w:=w
 K:=K
 mg:=mg
 base:=base
 A:=A.deeper (dD qual scope s.heap.objs.size f cd)
 N:=N
 s₀:=s
 H₀:=H
 env:=dD qual scope s.heap.objs.size f cd
 outer:=outer
 stack:=dD qual scope s.heap.objs.size f cd :: outer
 ex:=[]
 calm:=true
 fn:=fun _=>true
 pn:=[]
 xe:=fun e s'=>uS (uV P w) (A.deeper (dD qual scope s.heap.objs.size f cd)) (leaving (dD qual scope s.heap.objs.size f cd) e) (fun _ s''=>CX outer H s E e s'') (fun e' s''=>CX outer H s E e' s'') s'
theorem cell_has {sc:bY} {n:Nat} {x:Str} (h:sc.names.lookup x=some .cell):∃c,(cellsFrom n sc.names []).lookup x=some c:=by
 have q:=PySem.W.cellsFrom_some sc.names n [] (.inl h)
 exact cU.mp q
theorem inv_start {CX:CXT} {P:uY} {w:vL} {K:uR} {mg:Str->Option uC} {base:vP} {N ps:List Str} {qual:Str} {scope:bY} {f:Addr} {cd:uC} {A:vM} {outer:List Env} {s s1:uE} {H:Hp} {E:XK} {us:List uC} {vs:List V}
  (S:FnScope N ps scope) (hd:A.handled=none) (e0:Env0 P w K mg base A outer s H) (hl:vs.length=ps.length) (r:qba vs us)
  (x:InCallC s s.heap.objs.size (bindL (dD qual scope s.heap.objs.size f cd).kindOf (ps.zip us) fun _=>none) (cellsFrom (s.heap.objs.size+1) scope.names []) (bindC (dD qual scope s.heap.objs.size f cd).kindOf (ps.zip us) fun _=>none) s1):
  Inv (cxOf CX P w K mg base N qual scope f cd A outer s H E) [] (qed N vs) H s1:=by
 have hpl:ps.length<=N.length:=by have:=congrArg xA S.pre;rw [zU] at this;omega
 obtain⟨h1,tk,rfl,hk⟩:=x.done
 have noA:∀b:Addr,b∉(cxOf CX P w K mg base N qual scope f cd A outer s H E).ex:=fun b z=>absurd (show b∈([]:List Addr) from z) (by simp)
 refine⟨⟨e0.mod,S.kind,rfl,rfl,uF _,fun y z c h1 h2=>?_,fun y hy=>?_,fun y c _ h=>?_,fun _=>hd,Around.frames_deeper e0.frames,.inr ⟨rfl,rfl⟩,fun b z=>absurd z (noA b),e0.bs,e0.bsz,fun b _ _=>noA b,fun b z=>absurd z (noA b),e0.funs,e0.frf⟩,
  rfl,e0.bare,Un.kept hk,⟨_,x.toInCall.ns,fun i y v h1 h2 h3=>?_⟩,fun y c h=>⟨_,x.cell y c h⟩,e0.hok.fresh (uF _),fun y c h=>?_,fun p hp=>absurd (show p∈([]:List (Addr × Obj)) from hp) (by simp),e0.hok.kept hk,?_⟩
 .exact name_of_addr x.apart (aL h1) (aL h2)
 .have hy:scope.names.lookup y=some .cell\/scope.names.lookup y=some .free:=hy
  rcases hy with hy|hy
  .exact cell_has hy
  .exact absurd rfl (S.nofree _ (aL hy))
 .exact fN (x.above y c (aL h))
 .have hi:i < vs.length:=by
   unfold qed at h2
   by_cases hi:i < vs.length
   .exact hi
   .rw [zZ (by simpa using hi)] at h2
    rw [List.getElem?_replicate] at h2
    split at h2 <;> cases h2
  have ha:vs[i]?=some v:=by
   unfold qed at h2
   rw [yC (by simpa using hi),zC] at h2
   cases e:vs[i]? with
   |none=>rw [e] at h2;cases h2
   |some a=>rw [e] at h2;cases h2;rfl
  obtain⟨u,hu,rv⟩:=r.get ha
  have hp:ps[i]?=some y:=by
   rw [<-S.pre,List.getElem?_take_of_lt (by omega)];exact h1
  have ndP:ps.Nodup:=by rw [<-S.pre];exact S.nd.sublist (List.take_sublist _ _)
  refine⟨u,rv,?_⟩
  rcases S.par y (zD hp) with k|k
  .exact .inl ⟨k,bindL_get ndP hp hu k⟩
  .obtain⟨c,e⟩:=cell_has (n:=s.heap.objs.size+1) k
   refine .inr ⟨.inl k,c,e,?_⟩
   have q:=x.cell y c e
   rw [bindC_get ndP hp hu (by show scope.names.lookup y≠_;rw [k];decide)] at q
   exact q
 .exact e0.hok.fresh (fN (x.above y c (aL h)))
 .unfold qed
  show _=N.length
  rw [zG,zB,List.length_replicate]
  omega
theorem fn_of {CX:CXT} {P:uY} {w:vL} {K:uR} {mg:Str->Option uC} {base:vP} {k:Nat} {f:Addr} {name qual:Str} {params:Arguments} {body:List Stmt} {scope:bY} {dV kV doc pm cdv ct oc:uC} {an od:Option Addr}
  {osl:Array (Option uC)} {N ps:List Str} {sp:Sp} (lk:K.lookup f=some ⟨oc,od,.func (fnOf name qual params body scope dV kV doc pm an cdv ct),osl⟩) (hcd:gE K cdv qual=true) (S:FnScope N ps scope)
  (len:∀vs H Q E,sp vs H Q E->vs.length=ps.length)
  (hbody:∀(A:vM) (outer:List Env) (s:uE) (H:Hp) (vs:List V) (Q:VK) (E:XK),Room k (A.deeper (dD qual scope s.heap.objs.size f cdv))->sp vs H Q E->
   ∃t,PSs (cxOf CX P w K mg base N qual scope f cdv A outer s H E) body t/\t {nx:=fun _ H'=>Q .non H',rt:=Q} (qed N vs) H):
  FnOk P w K mg base CX (k+1) f (fnOf name qual params body scope dV kV doc pm an cdv ct) ps sp:=by
 refine⟨len,fun A outer s H args us vs Q E hr e0 hb r hsp=>?_⟩
 have hl:=len _ _ _ _ hsp
 have KX:K.In s.heap:=e0.mod.kin.keeps fun b o e=>(e0.bs b o e).1
 have lim:s.heap.NoLimit:=e0.mod.nolimit.keeps fun b o e=>(e0.bs b o e).1
 have hkind:∀y∈ps.zip us,scope.names.lookup y.1=some .local\/(scope.names.lookup y.1=some .cell/\((cellsFrom (s.heap.objs.size+1) scope.names []).lookup y.1).isSome=true):=fun⟨n,v⟩ hy=>by
  rcases S.par n (List.of_mem_zip hy).1 with q|q
  .exact .inl q
  .exact .inr ⟨q,PySem.W.cellsFrom_some _ _ _ (.inl q)⟩
 refine codeAny_call_function hr.depth (KX _ _ lk) rfl S.co S.gen rfl (PySem.W.codeRec_of KX hcd) (hb _ _ _ _ ?_)
 refine wpAny_newFunctionEnv_cells S.kind hkind fun env he s1 x=>?_
 subst he
 refine⟨lim.keeps x.toInCall.keep,codeAny_func ?_⟩
 obtain⟨t,ht,hq⟩:=hbody A outer s H vs Q E (hr.deeper _) hsp
 have I:Inv (cxOf CX P w K mg base N qual scope f cdv A outer s H E) [] (qed N vs) H s1:=inv_start S hr.hd e0 hl r x
 refine vD (ht [] s1 (qed N vs) H _ I hq) (fun fl s' hs=>?_) fun e s' hs=>hs
 have fin:∀{σ':St} {H':Hp} {v:V} {u:uC},Inv (cxOf CX P w K mg base N qual scope f cdv A outer s H E) [] σ' H' s'->qbb v u->Q v H'->CE outer P w H s Q u s':=
  fun {σ' H' v u} J rv q=>⟨v,H',J.os,J.bare,J.base,J.hok,rv,q⟩
 cases fl with
 |ret u=>
  obtain⟨v,σ',H',J,rv,q⟩:=hs
  exact fin J rv q
 |next=>
  obtain⟨σ',H',J,q⟩:=hs
  exact fin (v:=V.non) (u:=vT) J rfl q
 |brk=>
  obtain⟨_,_,_,q⟩:=hs
  exact vW q
 |cont=>
  obtain⟨_,_,_,q⟩:=hs
  exact vW q
section
variable {X: Cx} {x: Str} {p pos: Pos} {e: vQ} {es: List vQ} {t: TA} {id T: String} {r: List V -> Hp -> VK -> Prop}
def tCB (r:List V->Hp->VK->Prop) (t:TA):TE:=fun σ H Q=>t σ H fun vs H1=>r vs H1 Q
theorem qai (hc:qc7 X (.builtin id) r) (hg:Gl X x) (hm:X.mg x=none) (hv:xM x=some (.builtin id)) (ha:PA X (e :: es) t) (hn:x≠"__name__":=by decide) (hdb:(x==("__debug__" :Str))=false:=by decide)
  (he:uZ (e :: es) X.env=(false,wG e X.env) :: uZ es X.env:=by rfl) (hpl:(wT pos (uZ es X.env)).any (·.1)=false:=by rfl):PE X (.Call (.Name x p) (e :: es) [] pos) (tCB r t):=by
 intro pins s σ H Q I h
 refine wW (qe0 I hg hm hv ?_ hn hdb)
 exact PyProof.Rows.callWith_builtin1 (thn (ha pos pins s σ H _ I h) fun us s1 ⟨vs,H1,I1,r1,q1⟩=>hc pins s1 σ H1 vs us Q I1 r1 q1) he hpl
theorem qbe (hc:qc7 X (.type T) r) (hg:Gl X x) (hm:X.mg x=none) (hv:xM x=some (.type T)) (ha:PA X (e :: es) t) (hn:x≠"__name__":=by decide) (hdb:(x==("__debug__" :Str))=false:=by decide)
  (he:uZ (e :: es) X.env=(false,wG e X.env) :: uZ es X.env:=by rfl) (hpl:(wT pos (uZ es X.env)).any (·.1)=false:=by rfl):PE X (.Call (.Name x p) (e :: es) [] pos) (tCB r t):=by
 intro pins s σ H Q I h
 refine wW (qe0 I hg hm hv ?_ hn hdb)
 exact wD (thn (ha pos pins s σ H _ I h) fun us s1 ⟨vs,H1,I1,r1,q1⟩=>hc pins s1 σ H1 vs us Q I1 r1 q1) he hpl
end
end L2
namespace HT
open PySem PyProof.Rows
section
def sIx (n d:Nat):Option Int->Nat
 |none=>d
 |some v=>if v < 0 then (v+(n:Int)).toNat else min v.toNat n
theorem sIx_none (n d:Nat):sIx n d none=d:=rfl
theorem sIx_nat (n d k:Nat):sIx n d (some (k:Int))=min k n:=by
 show (if (k:Int) < 0 then ((k:Int)+(n:Int)).toNat else min (k:Int).toNat n)=min k n
 rw [gK (by omega),xB]
end
end HT
namespace L2
open PySem PySem.Spec PyProof.Rows
abbrev TO:=St->Hp->(Option Int->Hp->Prop)->Prop
def PO (X:Cx) (e:Option vQ) (t:TO):Prop:=
 ∀(pins:List (Addr × Obj)) (s:uE) (σ:St) (H:Hp) (Q:Option Int->Hp->Prop),Inv X pins σ H s->t σ H Q->
  uS (uV X.prog X.w) X.A (evalPart e X.env) (fun u s'=>∃o H',Inv X pins σ H' s'/\IsPart u o/\Q o H') X.xe s
def tNoPart:TO:=fun _ H Q=>Q none H
def tPart (t:TE):TO:=fun σ H Q=>t σ H fun x H1=>∃i,x=.int i/\Q (some i) H1
section
variable {X: Cx} {e: vQ} {te: TE} {lo hi: Option vQ} {tl th: TO} {pos p2: Pos}
theorem qev:PO X none tNoPart:=by
 intro pins s σ H Q I h
 rw [evalPart_none]
 exact uG ⟨none,H,I,.none,h⟩
theorem qeu (h:PE X e te):PO X (some e) (tPart te):=by
 intro pins s σ H Q I hw
 rw [evalPart_some]
 refine thn (h pins s σ H _ I hw) fun u s1 ⟨x,H1,I1,r1,q1⟩=>?_
 obtain⟨i,rfl,q⟩:=q1
 obtain⟨t,rfl⟩:=r1
 exact⟨some i,H1,I1,.int i t,q⟩
def SlR (X:Cx) (r:V->Option Int->Option Int->Hp->VK->Prop):Prop:=
 ∀(pins:List (Addr × Obj)) (s:uE) (σ:St) (H:Hp) (x:V) (v vl vu:uC) (lo hi:Option Int) (sl:Addr) (Q:VK),Inv X pins σ H s->qbb x v->s.heap.IsSliceOf sl vl vu .none->IsPart vl lo->IsPart vu hi->r x lo hi H Q->
  ∃T id,fE (.type T) "__getitem__" =pure (some (.builtin id))/\s.TypeIs v T/\uS (uV X.prog X.w) X.A (getItem v (.ref sl)) (EP X pins σ Q) X.xe s
def tSl (r:V->Option Int->Option Int->Hp->VK->Prop) (te:TE) (tl th:TO):TE:=fun σ H Q=>te σ H fun x H1=>tl σ H1 fun l H2=>th σ H2 fun u H3=>r x l u H3 Q
theorem qdw {r:V->Option Int->Option Int->Hp->VK->Prop} (hr:SlR X r) (he:PE X e te) (hl:PO X lo tl) (hu:PO X hi th):PE X (.Subscript e (.Slice lo hi none p2) pos) (tSl r te tl th):=by
 intro pins s σ H Q I h
 refine Subscript_ (thn (he pins s σ H _ I h) fun v s1 ⟨x,H1,I1,r1,q1⟩=>?_)
 refine wpAny_Slice (thn (hl pins s1 σ H1 _ I1 q1) fun vl s2 ⟨l,H2,I2,pl,q2⟩=>thn (hu pins s2 σ H2 _ I2 q2) fun vu s3 ⟨u,H3,I3,pu,q3⟩=>?_)
 rw [evalPart_none]
 refine uG ?_
 have I4:Inv X pins σ H3 {s3 with heap:=s3.heap.push {cls:=.type "slice",data:=.fields #[vl,vu,.none]}}:=I3.kept (t':=s3.toks) fun b ob q=>uD _ q
 obtain⟨T,id,hT,ht,hg⟩:=hr pins {s3 with heap:=s3.heap.push {cls:=.type "slice",data:=.fields #[vl,vu,.none]}} σ H3 x v vl vu l u s3.heap.objs.size Q I4 r1 (Heap.IsSliceOf.new ..) pl pu q3
 show uS (uV X.prog X.w) X.A (subscriptTail e (.Slice lo hi none p2) v (.ref s3.heap.objs.size)) (EP X pins σ Q) X.xe {s3 with heap:=s3.heap.push {cls:=.type "slice",data:=.fields #[vl,vu,.none]}}
 exact tail_any (ops:=[.ref s3.heap.objs.size,v]) ht hT hg (by with_unfolding_all rfl)
def cutV (xs:List V) (lo hi:Option Int):List V:=(xs.drop (HT.sIx xs.length 0 lo)).take (HT.sIx xs.length xs.length hi - HT.sIx xs.length 0 lo)
theorem cutV_length (xs:List V) (lo hi:Option Int):(cutV xs lo hi).length<=xs.length:=by
 unfold cutV
 rw [zU,List.length_drop]
 omega
end
def ixN (n:Nat) (i:Int):Option Nat:=if 0<=i then (if i < n then some i.toNat else none) else if -(n:Int)<=i then some (i+n).toNat else none
def atI {α:Type} (xs:List α) (i:Int):Option α:=(ixN xs.length i).bind fun j=>xs[j]?
theorem ixN_seq {n:Nat} {i:Int} {j:Nat} (h:ixN n i=some j):seqIndex? i n=some j/\j < n/\-(n:Int)<=i/\i < n:=by
 unfold ixN at h
 by_cases h0:0<=i
 .rw [gL h0] at h
  by_cases h1:i < n
  .rw [gL h1] at h
   have e:i.toNat=j:=uW h
   exact⟨by rw [seqIndex_of h0 h1,e],by omega,by omega,h1⟩
  .rw [gK h1] at h;cases h
 .rw [gK h0] at h
  by_cases h1: -(n:Int)<=i
  .rw [gL h1] at h
   have e:(i+n).toNat=j:=uW h
   exact⟨by rw [seqIndex_neg (by omega) h1,e],by omega,h1,by omega⟩
  .rw [gK h1] at h;cases h
theorem atI_get {α:Type} {xs:List α} {i:Int} {v:α} (h:atI xs i=some v):∃j,seqIndex? i xs.length=some j/\xs[j]?=some v/\j < xs.length/\-(xs.length:Int)<=i/\i < xs.length:=by
 unfold atI at h
 cases e:ixN xs.length i with
 |none=>rw [e] at h;cases h
 |some j=>
  rw [e] at h
  obtain⟨h1,h2,h3,h4⟩:=ixN_seq e
  exact⟨j,h1,h,h2,h3,h4⟩
theorem qav {α:Type} {xs:List α} {j:Nat} {v:α} (h:xs[j]?=some v):atI xs (j:Int)=some v:=by
 have hj:j < xs.length:=(uH.mp h).1
 have e:ixN xs.length (j:Int)=some j:=by
  unfold ixN
  rw [gL (by omega),gL (by omega)];simp
 unfold atI;rw [e];exact h
def PlainIx (b:vQ):Prop:=∀o i,subscripted b false o i=operate [o,i] (getItem o i)
def IxR (X:Cx) (r:R2):Prop:=
 ∀(value slice:vQ) (pins:List (Addr × Obj)) (s:uE) (σ:St) (H:Hp) (x y:V) (v u:uC) (Q:VK),Inv X pins σ H s->qbb x v->qbb y u->r x y H Q->
  subscripted slice false v u=operate [v,u] (getItem v u)->uS (uV X.prog X.w) X.A (subscriptTail value slice v u) (EP X pins σ Q) X.xe s
def MtR (X:Cx) (id:String) (r:V->List V->Hp->VK->Prop):Prop:=
 ∀(pins:List (Addr × Obj)) (s:uE) (σ:St) (H:Hp) (x:V) (xs:List V) (v:uC) (us:List uC) (Q:VK),Inv X pins σ H s->qbb x v->qba xs us->r x xs H Q->
  uS (uV X.prog X.w) X.A (call (.builtin id) (v :: us)) (EP X pins σ Q) X.xe s
section
variable {X: Cx} {a b: vQ} {ta tb: TE} {pos: Pos}
theorem qak {r:R2} (hr:IxR X r) (ha:PE X a ta) (hb:PE X b tb) (hs:PlainIx b):PE X (.Subscript a b pos) (tOp r ta tb):=by
 intro pins s σ H Q I h
 exact Subscript_ (binT ha hb I h fun v u s2 x y H2 I2 rx ry q=>hr a b pins s2 σ H2 x y v u Q I2 rx ry q (hs _ _))
def rIxL (K:uR):R2:=fun x y H Q=>∃p xs i v,x=.ref p/\y=.int i/\SqL K H p xs/\atI xs i=some v/\Q v H
def rIxT (K:uR):R2:=fun x y H Q=>∃p xs i v,x=.ref p/\y=.int i/\SqT K H p xs/\atI xs i=some v/\Q v H
def rIxS:R2:=fun x y H Q=>∃z i c,x=.str z/\y=.int i/\z.length<=sizeLine/\atI z.cps.toList i=some c/\Q (.str ⟨#[c]⟩) H
theorem qal:IxR X (rIxL X.K):=by
 intro value slice pins s σ H x y v u Q I rx ry h hs
 obtain⟨p,xs,i,z,rfl,rfl,hq,he,q⟩:=h
 cases rx
 obtain⟨t,rfl⟩:=ry
 obtain⟨its,r,pl,hz⟩:=I.list hq
 obtain⟨j,h1,h2,h3,h4,h5⟩:=atI_get he
 obtain⟨w,ew,rw'⟩:=r.get h2
 have hl:=r.length
 have hn:=line63
 have fin:EP X pins σ Q w s:=⟨z,H,I,rw',q⟩
 by_cases h0:0<=i
 .have hj:i.toNat=j:=by
   rw [seqIndex_of h0 h5] at h1
   exact uW h1
  exact item_listR pl.isList h0 (by omega) (by rw [hj];simpa using ew) fin hs
 .have hj:(i+(its.toArray.size:Int)).toNat=j:=by
   rw [seqIndex_neg (by omega) h4] at h1
   rw [zI,<-hl]
   exact uW h1
  exact subscriptTail_builtinR (x:=w) pl.isList.typeIs slot_list_getitem.lookup
   (wpAny_getItem_list_neg (Q:=fun r s'=>r=w/\EP X pins σ Q r s') pl.isList (by omega) (by rw [zI] <;> omega) (by omega) (by rw [hj];simpa using ew) ⟨rfl,fin⟩) hs
theorem qap:IxR X (rIxT X.K):=by
 intro value slice pins s σ H x y v u Q I rx ry h hs
 obtain⟨p,xs,i,z,rfl,rfl,hq,he,q⟩:=h
 cases rx
 obtain⟨t,rfl⟩:=ry
 obtain⟨its,r,pl,hz⟩:=I.tuple hq
 obtain⟨j,h1,h2,h3,h4,h5⟩:=atI_get he
 obtain⟨w,ew,rw'⟩:=r.get h2
 have hl:=r.length
 have hn:=line63
 have fin:EP X pins σ Q w s:=⟨z,H,I,rw',q⟩
 exact subscriptTail_builtinR (x:=w) pl.typeIs slot_tuple_getitem.lookup
  (getItem_tuple (j:=j) (Q:=fun r s'=>r=w/\EP X pins σ Q r s') pl (by omega) (by omega) (by rw [zI,<-hl];exact h1) (by simpa using ew) ⟨rfl,fin⟩) hs
theorem ix_str:IxR X rIxS:=by
 intro value slice pins s σ H x y v u Q I rx ry h hs
 obtain⟨z,i,c,rfl,rfl,hz,he,q⟩:=h
 obtain⟨t,rfl⟩:=rx
 obtain⟨t',rfl⟩:=ry
 obtain⟨j,h1,h2,h3,h4,h5⟩:=atI_get he
 have hl:z.cps.toList.length=z.length:=by simp [Str.length]
 rw [hl] at h1 h4 h5
 have hn:=line63
 exact tail_any (typeIs_str s z t) slot_str_getitem.lookup (getItem_str (c:=c) (by
  have e1:decide (i < -(2^63:Int))=false:=gO (by omega)
  have e2:decide (i≥2^63)=false:=gO (by omega)
  rw [e1,e2,Bool.or_false]) (by rw [h1];simpa using h2) ⟨.str ⟨#[c]⟩,H,I.tok _,⟨_,rfl⟩,q⟩) hs
theorem slice_bounds (lo hi:Option Int) (n:Nat):(bT lo hi none n).1=((HT.sIx n 0 lo:Nat):Int)/\(bT lo hi none n).2.1=((HT.sIx n n hi:Nat):Int)/\(bT lo hi none n).2.2=1:=by
 refine⟨?_,?_,rfl⟩
 .cases lo with
  |none=>simp [bT,HT.sIx]
  |some i=>
   simp only [bT,HT.sIx,Option.getD_none,show (1:Int) > 0 by decide,if_true]
   by_cases h:i < 0
   .simp only [h,if_true] <;> omega
   .simp only [h,if_false] <;> omega
 .cases hi with
  |none=>simp [bT,HT.sIx]
  |some i=>
   simp only [bT,HT.sIx,Option.getD_none,show (1:Int) > 0 by decide,if_true]
   by_cases h:i < 0
   .simp only [h,if_true] <;> omega
   .simp only [h,if_false] <;> omega
theorem qfq (its:List uC) (lo hi:Option Int):slicePick its.toArray lo hi none=((its.drop (HT.sIx its.length 0 lo)).take (HT.sIx its.length its.length hi - HT.sIx its.length 0 lo)).toArray:=by
 obtain⟨h1,h2,h3⟩:=slice_bounds lo hi its.toArray.size
 unfold slicePick
 rw [h1,h2,h3]
 simp only [sliceRange_one,pick_run,zI] <;> rfl
def rSlL (K:uR):V->Option Int->Option Int->Hp->VK->Prop:=fun x lo hi H Q=>∃a xs,x=.ref a/\SqL K H a xs/\∀p,H p=none->Q (.ref p) (upd H p (.lst (cutV xs lo hi)))
theorem qeo:SlR X (rSlL X.K):=by
 intro pins s σ H x v vl vu lo hi sl Q I rx hs pl pu h
 obtain⟨a,xs,rfl,hx,q⟩:=h
 cases rx
 obtain⟨its,r,ht,hz⟩:=I.list hx
 have hlen:=r.length
 refine⟨"list",_,slot_list_getitem.lookup,ht.isList.typeIs,?_⟩
 refine wpAny_getItem_list_slice ht.isList hs pl pu .none (by simp) ?_ (by rw [zI] <;> omega)
 rw [qfq,<-hlen]
 refine⟨.ref s.heap.objs.size,_,I.laid (t':=s.toks) (o:=.lst (cutV xs lo hi)) (fun b ob q=>uD _ q) (uF _) ?_,rfl,q _ (I.hok.fresh (uF _))⟩
 exact⟨vN (cutV_length xs lo hi) hz,_,0,(r.drop (HT.sIx xs.length 0 lo)).take (HT.sIx xs.length xs.length hi - HT.sIx xs.length 0 lo),uP _ rfl⟩
def qcs:V->Bool
 | .non=>true
 | .bl _=>true
 | .int _=>true
 | .str _=>true
 |_=>false
def eqV:V->V->Bool
 | .non,.non=>true
 | .bl a,.bl b=>a==b
 | .bl a,.int b=>(if a then 1 else 0)==b
 | .int a,.bl b=>a==(if b then 1 else 0)
 | .int a,.int b=>a==b
 | .str a,.str b=>a==b
 |_,_=>false
theorem eqAt_V {A:vM} {s:uE} {y x:V} {u v:uC} (ry:qbb y u) (rx:qbb x v) (fy:qcs y=true) (fx:qcs x=true):dE A s u v (eqV y x):=by
 cases y with
 |non=>
  cases ry
  cases x with
  |non=>cases rx;exact SeqAt.EqAt.same _
  |bl b=>cases rx;exact SeqAt.EqAt.none_bool b
  |int b=>obtain⟨t,rfl⟩:=rx;exact SeqAt.EqAt.none_int b t
  |str b=>obtain⟨t,rfl⟩:=rx;exact SeqAt.EqAt.none_str b t
  |_=>exact absurd (show false=true from fx) uJ
 |bl a=>
  cases ry
  cases x with
  |non=>cases rx;exact SeqAt.EqAt.bool_none a
  |bl b=>cases rx;exact SeqAt.EqAt.bool_bool a b
  |int b=>obtain⟨t,rfl⟩:=rx;exact SeqAt.EqAt.bool_int a b t
  |str b=>obtain⟨t,rfl⟩:=rx;exact SeqAt.EqAt.bool_str a b t
  |_=>exact absurd (show false=true from fx) uJ
 |int a=>
  obtain⟨t',rfl⟩:=ry
  cases x with
  |non=>cases rx;exact SeqAt.EqAt.int_none a t'
  |bl b=>cases rx;exact SeqAt.EqAt.int_bool a t' b
  |int b=>obtain⟨t,rfl⟩:=rx;exact SeqAt.EqAt.int_int a t' b t
  |str b=>obtain⟨t,rfl⟩:=rx;exact SeqAt.EqAt.int_str a t' b t
  |_=>exact absurd (show false=true from fx) uJ
 |str a=>
  obtain⟨t',rfl⟩:=ry
  cases x with
  |non=>cases rx;exact SeqAt.EqAt.str_none a t'
  |bl b=>cases rx;exact SeqAt.EqAt.str_bool a t' b
  |int b=>obtain⟨t,rfl⟩:=rx;exact SeqAt.EqAt.str_int a t' b t
  |str b=>obtain⟨t,rfl⟩:=rx;exact SeqAt.EqAt.str_str a t' b t
  |_=>exact absurd (show false=true from fx) uJ
 |_=>exact absurd (show false=true from fy) uJ
def eqU (x:V) (u:uC):Bool:=match u with
 | .none=>eqV .non x
 | .bool b=>eqV (.bl b) x
 | .int i _=>eqV (.int i) x
 | .str z _=>eqV (.str z) x
 |_=>false
theorem eqU_of {x y:V} {u:uC} (r:qbb y u) (f:qcs y=true):eqU x u=eqV y x:=by
 cases y with
 |non=>cases r;rfl
 |bl b=>cases r;rfl
 |int i=>obtain⟨t,rfl⟩:=r;rfl
 |str z=>obtain⟨t,rfl⟩:=r;rfl
 |_=>exact absurd (show false=true from f) uJ
theorem qf6 {x:V}:∀{xs:List V} {us:List uC},qba xs us->xs.all qcs=true->us.any (eqU x)=xs.any fun y=>eqV y x
 |_,_,.nil,_=>rfl
 |y :: xs,u :: us,.cons r t,f=>by
  rw [yX,vU] at f
  rw [yW,yW,eqU_of r f.1,qf6 t f.2]
theorem qdy {A:vM} {s:uE} {x:V} {v:uC} (rx:qbb x v) (fx:qcs x=true):∀{xs:List V} {us:List uC},qba xs us->xs.all qcs=true->∀u∈us,dE A s u v (eqU x u)
 |_,_,.nil,_=>fun u hu=>by cases hu
 |y :: xs,u :: us,.cons r t,f=>fun u' hu=>by
  rw [yX,vU] at f
  rcases zM.mp hu with rfl|hu
  .rw [eqU_of r f.1];exact eqAt_V r rx f.1 fx
  .exact qdy rx fx t f.2 u' hu
def inV (x:V) (xs:List V):Bool:=xs.any fun y=>eqV y x
def rIn (K:uR) (neg:Bool):R2:=fun x y H Q=>∃p xs,y=.ref p/\(SqL K H p xs\/SqT K H p xs)/\qcs x=true/\xs.all qcs=true/\Q (.bl (if neg then !inV x xs else inV x xs)) H
theorem qcc:OpR X (wC .In) (rIn X.K false):=by
 intro pins s σ H x y v u Q I rx ry h
 obtain⟨p,xs,rfl,hq,fx,fs,q⟩:=h
 cases ry
 rcases hq with hq|hq
 .obtain⟨its,r,pl,hz⟩:=I.list hq
  refine SeqAt.in_listAt (eqU x) pl.isList (fun w hw=>qdy rx fx r fs w (by simpa using hw)) ⟨.bl _,H,I,rfl,?_⟩
  rw [show its.toArray.any (eqU x)=its.any (eqU x) by simp,qf6 r fs]
  exact q
 .obtain⟨its,r,pl,hz⟩:=I.tuple hq
  refine SeqAt.in_tupleAt (eqU x) pl (fun w hw=>qdy rx fx r fs w (by simpa using hw)) ⟨.bl _,H,I,rfl,?_⟩
  rw [show its.toArray.any (eqU x)=its.any (eqU x) by simp,qf6 r fs]
  exact q
theorem qd8:OpR X (wC .NotIn) (rIn X.K true):=by
 intro pins s σ H x y v u Q I rx ry h
 obtain⟨p,xs,rfl,hq,fx,fs,q⟩:=h
 cases ry
 rcases hq with hq|hq
 .obtain⟨its,r,pl,hz⟩:=I.list hq
  refine SeqAt.notIn_listAt (eqU x) pl.isList (fun w hw=>qdy rx fx r fs w (by simpa using hw)) ⟨.bl _,H,I,rfl,?_⟩
  rw [show its.toArray.any (eqU x)=its.any (eqU x) by simp,qf6 r fs]
  exact q
 .obtain⟨its,r,pl,hz⟩:=I.tuple hq
  refine SeqAt.notIn_tupleAt (eqU x) pl (fun w hw=>qdy rx fx r fs w (by simpa using hw)) ⟨.bl _,H,I,rfl,?_⟩
  rw [show its.toArray.any (eqU x)=its.any (eqU x) by simp,qf6 r fs]
  exact q
theorem call_len_seq:qc7 X (.builtin "len") (fun xs H Q=>∃p ys,xs=[.ref p]/\(SqL X.K H p ys\/SqT X.K H p ys)/\Q (.int ys.length) H):=by
 intro pins s σ H xs us Q I r h
 obtain⟨p,ys,rfl,hq,q⟩:=h
 obtain⟨u,rfl,rx⟩:=vals1 r
 cases rx
 have hn:=line63
 rcases hq with hq|hq
 .obtain⟨its,r',pl,hz⟩:=I.list hq
  have hlen:=r'.length
  exact Calls.call_len_list pl.isList (by simp only [zI] <;> omega) ⟨.int ys.length,H,I.tok _,⟨s.toks+1,by rw [zI,hlen]⟩,q⟩
 .obtain⟨its,r',pl,hz⟩:=I.tuple hq
  have hlen:=r'.length
  exact len_tuple pl (by simp only [zI] <;> omega) ⟨.int ys.length,H,I.tok _,⟨s.toks+1,by rw [zI,hlen]⟩,q⟩
theorem call_len_str:qc7 X (.builtin "len") (fun xs H Q=>∃z,xs=[.str z]/\z.length<=sizeLine/\Q (.int z.length) H):=by
 intro pins s σ H xs us Q I r h
 obtain⟨z,rfl,hz,q⟩:=h
 obtain⟨u,rfl,t,rfl⟩:=vals1 r
 have hn:=line63
 exact len_str (by omega) ⟨.int z.length,H,I.tok _,⟨_,rfl⟩,q⟩
theorem call_list_of:qc7 X (.type "list") (fun xs H Q=>∃p ys,xs=[.ref p]/\(SqL X.K H p ys\/SqT X.K H p ys)/\∀l,H l=none->Q (.ref l) (upd H l (.lst ys))):=by
 intro pins s σ H xs us Q I r h
 obtain⟨p,ys,rfl,hq,q⟩:=h
 obtain⟨u,rfl,rx⟩:=vals1 r
 cases rx
 have fin:∀(its:List uC),qba ys its->ys.length<=sizeLine->∀(h':vP) (c':Nat),(∀b o',s.heap.get? b=some o'->h'.get? b=some o')->
   h'.get? s.heap.objs.size=some {cls:=.type "list",dict:=none,data:=.seq its.toArray c',slots:=#[]}->EP X pins σ Q (.ref s.heap.objs.size) {s with heap:=h'}:=fun its r' hz h' c' kp e=>
  ⟨.ref s.heap.objs.size,_,I.laid (t':=s.toks) kp (uF _) (show qbh X.prog X.w _ h' _ (.lst ys) from⟨hz,its,c',r',e⟩),rfl,q _ (I.hok.fresh (uF _))⟩
 rcases hq with hq|hq
 .obtain⟨its,r',pl,hz⟩:=I.list hq
  have hlen:=r'.length
  obtain⟨o,ho,hc,n,hd⟩:=pl.isList
  exact call_list_seq p (.inl rfl) ho hc hd (fun h' c' kp e=>fin its r' hz h' c' kp e) (by simp only [zI] <;> omega)
 .obtain⟨its,r',pl,hz⟩:=I.tuple hq
  have hlen:=r'.length
  obtain⟨o,ho,hc,n,hd⟩:=pl
  exact call_list_seq p (.inr rfl) ho hc hd (fun h' c' kp e=>fin its r' hz h' c' kp e) (by simp only [zI] <;> omega)
def tyV (K:uR) (T:String) (x:V) (H:Hp):Prop:=match x with
 | .str _=>T= "str"
 | .int _=>T= "int"
 | .ref p=>(T= "list"/\∃xs,SqL K H p xs)\/(T= "tuple"/\∃o,K.lookup p=some o/\o.cls=.type "tuple"/\o.dict=none)\/
   (T= "dict"/\((∃kvs,H p=some (.dK kvs))\/∃kvs,H p=some (.dT kvs)))\/(T= "set"/\∃S n,H p=some (.set S n))
 |_=>False
theorem tyV_is {pins:List (Addr × Obj)} {σ:St} {H:Hp} {s:uE} {T:String} {x:V} {v:uC} (I:Inv X pins σ H s) (r:qbb x v) (ty:tyV X.K T x H):
  s.TypeIs v T/\∀a,v=.ref a->∃ob,s.heap.get? a=some ob/\ob.dict=none:=by
 cases x with
 |str z=>
  obtain⟨t,rfl⟩:=r
  cases (show T= "str" from ty)
  exact⟨typeIs_str s z t,fun _ e=>nomatch e⟩
 |int i=>
  obtain⟨t,rfl⟩:=r
  cases (show T= "int" from ty)
  exact⟨typeIs_int s i t,fun _ e=>nomatch e⟩
 |ref p=>
  cases r
  rcases ty with ⟨rfl,xs,hq⟩ |⟨rfl,o,hk,hc,hd⟩ |⟨rfl,hk⟩ |⟨rfl,S,n,hk⟩
  .obtain⟨its,_,pl,_⟩:=I.list hq
   refine⟨pl.isList.typeIs,fun a e=>?_⟩
   cases e
   obtain⟨o,n,e,c,hd,_⟩:=pl
   exact⟨o,e,hd⟩
  .refine⟨⟨o,I.kIn p o hk,hc⟩,fun a e=>?_⟩
   cases e
   exact⟨o,I.kIn _ o hk,hd⟩
  .have z:∃o,s.heap.get? p=some o/\o.ExactDict:=by
    rcases hk with ⟨kvs,hk⟩ |⟨kvs,hk⟩
    .obtain⟨_,_,_,_,o,_,_,e,ex,_⟩:=I.hok p _ hk
     exact⟨o,e,ex⟩
    .obtain⟨_,_,_,_,o,_,_,e,ex,_⟩:=I.hok p _ hk
     exact⟨o,e,ex⟩
   obtain⟨o,e,ex⟩:=z
   refine⟨⟨o,e,ex.1⟩,fun a e2=>?_⟩
   cases e2
   exact⟨o,e,ex.2.1⟩
  .obtain⟨o,_,_,_,e,ex,_⟩:=I.hok p _ hk
   refine⟨⟨o,e,ex.1⟩,fun a e2=>?_⟩
   cases e2
   exact⟨o,e,ex.2.1⟩
 |_=>exact vW ty
def tBM0 (K:uR) (T:String) (r:V->List V->Hp->VK->Prop) (to:TE):TE:=fun σ H Q=>to σ H fun x H1=>tyV K T x H1/\r x [] H1 Q
def tBM (K:uR) (T:String) (r:V->List V->Hp->VK->Prop) (to:TE) (t:TA):TE:=fun σ H Q=>to σ H fun x H1=>tyV K T x H1/\t σ H1 fun xs H2=>r x xs H2 Q
variable {o e: vQ} {es: List vQ} {to: TE} {t: TA} {name: Str} {apos cpos: Pos} {T id: String} {r: V -> List V -> Hp -> VK -> Prop}
theorem pe_bm0 (pa:PlainAttrs T) (slot:Slot T name id) (hty:typeOf (.builtin id)=pure (.type "method_descriptor")) (hm:MtR X id r) (ho:PE X o to)
  (hbase:bP o name X.env (wG o X.env)=wG o X.env:=by rfl) (hline:(apos.endLine==cpos.line)=true:=by rfl):PE X (.Call (.Attribute o name apos) [] [] cpos) (tBM0 X.K T r to):=by
 intro pins s σ H Q I h
 refine wpAny_Call_method0_late hbase hline (thn (ho pins s σ H _ I h) fun v s1 ⟨x,H1,I1,r1,ty,q1⟩=>?_)
 obtain⟨h1,h2⟩:=tyV_is I1 r1 ty
 exact⟨T,id,pa,slot,hty,h1,h2,dF rfl (PySem.evalArgs_none (hm pins s1 σ H1 x [] v [] Q I1 r1 .nil q1))⟩
theorem qdh (pa:PlainAttrs T) (slot:Slot T name id) (hty:typeOf (.builtin id)=pure (.type "method_descriptor")) (hm:MtR X id r) (ho:PE X o to) (ha:PA X (e :: es) t)
  (hbase:bP o name X.env (wG o X.env)=wG o X.env:=by rfl)
  (hfew:((wT cpos (uZ (e :: es) X.env)).all (fun x=>!x.1) && (cZ cpos (aV [] X.env)).all (fun x=>x.1.isSome)
   && decide ((e :: es).length+([]:List Keyword).length+(if ([]:List Keyword).isEmpty then 0 else 1) < 30))=true:=by rfl)
  (hline:(apos.endLine==cpos.line)=true:=by rfl) (hs:uZ (e :: es) X.env=(false,wG e X.env) :: uZ es X.env:=by rfl) (hplain:(wT cpos (uZ es X.env)).any (·.1)=false:=by rfl):
  PE X (.Call (.Attribute o name apos) (e :: es) [] cpos) (tBM X.K T r to t):=by
 intro pins s σ H Q I h
 refine wpAny_Call_method_late hbase hfew hline rfl (thn (ho pins s σ H _ I h) fun v s1 ⟨x,H1,I1,r1,ty,q1⟩=>?_)
 obtain⟨h1,h2⟩:=tyV_is I1 r1 ty
 refine⟨T,id,pa,slot,hty,h1,h2,?_⟩
 have hA:=ha cpos pins s1 σ H1 _ I1 q1
 rw [hs] at hA ⊢
 refine dF (by show (false ||(wT cpos (uZ es X.env)).any (·.1))=false;rw [hplain] <;> rfl) (bU ?_)
 exact thn hA fun us s2 ⟨vs,H2,I2,r2,q2⟩=>hm pins s2 σ H2 x vs v us Q I2 r1 r2 q2
end
def MtM (X:Cx) (id:String) (r:V->List V->Hp->VK->Prop):Prop:=
 ∀(pins:List (Addr × Obj)) (s:uE) (σ:St) (H:Hp) (x:V) (xs:List V) (v:uC) (us:List uC) (Q:VK),Inv X pins σ H s->qbb x v->qba xs us->r x xs H Q->
  uS (uV X.prog X.w) X.A (call (.builtin id) (v :: us)) (EP X pins σ Q) X.xe s
theorem qba.one:∀{x:V} {us:List uC},qba [x] us->∃u,us=[u]/\qbb x u
 |_,_,.cons r .nil=>⟨_,rfl,r⟩
theorem qba.zero:∀{us:List uC},qba [] us->us=[]
 |_,.nil=>rfl
theorem qba.reverse {xs:List V} {us:List uC} (h:qba xs us):qba xs.reverse us.reverse:=by
 induction h with
 |nil=>exact .nil
 |cons r t ih=>rw [List.reverse_cons,List.reverse_cons];exact qba.append ih (.cons r .nil)
section
variable {X: Cx} {pins: List (Addr × Obj)} {σ: St} {H: Hp} {s: uE} {l: Addr} {xs ys: List V}
theorem Inv.lset {its its':List uC} {n:Nat} {f:Array uC->Array uC} {t':Nat} (I:Inv X pins σ H s) (hH:H l=some (.lst xs))
  (e:s.heap.get? l=some {cls:=.type "list",data:=.seq its.toArray n}) (hf:f its.toArray=its'.toArray) (hv:qba ys its') (hz:ys.length<=sizeLine):
  Inv X pins σ (upd H l (.lst ys)) {s with heap:=s.heap.update l (fF f),toks:=t'}:=by
 have q:=PySem.IsL.update e f
 rw [hf] at q
 refine I.write (x:=l) (e:=l) (by rw [hH];exact trivial) (.inl rfl) (fun b' u hb hu=>(wN s.heap (fF f) (xF hb)).trans hu) ⟨_,q⟩ ?_
 exact⟨hz,its',_,hv,q⟩
theorem Inv.lnew {its:List uC} {t':Nat} (I:Inv X pins σ H s) (hv:qba ys its) (hz:ys.length<=sizeLine):
  Inv X pins σ (upd H s.heap.objs.size (.lst ys)) {s with heap:=s.heap.push {cls:=.type "list",data:=.seq its.toArray},toks:=t'}:=
 I.laid (fun _ _ q=>uD _ q) (uF _) ⟨hz,its,0,hv,uP _ rfl⟩
theorem Inv.fresh (I:Inv X pins σ H s):H s.heap.objs.size=none:=I.hok.fresh (uF _)
theorem Inv.lstM (I:Inv X pins σ H s) (hH:H l=some (.lst xs)):xs.length<=sizeLine/\∃(its:List uC) (n:Nat),qba xs its/\xs.length=its.length/\s.heap.get? l=some {cls:=.type "list",data:=.seq its.toArray n}:=by
 obtain⟨z,its,n,r,e⟩:=I.hok l _ hH
 exact⟨z,its,n,r,r.length,e⟩
theorem notLongL {n:Nat} (h:n<=sizeLine):cV n=false:=by
 unfold cV
 exact gO (by omega)
end
section
variable {X: Cx}
def rAppend:V->List V->Hp->VK->Prop:=fun x vs H Q=>∃l xs y,x=.ref l/\vs=[y]/\H l=some (.lst xs)/\xs.length < sizeLine/\Q .non (upd H l (.lst (xs++ [y])))
theorem qb1:MtM X "list.append" rAppend:=by
 intro pins s σ H x vs v us Q I rx rv h
 obtain⟨l,xs,y,rfl,rfl,hH,hz,q⟩:=h
 cases rx
 obtain⟨u,rfl,ru⟩:=rv.one
 obtain⟨z,its,n,r,hl,e⟩:=I.lstM hH
 refine call_meets F.slot_list_append ⟨_,e,rfl⟩ F.entry_list_append (F.args_list_append_2 _ _) (PySem.list_append l its.toArray n u (by rw [zI];omega)) ⟨e,?_⟩
 refine⟨.non,_,I.lset (its':=its++ [u]) hH e (by simp) (r.append (.cons ru .nil)) ?_,rfl,q⟩
 rw [zG,zT]
 omega
def rExtend:V->List V->Hp->VK->Prop:=fun x vs H Q=>∃l b xs zs,x=.ref l/\vs=[.ref b]/\H l=some (.lst xs)/\H b=some (.lst zs)/\xs.length+zs.length<=sizeLine/\Q .non (upd H l (.lst (xs++zs)))
theorem mt_extend:MtM X "list.extend" rExtend:=by
 intro pins s σ H x vs v us Q I rx rv h
 obtain⟨l,b,xs,zs,rfl,rfl,hH,hB,hz,q⟩:=h
 cases rx
 obtain⟨u,rfl,ru⟩:=rv.one
 cases ru
 obtain⟨z,its,n,r,hl,e⟩:=I.lstM hH
 obtain⟨z2,its2,n2,r2,hl2,e2⟩:=I.lstM hB
 have hsz:its.toArray.size+its2.toArray.size<=sizeLine:=by rw [zI,zI];omega
 have hlong:¬(!its.toArray.isEmpty && cV (its.toArray.size+its2.toArray.size))=true:=by
  rw [notLongL hsz,Bool.and_false]
  exact uJ
 refine call_meets F.slot_list_extend ⟨_,e,rfl⟩ F.entry_list_extend (F.args_list_extend_2 _ _)
  (AutoSeq1.list_extend_list_list_0 l its.toArray n b its2.toArray n2 hlong (by rw [zI];omega) (by omega)) ⟨e,e2,?_⟩
 refine⟨.non,_,I.lset (its':=its++its2) hH e (by simp) (r.append r2) ?_,rfl,q⟩
 rw [zG]
 omega
def rCat:R2:=fun x y H Q=>∃l b xs zs,x=.ref l/\y=.ref b/\H l=some (.lst xs)/\H b=some (.lst zs)/\xs.length+zs.length<=sizeLine/\∀p,H p=none->Q (.ref p) (upd H p (.lst (xs++zs)))
theorem op_cat:OpR X (bC .Add) rCat:=by
 intro pins s σ H x y v u Q I rx ry h
 obtain⟨l,b,xs,zs,rfl,rfl,hH,hB,hz,q⟩:=h
 cases rx
 cases ry
 obtain⟨z,its,n,r,hl,e⟩:=I.lstM hH
 obtain⟨z2,its2,n2,r2,hl2,e2⟩:=I.lstM hB
 refine PySem.P.add_list e e2 ?_ (by rw [zI,zI];omega)
 have ea:its.toArray++its2.toArray=(its++its2).toArray:=by simp
 rw [ea]
 exact⟨.ref _,_,I.lnew (t':=s.toks) (r.append r2) (by rw [zG];omega),rfl,q _ I.fresh⟩
def rRep:R2:=fun x y H Q=>∃l k xs,x=.ref l/\y=.int k/\H l=some (.lst xs)/\-(2^63)<=k/\k < 2^63/\xs.length*k.toNat<=sizeLine/\
 ∀p,H p=none->Q (.ref p) (upd H p (.lst (bF k.toNat xs).flatten))
end
end L2
namespace Att
open PySem PySem.W PySem.Calls PyProof.Rows
theorem qf3 {P:Params} {h:vP}:∀(ns:List Int) (vs:List uC),WellAll P h vs (ns.map WData.int)->IntsAre vs ns:=by
 intro ns
 induction ns with
 |nil=>
  intro vs w
  rw [fT] at w
  cases w
  exact .nil
 |cons n ns ih=>
  intro vs w
  rw [zV] at w
  cases w with
  |cons a b=>
   cases a
   exact .cons _ _ (ih _ b)
theorem script_of {l:OpenLaw} {n:Nat} (hn:l.most=some n) {P:Params} {h:vP} {args:List WData} {vals:List uC}
  (hpre:l.row.toRowW.claim.pre args=true) (hwl:WellAll P h vals args):
  ∃a vs ns,vals=[uO a]/\args=[WData.list (ns.map WData.int)]/\h.get? a=some {cls:=.type "list",data:=.seq vs.toArray}/\IntsAre vs ns/\ns.length<=n:=by
 have hsh:WShape.hasAll [] args [.list .int]=true:=(pre_splitW hpre).1
 have hc:l.pre.holds [] {args:=args}=true:=(pre_splitW hpre).2
 obtain⟨d,r,rfl,h1,h2⟩:=hasAllW_cons hsh
 obtain rfl:=hasAllW_nil h2
 obtain⟨xs,rfl,h3⟩:=hasW_list h1
 obtain⟨ns,rfl⟩:=items_int h3
 have hlen:ns.length<=n:=by
  unfold OpenLaw.pre at hc
  have h4:(WTm.not (.lt (.lit (.int (n:Int))) (.len (.arg 0)))).holds [] {args:=[.list (ns.map .int)]}=true:=by
   have h4:=(holds_andW hc).1
   rw [hn] at h4
   exact h4
  have h5:=condW_of h4 (w_not (w_lt w_lit (w_len_list (w_arg rfl))))
  rw [zB] at h5
  refine gG fun q=>?_
  have q':(n:Int) <((ns.length:Nat):Int):=by omega
  first
   |(rw [gM q'] at h5;exact absurd h5 (by decide))
   |(simp at h5;omega)
 cases hwl with
 |cons w1 w2=>
  cases w2
  cases w1 with
  |list ho hall=>exact⟨_,_,ns,rfl,rfl,ho,qf3 ns _ hall,hlen⟩
theorem post_true (l:OpenLaw) (args:List WData):l.row.toRowW.claim.post args (.bool true) args=true:=
 postW_of (r:=l.row.toRowW) (X:=(true==true))
  (show WShape.has [] (.bool true) .bool=true by first|rfl|decide|simp [WShape.has,WShape.arms,WShape.armsAll])
  (show (WTm.eq .res (.lit (.bool true))).value [] {args:=args,res:=some (.bool true),after:=args}=some (.bool (true==true)) from w_eq_bool (w_res rfl) w_lit) rfl
theorem attach_call {l:OpenLaw} {n:Nat} {q:uY} {loose:List Str} {XP:(Str->Option uC)->vP->Prop} {YP:vL->vP->Prop} {d:DefRec}
  (hn:l.most=some n) (hdf:d.params.defaults=[])
  (call:∀(w:vL) (s₀ s₁:uE) (mg mb:Str->Option uC) (fa:Addr) (o:Obj) (pm cd doc:uC) (a:Addr) (vs:List uC) (ns:List Int),
   Ground q loose [] XP w s₀ mg mb s₁.heap->YP w s₁.heap->
   s₁.heap.get? fa=some o->o.data=.func (docDef d.name d.params d.body d.scope pm cd doc)->s₁.heap.CodeRec cd d.name->mg d.name=some (.ref fa)->
   s₁.heap.get? a=some {cls:=.type "list",data:=.seq vs.toArray}->IntsAre vs ns->ns.length<=n->s₁.gens= #[]->
   bD (uV l.prog w) fU (.call (.ref fa) ⟨[.ref a], []⟩) (fun r s'=>r=.ok (.ret (.bool true))/\OldK s₁.heap s'.heap/\s'.os=s₁.os/\cH s'.gens) s₁):
  WalkO q loose XP YP l.row.toRowW d [] (fun f vs=>PySem.call f vs):=by
 intro w s₀ s₁ mg mb G Y fa o pm cd doc dV kV ho hd hcd hD hmg hg args vals as hpre hlay hrd hwl hlo
 obtain rfl:dV=.none:=Dflts.none hD hdf
 obtain rfl:kV=.none:=Dflts.noKw hD
 obtain⟨a,vs,ns,rfl,rfl,hobj,hints,hlen⟩:=script_of hn hpre hwl
 refine enter_call (xN (call w s₀ s₁ mg mb fa o pm cd doc a vs ns G Y ho (fd_plain hd) hcd hmg hobj hints hlen hg) fun r s' hq=>?_)
 obtain⟨rfl,h2,h3,h4⟩:=hq
 exact⟨.inl ⟨.bool true,.bool true, [],rfl,fun _=>rfl,.bool true,post_true l _,fun _=>⟨cK,fun _ hm=>(nomatch hm)⟩⟩,h2,h3,h4⟩
end Att
namespace L2
open PySem PySem.Spec PyProof.Rows
theorem vals_ints:∀{vs:List uC} {ns:List Int},IntsAre vs ns->qba (ns.map V.int) vs
 |_,_,.nil=> .nil
 |_,_,.cons n t h=> .cons ⟨t,rfl⟩ (vals_ints h)
def Only (H:Hp):Prop:=∀b,H b=none\/∃o xs,H b=some (.frz o (.lst xs))
theorem law_call {P:uY} {w:vL} {K:uR} {mg mb:Str->Option uC} {CX:CXT} {k:Nat} {fa a:Addr} {fd:uM} {x:Str} {sp:Sp} {s₁:uE} {vs:List uC} {ns:List Int}
  (KX:K.In s₁.heap) (hns:s₁.heap.Ns uT mg) (hb:s₁.heap.Ns builtinsNs mb) (hbb:∀x:Str,x≠"__name__"->mb x=xM x) (hlim:s₁.heap.NoLimit) (hg:s₁.gens= #[])
  (ha:s₁.heap.get? a=some {cls:=.type "list",data:=.seq vs.toArray}) (hi:IntsAre vs ns) (hl:ns.length<=sizeLine) (hr:Room k fU)
  (F:∀base:vP,K.In base->base.Ns uT mg->FnOk P w K mg base CX k fa fd [x] sp) (hbind:∀(s:uE) (u:uC),eI s fd ⟨[u], []⟩ [(x,u)])
  (hsp:∀H:Hp,Only H->SqL K H a (ns.map V.int)->sp [.ref a] H (fun v _=>v=.bl true) fun _ _ _=>False)
  (hCX:∀H e s',CX [] H s₁ (fun _ _ _=>False) e s'->False):
  bD (uV P w) fU (.call (.ref fa) ⟨[.ref a], []⟩) (fun r s'=>r=.ok (.ret (.bool true))/\OldK s₁.heap s'.heap/\s'.os=s₁.os/\cH s'.gens) s₁:=by
 have rv:=vals_ints hi
 have lenV:=hi.length
 have core:∀H:Hp,Only H->SqL K H a (ns.map V.int)->HOk P w H s₁.heap->(∀b,H b≠none->b=a)->(H a≠none->K.lookup a=none)->
   bD (uV P w) fU (.call (.ref fa) ⟨[.ref a], []⟩) (fun r s'=>r=.ok (.ret (.bool true))/\OldK s₁.heap s'.heap/\s'.os=s₁.os/\cH s'.gens) s₁:=by
  intro H hO hS hok hA hK
  have base_of:∀{b:Addr} {o:Obj},s₁.heap.get? b=some o->H b=none->(hidT s₁.heap H).get? b=some o:=fun e n=>hidT_get e n
  have noA:∀{b:Addr} {o:Obj} {es:Array eJ} {ep:Nat},s₁.heap.get? b=some o->o.data=.dict es ep->H b=none:=fun {b o es ep} e d=>by
   cases q:H b with
   |none=>rfl
   |some u=>
    have e':b=a:=hA b (by rw [q];simp)
    subst e'
    rw [ha] at e;cases e
    have d':Data.seq vs.toArray _=Data.dict es ep:=d
    cases d'
  have nsK:∀{b:Addr} {m:Str->Option uC},s₁.heap.Ns b m->(hidT s₁.heap H).Ns b m:=fun {b m} ⟨o,es,ep,e,d,r⟩=>⟨o,es,ep,base_of e (noA e d),d,r⟩
  have hKb:K.In (hidT s₁.heap H):=fun b o e=>base_of (KX b o e) (by
   cases q:H b with
   |none=>rfl
   |some u=>
    have e':b=a:=hA b (by rw [q];simp)
    subst e'
    rw [hK (by rw [q];simp)] at e;cases e)
  have hM:Mod K mg (hidT s₁.heap H):=⟨hKb,nsK hns,⟨mb,nsK hb,hbb⟩,let ⟨mc,h1,h2⟩:=hlim;⟨mc,nsK h1,h2⟩⟩
  have e0:Env0 P w K mg (hidT s₁.heap H) fU [] s₁ H:=⟨rfl,hM,fun b o e=>of_hidT e,Nat.le_of_eq (hidT_size _ _),trivial,fun b hb=>absurd (show b∈([]:List Addr) from hb) (by simp),hok,.of_eq hg⟩
  refine xN ((F _ hKb (nsK hns)).run fU [] s₁ H ⟨[.ref a], []⟩ [.ref a] [.ref a] _ _ hr e0 (hbind s₁ (.ref a)) (.cons rfl .nil) (hsp H hO hS)) fun r s' h=>?_
  cases r with
  |error e=>exact(hCX H e s' h).elim
  |ok fl=>
   cases fl with
   |next=>exact vW h
   |brk=>exact vW h
   |cont=>exact vW h
   |ret u=>
    obtain⟨v,H',os,bare,un,hok',r',q⟩:=h
    have q':v=.bl true:=q
    subst q'
    obtain rfl:u=fA true:=r'
    refine⟨rfl,OldK.of_keep fun b o e=>?_,os,bare⟩
    cases q:H b with
    |none=>exact un.keep b o e q (by intro z;exact absurd (show b∈([]:List Addr) from z) (by simp)) (by simp)
    |some u=>
     rcases hO b with z|⟨ob,xs,z⟩
     .rw [q] at z;cases z
     .have z2:=un.frzs b ob _ z
      obtain⟨e1,_⟩:=hok b _ z
      obtain⟨e2,_⟩:=hok' b _ z2
      rw [e] at e1;cases e1
      exact e2
 cases hk:K.lookup a with
 |some o=>
  have e:=KX a o hk
  rw [ha] at e
  cases e
  refine core (fun _=>none) (fun _=> .inl rfl) (.inr ⟨_,vs.toArray,_,hk,rfl,rfl,rfl,by rw [zI,lenV];exact hl,by simpa using rv⟩) (fun b u z=>by have z':(none:Option HO)=some u:=z;cases z') (fun b z=>absurd rfl z) fun z=>absurd rfl z
 |none=>
  refine core (fun b=>if b=a then some (.frz {cls:=.type "list",data:=.seq vs.toArray} (.lst (ns.map V.int))) else none) (fun b=>?_) (.inl (.inr ⟨{cls:=.type "list",data:=.seq vs.toArray},gL rfl⟩)) (fun b u z=>?_) (fun b z=>?_) fun _=>hk
  .by_cases hb:b=a
   .exact .inr ⟨_,_,gL hb⟩
   .exact .inl (gK hb)
  .by_cases hb:b=a
   .have z':=(gL hb).symm.trans z
    cases z'
    subst hb
    exact⟨ha,by rw [zB];exact hl,vs,_,rv,ha⟩
   .have z':=(gK hb).symm.trans z
    cases z'
  .by_cases hb:b=a
   .exact hb
   .exact absurd (gK hb) z
theorem walk_of {l:PySem.W.OpenLaw} {n k:Nat} {q:uY} {loose:List Str} {XP:(Str->Option uC)->vP->Prop} {YP:vL->vP->Prop} {d:DefRec} {K:Params->uR} {CX:vL->CXT} {sp:vL->Sp} {x:Str}
  (hn:l.most=some n) (hn2:n<=sizeLine) (hdf:d.params.defaults=[]) (hr:Room k fU)
  (hY:∀(w:vL) (h:vP),YP w h->(K w.params).In h)
  (F:∀(w:vL) (mg:Str->Option uC) (fa:Addr) (h:vP),(K w.params).In h->h.Ns uT mg->mg d.name=some (.ref fa)->
   ∃fd:uM,(∀(s:uE) (u:uC),eI s fd ⟨[u], []⟩ [(x,u)])/\
    ∀base:vP,(K w.params).In base->base.Ns uT mg->FnOk l.prog w (K w.params) mg base (CX w) k fa fd [x] (sp w))
  (hsp:∀(w:vL) (H:Hp) (a:Addr) (ns:List Int),ns.length<=n->Only H->SqL (K w.params) H a (ns.map V.int)->sp w [.ref a] H (fun v _=>v=.bl true) fun _ _ _=>False)
  (hCX:∀(w:vL) (H:Hp) (s:uE) (e:uC) (s':uE),CX w [] H s (fun _ _ _=>False) e s'->False):
  PySem.W.WalkO q loose XP YP l.row.toRowW d [] (fun f vs=>PySem.call f vs):=by
 refine Att.attach_call hn hdf fun w s₀ s₁ mg mb fa o pm cd doc a vs ns G Y ho hd hcd hmg hobj hints hlen hg=>?_
 have KX:=hY w _ Y
 obtain⟨fd,hb,hF⟩:=F w mg fa _ KX G.T.g hmg
 exact law_call KX G.T.g G.T.b G.T.builtins G.T.nolimit hg hobj hints (vN hlen hn2) hr hF hb (fun H hO hS=>hsp w H a ns hlen hO hS) fun H e s'=>hCX w H s₁ e s'
def qce (s:Stmt):Arguments:=match s with
 | .FunctionDef _ a _ _ _ _ _ _ _ _=>a
 |_=>{posonlyargs:=[],args:=[],vararg:=none,kwonlyargs:=[],kw_defaults:=[],kwarg:=none,defaults:=[]}
def qbx (s:Stmt):List Stmt:=match s with
 | .FunctionDef _ _ b _ _ _ _ _ _ _=>b
 |_=> []
def qaa (s:Stmt):bY:=match s with
 | .FunctionDef _ _ _ _ _ _ sc _ _ _=>sc
 |_=>{kind:=.function,names:=[],isGenerator:=false,isCoroutine:=false}
abbrev CX0:CXT:=fun _ _ _ _ _ _=>False
abbrev E0:XK:=fun _ _ _=>False
theorem qah {X:Cx}:qfa CX0 X E0:=fun _ _ _ _ _ _ _ h=>h.elim
structure Fun (K:uR) (x qual:Str) (st:Stmt) (f:Addr) (fd:uM):Prop where
 ex:∃(oc:uC) (od:Option Addr) (kV doc pm:uC) (an:Option Addr) (cdv ct:uC) (osl:Array (Option uC)),
  fd=fnOf x qual (qce st) (qbx st) (qaa st) .none kV doc pm an cdv ct/\K.lookup f=some ⟨oc,od,.func fd,osl⟩/\gE K cdv qual=true
 kp:dB K (.ref f)=true
section
variable {P: uY} {w: vL} {K: uR} {mg: Str -> Option uC} {base: vP}
theorem Fun.ok {x qual:Str} {st:Stmt} {f:Addr} {fd:uM} {N ps:List Str} {k:Nat} {sp:Sp} (F:Fun K x qual st f fd) (S:FnScope N ps (qaa st)) (len:∀vs H Q E,sp vs H Q E->vs.length=ps.length)
  (hbody:∀(cdv:uC) (A:vM) (outer:List Env) (s:uE) (H:Hp) (vs:List V) (Q:VK) (E:XK),Room k (A.deeper (dD qual (qaa st) s.heap.objs.size f cdv))->sp vs H Q E->
   ∃t,PSs (cxOf CX0 P w K mg base N qual (qaa st) f cdv A outer s H E).nox (qbx st) t/\t {nx:=fun _ H'=>Q .non H',rt:=Q} (qed N vs) H):FnOk P w K mg base CX0 (k+1) f fd ps sp:=by
 obtain⟨oc,od,kV,doc,pm,an,cdv,ct,osl,rfl,lk,hcd⟩:=F.ex
 refine fn_of lk hcd S len fun A outer s H vs Q E hr hsp=>?_
 obtain⟨t,h,q⟩:=hbody cdv A outer s H vs Q E hr hsp
 exact⟨t,h.nox,q⟩
theorem Fun.binds {x qual:Str} {st:Stmt} {f:Addr} {fd:uM} {ps:List Str} (F:Fun K x qual st f fd)
  (h:∀(kV doc pm:uC) (an:Option Addr) (cdv ct:uC) (us:List uC),us.length=ps.length->bindArgs (fnOf x qual (qce st) (qbx st) (qaa st) .none kV doc pm an cdv ct) ⟨us, []⟩=pure (ps.zip us)):qao K fd ps []:=by
 obtain⟨oc,od,kV,doc,pm,an,cdv,ct,osl,rfl,lk,hcd⟩:=F.ex
 exact .all (h kV doc pm an cdv ct)
theorem fun_mk {x qual:Str} {st:Stmt} {f:Addr} {oc:uC} {od an:Option Addr} {osl:Array (Option uC)} {kV doc pm cdv ct:uC} (l:K.lookup f=some ⟨oc,od,.func (fnOf x qual (qce st) (qbx st) (qaa st) .none kV doc pm an cdv ct),osl⟩)
  (c:gE K cdv qual=true) (k:dB K (.ref f)=true):Fun K x qual st f (fnOf x qual (qce st) (qbx st) (qaa st) .none kV doc pm an cdv ct):=⟨⟨oc,od,kV,doc,pm,an,cdv,ct,osl,rfl,l,c⟩,k⟩
end
theorem qcg {A:vM} {k:Nat} (hr:Room k A):A.units+1 < cLine:=vR (Nat.add_le_add_left (by decide:1<=64) _) hr.units
section
variable {X: Cx}
theorem pv (i:Nat) {x:Str} {pos:Pos} (hN:X.N[i]?=some x:=by rfl) (hv:Vis X.env.scope x:=by first|exact uI rfl|exact aM (uI rfl) |exact aM (aM rfl)) (hd:(x==("__debug__" :Str))=false:=by decide)
  (hcd:(x==("__classdict__" :Str))=false:=by decide):PE X (.Name x pos) (tVar i):=pe_var hN hv hd hcd
end
theorem iteF {A B:Prop} (h:B):if false=true then A else B:=by
 rw [gK uJ]
 exact h
theorem iteT {A B:Prop} (h:A):if true=true then A else B:=by
 rw [gL rfl]
 exact h
def qar (H H':Hp):Prop:=∀b o,H b=some o->H' b=some o
theorem qar.refl (H:Hp):qar H H:=fun _ _ h=>h
theorem qar.trans {H H1 H2:Hp} (a:qar H H1) (b:qar H1 H2):qar H H2:=fun c o h=>b c o (a c o h)
theorem qar.free {H H':Hp} (e:qar H H') {l:Addr} (h:H' l=Option.none):H l=Option.none:=by
 cases q:H l with
 |none=>rfl
 |some o=>
  rw [e l o q] at h
  cases h
theorem qar.seq {K:uR} {H H':Hp} {a:Addr} {xs:List V} (e:qar H H') (h:SqL K H a xs):SqL K H' a xs:=by
 rcases h with (h|⟨o,h⟩) |h
 .exact .inl (.inl (e _ _ h))
 .exact .inl (.inr ⟨o,e _ _ h⟩)
 .exact .inr h
end L2
namespace My
open PySem PySem.Spec PyProof.Rows L2
section
variable {X: Cx}
theorem bits600 {k:Int} (h:k.natAbs < 2^600):Builtin.Int.intBits k<=2^20:=
 vN (PyProof.Rows.intBits_le (k:=600) h) (by decide)
def CBig (i j:Int):Prop:=i.natAbs < 2^600/\j.natAbs < 2^600
theorem qbw:OpR X (bC .Mult) (rI CBig fun i j=> .int (i*j)):=opI fun _ _ _ _ _ _ _ hc q=>mul_int q (IntMulOk.of_bits (bits600 hc.1) (bits600 hc.2))
def CDivB (i j:Int):Prop:=j≠0/\j.natAbs < 2^600
theorem noPy {x y:Int} (h:y.natAbs < 2^600):Builtin.divisionGoesByPylong x y=false:=by
 refine PyProof.noPylong_of_log2 ?_
 by_cases h0:y.natAbs=0
 .rw [h0];decide+kernel
 .have h30:y.natAbs.log2 < 600:=(Nat.log2_lt h0).mpr h
  omega
theorem qcj:OpR X (bC .FloorDiv) (rI CDivB fun i j=> .int (i.fdiv j)):=opI fun _ _ _ _ _ _ _ hc q=>floordiv_int hc.1 q (.inl (noPy hc.2))
end
theorem qa7 {H:Hp} {p:Addr} (h:H p=none) (o:HO):qar H (upd H p o):=fun b u q=>by rw [qa6 (qa8 q h)];exact q
theorem same_tup {K:uR} {H H':Hp} {a:Addr} {xs:List V} (e:qar H H') (h:SqT K H a xs):SqT K H' a xs:=by
 rcases h with (h|⟨o,h⟩) |h
 .exact .inl (.inl (e _ _ h))
 .exact .inl (.inr ⟨o,e _ _ h⟩)
 .exact .inr h
def cell (ns:List Int) (k:Int):Int:=(ns[k.toNat]?).getD 0
theorem cell_at {ns:List Int} {k:Int} (h0:0<=k) (h:k <(ns.length:Int)):atI (ns.map V.int) k=some (.int (cell ns k)):=by
 have hk:k.toNat < ns.length:=by omega
 have ek:k=((k.toNat:Nat):Int):=by omega
 have q:atI (ns.map V.int) ((k.toNat:Nat):Int)=some (.int ns[k.toNat]):=qav (by rw [zC,zA hk] <;> rfl)
 rw [<-ek] at q
 rw [q]
 unfold cell
 rw [zA hk]
 rfl
end My
set_option maxHeartbeats 1000000
namespace My
open PySem PySem.Spec PyProof.Rows L2
section
variable {X: Cx} {pins: List (Addr × Obj)} {σ: L2.St} {H: Hp} {s: uE} {h': vP}
structure Rec (X:Cx) (pins:List (Addr × Obj)) (H:Hp) (h:vP) (b:Addr):Prop where
 nw:X.s₀.heap.get? b=none
 un:H b=none
 pin:∀p∈X.pn++pins,p.1≠b
 ob:∃o vs,h.get? b=some o/\o.data=.fields vs
theorem Rec.loc (I:Inv X pins σ H s) {b:Addr} (r:Rec X pins H s.heap b):b≠X.env.locals:=fun z=>by
 obtain⟨o,vs,e,d⟩:=r.ob
 obtain⟨m,⟨o',es,ep,e',d',_⟩,_⟩:=I.loc
 rw [z,e'] at e;cases e;rw [d'] at d;cases d
theorem Rec.cel (I:Inv X pins σ H s) {b:Addr} (r:Rec X pins H s.heap b):∀x c,X.env.cells.lookup x=some c->c≠b:=fun x c hc z=>by
 obtain⟨o,vs,e,d⟩:=r.ob
 obtain⟨v,o',e',d'⟩:=I.cell x c hc
 rw [z,e] at e';cases e';rw [d] at d';cases d'
theorem Rec.frs (I:Inv X pins σ H s) {b:Addr} (r:Rec X pins H s.heap b):b∉frs X.stack:=fun z=>by
 obtain⟨o,vs,e,d⟩:=r.ob
 obtain⟨_,o',e',d'⟩:=I.stack.mem z
 rw [e] at e';cases e';exact d' vs d
theorem Inv.marks {ch:List Addr} {t':Nat} (I:Inv X pins σ H s) (hch:∀b∈ch,Rec X pins H s.heap b)
  (k1:∀b o,b∉frs X.stack->b∉ch->s.heap.get? b=some o->h'.get? b=some o)
  (k2:∀b o,b∉ch->s.heap.get? b=some o->∃sl,h'.get? b=some {o with slots:=sl}):Inv X pins σ H {s with heap:=h',toks:=t'}:=by
 have sub:∀b,b≠X.env.locals->b∉X.fs->b∉frs X.stack:=fun b h1 h2 z=>(zM.mp (I.stkSub b z)).elim h1 h2
 have neL:∀b o,X.s₀.heap.get? b=some o->b≠X.env.locals:=fun b o e=>uX (vI (uL e) I.ok.above)
 have neC:∀b o,X.s₀.heap.get? b=some o->b∉ch:=fun b o e z=>by rw [(hch b z).nw] at e;cases e
 have cel:∀x c,X.env.cells.lookup x=some c->∀v,s.heap.IsCell c v->h'.IsCell c v:=fun x c e v ⟨o,ho,hd⟩=>by
  obtain⟨sl,q⟩:=k2 c o (fun z=>(hch c z).cel I x c e rfl) ho
  exact⟨_,q,hd⟩
 refine⟨I.ok,I.os,I.bare,⟨fun b o e n hb hx=>k1 b o (sub b (neL b o e) hb) (neC b o e) (I.base.keep b o e n hb hx),fun b o e n hb hx=>?_,I.base.free,fun b o e hx=>?_,I.base.tups,I.base.frzs,I.base.tbls⟩,
  ?_,fun x c e=>?_,I.free,I.freeC,fun p hp=>?_,fun a o e=>?_,I.len⟩
 .obtain⟨sl,e1⟩:=I.base.slot b o e n hb hx
  obtain⟨sl',e2⟩:=k2 b _ (neC b o e) e1
  exact⟨sl',e2⟩
 .obtain⟨o',e1⟩:=I.base.there b o e hx
  obtain⟨sl',e2⟩:=k2 b _ (neC b o e) e1
  exact⟨_,e2⟩
 .obtain⟨m,hm,hl⟩:=I.loc
  have hm':h'.Ns X.env.locals m:=by
   obtain⟨o,es,ep,e,r⟩:=hm
   obtain⟨sl,q⟩:=k2 _ o (fun z=>(hch _ z).loc I rfl) e
   exact⟨_,es,ep,q,r⟩
  refine⟨m,hm',fun i x v e1 e2 e3=>?_⟩
  obtain⟨u,r,l⟩:=hl i x v e1 e2 e3
  refine⟨u,r,?_⟩
  rcases l with l|⟨k,c,e,z⟩
  .exact .inl l
  .exact .inr ⟨k,c,e,cel x c e _ z⟩
 .obtain⟨v,z⟩:=I.cell x c e
  exact⟨v,cel x c e v z⟩
 .obtain⟨e,n,ne,nf,d⟩:=I.pin p hp
  exact⟨k1 p.1 p.2 (sub p.1 ne nf) (fun z=>(hch p.1 z).pin p hp rfl) e,n,ne,nf,d⟩
 .refine(I.hok a o e).stay (fun b u hb q=>k1 b u ?_ ?_ q) (fun _ q=>q) fun _ _ q=>q
  .intro z
   have n:=I.stkFree b z
   rcases hb with rfl|hb
   .rw [n] at e;cases e
   .rw [n] at hb;cases hb
  .intro z
   have n:=(hch b z).un
   rcases hb with rfl|hb
   .rw [n] at e;cases e
   .rw [n] at hb;cases hb
theorem obj_there {P:uY} {w:vL} {H:Hp} {h:vP} {a:Addr} {o:HO} (x:qbh P w H h a o):∃ob,h.get? a=some ob:=by
 cases o with
 |lst xs=>obtain⟨_,_,_,_,e⟩:=x;exact⟨_,e⟩
 |tup xs=>obtain⟨_,_,_,ob,e,_⟩:=x;exact⟨_,e⟩
 |dK kvs=>obtain⟨_,_,_,_,o,_,_,e,_⟩:=x;exact⟨_,e⟩
 |dT kvs=>obtain⟨_,_,_,_,o,_,_,e,_⟩:=x;exact⟨_,e⟩
 |set S n=>obtain⟨o,_,_,_,e,_⟩:=x;exact⟨_,e⟩
 |ins C dx fs=>obtain⟨_,_,_,e,_⟩:=x;exact⟨_,e⟩
 |own y=>exact x
 |xd fs=>obtain⟨_,⟨_,_,_,e,_⟩,_⟩:=x;exact⟨_,e⟩
 |rng lo hi=>obtain⟨_,_,_,e⟩:=x;exact⟨_,e⟩
 |frz ob u=>obtain⟨e,_⟩:=x;exact⟨_,e⟩
 |tbl ps=>exact⟨_,(show h.get? a=some _ from x)⟩
 |met f y=>exact⟨_,(show h.get? a=some _ from x)⟩
 |ext φ=>obtain⟨_,e,_⟩:=x;exact e
theorem un_of {P:uY} {w:vL} {H:Hp} {h:vP} {a:Addr} (x:HOk P w H h) (e:h.get? a=none):H a=none:=by
 cases q:H a with
 |none=>rfl
 |some o=>obtain⟨ob,z⟩:=obj_there (x a o q);rw [e] at z;cases z
theorem new_of (I:Inv X pins σ H s) (hex:X.ex=[]) {b:Addr} (e:s.heap.get? b=none):X.s₀.heap.get? b=none:=by
 cases q:X.s₀.heap.get? b with
 |none=>rfl
 |some o=>obtain⟨o',z⟩:=I.base.there b o q (by rw [hex];simp);rw [e] at z;cases z
def XNew (h:vP) (e:Addr) (C:uC) (d:Option Addr):Prop:=
 ∃oe vs,h.get? e=some oe/\oe.cls=C/\oe.dict=d/\oe.data=.fields vs/\vs[1]?=some .none
def XTr (h:vP) (e:Addr) (C:uC) (d:Option Addr) (fl:uC) (T:Addr):Prop:=
 ∃oe vs oT ts,h.get? e=some oe/\oe.cls=C/\oe.dict=d/\oe.data=.fields vs/\vs[1]?=some (.ref T)/\T≠e/\h.get? T=some oT/\oT.data=.fields ts/\ts[3]?=some fl
def XIn (X:Cx) (pins:List (Addr × Obj)) (H:Hp) (h:vP) (e:Addr) (C:uC) (d:Option Addr):Prop:=
 Rec X pins H h e/\(XNew h e C d\/∃T,Rec X pins H h T/\∃fl,XTr h e C d fl T)
def qf7 (X:Cx) (pins:List (Addr × Obj)) (H:Hp) (h:vP) (e:Addr) (C:uC) (d:Option Addr) (fl:uC):Prop:=
 Rec X pins H h e/\∃T,Rec X pins H h T/\XTr h e C d fl T
theorem dict_mapF (f:Array uC->Array uC) (o:Obj):(o.mapFields f).dict=o.dict:=by
 obtain⟨c,d,dt,sl⟩:=o
 cases dt <;> rfl
theorem entry_x {M:Model} {A:vM} {E:uC->uE->Prop} {e:Addr} {C:uC} {d:Option Addr} {head:uC} {hadNext:Bool} {Q:Unit->uE->Prop}
  (I:Inv X pins σ H s) (hA:A.frames=some X.stack) (hst:X.stack=X.env :: X.outer) (hf:X.env.frame=some X.env.locals) (r:Rec X pins H s.heap e)
  (ho:∃oe vs,s.heap.get? e=some oe/\oe.cls=C/\oe.dict=d/\oe.data=.fields vs/\1 < vs.size)
  (h:∀s',Inv X pins σ H s'->qf7 X pins H s'.heap e C d (xD X.env.locals)->Q () s'):
  uS M A (do let a<-frameOf X.env;let pl<-entryPlaceOf X.env.locals hadNext;let b<-EntryCells.newEntry head a .none (xD X.env.locals) .none pl;setField (.ref e) 1 b) Q E s:=by
 obtain⟨oe,vs,he,hc,hdd,hd,hsz⟩:=ho
 have hl:=I.stack
 rw [hst] at hl hA
 have ne:e∉L2.frs X.stack:=r.frs I
 refine uA (wpAny_frameOf_fun hA hl hf fun h₁ hs₁=>uA (wpAny_entryPlaceOf fun pl hpl=>?_))
 unfold EntryCells.newEntry newFields
 refine uA (wF ?_ (hpl.sizeOk5 _ _ _ _ _))
 rw [<-hst] at hs₁
 have he1:h₁.get? e=some oe:=(hs₁.2.1 e ne).trans he
 generalize hN:({cls:=.type "traceback",dict:=none,data:=.fields ([head,.ref X.env.locals,.none,xD X.env.locals,.none]++(if pl.isEmpty then bF 6 vT else pl)).toArray}:Obj)=N
 have he2:(h₁.push N).get? e=some oe:=uD _ he1
 refine aF he2 hd hsz (h _ ?_ ?_)
 .refine Inv.marks (s:=s) (ch:=[e]) (t':=s.toks) I (fun b hb=>by rw [zF.mp hb];exact r) (fun b o h1 h2 q=>?_) fun b o h2 q=>?_
  .have hb:b≠e:=fun z=>h2 (by simp [z])
   rw [wN _ _ (xF hb)]
   exact uD _ ((hs₁.2.1 b h1).trans q)
  .have hb:b≠e:=fun z=>h2 (by simp [z])
   obtain⟨sl,q1⟩:=hs₁.2.2 b o q
   exact⟨sl,by rw [wN _ _ (xF hb)];exact uD _ q1⟩
 .have sz1:h₁.objs.size=s.heap.objs.size:=hs₁.1
  have hTe:h₁.objs.size≠e:=Nat.ne_of_gt (uL he1)
  have d3:=xP hd (·.setIfInBounds 1 (uO h₁.objs.size))
  have e3:=xZ (wM (·.setIfInBounds 1 (uO h₁.objs.size))) he2 (bK d3)
  have nf:N.isFreed=false:=by rw [<-hN];rfl
  have t3:=(wN (h₁.push N) (wM (·.setIfInBounds 1 (uO h₁.objs.size))) (xF hTe)).trans (uP h₁ nf)
  have rT:Rec X pins H ((h₁.push N).update e (wM (·.setIfInBounds 1 (uO h₁.objs.size)))) h₁.objs.size:=by
   refine⟨aD (by rw [sz1];exact I.sz),I.hok.fresh (by rw [sz1];exact uF _),fun p hp z=>?_,⟨N,_,t3,by rw [<-hN]⟩⟩
   obtain⟨q,_⟩:=I.pin p hp
   have w:=uL q
   rw [z,sz1] at w
   exact absurd w (wA _)
  refine⟨⟨r.nw,r.un,r.pin,⟨_,_,e3,d3⟩⟩,h₁.objs.size,rT,_,_,N,_,e3,(fV _ _).trans hc,?_,d3,by simp [hsz],hTe,t3,by rw [<-hN],?_⟩
  .rw [<-hdd];exact dict_mapF _ _
  .first|(simp;done) |(rcases hpl with rfl|⟨_,_,_,_,_,_,_,rfl⟩ <;> simp)
theorem note_x {M:Model} {A:vM} {E:uC->uE->Prop} {e:Addr} {C:uC} {d:Option Addr} {Q:Unit->uE->Prop}
  (I:Inv X pins σ H s) (hA:A.frames=some X.stack) (hst:X.stack=X.env :: X.outer) (hf:X.env.frame=some X.env.locals) (x:XIn X pins H s.heap e C d)
  (h:∀s',Inv X pins σ H s'->qf7 X pins H s'.heap e C d (xD X.env.locals)->Q () s'):uS M A (noteFrame (.ref e) X.env) Q E s:=by
 obtain⟨r,x⟩:=x
 unfold noteFrame
 simp only [hf]
 rcases x with ⟨oe,vs,he,hc,hdd,hd,h1⟩ |⟨T,rT,fl,oe,vs,oT,ts,he,hc,hdd,hd,h1,hTe,hT,hdT,h3⟩
 .refine uA (cL he hd h1 ?_)
  rw [gK (by decide)]
  exact entry_x I hA hst hf r ⟨oe,vs,he,hc,hdd,hd,(aG.mp h1).1⟩ h
 .refine uA (cL he hd h1 ?_)
  rw [gL (show (uO T !=vT)=true from by simp)]
  refine uA (cL hT hdT h3 ?_)
  by_cases qf:(fl==xD X.env.locals)=true
  .rw [gL qf]
   have ef:fl=xD X.env.locals:=eq_of_beq qf
   rw [ef] at h3
   exact uG (h s I ⟨r,T,rT,oe,vs,oT,ts,he,hc,hdd,hd,h1,hTe,hT,hdT,h3⟩)
  .rw [gK qf]
   refine uA (aF hT hdT (aG.mp h3).1 ?_)
   have oth:∀b,b≠T->(s.heap.update T (wM (·.setIfInBounds 3 vT))).get? b=s.heap.get? b:=fun b hb=>wN _ _ (xF hb)
   have J:Inv X pins σ H {s with heap:=s.heap.update T (wM (·.setIfInBounds 3 vT))}:=
    Inv.marks (s:=s) (ch:=[T]) (t':=s.toks) I (fun b hb=>by rw [zF.mp hb];exact rT) (fun b o _ h2 q=>(oth b fun z=>h2 (by simp [z])).trans q) fun b o h2 q=>⟨o.slots,(oth b fun z=>h2 (by simp [z])).trans q⟩
   have he':=(oth e (xF hTe)).trans he
   exact entry_x J hA hst hf ⟨r.nw,r.un,r.pin,⟨oe,vs,he',hd⟩⟩ ⟨oe,vs,he',hc,hdd,hd,(aG.mp h1).1⟩ h
theorem flight_g (fr:Option Addr) {M:Model} {A:vM} {E:uC->uE->Prop} {e:Addr} {C fl:uC} {d:Option Addr} {Q:Unit->uE->Prop}
  (I:Inv X pins σ H s) (x:qf7 X pins H s.heap e C d fl)
  (h:∀s',Inv X pins σ H s'->qf7 X pins H s'.heap e C d (fr.elim vT fun f=>xD f)->Q () s'):uS M A (setFlight (.ref e) fr) Q E s:=by
 obtain⟨r,T,rT,oe,vs,oT,ts,he,hc,hdd,hd,h1,hTe,hT,hdT,h3⟩:=x
 have hsz:=(aG.mp h3).1
 unfold setFlight
 refine uA (cL he hd h1 ?_)
 rw [gL (show (uO T !=vT)=true from by simp)]
 refine aF hT hdT hsz (h _ ?_ ?_)
 all_goals have oth:∀b,b≠T->(s.heap.update T (wM (·.setIfInBounds 3 (fr.elim vT fun f=>xD f)))).get? b=s.heap.get? b:=fun b hb=>wN _ _ (xF hb)
 .exact Inv.marks (s:=s) (ch:=[T]) (t':=s.toks) I (fun b hb=>by rw [zF.mp hb];exact rT) (fun b o _ h2 q=>(oth b fun z=>h2 (by simp [z])).trans q) fun b o h2 q=>⟨o.slots,(oth b fun z=>h2 (by simp [z])).trans q⟩
 .have he':=(oth e (xF hTe)).trans he
  have d3:=xP hdT (·.setIfInBounds 3 (fr.elim vT fun f=>xD f))
  have hT':=xZ (wM (·.setIfInBounds 3 (fr.elim vT fun f=>xD f))) hT (bK d3)
  exact⟨⟨r.nw,r.un,r.pin,⟨oe,vs,he',hd⟩⟩,T,⟨rT.nw,rT.un,rT.pin,⟨_,_,hT',d3⟩⟩,oe,vs,_,_,he',hc,hdd,hd,h1,hTe,hT',d3,by simp [hsz]⟩
theorem flight_x {M:Model} {A:vM} {E:uC->uE->Prop} {e:Addr} {C fl:uC} {d:Option Addr} {Q:Unit->uE->Prop}
  (I:Inv X pins σ H s) (x:qf7 X pins H s.heap e C d fl)
  (h:∀s',Inv X pins σ H s'->qf7 X pins H s'.heap e C d .none->Q () s'):uS M A (setFlight (.ref e) none) Q E s:=flight_g none I x h
theorem qf7.xin {h:vP} {e:Addr} {C fl:uC} {d:Option Addr} (x:qf7 X pins H h e C d fl):XIn X pins H h e C d:=
 let ⟨r,T,rT,q⟩:=x
 ⟨r,.inr ⟨T,rT,_,q⟩⟩
theorem qf7.xinL {h:vP} {e:Addr} {C:uC} {d:Option Addr} (x:qf7 X pins H h e C d (xD X.env.locals)):XIn X pins H h e C d:=x.xin
def CX1 (P:uY) (w:vL):CXT:=fun outer H s E e s'=>∃(a:Addr) (C:uC) (d:Option Addr) (H':Hp),e=.ref a/\s'.os=s.os/\cH s'.gens/\Un (L2.frs outer) [] H H' s.heap s'.heap/\HOk P w H' s'.heap/\
 s.heap.get? a=none/\H' a=none/\(∃T,s.heap.get? T=none/\H' T=none/\XTr s'.heap a C d .none T)/\E C d H'
def Xes (X:Cx) (W:L2.St->XK):Prop:=∀(pins:List (Addr × Obj)) (σ:L2.St) (H:Hp) (s:uE) (a:Addr) (C:uC) (d:Option Addr),Inv X pins σ H s->XIn X pins H s.heap a C d->W σ C d H->X.xe (.ref a) s
theorem xes_call {W:L2.St->XK} (h:Xes X W) (hex:X.ex=[]) {e:uC} {s':uE} (I:Inv X pins σ H s) (q:CX1 X.prog X.w X.stack H s (W σ) e s'):X.xe e s':=by
 obtain⟨a,C,d,H',rfl,os,bare,un,hok,la,na,⟨T,lT,nT,x⟩,w⟩:=q
 have J:Inv X pins σ H' s':=I.call' (ch:=[]) os un hok bare (fun b z=>absurd z (by simp))
 have pn:∀b,s.heap.get? b=none->∀p∈X.pn++pins,p.1≠b:=fun b lb p hp z=>by
  have w:=(I.pin p hp).1
  rw [z,lb] at w
  cases w
 obtain⟨oe,vs,oT,ts,he,hc,hdd,hd,h1,hTe,hT,hdT,h3⟩:=id x
 exact h pins σ H' s' a C d J ⟨⟨new_of I hex la,na,pn a la,⟨oe,vs,he,hd⟩⟩,.inr ⟨T,⟨new_of I hex lT,nT,pn T lT,⟨oT,ts,hT,hdT⟩⟩,_,x⟩⟩ w
end
section
variable {X: Cx} {pins: List (Addr × Obj)} {σ: L2.St} {H: Hp} {s: uE} {W: L2.St -> XK}
def XSt (X:Cx) (W:L2.St->XK) (e:uC) (s:uE):Prop:=∃(a:Addr) (C:uC) (d:Option Addr) (σ:L2.St) (H:Hp),e=.ref a/\Inv X [] σ H s/\XIn X [] H s.heap a C d/\W σ C d H
abbrev xw (X:Cx) (W:L2.St->XK):Cx:=X.wish (XSt X W)
theorem Rec.less {h:vP} {b:Addr} (r:Rec X pins H h b):Rec X [] H h b:=⟨r.nw,r.un,fun p hp=>r.pin p (by rw [yB] at hp;exact yG _ hp),r.ob⟩
theorem XIn.less {h:vP} {a:Addr} {C:uC} {d:Option Addr} (x:XIn X pins H h a C d):XIn X [] H h a C d:=by
 obtain⟨r,x⟩:=x
 rcases x with x|⟨T,rT,x⟩
 .exact⟨r.less,.inl x⟩
 .exact⟨r.less,.inr ⟨T,rT.less,x⟩⟩
theorem Rec.unwish {E:uC->uE->Prop} {h:vP} {b:Addr} (r:Rec (X.wish E) pins H h b):Rec X pins H h b:=⟨r.nw,r.un,r.pin,r.ob⟩
theorem XIn.unwish {E:uC->uE->Prop} {h:vP} {a:Addr} {C:uC} {d:Option Addr} (x:XIn (X.wish E) pins H h a C d):XIn X pins H h a C d:=by
 obtain⟨r,x⟩:=x
 rcases x with x|⟨T,rT,x⟩
 .exact⟨r.unwish,.inl x⟩
 .exact⟨r.unwish,.inr ⟨T,rT.unwish,x⟩⟩
theorem qaz:Xes (xw X W) W:=fun pins σ H s a C d I x w=>⟨a,C,d,σ,H,rfl,I.unwish.pins_of (fun _ z=>nomatch z),x.unwish.less,w⟩
theorem qex (hst:X.stack=X.env :: X.outer) (hf:X.env.frame=some X.env.locals):PassesOwn (uV X.prog X.w) X.A X.env (XSt X W):=by
 rintro e s' ⟨a,C,d,σ,H,rfl,I,x,w⟩
 show uS _ _ (noteFrame (.ref a) X.env) _ _ s'
 refine note_x I I.ok.frames hst hf x fun s2 I2 x2=>?_
 obtain⟨r,T,rT,oe,vs,oT,ts,he,hc,hdd,hd,h1,r2⟩:=id x2
 unfold cameBackBy
 refine uA (cL he hd h1 ?_)
 have fin:uS (uV X.prog X.w) X.A (setFlight (.ref a) X.env.frame) (fun _ s''=>XSt X W (.ref a) s'') (XSt X W) s2:=by
  rw [hf]
  exact flight_g (some X.env.locals) I2 x2 fun s3 I3 x3=>⟨a,C,d,σ,H,rfl,I3,qf7.xinL x3,w⟩
 first
  |(rw [gK (show ¬((uO T==vT)=true) from by simp)];exact fin)
  |(rw [gK (show ¬((uO T==vT)=true) from by simp)];exact uA (uG fin))
  |(refine uA ?_;rw [gK (show ¬((uO T==vT)=true) from by simp)];exact uG fin)
theorem PSs.xes {st:List Stmt} {t:TS} (hx:Xes X W) (h:PSs (xw X W) st t):PSs X st t:=fun pins s σ H D I hw=>
 vD (h pins s σ H D (I.wish _) hw) (fun _ _ q=>q.unwish) fun _ _ ⟨a,C,d,σ',H',e,I',x,w⟩=>by subst e;exact hx [] σ' H' _ a C d I' x w
end
section
variable {P: uY} {w: vL} {K: uR} {mg: Str -> Option uC} {base: vP}
theorem xes_fn {N:List Str} {qual:Str} {scope:bY} {f:Addr} {cd:uC} {A:vM} {outer:List Env} {s:uE} {H:Hp} {E:XK}:
  Xes (cxOf (CX1 P w) P w K mg base N qual scope f cd A outer s H E) (fun _=>E):=by
 intro pins σ H1 s1 a C d I x wE
 show uS _ _ (leaving _ _) _ _ s1
 unfold leaving
 refine uA (note_x I I.ok.frames rfl rfl x fun s2 I2 x2=>flight_x I2 x2 fun s3 I3 x3=>?_)
 obtain⟨r,T,rT,xt⟩:=x3
 exact⟨a,C,d,H1,rfl,I3.os,I3.bare,I3.base,I3.hok,r.nw,r.un,⟨T,rT.nw,rT.un,xt⟩,wE⟩
theorem okX {x qual:Str} {st:Stmt} {f:Addr} {fd:uM} {N ps:List Str} {k:Nat} {sp:Sp} (F:Fun K x qual st f fd) (S:FnScope N ps (qaa st)) (len:∀vs H Q E,sp vs H Q E->vs.length=ps.length)
  (hbody:∀(cdv:uC) (A:vM) (outer:List Env) (s:uE) (H:Hp) (vs:List V) (Q:VK) (E:XK),Room k (A.deeper (dD qual (qaa st) s.heap.objs.size f cdv))->sp vs H Q E->
   ∃t,PSs (xw (cxOf (CX1 P w) P w K mg base N qual (qaa st) f cdv A outer s H E) (fun _=>E)) (qbx st) t/\t {nx:=fun _ H'=>Q .non H',rt:=Q} (qed N vs) H):FnOk P w K mg base (CX1 P w) (k+1) f fd ps sp:=by
 obtain⟨oc,od,kV,doc,pm,an,cdv,ct,osl,rfl,lk,hcd⟩:=F.ex
 refine fn_of lk hcd S len fun A outer s H vs Q E hr hsp=>?_
 obtain⟨t,ht,q⟩:=hbody cdv A outer s H vs Q E hr hsp
 exact⟨t,PSs.xes xes_fn ht,q⟩
end
section
variable {X: Cx} {k: Nat} {f: Addr} {fd: uM} {ps: List Str} {sp: Sp} {dvs: List V} {ds: List uC} {W: L2.St -> XK} {x: Str} {p pos: Pos} {e: vQ} {es: List vQ} {t: TA}
def tCallX (sp:Sp) (dvs:List V) (W:L2.St->XK) (t:TA):TE:=fun σ H Q=>t σ H fun vs H1=>sp (vs++dvs) H1 Q (W σ)
theorem run_fnX {pins:List (Addr × Obj)} {σ:L2.St} {H:Hp} {s:uE} {Q:VK} {us:List uC} {vs:List V} (F:FnOk X.prog X.w X.K X.mg X.base (CX1 X.prog X.w) k f fd ps sp) (hr:Room k X.A) (hb:qao X.K fd ps ds) (hd:qba dvs ds) (hx:Xes X W) (hex:X.ex=[])
  (I:Inv X pins σ H s) (r:qba vs us) (h:sp (vs++dvs) H Q (W σ)):uS (uV X.prog X.w) X.A (call (.ref f) us) (EP X pins σ Q) X.xe s:=by
 have r2:qba (vs++dvs) (us++ds):=r.append hd
 have hl:(us++ds).length=ps.length:=by rw [<-r2.length];exact F.len _ _ _ _ h
 refine bN (xN (F.run X.A X.stack s H ⟨us, []⟩ (us++ds) (vs++dvs) Q (W σ) hr I.env0 (hb s us I.kIn hl) r2 h) fun r s' hq=>?_)
 match r,hq with
 | .error e,hq=>exact xes_call hx hex I hq
 | .ok (.ret u),hq=>exact I.after hq
 | .ok .next,hq=>exact vW hq
 | .ok .brk,hq=>exact vW hq
 | .ok .cont,hq=>exact vW hq
theorem qbp (F:FnOk X.prog X.w X.K X.mg X.base (CX1 X.prog X.w) k f fd ps sp) (hr:Room k X.A) (hg:Gl X x) (hm:X.mg x=some (.ref f)) (hk:dB X.K (.ref f)=true) (hb:qao X.K fd ps ds) (hd:qba dvs ds) (hx:Xes X W)
  (ha:PA X (e :: es) t) (hex:X.ex=[]:=by rfl) (hdb:(x==("__debug__" :Str))=false:=by decide) (he:uZ (e :: es) X.env=(false,wG e X.env) :: uZ es X.env:=by rfl) (hpl:(wT pos (uZ es X.env)).any (·.1)=false:=by rfl):
  PE X (.Call (.Name x p) (e :: es) [] pos) (tCallX sp dvs W t):=by
 intro pins s σ H Q I h
 refine wW (qdq I hg hm ?_ hdb)
 refine xO (h₀:=X.base) I.ok.mod.kin hk (thn (ha pos pins s σ H _ I h) fun us s1 ⟨vs,H1,I1,r,q⟩=>⟨I1.kIn,?_⟩) he hpl
 exact run_fnX F hr hb hd hx hex I1 r q
end
structure XCls (K:uR) (C:Addr):Prop where
 ob:∃(nm q:Str) (N:Addr) (bs bm:List uC) (hdct:Bool) (sn:List Str) (sub:List uC) (ab:Bool) (col:Option Bool) (dd:Option Addr) (k0 k1 k2 k3 k5:Option uC) (mN:Str->Option uC),
  K.lookup C=some (bV nm q C N bs bm hdct sn sub ab col dd k0 k1 k2 k3 k5 "ValueError.__new__")/\(∀h:vP,K.In h->h.Ns N mN)/\mN "__init__" =none/\
  ∀h:vP,K.In h->OwnTail h [.type "ValueError",.type "Exception",.type "BaseException",.type "object"] bm
section
variable {X: Cx} {x: Str} {C: Addr} {W: L2.St -> XK} {np cpos pos: Pos} {e: vQ} {es: List vQ} {t: TA}
def tRaise (t:TA) (C:Addr) (W:L2.St->XK):TS:=fun _ σ H=>t σ H fun xs H1=>xs.length<=sizeLine/\W σ (.ref C) none H1
theorem qc1 (hc:X.calm=true) (M:XCls X.K C) (hg:Gl X x) (hm:X.mg x=some (.ref C)) (hx:Xes X W) (ha:PA X (e :: es) t) (hex:X.ex=[]:=by rfl) (hdb:(x==("__debug__" :Str))=false:=by decide)
  (he:uZ (e :: es) X.env=(false,wG e X.env) :: uZ es X.env:=by rfl) (hpl:(wT cpos (uZ es X.env)).any (·.1)=false:=by rfl):
  PS X (.Raise (some (.Call (.Name x np) (e :: es) [] cpos)) none pos) (tRaise t C W):=by
 intro pins s σ H D I h
 obtain⟨nm,q,N,bs,bm,hdct,sn,sub,ab,col,dd,k0,k1,k2,k3,k5,mN,hC,hN,hni,T⟩:=M.ob
 refine wpAny_Raise_call_subU (C:=C) (nm:=nm) (q:=q) (N:=N) (bs:=bs) (bm:=bm) (hdct:=hdct) (sn:=sn) (sub:=sub) (ab:=ab) (col:=col) (dd:=dd) (k0:=k0) (k1:=k1) (k2:=k2) (k3:=k3) (k5:=k5)
  aH (by decide) aH (mN:=mN) ((T _ I.kIn).hasType PySem.F.excBase_ValueError.hasBase) (I.ok.hd hc) ?_ hni ?_
 .rw [he];show (false ||(wT cpos (uZ es X.env)).any (·.1))=false;rw [hpl];rfl
 .refine qdq I hg hm ⟨rfl,?_⟩ hdb
  have z:=ha cpos pins s σ H _ I h
  rw [he] at z ⊢
  refine bU (vD z (fun us s2 ⟨vs,H2,I2,r,hl,q⟩=>⟨rfl,by rw [<-r.length];exact hl,I2.kIn _ _ hC,hN _ I2.kIn,T _ I2.kIn,fun h' a m=>?_⟩) fun _ _ y=>y)
  obtain⟨tp,ea,_,_⟩:=m.there
  have J:Inv X pins σ H2 {s2 with heap:=h'}:=I2.kept (t':=s2.toks) m.keeps
  refine hx pins σ H2 _ a (.ref C) none J ⟨⟨new_of I2 hex m.new,un_of I2.hok m.new,fun p hp y=>?_,⟨_,_,ea,rfl⟩⟩,.inl ⟨_,_,ea,rfl,rfl,rfl,rfl⟩⟩ q
  have w:=(I2.pin p hp).1
  rw [y,m.new] at w
  cases w
end
section
variable {X: Cx} {pins: List (Addr × Obj)}
abbrev pnd (X:Cx) (pins:List (Addr × Obj)):Cx:={X with pn:=X.pn++pins}
abbrev suite (X:Cx) (a:Addr):Cx:={X with A:=X.A.mark (some (.ref a)),calm:=false,xe:=fun _ _=>False}
def XO (a:Addr) (C:uC) (d:Option Addr):HO:=.ext fun h=>∃(oe:Obj) (vs:Array uC),h.get? a=some oe/\oe.cls=C/\oe.dict=d/\oe.data=.fields vs
end
section
variable {X: Cx}
def tCut (t:TS):TS:=fun D σ H=>∃J:L2.St->Hp->Prop,t {D with nx:=J} σ H/\∀σ' H',J σ' H'->D.nx σ' H'
theorem qd6 {st:Stmt} {t:TS} (h:PS X st t):PS X st (tCut t):=by
 intro pins s σ H D I ⟨J,hw,k⟩
 refine vD (h pins s σ H _ I hw) (fun f s' q=>?_) fun _ _ z=>z
 cases f with
 |next=>obtain⟨σ',H',I',z⟩:=q;exact⟨σ',H',I',k _ _ z⟩
 |brk=>exact q
 |cont=>exact q
 |ret u=>exact q
end
section
def gone (i:Nat) (D:Ends):Ends:={nx:=fun σ H=>D.nx (σ.set i none) H,rt:=D.rt,bk:=fun σ H=>D.bk (σ.set i none) H,ct:=fun σ H=>D.ct (σ.set i none) H}
end
theorem qd2 {K:uR} {C:Addr} (q:fK K C [.type "ValueError",.type "Exception",.type "BaseException",.type "object"] "ValueError.__new__" =true):XCls K C:=by
 unfold fK at q
 split at q
 .rename_i dd cd sl ho
  split at q
  .rename_i C' bm k0 k1 k2 k3 n k5 hm hs
   simp only [vU,beq_iff_eq,cM] at q
   obtain⟨⟨⟨⟨⟨rfl,rfl⟩,hdel⟩,ht⟩,hok⟩,hni⟩:=q
   obtain⟨nm,bs,mro,ns,qn,hd,sn,sub,ab,col,del⟩:=cd
   dsimp only at hm hdel hok hni
   subst hm hdel
   have hsl:sl= #[k0,k1,k2,k3,some (.builtin "ValueError.__new__"),k5]:=by
    obtain⟨l⟩:=sl
    simp only at hs
    rw [hs]
   subst hsl
   unfold PySem.W.nsOkIn at hok
   split at hok
   .rename_i c1 d1 es ep sl1 hN
    have hSK:StrKeys es:=fun e he=>by
     have z:=fW.mp hok e he
     split at z
     .rename_i n t q;exact⟨n,t,q⟩
     .cases z
    have hNs:∀h:vP,K.In h->h.Ns ns (fun x=>fB es x):=fun h X=>⟨_,es,ep,X _ _ hN,rfl,hSK,fun _=>rfl⟩
    refine⟨nm,qn,ns,bs,bm,hd,sn,sub,ab,col,dd,k0,k1,k2,k3,k5,fun x=>fB es x,ho,hNs,?_,fun h X=>PySem.W.tail_of_in X ht⟩
    unfold xG at hni
    rw [hN] at hni
    dsimp only at hni
    split at hni
    .cases hni
    .rename_i hf
     show fB es "__init__" =none
     unfold fB findBy
     rw [<-fD,hf]
     rfl
   .cases hok
  .cases q
 .cases q
def TyX (K:uR) (H:Hp) (x:V) (t:uC) (b:Bool):Prop:=TyOf K H x t\/∃(a:Addr) (d:Option Addr),x=.ref a/\H a=some (XO a t d)/\b=true
def rIsi (K:uR):List V->Hp->VK->Prop:=fun xs H Q=>∃(x c:V) (u t:uC) (b:Bool),xs=[x,c]/\qbb c u/\(∀u',qbb c u'->u'=u)/\TyX K H x t b/\cC K t u=some b/\Q (.bl b) H
theorem isi_yes {prog:uY} {w:vL} {A:vM} {E:uC->uE->Prop} {s:uE} {Q:uC->uE->Prop} {K:uR} {a:Addr} {t c:uC} (KX:K.In s.heap) (hp:∃o,s.heap.get? a=some o/\o.cls=t) (e:cC K t c=some true)
  (h:Q (.bool true) s):uS (uV prog w) A (call (.builtin "isinstance") [.ref a,c]) Q E s:=by
 refine call_isinstance_of ?_ (by intro q;cases q)
 obtain⟨h0,g,d,tt,os⟩:=s
 obtain⟨o,ho,hc⟩:=hp
 have LT:cW (uV prog w) h0 (typeOf (.ref a)) t:=hc ▸ (PySem.W.Looks.ld ho).andThen .now
 unfold cC at e
 unfold xQ.«isinstance.nested»
 refine uA (LT.at ?_)
 by_cases q:(t==c)=true
 .rw [gL q]
  first
   |exact uA (wpAny_rule (uG h))
   |exact uA (wpAny_rule h)
 .rw [gK q] at e
  rw [gK q]
  obtain⟨hty,his,hsub⟩:=PySem.W.kit_cls (M:=uV prog w) KX e
  have LI:cW (uV prog w) h0 (isInstance (.ref a) c) true:=LT.andThen hsub
  refine uA (hty.at ?_)
  rw [gL (by decide)]
  k_delta "plainIsInstance"
  refine uA (uA (his.at ?_))
  simp only [Bool.not_true,Bool.false_eq_true,if_false]
  refine uA (LI.at ?_)
  first
   |exact uG (uG h)
   |(simp only [if_true];first|exact uG (uG h) |exact uG h|exact uA (uG (uG h)))
theorem qff {X:Cx}:Xes X (fun _ _ _ _=>False):=fun _ _ _ _ _ _ _ _ _ w=>w.elim
section
variable {X: Cx}
theorem qc6:qc7 X (.builtin "isinstance") (rIsi X.K):=by
 intro pins s σ H xs us Q I hv h
 obtain⟨x,c,u,t,b,rfl,hu,hu',ty,e,q⟩:=h
 cases hv with
 |cons r1 hv=>
  cases hv with
  |cons r2 hv=>
   cases hv
   rename_i v1 v2
   rw [hu' v2 r2]
   rcases ty with ty|⟨a,d,rfl,ea,rfl⟩
   .exact isinst_ok I r1 ty e fun tk=>⟨.bl b,H,I.tok tk,rfl,q⟩
   .cases r1
    obtain⟨⟨oe,vs,h1,h2,_⟩,_⟩:=(show qbh X.prog X.w H s.heap a (XO a t d) from I.hok a _ ea)
    exact isi_yes I.kIn ⟨oe,h1,h2⟩ e ⟨.bl true,H,I,rfl,q⟩
def rIsN:R2:=fun x y H Q=>y=.non/\Q (.bl (decide (x=.non))) H
def rNotN:R2:=fun x y H Q=>y=.non/\Q (.bl (!decide (x=.non))) H
def rLen (K:uR):List V->Hp->VK->Prop:=fun xs H Q=>∃p ys,xs=[.ref p]/\(SqL K H p ys\/SqT K H p ys)/\Q (.int ys.length) H
theorem qaw:qc7 X (.builtin "len") (rLen X.K):=call_len_seq
theorem op_isNN:OpR X (wC .Is) rIsN:=op_isN
theorem qfw:OpR X (wC .IsNot) rNotN:=op_notN
end
section
variable {K: uR} {H: Hp} {Q: VK}
theorem r_isi {x:V} {T:String} {t:uC} {b:Bool} (ty:TyOf K H x t) (e:cC K t (.type T)=some b) (h:Q (.bl b) H):rIsi K [x,.ty T] H Q:=⟨x,_,_,t,b,rfl,rfl,fun _ z=>z,.inl ty,e,h⟩
end
section
variable {K: uR}
theorem kit_int_int:cC K (.type "int") (.type "int")=some true:=by rfl
theorem kit_int_bool:cC K (.type "int") (.type "bool")=some false:=by rfl
theorem qfz:cC K (.type "bool") (.type "bool")=some true:=by rfl
theorem kit_str_str:cC K (.type "str") (.type "str")=some true:=by rfl
theorem kit_lst_lst:cC K (.type "list") (.type "list")=some true:=by rfl
theorem kit_dct_dct:cC K (.type "dict") (.type "dict")=some true:=by rfl
end
section
variable {K: uR} {σ σ': L2.St} {H H1: Hp} {Q: VK} {D: Ends} {ta tb te: TE} {t u: TS} {c c': TT} {ar: TA} {v x y: V} {i j: Nat}
theorem qag {N:List Str} {vs:List V} (e:qed N vs=σ) (h:t D σ H):t D (qed N vs) H:=e ▸ h
theorem r_var (e:σ[i]?=some (some v)) (h:Q v H):tVar i σ H Q:=⟨v,e,h⟩
theorem r_c (h:Q v H):tC v σ H Q:=h
theorem r_op {r:R2} (h:ta σ H fun x H1=>tb σ H1 fun y H2=>r x y H2 Q):tOp r ta tb σ H Q:=h
theorem r_I0 {g:Int->Int->V} {i j:Int} (h:Q (g i j) H):rI0 g (.int i) (.int j) H Q:=⟨i,j,rfl,rfl,h⟩
theorem r_I {C:Int->Int->Prop} {g:Int->Int->V} {i j:Int} (hc:C i j) (h:Q (g i j) H):rI C g (.int i) (.int j) H Q:=⟨i,j,rfl,rfl,hc,h⟩
theorem r_eqI {i j:Int} (h:Q (.bl (decide (i=j))) H):rEq (.int i) (.int j) H Q:=⟨rfl,by
 have e:decide (V.int i=V.int j)=decide (i=j):=by by_cases z:i=j <;> simp [z]
 rw [e];exact h⟩
theorem r_neI {i j:Int} (h:Q (.bl (!decide (i=j))) H):rNe (.int i) (.int j) H Q:=⟨rfl,by
 have e:decide (V.int i=V.int j)=decide (i=j):=by by_cases z:i=j <;> simp [z]
 rw [e];exact h⟩
theorem r_exb {b:Bool} {Q:Bool->Prop} (h:Q b):∃k,V.bl b=.bl k/\Q k:=⟨b,rfl,h⟩
theorem r_test {Q:Bool->Hp->Prop} (h:te σ H fun x H'=>∃k,x=.bl k/\Q k H'):tTest te σ H Q:=h
theorem r_tB {Q:Bool->Hp->Prop} (h:te σ H fun x H'=>∃k,x=.bl k/\Q k H'):tB te σ H Q:=h
theorem r_and {Q:Bool->Hp->Prop} (h:c σ H fun b H1=>if b=true then c' σ H1 Q else Q false H1):tAnd c c' σ H Q:=h
theorem r_or {Q:Bool->Hp->Prop} (h:c σ H fun b H1=>if b=true then Q true H1 else c' σ H1 Q):tOr c c' σ H Q:=h
theorem r_not {Q:Bool->Hp->Prop} (h:c σ H fun b H1=>Q (!b) H1):tNot c σ H Q:=h
theorem r_andV (h:ta σ H fun x H1=>∃k,x=.bl k/\if k=true then tb σ H1 Q else Q (.bl false) H1):tAndV ta tb σ H Q:=h
theorem r_orV (h:ta σ H fun x H1=>∃k,x=.bl k/\if k=true then Q (.bl true) H1 else tb σ H1 Q):tOrV ta tb σ H Q:=h
theorem r_notV (h:ta σ H fun x H1=>∃k,x=.bl k/\Q (.bl (!k)) H1):tNotV ta σ H Q:=h
theorem r_ifE (h:c σ H fun b H1=>if b=true then ta σ H1 Q else tb σ H1 Q):tIf c ta tb σ H Q:=h
theorem r_next (h:D.nx σ H):tNext D σ H:=h
theorem r_seq (h:t {nx:=u D,rt:=D.rt,bk:=D.bk,ct:=D.ct} σ H):tSeq t u D σ H:=h
theorem r_drop (h:te σ H fun _ H1=>D.nx σ H1):tDrop te D σ H:=h
theorem r_ret (h:te σ H D.rt):tRet te D σ H:=h
theorem r_if (h:c σ H fun b H1=>if b=true then t D σ H1 else u D σ H1):tIfS c t u D σ H:=h
theorem r_asg {g:TG} (h:te σ H fun x H1=>g x σ H1 D.nx):tAsg te g D σ H:=h
theorem r_name {Q:L2.St->Hp->Prop} (e:σ.set i (some v)=σ') (h:Q σ' H):gName i v σ H Q:=by subst e;exact h
theorem r_gnil {Q:L2.St->Hp->Prop} (h:Q σ H):gNil [] σ H Q:=⟨rfl,h⟩
theorem r_gcons {g:TG} {gs:TGs} {vs:List V} {Q:L2.St->Hp->Prop} (h:g v σ H fun σ' H'=>gs vs σ' H' Q):gCons g gs (v :: vs) σ H Q:=⟨v,vs,rfl,h⟩
theorem r_gtup {n:Nat} {gs:TGs} {a:Addr} {xs:List V} {Q:L2.St->Hp->Prop} (hS:SqT K H a xs) (hn:xs.length=n) (h:gs xs σ H Q):gTup K n gs (.ref a) σ H Q:=⟨a,xs,rfl,hS,hn,h⟩
theorem r_nx {f b c:L2.St->Hp->Prop} {r:VK} (h:f σ H):Ends.nx {nx:=f,rt:=r,bk:=b,ct:=c} σ H:=h
theorem r_rt {f b c:L2.St->Hp->Prop} {r:VK} (h:r v H):Ends.rt {nx:=f,rt:=r,bk:=b,ct:=c} v H:=h
theorem r_nil {Q:List V->Hp->Prop} (h:Q [] H):tNil σ H Q:=h
theorem r_cons {Q:List V->Hp->Prop} (h:te σ H fun x H1=>ar σ H1 fun xs H2=>Q (x :: xs) H2):tCons te ar σ H Q:=h
theorem r_tup (h:ar σ H fun xs H1=>xs.length<=sizeLine/\∀p,H1 p=none->Q (.ref p) (upd H1 p (.tup xs))):tTup ar σ H Q:=h
theorem r_lst (h:ar σ H fun xs H1=>xs.length<=sizeLine/\∀p,H1 p=none->Q (.ref p) (upd H1 p (.lst xs))):tLst ar σ H Q:=h
theorem r_new {xs:List V} {A:Prop} (hn:xs.length<=sizeLine) (h:A):xs.length<=sizeLine/\A:=⟨hn,h⟩
theorem r_call {sp:Sp} {E:XK} (h:ar σ H fun vs H1=>sp vs H1 Q E):tCall sp [] E ar σ H Q:=by
 have e:(fun vs H1=>sp (vs++ []) H1 Q E)=fun vs H1=>sp vs H1 Q E:=by funext vs H1;rw [yB]
 show ar σ H fun vs H1=>sp (vs++ []) H1 Q E
 rw [e];exact h
theorem r_callX {sp:Sp} {W:L2.St->XK} (h:ar σ H fun vs H1=>sp vs H1 Q (W σ)):tCallX sp [] W ar σ H Q:=by
 have e:(fun vs H1=>sp (vs++ []) H1 Q (W σ))=fun vs H1=>sp vs H1 Q (W σ):=by funext vs H1;rw [yB]
 show ar σ H fun vs H1=>sp (vs++ []) H1 Q (W σ)
 rw [e];exact h
theorem r_cb {r:List V->Hp->VK->Prop} (h:ar σ H fun vs H1=>r vs H1 Q):tCB r ar σ H Q:=h
theorem r_raise {C:Addr} {W:L2.St->XK} (h:ar σ H fun xs H1=>xs.length<=sizeLine/\W σ (.ref C) none H1):tRaise ar C W D σ H:=h
theorem qb7 {p:Addr} {xs:List V} {k:Int} (hS:SqL K H p xs) (e:atI xs k=some v) (h:Q v H):rIxL K (.ref p) (.int k) H Q:=⟨p,xs,k,v,rfl,rfl,hS,e,h⟩
theorem r_ixT {p:Addr} {xs:List V} {k:Int} (hS:SqT K H p xs) (e:atI xs k=some v) (h:Q v H):rIxT K (.ref p) (.int k) H Q:=⟨p,xs,k,v,rfl,rfl,hS,e,h⟩
theorem r_fresh {R:Addr->Prop} (h:∀p,H p=none->R p):∀p,H p=none->R p:=h
theorem r_menu {p:Addr} {xs:List Int} {r:Int} (hS:SqL K H p (xs.map V.int)) (h0:0<=r) (h1:r < xs.length) (h:∀m,m∈xs->Q (.int m) H):rIxL K (.ref p) (.int r) H Q:=by
 have hk:r.toNat < xs.length:=by omega
 have ek:r=((r.toNat:Nat):Int):=by omega
 have q:atI (xs.map V.int) ((r.toNat:Nat):Int)=some (.int xs[r.toNat]):=qav (by rw [zC,zA hk] <;> rfl)
 rw [<-ek] at q
 exact⟨p,_,r,_,rfl,rfl,hS,q,h _ (zJ hk)⟩
theorem r_cut0 (h:t {nx:=D.nx,rt:=D.rt,bk:=D.bk,ct:=D.ct} σ H):tCut t D σ H:=⟨D.nx,h,fun _ _ z=>z⟩
theorem r_cut (J:L2.St->Hp->Prop) (h:t {nx:=J,rt:=D.rt,bk:=D.bk,ct:=D.ct} σ H) (k:∀σ' H',J σ' H'->D.nx σ' H'):tCut t D σ H:=⟨J,h,k⟩
theorem r_lenL {p:Addr} {ys:List V} (hS:SqL K H p ys) (h:Q (.int ys.length) H):rLen K [.ref p] H Q:=⟨p,ys,rfl,.inl hS,h⟩
theorem r_isNn (h:Q (.bl true) H):rIsN .non .non H Q:=⟨rfl,h⟩
theorem r_isNr {a:Addr} (h:Q (.bl false) H):rIsN (.ref a) .non H Q:=⟨rfl,h⟩
theorem r_notNn (h:Q (.bl false) H):rNotN .non .non H Q:=⟨rfl,h⟩
theorem r_notNr {a:Addr} (h:Q (.bl true) H):rNotN (.ref a) .non H Q:=⟨rfl,h⟩
end
section
variable {K: uR} {σ: L2.St} {H: Hp} {D: Ends} {wi: TI} {g: TG} {tb: TS} {tl: TE} {ta: TA}
def FOR (J:It) (g:TG) (tb:TS) (D:Ends) (σ:L2.St) (H:Hp):Prop:=∃W:Nat->Nat->L2.St->Hp->Prop,(∃m,W 0 m σ H)/\∀i m σ H,W i m σ H->
 (J.stop i H/\D.nx σ H)\/(J.go i H/\∃N:L2.St->Hp->Prop,(∀σ' H',N σ' H'->∃m',m' < m/\W (i+1) m' σ' H')/\∀x H',J.yld i H x H'->g x σ H' fun σ2 H2=>tb {D with nx:=N,ct:=N,bk:=D.nx} σ2 H2)
def rItL (K:uR) (x:V) (H:Hp) (R:It->Hp->Prop):Prop:=∃a,x=.ref a/\(∃xs,SqL K H a xs)/\R (Itl K a) H
def rItR (vs:List V) (H:Hp) (R:It->Hp->Prop):Prop:=∃j:Int,vs=[.int j]/\-(2^62)<=j/\j < 2^62/\R (Itr 0 j.toNat) H
theorem r_for (h:wi σ H fun J H1=>FOR J g tb D σ H1):tFor wi g tb D σ H:=h
theorem r_iL {R:It->Hp->Prop} (h:tl σ H fun x H1=>rItL K x H1 R):iList K tl σ H R:=h
theorem r_iR {R:It->Hp->Prop} (h:ta σ H fun vs H1=>rItR vs H1 R):iRng1 ta σ H R:=h
theorem r_itL {a:Addr} {xs:List V} {R:It->Hp->Prop} (hS:SqL K H a xs) (h:R (Itl K a) H):rItL K (.ref a) H R:=⟨a,rfl,⟨xs,hS⟩,h⟩
theorem r_itR {j:Int} {R:It->Hp->Prop} (h0: -(2^62)<=j) (h1:j < 2^62) (h:R (Itr 0 j.toNat) H):rItR [.int j] H R:=⟨j,rfl,h0,h1,h⟩
theorem qct {a:Addr} {xs:List V} (Pv:Nat->L2.St->Hp->Prop) (h0:Pv 0 σ H) (hl:∀i σ H,i<=xs.length->Pv i σ H->SqL K H a xs)
  (hs:∀i x σ H,xs[i]?=some x->Pv i σ H->g x σ H fun σ2 H2=>tb {nx:=Pv (i+1),rt:=D.rt,bk:=D.nx,ct:=Pv (i+1)} σ2 H2) (hd:∀σ H,Pv xs.length σ H->D.nx σ H):FOR (Itl K a) g tb D σ H:=for_list Pv h0 hl hs hd
theorem qcz {lo:Int} {n:Nat} (Pv:Nat->L2.St->Hp->Prop) (h0:Pv 0 σ H)
  (hs:∀(i:Nat) σ H,i < n->Pv i σ H->g (.int (lo+i)) σ H fun σ2 H2=>tb {nx:=Pv (i+1),rt:=D.rt,bk:=D.nx,ct:=Pv (i+1)} σ2 H2) (hd:∀σ H,Pv n σ H->D.nx σ H):FOR (Itr lo n) g tb D σ H:=for_range Pv h0 hs hd
end
theorem qad {H:Hp} {a p:Addr} {o o':HO} (h:H a=some o) (n:H p=none):upd H p o' a=some o:=by rw [qa6 (qa8 h n)];exact h
theorem sqL_new {K:uR} {H:Hp} {a p:Addr} {o:HO} {xs:List V} (h:SqL K H a xs) (n:H p=none):SqL K (upd H p o) a xs:=(qa7 n o).seq h
theorem sqT_new {K:uR} {H:Hp} {a p:Addr} {o:HO} {xs:List V} (h:SqT K H a xs) (n:H p=none):SqT K (upd H p o) a xs:=same_tup (qa7 n o) h
theorem qeg {H0 H:Hp} {p:Addr} {o:HO} (h:qar H0 H) (n:H p=none):qar H0 (upd H p o):=h.trans (qa7 n o)
theorem i_t {c A B:Prop} [Decidable c] (h:c) (hA:A):if decide c=true then A else B:=by rw [gM h];exact iteT hA
theorem i_f {c A B:Prop} [Decidable c] (h:¬c) (hB:B):if decide c=true then A else B:=by rw [gO h];exact iteF hB
theorem i_2 {c A B:Prop} [Decidable c] (h1:c->A) (h2:¬c->B):if decide c=true then A else B:=by
 by_cases h:c
 .exact i_t h (h1 h)
 .exact i_f h (h2 h)
theorem i_nf {c A B:Prop} [Decidable c] (h:c) (hB:B):if (!decide c)=true then A else B:=by rw [gM h];exact iteF hB
theorem i_nT {A B:Prop} (h:B):if (!true)=true then A else B:=h
theorem i_nF {A B:Prop} (h:A):if (!false)=true then A else B:=iteT h
theorem i_b2 {b:Bool} {A B:Prop} (h1:b=true->A) (h2:b=false->B):if b=true then A else B:=by
 cases b
 .exact iteF (h2 rfl)
 .exact iteT (h1 rfl)
def AllC {α:Type} (f:α->Prop):List α->Prop
 | []=>True
 |a :: l=>f a/\AllC f l
theorem AllC.mem {α:Type} {f:α->Prop}:∀{l:List α},AllC f l->∀a∈l,f a
 | [],_,_,h=>absurd h (by simp)
 |b :: l,h,a,m=>by
  rcases zM.mp m with rfl|m
  .exact h.1
  .exact AllC.mem h.2 a m
def qay (caps:List Nat) (σ:L2.St):L2.St:=caps.map fun j=>(σ[j]?).getD none
def rApp (acc:Addr) (N:Hp->Prop) (y:V) (H:Hp):Prop:=∃ys,H acc=some (.lst ys)/\ys.length < sizeLine/\N (upd H acc (.lst (ys++ [y])))
def COMP (J:It) (caps:List Nat) (tt:TT) (te:TE) (acc:Addr) (σ:L2.St) (H:Hp) (Q:VK):Prop:=∃W:Nat->Nat->Hp->Prop,(∃m,W 0 m H)/\∀i m H,W i m H->
 (J.stop i H/\Q (.ref acc) H)\/(J.go i H/\∃N:Hp->Prop,(∀H',N H'->∃m',m' < m/\W (i+1) m' H')/\∀v H',J.yld i H v H'->tt (some v :: qay caps σ) H' fun b H2=>
  if b=true then te (some v :: qay caps σ) H2 fun y H3=>rApp acc N y H3 else N H2)
abbrev CT (α:Type):=Addr->uE->Hp->List Addr->α
def tComp (wi:TI) (caps:List Nat) (tt:CT TT) (te:CT TE):TE:=fun σ H Q=>wi σ H fun J H1=>∀(C:Addr) (s:uE) (H0:Hp) (fp:List Addr) (acc:Addr),H1 acc=none->COMP J caps (tt C s H0 fp) (te C s H0 fp) acc σ (upd H1 acc (.lst [])) Q
def tTrue:TT:=fun _ H Q=>Q true H
def PIfs (X:Cx) (ifs:List vQ) (t:TT):Prop:=
 ∀(pins:List (Addr × Obj)) (s:uE) (σ:L2.St) (H:Hp) (Q:Bool->Hp->Prop),Inv X pins σ H s->t σ H Q->
  uS (uV X.prog X.w) X.A (forIn ifs true fun c r=>if r=true then do let ok<-isTrue c X.env (wG c X.env);pure (wZ ok) else pure (wZ r)) (TP X pins σ Q) X.xe s
theorem qdk {X:Cx}:PIfs X [] tTrue:=fun pins s σ H Q I h=>wpAny_tests_nil ⟨H,I,h⟩
theorem qc8 {X:Cx} {c:vQ} {t:TT} (h:PT X c t):PIfs X [c] t:=fun pins s σ H Q I hw=>wpAny_tests_one (h pins s σ H Q I hw)
def cxC (X:Cx) (N:List Str) (scope:bY) (cl:List (Str × Addr)) (C:Addr) (s:uE) (H:Hp) (fp:List Addr):Cx where
 prog:=X.prog
 w:=X.w
 K:=X.K
 mg:=X.mg
 base:=X.base
 A:=X.A
 N:=N
 s₀:=s
 H₀:=H
 env:=wU scope cl C X.env
 outer:=X.stack
 stack:=X.stack
 ex:=fp
 fn:=fun _=>false
 calm:=X.calm
 pn:=[]
 xe:=fun _ _=>False
structure Caps (X:Cx) (x:Str) (scope:bY) (cl:List (Str × Addr)) (caps:List Nat) (cn:List Str):Prop where
 clos:closureFor scope X.env=pure cl
 kind:scope.kind=.function
 cell:∀y∈scope.names,y.2≠ .cell
 names:∀y∈scope.names,y.2=.local->scope.names.lookup y.1=some .local
 tg:scope.names.lookup x=some .local
 sub:∀y c,cl.lookup y=some c->X.env.cells.lookup y=some c
 has:∀y,((relabel scope X.env).names.lookup y=some .cell\/(relabel scope X.env).names.lookup y=some .free)->∃c,cl.lookup y=some c
 len:caps.length=cn.length
 cap:∀(k:Nat) (y:Str) (j:Nat),cn[k]?=some y->caps[k]?=some j->X.N[j]?=some y/\X.env.kindOf y=some .cell/\(relabel scope X.env).names.lookup y=some .cell/\X.env.scope.names.lookup y=some .cell/\∃c,cl.lookup y=some c
 nd:(x :: cn).Nodup
section
variable {X: Cx} {pins: List (Addr × Obj)} {σ: L2.St} {H: Hp} {s: uE}
theorem Inv.comp {x:Str} {scope:bY} {cl:List (Str × Addr)} {caps:List Nat} {cn:List Str} (Cp:Caps X x scope cl caps cn) (I:Inv X pins σ H s) {fp:List Addr} (hf:∀b∈fp,qgc X pins H b) (hlt:∀b∈fp,b < s.heap.objs.size) {h₁:vP} {t':Nat}
  (hns:h₁.Ns s.heap.objs.size (fun _=>none)) (k:∀b o,s.heap.get? b=some o->h₁.get? b=some o):
  Inv (cxC X (x :: cn) scope cl s.heap.objs.size s H fp) [] (none :: qay caps σ) H {s with heap:=h₁,toks:=t'}:=by
 have cne:∀y c,cl.lookup y=some c->∃v,s.heap.IsCell c v:=fun y c e=>I.cell y c (Cp.sub y c e)
 have ltC:∀y c,cl.lookup y=some c->c < s.heap.objs.size:=fun y c e=>let ⟨v,q⟩:=cne y c e;q.lt
 have isC:∀c v,s.heap.IsCell c v->h₁.IsCell c v:=fun c v ⟨o,e,d⟩=>⟨o,k c o e,d⟩
 refine⟨⟨I.ok.mod,Cp.kind,I.ok.glob,I.ok.blt,uF _,fun y z c e1 e2=>I.ok.inj y z c (Cp.sub y c e1) (Cp.sub z c e2),fun y hy=>Cp.has y hy,fun y c z=>(uJ z).elim,I.ok.hd,I.ok.frames,.inl rfl,
  fun b hb=>⟨uX (hlt b hb),fun y c e z=>?_⟩,I.bs,vN I.ok.bsz I.sz,fun b o e hb=>?_,fun b hb z=>?_,I.stack,I.stkFree⟩,
  rfl,I.bare,Un.kept k,⟨_,hns,fun i y v e1 e2 e3=>?_⟩,fun y c e=>?_,I.hok.fresh (uF _),fun y c e=>I.freeC y c (Cp.sub y c e),fun p hp=>absurd (show p∈([]:List (Addr × Obj)) from hp) (by simp),I.hok.kept k,?_⟩
 .exact(hf b hb).2.2.2.2.1 y c (Cp.sub y c e) z
 .rcases(hf b hb).2.2.2.1 with z|z
  .exact I.ok.noex b o e z
  .exact absurd (vI (uL e) (vN I.ok.bsz z)) (wA _)
 .rcases zM.mp (I.stkSub b z) with z|z
  .exact(hf b hb).2.1 z
  .exact(hf b hb).2.2.1 z
 .cases i with
  |zero=>cases e2
  |succ i=>
   have e1':cn[i]?=some y:=by simpa [cxC] using e1
   have e2':(qay caps σ)[i]?=some (some v):=by simpa using e2
   unfold qay at e2'
   rw [zC] at e2'
   obtain⟨j,hj,ej⟩:=uU.mp e2'
   obtain⟨c1,c2,c3,c5,c,c4⟩:=Cp.cap i y j e1' hj
   cases hs:σ[j]? with
   |none=>rw [hs] at ej;cases ej
   |some w=>
    rw [hs] at ej
    have ej':w=some v:=ej
    subst ej'
    obtain⟨m,hn,hl⟩:=I.loc
    obtain⟨u,r,l⟩:=hl j y v c1 hs (.inr (.inl c5))
    refine⟨u,r,.inr ⟨.inl c3,c,c4,?_⟩⟩
    rcases l with ⟨l,_⟩ |⟨_,c',e',q⟩
    .rw [c2] at l;cases l
    .rw [Cp.sub y c c4] at e'
     cases e'
     exact isC _ _ q
 .obtain⟨v,q⟩:=cne y c e
  exact⟨v,isC c v q⟩
 .show (none :: qay caps σ).length=(x :: cn).length
  rw [zL,zL]
  unfold qay
  rw [zB,Cp.len]
theorem Inv.uncomp {N:List Str} {scope:bY} {cl:List (Str × Addr)} {C:Addr} {σ':L2.St} {H':Hp} {s':uE} {fp:List Addr} (I:Inv X pins σ H s) (hf:∀b∈fp,qgc X pins H b) (hC:C=s.heap.objs.size)
  (J:Inv (cxC X N scope cl C s H fp) [] σ' H' s') {h':vP} (sb:bA C s'.heap h'):Inv X pins σ H' {s' with heap:=h'}:=by
 have ne:∀b o,s.heap.get? b=some o->b≠C:=fun b o e=>by rw [hC];exact uX (uL e)
 have u:Un (frs X.stack) fp H H' s.heap s'.heap:=J.base
 have hok:HOk X.prog X.w H' h':=fun b o e=>by
  refine(J.hok b o e).stay (fun c u' hc q=>(sb.2 c ?_).trans q) (fun _ q=>q) fun _ _ q=>q
  intro z
  have n:H' C=none:=J.free
  rcases hc with hc|hc
  .rw [<-hc,z,n] at e;cases e
  .rw [z,n] at hc;cases hc
 refine I.call' (s':={s' with heap:=h'}) (ch:=fp) J.os ⟨fun b o e n hb hx=>(sb.2 b (ne b o e)).trans (u.keep b o e n hb hx),fun b o e n hb hx=>?_,u.free,fun b o e hx=>?_,u.tups,u.frzs,u.tbls⟩ hok J.bare fun b hb=>?_
 .obtain⟨sl,q⟩:=u.slot b o e n hb hx
  exact⟨sl,(sb.2 b (ne b o e)).trans q⟩
 .obtain⟨o',q⟩:=u.there b o e hx
  exact⟨o',(sb.2 b (ne b o e)).trans q⟩
 .obtain⟨f0,f1,f2,f3,f4,f5⟩:=hf b hb
  exact⟨f3,f1,f4,f5⟩
end
section
variable {X: Cx}
theorem qbm {elt iter:vQ} {x:Str} {px:Pos} {ifs:List vQ} {scope:bY} {cl:List (Str × Addr)} {pos:Pos} {caps:List Nat} {cn:List Str} {wi:TI} {tt:CT TT} {te:CT TE} (Cp:Caps X x scope cl caps cn) (hc:X.calm=true)
  (hi:PI X (.Name x px) iter wi) (ht:∀C s H fp,PIfs (cxC X (x :: cn) scope cl C s H fp) ifs (tt C s H fp)) (he:∀C s H fp,PE (cxC X (x :: cn) scope cl C s H fp) elt (te C s H fp))
  (hs:∀x,cJ iter X.env x=pure x:=by intro _;rfl):
  PE X (.ListComp elt [⟨.Name x px,iter,ifs,0⟩] scope pos) (tComp wi caps tt te):=by
 intro pins s σ H Q I h
 rw [eval_ListComp]
 refine cY (use:=none) rfl hs Cp.clos Cp.kind Cp.names (thn (hi pins s σ H _ I h) fun v s1 h1=>thn h1 fun itv s2 h2=>?_)
 obtain⟨it,fp,tn,J,H2,e,I2,T,st2,f2,R⟩:=h2
 subst e
 have hacc:H2 s2.heap.objs.size=none:=I2.hok.fresh (uF _)
 refine wF ?_
 have I3:Inv X pins σ (upd H2 s2.heap.objs.size (.lst [])) {s2 with heap:=s2.heap.push {cls:=.type "list",dict:=none,data:=.seq ([]:List uC).toArray}}:=Inv.lnew (its:=[]) (t':=s2.toks) I2 .nil (vY _)
 have lt2:∀b∈fp,b < s2.heap.objs.size:=fun b hb=>let ⟨o,e,_⟩:=T.obj _ _ st2 b hb;uL e
 have f3:∀b∈fp,qgc X pins (upd H2 s2.heap.objs.size (.lst [])) b:=fun b hb=>⟨by rw [qa6 (uX (lt2 b hb))];exact(f2 b hb).1,(f2 b hb).2⟩
 have st3:tn 0 (s2.heap.push {cls:=.type "list",dict:=none,data:=.seq ([]:List uC).toArray}):=T.keep _ _ _ st2 fun b _ o e=>uD _ e
 generalize hs3:({s2 with heap:=s2.heap.push {cls:=.type "list",dict:=none,data:=.seq ([]:List uC).toArray}}:uE)=s3 at I3 ⊢
 have st3':tn 0 s3.heap:=by rw [<-hs3];exact st3
 generalize s2.heap.objs.size=acc at hacc I3 f3 ⊢
 obtain⟨W,⟨m0,w0⟩,turn⟩:=R s3.heap.objs.size s3 (upd H2 acc (.lst [])) fp acc hacc
 have lt3:∀b∈fp,b < s3.heap.objs.size:=fun b hb=>let ⟨o,e,_⟩:=T.obj _ _ st3' b hb;uL e
 clear st3 hs3
 refine dY Cp.cell (by intro y hy;simp at hy) (fun h₁ hns hsb=>?_) Cp.kind
 have k1:∀b o,s3.heap.get? b=some o->h₁.get? b=some o:=fun b o e=>hsb.extBut b o (uX (uL e)) (uD _ e)
 have I4:Inv (cxC X (x :: cn) scope cl s3.heap.objs.size s3 (upd H2 acc (.lst [])) fp) [] (none :: qay caps σ) (upd H2 acc (.lst [])) {s3 with heap:=h₁,toks:=s3.toks+([]:List (Str × uC)).length}:=
  Inv.comp Cp I3 f3 lt3 hns k1
 have st4:tn 0 h₁:=T.keep _ _ _ st3' fun b _ o e=>k1 b o e
 generalize hX:cxC X (x :: cn) scope cl s3.heap.objs.size s3 (upd H2 acc (.lst [])) fp=X' at I4
 have stat:∀{H':Hp},(∀b∈fp,H' b=none)->∀b∈fp,qgc X' [] H' b:=fun hn b hb=>by
  subst hX
  obtain⟨g0,g1,g2,g3,g4,g5⟩:=f3 b hb
  refine⟨hn b hb,uX (lt3 b hb),fun z=>?_,.inl hb,fun y c e=>g4 y c (Cp.sub y c e),fun p hp=>absurd (show p∈([]:List (Addr × Obj)) from hp) (by simp)⟩
  rcases zM.mp (I3.stkSub b z) with z|z
  .exact g1 z
  .exact g2 z
 have core:bD (uV X.prog X.w) X.A (.compLoop (.ListComp elt [⟨.Name x px,iter,ifs,0⟩] scope pos) 0 (.ref it) (.ref acc) (wU scope cl s3.heap.objs.size X.env))
   (compPost (uV X.prog X.w) X.A X.xe none (EP X pins σ Q) (.ref acc) s3.heap.objs.size) {s3 with heap:=h₁,toks:=s3.toks+([]:List (Str × uC)).length}:=by
  refine codeAny_loop rfl (fun n s'=>∃i a H',Inv X' [] (a :: qay caps σ) H' s'/\tn i s'.heap/\(∀b∈fp,H' b=none)/\W i n H') (fun n s5 hI=>?_) m0 ⟨0,none,_,I4,st4,fun b hb=>(f3 b hb).1,w0⟩
  obtain⟨i,a0,H5,I5,st5,fr5,w5⟩:=hI
  show uS _ _ ((compTurn _ 0 _ _ _).onRaise _) _ _ s5
  refine wpAny_noted ?_
  rw [compTurn_list]
  refine uA (xE (uA ?_))
  have aX:X'.A=X.A:=by subst hX;rfl
  have pX:X'.prog=X.prog:=by subst hX;rfl
  have wX:X'.w=X.w:=by subst hX;rfl
  have kX:X'.K=X.K:=by subst hX;rfl
  have cX:X'.calm=true:=by subst hX;exact hc
  have eX:X'.env=wU scope cl s3.heap.objs.size X.env:=by subst hX;rfl
  rcases turn i n H5 w5 with ⟨stop,qn⟩ |⟨go,N,hN,step⟩
  .have z:=T.done X' pX wX kX cX i [] s5 _ H5 (fun _ _=>False) I5 (stat fr5) st5 stop
   rw [aX] at z
   refine vD z (fun r s6 ⟨hr,I6⟩=>?_) fun _ _ q=>q.elim
   subst hr
   subst hX
   obtain⟨m,hm,_⟩:=id I6.loc
   exact uG ⟨m,hm,fun h' sb=>⟨.ref acc,H5,Inv.uncomp I3 f3 rfl I6 sb,rfl,qn⟩⟩
  .have z:=T.item X' pX wX kX cX i [] s5 _ H5 (fun _ _=>False) I5 (stat fr5) st5 go
   rw [aX] at z
   refine vD z (fun r s6 ⟨u,hr,h6⟩=>?_) fun _ _ q=>q.elim
   subst hr
   refine uA (vD h6 (fun _ s7 ⟨v,H7,I7,r7,y7,st7,fr7⟩=>?_) fun _ _ q=>q.elim)
   have I7':=I7.pinned (stat fr7) (T.obj _ _ st7)
   have asg:uS (uV X.prog X.w) X.A (dX (.Name x px) (wU scope cl s3.heap.objs.size X.env) u) (fun _ s8=>Inv X' ([]++qbs fp s7.heap) (some v :: qay caps σ) H7 s8) (fun _ _=>False) s7:=by
    subst hX
    exact cI (qef (X:=cxC X (x :: cn) scope cl s3.heap.objs.size s3 (upd H2 acc (.lst [])) fp) (i:=0) I7' Cp.nd rfl (.inl (bW Cp.tg)) r7 (fun s' I'=>I') (.inr (bW Cp.tg)))
   refine uA (vD asg (fun _ s8 I8=>?_) fun _ _ q=>q.elim)
   have tst:uS (uV X.prog X.w) X.A (forIn ifs true fun c r=>if r=true then do let ok<-isTrue c (wU scope cl s3.heap.objs.size X.env) (wG c (wU scope cl s3.heap.objs.size X.env));pure (wZ ok) else pure (wZ r))
     (TP X' ([]++qbs fp s7.heap) (some v :: qay caps σ) (fun b H9=>if b=true then te s3.heap.objs.size s3 (upd H2 acc (.lst [])) fp (some v :: qay caps σ) H9 (fun y H3=>rApp acc N y H3) else N H9)) (fun _ _=>False) s8:=by
    subst hX
    exact ht _ _ _ _ _ s8 _ H7 _ I8 (step v H7 y7)
   refine uA (vD tst (fun b s9 ⟨H9,I9,q9⟩=>?_) fun _ _ q=>q.elim)
   have fin:∀{a:Option V} {H10:Hp} {s10:uE},Inv X' ([]++qbs fp s7.heap) (a :: qay caps σ) H10 s10->N H10->∃m',m' < n/\∃i a H',Inv X' [] (a :: qay caps σ) H' s10/\tn i s10.heap/\(∀b∈fp,H' b=none)/\W i m' H':=fun {a H10 s10} I10 n10=>
    let ⟨m',hm,w10⟩:=hN _ n10
    ⟨m',hm,i+1,a,H10,I10.unpinned,T.keep _ _ _ st7 fun b hb o e=>(I10.pin (b,o) (zP _ (zP _ (qbr hb e)))).1,fun b hb=>by
     obtain⟨o,e,d⟩:=T.obj _ _ st7 b hb
     exact(I10.pin (b,o) (zP _ (zP _ (qbr hb e)))).2.1,w10⟩
   cases b with
   |false=>exact uG ⟨rfl,fin I9 q9⟩
   |true=>
    have elt':uS (uV X.prog X.w) X.A (wG elt (wU scope cl s3.heap.objs.size X.env)) (EP X' ([]++qbs fp s7.heap) (some v :: qay caps σ) (fun y H3=>rApp acc N y H3)) (fun _ _=>False) s9:=by
     subst hX
     exact he _ _ _ _ _ s9 _ H9 _ I9 q9
    refine uA (uA (vD elt' (fun y s10 ⟨w,H10,I10,r10,ys,ha,hz,q10⟩=>?_) fun _ _ q=>q.elim))
    have app:uS (uV X.prog X.w) X.A (call (.builtin "list.append") [.ref acc,y]) (EP X' ([]++qbs fp s7.heap) (some v :: qay caps σ) fun _ H11=>H11=upd H10 acc (.lst (ys++ [w]))) (fun _ _=>False) s10:=by
     subst hX
     exact qb1 (X:=cxC X (x :: cn) scope cl s3.heap.objs.size s3 (upd H2 acc (.lst [])) fp) _ s10 _ H10 (.ref acc) [w] (.ref acc) [y] _ I10 rfl (.cons r10 .nil) ⟨acc,ys,w,rfl,rfl,ha,hz,rfl⟩
    refine uA (vD app (fun _ s11 ⟨_,H11,I11,_,e11⟩=>?_) fun _ _ q=>q.elim)
    subst e11
    exact uG (uG ⟨rfl,fin I11 q10⟩)
 exact dG core (T.self _ 0 _ _ _ st4 core)
def Its (x:Str):It:=⟨fun i _=>i < x.cps.size,fun i H v H'=>H'=H/\∃c,x.cps[i]?=some c/\v=.str ⟨#[c]⟩,fun i _=>i=x.cps.size⟩
theorem turn_str {P:uY} {w:vL} {K:uR} {y:Str} {py:Pos} (x:Str) (t:Tok) (it:Addr) (ty:String) (W:∀A:vM,A.handled=none->Walks P w A it [it] [it] x.cps.size (SignAt x) (fun i h=>h.IsStrIter it ty x t i))
  (hself:∀(A:vM) (i:Nat) (s:uE) (Q:uC->uE->Prop) (E:uC->uE->Prop),s.heap.IsStrIter it ty x t i->Q (.ref it) s->uS (uV P w) A (pyIter (.ref it)) Q E s):
  Turn P w K (.Name y py) (Its x) [it] it (fun i h=>h.IsStrIter it ty x t i) where
 mem:=by simp
 obj:=fun i h st b hb=>by
  have e:b=it:=by simpa using hb
  subst e
  obtain⟨o,e,c,d⟩:=st
  exact⟨o,e,fun v z=>by rw [d] at z;cases z⟩
 keep:=fun i h h' ⟨o,e,r⟩ k=>⟨o,k it (by simp) o e,r⟩
 item:=by
  intro X hP hw hK hc i pins s σ H E I hf st hg
  subst hP hw hK
  obtain⟨f0,f1,f2,f3,f4,f5⟩:=hf it (by simp)
  refine(W X.A (I.ok.hd hc)).item i s _ _ hg st fun v h' tk hv st' k=>?_
  have I1:Inv X pins σ H {s with heap:=h',toks:=tk}:=I.turned (t':=tk) (fun b o hb e=>k b o (fun z=>hb (by simpa using z)) e) f0 f1 f3 f4 f5
  obtain⟨c,u,hx,rfl⟩:=hv
  exact⟨_,rfl,uG ⟨.str ⟨#[c]⟩,H,I1,⟨_,rfl⟩,⟨rfl,c,hx,rfl⟩,st',fun b hb=>(hf b hb).1⟩⟩
 done:=by
  intro X hP hw hK hc i pins s σ H E I hf st hg
  subst hP hw hK
  have hg':i=x.cps.size:=hg
  subst hg'
  obtain⟨f0,f1,f2,f3,f4,f5⟩:=hf it (by simp)
  exact(W X.A (I.ok.hd hc)).done s _ _ st fun h' tk k=>⟨rfl,I.turned (t':=tk) (fun b o hb e=>k b o (fun z=>hb (by simpa using z)) e) f0 f1 f3 f4 f5⟩
 self:=hself
def rItS (v:V) (H:Hp) (R:It->Hp->Prop):Prop:=∃x,v=.str x/\R (Its x) H
def iStr (tl:TE):TI:=fun σ H R=>tl σ H fun v H1=>rItS v H1 R
end
end My
namespace L2
open PySem PySem.Spec PyProof.Rows
section
variable {κ: Type} [DecidableEq κ]
def qcf (kvs:List (κ × V)) (k:κ):Option V:=(kvs.find? fun kv=>decide (kv.1=k)).map (·.2)
def qcn (kvs:List (κ × V)) (k:κ) (v:V):List (κ × V):=
 if (kvs.any fun kv=>decide (kv.1=k))=true then kvs.map (fun kv=>if kv.1=k then (kv.1,v) else kv) else kvs++ [(k,v)]
theorem qbn {p:κ × V} {r:List (κ × V)} {k:κ} (e:p.1=k):qcf (p :: r) k=some p.2:=by simp [qcf,yJ,e]
theorem qbo {p:κ × V} {r:List (κ × V)} {k:κ} (e:¬p.1=k):qcf (p :: r) k=qcf r k:=by simp [qcf,yJ,e]
theorem qc9 (k:κ):∀kvs:List (κ × V),(kvs.any fun kv=>decide (kv.1=k))=(qcf kvs k).isSome
 | []=>rfl
 |p :: r=>by
  rw [yW]
  by_cases e:p.1=k
  .simp only [qbn e,gM e,fX,Option.isSome_some]
  .rw [qbo e,gO e,eU];exact qc9 k r
theorem valV_map (k j:κ) (y:V):∀kvs:List (κ × V),qcf (kvs.map fun kv=>if kv.1=k then (kv.1,y) else kv) j=(qcf kvs j).map fun x=>if j=k then y else x
 | []=>rfl
 |p :: r=>by
  have ih:=valV_map k j y r
  rw [zV]
  by_cases h:p.1=k
  .rw [gL h]
   by_cases e:p.1=j
   .rw [qbn (p:=(p.1,y)) e,qbn e,dN,gL (e.symm.trans h)]
   .rw [qbo (p:=(p.1,y)) e,qbo e,ih]
  .rw [gK h]
   by_cases e:p.1=j
   .rw [qbn (p:=p) e,qbn e,dN,gK (fun z=>h (e.trans z))]
   .rw [qbo (p:=p) e,qbo e,ih]
theorem valV_snoc (k j:κ) (y:V):∀kvs:List (κ × V),qcf kvs k=none->qcf (kvs++ [(k,y)]) j=if j=k then some y else qcf kvs j
 | [],_=>by
  by_cases e:k=j
  .rw [gL e.symm];exact qbn (p:=(k,y)) e
  .rw [gK (fun z=>e z.symm)];exact qbo (p:=(k,y)) e
 |p :: r,hn=>by
  rw [List.cons_append]
  have hk:¬p.1=k:=fun z=>by rw [qbn z] at hn;cases hn
  rw [qbo hk] at hn
  have ih:=valV_snoc k j y r hn
  by_cases e:p.1=j
  .rw [qbn e,qbn e,gK (fun z=>hk (e.trans z))]
  .rw [qbo e,qbo e,ih]
theorem valV_put (kvs:List (κ × V)) (k j:κ) (y:V):qcf (qcn kvs k y) j=if j=k then some y else qcf kvs j:=by
 unfold qcn
 by_cases a:(kvs.any fun kv=>decide (kv.1=k))=true
 .rw [gL a,valV_map]
  rw [qc9] at a
  by_cases e:j=k
  .obtain⟨x,hx⟩:=cU.mp a
   rw [gL e,e,hx,dN,gL rfl]
  .rw [gK e]
   cases qcf kvs j with
   |none=>rfl
   |some x=>rw [dN,gK e]
 .rw [gK a]
  refine valV_snoc k j y kvs ?_
  rw [qc9] at a
  cases q:qcf kvs k with
  |none=>rfl
  |some x=>rw [q] at a;exact(a rfl).elim
theorem qc0 (kvs:List (κ × V)) (k:κ) (v:V):(qcn kvs k v).length<=kvs.length+1:=by
 unfold qcn
 split
 .rw [zB];omega
 .rw [zG,zL,yS];omega
theorem qeh {kvs:List (κ × V)} {k:κ} (v:V) (h:qcf kvs k=none):qcn kvs k v=kvs++ [(k,v)]:=by
 unfold qcn
 rw [qc9,h]
 exact gK (by decide)
theorem qg9.isSome_eq {o:Option V} {u:Option uC} (r:qg9 o u):o.isSome=u.isSome:=by
 cases o with
 |none=>cases u with
  |none=>rfl
  |some _=>exact(show False from r).elim
 |some _=>cases u with
  |none=>exact(show False from r).elim
  |some _=>rfl
theorem qg9.getD {o:Option V} {u:Option uC} {d:V} {d':uC} (r:qg9 o u) (rd:qbb d d'):qbb (o.getD d) (u.getD d'):=by
 cases o with
 |none=>cases u with
  |none=>exact rd
  |some _=>exact(show False from r).elim
 |some _=>cases u with
  |none=>exact(show False from r).elim
  |some _=>exact r
theorem KV.val {kvs:List (κ × V)} {vs:List (κ × uC)} (r:KV kvs vs) (k:κ):qg9 (qcf kvs k) (dH vs k):=by
 unfold KV at r
 induction r with
 |nil=>exact wQ
 | @cons p q ps qs h t ih=>
  obtain⟨h1,h2⟩:=h
  by_cases e:p.1=k
  .have e':q.1=k:=h1.symm.trans e
   have b:dH (q :: qs) k=some q.2:=by simp [dH,yJ,e']
   rw [qbn e,b];exact h2
  .have e':¬q.1=k:=fun z=>e (h1.trans z)
   have b:dH (q :: qs) k=dH qs k:=by simp [dH,yJ,e']
   rw [qbo e,b];exact ih
theorem KV.any {kvs:List (κ × V)} {vs:List (κ × uC)} (r:KV kvs vs) (k:κ):(kvs.any fun kv=>decide (kv.1=k))=vs.any fun kv=>decide (kv.1=k):=by
 unfold KV at r
 induction r with
 |nil=>rfl
 |cons h t ih=>rw [yW,yW,ih,h.1]
theorem KV.repl {kvs:List (κ × V)} {vs:List (κ × uC)} (r:KV kvs vs) (k:κ) {y:V} {u:uC} (ry:qbb y u):
  KV (kvs.map fun kv=>if kv.1=k then (kv.1,y) else kv) (vs.map fun kv=>if kv.1=k then (kv.1,u) else kv):=by
 unfold KV at r ⊢
 induction r with
 |nil=>exact .nil
 | @cons p q ps qs h t ih=>
  rw [zV,zV]
  refine .cons ?_ ih
  obtain⟨h1,h2⟩:=h
  by_cases e:p.1=k
  .rw [gL e,gL (h1.symm.trans e)];exact⟨h1,ry⟩
  .rw [gK e,gK (fun z=>e (h1.trans z))];exact⟨h1,h2⟩
theorem KV.put {kvs:List (κ × V)} {vs:List (κ × uC)} (r:KV kvs vs) (k:κ) {y:V} {u:uC} (ry:qbb y u):KV (qcn kvs k y) (stored vs k u):=by
 unfold qcn stored
 rw [r.any k]
 by_cases e:(vs.any fun kv=>decide (kv.1=k))=true
 .rw [gL e,gL e];exact r.repl k ry
 .rw [gK e,gK e];exact Paired.snoc r ⟨rfl,ry⟩
theorem KV.keys {kvs:List (κ × V)} {vs:List (κ × uC)} (r:KV kvs vs):kvs.map (·.1)=vs.map (·.1):=by
 unfold KV at r
 induction r with
 |nil=>rfl
 |cons h t ih=>rw [zV,zV,ih,h.1]
theorem KV.length {kvs:List (κ × V)} {vs:List (κ × uC)} (r:KV kvs vs):kvs.length=vs.length:=Paired.length r
end
theorem kV_is {P:uY} {w:vL} {k:Key} {u:uC} (r:qbb (kV k) u):(qbc P w).is k u=true:=by
 cases k with
 |inl i=>obtain⟨t,e⟩:=(show ∃t,u=aJ i t from r);subst e;exact mixKind_int P w i t
 |inr x=>obtain⟨t,e⟩:=(show ∃t,u=eE x t from r);subst e;exact mixKind_str P w x t
theorem items_are {P:uY} {w:vL}:∀{ks:List Key} {us:List uC},qba (ks.map kV) us->ItemsAre (qbc P w) ks us
 | [],_,r=>by rw [fT] at r;cases r;exact .nil
 |k :: ks,_,r=>by
  rw [zV] at r
  cases r with
  |cons h t=>exact .cons (kV_is h) (items_are t)
abbrev KT (H:Hp):List (List Key × V)->List (List Key × Addr × uC)->Prop:=Paired fun p q=>p.1=q.1/\H q.2.1=some (.tup (p.1.map kV))/\qbb p.2 q.2.2
theorem KT.val {H:Hp} {kvs:List (List Key × V)} {xs:List (List Key × Addr × uC)} (r:KT H kvs xs) (k:List Key):qg9 (qcf kvs k) ((atKey xs k).map (·.2)):=by
 induction r with
 |nil=>exact wQ
 | @cons p q ps qs h t ih=>
  obtain⟨h1,_,h2⟩:=h
  by_cases e:p.1=k
  .have e':q.1=k:=h1.symm.trans e
   have b:atKey (q :: qs) k=some q.2:=by simp [atKey,yJ,e']
   rw [qbn e,b];exact h2
  .have e':¬q.1=k:=fun z=>e (h1.trans z)
   have b:atKey (q :: qs) k=atKey qs k:=by simp [atKey,yJ,e']
   rw [qbo e,b];exact ih
theorem KT.repl {H:Hp} {kvs:List (List Key × V)} {xs:List (List Key × Addr × uC)} (r:KT H kvs xs) (k:List Key) {y:V} {u:uC} (ry:qbb y u):
  KT H (kvs.map fun kv=>if kv.1=k then (kv.1,y) else kv) (xs.map (putAt k u)):=by
 induction r with
 |nil=>exact .nil
 | @cons p q ps qs h t ih=>
  rw [zV,zV]
  refine .cons ?_ ih
  obtain⟨h1,h2,h3⟩:=h
  unfold putAt
  by_cases e:p.1=k
  .rw [gL e,gL (h1.symm.trans e)];exact⟨h1,h2,ry⟩
  .rw [gK e,gK (fun z=>e (h1.trans z))];exact⟨h1,h2,h3⟩
theorem KT.put {H:Hp} {kvs:List (List Key × V)} {xs:List (List Key × Addr × uC)} (r:KT H kvs xs) (k:List Key) {b:Addr} {y:V} {u:uC} (hb:H b=some (.tup (k.map kV))) (ry:qbb y u):
  KT H (qcn kvs k y) (storedH xs k b u):=by
 have e:(kvs.any fun kv=>decide (kv.1=k))=(atKey xs k).isSome:=by
  rw [qc9,(r.val k).isSome_eq,cN]
 unfold qcn storedH
 rw [e]
 by_cases q:(atKey xs k).isSome=true
 .rw [gL q,gL q];exact r.repl k ry
 .rw [gK q,gK q];exact Paired.snoc r ⟨rfl,hb,ry⟩
theorem KT.keeps {H H':Hp} {kvs:List (List Key × V)} {xs:List (List Key × Addr × uC)} (r:KT H kvs xs) (ht:∀b ys,H b=some (.tup ys)->H' b=some (.tup ys)):KT H' kvs xs:=
 Paired.mapP r fun _ _ z=>⟨z.1,ht _ _ z.2.1,z.2.2⟩
section
variable {P: uY} {w: vL} {H: Hp} {h: vP} {a: Addr}
theorem rd_of {u:HO} (ok:HOk P w H h) (e:Rd H a u):qbh P w H h a u:=e.ok ok
theorem qfe {kvs:List (Key × V)} (ok:HOk P w H h) (e:Rd H a (.dK kvs)):kvs.length<=sizeLine/\(a==wP)=false/\∃vs,KV kvs vs/\h.DictOf (qbc P w) a vs:=
 show qbh P w H h a (.dK kvs) from rd_of ok e
theorem dk_of {kvs:List (Key × V)} (ok:HOk P w H h) (e:H a=some (.dK kvs)):kvs.length<=sizeLine/\(a==wP)=false/\∃vs,KV kvs vs/\h.DictOf (qbc P w) a vs:=qfe ok (.inl e)
theorem key_of {ks:List Key} (ok:HOk P w H h) (e:H a=some (.tup (ks.map kV))):(cB (qbc P w)).is h ks a:=by
 obtain⟨_,its,r,o,h1,h2,n,h3⟩:=(show qbh P w H h a (.tup (ks.map kV)) from ok a _ e)
 exact⟨o,its.toArray,n,h1,h2,h3,by simpa using items_are r⟩
theorem dt_rd {kvs:List (List Key × V)} (ok:HOk P w H h) (e:Rd H a (.dT kvs)):kvs.length<=sizeLine/\(a==wP)=false/\
  ∃xs,KT H kvs xs/\h.DictOfH (cB (qbc P w)) a xs:=by
 obtain⟨z,y,xs,r,o,es,ep,h1,h2,h3,h4,h5⟩:=(show qbh P w H h a (.dT kvs) from rd_of ok e)
 refine⟨z,y,xs,r,o,es,ep,h1,h2,h3,h4,fun x hx=>?_,h5⟩
 have all:∀{l:List (List Key × V)} {m:List (List Key × Addr × uC)},KT H l m->∀x∈m,(cB (qbc P w)).is h x.1 x.2.1:=by
  intro l m q
  induction q with
  |nil=>intro x hx;exact nomatch hx
  | @cons p q ps qs hq t ih=>
   intro x hx
   rcases zM.mp hx with e|hx
   .subst e
    exact key_of ok (by rw [<-hq.1];exact hq.2.1)
   .exact ih x hx
 exact all r x hx
theorem dt_of {kvs:List (List Key × V)} (ok:HOk P w H h) (e:H a=some (.dT kvs)):kvs.length<=sizeLine/\(a==wP)=false/\
  ∃xs,KT H kvs xs/\h.DictOfH (cB (qbc P w)) a xs:=dt_rd ok (.inl e)
end
def DGet (H:Hp) (a:Addr) (y:V) (r:Option V):Prop:=
 (∃kvs k,Rd H a (.dK kvs)/\y=kV k/\r=qcf kvs k)\/∃kvs k b,Rd H a (.dT kvs)/\y=.ref b/\H b=some (.tup (k.map kV))/\r=qcf kvs k
def DPut (H:Hp) (a:Addr) (y v:V) (H':Hp):Prop:=
 (∃kvs k,H a=some (.dK kvs)/\y=kV k/\kvs.length < sizeLine/\H'=upd H a (.dK (qcn kvs k v)))\/
 ∃kvs k b,H a=some (.dT kvs)/\y=.ref b/\H b=some (.tup (k.map kV))/\kvs.length < sizeLine/\H'=upd H a (.dT (qcn kvs k v))
theorem DPut.k {H:Hp} {a:Addr} {kvs:List (Key × V)} {k:Key} {v:V} (e:H a=some (.dK kvs)) (hl:kvs.length < sizeLine):DPut H a (kV k) v (upd H a (.dK (qcn kvs k v))):=.inl ⟨kvs,k,e,rfl,hl,rfl⟩
theorem DPut.t {H:Hp} {a b:Addr} {kvs:List (List Key × V)} {k:List Key} {v:V} (e:H a=some (.dT kvs)) (eb:H b=some (.tup (k.map kV))) (hl:kvs.length < sizeLine):
  DPut H a (.ref b) v (upd H a (.dT (qcn kvs k v))):=.inr ⟨kvs,k,b,e,rfl,eb,hl,rfl⟩
section
variable {X: Cx} {pins: List (Addr × Obj)} {σ: St} {H: Hp} {s: uE} {a: Addr} {y v: V} {u r: uC} {o: Option V} {A: vM} {E: uC -> uE -> Prop}
theorem Inv.big (I:Inv X pins σ H s):wP < s.heap.objs.size:=by
 have h:uT < s.heap.objs.size:=(I.mod.glob.keeps I.bk).lt
 exact Nat.lt_trans (by decide) h
theorem d_getItem {Q:uC->uE->Prop} (hu:A.units+1 < cLine) (I:Inv X pins σ H s) (g:DGet H a y (some v)) (ry:qbb y u) (h:∀w' s',Inv X pins σ H s'->qbb v w'->Q w' s'):
  uS (uV X.prog X.w) A (getItem (.ref a) u) Q E s:=by
 rcases g with ⟨kvs,k,e,ey,l⟩ |⟨kvs,k,b,e,ey,eb,l⟩
 .subst ey
  obtain⟨z,hd,vs,rel,dd⟩:=qfe I.hok e
  obtain⟨w',hw,rw'⟩:=qg9.some_of (v:=v) (o:=dH vs k) (by rw [l];exact rel.val k)
  exact wpAny_getItem_of (kV_is ry) dd.mapOf hw (h w' _ (I.tok _) rw')
 .subst ey
  cases (show u=uO b from ry)
  obtain⟨z,hd,xs,rel,dd⟩:=dt_rd I.hok e
  obtain⟨w',hw,rw'⟩:=qg9.some_of (v:=v) (o:=(atKey xs k).map (·.2)) (by rw [l];exact rel.val k)
  obtain⟨p,hp,hp2⟩:=uU.mp hw
  refine wpAny_getItem_heap (cE hu) (key_of I.hok eb) dd hp ?_
  rw [hp2]
  exact h w' _ (I.tok _) rw'
theorem d_in {Q:uC->uE->Prop} (hu:A.units+1 < cLine) (I:Inv X pins σ H s) (g:DGet H a y o) (ry:qbb y u) (h:∀s',Inv X pins σ H s'->Q (.bool o.isSome) s'):
  uS (uV X.prog X.w) A (wC .In u (.ref a)) Q E s:=by
 rcases g with ⟨kvs,k,e,ey,l⟩ |⟨kvs,k,b,e,ey,eb,l⟩
 .subst ey
  obtain⟨z,hd,vs,rel,dd⟩:=qfe I.hok e
  refine wpAny_in_of (kV_is ry) hd dd.mapOf ?_
  rw [<-(rel.val k).isSome_eq,<-l]
  exact h _ (I.tok _)
 .subst ey
  cases (show u=uO b from ry)
  obtain⟨z,hd,xs,rel,dd⟩:=dt_rd I.hok e
  refine wpAny_in_heap (cE hu) (key_of I.hok eb) hd dd ?_
  have q:=(rel.val k).isSome_eq
  rw [cN] at q
  rw [<-q,<-l]
  exact h _ (I.tok _)
theorem d_write {h':vP} {t':Nat} {ob:HO} (I:Inv X pins σ H s) (mu:Mut (H a)) (hs:bA a s.heap h') (he:∃q,h'.get? a=some q) (new:qbh X.prog X.w (upd H a ob) h' a ob):
  Inv X pins σ (upd H a ob) {s with heap:=h',toks:=t'}:=
 I.write (x:=a) (e:=a) mu (.inl rfl) (fun b q hb z=>(hs.2 b hb).trans z) he new
theorem dk_new {P:uY} {w:vL} {H':Hp} {h':vP} {kvs:List (Key × V)} {vs:List (Key × uC)} (z:kvs.length<=sizeLine) (hd:(a==wP)=false) (rel:KV kvs vs) (dd:h'.DictOf (qbc P w) a vs):
  qbh P w H' h' a (.dK kvs):=⟨z,hd,vs,rel,dd⟩
theorem d_setItem {H':Hp} {Q:Unit->uE->Prop} (hu:A.units+1 < cLine) (I:Inv X pins σ H s) (g:DPut H a y v H') (ry:qbb y u) (rv:qbb v r) (h:∀s',Inv X pins σ H' s'->Q () s'):
  uS (uV X.prog X.w) A (setItem (.ref a) u r) Q E s:=by
 rcases g with ⟨kvs,k,e,ey,l,eH⟩ |⟨kvs,k,b,e,ey,eb,l,eH⟩
 .subst ey eH
  obtain⟨z,hd,vs,rel,dd⟩:=dk_of I.hok e
  have hz:vs.length<=sizeLine:=by rw [<-rel.length];exact z
  have hl:(qcn kvs k v).length<=sizeLine:=by have:=qc0 kvs k v;omega
  refine wpAny_setItem_pairs (hsz:=hz) (kV_is ry) dd fun h' dd' hs=>h _ ?_
  have he:∃q,h'.get? a=some q:=let ⟨q,_,_,hq,_⟩:=dd';⟨q,hq⟩
  exact d_write I (by rw [e];exact wQ) hs he (dk_new hl hd (rel.put k rv) dd')
 .subst ey eH
  cases (show u=uO b from ry)
  obtain⟨z,hd,xs,rel,dd⟩:=dt_of I.hok e
  have hz:xs.length<=sizeLine:=by rw [<-Paired.length rel];exact z
  have hl:(qcn kvs k v).length<=sizeLine:=by have:=qc0 kvs k v;omega
  refine wpAny_setItem_heap (hsz:=hz) (cE hu) (key_of I.hok eb) dd fun h' dd' hs=>h _ ?_
  obtain⟨q,es,ep,hq,h2,h3,h4,_,h5⟩:=dd'
  refine d_write I (by rw [e];exact wQ) hs ⟨q,hq⟩ ⟨hl,hd,_,(rel.put k eb rv).keeps fun c ys ec=>?_,q,es,ep,hq,h2,h3,h4,h5⟩
  rw [qa6 (ne_of ec e (fun z=>nomatch z))]
  exact ec
end
section
variable {X: Cx} {pins: List (Addr × Obj)} {σ: St} {H: Hp} {s: uE} {a: Addr} {kvs: List (Key × V)} {A: vM} {E: uC -> uE -> Prop}
theorem d_len {Q:uC->uE->Prop} (I:Inv X pins σ H s) (e:Rd H a (.dK kvs)) (h:∀t s',Inv X pins σ H s'->Q (.int kvs.length t) s'):uS (uV X.prog X.w) A (call (.builtin "len") [.ref a]) Q E s:=by
 obtain⟨z,hd,vs,rel,dd⟩:=qfe I.hok e
 refine call_len_dict hd dd (by rw [<-rel.length];rw [aU] at z;omega) ?_
 rw [<-rel.length]
 exact h _ _ (I.tok _)
end
def NoSl (i:vQ):Prop:=∀ov iv,subscripted i false ov iv=operate [ov,iv] (getItem ov iv)
theorem subD_of {prog:uY} {w:vL} {A:vM} {E:uC->uE->Prop} {s:uE} {env:Env} {value slice:vQ} {pos:Pos} {T id:String} {Q:uC->uE->Prop}
  (hl:fE (.type T) "__getitem__" =pure (some (.builtin id))) (hs:NoSl slice)
  (h:uS (uV prog w) A (wG value env) (fun o s₁=>uS (uV prog w) A (wG slice env) (fun i s₂=>s₂.TypeIs o T/\uS (uV prog w) A (getItem o i) Q E s₂) E s₁) E s):
  uS (uV prog w) A (wG (.Subscript value slice pos) env) Q E s:=by
 refine Subscript_ (vD h (fun o s₁ h₁=>vD h₁ (fun i s₂ h₂=>?_) fun _ _ x=>x) fun _ _ x=>x)
 obtain⟨hT,h₂⟩:=h₂
 unfold subscriptTail
 refine uA ?_
 rw [getitemInPython_of_ne hT.not_modules]
 refine uA (wpAny_specialOf hT hl ?_)
 have fin:uS (uV prog w) A (subscripted slice false o i) (fun r s₃=>uS (uV prog w) A (letTemporaryGo value o r >>= fun _=>pure r) Q E s₃) E s₂:=by
  rw [hs o i]
  exact wpAny_operating (vD h₂ (fun r s₃ h₃=>uA (wpAny_letTemporaryGo (uG h₃))) fun _ _ x=>x)
 first
  |exact uG (uA fin)
  |exact uA (uG (uA fin))
  |exact uA fin
theorem dict_typeIs {X:Cx} {pins:List (Addr × Obj)} {σ:St} {H:Hp} {s:uE} {a:Addr} {y:V} {o:Option V} (I:Inv X pins σ H s) (g:DGet H a y o):s.TypeIs (.ref a) "dict":=by
 rcases g with ⟨kvs,k,e,_,_⟩ |⟨kvs,k,b,e,_,_,_⟩
 .obtain⟨_,_,vs,_,dd⟩:=qfe I.hok e
  exact dd.typeIs
 .obtain⟨_,_,xs,_,dd⟩:=dt_rd I.hok e
  exact dd.typeIs
def tDGet (td ty:TE):TE:=fun σ H Q=>td σ H fun x H1=>ty σ H1 fun y H2=>∃a v,x=.ref a/\DGet H2 a y (some v)/\Q v H2
def tDIn (ty td:TE):TE:=fun σ H Q=>ty σ H fun y H1=>td σ H1 fun x H2=>∃a o,x=.ref a/\DGet H2 a y o/\Q (.bl o.isSome) H2
def sDPut (td ty tv:TE):TS:=fun D σ H=>tv σ H fun v H1=>td σ H1 fun x H2=>ty σ H2 fun y H3=>∃a H4,x=.ref a/\DPut H3 a y v H4/\D.nx σ H4
def sDAug (td ty tv:TE) (rd:V->V->Hp->VK->Prop):TS:=fun D σ H=>td σ H fun x H1=>ty σ H1 fun y H2=>∃a v,x=.ref a/\DGet H2 a y (some v)/\
 tv σ H2 fun y2 H3=>rd v y2 H3 fun z H4=>∃H5,DPut H4 a y z H5/\D.nx σ H5
section
variable {X: Cx} {o i value: vQ} {pos pos' tpos: Pos} {td ty tv: TE}
theorem qbz (hu:X.A.units+1 < cLine) (ho:PE X o td) (hi:PE X i ty) (hs:NoSl i):PE X (.Subscript o i pos) (tDGet td ty):=by
 intro pins s σ H Q I h
 refine subD_of PySem.F.slot_dict_getitem.lookup hs (thn (ho pins s σ H _ I h) fun u s1 ⟨x,H1,I1,rx,q1⟩=>thn (hi pins s1 σ H1 _ I1 q1) fun iv s2 ⟨y,H2,I2,ry,a,v,ex,g,q2⟩=>?_)
 subst ex
 obtain rfl:u=uO a:=rx
 exact⟨dict_typeIs I2 g,d_getItem hu I2 g ry fun w' s3 I3 rw'=>⟨v,H2,I3,rw',q2⟩⟩
theorem pc_din (hu:X.A.units+1 < cLine) (hi:PE X i ty) (ho:PE X o td):PC X .In i o (tDIn ty td):=by
 intro pins s σ H Q I h
 refine thn (hi pins s σ H _ I h) fun iv s1 ⟨y,H1,I1,ry,q1⟩=>thn (ho pins s1 σ H1 _ I1 q1) fun u s2 ⟨x,H2,I2,rx,a,ov,ex,g,q2⟩=>?_
 subst ex
 obtain rfl:u=uO a:=rx
 exact d_in hu I2 g ry fun s3 I3=>⟨.bl ov.isSome,H2,I3,rfl,q2⟩
theorem qe5 (hu:X.A.units+1 < cLine) (ho:PE X o td) (hi:PE X i ty) (hv:PE X value tv) (hs:eF value (some (.Subscript o i pos')) pos.line X.env=pure false):
  PS X (.Assign [.Subscript o i pos'] value pos) (sDPut td ty tv):=by
 intro pins s σ H D I h
 refine wpAny_Assign_Subscript (thn (hv pins s σ H _ I h) fun r s1 ⟨v,H1,I1,rv,q1⟩=>thn (ho pins s1 σ H1 _ I1 q1) fun u s2 ⟨x,H2,I2,rx,q2⟩=>thn (hi pins s2 σ H2 _ I2 q2) fun iv s3 ⟨y,H3,I3,ry,a,H4,ex,g,q3⟩=>?_) hs
 subst ex
 obtain rfl:u=uO a:=rx
 exact d_setItem hu I3 g ry rv fun s4 I4=>⟨σ,H4,I4,q3⟩
theorem ps_daug {op:Operator} {rd:V->V->Hp->VK->Prop} (hu:X.A.units+1 < cLine) (ho:PE X o td) (hi:PE X i ty) (hv:PE X value tv) (hop:InOp X op rd)
  (ha:∀ov iv new,augStore i ov iv new=(do fO [new,ov,iv] (setItem ov iv new);release [new,ov,iv] [];pure .next)):PS X (.AugAssign (.Subscript o i tpos) op value pos) (sDAug td ty tv rd):=by
 intro pins s σ H D I h
 refine wpAny_AugAssign_SubscriptAny (thn (ho pins s σ H _ I h) fun u s1 ⟨x,H1,I1,rx,q1⟩=>thn (hi pins s1 σ H1 _ I1 q1) fun iv s2 ⟨y,H2,I2,ry,a,v,ex,g,q2⟩=>?_) ha
 subst ex
 obtain rfl:u=uO a:=rx
 refine d_getItem hu I2 g ry fun w' s3 I3 rw'=>thn (hv pins s3 σ H2 _ I3 q2) fun w2 s4 ⟨y2,H3,I4,ry2,q3⟩=>thn (hop pins s4 σ H3 v y2 w' w2 _ I4 rw' ry2 q3) fun w3 s5 ⟨z,H4,I5,rz,H5,g5,q4⟩=>?_
 exact d_setItem hu I5 g5 ry rz fun s6 I6=>⟨σ,H5,I6,q4⟩
end
theorem dk_empty {P:uY} {w:vL} {H:Hp} (h:vP) (hb:wP < h.objs.size):qbh P w H (h.push {cls:=.type "dict",data:=.dict #[]}) h.objs.size (.dK []):=
 ⟨vY _,beq_eq_false_iff_ne.mpr (xF (uX hb)), [],.nil,Heap.DictOf.new h⟩
theorem dt_empty {P:uY} {w:vL} {H:Hp} (h:vP) (hb:wP < h.objs.size):qbh P w H (h.push {cls:=.type "dict",data:=.dict #[]}) h.objs.size (.dT []):=
 ⟨vY _,beq_eq_false_iff_ne.mpr (xF (uX hb)), [],.nil,_,#[],0,uP _ rfl,⟨rfl,rfl,rfl⟩,rfl,rfl,yM⟩
def tDNewK:TE:=fun _ H Q=>∀p,H p=none->Q (.ref p) (upd H p (.dK []))
def tDNewT:TE:=fun _ H Q=>∀p,H p=none->Q (.ref p) (upd H p (.dT []))
section
variable {X: Cx} {pos: Pos}
theorem qfv:PE X (.Dict [] [] pos) tDNewK:=fun pins s σ H Q I h=>
 wpAny_Dict_empty ⟨.ref s.heap.objs.size,_,I.laid (a:=s.heap.objs.size) (o:=.dK []) (t':=s.toks) (fun _ _ q=>uD _ q) (uF _) (dk_empty s.heap I.big),rfl,h _ (I.hok.fresh (uF _))⟩
theorem pe_dnewT:PE X (.Dict [] [] pos) tDNewT:=fun pins s σ H Q I h=>
 wpAny_Dict_empty ⟨.ref s.heap.objs.size,_,I.laid (a:=s.heap.objs.size) (o:=.dT []) (t':=s.toks) (fun _ _ q=>uD _ q) (uF _) (dt_empty s.heap I.big),rfl,h _ (I.hok.fresh (uF _))⟩
end
def tPairs:List (TE × TE)->St->Hp->(List (V × V)->Hp->Prop)->Prop
 | [],_,H,Q=>Q [] H
 |(tk,tv) :: r,σ,H,Q=>tk σ H fun x H1=>tv σ H1 fun y H2=>tPairs r σ H2 fun ps H3=>Q ((x,y) :: ps) H3
abbrev VV:List (V × V)->List (uC × uC)->Prop:=Paired fun p q=>qbb p.1 q.1/\qbb p.2 q.2
def PPs (X:Cx) (pos:Pos) (keys:List (Option vQ)) (values:List vQ) (trs:List (TE × TE)):Prop:=
 ∀(pins:List (Addr × Obj)) (s:uE) (σ:St) (H:Hp) (Q:List (V × V)->Hp->Prop),Inv X pins σ H s->tPairs trs σ H Q->
  uS (uV X.prog X.w) X.A (evalPairs (pairTrees keys values X.env pos)) (fun vs s'=>∃ps H',Inv X pins σ H' s'/\VV ps vs/\Q ps H') X.xe s
theorem pps_nil {X:Cx} {pos:Pos}:PPs X pos [] [] []:=fun pins s σ H Q I h=>pairTrees_nil_walk ⟨[],H,I,.nil,h⟩
theorem pps_cons {X:Cx} {pos:Pos} {k v:vQ} {ks:List (Option vQ)} {vs:List vQ} {tk tv:TE} {trs:List (TE × TE)} (hk:PE X k tk) (hv:PE X v tv) (hr:PPs X pos ks vs trs):
  PPs X pos (some k :: ks) (v :: vs) ((tk,tv) :: trs):=fun pins s σ H Q I h=>
 pairTrees_cons_walk (thn (hk pins s σ H _ I h) fun u s1 ⟨x,H1,I1,rx,q1⟩=>thn (hv pins s1 σ H1 _ I1 q1) fun w2 s2 ⟨y,H2,I2,ry,q2⟩=>
  thn (hr pins s2 σ H2 _ I2 q2) fun ws s3 ⟨ps,H3,I3,rel,q3⟩=>⟨(x,y) :: ps,H3,I3,.cons ⟨rx,ry⟩ rel,q3⟩)
def qfj (kvs more:List (Key × V)):List (Key × V):=more.foldl (fun acc kv=>qcn acc kv.1 kv.2) kvs
theorem KV.merge:∀{more:List (Key × V)} {rs:List (Key × uC)} {kvs:List (Key × V)} {vs:List (Key × uC)},KV more rs->KV kvs vs->KV (qfj kvs more) (merged vs rs):=by
 intro more rs kvs vs r
 unfold KV at r
 induction r generalizing kvs vs with
 |nil=>intro q;exact q
 | @cons p q ps qs h t ih=>
  intro r0
  have e:KV (qcn kvs p.1 p.2) (stored vs q.1 q.2):=by
   have:=r0.put p.1 h.2
   rw [<-h.1];exact this
  exact ih e
theorem qdz:∀(more kvs:List (Key × V)),(qfj kvs more).length<=kvs.length+more.length
 | [],kvs=>by show kvs.length<=kvs.length+0;omega
 |p :: r,kvs=>by
  have h1:=qdz r (qcn kvs p.1 p.2)
  have h2:=qc0 kvs p.1 p.2
  show (qfj (qcn kvs p.1 p.2) r).length<=_
  rw [zL];omega
theorem qfl {P:uY} {w:vL}:∀{kvs:List (Key × V)} {ws:List (uC × uC)},VV (kvs.map fun kv=>(kV kv.1,kv.2)) ws->∃rs,Carries (qbc P w) ws rs/\KV kvs rs
 | [],_,r=>by rw [fT] at r;cases r;exact⟨[],wQ,.nil⟩
 |p :: kvs,_,r=>by
  rw [zV] at r
  cases r with
  | @cons a b as bs h t=>
   obtain⟨rs,c,q⟩:=qfl (P:=P) (w:=w) t
   obtain⟨b1,b2⟩:=b
   exact⟨(p.1,b2) :: rs,⟨kV_is h.1,rfl,c⟩,.cons ⟨rfl,h.2⟩ q⟩
def tDisp (trs:List (TE × TE)):TE:=fun σ H Q=>∀p,H p=none->tPairs trs σ (upd H p (.dK [])) fun ps H2=>H2 p=some (.dK [])/\∃kvs:List (Key × V),ps=kvs.map (fun kv=>(kV kv.1,kv.2))/\kvs.length<=15/\Q (.ref p) (upd H2 p (.dK (qfj [] kvs)))
theorem pe_disp {X:Cx} {pos:Pos} {keys:List (Option vQ)} {values:List vQ} {trs:List (TE × TE)} (h:PPs X pos keys values trs) (hall:keys.all (·.isSome)=true) (hl:keys.length=values.length) (h0:keys≠ [])
  (h15:keys.length<=15):PE X (.Dict keys values pos) (tDisp trs):=by
 intro pins s σ H Q I q
 have hn:=I.hok.fresh (uF s.heap.objs.size)
 have I1:=I.laid (a:=s.heap.objs.size) (o:=.dK []) (h':=s.heap.push {cls:=.type "dict",data:=.dict #[]}) (t':=s.toks) (fun _ _ q=>uD _ q) (uF _) (dk_empty s.heap I.big)
 refine wpAny_Dict_walk (knd:=qbc X.prog X.w) hall hl h0 h15 (thn (h pins _ σ _ _ I1 (q _ hn)) fun ws s2 ⟨ps,H2,I2,rel,e,kvs,ep,lk,q2⟩=>?_)
 subst ep
 obtain⟨rs,c,rk⟩:=qfl (P:=X.prog) (w:=X.w) rel
 obtain⟨z,hd,vs0,r0,dd⟩:=dk_of I2.hok e
 cases r0
 refine⟨rs,c,dd,fun h' dd' hs=>⟨.ref s.heap.objs.size,_,?_,rfl,q2⟩⟩
 have hz:(qfj [] kvs).length<=sizeLine:=by
  have h1:=qdz kvs []
  rw [yS] at h1
  rw [aU];omega
 have he:∃q,h'.get? s.heap.objs.size=some q:=let ⟨q,_,_,hq,_⟩:=dd';⟨q,hq⟩
 exact d_write I2 (by rw [e];exact wQ) hs he (dk_new hz hd (rk.merge .nil) dd')
structure M1 (X:Cx) (o:vQ) (m:Str) (apos:Pos) (e:vQ) (cpos:Pos):Prop where
 base:bP o m X.env (wG o X.env)=wG o X.env
 few:((wT cpos (uZ [e] X.env)).all (fun x=>!x.1) && (cZ cpos (aV [] X.env)).all (fun x=>x.1.isSome)
  && decide (([e]:List vQ).length+([]:List Keyword).length+(if ([]:List Keyword).isEmpty then 0 else 1) < 30))=true
 line:(apos.endLine==cpos.line)=true
 trees:wT cpos (uZ [e] X.env)=[(false,wG e X.env)]
structure M2 (X:Cx) (o:vQ) (m:Str) (apos:Pos) (e f:vQ) (cpos:Pos):Prop where
 base:bP o m X.env (wG o X.env)=wG o X.env
 few:((wT cpos (uZ [e,f] X.env)).all (fun x=>!x.1) && (cZ cpos (aV [] X.env)).all (fun x=>x.1.isSome)
  && decide (([e,f]:List vQ).length+([]:List Keyword).length+(if ([]:List Keyword).isEmpty then 0 else 1) < 30))=true
 line:(apos.endLine==cpos.line)=true
 trees:wT cpos (uZ [e,f] X.env)=[(false,wG e X.env),(false,wG f X.env)]
def IsD (H:Hp) (a:Addr):Prop:=(∃kvs,Rd H a (.dK kvs))\/∃kvs,Rd H a (.dT kvs)
theorem isD_at {X:Cx} {pins:List (Addr × Obj)} {σ:St} {H:Hp} {s:uE} {a:Addr} (I:Inv X pins σ H s) (d:IsD H a):
  s.TypeIs (.ref a) "dict"/\(∀b,uO a=.ref b->∃ob,s.heap.get? b=some ob/\ob.dict=none)/\(a==wP)=false:=by
 rcases d with ⟨kvs,e⟩ |⟨kvs,e⟩
 .obtain⟨_,hd,vs,_,dd⟩:=qfe I.hok e
  refine⟨dd.typeIs,fun b q=>?_,hd⟩
  cases q
  obtain⟨ob,_,_,h1,h2,_⟩:=dd
  exact⟨ob,h1,h2.2.1⟩
 .obtain⟨_,hd,xs,_,dd⟩:=dt_rd I.hok e
  refine⟨dd.typeIs,fun b q=>?_,hd⟩
  cases q
  obtain⟨ob,_,_,h1,h2,_⟩:=dd
  exact⟨ob,h1,h2.2.1⟩
section
variable {X: Cx} {pins: List (Addr × Obj)} {σ: St} {H: Hp} {s: uE} {a: Addr} {y d: V} {u r: uC} {o: Option V} {A: vM} {E: uC -> uE -> Prop}
theorem d_get2 {Q:uC->uE->Prop} (hu:A.units+1 < cLine) (I:Inv X pins σ H s) (g:DGet H a y o) (ry:qbb y u) (rd:qbb d r) (h:∀w' s',Inv X pins σ H s'->qbb (o.getD d) w'->Q w' s'):
  uS (uV X.prog X.w) A (call (.builtin "dict.get") [.ref a,u,r]) Q E s:=by
 rcases g with ⟨kvs,k,e,ey,l⟩ |⟨kvs,k,b,e,ey,eb,l⟩
 .subst ey
  obtain⟨z,hd,vs,rel,dd⟩:=qfe I.hok e
  refine call_meetsIn dQ dd.typeIs PySem.F.entry_dict_get (PySem.F.args_dict_get_3 _ _ _) (meets_dict_get_default (qbc X.prog X.w) a (kV_is ry) hd r) ⟨_,dd.mapOf,h _ _ (I.tok _) ?_⟩
  rw [l]
  exact(rel.val k).getD rd
 .subst ey
  cases (show u=uO b from ry)
  obtain⟨z,hd,xs,rel,dd⟩:=dt_rd I.hok e
  refine call_meetsIn dQ dd.typeIs PySem.F.entry_dict_get (PySem.F.args_dict_get_3 _ _ _) (meetsH_dict_get_default (cB (qbc X.prog X.w)) a b hd r) ⟨cE hu,k,xs,key_of I.hok eb,dd,h _ _ (I.tok _) ?_⟩
  rw [l]
  exact(rel.val k).getD rd
end
def tDGet2 (td ty tx:TE):TE:=fun σ H Q=>td σ H fun x H1=>∃a,x=.ref a/\IsD H1 a/\ty σ H1 fun y H2=>tx σ H2 fun z H3=>∃o,DGet H3 a y o/\Q (o.getD z) H3
section
variable {X: Cx} {o e f: vQ} {apos cpos: Pos} {td ty tx: TE}
theorem pe_dget2 (hu:X.A.units+1 < cLine) (ho:PE X o td) (he:PE X e ty) (hf:PE X f tx) (m:M2 X o "get" apos e f cpos):PE X (.Call (.Attribute o "get" apos) [e,f] [] cpos) (tDGet2 td ty tx):=by
 intro pins s σ H Q I h
 refine wpAny_Call_method m.base m.few m.line PySem.F.plainAttrs_dict dQ PySem.F.type_dict_get (thn (ho pins s σ H _ I h) fun u s1 ⟨x,H1,I1,rx,a,ex,d,q1⟩=>?_)
 subst ex
 obtain rfl:u=uO a:=rx
 obtain⟨t1,t2,_⟩:=isD_at I1 d
 refine⟨t1,t2,?_⟩
 rw [m.trees]
 refine dF rfl (bU (cD (thn (he pins s1 σ H1 _ I1 q1) fun iv s2 ⟨y,H2,I2,ry,q2⟩=>
  cD (thn (hf pins s2 σ H2 _ I2 q2) fun fv s3 ⟨z,H3,I3,rz,ov,g,q3⟩=>fS ?_))))
 exact d_get2 hu I3 g ry rz fun w' s4 I4 rw'=>⟨_,H3,I4,rw',q3⟩
end
section
variable {X: Cx} {pins: List (Addr × Obj)} {σ: St} {H: Hp} {s: uE} {a: Addr} {kvs: List (Key × V)} {A: vM} {E: uC -> uE -> Prop}
theorem d_copyOf {Q:uC->uE->Prop} (I:Inv X pins σ H s) (e:Rd H a (.dK kvs)) (h:∀p s',H p=none->Inv X pins σ (upd H p (.dK kvs)) s'->Q (.ref p) s'):uS (uV X.prog X.w) A (call (.type "dict") [.ref a]) Q E s:=by
 obtain⟨z,hd,vs,rel,dd⟩:=qfe I.hok e
 refine kt_call_dict hd dd (by rw [<-rel.length];exact z) fun h' dd' hs=>?_
 refine h _ _ (I.hok.fresh (uF _)) (I.laid (a:=s.heap.objs.size) (o:=.dK kvs) (t':=s.toks) (fun b q hq=>?_) (uF _) (dk_new z (beq_eq_false_iff_ne.mpr (xF (uX I.big))) rel dd'))
 exact(hs.2 b (uX (uL hq))).trans (uD _ hq)
end
section
variable {X: Cx}
theorem call_lenD:qc7 X (.builtin "len") (fun xs H Q=>∃a kvs,xs=[V.ref a]/\H a=some (.dK kvs)/\Q (.int kvs.length) H):=by
 intro pins s σ H xs us Q I r h
 obtain⟨a,kvs,rfl,ha,q⟩:=h
 obtain⟨u,rfl,ru⟩:=vals1 r
 cases ru
 exact d_len I (.inl ha) fun t s' I'=>⟨.int kvs.length,H,I',⟨t,rfl⟩,q⟩
end
section
variable {κ: Type} [DecidableEq κ]
theorem valV_not {kvs:List (κ × V)} {k:κ} (h:qcf kvs k=none):¬k∈kvs.map (·.1):=by
 intro m
 obtain⟨p,hp,e⟩:=zK.mp m
 have q:(kvs.any fun kv=>decide (kv.1=k))=true:=yO.mpr ⟨p,hp,gM e⟩
 rw [qc9,h] at q
 exact absurd q (by simp)
theorem valV_in {kvs:List (κ × V)} {k:κ} {v:V} (h:qcf kvs k=some v):k∈kvs.map (·.1):=by
 have q:(kvs.any fun kv=>decide (kv.1=k))=true:=by
  rw [qc9,h]
  all_goals rfl
 obtain⟨p,hp,e⟩:=yO.mp q
 exact zK.mpr ⟨p,hp,of_decide_eq_true e⟩
theorem nd_snoc:∀{l:List κ} {k:κ},l.Nodup->¬k∈l->(l++ [k]).Nodup
 | [],k,_,_=>by simp
 |a :: r,k,h,hk=>by
  obtain⟨h1,h2⟩:=zX.mp h
  show (a ::(r++ [k])).Nodup
  refine zX.mpr ⟨fun m=>?_,nd_snoc h2 fun m=>hk (zM.mpr (aM m))⟩
  rcases zR.mp m with q|q
  .exact h1 q
  .exact hk (zM.mpr (uI (zF.mp q).symm))
theorem nd_putK {kvs:List (κ × V)} {k:κ} (v:V) (hn:(kvs.map (·.1)).Nodup) (h:qcf kvs k=none):((qcn kvs k v).map (·.1)).Nodup:=by
 rw [qeh v h,zE]
 exact nd_snoc hn (valV_not h)
end
end L2
namespace My
open PySem PySem.Spec PyProof.Rows L2
theorem qdc {α:Type} {β:Type} [BEq α] [LawfulBEq α]:∀{l:List (α × β)} {x:α} {v:β},l.lookup x=some v->(x,v)∈l
 |(a,b) :: l,x,v,h=>by
  rw [List.lookup_cons] at h
  cases e:x==a with
  |true=>rw [e] at h;have e':=eq_of_beq e;have h':b=v:=uW h;subst e' h';exact zN
  |false=>rw [e] at h;exact zH _ (qdc h)
theorem qb2 {X:Cx} {x:Str} {scope:bY} {cl:List (Str × Addr)} {caps:List Nat} {cn:List Str} (h1:closureFor scope X.env=pure cl) (h2:scope.kind=.function) (h3:scope.names.all (fun p=>p.2 !=.cell)=true)
  (h4:scope.names.all (fun p=>p.2 !=.local || scope.names.lookup p.1==some .local)=true) (h5:scope.names.lookup x=some .local) (h6:AllC (fun p=>X.env.cells.lookup p.1=some p.2) cl)
  (h7:(relabel scope X.env).names.all (fun p=>!(p.2==.cell || p.2==.free) ||(cl.lookup p.1).isSome)=true) (h8:caps.length=cn.length)
  (h9:AllC (fun p=>X.N[p.1]?=some p.2/\X.env.kindOf p.2=some .cell/\(relabel scope X.env).names.lookup p.2=some .cell/\X.env.scope.names.lookup p.2=some .cell/\∃c,cl.lookup p.2=some c) (caps.zip cn)) (h10:(x :: cn).Nodup):Caps X x scope cl caps cn:=by
 refine⟨h1,h2,fun y hy z=>?_,fun y hy z=>?_,h5,fun y c e=>AllC.mem h6 _ (qdc e),fun y hy=>?_,h8,fun k y j e1 e2=>?_,h10⟩
 .have q:=yD.mp h3 y hy
  rw [z] at q
  cases q
 .have q:=yD.mp h4 y hy
  rw [z] at q
  simpa using q
 .have m:∃k,(y,k)∈(relabel scope X.env).names/\(k=.cell\/k=.free):=by
   rcases hy with hy|hy
   .exact⟨_,qdc hy,.inl rfl⟩
   .exact⟨_,qdc hy,.inr rfl⟩
  obtain⟨k,hm,hk⟩:=m
  have q:=yD.mp h7 _ hm
  have hk':(k==NameKind.cell || k==NameKind.free)=true:=by rcases hk with rfl|rfl <;> decide
  rw [hk'] at q
  exact cU.mp (by simpa using q)
 .refine AllC.mem h9 (j,y) ?_
  have hz:(caps.zip cn)[k]?=some (j,y):=by rw [List.getElem?_zip_eq_some];exact⟨e2,e1⟩
  exact zD hz
section
variable {X: Cx}
theorem pi_str {l:vQ} {tl:TE} {y:Str} {py:Pos} (hl:PE X l tl):PI X (.Name y py) l (iStr tl):=by
 intro pins s σ H R I h
 refine thn (hl pins s σ H _ I h) fun u s1 ⟨v,H1,I1,r,x,ev,q⟩=>?_
 subst ev
 obtain⟨t,rfl⟩:=r
 have hn:H1 s1.heap.objs.size=none:=I1.hok.fresh (uF _)
 have fp:∀b∈ [s1.heap.objs.size],qgc X pins H1 b:=fun b hb=>by
  have e:b=s1.heap.objs.size:=by simpa using hb
  subst e
  exact I1.fpOk (uF _) hn
 cases ha:x.cps.all (·< 128)
 .exact wpAny_pyIter_wide ha ⟨_, [s1.heap.objs.size],fun i h=>h.IsStrIter s1.heap.objs.size "str_iterator" x t i,Its x,H1,rfl,I1.kept (t':=s1.toks) (fun _ _ e=>uD _ e),
   turn_str x t _ _ (fun A hA=>Walks.strWide hA _ x t) fun A i s' Q' E' st hq=>wpAny_pyIter_striter_wide st hq,⟨_,uP _ rfl,rfl,rfl⟩,fp,q⟩
 .exact wpAny_pyIter_ascii ha ⟨_, [s1.heap.objs.size],fun i h=>h.IsStrIter s1.heap.objs.size "str_ascii_iterator" x t i,Its x,H1,rfl,I1.kept (t':=s1.toks) (fun _ _ e=>uD _ e),
   turn_str x t _ _ (fun A hA=>Walks.strAscii hA _ x t) fun A i s' Q' E' st hq=>wpAny_pyIter_striter_ascii st hq,⟨_,uP _ rfl,rfl,rfl⟩,fp,q⟩
def rAll (K:uR):List V->Hp->VK->Prop:=fun xs H Q=>∃(p:Addr) (bs:List Bool),xs=[.ref p]/\SqL K H p (bs.map V.bl)/\Q (.bl (bs.all id)) H
theorem all_range (bs:List Bool):((vC bs.length).all fun i=>(bs[i]?).getD true)=bs.all id:=by
 rw [xU,yD,yD]
 constructor
 .intro h b hb
  obtain⟨i,hi,e⟩:=zQ.mp hb
  have q:=h i (yT.mpr hi)
  rw [zA hi,e] at q
  exact q
 .intro h i hi
  have hi':=yT.mp hi
  rw [zA hi']
  exact h _ (zJ hi')
theorem call_allB (hc:X.calm=true):qc7 X (.builtin "all") (rAll X.K):=by
 intro pins s σ H xs us Q I hv h
 obtain⟨p,bs,rfl,hS,q⟩:=h
 obtain⟨u,rfl,ru⟩:=hv.one
 cases ru
 obtain⟨its,rv,pl,hz⟩:=I.list hS
 have hl:=pl.isList
 have hlt:p < s.heap.objs.size:=by obtain⟨_,e,_⟩:=hl;exact uL e
 have hlen:=rv.length
 rw [zB] at hlen
 refine call_all_walk (bB hl ?_)
 refine⟨s.heap.objs.size, [s.heap.objs.size,p], [s.heap.objs.size],its.toArray.size,_,_,fun i=>(bs[i]?).getD true,rfl,Walks.list (A:=X.A.in1) (I.ok.hd hc) _ p (uX hlt) its.toArray,⟨⟨_,uP _ rfl,rfl,rfl⟩,hl.push _⟩,fun i v s' Q' E' hP hQ=>?_,fun h' tk hk=>?_⟩
 .have hi:its[i]?=some v:=by simpa using hP
  have hb:i < bs.length:=by rw [hlen];exact(uH.mp hi).1
  have hx:(bs.map V.bl)[i]?=some (.bl bs[i]):=by rw [zC,zA hb];rfl
  obtain⟨u,e,r⟩:=rv.get hx
  rw [hi] at e
  cases e
  cases r
  dsimp only at hQ
  rw [zA hb] at hQ
  exact wI hQ
 .have e:((vC its.toArray.size).all fun i=>(bs[i]?).getD true)=bs.all id:=by
   rw [zI,<-hlen];exact all_range bs
  rw [e]
  exact⟨.bl _,H,I.kept (t':=tk) (fun b o eb=>hk b o (fun hm=>by have z:=uL eb;rw [zF.mp hm] at z;exact wA _ z) (uD _ eb)),rfl,q⟩
def rCatS:R2:=fun x y H Q=>∃i j,x=.str i/\y=.str j/\i.length+j.length<=sizeLine/\Q (.str (i++j)) H
theorem op_catS:OpR X (bC .Add) rCatS:=op_add_str
def rInS:R2:=fun x y H Q=>∃i j,x=.str i/\y=.str j/\Q (.bl (!(aT j i 0 j.length 1).isEmpty)) H
theorem op_inS:OpR X (wC .In) rInS:=op_in_str
def rLenS:List V->Hp->VK->Prop:=fun xs H Q=>∃z,xs=[.str z]/\z.length<=sizeLine/\Q (.int z.length) H
theorem call_lenS:qc7 X (.builtin "len") rLenS:=call_len_str
end
section
variable {K: uR} {H: Hp} {Q: VK} {σ: L2.St}
theorem r_sl {r:V->Option Int->Option Int->Hp->VK->Prop} {te:TE} {tl th:TO} (h:te σ H fun x H1=>tl σ H1 fun l H2=>th σ H2 fun u H3=>r x l u H3 Q):tSl r te tl th σ H Q:=h
theorem r_noPart {Q:Option Int->Hp->Prop} (h:Q none H):tNoPart σ H Q:=h
theorem r_part {te:TE} {Q:Option Int->Hp->Prop} (h:te σ H fun x H1=>∃i,x=.int i/\Q (some i) H1):tPart te σ H Q:=h
theorem r_exi {i:Int} {Q:Int->Prop} (h:Q i):∃j,V.int i=.int j/\Q j:=⟨i,rfl,h⟩
theorem r_chain {r r':R2} {ta tb tc:TE} (h:ta σ H fun x H1=>tb σ H1 fun y H2=>r x y H2 fun z H3=>∃k,z=.bl k/\(if k=true then tc σ H3 fun w' H4=>r' y w' H4 Q else Q (.bl false) H3)):tChain r r' ta tb tc σ H Q:=h
theorem r_all {p:Addr} {bs:List Bool} (hS:SqL K H p (bs.map V.bl)) (h:Q (.bl (bs.all id)) H):rAll K [.ref p] H Q:=⟨p,bs,rfl,hS,h⟩
theorem r_catS {i j:Str} (hn:i.length+j.length<=sizeLine) (h:Q (.str (i++j)) H):rCatS (.str i) (.str j) H Q:=⟨i,j,rfl,rfl,hn,h⟩
theorem r_inS {i j:Str} (h:Q (.bl (!(aT j i 0 j.length 1).isEmpty)) H):rInS (.str i) (.str j) H Q:=⟨i,j,rfl,rfl,h⟩
theorem r_lenS {z:Str} (hn:z.length<=sizeLine) (h:Q (.int z.length) H):rLenS [.str z] H Q:=⟨z,rfl,hn,h⟩
theorem r_ixS {z:Str} {i:Int} {c:Nat} (hn:z.length<=sizeLine) (e:atI z.cps.toList i=some c) (h:Q (.str ⟨#[c]⟩) H):rIxS (.str z) (.int i) H Q:=⟨z,i,c,rfl,rfl,hn,e,h⟩
theorem r_iS {tl:TE} {R:It->Hp->Prop} (h:tl σ H fun v H1=>rItS v H1 R):iStr tl σ H R:=h
theorem r_itS {x:Str} {R:It->Hp->Prop} (h:R (Its x) H):rItS (.str x) H R:=⟨x,rfl,h⟩
theorem r_comp {wi:TI} {caps:List Nat} {tt:CT TT} {te:CT TE} (h:wi σ H fun J H1=>∀(C:Addr) (s:uE) (H0:Hp) (fp:List Addr) (acc:Addr),H1 acc=none->COMP J caps (tt C s H0 fp) (te C s H0 fp) acc σ (upd H1 acc (.lst [])) Q):tComp wi caps tt te σ H Q:=h
theorem r_true {Q:Bool->Hp->Prop} (h:Q true H):tTrue σ H Q:=h
theorem r_app {acc:Addr} {N:Hp->Prop} {y:V} {ys:List V} (ha:H acc=some (.lst ys)) (hz:ys.length < sizeLine) (h:N (upd H acc (.lst (ys++ [y])))):rApp acc N y H:=⟨ys,ha,hz,h⟩
theorem qek {J:It} {caps:List Nat} {tt:TT} {te:TE} {acc:Addr} (n:Nat) (Pv:Nat->Hp->Prop) (h0:Pv 0 H) (hgo:∀i H,i < n->Pv i H->J.go i H) (hst:∀H,Pv n H->J.stop n H)
  (hs:∀i H v H',i < n->Pv i H->J.yld i H v H'->tt (some v :: qay caps σ) H' fun b H2=>if b=true then te (some v :: qay caps σ) H2 fun y H3=>rApp acc (Pv (i+1)) y H3 else Pv (i+1) H2)
  (hd:∀H,Pv n H->Q (.ref acc) H):COMP J caps tt te acc σ H Q:=by
 refine⟨fun i m H=>m=n - i/\i<=n/\Pv i H,⟨n,rfl,vY _,h0⟩,?_⟩
 rintro i m H ⟨rfl,hi,p⟩
 by_cases hlt:i < n
 .exact .inr ⟨hgo i H hlt p,Pv (i+1),fun H' p'=>⟨n - (i+1),by omega,rfl,hlt,p'⟩,fun v H' y=>hs i H v H' hlt p y⟩
 .have e:i=n:=by omega
  subst e
  exact .inl ⟨hst H p,hd H p⟩
end
section
variable {X: Cx}
def rRep:R2:=fun x y H Q=>∃z n,x=.str z/\y=.int n/\0<=n/\n<=1/\Q (.str (if n < 1 then Str.empty else z)) H
theorem op_rep:OpR X (bC .Mult) rRep:=by
 intro pins s σ H x y v u Q I rx ry h
 obtain⟨z,n,rfl,rfl,h0,h1,q⟩:=h
 obtain⟨t,rfl⟩:=rx
 obtain⟨k,rfl⟩:=ry
 refine P.mul_str (by rw [gO (by omega),gO (by omega)];rfl) (fun h2 h3=>?_) (fun h2 h3=>?_) ?_
 .have e:n=1:=by omega
  subst e
  rw [show ((1:Int)==1)=true from rfl,fX] at h3;cases h3
 .have e:n=1:=by omega
  subst e
  rw [show ((1:Int)==1)=true from rfl,fX] at h3;cases h3
 .by_cases c:n < 1
  .rw [gL c] at q ⊢
   exact⟨by decide,.str Str.empty,H,I.tok _,⟨_,rfl⟩,q⟩
  .have e:n=1:=by omega
   subst e
   rw [gK c] at q ⊢
   rw [gL (by rw [show ((1:Int)==1)=true from rfl,fX])]
   exact⟨.str z,H,I,⟨_,rfl⟩,q⟩
def rIntB:List V->Hp->VK->Prop:=fun xs H Q=>∃b:Bool,xs=[.bl b]/\Q (.int (if b then 1 else 0)) H
theorem qe1:qc7 X (.type "int") rIntB:=by
 intro pins s σ H xs us Q I r h
 obtain⟨b,rfl,q⟩:=h
 cases r with
 |cons r1 r2=>
  cases r2
  cases r1
  exact call_int_bool ⟨.int _,H,I.tok _,⟨_,rfl⟩,q⟩
end
section
variable {H: Hp} {Q: VK}
theorem r_rep {z:Str} {n:Int} (h0:0<=n) (h1:n<=1) (h:Q (.str (if n < 1 then Str.empty else z)) H):rRep (.str z) (.int n) H Q:=⟨z,n,rfl,rfl,h0,h1,h⟩
theorem r_intB {b:Bool} (h:Q (.int (if b then 1 else 0)) H):rIntB [.bl b] H Q:=⟨b,rfl,h⟩
end
section
variable {prog: uY} {w: vL} {A: vM} {E: uC -> uE -> Prop} {h: vP} {g: Array GenState} {d: Drawn} {t: Nat} {os: OsState}
variable {nm q: Str} {C N fI: Addr} {bs bm bmB: List uC} {hdct: Bool} {sn: List Str} {sub: List uC} {ab: Bool} {col: Option Bool} {dd: Option Addr} {k0 k1 k2 k3 k5: Option uC} {B Bn newId nid initId inN: String} {bmN: List uC}
def qd0 (h:vP) (C:Addr) (rest:List uC):vP:=(h.push {cls:=.type "tuple",data:=.seq rest.toArray}).push {cls:=.ref C,data:=.fields #[.ref h.objs.size,.none,.none,.none,.bool false,.none]}
theorem qfb (Fn:cA Bn newId inN bmN) (hBn:bmB.contains (.type Bn)=true) (F:cA B nid initId bmB) (T:OwnTail h bmB bm) {mN:Str->Option uC} {rest:List uC} {Q:Fin->uE->Prop}
  (hC:h.get? C=some (bV nm q C N bs bm hdct sn sub ab col dd k0 k1 k2 k3 k5 newId)) (hn:h.Ns N mN) (hni:mN "__init__" =some (.ref fI))
  (hb:cW (uV prog w) (qd0 h C rest) (bindSpecial (.ref fI) (.ref (h.objs.size+1))) (.ref fI, [.ref (h.objs.size+1)]))
  (hq:uS (uV prog w) A (call (.ref fI) (.ref (h.objs.size+1) :: rest)) (fun v s'=>v=.none/\Q (.done (.ret (.ref (h.objs.size+1)))) s') E ⟨qd0 h C rest,g,d,t,os⟩) (hrest:rest.length<=sizeLine:=by size_fits):
  uS (uV prog w) A (xQ.«type.__call__» ⟨.ref C :: rest, []⟩) Q E ⟨h,g,d,t,os⟩:=by
 repeat (first|with_reducible refine bG hC ?_|with_reducible refine wpAny_madeBy_exc hC ?_|wp_step)
 refine codeAny_call_builtin_code (fG _ Fn.quiet) (wpAny_check_new_subU Fn hBn T hC ?_)
 refine codeAny_exc_new_subU Fn hBn F T hC ?_ hrest
 show uS _ _ _ _ _ _
 have hC₁:=uD {cls:=.ref C,data:=.fields #[.ref h.objs.size,.none,.none,.none,.bool false,.none]}
  (uD {cls:=.type "tuple",data:=.seq rest.toArray} hC)
 have hn₁:((h.push {cls:=.type "tuple",data:=.seq rest.toArray}).push {cls:=.ref C,data:=.fields #[.ref h.objs.size,.none,.none,.none,.bool false,.none]}).Ns N mN:=
  let ⟨o,es,ep,e,r⟩:=hn;⟨o,es,ep,uD _ (uD _ e),r⟩
 have hget:((h.push {cls:=.type "tuple",data:=.seq rest.toArray}).push
   {cls:=.ref C,data:=.fields #[.ref h.objs.size,.none,.none,.none,.bool false,.none]}).get? (h.objs.size+1)=some
   {cls:=.ref C,data:=.fields #[.ref h.objs.size,.none,.none,.none,.bool false,.none]}:=by heap_get
 have hcC:(uO C :: bm).contains (.ref C)=true:=by simp
 have T₁:=T.keeps (h':=(h.push {cls:=.type "tuple",data:=.seq rest.toArray}).push {cls:=.ref C,data:=.fields #[.ref h.objs.size,.none,.none,.none,.bool false,.none]})
  fun b o e=>uD _ (uD _ e)
 unfold isInstance
 repeat (first|with_reducible refine bG hget ?_|(with_reducible refine wpAny_isSubtype_exc hC₁ ?_;rw [hcC]) |wp_step)
 show uS _ _ (fE (.ref C) _) _ _ _
 refine wpAny_typeLookup_tail hC₁ hn₁ T₁ F.mroIs F.init.lookup ?_
 rw [hni]
 refine wR (uA (hb.at ?_))
 refine uA (vD hq (fun v s' ⟨ev,q⟩=>?_) fun _ _ x=>x)
 subst ev
 wp_walk
 exact q
theorem qg6 (Fn:cA Bn newId inN bmN) (hBn:bmB.contains (.type Bn)=true) (F:cA B nid initId bmB) (T:OwnTail h bmB bm) {mN:Str->Option uC} {rest:List uC} {Q:uC->uE->Prop}
  (hC:h.get? C=some (bV nm q C N bs bm hdct sn sub ab col dd k0 k1 k2 k3 k5 newId)) (hn:h.Ns N mN) (hni:mN "__init__" =some (.ref fI))
  (hb:cW (uV prog w) (qd0 h C rest) (bindSpecial (.ref fI) (.ref (h.objs.size+1))) (.ref fI, [.ref (h.objs.size+1)]))
  (hq:uS (uV prog w) (A.under (.builtin "type.__call__" ⟨.ref C :: rest, []⟩)) (call (.ref fI) (.ref (h.objs.size+1) :: rest)) (fun v s'=>v=.none/\Q (.ref (h.objs.size+1)) s') E ⟨qd0 h C rest,g,d,t,os⟩) (hrest:rest.length<=sizeLine:=by size_fits):
  uS (uV prog w) A (call (.ref C) rest) Q E ⟨h,g,d,t,os⟩:=by
 have f1:=tc_lookup
 have f2:=tc_bind (.ref C)
 have hT:(⟨h,g,d,t,os⟩:uE).TypeIs (.ref C) "type":=⟨_,hC,rfl⟩
 refine bN (codeAny_of_tree ?_)
 show uS _ _ (callAny (.ref C) _) _ _ _
 repeat (any_goals (first|assumption|with_reducible refine bG hC ?_|wp_step))
 refine⟨rfl,?_⟩
 refine codeAny_call_builtin_at (fG _ (by decide+kernel)) entry_typeCall (wpAny_check_type_call_sub hC (qfb (hrest:=hrest) Fn hBn F T hC hn hni hb ?_))
 exact hq
theorem qfg {env:Env} {M:Model} {s:uE} {x:Sem uC} {Q:Flow->uE->Prop} (hbase:bm.contains (.type "BaseException")=true) (hh:A.handled=none)
  (h:uS M A x (fun v s₁=>∃e oe,v=.ref e/\s₁.heap.get? C=some (bV nm q C N bs bm hdct sn sub ab col dd k0 k1 k2 k3 k5 newId)/\
   s₁.heap.get? e=some oe/\oe.cls=.ref C/\(∃vs,oe.data=.fields vs/\vs[1]?=some .none)/\E (.ref e) s₁) E s):
  uS M A (raiseStmt env (some x) none) Q E s:=by
 have hcB:(uO C :: bm).contains (.type "BaseException")=true:=by rw [List.contains_cons,hbase,Bool.or_true]
 unfold raiseStmt
 refine uA (vD h (fun v s₁ h₁=>?_) fun _ _ x=>x)
 obtain⟨e,oe,rfl,hC,he,hcls,⟨vs,hd,h1⟩,hE⟩:=h₁
 obtain⟨hp,g,d,tk,os⟩:=s₁
 obtain⟨oc,odd,oda,osl⟩:=oe
 obtain rfl:oc=.ref C:=hcls
 obtain rfl:oda=.fields vs:=hd
 repeat (first|with_reducible refine bG he ?_|with_reducible refine bG hC ?_|(with_reducible refine wpAny_isSubtype_exc hC ?_;rw [hcB]) |wp_step)
 rw [h1]
 refine uG ?_
 rw [gK (by decide)]
 exact uG (wpAny_raiseNew_none hh hE)
theorem qf9 {env:Env} {s:uE} (Fn:cA Bn newId inN bmN) (hBn:bmB.contains (.type Bn)=true) (F:cA B nid initId bmB) {mN:Str->Option uC} {x:Str} {np cpos pos:Pos} {args:List vQ} {Q:Flow->uE->Prop}
  (hbase:bm.contains (.type "BaseException")=true) (hh:A.handled=none) (hplain:(wT cpos (uZ args env)).any (·.1)=false) (hni:mN "__init__" =some (.ref fI))
  (h:uS (uV prog w) A (wG (.Name x np) env) (fun f s₁=>f=.ref C/\uS (uV prog w) A (evalArgs (.ref C) true (wT cpos (uZ args env)) [])
   (fun a s₂=>a.kw=[]/\a.pos.length<=sizeLine/\s₂.heap.get? C=some (bV nm q C N bs bm hdct sn sub ab col dd k0 k1 k2 k3 k5 newId)/\s₂.heap.Ns N mN/\OwnTail s₂.heap bmB bm/\
    cW (uV prog w) (qd0 s₂.heap C a.pos) (bindSpecial (.ref fI) (.ref (s₂.heap.objs.size+1))) (.ref fI, [.ref (s₂.heap.objs.size+1)])/\
    uS (uV prog w) (A.under (.builtin "type.__call__" ⟨.ref C :: a.pos, []⟩)) (call (.ref fI) (.ref (s₂.heap.objs.size+1) :: a.pos))
     (fun v s'=>v=.none/\s'.heap.get? C=some (bV nm q C N bs bm hdct sn sub ab col dd k0 k1 k2 k3 k5 newId)/\(∃oe,s'.heap.get? (s₂.heap.objs.size+1)=some oe/\oe.cls=.ref C/\∃vs,oe.data=.fields vs/\vs[1]?=some .none)/\E (.ref (s₂.heap.objs.size+1)) s') E {s₂ with heap:=qd0 s₂.heap C a.pos}) E s₁) E s):
  uS (uV prog w) A (exec (.Raise (some (.Call (.Name x np) args [] cpos)) none pos) env) Q E s:=by
 rw [arm_exec_Raise]
 first
  |refine uA (xE (qfg (C:=C) (nm:=nm) (q:=q) (N:=N) (bs:=bs) (bm:=bm) (hdct:=hdct) (sn:=sn) (sub:=sub) (ab:=ab) (col:=col) (dd:=dd) (k0:=k0) (k1:=k1) (k2:=k2) (k3:=k3) (k5:=k5) (newId:=newId) hbase hh (uA (vD (wpAny_Call_ofName (vD h (fun f s₁ h₁=>?_) fun _ _ x=>x)) (fun v s₃ h₃=>uA (xE (uG h₃))) fun _ _ x=>x))))
  |(simp only [evalOpt,Option.map];refine uA (xE (qfg (C:=C) (nm:=nm) (q:=q) (N:=N) (bs:=bs) (bm:=bm) (hdct:=hdct) (sn:=sn) (sub:=sub) (ab:=ab) (col:=col) (dd:=dd) (k0:=k0) (k1:=k1) (k2:=k2) (k3:=k3) (k5:=k5) (newId:=newId) hbase hh (uA (vD (wpAny_Call_ofName (vD h (fun f s₁ h₁=>?_) fun _ _ x=>x)) (fun v s₃ h₃=>uA (xE (uG h₃))) fun _ _ x=>x)))))
 obtain⟨rfl,h₁⟩:=h₁
 unfold fR
 refine uA (wR (vD h₁ (fun a s₂ h₂=>uA (xE ?_)) fun _ _ x=>x))
 obtain⟨apos,akw⟩:=a
 obtain⟨hkw,hlen,hC,hn,T,hb,h₂⟩:=h₂
 obtain rfl:akw=[]:=hkw
 obtain⟨hp,g,d,tk,os⟩:=s₂
 simp only [hplain]
 refine uA (wpAny_keeperOf_exc hC ?_)
 refine uA (qg6 (hrest:=hlen) Fn hBn F T hC hn hni hb (vD h₂ (fun v s' ⟨e1,e2,⟨oe,e3,e4,e6⟩,e5⟩=>⟨e1,uA (wR (wpAny_point (uG ?_)))⟩) fun _ _ x=>x))
 exact⟨_,oe,rfl,e2,e3,e4,e6,e5⟩
end
def onlyVE:List uC->Bool
 | .ref _ :: r=>onlyVE r
 | [.type a,.type b,.type c,.type e]=>a== "ValueError" && b== "Exception" && c== "BaseException" && e== "object"
 |_=>false
def overVE (K:uR) (C:Addr):Bool:=(PySem.W.clsIn K C).any fun cd=>onlyVE cd.mro
section
variable {K: uR} {C: Addr}
open PySem.W in
open PySem.W in
open PySem.W in
open PySem.W in
structure XAt (K:uR) (C:Addr):Prop where
 ga:vS K (.ref C) "__getattribute__" =some (some (.builtin "BaseException.__getattribute__"))
 gn:vS K (.ref C) "__getattr__" =some none
 mb:mroIn K C (.type "BaseException")=some true
 mo:mroIn K C (.type "object")=some true
 hd:gD K C=true
 cl:vS K (.ref C) "__class__" =some (some (.builtin "object.__class__"))
 sp:eC K (.builtin "object.__class__") "__get__" =some (some (.builtin "getset_descriptor.__get__"))
 tk:PySem.W.takesIn K (.builtin "object.__class__")=some true
 sa:vS K (.ref C) "__setattr__" =some (some (.builtin "object.__setattr__"))
 po:overVE K C=true
open PySem.W in
open PySem.W in
end
def XS (a C:Addr) (d:Option Addr):HO:=.ext fun h=>∃(oe:Obj) (vs:Array uC),h.get? a=some oe/\oe.cls=.ref C/\oe.dict=d/\oe.data=.fields vs/\vs[1]?=some .none/\(∃t0:Addr,vs[0]?=some (.ref t0))/\∀dx,d=some dx->dx≠a
section
variable {H: Hp} {a C dx: Addr}
theorem xs_ok {P:uY} {w:vL} {H:Hp} {h:vP} {d:Option Addr} (x:∃(oe:Obj) (vs:Array uC),h.get? a=some oe/\oe.cls=.ref C/\oe.dict=d/\oe.data=.fields vs/\vs[1]?=some .none/\(∃t0:Addr,vs[0]?=some (.ref t0))/\∀dx,d=some dx->dx≠a):qbh P w H h a (XS a C d):=by
 obtain⟨oe,vs,h1,h2⟩:=id x
 exact⟨x,⟨oe,h1⟩,fun h1 h2 ⟨oe,vs,z,zz⟩ k=>⟨oe,vs,k _ z,zz⟩⟩
theorem xs_get {P:uY} {w:vL} {h:vP} {d:Option Addr} (x:HOk P w H h) (e:H a=some (XS a C d)):∃(oe:Obj) (vs:Array uC),h.get? a=some oe/\oe.cls=.ref C/\oe.dict=d/\oe.data=.fields vs/\vs[1]?=some .none/\(∃t0:Addr,vs[0]?=some (.ref t0))/\∀dx,d=some dx->dx≠a:=
 (show qbh P w H h a (XS a C d) from x a _ e).1
end
def del (H:Hp) (a:Addr):Hp:=fun b=>if b=a then none else H b
theorem qdg {H:Hp} {a:Addr}:del H a a=none:=by unfold del;rw [gL rfl]
theorem qdm {H:Hp} {a b:Addr} (h:b≠a):del H a b=H b:=by unfold del;rw [gK h]
section
variable {X: Cx} {pins: List (Addr × Obj)} {σ: L2.St} {H: Hp} {s: uE} {a: Addr} {φ: vP -> Prop}
theorem Inv.del (I:Inv X pins σ H s) (e:H a=some (.ext φ)):Inv X pins σ (My.del H a) s:=by
 have ne:∀b o,H b=some o->(∀φ,o≠ .ext φ)->b≠a:=fun b o q d z=>by rw [z,e] at q;cases q;exact d _ rfl
 refine⟨I.ok,I.os,I.bare,⟨I.base.keep,I.base.slot,fun b o q n hx=>?_,I.base.there,fun b xs q=>?_,fun b o u q=>?_,fun b ps q=>?_⟩,I.loc,I.cell,?_,fun x c q=>?_,fun p hp=>?_,fun b o q=>?_,I.len⟩
 .have z:=I.base.free b o q n hx
  by_cases hb:b=a
  .rw [hb];exact qdg
  .rw [qdm hb];exact z
 .have z:=I.base.tups b xs q
  rw [qdm (ne _ _ z (by intro φ y;cases y))];exact z
 .have z:=I.base.frzs b o u q
  rw [qdm (ne _ _ z (by intro φ y;cases y))];exact z
 .obtain⟨more,z⟩:=I.base.tbls b ps q
  exact⟨more,by rw [qdm (ne _ _ z (by intro φ y;cases y))];exact z⟩
 .by_cases hb:X.env.locals=a
  .rw [hb];exact qdg
  .rw [qdm hb];exact I.free
 .by_cases hb:c=a
  .rw [hb];exact qdg
  .rw [qdm hb];exact I.freeC x c q
 .obtain⟨z,n,l⟩:=I.pin p hp
  refine⟨z,?_,l⟩
  by_cases hb:p.1=a
  .rw [hb];exact qdg
  .rw [qdm hb];exact n
 .have hb:b≠a:=fun z=>by rw [z,qdg] at q;cases q
  rw [qdm hb] at q
  exact(I.hok b o q).stay (fun _ _ _ q=>q) (fun c q=>by rw [qdm (ne _ _ q (by intro φ y;cases y))];exact q) fun c xs q=>by rw [qdm (ne _ _ q (by intro φ y;cases y))];exact q
end
structure XClI (K:uR) (C f:Addr):Prop where
 ob:∃(nm q:Str) (N:Addr) (bs bm:List uC) (hdct:Bool) (sn:List Str) (sub:List uC) (ab:Bool) (col:Option Bool) (dd:Option Addr) (k0 k1 k2 k3 k5:Option uC) (mN:Str->Option uC),
  K.lookup C=some (bV nm q C N bs bm hdct sn sub ab col dd k0 k1 k2 k3 k5 "ValueError.__new__")/\(∀h:vP,K.In h->h.Ns N mN)/\mN "__init__" =some (.ref f)/\
  ∀h:vP,K.In h->OwnTail h [.type "ValueError",.type "Exception",.type "BaseException",.type "object"] bm
 fn:isFn K (.ref f)=true
section
variable {X: Cx} {k: Nat} {f: Addr} {fd: uM} {ps: List Str} {sp: Sp} {x: Str} {C: Addr} {W: L2.St -> XK} {np cpos pos: Pos} {e: vQ} {es: List vQ} {t: TA}
def tRaiseI (t:TA) (C:Addr) (sp:Sp) (W:L2.St->XK):TS:=fun _ σ H=>t σ H fun xs H1=>xs.length<=sizeLine/\∀a,H1 a=none->sp (.ref a :: xs) (upd H1 a (XS a C none)) (fun v H2=>v=.non/\∃d,H2 a=some (XS a C d)/\W σ (.ref C) d (My.del H2 a)) E0
theorem ps_raiseI (hc:X.calm=true) (M:XClI X.K C f) (F:FnOk X.prog X.w X.K X.mg X.base CX0 k f fd ps sp) (hr:Room (k+1) X.A) (hb:qao X.K fd ps []) (hg:Gl X x) (hm:X.mg x=some (.ref C)) (hx:Xes X W) (ha:PA X (e :: es) t) (hex:X.ex=[]:=by rfl) (hdb:(x==("__debug__" :Str))=false:=by decide)
  (he:uZ (e :: es) X.env=(false,wG e X.env) :: uZ es X.env:=by rfl) (hpl:(wT cpos (uZ es X.env)).any (·.1)=false:=by rfl):
  PS X (.Raise (some (.Call (.Name x np) (e :: es) [] cpos)) none pos) (tRaiseI t C sp W):=by
 intro pins s σ H D I h
 obtain⟨nm,q,N,bs,bm,hdct,sn,sub,ab,col,dd,k0,k1,k2,k3,k5,mN,hC,hN,hni,T⟩:=M.ob
 refine qf9 (C:=C) (fI:=f) (nm:=nm) (q:=q) (N:=N) (bs:=bs) (bm:=bm) (hdct:=hdct) (sn:=sn) (sub:=sub) (ab:=ab) (col:=col) (dd:=dd) (k0:=k0) (k1:=k1) (k2:=k2) (k3:=k3) (k5:=k5)
  aH (by decide) aH (mN:=mN) ((T _ I.kIn).hasType PySem.F.excBase_ValueError.hasBase) (I.ok.hd hc) ?_ hni ?_
 .rw [he];show (false ||(wT cpos (uZ es X.env)).any (·.1))=false;rw [hpl];rfl
 .refine qdq I hg hm ⟨rfl,?_⟩ hdb
  have z:=ha cpos pins s σ H _ I h
  rw [he] at z ⊢
  refine bU (vD z (fun us s2 ⟨vs,H2,I2,r,hl,q⟩=>?_) fun _ _ y=>y)
  have ea:(qd0 s2.heap C us).get? (s2.heap.objs.size+1)=some {cls:=.ref C,data:=.fields #[.ref s2.heap.objs.size,.none,.none,.none,.bool false,.none]}:=by
   have:=uP (s2.heap.push {cls:=.type "tuple",data:=.seq us.toArray}) (o:={cls:=.ref C,data:=.fields #[.ref s2.heap.objs.size,.none,.none,.none,.bool false,.none]}) rfl
   rwa [bE] at this
  have hn:H2 (s2.heap.objs.size+1)=none:=I2.hok.fresh (aE _)
  have I3:Inv X pins σ (upd H2 (s2.heap.objs.size+1) (XS (s2.heap.objs.size+1) C none)) {s2 with heap:=qd0 s2.heap C us}:=
   I2.laid (t':=s2.toks) (fun b o y=>uD _ (uD _ y)) (aE _) (xs_ok ⟨_,_,ea,rfl,rfl,rfl,rfl,⟨_,rfl⟩,fun dx y=>by cases y⟩)
  have q:=q _ hn
  refine⟨rfl,by rw [<-r.length];exact hl,I2.kIn _ _ hC,hN _ I2.kIn,T _ I2.kIn,PySem.W.bind_fn I3.kIn _ (beq_iff_eq.mp M.fn),?_⟩
  have r2:qba (V.ref (s2.heap.objs.size+1) :: vs) (uO (s2.heap.objs.size+1) :: us):=.cons rfl r
  have hln:(uO (s2.heap.objs.size+1) :: us++ []).length=ps.length:=by rw [yB,<-r2.length];exact F.len _ _ _ _ q
  have hb':=hb {s2 with heap:=qd0 s2.heap C us} (uO (s2.heap.objs.size+1) :: us) I3.kIn hln
  rw [yB] at hb'
  refine bN (xN (F.run _ X.stack _ _ ⟨uO (s2.heap.objs.size+1) :: us, []⟩ (uO (s2.heap.objs.size+1) :: us) _ _ E0 (hr.make C us []) (I3.env0.make C us []) hb' r2 q) fun r s' hq'=>?_)
  cases r with
  |error e=>exact vW hq'
  |ok fl=>
   cases fl with
   |ret u=>
    obtain⟨v,H',I4,rv,ev,d,e4,q4⟩:=I3.after hq'
    subst ev
    obtain⟨oe,ws,g1,g2,g3,g4,g5,g6,g7⟩:=xs_get I4.hok e4
    refine⟨rv,I4.kIn _ _ hC,⟨oe,g1,g2,ws,g4,g5⟩,?_⟩
    have new:s2.heap.get? (s2.heap.objs.size+1)=none:=aD (aE _)
    refine hx pins σ _ _ _ (.ref C) d (Inv.del I4 e4) ⟨⟨new_of I2 hex new,qdg,fun p hp y=>?_,⟨_,_,g1,g4⟩⟩,.inl ⟨_,_,g1,g2,g3,g4,g5⟩⟩ q4
    have w:=(I2.pin p hp).1
    rw [y,new] at w
    cases w
   |next=>exact vW hq'
   |brk=>exact vW hq'
   |cont=>exact vW hq'
end
section
variable {X: Cx}
inductive PJ (X:Cx):List vQ->List TE->Prop
 |nil:PJ X [] []
 |cons {e:vQ} {es:List vQ} {t:TE} {ts:List TE} (h:PE X e t) (r:PJ X es ts):PJ X (e :: es) (t :: ts)
end
structure XBase (K:uR) (T:Addr):Prop where
 ga:eC K (.ref T) "__getattribute__" =some (some (.builtin "type.__getattribute__"))
 rd:PySem.W.readsIn K T (.type "type")=true
 at_:PySem.W.findCls K (.ref T) (.type "type") "__init__" =some (.val (.builtin "ValueError.__init__"))
open PySem.MeetsSeq PySem.MeetsSeq2 PySem.MeetsSeq3 PySem.SeqRoads2
def EqW (P:uY) (w:vL) (A:vM) (s:uE) (y x:uC) (b:Bool):Prop:=∀(E:uC->uE->Prop) (Q:Bool->uE->Prop),Q b s->uS (uV P w) A (eqBool y x) Q E s
def opN:Bool->CmpOp
 |false=> .Eq
 |true=> .NotEq
def RcW (P:uY) (w:vL) (A:vM) (s:uE) (ne:Bool) (y x:uC) (b:Bool):Prop:=∀(E:uC->uE->Prop) (Q:uC->uE->Prop),Q (.bool b) s->uS (uV P w) A (richCompare (opN ne) y x) Q E s
def codeN:Bool->Int
 |false=>2
 |true=>3
abbrev lo (dd:Option Addr) (xs:Array uC) (n:Nat) (sl:Array (Option uC)):Obj:={cls:=.type "list",dict:=dd,data:=.seq xs n,slots:=sl}
abbrev tob (dd:Option Addr) (xs:Array uC) (n:Nat) (sl:Array (Option uC)):Obj:={cls:=.type "tuple",dict:=dd,data:=.seq xs n,slots:=sl}
section
variable {P: uY} {w: vL} {A: vM} {s: uE} {l b: Addr} {k: Bool}
theorem EqW.of {y x:uC} (h:dE A s y x k):EqW P w A s y x k:=fun E Q q=>h P w E Q q
theorem EqW.refs (hn:l≠b) (h:RcW P w A s false (.ref l) (.ref b) k):EqW P w A s (.ref l) (.ref b) k:=fun E Q q=>by
 unfold eqBool
 refine wR (wpAny_ite_split (fun z=>?_) fun _=>uA (h E _ (wI q)))
 have z':=eq_of_beq z
 injection z' with z'
 exact absurd z' hn
abbrev Fin1 (P:uY) (w:vL) (A:vM) (R:Result->uE->Prop):PySem.Fin->uE->Prop:=fun f s'=>match f with| .done r=>R (.ok r) s'| .again c=>c.quiet=true/\bD (uV P w) A c R s'
theorem loopW (ne:Bool) {xs ys:Array uC} {n m:Nat} {d1 d2:Option Addr} {s1 s2:Array (Option uC)} (hz:xs.size=ys.size) (f:Nat->Bool) (r:Nat):∀(i:Nat),xs.size - i=r->∀(A:vM) (R:Result->uE->Prop) (s:uE),s.heap.get? l=some (lo d1 xs n s1)->s.heap.get? b=some (lo d2 ys m s2)->
  (∀j (h1:j < xs.size) (h2:j < ys.size),EqW P w A.in1 s xs[j] ys[j] (f j))->R (.ok (.ret (.bool (ne !=((vC xs.size).drop i).all f)))) s->
  uS (uV P w) A.in1 (xQ.«list.__eq__.loop» ⟨[.ref l,.ref b,xD i,xD (codeN ne)], []⟩) (Fin1 P w A R) (fun e s'=>R (.error e) s') s:=by
 induction r with
 |zero=>
  intro i hr A R s hl hb he q
  obtain⟨hp,g,d,tk,os⟩:=s
  have t1:xs[((i:Nat):Int).toNat]?=none:=by simp;omega
  have t2:ys[((i:Nat):Int).toNat]?=none:=by simp;omega
  have t3:(vC xs.size).drop i=[]:=by simp;omega
  rw [t3] at q
  cases ne with
  |false=>
   wp_walk using uQ hl,uQ hb
   rw [t1,t2]
   wp_walk using uQ hl,uQ hb
   show R (.ok (.ret (.bool (xs.size==ys.size)))) _
   rw [hz]
   simpa using q
  |true=>
   wp_walk using uQ hl,uQ hb
   rw [t1,t2]
   wp_walk using uQ hl,uQ hb
   show R (.ok (.ret (.bool (xs.size !=ys.size)))) _
   rw [hz]
   simpa using q
 |succ r ih=>
  intro i hr A R s hl hb he q
  obtain⟨hp,g,d,tk,os⟩:=s
  have j1:i < xs.size:=by omega
  have j2:i < ys.size:=by omega
  have t1:xs[((i:Nat):Int).toNat]?=some xs[i]:=by simp [j1]
  have t2:ys[((i:Nat):Int).toNat]?=some ys[i]:=by simp [j2]
  have t3:(vC xs.size).drop i=i ::(vC xs.size).drop (i+1):=by simp [wY,j1]
  have t4:((i:Int)+1)=((i+1:Nat):Int):=by push_cast;rfl
  rw [t3,yX] at q
  cases ne with
  |false=>
   wp_walk using uQ hl,uQ hb
   rw [t1,t2]
   refine uA (he i j1 j2 _ _ ?_)
   cases hf:f i with
   |true=>
    rw [hf] at q
    wp_walk
    rw [t4]
    refine⟨bQ xY _,xV eW ?_⟩
    rw [xC xY _]
    exact ih (i+1) (by omega) A R _ hl hb he (by simpa using q)
   |false=>
    rw [hf] at q
    wp_walk using uQ hl,uQ hb
    rw [t1,t2]
    wp_walk
    simpa using q
  |true=>
   wp_walk using uQ hl,uQ hb
   rw [t1,t2]
   refine uA (he i j1 j2 _ _ ?_)
   cases hf:f i with
   |true=>
    rw [hf] at q
    wp_walk
    rw [t4]
    refine⟨bQ xY _,xV eW ?_⟩
    rw [xC xY _]
    exact ih (i+1) (by omega) A R _ hl hb he (by simpa using q)
   |false=>
    rw [hf] at q
    wp_walk using uQ hl,uQ hb
    rw [t1,t2]
    wp_walk
    simpa using q
theorem listW (ne:Bool) {xs ys:Array uC} {n m:Nat} {d1 d2:Option Addr} {s1 s2:Array (Option uC)} (hz:xs.size=ys.size) (f:Nat->Bool) {R:Result->uE->Prop} (hl:s.heap.get? l=some (lo d1 xs n s1)) (hb:s.heap.get? b=some (lo d2 ys m s2))
  (he:∀j (h1:j < xs.size) (h2:j < ys.size),EqW P w A.in1 s xs[j] ys[j] (f j)) (q:R (.ok (.ret (.bool (ne !=(vC xs.size).all f)))) s):
  uS (uV P w) A.in1 ((if ne=true then xQ.«list.__ne__» else xQ.«list.__eq__») ⟨[.ref l,.ref b], []⟩) (Fin1 P w A R) (fun e s'=>R (.error e) s') s:=by
 obtain⟨hp,g,d,tk,os⟩:=s
 have f3:=AutoSeq1.sub_list_list
 have z0:¬(xs.size !=ys.size)=true:=by simp [hz]
 cases ne with
 |false=>
  show uS _ _ (xQ.«list.__eq__» _) _ _ _
  wp_walk using uQ hl,uQ hb
  refine⟨bQ xY _,xV eW ?_⟩
  rw [xC xY _]
  exact loopW false hz f _ 0 rfl A R _ hl hb he (by simpa using q)
 |true=>
  show uS _ _ (xQ.«list.__ne__» _) _ _ _
  wp_walk using uQ hl,uQ hb
  refine⟨bQ xY _,xV eW ?_⟩
  rw [xC xY _]
  exact loopW true hz f _ 0 rfl A R _ hl hb he (by simpa using q)
theorem callW {T id:String} {name:Str} {B:xQ} {self:uC} {rest:List uC} {E Q:uC->uE->Prop} (slot:Slot T name id) (hT:s.TypeIs self T) (entry:entryFor table id=some B) (args:argsOk id ⟨self :: rest, []⟩)
  (h:uS (uV P w) A.in1 (B ⟨self :: rest, []⟩) (Fin1 P w A (wants Q E)) (fun e s'=>wants Q E (.error e) s') s):uS (uV P w) A (call (.builtin id) (self :: rest)) Q E s:=
 bN (codeAny_call_builtin slot.plain entry (slot.check _ _ _ _ _ _ _ _ hT args h))
theorem RcW.lists (ne:Bool) {xs ys:Array uC} {f:Nat->Bool} (hl:s.heap.IsList l xs) (hb:s.heap.IsList b ys) (hz:xs.size=ys.size) (hu:A.units < cLine) (he:∀j (h1:j < xs.size) (h2:j < ys.size),EqW P w A.in1 s xs[j] ys[j] (f j)):
  RcW P w A s ne (.ref l) (.ref b) (ne !=(vC xs.size).all f):=fun E Q q=>by
 obtain⟨⟨c1,d1,e1,s1⟩,ho,hc,n,hd⟩:=id hl
 obtain⟨⟨c2,d2,e2,s2⟩,ho2,hc2,m,hd2⟩:=id hb
 simp only at hc hd hc2 hd2
 subst hc hd hc2 hd2
 have q':fA (ne !=(vC xs.size).all f)≠Value.notImplemented/\Q (.bool (ne !=(vC xs.size).all f)) s:=⟨(fun x=>nomatch x),q⟩
 cases ne with
 |false=>exact aA (op:=.Eq) ⟨_,ho,rfl⟩ ⟨_,ho2,rfl⟩ F.slot_list_eq (callW F.slot_list_eq ⟨_,ho,rfl⟩ F.entry_list_eq (F.args_list_eq_2 _ _) (listW (R:=wants (fun v s'=>v≠ .notImplemented/\Q v s') E) false hz f ho ho2 he q')) hu
 |true=>exact aA (op:=.NotEq) ⟨_,ho,rfl⟩ ⟨_,ho2,rfl⟩ F.slot_list_ne (callW F.slot_list_ne ⟨_,ho,rfl⟩ F.entry_list_ne (F.args_list_ne_2 _ _) (listW (R:=wants (fun v s'=>v≠ .notImplemented/\Q v s') E) true hz f ho ho2 he q')) hu
theorem RcW.listsN (ne:Bool) {xs ys:Array uC} (hl:s.heap.IsList l xs) (hb:s.heap.IsList b ys) (hz:(xs.size !=ys.size)=true) (hu:A.units < cLine):RcW P w A s ne (.ref l) (.ref b) (ne !=false):=fun E Q q=>by
 cases ne with
 |false=>exact SeqAt.RcAt.lists_lengths hl hb hz hu P w E Q q
 |true=>exact SeqAt.RcNeAt.lists_lengths hl hb hz hu P w E Q q
theorem tupW (ne:Bool) {xs ys:Array uC} {n m:Nat} {d1 d2:Option Addr} {s1 s2:Array (Option uC)} (f:Nat->Bool) {E Q:uC->uE->Prop} (hl:s.heap.get? l=some (tob d1 xs n s1)) (hb:s.heap.get? b=some (tob d2 ys m s2))
  (he:∀j (h1:j < xs.size) (h2:j < ys.size),EqW P w A.in1 s xs[j] ys[j] (f j)) (q:Q (.bool (ne !=((vC (min xs.size ys.size)).all f && xs.size==ys.size))) s):
  uS (uV P w) A.in1 ((if ne=true then xQ.«tuple.__ne__» else xQ.«tuple.__eq__») ⟨[.ref l,.ref b], []⟩) (fun fin s'=>∃v,fin=.done (.ret v)/\Q v s') E s:=by
 obtain⟨hp,g,d,tk,os⟩:=s
 have f2:=AutoSeq1.sub_tuple_tuple
 have hZ:(xs.toList.zip ys.toList).length=min xs.size ys.size:=by simp
 have turn:∀(x y:uC) (rest:List (uC × uC)) (i:Nat),(x,y) :: rest=(xs.toList.zip ys.toList).drop i->∃(h1:i < xs.size) (h2:i < ys.size),x=xs[i]/\y=ys[i]/\rest=(xs.toList.zip ys.toList).drop (i+1)/\(vC (min xs.size ys.size)).drop i=i ::(vC (min xs.size ys.size)).drop (i+1):=fun x y rest i hz=>by
  have hlt:i <(xs.toList.zip ys.toList).length:=by
   rcases bH i (xs.toList.zip ys.toList).length with z|z
   .exact z
   .rw [List.drop_of_length_le z] at hz;cases hz
  have hm:i < min xs.size ys.size:=hZ ▸ hlt
  have h1:i < xs.size:=vI hm (Nat.min_le_left _ _)
  have h2:i < ys.size:=vI hm (Nat.min_le_right _ _)
  rw [wY hlt] at hz
  injection hz with hxy hrest
  exact⟨h1,h2,by have:=congrArg Prod.fst hxy;simpa using this,by have:=congrArg Prod.snd hxy;simpa using this,hrest,by simp [wY,hm]⟩
 have last:∀i:Nat, []=(xs.toList.zip ys.toList).drop i->(vC (min xs.size ys.size)).drop i=[]:=fun i hz=>by
  have hge:min xs.size ys.size<=i:=by
   rcases bH i (xs.toList.zip ys.toList).length with z|z
   .rw [wY z] at hz;cases hz
   .exact hZ ▸ z
  exact List.drop_of_length_le (by simpa using hge)
 cases ne with
 |false=>
  show uS _ _ (xQ.«tuple.__eq__» _) _ _ _
  wp_walk using uQ hl,uQ hb,wpAny_forIn_list _ (fun rest c s'=>c.1=none/\s'=⟨hp,g,d,tk,os⟩/\∃i,rest=(xs.toList.zip ys.toList).drop i/\Q (.bool (((vC (min xs.size ys.size)).drop i).all f && xs.size==ys.size)) ⟨hp,g,d,tk,os⟩) _
  case turn=>
   rintro⟨x,y⟩ rest c s' ⟨hc,rfl,i,hz,hR⟩
   obtain⟨h1,h2,rfl,rfl,hrest,hd⟩:=turn x y rest i hz
   rw [hd,yX] at hR
   refine uA (he i h1 h2 _ _ ?_)
   cases hf:f i with
   |true=>
    rw [hf] at hR
    wp_walk
    exact⟨rfl,rfl,i+1,hrest,by simpa using hR⟩
   |false=>
    rw [hf] at hR
    wp_walk
    exact⟨_,rfl,by simpa using hR⟩
  case fin=>
   rintro⟨c1,c2⟩ s' ⟨hc,rfl,i,hz,hR⟩
   simp only at hc
   subst hc
   rw [last i hz] at hR
   wp_walk
   exact⟨_,rfl,by simpa [gB] using hR⟩
  case h=>exact⟨rfl,rfl,0,rfl,by simpa using q⟩
 |true=>
  show uS _ _ (xQ.«tuple.__ne__» _) _ _ _
  wp_walk using uQ hl,uQ hb,wpAny_forIn_list _ (fun rest c s'=>c.1=none/\s'=⟨hp,g,d,tk,os⟩/\∃i,rest=(xs.toList.zip ys.toList).drop i/\Q (.bool (!(((vC (min xs.size ys.size)).drop i).all f && xs.size==ys.size))) ⟨hp,g,d,tk,os⟩) _
  case turn=>
   rintro⟨x,y⟩ rest c s' ⟨hc,rfl,i,hz,hR⟩
   obtain⟨h1,h2,rfl,rfl,hrest,hd⟩:=turn x y rest i hz
   rw [hd,yX] at hR
   refine uA (he i h1 h2 _ _ ?_)
   cases hf:f i with
   |true=>
    rw [hf] at hR
    wp_walk
    exact⟨rfl,rfl,i+1,hrest,by simpa using hR⟩
   |false=>
    rw [hf] at hR
    wp_walk
    exact⟨_,rfl,by simpa using hR⟩
  case fin=>
   rintro⟨c1,c2⟩ s' ⟨hc,rfl,i,hz,hR⟩
   simp only at hc
   subst hc
   rw [last i hz] at hR
   wp_walk
   exact⟨_,rfl,by simpa [gB,bne] using hR⟩
  case h=>exact⟨rfl,rfl,0,rfl,by simpa using q⟩
theorem RcW.tuples (ne:Bool) {xs ys:Array uC} {f:Nat->Bool} (hl:s.heap.IsTuple l xs) (hb:s.heap.IsTuple b ys) (hu:A.units < cLine) (he:∀j (h1:j < xs.size) (h2:j < ys.size),EqW P w A.in1 s xs[j] ys[j] (f j)):
  RcW P w A s ne (.ref l) (.ref b) (ne !=((vC (min xs.size ys.size)).all f && xs.size==ys.size)):=fun E Q q=>by
 obtain⟨⟨c1,d1,e1,s1⟩,ho,hc,n,hd⟩:=id hl
 obtain⟨⟨c2,d2,e2,s2⟩,ho2,hc2,m,hd2⟩:=id hb
 simp only at hc hd hc2 hd2
 subst hc hd hc2 hd2
 cases ne with
 |false=>exact aA (op:=.Eq) ⟨_,ho,rfl⟩ ⟨_,ho2,rfl⟩ F.slot_tuple_eq (wK F.slot_tuple_eq ⟨_,ho,rfl⟩ F.entry_tuple_eq (tupW (Q:=fun v s'=>v≠ .notImplemented/\Q v s') false f ho ho2 he ⟨(fun x=>nomatch x),q⟩) (F.args_tuple_eq_2 _ _)) hu
 |true=>exact aA (op:=.NotEq) ⟨_,ho,rfl⟩ ⟨_,ho2,rfl⟩ F.slot_tuple_ne (wK F.slot_tuple_ne ⟨_,ho,rfl⟩ F.entry_tuple_ne (tupW (Q:=fun v s'=>v≠ .notImplemented/\Q v s') true f ho ho2 he ⟨(fun x=>nomatch x),q⟩) (F.args_tuple_ne_2 _ _)) hu
end
end My
namespace My
open PySem PySem.Spec PyProof.Rows L2
inductive DEq (K:uR) (H:Hp):Nat->V->V->Bool->Prop
 |same {n:Nat} {a:Addr}:DEq K H n (.ref a) (.ref a) true
 |flat {n:Nat} {x y:V} (hx:qcs x=true) (hy:qcs y=true):DEq K H n x y (eqV x y)
 |ls {n:Nat} {a b:Addr} {xs ys:List V} {e:Nat->Bool} (ha:SqL K H a xs) (hb:SqL K H b ys) (ne:a≠b) (hl:xs.length=ys.length)
   (he:∀j (h1:j < xs.length) (h2:j < ys.length),DEq K H n xs[j] ys[j] (e j)):DEq K H (n+1) (.ref a) (.ref b) ((vC xs.length).all e)
 |lsN {n:Nat} {a b:Addr} {xs ys:List V} (ha:SqL K H a xs) (hb:SqL K H b ys) (ne:a≠b) (hl:xs.length≠ys.length):DEq K H (n+1) (.ref a) (.ref b) false
 |ts {n:Nat} {a b:Addr} {xs ys:List V} {e:Nat->Bool} (ha:SqT K H a xs) (hb:SqT K H b ys) (ne:a≠b)
   (he:∀j (h1:j < xs.length) (h2:j < ys.length),DEq K H n xs[j] ys[j] (e j)):DEq K H (n+1) (.ref a) (.ref b) ((vC (min xs.length ys.length)).all e && xs.length==ys.length)
 |dd {n:Nat} {a b:Addr} {ka kb:List (Key × V)} (ha:Rd H a (.dK ka)) (hb:Rd H b (.dK kb)) (ne:a≠b) (fa:∀p∈ka,qcs p.2=true) (fb:∀p∈kb,qcs p.2=true):
   DEq K H (n+1) (.ref a) (.ref b) (ka.length==kb.length && ka.all fun p=>(qcf kb p.1).elim false (eqV p.2))
theorem qcx {xs:List V} {us:List uC} (r:qba xs us) {j:Nat} (h1:j < xs.length) (h2:j < us.length):qbb xs[j] us[j]:=by
 obtain⟨u,e,ru⟩:=r.get (zA h1)
 rw [zA h2] at e
 cases e
 exact ru
theorem valV_mem {kvs:List (Key × V)} {k:Key} {v:V} (h:qcf kvs k=some v):(k,v)∈kvs:=by
 unfold qcf at h
 obtain⟨p,hp,rfl⟩:=uU.mp h
 have e:=List.find?_some hp
 have e':p.1=k:=of_decide_eq_true e
 subst e'
 exact List.mem_of_find?_eq_some hp
theorem hits_of {A:vM} {s:uE} {kb:List (Key × V)} {vb:List (Key × uC)} (rb:KV kb vb) (fb:∀p∈kb,qcs p.2=true) {ka:List (Key × V)} {va:List (Key × uC)} (ra:KV ka va) (fa:∀p∈ka,qcs p.2=true):
  PySem.W.KeqHits A s vb va (ka.all fun p=>(qcf kb p.1).elim false (eqV p.2)):=by
 induction ra with
 |nil=>exact .nil
 | @cons p q l1 l2 h t ih=>
  obtain⟨k,v⟩:=p
  obtain⟨k',u⟩:=q
  obtain⟨e,ru⟩:=h
  dsimp only at e ru
  subst e
  have z:=rb.val k
  rw [yX]
  have ih':=ih fun p hp=>fa p (zH _ hp)
  cases hv:qcf kb k with
  |none=>
   rw [hv] at z
   have hn:dH vb k=none:=qg9.none_of z
   exact .miss hn
  |some y=>
   rw [hv] at z
   cases hu:dH vb k with
   |none=>rw [hu] at z;exact z.elim
   |some yu=>
    rw [hu] at z
    exact .hit hu (eqAt_V ru z (fa _ (zN ..)) (fb _ (valV_mem hv))) ih'
section
variable {X: Cx} {pins: List (Addr × Obj)} {σ: L2.St} {H: Hp} {s: uE}
theorem PlainL.isList {h:vP} {a:Addr} {its:Array uC} (p:PlainL h a its):h.IsList a its:=by
 obtain⟨o,n,e,c,d,t⟩:=p
 exact⟨o,e,c,n,t⟩
theorem deq_ok (I:Inv X pins σ H s) {n:Nat} {x y:V} {k:Bool} (q:DEq X.K H n x y k):∀(A:vM) (u v:uC),qbb x u->qbb y v->A.units+n < cLine->
  EqW X.prog X.w A s u v k/\∀a b,x=.ref a->y=.ref b->a≠b->∀ne:Bool,RcW X.prog X.w A s ne (.ref a) (.ref b) (ne !=k):=by
 have both:∀{A:vM} {a b:Addr} {k:Bool},a≠b->(∀ne:Bool,RcW X.prog X.w A s ne (.ref a) (.ref b) (ne !=k))->
   EqW X.prog X.w A s (.ref a) (.ref b) k/\∀a' b',V.ref a=.ref a'->V.ref b=.ref b'->a'≠b'->∀ne:Bool,RcW X.prog X.w A s ne (.ref a') (.ref b') (ne !=k):=fun {A a b k} ne R=>
  ⟨EqW.refs ne (by have z:=R false;simpa using z),fun a' b' e1 e2 _=>by cases e1;cases e2;exact R⟩
 induction q with
 | @same n a=>
  intro A u v ru rv hu
  obtain rfl:u=uO a:=ru
  obtain rfl:v=uO a:=rv
  exact⟨EqW.of (SeqAt.EqAt.same _),fun a' b' e1 e2 ne=>by cases e1;cases e2;exact absurd rfl ne⟩
 |flat hx hy=>
  intro A u v ru rv hu
  exact⟨EqW.of (eqAt_V ru rv hx hy),fun a b e _ _=>by subst e;cases hx⟩
 | @ls n a b xs ys e ha hb ne hl he ih=>
  intro A u v ru rv hu
  obtain rfl:u=uO a:=ru
  obtain rfl:v=uO b:=rv
  obtain⟨its,r1,p1,_⟩:=I.list ha
  obtain⟨its2,r2,p2,_⟩:=I.list hb
  have l1:=r1.length
  have l2:=r2.length
  refine both ne fun nb=>?_
  have z:=RcW.lists (P:=X.prog) (w:=X.w) (A:=A) (s:=s) nb (f:=e) (PlainL.isList p1) (PlainL.isList p2) (by rw [zI,zI];omega) (by omega) fun j h1 h2=>by
   have k1:j < its.length:=by simpa using h1
   have k2:j < its2.length:=by simpa using h2
   have w:=(ih j (by omega) (by omega) A.in1 its[j] its2[j] (qcx r1 (by omega) k1) (qcx r2 (by omega) k2) (by show A.units+1+n < cLine;omega)).1
   simpa using w
  rw [zI,<-l1] at z
  exact z
 | @lsN n a b xs ys ha hb ne hl=>
  intro A u v ru rv hu
  obtain rfl:u=uO a:=ru
  obtain rfl:v=uO b:=rv
  obtain⟨its,r1,p1,_⟩:=I.list ha
  obtain⟨its2,r2,p2,_⟩:=I.list hb
  have l1:=r1.length
  have l2:=r2.length
  exact both ne fun nb=>RcW.listsN nb (PlainL.isList p1) (PlainL.isList p2) (by rw [zI,zI];simp;omega) (by omega)
 | @ts n a b xs ys e ha hb ne he ih=>
  intro A u v ru rv hu
  obtain rfl:u=uO a:=ru
  obtain rfl:v=uO b:=rv
  obtain⟨its,r1,p1,_⟩:=I.tuple ha
  obtain⟨its2,r2,p2,_⟩:=I.tuple hb
  have l1:=r1.length
  have l2:=r2.length
  refine both ne fun nb=>?_
  have z:=RcW.tuples (P:=X.prog) (w:=X.w) (A:=A) (s:=s) nb (f:=e) p1 p2 (by omega) fun j h1 h2=>by
   have k1:j < its.length:=by simpa using h1
   have k2:j < its2.length:=by simpa using h2
   have w:=(ih j (by omega) (by omega) A.in1 its[j] its2[j] (qcx r1 (by omega) k1) (qcx r2 (by omega) k2) (by show A.units+1+n < cLine;omega)).1
   simpa using w
  rw [zI,zI,<-l1,<-l2] at z
  exact z
 | @dd n a b ka kb ha hb ne fa fb=>
  intro A u v ru rv hu
  obtain rfl:u=uO a:=ru
  obtain rfl:v=uO b:=rv
  obtain⟨_,ga,va,ra,da⟩:=qfe I.hok ha
  obtain⟨_,gb,vb,rb,db⟩:=qfe I.hok hb
  have l1:=ra.length
  have l2:=rb.length
  refine both ne fun nb E Q q=>?_
  have hits:=hits_of (A:=A.in1) (s:=s) rb fb ra fa
  rw [l1,l2] at q
  cases nb with
  |false=>exact PySem.W.keq_eq ga gb da db (by omega) (fun _=>hits) (by simpa using q)
  |true=>exact PySem.W.keq_ne ga gb da db (by omega) (fun _=>hits) (by simpa using q)
def rEqD (K:uR):R2:=fun x y H Q=>∃a b n k,x=.ref a/\y=.ref b/\a≠b/\n<=8/\DEq K H n (.ref a) (.ref b) k/\Q (.bl k) H
theorem op_eqD (hu:X.A.units+8 < cLine):OpR X (wC .Eq) (rEqD X.K):=by
 intro pins s σ H x y v u Q I rx ry h
 obtain⟨a,b,n,k,rfl,rfl,ne,hn,q,z⟩:=h
 cases rx
 cases ry
 have r:=(deq_ok I q X.A _ _ rfl rfl (by omega)).2 a b rfl rfl ne false X.xe (EP X pins σ Q)
 rw [Bool.false_bne] at r
 exact r ⟨.bl k,H,I,rfl,z⟩
end
section
variable {X: Cx}
def rListOf (K:uR):List V->Hp->VK->Prop:=fun xs H Q=>∃p ys,xs=[.ref p]/\(SqL K H p ys\/SqT K H p ys)/\∀l,H l=none->Q (.ref l) (upd H l (.lst ys))
theorem qeb:qc7 X (.type "list") (rListOf X.K):=call_list_of
end
section
variable {K: uR} {σ: L2.St} {H: Hp} {Q: VK} {p l b: Addr} {ys xs zs: List V} {to: TE} {t: TA} {T: String} {r: V -> List V -> Hp -> VK -> Prop} {x v: V}
theorem qfr (h:SqL K H p ys) (q:∀l,H l=none->Q (.ref l) (upd H l (.lst ys))):rListOf K [.ref p] H Q:=⟨p,ys,rfl,.inl h,q⟩
theorem r_bm (h:to σ H fun x H1=>tyV K T x H1/\t σ H1 fun xs H2=>r x xs H2 Q):tBM K T r to t σ H Q:=h
theorem r_bm0 (h:to σ H fun x H1=>tyV K T x H1/\r x [] H1 Q):tBM0 K T r to σ H Q:=h
theorem r_tyL {P:Prop} (h:SqL K H p ys) (q:P):tyV K "list" (.ref p) H/\P:=⟨.inl ⟨rfl,_,h⟩,q⟩
theorem r_append (h:H l=some (.lst xs)) (hz:xs.length < sizeLine) (q:Q .non (upd H l (.lst (xs++ [v])))):rAppend (.ref l) [v] H Q:=⟨l,xs,v,rfl,rfl,h,hz,q⟩
theorem r_cat (h:H l=some (.lst xs)) (h':H b=some (.lst zs)) (hz:xs.length+zs.length<=sizeLine) (q:∀p,H p=none->Q (.ref p) (upd H p (.lst (xs++zs)))):rCat (.ref l) (.ref b) H Q:=⟨l,b,xs,zs,rfl,rfl,h,h',hz,q⟩
end
def initIn (K:uR) (C f:Addr):Bool:=match K.lookup C with
 |some ⟨.type "type",_,.cls cd,sl⟩=>(match cd.mro,sl.toList with
  | .ref C' :: bm, [_,_,_,_,some (.builtin n),_]=>C'==C && n== "ValueError.__new__" && !cd.hasDel && PySem.W.tailIn K [.type "ValueError",.type "Exception",.type "BaseException",.type "object"] bm && PySem.W.nsOkIn K cd.ns && xG K cd.ns "__init__" ==some (some (.ref f))
  |_,_=>false)
 |_=>false
theorem xcli_of {K:uR} {C f:Addr} (q:initIn K C f=true) (hf:isFn K (.ref f)=true):XClI K C f:=by
 refine⟨?_,hf⟩
 unfold initIn at q
 split at q
 .rename_i dd cd sl ho
  split at q
  .rename_i C' bm k0 k1 k2 k3 n k5 hm hs
   simp only [vU,beq_iff_eq,cM] at q
   obtain⟨⟨⟨⟨⟨rfl,rfl⟩,hdel⟩,ht⟩,hok⟩,hni⟩:=q
   obtain⟨nm,bs,mro,ns,qn,hd,sn,sub,ab,col,del⟩:=cd
   dsimp only at hm hdel hok hni
   subst hm hdel
   have hsl:sl= #[k0,k1,k2,k3,some (.builtin "ValueError.__new__"),k5]:=by
    obtain⟨l⟩:=sl
    simp only at hs
    rw [hs]
   subst hsl
   unfold PySem.W.nsOkIn at hok
   split at hok
   .rename_i c1 d1 es ep sl1 hN
    have hSK:StrKeys es:=fun e he=>by
     have z:=fW.mp hok e he
     split at z
     .rename_i n t q;exact⟨n,t,q⟩
     .cases z
    have hNs:∀h:vP,K.In h->h.Ns ns (fun x=>fB es x):=fun h X=>⟨_,es,ep,X _ _ hN,rfl,hSK,fun _=>rfl⟩
    refine⟨nm,qn,ns,bs,bm,hd,sn,sub,ab,col,dd,k0,k1,k2,k3,k5,fun x=>fB es x,ho,hNs,?_,fun h X=>PySem.W.tail_of_in X ht⟩
    unfold xG at hni
    rw [hN] at hni
    dsimp only at hni
    split at hni
    .rename_i hf
     show fB es "__init__" =some (.ref f)
     unfold fB findBy
     rw [<-fD,hf]
     exact congrArg some (uW (uW hni))
    .first|(split at hni <;> cases hni) |simp at hni
   .cases hok
  .cases q
 .cases q
structure RoomH (k:Nat) (A:vM):Prop where
 dp:A.depth+3*k+5 < recursionLimit
 un:A.units+16*k+200 < cLine
structure FnOkH (P:uY) (w:vL) (K:uR) (mg:Str->Option uC) (base:vP) (k:Nat) (f:Addr) (fd:uM) (ps:List Str) (sp:Sp):Prop where
 len:∀vs H Q E,sp vs H Q E->vs.length=ps.length
 run:∀(a:Addr) (A:vM) (outer:List Env) (s:uE) (H:Hp) (args:Args) (us:List uC) (vs:List V) (Q:VK) (E:XK),RoomH k A->A.handled=some (.ref a)->Env0 P w K mg base A outer s H->eI s fd args (ps.zip us)->qba vs us->sp vs H Q E->
  bD (uV P w) A (.call (.ref f) args) (CR CX0 outer P w H s Q E) s
section
variable {X: Cx}
def rNeD (K:uR):R2:=fun x y H Q=>∃a b n k,x=.ref a/\y=.ref b/\a≠b/\n<=8/\DEq K H n (.ref a) (.ref b) k/\Q (.bl (!k)) H
theorem op_neD (hu:X.A.units+8 < cLine):OpR X (wC .NotEq) (rNeD X.K):=by
 intro pins s σ H x y v u Q I rx ry h
 obtain⟨a,b,n,k,rfl,rfl,ne,hn,q,z⟩:=h
 cases rx
 cases ry
 have r:=(deq_ok I q X.A _ _ rfl rfl (by omega)).2 a b rfl rfl ne true X.xe (EP X pins σ Q)
 rw [Bool.true_bne] at r
 exact r ⟨.bl (!k),H,I,rfl,z⟩
end
section
variable {K: uR} {H: Hp} {Q: VK} {a b: Addr} {n: Nat} {k: Bool}
theorem r_eqD (ne:a≠b) (hn:n<=8) (q:DEq K H n (.ref a) (.ref b) k) (h:Q (.bl k) H):rEqD K (.ref a) (.ref b) H Q:=⟨a,b,n,k,rfl,rfl,ne,hn,q,h⟩
theorem r_neD (ne:a≠b) (hn:n<=8) (q:DEq K H n (.ref a) (.ref b) k) (h:Q (.bl (!k)) H):rNeD K (.ref a) (.ref b) H Q:=⟨a,b,n,k,rfl,rfl,ne,hn,q,h⟩
end
theorem hu8 {k:Nat} {A:vM} (r:Room k A):A.units+8 < cLine:=by have:=r.un;omega
def DEqs (K:uR) (H:Hp) (n:Nat):List V->List V->Prop
 | [], []=>True
 |x :: xs,y :: ys=>DEq K H n x y true/\DEqs K H n xs ys
 |_,_=>False
theorem DEqs.len {K:uR} {H:Hp} {n:Nat}:∀{xs ys:List V},DEqs K H n xs ys->xs.length=ys.length
 | [], [],_=>rfl
 |_ :: _,_ :: _,h=>congrArg (·+1) (DEqs.len h.2)
 | [],_ :: _,h=>h.elim
 |_ :: _, [],h=>h.elim
theorem DEqs.get {K:uR} {H:Hp} {n:Nat}:∀{xs ys:List V},DEqs K H n xs ys->∀j (h1:j < xs.length) (h2:j < ys.length),DEq K H n xs[j] ys[j] true
 | [], [],_,j,h1,_=>absurd h1 (bX j)
 |_ :: _,_ :: _,h,0,_,_=>h.1
 |_ :: _,_ :: _,h,j+1,h1,h2=>DEqs.get h.2 j (xR h1) (xR h2)
 | [],_ :: _,h,_,_,_=>h.elim
 |_ :: _, [],h,_,_,_=>h.elim
theorem deq_str {K:uR} {H:Hp} {n:Nat} (z:Str):DEq K H n (.str z) (.str z) true:=by
 have w:=DEq.flat (K:=K) (H:=H) (n:=n) (x:=.str z) (y:=.str z) rfl rfl
 have e:eqV (.str z) (.str z)=true:=by simp [eqV]
 rw [e] at w
 exact w
theorem deq_bl {K:uR} {H:Hp} {n:Nat} (b:Bool):DEq K H n (.bl b) (.bl b) true:=by
 have w:=DEq.flat (K:=K) (H:=H) (n:=n) (x:=.bl b) (y:=.bl b) rfl rfl
 have e:eqV (.bl b) (.bl b)=true:=by cases b <;> rfl
 rw [e] at w
 exact w
def SameBut (L:Addr) (H H':Hp):Prop:=∀b o,b≠L->H b=some o->H' b=some o
theorem SameBut.at {H H':Hp} {L:Addr} {o:HO} (e:SameBut L H H'):SameBut L H (upd H' L o):=fun b u hb q=>by
 rw [qa6 hb];exact e b u hb q
theorem SameBut.of {H H':Hp} {L:Addr} (s:qar H H'):SameBut L H H':=fun b u _ q=>s b u q
def qgb (H:Hp) (a:Addr):Prop:=∀o u,H a≠some (.frz o u)
section
variable {X: Cx} {pins: List (Addr × Obj)} {σ: L2.St} {H H': Hp} {s: uE} {a: Addr} {kvs: List (Key × V)} {o: Obj}
theorem Inv.freeze (I:Inv X pins σ H s) (e:H a=some (.dK kvs)) (ho:s.heap.get? a=some o):Inv X pins σ (upd H a (.frz o (.dK kvs))) s:=by
 have ok:=I.hok a _ e
 have z:=I.write (x:=a) (e:=a) (o:=.frz o (.dK kvs)) (h':=s.heap) (t':=s.toks) (by rw [e];exact wQ) (.inl rfl) (fun _ _ _ q=>q) ⟨o,ho⟩ ⟨ho,ok⟩
 exact z
theorem Inv.thaw (I:Inv X pins σ H s) (e:H a=some (.frz o (.dK kvs))) (n0:qgb X.H₀ a):Inv X pins σ (upd H a (.dK kvs)) s:=by
 have ne:∀b,H b=none->b≠a:=fun b q z=>by subst z;rw [e] at q;cases q
 have nk:∀b u,H b=some u->(∀o' u',u≠ .frz o' u')->b≠a:=fun b u q z w=>by subst w;rw [e] at q;cases q;exact z _ _ rfl
 refine⟨I.ok,I.os,I.bare,⟨I.base.keep,I.base.slot,fun b ob q n hx=>?_,I.base.there,fun b xs q=>?_,fun b ob u q=>?_,fun b ps q=>?_⟩,I.loc,I.cell,?_,fun x c q=>?_,fun p hp=>?_,fun b u q=>?_,I.len⟩
 .have z:=I.base.free b ob q n hx
  rw [qa6 (ne b z)];exact z
 .have z:=I.base.tups b xs q
  rw [qa6 (nk b _ z (by intro _ _ h;cases h))];exact z
 .have z:=I.base.frzs b ob u q
  rw [qa6 (fun w=>by subst w;exact n0 _ _ q)];exact z
 .obtain⟨m,z⟩:=I.base.tbls b ps q
  exact⟨m,by rw [qa6 (nk b _ z (by intro _ _ h;cases h))];exact z⟩
 .have z:=I.free
  rw [qa6 (ne _ z)];exact z
 .have z:=I.freeC x c q
  rw [qa6 (ne _ z)];exact z
 .obtain⟨p1,p2,p3⟩:=I.pin p hp
  exact⟨p1,by rw [qa6 (ne _ p2)];exact p2,p3⟩
 .by_cases hb:b=a
  .subst hb
   rw [qa1] at q
   cases q
   exact(I.hok b _ e).2
  .rw [qa6 hb] at q
   exact(I.hok b u q).stay (fun _ _ _ r=>r) (fun c r=>by rw [qa6 (nk c _ r (by intro _ _ h;cases h))];exact r) fun c xs r=>by rw [qa6 (nk c _ r (by intro _ _ h;cases h))];exact r
def Thaw (H0 H H':Hp):Prop:=H'=H\/∃a o kvs,H a=some (.frz o (.dK kvs))/\qgb H0 a/\H'=upd H a (.dK kvs)
theorem Inv.thawed (I:Inv X pins σ H s) (t:Thaw X.H₀ H H'):Inv X pins σ H' s:=by
 rcases t with rfl|⟨a,o,kvs,e,n,rfl⟩
 .exact I
 .exact Inv.thaw I e n
end
section
variable {X: Cx} {st: Stmt} {e: vQ} {t: TS} {te: TE}
def thE (H0:Hp) (D:Ends):Ends:={nx:=fun σ H=>∃H',Thaw H0 H H'/\D.nx σ H',rt:=fun v H=>∃H',Thaw H0 H H'/\D.rt v H',bk:=fun σ H=>∃H',Thaw H0 H H'/\D.bk σ H',ct:=fun σ H=>∃H',Thaw H0 H H'/\D.ct σ H'}
def tThA (H0:Hp) (t:TS):TS:=fun D σ H=>t (thE H0 D) σ H
theorem ps_thA (h:PS X st t):PS X st (tThA X.H₀ t):=fun pins s σ H D I q=>thn (h pins s σ H _ I q) fun f s' hs=>by
 cases f with
 |next=>obtain⟨σ',H1,J,H2,th,q⟩:=hs;exact⟨σ',H2,Inv.thawed J th,q⟩
 |brk=>obtain⟨σ',H1,J,H2,th,q⟩:=hs;exact⟨σ',H2,Inv.thawed J th,q⟩
 |cont=>obtain⟨σ',H1,J,H2,th,q⟩:=hs;exact⟨σ',H2,Inv.thawed J th,q⟩
 |ret u=>obtain⟨v,σ',H1,J,r,H2,th,q⟩:=hs;exact⟨v,σ',H2,Inv.thawed J th,r,q⟩
def tThV (H0:Hp) (t:TE):TE:=fun σ H Q=>t σ H fun v H1=>∃H',Thaw H0 H1 H'/\Q v H'
theorem pe_thV (h:PE X e te):PE X e (tThV X.H₀ te):=fun pins s σ H Q I q=>thn (h pins s σ H _ I q) fun u s' ⟨v,H1,J,r,H2,th,q⟩=>⟨v,H2,Inv.thawed J th,r,q⟩
end
theorem kvget {κ:Type} {kvs:List (κ × V)} {vs:List (κ × uC)} (r:KV kvs vs):∀{i:Nat} {k:κ} {v:V},kvs[i]?=some (k,v)->∃u,vs[i]?=some (k,u)/\qbb v u:=by
 induction r with
 |nil=>intro i k v e;simp at e
 |cons h t ih=>
  intro i k v e
  cases i with
  |zero=>
   simp only [aW,cO] at e ⊢
   subst e
   obtain⟨h1,h2⟩:=h
   exact⟨_,Prod.ext h1.symm rfl,h2⟩
  |succ i=>
   simp only [aY] at e ⊢
   exact ih e
theorem kV_rel {k:Key} {u:uC} (h:keyIs k u=true):qbb (kV k) u:=by
 rcases qb9 h with ⟨i,t,rfl,rfl⟩ |⟨x,t,rfl,rfl⟩
 .exact⟨t,rfl⟩
 .exact⟨t,rfl⟩
def ItD (d:Addr) (o:Obj) (kvs:List (Key × V)):It:=
 ⟨fun i H=>H d=some (.frz o (.dK kvs))/\i < kvs.length,fun i H x H'=>H'=H/\∃k v,kvs[i]?=some (k,v)/\x=kV k,fun i H=>H d=some (.frz o (.dK kvs))/\kvs.length<=i⟩
theorem frz_at {P:uY} {w:vL} {H:Hp} {h:vP} {d:Addr} {o:Obj} {kvs:List (Key × V)} {es:Array eJ} {ep:Nat} (ok:HOk P w H h) (e:H d=some (.frz o (.dK kvs))) (hd:o.data=.dict es ep):
  ∃vs,KV kvs vs/\h.DictAt (qbc P w) d vs ep:=by
 obtain⟨ho,_,_,vs,rel,o',es',ep',ho',ex,hd',ks,ps,nd⟩:=ok d _ e
 rw [ho] at ho'
 cases ho'
 rw [hd] at hd'
 cases hd'
 exact⟨vs,rel,o,es,ho,ex,hd,ks,ps,nd⟩
theorem turn_dict {P:uY} {w:vL} {K:uR} {tg:vQ} {o:Obj} {kvs:List (Key × V)} {es:Array eJ} {ep:Nat} (d it:Addr) (hd:o.data=.dict es ep):Turn P w K tg (ItD d o kvs) [it] it (fun i h=>h.IsKeyIter it d i kvs.length ep) where
 mem:=by simp
 obj:=fun i h st b hb=>by
  have e:b=it:=by simpa using hb
  subst e
  obtain⟨ob,e,c,dd⟩:=st
  exact⟨ob,e,fun v z=>by rw [dd] at z;cases z⟩
 keep:=fun i h h' st k=>st.at fun ob e=>k it (by simp) ob e
 item:=by
  intro X hP hw hK hc i pins s σ H E I hf st hg
  subst hP hw hK
  obtain⟨hfz,hi⟩:=hg
  obtain⟨vs,rel,dat⟩:=frz_at I.hok hfz hd
  obtain⟨f0,f1,f2,f3,f4,f5⟩:=hf it (by simp)
  have hl:=rel.length
  obtain⟨u,hu,ru⟩:=kvget rel (i:=i) (k:=kvs[i].1) (v:=kvs[i].2) (by rw [zA hi])
  rw [hl] at st
  refine wpAny_pyNext_dict_item st dat hu fun key h' hkey st' hs'=>?_
  have I1:Inv X pins σ H {s with heap:=h'}:=I.turned (t':=s.toks) (fun b ob hb e=>hs'.extBut b ob hb e) f0 f1 f3 f4 f5
  obtain⟨ob,e,c,dd⟩:=id st'
  exact⟨key,rfl,go_of (s:={s with heap:=h'}) e c dd (by decide) ⟨kV kvs[i].1,H,I1,kV_rel hkey,⟨rfl,kvs[i].1,kvs[i].2,zA hi,rfl⟩,by rw [hl];exact st',fun b hb=>(hf b hb).1⟩⟩
 done:=by
  intro X hP hw hK hc i pins s σ H E I hf st hg
  subst hP hw hK
  obtain⟨hfz,hi⟩:=hg
  obtain⟨vs,rel,dat⟩:=frz_at I.hok hfz hd
  obtain⟨f0,f1,f2,f3,f4,f5⟩:=hf it (by simp)
  have hl:=rel.length
  rw [hl] at st hi
  exact wpAny_pyNext_dict_end (I.ok.hd hc) st dat (by simpa using hi) fun h' eb=>⟨rfl,I.turned (t':=s.toks) (fun b ob hb e=>eb b ob hb e) f0 f1 f3 f4 f5⟩
 self:=fun _ _ _ _ _ st h=>wpAny_pyIter_keyiter st h
def rItD (x:V) (H:Hp) (R:It->Hp->Prop):Prop:=∃a kvs,x=.ref a/\((H a=some (.dK kvs)/\∀o,R (ItD a o kvs) (upd H a (.frz o (.dK kvs))))\/∃o,H a=some (.frz o (.dK kvs))/\R (ItD a o kvs) H)
def iDict (td:TE):TI:=fun σ H R=>td σ H fun x H1=>rItD x H1 R
theorem dat_of {P:uY} {w:vL} {H:Hp} {h:vP} {d:Addr} {kvs:List (Key × V)} (ok:qbh P w H h d (.dK kvs)):∃o es ep vs,h.get? d=some o/\o.data=.dict es ep/\KV kvs vs/\h.DictAt (qbc P w) d vs ep/\(d==wP)=false:=by
 obtain⟨_,hs,vs,rel,o,es,ep,ho,ex,hd,ks,ps,nd⟩:=ok
 exact⟨o,es,ep,vs,ho,hd,rel,⟨o,es,ho,ex,hd,ks,ps,nd⟩,hs⟩
theorem qew {X:Cx} {tg l:vQ} {tl:TE} (hl:PE X l tl):PI X tg l (iDict tl):=by
 intro pins s σ H R I h
 refine thn (hl pins s σ H _ I h) fun v s1 ⟨x,H1,I1,r1,q1⟩=>?_
 obtain⟨a,kvs,e,q⟩:=q1
 subst e
 cases r1
 have ok:qbh X.prog X.w H1 s1.heap a (.dK kvs):=by
  rcases q with ⟨e,_⟩ |⟨o,e,_⟩
  .exact I1.hok a _ e
  .exact(I1.hok a _ e).2
 obtain⟨o,es,ep,vs,ho,hd,rel,dat,hs⟩:=dat_of ok
 have hlen:=rel.length
 refine wpAny_pyIter_dict hs dat ?_
 have it0:(s1.heap.push {cls:=.type "dict_keyiterator",data:=.fields #[.ref a,.int 0 0,.int vs.length 0,.int ep 0]}).IsKeyIter s1.heap.objs.size a 0 kvs.length ep:=by
  rw [hlen];exact⟨_,uP _ rfl,rfl,rfl⟩
 rcases q with ⟨e,q⟩ |⟨o',e,q⟩
 .have I2:=Inv.freeze I1 e ho
  refine⟨s1.heap.objs.size, [s1.heap.objs.size],_,_,_,rfl,I2.kept (t':=s1.toks) fun b ob e=>uD _ e,turn_dict (kvs:=kvs) a _ hd,it0,fun b hb=>?_,q o⟩
  have e:b=s1.heap.objs.size:=by simpa using hb
  subst e
  exact I2.fpOk (uF _) (I2.hok.fresh (uF _))
 .have eo:o'=o:=by
   have z:=(I1.hok a _ e).1
   rw [ho] at z
   cases z
   rfl
  subst eo
  refine⟨s1.heap.objs.size, [s1.heap.objs.size],_,_,_,rfl,I1.kept (t':=s1.toks) fun b ob e=>uD _ e,turn_dict (kvs:=kvs) a _ hd,it0,fun b hb=>?_,q⟩
  have e:b=s1.heap.objs.size:=by simpa using hb
  subst e
  exact I1.fpOk (uF _) (I1.hok.fresh (uF _))
section
variable {σ: L2.St} {H H': Hp} {D: Ends} {t: TS} {te tl: TE} {Q: VK} {g: TG} {tb: TS} {a: Addr} {o: Obj} {kvs: List (Key × V)} {H0: Hp} {v: V}
theorem r_thA (h:t (thE H0 D) σ H):tThA H0 t D σ H:=h
theorem r_thNx (th:Thaw H0 H H') (h:D.nx σ H'):(thE H0 D).nx σ H:=⟨H',th,h⟩
theorem r_thV (h:te σ H fun v H1=>∃H',Thaw H0 H1 H'/\Q v H'):tThV H0 te σ H Q:=h
theorem thaw1 (e:H a=some (.frz o (.dK kvs))) (n:qgb H0 a):Thaw H0 H (upd H a (.dK kvs)):=.inr ⟨a,o,kvs,e,n,rfl⟩
theorem r_iD {R:It->Hp->Prop} (h:tl σ H fun x H1=>rItD x H1 R):iDict tl σ H R:=h
theorem r_itD {R:It->Hp->Prop} (e:H a=some (.dK kvs)) (h:∀o,R (ItD a o kvs) (upd H a (.frz o (.dK kvs)))):rItD (.ref a) H R:=⟨a,kvs,rfl,.inl ⟨e,h⟩⟩
theorem f_dict (Pv:Nat->L2.St->Hp->Prop) (h0:Pv 0 σ H) (hl:∀i σ H,i<=kvs.length->Pv i σ H->H a=some (.frz o (.dK kvs)))
  (hs:∀i k v σ H,kvs[i]?=some (k,v)->Pv i σ H->g (kV k) σ H fun σ2 H2=>tb {nx:=Pv (i+1),rt:=D.rt,bk:=D.nx,ct:=Pv (i+1)} σ2 H2) (hd:∀σ H,Pv kvs.length σ H->D.nx σ H):FOR (ItD a o kvs) g tb D σ H:=by
 refine⟨fun i m σ H=>m=kvs.length - i/\i<=kvs.length/\Pv i σ H,⟨kvs.length,rfl,vY _,h0⟩,?_⟩
 rintro i m σ H ⟨rfl,hi,p⟩
 have q:=hl i σ H hi p
 by_cases hlt:i < kvs.length
 .refine .inr ⟨⟨q,hlt⟩,Pv (i+1),fun σ' H' p'=>⟨kvs.length - (i+1),by omega,rfl,hlt,p'⟩,fun x H' y=>?_⟩
  obtain⟨e,k,v,hk,rfl⟩:=y
  subst e
  exact hs i k v σ _ hk p
 .have e:i=kvs.length:=Nat.le_antisymm hi (gG hlt)
  subst e
  exact .inl ⟨⟨q,uF _⟩,hd σ H p⟩
end
theorem objOk_get {P:uY} {w:vL} {H:Hp} {h:vP} {a:Addr} {o:HO} (x:qbh P w H h a o):∃u,h.get? a=some u:=by
 induction o with
 |lst xs=>obtain⟨_,_,_,_,e⟩:=x;exact⟨_,e⟩
 |tup xs=>obtain⟨_,_,_,ob,e,_⟩:=x;exact⟨_,e⟩
 |dK kvs=>obtain⟨_,_,_,_,o,_,_,e,_⟩:=x;exact⟨_,e⟩
 |dT kvs=>obtain⟨_,_,_,_,o,_,_,e,_⟩:=x;exact⟨_,e⟩
 |set S n=>obtain⟨o,_,_,_,e,_⟩:=x;exact⟨_,e⟩
 |ins C dx fs=>obtain⟨_,_,_,e,_⟩:=x;exact⟨_,e⟩
 |own y=>exact x
 |xd fs=>obtain⟨_,⟨_,_,_,e,_⟩,_⟩:=x;exact⟨_,e⟩
 |rng lo hi=>obtain⟨_,_,_,e⟩:=x;exact⟨_,e⟩
 |frz ob u ih=>exact⟨_,x.1⟩
 |tbl ps=>exact⟨_,x⟩
 |met f y=>exact⟨_,x⟩
 |ext φ=>exact x.2.1
theorem Inv.laidN {X:Cx} {pins:List (Addr × Obj)} {σ:L2.St} {H:Hp} {s:uE} {h':vP} {a:Addr} {o:HO} {t':Nat} (I:Inv X pins σ H s) (k:∀b u,s.heap.get? b=some u->h'.get? b=some u) (hg:s.heap.get? a=none) (new:qbh X.prog X.w (upd H a o) h' a o):
  H a=none/\Inv X pins σ (upd H a o) {s with heap:=h',toks:=t'}:=by
 have hn:H a=none:=by
  cases q:H a with
  |none=>rfl
  |some u=>obtain⟨v,e⟩:=objOk_get (I.hok a u q);rw [hg] at e;cases e
 refine⟨hn,I.un ⟨fun b u q _ _ _=>k b u q,fun b u q _ _ _=>⟨u.slots,k b u q⟩,fun b u q n _=>by rw [qa6 (fun z=>by subst z;rw [hg] at q;cases q)];exact n,fun b u q _=>⟨u,k b u q⟩,fun b xs q=>by rw [qa6 (qa8 q hn)];exact q,
  fun b u xs q=>by rw [qa6 (qa8 q hn)];exact q,fun b ps q=>⟨#[],by rw [qa6 (qa8 q hn),q];simp⟩⟩ fun b u e=>?_⟩
 by_cases hb:b=a
 .subst hb;rw [qa1] at e;cases e;exact new
 .rw [qa6 hb] at e
  exact(I.hok b u e).stay (fun c v _ q=>k c v q) (fun c q=>by rw [qa6 (qa8 q hn)];exact q) fun c xs q=>by rw [qa6 (qa8 q hn)];exact q
section
variable {X: Cx}
def rDictCp:List V->Hp->VK->Prop:=fun xs H Q=>∃p kvs,xs=[.ref p]/\Rd H p (.dK kvs)/\∀q,H q=none->Q (.ref q) (upd H q (.dK kvs))
theorem qcu:qc7 X (.type "dict") rDictCp:=by
 intro pins s σ H xs us Q I hv h
 obtain⟨p,kvs,rfl,e,q⟩:=h
 obtain⟨u,rfl,ru⟩:=hv.one
 cases ru
 exact d_copyOf I e fun l s' hl I'=>⟨.ref l,_,I',rfl,q l hl⟩
theorem qfo:∀{ss:List Str} {us:List uC},qba (ss.map V.str) us->fY us ss
 | [],_,r=>by cases r;exact .nil
 |x :: ss,_,r=>by
  cases r with
  |cons h t=>obtain⟨k,rfl⟩:=h;exact .cons x k (qfo t)
theorem qel:∀{us:List uC} {ss:List Str},fY us ss->qba (ss.map V.str) us
 |_,_,.nil=> .nil
 |_,_,.cons x t h=> .cons ⟨t,rfl⟩ (qel h)
def rSortL (K:uR):List V->Hp->VK->Prop:=fun xs H Q=>∃p ss,xs=[.ref p]/\SqL K H p (ss.map V.str)/\ss.length < 64/\∀l ss',H l=none->ss'.Perm ss->sortedS ss'=true->Q (.ref l) (upd H l (.lst (ss'.map V.str)))
theorem qe9:qc7 X (.builtin "sorted") (rSortL X.K):=by
 intro pins s σ H xs us Q I hv h
 obtain⟨p,ss,rfl,hS,hz,q⟩:=h
 obtain⟨u,rfl,ru⟩:=hv.one
 cases ru
 obtain⟨its,rv,pl,hz'⟩:=I.list hS
 have hlen:=rv.length
 rw [zB] at hlen
 refine sorted_strs (vs:=its) (PlainL.isList pl) (qfo rv) (by omega) fun out ss' a1 a2 a3=>?_
 obtain⟨e,he⟩:=sortedAll_at s.heap its out
 have hl2:=a2.length_eq
 have I2:=I.laid (a:=s.heap.objs.size+1) (o:=.lst (ss'.map V.str)) (t':=s.toks) (fun b ob hb=>sortedAll_old hb) (aE _) ⟨by rw [zB,aU];omega,out.toList,e,qel a1,by simpa [seqObj] using he⟩
 exact⟨.ref _,_,I2,rfl,q _ ss' (I.hok.fresh (aE _)) a2 a3⟩
def rSortD:List V->Hp->VK->Prop:=fun xs H Q=>∃p kvs ss,xs=[.ref p]/\Rd H p (.dK kvs)/\kvs.map (·.1)=ss.map vG/\ss.length < 64/\∀l ss',H l=none->ss'.Perm ss->sortedS ss'=true->Q (.ref l) (upd H l (.lst (ss'.map V.str)))
theorem strs_keys {ss:List Str} {us:List uC} (hl:us.length=ss.length) (h:∀(j:Nat) (u:uC),us[j]?=some u->∃x,ss[j]?=some x/\keyIs (.inr x) u=true):fY us ss:=by
 induction us generalizing ss with
 |nil=>cases ss with
  |nil=>exact .nil
  |cons _ _=>simp at hl
 |cons u us ih=>cases ss with
  |nil=>simp at hl
  |cons x ss=>
   obtain⟨y,hy,hk⟩:=h 0 u rfl
   simp only [aW,cO] at hy
   subst hy
   rcases qb9 hk with ⟨i,t,e,_⟩ |⟨z,t,e,rfl⟩
   .cases e
   .cases e
    exact .cons x t (ih (by simpa using hl) fun j v hv=>by have:=h (j+1) v (by simpa using hv);simpa using this)
theorem qea (hc:X.calm=true):qc7 X (.builtin "sorted") rSortD:=by
 intro pins s σ H xs us Q I hv h
 obtain⟨p,kvs,ss,rfl,hR,hk,hz,q⟩:=h
 obtain⟨u,rfl,ru⟩:=hv.one
 cases ru
 obtain⟨o,es,ep,vs,ho,hd,rel,dat,hs⟩:=dat_of (hR.ok I.hok)
 have hlen:=rel.length
 have hks:=rel.keys
 have hl2:kvs.length=ss.length:=by have:=congrArg xA hk;simpa using this
 refine Calls.call_function_entry kind_sorted plain_sorted entry_sorted (args_sorted1 _) ?_
 unfold xQ.«sorted»
 refine uA (m:=checkCount "sorted" 1 1 _) (uG ?_)
 refine uA (PySem.W.kdu_collect (A:=X.A.in1) (PySem.W.kdl_dict (knd:=qbc X.prog X.w) (kvs:=vs) (ep:=ep) hs) (I.ok.hd hc) dat (by rw [aU];omega) fun h' tk acc hkeep hacc=>?_)
 have hal:acc.toList.length=vs.length:=by rw [eO];exact hacc.1
 refine uA (wpAny_newList ?_ (by rw [hal,aU];omega))
 have hS:fY acc.toList ss:=by
  refine strs_keys (by omega) fun j v hv=>?_
  obtain⟨k,x,hx,hkv⟩:=hacc.2 j v (by rw [<-yY];exact hv)
  have e1:(vs.map (·.1))[j]?=some k:=by rw [zC,hx];rfl
  rw [<-hks,hk,zC] at e1
  obtain⟨z,hz1,rfl⟩:=uU.mp e1
  exact⟨z,hz1,hkv⟩
 have hoL:(h'.push {cls:=.type "list",data:=.seq acc.toList.toArray}).get? h'.objs.size=some (seqObj "list" acc.toList.toArray 0):=uP _ rfl
 refine uA (wR (wK slot_list_sort ⟨_,hoL,rfl⟩ entry_list_sort (list_sort_treeK strKind_oneLt hoL hS.keysOf (fun v₁ v₂ rest e=>keyKind_strs (by rw [<-e];exact hS)) (by omega) fun st' a1 a2=>⟨_,rfl,?_⟩) (args_list_sort _)))
 obtain⟨ss',b1,b2,b3⟩:=sorted_out_str hS a1 a2
 obtain⟨e,he⟩:=sortedHeap_at (out:=(arrOf st').map (·.2)) hoL
 have hl3:=b2.length_eq
 have hg:s.heap.get? h'.objs.size=none:=by
  cases q:s.heap.get? h'.objs.size with
  |none=>rfl
  |some ob=>exact absurd (uL (hkeep _ _ q)) (wA _)
 obtain⟨hn,I2⟩:=Inv.laidN I (h':=sortedHeap (h'.push {cls:=.type "list",data:=.seq acc.toList.toArray}) h'.objs.size acc.toList ((arrOf st').map (·.2))) (a:=h'.objs.size) (o:=.lst (ss'.map V.str)) (t':=tk) (fun b ob hb=>by
  have hb':=hkeep b ob hb
  rw [sortedHeap_old (uX (uL hb')) (by rw [size_push'];exact fZ (uL hb'))]
  exact uD _ hb') hg ⟨by rw [zB,aU];omega,((arrOf st').map (·.2)).toList,e,qel b1,by rw [Array.toArray_toList];exact he⟩
 exact uG ⟨_,rfl,.ref _,_,I2,rfl,q _ ss' hn b2 b3⟩
end
section
variable {K: uR} {H: Hp} {Q: VK} {p: Addr} {kvs: List (Key × V)} {ss: List Str}
theorem r_dictCp (e:Rd H p (.dK kvs)) (h:∀q,H q=none->Q (.ref q) (upd H q (.dK kvs))):rDictCp [.ref p] H Q:=⟨p,kvs,rfl,e,h⟩
theorem r_sortL (e:SqL K H p (ss.map V.str)) (hz:ss.length < 64) (h:∀l ss',H l=none->ss'.Perm ss->sortedS ss'=true->Q (.ref l) (upd H l (.lst (ss'.map V.str)))):rSortL K [.ref p] H Q:=⟨p,ss,rfl,e,hz,h⟩
theorem r_sortD (e:Rd H p (.dK kvs)) (hk:kvs.map (·.1)=ss.map vG) (hz:ss.length < 64) (h:∀l ss',H l=none->ss'.Perm ss->sortedS ss'=true->Q (.ref l) (upd H l (.lst (ss'.map V.str)))):rSortD [.ref p] H Q:=⟨p,kvs,ss,rfl,e,hk,hz,h⟩
end
structure AD (kvs:List (Key × V)) (f:Str->Option Int):Prop where
 nd:(kvs.map (·.1)).Nodup
 sh:∀p∈kvs,∃z i,p=(vG z,V.int i)
 get:∀z,qcf kvs (vG z)=(f z).map V.int
def noF:Str->Option Int:=fun _=>none
def putF' (f:Str->Option Int) (z:Str) (i:Int):Str->Option Int:=fun y=>if y=z then some i else f y
theorem AD.nil:AD [] noF:=⟨yM,fun p hp=>absurd hp (by simp),fun z=>rfl⟩
theorem AD.cast {kvs:List (Key × V)} {f g:Str->Option Int} (h:AD kvs f) (e:∀z,f z=g z):AD kvs g:=⟨h.nd,h.sh,fun z=>by rw [h.get,e]⟩
theorem putK_keys {kvs:List (Key × V)} {k:Key} {v:V} (h:qcf kvs k≠none):(qcn kvs k v).map (·.1)=kvs.map (·.1):=by
 unfold qcn
 have e:(kvs.any fun kv=>decide (kv.1=k))=true:=by rw [qc9];cases q:qcf kvs k with
  |none=>exact absurd q h
  |some _=>rfl
 rw [gL e,yV]
 apply aN
 intro p _
 show (if p.1=k then (p.1,v) else p).1=p.1
 split <;> rfl
theorem putK_mem {kvs:List (Key × V)} {k:Key} {v:V} {p:Key × V} (h:p∈qcn kvs k v):p=(k,v)\/p∈kvs:=by
 unfold qcn at h
 split at h
 .obtain⟨q,hq,e⟩:=zK.mp h
  split at e
  .rename_i ek;subst ek;exact .inl e.symm
  .subst e;exact .inr hq
 .rcases zR.mp h with h|h
  .exact .inr h
  .exact .inl (by simpa using h)
theorem AD.put {kvs:List (Key × V)} {f:Str->Option Int} (h:AD kvs f) (z:Str) (i:Int):AD (qcn kvs (vG z) (.int i)) (putF' f z i):=by
 refine⟨?_,fun p hp=>?_,fun y=>?_⟩
 .cases q:qcf kvs (vG z) with
  |none=>exact nd_putK _ h.nd q
  |some v=>rw [putK_keys (by rw [q];simp)];exact h.nd
 .rcases putK_mem hp with rfl|hp
  .exact⟨z,i,rfl⟩
  .exact h.sh p hp
 .rw [valV_put]
  unfold putF'
  by_cases e:y=z
  .subst e;rw [gL rfl,gL rfl];rfl
  .rw [gK (fun q=>e (aS q)),gK e];exact h.get y
theorem AD.flat {kvs:List (Key × V)} {f:Str->Option Int} (h:AD kvs f):∀p∈kvs,qcs p.2=true:=fun p hp=>by
 obtain⟨z,i,rfl⟩:=h.sh p hp
 rfl
theorem valV_of_mem {kvs:List (Key × V)} (nd:(kvs.map (·.1)).Nodup) {k:Key} {v:V} (h:(k,v)∈kvs):qcf kvs k=some v:=by
 induction kvs with
 |nil=>simp at h
 |cons p r ih=>
  rw [zV,zX] at nd
  rcases zM.mp h with rfl|h
  .exact qbn rfl
  .have ne:¬p.1=k:=fun e=>nd.1 (e ▸ zK.mpr ⟨(k,v),h,rfl⟩)
   rw [qbo ne]
   exact ih nd.2 h
theorem AD.mem {kvs:List (Key × V)} {f:Str->Option Int} (h:AD kvs f) {k:Key} {v:V} (hm:(k,v)∈kvs):∃z n,k=vG z/\v=.int n/\f z=some n:=by
 obtain⟨z,n,e⟩:=h.sh _ hm
 cases e
 have q:=valV_of_mem h.nd hm
 rw [h.get] at q
 cases hf:f z with
 |none=>rw [hf] at q;cases q
 |some m=>rw [hf] at q;cases q;exact⟨z,_,rfl,rfl,hf⟩
def qcr (kvs:List (Key × V)):List Str:=kvs.filterMap fun p=>match p.1 with| .inr z=>some z| .inl _=>none
theorem AD.keys {kvs:List (Key × V)} {f:Str->Option Int} (h:AD kvs f):kvs.map (·.1)=(qcr kvs).map vG:=by
 have sh:=h.sh
 clear h
 induction kvs with
 |nil=>rfl
 |cons p r ih=>
  obtain⟨z,i,rfl⟩:=sh p (zN ..)
  show vG z :: r.map (·.1)=(z :: qcr r).map vG
  rw [zV,ih fun q hq=>sh q (zH _ hq)]
theorem AD.klen {kvs:List (Key × V)} {f:Str->Option Int} (h:AD kvs f):(qcr kvs).length=kvs.length:=by
 have:=congrArg xA h.keys
 simpa using this.symm
theorem AD.knd {kvs:List (Key × V)} {f:Str->Option Int} (h:AD kvs f):(qcr kvs).Nodup:=by
 have nd:=h.nd
 rw [h.keys] at nd
 exact cP (fun ne e=>ne (congrArg vG e)) (bI.mp nd)
theorem AD.kin {kvs:List (Key × V)} {f:Str->Option Int} (h:AD kvs f) (z:Str):z∈qcr kvs↔f z≠none:=by
 constructor
 .intro hz
  have hm:(vG z:Key)∈kvs.map (·.1):=by rw [h.keys];exact zK.mpr ⟨z,hz,rfl⟩
  obtain⟨⟨k,v⟩,hp,e⟩:=zK.mp hm
  dsimp only at e
  subst e
  obtain⟨z',n,e1,_,hf⟩:=h.mem hp
  cases e1
  rw [hf];simp
 .intro hf
  cases q:f z with
  |none=>exact absurd q hf
  |some n=>
   have hv:=h.get z
   rw [q] at hv
   have hm:=valV_in hv
   rw [h.keys] at hm
   obtain⟨y,hy,e⟩:=zK.mp hm
   cases e
   exact hy
theorem nd_le:∀{l m:List Str},l.Nodup->(∀a∈l,a∈m)->l.length<=m.length
 | [],_,_,_=>vY _
 |a :: l,m,nd,h=>by
  have ha:=h a (zN ..)
  rw [zX] at nd
  have q:=nd_le (l:=l) (m:=m.erase a) nd.2 fun b hb=>(List.mem_erase_of_ne (fun(e:b=a)=>nd.1 (by rw [<-e];exact hb))).mpr (h b (zH _ hb))
  rw [List.length_erase_of_mem ha] at q
  have:0 < m.length:=List.length_pos_of_mem ha
  simp only [zL]
  omega
theorem AD.le {kvs:List (Key × V)} {f:Str->Option Int} (h:AD kvs f) {ws:List Str} (hs:∀z,f z≠none->z∈ws):kvs.length<=ws.length:=by
 rw [<-h.klen]
 exact nd_le h.knd fun z hz=>hs z ((h.kin z).mp hz)
theorem AD.eq {ka kb:List (Key × V)} {f:Str->Option Int} (h:AD ka f) (h':AD kb f):(ka.length==kb.length && ka.all fun p=>(qcf kb p.1).elim false (eqV p.2))=true:=by
 rw [vU,beq_iff_eq,yD]
 constructor
 .have l1:=nd_le h.knd fun z hz=>(h'.kin z).mpr ((h.kin z).mp hz)
  have l2:=nd_le h'.knd fun z hz=>(h.kin z).mpr ((h'.kin z).mp hz)
  rw [h.klen,h'.klen] at l1
  rw [h.klen,h'.klen] at l2
  omega
 .rintro⟨k,v⟩ hp
  obtain⟨z,n,rfl,rfl,hf⟩:=h.mem hp
  show ((qcf kb (vG z)).elim false (eqV (.int n)))=true
  rw [h'.get,hf]
  show (n==n)=true
  simp
theorem AD.at {kvs:List (Key × V)} {f:Str->Option Int} (h:AD kvs f) {i:Nat} {k:Key} {v:V} (e:kvs[i]?=some (k,v)):∃z n,k=vG z/\v=.int n/\f z=some n/\(qcr kvs)[i]?=some z:=by
 obtain⟨z,n,rfl,rfl,hf⟩:=h.mem (zD e)
 refine⟨z,n,rfl,rfl,hf,?_⟩
 have q:(kvs.map (·.1))[i]?=some (vG z):=by rw [zC,e];rfl
 rw [h.keys,zC] at q
 obtain⟨y,hy,e⟩:=uU.mp q
 cases e
 exact hy
def leS (a b:Str):Prop:=ltCps b.cps.toList a.cps.toList=false
theorem qdb {a b:Str}:leS a b↔a.cps.toList<=b.cps.toList:=by
 unfold leS
 rw [ltCps_eq,decide_eq_false_iff_not]
 exact List.not_lt
theorem leS_refl (a:Str):leS a a:=qdb.mpr (List.le_refl _)
theorem leS_trans {a b c:Str} (h:leS a b) (h':leS b c):leS a c:=qdb.mpr (List.le_trans (qdb.mp h) (qdb.mp h'))
theorem leS_anti {a b:Str} (h:leS a b) (h':leS b a):a=b:=by
 have e:=List.le_antisymm (qdb.mp h) (qdb.mp h')
 obtain⟨⟨x⟩⟩:=a
 obtain⟨⟨y⟩⟩:=b
 have e':x=y:=e
 subst e'
 rfl
theorem rising_pw:∀{p:Str} {l:List Str},risingS p l=true->(p :: l).Pairwise leS
 |p, [],_=>aZ _ _
 |p,x :: r,h=>by
  have h':(!ltCps x.cps.toList p.cps.toList && risingS x r)=true:=h
  rw [vU,cM] at h'
  have q:=rising_pw h'.2
  refine cF.mpr ⟨fun y hy=>?_,q⟩
  rcases zM.mp hy with rfl|hy
  .exact h'.1
  .exact leS_trans h'.1 (aK q hy)
theorem qen:∀{l:List Str},sortedS l=true->l.Pairwise leS
 | [],_=>cK
 |x :: r,h=>rising_pw h
def gN (f:Str->Option Int) (z:Str):Int:=(f z).getD 0
def addF (f g:Str->Option Int):Str->Option Int:=fun y=>match g y with|none=>f y|some b=>some (gN f y+b)
def qcw (f:Str->Option Int):Str->Option Int:=fun y=>match f y with|none=>none|some a=>if 0 < a then some a else none
theorem gN_get {kvs:List (Key × V)} {f:Str->Option Int} (h:AD kvs f) (z:Str):(qcf kvs (vG z)).getD (.int 0)=.int (gN f z):=by
 rw [h.get]
 unfold gN
 cases f z <;> rfl
theorem qbj {l:List Str} {i:Nat} {z:Str} (h:l[i]?=some z) (y:Str):y∈l.take (i+1)↔y∈l.take i\/y=z:=by
 rw [zO,h,zR]
 simp
theorem qg7:xM "reversed" =some (.type "reversed"):=by decide+kernel
section
variable {σ: L2.St} {H H': Hp} {Q: VK} {D: Ends} {td ty tx tv: TE} {a b p: Addr} {kvs kb: List (Key × V)} {f: Str -> Option Int} {z: Str} {n: Int} {v: V} {o: Obj}
def rDG (a:Addr) (y z:V) (H:Hp) (Q:VK):Prop:=∃o,DGet H a y o/\Q (o.getD z) H
def kDG2 (ty tx:TE) (σ:L2.St) (Q:VK) (x:V) (H:Hp):Prop:=∃a,x=.ref a/\IsD H a/\ty σ H fun y H2=>tx σ H2 fun z H3=>rDG a y z H3 Q
theorem r_dg2 (h:td σ H fun x H1=>kDG2 ty tx σ Q x H1):tDGet2 td ty tx σ H Q:=h
theorem r_dg2a (d:Rd H a (.dK kvs)) (h:ty σ H fun y H2=>tx σ H2 fun z H3=>rDG a y z H3 Q):kDG2 ty tx σ Q (.ref a) H:=⟨a,rfl,.inl ⟨kvs,d⟩,h⟩
theorem r_dg2b (d:Rd H a (.dK kvs)) (A:AD kvs f) (h:Q (.int (gN f z)) H):rDG a (.str z) (.int 0) H Q:=by
 refine⟨qcf kvs (vG z),.inl ⟨kvs,vG z,d,rfl,rfl⟩,?_⟩
 rw [gN_get A]
 exact h
def rDGk (x y:V) (H:Hp) (Q:VK):Prop:=∃a v,x=.ref a/\DGet H a y (some v)/\Q v H
theorem r_dg (h:td σ H fun x H1=>ty σ H1 fun y H2=>rDGk x y H2 Q):tDGet td ty σ H Q:=h
theorem r_dgk (d:Rd H a (.dK kvs)) (A:AD kvs f) (e:f z=some n) (h:Q (.int n) H):rDGk (.ref a) (.str z) H Q:=
 ⟨a,.int n,rfl,.inl ⟨kvs,vG z,d,rfl,by rw [A.get,e];rfl⟩,h⟩
def rDP (x y v:V) (H:Hp) (D:Ends) (σ:L2.St):Prop:=∃a H4,x=.ref a/\DPut H a y v H4/\D.nx σ H4
theorem r_dp (h:tv σ H fun v H1=>td σ H1 fun x H2=>ty σ H2 fun y H3=>rDP x y v H3 D σ):sDPut td ty tv D σ H:=h
theorem r_dpk (e:H a=some (.dK kvs)) (hz:kvs.length < sizeLine) (h:D.nx σ (upd H a (.dK (qcn kvs (vG z) v)))):rDP (.ref a) (.str z) v H D σ:=⟨a,_,rfl,DPut.k (k:=vG z) e hz,h⟩
def rDI (x y:V) (H:Hp) (Q:VK):Prop:=∃a o,x=.ref a/\DGet H a y o/\Q (.bl o.isSome) H
theorem r_di (h:ty σ H fun y H1=>td σ H1 fun x H2=>rDI x y H2 Q):tDIn ty td σ H Q:=h
theorem r_dnew (h:∀p,H p=none->Q (.ref p) (upd H p (.dK []))):tDNewK σ H Q:=h
theorem qdx (e:H a=some (.dK kvs)):qgb H a:=fun o u z=>by rw [e] at z;cases z
theorem qfi (e:H a=none):qgb H a:=fun o u z=>by rw [e] at z;cases z
theorem rd_new (d:Rd H a (.dK kvs)) (n:H p=none) {u:HO}:Rd (upd H p u) a (.dK kvs):=by
 rcases d with d|⟨o,d⟩
 .exact .inl (qad d n)
 .exact .inr ⟨o,qad d n⟩
theorem rd_in (d:Rd H b (.dK kb)) (ea:H a=some (.dK kvs)) (sb:SameBut a H H') (fz:H' a=some (.frz o (.dK kvs))):Rd H' b (.dK kb):=by
 by_cases e:b=a
 .subst e
  rcases d with d|⟨o',d⟩
  .rw [ea] at d;cases d;exact .inr ⟨o,fz⟩
  .rw [ea] at d;cases d
 .rcases d with d|⟨o',d⟩
  .exact .inl (sb _ _ e d)
  .exact .inr ⟨o',sb _ _ e d⟩
theorem qd4 (e:H a=some (.dK kvs)) (sb:SameBut a H H'):qar H (upd H' a (.dK kvs)):=fun b u q=>by
 by_cases h:b=a
 .subst h;rw [qa1];rw [e] at q;exact q
 .rw [qa6 h];exact sb b u h q
theorem sb_frz (e:H a=some (.dK kvs)):SameBut a H (upd H a (.frz o (.dK kvs))):=fun b u h q=>by rw [qa6 h];exact q
theorem sb_put {l:Addr} {u:HO} (sb:SameBut a H H') (n:H l=none):SameBut a H (upd H' l u):=fun b w h q=>by
 rw [qa6 (qa8 q n)];exact sb b w h q
theorem qaq {l:Addr} {u:HO} (s:qar H H') (n:H l=none):qar H (upd H' l u):=fun b w q=>by rw [qa6 (qa8 q n)];exact s b w q
end
def viol (f g:Str->Option Int) (y:Str):Prop:=f y≠none/\gN g y < gN f y
theorem addF_sup {f g:Str->Option Int} {ws:List Str} (hf:∀z,f z≠none->z∈ws) (hg:∀z,g z≠none->z∈ws) (z:Str) (h:addF f g z≠none):z∈ws:=by
 unfold addF at h
 cases e:g z with
 |none=>rw [e] at h;exact hf z h
 |some b=>exact hg z (by rw [e];simp)
theorem step_put {l:List Str} {i:Nat} {z:Str} (h:l[i]?=some z) (F G:Str->Option Int) {v:Int} (hv:F z=some v) (y:Str):putF' (fun y=>if y∈l.take i then F y else G y) z v y=if y∈l.take (i+1) then F y else G y:=by
 unfold putF'
 by_cases e:y=z
 .subst e
  rw [gL rfl,gL ((qbj h y).mpr (.inr rfl)),hv]
 .rw [gK e]
  by_cases e2:y∈l.take i
  .rw [gL ((qbj h y).mpr (.inl e2))];exact gL e2
  .rw [gK (fun q=>((qbj h y).mp q).elim e2 e)];exact gK e2
theorem step_no {l:List Str} {i:Nat} {z:Str} (h:l[i]?=some z) (F G:Str->Option Int) (hv:F z=G z) (y:Str):(if y∈l.take i then F y else G y)=if y∈l.take (i+1) then F y else G y:=by
 by_cases e2:y∈l.take i
 .rw [gL e2,gL ((qbj h y).mpr (.inl e2))]
 .rw [gK e2]
  by_cases e:y=z
  .subst e
   rw [gL ((qbj h y).mpr (.inr rfl)),hv]
  .rw [gK (fun q=>((qbj h y).mp q).elim e2 e)]
theorem step_end {kvs:List (Key × V)} {g:Str->Option Int} (hB:AD kvs g) (F G:Str->Option Int) (hn:∀y,g y=none->F y=G y) (y:Str):(if y∈(qcr kvs).take kvs.length then F y else G y)=F y:=by
 rw [<-hB.klen,zS]
 by_cases e:y∈qcr kvs
 .rw [gL e]
 .rw [gK e]
  refine(hn y ?_).symm
  cases hf:g y with
  |none=>rfl
  |some n=>exact absurd ((hB.kin y).mpr (by rw [hf];simp)) e
theorem r_neB {H:Hp} {Q:VK} {i j:Bool} (h:Q (.bl (!decide (i=j))) H):rNe (.bl i) (.bl j) H Q:=⟨rfl,by
 have e:decide (V.bl i=V.bl j)=decide (i=j):=by by_cases z:i=j <;> simp [z]
 rw [e];exact h⟩
section
variable {X: Cx}
theorem qcy {elt iter:vQ} {x y:Str} {px py:Pos} {ifs:List vQ} {scope:bY} {cl:List (Str × Addr)} {pos spos:Pos} {caps:List Nat} {cn:List Str} {wi:TI} {tt:CT TT} {te:CT TE} {j:Nat} (Cp:Caps X x scope cl caps cn) (hc:X.calm=true)
  (hN:X.N.Nodup) (hy:X.N[j]?=some y) (hly:X.env.scope.names.lookup y=some .local)
  (hi:PI X (.Name x px) iter wi) (ht:∀C s H fp,PIfs (cxC X (x :: cn) scope cl C s H fp) ifs (tt C s H fp)) (he:∀C s H fp,PE (cxC X (x :: cn) scope cl C s H fp) elt (te C s H fp))
  (hsw:eF (.ListComp elt [⟨.Name x px,iter,ifs,0⟩] scope pos) (some (.Name y py)) spos.line X.env=pure true:=by rfl) (hs:∀x,cJ iter X.env x=pure x:=by intro _;rfl):
  PS X (.Assign [.Name y py] (.ListComp elt [⟨.Name x px,iter,ifs,0⟩] scope pos) spos) (tAsg (tComp wi caps tt te) (gName j)):=by
 intro pins s σ H D I h
 replace h:tComp wi caps tt te σ H (fun v H1=>D.nx (σ.set j (some v)) H1):=h
 rw [exec_Assign_Name_used _ _ _ _ hsw]
 refine uA (xE (uA ?_))
 show uS _ X.A (do let _<-comprehension (.ListComp elt [⟨.Name x px,iter,ifs,0⟩] scope pos) scope X.env _ (newList []) false (wG iter X.env) (some (dX (.Name y py) X.env))) _ _ s
 refine uA (vD (cY (use:=some (dX (.Name y py) X.env)) (Q:=fun _ s'=>SP X pins D .next s') rfl hs Cp.clos Cp.kind Cp.names
  (thn (hi pins s σ H _ I h) fun v s1 h1=>thn h1 fun itv s2 h2=>?_)) (fun _ s' hq=>uG (uG hq)) fun _ _ e=>e)
 obtain⟨it,fp,tn,J,H2,e,I2,T,st2,f2,R⟩:=h2
 subst e
 have hacc:H2 s2.heap.objs.size=none:=I2.hok.fresh (uF _)
 refine wF ?_
 have I3:Inv X pins σ (upd H2 s2.heap.objs.size (.lst [])) {s2 with heap:=s2.heap.push {cls:=.type "list",dict:=none,data:=.seq ([]:List uC).toArray}}:=Inv.lnew (its:=[]) (t':=s2.toks) I2 .nil (vY _)
 have lt2:∀b∈fp,b < s2.heap.objs.size:=fun b hb=>let ⟨o,e,_⟩:=T.obj _ _ st2 b hb;uL e
 have f3:∀b∈fp,qgc X pins (upd H2 s2.heap.objs.size (.lst [])) b:=fun b hb=>⟨by rw [qa6 (uX (lt2 b hb))];exact(f2 b hb).1,(f2 b hb).2⟩
 have st3:tn 0 (s2.heap.push {cls:=.type "list",dict:=none,data:=.seq ([]:List uC).toArray}):=T.keep _ _ _ st2 fun b _ o e=>uD _ e
 generalize hs3:({s2 with heap:=s2.heap.push {cls:=.type "list",dict:=none,data:=.seq ([]:List uC).toArray}}:uE)=s3 at I3 ⊢
 have st3':tn 0 s3.heap:=by rw [<-hs3];exact st3
 generalize s2.heap.objs.size=acc at hacc I3 f3 ⊢
 obtain⟨W,⟨m0,w0⟩,turn⟩:=R s3.heap.objs.size s3 (upd H2 acc (.lst [])) fp acc hacc
 have lt3:∀b∈fp,b < s3.heap.objs.size:=fun b hb=>let ⟨o,e,_⟩:=T.obj _ _ st3' b hb;uL e
 clear st3 hs3
 refine dY Cp.cell (by intro y hy;simp at hy) (fun h₁ hns hsb=>?_) Cp.kind
 have k1:∀b o,s3.heap.get? b=some o->h₁.get? b=some o:=fun b o e=>hsb.extBut b o (uX (uL e)) (uD _ e)
 have I4:Inv (cxC X (x :: cn) scope cl s3.heap.objs.size s3 (upd H2 acc (.lst [])) fp) [] (none :: qay caps σ) (upd H2 acc (.lst [])) {s3 with heap:=h₁,toks:=s3.toks+([]:List (Str × uC)).length}:=
  Inv.comp Cp I3 f3 lt3 hns k1
 have st4:tn 0 h₁:=T.keep _ _ _ st3' fun b _ o e=>k1 b o e
 generalize hX:cxC X (x :: cn) scope cl s3.heap.objs.size s3 (upd H2 acc (.lst [])) fp=X' at I4
 have stat:∀{H':Hp},(∀b∈fp,H' b=none)->∀b∈fp,qgc X' [] H' b:=fun hn b hb=>by
  subst hX
  obtain⟨g0,g1,g2,g3,g4,g5⟩:=f3 b hb
  refine⟨hn b hb,uX (lt3 b hb),fun z=>?_,.inl hb,fun y c e=>g4 y c (Cp.sub y c e),fun p hp=>absurd (show p∈([]:List (Addr × Obj)) from hp) (by simp)⟩
  rcases zM.mp (I3.stkSub b z) with z|z
  .exact g1 z
  .exact g2 z
 have core:bD (uV X.prog X.w) X.A (.compLoop (.ListComp elt [⟨.Name x px,iter,ifs,0⟩] scope pos) 0 (.ref it) (.ref acc) (wU scope cl s3.heap.objs.size X.env))
   (compPost (uV X.prog X.w) X.A X.xe (some (dX (.Name y py) X.env)) (fun _ s'=>SP X pins D .next s') (.ref acc) s3.heap.objs.size) {s3 with heap:=h₁,toks:=s3.toks+([]:List (Str × uC)).length}:=by
  refine codeAny_loop rfl (fun n s'=>∃i a H',Inv X' [] (a :: qay caps σ) H' s'/\tn i s'.heap/\(∀b∈fp,H' b=none)/\W i n H') (fun n s5 hI=>?_) m0 ⟨0,none,_,I4,st4,fun b hb=>(f3 b hb).1,w0⟩
  obtain⟨i,a0,H5,I5,st5,fr5,w5⟩:=hI
  show uS _ _ ((compTurn _ 0 _ _ _).onRaise _) _ _ s5
  refine wpAny_noted ?_
  rw [compTurn_list]
  refine uA (xE (uA ?_))
  have aX:X'.A=X.A:=by subst hX;rfl
  have pX:X'.prog=X.prog:=by subst hX;rfl
  have wX:X'.w=X.w:=by subst hX;rfl
  have kX:X'.K=X.K:=by subst hX;rfl
  have cX:X'.calm=true:=by subst hX;exact hc
  have eX:X'.env=wU scope cl s3.heap.objs.size X.env:=by subst hX;rfl
  rcases turn i n H5 w5 with ⟨stop,qn⟩ |⟨go,N,hN,step⟩
  .have z:=T.done X' pX wX kX cX i [] s5 _ H5 (fun _ _=>False) I5 (stat fr5) st5 stop
   rw [aX] at z
   refine vD z (fun r s6 ⟨hr,I6⟩=>?_) fun _ _ q=>q.elim
   subst hr
   subst hX
   obtain⟨m,hm,_⟩:=id I6.loc
   have J0:Inv X pins σ H5 s6:=Inv.uncomp I3 f3 rfl I6 (h':=s6.heap) ⟨rfl,fun _ _=>rfl⟩
   have fC:qgc X pins H5 s3.heap.objs.size:=I3.fpOk (uF _) I6.free
   refine uG ?_
   show uS _ X.A (dX (.Name y py) X.env (.ref acc)) _ _ s6
   refine cI (store_ok2 (X:=X) (v:=.ref acc) J0 hN hy (.inl hly) rfl (fun s7 I7 ⟨a,sb,ha⟩=>?_) (.inr hly))
   have nC:s3.heap.objs.size≠a:=by
    rcases ha with rfl|ha
    .exact fC.2.1
    .exact(fC.2.2.2.2.1 y a ha).symm
   refine⟨m,hm.sameBut sb nC,fun h' sb'=>⟨_,H5,?_,qn⟩⟩
   exact I7.turned (t':=s7.toks) (fun b o hb e=>(sb'.2 b hb).trans e) fC.1 fC.2.1 fC.2.2.2.1 fC.2.2.2.2.1 fC.2.2.2.2.2
  .have z:=T.item X' pX wX kX cX i [] s5 _ H5 (fun _ _=>False) I5 (stat fr5) st5 go
   rw [aX] at z
   refine vD z (fun r s6 ⟨u,hr,h6⟩=>?_) fun _ _ q=>q.elim
   subst hr
   refine uA (vD h6 (fun _ s7 ⟨v,H7,I7,r7,y7,st7,fr7⟩=>?_) fun _ _ q=>q.elim)
   have I7':=I7.pinned (stat fr7) (T.obj _ _ st7)
   have asg:uS (uV X.prog X.w) X.A (dX (.Name x px) (wU scope cl s3.heap.objs.size X.env) u) (fun _ s8=>Inv X' ([]++qbs fp s7.heap) (some v :: qay caps σ) H7 s8) (fun _ _=>False) s7:=by
    subst hX
    exact cI (qef (X:=cxC X (x :: cn) scope cl s3.heap.objs.size s3 (upd H2 acc (.lst [])) fp) (i:=0) I7' Cp.nd rfl (.inl (bW Cp.tg)) r7 (fun s' I'=>I') (.inr (bW Cp.tg)))
   refine uA (vD asg (fun _ s8 I8=>?_) fun _ _ q=>q.elim)
   have tst:uS (uV X.prog X.w) X.A (forIn ifs true fun c r=>if r=true then do let ok<-isTrue c (wU scope cl s3.heap.objs.size X.env) (wG c (wU scope cl s3.heap.objs.size X.env));pure (wZ ok) else pure (wZ r))
     (TP X' ([]++qbs fp s7.heap) (some v :: qay caps σ) (fun b H9=>if b=true then te s3.heap.objs.size s3 (upd H2 acc (.lst [])) fp (some v :: qay caps σ) H9 (fun y H3=>rApp acc N y H3) else N H9)) (fun _ _=>False) s8:=by
    subst hX
    exact ht _ _ _ _ _ s8 _ H7 _ I8 (step v H7 y7)
   refine uA (vD tst (fun b s9 ⟨H9,I9,q9⟩=>?_) fun _ _ q=>q.elim)
   have fin:∀{a:Option V} {H10:Hp} {s10:uE},Inv X' ([]++qbs fp s7.heap) (a :: qay caps σ) H10 s10->N H10->∃m',m' < n/\∃i a H',Inv X' [] (a :: qay caps σ) H' s10/\tn i s10.heap/\(∀b∈fp,H' b=none)/\W i m' H':=fun {a H10 s10} I10 n10=>
    let ⟨m',hm,w10⟩:=hN _ n10
    ⟨m',hm,i+1,a,H10,I10.unpinned,T.keep _ _ _ st7 fun b hb o e=>(I10.pin (b,o) (zP _ (zP _ (qbr hb e)))).1,fun b hb=>by
     obtain⟨o,e,d⟩:=T.obj _ _ st7 b hb
     exact(I10.pin (b,o) (zP _ (zP _ (qbr hb e)))).2.1,w10⟩
   cases b with
   |false=>exact uG ⟨rfl,fin I9 q9⟩
   |true=>
    have elt':uS (uV X.prog X.w) X.A (wG elt (wU scope cl s3.heap.objs.size X.env)) (EP X' ([]++qbs fp s7.heap) (some v :: qay caps σ) (fun y H3=>rApp acc N y H3)) (fun _ _=>False) s9:=by
     subst hX
     exact he _ _ _ _ _ s9 _ H9 _ I9 q9
    refine uA (uA (vD elt' (fun y s10 ⟨w,H10,I10,r10,ys,ha,hz,q10⟩=>?_) fun _ _ q=>q.elim))
    have app:uS (uV X.prog X.w) X.A (call (.builtin "list.append") [.ref acc,y]) (EP X' ([]++qbs fp s7.heap) (some v :: qay caps σ) fun _ H11=>H11=upd H10 acc (.lst (ys++ [w]))) (fun _ _=>False) s10:=by
     subst hX
     exact qb1 (X:=cxC X (x :: cn) scope cl s3.heap.objs.size s3 (upd H2 acc (.lst [])) fp) _ s10 _ H10 (.ref acc) [w] (.ref acc) [y] _ I10 rfl (.cons r10 .nil) ⟨acc,ys,w,rfl,rfl,ha,hz,rfl⟩
    refine uA (vD app (fun _ s11 ⟨_,H11,I11,_,e11⟩=>?_) fun _ _ q=>q.elim)
    subst e11
    exact uG (uG ⟨rfl,fin I11 q10⟩)
 exact dG core (T.self _ 0 _ _ _ st4 core)
end
section
variable {X: Cx} {pins: List (Addr × Obj)} {σ: L2.St} {H: Hp} {s: uE} {h': vP}
theorem Inv.turnedL {t':Nat} {ch:List Addr} (I:Inv X pins σ H s) (hf:∀b∈ch,qgc X pins H b) (k:∀b o,b∉ch->s.heap.get? b=some o->h'.get? b=some o):Inv X pins σ H {s with heap:=h',toks:=t'}:=by
 have nit:∀b u,H b=some u->b∉ch:=fun b u e z=>by rw [(hf b z).1] at e;cases e
 refine I.step (g':=s.gens) (d':=s.drawn) (ch:=ch) (fun b hb=>⟨(hf b hb).2.2.2.1,(hf b hb).2.1,(hf b hb).2.2.2.2.1,(hf b hb).2.2.2.2.2⟩) (fun b o _ _ hc e _=>k b o hc e) (fun b o _ _ hc e _=>⟨o.slots,k b o hc e⟩) (fun _ _ _ _ n=>n)
  (fun b o hc e=>⟨o,k b o hc e⟩) (fun _ _ e=>e) (fun _ _ _ e=>e) (fun b ps e=>⟨#[],by rw [e];simp⟩) (fun m hm=>?_) (fun b u e=>?_) I.bare
 .obtain⟨o,es,ep,ho,r⟩:=hm
  exact⟨o,es,ep,k _ o (fun z=>(hf _ z).2.1 rfl) ho,r⟩
 .refine(I.hok b u e).stay (fun c v hc q=>k c v ?_ q) (fun _ q=>q) fun _ _ q=>q
  rcases hc with rfl|hc
  .exact nit _ _ e
  .exact nit _ _ hc
theorem Inv.turnedT {t':Nat} {ch:List Addr} {T:Addr} {ob:HO} (I:Inv X pins σ H s) (hf:∀b∈ch,qgc X pins H b) (k:∀b o,b∉ch->s.heap.get? b=some o->h'.get? b=some o) (hT:s.heap.get? T=none) (hn:H T=none) (new:qbh X.prog X.w (upd H T ob) h' T ob):
  Inv X pins σ (upd H T ob) {s with heap:=h',toks:=t'}:=by
 have nit:∀b u,H b=some u->b∉ch:=fun b u e z=>by rw [(hf b z).1] at e;cases e
 refine I.step (g':=s.gens) (d':=s.drawn) (ch:=ch) (fun b hb=>⟨(hf b hb).2.2.2.1,(hf b hb).2.1,(hf b hb).2.2.2.2.1,(hf b hb).2.2.2.2.2⟩) (fun b o _ _ hc e _=>k b o hc e) (fun b o _ _ hc e _=>⟨o.slots,k b o hc e⟩)
  (fun b o _ e n=>by rw [qa6 (fun z=>by subst z;rw [hT] at e;cases e)];exact n)
  (fun b o hc e=>⟨o,k b o hc e⟩) (fun b xs e=>by rw [qa6 (qa8 e hn)];exact e) (fun b o u e=>by rw [qa6 (qa8 e hn)];exact e) (fun b ps e=>⟨#[],by rw [qa6 (qa8 e hn),e];simp⟩) (fun m hm=>?_) (fun b u e=>?_) I.bare
 .obtain⟨o,es,ep,ho,r⟩:=hm
  exact⟨o,es,ep,k _ o (fun z=>(hf _ z).2.1 rfl) ho,r⟩
 .by_cases hb:b=T
  .subst hb;rw [qa1] at e;cases e;exact new
  .rw [qa6 hb] at e
   refine(I.hok b u e).stay (fun c v hc q=>k c v ?_ q) (fun c q=>by rw [qa6 (qa8 q hn)];exact q) fun c xs q=>by rw [qa6 (qa8 q hn)];exact q
   rcases hc with rfl|hc
   .exact nit _ _ e
   .exact nit _ _ hc
end
def ItZ (K:uR) (l1 l2:Addr) (xs ys:List V):It:=
 ⟨fun i H=>SqL K H l1 xs/\SqL K H l2 ys/\i < xs.length/\i < ys.length,fun i H v H'=>∃T x y,H T=none/\xs[i]?=some x/\ys[i]?=some y/\v=.ref T/\H'=upd H T (.tup [x,y]),fun i H=>SqL K H l1 xs/\SqL K H l2 ys/\(xs.length<=i\/ys.length<=i)⟩
def ZSt (z TI TO i1 i2 l1 l2:Addr) (i:Nat) (h:vP):Prop:=IsZip h z TI TO .none/\IsPair h TI (.ref i1) (.ref i2)/\(∃a b,IsPair h TO a b)/\h.IsListIter i1 l1 i/\h.IsListIter i2 l2 i
theorem turn_zip {P:uY} {w:vL} {K:uR} {elts:List vQ} {kk:Nat} {tp:Pos} {z TI TO i1 i2 l1 l2:Addr} (D:ZipApart z TI TO i1 i2 l1 l2) (xs ys:List V):
  Turn P w K (.Tuple elts kk tp) (ItZ K l1 l2 xs ys) [z,TI,TO,i1,i2] z (ZSt z TI TO i1 i2 l1 l2) where
 mem:=by simp
 obj:=fun i h st b hb=>by
  obtain⟨hz,hTI,⟨a,c,hTO⟩,⟨o1,e1,_,d1⟩,o2,e2,_,d2⟩:=st
  simp only [zM,yF,or_false] at hb
  rcases hb with rfl|rfl|rfl|rfl|rfl
  .exact⟨_,hz,fun v q=>by have q':Data.fields _=gF v:=q;cases q'⟩
  .exact⟨_,hTI,fun v q=>by have q':Data.seq _ _=gF v:=q;cases q'⟩
  .exact⟨_,hTO,fun v q=>by have q':Data.seq _ _=gF v:=q;cases q'⟩
  .exact⟨o1,e1,fun v q=>by rw [d1] at q;cases q⟩
  .exact⟨o2,e2,fun v q=>by rw [d2] at q;cases q⟩
 keep:=fun i h h' st k=>by
  obtain⟨hz,hTI,⟨a,c,hTO⟩,h1,h2⟩:=st
  exact⟨k z (by simp) _ hz,k TI (by simp) _ hTI,⟨a,c,k TO (by simp) _ hTO⟩,h1.at fun o e=>k i1 (by simp) o e,h2.at fun o e=>k i2 (by simp) o e⟩
 item:=by
  intro X hP hw hK hc i pins s σ H E I hf st hg
  subst hP hw hK
  obtain⟨hz,hTI,⟨a,c,hTO⟩,h1,h2⟩:=st
  obtain⟨q1,q2,g1,g2⟩:=hg
  obtain⟨us,r1,p1,_⟩:=I.list q1
  obtain⟨ws,r2,p2,_⟩:=I.list q2
  obtain⟨u1,hu1,ru1⟩:=r1.get (zA g1)
  obtain⟨u2,hu2,ru2⟩:=r2.get (zA g2)
  refine wpAny_pyNext_zip_item D hz hTI hTO h1 h2 (PlainL.isList p1) (PlainL.isList p2) (x:=u1) (y:=u2) (by simpa using hu1) (by simpa using hu2) fun h' b1 b2 b3 b4 b5 b6 hk=>?_
  have hn:H s.heap.objs.size=none:=I.hok.fresh (uF _)
  have lt:∀{b:Addr} {o:Obj},s.heap.get? b=some o->b≠s.heap.objs.size:=fun e=>uX (uL e)
  have nz:z≠s.heap.objs.size:=lt hz
  have hg0:s.heap.get? s.heap.objs.size=none:=aD (uF _)
  have I1:Inv X pins σ (upd H s.heap.objs.size (.tup [xs[i],ys[i]])) {s with heap:=h'}:=Inv.turnedT (t':=s.toks) (ch:=[z,TO,i1,i2]) I
   (fun b hb=>hf b (by simp only [zM,yF,or_false] at hb ⊢;rcases hb with e|e|e|e <;> simp [e]))
   (fun b o hb e=>hk b o (fun q=>hb (by simp [q])) (fun q=>hb (by simp [q])) (fun q=>hb (by simp [q])) (fun q=>hb (by simp [q])) e) hg0 hn
   ⟨by show 2<=16777216;decide, [u1,u2],.cons ru1 (.cons ru2 .nil),⟨_,b5,rfl,_,rfl⟩⟩
  refine⟨.ref s.heap.objs.size,rfl,wpAny_letOwnedTupleGo_zip (s:={s with heap:=h'}) b1 fun h2' c1 hs2=>?_⟩
  have hfz:=hf z (by simp)
  have I2:Inv X pins σ (upd H s.heap.objs.size (.tup [xs[i],ys[i]])) {s with heap:=h2'}:=I1.turned (t':=s.toks) (fun b o hb e=>(hs2.2 b hb).trans e) (by rw [qa6 nz];exact hfz.1) hfz.2.1 hfz.2.2.2.1 hfz.2.2.2.2.1 hfz.2.2.2.2.2
  refine⟨.ref s.heap.objs.size,_,I2,rfl,⟨s.heap.objs.size,xs[i],ys[i],hn,zA g1,zA g2,rfl,rfl⟩,
   ⟨c1,hs2.extBut _ _ D.TIz (hk _ _ D.TIz D.TITO D.TIi1 D.TIi2 hTI),⟨_,_,hs2.extBut _ _ D.TOz b2⟩,b3.extBut hs2.extBut D.i1z,b4.extBut hs2.extBut D.i2z⟩,fun b hb=>?_⟩
  have e:b≠s.heap.objs.size:=by
   simp only [zM,yF,or_false] at hb
   obtain⟨o1,e1,_⟩:=h1
   obtain⟨o2,e2,_⟩:=h2
   rcases hb with rfl|rfl|rfl|rfl|rfl
   .exact nz
   .exact lt hTI
   .exact lt hTO
   .exact lt e1
   .exact lt e2
  rw [qa6 e]
  exact(hf b hb).1
 done:=by
  intro X hP hw hK hc i pins s σ H E I hf st hg
  subst hP hw hK
  obtain⟨hz,hTI,⟨a,c,hTO⟩,h1,h2⟩:=st
  obtain⟨q1,q2,g⟩:=hg
  obtain⟨us,r1,p1,_⟩:=I.list q1
  obtain⟨ws,r2,p2,_⟩:=I.list q2
  have l1:=r1.length
  have l2:=r2.length
  exact wpAny_pyNext_zip_end (I.ok.hd hc) D hz hTI hTO h1 h2 (PlainL.isList p1) (PlainL.isList p2) (g.elim (fun g=> .inl (by simp;omega)) fun g=> .inr (by simp;omega)) fun h' hk=>
   ⟨rfl,Inv.turnedL (t':=s.toks) (ch:=[z,TO,i1,i2]) I (fun b hb=>hf b (by simp only [zM,yF,or_false] at hb ⊢;rcases hb with e|e|e|e <;> simp [e]))
    fun b o hb e=>hk b o (fun q=>hb (by simp [q])) (fun q=>hb (by simp [q])) (fun q=>hb (by simp [q])) (fun q=>hb (by simp [q])) e⟩
 self:=fun _ _ _ _ _ st h=>wpAny_pyIter_zip st.1 h
def rItZ (K:uR) (vs:List V) (H:Hp) (R:It->Hp->Prop):Prop:=∃l1 l2 xs ys,vs=[.ref l1,.ref l2]/\SqL K H l1 xs/\SqL K H l2 ys/\R (ItZ K l1 l2 xs ys) H
def iZip (K:uR) (ta:TA):TI:=fun σ H R=>ta σ H fun vs H1=>rItZ K vs H1 R
theorem boot_zip:xM "zip" =some (.type "zip"):=by decide+kernel
theorem pi_zip {X:Cx} {elts:List vQ} {kk:Nat} {tp:Pos} {a b:vQ} {ta:TA} {p pos:Pos} (hg:Gl X "zip") (hm:X.mg "zip" =none) (ha:PA X [a,b] ta) (hs:uZ [a,b] X.env=[(false,wG a X.env),(false,wG b X.env)]:=by rfl) (hs2:uZ [b] X.env=[(false,wG b X.env)]:=by rfl):
  PI X (.Tuple elts kk tp) (.Call (.Name "zip" p) [a,b] [] pos) (iZip X.K ta):=by
 intro pins s σ H R I h
 refine Call_ (qe0 I hg hm boot_zip (wD (thn (ha pos pins s σ H _ I h) fun us s1 ⟨vs,H1,I1,r1,q1⟩=>?_) (by rw [hs,hs2]) (by rw [hs2];rfl)))
 obtain⟨l1,l2,xs,ys,rfl,g1,g2,q⟩:=q1
 cases r1 with
 |cons r rr=>
  cases rr with
  |cons r' rr=>
   cases rr
   cases r
   cases r'
   obtain⟨us,v1,p1,_⟩:=I1.list g1
   obtain⟨ws,v2,p2,_⟩:=I1.list g2
   have t1:=PlainL.isList p1
   have t2:=PlainL.isList p2
   have lt1:l1 < s1.heap.objs.size:=by obtain⟨_,e,_⟩:=t1;exact uL e
   have lt2:l2 < s1.heap.objs.size:=by obtain⟨_,e,_⟩:=t2;exact uL e
   refine call_zip_2 t1 t2 fun h' hz hTI hTO hi1 hi2 hsz hk=>?_
   have I2:Inv X pins σ H1 {s1 with heap:=h'}:=I1.kept (t':=s1.toks) fun b o e=>hk b o e
   refine wpAny_pyIter_zip (s:={s1 with heap:=h'}) hz ?_
   refine⟨s1.heap.objs.size+4,_,_,_,H1,rfl,I2,turn_zip (zipApart_new lt1 lt2) xs ys,⟨hz,hTI,⟨_,_,hTO⟩,hi1,hi2⟩,fun b hb=>?_,q⟩
   have le:s1.heap.objs.size<=b:=by
    simp only [zM,yF,or_false] at hb
    rcases hb with rfl|rfl|rfl|rfl|rfl <;> omega
   exact I1.fpOk le (I1.hok.fresh le)
section
variable {K: uR} {σ: L2.St} {H: Hp} {D: Ends} {g: TG} {tb: TS} {ta: TA} {l1 l2: Addr} {xs ys: List V}
theorem r_iZ {R:It->Hp->Prop} (h:ta σ H fun vs H1=>rItZ K vs H1 R):iZip K ta σ H R:=h
theorem r_itZ {R:It->Hp->Prop} (e1:SqL K H l1 xs) (e2:SqL K H l2 ys) (h:R (ItZ K l1 l2 xs ys) H):rItZ K [.ref l1,.ref l2] H R:=⟨l1,l2,xs,ys,rfl,e1,e2,h⟩
theorem f_zip (hxy:xs.length=ys.length) (Pv:Nat->L2.St->Hp->Prop) (h0:Pv 0 σ H) (hl:∀i σ H,Pv i σ H->SqL K H l1 xs/\SqL K H l2 ys)
  (hs:∀i x y T σ H,xs[i]?=some x->ys[i]?=some y->Pv i σ H->H T=none->g (.ref T) σ (upd H T (.tup [x,y])) fun σ2 H2=>tb {nx:=Pv (i+1),rt:=D.rt,bk:=D.nx,ct:=Pv (i+1)} σ2 H2) (hd:∀σ H,Pv xs.length σ H->D.nx σ H):FOR (ItZ K l1 l2 xs ys) g tb D σ H:=by
 refine⟨fun i m σ H=>m=xs.length - i/\i<=xs.length/\Pv i σ H,⟨xs.length,rfl,vY _,h0⟩,?_⟩
 rintro i m σ H ⟨rfl,hi,p⟩
 obtain⟨q1,q2⟩:=hl i σ H p
 by_cases hlt:i < xs.length
 .refine .inr ⟨⟨q1,q2,hlt,by omega⟩,Pv (i+1),fun σ' H' p'=>⟨xs.length - (i+1),by omega,rfl,hlt,p'⟩,fun v H' e=>?_⟩
  obtain⟨T,x,y,hT,hx,hy,rfl,rfl⟩:=e
  exact hs i x y T σ H hx hy p hT
 .have e:i=xs.length:=by omega
  subst e
  exact .inl ⟨⟨q1,q2,.inl (uF _)⟩,hd σ H p⟩
end
section
variable {prog: uY} {w: vL} {A: vM} {E: uC -> uE -> Prop} {s: uE}
theorem set_exact {l:Addr} {items:Array uC} {n:Nat} {k:Int} {t:Tok} {v:uC} {Q:Unit->uE->Prop} (ho:s.heap.get? l=some {cls:=.type "list",data:=.seq items n}) (h0:0<=k) (hk:k < items.size) (hfit:k < 2^63)
  (q:Q () {s with heap:=s.heap.update l (fF fun a=>a.setIfInBounds k.toNat v)}):uS (uV prog w) A (setItem (.ref l) (.int k t) v) Q E s:=by
 have hT:s.TypeIs (.ref l) "list":=⟨_,ho,rfl⟩
 unfold setItem
 try with_reducible refine wR ?_
 first|refine uA (uG ?_) |skip
 refine uA (wpAny_sequenceKey hT (by decide) ?_)
 refine uA (xH (name:=wH "__setitem__") hT slot_list_setitem (wK slot_list_setitem hT entry_list_setitem ?_ (args_list_setitem _ _ _)))
 show uS _ _ (Builtin.List.listSubscript? (.int k t) >>= _) _ _ s
 refine uA (wpAny_listSubscript_int (fitsIndex_of h0 hfit) ?_)
 clear hfit
 obtain⟨j,rfl⟩:=wL h0
 have hj:j < items.size:=by omega
 have hx:items[j]?=some items[j]:=wO hj
 show uS _ _ ((seqItemAt l j >>= fun r=>pure (r.map (j,·))) >>= _) _ _ s
 refine uA (uA (wpAny_seqItemAt ho rfl (uG ?_)))
 rw [hx]
 show uS _ _ (setSeqItemAt l j v >>= _) _ _ s
 refine uA (wpAny_setSeqItemAt ho rfl ?_)
 first
 |exact uA (uG (uG ⟨.none,rfl,uG q⟩))
 |exact uG ⟨.none,rfl,uG q⟩
end
def rLP (x y v:V) (H:Hp) (D:Ends) (σ:L2.St):Prop:=∃l xs k,x=.ref l/\y=.int (k:Nat)/\H l=some (.lst xs)/\k < xs.length/\D.nx σ (upd H l (.lst (xs.set k v)))
def sLPut (td ty tv:TE):TS:=fun D σ H=>tv σ H fun v H1=>td σ H1 fun x H2=>ty σ H2 fun y H3=>rLP x y v H3 D σ
theorem ps_lput {X:Cx} {o i value:vQ} {pos pos':Pos} {td ty tv:TE} (ho:PE X o td) (hi:PE X i ty) (hv:PE X value tv) (hs:eF value (some (.Subscript o i pos')) pos.line X.env=pure false):PS X (.Assign [.Subscript o i pos'] value pos) (sLPut td ty tv):=by
 intro pins s σ H D I h
 refine wpAny_Assign_Subscript (thn (hv pins s σ H _ I h) fun r s1 ⟨v,H1,I1,rv,q1⟩=>thn (ho pins s1 σ H1 _ I1 q1) fun u s2 ⟨x,H2,I2,rx,q2⟩=>thn (hi pins s2 σ H2 _ I2 q2) fun iv s3 ⟨y,H3,I3,ry,q3⟩=>?_) hs
 obtain⟨l,xs,k,rfl,rfl,hl,hk,q⟩:=q3
 obtain rfl:u=uO l:=rx
 obtain⟨t,rfl⟩:=ry
 obtain⟨z,its,n,rr,hlen,e⟩:=I3.lstM hl
 have hz:xs.length<=16777216:=z
 refine set_exact e (Int.natCast_nonneg k) (by simp;omega) (by omega) ?_
 rw [xB]
 exact⟨σ,_,I3.lset (its':=its.set k r) (ys:=xs.set k v) (t':=s3.toks) hl e (by simp) (rr.set rv k) (by rw [dO];exact z),q⟩
section
variable {X: Cx}
def tAlt (t1 t2:TE):TE:=fun σ H Q=>t1 σ H Q\/t2 σ H Q
theorem pe_alt {e:vQ} {t1 t2:TE} (h1:PE X e t1) (h2:PE X e t2):PE X e (tAlt t1 t2):=fun pins s σ H Q I h=>h.elim (h1 pins s σ H Q I) (h2 pins s σ H Q I)
def rMax:List V->Hp->VK->Prop:=fun xs H Q=>∃i j,xs=[.int i,.int j]/\Q (.int (if j > i then j else i)) H
def rMin:List V->Hp->VK->Prop:=fun xs H Q=>∃i j,xs=[.int i,.int j]/\Q (.int (if j < i then j else i)) H
theorem call_maxR (hc:X.calm=true):qc7 X (.builtin "max") rMax:=call_max2 hc
theorem call_minR (hc:X.calm=true):qc7 X (.builtin "min") rMin:=call_min2 hc
end
section
variable {σ: L2.St} {H: Hp} {Q: VK} {D: Ends} {td ty tv t1 t2: TE} {l: Addr} {xs: List V} {k: Nat} {v: V} {i j: Int}
theorem r_lp (h:tv σ H fun v H1=>td σ H1 fun x H2=>ty σ H2 fun y H3=>rLP x y v H3 D σ):sLPut td ty tv D σ H:=h
theorem r_lpk (e:H l=some (.lst xs)) (hk:k < xs.length) (h:D.nx σ (upd H l (.lst (xs.set k v)))) {y:Int} (ey:y=(k:Int)):rLP (.ref l) (.int y) v H D σ:=by subst ey;exact⟨l,xs,k,rfl,rfl,e,hk,h⟩
theorem r_alt1 (h:t1 σ H Q):tAlt t1 t2 σ H Q:=.inl h
theorem r_alt2 (h:t2 σ H Q):tAlt t1 t2 σ H Q:=.inr h
theorem r_max (h:Q (.int (if j > i then j else i)) H):rMax [.int i,.int j] H Q:=⟨i,j,rfl,h⟩
theorem r_min (h:Q (.int (if j < i then j else i)) H):rMin [.int i,.int j] H Q:=⟨i,j,rfl,h⟩
end
section
variable {K: uR} {σ: L2.St} {H: Hp} {Q: VK} {D: Ends} {ta tv: TE} {t: TA} {a C dx: Addr} {fs: List (Str × V)} {f m: Str} {v y: V} {sp: Sp} {dvs: List V} {E: XK}
def kMk (C:Addr) (sp:Sp) (dvs:List V) (E:XK) (Q:VK) (vs:List V) (H:Hp):Prop:=∀x dx,H x=none->H dx=none->dx≠x->sp (.ref x ::(vs++dvs)) (upd (upd H dx (.own x)) x (.ins C dx [])) (fun v H2=>v=.non/\Q (.ref x) H2) E
theorem r_mk (h:t σ H fun vs H1=>kMk C sp dvs E Q vs H1):tMake C sp dvs E t σ H Q:=h
def kMt (C:Addr) (m:Str) (sp:Sp) (dvs:List V) (E:XK) (t:TA) (σ:L2.St) (Q:VK) (x:V) (H:Hp):Prop:=∃a dx fs,x=.ref a/\H a=some (.ins C dx fs)/\fs.lookup m=none/\t σ H fun vs H2=>sp (x ::(vs++dvs)) H2 Q E
theorem r_mt (h:ta σ H fun x H1=>kMt C m sp dvs E t σ Q x H1):tMeth C m sp dvs E ta t σ H Q:=h
theorem r_mtk (e:H a=some (.ins C dx fs)) (l:fs.lookup m=none) (h:t σ H fun vs H2=>sp (.ref a ::(vs++dvs)) H2 Q E):kMt C m sp dvs E t σ Q (.ref a) H:=⟨a,dx,fs,rfl,e,l,h⟩
def kFl (K:uR) (f:Str) (Q:VK) (x:V) (H:Hp):Prop:=∃a C dx fs v,x=.ref a/\H a=some (.ins C dx fs)/\Cls K C/\qax K C f/\fs.lookup f=some v/\Q v H
theorem r_fl (h:ta σ H fun x H1=>kFl K f Q x H1):tFld K ta f σ H Q:=h
theorem r_flk (e:H a=some (.ins C dx fs)) (c:Cls K C) (n:qax K C f) (l:fs.lookup f=some v) (h:Q v H):kFl K f Q (.ref a) H:=⟨a,C,dx,fs,v,rfl,e,c,n,l,h⟩
def kFs (K:uR) (f:Str) (y:V) (D:Ends) (σ:L2.St) (x:V) (H:Hp):Prop:=∃a C dx fs,x=.ref a/\H a=some (.ins C dx fs)/\Cls K C/\qax K C f/\fs.length < 1000/\D.nx σ (upd H a (.ins C dx (qes f y fs)))
theorem r_fs (h:tv σ H fun y H1=>ta σ H1 fun x H2=>kFs K f y D σ x H2):sFld K ta tv f D σ H:=h
theorem qfs (e:H a=some (.ins C dx fs)) (c:Cls K C) (n:qax K C f) (hz:fs.length < 1000) (h:D.nx σ (upd H a (.ins C dx (qes f y fs)))):kFs K f y D σ (.ref a) H:=⟨a,C,dx,fs,rfl,e,c,n,hz,h⟩
end
structure IsC (K:uR) (C:Addr):Prop where
 ha:vS K (.ref C) "__class__" =some (some (.builtin "object.__class__"))
 hn:eC K (.builtin "object.__class__") "__get__" =some (some (.builtin "getset_descriptor.__get__"))
 htk:PySem.W.takesIn K (.builtin "object.__class__")=some true
 hm:mroIn K C (.type "object")=some true
section
variable {X: Cx} {k: Nat} {f C: Addr} {fd: uM} {ps: List Str} {sp: Sp} {dvs: List V} {ds: List uC} {W: L2.St -> XK} {x m: Str} {p pos apos: Pos} {e o: vQ} {es: List vQ} {ta: TE} {t: TA}
def tMethX (C:Addr) (m:Str) (sp:Sp) (dvs:List V) (W:L2.St->XK) (ta:TE) (t:TA):TE:=fun σ H Q=>ta σ H fun x H1=>∃a dx fs,x=.ref a/\H1 a=some (.ins C dx fs)/\fs.lookup m=none/\t σ H1 fun vs H2=>sp (x ::(vs++dvs)) H2 Q (W σ)
theorem qb6 {pl:Sem Bool} (he:PE X o ta) (c:Cls X.K C) (hm:Meth X.K C m f) (F:FnOk X.prog X.w X.K X.mg X.base (CX1 X.prog X.w) k f fd ps sp) (hr:Room k X.A) (hb:qao X.K fd ps ds) (hd:qba dvs ds) (hx:Xes X W) (ha:PA X (e :: es) t) (hex:X.ex=[]:=by rfl)
  (hst:uZ (e :: es) X.env=(false,wG e X.env) :: uZ es X.env:=by rfl) (hpl:(wT pos (uZ es X.env)).any (·.1)=false:=by rfl)
  (ht:wG (.Call (.Attribute o m apos) (e :: es) [] pos) X.env=(do
   let ov<-wG o X.env
   standAt apos.atName
   let (f,first)<-fO [ov] (eG ov m pl)
   fR pos f first (wT pos (uZ (e :: es) X.env)) (cZ pos (aV [] X.env))):=by rfl):
  PE X (.Call (.Attribute o m apos) (e :: es) [] pos) (tMethX C m sp dvs W ta t):=by
 intro pins s σ H Q I h
 refine bJ (pl:=pl) (thn (he pins s σ H _ I h) fun u s1 ⟨x,H1,I1,rx,a,dx,fs,ex,ea,l,q⟩=>?_) ht
 subst ex
 obtain rfl:u=uO a:=rx
 refine qdf I1 ea c hm l (xO (first:=[.ref a]) (h₀:=X.base) I.ok.mod.kin hm.kp (thn (ha pos pins s1 σ H1 _ I1 q) fun us s2 ⟨vs,H2,I2,r,q2⟩=>⟨I2.kIn,?_⟩) hst hpl)
 exact run_fnX (us:=.ref a :: us) (vs:=.ref a :: vs) F hr hb hd hx hex I2 (.cons rfl r) q2
def tMakeX (C:Addr) (sp:Sp) (dvs:List V) (W:L2.St->XK) (t:TA):TE:=fun σ H Q=>t σ H fun vs H1=>∀x dx,H1 x=none->H1 dx=none->dx≠x->sp (.ref x ::(vs++dvs)) (upd (upd H1 dx (.own x)) x (.ins C dx [])) (fun v H2=>v=.non/\Q (.ref x) H2) (W σ)
theorem run_makeX {pins:List (Addr × Obj)} {σ:L2.St} {H:Hp} {s:uE} {Q:VK} {us:List uC} {vs:List V} (M:Mk X.K C f) (F:FnOk X.prog X.w X.K X.mg X.base (CX1 X.prog X.w) k f fd ps sp) (hr:Room (k+1) X.A) (hb:qao X.K fd ps ds) (hd:qba dvs ds)
  (hx:Xes X W) (hex:X.ex=[]) (I:Inv X pins σ H s) (r:qba vs us)
  (h:∀x dx,H x=none->H dx=none->dx≠x->sp (.ref x ::(vs++dvs)) (upd (upd H dx (.own x)) x (.ins C dx [])) (fun v H2=>v=.non/\Q (.ref x) H2) (W σ)):
  uS (uV X.prog X.w) X.A (call (.ref C) us) (EP X pins σ Q) X.xe s:=by
 have hq:=h (s.heap.objs.size+1) s.heap.objs.size (I.hok.fresh (aE _)) (I.hok.fresh (uF _)) (uX (bM _))
 have I2:=Inv.made (C:=C) I
 have r2:qba (V.ref (s.heap.objs.size+1) ::(vs++dvs)) (uO (s.heap.objs.size+1) ::(us++ds)):=.cons rfl (r.append hd)
 have hl:(uO (s.heap.objs.size+1) :: us++ds).length=ps.length:=by
  have e:=r2.length
  rw [F.len _ _ _ _ hq] at e
  exact e.symm
 refine bN (make_map (f:=f) I.kIn M.makes M.init (beq_iff_eq.mp M.fn) (xN (F.run _ X.stack _ _ ⟨uO (s.heap.objs.size+1) :: us, []⟩ (uO (s.heap.objs.size+1) ::(us++ds)) _ _ (W σ) (hr.make C us [])
  (I2.env0.make C us []) (hb _ (uO (s.heap.objs.size+1) :: us) I2.kIn hl) r2 hq) fun r s' hq'=>?_))
 cases r with
 |error e=>exact xes_call hx hex I2 hq'
 |ok fl=>
  cases fl with
  |ret u=>
   obtain⟨v,H',I3,rv,ev,q3⟩:=I2.after hq'
   subst ev
   exact⟨rv,⟨V.ref (s.heap.objs.size+1),H',I3,rfl,q3⟩⟩
  |next=>exact vW hq'
  |brk=>exact vW hq'
  |cont=>exact vW hq'
theorem pe_makeX (M:Mk X.K C f) (F:FnOk X.prog X.w X.K X.mg X.base (CX1 X.prog X.w) k f fd ps sp) (hr:Room (k+1) X.A) (hg:Gl X x) (hm:X.mg x=some (.ref C)) (hb:qao X.K fd ps ds) (hd:qba dvs ds) (hx:Xes X W)
  (ha:PA X (e :: es) t) (hex:X.ex=[]:=by rfl) (hdb:(x==("__debug__" :Str))=false:=by decide) (he:uZ (e :: es) X.env=(false,wG e X.env) :: uZ es X.env:=by rfl) (hpl:(wT pos (uZ es X.env)).any (·.1)=false:=by rfl):
  PE X (.Call (.Name x p) (e :: es) [] pos) (tMakeX C sp dvs W t):=by
 intro pins s σ H Q I h
 refine wW (qdq I hg hm ?_ hdb)
 refine xO (h₀:=X.base) I.ok.mod.kin M.kp (thn (ha pos pins s σ H _ I h) fun us s1 ⟨vs,H1,I1,r,q⟩=>⟨I1.kIn,?_⟩) he hpl
 exact run_makeX M F hr hb hd hx hex I1 r q
end
structure FunD (K:uR) (x qual:Str) (st:Stmt) (f:Addr) (fd:uM) (T:Addr) (items:Array uC):Prop where
 ex:∃(oc:uC) (od:Option Addr) (kV doc pm:uC) (an:Option Addr) (cdv ct:uC) (osl:Array (Option uC)),
  fd=fnOf x qual (qce st) (qbx st) (qaa st) (.ref T) kV doc pm an cdv ct/\K.lookup f=some ⟨oc,od,.func fd,osl⟩/\gE K cdv qual=true
 kp:dB K (.ref f)=true
 tup:∃(o:Obj) (n:Nat),K.lookup T=some o/\o.data=.seq items n
section
variable {K: uR} {x qual: Str} {st: Stmt} {f T: Addr} {fd: uM} {ps: List Str} {items: Array uC}
theorem FunD.binds (F:FunD K x qual st f fd T items) {ds:List uC} (h:∀(kV doc pm:uC) (an:Option Addr) (cdv ct:uC) (us:List uC),(us++ds).length=ps.length->
   bindArgs (fnOf x qual (qce st) (qbx st) (qaa st) (.ref T) kV doc pm an cdv ct) ⟨us, []⟩=pure (ps.zip (us++ds))\/
   ∃g:Option (Array uC)->Sem (List (Str × uC)),bindArgs (fnOf x qual (qce st) (qbx st) (qaa st) (.ref T) kV doc pm an cdv ct) ⟨us, []⟩=seqItems? (.ref T) >>= g/\g (some items)=pure (ps.zip (us++ds))):qao K fd ps ds:=by
 obtain⟨oc,od,kV,doc,pm,an,cdv,ct,osl,rfl,lk,hcd⟩:=F.ex
 obtain⟨o,n,hT,hd⟩:=F.tup
 intro s us KX hl
 rcases h kV doc pm an cdv ct us hl with h|⟨g,h1,h2⟩
 .exact .of_eq h
 .exact BindsTo.of_defaults (T:=T) rfl (KX _ _ hT) hd h1 h2
end
section
variable {σ: L2.St} {H: Hp} {Q: VK} {ta: TE} {t: TA} {a C dx: Addr} {fs: List (Str × V)} {m: Str} {sp: Sp} {dvs: List V} {W: L2.St -> XK}
def kMtX (C:Addr) (m:Str) (sp:Sp) (dvs:List V) (W:L2.St->XK) (t:TA) (σ:L2.St) (Q:VK) (x:V) (H:Hp):Prop:=∃a dx fs,x=.ref a/\H a=some (.ins C dx fs)/\fs.lookup m=none/\t σ H fun vs H2=>sp (x ::(vs++dvs)) H2 Q (W σ)
theorem r_mtX (h:ta σ H fun x H1=>kMtX C m sp dvs W t σ Q x H1):tMethX C m sp dvs W ta t σ H Q:=h
theorem r_mtkX (e:H a=some (.ins C dx fs)) (l:fs.lookup m=none) (h:t σ H fun vs H2=>sp (.ref a ::(vs++dvs)) H2 Q (W σ)):kMtX C m sp dvs W t σ Q (.ref a) H:=⟨a,dx,fs,rfl,e,l,h⟩
def kMkX (C:Addr) (sp:Sp) (dvs:List V) (W:L2.St->XK) (σ:L2.St) (Q:VK) (vs:List V) (H:Hp):Prop:=∀x dx,H x=none->H dx=none->dx≠x->sp (.ref x ::(vs++dvs)) (upd (upd H dx (.own x)) x (.ins C dx [])) (fun v H2=>v=.non/\Q (.ref x) H2) (W σ)
theorem r_mkX (h:t σ H fun vs H1=>kMkX C sp dvs W σ Q vs H1):tMakeX C sp dvs W t σ H Q:=h
end
theorem nolen_lr:fE (.type "list_reverseiterator") "__len__" =pure none:=by rw [typeLookup_type,builtinLookup_eq_fast];kernel_rfl
theorem hint_lr:fE (.type "list_reverseiterator") "__length_hint__" =pure (some (.builtin "list_reverseiterator.__length_hint__")):=by rw [typeLookup_type,builtinLookup_eq_fast];kernel_rfl
section
variable {prog: uY} {w: vL} {A: vM} {E: uC -> uE -> Prop} {s: uE} {it l: Addr} {its: Array uC}
abbrev BackOf (its acc:Array uC):Prop:=ItemsOf (fun i v=>its[its.size - 1 - i]?=some v) acc its.size
def qc4 (acc:Array uC) (c:Nat):Obj:={cls:=.type "list",dict:=none,data:=.seq acc c,slots:=#[]}
theorem extend_back {R:Result->uE->Prop} {tl:Addr} {res:uC} {c0:Nat} (calm:A.handled=none) (hl:s.heap.IsList l its) (hit:s.heap.IsRevIter it l ((its.size:Int) - 1)) (li:l≠it) (ti:tl≠it) (tn:tl≠l)
  (ht:s.heap.get? tl=some (qc4 #[] c0)) (hz:its.size<=sizeLine)
  (fin:∀h' tk acc c,(∀b o,b≠tl->b≠it->s.heap.get? b=some o->h'.get? b=some o)->h'.get? tl=some (qc4 acc c)->BackOf its acc->R (.ok (.ret res)) {s with heap:=h',toks:=tk}):
  uS (uV prog w) A.in1 (aB (.ref tl) (.ref it) res)
   (fun z s'=>match z with| .done f=>R (.ok f) s'| .again c'=>c'.quiet=true/\bD (uV prog w) A c' R s') (fun e s'=>R (.error e) s') s:=by
 have W:=(Walks.listRev (prog:=prog) (w:=w) (A:=A.in1) calm it l li its).toS
 have h0:0<=its.size/\s.heap.IsRevIter it l ((its.size:Int) - 1 - ((0:Nat):Int))/\s.heap.IsList l its:=⟨vY _,by simpa using hit,hl⟩
 have off:tl∉ [it,l]:=by
  intro q
  rcases zM.mp q with q|q
  .exact ti q
  .exact tn (zF.mp q)
 unfold aB
 refine uA (wpAny_typeOf hit.typeIs ?_)
 have k1:Builtin.List.listSameRef (.ref tl) (.ref it)=false:=by simp [Builtin.List.listSameRef,ti]
 rw [gK (by rw [k1];decide)]
 refine uA (W.self 0 _ _ _ h0 (uA (wR ?_)))
 unfold Builtin.List.listLengthHint
 refine uA (wpAny_specialOf hit.typeIs nolen_lr ?_)
 show uS _ _ (specialOf (uO it) (wH "__length_hint__") >>= _) _ _ _
 refine uA (wpAny_specialOf hit.typeIs hint_lr ?_)
 generalize hid:("list_reverseiterator.__length_hint__" :String)=nameOf
 wp_delta
 rw [show splitId nameOf=some ("list_reverseiterator","__length_hint__") from by subst hid;decide+kernel]
 subst hid
 refine uA (gH (b:=true) hit.typeIs (by rw [isSubtype_type];kernel_rfl) (uG ?_))
 rw [gK (by decide)]
 refine uG ⟨bQ F.plain_extend_loop _,codeAny_extend_loopS W hz tl off res its.size 0 _ #[] c0 rfl (vY _) h0 ht (ItemsOf.nil _) fun s' acc c hm hs hacc=>?_⟩
 rw [Moved.eq_with hm]
 refine fin s'.heap s'.toks acc c (fun b o n1 n2 e=>hm.heap b o (fun q=>?_) e) hs hacc
 rcases zM.mp q with q|q
 .exact n1 q
 .exact n2 (zF.mp q)
theorem call_listRev {Q:uC->uE->Prop} (calm:A.handled=none) (hl:s.heap.IsList l its) (hit:s.heap.IsRevIter it l ((its.size:Int) - 1)) (li:l≠it) (hz:its.size<=sizeLine)
  (fin:∀h' tk acc c,(∀b o,b≠it->s.heap.get? b=some o->h'.get? b=some o)->h'.get? s.heap.objs.size=some (qc4 acc c)->BackOf its acc->Q (.ref s.heap.objs.size) {s with heap:=h',toks:=tk}):
  uS (uV prog w) A (call (.type "list") [.ref it]) Q E s:=by
 refine callType_codes (Q₁:=fun o s1=>o=.ref s.heap.objs.size/\s1={s with heap:=s.heap.push (qc4 #[] 0)}) F.called_list (F.typeCall_list_1 _) F.entry_list_init (code_list_new _ ⟨rfl,rfl⟩) fun o s1 q=>?_
 obtain⟨rfl,rfl⟩:=q
 have e0:(s.heap.push (qc4 #[] 0)).get? s.heap.objs.size=some (qc4 #[] 0):=uP _ rfl
 have up:∀b o,s.heap.get? b=some o->(s.heap.push (qc4 #[] 0)).get? b=some o:=fun b o e=>uD _ e
 have ni:s.heap.objs.size≠it:=fun z=>by
  obtain⟨o,ho,_⟩:=hit
  exact absurd (uL ho) (by rw [z];exact wA _)
 have nl:s.heap.objs.size≠l:=fun z=>by
  obtain⟨o,ho,_⟩:=hl
  exact absurd (uL ho) (by rw [z];exact wA _)
 refine⟨⟨_,e0,rfl⟩,F.args_list_init_2 _ _,?_⟩
 show uS _ _ (do let old<-Builtin.List.listItems (.ref s.heap.objs.size);Builtin.List.listUpdate (.ref s.heap.objs.size) (fun _=>#[]);letGo old.toList.reverse;aB (.ref s.heap.objs.size) (.ref it) .none) _ _ _
 refine uA ?_
 unfold Builtin.List.listItems
 refine uA (wpAny_seqItems e0 rfl (uG ?_))
 show uS _ _ (updateSeq s.heap.objs.size (fun _=>#[]) >>= fun _=>letGo (#[]:Array uC).toList.reverse >>= fun _=>aB (.ref s.heap.objs.size) (.ref it) .none) _ _ _
 refine uA (wpAny_updateSeq e0 rfl ?_)
 have e1:=xZ (fF (fun _=>(#[]:Array uC))) e0 rfl
 have oth:∀b o,b≠s.heap.objs.size->s.heap.get? b=some o->((s.heap.push (qc4 #[] 0)).update s.heap.objs.size (fF (fun _=>(#[]:Array uC)))).get? b=some o:=
  fun b o hb e=>(wN _ _ (xF hb)).trans (up b o e)
 refine uA (wpAny_letGo ?_)
 refine extend_back calm (hl.at fun o e=>oth _ o nl.symm e) (hit.at fun o e=>oth _ o ni.symm e) li ni nl e1 hz fun h' tk acc c kp e2 hb=>?_
 refine⟨rfl,fin h' tk acc c (fun b o n e=>kp b o ?_ n (oth b o ?_ e)) e2 hb⟩
 .exact uX (uL e)
 .exact uX (uL e)
end
section
variable {X: Cx}
def kLr (K:uR) (Q:VK) (vs:List V) (H1:Hp):Prop:=∃p ys,vs=[.ref p]/\SqL K H1 p ys/\∀l,H1 l=none->Q (.ref l) (upd H1 l (.lst ys.reverse))
def tListRev (K:uR) (ta:TA):TE:=fun σ H Q=>ta σ H fun vs H1=>kLr K Q vs H1
theorem vals_back {ys:List V} {us:List uC} {acc:Array uC} (r:qba ys us) (h:BackOf us.toArray acc):qba ys.reverse acc.toList:=by
 have hn:us.toArray.size=us.length:=by simp
 have e:acc.toList=us.reverse:=by
  refine List.ext_getElem? fun i=>?_
  have hs:acc.size=us.length:=by rw [h.1,hn]
  by_cases hi:i < us.length
  .have hi':i < acc.size:=by omega
   have q:=h.2 i acc[i] (by rw [wO hi'])
   rw [List.getElem?_reverse hi]
   rw [hn] at q
   have q2:us[us.length - 1 - i]?=some acc[i]:=by simpa using q
   rw [q2,yY,wO hi']
  .rw [yK (by simp;omega),yK (by simp;omega)]
 rw [e]
 exact r.reverse
theorem pe_listRev {a:vQ} {ta:TA} {p p2 pos pos2:Pos} (calm:X.calm=true) (hgl:Gl X "list") (hml:X.mg "list" =none) (hg:Gl X "reversed") (hm:X.mg "reversed" =none) (ha:PA X [a] ta) (hs:uZ [a] X.env=[(false,wG a X.env)]:=by rfl)
  (he:uZ [Expr.Call (.Name "reversed" p2) [a] [] pos2] X.env=[(false,wG (.Call (.Name "reversed" p2) [a] [] pos2) X.env)]:=by rfl):
  PE X (.Call (.Name "list" p) [.Call (.Name "reversed" p2) [a] [] pos2] [] pos) (tListRev X.K ta):=by
 intro pins s σ H Q I h
 refine wW (qe0 I hgl hml xS ?_)
 refine wD ?_ he rfl
 rw [he]
 refine cD ?_
 refine Call_ (qe0 I hg hm qg7 (wD (thn (ha pos2 pins s σ H _ I h) fun us s1 ⟨vs,H1,I1,r1,q1⟩=>?_) hs rfl))
 obtain⟨b,ys,rfl,hb,q⟩:=q1
 obtain⟨x,rfl,rx⟩:=r1.one
 cases rx
 obtain⟨ws,r2,p2,hz⟩:=I1.list hb
 have hL:s1.heap.IsList b ws.toArray:=PlainL.isList p2
 refine call_reversed_list hL ?_
 refine fS ?_
 have hlt:b < s1.heap.objs.size:=by obtain⟨o,ho,_⟩:=hL;exact uL ho
 have hL2:(s1.heap.push (revObj b ((ws.toArray.size:Int) - 1))).IsList b ws.toArray:=hL.at fun o e=>uD _ e
 refine call_listRev (its:=ws.toArray) (I1.ok.hd calm) hL2 ⟨_,uP _ rfl,rfl,rfl⟩ (uX hlt) (by rw [zI,<-r2.length];exact hz) fun h' tk acc c kp e2 hbk=>?_
 have hD:s1.heap.objs.size<=(s1.heap.push (revObj b ((ws.toArray.size:Int) - 1))).objs.size:=by simp [Heap.push]
 refine⟨.ref (s1.heap.push (revObj b ((ws.toArray.size:Int) - 1))).objs.size,_,I1.laid (t':=tk) (fun d o e=>kp d o (uX (uL e)) (uD _ e)) hD (show qbh X.prog X.w _ h' _ (.lst ys.reverse) from⟨by rw [List.length_reverse];exact hz,acc.toList,c,vals_back r2 hbk,?_⟩),rfl,q _ (I1.hok.fresh hD)⟩
 exact e2
end
section
variable {K: uR} {σ: L2.St} {H: Hp} {Q: VK} {ta: TA} {p: Addr} {ys: List V}
theorem r_lrev (h:ta σ H fun vs H1=>kLr K Q vs H1):tListRev K ta σ H Q:=h
theorem r_lrevk (e:SqL K H p ys) (h:∀l,H l=none->Q (.ref l) (upd H l (.lst ys.reverse))):kLr K Q [.ref p] H:=⟨p,ys,rfl,e,h⟩
end
def kDs (p:Addr) (Q:VK) (x y:V) (H2:Hp):Prop:=H2 p=some (.dK [])/\∃kvs:List (Key × V), [(x,y)]=kvs.map (fun kv=>(kV kv.1,kv.2))/\kvs.length<=15/\Q (.ref p) (upd H2 p (.dK (qfj [] kvs)))
theorem r_disp1 {σ:L2.St} {H:Hp} {Q:VK} {tk tv:TE} (h:∀p,H p=none->tk σ (upd H p (.dK [])) fun x H1=>tv σ H1 fun y H2=>kDs p Q x y H2):tDisp [(tk,tv)] σ H Q:=fun p hp=>h p hp
theorem r_ds {H:Hp} {Q:VK} {p:Addr} {z:Str} {y:V} (e:H p=some (.dK [])) (h:Q (.ref p) (upd H p (.dK [(vG z,y)]))):kDs p Q (.str z) y H:=⟨e, [(vG z,y)],rfl,Nat.le_of_ble_eq_true rfl,h⟩
section
variable {P: uY} {w: vL} {K: uR} {mg: Str -> Option uC} {base: vP} {x qual: Str} {st: Stmt} {f T: Addr} {fd: uM} {N ps: List Str} {k: Nat} {sp: Sp} {items: Array uC}
theorem okDX (F:FunD K x qual st f fd T items) (S:FnScope N ps (qaa st)) (len:∀vs H Q E,sp vs H Q E->vs.length=ps.length)
  (hbody:∀(cdv:uC) (A:vM) (outer:List Env) (s:uE) (H:Hp) (vs:List V) (Q:VK) (E:XK),Room k (A.deeper (dD qual (qaa st) s.heap.objs.size f cdv))->sp vs H Q E->
   ∃t,PSs (xw (cxOf (CX1 P w) P w K mg base N qual (qaa st) f cdv A outer s H E) (fun _=>E)) (qbx st) t/\t {nx:=fun _ H'=>Q .non H',rt:=Q} (qed N vs) H):FnOk P w K mg base (CX1 P w) (k+1) f fd ps sp:=by
 obtain⟨oc,od,kV,doc,pm,an,cdv,ct,osl,rfl,lk,hcd⟩:=F.ex
 refine fn_of lk hcd S len fun A outer s H vs Q E hr hsp=>?_
 obtain⟨t,ht,q⟩:=hbody cdv A outer s H vs Q E hr hsp
 exact⟨t,PSs.xes xes_fn ht,q⟩
theorem funD_mk {oc:uC} {od an:Option Addr} {osl:Array (Option uC)} {kV doc pm cdv ct:uC} {o:Obj} {n:Nat} (l:K.lookup f=some ⟨oc,od,.func (fnOf x qual (qce st) (qbx st) (qaa st) (.ref T) kV doc pm an cdv ct),osl⟩)
  (c:gE K cdv qual=true) (kp:dB K (.ref f)=true) (t:K.lookup T=some o) (hd:o.data=.seq items n):FunD K x qual st f (fnOf x qual (qce st) (qbx st) (qaa st) (.ref T) kV doc pm an cdv ct) T items:=
 ⟨⟨oc,od,kV,doc,pm,an,cdv,ct,osl,rfl,l,c⟩,kp,o,n,t,hd⟩
end
def oK (hs:List (Str × Addr)):List (Key × V):=hs.map fun p=>(vG p.1,.ref p.2)
def qda:List (Str × Addr)->Str->Option Addr
 | [],_=>none
 |p :: r,z=>if p.1=z then some p.2 else qda r z
theorem qfm (z:Str):∀hs:List (Str × Addr),qcf (oK hs) (vG z)=(qda hs z).map V.ref
 | []=>rfl
 |p :: r=>by
  have ih:=qfm z r
  unfold qcf oK at ih ⊢
  rw [zV,yJ]
  by_cases h:p.1=z
  .have e:decide ((vG p.1:Key)=vG z)=true:=by rw [h];exact gM rfl
   simp only [e,qda,gL h]
   rfl
  .have e:decide ((vG p.1:Key)=vG z)=false:=gO fun q=>h (aS q)
   simp only [e,qda,gK h]
   exact ih
theorem qfk {z:Str}:∀{hs:List (Str × Addr)},qda hs z=none↔z∉hs.map (·.1)
 | []=>by simp [qda]
 |p :: r=>by
  have ih:=qfk (z:=z) (hs:=r)
  unfold qda
  by_cases q:p.1=z
  .rw [gL q]
   simp [q]
  .rw [gK q,ih]
   simp [xF q,fun e:z=p.1=>q e.symm]
theorem lookO_of {z:Str} {h:Addr}:∀{hs:List (Str × Addr)},(hs.map (·.1)).Nodup->(z,h)∈hs->qda hs z=some h
 |p :: r,nd,m=>by
  rw [zV,zX] at nd
  unfold qda
  rcases zM.mp m with e|e
  .rw [<-e,gL rfl]
  .have q:p.1≠z:=fun q=>nd.1 (by rw [q];exact zK.mpr ⟨(z,h),e,rfl⟩)
   rw [gK q]
   exact lookO_of nd.2 e
theorem putK_oK {hs:List (Str × Addr)} {z:Str} {h:Addr} (n:qda hs z=none):qcn (oK hs) (vG z) (.ref h)=oK (hs++ [(z,h)]):=by
 have hn:=qfk.mp n
 have e:((oK hs).any fun kv=>decide (kv.1=vG z))=false:=by
  rw [fQ]
  intro kv hkv
  obtain⟨p,hp,rfl⟩:=zK.mp hkv
  intro q
  have q':=aS (of_decide_eq_true q)
  exact hn (zK.mpr ⟨p,hp,q'⟩)
 unfold qcn
 rw [gK (by rw [e];decide)]
 unfold oK
 rw [zE];rfl
section
variable {H: Hp} {Q: VK} {a h: Addr} {hs: List (Str × Addr)} {z: Str}
theorem r_diO (d:Rd H a (.dK (oK hs))) (q:Q (.bl (qda hs z).isSome) H):rDI (.ref a) (.str z) H Q:=by
 refine⟨a,qcf (oK hs) (vG z),rfl,.inl ⟨_,vG z,d,rfl,rfl⟩,?_⟩
 rw [qfm,cN]
 exact q
theorem r_dgO (d:Rd H a (.dK (oK hs))) (e:qda hs z=some h) (q:Q (.ref h) H):rDGk (.ref a) (.str z) H Q:=
 ⟨a,.ref h,rfl,.inl ⟨_,vG z,d,rfl,by rw [qfm,e];rfl⟩,q⟩
end
end My
set_option exponentiation.threshold 2000
namespace My
open PySem PySem.Spec PyProof.Rows L2
end My
set_option maxHeartbeats 3200000
namespace My
open PySem PySem.Spec PyProof.Rows L2
section
variable {P: uY} {w: vL} {A: vM}
theorem sk_is (z:Str) (t:Tok):(strKind P w).is z (.str z t)=true:=by
 show eS z (.str z t)=true
 simp [eS]
theorem take_in {zs:List Str} {i:Nat} {z:Str} (nd:zs.Nodup) (h:zs[i]?=some z):(zs.take i).contains z=false:=by
 rw [<-Bool.not_eq_true,dR]
 intro m
 obtain⟨j,hj,e⟩:=zQ.mp m
 obtain⟨hi,e2⟩:=uH.mp h
 rw [zU] at hj
 rw [cQ] at e
 exact(zW.mp nd) j i (by omega) hi (by omega) (by rw [e,e2])
theorem take_next {zs:List Str} {i:Nat} {z:Str} (h:zs[i]?=some z) (y:Str):((zs.take i).contains y || decide (y=z))=(zs.take (i+1)).contains y:=by
 rw [zO,h,xU,Bool.or_eq_true,dR,dR,zR,decide_eq_true_iff]
 simp
theorem setT_loop {R:Result->uE->Prop} {it c:Addr} {fp wr:List Addr} {G:Array GenState->Array GenState->Prop} {zs:List Str} {pv:Nat->uC->Prop} {St:Nat->uE->Prop}
  (W:WalksS P w A.in1 it fp wr G zs.length pv St) (hc:c∉fp) (nd:zs.Nodup) (hv:∀i v,pv i v->∃z t,zs[i]?=some z/\v=.str z t) (hb:zs.length+1 < gI):
  ∀(k i:Nat) (s:uE),zs.length - i=k->i<=zs.length->St i s->s.heap.SetOf (strKind P w) c (fun y=>(zs.take i).contains y) i->
   (∀s',Moved (c :: wr) G s s'->s'.heap.SetOf (strKind P w) c (fun y=>(zs.take zs.length).contains y) zs.length->R (.ok (.ret .none)) s')->
   bD (uV P w) A (.builtin "set.update.loop" ⟨[.ref c,.ref it], []⟩) R s:=by
 have cw:c∉wr:=fun h=>hc (W.sub _ h)
 have qbf:∀{n:Nat} {S:Str->Bool} {s s':uE},Moved wr G s s'->s.heap.SetOf (strKind P w) c S n->s'.heap.SetOf (strKind P w) c S n:=fun hm hS=>by
  obtain⟨o,es,ep,t,ho,rest⟩:=hS
  exact⟨o,es,ep,t,hm.heap c _ cw ho,rest⟩
 intro k
 induction k with
 |zero=>
  intro i s hk hi st hS hR
  have e:i=zs.length:=by omega
  subst e
  refine xV eQ ?_
  rw [xC aO]
  show uS _ _ (cT (.ref it) >>= _) _ _ _
  refine uA (W.done s _ _ st fun s1 hm=>?_)
  exact uG (hR s1 (hm.mono fun b h=>zH _ h) (qbf hm hS))
 |succ k ih=>
  intro i s hk hi st hS hR
  have lt:i < zs.length:=by omega
  refine xV eQ ?_
  rw [xC aO]
  show uS _ _ (cT (.ref it) >>= _) _ _ _
  refine uA (W.item i s _ _ lt st fun v s1 hp st1 hm=>?_)
  obtain⟨z,t,hz,rfl⟩:=hv i v hp
  have S1:=qbf hm hS
  show uS _ _ (fO [eE z t] (setAdd c (.str z t)) >>= _) _ _ _
  refine uA (wR ?_)
  unfold setAdd
  refine wR (uA ((strKind P w).pyHash (k:=z) (sk_is z t) ?_))
  refine wpAny_setAddHashed_of (knd:=strKind P w) (s:={s1 with toks:=s1.toks+1}) (sk_is z t) rfl S1 (by omega) fun h2 sb S2=>?_
  have S3:h2.SetOf (strKind P w) c (fun y=>(zs.take (i+1)).contains y) (i+1):=SetOf_congr S2 (take_next hz) (by simp only [take_in nd hz];rfl)
  refine uG ⟨bQ aO _,ih (i+1) _ (by omega) lt (W.frame _ s1 _ _ st1 (aE _) fun b h o e=>?_) S3 fun s4 hm4 S4=>?_⟩
  .rw [sb.2 b fun q=>hc (q ▸ h)];exact e
  .refine hR s4 (Moved.trans W.gtrans ((hm.mono fun b h=>zH _ h).then_heap (aE _) fun b o h e=>?_) hm4) S4
   rw [sb.2 b fun q=>h (q ▸ zN)];exact e
abbrev setO (led:Bool):Obj:={cls:=.type "set",dict:=none,data:=.set #[] 0 (.fresh 0 0 led)}
theorem setT_call {E:uC->uE->Prop} {s:uE} {l:Addr} {items:Array uC} {zs:List Str} {Q:uC->uE->Prop} (hh:A.handled=none) (hl:s.heap.IsList l items) (hi:fY items.toList zs) (nd:zs.Nodup) (hb:zs.length+1 < gI)
  (h:∀(h':vP) (tk:Nat),h'.SetOf (strKind P w) s.heap.objs.size (fun y=>(zs.take zs.length).contains y) zs.length->(∀b o,b < s.heap.objs.size->s.heap.get? b=some o->h'.get? b=some o)->Q (.ref s.heap.objs.size) {s with heap:=h',toks:=tk}):
  uS (uV P w) A (call (.type "set") [.ref l]) Q E s:=by
 obtain⟨c,tl,hmro⟩:=PySem.F.called_set.mro
 have hmade:=PySem.F.called_set.made
 have hsub:=PySem.F.called_set.sub
 refine bN (codeAny_of_tree ?_)
 show uS _ _ (callAny (.type "set") _) _ _ _
 refine uG ⟨fG _ (by decide+kernel),xV PySem.F.entry_type_call ?_⟩
 rw [Around.under_plain (weight_type_call_type "set" [.ref l] []) rfl]
 have h1:=PySem.F.called_set.notType
 have h2:=PySem.F.called_set.canCreate
 have hct:=PySem.F.typeCall_set_1 (.ref l)
 repeat any_goals first|assumption|wp_step
 refine xN (code_set_new_1 (.ref l) (E:=E) (Q₁:=fun x s1=>∃led:Bool,x=.ref s.heap.objs.size/\s1={s with heap:=s.heap.push (setO led)}) fun led=>⟨led,rfl,rfl⟩) fun r s1 hr=>?_
 cases r with
 |error e=>exact hr
 |ok fl=>
  cases fl with
  |ret obj=>
   obtain⟨led,rfl,rfl⟩:=hr
   have hS:(s.heap.push (setO led)).get? s.heap.objs.size=some (setO led):=uP _ rfl
   have hT:Shared.TypeIs {s with heap:=s.heap.push (setO led)} (.ref s.heap.objs.size) "set":=⟨_,hS,rfl⟩
   have hli:=PySem.F.called_set.init.lookup
   have hbi:=PySem.F.called_set.init.bind (.ref s.heap.objs.size)
   repeat any_goals first|assumption|wp_step
   refine xN (codeAny_call_builtin (R:=wants (fun x s2=>x=.none/\∃h' tk,s2={s with heap:=h',toks:=tk}/\h'.SetOf (strKind P w) s.heap.objs.size (fun y=>(zs.take zs.length).contains y) zs.length/\(∀b o,b < s.heap.objs.size->s.heap.get? b=some o->h'.get? b=some o)) E) PySem.F.called_set.init.plain PySem.F.entry_set_init (check_set_init_1 hT ?_)) fun r2 s2 hr2=>?_
   .obtain⟨ol,hol,hcl,nl,hdl⟩:=hl
    obtain⟨ocls,odict,odata,oslots⟩:=ol
    dsimp only at hcl hdl
    subst hcl hdl
    have hol':=uD (setO led) hol
    have q1:=PySem.F.sub_list_set
    have q2:=PySem.F.sub_list_frozenset
    have q3:(Value.type "list" ==Value.type "dict")=false:=by decide
    have hl1:(s.heap.push (setO led)).IsList l items:=⟨_,hol',rfl,nl,rfl⟩
    unfold xQ.«set.__init__» noKeywords Builtin.Frozenset.updateFrom
    generalize hPI:pyIter=PI
    wp_walk
    subst hPI
    refine bB hl1 (uA (wpAny_runValue ?_))
    have lS:l < s.heap.objs.size:=uL hol
    have h3:A.in1.in1.in1.handled=none:=by simp [hh]
    have nI:l≠(s.heap.push (setO led)).objs.size:=by
     rw [bE];exact uX (fZ lS)
    have nS:s.heap.objs.size∉ [(s.heap.push (setO led)).objs.size,l]:=by
     rw [bE]
     intro z
     simp only [zM,yF,or_false] at z
     rcases z with z|z
     .exact absurd z (uX (bM _))
     .rw [z] at lS;exact wA _ lS
    have ez:items.size=zs.length:=by
     have:=hi.length
     simpa using this
    have W:WalksS P w A.in1.in1.in1 _ _ _ _ items.size _ _:=(Walks.list h3 _ l nI items).toS
    rw [ez] at W
    refine setT_loop (zs:=zs) W nS nd (fun i v hv=>?_) hb (zs.length - 0) 0 _ (by omega) (vY _) ⟨⟨_,uP _ rfl,rfl,rfl⟩,hl1.push _⟩ ?_ ?_
    .obtain⟨y,t,e1,e2⟩:=hi.item i v (by rw [yY];exact hv)
     exact⟨y,t,e2,e1⟩
    .have hget:=uD {cls:=.type "list_iterator",data:=.fields #[.ref l,.int 0 0]} hS
     exact SetOf_congr ((setObjOf_fresh (knd:=strKind P w) led).setOf hget (by unfold gI;omega)) (fun _=>rfl) rfl
    .intro s4 hm hS4
     obtain⟨h4,g4,d4,tk4,os4⟩:=s4
     have eg:g4=s.gens:=hm.gens
     have ed:d4=s.drawn:=hm.drawn
     have eo:os4=s.os:=hm.os
     subst eg ed eo
     refine uG ?_
     refine uG ⟨rfl,h4,tk4,rfl,hS4,fun b o hb' e=>?_⟩
     refine hm.heap b o (fun z=>?_) (uD _ (uD _ e))
     rw [bE] at z
     simp only [zM,yF,or_false] at z
     rcases z with z|z
     .rw [z] at hb';exact wA _ hb'
     .rw [z] at hb';exact wA _ (Nat.lt_trans (bM _) hb')
   .cases r2 with
    |error e=>exact hr2
    |ok fl2=>
     cases fl2 with
     |ret r=>
      obtain⟨rfl,h',tk,rfl,hS',hk'⟩:=hr2
      repeat any_goals first|assumption|wp_step
      exact h _ _ hS' hk'
     |next=>exact hr2.elim
     |brk=>exact hr2.elim
     |cont=>exact hr2.elim
  |next=>exact hr.elim
  |brk=>exact hr.elim
  |cont=>exact hr.elim
end
def SetT (P:uY) (w:vL) (c:Addr) (n:Nat):HO:=.ext fun h=>∃S,h.SetOf (strKind P w) c S n
def rSetT (P:uY) (w:vL) (K:uR):List V->Hp->VK->Prop:=fun xs H Q=>∃(p:Addr) (zs:List Str),xs=[.ref p]/\SqL K H p (zs.map V.str)/\zs.Nodup/\zs.length<=60/\∀c,H c=none->Q (.ref c) (upd H c (SetT P w c zs.length))
def rLenT (P:uY) (w:vL):List V->Hp->VK->Prop:=fun xs H Q=>∃c n,xs=[.ref c]/\H c=some (SetT P w c n)/\Q (.int n) H
section
variable {X: Cx}
theorem call_setT (hc:X.calm=true:=by rfl):qc7 X (.type "set") (rSetT X.prog X.w X.K):=by
 intro pins s σ H xs us Q I hv h
 obtain⟨p,zs,rfl,hS,nd,hz,q⟩:=h
 obtain⟨u,rfl,ru⟩:=hv.one
 cases ru
 obtain⟨its,rv,pl,hz'⟩:=I.list hS
 refine setT_call (I.ok.hd hc) (PlainL.isList pl) (zs:=zs) (by simpa using qfo rv) nd (by unfold gI;omega) fun h' tk hT hk=>?_
 have hg:=hT
 obtain⟨o,es,ep,t,ho,_⟩:=hg
 exact⟨.ref _,_,I.laid (a:=s.heap.objs.size) (o:=SetT X.prog X.w s.heap.objs.size zs.length) (t':=tk) (fun b ob e=>hk b ob (uL e) e) (uF _) ⟨⟨_,hT⟩,⟨o,ho⟩,fun h1 h2 ⟨S,o1,r1,r2,r3,e1,rest⟩ k=>⟨S,o1,r1,r2,r3,k _ e1,rest⟩⟩,rfl,q _ (I.hok.fresh (uF _))⟩
theorem call_lenT:qc7 X (.builtin "len") (rLenT X.prog X.w):=by
 intro pins s σ H xs us Q I hv h
 obtain⟨c,n,rfl,e,q⟩:=h
 obtain⟨u,rfl,ru⟩:=hv.one
 cases ru
 obtain⟨⟨S,o,es,ep,t,ho,hx,hd,_,_,hb,hf,rfl⟩,_⟩:=I.hok c _ e
 refine call_len_set ho hx hd hf (by unfold gI at hb;omega) ⟨.int es.size,H,I.tok _,⟨_,rfl⟩,q⟩
end
section
variable {P: uY} {w: vL} {K: uR} {H: Hp} {Q: VK}
theorem r_setT {p:Addr} {zs:List Str} (hS:SqL K H p (zs.map V.str)) (nd:zs.Nodup) (hz:zs.length<=60) (h:∀c,H c=none->Q (.ref c) (upd H c (SetT P w c zs.length))):rSetT P w K [.ref p] H Q:=⟨p,zs,rfl,hS,nd,hz,h⟩
theorem r_lenT2 {c:Addr} {n:Nat} (e:H c=some (SetT P w c n)) (h:Q (.int n) H):rLenT P w [.ref c] H Q:=⟨c,n,rfl,e,h⟩
end
def rLenD:List V->Hp->VK->Prop:=fun xs H Q=>∃a kvs,xs=[V.ref a]/\H a=some (.dK kvs)/\Q (.int kvs.length) H
theorem call_lenDD {X:Cx}:qc7 X (.builtin "len") rLenD:=L2.call_lenD
theorem r_lenD {H:Hp} {Q:VK} {a:Addr} {kvs:List (Key × V)} (e:H a=some (.dK kvs)) (h:Q (.int kvs.length) H):rLenD [.ref a] H Q:=⟨a,kvs,rfl,e,h⟩
end My
set_option maxHeartbeats 1000000
namespace My
open PySem PySem.Spec PyProof.Rows L2
def ValO (v d:Addr):HO:=.ext fun h=>h.IsValuesView v d
end My
namespace My
open PySem PySem.Spec PyProof.Rows L2 PyProof
end My
namespace My
open PySem PySem.Spec PyProof.Rows L2
section
inductive OddV (K:uR) (H:Hp):V->Prop
 |non:OddV K H .non
 |bl (b:Bool):OddV K H (.bl b)
 |int (i:Int):OddV K H (.int i)
 |lst {a:Addr} {xs:List V} (h:SqL K H a xs):OddV K H (.ref a)
 |tup {a:Addr} {xs:List V} (h:SqT K H a xs):OddV K H (.ref a)
 |dct {a:Addr} {kvs:List (Key × V)} (h:H a=some (.dK kvs)):OddV K H (.ref a)
end
section
variable {K: uR} {H: Hp} {Q: VK}
theorem qg1 {y:Str}:∀nm:List Str,inV (.str y) (nm.map V.str)=decide (y∈nm)
 | []=>rfl
 |z :: r=>by
  have ih:=qg1 (y:=y) r
  unfold inV at ih ⊢
  rw [zV,yW,ih]
  by_cases c:z=y
  .subst c
   rw [show eqV (V.str z) (V.str z)=true from beq_self_eq_true z,gM (zN ..)]
   rfl
  .rw [show eqV (V.str z) (V.str y)=false from beq_false_of_ne c,eU]
   by_cases m:y∈r
   .rw [gM m,gM (zH _ m)]
   .rw [gO m,gO fun h=>(zM.mp h).elim (fun e=>c e.symm) m]
theorem flat_strs (nm:List Str):(nm.map V.str).all qcs=true:=by
 rw [dI]
 exact yD.mpr fun _ _=>rfl
theorem r_inSs {p:Addr} {y:Str} {nm:List Str} (h:SqL K H p (nm.map V.str)) (q:Q (.bl (decide (y∈nm))) H):rIn K false (.str y) (.ref p) H Q:=⟨p,_,rfl,.inl h,rfl,flat_strs nm,by rw [qg1];exact q⟩
end
theorem ints_of:∀{ns:List Int} {its:List uC},qba (ns.map V.int) its->∃ys:List (Int × Tok),its=ys.map (fun p=>aJ p.1 p.2)/\ys.map (·.1)=ns
 | [],_,r=>by cases r;exact⟨[],rfl,rfl⟩
 |n :: ns,_,r=>by
  cases r with
  |cons h t=>
   obtain⟨tk,rfl⟩:=h
   obtain⟨ys,e1,e2⟩:=ints_of t
   exact⟨(n,tk) :: ys,by rw [e1];rfl,by rw [zV,e2]⟩
theorem items_of (ys:List (Int × Tok)):(ys.map (fun p=>aJ p.1 p.2)).toArray=intItems ys.toArray:=by
 unfold intItems
 simp
def rMinL (K:uR):List V->Hp->VK->Prop:=fun xs H Q=>∃(p:Addr) (ns:List Int),xs=[.ref p]/\SqL K H p (ns.map V.int)/\0 < ns.length/\∀m,m∈ns->(∀a∈ns,m<=a)->Q (.int m) H
def rMaxL (K:uR):List V->Hp->VK->Prop:=fun xs H Q=>∃(p:Addr) (ns:List Int),xs=[.ref p]/\SqL K H p (ns.map V.int)/\0 < ns.length/\∀m,m∈ns->(∀a∈ns,a<=m)->Q (.int m) H
def rSumL (K:uR):List V->Hp->VK->Prop:=fun xs H Q=>∃(p:Addr) (ns:List Int),xs=[.ref p]/\SqL K H p (ns.map V.int)/\Q (.int ns.sum) H
section
variable {X: Cx}
theorem call_minL (hc:X.calm=true):qc7 X (.builtin "min") (rMinL X.K):=by
 intro pins s σ H xs us Q I hv h
 obtain⟨p,ns,rfl,hS,hn,q⟩:=h
 obtain⟨u,rfl,ru⟩:=hv.one
 cases ru
 obtain⟨its,rv,pl,hz⟩:=I.list hS
 have hl:=pl.isList
 obtain⟨ys,rfl,rfl⟩:=ints_of rv
 rw [items_of] at hl
 have hsz:0 < ys.toArray.size:=by rw [zB] at hn;simpa using hn
 refine min_intList (I.ok.hd hc) hl hsz fun v h' tk hv hk=>?_
 obtain⟨t,rfl⟩:=intItems_at hv
 obtain⟨h1,h2⟩:=argBest_lt (numAt ys.toArray) (ys.toArray.size - 1)
 refine⟨.int _,H,I.kept (t':=tk) hk,⟨t,rfl⟩,q _ ?_ fun a ha=>?_⟩
 .rw [numAt_eq]
  have hsy:ys.toArray.size=ys.length:=by simp
  exact getD_mem (show _ <(List.map (fun x:Int × Tok=>x.fst) ys).length by rw [zB];omega)
 .obtain⟨j,hj,rfl⟩:=mem_getD ha
  rw [zB] at hj
  have z:=h2 j (by have:ys.toArray.size=ys.length:=(by simp);omega)
  rw [numAt_eq ys.toArray j] at z
  exact z
theorem call_maxL (hc:X.calm=true):qc7 X (.builtin "max") (rMaxL X.K):=by
 intro pins s σ H xs us Q I hv h
 obtain⟨p,ns,rfl,hS,hn,q⟩:=h
 obtain⟨u,rfl,ru⟩:=hv.one
 cases ru
 obtain⟨its,rv,pl,hz⟩:=I.list hS
 have hl:=pl.isList
 obtain⟨ys,rfl,rfl⟩:=ints_of rv
 rw [items_of] at hl
 have hsz:0 < ys.toArray.size:=by rw [zB] at hn;simpa using hn
 refine max_intList (I.ok.hd hc) hl hsz fun v h' tk hv hk=>?_
 obtain⟨t,rfl⟩:=intItems_at hv
 obtain⟨h1,h2⟩:=argBest_gt (numAt ys.toArray) (ys.toArray.size - 1)
 refine⟨.int _,H,I.kept (t':=tk) hk,⟨t,rfl⟩,q _ ?_ fun a ha=>?_⟩
 .rw [numAt_eq]
  have hsy:ys.toArray.size=ys.length:=by simp
  exact getD_mem (show _ <(List.map (fun x:Int × Tok=>x.fst) ys).length by rw [zB];omega)
 .obtain⟨j,hj,rfl⟩:=mem_getD ha
  rw [zB] at hj
  have z:=h2 j (by have:ys.toArray.size=ys.length:=(by simp);omega)
  rw [numAt_eq ys.toArray j] at z
  exact z
theorem qet (ns:List Int):∀k,k<=ns.length->preSum (fun i=>(ns[i]?).getD 0) k=(ns.take k).sum
 |0,_=>by simp [preSum]
 |k+1,h=>by
  have hk:k < ns.length:=by omega
  show preSum _ k+(ns[k]?).getD 0=_
  rw [qet ns k (by omega),zO,zA hk,List.sum_append]
  simp
theorem call_sumL (hc:X.calm=true):qc7 X (.builtin "sum") (rSumL X.K):=by
 intro pins s σ H xs us Q I hv h
 obtain⟨p,ns,rfl,hS,q⟩:=h
 obtain⟨u,rfl,ru⟩:=hv.one
 cases ru
 obtain⟨its,rv,pl,hz⟩:=I.list hS
 have hl:=pl.isList
 have hlt:p < s.heap.objs.size:=by obtain⟨_,e,_⟩:=hl;exact uL e
 have hlen:=rv.length
 rw [zB] at hlen
 refine call_sum_walkG (bB hl ?_)
 refine⟨s.heap.objs.size, [s.heap.objs.size,p], [s.heap.objs.size],its.toArray.size,_,_,fun i=>(ns[i]?).getD 0,rfl,Walks.list (A:=X.A.in1) (I.ok.hd hc) _ p (uX hlt) its.toArray,⟨⟨_,uP _ rfl,rfl,rfl⟩,hl.push _⟩,fun b hb=>?_,fun i v hP=>?_,fun h' tk t' hk=>?_⟩
 .have e:(s.heap.push {cls:=.type "list_iterator",data:=.fields #[.ref p,.int 0 0]}).objs.size=s.heap.objs.size+1:=by simp [Heap.push]
  rcases zM.mp hb with rfl|hb
  .show _ <(s.heap.push _).objs.size
   rw [e];omega
  .rw [zF.mp hb]
   show _ <(s.heap.push _).objs.size
   rw [e];exact fZ hlt
 .have hi:its[i]?=some v:=by simpa using hP
  have hb:i < ns.length:=by rw [hlen];exact(uH.mp hi).1
  have hx:(ns.map V.int)[i]?=some (.int ns[i]):=by rw [zC,zA hb];rfl
  obtain⟨u,e,r⟩:=rv.get hx
  rw [hi] at e
  cases e
  obtain⟨t,rfl⟩:=r
  exact⟨t,by show aJ ns[i] t=aJ ((ns[i]?).getD 0) t;rw [zA hb];rfl⟩
 .have e:preSum (fun i=>(ns[i]?).getD 0) its.toArray.size=ns.sum:=by
   rw [zI,<-hlen,qet ns _ (uF _),zS]
  rw [e]
  exact⟨.int _,H,I.kept (t':=tk) (fun b o eb=>hk b o (fun hm=>by have z:=uL eb;rw [zF.mp hm] at z;exact wA _ z) (uD _ eb)),⟨_,rfl⟩,q⟩
end
section
variable {K: uR} {H: Hp} {Q: VK} {p: Addr} {ns: List Int}
theorem r_minL (hS:SqL K H p (ns.map V.int)) (hn:0 < ns.length) (h:∀m,m∈ns->(∀a∈ns,m<=a)->Q (.int m) H):rMinL K [.ref p] H Q:=⟨p,ns,rfl,hS,hn,h⟩
theorem r_maxL (hS:SqL K H p (ns.map V.int)) (hn:0 < ns.length) (h:∀m,m∈ns->(∀a∈ns,a<=m)->Q (.int m) H):rMaxL K [.ref p] H Q:=⟨p,ns,rfl,hS,hn,h⟩
theorem r_sumL (hS:SqL K H p (ns.map V.int)) (h:Q (.int ns.sum) H):rSumL K [.ref p] H Q:=⟨p,ns,rfl,hS,h⟩
end
def XB (X:Cx) (E:XK) (e:uC) (s':uE):Prop:=∃(a:Addr) (C:uC) (d:Option Addr) (σ':L2.St) (H':Hp),e=.ref a/\Inv X [] σ' H' s'/\E C d H'/\
 ∃(T:Addr) (fl:uC) (σ1:L2.St) (H1:Hp) (s1:uE),Inv X [] σ1 H1 s1/\s1.heap.get? a=none/\s1.heap.get? T=none/\H' a=none/\H' T=none/\XTr s'.heap a C d fl T
abbrev xb (X:Cx) (E:XK):Cx:=X.wish (XB X E)
end My
namespace My
open PySem PySem.Spec PyProof.Rows L2 PyProof PySem.Builtin.Str
end My
namespace My
open PySem PySem.Spec PyProof.Rows L2 PyProof PySem.Builtin.Str PySem.StrLaws
def hits (l:List Nat) (c:Nat) (is:List Nat):List Nat:=is.filter fun i=>decide (l[i]?=some c)
end My
namespace My
open PySem PySem.Spec PyProof.Rows L2 PyProof PySem.Builtin.Str PySem.NumText
end My
namespace My
open PySem PySem.Spec PyProof.Rows L2 PyProof PySem.Builtin.Str
end My
namespace My
open PySem PySem.Spec PyProof.Rows L2 PySem.Builtin
section
variable {prog: uY} {w: vL} {A: vM} {E: uC -> uE -> Prop} {s: uE} {it d: Addr} {i ep: Nat} {od: Obj} {es: Array eJ}
theorem rawKey (hit:s.heap.IsKeyIter it d i es.size ep) (hod:s.heap.get? d=some od) (hdd:od.data=.dict es ep) {Q:Option uC->uE->Prop} (hi:i < es.size)
  (hQ:∀h',h'.IsKeyIter it d (i+1) es.size ep->bA it s.heap h'->Q (some es[i].key) {s with heap:=h'}):uS (uV prog w) A (cT (.ref it)) Q E s:=by
 obtain⟨o,ho,hc,hd⟩:=id hit
 have up:(s.heap.update it (wM (·.setIfInBounds 1 (xD ((i:Int)+1))))).IsKeyIter it d (i+1) es.size ep:=by
  refine⟨_,xZ _ ho (bK (xP hd _)),?_,?_⟩
  .rw [fV];exact hc
  .rw [xP hd];simp [xD]
 have own:Dict_items.ownsTuple "dict_keyiterator" =false:=by decide
 have n1:¬((uO d==vT)=true):=uJ
 unfold cT
 refine uA (eY (xH (name:=wH "__next__") hit.typeIs xW (wK xW hit.typeIs F.entry_dict_keyiterator_next ?_ (gJ _))))
 refine uA (uG (uA (uA (uA (xK hit.typeIs (uG (uA (dZ ho hd ?_))))))))
 rw [own,gK uJ]
 show uS _ _ (ite ((uO d==vT)=true) _ _) _ _ s
 rw [gK n1]
 refine uA (uG (uA (aC hod hdd ?_)))
 rw [gK (by simp)]
 refine uA (uG (uA (aQ hod hdd ?_)))
 rw [gK (by simp)]
 refine uG ?_
 have eg:(if (i:Int) < 0 then none else es[(i:Int).toNat]?)=some es[i]:=by rw [gK (by omega),xB];exact wO hi
 dsimp only
 rw [eg]
 dsimp only
 refine uA (uA (xK hit.typeIs (uG ?_)))
 refine uA (wpAny_isOneOf_keyiter hit.typeIs ?_)
 rw [own]
 refine uA (aF ho hd (by simp) ?_)
 refine uA (wR ?_)
 refine uA (wpAny_isOneOf_keyiter (s:={s with heap:=s.heap.update it (wM (·.setIfInBounds 1 (xD ((i:Int)+1))))}) up.typeIs ?_)
 exact uG (uG ⟨_,rfl,uG (hQ _ up (bZ ..))⟩)
theorem rawKeyEnd (hh:A.handled=none) (hit:s.heap.IsKeyIter it d i es.size ep) (hod:s.heap.get? d=some od) (hdd:od.data=.dict es ep) {Q:Option uC->uE->Prop} (hi:es.size<=i)
  (hQ:∀h',Heap.ExtBut it s.heap h'->Q none {s with heap:=h'}):uS (uV prog w) A (cT (.ref it)) Q E s:=by
 obtain⟨o,ho,hc,hd⟩:=id hit
 have own:Dict_items.ownsTuple "dict_keyiterator" =false:=by decide
 have n1:¬((uO d==vT)=true):=uJ
 unfold cT
 refine uA (eY (xH (name:=wH "__next__") hit.typeIs xW (wK xW hit.typeIs F.entry_dict_keyiterator_next ?_ (gJ _))))
 refine uA (uG (uA (uA (uA (xK hit.typeIs (uG (uA (dZ ho hd ?_))))))))
 rw [own,gK uJ]
 show uS _ _ (ite ((uO d==vT)=true) _ _) _ _ s
 rw [gK n1]
 refine uA (uG (uA (aC hod hdd ?_)))
 rw [gK (by simp)]
 refine uA (uG (uA (aQ hod hdd ?_)))
 rw [gK (by simp)]
 refine uG ?_
 have eg:(if (i:Int) < 0 then none else es[(i:Int).toNat]?)=none:=by rw [gK (by omega),xB];exact Array.getElem?_eq_none hi
 dsimp only
 rw [eg]
 dsimp only
 refine uA (uA (xK hit.typeIs (uG ?_)))
 rw [own]
 refine uA (aF ho hd (by simp) (uA ?_))
 unfold newExc newTuple
 refine uA (wF ?_ (by size_fits))
 refine uA (m:=eB _ _) (wpAny_of_eq (a:=vT) (by first|rfl|(simp only [eB];rfl)) (wF ?_ (by size_fits)))
 unfold raiseNew
 refine uA (wpAny_handled ?_)
 rw [show A.in1.handled=none from hh]
 refine uA (uG (wpAny_throw ?_))
 refine uA (gH (T:="StopIteration") (b:=true) ⟨_,uP _ rfl,rfl⟩ isSubtype_stop ?_)
 exact uG (hQ _ (((bZ ..).extBut.push _).push _))
theorem rawVal (hit:s.heap.IsValIter it d i es.size ep) (hod:s.heap.get? d=some od) (hdd:od.data=.dict es ep) {Q:Option uC->uE->Prop} (hi:i < es.size)
  (hQ:∀h',h'.IsValIter it d (i+1) es.size ep->bA it s.heap h'->Q (some es[i].val) {s with heap:=h'}):uS (uV prog w) A (cT (.ref it)) Q E s:=by
 obtain⟨o,ho,hc,hd⟩:=id hit
 have up:(s.heap.update it (wM (·.setIfInBounds 1 (xD ((i:Int)+1))))).IsValIter it d (i+1) es.size ep:=by
  refine⟨_,xZ _ ho (bK (xP hd _)),?_,?_⟩
  .rw [fV];exact hc
  .rw [xP hd];simp [xD]
 have own:Dict_items.ownsTuple "dict_valueiterator" =false:=by decide
 have n1:¬((uO d==vT)=true):=uJ
 unfold cT
 refine uA (eY (xH (name:=wH "__next__") hit.typeIs xI (wK xI hit.typeIs gC ?_ (gA _))))
 refine uA (uG (uA (uA (uA (xL hit.typeIs (uG (uA (dZ ho hd ?_))))))))
 rw [own,gK uJ]
 show uS _ _ (ite ((uO d==vT)=true) _ _) _ _ s
 rw [gK n1]
 refine uA (uG (uA (aC hod hdd ?_)))
 rw [gK (by simp)]
 refine uA (uG (uA (aQ hod hdd ?_)))
 rw [gK (by simp)]
 refine uG ?_
 have eg:(if (i:Int) < 0 then none else es[(i:Int).toNat]?)=some es[i]:=by rw [gK (by omega),xB];exact wO hi
 dsimp only
 rw [eg]
 dsimp only
 refine uA (uA (xL hit.typeIs (uG ?_)))
 refine uA (dS hit.typeIs ?_)
 rw [own]
 refine uA (aF ho hd (by simp) ?_)
 refine uA (wR ?_)
 refine uA (dS (s:={s with heap:=s.heap.update it (wM (·.setIfInBounds 1 (xD ((i:Int)+1))))}) up.typeIs ?_)
 refine uA (dS (s:={s with heap:=s.heap.update it (wM (·.setIfInBounds 1 (xD ((i:Int)+1))))}) up.typeIs ?_)
 exact uG (uG ⟨_,rfl,uG (hQ _ up (bZ ..))⟩)
theorem rawValEnd (hh:A.handled=none) (hit:s.heap.IsValIter it d i es.size ep) (hod:s.heap.get? d=some od) (hdd:od.data=.dict es ep) {Q:Option uC->uE->Prop} (hi:es.size<=i)
  (hQ:∀h',Heap.ExtBut it s.heap h'->Q none {s with heap:=h'}):uS (uV prog w) A (cT (.ref it)) Q E s:=by
 obtain⟨o,ho,hc,hd⟩:=id hit
 have own:Dict_items.ownsTuple "dict_valueiterator" =false:=by decide
 have n1:¬((uO d==vT)=true):=uJ
 unfold cT
 refine uA (eY (xH (name:=wH "__next__") hit.typeIs xI (wK xI hit.typeIs gC ?_ (gA _))))
 refine uA (uG (uA (uA (uA (xL hit.typeIs (uG (uA (dZ ho hd ?_))))))))
 rw [own,gK uJ]
 show uS _ _ (ite ((uO d==vT)=true) _ _) _ _ s
 rw [gK n1]
 refine uA (uG (uA (aC hod hdd ?_)))
 rw [gK (by simp)]
 refine uA (uG (uA (aQ hod hdd ?_)))
 rw [gK (by simp)]
 refine uG ?_
 have eg:(if (i:Int) < 0 then none else es[(i:Int).toNat]?)=none:=by rw [gK (by omega),xB];exact Array.getElem?_eq_none hi
 dsimp only
 rw [eg]
 dsimp only
 refine uA (uA (xL hit.typeIs (uG ?_)))
 rw [own]
 refine uA (aF ho hd (by simp) (uA ?_))
 unfold newExc newTuple
 refine uA (wF ?_ (by size_fits))
 refine uA (m:=eB _ _) (wpAny_of_eq (a:=vT) (by first|rfl|(simp only [eB];rfl)) (wF ?_ (by size_fits)))
 unfold raiseNew
 refine uA (wpAny_handled ?_)
 rw [show A.in1.handled=none from hh]
 refine uA (uG (wpAny_throw ?_))
 refine uA (gH (T:="StopIteration") (b:=true) ⟨_,uP _ rfl,rfl⟩ isSubtype_stop ?_)
 exact uG (hQ _ (((bZ ..).extBut.push _).push _))
theorem rawIter {Q:uC->uE->Prop} (hd:(d==wP)=false) (hod:s.heap.get? d=some od) (hx:od.ExactDict) (hdd:od.data=.dict es ep)
  (hQ:Q (.ref s.heap.objs.size) {s with heap:=s.heap.push {cls:=.type "dict_keyiterator",data:=.fields #[.ref d,.int 0 0,.int es.size 0,.int ep 0]}}):uS (uV prog w) A (pyIter (.ref d)) Q E s:=by
 have hT:s.TypeIs (.ref d) "dict":=⟨od,hod,hx.1⟩
 refine wpAny_pyIter_slot hT F.slot_dict_iter (wK F.slot_dict_iter hT F.entry_dict_iter ?_ (F.args_dict_iter_1 _))
 unfold xQ.«dict.__iter__» Builtin.Dict.dictSlotNone
 refine uA (uA (wpAny_notOrdered_dict hT (uG ?_)))
 unfold dU
 dsimp only
 refine uA (uG (uA ?_))
 rw [gK (by rw [hd];exact uJ)]
 refine uG (uA (aC hod hdd (uA (aQ hod hdd (uA (wF (uG ⟨_,rfl,"dict_keyiterator",_,⟨_,uP _ rfl,rfl⟩,F.slot_dict_keyiterator_next.lookup,?_⟩)))))))
 simpa [xD] using hQ
theorem rawViewIter {v:Addr} {Q:uC->uE->Prop} (hv:s.heap.IsValuesView v d) (hod:s.heap.get? d=some od) (hdd:od.data=.dict es ep)
  (hQ:Q (.ref s.heap.objs.size) {s with heap:=s.heap.push {cls:=.type "dict_valueiterator",data:=.fields #[.ref d,.int 0 0,.int es.size 0,.int ep 0]}}):uS (uV prog w) A (pyIter (.ref v)) Q E s:=by
 obtain⟨ov,hov,hcv,hdv⟩:=id hv
 refine wpAny_pyIter_slot hv.typeIs F.slot_dict_values_iter (wK F.slot_dict_values_iter hv.typeIs F.entry_dict_values_iter ?_ (F.args_dict_values_iter_1 _))
 unfold xQ.«dict_values.__iter__» Dict_items.dictOf
 refine uA (uG (uA (uA (cL hov hdv (x:=.ref d) rfl (uG (uA ?_))))))
 unfold Dict_items.newIterator
 refine uA (aC hod hdd (uA (aQ hod hdd ?_)))
 have own:Dict_items.ownsTuple "dict_valueiterator" =false:=by decide
 simp only [own,Bool.false_eq_true,if_false]
 refine wF (uG ⟨_,rfl,"dict_valueiterator",_,⟨_,uP _ rfl,rfl⟩,F.slot_dict_valueiterator_next.lookup,?_⟩)
 simpa [xD] using hQ
theorem rawValues (d:Addr) (hd:(d==wP)=false):MeetsIn prog w (xQ.«dict.values» ⟨[.ref d], []⟩) (fun _ R s=>s.TypeIs (.ref d) "dict"/\
  R (.ok (.ret (.ref s.heap.objs.size))) {s with heap:=s.heap.push {cls:=.type "dict_values",data:=.fields #[.ref d]}}):=
 .of_wp fun A R s ⟨hT,h⟩=>by
  refine uA ?_
  unfold Builtin.Dict.noArgs
  refine uA (wpAny_notOrdered_dict hT ?_)
  show uS _ _ (pure d) _ _ s
  refine uG ?_
  show uS _ _ (dU d >>= _) _ _ s
  refine uA ?_
  unfold dU
  rw [gK (by rw [hd];exact uJ)]
  exact uG (uA (wF (uG ⟨_,rfl,h⟩)))
end
end My
namespace My
open PySem PySem.Spec PyProof.Rows L2
section
variable {X: Cx} {pins: List (Addr × Obj)} {σ: L2.St} {H: Hp} {s: uE} {a: Addr} {kvs: List (List Key × V)} {o: Obj}
theorem Inv.freezeT (I:Inv X pins σ H s) (e:H a=some (.dT kvs)) (ho:s.heap.get? a=some o):Inv X pins σ (upd H a (.frz o (.dT kvs))) s:=by
 have ok:=I.hok a _ e
 have z:=I.write (x:=a) (e:=a) (o:=.frz o (.dT kvs)) (h':=s.heap) (t':=s.toks) (by rw [e];exact wQ) (.inl rfl) (fun _ _ _ q=>q) ⟨o,ho⟩ ⟨ho,ok.stay (fun _ _ _ r=>r) (fun c r=>by
  rw [qa6 (fun w=>by subst w;rw [e] at r;cases r)];exact r) fun c xs r=>by
  rw [qa6 (fun w=>by subst w;rw [e] at r;cases r)];exact r⟩
 exact z
end
theorem entT {P:uY} {w:vL} {H:Hp} {h:vP} {a:Addr} {kvs:List (List Key × V)} (ok:qbh P w H h a (.dT kvs)):∃o es ep,h.get? a=some o/\o.ExactDict/\o.data=.dict es ep/\es.size=kvs.length/\(a==wP)=false/\
  ∀(i:Nat) (hi:i < es.size) k v,kvs[i]?=some (k,v)->∃b,es[i].key=.ref b/\H b=some (.tup (k.map kV))/\qbb v es[i].val:=by
 obtain⟨_,y,xs,r,o,es,ep,h1,h2,h3,h4,_⟩:=ok
 have key:∀{l:List (List Key × V)} {m:List (List Key × Addr × uC)},KT H l m->l.length=m.length/\∀(i:Nat) k v,l[i]?=some (k,v)->∃q,m[i]?=some q/\H q.2.1=some (.tup (k.map kV))/\qbb v q.2.2:=by
  intro l m q
  induction q with
  |nil=>exact⟨rfl,fun i k v e=>by simp at e⟩
  | @cons p q ps qs hq t ih=>
   refine⟨by rw [zL,zL,ih.1],fun i k v e=>?_⟩
   cases i with
   |zero=>
    simp only [aW,cO] at e ⊢
    subst e
    exact⟨q,rfl,hq.2.1,hq.2.2⟩
   |succ i=>
    simp only [aY] at e ⊢
    exact ih.2 i k v e
 obtain⟨kl,kg⟩:=key r
 have hs:es.size=xs.length:=by
  have:=congrArg xA h4
  rw [zB] at this
  simpa using this
 refine⟨o,es,ep,h1,h2,h3,by omega,y,fun i hi k v e=>?_⟩
 obtain⟨q,hq,hb,hv⟩:=kg i k v e
 have e1:es[i]?=some (entryOfKey (cB (qbc P w)) q):=by
  rw [<-yY,h4,zC,hq];rfl
 have e2:es[i]=entryOfKey (cB (qbc P w)) q:=by
  rw [wO hi] at e1
  exact uW e1
 rw [e2]
 exact⟨q.2.1,rfl,hb,hv⟩
def ItDT (d:Addr) (o:Obj) (kvs:List (List Key × V)):It:=
 ⟨fun i H=>H d=some (.frz o (.dT kvs))/\i < kvs.length,fun i H x H'=>H'=H/\∃k v b,kvs[i]?=some (k,v)/\x=.ref b/\H b=some (.tup (k.map kV)),fun i H=>H d=some (.frz o (.dT kvs))/\kvs.length<=i⟩
theorem turn_dT {P:uY} {w:vL} {K:uR} {tg:vQ} {o:Obj} {kvs:List (List Key × V)} {es:Array eJ} {ep:Nat} (d it:Addr) (hd:o.data=.dict es ep):Turn P w K tg (ItDT d o kvs) [it] it (fun i h=>h.IsKeyIter it d i kvs.length ep) where
 mem:=by simp
 obj:=fun i h st b hb=>by
  have e:b=it:=by simpa using hb
  subst e
  obtain⟨ob,e,c,dd⟩:=st
  exact⟨ob,e,fun v z=>by rw [dd] at z;cases z⟩
 keep:=fun i h h' st k=>st.at fun ob e=>k it (by simp) ob e
 item:=by
  intro X hP hw hK hc i pins s σ H E I hf st hg
  subst hP hw hK
  obtain⟨hfz,hi⟩:=hg
  obtain⟨ho,okd⟩:=I.hok d _ hfz
  obtain⟨o',es',ep',ho',hx,hd',hsz,hsy,get⟩:=entT okd
  rw [ho] at ho'
  cases ho'
  rw [hd] at hd'
  cases hd'
  obtain⟨f0,f1,f2,f3,f4,f5⟩:=hf it (by simp)
  obtain⟨b,hb,hbt,_⟩:=get i (by omega) kvs[i].1 kvs[i].2 (by rw [zA hi])
  rw [<-hsz] at st
  refine rawKey st ho hd (by omega) fun h' st' hs'=>?_
  have I1:Inv X pins σ H {s with heap:=h'}:=I.turned (t':=s.toks) (fun b ob hb e=>hs'.extBut b ob hb e) f0 f1 f3 f4 f5
  obtain⟨ob,e,c,dd⟩:=id st'
  rw [hb]
  exact⟨_,rfl,go_of (s:={s with heap:=h'}) e c dd (by decide) ⟨.ref b,H,I1,rfl,⟨rfl,kvs[i].1,kvs[i].2,b,zA hi,rfl,hbt⟩,by rw [<-hsz];exact st',fun b hb=>(hf b hb).1⟩⟩
 done:=by
  intro X hP hw hK hc i pins s σ H E I hf st hg
  subst hP hw hK
  obtain⟨hfz,hi⟩:=hg
  obtain⟨ho,okd⟩:=I.hok d _ hfz
  obtain⟨o',es',ep',ho',hx,hd',hsz,hsy,get⟩:=entT okd
  rw [ho] at ho'
  cases ho'
  rw [hd] at hd'
  cases hd'
  obtain⟨f0,f1,f2,f3,f4,f5⟩:=hf it (by simp)
  rw [<-hsz] at st
  exact rawKeyEnd (I.ok.hd hc) st ho hd (by omega) fun h' eb=>⟨rfl,I.turned (t':=s.toks) (fun b ob hb e=>eb b ob hb e) f0 f1 f3 f4 f5⟩
 self:=fun _ _ _ _ _ st h=>wpAny_pyIter_keyiter st h
def rItDT (x:V) (H:Hp) (R:It->Hp->Prop):Prop:=∃a kvs,x=.ref a/\H a=some (.dT kvs)/\∀o,R (ItDT a o kvs) (upd H a (.frz o (.dT kvs)))
def iDictT (td:TE):TI:=fun σ H R=>td σ H fun x H1=>rItDT x H1 R
theorem qfu {X:Cx} {tg l:vQ} {tl:TE} (hl:PE X l tl):PI X tg l (iDictT tl):=by
 intro pins s σ H R I h
 refine thn (hl pins s σ H _ I h) fun v s1 ⟨x,H1,I1,r1,q1⟩=>?_
 obtain⟨a,kvs,e,ea,q⟩:=q1
 subst e
 cases r1
 obtain⟨o,es,ep,ho,hx,hd,hsz,hsy,get⟩:=entT (I1.hok a _ ea)
 refine rawIter hsy ho hx hd ?_
 have it0:(s1.heap.push {cls:=.type "dict_keyiterator",data:=.fields #[.ref a,.int 0 0,.int es.size 0,.int ep 0]}).IsKeyIter s1.heap.objs.size a 0 kvs.length ep:=by
  rw [<-hsz];exact⟨_,uP _ rfl,rfl,rfl⟩
 have I2:=Inv.freezeT I1 ea ho
 refine⟨s1.heap.objs.size, [s1.heap.objs.size],_,_,_,rfl,I2.kept (t':=s1.toks) fun b ob e=>uD _ e,turn_dT (kvs:=kvs) a _ hd,it0,fun b hb=>?_,q o⟩
 have e:b=s1.heap.objs.size:=by simpa using hb
 subst e
 exact I2.fpOk (uF _) (I2.hok.fresh (uF _))
def rValsT:V->List V->Hp->VK->Prop:=fun x xs H Q=>∃p kvs,x=.ref p/\xs=[]/\Rd H p (.dT kvs)/\∀v,H v=none->Q (.ref v) (upd H v (ValO v p))
section
variable {X: Cx}
theorem mt_valsT:MtR X "dict.values" rValsT:=by
 intro pins s σ H x xs v us Q I rx rv h
 obtain⟨p,kvs,rfl,rfl,e,q⟩:=h
 cases rx
 have hus:=rv.zero
 subst hus
 obtain⟨o,es,ep,ho,hx,hd,hsz,hsy,get⟩:=entT (e.ok I.hok)
 have hT:s.TypeIs (.ref p) "dict":=⟨o,ho,hx.1⟩
 refine call_meetsIn PySem.F.slot_dict_values hT PySem.F.entry_dict_values (PySem.F.args_dict_values_1 _) (rawValues p hsy) ⟨hT,?_⟩
 exact⟨.ref _,_,I.laid (a:=s.heap.objs.size) (o:=ValO s.heap.objs.size p) (t':=s.toks) (fun b ob e=>uD _ e) (uF _) ⟨⟨_,uP _ rfl,rfl,rfl⟩,⟨_,uP _ rfl⟩,fun h1 h2 ⟨o,e1,r⟩ k=>⟨o,k _ e1,r⟩⟩,rfl,q _ (I.hok.fresh (uF _))⟩
end
end My
namespace My
open PySem PySem.Spec PyProof.Rows L2 PyProof PySem.SeqAt
def isTx (z:Str):uC->Bool
 | .str a _=>a==z
 |_=>false
theorem isTx_at (z:Str):∀{us:List uC} {ss:List Str},fY us ss->∀(j:Nat) (h1:j < us.length) (h2:j < ss.length),isTx z us[j]=(ss[j]==z)
 |_,_,.nil,j,h1,_=>absurd h1 (bX j)
 |_,_,.cons x t h,0,_,_=>rfl
 |_,_,.cons x t h,j+1,h1,h2=>isTx_at z h j (xR h1) (xR h2)
theorem isTx_eq {A:vM} {s:uE} (z:Str) (t:Tok):∀{us:List uC} {ss:List Str},fY us ss->∀y∈us,EqAt A s y (.str z t) (isTx z y)
 |_,_,.nil,y,h=>by simp at h
 |_,_,.cons x u r,y,h=>by
  rcases zM.mp h with rfl|h
  .exact EqAt.str_str x u z t
  .exact isTx_eq z t r y h
theorem idx_ne {z:Str}:∀{ss:List Str} {j:Nat} (h:j < ss.length),j < ss.idxOf z->ss[j]≠z
 | [],j,h,_=>absurd h (bX j)
 |x :: ss,0,_,hj=>fun e=>by
  have e:x=z:=e
  rw [List.idxOf_cons,e] at hj
  simp at hj
 |x :: ss,j+1,h,hj=>by
  rw [List.idxOf_cons] at hj
  cases c:(x==z) with
  |true=>rw [c] at hj;simp at hj
  |false=>
   rw [c] at hj
   exact idx_ne (xR h) (by simpa using hj)
section
variable {X: Cx}
def rIdxS (K:uR):V->List V->Hp->VK->Prop:=fun x xs H Q=>∃(l:Addr) (ss:List Str) (z:Str),x=.ref l/\xs=[.str z]/\SqL K H l (ss.map V.str)/\z∈ss/\Q (.int ((ss.idxOf z:Nat):Int)) H
theorem mt_idxS:MtR X "list.index" (rIdxS X.K):=by
 intro pins s σ H x xs v us Q I rx rv h
 obtain⟨l,ss,z,rfl,rfl,hS,hz,q⟩:=h
 cases rx
 obtain⟨u,rfl,ru⟩:=rv.one
 obtain⟨t,rfl⟩:=ru
 obtain⟨its,r1,pl,hz'⟩:=I.list hS
 have sa:=qfo r1
 have hlen:=r1.length
 rw [zB] at hlen
 obtain⟨⟨cls,dd,data,sl⟩,ho,hc,n,hd⟩:=id pl.isList
 simp only at hc hd
 subst hc hd
 have hj:ss.idxOf z < ss.length:=List.idxOf_lt_length_iff.mpr hz
 have hz2:ss.length<=16777216:=by rw [zB] at hz';exact hz'
 refine call_meets PySem.F.slot_list_index ⟨_,ho,rfl⟩ PySem.F.entry_list_index (PySem.F.args_list_index_2 _ _)
  (list_indexAt l its.toArray n dd sl (.str z t) (isTx z) (ss.idxOf z) (by simp;omega) (by omega) ?_ ?_) ⟨ho,fun y hy=>isTx_eq z t sa y (by simpa using hy),.int ((ss.idxOf z:Nat):Int),H,I.tok _,⟨_,rfl⟩,q⟩
 .show isTx z its[ss.idxOf z]=true
  rw [isTx_at z sa _ (by omega) hj]
  simpa using List.getElem_idxOf hj
 .intro j hjs hlt
  show isTx z its[j]=false
  rw [isTx_at z sa j (by simpa using hjs) (by omega)]
  exact beq_false_of_ne (idx_ne _ hlt)
end
section
variable {K: uR} {H: Hp} {Q: VK}
theorem r_idxS {l:Addr} {ss:List Str} {j:Nat} (h:SqL K H l (ss.map V.str)) (nd:ss.Nodup) (hj:j < ss.length) (q:Q (.int (j:Int)) H):rIdxS K (.ref l) [.str ss[j]] H Q:=⟨l,ss,ss[j],rfl,rfl,h,zJ hj,by
 have e:ss.idxOf ss[j]=j:=List.Nodup.idxOf_getElem nd j hj
 rw [e];exact q⟩
end
end My
namespace My
open PySem PySem.Spec PyProof.Rows L2
section
variable {K: uR} {H: Hp} {Q: VK}
theorem r_menuV {p:Addr} {xs:List V} {r:Int} (hS:SqL K H p xs) (h0:0<=r) (h1:r < xs.length) (h:∀m,m∈xs->Q m H):rIxL K (.ref p) (.int r) H Q:=by
 obtain⟨j,rfl⟩:=wL h0
 have hj:j < xs.length:=by omega
 exact qb7 hS (qav (zA hj)) (h _ (zJ hj))
end
end My
namespace My
open PySem PySem.Spec PyProof.Rows L2 PyProof PySem.SeqAt
end My
namespace My
open PySem PySem.Spec PyProof.Rows L2
section
variable {K: uR} {H: Hp} {p: Addr} {n: Int} {xs: List V}
theorem deq_nilL {n:Nat} {a b:Addr} (ha:SqL K H a xs) (hb:SqL K H b []) (ne:a≠b):DEq K H (n+1) (.ref a) (.ref b) (decide (xs=[])):=by
 cases xs with
 |nil=>
  have z:=DEq.ls (n:=n) (e:=fun _=>true) ha hb ne rfl (fun j h1 h2=>absurd h1 (bX j))
  exact z
 |cons p r=>exact DEq.lsN ha hb ne (by simp)
end
def rAny (K:uR):List V->Hp->VK->Prop:=fun xs H Q=>∃(p:Addr) (bs:List Bool),xs=[.ref p]/\SqL K H p (bs.map V.bl)/\Q (.bl (bs.any id)) H
theorem any_range (bs:List Bool):((vC bs.length).any fun i=>(bs[i]?).getD true)=bs.any id:=by
 rw [xU,yO,yO]
 constructor
 .rintro⟨i,hi,h⟩
  have hi':=yT.mp hi
  rw [zA hi'] at h
  exact⟨_,zJ hi',h⟩
 .rintro⟨b,hb,h⟩
  obtain⟨i,hi,e⟩:=zQ.mp hb
  exact⟨i,yT.mpr hi,by rw [zA hi,e];exact h⟩
section
variable {X: Cx}
theorem call_anyB (hc:X.calm=true):qc7 X (.builtin "any") (rAny X.K):=by
 intro pins s σ H xs us Q I hv h
 obtain⟨p,bs,rfl,hS,q⟩:=h
 obtain⟨u,rfl,ru⟩:=hv.one
 cases ru
 obtain⟨its,rv,pl,hz⟩:=I.list hS
 have hl:=pl.isList
 have hlt:p < s.heap.objs.size:=by obtain⟨_,e,_⟩:=hl;exact uL e
 have hlen:=rv.length
 rw [zB] at hlen
 refine call_any_walk (bB hl ?_)
 refine⟨s.heap.objs.size, [s.heap.objs.size,p], [s.heap.objs.size],its.toArray.size,_,_,fun i=>(bs[i]?).getD true,rfl,Walks.list (A:=X.A.in1) (I.ok.hd hc) _ p (uX hlt) its.toArray,⟨⟨_,uP _ rfl,rfl,rfl⟩,hl.push _⟩,fun i v s' Q' E' hP hQ=>?_,fun h' tk hk=>?_⟩
 .have hi:its[i]?=some v:=by simpa using hP
  have hb:i < bs.length:=by rw [hlen];exact(uH.mp hi).1
  have hx:(bs.map V.bl)[i]?=some (.bl bs[i]):=by rw [zC,zA hb];rfl
  obtain⟨u,e,r⟩:=rv.get hx
  rw [hi] at e
  cases e
  cases r
  dsimp only at hQ
  rw [zA hb] at hQ
  exact wI hQ
 .have e:((vC its.toArray.size).any fun i=>(bs[i]?).getD true)=bs.any id:=by
   rw [zI,<-hlen];exact any_range bs
  rw [e]
  exact⟨.bl _,H,I.kept (t':=tk) (fun b o eb=>hk b o (fun hm=>by have z:=uL eb;rw [zF.mp hm] at z;exact wA _ z) (uD _ eb)),rfl,q⟩
end
def ItVT (a:Addr) (o:Obj) (kvs:List (List Key × V)):It:=
 ⟨fun i H=>H a=some (.frz o (.dT kvs))/\i < kvs.length,fun i H v H'=>H'=H/\∃k,kvs[i]?=some (k,v),fun i H=>H a=some (.frz o (.dT kvs))/\kvs.length<=i⟩
theorem turn_vT {P:uY} {w:vL} {K:uR} {tg:vQ} {o:Obj} {kvs:List (List Key × V)} {es:Array eJ} {ep:Nat} (d it:Addr) (hd:o.data=.dict es ep):Turn P w K tg (ItVT d o kvs) [it] it (fun i h=>h.IsValIter it d i kvs.length ep) where
 mem:=by simp
 obj:=fun i h st b hb=>by
  have e:b=it:=by simpa using hb
  subst e
  obtain⟨ob,e,c,dd⟩:=st
  exact⟨ob,e,fun v z=>by rw [dd] at z;cases z⟩
 keep:=fun i h h' st k=>st.at fun ob e=>k it (by simp) ob e
 item:=by
  intro X hP hw hK hc i pins s σ H E I hf st hg
  subst hP hw hK
  obtain⟨hfz,hi⟩:=hg
  obtain⟨ho,okd⟩:=I.hok d _ hfz
  obtain⟨o',es',ep',ho',hx,hd',hsz,hsy,get⟩:=entT okd
  rw [ho] at ho'
  cases ho'
  rw [hd] at hd'
  cases hd'
  obtain⟨f0,f1,f2,f3,f4,f5⟩:=hf it (by simp)
  obtain⟨b,_,_,ru⟩:=get i (by omega) kvs[i].1 kvs[i].2 (by rw [zA hi])
  rw [<-hsz] at st
  refine rawVal st ho hd (by omega) fun h' st' hs'=>?_
  have I1:Inv X pins σ H {s with heap:=h'}:=I.turned (t':=s.toks) (fun b ob hb e=>hs'.extBut b ob hb e) f0 f1 f3 f4 f5
  obtain⟨ob,e,c,dd⟩:=id st'
  exact⟨_,rfl,go_of (s:={s with heap:=h'}) e c dd (by decide) ⟨kvs[i].2,H,I1,ru,⟨rfl,kvs[i].1,zA hi⟩,by rw [<-hsz];exact st',fun b hb=>(hf b hb).1⟩⟩
 done:=by
  intro X hP hw hK hc i pins s σ H E I hf st hg
  subst hP hw hK
  obtain⟨hfz,hi⟩:=hg
  obtain⟨ho,okd⟩:=I.hok d _ hfz
  obtain⟨o',es',ep',ho',hx,hd',hsz,hsy,get⟩:=entT okd
  rw [ho] at ho'
  cases ho'
  rw [hd] at hd'
  cases hd'
  obtain⟨f0,f1,f2,f3,f4,f5⟩:=hf it (by simp)
  rw [<-hsz] at st
  exact rawValEnd (I.ok.hd hc) st ho hd (by omega) fun h' eb=>⟨rfl,I.turned (t':=s.toks) (fun b ob hb e=>eb b ob hb e) f0 f1 f3 f4 f5⟩
 self:=fun _ _ _ _ _ st h=>wpAny_pyIter_valiter st h
def rItVT (x:V) (H:Hp) (R:It->Hp->Prop):Prop:=∃v a kvs,x=.ref v/\H v=some (ValO v a)/\H a=some (.dT kvs)/\∀o,R (ItVT a o kvs) (upd H a (.frz o (.dT kvs)))
def iValsT (td:TE):TI:=fun σ H R=>td σ H fun x H1=>rItVT x H1 R
theorem pi_valsT {X:Cx} {tg l:vQ} {tl:TE} (hl:PE X l tl):PI X tg l (iValsT tl):=by
 intro pins s σ H R I h
 refine thn (hl pins s σ H _ I h) fun v s1 ⟨x,H1,I1,r1,q1⟩=>?_
 obtain⟨v,a,kvs,e,hv,ea,q⟩:=q1
 subst e
 cases r1
 obtain⟨o,es,ep,ho,hx,hd,hsz,hsy,get⟩:=entT (I1.hok a _ ea)
 obtain⟨hv1,_⟩:=I1.hok v _ hv
 refine rawViewIter hv1 ho hd ?_
 have I2:=Inv.freezeT I1 ea ho
 refine⟨s1.heap.objs.size, [s1.heap.objs.size],_,_,_,rfl,I2.kept (t':=s1.toks) fun b ob e=>uD _ e,turn_vT (kvs:=kvs) a _ hd,by rw [<-hsz];exact⟨_,uP _ rfl,rfl,rfl⟩,fun b hb=>?_,q o⟩
 have e:b=s1.heap.objs.size:=by simpa using hb
 subst e
 exact I2.fpOk (uF _) (I2.hok.fresh (uF _))
section
variable {K: uR} {σ: L2.St} {H: Hp} {tl td ty tv: TE} {a p: Addr} {kvs: List (List Key × V)} {Q: VK} {D: Ends} {rd: V -> V -> Hp -> VK -> Prop}
theorem r_iVT {R:It->Hp->Prop} (h:tl σ H fun x H1=>rItVT x H1 R):iValsT tl σ H R:=h
theorem r_itVT {R:It->Hp->Prop} {v:Addr} (hv:H v=some (ValO v a)) (e:H a=some (.dT kvs)) (h:∀o,R (ItVT a o kvs) (upd H a (.frz o (.dT kvs)))):rItVT (.ref v) H R:=⟨v,a,kvs,rfl,hv,e,h⟩
theorem r_any {bs:List Bool} (e:SqL K H p (bs.map V.bl)) (h:Q (.bl (bs.any id)) H):rAny K [.ref p] H Q:=⟨p,bs,rfl,e,h⟩
def kDA (tv:TE) (rd:V->V->Hp->VK->Prop) (D:Ends) (σ:L2.St) (x y:V) (H2:Hp):Prop:=∃a v,x=.ref a/\DGet H2 a y (some v)/\tv σ H2 fun y2 H3=>rd v y2 H3 fun z H4=>∃H5,DPut H4 a y z H5/\D.nx σ H5
theorem r_da (h:td σ H fun x H1=>ty σ H1 fun y H2=>kDA tv rd D σ x y H2):sDAug td ty tv rd D σ H:=h
end
section
variable {X: Cx} {pins: List (Addr × Obj)} {σ: L2.St} {H H': Hp} {s: uE} {a: Addr} {kvs: List (List Key × V)} {o: Obj}
theorem Inv.thawT (I:Inv X pins σ H s) (e:H a=some (.frz o (.dT kvs))) (n0:qgb X.H₀ a):Inv X pins σ (upd H a (.dT kvs)) s:=by
 have ne:∀b,H b=none->b≠a:=fun b q z=>by subst z;rw [e] at q;cases q
 have nk:∀b u,H b=some u->(∀o' u',u≠ .frz o' u')->b≠a:=fun b u q z w=>by subst w;rw [e] at q;cases q;exact z _ _ rfl
 refine⟨I.ok,I.os,I.bare,⟨I.base.keep,I.base.slot,fun b ob q n hx=>?_,I.base.there,fun b xs q=>?_,fun b ob u q=>?_,fun b ps q=>?_⟩,I.loc,I.cell,?_,fun x c q=>?_,fun p hp=>?_,fun b u q=>?_,I.len⟩
 .have z:=I.base.free b ob q n hx
  rw [qa6 (ne b z)];exact z
 .have z:=I.base.tups b xs q
  rw [qa6 (nk b _ z (by intro _ _ h;cases h))];exact z
 .have z:=I.base.frzs b ob u q
  rw [qa6 (fun w=>by subst w;exact n0 _ _ q)];exact z
 .obtain⟨m,z⟩:=I.base.tbls b ps q
  exact⟨m,by rw [qa6 (nk b _ z (by intro _ _ h;cases h))];exact z⟩
 .have z:=I.free
  rw [qa6 (ne _ z)];exact z
 .have z:=I.freeC x c q
  rw [qa6 (ne _ z)];exact z
 .obtain⟨p1,p2,p3⟩:=I.pin p hp
  exact⟨p1,by rw [qa6 (ne _ p2)];exact p2,p3⟩
 .by_cases hb:b=a
  .subst hb
   rw [qa1] at q
   cases q
   exact((I.hok b _ e).2).stay (fun _ _ _ r=>r) (fun c r=>by rw [qa6 (nk c _ r (by intro _ _ h;cases h))];exact r) fun c xs r=>by rw [qa6 (nk c _ r (by intro _ _ h;cases h))];exact r
  .rw [qa6 hb] at q
   exact(I.hok b u q).stay (fun _ _ _ r=>r) (fun c r=>by rw [qa6 (nk c _ r (by intro _ _ h;cases h))];exact r) fun c xs r=>by rw [qa6 (nk c _ r (by intro _ _ h;cases h))];exact r
def qg8 (H0 H H':Hp):Prop:=H'=H\/∃a o kvs,H a=some (.frz o (.dT kvs))/\qgb H0 a/\H'=upd H a (.dT kvs)
theorem Inv.thawedT (I:Inv X pins σ H s) (t:qg8 X.H₀ H H'):Inv X pins σ H' s:=by
 rcases t with rfl|⟨a,o,kvs,e,n,rfl⟩
 .exact I
 .exact Inv.thawT I e n
end
section
variable {X: Cx} {st: Stmt} {e: vQ} {t: TS} {te: TE}
def thET (H0:Hp) (D:Ends):Ends:={nx:=fun σ H=>∃H',qg8 H0 H H'/\D.nx σ H',rt:=fun v H=>∃H',qg8 H0 H H'/\D.rt v H',bk:=fun σ H=>∃H',qg8 H0 H H'/\D.bk σ H',ct:=fun σ H=>∃H',qg8 H0 H H'/\D.ct σ H'}
def tThAT (H0:Hp) (t:TS):TS:=fun D σ H=>t (thET H0 D) σ H
theorem ps_thAT (h:PS X st t):PS X st (tThAT X.H₀ t):=fun pins s σ H D I q=>thn (h pins s σ H _ I q) fun f s' hs=>by
 cases f with
 |next=>obtain⟨σ',H1,J,H2,th,q⟩:=hs;exact⟨σ',H2,Inv.thawedT J th,q⟩
 |brk=>obtain⟨σ',H1,J,H2,th,q⟩:=hs;exact⟨σ',H2,Inv.thawedT J th,q⟩
 |cont=>obtain⟨σ',H1,J,H2,th,q⟩:=hs;exact⟨σ',H2,Inv.thawedT J th,q⟩
 |ret u=>obtain⟨v,σ',H1,J,r,H2,th,q⟩:=hs;exact⟨v,σ',H2,Inv.thawedT J th,r,q⟩
def tThVT (H0:Hp) (t:TE):TE:=fun σ H Q=>t σ H fun v H1=>∃H',qg8 H0 H1 H'/\Q v H'
theorem pe_thVT (h:PE X e te):PE X e (tThVT X.H₀ te):=fun pins s σ H Q I q=>thn (h pins s σ H _ I q) fun u s' ⟨v,H1,J,r,H2,th,q⟩=>⟨v,H2,Inv.thawedT J th,r,q⟩
end
section
variable {σ: L2.St} {H H' H0: Hp} {D: Ends} {t: TS} {te: TE} {Q: VK} {a: Addr} {o: Obj} {kvs: List (List Key × V)} {v: V}
theorem r_thAT (h:t (thET H0 D) σ H):tThAT H0 t D σ H:=h
theorem r_thNxT (th:qg8 H0 H H') (h:D.nx σ H'):(thET H0 D).nx σ H:=⟨H',th,h⟩
theorem r_thVT (h:te σ H fun v H1=>∃H',qg8 H0 H1 H'/\Q v H'):tThVT H0 te σ H Q:=h
theorem thawT1 (e:H a=some (.frz o (.dT kvs))) (n:qgb H0 a):qg8 H0 H (upd H a (.dT kvs)):=.inr ⟨a,o,kvs,e,n,rfl⟩
theorem qfy (e:H a=some (.dT kvs)):qgb H a:=fun o u z=>by rw [e] at z;cases z
end
def tLst0 (K:uR):TE:=fun _ H Q=>∀p,H p=none->(∀a xs,SqL K H a xs->a≠p)->Q (.ref p) (upd H p (.lst []))
theorem pe_lst0 {X:Cx} {pos:Pos}:PE X (.List [] pos) (tLst0 X.K):=by
 intro pins s σ H Q I hq
 refine wpAny_List_spliced (thn (qa2 (X:=X) pos pins s σ H (fun xs H1=>xs=[]/\H1=H) I ⟨rfl,rfl⟩) fun us s1 ⟨xs,H1,I1,r,e1,e2⟩=>?_)
 subst e1 e2
 have hu:=r.zero
 subst hu
 refine⟨by show 0<=_;exact vY _,?_⟩
 have hf:H1 s1.heap.objs.size=none:=I1.hok.fresh (uF _)
 refine⟨.ref s1.heap.objs.size,upd H1 s1.heap.objs.size (.lst []),I1.laid (t':=s1.toks) (fun b u e=>uD _ e) (uF _) ?_,rfl,hq _ hf fun a xs hS=>?_⟩
 .exact⟨vY _, [],0,r,uP _ rfl⟩
 .obtain⟨its,rv,pl,hz⟩:=I1.list hS
  obtain⟨_,e,_⟩:=pl.isList
  exact uX (uL e)
theorem r_lst0 {K:uR} {σ:L2.St} {H:Hp} {Q:VK} (h:∀p,H p=none->(∀a xs,SqL K H a xs->a≠p)->Q (.ref p) (upd H p (.lst []))):tLst0 K σ H Q:=h
def ItE (K:uR) (l:Addr) (xs:List V):It:=
 ⟨fun i H=>SqL K H l xs/\i < xs.length,fun i H v H'=>∃T x,H T=none/\xs[i]?=some x/\v=.ref T/\H'=upd H T (.tup [.int (i:Int),x]),fun i H=>SqL K H l xs/\xs.length<=i⟩
def ESt (e it l:Addr) (i:Nat) (h:vP):Prop:=(∃old,IsEnum h e it ((i:Nat):Int) old)/\h.IsListIter it l i
theorem turn_enum {P:uY} {w:vL} {K:uR} {elts:List vQ} {kk:Nat} {tp:Pos} {e it l:Addr} (ne:e≠it) (xs:List V):
  Turn P w K (.Tuple elts kk tp) (ItE K l xs) [e,it] e (ESt e it l) where
 mem:=by simp
 obj:=fun i h st b hb=>by
  obtain⟨⟨old,he⟩,o1,e1,_,d1⟩:=st
  simp only [zM,yF,or_false] at hb
  rcases hb with rfl|rfl
  .exact⟨_,he,fun v q=>by have q':Data.fields _=gF v:=q;cases q'⟩
  .exact⟨o1,e1,fun v q=>by rw [d1] at q;cases q⟩
 keep:=fun i h h' st k=>by
  obtain⟨⟨old,he⟩,h1⟩:=st
  exact⟨⟨old,k e (by simp) _ he⟩,h1.at fun o q=>k it (by simp) o q⟩
 item:=by
  intro X hP hw hK hc i pins s σ H E I hf st hg
  subst hP hw hK
  obtain⟨⟨old,he⟩,h1⟩:=st
  obtain⟨q1,g1⟩:=hg
  obtain⟨us,r1,p1,_⟩:=I.list q1
  obtain⟨u1,hu1,ru1⟩:=r1.get (zA g1)
  refine wpAny_pyNext_enum_item he h1 (PlainL.isList p1) (x:=u1) (by simpa using hu1) ne fun h' b1 b3 b5 b6 hk=>?_
  have hn:H s.heap.objs.size=none:=I.hok.fresh (uF _)
  have lt:∀{b:Addr} {o:Obj},s.heap.get? b=some o->b≠s.heap.objs.size:=fun e=>uX (uL e)
  have nz:e≠s.heap.objs.size:=lt he
  have hg0:s.heap.get? s.heap.objs.size=none:=aD (uF _)
  have I1:Inv X pins σ (upd H s.heap.objs.size (.tup [.int (i:Int),xs[i]])) {s with heap:=h',toks:=s.toks+1}:=Inv.turnedT (t':=s.toks+1) (ch:=[e,it]) I
   (fun b hb=>hf b hb)
   (fun b o hb q=>hk b o (fun z=>hb (by simp [z])) (fun z=>hb (by simp [z])) q) hg0 hn
   ⟨by show 2<=16777216;decide, [.int (i:Int) s.toks,u1],.cons ⟨_,rfl⟩ (.cons ru1 .nil),⟨_,b5,rfl,_,rfl⟩⟩
  refine⟨.ref s.heap.objs.size,rfl,wpAny_letOwnedTupleGo_enum (s:={s with heap:=h',toks:=s.toks+1}) b1 fun h2' c1 hs2=>?_⟩
  have hfz:=hf e (by simp)
  have I2:Inv X pins σ (upd H s.heap.objs.size (.tup [.int (i:Int),xs[i]])) {s with heap:=h2',toks:=s.toks+1}:=I1.turned (t':=s.toks+1) (fun b o hb q=>(hs2.2 b hb).trans q) (by rw [qa6 nz];exact hfz.1) hfz.2.1 hfz.2.2.2.1 hfz.2.2.2.2.1 hfz.2.2.2.2.2
  refine⟨.ref s.heap.objs.size,_,I2,rfl,⟨s.heap.objs.size,xs[i],hn,zA g1,rfl,rfl⟩,
   ⟨⟨u1,by rw [show (((i+1:Nat)):Int)=(i:Int)+1 by omega];exact c1⟩,b3.extBut hs2.extBut ne.symm⟩,fun b hb=>?_⟩
  have q:b≠s.heap.objs.size:=by
   simp only [zM,yF,or_false] at hb
   obtain⟨o1,e1,_⟩:=h1
   rcases hb with rfl|rfl
   .exact nz
   .exact lt e1
  rw [qa6 q]
  exact(hf b hb).1
 done:=by
  intro X hP hw hK hc i pins s σ H E I hf st hg
  subst hP hw hK
  obtain⟨⟨old,he⟩,h1⟩:=st
  obtain⟨q1,g⟩:=hg
  obtain⟨us,r1,p1,_⟩:=I.list q1
  have l1:=r1.length
  exact wpAny_pyNext_enum_end (I.ok.hd hc) he h1 (PlainL.isList p1) (by simp;omega) fun h' hk=>
   ⟨rfl,Inv.turnedL (t':=s.toks) (ch:=[e,it]) I (fun b hb=>hf b hb)
    fun b o hb q=>hk b o (fun z=>hb (by simp [z])) q⟩
 self:=fun _ _ _ _ _ st h=>wpAny_pyIter_enum st.1.choose_spec h
def rItE (K:uR) (vs:List V) (H:Hp) (R:It->Hp->Prop):Prop:=∃l xs,vs=[.ref l]/\SqL K H l xs/\R (ItE K l xs) H
def iEnum (K:uR) (ta:TA):TI:=fun σ H R=>ta σ H fun vs H1=>rItE K vs H1 R
theorem boot_enum:xM "enumerate" =some (.type "enumerate"):=by decide+kernel
theorem pi_enum {X:Cx} {elts:List vQ} {kk:Nat} {tp:Pos} {a:vQ} {ta:TA} {p pos:Pos} (hg:Gl X "enumerate") (hm:X.mg "enumerate" =none) (ha:PA X [a] ta) (hs:uZ [a] X.env=[(false,wG a X.env)]:=by rfl):
  PI X (.Tuple elts kk tp) (.Call (.Name "enumerate" p) [a] [] pos) (iEnum X.K ta):=by
 intro pins s σ H R I h
 refine Call_ (qe0 I hg hm boot_enum (wD (thn (ha pos pins s σ H _ I h) fun us s1 ⟨vs,H1,I1,r1,q1⟩=>?_) (by rw [hs];rfl) (by rfl)))
 obtain⟨l,xs,rfl,g1,q⟩:=q1
 cases r1 with
 |cons r rr=>
  cases rr
  cases r
  obtain⟨us,v1,p1,_⟩:=I1.list g1
  have t1:=PlainL.isList p1
  refine call_enumerate_list t1 fun h' he hit hsz hk=>?_
  have I2:Inv X pins σ H1 {s1 with heap:=h'}:=I1.kept (t':=s1.toks) fun b o e=>hk b o e
  refine wpAny_pyIter_enum (s:={s1 with heap:=h'}) he ?_
  refine⟨s1.heap.objs.size+1,_,_,_,H1,rfl,I2,turn_enum (Nat.succ_ne_self _) xs,⟨⟨_,he⟩,hit⟩,fun b hb=>?_,q⟩
  have le:s1.heap.objs.size<=b:=by
   simp only [zM,yF,or_false] at hb
   rcases hb with rfl|rfl <;> omega
  exact I1.fpOk le (I1.hok.fresh le)
section
variable {K: uR} {σ: L2.St} {H: Hp} {ta: TA} {l: Addr} {xs: List V}
theorem r_iE {R:It->Hp->Prop} (h:ta σ H fun vs H1=>rItE K vs H1 R):iEnum K ta σ H R:=h
theorem r_itE {R:It->Hp->Prop} (e1:SqL K H l xs) (h:R (ItE K l xs) H):rItE K [.ref l] H R:=⟨l,xs,rfl,e1,h⟩
end
def COMP3 (J:It) (caps:List Nat) (g:TG) (tt:TT) (te:TE) (acc:Addr) (σ:L2.St) (H:Hp) (Q:VK):Prop:=∃W:Nat->Nat->Hp->Prop,(∃m,W 0 m H)/\∀i m H,W i m H->
 (J.stop i H/\Q (.ref acc) H)\/(J.go i H/\∃N:Hp->Prop,(∀H',N H'->∃m',m' < m/\W (i+1) m' H')/\∀v H',J.yld i H v H'->∀a b:Option V,g v (a :: b :: qay caps σ) H' fun σ2 H2=>(∃a b,σ2=a :: b :: qay caps σ)/\tt σ2 H2 fun b H3=>if b=true then te σ2 H3 fun y H4=>rApp acc N y H4 else N H3)
def tComp3 (wi:TI) (caps:List Nat) (g:CT TG) (tt:CT TT) (te:CT TE):TE:=fun σ H Q=>wi σ H fun J H1=>∀(C:Addr) (s:uE) (H0:Hp) (fp:List Addr) (acc:Addr),H1 acc=none->COMP3 J caps (g C s H0 fp) (tt C s H0 fp) (te C s H0 fp) acc σ (upd H1 acc (.lst [])) Q
section
variable {X: Cx} {pins: List (Addr × Obj)} {σ: L2.St} {H: Hp} {s: uE}
theorem Inv.comp3 {x x2:Str} {scope:bY} {cl:List (Str × Addr)} {caps:List Nat} {cn:List Str} (Cp:Caps X x scope cl caps cn) (I:Inv X pins σ H s) {fp:List Addr} (hf:∀b∈fp,qgc X pins H b) (hlt:∀b∈fp,b < s.heap.objs.size) {h₁:vP} {t':Nat}
  (hns:h₁.Ns s.heap.objs.size (fun _=>none)) (k:∀b o,s.heap.get? b=some o->h₁.get? b=some o):
  Inv (cxC X (x :: x2 :: cn) scope cl s.heap.objs.size s H fp) [] (none :: none :: qay caps σ) H {s with heap:=h₁,toks:=t'}:=by
 have J:=Inv.comp Cp I hf hlt (t':=t') hns k
 have o:=J.ok
 refine⟨⟨o.mod,o.kind,o.glob,o.blt,o.above,o.inj,o.has,o.cab,o.hd,o.frames,o.stk,o.exf,o.bs,o.bsz,o.noex,o.exfs,o.funs,o.frf⟩,J.os,J.bare,J.base,?_,J.cell,J.free,J.freeC,J.pin,J.hok,?_⟩
 .obtain⟨m,hm,hl⟩:=J.loc
  refine⟨m,hm,fun i z v e1 e2 e3=>?_⟩
  match i with
  |0=>cases e2
  |1=>cases e2
  |i+2=>exact hl (i+1) z v (by simpa [cxC] using e1) (by simpa using e2) e3
 .show (none :: none :: qay caps σ).length=(x :: x2 :: cn).length
  rw [zL,zL,zL,zL]
  unfold qay
  rw [zB,Cp.len]
end
section
variable {X: Cx}
theorem pe_comp3 {elt iter tg:vQ} {x x2:Str} {ifs:List vQ} {scope:bY} {cl:List (Str × Addr)} {pos:Pos} {caps:List Nat} {cn:List Str} {wi:TI} {g:CT TG} {tt:CT TT} {te:CT TE} (Cp:Caps X x scope cl caps cn) (hc:X.calm=true)
  (hi:PI X tg iter wi) (hg:∀C s H fp,PG (cxC X (x :: x2 :: cn) scope cl C s H fp) tg (g C s H fp)) (ht:∀C s H fp,PIfs (cxC X (x :: x2 :: cn) scope cl C s H fp) ifs (tt C s H fp)) (he:∀C s H fp,PE (cxC X (x :: x2 :: cn) scope cl C s H fp) elt (te C s H fp))
  (hs:∀x,cJ iter X.env x=pure x:=by intro _;rfl):
  PE X (.ListComp elt [⟨tg,iter,ifs,0⟩] scope pos) (tComp3 wi caps g tt te):=by
 intro pins s σ H Q I h
 rw [eval_ListComp]
 refine cY (use:=none) rfl hs Cp.clos Cp.kind Cp.names (thn (hi pins s σ H _ I h) fun v s1 h1=>thn h1 fun itv s2 h2=>?_)
 obtain⟨it,fp,tn,J,H2,e,I2,T,st2,f2,R⟩:=h2
 subst e
 have hacc:H2 s2.heap.objs.size=none:=I2.hok.fresh (uF _)
 refine wF ?_
 have I3:Inv X pins σ (upd H2 s2.heap.objs.size (.lst [])) {s2 with heap:=s2.heap.push {cls:=.type "list",dict:=none,data:=.seq ([]:List uC).toArray}}:=Inv.lnew (its:=[]) (t':=s2.toks) I2 .nil (vY _)
 have lt2:∀b∈fp,b < s2.heap.objs.size:=fun b hb=>let ⟨o,e,_⟩:=T.obj _ _ st2 b hb;uL e
 have f3:∀b∈fp,qgc X pins (upd H2 s2.heap.objs.size (.lst [])) b:=fun b hb=>⟨by rw [qa6 (uX (lt2 b hb))];exact(f2 b hb).1,(f2 b hb).2⟩
 have st3:tn 0 (s2.heap.push {cls:=.type "list",dict:=none,data:=.seq ([]:List uC).toArray}):=T.keep _ _ _ st2 fun b _ o e=>uD _ e
 generalize hs3:({s2 with heap:=s2.heap.push {cls:=.type "list",dict:=none,data:=.seq ([]:List uC).toArray}}:uE)=s3 at I3 ⊢
 have st3':tn 0 s3.heap:=by rw [<-hs3];exact st3
 generalize s2.heap.objs.size=acc at hacc I3 f3 ⊢
 obtain⟨W,⟨m0,w0⟩,turn⟩:=R s3.heap.objs.size s3 (upd H2 acc (.lst [])) fp acc hacc
 have lt3:∀b∈fp,b < s3.heap.objs.size:=fun b hb=>let ⟨o,e,_⟩:=T.obj _ _ st3' b hb;uL e
 clear st3 hs3
 refine dY Cp.cell (by intro y hy;simp at hy) (fun h₁ hns hsb=>?_) Cp.kind
 have k1:∀b o,s3.heap.get? b=some o->h₁.get? b=some o:=fun b o e=>hsb.extBut b o (uX (uL e)) (uD _ e)
 have I4:Inv (cxC X (x :: x2 :: cn) scope cl s3.heap.objs.size s3 (upd H2 acc (.lst [])) fp) [] (none :: none :: qay caps σ) (upd H2 acc (.lst [])) {s3 with heap:=h₁,toks:=s3.toks+([]:List (Str × uC)).length}:=
  Inv.comp3 Cp I3 f3 lt3 hns k1
 have st4:tn 0 h₁:=T.keep _ _ _ st3' fun b _ o e=>k1 b o e
 generalize hX:cxC X (x :: x2 :: cn) scope cl s3.heap.objs.size s3 (upd H2 acc (.lst [])) fp=X' at I4
 have stat:∀{H':Hp},(∀b∈fp,H' b=none)->∀b∈fp,qgc X' [] H' b:=fun hn b hb=>by
  subst hX
  obtain⟨g0,g1,g2,g3,g4,g5⟩:=f3 b hb
  refine⟨hn b hb,uX (lt3 b hb),fun z=>?_,.inl hb,fun y c e=>g4 y c (Cp.sub y c e),fun p hp=>absurd (show p∈([]:List (Addr × Obj)) from hp) (by simp)⟩
  rcases zM.mp (I3.stkSub b z) with z|z
  .exact g1 z
  .exact g2 z
 have core:bD (uV X.prog X.w) X.A (.compLoop (.ListComp elt [⟨tg,iter,ifs,0⟩] scope pos) 0 (.ref it) (.ref acc) (wU scope cl s3.heap.objs.size X.env))
   (compPost (uV X.prog X.w) X.A X.xe none (EP X pins σ Q) (.ref acc) s3.heap.objs.size) {s3 with heap:=h₁,toks:=s3.toks+([]:List (Str × uC)).length}:=by
  refine codeAny_loop rfl (fun n s'=>∃i a b H',Inv X' [] (a :: b :: qay caps σ) H' s'/\tn i s'.heap/\(∀b∈fp,H' b=none)/\W i n H') (fun n s5 hI=>?_) m0 ⟨0,none,none,_,I4,st4,fun b hb=>(f3 b hb).1,w0⟩
  obtain⟨i,a0,b0,H5,I5,st5,fr5,w5⟩:=hI
  show uS _ _ ((compTurn _ 0 _ _ _).onRaise _) _ _ s5
  refine wpAny_noted ?_
  rw [compTurn_list]
  refine uA (xE (uA ?_))
  have aX:X'.A=X.A:=by subst hX;rfl
  have pX:X'.prog=X.prog:=by subst hX;rfl
  have wX:X'.w=X.w:=by subst hX;rfl
  have kX:X'.K=X.K:=by subst hX;rfl
  have cX:X'.calm=true:=by subst hX;exact hc
  have eX:X'.env=wU scope cl s3.heap.objs.size X.env:=by subst hX;rfl
  rcases turn i n H5 w5 with ⟨stop,qn⟩ |⟨go,N,hN,step⟩
  .have z:=T.done X' pX wX kX cX i [] s5 _ H5 (fun _ _=>False) I5 (stat fr5) st5 stop
   rw [aX] at z
   refine vD z (fun r s6 ⟨hr,I6⟩=>?_) fun _ _ q=>q.elim
   subst hr
   subst hX
   obtain⟨m,hm,_⟩:=id I6.loc
   exact uG ⟨m,hm,fun h' sb=>⟨.ref acc,H5,Inv.uncomp I3 f3 rfl I6 sb,rfl,qn⟩⟩
  .have z:=T.item X' pX wX kX cX i [] s5 _ H5 (fun _ _=>False) I5 (stat fr5) st5 go
   rw [aX] at z
   refine vD z (fun r s6 ⟨u,hr,h6⟩=>?_) fun _ _ q=>q.elim
   subst hr
   refine uA (vD h6 (fun _ s7 ⟨v,H7,I7,r7,y7,st7,fr7⟩=>?_) fun _ _ q=>q.elim)
   have I7':=I7.pinned (stat fr7) (T.obj _ _ st7)
   have asg:uS (uV X.prog X.w) X.A (dX tg (wU scope cl s3.heap.objs.size X.env) u) (fun _ s8=>∃σ8 H8,Inv X' ([]++qbs fp s7.heap) σ8 H8 s8/\(∃a b,σ8=a :: b :: qay caps σ)/\tt s3.heap.objs.size s3 (upd H2 acc (.lst [])) fp σ8 H8 fun b H9=>if b=true then te s3.heap.objs.size s3 (upd H2 acc (.lst [])) fp σ8 H9 (fun y H3=>rApp acc N y H3) else N H9) (fun _ _=>False) s7:=by
    subst hX
    exact hg _ _ _ _ _ s7 _ H7 v u _ I7' r7 (step v H7 y7 a0 b0)
   refine uA (vD asg (fun _ s8 ⟨σ8,H8,I8,⟨a8,b8,e8⟩,q8⟩=>?_) fun _ _ q=>q.elim)
   have tst:uS (uV X.prog X.w) X.A (forIn ifs true fun c r=>if r=true then do let ok<-isTrue c (wU scope cl s3.heap.objs.size X.env) (wG c (wU scope cl s3.heap.objs.size X.env));pure (wZ ok) else pure (wZ r))
     (TP X' ([]++qbs fp s7.heap) σ8 (fun b H9=>if b=true then te s3.heap.objs.size s3 (upd H2 acc (.lst [])) fp σ8 H9 (fun y H3=>rApp acc N y H3) else N H9)) (fun _ _=>False) s8:=by
    subst hX
    exact ht _ _ _ _ _ s8 _ H8 _ I8 q8
   refine uA (vD tst (fun b s9 ⟨H9,I9,q9⟩=>?_) fun _ _ q=>q.elim)
   have fin:∀{a b:Option V} {H10:Hp} {s10:uE},Inv X' ([]++qbs fp s7.heap) (a :: b :: qay caps σ) H10 s10->N H10->∃m',m' < n/\∃i a b H',Inv X' [] (a :: b :: qay caps σ) H' s10/\tn i s10.heap/\(∀b∈fp,H' b=none)/\W i m' H':=fun {a b H10 s10} I10 n10=>
    let ⟨m',hm,w10⟩:=hN _ n10
    ⟨m',hm,i+1,a,b,H10,I10.unpinned,T.keep _ _ _ st7 fun b hb o e=>(I10.pin (b,o) (zP _ (zP _ (qbr hb e)))).1,fun b hb=>by
     obtain⟨o,e,d⟩:=T.obj _ _ st7 b hb
     exact(I10.pin (b,o) (zP _ (zP _ (qbr hb e)))).2.1,w10⟩
   cases b with
   |false=>subst e8;exact uG ⟨rfl,fin I9 q9⟩
   |true=>
    have elt':uS (uV X.prog X.w) X.A (wG elt (wU scope cl s3.heap.objs.size X.env)) (EP X' ([]++qbs fp s7.heap) σ8 (fun y H3=>rApp acc N y H3)) (fun _ _=>False) s9:=by
     subst hX
     exact he _ _ _ _ _ s9 _ H9 _ I9 q9
    refine uA (uA (vD elt' (fun y s10 ⟨w,H10,I10,r10,ys,ha,hz,q10⟩=>?_) fun _ _ q=>q.elim))
    have app:uS (uV X.prog X.w) X.A (call (.builtin "list.append") [.ref acc,y]) (EP X' ([]++qbs fp s7.heap) σ8 fun _ H11=>H11=upd H10 acc (.lst (ys++ [w]))) (fun _ _=>False) s10:=by
     subst hX
     exact qb1 (X:=cxC X (x :: x2 :: cn) scope cl s3.heap.objs.size s3 (upd H2 acc (.lst [])) fp) _ s10 _ H10 (.ref acc) [w] (.ref acc) [y] _ I10 rfl (.cons r10 .nil) ⟨acc,ys,w,rfl,rfl,ha,hz,rfl⟩
    refine uA (vD app (fun _ s11 ⟨_,H11,I11,_,e11⟩=>?_) fun _ _ q=>q.elim)
    subst e11
    subst e8
    exact uG (uG ⟨rfl,fin I11 q10⟩)
 exact dG core (T.self _ 0 _ _ _ st4 core)
end
section
variable {σ: L2.St} {H: Hp} {Q: VK}
theorem r_comp3 {wi:TI} {caps:List Nat} {g:CT TG} {tt:CT TT} {te:CT TE} (h:wi σ H fun J H1=>∀(C:Addr) (s:uE) (H0:Hp) (fp:List Addr) (acc:Addr),H1 acc=none->COMP3 J caps (g C s H0 fp) (tt C s H0 fp) (te C s H0 fp) acc σ (upd H1 acc (.lst [])) Q):tComp3 wi caps g tt te σ H Q:=h
theorem c3_by {J:It} {caps:List Nat} {g:TG} {tt:TT} {te:TE} {acc:Addr} (n:Nat) (Pv:Nat->Hp->Prop) (h0:Pv 0 H) (hgo:∀i H,i < n->Pv i H->J.go i H) (hst:∀H,Pv n H->J.stop n H)
  (hs:∀i H v H' (a b:Option V),i < n->Pv i H->J.yld i H v H'->g v (a :: b :: qay caps σ) H' fun σ2 H2=>(∃a b,σ2=a :: b :: qay caps σ)/\tt σ2 H2 fun b H3=>if b=true then te σ2 H3 fun y H4=>rApp acc (Pv (i+1)) y H4 else Pv (i+1) H3)
  (hd:∀H,Pv n H->Q (.ref acc) H):COMP3 J caps g tt te acc σ H Q:=by
 refine⟨fun i m H=>m=n - i/\i<=n/\Pv i H,⟨n,rfl,vY _,h0⟩,?_⟩
 rintro i m H ⟨rfl,hi,p⟩
 by_cases hlt:i < n
 .exact .inr ⟨hgo i H hlt p,Pv (i+1),fun H' p'=>⟨n - (i+1),by omega,rfl,hlt,p'⟩,fun v H' y a b=>hs i H v H' a b hlt p y⟩
 .have e:i=n:=by omega
  subst e
  exact .inl ⟨hst H p,hd H p⟩
end
inductive PEq (K:uR) (H:Hp):Nat->V->V->Bool->Prop
 |same {n:Nat} {a:Addr}:PEq K H n (.ref a) (.ref a) true
 |flat {n:Nat} {x y:V} (hx:qcs x=true) (hy:qcs y=true):PEq K H n x y (eqV x y)
 |ls {n:Nat} {a b:Addr} {xs ys:List V} {e:Nat->Bool} (ha:SqL K H a xs) (hb:SqL K H b ys) (ne:a≠b) (hl:xs.length=ys.length)
   (he:∀j (h1:j < xs.length) (h2:j < ys.length),PEq K H n xs[j] ys[j] (e j)):PEq K H (n+1) (.ref a) (.ref b) ((vC xs.length).all e)
 |lsN {n:Nat} {a b:Addr} {xs ys:List V} (ha:SqL K H a xs) (hb:SqL K H b ys) (ne:a≠b) (hl:xs.length≠ys.length):PEq K H (n+1) (.ref a) (.ref b) false
 |ts {n:Nat} {a b:Addr} {xs ys:List V} {e:Nat->Bool} (ha:SqT K H a xs) (hb:SqT K H b ys) (ne:a≠b)
   (he:∀j (h1:j < xs.length) (h2:j < ys.length),PEq K H n xs[j] ys[j] (e j)):PEq K H (n+1) (.ref a) (.ref b) ((vC (min xs.length ys.length)).all e && xs.length==ys.length)
section
variable {X: Cx} {pins: List (Addr × Obj)} {σ: L2.St} {H: Hp} {s: uE}
theorem peq_ok (I:Inv X pins σ H s) {n:Nat} {x y:V} {k:Bool} (q:PEq X.K H n x y k):∀(A:vM) (u v:uC),qbb x u->qbb y v->A.units+n < cLine->dE A s u v k:=by
 induction q with
 | @same n a=>
  intro A u v ru rv hu
  obtain rfl:u=uO a:=ru
  obtain rfl:v=uO a:=rv
  exact SeqAt.EqAt.same _
 |flat hx hy=>
  intro A u v ru rv hu
  exact eqAt_V ru rv hx hy
 | @ls n a b xs ys e ha hb ne hl he ih=>
  intro A u v ru rv hu
  obtain rfl:u=uO a:=ru
  obtain rfl:v=uO b:=rv
  obtain⟨its,r1,p1,_⟩:=I.list ha
  obtain⟨its2,r2,p2,_⟩:=I.list hb
  have l1:=r1.length
  have l2:=r2.length
  have z:=SeqAt.RcAt.lists (A:=A) (s:=s) (e:=e) (PlainL.isList p1) (PlainL.isList p2) (by rw [zI,zI];omega) (by omega) fun j h1 h2=>by
   have k1:j < its.length:=by simpa using h1
   have k2:j < its2.length:=by simpa using h2
   have w:=ih j (by omega) (by omega) A.in1 its[j] its2[j] (qcx r1 (by omega) k1) (qcx r2 (by omega) k2) (by show A.units+1+n < cLine;omega)
   simpa using w
  rw [zI,<-l1] at z
  exact fH ne z
 | @lsN n a b xs ys ha hb ne hl=>
  intro A u v ru rv hu
  obtain rfl:u=uO a:=ru
  obtain rfl:v=uO b:=rv
  obtain⟨its,r1,p1,_⟩:=I.list ha
  obtain⟨its2,r2,p2,_⟩:=I.list hb
  have l1:=r1.length
  have l2:=r2.length
  exact fH ne (SeqAt.RcAt.lists_lengths (PlainL.isList p1) (PlainL.isList p2) (by rw [zI,zI];simp;omega) (by omega))
 | @ts n a b xs ys e ha hb ne he ih=>
  intro A u v ru rv hu
  obtain rfl:u=uO a:=ru
  obtain rfl:v=uO b:=rv
  obtain⟨its,r1,p1,_⟩:=I.tuple ha
  obtain⟨its2,r2,p2,_⟩:=I.tuple hb
  have l1:=r1.length
  have l2:=r2.length
  have z:=SeqAt.RcAt.tuples (A:=A) (s:=s) (e:=e) p1 p2 (by omega) fun j h1 h2=>by
   have k1:j < its.length:=by simpa using h1
   have k2:j < its2.length:=by simpa using h2
   have w:=ih j (by omega) (by omega) A.in1 its[j] its2[j] (qcx r1 (by omega) k1) (qcx r2 (by omega) k2) (by show A.units+1+n < cLine;omega)
   simpa using w
  rw [zI,zI,<-l1,<-l2] at z
  exact fH ne z
theorem vals_of {xs:List V} {us:List uC} (r:qba xs us) {u:uC} (hu:u∈us):∃x∈xs,qbb x u:=by
 obtain⟨j,hj,e⟩:=zQ.mp hu
 have hl:=r.length
 exact⟨xs[j]'(by omega),zJ _,by rw [<-e];exact qcx r (by omega) hj⟩
def rInP (K:uR):R2:=fun x y H Q=>∃p xs,y=.ref p/\SqL K H p xs/\(∀v∈xs,∃n k,n<=7/\PEq K H n v x k)/\∀b,Q (.bl b) H
theorem op_notInP (hu:X.A.units+8 < cLine):OpR X (wC .NotIn) (rInP X.K):=by
 intro pins s σ H x y v u Q I rx ry h
 obtain⟨p,xs,rfl,hq,he,q⟩:=h
 cases ry
 obtain⟨its,r,pl,hz⟩:=I.list hq
 classical
 refine SeqAt.notIn_listAt (fun z=>decide (dE X.A.in1 s z v true)) pl.isList (fun z hz=>?_) ⟨.bl _,H,I,rfl,q _⟩
 have hz:z∈its:=by simpa using hz
 obtain⟨a,ha,ra⟩:=vals_of r hz
 obtain⟨n,k,hn,pe⟩:=he a ha
 have w:=peq_ok I pe X.A.in1 z v ra rx (by show X.A.units+1+n < cLine;omega)
 by_cases c:dE X.A.in1 s z v true
 .rw [gM c];exact c
 .rw [gO c]
  cases k with
  |true=>exact absurd w c
  |false=>exact w
end
section
variable {X: Cx}
def rEqL (K:uR):R2:=fun x y H Q=>rEqD K x y H Q\/∃a xs,x=.ref a/\y=.non/\SqL K H a xs/\Q (.bl false) H
theorem op_eqL (hu:X.A.units+8 < cLine):OpR X (wC .Eq) (rEqL X.K):=by
 intro pins s σ H x y v u Q I rx ry h
 rcases h with h|⟨a,xs,rfl,rfl,hS,q⟩
 .exact op_eqD hu pins s σ H x y v u Q I rx ry h
 .cases rx
  cases ry
  obtain⟨its,r1,p1,_⟩:=I.list hS
  exact SeqAt.RcAt.list_none (PlainL.isList p1) (by omega) X.prog X.w X.xe (EP X pins σ Q) ⟨.bl false,H,I,rfl,q⟩
end
open Classical in
noncomputable def fEq (f g:Str->Option Int):Bool:=decide (∀z,f z=g z)
theorem AD.iff {ka kb:List (Key × V)} {f g:Str->Option Int} (h:AD ka f) (h':AD kb g):(ka.length==kb.length && ka.all fun p=>(qcf kb p.1).elim false (eqV p.2))=fEq f g:=by
 classical
 by_cases c:∀z,f z=g z
 .rw [show fEq f g=true from by unfold fEq;exact gM c]
  exact(h.cast c).eq h'
 .rw [show fEq f g=false from by unfold fEq;exact gO c]
  rw [Bool.eq_false_iff]
  intro e
  rw [vU,beq_iff_eq,yD] at e
  obtain⟨el,ea⟩:=e
  have sub:∀z n,f z=some n->g z=some n:=fun z n hf=>by
   have hv:=h.get z
   rw [hf] at hv
   have hm:=valV_mem hv
   have:=ea _ hm
   dsimp only at this
   rw [h'.get] at this
   cases hg:g z with
   |none=>rw [hg] at this;exact absurd (show false=true from this) uJ
   |some m=>
    rw [hg] at this
    have this:(n==m)=true:=this
    rw [beq_iff_eq] at this
    rw [this]
  refine c fun z=>?_
  cases hf:f z with
  |some n=>exact(sub z n hf).symm
  |none=>
   cases hg:g z with
   |none=>rfl
   |some m=>
    have hzb:z∈qcr kb:=(h'.kin z).mpr (by rw [hg];simp)
    have hza:z∉qcr ka:=fun hz=>absurd hf ((h.kin z).mp hz)
    have hle:=nd_le (l:=z :: qcr ka) (m:=qcr kb) (zX.mpr ⟨hza,h.knd⟩) fun y hy=>by
     rcases zM.mp hy with rfl|hy
     .exact hzb
     .cases hf2:f y with
      |none=>exact absurd hf2 ((h.kin y).mp hy)
      |some n=>exact(h'.kin y).mpr (by rw [sub y n hf2];simp)
    rw [zL,h.klen,h'.klen] at hle
    omega
theorem fEq_comm (f g:Str->Option Int):fEq f g=fEq g f:=by
 classical
 unfold fEq
 exact decide_eq_decide.mpr ⟨fun h z=>(h z).symm,fun h z=>(h z).symm⟩
theorem fEq_self (f:Str->Option Int):fEq f f=true:=by
 classical
 unfold fEq
 exact gM fun _=>rfl
end My
set_option maxHeartbeats 4000000
set_option exponentiation.threshold 1000
namespace Our
open PySem L2 My
def top (i:Nat):uN:=PySem.Challenge.pw_quotatree_k46_lists_let_by.main.body.getD i (.Pass ⟨0,0,0,0⟩)
def qch:uN->Nat->uN
 | .ClassDef _ _ _ body _ _ _ _ _ _ _,j=>body.getD j (.Pass ⟨0,0,0,0⟩)
 |s,_=>s
abbrev s_is_whole:uN:=top 15
abbrev s_is_name:uN:=top 16
abbrev s_is_whole_from:uN:=top 17
abbrev s_is_amount:uN:=top 19
abbrev s_amounts_of:uN:=top 20
abbrev s_above_nought:uN:=top 21
abbrev s_amount_of:uN:=top 22
abbrev s_added:uN:=top 23
abbrev s_beyond:uN:=top 24
abbrev s_total_of:uN:=top 25
abbrev s_holds_beneath:uN:=top 29
abbrev s_held_by:uN:=top 30
abbrev s_used:uN:=top 32
abbrev s_fixed:uN:=top 33
abbrev s_rooms_left:uN:=top 34
abbrev s_parts_at:uN:=top 36
abbrev s_first_beyond:uN:=top 37
abbrev s_claims:uN:=top 38
abbrev s_is_claims:uN:=top 39
abbrev s_are_wares:uN:=top 46
abbrev s_check_name:uN:=top 47
abbrev s_read_house:uN:=top 48
abbrev s_check_promises:uN:=top 49
abbrev s_cell:uN:=top 52
abbrev s_mix:uN:=top 53
abbrev s_name:uN:=top 54
abbrev s_lines:uN:=top 55
abbrev s_parts:uN:=top 56
abbrev s_rows:uN:=top 57
abbrev s_ends:uN:=top 58
abbrev s_sum:uN:=top 59
abbrev s_caps:uN:=top 60
abbrev s_world:uN:=top 61
abbrev s_told:uN:=top 62
abbrev s_promises:uN:=top 63
abbrev s_tree:uN:=top 64
abbrev s_objects:uN:=top 65
abbrev s_stay_so:uN:=top 66
abbrev s_short:uN:=top 67
abbrev s_asked:uN:=top 68
abbrev s_no_room:uN:=top 69
abbrev s_with_one:uN:=top 70
abbrev s_chosen:uN:=top 71
abbrev s_listed:uN:=top 72
abbrev s_law:uN:=top 73
abbrev s_House_init:uN:=qch (top 45) 0
abbrev s_Tree_init:uN:=qch (top 50) 0
abbrev s_Tree_found:uN:=qch (top 50) 1
abbrev s_Tree_wares:uN:=qch (top 50) 2
abbrev s_Tree_names:uN:=qch (top 50) 3
abbrev s_Tree_has:uN:=qch (top 50) 4
abbrev s_Tree_check_house:uN:=qch (top 50) 5
abbrev s_Tree_house_of:uN:=qch (top 50) 6
abbrev s_Tree_elder_of:uN:=qch (top 50) 7
abbrev s_Tree_cap_of:uN:=qch (top 50) 9
abbrev s_Tree_kids:uN:=qch (top 50) 11
abbrev s_Tree_line:uN:=qch (top 50) 12
abbrev s_Tree_beneath:uN:=qch (top 50) 13
abbrev s_Tree_promised_beneath:uN:=qch (top 50) 14
abbrev s_Tree_check_more:uN:=qch (top 50) 16
abbrev s_Hold_init:uN:=qch (top 27) 0
abbrev s_Hold_is_sure:uN:=qch (top 27) 1
abbrev s_Hold_may_end:uN:=qch (top 27) 2
abbrev s_Hold_told:uN:=qch (top 27) 3
abbrev s_Loan_is_sure:uN:=qch (top 28) 0
abbrev s_Loan_may_end:uN:=qch (top 28) 1
abbrev s_i_NoPromise:uN:=qch (top 11) 0
set_option genSizeOf false in
set_option genInjectivity false in
structure Ad where
 w73:Addr
 w5y:uM
 w7w:Addr
 w70:uM
 w35:Addr
 w2p:uM
 w67:Addr
 w4z:uM
 w50:Addr
 w4i:uM
 w3w:Addr
 w3c:uM
 w60:Addr
 w4u:uM
 wcr:Addr
 wa4:uM
 wa1:Addr
 w7z:uM
 w6w:Addr
 w5z:uM
 w36:Addr
 w2r:uM
 w81:Addr
 w6t:uM
 wep:Addr
 wc4:uM
 wce:Addr
 wac:uM
 w52:Addr
 w4o:uM
 w6x:Addr
 w62:uM
 w3u:Addr
 w3f:uM
 wad:Addr
 w8w:uM
 w66:Addr
 w55:uM
 w6e:Addr
 w5a:uM
 w53:Addr
 w4l:uM
 w5e:Addr
 w4m:uM
 w2m:Addr
 w28:uM
 wf3:Addr
 wc1:uM
 wgi:Addr
 we2:uM
 we9:Addr
 wcz:uM
 wc3:Addr
 wa9:uM
 wcl:Addr
 w9x:uM
 weu:Addr
 wcy:uM
 weg:Addr
 wcv:uM
 wgk:Addr
 wei:uM
 wdy:Addr
 wco:uM
 wd0:Addr
 w9r:uM
 weh:Addr
 wc7:uM
 w6u:Addr
 w61:uM
 wev:Addr
 wcu:uM
 w82:Addr
 w77:uM
 w88:Addr
 w74:uM
 wc0:Addr
 w9s:uM
 wcx:Addr
 w9y:uM
 w8x:Addr
 w6r:uM
 w6y:Addr
 w64:uM
 w9w:Addr
 w85:uM
 waa:Addr
 w8p:uM
 wca:Addr
 wbo:uM
 w51:Addr
 w4a:uM
 w63:Addr
 w3k:uM
 wcf:Addr
 w0q:uC
 w58:Addr
 w2s:uM
 wbj:Addr
 w0h:uC
 w7g:Addr
 w6j:uM
 w7a:Addr
 w6o:uM
 w76:Addr
 w6c:uM
 w1s:Addr
 w1n:uM
 w3a:Addr
 w2q:uM
 w3d:Addr
 w2l:uM
 w47:Addr
 w3p:uM
 w6b:Addr
 w5k:uM
 w68:Addr
 w4v:uM
 w0y:Addr
 w0o:uM
 w0t:Addr
 w0k:uM
 w22:Addr
 w1u:uM
 w4f:Addr
 w4x:uM
 w3s:Addr
 w39:uM
 w3v:Addr
 w2z:uM
 w4h:Addr
 w59:uM
 w3o:Addr
 w3g:uM
 w3r:Addr
 w32:uM
 w49:Addr
 w3y:uM
 w03:Addr
 w00:Addr
 w0a:Addr
 w09:Addr
 w4n:Addr
 w5q:Addr
 w6z:Addr
 w0c:Addr
 w1o:Addr
 w5p:Addr
 w2x:Addr
 w2w:Addr
 w44:Addr
 w3z:Addr
 w41:uC
 w0x:uC
 w1q:uC
 w1d:uC
 w15:uC
 w0d:uC
structure Tx (K:uR) (mg:Str->Option uC) (d:Ad):Prop where
 w9j:Fun K "is_whole" "is_whole" s_is_whole d.w73 d.w5y
 wdh:mg "is_whole" =some (.ref d.w73)
 wdt:qao K d.w5y ["thing"] []
 w8j:Fun K "is_name" "is_name" s_is_name d.w7w d.w70
 waz:mg "is_name" =some (.ref d.w7w)
 wb1:qao K d.w70 ["thing"] []
 w3b:Fun K "is_whole_from" "is_whole_from" s_is_whole_from d.w35 d.w2p
 w5h:mg "is_whole_from" =some (.ref d.w35)
 w5b:qao K d.w2p ["thing","least","most"] []
 w89:Fun K "is_amount" "is_amount" s_is_amount d.w67 d.w4z
 wbs:mg "is_amount" =some (.ref d.w67)
 wci:qao K d.w4z ["thing"] []
 w54:Fun K "amounts_of" "amounts_of" s_amounts_of d.w50 d.w4i
 w7k:mg "amounts_of" =some (.ref d.w50)
 w7c:qao K d.w4i ["handed","wares"] []
 w5s:Fun K "above_nought" "above_nought" s_above_nought d.w3w d.w3c
 w90:mg "above_nought" =some (.ref d.w3w)
 w98:qao K d.w3c ["amounts"] []
 w26:Fun K "amount_of" "amount_of" s_amount_of d.w60 d.w4u
 w37:mg "amount_of" =some (.ref d.w60)
 w30:qao K d.w4u ["amounts","ware"] []
 wcg:Fun K "added" "added" s_added d.wcr d.wa4
 we4:mg "added" =some (.ref d.wcr)
 wek:qao K d.wa4 ["one","other"] []
 wd5:Fun K "beyond" "beyond" s_beyond d.wa1 d.w7z
 wf6:mg "beyond" =some (.ref d.wa1)
 wfm:qao K d.w7z ["one","other"] []
 w75:Fun K "total_of" "total_of" s_total_of d.w6w d.w5z
 w9l:mg "total_of" =some (.ref d.w6w)
 w9p:qao K d.w5z ["many"] []
 w34:Fun K "holds_beneath" "holds_beneath" s_holds_beneath d.w36 d.w2r
 w56:mg "holds_beneath" =some (.ref d.w36)
 w5d:qao K d.w2r ["tree","holds","house"] []
 w83:Fun K "held_by" "held_by" s_held_by d.w81 d.w6t
 wbd:mg "held_by" =some (.ref d.w81)
 wan:qao K d.w6t ["holds"] []
 wfw:Fun K "used" "used" s_used d.wep d.wc4
 whe:mg "used" =some (.ref d.wep)
 whg:qao K d.wc4 ["tree","holds","house"] []
 we6:Fun K "fixed" "fixed" s_fixed d.wce d.wac
 wgr:mg "fixed" =some (.ref d.wce)
 wgw:qao K d.wac ["holds","rank","sure"] []
 w7h:Fun K "rooms_left" "rooms_left" s_rooms_left d.w52 d.w4o
 waw:mg "rooms_left" =some (.ref d.w52)
 wb0:qao K d.w4o ["tree","holds","line","amounts"] []
 w9i:Fun K "parts_at" "parts_at" s_parts_at d.w6x d.w62
 wdn:mg "parts_at" =some (.ref d.w6x)
 wds:qao K d.w62 ["tree","hold","places"] []
 w5u:Fun K "first_beyond" "first_beyond" s_first_beyond d.w3u d.w3f
 w91:mg "first_beyond" =some (.ref d.w3u)
 w8y:qao K d.w3f ["parts","rooms"] []
 w9t:Fun K "claims" "claims" s_claims d.wad d.w8w
 wdc:mg "claims" =some (.ref d.wad)
 wdb:qao K d.w8w ["tree","holds","house","amounts","rank","sure"] []
 w8d:Fun K "is_claims" "is_claims" s_is_claims d.w66 d.w55
 wcd:mg "is_claims" =some (.ref d.w66)
 wck:qao K d.w55 ["tree","holds","house","amounts","rank","sure","given"] []
 w8s:Fun K "are_wares" "are_wares" s_are_wares d.w6e d.w5a
 wcn:mg "are_wares" =some (.ref d.w6e)
 wbr:qao K d.w5a ["thing"] []
 w4t:Fun K "check_name" "check_name" s_check_name d.w53 d.w4l
 w7f:mg "check_name" =some (.ref d.w53)
 w7j:qao K d.w4l ["thing"] []
 w5m:Fun K "read_house" "read_house" s_read_house d.w5e d.w4m
 w78:mg "read_house" =some (.ref d.w5e)
 w79:qao K d.w4m ["wares","elder","promise","cap","weight"] []
 w1l:Fun K "check_promises" "check_promises" s_check_promises d.w2m d.w28
 w2k:mg "check_promises" =some (.ref d.w2m)
 w2o:qao K d.w28 ["name","promises","cap"] []
 w38:Fun K "_law_cell" "_law_cell" s_cell d.wf3 d.wc1
 w3i:mg "_law_cell" =some (.ref d.wf3)
 w3j:qao K d.wc1 ["_law_script","_law_k"] []
 w25:Fun K "_law_mix" "_law_mix" s_mix d.wgi d.we2
 w2c:mg "_law_mix" =some (.ref d.wgi)
 w2b:qao K d.we2 ["_law_cell_here","_law_k","_law_many"] []
 wdz:Fun K "_law_name" "_law_name" s_name d.we9 d.wcz
 wfs:mg "_law_name" =some (.ref d.we9)
 wfq:qao K d.wcz ["_law_script","_law_number"] []
 weo:Fun K "_law_lines" "_law_lines" s_lines d.wc3 d.wa9
 wgu:mg "_law_lines" =some (.ref d.wc3)
 wgf:qao K d.wa9 ["_law_script","_law_many"] []
 wby:Fun K "_law_parts" "_law_parts" s_parts d.wcl d.w9x
 wee:mg "_law_parts" =some (.ref d.wcl)
 wea:qao K d.w9x ["_law_cell_here","_law_kinds","_law_scale"] []
 wg3:Fun K "_law_rows" "_law_rows" s_rows d.weu d.wcy
 wha:mg "_law_rows" =some (.ref d.weu)
 whh:qao K d.wcy ["_law_script","_law_houses","_law_kinds","_law_scale","_law_many"] []
 w7d:Fun K "_law_ends" "_law_ends" s_ends d.weg d.wcv
 w8n:mg "_law_ends" =some (.ref d.weg)
 w8a:qao K d.wcv ["_law_row","_law_ask"] []
 wf9:Fun K "_law_sum" "_law_sum" s_sum d.wgk d.wei
 wh1:mg "_law_sum" =some (.ref d.wgk)
 wg5:qao K d.wei ["_law_rows_here","_law_lines_here","_law_at","_law_j"] []
 wg2:Fun K "_law_caps" "_law_caps" s_caps d.wdy d.wco
 wh7:mg "_law_caps" =some (.ref d.wdy)
 whi:qao K d.wco ["_law_script","_law_rows_here","_law_lines_here","_law_ask"] []
 we1:Fun K "_law_world" "_law_world" s_world d.wd0 d.w9r
 wgj:mg "_law_world" =some (.ref d.wd0)
 wge:qao K d.w9r ["_law_script","_law_many"] []
 w5g:Fun K "_law_told" "_law_told" s_told d.weh d.wc7
 w5w:mg "_law_told" =some (.ref d.weh)
 w5t:qao K d.wc7 ["_law_wares","_law_parts_here"] []
 w9k:Fun K "_law_promises" "_law_promises" s_promises d.w6u d.w61
 wdp:mg "_law_promises" =some (.ref d.w6u)
 wdu:qao K d.w61 ["_law_script","_law_lines_here","_law_caps_here"] []
 wfv:Fun K "_law_tree" "_law_tree" s_tree d.wev d.wcu
 wh3:mg "_law_tree" =some (.ref d.wev)
 whb:qao K d.wcu ["_law_script","_law_world_here"] []
 wb5:Fun K "_law_objects" "_law_objects" s_objects d.w82 d.w77
 wew:mg "_law_objects" =some (.ref d.w82)
 wex:qao K d.w77 ["_law_world_here"] []
 wbc:Fun K "_law_stay_so" "_law_stay_so" s_stay_so d.w88 d.w74
 wen:mg "_law_stay_so" =some (.ref d.w88)
 web:qao K d.w74 ["_law_objects_here","_law_world_here"] []
 wct:Fun K "_law_short" "_law_short" s_short d.wc0 d.w9s
 wel:mg "_law_short" =some (.ref d.wc0)
 wed:qao K d.w9s ["_law_world_here","_law_some"] []
 wem:Fun K "_law_asked" "_law_asked" s_asked d.wcx d.w9y
 wgt:mg "_law_asked" =some (.ref d.wcx)
 wg6:qao K d.w9y ["_law_world_here","_law_tree_here","_law_objects_here"] []
 w4y:Fun K "_law_no_room" "_law_no_room" s_no_room d.w8x d.w6r
 w6g:mg "_law_no_room" =some (.ref d.w8x)
 w6m:qao K d.w6r ["_law_world_here","_law_order"] []
 w9m:Fun K "_law_with_one" "_law_with_one" s_with_one d.w6y d.w64
 wdq:mg "_law_with_one" =some (.ref d.w6y)
 wdl:qao K d.w64 ["_law_world_here","_law_cell_here"] []
 wd2:Fun K "_law_chosen" "_law_chosen" s_chosen d.w9w d.w85
 wfd:mg "_law_chosen" =some (.ref d.w9w)
 wfl:qao K d.w85 ["_law_script","_law_world_here"] []
 wd8:Fun K "_law_listed" "_law_listed" s_listed d.waa d.w8p
 wfj:mg "_law_listed" =some (.ref d.waa)
 wfh:qao K d.w8p ["_law_world_here","_law_gone"] []
 whk:Fun K "law" "law" s_law d.wca d.wbo
 whn:mg "law" =some (.ref d.wca)
 wbg:Fun K "__init__" "House.__init__" s_House_init d.w51 d.w4a
 wbq:qao K d.w4a ["self","elder","promise","cap","weight"] []
 wc2:My.FunD K "__init__" "Tree.__init__" s_Tree_init d.w63 d.w3k d.wcf #[d.w0q]
 wgy:qao K d.w3k ["self","wares","name","promise","cap","weight"] []
 wap:qao K d.w3k ["self","wares","name","promise","cap","weight"] [d.w0q]
 wba:qba [.int 1] [d.w0q]
 wb8:My.FunD K "found" "Tree.found" s_Tree_found d.w58 d.w2s d.wbj #[d.w0h]
 wfr:qao K d.w2s ["self","name","elder","promise","cap","weight"] []
 wa3:qao K d.w2s ["self","name","elder","promise","cap","weight"] [d.w0h]
 waj:qba [.int 1] [d.w0h]
 wfu:Fun K "wares" "Tree.wares" s_Tree_wares d.w7g d.w6j
 wg4:qao K d.w6j ["self"] []
 wg0:Fun K "names" "Tree.names" s_Tree_names d.w7a d.w6o
 wfz:qao K d.w6o ["self"] []
 wdx:Fun K "has" "Tree.has" s_Tree_has d.w76 d.w6c
 w9g:qao K d.w6c ["self","thing"] []
 w6h:Fun K "check_house" "Tree.check_house" s_Tree_check_house d.w1s d.w1n
 w1t:qao K d.w1n ["self","thing"] []
 w8q:Fun K "house_of" "Tree.house_of" s_Tree_house_of d.w3a d.w2q
 w4w:qao K d.w2q ["self","name"] []
 w8k:Fun K "elder_of" "Tree.elder_of" s_Tree_elder_of d.w3d d.w2l
 w5f:qao K d.w2l ["self","name"] []
 wal:Fun K "cap_of" "Tree.cap_of" s_Tree_cap_of d.w47 d.w3p
 wae:qao K d.w3p ["self","name"] []
 wbu:Fun K "kids" "Tree.kids" s_Tree_kids d.w6b d.w5k
 wcp:qao K d.w5k ["self","name"] []
 wc8:Fun K "line" "Tree.line" s_Tree_line d.w68 d.w4v
 w6a:qao K d.w4v ["self","name"] []
 w93:Fun K "beneath" "Tree.beneath" s_Tree_beneath d.w0y d.w0o
 w2a:qao K d.w0o ["self","name"] []
 w4c:Fun K "promised_beneath" "Tree.promised_beneath" s_Tree_promised_beneath d.w0t d.w0k
 w4g:qao K d.w0k ["self","name"] []
 w71:Fun K "check_more" "Tree.check_more" s_Tree_check_more d.w22 d.w1u
 w72:qao K d.w1u ["self","names","more"] []
 wbz:Fun K "__init__" "Hold.__init__" s_Hold_init d.w4f d.w4x
 w8e:qao K d.w4x ["self","number","house","amounts","rank","turns"] []
 w94:Fun K "is_sure" "Hold.is_sure" s_Hold_is_sure d.w3s d.w39
 w96:qao K d.w39 ["self"] []
 w92:Fun K "may_end" "Hold.may_end" s_Hold_may_end d.w3v d.w2z
 w5v:qao K d.w2z ["self","rank","sure"] []
 wc9:Fun K "told" "Hold.told" s_Hold_told d.w4h d.w59
 w8c:qao K d.w59 ["self"] []
 w95:Fun K "is_sure" "Loan.is_sure" s_Loan_is_sure d.w3o d.w3g
 w9d:qao K d.w3g ["self"] []
 w9e:Fun K "may_end" "Loan.may_end" s_Loan_may_end d.w3r d.w32
 w5r:qao K d.w32 ["self","rank","sure"] []
 wff:Fun K "__init__" "NoPromise.__init__" s_i_NoPromise d.w49 d.w3y
 wbp:My.XClI K d.w1o d.w49
 w9u:qao K d.w3y ["self","house","ware"] []
 wh0:mg "House" =some (.ref d.w03)
 wh9:mg "Tree" =some (.ref d.w00)
 whd:mg "Hold" =some (.ref d.w0a)
 whc:mg "Loan" =some (.ref d.w09)
 wgz:mg "TreeError" =some (.ref d.w4n)
 wf7:mg "NoName" =some (.ref d.w5q)
 wgq:mg "Taken" =some (.ref d.w6z)
 wf0:mg "NoHouse" =some (.ref d.w0c)
 wcq:mg "NoPromise" =some (.ref d.w1o)
 wd9:mg "NoWare" =some (.ref d.w5p)
 w9f:mg "NoAmount" =some (.ref d.w2x)
 wdk:mg "NoNumber" =some (.ref d.w2w)
 wf2:mg "TooMany" =some (.ref d.w44)
 weq:mg "TooDeep" =some (.ref d.w3z)
 wet:mg "LETTERS" =some d.w41
 w57:qbb (.str "abcdefghijklmnopqrstuvwxyz") d.w41
 w97:mg "LONGEST_NAME" =some d.w0x
 w1f:qbb (.int 8) d.w0x
 wau:mg "MOST_WARES" =some d.w1q
 w2h:qbb (.int 6) d.w1q
 wa0:mg "MOST_HOUSES" =some d.w1d
 w1r:qbb (.int 40) d.w1d
 w9c:mg "LONGEST_LINE" =some d.w15
 w1i:qbb (.int 12) d.w15
 w6v:mg "GREATEST_WEIGHT" =some d.w0d
 w0m:qbb (.int 1000) d.w0d
 wh4:mg "all" =none
 whj:mg "any" =none
 wg1:mg "bool" =none
 w9h:mg "dict" =none
 wcb:mg "enumerate" =none
 wef:mg "int" =none
 w0r:mg "isinstance" =none
 w2v:mg "len" =none
 wam:mg "list" =none
 wh5:mg "max" =none
 wh2:mg "min" =none
 w3e:mg "range" =none
 wdg:mg "reversed" =none
 whl:mg "set" =none
 w5o:mg "sorted" =none
 wg7:mg "str" =none
 whm:mg "sum" =none
 wh6:mg "zip" =none
 w18:Meth K d.w0a "is_sure" d.w3s
 w1b:Meth K d.w09 "is_sure" d.w3o
 w2d:Meth K d.w0a "told" d.w4h
 w2f:Meth K d.w09 "told" d.w4h
 w0l:Meth K d.w0a "may_end" d.w3v
 w0n:Meth K d.w09 "may_end" d.w3r
 w1k:Cls K d.w03
 w01:Cls K d.w00
 w6q:Mk K d.w03 d.w51
 w7u:Mk K d.w00 d.w63
 w4b:Cls K d.w0a
 w3x:Cls K d.w09
 w8m:Mk K d.w0a d.w4f
 w8u:Mk K d.w09 d.w4f
 w21:Meth K d.w00 "found" d.w58
 w2u:Meth K d.w00 "wares" d.w7g
 w2t:Meth K d.w00 "names" d.w7a
 w23:Meth K d.w00 "has" d.w76
 w04:Meth K d.w00 "check_house" d.w1s
 w0e:Meth K d.w00 "house_of" d.w3a
 w0f:Meth K d.w00 "elder_of" d.w3d
 w1h:Meth K d.w00 "cap_of" d.w47
 w2e:Meth K d.w00 "kids" d.w6b
 w17:Meth K d.w00 "line" d.w68
 w08:Meth K d.w00 "beneath" d.w0y
 w05:Meth K d.w00 "promised_beneath" d.w0t
 w0g:Meth K d.w00 "check_more" d.w22
 w0j:vS K (.ref d.w03) "elder" =some none
 w07:vS K (.ref d.w03) "promise" =some none
 w0i:vS K (.ref d.w03) "cap" =some none
 w19:vS K (.ref d.w03) "weight" =some none
 w06:vS K (.ref d.w00) "sorted_wares" =some none
 w02:vS K (.ref d.w00) "houses" =some none
 w1j:vS K (.ref d.w0a) "number" =some none
 w1w:vS K (.ref d.w0a) "house" =some none
 w1a:vS K (.ref d.w0a) "amounts" =some none
 w2g:vS K (.ref d.w0a) "rank" =some none
 w1v:vS K (.ref d.w0a) "turns" =some none
 w1g:vS K (.ref d.w09) "number" =some none
 w1z:vS K (.ref d.w09) "house" =some none
 w1c:vS K (.ref d.w09) "amounts" =some none
 w1p:vS K (.ref d.w09) "rank" =some none
 w20:vS K (.ref d.w09) "turns" =some none
 wf4:My.XCls K d.w0c
 w9o:My.XCls K d.w2x
 wd3:My.XCls K d.w5p
 wf5:My.XCls K d.w5q
 wdm:My.XCls K d.w2w
 wgn:My.XCls K d.w6z
 wer:My.XCls K d.w44
 wf1:My.XCls K d.w3z
def eV:Option Str->V
 |none=> .non
 |some z=> .str z
structure Ho where
 el:Option Str
 pa:Addr
 kp:List (Key × V)
 fp:Str->Option Int
 ca:Addr
 kc:List (Key × V)
 fc:Str->Option Int
 w:Int
structure He where
 n:Str
 a:Addr
 x:Ho
structure Ts where
 sw:Addr
 ws:List Str
 hs:Addr
 hl:List He
def fsH (x:Ho):List (Str × V):=[("elder",eV x.el),("promise",.ref x.pa),("cap",.ref x.ca),("weight",.int x.w)]
def HoAt (d:Ad) (H:Hp) (a:Addr) (x:Ho):Prop:=(∃dx,H a=some (.ins d.w03 dx (fsH x)))/\H x.pa=some (.dK x.kp)/\AD x.kp x.fp/\H x.ca=some (.dK x.kc)/\AD x.kc x.fc
theorem HoAt.same {d:Ad} {H H':Hp} {a:Addr} {x:Ho} (h:HoAt d H a x) (s:qar H H'):HoAt d H' a x:=⟨let ⟨dx,e⟩:=h.1;⟨dx,s _ _ e⟩,s _ _ h.2.1,h.2.2.1,s _ _ h.2.2.2.1,h.2.2.2.2⟩
def Ts.keys (S:Ts):List (Str × Addr):=S.hl.map fun e=>(e.n,e.a)
def Ts.at (S:Ts) (z:Str):Option He:=S.hl.find? fun e=>decide (e.n=z)
def fsT (S:Ts):List (Str × V):=[("sorted_wares",.ref S.sw),("houses",.ref S.hs)]
def qf8 (d:Ad) (H:Hp) (t:Addr) (S:Ts):Prop:=(∃dx,H t=some (.ins d.w00 dx (fsT S)))/\H S.sw=some (.lst (S.ws.map V.str))/\H S.hs=some (.dK (oK S.keys))/\(S.hl.map (·.n)).Nodup/\S.hl.length<=60/\∀e∈S.hl,HoAt d H e.a e.x
theorem qf8.same {d:Ad} {H H':Hp} {t:Addr} {S:Ts} (h:qf8 d H t S) (s:qar H H'):qf8 d H' t S:=
 ⟨let ⟨dx,e⟩:=h.1;⟨dx,s _ _ e⟩,s _ _ h.2.1,s _ _ h.2.2.1,h.2.2.2.1,h.2.2.2.2.1,fun e he=>(h.2.2.2.2.2 e he).same s⟩
theorem qdp (S:Ts) (z:Str):qda S.keys z=(S.at z).map (·.a):=by
 obtain⟨sw,ws,hs,hl⟩:=S
 unfold Ts.keys Ts.at
 dsimp only
 induction hl with
 |nil=>rfl
 |cons e r ih=>
  rw [zV,yJ]
  unfold qda
  by_cases q:e.n=z
  .rw [gL q,gM q];rfl
  .rw [gK q,gO q];exact ih
theorem qck {S:Ts} {z:Str} {e:He} (h:S.at z=some e):e∈S.hl/\e.n=z:=⟨List.mem_of_find?_eq_some h,by have:=List.find?_some h;simpa using this⟩
def NotS (K:uR) (H:Hp) (x:V):Prop:=∃t,TyOf K H x t/\cC K t (.type "str")=some false
def qe2 (K:uR) (H:Hp) (x:V):Prop:=(∃z,x=.str z)\/(NotS K H x/\∀z,x≠ .str z)
def who (S:Ts):V->Option He
 | .str z=>S.at z
 |_=>none
theorem qd3 {S:Ts} {x:V} (h:∀z,x≠ .str z):who S x=none:=by
 cases x <;> first|rfl|(rename_i z;exact absurd rfl (h z))
def wbv (K:uR) (d:Ad):Sp:=fun vs H Q _=>∃(t:Addr) (S:Ts) (x:V),vs=[.ref t,x]/\qf8 d H t S/\qe2 K H x/\Q (.bl (who S x).isSome) H
def w69 (K:uR) (d:Ad):Sp:=fun vs H Q E=>∃(t:Addr) (S:Ts) (x:V),vs=[.ref t,x]/\qf8 d H t S/\qe2 K H x/\(∀e,who S x=some e->Q .non H)/\(who S x=none->E (.ref d.w0c) none H)
def w7r (K:uR) (d:Ad):Sp:=fun vs H Q E=>∃(t:Addr) (S:Ts) (x:V),vs=[.ref t,x]/\qf8 d H t S/\qe2 K H x/\(∀e,who S x=some e->Q (.ref e.a) H)/\(who S x=none->E (.ref d.w0c) none H)
def w7n (K:uR) (d:Ad):Sp:=fun vs H Q E=>∃(t:Addr) (S:Ts) (x:V),vs=[.ref t,x]/\qf8 d H t S/\qe2 K H x/\(∀e,who S x=some e->Q (eV e.x.el) H)/\(who S x=none->E (.ref d.w0c) none H)
def w9a (K:uR) (d:Ad):Sp:=fun vs H Q E=>∃(t:Addr) (S:Ts) (x:V),vs=[.ref t,x]/\qf8 d H t S/\qe2 K H x/\(∀e,who S x=some e->∀p,H p=none->Q (.ref p) (upd H p (.dK e.x.kc)))/\(who S x=none->E (.ref d.w0c) none H)
theorem r_notNs {H:Hp} {Q:VK} {a:Str} (h:Q (.bl true) H):rNotN (.str a) .non H Q:=⟨rfl,h⟩
theorem TyOf.same {K:uR} {H H':Hp} {x:V} {t:uC} (h:TyOf K H x t) (s:qar H H'):TyOf K H' x t:=by
 cases h with
 |non=>exact .non
 |bl b=>exact .bl b
 |int i=>exact .int i
 |str z=>exact .str z
 |flt z=>exact .flt z
 |lst e=>exact .lst (s _ _ e)
 |frz e=>exact .frz (s _ _ e)
 |tup e=>exact .tup (s _ _ e)
 |dK e=>exact .dK (s _ _ e)
 |dT e=>exact .dT (s _ _ e)
 |ins e c a n k m=>exact .ins (s _ _ e) c a n k m
theorem qe2.same {K:uR} {H H':Hp} {x:V} (h:qe2 K H x) (s:qar H H'):qe2 K H' x:=by
 rcases h with h|⟨⟨t,a,b⟩,n⟩
 .exact .inl h
 .exact .inr ⟨⟨t,TyOf.same a s,b⟩,n⟩
inductive LineOf (S:Ts):Str->List Str->Prop
 |top {z:Str} {e:He} (h:S.at z=some e) (n:e.x.el=none):LineOf S z [z]
 |up {z y:Str} {e:He} {zs:List Str} (h:S.at z=some e) (n:e.x.el=some y) (r:LineOf S y zs):LineOf S z (z :: zs)
def RestOf (S:Ts):Option Str->List Str->Prop
 |none,zs=>zs=[]
 |some y,zs=>LineOf S y zs
theorem LineOf.open {S:Ts} {z:Str} {zs:List Str} (h:LineOf S z zs):∃e r,S.at z=some e/\zs=z :: r/\RestOf S e.x.el r:=by
 cases h with
 |top h n=>exact⟨_, [],h,rfl,by rw [n];rfl⟩
 |up h n r=>exact⟨_,_,h,rfl,by rw [n];exact r⟩
def lenAt (l:Addr) (H:Hp):Nat:=match H l with
 |some (.lst xs)=>xs.length
 |_=>0
theorem lenAt_eq {l:Addr} {H:Hp} {xs:List V} (e:H l=some (.lst xs)):lenAt l H=xs.length:=by unfold lenAt;rw [e]
def was (K:uR) (d:Ad):Sp:=fun vs H Q E=>∃(t:Addr) (S:Ts) (x:V),vs=[.ref t,x]/\qf8 d H t S/\
 ((∃z zs,x=.str z/\LineOf S z zs/\zs.length<=1000/\∀l,H l=none->Q (.ref l) (upd H l (.lst (zs.map V.str))))\/(qe2 K H x/\who S x=none/\∀l,H l=none->E (.ref d.w0c) none (upd H l (.lst [x]))))
def qbd (S:Ts) (z:Str):List Str:=(S.hl.filter fun e=>decide (e.x.el=some z)).map (·.n)
def wbh (K:uR) (d:Ad):Sp:=fun vs H Q E=>∃(t:Addr) (S:Ts) (x:V),vs=[.ref t,x]/\qf8 d H t S/\qe2 K H x/\(∀e,who S x=some e->∀l ss H',qar H H'->H l=none->H' l=some (.lst (ss.map V.str))->ss.Perm (qbd S e.n)->vK ss=true->Q (.ref l) H')/\(who S x=none->E (.ref d.w0c) none H)
def w7e (K:uR) (d:Ad):Sp:=fun vs H Q _=>∃(a:Addr) (kvs:List (Key × V)) (f:Str->Option Int) (z:Str),vs=[.ref a,.str z]/\Rd H a (.dK kvs)/\AD kvs f/\Q (.int (gN f z)) H
def w8o (K:uR) (d:Ad):Sp:=fun vs H Q _=>∃(a:Addr) (kvs:List (Key × V)) (f:Str->Option Int),vs=[.ref a]/\H a=some (.dK kvs)/\AD kvs f/\kvs.length<=1000/\
 ∀l k' H',qar H H'->H l=none->H' l=some (.dK k')->AD k' (qcw f)->Q (.ref l) H'
def wfn (K:uR) (d:Ad):Sp:=fun vs H Q _=>∃(a b:Addr) (ka kb:List (Key × V)) (f g:Str->Option Int),vs=[.ref a,.ref b]/\Rd H a (.dK ka)/\H b=some (.dK kb)/\AD ka f/\AD kb g/\ka.length<=1000/\kb.length<=1000/\
 ∀l k' H',qar H H'->H l=none->H' l=some (.dK k')->AD k' (addF f g)->Q (.ref l) H'
def wes (K:uR) (d:Ad):Sp:=fun vs H Q _=>∃(a b:Addr) (ka kb:List (Key × V)) (f g:Str->Option Int),vs=[.ref a,.ref b]/\Rd H a (.dK ka)/\Rd H b (.dK kb)/\AD ka f/\AD kb g/\ka.length < 64/\
 (∀H',qar H H'->(∀y,¬viol f g y)->Q .non H')/\∀z H',qar H H'->viol f g z->(∀y,viol f g y->leS z y)->Q (.str z) H'
structure Pt where
 a:Addr
 k:List (Key × V)
 f:Str->Option Int
def sumF (ts:List Pt):Str->Option Int:=ts.foldl (fun f t=>addF f t.f) noF
def PtOk (H:Hp) (ws:List Str) (t:Pt):Prop:=H t.a=some (.dK t.k)/\AD t.k t.f/\∀z,t.f z≠none->z∈ws
def wcj (K:uR) (d:Ad):Sp:=fun vs H Q _=>∃(L:Addr) (ts:List Pt) (ws:List Str),vs=[.ref L]/\SqL K H L (ts.map fun t=> .ref t.a)/\ws.length<=100/\(∀t∈ts,PtOk H ws t)/\
 ∀l k' H',qar H H'->H l=none->H' l=some (.dK k')->AD k' (sumF ts)->Q (.ref l) H'
section
variable {K: uR} {d: Ad} {H: Hp} {Q: VK} {E: XK}
theorem u_amount {a:Addr} {kvs:List (Key × V)} {f:Str->Option Int} {z:Str} (hR:Rd H a (.dK kvs)) (hA:AD kvs f) (q:Q (.int (gN f z)) H):w7e K d [.ref a,.str z] H Q E:=⟨a,kvs,f,z,rfl,hR,hA,q⟩
end
local macro_rules | `(tactic| walk_at "kit") => `(tactic| (with_reducible (first
 |assumption|exact kit_int_int|exact kit_int_bool|exact qfz
 |exact kit_str_str|exact kit_lst_lst|exact kit_dct_dct)))
local macro_rules | `(tactic| walk_at "ty") => `(tactic| (first
 |(with_reducible assumption) |(with_reducible exact TyOf.int _) |(with_reducible exact TyOf.bl _) |(with_reducible exact TyOf.str _)
 |(with_reducible exact TyOf.non) |((with_reducible refine' TyOf.tup ?h);(case h=>walk_at "heap")) |((with_reducible refine' TyOf.lst ?h);(case h=>walk_at "heap")) |((with_reducible refine' TyOf.dK ?h);(case h=>walk_at "heap"))))
local macro_rules | `(tactic| walk_at "heap") => `(tactic| first
 |with_reducible assumption|with_reducible exact qa1|((with_reducible refine' qad ?h ?n);(case n=>with_reducible assumption);(case h=>walk_at "heap")))
local macro_rules | `(tactic| walk_at "sqL") => `(tactic| first
 |with_reducible assumption|((with_reducible refine' sqL_new ?h ?n);(case n=>with_reducible assumption);(case h=>walk_at "sqL")) |((with_reducible refine' SqL.of ?h);(case h=>walk_at "heap")))
local macro_rules | `(tactic| walk_at "sqT") => `(tactic| first
 |with_reducible assumption|((with_reducible refine' sqT_new ?h ?n);(case n=>with_reducible assumption);(case h=>walk_at "sqT")) |((with_reducible refine' SqT.of ?h);(case h=>walk_at "heap")))
local macro_rules | `(tactic| walk_at "side") => `(tactic| first
 |assumption|exact rfl|omega|decide
 |(simp only [zL,yS,zB];omega) |exact⟨by omega,by omega⟩ |exact⟨by decide,by decide⟩ |exact⟨by omega,by assumption⟩
 |exact⟨by assumption,by assumption⟩ |exact⟨by decide,by assumption⟩ |exact⟨by decide,by decide,by decide⟩)
local macro_rules | `(tactic| walk_at "size") => `(tactic| (first
 |assumption|(simp only [zL,yS,zB,zU];first|decide|(show _<=16777216;omega) |(show _ < 16777216;omega)) |(show _<=16777216;omega) |(show _ < 16777216;omega)))
local macro_rules | `(tactic| walk_at "sp") => `(tactic| fail)
local macro_rules | `(tactic| walk_at "r1") => `(tactic| first
 |(with_reducible refine r_var (by with_unfolding_all exact rfl) ?_) |(with_reducible first|refine r_c ?_|refine r_op ?_|refine r_I0 ?_) |((with_reducible refine r_I ?hc ?_);(case hc=>walk_at "side")) |(with_reducible first|refine r_eqI ?_|refine r_neI ?_|refine r_exb ?_|refine r_test ?_|refine r_tB ?_|refine r_and ?_|refine r_or ?_|refine r_not ?_|refine r_andV ?_|refine r_orV ?_|refine r_notV ?_|refine r_ifE ?_|refine r_next ?_|refine r_seq ?_|refine r_drop ?_|refine r_ret ?_|refine r_if ?_|refine r_asg ?_)
 |(with_reducible refine r_name (by with_unfolding_all (simp only [List.set];exact rfl)) ?_) |(with_reducible first|refine r_gnil ?_|refine r_gcons ?_) |((with_reducible refine' r_gtup ?s ?n ?_);(case s=>walk_at "sqT");(case n=>exact rfl)) |(with_reducible first|refine r_for ?_|refine r_iL ?_|refine r_iR ?_)
 |((with_reducible refine' r_itL ?s ?_);(case s=>walk_at "sqL")) |((with_reducible refine' r_itR ?s ?t ?_);(case s=>walk_at "side");(case t=>walk_at "side")) |(with_reducible first|refine r_nx ?_|refine r_rt ?_|refine r_nil ?_|refine r_cons ?_|refine r_tup ?_|refine r_lst ?_) |((with_reducible refine r_new ?n ?_);(case n=>(simp only [zL,yS];decide)))
 |((with_reducible refine r_fresh ?_);intro p hp) |(with_reducible first|refine r_call ?_|refine r_callX ?_|refine r_cb ?_|refine r_raise ?_) |((with_reducible refine' r_ixT ?s ?e ?_);(case s=>walk_at "sqT");(case e=>exact rfl)) |(with_reducible first|refine r_comp ?_|refine r_true ?_|refine r_iS ?_|refine r_itS ?_|refine r_inS ?_)
 |((with_reducible refine' r_app ?a ?z ?_);(case a=>walk_at "heap");(case z=>walk_at "size")) |((with_reducible refine' r_catS ?z ?_);(case z=>walk_at "size")) |((with_reducible refine' r_lenS ?z ?_);(case z=>walk_at "size")) |(with_reducible first|refine r_sl ?_|refine r_noPart ?_|refine r_part ?_|refine r_exi ?_|refine r_chain ?_)
 |((with_reducible refine' r_lenL ?s ?_);(case s=>walk_at "sqL")) |(with_reducible first|refine r_isNn ?_|refine r_isNr ?_|refine r_notNn ?_|refine r_notNr ?_) |((with_reducible refine' r_isi ?t ?k ?_);(case t=>walk_at "ty");(case k=>walk_at "kit")) |(with_reducible first|refine i_nT ?_|refine i_nF ?_|refine iteT ?_|refine iteF ?_)
 |((with_reducible refine i_t ?c ?_);(case c=>walk_at "side")) |((with_reducible refine i_f ?c ?_);(case c=>walk_at "side")) |((with_reducible refine i_nf ?c ?_);(case c=>walk_at "side")) |walk_at "sp")
local macro_rules | `(tactic| walk_at "g") => `(tactic| repeat walk_at "r1")
local macro_rules|`(tactic|left)=>`(tactic|walk_at "g")
local macro_rules | `(tactic| walk_at "d") => `(tactic| try dsimp only [L2.cxOf, L2.Cx.nox, L2.Cx.wish, My.xw, pnd, suite])
local macro_rules | `(tactic| walk_at "rd") => `(tactic| first
 |with_reducible assumption|((with_reducible refine' rd_new ?h ?n);(case n=>with_reducible assumption);(case h=>walk_at "rd")) |((with_reducible refine' Rd.of ?h);(case h=>walk_at "heap")))
local macro_rules | `(tactic| walk_at "same") => `(tactic| first
 |with_reducible assumption|exact qar.refl _|((with_reducible refine' qeg ?h ?n);(case n=>with_reducible assumption);(case h=>walk_at "same")))
local macro_rules | `(tactic| walk_at "sp") => `(tactic| first
 |((with_reducible refine r_disp1 ?_);intro p hp) |((with_reducible refine' r_ds ?e ?_);(case e=>walk_at "heap")) |(with_reducible refine r_lrev ?_) |((with_reducible refine' r_lrevk ?s ?_);(case s=>walk_at "sqL");intro p hp)
 |((with_reducible refine' u_amount ?r ?a ?_);(case r=>walk_at "rd");(case a=>with_reducible assumption)) |(with_reducible first|refine r_intB ?_|refine r_neB ?_) |((with_reducible refine' qb7 ?s ?e ?_);(case s=>walk_at "sqL");(case e=>exact rfl)) |(with_reducible refine r_dg2 ?_)
 |((with_reducible refine' r_dg2a ?r ?_);(case r=>walk_at "rd")) |((with_reducible refine' r_dg2b ?r ?a ?_);(case r=>walk_at "rd");(case a=>with_reducible assumption)) |(with_reducible refine r_dg ?_) |((with_reducible refine' r_dgk ?r ?a ?e ?_);(case r=>walk_at "rd");(case a=>with_reducible assumption);(case e=>with_reducible assumption))
 |(with_reducible refine r_dp ?_) |((with_reducible refine' r_dpk ?e ?z ?_);(case e=>walk_at "heap");(case z=>walk_at "size")) |((with_reducible refine r_dnew ?_);intro p hp) |(with_reducible first|refine r_thA ?_|refine r_iD ?_)
 |((with_reducible refine' r_dictCp ?e ?_);(case e=>walk_at "rd");intro p hp) |(with_reducible first|refine r_iZ ?_|refine r_lp ?_|refine r_max ?_|refine r_min ?_|refine r_mtX ?_) |((with_reducible refine' r_mtkX ?e ?l ?_);(case e=>walk_at "heap");(case l=>exact rfl)) |(with_reducible refine r_mkX ?_)
 |((with_reducible refine' r_mtk ?e ?l ?_);(case e=>walk_at "heap");(case l=>exact rfl)) |(with_reducible first|refine r_notNs ?_|refine r_di ?_) |((with_reducible refine' r_diO ?r ?_);(case r=>walk_at "rd")) |(with_reducible first|refine r_mk ?_|refine r_mt ?_|refine r_fl ?_|refine r_fs ?_)
 |((with_reducible refine' r_flk ?e ?c ?n ?l ?_);(case e=>walk_at "heap");(case c=>with_reducible assumption);(case n=>with_reducible assumption);(case l=>exact rfl)) |((with_reducible refine' qfs ?e ?c ?n ?z ?_);(case e=>walk_at "heap");(case c=>with_reducible assumption);(case n=>with_reducible assumption);(case z=>(show _ < 1000;decide))) |(with_reducible first|refine r_bm ?_|refine r_bm0 ?_) |((with_reducible refine' r_tyL ?s ?_);(case s=>walk_at "sqL"))
 |((with_reducible refine' r_append ?h ?z ?_);(case h=>walk_at "heap");(case z=>walk_at "size")))
theorem wcc:FnScope ["thing"] ["thing"] (qaa s_is_whole):=⟨rfl,rfl,rfl,by decide+kernel,rfl,by decide+kernel,by decide+kernel⟩
theorem wdr:FnScope ["thing"] ["thing"] (qaa s_is_name):=⟨rfl,rfl,rfl,by decide+kernel,rfl,by decide+kernel,by decide+kernel⟩
theorem w7o:FnScope ["thing","least","most"] ["thing","least","most"] (qaa s_is_whole_from):=⟨rfl,rfl,rfl,by decide+kernel,rfl,by decide+kernel,by decide+kernel⟩
theorem wb6:FnScope ["thing"] ["thing"] (qaa s_is_amount):=⟨rfl,rfl,rfl,by decide+kernel,rfl,by decide+kernel,by decide+kernel⟩
theorem w46:FnScope ["handed","wares","key","ware"] ["handed","wares"] (qaa s_amounts_of):=⟨rfl,rfl,rfl,by decide+kernel,rfl,by decide+kernel,by decide+kernel⟩
theorem w31:FnScope ["amounts","told","ware"] ["amounts"] (qaa s_above_nought):=⟨rfl,rfl,rfl,by decide+kernel,rfl,by decide+kernel,by decide+kernel⟩
theorem wbe:FnScope ["amounts","ware"] ["amounts","ware"] (qaa s_amount_of):=⟨rfl,rfl,rfl,by decide+kernel,rfl,by decide+kernel,by decide+kernel⟩
theorem w9v:FnScope ["one","other","told","ware"] ["one","other"] (qaa s_added):=⟨rfl,rfl,rfl,by decide+kernel,rfl,by decide+kernel,by decide+kernel⟩
theorem wb7:FnScope ["one","other","ware"] ["one","other"] (qaa s_beyond):=⟨rfl,rfl,rfl,by decide+kernel,rfl,by decide+kernel,by decide+kernel⟩
theorem w48:FnScope ["many","total","amounts"] ["many"] (qaa s_total_of):=⟨rfl,rfl,rfl,by decide+kernel,rfl,by decide+kernel,by decide+kernel⟩
theorem w2j:FnScope ["tree","holds","house","names"] ["tree","holds","house"] (qaa s_holds_beneath):=⟨rfl,rfl,rfl,by decide+kernel,rfl,by decide+kernel,by decide+kernel⟩
theorem wdd:FnScope ["holds"] ["holds"] (qaa s_held_by):=⟨rfl,rfl,rfl,by decide+kernel,rfl,by decide+kernel,by decide+kernel⟩
theorem wgd:FnScope ["tree","holds","house"] ["tree","holds","house"] (qaa s_used):=⟨rfl,rfl,rfl,by decide+kernel,rfl,by decide+kernel,by decide+kernel⟩
theorem wfb:FnScope ["holds","rank","sure"] ["holds","rank","sure"] (qaa s_fixed):=⟨rfl,rfl,rfl,by decide+kernel,rfl,by decide+kernel,by decide+kernel⟩
theorem w1e:FnScope ["tree","holds","line","amounts","rooms","at","cap","use","ware"] ["tree","holds","line","amounts"] (qaa s_rooms_left):=⟨rfl,rfl,rfl,by decide+kernel,rfl,by decide+kernel,by decide+kernel⟩
theorem w4d:FnScope ["tree","hold","places","line","parts","place"] ["tree","hold","places"] (qaa s_parts_at):=⟨rfl,rfl,rfl,by decide+kernel,rfl,by decide+kernel,by decide+kernel⟩
theorem w5l:FnScope ["parts","rooms","place"] ["parts","rooms"] (qaa s_first_beyond):=⟨rfl,rfl,rfl,by decide+kernel,rfl,by decide+kernel,by decide+kernel⟩
theorem w3h:FnScope ["tree","holds","house","amounts","rank","sure","rooms","given","hold","parts","place","taken"] ["tree","holds","house","amounts","rank","sure"] (qaa s_claims):=⟨rfl,rfl,rfl,by decide+kernel,rfl,by decide+kernel,by decide+kernel⟩
theorem wav:FnScope ["tree","holds","house","amounts","rank","sure","given"] ["tree","holds","house","amounts","rank","sure","given"] (qaa s_is_claims):=⟨rfl,rfl,rfl,by decide+kernel,rfl,by decide+kernel,by decide+kernel⟩
theorem wbk:FnScope ["thing"] ["thing"] (qaa s_are_wares):=⟨rfl,rfl,rfl,by decide+kernel,rfl,by decide+kernel,by decide+kernel⟩
theorem wa5:FnScope ["thing"] ["thing"] (qaa s_check_name):=⟨rfl,rfl,rfl,by decide+kernel,rfl,by decide+kernel,by decide+kernel⟩
theorem w4e:FnScope ["wares","elder","promise","cap","weight","own_promise","own_cap"] ["wares","elder","promise","cap","weight"] (qaa s_read_house):=⟨rfl,rfl,rfl,by decide+kernel,rfl,by decide+kernel,by decide+kernel⟩
theorem w42:FnScope ["name","promises","cap","ware"] ["name","promises","cap"] (qaa s_check_promises):=⟨rfl,rfl,rfl,by decide+kernel,rfl,by decide+kernel,by decide+kernel⟩
theorem wgb:FnScope ["_law_script","_law_k"] ["_law_script","_law_k"] (qaa s_cell):=⟨rfl,rfl,rfl,by decide+kernel,rfl,by decide+kernel,by decide+kernel⟩
theorem wfy:FnScope ["_law_cell_here","_law_k","_law_many","_law_number"] ["_law_cell_here","_law_k","_law_many"] (qaa s_mix):=⟨rfl,rfl,rfl,by decide+kernel,rfl,by decide+kernel,by decide+kernel⟩
theorem w2n:FnScope ["_law_script","_law_number","_law_letters","_law_cell_here","_law_size","_law_at","_law_shift","_law_tail","_law_name_here","_law_k"] ["_law_script","_law_number"] (qaa s_name):=⟨rfl,rfl,rfl,by decide+kernel,rfl,by decide+kernel,by decide+kernel⟩
theorem w6l:FnScope ["_law_script","_law_many","_law_lines_here","_law_k","_law_elder"] ["_law_script","_law_many"] (qaa s_lines):=⟨rfl,rfl,rfl,by decide+kernel,rfl,by decide+kernel,by decide+kernel⟩
theorem w7t:FnScope ["_law_cell_here","_law_kinds","_law_scale","_law_parts_here","_law_j","_law_part"] ["_law_cell_here","_law_kinds","_law_scale"] (qaa s_parts):=⟨rfl,rfl,rfl,by decide+kernel,rfl,by decide+kernel,by decide+kernel⟩
theorem w6d:FnScope ["_law_script","_law_houses","_law_kinds","_law_scale","_law_many","_law_rows_here","_law_number","_law_k","_law_cell_here","_law_parts_here"] ["_law_script","_law_houses","_law_kinds","_law_scale","_law_many"] (qaa s_rows):=⟨rfl,rfl,rfl,by decide+kernel,rfl,by decide+kernel,by decide+kernel⟩
theorem wgx:FnScope ["_law_row","_law_ask"] ["_law_row","_law_ask"] (qaa s_ends):=⟨rfl,rfl,rfl,by decide+kernel,rfl,by decide+kernel,by decide+kernel⟩
theorem wh8:FnScope ["_law_rows_here","_law_lines_here","_law_at","_law_j"] ["_law_rows_here","_law_lines_here","_law_at","_law_j"] (qaa s_sum):=⟨rfl,rfl,rfl,by decide+kernel,rfl,by decide+kernel,by decide+kernel⟩
theorem w27:FnScope ["_law_script","_law_rows_here","_law_lines_here","_law_ask","_law_cell_here","_law_stay","_law_go","_law_short_here","_law_caps_here","_law_at","_law_cap","_law_j","_law_low","_law_more","_law_near"] ["_law_script","_law_rows_here","_law_lines_here","_law_ask"] (qaa s_caps):=⟨rfl,rfl,rfl,by decide+kernel,rfl,by decide+kernel,by decide+kernel⟩
theorem w29:FnScope ["_law_script","_law_many","_law_cell_here","_law_lines_here","_law_kinds","_law_scale","_law_names","_law_wares","_law_rows_here","_law_parts_here","_law_ask"] ["_law_script","_law_many"] (qaa s_world):=⟨rfl,rfl,rfl,by decide+kernel,rfl,by decide+kernel,by decide+kernel⟩
theorem wag:FnScope ["_law_wares","_law_parts_here","_law_told_here","_law_ware","_law_part"] ["_law_wares","_law_parts_here"] (qaa s_told):=⟨rfl,rfl,rfl,by decide+kernel,rfl,by decide+kernel,by decide+kernel⟩
theorem w0u:FnScope ["_law_script","_law_lines_here","_law_caps_here","_law_cell_here","_law_left","_law_promises_here","_law_at","_law_j","_law_free","_law_part","_law_house"] ["_law_script","_law_lines_here","_law_caps_here"] (qaa s_promises):=⟨rfl,rfl,rfl,by decide+kernel,rfl,by decide+kernel,by decide+kernel⟩
theorem w3q:FnScope ["_law_script","_law_world_here","_law_names","_law_wares","_law_lines_here","_law_rows_here","_law_ask","_law_caps_here","_law_due","_law_tree_here","_law_k"] ["_law_script","_law_world_here"] (qaa s_tree):=⟨rfl,rfl,rfl,by decide+kernel,rfl,by decide+kernel,by decide+kernel⟩
theorem w0b:FnScope ["_law_world_here","_law_names","_law_wares","_law_lines_here","_law_rows_here","_law_ask","_law_caps_here","_law_objects_here","_law_number","_law_at","_law_parts_here","_law_rank","_law_sure","_law_turns"] ["_law_world_here"] (qaa s_objects):=⟨rfl,rfl,rfl,by decide+kernel,rfl,by decide+kernel,by decide+kernel⟩
theorem w16:FnScope ["_law_objects_here","_law_world_here","_law_names","_law_wares","_law_lines_here","_law_rows_here","_law_ask","_law_caps_here","_law_hold","_law_row","_law_turns"] ["_law_objects_here","_law_world_here"] (qaa s_stay_so):=⟨rfl,rfl,rfl,by decide+kernel,rfl,by decide+kernel,by decide+kernel⟩
theorem w1x:FnScope ["_law_world_here","_law_some","_law_names","_law_wares","_law_lines_here","_law_rows_here","_law_ask","_law_caps_here","_law_at","_law_ware","_law_j","_law_here"] ["_law_world_here","_law_some"] (qaa s_short):=⟨rfl,rfl,rfl,by decide+kernel,rfl,by decide+kernel,by decide+kernel⟩
theorem w4j:FnScope ["_law_world_here","_law_tree_here","_law_objects_here","_law_names","_law_wares","_law_lines_here","_law_rows_here","_law_ask","_law_caps_here"] ["_law_world_here","_law_tree_here","_law_objects_here"] (qaa s_asked):=⟨rfl,rfl,rfl,by decide+kernel,rfl,by decide+kernel,by decide+kernel⟩
theorem w0z:FnScope ["_law_world_here","_law_order","_law_names","_law_wares","_law_lines_here","_law_rows_here","_law_ask","_law_caps_here","_law_kept","_law_gone","_law_row"] ["_law_world_here","_law_order"] (qaa s_no_room):=⟨rfl,rfl,rfl,by decide+kernel,rfl,by decide+kernel,by decide+kernel⟩
theorem w0s:FnScope ["_law_world_here","_law_cell_here","_law_names","_law_wares","_law_lines_here","_law_rows_here","_law_ask","_law_caps_here","_law_stay","_law_one"] ["_law_world_here","_law_cell_here"] (qaa s_with_one):=⟨rfl,rfl,rfl,by decide+kernel,rfl,by decide+kernel,by decide+kernel⟩
theorem w0w:FnScope ["_law_script","_law_world_here","_law_names","_law_wares","_law_lines_here","_law_rows_here","_law_ask","_law_caps_here","_law_cell_here","_law_some","_law_way","_law_gone","_law_other"] ["_law_script","_law_world_here"] (qaa s_chosen):=⟨rfl,rfl,rfl,by decide+kernel,rfl,by decide+kernel,by decide+kernel⟩
theorem w0v:FnScope ["_law_world_here","_law_gone","_law_names","_law_wares","_law_lines_here","_law_rows_here","_law_ask","_law_caps_here","_law_found","_law_row","_law_left","_law_place"] ["_law_world_here","_law_gone"] (qaa s_listed):=⟨rfl,rfl,rfl,by decide+kernel,rfl,by decide+kernel,by decide+kernel⟩
theorem w3l:FnScope ["_law_script","_law_world_here","_law_names","_law_wares","_law_lines_here","_law_rows_here","_law_ask","_law_caps_here","_law_tree_here","_law_objects_here","_law_amounts","_law_given","_law_listed_here","_law_found"] ["_law_script"] (qaa s_law):=⟨rfl,rfl,rfl,by decide+kernel,rfl,by decide+kernel,by decide+kernel⟩
theorem waf:FnScope ["self","elder","promise","cap","weight"] ["self","elder","promise","cap","weight"] (qaa s_House_init):=⟨rfl,rfl,rfl,by decide+kernel,rfl,by decide+kernel,by decide+kernel⟩
theorem w7l:FnScope ["self","wares","name","promise","cap","weight","house"] ["self","wares","name","promise","cap","weight"] (qaa s_Tree_init):=⟨rfl,rfl,rfl,by decide+kernel,rfl,by decide+kernel,by decide+kernel⟩
theorem w4k:FnScope ["self","name","elder","promise","cap","weight","house","elders"] ["self","name","elder","promise","cap","weight"] (qaa s_Tree_found):=⟨rfl,rfl,rfl,by decide+kernel,rfl,by decide+kernel,by decide+kernel⟩
theorem wbw:FnScope ["self","thing"] ["self","thing"] (qaa s_Tree_has):=⟨rfl,rfl,rfl,by decide+kernel,rfl,by decide+kernel,by decide+kernel⟩
theorem w5x:FnScope ["self","thing"] ["self","thing"] (qaa s_Tree_check_house):=⟨rfl,rfl,rfl,by decide+kernel,rfl,by decide+kernel,by decide+kernel⟩
theorem w7s:FnScope ["self","name"] ["self","name"] (qaa s_Tree_house_of):=⟨rfl,rfl,rfl,by decide+kernel,rfl,by decide+kernel,by decide+kernel⟩
theorem w7q:FnScope ["self","name"] ["self","name"] (qaa s_Tree_elder_of):=⟨rfl,rfl,rfl,by decide+kernel,rfl,by decide+kernel,by decide+kernel⟩
theorem w8z:FnScope ["self","name"] ["self","name"] (qaa s_Tree_cap_of):=⟨rfl,rfl,rfl,by decide+kernel,rfl,by decide+kernel,by decide+kernel⟩
theorem wbi:FnScope ["self","name"] ["self","name"] (qaa s_Tree_kids):=⟨rfl,rfl,rfl,by decide+kernel,rfl,by decide+kernel,by decide+kernel⟩
theorem w3n:FnScope ["self","name","told","elder"] ["self","name"] (qaa s_Tree_line):=⟨rfl,rfl,rfl,by decide+kernel,rfl,by decide+kernel,by decide+kernel⟩
theorem w2y:FnScope ["self","name","told","kid"] ["self","name"] (qaa s_Tree_beneath):=⟨rfl,rfl,rfl,by decide+kernel,rfl,by decide+kernel,by decide+kernel⟩
theorem w45:FnScope ["self","name"] ["self","name"] (qaa s_Tree_promised_beneath):=⟨rfl,rfl,rfl,by decide+kernel,rfl,by decide+kernel,by decide+kernel⟩
theorem w3m:FnScope ["self","names","more","name"] ["self","names","more"] (qaa s_Tree_check_more):=⟨rfl,rfl,rfl,by decide+kernel,rfl,by decide+kernel,by decide+kernel⟩
theorem wat:FnScope ["self","number","house","amounts","rank","turns"] ["self","number","house","amounts","rank","turns"] (qaa s_Hold_init):=⟨rfl,rfl,rfl,by decide+kernel,rfl,by decide+kernel,by decide+kernel⟩
theorem w7x:FnScope ["self"] ["self"] (qaa s_Hold_is_sure):=⟨rfl,rfl,rfl,by decide+kernel,rfl,by decide+kernel,by decide+kernel⟩
theorem w84:FnScope ["self","rank","sure"] ["self","rank","sure"] (qaa s_Hold_may_end):=⟨rfl,rfl,rfl,by decide+kernel,rfl,by decide+kernel,by decide+kernel⟩
theorem wb2:FnScope ["self"] ["self"] (qaa s_Hold_told):=⟨rfl,rfl,rfl,by decide+kernel,rfl,by decide+kernel,by decide+kernel⟩
theorem w8r:FnScope ["self"] ["self"] (qaa s_Loan_is_sure):=⟨rfl,rfl,rfl,by decide+kernel,rfl,by decide+kernel,by decide+kernel⟩
theorem w8t:FnScope ["self","rank","sure"] ["self","rank","sure"] (qaa s_Loan_may_end):=⟨rfl,rfl,rfl,by decide+kernel,rfl,by decide+kernel,by decide+kernel⟩
variable {P: uY} {w: vL} {K: uR} {mg: Str -> Option uC} {base: vP} {d: Ad} (T: Tx K mg d)
include T in
theorem w7y:FnOk P w K mg base CX0 1 d.w76 d.w6c ["self","thing"] (wbv K d):=by
 refine T.wdx.ok wbw (fun vs H Q E h=>?_) (fun cdv A outer s H vs Q E hr h=>?_)
 .obtain⟨t,S,x,rfl,_⟩:=h;rfl
 obtain⟨t,S,x,rfl,hT,hx,q⟩:=h
 refine⟨_,(qa5 (qaj (qfh (qai qc6 rfl T.w0r vV (qa0 (pv 1) (qa0 (qd7 (v:=.ty "str") rfl T.wg7 dW rfl) qa2))) (qec (pe_cmp (pc_din (qcg hr) (pv 1) (qb4 (pv 0) rfl))))))),?_⟩
 walk_at "d"
 refine qag (σ:=[some (.ref t),some (x)]) rfl ?_
 obtain⟨⟨dx,ht⟩,hw,hh,nd,hz,hE⟩:=hT
 have ct:=T.w01
 have nh:qax K d.w00 "houses":=T.w02
 rcases hx with ⟨z,rfl⟩ |⟨⟨ty,ht1,ht2⟩,nz⟩
 .left
  rw [qdp,cN]
  exact q
 .left
  rw [qd3 nz] at q
  exact q
include T in
theorem w1m:FnOk P w K mg base (My.CX1 P w) 2 d.w1s d.w1n ["self","thing"] (w69 K d):=by
 refine okX T.w6h w5x (fun vs H Q E h=>?_) (fun cdv A outer s H vs Q E hr h=>?_)
 .obtain⟨t,S,x,rfl,_⟩:=h;rfl
 obtain⟨t,S,x,rfl,hT,hx,q1,q2⟩:=h
 refine⟨_,(qa5 (qbg (qcb (qbk (qe6 (pv 0) T.w01 T.w23 ((w7y T).mono (by decide)) hr T.w9g .nil qah (qa0 (pv 1) qa2)))) (qa5 (qc1 rfl T.wf4 rfl T.wf0 qaz (qa0 qco qa2))) qas)),?_⟩
 walk_at "d"
 refine qag (σ:=[some (.ref t),some (x)]) rfl ?_
 have hT0:=hT
 obtain⟨⟨dx,ht⟩,hw,hh,nd,hz,hE⟩:=hT
 have ct:=T.w01
 have nh:qax K d.w00 "houses":=T.w02
 left
 refine⟨t,S,x,rfl,hT0,hx,?_⟩
 cases hw':who S x with
 |none=>
  left
  show if (!false)=true then _ else _
  left
  exact q2 hw'
 |some e=>
  left
  exact q1 e hw'
include T in
theorem w4r:FnOk P w K mg base (My.CX1 P w) 3 d.w3a d.w2q ["self","name"] (w7r K d):=by
 refine okX T.w8q w7s (fun vs H Q E h=>?_) (fun cdv A outer s H vs Q E hr h=>?_)
 .obtain⟨t,S,x,rfl,_⟩:=h;rfl
 obtain⟨t,S,x,rfl,hT,hx,q1,q2⟩:=h
 refine⟨_,(qa3 (qb3 (qb6 (pv 0) T.w01 T.w04 ((w1m T).mono (by decide)) hr T.w1t .nil qaz (qa0 (pv 1) qa2)))
  (qa5 (qaj (qbz (qcg hr) (qb4 (pv 0) rfl) (pv 1) (fun _ _=>rfl))))),?_⟩
 walk_at "d"
 refine qag (σ:=[some (.ref t),some (x)]) rfl ?_
 have hT0:=hT
 obtain⟨⟨dx,ht⟩,hw,hh,nd,hz,hE⟩:=hT
 have ct:=T.w01
 have nh:qax K d.w00 "houses":=T.w02
 left
 refine⟨t,S,x,rfl,hT0,hx,fun e he=>?_,q2⟩
 have hz':∃z,x=.str z:=by
  rcases hx with h|⟨_,nz⟩
  .exact h
  .rw [qd3 nz] at he;cases he
 obtain⟨z,rfl⟩:=hz'
 left
 refine r_dgO (.inl hh) (h:=e.a) (by rw [qdp];show (S.at z).map _=_;rw [show S.at z=some e from he];rfl) ?_
 left
 exact q1 e he
include T in
theorem w4p:FnOk P w K mg base (My.CX1 P w) 4 d.w3d d.w2l ["self","name"] (w7n K d):=by
 refine okX T.w8k w7q (fun vs H Q E h=>?_) (fun cdv A outer s H vs Q E hr h=>?_)
 .obtain⟨t,S,x,rfl,_⟩:=h;rfl
 obtain⟨t,S,x,rfl,hT,hx,q1,q2⟩:=h
 refine⟨_,(qa5 (qaj (qb4 (qb6 (pv 0) T.w01 T.w0e ((w4r T).mono (by decide)) hr T.w4w .nil qaz (qa0 (pv 1) qa2)) rfl))),?_⟩
 walk_at "d"
 refine qag (σ:=[some (.ref t),some (x)]) rfl ?_
 have hT0:=hT
 obtain⟨⟨dx,ht⟩,hw,hh,nd,hz,hE⟩:=hT
 have ct:=T.w01
 have nh:qax K d.w00 "houses":=T.w02
 left
 refine⟨t,S,x,rfl,hT0,hx,fun e he=>?_,q2⟩
 obtain⟨z,rfl⟩:∃z,x=.str z:=by
  rcases hx with h|⟨_,nz⟩
  .exact h
  .rw [qd3 nz] at he;cases he
 obtain⟨⟨dh,ho⟩,hp,hpA,hc,hcA⟩:=hE e (qck he).1
 have ch:=T.w1k
 have nf:qax K d.w03 "elder":=T.w0j
 have hRp:Rd H e.x.pa (.dK e.x.kp):=.inl hp
 have hRc:Rd H e.x.ca (.dK e.x.kc):=.inl hc
 left
 exact q1 e he
include T in
theorem w2i:FnOk P w K mg base CX0 1 d.w60 d.w4u ["amounts","ware"] (w7e K d):=by
 refine T.w26.ok wbe (fun vs H Q E h=>?_) (fun cdv A outer s H vs Q E hr h=>?_)
 .obtain⟨a,kvs,f,z,rfl,_⟩:=h;rfl
 obtain⟨a,kvs,f,z,rfl,hR,hA,q⟩:=h
 refine⟨_,(qa5 (qaj (pe_dget2 (qcg hr) (pv 0) (pv 1) qa4 ⟨rfl,rfl,rfl,rfl⟩))),?_⟩
 walk_at "d"
 refine qag (σ:=[some (.ref a),some (.str z)]) rfl ?_
 left
 exact q
include T in
theorem w8g:FnOk P w K mg base CX0 1 d.w3w d.w3c ["amounts"] (w8o K d):=by
 refine T.w5s.ok w31 (fun vs H Q E h=>?_) (fun cdv A outer s H vs Q E hr h=>?_)
 .obtain⟨a,kvs,f,rfl,_⟩:=h;rfl
 obtain⟨a,kvs,f,rfl,hH,hA,hz,q⟩:=h
 refine⟨_,(qa3 (qaf (i:=1) w31.nd rfl (uI rfl) qfv)
  (qa3 (ps_thA (qb8 vA rfl (qew (pv 0)) (qab (i:=2) w31.nd rfl (uI rfl)) (qa5 (qd6 (qbg (qan qfd (qbz (qcg hr) (pv 0) (pv 2) (fun _ _=>rfl)) qa4 (qat _)) (qa5 (qe5 (qcg hr) (pv 1) (pv 2) (qbz (qcg hr) (pv 0) (pv 2) (fun _ _=>rfl)) rfl)) qas)))))
  (qa5 (qaj (pv 1))))),?_⟩
 walk_at "d"
 refine qag (σ:=[some (.ref a),none,none]) rfl ?_
 left
 rename_i l hl
 have ea:=qad (o':=.dK []) hH hl
 have nla:l≠a:=(qa8 hH hl).symm
 refine r_itD ea fun o=>?_
 refine f_dict (fun i σ H'=>∃(k':List (Key × V)) (w:Option V),σ=[some (.ref a),some (.ref l),w]/\SameBut a H H'/\H' a=some (.frz o (.dK kvs))/\H' l=some (.dK k')/\k'.length<=i/\AD k' (fun y=>if y∈(qcr kvs).take i then qcw f y else none))
  ⟨[],none,rfl,SameBut.at (SameBut.of (qa7 hl _)),qa1,by rw [qa6 nla];exact qa1,uF _,AD.nil.cast fun z=>by simp [noF]⟩ ?_ ?_ ?_
 .rintro i σ H' _ ⟨k',w,rfl,sb,fz,hl',_⟩;exact fz
 .rintro i k v σ H' hk ⟨k',w,rfl,sb,fz,hl',hlen,hA'⟩
  obtain⟨z,n,rfl,rfl,hf,hzi⟩:=hA.at hk
  have hi:i < kvs.length:=(uH.mp hk).1
  have hRd:Rd H' a (.dK kvs):=.inr ⟨o,fz⟩
  show gName _ (.str z) _ _ _
  left
  refine r_cut0 ?_
  left
  refine i_2 (fun c=>?_) (fun c=>?_)
  .left
   refine⟨_,_,rfl,?_,by rw [qa6 nla.symm];exact fz,qa1,?_,(hA'.put z n).cast fun y=>?_⟩
   .exact sb_put sb hl
   .have:=qc0 k' (vG z) (.int n);omega
   .exact step_put hzi (qcw f) (fun _=>none) (by unfold qcw;rw [hf];exact gL c) y
  .left
   refine⟨_,_,rfl,sb,fz,hl',by omega,hA'.cast fun y=>?_⟩
   exact step_no hzi (qcw f) (fun _=>none) (by unfold qcw;rw [hf];exact gK c) y
 .rintro σ H' ⟨k',w,rfl,sb,fz,hl',_,hA'⟩
  refine r_thNx (thaw1 fz (qdx hH)) ?_
  left
  refine q l k' _ (qd4 hH sb) hl (by rw [qa6 nla];exact hl') (hA'.cast fun y=>?_)
  exact step_end hA (qcw f) (fun _=>none) (fun y e=>by unfold qcw;rw [e]) y
include T in
theorem wd1:FnOk P w K mg base CX0 2 d.wcr d.wa4 ["one","other"] (wfn K d):=by
 refine T.wcg.ok w9v (fun vs H Q E h=>?_) (fun cdv A outer s H vs Q E hr h=>?_)
 .obtain⟨a,b,ka,kb,f,g,rfl,_⟩:=h;rfl
 obtain⟨a,b,ka,kb,f,g,rfl,hRa,hb,hA,hB,za,zb,q⟩:=h
 refine⟨_,(qa3 (qaf (i:=2) w9v.nd rfl (uI rfl) (qbe qcu rfl T.w9h wV (qa0 (pv 0) qa2)))
  (qa3 (ps_thA (qb8 vA rfl (qew (pv 1)) (qab (i:=3) w9v.nd rfl (uI rfl)) (qa5 (qe5 (qcg hr) (pv 2) (pv 3) (qam qb0 (qa9 ((w2i T).mono (by decide)) hr rfl T.w37 T.w26.kp T.w30 .nil qah (qa0 (pv 0) (qa0 (pv 3) qa2))) (qbz (qcg hr) (pv 1) (pv 3) (fun _ _=>rfl))) rfl))))
  (qa5 (qaj (pv 2))))),?_⟩
 walk_at "d"
 refine qag (σ:=[some (.ref a),some (.ref b),none,none]) rfl ?_
 left
 rename_i l hl
 have eb:=qad (o':=.dK ka) hb hl
 have nlb:l≠b:=(qa8 hb hl).symm
 refine r_itD eb fun o=>?_
 refine f_dict (fun i σ H'=>∃(k':List (Key × V)) (w:Option V),σ=[some (.ref a),some (.ref b),some (.ref l),w]/\SameBut b H H'/\H' b=some (.frz o (.dK kb))/\H' l=some (.dK k')/\k'.length<=1000+i/\AD k' (fun y=>if y∈(qcr kb).take i then addF f g y else f y))
  ⟨ka,none,rfl,SameBut.at (SameBut.of (qa7 hl _)),qa1,by rw [qa6 nlb];exact qa1,by omega,hA.cast fun z=>by simp⟩ ?_ ?_ ?_
 .rintro i σ H' _ ⟨k',w,rfl,sb,fz,hl',_⟩;exact fz
 .rintro i k v σ H' hk ⟨k',w,rfl,sb,fz,hl',hlen,hA'⟩
  obtain⟨z,n,rfl,rfl,hf,hzi⟩:=hB.at hk
  have hi:i < kb.length:=(uH.mp hk).1
  have hRb:Rd H' b (.dK kb):=.inr ⟨o,fz⟩
  have hRa':Rd H' a (.dK ka):=rd_in hRa hb sb fz
  show gName _ (.str z) _ _ _
  left
  refine⟨_,_,rfl,sb_put sb hl,by rw [qa6 nlb.symm];exact fz,qa1,?_,(hA'.put z _).cast fun y=>?_⟩
  .have:=qc0 k' (vG z) (.int (gN f z+n));omega
  .exact step_put hzi (addF f g) f (by unfold addF;rw [hf]) y
 .rintro σ H' ⟨k',w,rfl,sb,fz,hl',_,hA'⟩
  refine r_thNx (thaw1 fz (qdx hb)) ?_
  left
  refine q l k' _ (qd4 hb sb) hl (by rw [qa6 nlb];exact hl') (hA'.cast fun y=>?_)
  exact step_end hB (addF f g) f (fun y e=>by unfold addF;rw [e]) y
include T in
theorem wey:FnOk P w K mg base CX0 2 d.wa1 d.w7z ["one","other"] (wes K d):=by
 refine T.wd5.ok wb7 (fun vs H Q E h=>?_) (fun cdv A outer s H vs Q E hr h=>?_)
 .obtain⟨a,b,ka,kb,f,g,rfl,_⟩:=h;rfl
 obtain⟨a,b,ka,kb,f,g,rfl,hRa,hRb,hA,hB,za,qn,qs⟩:=h
 refine⟨_,(qa3 (qb8 vA rfl (qau (qai (qea rfl) rfl T.w5o wS (qa0 (pv 0) qa2))) (qab (i:=2) wb7.nd rfl (uI rfl)) (qa5 (qbg (qan qfd (qbz (qcg hr) (pv 0) (pv 2) (fun _ _=>rfl)) (qa9 ((w2i T).mono (by decide)) hr rfl T.w37 T.w26.kp T.w30 .nil qah (qa0 (pv 1) (qa0 (pv 2) qa2))) (qat _)) (qa5 (qaj (pv 2))) qas)))
  (qa5 (qaj qcp))),?_⟩
 walk_at "d"
 refine qag (σ:=[some (.ref a),some (.ref b),none]) rfl ?_
 left
 refine r_sortD hRa hA.keys (by rw [hA.klen];exact za) fun l ss hl hp hs=>?_
 have pw:=qen hs
 have hin:∀y,y∈ss↔f y≠none:=fun y=>(hp.mem_iff).trans (hA.kin y)
 left
 have sm:=qa7 hl (.lst (ss.map V.str))
 have hRa':=rd_new hRa hl (u:=.lst (ss.map V.str))
 have hRb':=rd_new hRb hl (u:=.lst (ss.map V.str))
 refine qct (xs:=ss.map V.str) (fun i σ H'=>H'=upd H l (.lst (ss.map V.str))/\(∃w,σ=[some (.ref a),some (.ref b),w])/\∀j y,j < i->ss[j]?=some y->¬viol f g y) ⟨rfl,⟨_,rfl⟩,fun j y hj=>absurd hj (bX j)⟩ ?_ ?_ ?_
 .rintro i σ H' _ ⟨rfl,_⟩;exact SqL.of qa1
 .rintro i v σ H' hv ⟨rfl,⟨w,rfl⟩,hno⟩
  rw [zC] at hv
  obtain⟨z,hz,rfl⟩:=uU.mp hv
  have hfz:=(hin z).mp (zD hz)
  obtain⟨n,hn⟩:∃n,f z=some n:=by
   cases e:f z with
   |none=>exact absurd e hfz
   |some n=>exact⟨n,rfl⟩
  have gz:gN f z=n:=by unfold gN;rw [hn];rfl
  left
  refine i_2 (fun c=>?_) (fun c=>?_)
  .left
   refine qs z _ sm ⟨hfz,by rw [gz];exact c⟩ fun y hy=>?_
   obtain⟨j,hj,e⟩:=zQ.mp ((hin y).mpr hy.1)
   have hji:i<=j:=by
    rcases bH j i with h|h
    .exact absurd hy (hno j y h (by rw [zA hj,e]))
    .exact h
   obtain⟨hi,ez⟩:=uH.mp hz
   rcases Nat.eq_or_lt_of_le hji with h|h
   .subst h;rw [ez] at e;subst e;exact leS_refl _
   .have:=zW.mp pw i j hi hj h
    rw [ez,e] at this;exact this
  .left
   refine⟨rfl,⟨_,rfl⟩,fun j y hj hy=>?_⟩
   rcases bH j i with h|h
   .exact hno j y h hy
   .have e:j=i:=by omega
    subst e
    rw [hz] at hy
    cases hy
    exact fun hv=>c (by have:=hv.2;rw [gz] at this;exact this)
 .rintro σ H' ⟨rfl,⟨w,rfl⟩,hno⟩
  left
  refine qn _ sm fun y hy=>?_
  obtain⟨j,hj,e⟩:=zQ.mp ((hin y).mpr hy.1)
  exact hno j y (by rw [zB];exact hj) (by rw [zA hj,e]) hy
theorem sum_sup {ts:List Pt} {ws:List Str} (h:∀t∈ts,∀z,t.f z≠none->z∈ws):∀f0:Str->Option Int,(∀z,f0 z≠none->z∈ws)->∀z,ts.foldl (fun f t=>addF f t.f) f0 z≠none->z∈ws:=by
 induction ts with
 |nil=>intro f0 h0 z hz;exact h0 z hz
 |cons t ts ih=>intro f0 h0 z hz;exact ih (fun t' ht=>h t' (zH _ ht)) (addF f0 t.f) (addF_sup h0 (h t (zN ..))) z hz
include T in
theorem w8h:FnOk P w K mg base CX0 3 d.w6w d.w5z ["many"] (wcj K d):=by
 refine T.w75.ok w48 (fun vs H Q E h=>?_) (fun cdv A outer s H vs Q E hr h=>?_)
 .obtain⟨L,ts,ws,rfl,_⟩:=h;rfl
 obtain⟨L,ts,ws,rfl,hS,hw,hts,q⟩:=h
 refine⟨_,(qa3 (qaf (i:=1) w48.nd rfl (uI rfl) qfv)
  (qa3 (qb8 vA rfl (qau (pv 0)) (qab (i:=2) w48.nd rfl (uI rfl)) (qa5 (qaf (i:=1) w48.nd rfl (uI rfl) (qa9 ((wd1 T).mono (by decide)) hr rfl T.we4 T.wcg.kp T.wek .nil qah (qa0 (pv 1) (qa0 (pv 2) qa2))))))
  (qa5 (qaj (pv 1))))),?_⟩
 walk_at "d"
 refine qag (σ:=[some (.ref L),none,none]) rfl ?_
 left
 rename_i l0 hl0
 refine qct (xs:=ts.map fun t=> .ref t.a) (fun i σ H'=>∃(l:Addr) (k':List (Key × V)) (w:Option V),σ=[some (.ref L),some (.ref l),w]/\qar H H'/\H l=none/\H' l=some (.dK k')/\AD k' (sumF (ts.take i))) ⟨l0, [],none,rfl,qa7 hl0 _,hl0,qa1,AD.nil⟩ ?_ ?_ ?_
 .rintro i σ H' _ ⟨l,k',w,rfl,sm,_⟩;exact sm.seq hS
 .rintro i v σ H' hv ⟨l,k',w,rfl,sm,hl,hl',hA'⟩
  rw [zC] at hv
  obtain⟨t,ht,rfl⟩:=uU.mp hv
  have hm:=zD ht
  obtain⟨h1,h2,h3⟩:=hts t hm
  have sup:∀z,sumF (ts.take i) z≠none->z∈ws:=sum_sup (fun t' ht'=>(hts t' (yL ht')).2.2) noF (fun z h=>absurd rfl h)
  have c1:=hA'.le sup
  have c2:=h2.le h3
  left
  refine⟨l,t.a,k',t.k,sumF (ts.take i),t.f,rfl,.inl hl',sm _ _ h1,hA',h2,by omega,by omega,fun l2 k2 H2 sm2 hl2 e2 hA2=>?_⟩
  left
  refine⟨l2,k2,_,rfl,sm.trans sm2,sm.free hl2,e2,?_⟩
  have e:ts.take (i+1)=ts.take i++ [t]:=by rw [zO,ht];rfl
  rw [e]
  unfold sumF
  rw [cR]
  exact hA2
 .rintro σ H' ⟨l,k',w,rfl,sm,hl,hl',hA'⟩
  rw [zB,zS] at hA'
  left
  exact q l k' H' sm hl hl' hA'
include T in
theorem w5c:FnOk P w K mg base (My.CX1 P w) 5 d.w68 d.w4v ["self","name"] (was K d):=by
 refine okX T.wc8 w3n (fun vs H Q E h=>?_) (fun cdv A outer s H vs Q E hr h=>?_)
 .obtain⟨t,S,x,rfl,_⟩:=h;rfl
 obtain⟨t,S,x,rfl,hT,q⟩:=h
 refine⟨_,(qa3 (qaf (i:=2) w3n.nd rfl (uI rfl) (qbl (qa0 (pv 1) qa2)))
  (qa3 (qaf (i:=3) w3n.nd rfl (uI rfl) (qb6 (pv 0) T.w01 T.w0f ((w4p T).mono (by decide)) hr T.w5f .nil qaz (qa0 (pv 1) qa2)))
  (qa3 (ps_while (qex rfl rfl) (qan qfw (pv 3) qcp (qat _)) (qa3 (qb3 (qdh vB vE vF qb1 (pv 2) (qa0 (pv 3) qa2)))
  (qa5 (qaf (i:=3) w3n.nd rfl (uI rfl) (qb6 (pv 0) T.w01 T.w0f ((w4p T).mono (by decide)) hr T.w5f .nil qaz (qa0 (pv 3) qa2))))))
  (qa5 (qaj (pv 2)))))),?_⟩
 walk_at "d"
 refine qag (σ:=[some (.ref t),some (x),none,none]) rfl ?_
 have ct:=T.w01
 obtain⟨dx,ht⟩:=hT.1
 left
 rename_i l hl
 have sl:=qa7 hl (.lst [x])
 rcases q with ⟨z,zs,rfl,hL,hz,q⟩ |⟨hx,hn,q⟩
 .obtain⟨e0,r0,h0,rfl,hr0⟩:=hL.open
  refine⟨t,S,.str z,rfl,hT.same sl,.inl ⟨z,rfl⟩,fun e he=>?_,fun he=>?_⟩
  .have ee:e0=e:=uW (h0.symm.trans he)
   subst ee
   left
   refine while_by (fun σ H'=>∃(ys rs:List Str) (o:Option Str),σ=[some (.ref t),some (.str z),some (.ref l),some (eV o)]/\H'=upd H l (.lst (ys.map V.str))/\ys++rs=z :: r0/\RestOf S o rs) (fun _ H'=>(r0.length+1) - lenAt l H') ⟨[z],r0,_,rfl,rfl,rfl,hr0⟩ ?_ ?_
   .rintro σ H' ⟨ys,rs,o,rfl,rfl,hyr,hR⟩
    have hlen:=congrArg xA hyr
    rw [zG,zL] at hlen
    have hz2:(z :: r0).length<=1000:=hz
    rw [zL] at hz2
    cases o with
    |none=>
     have:rs=[]:=hR
     subst this
     rw [yB] at hyr
     subst hyr
     rw [show eV none=V.non from rfl]
     left
     exact q l hl
    |some y=>
     obtain⟨e1,r1,h1,rfl,hr1⟩:=LineOf.open hR
     have sy:=qa7 hl (.lst (ys.map V.str))
     have eL:upd H l (.lst (ys.map V.str)) l=some (.lst (ys.map V.str)):=qa1
     have hzz:(ys.map V.str).length < sizeLine:=by rw [zB];show _ < 16777216;omega
     rw [show eV (some y)=V.str y from rfl]
     left
     rw [qbi]
     have s2:=qa7 hl (.lst (ys.map V.str++ [.str y]))
     have ht2:=s2 _ _ ht
     left
     refine⟨t,S,.str y,rfl,hT.same s2,.inl ⟨y,rfl⟩,fun e he=>?_,fun he=>?_⟩
     .have ee:e1=e:=uW (h1.symm.trans he)
      subst ee
      left
      rw [zL] at hlen
      refine⟨⟨ys++ [y],r1,_,rfl,by rw [zE];rfl,by rw [List.append_assoc];exact hyr,hr1⟩,?_⟩
      have g1:=lenAt_eq eL
      have g2:lenAt l (upd H l (.lst (ys.map V.str++ [V.str y])))=(ys.map V.str++ [V.str y]).length:=lenAt_eq qa1
      rw [zG,zB] at g2
      rw [zB] at g1
      rw [g1,g2]
      simp only [zL,yS]
      omega
     .rw [show who S (.str y)=some e1 from h1] at he;cases he
   .rintro σ H' Q1 Q2 hm ⟨v,hv,w,k,hk,hq⟩
    exact⟨v,hv,w,k,hk,hm _ _ hq⟩
  .rw [show who S (.str z)=some e0 from h0] at he;cases he
 .refine⟨t,S,x,rfl,hT.same sl,hx.same sl,fun e he=>?_,fun _=>q l hl⟩
  rw [hn] at he;cases he
theorem at_of {S:Ts} {e:He} (nd:(S.hl.map (·.n)).Nodup) (h:e∈S.hl):S.at e.n=some e:=by
 have q:qda S.keys e.n=some e.a:=lookO_of (by unfold Ts.keys;rw [yV];exact nd) (zK.mpr ⟨e,h,rfl⟩)
 unfold Ts.at
 revert nd h
 obtain⟨sw,ws,hs,hl⟩:=S
 dsimp only
 clear q
 intro nd h
 induction hl with
 |nil=>simp at h
 |cons y r ih=>
  rw [zV,zX] at nd
  rw [yJ]
  rcases zM.mp h with h|h
  .subst h;rw [gM rfl]
  .have ne:y.n≠e.n:=fun z=>nd.1 (by rw [z];exact zK.mpr ⟨e,h,rfl⟩)
   rw [gO ne]
   exact ih nd.2 h
theorem keys_at {S:Ts} {i:Nat} {k:Key} {v:V} (h:(oK S.keys)[i]?=some (k,v)):∃e,S.hl[i]?=some e/\k=vG e.n/\v=.ref e.a:=by
 unfold oK Ts.keys at h
 rw [zC,zC] at h
 cases q:S.hl[i]? with
 |none=>rw [q] at h;cases h
 |some e=>rw [q] at h;cases h;exact⟨e,rfl,rfl,rfl⟩
theorem qej (S:Ts):(oK S.keys).length=S.hl.length:=by unfold oK Ts.keys;rw [zB,zB]
theorem dec_el {o:Option Str} {z:Str}:decide (eV o=V.str z)=decide (o=some z):=by
 cases o with
 |none=>rfl
 |some y=>
  by_cases h:y=z
  .subst h;show decide (V.str y=V.str y)=_;rw [gM rfl,gM rfl]
  .rw [gO (fun q=>h (by cases q;rfl)),gO (fun q=>h (uW q))]
theorem scal_el {o:Option Str} {z:Str}:scal (eV o) (V.str z)=true:=by cases o <;> rfl
include T in
theorem wb9:FnOk P w K mg base (My.CX1 P w) 3 d.w6b d.w5k ["self","name"] (wbh K d):=by
 refine okX T.wbu wbi (fun vs H Q E h=>?_) (fun cdv A outer s H vs Q E hr h=>?_)
 .obtain⟨t,S,x,rfl,_⟩:=h;rfl
 obtain⟨t,S,x,rfl,hT,hx,q1,q2⟩:=h
 refine⟨_,(qa3 (qb3 (qb6 (pv 0) T.w01 T.w04 ((w1m T).mono (by decide)) hr T.w1t .nil qaz (qa0 (pv 1) qa2)))
  (qa5 (qaj (qai qe9 rfl T.w5o wS (qa0 (pe_thV (qbm (caps:=[0,1]) (cn:=["self","name"]) (qb2 rfl rfl (by rfl) (by rfl) rfl ⟨rfl,⟨rfl,trivial⟩⟩ (by rfl) rfl ⟨⟨rfl,rfl,rfl,rfl,_,rfl⟩,⟨⟨rfl,rfl,rfl,rfl,_,rfl⟩,trivial⟩⟩ (by decide)) rfl (qew (qb4 (pv 0) rfl)) (fun _ _ _ _=>(qc8 (qan qdo (qb4 (qbz (qcg hr) (qb4 (pv 1) rfl) (pv 0) (fun _ _=>rfl)) rfl) (pv 2) (qat _)))) (fun _ _ _ _=>(pv 0)))) qa2))))),?_⟩
 walk_at "d"
 dsimp only [cxC]
 refine qag (σ:=[some (.ref t),some (x)]) rfl ?_
 have hT0:=hT
 obtain⟨⟨dx,ht⟩,hw,hh,nd,hz,hE⟩:=hT
 have ct:=T.w01
 have ch:=T.w1k
 have nh:qax K d.w00 "houses":=T.w02
 have nf:qax K d.w03 "elder":=T.w0j
 left
 refine⟨t,S,x,rfl,hT0,hx,fun e he=>?_,q2⟩
 obtain⟨z,rfl⟩:∃z,x=.str z:=by
  rcases hx with h|⟨_,nz⟩
  .exact h
  .rw [qd3 nz] at he;cases he
 obtain⟨hme,rfl⟩:=qck he
 left
 refine r_thV ?_
 left
 refine r_itD hh fun o=>?_
 intro C s0 H0 fp na hna
 have hF:upd H S.hs (.frz o (.dK (oK S.keys))) S.hs=some (.frz o (.dK (oK S.keys))):=qa1
 have sb:SameBut S.hs H (upd H S.hs (.frz o (.dK (oK S.keys)))):=sb_frz hh
 have ht2:=sb _ _ (ne_of ht hh (by intro z;cases z)) ht
 have hna0:H na=none:=by
  by_cases z:na=S.hs
  .subst z;rw [hF] at hna;cases hna
  .rw [qa6 z] at hna;exact hna
 have hE2:∀e∈S.hl,∃dx,upd H S.hs (.frz o (.dK (oK S.keys))) e.a=some (.ins d.w03 dx (fsH e.x)):=fun e he=>by
  obtain⟨⟨dx,q⟩,_⟩:=hE e he
  exact⟨dx,sb _ _ (ne_of q hh (by intro z;cases z)) q⟩
 generalize upd H S.hs (.frz o (.dK (oK S.keys)))=HF at*
 refine qek S.hl.length (fun i H'=>H'=upd HF na (.lst ((((S.hl.take i).filter fun y=>decide (y.x.el=some e.n)).map (·.n)).map V.str))) rfl ?_ ?_ ?_ ?_
 .rintro i H' hi rfl
  exact⟨qad hF hna,by rw [qej];exact hi⟩
 .rintro H' rfl
  exact⟨qad hF hna,by rw [qej];exact uF _⟩
 .rintro i H' v H'' hi rfl ⟨rfl,k,v',hk,rfl⟩
  obtain⟨y,hy,rfl,rfl⟩:=keys_at hk
  have hym:=zD hy
  obtain⟨dy,hya⟩:=hE2 y hym
  have nx:(S.hl.take (i+1)).filter (fun y=>decide (y.x.el=some e.n))=(S.hl.take i).filter (fun y=>decide (y.x.el=some e.n))++(if decide (y.x.el=some e.n)=true then [y] else []):=by
   rw [zO,hy,yA]
   congr 1
   simp only [Option.toList_some,yE,yR]
  have hlen:((S.hl.take i).filter (fun y=>decide (y.x.el=some e.n))).length<=S.hl.length:=vN (zY ..) (by rw [zU];omega)
  left
  refine r_dgO (h:=y.a) (rd_new (.inr ⟨o,hF⟩) hna) (by rw [qdp,at_of nd hym];rfl) ?_
  left
  refine⟨scal_el,?_⟩
  rw [dec_el]
  refine⟨_,rfl,?_⟩
  refine i_2 (fun c=>?_) (fun c=>?_)
  .left
   rw [qbi,nx,gL (gM c),zE,zE];rfl
  .rw [nx,gK (by rw [gO c];decide),yB]
 rintro H' rfl
 rw [zS]
 have nns:na≠S.hs:=fun z=>by subst z;rw [hF] at hna;cases hna
 have eN:upd (upd HF na (.lst ((qbd S e.n).map V.str))) S.hs (.dK (oK S.keys)) na=some (.lst ((qbd S e.n).map V.str)):=by rw [qa6 nns];exact qa1
 have sm:qar H (upd (upd HF na (.lst ((qbd S e.n).map V.str))) S.hs (.dK (oK S.keys))):=qd4 hh (sb_put sb hna0)
 have hkl:(qbd S e.n).length<=60:=by unfold qbd;rw [zB];exact vN (zY ..) hz
 refine⟨_,thaw1 (qad hF hna) (qdx hh),?_⟩
 show tNil _ (upd (upd HF na (.lst ((qbd S e.n).map V.str))) S.hs (.dK (oK S.keys))) _
 generalize upd (upd HF na (.lst ((qbd S e.n).map V.str))) S.hs (.dK (oK S.keys))=H3 at*
 left
 refine r_sortL (SqL.of eN) (by omega) fun l ss hl hp hs=>?_
 left
 exact q1 e he l ss _ (qeg sm hl) (sm.free hl) qa1 hp hs
theorem r_extend {H:Hp} {Q:VK} {l b:Addr} {xs zs:List V} (h:H l=some (.lst xs)) (hb:H b=some (.lst zs)) (hz:xs.length+zs.length<=sizeLine) (q:Q .non (upd H l (.lst (xs++zs)))):rExtend (.ref l) [.ref b] H Q:=⟨l,b,xs,zs,rfl,rfl,h,hb,hz,q⟩
def flat (parts:List (Str × List Str)):List Str:=(parts.map (·.2)).flatten
def Ben (S:Ts):Nat->Str->List Str->Prop
 |0,z,zs=>∃parts:List (Str × List Str),(parts.map (·.1)).Perm (qbd S z)/\zs=z :: flat parts/\∀p∈parts,False
 |n+1,z,zs=>∃parts:List (Str × List Str),(parts.map (·.1)).Perm (qbd S z)/\zs=z :: flat parts/\∀p∈parts,Ben S n p.1 p.2
def BenP (S:Ts):Nat->Str->List Str->Prop
 |0,z,zs=>∃(parts:List (Str × List Str)) (rest:List Str),(parts.map (·.1)++rest).Perm (qbd S z)/\zs=z :: flat parts/\∀p∈parts,False
 |n+1,z,zs=>∃(parts:List (Str × List Str)) (rest:List Str),(parts.map (·.1)++rest).Perm (qbd S z)/\zs=z :: flat parts/\∀p∈parts,BenP S n p.1 p.2
theorem Ben.part {S:Ts}:∀{n:Nat} {z:Str} {zs:List Str},Ben S n z zs->BenP S n z zs
 |0,_,_,⟨parts,a,b,c⟩=>⟨parts, [],by rw [yB];exact a,b,c⟩
 |n+1,_,_,⟨parts,a,b,c⟩=>⟨parts, [],by rw [yB];exact a,b,fun p hp=>Ben.part (c p hp)⟩
def BenK (S:Ts):Nat->Str->List Str->Prop
 |0,_,_=>False
 |n+1,z,zs=>Ben S n z zs
theorem ben_of {S:Ts} {n:Nat} {z:Str} {parts:List (Str × List Str)} (h:(parts.map (·.1)).Perm (qbd S z)) (hp:∀p∈parts,BenK S n p.1 p.2):Ben S n z (z :: flat parts):=by
 cases n with
 |zero=>exact⟨parts,h,rfl,hp⟩
 |succ n=>exact⟨parts,h,rfl,hp⟩
theorem benP_of {S:Ts} {n:Nat} {z:Str} {parts:List (Str × List Str)} {rest:List Str} (h:(parts.map (·.1)++rest).Perm (qbd S z)) (hp:∀p∈parts,BenK S n p.1 p.2):BenP S n z (z :: flat parts):=by
 cases n with
 |zero=>exact⟨parts,rest,h,rfl,hp⟩
 |succ n=>exact⟨parts,rest,h,rfl,fun p q=>Ben.part (hp p q)⟩
def Slim (S:Ts):Prop:=∀n z zs,BenP S n z zs->zs.length<=1000
def Dep (S:Ts):Nat->Str->Prop
 |0,z=>qbd S z=[]
 |n+1,z=>∀y∈qbd S z,Dep S n y
def wd6 (n:Nat) (K:uR) (d:Ad):Sp:=fun vs H Q E=>∃(t:Addr) (S:Ts) (x:V),vs=[.ref t,x]/\qf8 d H t S/\Slim S/\qe2 K H x/\(∀e,who S x=some e->Dep S n e.n/\∀l zs H',qar H H'->H l=none->H' l=some (.lst (zs.map V.str))->Ben S n e.n zs->Q (.ref l) H')/\(who S x=none->∀l,H l=none->E (.ref d.w0c) none (upd H l (.lst [x])))
theorem kid_at {S:Ts} {y z:Str} (nd:(S.hl.map (·.n)).Nodup) (h:y∈qbd S z):∃e,S.at y=some e/\e.n=y:=by
 obtain⟨e,he,rfl⟩:=zK.mp h
 exact⟨e,at_of nd (yH.mp he).1,rfl⟩
theorem flat_app (a b:List (Str × List Str)):flat (a++b)=flat a++flat b:=by unfold flat;rw [zE,List.flatten_append]
theorem ben_step {P:uY} {w:vL} {K:uR} {mg:Str->Option uC} {base:vP} {d:Ad} (T:Tx K mg d) (n:Nat) (spi:Sp) (IH:FnOk P w K mg base (My.CX1 P w) (3+n) d.w0y d.w0o ["self","name"] spi)
  (use:∀(t:Addr) (S:Ts) (z y:Str) (e:He) (H:Hp) (Q:VK) (E:XK),qf8 d H t S->Slim S->Dep S n z->y∈qbd S z->S.at y=some e->e.n=y->(∀l zs H',qar H H'->H l=none->H' l=some (.lst (zs.map V.str))->BenK S n y zs->Q (.ref l) H')->spi [.ref t,.str y] H Q E):
  FnOk P w K mg base (My.CX1 P w) (3+n+1) d.w0y d.w0o ["self","name"] (wd6 n K d):=by
 refine okX T.w93 w2y (fun vs H Q E h=>?_) (fun cdv A outer s H vs Q E hr h=>?_)
 .obtain⟨t,S,x,rfl,_⟩:=h;rfl
 obtain⟨t,S,x,rfl,hT,hS,hx,q1,q2⟩:=h
 refine⟨_,(qa3 (qaf (i:=2) w2y.nd rfl (uI rfl) (qbl (qa0 (pv 1) qa2)))
  (qa3 (qb8 (qex rfl rfl) rfl (qau (qb6 (pv 0) T.w01 T.w2e ((wb9 T).mono (by omega)) hr T.wcp .nil qaz (qa0 (pv 1) qa2))) (qab (i:=3) w2y.nd rfl (uI rfl)) (qa5 (qb3 (qdh vB PySem.F.slot_list_extend PySem.F.type_list_extend mt_extend (pv 2) (qa0 (qb6 (pv 0) T.w01 T.w08 IH hr T.w2a .nil qaz (qa0 (pv 3) qa2)) qa2)))))
  (qa5 (qaj (pv 2))))),?_⟩
 walk_at "d"
 refine qag (σ:=[some (.ref t),some (x),none,none]) rfl ?_
 have ct:=T.w01
 obtain⟨dx,ht⟩:=hT.1
 have nd:=hT.2.2.2.1
 left
 rename_i lt hlt
 have sl:=qa7 hlt (.lst [x])
 refine⟨t,S,x,rfl,hT.same sl,hx.same sl,fun e he=>?_,fun he=>q2 he lt hlt⟩
 obtain⟨hD,q⟩:=q1 e he
 obtain⟨z,rfl⟩:∃z,x=.str z:=by
  rcases hx with h|⟨_,nz⟩
  .exact h
  .rw [qd3 nz] at he;cases he
 obtain⟨hme,rfl⟩:=qck he
 intro lk ss H1 s1 hlk ek hp hs
 have eT:=s1 _ _ (qa1 (H:=H) (a:=lt) (o:=.lst [V.str e.n]))
 left
 have ntk:lk≠lt:=fun z=>by subst z;rw [qa1] at hlk;cases hlk
 refine qct (xs:=ss.map V.str) (fun i σ H'=>∃(parts:List (Str × List Str)) (w:Option V),σ=[some (.ref t),some (.str e.n),some (.ref lt),w]/\parts.map (·.1)=ss.take i/\(∀p∈parts,BenK S n p.1 p.2)/\qar H H'/\H' lk=some (.lst (ss.map V.str))/\H' lt=some (.lst ((e.n :: flat parts).map V.str)))
  ⟨[],_,rfl,rfl,fun p hp=>absurd hp (by simp),sl.trans s1,ek,eT⟩ ?_ ?_ ?_
 .rintro i σ H' _ ⟨parts,w,_,_,_,_,ek',_⟩;exact SqL.of ek'
 .rintro i v σ H' hv ⟨parts,w,rfl,hps,hB,sm,ek',eT'⟩
  rw [zC] at hv
  obtain⟨y,hy,rfl⟩:=uU.mp hv
  have hyk:y∈qbd S e.n:=hp.mem_iff.mp (zD hy)
  obtain⟨ey,h1,h2⟩:=kid_at nd hyk
  have ht':=sm _ _ ht
  left
  refine use t S e.n y ey H' _ _ (hT.same sm) hS hD hyk h1 h2 fun l zs H2 s2 hl el hBy=>?_
  have eT2:=s2 _ _ eT'
  have hps2:(parts++ [(y,zs)]).map (·.1)=ss.take (i+1):=by rw [zE,hps,zO,hy];rfl
  have hB2:∀p∈parts++ [(y,zs)],BenK S n p.1 p.2:=fun p hp=>by
   rcases zR.mp hp with h|h
   .exact hB p h
   .have:=zF.mp h
    subst this;exact hBy
  have ef:flat (parts++ [(y,zs)])=flat parts++zs:=by rw [flat_app];congr 1;simp [flat]
  have hlen:=hS _ _ _ (benP_of (n:=n) (z:=e.n) (parts:=parts++ [(y,zs)]) (rest:=ss.drop (i+1)) (by rw [hps2,bL];exact hp) hB2)
  rw [ef,zL,zG] at hlen
  left
  refine r_extend eT2 el (by rw [zB,zB,zL];show _<=16777216;omega) ?_
  left
  refine⟨parts++ [(y,zs)],_,rfl,hps2,hB2,qaq (sm.trans s2) hlt,by rw [qa6 ntk];exact s2 _ _ ek',?_⟩
  rw [ef,<-zE];exact qa1
 .rintro σ H' ⟨parts,w,rfl,hps,hB,sm,ek',eT'⟩
  rw [zB,zS] at hps
  left
  exact q lt _ H' sm hlt eT' (ben_of (by rw [hps];exact hp) hB)
theorem wec {P:uY} {w:vL} {K:uR} {mg:Str->Option uC} {base:vP} {CX:CXT} {k:Nat} {f:Addr} {fd:uM} {ps:List Str}:FnOk P w K mg base CX k f fd ps (fun _ _ _ _=>False):=
 ⟨fun _ _ _ _ h=>h.elim,fun _ _ _ _ _ _ _ _ _ _ _ _ _ h=>h.elim⟩
theorem wfx {P:uY} {w:vL} {K:uR} {mg:Str->Option uC} {base:vP} {d:Ad} (T:Tx K mg d):∀n:Nat,FnOk P w K mg base (My.CX1 P w) (3+n+1) d.w0y d.w0o ["self","name"] (wd6 n K d)
 |0=>ben_step T 0 (fun _ _ _ _=>False) wec fun t S z y e H Q E _ _ hD hy _ _ _=>by
  have:qbd S z=[]:=hD
  rw [this] at hy;simp at hy
 |n+1=>ben_step T (n+1) (wd6 n K d) (wfx T n) fun t S z y e H Q E hT hS hD hy h1 h2 q=>by
  refine⟨t,S,.str y,rfl,hT,hS,.inl ⟨y,rfl⟩,fun e' he'=>?_,fun he'=>?_⟩
  .have ee:e=e':=uW (h1.symm.trans he')
   subst ee
   rw [h2]
   exact⟨hD y hy,fun l zs H' sm hl el hB=>q l zs H' sm hl el hB⟩
  .rw [show who S (.str y)=some e from h1] at he';cases he'
def w8v (K:uR) (d:Ad):Sp:=wd6 12 K d
include T in
theorem w33:FnOk P w K mg base (My.CX1 P w) 16 d.w0y d.w0o ["self","name"] (w8v K d):=wfx T 12
def upS (S:Ts) (y:Str):Option Str:=(S.at y).bind fun e=>e.x.el
def anc (S:Ts):Nat->Str->Option Str
 |0,y=>some y
 |k+1,y=>(upS S y).bind (anc S k)
theorem qdt {S:Ts}:∀(i j:Nat) (y:Str),anc S (i+j) y=(anc S i y).bind (anc S j)
 |0,j,y=>by rw [Nat.zero_add];rfl
 |i+1,j,y=>by
  rw [show i+1+j=(i+j)+1 by omega]
  show (upS S y).bind (anc S (i+j))=((upS S y).bind (anc S i)).bind (anc S j)
  cases upS S y with
  |none=>rfl
  |some u=>exact qdt i j u
def WF (S:Ts):Prop:=(S.hl.map (·.n)).Nodup/\∀e∈S.hl,∃zs,LineOf S e.n zs
theorem up_of {S:Ts} {z:Str} {e:He} (h:S.at z=some e):upS S z=e.x.el:=by unfold upS;rw [h];rfl
theorem line_end {S:Ts} {z:Str} {zs:List Str} (h:LineOf S z zs):anc S zs.length z=none:=by
 induction h with
 |top h n=>show (upS S _).bind _=none;rw [up_of h,n];rfl
 |up h n r ih=>show (upS S _).bind _=none;rw [up_of h,n];exact ih
theorem no_cycle {S:Ts} (w:WF S) {k:Nat} {z:Str}:anc S (k+1) z≠some z:=by
 intro c
 cases hz:S.at z with
 |none=>
  have:anc S (k+1) z=none:=by show (upS S z).bind _=none;unfold upS;rw [hz];rfl
  rw [this] at c;cases c
 |some e=>
  obtain⟨zs,hl⟩:=w.2 e (qck hz).1
  rw [(qck hz).2] at hl
  have he:=line_end hl
  have rep:∀m,anc S (m*(k+1)) z=some z:=by
   intro m
   induction m with
   |zero=>rw [Nat.zero_mul];rfl
   |succ m ih=>rw [Nat.succ_mul,qdt,ih];exact c
  have h1:=rep zs.length
  have h2:zs.length*(k+1)=zs.length+zs.length*k:=by rw [Nat.mul_add,Nat.mul_one];omega
  rw [h2,qdt,he] at h1
  cases h1
theorem kid_up {S:Ts} (w:WF S) {y z:Str} (h:y∈qbd S z):upS S y=some z:=by
 obtain⟨e,he,rfl⟩:=zK.mp h
 obtain⟨hm,hd⟩:=yH.mp he
 unfold upS
 rw [at_of w.1 hm]
 exact of_decide_eq_true hd
theorem kids_nodup {S:Ts} (w:WF S) (z:Str):(qbd S z).Nodup:=by
 unfold qbd
 exact List.Nodup.sublist (List.Sublist.map _ List.filter_sublist) w.1
theorem ben_anc {S:Ts} (w:WF S):∀{n:Nat} {z:Str} {zs:List Str},BenP S n z zs->∀y∈zs,∃k,anc S k y=some z
 |0,z,_,⟨parts,rest,hp,rfl,hb⟩,y,hy=>by
  rcases zM.mp hy with rfl|hy
  .exact⟨0,rfl⟩
  .obtain⟨l,hl,_⟩:=yN.mp hy
   obtain⟨p,hpp,_⟩:=zK.mp hl
   exact(hb p hpp).elim
 |n+1,z,_,⟨parts,rest,hp,rfl,hb⟩,y,hy=>by
  rcases zM.mp hy with rfl|hy
  .exact⟨0,rfl⟩
  .obtain⟨l,hl,hyl⟩:=yN.mp hy
   obtain⟨p,hpp,rfl⟩:=zK.mp hl
   obtain⟨k,hk⟩:=ben_anc w (hb p hpp) y hyl
   have hu:=kid_up w (hp.mem_iff.mp (yG _ (zK.mpr ⟨p,hpp,rfl⟩)))
   exact⟨k+1,by rw [qdt,hk];show (upS S p.1).bind _=_;rw [hu];rfl⟩
theorem apart {S:Ts} (w:WF S) {p q z y:Str} {i j:Nat} (hp:upS S p=some z) (hq:upS S q=some z) (ne:p≠q) (hi:anc S i y=some p) (hj:anc S j y=some q) (le:i<=j):False:=by
 obtain⟨c,rfl⟩:=Nat.exists_eq_add_of_le le
 rw [qdt,hi] at hj
 have hj':anc S c p=some q:=hj
 cases c with
 |zero=>exact ne (uW hj')
 |succ c=>
  have h1:(upS S p).bind (anc S c)=some q:=hj'
  rw [hp] at h1
  have h2:anc S c z=some q:=h1
  refine no_cycle w (k:=c) (z:=z) ?_
  rw [qdt,h2]
  show (upS S q).bind _=_
  rw [hq];rfl
theorem qey {S:Ts} (w:WF S) {z:Str}:∀{parts:List (Str × List Str)},(parts.map (·.1)).Nodup->(∀p∈parts,upS S p.1=some z)->(∀p∈parts,p.2.Nodup/\∀y∈p.2,∃k,anc S k y=some p.1)->(flat parts).Nodup
 | [],_,_,_=>yM
 |p :: r,nd,hu,hb=>by
  rw [zV,zX] at nd
  have ih:=qey w (z:=z) nd.2 (fun q hq=>hu q (zH _ hq)) fun q hq=>hb q (zH _ hq)
  show (p.2++flat r).Nodup
  rw [yI]
  refine⟨(hb p (zN ..)).1,ih,fun a ha b hbm e=>?_⟩
  subst e
  obtain⟨l,hl,hal⟩:=yN.mp hbm
  obtain⟨q,hq,rfl⟩:=zK.mp hl
  obtain⟨i,hi⟩:=(hb p (zN ..)).2 a ha
  obtain⟨j,hj⟩:=(hb q (zH _ hq)).2 a hal
  have ne:p.1≠q.1:=fun z=>nd.1 (by rw [z];exact zK.mpr ⟨q,hq,rfl⟩)
  have up:=hu p (zN ..)
  have uq:=hu q (zH _ hq)
  rcases Nat.le_total i j with h|h
  .exact apart w up uq ne hi hj h
  .exact apart w uq up ne.symm hj hi h
theorem qcv {S:Ts} (w:WF S):∀{n:Nat} {z:Str} {zs:List Str},BenP S n z zs->zs.Nodup/\∀y∈zs,y=z\/y∈S.hl.map (·.n)
 |0,z,_,⟨parts,rest,hp,rfl,hb⟩=>by
  have:parts=[]:=by
   cases parts with
   |nil=>rfl
   |cons p r=>exact(hb p (zN ..)).elim
  subst this
  exact⟨by simp [flat],fun y hy=> .inl (by simpa [flat] using hy)⟩
 |n+1,z,_,⟨parts,rest,hp,rfl,hb⟩=>by
  have kd:=kids_nodup w z
  have hk:∀p∈parts,p.1∈qbd S z:=fun p h=>hp.mem_iff.mp (yG _ (zK.mpr ⟨p,h,rfl⟩))
  have hu:∀p∈parts,upS S p.1=some z:=fun p h=>kid_up w (hk p h)
  have hn:(parts.map (·.1)).Nodup:=(yI.mp (hp.nodup_iff.mpr kd)).1
  have fl:=qey w (z:=z) hn hu fun p h=>⟨(qcv w (hb p h)).1,ben_anc w (hb p h)⟩
  refine⟨zX.mpr ⟨fun hm=>?_,fl⟩,fun y hy=>?_⟩
  .obtain⟨l,hl,hal⟩:=yN.mp hm
   obtain⟨q,hq,rfl⟩:=zK.mp hl
   obtain⟨k,hk'⟩:=ben_anc w (hb q hq) z hal
   refine no_cycle w (k:=k) (z:=z) ?_
   rw [qdt,hk']
   show (upS S q.1).bind _=_
   rw [hu q hq];rfl
  .rcases zM.mp hy with rfl|hy
   .exact .inl rfl
   .obtain⟨l,hl,hal⟩:=yN.mp hy
    obtain⟨q,hq,rfl⟩:=zK.mp hl
    have hq1:q.1∈S.hl.map (·.n):=by
     obtain⟨e,he,e1⟩:=zK.mp (hk q hq)
     rw [<-e1];exact zK.mpr ⟨e,(yH.mp he).1,rfl⟩
    rcases(qcv w (hb q hq)).2 y hal with rfl|h
    .exact .inr hq1
    .exact .inr h
theorem qfp {S:Ts} (w:WF S) (hz:S.hl.length<=60):Slim S:=fun n z zs h=>by
 obtain⟨nd,hm⟩:=qcv w h
 have:=nd_le (m:=z :: S.hl.map (·.n)) nd fun y hy=>by
  rcases hm y hy with rfl|h
  .exact zN ..
  .exact zH _ h
 rw [zL,zB] at this
 omega
def ptOf (S:Ts) (y:Str):Pt:=match S.at y with
 |some e=>⟨e.x.pa,e.x.kp,e.x.fp⟩
 |none=>⟨0, [],noF⟩
theorem qft {S:Ts} {y:Str} {e:He} (h:S.at y=some e):ptOf S y=⟨e.x.pa,e.x.kp,e.x.fp⟩:=by unfold ptOf;rw [h]
def qga (S:Ts):Prop:=S.ws.length<=100/\∀e∈S.hl,∀z,e.x.fp z≠none->z∈S.ws
def w43 (K:uR) (d:Ad):Sp:=fun vs H Q E=>∃(t:Addr) (S:Ts) (x:V),vs=[.ref t,x]/\qf8 d H t S/\WF S/\qga S/\qe2 K H x/\
 (∀e,who S x=some e->Dep S 12 e.n/\∀l zs k' H',qar H H'->H l=none->H' l=some (.dK k')->Ben S 12 e.n zs->AD k' (sumF (zs.map (ptOf S)))->Q (.ref l) H')/\(who S x=none->∀l,H l=none->E (.ref d.w0c) none (upd H l (.lst [x])))
include T in
theorem w40:FnOk P w K mg base (My.CX1 P w) 17 d.w0t d.w0k ["self","name"] (w43 K d):=by
 refine okX T.w4c w45 (fun vs H Q E h=>?_) (fun cdv A outer s H vs Q E hr h=>?_)
 .obtain⟨t,S,x,rfl,_⟩:=h;rfl
 obtain⟨t,S,x,rfl,hT,hW,hO,hx,q1,q2⟩:=h
 refine⟨_,(qa5 (qaj (qa9 ((w8h T).mono (by decide)) hr rfl T.w9l T.w75.kp T.w9p .nil qah (qa0 (qbm (caps:=[0]) (cn:=["self"]) (qb2 rfl rfl (by rfl) (by rfl) rfl ⟨rfl,trivial⟩ (by rfl) rfl ⟨⟨rfl,rfl,rfl,rfl,_,rfl⟩,trivial⟩ (by decide)) rfl (qau (qb6 (pv 0) T.w01 T.w08 ((w33 T).mono (by decide)) hr T.w2a .nil qaz (qa0 (pv 1) qa2))) (fun _ _ _ _=>qdk) (fun _ _ _ _=>(qb4 (qbz (qcg hr) (qb4 (pv 1) rfl) (pv 0) (fun _ _=>rfl)) rfl))) qa2)))),?_⟩
 walk_at "d"
 dsimp only [cxC]
 refine qag (σ:=[some (.ref t),some (x)]) rfl ?_
 have ct:=T.w01
 have ch:=T.w1k
 have nh:qax K d.w00 "houses":=T.w02
 have nf:qax K d.w03 "promise":=T.w07
 obtain⟨dx,ht⟩:=hT.1
 have nd:=hT.2.2.2.1
 left
 refine⟨t,S,x,rfl,hT,qfp hW hT.2.2.2.2.1,hx,fun e he=>⟨(q1 e he).1,?_⟩,q2⟩
 obtain⟨hD,q⟩:=q1 e he
 intro lb zs H1 s1 hlb eb hB
 left
 have hT1:=hT.same s1
 obtain⟨⟨_,ht1⟩,hw,hh,_,hz,hE⟩:=hT1
 have hbn:=qcv hW (Ben.part hB)
 have hzs:=qfp hW hz 12 _ _ (Ben.part hB)
 have hin:∀y∈zs,∃ey,S.at y=some ey/\ey∈S.hl:=fun y hy=>by
  have hy':y∈S.hl.map (·.n):=by
   rcases hbn.2 y hy with rfl|h
   .obtain⟨z,rfl⟩:∃z,x=.str z:=by
     rcases hx with h|⟨_,nz⟩
     .exact h
     .rw [qd3 nz] at he;cases he
    exact zK.mpr ⟨e,(qck he).1,rfl⟩
   .exact h
  obtain⟨ey,hm,rfl⟩:=zK.mp hy'
  exact⟨ey,at_of nd hm,hm⟩
 intro C s0 H0 fp na hna
 refine qek zs.length (fun i H'=>H'=upd H1 na (.lst (((zs.take i).map (ptOf S)).map fun u=> .ref u.a))) rfl ?_ ?_ ?_ ?_
 .rintro i H' hi rfl
  exact⟨_,.str zs[i],SqL.of (qad eb hna),by rw [zC,zA hi];rfl⟩
 .rintro H' rfl
  exact⟨_,SqL.of (qad eb hna),by rw [zB];exact uF _⟩
 .rintro i H' v H'' hi rfl ⟨rfl,hy⟩
  have hv:=hy _ (SqL.of (qad eb hna))
  rw [zC,zA hi] at hv
  cases hv
  obtain⟨ey,h1,hm⟩:=hin _ (zJ hi)
  obtain⟨⟨dy,hya⟩,_⟩:=hE ey hm
  left
  refine r_dgO (h:=ey.a) (rd_new (.inl hh) hna) (by rw [qdp,h1];rfl) ?_
  left
  rw [qbi,zO,zA hi]
  congr 2
  simp only [Option.toList_some,zE,zV,fT,qft h1]
 rintro H' rfl
 rw [zS]
 have s2:=qa7 hna (.lst ((zs.map (ptOf S)).map fun u=>V.ref u.a))
 have eN:upd H1 na (.lst ((zs.map (ptOf S)).map fun u=>V.ref u.a)) na=some (.lst ((zs.map (ptOf S)).map fun u=>V.ref u.a)):=qa1
 left
 refine⟨na,zs.map (ptOf S),S.ws,rfl,SqL.of eN,hO.1,fun u hu=>?_,fun l k' H2 s3 hl el hA=>q l zs k' H2 ((s1.trans s2).trans s3) ((s1.trans s2).free hl) el hB hA⟩
 obtain⟨y,hy,rfl⟩:=zK.mp hu
 obtain⟨ey,h1,hm⟩:=hin y hy
 obtain⟨_,hp,hA,_⟩:=hE ey hm
 rw [qft h1]
 exact⟨s2 _ _ hp,hA,hO.2 ey hm⟩
include T in
theorem w99:FnOk P w K mg base CX0 1 d.w49 d.w3y ["self","house","ware"] (fun _ _ _ _=>False):=wec
def w6s (K:uR) (d:Ad):Sp:=fun vs H Q _=>∃(x:V) (a b:Addr) (ka kb:List (Key × V)) (f g:Str->Option Int),vs=[x,.ref a,.ref b]/\Rd H a (.dK ka)/\Rd H b (.dK kb)/\AD ka f/\AD kb g/\ka.length < 64/\(∀z n,f z=some n->n<=gN g z)/\∀H',qar H H'->Q .non H'
include T in
theorem w24:FnOk P w K mg base (My.CX1 P w) 3 d.w2m d.w28 ["name","promises","cap"] (w6s K d):=by
 refine okX T.w1l w42 (fun vs H Q E h=>?_) (fun cdv A outer s H vs Q E hr h=>?_)
 .obtain⟨x,a,b,ka,kb,f,g,rfl,_⟩:=h;rfl
 obtain⟨x,a,b,ka,kb,f,g,rfl,ha,hb,hf,hg,hz,hw,q⟩:=h
 refine⟨_,(qa3 (qaf (i:=3) w42.nd rfl (uI rfl) (qa9 ((wey T).mono (by decide)) hr rfl T.wf6 T.wd5.kp T.wfm .nil qah (qa0 (pv 1) (qa0 (pv 2) qa2))))
  (qa5 (qbg (qan qfw (pv 3) qcp (qat _)) (qa5 (ps_raiseI rfl T.wbp ((w99 T).mono (by decide)) hr T.w9u rfl T.wcq qaz (qa0 (pv 0) (qa0 (pv 3) qa2)))) qas))),?_⟩
 walk_at "d"
 refine qag (σ:=[some (x),some (.ref a),some (.ref b),none]) rfl ?_
 left
 refine⟨a,b,ka,kb,f,g,rfl,ha,hb,hf,hg,hz,fun H' sm _=>?_,fun z H' sm hv _=>?_⟩
 .left
  exact q _ sm
 .obtain⟨h1,h2⟩:=hv
  cases e:f z with
  |none=>exact absurd e h1
  |some n=>
   have h3:=hw z n e
   have h4:gN f z=n:=by unfold gN;rw [e];rfl
   omega
def w6i (K:uR) (d:Ad):Sp:=fun vs H Q _=>∃(t lb m:Addr) (S:Ts) (zs:List Str) (km:List (Key × V)) (fm:Str->Option Int),vs=[.ref t,.ref lb,.ref m]/\qf8 d H t S/\WF S/\qga S/\SqL K H lb (zs.map V.str)/\H m=some (.dK km)/\AD km fm/\S.ws.length<=50/\(∀z,fm z≠none->z∈S.ws)/\
 (∀y∈zs,∃e,S.at y=some e/\Dep S 12 y/\∀bs,Ben S 12 y bs->∀z n,addF (sumF (bs.map (ptOf S))) fm z=some n->n<=gN e.x.fc z)/\∀H',qar H H'->Q .non H'
include T in
theorem w6k:FnOk P w K mg base (My.CX1 P w) 18 d.w22 d.w1u ["self","names","more"] (w6i K d):=by
 refine okX T.w71 w3m (fun vs H Q E h=>?_) (fun cdv A outer s H vs Q E hr h=>?_)
 .obtain⟨t,lb,m,S,zs,km,fm,rfl,_⟩:=h;rfl
 obtain⟨t,lb,m,S,zs,km,fm,rfl,hT,hW,hO,hL,hm,hA,hws,hfm,hy,q⟩:=h
 refine⟨_,(qa5 (qb8 (qex rfl rfl) rfl (qau (pv 1)) (qab (i:=3) w3m.nd rfl (uI rfl)) (qa5 (qb3 (qbp ((w24 T).mono (by decide)) hr rfl T.w2k T.w1l.kp T.w2o .nil qaz (qa0 (pv 3) (qa0 (qa9 ((wd1 T).mono (by decide)) hr rfl T.we4 T.wcg.kp T.wek .nil qah (qa0 (qb6 (pv 0) T.w01 T.w05 ((w40 T).mono (by decide)) hr T.w4g .nil qaz (qa0 (pv 3) qa2)) (qa0 (pv 2) qa2))) (qa0 (qb4 (qbz (qcg hr) (qb4 (pv 0) rfl) (pv 3) (fun _ _=>rfl)) rfl) qa2)))))))),?_⟩
 walk_at "d"
 refine qag (σ:=[some (.ref t),some (.ref lb),some (.ref m),none]) rfl ?_
 have ct:=T.w01
 have ch:=T.w1k
 have nh:qax K d.w00 "houses":=T.w02
 have nf:qax K d.w03 "cap":=T.w0i
 left
 refine qct (xs:=zs.map V.str) (fun i σ H'=>qar H H'/\∃w,σ=[some (.ref t),some (.ref lb),some (.ref m),w]) ⟨qar.refl _,_,rfl⟩ ?_ ?_ ?_
 .rintro i σ H' _ ⟨sm,_⟩;exact sm.seq hL
 .rintro i v σ H' hv ⟨sm,w,rfl⟩
  rw [zC] at hv
  obtain⟨y,hyi,rfl⟩:=uU.mp hv
  obtain⟨e,h1,hD,hb⟩:=hy y (zD hyi)
  obtain⟨dx,ht⟩:=(hT.same sm).1
  left
  have sup:∀bs:List Str,(∀b∈bs,∃eb,S.at b=some eb/\eb∈S.hl)->∀z,sumF (bs.map (ptOf S)) z≠none->z∈S.ws:=fun bs hbs=>by
   refine sum_sup (fun u hu z hz=>?_) noF (fun z hz=>absurd rfl hz)
   obtain⟨b,hb1,rfl⟩:=zK.mp hu
   obtain⟨eb,h3,h4⟩:=hbs b hb1
   rw [qft h3] at hz
   exact hO.2 eb h4 z hz
  refine⟨t,S,.str y,rfl,hT.same sm,hW,hO,.inl ⟨y,rfl⟩,fun e' he'=>?_,fun hn=>?_⟩
  .have ee:e=e':=uW (h1.symm.trans he')
   subst ee
   have hme:=qck h1
   rw [hme.2]
   refine⟨hD,fun l bs k' H2 s2 hl el hB hA2=>?_⟩
   have hbs:∀b∈bs,∃eb,S.at b=some eb/\eb∈S.hl:=fun b hb1=>by
    have hb2:b∈S.hl.map (·.n):=by
     rcases(qcv hW (Ben.part hB)).2 b hb1 with rfl|h
     .exact zK.mpr ⟨e,hme.1,hme.2⟩
     .exact h
    obtain⟨eb,h3,rfl⟩:=zK.mp hb2
    exact⟨eb,at_of hW.1 h3,h3⟩
   have l1:=hA2.le (sup bs hbs)
   have l2:=hA.le hfm
   left
   refine⟨l,m,k',km,_,fm,rfl,.inl el,(sm.trans s2) _ _ hm,hA2,hA,by omega,by omega,fun lx kx H3 s3 hlx elx hA3=>?_⟩
   have sx:=(sm.trans s2).trans s3
   obtain⟨⟨dx3,ht3⟩,_,hh3,_,_,hE3⟩:=hT.same sx
   obtain⟨⟨dh,ho⟩,_,_,hc,hcA⟩:=hE3 e hme.1
   left
   refine r_dgO (h:=e.a) (.inl hh3) (by rw [qdp,h1];rfl) ?_
   left
   refine⟨.str y,lx,e.x.ca,kx,e.x.kc,_,e.x.fc,rfl,.inl elx,.inl hc,hA3,hcA,?_,hb bs hB,fun H4 s4=>⟨sx.trans s4,_,rfl⟩⟩
   have l3:=hA3.le (ws:=S.ws) (addF_sup (sup bs hbs) hfm)
   omega
  .rw [show who S (.str y)=some e from h1] at hn;cases hn
 .rintro σ H' ⟨sm,w,rfl⟩
  left
  exact q _ sm
def wc5 (K:uR) (d:Ad):Sp:=fun vs H Q _=>∃i:Int,vs=[.int i]/\Q (.bl true) H
def w7m (K:uR) (d:Ad):Sp:=fun vs H Q _=>∃i a b:Int,vs=[.int i,.int a,.int b]/\a<=i/\i<=b/\Q (.bl true) H
def wb3 (K:uR) (d:Ad):Sp:=fun vs H Q _=>∃i:Int,vs=[.int i]/\0<=i/\i<=10^30/\Q (.bl true) H
include T in
theorem wbx:FnOk P w K mg base CX0 1 d.w73 d.w5y ["thing"] (wc5 K d):=by
 refine T.w9j.ok wcc (fun vs H Q E h=>?_) (fun cdv A outer s H vs Q E hr h=>?_)
 .obtain⟨i,rfl,_⟩:=h;rfl
 obtain⟨i,rfl,q⟩:=h
 refine⟨_,(qa5 (qaj (qfh (qai qc6 rfl T.w0r vV (qa0 (pv 0) (qa0 (qd7 (v:=.ty "int") rfl T.wef yZ rfl) qa2))) (qec (pe_not (qai qc6 rfl T.w0r vV (qa0 (pv 0) (qa0 (qd7 (v:=.ty "bool") rfl T.wg1 PyProof.Rows.boot_bool rfl) qa2)))))))),?_⟩
 walk_at "d"
 refine qag (σ:=[some (.int i)]) rfl ?_
 left
 exact q
include T in
theorem w4s:FnOk P w K mg base CX0 2 d.w35 d.w2p ["thing","least","most"] (w7m K d):=by
 refine T.w3b.ok w7o (fun vs H Q E h=>?_) (fun cdv A outer s H vs Q E hr h=>?_)
 .obtain⟨i,a,b,rfl,_⟩:=h;rfl
 obtain⟨i,a,b,rfl,h1,h2,q⟩:=h
 refine⟨_,(qa5 (qaj (qfh (qa9 ((wbx T).mono (by decide)) hr rfl T.wdh T.w9j.kp T.wdt .nil qah (qa0 (pv 0) qa2)) (qec (pe_chain op_le op_le (pv 1) (pv 0) (pv 2)))))),?_⟩
 walk_at "d"
 refine qag (σ:=[some (.int i),some (.int a),some (.int b)]) rfl ?_
 left
 refine⟨i,rfl,?_⟩
 left
 rw [gM h2]
 exact q
include T in
theorem wbm:FnOk P w K mg base CX0 3 d.w67 d.w4z ["thing"] (wb3 K d):=by
 refine T.w89.ok wb6 (fun vs H Q E h=>?_) (fun cdv A outer s H vs Q E hr h=>?_)
 .obtain⟨i,rfl,_⟩:=h;rfl
 obtain⟨i,rfl,h1,h2,q⟩:=h
 refine⟨_,(qa5 (qaj (qa9 ((w4s T).mono (by decide)) hr rfl T.w5h T.w3b.kp T.w5b .nil qah (qa0 (pv 0) (qa0 qa4 (qa0 (qam op_pow qa4 qa4) qa2)))))),?_⟩
 walk_at "d"
 refine qag (σ:=[some (.int i)]) rfl ?_
 left
 refine⟨i,0,_,rfl,h1,?_,?_⟩
 .exact h2
 left
 exact q
theorem qg1 {z:Str} {ws:List Str} (h:z∈ws):inV (.str z) (ws.map V.str)=true:=by
 unfold inV
 rw [yO]
 exact⟨.str z,zK.mpr ⟨z,h,rfl⟩,by simp [eqV]⟩
theorem r_notInT {K:uR} {H:Hp} {Q:VK} {p:Addr} {z:Str} {ws:List Str} (hS:SqL K H p (ws.map V.str)) (h:z∈ws) (q:Q (.bl false) H):rIn K true (.str z) (.ref p) H Q:=by
 refine⟨p,_,rfl,.inl hS,rfl,?_,?_⟩
 .rw [yD]
  intro x hx
  obtain⟨y,_,rfl⟩:=zK.mp hx
  rfl
 .rw [qg1 h];exact q
def wa7 (K:uR) (d:Ad):Sp:=fun vs H Q _=>∃(a w:Addr) (k:List (Key × V)) (f:Str->Option Int) (ws:List Str),vs=[.ref a,.ref w]/\H a=some (.dK k)/\AD k f/\k.length<=1000/\H w=some (.lst (ws.map V.str))/\(∀z n,f z=some n->z∈ws/\0<=n/\n<=10^30)/\
 ∀l k' H',qar H H'->H l=none->H' l=some (.dK k')->AD k' (qcw f)->Q (.ref l) H'
include T in
theorem w6n:FnOk P w K mg base (My.CX1 P w) 4 d.w50 d.w4i ["handed","wares"] (wa7 K d):=by
 refine okX T.w54 w46 (fun vs H Q E h=>?_) (fun cdv A outer s H vs Q E hr h=>?_)
 .obtain⟨a,w,k,f,ws,rfl,_⟩:=h;rfl
 obtain⟨a,w,kvs,f,ws,rfl,ha,hA,hz,hw,hf,q⟩:=h
 refine⟨_,(qa3 (qbg (qcb (qbk (qai qc6 rfl T.w0r vV (qa0 (pv 0) (qa0 (qd7 (v:=.ty "dict") rfl T.w9h wV rfl) qa2))))) (qa5 (qc1 rfl T.w9o rfl T.w9f qaz (qa0 qco qa2))) qas)
  (qa3 (ps_thA (qb8 (qex rfl rfl) rfl (qew (pv 0)) (qab (i:=2) w46.nd rfl (uI rfl)) (qa5 (qbg (PW.pt (pw_or (qcb (qbk (qai qc6 rfl T.w0r vV (qa0 (pv 2) (qa0 (qd7 (v:=.ty "str") rfl T.wg7 dW rfl) qa2))))) (qer (qan qd8 (pv 2) (pv 1) (by rfl))))) (qa5 (qc1 rfl T.wd3 rfl T.wd9 qaz (qa0 qco qa2))) qas))))
  (qa3 (ps_thA (qb8 (qex rfl rfl) rfl (qew (pv 0)) (qab (i:=3) w46.nd rfl (uI rfl)) (qa5 (qbg (qcb (qbk (qa9 ((wbm T).mono (by decide)) hr rfl T.wbs T.w89.kp T.wci .nil qah (qa0 (qbz (qcg hr) (pv 0) (pv 3) (fun _ _=>rfl)) qa2)))) (qa5 (qc1 rfl T.w9o rfl T.w9f qaz (qa0 qco qa2))) qas))))
  (qa5 (qaj (qa9 ((w8g T).mono (by decide)) hr rfl T.w90 T.w5s.kp T.w98 .nil qah (qa0 (pv 0) qa2))))))),?_⟩
 walk_at "d"
 refine qag (σ:=[some (.ref a),some (.ref w),none,none]) rfl ?_
 left
 refine r_itD ha fun o=>?_
 have hwa:w≠a:=ne_of hw ha (by intro z;cases z)
 refine f_dict (fun i σ H'=>H'=upd H a (.frz o (.dK kvs))/\∃w2 w3,σ=[some (.ref a),some (.ref w),w2,w3]) ⟨rfl,_,_,rfl⟩ ?_ ?_ ?_
 .rintro i σ H' _ ⟨rfl,_⟩;exact qa1
 .rintro i k v σ H' hk ⟨rfl,w2,w3,rfl⟩
  obtain⟨z,n,rfl,rfl,hfz,hzi⟩:=hA.at hk
  have hw':upd H a (.frz o (.dK kvs)) w=some (.lst (ws.map V.str)):=by rw [qa6 hwa];exact hw
  show gName _ (.str z) _ _ _
  left
  refine r_notInT (SqL.of hw') (hf z n hfz).1 ?_
  left
  exact⟨rfl,_,_,rfl⟩
 .rintro σ H' ⟨rfl,w2,w3,rfl⟩
  refine r_thNx (thaw1 qa1 (qdx ha)) ?_
  have s2:=qd4 ha (sb_frz (o:=o) ha)
  have ha2:upd (upd H a (.frz o (.dK kvs))) a (.dK kvs) a=some (.dK kvs):=qa1
  generalize upd (upd H a (.frz o (.dK kvs))) a (.dK kvs)=H2 at*
  left
  refine r_itD ha2 fun o2=>?_
  refine f_dict (fun i σ H'=>H'=upd H2 a (.frz o2 (.dK kvs))/\∃w3,σ=[some (.ref a),some (.ref w),w2,w3]) ⟨rfl,_,rfl⟩ ?_ ?_ ?_
  .rintro i σ H' _ ⟨rfl,_⟩;exact qa1
  .rintro i k v σ H' hk ⟨rfl,w3,rfl⟩
   obtain⟨z,n,rfl,rfl,hfz,hzi⟩:=hA.at hk
   have hRd:Rd (upd H2 a (.frz o2 (.dK kvs))) a (.dK kvs):=.inr ⟨o2,qa1⟩
   show gName _ (.str z) _ _ _
   left
   refine⟨n,rfl,(hf z n hfz).2.1,(hf z n hfz).2.2,?_⟩
   left
   exact⟨rfl,_,rfl⟩
  .rintro σ H' ⟨rfl,w3,rfl⟩
   refine r_thNx (thaw1 qa1 ?_) ?_
   .exact qdx ha
   have s3:=qd4 ha2 (sb_frz (o:=o2) ha2)
   have ha3:upd (upd H2 a (.frz o2 (.dK kvs))) a (.dK kvs) a=some (.dK kvs):=qa1
   generalize upd (upd H2 a (.frz o2 (.dK kvs))) a (.dK kvs)=H3 at*
   left
   refine⟨a,kvs,f,rfl,ha3,hA,hz,fun l k' H4 s4 hl el hA4=>?_⟩
   left
   exact q l k' H4 ((s2.trans s3).trans s4) ((s2.trans s3).free hl) el hA4
def wa2 (K:uR) (d:Ad):Sp:=fun vs H Q _=>∃(x dx:Addr) (o:Ho),vs=[.ref x,eV o.el,.ref o.pa,.ref o.ca,.int o.w]/\H x=some (.ins d.w03 dx [])/\∀H',H' x=some (.ins d.w03 dx (fsH o))->SameBut x H H'->Q .non H'
include T in
theorem wab:FnOk P w K mg base CX0 1 d.w51 d.w4a ["self","elder","promise","cap","weight"] (wa2 K d):=by
 refine T.wbg.ok waf (fun vs H Q E h=>?_) (fun cdv A outer s H vs Q E hr h=>?_)
 .obtain⟨x,dx,o,rfl,_⟩:=h;rfl
 obtain⟨x,dx,o,rfl,hx,q⟩:=h
 refine⟨_,(qa3 (qd5 (pv 0) (pv 1) rfl)
  (qa3 (qd5 (pv 0) (pv 2) rfl)
  (qa3 (qd5 (pv 0) (pv 3) rfl)
  (qa5 (qd5 (pv 0) (pv 4) rfl))))),?_⟩
 walk_at "d"
 refine qag (σ:=[some (.ref x),some (eV o.el),some (.ref o.pa),some (.ref o.ca),some (.int o.w)]) rfl ?_
 have cl:=T.w1k
 have n1:qax K d.w03 "elder":=T.w0j
 have n2:qax K d.w03 "promise":=T.w07
 have n3:qax K d.w03 "cap":=T.w0i
 have n4:qax K d.w03 "weight":=T.w19
 left
 refine qfs qa1 cl n2 (by show 1 < 1000;decide) ?_
 left
 refine qfs qa1 cl n3 (by show 2 < 1000;decide) ?_
 left
 refine qfs qa1 cl n4 (by show 3 < 1000;decide) ?_
 left
 refine q _ (by rw [qa1];rfl) fun b u hb e=>?_
 rw [qa6 hb,qa6 hb,qa6 hb,qa6 hb]
 exact e
def wak (K:uR) (d:Ad):Sp:=fun vs H Q _=>∃(w a b:Addr) (el:Option Str) (ws:List Str) (ka kb:List (Key × V)) (f g:Str->Option Int) (wt:Int),vs=[.ref w,eV el,.ref a,.ref b,.int wt]/\H w=some (.lst (ws.map V.str))/\
 H a=some (.dK ka)/\AD ka f/\ka.length<=1000/\H b=some (.dK kb)/\AD kb g/\kb.length<=1000/\(∀z n,f z=some n->z∈ws/\0<=n/\n<=10^30)/\(∀z n,g z=some n->z∈ws/\0<=n/\n<=10^30)/\1<=wt/\wt<=1000/\
 ∀h o H',qar H H'->H h=none->H o.pa=none->H o.ca=none->HoAt d H' h o->o.el=el->o.w=wt->(∀z,o.fp z=qcw f z)->(∀z,o.fc z=qcw g z)->Q (.ref h) H'
include T in
theorem w6f:FnOk P w K mg base (My.CX1 P w) 5 d.w5e d.w4m ["wares","elder","promise","cap","weight"] (wak K d):=by
 refine okX T.w5m w4e (fun vs H Q E h=>?_) (fun cdv A outer s H vs Q E hr h=>?_)
 .obtain⟨w,a,b,el,ws,ka,kb,f,g,wt,rfl,_⟩:=h;rfl
 obtain⟨w,a,b,el,ws,ka,kb,f,g,wt,rfl,hw,ha,hA,hz,hb,hB,hz2,hf,hg,w0,w1,q⟩:=h
 refine⟨_,(qa3 (qaf (i:=5) w4e.nd rfl (uI rfl) (qbp ((w6n T).mono (by decide)) hr rfl T.w7k T.w54.kp T.w7c .nil qaz (qa0 (pv 2) (qa0 (pv 0) qa2))))
  (qa3 (qaf (i:=6) w4e.nd rfl (uI rfl) (qbp ((w6n T).mono (by decide)) hr rfl T.w7k T.w54.kp T.w7c .nil qaz (qa0 (pv 3) (qa0 (pv 0) qa2))))
  (qa3 (qbg (qcb (qbk (qa9 ((w4s T).mono (by decide)) hr rfl T.w5h T.w3b.kp T.w5b .nil qah (qa0 (pv 4) (qa0 qa4 (qa0 (qe7 rfl T.w6v T.w0m) qa2)))))) (qa5 (qc1 rfl T.wdm rfl T.wdk qaz (qa0 qco qa2))) qas)
  (qa5 (qaj (pe_make T.w6q ((wab T).mono (by decide)) hr rfl T.wh0 T.wbq .nil qah (qa0 (pv 1) (qa0 (pv 5) (qa0 (pv 6) (qa0 (pv 4) qa2)))))))))),?_⟩
 walk_at "d"
 refine qag (σ:=[some (.ref w),some (eV el),some (.ref a),some (.ref b),some (.int wt),none,none]) rfl ?_
 left
 refine⟨a,w,ka,f,ws,rfl,ha,hA,hz,hw,hf,fun lp kp H1 s1 hlp ep hAp=>?_⟩
 left
 refine⟨b,w,kb,g,ws,rfl,s1 _ _ hb,hB,hz2,s1 _ _ hw,hg,fun lc kc H2 s2 hlc ec hAc=>?_⟩
 left
 refine⟨wt,1,1000,rfl,w0,w1,?_⟩
 left
 intro x dx hx hdx ne
 have ep2:=s2 _ _ ep
 refine⟨x,dx,⟨el,lp,kp,qcw f,lc,kc,qcw g,wt⟩,rfl,qa1,fun H3 ex sb=>⟨rfl,?_⟩⟩
 have s3:qar H2 H3:=fun c o hc=>sb c o (qa8 hc hx) (by rw [qa6 (qa8 hc hx),qa6 (qa8 hc hdx)];exact hc)
 left
 exact q x ⟨el,lp,kp,qcw f,lc,kc,qcw g,wt⟩ H3 ((s1.trans s2).trans s3) ((s1.trans s2).free hx) hlp (s1.free hlc) ⟨⟨dx,ex⟩,s3 _ _ ep2,hAp,s3 _ _ ec,hAc⟩ rfl rfl (fun _=>rfl) fun _=>rfl
theorem qaq {H H':Hp} {a:Addr} {o:HO} (s:qar H H') (n:H a=none):qar H (upd H' a o):=fun b u e=>by rw [qa6 (qa8 e n)];exact s b u e
def isL (c:Nat):Bool:=decide (97<=c) && decide (c<=122)
theorem inL:∀c:Nat,c < 128->(!(aT (wH "abcdefghijklmnopqrstuvwxyz") ⟨#[c]⟩ 0 (wH "abcdefghijklmnopqrstuvwxyz").length 1).isEmpty)=isL c:=by decide+kernel
def qe8 (x:Str):List Nat:=x.cps.toList
def qdr (x:Str):Bool:=decide (1<=x.length) && decide (x.length<=8) && (qe8 x).all isL
theorem len_codes (x:Str):(qe8 x).length=x.length:=by simp [qe8,Str.length]
theorem goodS_of {z:Str} (h:qdr z=true):1<=z.length/\z.length<=8/\∀c∈qe8 z,isL c=true:=by
 unfold qdr at h
 rw [vU,vU,yD] at h
 exact⟨of_decide_eq_true h.1.1,of_decide_eq_true h.1.2,h.2⟩
theorem isL_lt {c:Nat} (h:isL c=true):c < 128:=by
 unfold isL at h
 rw [vU] at h
 have:=of_decide_eq_true h.2
 omega
def wdv (K:uR) (d:Ad):Sp:=fun vs H Q _=>∃z,vs=[.str z]/\qdr z=true/\∀H',qar H H'->Q (.bl true) H'
include T in
theorem w9q:FnOk P w K mg base CX0 1 d.w7w d.w70 ["thing"] (wdv K d):=by
 refine T.w8j.ok wdr (fun vs H Q E h=>?_) (fun cdv A outer s H vs Q E hr h=>?_)
 .obtain⟨z,rfl,_⟩:=h;rfl
 obtain⟨z,rfl,hg,q⟩:=h
 obtain⟨h1,h8,hL⟩:=goodS_of hg
 have lz:=len_codes z
 refine⟨_,(qa3 (qbg (qcb (qbk (qai qc6 rfl T.w0r vV (qa0 (pv 0) (qa0 (qd7 (v:=.ty "str") rfl T.wg7 dW rfl) qa2))))) (qa5 (qaj qfc)) qas)
  (qa3 (qbg (PW.pt (pw_or (qan op_lt (qai call_lenS rfl T.w2v vH (qa0 (pv 0) qa2)) qa4 (qat _)) (qer (qan qfd (qai call_lenS rfl T.w2v vH (qa0 (pv 0) qa2)) (qe7 rfl T.w97 T.w1f) (qat _))))) (qa5 (qaj qfc)) qas)
  (qa5 (qaj (qai (call_allB rfl) rfl T.wh4 PyProof.Rows.boot_all (qa0 (qbm (caps:=[]) (cn:=[]) (qb2 rfl rfl (by rfl) (by rfl) rfl trivial (by rfl) rfl trivial (by decide)) rfl (pi_str (pv 0)) (fun _ _ _ _=>qdk) (fun _ _ _ _=>(qbv op_inS (pv 0) (qe7 rfl T.wet T.w57) (by rfl)))) qa2)))))),?_⟩
 walk_at "d"
 try dsimp only [cxC]
 refine qag (σ:=[some (.str z)]) rfl ?_
 left
 intro C s0 H0 fp acc hacc
 refine qek z.length (fun i H'=>H'=upd H acc (.lst (((qe8 z).take i).map fun c=>V.bl (isL c)))) (by simp) (fun i H' hi _=>hi) (fun H' _=>rfl) ?_ ?_
 .rintro i H' v H'' hi rfl ⟨rfl,c,hc,rfl⟩
  have hc':(qe8 z)[i]?=some c:=by unfold qe8;rw [yY];exact hc
  have c128:=isL_lt (hL c (zD hc'))
  left
  rw [inL c c128,qbi]
  congr 2
  rw [zO,hc',zE]
  rfl
 .rintro H' rfl
  left
  have e1:((qe8 z).take z.length).map (fun c=>V.bl (isL c))=((qe8 z).map isL).map V.bl:=by
   rw [<-lz,zS,yV];rfl
  rw [e1]
  refine r_all (bs:=(qe8 z).map isL) (SqL.of qa1) ?_
  have e2:((qe8 z).map isL).all id=true:=by
   rw [dI,yD]
   exact hL
  rw [e2]
  left
  exact q _ (qa7 hacc _)
def wai (K:uR) (d:Ad):Sp:=fun vs H Q _=>∃z,vs=[.str z]/\qdr z=true/\∀H',qar H H'->Q .non H'
include T in
theorem w6p:FnOk P w K mg base (My.CX1 P w) 2 d.w53 d.w4l ["thing"] (wai K d):=by
 refine okX T.w4t wa5 (fun vs H Q E h=>?_) (fun cdv A outer s H vs Q E hr h=>?_)
 .obtain⟨z,rfl,_⟩:=h;rfl
 obtain⟨z,rfl,hg,q⟩:=h
 refine⟨_,(qa5 (qbg (qcb (qbk (qa9 ((w9q T).mono (by decide)) hr rfl T.waz T.w8j.kp T.wb1 .nil qah (qa0 (pv 0) qa2)))) (qa5 (qc1 rfl T.wf5 rfl T.wf7 qaz (qa0 qco qa2))) qas)),?_⟩
 walk_at "d"
 refine qag (σ:=[some (.str z)]) rfl ?_
 left
 refine⟨z,rfl,hg,fun H' sm=>?_⟩
 left
 exact q _ sm
structure GoodT (ws:List Str):Prop where
 lo:1<=ws.length
 hi:ws.length<=6
 ok:∀z∈ws,qdr z=true
 nd:ws.Nodup
def wax (K:uR) (d:Ad):Sp:=fun vs H Q _=>∃(a:Addr) (ws:List Str),vs=[.ref a]/\H a=some (.lst (ws.map V.str))/\GoodT ws/\∀H',qar H H'->Q (.bl true) H'
include T in
theorem wb4:FnOk P w K mg base CX0 2 d.w6e d.w5a ["thing"] (wax K d):=by
 refine T.w8s.ok wbk (fun vs H Q E h=>?_) (fun cdv A outer s H vs Q E hr h=>?_)
 .obtain⟨a,ws,rfl,_⟩:=h;rfl
 obtain⟨a,ws,rfl,ha,g,q⟩:=h
 have g1:=g.lo
 have g2:=g.hi
 have hl:(ws.map V.str).length=ws.length:=zB _
 refine⟨_,(qa3 (qbg (PW.pt (pw_or (qcb (qbk (qai qc6 rfl T.w0r vV (qa0 (pv 0) (qa0 (qd7 (v:=.ty "list") rfl T.wam xS rfl) qa2))))) (pw_or (qan op_lt (qai qaw rfl T.w2v vH (qa0 (pv 0) qa2)) qa4 (qat _)) (qer (qan qfd (qai qaw rfl T.w2v vH (qa0 (pv 0) qa2)) (qe7 rfl T.wau T.w2h) (qat _)))))) (qa5 (qaj qfc)) qas)
  (qa5 (qaj (qfh (qai (call_allB rfl) rfl T.wh4 PyProof.Rows.boot_all (qa0 (qbm (caps:=[]) (cn:=[]) (qb2 rfl rfl (by rfl) (by rfl) rfl trivial (by rfl) rfl trivial (by decide)) rfl (qau (pv 0)) (fun _ _ _ _=>qdk) (fun _ _ _ _=>(qa9 ((w9q T).mono (by decide)) hr rfl T.waz T.w8j.kp T.wb1 .nil qah (qa0 (pv 0) qa2)))) qa2)) (qec (qbv qdo (qai call_lenT rfl T.w2v vH (qa0 (qbe call_setT rfl T.whl PyProof.Rows.boot_set (qa0 (pv 0) qa2)) qa2)) (qai qaw rfl T.w2v vH (qa0 (pv 0) qa2)) (qat _))))))),?_⟩
 walk_at "d"
 try dsimp only [cxC]
 refine qag (σ:=[some (.ref a)]) rfl ?_
 left
 intro C s0 H0 fp acc hacc
 refine qek ws.length (fun i H'=>qar H H'/\H' acc=some (.lst ((bF i true).map V.bl))) ⟨qa7 hacc _,qa1⟩ ?_ ?_ ?_ ?_
 .rintro i H' hi ⟨sm,_⟩
  exact⟨_,.str ws[i],SqL.of (sm _ _ ha),by rw [zC,zA hi];rfl⟩
 .rintro H' ⟨sm,_⟩
  exact⟨_,SqL.of (sm _ _ ha),by rw [hl];exact uF _⟩
 .rintro i H' v H'' hi ⟨sm,ea⟩ ⟨rfl,hy⟩
  have hv:=hy _ (SqL.of (sm _ _ ha))
  rw [zC,zA hi] at hv
  cases hv
  left
  refine⟨ws[i],rfl,g.ok _ (zJ hi),fun H2 s2=>?_⟩
  refine⟨_,s2 _ _ ea,by rw [zB,List.length_replicate];show _ < 16777216;omega,qaq (sm.trans s2) hacc,?_⟩
  rw [qa1,List.replicate_succ',zE];rfl
 rintro H' ⟨sm,ea⟩
 left
 refine r_all (bs:=bF ws.length true) (SqL.of ea) ?_
 have e2:(bF ws.length true).all id=true:=by simp
 rw [e2]
 left
 refine r_setT (zs:=ws) (SqL.of (sm _ _ ha)) g.nd (by omega) fun c hc=>?_
 left
 refine r_lenT2 qa1 ?_
 left
 refine r_lenL (SqL.of (qad (sm _ _ ha) hc)) ?_
 left
 rw [hl,gM rfl]
 exact q _ (sm.trans (qa7 hc _))
def Fin (ws:List Str) (f:Str->Option Int):Prop:=∀z n,f z=some n->z∈ws/\0<=n/\n<=10^30
theorem posF_some {f:Str->Option Int} {y:Str} {n:Int} (h:qcw f y=some n):f y=some n/\0 < n:=by
 unfold qcw at h
 cases e:f y with
 |none=>rw [e] at h;cases h
 |some m=>
  rw [e] at h
  by_cases c:0 < m
  .have h':some m=some n:=by simpa [c] using h
   cases h'
   exact⟨rfl,c⟩
  .exact absurd h (by simp [c])
theorem qg3 {ws:List Str} {f:Str->Option Int} (hf:Fin ws f) (y:Str):gN (qcw f) y=gN f y:=by
 unfold gN qcw
 cases e:f y with
 |none=>rfl
 |some m=>
  have:=(hf y m e).2.1
  by_cases c:0 < m
  .simp [c]
  .have z:m=0:=by omega
   subst z
   rfl
theorem pos_le {ws:List Str} {f g:Str->Option Int} (hg:Fin ws g) (h:∀y,gN f y<=gN g y):∀z n,qcw f z=some n->n<=gN (qcw g) z:=fun z n e=>by
 have e1:=(posF_some e).1
 have:=h z
 rw [qg3 hg]
 unfold gN at this ⊢
 rw [e1] at this
 exact this
theorem pos_in {ws:List Str} {f:Str->Option Int} (hf:Fin ws f):∀z,qcw f z≠none->z∈ws:=fun z h=>by
 cases e:qcw f z with
 |none=>exact absurd e h
 |some n=>exact(hf z n (posF_some e).1).1
def wbf (K:uR) (d:Ad):Sp:=fun vs H Q _=>∃(x dx w a b:Addr) (z:Str) (ws:List Str) (ka kb:List (Key × V)) (f g:Str->Option Int) (wt:Int),vs=[.ref x,.ref w,.str z,.ref a,.ref b,.int wt]/\H x=some (.ins d.w00 dx [])/\
 H w=some (.lst (ws.map V.str))/\GoodT ws/\qdr z=true/\H a=some (.dK ka)/\AD ka f/\ka.length<=1000/\H b=some (.dK kb)/\AD kb g/\kb.length<=1000/\Fin ws f/\Fin ws g/\1<=wt/\wt<=1000/\(∀y,gN f y<=gN g y)/\
 ∀(S:Ts) (e:He) H',SameBut x H H'->qf8 d H' x S->H S.hs=none->H S.sw=none->H e.a=none->H e.x.pa=none->H e.x.ca=none->S.hl=[e]->e.n=z->e.x.el=none->e.x.w=wt->(∀y,e.x.fp y=qcw f y)->(∀y,e.x.fc y=qcw g y)->S.ws.Perm ws->vK S.ws=true->Q .non H'
include T in
theorem wbn:FnOk P w K mg base (My.CX1 P w) 6 d.w63 d.w3k ["self","wares","name","promise","cap","weight"] (wbf K d):=by
 refine okDX T.wc2 w7l (fun vs H Q E h=>?_) (fun cdv A outer s H vs Q E hr h=>?_)
 .obtain⟨x,dx,w,a,b,z,ws,ka,kb,f,g,wt,rfl,_⟩:=h;rfl
 obtain⟨x,dx,w,a,b,z,ws,ka,kb,f,g,wt,rfl,hx,hw,gt,gz,ha,hA,za,hb,hB,zb,ff,fg,w0,w1,le,q⟩:=h
 have g2:=gt.hi
 refine⟨_,(qa3 (qbg (qcb (qbk (qa9 ((wb4 T).mono (by decide)) hr rfl T.wcn T.w8s.kp T.wbr .nil qah (qa0 (pv 1) qa2)))) (qa5 (qc1 rfl T.wd3 rfl T.wd9 qaz (qa0 qco qa2))) qas)
  (qa3 (qb3 (qbp ((w6p T).mono (by decide)) hr rfl T.w7f T.w4t.kp T.w7j .nil qaz (qa0 (pv 2) qa2)))
  (qa3 (qaf (i:=6) w7l.nd rfl (uI rfl) (qbp ((w6f T).mono (by decide)) hr rfl T.w78 T.w5m.kp T.w79 .nil qaz (qa0 (pv 1) (qa0 qcp (qa0 (pv 3) (qa0 (pv 4) (qa0 (pv 5) qa2)))))))
  (qa3 (qb3 (qbp ((w24 T).mono (by decide)) hr rfl T.w2k T.w1l.kp T.w2o .nil qaz (qa0 (pv 2) (qa0 (qb4 (pv 6) rfl) (qa0 (qb4 (pv 6) rfl) qa2)))))
  (qa3 (qd5 (pv 0) (qai qe9 rfl T.w5o wS (qa0 (pv 1) qa2)) rfl)
  (qa5 (qd5 (pv 0) (pe_disp (pps_cons (pv 2) (pv 6) pps_nil) rfl rfl (by simp) (by decide)) rfl))))))),?_⟩
 walk_at "d"
 refine qag (σ:=[some (.ref x),some (.ref w),some (.str z),some (.ref a),some (.ref b),some (.int wt),none]) rfl ?_
 have ct:=T.w01
 have ch:=T.w1k
 have n1:qax K d.w00 "sorted_wares":=T.w06
 have n2:qax K d.w00 "houses":=T.w02
 have n3:qax K d.w03 "promise":=T.w07
 have n4:qax K d.w03 "cap":=T.w0i
 left
 refine⟨w,ws,rfl,hw,gt,fun H1 s1=>?_⟩
 left
 refine⟨z,rfl,gz,fun H2 s2=>?_⟩
 have t2:=s1.trans s2
 left
 refine⟨w,a,b,none,ws,ka,kb,f,g,wt,rfl,t2 _ _ hw,t2 _ _ ha,hA,za,t2 _ _ hb,hB,zb,ff,fg,w0,w1,fun h o H3 s3 nh np nc hO eel ew efp efc=>?_⟩
 obtain⟨⟨dh,ho⟩,hp,hpA,hc,hcA⟩:=id hO
 have efp':o.fp=qcw f:=funext efp
 have efc':o.fc=qcw g:=funext efc
 have lk:o.kp.length<=ws.length:=hpA.le (by rw [efp'];exact pos_in ff)
 left
 refine⟨.str z,o.pa,o.ca,o.kp,o.kc,o.fp,o.fc,rfl,.inl hp,.inl hc,hpA,hcA,by omega,by rw [efp',efc'];exact pos_le fg le,fun H4 s4=>?_⟩
 have t4:=(t2.trans s3).trans s4
 have hx4:=t4 _ _ hx
 have hO4:=hO.same s4
 left
 refine r_sortL (SqL.of (t4 _ _ hw)) (by omega) fun l ss hl hpm hs=>?_
 left
 rename_i p hpp
 rw [qbi]
 refine qfs (qad qa1 hpp) ct n2 (by show 1 < 1000;decide) ?_
 left
 have npx:p≠x:=fun e=>by subst e;rw [qa1] at hpp;cases hpp
 have np4':upd H4 l (.lst (ss.map V.str)) p=none:=by rw [qa6 npx] at hpp;exact hpp
 have nlx:x≠l:=qa8 hx4 hl
 have npl:p≠l:=fun e=>by subst e;rw [qa1] at np4';cases np4'
 have np4:H4 p=none:=by rw [qa6 npl] at np4';exact np4'
 have sF:∀b u,b≠x->H4 b=some u->upd (upd (upd (upd H4 l (.lst (ss.map V.str))) x (.ins d.w00 dx (qes "sorted_wares" (V.ref l) []))) p (.dK [(vG z,V.ref h)])) x (.ins d.w00 dx (qes "houses" (V.ref p) (qes "sorted_wares" (V.ref l) []))) b=some u:=fun b u hb e=>by
  rw [qa6 hb,qa6 (qa8 e np4),qa6 hb,qa6 (qa8 e hl)];exact e
 obtain⟨⟨dh4,ho4⟩,hp4,hpA4,hc4,hcA4⟩:=hO4
 refine q ⟨l,ss,p, [⟨z,h,o⟩]⟩ ⟨z,h,o⟩ _ (fun b u hb e=>sF b u hb (t4 _ _ e)) ⟨⟨dx,by rw [qa1];rfl⟩,?_,?_,zX.mpr ⟨by simp,yM⟩,by show 1<=60;decide,fun e he=>?_⟩ (t4.free np4) (t4.free hl) (t2.free nh) (t2.free np) (t2.free nc) rfl rfl eel ew efp efc hpm hs
 .show upd _ _ _ l=_
  rw [qa6 nlx.symm,qa6 npl.symm,qa6 nlx.symm,qa1]
 .show upd _ _ _ p=_
  rw [qa6 npx,qa1]
  rfl
 .have e':e=⟨z,h,o⟩:=by simpa using he
  subst e'
  have n1:∀{b:Addr} {u:HO},H4 b=some u->u≠ .ins d.w00 dx []->b≠x:=fun e1 e2 e3=>by
   subst e3;rw [hx4] at e1;exact e2 (uW e1).symm
  refine⟨⟨dh4,sF _ _ (n1 ho4 fun e=>?_) ho4⟩,sF _ _ (n1 hp4 fun e=>by cases e) hp4,hpA4,sF _ _ (n1 hc4 fun e=>by cases e) hc4,hcA4⟩
  have:=congrArg (fun u:HO=>match u with| .ins _ _ fs=>fs.length|_=>0) e
  simp [fsH] at this
def upL (el:Nat->Nat):Nat->Nat->List Nat
 |0,k=> [k]
 |f+1,k=>k ::(if k=0 then [] else upL el f (el k))
def qae (el:Nat->Nat) (k:Nat):List Nat:=upL el k k
def Low (el:Nat->Nat) (n:Nat):Prop:=∀k,0 < k->k < n->el k < k
theorem upL_eq {el:Nat->Nat} {n:Nat} (lo:Low el n):∀(f k:Nat),k < n->k<=f->upL el f k=qae el k:=by
 intro f
 induction f using xX with
 |ind f ih=>
  intro k kn kf
  cases f with
  |zero=>have:k=0:=(by omega);subst this;rfl
  |succ f=>
   cases k with
   |zero=>rfl
   |succ k=>
    have l:=lo (k+1) (by omega) kn
    show (k+1) ::(if k+1=0 then [] else upL el f (el (k+1)))=(k+1) ::(if k+1=0 then [] else upL el k (el (k+1)))
    rw [gK (by omega),gK (by omega),ih f (by omega) (el (k+1)) (by omega) (by omega)]
    rcases bH k f with h|h
    .rw [ih k (by omega) (el (k+1)) (by omega) (by omega)]
    .have:f=k:=by omega
     subst this
     rw [ih f (by omega) (el (f+1)) (by omega) (by omega)]
theorem qdd (el:Nat->Nat):qae el 0=[0]:=rfl
theorem qc2 {el:Nat->Nat} {n k:Nat} (lo:Low el n) (k0:0 < k) (kn:k < n):qae el k=k :: qae el (el k):=by
 cases k with
 |zero=>omega
 |succ k=>
  have l:=lo (k+1) k0 kn
  show (k+1) ::(if k+1=0 then [] else upL el k (el (k+1)))=_
  rw [gK (by omega),upL_eq lo k _ (by omega) (by omega)]
theorem qcd {el:Nat->Nat} {n:Nat} (lo:Low el n):∀k,k < n->(qae el k).length<=k+1:=by
 intro k
 induction k using xX with
 |ind k ih=>
  intro kn
  cases k with
  |zero=>exact uF _
  |succ k=>
   have l:=lo (k+1) (by omega) kn
   rw [qc2 lo (by omega) kn,zL]
   have:=ih (el (k+1)) l (by omega)
   omega
theorem qcq {el:Nat->Nat} {n k:Nat} (lo:Low el n) (kn:k < n):k∈qae el k:=by
 cases k with
 |zero=>exact zN ..
 |succ k=>rw [qc2 lo (by omega) kn];exact zN ..
theorem qde {el:Nat->Nat} {n:Nat} (lo:Low el n):∀k,k < n->∀j∈qae el k,j<=k:=by
 intro k
 induction k using xX with
 |ind k ih=>
  intro kn j hj
  cases k with
  |zero=>rw [qdd] at hj;simp at hj;omega
  |succ k=>
   have l:=lo (k+1) (by omega) kn
   rw [qc2 lo (by omega) kn] at hj
   rcases zM.mp hj with h|h
   .omega
   .have:=ih (el (k+1)) l (by omega) j h
    omega
theorem lineN_in {el:Nat->Nat} {n:Nat} (lo:Low el n) {j:Nat} (j0:0 < j):∀k,k < n->j∈qae el k->el j∈qae el k:=by
 intro k
 induction k using xX with
 |ind k ih=>
  intro kn hj
  cases k with
  |zero=>rw [qdd] at hj;simp at hj;omega
  |succ k=>
   have l:=lo (k+1) (by omega) kn
   rw [qc2 lo (by omega) kn] at hj ⊢
   rcases zM.mp hj with h|h
   .subst h;exact zH _ (qcq lo (by omega))
   .exact zH _ (ih (el (k+1)) l (by omega) h)
structure Pl (S:Ts) (nm:Nat->Str) (el:Nat->Nat) (n:Nat):Prop where
 len:S.hl.length=n
 nam:∀k e,S.hl[k]?=some e->e.n=nm k/\e.x.el=if k=0 then none else some (nm (el k))
 inj:∀i j,i < n->j < n->nm i=nm j->i=j
 low:Low el n
section
variable {S: Ts} {nm: Nat -> Str} {el: Nat -> Nat} {n: Nat}
theorem Pl.get (p:Pl S nm el n) {k:Nat} (kn:k < n):∃e,S.hl[k]?=some e/\e.n=nm k/\e.x.el=if k=0 then none else some (nm (el k)):=by
 have h:k < S.hl.length:=by rw [p.len];exact kn
 have e:=zA h
 exact⟨_,e,p.nam k _ e⟩
theorem Pl.ix (p:Pl S nm el n) {e:He} (h:e∈S.hl):∃k,k < n/\S.hl[k]?=some e/\e.n=nm k/\e.x.el=if k=0 then none else some (nm (el k)):=by
 obtain⟨k,hk,q⟩:=zQ.mp h
 have e1:S.hl[k]?=some e:=by rw [zA hk,q]
 exact⟨k,by rw [<-p.len];exact hk,e1,p.nam k e e1⟩
theorem Pl.nodup (p:Pl S nm el n):(S.hl.map (·.n)).Nodup:=by
 show eZ _ _
 rw [bI,zW]
 intro i j hi hj lt q
 have h1:=(p.nam i _ (zA hi)).1
 have h2:=(p.nam j _ (zA hj)).1
 have:=p.inj i j (by rw [<-p.len];exact hi) (by rw [<-p.len];exact hj) (by rw [<-h1,<-h2];exact q)
 omega
theorem Pl.at (p:Pl S nm el n) {k:Nat} (kn:k < n):∃e,S.at (nm k)=some e/\S.hl[k]?=some e/\e.x.el=if k=0 then none else some (nm (el k)):=by
 obtain⟨e,h1,h2,h3⟩:=p.get kn
 have:=at_of p.nodup (zD h1)
 rw [h2] at this
 exact⟨e,this,h1,h3⟩
theorem Pl.line (p:Pl S nm el n):∀k,k < n->LineOf S (nm k) ((qae el k).map nm):=by
 intro k
 induction k using xX with
 |ind k ih=>
  intro kn
  obtain⟨e,h1,_,h3⟩:=p.at kn
  cases k with
  |zero=>exact .top h1 h3
  |succ k=>
   have l:=p.low (k+1) (by omega) kn
   rw [gK (by omega)] at h3
   rw [qc2 p.low (by omega) kn,zV]
   exact .up h1 h3 (ih _ l (by omega))
theorem Pl.wf (p:Pl S nm el n):WF S:=⟨p.nodup,fun e he=>by
 obtain⟨k,kn,_,h,_⟩:=p.ix he
 rw [h]
 exact⟨_,p.line k kn⟩⟩
theorem Pl.kid (p:Pl S nm el n) {j:Nat} {y:Str} (jn:j < n) (h:y∈qbd S (nm j)):∃k,0 < k/\k < n/\el k=j/\y=nm k:=by
 obtain⟨e,he,rfl⟩:=zK.mp h
 obtain⟨hm,hd⟩:=yH.mp he
 obtain⟨k,kn,_,h1,h2⟩:=p.ix hm
 have hd':e.x.el=some (nm j):=of_decide_eq_true hd
 rw [h2] at hd'
 by_cases z:k=0
 .rw [gL z] at hd';cases hd'
 .rw [gK z] at hd'
  have l:=p.low k (by omega) kn
  exact⟨k,by omega,kn,p.inj _ _ (by omega) jn (uW hd'),h1⟩
theorem Pl.dep (p:Pl S nm el n):∀m j,j < n->n<=j+m+1->Dep S m (nm j):=by
 intro m
 induction m with
 |zero=>
  intro j jn hn
  show qbd S (nm j)=[]
  cases e:qbd S (nm j) with
  |nil=>rfl
  |cons y r=>
   obtain⟨k,k0,kn,ke,_⟩:=p.kid jn (y:=y) (by rw [e];exact zN ..)
   have:=p.low k k0 kn
   omega
 |succ m ih=>
  intro j jn hn y hy
  obtain⟨k,k0,kn,ke,rfl⟩:=p.kid jn hy
  have:=p.low k k0 kn
  exact ih k kn (by omega)
theorem Pl.ben (p:Pl S nm el n):∀(m j:Nat) (zs:List Str),j < n->BenP S m (nm j) zs->∀y∈zs,∃k,k < n/\y=nm k/\j∈qae el k:=by
 intro m
 induction m with
 |zero=>
  rintro j _ jn ⟨parts,rest,hp,rfl,hb⟩ y hy
  rcases zM.mp hy with h|h
  .exact⟨j,jn,h,qcq p.low jn⟩
  .obtain⟨l,hl,_⟩:=yN.mp h
   obtain⟨q,hq,_⟩:=zK.mp hl
   exact(hb q hq).elim
 |succ m ih=>
  rintro j _ jn ⟨parts,rest,hp,rfl,hb⟩ y hy
  rcases zM.mp hy with h|h
  .exact⟨j,jn,h,qcq p.low jn⟩
  .obtain⟨l,hl,hyl⟩:=yN.mp h
   obtain⟨q,hq,rfl⟩:=zK.mp hl
   obtain⟨k,k0,kn,ke,e⟩:=p.kid jn (hp.mem_iff.mp (yG _ (zK.mpr ⟨q,hq,rfl⟩)))
   have hB:=hb q hq
   rw [e] at hB
   obtain⟨i,i1,i2,i3⟩:=ih k q.2 kn hB y hyl
   refine⟨i,i1,i2,?_⟩
   have:=lineN_in p.low k0 i i1 i3
   rw [ke] at this
   exact this
end
def qdn:Nat->(Nat->Int)->Int
 |0,_=>0
 |n+1,f=>qdn n f+f n
theorem sumR_le {f g:Nat->Int}:∀{n:Nat},(∀k,k < n->f k<=g k)->qdn n f<=qdn n g
 |0,_=>wB _
 |n+1,h=>by
  have h1:=sumR_le (n:=n) fun k hk=>h k (by omega)
  have h2:=h n (by omega)
  show qdn n f+f n<=qdn n g+g n
  omega
theorem sumR_nn {f:Nat->Int}:∀{n:Nat},(∀k,k < n->0<=f k)->0<=qdn n f
 |0,_=>wB _
 |n+1,h=>by
  have h1:=sumR_nn (n:=n) fun k hk=>h k (by omega)
  have h2:=h n (by omega)
  show 0<=qdn n f+f n
  omega
theorem sumR_mono {f:Nat->Int} {n m:Nat} (hm:n<=m) (h:∀k,k < m->0<=f k):qdn n f<=qdn m f:=by
 induction m with
 |zero=>have:n=0:=(by omega);subst this;exact wB _
 |succ m ih=>
  rcases bH n (m+1) with c|c
  .have h1:=ih (by omega) fun k hk=>h k (by omega)
   have h2:=h m (by omega)
   show _<=qdn m f+f m
   omega
  .have:n=m+1:=by omega
   subst this;exact wB _
def sumL (f:Nat->Int):List Nat->Int
 | []=>0
 |k :: r=>f k+sumL f r
theorem sumL_perm {f:Nat->Int} {a b:List Nat} (h:a.Perm b):sumL f a=sumL f b:=by
 induction h with
 |nil=>rfl
 |cons x _ ih=>show _+_=_+_;rw [ih]
 |swap x y l=>show f y+(f x+sumL f l)=f x+(f y+sumL f l);omega
 |trans _ _ h1 h2=>rw [h1,h2]
theorem qfn {f:Nat->Int}:∀{n:Nat} {ks:List Nat},ks.Nodup->(∀k∈ks,k < n)->(∀k,k < n->0<=f k)->sumL f ks<=qdn n f
 |0,ks,_,h,_=>by
  cases ks with
  |nil=>exact wB _
  |cons k r=>exact absurd (h k (zN ..)) (by omega)
 |n+1,ks,nd,h,p=>by
  show _<=qdn n f+f n
  by_cases m:n∈ks
  .rw [sumL_perm (List.perm_cons_erase m)]
   have nd2:=nd.erase n
   have:=qfn (n:=n) nd2 (fun k hk=>by
    have h1:=h k (List.mem_of_mem_erase hk)
    have:k≠n:=fun z=>by subst z;exact(List.Nodup.not_mem_erase nd) hk
    omega) fun k hk=>p k (by omega)
   show f n+_<=_
   omega
  .have:=qfn (n:=n) nd (fun k hk=>by
    have h1:=h k hk
    have:k≠n:=fun z=>m (z ▸ hk)
    omega) fun k hk=>p k (by omega)
   have:=p n (by omega)
   omega
theorem gN_add (f g:Str->Option Int) (z:Str):gN (addF f g) z=gN f z+gN g z:=by
 unfold gN addF
 cases e:g z with
 |none=>simp
 |some b=>rfl
theorem gN_sum (z:Str):∀(ts:List Pt) (f0:Str->Option Int),gN (ts.foldl (fun f t=>addF f t.f) f0) z=gN f0 z+(ts.map fun t=>gN t.f z).sum
 | [],f0=>by simp
 |t :: ts,f0=>by
  rw [yU,gN_sum z ts,gN_add,zV,List.sum_cons]
  omega
section
variable {S: Ts} {nm: Nat -> Str} {el: Nat -> Nat} {n: Nat}
theorem Pl.sums (p:Pl S nm el n) {v:Str} {pr:Nat->Int} (hp:∀k e,S.hl[k]?=some e->gN e.x.fp v=pr k) (h0:∀k,k < n->0<=pr k) {m j:Nat} {bs:List Str} (jn:j < n) (hb:Ben S m (nm j) bs):
  gN (sumF (bs.map (ptOf S))) v<=qdn n fun k=>if j∈qae el k then pr k else 0:=by
 have nd:=(qcv p.wf hb.part).1
 have hk:=p.ben m j bs jn hb.part
 have key:∀bs:List Str,bs.Nodup->(∀y∈bs,∃k,k < n/\y=nm k/\j∈qae el k)->∃ks:List Nat,ks.Nodup/\(∀k∈ks,k < n/\nm k∈bs)/\((bs.map (ptOf S)).map fun t=>gN t.f v).sum=sumL (fun k=>if j∈qae el k then pr k else 0) ks:=by
  intro bs
  induction bs with
  |nil=>intro _ _;exact⟨[],yM,fun k hk=>absurd hk (by simp),rfl⟩
  |cons y r ih=>
   intro nd h
   rw [zX] at nd
   obtain⟨ks,k1,k2,k3⟩:=ih nd.2 fun y' hy=>h y' (zH _ hy)
   obtain⟨k,kn,rfl,kj⟩:=h y (zN ..)
   obtain⟨e,e1,e2,_⟩:=p.at kn
   refine⟨k :: ks,zX.mpr ⟨fun m=>nd.1 (k2 k m).2,k1⟩,fun k' hk'=>?_,?_⟩
   .rcases zM.mp hk' with rfl|hk'
    .exact⟨kn,zN ..⟩
    .exact⟨(k2 k' hk').1,zH _ (k2 k' hk').2⟩
   .rw [zV,zV,List.sum_cons,k3,qft e1]
    show gN e.x.fp v+_=(if j∈qae el k then pr k else 0)+_
    rw [hp k e e2,gL kj]
 obtain⟨ks,k1,k2,k3⟩:=key bs nd hk
 unfold sumF
 rw [gN_sum,k3]
 have z:gN noF v=0:=rfl
 rw [z,dJ]
 exact qfn k1 (fun k hk=>(k2 k hk).1) fun k hk=>by
  split
  .exact h0 k hk
  .exact wB _
end
theorem ad_oK {k:List (Key × V)} {f:Str->Option Int} (hk:AD k f) {ks:List (Str × Addr)} {z:Str} {h:Addr} (hl:qda ks z=some h):HO.dK k≠ .dK (oK ks):=fun e=>by
 have e2:k=oK ks:=by injection e
 subst e2
 have g1:=hk.get z
 rw [qfm,hl] at g1
 cases hf:f z with
 |none=>rw [hf] at g1;cases g1
 |some n=>rw [hf] at g1;cases g1
def wa8 (K:uR) (d:Ad):Sp:=fun vs H Q E=>∃(t a b:Addr) (S:Ts) (z:Str) (xe:V) (ka kb:List (Key × V)) (f g:Str->Option Int) (wt:Int),vs=[.ref t,.str z,xe,.ref a,.ref b,.int wt]/\qf8 d H t S/\qdr z=true/\S.at z=none/\qe2 K H xe/\
 (who S xe=none->∀H',qar H H'->E (.ref d.w0c) none H')/\
 ∀e,who S xe=some e->WF S/\qga S/\S.ws.length<=50/\H a=some (.dK ka)/\AD ka f/\ka.length<=1000/\H b=some (.dK kb)/\AD kb g/\kb.length<=1000/\Fin S.ws f/\Fin S.ws g/\1<=wt/\wt<=1000/\S.hl.length < 40/\
  (∃zs,LineOf S e.n zs/\zs.length < 12/\∀y∈zs,∃e',S.at y=some e'/\Dep S 12 y/\∀bs,Ben S 12 y bs->∀v n,addF (sumF (bs.map (ptOf S))) (qcw f) v=some n->n<=gN e'.x.fc v)/\(∀y,gN f y<=gN g y)/\
  ∀(e2:He) H',SameBut S.hs H H'->H e2.a=none->H e2.x.pa=none->H e2.x.ca=none->qf8 d H' t {S with hl:=S.hl++ [e2]}->e2.n=z->e2.x.el=some e.n->e2.x.w=wt->(∀y,e2.x.fp y=qcw f y)->(∀y,e2.x.fc y=qcw g y)->Q .non H'
include T in
theorem wa6:FnOk P w K mg base (My.CX1 P w) 19 d.w58 d.w2s ["self","name","elder","promise","cap","weight"] (wa8 K d):=by
 refine okDX T.wb8 w4k (fun vs H Q E h=>?_) (fun cdv A outer s H vs Q E hr h=>?_)
 .obtain⟨t,a,b,S,z,xe,ka,kb,f,g,wt,rfl,_⟩:=h;rfl
 obtain⟨t,a,b,S,z,xe,ka,kb,f,g,wt,rfl,hT,gz,nz,hx,q2,q1⟩:=h
 refine⟨_,(qa3 (qb3 (qbp ((w6p T).mono (by decide)) hr rfl T.w7f T.w4t.kp T.w7j .nil qaz (qa0 (pv 1) qa2)))
  (qa3 (qbg (qbk (qe6 (pv 0) T.w01 T.w23 ((w7y T).mono (by decide)) hr T.w9g .nil qah (qa0 (pv 1) qa2))) (qa5 (qc1 rfl T.wgn rfl T.wgq qaz (qa0 qco qa2))) qas)
  (qa3 (qb3 (qb6 (pv 0) T.w01 T.w04 ((w1m T).mono (by decide)) hr T.w1t .nil qaz (qa0 (pv 2) qa2)))
  (qa3 (qaf (i:=6) w4k.nd rfl (uI rfl) (qbp ((w6f T).mono (by decide)) hr rfl T.w78 T.w5m.kp T.w79 .nil qaz (qa0 (qb4 (pv 0) rfl) (qa0 (pv 2) (qa0 (pv 3) (qa0 (pv 4) (qa0 (pv 5) qa2)))))))
  (qa3 (qbg (qan op_ge (qai call_lenDD rfl T.w2v vH (qa0 (qb4 (pv 0) rfl) qa2)) (qe7 rfl T.wa0 T.w1r) (qat _)) (qa5 (qc1 rfl T.wer rfl T.wf2 qaz (qa0 qco qa2))) qas)
  (qa3 (qaf (i:=7) w4k.nd rfl (uI rfl) (qb6 (pv 0) T.w01 T.w17 ((w5c T).mono (by decide)) hr T.w6a .nil qaz (qa0 (pv 2) qa2)))
  (qa3 (qbg (qan op_ge (qai qaw rfl T.w2v vH (qa0 (pv 7) qa2)) (qe7 rfl T.w9c T.w1i) (qat _)) (qa5 (qc1 rfl T.wf1 rfl T.weq qaz (qa0 qco qa2))) qas)
  (qa3 (qb3 (qbp ((w24 T).mono (by decide)) hr rfl T.w2k T.w1l.kp T.w2o .nil qaz (qa0 (pv 1) (qa0 (qb4 (pv 6) rfl) (qa0 (qb4 (pv 6) rfl) qa2)))))
  (qa3 (qb3 (qb6 (pv 0) T.w01 T.w0g ((w6k T).mono (by decide)) hr T.w72 .nil qaz (qa0 (pv 7) (qa0 (qb4 (pv 6) rfl) qa2))))
  (qa5 (qe5 (qcg hr) (qb4 (pv 0) rfl) (pv 1) (pv 6) rfl))))))))))),?_⟩
 walk_at "d"
 refine qag (σ:=[some (.ref t),some (.str z),some (xe),some (.ref a),some (.ref b),some (.int wt),none,none]) rfl ?_
 have ct:=T.w01
 have ch:=T.w1k
 have n1:qax K d.w00 "sorted_wares":=T.w06
 have n2:qax K d.w00 "houses":=T.w02
 have n3:qax K d.w03 "promise":=T.w07
 have n4:qax K d.w03 "cap":=T.w0i
 left
 refine⟨z,rfl,gz,fun H1 s1=>?_⟩
 have hT1:=hT.same s1
 obtain⟨dx,ht⟩:=id hT1.1
 left
 refine⟨t,S,.str z,rfl,hT1,.inl ⟨z,rfl⟩,?_⟩
 rw [show who S (.str z)=none from nz]
 left
 show if false=true then _ else _
 left
 refine⟨t,S,xe,rfl,hT1,hx.same s1,fun e he=>?_,fun he=>q2 he H1 s1⟩
 obtain⟨hW,hO,hws,ha,hA,za,hb,hB,zb,ff,fg,w0,w1,h40,⟨zs,hL,hz12,hy⟩,le,q⟩:=q1 e he
 obtain⟨y,rfl⟩:∃y,xe=.str y:=by
  rcases hx with h|⟨_,nz'⟩
  .exact h
  .rw [qd3 nz'] at he;cases he
 have ey:e.n=y:=(qck he).2
 have hsw:=hT1.2.1
 left
 refine⟨S.sw,a,b,some y,S.ws,ka,kb,f,g,wt,rfl,hsw,s1 _ _ ha,hA,za,s1 _ _ hb,hB,zb,ff,fg,w0,w1,fun h o H3 s3 nh np nc hOo eel ew efp efc=>?_⟩
 obtain⟨⟨dh,ho⟩,hp,hpA,hc,hcA⟩:=id hOo
 have efp':o.fp=qcw f:=funext efp
 have efc':o.fc=qcw g:=funext efc
 have lk:o.kp.length<=S.ws.length:=hpA.le (by rw [efp'];exact pos_in ff)
 have hT3:=hT1.same s3
 obtain⟨⟨dx3,ht3⟩,hw3,hh3,nd3,hz3,hE3⟩:=id hT3
 left
 refine r_lenD hh3 ?_
 rw [qej]
 left
 refine⟨t,S,.str y,rfl,hT3,.inl ⟨y,zs,rfl,by rw [<-ey];exact hL,by omega,fun l hl=>?_⟩⟩
 have s4:=qa7 hl (.lst (zs.map V.str))
 have eL:upd H3 l (.lst (zs.map V.str)) l=some (.lst (zs.map V.str)):=qa1
 have hzl:(zs.map V.str).length=zs.length:=zB _
 generalize upd H3 l (.lst (zs.map V.str))=H4 at*
 have ho4:=s4 _ _ ho
 have hp4:=s4 _ _ hp
 have hc4:=s4 _ _ hc
 left
 refine⟨.str z,o.pa,o.ca,o.kp,o.kc,o.fp,o.fc,rfl,.inl hp4,.inl hc4,hpA,hcA,by omega,by rw [efp',efc'];exact pos_le fg le,fun H5 s5=>?_⟩
 have s35:=s4.trans s5
 have ho5:=s35 _ _ ho
 have hT5:=hT3.same s35
 obtain⟨dx5,ht5⟩:=id hT5.1
 left
 refine⟨t,l,o.pa,S,zs,o.kp,o.fp,rfl,hT5,hW,hO,SqL.of (s5 _ _ eL),s35 _ _ hp,hpA,hws,by rw [efp'];exact pos_in ff,by rw [efp'];exact hy,fun H6 s6=>?_⟩
 have s36:=s35.trans s6
 have s16:=s3.trans s36
 have s06:=s1.trans s16
 obtain⟨⟨dx6,ht6⟩,hw6,hh6,nd6,hz6,hE6⟩:=hT3.same s36
 left
 have lkn:qda S.keys z=none:=by rw [qdp,nz];rfl
 have hksz:(oK S.keys).length < sizeLine:=by rw [qej];show _ < 16777216;omega
 refine r_dpk hh6 hksz ?_
 rw [putK_oK lkn]
 left
 have sF:∀b u,b≠S.hs->H6 b=some u->upd H6 S.hs (.dK (oK (S.keys++ [(z,h)]))) b=some u:=fun b u hb e=>by rw [qa6 hb];exact e
 have nH:∀{b:Addr} {u:HO},H6 b=some u->u≠ .dK (oK S.keys)->b≠S.hs:=fun e1 e2 e3=>by
  subst e3;rw [hh6] at e1;exact e2 (uW e1).symm
 have hT1':=hT1
 have fresh:∀{b:Addr} {u:HO},H1 b=none->H6 b=some u->b≠S.hs:=fun e1 _ e3=>by
  subst e3;rw [hT1'.2.2.1] at e1;cases e1
 refine q ⟨z,h,o⟩ _ (fun b u hb e=>sF b u hb (s06 _ _ e)) (s1.free nh) (s1.free np) (s1.free nc) ⟨⟨dx6,sF _ _ (nH ht6 (by intro e;cases e)) ht6⟩,sF _ _ (nH hw6 (by intro e;cases e)) hw6,?_,?_,?_,fun e1 he1=>?_⟩ rfl (by rw [ey];exact eel) ew efp efc
 .show upd _ _ _ S.hs=some (.dK (oK (Ts.keys _)))
  rw [qa1]
  unfold Ts.keys
  rw [zE];rfl
 .show (List.map _ (S.hl++ [_])).Nodup
  rw [zE,yI]
  refine⟨nd6,zX.mpr ⟨by simp,yM⟩,fun x hx1 y' hy1 e=>?_⟩
  have:y'=z:=by simpa using hy1
  subst this
  subst e
  obtain⟨e2,m2,rfl⟩:=zK.mp hx1
  rw [at_of nd6 m2] at nz
  cases nz
 .show (S.hl++ [_]).length<=60
  rw [zG]
  show _+1<=60
  omega
 .rcases zR.mp he1 with m|m
  .obtain⟨⟨dy,hy1⟩,hy2,hy3,hy4,hy5⟩:=hE6 e1 m
   have no:∀{k:List (Key × V)} {f:Str->Option Int},AD k f->HO.dK k≠ .dK (oK S.keys):=fun hk=>ad_oK hk (z:=e1.n) (h:=e1.a) (by rw [qdp,at_of nd6 m];rfl)
   exact⟨⟨dy,sF _ _ (nH hy1 (by intro e;cases e)) hy1⟩,sF _ _ (nH hy2 (no hy3)) hy2,hy3,sF _ _ (nH hy4 (no hy5)) hy4,hy5⟩
  .have:e1=⟨z,h,o⟩:=by simpa using m
   subst this
   have h6:=s36 _ _ ho
   refine⟨⟨dh,sF _ _ (fresh nh h6) h6⟩,sF _ _ (fresh np (s36 _ _ hp)) (s36 _ _ hp),hpA,sF _ _ (fresh nc (s36 _ _ hc)) (s36 _ _ hc),hcA⟩
abbrev ABC:Str:=wH "abcdefghijklmnopqrstuvwxyz"
def letc (i:Int):Nat:=97+(i%26).toNat
theorem letAt (g:Int):atI ABC.cps.toList (g%26)=some (letc g):=by
 have e0:=vZ g (show (26:Int)≠0 by decide)
 have e1:=vX g (show (0:Int) < 26 by decide)
 have h:∀k:Nat,k < 26->ABC.cps.toList[k]?=some (97+k):=by decide+kernel
 have e:g%26=(((g%26).toNat:Nat):Int):=by omega
 rw [e]
 rw [qav (h (g%26).toNat (by omega))]
 rfl
theorem letc_isL (g:Int):isL (letc g)=true:=by
 have e0:=vZ g (show (26:Int)≠0 by decide)
 have e1:=vX g (show (0:Int) < 26 by decide)
 unfold isL letc
 rw [vU,decide_eq_true_iff,decide_eq_true_iff]
 omega
theorem letc_inj {g g':Int} (h:letc g=letc g'):g%26=g'%26:=by
 have e0:=vZ g (show (26:Int)≠0 by decide)
 have f0:=vZ g' (show (26:Int)≠0 by decide)
 unfold letc at h
 omega
def ofL (l:List Nat):Str:=⟨l.toArray⟩
theorem qf4 (l:List Nat):qe8 (ofL l)=l:=by simp [qe8,ofL]
theorem ofL_inj {l m:List Nat} (h:ofL l=ofL m):l=m:=by rw [<-qf4 l,<-qf4 m,h]
theorem ofL_snoc (l:List Nat) (c:Nat):ofL l++(⟨#[c]⟩:Str)=ofL (l++ [c]):=by
 have e:(ofL l++(⟨#[c]⟩:Str)).cps=(ofL (l++ [c])).cps:=by
  rw [Str.cps_append]
  simp [ofL]
 exact congrArg Str.mk e
theorem qfx (l:List Nat):(ofL l).length=l.length:=by simp [ofL,Str.length]
def iV (e:Nat):V:=.int (e:Int)
def FinB (ws:List Str) (B:Int) (f:Str->Option Int):Prop:=∀z n,f z=some n->z∈ws/\0<=n/\n<=B
def elN (es:List Nat) (k:Nat):Nat:=(es[k - 1]?).getD 0
def ptN (ts:List Pt) (k:Nat) (v:Str):Int:=match ts[k]? with
 |some t=>gN t.f v
 |none=>0
theorem lineN_pw {el:Nat->Nat} {n:Nat} (lo:Low el n):∀k,k < n->(qae el k).Pairwise (fun a b=>b < a):=by
 intro k
 induction k using xX with
 |ind k ih=>
  intro kn
  cases k with
  |zero=>rw [qdd];exact aZ ..
  |succ k=>
   have l:=lo (k+1) (by omega) kn
   rw [qc2 lo (by omega) kn,cF]
   refine⟨fun a ha=>?_,ih _ l (by omega)⟩
   have:=qde lo (el (k+1)) (by omega) a ha
   omega
structure PL where
 lw:Addr
 ln:Addr
 le:Addr
 lp:Addr
 lc:Addr
 ws:List Str
 nm:List Str
 es:List Nat
 tp:List Pt
 tc:List Pt
structure PlF (P:PL):Prop where
 w1:1<=P.ws.length
 w3:P.ws.length<=6
 wg:∀z∈P.ws,qdr z=true
 wn:P.ws.Nodup
 nl:P.nm.length=P.es.length+1
 n12:P.nm.length<=12
 ng:∀z∈P.nm,qdr z=true
 nn:P.nm.Nodup
 lo:∀(k e:Nat),P.es[k]?=some e->e<=k/\e<=10
 pl:P.tp.length=P.nm.length
 cl:P.tc.length=P.nm.length
 pa:∀t∈P.tp,AD t.k t.f/\FinB P.ws (10^30) t.f
 ca:∀t∈P.tc,AD t.k t.f/\FinB P.ws (10^30) t.f
 le:∀(j:Nat) (t:Pt),P.tc[j]?=some t->∀v∈P.ws,(qdn P.tp.length fun k=>if j∈qae (elN P.es) k then ptN P.tp k v else 0)<=gN t.f v
theorem qds {es:List Nat} (lo:∀(k e:Nat),es[k]?=some e->e<=k) (n:Nat):Low (elN es) n:=fun k k0 kn=>by
 unfold elN
 cases e:es[k - 1]? with
 |none=>exact k0
 |some a=>have:=lo _ _ e;show a < k;omega
theorem elN_at {es:List Nat} {b:Nat} (hb:b < es.length):elN es (b+1)=es[b]:=by unfold elN;rw [Nat.add_sub_cancel,zA hb];rfl
theorem FinB.fin {ws:List Str} {B:Int} {f:Str->Option Int} (h:FinB ws B f) (hB:B<=10^30):Fin ws f:=fun z n e=>by
 obtain⟨a,b,c⟩:=h z n e
 exact⟨a,b,by omega⟩
theorem fin_perm {ws ws':List Str} {f:Str->Option Int} (h:Fin ws f) (p:ws'.Perm ws):Fin ws' f:=fun z n e=>by
 obtain⟨a,b,c⟩:=h z n e
 exact⟨p.mem_iff.mpr a,b,c⟩
def nmF (P:PL) (k:Nat):Str:=(P.nm[k]?).getD (ofL [])
def tfF (ts:List Pt) (k:Nat):Str->Option Int:=match ts[k]? with
 |some t=>t.f
 |none=>noF
theorem ptN_eq (ts:List Pt) (k:Nat) (v:Str):ptN ts k v=gN (tfF ts k) v:=by
 unfold ptN tfF
 cases ts[k]? <;> rfl
structure TInv (S:Ts) (P:PL) (n:Nat) (wt:Nat->Int):Prop where
 pl:Pl S (nmF P) (elN P.es) n
 wp:S.ws.Perm P.ws
 ws:vK S.ws=true
 da:∀(k:Nat) (e:He),S.hl[k]?=some e->(∀v,e.x.fp v=qcw (tfF P.tp k) v)/\(∀v,e.x.fc v=qcw (tfF P.tc k) v)/\e.x.w=wt k
theorem qd9 {P:PL} {k:Nat} (h:k < P.nm.length):nmF P k=P.nm[k]:=by unfold nmF;rw [zA h];rfl
theorem nmF_inj {P:PL} (f:PlF P) {n:Nat} (hn:n<=P.nm.length):∀i j,i < n->j < n->nmF P i=nmF P j->i=j:=fun i j hi hj e=>by
 rw [qd9 (by omega),qd9 (by omega)] at e
 rcases Nat.lt_trichotomy i j with h|h|h
 .exact absurd e ((zW.mp f.nn) i j (by omega) (by omega) h)
 .exact h
 .exact absurd e.symm ((zW.mp f.nn) j i (by omega) (by omega) h)
theorem PlF.low {P:PL} (f:PlF P) (n:Nat):Low (elN P.es) n:=qds (fun k e h=>(f.lo k e h).1) n
theorem qem {P:PL} (f:PlF P) {k:Nat} (hk:k < P.nm.length):∃t,P.tp[k]?=some t/\t∈P.tp/\tfF P.tp k=t.f/\AD t.k t.f/\Fin P.ws t.f:=by
 have h:k < P.tp.length:=by rw [f.pl];exact hk
 have e:=zA h
 refine⟨_,e,zJ h,by unfold tfF;rw [e],(f.pa _ (zJ h)).1,(f.pa _ (zJ h)).2.fin (by decide)⟩
theorem tc_fin {P:PL} (f:PlF P) {k:Nat} (hk:k < P.nm.length):∃t,P.tc[k]?=some t/\t∈P.tc/\tfF P.tc k=t.f/\AD t.k t.f/\Fin P.ws t.f:=by
 have h:k < P.tc.length:=by rw [f.cl];exact hk
 have e:=zA h
 refine⟨_,e,zJ h,by unfold tfF;rw [e],(f.ca _ (zJ h)).1,(f.ca _ (zJ h)).2.fin (by decide)⟩
theorem fin_nn {ws:List Str} {f:Str->Option Int} (h:Fin ws f) (v:Str):0<=gN f v:=by
 unfold gN
 cases e:f v with
 |none=>exact wB _
 |some n=>exact(h v n e).2.1
theorem fin_out {ws:List Str} {f:Str->Option Int} (h:Fin ws f) {v:Str} (hv:v∉ws):gN f v=0:=by
 unfold gN
 cases e:f v with
 |none=>rfl
 |some n=>exact absurd (h v n e).1 hv
theorem pr_nn {P:PL} (f:PlF P) {k:Nat} (hk:k < P.nm.length) (v:Str):0<=gN (tfF P.tp k) v:=by
 obtain⟨t,_,_,e,_,h⟩:=qem f hk
 rw [e];exact fin_nn h v
theorem cap_ge {P:PL} (f:PlF P) {j:Nat} (hj:j < P.nm.length) (v:Str):(qdn P.nm.length fun k=>if j∈qae (elN P.es) k then gN (tfF P.tp k) v else 0)<=gN (tfF P.tc j) v:=by
 obtain⟨t,e1,e2,e3,e4,e5⟩:=tc_fin f hj
 rw [e3]
 by_cases hv:v∈P.ws
 .have z:=f.le j t e1 v hv
  rw [f.pl] at z
  have:(fun k=>if j∈qae (elN P.es) k then ptN P.tp k v else 0)=fun k=>if j∈qae (elN P.es) k then gN (tfF P.tp k) v else 0:=funext fun k=>by rw [ptN_eq]
  rw [this] at z
  exact z
 .have z:(qdn P.nm.length fun k=>if j∈qae (elN P.es) k then gN (tfF P.tp k) v else 0)<=qdn P.nm.length fun _=>0:=sumR_le fun k hk=>by
   split
   .obtain⟨t',_,_,q,_,h⟩:=qem f hk
    rw [q,fin_out h hv];exact wB _
   .exact wB _
  have z0:∀n,(qdn n fun _=>0)=0:=fun n=>by
   induction n with
   |zero=>rfl
   |succ n ih=>show qdn n _+0=0;rw [ih];rfl
  rw [z0] at z
  have:=fin_nn e5 v
  omega
theorem own_le {P:PL} (f:PlF P) {k:Nat} (hk:k < P.nm.length) (v:Str):gN (tfF P.tp k) v<=gN (tfF P.tc k) v:=by
 have z:=cap_ge f hk v
 have h:gN (tfF P.tp k) v<=qdn P.nm.length fun i=>if k∈qae (elN P.es) i then gN (tfF P.tp i) v else 0:=by
  have h1:sumL (fun i=>if k∈qae (elN P.es) i then gN (tfF P.tp i) v else 0) [k]<=qdn P.nm.length fun i=>if k∈qae (elN P.es) i then gN (tfF P.tp i) v else 0:=
   qfn (zX.mpr ⟨by simp,yM⟩) (fun i hi=>by have:i=k:=(by simpa using hi);omega) fun i hi=>by
    split
    .exact pr_nn f hi v
    .exact wB _
  have h2:sumL (fun i=>if k∈qae (elN P.es) i then gN (tfF P.tp i) v else 0) [k]=gN (tfF P.tp k) v:=by
   show (if k∈qae (elN P.es) k then gN (tfF P.tp k) v else 0)+0=_
   rw [gL (qcq (f.low P.nm.length) hk),Int.add_zero]
  omega
 omega
theorem TInv.ask {S:Ts} {P:PL} {k:Nat} {wt:Nat->Int} (h:TInv S P k wt) (f:PlF P) (k0:0 < k) (kn:k < P.nm.length):∃e,S.at (nmF P (elN P.es k))=some e/\e.n=nmF P (elN P.es k)/\WF S/\qga S/\S.ws.length<=50/\S.hl.length < 40/\S.at (nmF P k)=none/\
  ∃zs,LineOf S e.n zs/\zs.length < 12/\∀y∈zs,∃e',S.at y=some e'/\Dep S 12 y/\∀bs,Ben S 12 y bs->∀v n,addF (sumF (bs.map (ptOf S))) (qcw (tfF P.tp k)) v=some n->n<=gN e'.x.fc v:=by
 have low:=f.low P.nm.length
 have lk:=low k k0 kn
 have n12:=f.n12
 obtain⟨e,h1,h2,h3⟩:=h.pl.at lk
 have en:e.n=nmF P (elN P.es k):=(qck h1).2
 refine⟨e,h1,en,h.pl.wf,⟨by have:=h.wp.length_eq;have:=f.w3;omega,fun e' he z hz=>?_⟩,by have:=h.wp.length_eq;have:=f.w3;omega,by rw [h.pl.len];omega,?_,(qae (elN P.es) (elN P.es k)).map (nmF P),by rw [en];exact h.pl.line _ lk,?_,fun y hy=>?_⟩
 .obtain⟨i,hi,q,_⟩:=h.pl.ix he
  obtain⟨t,_,_,q2,_,q3⟩:=qem f (k:=i) (by omega)
  rw [(h.da i e' q).1,q2] at hz
  exact h.wp.mem_iff.mpr (pos_in q3 z hz)
 .cases c:S.at (nmF P k) with
  |none=>rfl
  |some e'=>
   obtain⟨i,hi,_,q,_⟩:=h.pl.ix (qck c).1
   have:=nmF_inj f (n:=P.nm.length) (uF _) i k (by omega) kn (by rw [<-q,(qck c).2])
   omega
 .rw [zB]
  have hl:=qcd low (elN P.es k) (by omega)
  have:elN P.es k<=10:=by
   obtain⟨b,rfl⟩:∃b,k=b+1:=⟨k - 1,by omega⟩
   have hb:b < P.es.length:=by have:=f.nl;omega
   rw [elN_at hb]
   exact(f.lo b _ (zA hb)).2
  omega
 .obtain⟨j,hj,rfl⟩:=zK.mp hy
  have jl:=qde low (elN P.es k) (by omega) j hj
  have jk:j < k:=by omega
  obtain⟨e',q1,q2,_⟩:=h.pl.at jk
  refine⟨e',q1,h.pl.dep 12 j jk (by omega),fun bs hb v n hn=>?_⟩
  have hs:=h.pl.sums (v:=v) (pr:=fun i=>gN (tfF P.tp i) v) (fun i e2 he2=>?_) (fun i hi=>pr_nn f (by omega) v) jk hb
  .have g1:n=gN (addF (sumF (bs.map (ptOf S))) (qcw (tfF P.tp k))) v:=by unfold gN;rw [hn];rfl
   obtain⟨t,_,_,t3,_,t5⟩:=qem f kn
   rw [gN_add,t3,qg3 t5,<-t3] at g1
   obtain⟨u,_,_,u3,_,u5⟩:=tc_fin f (k:=j) (by omega)
   have fc:e'.x.fc=qcw u.f:=by rw [<-u3];exact funext (h.da j e' q2).2.1
   rw [fc,qg3 u5,<-u3]
   have cg:=cap_ge f (j:=j) (by omega) v
   have mono:=sumR_mono (f:=fun i=>if j∈qae (elN P.es) i then gN (tfF P.tp i) v else 0) (n:=k+1) (m:=P.nm.length) (by omega) fun i hi=>by
    try dsimp only
    split
    .exact pr_nn f hi v
    .exact wB _
   have top:(qdn (k+1) fun i=>if j∈qae (elN P.es) i then gN (tfF P.tp i) v else 0)=(qdn k fun i=>if j∈qae (elN P.es) i then gN (tfF P.tp i) v else 0)+gN (tfF P.tp k) v:=by
    show qdn k _+(if j∈qae (elN P.es) k then gN (tfF P.tp k) v else 0)=_
    rw [gL]
    rw [qc2 low k0 kn]
    exact zH _ hj
   omega
  .obtain⟨t,_,_,t3,_,t5⟩:=qem f (k:=i) (by have:=(uH.mp he2).1;rw [h.pl.len] at this;omega)
   rw [show e2.x.fp=qcw (tfF P.tp i) from funext (h.da i e2 he2).1,t3]
   exact qg3 t5 v
theorem TInv.next {S:Ts} {P:PL} {k:Nat} {wt:Nat->Int} (h:TInv S P k wt) (f:PlF P) (k0:0 < k) (kn:k < P.nm.length) {e2:He} {w:Int} (en:e2.n=nmF P k) (el:e2.x.el=some (nmF P (elN P.es k))) (ew:e2.x.w=w) (ep:∀v,e2.x.fp v=qcw (tfF P.tp k) v) (ec:∀v,e2.x.fc v=qcw (tfF P.tc k) v):
  TInv {S with hl:=S.hl++ [e2]} P (k+1) (fun i=>if i=k then w else wt i):=by
 have hl:=h.pl.len
 have split:∀(i:Nat) (e:He),(S.hl++ [e2])[i]?=some e->(i < k/\S.hl[i]?=some e)\/(i=k/\e=e2):=fun i e he=>by
  rcases bH i S.hl.length with c|c
  .rw [yC c] at he
   exact .inl ⟨by omega,he⟩
  .have:=(uH.mp he).1
   rw [zG,zT] at this
   have ei:i=S.hl.length:=by omega
   rw [zZ c,ei,dL] at he
   exact .inr ⟨by omega,by simpa using he.symm⟩
 refine⟨⟨by show (S.hl++ [e2]).length=_;rw [zG,hl];rfl,fun i e he=>?_,nmF_inj f (by omega),fun i i0 ik=>f.low P.nm.length i i0 (by omega)⟩,h.wp,h.ws,fun i e he=>?_⟩
 .rcases split i e he with ⟨a,b⟩ |⟨rfl,rfl⟩
  .exact h.pl.nam i e b
  .exact⟨en,by rw [gK (by omega)];exact el⟩
 .rcases split i e he with ⟨a,b⟩ |⟨rfl,rfl⟩
  .obtain⟨x,y,z⟩:=h.da i e b
   exact⟨x,y,by rw [gK (by omega)];exact z⟩
  .exact⟨ep,ec,by rw [gL rfl];exact ew⟩
structure Apart (S:Ts) (t q:Addr):Prop where
 t:t≠q
 sw:S.sw≠q
 hs:S.hs≠q
 ho:∀e∈S.hl,e.a≠q/\e.x.pa≠q/\e.x.ca≠q
theorem sort_eq {ss ss':List Str} (h:ss.Perm ss') (a:vK ss=true) (b:vK ss'=true):ss=ss':=
 List.Perm.eq_of_pairwise (le:=leS) (fun x y _ _ h1 h2=>leS_anti h1 h2) (qen a) (qen b) h
theorem pl_one {S:Ts} {P:PL} {e:He} (f:PlF P) (hl:S.hl=[e]) (en:e.n=nmF P 0) (el:e.x.el=none):Pl S (nmF P) (elN P.es) 1:=by
 refine⟨by rw [hl];rfl,fun k e' he=>?_,fun i j hi hj _=>by omega,fun k k0 k1=>by omega⟩
 rw [hl] at he
 have hk:=(uH.mp he).1
 have e0:k=0:=by rw [zT] at hk;omega
 subst e0
 have:e'=e:=by simpa using he.symm
 subst this
 exact⟨en,el⟩
theorem TInv.cast {S:Ts} {P:PL} {n:Nat} {wt wt':Nat->Int} (h:TInv S P n wt) (e:∀j,j < n->wt j=wt' j):TInv S P n wt':=⟨h.pl,h.wp,h.ws,fun k x hx=>by
 have hk:=(uH.mp hx).1
 rw [h.pl.len] at hk
 obtain⟨a,b,c⟩:=h.da k x hx
 exact⟨a,b,c.trans (e k hk)⟩⟩
def tV:Option Int->V
 |none=> .non
 |some n=> .int n
def qf5 (d:Ad) (s:Bool):Addr:=if s=true then d.w0a else d.w09
def fsB (n:Int) (z:Str) (m:Addr) (r:Int) (t:Option Int):List (Str × V):=[("number",.int n),("house",.str z),("amounts",.ref m),("rank",.int r),("turns",tV t)]
theorem clsOk {K:uR} {mg:Str->Option uC} {d:Ad} (T:Tx K mg d) (s:Bool):Cls K (qf5 d s)/\qax K (qf5 d s) "number"/\qax K (qf5 d s) "house"/\qax K (qf5 d s) "amounts"/\qax K (qf5 d s) "rank"/\qax K (qf5 d s) "turns":=by
 cases s
 .exact⟨T.w3x,T.w1g,T.w1z,T.w1c,T.w1p,T.w20⟩
 .exact⟨T.w4b,T.w1j,T.w1w,T.w1a,T.w2g,T.w1v⟩
def wbb (K:uR) (d:Ad):Sp:=fun vs H Q _=>∃(x dx a:Addr) (s:Bool) (n:Int) (z:Str) (k:List (Key × V)) (r:Int) (t:Option Int),vs=[.ref x,.int n,.str z,.ref a,.int r,tV t]/\H x=some (.ins (qf5 d s) dx [])/\H a=some (.dK k)/\
 ∀m H',H m=none->H' x=some (.ins (qf5 d s) dx (fsB n z m r t))->H' m=some (.dK k)->SameBut x H H'->Q .non H'
include T in
theorem w7i:FnOk P w K mg base CX0 1 d.w4f d.w4x ["self","number","house","amounts","rank","turns"] (wbb K d):=by
 refine T.wbz.ok wat (fun vs H Q E h=>?_) (fun cdv A outer s H vs Q E hr h=>?_)
 .obtain⟨x,dx,a,s,n,z,k,r,t,rfl,_⟩:=h;rfl
 obtain⟨x,dx,a,s,n,z,k,r,t,rfl,hx,ha,q⟩:=h
 refine⟨_,(qa3 (qd5 (pv 0) (pv 1) rfl)
  (qa3 (qd5 (pv 0) (pv 2) rfl)
  (qa3 (qd5 (pv 0) (qbe qcu rfl T.w9h wV (qa0 (pv 3) qa2)) rfl)
  (qa3 (qd5 (pv 0) (pv 4) rfl)
  (qa5 (qd5 (pv 0) (pv 5) rfl)))))),?_⟩
 walk_at "d"
 refine qag (σ:=[some (.ref x),some (.int n),some (.str z),some (.ref a),some (.int r),some (tV t)]) rfl ?_
 obtain⟨cl,n1,n2,n3,n4,n5⟩:=clsOk T s
 left
 refine qfs qa1 cl n2 (by show 1 < 1000;decide) ?_
 rw [qbi]
 have nxa:a≠x:=fun z=>by subst z;rw [hx] at ha;cases ha
 have hRa:Rd (upd H x (.ins (qf5 d s) dx (qes "house" (.str z) (qes "number" (.int n) [])))) a (.dK k):=.inl (by rw [qa6 nxa];exact ha)
 left
 rename_i m hm
 have nmx:m≠x:=fun z=>by subst z;rw [qa1] at hm;cases hm
 have hm0:H m=none:=by rw [qa6 nmx] at hm;exact hm
 refine qfs (qad qa1 hm) cl n3 (by show 2 < 1000;decide) ?_
 left
 refine qfs qa1 cl n4 (by show 3 < 1000;decide) ?_
 left
 refine qfs qa1 cl n5 (by show 4 < 1000;decide) ?_
 left
 refine q m _ hm0 (by rw [qa1];rfl) (by rw [qa6 nmx,qa6 nmx,qa6 nmx];exact qa1) fun b o hb e=>?_
 rw [qa6 hb,qa6 hb,qa6 hb,qa6 (qa8 e hm0),qa6 hb]
 exact e
def InW (ws:List Str) (f:Str->Option Int):Prop:=∀z,f z≠none->z∈ws
structure Rr where
 p:Addr
 e:Addr
 n:Int
 i:Nat
 k:List (Key × V)
 f:Str->Option Int
 r:Int
 s:Bool
structure Ob where
 R:Rr
 o:Addr
 m:Addr
 t:Option Int
structure ObAt (d:Ad) (H:Hp) (P:PL) (b:Ob):Prop where
 obj:∃dx,H b.o=some (.ins (qf5 d b.R.s) dx (fsB b.R.n (nmF P b.R.i) b.m b.R.r b.t))
 amt:H b.m=some (.dK b.R.k)
 ad:AD b.R.k b.R.f
 inw:InW P.ws b.R.f
 il:b.R.i < P.nm.length
theorem ObAt.same {d:Ad} {H H':Hp} {P:PL} {b:Ob} (h:ObAt d H P b) (s:qar H H'):ObAt d H' P b:=⟨let ⟨dx,e⟩:=h.obj;⟨dx,s _ _ e⟩,s _ _ h.amt,h.ad,h.inw,h.il⟩
theorem line_kid {el:Nat->Nat} {n:Nat} (lo:Low el n) {j:Nat}:∀k,k < n->j∈qae el k->j≠k->∃c,0 < c/\c < n/\el c=j/\c∈qae el k:=by
 intro k
 induction k using xX with
 |ind k ih=>
  intro kn hj ne
  cases k with
  |zero=>rw [qdd] at hj;simp at hj;omega
  |succ k=>
   have l:=lo (k+1) (by omega) kn
   rw [qc2 lo (by omega) kn] at hj ⊢
   rcases zM.mp hj with h|h
   .exact absurd h ne
   .by_cases c:j=el (k+1)
    .exact⟨k+1,by omega,kn,c.symm,zN ..⟩
    .obtain⟨x,x0,x1,x2,x3⟩:=ih (el (k+1)) l (by omega) h c
     exact⟨x,x0,x1,x2,zH _ x3⟩
theorem Pl.isKid {S:Ts} {nm:Nat->Str} {el:Nat->Nat} {n:Nat} (p:Pl S nm el n) {c:Nat} (c0:0 < c) (cn:c < n):nm c∈qbd S (nm (el c)):=by
 obtain⟨e,h1,h2,h3⟩:=p.get cn
 rw [gK (by omega)] at h3
 rw [<-h2]
 exact zK.mpr ⟨e,yH.mpr ⟨zD h1,gM h3⟩,rfl⟩
theorem flat_in {parts:List (Str × List Str)} {q:Str × List Str} {y:Str} (hq:q∈parts) (hy:y∈q.2):y∈flat parts:=yN.mpr ⟨q.2,zK.mpr ⟨q,hq,rfl⟩,hy⟩
theorem Pl.allBen {S:Ts} {nm:Nat->Str} {el:Nat->Nat} {n:Nat} (p:Pl S nm el n):∀(m j:Nat) (zs:List Str),j < n->Ben S m (nm j) zs->∀k,k < n->j∈qae el k->nm k∈zs:=by
 intro m
 induction m with
 |zero=>
  rintro j _ jn ⟨parts,hp,rfl,hb⟩ k kn hk
  by_cases c:j=k
  .rw [c];exact zN ..
  .obtain⟨x,x0,x1,x2,x3⟩:=line_kid p.low k kn hk c
   have z:=p.isKid x0 x1
   rw [x2] at z
   obtain⟨q,hq,_⟩:=zK.mp (hp.mem_iff.mpr z)
   exact(hb q hq).elim
 |succ m ih=>
  rintro j _ jn ⟨parts,hp,rfl,hb⟩ k kn hk
  by_cases c:j=k
  .rw [c];exact zN ..
  .obtain⟨x,x0,x1,x2,x3⟩:=line_kid p.low k kn hk c
   have z:=p.isKid x0 x1
   rw [x2] at z
   obtain⟨q,hq,e⟩:=zK.mp (hp.mem_iff.mpr z)
   have hB:=hb q hq
   rw [e] at hB
   exact zH _ (flat_in hq (ih x q.2 x1 hB k kn x3))
theorem Pl.benIff {S:Ts} {nm:Nat->Str} {el:Nat->Nat} {n:Nat} (p:Pl S nm el n) {m j:Nat} {zs:List Str} (jn:j < n) (h:Ben S m (nm j) zs) {k:Nat} (kn:k < n):nm k∈zs↔j∈qae el k:=by
 refine⟨fun hk=>?_,p.allBen m j zs jn h k kn⟩
 obtain⟨i,i1,i2,i3⟩:=p.ben m j zs jn h.part _ hk
 rw [p.inj k i kn i1 i2]
 exact i3
def bsV (bs:List Ob):List V:=bs.map fun b=> .ref b.o
def inZ (P:PL) (zs:List Str) (b:Ob):Bool:=decide (nmF P b.R.i∈zs)
def NoHs (K:uR) (d:Ad) (H:Hp) (t:Addr) (x:V) (E:XK):Prop:=∃S:Ts,qf8 d H t S/\WF S/\qe2 K H x/\who S x=none/\∀H',qar H H'->E (.ref d.w0c) none H'
def w7p (K:uR) (d:Ad):Sp:=fun vs H Q E=>(∃(t:Addr) (l x:V),vs=[.ref t,l,x]/\NoHs K d H t x E)\/∃(t lh:Addr) (S:Ts) (P:PL) (bs:List Ob) (z:Str) (e:He),vs=[.ref t,.ref lh,.str z]/\qf8 d H t S/\WF S/\S.at z=some e/\Dep S 12 z/\H lh=some (.lst (bsV bs))/\bs.length<=63/\(∀b∈bs,ObAt d H P b)/\
 ∀(l:Addr) (zs:List Str) H',qar H H'->H l=none->Ben S 12 z zs->H' l=some (.lst (bsV (bs.filter (inZ P zs))))->Q (.ref l) H'
include T in
theorem w4q:FnOk P w K mg base (My.CX1 P w) 17 d.w36 d.w2r ["tree","holds","house"] (w7p K d):=by
 refine okX T.w34 w2j (fun vs H Q E h=>?_) (fun cdv A outer s H vs Q E hr h=>?_)
 .rcases h with ⟨t,l,x,rfl,_⟩ |⟨t,lh,S,P,bs,z,e,rfl,_⟩ <;> rfl
 rcases h with ⟨t,l,x,rfl,S,hT,hW,hx,wn,q⟩ |h
 .refine⟨_,(qa3 (qaf (i:=3) w2j.nd rfl (aM rfl) (qb6 (pv 0) T.w01 T.w08 ((w33 T).mono (by decide)) hr T.w2a .nil qaz (qa0 (pv 2) qa2)))
  (qa5 (qaj (qbm (caps:=[3]) (cn:=["names"]) (qb2 rfl rfl (by rfl) (by rfl) rfl ⟨rfl,trivial⟩ (by rfl) rfl ⟨⟨rfl,rfl,rfl,rfl,_,rfl⟩,trivial⟩ (by decide)) rfl (qau (pv 1)) (fun _ _ _ _=>(qc8 (qan qcc (qb4 (pv 0) rfl) (pv 1) (by rfl)))) (fun _ _ _ _=>(pv 0)))))),?_⟩
  walk_at "d"
  try dsimp only [cxC]
  refine qag (σ:=[some (.ref t),some (l),some (x),none]) rfl ?_
  have ct:=T.w01
  obtain⟨dx,ht⟩:=id hT.1
  left
  refine⟨t,S,x,rfl,hT,qfp hW hT.2.2.2.2.1,hx,fun e he=>?_,fun _ ll hll=>?_⟩
  .rw [wn] at he;cases he
  exact q _ (qa7 hll _)
 obtain⟨t,lh,S,P,bs,z,e,rfl,hT,hW,ae,hD,hL,h63,hB,q⟩:=h
 have een:=(qck ae).2
 refine⟨_,(qa3 (qaf (i:=3) w2j.nd rfl (aM rfl) (qb6 (pv 0) T.w01 T.w08 ((w33 T).mono (by decide)) hr T.w2a .nil qaz (qa0 (pv 2) qa2)))
  (qa5 (qaj (qbm (caps:=[3]) (cn:=["names"]) (qb2 rfl rfl (by rfl) (by rfl) rfl ⟨rfl,trivial⟩ (by rfl) rfl ⟨⟨rfl,rfl,rfl,rfl,_,rfl⟩,trivial⟩ (by decide)) rfl (qau (pv 1)) (fun _ _ _ _=>(qc8 (qan qcc (qb4 (pv 0) rfl) (pv 1) (by rfl)))) (fun _ _ _ _=>(pv 0)))))),?_⟩
 walk_at "d"
 try dsimp only [cxC]
 refine qag (σ:=[some (.ref t),some (.ref lh),some (.str z),none]) rfl ?_
 have ct:=T.w01
 obtain⟨dx,ht⟩:=id hT.1
 left
 refine⟨t,S,.str z,rfl,hT,qfp hW hT.2.2.2.2.1,.inl ⟨_,rfl⟩,fun e' he'=>?_,fun hn=>?_⟩
 rotate_left
 .rw [show who S (.str z)=some e from ae] at hn;cases hn
 have ee:e=e':=uW (ae.symm.trans he')
 subst ee
 rw [een]
 refine⟨hD,fun lb zs H1 s1 hlb elb hBen=>?_⟩
 have hL1:=s1 _ _ hL
 have hB1:∀b∈bs,ObAt d H1 P b:=fun b hb=>(hB b hb).same s1
 clear hT hD he' ht hL hB
 left
 intro C s0 H0 fp acc hacc
 refine qek bs.length (fun i H'=>H'=upd H1 acc (.lst (bsV ((bs.take i).filter (inZ P zs))))) rfl ?_ ?_ ?_ ?_
 .rintro i H' hi rfl
  exact⟨_,.ref bs[i].o,SqL.of (qad hL1 hacc),by unfold bsV;rw [zC,zA hi];rfl⟩
 .rintro H' rfl
  exact⟨_,SqL.of (qad hL1 hacc),by unfold bsV;rw [zB];exact uF _⟩
 .rintro i H' v H'' hi rfl ⟨rfl,hy⟩
  have hv:=hy _ (SqL.of (qad hL1 hacc))
  unfold bsV at hv
  rw [zC,zA hi] at hv
  cases hv
  have hb:=hB1 _ (zJ hi)
  have tk:bs.take (i+1)=bs.take i++ [bs[i]]:=by rw [zO,zA hi];rfl
  generalize hbi:bs[i]=b at*
  obtain⟨dx,hbo⟩:=hb.obj
  have hbo':=qad (o':=.lst (bsV ((bs.take i).filter (inZ P zs)))) hbo hacc
  have elb':=qad (o':=.lst (bsV ((bs.take i).filter (inZ P zs)))) elb hacc
  obtain⟨cl,n1,n2,n3,n4,n5⟩:=clsOk T b.R.s
  have zl:(bsV ((bs.take i).filter (inZ P zs))).length < sizeLine:=by
   unfold bsV
   rw [zB]
   have h1:=zY (inZ P zs) (bs.take i)
   rw [zU] at h1
   show _ < 16777216
   omega
  left
  refine r_inSs (SqL.of elb') ?_
  by_cases m:nmF P b.R.i∈zs
  .rw [gM m]
   left
   rw [qbi,tk,yA,yE,gL (show inZ P zs b=true from gM m)]
   congr 2
   unfold bsV
   rw [zE];rfl
  .rw [gO m]
   left
   rw [tk,yA,yE,gK (show ¬inZ P zs b=true by rw [show inZ P zs b=false from gO m];decide),yR,yB]
 rintro H' rfl
 rw [zS]
 left
 exact q acc zs _ (s1.trans (qa7 hacc _)) (s1.free hacc) hBen qa1
def obPt (b:Ob):Pt:=⟨b.m,b.R.k,b.R.f⟩
def wdo (K:uR) (d:Ad):Sp:=fun vs H Q _=>∃(lh:Addr) (P:PL) (bs:List Ob),vs=[.ref lh]/\H lh=some (.lst (bsV bs))/\bs.length<=63/\P.ws.length<=6/\(∀b∈bs,ObAt d H P b)/\
 ∀(l:Addr) (k:List (Key × V)) H',qar H H'->H l=none->H' l=some (.dK k)->AD k (sumF (bs.map obPt))->Q (.ref l) H'
include T in
theorem w9n:FnOk P w K mg base CX0 4 d.w81 d.w6t ["holds"] (wdo K d):=by
 refine T.w83.ok wdd (fun vs H Q E h=>?_) (fun cdv A outer s H vs Q E hr h=>?_)
 .obtain⟨lh,P,bs,rfl,_⟩:=h;rfl
 obtain⟨lh,P,bs,rfl,hL,h63,w3,hB,q⟩:=h
 refine⟨_,(qa5 (qaj (qa9 ((w8h T).mono (by decide)) hr rfl T.w9l T.w75.kp T.w9p .nil qah (qa0 (qbm (caps:=[]) (cn:=[]) (qb2 rfl rfl (by rfl) (by rfl) rfl trivial (by rfl) rfl trivial (by decide)) rfl (qau (pv 0)) (fun _ _ _ _=>qdk) (fun _ _ _ _=>(qb4 (pv 0) rfl))) qa2)))),?_⟩
 walk_at "d"
 try dsimp only [cxC]
 refine qag (σ:=[some (.ref lh)]) rfl ?_
 left
 intro C s0 H0 fp acc hacc
 refine qek bs.length (fun i H'=>H'=upd H acc (.lst (((bs.take i).map obPt).map fun u=> .ref u.a))) rfl ?_ ?_ ?_ ?_
 .rintro i H' hi rfl
  exact⟨_,.ref bs[i].o,SqL.of (qad hL hacc),by unfold bsV;rw [zC,zA hi];rfl⟩
 .rintro H' rfl
  exact⟨_,SqL.of (qad hL hacc),by unfold bsV;rw [zB];exact uF _⟩
 .rintro i H' v H'' hi rfl ⟨rfl,hy⟩
  have hv:=hy _ (SqL.of (qad hL hacc))
  unfold bsV at hv
  rw [zC,zA hi] at hv
  cases hv
  have hb:=hB _ (zJ hi)
  have tk:bs.take (i+1)=bs.take i++ [bs[i]]:=by rw [zO,zA hi];rfl
  generalize hbi:bs[i]=b at*
  obtain⟨dx,hbo⟩:=hb.obj
  have hbo':=qad (o':=.lst (((bs.take i).map obPt).map fun u=> .ref u.a)) hbo hacc
  obtain⟨cl,n1,n2,n3,n4,n5⟩:=clsOk T b.R.s
  left
  rw [qbi,tk,zE,zE]
  rfl
 rintro H' rfl
 rw [zS]
 have s2:=qa7 hacc (.lst ((bs.map obPt).map fun u=>V.ref u.a))
 have eN:upd H acc (.lst ((bs.map obPt).map fun u=>V.ref u.a)) acc=some (.lst ((bs.map obPt).map fun u=>V.ref u.a)):=qa1
 left
 refine⟨acc,bs.map obPt,P.ws,rfl,SqL.of eN,by omega,fun u hu=>?_,fun l k' H2 s3 hl el hA=>q l k' H2 (s2.trans s3) (s2.free hl) el hA⟩
 obtain⟨b,hb,rfl⟩:=zK.mp hu
 have hb':=hB b hb
 exact⟨s2 _ _ hb'.amt,hb'.ad,hb'.inw⟩
def wgs (K:uR) (d:Ad):Sp:=fun vs H Q E=>(∃(t:Addr) (l x:V),vs=[.ref t,l,x]/\NoHs K d H t x E)\/∃(t lh:Addr) (S:Ts) (P:PL) (bs:List Ob) (z:Str) (e:He),vs=[.ref t,.ref lh,.str z]/\qf8 d H t S/\WF S/\S.at z=some e/\Dep S 12 z/\H lh=some (.lst (bsV bs))/\bs.length<=63/\P.ws.length<=6/\(∀b∈bs,ObAt d H P b)/\
 ∀(l:Addr) (zs:List Str) (k:List (Key × V)) H',qar H H'->H l=none->Ben S 12 z zs->H' l=some (.dK k)->AD k (sumF ((bs.filter (inZ P zs)).map obPt))->Q (.ref l) H'
include T in
theorem wgm:FnOk P w K mg base (My.CX1 P w) 18 d.wep d.wc4 ["tree","holds","house"] (wgs K d):=by
 refine okX T.wfw wgd (fun vs H Q E h=>?_) (fun cdv A outer s H vs Q E hr h=>?_)
 .rcases h with ⟨t,l,x,rfl,_⟩ |⟨t,lh,S,P,bs,z,e,rfl,_⟩ <;> rfl
 rcases h with ⟨t,l,x,rfl,hN⟩ |h
 .refine⟨_,(qa5 (qaj (qa9 ((w9n T).mono (by decide)) hr rfl T.wbd T.w83.kp T.wan .nil qah (qa0 (qbp ((w4q T).mono (by decide)) hr rfl T.w56 T.w34.kp T.w5d .nil qaz (qa0 (pv 0) (qa0 (pv 1) (qa0 (pv 2) qa2)))) qa2)))),?_⟩
  walk_at "d"
  refine qag (σ:=[some (.ref t),some (l),some (x)]) rfl ?_
  left
  exact .inl ⟨t,l,x,rfl,hN⟩
 obtain⟨t,lh,S,P,bs,z,e,rfl,hT,hW,ae,hD,hL,h63,w3,hB,q⟩:=h
 refine⟨_,(qa5 (qaj (qa9 ((w9n T).mono (by decide)) hr rfl T.wbd T.w83.kp T.wan .nil qah (qa0 (qbp ((w4q T).mono (by decide)) hr rfl T.w56 T.w34.kp T.w5d .nil qaz (qa0 (pv 0) (qa0 (pv 1) (qa0 (pv 2) qa2)))) qa2)))),?_⟩
 walk_at "d"
 refine qag (σ:=[some (.ref t),some (.ref lh),some (.str z)]) rfl ?_
 left
 refine .inr ⟨t,lh,S,P,bs,z,e,rfl,hT,hW,ae,hD,hL,h63,hB,fun l zs H1 s1 hl hBen el=>?_⟩
 left
 refine⟨l,P,_,rfl,el,vN (zY ..) h63,w3,fun b hb=>(hB b (yH.mp hb).1).same s1,fun l2 k H2 s2 hl2 el2 hA=>?_⟩
 exact q l2 zs k H2 (s1.trans s2) (s1.free hl2) hBen el2 hA
theorem inV_nat {k:Nat}:∀L:List Nat,inV (.int ((k:Nat):Int)) (L.map iV)=decide (k∈L)
 | []=>rfl
 |z :: r=>by
  have ih:=inV_nat (k:=k) r
  unfold inV at ih ⊢
  rw [zV,yW,ih]
  by_cases c:z=k
  .subst c
   rw [show eqV (iV z) (V.int ((z:Nat):Int))=true from beq_self_eq_true _,gM (zN ..)]
   rfl
  .rw [show eqV (iV z) (V.int ((k:Nat):Int))=false from beq_false_of_ne fun e=>c (by omega),eU]
   by_cases m:k∈r
   .rw [gM m,gM (zH _ m)]
   .rw [gO m,gO fun h=>(zM.mp h).elim (fun e=>c e.symm) m]
theorem flat_nats (L:List Nat):(L.map iV).all qcs=true:=by
 rw [dI]
 exact yD.mpr fun _ _=>rfl
theorem r_inN {K:uR} {H:Hp} {Q:VK} {p:Addr} {k:Nat} {ki:Int} {L:List Nat} (h:SqL K H p (L.map iV)) (e:((k:Nat):Int)=ki) (q:Q (.bl (decide (k∈L))) H):rIn K false (.int ki) (.ref p) H Q:=⟨p,_,rfl,.inl h,rfl,flat_nats L,by rw [<-e,inV_nat];exact q⟩
theorem ObAt.put {d:Ad} {H:Hp} {P:PL} {b:Ob} {q:Addr} {o:HO} (h:ObAt d H P b) (n1:b.o≠q) (n2:b.m≠q):ObAt d (upd H q o) P b:=⟨let ⟨dx,e⟩:=h.obj;⟨dx,by rw [qa6 n1];exact e⟩,by rw [qa6 n2];exact h.amt,h.ad,h.inw,h.il⟩
def qbq (ns:List Int) (k:Int):Int:=if k <((ns.length:Nat):Int) then cell ns k else if ns=[] then 7919*k else (cell ns (k%((ns.length:Nat):Int))).fdiv (k+1)+7919*k
def wg9 (K:uR) (d:Ad):Sp:=fun vs H Q _=>∃(a:Addr) (ns:List Int) (k:Int),vs=[.ref a,.int k]/\SqL K H a (ns.map V.int)/\0<=k/\k<=1000/\ns.length<=63/\∀H',qar H H'->Q (.int (qbq ns k)) H'
def wft (K:uR) (d:Ad):Sp:=fun vs H Q _=>∃c k m:Int,vs=[.int c,.int k,.int m]/\0<=k/\k<=100000/\1<=m/\m<=100000/\∀r:Int,0<=r->r < m->Q (.int r) H
section
variable {K: uR} {d: Ad} {H: Hp} {Q: VK} {E: XK}
theorem qc3 {c k m:Int} (k0:0<=k) (k1:k<=100000) (m0:1<=m) (m1:m<=100000) (q:∀r:Int,0<=r->r < m->Q (.int r) H):wft K d [.int c,.int k,.int m] H Q E:=⟨c,k,m,rfl,k0,k1,m0,m1,q⟩
end
include T in
theorem w1y:FnOk P w K mg base CX0 1 d.wf3 d.wc1 ["_law_script","_law_k"] (wg9 K d):=by
 refine T.w38.ok wgb (fun vs H Q E h=>?_) (fun cdv A outer s H vs Q E hr h=>?_)
 .obtain⟨a,ns,k,rfl,_⟩:=h;rfl
 obtain⟨a,ns,k,rfl,hS,k0,k1,hn,q⟩:=h
 refine⟨_,(qa3 (qbg (qan op_lt (pv 1) (qai qaw rfl T.w2v vH (qa0 (pv 0) qa2)) (qat _)) (qa5 (qaj (qak qal (pv 0) (pv 1) (fun _ _=>rfl)))) qas)
  (qa3 (qbg (qan (op_eqD (hu8 hr)) (pv 0) pe_lst0 (qat _)) (qa5 (qaj (qam qbw qa4 (pv 1)))) qas)
  (qa5 (qaj (qam qb0 (qam qcj (qak qal (pv 0) (qam qc5 (pv 1) (qai qaw rfl T.w2v vH (qa0 (pv 0) qa2))) (fun _ _=>rfl)) (qam qb0 (pv 1) qa4)) (qam qbw qa4 (pv 1))))))),?_⟩
 walk_at "d"
 refine qag (σ:=[some (.ref a),some (.int k)]) rfl ?_
 left
 have hl:(ns.map V.int).length=ns.length:=zB _
 have ks:k.natAbs < 2^600:=vR (show k.natAbs<=1000 by omega) (by decide)
 rw [hl]
 refine i_2 (fun c=>?_) (fun c=>?_)
 .have q:=q H (qar.refl _)
  unfold qbq at q
  rw [gL c] at q
  left
  refine qb7 hS (cell_at k0 c) ?_
  left
  exact q
 .left
  refine r_lst0 fun pe hpe npe=>?_
  have s1:=qa7 hpe (.lst [])
  have hS1:=s1.seq hS
  have q:=q _ s1
  have epe:upd H pe (.lst []) pe=some (.lst []):=qa1
  generalize upd H pe (.lst [])=H1 at*
  have ne:=npe a _ hS
  refine r_eqD ne (by decide) (deq_nilL (n:=0) hS1 (SqL.of epe) ne) ?_
  have em:(ns.map V.int=[])=(ns=[]):=propext ⟨fun e=>by simpa using e,fun e=>by rw [e];rfl⟩
  simp only [em]
  unfold qbq at q
  rw [gK c] at q
  by_cases c2:ns=[]
  .rw [gL c2] at q
   rw [gM c2]
   left
   exact q
  .rw [gK c2] at q
   rw [gO c2]
   have l0:0 < ns.length:=List.length_pos_iff.mpr c2
   left
   rw [hl]
   have e0:=vZ k (show ((ns.length:Nat):Int)≠0 by omega)
   have e1:=vX k (show (0:Int) <((ns.length:Nat):Int) by omega)
   left
   refine qb7 hS1 (cell_at e0 e1) ?_
   left
   exact q
include T in
theorem w0p:FnOk P w K mg base CX0 1 d.wgi d.we2 ["_law_cell_here","_law_k","_law_many"] (wft K d):=by
 refine T.w25.ok wfy (fun vs H Q E h=>?_) (fun cdv A outer s H vs Q E hr h=>?_)
 .obtain⟨c,k,m,rfl,_⟩:=h;rfl
 obtain⟨c,k,m,rfl,k0,k1,m0,m1,q⟩:=h
 refine⟨_,(qa3 (qaf (i:=3) wfy.nd rfl (uI rfl) (qam qc5 (qam qbw (qam qb0 (qam qc5 (pv 0) qa4) (qam qbw qa4 (pv 1))) qa4) qa4))
  (qa5 (qaj (qam qc5 (qam qcj (qam qc5 (qam qb0 (qam qbw (pv 3) (pv 3)) (pv 3)) qa4) qa4) (pv 2))))),?_⟩
 walk_at "d"
 refine qag (σ:=[some (.int c),some (.int k),some (.int m),none]) rfl ?_
 left
 have a0:=vZ c (show (1000003:Int)≠0 by decide)
 have a1:=vX c (show (0:Int) < 1000003 by decide)
 generalize c%1000003=u at*
 left
 have n0:=vZ ((u+7919*k)*48271) (show (2147483647:Int)≠0 by decide)
 have n1:=vX ((u+7919*k)*48271) (show (0:Int) < 2147483647 by decide)
 generalize (u+7919*k)*48271%2147483647=y at*
 left
 exact q _ (vZ _ (by omega)) (vX _ (by omega))
def nJ (c1 sh A:Int) (j:Nat):Nat:=letc (c1.fdiv (0+(j:Int)+1)+(0+(j:Int))*(0+(j:Int))+sh*if decide (0+(j:Int)=A)=true then 1 else 0)
def nB (c1 sh A:Int) (L:Nat):List Nat:=(vC L).map (nJ c1 sh A)
def nE (c0:Int):Int:=c0.fdiv 64%2
def nL (c0:Int):Nat:=(1+c0%(8 - nE c0)).toNat
def nA (c0:Int):Int:=c0.fdiv 8%((nL c0:Nat):Int)
def nmC (c0 c1:Int) (m:Int):List Nat:=if nE c0=1 then nB c1 (m.fdiv 2) (nA c0) (nL c0)++(if m%2=1 then [letc c1] else []) else nB c1 m (nA c0) (nL c0)
def nmS (c0 c1:Int) (m:Int):Str:=ofL (nmC c0 c1 m)
theorem nE_or (c0:Int):nE c0=0\/nE c0=1:=by unfold nE;omega
theorem nL_ok (c0:Int):1<=nL c0/\((nL c0:Nat):Int)<=8 - nE c0/\((nL c0:Nat):Int)=1+c0%(8 - nE c0):=by
 have h:=nE_or c0
 unfold nL
 generalize nE c0=e at*
 have f0:=vZ c0 (show (8 - e:Int)≠0 by omega)
 have f1:=vX c0 (show (0:Int) < 8 - e by omega)
 omega
theorem nA_ok (c0:Int):0<=nA c0/\nA c0 <((nL c0:Nat):Int):=by
 have h:=(nL_ok c0).1
 unfold nA
 exact⟨vZ _ (by omega),vX _ (by omega)⟩
theorem qd1 (c1 sh A:Int) (L:Nat):(nB c1 sh A L).length=L:=by unfold nB;rw [zB,yQ]
theorem nB_inj {c1 sh sh' A:Int} {L:Nat} (a0:0<=A) (a1:A < L) (h0:0<=sh) (h1:sh < 26) (h2:0<=sh') (h3:sh' < 26) (h:nB c1 sh A L=nB c1 sh' A L):sh=sh':=by
 have hj:=congrArg (fun l:List Nat=>l[A.toNat]?) h
 unfold nB at hj
 simp only [zC] at hj
 rw [List.getElem?_range (by omega)] at hj
 have hj':nJ c1 sh A A.toNat=nJ c1 sh' A A.toNat:=by simpa using hj
 unfold nJ at hj'
 have e:decide ((0:Int)+(A.toNat:Int)=A)=true:=gM (by omega)
 rw [e,gL rfl] at hj'
 have z:=letc_inj hj'
 generalize c1.fdiv (0+(A.toNat:Int)+1)+(0+(A.toNat:Int))*(0+(A.toNat:Int))=x at z
 omega
theorem qg2 {l:List Nat} (h1:1<=l.length) (h8:l.length<=8) (h:∀x∈l,isL x=true):qdr (ofL l)=true:=by
 unfold qdr
 rw [qfx,qf4,vU,vU,decide_eq_true_iff,decide_eq_true_iff,yD]
 exact⟨⟨h1,h8⟩,h⟩
theorem nB_isL (c1 sh A:Int) (L:Nat):∀x∈nB c1 sh A L,isL x=true:=fun x hx=>by
 unfold nB at hx
 obtain⟨j,_,rfl⟩:=zK.mp hx
 exact letc_isL _
theorem nmS_good (c0 c1 m:Int):qdr (nmS c0 c1 m)=true:=by
 obtain⟨h1,h2,_⟩:=nL_ok c0
 unfold nmS nmC
 rcases nE_or c0 with e|e
 .rw [gK (by omega)]
  exact qg2 (by rw [qd1];exact h1) (by rw [qd1];omega) (nB_isL _ _ _ _)
 .rw [gL e]
  by_cases c:m%2=1
  .rw [gL c]
   refine qg2 (by rw [zG,qd1];omega) (by rw [zG,qd1,zT];omega) fun x hx=>?_
   rcases zR.mp hx with h|h
   .exact nB_isL _ _ _ _ x h
   .rw [zF.mp h];exact letc_isL _
  .rw [gK c,yB]
   exact qg2 (by rw [qd1];exact h1) (by rw [qd1];omega) (nB_isL _ _ _ _)
theorem nmS_inj {c0 c1 m m':Int} (m0:0<=m) (m1:m < 26) (m2:0<=m') (m3:m' < 26) (h:nmS c0 c1 m=nmS c0 c1 m'):m=m':=by
 have z:=ofL_inj h
 obtain⟨a0,a1⟩:=nA_ok c0
 unfold nmC at z
 have d1:m.fdiv 2=m / 2:=aI m (by decide)
 have d2:m'.fdiv 2=m' / 2:=aI m' (by decide)
 rcases nE_or c0 with e|e
 .rw [gK (by omega),gK (by omega)] at z
  exact nB_inj a0 a1 m0 m1 m2 m3 z
 .rw [gL e,gL e,d1,d2] at z
  have hl:=congrArg xA z
  rw [zG,zG,qd1,qd1] at hl
  have hx:=nB_inj a0 a1 (show 0<=m / 2 by omega) (by omega) (show 0<=m' / 2 by omega) (by omega) (List.append_inj_left z (by rw [qd1,qd1]))
  by_cases c:m%2=1
  .by_cases c':m'%2=1
   .omega
   .rw [gL c,gK c'] at hl
    have hl:nL c0+1=nL c0+0:=hl
    omega
  .by_cases c':m'%2=1
   .rw [gK c,gL c'] at hl
    have hl:nL c0+0=nL c0+1:=hl
    omega
   .omega
structure Nms (ss:List Str) (n:Nat):Prop where
 len:ss.length=n
 nd:ss.Nodup
 good:∀z∈ss,qdr z=true
theorem nms_of {c0 c1 b:Int} {n:Nat} (b0:0<=b) (b1:b+n<=26):Nms ((vC n).map fun(k:Nat)=>nmS c0 c1 (b+(k:Int))) n:=by
 refine⟨by rw [zB,yQ],?_,fun z hz=>?_⟩
 .show eZ _ _
  rw [bI]
  refine List.Pairwise.imp_of_mem (R:=fun a b=>a < b) (fun {x y} hx hy lt e=>?_) List.pairwise_lt_range
  have h1:=yT.mp hx
  have h2:=yT.mp hy
  have:=nmS_inj (by omega) (by omega) (by omega) (by omega) e
  omega
 .obtain⟨k,_,rfl⟩:=zK.mp hz
  exact nmS_good _ _ _
theorem ofL_app (l l':List Nat):ofL l++ofL l'=ofL (l++l'):=by
 have e:(ofL l++ofL l').cps=(ofL (l++l')).cps:=by
  rw [Str.cps_append]
  simp [ofL]
 exact congrArg Str.mk e
def wg8 (K:uR) (d:Ad):Sp:=fun vs H Q _=>∃(a:Addr) (ns:List Int) (m:Int),vs=[.ref a,.int m]/\SqL K H a (ns.map V.int)/\ns.length<=63/\0<=m/\m<=25/\∀H',qar H H'->Q (.str (nmS (qbq ns 0) (qbq ns 1) m)) H'
include T in
theorem we7:FnOk P w K mg base CX0 2 d.we9 d.wcz ["_law_script","_law_number"] (wg8 K d):=by
 refine T.wdz.ok w2n (fun vs H Q E h=>?_) (fun cdv A outer s H vs Q E hr h=>?_)
 .obtain⟨a,ns,m,rfl,_⟩:=h;rfl
 obtain⟨a,ns,m,rfl,hS,h63,m0,m1,q⟩:=h
 refine⟨_,(qa3 (qaf (i:=2) w2n.nd rfl (uI rfl) qco)
  (qa3 (qaf (i:=3) w2n.nd rfl (uI rfl) (qa9 ((w1y T).mono (by decide)) hr rfl T.w3i T.w38.kp T.w3j .nil qah (qa0 (pv 0) (qa0 qa4 qa2))))
  (qa3 (qaf (i:=4) w2n.nd rfl (uI rfl) (qam qb0 qa4 (qam qc5 (pv 3) (qam qez qa4 (qam qc5 (qam qcj (pv 3) qa4) qa4)))))
  (qa3 (qaf (i:=5) w2n.nd rfl (uI rfl) (qam qc5 (qam qcj (pv 3) qa4) (pv 4)))
  (qa3 (qaf (i:=6) w2n.nd rfl (uI rfl) (pv 1))
  (qa3 (qaf (i:=7) w2n.nd rfl (uI rfl) qco)
  (qa3 (qd6 (qbg (qan qdo (qam qc5 (qam qcj (pv 3) qa4) qa4) qa4 (qat _)) (qa3 (qaf (i:=6) w2n.nd rfl (uI rfl) (qam qcj (pv 1) qa4))
  (qa5 (qaf (i:=7) w2n.nd rfl (uI rfl) (qam op_rep (qak ix_str (pv 2) (qam qc5 (qa9 ((w1y T).mono (by decide)) hr rfl T.w3i T.w38.kp T.w3j .nil qah (qa0 (pv 0) (qa0 qa4 qa2))) qa4) (fun _ _=>rfl)) (qam qc5 (pv 1) qa4))))) qas))
  (qa3 (qaf (i:=8) w2n.nd rfl (uI rfl) qco)
  (qa3 (qb8 vA rfl (qbt rfl T.w3e (qa0 (pv 4) qa2)) (qab (i:=9) w2n.nd rfl (uI rfl)) (qa5 (qaf (i:=8) w2n.nd rfl (uI rfl) (qam op_catS (pv 8) (qak ix_str (pv 2) (qam qc5 (qam qb0 (qam qb0 (qam qcj (qa9 ((w1y T).mono (by decide)) hr rfl T.w3i T.w38.kp T.w3j .nil qah (qa0 (pv 0) (qa0 qa4 qa2))) (qam qb0 (pv 9) qa4)) (qam qbw (pv 9) (pv 9))) (qam qbw (pv 6) (qbe qe1 rfl T.wef yZ (qa0 (qbv qdo (pv 9) (pv 5) (qat _)) qa2)))) qa4) (fun _ _=>rfl))))))
  (qa5 (qaj (qam op_catS (pv 8) (pv 7))))))))))))),?_⟩
 walk_at "d"
 refine qag (σ:=[some (.ref a),some (.int m),none,none,none,none,none,none,none,none]) rfl ?_
 left
 refine⟨a,ns,0,rfl,hS,by decide,by decide,h63,fun H1 s1=>?_⟩
 generalize hc0:qbq ns 0=c0 at*
 generalize hc1:qbq ns 1=c1 at*
 have hS1:=s1.seq hS
 obtain⟨L1,L8,eL⟩:=nL_ok c0
 obtain⟨A0,A1⟩:=nA_ok c0
 have E01:=nE_or c0
 have q:∀H',qar H1 H'->Q (.str (nmS c0 c1 m)) H':=fun H' s'=>q H' (s1.trans s')
 left
 have eL':1+c0%(8 - c0.fdiv 64%2)=((nL c0:Nat):Int):=eL.symm
 rw [eL']
 refine r_I (by omega) ?_
 have eA:c0.fdiv 8%((nL c0:Nat):Int)=nA c0:=rfl
 rw [eA]
 clear eL eL' eA
 have eN:((nL c0:Nat):Int).toNat=nL c0:=by omega
 generalize hLi:((nL c0:Nat):Int)=Li at*
 generalize hAi:nA c0=A at*
 left
 refine r_cut (fun σ' H'=>∃(sh:Int) (tl:List Nat),σ'=[some (.ref a),some (.int m),some (.str ABC),some (.int c0),some (.int Li),some (.int A),some (.int sh),some (.str (ofL tl)),none,none]/\qar H1 H'/\0<=sh/\sh<=25/\tl.length<=1/\nmC c0 c1 m=nB c1 sh A (nL c0)++tl) ?_ ?_
 .left
  refine i_2 (fun c=>?_) (fun c=>?_)
  .have ed:m.fdiv 2=m / 2:=aI m (by decide)
   have ez:nmC c0 c1 m=nB c1 (m.fdiv 2) A (nL c0)++(if m%2=1 then [letc c1] else []):=by unfold nmC;rw [gL (show nE c0=1 from c),hAi]
   left
   refine⟨a,ns,1,rfl,hS1,by decide,by decide,h63,fun H2 s2=>?_⟩
   rw [hc1]
   left
   refine r_ixS (by decide) (letAt _) ?_
   left
   refine r_rep (by omega) (by omega) ?_
   left
   refine⟨m.fdiv 2,if m%2=1 then [letc c1] else [],?_,s2,by omega,by omega,by split;exact uF _;exact vY _,ez⟩
   by_cases c3:m%2=1
   .rw [gL c3,gK (by omega)];rfl
   .rw [gK c3,gL (by omega)];rfl
  .left
   refine⟨m, [],rfl,qar.refl _,m0,by omega,by decide,?_⟩
   unfold nmC
   rw [gK (show ¬nE c0=1 from c),yB,hAi]
 rintro σ' H2 ⟨sh,tl,rfl,s2,h0,h1,ht,ez⟩
 left
 rw [eN]
 have shs:sh.natAbs < 2^600:=vR (show sh.natAbs<=25 by omega) (by decide)
 refine qcz (fun i σ H'=>∃(w:Option V),σ=[some (.ref a),some (.int m),some (.str ABC),some (.int c0),some (.int Li),some (.int A),some (.int sh),some (.str (ofL tl)),some (.str (ofL (nB c1 sh A i))),w]/\qar H2 H') ⟨_,rfl,qar.refl _⟩ ?_ ?_
 .rintro i σ H' hi ⟨w,rfl,s3⟩
  have ki:((0:Int)+(i:Int)).natAbs < 2^600:=vR (show ((0:Int)+(i:Int)).natAbs<=8 by omega) (by decide)
  have ez:nB c1 sh A (i+1)=nB c1 sh A i++ [nJ c1 sh A i]:=by unfold nB;rw [List.range_succ,zE];rfl
  have lz:(ofL (nB c1 sh A i)).length=i:=by rw [qfx,qd1]
  left
  refine⟨a,ns,1,rfl,(s2.trans s3).seq hS1,by decide,by decide,h63,fun H4 s4=>?_⟩
  rw [hc1]
  left
  refine r_ixS (by decide) (letAt _) ?_
  refine r_catS ?_ ?_
  .rw [lz];show _+1<=16777216;omega
  left
  rw [ez,<-ofL_snoc]
  exact⟨_,rfl,s3.trans s4⟩
 .rintro σ H' ⟨w,rfl,s3⟩
  have ln:(ofL (nB c1 sh A (nL c0))).length=nL c0:=by rw [qfx,qd1]
  left
  refine r_catS (by rw [ln,qfx];show nL c0+_<=16777216;omega) ?_
  left
  have en:ofL (nB c1 sh A (nL c0))++ofL tl=nmS c0 c1 m:=by
   unfold nmS
   rw [ez]
   exact ofL_app _ _
  rw [en]
  exact q _ (s2.trans s3)
theorem upL_congr {el el':Nat->Nat} {n:Nat} (lo:∀j,0 < j->j<=n->el j < j) (h:∀j,0 < j->j<=n->el j=el' j):∀(f k:Nat),k<=n->upL el f k=upL el' f k
 |0,_,_=>rfl
 |f+1,k,hk=>by
  show k ::(if k=0 then [] else upL el f (el k))=k ::(if k=0 then [] else upL el' f (el' k))
  by_cases c:k=0
  .rw [gL c,gL c]
  .rw [gK c,gK c,<-h k (by omega) hk,upL_congr lo h f (el k) (by have:=lo k (by omega) hk;omega)]
structure LnsAt (H:Hp) (le:Addr) (las:List Addr) (es:List Nat):Prop where
 top:H le=some (.lst (las.map V.ref))
 len:las.length=es.length+1
 row:∀(k:Nat) (a:Addr),las[k]?=some a->H a=some (.lst ((qae (elN es) k).map iV))
 lo:∀(k e:Nat),es[k]?=some e->e<=k/\e<=10
theorem LnsAt.same {H H':Hp} {le:Addr} {las:List Addr} {es:List Nat} (h:LnsAt H le las es) (s:qar H H'):LnsAt H' le las es:=⟨s _ _ h.top,h.len,fun k a e=>s _ _ (h.row k a e),h.lo⟩
theorem LnsAt.at {H:Hp} {le:Addr} {las:List Addr} {es:List Nat} (h:LnsAt H le las es) {k:Nat} (hk:k < es.length+1):∃a,las[k]?=some a/\atI (las.map V.ref) ((k:Nat):Int)=some (.ref a)/\H a=some (.lst ((qae (elN es) k).map iV)):=by
 have e:=zA (show k < las.length by rw [h.len];exact hk)
 exact⟨_,e,qav (by rw [zC,e];rfl),h.row k _ e⟩
theorem es_snoc {es:List Nat} {x:Nat} (h:∀(k e:Nat),es[k]?=some e->e<=k/\e<=10) (hx:x<=es.length) (h10:x<=10):∀(k e:Nat),(es++ [x])[k]?=some e->e<=k/\e<=10:=fun k e hk=>by
 by_cases c:k < es.length
 .rw [yC c] at hk
  exact h k e hk
 .rw [zZ (by omega)] at hk
  by_cases z:k - es.length=0
  .rw [z] at hk
   have:x=e:=by simpa using hk
   subst this
   exact⟨by omega,h10⟩
  .rw [yK (by rw [zT];omega)] at hk
   cases hk
theorem elN_snoc {es:List Nat} {x j:Nat} (h0:0 < j) (h:j<=es.length):elN (es++ [x]) j=elN es j:=by
 cases j with
 |zero=>omega
 |succ b=>
  have h1:b < es.length:=by omega
  rw [elN_at (es:=es++ [x]) (b:=b) (by rw [zG];omega),elN_at h1,List.getElem_append_left h1]
theorem line_snoc {es:List Nat} {x j:Nat} (lo:∀(k e:Nat),es[k]?=some e->e<=k/\e<=10) (h:j<=es.length):qae (elN (es++ [x])) j=qae (elN es) j:=by
 have low:=qds (fun k e h=>(lo k e h).1) (es.length+1)
 exact(upL_congr (n:=es.length) (fun i h0 h1=>low i h0 (by omega)) (fun i h0 h1=>(elN_snoc h0 h1).symm) j j h).symm
theorem line_new {es:List Nat} {x:Nat} (lo:∀(k e:Nat),es[k]?=some e->e<=k/\e<=10) (hx:x<=es.length) (h10:x<=10):qae (elN (es++ [x])) (es.length+1)=(es.length+1) :: qae (elN es) x:=by
 have low:=qds (fun k e h=>(es_snoc lo hx h10 k e h).1) (es.length+2)
 rw [qc2 low (by omega) (by omega)]
 have e:elN (es++ [x]) (es.length+1)=x:=by
  rw [elN_at (es:=es++ [x]) (b:=es.length) (by rw [zG];show _ < _+1;omega)]
  simp
 rw [e,line_snoc lo hx]
theorem LnsAt.snoc {H:Hp} {le p:Addr} {las:List Addr} {es:List Nat} {x:Nat} (h:LnsAt H le las es) (hx:x<=es.length) (h10:x<=10) (hp:H p=some (.lst (((es.length+1) :: qae (elN es) x).map iV))) (np:p≠le) (nl:∀a∈las,a≠le):LnsAt (upd H le (.lst (las.map V.ref++ [V.ref p]))) le (las++ [p]) (es++ [x]):=by
 refine⟨by rw [qa1,zE];rfl,by rw [zG,zG,h.len];rfl,fun k a e=>?_,es_snoc h.lo hx h10⟩
 have hl:=h.len
 by_cases c:k < las.length
 .rw [yC c] at e
  rw [qa6 (nl a (zD e)),line_snoc h.lo (by omega)]
  exact h.row k a e
 .have h1:=(uH.mp e).1
  rw [zG,zT] at h1
  have ek:k=las.length:=by omega
  rw [zZ (by omega),ek,dL] at e
  have e:p=a:=by simpa using e
  rw [<-e,qa6 np,ek,hl,line_new h.lo hx h10]
  exact hp
def wfk (K:uR) (d:Ad):Sp:=fun vs H Q _=>∃(a:Addr) (ns:List Int) (n:Nat),vs=[.ref a,.int (n:Int)]/\SqL K H a (ns.map V.int)/\ns.length<=63/\1<=n/\n<=6/\
 ∀(le:Addr) (las:List Addr) (es:List Nat) (H':Hp),qar H H'->LnsAt H' le las es->es.length+1=n->Q (.ref le) H'
include T in
theorem wf8:FnOk P w K mg base CX0 2 d.wc3 d.wa9 ["_law_script","_law_many"] (wfk K d):=by
 refine T.weo.ok w6l (fun vs H Q E h=>?_) (fun cdv A outer s H vs Q E hr h=>?_)
 .obtain⟨a,ns,n,rfl,_⟩:=h;rfl
 obtain⟨a,ns,n,rfl,hS,h63,n1,n6,q⟩:=h
 refine⟨_,(qa3 (qaf (i:=2) w6l.nd rfl (uI rfl) (qbl (qa0 (qbl (qa0 qa4 qa2)) qa2)))
  (qa3 (qb8 vA rfl (pi_range2 rfl T.w3e (qa0 qa4 (qa0 (pv 1) qa2))) (qab (i:=3) w6l.nd rfl (uI rfl)) (qa3 (qaf (i:=4) w6l.nd rfl (uI rfl) (qa9 ((w0p T).mono (by decide)) hr rfl T.w2c T.w25.kp T.w2b .nil qah (qa0 (qa9 ((w1y T).mono (by decide)) hr rfl T.w3i T.w38.kp T.w3j .nil qah (qa0 (pv 0) (qa0 qa4 qa2))) (qa0 (pv 3) (qa0 (pv 3) qa2)))))
  (qa3 (qd6 (qbg (qan qdo (qam qc5 (qa9 ((w1y T).mono (by decide)) hr rfl T.w3i T.w38.kp T.w3j .nil qah (qa0 (pv 0) (qa0 qa4 qa2))) qa4) qa4 (qat _)) (qa5 (qaf (i:=4) w6l.nd rfl (uI rfl) (qam qez (pv 3) qa4))) qas))
  (qa5 (qb3 (qdh vB vE vF qb1 (pv 2) (qa0 (qam op_cat (qbl (qa0 (pv 3) qa2)) (qak qal (pv 2) (pv 4) (fun _ _=>rfl))) qa2)))))))
  (qa5 (qaj (pv 2))))),?_⟩
 walk_at "d"
 refine qag (σ:=[some (.ref a),some (.int (n:Int)),none,none,none]) rfl ?_
 left
 rename_i l0 hl0 le hle
 have s1:=qa7 hl0 (.lst [.int 0])
 have e0:upd H l0 (.lst [.int 0]) l0=some (.lst [.int 0]):=qa1
 generalize upd H l0 (.lst [.int 0])=H1 at*
 have s2:=s1.trans (qa7 hle (.lst [V.ref l0]))
 have e02:=qad (o':=.lst [V.ref l0]) e0 hle
 have ele:upd H1 le (.lst [V.ref l0]) le=some (.lst [V.ref l0]):=qa1
 have nl0:l0≠le:=qa8 e0 hle
 have fle:H le=none:=s1.free hle
 generalize upd H1 le (.lst [V.ref l0])=H2 at*
 have L0:LnsAt H2 le [l0] []:=⟨ele,rfl,fun k x e=>by
  have hk:k=0:=by
   have:=(uH.mp e).1
   rw [zT] at this
   omega
  subst hk
  have e:l0=x:=by simpa using e
  rw [<-e];exact e02,fun k e h=>by simp at h⟩
 clear e0 e02 ele hl0 hle s1
 generalize hni:((n:Nat):Int)=ni at*
 unfold iRng2
 left
 refine⟨1,_,rfl,⟨by decide,by decide,by omega,by omega⟩,?_⟩
 refine qcz (fun i σ H'=>∃(las:List Addr) (es:List Nat) (w3 w4:Option V),σ=[some (V.ref a),some (V.int ni),some (V.ref le),w3,w4]/\qar H H'/\LnsAt H' le las es/\es.length=i/\∀x∈las,x≠le) ⟨[l0], [],_,_,rfl,s2,L0,rfl,fun x hx=>by rw [zF.mp hx];exact nl0⟩ ?_ ?_
 .rintro i σ H' hi ⟨las,es,w3,w4,rfl,sm,L,hel,nla⟩
  have hi:i <(ni - 1).toNat:=hi
  have hS':=sm.seq hS
  left
  refine⟨a,ns,2,rfl,hS',by decide,by decide,h63,fun H3 s3=>?_⟩
  left
  refine qc3 (by omega) (by omega) (by omega) (by omega) fun r r0 r1=>?_
  left
  refine r_cut (fun σ' H4=>∃e:Nat,σ'=[some (V.ref a),some (V.int ni),some (V.ref le),some (V.int (1+(i:Int))),some (V.int (e:Int))]/\qar H3 H4/\e<=i) ?_ ?_
  .left
   refine⟨a,ns,2,rfl,s3.seq hS',by decide,by decide,h63,fun H4 s4=>?_⟩
   left
   refine i_2 (fun c=>?_) (fun c=>?_)
   .left
    exact⟨i,by rw [show (1:Int)+(i:Int) - 1=(i:Int) by omega],s4,uF _⟩
   .left
    exact⟨r.toNat,by rw [Int.toNat_of_nonneg r0],s4,by omega⟩
  rintro σ' H4 ⟨e,rfl,s4,he⟩
  have t4:=s3.trans s4
  have L4:=L.same t4
  obtain⟨x,hx,ax,ex⟩:=L4.at (k:=e) (by omega)
  have etop:=L4.top
  have zl:(las.map V.ref).length < sizeLine:=by rw [zB,L.len];show _ < 16777216;omega
  have ll:=qcd (qds (fun k e h=>(L.lo k e h).1) (es.length+1)) e (by omega)
  clear r0 r1
  generalize hei:((e:Nat):Int)=ei at*
  left
  rename_i pk hpk
  have s5:=qa7 hpk (.lst [V.int (1+(i:Int))])
  have epk:upd H4 pk (.lst [V.int (1+(i:Int))]) pk=some (.lst [V.int (1+(i:Int))]):=qa1
  have L5:=L4.same s5
  generalize upd H4 pk (.lst [V.int (1+(i:Int))])=H5 at*
  refine qb7 (SqL.of L5.top) ax ?_
  refine r_cat epk (s5 _ _ ex) (by rw [zB];show 1+_<=16777216;omega) fun p hp=>?_
  have eap: [V.int (1+(i:Int))]++(qae (elN es) e).map iV=((es.length+1) :: qae (elN es) e).map iV:=by
   rw [zV]
   show V.int (1+(i:Int)) :: _=V.int (((es.length+1:Nat)):Int) :: _
   rw [show (1:Int)+(i:Int)=((es.length+1:Nat):Int) by omega];rfl
  rw [eap]
  have s6:=qa7 hp (.lst (((es.length+1) :: qae (elN es) e).map iV))
  have ep:upd H5 p (.lst (((es.length+1) :: qae (elN es) e).map iV)) p=some (.lst (((es.length+1) :: qae (elN es) e).map iV)):=qa1
  have L6:=L5.same s6
  have np:p≠le:=(qa8 L5.top hp).symm
  generalize upd H5 p (.lst (((es.length+1) :: qae (elN es) e).map iV))=H6 at*
  clear etop epk ex ax hpk hp eap
  have etop:=L6.top
  left
  refine⟨las++ [p],es++ [e],_,_,rfl,qaq (((sm.trans t4).trans s5).trans s6) fle,L6.snoc (by omega) (by omega) ep np nla,by rw [zG,hel];rfl,fun y hy=>?_⟩
  rcases zR.mp hy with hy|hy
  .exact nla y hy
  .rw [zF.mp hy];exact np
 .rintro σ H' ⟨las,es,w3,w4,rfl,sm,L,hel,nla⟩
  left
  exact q le las es H' sm L (by omega)
def tdS (f:Str->Option Int) (p:Str × Int):Str->Option Int:=if 0 < p.2 then putF' f p.1 p.2 else f
def tdP (k:List (Key × V)) (p:Str × Int):List (Key × V):=if 0 < p.2 then qcn k (vG p.1) (.int p.2) else k
def tdF (l:List (Str × Int)):Str->Option Int:=l.foldl tdS noF
def tdK (l:List (Str × Int)):List (Key × V):=l.foldl tdP []
theorem td_snoc (l:List (Str × Int)) (p:Str × Int):tdF (l++ [p])=tdS (tdF l) p/\tdK (l++ [p])=tdP (tdK l) p:=by
 unfold tdF tdK
 rw [cR,cR]
 exact⟨rfl,rfl⟩
theorem td_ad0:∀(l:List (Str × Int)) {k:List (Key × V)} {f:Str->Option Int},AD k f->AD (l.foldl tdP k) (l.foldl tdS f)
 | [],_,_,h=>h
 |p :: l,k,f,h=>by
  rw [yU,yU]
  refine td_ad0 l ?_
  unfold tdP tdS
  by_cases c:0 < p.2
  .rw [gL c,gL c];exact h.put _ _
  .rw [gK c,gK c];exact h
theorem qdu (l:List (Str × Int)):AD (tdK l) (tdF l):=td_ad0 l AD.nil
theorem td_len0:∀(l:List (Str × Int)) (k:List (Key × V)),(l.foldl tdP k).length<=k.length+l.length
 | [],k=>uF _
 |p :: l,k=>by
  rw [yU,zL]
  have h:=td_len0 l (tdP k p)
  have:(tdP k p).length<=k.length+1:=by
   unfold tdP
   by_cases c:0 < p.2
   .rw [gL c];have:=qc0 k (vG p.1) (.int p.2);omega
   .rw [gK c];omega
  omega
theorem td_len (l:List (Str × Int)):(tdK l).length<=l.length:=by
 have:=td_len0 l []
 rw [yS,Nat.zero_add] at this
 exact this
theorem td_miss:∀(l:List (Str × Int)) (f:Str->Option Int) (z:Str),z∉l.map (·.1)->l.foldl tdS f z=f z
 | [],_,_,_=>rfl
 |p :: l,f,z,h=>by
  rw [zV,zM,not_or] at h
  rw [yU,td_miss l _ z h.2]
  unfold tdS
  by_cases c:0 < p.2
  .rw [gL c];unfold putF';rw [gK h.1]
  .rw [gK c]
theorem td_hit:∀(l:List (Str × Int)) (f:Str->Option Int) (p:Str × Int),(l.map (·.1)).Nodup->p∈l->f p.1=none->l.foldl tdS f p.1=if 0 < p.2 then some p.2 else none
 | [],_,_,_,h,_=>absurd h (by simp)
 |x :: l,f,p,nd,h,hf=>by
  rw [zV,zX] at nd
  rw [yU]
  rcases zM.mp h with e|e
  .subst e
   rw [td_miss l _ _ nd.1]
   unfold tdS
   by_cases c:0 < p.2
   .rw [gL c,gL c];unfold putF';rw [gL rfl]
   .rw [gK c,gK c];exact hf
  .have ne:p.1≠x.1:=fun z=>nd.1 (z ▸ zK.mpr ⟨p,e,rfl⟩)
   refine td_hit l _ p nd.2 e ?_
   unfold tdS
   by_cases c:0 < x.2
   .rw [gL c];unfold putF';rw [gK ne];exact hf
   .rw [gK c];exact hf
theorem zip_fst {ws:List Str} {ps:List Int} (h:ws.length=ps.length):(ws.zip ps).map (·.1)=ws:=by
 rw [List.map_fst_zip (by omega)]
theorem tdF_at {ws:List Str} {ps:List Int} (h:ws.length=ps.length) (nd:ws.Nodup) {j:Nat} (h1:j < ws.length) (h2:j < ps.length):tdF (ws.zip ps) ws[j]=if 0 < ps[j] then some ps[j] else none:=by
 have hm:(ws[j],ps[j])∈ws.zip ps:=by
  refine zQ.mpr ⟨j,by rw [dP];omega,?_⟩
  rw [List.getElem_zip]
 exact td_hit (ws.zip ps) noF (ws[j],ps[j]) (by rw [zip_fst h];exact nd) hm rfl
theorem tdF_in {ws:List Str} {ps:List Int} (h:ws.length=ps.length):InW ws (tdF (ws.zip ps)):=fun z hz=>by
 apply Classical.byContradiction
 intro c
 exact hz (td_miss (ws.zip ps) noF z (by rw [zip_fst h];exact c))
theorem tdF_fin {ws:List Str} {ps:List Int} {B:Int} (h:ws.length=ps.length) (nd:ws.Nodup) (hp:∀p∈ps,p<=B):FinB ws B (tdF (ws.zip ps)):=fun z n e=>by
 have hz:=tdF_in h z (by rw [e];simp)
 obtain⟨j,hj,rfl⟩:=zQ.mp hz
 have hj2:j < ps.length:=by omega
 rw [tdF_at h nd hj hj2] at e
 by_cases c:0 < ps[j]
 .rw [gL c] at e
  have e:ps[j]=n:=uW e
  exact⟨hz,by omega,by rw [<-e];exact hp _ (zJ hj2)⟩
 .rw [gK c] at e;cases e
theorem tdF_gN {ws:List Str} {ps:List Int} (h:ws.length=ps.length) (nd:ws.Nodup) (h0:∀p∈ps,0<=p) {j:Nat} (h1:j < ws.length) (h2:j < ps.length):gN (tdF (ws.zip ps)) ws[j]=ps[j]:=by
 unfold gN
 rw [tdF_at h nd h1 h2]
 have:=h0 _ (zJ h2)
 by_cases c:0 < ps[j]
 .rw [gL c];rfl
 .rw [gK c];show (0:Int)=_;omega
def wgc (K:uR) (d:Ad):Sp:=fun vs H Q _=>∃(lw lp:Addr) (ws:List Str) (ps:List Int),vs=[.ref lw,.ref lp]/\SqL K H lw (ws.map V.str)/\SqL K H lp (ps.map V.int)/\ws.length=ps.length/\ws.length<=100/\
 ∀(l:Addr) (H':Hp),qar H H'->H l=none->H' l=some (.dK (tdK (ws.zip ps)))->Q (.ref l) H'
include T in
theorem w3t:FnOk P w K mg base CX0 1 d.weh d.wc7 ["_law_wares","_law_parts_here"] (wgc K d):=by
 refine T.w5g.ok wag (fun vs H Q E h=>?_) (fun cdv A outer s H vs Q E hr h=>?_)
 .obtain⟨lw,lp,ws,ps,rfl,_⟩:=h;rfl
 obtain⟨lw,lp,ws,ps,rfl,hW,hP,hwp,h100,q⟩:=h
 refine⟨_,(qa3 (qaf (i:=2) wag.nd rfl (uI rfl) qfv)
  (qa3 (qb8 vA rfl (pi_zip rfl T.wh6 (qa0 (pv 0) (qa0 (pv 1) qa2))) (qci rfl (qac (qab (i:=3) wag.nd rfl (uI rfl)) (qac (qab (i:=4) wag.nd rfl (uI rfl)) qbu))) (qa5 (qd6 (qbg (qan qfd (pv 4) qa4 (qat _)) (qa5 (qe5 (qcg hr) (pv 2) (pv 3) (pv 4) rfl)) qas))))
  (qa5 (qaj (pv 2))))),?_⟩
 walk_at "d"
 refine qag (σ:=[some (.ref lw),some (.ref lp),none,none,none]) rfl ?_
 left
 rename_i l hl
 have s1:=qa7 hl (.dK [])
 refine r_itZ (s1.seq hW) (s1.seq hP) ?_
 refine f_zip (by rw [zB,zB];exact hwp) (fun i σ H'=>∃w1 w2:Option V,σ=[some (V.ref lw),some (V.ref lp),some (V.ref l),w1,w2]/\qar H H'/\H' l=some (.dK (tdK ((ws.zip ps).take i)))) ⟨_,_,rfl,s1,qa1⟩ ?_ ?_ ?_
 .rintro i σ H' ⟨w1,w2,rfl,sm,el⟩
  exact⟨sm.seq hW,sm.seq hP⟩
 .rintro i x y Tt σ H' hx hy ⟨w1,w2,rfl,sm,el⟩ hTt
  rw [zC] at hx hy
  obtain⟨z,hz,rfl⟩:=uU.mp hx
  obtain⟨n,hn,rfl⟩:=uU.mp hy
  have hzn:(ws.zip ps)[i]?=some (z,n):=by rw [List.getElem?_zip_eq_some];exact⟨hz,hn⟩
  have tk:(ws.zip ps).take (i+1)=(ws.zip ps).take i++ [(z,n)]:=by rw [zO,hzn];rfl
  have st:=td_snoc ((ws.zip ps).take i) (z,n)
  rw [<-tk] at st
  have s2:=qa7 hTt (.tup [.str z,.int n])
  have el2:=s2 _ _ el
  have tT:upd H' Tt (.tup [.str z,.int n]) Tt=some (.tup [.str z,.int n]):=qa1
  generalize upd H' Tt (.tup [.str z,.int n])=H2 at*
  have kl:(tdK ((ws.zip ps).take i)).length < sizeLine:=by
   have:=td_len ((ws.zip ps).take i)
   rw [zU,dP] at this
   show _ < 16777216
   omega
  rw [st.2]
  unfold tdP
  clear hx hy hz hn hzn tk st
  left
  refine r_cut0 ?_
  left
  refine i_2 (fun c=>?_) (fun c=>?_)
  .left
   exact⟨_,_,rfl,qaq (sm.trans s2) hl,by rw [qa1,gL c]⟩
  .left
   exact⟨_,_,rfl,sm.trans s2,by rw [gK c];exact el2⟩
 .rintro σ H' ⟨w1,w2,rfl,sm,el⟩
  left
  rw [zB,show (ws.zip ps).take ws.length=ws.zip ps from List.take_of_length_le (by rw [dP];omega)] at el
  exact q l H' sm hl el
structure Sc (sc:Int):Prop where
 lo:1<=sc
 hi:sc<=10^27
structure PpOk (p:Int):Prop where
 lo:0<=p
 hi:p<=6*10^27
structure XuOk (x:Int):Prop where
 hi:x<=5*10^27
def wfa (K:uR) (d:Ad):Sp:=fun vs H Q _=>∃(c sc:Int) (k:Nat),vs=[.int c,.int (k:Int),.int sc]/\1<=k/\k<=6/\Sc sc/\
 ∀(l:Addr) (ps:List Int) (H':Hp),qar H H'->H l=none->H' l=some (.lst (ps.map V.int))->ps.length=k->(∀p∈ps,PpOk p)->(∃p∈ps,0 < p)->Q (.ref l) H'
include T in
theorem wda:FnOk P w K mg base CX0 2 d.wcl d.w9x ["_law_cell_here","_law_kinds","_law_scale"] (wfa K d):=by
 refine T.wby.ok w7t (fun vs H Q E h=>?_) (fun cdv A outer s H vs Q E hr h=>?_)
 .obtain⟨c,sc,k,rfl,_⟩:=h;rfl
 obtain⟨c,sc,k,rfl,k1,k3,hsc,q⟩:=h
 refine⟨_,(qa3 (qaf (i:=3) w7t.nd rfl (uI rfl) (qbl qa2))
  (qa3 (qb8 vA rfl (qbt rfl T.w3e (qa0 (pv 1) qa2)) (qab (i:=4) w7t.nd rfl (uI rfl)) (qa3 (qaf (i:=5) w7t.nd rfl (uI rfl) (qam qb0 (qam qbw (qa9 ((w0p T).mono (by decide)) hr rfl T.w2c T.w25.kp T.w2b .nil qah (qa0 (pv 0) (qa0 (qam qb0 qa4 (pv 4)) (qa0 qa4 qa2)))) (pv 2)) (qa9 ((w0p T).mono (by decide)) hr rfl T.w2c T.w25.kp T.w2b .nil qah (qa0 (pv 0) (qa0 (qam qb0 qa4 (pv 4)) (qa0 qa4 qa2))))))
  (qa5 (qb3 (qdh vB vE vF qb1 (pv 3) (qa0 (qam qbw (pv 5) (qai (call_minR rfl) rfl T.wh2 PyProof.Rows.boot_min (qa0 qa4 (qa0 (qa9 ((w0p T).mono (by decide)) hr rfl T.w2c T.w25.kp T.w2b .nil qah (qa0 (pv 0) (qa0 (qam qb0 qa4 (pv 4)) (qa0 qa4 qa2)))) qa2)))) qa2))))))
  (qa3 (qd6 (qbg (qan qdo (qai (call_maxL rfl) rfl T.wh5 PyProof.Rows.boot_max (qa0 (pv 3) qa2)) qa4 (qat _)) (qa5 (ps_lput (pv 3) (qa9 ((w0p T).mono (by decide)) hr rfl T.w2c T.w25.kp T.w2b .nil qah (qa0 (pv 0) (qa0 qa4 (qa0 (pv 1) qa2)))) (pv 2) rfl)) qas))
  (qa5 (qaj (pv 3)))))),?_⟩
 walk_at "d"
 refine qag (σ:=[some (.int c),some (.int (k:Int)),some (.int sc),none,none,none]) rfl ?_
 have ek:((k:Nat):Int).toNat=k:=by omega
 generalize hki:((k:Nat):Int)=ki at*
 have sb:sc.natAbs < 2^200:=by
  have a:=hsc.lo
  have b:=hsc.hi
  exact vR (show sc.natAbs<=10^28 by omega) (by decide)
 have s0:0<=sc:=by have:=hsc.lo;omega
 have sb6:sc.natAbs < 2^600:=Nat.lt_trans sb (by decide)
 left
 rename_i l hl
 rw [ek]
 refine qcz (fun i σ H'=>∃(ps:List Int) (w1 w2:Option V),σ=[some (V.int c),some (V.int ki),some (V.int sc),some (V.ref l),w1,w2]/\H'=upd H l (.lst (ps.map V.int))/\ps.length=i/\∀p∈ps,PpOk p) ⟨[],_,_,rfl,rfl,rfl,fun p h=>by simp at h⟩ ?_ ?_
 .rintro i σ H' hi ⟨ps,w1,w2,rfl,rfl,hlen,hp⟩
  have zl:(ps.map V.int).length < sizeLine:=by rw [zB];show _ < 16777216;omega
  have b2:((2:Int)).natAbs < 2^600/\((0:Int)+(i:Int)).natAbs < 2^600:=⟨by decide,vR (show ((0:Int)+(i:Int)).natAbs<=5 by omega) (by decide)⟩
  left
  refine qc3 (by omega) (by omega) (by decide) (by decide) fun r r0 r1=>?_
  have rb:r.natAbs < 2^600:=vR (show r.natAbs<=5 by omega) (by decide)
  left
  refine qc3 (by omega) (by omega) (by decide) (by decide) fun r2 a0 a1=>?_
  left
  refine qc3 (by omega) (by omega) (by decide) (by decide) fun r3 d0 d1=>?_
  have x0:0<=r*sc:=Int.mul_nonneg r0 s0
  have xu:XuOk (r*sc):=⟨Int.mul_le_mul (show r<=5 by omega) hsc.hi s0 (by decide)⟩
  have xb:(r*sc).natAbs < 2^300:=by
   rw [Int.natAbs_mul]
   exact vR (Nat.mul_le_mul (show r.natAbs<=5 by omega) (fN sb)) (by decide)
  generalize r*sc=x at*
  have yb:(x+r2).natAbs < 2^600:=vR (show (x+r2).natAbs<=2^300+10 by omega) (by decide)
  have y0:0<=x+r2:=by omega
  have yu:PpOk (x+r2):=⟨y0,by have:=xu.hi;omega⟩
  generalize x+r2=y at*
  left
  have m0:(if r3 < 1 then r3 else (1:Int))=0\/(if r3 < 1 then r3 else (1:Int))=1:=by split <;> omega
  have m1:(if r3 < 1 then r3 else (1:Int)).natAbs < 2^600:=vR (show _<=5 by split <;> omega) (by decide)
  generalize (if r3 < 1 then r3 else (1:Int))=z at*
  refine⟨ps++ [y*z],_,_,rfl,by rw [qbi,zE];rfl,by rw [zG,hlen];rfl,fun p h=>?_⟩
  rcases zR.mp h with h|h
  .exact hp p h
  .rw [zF.mp h]
   rcases m0 with e|e
   .rw [e,Int.mul_zero];exact⟨by decide,by decide⟩
   .rw [e,Int.mul_one];exact yu
 .rintro σ H' ⟨ps,w1,w2,rfl,rfl,hlen,hp⟩
  left
  refine r_cut (fun σ' H'=>∃(ps:List Int) (w1 w2:Option V),σ'=[some (V.int c),some (V.int ki),some (V.int sc),some (V.ref l),w1,w2]/\H'=upd H l (.lst (ps.map V.int))/\ps.length=k/\(∀p∈ps,PpOk p)/\∃p∈ps,0 < p) ?_ ?_
  .left
   refine r_maxL (SqL.of qa1) (by omega) fun m hm0 _=>?_
   left
   refine i_2 (fun c0=>?_) (fun c0=>?_)
   .left
    refine qc3 (by decide) (by decide) (by omega) (by omega) fun r r0 r1=>?_
    refine r_lpk qa1 (k:=r.toNat) (by rw [zB];omega) ?_ (by omega)
    left
    refine⟨ps.set r.toNat sc,_,_,rfl,by rw [qbi,<-List.map_set],by rw [dO];exact hlen,fun p h=>?_,sc,zQ.mpr ⟨r.toNat,by rw [dO];omega,by rw [List.getElem_set_self]⟩,by have:=hsc.lo;omega⟩
    rcases List.mem_or_eq_of_mem_set h with h|h
    .exact hp p h
    .rw [h];exact⟨s0,by have:=hsc.hi;omega⟩
   .left
    exact⟨ps,_,_,rfl,rfl,hlen,hp,m,hm0,by have:=(hp m hm0).lo;omega⟩
  .rintro σ' H' ⟨ps,w1,w2,rfl,rfl,hlen,hp,hx⟩
   left
   exact q l ps _ (qa7 hl _) hl qa1 hlen hp hx
structure Rw where
 p:Addr
 e:Addr
 n:Int
 i:Nat
 ps:List Int
 r:Int
 s:Bool
structure RwAt (H:Hp) (nh kd:Nat) (R:Rw):Prop where
 row:H R.p=some (.tup [.int R.n,.int ((R.i:Nat):Int),.ref R.e,.int R.r,.bl R.s])
 par:H R.e=some (.lst (R.ps.map V.int))
 len:R.ps.length=kd
 nn:∀p∈R.ps,PpOk p
 il:R.i < nh
 n1:1<=R.n
theorem RwAt.same {H H':Hp} {nh kd:Nat} {R:Rw} (h:RwAt H nh kd R) (s:qar H H'):RwAt H' nh kd R:=⟨s _ _ h.row,s _ _ h.par,h.len,h.nn,h.il,h.n1⟩
def rwV (Rs:List Rw):List V:=Rs.map fun R=> .ref R.p
def wgl (K:uR) (d:Ad):Sp:=fun vs H Q _=>∃(a:Addr) (ns:List Int) (sc:Int) (nh kd m:Nat),vs=[.ref a,.int (nh:Int),.int (kd:Int),.int sc,.int (m:Int)]/\SqL K H a (ns.map V.int)/\ns.length<=63/\Sc sc/\1<=nh/\nh<=12/\1<=kd/\kd<=6/\m<=30/\
 ∀(l:Addr) (Rs:List Rw) (H':Hp),qar H H'->H' l=some (.lst (rwV Rs))->Rs.length=m->(∀R∈Rs,RwAt H' nh kd R)->(Rs.map fun R=>R.n).Pairwise (·< ·)->Q (.ref l) H'
include T in
theorem wgv:FnOk P w K mg base CX0 3 d.weu d.wcy ["_law_script","_law_houses","_law_kinds","_law_scale","_law_many"] (wgl K d):=by
 refine T.wg3.ok w6d (fun vs H Q E h=>?_) (fun cdv A outer s H vs Q E hr h=>?_)
 .obtain⟨a,ns,sc,nh,kd,m,rfl,_⟩:=h;rfl
 obtain⟨a,ns,sc,nh,kd,mm,rfl,hS,h63,hsc,n1,n12,k1,k3,m30,q⟩:=h
 refine⟨_,(qa3 (qaf (i:=5) w6d.nd rfl (uI rfl) (qbl qa2))
  (qa3 (qaf (i:=6) w6d.nd rfl (uI rfl) (qa9 ((w0p T).mono (by decide)) hr rfl T.w2c T.w25.kp T.w2b .nil qah (qa0 (qa9 ((w1y T).mono (by decide)) hr rfl T.w3i T.w38.kp T.w3j .nil qah (qa0 (pv 0) (qa0 qa4 qa2))) (qa0 qa4 (qa0 qa4 qa2)))))
  (qa3 (qb8 vA rfl (qbt rfl T.w3e (qa0 (pv 4) qa2)) (qab (i:=7) w6d.nd rfl (uI rfl)) (qa3 (qaf (i:=8) w6d.nd rfl (uI rfl) (qa9 ((w1y T).mono (by decide)) hr rfl T.w3i T.w38.kp T.w3j .nil qah (qa0 (pv 0) (qa0 (qam qb0 qa4 (pv 7)) qa2))))
  (qa3 (qaf (i:=6) w6d.nd rfl (uI rfl) (qam qb0 (qam qb0 (pv 6) qa4) (qa9 ((w0p T).mono (by decide)) hr rfl T.w2c T.w25.kp T.w2b .nil qah (qa0 (pv 8) (qa0 qa4 (qa0 qa4 qa2))))))
  (qa3 (qaf (i:=9) w6d.nd rfl (uI rfl) (qa9 ((wda T).mono (by decide)) hr rfl T.wee T.wby.kp T.wea .nil qah (qa0 (pv 8) (qa0 (pv 2) (qa0 (pv 3) qa2)))))
  (qa5 (qb3 (qdh vB vE vF qb1 (pv 5) (qa0 (qdl (qa0 (pv 6) (qa0 (qa9 ((w0p T).mono (by decide)) hr rfl T.w2c T.w25.kp T.w2b .nil qah (qa0 (pv 8) (qa0 qa4 (qa0 (pv 1) qa2)))) (qa0 (pv 9) (qa0 (qa9 ((w0p T).mono (by decide)) hr rfl T.w2c T.w25.kp T.w2b .nil qah (qa0 (pv 8) (qa0 qa4 (qa0 qa4 qa2)))) (qa0 (qbv qdo (qa9 ((w0p T).mono (by decide)) hr rfl T.w2c T.w25.kp T.w2b .nil qah (qa0 (pv 8) (qa0 qa4 (qa0 qa4 qa2)))) qa4 (qat _)) qa2)))))) qa2))))))))
  (qa5 (qaj (pv 5)))))),?_⟩
 walk_at "d"
 refine qag (σ:=[some (.ref a),some (.int (nh:Int)),some (.int (kd:Int)),some (.int sc),some (.int (mm:Int)),none,none,none,none,none]) rfl ?_
 have emm:((mm:Nat):Int).toNat=mm:=by omega
 generalize hni:((nh:Nat):Int)=ni
 generalize hki:((kd:Nat):Int)=ki
 generalize hmi:((mm:Nat):Int)=mi at*
 left
 rename_i l hl
 have s1:=qa7 hl (.lst [])
 have e1:upd H l (.lst []) l=some (.lst []):=qa1
 generalize upd H l (.lst [])=H1 at*
 refine⟨a,ns,3,rfl,s1.seq hS,by decide,by decide,h63,fun H2 s2=>?_⟩
 have e2:=s2 _ _ e1
 have t2:=s1.trans s2
 left
 refine qc3 (by decide) (by decide) (by decide) (by decide) fun r2 r20 _=>?_
 left
 rw [emm]
 refine qcz (fun i σ H'=>∃(Rs:List Rw) (m:Int) (w1 w2 w3:Option V),σ=[some (V.ref a),some (V.int ni),some (V.int ki),some (V.int sc),some (V.int mi),some (V.ref l),some (V.int m),w1,w2,w3]/\qar H H'/\H' l=some (.lst (rwV Rs))/\Rs.length=i/\(∀R∈Rs,RwAt H' nh kd R/\R.e≠l)/\(Rs.map fun R=>R.n).Pairwise (·< ·)/\(∀R∈Rs,R.n<=m)/\0<=m)
  ⟨[],_,_,_,_,rfl,t2,e2,rfl,fun R h=>by simp at h,cK,fun R h=>by simp at h,r20⟩ ?_ ?_
 .rintro i σ H' hi ⟨Rs,m,w1,w2,w3,rfl,sm,el,hlen,hR,hup,hle,m0⟩
  left
  refine⟨a,ns,8+(0+(i:Int)),rfl,sm.seq hS,by omega,by omega,h63,fun H2' s2'=>?_⟩
  generalize qbq ns (8+(0+(i:Int)))=c3
  left
  refine qc3 (by decide) (by decide) (by decide) (by decide) fun r4 r40 _=>?_
  left
  refine⟨c3,sc,kd,by rw [hki],k1,k3,hsc,fun e ps H3 s3 he ee hps h0 _=>?_⟩
  have el3:=s3 _ _ (s2' _ _ el)
  left
  refine qc3 (by decide) (by decide) (by omega) (by omega) fun r6 d0 d1=>?_
  left
  refine qc3 (by decide) (by decide) (by decide) (by decide) fun r7 _ _=>?_
  left
  refine qc3 (by decide) (by decide) (by decide) (by decide) fun r5 _ _=>?_
  have zl:(rwV Rs).length < sizeLine:=by unfold rwV;rw [zB];show _ < 16777216;omega
  left
  rename_i pr hpr
  have er:r6=((r6.toNat:Nat):Int):=by omega
  have s4:=qa7 hpr (.tup [.int (m+1+r4),.int r6,.ref e,.int r7,.bl (decide (r5=0))])
  have epr:upd H3 pr (.tup [.int (m+1+r4),.int r6,.ref e,.int r7,.bl (decide (r5=0))]) pr=some (.tup [.int (m+1+r4),.int r6,.ref e,.int r7,.bl (decide (r5=0))]):=qa1
  have el4:=s4 _ _ el3
  have nel:e≠l:=(qa8 (s2' _ _ el) he).symm
  generalize upd H3 pr (.tup [.int (m+1+r4),.int r6,.ref e,.int r7,.bl (decide (r5=0))])=H4 at*
  have putR:∀{R:Rw} {o:HO},RwAt H4 nh kd R->R.e≠l->RwAt (upd H4 l o) nh kd R:=fun {R o} h ne=>by
   have np:R.p≠l:=ne_of h.row el4 (by simp)
   exact⟨by rw [qa6 np];exact h.row,by rw [qa6 ne];exact h.par,h.len,h.nn,h.il,h.n1⟩
  obtain⟨R0,e01,e02,e03,e04⟩:∃R0:Rw,R0.p=pr/\R0.e≠l/\RwAt H4 nh kd R0/\R0.n=m+1+r4:=⟨⟨pr,e,m+1+r4,r6.toNat,ps,r7,decide (r5=0)⟩,rfl,nel,⟨by rw [<-er];exact epr,s4 _ _ ee,hps,h0,by show r6.toNat < nh;omega,by show 1<=m+1+r4;omega⟩,rfl⟩
  have e05:upd H4 l (.lst (rwV Rs++ [.ref pr])) l=some (.lst (rwV (Rs++ [R0]))):=by rw [qa1];unfold rwV;rw [zE,<-e01];rfl
  have sm4:qar H (upd H4 l (.lst (rwV Rs++ [.ref pr]))):=qaq (((sm.trans s2').trans s3).trans s4) hl
  have hlen4:(Rs++ [R0]).length=i+1:=by rw [zG,hlen];rfl
  have hR4:∀R∈Rs++ [R0],RwAt (upd H4 l (.lst (rwV Rs++ [.ref pr]))) nh kd R/\R.e≠l:=fun R hr=>by
   rcases zR.mp hr with h|h
   .obtain⟨h1,h2⟩:=hR R h
    exact⟨putR (h1.same ((s2'.trans s3).trans s4)) h2,h2⟩
   .rw [zF.mp h]
    exact⟨putR e03 e02,e02⟩
  have hup4:((Rs++ [R0]).map fun R=>R.n).Pairwise (·< ·):=by
   rw [zE,List.pairwise_append]
   refine⟨hup,aZ _ _,fun x hx y hy=>?_⟩
   obtain⟨R,hr,rfl⟩:=zK.mp hx
   have hy:y=R0.n:=by simpa using hy
   have:=hle R hr
   omega
  have hle4:∀R∈Rs++ [R0],R.n<=m+1+r4:=fun R hr=>by
   rcases zR.mp hr with h|h
   .have:=hle R h;omega
   .rw [zF.mp h,e04];exact wB _
  clear hR putR e03 epr hl hS s1 s2 s3 s4 hup hle
  exact⟨Rs++ [R0],_,_,_,_,rfl,sm4,e05,hlen4,hR4,hup4,hle4,by omega⟩
 .rintro σ H' ⟨Rs,m,w1,w2,w3,rfl,sm,el,hlen,hR,hup,hle,m0⟩
  left
  exact q l Rs H' sm el (by omega) (fun R h=>(hR R h).1) hup
def rrOf (ws:List Str) (R:Rw):Rr:=⟨R.p,R.e,R.n,R.i,tdK (ws.zip R.ps),tdF (ws.zip R.ps),R.r,R.s⟩
def colV (kd:Nat) (f:Nat->Int):List V:=(vC kd).map fun j=>V.int (f j)
theorem colV_len (kd:Nat) (f:Nat->Int):(colV kd f).length=kd:=by unfold colV;rw [zB,yQ]
theorem colV_at {kd j:Nat} (f:Nat->Int) (h:j < kd):atI (colV kd f) ((j:Nat):Int)=some (V.int (f j)):=qav (by unfold colV;rw [zC,List.getElem?_range h];rfl)
theorem colV_set {kd j:Nat} (f:Nat->Int) (v:Int) (h:j < kd):(colV kd f).set j (V.int v)=colV kd fun i=>if i=j then v else f i:=by
 unfold colV
 refine List.ext_getElem (by rw [dO,zB,zB]) fun i g1 g2=>?_
 rw [List.getElem_set,yP,yP,List.getElem_range]
 by_cases c:j=i
 .show (if j=i then V.int v else _)=V.int (if i=j then v else f i)
  rw [gL c,gL c.symm]
 .show (if j=i then V.int v else V.int (f i))=V.int (if i=j then v else f i)
  rw [gK c,gK (fun z=>c z.symm)]
theorem colV_congr {kd:Nat} {f g:Nat->Int} (h:∀j,j < kd->f j=g j):colV kd f=colV kd g:=by
 unfold colV
 refine aN fun j hj=>?_
 rw [h j (yT.mp hj)]
def qby (H:Hp) (ls:List Addr) (kd:Nat) (X:Nat->Nat->Int):Prop:=∀(h:Nat) (l:Addr),ls[h]?=some l->H l=some (.lst (colV kd (X h)))
theorem qby.cast {H:Hp} {ls:List Addr} {kd:Nat} {X Y:Nat->Nat->Int} (h:qby H ls kd X) (e:∀i j,i < ls.length->j < kd->X i j=Y i j):qby H ls kd Y:=fun i l hl=>by
 rw [h i l hl]
 rw [colV_congr fun j hj=>e i j (uH.mp hl).1 hj]
theorem qby.put {H:Hp} {ls:List Addr} {kd:Nat} {X:Nat->Nat->Int} (nd:ls.Nodup) (h:qby H ls kd X) {i:Nat} {l:Addr} (hl:ls[i]?=some l) {f:Nat->Int}:qby (upd H l (.lst (colV kd f))) ls kd fun k=>if k=i then f else X k:=fun k l' hl'=>by
 try dsimp only
 by_cases c:k=i
 .subst c
  rw [hl] at hl'
  cases hl'
  rw [gL rfl,qa1]
 .rw [gK c,qa6]
  .exact h k l' hl'
  .intro z
   subst z
   obtain⟨h1,e1⟩:=uH.mp hl
   obtain⟨h2,e2⟩:=uH.mp hl'
   rcases Nat.lt_trichotomy k i with lt|lt|lt
   .exact(zW.mp nd) k i h2 h1 lt (e2.trans e1.symm)
   .exact c lt
   .exact(zW.mp nd) i k h1 h2 lt (e1.trans e2.symm)
theorem qby.other {H:Hp} {ls:List Addr} {kd:Nat} {X:Nat->Nat->Int} (h:qby H ls kd X) {a:Addr} {o:HO} (ha:a∉ls):qby (upd H a o) ls kd X:=fun i l hl=>by
 rw [qa6 (show l≠a from fun z=>ha (z ▸ zD hl))]
 exact h i l hl
theorem qby.same {H H':Hp} {ls:List Addr} {kd:Nat} {X:Nat->Nat->Int} (h:qby H ls kd X) (s:qar H H'):qby H' ls kd X:=fun i l hl=>s _ _ (h i l hl)
def SB (ls:List Addr) (H H':Hp):Prop:=∀b o,H b=some o->b∉ls->H' b=some o
theorem SB.new {ls:List Addr} {H H' H'':Hp} (s:SB ls H H') (t:qar H' H''):SB ls H H'':=fun b o hb hn=>t _ _ (s b o hb hn)
theorem SB.put {ls:List Addr} {H H':Hp} (s:SB ls H H') {a:Addr} {o:HO} (h:H a=none\/a∈ls):SB ls H (upd H' a o):=fun b u hb hn=>by
 rw [qa6]
 .exact s b u hb hn
 .intro z
  subst z
  rcases h with h|h
  .rw [h] at hb;cases hb
  .exact hn h
abbrev Pq:=Addr × List Int
def qsV (qs:List Pq):List V:=qs.map fun q=> .ref q.1
def atQ (qs:List Pq) (k j:Nat):Int:=match qs[k]? with
 |some q=>(q.2[j]?).getD 0
 |none=>0
structure QsAt (H1 H:Hp) (lp:Addr) (kd:Nat) (qs:List Pq):Prop where
 top:H lp=some (.lst (qsV qs))
 row:∀q∈qs,H q.1=some (.lst (q.2.map V.int))/\H1 q.1=none/\q.1≠lp
 nd:(qs.map (·.1)).Nodup
 val:∀q∈qs,q.2.length=kd/\∀x∈q.2,0<=x/\x<=10^30
def sumQ (el:Nat->Nat) (qs:List Pq) (n h j:Nat):Int:=qdn n fun k=>if h∈qae el k then atQ qs k j else 0
theorem qe3 {f g:Nat->Int}:∀{n:Nat},(∀k,k < n->f k=g k)->qdn n f=qdn n g
 |0,_=>rfl
 |n+1,h=>by
  show qdn n f+f n=qdn n g+g n
  rw [qe3 fun k hk=>h k (by omega),h n (by omega)]
theorem atQ_old {qs:List Pq} {q:Pq} {k j:Nat} (h:k < qs.length):atQ (qs++ [q]) k j=atQ qs k j:=by
 unfold atQ
 rw [yC h]
theorem atQ_new {qs:List Pq} {q:Pq} {j:Nat}:atQ (qs++ [q]) qs.length j=(q.2[j]?).getD 0:=by
 unfold atQ
 rw [zZ (uF _),dL]
 rfl
theorem sumQ_snoc (el:Nat->Nat) (qs:List Pq) (q:Pq) (h j:Nat):sumQ el (qs++ [q]) (qs.length+1) h j=sumQ el qs qs.length h j+if h∈qae el qs.length then (q.2[j]?).getD 0 else 0:=by
 show (qdn qs.length fun k=>if h∈qae el k then atQ (qs++ [q]) k j else 0)+(if h∈qae el qs.length then atQ (qs++ [q]) qs.length j else 0)=_
 rw [atQ_new]
 congr 1
 refine qe3 fun k hk=>?_
 rw [atQ_old hk]
theorem atQ_nn {qs:List Pq} (hv:∀q∈qs,∀x∈q.2,0<=x) (k j:Nat):0<=atQ qs k j:=by
 unfold atQ
 cases e:qs[k]? with
 |none=>exact wB _
 |some q=>
  show 0<=(q.2[j]?).getD 0
  cases e2:q.2[j]? with
  |none=>exact wB _
  |some x=>exact hv q (zD e) x (zD e2)
theorem sumQ_nn {el:Nat->Nat} {qs:List Pq} (hv:∀q∈qs,∀x∈q.2,0<=x) (n h j:Nat):0<=sumQ el qs n h j:=sumR_nn fun k _=>by
 by_cases c:h∈qae el k
 .rw [gL c];exact atQ_nn hv k j
 .rw [gK c];exact wB _
def CsAt (H:Hp) (kd:Nat) (cs:List Pq):Prop:=∀c∈cs,H c.1=some (.lst (c.2.map V.int))/\c.2.length=kd/\∀x∈c.2,0<=x/\x<=10^30
theorem CsAt.same {H H':Hp} {kd:Nat} {cs:List Pq} (h:CsAt H kd cs) (s:qar H H'):CsAt H' kd cs:=fun c hc=>⟨s _ _ (h c hc).1,(h c hc).2⟩
theorem CsAt.bd {H:Hp} {kd:Nat} {cs:List Pq} (h:CsAt H kd cs) (i j:Nat):0<=atQ cs i j/\atQ cs i j<=10^30:=by
 unfold atQ
 cases e:cs[i]? with
 |none=>exact⟨wB _,show (0:Int)<=10^30 by decide⟩
 |some q=>
  show 0<=(q.2[j]?).getD 0/\(q.2[j]?).getD 0<=10^30
  cases e2:q.2[j]? with
  |none=>exact⟨wB _,show (0:Int)<=10^30 by decide⟩
  |some x=>exact(h q (zD e)).2.2 x (zD e2)
theorem CsAt.col {H:Hp} {kd:Nat} {cs:List Pq} (h:CsAt H kd cs) {i:Nat} {c:Pq} (hc:cs[i]?=some c):c.2.map V.int=colV kd fun j=>atQ cs i j:=by
 unfold colV
 have hl:=(h c (zD hc)).2.1
 refine List.ext_getElem (by rw [zB,zB,yQ,hl]) fun j g1 g2=>?_
 rw [zB] at g1
 rw [yP,yP,List.getElem_range]
 unfold atQ
 rw [hc]
 show _=V.int ((c.2[j]?).getD 0)
 rw [zA g1];rfl
def wcs (K:uR) (d:Ad):Sp:=fun vs H Q _=>∃(a:Addr) (ns:List Int) (le lc:Addr) (las:List Addr) (cs:List Pq) (es:List Nat) (kd:Nat),vs=[.ref a,.ref le,.ref lc]/\SqL K H a (ns.map V.int)/\ns.length<=63/\LnsAt H le las es/\es.length<=11/\H lc=some (.lst (qsV cs))/\cs.length=es.length+1/\CsAt H kd cs/\kd<=6/\
 ∀(l:Addr) (qs:List Pq) (H':Hp),qar H H'->H' l=some (.lst (qsV qs))->qs.length=es.length+1->(∀q∈qs,H' q.1=some (.lst (q.2.map V.int))/\q.2.length=kd/\∀x∈q.2,0<=x/\x<=10^30)->(∀h j,h < es.length+1->j < kd->sumQ (elN es) qs (es.length+1) h j<=atQ cs h j)->Q (.ref l) H'
include T in
theorem wcw:FnOk P w K mg base CX0 2 d.w6u d.w61 ["_law_script","_law_lines_here","_law_caps_here"] (wcs K d):=by
 refine T.w9k.ok w0u (fun vs H Q E h=>?_) (fun cdv A outer s H vs Q E hr h=>?_)
 .obtain⟨a,ns,le,lc,las,cs,es,kd,rfl,_⟩:=h;rfl
 obtain⟨a,ns,le,lc,las,cs,es,kd,rfl,hSa,h63,hE,h11,hC,hcl,h9,k3,q⟩:=h
 have lo:∀(k e:Nat),es[k]?=some e->e<=k:=fun k e h=>(hE.lo k e h).1
 have low:=qds lo (es.length+1)
 refine⟨_,(qa3 (qaf (i:=3) w0u.nd rfl (uI rfl) (qa9 ((w1y T).mono (by decide)) hr rfl T.w3i T.w38.kp T.w3j .nil qah (qa0 (pv 0) (qa0 qa4 qa2))))
  (qa3 (qaf (i:=4) w0u.nd rfl (aM rfl) (qbm (caps:=[]) (cn:=[]) (qb2 rfl rfl (by rfl) (by rfl) rfl trivial (by rfl) rfl trivial (by decide)) rfl (qau (pv 2)) (fun _ _ _ _=>qdk) (fun _ _ _ _=>(qbe qeb rfl T.wam xS (qa0 (pv 0) qa2)))))
  (qa3 (qaf (i:=5) w0u.nd rfl (uI rfl) (qbl qa2))
  (qa3 (qb8 vA rfl (qbt rfl T.w3e (qa0 (qai qaw rfl T.w2v vH (qa0 (pv 1) qa2)) qa2)) (qab (i:=6) w0u.nd rfl (uI rfl)) (qa3 (qb3 (qdh vB vE vF qb1 (pv 5) (qa0 (qbl qa2) qa2)))
  (qa5 (qb8 vA rfl (qbt rfl T.w3e (qa0 (qai qaw rfl T.w2v vH (qa0 (qak qal (pv 2) (pv 6) (fun _ _=>rfl)) qa2)) qa2)) (qab (i:=7) w0u.nd rfl (aM rfl)) (qa3 (qaf (i:=8) w0u.nd rfl (uI rfl) (qai (call_minL rfl) rfl T.wh2 PyProof.Rows.boot_min (qa0 (qbm (caps:=[4,7]) (cn:=["_law_left","_law_j"]) (qb2 rfl rfl (by rfl) (by rfl) rfl ⟨rfl,⟨rfl,trivial⟩⟩ (by rfl) rfl ⟨⟨rfl,rfl,rfl,rfl,_,rfl⟩,⟨⟨rfl,rfl,rfl,rfl,_,rfl⟩,trivial⟩⟩ (by decide)) rfl (qau (qak qal (pv 1) (pv 6) (fun _ _=>rfl))) (fun _ _ _ _=>qdk) (fun _ _ _ _=>(qak qal (qak qal (pv 1) (pv 0) (fun _ _=>rfl)) (pv 2) (fun _ _=>rfl)))) qa2)))
  (qa3 (qaf (i:=9) w0u.nd rfl (uI rfl) (qak qal (qbl (qa0 qa4 (qa0 (pv 8) (qa0 (qam qcj (pv 8) qa4) qa2)))) (qa9 ((w0p T).mono (by decide)) hr rfl T.w2c T.w25.kp T.w2b .nil qah (qa0 (pv 3) (qa0 (qam qb0 (qam qb0 qa4 (qam qbw qa4 (pv 6))) (pv 7)) (qa0 qa4 qa2)))) (fun _ _=>rfl)))
  (qa3 (qb3 (qdh vB vE vF qb1 (qak qal (pv 5) (pv 6) (fun _ _=>rfl)) (qa0 (pv 9) qa2)))
  (qa5 (qb8 vA rfl (qau (qak qal (pv 1) (pv 6) (fun _ _=>rfl))) (qab (i:=10) w0u.nd rfl (uI rfl)) (qa5 (ps_lput (qak qal (pv 4) (pv 10) (fun _ _=>rfl)) (pv 7) (qam qez (qak qal (qak qal (pv 4) (pv 10) (fun _ _=>rfl)) (pv 7) (fun _ _=>rfl)) (pv 9)) rfl)))))))))))
  (qa5 (qaj (pv 5))))))),?_⟩
 walk_at "d"
 try dsimp only [cxC]
 refine qag (σ:=[some (.ref a),some (.ref le),some (.ref lc),none,none,none,none,none,none,none,none]) rfl ?_
 left
 refine⟨a,ns,5,rfl,hSa,by decide,by decide,h63,fun H sc=>?_⟩
 have hE:=hE.same sc
 have hC:=sc _ _ hC
 have h9:=h9.same sc
 have q:=fun l qs H' (s:qar H H')=>q l qs H' (sc.trans s)
 generalize qbq ns 5=c
 left
 intro C s0 H0 fp ll hll
 refine qek (es.length+1) (fun i H'=>∃ls:List Addr,qar H H'/\H' ll=some (.lst (ls.map V.ref))/\ls.length=i/\ls.Nodup/\(∀l∈ls,l≠ll/\H l=none)/\qby H' ls kd (atQ cs)) ⟨[],qa7 hll _,qa1,rfl,yM,fun l h=>by simp at h,fun h l hl=>by simp at hl⟩ ?_ ?_ ?_ ?_
 .rintro i H' hi ⟨ls,sm,_⟩
  exact⟨_,.ref (cs[i]'(by omega)).1,SqL.of (sm _ _ hC),by unfold qsV;rw [zC,zA (by omega)];rfl⟩
 .rintro H' ⟨ls,sm,_⟩
  exact⟨_,SqL.of (sm _ _ hC),by unfold qsV;rw [zB];omega⟩
 .rintro i H' v H'' hi ⟨ls,sm,eL,hlen,nd,hls,hA⟩ ⟨rfl,hv⟩
  have hv:=hv _ (SqL.of (sm _ _ hC))
  unfold qsV at hv
  have hci:cs[i]?=some (cs[i]'(by omega)):=zA (by omega)
  rw [zC,hci] at hv
  cases hv
  have h9i:=(h9 _ (zD hci)).1
  have e9:=h9.col hci
  generalize cs[i]'(by omega)=ci at*
  left
  refine qfr (SqL.of (sm _ _ h9i)) fun l hl=>?_
  have s1:=qa7 hl (.lst (ci.2.map V.int))
  have eL1:=s1 _ _ eL
  have el:upd H'' l (.lst (ci.2.map V.int)) l=some (.lst (colV kd fun j=>atQ cs i j)):=by rw [qa1,e9]
  have nl:l≠ll:=(qa8 eL hl).symm
  have nls:l∉ls:=fun hm=>by
   obtain⟨j,hj,e⟩:=zQ.mp hm
   have:=hA j l (by rw [zA hj,e])
   rw [hl] at this;cases this
  generalize upd H'' l (.lst (ci.2.map V.int))=H2 at*
  have zl:(ls.map V.ref).length < sizeLine:=by rw [zB];show _ < 16777216;omega
  left
  refine⟨ls++ [l],qaq (sm.trans s1) hll,by rw [qa1,zE];rfl,by rw [zG,hlen];rfl,?_,fun x hx=>?_,fun h x hx=>?_⟩
  .exact yI.mpr ⟨nd,zX.mpr ⟨by simp,yM⟩,fun a ha b hb=>by rw [zF.mp hb];exact fun z=>nls (z ▸ ha)⟩
  .rcases zR.mp hx with h|h
   .exact hls x h
   .rw [zF.mp h];exact⟨nl,sm.free hl⟩
  .by_cases cc:h < ls.length
   .rw [yC cc] at hx
    rw [qa6 (hls x (zD hx)).1]
    exact s1 _ _ (hA h x hx)
   .rw [zZ (by omega)] at hx
    have:x=l:=by
     have hm:=zD hx
     exact zF.mp hm
    subst this
    rw [qa6 nl]
    have hh:h=i:=by
     have:=(uH.mp hx).1
     rw [zT] at this
     omega
    rw [hh]
    exact el
 rintro H1 ⟨ls,s1,eL1,hlen,nd,hls,hA1⟩
 have hE1:=(hE.same s1).top
 have hle:(las.map V.ref).length=es.length+1:=by rw [zB,hE.len]
 have hrn:(((las.map V.ref).length:Nat):Int).toNat=es.length+1:=by rw [hle];omega
 have inLs:∀{H':Hp} {X:Nat->Nat->Int} {a:Addr},qby H' ls kd X->H' a=none->a∉ls:=fun {H' X a} hA ha hm=>by
  obtain⟨j,hj,e⟩:=zQ.mp hm
  have:=hA j a (by rw [zA hj,e])
  rw [ha] at this;cases this
 have notL:∀{b:Addr} {o:HO},H b=some o->b∉ls:=fun {b o} hb hm=>by rw [(hls b hm).2] at hb;cases hb
 left
 rename_i lp hlp
 rw [hrn]
 have nlpL:lp∉ls:=inLs hA1 hlp
 refine qcz (fun i σ H'=>∃(qs:List Pq) (X:Nat->Nat->Int) (w1 w2 w3 w4 w5:Option V),σ=[some (V.ref a),some (V.ref le),some (V.ref lc),some (V.int c),some (V.ref ll),some (V.ref lp),w1,w2,w3,w4,w5]/\SB ls H1 H'/\QsAt H1 H' lp kd qs/\qs.length=i/\qby H' ls kd X/\∀h j,h < es.length+1->j < kd->0<=X h j/\X h j=atQ cs h j - sumQ (elN es) qs i h j)
  ⟨[],atQ cs,_,_,_,_,_,rfl,SB.put (fun b o hb _=>hb) (.inl hlp),⟨qa1,fun q hq=>by simp at hq,yM,fun q hq=>by simp at hq⟩,rfl,hA1.other nlpL,fun h j _ _=>⟨(h9.bd h j).1,by show _=_ - (0:Int);omega⟩⟩ ?_ ?_
 .rintro i σ H' hi ⟨qs,X,w1,w2,w3,w4,w5,rfl,sb,hq,hql,hA,hX⟩
  have smH:∀{H'':Hp},SB ls H1 H''->qar H H'':=fun {H''} sb b o hb=>sb b o (s1 b o hb) (notL hb)
  have sm:=smH sb
  rw [dJ]
  have hci:cs[i]?=some (cs[i]'(by omega)):=zA (by omega)
  obtain⟨h9i,h9l,_⟩:=h9 _ (zD hci)
  have xc:atI (qsV cs) ((i:Nat):Int)=some (.ref (cs[i]'(by omega)).1):=qav (by unfold qsV;rw [zC,hci];rfl)
  generalize cs[i]'(by omega)=ci at*
  have kb:((i:Nat):Int).natAbs < 2^600:=vR (show ((i:Nat):Int).natAbs<=12 by omega) (by decide)
  have pw:=lineN_pw low i hi
  have lle:=qde low i hi
  obtain⟨lh,_,alh,elh0⟩:=hE.at hi
  generalize hki:((i:Nat):Int)=ki at*
  have nlhL:lh∉ls:=notL elh0
  have elh:=sm _ _ elh0
  have nlhp:lp≠lh:=fun z=>by rw [z,s1 _ _ elh0] at hlp;cases hlp
  have nq:∀q∈qs,q.1≠lh:=fun q h z=>by
   have:=(hq.row q h).2.1
   rw [z,s1 _ _ elh0] at this;cases this
  have hq2:=hq
  have hA2:=hA
  have sb2:=sb
  have etop:=hq2.top
  have zq:(qsV qs).length < sizeLine:=by unfold qsV;rw [zB];show _ < 16777216;omega
  left
  rename_i pi hpi
  have nplp:lp≠pi:=qa8 etop hpi
  have nplh:lh≠pi:=qa8 elh hpi
  have npL:pi∉ls:=inLs hA2 hpi
  have n1pi:H1 pi=none:=by
   cases e:H1 pi with
   |none=>rfl
   |some o=>have:=sb2 pi o e npL;rw [hpi] at this;cases this
  have npq:∀q∈qs,q.1≠pi:=fun q hq=>qa8 (hq2.row q hq).1 hpi
  have e3lp:(upd (upd H' pi (.lst [])) lp (.lst (qsV qs++ [.ref pi]))) lp=some (.lst (qsV qs++ [.ref pi])):=qa1
  have e3pi:(upd (upd H' pi (.lst [])) lp (.lst (qsV qs++ [.ref pi]))) pi=some (.lst (([]:List Int).map V.int)):=by rw [qa6 nplp.symm];exact qa1
  have e3lh:(upd (upd H' pi (.lst [])) lp (.lst (qsV qs++ [.ref pi]))) lh=some (.lst ((qae (elN es) i).map iV)):=by rw [qa6 nlhp.symm,qa6 nplh];exact elh
  have e3q:∀q∈qs,(upd (upd H' pi (.lst [])) lp (.lst (qsV qs++ [.ref pi]))) q.1=some (.lst (q.2.map V.int)):=fun q h=>by rw [qa6 (hq2.row q h).2.2,qa6 (npq q h)];exact(hq2.row q h).1
  have hA3:qby (upd (upd H' pi (.lst [])) lp (.lst (qsV qs++ [.ref pi]))) ls kd X:=(hA2.other npL).other nlpL
  have sb3:SB ls H1 (upd (upd H' pi (.lst [])) lp (.lst (qsV qs++ [.ref pi]))):=(sb2.put (.inl n1pi)).put (.inl hlp)
  generalize upd (upd H' pi (.lst [])) lp (.lst (qsV qs++ [.ref pi]))=H3 at*
  have nlhq:∀q∈qs,q.1≠lh/\q.1≠pi/\q.1≠lp/\q.1∉ls:=fun q h=>⟨nq q h,npq q h,(hq2.row q h).2.2,fun hm=>by
   obtain⟨j,hj,e⟩:=zQ.mp hm
   have e2:=hA1 j q.1 (by rw [zA hj,e])
   rw [(hq2.row q h).2.1] at e2;cases e2⟩
  have hk9:(ci.2.map V.int).length=kd:=by rw [zB];exact h9l
  have hkn:(((ci.2.map V.int).length:Nat):Int).toNat=kd:=by rw [hk9];omega
  have h93:=(smH sb3) _ _ h9i
  have nn:=fun h j=>sumQ_nn (el:=elN es) (fun q hq x hx=>((hq2.val q hq).2 x hx).1) i h j
  have nd1:=hq2.nd
  have val1:=hq2.val
  have row1:=fun q h=>(hq2.row q h).2
  clear hq2 hA2 sb2 hq hA sb sm etop elh zq hpi npq
  refine qb7 (SqL.of ((smH sb3) _ _ hC)) xc ?_
  left
  rw [hkn]
  have lnd:(qae (elN es) i).Nodup:=cP (fun h z=>by omega) pw
  refine qcz (fun j σ H4=>∃(cur:List Int) (Y:Nat->Nat->Int) (w1 w2 w3 w4:Option V),σ=[some (V.ref a),some (V.ref le),some (V.ref lc),some (V.int c),some (V.ref ll),some (V.ref lp),some (V.int ki),w1,w2,w3,w4]/\SB ls H1 H4/\H4 lp=some (.lst (qsV qs++ [.ref pi]))/\H4 pi=some (.lst (cur.map V.int))/\H4 lh=some (.lst ((qae (elN es) i).map iV))/\(∀q∈qs,H4 q.1=some (.lst (q.2.map V.int)))/\cur.length=j/\(∀x∈cur,0<=x/\x<=10^30)/\qby H4 ls kd Y/\
    ∀h j',h < es.length+1->j' < kd->0<=Y h j'/\Y h j'=atQ cs h j' - sumQ (elN es) qs i h j' - (if h∈qae (elN es) i then (cur[j']?).getD 0 else 0))
   ⟨[],X,_,_,_,_,rfl,sb3,e3lp,e3pi,e3lh,e3q,rfl,fun x h=>by simp at h,hA3,fun h j' hh hj'=>⟨(hX h j' hh hj').1,by rw [(hX h j' hh hj').2];simp⟩⟩ ?_ ?_
  .rintro j σ H4 hj ⟨cur,Y,w1,w2,w3,w4,rfl,sb4,e4lp,e4pi,e4lh,e4q,hcl,hcur,hA4,hY⟩
   clear e3lp e3pi e3lh e3q hA3 sb3 hX h93 hkn hk9
   rw [dJ]
   have e4le:H4 le=some (.lst (las.map V.ref)):=sb4 le _ (s1 _ _ hE.top) (notL hE.top)
   have e4ll:H4 ll=some (.lst (ls.map V.ref)):=sb4 ll _ eL1 fun hm=>(hls ll hm).1 rfl
   have xl:∀h,h < es.length+1->∃l,ls[h]?=some l/\atI (ls.map V.ref) ((h:Nat):Int)=some (.ref l):=fun h hh=>⟨ls[h],zA (by omega),qav (by rw [zC,zA (by omega)];rfl)⟩
   have xj:∀f:Nat->Int,atI (colV kd f) ((j:Nat):Int)=some (V.int (f j)):=fun f=>colV_at f hj
   generalize hji:((j:Nat):Int)=ji at*
   left
   refine qb7 (SqL.of e4le) alh ?_
   left
   intro C s0 H0 fp acc hacc
   refine qek (qae (elN es) i).length (fun c Hc=>Hc=upd H4 acc (.lst ((((qae (elN es) i).take c).map fun h=>Y h j).map V.int))) rfl ?_ ?_ ?_ ?_
   .rintro c Hc hc rfl
    exact⟨_,iV (qae (elN es) i)[c],SqL.of (qad e4lh hacc),by rw [zC,zA hc];rfl⟩
   .rintro Hc rfl
    exact⟨_,SqL.of (qad e4lh hacc),by rw [zB];exact uF _⟩
   .rintro c Hc v Hd hc rfl ⟨rfl,hv⟩
    have hv:=hv _ (SqL.of (qad e4lh hacc))
    rw [zC,zA hc] at hv
    cases hv
    have tk:(qae (elN es) i).take (c+1)=(qae (elN es) i).take c++ [(qae (elN es) i)[c]]:=by rw [zO,zA hc];rfl
    have hh:=lle _ (zJ hc)
    have hcl2:=qcd low i hi
    generalize (qae (elN es) i)[c]=h at*
    obtain⟨l,hl,al⟩:=xl h (by omega)
    have zl:((((qae (elN es) i).take c).map fun h=>Y h j).map V.int).length < sizeLine:=by rw [zB,zB,zU];show _ < 16777216;omega
    unfold iV
    left
    refine qb7 (SqL.of (qad e4ll hacc)) al ?_
    left
    refine qb7 (SqL.of (qad (hA4 h l hl) hacc)) (xj _) ?_
    left
    rw [qbi,tk,zE,zE]
    rfl
   rintro Hc rfl
   rw [zS]
   have s5:=qa7 hacc (.lst (((qae (elN es) i).map fun h=>Y h j).map V.int))
   have e5:upd H4 acc (.lst (((qae (elN es) i).map fun h=>Y h j).map V.int)) acc=some (.lst (((qae (elN es) i).map fun h=>Y h j).map V.int)):=qa1
   generalize upd H4 acc (.lst (((qae (elN es) i).map fun h=>Y h j).map V.int))=H5 at*
   left
   refine r_minL (SqL.of e5) (by rw [zB];exact List.length_pos_of_mem (qcq low hi)) fun m hm hmin=>?_
   have mle:∀h∈qae (elN es) i,m<=Y h j:=fun h hh=>hmin _ (zK.mpr ⟨h,hh,rfl⟩)
   have cj:(cur[j]?).getD 0=0:=by rw [yK (by omega)];rfl
   obtain⟨m0,m9⟩:0<=m/\m<=10^30:=by
    obtain⟨h,hh,rfl⟩:=zK.mp hm
    have z:=hY h j (by have:=lle h hh;omega) hj
    have z2:=nn h j
    rw [cj] at z
    have:(if h∈qae (elN es) i then (0:Int) else 0)=0:=by split <;> rfl
    rw [this] at z
    have:=(h9.bd h j).2
    omega
   clear hm hmin e5 hacc
   left
   rename_i pm hpm
   refine qc3 (by omega) (by omega) (by decide) (by decide) fun r r0 r1=>?_
   refine r_menu (xs:=[0,m,m.fdiv 2]) (SqL.of qa1) r0 r1 fun pt hpt=>?_
   obtain⟨p0,pm'⟩:0<=pt/\pt<=m:=by
    have ed:m.fdiv 2=m / 2:=aI m (by decide)
    simp only [zM,yF,or_false] at hpt
    rw [ed] at hpt
    omega
   have s6:=s5.trans (qa7 hpm (.lst [.int 0,.int m,.int (m.fdiv 2)]))
   generalize upd H5 pm (.lst [.int 0,.int m,.int (m.fdiv 2)])=H6 at*
   have e6lp:=s6 _ _ e4lp
   have e6pi:=s6 _ _ e4pi
   have e6lh:=s6 _ _ e4lh
   have e6q:∀q∈qs,H6 q.1=some (.lst (q.2.map V.int)):=fun q h=>s6 _ _ (e4q q h)
   have hA6:=hA4.same s6
   have sb6:=sb4.new s6
   have zc:(cur.map V.int).length < sizeLine:=by rw [zB];show _ < 16777216;omega
   have xpi:atI (qsV qs++ [V.ref pi]) ki=some (.ref pi):=by
    rw [<-hki]
    refine qav ?_
    rw [zZ (by unfold qsV;rw [zB];omega)]
    unfold qsV
    rw [zB,hql,dL]
    rfl
   clear hpt r0 r1 s5 s6 e4lp e4pi e4lh e4q hA4 sb4 e4ll hpm
   left
   refine qb7 (SqL.of e6lp) xpi ?_
   left
   have ecur:cur.map V.int++ [V.int pt]=(cur++ [pt]).map V.int:=by rw [zE];rfl
   rw [ecur]
   have e7lp:upd H6 pi (.lst ((cur++ [pt]).map V.int)) lp=some (.lst (qsV qs++ [.ref pi])):=by rw [qa6 nplp];exact e6lp
   have e7pi:upd H6 pi (.lst ((cur++ [pt]).map V.int)) pi=some (.lst ((cur++ [pt]).map V.int)):=qa1
   have e7lh:upd H6 pi (.lst ((cur++ [pt]).map V.int)) lh=some (.lst ((qae (elN es) i).map iV)):=by rw [qa6 nplh];exact e6lh
   have e7q:∀q∈qs,upd H6 pi (.lst ((cur++ [pt]).map V.int)) q.1=some (.lst (q.2.map V.int)):=fun q h=>by rw [qa6 (nlhq q h).2.1];exact e6q q h
   have hA7:=hA6.other (o:=.lst ((cur++ [pt]).map V.int)) npL
   have sb7:SB ls H1 (upd H6 pi (.lst ((cur++ [pt]).map V.int))):=sb6.put (.inl n1pi)
   generalize upd H6 pi (.lst ((cur++ [pt]).map V.int))=H7 at*
   clear e6lp e6pi e6lh e6q hA6 sb6 zc
   have e7le:H7 le=some (.lst (las.map V.ref)):=sb7 le _ (s1 _ _ hE.top) (notL hE.top)
   left
   refine qb7 (SqL.of e7le) alh ?_
   left
   refine qct (xs:=(qae (elN es) i).map iV) (fun c' σ H8=>∃w:Option V,σ=[some (V.ref a),some (V.ref le),some (V.ref lc),some (V.int c),some (V.ref ll),some (V.ref lp),some (V.int ki),some (V.int ji),some (V.int m),some (V.int pt),w]/\SB ls H1 H8/\H8 lp=some (.lst (qsV qs++ [.ref pi]))/\H8 pi=some (.lst ((cur++ [pt]).map V.int))/\H8 lh=some (.lst ((qae (elN es) i).map iV))/\(∀q∈qs,H8 q.1=some (.lst (q.2.map V.int)))/\qby H8 ls kd fun h j'=>if h∈(qae (elN es) i).take c'/\j'=j then Y h j' - pt else Y h j')
    ⟨_,rfl,sb7,e7lp,e7pi,e7lh,e7q,hA7.cast fun h j' _ _=>by rw [gK (by simp)]⟩ ?_ ?_ ?_
   .rintro c' σ H8 _ ⟨w,_,_,_,_,e,_⟩
    exact SqL.of e
   .rintro c' x σ H8 hx ⟨w,rfl,sb8,e8lp,e8pi,e8lh,e8q,hA8⟩
    rw [zC] at hx
    obtain⟨h,hh,rfl⟩:=uU.mp hx
    have hc':c' <(qae (elN es) i).length:=(uH.mp hh).1
    have tk:(qae (elN es) i).take (c'+1)=(qae (elN es) i).take c'++ [h]:=by rw [zO,hh];rfl
    have hin:=lle h (zD hh)
    have hnt:h∉(qae (elN es) i).take c':=fun hm=>by
     obtain⟨b,hb,e⟩:=zQ.mp hm
     rw [zU] at hb
     rw [cQ] at e
     obtain⟨g1,g2⟩:=uH.mp hh
     exact(zW.mp lnd) b c' (by omega) hc' (by omega) (e.trans g2.symm)
    obtain⟨l,hl,al⟩:=xl h (by omega)
    have hlm:=zD hl
    have e8ll:H8 ll=some (.lst (ls.map V.ref)):=sb8 ll _ eL1 fun hm=>(hls ll hm).1 rfl
    have e8l:=hA8 h l hl
    have yv:(if h∈(qae (elN es) i).take c'/\j=j then Y h j - pt else Y h j)=Y h j:=gK fun z=>hnt z.1
    have xv:=xj fun j'=>if h∈(qae (elN es) i).take c'/\j'=j then Y h j' - pt else Y h j'
    rw [yv] at xv
    clear hx
    unfold iV
    left
    refine qb7 (SqL.of e8ll) al ?_
    left
    refine qb7 (SqL.of e8l) xv ?_
    left
    refine qb7 (SqL.of e8ll) al ?_
    left
    refine r_lpk e8l (k:=j) (by rw [colV_len];exact hj) ?_ hji.symm
    rw [colV_set _ _ hj]
    have nl:∀a,a∉ls->a≠l:=fun a ha z=>ha (z ▸ hlm)
    left
    refine⟨_,rfl,sb8.put (.inr hlm),by rw [qa6 (nl lp nlpL)];exact e8lp,by rw [qa6 (nl pi npL)];exact e8pi,by rw [qa6 (nl lh nlhL)];exact e8lh,fun q hq=>by rw [qa6 (nl q.1 (nlhq q hq).2.2.2)];exact e8q q hq,(hA8.put nd hl).cast fun a b ha hb=>?_⟩
    try dsimp only
    rw [tk]
    by_cases ca:a=h
    .rw [gL ca,ca]
     by_cases cb:b=j
     .rw [gL cb,gL ⟨zP _ (zF.mpr rfl),cb⟩,cb]
     .rw [gK cb,gK (fun z=>cb z.2),gK (fun z=>cb z.2)]
    .rw [gK ca]
     by_cases cm:a∈(qae (elN es) i).take c'/\b=j
     .rw [gL cm,gL ⟨yG _ cm.1,cm.2⟩]
     .rw [gK cm,gK fun z=>(zR.mp z.1).elim (fun z1=>cm ⟨z1,z.2⟩) fun z1=>ca (zF.mp z1)]
   .rintro σ H8 ⟨w,rfl,sb8,e8lp,e8pi,e8lh,e8q,hA8⟩
    rw [zB,zS] at hA8
    left
    refine⟨cur++ [pt],_,_,_,_,_,rfl,sb8,e8lp,e8pi,e8lh,e8q,by rw [zG,hcl];rfl,fun x hx=>?_,hA8,fun h j' hh hj'=>?_⟩
    .rcases zR.mp hx with z|z
     .exact hcur x z
     .rw [zF.mp z];omega
    .obtain⟨y0,y1⟩:=hY h j' hh hj'
     by_cases cj':j'=j
     .subst cj'
      rw [cj] at y1
      have eg:((cur++ [pt])[j']?).getD 0=pt:=by rw [zZ (by omega),hcl,dL];rfl
      rw [eg]
      by_cases ch:h∈qae (elN es) i
      .have:=mle h ch
       rw [gL ch] at y1 ⊢
       rw [gL ⟨ch,rfl⟩]
       omega
      .rw [gK ch] at y1 ⊢
       rw [gK fun z=>ch z.1]
       exact⟨y0,y1⟩
     .have eg:((cur++ [pt])[j']?).getD 0=(cur[j']?).getD 0:=by
       by_cases lt:j' < cur.length
       .rw [yC lt]
       .rw [yK (l:=cur) (by omega),yK (by rw [zG,zT];omega)]
      rw [eg,gK fun z=>cj' z.2]
      exact⟨y0,y1⟩
  .rintro σ H4 ⟨cur,Y,w1,w2,w3,w4,rfl,sb4,e4lp,e4pi,e4lh,e4q,hcl,hcur,hA4,hY⟩
   left
   refine⟨qs++ [(pi,cur)],Y,_,_,_,_,_,rfl,sb4,⟨by rw [e4lp];unfold qsV;rw [zE];rfl,fun q hq=>?_,?_,fun q hq=>?_⟩,by rw [zG,hql];rfl,hA4,fun h j' hh hj'=>?_⟩
   .rcases zR.mp hq with z|z
    .exact⟨e4q q z,row1 q z⟩
    .rw [zF.mp z];exact⟨e4pi,n1pi,nplp.symm⟩
   .rw [zE]
    exact yI.mpr ⟨nd1,zX.mpr ⟨by simp,yM⟩,fun a ha b hb=>by
     have eb:b=pi:=by simpa using hb
     obtain⟨q,hq,rfl⟩:=zK.mp ha
     rw [eb]
     exact(nlhq q hq).2.1⟩
   .rcases zR.mp hq with z|z
    .exact val1 q z
    .rw [zF.mp z];exact⟨hcl,hcur⟩
   .have z:sumQ (elN es) (qs++ [(pi,cur)]) (qs.length+1) h j'=sumQ (elN es) qs qs.length h j'+(if h∈qae (elN es) qs.length then (cur[j']?).getD 0 else 0):=sumQ_snoc (elN es) qs (pi,cur) h j'
    rw [hql] at z
    rw [z]
    obtain⟨y0,y1⟩:=hY h j' hh hj'
    exact⟨y0,by rw [y1,Int.sub_sub]⟩
 .rintro σ H' ⟨qs,X,w1,w2,w3,w4,w5,rfl,sb,hq,hql,hA,hX⟩
  left
  exact q lp qs H' (fun b o hb=>sb b o (s1 b o hb) (notL hb)) hq.top hql (fun x hx=>⟨(hq.row x hx).1,hq.val x hx⟩) fun h j hh hj=>by
   have:=hX h j hh hj
   omega
def csD (cs:List Pq) (k:Nat):List Int:=match cs[k]? with
 |some c=>c.2
 |none=> []
def csA (cs:List Pq) (k:Nat):Addr:=match cs[k]? with
 |some c=>c.1
 |none=>0
def csT (ws:List Str) (cs:List Pq):List Pt:=cs.map fun c=>⟨0,tdK (ws.zip c.2),tdF (ws.zip c.2)⟩
theorem CsAt.at {H:Hp} {kd:Nat} {cs:List Pq} (h:CsAt H kd cs) {k:Nat} (hk:k < cs.length):H (csA cs k)=some (.lst ((csD cs k).map V.int))/\(csD cs k).length=kd/\(∀x∈csD cs k,0<=x/\x<=10^30)/\atI (qsV cs) ((k:Nat):Int)=some (.ref (csA cs k)):=by
 have e:=zA hk
 have z:=h _ (zJ hk)
 unfold csA csD
 rw [e]
 exact⟨z.1,z.2.1,z.2.2,qav (by unfold qsV;rw [zC,e];rfl)⟩
theorem csT_at {ws:List Str} {cs:List Pq} {k:Nat} (hk:k < cs.length):(csT ws cs)[k]?=some ⟨0,tdK (ws.zip (csD cs k)),tdF (ws.zip (csD cs k))⟩:=by
 have e:=zA hk
 unfold csT csD
 rw [zC,e];rfl
def mkP (ws nm:List Str) (es:List Nat) (ts:List Pt) (cs:List Pq):PL:=⟨0,0,0,0,0,ws,nm,es,ts,csT ws cs⟩
theorem mkP_ok {H:Hp} {ws nm:List Str} {es:List Nat} {ts:List Pt} {qs cs:List Pq} (hcl:cs.length=es.length+1) (hcs:CsAt H ws.length cs) (hw:Nms ws ws.length) (w1:1<=ws.length) (w3:ws.length<=6) (hn:Nms nm (es.length+1)) (h11:es.length<=11) (lo:∀(k e:Nat),es[k]?=some e->e<=k/\e<=10)
  (hts:ts.map (fun t=>(t.k,t.f))=qs.map fun q=>(tdK (ws.zip q.2),tdF (ws.zip q.2))) (hql:qs.length=es.length+1) (hq:∀q∈qs,q.2.length=ws.length/\∀x∈q.2,0<=x/\x<=10^30) (hs:∀h j,h < es.length+1->j < ws.length->sumQ (elN es) qs (es.length+1) h j<=atQ cs h j):PlF (mkP ws nm es ts cs):=by
 have htl:ts.length=es.length+1:=by have:=congrArg xA hts;rw [zB,zB] at this;omega
 have htk:∀(k:Nat) (t:Pt),ts[k]?=some t->∃q,qs[k]?=some q/\t.k=tdK (ws.zip q.2)/\t.f=tdF (ws.zip q.2):=fun k t ht=>by
  have z:=congrArg (fun l=>l[k]?) hts
  simp only [zC,ht] at z
  cases e:qs[k]? with
  |none=>rw [e] at z;cases z
  |some q=>
   rw [e] at z
   have z':(t.k,t.f)=(tdK (ws.zip q.2),tdF (ws.zip q.2)):=uW z
   exact⟨q,rfl,(cS z').1,(cS z').2⟩
 refine⟨w1,w3,hw.good,hw.nd,hn.len,by show nm.length<=12;rw [hn.len];omega,hn.good,hn.nd,lo,by show ts.length=nm.length;rw [hn.len];exact htl,by show (csT ws cs).length=nm.length;unfold csT;rw [zB,hn.len];exact hcl,fun t ht=>?_,fun t ht=>?_,fun j t ht v hv=>?_⟩
 .obtain⟨k,hk,e⟩:=zQ.mp ht
  obtain⟨q,h1,h2,h3⟩:=htk k t (by rw [<-e];exact zA hk)
  rw [h2,h3]
  exact⟨qdu _,tdF_fin (hq q (zD h1)).1.symm hw.nd fun p hp=>((hq q (zD h1)).2 p hp).2⟩
 .obtain⟨c,hc,rfl⟩:=zK.mp ht
  exact⟨qdu _,tdF_fin (hcs c hc).2.1.symm hw.nd fun p hp=>((hcs c hc).2.2 p hp).2⟩
 .have hj:j < es.length+1:=by
   have:=(uH.mp ht).1
   rw [show (mkP ws nm es ts cs).tc=csT ws cs from rfl] at this
   unfold csT at this
   rw [zB] at this
   omega
  have e:t=⟨0,tdK (ws.zip (csD cs j)),tdF (ws.zip (csD cs j))⟩:=uW (ht.symm.trans (csT_at (by omega)))
  subst e
  obtain⟨_,cl,cb,_⟩:=hcs.at (show j < cs.length by omega)
  obtain⟨a,ha,rfl⟩:=zQ.mp hv
  have ha:a < ws.length:=ha
  have g9:gN (tdF (ws.zip (csD cs j))) ws[a]=atQ cs j a:=by
   rw [tdF_gN cl.symm hw.nd (fun p hp=>(cb p hp).1) ha (by rw [cl];exact ha)]
   have e:=zA (show j < cs.length by omega)
   unfold atQ
   rw [e]
   show _=((cs[j]'(by omega)).2[a]?).getD 0
   have e2:csD cs j=(cs[j]'(by omega)).2:=by unfold csD;rw [e]
   rw [<-e2,zA (by rw [cl];exact ha)];rfl
  show (qdn ts.length fun k=>if j∈qae (elN es) k then ptN ts k ws[a] else 0)<=gN (tdF (ws.zip (csD cs j))) ws[a]
  rw [g9,htl]
  refine Int.le_trans (Int.le_of_eq ?_) (hs j a hj ha)
  unfold sumQ
  refine qe3 fun k hk=>?_
  have hkt:k < ts.length:=by omega
  obtain⟨q,h1,h2,h3⟩:=htk k ts[k] (zA hkt)
  have hqm:=hq q (zD h1)
  have e1:ptN ts k ws[a]=atQ qs k a:=by
   unfold ptN atQ
   rw [zA hkt,h1]
   show gN ts[k].f ws[a]=(q.2[a]?).getD 0
   rw [h3,tdF_gN hqm.1.symm hw.nd (fun p hp=>(hqm.2 p hp).1) ha (by omega),zA (by omega)]
   rfl
  rw [e1]
theorem line_head (el:Nat->Nat) (k:Nat):(qae el k)[0]?=some k:=by cases k <;> rfl
def wgo (K:uR) (d:Ad):Sp:=fun vs H Q _=>∃(a:Addr) (ns:List Int) (wt ln lw le lr la lc:Addr) (las:List Addr) (cs:List Pq) (nm ws:List Str) (es:List Nat),vs=[.ref a,.ref wt]/\SqL K H a (ns.map V.int)/\ns.length<=63/\H wt=some (.tup [.ref ln,.ref lw,.ref le,.ref lr,.ref la,.ref lc])/\H ln=some (.lst (nm.map V.str))/\H lw=some (.lst (ws.map V.str))/\LnsAt H le las es/\H lc=some (.lst (qsV cs))/\cs.length=es.length+1/\CsAt H ws.length cs/\
 Nms nm (es.length+1)/\Nms ws ws.length/\1<=ws.length/\ws.length<=6/\es.length<=11/\
 ∀(t:Addr) (S:Ts) (P:PL) (wt:Nat->Int) (H':Hp),qar H H'->P.nm=nm->P.ws=ws->P.es=es->P.tc=csT ws cs->PlF P->qf8 d H' t S->TInv S P nm.length wt->Q (.ref t) H'
include T in
theorem wga:FnOk P w K mg base CX0 20 d.wev d.wcu ["_law_script","_law_world_here"] (wgo K d):=by
 refine T.wfv.ok w3q (fun vs H Q E h=>?_) (fun cdv A outer s H vs Q E hr h=>?_)
 .obtain⟨a,ns,wt,ln,lw,le,lr,la,lc,las,cs,nm,ws,es,rfl,_⟩:=h;rfl
 obtain⟨a,ns,wt,ln,lw,le,lr,la,lc,las,cs,nm,ws,es,rfl,hSa,h63,hwt,hN,hW,hE,hC,hcl,h9,hn,hw,w1,w3,h11,q⟩:=h
 have lo:=hE.lo
 refine⟨_,(qa3 (qdj (pv 1) (qci rfl (qac (qab (i:=2) w3q.nd rfl (uI rfl)) (qac (qab (i:=3) w3q.nd rfl (aM rfl)) (qac (qab (i:=4) w3q.nd rfl (uI rfl)) (qac (qab (i:=5) w3q.nd rfl (uI rfl)) (qac (qab (i:=6) w3q.nd rfl (uI rfl)) (qac (qab (i:=7) w3q.nd rfl (uI rfl)) qbu))))))))
  (qa3 (qcy (j:=8) (caps:=[3]) (cn:=["_law_wares"]) (qb2 rfl rfl (by rfl) (by rfl) rfl ⟨rfl,trivial⟩ (by rfl) rfl ⟨⟨rfl,rfl,rfl,rfl,_,rfl⟩,trivial⟩ (by decide)) rfl w3q.nd rfl rfl (qau (qa9 ((wcw T).mono (by decide)) hr rfl T.wdp T.w9k.kp T.wdu .nil qah (qa0 (pv 0) (qa0 (pv 4) (qa0 (pv 7) qa2))))) (fun _ _ _ _=>qdk) (fun _ _ _ _=>(qa9 ((w3t T).mono (by decide)) hr rfl T.w5w T.w5g.kp T.w5t .nil qah (qa0 (pv 1) (qa0 (pv 0) qa2)))))
  (qa3 (qaf (i:=9) w3q.nd rfl (uI rfl) (pe_makeX (W:=fun _ _ _ _=>False) T.w7u ((wbn T).mono (by decide)) hr rfl T.wh9 T.wap T.wba qff (qa0 (qbe qeb rfl T.wam xS (qa0 (pv 3) qa2)) (qa0 (qak qal (pv 2) qa4 (fun _ _=>rfl)) (qa0 (qak qal (pv 8) qa4 (fun _ _=>rfl)) (qa0 (qa9 ((w3t T).mono (by decide)) hr rfl T.w5w T.w5g.kp T.w5t .nil qah (qa0 (pv 3) (qa0 (qak qal (pv 7) qa4 (fun _ _=>rfl)) qa2))) qa2))))))
  (qa3 (qb8 vA rfl (pi_range2 rfl T.w3e (qa0 qa4 (qa0 (qai qaw rfl T.w2v vH (qa0 (pv 2) qa2)) qa2))) (qab (i:=10) w3q.nd rfl (uI rfl)) (qa5 (qb3 (qb6 (W:=fun _ _ _ _=>False) (pv 9) T.w01 T.w21 ((wa6 T).mono (by decide)) hr T.wa3 T.waj qff (qa0 (qak qal (pv 2) (pv 10) (fun _ _=>rfl)) (qa0 (qak qal (pv 2) (qak qal (qak qal (pv 4) (pv 10) (fun _ _=>rfl)) qa4 (fun _ _=>rfl)) (fun _ _=>rfl)) (qa0 (qak qal (pv 8) (pv 10) (fun _ _=>rfl)) (qa0 (qa9 ((w3t T).mono (by decide)) hr rfl T.w5w T.w5g.kp T.w5t .nil qah (qa0 (pv 3) (qa0 (qak qal (pv 7) (pv 10) (fun _ _=>rfl)) qa2))) qa2))))))))
  (qa5 (qaj (pv 9))))))),?_⟩
 walk_at "d"
 try dsimp only [cxC]
 refine qag (σ:=[some (.ref a),some (.ref wt),none,none,none,none,none,none,none,none,none]) rfl ?_
 have ct:=T.w01
 left
 refine⟨a,ns,le,lc,las,cs,es,ws.length,rfl,hSa,h63,hE,h11,hC,hcl,h9,w3,fun lq qs H1 s1 elq hql hq hsum=>?_⟩
 have hW1:=s1 _ _ hW
 left
 intro C s0 H0 fp ld hld
 refine qek qs.length (fun i H'=>∃ts:List Pt,qar H1 H'/\H' ld=some (.lst (ts.map fun t=> .ref t.a))/\ts.map (fun t=>(t.k,t.f))=(qs.take i).map (fun q=>(tdK (ws.zip q.2),tdF (ws.zip q.2)))/\∀t∈ts,H' t.a=some (.dK t.k)/\t.a≠ld) ⟨[],qa7 hld _,qa1,rfl,fun t h=>by simp at h⟩ ?_ ?_ ?_ ?_
 .rintro i H' hi ⟨ts,sm,_⟩
  exact⟨_,.ref qs[i].1,SqL.of (sm _ _ elq),by unfold qsV;rw [zC,zA hi];rfl⟩
 .rintro H' ⟨ts,sm,_⟩
  exact⟨_,SqL.of (sm _ _ elq),by unfold qsV;rw [zB];exact uF _⟩
 .rintro i H' v H'' hi ⟨ts,sm,eD,hts,hT⟩ ⟨rfl,hv⟩
  have hv:=hv _ (SqL.of (sm _ _ elq))
  unfold qsV at hv
  rw [zC,zA hi] at hv
  cases hv
  have tk:qs.take (i+1)=qs.take i++ [qs[i]]:=by rw [zO,zA hi];rfl
  obtain⟨q1,q2,q3⟩:=hq _ (zJ hi)
  have htl:ts.length=i:=by have:=congrArg xA hts;rw [zB,zB,zU] at this;omega
  generalize qs[i]=qi at*
  have zl:(ts.map fun t=>V.ref t.a).length < sizeLine:=by rw [zB];show _ < 16777216;omega
  left
  refine⟨lw,qi.1,ws,qi.2,rfl,SqL.of (sm _ _ hW1),SqL.of (sm _ _ q1),q2.symm,by omega,fun l H3 s3 hl el=>?_⟩
  have eD3:=s3 _ _ eD
  have nl:l≠ld:=(qa8 eD hl).symm
  refine⟨_,eD3,zl,ts++ [⟨l,tdK (ws.zip qi.2),tdF (ws.zip qi.2)⟩],qaq (sm.trans s3) hld,by rw [qa1,zE];rfl,by rw [zE,hts,tk,zE];rfl,fun t ht=>?_⟩
  rcases zR.mp ht with h|h
  .exact⟨by rw [qa6 (hT t h).2];exact s3 _ _ (hT t h).1,(hT t h).2⟩
  .rw [zF.mp h]
   exact⟨by rw [qa6 nl];exact el,nl⟩
 rintro H2 ⟨ts,s2,eD,hts,hT⟩
 rw [zS] at hts
 have pf:PlF (mkP ws nm es ts cs):=mkP_ok hcl h9 hw w1 w3 hn h11 lo hts hql (fun q h=>(hq q h).2) hsum
 have s02:=s1.trans s2
 have hlen:=hn.len
 have etp:(mkP ws nm es ts cs).tp=ts:=rfl
 have etc:(mkP ws nm es ts cs).tc=csT ws cs:=rfl
 have ews:(mkP ws nm es ts cs).ws=ws:=rfl
 have enm:(mkP ws nm es ts cs).nm=nm:=rfl
 have ees:(mkP ws nm es ts cs).es=es:=rfl
 generalize mkP ws nm es ts cs=P at*
 subst etp ews enm ees
 have nlc:P.nm.length=cs.length:=by have:=pf.nl;omega
 have tcE:∀k,k < P.nm.length->tfF P.tc k=tdF (P.ws.zip (csD cs k)):=fun k hk=>by unfold tfF;rw [etc,csT_at (by omega)]
 have tcF:∀k,k < P.nm.length->Fin P.ws (tdF (P.ws.zip (csD cs k))):=fun k hk=>(tdF_fin (h9.at (by omega)).2.1.symm hw.nd fun p hp=>((h9.at (by omega)).2.2.1 p hp).2).fin (by decide)
 have tcL:∀k,k < P.nm.length->(tdK (P.ws.zip (csD cs k))).length<=1000:=fun k hk=>by
  have:=td_len (P.ws.zip (csD cs k))
  rw [dP] at this
  omega
 have nl:=pf.nl
 have n12:=pf.n12
 have gt:GoodT P.ws:=⟨pf.w1,by have:=pf.w3;omega,pf.wg,pf.wn⟩
 have hz0:P.nm[0]?=some (nmF P 0):=by rw [qd9 (by omega)];exact zA (by omega)
 have gz:qdr (nmF P 0)=true:=pf.ng _ (zD hz0)
 have xn0:atI (P.nm.map V.str) 0=some (.str (nmF P 0)):=qav (j:=0) (by rw [zC,hz0];rfl)
 obtain⟨tp,tp1,tp2,tp3,tp4,tp5⟩:=qem pf (k:=0) (by omega)
 have xp:atI (P.tp.map fun t=>V.ref t.a) 0=some (.ref tp.a):=qav (j:=0) (by rw [zC,tp1];rfl)
 obtain⟨h90,h90l,_,xc0⟩:=h9.at (k:=0) (by omega)
 have xc0:atI (qsV cs) 0=some (.ref (csA cs 0)):=xc0
 have lp1:tp.k.length<=1000:=by have:=tp4.le (fun z hz=>by cases e:tp.f z with|none=>exact absurd e hz|some n=>exact(tp5 z n e).1);omega
 have ole:=own_le pf (k:=0) (by omega)
 rw [tcE 0 (by omega)] at ole
 have hW2:=s02 _ _ hW
 left
 refine qfr (SqL.of hW2) fun h0 hh0=>?_
 have s3:=qa7 hh0 (.lst (P.ws.map V.str))
 have e0:upd H2 h0 (.lst (P.ws.map V.str)) h0=some (.lst (P.ws.map V.str)):=qa1
 generalize upd H2 h0 (.lst (P.ws.map V.str))=H3 at*
 have s03:=s02.trans s3
 have eD3:=s3 _ _ eD
 left
 refine qb7 (SqL.of (s03 _ _ hN)) xn0 ?_
 left
 refine qb7 (SqL.of eD3) xp ?_
 left
 refine qb7 (SqL.of (s03 _ _ hC)) xc0 ?_
 left
 refine⟨lw,csA cs 0,P.ws,csD cs 0,rfl,SqL.of (s03 _ _ hW),SqL.of (s03 _ _ h90),h90l.symm,by omega,fun h2 H4 s4 hh2 e2=>?_⟩
 have s04:=s03.trans s4
 have e1:=s4 _ _ (s3 _ _ (hT tp tp2).1)
 have e04:=s4 _ _ e0
 left
 intro x dx hx hdx ne
 have sN:∀b u,H4 b=some u->upd (upd H4 dx (.own x)) x (.ins d.w00 dx []) b=some u:=fun b u e=>by rw [qa6 (qa8 e hx),qa6 (qa8 e hdx)];exact e
 refine⟨x,dx,h0,tp.a,h2,nmF P 0,P.ws,tp.k,tdK (P.ws.zip (csD cs 0)),tp.f,tdF (P.ws.zip (csD cs 0)),1,rfl,qa1,sN _ _ e04,gt,gz,sN _ _ e1,tp4,lp1,sN _ _ e2,qdu _,tcL 0 (by omega),tp5,tcF 0 (by omega),by decide,by decide,fun y=>by rw [<-tp3];exact ole y,fun S e H5 sb hTr hs' f1 f2 f3 f4 hl en' ee ew' efp efc hpm hso=>⟨rfl,?_⟩⟩
 have s5:qar H4 H5:=fun b u e=>sb b u (qa8 e hx) (sN b u e)
 have fr:H4 S.hs=none:=by
  cases r:H4 S.hs with
  |none=>rfl
  |some u=>rw [sN _ _ r] at hs';cases hs'
 have s05:=s04.trans s5
 have s25:=(s3.trans s4).trans s5
 have hs2:H2 S.hs=none:=(s3.trans s4).free fr
 have tI:TInv S P (1+0) (fun _=>(1:Int)):=⟨pl_one pf hl en' ee,hpm,hso,fun k e' he=>by
  rw [hl] at he
  have hk:=(uH.mp he).1
  have e0:k=0:=by rw [zT] at hk;omega
  subst e0
  have:e'=e:=by simpa using he.symm
  subst this
  exact⟨by rw [tp3];exact efp,by rw [tcE 0 (by omega)];exact efc,by rw [ew']⟩⟩
 have hnl2:(P.nm.map V.str).length=P.nm.length:=zB _
 have hrn1:((((P.nm.map V.str).length:Nat):Int) - 1).toNat=P.nm.length - 1:=by rw [hnl2];omega
 have en5:=s05 _ _ hN
 clear sN fr hs' sb f1 f2 f3 f4 hpm hso efp efc ew' ee hl en' s5 s4 s3 e0 e1 e2 e04 hx hdx ne hh0 hh2 xp xc0 tp4 tp5 tp1 tp2 tp3 lp1 ole gt xn0 gz hz0 hld eD3 elq hW1 hW2 s1 s03 s04
 left
 unfold iRng2
 left
 refine⟨1,_,rfl,⟨by decide,by decide,by rw [hnl2];omega,by rw [hnl2];omega⟩,?_⟩
 rw [hrn1]
 refine qcz (fun i σ H'=>∃(w:Option V) (S':Ts),σ=[some (V.ref a),some (V.ref wt),some (V.ref ln),some (V.ref lw),some (V.ref le),some (V.ref lr),some (V.ref la),some (V.ref lc),some (V.ref ld),some (V.ref x),w]/\H2 S'.hs=none/\qf8 d H' x S'/\TInv S' P (1+i) (fun _=>(1:Int))/\qar H2 H') ⟨_,S,rfl,hs2,hTr,tI,s25⟩ ?_ ?_
 .rintro i σ H' hi ⟨w,S',rfl,hs1,hT',hI',sm⟩
  clear hTr tI s05 s25 hs2 en5
  have kn:1+i < P.nm.length:=by omega
  obtain⟨e',ae,een,hWf,hOw,hw50,h40,nk,line⟩:=hI'.ask pf (by omega) kn
  obtain⟨tp,tp1,tp2,tp3,tp4,tp5⟩:=qem pf kn
  have low:=pf.low P.nm.length (1+i) (by omega) kn
  have hb:i < P.es.length:=by omega
  have eb:elN P.es (1+i)=P.es[i]:=by rw [Nat.add_comm 1 i];exact elN_at hb
  obtain⟨lk,_,xl,elk⟩:=hE.at (k:=1+i) (by omega)
  have xe:atI ((qae (elN P.es) (1+i)).map iV) ((1:Nat):Int)=some (V.int ((elN P.es (1+i):Nat):Int)):=qav (by rw [qc2 (pf.low P.nm.length) (by omega) kn,zV,aY,zC,line_head];try rfl)
  have xe:atI ((qae (elN P.es) (1+i)).map iV) 1=some (V.int ((elN P.es (1+i):Nat):Int)):=xe
  have xn2:atI (P.nm.map V.str) ((elN P.es (1+i):Nat):Int)=some (.str (nmF P (elN P.es (1+i)))):=by rw [qd9 (by omega)];exact qav (by rw [zC,zA (by omega)];rfl)
  have xp:atI (P.tp.map fun t=>V.ref t.a) (((1+i:Nat)):Int)=some (.ref tp.a):=qav (by rw [zC,tp1];rfl)
  obtain⟨h9k,h9kl,_,xc⟩:=h9.at (k:=1+i) (by omega)
  have xn:atI (P.nm.map V.str) (((1+i:Nat)):Int)=some (.str (nmF P (1+i))):=by rw [qd9 kn];exact qav (by rw [zC,zA kn];rfl)
  have gzk:qdr (nmF P (1+i))=true:=by rw [qd9 kn];exact pf.ng _ (zJ kn)
  have lp1:tp.k.length<=1000:=by have:=tp4.le (fun z hz=>by cases e:tp.f z with|none=>exact absurd e hz|some n=>exact(tp5 z n e).1);omega
  have ole:=own_le pf kn
  rw [tcE _ kn] at ole
  rw [show (1:Int)+(i:Int)=(((1+i:Nat)):Int) by omega]
  generalize ((elN P.es (1+i):Nat):Int)=ej at xe xn2
  generalize hki:(((1+i:Nat)):Int)=ki at*
  have s0':=s02.trans sm
  obtain⟨dx',ht'⟩:=id hT'.1
  have eD':=sm _ _ eD
  clear hrn1 hnl2
  left
  refine qb7 (SqL.of (s0' _ _ hN)) xn ?_
  left
  refine qb7 (SqL.of (s0' _ _ hE.top)) xl ?_
  left
  refine qb7 (SqL.of (s0' _ _ elk)) xe ?_
  left
  refine qb7 (SqL.of (s0' _ _ hN)) xn2 ?_
  left
  refine qb7 (SqL.of eD') xp ?_
  left
  refine qb7 (SqL.of (s0' _ _ hC)) xc ?_
  left
  refine⟨lw,csA cs (1+i),P.ws,csD cs (1+i),rfl,SqL.of (s0' _ _ hW),SqL.of (s0' _ _ h9k),h9kl.symm,by omega,fun h2 H4 s4 hh2 e2=>?_⟩
  have e1:=s4 _ _ (sm _ _ (hT tp tp2).1)
  left
  refine⟨x,tp.a,h2,S',nmF P (1+i),.str (nmF P (elN P.es (1+i))),tp.k,tdK (P.ws.zip (csD cs (1+i))),tp.f,tdF (P.ws.zip (csD cs (1+i))),1,rfl,hT'.same s4,gzk,nk,.inl ⟨_,rfl⟩,fun hn=>?_,fun e3 he3=>?_⟩
  .rw [show who S' (.str (nmF P (elN P.es (1+i))))=some e' from ae] at hn;cases hn
  .have e33:e'=e3:=uW (ae.symm.trans he3)
   subst e33
   refine⟨hWf,hOw,hw50,e1,tp4,lp1,e2,qdu _,tcL _ kn,fin_perm tp5 hI'.wp,fin_perm (tcF _ kn) hI'.wp,by decide,by decide,h40,by rw [<-tp3];exact line,fun y=>by rw [<-tp3];exact ole y,fun e4 H5 sb f1 f2 f3 hT5 n1 n2 n3 n4 n5=>?_⟩
   left
   refine⟨_,{S' with hl:=S'.hl++ [e4]},rfl,hs1,hT5,(hI'.next pf (by omega) kn n1 (by rw [n2,een]) n3 (by rw [tp3];exact n4) (by rw [tcE _ kn];exact n5)).cast fun j hj=>?_,fun b u e=>sb b u (qa8 e hs1) ((sm.trans s4) b u e)⟩
   split <;> rfl
 rintro σ H' ⟨w,S',rfl,hs1,hT',hI',sm⟩
 left
 exact q x S' P _ H' (s02.trans sm) rfl rfl rfl etc pf hT' (by rw [show P.nm.length=1+(P.nm.length - 1) by omega];exact hI')
def tuO (n r:Int):Option Int:=if n%2=0 then none else some (1+r)
def wdw (K:uR) (d:Ad):Sp:=fun vs H Q _=>∃(wt ln lw le lr la lc:Addr) (P:PL) (Rs:List Rw),vs=[.ref wt]/\H wt=some (.tup [.ref ln,.ref lw,.ref le,.ref lr,.ref la,.ref lc])/\H lr=some (.lst (rwV Rs))/\H ln=some (.lst (P.nm.map V.str))/\H lw=some (.lst (P.ws.map V.str))/\P.ws.length<=6/\Rs.length<=30/\(∀R∈Rs,RwAt H P.nm.length P.ws.length R)/\
 ∀(l:Addr) (bs:List Ob) (H':Hp),qar H H'->H' l=some (.lst (bsV bs))->bs.map (·.R)=Rs.map (rrOf P.ws)->(∀b∈bs,ObAt d H' P b)->(∀b∈bs,b.t=tuO b.R.n b.R.r)->Q (.ref l) H'
include T in
theorem wde:FnOk P w K mg base CX0 3 d.w82 d.w77 ["_law_world_here"] (wdw K d):=by
 refine T.wb5.ok w0b (fun vs H Q E h=>?_) (fun cdv A outer s H vs Q E hr h=>?_)
 .obtain⟨wt,ln,lw,le,lr,la,lc,P,Rs,rfl,_⟩:=h;rfl
 obtain⟨wt,ln,lw,le,lr,la,lc,P,Rs,rfl,hwt,hL,hN,hW,w3,h9,hR,q⟩:=h
 refine⟨_,(qa3 (qdj (pv 0) (qci rfl (qac (qab (i:=1) w0b.nd rfl (uI rfl)) (qac (qab (i:=2) w0b.nd rfl (uI rfl)) (qac (qab (i:=3) w0b.nd rfl (uI rfl)) (qac (qab (i:=4) w0b.nd rfl (uI rfl)) (qac (qab (i:=5) w0b.nd rfl (uI rfl)) (qac (qab (i:=6) w0b.nd rfl (uI rfl)) qbu))))))))
  (qa3 (qaf (i:=7) w0b.nd rfl (uI rfl) (qbl qa2))
  (qa3 (qb8 vA rfl (qau (pv 4)) (qci rfl (qac (qab (i:=8) w0b.nd rfl (uI rfl)) (qac (qab (i:=9) w0b.nd rfl (uI rfl)) (qac (qab (i:=10) w0b.nd rfl (uI rfl)) (qac (qab (i:=11) w0b.nd rfl (uI rfl)) (qac (qab (i:=12) w0b.nd rfl (uI rfl)) qbu)))))) (qa3 (qaf (i:=13) w0b.nd rfl (uI rfl) (qak qal (qbl (qa0 qcp (qa0 (qam qb0 qa4 (pv 11)) qa2))) (qam qc5 (pv 8) qa4) (fun _ _=>rfl)))
  (qa5 (qd6 (qbg (qbk (pv 12)) (qa5 (qb3 (qdh vB vE vF qb1 (pv 7) (qa0 (pe_make T.w8m ((w7i T).mono (by decide)) hr rfl T.whd T.w8e .nil qah (qa0 (pv 8) (qa0 (qak qal (pv 1) (pv 9) (fun _ _=>rfl)) (qa0 (qa9 ((w3t T).mono (by decide)) hr rfl T.w5w T.w5g.kp T.w5t .nil qah (qa0 (pv 2) (qa0 (pv 10) qa2))) (qa0 (pv 11) (qa0 (pv 13) qa2)))))) qa2)))) (qa5 (qb3 (qdh vB vE vF qb1 (pv 7) (qa0 (pe_make T.w8u ((w7i T).mono (by decide)) hr rfl T.whc T.w8e .nil qah (qa0 (pv 8) (qa0 (qak qal (pv 1) (pv 9) (fun _ _=>rfl)) (qa0 (qa9 ((w3t T).mono (by decide)) hr rfl T.w5w T.w5g.kp T.w5t .nil qah (qa0 (pv 2) (qa0 (pv 10) qa2))) (qa0 (pv 11) (qa0 (pv 13) qa2)))))) qa2)))))))))
  (qa5 (qaj (pv 7)))))),?_⟩
 walk_at "d"
 refine qag (σ:=[some (.ref wt),none,none,none,none,none,none,none,none,none,none,none,none,none]) rfl ?_
 left
 rename_i l hl
 have s1:=qa7 hl (.lst [])
 have hL1:=s1 _ _ hL
 left
 refine qct (xs:=rwV Rs) (fun i σ H'=>∃(bs:List Ob) (w1 w2 w3 w4 w5 w6:Option V),σ=[some (V.ref wt),some (V.ref ln),some (V.ref lw),some (V.ref le),some (V.ref lr),some (V.ref la),some (V.ref lc),some (V.ref l),w1,w2,w3,w4,w5,w6]/\qar H H'/\H' l=some (.lst (bsV bs))/\bs.map (·.R)=(Rs.take i).map (rrOf P.ws)/\(∀b∈bs,ObAt d H' P b)/\∀b∈bs,b.t=tuO b.R.n b.R.r)
  ⟨[],_,_,_,_,_,_,rfl,s1,qa1,rfl,fun b h=>by simp at h,fun b h=>by simp at h⟩ ?_ ?_ ?_
 .rintro i σ H' hi ⟨bs,w1,w2,w3,w4,w5,w6,rfl,sm,el,hbs,hB,hU⟩
  exact SqL.of (sm _ _ hL)
 .rintro i x σ H' hx ⟨bs,w1,w2,w3,w4,w5,w6,rfl,sm,el,hbs,hB,hU⟩
  unfold rwV at hx
  rw [zC] at hx
  obtain⟨R,hr,rfl⟩:=uU.mp hx
  have tk:Rs.take (i+1)=Rs.take i++ [R]:=by rw [zO,hr];rfl
  have hi9:i < Rs.length:=(uH.mp hr).1
  have hRi:=(hR R (zD hr)).same sm
  have hrow:=hRi.row
  have hbl:bs.length<=30:=by have:=congrArg xA hbs;rw [zB,zB,zU] at this;omega
  have xn:atI (P.nm.map V.str) ((R.i:Nat):Int)=some (.str (nmF P R.i)):=by rw [qd9 hRi.il];exact qav (by rw [zC,zA hRi.il];rfl)
  generalize hri:((R.i:Nat):Int)=ri at*
  clear hx
  left
  rename_i pm hpm
  have m0:=vZ R.n (show (2:Int)≠0 by decide)
  have m1:=vX R.n (show (0:Int) < 2 by decide)
  have hturn:∃t:Option Int,atI [V.non,V.int (1+R.r)] (R.n%2)=some (tV t)/\t=tuO R.n R.r:=by
   have hc:R.n%2=0\/R.n%2=1:=by omega
   rcases hc with c|c
   .exact⟨none,by rw [c];exact qav (j:=0) rfl,by unfold tuO;rw [gL c]⟩
   .exact⟨some (1+R.r),by rw [c];exact qav (j:=1) rfl,by unfold tuO;rw [gK (by omega)]⟩
  obtain⟨t,ht,htu⟩:=hturn
  refine qb7 (SqL.of qa1) ht ?_
  have s2:=qa7 hpm (.lst [V.non,V.int (1+R.r)])
  generalize upd H' pm (.lst [V.non,V.int (1+R.r)])=H1 at*
  clear m0 m1 ht hrow
  have hN1:=s2 _ _ (sm _ _ hN)
  have hW1:=s2 _ _ (sm _ _ hW)
  have hP1:=s2 _ _ hRi.par
  have el1:=s2 _ _ el
  have hB1:∀b∈bs,ObAt d H1 P b:=fun b hb=>(hB b hb).same s2
  have zl:(bsV bs).length < sizeLine:=by unfold bsV;rw [zB];show _ < 16777216;omega
  have fin:∀(x dx a m:Addr) (H2 H3:Hp),qar H1 H2->H2 x=none->H2 dx=none->H2 a=some (.dK (tdK (P.ws.zip R.ps)))->upd (upd H2 dx (.own x)) x (.ins (qf5 d R.s) dx []) m=none->H3 x=some (.ins (qf5 d R.s) dx (fsB R.n (nmF P R.i) m R.r t))->H3 m=some (.dK (tdK (P.ws.zip R.ps)))->SameBut x (upd (upd H2 dx (.own x)) x (.ins (qf5 d R.s) dx [])) H3->
    qar H1 H3/\H3 l=some (.lst (bsV bs))/\∃bs':List Ob,bsV bs'=bsV bs++ [.ref x]/\bs'.map (·.R)=(Rs.take (i+1)).map (rrOf P.ws)/\(∀b∈bs',ObAt d (upd H3 l (.lst (bsV bs++ [.ref x]))) P b)/\∀b∈bs',b.t=tuO b.R.n b.R.r:=fun x dx a m H2 H3 s3 hx hdx ha hm ex em sb=>by
   have nmx:m≠x:=fun z=>by subst z;rw [qa1] at hm;cases hm
   rw [qa6 nmx] at hm
   have s13:qar H1 H3:=fun b o hb=>by
    have hb2:=s3 _ _ hb
    exact sb b o (qa8 hb2 hx) (by rw [qa6 (qa8 hb2 hx),qa6 (qa8 hb2 hdx)];exact hb2)
   have el3:=s13 _ _ el1
   refine⟨s13,el3,bs++ [⟨rrOf P.ws R,x,m,t⟩],by unfold bsV;rw [zE];rfl,by rw [zE,hbs,tk,zE];rfl,fun b hb=>?_,fun b hb=>?_⟩
   rotate_left
   .rcases zR.mp hb with h|h
    .exact hU b h
    .rw [zF.mp h];exact htu
   have nel:∀y:Ob,ObAt d H3 P y->y.o≠l/\y.m≠l:=fun y hy=>by
    refine⟨fun z=>?_,fun z=>?_⟩
    .obtain⟨dx,e⟩:=hy.obj
     rw [z,el3] at e;cases e
    .have e:=hy.amt
     rw [z,el3] at e;cases e
   rcases zR.mp hb with h|h
   .have h1:=(hB1 b h).same s13
    exact h1.put (nel b h1).1 (nel b h1).2
   .have:b=⟨rrOf P.ws R,x,m,t⟩:=by simpa using h
    subst this
    have h1:ObAt d H3 P ⟨rrOf P.ws R,x,m,t⟩:=⟨⟨dx,ex⟩,em,qdu _,tdF_in hRi.len.symm,hRi.il⟩
    exact h1.put (nel _ h1).1 (nel _ h1).2
  left
  refine r_cut0 ?_
  left
  refine i_b2 (fun hs=>?_) (fun hs=>?_)
  .have ec:qf5 d R.s=d.w0a:=by rw [hs];rfl
   left
   refine qb7 (SqL.of hN1) xn ?_
   left
   refine⟨lw,R.e,P.ws,R.ps,rfl,SqL.of hW1,SqL.of hP1,hRi.len.symm,by omega,fun a H2 s3 ha ea=>?_⟩
   left
   intro x dx hx hdx ne
   refine⟨x,dx,a,R.s,R.n,nmF P R.i,tdK (P.ws.zip R.ps),R.r,t,rfl,by rw [ec];exact qa1,by rw [qa6 (qa8 ea hx),qa6 (qa8 ea hdx)];exact ea,fun m H3 hm ex em sb=>⟨rfl,?_⟩⟩
   rw [<-ec] at hm sb
   obtain⟨s13,el3,bs',e1,e2,e3,e4⟩:=fin x dx a m H2 H3 s3 hx hdx ea hm ex em sb
   left
   exact⟨bs',_,_,_,_,_,_,rfl,qaq ((sm.trans s2).trans s13) hl,by rw [qa1,e1],e2,e3,e4⟩
  .have ec:qf5 d R.s=d.w09:=by rw [hs];rfl
   left
   refine qb7 (SqL.of hN1) xn ?_
   left
   refine⟨lw,R.e,P.ws,R.ps,rfl,SqL.of hW1,SqL.of hP1,hRi.len.symm,by omega,fun a H2 s3 ha ea=>?_⟩
   left
   intro x dx hx hdx ne
   refine⟨x,dx,a,R.s,R.n,nmF P R.i,tdK (P.ws.zip R.ps),R.r,t,rfl,by rw [ec];exact qa1,by rw [qa6 (qa8 ea hx),qa6 (qa8 ea hdx)];exact ea,fun m H3 hm ex em sb=>⟨rfl,?_⟩⟩
   rw [<-ec] at hm sb
   obtain⟨s13,el3,bs',e1,e2,e3,e4⟩:=fin x dx a m H2 H3 s3 hx hdx ea hm ex em sb
   left
   exact⟨bs',_,_,_,_,_,_,rfl,qaq ((sm.trans s2).trans s13) hl,by rw [qa1,e1],e2,e3,e4⟩
 .rintro σ H' ⟨bs,w1,w2,w3,w4,w5,w6,rfl,sm,el,hbs,hB,hU⟩
  left
  rw [show Rs.take (rwV Rs).length=Rs by unfold rwV;rw [zB,zS]] at hbs
  exact q l bs H' sm el hbs hB hU
def qdi (r:Int) (su:Bool) (R:Rw):Bool:=!R.s && (su || decide (R.r < r))
def wgp (K:uR) (d:Ad):Sp:=fun vs H Q _=>∃(la:Addr) (nh kd:Nat) (R:Rw) (h:Int) (pa:Addr) (r:Int) (su:Bool),vs=[.ref R.p,.ref la]/\RwAt H nh kd R/\H la=some (.tup [.int h,.ref pa,.int r,.bl su])/\Q (.bl (qdi r su R)) H
include T in
theorem w65:FnOk P w K mg base CX0 1 d.weg d.wcv ["_law_row","_law_ask"] (wgp K d):=by
 refine T.w7d.ok wgx (fun vs H Q E h=>?_) (fun cdv A outer s H vs Q E hr h=>?_)
 .obtain⟨la,nh,kd,R,h,pa,r,su,rfl,_⟩:=h;rfl
 obtain⟨la,nh,kd,R,h,pa,r,su,rfl,hR,hla,q⟩:=h
 refine⟨_,(qa5 (qaj (qfh (pe_not (qak qap (pv 0) qa4 (fun _ _=>rfl))) (qec (pe_or (qak qap (pv 1) qa4 (fun _ _=>rfl)) (qec (qbv op_lt (qak qap (pv 0) qa4 (fun _ _=>rfl)) (qak qap (pv 1) qa4 (fun _ _=>rfl)) (qat _)))))))),?_⟩
 walk_at "d"
 refine qag (σ:=[some (.ref R.p),some (.ref la)]) rfl ?_
 have hrow:=hR.row
 generalize hri:((R.i:Nat):Int)=ri at*
 unfold qdi at q
 cases c1:R.s with
 |true=>
  rw [c1] at hrow q
  left
  exact q
 |false=>
  rw [c1] at hrow q
  cases c2:su with
  |true=>
   rw [c2] at hla q
   left
   exact q
  |false=>
   rw [c2] at hla q
   left
   exact q
def psN (R:Rw) (j:Nat):Int:=(R.ps[j]?).getD 0
def qdv (el:Nat->Nat) (Rs:List Rw) (a j:Nat):Int:=((Rs.filter fun R=>decide (a∈qae el R.i)).map fun R=>psN R j).sum
def whf (K:uR) (d:Ad):Sp:=fun vs H Q _=>∃(lr le:Addr) (las:List Addr) (Rs:List Rw) (es:List Nat) (nh kd a j:Nat),vs=[.ref lr,.ref le,.int (a:Int),.int (j:Int)]/\H lr=some (.lst (rwV Rs))/\Rs.length<=100/\(∀R∈Rs,RwAt H nh kd R)/\LnsAt H le las es/\nh=es.length+1/\j < kd/\
 ∀H',qar H H'->Q (.int (qdv (elN es) Rs a j)) H'
include T in
theorem wej:FnOk P w K mg base CX0 3 d.wgk d.wei ["_law_rows_here","_law_lines_here","_law_at","_law_j"] (whf K d):=by
 refine T.wf9.ok wh8 (fun vs H Q E h=>?_) (fun cdv A outer s H vs Q E hr h=>?_)
 .obtain⟨lr,le,las,Rs,es,nh,kd,a,j,rfl,_⟩:=h;rfl
 obtain⟨lr,le,las,Rs,es,nh,kd,a,j,rfl,hL,h9,hR,hE,en,jk,q⟩:=h
 refine⟨_,(qa5 (qaj (qai (call_sumL rfl) rfl T.whm PyProof.Rows.boot_sum (qa0 (qbm (caps:=[1,2,3]) (cn:=["_law_lines_here","_law_at","_law_j"]) (qb2 rfl rfl (by rfl) (by rfl) rfl ⟨rfl,⟨rfl,⟨rfl,trivial⟩⟩⟩ (by rfl) rfl ⟨⟨rfl,rfl,rfl,rfl,_,rfl⟩,⟨⟨rfl,rfl,rfl,rfl,_,rfl⟩,⟨⟨rfl,rfl,rfl,rfl,_,rfl⟩,trivial⟩⟩⟩ (by decide)) rfl (qau (pv 0)) (fun _ _ _ _=>(qc8 (qan qcc (pv 2) (qak qal (pv 1) (qak qap (pv 0) qa4 (fun _ _=>rfl)) (fun _ _=>rfl)) (by rfl)))) (fun _ _ _ _=>(qak qal (qak qap (pv 0) qa4 (fun _ _=>rfl)) (pv 3) (fun _ _=>rfl)))) qa2)))),?_⟩
 walk_at "d"
 try dsimp only [cxC]
 refine qag (σ:=[some (.ref lr),some (.ref le),some (.int (a:Int)),some (.int (j:Int))]) rfl ?_
 have xj:∀(R:Rw),R.ps.length=kd->atI (R.ps.map V.int) ((j:Nat):Int)=some (.int (psN R j)):=fun R hl=>qav (by unfold psN;rw [zC,zA (by omega)];rfl)
 generalize hai:((a:Nat):Int)=ai
 generalize hji:((j:Nat):Int)=ji at*
 left
 intro C s0 H0 fp acc hacc
 refine qek Rs.length (fun i H'=>qar H H'/\H' acc=some (.lst ((((Rs.take i).filter fun R=>decide (a∈qae (elN es) R.i)).map fun R=>psN R j).map V.int))) ⟨qa7 hacc _,qa1⟩ ?_ ?_ ?_ ?_
 .rintro i H' hi ⟨sm,_⟩
  exact⟨_,.ref Rs[i].p,SqL.of (sm _ _ hL),by unfold rwV;rw [zC,zA hi];rfl⟩
 .rintro H' ⟨sm,_⟩
  exact⟨_,SqL.of (sm _ _ hL),by unfold rwV;rw [zB];exact uF _⟩
 .rintro i H' v H'' hi ⟨sm,ea⟩ ⟨rfl,hv⟩
  have hv:=hv _ (SqL.of (sm _ _ hL))
  unfold rwV at hv
  rw [zC,zA hi] at hv
  cases hv
  have tk:Rs.take (i+1)=Rs.take i++ [Rs[i]]:=by rw [zO,zA hi];rfl
  have hRi:=(hR _ (zJ hi)).same sm
  generalize Rs[i]=R at*
  have hrow:=hRi.row
  have ril:=hRi.il
  obtain⟨x,_,ax,ex⟩:=(hE.same sm).at (k:=R.i) (by omega)
  have etop:=(hE.same sm).top
  have hpar:=hRi.par
  generalize hri:((R.i:Nat):Int)=ri at*
  have zl:((((Rs.take i).filter fun R=>decide (a∈qae (elN es) R.i)).map fun R=>psN R j).map V.int).length < sizeLine:=by
   rw [zB,zB]
   have h1:=zY (fun R:Rw=>decide (a∈qae (elN es) R.i)) (Rs.take i)
   rw [zU] at h1
   show _ < 16777216
   omega
  left
  refine qb7 (SqL.of etop) ax ?_
  left
  refine r_inN (SqL.of ex) hai ?_
  by_cases c:a∈qae (elN es) R.i
  .rw [gM c]
   left
   refine qb7 (SqL.of hpar) (xj R hRi.len) ?_
   left
   refine⟨qaq sm hacc,?_⟩
   rw [qa1,tk,yA,yE,gL (gM c),zE,zE];rfl
  .rw [gO c]
   left
   refine⟨sm,?_⟩
   rw [ea,tk,yA,yE,gK (by rw [gO c];decide),yR,yB]
 rintro H1 ⟨sm,ea⟩
 rw [zS] at ea
 left
 refine r_sumL (SqL.of ea) ?_
 left
 exact q _ sm
theorem r_slL {K:uR} {H:Hp} {Q:VK} {a:Addr} {xs:List V} {lo hi:Option Int} (h:SqL K H a xs) (q:∀p,H p=none->Q (.ref p) (upd H p (.lst (cutV xs lo hi)))):rSlL K (.ref a) lo hi H Q:=⟨a,xs,rfl,h,q⟩
theorem psN_bd {R:Rw} {j:Nat} (h:∀p∈R.ps,PpOk p):0<=psN R j/\psN R j<=6*10^27:=by
 unfold psN
 cases e:R.ps[j]? with
 |none=>exact⟨wB _,by decide⟩
 |some x=>have:=h x (zD e);exact⟨this.lo,this.hi⟩
theorem sumRs_bd {el:Nat->Nat} {a j:Nat}:∀{Rs:List Rw},(∀R∈Rs,∀p∈R.ps,PpOk p)->0<=qdv el Rs a j/\qdv el Rs a j<=((Rs.length:Nat):Int)*(6*10^27)
 | [],_=>⟨wB _,by show (0:Int)<=0*(6*10^27);decide⟩
 |R :: Rs,h=>by
  have ih:=sumRs_bd (el:=el) (a:=a) (j:=j) (Rs:=Rs) fun x hx=>h x (zH _ hx)
  have hb:=psN_bd (j:=j) (h R (zN ..))
  unfold qdv at ih ⊢
  rw [yE,zL]
  by_cases c:decide (a∈qae el R.i)=true
  .rw [gL c,zV,List.sum_cons]
   omega
  .rw [gK c]
   omega
theorem cut0 {Rs:List Rw} {r:Int} (h0:0<=r):cutV (rwV Rs) none (some r)=rwV (Rs.take r.toNat):=by
 obtain⟨n,rfl⟩:=wL h0
 unfold cutV
 rw [HT.sIx_none,HT.sIx_nat,List.drop_zero,Nat.sub_zero,xB]
 unfold rwV
 rw [<-List.map_take,zB]
 congr 1
 by_cases c:n<=Rs.length
 .rw [Nat.min_eq_left c]
 .rw [Nat.min_eq_right (by omega),zS,List.take_of_length_le (by omega)]
structure CpB (x:Int):Prop where
 lo:0<=x
 hi:x<=10^30
structure IxB (x:Int):Prop where
 lo:0<=x
 hi:x<=6
structure SmB (x:Int):Prop where
 lo:0<=x
 hi:x<=2*10^29
theorem sum_smb {el:Nat->Nat} {a j:Nat} {Rs:List Rw} (h:∀R∈Rs,∀p∈R.ps,PpOk p) (l:Rs.length<=30):SmB (qdv el Rs a j):=by
 have:=sumRs_bd (el:=el) (a:=a) (j:=j) h
 exact⟨this.1,by omega⟩
structure LwB (x:Int):Prop where
 lo:0<=x
 hi:x<=3*10^29
theorem lw_of {x p:Int} {b:Bool} (h:SmB x) (hp:PpOk p):LwB (x+p*if b=true then 1 else 0):=by
 have h1:=h.lo
 have h2:=h.hi
 have p1:=hp.lo
 have p2:=hp.hi
 cases b with
 |true=>rw [gL rfl,Int.mul_one];exact⟨by omega,by omega⟩
 |false=>rw [gK uJ,Int.mul_zero];exact⟨by omega,by omega⟩
theorem cp_of {x y z v:Int} (h:LwB x) (hy:SmB y) (hz:z∈ [0,0,1,0 - if decide (0 < y)=true then 1 else 0]) (hv:v∈ [x+y+z,if x - 1 > 0 then x - 1 else 0]):CpB v:=by
 have h1:=h.lo
 have h2:=h.hi
 have y1:=hy.lo
 have y2:=hy.hi
 have hz:z=0\/z=1\/z=0 - (if decide (0 < y)=true then 1 else 0):=by
  simp only [zM,yF,or_false] at hz
  omega
 have hv:v=x+y+z\/v=if x - 1 > 0 then x - 1 else 0:=by
  simp only [zM,yF,or_false] at hv
  exact hv
 have zb:0<=y+z/\z<=1:=by
  rcases hz with e|e|e
  .omega
  .omega
  .rw [e]
   by_cases c:0 < y
   .rw [gM c,gL rfl];omega
   .rw [gO c,gK uJ];omega
 rcases hv with e|e
 .exact⟨by omega,by omega⟩
 .rw [e];split
  .exact⟨by omega,by omega⟩
  .exact⟨by omega,by omega⟩
def wgh (K:uR) (d:Ad):Sp:=fun vs H Q _=>∃(a:Addr) (ns:List Int) (lr le la pa:Addr) (las:List Addr) (Rs:List Rw) (es:List Nat) (kd h:Nat) (aps:List Int) (rk:Int) (su:Bool),vs=[.ref a,.ref lr,.ref le,.ref la]/\SqL K H a (ns.map V.int)/\ns.length<=63/\H lr=some (.lst (rwV Rs))/\Rs.length<=30/\(∀R∈Rs,RwAt H (es.length+1) kd R)/\LnsAt H le las es/\es.length<=5/\1<=kd/\kd<=6/\h < es.length+1/\H la=some (.tup [.int (h:Int),.ref pa,.int rk,.bl su])/\H pa=some (.lst (aps.map V.int))/\aps.length=kd/\(∀p∈aps,PpOk p)/\
 ∀(lc:Addr) (cs:List Pq) (H':Hp),qar H H'->H' lc=some (.lst (qsV cs))->cs.length=es.length+1->CsAt H' kd cs->Q (.ref lc) H'
include T in
theorem wgg:FnOk P w K mg base CX0 4 d.wdy d.wco ["_law_script","_law_rows_here","_law_lines_here","_law_ask"] (wgh K d):=by
 refine T.wg2.ok w27 (fun vs H Q E h=>?_) (fun cdv A outer s H vs Q E hr h=>?_)
 .obtain⟨a,ns,lr,le,la,pa,las,Rs,es,kd,h,aps,rk,su,rfl,_⟩:=h;rfl
 obtain⟨a,ns,lr,le,la,pa,las,Rs,es,kd,h,aps,rk,su,rfl,hSa,h63,hL,r30,hR,hE,e5,k1,k3,hh,hla,hpa,apl,apn,q⟩:=h
 refine⟨_,(qa3 (qaf (i:=4) w27.nd rfl (uI rfl) (qa9 ((w1y T).mono (by decide)) hr rfl T.w3i T.w38.kp T.w3j .nil qah (qa0 (pv 0) (qa0 qa4 qa2))))
  (qa3 (qcy (j:=5) (caps:=[3]) (cn:=["_law_ask"]) (qb2 rfl rfl (by rfl) (by rfl) rfl ⟨rfl,trivial⟩ (by rfl) rfl ⟨⟨rfl,rfl,rfl,rfl,_,rfl⟩,trivial⟩ (by decide)) rfl w27.nd rfl rfl (qau (pv 1)) (fun _ _ _ _=>(qc8 (qcb (qbk (qa9 ((w65 T).mono (by decide)) hr rfl T.w8n T.w7d.kp T.w8a .nil qah (qa0 (pv 0) (qa0 (pv 1) qa2))))))) (fun _ _ _ _=>(pv 0)))
  (qa3 (qcy (j:=6) (caps:=[3]) (cn:=["_law_ask"]) (qb2 rfl rfl (by rfl) (by rfl) rfl ⟨rfl,trivial⟩ (by rfl) rfl ⟨⟨rfl,rfl,rfl,rfl,_,rfl⟩,trivial⟩ (by decide)) rfl w27.nd rfl rfl (qau (pv 1)) (fun _ _ _ _=>(qc8 (qbk (qa9 ((w65 T).mono (by decide)) hr rfl T.w8n T.w7d.kp T.w8a .nil qah (qa0 (pv 0) (qa0 (pv 1) qa2)))))) (fun _ _ _ _=>(pv 0)))
  (qa3 (qaf (i:=7) w27.nd rfl (uI rfl) qa4)
  (qa3 (qd6 (qbg (qan qdo (qa9 ((w0p T).mono (by decide)) hr rfl T.w2c T.w25.kp T.w2b .nil qah (qa0 (pv 4) (qa0 qa4 (qa0 qa4 qa2)))) qa4 (qat _)) (qa5 (qaf (i:=7) w27.nd rfl (uI rfl) (qak qal (qak qal (pv 2) (qak qap (pv 3) qa4 (fun _ _=>rfl)) (fun _ _=>rfl)) (qa9 ((w0p T).mono (by decide)) hr rfl T.w2c T.w25.kp T.w2b .nil qah (qa0 (pv 4) (qa0 qa4 (qa0 (qai qaw rfl T.w2v vH (qa0 (qak qal (pv 2) (qak qap (pv 3) qa4 (fun _ _=>rfl)) (fun _ _=>rfl)) qa2)) qa2)))) (fun _ _=>rfl)))) qas))
  (qa3 (qaf (i:=8) w27.nd rfl (uI rfl) (qbl qa2))
  (qa3 (qb8 vA rfl (qbt rfl T.w3e (qa0 (qai qaw rfl T.w2v vH (qa0 (pv 2) qa2)) qa2)) (qab (i:=9) w27.nd rfl (uI rfl)) (qa3 (qaf (i:=10) w27.nd rfl (uI rfl) (qbl qa2))
  (qa3 (qb8 vA rfl (qbt rfl T.w3e (qa0 (qai qaw rfl T.w2v vH (qa0 (qak qap (pv 3) qa4 (fun _ _=>rfl)) qa2)) qa2)) (qab (i:=11) w27.nd rfl (uI rfl)) (qa3 (qaf (i:=12) w27.nd rfl (uI rfl) (qam qb0 (qa9 ((wej T).mono (by decide)) hr rfl T.wh1 T.wf9.kp T.wg5 .nil qah (qa0 (pv 5) (qa0 (pv 2) (qa0 (pv 9) (qa0 (pv 11) qa2))))) (qam qbw (qak qal (qak qap (pv 3) qa4 (fun _ _=>rfl)) (pv 11) (fun _ _=>rfl)) (qbe qe1 rfl T.wef yZ (qa0 (qbv qcc (pv 9) (qak qal (pv 2) (qak qap (pv 3) qa4 (fun _ _=>rfl)) (fun _ _=>rfl)) (by rfl)) qa2)))))
  (qa3 (qaf (i:=13) w27.nd rfl (uI rfl) (qa9 ((wej T).mono (by decide)) hr rfl T.wh1 T.wf9.kp T.wg5 .nil qah (qa0 (qdw qeo (pv 6) qev (qeu (qa9 ((w0p T).mono (by decide)) hr rfl T.w2c T.w25.kp T.w2b .nil qah (qa0 (pv 4) (qa0 (qam qb0 (qam qb0 qa4 (qam qbw qa4 (pv 9))) (pv 11)) (qa0 (qam qb0 (qai qaw rfl T.w2v vH (qa0 (pv 6) qa2)) qa4) qa2)))))) (qa0 (pv 2) (qa0 (pv 9) (qa0 (pv 11) qa2))))))
  (qa3 (qaf (i:=14) w27.nd rfl (uI rfl) (qak qal (qbl (qa0 qa4 (qa0 qa4 (qa0 qa4 (qa0 (qam qez qa4 (qbe qe1 rfl T.wef yZ (qa0 (qbv qfd (pv 13) qa4 (qat _)) qa2))) qa2))))) (qa9 ((w0p T).mono (by decide)) hr rfl T.w2c T.w25.kp T.w2b .nil qah (qa0 (pv 4) (qa0 (qam qb0 (qam qb0 qa4 (qam qbw qa4 (pv 9))) (pv 11)) (qa0 qa4 qa2)))) (fun _ _=>rfl)))
  (qa5 (qb3 (qdh vB vE vF qb1 (pv 10) (qa0 (qak qal (qbl (qa0 (qam qb0 (qam qb0 (pv 12) (pv 13)) (pv 14)) (qa0 (qai (call_maxR rfl) rfl T.wh5 PyProof.Rows.boot_max (qa0 qa4 (qa0 (qam qez (pv 12) qa4) qa2))) qa2))) (qbe qe1 rfl T.wef yZ (qa0 (qbv qdo (pv 9) (pv 7) (qat _)) qa2)) (fun _ _=>rfl)) qa2))))))))
  (qa5 (qb3 (qdh vB vE vF qb1 (pv 8) (qa0 (pv 10) qa2)))))))
  (qa5 (qaj (pv 8)))))))))),?_⟩
 walk_at "d"
 try dsimp only [cxC]
 refine qag (σ:=[some (.ref a),some (.ref lr),some (.ref le),some (.ref la),none,none,none,none,none,none,none,none,none,none,none]) rfl ?_
 left
 refine⟨a,ns,7,rfl,hSa,by decide,by decide,h63,fun H sc=>?_⟩
 have hL:=sc _ _ hL
 have hR:=fun R hr=>(hR R hr).same sc
 have hE:=hE.same sc
 have hla:=sc _ _ hla
 have hpa:=sc _ _ hpa
 have q:=fun lc cs H' (s:qar H H')=>q lc cs H' (sc.trans s)
 generalize qbq ns 7=c
 clear hSa sc
 have hLH:=hL
 have hRH:=hR
 have hlaH:=hla
 left
 intro C s0 H0 fp ls hls
 refine qek Rs.length (fun i H'=>H'=upd H ls (.lst (rwV ((Rs.take i).filter fun R=>!qdi rk su R)))) rfl ?_ ?_ ?_ ?_
 .rintro i H' hi rfl
  exact⟨_,.ref Rs[i].p,SqL.of (qad hLH hls),by unfold rwV;rw [zC,zA hi];rfl⟩
 .rintro H' rfl
  exact⟨_,SqL.of (qad hLH hls),by unfold rwV;rw [zB];exact uF _⟩
 .rintro i H' v H'' hi rfl ⟨rfl,hv⟩
  have hv:=hv _ (SqL.of (qad hLH hls))
  unfold rwV at hv
  rw [zC,zA hi] at hv
  cases hv
  have tk:Rs.take (i+1)=Rs.take i++ [Rs[i]]:=by rw [zO,zA hi];rfl
  have hRi:=(hRH _ (zJ hi)).same (qa7 hls (.lst (rwV ((Rs.take i).filter fun R=>!qdi rk su R))))
  generalize Rs[i]=R at*
  have hla':=qad (o':=.lst (rwV ((Rs.take i).filter fun R=>!qdi rk su R))) hlaH hls
  have zl:(rwV ((Rs.take i).filter fun R=>!qdi rk su R)).length < sizeLine:=by
   unfold rwV
   rw [zB]
   have h1:=zY (fun R:Rw=>!qdi rk su R) (Rs.take i)
   rw [zU] at h1
   show _ < 16777216
   omega
  left
  refine⟨la,_,kd,R,_,pa,rk,su,rfl,hRi,hla',?_⟩
  cases c:qdi rk su R with
  |true=>
   left
   rw [tk,yA,yE,gK (by rw [c];exact uJ),yR,yB]
  |false=>
   left
   rw [qbi,tk,yA,yE,gL (by rw [c];try rfl)]
   unfold rwV
   rw [zE];rfl
 rintro H' rfl
 rw [zS]
 have s1:=qa7 hls (.lst (rwV (Rs.filter fun R=>!qdi rk su R)))
 have els:upd H ls (.lst (rwV (Rs.filter fun R=>!qdi rk su R))) ls=some (.lst (rwV (Rs.filter fun R=>!qdi rk su R))):=qa1
 generalize upd H ls (.lst (rwV (Rs.filter fun R=>!qdi rk su R)))=H1 at*
 have hLH1:=s1 _ _ hL
 have hRH1:=fun R hr=>(hR R hr).same s1
 have hlaH1:=s1 _ _ hla
 left
 intro C s0 H0 fp lg hlg
 refine qek Rs.length (fun i H'=>H'=upd H1 lg (.lst (rwV ((Rs.take i).filter fun R=>qdi rk su R)))) rfl ?_ ?_ ?_ ?_
 .rintro i H' hi rfl
  exact⟨_,.ref Rs[i].p,SqL.of (qad hLH1 hlg),by unfold rwV;rw [zC,zA hi];rfl⟩
 .rintro H' rfl
  exact⟨_,SqL.of (qad hLH1 hlg),by unfold rwV;rw [zB];exact uF _⟩
 .rintro i H' v H'' hi rfl ⟨rfl,hv⟩
  have hv:=hv _ (SqL.of (qad hLH1 hlg))
  unfold rwV at hv
  rw [zC,zA hi] at hv
  cases hv
  have tk:Rs.take (i+1)=Rs.take i++ [Rs[i]]:=by rw [zO,zA hi];rfl
  have hRi:=(hRH1 _ (zJ hi)).same (qa7 hlg (.lst (rwV ((Rs.take i).filter fun R=>qdi rk su R))))
  generalize Rs[i]=R at*
  have hla':=qad (o':=.lst (rwV ((Rs.take i).filter fun R=>qdi rk su R))) hlaH1 hlg
  have zl:(rwV ((Rs.take i).filter fun R=>qdi rk su R)).length < sizeLine:=by
   unfold rwV
   rw [zB]
   have h1:=zY (fun R:Rw=>qdi rk su R) (Rs.take i)
   rw [zU] at h1
   show _ < 16777216
   omega
  left
  refine⟨la,_,kd,R,_,pa,rk,su,rfl,hRi,hla',?_⟩
  cases c:qdi rk su R with
  |true=>
   left
   rw [qbi,tk,yA,yE,gL (by rw [c];try rfl)]
   unfold rwV
   rw [zE];rfl
  |false=>
   left
   rw [tk,yA,yE,gK (by rw [c];exact uJ),yR,yB]
 rintro H' rfl
 rw [zS]
 have s2:=qa7 hlg (.lst (rwV (Rs.filter fun R=>qdi rk su R)))
 have elg:upd H1 lg (.lst (rwV (Rs.filter fun R=>qdi rk su R))) lg=some (.lst (rwV (Rs.filter fun R=>qdi rk su R))):=qa1
 have els2:=s2 _ _ els
 generalize upd H1 lg (.lst (rwV (Rs.filter fun R=>qdi rk su R)))=H2 at*
 have t2:=s1.trans s2
 have hE2:=hE.same t2
 have hla2:=t2 _ _ hla
 have hpa2:=t2 _ _ hpa
 have hR2:∀R∈Rs,RwAt H2 (es.length+1) kd R:=fun R hr=>(hR R hr).same t2
 have f30:∀p:Rw->Bool,(Rs.filter p).length<=30:=fun p=>vN (zY ..) r30
 have fst:∀R∈Rs.filter (fun R=>!qdi rk su R),R∈Rs:=fun R hr=>(yH.mp hr).1
 have fgo:∀R∈Rs.filter (fun R=>qdi rk su R),R∈Rs:=fun R hr=>(yH.mp hr).1
 have fs30:=f30 fun R=>!qdi rk su R
 have fg30:=f30 fun R=>qdi rk su R
 generalize (Rs.filter fun R=>!qdi rk su R)=Ss at*
 generalize (Rs.filter fun R=>qdi rk su R)=Gs at*
 clear hLH hLH1 hRH hRH1 hlaH hlaH1 els hls hlg s1 s2 f30
 obtain⟨xh,_,axh,exh⟩:=hE2.at hh
 have etop2:=hE2.top
 have lh1:1<=(qae (elN es) h).length:=by have:=line_head (elN es) h;cases e:qae (elN es) h with|nil=>rw [e] at this;cases this|cons _ _=>show 1<=_+1;omega
 have lh2:=qcd (qds (fun k e h=>(hE.lo k e h).1) (es.length+1)) h hh
 have lnm:(((qae (elN es) h).map iV).length:Int)=(((qae (elN es) h).length:Nat):Int):=by rw [zB]
 generalize hhi:((h:Nat):Int)=hi at*
 left
 refine r_cut (fun σ' H'=>H'=H2/\∃sh:Int,σ'=[some (V.ref a),some (V.ref lr),some (V.ref le),some (V.ref la),some (V.int c),some (V.ref ls),some (V.ref lg),some (V.int sh),none,none,none,none,none,none,none]) ?_ ?_
 .left
  refine qc3 (by decide) (by decide) (by decide) (by decide) fun r _ _=>?_
  left
  refine i_2 (fun c1=>?_) (fun c1=>?_)
  .left
   refine qb7 (SqL.of etop2) axh ?_
   left
   refine qb7 (SqL.of etop2) axh ?_
   left
   rw [lnm]
   refine qc3 (by decide) (by decide) (by omega) (by omega) fun r2 a0 a1=>?_
   refine r_menuV (SqL.of exh) a0 (by rw [zB];exact a1) fun m hm=>?_
   obtain⟨k,_,rfl⟩:=zK.mp hm
   left
   exact⟨rfl,_,rfl⟩
  .left
   exact⟨rfl,_,rfl⟩
 rintro σ' H' ⟨rfl,sh,rfl⟩
 clear lh1 lh2 lnm
 left
 rename_i lc hlc
 have s3:=qa7 hlc (.lst [])
 have elc:upd H' lc (.lst []) lc=some (.lst []):=qa1
 generalize upd H' lc (.lst [])=H3 at*
 have hln:(las.map V.ref).length=es.length+1:=by rw [zB,hE.len]
 have hrn:(((las.map V.ref).length:Nat):Int).toNat=es.length+1:=by rw [hln];omega
 left
 rw [hrn]
 refine qcz (fun i σ Hx=>∃(cs:List Pq) (w9 w10 w11 w12 w13 w14:Option V),σ=[some (V.ref a),some (V.ref lr),some (V.ref le),some (V.ref la),some (V.int c),some (V.ref ls),some (V.ref lg),some (V.int sh),some (V.ref lc),w9,w10,w11,w12,w13,w14]/\qar H' Hx/\Hx lc=some (.lst (qsV cs))/\cs.length=i/\CsAt Hx kd cs/\∀q∈cs,q.1≠lc) ⟨[],_,_,_,_,_,_,rfl,s3,elc,rfl,fun q hq=>by simp at hq,fun q hq=>by simp at hq⟩ ?_ ?_
 .rintro i σ Hx hi ⟨cs,w9,w10,w11,w12,w13,w14,rfl,sx,elx,hcl,hcs,ncs⟩
  rw [dJ]
  have ki:((i:Nat):Int).natAbs < 2^600:=vR (show ((i:Nat):Int).natAbs<=12 by omega) (by decide)
  have ib:IxB ((i:Nat):Int):=⟨by omega,by omega⟩
  generalize hii:((i:Nat):Int)=ii at*
  have hpax:=sx _ _ hpa2
  have hlax:=sx _ _ hla2
  clear hln hrn
  have apn2:(((aps.map V.int).length:Nat):Int).toNat=kd:=by rw [zB,apl];omega
  left
  rename_i lp hlp
  have s4:=qa7 hlp (.lst [])
  have elp:upd Hx lp (.lst []) lp=some (.lst []):=qa1
  generalize upd Hx lp (.lst [])=H4 at*
  have hpa4:=s4 _ _ hpax
  have hla4:=s4 _ _ hlax
  clear hpax hlax
  left
  rw [apn2]
  refine qcz (fun j σ Hy=>∃(cur:List Int) (w11 w12 w13 w14:Option V),σ=[some (V.ref a),some (V.ref lr),some (V.ref le),some (V.ref la),some (V.int c),some (V.ref ls),some (V.ref lg),some (V.int sh),some (V.ref lc),some (V.int ii),some (V.ref lp),w11,w12,w13,w14]/\qar Hx Hy/\Hy lp=some (.lst (cur.map V.int))/\cur.length=j/\∀x∈cur,CpB x) ⟨[],_,_,_,_,rfl,s4,elp,rfl,fun x hx=>by simp at hx⟩ ?_ ?_
  .clear hpa4 hla4 elp s4
   rintro j σ Hy hj ⟨cur,w11,w12,w13,w14,rfl,sy,ely,hcu,hcv⟩
   rw [dJ]
   have sxy:=sx.trans sy
   have hpay:=sxy _ _ hpa2
   have hlay:=sxy _ _ hla2
   have hEy:=hE2.same sxy
   have etopy:=hEy.top
   have exhy:=sxy _ _ exh
   have elsy:=sxy _ _ els2
   have elgy:=sxy _ _ elg
   have hRy:∀R∈Rs,RwAt Hy (es.length+1) kd R:=fun R hr=>(hR2 R hr).same sxy
   have eap:=zA (show j < aps.length by omega)
   have xj:atI (aps.map V.int) ((j:Nat):Int)=some (.int (aps[j]'(by omega))):=qav (by rw [zC,eap];rfl)
   have pj:=apn _ (zD eap)
   generalize aps[j]'(by omega)=pv at*
   have pb:pv.natAbs < 2^600:=by have:=pj.lo;have:=pj.hi;exact vR (show pv.natAbs<=10^28 by omega) (by decide)
   have jb:IxB ((j:Nat):Int):=⟨by omega,by omega⟩
   generalize hjj:((j:Nat):Int)=jj at*
   left
   refine⟨ls,le,las,Ss,es,_,kd,i,j,by rw [hii,hjj],elsy,vN fs30 (by decide),fun R hr=>hRy R (fst R hr),hEy,rfl,hj,fun H5 s5=>?_⟩
   have lowb:SmB (qdv (elN es) Ss i j):=sum_smb (fun R hr=>(hR2 R (fst R hr)).nn) fs30
   generalize qdv (elN es) Ss i j=lo at*
   have hpa5:=s5 _ _ hpay
   have hla5:=s5 _ _ hlay
   have etop5:=s5 _ _ etopy
   have exh5:=s5 _ _ exhy
   have ely5:=s5 _ _ ely
   have elg5:=s5 _ _ elgy
   have hE5:=hEy.same s5
   have hR5:∀R∈Rs,RwAt H5 (es.length+1) kd R:=fun R hr=>(hRy R hr).same s5
   clear hpay hlay etopy exhy elsy elgy hRy ely
   left
   refine qb7 (SqL.of hpa5) xj ?_
   left
   refine qb7 (SqL.of etop5) axh ?_
   left
   refine r_inN (SqL.of exh5) hii ?_
   have mb:∀b:Bool,(if b=true then (1:Int) else 0).natAbs < 2^600:=fun b=>by cases b <;> decide
   have mb1:=mb (decide (i∈qae (elN es) h))
   generalize hbb:decide (i∈qae (elN es) h)=bb at*
   have lwb:=lw_of (b:=bb) lowb pj
   left
   generalize lo+pv*(if bb=true then 1 else 0)=low at*
   have glen:(rwV Gs).length=Gs.length:=by unfold rwV;rw [zB]
   rw [glen]
   have x1:=ib.lo
   have x2:=ib.hi
   have x3:=jb.lo
   have x4:=jb.hi
   refine qc3 (by omega) (by omega) (by omega) (by omega) fun r r0 r1=>?_
   refine⟨_,rfl,?_⟩
   refine r_slL (SqL.of elg5) fun lx hlx=>?_
   rw [cut0 r0]
   have s6:=qa7 hlx (.lst (rwV (Gs.take r.toNat)))
   have elx6:upd H5 lx (.lst (rwV (Gs.take r.toNat))) lx=some (.lst (rwV (Gs.take r.toNat))):=qa1
   generalize upd H5 lx (.lst (rwV (Gs.take r.toNat)))=H6 at*
   have tg30:(Gs.take r.toNat).length<=30:=by rw [zU];omega
   clear r0 r1 glen x1 x2 x3 x4 hlx
   left
   refine⟨lx,le,las,Gs.take r.toNat,es,_,kd,i,j,by rw [hii,hjj],elx6,vN tg30 (by decide),fun R hr=>(hR5 R (fgo R (yL hr))).same s6,hE5.same s6,rfl,hj,fun H7 s7=>?_⟩
   have mob:SmB (qdv (elN es) (Gs.take r.toNat) i j):=sum_smb (fun R hr=>(hR2 R (fgo R (yL hr))).nn) tg30
   generalize qdv (elN es) (Gs.take r.toNat) i j=mo at*
   have ely7:=s7 _ _ (s6 _ _ ely5)
   have t57:=(s5.trans s6).trans s7
   clear hpa5 hla5 etop5 exh5 ely5 elg5 hE5 hR5 s5 s6 s7 elx6 hbb lowb pj pb mb mb1 xj eap
   left
   rename_i pm hpm
   have x1:=ib.lo
   have x2:=ib.hi
   have x3:=jb.lo
   have x4:=jb.hi
   refine qc3 (by omega) (by omega) (by decide) (by decide) fun r2 b0 b1=>?_
   refine r_menu (xs:=[0,0,1,0 - if decide (0 < mo)=true then 1 else 0]) (SqL.of qa1) b0 b1 fun nr hnr=>?_
   have s8:=qa7 hpm (.lst [V.int 0,V.int 0,V.int 1,V.int (0 - if decide (0 < mo)=true then 1 else 0)])
   generalize upd H7 pm (.lst [V.int 0,V.int 0,V.int 1,V.int (0 - if decide (0 < mo)=true then 1 else 0)])=H8 at*
   have ely8:=s8 _ _ ely7
   clear b0 b1 ely7 hpm x1 x2 x3 x4
   left
   rename_i p9 hp9
   have ely9:=qad (o':=.lst [V.int (low+mo+nr),V.int (if low - 1 > 0 then low - 1 else 0)]) ely8 hp9
   have s9:=qa7 hp9 (.lst [V.int (low+mo+nr),V.int (if low - 1 > 0 then low - 1 else 0)])
   have e9:upd H8 p9 (.lst [V.int (low+mo+nr),V.int (if low - 1 > 0 then low - 1 else 0)]) p9=some (.lst [V.int (low+mo+nr),V.int (if low - 1 > 0 then low - 1 else 0)]):=qa1
   generalize upd H8 p9 (.lst [V.int (low+mo+nr),V.int (if low - 1 > 0 then low - 1 else 0)])=H9 at*
   refine r_menu (xs:=[low+mo+nr,if low - 1 > 0 then low - 1 else 0]) (SqL.of e9) (by split <;> decide) (by show _ <(2:Int);split <;> decide) fun v hv=>?_
   have cv:=cp_of lwb mob hnr hv
   have zl:(cur.map V.int).length < sizeLine:=by rw [zB];show _ < 16777216;omega
   clear hv hnr lwb mob ely8 e9 hp9
   left
   refine⟨cur++ [v],_,_,_,_,rfl,qaq (((sy.trans t57).trans s8).trans s9) hlp,by rw [qa1,zE];rfl,by rw [zG,hcu];rfl,fun x hx=>?_⟩
   rcases zR.mp hx with hx|hx
   .exact hcv x hx
   .rw [zF.mp hx];exact cv
  .rintro σ Hy ⟨cur,w11,w12,w13,w14,rfl,sy,ely,hcu,hcv⟩
   have ecy:=sy _ _ elx
   have zq:(qsV cs).length < sizeLine:=by unfold qsV;rw [zB];show _ < 16777216;omega
   have nlp:lp≠lc:=(qa8 elx hlp).symm
   left
   refine⟨cs++ [(lp,cur)],_,_,_,_,_,_,rfl,qaq (sx.trans sy) hlc,by rw [qa1];unfold qsV;rw [zE];rfl,by rw [zG,hcl];rfl,fun c' hc'=>?_,fun c' hc'=>?_⟩
   .rcases zR.mp hc' with h|h
    .obtain⟨g1,g2⟩:=hcs c' h
     exact⟨by rw [qa6 (ncs c' h)];exact sy _ _ g1,g2⟩
    .rw [zF.mp h]
     exact⟨by rw [qa6 nlp];exact ely,hcu,fun x hx=>⟨(hcv x hx).lo,(hcv x hx).hi⟩⟩
   .rcases zR.mp hc' with h|h
    .exact ncs c' h
    .rw [zF.mp h];exact nlp
 .rintro σ Hx ⟨cs,w9,w10,w11,w12,w13,w14,rfl,sx,elx,hcl,hcs,ncs⟩
  left
  exact q lc cs Hx (t2.trans sx) elx hcl hcs
include T in
theorem w9b:FnOk P w K mg base (My.CX1 P w) 4 d.w47 d.w3p ["self","name"] (w9a K d):=by
 refine okX T.wal w8z (fun vs H Q E h=>?_) (fun cdv A outer s H vs Q E hr h=>?_)
 .obtain⟨t,S,x,rfl,_⟩:=h;rfl
 obtain⟨t,S,x,rfl,hT,hx,q1,q2⟩:=h
 refine⟨_,(qa5 (qaj (qbe qcu rfl T.w9h wV (qa0 (qb4 (qb6 (pv 0) T.w01 T.w0e ((w4r T).mono (by decide)) hr T.w4w .nil qaz (qa0 (pv 1) qa2)) rfl) qa2)))),?_⟩
 walk_at "d"
 refine qag (σ:=[some (.ref t),some (x)]) rfl ?_
 have hT0:=hT
 obtain⟨⟨dx,ht⟩,hw,hh,nd,hz,hE⟩:=hT
 have ct:=T.w01
 have nh:qax K d.w00 "houses":=T.w02
 left
 refine⟨t,S,x,rfl,hT0,hx,fun e he=>?_,q2⟩
 obtain⟨z,rfl⟩:∃z,x=.str z:=by
  rcases hx with h|⟨_,nz⟩
  .exact h
  .rw [qd3 nz] at he;cases he
 obtain⟨⟨dh,ho⟩,hp,hpA,hc,hcA⟩:=hE e (qck he).1
 have ch:=T.w1k
 have nf:qax K d.w03 "cap":=T.w0i
 have hRp:Rd H e.x.pa (.dK e.x.kp):=.inl hp
 have hRc:Rd H e.x.ca (.dK e.x.kc):=.inl hc
 left
 rename_i p hp
 exact q1 e he p hp
def w8l (K:uR) (d:Ad):Sp:=fun vs H Q _=>∃x y z:V,vs=[x,y,z]/\Q (.bl false) H
def w8i (K:uR) (d:Ad):Sp:=fun vs H Q _=>∃(o m dx:Addr) (n:Int) (z:Str) (rk:Int) (t:Option Int) (r:Int) (s:Bool),vs=[.ref o,.int r,.bl s]/\H o=some (.ins d.w09 dx (fsB n z m rk t))/\Q (.bl (s || decide (rk < r))) H
include T in
theorem w5i:FnOk P w K mg base CX0 1 d.w3v d.w2z ["self","rank","sure"] (w8l K d):=by
 refine T.w92.ok w84 (fun vs H Q E h=>?_) (fun cdv A outer s H vs Q E hr h=>?_)
 .obtain⟨x,y,z,rfl,_⟩:=h;rfl
 obtain⟨x,y,z,rfl,q⟩:=h
 refine⟨_,(qa5 (qaj qfc)),?_⟩
 walk_at "d"
 refine qag (σ:=[some (x),some (y),some (z)]) rfl ?_
 left
 exact q
include T in
theorem w5j:FnOk P w K mg base CX0 1 d.w3r d.w32 ["self","rank","sure"] (w8i K d):=by
 refine T.w9e.ok w8t (fun vs H Q E h=>?_) (fun cdv A outer s H vs Q E hr h=>?_)
 .obtain⟨o,m,dx,n,z,rk,t,r,s,rfl,_⟩:=h;rfl
 obtain⟨o,m,dx,n,z,rk,t,r,b,rfl,ho,q⟩:=h
 refine⟨_,(qa5 (qaj (pe_or (pv 2) (qec (qbv op_lt (qb4 (pv 0) rfl) (pv 1) (qat _)))))),?_⟩
 walk_at "d"
 refine qag (σ:=[some (.ref o),some (.int r),some (.bl b)]) rfl ?_
 have c:=T.w3x
 have n4:qax K d.w09 "rank":=T.w1p
 unfold fsB at ho
 left
 refine i_b2 (fun e=>?_) (fun e=>?_)
 .subst e
  left
  exact q
 .subst e
  left
  exact q
def qbf (r:Int) (s:Bool) (b:Ob):Bool:=b.R.s || !(s || decide (b.R.r < r))
def wfg (K:uR) (d:Ad):Sp:=fun vs H Q _=>∃(lh:Addr) (P:PL) (bs:List Ob) (r:Int) (s:Bool),vs=[.ref lh,.int r,.bl s]/\H lh=some (.lst (bsV bs))/\bs.length<=63/\(∀b∈bs,ObAt d H P b)/\
 ∀(l:Addr),H l=none->Q (.ref l) (upd H l (.lst (bsV (bs.filter (qbf r s)))))
include T in
theorem wfc:FnOk P w K mg base CX0 2 d.wce d.wac ["holds","rank","sure"] (wfg K d):=by
 refine T.we6.ok wfb (fun vs H Q E h=>?_) (fun cdv A outer s H vs Q E hr h=>?_)
 .obtain⟨lh,P,bs,r,s,rfl,_⟩:=h;rfl
 obtain⟨lh,P,bs,r,s',rfl,hL,h63,hB,q⟩:=h
 refine⟨_,(qa5 (qaj (qbm (caps:=[1,2]) (cn:=["rank","sure"]) (qb2 rfl rfl (by rfl) (by rfl) rfl ⟨rfl,⟨rfl,trivial⟩⟩ (by rfl) rfl ⟨⟨rfl,rfl,rfl,rfl,_,rfl⟩,⟨⟨rfl,rfl,rfl,rfl,_,rfl⟩,trivial⟩⟩ (by decide)) rfl (qau (pv 0)) (fun _ _ _ _=>(qc8 (qcb (qbk (pe_alt (qe6 (pv 0) T.w4b T.w0l ((w5i T).mono (by decide)) hr T.w5v .nil qah (qa0 (pv 1) (qa0 (pv 2) qa2))) (qe6 (pv 0) T.w3x T.w0n ((w5j T).mono (by decide)) hr T.w5r .nil qah (qa0 (pv 1) (qa0 (pv 2) qa2)))))))) (fun _ _ _ _=>(pv 0))))),?_⟩
 walk_at "d"
 try dsimp only [cxC]
 refine qag (σ:=[some (.ref lh),some (.int r),some (.bl s')]) rfl ?_
 left
 intro C s0 H0 fp acc hacc
 refine qek bs.length (fun i H'=>H'=upd H acc (.lst (bsV ((bs.take i).filter (qbf r s'))))) rfl ?_ ?_ ?_ ?_
 .rintro i H' hi rfl
  exact⟨_,.ref bs[i].o,SqL.of (qad hL hacc),by unfold bsV;rw [zC,zA hi];rfl⟩
 .rintro H' rfl
  exact⟨_,SqL.of (qad hL hacc),by unfold bsV;rw [zB];exact uF _⟩
 .rintro i H' v H'' hi rfl ⟨rfl,hy⟩
  have hv:=hy _ (SqL.of (qad hL hacc))
  unfold bsV at hv
  rw [zC,zA hi] at hv
  cases hv
  have hb:=hB _ (zJ hi)
  have tk:bs.take (i+1)=bs.take i++ [bs[i]]:=by rw [zO,zA hi];rfl
  generalize hbi:bs[i]=b at*
  obtain⟨dx,hbo⟩:=hb.obj
  have hbo':=qad (o':=.lst (bsV ((bs.take i).filter (qbf r s')))) hbo hacc
  have zl:(bsV ((bs.take i).filter (qbf r s'))).length < sizeLine:=by
   unfold bsV
   rw [zB]
   have h1:=zY (qbf r s') (bs.take i)
   rw [zU] at h1
   show _ < 16777216
   omega
  have yes:qbf r s' b=true->upd (upd H acc (.lst (bsV ((bs.take i).filter (qbf r s'))))) acc (.lst (bsV ((bs.take i).filter (qbf r s'))++ [.ref b.o]))=upd H acc (.lst (bsV ((bs.take (i+1)).filter (qbf r s')))):=fun e=>by
   rw [qbi,tk,yA,yE,gL e]
   congr 2
   unfold bsV
   rw [zE];rfl
  have no:qbf r s' b=false->upd H acc (.lst (bsV ((bs.take i).filter (qbf r s'))))=upd H acc (.lst (bsV ((bs.take (i+1)).filter (qbf r s')))):=fun e=>by
   rw [tk,yA,yE,gK (by rw [e];exact uJ),yR,yB]
  cases hs:b.R.s with
  |true=>
   rw [hs,show qf5 d true=d.w0a from rfl] at hbo'
   left
   refine r_alt1 ?_
   left
   refine⟨_,_,_,rfl,?_⟩
   left
   exact yes (by unfold qbf;rw [hs];rfl)
  |false=>
   rw [hs,show qf5 d false=d.w09 from rfl] at hbo'
   left
   refine r_alt2 ?_
   left
   refine⟨b.o,b.m,dx,b.R.n,nmF P b.R.i,b.R.r,b.t,r,s',rfl,hbo',?_⟩
   cases hq:(s' || decide (b.R.r < r)) with
   |true=>
    left
    exact no (by unfold qbf;rw [hs,hq];rfl)
   |false=>
    left
    exact yes (by unfold qbf;rw [hs,hq];rfl)
 rintro H' rfl
 rw [zS]
 left
 exact q acc hacc
theorem r_dpT {H:Hp} {a b:Addr} {kvs:List (List Key × V)} {k:List Key} {v:V} {D:Ends} {σ:L2.St} (e:H a=some (.dT kvs)) (eb:H b=some (.tup (k.map kV))) (hz:kvs.length < sizeLine) (h:D.nx σ (upd H a (.dT (qcn kvs k v)))):rDP (.ref a) (.ref b) v H D σ:=⟨a,_,rfl,DPut.t e eb hz,h⟩
theorem r_dgT {H:Hp} {Q:VK} {a b:Addr} {kvs:List (List Key × V)} {k:List Key} {v:V} (d:Rd H a (.dT kvs)) (eb:H b=some (.tup (k.map kV))) (e:qcf kvs k=some v) (h:Q v H):rDGk (.ref a) (.ref b) H Q:=⟨a,v,rfl,.inr ⟨kvs,k,b,d,rfl,eb,e.symm⟩,h⟩
theorem r_dnewT {σ:L2.St} {H:Hp} {Q:VK} (h:∀p,H p=none->Q (.ref p) (upd H p (.dT []))):tDNewT σ H Q:=h
theorem qeh {κ:Type} [DecidableEq κ] {kvs:List (κ × V)} {k:κ} {v:V} (h:k∉kvs.map (·.1)):qcn kvs k v=kvs++ [(k,v)]:=by
 unfold qcn
 rw [gK]
 intro e
 obtain⟨x,hx,hk⟩:=yO.mp e
 exact h (zK.mpr ⟨x,hx,of_decide_eq_true hk⟩)
def qee (z:Str) (ss:List Str) (val:Str->Int):List (List Key × V):=ss.map fun w=>([vG z,vG w],V.int (val w))
def qe4 (P:PL) (js:List Nat) (ss:List Str) (val:Nat->Str->Int):List (List Key × V):=js.flatMap fun j=>qee (nmF P j) ss (val j)
def fcOf (S:Ts) (z:Str):Str->Option Int:=match S.at z with
 |some e=>e.x.fc
 |none=>noF
def useF (P:PL) (bs:List Ob) (j:Nat):Str->Option Int:=sumF ((bs.filter fun b=>decide (j∈qae (elN P.es) b.R.i)).map obPt)
def qcm (S:Ts) (P:PL) (bs:List Ob) (f:Str->Option Int) (j:Nat) (w:Str):Int:=gN (fcOf S (nmF P j)) w - gN (useF P bs j) w - gN f w
structure WdAt (K:uR) (d:Ad) (H:Hp) (t lh:Addr) (S:Ts) (P:PL) (bs:List Ob) (n:Nat):Prop where
 tr:qf8 d H t S
 wf:WF S
 pl:Pl S (nmF P) (elN P.es) n
 nn:P.nm.length=n
 hs:∀j,j < n->(∃e,S.at (nmF P j)=some e)/\Dep S 12 (nmF P j)
 w3:P.ws.length<=6
 h:H lh=some (.lst (bsV bs))
 h63:bs.length<=63
 ob:∀b∈bs,ObAt d H P b
theorem WdAt.same {K:uR} {d:Ad} {H H':Hp} {t lh:Addr} {S:Ts} {P:PL} {bs:List Ob} {n:Nat} (h:WdAt K d H t lh S P bs n) (s:qar H H'):WdAt K d H' t lh S P bs n:=⟨h.tr.same s,h.wf,h.pl,h.nn,h.hs,h.w3,s _ _ h.h,h.h63,fun b hb=>(h.ob b hb).same s⟩
theorem rm_in {P:PL} {js:List Nat} {ss:List Str} {val:Nat->Str->Int} {k:List Key} (h:k∈(qe4 P js ss val).map (·.1)):∃j∈js,∃w∈ss,k=[vG (nmF P j),vG w]:=by
 obtain⟨x,hx,rfl⟩:=zK.mp h
 obtain⟨j,hj,hx⟩:=List.mem_flatMap.mp hx
 obtain⟨w,hw,rfl⟩:=zK.mp hx
 exact⟨j,hj,w,hw,rfl⟩
theorem rm_len (P:PL) (js:List Nat) (ss:List Str) (val:Nat->Str->Int):(qe4 P js ss val).length=js.length*ss.length:=by
 induction js with
 |nil=>simp [qe4]
 |cons j r ih=>
  show (qee (nmF P j) ss (val j)++qe4 P r ss val).length=_
  rw [zG,ih,zL,Nat.succ_mul]
  unfold qee
  rw [zB]
  omega
def wah (K:uR) (d:Ad):Sp:=fun vs H Q _=>∃(t lh ll am:Addr) (S:Ts) (P:PL) (bs:List Ob) (n:Nat) (js:List Nat) (ka:List (Key × V)) (f:Str->Option Int) (ss:List Str),vs=[.ref t,.ref lh,.ref ll,.ref am]/\WdAt K d H t lh S P bs n/\
 H ll=some (.lst (js.map fun j=>V.str (nmF P j)))/\(∀j∈js,j < n)/\js.Nodup/\js.length<=12/\H am=some (.dK ka)/\AD ka f/\ss.Perm (qcr ka)/\vK ss=true/\ss.length<=6/\
 ∀(rm:Addr) H',qar H H'->H rm=none->H' rm=some (.dT (qe4 P js ss (qcm S P bs f)))->Q (.ref rm) H'
include T in
theorem w9z:FnOk P w K mg base CX0 19 d.w52 d.w4o ["tree","holds","line","amounts"] (wah K d):=by
 refine T.w7h.ok w1e (fun vs H Q E h=>?_) (fun cdv A outer s H vs Q E hr h=>?_)
 .obtain⟨t,lh,ll,am,S,P,bs,n,js,ka,f,ss,rfl,_⟩:=h;rfl
 obtain⟨t,lh,ll,am,S,P,bs,n,js,ka,f,ss,rfl,hW,hl,jn,jd,j12,ha,hA,hp,hs,s6,q⟩:=h
 refine⟨_,(qa3 (qaf (i:=4) w1e.nd rfl (uI rfl) pe_dnewT)
  (qa3 (qb8 vA rfl (qau (pv 2)) (qab (i:=5) w1e.nd rfl (uI rfl)) (qa3 (qaf (i:=6) w1e.nd rfl (uI rfl) (qb6 (W:=fun _ _ _ _=>False) (pv 0) T.w01 T.w1h ((w9b T).mono (by decide)) hr T.wae .nil qff (qa0 (pv 5) qa2)))
  (qa3 (qaf (i:=7) w1e.nd rfl (uI rfl) (qbp (W:=fun _ _ _ _=>False) ((wgm T).mono (by decide)) hr rfl T.whe T.wfw.kp T.whg .nil qff (qa0 (pv 0) (qa0 (pv 1) (qa0 (pv 5) qa2)))))
  (qa5 (qb8 vA rfl (qau (qai (qea rfl) rfl T.w5o wS (qa0 (pv 3) qa2))) (qab (i:=8) w1e.nd rfl (uI rfl)) (qa5 (qe5 (qcg hr) (pv 4) (qdl (qa0 (pv 5) (qa0 (pv 8) qa2))) (qam qez (qam qez (qa9 ((w2i T).mono (by decide)) hr rfl T.w37 T.w26.kp T.w30 .nil qah (qa0 (pv 6) (qa0 (pv 8) qa2))) (qa9 ((w2i T).mono (by decide)) hr rfl T.w37 T.w26.kp T.w30 .nil qah (qa0 (pv 7) (qa0 (pv 8) qa2)))) (qbz (qcg hr) (pv 3) (pv 8) (fun _ _=>rfl))) rfl)))))))
  (qa5 (qaj (pv 4))))),?_⟩
 walk_at "d"
 refine qag (σ:=[some (.ref t),some (.ref lh),some (.ref ll),some (.ref am),none,none,none,none,none]) rfl ?_
 left
 refine r_dnewT fun rm hrm=>?_
 have s1:=qa7 hrm (.dT [])
 have e1:upd H rm (.dT []) rm=some (.dT (qe4 P [] ss (qcm S P bs f))):=qa1
 have l1:=s1 _ _ hl
 generalize upd H rm (.dT [])=H1 at*
 have snd:ss.Nodup:=hp.nodup_iff.mpr hA.knd
 have sk:∀w∈ss,∃m,f w=some m:=fun w hw=>by
  have z:=(hA.kin w).mp (hp.mem_iff.mp hw)
  cases e:f w with
  |none=>exact absurd e z
  |some m=>exact⟨m,rfl⟩
 have kl:ka.length<=6:=by have:=hp.length_eq;have:=hA.klen;omega
 left
 refine qct (xs:=js.map fun j=>V.str (nmF P j)) (fun i σ H'=>∃w1 w2 w3 w4:Option V,σ=[some (.ref t),some (.ref lh),some (.ref ll),some (.ref am),some (.ref rm),w1,w2,w3,w4]/\qar H H'/\H' rm=some (.dT (qe4 P (js.take i) ss (qcm S P bs f))))
  ⟨_,_,_,_,rfl,s1,e1⟩ ?_ ?_ ?_
 .rintro i σ H' _ ⟨w1,w2,w3,w4,rfl,sm,_⟩
  exact SqL.of (sm _ _ hl)
 .rintro i v σ H' hv ⟨w1,w2,w3,w4,rfl,sm,er⟩
  rw [zC] at hv
  obtain⟨j,hj,rfl⟩:=uU.mp hv
  have hi:=(uH.mp hj).1
  have hjm:=zD hj
  have hjn:=jn j hjm
  have tk:js.take (i+1)=js.take i++ [j]:=by rw [zO,hj];rfl
  have hnt:j∉js.take i:=fun hm=>by
   obtain⟨b,hb,e⟩:=zQ.mp hm
   rw [zU] at hb
   rw [cQ] at e
   obtain⟨g1,g2⟩:=uH.mp hj
   exact(zW.mp jd) b i (by omega) hi (by omega) (e.trans g2.symm)
  have hW1:=hW.same sm
  obtain⟨⟨e,ae⟩,dp⟩:=hW.hs j hjn
  have ct:=T.w01
  obtain⟨dx,ht⟩:=id hW1.tr.1
  left
  refine⟨t,S,.str (nmF P j),rfl,hW1.tr,.inl ⟨_,rfl⟩,fun e' he' p hp'=>?_,fun hn=>by rw [show who S (.str (nmF P j))=some e from ae] at hn;cases hn⟩
  have ee:e=e':=uW (ae.symm.trans he')
  subst ee
  have hcA:AD e.x.kc e.x.fc:=(hW1.tr.2.2.2.2.2 e (qck ae).1).2.2.2.2
  have efc:fcOf S (nmF P j)=e.x.fc:=by unfold fcOf;rw [ae]
  have s2:=sm.trans (qa7 hp' (.dK e.x.kc))
  have ec:upd H' p (.dK e.x.kc) p=some (.dK e.x.kc):=qa1
  have er2:=qad (o':=.dK e.x.kc) er hp'
  generalize upd H' p (.dK e.x.kc)=H2 at*
  have hW2:=hW.same s2
  clear hW1 ht hp'
  left
  refine .inr ⟨t,lh,S,P,bs,nmF P j,e,rfl,hW2.tr,hW.wf,ae,dp,hW2.h,hW.h63,hW.w3,hW2.ob,fun lu zs ku H3 s3 hlu hBen eu hAu=>?_⟩
  have euf:(bs.filter (inZ P zs)).map obPt=(bs.filter fun b=>decide (j∈qae (elN P.es) b.R.i)).map obPt:=by
   congr 1
   refine List.filter_congr fun b hb=>?_
   unfold inZ
   have:=hW.pl.benIff hjn hBen (k:=b.R.i) (by have:=(hW.ob b hb).il;rw [hW.nn] at this;exact this)
   exact decide_eq_decide.mpr this
  rw [euf] at hAu
  change AD ku (useF P bs j) at hAu
  have s23:=s2.trans s3
  have ec3:=s3 _ _ ec
  have er3:=s3 _ _ er2
  have ha3:=s23 _ _ ha
  clear hBen euf hW2 hlu s2 s3 ec er2 er
  left
  refine r_sortD (.inl ha3) hA.keys (by have:=hA.klen;omega) fun ls ss' hls hp2 hs2=>?_
  have ess:ss'=ss:=sort_eq (hp2.trans hp.symm) hs2 hs
  subst ess
  have s4:=s23.trans (qa7 hls (.lst (ss'.map V.str)))
  have el:upd H3 ls (.lst (ss'.map V.str)) ls=some (.lst (ss'.map V.str)):=qa1
  have ec4:=qad (o':=.lst (ss'.map V.str)) ec3 hls
  have er4:=qad (o':=.lst (ss'.map V.str)) er3 hls
  have eu4:=qad (o':=.lst (ss'.map V.str)) eu hls
  have nrl:rm≠ls:=qa8 er3 hls
  generalize upd H3 ls (.lst (ss'.map V.str))=H4 at*
  clear hp2 hs2 hls s23 ec3 er3 eu ha3
  left
  refine qct (xs:=ss'.map V.str) (fun c σ H5=>∃w4:Option V,σ=[some (.ref t),some (.ref lh),some (.ref ll),some (.ref am),some (.ref rm),some (.str (nmF P j)),some (.ref p),some (.ref lu),w4]/\SameBut rm H4 H5/\H5 rm=some (.dT (qe4 P (js.take i) ss' (qcm S P bs f)++qee (nmF P j) (ss'.take c) (qcm S P bs f j))))
   ⟨_,rfl,fun b o _ e=>e,by rw [er4];unfold qee;simp⟩ ?_ ?_ ?_
  .rintro c σ H5 _ ⟨w4,rfl,sb,_⟩
   exact SqL.of (sb _ _ nrl.symm el)
  .rintro c v σ H5 hv5 ⟨w4,rfl,sb,er5⟩
   rw [zC] at hv5
   obtain⟨w,hw,rfl⟩:=uU.mp hv5
   have hc:=(uH.mp hw).1
   obtain⟨m,fm⟩:=sk w (zD hw)
   have hRp:Rd H5 p (.dK e.x.kc):=.inl (sb _ _ (fun z=>by subst z;rw [er4] at ec4;cases ec4) ec4)
   have hRu:Rd H5 lu (.dK ku):=.inl (sb _ _ (fun z=>by subst z;rw [er4] at eu4;cases eu4) eu4)
   have ha4:=s4 _ _ ha
   have hRa:Rd H5 am (.dK ka):=.inl (sb _ _ (fun z=>by subst z;rw [er4] at ha4;cases ha4) ha4)
   left
   rename_i p5 hp5
   have er6:=qad (o':=.tup [V.str (nmF P j),V.str w]) er5 hp5
   have tkw:ss'.take (c+1)=ss'.take c++ [w]:=by rw [zO,hw];rfl
   have wnt:w∉ss'.take c:=fun hm=>by
    obtain⟨b,hb,e'⟩:=zQ.mp hm
    rw [zU] at hb
    rw [cQ] at e'
    obtain⟨g1,g2⟩:=uH.mp hw
    exact(zW.mp snd) b c (by omega) hc (by omega) (e'.trans g2.symm)
   have nin:([vG (nmF P j),vG w]:List Key)∉(qe4 P (js.take i) ss' (qcm S P bs f)++qee (nmF P j) (ss'.take c) (qcm S P bs f j)).map (·.1):=fun hm=>by
    rw [zE] at hm
    rcases zR.mp hm with hm|hm
    .obtain⟨j',hj',w',_,e'⟩:=rm_in hm
     have e1:nmF P j=nmF P j':=by
      have:=(aP e').1
      exact aS this
     have:=hW.pl.inj j j' hjn (jn j' (yL hj')) e1
     subst this
     exact hnt hj'
    .unfold qee at hm
     rw [yV] at hm
     obtain⟨w',hw',e'⟩:=zK.mp hm
     have e2:w'=w:=aS (aP (aP e').2).1
     exact wnt (e2 ▸ hw')
   have gf:gN f w=m:=by unfold gN;rw [fm];rfl
   have ev:gN e.x.fc w - gN (useF P bs j) w - m=qcm S P bs f j w:=by unfold qcm;rw [efc,gf]
   rw [ev]
   have sz:(qe4 P (js.take i) ss' (qcm S P bs f)++qee (nmF P j) (ss'.take c) (qcm S P bs f j)).length < sizeLine:=by
    rw [zG,rm_len]
    unfold qee
    rw [zB,zU,zU]
    have:min i js.length*ss'.length<=12*6:=Nat.mul_le_mul (by omega) s6
    show _ < 16777216
    omega
   refine r_dpT (k:=[vG (nmF P j),vG w]) er6 qa1 sz ?_
   rw [qeh nin]
   left
   refine⟨_,rfl,fun b o hb e'=>?_,?_⟩
   .rw [qa6 hb,qa6 (qa8 (sb b o hb e') hp5)]
    exact sb b o hb e'
   .rw [qa1,tkw,List.append_assoc]
    unfold qee
    rw [zE]
    rfl
  .rintro σ H5 ⟨w4,rfl,sb,er5⟩
   rw [zB,zS] at er5
   refine⟨_,_,_,_,rfl,fun b o hb=>?_,?_⟩
   .exact sb _ _ (fun z=>by subst z;rw [hrm] at hb;cases hb) (s4 _ _ hb)
   .rw [er5,tk]
    unfold qe4
    rw [List.flatMap_append]
    simp
 .rintro σ H' ⟨w1,w2,w3,w4,rfl,sm,er⟩
  rw [zB,zS] at er
  left
  exact q rm H' sm hrm er
structure Wd where
 wt:Addr
 ln:Addr
 lw:Addr
 le:Addr
 lr:Addr
 la:Addr
 lc:Addr
 pa:Addr
 las:List Addr
 nm:List Str
 ws:List Str
 es:List Nat
 Rs:List Rw
 h:Nat
 aps:List Int
 rk:Int
 su:Bool
 cs:List Pq
structure WAt (H:Hp) (w:Wd):Prop where
 tup:H w.wt=some (.tup [.ref w.ln,.ref w.lw,.ref w.le,.ref w.lr,.ref w.la,.ref w.lc])
 ln:H w.ln=some (.lst (w.nm.map V.str))
 lw:H w.lw=some (.lst (w.ws.map V.str))
 le:LnsAt H w.le w.las w.es
 lr:H w.lr=some (.lst (rwV w.Rs))
 rs:∀R∈w.Rs,RwAt H (w.es.length+1) w.ws.length R
 la:H w.la=some (.tup [.int ((w.h:Nat):Int),.ref w.pa,.int w.rk,.bl w.su])
 pa:H w.pa=some (.lst (w.aps.map V.int))
 lc:H w.lc=some (.lst (qsV w.cs))
 cs:CsAt H w.ws.length w.cs
structure WOk (w:Wd):Prop where
 apl:w.aps.length=w.ws.length
 apn:∀p∈w.aps,PpOk p
 hh:w.h < w.es.length+1
 cl:w.cs.length=w.es.length+1
 nms:Nms w.nm (w.es.length+1)
 wsn:Nms w.ws w.ws.length
 w1:1<=w.ws.length
 w6:w.ws.length<=6
 e5:w.es.length<=5
 up:(w.Rs.map fun R=>R.n).Pairwise (·< ·)
 r30:w.Rs.length<=30
 apx:∃p∈w.aps,0 < p
theorem WAt.same {H H':Hp} {w:Wd} (h:WAt H w) (s:qar H H'):WAt H' w:=⟨s _ _ h.tup,s _ _ h.ln,s _ _ h.lw,h.le.same s,s _ _ h.lr,fun R hr=>(h.rs R hr).same s,s _ _ h.la,s _ _ h.pa,s _ _ h.lc,h.cs.same s⟩
def wfi (K:uR) (d:Ad):Sp:=fun vs H Q _=>∃(a:Addr) (ns:List Int) (m:Nat),vs=[.ref a,.int (m:Int)]/\SqL K H a (ns.map V.int)/\ns.length<=63/\m<=30/\∀(w:Wd) (H':Hp),qar H H'->WAt H' w->WOk w->Q (.ref w.wt) H'
include T in
theorem wfp:FnOk P w K mg base CX0 5 d.wd0 d.w9r ["_law_script","_law_many"] (wfi K d):=by
 refine T.we1.ok w29 (fun vs H Q E h=>?_) (fun cdv A outer s H vs Q E hr h=>?_)
 .obtain⟨a,ns,m,rfl,_⟩:=h;rfl
 obtain⟨a,ns,m,rfl,hS,h63,m30,q⟩:=h
 refine⟨_,(qa3 (qaf (i:=2) w29.nd rfl (aM rfl) (qa9 ((w1y T).mono (by decide)) hr rfl T.w3i T.w38.kp T.w3j .nil qah (qa0 (pv 0) (qa0 qa4 qa2))))
  (qa3 (qaf (i:=3) w29.nd rfl (uI rfl) (qa9 ((wf8 T).mono (by decide)) hr rfl T.wgu T.weo.kp T.wgf .nil qah (qa0 (pv 0) (qa0 (qam qb0 qa4 (qa9 ((w0p T).mono (by decide)) hr rfl T.w2c T.w25.kp T.w2b .nil qah (qa0 (pv 2) (qa0 qa4 (qa0 qa4 qa2))))) qa2))))
  (qa3 (qaf (i:=4) w29.nd rfl (uI rfl) (qam qb0 qa4 (qa9 ((w0p T).mono (by decide)) hr rfl T.w2c T.w25.kp T.w2b .nil qah (qa0 (pv 2) (qa0 qa4 (qa0 qa4 qa2))))))
  (qa3 (qaf (i:=5) w29.nd rfl (uI rfl) (qak qal (qbl (qa0 qa4 (qa0 qa4 (qa0 (qam qb0 qa4 (qam qc5 (qa9 ((w1y T).mono (by decide)) hr rfl T.w3i T.w38.kp T.w3j .nil qah (qa0 (pv 0) (qa0 qa4 qa2))) (qam op_pow qa4 qa4))) qa2)))) (qa9 ((w0p T).mono (by decide)) hr rfl T.w2c T.w25.kp T.w2b .nil qah (qa0 (pv 2) (qa0 qa4 (qa0 qa4 qa2)))) (fun _ _=>rfl)))
  (qa3 (qcy (j:=6) (caps:=[0]) (cn:=["_law_script"]) (qb2 rfl rfl (by rfl) (by rfl) rfl ⟨rfl,trivial⟩ (by rfl) rfl ⟨⟨rfl,rfl,rfl,rfl,_,rfl⟩,trivial⟩ (by decide)) rfl w29.nd rfl rfl (qbt rfl T.w3e (qa0 (qai qaw rfl T.w2v vH (qa0 (pv 3) qa2)) qa2)) (fun _ _ _ _=>qdk) (fun _ _ _ _=>(qa9 ((we7 T).mono (by decide)) hr rfl T.wfs T.wdz.kp T.wfq .nil qah (qa0 (pv 1) (qa0 (pv 0) qa2)))))
  (qa3 (qcy (j:=7) (caps:=[0,2]) (cn:=["_law_script","_law_cell_here"]) (qb2 rfl rfl (by rfl) (by rfl) rfl ⟨rfl,⟨rfl,trivial⟩⟩ (by rfl) rfl ⟨⟨rfl,rfl,rfl,rfl,_,rfl⟩,⟨⟨rfl,rfl,rfl,rfl,_,rfl⟩,trivial⟩⟩ (by decide)) rfl w29.nd rfl rfl (qbt rfl T.w3e (qa0 (pv 4) qa2)) (fun _ _ _ _=>qdk) (fun _ _ _ _=>(qa9 ((we7 T).mono (by decide)) hr rfl T.wfs T.wdz.kp T.wfq .nil qah (qa0 (pv 1) (qa0 (qam qb0 (pv 0) (qam qbw qa4 (qam qc5 (pv 2) qa4))) qa2)))))
  (qa3 (qaf (i:=8) w29.nd rfl (uI rfl) (qa9 ((wgv T).mono (by decide)) hr rfl T.wha T.wg3.kp T.whh .nil qah (qa0 (pv 0) (qa0 (qai qaw rfl T.w2v vH (qa0 (pv 3) qa2)) (qa0 (pv 4) (qa0 (pv 5) (qa0 (pv 1) qa2)))))))
  (qa3 (qaf (i:=9) w29.nd rfl (uI rfl) (qa9 ((wda T).mono (by decide)) hr rfl T.wee T.wby.kp T.wea .nil qah (qa0 (qa9 ((w1y T).mono (by decide)) hr rfl T.w3i T.w38.kp T.w3j .nil qah (qa0 (pv 0) (qa0 qa4 qa2))) (qa0 (pv 4) (qa0 (pv 5) qa2)))))
  (qa3 (qaf (i:=10) w29.nd rfl (uI rfl) (qdl (qa0 (qa9 ((w0p T).mono (by decide)) hr rfl T.w2c T.w25.kp T.w2b .nil qah (qa0 (pv 2) (qa0 qa4 (qa0 (qai qaw rfl T.w2v vH (qa0 (pv 3) qa2)) qa2)))) (qa0 (pv 9) (qa0 (qa9 ((w0p T).mono (by decide)) hr rfl T.w2c T.w25.kp T.w2b .nil qah (qa0 (pv 2) (qa0 qa4 (qa0 qa4 qa2)))) (qa0 (qbv qdo (qa9 ((w0p T).mono (by decide)) hr rfl T.w2c T.w25.kp T.w2b .nil qah (qa0 (pv 2) (qa0 qa4 (qa0 qa4 qa2)))) qa4 (qat _)) qa2))))))
  (qa5 (qaj (qdl (qa0 (pv 6) (qa0 (pv 7) (qa0 (pv 3) (qa0 (pv 8) (qa0 (pv 10) (qa0 (qa9 ((wgg T).mono (by decide)) hr rfl T.wh7 T.wg2.kp T.whi .nil qah (qa0 (pv 0) (qa0 (pv 8) (qa0 (pv 3) (qa0 (pv 10) qa2))))) qa2)))))))))))))))))),?_⟩
 walk_at "d"
 try dsimp only [cxC]
 refine qag (σ:=[some (.ref a),some (.int (m:Int)),none,none,none,none,none,none,none,none,none]) rfl ?_
 generalize hmi:((m:Nat):Int)=mi
 left
 refine⟨a,ns,4,rfl,hS,by decide,by decide,h63,fun H1 s1=>?_⟩
 generalize qbq ns 4=c
 left
 refine qc3 (by decide) (by decide) (by decide) (by decide) fun r r0 r1=>?_
 left
 obtain⟨n,hn⟩:=wL (show 0<=1+r by omega)
 rw [hn]
 refine⟨a,ns,n,rfl,s1.seq hS,h63,by omega,by omega,fun le las es H2 s2 L hel=>?_⟩
 have t2:=s1.trans s2
 have e5:es.length<=5:=by omega
 clear hn r0 r1
 left
 refine qc3 (by decide) (by decide) (by decide) (by decide) fun r2 b0 b1=>?_
 obtain⟨kd,hkd⟩:=wL (show 0<=1+r2 by omega)
 have k1:1<=kd:=by omega
 have k6:kd<=6:=by omega
 have ek:((kd:Nat):Int).toNat=kd:=by omega
 left
 rw [hkd]
 clear hkd b0 b1
 generalize hki:((kd:Nat):Int)=ki at*
 refine⟨a,ns,5,rfl,t2.seq hS,by decide,by decide,h63,fun H3 s3=>?_⟩
 generalize qbq ns 5=c5
 left
 rename_i pm hpm
 refine qc3 (by decide) (by decide) (by decide) (by decide) fun r3 b0 b1=>?_
 refine r_menu (xs:=[1,1,1+c5%10^Int.toNat 27]) (SqL.of qa1) b0 b1 fun sc hm=>?_
 have hsc:Sc sc:=by
  have e27:(10:Int)^Int.toNat 27=10^27:=rfl
  rw [e27] at hm
  simp only [zM,yF,or_false] at hm
  have m0:=vZ c5 (show (10^27:Int)≠0 by decide)
  have m1:=vX c5 (show (0:Int) < 10^27 by decide)
  exact⟨by omega,by omega⟩
 have s4:=qa7 hpm (.lst [V.int 1,V.int 1,V.int (1+c5%10^Int.toNat 27)])
 generalize upd H3 pm (.lst [V.int 1,V.int 1,V.int (1+c5%10^Int.toNat 27)])=H4 at*
 have t4:=(t2.trans s3).trans s4
 have L4:=L.same (s3.trans s4)
 clear hm b0 b1 hpm s3 s4 s1 s2 t2 L
 have etop:=L4.top
 have lnl:(((las.map V.ref).length:Nat):Int)=((n:Nat):Int):=by rw [zB,L4.len,hel]
 have ntn:((n:Nat):Int).toNat=n:=by omega
 left
 rw [lnl]
 generalize hni:((n:Nat):Int)=ni at*
 left
 intro C s0 H0 fp ln hln
 rw [ntn]
 refine qek n (fun i H'=>qar H4 H'/\H' ln=some (.lst (((vC i).map fun(k:Nat)=>nmS (qbq ns 0) (qbq ns 1) (0+(k:Int))).map V.str))) ⟨qa7 hln _,qa1⟩ ?_ ?_ ?_ ?_
 .rintro i H' hi _
  exact hi
 .rintro H' _
  exact uF _
 .rintro i H' v H'' hi ⟨sm,ea⟩ ⟨rfl,rfl⟩
  have zl:(((vC i).map fun(k:Nat)=>nmS (qbq ns 0) (qbq ns 1) (0+(k:Int))).map V.str).length < sizeLine:=by rw [zB,zB,yQ];show _ < 16777216;omega
  left
  refine⟨a,ns,0+(i:Int),rfl,(t4.trans sm).seq hS,h63,by omega,by omega,fun H5 s5=>?_⟩
  have ea5:=s5 _ _ ea
  refine⟨_,ea5,zl,qaq (sm.trans s5) hln,?_⟩
  rw [qa1,List.range_succ,zE,zE];rfl
 rintro H5 ⟨s5,eln⟩
 have hnm:Nms ((vC n).map fun(k:Nat)=>nmS (qbq ns 0) (qbq ns 1) (0+(k:Int))) n:=nms_of (by decide) (by omega)
 generalize (vC n).map (fun(k:Nat)=>nmS (qbq ns 0) (qbq ns 1) (0+(k:Int)))=nm at*
 have t5:=t4.trans s5
 have L5:=L4.same s5
 clear etop L4 hln
 left
 intro C s0 H0 fp lw hlw
 rw [ek]
 have o0:=vZ c (show (2:Int)≠0 by decide)
 have o1:=vX c (show (0:Int) < 2 by decide)
 refine qek kd (fun i H'=>qar H5 H'/\H' lw=some (.lst (((vC i).map fun(k:Nat)=>nmS (qbq ns 0) (qbq ns 1) (20*(c%2)+(k:Int))).map V.str))) ⟨qa7 hlw _,qa1⟩ ?_ ?_ ?_ ?_
 .rintro i H' hi _
  exact hi
 .rintro H' _
  exact uF _
 .rintro i H' v H'' hi ⟨sm,ea⟩ ⟨rfl,rfl⟩
  have zl:(((vC i).map fun(k:Nat)=>nmS (qbq ns 0) (qbq ns 1) (20*(c%2)+(k:Int))).map V.str).length < sizeLine:=by rw [zB,zB,yQ];show _ < 16777216;omega
  have ob:(c%2).natAbs < 2^600:=vR (show (c%2).natAbs<=2 by omega) (by decide)
  left
  refine⟨a,ns,0+(i:Int)+20*(c%2),rfl,(t5.trans sm).seq hS,h63,by omega,by omega,fun H6 s6=>?_⟩
  have ea6:=s6 _ _ ea
  refine⟨_,ea6,zl,qaq (sm.trans s6) hlw,?_⟩
  rw [qa1,List.range_succ,zE,zE,show 0+(i:Int)+20*(c%2)=20*(c%2)+(i:Int) by omega];rfl
 rintro H6 ⟨s6,elw⟩
 have hws:Nms ((vC kd).map fun(k:Nat)=>nmS (qbq ns 0) (qbq ns 1) (20*(c%2)+(k:Int))) kd:=nms_of (by omega) (by omega)
 generalize (vC kd).map (fun(k:Nat)=>nmS (qbq ns 0) (qbq ns 1) (20*(c%2)+(k:Int)))=ws at*
 have t6:=t5.trans s6
 have L6:=L5.same s6
 have eln6:=s6 _ _ eln
 clear hlw o0 o1 eln L5 s5 s6
 have etop:=L6.top
 left
 rw [lnl]
 have nl1:1<=n:=by omega
 have nl6:n<=6:=by omega
 refine⟨a,ns,sc,n,kd,m,by rw [hni,hki,hmi],t6.seq hS,h63,hsc,nl1,by omega,k1,k6,m30,fun lr Rs H7 s7 elr hrl hR hup=>?_⟩
 have t7:=t6.trans s7
 left
 refine⟨a,ns,6,rfl,t7.seq hS,by decide,by decide,h63,fun H8 s8=>?_⟩
 generalize qbq ns 6=c6
 left
 refine⟨c6,sc,kd,by rw [hki],k1,k6,hsc,fun pa aps H9 s9 hpa epa hal han hax=>?_⟩
 have s79:=s8.trans s9
 have L9:=L6.same (s7.trans s79)
 have eln9:=s79 _ _ (s7 _ _ eln6)
 have elw9:=s79 _ _ (s7 _ _ elw)
 have elr9:=s79 _ _ elr
 have hR9:∀R∈Rs,RwAt H9 n kd R:=fun R hr=>(hR R hr).same s79
 have t9:=t7.trans s79
 clear etop L6 eln6 elw elr hR t6 t7 s7 s8 s9 s79 t4 t5 hpa
 have etop:=L9.top
 left
 rw [lnl]
 have nb1:1<=ni:=by omega
 have nb2:ni<=6:=by omega
 refine qc3 (by decide) (by decide) (by omega) (by omega) fun r4 b0 b1=>?_
 obtain⟨h,hh0⟩:=wL b0
 have hh:h < n:=by omega
 rw [hh0]
 clear hh0 b0 b1 nb1 nb2
 generalize hhi:((h:Nat):Int)=hi at*
 left
 refine qc3 (by decide) (by decide) (by decide) (by decide) fun r5 _ _=>?_
 left
 refine qc3 (by decide) (by decide) (by decide) (by decide) fun r6 _ _=>?_
 left
 rename_i la hla
 have s10:=qa7 hla (.tup [V.int hi,V.ref pa,V.int r5,V.bl (decide (r6=0))])
 have ela:upd H9 la (.tup [V.int hi,V.ref pa,V.int r5,V.bl (decide (r6=0))]) la=some (.tup [V.int hi,V.ref pa,V.int r5,V.bl (decide (r6=0))]):=qa1
 generalize upd H9 la (.tup [V.int hi,V.ref pa,V.int r5,V.bl (decide (r6=0))])=H10 at*
 generalize hsu:decide (r6=0)=su at*
 have n0:n=es.length+1:=by omega
 refine⟨a,ns,lr,le,la,pa,las,Rs,es,kd,h,aps,r5,su,rfl,(t9.trans s10).seq hS,h63,s10 _ _ elr9,by omega,fun R hr=>by rw [<-n0];exact(hR9 R hr).same s10,L9.same s10,e5,k1,k6,by omega,by rw [hhi];exact ela,s10 _ _ epa,hal,han,fun lc cs H11 s11 elc hcl hcs=>?_⟩
 have t11:=(t9.trans s10).trans s11
 have s911:=s10.trans s11
 left
 rename_i wt hwt
 have s12:=qa7 hwt (.tup [V.ref ln,V.ref lw,V.ref le,V.ref lr,V.ref la,V.ref lc])
 have ewt:upd H11 wt (.tup [V.ref ln,V.ref lw,V.ref le,V.ref lr,V.ref la,V.ref lc]) wt=some (.tup [V.ref ln,V.ref lw,V.ref le,V.ref lr,V.ref la,V.ref lc]):=qa1
 generalize upd H11 wt (.tup [V.ref ln,V.ref lw,V.ref le,V.ref lr,V.ref la,V.ref lc])=H12 at*
 have s912:=s911.trans s12
 have ewl:ws.length=kd:=hws.len
 subst ewl
 exact q ⟨wt,ln,lw,le,lr,la,lc,pa,las,nm,ws,es,Rs,h,aps,r5,su,cs⟩ H12 (t11.trans s12) ⟨ewt,s912 _ _ eln9,s912 _ _ elw9,L9.same s912,s912 _ _ elr9,fun R hr=>by show RwAt H12 (es.length+1) _ R;rw [<-n0];exact(hR9 R hr).same s912,by show H12 la=some (.tup [.int ((h:Nat):Int),_,_,_]);rw [hhi];exact(s11.trans s12) _ _ ela,s912 _ _ epa,s12 _ _ elc,hcs.same s12⟩ ⟨hal,han,by show h < es.length+1;omega,hcl,by show Nms nm (es.length+1);rw [<-n0];exact hnm,hws,k1,k6,e5,hup,by show Rs.length<=30;omega,hax⟩
theorem valV_at {κ:Type} [DecidableEq κ] {kvs:List (κ × V)} (nd:(kvs.map (·.1)).Nodup) {i:Nat} {k:κ} {v:V} (h:kvs[i]?=some (k,v)):qcf kvs k=some v:=by
 induction kvs generalizing i with
 |nil=>simp at h
 |cons x r ih=>
  rw [zV,zX] at nd
  cases i with
  |zero=>
   simp only [aW,cO] at h
   subst h
   unfold qcf
   simp
  |succ i=>
   simp only [aY] at h
   have hne:¬x.1=k:=fun e=>nd.1 (e ▸ zK.mpr ⟨(k,v),zD h,rfl⟩)
   have z:=ih nd.2 h
   unfold qcf at z ⊢
   simpa [yJ,hne] using z
theorem r_itDT {a:Addr} {H:Hp} {kvs:List (List Key × V)} {R:It->Hp->Prop} (e:H a=some (.dT kvs)) (h:∀o,R (ItDT a o kvs) (upd H a (.frz o (.dT kvs)))):rItDT (.ref a) H R:=⟨a,kvs,rfl,e,h⟩
theorem r_iDT {tl:TE} {σ:L2.St} {H:Hp} {R:It->Hp->Prop} (h:tl σ H fun x H1=>rItDT x H1 R):iDictT tl σ H R:=h
theorem f_dictT {D:Ends} {σ:L2.St} {H:Hp} {g:TG} {tb:TS} {a:Addr} {o:Obj} {kvs:List (List Key × V)} (Pv:Nat->L2.St->Hp->Prop) (h0:Pv 0 σ H) (hl:∀i σ H,i<=kvs.length->Pv i σ H->H a=some (.frz o (.dT kvs)))
  (hs:∀i k v b σ H,kvs[i]?=some (k,v)->H b=some (.tup (k.map kV))->Pv i σ H->g (.ref b) σ H fun σ2 H2=>tb {nx:=Pv (i+1),rt:=D.rt,bk:=D.nx,ct:=Pv (i+1)} σ2 H2) (hd:∀σ H,Pv kvs.length σ H->D.nx σ H):FOR (ItDT a o kvs) g tb D σ H:=by
 refine⟨fun i m σ H=>m=kvs.length - i/\i<=kvs.length/\Pv i σ H,⟨kvs.length,rfl,vY _,h0⟩,?_⟩
 rintro i m σ H ⟨rfl,hi,p⟩
 have q:=hl i σ H hi p
 by_cases hlt:i < kvs.length
 .refine .inr ⟨⟨q,hlt⟩,Pv (i+1),fun σ' H' p'=>⟨kvs.length - (i+1),by omega,rfl,hlt,p'⟩,fun x H' y=>?_⟩
  obtain⟨e,k,v,b,hk,rfl,hb⟩:=y
  subst e
  exact hs i k v b σ _ hk hb p
 .have e:i=kvs.length:=Nat.le_antisymm hi (gG hlt)
  subst e
  exact .inl ⟨⟨q,uF _⟩,hd σ H p⟩
theorem WdAt.fix {K:uR} {d:Ad} {H:Hp} {t lh l:Addr} {S:Ts} {P:PL} {bs:List Ob} {n:Nat} (h:WdAt K d H t lh S P bs n) (hl:H l=none) (r:Int) (s:Bool):WdAt K d (upd H l (.lst (bsV (bs.filter (qbf r s))))) t l S P (bs.filter (qbf r s)) n:=by
 have s1:=qa7 hl (.lst (bsV (bs.filter (qbf r s))))
 have z:=h.same s1
 exact⟨z.tr,z.wf,z.pl,z.nn,z.hs,z.w3,qa1,vN (zY ..) z.h63,fun b hb=>z.ob b (yH.mp hb).1⟩
abbrev Pc:=Nat × Str
def pls (js:List Nat) (ss:List Str):List Pc:=js.flatMap fun j=>ss.map fun w=>(j,w)
def pcK (P:PL) (p:Pc):List Key:=[vG (nmF P p.1),vG p.2]
def rmM (P:PL) (ps:List Pc) (val:Pc->Int):List (List Key × V):=ps.map fun p=>(pcK P p,V.int (val p))
theorem rm_map (P:PL) (ss:List Str) (val:Nat->Str->Int):∀js:List Nat,qe4 P js ss val=rmM P (pls js ss) fun p=>val p.1 p.2
 | []=>rfl
 |j :: js=>by
  show qee (nmF P j) ss (val j)++qe4 P js ss val=rmM P (ss.map (fun w=>(j,w))++pls js ss) _
  rw [rm_map P ss val js]
  unfold rmM qee
  rw [zE,yV];rfl
theorem pls_in {js:List Nat} {ss:List Str} {p:Pc} (h:p∈pls js ss):p.1∈js/\p.2∈ss:=by
 obtain⟨j,hj,hx⟩:=List.mem_flatMap.mp h
 obtain⟨w,hw,rfl⟩:=zK.mp hx
 exact⟨hj,hw⟩
theorem pls_len (js:List Nat) (ss:List Str):(pls js ss).length=js.length*ss.length:=by
 induction js with
 |nil=>simp [pls]
 |cons j r ih=>
  show (ss.map (fun w=>(j,w))++pls r ss).length=_
  rw [zG,ih,zL,Nat.succ_mul,zB]
  omega
theorem pls_nd {js:List Nat} {ss:List Str} (jd:js.Nodup) (sd:ss.Nodup):(pls js ss).Nodup:=by
 induction js with
 |nil=>exact yM
 |cons j r ih=>
  rw [zX] at jd
  show (ss.map (fun w=>(j,w))++pls r ss).Nodup
  refine yI.mpr ⟨?_,ih jd.2,fun a ha b hb e=>?_⟩
  .show eZ _ _
   rw [bI]
   exact cP (fun {x y} h e=>h (cS e).2) sd
  .obtain⟨w,_,rfl⟩:=zK.mp ha
   subst e
   exact jd.1 (pls_in hb).1
structure PsOk (P:PL) (ps:List Pc) (n:Nat):Prop where
 nd:ps.Nodup
 lt:∀p∈ps,p.1 < n
 inj:∀i j,i < n->j < n->nmF P i=nmF P j->i=j
 len:ps.length<=100
theorem pcK_inj {P:PL} {ps:List Pc} {n:Nat} (h:PsOk P ps n) {p q:Pc} (hp:p∈ps) (hq:q∈ps) (e:pcK P p=pcK P q):p=q:=by
 have e1:nmF P p.1=nmF P q.1:=aS (aP e).1
 have e2:p.2=q.2:=aS (aP (aP e).2).1
 have:=h.inj _ _ (h.lt p hp) (h.lt q hq) e1
 exact Prod.ext this e2
theorem rmM_keys {P:PL} {ps:List Pc} {n:Nat} (h:PsOk P ps n) (val:Pc->Int):((rmM P ps val).map (·.1)).Nodup:=by
 have e:(rmM P ps val).map (·.1)=ps.map (pcK P):=by unfold rmM;rw [yV];rfl
 rw [e]
 show eZ _ _
 rw [bI]
 exact List.Pairwise.imp_of_mem (fun {x y} hx hy ne e=>ne (pcK_inj h hx hy e)) h.nd
theorem rmM_at {P:PL} {ps:List Pc} {val:Pc->Int} {i:Nat} {k:List Key} {v:V} (h:(rmM P ps val)[i]?=some (k,v)):∃p,ps[i]?=some p/\k=pcK P p/\v=.int (val p):=by
 unfold rmM at h
 rw [zC] at h
 obtain⟨p,hp,e⟩:=uU.mp h
 exact⟨p,hp,(cS e).1.symm,(cS e).2.symm⟩
theorem qep {P:PL} {ps:List Pc} {n:Nat} (h:PsOk P ps n) {val:Pc->Int} {i:Nat} {p:Pc} (hp:ps[i]?=some p):qcf (rmM P ps val) (pcK P p)=some (.int (val p)):=valV_at (rmM_keys h val) (i:=i) (by unfold rmM;rw [zC,hp];rfl)
theorem rmM_take {P:PL} {ps:List Pc} {n:Nat} (h:PsOk P ps n) {val:Pc->Int} {i:Nat} {p:Pc} (hp:ps[i]?=some p):qcn (rmM P (ps.take i) val) (pcK P p) (.int (val p))=rmM P (ps.take (i+1)) val:=by
 have tk:ps.take (i+1)=ps.take i++ [p]:=by rw [zO,hp];rfl
 rw [qeh,tk]
 .unfold rmM;rw [zE];rfl
 .intro hm
  have e:(rmM P (ps.take i) val).map (·.1)=(ps.take i).map (pcK P):=by unfold rmM;rw [yV];rfl
  rw [e] at hm
  obtain⟨q,hq,eq⟩:=zK.mp hm
  have:=pcK_inj h (yL hq) (zD hp) eq
  subst this
  have nd:=h.nd
  have e2:=bL (i+1) ps
  rw [tk] at e2
  rw [<-e2,yI,yI] at nd
  exact nd.1.2.2 q hq q (zF.mpr rfl) rfl
def prN (P:PL) (b:Ob) (p:Pc):Int:=if p.1∈qae (elN P.es) b.R.i then gN b.R.f p.2 else 0
def wbt (K:uR) (d:Ad):Sp:=fun vs H Q _=>∃(t lh rm:Addr) (S:Ts) (P:PL) (bs:List Ob) (b:Ob) (n:Nat) (ps:List Pc) (val:Pc->Int),vs=[.ref t,.ref b.o,.ref rm]/\WdAt K d H t lh S P bs n/\n<=12/\ObAt d H P b/\PsOk P ps n/\H rm=some (.dT (rmM P ps val))/\
 ∀pt H',qar H H'->H pt=none->H' pt=some (.dT (rmM P ps (prN P b)))->Q (.ref pt) H'
include T in
theorem wch:FnOk P w K mg base CX0 7 d.w6x d.w62 ["tree","hold","places"] (wbt K d):=by
 refine T.w9i.ok w4d (fun vs H Q E h=>?_) (fun cdv A outer s H vs Q E hr h=>?_)
 .obtain⟨t,lh,rm,S,P,bs,b,n,ps,val,rfl,_⟩:=h;rfl
 obtain⟨t,lh,rm,S,P,bs,b,n,ps,val,rfl,hW,n12,hb,hP,er,q⟩:=h
 refine⟨_,(qa3 (qaf (i:=3) w4d.nd rfl (uI rfl) (qb6 (W:=fun _ _ _ _=>False) (pv 0) T.w01 T.w17 ((w5c T).mono (by decide)) hr T.w6a .nil qff (qa0 (qb4 (pv 1) rfl) qa2)))
  (qa3 (qaf (i:=4) w4d.nd rfl (uI rfl) pe_dnewT)
  (qa3 (ps_thAT (qb8 vA rfl (qfu (pv 2)) (qab (i:=5) w4d.nd rfl (uI rfl)) (qa5 (qe5 (qcg hr) (pv 4) (pv 5) (pe_ifExp (qan qcc (qak qap (pv 5) qa4 (fun _ _=>rfl)) (pv 3) (by rfl)) (qa9 ((w2i T).mono (by decide)) hr rfl T.w37 T.w26.kp T.w30 .nil qah (qa0 (qb4 (pv 1) rfl) (qa0 (qak qap (pv 5) qa4 (fun _ _=>rfl)) qa2))) qa4) rfl))))
  (qa5 (qaj (pv 4)))))),?_⟩
 walk_at "d"
 refine qag (σ:=[some (.ref t),some (.ref b.o),some (.ref rm),none,none,none]) rfl ?_
 have ct:=T.w01
 obtain⟨dx,ht⟩:=id hW.tr.1
 obtain⟨db,hbo⟩:=hb.obj
 obtain⟨cl,m1,m2,m3,m4,m5⟩:=clsOk T b.R.s
 unfold fsB at hbo
 have bi:b.R.i < n:=by have:=hb.il;rw [hW.nn] at this;exact this
 left
 refine⟨t,S,.str (nmF P b.R.i),rfl,hW.tr,.inl ⟨nmF P b.R.i,(qae (elN P.es) b.R.i).map (nmF P),rfl,hW.pl.line b.R.i bi,by rw [zB];have:=qcd hW.pl.low b.R.i bi;omega,fun ll hll=>?_⟩⟩
 have s1:=qa7 hll (.lst (((qae (elN P.es) b.R.i).map (nmF P)).map V.str))
 have ell:upd H ll (.lst (((qae (elN P.es) b.R.i).map (nmF P)).map V.str)) ll=some (.lst (((qae (elN P.es) b.R.i).map (nmF P)).map V.str)):=qa1
 generalize upd H ll (.lst (((qae (elN P.es) b.R.i).map (nmF P)).map V.str))=H1 at*
 left
 refine r_dnewT fun pt hpt=>?_
 have s2:=qa7 hpt (.dT [])
 have ept:upd H1 pt (.dT []) pt=some (.dT (rmM P (ps.take 0) (prN P b))):=qa1
 generalize upd H1 pt (.dT [])=H2 at*
 have t2:=s1.trans s2
 have er2:=t2 _ _ er
 have fpt:H pt=none:=s1.free hpt
 have npr:pt≠rm:=(qa8 er fpt).symm
 have ell2:=s2 _ _ ell
 have hb2:=hb.same t2
 have hbo2:=t2 _ _ hbo
 clear hbo ht ell
 left
 refine r_thAT ?_
 left
 refine r_iDT ?_
 left
 refine r_itDT er2 fun o=>?_
 have hF:upd H2 rm (.frz o (.dT (rmM P ps val))) rm=some (.frz o (.dT (rmM P ps val))):=qa1
 have sF:∀x u,x≠rm->H2 x=some u->upd H2 rm (.frz o (.dT (rmM P ps val))) x=some u:=fun x u ne e=>by rw [qa6 ne];exact e
 have nll:ll≠rm:=fun z=>by rw [z,er2] at ell2;cases ell2
 have nlp:ll≠pt:=fun z=>by rw [z,ept] at ell2;cases ell2
 have nbo:b.o≠rm:=fun z=>by rw [z,er2] at hbo2;cases hbo2
 have nbm:b.m≠rm:=fun z=>by have:=hb2.amt;rw [z,er2] at this;cases this
 have nbo2:b.o≠pt:=fun z=>by rw [z,ept] at hbo2;cases hbo2
 have nbm2:b.m≠pt:=fun z=>by have:=hb2.amt;rw [z,ept] at this;cases this
 have ept2:=sF pt _ npr ept
 generalize upd H2 rm (.frz o (.dT (rmM P ps val)))=HF at*
 have l100:=hP.len
 refine f_dictT (fun i σ H'=>∃w:Option V,σ=[some (.ref t),some (.ref b.o),some (.ref rm),some (.ref ll),some (.ref pt),w]/\H' rm=some (.frz o (.dT (rmM P ps val)))/\(∀x u,x≠rm->x≠pt->H2 x=some u->H' x=some u)/\H' pt=some (.dT (rmM P (ps.take i) (prN P b)))) ⟨_,rfl,hF,fun x u n1 _ e=>sF x u n1 e,ept2⟩ ?_ ?_ ?_
 .rintro i σ H' _ ⟨w,_,fz,_⟩;exact fz
 .rintro i k v a σ H' hk ha ⟨w,rfl,fz,sm,ep⟩
  obtain⟨p,hp,rfl,rfl⟩:=rmM_at hk
  have ha:H' a=some (.tup [.str (nmF P p.1),.str p.2]):=ha
  have hpm:=zD hp
  have ell':=sm _ _ nll nlp ell2
  have hbo':=sm _ _ nbo nbo2 hbo2
  have hRb:Rd H' b.m (.dK b.R.k):=.inl (sm _ _ nbm nbm2 hb2.amt)
  have had:=hb2.ad
  have sz:(rmM P (ps.take i) (prN P b)).length < sizeLine:=by unfold rmM;rw [zB,zU];show _ < 16777216;omega
  have ein:(nmF P p.1∈(qae (elN P.es) b.R.i).map (nmF P))=(p.1∈qae (elN P.es) b.R.i):=propext ⟨fun hm=>by
   obtain⟨j,hj,e⟩:=zK.mp hm
   have hjn:=qde hW.pl.low b.R.i bi j hj
   have:=hP.inj _ _ (by omega) (hP.lt p hpm) e
   rw [<-this];exact hj,fun hm=>zK.mpr ⟨_,hm,rfl⟩⟩
  have fin:∀v:Int,v=prN P b p->∃w':Option V, [some (V.ref t),some (V.ref b.o),some (V.ref rm),some (V.ref ll),some (V.ref pt),some (V.ref a)]=[some (V.ref t),some (V.ref b.o),some (V.ref rm),some (V.ref ll),some (V.ref pt),w']/\upd H' pt (.dT (qcn (rmM P (ps.take i) (prN P b)) (pcK P p) (.int v))) rm=some (.frz o (.dT (rmM P ps val)))/\(∀x u,x≠rm->x≠pt->H2 x=some u->upd H' pt (.dT (qcn (rmM P (ps.take i) (prN P b)) (pcK P p) (.int v))) x=some u)/\upd H' pt (.dT (qcn (rmM P (ps.take i) (prN P b)) (pcK P p) (.int v))) pt=some (.dT (rmM P (ps.take (i+1)) (prN P b))):=fun v ev=>by
   rw [ev,rmM_take hP hp]
   exact⟨_,rfl,by rw [qa6 npr.symm];exact fz,fun x u n1 n2 e=>by rw [qa6 n2];exact sm x u n1 n2 e,qa1⟩
  left
  refine r_inSs (SqL.of ell') ?_
  simp only [ein]
  by_cases c:p.1∈qae (elN P.es) b.R.i
  .rw [gM c]
   left
   refine r_dpT (k:=pcK P p) ep ha sz ?_
   exact fin _ (by unfold prN;rw [gL c])
  .rw [gO c]
   left
   refine r_dpT (k:=pcK P p) ep ha sz ?_
   exact fin _ (by unfold prN;rw [gK c])
 .rintro σ H' ⟨w,rfl,fz,sm,ep⟩
  have el:(rmM P ps val).length=ps.length:=by unfold rmM;rw [zB]
  rw [el,zS] at ep
  refine r_thNxT (thawT1 fz (qfy er)) ?_
  left
  refine q pt _ (fun x u e=>?_) fpt (by rw [qa6 npr];exact ep)
  by_cases c:x=rm
  .subst c
   rw [qa1]
   rw [er] at e;exact e
  .rw [qa6 c]
   exact sm x u c (qa8 e fpt) (t2 _ _ e)
def w86 (K:uR) (d:Ad):Sp:=fun vs H Q _=>∃(pt rm:Addr) (P:PL) (n:Nat) (ps:List Pc) (pu ru:Pc->Int),vs=[.ref pt,.ref rm]/\PsOk P ps n/\H pt=some (.dT (rmM P ps pu))/\H rm=some (.dT (rmM P ps ru))/\pt≠rm/\
 (ps.find? (fun p=>decide (ru p < pu p))=none->∀H',qar H H'->Q .non H')/\∀p,ps.find? (fun p=>decide (ru p < pu p))=some p->∀b H',qar H H'->H' b=some (.tup [.str (nmF P p.1),.str p.2])->Q (.ref b) H'
theorem find_take {α:Type} {f:α->Bool} {l:List α} {i:Nat} {x:α} (hx:l[i]?=some x) (hn:∀y∈l.take i,f y=false) (hf:f x=true):l.find? f=some x:=by
 induction l generalizing i with
 |nil=>simp at hx
 |cons a l ih=>
  cases i with
  |zero=>
   have e:a=x:=by simpa using hx
   subst e
   rw [yJ,hf]
  |succ i=>
   have hx:l[i]?=some x:=by simpa using hx
   rw [yJ,hn a (by simp)]
   exact ih hx fun y hy=>hn y (by rw [List.take_succ_cons];exact zH _ hy)
include T in
theorem w80:FnOk P w K mg base CX0 1 d.w3u d.w3f ["parts","rooms"] (w86 K d):=by
 refine T.w5u.ok w5l (fun vs H Q E h=>?_) (fun cdv A outer s H vs Q E hr h=>?_)
 .obtain⟨pt,rm,P,n,ps,pu,ru,rfl,_⟩:=h;rfl
 obtain⟨pt,rm,P,n,ps,pu,ru,rfl,hP,ept,er,ne,qn,q⟩:=h
 refine⟨_,(qa3 (ps_thAT (qb8 vA rfl (qfu (pv 0)) (qab (i:=2) w5l.nd rfl (uI rfl)) (qa5 (qbg (qan qfd (qbz (qcg hr) (pv 0) (pv 2) (fun _ _=>rfl)) (qbz (qcg hr) (pv 1) (pv 2) (fun _ _=>rfl)) (qat _)) (qa5 (qaj (pv 2))) qas))))
  (qa5 (qaj qcp))),?_⟩
 walk_at "d"
 refine qag (σ:=[some (.ref pt),some (.ref rm),none]) rfl ?_
 left
 refine r_thAT ?_
 left
 refine r_iDT ?_
 left
 refine r_itDT ept fun o=>?_
 have sT:∀x u,H x=some u->upd (upd H pt (.frz o (.dT (rmM P ps pu)))) pt (.dT (rmM P ps pu)) x=some u:=fun x u e=>by
  rw [qbi]
  by_cases c:x=pt
  .rw [c,qa1];rw [c,ept] at e;exact e
  .rw [qa6 c];exact e
 have erF:upd H pt (.frz o (.dT (rmM P ps pu))) rm=some (.dT (rmM P ps ru)):=by rw [qa6 ne.symm];exact er
 have hF:upd H pt (.frz o (.dT (rmM P ps pu))) pt=some (.frz o (.dT (rmM P ps pu))):=qa1
 have el:(rmM P ps pu).length=ps.length:=by unfold rmM;rw [zB]
 generalize upd H pt (.frz o (.dT (rmM P ps pu)))=HF at*
 refine f_dictT (fun i σ H'=>H'=HF/\(∃w:Option V,σ=[some (.ref pt),some (.ref rm),w])/\∀y∈ps.take i,decide (ru y < pu y)=false) ⟨rfl,⟨_,rfl⟩,fun y hy=>by simp at hy⟩ ?_ ?_ ?_
 .rintro i σ H' _ ⟨rfl,_⟩;exact hF
 .rintro i k v a σ H' hk ha ⟨rfl,⟨w,rfl⟩,hno⟩
  obtain⟨p,hp,rfl,rfl⟩:=rmM_at hk
  have tk:ps.take (i+1)=ps.take i++ [p]:=by rw [zO,hp];rfl
  left
  refine r_dgT (k:=pcK P p) (.inr ⟨o,hF⟩) ha (qep hP hp) ?_
  left
  refine r_dgT (k:=pcK P p) (.inl erF) ha (qep hP hp) ?_
  left
  refine i_2 (fun c=>?_) (fun c=>?_)
  .refine⟨V.ref a,rfl,_,thawT1 hF (qfy ept),?_⟩
   have nap:a≠pt:=fun z=>by rw [z,hF] at ha;cases ha
   refine q p (find_take hp hno (gM c)) a _ sT ?_
   rw [qa6 nap];exact ha
  .left
   refine⟨rfl,⟨_,rfl⟩,fun y hy=>?_⟩
   rw [tk] at hy
   rcases zR.mp hy with hy|hy
   .exact hno y hy
   .rw [zF.mp hy];exact gO c
 .rintro σ H' ⟨rfl,⟨w,rfl⟩,hno⟩
  rw [el,zS] at hno
  refine r_thNxT (thawT1 hF (qfy ept)) ?_
  left
  exact qn (fJ.mpr fun y hy=>by rw [hno y hy];exact uJ) _ sT
def clF (P:PL) (ps:List Pc) (st:(Pc->Int) × List (Ob × Pc)) (b:Ob):(Pc->Int) × List (Ob × Pc):=match ps.find? (fun p=>decide (st.1 p < prN P b p)) with
 |none=>(fun p=>st.1 p - prN P b p,st.2)
 |some p=>(st.1,st.2++ [(b,p)])
def clL (P:PL) (ps:List Pc) (v0:Pc->Int) (bs:List Ob):(Pc->Int) × List (Ob × Pc):=bs.foldl (clF P ps) (v0, [])
theorem clL_snoc (P:PL) (ps:List Pc) (v0:Pc->Int) (bs:List Ob) (b:Ob):clL P ps v0 (bs++ [b])=clF P ps (clL P ps v0 bs) b:=by unfold clL;rw [cR];rfl
theorem clF_none {P:PL} {ps:List Pc} {st:(Pc->Int) × List (Ob × Pc)} {b:Ob} (h:ps.find? (fun p=>decide (st.1 p < prN P b p))=none):clF P ps st b=(fun p=>st.1 p - prN P b p,st.2):=by unfold clF;rw [h]
theorem clF_some {P:PL} {ps:List Pc} {st:(Pc->Int) × List (Ob × Pc)} {b:Ob} {p:Pc} (h:ps.find? (fun p=>decide (st.1 p < prN P b p))=some p):clF P ps st b=(st.1,st.2++ [(b,p)]):=by unfold clF;rw [h]
structure Gr where
 p:Addr
 m:Addr
 b:Ob
 c:Pc
structure GrAt (H:Hp) (P:PL) (g:Gr):Prop where
 tup:H g.p=some (.tup [.int g.b.R.n,.str (nmF P g.b.R.i),.ref g.m,.str (nmF P g.c.1),.str g.c.2])
 dic:H g.m=some (.dK g.b.R.k)
theorem GrAt.same {H H':Hp} {P:PL} {g:Gr} (h:GrAt H P g) (s:qar H H'):GrAt H' P g:=⟨s _ _ h.tup,s _ _ h.dic⟩
def grV (gs:List Gr):List V:=gs.map fun g=>V.ref g.p
theorem GrAt.mv {H H':Hp} {P:PL} {g:Gr} {rm:Addr} {k:List (List Key × V)} (h:GrAt H P g) (e:H rm=some (.dT k)) (s:∀x u,x≠rm->H x=some u->H' x=some u):GrAt H' P g:=⟨s _ _ (fun z=>by have:=h.tup;rw [z,e] at this;cases this) h.tup,s _ _ (fun z=>by have:=h.dic;rw [z,e] at this;cases this) h.dic⟩
theorem rmM_set {P:PL} {ps:List Pc} {n:Nat} (h:PsOk P ps n) {val:Pc->Int} {i:Nat} {p:Pc} (hp:ps[i]?=some p) (x:Int):qcn (rmM P ps val) (pcK P p) (.int x)=rmM P ps fun q=>if q=p then x else val q:=by
 unfold qcn
 rw [gL (by rw [L2.qc9,qep h hp];rfl)]
 unfold rmM
 rw [yV]
 refine aN fun q hq=>?_
 show (if pcK P q=pcK P p then (pcK P q,V.int x) else (pcK P q,V.int (val q)))=(pcK P q,V.int (if q=p then x else val q))
 by_cases c:q=p
 .rw [gL (by rw [c]),gL c]
 .rw [gK (fun e=>c (pcK_inj h hq (zD hp) e)),gK c]
theorem qeq {P:PL} {ps:List Pc} {u v:Pc->Int} (h:∀p∈ps,u p=v p):rmM P ps u=rmM P ps v:=by
 unfold rmM
 exact aN fun p hp=>by rw [h p hp]
theorem r_tyDT {K:uR} {H:Hp} {p:Addr} {kvs:List (List Key × V)} {B:Prop} (e:H p=some (.dT kvs)) (q:B):tyV K "dict" (.ref p) H/\B:=⟨.inr (.inr (.inl ⟨rfl,.inr ⟨_,e⟩⟩)),q⟩
def qca (r:Int) (su:Bool) (b:Ob):Bool:=!qbf r su b
def we5 (K:uR) (d:Ad):Sp:=fun vs H Q _=>∃(t lh am:Addr) (S:Ts) (P:PL) (bs:List Ob) (n h:Nat) (ka:List (Key × V)) (f:Str->Option Int) (ss:List Str) (r:Int) (su:Bool),vs=[.ref t,.ref lh,.str (nmF P h),.ref am,.int r,.bl su]/\WdAt K d H t lh S P bs n/\n<=12/\h < n/\H am=some (.dK ka)/\AD ka f/\ss.Perm (qcr ka)/\vK ss=true/\ss.length<=6/\
 ((∃p∈pls (qae (elN P.es) h) ss,qcm S P (bs.filter (qbf r su)) f p.1 p.2 < 0)->∀H',qar H H'->Q .non H')/\
 ((∀p∈pls (qae (elN P.es) h) ss,0<=qcm S P (bs.filter (qbf r su)) f p.1 p.2)->∀(l:Addr) (gs:List Gr) (H':Hp),qar H H'->H l=none->H' l=some (.lst (grV gs))->(∀g∈gs,GrAt H' P g/\g.b∈bs/\H g.m=none/\H g.p=none)->gs.map (fun g=>(g.b,g.c))=(clL P (pls (qae (elN P.es) h) ss) (fun p=>qcm S P (bs.filter (qbf r su)) f p.1 p.2) (bs.filter (qca r su))).2->Q (.ref l) H')
include T in
theorem waq:FnOk P w K mg base CX0 21 d.wad d.w8w ["tree","holds","house","amounts","rank","sure"] (we5 K d):=by
 refine T.w9t.ok w3h (fun vs H Q E h=>?_) (fun cdv A outer s H vs Q E hr h=>?_)
 .obtain⟨t,lh,am,S,P,bs,n,h,ka,f,ss,r,su,rfl,_⟩:=h;rfl
 obtain⟨t,lh,am,S,P,bs,n,h,ka,f,ss,r,su,rfl,hW,n12,hn,ha,hA,hp,hs,s6,qn,q⟩:=h
 refine⟨_,(qa3 (qaf (i:=6) w3h.nd rfl (uI rfl) (qa9 ((w9z T).mono (by decide)) hr rfl T.waw T.w7h.kp T.wb0 .nil qah (qa0 (pv 0) (qa0 (qa9 ((wfc T).mono (by decide)) hr rfl T.wgr T.we6.kp T.wgw .nil qah (qa0 (pv 1) (qa0 (pv 4) (qa0 (pv 5) qa2)))) (qa0 (qb6 (W:=fun _ _ _ _=>False) (pv 0) T.w01 T.w17 ((w5c T).mono (by decide)) hr T.w6a .nil qff (qa0 (pv 2) qa2)) (qa0 (pv 3) qa2))))))
  (qa3 (qbg (qbk (qai (call_anyB rfl) rfl T.whj PyProof.Rows.boot_any (qa0 (pe_thVT (qbm (caps:=[]) (cn:=[]) (qb2 rfl rfl (by rfl) (by rfl) rfl trivial (by rfl) rfl trivial (by decide)) rfl (pi_valsT (pe_bm0 PySem.F.plainAttrs_dict PySem.F.slot_dict_values PySem.F.type_dict_values mt_valsT (pv 6))) (fun _ _ _ _=>qdk) (fun _ _ _ _=>(qbv op_lt (pv 0) qa4 (qat _))))) qa2))) (qa5 (qaj qcp)) qas)
  (qa3 (qaf (i:=7) w3h.nd rfl (uI rfl) (qbl qa2))
  (qa3 (qb8 vA rfl (qau (qbm (caps:=[4,5]) (cn:=["rank","sure"]) (qb2 rfl rfl (by rfl) (by rfl) rfl ⟨rfl,⟨rfl,trivial⟩⟩ (by rfl) rfl ⟨⟨rfl,rfl,rfl,rfl,_,rfl⟩,⟨⟨rfl,rfl,rfl,rfl,_,rfl⟩,trivial⟩⟩ (by decide)) rfl (qau (pv 1)) (fun _ _ _ _=>(qc8 (qbk (pe_alt (qe6 (pv 0) T.w4b T.w0l ((w5i T).mono (by decide)) hr T.w5v .nil qah (qa0 (pv 1) (qa0 (pv 2) qa2))) (qe6 (pv 0) T.w3x T.w0n ((w5j T).mono (by decide)) hr T.w5r .nil qah (qa0 (pv 1) (qa0 (pv 2) qa2))))))) (fun _ _ _ _=>(pv 0)))) (qab (i:=8) w3h.nd rfl (uI rfl)) (qa3 (qaf (i:=9) w3h.nd rfl (uI rfl) (qa9 ((wch T).mono (by decide)) hr rfl T.wdn T.w9i.kp T.wds .nil qah (qa0 (pv 0) (qa0 (pv 8) (qa0 (pv 6) qa2)))))
  (qa3 (qaf (i:=10) w3h.nd rfl (uI rfl) (qa9 ((w80 T).mono (by decide)) hr rfl T.w91 T.w5u.kp T.w8y .nil qah (qa0 (pv 9) (qa0 (pv 6) qa2))))
  (qa5 (qd6 (qbg (qan op_isNN (pv 10) qcp (qat _)) (qa5 (ps_thAT (qb8 vA rfl (qfu (pv 9)) (qab (i:=11) w3h.nd rfl (uI rfl)) (qa5 (ps_daug (qcg hr) (pv 6) (pv 11) (qbz (qcg hr) (pv 9) (pv 11) (fun _ _=>rfl)) in_sub (fun _ _ _=>rfl)))))) (qa5 (qb3 (qdh vB vE vF qb1 (pv 7) (qa0 (qdl (qa0 (qb4 (pv 8) rfl) (qa0 (qb4 (pv 8) rfl) (qa0 (qbe qcu rfl T.w9h wV (qa0 (qb4 (pv 8) rfl) qa2)) (qa0 (qak qap (pv 10) qa4 (fun _ _=>rfl)) (qa0 (qak qap (pv 10) qa4 (fun _ _=>rfl)) qa2)))))) qa2))))))))))
  (qa5 (qaj (pv 7))))))),?_⟩
 walk_at "d"
 try dsimp only [cxC]
 refine qag (σ:=[some (.ref t),some (.ref lh),some (.str (nmF P h)),some (.ref am),some (.int r),some (.bl su),none,none,none,none,none,none]) rfl ?_
 left
 refine⟨lh,P,bs,r,su,rfl,hW.h,hW.h63,hW.ob,fun lf hlf=>?_⟩
 have hW1:=hW.fix hlf r su
 have s1:=qa7 hlf (.lst (bsV (bs.filter (qbf r su))))
 generalize upd H lf (.lst (bsV (bs.filter (qbf r su))))=H1 at*
 have ct:=T.w01
 obtain⟨dx,ht⟩:=id hW1.tr.1
 left
 refine⟨t,S,.str (nmF P h),rfl,hW1.tr,.inl ⟨nmF P h,(qae (elN P.es) h).map (nmF P),rfl,hW.pl.line h hn,by rw [zB];have:=qcd hW.pl.low h hn;omega,fun ll hll=>?_⟩⟩
 have lle:=qde hW.pl.low h hn
 have lnd:(qae (elN P.es) h).Nodup:=cP (fun h z=>by omega) (lineN_pw hW.pl.low h hn)
 have l12:(qae (elN P.es) h).length<=12:=by have:=qcd hW.pl.low h hn;omega
 have s2:=qa7 hll (.lst (((qae (elN P.es) h).map (nmF P)).map V.str))
 have ell:upd H1 ll (.lst (((qae (elN P.es) h).map (nmF P)).map V.str)) ll=some (.lst ((qae (elN P.es) h).map fun j=>V.str (nmF P j))):=by rw [qa1,yV];rfl
 generalize upd H1 ll (.lst (((qae (elN P.es) h).map (nmF P)).map V.str))=H2 at*
 have hW2:=hW1.same s2
 have t2:=s1.trans s2
 have snd:ss.Nodup:=hp.nodup_iff.mpr hA.knd
 have jn:∀j∈qae (elN P.es) h,j < n:=fun j hj=>by have:=lle j hj;omega
 clear ht
 left
 refine⟨t,lf,ll,am,S,P,_,n,qae (elN P.es) h,ka,f,ss,rfl,hW2,ell,jn,lnd,l12,t2 _ _ ha,hA,hp,hs,s6,fun rm H3 s3 hrm er=>?_⟩
 rw [rm_map] at er
 have hP:PsOk P (pls (qae (elN P.es) h) ss) n:=⟨pls_nd lnd snd,fun p hp=>jn p.1 (pls_in hp).1,fun i j hi hj e=>hW.pl.inj i j hi hj e,by rw [pls_len];have:=Nat.mul_le_mul l12 s6;omega⟩
 have t3:=t2.trans s3
 have frm:H rm=none:=t2.free hrm
 generalize pls (qae (elN P.es) h) ss=ps at*
 generalize hv0:(fun p:Pc=>qcm S P (bs.filter (qbf r su)) f p.1 p.2)=v0 at*
 have qn:(∃p∈ps,v0 p < 0)->∀H',qar H H'->Q .non H':=fun⟨p,h1,h2⟩=>qn ⟨p,h1,by rw [<-hv0] at h2;exact h2⟩
 have q:=fun(hq:∀p∈ps,0<=v0 p)=>q fun p h1=>by have:=hq p h1;rw [<-hv0] at this;exact this
 clear hW1 hW2 ell s1 s2 s3 hlf hll hrm hv0 t2
 have l100:=hP.len
 left
 refine r_thVT ?_
 left
 refine r_iVT ?_
 left
 refine r_tyDT er ?_
 refine⟨rm,_,rfl,rfl,.inl er,fun v hv=>?_⟩
 have s4:=qa7 hv (ValO v rm)
 have ev:upd H3 v (ValO v rm) v=some (ValO v rm):=qa1
 have er4:=s4 _ _ er
 generalize upd H3 v (ValO v rm)=H4 at*
 refine r_itVT ev er4 fun o=>?_
 have hF:upd H4 rm (.frz o (.dT (rmM P ps v0))) rm=some (.frz o (.dT (rmM P ps v0))):=qa1
 have sF:∀x u,x≠rm->H4 x=some u->upd H4 rm (.frz o (.dT (rmM P ps v0))) x=some u:=fun x u ne e=>by rw [qa6 ne];exact e
 generalize upd H4 rm (.frz o (.dT (rmM P ps v0)))=HF at*
 have rml:(rmM P ps v0).length=ps.length:=by unfold rmM;rw [zB]
 intro C s0 H0 fp acc hacc
 refine qek ps.length (fun i H'=>H'=upd HF acc (.lst (((ps.take i).map fun p=>decide (v0 p < 0)).map V.bl))) rfl ?_ ?_ ?_ ?_
 .rintro i H' hi rfl
  exact⟨qad hF hacc,by rw [rml];exact hi⟩
 .rintro H' rfl
  exact⟨qad hF hacc,by rw [rml];exact uF _⟩
 .rintro i H' w H'' hi rfl ⟨rfl,k,hk⟩
  obtain⟨p,hp,_,rfl⟩:=rmM_at hk
  have tk:ps.take (i+1)=ps.take i++ [p]:=by rw [zO,hp];rfl
  have zl:(((ps.take i).map fun p=>decide (v0 p < 0)).map V.bl).length < sizeLine:=by rw [zB,zB,zU];show _ < 16777216;omega
  left
  rw [qbi,tk,zE,zE];rfl
 rintro H' rfl
 rw [zS]
 refine⟨_,thawT1 (qad hF hacc) (qfi frm),?_⟩
 have nar:acc≠rm:=(qa8 hF hacc).symm
 have eacc:upd (upd HF acc (.lst ((ps.map fun p=>decide (v0 p < 0)).map V.bl))) rm (.dT (rmM P ps v0)) acc=some (.lst ((ps.map fun p=>decide (v0 p < 0)).map V.bl)):=by rw [qa6 nar];exact qa1
 have er5:upd (upd HF acc (.lst ((ps.map fun p=>decide (v0 p < 0)).map V.bl))) rm (.dT (rmM P ps v0)) rm=some (.dT (rmM P ps v0)):=qa1
 have t5:qar H (upd (upd HF acc (.lst ((ps.map fun p=>decide (v0 p < 0)).map V.bl))) rm (.dT (rmM P ps v0))):=fun x u e=>by
  have n1:x≠rm:=qa8 e frm
  rw [qa6 n1]
  exact qad (sF x u n1 (s4 _ _ (t3 _ _ e))) hacc
 generalize upd (upd HF acc (.lst ((ps.map fun p=>decide (v0 p < 0)).map V.bl))) rm (.dT (rmM P ps v0))=H5 at*
 clear hF sF hacc nar er4 ev s4 er t3 hv rml
 left
 refine r_any (SqL.of eacc) ?_
 refine⟨_,rfl,?_⟩
 cases hany:(ps.map fun p=>decide (v0 p < 0)).any id with
 |true=>
  left
  obtain⟨x,hx,e⟩:=yO.mp hany
  obtain⟨p,hp1,rfl⟩:=zK.mp hx
  exact qn ⟨p,hp1,of_decide_eq_true e⟩ _ t5
 |false=>
  have hnn:∀p∈ps,0<=v0 p:=fun p hp1=>by
   have:=fQ.mp hany (decide (v0 p < 0)) (zK.mpr ⟨p,hp1,rfl⟩)
   apply Classical.byContradiction
   intro c
   exact this (gM (by omega))
  have q:=q hnn
  clear hany hnn qn eacc
  left
  rename_i lg hlg
  have s6:=qa7 hlg (.lst [])
  have elg:upd H5 lg (.lst []) lg=some (.lst []):=qa1
  have er6:=s6 _ _ er5
  have t6:=t5.trans s6
  have flg:H lg=none:=t5.free hlg
  have ngr:lg≠rm:=(qa8 er5 hlg).symm
  generalize upd H5 lg (.lst [])=H6 at*
  have hW6:=hW.same t6
  have hL6:=hW6.h
  have l63:=hW.h63
  clear s6 hlg er5 t5
  left
  intro C s0 H0 fp ac hac
  refine qek bs.length (fun i H'=>H'=upd H6 ac (.lst (bsV ((bs.take i).filter (qca r su))))) rfl ?_ ?_ ?_ ?_
  .rintro i H' hi rfl
   exact⟨_,.ref bs[i].o,SqL.of (qad hL6 hac),by unfold bsV;rw [zC,zA hi];rfl⟩
  .rintro H' rfl
   exact⟨_,SqL.of (qad hL6 hac),by unfold bsV;rw [zB];exact uF _⟩
  .rintro i H' v H'' hi rfl ⟨rfl,hy⟩
   have hv:=hy _ (SqL.of (qad hL6 hac))
   unfold bsV at hv
   rw [zC,zA hi] at hv
   cases hv
   have hb:=hW6.ob _ (zJ hi)
   have tk:bs.take (i+1)=bs.take i++ [bs[i]]:=by rw [zO,zA hi];rfl
   generalize hbi:bs[i]=b at*
   obtain⟨dxb,hbo⟩:=hb.obj
   have hbo':=qad (o':=.lst (bsV ((bs.take i).filter (qca r su)))) hbo hac
   have zl:(bsV ((bs.take i).filter (qca r su))).length < sizeLine:=by
    unfold bsV
    rw [zB]
    have h1:=zY (qca r su) (bs.take i)
    rw [zU] at h1
    show _ < 16777216
    omega
   have yes:qca r su b=true->upd (upd H6 ac (.lst (bsV ((bs.take i).filter (qca r su))))) ac (.lst (bsV ((bs.take i).filter (qca r su))++ [.ref b.o]))=upd H6 ac (.lst (bsV ((bs.take (i+1)).filter (qca r su)))):=fun e=>by
    rw [qbi,tk,yA,yE,gL e]
    congr 2
    unfold bsV
    rw [zE];rfl
   have no:qca r su b=false->upd H6 ac (.lst (bsV ((bs.take i).filter (qca r su))))=upd H6 ac (.lst (bsV ((bs.take (i+1)).filter (qca r su)))):=fun e=>by
    rw [tk,yA,yE,gK (by rw [e];exact uJ),yR,yB]
   cases hs:b.R.s with
   |true=>
    rw [hs,show qf5 d true=d.w0a from rfl] at hbo'
    left
    refine r_alt1 ?_
    left
    refine⟨_,_,_,rfl,?_⟩
    left
    exact no (by unfold qca qbf;rw [hs];rfl)
   |false=>
    rw [hs,show qf5 d false=d.w09 from rfl] at hbo'
    left
    refine r_alt2 ?_
    left
    refine⟨b.o,b.m,dxb,b.R.n,nmF P b.R.i,b.R.r,b.t,r,su,rfl,hbo',?_⟩
    cases hq:(su || decide (b.R.r < r)) with
    |true=>
     left
     exact yes (by unfold qca qbf;rw [hs,hq];rfl)
    |false=>
     left
     exact no (by unfold qca qbf;rw [hs,hq];rfl)
  rintro H' rfl
  rw [zS]
  have glm:∀b∈bs.filter (qca r su),b∈bs:=fun b hb=>(yH.mp hb).1
  have gl63:(bs.filter (qca r su)).length<=63:=vN (zY ..) l63
  have s7:=qa7 hac (.lst (bsV (bs.filter (qca r su))))
  have eac:upd H6 ac (.lst (bsV (bs.filter (qca r su)))) ac=some (.lst (bsV (bs.filter (qca r su)))):=qa1
  have elg7:=s7 _ _ elg
  have er7:=s7 _ _ er6
  have t7:=t6.trans s7
  have nag:ac≠lg:=(qa8 elg hac).symm
  have nar:ac≠rm:=(qa8 er6 hac).symm
  generalize upd H6 ac (.lst (bsV (bs.filter (qca r su))))=H7 at*
  generalize bs.filter (qca r su)=gl at*
  clear hL6 hW6 elg er6 t6 s7 hac
  left
  refine qct (xs:=bsV gl) (fun i σ H'=>∃(gs:List Gr) (w8 w9 w10 w11:Option V),σ=[some (V.ref t),some (V.ref lh),some (V.str (nmF P h)),some (V.ref am),some (V.int r),some (V.bl su),some (V.ref rm),some (V.ref lg),w8,w9,w10,w11]/\qar H H'/\H' ac=some (.lst (bsV gl))/\H' rm=some (.dT (rmM P ps (clL P ps v0 (gl.take i)).1))/\H' lg=some (.lst (grV gs))/\gs.length<=i/\(∀g∈gs,GrAt H' P g/\g.b∈bs/\H g.m=none/\H g.p=none)/\gs.map (fun g=>(g.b,g.c))=(clL P ps v0 (gl.take i)).2) ⟨[],_,_,_,_,rfl,t7,eac,er7,elg7,uF _,fun g hg=>by simp at hg,rfl⟩ ?_ ?_ ?_
  .rintro i σ H' _ ⟨gs,w8,w9,w10,w11,_,_,ea,_⟩;exact SqL.of ea
  .rintro i x σ H' hx ⟨gs,w8,w9,w10,w11,rfl,sm,ea,erm,elg,gsl,hG,hgs⟩
   have hi:i < gl.length:=by have:=(uH.mp hx).1;unfold bsV at this;rw [zB] at this;exact this
   have eb:=zA hi
   have hbm:=glm _ (zJ hi)
   have tk:gl.take (i+1)=gl.take i++ [gl[i]]:=by rw [zO,eb];rfl
   generalize gl[i]=b at*
   have hx:V.ref b.o=x:=by
    unfold bsV at hx
    rw [zC,eb] at hx
    exact uW hx
   subst hx
   have cls:=clL_snoc P ps v0 (gl.take i) b
   rw [<-tk] at cls
   rw [cls]
   generalize clL P ps v0 (gl.take i)=st at*
   have hW':=hW.same sm
   have hb':=hW'.ob b hbm
   obtain⟨dxb,hbo⟩:=hb'.obj
   obtain⟨cl,m1,m2,m3,m4,m5⟩:=clsOk T b.R.s
   unfold fsB at hbo
   clear hx cls eac er7 elg7 t7
   left
   refine⟨t,lh,rm,S,P,bs,b,n,ps,st.1,rfl,hW',n12,hb',hP,erm,fun pt H8 s8 hpt ept=>?_⟩
   have npr:pt≠rm:=(qa8 erm hpt).symm
   left
   refine⟨pt,rm,P,n,ps,prN P b,st.1,rfl,hP,ept,s8 _ _ erm,npr,fun hf H9 s9=>?_,fun p hf a H9 s9 ha=>?_⟩
   .rw [clF_none hf]
    left
    refine r_cut0 ?_
    left
    have t9:=s8.trans s9
    have ept9:=s9 _ _ ept
    have erm9:=t9 _ _ erm
    have fpt:H pt=none:=sm.free hpt
    refine r_thAT ?_
    left
    refine r_iDT ?_
    left
    refine r_itDT ept9 fun o=>?_
    have hF:upd H9 pt (.frz o (.dT (rmM P ps (prN P b)))) pt=some (.frz o (.dT (rmM P ps (prN P b)))):=qa1
    have sF:∀x u,x≠pt->H9 x=some u->upd H9 pt (.frz o (.dT (rmM P ps (prN P b)))) x=some u:=fun x u ne e=>by rw [qa6 ne];exact e
    have ermF:=sF rm _ npr.symm erm9
    generalize upd H9 pt (.frz o (.dT (rmM P ps (prN P b))))=HF at*
    have sz:∀u:Pc->Int,(rmM P ps u).length < sizeLine:=fun u=>by unfold rmM;rw [zB];show _ < 16777216;omega
    have e0:rmM P ps st.1=rmM P ps (fun q=>if q∈ps.take 0 then st.1 q - prN P b q else st.1 q):=qeq fun q _=>by rw [gK (by simp)]
    rw [e0] at ermF
    refine f_dictT (fun k σ Hx=>∃w:Option V,σ=[some (V.ref t),some (V.ref lh),some (V.str (nmF P h)),some (V.ref am),some (V.int r),some (V.bl su),some (V.ref rm),some (V.ref lg),some (V.ref b.o),some (V.ref pt),some V.non,w]/\Hx pt=some (.frz o (.dT (rmM P ps (prN P b))))/\(∀x u,x≠pt->x≠rm->H9 x=some u->Hx x=some u)/\Hx rm=some (.dT (rmM P ps (fun q=>if q∈ps.take k then st.1 q - prN P b q else st.1 q)))) ⟨_,rfl,hF,fun x u n1 _ e=>sF x u n1 e,ermF⟩ ?_ ?_ ?_
    .rintro k σ Hx _ ⟨w,_,fz,_⟩;exact fz
    .rintro k kk v a σ Hx hk ha ⟨w,rfl,fz,sx,ex⟩
     obtain⟨p,hp1,rfl,rfl⟩:=rmM_at hk
     have tkp:ps.take (k+1)=ps.take k++ [p]:=by rw [zO,hp1];rfl
     have pnt:p∉ps.take k:=fun hm=>by
      have nd:=hP.nd
      have e2:=bL (k+1) ps
      rw [tkp] at e2
      rw [<-e2,yI,yI] at nd
      exact nd.1.2.2 p hm p (zF.mpr rfl) rfl
     have fin:∃w':Option V, [some (V.ref t),some (V.ref lh),some (V.str (nmF P h)),some (V.ref am),some (V.int r),some (V.bl su),some (V.ref rm),some (V.ref lg),some (V.ref b.o),some (V.ref pt),some V.non,some (V.ref a)]=[some (V.ref t),some (V.ref lh),some (V.str (nmF P h)),some (V.ref am),some (V.int r),some (V.bl su),some (V.ref rm),some (V.ref lg),some (V.ref b.o),some (V.ref pt),some V.non,w']/\upd Hx rm (.dT (qcn (rmM P ps (fun q=>if q∈ps.take k then st.1 q - prN P b q else st.1 q)) (pcK P p) (.int ((if p∈ps.take k then st.1 p - prN P b p else st.1 p) - prN P b p)))) pt=some (.frz o (.dT (rmM P ps (prN P b))))/\(∀x u,x≠pt->x≠rm->H9 x=some u->upd Hx rm (.dT (qcn (rmM P ps (fun q=>if q∈ps.take k then st.1 q - prN P b q else st.1 q)) (pcK P p) (.int ((if p∈ps.take k then st.1 p - prN P b p else st.1 p) - prN P b p)))) x=some u)/\upd Hx rm (.dT (qcn (rmM P ps (fun q=>if q∈ps.take k then st.1 q - prN P b q else st.1 q)) (pcK P p) (.int ((if p∈ps.take k then st.1 p - prN P b p else st.1 p) - prN P b p)))) rm=some (.dT (rmM P ps (fun q=>if q∈ps.take (k+1) then st.1 q - prN P b q else st.1 q))):=by
      rw [rmM_set hP hp1]
      refine⟨_,rfl,by rw [qa6 npr];exact fz,fun x u n1 n2 e=>by rw [qa6 n2];exact sx x u n1 n2 e,?_⟩
      rw [qa1,qeq fun q _=>?_]
      rw [tkp]
      by_cases c:q=p
      .rw [gL c,gK pnt,c,gL (zP _ (zF.mpr rfl))]
      .rw [gK c]
       by_cases c2:q∈ps.take k
       .rw [gL c2,gL (yG _ c2)]
       .rw [gK c2,gK (fun hm=>(zR.mp hm).elim c2 fun h1=>c (zF.mp h1))]
     left
     refine r_da ?_
     left
     refine⟨rm,_,rfl,.inr ⟨_,pcK P p,a,.inl ex,rfl,ha,(qep hP hp1).symm⟩,?_⟩
     left
     refine r_dgT (k:=pcK P p) (.inr ⟨o,fz⟩) ha (qep hP hp1) ?_
     exact⟨_,_,rfl,rfl,_,DPut.t ex ha (sz _),fin⟩
    .rintro σ Hx ⟨w,rfl,fz,sx,ex⟩
     have el2:(rmM P ps (prN P b)).length=ps.length:=by unfold rmM;rw [zB]
     rw [el2,zS,qeq (v:=fun q=>st.1 q - prN P b q) fun q hq=>by rw [gL hq]] at ex
     refine r_thNxT (thawT1 fz (qfi fpt)) ?_
     have mv:∀x u,x≠rm->H' x=some u->upd Hx pt (.dT (rmM P ps (prN P b))) x=some u:=fun x u n1 e=>by
      have n2:x≠pt:=qa8 e hpt
      rw [qa6 n2]
      exact sx x u n2 n1 (t9 _ _ e)
     exact⟨gs,_,_,_,_,rfl,fun x u e=>mv x u (qa8 e frm) (sm _ _ e),mv _ _ nar ea,by rw [qa6 npr.symm];exact ex,mv _ _ ngr elg,by omega,fun g hg=>⟨(hG g hg).1.mv erm mv,(hG g hg).2⟩,hgs⟩
   .rw [clF_some hf]
    have t9:=s8.trans s9
    have elg9:=t9 _ _ elg
    have hbo9:=t9 _ _ hbo
    have hRb:Rd H9 b.m (.dK b.R.k):=.inl (t9 _ _ hb'.amt)
    have zl:(grV gs).length < sizeLine:=by unfold grV;rw [zB];show _ < 16777216;omega
    clear hbo ept
    left
    refine r_cut0 ?_
    left
    rename_i m hm pp hpp
    have u1:=qa7 hm (.dK b.R.k)
    have em:upd H9 m (.dK b.R.k) m=some (.dK b.R.k):=qa1
    generalize upd H9 m (.dK b.R.k)=Ha at*
    have u2:=qa7 hpp (.tup [V.int b.R.n,V.str (nmF P b.R.i),V.ref m,V.str (nmF P p.1),V.str p.2])
    have epp:upd Ha pp (.tup [V.int b.R.n,V.str (nmF P b.R.i),V.ref m,V.str (nmF P p.1),V.str p.2]) pp=some (.tup [V.int b.R.n,V.str (nmF P b.R.i),V.ref m,V.str (nmF P p.1),V.str p.2]):=qa1
    generalize upd Ha pp (.tup [V.int b.R.n,V.str (nmF P b.R.i),V.ref m,V.str (nmF P p.1),V.str p.2])=Hb at*
    have tb:=(t9.trans u1).trans u2
    have gn:GrAt Hb P ⟨pp,m,b,p⟩:=⟨epp,u2 _ _ em⟩
    have elgb:=tb _ _ elg
    have put:∀{g:Gr},GrAt Hb P g->GrAt (upd Hb lg (.lst (grV gs++ [V.ref pp]))) P g:=fun {g} hg=>⟨by rw [qa6 (fun z=>by have:=hg.tup;rw [z,elgb] at this;cases this)];exact hg.tup,by rw [qa6 (fun z=>by have:=hg.dic;rw [z,elgb] at this;cases this)];exact hg.dic⟩
    refine⟨gs++ [⟨pp,m,b,p⟩],_,_,_,_,rfl,qaq (sm.trans tb) flg,by rw [qa6 nag];exact tb _ _ ea,by rw [qa6 ngr.symm];exact tb _ _ erm,by rw [qa1];unfold grV;rw [zE];rfl,by rw [zG,zT];omega,fun g hg=>?_,by rw [zE,hgs];rfl⟩
    rcases zR.mp hg with hg|hg
    .exact⟨put ((hG g hg).1.same tb),(hG g hg).2⟩
    .rw [zF.mp hg];exact⟨put gn,hbm,(sm.trans t9).free hm,((sm.trans t9).trans u1).free hpp⟩
  rintro σ H' ⟨gs,w8,w9,w10,w11,rfl,sm,ea,erm,elg,gsl,hG,hgs⟩
  have ez:(bsV gl).length=gl.length:=zB _
  rw [ez,zS] at hgs
  left
  exact q lg gs H' sm flg elg hG hgs
structure WTr (K:uR) (d:Ad) (H:Hp) (w:Wd) (t lh:Addr) (S:Ts) (P:PL) (bs:List Ob):Prop where
 wd:WdAt K d H t lh S P bs (w.es.length+1)
 nm:P.nm=w.nm
 ws:P.ws=w.ws
 es:P.es=w.es
theorem WTr.same {K:uR} {d:Ad} {H H':Hp} {w:Wd} {t lh:Addr} {S:Ts} {P:PL} {bs:List Ob} (h:WTr K d H w t lh S P bs) (s:qar H H'):WTr K d H' w t lh S P bs:=⟨h.wd.same s,h.nm,h.ws,h.es⟩
def akF (w:Wd):Str->Option Int:=tdF (w.ws.zip w.aps)
def wfo (K:uR) (d:Ad):Sp:=fun vs H Q _=>∃(w:Wd) (t lh:Addr) (S:Ts) (P:PL) (bs:List Ob) (ss:List Str),vs=[.ref w.wt,.ref t,.ref lh]/\WAt H w/\WOk w/\WTr K d H w t lh S P bs/\ss.Perm (qcr (tdK (w.ws.zip w.aps)))/\vK ss=true/\ss.length<=6/\
 ((∃p∈pls (qae (elN P.es) w.h) ss,qcm S P (bs.filter (qbf w.rk w.su)) (akF w) p.1 p.2 < 0)->∀H',qar H H'->Q .non H')/\
 ((∀p∈pls (qae (elN P.es) w.h) ss,0<=qcm S P (bs.filter (qbf w.rk w.su)) (akF w) p.1 p.2)->∀(l:Addr) (gs:List Gr) (H':Hp),qar H H'->H l=none->H' l=some (.lst (grV gs))->(∀g∈gs,GrAt H' P g/\g.b∈bs/\H g.m=none/\H g.p=none)->gs.map (fun g=>(g.b,g.c))=(clL P (pls (qae (elN P.es) w.h) ss) (fun p=>qcm S P (bs.filter (qbf w.rk w.su)) (akF w) p.1 p.2) (bs.filter (qca w.rk w.su))).2->Q (.ref l) H')
include T in
theorem wfe:FnOk P w K mg base CX0 22 d.wcx d.w9y ["_law_world_here","_law_tree_here","_law_objects_here"] (wfo K d):=by
 refine T.wem.ok w4j (fun vs H Q E h=>?_) (fun cdv A outer s H vs Q E hr h=>?_)
 .obtain⟨w,t,lh,S,P,bs,ss,rfl,_⟩:=h;rfl
 obtain⟨w,t,lh,S,P,bs,ss,rfl,hw,ok,ht,hp,hs,s6,qn,q⟩:=h
 refine⟨_,(qa3 (qdj (pv 0) (qci rfl (qac (qab (i:=3) w4j.nd rfl (uI rfl)) (qac (qab (i:=4) w4j.nd rfl (uI rfl)) (qac (qab (i:=5) w4j.nd rfl (uI rfl)) (qac (qab (i:=6) w4j.nd rfl (uI rfl)) (qac (qab (i:=7) w4j.nd rfl (uI rfl)) (qac (qab (i:=8) w4j.nd rfl (uI rfl)) qbu))))))))
  (qa5 (qaj (qa9 ((waq T).mono (by decide)) hr rfl T.wdc T.w9t.kp T.wdb .nil qah (qa0 (pv 1) (qa0 (pv 2) (qa0 (qak qal (pv 3) (qak qap (pv 7) qa4 (fun _ _=>rfl)) (fun _ _=>rfl)) (qa0 (qa9 ((w3t T).mono (by decide)) hr rfl T.w5w T.w5g.kp T.w5t .nil qah (qa0 (pv 4) (qa0 (qak qap (pv 7) qa4 (fun _ _=>rfl)) qa2))) (qa0 (qak qap (pv 7) qa4 (fun _ _=>rfl)) (qa0 (qak qap (pv 7) qa4 (fun _ _=>rfl)) qa2)))))))))),?_⟩
 walk_at "d"
 refine qag (σ:=[some (.ref w.wt),some (.ref t),some (.ref lh),none,none,none,none,none,none]) rfl ?_
 have htp:=hw.tup
 have hla:=hw.la
 have nl:=ht.wd.nn
 have xn:atI (w.nm.map V.str) ((w.h:Nat):Int)=some (.str (nmF P w.h)):=by
  have e:w.h < P.nm.length:=by rw [nl];exact ok.hh
  rw [qd9 e,<-ht.nm]
  exact qav (by rw [zC,zA e];rfl)
 have hh:=ok.hh
 have e5:=ok.e5
 have apl:=ok.apl
 have w6:=ok.w6
 generalize hhi:((w.h:Nat):Int)=hi at*
 left
 refine qb7 (SqL.of hw.ln) xn ?_
 left
 refine⟨w.lw,w.pa,w.ws,w.aps,rfl,SqL.of hw.lw,SqL.of hw.pa,apl.symm,by omega,fun am H1 s1 ham eam=>?_⟩
 have hla1:=s1 _ _ hla
 clear htp hla
 left
 refine⟨t,lh,am,S,P,bs,_,w.h,tdK (w.ws.zip w.aps),akF w,ss,w.rk,w.su,rfl,ht.wd.same s1,by omega,hh,eam,qdu _,hp,hs,s6,fun c H2 s2=>?_,fun c l gs H2 s2 hl el hG hgs=>?_⟩
 .left
  exact qn c _ (s1.trans s2)
 .left
  exact q c l gs H2 (s1.trans s2) (s1.free hl) el (fun g hg=>⟨(hG g hg).1,(hG g hg).2.1,s1.free (hG g hg).2.2.1,s1.free (hG g hg).2.2.2⟩) hgs
def capN (w:Wd) (p:Pc):Int:=gN (tdF (w.ws.zip (csD w.cs p.1))) p.2
def sumZ (w:Wd) (Bs:List Rw) (p:Pc):Int:=((Bs.filter fun R=>decide (p.1∈qae (elN w.es) R.i)).map fun R=>gN (tdF (w.ws.zip R.ps)) p.2).sum
def bad (w:Wd) (Bs:List Rw) (p:Pc):Bool:=decide (0 < gN (akF w) p.2) && decide (capN w p < sumZ w Bs p+gN (akF w) p.2)
theorem pls_app (a b:List Nat) (ss:List Str):pls (a++b) ss=pls a ss++pls b ss:=by unfold pls;rw [List.flatMap_append]
theorem find_pls {js:List Nat} {ss:List Str} {i c j:Nat} {z:Str} {f:Pc->Bool} (hj:js[i]?=some j) (hz:ss[c]?=some z) (h1:∀j'∈js.take i,∀z'∈ss,f (j',z')=false) (h2:∀z'∈ss.take c,f (j,z')=false) (hf:f (j,z)=true):(pls js ss).find? f=some (j,z):=by
 have hi:=(uH.mp hj).1
 have e:js=js.take i++(j :: js.drop (i+1)):=by
  have:=bL i js
  rw [wY hi,(uH.mp hj).2] at this
  exact this.symm
 rw [e,pls_app,List.find?_append]
 have n1:(pls (js.take i) ss).find? f=none:=fJ.mpr fun p hp=>by
  obtain⟨a,b⟩:=pls_in hp
  rw [h1 p.1 a p.2 b];exact uJ
 rw [n1]
 show (pls (j :: js.drop (i+1)) ss).find? f=_
 show (ss.map (fun w=>(j,w))++pls (js.drop (i+1)) ss).find? f=_
 rw [List.find?_append]
 have n2:(ss.map (fun w=>(j,w))).find? f=some (j,z):=find_take (i:=c) (by rw [zC,hz];rfl) (fun y hy=>by
  rw [<-List.map_take] at hy
  obtain⟨w,hw,rfl⟩:=zK.mp hy
  exact h2 w hw) hf
 rw [n2];rfl
theorem find_pls_no {js:List Nat} {ss:List Str} {f:Pc->Bool} (h1:∀j∈js,∀z∈ss,f (j,z)=false):(pls js ss).find? f=none:=fJ.mpr fun p hp=>by
 obtain⟨a,b⟩:=pls_in hp
 rw [h1 p.1 a p.2 b];exact uJ
theorem sumZ_eq {w:Wd} {Bs:List Rw} {a j:Nat} (nd:w.ws.Nodup) (hj:j < w.ws.length) (h:∀R∈Bs,R.ps.length=w.ws.length/\∀p∈R.ps,PpOk p):sumZ w Bs (a,w.ws[j])=qdv (elN w.es) Bs a j:=by
 unfold sumZ qdv
 congr 1
 refine aN fun R hR=>?_
 obtain⟨l1,l2⟩:=h R (yH.mp hR).1
 show gN (tdF (w.ws.zip R.ps)) w.ws[j]=psN R j
 rw [tdF_gN l1.symm nd (fun p hp=>(l2 p hp).lo) hj (by omega)]
 unfold psN
 rw [zA (by omega)];rfl
def wd4 (K:uR) (d:Ad):Sp:=fun vs H Q _=>∃(w:Wd) (ls:Addr) (P:PL) (Bs:List Rw) (sw:List Str),vs=[.ref w.wt,.ref ls]/\WAt H w/\WOk w/\P.nm=w.nm/\H ls=some (.lst (rwV Bs))/\(∀R∈Bs,RwAt H (w.es.length+1) w.ws.length R)/\Bs.length<=100/\sw.Perm w.ws/\vK sw=true/\
 ((pls (qae (elN w.es) w.h) sw).find? (bad w Bs)=none->∀H',qar H H'->Q .non H')/\∀p,(pls (qae (elN w.es) w.h) sw).find? (bad w Bs)=some p->∀a H',qar H H'->H a=none->H' a=some (.tup [.str (nmF P p.1),.str p.2])->Q (.ref a) H'
include T in
theorem wd7:FnOk P w K mg base CX0 4 d.wc0 d.w9s ["_law_world_here","_law_some"] (wd4 K d):=by
 refine T.wct.ok w1x (fun vs H Q E h=>?_) (fun cdv A outer s H vs Q E hr h=>?_)
 .obtain⟨w,ls,P,Bs,sw,rfl,_⟩:=h;rfl
 obtain⟨w,ls,P,Bs,sw,rfl,hw,ok,hPn,hl,hB,b30,hp,hs,qn,q⟩:=h
 refine⟨_,(qa3 (qdj (pv 0) (qci rfl (qac (qab (i:=2) w1x.nd rfl (uI rfl)) (qac (qab (i:=3) w1x.nd rfl (uI rfl)) (qac (qab (i:=4) w1x.nd rfl (uI rfl)) (qac (qab (i:=5) w1x.nd rfl (uI rfl)) (qac (qab (i:=6) w1x.nd rfl (uI rfl)) (qac (qab (i:=7) w1x.nd rfl (uI rfl)) qbu))))))))
  (qa3 (qb8 vA rfl (qau (qak qal (pv 4) (qak qap (pv 6) qa4 (fun _ _=>rfl)) (fun _ _=>rfl))) (qab (i:=8) w1x.nd rfl (uI rfl)) (qa5 (qb8 vA rfl (qau (qai qe9 rfl T.w5o wS (qa0 (pv 3) qa2))) (qab (i:=9) w1x.nd rfl (uI rfl)) (qa3 (qaf (i:=10) w1x.nd rfl (uI rfl) (qdh vB PySem.F.slot_list_index PySem.F.type_list_index mt_idxS (pv 3) (qa0 (pv 9) qa2)))
  (qa3 (qaf (i:=11) w1x.nd rfl (uI rfl) (qa9 ((wej T).mono (by decide)) hr rfl T.wh1 T.wf9.kp T.wg5 .nil qah (qa0 (pv 1) (qa0 (pv 4) (qa0 (pv 8) (qa0 (pv 10) qa2))))))
  (qa5 (qbg (PW.pt (pw_and (qan qfd (qak qal (qak qap (pv 6) qa4 (fun _ _=>rfl)) (pv 10) (fun _ _=>rfl)) qa4 (qat _)) (pw_and1 (qan qfd (qam qb0 (pv 11) (qak qal (qak qap (pv 6) qa4 (fun _ _=>rfl)) (pv 10) (fun _ _=>rfl))) (qak qal (qak qal (pv 7) (pv 8) (fun _ _=>rfl)) (pv 10) (fun _ _=>rfl)) (qat _))))) (qa5 (qaj (qdl (qa0 (qak qal (pv 2) (pv 8) (fun _ _=>rfl)) (qa0 (pv 9) qa2))))) qas)))))))
  (qa5 (qaj qcp)))),?_⟩
 walk_at "d"
 refine qag (σ:=[some (.ref w.wt),some (.ref ls),none,none,none,none,none,none,none,none,none,none]) rfl ?_
 have htp:=hw.tup
 have hla:=hw.la
 have etop:=hw.le.top
 obtain⟨xh,_,axh,exh⟩:=hw.le.at ok.hh
 have low:=qds (fun k e h=>(hw.le.lo k e h).1) (w.es.length+1)
 have lle:=qde low w.h ok.hh
 have hh:=ok.hh
 have w6:=ok.w6
 generalize hhi:((w.h:Nat):Int)=hi at*
 left
 refine qb7 (SqL.of etop) axh ?_
 left
 refine qct (xs:=(qae (elN w.es) w.h).map iV) (fun i σ H'=>∃(w8 w9 w10 w11:Option V),σ=[some (V.ref w.wt),some (V.ref ls),some (V.ref w.ln),some (V.ref w.lw),some (V.ref w.le),some (V.ref w.lr),some (V.ref w.la),some (V.ref w.lc),w8,w9,w10,w11]/\qar H H'/\∀j∈(qae (elN w.es) w.h).take i,∀z∈sw,bad w Bs (j,z)=false) ⟨_,_,_,_,rfl,qar.refl _,fun j hj=>by simp at hj⟩ ?_ ?_ ?_
 .rintro i σ H' _ ⟨w8,w9,w10,w11,_,sm,_⟩;exact SqL.of (sm _ _ exh)
 .rintro i x σ H' hx ⟨w8,w9,w10,w11,rfl,sm,hno⟩
  rw [zC] at hx
  obtain⟨a,ha,rfl⟩:=uU.mp hx
  have tka:(qae (elN w.es) w.h).take (i+1)=(qae (elN w.es) w.h).take i++ [a]:=by rw [zO,ha];rfl
  have hal:=lle a (zD ha)
  have han:a < w.es.length+1:=by omega
  obtain⟨ec,ecl,ecb,xc⟩:=hw.cs.at (k:=a) (by rw [ok.cl];exact han)
  have hlw':=sm _ _ hw.lw
  clear hx axh etop htp hla
  unfold iV
  generalize hai:((a:Nat):Int)=ai at*
  left
  refine r_sortL (SqL.of hlw') (by omega) fun l ss' hl2 hp2 hs2=>?_
  have ess:ss'=sw:=sort_eq (hp2.trans hp.symm) hs2 hs
  subst ess
  have s2:=qa7 hl2 (.lst (ss'.map V.str))
  have el2:upd H' l (.lst (ss'.map V.str)) l=some (.lst (ss'.map V.str)):=qa1
  generalize upd H' l (.lst (ss'.map V.str))=H2 at*
  have t2:=sm.trans s2
  clear hp2 hs2 hl2 hlw'
  left
  refine qct (xs:=ss'.map V.str) (fun c σ H3=>∃(w9 w10 w11:Option V),σ=[some (V.ref w.wt),some (V.ref ls),some (V.ref w.ln),some (V.ref w.lw),some (V.ref w.le),some (V.ref w.lr),some (V.ref w.la),some (V.ref w.lc),some (V.int ai),w9,w10,w11]/\qar H2 H3/\∀z∈ss'.take c,bad w Bs (a,z)=false) ⟨_,_,_,rfl,qar.refl _,fun z hz=>by simp at hz⟩ ?_ ?_ ?_
  .rintro c σ H3 _ ⟨w9,w10,w11,_,s3,_⟩;exact SqL.of (s3 _ _ el2)
  .rintro c x σ H3 hx ⟨w9,w10,w11,rfl,s3,hnc⟩
   rw [zC] at hx
   obtain⟨z,hz,rfl⟩:=uU.mp hx
   have tkz:ss'.take (c+1)=ss'.take c++ [z]:=by rw [zO,hz];rfl
   obtain⟨j,hj,rfl⟩:=zQ.mp (hp.mem_iff.mp (zD hz))
   have t3:=t2.trans s3
   have hw3:=hw.same t3
   have la3:=hw3.la
   have lw3:=hw3.lw
   rw [hhi] at la3
   have hap:j < w.aps.length:=by rw [ok.apl];exact hj
   have hcj:j <(csD w.cs a).length:=by rw [ecl];exact hj
   have x1:atI (w.aps.map V.int) ((j:Nat):Int)=some (.int w.aps[j]):=qav (by rw [zC,zA hap];rfl)
   have x2:atI ((csD w.cs a).map V.int) ((j:Nat):Int)=some (.int (csD w.cs a)[j]):=qav (by rw [zC,zA hcj];rfl)
   have x3:atI (w.nm.map V.str) ai=some (.str (nmF P a)):=by
    rw [<-hai,<-hPn]
    have e:a < P.nm.length:=by rw [hPn,ok.nms.len];exact han
    rw [qd9 e]
    exact qav (by rw [zC,zA e];rfl)
   have v1:gN (akF w) w.ws[j]=w.aps[j]:=tdF_gN ok.apl.symm ok.wsn.nd (fun p hp=>(ok.apn p hp).lo) hj hap
   have v2:capN w (a,w.ws[j])=(csD w.cs a)[j]:=tdF_gN ecl.symm ok.wsn.nd (fun p hp=>(ecb p hp).1) hj hcj
   have v3:sumZ w Bs (a,w.ws[j])=qdv (elN w.es) Bs a j:=sumZ_eq ok.wsn.nd hj fun R hr=>⟨(hB R hr).len,(hB R hr).nn⟩
   have ebad:bad w Bs (a,w.ws[j])=(decide (0 < w.aps[j]) && decide ((csD w.cs a)[j] < qdv (elN w.es) Bs a j+w.aps[j])):=by
    unfold bad
    rw [v2,v3]
    show (decide (0 < gN (akF w) w.ws[j]) && decide (_ < _+gN (akF w) w.ws[j]))=_
    rw [v1]
   generalize w.aps[j]=av at*
   generalize (csD w.cs a)[j]=cv at*
   clear hx v1 v2 v3
   left
   refine r_idxS (SqL.of hw3.lw) ok.wsn.nd hj ?_
   generalize hji:((j:Nat):Int)=ji at*
   left
   refine⟨ls,w.le,w.las,Bs,w.es,_,w.ws.length,a,j,by rw [hai,hji],t3 _ _ hl,b30,fun R hr=>(hB R hr).same t3,hw3.le,rfl,hj,fun H4 s4=>?_⟩
   generalize qdv (elN w.es) Bs a j=sv at*
   have hw4:=hw3.same s4
   have la4:=hw4.la
   rw [hhi] at la4
   have t4:=t3.trans s4
   clear la3
   left
   refine qb7 (SqL.of hw4.pa) x1 ?_
   left
   have nofin:bad w Bs (a,w.ws[j])=false->∀z∈ss'.take (c+1),bad w Bs (a,z)=false:=fun e z hz2=>by
    rw [tkz] at hz2
    rcases zR.mp hz2 with h|h
    .exact hnc z h
    .rw [zF.mp h];exact e
   refine i_2 (fun c1=>?_) (fun c1=>?_)
   .left
    refine qb7 (SqL.of hw4.pa) x1 ?_
    left
    refine qb7 (SqL.of hw4.lc) xc ?_
    left
    refine qb7 (SqL.of (t4 _ _ ec)) x2 ?_
    left
    refine i_2 (fun c2=>?_) (fun c2=>?_)
    .left
     refine qb7 (SqL.of hw4.ln) x3 ?_
     left
     rename_i pp hpp
     exact q (a,w.ws[j]) (find_pls ha hz hno hnc (by rw [ebad,gM c1,gM c2];rfl)) pp _ (t4.trans (qa7 hpp _)) (t4.free hpp) qa1
    .left
     exact⟨_,_,_,rfl,s3.trans s4,nofin (by rw [ebad,gO c2,Bool.and_false])⟩
   .left
    exact⟨_,_,_,rfl,s3.trans s4,nofin (by rw [ebad,gO c1,Bool.false_and])⟩
  .rintro σ H3 ⟨w9,w10,w11,rfl,s3,hnc⟩
   rw [zB,zS] at hnc
   left
   refine⟨_,_,_,_,rfl,t2.trans s3,fun j hj z hz=>?_⟩
   rw [tka] at hj
   rcases zR.mp hj with h|h
   .exact hno j h z hz
   .rw [zF.mp h];exact hnc z hz
 .rintro σ H' ⟨w8,w9,w10,w11,rfl,sm,hno⟩
  rw [zB,zS] at hno
  left
  exact qn (find_pls_no hno) _ sm
theorem pw_rising:∀{p:Str} {l:List Str},(p :: l).Pairwise leS->PyProof.Rows.risingS p l=true
 |p, [],_=>rfl
 |p,x :: r,h=>by
  have h1:=aK h (zN ..)
  unfold PyProof.Rows.risingS
  rw [vU,cM]
  exact⟨h1,pw_rising (List.Pairwise.of_cons h)⟩
theorem ins_ex (x:Str):∀{l:List Str},l.Pairwise leS->∃l':List Str,l'.Perm (x :: l)/\l'.Pairwise leS
 | [],_=>⟨[x],List.Perm.refl _,aZ _ _⟩
 |y :: r,h=>by
  by_cases c:leS x y
  .refine⟨x :: y :: r,List.Perm.refl _,cF.mpr ⟨fun z hz=>?_,h⟩⟩
   rcases zM.mp hz with rfl|hz
   .exact c
   .exact leS_trans c (aK h hz)
  .have c':leS y x:=qdb.mpr ((List.le_total _ _).resolve_left fun z=>c (qdb.mpr z))
   obtain⟨l',hp,hl⟩:=ins_ex x (List.Pairwise.of_cons h)
   refine⟨y :: l',(hp.cons y).trans (List.Perm.swap x y r),cF.mpr ⟨fun z hz=>?_,hl⟩⟩
   rcases zM.mp (hp.mem_iff.mp hz) with rfl|hz
   .exact c'
   .exact aK h hz
theorem sort_ex:∀ss:List Str,∃ss':List Str,ss'.Perm ss/\vK ss'=true:=fun ss=>by
 have:∃ss':List Str,ss'.Perm ss/\ss'.Pairwise leS:=by
  induction ss with
  |nil=>exact⟨[],List.Perm.refl _,cK⟩
  |cons x r ih=>
   obtain⟨r',hp,hr⟩:=ih
   obtain⟨l',hp',hl⟩:=ins_ex x hr
   exact⟨l',hp'.trans (hp.cons x),hl⟩
 obtain⟨l,hp,hl⟩:=this
 refine⟨l,hp,?_⟩
 cases l with
 |nil=>rfl
 |cons x r=>exact pw_rising hl
theorem deq_intB {K:uR} {H:Hp} {n:Nat} (x y:Int):DEq K H n (.int x) (.int y) (decide (x=y)):=by
 have w:=DEq.flat (K:=K) (H:=H) (n:=n) (x:=.int x) (y:=.int y) rfl rfl
 have e:eqV (.int x) (.int y)=decide (x=y):=by
  show (x==y)=decide (x=y)
  by_cases c:x=y
  .rw [gM c];exact beq_iff_eq.mpr c
  .rw [gO c];exact beq_eq_false_iff_ne.mpr c
 rw [e] at w
 exact w
theorem qg4 {K:uR} {H:Hp} {n:Nat} (x y:Str):DEq K H n (.str x) (.str y) (decide (x=y)):=by
 have w:=DEq.flat (K:=K) (H:=H) (n:=n) (x:=.str x) (y:=.str y) rfl rfl
 have e:eqV (.str x) (.str y)=decide (x=y):=by
  show (x==y)=decide (x=y)
  by_cases c:x=y
  .rw [gM c];exact beq_iff_eq.mpr c
  .rw [gO c];exact beq_eq_false_iff_ne.mpr c
 rw [e] at w
 exact w
structure Gx where
 p:Addr
 m:Addr
 n:Int
 z:Str
 k:List (Key × V)
 f:Str->Option Int
 a:Str
 b:Str
structure GxAt (H:Hp) (x:Gx):Prop where
 tup:H x.p=some (.tup [.int x.n,.str x.z,.ref x.m,.str x.a,.str x.b])
 dic:H x.m=some (.dK x.k)
 ad:AD x.k x.f
theorem GxAt.same {H H':Hp} {x:Gx} (h:GxAt H x) (s:qar H H'):GxAt H' x:=⟨s _ _ h.tup,s _ _ h.dic,h.ad⟩
theorem GxAt.put {H:Hp} {x:Gx} {l:Addr} {xs:List V} {o:HO} (h:GxAt H x) (e:H l=some (.lst xs)):GxAt (upd H l o) x:=⟨by rw [qa6 (fun z=>by have:=h.tup;rw [z,e] at this;cases this)];exact h.tup,by rw [qa6 (fun z=>by have:=h.dic;rw [z,e] at this;cases this)];exact h.dic,h.ad⟩
def gxV (l:List Gx):List V:=l.map fun x=> .ref x.p
noncomputable def gxEq (x y:Gx):Bool:=decide (x.n=y.n) && (decide (x.z=y.z) && (fEq x.f y.f && (decide (x.a=y.a) && decide (x.b=y.b))))
theorem ad_one {k:List (Key × V)} {f g:Str->Option Int} (h:AD k f) (h':AD k g):fEq f g=true:=by
 have e:f=g:=by
  funext z
  have h1:=h.get z
  rw [h'.get z] at h1
  cases hf:f z <;> cases hg:g z <;> rw [hf,hg] at h1 <;> first|rfl|(cases h1;rfl) |cases h1
 rw [e];exact fEq_self g
theorem deq_dd {K:uR} {H:Hp} {n:Nat} {a b:Addr} {k k':List (Key × V)} {f g:Str->Option Int} (ha:H a=some (.dK k)) (hb:H b=some (.dK k')) (hf:AD k f) (hg:AD k' g):DEq K H (n+1) (.ref a) (.ref b) (fEq f g):=by
 by_cases e:a=b
 .subst e
  rw [ha] at hb
  cases hb
  rw [ad_one hf hg]
  exact DEq.same
 .have w:=DEq.dd (K:=K) (n:=n) (.inl ha) (.inl hb) e hf.flat hg.flat
  rw [hf.iff hg] at w
  exact w
theorem deq_gx {K:uR} {H:Hp} {x y:Gx} (hx:GxAt H x) (hy:GxAt H y):DEq K H 2 (.ref x.p) (.ref y.p) (gxEq x y):=by
 by_cases e:x.p=y.p
 .have h1:=hx.tup
  rw [e,hy.tup] at h1
  have h1:=uW h1
  injection h1 with h1
  simp only [List.cons.injEq,V.int.injEq,V.str.injEq,V.ref.injEq,and_true] at h1
  obtain⟨h1,h2,h3,h4,h5⟩:=h1
  have hd:=hx.dic
  rw [<-h3,hy.dic] at hd
  have hd:=uW hd
  injection hd with hd
  have ea:=hx.ad
  rw [<-hd] at ea
  unfold gxEq
  rw [gM h1.symm,gM h2.symm,gM h4.symm,gM h5.symm,ad_one ea hy.ad,e]
  exact DEq.same
 .have z:=DEq.ts (K:=K) (H:=H) (n:=1) (e:=fun j=>if j=0 then decide (x.n=y.n) else if j=1 then decide (x.z=y.z) else if j=2 then fEq x.f y.f else if j=3 then decide (x.a=y.a) else decide (x.b=y.b)) (SqT.of hx.tup) (SqT.of hy.tup) e (fun j h1 h2=>by
   match j,h1 with
   |0,_=>exact deq_intB _ _
   |1,_=>exact qg4 _ _
   |2,_=>exact deq_dd hx.dic hy.dic hx.ad hy.ad
   |3,_=>exact qg4 _ _
   |4,_=>exact qg4 _ _)
  have e2:∀b1 b2 b3 b4 b5:Bool,((vC 5).all (fun j=>if j=0 then b1 else if j=1 then b2 else if j=2 then b3 else if j=3 then b4 else b5) && true)=(b1 && (b2 && (b3 && (b4 && b5)))):=by decide
  have z:DEq K H 2 (.ref x.p) (.ref y.p) ((vC 5).all (fun j=>if j=0 then decide (x.n=y.n) else if j=1 then decide (x.z=y.z) else if j=2 then fEq x.f y.f else if j=3 then decide (x.a=y.a) else decide (x.b=y.b)) && true):=z
  rw [e2] at z
  exact z
noncomputable def gsEq:List Gx->List Gx->Bool
 | [], []=>true
 |x :: l,y :: m=>gxEq x y && gsEq l m
 |_,_=>false
theorem gsEq_len {l m:List Gx} (h:l.length≠m.length):gsEq l m=false:=by
 induction l generalizing m with
 |nil=>cases m with
  |nil=>exact absurd rfl h
  |cons y m=>rfl
 |cons x l ih=>cases m with
  |nil=>rfl
  |cons y m=>show (gxEq x y && gsEq l m)=false;rw [ih (fun e=>h (by rw [zL,zL,e])),Bool.and_false]
theorem gsEq_all:∀{l m:List Gx},l.length=m.length->(vC l.length).all (fun j=>match l[j]?,m[j]? with|some x,some y=>gxEq x y|_,_=>true)=gsEq l m
 | [], [],_=>rfl
 | [],_ :: _,e=>by simp at e
 |_ :: _, [],e=>by simp at e
 |x :: l,y :: m,e=>by
  have ih:=gsEq_all (l:=l) (m:=m) (by simpa using e)
  show _=(gxEq x y && gsEq l m)
  rw [zL,List.range_succ_eq_map,yX,dI,<-ih]
  rfl
theorem gxV_at {l:List Gx} {j:Nat} (h1:j <(gxV l).length) (h:j < l.length):(gxV l)[j]=.ref l[j].p:=yP ..
theorem deq_gs {K:uR} {H:Hp} {a b:Addr} {l m:List Gx} (ha:H a=some (.lst (gxV l))) (hb:H b=some (.lst (gxV m))) (hl:∀x∈l,GxAt H x) (hm:∀x∈m,GxAt H x) (ne:a≠b):DEq K H 3 (.ref a) (.ref b) (gsEq l m):=by
 have l1:(gxV l).length=l.length:=by unfold gxV;rw [zB]
 have l2:(gxV m).length=m.length:=by unfold gxV;rw [zB]
 by_cases h:l.length=m.length
 .have z:=DEq.ls (K:=K) (H:=H) (n:=2) (e:=fun j=>match l[j]?,m[j]? with|some x,some y=>gxEq x y|_,_=>true) (SqL.of ha) (SqL.of hb) ne (by omega) (fun j h1 h2=>by
   have k1:j < l.length:=by omega
   have k2:j < m.length:=by omega
   rw [gxV_at h1 k1,gxV_at h2 k2,zA k1,zA k2]
   exact deq_gx (hl _ (zJ k1)) (hm _ (zJ k2)))
  rw [l1,gsEq_all h] at z
  exact z
 .rw [gsEq_len h]
  exact DEq.lsN (SqL.of ha) (SqL.of hb) ne (by omega)
theorem gxEq_comm (x y:Gx):gxEq x y=gxEq y x:=by
 unfold gxEq
 have e1:decide (x.n=y.n)=decide (y.n=x.n):=decide_eq_decide.mpr ⟨eK,eK⟩
 have e2:decide (x.z=y.z)=decide (y.z=x.z):=decide_eq_decide.mpr ⟨eK,eK⟩
 have e3:decide (x.a=y.a)=decide (y.a=x.a):=decide_eq_decide.mpr ⟨eK,eK⟩
 have e4:decide (x.b=y.b)=decide (y.b=x.b):=decide_eq_decide.mpr ⟨eK,eK⟩
 rw [e1,e2,e3,e4,fEq_comm]
theorem gsEq_comm:∀l m:List Gx,gsEq l m=gsEq m l
 | [], []=>rfl
 | [],_ :: _=>rfl
 |_ :: _, []=>rfl
 |x :: l,y :: m=>by show (gxEq x y && gsEq l m)=(gxEq y x && gsEq m l);rw [gxEq_comm,gsEq_comm]
def gxO (P:PL) (g:Gr):Gx:=⟨g.p,g.m,g.b.R.n,nmF P g.b.R.i,g.b.R.k,g.b.R.f,nmF P g.c.1,g.c.2⟩
theorem gxO_v (P:PL) (gs:List Gr):gxV (gs.map (gxO P))=grV gs:=by unfold gxV grV;rw [yV];rfl
theorem gxO_at {H:Hp} {P:PL} {g:Gr} (h:GrAt H P g) (ha:AD g.b.R.k g.b.R.f):GxAt H (gxO P g):=⟨h.tup,h.dic,ha⟩
theorem gsEq_o {P:PL} {l:List Gx}:∀{gs ks:List Gr},gs.map (fun g=>(g.b,g.c))=ks.map (fun g=>(g.b,g.c))->gsEq l (gs.map (gxO P))=gsEq l (ks.map (gxO P)):=by
 induction l with
 |nil=>
  intro gs ks e
  cases gs <;> cases ks <;> first|rfl|simp at e
 |cons x l ih=>
  intro gs ks e
  cases gs with
  |nil=>cases ks with
   |nil=>rfl
   |cons k ks=>simp at e
  |cons g gs=>cases ks with
   |nil=>simp at e
   |cons k ks=>
    rw [zV,zV] at e
    obtain⟨e1,e2⟩:=aP e
    obtain⟨eb,ec⟩:=cS e1
    show (gxEq x (gxO P g) && gsEq l (gs.map (gxO P)))=(gxEq x (gxO P k) && gsEq l (ks.map (gxO P)))
    rw [ih e2]
    unfold gxO gxEq
    dsimp only
    rw [eb,ec]
def w8f (K:uR) (d:Ad):Sp:=fun vs H Q _=>∃x:V,vs=[x]/\Q (.bl true) H
include T in
theorem w87:FnOk P w K mg base CX0 1 d.w3s d.w39 ["self"] (w8f K d):=by
 refine T.w94.ok w7x (fun vs H Q E h=>?_) (fun cdv A outer s H vs Q E hr h=>?_)
 .obtain⟨x,rfl,_⟩:=h;rfl
 obtain⟨x,rfl,q⟩:=h
 refine⟨_,(qa5 (qaj qfc)),?_⟩
 walk_at "d"
 refine qag (σ:=[some (x)]) rfl ?_
 left
 exact q
def w8b (K:uR) (d:Ad):Sp:=fun vs H Q _=>∃x:V,vs=[x]/\Q (.bl false) H
include T in
theorem w7v:FnOk P w K mg base CX0 1 d.w3o d.w3g ["self"] (w8b K d):=by
 refine T.w95.ok w8r (fun vs H Q E h=>?_) (fun cdv A outer s H vs Q E hr h=>?_)
 .obtain⟨x,rfl,_⟩:=h;rfl
 obtain⟨x,rfl,q⟩:=h
 refine⟨_,(qa5 (qaj qfc)),?_⟩
 walk_at "d"
 refine qag (σ:=[some (x)]) rfl ?_
 left
 exact q
def wao (K:uR) (d:Ad):Sp:=fun vs H Q _=>∃(b:Ob) (P:PL),vs=[.ref b.o]/\ObAt d H P b/\∀p m H',qar H H'->H p=none->H m=none->H' p=some (.tup [.int b.R.n,.str (nmF P b.R.i),.ref m,.int b.R.r,tV b.t,.bl b.R.s])->H' m=some (.dK b.R.k)->Q (.ref p) H'
include T in
theorem w7b:FnOk P w K mg base CX0 2 d.w4h d.w59 ["self"] (wao K d):=by
 refine T.wc9.ok wb2 (fun vs H Q E h=>?_) (fun cdv A outer s H vs Q E hr h=>?_)
 .obtain⟨b,P,rfl,_⟩:=h;rfl
 obtain⟨b,P,rfl,hb,q⟩:=h
 refine⟨_,(qa5 (qaj (qdl (qa0 (qb4 (pv 0) rfl) (qa0 (qb4 (pv 0) rfl) (qa0 (qbe qcu rfl T.w9h wV (qa0 (qb4 (pv 0) rfl) qa2)) (qa0 (qb4 (pv 0) rfl) (qa0 (qb4 (pv 0) rfl) (qa0 (pe_alt (qei (pv 0) T.w4b T.w18 ((w87 T).mono (by decide)) hr T.w96 .nil qah) (qei (pv 0) T.w3x T.w1b ((w7v T).mono (by decide)) hr T.w9d .nil qah)) qa2))))))))),?_⟩
 walk_at "d"
 refine qag (σ:=[some (.ref b.o)]) rfl ?_
 obtain⟨dx,hbo⟩:=hb.obj
 obtain⟨cl,n1,n2,n3,n4,n5⟩:=clsOk T b.R.s
 have hRm:Rd H b.m (.dK b.R.k):=.inl hb.amt
 cases hs:b.R.s with
 |true=>
  rw [hs,show qf5 d true=d.w0a from rfl] at hbo cl n1 n2 n3 n4 n5
  rw [hs] at q
  unfold fsB at hbo
  left
  rename_i m hm
  refine r_alt1 ?_
  left
  refine⟨_,rfl,?_⟩
  left
  rename_i p hp
  exact q p m _ (qeg (qa7 hm _) hp) (by have:=qa7 hm (.dK b.R.k);exact this.free hp) hm qa1 (qad qa1 hp)
 |false=>
  rw [hs,show qf5 d false=d.w09 from rfl] at hbo cl n1 n2 n3 n4 n5
  rw [hs] at q
  unfold fsB at hbo
  left
  rename_i m hm
  refine r_alt2 ?_
  left
  refine⟨_,rfl,?_⟩
  left
  rename_i p hp
  exact q p m _ (qeg (qa7 hm _) hp) (by have:=qa7 hm (.dK b.R.k);exact this.free hp) hm qa1 (qad qa1 hp)
theorem eq_tV {K:uR} {H:Hp} {n:Nat} (t:Option Int):DEq K H n (tV t) (tV t) true:=by
 cases t with
 |none=>exact DEq.flat (x:=.non) (y:=.non) rfl rfl
 |some i=>
  have w:=DEq.flat (K:=K) (H:=H) (n:=n) (x:=.int i) (y:=.int i) rfl rfl
  have e:eqV (.int i) (.int i)=true:=by simp [eqV]
  rw [e] at w
  exact w
theorem deq_int {K:uR} {H:Hp} {n:Nat} (i:Int):DEq K H n (.int i) (.int i) true:=eq_tV (some i)
theorem deq_tup {K:uR} {H:Hp} {n:Nat} {a b:Addr} {xs ys:List V} (ha:SqT K H a xs) (hb:SqT K H b ys) (ne:a≠b) (h:DEqs K H n xs ys):DEq K H (n+1) (.ref a) (.ref b) true:=by
 have z:=DEq.ts (n:=n) (e:=fun _=>true) ha hb ne h.get
 have e:((vC (min xs.length ys.length)).all (fun _=>true) && xs.length==ys.length)=true:=by rw [h.len];simp
 rw [e] at z
 exact z
theorem flat_ints (L:List Int):((L.map V.int).all fun v=>qcs v)=true:=by
 rw [dI]
 exact yD.mpr fun _ _=>rfl
theorem inV_int (x:Int):∀L:List Int,inV (.int x) (L.map V.int)=decide (x∈L)
 | []=>rfl
 |y :: L=>by
  have ih:=inV_int x L
  unfold inV at ih ⊢
  rw [zV,yW,ih]
  by_cases c:y=x
  .subst c
   rw [show eqV (V.int y) (V.int y)=true from beq_self_eq_true _,gM (zN ..)]
   rfl
  .rw [show eqV (V.int y) (V.int x)=false from beq_false_of_ne c,eU]
   by_cases m:x∈L
   .rw [gM m,gM (zH _ m)]
   .rw [gO m,gO fun h=>(zM.mp h).elim (fun e=>c e.symm) m]
theorem r_notInI {K:uR} {H:Hp} {Q:VK} {p:Addr} {x:Int} {L:List Int} (h:SqL K H p (L.map V.int)) (q:Q (.bl (!decide (x∈L))) H):rIn K true (.int x) (.ref p) H Q:=⟨p,_,rfl,.inl h,rfl,flat_ints L,by rw [inV_int];exact q⟩
theorem rows_at {bs:List Ob} {Rs:List Rw} {ws:List Str} (h:bs.map (·.R)=Rs.map (rrOf ws)) {i:Nat} {b:Ob} {R:Rw} (hb:bs[i]?=some b) (hR:Rs[i]?=some R):b.R=rrOf ws R:=by
 have z:=congrArg (fun l=>l[i]?) h
 simp only [zC,hb,hR] at z
 exact uW z
def wdf (K:uR) (d:Ad):Sp:=fun vs H Q _=>∃(w:Wd) (lh:Addr) (P:PL) (bs:List Ob),vs=[.ref lh,.ref w.wt]/\WAt H w/\WOk w/\P.nm=w.nm/\H lh=some (.lst (bsV bs))/\(∀b∈bs,ObAt d H P b)/\bs.map (·.R)=w.Rs.map (rrOf w.ws)/\(∀b∈bs,b.t=tuO b.R.n b.R.r)/\∀H',qar H H'->Q (.bl true) H'
include T in
theorem wdj:FnOk P w K mg base CX0 4 d.w88 d.w74 ["_law_objects_here","_law_world_here"] (wdf K d):=by
 refine T.wbc.ok w16 (fun vs H Q E h=>?_) (fun cdv A outer s H vs Q E hr h=>?_)
 .obtain⟨w,lh,P,bs,rfl,_⟩:=h;rfl
 obtain⟨w,lh,P,bs,rfl,hw,ok,hPn,hL,hB,hbs,hU,q⟩:=h
 refine⟨_,(qa3 (qdj (pv 1) (qci rfl (qac (qab (i:=2) w16.nd rfl (uI rfl)) (qac (qab (i:=3) w16.nd rfl (uI rfl)) (qac (qab (i:=4) w16.nd rfl (uI rfl)) (qac (qab (i:=5) w16.nd rfl (uI rfl)) (qac (qab (i:=6) w16.nd rfl (uI rfl)) (qac (qab (i:=7) w16.nd rfl (uI rfl)) qbu))))))))
  (qa3 (qbg (qan op_ne (qai qaw rfl T.w2v vH (qa0 (pv 0) qa2)) (qai qaw rfl T.w2v vH (qa0 (pv 5) qa2)) (qat _)) (qa5 (qaj qfc)) qas)
  (qa3 (qb8 vA rfl (pi_zip rfl T.wh6 (qa0 (pv 0) (qa0 (pv 5) qa2))) (qci rfl (qac (qab (i:=8) w16.nd rfl (uI rfl)) (qac (qab (i:=9) w16.nd rfl (uI rfl)) qbu))) (qa3 (qaf (i:=10) w16.nd rfl (uI rfl) (qak qal (qbl (qa0 qcp (qa0 (qam qb0 qa4 (qak qap (pv 9) qa4 (fun _ _=>rfl))) qa2))) (qam qc5 (qak qap (pv 9) qa4 (fun _ _=>rfl)) qa4) (fun _ _=>rfl)))
  (qa5 (qbg (qan (op_neD (hu8 hr)) (pe_alt (qei (pv 8) T.w4b T.w2d ((w7b T).mono (by decide)) hr T.w8c .nil qah) (qei (pv 8) T.w3x T.w2f ((w7b T).mono (by decide)) hr T.w8c .nil qah)) (qdl (qa0 (qak qap (pv 9) qa4 (fun _ _=>rfl)) (qa0 (qak qal (pv 2) (qak qap (pv 9) qa4 (fun _ _=>rfl)) (fun _ _=>rfl)) (qa0 (qa9 ((w3t T).mono (by decide)) hr rfl T.w5w T.w5g.kp T.w5t .nil qah (qa0 (pv 3) (qa0 (qak qap (pv 9) qa4 (fun _ _=>rfl)) qa2))) (qa0 (qak qap (pv 9) qa4 (fun _ _=>rfl)) (qa0 (pv 10) (qa0 (qak qap (pv 9) qa4 (fun _ _=>rfl)) qa2))))))) (qat _)) (qa5 (qaj qfc)) qas))))
  (qa5 (qaj qfc))))),?_⟩
 walk_at "d"
 refine qag (σ:=[some (.ref lh),some (.ref w.wt),none,none,none,none,none,none,none,none,none]) rfl ?_
 have htp:=hw.tup
 have hlr:=hw.lr
 have hbl:(bsV bs).length=(rwV w.Rs).length:=by
  have:=congrArg xA hbs
  rw [zB,zB] at this
  unfold bsV rwV
  rw [zB,zB];exact this
 left
 refine r_itZ (SqL.of hL) (SqL.of hlr) ?_
 refine f_zip hbl (fun i σ H'=>∃w1 w2 w3:Option V,σ=[some (V.ref lh),some (V.ref w.wt),some (V.ref w.ln),some (V.ref w.lw),some (V.ref w.le),some (V.ref w.lr),some (V.ref w.la),some (V.ref w.lc),w1,w2,w3]/\qar H H') ⟨_,_,_,rfl,qar.refl _⟩ ?_ ?_ ?_
 .rintro i σ H' ⟨w1,w2,w3,rfl,sm⟩
  exact⟨SqL.of (sm _ _ hL),SqL.of (sm _ _ hlr)⟩
 .rintro i x y Tt σ H' hx hy ⟨w1,w2,w3,rfl,sm⟩ hTt
  unfold bsV at hx
  unfold rwV at hy
  rw [zC] at hx hy
  obtain⟨b,hb,rfl⟩:=uU.mp hx
  obtain⟨R,hr,rfl⟩:=uU.mp hy
  have eR:=rows_at hbs hb hr
  have hbm:=zD hb
  have hrm:=zD hr
  have et:=hU b hbm
  have s2:=qa7 hTt (.tup [.ref b.o,.ref R.p])
  have tT:upd H' Tt (.tup [.ref b.o,.ref R.p]) Tt=some (.tup [.ref b.o,.ref R.p]):=qa1
  generalize upd H' Tt (.tup [.ref b.o,.ref R.p])=H2 at*
  have t2:=sm.trans s2
  have hw2:=hw.same t2
  have hb2:=(hB b hbm).same t2
  have hR2:=hw2.rs R hrm
  have hrow:=hR2.row
  have xn:atI (w.nm.map V.str) ((R.i:Nat):Int)=some (.str (nmF P R.i)):=by
   rw [<-hPn]
   have e:R.i < P.nm.length:=by rw [hPn,ok.nms.len];exact hR2.il
   rw [qd9 e]
   exact qav (by rw [zC,zA e];rfl)
  generalize hri:((R.i:Nat):Int)=ri at*
  clear hx hy hb hr hTt
  left
  rename_i pm hpm
  have ht:atI [V.non,V.int (1+R.r)] (R.n%2)=some (tV (tuO R.n R.r)):=by
   have m0:=vZ R.n (show (2:Int)≠0 by decide)
   have m1:=vX R.n (show (0:Int) < 2 by decide)
   have hc:R.n%2=0\/R.n%2=1:=by omega
   unfold tuO
   rcases hc with c|c
   .rw [c];exact qav (j:=0) rfl
   .rw [c];exact qav (j:=1) rfl
  refine qb7 (SqL.of qa1) ht ?_
  have s3:=qa7 hpm (.lst [V.non,V.int (1+R.r)])
  generalize upd H2 pm (.lst [V.non,V.int (1+R.r)])=H3 at*
  have t3:=t2.trans s3
  have hw3:=hw.same t3
  have hb3:=hb2.same s3
  have hrow3:=s3 _ _ hrow
  clear ht hrow tT hw2 hb2 hR2 hpm
  obtain⟨dxb,hbo⟩:=hb3.obj
  have fin:∀(p m am pq:Addr) (H4 H5:Hp),qar H3 H4->H4 p=some (.tup [.int b.R.n,.str (nmF P b.R.i),.ref m,.int b.R.r,tV b.t,.bl b.R.s])->H4 m=some (.dK b.R.k)->qar H4 H5->H4 am=none->H5 am=some (.dK (tdK (w.ws.zip R.ps)))->H5 pq=none->p≠pq/\DEq K (upd H5 pq (.tup [.int R.n,.str (nmF P R.i),.ref am,.int R.r,tV (tuO R.n R.r),.bl R.s])) 2 (.ref p) (.ref pq) true:=fun p m am pq H4 H5 s4 ep em s5 ham eam hpq=>by
   have ne:=qa8 (s5 _ _ ep) hpq
   have nm:m≠am:=qa8 em ham
   refine⟨ne,?_⟩
   rw [et,eR] at ep
   rw [eR] at em
   have em:H4 m=some (.dK (tdK (w.ws.zip R.ps))):=em
   have dd:=DEq.dd (K:=K) (n:=0) (.inl (qad (o':=.tup [.int R.n,.str (nmF P R.i),.ref am,.int R.r,tV (tuO R.n R.r),.bl R.s]) (s5 _ _ em) hpq)) (.inl (qad eam hpq)) nm (qdu _).flat (qdu _).flat
   rw [(qdu _).eq (qdu _)] at dd
   exact deq_tup (n:=1) (SqT.of (qad (s5 _ _ ep) hpq)) (SqT.of qa1) ne ⟨deq_int _,deq_str _,dd,deq_int _,eq_tV _,deq_bl _,trivial⟩
  left
  cases hs:b.R.s with
  |true=>
   rw [hs,show qf5 d true=d.w0a from rfl] at hbo
   refine r_alt1 ?_
   left
   refine⟨b,P,rfl,hb3,fun p m H4 s4 hp hm ep em=>?_⟩
   have hw4:=hw3.same s4
   have hrow4:=s4 _ _ hrow3
   left
   refine qb7 (SqL.of hw4.ln) xn ?_
   left
   refine⟨w.lw,R.e,w.ws,R.ps,rfl,SqL.of hw4.lw,SqL.of (hw4.rs R hrm).par,(hw4.rs R hrm).len.symm,by have:=ok.w6;omega,fun am H5 s5 ham eam=>?_⟩
   have hrow5:=s5 _ _ hrow4
   left
   rename_i pq hpq
   obtain⟨ne,dq⟩:=fin p m am pq H4 H5 s4 ep em s5 ham eam hpq
   refine r_neD ne (by decide) dq ?_
   refine⟨_,rfl,?_⟩
   left
   exact⟨_,_,_,rfl,((t3.trans s4).trans s5).trans (qa7 hpq _)⟩
  |false=>
   rw [hs,show qf5 d false=d.w09 from rfl] at hbo
   refine r_alt2 ?_
   left
   refine⟨b,P,rfl,hb3,fun p m H4 s4 hp hm ep em=>?_⟩
   have hw4:=hw3.same s4
   have hrow4:=s4 _ _ hrow3
   left
   refine qb7 (SqL.of hw4.ln) xn ?_
   left
   refine⟨w.lw,R.e,w.ws,R.ps,rfl,SqL.of hw4.lw,SqL.of (hw4.rs R hrm).par,(hw4.rs R hrm).len.symm,by have:=ok.w6;omega,fun am H5 s5 ham eam=>?_⟩
   have hrow5:=s5 _ _ hrow4
   left
   rename_i pq hpq
   obtain⟨ne,dq⟩:=fin p m am pq H4 H5 s4 ep em s5 ham eam hpq
   refine r_neD ne (by decide) dq ?_
   refine⟨_,rfl,?_⟩
   left
   exact⟨_,_,_,rfl,((t3.trans s4).trans s5).trans (qa7 hpq _)⟩
 .rintro σ H' ⟨w1,w2,w3,rfl,sm⟩
  left
  exact q _ sm
theorem peq_rw {K:uR} {H:Hp} {n m:Nat} {A B:Rw} (ha:RwAt H n m A) (hb:RwAt H n m B):∃k,PEq K H 2 (.ref A.p) (.ref B.p) k:=by
 by_cases e:A.p=B.p
 .rw [e];exact⟨_,.same⟩
 have hl:∃k,PEq K H 1 (.ref A.e) (.ref B.e) k:=by
  by_cases e2:A.e=B.e
  .rw [e2];exact⟨_,.same⟩
  by_cases e3:(A.ps.map V.int).length=(B.ps.map V.int).length
  .refine⟨_,PEq.ls (n:=0) (e:=fun j=>match (A.ps.map V.int)[j]?,(B.ps.map V.int)[j]? with|some x,some y=>eqV x y|_,_=>true) (SqL.of ha.par) (SqL.of hb.par) e2 e3 fun j h1 h2=>?_⟩
   rw [zA h1,zA h2]
   rw [yP,yP]
   exact PEq.flat rfl rfl
  .exact⟨_,PEq.lsN (SqL.of ha.par) (SqL.of hb.par) e2 e3⟩
 obtain⟨k,hk⟩:=hl
 refine⟨_,PEq.ts (n:=1) (e:=fun j=>if j=0 then eqV (.int A.n) (.int B.n) else if j=1 then eqV (.int ((A.i:Nat):Int)) (.int ((B.i:Nat):Int)) else if j=2 then k else if j=3 then eqV (.int A.r) (.int B.r) else eqV (.bl A.s) (.bl B.s)) (SqT.of ha.row) (SqT.of hb.row) e fun j h1 h2=>?_⟩
 match j,h1 with
 |0,_=>exact PEq.flat rfl rfl
 |1,_=>exact PEq.flat rfl rfl
 |2,_=>exact hk
 |3,_=>exact PEq.flat rfl rfl
 |4,_=>exact PEq.flat rfl rfl
theorem r_inP {K:uR} {H:Hp} {Q:VK} {p:Addr} {Rs:List Rw} {R:Rw} {n m:Nat} (h:SqL K H p (rwV Rs)) (hR:RwAt H n m R) (hRs:∀X∈Rs,RwAt H n m X) (q:∀b,Q (.bl b) H):rInP K (.ref R.p) (.ref p) H Q:=⟨p,_,rfl,h,fun v hv=>by
 obtain⟨X,hX,rfl⟩:=zK.mp hv
 obtain⟨k,hk⟩:=peq_rw (K:=K) (hRs X hX) hR
 exact⟨2,k,by decide,hk⟩,q⟩
theorem qcl (l:List Rw) (R:Rw):rwV (l++ [R])=rwV l++ [.ref R.p]:=by unfold rwV;rw [zE];rfl
theorem rw_len (l:List Rw):(rwV l).length=l.length:=by unfold rwV;rw [zB]
def Sub (w:Wd) (l:List Rw) (i:Nat):Prop:=l.length<=i/\∀R∈l,R∈w.Rs
theorem Sub.nil {w:Wd}:Sub w [] 0:=⟨uF _,fun R h=>by simp at h⟩
theorem Sub.up {w:Wd} {l:List Rw} {i:Nat} (h:Sub w l i):Sub w l (i+1):=⟨Nat.le_succ_of_le h.1,h.2⟩
theorem Sub.snoc {w:Wd} {l:List Rw} {i:Nat} {R:Rw} (h:Sub w l i) (hR:R∈w.Rs):Sub w (l++ [R]) (i+1):=⟨by rw [zG,zT];have:=h.1;omega,fun X hX=>by
 rcases zR.mp hX with h1|h1
 .exact h.2 X h1
 .rw [zF.mp h1];exact hR⟩
def wdi (K:uR) (d:Ad):Sp:=fun vs H Q _=>∃(w:Wd) (lo:Addr) (P:PL) (Os:List Rw) (sw:List Str),vs=[.ref w.wt,.ref lo]/\WAt H w/\WOk w/\P.nm=w.nm/\sw.Perm w.ws/\vK sw=true/\H lo=some (.lst (rwV Os))/\Sub w Os 30/\∀(l:Addr) (g:List Int) H',qar H H'->H l=none->H' l=some (.lst (g.map V.int))->g.length<=30->Q (.ref l) H'
include T in
theorem w5n:FnOk P w K mg base CX0 5 d.w8x d.w6r ["_law_world_here","_law_order"] (wdi K d):=by
 refine T.w4y.ok w0z (fun vs H Q E h=>?_) (fun cdv A outer s H vs Q E hr h=>?_)
 .obtain⟨w,lo,P,Os,sw,rfl,_⟩:=h;rfl
 obtain⟨w,lo,P,Os,sw,rfl,hw,ok,enm,psw,qsw,hlo,hOs,q⟩:=h
 refine⟨_,(qa3 (qdj (pv 0) (qci rfl (qac (qab (i:=2) w0z.nd rfl (uI rfl)) (qac (qab (i:=3) w0z.nd rfl (uI rfl)) (qac (qab (i:=4) w0z.nd rfl (uI rfl)) (qac (qab (i:=5) w0z.nd rfl (uI rfl)) (qac (qab (i:=6) w0z.nd rfl (aM rfl)) (qac (qab (i:=7) w0z.nd rfl (uI rfl)) qbu))))))))
  (qa3 (qcy (j:=8) (caps:=[1,6]) (cn:=["_law_order","_law_ask"]) (qb2 rfl rfl (by rfl) (by rfl) rfl ⟨rfl,⟨rfl,trivial⟩⟩ (by rfl) rfl ⟨⟨rfl,rfl,rfl,rfl,_,rfl⟩,⟨⟨rfl,rfl,rfl,rfl,_,rfl⟩,trivial⟩⟩ (by decide)) rfl w0z.nd rfl rfl (qau (pv 5)) (fun _ _ _ _=>(qc8 (PW.pt (pw_and (qcb (qbk (qa9 ((w65 T).mono (by decide)) hr rfl T.w8n T.w7d.kp T.w8a .nil qah (qa0 (pv 0) (qa0 (pv 2) qa2))))) (pw_and1 (qan (op_notInP (hu8 hr)) (pv 0) (pv 1) (by rfl))))))) (fun _ _ _ _=>(pv 0)))
  (qa3 (qaf (i:=9) w0z.nd rfl (uI rfl) (qbl qa2))
  (qa3 (qb8 vA rfl (qau (pv 1)) (qab (i:=10) w0z.nd rfl (uI rfl)) (qa5 (qd6 (qbg (qan op_isNN (qa9 ((wd7 T).mono (by decide)) hr rfl T.wel T.wct.kp T.wed .nil qah (qa0 (pv 0) (qa0 (qam op_cat (pv 8) (qbl (qa0 (pv 10) qa2))) qa2))) qcp (qat _)) (qa5 (qb3 (qdh vB vE vF qb1 (pv 8) (qa0 (pv 10) qa2)))) (qa5 (qb3 (qdh vB vE vF qb1 (pv 9) (qa0 (qak qap (pv 10) qa4 (fun _ _=>rfl)) qa2))))))))
  (qa5 (qaj (pv 9))))))),?_⟩
 walk_at "d"
 try dsimp only [cxC]
 refine qag (σ:=[some (.ref w.wt),some (.ref lo),none,none,none,none,none,none,none,none,none]) rfl ?_
 have htp:=hw.tup
 have hlr:=hw.lr
 have r30:=ok.r30
 left
 intro C s0 H0 fp lk hlk
 refine qek w.Rs.length (fun i H2=>∃l:List Rw,qar H H2/\H2 lk=some (.lst (rwV l))/\Sub w l i) ⟨[],qa7 hlk _,qa1,Sub.nil⟩ ?_ ?_ ?_ ?_
 .rintro i H2 hi ⟨l,s2,_⟩
  exact⟨_,.ref w.Rs[i].p,SqL.of (s2 _ _ hlr),by unfold rwV;rw [zC,zA hi];rfl⟩
 .rintro H2 ⟨l,s2,_⟩
  exact⟨_,SqL.of (s2 _ _ hlr),by unfold rwV;rw [zB];exact uF _⟩
 .rintro i H2 v H3 hi ⟨l,s2,ea,hl⟩ ⟨rfl,hv⟩
  have hv:=hv _ (SqL.of (s2 _ _ hlr))
  unfold rwV at hv
  rw [zC,zA hi] at hv
  cases hv
  have hRm:=zJ hi
  have hRi:=(hw.rs _ hRm).same s2
  generalize w.Rs[i]=R at*
  have hw2:=hw.same s2
  have hla2:=hw2.la
  have zl:(rwV l).length < sizeLine:=by rw [rw_len];have:=hl.1;show _ < 16777216;omega
  generalize hhi:((w.h:Nat):Int)=hh at*
  clear hv htp
  left
  refine⟨w.la,_,_,R,_,w.pa,w.rk,w.su,rfl,hRi,hla2,?_⟩
  refine⟨_,rfl,?_⟩
  cases c1:qdi w.rk w.su R with
  |true=>
   left
   exact⟨l,s2,ea,hl.up⟩
  |false=>
   left
   refine r_inP (SqL.of (s2 _ _ hlo)) hRi (fun X hX=>hw2.rs X (hOs.2 X hX)) fun b=>?_
   cases b with
   |false=>
    left
    exact⟨l,s2,ea,hl.up⟩
   |true=>
    left
    exact⟨l++ [R],qaq s2 hlk,by rw [qa1,qcl],hl.snoc hRm⟩
 rintro H2 ⟨l,s2,elk,hl⟩
 have hl:Sub w l 30:=⟨vN hl.1 r30,hl.2⟩
 left
 rename_i lg hlg
 have s3:=s2.trans (qa7 hlg (.lst []))
 have elk3:=qad (o':=.lst []) elk hlg
 have elg:upd H2 lg (.lst []) lg=some (.lst (([]:List Int).map V.int)):=qa1
 have hkg:lk≠lg:=qa8 elk hlg
 have hg0:=s2.free hlg
 have hk0:=hlk
 have hlo3:=s3 _ _ hlo
 generalize upd H2 lg (.lst [])=H3 at*
 clear elk hlg s2
 left
 refine qct (xs:=rwV Os) (fun i σ H'=>∃(l:List Rw) (g:List Int) (w1:Option V),σ=[some (V.ref w.wt),some (V.ref lo),some (V.ref w.ln),some (V.ref w.lw),some (V.ref w.le),some (V.ref w.lr),some (V.ref w.la),some (V.ref w.lc),some (V.ref lk),some (V.ref lg),w1]/\qar H H'/\H' lk=some (.lst (rwV l))/\H' lg=some (.lst (g.map V.int))/\Sub w l (30+i)/\g.length<=i) ⟨l, [],_,rfl,s3,elk3,elg,hl,uF _⟩ ?_ ?_ ?_
 .rintro i σ H' _ ⟨l,g,w1,_,sm,_⟩;exact SqL.of (sm _ _ hlo)
 .rintro i x σ H' hx ⟨l,g,w1,rfl,sm,ek,eg,hl,hg⟩
  unfold rwV at hx
  rw [zC] at hx
  obtain⟨R,hr,rfl⟩:=uU.mp hx
  have hi:i < Os.length:=(uH.mp hr).1
  have hi30:=hOs.1
  have hRm:=hOs.2 R (zD hr)
  have hw1:=hw.same sm
  have zl:(rwV l).length < sizeLine:=by rw [rw_len];have:=hl.1;show _ < 16777216;omega
  have zg:(g.map V.int).length < sizeLine:=by rw [zB];show _ < 16777216;omega
  have hrow:=(hw1.rs R hRm).row
  clear hx hr
  left
  refine r_cut (fun σ' H'=>∃(l:List Rw) (g:List Int) (w1:Option V),σ'=[some (V.ref w.wt),some (V.ref lo),some (V.ref w.ln),some (V.ref w.lw),some (V.ref w.le),some (V.ref w.lr),some (V.ref w.la),some (V.ref w.lc),some (V.ref lk),some (V.ref lg),w1]/\qar H H'/\H' lk=some (.lst (rwV l))/\H' lg=some (.lst (g.map V.int))/\Sub w l (30+(i+1))/\g.length<=i+1) ?_ (fun σ' H' h=>h)
  left
  rename_i pq hpq
  refine r_cat (qad ek hpq) qa1 (by rw [rw_len];have:=hl.1;show _+1<=16777216;omega) fun pc hpc=>?_
  have u1:=(qa7 hpq (.lst [V.ref R.p])).trans (qa7 hpc (.lst (rwV l++ [V.ref R.p])))
  have epc:upd (upd H' pq (.lst [V.ref R.p])) pc (.lst (rwV l++ [V.ref R.p])) pc=some (.lst (rwV (l++ [R]))):=by rw [qa1,qcl]
  generalize upd (upd H' pq (.lst [V.ref R.p])) pc (.lst (rwV l++ [V.ref R.p]))=H4 at*
  have hw4:=hw1.same u1
  have hl2:=hl.snoc hRm
  left
  have ends:∀H5,qar H4 H5->qar H' H5:=fun H5 s5=>u1.trans s5
  refine⟨w,pc,P,l++ [R],sw,rfl,hw4,ok,enm,epc,fun X hX=>hw4.rs X (hl2.2 X hX),by have:=hl2.1;omega,psw,qsw,fun hn H5 s5=>?_,fun p hp pl H5 s5 npl epl=>?_⟩
  .have t5:=ends H5 s5
   have ek5:=t5 _ _ ek
   have eg5:=t5 _ _ eg
   clear hpq hpc epc hw4 hrow
   left
   refine⟨l++ [R],g,_,rfl,qaq (sm.trans t5) hk0,by rw [qa1,qcl],by rw [qa6 (fun z=>hkg z.symm)];exact eg5,hl2,by omega⟩
  .have t5:=ends H5 s5
   have ek5:=t5 _ _ ek
   have eg5:=t5 _ _ eg
   have hrow5:=t5 _ _ hrow
   clear hpq hpc epc hw4 hrow
   generalize hri:((R.i:Nat):Int)=ri at*
   left
   refine⟨l,g++ [R.n],_,rfl,qaq (sm.trans t5) hg0,by rw [qa6 hkg];exact ek5,by rw [qa1,zE];rfl,hl.up,by rw [zG,zT];omega⟩
 .rintro σ H' ⟨l,g,w1,rfl,sm,ek,eg,hl,hg⟩
  rw [rw_len] at hg
  left
  exact q lg g H' sm hg0 eg (vN hg hOs.1)
theorem qg5 {α:Type} (f:α->V) (L:List α) (lo hi:Option Int):∃m:List α,cutV (L.map f) lo hi=m.map f/\m.length<=L.length/\∀x∈m,x∈L:=by
 unfold cutV
 refine⟨(L.drop (HT.sIx (L.map f).length 0 lo)).take (HT.sIx (L.map f).length (L.map f).length hi - HT.sIx (L.map f).length 0 lo),by rw [List.map_take,List.map_drop],?_,fun x hx=>List.mem_of_mem_drop (yL hx)⟩
 rw [zU,List.length_drop];omega
theorem r_inI {K:uR} {H:Hp} {Q:VK} {p:Addr} {x:Int} {L:List Int} (h:SqL K H p (L.map V.int)) (q:Q (.bl (decide (x∈L))) H):rIn K false (.int x) (.ref p) H Q:=⟨p,_,rfl,.inl h,rfl,flat_ints L,by rw [inV_int];exact q⟩
def wcm (K:uR) (d:Ad):Sp:=fun vs H Q _=>∃(w:Wd) (c:Int) (P:PL) (sw:List Str),vs=[.ref w.wt,.int c]/\WAt H w/\WOk w/\P.nm=w.nm/\sw.Perm w.ws/\vK sw=true/\∀(l:Addr) (g:List Int) H',qar H H'->H' l=some (.lst (g.map V.int))->g.length<=30->Q (.ref l) H'
include T in
theorem wc6:FnOk P w K mg base CX0 6 d.w6y d.w64 ["_law_world_here","_law_cell_here"] (wcm K d):=by
 refine T.w9m.ok w0s (fun vs H Q E h=>?_) (fun cdv A outer s H vs Q E hr h=>?_)
 .obtain⟨w,c,P,sw,rfl,_⟩:=h;rfl
 obtain⟨w,c,P,sw,rfl,hw,ok,enm,psw,qsw,q⟩:=h
 refine⟨_,(qa3 (qdj (pv 0) (qci rfl (qac (qab (i:=2) w0s.nd rfl (uI rfl)) (qac (qab (i:=3) w0s.nd rfl (uI rfl)) (qac (qab (i:=4) w0s.nd rfl (uI rfl)) (qac (qab (i:=5) w0s.nd rfl (uI rfl)) (qac (qab (i:=6) w0s.nd rfl (aM rfl)) (qac (qab (i:=7) w0s.nd rfl (uI rfl)) qbu))))))))
  (qa3 (qcy (j:=8) (caps:=[6]) (cn:=["_law_ask"]) (qb2 rfl rfl (by rfl) (by rfl) rfl ⟨rfl,trivial⟩ (by rfl) rfl ⟨⟨rfl,rfl,rfl,rfl,_,rfl⟩,trivial⟩ (by decide)) rfl w0s.nd rfl rfl (qau (pv 5)) (fun _ _ _ _=>(qc8 (qcb (qbk (qa9 ((w65 T).mono (by decide)) hr rfl T.w8n T.w7d.kp T.w8a .nil qah (qa0 (pv 0) (qa0 (pv 1) qa2))))))) (fun _ _ _ _=>(qak qap (pv 0) qa4 (fun _ _=>rfl))))
  (qa3 (qaf (i:=9) w0s.nd rfl (aM rfl) (qdw qeo (qdw qeo (pv 8) (qeu (qa9 ((w0p T).mono (by decide)) hr rfl T.w2c T.w25.kp T.w2b .nil qah (qa0 (pv 1) (qa0 qa4 (qa0 (qam qb0 (qai qaw rfl T.w2v vH (qa0 (pv 8) qa2)) qa4) qa2))))) qev) qev (qeu qa4)))
  (qa5 (qaj (qa9 ((w5n T).mono (by decide)) hr rfl T.w6g T.w4y.kp T.w6m .nil qah (qa0 (pv 0) (qa0 (qbm (caps:=[6,9]) (cn:=["_law_ask","_law_one"]) (qb2 rfl rfl (by rfl) (by rfl) rfl ⟨rfl,⟨rfl,trivial⟩⟩ (by rfl) rfl ⟨⟨rfl,rfl,rfl,rfl,_,rfl⟩,⟨⟨rfl,rfl,rfl,rfl,_,rfl⟩,trivial⟩⟩ (by decide)) rfl (qau (pv 5)) (fun _ _ _ _=>(qc8 (PW.pt (pw_or (qan qcc (qak qap (pv 0) qa4 (fun _ _=>rfl)) (pv 2) (by rfl)) (qer (qbk (qa9 ((w65 T).mono (by decide)) hr rfl T.w8n T.w7d.kp T.w8a .nil qah (qa0 (pv 0) (qa0 (pv 1) qa2))))))))) (fun _ _ _ _=>(pv 0))) qa2)))))))),?_⟩
 walk_at "d"
 try dsimp only [cxC]
 refine qag (σ:=[some (.ref w.wt),some (.int c),none,none,none,none,none,none,none,none]) rfl ?_
 have htp:=hw.tup
 have hlr:=hw.lr
 have r30:=ok.r30
 left
 intro C s0 H0 fp lk hlk
 refine qek w.Rs.length (fun i H2=>∃g:List Int,qar H H2/\H2 lk=some (.lst (g.map V.int))/\g.length<=i) ⟨[],qa7 hlk _,qa1,uF _⟩ ?_ ?_ ?_ ?_
 .rintro i H2 hi ⟨g,s2,_⟩
  exact⟨_,.ref w.Rs[i].p,SqL.of (s2 _ _ hlr),by unfold rwV;rw [zC,zA hi];rfl⟩
 .rintro H2 ⟨g,s2,_⟩
  exact⟨_,SqL.of (s2 _ _ hlr),by unfold rwV;rw [zB];exact uF _⟩
 .rintro i H2 v H3 hi ⟨g,s2,ea,hl⟩ ⟨rfl,hv⟩
  have hv:=hv _ (SqL.of (s2 _ _ hlr))
  unfold rwV at hv
  rw [zC,zA hi] at hv
  cases hv
  have hRm:=zJ hi
  have hRi:=(hw.rs _ hRm).same s2
  generalize w.Rs[i]=R at*
  have hrow:=hRi.row
  have hla2:=s2 _ _ hw.la
  have zl:(g.map V.int).length < sizeLine:=by rw [zB];show _ < 16777216;omega
  generalize hhi:((w.h:Nat):Int)=hh at*
  generalize hri:((R.i:Nat):Int)=ri at*
  clear hv htp
  left
  refine⟨w.la,_,_,R,_,w.pa,w.rk,w.su,rfl,hRi,hla2,?_⟩
  refine⟨_,rfl,?_⟩
  cases c1:qdi w.rk w.su R with
  |true=>
   left
   exact⟨g,s2,ea,by omega⟩
  |false=>
   left
   exact⟨g++ [R.n],qaq s2 hlk,by rw [qa1,zE];rfl,by rw [zG,zT];omega⟩
 rintro H2 ⟨g,s2,elk,hg⟩
 have hg:g.length<=30:=by omega
 have hlen:(((g.map V.int).length:Nat):Int)=((g.length:Nat):Int):=by rw [zB]
 have htp2:=s2 _ _ htp
 clear htp
 left
 rw [hlen]
 refine qc3 (by decide) (by decide) (by omega) (by omega) fun r r0 r1=>?_
 clear r0 r1 hlen
 left
 refine r_slL (SqL.of elk) fun p1 hp1=>?_
 obtain⟨g1,e1,l1,_⟩:=qg5 V.int g (some r) none
 rw [e1]
 have u1:=qa7 hp1 (.lst (g1.map V.int))
 have ep1:upd H2 p1 (.lst (g1.map V.int)) p1=some (.lst (g1.map V.int)):=qa1
 generalize upd H2 p1 (.lst (g1.map V.int))=H3 at*
 left
 refine r_slL (SqL.of ep1) fun p2 hp2=>?_
 obtain⟨g2,e2,l2,_⟩:=qg5 V.int g1 none (some 1)
 rw [e2]
 have u2:=qa7 hp2 (.lst (g2.map V.int))
 have ep2:upd H3 p2 (.lst (g2.map V.int)) p2=some (.lst (g2.map V.int)):=qa1
 generalize upd H3 p2 (.lst (g2.map V.int))=H4 at*
 have t4:=(s2.trans u1).trans u2
 have hw4:=hw.same t4
 have hlr4:=hw4.lr
 clear hlr elk hlk htp2 ep1 hp1 hp2 u1 u2 s2 e1 e2 l1 l2
 left
 intro C1 s1 H1 fp1 lo hlo
 refine qek w.Rs.length (fun i H5=>∃l:List Rw,qar H4 H5/\H5 lo=some (.lst (rwV l))/\Sub w l i) ⟨[],qa7 hlo _,qa1,Sub.nil⟩ ?_ ?_ ?_ ?_
 .rintro i H5 hi ⟨l,s5,_⟩
  exact⟨_,.ref w.Rs[i].p,SqL.of (s5 _ _ hlr4),by unfold rwV;rw [zC,zA hi];rfl⟩
 .rintro H5 ⟨l,s5,_⟩
  exact⟨_,SqL.of (s5 _ _ hlr4),by unfold rwV;rw [zB];exact uF _⟩
 .rintro i H5 v H6 hi ⟨l,s5,ea,hl⟩ ⟨rfl,hv⟩
  have hv:=hv _ (SqL.of (s5 _ _ hlr4))
  unfold rwV at hv
  rw [zC,zA hi] at hv
  cases hv
  have hRm:=zJ hi
  have hRi:=(hw4.rs _ hRm).same s5
  generalize w.Rs[i]=R at*
  have hrow:=hRi.row
  have hla5:=s5 _ _ hw4.la
  have ep5:=s5 _ _ ep2
  have zl:(rwV l).length < sizeLine:=by rw [rw_len];have:=hl.1;show _ < 16777216;omega
  generalize hhi:((w.h:Nat):Int)=hh at*
  generalize hri:((R.i:Nat):Int)=ri at*
  clear hv
  left
  refine r_inI (SqL.of ep5) ?_
  by_cases c1:R.n∈g2
  .rw [gM c1]
   left
   exact⟨l++ [R],qaq s5 hlo,by rw [qa1,qcl],hl.snoc hRm⟩
  .rw [gO c1]
   left
   refine⟨w.la,_,_,R,_,w.pa,w.rk,w.su,rfl,hRi,hla5,?_⟩
   refine⟨_,rfl,?_⟩
   cases c2:qdi w.rk w.su R with
   |false=>
    left
    exact⟨l,s5,ea,hl.up⟩
   |true=>
    left
    exact⟨l++ [R],qaq s5 hlo,by rw [qa1,qcl],hl.snoc hRm⟩
 rintro H5 ⟨l,s5,elo,hl⟩
 left
 exact⟨w,lo,P,l,sw,rfl,hw4.same s5,ok,enm,psw,qsw,elo,⟨vN hl.1 r30,hl.2⟩,fun l2 g3 H6 s6 _ e6 h6=>q l2 g3 H6 ((t4.trans s5).trans s6) e6 h6⟩
def we3 (K:uR) (d:Ad):Sp:=fun vs H Q _=>∃(a:Addr) (ns:List Int) (w:Wd) (P:PL) (sw:List Str),vs=[.ref a,.ref w.wt]/\SqL K H a (ns.map V.int)/\ns.length<=63/\WAt H w/\WOk w/\P.nm=w.nm/\sw.Perm w.ws/\vK sw=true/\∀(l:Addr) (g:List Int) H',qar H H'->H' l=some (.lst (g.map V.int))->Q (.ref l) H'
include T in
theorem we0:FnOk P w K mg base CX0 7 d.w9w d.w85 ["_law_script","_law_world_here"] (we3 K d):=by
 refine T.wd2.ok w0w (fun vs H Q E h=>?_) (fun cdv A outer s H vs Q E hr h=>?_)
 .obtain⟨a,ns,w,P,sw,rfl,_⟩:=h;rfl
 obtain⟨a,ns,w,P,sw,rfl,hS,h63,hw,ok,enm,psw,qsw,q⟩:=h
 refine⟨_,(qa3 (qdj (pv 1) (qci rfl (qac (qab (i:=2) w0w.nd rfl (uI rfl)) (qac (qab (i:=3) w0w.nd rfl (uI rfl)) (qac (qab (i:=4) w0w.nd rfl (uI rfl)) (qac (qab (i:=5) w0w.nd rfl (uI rfl)) (qac (qab (i:=6) w0w.nd rfl (aM rfl)) (qac (qab (i:=7) w0w.nd rfl (uI rfl)) qbu))))))))
  (qa3 (qaf (i:=8) w0w.nd rfl (aM rfl) (qa9 ((w1y T).mono (by decide)) hr rfl T.w3i T.w38.kp T.w3j .nil qah (qa0 (pv 0) (qa0 qa4 qa2))))
  (qa3 (qcy (j:=9) (caps:=[6]) (cn:=["_law_ask"]) (qb2 rfl rfl (by rfl) (by rfl) rfl ⟨rfl,trivial⟩ (by rfl) rfl ⟨⟨rfl,rfl,rfl,rfl,_,rfl⟩,trivial⟩ (by decide)) rfl w0w.nd rfl rfl (qau (pv 5)) (fun _ _ _ _=>(qc8 (qbk (qa9 ((w65 T).mono (by decide)) hr rfl T.w8n T.w7d.kp T.w8a .nil qah (qa0 (pv 0) (qa0 (pv 1) qa2)))))) (fun _ _ _ _=>(pv 0)))
  (qa3 (qaf (i:=10) w0w.nd rfl (uI rfl) (qa9 ((w0p T).mono (by decide)) hr rfl T.w2c T.w25.kp T.w2b .nil qah (qa0 (pv 8) (qa0 qa4 (qa0 qa4 qa2)))))
  (qa3 (qbg (qan qdo (pv 10) qa4 (qat _)) (qa5 (qaj (qa9 ((w5n T).mono (by decide)) hr rfl T.w6g T.w4y.kp T.w6m .nil qah (qa0 (pv 1) (qa0 (pv 9) qa2))))) qas)
  (qa3 (qbg (qan qdo (pv 10) qa4 (qat _)) (qa5 (qaj (qa9 ((wc6 T).mono (by decide)) hr rfl T.wdq T.w9m.kp T.wdl .nil qah (qa0 (pv 1) (qa0 (pv 8) qa2))))) qas)
  (qa3 (qbg (qan qdo (pv 10) qa4 (qat _)) (qa5 (qaj (qa9 ((w5n T).mono (by decide)) hr rfl T.w6g T.w4y.kp T.w6m .nil qah (qa0 (pv 1) (qa0 (pe_listRev rfl rfl T.wam rfl T.wdg (qa0 (pv 9) qa2)) qa2))))) qas)
  (qa3 (qbg (qan qdo (pv 10) qa4 (qat _)) (qa5 (qaj (pe_comp3 (caps:=[8]) (cn:=["_law_cell_here"]) (x:="_law_k") (x2:="_law_row") (qb2 rfl rfl (by rfl) (by rfl) rfl ⟨rfl,trivial⟩ (by rfl) rfl ⟨⟨rfl,rfl,rfl,rfl,_,rfl⟩,trivial⟩ (by decide)) rfl (pi_enum rfl T.wcb (qa0 (pv 9) qa2)) (fun _ _ _ _=>(qci rfl (qac (qab (i:=0) (by show ([wH "_law_k",wH "_law_row",wH "_law_cell_here"]:List Str).Nodup;decide) rfl (uI rfl)) (qac (qab (i:=1) (by show ([wH "_law_k",wH "_law_row",wH "_law_cell_here"]:List Str).Nodup;decide) rfl (uI rfl)) qbu)))) (fun _ _ _ _=>(qc8 (qan qfd (qa9 ((w0p T).mono (by decide)) hr rfl T.w2c T.w25.kp T.w2b .nil qah (qa0 (pv 2) (qa0 (qam qb0 qa4 (pv 0)) (qa0 qa4 qa2)))) qa4 (qat _)))) (fun _ _ _ _=>(qak qap (pv 1) qa4 (fun _ _=>rfl)))))) qas)
  (qa3 (qaf (i:=11) w0w.nd rfl (aM rfl) (qa9 ((w5n T).mono (by decide)) hr rfl T.w6g T.w4y.kp T.w6m .nil qah (qa0 (pv 1) (qa0 (pv 9) qa2))))
  (qa3 (qaf (i:=12) w0w.nd rfl (uI rfl) (qdw qeo (qdw qeo (pv 9) (qeu (qa9 ((w0p T).mono (by decide)) hr rfl T.w2c T.w25.kp T.w2b .nil qah (qa0 (pv 8) (qa0 qa4 (qa0 (qam qb0 (qai qaw rfl T.w2v vH (qa0 (pv 9) qa2)) qa4) qa2))))) qev) qev (qeu qa4)))
  (qa5 (qaj (qam op_cat (pv 11) (qbm (caps:=[11]) (cn:=["_law_gone"]) (qb2 rfl rfl (by rfl) (by rfl) rfl ⟨rfl,trivial⟩ (by rfl) rfl ⟨⟨rfl,rfl,rfl,rfl,_,rfl⟩,trivial⟩ (by decide)) rfl (qau (pv 12)) (fun _ _ _ _=>(qc8 (qan qd8 (qak qap (pv 0) qa4 (fun _ _=>rfl)) (pv 1) (by rfl)))) (fun _ _ _ _=>(qak qap (pv 0) qa4 (fun _ _=>rfl))))))))))))))))),?_⟩
 walk_at "d"
 try dsimp only [cxC]
 refine qag (σ:=[some (.ref a),some (.ref w.wt),none,none,none,none,none,none,none,none,none,none,none]) rfl ?_
 have htp:=hw.tup
 have r30:=ok.r30
 left
 refine⟨a,ns,20,rfl,hS,by decide,by decide,h63,fun H1 s1=>?_⟩
 generalize qbq ns 20=c
 have hw1:=hw.same s1
 have hlr:=hw1.lr
 clear hw htp
 left
 intro C s0 H0 fp lk hlk
 refine qek w.Rs.length (fun i H2=>∃l:List Rw,qar H1 H2/\H2 lk=some (.lst (rwV l))/\Sub w l i) ⟨[],qa7 hlk _,qa1,Sub.nil⟩ ?_ ?_ ?_ ?_
 .rintro i H2 hi ⟨l,s2,_⟩
  exact⟨_,.ref w.Rs[i].p,SqL.of (s2 _ _ hlr),by unfold rwV;rw [zC,zA hi];rfl⟩
 .rintro H2 ⟨l,s2,_⟩
  exact⟨_,SqL.of (s2 _ _ hlr),by unfold rwV;rw [zB];exact uF _⟩
 .rintro i H2 v H3 hi ⟨l,s2,ea,hl⟩ ⟨rfl,hv⟩
  have hv:=hv _ (SqL.of (s2 _ _ hlr))
  unfold rwV at hv
  rw [zC,zA hi] at hv
  cases hv
  have hRm:=zJ hi
  have hRi:=(hw1.rs _ hRm).same s2
  generalize w.Rs[i]=R at*
  have hla2:=s2 _ _ hw1.la
  have zl:(rwV l).length < sizeLine:=by rw [rw_len];have:=hl.1;show _ < 16777216;omega
  generalize hhi:((w.h:Nat):Int)=hh at*
  clear hv
  left
  refine⟨w.la,_,_,R,_,w.pa,w.rk,w.su,rfl,hRi,hla2,?_⟩
  refine⟨_,rfl,?_⟩
  cases c1:qdi w.rk w.su R with
  |false=>
   left
   exact⟨l,s2,ea,hl.up⟩
  |true=>
   left
   exact⟨l++ [R],qaq s2 hlk,by rw [qa1,qcl],hl.snoc hRm⟩
 rintro H2 ⟨l,s2,elk,hl⟩
 have hl:Sub w l 30:=⟨vN hl.1 r30,hl.2⟩
 have hl30:=hl.1
 have hw2:=hw1.same s2
 have t2:=s1.trans s2
 have q:∀(l:Addr) (g:List Int) H',qar H2 H'->H' l=some (.lst (g.map V.int))->Q (.ref l) H':=fun l g H' s=>q l g H' (t2.trans s)
 clear hw1 hlr s1 s2 t2 hlk hS
 left
 refine qc3 (by decide) (by decide) (by decide) (by decide) fun way _ _=>?_
 left
 refine i_2 (fun c0=>?_) (fun c0=>?_)
 .left
  exact⟨w,lk,P,l,sw,rfl,hw2,ok,enm,psw,qsw,elk,hl,fun l2 g3 H6 s6 _ e6 _=>q l2 g3 H6 s6 e6⟩
 left
 refine i_2 (fun c0=>?_) (fun c0=>?_)
 .left
  exact⟨w,c,P,sw,rfl,hw2,ok,enm,psw,qsw,fun l2 g3 H6 s6 e6 _=>q l2 g3 H6 s6 e6⟩
 left
 refine i_2 (fun c0=>?_) (fun c0=>?_)
 .left
  rename_i p1 hp1
  have u1:=qa7 hp1 (.lst (rwV l).reverse)
  have ep1:upd H2 p1 (.lst (rwV l).reverse) p1=some (.lst (rwV l.reverse)):=by rw [qa1];unfold rwV;rw [List.map_reverse]
  generalize upd H2 p1 (.lst (rwV l).reverse)=H3 at*
  exact⟨w,p1,P,l.reverse,sw,rfl,hw2.same u1,ok,enm,psw,qsw,ep1,⟨by rw [List.length_reverse];exact hl.1,fun R hR=>hl.2 R (List.mem_reverse.mp hR)⟩,fun l2 g3 H6 s6 _ e6 _=>q l2 g3 H6 (u1.trans s6) e6⟩
 left
 refine i_2 (fun c0=>?_) (fun c0=>?_)
 .left
  refine r_comp3 ?_
  refine r_iE ?_
  left
  refine r_itE (SqL.of elk) ?_
  intro C s0 H0 fp ln hln
  refine c3_by (rwV l).length (fun i H'=>∃nums:List Int,qar H2 H'/\H' ln=some (.lst (nums.map V.int))/\nums.length<=i) ⟨[],qa7 hln _,qa1,uF _⟩ ?_ ?_ ?_ ?_
  .rintro i H' hi ⟨nums,sm,_⟩
   exact⟨SqL.of (sm _ _ elk),hi⟩
  .rintro H' ⟨nums,sm,_⟩
   exact⟨SqL.of (sm _ _ elk),uF _⟩
  .rintro i H' v H'' a1 b1 hi ⟨nums,sm,ea,hn⟩ ⟨Tt,x,hTt,hx,rfl,rfl⟩
   unfold rwV at hx hi
   rw [zB] at hi
   rw [zC,zA hi] at hx
   have hx:=uW hx
   subst hx
   have hRi:=(hw2.rs _ (hl.2 _ (zJ hi))).same sm
   generalize l[i]=R at*
   have u2:=qa7 hTt (.tup [.int ((i:Nat):Int),.ref R.p])
   have eT:upd H' Tt (.tup [.int ((i:Nat):Int),.ref R.p]) Tt=some (.tup [.int ((i:Nat):Int),.ref R.p]):=qa1
   generalize upd H' Tt (.tup [.int ((i:Nat):Int),.ref R.p])=H4 at*
   have hrow:=u2 _ _ hRi.row
   have ea2:=u2 _ _ ea
   have zl:(nums.map V.int).length < sizeLine:=by rw [zB];show _ < 16777216;omega
   have ii0:0<=((i:Nat):Int)/\((i:Nat):Int)<=30:=by omega
   generalize hri:((R.i:Nat):Int)=ri at*
   generalize hii:((i:Nat):Int)=ii at*
   clear hTt
   left
   refine⟨⟨_,_,rfl⟩,?_⟩
   left
   refine qc3 (by omega) (by omega) (by decide) (by decide) fun r _ _=>?_
   left
   by_cases c1:0 < r
   .rw [gM c1]
    left
    exact⟨nums++ [R.n],qaq (sm.trans u2) hln,by rw [qa1,zE];rfl,by rw [zG,zT];omega⟩
   .rw [gO c1]
    left
    exact⟨nums,sm.trans u2,ea2,by omega⟩
  rintro H3 ⟨nums,s3,eln,_⟩
  exact q ln nums H3 s3 eln
 left
 refine⟨w,lk,P,l,sw,rfl,hw2,ok,enm,psw,qsw,elk,hl,fun lg gone H3 s3 _ elg hg30=>?_⟩
 have hlen:(((rwV l).length:Nat):Int)=((l.length:Nat):Int):=by rw [rw_len]
 have elk3:=s3 _ _ elk
 left
 rw [hlen]
 refine qc3 (by decide) (by decide) (by omega) (by omega) fun r r0 r1=>?_
 clear r0 r1 hlen
 left
 refine r_slL (SqL.of elk3) fun p1 hp1=>?_
 obtain⟨g1,e1,l1,m1⟩:=qg5 (fun R:Rw=>V.ref R.p) l (some r) none
 have e1:cutV (rwV l) (some r) none=rwV g1:=e1
 rw [e1]
 have u1:=qa7 hp1 (.lst (rwV g1))
 have ep1:upd H3 p1 (.lst (rwV g1)) p1=some (.lst (rwV g1)):=qa1
 generalize upd H3 p1 (.lst (rwV g1))=H4 at*
 left
 refine r_slL (SqL.of ep1) fun p2 hp2=>?_
 obtain⟨g2,e2,l2,m2⟩:=qg5 (fun R:Rw=>V.ref R.p) g1 none (some 1)
 have e2:cutV (rwV g1) none (some 1)=rwV g2:=e2
 rw [e2]
 have u2:=qa7 hp2 (.lst (rwV g2))
 have ep2:upd H4 p2 (.lst (rwV g2)) p2=some (.lst (rwV g2)):=qa1
 generalize upd H4 p2 (.lst (rwV g2))=H5 at*
 have t5:=(s3.trans u1).trans u2
 have hw5:=hw2.same t5
 have elg5:=(u1.trans u2) _ _ elg
 have hR5:∀R∈g2,RwAt H5 (w.es.length+1) w.ws.length R:=fun R hR=>hw5.rs R (hl.2 R (m1 R (m2 R hR)))
 have l30:g2.length<=30:=by omega
 clear elk elk3 ep1 hp1 hp2 u1 u2 s3 e1 e2 l1 l2 m1 m2 hw2 hw5 elg
 left
 intro C s0 H0 fp ln hln
 refine qek g2.length (fun i H'=>∃nums:List Int,qar H5 H'/\H' ln=some (.lst (nums.map V.int))/\nums.length<=i) ⟨[],qa7 hln _,qa1,uF _⟩ ?_ ?_ ?_ ?_
 .rintro i H' hi ⟨nums,sm,_⟩
  exact⟨_,.ref g2[i].p,SqL.of (sm _ _ ep2),by unfold rwV;rw [zC,zA hi];rfl⟩
 .rintro H' ⟨nums,sm,_⟩
  exact⟨_,SqL.of (sm _ _ ep2),by unfold rwV;rw [zB];exact uF _⟩
 .rintro i H' v H'' hi ⟨nums,sm,ea,hn⟩ ⟨rfl,hv⟩
  have hv:=hv _ (SqL.of (sm _ _ ep2))
  unfold rwV at hv
  rw [zC,zA hi] at hv
  cases hv
  have hRi:=(hR5 _ (zJ hi)).same sm
  generalize g2[i]=R at*
  have hrow:=hRi.row
  have eg':=sm _ _ elg5
  have zl:(nums.map V.int).length < sizeLine:=by rw [zB];show _ < 16777216;omega
  generalize hri:((R.i:Nat):Int)=ri at*
  clear hv
  left
  refine r_notInI (SqL.of eg') ?_
  by_cases c1:R.n∈gone
  .rw [gM c1]
   left
   exact⟨nums,sm,ea,by omega⟩
  .rw [gO c1]
   left
   exact⟨nums++ [R.n],qaq sm hln,by rw [qa1,zE];rfl,by rw [zG,zT];omega⟩
 rintro H6 ⟨nums,s6,eln,hn⟩
 have elg6:=s6 _ _ elg5
 left
 refine r_cat elg6 eln (by rw [zB,zB];show _<=16777216;omega) fun p3 hp3=>?_
 left
 exact q p3 (gone++nums) _ ((t5.trans s6).trans (qa7 hp3 _)) (by rw [qa1,zE])
theorem u_short {K:uR} {d:Ad} {H:Hp} {Q:VK} {E:XK} {w:Wd} {ls:Addr} {P:PL} {Bs:List Rw} {sw:List Str} (hw:WAt H w) (ok:WOk w) (enm:P.nm=w.nm) (hl:H ls=some (.lst (rwV Bs))) (hB:∀R∈Bs,RwAt H (w.es.length+1) w.ws.length R) (b:Bs.length<=100) (psw:sw.Perm w.ws) (qsw:vK sw=true)
  (q:∀(v:V) (H':Hp),qar H H'->(v=.non\/∃(a:Addr) (y z:Str),v=.ref a/\H' a=some (.tup [.str y,.str z]))->Q v H'):wd4 K d [.ref w.wt,.ref ls] H Q E:=
 ⟨w,ls,P,Bs,sw,rfl,hw,ok,enm,hl,hB,b,psw,qsw,fun _ H' s=>q _ H' s (.inl rfl),fun _ _ a H' s _ e=>q _ H' s (.inr ⟨a,_,_,rfl,e⟩)⟩
theorem gx_len (l:List Gx):(gxV l).length=l.length:=by unfold gxV;rw [zB]
theorem td_some {w:Wd} (ok:WOk w):∃z,z∈qcr (tdK (w.ws.zip w.aps)):=by
 obtain⟨p,hp,p0⟩:=ok.apx
 obtain⟨j,hj,rfl⟩:=zQ.mp hp
 have hjw:j < w.ws.length:=by rw [<-ok.apl];exact hj
 refine⟨w.ws[j],((qdu (w.ws.zip w.aps)).kin _).mpr ?_⟩
 rw [tdF_at ok.apl.symm ok.wsn.nd hjw hj,gL p0]
 simp
def we8 (K:uR) (d:Ad):Sp:=fun vs H Q _=>∃(w:Wd) (lg:Addr) (P:PL) (sw:List Str) (g:List Int),vs=[.ref w.wt,.ref lg]/\WAt H w/\WOk w/\P.nm=w.nm/\sw.Perm w.ws/\vK sw=true/\H lg=some (.lst (g.map V.int))/\∀(l:Addr) (xs:List Gx) H',qar H H'->H l=none->H' l=some (.lst (gxV xs))->(∀x∈xs,GxAt H' x)->Q (.ref l) H'
include T in
theorem wez:FnOk P w K mg base CX0 5 d.waa d.w8p ["_law_world_here","_law_gone"] (we8 K d):=by
 refine T.wd8.ok w0v (fun vs H Q E h=>?_) (fun cdv A outer s H vs Q E hr h=>?_)
 .obtain⟨w,lg,P,sw,g,rfl,_⟩:=h;rfl
 obtain⟨w,lg,P,sw,g,rfl,hw,ok,enm,psw,qsw,hg,q⟩:=h
 refine⟨_,(qa3 (qdj (pv 0) (qci rfl (qac (qab (i:=2) w0v.nd rfl (uI rfl)) (qac (qab (i:=3) w0v.nd rfl (uI rfl)) (qac (qab (i:=4) w0v.nd rfl (uI rfl)) (qac (qab (i:=5) w0v.nd rfl (uI rfl)) (qac (qab (i:=6) w0v.nd rfl (aM rfl)) (qac (qab (i:=7) w0v.nd rfl (uI rfl)) qbu))))))))
  (qa3 (qaf (i:=8) w0v.nd rfl (uI rfl) (qbl qa2))
  (qa3 (qb8 vA rfl (qau (pv 5)) (qab (i:=9) w0v.nd rfl (aM rfl)) (qa5 (qd6 (qbg (qan qcc (qak qap (pv 9) qa4 (fun _ _=>rfl)) (pv 1) (by rfl)) (qa3 (qcy (j:=10) (caps:=[1,9]) (cn:=["_law_gone","_law_row"]) (qb2 rfl rfl (by rfl) (by rfl) rfl ⟨rfl,⟨rfl,trivial⟩⟩ (by rfl) rfl ⟨⟨rfl,rfl,rfl,rfl,_,rfl⟩,⟨⟨rfl,rfl,rfl,rfl,_,rfl⟩,trivial⟩⟩ (by decide)) rfl w0v.nd rfl rfl (qau (pv 5)) (fun _ _ _ _=>(qc8 (PW.pt (pw_or (qan qdo (qak qap (pv 0) qa4 (fun _ _=>rfl)) (qak qap (pv 2) qa4 (fun _ _=>rfl)) (qat _)) (qer (qan qd8 (qak qap (pv 0) qa4 (fun _ _=>rfl)) (pv 1) (by rfl))))))) (fun _ _ _ _=>(pv 0)))
  (qa3 (qaf (i:=11) w0v.nd rfl (uI rfl) (qa9 ((wd7 T).mono (by decide)) hr rfl T.wel T.wct.kp T.wed .nil qah (qa0 (pv 0) (qa0 (qbm (caps:=[6,9]) (cn:=["_law_ask","_law_row"]) (qb2 rfl rfl (by rfl) (by rfl) rfl ⟨rfl,⟨rfl,trivial⟩⟩ (by rfl) rfl ⟨⟨rfl,rfl,rfl,rfl,_,rfl⟩,⟨⟨rfl,rfl,rfl,rfl,_,rfl⟩,trivial⟩⟩ (by decide)) rfl (qau (pv 10)) (fun _ _ _ _=>(qc8 (PW.pt (pw_or (qan op_le (qak qap (pv 0) qa4 (fun _ _=>rfl)) (qak qap (pv 2) qa4 (fun _ _=>rfl)) (qat _)) (qer (qcb (qbk (qa9 ((w65 T).mono (by decide)) hr rfl T.w8n T.w7d.kp T.w8a .nil qah (qa0 (pv 0) (qa0 (pv 1) qa2)))))))))) (fun _ _ _ _=>(pv 0))) qa2))))
  (qa3 (qd6 (qbg (qan op_isNN (pv 11) qcp (qat _)) (qa5 (qaf (i:=11) w0v.nd rfl (uI rfl) (qdl (qa0 (qak qal (pv 2) (qak qap (pv 6) qa4 (fun _ _=>rfl)) (fun _ _=>rfl)) (qa0 (qak qal (qai (qea rfl) rfl T.w5o wS (qa0 (qa9 ((w3t T).mono (by decide)) hr rfl T.w5w T.w5g.kp T.w5t .nil qah (qa0 (pv 3) (qa0 (qak qap (pv 6) qa4 (fun _ _=>rfl)) qa2))) qa2)) qa4 (fun _ _=>rfl)) qa2))))) qas))
  (qa5 (qb3 (qdh vB vE vF qb1 (pv 8) (qa0 (qdl (qa0 (qak qap (pv 9) qa4 (fun _ _=>rfl)) (qa0 (qak qal (pv 2) (qak qap (pv 9) qa4 (fun _ _=>rfl)) (fun _ _=>rfl)) (qa0 (qa9 ((w3t T).mono (by decide)) hr rfl T.w5w T.w5g.kp T.w5t .nil qah (qa0 (pv 3) (qa0 (qak qap (pv 9) qa4 (fun _ _=>rfl)) qa2))) (qa0 (qak qap (pv 11) qa4 (fun _ _=>rfl)) (qa0 (qak qap (pv 11) qa4 (fun _ _=>rfl)) qa2)))))) qa2))))))) qas))))
  (qa5 (qaj (pv 8)))))),?_⟩
 walk_at "d"
 try dsimp only [cxC]
 refine qag (σ:=[some (.ref w.wt),some (.ref lg),none,none,none,none,none,none,none,none,none,none]) rfl ?_
 have htp:=hw.tup
 have r30:=ok.r30
 left
 rename_i lf hlf
 have s1:=qa7 hlf (.lst [])
 have elf:upd H lf (.lst []) lf=some (.lst (gxV [])):=qa1
 generalize upd H lf (.lst [])=H1 at*
 have hlr1:=s1 _ _ hw.lr
 clear htp
 left
 refine qct (xs:=rwV w.Rs) (fun i σ H'=>∃(xs:List Gx) (w9 w10 w11:Option V),σ=[some (V.ref w.wt),some (V.ref lg),some (V.ref w.ln),some (V.ref w.lw),some (V.ref w.le),some (V.ref w.lr),some (V.ref w.la),some (V.ref w.lc),some (V.ref lf),w9,w10,w11]/\qar H H'/\H' lf=some (.lst (gxV xs))/\(∀x∈xs,GxAt H' x)/\xs.length<=i) ⟨[],_,_,_,rfl,s1,elf,fun x hx=>by simp at hx,uF _⟩ ?_ ?_ ?_
 .rintro i σ H' _ ⟨xs,w9,w10,w11,_,sm,_⟩;exact SqL.of (sm _ _ hw.lr)
 .rintro i x σ H' hx ⟨xs,w9,w10,w11,rfl,sm,ef,hxs,hlen⟩
  unfold rwV at hx
  rw [zC] at hx
  obtain⟨R,hr,rfl⟩:=uU.mp hx
  have hi:i < w.Rs.length:=(uH.mp hr).1
  have hRm:=zD hr
  have hw1:=hw.same sm
  have hR1:=hw1.rs R hRm
  have hrow:=hR1.row
  have eg:=sm _ _ hg
  have hlr:=hw1.lr
  have zl:(gxV xs).length < sizeLine:=by rw [gx_len];show _ < 16777216;omega
  have xn:∃z0,atI (w.nm.map V.str) ((R.i:Nat):Int)=some (.str z0):=by
   have e:R.i < w.nm.length:=by rw [ok.nms.len];exact hR1.il
   exact⟨w.nm[R.i],qav (by rw [zC,zA e];rfl)⟩
  obtain⟨z0,xn⟩:=xn
  have hh1:∃z1,atI (w.nm.map V.str) ((w.h:Nat):Int)=some (.str z1):=by
   have e:w.h < w.nm.length:=by rw [ok.nms.len];exact ok.hh
   exact⟨w.nm[w.h],qav (by rw [zC,zA e];rfl)⟩
  obtain⟨z1,xh⟩:=hh1
  generalize hri:((R.i:Nat):Int)=ri at*
  generalize hhi:((w.h:Nat):Int)=hh at*
  clear hx hr s1 elf hlr1
  left
  refine r_cut (fun σ' H2=>∃(xs:List Gx) (w9 w10 w11:Option V),σ'=[some (V.ref w.wt),some (V.ref lg),some (V.ref w.ln),some (V.ref w.lw),some (V.ref w.le),some (V.ref w.lr),some (V.ref w.la),some (V.ref w.lc),some (V.ref lf),w9,w10,w11]/\qar H H2/\H2 lf=some (.lst (gxV xs))/\(∀x∈xs,GxAt H2 x)/\xs.length<=i+1) ?_ (fun σ' H' h=>h)
  left
  refine r_inI (SqL.of eg) ?_
  by_cases c0:R.n∈g
  rotate_left
  .rw [gO c0]
   refine⟨_,rfl,?_⟩
   left
   exact⟨xs,_,_,_,rfl,sm,ef,hxs,by omega⟩
  rw [gM c0]
  refine⟨_,rfl,?_⟩
  left
  intro C s0 H0 fp ll hll
  refine qek w.Rs.length (fun k H2=>∃l:List Rw,qar H' H2/\H2 ll=some (.lst (rwV l))/\Sub w l k) ⟨[],qa7 hll _,qa1,Sub.nil⟩ ?_ ?_ ?_ ?_
  .rintro k H2 hk ⟨l,s2,_⟩
   exact⟨_,.ref w.Rs[k].p,SqL.of (s2 _ _ hlr),by unfold rwV;rw [zC,zA hk];rfl⟩
  .rintro H2 ⟨l,s2,_⟩
   exact⟨_,SqL.of (s2 _ _ hlr),by unfold rwV;rw [zB];exact uF _⟩
  .rintro k H2 v H3 hk ⟨l,s2,ea,hl⟩ ⟨rfl,hv⟩
   have hv:=hv _ (SqL.of (s2 _ _ hlr))
   unfold rwV at hv
   rw [zC,zA hk] at hv
   cases hv
   have hXm:=zJ hk
   have hXi:=(hw1.rs _ hXm).same s2
   generalize w.Rs[k]=X at*
   have hrowX:=hXi.row
   have hrow2:=s2 _ _ hrow
   have eg2:=s2 _ _ eg
   have zk:(rwV l).length < sizeLine:=by rw [rw_len];have:=hl.1;show _ < 16777216;omega
   generalize hxi:((X.i:Nat):Int)=xi at*
   clear hv hrow
   left
   by_cases c1:X.n=R.n
   .rw [gM c1]
    left
    exact⟨l++ [X],qaq s2 hll,by rw [qa1,qcl],hl.snoc hXm⟩
   .rw [gO c1]
    left
    refine r_notInI (SqL.of eg2) ?_
    by_cases c2:X.n∈g
    .rw [gM c2]
     left
     exact⟨l,s2,ea,hl.up⟩
    .rw [gO c2]
     left
     exact⟨l++ [X],qaq s2 hll,by rw [qa1,qcl],hl.snoc hXm⟩
  rintro H2 ⟨l,s2,ell,hl⟩
  have hl30:l.length<=30:=vN hl.1 r30
  have hrow2:=s2 _ _ hrow
  have hw2:=hw1.same s2
  clear hll hrow
  left
  intro C1 s01 H01 fp1 lm hlm
  refine qek l.length (fun k H3=>∃m:List Rw,qar H2 H3/\H3 lm=some (.lst (rwV m))/\Sub w m k) ⟨[],qa7 hlm _,qa1,Sub.nil⟩ ?_ ?_ ?_ ?_
  .rintro k H3 hk ⟨m,s3,_⟩
   exact⟨_,.ref l[k].p,SqL.of (s3 _ _ ell),by unfold rwV;rw [zC,zA hk];rfl⟩
  .rintro H3 ⟨m,s3,_⟩
   exact⟨_,SqL.of (s3 _ _ ell),by unfold rwV;rw [zB];exact uF _⟩
  .rintro k H3 v H4 hk ⟨m,s3,ea,hm⟩ ⟨rfl,hv⟩
   have hv:=hv _ (SqL.of (s3 _ _ ell))
   unfold rwV at hv
   rw [zC,zA hk] at hv
   cases hv
   have hXm:=hl.2 _ (zJ hk)
   have hXi:=(hw2.rs _ hXm).same s3
   generalize l[k]=X at*
   have hrowX:=hXi.row
   have hrow3:=s3 _ _ hrow2
   have hla3:=s3 _ _ hw2.la
   have zk:(rwV m).length < sizeLine:=by rw [rw_len];have:=hm.1;show _ < 16777216;omega
   generalize hxi:((X.i:Nat):Int)=xi at*
   rw [hhi] at hla3
   clear hv hrow2
   left
   by_cases c1:X.n<=R.n
   .rw [gM c1]
    left
    exact⟨m++ [X],qaq s3 hlm,by rw [qa1,qcl],hm.snoc hXm⟩
   .rw [gO c1]
    left
    refine⟨w.la,_,_,X,_,w.pa,w.rk,w.su,rfl,hXi,hla3,?_⟩
    refine⟨_,rfl,?_⟩
    cases c2:qdi w.rk w.su X with
    |true=>
     left
     exact⟨m,s3,ea,hm.up⟩
    |false=>
     left
     exact⟨m++ [X],qaq s3 hlm,by rw [qa1,qcl],hm.snoc hXm⟩
  rintro H3 ⟨m,s3,elm,hm⟩
  have hw3:=hw2.same s3
  have m30:=hm.1
  clear hlm ell
  left
  refine u_short hw3 ok enm elm (fun X hX=>hw3.rs X (hm.2 X hX)) (by omega) psw qsw fun v H4 s4 hv=>?_
  have t4:=(s2.trans s3).trans s4
  have hw4:=hw1.same t4
  have hrow4:=(s3.trans s4) _ _ hrow2
  clear elm hw3 hw2 hrow2 s2 s3
  left
  refine r_cut (fun σ' H5=>∃(pl:Addr) (y z:Str),σ'=[some (V.ref w.wt),some (V.ref lg),some (V.ref w.ln),some (V.ref w.lw),some (V.ref w.le),some (V.ref w.lr),some (V.ref w.la),some (V.ref w.lc),some (V.ref lf),some (V.ref R.p),some (V.ref ll),some (V.ref pl)]/\qar H' H5/\H5 pl=some (.tup [.str y,.str z])) ?_ ?_
  .rcases hv with rfl|⟨pa,y,z,rfl,ev⟩
   .have hla4:=hw4.la
    rw [hhi] at hla4
    left
    refine qb7 (SqL.of hw4.ln) xh ?_
    left
    refine⟨w.lw,w.pa,w.ws,w.aps,rfl,SqL.of hw4.lw,SqL.of hw4.pa,ok.apl.symm,by have:=ok.w6;omega,fun am H5 s5 ham eam=>?_⟩
    have hA:=qdu (w.ws.zip w.aps)
    left
    refine r_sortD (.inl eam) hA.keys (by
     have h1:=hA.le (ws:=w.ws) (fun z hz=>tdF_in ok.apl.symm z hz)
     have h2:=hA.klen
     have:=ok.w6
     omega) fun ls ss' hls hp2 hs2=>?_
    have hne:∃y0 rest,ss'=y0 :: rest:=by
     obtain⟨z,hz⟩:=td_some ok
     cases ss' with
     |nil=>exact absurd (hp2.mem_iff.mpr hz) (by simp)
     |cons y0 rest=>exact⟨_,_,rfl⟩
    obtain⟨y0,rest,rfl⟩:=hne
    left
    refine qb7 (SqL.of qa1) (qav (j:=0) rfl) ?_
    left
    rename_i pl hpl
    exact⟨pl,z1,y0,rfl,((t4.trans s5).trans (qa7 hls _)).trans (qa7 hpl _),qa1⟩
   .left
    exact⟨pa,y,z,rfl,t4,ev⟩
  rintro σ' H5 ⟨pl,y,z,rfl,t5,epl⟩
  have hw5:=hw1.same t5
  have hrow5:=(hw5.rs R hRm).row
  rw [hri] at hrow5
  have hR5:=hw5.rs R hRm
  have ef5:=t5 _ _ ef
  have hxs5:∀x∈xs,GxAt H5 x:=fun x hx=>(hxs x hx).same t5
  clear hv hw4 hrow4 t4 s4 ef hxs
  left
  refine qb7 (SqL.of hw5.ln) xn ?_
  left
  refine⟨w.lw,R.e,w.ws,R.ps,rfl,SqL.of hw5.lw,SqL.of hR5.par,hR5.len.symm,by have:=ok.w6;omega,fun am H6 s6 ham eam=>?_⟩
  have epl6:=s6 _ _ epl
  have ef6:=s6 _ _ ef5
  have hrow6:=s6 _ _ hrow5
  clear hrow5 epl ef5
  left
  rename_i pp hpp
  have u1:=qa7 hpp (.tup [V.int R.n,V.str z0,V.ref am,V.str y,V.str z])
  have epp:upd H6 pp (.tup [V.int R.n,V.str z0,V.ref am,V.str y,V.str z]) pp=some (.tup [V.int R.n,V.str z0,V.ref am,V.str y,V.str z]):=qa1
  have ef7:=qad (o':=.tup [V.int R.n,V.str z0,V.ref am,V.str y,V.str z]) ef6 hpp
  generalize upd H6 pp (.tup [V.int R.n,V.str z0,V.ref am,V.str y,V.str z])=H7 at*
  left
  refine⟨xs++ [⟨pp,am,R.n,z0,tdK (w.ws.zip R.ps),tdF (w.ws.zip R.ps),y,z⟩],_,_,_,rfl,qaq (((sm.trans t5).trans s6).trans u1) hlf,by rw [qa1];unfold gxV;rw [zE];rfl,fun x hx=>?_,by rw [zG,zT];omega⟩
  rcases zR.mp hx with h|h
  .exact((hxs5 x h).same (s6.trans u1)).put ef7
  .rw [zF.mp h]
   exact GxAt.put ⟨epp,u1 _ _ eam,qdu _⟩ ef7
 .rintro σ H' ⟨xs,w9,w10,w11,rfl,sm,ef,hxs,_⟩
  left
  exact q lf xs H' sm hlf ef hxs
def war (K:uR) (d:Ad):Sp:=fun vs H Q _=>∃(t lh am lx:Addr) (S:Ts) (P:PL) (bs:List Ob) (n h:Nat) (ka:List (Key × V)) (f:Str->Option Int) (ss:List Str) (r:Int) (su:Bool) (xs:List Gx),vs=[.ref t,.ref lh,.str (nmF P h),.ref am,.int r,.bl su,.ref lx]/\WdAt K d H t lh S P bs n/\n<=12/\h < n/\H am=some (.dK ka)/\AD ka f/\ss.Perm (qcr ka)/\vK ss=true/\ss.length<=6/\H lx=some (.lst (gxV xs))/\(∀x∈xs,GxAt H x)/\
 ((∃p∈pls (qae (elN P.es) h) ss,qcm S P (bs.filter (qbf r su)) f p.1 p.2 < 0)->∀H',qar H H'->Q (.bl false) H')/\
 ((∀p∈pls (qae (elN P.es) h) ss,0<=qcm S P (bs.filter (qbf r su)) f p.1 p.2)->∀(gs:List Gr) (H':Hp),qar H H'->gs.map (fun g=>(g.b,g.c))=(clL P (pls (qae (elN P.es) h) ss) (fun p=>qcm S P (bs.filter (qbf r su)) f p.1 p.2) (bs.filter (qca r su))).2->Q (.bl (gsEq xs (gs.map (gxO P)))) H')
include T in
theorem wbl:FnOk P w K mg base CX0 22 d.w66 d.w55 ["tree","holds","house","amounts","rank","sure","given"] (war K d):=by
 refine T.w8d.ok wav (fun vs H Q E h=>?_) (fun cdv A outer s H vs Q E hr h=>?_)
 .obtain⟨t,lh,am,lx,S,P,bs,n,h,ka,f,ss,r,su,xs,rfl,_⟩:=h;rfl
 obtain⟨t,lh,am,lx,S,P,bs,n,h,ka,f,ss,r,su,xs,rfl,hW,n12,hn,ha,hA,hp,hs,s6,hx,hxs,qn,q⟩:=h
 refine⟨_,(qa5 (qaj (qbv (op_eqL (hu8 hr)) (pv 6) (qa9 ((waq T).mono (by decide)) hr rfl T.wdc T.w9t.kp T.wdb .nil qah (qa0 (pv 0) (qa0 (pv 1) (qa0 (pv 2) (qa0 (pv 3) (qa0 (pv 4) (qa0 (pv 5) qa2))))))) (qat _)))),?_⟩
 walk_at "d"
 refine qag (σ:=[some (.ref t),some (.ref lh),some (.str (nmF P h)),some (.ref am),some (.int r),some (.bl su),some (.ref lx)]) rfl ?_
 have had:∀b∈bs,AD b.R.k b.R.f:=fun b hb=>(hW.ob b hb).ad
 left
 refine⟨t,lh,am,S,P,bs,n,h,ka,f,ss,r,su,rfl,hW,n12,hn,ha,hA,hp,hs,s6,fun c H2 s2=>?_,fun c l gs H2 s2 hl el hG hgs=>?_⟩
 .refine .inr ⟨lx,_,rfl,rfl,SqL.of (s2 _ _ hx),?_⟩
  exact qn c _ s2
 .rw [<-gxO_v P] at el
  have ne:lx≠l:=qa8 hx hl
  have dq:=deq_gs (K:=K) (s2 _ _ hx) el (fun x hx=>(hxs x hx).same s2) (fun x hx=>by
   obtain⟨g,hg,rfl⟩:=zK.mp hx
   exact gxO_at (hG g hg).1 (had _ (hG g hg).2.1)) ne
  refine .inl (r_eqD ne (by decide) dq ?_)
  exact q c gs _ s2 hgs
def sp_law0 (K:uR):Sp:=fun vs H Q _=>∃(a:Addr) (ns:List Int),vs=[.ref a]/\SqL K H a (ns.map V.int)/\ns.length<=63/\∀H',Q (.bl true) H'
def sp_law (K:uR) (d:Ad):Sp:=sp_law0 K
include T in
theorem ok_law:FnOk P w K mg base CX0 26 d.wca d.wbo ["_law_script"] (sp_law K d):=by
 refine T.whk.ok w3l (fun vs H Q E h=>?_) (fun cdv A outer s H vs Q E hr h=>?_)
 .obtain⟨a,ns,rfl,_⟩:=h;rfl
 obtain⟨a,ns,rfl,hS,h63,q⟩:=h
 refine⟨_,(qa3 (qaf (i:=1) w3l.nd rfl (uI rfl) (qa9 ((wfp T).mono (by decide)) hr rfl T.wgj T.we1.kp T.wge .nil qah (qa0 (pv 0) (qa0 (qa9 ((w0p T).mono (by decide)) hr rfl T.w2c T.w25.kp T.w2b .nil qah (qa0 (qa9 ((w1y T).mono (by decide)) hr rfl T.w3i T.w38.kp T.w3j .nil qah (qa0 (pv 0) (qa0 qa4 qa2))) (qa0 qa4 (qa0 qa4 qa2)))) qa2))))
  (qa3 (qdj (pv 1) (qci rfl (qac (qab (i:=2) w3l.nd rfl (uI rfl)) (qac (qab (i:=3) w3l.nd rfl (uI rfl)) (qac (qab (i:=4) w3l.nd rfl (uI rfl)) (qac (qab (i:=5) w3l.nd rfl (uI rfl)) (qac (qab (i:=6) w3l.nd rfl (uI rfl)) (qac (qab (i:=7) w3l.nd rfl (uI rfl)) qbu))))))))
  (qa3 (qaf (i:=8) w3l.nd rfl (uI rfl) (qa9 ((wga T).mono (by decide)) hr rfl T.wh3 T.wfv.kp T.whb .nil qah (qa0 (pv 0) (qa0 (pv 1) qa2))))
  (qa3 (qaf (i:=9) w3l.nd rfl (uI rfl) (qa9 ((wde T).mono (by decide)) hr rfl T.wew T.wb5.kp T.wex .nil qah (qa0 (pv 1) qa2)))
  (qa3 (qaf (i:=10) w3l.nd rfl (uI rfl) (qa9 ((w3t T).mono (by decide)) hr rfl T.w5w T.w5g.kp T.w5t .nil qah (qa0 (pv 3) (qa0 (qak qap (pv 6) qa4 (fun _ _=>rfl)) qa2))))
  (qa3 (qaf (i:=11) w3l.nd rfl (uI rfl) (qa9 ((wfe T).mono (by decide)) hr rfl T.wgt T.wem.kp T.wg6 .nil qah (qa0 (pv 1) (qa0 (pv 8) (qa0 (pv 9) qa2)))))
  (qa3 (qaf (i:=12) w3l.nd rfl (uI rfl) (qa9 ((wez T).mono (by decide)) hr rfl T.wfj T.wd8.kp T.wfh .nil qah (qa0 (pv 1) (qa0 (qa9 ((we0 T).mono (by decide)) hr rfl T.wfd T.wd2.kp T.wfl .nil qah (qa0 (pv 0) (qa0 (pv 1) qa2))) qa2))))
  (qa3 (qaf (i:=13) w3l.nd rfl (uI rfl) (qa9 ((wbl T).mono (by decide)) hr rfl T.wcd T.w8d.kp T.wck .nil qah (qa0 (pv 8) (qa0 (pv 9) (qa0 (qak qal (pv 2) (qak qap (pv 6) qa4 (fun _ _=>rfl)) (fun _ _=>rfl)) (qa0 (pv 10) (qa0 (qak qap (pv 6) qa4 (fun _ _=>rfl)) (qa0 (qak qap (pv 6) qa4 (fun _ _=>rfl)) (qa0 (qbe qeb rfl T.wam xS (qa0 (pv 12) qa2)) qa2)))))))))
  (qa3 (qbg (PW.pt (pw_or (qcb (qbk (qai qc6 rfl T.w0r vV (qa0 (pv 13) (qa0 (qd7 (v:=.ty "bool") rfl T.wg1 PyProof.Rows.boot_bool rfl) qa2))))) (qer (qan op_ne (pv 13) (qfh (qbv qfw (pv 11) qcp (qat _)) (qec (qbv (op_eqD (hu8 hr)) (pv 11) (pv 12) (qat _)))) (qat _))))) (qa5 (qaj qfc)) qas)
  (qa5 (qaj (qa9 ((wdj T).mono (by decide)) hr rfl T.wen T.wbc.kp T.web .nil qah (qa0 (pv 9) (qa0 (pv 1) qa2)))))))))))))),?_⟩
 walk_at "d"
 try dsimp only [cxC]
 refine qag (σ:=[some (.ref a),none,none,none,none,none,none,none,none,none,none,none,none,none]) rfl ?_
 have ct:=T.w01
 left
 refine⟨a,ns,3,rfl,hS,by decide,by decide,h63,fun H0 s0=>?_⟩
 generalize qbq ns 3=c
 left
 refine qc3 (by decide) (by decide) (by decide) (by decide) fun r r0 r1=>?_
 obtain⟨m,rfl⟩:=wL r0
 have m30:m<=30:=by omega
 clear r0 r1
 left
 refine⟨a,ns,m,rfl,s0.seq hS,h63,m30,fun w H1 s1 hw ok=>?_⟩
 have hS1:=(s0.trans s1).seq hS
 have htp:=hw.tup
 clear s0 s1 hS
 left
 refine⟨a,ns,w.wt,w.ln,w.lw,w.le,w.lr,w.la,w.lc,w.las,w.cs,w.nm,w.ws,w.es,rfl,hS1,h63,hw.tup,hw.ln,hw.lw,hw.le,hw.lc,ok.cl,hw.cs,ok.nms,ok.wsn,ok.w1,ok.w6,by have:=ok.e5;omega,fun t S P wt H2 s2 enm ews ees etc pf hT hI=>?_⟩
 have hw2:=hw.same s2
 have nl:P.nm.length=w.es.length+1:=by rw [enm,ok.nms.len]
 rw [ok.nms.len] at hI
 have hS2:=s2.seq hS1
 clear hw s2 hS1 htp
 left
 refine⟨w.wt,w.ln,w.lw,w.le,w.lr,w.la,w.lc,P,w.Rs,rfl,hw2.tup,hw2.lr,by rw [enm];exact hw2.ln,by rw [ews];exact hw2.lw,by rw [ews];exact ok.w6,ok.r30,fun R hr=>by rw [nl,ews];exact hw2.rs R hr,fun lh bs H3 s3 elh hbs hB hU=>?_⟩
 have hw3:=hw2.same s3
 have hS3:=s3.seq hS2
 have hbl:bs.length=w.Rs.length:=by have:=congrArg xA hbs;rw [zB,zB] at this;exact this
 have hWd:WdAt K d H3 t lh S P bs (w.es.length+1):=⟨hT.same s3,hI.pl.wf,hI.pl,nl,fun j hj=>by
  obtain⟨e,ae,_,_⟩:=hI.pl.at hj
  exact⟨⟨e,ae⟩,hI.pl.dep 12 j hj (by have:=ok.e5;omega)⟩,by rw [ews];exact ok.w6,elh,by have:=ok.r30;omega,hB⟩
 have hWT:WTr K d H3 w t lh S P bs:=⟨hWd,enm,ews,ees⟩
 rw [ews] at hbs
 obtain⟨ss,pss,qss⟩:=sort_ex (qcr (tdK (w.ws.zip w.aps)))
 obtain⟨sw,psw,qsw⟩:=sort_ex w.ws
 have hA:=qdu (w.ws.zip w.aps)
 have hs6:ss.length<=6:=by
  have h1:=hA.le (ws:=w.ws) (fun z hz=>tdF_in ok.apl.symm z hz)
  have h2:=hA.klen
  have h3:=pss.length_eq
  have:=ok.w6
  omega
 have had:∀b∈bs,AD b.R.k b.R.f:=fun b hb=>(hB b hb).ad
 have xn:atI (w.nm.map V.str) ((w.h:Nat):Int)=some (.str (nmF P w.h)):=by
  have e:w.h < P.nm.length:=by rw [nl];exact ok.hh
  rw [qd9 e,<-enm]
  exact qav (by rw [zC,zA e];rfl)
 have hla3:=hw3.la
 have hhh:=ok.hh
 have e5:=ok.e5
 clear hw2 s3 hT hI pf etc hS2 elh hB
 generalize hhi:((w.h:Nat):Int)=hi at*
 left
 refine⟨w.lw,w.pa,w.ws,w.aps,rfl,SqL.of hw3.lw,SqL.of hw3.pa,ok.apl.symm,by have:=ok.w6;omega,fun am H4 s4 ham eam=>?_⟩
 have hw4:=hw3.same s4
 have hWT4:=hWT.same s4
 have hS4:=s4.seq hS3
 have hla4:=s4 _ _ hla3
 clear hw3 hWT hS3 hla3 s4 hWd
 left
 refine⟨w,t,lh,S,P,bs,ss,rfl,hw4,ok,hWT4,pss,qss,hs6,fun c5 H5 s5=>?_,fun c5 l gs H5 s5 nl5 el hG hgs=>?_⟩
 .have hw5:=hw4.same s5
  have hWT5:=hWT4.same s5
  have hS5:=s5.seq hS4
  have eam5:=s5 _ _ eam
  clear hw4 hWT4 hS4 hla4 s5 eam
  left
  refine⟨a,ns,w,P,sw,rfl,hS5,h63,hw5,ok,enm,psw,qsw,fun lg g H6 s6 elg=>?_⟩
  have hw6:=hw5.same s6
  left
  refine⟨w,lg,P,sw,g,rfl,hw6,ok,enm,psw,qsw,elg,fun lx xs H7 s7 nlx elx hxs=>?_⟩
  have t7:=s6.trans s7
  have hw7:=hw5.same t7
  have hWT7:=hWT5.same t7
  have hla7:=hw7.la
  have eam7:=t7 _ _ eam5
  rw [hhi] at hla7
  clear hw6 hw5 hWT5 s6 s7 t7 hS5 eam5
  left
  refine qb7 (SqL.of hw7.ln) xn ?_
  left
  refine qfr (SqL.of elx) fun ly hly=>?_
  have s8:=qa7 hly (.lst (gxV xs))
  have ely:upd H7 ly (.lst (gxV xs)) ly=some (.lst (gxV xs)):=qa1
  generalize upd H7 ly (.lst (gxV xs))=H8 at*
  have hw8:=hw7.same s8
  have hWT8:=hWT7.same s8
  left
  refine⟨t,lh,am,ly,S,P,bs,_,w.h,_,akF w,ss,w.rk,w.su,xs,rfl,hWT8.wd,by omega,hhh,s8 _ _ eam7,hA,pss,qss,hs6,ely,fun x hx=>(hxs x hx).same s8,fun _ H9 s9=>?_,fun c9 gs9 H9 s9 hgs9=>?_⟩
  rotate_left
  .obtain⟨p,h1,h2⟩:=c5
   have:=c9 p h1
   omega
  have hw9:=hw8.same s9
  have hWT9:=hWT8.same s9
  left
  refine⟨w,lh,P,bs,rfl,hw9,ok,enm,hWT9.wd.h,hWT9.wd.ob,hbs,hU,fun H10 _=>?_⟩
  exact q _
 have hw5:=hw4.same s5
 have hWT5:=hWT4.same s5
 have hS5:=s5.seq hS4
 have eam5:=s5 _ _ eam
 have hG5:∀g∈gs,GrAt H5 P g/\AD g.b.R.k g.b.R.f:=fun g hg=>⟨(hG g hg).1,had _ (hG g hg).2.1⟩
 clear hw4 hWT4 hS4 hla4 s5 eam hG
 left
 refine⟨a,ns,w,P,sw,rfl,hS5,h63,hw5,ok,enm,psw,qsw,fun lg g H6 s6 elg=>?_⟩
 have hw6:=hw5.same s6
 left
 refine⟨w,lg,P,sw,g,rfl,hw6,ok,enm,psw,qsw,elg,fun lx xs H7 s7 nlx elx hxs=>?_⟩
 have t7:=s6.trans s7
 have hw7:=hw5.same t7
 have hWT7:=hWT5.same t7
 have hla7:=hw7.la
 have eam7:=t7 _ _ eam5
 have nelx:l≠lx:=qa8 (s6 _ _ el) nlx
 have el7:=t7 _ _ el
 have hG7:∀g∈gs,GrAt H7 P g/\AD g.b.R.k g.b.R.f:=fun g hg=>⟨(hG5 g hg).1.same t7,(hG5 g hg).2⟩
 rw [hhi] at hla7
 clear hw6 hw5 hWT5 s6 s7 t7 hS5 eam5 hG5
 left
 refine qb7 (SqL.of hw7.ln) xn ?_
 left
 refine qfr (SqL.of elx) fun ly hly=>?_
 have s8:=qa7 hly (.lst (gxV xs))
 have ely:upd H7 ly (.lst (gxV xs)) ly=some (.lst (gxV xs)):=qa1
 generalize upd H7 ly (.lst (gxV xs))=H8 at*
 have hw8:=hw7.same s8
 have hWT8:=hWT7.same s8
 left
 refine⟨t,lh,am,ly,S,P,bs,_,w.h,_,akF w,ss,w.rk,w.su,xs,rfl,hWT8.wd,by omega,hhh,s8 _ _ eam7,hA,pss,qss,hs6,ely,fun x hx=>(hxs x hx).same s8,fun c9 H9 s9=>?_,fun _ gs9 H9 s9 hgs9=>?_⟩
 .obtain⟨p,h1,h2⟩:=c9
  have:=c5 p h1
  omega
 have hw9:=hw8.same s9
 have hWT9:=hWT8.same s9
 have t9:=s8.trans s9
 have eqv:gsEq xs (gs9.map (gxO P))=gsEq (gs.map (gxO P)) xs:=by
  rw [gsEq_comm (gs.map (gxO P)) xs]
  exact gsEq_o (hgs9.trans hgs.symm)
 rw [eqv]
 left
 rw [<-gxO_v P] at el7
 have dq:=deq_gs (K:=K) (t9 _ _ el7) (t9 _ _ elx) (fun x hx=>by
  obtain⟨g,hg,rfl⟩:=zK.mp hx
  exact gxO_at ((hG7 g hg).1.same t9) (hG7 g hg).2) (fun x hx=>(hxs x hx).same t9) nelx
 refine r_eqD nelx (by decide) dq ?_
 generalize gsEq (gs.map (gxO P)) xs=bb at*
 left
 refine⟨w,lh,P,bs,rfl,hw9,ok,enm,hWT9.wd.h,hWT9.wd.ob,hbs,hU,fun H10 _=>?_⟩
 exact q _
structure Fz (K:uR) (n:Str) (s:Stmt) (f:Addr) (fd:uM):Prop where
 a:xG K uT n=some (some (.ref f))
 F:Fun K n n s f fd
structure Fm (K:uR) (c:Addr) (n q:Str) (s:Stmt) (f:Addr) (fd:uM):Prop where
 a:vS K (.ref c) n=some (some (.ref f))
 F:Fun K n q s f fd
theorem Fz.m {K:uR} {n:Str} {s:Stmt} {f:Addr} {fd:uM} {h:vP} {mg:Str->Option uC} (g:Fz K n s f fd) (X:K.In h) (G:h.Ns uT mg):mg n=some (.ref f):=vO X G g.a
theorem ln1 {p:List uC->Prop} (h:∀x0:uC,p [x0]) (us:List uC) (e:us.length=1):p us:=by
 match us,e with
 | [x0],_=>exact h x0
theorem ln2 {p:List uC->Prop} (h:∀x0 x1:uC,p [x0,x1]) (us:List uC) (e:us.length=2):p us:=by
 match us,e with
 | [x0,x1],_=>exact h x0 x1
theorem ln3 {p:List uC->Prop} (h:∀x0 x1 x2:uC,p [x0,x1,x2]) (us:List uC) (e:us.length=3):p us:=by
 match us,e with
 | [x0,x1,x2],_=>exact h x0 x1 x2
theorem ln4 {p:List uC->Prop} (h:∀x0 x1 x2 x3:uC,p [x0,x1,x2,x3]) (us:List uC) (e:us.length=4):p us:=by
 match us,e with
 | [x0,x1,x2,x3],_=>exact h x0 x1 x2 x3
theorem ln5 {p:List uC->Prop} (h:∀x0 x1 x2 x3 x4:uC,p [x0,x1,x2,x3,x4]) (us:List uC) (e:us.length=5):p us:=by
 match us,e with
 | [x0,x1,x2,x3,x4],_=>exact h x0 x1 x2 x3 x4
theorem ln6 {p:List uC->Prop} (h:∀x0 x1 x2 x3 x4 x5:uC,p [x0,x1,x2,x3,x4,x5]) (us:List uC) (e:us.length=6):p us:=by
 match us,e with
 | [x0,x1,x2,x3,x4,x5],_=>exact h x0 x1 x2 x3 x4 x5
theorem ln7 {p:List uC->Prop} (h:∀x0 x1 x2 x3 x4 x5 x6:uC,p [x0,x1,x2,x3,x4,x5,x6]) (us:List uC) (e:us.length=7):p us:=by
 match us,e with
 | [x0,x1,x2,x3,x4,x5,x6],_=>exact h x0 x1 x2 x3 x4 x5 x6
theorem txt_mk {K:uR} {h:vP} {mg:Str->Option uC} {fa:Addr} {f_z0 f_z1 f_z2 f_z3 f_z4 f_z5 f_z6 f_z7 f_z8 f_z9 f_z10 f_z11 f_z12 f_z13 f_z14 f_z15 f_z16 f_z17 f_z18 f_z19 f_z20 f_z21 f_z22 f_z23 f_z24 f_z25 f_z26 f_z27 f_z28 f_z29 f_z30 f_z31 f_z32 f_z33 f_z34 f_z35 f_z36 f_z37 f_z38 f_z39 f_z40 f_z41 f_z42 f_z43 wca f_z45 f_z46 f_z47 f_z48 f_z49 f_z50 f_z51 f_z52 f_z53 f_z54 f_z55 f_z56 f_z57 f_z58 f_z59 f_z60 f_z61 f_z62 f_z63 f_z64 f_z65 f_z66 w03 w00 w0a w09 w4n w5q w6z w0c w1o w5p w2x w2w w44 w3z:Addr} {d_z0 d_z1 d_z2 d_z3 d_z4 d_z5 d_z6 d_z7 d_z8 d_z9 d_z10 d_z11 d_z12 d_z13 d_z14 d_z15 d_z16 d_z17 d_z18 d_z19 d_z20 d_z21 d_z22 d_z23 d_z24 d_z25 d_z26 d_z27 d_z28 d_z29 d_z30 d_z31 d_z32 d_z33 d_z34 d_z35 d_z36 d_z37 d_z38 d_z39 d_z40 d_z41 d_z42 d_z43 d_law d_z45 d_z48 d_z49 d_z50 d_z51 d_z52 d_z53 d_z54 d_z55 d_z56 d_z57 d_z58 d_z59 d_z60 d_z61 d_z62 d_z63 d_z64 d_z65 d_z66:uM} (X:K.In h) (G:h.Ns uT mg) (hfa:mg "law" =some (.ref fa))
  (g_z0:Fz K "is_whole" s_is_whole f_z0 d_z0)
  (g_z1:Fz K "is_name" s_is_name f_z1 d_z1)
  (g_z2:Fz K "is_whole_from" s_is_whole_from f_z2 d_z2)
  (g_z3:Fz K "is_amount" s_is_amount f_z3 d_z3)
  (g_z4:Fz K "amounts_of" s_amounts_of f_z4 d_z4)
  (g_z5:Fz K "above_nought" s_above_nought f_z5 d_z5)
  (g_z6:Fz K "amount_of" s_amount_of f_z6 d_z6)
  (g_z7:Fz K "added" s_added f_z7 d_z7)
  (g_z8:Fz K "beyond" s_beyond f_z8 d_z8)
  (g_z9:Fz K "total_of" s_total_of f_z9 d_z9)
  (g_z10:Fz K "holds_beneath" s_holds_beneath f_z10 d_z10)
  (g_z11:Fz K "held_by" s_held_by f_z11 d_z11)
  (g_z12:Fz K "used" s_used f_z12 d_z12)
  (g_z13:Fz K "fixed" s_fixed f_z13 d_z13)
  (g_z14:Fz K "rooms_left" s_rooms_left f_z14 d_z14)
  (g_z15:Fz K "parts_at" s_parts_at f_z15 d_z15)
  (g_z16:Fz K "first_beyond" s_first_beyond f_z16 d_z16)
  (g_z17:Fz K "claims" s_claims f_z17 d_z17)
  (g_z18:Fz K "is_claims" s_is_claims f_z18 d_z18)
  (g_z19:Fz K "are_wares" s_are_wares f_z19 d_z19)
  (g_z20:Fz K "check_name" s_check_name f_z20 d_z20)
  (g_z21:Fz K "read_house" s_read_house f_z21 d_z21)
  (g_z22:Fz K "check_promises" s_check_promises f_z22 d_z22)
  (g_z23:Fz K "_law_cell" s_cell f_z23 d_z23)
  (g_z24:Fz K "_law_mix" s_mix f_z24 d_z24)
  (g_z25:Fz K "_law_name" s_name f_z25 d_z25)
  (g_z26:Fz K "_law_lines" s_lines f_z26 d_z26)
  (g_z27:Fz K "_law_parts" s_parts f_z27 d_z27)
  (g_z28:Fz K "_law_rows" s_rows f_z28 d_z28)
  (g_z29:Fz K "_law_ends" s_ends f_z29 d_z29)
  (g_z30:Fz K "_law_sum" s_sum f_z30 d_z30)
  (g_z31:Fz K "_law_caps" s_caps f_z31 d_z31)
  (g_z32:Fz K "_law_world" s_world f_z32 d_z32)
  (g_z33:Fz K "_law_told" s_told f_z33 d_z33)
  (g_z34:Fz K "_law_promises" s_promises f_z34 d_z34)
  (g_z35:Fz K "_law_tree" s_tree f_z35 d_z35)
  (g_z36:Fz K "_law_objects" s_objects f_z36 d_z36)
  (g_z37:Fz K "_law_stay_so" s_stay_so f_z37 d_z37)
  (g_z38:Fz K "_law_short" s_short f_z38 d_z38)
  (g_z39:Fz K "_law_asked" s_asked f_z39 d_z39)
  (g_z40:Fz K "_law_no_room" s_no_room f_z40 d_z40)
  (g_z41:Fz K "_law_with_one" s_with_one f_z41 d_z41)
  (g_z42:Fz K "_law_chosen" s_chosen f_z42 d_z42)
  (g_z43:Fz K "_law_listed" s_listed f_z43 d_z43)
  (g_law:Fz K "law" s_law wca d_law)
  (g_z45:Fm K w03 "__init__" "House.__init__" s_House_init f_z45 d_z45)
  {od_z46 an_z46:Option Addr} {sl_z46:Array (Option uC)} {oc_z46 kV_z46 dc_z46 pm_z46 cd_z46 ct_z46 w0q:uC} {t_z46:Addr}
  (a_z46:vS K (.ref w00) "__init__" =some (some (.ref f_z46))) (l_z46:K.lookup f_z46=some ⟨oc_z46,od_z46,.func (fnOf "__init__" "Tree.__init__" (qce s_Tree_init) (qbx s_Tree_init) (qaa s_Tree_init) (.ref t_z46) kV_z46 dc_z46 pm_z46 an_z46 cd_z46 ct_z46),sl_z46⟩) (c_z46:gE K cd_z46 "Tree.__init__" =true) (k_z46:dB K (.ref f_z46)=true)
  {ob_z46:Obj} {nn_z46:Nat} (tt_z46:K.lookup t_z46=some ob_z46) (td_z46:ob_z46.data=.seq #[w0q] nn_z46) (rd_z46:qba [.int 1] [w0q])
  {od_z47 an_z47:Option Addr} {sl_z47:Array (Option uC)} {oc_z47 kV_z47 dc_z47 pm_z47 cd_z47 ct_z47 w0h:uC} {t_z47:Addr}
  (a_z47:vS K (.ref w00) "found" =some (some (.ref f_z47))) (l_z47:K.lookup f_z47=some ⟨oc_z47,od_z47,.func (fnOf "found" "Tree.found" (qce s_Tree_found) (qbx s_Tree_found) (qaa s_Tree_found) (.ref t_z47) kV_z47 dc_z47 pm_z47 an_z47 cd_z47 ct_z47),sl_z47⟩) (c_z47:gE K cd_z47 "Tree.found" =true) (k_z47:dB K (.ref f_z47)=true)
  {ob_z47:Obj} {nn_z47:Nat} (tt_z47:K.lookup t_z47=some ob_z47) (td_z47:ob_z47.data=.seq #[w0h] nn_z47) (rd_z47:qba [.int 1] [w0h])
  (g_z48:Fm K w00 "wares" "Tree.wares" s_Tree_wares f_z48 d_z48)
  (g_z49:Fm K w00 "names" "Tree.names" s_Tree_names f_z49 d_z49)
  (g_z50:Fm K w00 "has" "Tree.has" s_Tree_has f_z50 d_z50)
  (g_z51:Fm K w00 "check_house" "Tree.check_house" s_Tree_check_house f_z51 d_z51)
  (g_z52:Fm K w00 "house_of" "Tree.house_of" s_Tree_house_of f_z52 d_z52)
  (g_z53:Fm K w00 "elder_of" "Tree.elder_of" s_Tree_elder_of f_z53 d_z53)
  (g_z54:Fm K w00 "cap_of" "Tree.cap_of" s_Tree_cap_of f_z54 d_z54)
  (g_z55:Fm K w00 "kids" "Tree.kids" s_Tree_kids f_z55 d_z55)
  (g_z56:Fm K w00 "line" "Tree.line" s_Tree_line f_z56 d_z56)
  (g_z57:Fm K w00 "beneath" "Tree.beneath" s_Tree_beneath f_z57 d_z57)
  (g_z58:Fm K w00 "promised_beneath" "Tree.promised_beneath" s_Tree_promised_beneath f_z58 d_z58)
  (g_z59:Fm K w00 "check_more" "Tree.check_more" s_Tree_check_more f_z59 d_z59)
  (g_z60:Fm K w0a "__init__" "Hold.__init__" s_Hold_init f_z60 d_z60)
  (g_z61:Fm K w0a "is_sure" "Hold.is_sure" s_Hold_is_sure f_z61 d_z61)
  (g_z62:Fm K w0a "may_end" "Hold.may_end" s_Hold_may_end f_z62 d_z62)
  (g_z63:Fm K w0a "told" "Hold.told" s_Hold_told f_z63 d_z63)
  (g_z64:Fm K w09 "is_sure" "Loan.is_sure" s_Loan_is_sure f_z64 d_z64)
  (g_z65:Fm K w09 "may_end" "Loan.may_end" s_Loan_may_end f_z65 d_z65)
  (g_z66:Fm K w1o "__init__" "NoPromise.__init__" s_i_NoPromise f_z66 d_z66)
  (qi_z66:initIn K w1o f_z66=true) (hi_z66:isFn K (.ref f_z66)=true)
  (a_House:xG K uT "House" =some (some (.ref w03)))
  (a_Tree:xG K uT "Tree" =some (some (.ref w00)))
  (a_Hold:xG K uT "Hold" =some (some (.ref w0a)))
  (a_Loan:xG K uT "Loan" =some (some (.ref w09)))
  (a_TreeError:xG K uT "TreeError" =some (some (.ref w4n)))
  (a_NoName:xG K uT "NoName" =some (some (.ref w5q)))
  (a_Taken:xG K uT "Taken" =some (some (.ref w6z)))
  (a_NoHouse:xG K uT "NoHouse" =some (some (.ref w0c)))
  (a_NoPromise:xG K uT "NoPromise" =some (some (.ref w1o)))
  (a_NoWare:xG K uT "NoWare" =some (some (.ref w5p)))
  (a_NoAmount:xG K uT "NoAmount" =some (some (.ref w2x)))
  (a_NoNumber:xG K uT "NoNumber" =some (some (.ref w2w)))
  (a_TooMany:xG K uT "TooMany" =some (some (.ref w44)))
  (a_TooDeep:xG K uT "TooDeep" =some (some (.ref w3z)))
  {w41:uC} (a_LETTERS:xG K uT "LETTERS" =some (some w41)) (w57:qbb (.str "abcdefghijklmnopqrstuvwxyz") w41)
  {w0x:uC} (a_LONGEST_NAME:xG K uT "LONGEST_NAME" =some (some w0x)) (w1f:qbb (.int 8) w0x)
  {w1q:uC} (a_MOST_WARES:xG K uT "MOST_WARES" =some (some w1q)) (w2h:qbb (.int 6) w1q)
  {w1d:uC} (a_MOST_HOUSES:xG K uT "MOST_HOUSES" =some (some w1d)) (w1r:qbb (.int 40) w1d)
  {w15:uC} (a_LONGEST_LINE:xG K uT "LONGEST_LINE" =some (some w15)) (w1i:qbb (.int 12) w15)
  {w0d:uC} (a_GREATEST_WEIGHT:xG K uT "GREATEST_WEIGHT" =some (some w0d)) (w0m:qbb (.int 1000) w0d)
  (q_NoHouse:fK K w0c [.type "ValueError",.type "Exception",.type "BaseException",.type "object"] "ValueError.__new__" =true)
  (q_NoAmount:fK K w2x [.type "ValueError",.type "Exception",.type "BaseException",.type "object"] "ValueError.__new__" =true)
  (q_NoWare:fK K w5p [.type "ValueError",.type "Exception",.type "BaseException",.type "object"] "ValueError.__new__" =true)
  (q_NoName:fK K w5q [.type "ValueError",.type "Exception",.type "BaseException",.type "object"] "ValueError.__new__" =true)
  (q_NoNumber:fK K w2w [.type "ValueError",.type "Exception",.type "BaseException",.type "object"] "ValueError.__new__" =true)
  (q_Taken:fK K w6z [.type "ValueError",.type "Exception",.type "BaseException",.type "object"] "ValueError.__new__" =true)
  (q_TooMany:fK K w44 [.type "ValueError",.type "Exception",.type "BaseException",.type "object"] "ValueError.__new__" =true)
  (q_TooDeep:fK K w3z [.type "ValueError",.type "Exception",.type "BaseException",.type "object"] "ValueError.__new__" =true)
  (w18:Meth K w0a "is_sure" f_z61)
  (w1b:Meth K w09 "is_sure" f_z64)
  (w2d:Meth K w0a "told" f_z63)
  (w2f:Meth K w09 "told" f_z63)
  (w0l:Meth K w0a "may_end" f_z62)
  (w0n:Meth K w09 "may_end" f_z65)
  (w1k:Cls K w03)
  (w01:Cls K w00)
  (w6q:Mk K w03 f_z45)
  (w7u:Mk K w00 f_z46)
  (w4b:Cls K w0a)
  (w3x:Cls K w09)
  (w8m:Mk K w0a f_z60)
  (w8u:Mk K w09 f_z60)
  (w21:Meth K w00 "found" f_z47)
  (w2u:Meth K w00 "wares" f_z48)
  (w2t:Meth K w00 "names" f_z49)
  (w23:Meth K w00 "has" f_z50)
  (w04:Meth K w00 "check_house" f_z51)
  (w0e:Meth K w00 "house_of" f_z52)
  (w0f:Meth K w00 "elder_of" f_z53)
  (w1h:Meth K w00 "cap_of" f_z54)
  (w2e:Meth K w00 "kids" f_z55)
  (w17:Meth K w00 "line" f_z56)
  (w08:Meth K w00 "beneath" f_z57)
  (w05:Meth K w00 "promised_beneath" f_z58)
  (w0g:Meth K w00 "check_more" f_z59)
  (w0j:vS K (.ref w03) "elder" =some none)
  (w07:vS K (.ref w03) "promise" =some none)
  (w0i:vS K (.ref w03) "cap" =some none)
  (w19:vS K (.ref w03) "weight" =some none)
  (w06:vS K (.ref w00) "sorted_wares" =some none)
  (w02:vS K (.ref w00) "houses" =some none)
  (w1j:vS K (.ref w0a) "number" =some none)
  (w1w:vS K (.ref w0a) "house" =some none)
  (w1a:vS K (.ref w0a) "amounts" =some none)
  (w2g:vS K (.ref w0a) "rank" =some none)
  (w1v:vS K (.ref w0a) "turns" =some none)
  (w1g:vS K (.ref w09) "number" =some none)
  (w1z:vS K (.ref w09) "house" =some none)
  (w1c:vS K (.ref w09) "amounts" =some none)
  (w1p:vS K (.ref w09) "rank" =some none)
  (w20:vS K (.ref w09) "turns" =some none)
  (y_all:xG K uT "all" =some none)
  (y_any:xG K uT "any" =some none)
  (y_bool:xG K uT "bool" =some none)
  (y_dict:xG K uT "dict" =some none)
  (y_enumerate:xG K uT "enumerate" =some none)
  (y_int:xG K uT "int" =some none)
  (y_isinstance:xG K uT "isinstance" =some none)
  (y_len:xG K uT "len" =some none)
  (y_list:xG K uT "list" =some none)
  (y_max:xG K uT "max" =some none)
  (y_min:xG K uT "min" =some none)
  (y_range:xG K uT "range" =some none)
  (y_reversed:xG K uT "reversed" =some none)
  (y_set:xG K uT "set" =some none)
  (y_sorted:xG K uT "sorted" =some none)
  (y_str:xG K uT "str" =some none)
  (y_sum:xG K uT "sum" =some none)
  (y_zip:xG K uT "zip" =some none)
  :∃d:Ad,Tx K mg d/\fa=d.wca/\∀(s:uE) (v:uC),eI s d.wbo ⟨[v], []⟩ [("_law_script",v)]:=by
 have e:=hfa.symm.trans (g_law.m X G)
 cases e
 have Fl:=g_law.F
 obtain⟨_,_,_,_,_,_,_,_,_,rfl,_,_⟩:=Fl.ex
 have F_z46:=funD_mk (st:=s_Tree_init) l_z46 c_z46 k_z46 tt_z46 td_z46
 have b_z46:qao K _ ["self","wares","name","promise","cap","weight"] []:=F_z46.binds (ps:=["self","wares","name","promise","cap","weight"]) fun _ _ _ _ _ _ us hl=>by have e:us.length=6:=(by simpa using hl);clear hl;revert us e;exact ln6 fun _ _ _ _ _ _=>by first|exact .inl rfl|exact .inr ⟨_,rfl,rfl⟩
 have b1_z46:qao K _ ["self","wares","name","promise","cap","weight"] [w0q]:=F_z46.binds (ps:=["self","wares","name","promise","cap","weight"]) fun _ _ _ _ _ _ us hl=>by have e:us.length=5:=(by simpa using hl);clear hl;revert us e;exact ln5 fun _ _ _ _ _=>by first|exact .inl rfl|exact .inr ⟨_,rfl,rfl⟩
 have F_z47:=funD_mk (st:=s_Tree_found) l_z47 c_z47 k_z47 tt_z47 td_z47
 have b_z47:qao K _ ["self","name","elder","promise","cap","weight"] []:=F_z47.binds (ps:=["self","name","elder","promise","cap","weight"]) fun _ _ _ _ _ _ us hl=>by have e:us.length=6:=(by simpa using hl);clear hl;revert us e;exact ln6 fun _ _ _ _ _ _=>by first|exact .inl rfl|exact .inr ⟨_,rfl,rfl⟩
 have b1_z47:qao K _ ["self","name","elder","promise","cap","weight"] [w0h]:=F_z47.binds (ps:=["self","name","elder","promise","cap","weight"]) fun _ _ _ _ _ _ us hl=>by have e:us.length=5:=(by simpa using hl);clear hl;revert us e;exact ln5 fun _ _ _ _ _=>by first|exact .inl rfl|exact .inr ⟨_,rfl,rfl⟩
 refine⟨⟨_,_,_,_,_,_,_,_,_,_,_,_,_,_,_,_,_,_,_,_,_,_,_,_,_,_,_,_,_,_,_,_,_,_,_,_,_,_,_,_,_,_,_,_,_,_,_,_,_,_,_,_,_,_,_,_,_,_,_,_,_,_,_,_,_,_,_,_,_,_,_,_,_,_,_,_,_,_,_,_,_,_,_,_,_,_,_,_,_,_,_,_,_,_,t_z46,w0q,_,_,t_z47,w0h,_,_,_,_,_,_,_,_,_,_,_,_,_,_,_,_,_,_,_,_,_,_,_,_,_,_,_,_,_,_,_,_,_,_,_,_,_,_,w03,w00,w0a,w09,w4n,w5q,w6z,w0c,w1o,w5p,w2x,w2w,w44,w3z,w41,w0x,w1q,w1d,w15,w0d⟩,⟨g_z0.F,g_z0.m X G,g_z0.F.binds fun _ _ _ _ _ _=>ln1 fun _=>rfl,g_z1.F,g_z1.m X G,g_z1.F.binds fun _ _ _ _ _ _=>ln1 fun _=>rfl,g_z2.F,g_z2.m X G,g_z2.F.binds fun _ _ _ _ _ _=>ln3 fun _ _ _=>rfl,g_z3.F,g_z3.m X G,g_z3.F.binds fun _ _ _ _ _ _=>ln1 fun _=>rfl,g_z4.F,g_z4.m X G,g_z4.F.binds fun _ _ _ _ _ _=>ln2 fun _ _=>rfl,g_z5.F,g_z5.m X G,g_z5.F.binds fun _ _ _ _ _ _=>ln1 fun _=>rfl,g_z6.F,g_z6.m X G,g_z6.F.binds fun _ _ _ _ _ _=>ln2 fun _ _=>rfl,g_z7.F,g_z7.m X G,g_z7.F.binds fun _ _ _ _ _ _=>ln2 fun _ _=>rfl,g_z8.F,g_z8.m X G,g_z8.F.binds fun _ _ _ _ _ _=>ln2 fun _ _=>rfl,g_z9.F,g_z9.m X G,g_z9.F.binds fun _ _ _ _ _ _=>ln1 fun _=>rfl,g_z10.F,g_z10.m X G,g_z10.F.binds fun _ _ _ _ _ _=>ln3 fun _ _ _=>rfl,g_z11.F,g_z11.m X G,g_z11.F.binds fun _ _ _ _ _ _=>ln1 fun _=>rfl,g_z12.F,g_z12.m X G,g_z12.F.binds fun _ _ _ _ _ _=>ln3 fun _ _ _=>rfl,g_z13.F,g_z13.m X G,g_z13.F.binds fun _ _ _ _ _ _=>ln3 fun _ _ _=>rfl,g_z14.F,g_z14.m X G,g_z14.F.binds fun _ _ _ _ _ _=>ln4 fun _ _ _ _=>rfl,g_z15.F,g_z15.m X G,g_z15.F.binds fun _ _ _ _ _ _=>ln3 fun _ _ _=>rfl,g_z16.F,g_z16.m X G,g_z16.F.binds fun _ _ _ _ _ _=>ln2 fun _ _=>rfl,g_z17.F,g_z17.m X G,g_z17.F.binds fun _ _ _ _ _ _=>ln6 fun _ _ _ _ _ _=>rfl,g_z18.F,g_z18.m X G,g_z18.F.binds fun _ _ _ _ _ _=>ln7 fun _ _ _ _ _ _ _=>rfl,g_z19.F,g_z19.m X G,g_z19.F.binds fun _ _ _ _ _ _=>ln1 fun _=>rfl,g_z20.F,g_z20.m X G,g_z20.F.binds fun _ _ _ _ _ _=>ln1 fun _=>rfl,g_z21.F,g_z21.m X G,g_z21.F.binds fun _ _ _ _ _ _=>ln5 fun _ _ _ _ _=>rfl,g_z22.F,g_z22.m X G,g_z22.F.binds fun _ _ _ _ _ _=>ln3 fun _ _ _=>rfl,g_z23.F,g_z23.m X G,g_z23.F.binds fun _ _ _ _ _ _=>ln2 fun _ _=>rfl,g_z24.F,g_z24.m X G,g_z24.F.binds fun _ _ _ _ _ _=>ln3 fun _ _ _=>rfl,g_z25.F,g_z25.m X G,g_z25.F.binds fun _ _ _ _ _ _=>ln2 fun _ _=>rfl,g_z26.F,g_z26.m X G,g_z26.F.binds fun _ _ _ _ _ _=>ln2 fun _ _=>rfl,g_z27.F,g_z27.m X G,g_z27.F.binds fun _ _ _ _ _ _=>ln3 fun _ _ _=>rfl,g_z28.F,g_z28.m X G,g_z28.F.binds fun _ _ _ _ _ _=>ln5 fun _ _ _ _ _=>rfl,g_z29.F,g_z29.m X G,g_z29.F.binds fun _ _ _ _ _ _=>ln2 fun _ _=>rfl,g_z30.F,g_z30.m X G,g_z30.F.binds fun _ _ _ _ _ _=>ln4 fun _ _ _ _=>rfl,g_z31.F,g_z31.m X G,g_z31.F.binds fun _ _ _ _ _ _=>ln4 fun _ _ _ _=>rfl,g_z32.F,g_z32.m X G,g_z32.F.binds fun _ _ _ _ _ _=>ln2 fun _ _=>rfl,g_z33.F,g_z33.m X G,g_z33.F.binds fun _ _ _ _ _ _=>ln2 fun _ _=>rfl,g_z34.F,g_z34.m X G,g_z34.F.binds fun _ _ _ _ _ _=>ln3 fun _ _ _=>rfl,g_z35.F,g_z35.m X G,g_z35.F.binds fun _ _ _ _ _ _=>ln2 fun _ _=>rfl,g_z36.F,g_z36.m X G,g_z36.F.binds fun _ _ _ _ _ _=>ln1 fun _=>rfl,g_z37.F,g_z37.m X G,g_z37.F.binds fun _ _ _ _ _ _=>ln2 fun _ _=>rfl,g_z38.F,g_z38.m X G,g_z38.F.binds fun _ _ _ _ _ _=>ln2 fun _ _=>rfl,g_z39.F,g_z39.m X G,g_z39.F.binds fun _ _ _ _ _ _=>ln3 fun _ _ _=>rfl,g_z40.F,g_z40.m X G,g_z40.F.binds fun _ _ _ _ _ _=>ln2 fun _ _=>rfl,g_z41.F,g_z41.m X G,g_z41.F.binds fun _ _ _ _ _ _=>ln2 fun _ _=>rfl,g_z42.F,g_z42.m X G,g_z42.F.binds fun _ _ _ _ _ _=>ln2 fun _ _=>rfl,g_z43.F,g_z43.m X G,g_z43.F.binds fun _ _ _ _ _ _=>ln2 fun _ _=>rfl,Fl,g_law.m X G,g_z45.F,g_z45.F.binds fun _ _ _ _ _ _=>ln5 fun _ _ _ _ _=>rfl,F_z46,b_z46,b1_z46,rd_z46,F_z47,b_z47,b1_z47,rd_z47,g_z48.F,g_z48.F.binds fun _ _ _ _ _ _=>ln1 fun _=>rfl,g_z49.F,g_z49.F.binds fun _ _ _ _ _ _=>ln1 fun _=>rfl,g_z50.F,g_z50.F.binds fun _ _ _ _ _ _=>ln2 fun _ _=>rfl,g_z51.F,g_z51.F.binds fun _ _ _ _ _ _=>ln2 fun _ _=>rfl,g_z52.F,g_z52.F.binds fun _ _ _ _ _ _=>ln2 fun _ _=>rfl,g_z53.F,g_z53.F.binds fun _ _ _ _ _ _=>ln2 fun _ _=>rfl,g_z54.F,g_z54.F.binds fun _ _ _ _ _ _=>ln2 fun _ _=>rfl,g_z55.F,g_z55.F.binds fun _ _ _ _ _ _=>ln2 fun _ _=>rfl,g_z56.F,g_z56.F.binds fun _ _ _ _ _ _=>ln2 fun _ _=>rfl,g_z57.F,g_z57.F.binds fun _ _ _ _ _ _=>ln2 fun _ _=>rfl,g_z58.F,g_z58.F.binds fun _ _ _ _ _ _=>ln2 fun _ _=>rfl,g_z59.F,g_z59.F.binds fun _ _ _ _ _ _=>ln3 fun _ _ _=>rfl,g_z60.F,g_z60.F.binds fun _ _ _ _ _ _=>ln6 fun _ _ _ _ _ _=>rfl,g_z61.F,g_z61.F.binds fun _ _ _ _ _ _=>ln1 fun _=>rfl,g_z62.F,g_z62.F.binds fun _ _ _ _ _ _=>ln3 fun _ _ _=>rfl,g_z63.F,g_z63.F.binds fun _ _ _ _ _ _=>ln1 fun _=>rfl,g_z64.F,g_z64.F.binds fun _ _ _ _ _ _=>ln1 fun _=>rfl,g_z65.F,g_z65.F.binds fun _ _ _ _ _ _=>ln3 fun _ _ _=>rfl,g_z66.F,xcli_of qi_z66 hi_z66,g_z66.F.binds fun _ _ _ _ _ _=>ln3 fun _ _ _=>rfl,vO X G a_House,vO X G a_Tree,vO X G a_Hold,vO X G a_Loan,vO X G a_TreeError,vO X G a_NoName,vO X G a_Taken,vO X G a_NoHouse,vO X G a_NoPromise,vO X G a_NoWare,vO X G a_NoAmount,vO X G a_NoNumber,vO X G a_TooMany,vO X G a_TooDeep,vO X G a_LETTERS,w57,vO X G a_LONGEST_NAME,w1f,vO X G a_MOST_WARES,w2h,vO X G a_MOST_HOUSES,w1r,vO X G a_LONGEST_LINE,w1i,vO X G a_GREATEST_WEIGHT,w0m,vJ X G y_all,vJ X G y_any,vJ X G y_bool,vJ X G y_dict,vJ X G y_enumerate,vJ X G y_int,vJ X G y_isinstance,vJ X G y_len,vJ X G y_list,vJ X G y_max,vJ X G y_min,vJ X G y_range,vJ X G y_reversed,vJ X G y_set,vJ X G y_sorted,vJ X G y_str,vJ X G y_sum,vJ X G y_zip,w18,w1b,w2d,w2f,w0l,w0n,w1k,w01,w6q,w7u,w4b,w3x,w8m,w8u,w21,w2u,w2t,w23,w04,w0e,w0f,w1h,w2e,w17,w08,w05,w0g,w0j,w07,w0i,w19,w06,w02,w1j,w1w,w1a,w2g,w1v,w1g,w1z,w1c,w1p,w20,qd2 q_NoHouse,qd2 q_NoAmount,qd2 q_NoWare,qd2 q_NoName,qd2 q_NoNumber,qd2 q_Taken,qd2 q_TooMany,qd2 q_TooDeep⟩,rfl,fun s v=> .of_eq rfl⟩
theorem walk {l:PySem.W.OpenLaw} {q:uY} {loose:List Str} {XP:(Str->Option uC)->vP->Prop} {YP:vL->vP->Prop} {e:DefRec} {K:Params->uR} (hn:l.most=some 63) (hdf:e.params.defaults=[]) (hlaw:e.name= "law")
  (hY:∀(w:vL) (h:vP),YP w h->(K w.params).In h)
  (F:∀(w:vL) (mg:Str->Option uC) (fa:Addr) (h:vP),(K w.params).In h->h.Ns uT mg->mg "law" =some (.ref fa)->∃d:Ad,Tx (K w.params) mg d/\fa=d.wca/\∀(s:uE) (v:uC),eI s d.wbo ⟨[v], []⟩ [("_law_script",v)]):
  PySem.W.WalkO q loose XP YP l.row.toRowW e [] (fun f vs=>PySem.call f vs):=by
 refine L2.walk_of (n:=63) (k:=26) (x:="_law_script") (CX:=fun _=>CX0) (sp:=fun w=>sp_law0 (K w.params)) hn (by decide) hdf ⟨rfl,by decide,by decide⟩ hY (fun w mg fa h KX G hm=>?_) (fun _ _ a ns hl _ hS=>⟨a,ns,rfl,hS,hl,fun _=>rfl⟩) fun _ _ _ _ _ z=>z
 rw [hlaw] at hm
 obtain⟨d,T,rfl,hb⟩:=F w mg fa h KX G hm
 exact⟨d.wbo,hb,fun base _ _=>(ok_law (P:=l.prog) (w:=w) (base:=base) T).imp fun vs H Q E q=>q⟩
end Our
namespace PySem.W.Fast
def tw17548033493519699828:=0
def tw9941247145697359859:=0
def tw17128252901219546663:=0
def tw635515691286372989:=0
def tw2250302524978458079:=0
def tw1609151218040094222:=0
def tw6552018147795784854:=0
def tw2344295810163763433:=0
def tw8032061801692400991:=0
def tw12309584618965623053:=0
def tw15834603358727143562:=0
def tw185722816254917671:=0
def tw18169052747156878530:=0
def tw7024272959521014541:=0
def tw5325837432489556724:=0
def tw11542503202920788136:=0
def tw6561726872752682960:=0
def tw11556468447020003405:=0
def tw18050908408656494743:=0
def tw13116806586260987010:=0
def tw2827420398446220221:=0
def tw3971075533778032582:=0
def tw3660405579201821018:=0
def tw3110300801165874795:=0
def tw5244306487688939409:=0
def tw13682358265102360325:=0
def tw6374128250207148830:=0
def tw9941295410648370625:=0
def tw8683662953249058553:=0
def tw11904640013010421923:=0
def tw12437451750131989708:=0
def tw7326613828398472049:=0
def tw16232277911526948368:=0
def tw715078622665954215:=0
def tw16408840822724966357:=0
def tw13272621193305334019:=0
def tw3632567014614808224:=0
def tw10860540667375842179:=0
def tw8005901555515581769:=0
def tw1100163789250579084:=0
def tw505742113481463073:=0
def tw16085147825475431470:=0
def tw16794260948984847838:=0
def tw12702851644069024116:=0
def tw3707029672441734834:=0
def tw10929486962884387368:=0
def tw11284107291046790935:=0
def tw9801906938371209227:=0
def tw738101515793933113:=0
def tw15455037047172427836:=0
def tw9859840310347486430:=0
def tw14612007264369947440:=0
def tw3699778311910731074:=0
def tw14833508446215808344:=0
def tw10524003992076959358:=0
def tw4686299854865184737:=0
def tw9002986611484841143:=0
def tw945783832776749188:=0
def tw12091610901637319264:=0
def tw1236074231452429863:=0
def tw11852528668527673376:=0
def tw15280242632239504228:=0
def tw5130428113327128775:=0
def tw17952469929434334742:=0
def tw12416450833763328473:=0
def tw1377521818809737269:=0
def tw18202441015686096456:=0
def tw11809107191041718009:=0
def tw3737577730329776180:=0
def tw15332208070866797074:=0
def tw6425403076082203622:=0
def tw12669267818929588794:=0
def tw220754268669245145:=0
def tw3340488562939202670:=0
def tw8469265642024604212:=0
def tw17440918479058164835:=0
def tw10407825267824217714:=0
def tw7021894782270387347:=0
def tw6040078924095104353:=0
def tw1778343797593840426:=0
def tw17094429727824795642:=0
def tw5268096915608447357:=0
def tw11800317595839270743:=0
def tw2879733554484741397:=0
def tw186505122010548190:=0
def tw17830269753775661579:=0
def tw3673020761287117669:=0
def tw11879296120532057071:=0
def tw9457582247257126354:=0
def tw9607693358955243802:=0
def tw9765869161792752712:=0
def tw4134747911050142834:=0
def tw11061016758742792839:=0
def tw7075070788039939018:=0
def tw16611782924314937701:=0
def tw11743053876607491579:=0
def tw7161168236367304255:=0
def tw5476052501914591700:=0
def tw8248041803848879356:=0
def tw7569624413982169273:=0
def tw15268336267214280691:=0
def tw17007191925297112244:=0
def tw1968409373906644910:=0
def tw12252997353936970406:=0
def tw12075685361416271052:=0
def tw1796369093459026353:=0
def tw15113242947348523963:=0
def tw14006366639842040011:=0
def tw226998245437363172:=0
def tw10039943614384037853:=0
def tw895133576283587977:=0
def tw5360934139825811474:=0
def tw13074390854332845011:=0
def tw10564069605011989487:=0
def tw7585337217808626555:=0
def tw8860409935979056351:=0
def tw1369489657436012885:=0
def tw11051971941967226368:=0
def tw11627829637724770201:=0
def tw4943471634981412280:=0
def tw11546701248948104183:=0
def tw4022967286239413145:=0
def tw4707134340198442700:=0
def tw13385437639459546847:=0
def tw4353181924095774046:=0
def tw14722924016056994878:=0
def tw8664351204659037398:=0
def tw15397083492599657113:=0
def tw2108452410918993813:=0
def tw3397073935036564591:=0
def tw15159346666897849723:=0
def tw11024239922941910296:=0
def tw9857760755401638030:=0
def tw16644382545693866521:=0
def tw3691191153457175859:=0
def tw11546287923608403610:=0
def tw11999808287665357633:=0
def tw14084117314883368439:=0
def tw712879811673397536:=0
def tw10024425889186202587:=0
def tw10869988160069912063:=0
def tw9409383987219437202:=0
def tw5481382169527424295:=0
def tw11210206070117427421:=0
def tw5466059837302681151:=0
def tw16375654363649735449:=0
def tw2921537131232440022:=0
def tw17962810788454721223:=0
def tw10654390203970830349:=0
def tw8578644891947388071:=0
def tw10722119802460201079:=0
def tw5601797233000683789:=0
def tw3150740497604264991:=0
def tw6311166961263145027:=0
def tw12564617950039518484:=0
def tw5817514621832754789:=0
def tw2038727567122936306:=0
def tw9437674230287298791:=0
def tw17569925372556751253:=0
def tw16061936499499248635:=0
def tw6513533152999246049:=0
def tw3085190634331679983:=0
def tw8523889745512459360:=0
def tw2707829075180523082:=0
def tw7281334248383901573:=0
def tw16429883760341884781:=0
def tw1641157754322300735:=0
def tw3318310729619945998:=0
def tw10643883385996179460:=0
def tw9759171356958663810:=0
def tw17373025015259888889:=0
def tw13511517698146409075:=0
def tw15814435182508001034:=0
def tw16142509807717305523:=0
def tw483165826022778552:=0
def tw14072222423597801841:=0
def tw8235306948459586415:=0
def tw2696204068439401425:=0
def tw2271011497522660290:=0
def tw5275381322238147592:=0
def tw16652845642197406820:=0
def tw10418156941244954958:=0
def tw4908336035027943256:=0
def tw2626098465792908780:=0
def tw8418888430937037564:=0
def tw14723492139114209795:=0
def tw667859889647757188:=0
def tw14145312992130446843:=0
def tw10982212382375227521:=0
def tw16655309576548389319:=0
def tw7082291650140374899:=0
def tw6846862838255414381:=0
def tw5285443670349728476:=0
def tw941289247287995230:=0
def tw8506581534188190182:=0
def tw17905001580383572872:=0
def tw5156526930826824330:=0
def tw4997940414820147173:=0
def tw12679775381974110104:=0
def tw3943873657520528915:=0
def tw3152724660918937285:=0
def tw4644042086129205504:=0
def tw2079522416226566566:=0
def tw6879376714331575328:=0
def tw14603779754667966085:=0
def tw13201372412486400729:=0
def tw14317852149394677310:=0
def tw17389376340076695903:=0
def tw6916580822694711730:=0
def tw8722607117124760317:=0
def tw14861875621392015096:=0
def tw14166478997508283884:=0
def tw17482801134342809664:=0
def tw10445949002789467358:=0
def tw14037763098966506454:=0
def tw10304311302201256344:=0
def tw3424684587129634570:=0
def tw17443321467991316830:=0
def tw1345717594740996014:=0
def tw5288035572364212249:=0
def tw10125818656175083883:=0
def tw15254230162013698269:=0
def tw12220767866115288943:=0
def tw12159041075151231136:=0
def tw16472302304709141070:=0
def tw77241053052007294:=0
def tw9460718470930824429:=0
def tw3670050412128206369:=0
def tw7381454925385333443:=0
def tw4924372541259850336:=0
def tw11321013377266977171:=0
def tw14236653803194156478:=0
def tw12045015303662713358:=0
def tw9551675380052411783:=0
def tw3968267300954098758:=0
def tw10471024234555698522:=0
def tw8001551793428273754:=0
def tw3392365946898996774:=0
def tw1286365366197340066:=0
def tw977376838389699345:=0
def tw16713916639664850014:=0
def tw5113182672860034531:=0
def tw18383582451479773678:=0
def tw7315494283808279310:=0
def tw16797473610461317747:=0
def tw14204909976779030806:=0
def tw6270105396078657344:=0
def tw5791877429036525846:=0
def tw290144223117777307:=0
def tw14349432455524498630:=0
def tw13360770723845763018:=0
def tw11754731012604924872:=0
def tw6993635346218338226:=0
def tw15429370243887694365:=0
def tw7422243779390560840:=0
def tw2825655967991152645:=0
def tw16252102726931472261:=0
def tw17630196557121374878:=0
def tw1062493330012014776:=0
def tw9129525909122490485:=0
def tw9185888037722401285:=0
def tw661585857262322071:=0
def tw8658838905059335197:=0
def tw1511303146905183323:=0
def tw15693115088882798374:=0
def tw5653651281194874072:=0
def tw16067067581537908549:=0
def tw12898004393368731428:=0
def tw16366832567863545374:=0
def tw8352150601020630943:=0
def tw16113918872722433752:=0
def tw14599901463739644049:=0
def tw9975195451036000679:=0
def tw13791878530422796081:=0
def tw7601028566033051493:=0
def tw3912030648536855231:=0
def tw3012117694357135167:=0
def tw11659398996663979134:=0
def tw5594858986950760201:=0
def tw9782144261661425653:=0
def tw3402308507438534461:=0
def tw4324420635392410006:=0
def tw10363454353689444941:=0
def tw8162939359420584174:=0
def tw6683572762104146205:=0
def tw15213896372531505779:=0
def tw14757281512766057510:=0
def tw11950090749501817141:=0
def tw3466304335336307037:=0
def tw2954626323907523147:=0
def tw1371162329263966022:=0
def tw13648733221262878294:=0
def tw12812291868506343072:=0
def tw18140844590463854169:=0
def tw9538902299853736498:=0
def tw14247765138375312930:=0
def tw14588476752985666175:=0
def tw17648438310517608094:=0
def tw17128776307501903613:=0
def tw12007097945206756044:=0
def tw133796997561590140:=0
def tw8889642326070507924:=0
def tw16763451579671011518:=0
def tw14974473989823274691:=0
def tw9842697600602726241:=0
def tw9638142327778463910:=0
def tw942911401276909022:=0
def tw8920037575471623756:=0
def tw2523830421928348512:=0
def tw16870134732834124270:=0
def tw6817729637410029636:=0
def tw8197979942822640984:=0
def tw5712162361208153487:=0
def tw3274947512062973770:=0
def tw16205831079665532419:=0
def tw15963332401652553775:=0
def tw3140741505747331842:=0
def tw11200839480116976115:=0
def tw14366562307445564655:=0
def tw8518258839332524830:=0
def tw16151083938710943853:=0
def tw1259590585773232341:=0
def tw937324585265948971:=0
def tw8101658728119033743:=0
def tw15798709791853433269:=0
def tw7561823177339593186:=0
def tw2560854831550099747:=0
def tw7657523431871700114:=0
def tw10526483601031604217:=0
def tw664516489684378314:=0
def tw17138984600187137527:=0
def tw4044768505549840656:=0
def tw3836104657398397710:=0
def tw5670651132729048748:=0
def tw7696633420051445735:=0
def tw3714688620338587535:=0
def tw3060102518348646617:=0
def tw16690773717035083955:=0
def tw16433131544503263566:=0
def tw16844999980327298093:=0
def tw2953976494114065101:=0
def tw17165039775325883969:=0
def tw15173565902457418037:=0
def tw16391239486575180068:=0
def tw9302469170100564789:=0
def tw4762905333390847834:=0
def tw17131515198246004353:=0
def tw13482091507050724310:=0
def tw862593445419693932:=0
def tw6009773027656592711:=0
def tw12945975870193599644:=0
def tw4830812813599123855:=0
def tw16504591076234375547:=0
def tw1181993870242785343:=0
def tw9117646767359067473:=0
def tw16203152804987539395:=0
def tw10077994601837910051:=0
def tw17659717335216837877:=0
def tw11221759806111359198:=0
def tw12523234627593718637:=0
def tw13601853262747405699:=0
def tw10705322077504373394:=0
def tw10530661233848891963:=0
def tw7008788496311921689:=0
def tw3761269492488582726:=0
def tw1750773871222892876:=0
def tw15157448704063526281:=0
def tw7812781636253108023:=0
def tw5146036152232851724:=0
def tw16634674322566103313:=0
def tw14976422890851110331:=0
def tw14427402797462726522:=0
def tw13784278200710214006:=0
def tw8159650991001306730:=0
def tw7093245680825834844:=0
def tw6649495754724123717:=0
def tw12280774350321676633:=0
def tw5319161990052996364:=0
def tw17923723038551699158:=0
def tw918034985535989041:=0
end PySem.W.Fast
open PySem PySem.W PyProof.Rows
set_option maxRecDepth 100000 in
set_option maxHeartbeats 0 in
theorem PySem.Challenge.cw_quotatree_k46_lists_let_by_holds : PySem.Challenge.rw_quotatree_k46_lists_let_by.Holds := by
 w_on;o_law;k_head;(case hw=>w_witness2)
 k_fill
 refine Our.walk (l:=PySem.Challenge.rw_quotatree_k46_lists_let_by) rfl rfl rfl (fun w h Y=>PySem.W.kIn_of Y) ?F
 case F=>
  intro w mg fa h KX G hmg
  refine' Our.txt_mk KX G hmg ?g_z0 ?g_z1 ?g_z2 ?g_z3 ?g_z4 ?g_z5 ?g_z6 ?g_z7 ?g_z8 ?g_z9 ?g_z10 ?g_z11 ?g_z12 ?g_z13 ?g_z14 ?g_z15 ?g_z16 ?g_z17 ?g_z18 ?g_z19 ?g_z20 ?g_z21 ?g_z22 ?g_z23 ?g_z24 ?g_z25 ?g_z26 ?g_z27 ?g_z28 ?g_z29 ?g_z30 ?g_z31 ?g_z32 ?g_z33 ?g_z34 ?g_z35 ?g_z36 ?g_z37 ?g_z38 ?g_z39 ?g_z40 ?g_z41 ?g_z42 ?g_z43 ?g_law ?g_z45 ?a_z46 ?l_z46 ?c_z46 ?k_z46 ?tt_z46 ?td_z46 ?rd_z46 ?a_z47 ?l_z47 ?c_z47 ?k_z47 ?tt_z47 ?td_z47 ?rd_z47 ?g_z48 ?g_z49 ?g_z50 ?g_z51 ?g_z52 ?g_z53 ?g_z54 ?g_z55 ?g_z56 ?g_z57 ?g_z58 ?g_z59 ?g_z60 ?g_z61 ?g_z62 ?g_z63 ?g_z64 ?g_z65 ?g_z66 ?qi_z66 ?hi_z66 ?a_House ?a_Tree ?a_Hold ?a_Loan ?a_TreeError ?a_NoName ?a_Taken ?a_NoHouse ?a_NoPromise ?a_NoWare ?a_NoAmount ?a_NoNumber ?a_TooMany ?a_TooDeep ?a_LETTERS ?w57 ?a_LONGEST_NAME ?w1f ?a_MOST_WARES ?w2h ?a_MOST_HOUSES ?w1r ?a_LONGEST_LINE ?w1i ?a_GREATEST_WEIGHT ?w0m ?q_NoHouse ?q_NoAmount ?q_NoWare ?q_NoName ?q_NoNumber ?q_Taken ?q_TooMany ?q_TooDeep ?w18 ?w1b ?w2d ?w2f ?w0l ?w0n ?w1k ?w01 ?w6q ?w7u ?w4b ?w3x ?w8m ?w8u ?w21 ?w2u ?w2t ?w23 ?w04 ?w0e ?w0f ?w1h ?w2e ?w17 ?w08 ?w05 ?w0g ?w0j ?w07 ?w0i ?w19 ?w06 ?w02 ?w1j ?w1w ?w1a ?w2g ?w1v ?w1g ?w1z ?w1c ?w1p ?w20 ?y_all ?y_any ?y_bool ?y_dict ?y_enumerate ?y_int ?y_isinstance ?y_len ?y_list ?y_max ?y_min ?y_range ?y_reversed ?y_set ?y_sorted ?y_str ?y_sum ?y_zip
  (case a_House=>k_is)
  (case a_Tree=>k_is)
  (case a_Hold=>k_is)
  (case a_Loan=>k_is)
  (case a_TreeError=>k_is)
  (case a_NoName=>k_is)
  (case a_Taken=>k_is)
  (case a_NoHouse=>k_is)
  (case a_NoPromise=>k_is)
  (case a_NoWare=>k_is)
  (case a_NoAmount=>k_is)
  (case a_NoNumber=>k_is)
  (case a_TooMany=>k_is)
  (case a_TooDeep=>k_is)
  all_goals try (refine' ⟨?a,L2.fun_mk ?l ?c ?k⟩;(case a=>k_is);(case l=>k_is);(case c=>k_is);(case k=>k_is))
  (case a_z46=>k_is);(case l_z46=>k_is);(case c_z46=>k_is);(case k_z46=>k_is)
  (case tt_z46=>k_is);(case td_z46=>first|rfl|k_is);(case rd_z46=>first|exact .cons ⟨_,rfl⟩ .nil|exact .cons rfl .nil)
  (case a_z47=>k_is);(case l_z47=>k_is);(case c_z47=>k_is);(case k_z47=>k_is)
  (case tt_z47=>k_is);(case td_z47=>first|rfl|k_is);(case rd_z47=>first|exact .cons ⟨_,rfl⟩ .nil|exact .cons rfl .nil)
  (case qi_z66=>kernel_rfl);(case hi_z66=>k_is)
  (case a_LETTERS=>k_is)
  (case w57=>exact⟨_,rfl⟩)
  (case a_LONGEST_NAME=>k_is)
  (case w1f=>exact⟨_,rfl⟩)
  (case a_MOST_WARES=>k_is)
  (case w2h=>exact⟨_,rfl⟩)
  (case a_MOST_HOUSES=>k_is)
  (case w1r=>exact⟨_,rfl⟩)
  (case a_LONGEST_LINE=>k_is)
  (case w1i=>exact⟨_,rfl⟩)
  (case a_GREATEST_WEIGHT=>k_is)
  (case w0m=>exact⟨_,rfl⟩)
  (case q_NoHouse=>k_exc)
  (case q_NoAmount=>k_exc)
  (case q_NoWare=>k_exc)
  (case q_NoName=>k_exc)
  (case q_NoNumber=>k_exc)
  (case q_Taken=>k_exc)
  (case q_TooMany=>k_exc)
  (case q_TooDeep=>k_exc)
  (case w18=>(constructor <;> first|k_is|kernel_rfl))
  (case w1b=>(constructor <;> first|k_is|kernel_rfl))
  (case w2d=>(constructor <;> first|k_is|kernel_rfl))
  (case w2f=>(constructor <;> first|k_is|kernel_rfl))
  (case w0l=>(constructor <;> first|k_is|kernel_rfl))
  (case w0n=>(constructor <;> first|k_is|kernel_rfl))
  (case w1k=>(constructor <;> first|k_is|kernel_rfl))
  (case w01=>(constructor <;> first|k_is|kernel_rfl))
  (case w6q=>(constructor <;> first|k_is|kernel_rfl))
  (case w7u=>(constructor <;> first|k_is|kernel_rfl))
  (case w4b=>(constructor <;> first|k_is|kernel_rfl))
  (case w3x=>(constructor <;> first|k_is|kernel_rfl))
  (case w8m=>(constructor <;> first|k_is|kernel_rfl))
  (case w8u=>(constructor <;> first|k_is|kernel_rfl))
  (case w21=>(constructor <;> first|k_is|kernel_rfl))
  (case w2u=>(constructor <;> first|k_is|kernel_rfl))
  (case w2t=>(constructor <;> first|k_is|kernel_rfl))
  (case w23=>(constructor <;> first|k_is|kernel_rfl))
  (case w04=>(constructor <;> first|k_is|kernel_rfl))
  (case w0e=>(constructor <;> first|k_is|kernel_rfl))
  (case w0f=>(constructor <;> first|k_is|kernel_rfl))
  (case w1h=>(constructor <;> first|k_is|kernel_rfl))
  (case w2e=>(constructor <;> first|k_is|kernel_rfl))
  (case w17=>(constructor <;> first|k_is|kernel_rfl))
  (case w08=>(constructor <;> first|k_is|kernel_rfl))
  (case w05=>(constructor <;> first|k_is|kernel_rfl))
  (case w0g=>(constructor <;> first|k_is|kernel_rfl))
  (case w0j=>k_is)
  (case w07=>k_is)
  (case w0i=>k_is)
  (case w19=>k_is)
  (case w06=>k_is)
  (case w02=>k_is)
  (case w1j=>k_is)
  (case w1w=>k_is)
  (case w1a=>k_is)
  (case w2g=>k_is)
  (case w1v=>k_is)
  (case w1g=>k_is)
  (case w1z=>k_is)
  (case w1c=>k_is)
  (case w1p=>k_is)
  (case w20=>k_is)
  (case y_all=>k_is)
  (case y_any=>k_is)
  (case y_bool=>k_is)
  (case y_dict=>k_is)
  (case y_enumerate=>k_is)
  (case y_int=>k_is)
  (case y_isinstance=>k_is)
  (case y_len=>k_is)
  (case y_list=>k_is)
  (case y_max=>k_is)
  (case y_min=>k_is)
  (case y_range=>k_is)
  (case y_reversed=>k_is)
  (case y_set=>k_is)
  (case y_sorted=>k_is)
  (case y_str=>k_is)
  (case y_sum=>k_is)
  (case y_zip=>k_is)