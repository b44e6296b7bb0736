import PyProof.Rows.All
import Wide.All
import OpenK.AllK
import Wide.FinOn
import Lean
import PyProof.EqAt
import PyProof.EqKinds
import PyProof.TupleCall
import PyProof.NeKinds
import KE.KEqDict
import KE.KRevIter
import PyProof.FactsAll.range_2
import PyProof.ZipIter
import PyProof.FitsReplace
import PyProof.MeetsStr
import PyProof.ListRange
import PyProof.CollectWalk
import PyProof.DictItems
import PyProof.DictItemsLoops
import PyProof.DictValues
import PyProof.DictWalks
import PyProof.StrCalls
import KE.KIsAll
import PyProof.Rows.Range3
import PyProof.Rows.MinMaxN
import PyProof.SumWalkG
import PyProof.MeetsStr2
import PyProof.StrBlockL
import PyProof.Rows.StrNews2
import PyProof.StrLawsOccR
import KE.KIntText
import PyProof.StrLawsIn
import PyProof.Rows.SeqMore2
import PyProof.ListOps
import PyProof.Rows.SeqMore
import PyProof.Rows.SeqGen
import PyProof.EnumFor
import PyProof.EnumMake
import PySem.Challenge.RW_quotatree_k47_whole_claims
open PySem.W (Frag instObj lookIn plainGet hasDictIn findIn isFn emptyDict specialIn keepIn mroIn kitOne fnOf codeIn excIn nsIn)
open List renaming getElem?_eq_getElem->zA,length_map->zB,getElem?_map->zC,map_append->zD,mem_cons_of_mem->zE,mem_of_getElem?->zF,mem_cons_self->zG,mem_singleton->zH,mem_map->zI,filter_cons->zJ,length_append->zK,take_add_one->zL,getElem_mem->zM,length_filter_le->zN,mem_iff_getElem->zO,take_length->zP,filter_append->zQ,mem_cons->zR,map_cons->zS,mem_append->zT,size_toArray->zU,pairwise_iff_getElem->zV,length_take->zW,mem_append_right->zX,mem_filter->zY,length_cons->zZ,append_nil->yA,length_singleton->yB,nodup_cons->yC,getElem?_append_right->yD,getElem?_append_left->yE,rel_of_pairwise_cons->yF,mem_append_left->yG,getElem_map->yH,not_mem_nil->yI,nodup_append->yJ,filter_nil->yK,find?_cons->yL,all_eq_true->yM,filter_congr->yN,pairwise_map->yO,map_map->yP,foldl_cons->yQ,nodup_nil->yR,filter_sublist->yS,sum_cons->yT,filter_filter->yU,map_congr_left->yV,mem_flatten->yW,find?_eq_none->yX,any_eq_true->yY,length_range->yZ,length_nil->xA,mem_range->xB,any_cons->xC,all_cons->xD
open PySem renaming wpAny_bind->uB,Value->uC,Shared->uD,wpAny_pure->uI,Stmt->uL,FuncData->uM,mainGlobals->uS,wpAny->uT,model->uW,Program->vB,starEach->vC,boot_len->vH,wpAny_mono->vK,World->vL,Around->vO,Heap->vR,Expr->vU,compareOp->wB,wpAny_truthy_bool->wF,wpAny_newObj_type->wG,eval->wH,wpAny_call_entry->wJ,sysModules->wN,backTo->wR,wpAny_holding->wV,rawInt->xG,wpAny_callSpecial?_slot->xJ,wpAny_typeNameOfWhole_keyiter->xN,wpAny_typeNameOfWhole_valiter->xO,codeAny_mono->xQ,wpAny_Call_Name_kw->xR,Builtin->xU,wpAny_passesOwn->xX,codeAny_builtin->xZ,wpAny_standAt->aC,wpAny_richCompare_same_room->aE,wpAny_dictEntries->aG,wpAny_setField->aJ,compEnvC->aM,bootBuiltins->aQ,mem_of_lookup->aU,wpAny_dictEpoch->aZ,sizeLine_eq->bC,wpAny_pyIter_list->bI,binaryOp->bJ,wpAny_loadPart_at->bM,wpAny_call->bX,behindInMarks->bZ,attributeBase->cA,keywordEach->cE,sliceBounds->cF,excClassObj->cH,lookup_relabel_local->cI,codeAny->cN,ExcBaseFacts->cO,tupleKind->cP,tupleKind_room_in1->cR,Scope->cU,wpAny_assign_Name->cW,wpAny_field->cZ,pyNext->dF,plainId_quiet->dJ,assignEach->dP,valueAt->dU,wpAny_execs_nil->dY,wpAny_isOneOf_valiter->eK,backToKw->eQ,wpAny_fieldsOf->eS,firstArgMember->eU,swapsWith->eZ,BindsTo->fA,DictEntry->fB,wpAny_attempt->fK,assign->fM,nsFind->fN,foldedSetIterable->fW,callerA->fZ,getMethod->gM,scanBound->gP
open Bool renaming false_ne_true->uE,and_eq_true->vS,eq_iff_iff->xY,false_or->cB,not_eq_true'->dA,true_or->dS,noConfusion->gR
open PySem.Heap renaming get?_push_of_some->uF,lt_size->uN,get?_push_size->uQ,get?_update_other->wT,get?_none_of_le->aH,SameBut->bH,size_push->bK,get?_update_self->bR
open Nat renaming le_refl->uG,ne_of_lt->vD,lt_of_lt_of_le->vI,le_trans->vP,lt_of_le_of_lt->vT,zero_le->wC,lt_irrefl->wD,lt_of_succ_lt_succ->xV,strongRecOn->aB,le_succ->aI,lt_or_ge->bN,lt_succ_self->bW,not_lt_zero->cL,lt_trichotomy->dE,sub_self->dW,le_of_lt->fU,lt_succ_of_lt->gE,le_of_not_lt->gO
open List renaming getElem?_eq_some_iff->uH,range->vG,length->wP,drop_eq_getElem_cons->wZ,mem_of_mem_take->aN,mem_of_find?_eq_some->aS,getElem?_cons_zero->bE,getElem?_cons_succ->bF,pairwise_singleton->bG,replicate->bL,foldl_append->bO,append_assoc->bP,take_append_drop->bU,getElem?_eq_none->bV,mem_flatMap->bY,lookup->cD,pairwise_append->cJ,pairwise_cons->cS,getElem_take->dD,Pairwise->dL,filter_eq_nil_iff->dX,find?_some->eE,length_zip->eF,contains_iff_mem->eJ,filterMap_cons->fD,any_eq_false->fX,map_nil->fY,all_map->gF
open Or renaming inl->uJ,inr->aV
open PySem.AutoSeq1 renaming wpAny_loadPart'->uO
open PySem.Value renaming ref->uP,none->vW,int->aP,str->eY,isStrOf->fH,bool->fL
open PySem.W renaming Frag->uR,mg_none_of->vJ,mg_of->vQ,findIn->vV,kia_one->wI,nsIn->xI,callWith_K->xS,kitOne->cQ,Looks->dI,instObj->dN,keepIn->dO,methodCall_KW->eG,specialIn->eW,plainGet_of->fF,excIn->fR,methodObj->fT,hasDictIn->gJ,codeIn->gK
open Option renaming map_eq_some_iff->uU,isSome_map->dB,isSome_iff_exists->dG,map_some->dZ
open PyProof.Rows renaming boot_isinstance->uV,sortedS->vF,callWith_type1->wS,boot_dict->wU,boot_str->wW,boot_int->wY,boot_sorted->xH,boot_list->bQ,AllBare->cV,envOfC->dQ,boot_min->eO,boot_max->eP,StrsAre->gD
open Option.some renaming inj->uX,injEq->dC
open PySem.PassesOwn renaming never->uY
open PySem.F renaming plainAttrs_list->uZ,slot_list_append->vM,type_list_append->vN,slot_list_index->wQ,slot_dict_valueiterator_next->xK,type_list_index->xL,slot_dict_keyiterator_next->aA,excBase_ValueError->aL,slot_dict_get->eI,args_dict_valueiterator_next_1->gG,entry_dict_valueiterator_next->gI,args_dict_keyiterator_next_1->gQ
open Sum renaming inr->vE,inl->fS
open Int renaming le_refl->vX,emod_lt_of_pos->vZ,emod_nonneg->wA,eq_ofNat_of_zero_le->wK,toNat_natCast->xE,zero_add->xW,fdiv_eq_ediv_of_nonneg->aO
open False renaming elim->vY
open PySem.Obj renaming mapFields->wL,data_mapFields->xT,isFreed_of_fields->bS,cls_mapFields->gA
open List.cons renaming inj->wM
open True renaming intro->wO
open PySem.Around renaming under_plainId->xF
open Sum.inr renaming inj->xM
open Ne renaming symm->xP
open PySem.MeetsSeq3 renaming plain_eq_loop->aD,entry_eq_loop->fJ
open List.Pairwise renaming imp->aF,nil->cY
open Array renaming getElem?_eq_some_iff->aK,getElem?_eq_getElem->aT,getElem?_toList->bT,length_toList->fE,find?_toList->fO,all_eq_true_iff_forall_mem->gC
open PySem.Str renaming ofString->aR
open PyProof.Rows.F renaming plain_set_update_loop->aW,entry_set_update_loop->fG
open ForInStep renaming yield->aY
open PySem.Builtin.Str renaming occurrences->bB
open PySem.Calls renaming evalArgs_plain->cG,callWith_builtin->dR,spliced_cons->fP
open Prod.mk renaming inj->cK
open PySem.Heap.SameBut renaming update->cM
open Classical renaming byContradiction->cT
open PySem.Builtin.List renaming listTooLong->dH
open PySem.Builtin.Dict renaming showsAll->eM
open PySem.Code renaming quiet_builtin->fQ
open PySem.Builtin.Tuple renaming tupleCompareSizes->gH
open PySem.Data renaming cell->gL
noncomputable section
set_option compiler.extract_closed false
set_option Elab.async false
set_option linter.all false
set_option maxRecDepth 100000
theorem gS.{u} {c:Prop} {h:Decidable c} (n:¬c) {α:Sort u} {t e:α}:ite c t e=e:=if_neg n
theorem gT.{u} {c:Prop} {h:Decidable c} (n:c) {α:Sort u} {t e:α}:ite c t e=t:=if_pos n
theorem gU {p:Prop} [i:Decidable p] (h:p):decide p=true:=decide_eq_true h
theorem gW {p:Prop} [i:Decidable p] (h:¬p):decide p=false:=decide_eq_false h
namespace L2
open PySem PySem.Spec PyProof.Rows
abbrev Key:=Sum Int Str
noncomputable def keyIs:Key->uC->Bool
 | .inl k,v=>Value.isInt k v
 | .inr x,v=>fH x v
noncomputable def keyH (w:vL):Key->Int
 | .inl k=>hashInt k
 | .inr x=>hashStr w x
theorem qbc:∀{k:Key} {v:uC},keyIs k v=true->(∃i t,k=fS i/\v=aP i t)\/(∃x t,k=vE x/\v=eY x t)
 | .inl i,v,h=>by
  obtain⟨t,e⟩:=Value.isInt_shape (k:=i) (v:=v) h
  exact .inl ⟨i,t,rfl,e⟩
 | .inr x,v,h=>by
  obtain⟨t,e⟩:=Value.isStrOf_shape (x:=x) (v:=v) h
  exact .inr ⟨x,t,rfl,e⟩
theorem keyIs_int (i:Int) (t:Tok):keyIs (.inl i) (.int i t)=true:=by simp [keyIs,Value.isInt]
theorem keyIs_str (x:Str) (t:Tok):keyIs (.inr x) (.str x t)=true:=by simp [keyIs,fH]
theorem key_ll (a b:Int):decide ((fS a:Key)=fS b)=(a==b):=by
 by_cases e:a=b
 .subst e;simp
 .have h:¬(fS a:Key)=fS b:=fun q=>e (Sum.inl.inj q)
  rw [gW h]
  exact(beq_eq_false_iff_ne.mpr e).symm
theorem key_rr (a b:Str):decide ((vE a:Key)=vE b)=decide (a=b):=by
 by_cases e:a=b
 .subst e;simp
 .have h:¬(vE a:Key)=vE b:=fun q=>e (xM q)
  rw [gW h,gW e]
theorem key_lr (a:Int) (b:Str):decide ((fS a:Key)=vE b)=false:=gW (fun q=>nomatch q)
theorem key_rl (a:Str) (b:Int):decide ((vE a:Key)=fS b)=false:=gW (fun q=>nomatch q)
noncomputable def qbd (prog:vB) (w:vL):PySem.KeyKind prog w Key where
 is:=keyIs
 hash:=keyH w
 inj:=fun v a b ha hb=>by
  rcases qbc ha with ⟨i,t,rfl,rfl⟩ |⟨x,t,rfl,rfl⟩
  .rcases qbc hb with ⟨j,u,rfl,e⟩ |⟨y,u,rfl,e⟩
   .injection e with e1 _;rw [e1]
   .exact nomatch e
  .rcases qbc hb with ⟨j,u,rfl,e⟩ |⟨y,u,rfl,e⟩
   .exact nomatch e
   .injection e with e1 _;rw [e1]
 byValue:=fun k v h=>by
  rcases qbc h with ⟨i,t,rfl,rfl⟩ |⟨x,t,rfl,rfl⟩ <;> rfl
 pyHash:=fun hv h=>by
  rcases qbc hv with ⟨i,t,rfl,rfl⟩ |⟨x,t,rfl,rfl⟩
  .exact wpAny_pyHash_int h
  .exact wpAny_pyHash_str h
 eqBool:=fun hu hv h=>by
  rcases qbc hu with ⟨i,t,rfl,rfl⟩ |⟨x,t,rfl,rfl⟩
  .rcases qbc hv with ⟨j,u,rfl,rfl⟩ |⟨y,u,rfl,rfl⟩
   .rw [key_ll] at h;exact wpAny_eqBool_int h
   .rw [key_lr] at h;exact SeqAt.EqAt.int_str i t y u _ _ _ _ h
  .rcases qbc hv with ⟨j,u,rfl,rfl⟩ |⟨y,u,rfl,rfl⟩
   .rw [key_rl] at h;exact SeqAt.EqAt.str_int x t j u _ _ _ _ h
   .rw [key_rr] at h;exact wpAny_eqBool_str h
 «strs»:=fun k x t v h=>by
  rcases qbc h with ⟨i,u,rfl,e⟩ |⟨y,u,rfl,e⟩
  .exact nomatch e
  .injection e with e1 _
   subst e1
   cases v <;> rfl
theorem mixKind_int (prog:vB) (w:vL) (i:Int) (t:Tok):(qbd prog w).is (.inl i) (.int i t)=true:=keyIs_int i t
theorem mixKind_str (prog:vB) (w:vL) (x:Str) (t:Tok):(qbd prog w).is (.inr x) (.str x t)=true:=keyIs_str x t
inductive V where
 |non|bl (b:Bool) |int (i:Int) |str (x:Str) |byt (b:Array UInt8) |flt (b:UInt64) |ref (a:Addr) |ty (n:String)
 deriving DecidableEq
noncomputable def qbf:V->uC->Prop
 | .non,u=>u=vW
 | .bl b,u=>u=fL b
 | .int i,u=>∃t,u=aP i t
 | .str x,u=>∃t,u=eY x t
 | .byt b,u=>∃t,u=Value.bytes b t
 | .flt b,u=>∃t,u=Value.float b t
 | .ref a,u=>u=uP a
 | .ty n,u=>u=Value.type n
abbrev qbi:List V->List uC->Prop:=Paired qbf
theorem qbi.length {xs:List V} {us:List uC} (r:qbi xs us):xs.length=us.length:=Paired.length r
theorem qbi.get:∀{xs:List V} {us:List uC} {i:Nat} {x:V},qbi xs us->xs[i]?=some x->∃u,us[i]?=some u/\qbf x u
 |_,_,_,_,.nil,e=>by simp at e
 |_,_,0,_,.cons r _,e=>by simp at e;subst e;exact⟨_,rfl,r⟩
 |_,_,i+1,x,.cons _ t,e=>by
  obtain⟨u,h1,h2⟩:=qbi.get (i:=i) (x:=x) t (by simpa using e)
  exact⟨u,by simpa using h1,h2⟩
theorem qbi.set {x:V} {u:uC} (r:qbf x u):∀{xs:List V} {us:List uC} (i:Nat),qbi xs us->qbi (xs.set i x) (us.set i u)
 |_,_,_,.nil=> .nil
 |_,_,0,.cons _ t=> .cons r t
 |_,_,i+1,.cons q t=> .cons q (qbi.set r i t)
theorem qbi.append:∀{xs ys:List V} {us ws:List uC},qbi xs us->qbi ys ws->qbi (xs++ys) (us++ws)
 |_,_,_,_,.nil,s=>s
 |_,_,_,_,.cons r t,s=> .cons r (qbi.append t s)
theorem qbi.take:∀{xs:List V} {us:List uC} (n:Nat),qbi xs us->qbi (xs.take n) (us.take n)
 |_,_,0,_=> .nil
 |_,_,_+1,.nil=> .nil
 |_,_,n+1,.cons r t=> .cons r (qbi.take n t)
theorem qbi.drop:∀{xs:List V} {us:List uC} (n:Nat),qbi xs us->qbi (xs.drop n) (us.drop n)
 |_,_,0,r=>r
 |_,_,_+1,.nil=> .nil
 |_,_,n+1,.cons _ t=>qbi.drop n t
noncomputable def qgj:Option V->Option uC->Prop
 |some v,some u=>qbf v u
 |none,none=>True
 |_,_=>False
noncomputable def KV {κ:Type}:List (κ × V)->List (κ × uC)->Prop:=Paired fun(p:κ × V) (q:κ × uC)=>p.1=q.1/\qbf p.2 q.2
noncomputable def kV:Key->V
 | .inl i=> .int i
 | .inr x=> .str x
inductive HO where
 |lst (xs:List V)
 |tup (xs:List V)
 |dK (kvs:List (Key × V)) |dT (kvs:List (List Key × V))
 |set (S:Int->Bool) (n:Nat)
 |ins (C dx:Addr) (fs:List (Str × V))
 |own (x:Addr)
 |xd (fs:List (Str × V))
 |met (f x:Addr)
 |rng (lo hi:Int)
 |frz (o:Obj) (u:HO)
 |tbl (ps:Array uC)
 |ext (φ:vR->Prop)
abbrev Hp:=Addr->Option HO
noncomputable def upd (H:Hp) (a:Addr) (o:HO):Hp:=fun b=>if b=a then some o else H b
theorem qa3 {H:Hp} {a:Addr} {o:HO}:upd H a o a=some o:=by unfold upd;rw [gT rfl]
theorem qa6 {H:Hp} {a b:Addr} {o:HO} (h:b≠a):upd H a o b=H b:=by unfold upd;rw [gS h]
theorem qbn {H:Hp} {a:Addr} {o u:HO}:upd (upd H a o) a u=upd H a u:=by
 funext b;unfold upd;split <;> rfl
theorem ne_of {H:Hp} {a b:Addr} {o u:HO} (h:H a=some o) (h':H b=some u) (d:o≠u):a≠b:=by
 intro e;subst e;rw [h] at h';exact d (uX h')
theorem qa7 {H:Hp} {a b:Addr} {o:HO} (h:H a=some o) (h':H b=none):a≠b:=by
 intro e;subst e;rw [h] at h';cases h'
section
variable (P: vB) (w: vL)
noncomputable def qbo (H:Hp) (h:vR) (a:Addr):HO->Prop
 | .lst xs=>xs.length<=sizeLine/\∃(its:List uC) (n:Nat),qbi xs its/\h.get? a=some {cls:=.type "list",data:=.seq its.toArray n}
 | .tup xs=>xs.length<=sizeLine/\∃its:List uC,qbi xs its/\IsTup h a its.toArray
 | .dK kvs=>kvs.length<=sizeLine/\(a==wN)=false/\∃vs,KV kvs vs/\h.DictOf (qbd P w) a vs
 | .dT kvs=>kvs.length<=sizeLine/\(a==wN)=false/\∃xs:List (List Key × Addr × uC),
   Paired (fun(p:List Key × V) (q:List Key × Addr × uC)=>p.1=q.1/\H q.2.1=some (.tup (p.1.map kV))/\qbf p.2 q.2.2) kvs xs/\
   ∃o es ep,h.get? a=some o/\o.ExactDict/\o.data=.dict es ep/\es.toList=xs.map (entryOfKey (cP (qbd P w)))/\(xs.map (·.1)).Nodup
 | .set S n=>h.SetOf (intKind P w) a S n
 | .ins C dx fs=>H dx=some (.own a)/\fs.length<=1000/\dx≠a/\h.get? a=some (dN C dx)/\
   ∃mA,h.Ns1 dx mA/\(∀f,qgj (fs.lookup f) (mA f))/\PySem.Within mA (fs.map (·.1))
 | .own _=>∃o,h.get? a=some o
 | .xd fs=>∃mA,h.Ns1 a mA/\∀f,qgj (fs.lookup f) (mA f)
 | .rng lo hi=>∃t u v,h.get? a=some {cls:=.type "range",data:=.fields #[.int lo t,.int hi u,.int 1 v]}
 | .frz o u=>h.get? a=some o/\qbo H h a u
 | .tbl ps=>h.get? a=some {cls:=.none,data:=.fields ps}
 | .met f x=>h.get? a=some (fT (.ref f) (.ref x))
 | .ext φ=>φ h/\(∃o,h.get? a=some o)/\∀h1 h2:vR,φ h1->(∀o,h1.get? a=some o->h2.get? a=some o)->φ h2
noncomputable def HOk (H:Hp) (h:vR):Prop:=∀a o,H a=some o->qbo P w H h a o
end
section
variable {P: vB} {w: vL} {H H': Hp} {h h': vR} {a: Addr} {o: HO}
theorem qbo.lt (x:qbo P w H h a o):a < h.objs.size:=by
 cases o with
 |lst xs=>obtain⟨_,_,_,_,e⟩:=x;exact uN e
 |tup xs=>obtain⟨_,_,_,p⟩:=x;exact p.lt
 |dK kvs=>obtain⟨_,_,_,_,o,_,_,e,_⟩:=x;exact uN e
 |dT kvs=>obtain⟨_,_,_,_,o,_,_,e,_⟩:=x;exact uN e
 |set S n=>obtain⟨o,_,_,_,e,_⟩:=x;exact uN e
 |ins C dx fs=>obtain⟨_,_,_,e,_⟩:=x;exact uN e
 |own y=>obtain⟨_,e⟩:=x;exact uN e
 |xd fs=>obtain⟨_,⟨_,_,_,e,_⟩,_⟩:=x;exact uN e
 |rng lo hi=>obtain⟨_,_,_,e⟩:=x;exact uN e
 |frz ob u=>obtain⟨e,_⟩:=x;exact uN e
 |tbl ps=>exact uN (show h.get? a=some _ from x)
 |met f y=>exact uN (show h.get? a=some _ from x)
 |ext φ=>obtain⟨_,⟨_,e⟩,_⟩:=x;exact uN e
theorem Paired.mapP {α β:Type} {F G:α->β->Prop}:∀{l₁:List α} {l₂:List β},Paired F l₁ l₂->(∀a b,F a b->G a b)->Paired G l₁ l₂
 |_,_,.nil,_=> .nil
 |_,_,.cons r t,f=> .cons (f _ _ r) (Paired.mapP t f)
theorem qbo.stay (x:qbo P w H h a o) (k:∀b u,(b=a\/H b=some (.own a))->h.get? b=some u->h'.get? b=some u)
  (ho:∀b,H b=some (.own a)->H' b=some (.own a)) (ht:∀b xs,H b=some (.tup xs)->H' b=some (.tup xs)):qbo P w H' h' a o:=by
 induction o with
 |lst xs=>obtain⟨z,its,n,r,e⟩:=x;exact⟨z,its,n,r,k _ _ (.inl rfl) e⟩
 |tup xs=>obtain⟨z,its,r,ob,e,c⟩:=x;exact⟨z,its,r,ob,k _ _ (.inl rfl) e,c⟩
 |dK kvs=>obtain⟨z,y,vs,r,ob,es,ep,e,c⟩:=x;exact⟨z,y,vs,r,ob,es,ep,k _ _ (.inl rfl) e,c⟩
 |dT kvs=>
  obtain⟨z,y,xs,r,ob,es,ep,e,c⟩:=x
  exact⟨z,y,xs,Paired.mapP r fun p q z=>⟨z.1,ht _ _ z.2.1,z.2.2⟩,ob,es,ep,k _ _ (.inl rfl) e,c⟩
 |set S n=>obtain⟨ob,es,ep,t,e,c⟩:=x;exact⟨ob,es,ep,t,k _ _ (.inl rfl) e,c⟩
 |ins C dx fs=>
  obtain⟨d,z,ne,e,mA,⟨od,es,ep,e2,c⟩,r⟩:=x
  exact⟨ho _ d,z,ne,k _ _ (.inl rfl) e,mA,⟨od,es,ep,k _ _ (.inr d) e2,c⟩,r⟩
 |own y=>obtain⟨ob,e⟩:=x;exact⟨ob,k _ _ (.inl rfl) e⟩
 |xd fs=>obtain⟨mA,⟨od,es,ep,e,c⟩,r⟩:=x;exact⟨mA,⟨od,es,ep,k _ _ (.inl rfl) e,c⟩,r⟩
 |rng lo hi=>obtain⟨t,u,v,e⟩:=x;exact⟨t,u,v,k _ _ (.inl rfl) e⟩
 |frz ob u ih=>obtain⟨e,q⟩:=x;exact⟨k _ _ (.inl rfl) e,ih q⟩
 |tbl ps=>
  have e:h.get? a=some {cls:=.none,data:=.fields ps}:=x
  show h'.get? a=some {cls:=.none,data:=.fields ps}
  exact k a _ (.inl rfl) e
 |met f y=>
  have e:h.get? a=some (fT (.ref f) (.ref y)):=x
  show h'.get? a=some (fT (.ref f) (.ref y))
  exact k a _ (.inl rfl) e
 |ext φ=>obtain⟨p,⟨o,e⟩,st⟩:=x;exact⟨st _ _ p fun o q=>k _ _ (.inl rfl) q,⟨o,k _ _ (.inl rfl) e⟩,st⟩
theorem HOk.lt (x:HOk P w H h) (e:H a=some o):a < h.objs.size:=(x a o e).lt
theorem HOk.fresh (x:HOk P w H h) (e:h.objs.size<=a):H a=none:=by
 cases q:H a with
 |none=>rfl
 |some u=>exact absurd (vI (x.lt q) e) (wD _)
theorem HOk.kept (x:HOk P w H h) (k:∀b u,h.get? b=some u->h'.get? b=some u):HOk P w H h':=fun a o e=>
 (x a o e).stay (fun b u _ q=>k b u q) (fun _ q=>q) fun _ _ q=>q
theorem HOk.laid (x:HOk P w H h) (k:∀b u,h.get? b=some u->h'.get? b=some u) (hp:h.objs.size<=a) (new:qbo P w (upd H a o) h' a o):HOk P w (upd H a o) h':=fun b u e=>by
 have hn:=x.fresh hp
 by_cases hb:b=a
 .subst hb;rw [qa3] at e;cases e;exact new
 .rw [qa6 hb] at e
  exact(x b u e).stay (fun c v _ q=>k c v q) (fun c q=>by rw [qa6 (qa7 q hn)];exact q) fun c xs q=>by rw [qa6 (qa7 q hn)];exact q
end
noncomputable def Rd (H:Hp) (a:Addr) (u:HO):Prop:=H a=some u\/∃o,H a=some (.frz o u)
theorem Rd.of {H:Hp} {a:Addr} {u:HO} (h:H a=some u):Rd H a u:=.inl h
theorem Rd.ok {P:vB} {w:vL} {H:Hp} {h:vR} {a:Addr} {u:HO} (r:Rd H a u) (x:HOk P w H h):qbo P w H h a u:=by
 rcases r with r|⟨o,r⟩
 .exact x a u r
 .obtain⟨_,q⟩:=x a _ r
  exact q
noncomputable def Mut:Option HO->Prop
 |some (.lst _)=>True
 |some (.dK _)=>True
 |some (.dT _)=>True
 |some (.set _ _)=>True
 |some (.ins _ _ _)=>True
 |some (.ext _)=>True
 |_=>False
section
variable {P: vB} {w: vL} {H: Hp} {h h': vR} {x e: Addr} {o': HO}
theorem HOk.write (ok:HOk P w H h) (mu:Mut (H x)) (he:e=x\/H e=some (.own x)) (k:∀b u,b≠e->h.get? b=some u->h'.get? b=some u) (heo:∃u,h'.get? e=some u)
  (new:qbo P w (upd H x o') h' x o'):HOk P w (upd H x o') h':=fun b u q=>by
 have nown:∀c y,H c=some (.own y)->c≠x:=fun c y r z=>by subst z;rw [r] at mu;exact mu
 have ntup:∀c xs,H c=some (.tup xs)->c≠x:=fun c xs r z=>by subst z;rw [r] at mu;exact mu
 by_cases hb:b=x
 .subst hb;rw [qa3] at q;cases q;exact new
 .rw [qa6 hb] at q
  by_cases hbe:b=e
  .have q':H b=some (.own x):=by
    rcases he with z|z
    .exact absurd (hbe.trans z) hb
    .rw [hbe];exact z
   rw [q] at q';cases q'
   obtain⟨v,hv⟩:=heo
   exact⟨v,by rw [hbe];exact hv⟩
  .refine(ok b u q).stay (fun c v hc r=>k c v ?_ r) (fun c r=>by rw [qa6 (nown c b r)];exact r) fun c xs r=>by rw [qa6 (ntup c xs r)];exact r
   rcases hc with rfl|hc
   .exact hbe
   .rintro rfl
    rcases he with z|z
    .exact nown c b hc z
    .rw [hc] at z;cases z;exact hb rfl
end
structure Un (fs ex:List Addr) (H H':Hp) (h h':vR):Prop where
 keep:∀b o,h.get? b=some o->H b=none->b∉fs->b∉ex->h'.get? b=some o
 slot:∀b o,h.get? b=some o->H b=none->b∈fs->b∉ex->∃sl,h'.get? b=some {o with slots:=sl}
 free:∀b o,h.get? b=some o->H b=none->b∉ex->H' b=none
 there:∀b o,h.get? b=some o->b∉ex->∃o',h'.get? b=some o'
 tups:∀b xs,H b=some (.tup xs)->H' b=some (.tup xs)
 frzs:∀b o u,H b=some (.frz o u)->H' b=some (.frz o u)
 tbls:∀b ps,H b=some (.tbl ps)->∃more,H' b=some (.tbl (ps++more))
section
variable {fs ex: List Addr} {H H1: Hp} {h h1 h': vR} {a x e: Addr} {o: HO}
theorem Un.any (u:Un fs ex H H1 h h1) {b:Addr} {ob:Obj} (q:h.get? b=some ob) (n:H b=none) (hx:b∉ex):∃sl,h1.get? b=some {ob with slots:=sl}:=by
 by_cases hb:b∈fs
 .exact u.slot b ob q n hb hx
 .exact⟨ob.slots,u.keep b ob q n hb hx⟩
theorem Un.kept (k:∀b u,h.get? b=some u->h'.get? b=some u):Un fs ex H H h h':=
 ⟨fun b ob q _ _ _=>k b ob q,fun b ob q _ _ _=>⟨ob.slots,k b ob q⟩,fun _ _ _ n _=>n,fun b ob q _=>⟨ob,k b ob q⟩,fun _ _ q=>q,fun _ _ _ q=>q,fun _ ps q=>⟨#[],by rw [q];simp⟩⟩
theorem Un.refl:Un fs ex H H h h:=Un.kept fun _ _ q=>q
theorem Un.laid (k:∀b u,h.get? b=some u->h'.get? b=some u) (hp:h.objs.size<=a) (hn:H a=none):Un fs ex H (upd H a o) h h' where
 keep:=fun b u q _ _ _=>k b u q
 slot:=fun b u q _ _ _=>⟨u.slots,k b u q⟩
 free:=fun b u q n _=>by rw [qa6 (vD (vI (uN q) hp))];exact n
 there:=fun b u q _=>⟨u,k b u q⟩
 tups:=fun b xs q=>by rw [qa6 (qa7 q hn)];exact q
 frzs:=fun b u xs q=>by rw [qa6 (qa7 q hn)];exact q
 tbls:=fun b ps q=>⟨#[],by rw [qa6 (qa7 q hn),q];simp⟩
theorem Un.write (mu:Mut (H x)) (he:e=x\/H e=some (.own x)) (k:∀b u,b≠e->h.get? b=some u->h'.get? b=some u) (heo:∃u,h'.get? e=some u):Un fs ex H (upd H x o) h h':=by
 have hx:∀b,H b=none->b≠x:=fun b n z=>by subst z;rw [n] at mu;exact mu
 have hb:∀b,H b=none->b≠e:=fun b n z=>by
  subst z
  rcases he with r|r
  .exact hx b n r
  .rw [n] at r;cases r
 have hm:∀b u,H b=some u->¬Mut (some u)->b≠x:=fun b u q nm z=>by subst z;rw [q] at mu;exact nm mu
 refine⟨fun b u q n _ _=>k b u (hb b n) q,fun b u q n _ _=>⟨u.slots,k b u (hb b n) q⟩,fun b u q n _=>by rw [qa6 (hx b n)];exact n,fun b u q _=>?_,
  fun b xs q=>by rw [qa6 (hm b _ q fun z=>z)];exact q,fun b u xs q=>by rw [qa6 (hm b _ q fun z=>z)];exact q,fun b ps q=>⟨#[],by rw [qa6 (hm b _ q fun z=>z),q];simp⟩⟩
 by_cases hbe:b=e
 .subst hbe;exact heo
 .exact⟨u,k b u hbe q⟩
end
noncomputable def trk (h:vR) (H:Hp):List Addr:=(vG h.objs.size).filter fun a=>(H a).isSome
noncomputable def hidT (h:vR) (H:Hp):vR:=PySem.W.hideAll h (trk h H)
theorem hidT_size (h:vR) (H:Hp):(hidT h H).objs.size=h.objs.size:=PySem.W.hideAll_size _ _
theorem hidT_get {h:vR} {H:Hp} {b:Addr} {o:Obj} (e:h.get? b=some o) (n:H b=none):(hidT h H).get? b=some o:=
 PySem.W.hideAll_get _ e fun hm=>by
  have q:(H b).isSome=true:=(zY.mp hm).2
  rw [n] at q;simp at q
theorem of_hidT {h:vR} {H:Hp} {b:Addr} {o:Obj} (e:(hidT h H).get? b=some o):h.get? b=some o/\H b=none:=by
 have e':h.get? b=some o:=PySem.W.of_hideAll (trk h H) e
 refine⟨e',?_⟩
 cases q:H b with
 |none=>rfl
 |some x=>
  have hm:b∈trk h H:=zY.mpr ⟨xB.mpr (uN e'),by simp [q]⟩
  have z:(hidT h H).get? b=none:=PySem.W.hideAll_none (trk h H) hm
  rw [z] at e;cases e
noncomputable def allNews (g h:vR) (L:Addr):List (Addr × Obj):=(vG h.objs.size).filterMap fun a=>if a=L\/(g.get? a).isSome=true then none else (h.get? a).map fun o=>(a,o)
noncomputable def rest (g h:vR) (L d:Addr):List (Addr × Obj):=(allNews g h L).filter fun p=>decide (p.1≠d)
structure Mod (K:uR) (mg:Str->Option uC) (base:vR):Prop where
 kin:K.In base
 glob:base.Ns uS mg
 blt:∃mb,base.Ns builtinsNs mb/\∀x:Str,x≠"__name__"->mb x=aQ x
 nolimit:base.NoLimit
structure Cx where
 prog:vB
 w:vL
 K:uR
 mg:Str->Option uC
 base:vR
 A:vO
 N:List Str
 s₀:uD
 H₀:Hp
 env:Env
 outer:List Env
 stack:List Env
 ex:List Addr
 fn:Str->Bool
 calm:Bool
 pn:List (Addr × Obj)
 xe:uC->uD->Prop
noncomputable def frs (l:List Env):List Addr:=l.filterMap (·.frame)
abbrev Cx.fs (X:Cx):List Addr:=frs X.outer
noncomputable def Vis (sc:cU) (x:Str):Prop:=sc.names.lookup x=some .local\/sc.names.lookup x=some .cell\/sc.names.lookup x=some .free
noncomputable def Loc (sc:cU) (x:Str):Prop:=sc.names.lookup x=some .local\/sc.names.lookup x=some .cell
noncomputable def Look (env:Env) (h:vR) (m:Str->Option uC) (x:Str) (u:uC):Prop:=
 (env.kindOf x=some .local/\m x=some u)\/((env.kindOf x=some .cell\/env.kindOf x=some .free)/\∃c,env.cells.lookup x=some c/\h.IsCell c (some u))
structure Cx.Ok (X:Cx):Prop where
 mod:Mod X.K X.mg X.base
 kind:X.env.scope.kind=.function
 glob:X.env.globals=uS
 blt:X.env.builtins=builtinsNs
 above:X.s₀.heap.objs.size<=X.env.locals
 inj:∀x y c,X.env.cells.lookup x=some c->X.env.cells.lookup y=some c->x=y
 has:∀x,(X.env.kindOf x=some .cell\/X.env.kindOf x=some .free)->∃c,X.env.cells.lookup x=some c
 cab:∀x c,X.fn x=true->X.env.cells.lookup x=some c->X.s₀.heap.objs.size<=c
 hd:X.calm=true->X.A.handled=none
 frames:X.A.frames=some X.stack
 stk:X.stack=X.outer\/(X.stack=X.env :: X.outer/\X.env.frame=some X.env.locals)
 exf:∀b∈X.ex,b≠X.env.locals/\∀x c,X.env.cells.lookup x=some c->c≠b
 bs:∀b o,X.base.get? b=some o->X.s₀.heap.get? b=some o/\X.H₀ b=none
 bsz:X.base.objs.size<=X.s₀.heap.objs.size
 noex:∀b o,X.base.get? b=some o->b∉X.ex
 exfs:∀b∈X.ex,b∉X.fs
 funs:X.s₀.heap.FunFrames X.base X.outer
 frf:∀b∈X.fs,X.H₀ b=none
structure Inv (X:Cx) (pins:List (Addr × Obj)) (σ:List (Option V)) (H:Hp) (s:uD):Prop where
 ok:X.Ok
 os:s.os=X.s₀.os
 bare:cV s.gens
 base:Un X.fs X.ex X.H₀ H X.s₀.heap s.heap
 loc:∃m,s.heap.Ns X.env.locals m/\∀(i:Nat) (x:Str) (v:V),X.N[i]?=some x->σ[i]?=some (some v)->Vis X.env.scope x->∃u,qbf v u/\Look X.env s.heap m x u
 cell:∀x c,X.env.cells.lookup x=some c->∃v,s.heap.IsCell c v
 free:H X.env.locals=none
 freeC:∀x c,X.env.cells.lookup x=some c->H c=none
 pin:∀p∈X.pn++pins,s.heap.get? p.1=some p.2/\H p.1=none/\p.1≠X.env.locals/\p.1∉X.fs/\∀v,p.2.data≠ .cell v
 hok:HOk X.prog X.w H s.heap
 len:σ.length=X.N.length
section
variable {X: Cx} {pins: List (Addr × Obj)} {σ: List (Option V)} {H H': Hp} {s: uD} {h': vR}
theorem Cx.Ok.nofr (ok:X.Ok) {b:Addr} {o:Obj} (e:X.base.get? b=some o):b∉X.fs:=fun hb=>by
 have:=(ok.funs.mem hb).1
 rw [e] at this;cases this
theorem Inv.bs (I:Inv X pins σ H s):∀b o,X.base.get? b=some o->s.heap.get? b=some o/\H b=none:=fun b o e=>
 ⟨I.base.keep b o (I.ok.bs b o e).1 (I.ok.bs b o e).2 (I.ok.nofr e) (I.ok.noex b o e),I.base.free b o (I.ok.bs b o e).1 (I.ok.bs b o e).2 (I.ok.noex b o e)⟩
theorem Inv.bk (I:Inv X pins σ H s):∀b o,X.base.get? b=some o->s.heap.get? b=some o:=fun b o e=>(I.bs b o e).1
theorem Inv.mod (I:Inv X pins σ H s):Mod X.K X.mg X.base:=I.ok.mod
theorem Inv.kIn (I:Inv X pins σ H s):X.K.In s.heap:=I.ok.mod.kin.keeps I.bk
theorem Inv.lt (I:Inv X pins σ H s):X.env.locals < s.heap.objs.size:=let ⟨_,hn,_⟩:=I.loc;hn.lt
theorem Inv.sz (I:Inv X pins σ H s):X.s₀.heap.objs.size<=s.heap.objs.size:=vP I.ok.above (fU I.lt)
theorem Inv.nofs (I:Inv X pins σ H s) {a:Addr} (h:s.heap.objs.size<=a):a∉X.fs:=fun hb=>by
 obtain⟨_,o,ho,_⟩:=I.ok.funs.mem hb
 exact absurd (vI (uN ho) (vP I.sz h)) (wD _)
theorem Inv.cne (I:Inv X pins σ H s):∀x c,X.env.cells.lookup x=some c->c≠X.env.locals:=fun x c e z=>by
 obtain⟨v,o,ho,hd⟩:=I.cell x c e
 obtain⟨m,⟨o',es,ep,ho',hd',_⟩,_⟩:=I.loc
 rw [z,ho'] at ho;cases ho;rw [hd'] at hd;cases hd
theorem Inv.funs (I:Inv X pins σ H s):s.heap.FunFrames X.base X.outer:=by
 have all:∀(l:List Env),(∀b∈frs l,b∈X.fs)->X.s₀.heap.FunFrames X.base l->s.heap.FunFrames X.base l:=by
  intro l
  induction l with
  |nil=>intro _ _;trivial
  |cons env r ih=>
   intro hs hl
   obtain⟨hk,⟨L,o,hf,hn,ho,hd⟩,hr⟩:=hl
   have hL:L∈X.fs:=hs L (by unfold frs;rw [fD,hf];exact zG)
   obtain⟨sl,e⟩:=I.base.slot L o ho (I.ok.frf L hL) hL fun z=>I.ok.exfs L z hL
   exact⟨hk,⟨L,_,hf,hn,e,hd⟩,ih (fun b hb=>hs b (by unfold frs;rw [fD,hf];exact zE _ hb)) hr⟩
 exact all X.outer (fun _ hb=>hb) I.ok.funs
theorem Inv.stack (I:Inv X pins σ H s):s.heap.FunFrames X.base X.stack:=by
 rcases I.ok.stk with e|⟨e,hf⟩
 .rw [e];exact I.funs
 .rw [e]
  obtain⟨m,hn,_⟩:=I.loc
  refine .cons (by rw [I.ok.kind];decide) hf hn ?_ I.funs
  exact aH (vP I.ok.bsz I.ok.above)
theorem Inv.stkSub (I:Inv X pins σ H s):∀b∈frs X.stack,b∈X.env.locals :: X.fs:=fun b hb=>by
 rcases I.ok.stk with e|⟨e,hf⟩
 .rw [e] at hb;exact zE _ hb
 .rw [e] at hb
  unfold frs at hb
  rw [fD,hf] at hb
  exact hb
theorem Inv.stkFree (I:Inv X pins σ H s):∀b∈frs X.stack,H b=none:=fun b hb=>by
 rcases zR.mp (I.stkSub b hb) with e|hb
 .rw [e];exact I.free
 .obtain⟨_,o,ho,_⟩:=I.ok.funs.mem hb
  exact I.base.free b o ho (I.ok.frf b hb) fun z=>I.ok.exfs b z hb
theorem Inv.step {g':Array GenState} {t':Nat} {d':Drawn} {ch:List Addr} (I:Inv X pins σ H s)
  (hch:∀b∈ch,(b∈X.ex\/X.s₀.heap.objs.size<=b)/\b≠X.env.locals/\(∀x c,X.env.cells.lookup x=some c->c≠b)/\∀p∈X.pn++pins,p.1≠b)
  (keep:∀b o,b≠X.env.locals->b∉X.fs->b∉ch->s.heap.get? b=some o->H b=none->h'.get? b=some o)
  (slot:∀b o,b≠X.env.locals->b∈X.fs->b∉ch->s.heap.get? b=some o->H b=none->∃sl,h'.get? b=some {o with slots:=sl}) (free:∀b o,b∉ch->s.heap.get? b=some o->H b=none->H' b=none)
  (there:∀b o,b∉ch->s.heap.get? b=some o->∃o',h'.get? b=some o')
  (tups:∀b xs,H b=some (.tup xs)->H' b=some (.tup xs)) (frzs:∀b o u,H b=some (.frz o u)->H' b=some (.frz o u)) (tbls:∀b ps,H b=some (.tbl ps)->∃more,H' b=some (.tbl (ps++more)))
  (ns:∀m,s.heap.Ns X.env.locals m->h'.Ns X.env.locals m) (hok:HOk X.prog X.w H' h') (hg:cV g'):
  Inv X pins σ H' {s with heap:=h',gens:=g',drawn:=d',toks:=t'}:=by
 have neL:∀b o,X.s₀.heap.get? b=some o->b≠X.env.locals:=fun b o e=>vD (vI (uN e) I.ok.above)
 have neC:∀b o,X.s₀.heap.get? b=some o->b∉X.ex->b∉ch:=fun b o e hx hb=>by
  rcases(hch b hb).1 with z|z
  .exact hx z
  .exact absurd (vI (uN e) z) (wD _)
 have cellK:∀x c,X.env.cells.lookup x=some c->∀v,s.heap.IsCell c v->h'.IsCell c v:=fun x c e v ⟨o,ho,hd⟩=>by
  have nch:c∉ch:=fun z=>(hch c z).2.2.1 x c e rfl
  by_cases hc:c∈X.fs
  .obtain⟨sl,q⟩:=slot c o (I.cne x c e) hc nch ho (I.freeC x c e)
   exact⟨_,q,hd⟩
  .exact⟨o,keep c o (I.cne x c e) hc nch ho (I.freeC x c e),hd⟩
 refine⟨I.ok,I.os,hg,⟨fun b o e n hb hx=>?_,fun b o e n hb hx=>?_,fun b o e n hx=>?_,fun b o e hx=>?_,fun b xs e=>tups b xs (I.base.tups b xs e),fun b o xs e=>frzs b o xs (I.base.frzs b o xs e),fun b ps e=>?_⟩,?_,fun x c e=>?_,?_,fun x c e=>?_,fun p hp=>?_,hok,I.len⟩
 .exact keep b o (neL b o e) hb (neC b o e hx) (I.base.keep b o e n hb hx) (I.base.free b o e n hx)
 .obtain⟨sl,e1⟩:=I.base.slot b o e n hb hx
  obtain⟨sl',e2⟩:=slot b _ (neL b o e) hb (neC b o e hx) e1 (I.base.free b o e n hx)
  exact⟨sl',e2⟩
 .obtain⟨o',e1⟩:=I.base.there b o e hx
  exact free b o' (neC b o e hx) e1 (I.base.free b o e n hx)
 .obtain⟨o',e1⟩:=I.base.there b o e hx
  exact there b o' (neC b o e hx) e1
 .obtain⟨m1,e1⟩:=I.base.tbls b ps e
  obtain⟨m2,e2⟩:=tbls b _ e1
  exact⟨m1++m2,by rw [e2,Array.append_assoc]⟩
 .obtain⟨m,hn,hl⟩:=I.loc
  refine⟨m,ns m hn,fun i x v e1 e2 e3=>?_⟩
  obtain⟨u,r,l⟩:=hl i x v e1 e2 e3
  refine⟨u,r,?_⟩
  rcases l with l|⟨k,c,e,z⟩
  .exact .inl l
  .exact .inr ⟨k,c,e,cellK x c e _ z⟩
 .obtain⟨v,z⟩:=I.cell x c e
  exact⟨v,cellK x c e v z⟩
 .obtain⟨m,⟨o,_,_,ho,_⟩,_⟩:=I.loc
  exact free _ o (fun z=>(hch _ z).2.1 rfl) ho I.free
 .obtain⟨v,o,ho,hd⟩:=I.cell x c e
  exact free c o (fun z=>(hch c z).2.2.1 x c e rfl) ho (I.freeC x c e)
 .obtain⟨e,n,ne,nf,d⟩:=I.pin p hp
  have nch:p.1∉ch:=fun z=>(hch p.1 z).2.2.2 p hp rfl
  exact⟨keep p.1 p.2 ne nf nch e n,free p.1 p.2 nch e n,ne,nf,d⟩
theorem Inv.un {t':Nat} (I:Inv X pins σ H s) (u:Un X.fs [] H H' s.heap h') (hok:HOk X.prog X.w H' h'):Inv X pins σ H' {s with heap:=h',toks:=t'}:=by
 obtain⟨m,⟨o,es,ep,ho,r⟩,_⟩:=id I.loc
 obtain⟨sl,hL⟩:=u.any ho I.free (by simp)
 exact I.step (g':=s.gens) (d':=s.drawn) (ch:=[]) (fun _ z=>nomatch z) (fun b o _ hb _ e n=>u.keep b o e n hb (by simp)) (fun b o _ hb _ e n=>u.slot b o e n hb (by simp)) (fun b o _ e n=>u.free b o e n (by simp)) (fun b o _ e=>u.there b o e (by simp)) u.tups u.frzs u.tbls (fun m' hm=>by
  obtain⟨o',es',ep',ho',r'⟩:=hm
  rw [ho] at ho';cases ho'
  exact⟨_,es',ep',hL,r'⟩) hok I.bare
theorem Inv.call {g':Array GenState} {t':Nat} {d':Drawn} {ch:List Addr} (I:Inv X pins σ H s) (u:Un (frs X.stack) ch H H' s.heap h') (hok:HOk X.prog X.w H' h') (hg:cV g')
  (hch:∀b∈ch,(b∈X.ex\/X.s₀.heap.objs.size<=b)/\b≠X.env.locals/\(∀x c,X.env.cells.lookup x=some c->c≠b)/\∀p∈X.pn++pins,p.1≠b):
  Inv X pins σ H' {s with heap:=h',gens:=g',drawn:=d',toks:=t'}:=by
 obtain⟨m,⟨o,es,ep,ho,r⟩,_⟩:=id I.loc
 obtain⟨sl,hL⟩:=u.any ho I.free fun z=>(hch _ z).2.1 rfl
 exact I.step (ch:=ch) hch (fun b o hL hb hc e n=>u.keep b o e n (fun z=>(zR.mp (I.stkSub b z)).elim hL hb) hc) (fun b o _ _ hc e n=>u.any e n hc) (fun b o hc e n=>u.free b o e n hc) (fun b o hc e=>u.there b o e hc) u.tups u.frzs u.tbls (fun m' hm=>by
  obtain⟨o',es',ep',ho',r'⟩:=hm
  rw [ho] at ho';cases ho'
  exact⟨_,es',ep',hL,r'⟩) hok hg
theorem Inv.turned {t':Nat} {it:Addr} (I:Inv X pins σ H s) (k:∀b o,b≠it->s.heap.get? b=some o->h'.get? b=some o) (hn:H it=none) (hL:it≠X.env.locals)
  (h1:it∈X.ex\/X.s₀.heap.objs.size<=it) (h2:∀x c,X.env.cells.lookup x=some c->c≠it) (h3:∀p∈X.pn++pins,p.1≠it):Inv X pins σ H {s with heap:=h',toks:=t'}:=by
 have nit:∀b u,H b=some u->b≠it:=fun b u e z=>by rw [z,hn] at e;cases e
 refine I.step (g':=s.gens) (d':=s.drawn) (ch:=[it]) (fun b hb=>?_) (fun b o _ _ hc e _=>k b o (fun z=>hc (by simp [z])) e) (fun b o _ _ hc e _=>⟨o.slots,k b o (fun z=>hc (by simp [z])) e⟩) (fun _ _ _ _ n=>n)
  (fun b o hc e=>⟨o,k b o (fun z=>hc (by simp [z])) e⟩) (fun _ _ e=>e) (fun _ _ _ e=>e) (fun b ps e=>⟨#[],by rw [e];simp⟩) (fun m hm=>?_) (fun b u e=>?_) I.bare
 .have e:b=it:=by simpa using hb
  subst e
  exact⟨h1,hL,h2,h3⟩
 .obtain⟨o,es,ep,ho,r⟩:=hm
  exact⟨o,es,ep,k _ o (xP hL) ho,r⟩
 .refine(I.hok b u e).stay (fun c v hc q=>k c v ?_ q) (fun _ q=>q) fun _ _ q=>q
  rcases hc with z|z
  .rw [z];exact nit b u e
  .exact nit c _ z
theorem Inv.tok (I:Inv X pins σ H s) (t:Nat):Inv X pins σ H {s with toks:=t}:=I.un (h':=s.heap) (t':=t) Un.refl I.hok
theorem Inv.kept {t':Nat} (I:Inv X pins σ H s) (k:∀b u,s.heap.get? b=some u->h'.get? b=some u):Inv X pins σ H {s with heap:=h',toks:=t'}:=I.un (Un.kept k) (I.hok.kept k)
theorem Inv.laid {a:Addr} {o:HO} {t':Nat} (I:Inv X pins σ H s) (k:∀b u,s.heap.get? b=some u->h'.get? b=some u) (hp:s.heap.objs.size<=a) (new:qbo X.prog X.w (upd H a o) h' a o):
  Inv X pins σ (upd H a o) {s with heap:=h',toks:=t'}:=I.un (Un.laid k hp (I.hok.fresh hp)) (I.hok.laid k hp new)
theorem Inv.write {x e:Addr} {o:HO} {t':Nat} (I:Inv X pins σ H s) (mu:Mut (H x)) (he:e=x\/H e=some (.own x)) (k:∀b u,b≠e->s.heap.get? b=some u->h'.get? b=some u) (heo:∃u,h'.get? e=some u)
  (new:qbo X.prog X.w (upd H x o) h' x o):Inv X pins σ (upd H x o) {s with heap:=h',toks:=t'}:=I.un (Un.write mu he k heo) (I.hok.write mu he k heo new)
theorem Inv.pins_of {pins':List (Addr × Obj)} (I:Inv X pins σ H s) (h:∀p∈pins',s.heap.get? p.1=some p.2/\H p.1=none/\p.1≠X.env.locals/\p.1∉X.fs/\∀v,p.2.data≠ .cell v):Inv X pins' σ H s:=
 ⟨I.ok,I.os,I.bare,I.base,I.loc,I.cell,I.free,I.freeC,fun p hp=>(zT.mp hp).elim (fun z=>I.pin p (yG _ z)) (h p),I.hok,I.len⟩
theorem nodup_ix {N:List Str} (hN:N.Nodup) {i j:Nat} {x:Str} (a:N[i]?=some x) (b:N[j]?=some x):i=j:=by
 obtain⟨h1,e1⟩:=uH.mp a
 obtain⟨h2,e2⟩:=uH.mp b
 exact(List.getElem_inj hN).mp (e1.trans e2.symm)
theorem store_ok2 {M:Model} {A:vO} {E:uC->uD->Prop} {i:Nat} {x:Str} {v:V} {u:uC} {Q:Unit->uD->Prop} (I:Inv X pins σ H s) (hN:X.N.Nodup) (hi:X.N[i]?=some x) (hx:Loc X.env.scope x) (r:qbf v u)
  (h:∀s',Inv X pins (σ.set i (some v)) H s'->(∃a,bH a s.heap s'.heap/\(a=X.env.locals\/X.env.cells.lookup x=some a))->Q () s') (hf:X.fn x=true\/X.env.scope.names.lookup x=some .local:=by first|exact .inl rfl|exact .inr rfl|assumption):uT M A (storeName X.env x u) Q E s:=by
 obtain⟨m,hn,hl⟩:=id I.loc
 have hcls:(X.env.scope.kind==.class ||(X.env.scope.kind==.module && X.env.locals !=X.env.globals))=false:=by rw [I.ok.kind];rfl
 have hiσ:i < σ.length:=by rw [I.len];exact(uH.mp hi).1
 have cne:=I.cne
 have tracked:∀{a:Addr} {h':vR},(∃o,s.heap.get? a=some o/\H a=none)->bH a s.heap h'->HOk X.prog X.w H h':=fun {a h'} ha hs b ob e=>by
  obtain⟨_,_,hfree⟩:=ha
  refine(I.hok b ob e).stay (fun c w' hc q=>(hs.2 c ?_).trans q) (fun _ q=>q) fun _ _ q=>q
  rintro rfl
  rcases hc with rfl|hc
  .rw [hfree] at e;cases e
  .rw [hfree] at hc;cases hc
 rcases hx with hk|hk
 .refine wpAny_storeName_local hk hn (fun h' hn' hs=>?_) hcls
  obtain⟨oL,_,_,hoL,_⟩:=id hn
  refine h _ ⟨I.ok,I.os,I.bare,⟨fun b o e n hb hx=>?_,fun b o e n hb hx=>?_,I.base.free,fun b o e hx=>?_,I.base.tups,I.base.frzs,I.base.tbls⟩,⟨_,hn',fun j y v' e1 e2 e3=>?_⟩,fun y c e=>?_,I.free,I.freeC,fun p hp=>?_,tracked ⟨oL,hoL,I.free⟩ hs,by simpa using I.len⟩ ⟨_,hs,.inl rfl⟩
  .exact(hs.2 b (vD (vI (uN e) I.ok.above))).trans (I.base.keep b o e n hb hx)
  .obtain⟨sl,e1⟩:=I.base.slot b o e n hb hx
   exact⟨sl,(hs.2 b (vD (vI (uN e) I.ok.above))).trans e1⟩
  .obtain⟨o',e1⟩:=I.base.there b o e hx
   exact⟨o',(hs.2 b (vD (vI (uN e) I.ok.above))).trans e1⟩
  .by_cases hj:j=i
   .subst hj
    rw [hi] at e1;cases e1
    rw [List.getElem?_set_self hiσ] at e2
    cases e2
    exact⟨u,r,.inl ⟨hk,by simp⟩⟩
   .rw [List.getElem?_set_ne (xP hj)] at e2
    obtain⟨u',r',q⟩:=hl j y v' e1 e2 e3
    refine⟨u',r',?_⟩
    rcases q with ⟨k,e⟩ |⟨k,c,e,z⟩
    .refine .inl ⟨k,?_⟩
     have:y≠x:=fun e=>hj (nodup_ix hN e1 (e ▸ hi))
     simp [this,e]
    .exact .inr ⟨k,c,e,z.sameBut hs (cne y c e)⟩
  .obtain⟨w',z⟩:=I.cell y c e
   exact⟨w',z.sameBut hs (cne y c e)⟩
  .obtain⟨e,n,ne,nf,d⟩:=I.pin p hp
   exact⟨(hs.2 p.1 ne).trans e,n,ne,nf,d⟩
 .have hfn:X.fn x=true:=by
   rcases hf with z|z
   .exact z
   .rw [z] at hk;cases hk
  obtain⟨c,hc⟩:=I.ok.has x (.inl hk)
  obtain⟨w',z⟩:=I.cell x c hc
  refine wpAny_storeName_cell I.ok.kind hk hc z (fun h' hc' hs=>?_)
  obtain⟨oc,hoc,hocd⟩:=id z
  refine h {s with heap:=h'} ⟨I.ok,I.os,I.bare,⟨fun b o e n hb hx=>?_,fun b o e n hb hx=>?_,I.base.free,fun b o e hx=>?_,I.base.tups,I.base.frzs,I.base.tbls⟩,⟨m,hn.sameBut hs (xP (cne x c hc)),fun j y v' e1 e2 e3=>?_⟩,fun y c' e=>?_,I.free,I.freeC,fun p hp=>?_,tracked ⟨oc,hoc,I.freeC x c hc⟩ hs,by simpa using I.len⟩ ⟨c,hs,.inr hc⟩
  .exact(hs.2 b (vD (vI (uN e) (I.ok.cab x c hfn hc)))).trans (I.base.keep b o e n hb hx)
  .obtain⟨sl,e1⟩:=I.base.slot b o e n hb hx
   exact⟨sl,(hs.2 b (vD (vI (uN e) (I.ok.cab x c hfn hc)))).trans e1⟩
  .obtain⟨o',e1⟩:=I.base.there b o e hx
   exact⟨o',(hs.2 b (vD (vI (uN e) (I.ok.cab x c hfn hc)))).trans e1⟩
  .by_cases hj:j=i
   .subst hj
    rw [hi] at e1;cases e1
    rw [List.getElem?_set_self hiσ] at e2
    cases e2
    exact⟨u,r,.inr ⟨.inl hk,c,hc,hc'⟩⟩
   .rw [List.getElem?_set_ne (xP hj)] at e2
    obtain⟨u',r',q⟩:=hl j y v' e1 e2 e3
    refine⟨u',r',?_⟩
    rcases q with q|⟨k,c',e,z'⟩
    .exact .inl q
    .refine .inr ⟨k,c',e,z'.sameBut hs ?_⟩
     rintro rfl
     exact hj (nodup_ix hN e1 (I.ok.inj _ _ _ e hc ▸ hi))
  .by_cases hcc:c'=c
   .subst hcc;exact⟨_,hc'⟩
   .obtain⟨w2,z2⟩:=I.cell y c' e
    exact⟨w2,z2.sameBut hs hcc⟩
  .obtain⟨e,n,ne,nf,d⟩:=I.pin p hp
   refine⟨(hs.2 p.1 ?_).trans e,n,ne,nf,d⟩
   intro q
   rw [q,hoc] at e
   have q':oc=p.2:=uX e
   exact d w' (by rw [<-q'];exact hocd)
theorem qeo {M:Model} {A:vO} {E:uC->uD->Prop} {i:Nat} {x:Str} {v:V} {u:uC} {Q:Unit->uD->Prop} (I:Inv X pins σ H s) (hN:X.N.Nodup) (hi:X.N[i]?=some x) (hx:Loc X.env.scope x) (r:qbf v u)
  (h:∀s',Inv X pins (σ.set i (some v)) H s'->Q () s') (hf:X.fn x=true\/X.env.scope.names.lookup x=some .local:=by first|exact .inl rfl|exact .inr rfl|assumption):uT M A (storeName X.env x u) Q E s:=
 store_ok2 I hN hi hx r (fun s' I' _=>h s' I') hf
theorem Inv.call' {s':uD} {ch:List Addr} (I:Inv X pins σ H s) (ho:s'.os=s.os) (u:Un (frs X.stack) ch H H' s.heap s'.heap) (hok:HOk X.prog X.w H' s'.heap) (hg:cV s'.gens)
  (hch:∀b∈ch,(b∈X.ex\/X.s₀.heap.objs.size<=b)/\b≠X.env.locals/\(∀x c,X.env.cells.lookup x=some c->c≠b)/\∀p∈X.pn++pins,p.1≠b):Inv X pins σ H' s':=by
 obtain⟨h',g',d',t',o'⟩:=s'
 have e:o'=s.os:=ho
 subst e
 exact I.call (g':=g') (t':=t') (d':=d') u hok hg hch
end
abbrev XK:=uC->Option Addr->Hp->Prop
abbrev St:=List (Option V)
abbrev VK:=V->Hp->Prop
abbrev TE:=St->Hp->VK->Prop
abbrev TT:=St->Hp->(Bool->Hp->Prop)->Prop
abbrev TA:=St->Hp->(List V->Hp->Prop)->Prop
structure Ends where
 nx:St->Hp->Prop
 rt:VK
 bk:St->Hp->Prop:=fun _ _=>False
 ct:St->Hp->Prop:=fun _ _=>False
abbrev TS:=Ends->St->Hp->Prop
noncomputable def EP (X:Cx) (pins:List (Addr × Obj)) (σ:St) (Q:VK) (u:uC) (s':uD):Prop:=∃v H',Inv X pins σ H' s'/\qbf v u/\Q v H'
noncomputable def TP (X:Cx) (pins:List (Addr × Obj)) (σ:St) (Q:Bool->Hp->Prop) (b:Bool) (s':uD):Prop:=∃H',Inv X pins σ H' s'/\Q b H'
noncomputable def AP (X:Cx) (pins:List (Addr × Obj)) (σ:St) (Q:List V->Hp->Prop) (us:List uC) (s':uD):Prop:=∃vs H',Inv X pins σ H' s'/\qbi vs us/\Q vs H'
noncomputable def SP (X:Cx) (pins:List (Addr × Obj)) (D:Ends) (f:Flow) (s':uD):Prop:=
 match f with
 | .next=>∃σ' H',Inv X pins σ' H' s'/\D.nx σ' H'
 | .brk=>∃σ' H',Inv X pins σ' H' s'/\D.bk σ' H'
 | .cont=>∃σ' H',Inv X pins σ' H' s'/\D.ct σ' H'
 | .ret u=>∃v σ' H',Inv X pins σ' H' s'/\qbf v u/\D.rt v H'
noncomputable def PE (X:Cx) (e:vU) (t:TE):Prop:=
 ∀(pins:List (Addr × Obj)) (s:uD) (σ:St) (H:Hp) (Q:VK),Inv X pins σ H s->t σ H Q->uT (uW X.prog X.w) X.A (wH e X.env) (EP X pins σ Q) X.xe s
noncomputable def PT (X:Cx) (e:vU) (t:TT):Prop:=
 ∀(pins:List (Addr × Obj)) (s:uD) (σ:St) (H:Hp) (Q:Bool->Hp->Prop),Inv X pins σ H s->t σ H Q->uT (uW X.prog X.w) X.A (isTrue e X.env (wH e X.env)) (TP X pins σ Q) X.xe s
noncomputable def PW (X:Cx) (e:vU) (t:TT):Prop:=
 ∀(whole:Sem uC) (pins:List (Addr × Obj)) (s:uD) (σ:St) (H:Hp) (Q:Bool->Hp->Prop),Inv X pins σ H s->t σ H Q->uT (uW X.prog X.w) X.A (isTrue e X.env whole) (TP X pins σ Q) X.xe s
theorem PW.pt {X:Cx} {e:vU} {t:TT} (h:PW X e t):PT X e t:=h _
noncomputable def PA (X:Cx) (es:List vU) (t:TA):Prop:=
 ∀(pos:Pos) (pins:List (Addr × Obj)) (s:uD) (σ:St) (H:Hp) (Q:List V->Hp->Prop),Inv X pins σ H s->t σ H Q->uT (uW X.prog X.w) X.A (spliced (wR pos (vC es X.env))) (AP X pins σ Q) X.xe s
noncomputable def PS (X:Cx) (st:Stmt) (t:TS):Prop:=
 ∀(pins:List (Addr × Obj)) (s:uD) (σ:St) (H:Hp) (D:Ends),Inv X pins σ H s->t D σ H->uT (uW X.prog X.w) X.A (exec st X.env) (SP X pins D) X.xe s
noncomputable def PSs (X:Cx) (st:List Stmt) (t:TS):Prop:=
 ∀(pins:List (Addr × Obj)) (s:uD) (σ:St) (H:Hp) (D:Ends),Inv X pins σ H s->t D σ H->uT (uW X.prog X.w) X.A (execs st X.env) (SP X pins D) X.xe s
theorem thn {α:Type} {t:Sem α} {Q Q':α->uD->Prop} {M:Model} {A:vO} {E:uC->uD->Prop} {s:uD} (h:uT M A t Q E s) (hQ:∀a s,Q a s->Q' a s):uT M A t Q' E s:=vK h hQ fun _ _ x=>x
section
variable {X: Cx}
theorem bin {a b:vU} {ta tb:TE} (ha:PE X a ta) (hb:PE X b tb) {pins:List (Addr × Obj)} {s:uD} {σ:St} {H:Hp} {R:V->V->Hp->Prop} (I:Inv X pins σ H s) (h:ta σ H fun x H1=>tb σ H1 fun y H2=>R x y H2)
  {α:Type} {Q:α->uD->Prop} {f:uC->uC->Sem α}
  (hf:∀v u s2 x y H2,Inv X pins σ H2 s2->qbf x v->qbf y u->R x y H2->uT (uW X.prog X.w) X.A (f v u) Q X.xe s2):
  uT (uW X.prog X.w) X.A (wH a X.env) (fun v s₁=>uT (uW X.prog X.w) X.A (wH b X.env) (fun u s₂=>uT (uW X.prog X.w) X.A (f v u) Q X.xe s₂) X.xe s₁) X.xe s:=by
 refine thn (ha pins s σ H _ I h) fun v s1 ⟨x,H1,I1,r1,q1⟩=>?_
 refine thn (hb pins s1 σ H1 _ I1 q1) fun u s2 ⟨y,H2,I2,r2,q2⟩=>?_
 exact hf v u s2 x y H2 I2 r1 r2 q2
noncomputable def tVar (i:Nat):TE:=fun σ H Q=>∃v,σ[i]?=some (some v)/\Q v H
noncomputable def tC (v:V):TE:=fun _ H Q=>Q v H
theorem pe_var {i:Nat} {x:Str} {pos:Pos} (hN:X.N[i]?=some x) (hv:Vis X.env.scope x) (hd:(x==("__debug__" :Str))=false:=by decide) (hcd:(x==("__classdict__" :Str))=false:=by decide):PE X (.Name x pos) (tVar i):=by
 intro pins s σ H Q I h
 obtain⟨v,e,h⟩:=h
 obtain⟨m,hn,hl⟩:=I.loc
 obtain⟨u,r,l⟩:=hl i x v hN e hv
 have fin:EP X pins σ Q u s:=⟨v,H,I,r,h⟩
 rcases l with ⟨hk,hm⟩ |⟨hk,c,hc,hcell⟩
 .exact wpAny_Name (wpAny_loadName_local I.ok.kind hk hn hm fin) hd
 .rcases hk with hk|hk
  .exact wpAny_Name (wpAny_loadName_cell I.ok.kind hk hc hcell fin) hd
  .exact wpAny_Name (wpAny_loadName_free I.ok.kind hk hc hcell fin hcd) hd
theorem qa4 {i j pos}:PE X (.Constant (.int i) j pos) (tC (.int i)):=fun _ _ _ H _ I h=>wpAny_Constant_int ⟨.int i,H,I.tok _,⟨_,rfl⟩,h⟩
theorem qdc {b j pos}:PE X (.Constant (.bool b) j pos) (tC (.bl b)):=fun _ _ _ H _ I h=>Constant_bool ⟨.bl b,H,I,rfl,h⟩
theorem qcy {j pos}:PE X (.Constant .none j pos) (tC .non):=fun _ _ _ H _ I h=>Constant_none ⟨.non,H,I,rfl,h⟩
theorem qcx {x j pos}:PE X (.Constant (.str x) j pos) (tC (.str x)):=fun _ _ _ H _ I h=>Calls.Constant_str ⟨.str x,H,I.tok _,⟨_,rfl⟩,h⟩
noncomputable def Gl (X:Cx) (x:Str):Prop:=X.env.kindOf x=some .globalImplicit
theorem qdw {E:uC->uD->Prop} {pins:List (Addr × Obj)} {s:uD} {σ:St} {H:Hp} {x:Str} {u:uC} {pos:Pos} {Q:uC->uD->Prop} (I:Inv X pins σ H s) (hg:Gl X x) (hm:X.mg x=some u) (h:Q u s)
  (hd:(x==("__debug__" :Str))=false:=by decide):uT (uW X.prog X.w) X.A (wH (.Name x pos) X.env) Q E s:=
 Calls.Name_function_global I.ok.kind hg (Calls.loadGlobal_global (by rw [I.ok.glob];exact I.mod.glob.keeps I.bk) hm h) hd
theorem qf5 {E:uC->uD->Prop} {pins:List (Addr × Obj)} {s:uD} {σ:St} {H:Hp} {x:Str} {u:uC} {pos:Pos} {Q:uC->uD->Prop} (I:Inv X pins σ H s) (hg:Gl X x) (hm:X.mg x=none) (hv:aQ x=some u) (h:Q u s)
  (hn:x≠"__name__":=by decide) (hd:(x==("__debug__" :Str))=false:=by decide):uT (uW X.prog X.w) X.A (wH (.Name x pos) X.env) Q E s:=by
 obtain⟨mb,h1,h2⟩:=I.mod.blt
 exact Calls.Name_function_global I.ok.kind hg (Calls.loadGlobal_builtin (by rw [I.ok.glob];exact I.mod.glob.keeps I.bk) hm (by rw [I.ok.blt];exact h1.keeps I.bk) ((h2 x hn).trans hv) h) hd
theorem qee {x:Str} {v:V} {u:uC} {pos:Pos} (hg:Gl X x) (hm:X.mg x=some u) (r:qbf v u) (hd:(x==("__debug__" :Str))=false:=by decide):PE X (.Name x pos) (tC v):=
 fun _ _ _ H _ I h=>qdw I hg hm ⟨v,H,I,r,h⟩ hd
theorem qbu {x:Str} {v:V} {u:uC} {pos:Pos} (hg:Gl X x) (hm:X.mg x=none) (hv:aQ x=some u) (r:qbf v u) (hn:x≠"__name__":=by decide) (hd:(x==("__debug__" :Str))=false:=by decide):PE X (.Name x pos) (tC v):=
 fun _ _ _ H _ I h=>qf5 I hg hm hv ⟨v,H,I,r,h⟩ hn hd
variable {a b: vU} {ta tb: TE} {pos: Pos}
noncomputable def PC (X:Cx) (op:CmpOp) (a b:vU) (t:TE):Prop:=
 ∀(pins:List (Addr × Obj)) (s:uD) (σ:St) (H:Hp) (Q:VK),Inv X pins σ H s->t σ H Q->
  uT (uW X.prog X.w) X.A (wH a X.env) (fun v s₁=>uT (uW X.prog X.w) X.A (wH b X.env) (fun u s₂=>uT (uW X.prog X.w) X.A (wB op v u) (EP X pins σ Q) X.xe s₂) X.xe s₁) X.xe s
noncomputable def tB (t:TE):TT:=fun σ H Q=>t σ H fun x H1=>∃c,x=.bl c/\Q c H1
theorem pe_cmp {op:CmpOp} {t:TE} (h:PC X op a b t) (h1:bZ op b=false:=by first|exact nobehind _ (by decide) (by decide) |rfl):PE X (.Compare a [op] [b] pos) t:=fun pins s σ H Q I hw=>wpAny_Compare1 (h pins s σ H Q I hw) h1
theorem pt_cmp {op:CmpOp} {t:TE} (h:PC X op a b t) (h1:bZ op b=false:=by first|exact nobehind _ (by decide) (by decide) |rfl):PT X (.Compare a [op] [b] pos) (tB t):=by
 intro pins s σ H Q I hw
 refine wpAny_isTrue_Compare1 (thn (h pins s σ H _ I hw) fun v s1 h1=>thn h1 fun u s2 h2=>thn h2 fun c s3 ⟨x,H1,I1,r1,q1⟩=>?_) h1
 obtain⟨d,rfl,q⟩:=q1
 cases r1
 exact wF ⟨H1,I1,q⟩
theorem qb6 {e:vU} {t:TE} (h:PE X e t) (he:∀whole,isTrue e X.env whole=(do let v<-whole;standAt e.pos;holding [v] (truthy v)):=by intro _;rfl):PT X e (tB t):=by
 intro pins s σ H Q I hw
 refine isTrue_plain (thn (h pins s σ H _ I hw) fun v s1 ⟨x,H1,I1,r1,q1⟩=>?_) (he _)
 obtain⟨d,rfl,q⟩:=q1
 cases r1
 exact wF ⟨H1,I1,q⟩
variable {tA tB': TT} {rest: List vU}
noncomputable def tAnd (t u:TT):TT:=fun σ H Q=>t σ H fun c H1=>if c=true then u σ H1 Q else Q false H1
noncomputable def tOr (t u:TT):TT:=fun σ H Q=>t σ H fun c H1=>if c=true then Q true H1 else u σ H1 Q
noncomputable def tNot (t:TT):TT:=fun σ H Q=>t σ H fun c H1=>Q (!c) H1
theorem qg3 (ha:PT X a tA):PW X (.BoolOp .And [a] pos) tA:=by
 intro wh pins s σ H Q I h
 refine isTrue_and (thn (ha pins s σ H Q I h) fun c s1 e=>?_)
 cases c with
 |true=>exact isTrue_and_nil e
 |false=>exact e
theorem qd6 (ha:PT X a tA):PW X (.BoolOp .Or [a] pos) tA:=by
 intro wh pins s σ H Q I h
 refine isTrue_or (thn (ha pins s σ H Q I h) fun c s1 e=>?_)
 cases c with
 |false=>exact isTrue_or_nil e
 |true=>exact e
theorem pw_and (ha:PT X a tA) (hb:PW X (.BoolOp .And (b :: rest) pos) tB'):PW X (.BoolOp .And (a :: b :: rest) pos) (tAnd tA tB'):=by
 intro wh pins s σ H Q I h
 refine isTrue_and (thn (ha pins s σ H _ I h) fun c s1 ⟨H1,I1,q1⟩=>?_)
 cases c with
 |true=>exact hb wh pins s1 σ H1 Q I1 q1
 |false=>exact⟨H1,I1,q1⟩
theorem qcr (ha:PT X a tA) (hb:PW X (.BoolOp .Or (b :: rest) pos) tB'):PW X (.BoolOp .Or (a :: b :: rest) pos) (tOr tA tB'):=by
 intro wh pins s σ H Q I h
 refine isTrue_or (thn (ha pins s σ H _ I h) fun c s1 ⟨H1,I1,q1⟩=>?_)
 cases c with
 |true=>exact⟨H1,I1,q1⟩
 |false=>exact hb wh pins s1 σ H1 Q I1 q1
theorem qbj (ha:PT X a tA):PT X (.UnaryOp .Not a pos) (tNot tA):=by
 intro pins s σ H Q I h
 exact isTrue_not (ha pins s σ H (fun c H1=>Q (!c) H1) I h)
noncomputable def tAndV (ta tb:TE):TE:=fun σ H Q=>ta σ H fun x H1=>∃c,x=.bl c/\if c=true then tb σ H1 Q else Q (.bl false) H1
noncomputable def tOrV (ta tb:TE):TE:=fun σ H Q=>ta σ H fun x H1=>∃c,x=.bl c/\if c=true then Q (.bl true) H1 else tb σ H1 Q
noncomputable def tNotV (ta:TE):TE:=fun σ H Q=>ta σ H fun x H1=>∃c,x=.bl c/\Q (.bl (!c)) H1
theorem qdi {op} {t:TE} (h:PE X a t):PE X (.BoolOp op [a] pos) t:=fun pins s σ H Q I hw=>BoolOp_one (h pins s σ H Q I hw)
theorem qe3 (ha:PE X a ta) (hb:PE X (.BoolOp .And (b :: rest) pos) tb):PE X (.BoolOp .And (a :: b :: rest) pos) (tAndV ta tb):=by
 intro pins s σ H Q I h
 refine BoolOp_and (thn (ha pins s σ H _ I h) fun v s1 ⟨x,H1,I1,r1,q1⟩=>?_)
 obtain⟨c,rfl,q1⟩:=q1
 cases r1
 refine wF ?_
 cases c with
 |true=>exact hb pins s1 σ H1 Q I1 q1
 |false=>exact⟨.bl false,H1,I1,rfl,q1⟩
theorem pe_or (ha:PE X a ta) (hb:PE X (.BoolOp .Or (b :: rest) pos) tb):PE X (.BoolOp .Or (a :: b :: rest) pos) (tOrV ta tb):=by
 intro pins s σ H Q I h
 refine BoolOp_or (thn (ha pins s σ H _ I h) fun v s1 ⟨x,H1,I1,r1,q1⟩=>?_)
 obtain⟨c,rfl,q1⟩:=q1
 cases r1
 refine wF ?_
 cases c with
 |false=>exact hb pins s1 σ H1 Q I1 q1
 |true=>exact⟨.bl true,H1,I1,rfl,q1⟩
theorem pe_not (ha:PE X a ta):PE X (.UnaryOp .Not a pos) (tNotV ta):=by
 intro pins s σ H Q I h
 refine UnaryOp_ (thn (ha pins s σ H _ I h) fun v s1 ⟨x,H1,I1,r1,q1⟩=>?_)
 obtain⟨c,rfl,q1⟩:=q1
 cases r1
 exact not_of (wF ⟨.bl (!c),H1,I1,rfl,q1⟩)
noncomputable def tIf (t:TT) (ta tb:TE):TE:=fun σ H Q=>t σ H fun c H1=>if c=true then ta σ H1 Q else tb σ H1 Q
theorem pe_ifExp {c:vU} (hc:PT X c tA) (ha:PE X a ta) (hb:PE X b tb):PE X (.IfExp c a b pos) (tIf tA ta tb):=by
 intro pins s σ H Q I h
 refine wpAny_IfExp (thn (hc pins s σ H _ I h) fun d s1 ⟨H1,I1,q1⟩=>?_)
 cases d with
 |true=>exact ha pins s1 σ H1 Q I1 q1
 |false=>exact hb pins s1 σ H1 Q I1 q1
end
noncomputable def SqL (K:uR) (H:Hp) (a:Addr) (xs:List V):Prop:=
 Rd H a (.lst xs)\/
  ∃(o:Obj) (its:Array uC) (n:Nat),K.lookup a=some o/\o.cls=.type "list"/\o.dict=none/\o.data=.seq its n/\its.size<=sizeLine/\qbi xs its.toList
noncomputable def SqT (K:uR) (H:Hp) (a:Addr) (xs:List V):Prop:=
 Rd H a (.tup xs)\/
  ∃(o:Obj) (its:Array uC) (n:Nat),K.lookup a=some o/\o.cls=.type "tuple"/\o.data=.seq its n/\its.size<=sizeLine/\qbi xs its.toList
noncomputable def absV:uC->Option V
 | .none=>some .non
 | .bool b=>some (.bl b)
 | .int i _=>some (.int i)
 | .str x _=>some (.str x)
 | .bytes b _=>some (.byt b)
 | .float b _=>some (.flt b)
 | .ref a=>some (.ref a)
 | .type n=>some (.ty n)
 |_=>none
theorem qbf.abs {x:V} {u:uC} (r:qbf x u):absV u=some x:=by
 cases x with
 |non=>cases r;rfl
 |bl _=>cases r;rfl
 |int _=>obtain⟨t,rfl⟩:=r;rfl
 |str _=>obtain⟨t,rfl⟩:=r;rfl
 |byt _=>obtain⟨t,rfl⟩:=r;rfl
 |flt _=>obtain⟨t,rfl⟩:=r;rfl
 |ref _=>cases r;rfl
 |ty _=>cases r;rfl
theorem qbf.inj {x y:V} {u:uC} (r:qbf x u) (q:qbf y u):x=y:=uX (r.abs.symm.trans q.abs)
theorem qbi.inj:∀{xs ys:List V} {us:List uC},qbi xs us->qbi ys us->xs=ys
 |_,_,_,.nil,.nil=>rfl
 |_,_,_,.cons r t,.cons r' t'=>by rw [r.inj r',qbi.inj t t']
section
variable {X: Cx} {pins: List (Addr × Obj)} {σ: St} {H: Hp} {s: uD} {a: Addr} {xs ys: List V}
theorem SqL.of {K:uR} (h:H a=some (.lst xs)):SqL K H a xs:=.inl (.inl h)
theorem SqT.of {K:uR} (h:H a=some (.tup xs)):SqT K H a xs:=.inl (.inl h)
theorem Inv.list (I:Inv X pins σ H s) (h:SqL X.K H a xs):∃its:List uC,qbi xs its/\PlainL s.heap a its.toArray/\xs.length<=sizeLine:=by
 rcases h with h|⟨o,its,n,hk,hc,hd,hs,hz,r⟩
 .obtain⟨z,its,n,r,e⟩:=h.ok I.hok
  exact⟨its,r,⟨_,n,e,rfl,rfl,rfl⟩,z⟩
 .refine⟨its.toList,r,⟨o,n,I.kIn a o hk,hc,hd,by simpa using hs⟩,?_⟩
  have e:=r.length
  simp only [fE] at e
  omega
theorem Inv.tuple (I:Inv X pins σ H s) (h:SqT X.K H a xs):∃its:List uC,qbi xs its/\IsTup s.heap a its.toArray/\xs.length<=sizeLine:=by
 rcases h with h|⟨o,its,n,hk,hc,hs,hz,r⟩
 .obtain⟨z,its,r,p⟩:=h.ok I.hok
  exact⟨its,r,p,z⟩
 .refine⟨its.toList,r,⟨o,I.kIn a o hk,hc,n,by simpa using hs⟩,?_⟩
  have e:=r.length
  simp only [fE] at e
  omega
theorem Inv.list_inj (I:Inv X pins σ H s) (h:SqL X.K H a xs) (h':SqL X.K H a ys):xs=ys:=by
 obtain⟨its,r,⟨o,n,e,_,_,d⟩,_⟩:=I.list h
 obtain⟨its',r',⟨o',n',e',_,_,d'⟩,_⟩:=I.list h'
 rw [e] at e';cases e'
 rw [d] at d'
 injection d' with d1 _
 have:its=its':=by simpa using congrArg Array.toList d1
 subst this
 exact r.inj r'
end
abbrev Cx.wish (X:Cx) (E:uC->uD->Prop):Cx:={X with xe:=E}
abbrev Cx.nox (X:Cx):Cx:=X.wish fun _ _=>False
theorem Cx.Ok.wish {X:Cx} (ok:X.Ok) (E:uC->uD->Prop):(X.wish E).Ok:=
 ⟨ok.mod,ok.kind,ok.glob,ok.blt,ok.above,ok.inj,ok.has,ok.cab,ok.hd,ok.frames,ok.stk,ok.exf,ok.bs,ok.bsz,ok.noex,ok.exfs,ok.funs,ok.frf⟩
theorem Cx.Ok.unwish {X:Cx} {E:uC->uD->Prop} (ok:(X.wish E).Ok):X.Ok:=
 ⟨ok.mod,ok.kind,ok.glob,ok.blt,ok.above,ok.inj,ok.has,ok.cab,ok.hd,ok.frames,ok.stk,ok.exf,ok.bs,ok.bsz,ok.noex,ok.exfs,ok.funs,ok.frf⟩
section
variable {X: Cx} {pins: List (Addr × Obj)} {σ: St} {H: Hp} {s: uD} {E: uC -> uD -> Prop}
theorem Inv.wish (I:Inv X pins σ H s) (E:uC->uD->Prop):Inv (X.wish E) pins σ H s:=⟨I.ok.wish E,I.os,I.bare,I.base,I.loc,I.cell,I.free,I.freeC,I.pin,I.hok,I.len⟩
theorem Inv.unwish (I:Inv (X.wish E) pins σ H s):Inv X pins σ H s:=⟨I.ok.unwish,I.os,I.bare,I.base,I.loc,I.cell,I.free,I.freeC,I.pin,I.hok,I.len⟩
theorem SP.unwish {D:Ends} {f:Flow} {s':uD} (h:SP (X.wish E) pins D f s'):SP X pins D f s':=by
 cases f with
 |next=>obtain⟨σ',H',I,q⟩:=h;exact⟨σ',H',I.unwish,q⟩
 |brk=>obtain⟨σ',H',I,q⟩:=h;exact⟨σ',H',I.unwish,q⟩
 |cont=>obtain⟨σ',H',I,q⟩:=h;exact⟨σ',H',I.unwish,q⟩
 |ret u=>obtain⟨v,σ',H',I,r,q⟩:=h;exact⟨v,σ',H',I.unwish,r,q⟩
theorem PSs.nox {st:List Stmt} {t:TS} (h:PSs X.nox st t):PSs X st t:=fun pins s σ H D I hw=>
 vK (h pins s σ H D (I.wish _) hw) (fun _ _ q=>q.unwish) fun _ _ z=>vY z
end
section
variable {X: Cx} {st: Stmt} {rest: List Stmt} {t u: TS} {e: vU} {te: TE} {pos: Pos}
noncomputable def tNext:TS:=fun D σ H=>D.nx σ H
noncomputable def tSeq (t u:TS):TS:=fun D σ H=>t {D with nx:=u D} σ H
theorem qaq:PSs X [] tNext:=fun _ _ σ H _ I h=>dY ⟨σ,H,I,h⟩
theorem qa1 (h1:PS X st t) (h2:PSs X rest u):PSs X (st :: rest) (tSeq t u):=by
 intro pins s σ H D I h
 refine wpAny_execs_cons (thn (h1 pins s σ H {D with nx:=u D} I h) fun f s1 q=>?_)
 cases f with
 |next=>
  obtain⟨σ',H',I',q⟩:=q
  exact h2 pins s1 σ' H' D I' q
 |ret v=>exact q
 |brk=>exact q
 |cont=>exact q
theorem qa5 (h1:PS X st t):PSs X [st] t:=by
 intro pins s σ H D I h
 refine wpAny_execs_cons (thn (h1 pins s σ H D I h) fun f s1 q=>?_)
 cases f with
 |next=>exact dY q
 |ret v=>exact q
 |brk=>exact q
 |cont=>exact q
theorem Inv.quiet {pins:List (Addr × Obj)} {σ:St} {H:Hp} {s:uD} (I:Inv X pins σ H s):interactive X.env=false:=by simp [interactive,I.ok.kind]
noncomputable def tDrop (te:TE):TS:=fun D σ H=>te σ H fun _ H1=>D.nx σ H1
theorem qba (he:PE X e te) (hs:eZ e none pos.line X.env=pure false:=by rfl):PS X (.Expr e pos) (tDrop te):=by
 intro pins s σ H D I h
 exact wpAny_Expr_any (thn (he pins s σ H _ I h) fun v s1 ⟨x,H1,I1,r1,q1⟩=>⟨σ,H1,I1,q1⟩) I.quiet hs
noncomputable def tRet (te:TE):TS:=fun D σ H=>te σ H D.rt
theorem qai (he:PE X e te):PS X (.Return (some e) pos) (tRet te):=by
 intro pins s σ H D I h
 exact wpAny_Return_some (thn (he pins s σ H _ I h) fun v s1 ⟨x,H1,I1,r1,q1⟩=>⟨x,σ,H1,I1,r1,q1⟩)
noncomputable def tIfS (c:TT) (t u:TS):TS:=fun D σ H=>c σ H fun b H1=>if b=true then t D σ H1 else u D σ H1
theorem qbh {c:vU} {a b:List Stmt} {tc:TT} (hc:PT X c tc) (ha:PSs X a t) (hb:PSs X b u):PS X (.If c a b pos) (tIfS tc t u):=by
 intro pins s σ H D I h
 refine wpAny_If (thn (hc pins s σ H _ I h) fun d s1 ⟨H1,I1,q1⟩=>?_)
 cases d with
 |true=>exact ha pins s1 σ H1 D I1 q1
 |false=>exact hb pins s1 σ H1 D I1 q1
end
abbrev TG:=V->St->Hp->(St->Hp->Prop)->Prop
abbrev TGs:=List V->St->Hp->(St->Hp->Prop)->Prop
noncomputable def PG (X:Cx) (target:vU) (t:TG):Prop:=
 ∀(pins:List (Addr × Obj)) (s:uD) (σ:St) (H:Hp) (v:V) (u:uC) (Q:St->Hp->Prop),Inv X pins σ H s->qbf v u->t v σ H Q->
  uT (uW X.prog X.w) X.A (fM target X.env u) (fun _ s'=>∃σ' H',Inv X pins σ' H' s'/\Q σ' H') X.xe s
noncomputable def PGs (X:Cx) (ts:List vU) (t:TGs):Prop:=
 ∀(pins:List (Addr × Obj)) (s:uD) (σ:St) (H:Hp) (vs:List V) (us:List uC) (Q:St->Hp->Prop),Inv X pins σ H s->qbi vs us->t vs σ H Q->
  uT (uW X.prog X.w) X.A (assignInOrder ((dP ts X.env).map (·.2)) us) (fun _ s'=>∃σ' H',Inv X pins σ' H' s'/\Q σ' H') X.xe s
section
variable {X: Cx} {pos: Pos}
noncomputable def qgd (i:Nat):TG:=fun v σ H Q=>Q (σ.set i (some v)) H
theorem qac {i:Nat} {x:Str} (hN:X.N.Nodup) (hi:X.N[i]?=some x) (hx:Loc X.env.scope x) (hf:X.fn x=true\/X.env.scope.names.lookup x=some .local:=by first|exact .inl rfl|exact .inr rfl|assumption):PG X (.Name x pos) (qgd i):=by
 intro pins s σ H v u Q I r h
 exact cW (qeo I hN hi hx r (fun s' I'=>⟨_,H,I',h⟩) hf)
noncomputable def gNil:TGs:=fun vs σ H Q=>vs=[]/\Q σ H
noncomputable def gCons (t:TG) (u:TGs):TGs:=fun vs σ H Q=>∃v r,vs=v :: r/\t v σ H fun σ' H'=>u r σ' H' Q
theorem qca:PGs X [] gNil:=by
 intro pins s σ H vs us Q I r h
 obtain⟨e,h⟩:=h
 subst e
 cases r
 exact assignInOrder_nil ⟨σ,H,I,h⟩
theorem qad {e:vU} {es:List vU} {t:TG} {u:TGs} (h1:PG X e t) (h2:PGs X es u)
  (hs:(dP (e :: es) X.env).map (·.2)=fM e X.env ::(dP es X.env).map (·.2):=by rfl):PGs X (e :: es) (gCons t u):=by
 intro pins s σ H vs us Q I r h
 obtain⟨v,vr,e1,h⟩:=h
 subst e1
 cases r with
 |cons r rr=>
  rw [hs]
  refine assignInOrder_cons (thn (h1 pins s σ H _ _ _ I r h) fun _ s1 ⟨σ1,H1,I1,q1⟩=>?_)
  exact h2 pins s1 σ1 H1 _ _ Q I1 rr q1
noncomputable def gTup (K:uR) (n:Nat) (t:TGs):TG:=fun v σ H Q=>∃a xs,v=.ref a/\SqT K H a xs/\xs.length=n/\t xs σ H Q
theorem qd7 {es:List vU} {k:Nat} {t:TGs} {n:Nat} (hc:X.calm=true) (h:PGs X es t)
  (hn:(dP es X.env).length=n:=by rfl) (hst:(dP es X.env).findIdx? (·.1)=none:=by rfl):PG X (.Tuple es k pos) (gTup X.K n t):=by
 intro pins s σ H v u Q I r hw
 obtain⟨a,xs,e1,hq,hl,hw⟩:=hw
 subst e1
 cases r
 obtain⟨its,rv,ht,hz⟩:=I.tuple hq
 refine assign_Tuple_tuple (I.ok.hd hc) ht (by simp [hn,<-hl,rv.length]) hst fun h' hx=>?_
 have I1:Inv X pins σ H {s with heap:=h'}:=I.kept (t':=s.toks) fun b o e=>hx b o (vD (uN e)) e
 exact h pins _ σ H xs _ Q I1 (by simpa using rv) hw
noncomputable def tAsg (te:TE) (g:TG):TS:=fun D σ H=>te σ H fun x H1=>g x σ H1 D.nx
theorem qej {tg e:vU} {te:TE} {g:TG} (he:PE X e te) (hg:PG X tg g) (hs:swapsWithSole [tg] e pos.line X.env=pure false:=by rfl) (hw:swappedStores [tg] e X.env=pure none:=by rfl)
  (h1:(dP [tg] X.env).map (·.2)=[fM tg X.env]:=by rfl):PS X (.Assign [tg] e pos) (tAsg te g):=by
 intro pins s σ H D I h
 refine wpAny_Assign_stores (thn (he pins s σ H _ I h) fun v s1 ⟨x,H1,I1,r1,q1⟩=>?_) hs hw
 rw [h1]
 exact thn (hg pins s1 σ H1 x v _ I1 r1 q1) fun _ s2 q=>q
theorem qag {i:Nat} {x:Str} {e:vU} {te:TE} {pos':Pos} (hN:X.N.Nodup) (hi:X.N[i]?=some x) (hx:Loc X.env.scope x) (he:PE X e te) (hs:eZ e (some (.Name x pos')) pos.line X.env=pure false:=by rfl) (hf:X.fn x=true\/X.env.scope.names.lookup x=some .local:=by first|exact .inl rfl|exact .inr rfl|assumption):
  PS X (.Assign [.Name x pos'] e pos) (tAsg te (qgd i)):=by
 intro pins s σ H D I h
 refine wpAny_Assign_Name (thn (he pins s σ H _ I h) fun v s1 ⟨y,H1,I1,r1,q1⟩=>?_) hs
 exact qeo I1 hN hi hx r1 (fun s2 I2=>⟨_,H1,I2,q1⟩) hf
end
section
variable {X: Cx} {pos: Pos}
noncomputable def tWhile (c:TT) (tb:TS):TS:=fun D σ H=>∃W:Nat->St->Hp->Prop,(∃m,W m σ H)/\∀m σ H,W m σ H->
 c σ H fun b H1=>if b=true then ∃N:St->Hp->Prop,(∀σ' H',N σ' H'->∃m',m' < m/\W m' σ' H')/\tb {D with nx:=N,ct:=N,bk:=D.nx} σ H1 else D.nx σ H1
theorem ps_while {c:vU} {body:List Stmt} {tc:TT} {tb:TS} (hp:PassesOwn (uW X.prog X.w) X.A X.env X.xe) (hc:PT X c tc) (hb:PSs X body tb):PS X (.While c body [] pos) (tWhile tc tb):=by
 intro pins s σ H D I h
 obtain⟨W,⟨m0,w0⟩,turn⟩:=h
 refine wpAny_While (codeAny_whileLoop (fun n s'=>∃σ' H',Inv X pins σ' H' s'/\W n σ' H') ?_ m0 ⟨σ,H,I,w0⟩)
 rintro n s1 ⟨σ1,H1,I1,w1⟩
 refine xX hp (thn (hc pins s1 σ1 H1 _ I1 (turn n σ1 H1 w1)) fun b s2 ⟨H2,I2,q2⟩=>?_)
 cases b with
 |true=>
  obtain⟨N,hN,q2⟩:=q2
  rw [gT rfl]
  refine xX hp (thn (hb pins s2 σ1 H2 _ I2 q2) fun f s3 q3=>?_)
  cases f with
  |next=>
   obtain⟨σ3,H3,I3,n3⟩:=q3
   obtain⟨m',hm,w3⟩:=hN σ3 H3 n3
   exact⟨m',hm,σ3,H3,I3,w3⟩
  |cont=>
   obtain⟨σ3,H3,I3,n3⟩:=q3
   obtain⟨m',hm,w3⟩:=hN σ3 H3 n3
   exact⟨m',hm,σ3,H3,I3,w3⟩
  |brk=>exact q3
  |ret v=>exact q3
 |false=>
  rw [gS uE]
  exact dY ⟨σ1,H2,I2,q2⟩
end
structure It where
 go:Nat->Hp->Prop
 yld:Nat->Hp->V->Hp->Prop
 stop:Nat->Hp->Prop
noncomputable def FpOk (X:Cx) (pins:List (Addr × Obj)) (H:Hp) (b:Addr):Prop:=
 H b=none/\b≠X.env.locals/\b∉X.fs/\(b∈X.ex\/X.s₀.heap.objs.size<=b)/\(∀x c,X.env.cells.lookup x=some c->c≠b)/\∀p∈X.pn++pins,p.1≠b
theorem Inv.fpOk {X:Cx} {pins:List (Addr × Obj)} {σ:St} {H H':Hp} {s:uD} {b:Addr} (I:Inv X pins σ H s) (hb:s.heap.objs.size<=b) (hn:H' b=none):FpOk X pins H' b:=by
 refine⟨hn,Nat.ne_of_gt (vI I.lt hb),I.nofs hb,.inr (vP I.sz hb),fun x c e z=>?_,fun p hp z=>?_⟩
 .obtain⟨v,q⟩:=I.cell x c e
  exact absurd (vI q.lt (by rw [z];exact hb)) (wD _)
 .exact absurd (vI (uN (I.pin p hp).1) (by rw [z];exact hb)) (wD _)
structure Turn (P:vB) (w:vL) (K:uR) (tg:vU) (J:It) (fp:List Addr) (it:Addr) (tn:Nat->vR->Prop):Prop where
 mem:it∈fp
 obj:∀i h,tn i h->∀b∈fp,∃o,h.get? b=some o/\∀v,o.data≠ .cell v
 keep:∀i h h',tn i h->(∀b∈fp,∀o,h.get? b=some o->h'.get? b=some o)->tn i h'
 item:∀(X:Cx),X.prog=P->X.w=w->X.K=K->X.calm=true->∀(i:Nat) (pins:List (Addr × Obj)) (s:uD) (σ:St) (H:Hp) (E:uC->uD->Prop),Inv X pins σ H s->(∀b∈fp,FpOk X pins H b)->tn i s.heap->J.go i H->
  uT (uW P w) X.A (dF (.ref it)) (fun r s1=>∃u,r=some u/\
   uT (uW P w) X.A (letOwnedTupleGo tg (.ref it) u) (fun _ s2=>∃x H',Inv X pins σ H' s2/\qbf x u/\J.yld i H x H'/\tn (i+1) s2.heap/\∀b∈fp,H' b=none) E s1) E s
 done:∀(X:Cx),X.prog=P->X.w=w->X.K=K->X.calm=true->∀(i:Nat) (pins:List (Addr × Obj)) (s:uD) (σ:St) (H:Hp) (E:uC->uD->Prop),Inv X pins σ H s->(∀b∈fp,FpOk X pins H b)->tn i s.heap->J.stop i H->
  uT (uW P w) X.A (dF (.ref it)) (fun r s1=>r=none/\Inv X pins σ H s1) E s
 self:∀(A:vO) (i:Nat) (s:uD) (Q:uC->uD->Prop) (E:uC->uD->Prop),tn i s.heap->Q (.ref it) s->uT (uW P w) A (pyIter (.ref it)) Q E s
abbrev TI:=St->Hp->(It->Hp->Prop)->Prop
noncomputable def PIE (X:Cx) (pins:List (Addr × Obj)) (σ:St) (tg:vU) (R:It->Hp->Prop) (itv:uC) (s2:uD):Prop:=
 ∃(it:Addr) (fp:List Addr) (tn:Nat->vR->Prop) (J:It) (H':Hp),itv=.ref it/\Inv X pins σ H' s2/\Turn X.prog X.w X.K tg J fp it tn/\tn 0 s2.heap/\(∀b∈fp,FpOk X pins H' b)/\R J H'
noncomputable def PI (X:Cx) (tg iter:vU) (wi:TI):Prop:=
 ∀(pins:List (Addr × Obj)) (s:uD) (σ:St) (H:Hp) (R:It->Hp->Prop),Inv X pins σ H s->wi σ H R->
  uT (uW X.prog X.w) X.A (wH iter X.env) (fun v s1=>uT (uW X.prog X.w) X.A (pyIter v) (PIE X pins σ tg R) X.xe s1) X.xe s
theorem go_of {M:Model} {A:vO} {E:uC->uD->Prop} {s:uD} {tg:vU} {it:Addr} {u:uC} {o:Obj} {n:String} {vs:Array uC} {Q:Unit->uD->Prop} (ho:s.heap.get? it=some o) (hc:o.cls=.type n) (hd:o.data=.fields vs)
  (hn: ["enumerate","zip","dict_itemiterator","dict_reverseitemiterator","odict_iterator","itertools.zip_longest","itertools.pairwise"].contains n=false) (hQ:Q () s):uT M A (letOwnedTupleGo tg (.ref it) u) Q E s:=by
 unfold letOwnedTupleGo
 cases tg <;> first
  |exact uI hQ
  |(cases u <;> first
    |exact uI hQ
    |(refine uB (wpAny_load ho ?_)
      rw [hc,hd]
      show uT M A (if (["enumerate","zip","dict_itemiterator","dict_reverseitemiterator","odict_iterator","itertools.zip_longest","itertools.pairwise"].contains n && vs[0]?==some (xG _))=true then _ else _) Q E s
      rw [gS (by intro h;rw [hn,Bool.false_and] at h;cases h)]
      exact uI hQ))
noncomputable def Itl (K:uR) (a:Addr):It:=
 ⟨fun i H=>∃xs x,SqL K H a xs/\xs[i]?=some x,fun i H x H'=>H'=H/\∀xs,SqL K H a xs->xs[i]?=some x,fun i H=>∃xs,SqL K H a xs/\xs.length<=i⟩
noncomputable def Itr (lo:Int) (n:Nat):It:=⟨fun i _=>i < n,fun i H x H'=>H'=H/\x=.int (lo+i),fun i _=>n<=i⟩
theorem turn_list {P:vB} {w:vL} {K:uR} {tg:vU} (a it:Addr):Turn P w K tg (Itl K a) [it] it (fun i h=>h.IsListIter it a i) where
 mem:=by simp
 obj:=fun i h st b hb=>by
  have e:b=it:=by simpa using hb
  subst e
  obtain⟨o,e,c,d⟩:=st
  exact⟨o,e,fun v z=>by rw [d] at z;cases z⟩
 keep:=fun i h h' st k=>st.at fun o e=>k it (by simp) o e
 item:=by
  intro X hP hw hK hc i pins s σ H E I hf st hg
  subst hP hw hK
  obtain⟨xs,x,hq,hx⟩:=hg
  obtain⟨its,rv,p,hz⟩:=I.list hq
  obtain⟨u,hu,ru⟩:=rv.get hx
  obtain⟨f0,f1,f2,f3,f4,f5⟩:=hf it (by simp)
  refine wpAny_pyNext_list_item st p.isList (x:=u) (by simpa using hu) fun h' st' sb=>?_
  have I1:Inv X pins σ H {s with heap:=h'}:=I.turned (t':=s.toks) (fun b o hb e=>(sb.2 b hb).trans e) f0 f1 f3 f4 f5
  obtain⟨o,e,c,d⟩:=id st'
  exact⟨u,rfl,go_of (s:={s with heap:=h'}) e c d (by decide) ⟨x,H,I1,ru,⟨rfl,fun ys hy=>by rw [I.list_inj hy hq];exact hx⟩,st',fun b hb=>(hf b hb).1⟩⟩
 done:=by
  intro X hP hw hK hc i pins s σ H E I hf st hg
  subst hP hw hK
  obtain⟨xs,hq,hx⟩:=hg
  obtain⟨its,rv,p,hz⟩:=I.list hq
  obtain⟨f0,f1,f2,f3,f4,f5⟩:=hf it (by simp)
  have hl:=rv.length
  exact wpAny_pyNext_list_end (I.ok.hd hc) st p.isList (by simp;omega) fun h' eb=>⟨rfl,I.turned (t':=s.toks) (fun b o hb e=>eb b o hb e) f0 f1 f3 f4 f5⟩
 self:=fun _ _ _ _ _ st h=>wpAny_pyIter_listiter st h
theorem turn_range {P:vB} {w:vL} {K:uR} {tg:vU} (it:Addr) (lo:Int) (n:Nat):Turn P w K tg (Itr lo n) [it] it (fun i h=>IsRangeIter h it (lo+(i:Nat)*1) ((n:Int) - (i:Nat)) 1) where
 mem:=by simp
 obj:=fun i h st b hb=>by
  have e:b=it:=by simpa using hb
  subst e
  exact⟨_,st,fun v z=>by
   have z':Data.fields _=gL v:=z
   cases z'⟩
 keep:=fun i h h' st k=>k it (by simp) _ st
 item:=by
  intro X hP hw hK hc i pins s σ H E I hf st hg
  subst hP hw hK
  obtain⟨f0,f1,f2,f3,f4,f5⟩:=hf it (by simp)
  have W:=Walks.range (prog:=X.prog) (w:=X.w) (I.ok.hd hc) it lo 1 n
  refine W.item i s _ _ hg st fun v h' tk hv st' kk=>?_
  obtain⟨t,rfl⟩:=hv
  have I1:Inv X pins σ H {s with heap:=h',toks:=tk}:=I.turned (fun b o hb e=>kk b o (by simpa using hb) e) f0 f1 f3 f4 f5
  refine⟨_,rfl,go_of (s:={s with heap:=h',toks:=tk}) (n:="range_iterator") st' rfl rfl (by decide) ⟨.int (lo+i),H,I1,⟨t,?_⟩,⟨rfl,rfl⟩,st',fun b hb=>(hf b hb).1⟩⟩
  rw [Int.mul_one]
 done:=by
  intro X hP hw hK hc i pins s σ H E I hf st hg
  subst hP hw hK
  obtain⟨f0,f1,f2,f3,f4,f5⟩:=hf it (by simp)
  exact wpAny_pyNext_range_end (I.ok.hd hc) st (by have:n<=i:=hg;omega) fun h' eb=>⟨rfl,I.turned (t':=s.toks) (fun b o hb e=>eb b o hb e) f0 f1 f3 f4 f5⟩
 self:=fun _ _ _ _ _ st h=>wpAny_pyIter_rangeiter st h
section
variable {X: Cx} {tg: vU}
noncomputable def iList (K:uR) (tl:TE):TI:=fun σ H R=>tl σ H fun x H1=>∃a,x=.ref a/\(∃xs,SqL K H1 a xs)/\R (Itl K a) H1
theorem qau {l:vU} {tl:TE} (hl:PE X l tl):PI X tg l (iList X.K tl):=by
 intro pins s σ H R I h
 refine thn (hl pins s σ H _ I h) fun v s1 ⟨x,H1,I1,r1,q1⟩=>?_
 obtain⟨a,e,⟨xs,hq⟩,q⟩:=q1
 subst e
 cases r1
 obtain⟨its,rv,p,hz⟩:=I1.list hq
 refine bI p.isList ?_
 refine⟨s1.heap.objs.size, [s1.heap.objs.size],_,_,H1,rfl,I1.kept (t':=s1.toks) fun b o e=>uF _ e,turn_list a _,⟨_,uQ _ rfl,rfl,rfl⟩,fun b hb=>?_,q⟩
 have e:b=s1.heap.objs.size:=by simpa using hb
 subst e
 exact I1.fpOk (uG _) (I1.hok.fresh (uG _))
theorem range_it {pins:List (Addr × Obj)} {σ:St} {H:Hp} {s:uD} {R:It->Hp->Prop} {E:uC->uD->Prop} {lo hi:Int} {t u v:Tok} {tk:Nat} (I:Inv X pins σ H s) (h1: -(2^62)<=lo) (h2:lo < 2^62) (h3: -(2^62)<=hi) (h4:hi < 2^62)
  (q:R (Itr lo (hi - lo).toNat) H):uT (uW X.prog X.w) X.A (pyIter (.ref s.heap.objs.size)) (PIE X pins σ tg R) E {s with heap:=s.heap.push {cls:=.type "range",data:=.fields #[.int lo t,.int hi u,.int 1 v]},toks:=tk}:=by
 refine wpAny_pyIter_range (IsRange.new ..) (small_one h1 h2 h3 h4) ?_
 have I1:Inv X pins σ H {s with heap:=s.heap.push {cls:=.type "range",data:=.fields #[.int lo t,.int hi u,.int 1 v]},toks:=tk}:=I.kept fun b o e=>uF _ e
 refine⟨(s.heap.push {cls:=.type "range",data:=.fields #[.int lo t,.int hi u,.int 1 v]}).objs.size, [(s.heap.push {cls:=.type "range",data:=.fields #[.int lo t,.int hi u,.int 1 v]}).objs.size],_,_,H,rfl,
  I1.kept (t':=tk) fun b o e=>uF _ e,turn_range _ lo (hi - lo).toNat,?_,fun b hb=>?_,q⟩
 .have e1:lo+((0:Nat):Int)*1=lo:=by simp
  have e2:(((hi - lo).toNat:Nat):Int) - ((0:Nat):Int)=Builtin.Range.rangeSize lo hi 1:=by rw [rangeSize_one];split <;> omega
  show IsRangeIter _ _ (lo+((0:Nat):Int)*1) ((((hi - lo).toNat:Nat):Int) - ((0:Nat):Int)) 1
  rw [e1,e2]
  exact uQ _ rfl
 .have e:b=(s.heap.push {cls:=.type "range",data:=.fields #[.int lo t,.int hi u,.int 1 v]}).objs.size:=by simpa using hb
  subst e
  exact I1.fpOk (uG _) (I1.hok.fresh (uG _))
noncomputable def iRng1 (ta:TA):TI:=fun σ H R=>ta σ H fun vs H1=>∃j:Int,vs=[.int j]/\-(2^62)<=j/\j < 2^62/\R (Itr 0 j.toNat) H1
noncomputable def iRng2 (ta:TA):TI:=fun σ H R=>ta σ H fun vs H1=>∃i j:Int,vs=[.int i,.int j]/\(-(2^62)<=i/\i < 2^62/\-(2^62)<=j/\j < 2^62)/\R (Itr i (j - i).toNat) H1
theorem qc1 {a:vU} {ta:TA} {p pos:Pos} (hg:Gl X "range") (hm:X.mg "range" =none) (ha:PA X [a] ta) (hs:vC [a] X.env=[(false,wH a X.env)]:=by rfl):PI X tg (.Call (.Name "range" p) [a] [] pos) (iRng1 ta):=by
 intro pins s σ H R I h
 refine Call_ (qf5 I hg hm boot_range (wS (thn (ha pos pins s σ H _ I h) fun us s1 ⟨vs,H1,I1,r1,q1⟩=>?_) hs rfl))
 obtain⟨j,e,q1,q2,q⟩:=q1
 subst e
 cases r1 with
 |cons r rr=>
  cases rr
  obtain⟨t,rfl⟩:=r
  exact call_range_1 (range_it I1 (by omega) (by omega) q1 q2 (by simpa using q))
theorem pi_range2 {a b:vU} {ta:TA} {p pos:Pos} (hg:Gl X "range") (hm:X.mg "range" =none) (ha:PA X [a,b] ta) (hs:vC [a,b] X.env=[(false,wH a X.env),(false,wH b X.env)]:=by rfl) (hs2:vC [b] X.env=[(false,wH b X.env)]:=by rfl):
  PI X tg (.Call (.Name "range" p) [a,b] [] pos) (iRng2 ta):=by
 intro pins s σ H R I h
 refine Call_ (qf5 I hg hm boot_range (wS (thn (ha pos pins s σ H _ I h) fun us s1 ⟨vs,H1,I1,r1,q1⟩=>?_) (by rw [hs,hs2]) (by rw [hs2];rfl)))
 obtain⟨i,j,e,⟨q1,q2,q3,q4⟩,q⟩:=q1
 subst e
 cases r1 with
 |cons r rr=>
  cases rr with
  |cons r' rr=>
   cases rr
   obtain⟨t,rfl⟩:=r
   obtain⟨t',rfl⟩:=r'
   exact call_range_2 (range_it I1 q1 q2 q3 q4 q)
noncomputable def tFor (wi:TI) (g:TG) (tb:TS):TS:=fun D σ H=>wi σ H fun J H1=>∃W:Nat->Nat->St->Hp->Prop,(∃m,W 0 m σ H1)/\∀i m σ H,W i m σ H->
 (J.stop i H/\D.nx σ H)\/(J.go i H/\∃N:St->Hp->Prop,(∀σ' H',N σ' H'->∃m',m' < m/\W (i+1) m' σ' H')/\∀x H',J.yld i H x H'->g x σ H' fun σ2 H2=>tb {D with nx:=N,ct:=N,bk:=D.nx} σ2 H2)
noncomputable def qcm (fp:List Addr) (h:vR):List (Addr × Obj):=fp.filterMap fun b=>(h.get? b).map fun o=>(b,o)
theorem qcg {fp:List Addr} {h:vR} {b:Addr} {o:Obj} (hb:b∈fp) (e:h.get? b=some o):(b,o)∈qcm fp h:=List.mem_filterMap.mpr ⟨b,hb,by rw [e];rfl⟩
theorem of_pinsAt {fp:List Addr} {h:vR} {p:Addr × Obj} (hp:p∈qcm fp h):p.1∈fp/\h.get? p.1=some p.2:=by
 obtain⟨b,hb,e⟩:=List.mem_filterMap.mp hp
 cases q:h.get? b with
 |none=>rw [q] at e;cases e
 |some o=>
  rw [q] at e
  have e':(b,o)=p:=uX e
  subst e'
  exact⟨hb,q⟩
theorem Inv.pinned {pins:List (Addr × Obj)} {σ:St} {H:Hp} {s:uD} {fp:List Addr} (I:Inv X pins σ H s) (hf:∀b∈fp,FpOk X pins H b) (ho:∀b∈fp,∃o,s.heap.get? b=some o/\∀v,o.data≠ .cell v):Inv X (pins++qcm fp s.heap) σ H s:=
 I.pins_of fun p hp=>(zT.mp hp).elim (fun z=>I.pin p (zX _ z)) fun z=>by
  obtain⟨hb,e⟩:=of_pinsAt z
  obtain⟨f0,f1,f2,_⟩:=hf p.1 hb
  obtain⟨o,e',d⟩:=ho p.1 hb
  rw [e] at e';cases e'
  exact⟨e,f0,f1,f2,d⟩
theorem Inv.unpinned {pins pl:List (Addr × Obj)} {σ:St} {H:Hp} {s:uD} (I:Inv X (pins++pl) σ H s):Inv X pins σ H s:=I.pins_of fun p hp=>I.pin p (zX _ (yG _ hp))
theorem qb7 {iter:vU} {body:List Stmt} {wi:TI} {g:TG} {tb:TS} {pos:Pos} (hp:PassesOwn (uW X.prog X.w) X.A X.env X.xe) (hc:X.calm=true) (hi:PI X tg iter wi) (hg:PG X tg g) (hb:PSs X body tb)
  (hs:∀x,fW iter X.env x=pure x:=by intro _;rfl):PS X (.For tg iter body [] pos) (tFor wi g tb):=by
 intro pins s σ H D I h
 refine wpAny_For (thn (hi pins s σ H _ I h) fun v s1 h1=>thn h1 fun itv s2 h2=>?_) hs
 obtain⟨it,fp,tn,J,H2,e,I2,T,st2,f2,W,⟨m0,w0⟩,turn⟩:=h2
 subst e
 have stat:∀{H':Hp},(∀b∈fp,H' b=none)->∀b∈fp,FpOk X pins H' b:=fun hn b hb=>⟨hn b hb,(f2 b hb).2⟩
 refine codeAny_forLoop_any (fun n s'=>∃i σ' H',Inv X pins σ' H' s'/\tn i s'.heap/\(∀b∈fp,H' b=none)/\W i n σ' H') ?_ m0 ⟨0,σ,H2,I2,st2,fun b hb=>(f2 b hb).1,w0⟩
 rintro n s3 ⟨i,σ3,H3,I3,st3,fr3,w3⟩
 rcases turn i n σ3 H3 w3 with ⟨stop,qn⟩ |⟨go,N,hN,step⟩
 .refine xX hp (thn (T.done X rfl rfl rfl hc i pins s3 σ3 H3 X.xe I3 (stat fr3) st3 stop) fun r s4 ⟨hr,I4⟩=>?_)
  subst hr
  exact dY ⟨σ3,H3,I4,qn⟩
 .refine xX hp (thn (T.item X rfl rfl rfl hc i pins s3 σ3 H3 X.xe I3 (stat fr3) st3 go) fun r s4 ⟨u,hr,h4⟩=>?_)
  subst hr
  refine xX hp (thn h4 fun _ s5 ⟨x,H5,I5,r5,y5,st5,fr5⟩=>?_)
  have I5':=I5.pinned (stat fr5) (T.obj _ _ st5)
  refine xX hp (thn (hg _ s5 σ3 H5 x u _ I5' r5 (step x H5 y5)) fun _ s6 ⟨σ6,H6,I6,q6⟩=>?_)
  refine xX hp (thn (hb _ s6 σ6 H6 _ I6 q6) fun f s7 q7=>?_)
  have again:∀{σ7:St} {H7:Hp},Inv X (pins++qcm fp s5.heap) σ7 H7 s7->N σ7 H7->∃m,m < n/\∃i σ' H',Inv X pins σ' H' s7/\tn i s7.heap/\(∀b∈fp,H' b=none)/\W i m σ' H':=fun {σ7 H7} I7 n7=>by
   obtain⟨m',hm,w7⟩:=hN σ7 H7 n7
   refine⟨m',hm,i+1,σ7,H7,I7.unpinned,T.keep _ _ _ st5 fun b hb o e=>(I7.pin (b,o) (zX _ (zX _ (qcg hb e)))).1,fun b hb=>?_,w7⟩
   obtain⟨o,e,d⟩:=T.obj _ _ st5 b hb
   exact(I7.pin (b,o) (zX _ (zX _ (qcg hb e)))).2.1
  cases f with
  |next=>obtain⟨σ7,H7,I7,n7⟩:=q7;exact again I7 n7
  |cont=>obtain⟨σ7,H7,I7,n7⟩:=q7;exact again I7 n7
  |brk=>obtain⟨σ7,H7,I7,q7⟩:=q7;exact⟨σ7,H7,I7.unpinned,q7⟩
  |ret v=>obtain⟨x7,σ7,H7,I7,r7,q7⟩:=q7;exact⟨x7,σ7,H7,I7.unpinned,r7,q7⟩
end
theorem for_list {K:uR} {a:Addr} {xs:List V} {g:TG} {tb:TS} {D:Ends} {σ:St} {H:Hp} (Pv:Nat->St->Hp->Prop) (h0:Pv 0 σ H) (hl:∀i σ H,i<=xs.length->Pv i σ H->SqL K H a xs)
  (hs:∀i x σ H,xs[i]?=some x->Pv i σ H->g x σ H fun σ2 H2=>tb {D with nx:=Pv (i+1),ct:=Pv (i+1),bk:=D.nx} σ2 H2) (hd:∀σ H,Pv xs.length σ H->D.nx σ H):
  ∃W:Nat->Nat->St->Hp->Prop,(∃m,W 0 m σ H)/\∀i m σ H,W i m σ H->
   ((Itl K a).stop i H/\D.nx σ H)\/((Itl K a).go i H/\∃N:St->Hp->Prop,(∀σ' H',N σ' H'->∃m',m' < m/\W (i+1) m' σ' H')/\∀x H',(Itl K a).yld i H x H'->g x σ H' fun σ2 H2=>tb {D with nx:=N,ct:=N,bk:=D.nx} σ2 H2):=by
 refine⟨fun i m σ H=>m=xs.length - i/\i<=xs.length/\Pv i σ H,⟨xs.length,by simp,wC _,h0⟩,?_⟩
 rintro i m σ H ⟨rfl,hi,p⟩
 have q:=hl i σ H hi p
 by_cases hlt:i < xs.length
 .refine .inr ⟨⟨xs,xs[i],q,by simp [hlt]⟩,Pv (i+1),fun σ' H' p'=>⟨xs.length - (i+1),by omega,rfl,hlt,p'⟩,fun x H' y=>?_⟩
  obtain⟨e,y⟩:=y
  subst e
  exact hs i x σ _ (y xs q) p
 .have e:i=xs.length:=by omega
  subst e
  exact .inl ⟨⟨xs,q,uG _⟩,hd σ H p⟩
theorem for_range {lo:Int} {n:Nat} {g:TG} {tb:TS} {D:Ends} {σ:St} {H:Hp} (Pv:Nat->St->Hp->Prop) (h0:Pv 0 σ H)
  (hs:∀i σ H,i < n->Pv i σ H->g (.int (lo+i)) σ H fun σ2 H2=>tb {D with nx:=Pv (i+1),ct:=Pv (i+1),bk:=D.nx} σ2 H2) (hd:∀σ H,Pv n σ H->D.nx σ H):
  ∃W:Nat->Nat->St->Hp->Prop,(∃m,W 0 m σ H)/\∀i m σ H,W i m σ H->
   ((Itr lo n).stop i H/\D.nx σ H)\/((Itr lo n).go i H/\∃N:St->Hp->Prop,(∀σ' H',N σ' H'->∃m',m' < m/\W (i+1) m' σ' H')/\∀x H',(Itr lo n).yld i H x H'->g x σ H' fun σ2 H2=>tb {D with nx:=N,ct:=N,bk:=D.nx} σ2 H2):=by
 refine⟨fun i m σ H=>m=n - i/\i<=n/\Pv i σ H,⟨n,by simp,wC _,h0⟩,?_⟩
 rintro i m σ H ⟨rfl,hi,p⟩
 by_cases hlt:i < n
 .refine .inr ⟨hlt,Pv (i+1),fun σ' H' p'=>⟨n - (i+1),by omega,rfl,hlt,p'⟩,fun x H' y=>?_⟩
  obtain⟨e,y⟩:=y
  subst e y
  exact hs i σ _ hlt p
 .have e:i=n:=by omega
  subst e
  exact .inl ⟨uG _,hd σ H p⟩
theorem while_by {c:TT} {tb:TS} {D:Ends} {σ:St} {H:Hp} (Pv:St->Hp->Prop) (μ:St->Hp->Nat) (h0:Pv σ H)
  (hs:∀σ H,Pv σ H->c σ H fun b H1=>if b=true then tb {D with nx:=fun σ' H'=>Pv σ' H'/\μ σ' H' < μ σ H,ct:=fun σ' H'=>Pv σ' H'/\μ σ' H' < μ σ H,bk:=D.nx} σ H1 else D.nx σ H1)
  (mono:∀σ H Q Q',(∀b H1,Q b H1->Q' b H1)->c σ H Q->c σ H Q'):tWhile c tb D σ H:=by
 refine⟨fun m σ H=>m=μ σ H/\Pv σ H,⟨_,rfl,h0⟩,?_⟩
 rintro m σ H ⟨rfl,p⟩
 refine mono σ H _ _ (fun b H1 q=>?_) (hs σ H p)
 cases b with
 |true=>exact⟨_,fun σ' H' ⟨p',l⟩=>⟨_,l,rfl,p'⟩,q⟩
 |false=>exact q
abbrev R2:=V->V->Hp->VK->Prop
noncomputable def OpR (X:Cx) (f:uC->uC->Sem uC) (r:R2):Prop:=
 ∀(pins:List (Addr × Obj)) (s:uD) (σ:St) (H:Hp) (x y:V) (v u:uC) (Q:VK),Inv X pins σ H s->qbf x v->qbf y u->r x y H Q->
  uT (uW X.prog X.w) X.A (f v u) (EP X pins σ Q) X.xe s
noncomputable def qc9 (X:Cx) (f:uC) (r:List V->Hp->VK->Prop):Prop:=
 ∀(pins:List (Addr × Obj)) (s:uD) (σ:St) (H:Hp) (xs:List V) (us:List uC) (Q:VK),Inv X pins σ H s->qbi xs us->r xs H Q->
  uT (uW X.prog X.w) X.A (call f us) (EP X pins σ Q) X.xe s
noncomputable def tOp (r:R2) (ta tb:TE):TE:=fun σ H Q=>ta σ H fun x H1=>tb σ H1 fun y H2=>r x y H2 Q
noncomputable def rI (C:Int->Int->Prop) (g:Int->Int->V):R2:=fun x y H Q=>∃i j,x=.int i/\y=.int j/\C i j/\Q (g i j) H
noncomputable def rI0 (g:Int->Int->V):R2:=fun x y H Q=>∃i j,x=.int i/\y=.int j/\Q (g i j) H
section
variable {X: Cx} {a b: vU} {ta tb: TE} {pos: Pos}
theorem binT (ha:PE X a ta) (hb:PE X b tb) {pins:List (Addr × Obj)} {s:uD} {σ:St} {H:Hp} {R:V->V->Hp->Prop} (I:Inv X pins σ H s)
  (h:ta σ H fun x H1=>tb σ H1 fun y H2=>R x y H2) {Q:uC->uD->Prop} {f:uC->uC->Sem uC}
  (hf:∀v u s2 x y H2,Inv X pins σ H2 s2->qbf x v->qbf y u->R x y H2->uT (uW X.prog X.w) X.A (f v u) Q X.xe s2):
  uT (uW X.prog X.w) X.A (wH a X.env) (fun v s₁=>uT (uW X.prog X.w) X.A (wH b X.env) (fun u s₂=>uT (uW X.prog X.w) X.A (f v u) Q X.xe s₂) X.xe s₁) X.xe s:=by
 refine thn (ha pins s σ H _ I h) fun v s1 ⟨x,H1,I1,r1,q1⟩=>?_
 refine thn (hb pins s1 σ H1 _ I1 q1) fun u s2 ⟨y,H2,I2,r2,q2⟩=>?_
 exact hf v u s2 x y H2 I2 r1 r2 q2
theorem qao {op:Operator} {r:R2} (ho:OpR X (bJ op) r) (ha:PE X a ta) (hb:PE X b tb):PE X (.BinOp a op b pos) (tOp r ta tb):=by
 intro pins s σ H Q I h
 exact wpAny_BinOp (binT ha hb I h fun v u s2 x y H2 I2 rx ry q=>ho pins s2 σ H2 x y v u Q I2 rx ry q)
theorem opI {f:uC->uC->Sem uC} {C:Int->Int->Prop} {g:Int->Int->Int}
  (rule:∀(i j:Int) (t u:Tok) (s:uD) (Q:uC->uD->Prop) (E:uC->uD->Prop),C i j->Q (.int (g i j) s.toks) {s with toks:=s.toks+1}->uT (uW X.prog X.w) X.A (f (.int i t) (.int j u)) Q E s):
  OpR X f (rI C fun i j=> .int (g i j)):=by
 intro pins s σ H x y v u Q I rx ry h
 obtain⟨i,j,rfl,rfl,hc,q⟩:=h
 obtain⟨t,rfl⟩:=rx
 obtain⟨t',rfl⟩:=ry
 exact rule i j t t' s _ _ hc ⟨.int (g i j),H,I.tok _,⟨_,rfl⟩,q⟩
theorem opI0 {f:uC->uC->Sem uC} {g:Int->Int->Int}
  (rule:∀(i j:Int) (t u:Tok) (s:uD) (Q:uC->uD->Prop) (E:uC->uD->Prop),Q (.int (g i j) s.toks) {s with toks:=s.toks+1}->uT (uW X.prog X.w) X.A (f (.int i t) (.int j u)) Q E s):
  OpR X f (rI0 fun i j=> .int (g i j)):=by
 intro pins s σ H x y v u Q I rx ry h
 obtain⟨i,j,rfl,rfl,q⟩:=h
 obtain⟨t,rfl⟩:=rx
 obtain⟨t',rfl⟩:=ry
 exact rule i j t t' s _ _ ⟨.int (g i j),H,I.tok _,⟨_,rfl⟩,q⟩
theorem opB0 {f:uC->uC->Sem uC} {g:Int->Int->Bool}
  (rule:∀(i j:Int) (t u:Tok) (s:uD) (Q:uC->uD->Prop) (E:uC->uD->Prop),Q (.bool (g i j)) s->uT (uW X.prog X.w) X.A (f (.int i t) (.int j u)) Q E s):
  OpR X f (rI0 fun i j=> .bl (g i j)):=by
 intro pins s σ H x y v u Q I rx ry h
 obtain⟨i,j,rfl,rfl,q⟩:=h
 obtain⟨t,rfl⟩:=rx
 obtain⟨t',rfl⟩:=ry
 exact rule i j t t' s _ _ ⟨.bl (g i j),H,I,rfl,q⟩
noncomputable def CPow (i j:Int):Prop:=0<=j/\j<=1000000/\i.natAbs < 2^64
theorem qb2:OpR X (bJ .Add) (rI0 fun i j=> .int (i+j)):=opI0 fun _ _ _ _ _ _ _ q=>add_int q
theorem qek:OpR X (bJ .Sub) (rI0 fun i j=> .int (i - j)):=opI0 fun _ _ _ _ _ _ _ q=>sub_int q
theorem qcc:OpR X (bJ .Mod) (rI (fun _ j=>0 < j) fun i j=> .int (i%j)):=opI fun i j _ _ _ _ _ hc q=>by
 have h1:(0:Int) < j:=hc
 exact mod_int' (by omega) (by rw [Int.fmod_eq_emod_of_nonneg i (by omega)];exact q)
theorem op_pow:OpR X (bJ .Pow) (rI CPow fun i j=> .int (i^j.toNat)):=opI fun _ _ _ _ _ _ _ hc q=>pow_int_small hc.1 hc.2.1 hc.2.2 q
end
noncomputable def scal:V->V->Bool
 | .non,.non=>true| .non,.int _=>true| .int _,.non=>true| .non,.bl _=>true| .bl _,.non=>true| .non,.str _=>true| .str _,.non=>true
 | .int _,.int _=>true| .bl _,.bl _=>true| .str _,.str _=>true| .byt _,.byt _=>true
 | .int _,.str _=>true| .str _,.int _=>true| .bl _,.str _=>true| .str _,.bl _=>true
 |_,_=>false
noncomputable def rEq:R2:=fun x y H Q=>scal x y=true/\Q (.bl (decide (x=y))) H
noncomputable def rNe:R2:=fun x y H Q=>scal x y=true/\Q (.bl (!decide (x=y))) H
theorem dec_int {i j:Int}:decide (V.int i=V.int j)=(i==j):=by
 rw [xY]
 simp
theorem dec_bl {i j:Bool}:decide (V.bl i=V.bl j)=(i==j):=by
 rw [xY]
 simp
theorem dec_str {i j:Str}:decide (V.str i=V.str j)=(i==j):=by
 rw [xY]
 simp
theorem dec_byt {i j:Array UInt8}:decide (V.byt i=V.byt j)=(i.toList==j.toList):=by
 rw [xY]
 cases i
 cases j
 simp
section
variable {X: Cx} {a b c: vU} {ta tb tc: TE} {pos: Pos}
theorem qb8 {pins:List (Addr × Obj)} {σ:St} {H:Hp} {s:uD} {Q:VK} {k k':Bool} (I:Inv X pins σ H s) (q:Q (.bl k) H) (e:k=k'):EP X pins σ Q (.bool k') s:=by
 subst e
 exact⟨.bl k,H,I,rfl,q⟩
theorem qen:OpR X (wB .Eq) rEq:=by
 intro pins s σ H x y v u Q I rx ry h
 obtain⟨hs,q⟩:=h
 cases x with
 |non=>
  cases rx
  cases y with
  |non=>cases ry;exact PySem.EqNone.eq_none_none (qb8 I q (by simp))
  |bl j=>cases ry;exact PySem.EqNone.eq_none_bool (qb8 I q (by simp))
  |int j=>obtain⟨t',rfl⟩:=ry;exact PySem.EqNone.eq_none_int (qb8 I q (by simp))
  |str j=>obtain⟨t',rfl⟩:=ry;exact PySem.EqNone.eq_none_str (qb8 I q (by simp))
  |_=>exact absurd (show false=true from hs) uE
 |bl i=>
  cases rx
  cases y with
  |non=>cases ry;exact PySem.EqNone.eq_bool_none (qb8 I q (by simp))
  |bl j=>cases ry;exact eq_bool (qb8 I q dec_bl)
  |str j=>obtain⟨t',rfl⟩:=ry;exact PySem.EqMixed.eq_bool_str (qb8 I q (by simp))
  |_=>exact absurd (show false=true from hs) uE
 |int i=>
  obtain⟨t,rfl⟩:=rx
  cases y with
  |non=>cases ry;exact PySem.EqNone.eq_int_none (qb8 I q (by simp))
  |int j=>obtain⟨t',rfl⟩:=ry;exact eq_int (qb8 I q dec_int)
  |str j=>obtain⟨t',rfl⟩:=ry;exact PySem.EqMixed.eq_int_str (qb8 I q (by simp))
  |_=>exact absurd (show false=true from hs) uE
 |str i=>
  obtain⟨t,rfl⟩:=rx
  cases y with
  |non=>cases ry;exact PySem.EqNone.eq_str_none (qb8 I q (by simp))
  |bl j=>cases ry;exact PySem.EqMixed.eq_str_bool (qb8 I q (by simp))
  |int j=>obtain⟨t',rfl⟩:=ry;exact PySem.EqMixed.eq_str_int (qb8 I q (by simp))
  |str j=>obtain⟨t',rfl⟩:=ry;exact eq_str (qb8 I q dec_str)
  |_=>exact absurd (show false=true from hs) uE
 |byt i=>
  obtain⟨t,rfl⟩:=rx
  cases y with
  |byt j=>obtain⟨t',rfl⟩:=ry;exact PySem.W.eq_bytes (qb8 I q dec_byt)
  |_=>exact absurd (show false=true from hs) uE
 |_=>cases y <;> exact absurd (show false=true from hs) uE
theorem op_ne:OpR X (wB .NotEq) rNe:=by
 intro pins s σ H x y v u Q I rx ry h
 obtain⟨hs,q⟩:=h
 cases x with
 |non=>
  cases rx
  cases y with
  |non=>cases ry;exact PySem.EqNone.ne_none_none (qb8 I q (by simp))
  |bl j=>cases ry;exact PySem.EqNone.ne_none_bool (qb8 I q (by simp))
  |int j=>obtain⟨t',rfl⟩:=ry;exact PySem.EqNone.ne_none_int (qb8 I q (by simp))
  |str j=>obtain⟨t',rfl⟩:=ry;exact PySem.EqNone.ne_none_str (qb8 I q (by simp))
  |_=>exact absurd (show false=true from hs) uE
 |bl i=>
  cases rx
  cases y with
  |non=>cases ry;exact PySem.EqNone.ne_bool_none (qb8 I q (by simp))
  |bl j=>cases ry;exact ne_bool (qb8 I q (congrArg not dec_bl))
  |str j=>obtain⟨t',rfl⟩:=ry;exact PySem.EqMixed.ne_bool_str (qb8 I q (by simp))
  |_=>exact absurd (show false=true from hs) uE
 |int i=>
  obtain⟨t,rfl⟩:=rx
  cases y with
  |non=>cases ry;exact PySem.EqNone.ne_int_none (qb8 I q (by simp))
  |int j=>obtain⟨t',rfl⟩:=ry;exact ne_int (qb8 I q (congrArg not dec_int))
  |str j=>obtain⟨t',rfl⟩:=ry;exact PySem.EqMixed.ne_int_str (qb8 I q (by simp))
  |_=>exact absurd (show false=true from hs) uE
 |str i=>
  obtain⟨t,rfl⟩:=rx
  cases y with
  |non=>cases ry;exact PySem.EqNone.ne_str_none (qb8 I q (by simp))
  |bl j=>cases ry;exact PySem.EqMixed.ne_str_bool (qb8 I q (by simp))
  |int j=>obtain⟨t',rfl⟩:=ry;exact PySem.EqMixed.ne_str_int (qb8 I q (by simp))
  |str j=>obtain⟨t',rfl⟩:=ry;exact ne_str (qb8 I q (congrArg not dec_str))
  |_=>exact absurd (show false=true from hs) uE
 |byt i=>
  obtain⟨t,rfl⟩:=rx
  cases y with
  |byt j=>obtain⟨t',rfl⟩:=ry;exact PySem.W.ne_bytes (qb8 I q (congrArg not dec_byt))
  |_=>exact absurd (show false=true from hs) uE
 |_=>cases y <;> exact absurd (show false=true from hs) uE
theorem op_lt:OpR X (wB .Lt) (rI0 fun i j=> .bl (decide (i < j))):=opB0 fun _ _ _ _ _ _ _ q=>lt_int q
theorem op_le:OpR X (wB .LtE) (rI0 fun i j=> .bl (decide (i<=j))):=opB0 fun _ _ _ _ _ _ _ q=>le_int q
theorem qe4:OpR X (wB .Gt) (rI0 fun i j=> .bl (decide (j < i))):=opB0 fun _ _ _ _ _ _ _ q=>gt_int q
theorem op_ge:OpR X (wB .GtE) (rI0 fun i j=> .bl (decide (j<=i))):=opB0 fun _ _ _ _ _ _ _ q=>ge_int q
theorem op_in_str:OpR X (wB .In) (fun x y H Q=>∃i j,x=.str i/\y=.str j/\Q (.bl (!(bB j i 0 j.length 1).isEmpty)) H):=by
 intro pins s σ H x y v u Q I rx ry h
 obtain⟨i,j,rfl,rfl,q⟩:=h
 obtain⟨t,rfl⟩:=rx
 obtain⟨t',rfl⟩:=ry
 exact in_str (qb8 I q rfl)
theorem op_isN:OpR X (wB .Is) (fun x y H Q=>y=.non/\Q (.bl (decide (x=.non))) H):=by
 intro pins s σ H x y v u Q I rx ry h
 obtain⟨rfl,q⟩:=h
 cases ry
 refine is_none_gen (qb8 I q ?_)
 cases x <;> first
  |(cases rx;rfl)
  |(obtain⟨t,rfl⟩:=rx;rfl)
theorem op_notN:OpR X (wB .IsNot) (fun x y H Q=>y=.non/\Q (.bl (!decide (x=.non))) H):=by
 intro pins s σ H x y v u Q I rx ry h
 obtain⟨rfl,q⟩:=h
 cases ry
 refine isnot_none_gen (qb8 I q ?_)
 cases x <;> first
  |(cases rx;rfl)
  |(obtain⟨t,rfl⟩:=rx;rfl)
theorem qas (b:vU) {op:CmpOp} (h:op≠ .In:=by decide) (h2:op≠ .NotIn:=by decide):bZ op b=false:=by
 have e1:(op==CmpOp.In)=false:=by cases op <;> first|rfl|exact absurd rfl h
 have e2:(op==CmpOp.NotIn)=false:=by cases op <;> first|rfl|exact absurd rfl h2
 cases b <;> simp [bZ,e1,e2]
theorem qbm {op:CmpOp} {r:R2} (ho:OpR X (wB op) r) (ha:PE X a ta) (hb:PE X b tb) (hm:bZ op b=false):PE X (.Compare a [op] [b] pos) (tOp r ta tb):=by
 intro pins s σ H Q I h
 exact wpAny_Compare1 (binT ha hb I h fun v u s2 x y H2 I2 rx ry q=>ho pins s2 σ H2 x y v u Q I2 rx ry q) hm
noncomputable def tTest (t:TE):TT:=fun σ H Q=>t σ H fun x H'=>∃k,x=.bl k/\Q k H'
theorem qam {op:CmpOp} {r:R2} (ho:OpR X (wB op) r) (ha:PE X a ta) (hb:PE X b tb) (hm:bZ op b=false):PT X (.Compare a [op] [b] pos) (tTest (tOp r ta tb)):=by
 intro pins s σ H Q I h
 refine wpAny_isTrue_Compare1 (thn (ha pins s σ H _ I h) fun v s1 ⟨x,H1,I1,r1,q1⟩=>thn (hb pins s1 σ H1 _ I1 q1) fun u s2 ⟨y,H2,I2,r2,q2⟩=>
  thn (ho pins s2 σ H2 x y v u _ I2 r1 r2 q2) fun c s3 ⟨z,H3,I3,r3,k,e,q3⟩=>?_) hm
 subst e
 cases r3
 exact wF ⟨H3,I3,q3⟩
noncomputable def tChain (r r':R2) (ta tb tc:TE):TE:=fun σ H Q=>ta σ H fun x H1=>tb σ H1 fun y H2=>r x y H2 fun z H3=>∃k,z=.bl k/\
 (if k=true then tc σ H3 fun w' H4=>r' y w' H4 Q else Q (.bl false) H3)
theorem pe_chain {op op':CmpOp} {r r':R2} (ho:OpR X (wB op) r) (ho':OpR X (wB op') r') (ha:PE X a ta) (hb:PE X b tb) (hc:PE X c tc)
  (hm:lastMarks [op,op'] [b,c]=false:=by with_unfolding_all rfl):PE X (.Compare a [op,op'] [b,c] pos) (tChain r r' ta tb tc):=by
 intro pins s σ H Q I h
 refine Compare_chain (thn (ha pins s σ H _ I h) fun v s1 ⟨x,H1,I1,r1,q1⟩=>chain_link (thn (hb pins s1 σ H1 _ I1 q1) fun u s2 ⟨y,H2,I2,r2,q2⟩=>
  thn (ho pins s2 σ H2 x y v u _ I2 r1 r2 q2) fun d s3 ⟨z,H3,I3,r3,k,e,q3⟩=>?_)) hm
 subst e
 cases r3
 refine wF ?_
 cases k with
 |false=>exact ite_ff ⟨.bl false,H3,I3,rfl,q3⟩
 |true=>exact ite_tt (chain_last (thn (hc pins s3 σ H3 _ I3 q3) fun w' s4 ⟨z',H4,I4,r4,q4⟩=>ho' pins s4 σ H4 y z' u w' Q I4 r2 r4 q4))
theorem line63:(sizeLine:Nat) < 2^63:=by rw [bC];decide
theorem op_add_str:OpR X (bJ .Add) (fun x y H Q=>∃i j,x=.str i/\y=.str j/\i.length+j.length<=sizeLine/\Q (.str (i++j)) H):=by
 intro pins s σ H x y v u Q I rx ry h
 obtain⟨i,j,rfl,rfl,hz,q⟩:=h
 obtain⟨t,rfl⟩:=rx
 obtain⟨t',rfl⟩:=ry
 exact add_str (fun t' tk=>⟨.str (i++j),H,I.tok _,⟨_,rfl⟩,q⟩) hz
theorem vals1 {x:V} {us:List uC} (r:qbi [x] us):∃u,us=[u]/\qbf x u:=by
 cases r with
 |cons r1 r2=>cases r2;exact⟨_,rfl,r1⟩
theorem vals2 {x y:V} {us:List uC} (r:qbi [x,y] us):∃u w',us=[u,w']/\qbf x u/\qbf y w':=by
 cases r with
 |cons r1 r2=>
  cases r2 with
  |cons r3 r4=>cases r4;exact⟨_,_,rfl,r1,r3⟩
theorem call_max2 (hc:X.calm=true):qc9 X (.builtin "max") (fun xs H Q=>∃i j,xs=[.int i,.int j]/\Q (.int (if j > i then j else i)) H):=by
 intro pins s σ H xs us Q I r h
 obtain⟨i,j,rfl,q⟩:=h
 obtain⟨u,w',rfl,⟨t,rfl⟩,⟨t',rfl⟩⟩:=vals2 r
 refine max_two_ints (I.ok.hd hc) fun h' tk k=>⟨_,H,I.kept k,?_,q⟩
 by_cases hj:j > i
 .rw [gT hj,gT hj];exact⟨_,rfl⟩
 .rw [gS hj,gS hj];exact⟨_,rfl⟩
theorem call_min2 (hc:X.calm=true):qc9 X (.builtin "min") (fun xs H Q=>∃i j,xs=[.int i,.int j]/\Q (.int (if j < i then j else i)) H):=by
 intro pins s σ H xs us Q I r h
 obtain⟨i,j,rfl,q⟩:=h
 obtain⟨u,w',rfl,⟨t,rfl⟩,⟨t',rfl⟩⟩:=vals2 r
 refine min_two_ints (I.ok.hd hc) fun h' tk k=>⟨_,H,I.kept k,?_,q⟩
 by_cases hj:j < i
 .rw [gT hj,gT hj];exact⟨_,rfl⟩
 .rw [gS hj,gS hj];exact⟨_,rfl⟩
end
structure ObjM (h:vR) (x dx C:Addr) (mA:Str->Option uC):Prop where
 obj:h.get? x=some (dN C dx)
 ns:h.Ns1 dx mA
 ne:dx≠x
theorem lookIn_ns {h:vR} {dx:Addr} {mA:Str->Option uC} (n:h.Ns1 dx mA):∃od,h.get? dx=some od/\∀name,lookIn name od=some (mA name):=by
 obtain⟨o,es,ep,ho,hd,hk,_,hm⟩:=n
 refine⟨o,ho,fun name=>?_⟩
 have e:=hm name
 unfold fN findBy at e
 rw [<-fO] at e
 unfold lookIn
 rw [hd]
 dsimp only
 split
 .rename_i y q
  rw [q] at e
  exact congrArg some e
 .rename_i q
  rw [q] at e
  have a:es.toList.any (·.refKey)=false:=by
   rw [fX]
   intro y hy
   obtain⟨z,t,hkey⟩:=hk y (Array.mem_toList_iff.mp hy)
   simp [DictEntry.refKey,hkey]
  have a':¬es.toList.any (·.refKey)=true:=by rw [a];exact uE
  rw [gS a']
  exact congrArg some e
theorem ObjM.look {h:vR} {x dx C:Addr} {mA:Str->Option uC} (I:ObjM h x dx C mA):∃od,PySem.W.InstAt h x (dN C dx) C (some od)/\∀name,lookIn name od=some (mA name):=
 let ⟨od,ho,hl⟩:=lookIn_ns I.ns
 ⟨od,⟨I.obj,rfl,rfl,ho⟩,hl⟩
section
variable {prog: vB} {w: vL} {A: vO} {E: uC -> uD -> Prop} {s: uD} {K: uR} {x dx C f: Addr} {mA: Str -> Option uC} {name: Str} {v: uC}
theorem get_map {expr:Bool} {Q:uC->uD->Prop} (X:K.In s.heap) (I:ObjM s.heap x dx C mA) (hg:plainGet K C name=true) (hh:gJ K C=true)
  (ha:vV K (.ref C) name=some none) (hv:mA name=some v) (hv':PySem.W.handedIn v=true) (h:Q v {s with toks:=s.toks+1}):
  uT (uW prog w) A (getAttr (.ref x) name expr) Q E s:=by
 obtain⟨od,J,hl⟩:=I.look
 exact PySem.W.get_value X J (fF hg).1 (PySem.W.findObj_own hh ha rfl (by rw [hl,hv])) hv' h
theorem get_meth {pl:Sem Bool} {Q:uC × List uC->uD->Prop} (X:K.In s.heap) (I:ObjM s.heap x dx C mA) (hg:plainGet K C name=true)
  (hf:vV K (.ref C) name=some (some (.ref f))) (ht:isFn K (.ref f)=true) (hv:mA name=none) (h:Q (.ref f, [.ref x]) s):
  uT (uW prog w) A (gM (.ref x) name pl) Q E s:=by
 obtain⟨od,J,hl⟩:=I.look
 exact PySem.W.method_fn X J (fF hg).1 (fF hg).2 hf (beq_iff_eq.mp ht) (by show (lookIn name od).map (·.isSome)=some false;rw [hl,hv];rfl) h
theorem set_map {ns:List Str} {Q:Unit->uD->Prop} (X:K.In s.heap) (I:ObjM s.heap x dx C mA)
  (hs:vV K (.ref C) "__setattr__" =some (some (.builtin "object.__setattr__"))) (hp:PySem.W.plainOver K C=true) (ht:PySem.W.takerIn K C name=some none) (hh:gJ K C=true)
  (hw:PySem.Within mA ns) (hsz:ns.length<=sizeLine)
  (h:∀h',ObjM h' x dx C (fun y=>if y=name then some v else mA y)->bH dx s.heap h'->Q () {s with heap:=h',toks:=s.toks+2}):
  uT (uW prog w) A (setAttr (.ref x) name v) Q E s:=by
 obtain⟨od,J,hl⟩:=I.look
 refine PySem.W.set_plain X J hs (PySem.W.osa_open (s:={s with toks:=s.toks+1}) (r:=none) X J hp ht fun b=>?_)
 obtain⟨cd,hc,hd'⟩:=PySem.W.any_some hh
 have hx:s.heap.get? x=some ⟨.ref C,some dx,.plain,#[]⟩:=I.obj
 refine uB (uI (uB (uB (wpAny_loadPart hx (uB (PySem.W.Looks.here (s:={s with toks:=s.toks+1}) (PySem.W.looks_clsIn X hc) ?_))))))
 rw [hd']
 refine uI (a:=some dx) (uB (uI (uB ?_)))
 refine wpAny_nsSet1 (s:={s with toks:=s.toks+1}) I.ns fun h' hn2 hs2=>?_
 obtain⟨oD,esD,epD,hoD,hdD,hcD⟩:=hn2.count (PySem.Within.cons name v hw)
 refine uB (wpAny_lookBehind hoD (by rw [hdD];exact pastItsLine_dict (vP hcD (by rw [zZ];omega))) ?_)
 exact uI (h _ ⟨(hs2.2 _ (xP I.ne)).trans I.obj,hn2,I.ne⟩ hs2)
theorem make_map {R:Result->uD->Prop} {vs:List uC} {kw:List (Str × uC)} (X:K.In s.heap) (hm:PySem.W.makesIn K C=true)
  (hi:vV K (.ref C) "__init__" =some (some (.ref f))) (hf:PySem.W.typeIn K (.ref f)=some (.type "function"))
  (h:cN (uW prog w) (A.under (.builtin "type.__call__" ⟨.ref C :: vs,kw⟩)) (.call (.ref f) ⟨.ref (s.heap.objs.size+1) :: vs,kw⟩) (PySem.W.InitBack (s.heap.objs.size+1) R)
   {s with heap:=(s.heap.push emptyDict).push (dN C s.heap.objs.size)}):
  cN (uW prog w) A (.call (.ref C) ⟨vs,kw⟩) R s:=by
 obtain⟨hh,g,d,t,os⟩:=s
 exact PySem.W.make_core (PySem.W.makes_of X hm) (PySem.W.looks_findIn X hi) (fun self=>PySem.W.bind_fn X self hf) (.inl rfl) h
end
noncomputable def qey (f:Str) (v:V):List (Str × V)->List (Str × V)
 | []=> [(f,v)]
 |(g,x) :: r=>if g=f then (g,v) :: r else (g,x) :: qey f v r
theorem qf3 (f g:Str) (v:V):∀fs:List (Str × V),(qey f v fs).lookup g=if g=f then some v else fs.lookup g
 | []=>by
  show cD g [(f,v)]=_
  by_cases h:g=f
  .have hb:(g==f)=true:=beq_iff_eq.mpr h
   simp only [cD,hb,gT h]
  .have hb:(g==f)=false:=beq_eq_false_iff_ne.mpr h
   simp only [cD,hb,gS h]
 |(k,x) :: r=>by
  have ih:=qf3 f g v r
  rw [show qey f v ((k,x) :: r)=(if k=f then (k,v) :: r else (k,x) :: qey f v r) from rfl]
  by_cases hk:k=f
  .rw [gT hk]
   by_cases h:g=k
   .have hb:(g==k)=true:=beq_iff_eq.mpr h
    simp only [cD,hb,gT (h.trans hk)]
   .have hb:(g==k)=false:=beq_eq_false_iff_ne.mpr h
    simp only [cD,hb,gS (fun e:g=f=>h (e.trans hk.symm))]
  .rw [gS hk]
   by_cases h:g=k
   .have hb:(g==k)=true:=beq_iff_eq.mpr h
    simp only [cD,hb,gS (fun e:g=f=>hk (h.symm.trans e))]
   .have hb:(g==k)=false:=beq_eq_false_iff_ne.mpr h
    simp only [cD,hb]
    exact ih
theorem qf6 (f:Str) (v:V):∀fs:List (Str × V),f∈(qey f v fs).map (·.1)/\∀g,g∈fs.map (·.1)->g∈(qey f v fs).map (·.1)
 | []=>⟨by simp [qey],fun g h=>by simp at h⟩
 |(k,x) :: r=>by
  obtain⟨i1,i2⟩:=qf6 f v r
  rw [show qey f v ((k,x) :: r)=(if k=f then (k,v) :: r else (k,x) :: qey f v r) from rfl]
  by_cases hk:k=f
  .rw [gT hk]
   subst hk
   exact⟨by simp,fun g h=>by simpa using h⟩
  .rw [gS hk]
   refine⟨?_,fun g h=>?_⟩
   .rw [zS]
    exact zE _ i1
   .rw [zS] at h ⊢
    rcases zR.mp h with e|e
    .exact zR.mpr (.inl e)
    .exact zE _ (i2 g e)
theorem qf4 (f:Str) (v:V):∀fs:List (Str × V),(qey f v fs).length<=fs.length+1
 | []=>by simp [qey]
 |(k,x) :: r=>by
  have ih:=qf4 f v r
  rw [show qey f v ((k,x) :: r)=(if k=f then (k,v) :: r else (k,x) :: qey f v r) from rfl]
  by_cases hk:k=f
  .rw [gT hk,zZ,zZ];omega
  .rw [gS hk,zZ,zZ];omega
theorem qgj.some_of {v:V} {o:Option uC} (r:qgj (some v) o):∃u,o=some u/\qbf v u:=by
 cases o with
 |none=>exact(show False from r).elim
 |some u=>exact⟨u,rfl,r⟩
theorem qgj.none_of {o:Option uC} (r:qgj none o):o=none:=by
 cases o with
 |none=>rfl
 |some u=>exact(show False from r).elim
theorem handed_of {v:V} {u:uC} (r:qbf v u):PySem.W.handedIn u=true:=by
 cases v with
 |non=>cases (show u=vW from r);rfl
 |bl b=>cases (show u=fL b from r);rfl
 |int i=>obtain⟨t,e⟩:=(show ∃t,u=aP i t from r);cases e;rfl
 |str x=>obtain⟨t,e⟩:=(show ∃t,u=eY x t from r);cases e;rfl
 |byt b=>obtain⟨t,e⟩:=(show ∃t,u=Value.bytes b t from r);cases e;rfl
 |flt b=>obtain⟨t,e⟩:=(show ∃t,u=Value.float b t from r);cases e;rfl
 |ref a=>cases (show u=uP a from r);rfl
 |ty n=>cases (show u=Value.type n from r);rfl
section
variable {P: vB} {w: vL} {H: Hp} {h: vR} {a C dx: Addr} {fs: List (Str × V)}
theorem qga (hok:HOk P w H h) (e:H a=some (.ins C dx fs)):∃mA,ObjM h a dx C mA/\(∀f,qgj (fs.lookup f) (mA f))/\PySem.Within mA (fs.map (·.1))/\fs.length<=1000/\H dx=some (.own a):=by
 obtain⟨d,z,ne,ob,mA,n,r,q⟩:=(show qbo P w H h a (.ins C dx fs) from hok a _ e)
 exact⟨mA,⟨ob,n,ne⟩,r,q,z,d⟩
end
structure Cls (K:uR) (C:Addr):Prop where
 pg:plainGet K C Str.empty=true
 hd:gJ K C=true
 po:PySem.W.plainOver K C=true
 sa:vV K (.ref C) "__setattr__" =some (some (.builtin "object.__setattr__"))
theorem Cls.get {K:uR} {C:Addr} (c:Cls K C) (f:Str):plainGet K C f=true:=c.pg
noncomputable def qaz (K:uR) (C:Addr) (f:Str):Prop:=vV K (.ref C) f=some none
theorem qaz.taker {K:uR} {C:Addr} {f:Str} (n:qaz K C f):PySem.W.takerIn K C f=some none:=by
 unfold PySem.W.takerIn
 rw [show vV K (.ref C) f=some none from n]
 rfl
structure Con (K:uR) (C:Addr) (f:Str) (v:V) (u:uC):Prop where
 at_:vV K (.ref C) f=some (some u)
 rel:qbf v u
 get:eW K u "__get__" =some none
 cp:PySem.W.copiedNames.contains f=false
structure Meth (K:uR) (C:Addr) (m:Str) (f:Addr):Prop where
 at_:vV K (.ref C) m=some (some (.ref f))
 fn:isFn K (.ref f)=true
 kp:dO K (.ref f)=true
section
variable {X: Cx} {pins: List (Addr × Obj)} {σ: St} {H: Hp} {s: uD} {a C dx: Addr} {fs: List (Str × V)} {f: Str} {v: V} {A: vO} {E: uC -> uD -> Prop}
theorem getattr_ok {b:Bool} {Q:uC->uD->Prop} (I:Inv X pins σ H s) (e:H a=some (.ins C dx fs)) (c:Cls X.K C) (n:qaz X.K C f) (l:fs.lookup f=some v)
  (h:∀u s',Inv X pins σ H s'->qbf v u->Q u s'):uT (uW X.prog X.w) A (getAttr (.ref a) f b) Q E s:=by
 obtain⟨mA,O,r,_,_,_⟩:=qga I.hok e
 obtain⟨u,hu,ru⟩:=qgj.some_of (v:=v) (o:=mA f) (by rw [<-l];exact r f)
 exact get_map I.kIn O (c.get f) c.hd n hu (handed_of ru) (h u _ (I.tok _) ru)
theorem qef {m:Str} {g:Addr} {pl:Sem Bool} {Q:uC × List uC->uD->Prop} (I:Inv X pins σ H s) (e:H a=some (.ins C dx fs)) (c:Cls X.K C) (k:Meth X.K C m g) (l:fs.lookup m=none)
  (h:Q (.ref g, [.ref a]) s):uT (uW X.prog X.w) A (gM (.ref a) m pl) Q E s:=by
 obtain⟨mA,O,r,_,_,_⟩:=qga I.hok e
 have hn:mA m=none:=qgj.none_of (by rw [<-l];exact r m)
 exact get_meth I.kIn O (c.get m) k.at_ k.fn hn h
theorem setattr_ok {y:V} {u:uC} {Q:Unit->uD->Prop} (I:Inv X pins σ H s) (e:H a=some (.ins C dx fs)) (c:Cls X.K C) (n:qaz X.K C f) (hl:fs.length < 1000) (ry:qbf y u)
  (h:∀s',Inv X pins σ (upd H a (.ins C dx (qey f y fs))) s'->Q () s'):uT (uW X.prog X.w) A (setAttr (.ref a) f u) Q E s:=by
 obtain⟨mA,O,r,wi,_,ho⟩:=qga I.hok e
 have hz:(fs.map (·.1)).length<=sizeLine:=by rw [zB,bC];omega
 refine set_map I.kIn O c.sa c.po n.taker c.hd wi hz fun h' O' sb=>h _ ?_
 have hd:∃o,h'.get? dx=some o:=let ⟨o,_,_,e',_⟩:=O'.ns;⟨o,e'⟩
 refine I.write (x:=a) (e:=dx) (by rw [e];exact wO) (.inr ho) (fun b q hb z=>(sb.2 b hb).trans z) hd ?_
 refine⟨by rw [qa6 O.ne];exact ho,?_,O.ne,O'.obj,_,O'.ns,fun g=>?_,fun g hg=>?_⟩
 .have:=qf4 f y fs;omega
 .show qgj ((qey f y fs).lookup g) (if g=f then some u else mA g)
  rw [qf3]
  by_cases q:g=f
  .rw [gT q,gT q];exact ry
  .rw [gS q,gS q];exact r g
 .by_cases q:g=f
  .rw [q];exact(qf6 f y fs).1
  .refine(qf6 f y fs).2 g (wi g fun z=>hg ?_)
   show (if g=f then some u else mA g)=none
   rw [gS q];exact z
theorem Inv.made (I:Inv X pins σ H s):Inv X pins σ (upd (upd H s.heap.objs.size (.own (s.heap.objs.size+1))) (s.heap.objs.size+1) (.ins C s.heap.objs.size []))
  {s with heap:=(s.heap.push emptyDict).push (dN C s.heap.objs.size)}:=by
 have e1:(s.heap.push emptyDict).get? s.heap.objs.size=some emptyDict:=uQ s.heap rfl
 have e2:((s.heap.push emptyDict).push (dN C s.heap.objs.size)).get? (s.heap.objs.size+1)=some (dN C s.heap.objs.size):=by
  have:=uQ (s.heap.push emptyDict) (o:=dN C s.heap.objs.size) rfl
  rwa [bK] at this
 have e3:(s.heap.push emptyDict).Ns s.heap.objs.size (fun _=>none):=⟨emptyDict,#[],_,e1,rfl,(fun e he=>absurd he (by simp)),fun _=>rfl⟩
 have I1:=I.laid (a:=s.heap.objs.size) (o:=.own (s.heap.objs.size+1)) (h':=s.heap.push emptyDict) (t':=s.toks) (fun b u q=>uF _ q) (uG _) ⟨_,e1⟩
 refine I1.laid (a:=s.heap.objs.size+1) (o:=.ins C s.heap.objs.size []) (t':=s.toks) (fun b u q=>uF _ q) (Nat.le_of_eq (bK _ _)) ?_
 have ne:s.heap.objs.size≠s.heap.objs.size+1:=vD (bW _)
 refine⟨by rw [qa6 ne,qa3],wC _,ne,e2,fun _=>none,(Heap.Ns1.of_empty e3).at fun o q=>uF _ q,fun _=>wO,fun y hy=>absurd rfl hy⟩
theorem attr_of {prog:vB} {w:vL} {env:Env} {e:vU} {f:Str} {pos:Pos} {s:uD} {Q:uC->uD->Prop} (hb:cA e f env (wH e env)=wH e env)
  (h:uT (uW prog w) A (wH e env) (fun o s₁=>uT (uW prog w) A (getAttr o f true) Q E s₁) E s):uT (uW prog w) A (wH (.Attribute e f pos) env) Q E s:=
 Attribute_any_ h (by rw [arm_eval_Attribute,hb])
end
noncomputable def tFld (K:uR) (ta:TE) (f:Str):TE:=fun σ H Q=>ta σ H fun x H1=>∃a C dx fs v,x=.ref a/\H1 a=some (.ins C dx fs)/\Cls K C/\qaz K C f/\fs.lookup f=some v/\Q v H1
noncomputable def sFld (K:uR) (ta tv:TE) (f:Str):TS:=fun D σ H=>tv σ H fun y H1=>ta σ H1 fun x H2=>∃a C dx fs,x=.ref a/\H2 a=some (.ins C dx fs)/\Cls K C/\qaz K C f/\fs.length < 1000/\
 D.nx σ (upd H2 a (.ins C dx (qey f y fs)))
noncomputable def InOp (X:Cx) (op:Operator) (rd:V->V->Hp->VK->Prop):Prop:=
 ∀(pins:List (Addr × Obj)) (s:uD) (σ:St) (H:Hp) (x y:V) (u v:uC) (Q:VK),Inv X pins σ H s->qbf x u->qbf y v->rd x y H Q->uT (uW X.prog X.w) X.A (inplaceOp op u v) (EP X pins σ Q) X.xe s
section
variable {X: Cx} {o e value: vU} {f: Str} {pos pos': Pos} {ta tv: TE}
theorem qbb (he:PE X e ta) (hb:cA e f X.env (wH e X.env)=wH e X.env):PE X (.Attribute e f pos) (tFld X.K ta f):=by
 intro pins s σ H Q I h
 refine attr_of hb (thn (he pins s σ H _ I h) fun u s1 ⟨x,H1,I1,rx,a,C,dx,fs,v,ex,ea,c,n,l,q⟩=>?_)
 subst ex
 obtain rfl:u=uP a:=rx
 exact getattr_ok I1 ea c n l fun u' s2 I2 ru=>⟨v,H1,I2,ru,q⟩
theorem qdh (ha:PE X o ta) (hv:PE X value tv) (hs:eZ value (some (.Attribute o f pos')) pos.line X.env=pure false):PS X (.Assign [.Attribute o f pos'] value pos) (sFld X.K ta tv f):=by
 intro pins s σ H D I h
 refine plainObj_wpAny_Assign_Attribute (thn (hv pins s σ H _ I h) fun u s1 ⟨y,H1,I1,ry,q⟩=>thn (ha pins s1 σ H1 _ I1 q) fun ov s2 ⟨x,H2,I2,rx,a,C,dx,fs,ex,ea,c,n,l,q2⟩=>?_) hs
 subst ex
 obtain rfl:ov=uP a:=rx
 exact setattr_ok I2 ea c n l ry fun s3 I3=>⟨σ,_,I3,q2⟩
noncomputable def rSub:V->V->Hp->VK->Prop:=fun x y H Q=>∃i j,x=.int i/\y=.int j/\Q (.int (i - j)) H
theorem in_sub:InOp X .Sub rSub:=by
 rintro pins s σ H x y u v Q I rx ry ⟨i,j,rfl,rfl,q⟩
 obtain⟨t,rfl⟩:=(show ∃t,u=aP i t from rx)
 obtain⟨t',rfl⟩:=(show ∃t',v=aP j t' from ry)
 exact PyProof.Rows.isub_int ⟨.int (i - j),H,I.tok _,⟨_,rfl⟩,q⟩
theorem methcall_of {pl:Sem Bool} {m:Str} {apos:Pos} {args:List vU} {pins:List (Addr × Obj)} {s:uD} {σ:St} {H:Hp} {Q:uC->uD->Prop} {te:TE} (he:PE X e te) (I:Inv X pins σ H s)
  (h:te σ H fun x H1=>∃a C dx fs g,x=.ref a/\H1 a=some (.ins C dx fs)/\Cls X.K C/\Meth X.K C m g/\fs.lookup m=none/\
   ∀s1,Inv X pins σ H1 s1->uT (uW X.prog X.w) X.A (callWith pos (.ref g) [.ref a] (wR pos (vC args X.env)) (eQ pos (cE [] X.env))) Q X.xe s1)
  (ht:wH (.Call (.Attribute e m apos) args [] pos) X.env=(do
   let ov<-wH e X.env
   standAt apos.atName
   let (f,first)<-holding [ov] (gM ov m pl)
   callWith pos f first (wR pos (vC args X.env)) (eQ pos (cE [] X.env)))):
  uT (uW X.prog X.w) X.A (wH (.Call (.Attribute e m apos) args [] pos) X.env) Q X.xe s:=by
 refine eG (pl:=pl) (thn (he pins s σ H _ I h) fun u s1 ⟨x,H1,I1,rx,a,C,dx,fs,g,ex,ea,c,k,l,q⟩=>?_) ht
 subst ex
 obtain rfl:u=uP a:=rx
 exact qef I1 ea c k l (q s1 I1)
end
section
variable {X: Cx} {pins: List (Addr × Obj)} {σ: St} {H: Hp} {s: uD} {A: vO} {E: uC -> uD -> Prop} {Q: uC -> uD -> Prop} {c: uC} {b: Bool}
inductive TyOf (K:uR) (H:Hp):V->uC->Prop where
 |non:TyOf K H .non (.type "NoneType")
 |bl (x:Bool):TyOf K H (.bl x) (.type "bool")
 |int (i:Int):TyOf K H (.int i) (.type "int")
 |str (x:Str):TyOf K H (.str x) (.type "str")
 |flt (x:UInt64):TyOf K H (.flt x) (.type "float")
 |lst {a:Addr} {xs:List V} (e:H a=some (.lst xs)):TyOf K H (.ref a) (.type "list")
 |frz {a:Addr} {o:Obj} {xs:List V} (e:H a=some (.frz o (.lst xs))):TyOf K H (.ref a) (.type "list")
 |tup {a:Addr} {xs:List V} (e:H a=some (.tup xs)):TyOf K H (.ref a) (.type "tuple")
 |dK {a:Addr} {kvs:List (Key × V)} (e:H a=some (.dK kvs)):TyOf K H (.ref a) (.type "dict")
 |dT {a:Addr} {kvs:List (List Key × V)} (e:H a=some (.dT kvs)):TyOf K H (.ref a) (.type "dict")
 |ins {a C dx:Addr} {fs:List (Str × V)} (e:H a=some (.ins C dx fs)) (cl:Cls K C) (ha:vV K (.ref C) "__class__" =some (some (.builtin "object.__class__")))
   (hn:eW K (.builtin "object.__class__") "__get__" =some (some (.builtin "getset_descriptor.__get__"))) (htk:PySem.W.takesIn K (.builtin "object.__class__")=some true)
   (hm:mroIn K C (.type "object")=some true):TyOf K H (.ref a) (.ref C)
theorem isinst_ok {x:V} {u t:uC} (I:Inv X pins σ H s) (rx:qbf x u) (ty:TyOf X.K H x t) (e:cQ X.K t c=some b) (h:∀tk,Q (.bool b) {s with toks:=tk}):
  uT (uW X.prog X.w) A (call (.builtin "isinstance") [u,c]) Q E s:=by
 cases ty with
 |non=>cases (show u=vW from rx);exact wI PySem.W.kitx_none I.kIn wO e (fun z=>nomatch z) h
 |bl y=>cases (show u=fL y from rx);exact wI PySem.W.kitx_bool I.kIn wO e (fun z=>nomatch z) h
 |int i=>obtain⟨t,q⟩:=(show ∃t,u=aP i t from rx);cases q;exact wI PySem.W.kitx_int I.kIn wO e (fun z=>nomatch z) h
 |str y=>obtain⟨t,q⟩:=(show ∃t,u=eY y t from rx);cases q;exact wI PySem.W.kitx_str I.kIn wO e (fun z=>nomatch z) h
 |flt y=>obtain⟨t,q⟩:=(show ∃t,u=Value.float y t from rx);cases q;exact wI PySem.W.kitx_float I.kIn wO e (fun z=>nomatch z) h
 | @lst a xs ea=>
  cases (show u=uP a from rx)
  obtain⟨_,_,n,_,h1⟩:=(show qbo X.prog X.w H s.heap a (.lst xs) from I.hok a _ ea)
  exact wI PySem.W.kitx_list I.kIn ⟨_,h1,rfl⟩ e (fun z=>nomatch z) h
 | @frz a ob xs ea=>
  cases (show u=uP a from rx)
  obtain⟨_,_,_,n,_,h1⟩:=(show qbo X.prog X.w H s.heap a (.frz ob (.lst xs)) from I.hok a _ ea)
  exact wI PySem.W.kitx_list I.kIn ⟨_,h1,rfl⟩ e (fun z=>nomatch z) h
 | @tup a xs ea=>
  cases (show u=uP a from rx)
  obtain⟨_,_,_,p⟩:=(show qbo X.prog X.w H s.heap a (.tup xs) from I.hok a _ ea)
  obtain⟨o,h1,h2,_⟩:=p
  exact wI PySem.W.kitx_tuple I.kIn ⟨o,h1,h2⟩ e (fun z=>nomatch z) h
 | @dK a kvs ea=>
  cases (show u=uP a from rx)
  obtain⟨_,_,vs,_,p⟩:=(show qbo X.prog X.w H s.heap a (.dK kvs) from I.hok a _ ea)
  obtain⟨o,es,ep,h1,h2,_⟩:=p
  exact wI PySem.W.kitx_dict I.kIn ⟨o,h1,h2.1⟩ e (fun z=>nomatch z) h
 | @dT a kvs ea=>
  cases (show u=uP a from rx)
  obtain⟨_,_,xs,_,o,es,ep,h1,h2,_⟩:=(show qbo X.prog X.w H s.heap a (.dT kvs) from I.hok a _ ea)
  exact wI PySem.W.kitx_dict I.kIn ⟨o,h1,h2.1⟩ e (fun z=>nomatch z) h
 | @ins a C dx fs ea cl ha hn htk hm=>
  cases (show u=uP a from rx)
  obtain⟨mA,O,_⟩:=qga I.hok ea
  obtain⟨od,J,_⟩:=O.look
  exact wI (PySem.W.kitx_own (cl.get _) cl.hd ha hn htk hm) I.kIn J e (fun z=>nomatch z) h
end
structure Room (k:Nat) (A:vO):Prop where
 hd:A.handled=none
 dp:A.depth+3*k+5 < recursionLimit
 un:A.units+16*k+200 < cLine
theorem Room.mono {j k:Nat} {A:vO} (r:Room k A) (h:j<=k):Room j A:=⟨r.hd,by have:=r.dp;omega,by have:=r.un;omega⟩
theorem Room.deeper {k:Nat} {A:vO} (r:Room (k+1) A) (env:Env):Room k (A.deeper env):=
 ⟨r.hd,by have:=r.dp;show A.depth+1+3*k+5 < _;omega,by have:=r.un;show A.units+3+16*k+200 < _;omega⟩
theorem make_depth {A:vO} {C:Addr} {us:List uC} {kw:List (Str × uC)}:(A.under (.builtin "type.__call__" ⟨.ref C :: us,kw⟩)).depth=A.depth+1:=by
 first|rfl|simp [Around.under,Code.weight,Code.isCreation,Code.isGuard,Code.isCaller,Code.frames,Code.isFrame,guardIds]
theorem make_units {A:vO} {C:Addr} {us:List uC} {kw:List (Str × uC)}:(A.under (.builtin "type.__call__" ⟨.ref C :: us,kw⟩)).units=A.units+1:=by
 first|rfl|simp [Around.under,Code.cUnits,Code.frames,Code.isFrame]
theorem Room.make {k:Nat} {A:vO} (r:Room (k+1) A) (C:Addr) (us:List uC) (kw:List (Str × uC)):Room k (A.under (.builtin "type.__call__" ⟨.ref C :: us,kw⟩)):=
 ⟨r.hd,by have:=r.dp;rw [make_depth];omega,by have:=r.un;rw [make_units];omega⟩
theorem Room.depth {k:Nat} {A:vO} (r:Room k A):A.depth < recursionLimit:=by have:=r.dp;omega
theorem Room.units {k:Nat} {A:vO} (r:Room k A):A.units+64 < cLine:=by have:=r.un;omega
noncomputable def tNil:TA:=fun _ H Q=>Q [] H
noncomputable def tCons (ta:TE) (tr:TA):TA:=fun σ H Q=>ta σ H fun x H1=>tr σ H1 fun xs H2=>Q (x :: xs) H2
section
variable {X: Cx} {e: vU} {es: List vU} {te: TE} {t: TA} {pos: Pos}
theorem qa2:PA X [] tNil:=fun _ _ _ _ H Q I h=>Calls.spliced_nil ⟨[],H,I,.nil,h⟩
theorem qa0 (ha:PE X e te) (hr:PA X es t) (hs:vC (e :: es) X.env=(false,wH e X.env) :: vC es X.env:=by rfl):PA X (e :: es) (tCons te t):=by
 intro pos pins s σ H Q I h
 rw [hs]
 show uT _ _ (spliced ((false,wH e X.env) :: wR pos (vC es X.env))) _ _ s
 refine fP (thn (ha pins s σ H _ I h) fun u s1 ⟨x,H1,I1,r1,q1⟩=>?_)
 exact thn (hr pos pins s1 σ H1 _ I1 q1) fun us s2 ⟨xs,H2,I2,r2,q2⟩=>⟨x :: xs,H2,I2,.cons r1 r2,q2⟩
noncomputable def tTup (t:TA):TE:=fun σ H Q=>t σ H fun xs H1=>xs.length<=sizeLine/\∀p,H1 p=none->Q (.ref p) (upd H1 p (.tup xs))
noncomputable def tLst (t:TA):TE:=fun σ H Q=>t σ H fun xs H1=>xs.length<=sizeLine/\∀p,H1 p=none->Q (.ref p) (upd H1 p (.lst xs))
theorem qe2 {x1} (h:PA X es t):PE X (.Tuple es x1 pos) (tTup t):=by
 intro pins s σ H Q I hq
 refine wpAny_Tuple_spliced (thn (h pos pins s σ H _ I hq) fun us s1 ⟨xs,H1,I1,r,z,q⟩=>⟨by rw [<-r.length];exact z,?_⟩)
 have hf:H1 s1.heap.objs.size=none:=I1.hok.fresh (uG _)
 refine⟨.ref s1.heap.objs.size,upd H1 s1.heap.objs.size (.tup xs),I1.laid (t':=s1.toks) (fun b u e=>uF _ e) (uG _) ?_,rfl,q _ hf⟩
 exact⟨z,us,r,⟨_,uQ _ rfl,rfl,_,rfl⟩⟩
theorem qc0 (h:PA X es t):PE X (.List es pos) (tLst t):=by
 intro pins s σ H Q I hq
 refine wpAny_List_spliced (thn (h pos pins s σ H _ I hq) fun us s1 ⟨xs,H1,I1,r,z,q⟩=>⟨by rw [<-r.length];exact z,?_⟩)
 have hf:H1 s1.heap.objs.size=none:=I1.hok.fresh (uG _)
 refine⟨.ref s1.heap.objs.size,upd H1 s1.heap.objs.size (.lst xs),I1.laid (t':=s1.toks) (fun b u e=>uF _ e) (uG _) ?_,rfl,q _ hf⟩
 exact⟨z,us,0,r,uQ _ rfl⟩
end
abbrev Sp:=List V->Hp->VK->XK->Prop
abbrev CXT:=List Env->Hp->uD->XK->uC->uD->Prop
structure Env0 (P:vB) (w:vL) (K:uR) (mg:Str->Option uC) (base:vR) (A:vO) (outer:List Env) (s:uD) (H:Hp):Prop where
 frames:A.frames=some outer
 mod:Mod K mg base
 bs:∀b o,base.get? b=some o->s.heap.get? b=some o/\H b=none
 bsz:base.objs.size<=s.heap.objs.size
 funs:s.heap.FunFrames base outer
 frf:∀b∈frs outer,H b=none
 hok:HOk P w H s.heap
 bare:cV s.gens
noncomputable def CE (outer:List Env) (P:vB) (w:vL) (H:Hp) (s:uD) (Q:VK) (u:uC) (s':uD):Prop:=
 ∃v H',s'.os=s.os/\cV s'.gens/\Un (frs outer) [] H H' s.heap s'.heap/\HOk P w H' s'.heap/\qbf v u/\Q v H'
noncomputable def CR (CX:CXT) (outer:List Env) (P:vB) (w:vL) (H:Hp) (s:uD) (Q:VK) (E:XK) (r:Result) (s':uD):Prop:=
 match r with
 | .ok (.ret u)=>CE outer P w H s Q u s'
 | .ok _=>False
 | .error e=>CX outer H s E e s'
structure FnOk (P:vB) (w:vL) (K:uR) (mg:Str->Option uC) (base:vR) (CX:CXT) (k:Nat) (f:Addr) (fd:uM) (ps:List Str) (sp:Sp):Prop where
 len:∀vs H Q E,sp vs H Q E->vs.length=ps.length
 run:∀(A:vO) (outer:List Env) (s:uD) (H:Hp) (args:Args) (us:List uC) (vs:List V) (Q:VK) (E:XK),Room k A->Env0 P w K mg base A outer s H->fA s fd args (ps.zip us)->qbi vs us->sp vs H Q E->
  cN (uW P w) A (.call (.ref f) args) (CR CX outer P w H s Q E) s
theorem FnOk.mono {P:vB} {w:vL} {K:uR} {mg:Str->Option uC} {base:vR} {CX:CXT} {j k:Nat} {f:Addr} {fd:uM} {ps:List Str} {sp:Sp} (F:FnOk P w K mg base CX j f fd ps sp) (h:j<=k):
  FnOk P w K mg base CX k f fd ps sp:=⟨F.len,fun A outer s H args us vs Q E hr=>F.run A outer s H args us vs Q E (hr.mono h)⟩
theorem FnOk.imp {P:vB} {w:vL} {K:uR} {mg:Str->Option uC} {base:vR} {CX:CXT} {k:Nat} {f:Addr} {fd:uM} {ps:List Str} {sp sp':Sp} (F:FnOk P w K mg base CX k f fd ps sp)
  (h:∀vs H Q E,sp' vs H Q E->sp vs H Q E):FnOk P w K mg base CX k f fd ps sp':=
 ⟨fun vs H Q E q=>F.len vs H Q E (h _ _ _ _ q),fun A outer s H args us vs Q E hr he hb hv hs=>F.run A outer s H args us vs Q E hr he hb hv (h _ _ _ _ hs)⟩
theorem Env0.make {P:vB} {w:vL} {K:uR} {mg:Str->Option uC} {base:vR} {A:vO} {outer:List Env} {s:uD} {H:Hp} (e:Env0 P w K mg base A outer s H) (C:Addr) (us:List uC) (kw:List (Str × uC)):
  Env0 P w K mg base (A.under (.builtin "type.__call__" ⟨.ref C :: us,kw⟩)) outer s H:=⟨by first|exact e.frames|(simpa [Around.under,Code.envs,Code.isFrame,pushEnvs] using e.frames),e.mod,e.bs,e.bsz,e.funs,e.frf,e.hok,e.bare⟩
section
variable {X: Cx} {pins: List (Addr × Obj)} {σ: St} {H: Hp} {s s': uD}
theorem Inv.env0 (I:Inv X pins σ H s):Env0 X.prog X.w X.K X.mg X.base X.A X.stack s H:=
 ⟨I.ok.frames,I.ok.mod,I.bs,vP I.ok.bsz I.sz,I.stack,I.stkFree,I.hok,I.bare⟩
theorem Inv.after {Q:VK} {u:uC} (I:Inv X pins σ H s) (h:CE X.stack X.prog X.w H s Q u s'):EP X pins σ Q u s':=by
 obtain⟨v,H',os,bare,un,hok,r,q⟩:=h
 obtain⟨hh,g,d,t,os'⟩:=s'
 obtain rfl:os'=s.os:=os
 exact⟨v,H',I.call (h':=hh) (g':=g) (d':=d) (t':=t) (ch:=[]) un hok bare (fun b z=>absurd z (by simp)),r,q⟩
end
noncomputable def tCall (sp:Sp) (dvs:List V) (E:XK) (t:TA):TE:=fun σ H Q=>t σ H fun vs H1=>sp (vs++dvs) H1 Q E
noncomputable def tMeth (C:Addr) (m:Str) (sp:Sp) (dvs:List V) (E:XK) (ta:TE) (t:TA):TE:=fun σ H Q=>ta σ H fun x H1=>∃a dx fs,x=.ref a/\H1 a=some (.ins C dx fs)/\fs.lookup m=none/\
 t σ H1 fun vs H2=>sp (x ::(vs++dvs)) H2 Q E
noncomputable def tMake (C:Addr) (sp:Sp) (dvs:List V) (E:XK) (t:TA):TE:=fun σ H Q=>t σ H fun vs H1=>∀x dx,H1 x=none->H1 dx=none->dx≠x->
 sp (.ref x ::(vs++dvs)) (upd (upd H1 dx (.own x)) x (.ins C dx [])) (fun v H2=>v=.non/\Q (.ref x) H2) E
noncomputable def qap (K:uR) (fd:uM) (ps:List Str) (ds:List uC):Prop:=
 ∀(s:uD) (us:List uC),K.In s.heap->(us++ds).length=ps.length->fA s fd ⟨us, []⟩ (ps.zip (us++ds))
theorem qap.all {K:uR} {fd:uM} {ps:List Str} (h:∀us:List uC,us.length=ps.length->bindArgs fd ⟨us, []⟩=pure (ps.zip us)):qap K fd ps []:=fun s us _ hl=>by
 rw [yA] at hl ⊢
 exact .of_eq (h us hl)
noncomputable def qfq (CX:CXT) (X:Cx) (E:XK):Prop:=∀(pins:List (Addr × Obj)) (σ:St) (H:Hp) (s:uD) (e:uC) (s':uD),Inv X pins σ H s->CX X.stack H s E e s'->X.xe e s'
section
variable {X: Cx} {CX: CXT} {k: Nat} {f C: Addr} {fd: uM} {ps: List Str} {sp: Sp} {dvs: List V} {ds: List uC} {E: XK} {x m: Str} {p pos apos: Pos} {e o: vU} {es: List vU} {ta: TE} {t: TA}
theorem run_fn {pins:List (Addr × Obj)} {σ:St} {H:Hp} {s:uD} {Q:VK} {us:List uC} {vs:List V} (F:FnOk X.prog X.w X.K X.mg X.base CX k f fd ps sp) (hr:Room k X.A) (hb:qap X.K fd ps ds) (hd:qbi dvs ds) (hx:qfq CX X E)
  (I:Inv X pins σ H s) (r:qbi vs us) (h:sp (vs++dvs) H Q E):uT (uW X.prog X.w) X.A (call (.ref f) us) (EP X pins σ Q) X.xe s:=by
 have r2:qbi (vs++dvs) (us++ds):=r.append hd
 have hl:(us++ds).length=ps.length:=by rw [<-r2.length];exact F.len _ _ _ _ h
 refine bX (xQ (F.run X.A X.stack s H ⟨us, []⟩ (us++ds) (vs++dvs) Q E hr I.env0 (hb s us I.kIn hl) r2 h) fun r s' hq=>?_)
 cases r with
 |error e=>exact hx pins σ H s e s' I hq
 |ok fl=>
  cases fl with
  |ret u=>exact I.after hq
  |next=>exact vY hq
  |brk=>exact vY hq
  |cont=>exact vY hq
theorem qa8 (F:FnOk X.prog X.w X.K X.mg X.base CX k f fd ps sp) (hr:Room k X.A) (hg:Gl X x) (hm:X.mg x=some (.ref f)) (hk:dO X.K (.ref f)=true) (hb:qap X.K fd ps ds) (hd:qbi dvs ds) (hx:qfq CX X E)
  (ha:PA X (e :: es) t) (hdb:(x==("__debug__" :Str))=false:=by decide) (he:vC (e :: es) X.env=(false,wH e X.env) :: vC es X.env:=by rfl) (hpl:(wR pos (vC es X.env)).any (·.1)=false:=by rfl):
  PE X (.Call (.Name x p) (e :: es) [] pos) (tCall sp dvs E t):=by
 intro pins s σ H Q I h
 refine xR (qdw I hg hm ?_ hdb)
 refine xS (h₀:=X.base) I.ok.mod.kin hk (thn (ha pos pins s σ H _ I h) fun us s1 ⟨vs,H1,I1,r,q⟩=>⟨I1.kIn,?_⟩) he hpl
 exact run_fn F hr hb hd hx I1 r q
theorem qed {pl:Sem Bool} (he:PE X o ta) (c:Cls X.K C) (hm:Meth X.K C m f) (F:FnOk X.prog X.w X.K X.mg X.base CX k f fd ps sp) (hr:Room k X.A) (hb:qap X.K fd ps ds) (hd:qbi dvs ds) (hx:qfq CX X E) (ha:PA X (e :: es) t)
  (hst:vC (e :: es) X.env=(false,wH e X.env) :: vC es X.env:=by rfl) (hpl:(wR pos (vC es X.env)).any (·.1)=false:=by rfl)
  (ht:wH (.Call (.Attribute o m apos) (e :: es) [] pos) X.env=(do
   let ov<-wH o X.env
   standAt apos.atName
   let (f,first)<-holding [ov] (gM ov m pl)
   callWith pos f first (wR pos (vC (e :: es) X.env)) (eQ pos (cE [] X.env))):=by rfl):
  PE X (.Call (.Attribute o m apos) (e :: es) [] pos) (tMeth C m sp dvs E ta t):=by
 intro pins s σ H Q I h
 refine eG (pl:=pl) (thn (he pins s σ H _ I h) fun u s1 ⟨x,H1,I1,rx,a,dx,fs,ex,ea,l,q⟩=>?_) ht
 subst ex
 obtain rfl:u=uP a:=rx
 refine qef I1 ea c hm l ?_
 refine xS (first:=[.ref a]) (h₀:=X.base) I.ok.mod.kin hm.kp (thn (ha pos pins s1 σ H1 _ I1 q) fun us s2 ⟨vs,H2,I2,r,q2⟩=>⟨I2.kIn,?_⟩) hst hpl
 exact run_fn (us:=.ref a :: us) (vs:=.ref a :: vs) F hr hb hd hx I2 (.cons rfl r) q2
structure Mk (K:uR) (C f:Addr):Prop where
 makes:PySem.W.makesIn K C=true
 init:vV K (.ref C) "__init__" =some (some (.ref f))
 fn:isFn K (.ref f)=true
 kp:dO K (.ref C)=true
theorem run_make {pins:List (Addr × Obj)} {σ:St} {H:Hp} {s:uD} {Q:VK} {us:List uC} {vs:List V} (M:Mk X.K C f) (F:FnOk X.prog X.w X.K X.mg X.base CX k f fd ps sp) (hr:Room (k+1) X.A) (hb:qap X.K fd ps ds) (hd:qbi dvs ds)
  (hx:qfq CX X E) (I:Inv X pins σ H s) (r:qbi vs us)
  (h:∀x dx,H x=none->H dx=none->dx≠x->sp (.ref x ::(vs++dvs)) (upd (upd H dx (.own x)) x (.ins C dx [])) (fun v H2=>v=.non/\Q (.ref x) H2) E):
  uT (uW X.prog X.w) X.A (call (.ref C) us) (EP X pins σ Q) X.xe s:=by
 have hq:=h (s.heap.objs.size+1) s.heap.objs.size (I.hok.fresh (aI _)) (I.hok.fresh (uG _)) (vD (bW _))
 have I2:=Inv.made (C:=C) I
 have r2:qbi (V.ref (s.heap.objs.size+1) ::(vs++dvs)) (uP (s.heap.objs.size+1) ::(us++ds)):=.cons rfl (r.append hd)
 have hl:(uP (s.heap.objs.size+1) :: us++ds).length=ps.length:=by
  have e:=r2.length
  rw [F.len _ _ _ _ hq] at e
  exact e.symm
 refine bX (make_map (f:=f) I.kIn M.makes M.init (beq_iff_eq.mp M.fn) (xQ (F.run _ X.stack _ _ ⟨uP (s.heap.objs.size+1) :: us, []⟩ (uP (s.heap.objs.size+1) ::(us++ds)) _ _ E (hr.make C us [])
  (I2.env0.make C us []) (hb _ (uP (s.heap.objs.size+1) :: us) I2.kIn hl) r2 hq) fun r s' hq'=>?_))
 cases r with
 |error e=>exact hx pins σ _ _ e s' I2 hq'
 |ok fl=>
  cases fl with
  |ret u=>
   obtain⟨v,H',I3,rv,ev,q3⟩:=I2.after hq'
   subst ev
   exact⟨rv,⟨V.ref (s.heap.objs.size+1),H',I3,rfl,q3⟩⟩
  |next=>exact vY hq'
  |brk=>exact vY hq'
  |cont=>exact vY hq'
theorem pe_make (M:Mk X.K C f) (F:FnOk X.prog X.w X.K X.mg X.base CX k f fd ps sp) (hr:Room (k+1) X.A) (hg:Gl X x) (hm:X.mg x=some (.ref C)) (hb:qap X.K fd ps ds) (hd:qbi dvs ds) (hx:qfq CX X E)
  (ha:PA X (e :: es) t) (hdb:(x==("__debug__" :Str))=false:=by decide) (he:vC (e :: es) X.env=(false,wH e X.env) :: vC es X.env:=by rfl) (hpl:(wR pos (vC es X.env)).any (·.1)=false:=by rfl):
  PE X (.Call (.Name x p) (e :: es) [] pos) (tMake C sp dvs E t):=by
 intro pins s σ H Q I h
 refine xR (qdw I hg hm ?_ hdb)
 refine xS (h₀:=X.base) I.ok.mod.kin M.kp (thn (ha pos pins s σ H _ I h) fun us s1 ⟨vs,H1,I1,r,q⟩=>⟨I1.kIn,?_⟩) he hpl
 exact run_make M F hr hb hd hx I1 r q
end
section
variable {fd: uM} {ps ks: List Str}
structure KBinds (K:uR) (fd:uM) (ps ks:List Str) (g:List uC->List uC->List uC) (gV:List V->List V->List V):Prop where
 to:∀(s:uD) (us ws:List uC),K.In s.heap->(g us ws).length=ps.length->fA s fd ⟨us,ks.zip ws⟩ (ps.zip (g us ws))
 rel:∀{vs:List V} {us:List uC} {zs:List V} {ws:List uC},qbi vs us->qbi zs ws->qbi (gV vs zs) (g us ws)
end
structure FnScope (N P:List Str) (sc:cU):Prop where
 kind:sc.kind=.function
 co:sc.isCoroutine=false
 gen:sc.isGenerator=false
 nd:N.Nodup
 pre:N.take P.length=P
 par:∀x∈P,sc.names.lookup x=some .local\/sc.names.lookup x=some .cell
 nofree:∀y∈sc.names,y.2≠ .free
theorem bindL_out {kindOf:Str->Option NameKind} {x:Str}:∀{binds:List (Str × uC)} {m:Str->Option uC},(∀v,(x,v)∉binds)->bindL kindOf binds m x=m x
 | [],_,_=>rfl
 |(n,v) :: r,m,h=>by
  unfold bindL
  rw [bindL_out fun w hw=>h w (zE _ hw)]
  split
  .have:x≠n:=by rintro rfl;exact h v zG
   simp [this]
  .rfl
theorem bindC_out {kindOf:Str->Option NameKind} {x:Str}:∀{binds:List (Str × uC)} {m:Str->Option uC},(∀v,(x,v)∉binds)->bindC kindOf binds m x=m x
 | [],_,_=>rfl
 |(n,v) :: r,m,h=>by
  unfold bindC
  rw [bindC_out fun w hw=>h w (zE _ hw)]
  split
  .rfl
  .have:x≠n:=by rintro rfl;exact h v zG
   simp [this]
theorem bindL_get {kindOf:Str->Option NameKind} {x:Str} {v:uC}:∀{P:List Str} {vs:List uC} {i:Nat} {m:Str->Option uC},P.Nodup->P[i]?=some x->vs[i]?=some v->kindOf x=some .local->
  bindL kindOf (P.zip vs) m x=some v
 | [],_,_,_,_,h,_,_=>by simp at h
 |_ :: _, [],_,_,_,_,h,_=>by simp at h
 |p :: P,w :: vs,0,m,nd,h1,h2,hk=>by
  simp at h1 h2;subst h1;subst h2
  show bindL kindOf ((p,w) :: P.zip vs) m p=_
  unfold bindL
  rw [bindL_out fun v hv=>(yC.mp nd).1 (List.of_mem_zip hv).1,gT hk]
  simp
 |p :: P,w :: vs,i+1,m,nd,h1,h2,hk=>by
  show bindL kindOf ((p,w) :: P.zip vs) m x=_
  unfold bindL
  exact bindL_get (i:=i) (yC.mp nd).2 (by simpa using h1) (by simpa using h2) hk
theorem bindC_get {kindOf:Str->Option NameKind} {x:Str} {v:uC}:∀{P:List Str} {vs:List uC} {i:Nat} {m:Str->Option uC},P.Nodup->P[i]?=some x->vs[i]?=some v->kindOf x≠some .local->
  bindC kindOf (P.zip vs) m x=some v
 | [],_,_,_,_,h,_,_=>by simp at h
 |_ :: _, [],_,_,_,_,h,_=>by simp at h
 |p :: P,w :: vs,0,m,nd,h1,h2,hk=>by
  simp at h1 h2;subst h1;subst h2
  show bindC kindOf ((p,w) :: P.zip vs) m p=_
  unfold bindC
  rw [bindC_out fun v hv=>(yC.mp nd).1 (List.of_mem_zip hv).1,gS hk]
  simp
 |p :: P,w :: vs,i+1,m,nd,h1,h2,hk=>by
  show bindC kindOf ((p,w) :: P.zip vs) m x=_
  unfold bindC
  exact bindC_get (i:=i) (yC.mp nd).2 (by simpa using h1) (by simpa using h2) hk
noncomputable def qem (N:List Str) (vs:List V):St:=vs.map some++bL (N.length - vs.length) none
noncomputable def cxOf (CX:CXT) (P:vB) (w:vL) (K:uR) (mg:Str->Option uC) (base:vR) (N:List Str) (qual:Str) (scope:cU) (f:Addr) (cd:uC) (A:vO) (outer:List Env) (s:uD) (H:Hp) (E:XK):Cx where
 prog:=P
 w:=w
 K:=K
 mg:=mg
 base:=base
 A:=A.deeper (dQ qual scope s.heap.objs.size f cd)
 N:=N
 s₀:=s
 H₀:=H
 env:=dQ qual scope s.heap.objs.size f cd
 outer:=outer
 stack:=dQ qual scope s.heap.objs.size f cd :: outer
 ex:=[]
 calm:=true
 fn:=fun _=>true
 pn:=[]
 xe:=fun e s'=>uT (uW P w) (A.deeper (dQ qual scope s.heap.objs.size f cd)) (leaving (dQ qual scope s.heap.objs.size f cd) e) (fun _ s''=>CX outer H s E e s'') (fun e' s''=>CX outer H s E e' s'') s'
theorem cell_has {sc:cU} {n:Nat} {x:Str} (h:sc.names.lookup x=some .cell):∃c,(cellsFrom n sc.names []).lookup x=some c:=by
 have q:=PySem.W.cellsFrom_some sc.names n [] (.inl h)
 exact dG.mp q
theorem inv_start {CX:CXT} {P:vB} {w:vL} {K:uR} {mg:Str->Option uC} {base:vR} {N ps:List Str} {qual:Str} {scope:cU} {f:Addr} {cd:uC} {A:vO} {outer:List Env} {s s1:uD} {H:Hp} {E:XK} {us:List uC} {vs:List V}
  (S:FnScope N ps scope) (hd:A.handled=none) (e0:Env0 P w K mg base A outer s H) (hl:vs.length=ps.length) (r:qbi vs us)
  (x:InCallC s s.heap.objs.size (bindL (dQ qual scope s.heap.objs.size f cd).kindOf (ps.zip us) fun _=>none) (cellsFrom (s.heap.objs.size+1) scope.names []) (bindC (dQ qual scope s.heap.objs.size f cd).kindOf (ps.zip us) fun _=>none) s1):
  Inv (cxOf CX P w K mg base N qual scope f cd A outer s H E) [] (qem N vs) H s1:=by
 have hpl:ps.length<=N.length:=by have:=congrArg wP S.pre;rw [zW] at this;omega
 obtain⟨h1,tk,rfl,hk⟩:=x.done
 have noA:∀b:Addr,b∉(cxOf CX P w K mg base N qual scope f cd A outer s H E).ex:=fun b z=>absurd (show b∈([]:List Addr) from z) (by simp)
 refine⟨⟨e0.mod,S.kind,rfl,rfl,uG _,fun y z c h1 h2=>?_,fun y hy=>?_,fun y c _ h=>?_,fun _=>hd,Around.frames_deeper e0.frames,.inr ⟨rfl,rfl⟩,fun b z=>absurd z (noA b),e0.bs,e0.bsz,fun b _ _=>noA b,fun b z=>absurd z (noA b),e0.funs,e0.frf⟩,
  rfl,e0.bare,Un.kept hk,⟨_,x.toInCall.ns,fun i y v h1 h2 h3=>?_⟩,fun y c h=>⟨_,x.cell y c h⟩,e0.hok.fresh (uG _),fun y c h=>?_,fun p hp=>absurd (show p∈([]:List (Addr × Obj)) from hp) (by simp),e0.hok.kept hk,?_⟩
 .exact name_of_addr x.apart (aU h1) (aU h2)
 .have hy:scope.names.lookup y=some .cell\/scope.names.lookup y=some .free:=hy
  rcases hy with hy|hy
  .exact cell_has hy
  .exact absurd rfl (S.nofree _ (aU hy))
 .exact fU (x.above y c (aU h))
 .have hi:i < vs.length:=by
   unfold qem at h2
   by_cases hi:i < vs.length
   .exact hi
   .rw [yD (by simpa using hi)] at h2
    rw [List.getElem?_replicate] at h2
    split at h2 <;> cases h2
  have ha:vs[i]?=some v:=by
   unfold qem at h2
   rw [yE (by simpa using hi),zC] at h2
   cases e:vs[i]? with
   |none=>rw [e] at h2;cases h2
   |some a=>rw [e] at h2;cases h2;rfl
  obtain⟨u,hu,rv⟩:=r.get ha
  have hp:ps[i]?=some y:=by
   rw [<-S.pre,List.getElem?_take_of_lt (by omega)];exact h1
  have ndP:ps.Nodup:=by rw [<-S.pre];exact S.nd.sublist (List.take_sublist _ _)
  refine⟨u,rv,?_⟩
  rcases S.par y (zF hp) with k|k
  .exact .inl ⟨k,bindL_get ndP hp hu k⟩
  .obtain⟨c,e⟩:=cell_has (n:=s.heap.objs.size+1) k
   refine .inr ⟨.inl k,c,e,?_⟩
   have q:=x.cell y c e
   rw [bindC_get ndP hp hu (by show scope.names.lookup y≠_;rw [k];decide)] at q
   exact q
 .exact e0.hok.fresh (fU (x.above y c (aU h)))
 .unfold qem
  show _=N.length
  rw [zK,zB,List.length_replicate]
  omega
theorem fn_of {CX:CXT} {P:vB} {w:vL} {K:uR} {mg:Str->Option uC} {base:vR} {k:Nat} {f:Addr} {name qual:Str} {params:Arguments} {body:List Stmt} {scope:cU} {dV kV doc pm cdv ct oc:uC} {an od:Option Addr}
  {osl:Array (Option uC)} {N ps:List Str} {sp:Sp} (lk:K.lookup f=some ⟨oc,od,.func (fnOf name qual params body scope dV kV doc pm an cdv ct),osl⟩) (hcd:gK K cdv qual=true) (S:FnScope N ps scope)
  (len:∀vs H Q E,sp vs H Q E->vs.length=ps.length)
  (hbody:∀(A:vO) (outer:List Env) (s:uD) (H:Hp) (vs:List V) (Q:VK) (E:XK),Room k (A.deeper (dQ qual scope s.heap.objs.size f cdv))->sp vs H Q E->
   ∃t,PSs (cxOf CX P w K mg base N qual scope f cdv A outer s H E) body t/\t {nx:=fun _ H'=>Q .non H',rt:=Q} (qem N vs) H):
  FnOk P w K mg base CX (k+1) f (fnOf name qual params body scope dV kV doc pm an cdv ct) ps sp:=by
 refine⟨len,fun A outer s H args us vs Q E hr e0 hb r hsp=>?_⟩
 have hl:=len _ _ _ _ hsp
 have KX:K.In s.heap:=e0.mod.kin.keeps fun b o e=>(e0.bs b o e).1
 have lim:s.heap.NoLimit:=e0.mod.nolimit.keeps fun b o e=>(e0.bs b o e).1
 have hkind:∀y∈ps.zip us,scope.names.lookup y.1=some .local\/(scope.names.lookup y.1=some .cell/\((cellsFrom (s.heap.objs.size+1) scope.names []).lookup y.1).isSome=true):=fun⟨n,v⟩ hy=>by
  rcases S.par n (List.of_mem_zip hy).1 with q|q
  .exact .inl q
  .exact .inr ⟨q,PySem.W.cellsFrom_some _ _ _ (.inl q)⟩
 refine codeAny_call_function hr.depth (KX _ _ lk) rfl S.co S.gen rfl (PySem.W.codeRec_of KX hcd) (hb _ _ _ _ ?_)
 refine wpAny_newFunctionEnv_cells S.kind hkind fun env he s1 x=>?_
 subst he
 refine⟨lim.keeps x.toInCall.keep,codeAny_func ?_⟩
 obtain⟨t,ht,hq⟩:=hbody A outer s H vs Q E (hr.deeper _) hsp
 have I:Inv (cxOf CX P w K mg base N qual scope f cdv A outer s H E) [] (qem N vs) H s1:=inv_start S hr.hd e0 hl r x
 refine vK (ht [] s1 (qem N vs) H _ I hq) (fun fl s' hs=>?_) fun e s' hs=>hs
 have fin:∀{σ':St} {H':Hp} {v:V} {u:uC},Inv (cxOf CX P w K mg base N qual scope f cdv A outer s H E) [] σ' H' s'->qbf v u->Q v H'->CE outer P w H s Q u s':=
  fun {σ' H' v u} J rv q=>⟨v,H',J.os,J.bare,J.base,J.hok,rv,q⟩
 cases fl with
 |ret u=>
  obtain⟨v,σ',H',J,rv,q⟩:=hs
  exact fin J rv q
 |next=>
  obtain⟨σ',H',J,q⟩:=hs
  exact fin (v:=V.non) (u:=vW) J rfl q
 |brk=>
  obtain⟨_,_,_,q⟩:=hs
  exact vY q
 |cont=>
  obtain⟨_,_,_,q⟩:=hs
  exact vY q
section
variable {X: Cx} {x: Str} {p pos: Pos} {e: vU} {es: List vU} {t: TA} {id T: String} {r: List V -> Hp -> VK -> Prop}
noncomputable def tCB (r:List V->Hp->VK->Prop) (t:TA):TE:=fun σ H Q=>t σ H fun vs H1=>r vs H1 Q
theorem qaf (hc:qc9 X (.builtin id) r) (hg:Gl X x) (hm:X.mg x=none) (hv:aQ x=some (.builtin id)) (ha:PA X (e :: es) t) (hn:x≠"__name__":=by decide) (hdb:(x==("__debug__" :Str))=false:=by decide)
  (he:vC (e :: es) X.env=(false,wH e X.env) :: vC es X.env:=by rfl) (hpl:(wR pos (vC es X.env)).any (·.1)=false:=by rfl):PE X (.Call (.Name x p) (e :: es) [] pos) (tCB r t):=by
 intro pins s σ H Q I h
 refine xR (qf5 I hg hm hv ?_ hn hdb)
 exact PyProof.Rows.callWith_builtin1 (thn (ha pos pins s σ H _ I h) fun us s1 ⟨vs,H1,I1,r1,q1⟩=>hc pins s1 σ H1 vs us Q I1 r1 q1) he hpl
theorem qbq (hc:qc9 X (.type T) r) (hg:Gl X x) (hm:X.mg x=none) (hv:aQ x=some (.type T)) (ha:PA X (e :: es) t) (hn:x≠"__name__":=by decide) (hdb:(x==("__debug__" :Str))=false:=by decide)
  (he:vC (e :: es) X.env=(false,wH e X.env) :: vC es X.env:=by rfl) (hpl:(wR pos (vC es X.env)).any (·.1)=false:=by rfl):PE X (.Call (.Name x p) (e :: es) [] pos) (tCB r t):=by
 intro pins s σ H Q I h
 refine xR (qf5 I hg hm hv ?_ hn hdb)
 exact wS (thn (ha pos pins s σ H _ I h) fun us s1 ⟨vs,H1,I1,r1,q1⟩=>hc pins s1 σ H1 vs us Q I1 r1 q1) he hpl
end
end L2
namespace HT
open PySem PyProof.Rows
section
noncomputable def sIx (n d:Nat):Option Int->Nat
 |none=>d
 |some v=>if v < 0 then (v+(n:Int)).toNat else min v.toNat n
theorem sIx_none (n d:Nat):sIx n d none=d:=rfl
theorem sIx_nat (n d k:Nat):sIx n d (some (k:Int))=min k n:=by
 show (if (k:Int) < 0 then ((k:Int)+(n:Int)).toNat else min (k:Int).toNat n)=min k n
 rw [gS (by omega),xE]
end
end HT
namespace L2
open PySem PySem.Spec PyProof.Rows
abbrev TO:=St->Hp->(Option Int->Hp->Prop)->Prop
noncomputable def PO (X:Cx) (e:Option vU) (t:TO):Prop:=
 ∀(pins:List (Addr × Obj)) (s:uD) (σ:St) (H:Hp) (Q:Option Int->Hp->Prop),Inv X pins σ H s->t σ H Q->
  uT (uW X.prog X.w) X.A (evalPart e X.env) (fun u s'=>∃o H',Inv X pins σ H' s'/\IsPart u o/\Q o H') X.xe s
noncomputable def tNoPart:TO:=fun _ H Q=>Q none H
noncomputable def tPart (t:TE):TO:=fun σ H Q=>t σ H fun x H1=>∃i,x=.int i/\Q (some i) H1
section
variable {X: Cx} {e: vU} {te: TE} {lo hi: Option vU} {tl th: TO} {pos p2: Pos}
theorem po_none:PO X none tNoPart:=by
 intro pins s σ H Q I h
 rw [evalPart_none]
 exact uI ⟨none,H,I,.none,h⟩
theorem po_some (h:PE X e te):PO X (some e) (tPart te):=by
 intro pins s σ H Q I hw
 rw [evalPart_some]
 refine thn (h pins s σ H _ I hw) fun u s1 ⟨x,H1,I1,r1,q1⟩=>?_
 obtain⟨i,rfl,q⟩:=q1
 obtain⟨t,rfl⟩:=r1
 exact⟨some i,H1,I1,.int i t,q⟩
noncomputable def SlR (X:Cx) (r:V->Option Int->Option Int->Hp->VK->Prop):Prop:=
 ∀(pins:List (Addr × Obj)) (s:uD) (σ:St) (H:Hp) (x:V) (v vl vu:uC) (lo hi:Option Int) (sl:Addr) (Q:VK),Inv X pins σ H s->qbf x v->s.heap.IsSliceOf sl vl vu .none->IsPart vl lo->IsPart vu hi->r x lo hi H Q->
  ∃T id,typeLookup (.type T) "__getitem__" =pure (some (.builtin id))/\s.TypeIs v T/\uT (uW X.prog X.w) X.A (getItem v (.ref sl)) (EP X pins σ Q) X.xe s
noncomputable def tSl (r:V->Option Int->Option Int->Hp->VK->Prop) (te:TE) (tl th:TO):TE:=fun σ H Q=>te σ H fun x H1=>tl σ H1 fun l H2=>th σ H2 fun u H3=>r x l u H3 Q
theorem pe_slice {r:V->Option Int->Option Int->Hp->VK->Prop} (hr:SlR X r) (he:PE X e te) (hl:PO X lo tl) (hu:PO X hi th):PE X (.Subscript e (.Slice lo hi none p2) pos) (tSl r te tl th):=by
 intro pins s σ H Q I h
 refine Subscript_ (thn (he pins s σ H _ I h) fun v s1 ⟨x,H1,I1,r1,q1⟩=>?_)
 refine wpAny_Slice (thn (hl pins s1 σ H1 _ I1 q1) fun vl s2 ⟨l,H2,I2,pl,q2⟩=>thn (hu pins s2 σ H2 _ I2 q2) fun vu s3 ⟨u,H3,I3,pu,q3⟩=>?_)
 rw [evalPart_none]
 refine uI ?_
 have I4:Inv X pins σ H3 {s3 with heap:=s3.heap.push {cls:=.type "slice",data:=.fields #[vl,vu,.none]}}:=I3.kept (t':=s3.toks) fun b ob q=>uF _ q
 obtain⟨T,id,hT,ht,hg⟩:=hr pins {s3 with heap:=s3.heap.push {cls:=.type "slice",data:=.fields #[vl,vu,.none]}} σ H3 x v vl vu l u s3.heap.objs.size Q I4 r1 (Heap.IsSliceOf.new ..) pl pu q3
 show uT (uW X.prog X.w) X.A (subscriptTail e (.Slice lo hi none p2) v (.ref s3.heap.objs.size)) (EP X pins σ Q) X.xe {s3 with heap:=s3.heap.push {cls:=.type "slice",data:=.fields #[vl,vu,.none]}}
 exact tail_any (ops:=[.ref s3.heap.objs.size,v]) ht hT hg (by with_unfolding_all rfl)
noncomputable def cutV (xs:List V) (lo hi:Option Int):List V:=(xs.drop (HT.sIx xs.length 0 lo)).take (HT.sIx xs.length xs.length hi - HT.sIx xs.length 0 lo)
theorem cutV_length (xs:List V) (lo hi:Option Int):(cutV xs lo hi).length<=xs.length:=by
 unfold cutV
 rw [zW,List.length_drop]
 omega
end
noncomputable def ixN (n:Nat) (i:Int):Option Nat:=if 0<=i then (if i < n then some i.toNat else none) else if -(n:Int)<=i then some (i+n).toNat else none
noncomputable def atI {α:Type} (xs:List α) (i:Int):Option α:=(ixN xs.length i).bind fun j=>xs[j]?
theorem ixN_seq {n:Nat} {i:Int} {j:Nat} (h:ixN n i=some j):seqIndex? i n=some j/\j < n/\-(n:Int)<=i/\i < n:=by
 unfold ixN at h
 by_cases h0:0<=i
 .rw [gT h0] at h
  by_cases h1:i < n
  .rw [gT h1] at h
   have e:i.toNat=j:=uX h
   exact⟨by rw [seqIndex_of h0 h1,e],by omega,by omega,h1⟩
  .rw [gS h1] at h;cases h
 .rw [gS h0] at h
  by_cases h1: -(n:Int)<=i
  .rw [gT h1] at h
   have e:(i+n).toNat=j:=uX h
   exact⟨by rw [seqIndex_neg (by omega) h1,e],by omega,h1,by omega⟩
  .rw [gS h1] at h;cases h
theorem atI_get {α:Type} {xs:List α} {i:Int} {v:α} (h:atI xs i=some v):∃j,seqIndex? i xs.length=some j/\xs[j]?=some v/\j < xs.length/\-(xs.length:Int)<=i/\i < xs.length:=by
 unfold atI at h
 cases e:ixN xs.length i with
 |none=>rw [e] at h;cases h
 |some j=>
  rw [e] at h
  obtain⟨h1,h2,h3,h4⟩:=ixN_seq e
  exact⟨j,h1,h,h2,h3,h4⟩
theorem qax {α:Type} {xs:List α} {j:Nat} {v:α} (h:xs[j]?=some v):atI xs (j:Int)=some v:=by
 have hj:j < xs.length:=(uH.mp h).1
 have e:ixN xs.length (j:Int)=some j:=by
  unfold ixN
  rw [gT (by omega),gT (by omega)];simp
 unfold atI;rw [e];exact h
noncomputable def PlainIx (b:vU):Prop:=∀o i,subscripted b false o i=operate [o,i] (getItem o i)
noncomputable def IxR (X:Cx) (r:R2):Prop:=
 ∀(value slice:vU) (pins:List (Addr × Obj)) (s:uD) (σ:St) (H:Hp) (x y:V) (v u:uC) (Q:VK),Inv X pins σ H s->qbf x v->qbf y u->r x y H Q->
  subscripted slice false v u=operate [v,u] (getItem v u)->uT (uW X.prog X.w) X.A (subscriptTail value slice v u) (EP X pins σ Q) X.xe s
noncomputable def MtR (X:Cx) (id:String) (r:V->List V->Hp->VK->Prop):Prop:=
 ∀(pins:List (Addr × Obj)) (s:uD) (σ:St) (H:Hp) (x:V) (xs:List V) (v:uC) (us:List uC) (Q:VK),Inv X pins σ H s->qbf x v->qbi xs us->r x xs H Q->
  uT (uW X.prog X.w) X.A (call (.builtin id) (v :: us)) (EP X pins σ Q) X.xe s
section
variable {X: Cx} {a b: vU} {ta tb: TE} {pos: Pos}
theorem qaj {r:R2} (hr:IxR X r) (ha:PE X a ta) (hb:PE X b tb) (hs:PlainIx b):PE X (.Subscript a b pos) (tOp r ta tb):=by
 intro pins s σ H Q I h
 exact Subscript_ (binT ha hb I h fun v u s2 x y H2 I2 rx ry q=>hr a b pins s2 σ H2 x y v u Q I2 rx ry q (hs _ _))
noncomputable def rIxL (K:uR):R2:=fun x y H Q=>∃p xs i v,x=.ref p/\y=.int i/\SqL K H p xs/\atI xs i=some v/\Q v H
noncomputable def rIxT (K:uR):R2:=fun x y H Q=>∃p xs i v,x=.ref p/\y=.int i/\SqT K H p xs/\atI xs i=some v/\Q v H
noncomputable def rIxS:R2:=fun x y H Q=>∃z i c,x=.str z/\y=.int i/\z.length<=sizeLine/\atI z.cps.toList i=some c/\Q (.str ⟨#[c]⟩) H
theorem qal:IxR X (rIxL X.K):=by
 intro value slice pins s σ H x y v u Q I rx ry h hs
 obtain⟨p,xs,i,z,rfl,rfl,hq,he,q⟩:=h
 cases rx
 obtain⟨t,rfl⟩:=ry
 obtain⟨its,r,pl,hz⟩:=I.list hq
 obtain⟨j,h1,h2,h3,h4,h5⟩:=atI_get he
 obtain⟨w,ew,rw'⟩:=r.get h2
 have hl:=r.length
 have hn:=line63
 have fin:EP X pins σ Q w s:=⟨z,H,I,rw',q⟩
 by_cases h0:0<=i
 .have hj:i.toNat=j:=by
   rw [seqIndex_of h0 h5] at h1
   exact uX h1
  exact item_listR pl.isList h0 (by omega) (by rw [hj];simpa using ew) fin hs
 .have hj:(i+(its.toArray.size:Int)).toNat=j:=by
   rw [seqIndex_neg (by omega) h4] at h1
   rw [zU,<-hl]
   exact uX h1
  exact subscriptTail_builtinR (x:=w) pl.isList.typeIs slot_list_getitem.lookup
   (wpAny_getItem_list_neg (Q:=fun r s'=>r=w/\EP X pins σ Q r s') pl.isList (by omega) (by rw [zU] <;> omega) (by omega) (by rw [hj];simpa using ew) ⟨rfl,fin⟩) hs
theorem qan:IxR X (rIxT X.K):=by
 intro value slice pins s σ H x y v u Q I rx ry h hs
 obtain⟨p,xs,i,z,rfl,rfl,hq,he,q⟩:=h
 cases rx
 obtain⟨t,rfl⟩:=ry
 obtain⟨its,r,pl,hz⟩:=I.tuple hq
 obtain⟨j,h1,h2,h3,h4,h5⟩:=atI_get he
 obtain⟨w,ew,rw'⟩:=r.get h2
 have hl:=r.length
 have hn:=line63
 have fin:EP X pins σ Q w s:=⟨z,H,I,rw',q⟩
 exact subscriptTail_builtinR (x:=w) pl.typeIs slot_tuple_getitem.lookup
  (getItem_tuple (j:=j) (Q:=fun r s'=>r=w/\EP X pins σ Q r s') pl (by omega) (by omega) (by rw [zU,<-hl];exact h1) (by simpa using ew) ⟨rfl,fin⟩) hs
theorem ix_str:IxR X rIxS:=by
 intro value slice pins s σ H x y v u Q I rx ry h hs
 obtain⟨z,i,c,rfl,rfl,hz,he,q⟩:=h
 obtain⟨t,rfl⟩:=rx
 obtain⟨t',rfl⟩:=ry
 obtain⟨j,h1,h2,h3,h4,h5⟩:=atI_get he
 have hl:z.cps.toList.length=z.length:=by simp [Str.length]
 rw [hl] at h1 h4 h5
 have hn:=line63
 exact tail_any (typeIs_str s z t) slot_str_getitem.lookup (getItem_str (c:=c) (by
  have e1:decide (i < -(2^63:Int))=false:=gW (by omega)
  have e2:decide (i≥2^63)=false:=gW (by omega)
  rw [e1,e2,Bool.or_false]) (by rw [h1];simpa using h2) ⟨.str ⟨#[c]⟩,H,I.tok _,⟨_,rfl⟩,q⟩) hs
theorem slice_bounds (lo hi:Option Int) (n:Nat):(cF lo hi none n).1=((HT.sIx n 0 lo:Nat):Int)/\(cF lo hi none n).2.1=((HT.sIx n n hi:Nat):Int)/\(cF lo hi none n).2.2=1:=by
 refine⟨?_,?_,rfl⟩
 .cases lo with
  |none=>simp [cF,HT.sIx]
  |some i=>
   simp only [cF,HT.sIx,Option.getD_none,show (1:Int) > 0 by decide,if_true]
   by_cases h:i < 0
   .simp only [h,if_true] <;> omega
   .simp only [h,if_false] <;> omega
 .cases hi with
  |none=>simp [cF,HT.sIx]
  |some i=>
   simp only [cF,HT.sIx,Option.getD_none,show (1:Int) > 0 by decide,if_true]
   by_cases h:i < 0
   .simp only [h,if_true] <;> omega
   .simp only [h,if_false] <;> omega
theorem qfy (its:List uC) (lo hi:Option Int):slicePick its.toArray lo hi none=((its.drop (HT.sIx its.length 0 lo)).take (HT.sIx its.length its.length hi - HT.sIx its.length 0 lo)).toArray:=by
 obtain⟨h1,h2,h3⟩:=slice_bounds lo hi its.toArray.size
 unfold slicePick
 rw [h1,h2,h3]
 simp only [sliceRange_one,pick_run,zU] <;> rfl
noncomputable def rSlL (K:uR):V->Option Int->Option Int->Hp->VK->Prop:=fun x lo hi H Q=>∃a xs,x=.ref a/\SqL K H a xs/\∀p,H p=none->Q (.ref p) (upd H p (.lst (cutV xs lo hi)))
theorem sl_list:SlR X (rSlL X.K):=by
 intro pins s σ H x v vl vu lo hi sl Q I rx hs pl pu h
 obtain⟨a,xs,rfl,hx,q⟩:=h
 cases rx
 obtain⟨its,r,ht,hz⟩:=I.list hx
 have hlen:=r.length
 refine⟨"list",_,slot_list_getitem.lookup,ht.isList.typeIs,?_⟩
 refine wpAny_getItem_list_slice ht.isList hs pl pu .none (by simp) ?_ (by rw [zU] <;> omega)
 rw [qfy,<-hlen]
 refine⟨.ref s.heap.objs.size,_,I.laid (t':=s.toks) (o:=.lst (cutV xs lo hi)) (fun b ob q=>uF _ q) (uG _) ?_,rfl,q _ (I.hok.fresh (uG _))⟩
 exact⟨vP (cutV_length xs lo hi) hz,_,0,(r.drop (HT.sIx xs.length 0 lo)).take (HT.sIx xs.length xs.length hi - HT.sIx xs.length 0 lo),uQ _ rfl⟩
noncomputable def qdl:V->Bool
 | .non=>true
 | .bl _=>true
 | .int _=>true
 | .str _=>true
 |_=>false
noncomputable def eqV:V->V->Bool
 | .non,.non=>true
 | .bl a,.bl b=>a==b
 | .bl a,.int b=>(if a then 1 else 0)==b
 | .int a,.bl b=>a==(if b then 1 else 0)
 | .int a,.int b=>a==b
 | .str a,.str b=>a==b
 |_,_=>false
theorem eqAt_V {A:vO} {s:uD} {y x:V} {u v:uC} (ry:qbf y u) (rx:qbf x v) (fy:qdl y=true) (fx:qdl x=true):SeqAt.EqAt A s u v (eqV y x):=by
 cases y with
 |non=>
  cases ry
  cases x with
  |non=>cases rx;exact SeqAt.EqAt.same _
  |bl b=>cases rx;exact SeqAt.EqAt.none_bool b
  |int b=>obtain⟨t,rfl⟩:=rx;exact SeqAt.EqAt.none_int b t
  |str b=>obtain⟨t,rfl⟩:=rx;exact SeqAt.EqAt.none_str b t
  |_=>exact absurd (show false=true from fx) uE
 |bl a=>
  cases ry
  cases x with
  |non=>cases rx;exact SeqAt.EqAt.bool_none a
  |bl b=>cases rx;exact SeqAt.EqAt.bool_bool a b
  |int b=>obtain⟨t,rfl⟩:=rx;exact SeqAt.EqAt.bool_int a b t
  |str b=>obtain⟨t,rfl⟩:=rx;exact SeqAt.EqAt.bool_str a b t
  |_=>exact absurd (show false=true from fx) uE
 |int a=>
  obtain⟨t',rfl⟩:=ry
  cases x with
  |non=>cases rx;exact SeqAt.EqAt.int_none a t'
  |bl b=>cases rx;exact SeqAt.EqAt.int_bool a t' b
  |int b=>obtain⟨t,rfl⟩:=rx;exact SeqAt.EqAt.int_int a t' b t
  |str b=>obtain⟨t,rfl⟩:=rx;exact SeqAt.EqAt.int_str a t' b t
  |_=>exact absurd (show false=true from fx) uE
 |str a=>
  obtain⟨t',rfl⟩:=ry
  cases x with
  |non=>cases rx;exact SeqAt.EqAt.str_none a t'
  |bl b=>cases rx;exact SeqAt.EqAt.str_bool a t' b
  |int b=>obtain⟨t,rfl⟩:=rx;exact SeqAt.EqAt.str_int a t' b t
  |str b=>obtain⟨t,rfl⟩:=rx;exact SeqAt.EqAt.str_str a t' b t
  |_=>exact absurd (show false=true from fx) uE
 |_=>exact absurd (show false=true from fy) uE
noncomputable def eqU (x:V) (u:uC):Bool:=match u with
 | .none=>eqV .non x
 | .bool b=>eqV (.bl b) x
 | .int i _=>eqV (.int i) x
 | .str z _=>eqV (.str z) x
 |_=>false
theorem eqU_of {x y:V} {u:uC} (r:qbf y u) (f:qdl y=true):eqU x u=eqV y x:=by
 cases y with
 |non=>cases r;rfl
 |bl b=>cases r;rfl
 |int i=>obtain⟨t,rfl⟩:=r;rfl
 |str z=>obtain⟨t,rfl⟩:=r;rfl
 |_=>exact absurd (show false=true from f) uE
theorem qfa {x:V}:∀{xs:List V} {us:List uC},qbi xs us->xs.all qdl=true->us.any (eqU x)=xs.any fun y=>eqV y x
 |_,_,.nil,_=>rfl
 |y :: xs,u :: us,.cons r t,f=>by
  rw [xD,vS] at f
  rw [xC,xC,eqU_of r f.1,qfa t f.2]
theorem qe5 {A:vO} {s:uD} {x:V} {v:uC} (rx:qbf x v) (fx:qdl x=true):∀{xs:List V} {us:List uC},qbi xs us->xs.all qdl=true->∀u∈us,SeqAt.EqAt A s u v (eqU x u)
 |_,_,.nil,_=>fun u hu=>by cases hu
 |y :: xs,u :: us,.cons r t,f=>fun u' hu=>by
  rw [xD,vS] at f
  rcases zR.mp hu with rfl|hu
  .rw [eqU_of r f.1];exact eqAt_V r rx f.1 fx
  .exact qe5 rx fx t f.2 u' hu
noncomputable def inV (x:V) (xs:List V):Bool:=xs.any fun y=>eqV y x
noncomputable def rIn (K:uR) (neg:Bool):R2:=fun x y H Q=>∃p xs,y=.ref p/\(SqL K H p xs\/SqT K H p xs)/\qdl x=true/\xs.all qdl=true/\Q (.bl (if neg then !inV x xs else inV x xs)) H
theorem qbv:OpR X (wB .In) (rIn X.K false):=by
 intro pins s σ H x y v u Q I rx ry h
 obtain⟨p,xs,rfl,hq,fx,fs,q⟩:=h
 cases ry
 rcases hq with hq|hq
 .obtain⟨its,r,pl,hz⟩:=I.list hq
  refine SeqAt.in_listAt (eqU x) pl.isList (fun w hw=>qe5 rx fx r fs w (by simpa using hw)) ⟨.bl _,H,I,rfl,?_⟩
  rw [show its.toArray.any (eqU x)=its.any (eqU x) by simp,qfa r fs]
  exact q
 .obtain⟨its,r,pl,hz⟩:=I.tuple hq
  refine SeqAt.in_tupleAt (eqU x) pl (fun w hw=>qe5 rx fx r fs w (by simpa using hw)) ⟨.bl _,H,I,rfl,?_⟩
  rw [show its.toArray.any (eqU x)=its.any (eqU x) by simp,qfa r fs]
  exact q
theorem qbl:OpR X (wB .NotIn) (rIn X.K true):=by
 intro pins s σ H x y v u Q I rx ry h
 obtain⟨p,xs,rfl,hq,fx,fs,q⟩:=h
 cases ry
 rcases hq with hq|hq
 .obtain⟨its,r,pl,hz⟩:=I.list hq
  refine SeqAt.notIn_listAt (eqU x) pl.isList (fun w hw=>qe5 rx fx r fs w (by simpa using hw)) ⟨.bl _,H,I,rfl,?_⟩
  rw [show its.toArray.any (eqU x)=its.any (eqU x) by simp,qfa r fs]
  exact q
 .obtain⟨its,r,pl,hz⟩:=I.tuple hq
  refine SeqAt.notIn_tupleAt (eqU x) pl (fun w hw=>qe5 rx fx r fs w (by simpa using hw)) ⟨.bl _,H,I,rfl,?_⟩
  rw [show its.toArray.any (eqU x)=its.any (eqU x) by simp,qfa r fs]
  exact q
theorem call_len_seq:qc9 X (.builtin "len") (fun xs H Q=>∃p ys,xs=[.ref p]/\(SqL X.K H p ys\/SqT X.K H p ys)/\Q (.int ys.length) H):=by
 intro pins s σ H xs us Q I r h
 obtain⟨p,ys,rfl,hq,q⟩:=h
 obtain⟨u,rfl,rx⟩:=vals1 r
 cases rx
 have hn:=line63
 rcases hq with hq|hq
 .obtain⟨its,r',pl,hz⟩:=I.list hq
  have hlen:=r'.length
  exact Calls.call_len_list pl.isList (by simp only [zU] <;> omega) ⟨.int ys.length,H,I.tok _,⟨s.toks+1,by rw [zU,hlen]⟩,q⟩
 .obtain⟨its,r',pl,hz⟩:=I.tuple hq
  have hlen:=r'.length
  exact len_tuple pl (by simp only [zU] <;> omega) ⟨.int ys.length,H,I.tok _,⟨s.toks+1,by rw [zU,hlen]⟩,q⟩
theorem call_len_str:qc9 X (.builtin "len") (fun xs H Q=>∃z,xs=[.str z]/\z.length<=sizeLine/\Q (.int z.length) H):=by
 intro pins s σ H xs us Q I r h
 obtain⟨z,rfl,hz,q⟩:=h
 obtain⟨u,rfl,t,rfl⟩:=vals1 r
 have hn:=line63
 exact len_str (by omega) ⟨.int z.length,H,I.tok _,⟨_,rfl⟩,q⟩
theorem call_list_of:qc9 X (.type "list") (fun xs H Q=>∃p ys,xs=[.ref p]/\(SqL X.K H p ys\/SqT X.K H p ys)/\∀l,H l=none->Q (.ref l) (upd H l (.lst ys))):=by
 intro pins s σ H xs us Q I r h
 obtain⟨p,ys,rfl,hq,q⟩:=h
 obtain⟨u,rfl,rx⟩:=vals1 r
 cases rx
 have fin:∀(its:List uC),qbi ys its->ys.length<=sizeLine->∀(h':vR) (c':Nat),(∀b o',s.heap.get? b=some o'->h'.get? b=some o')->
   h'.get? s.heap.objs.size=some {cls:=.type "list",dict:=none,data:=.seq its.toArray c',slots:=#[]}->EP X pins σ Q (.ref s.heap.objs.size) {s with heap:=h'}:=fun its r' hz h' c' kp e=>
  ⟨.ref s.heap.objs.size,_,I.laid (t':=s.toks) kp (uG _) (show qbo X.prog X.w _ h' _ (.lst ys) from⟨hz,its,c',r',e⟩),rfl,q _ (I.hok.fresh (uG _))⟩
 rcases hq with hq|hq
 .obtain⟨its,r',pl,hz⟩:=I.list hq
  have hlen:=r'.length
  obtain⟨o,ho,hc,n,hd⟩:=pl.isList
  exact call_list_seq p (.inl rfl) ho hc hd (fun h' c' kp e=>fin its r' hz h' c' kp e) (by simp only [zU] <;> omega)
 .obtain⟨its,r',pl,hz⟩:=I.tuple hq
  have hlen:=r'.length
  obtain⟨o,ho,hc,n,hd⟩:=pl
  exact call_list_seq p (.inr rfl) ho hc hd (fun h' c' kp e=>fin its r' hz h' c' kp e) (by simp only [zU] <;> omega)
noncomputable def tyV (K:uR) (T:String) (x:V) (H:Hp):Prop:=match x with
 | .str _=>T= "str"
 | .int _=>T= "int"
 | .ref p=>(T= "list"/\∃xs,SqL K H p xs)\/(T= "tuple"/\∃o,K.lookup p=some o/\o.cls=.type "tuple"/\o.dict=none)\/
   (T= "dict"/\((∃kvs,H p=some (.dK kvs))\/∃kvs,H p=some (.dT kvs)))\/(T= "set"/\∃S n,H p=some (.set S n))
 |_=>False
theorem tyV_is {pins:List (Addr × Obj)} {σ:St} {H:Hp} {s:uD} {T:String} {x:V} {v:uC} (I:Inv X pins σ H s) (r:qbf x v) (ty:tyV X.K T x H):
  s.TypeIs v T/\∀a,v=.ref a->∃ob,s.heap.get? a=some ob/\ob.dict=none:=by
 cases x with
 |str z=>
  obtain⟨t,rfl⟩:=r
  cases (show T= "str" from ty)
  exact⟨typeIs_str s z t,fun _ e=>nomatch e⟩
 |int i=>
  obtain⟨t,rfl⟩:=r
  cases (show T= "int" from ty)
  exact⟨typeIs_int s i t,fun _ e=>nomatch e⟩
 |ref p=>
  cases r
  rcases ty with ⟨rfl,xs,hq⟩ |⟨rfl,o,hk,hc,hd⟩ |⟨rfl,hk⟩ |⟨rfl,S,n,hk⟩
  .obtain⟨its,_,pl,_⟩:=I.list hq
   refine⟨pl.isList.typeIs,fun a e=>?_⟩
   cases e
   obtain⟨o,n,e,c,hd,_⟩:=pl
   exact⟨o,e,hd⟩
  .refine⟨⟨o,I.kIn p o hk,hc⟩,fun a e=>?_⟩
   cases e
   exact⟨o,I.kIn _ o hk,hd⟩
  .have z:∃o,s.heap.get? p=some o/\o.ExactDict:=by
    rcases hk with ⟨kvs,hk⟩ |⟨kvs,hk⟩
    .obtain⟨_,_,_,_,o,_,_,e,ex,_⟩:=I.hok p _ hk
     exact⟨o,e,ex⟩
    .obtain⟨_,_,_,_,o,_,_,e,ex,_⟩:=I.hok p _ hk
     exact⟨o,e,ex⟩
   obtain⟨o,e,ex⟩:=z
   refine⟨⟨o,e,ex.1⟩,fun a e2=>?_⟩
   cases e2
   exact⟨o,e,ex.2.1⟩
  .obtain⟨o,_,_,_,e,ex,_⟩:=I.hok p _ hk
   refine⟨⟨o,e,ex.1⟩,fun a e2=>?_⟩
   cases e2
   exact⟨o,e,ex.2.1⟩
 |_=>exact vY ty
noncomputable def tBM0 (K:uR) (T:String) (r:V->List V->Hp->VK->Prop) (to:TE):TE:=fun σ H Q=>to σ H fun x H1=>tyV K T x H1/\r x [] H1 Q
noncomputable def tBM (K:uR) (T:String) (r:V->List V->Hp->VK->Prop) (to:TE) (t:TA):TE:=fun σ H Q=>to σ H fun x H1=>tyV K T x H1/\t σ H1 fun xs H2=>r x xs H2 Q
variable {o e: vU} {es: List vU} {to: TE} {t: TA} {name: Str} {apos cpos: Pos} {T id: String} {r: V -> List V -> Hp -> VK -> Prop}
theorem pe_bm0 (pa:PlainAttrs T) (slot:Slot T name id) (hty:typeOf (.builtin id)=pure (.type "method_descriptor")) (hm:MtR X id r) (ho:PE X o to)
  (hbase:cA o name X.env (wH o X.env)=wH o X.env:=by rfl) (hline:(apos.endLine==cpos.line)=true:=by rfl):PE X (.Call (.Attribute o name apos) [] [] cpos) (tBM0 X.K T r to):=by
 intro pins s σ H Q I h
 refine wpAny_Call_method0_late hbase hline (thn (ho pins s σ H _ I h) fun v s1 ⟨x,H1,I1,r1,ty,q1⟩=>?_)
 obtain⟨h1,h2⟩:=tyV_is I1 r1 ty
 exact⟨T,id,pa,slot,hty,h1,h2,dR rfl (PySem.evalArgs_none (hm pins s1 σ H1 x [] v [] Q I1 r1 .nil q1))⟩
theorem qdb (pa:PlainAttrs T) (slot:Slot T name id) (hty:typeOf (.builtin id)=pure (.type "method_descriptor")) (hm:MtR X id r) (ho:PE X o to) (ha:PA X (e :: es) t)
  (hbase:cA o name X.env (wH o X.env)=wH o X.env:=by rfl)
  (hfew:((wR cpos (vC (e :: es) X.env)).all (fun x=>!x.1) && (eQ cpos (cE [] X.env)).all (fun x=>x.1.isSome)
   && decide ((e :: es).length+([]:List Keyword).length+(if ([]:List Keyword).isEmpty then 0 else 1) < 30))=true:=by rfl)
  (hline:(apos.endLine==cpos.line)=true:=by rfl) (hs:vC (e :: es) X.env=(false,wH e X.env) :: vC es X.env:=by rfl) (hplain:(wR cpos (vC es X.env)).any (·.1)=false:=by rfl):
  PE X (.Call (.Attribute o name apos) (e :: es) [] cpos) (tBM X.K T r to t):=by
 intro pins s σ H Q I h
 refine wpAny_Call_method_late hbase hfew hline rfl (thn (ho pins s σ H _ I h) fun v s1 ⟨x,H1,I1,r1,ty,q1⟩=>?_)
 obtain⟨h1,h2⟩:=tyV_is I1 r1 ty
 refine⟨T,id,pa,slot,hty,h1,h2,?_⟩
 have hA:=ha cpos pins s1 σ H1 _ I1 q1
 rw [hs] at hA ⊢
 refine dR (by show (false ||(wR cpos (vC es X.env)).any (·.1))=false;rw [hplain] <;> rfl) (cG ?_)
 exact thn hA fun us s2 ⟨vs,H2,I2,r2,q2⟩=>hm pins s2 σ H2 x vs v us Q I2 r1 r2 q2
end
noncomputable def MtM (X:Cx) (id:String) (r:V->List V->Hp->VK->Prop):Prop:=
 ∀(pins:List (Addr × Obj)) (s:uD) (σ:St) (H:Hp) (x:V) (xs:List V) (v:uC) (us:List uC) (Q:VK),Inv X pins σ H s->qbf x v->qbi xs us->r x xs H Q->
  uT (uW X.prog X.w) X.A (call (.builtin id) (v :: us)) (EP X pins σ Q) X.xe s
theorem qbi.one:∀{x:V} {us:List uC},qbi [x] us->∃u,us=[u]/\qbf x u
 |_,_,.cons r .nil=>⟨_,rfl,r⟩
theorem qbi.zero:∀{us:List uC},qbi [] us->us=[]
 |_,.nil=>rfl
section
variable {X: Cx} {pins: List (Addr × Obj)} {σ: St} {H: Hp} {s: uD} {l: Addr} {xs ys: List V}
theorem Inv.lset {its its':List uC} {n:Nat} {f:Array uC->Array uC} {t':Nat} (I:Inv X pins σ H s) (hH:H l=some (.lst xs))
  (e:s.heap.get? l=some {cls:=.type "list",data:=.seq its.toArray n}) (hf:f its.toArray=its'.toArray) (hv:qbi ys its') (hz:ys.length<=sizeLine):
  Inv X pins σ (upd H l (.lst ys)) {s with heap:=s.heap.update l (Obj.mapSeq f),toks:=t'}:=by
 have q:=PySem.IsL.update e f
 rw [hf] at q
 refine I.write (x:=l) (e:=l) (by rw [hH];exact trivial) (.inl rfl) (fun b' u hb hu=>(wT s.heap (Obj.mapSeq f) (xP hb)).trans hu) ⟨_,q⟩ ?_
 exact⟨hz,its',_,hv,q⟩
theorem Inv.lnew {its:List uC} {t':Nat} (I:Inv X pins σ H s) (hv:qbi ys its) (hz:ys.length<=sizeLine):
  Inv X pins σ (upd H s.heap.objs.size (.lst ys)) {s with heap:=s.heap.push {cls:=.type "list",data:=.seq its.toArray},toks:=t'}:=
 I.laid (fun _ _ q=>uF _ q) (uG _) ⟨hz,its,0,hv,uQ _ rfl⟩
theorem Inv.fresh (I:Inv X pins σ H s):H s.heap.objs.size=none:=I.hok.fresh (uG _)
theorem Inv.lstM (I:Inv X pins σ H s) (hH:H l=some (.lst xs)):xs.length<=sizeLine/\∃(its:List uC) (n:Nat),qbi xs its/\xs.length=its.length/\s.heap.get? l=some {cls:=.type "list",data:=.seq its.toArray n}:=by
 obtain⟨z,its,n,r,e⟩:=I.hok l _ hH
 exact⟨z,its,n,r,r.length,e⟩
theorem notLongL {n:Nat} (h:n<=sizeLine):dH n=false:=by
 unfold dH
 exact gW (by omega)
end
section
variable {X: Cx}
noncomputable def rAppend:V->List V->Hp->VK->Prop:=fun x vs H Q=>∃l xs y,x=.ref l/\vs=[y]/\H l=some (.lst xs)/\xs.length < sizeLine/\Q .non (upd H l (.lst (xs++ [y])))
theorem qbe:MtM X "list.append" rAppend:=by
 intro pins s σ H x vs v us Q I rx rv h
 obtain⟨l,xs,y,rfl,rfl,hH,hz,q⟩:=h
 cases rx
 obtain⟨u,rfl,ru⟩:=rv.one
 obtain⟨z,its,n,r,hl,e⟩:=I.lstM hH
 refine call_meets F.slot_list_append ⟨_,e,rfl⟩ F.entry_list_append (F.args_list_append_2 _ _) (PySem.list_append l its.toArray n u (by rw [zU];omega)) ⟨e,?_⟩
 refine⟨.non,_,I.lset (its':=its++ [u]) hH e (by simp) (r.append (.cons ru .nil)) ?_,rfl,q⟩
 rw [zK,yB]
 omega
noncomputable def rExtend:V->List V->Hp->VK->Prop:=fun x vs H Q=>∃l b xs zs,x=.ref l/\vs=[.ref b]/\H l=some (.lst xs)/\H b=some (.lst zs)/\xs.length+zs.length<=sizeLine/\Q .non (upd H l (.lst (xs++zs)))
theorem mt_extend:MtM X "list.extend" rExtend:=by
 intro pins s σ H x vs v us Q I rx rv h
 obtain⟨l,b,xs,zs,rfl,rfl,hH,hB,hz,q⟩:=h
 cases rx
 obtain⟨u,rfl,ru⟩:=rv.one
 cases ru
 obtain⟨z,its,n,r,hl,e⟩:=I.lstM hH
 obtain⟨z2,its2,n2,r2,hl2,e2⟩:=I.lstM hB
 have hsz:its.toArray.size+its2.toArray.size<=sizeLine:=by rw [zU,zU];omega
 have hlong:¬(!its.toArray.isEmpty && dH (its.toArray.size+its2.toArray.size))=true:=by
  rw [notLongL hsz,Bool.and_false]
  exact uE
 refine call_meets F.slot_list_extend ⟨_,e,rfl⟩ F.entry_list_extend (F.args_list_extend_2 _ _)
  (AutoSeq1.list_extend_list_list_0 l its.toArray n b its2.toArray n2 hlong (by rw [zU];omega) (by omega)) ⟨e,e2,?_⟩
 refine⟨.non,_,I.lset (its':=its++its2) hH e (by simp) (r.append r2) ?_,rfl,q⟩
 rw [zK]
 omega
noncomputable def rCat:R2:=fun x y H Q=>∃l b xs zs,x=.ref l/\y=.ref b/\H l=some (.lst xs)/\H b=some (.lst zs)/\xs.length+zs.length<=sizeLine/\∀p,H p=none->Q (.ref p) (upd H p (.lst (xs++zs)))
theorem op_cat:OpR X (bJ .Add) rCat:=by
 intro pins s σ H x y v u Q I rx ry h
 obtain⟨l,b,xs,zs,rfl,rfl,hH,hB,hz,q⟩:=h
 cases rx
 cases ry
 obtain⟨z,its,n,r,hl,e⟩:=I.lstM hH
 obtain⟨z2,its2,n2,r2,hl2,e2⟩:=I.lstM hB
 refine PySem.P.add_list e e2 ?_ (by rw [zU,zU];omega)
 have ea:its.toArray++its2.toArray=(its++its2).toArray:=by simp
 rw [ea]
 exact⟨.ref _,_,I.lnew (t':=s.toks) (r.append r2) (by rw [zK];omega),rfl,q _ I.fresh⟩
noncomputable def rRep:R2:=fun x y H Q=>∃l k xs,x=.ref l/\y=.int k/\H l=some (.lst xs)/\-(2^63)<=k/\k < 2^63/\xs.length*k.toNat<=sizeLine/\
 ∀p,H p=none->Q (.ref p) (upd H p (.lst (bL k.toNat xs).flatten))
end
end L2
namespace Att
open PySem PySem.W PySem.Calls PyProof.Rows
theorem qf7 {P:Params} {h:vR}:∀(ns:List Int) (vs:List uC),WellAll P h vs (ns.map WData.int)->IntsAre vs ns:=by
 intro ns
 induction ns with
 |nil=>
  intro vs w
  rw [fY] at w
  cases w
  exact .nil
 |cons n ns ih=>
  intro vs w
  rw [zS] at w
  cases w with
  |cons a b=>
   cases a
   exact .cons _ _ (ih _ b)
theorem script_of {l:OpenLaw} {n:Nat} (hn:l.most=some n) {P:Params} {h:vR} {args:List WData} {vals:List uC}
  (hpre:l.row.toRowW.claim.pre args=true) (hwl:WellAll P h vals args):
  ∃a vs ns,vals=[uP a]/\args=[WData.list (ns.map WData.int)]/\h.get? a=some {cls:=.type "list",data:=.seq vs.toArray}/\IntsAre vs ns/\ns.length<=n:=by
 have hsh:WShape.hasAll [] args [.list .int]=true:=(pre_splitW hpre).1
 have hc:l.pre.holds [] {args:=args}=true:=(pre_splitW hpre).2
 obtain⟨d,r,rfl,h1,h2⟩:=hasAllW_cons hsh
 obtain rfl:=hasAllW_nil h2
 obtain⟨xs,rfl,h3⟩:=hasW_list h1
 obtain⟨ns,rfl⟩:=items_int h3
 have hlen:ns.length<=n:=by
  unfold OpenLaw.pre at hc
  have h4:(WTm.not (.lt (.lit (.int (n:Int))) (.len (.arg 0)))).holds [] {args:=[.list (ns.map .int)]}=true:=by
   have h4:=(holds_andW hc).1
   rw [hn] at h4
   exact h4
  have h5:=condW_of h4 (w_not (w_lt w_lit (w_len_list (w_arg rfl))))
  rw [zB] at h5
  refine gO fun q=>?_
  have q':(n:Int) <((ns.length:Nat):Int):=by omega
  first
   |(rw [gU q'] at h5;exact absurd h5 (by decide))
   |(simp at h5;omega)
 cases hwl with
 |cons w1 w2=>
  cases w2
  cases w1 with
  |list ho hall=>exact⟨_,_,ns,rfl,rfl,ho,qf7 ns _ hall,hlen⟩
theorem post_true (l:OpenLaw) (args:List WData):l.row.toRowW.claim.post args (.bool true) args=true:=
 postW_of (r:=l.row.toRowW) (X:=(true==true))
  (show WShape.has [] (.bool true) .bool=true by first|rfl|decide|simp [WShape.has,WShape.arms,WShape.armsAll])
  (show (WTm.eq .res (.lit (.bool true))).value [] {args:=args,res:=some (.bool true),after:=args}=some (.bool (true==true)) from w_eq_bool (w_res rfl) w_lit) rfl
theorem attach_call {l:OpenLaw} {n:Nat} {q:vB} {loose:List Str} {XP:(Str->Option uC)->vR->Prop} {YP:vL->vR->Prop} {d:DefRec}
  (hn:l.most=some n) (hdf:d.params.defaults=[])
  (call:∀(w:vL) (s₀ s₁:uD) (mg mb:Str->Option uC) (fa:Addr) (o:Obj) (pm cd doc:uC) (a:Addr) (vs:List uC) (ns:List Int),
   Ground q loose [] XP w s₀ mg mb s₁.heap->YP w s₁.heap->
   s₁.heap.get? fa=some o->o.data=.func (docDef d.name d.params d.body d.scope pm cd doc)->s₁.heap.CodeRec cd d.name->mg d.name=some (.ref fa)->
   s₁.heap.get? a=some {cls:=.type "list",data:=.seq vs.toArray}->IntsAre vs ns->ns.length<=n->s₁.gens= #[]->
   cN (uW l.prog w) fZ (.call (.ref fa) ⟨[.ref a], []⟩) (fun r s'=>r=.ok (.ret (.bool true))/\OldK s₁.heap s'.heap/\s'.os=s₁.os/\cV s'.gens) s₁):
  WalkO q loose XP YP l.row.toRowW d [] (fun f vs=>PySem.call f vs):=by
 intro w s₀ s₁ mg mb G Y fa o pm cd doc dV kV ho hd hcd hD hmg hg args vals as hpre hlay hrd hwl hlo
 obtain rfl:dV=.none:=Dflts.none hD hdf
 obtain rfl:kV=.none:=Dflts.noKw hD
 obtain⟨a,vs,ns,rfl,rfl,hobj,hints,hlen⟩:=script_of hn hpre hwl
 refine enter_call (xQ (call w s₀ s₁ mg mb fa o pm cd doc a vs ns G Y ho (fd_plain hd) hcd hmg hobj hints hlen hg) fun r s' hq=>?_)
 obtain⟨rfl,h2,h3,h4⟩:=hq
 exact⟨.inl ⟨.bool true,.bool true, [],rfl,fun _=>rfl,.bool true,post_true l _,fun _=>⟨cY,fun _ hm=>(nomatch hm)⟩⟩,h2,h3,h4⟩
end Att
namespace L2
open PySem PySem.Spec PyProof.Rows
theorem vals_ints:∀{vs:List uC} {ns:List Int},IntsAre vs ns->qbi (ns.map V.int) vs
 |_,_,.nil=> .nil
 |_,_,.cons n t h=> .cons ⟨t,rfl⟩ (vals_ints h)
noncomputable def Only (H:Hp):Prop:=∀b,H b=none\/∃o xs,H b=some (.frz o (.lst xs))
theorem law_call {P:vB} {w:vL} {K:uR} {mg mb:Str->Option uC} {CX:CXT} {k:Nat} {fa a:Addr} {fd:uM} {x:Str} {sp:Sp} {s₁:uD} {vs:List uC} {ns:List Int}
  (KX:K.In s₁.heap) (hns:s₁.heap.Ns uS mg) (hb:s₁.heap.Ns builtinsNs mb) (hbb:∀x:Str,x≠"__name__"->mb x=aQ x) (hlim:s₁.heap.NoLimit) (hg:s₁.gens= #[])
  (ha:s₁.heap.get? a=some {cls:=.type "list",data:=.seq vs.toArray}) (hi:IntsAre vs ns) (hl:ns.length<=sizeLine) (hr:Room k fZ)
  (F:∀base:vR,K.In base->base.Ns uS mg->FnOk P w K mg base CX k fa fd [x] sp) (hbind:∀(s:uD) (u:uC),fA s fd ⟨[u], []⟩ [(x,u)])
  (hsp:∀H:Hp,Only H->SqL K H a (ns.map V.int)->sp [.ref a] H (fun v _=>v=.bl true) fun _ _ _=>False)
  (hCX:∀H e s',CX [] H s₁ (fun _ _ _=>False) e s'->False):
  cN (uW P w) fZ (.call (.ref fa) ⟨[.ref a], []⟩) (fun r s'=>r=.ok (.ret (.bool true))/\OldK s₁.heap s'.heap/\s'.os=s₁.os/\cV s'.gens) s₁:=by
 have rv:=vals_ints hi
 have lenV:=hi.length
 have core:∀H:Hp,Only H->SqL K H a (ns.map V.int)->HOk P w H s₁.heap->(∀b,H b≠none->b=a)->(H a≠none->K.lookup a=none)->
   cN (uW P w) fZ (.call (.ref fa) ⟨[.ref a], []⟩) (fun r s'=>r=.ok (.ret (.bool true))/\OldK s₁.heap s'.heap/\s'.os=s₁.os/\cV s'.gens) s₁:=by
  intro H hO hS hok hA hK
  have base_of:∀{b:Addr} {o:Obj},s₁.heap.get? b=some o->H b=none->(hidT s₁.heap H).get? b=some o:=fun e n=>hidT_get e n
  have noA:∀{b:Addr} {o:Obj} {es:Array fB} {ep:Nat},s₁.heap.get? b=some o->o.data=.dict es ep->H b=none:=fun {b o es ep} e d=>by
   cases q:H b with
   |none=>rfl
   |some u=>
    have e':b=a:=hA b (by rw [q];simp)
    subst e'
    rw [ha] at e;cases e
    have d':Data.seq vs.toArray _=Data.dict es ep:=d
    cases d'
  have nsK:∀{b:Addr} {m:Str->Option uC},s₁.heap.Ns b m->(hidT s₁.heap H).Ns b m:=fun {b m} ⟨o,es,ep,e,d,r⟩=>⟨o,es,ep,base_of e (noA e d),d,r⟩
  have hKb:K.In (hidT s₁.heap H):=fun b o e=>base_of (KX b o e) (by
   cases q:H b with
   |none=>rfl
   |some u=>
    have e':b=a:=hA b (by rw [q];simp)
    subst e'
    rw [hK (by rw [q];simp)] at e;cases e)
  have hM:Mod K mg (hidT s₁.heap H):=⟨hKb,nsK hns,⟨mb,nsK hb,hbb⟩,let ⟨mc,h1,h2⟩:=hlim;⟨mc,nsK h1,h2⟩⟩
  have e0:Env0 P w K mg (hidT s₁.heap H) fZ [] s₁ H:=⟨rfl,hM,fun b o e=>of_hidT e,Nat.le_of_eq (hidT_size _ _),trivial,fun b hb=>absurd (show b∈([]:List Addr) from hb) (by simp),hok,.of_eq hg⟩
  refine xQ ((F _ hKb (nsK hns)).run fZ [] s₁ H ⟨[.ref a], []⟩ [.ref a] [.ref a] _ _ hr e0 (hbind s₁ (.ref a)) (.cons rfl .nil) (hsp H hO hS)) fun r s' h=>?_
  cases r with
  |error e=>exact(hCX H e s' h).elim
  |ok fl=>
   cases fl with
   |next=>exact vY h
   |brk=>exact vY h
   |cont=>exact vY h
   |ret u=>
    obtain⟨v,H',os,bare,un,hok',r',q⟩:=h
    have q':v=.bl true:=q
    subst q'
    obtain rfl:u=fL true:=r'
    refine⟨rfl,OldK.of_keep fun b o e=>?_,os,bare⟩
    cases q:H b with
    |none=>exact un.keep b o e q (by intro z;exact absurd (show b∈([]:List Addr) from z) (by simp)) (by simp)
    |some u=>
     rcases hO b with z|⟨ob,xs,z⟩
     .rw [q] at z;cases z
     .have z2:=un.frzs b ob _ z
      obtain⟨e1,_⟩:=hok b _ z
      obtain⟨e2,_⟩:=hok' b _ z2
      rw [e] at e1;cases e1
      exact e2
 cases hk:K.lookup a with
 |some o=>
  have e:=KX a o hk
  rw [ha] at e
  cases e
  refine core (fun _=>none) (fun _=> .inl rfl) (.inr ⟨_,vs.toArray,_,hk,rfl,rfl,rfl,by rw [zU,lenV];exact hl,by simpa using rv⟩) (fun b u z=>by have z':(none:Option HO)=some u:=z;cases z') (fun b z=>absurd rfl z) fun z=>absurd rfl z
 |none=>
  refine core (fun b=>if b=a then some (.frz {cls:=.type "list",data:=.seq vs.toArray} (.lst (ns.map V.int))) else none) (fun b=>?_) (.inl (.inr ⟨{cls:=.type "list",data:=.seq vs.toArray},gT rfl⟩)) (fun b u z=>?_) (fun b z=>?_) fun _=>hk
  .by_cases hb:b=a
   .exact .inr ⟨_,_,gT hb⟩
   .exact .inl (gS hb)
  .by_cases hb:b=a
   .have z':=(gT hb).symm.trans z
    cases z'
    subst hb
    exact⟨ha,by rw [zB];exact hl,vs,_,rv,ha⟩
   .have z':=(gS hb).symm.trans z
    cases z'
  .by_cases hb:b=a
   .exact hb
   .exact absurd (gS hb) z
theorem walk_of {l:PySem.W.OpenLaw} {n k:Nat} {q:vB} {loose:List Str} {XP:(Str->Option uC)->vR->Prop} {YP:vL->vR->Prop} {d:DefRec} {K:Params->uR} {CX:vL->CXT} {sp:vL->Sp} {x:Str}
  (hn:l.most=some n) (hn2:n<=sizeLine) (hdf:d.params.defaults=[]) (hr:Room k fZ)
  (hY:∀(w:vL) (h:vR),YP w h->(K w.params).In h)
  (F:∀(w:vL) (mg:Str->Option uC) (fa:Addr) (h:vR),(K w.params).In h->h.Ns uS mg->mg d.name=some (.ref fa)->
   ∃fd:uM,(∀(s:uD) (u:uC),fA s fd ⟨[u], []⟩ [(x,u)])/\
    ∀base:vR,(K w.params).In base->base.Ns uS mg->FnOk l.prog w (K w.params) mg base (CX w) k fa fd [x] (sp w))
  (hsp:∀(w:vL) (H:Hp) (a:Addr) (ns:List Int),ns.length<=n->Only H->SqL (K w.params) H a (ns.map V.int)->sp w [.ref a] H (fun v _=>v=.bl true) fun _ _ _=>False)
  (hCX:∀(w:vL) (H:Hp) (s:uD) (e:uC) (s':uD),CX w [] H s (fun _ _ _=>False) e s'->False):
  PySem.W.WalkO q loose XP YP l.row.toRowW d [] (fun f vs=>PySem.call f vs):=by
 refine Att.attach_call hn hdf fun w s₀ s₁ mg mb fa o pm cd doc a vs ns G Y ho hd hcd hmg hobj hints hlen hg=>?_
 have KX:=hY w _ Y
 obtain⟨fd,hb,hF⟩:=F w mg fa _ KX G.T.g hmg
 exact law_call KX G.T.g G.T.b G.T.builtins G.T.nolimit hg hobj hints (vP hlen hn2) hr hF hb (fun H hO hS=>hsp w H a ns hlen hO hS) fun H e s'=>hCX w H s₁ e s'
noncomputable def qcl (s:Stmt):Arguments:=match s with
 | .FunctionDef _ a _ _ _ _ _ _ _ _=>a
 |_=>{posonlyargs:=[],args:=[],vararg:=none,kwonlyargs:=[],kw_defaults:=[],kwarg:=none,defaults:=[]}
noncomputable def qc3 (s:Stmt):List Stmt:=match s with
 | .FunctionDef _ _ b _ _ _ _ _ _ _=>b
 |_=> []
noncomputable def qaa (s:Stmt):cU:=match s with
 | .FunctionDef _ _ _ _ _ _ sc _ _ _=>sc
 |_=>{kind:=.function,names:=[],isGenerator:=false,isCoroutine:=false}
abbrev CX0:CXT:=fun _ _ _ _ _ _=>False
abbrev E0:XK:=fun _ _ _=>False
theorem qak {X:Cx}:qfq CX0 X E0:=fun _ _ _ _ _ _ _ h=>h.elim
structure Fun (K:uR) (x qual:Str) (st:Stmt) (f:Addr) (fd:uM):Prop where
 ex:∃(oc:uC) (od:Option Addr) (kV doc pm:uC) (an:Option Addr) (cdv ct:uC) (osl:Array (Option uC)),
  fd=fnOf x qual (qcl st) (qc3 st) (qaa st) .none kV doc pm an cdv ct/\K.lookup f=some ⟨oc,od,.func fd,osl⟩/\gK K cdv qual=true
 kp:dO K (.ref f)=true
section
variable {P: vB} {w: vL} {K: uR} {mg: Str -> Option uC} {base: vR}
theorem Fun.ok {x qual:Str} {st:Stmt} {f:Addr} {fd:uM} {N ps:List Str} {k:Nat} {sp:Sp} (F:Fun K x qual st f fd) (S:FnScope N ps (qaa st)) (len:∀vs H Q E,sp vs H Q E->vs.length=ps.length)
  (hbody:∀(cdv:uC) (A:vO) (outer:List Env) (s:uD) (H:Hp) (vs:List V) (Q:VK) (E:XK),Room k (A.deeper (dQ qual (qaa st) s.heap.objs.size f cdv))->sp vs H Q E->
   ∃t,PSs (cxOf CX0 P w K mg base N qual (qaa st) f cdv A outer s H E).nox (qc3 st) t/\t {nx:=fun _ H'=>Q .non H',rt:=Q} (qem N vs) H):FnOk P w K mg base CX0 (k+1) f fd ps sp:=by
 obtain⟨oc,od,kV,doc,pm,an,cdv,ct,osl,rfl,lk,hcd⟩:=F.ex
 refine fn_of lk hcd S len fun A outer s H vs Q E hr hsp=>?_
 obtain⟨t,h,q⟩:=hbody cdv A outer s H vs Q E hr hsp
 exact⟨t,h.nox,q⟩
theorem Fun.binds {x qual:Str} {st:Stmt} {f:Addr} {fd:uM} {ps:List Str} (F:Fun K x qual st f fd)
  (h:∀(kV doc pm:uC) (an:Option Addr) (cdv ct:uC) (us:List uC),us.length=ps.length->bindArgs (fnOf x qual (qcl st) (qc3 st) (qaa st) .none kV doc pm an cdv ct) ⟨us, []⟩=pure (ps.zip us)):qap K fd ps []:=by
 obtain⟨oc,od,kV,doc,pm,an,cdv,ct,osl,rfl,lk,hcd⟩:=F.ex
 exact .all (h kV doc pm an cdv ct)
theorem fun_mk {x qual:Str} {st:Stmt} {f:Addr} {oc:uC} {od an:Option Addr} {osl:Array (Option uC)} {kV doc pm cdv ct:uC} (l:K.lookup f=some ⟨oc,od,.func (fnOf x qual (qcl st) (qc3 st) (qaa st) .none kV doc pm an cdv ct),osl⟩)
  (c:gK K cdv qual=true) (k:dO K (.ref f)=true):Fun K x qual st f (fnOf x qual (qcl st) (qc3 st) (qaa st) .none kV doc pm an cdv ct):=⟨⟨oc,od,kV,doc,pm,an,cdv,ct,osl,rfl,l,c⟩,k⟩
end
theorem qcb {A:vO} {k:Nat} (hr:Room k A):A.units+1 < cLine:=vT (Nat.add_le_add_left (by decide:1<=64) _) hr.units
section
variable {X: Cx}
theorem pv (i:Nat) {x:Str} {pos:Pos} (hN:X.N[i]?=some x:=by rfl) (hv:Vis X.env.scope x:=by first|exact uJ rfl|exact aV (uJ rfl) |exact aV (aV rfl)) (hd:(x==("__debug__" :Str))=false:=by decide)
  (hcd:(x==("__classdict__" :Str))=false:=by decide):PE X (.Name x pos) (tVar i):=pe_var hN hv hd hcd
end
theorem iteF {A B:Prop} (h:B):if false=true then A else B:=by
 rw [gS uE]
 exact h
theorem iteT {A B:Prop} (h:A):if true=true then A else B:=by
 rw [gT rfl]
 exact h
noncomputable def qar (H H':Hp):Prop:=∀b o,H b=some o->H' b=some o
theorem qar.refl (H:Hp):qar H H:=fun _ _ h=>h
theorem qar.trans {H H1 H2:Hp} (a:qar H H1) (b:qar H1 H2):qar H H2:=fun c o h=>b c o (a c o h)
theorem qar.free {H H':Hp} (e:qar H H') {l:Addr} (h:H' l=Option.none):H l=Option.none:=by
 cases q:H l with
 |none=>rfl
 |some o=>
  rw [e l o q] at h
  cases h
theorem qar.seq {K:uR} {H H':Hp} {a:Addr} {xs:List V} (e:qar H H') (h:SqL K H a xs):SqL K H' a xs:=by
 rcases h with (h|⟨o,h⟩) |h
 .exact .inl (.inl (e _ _ h))
 .exact .inl (.inr ⟨o,e _ _ h⟩)
 .exact .inr h
end L2
namespace My
open PySem PySem.Spec PyProof.Rows L2
section
variable {X: Cx}
theorem bits600 {k:Int} (h:k.natAbs < 2^600):Builtin.Int.intBits k<=2^20:=
 vP (PyProof.Rows.intBits_le (k:=600) h) (by decide)
noncomputable def CBig (i j:Int):Prop:=i.natAbs < 2^600/\j.natAbs < 2^600
theorem qby:OpR X (bJ .Mult) (rI CBig fun i j=> .int (i*j)):=opI fun _ _ _ _ _ _ _ hc q=>mul_int q (IntMulOk.of_bits (bits600 hc.1) (bits600 hc.2))
noncomputable def CDivB (i j:Int):Prop:=j≠0/\j.natAbs < 2^600
theorem noPy {x y:Int} (h:y.natAbs < 2^600):Builtin.divisionGoesByPylong x y=false:=by
 refine PyProof.noPylong_of_log2 ?_
 by_cases h0:y.natAbs=0
 .rw [h0];decide+kernel
 .have h30:y.natAbs.log2 < 600:=(Nat.log2_lt h0).mpr h
  omega
theorem qcn:OpR X (bJ .FloorDiv) (rI CDivB fun i j=> .int (i.fdiv j)):=opI fun _ _ _ _ _ _ _ hc q=>floordiv_int hc.1 q (.inl (noPy hc.2))
end
theorem qa9 {H:Hp} {p:Addr} (h:H p=none) (o:HO):qar H (upd H p o):=fun b u q=>by rw [qa6 (qa7 q h)];exact q
theorem same_tup {K:uR} {H H':Hp} {a:Addr} {xs:List V} (e:qar H H') (h:SqT K H a xs):SqT K H' a xs:=by
 rcases h with (h|⟨o,h⟩) |h
 .exact .inl (.inl (e _ _ h))
 .exact .inl (.inr ⟨o,e _ _ h⟩)
 .exact .inr h
noncomputable def cell (ns:List Int) (k:Int):Int:=(ns[k.toNat]?).getD 0
theorem cell_at {ns:List Int} {k:Int} (h0:0<=k) (h:k <(ns.length:Int)):atI (ns.map V.int) k=some (.int (cell ns k)):=by
 have hk:k.toNat < ns.length:=by omega
 have ek:k=((k.toNat:Nat):Int):=by omega
 have q:atI (ns.map V.int) ((k.toNat:Nat):Int)=some (.int ns[k.toNat]):=qax (by rw [zC,zA hk] <;> rfl)
 rw [<-ek] at q
 rw [q]
 unfold cell
 rw [zA hk]
 rfl
end My
set_option maxHeartbeats 1000000
namespace My
open PySem PySem.Spec PyProof.Rows L2
section
variable {X: Cx} {pins: List (Addr × Obj)} {σ: L2.St} {H: Hp} {s: uD} {h': vR}
structure Rec (X:Cx) (pins:List (Addr × Obj)) (H:Hp) (h:vR) (b:Addr):Prop where
 nw:X.s₀.heap.get? b=none
 un:H b=none
 pin:∀p∈X.pn++pins,p.1≠b
 ob:∃o vs,h.get? b=some o/\o.data=.fields vs
theorem Rec.loc (I:Inv X pins σ H s) {b:Addr} (r:Rec X pins H s.heap b):b≠X.env.locals:=fun z=>by
 obtain⟨o,vs,e,d⟩:=r.ob
 obtain⟨m,⟨o',es,ep,e',d',_⟩,_⟩:=I.loc
 rw [z,e'] at e;cases e;rw [d'] at d;cases d
theorem Rec.cel (I:Inv X pins σ H s) {b:Addr} (r:Rec X pins H s.heap b):∀x c,X.env.cells.lookup x=some c->c≠b:=fun x c hc z=>by
 obtain⟨o,vs,e,d⟩:=r.ob
 obtain⟨v,o',e',d'⟩:=I.cell x c hc
 rw [z,e] at e';cases e';rw [d] at d';cases d'
theorem Rec.frs (I:Inv X pins σ H s) {b:Addr} (r:Rec X pins H s.heap b):b∉frs X.stack:=fun z=>by
 obtain⟨o,vs,e,d⟩:=r.ob
 obtain⟨_,o',e',d'⟩:=I.stack.mem z
 rw [e] at e';cases e';exact d' vs d
theorem Inv.marks {ch:List Addr} {t':Nat} (I:Inv X pins σ H s) (hch:∀b∈ch,Rec X pins H s.heap b)
  (k1:∀b o,b∉frs X.stack->b∉ch->s.heap.get? b=some o->h'.get? b=some o)
  (k2:∀b o,b∉ch->s.heap.get? b=some o->∃sl,h'.get? b=some {o with slots:=sl}):Inv X pins σ H {s with heap:=h',toks:=t'}:=by
 have sub:∀b,b≠X.env.locals->b∉X.fs->b∉frs X.stack:=fun b h1 h2 z=>(zR.mp (I.stkSub b z)).elim h1 h2
 have neL:∀b o,X.s₀.heap.get? b=some o->b≠X.env.locals:=fun b o e=>vD (vI (uN e) I.ok.above)
 have neC:∀b o,X.s₀.heap.get? b=some o->b∉ch:=fun b o e z=>by rw [(hch b z).nw] at e;cases e
 have cel:∀x c,X.env.cells.lookup x=some c->∀v,s.heap.IsCell c v->h'.IsCell c v:=fun x c e v ⟨o,ho,hd⟩=>by
  obtain⟨sl,q⟩:=k2 c o (fun z=>(hch c z).cel I x c e rfl) ho
  exact⟨_,q,hd⟩
 refine⟨I.ok,I.os,I.bare,⟨fun b o e n hb hx=>k1 b o (sub b (neL b o e) hb) (neC b o e) (I.base.keep b o e n hb hx),fun b o e n hb hx=>?_,I.base.free,fun b o e hx=>?_,I.base.tups,I.base.frzs,I.base.tbls⟩,
  ?_,fun x c e=>?_,I.free,I.freeC,fun p hp=>?_,fun a o e=>?_,I.len⟩
 .obtain⟨sl,e1⟩:=I.base.slot b o e n hb hx
  obtain⟨sl',e2⟩:=k2 b _ (neC b o e) e1
  exact⟨sl',e2⟩
 .obtain⟨o',e1⟩:=I.base.there b o e hx
  obtain⟨sl',e2⟩:=k2 b _ (neC b o e) e1
  exact⟨_,e2⟩
 .obtain⟨m,hm,hl⟩:=I.loc
  have hm':h'.Ns X.env.locals m:=by
   obtain⟨o,es,ep,e,r⟩:=hm
   obtain⟨sl,q⟩:=k2 _ o (fun z=>(hch _ z).loc I rfl) e
   exact⟨_,es,ep,q,r⟩
  refine⟨m,hm',fun i x v e1 e2 e3=>?_⟩
  obtain⟨u,r,l⟩:=hl i x v e1 e2 e3
  refine⟨u,r,?_⟩
  rcases l with l|⟨k,c,e,z⟩
  .exact .inl l
  .exact .inr ⟨k,c,e,cel x c e _ z⟩
 .obtain⟨v,z⟩:=I.cell x c e
  exact⟨v,cel x c e v z⟩
 .obtain⟨e,n,ne,nf,d⟩:=I.pin p hp
  exact⟨k1 p.1 p.2 (sub p.1 ne nf) (fun z=>(hch p.1 z).pin p hp rfl) e,n,ne,nf,d⟩
 .refine(I.hok a o e).stay (fun b u hb q=>k1 b u ?_ ?_ q) (fun _ q=>q) fun _ _ q=>q
  .intro z
   have n:=I.stkFree b z
   rcases hb with rfl|hb
   .rw [n] at e;cases e
   .rw [n] at hb;cases hb
  .intro z
   have n:=(hch b z).un
   rcases hb with rfl|hb
   .rw [n] at e;cases e
   .rw [n] at hb;cases hb
theorem obj_there {P:vB} {w:vL} {H:Hp} {h:vR} {a:Addr} {o:HO} (x:qbo P w H h a o):∃ob,h.get? a=some ob:=by
 cases o with
 |lst xs=>obtain⟨_,_,_,_,e⟩:=x;exact⟨_,e⟩
 |tup xs=>obtain⟨_,_,_,ob,e,_⟩:=x;exact⟨_,e⟩
 |dK kvs=>obtain⟨_,_,_,_,o,_,_,e,_⟩:=x;exact⟨_,e⟩
 |dT kvs=>obtain⟨_,_,_,_,o,_,_,e,_⟩:=x;exact⟨_,e⟩
 |set S n=>obtain⟨o,_,_,_,e,_⟩:=x;exact⟨_,e⟩
 |ins C dx fs=>obtain⟨_,_,_,e,_⟩:=x;exact⟨_,e⟩
 |own y=>exact x
 |xd fs=>obtain⟨_,⟨_,_,_,e,_⟩,_⟩:=x;exact⟨_,e⟩
 |rng lo hi=>obtain⟨_,_,_,e⟩:=x;exact⟨_,e⟩
 |frz ob u=>obtain⟨e,_⟩:=x;exact⟨_,e⟩
 |tbl ps=>exact⟨_,(show h.get? a=some _ from x)⟩
 |met f y=>exact⟨_,(show h.get? a=some _ from x)⟩
 |ext φ=>obtain⟨_,e,_⟩:=x;exact e
theorem un_of {P:vB} {w:vL} {H:Hp} {h:vR} {a:Addr} (x:HOk P w H h) (e:h.get? a=none):H a=none:=by
 cases q:H a with
 |none=>rfl
 |some o=>obtain⟨ob,z⟩:=obj_there (x a o q);rw [e] at z;cases z
theorem new_of (I:Inv X pins σ H s) (hex:X.ex=[]) {b:Addr} (e:s.heap.get? b=none):X.s₀.heap.get? b=none:=by
 cases q:X.s₀.heap.get? b with
 |none=>rfl
 |some o=>obtain⟨o',z⟩:=I.base.there b o q (by rw [hex];simp);rw [e] at z;cases z
noncomputable def XNew (h:vR) (e:Addr) (C:uC) (d:Option Addr):Prop:=
 ∃oe vs,h.get? e=some oe/\oe.cls=C/\oe.dict=d/\oe.data=.fields vs/\vs[1]?=some .none
noncomputable def XTr (h:vR) (e:Addr) (C:uC) (d:Option Addr) (fl:uC) (T:Addr):Prop:=
 ∃oe vs oT ts,h.get? e=some oe/\oe.cls=C/\oe.dict=d/\oe.data=.fields vs/\vs[1]?=some (.ref T)/\T≠e/\h.get? T=some oT/\oT.data=.fields ts/\ts[3]?=some fl
noncomputable def XIn (X:Cx) (pins:List (Addr × Obj)) (H:Hp) (h:vR) (e:Addr) (C:uC) (d:Option Addr):Prop:=
 Rec X pins H h e/\(XNew h e C d\/∃T,Rec X pins H h T/\∃fl,XTr h e C d fl T)
noncomputable def qfb (X:Cx) (pins:List (Addr × Obj)) (H:Hp) (h:vR) (e:Addr) (C:uC) (d:Option Addr) (fl:uC):Prop:=
 Rec X pins H h e/\∃T,Rec X pins H h T/\XTr h e C d fl T
theorem dict_mapF (f:Array uC->Array uC) (o:Obj):(o.mapFields f).dict=o.dict:=by
 obtain⟨c,d,dt,sl⟩:=o
 cases dt <;> rfl
theorem entry_x {M:Model} {A:vO} {E:uC->uD->Prop} {e:Addr} {C:uC} {d:Option Addr} {head:uC} {hadNext:Bool} {Q:Unit->uD->Prop}
  (I:Inv X pins σ H s) (hA:A.frames=some X.stack) (hst:X.stack=X.env :: X.outer) (hf:X.env.frame=some X.env.locals) (r:Rec X pins H s.heap e)
  (ho:∃oe vs,s.heap.get? e=some oe/\oe.cls=C/\oe.dict=d/\oe.data=.fields vs/\1 < vs.size)
  (h:∀s',Inv X pins σ H s'->qfb X pins H s'.heap e C d (xG X.env.locals)->Q () s'):
  uT M A (do let a<-frameOf X.env;let pl<-entryPlaceOf X.env.locals hadNext;let b<-EntryCells.newEntry head a .none (xG X.env.locals) .none pl;setField (.ref e) 1 b) Q E s:=by
 obtain⟨oe,vs,he,hc,hdd,hd,hsz⟩:=ho
 have hl:=I.stack
 rw [hst] at hl hA
 have ne:e∉L2.frs X.stack:=r.frs I
 refine uB (wpAny_frameOf_fun hA hl hf fun h₁ hs₁=>uB (wpAny_entryPlaceOf fun pl hpl=>?_))
 unfold EntryCells.newEntry newFields
 refine uB (wG ?_ (hpl.sizeOk5 _ _ _ _ _))
 rw [<-hst] at hs₁
 have he1:h₁.get? e=some oe:=(hs₁.2.1 e ne).trans he
 generalize hN:({cls:=.type "traceback",dict:=none,data:=.fields ([head,.ref X.env.locals,.none,xG X.env.locals,.none]++(if pl.isEmpty then bL 6 vW else pl)).toArray}:Obj)=N
 have he2:(h₁.push N).get? e=some oe:=uF _ he1
 refine aJ he2 hd hsz (h _ ?_ ?_)
 .refine Inv.marks (s:=s) (ch:=[e]) (t':=s.toks) I (fun b hb=>by rw [zH.mp hb];exact r) (fun b o h1 h2 q=>?_) fun b o h2 q=>?_
  .have hb:b≠e:=fun z=>h2 (by simp [z])
   rw [wT _ _ (xP hb)]
   exact uF _ ((hs₁.2.1 b h1).trans q)
  .have hb:b≠e:=fun z=>h2 (by simp [z])
   obtain⟨sl,q1⟩:=hs₁.2.2 b o q
   exact⟨sl,by rw [wT _ _ (xP hb)];exact uF _ q1⟩
 .have sz1:h₁.objs.size=s.heap.objs.size:=hs₁.1
  have hTe:h₁.objs.size≠e:=Nat.ne_of_gt (uN he1)
  have d3:=xT hd (·.setIfInBounds 1 (uP h₁.objs.size))
  have e3:=bR (wL (·.setIfInBounds 1 (uP h₁.objs.size))) he2 (bS d3)
  have nf:N.isFreed=false:=by rw [<-hN];rfl
  have t3:=(wT (h₁.push N) (wL (·.setIfInBounds 1 (uP h₁.objs.size))) (xP hTe)).trans (uQ h₁ nf)
  have rT:Rec X pins H ((h₁.push N).update e (wL (·.setIfInBounds 1 (uP h₁.objs.size)))) h₁.objs.size:=by
   refine⟨aH (by rw [sz1];exact I.sz),I.hok.fresh (by rw [sz1];exact uG _),fun p hp z=>?_,⟨N,_,t3,by rw [<-hN]⟩⟩
   obtain⟨q,_⟩:=I.pin p hp
   have w:=uN q
   rw [z,sz1] at w
   exact absurd w (wD _)
  refine⟨⟨r.nw,r.un,r.pin,⟨_,_,e3,d3⟩⟩,h₁.objs.size,rT,_,_,N,_,e3,(gA _ _).trans hc,?_,d3,by simp [hsz],hTe,t3,by rw [<-hN],?_⟩
  .rw [<-hdd];exact dict_mapF _ _
  .first|(simp;done) |(rcases hpl with rfl|⟨_,_,_,_,_,_,_,rfl⟩ <;> simp)
theorem note_x {M:Model} {A:vO} {E:uC->uD->Prop} {e:Addr} {C:uC} {d:Option Addr} {Q:Unit->uD->Prop}
  (I:Inv X pins σ H s) (hA:A.frames=some X.stack) (hst:X.stack=X.env :: X.outer) (hf:X.env.frame=some X.env.locals) (x:XIn X pins H s.heap e C d)
  (h:∀s',Inv X pins σ H s'->qfb X pins H s'.heap e C d (xG X.env.locals)->Q () s'):uT M A (noteFrame (.ref e) X.env) Q E s:=by
 obtain⟨r,x⟩:=x
 unfold noteFrame
 simp only [hf]
 rcases x with ⟨oe,vs,he,hc,hdd,hd,h1⟩ |⟨T,rT,fl,oe,vs,oT,ts,he,hc,hdd,hd,h1,hTe,hT,hdT,h3⟩
 .refine uB (cZ he hd h1 ?_)
  rw [gS (by decide)]
  exact entry_x I hA hst hf r ⟨oe,vs,he,hc,hdd,hd,(aK.mp h1).1⟩ h
 .refine uB (cZ he hd h1 ?_)
  rw [gT (show (uP T !=vW)=true from by simp)]
  refine uB (cZ hT hdT h3 ?_)
  by_cases qf:(fl==xG X.env.locals)=true
  .rw [gT qf]
   have ef:fl=xG X.env.locals:=eq_of_beq qf
   rw [ef] at h3
   exact uI (h s I ⟨r,T,rT,oe,vs,oT,ts,he,hc,hdd,hd,h1,hTe,hT,hdT,h3⟩)
  .rw [gS qf]
   refine uB (aJ hT hdT (aK.mp h3).1 ?_)
   have oth:∀b,b≠T->(s.heap.update T (wL (·.setIfInBounds 3 vW))).get? b=s.heap.get? b:=fun b hb=>wT _ _ (xP hb)
   have J:Inv X pins σ H {s with heap:=s.heap.update T (wL (·.setIfInBounds 3 vW))}:=
    Inv.marks (s:=s) (ch:=[T]) (t':=s.toks) I (fun b hb=>by rw [zH.mp hb];exact rT) (fun b o _ h2 q=>(oth b fun z=>h2 (by simp [z])).trans q) fun b o h2 q=>⟨o.slots,(oth b fun z=>h2 (by simp [z])).trans q⟩
   have he':=(oth e (xP hTe)).trans he
   exact entry_x J hA hst hf ⟨r.nw,r.un,r.pin,⟨oe,vs,he',hd⟩⟩ ⟨oe,vs,he',hc,hdd,hd,(aK.mp h1).1⟩ h
theorem flight_g (fr:Option Addr) {M:Model} {A:vO} {E:uC->uD->Prop} {e:Addr} {C fl:uC} {d:Option Addr} {Q:Unit->uD->Prop}
  (I:Inv X pins σ H s) (x:qfb X pins H s.heap e C d fl)
  (h:∀s',Inv X pins σ H s'->qfb X pins H s'.heap e C d (fr.elim vW fun f=>xG f)->Q () s'):uT M A (setFlight (.ref e) fr) Q E s:=by
 obtain⟨r,T,rT,oe,vs,oT,ts,he,hc,hdd,hd,h1,hTe,hT,hdT,h3⟩:=x
 have hsz:=(aK.mp h3).1
 unfold setFlight
 refine uB (cZ he hd h1 ?_)
 rw [gT (show (uP T !=vW)=true from by simp)]
 refine aJ hT hdT hsz (h _ ?_ ?_)
 all_goals have oth:∀b,b≠T->(s.heap.update T (wL (·.setIfInBounds 3 (fr.elim vW fun f=>xG f)))).get? b=s.heap.get? b:=fun b hb=>wT _ _ (xP hb)
 .exact Inv.marks (s:=s) (ch:=[T]) (t':=s.toks) I (fun b hb=>by rw [zH.mp hb];exact rT) (fun b o _ h2 q=>(oth b fun z=>h2 (by simp [z])).trans q) fun b o h2 q=>⟨o.slots,(oth b fun z=>h2 (by simp [z])).trans q⟩
 .have he':=(oth e (xP hTe)).trans he
  have d3:=xT hdT (·.setIfInBounds 3 (fr.elim vW fun f=>xG f))
  have hT':=bR (wL (·.setIfInBounds 3 (fr.elim vW fun f=>xG f))) hT (bS d3)
  exact⟨⟨r.nw,r.un,r.pin,⟨oe,vs,he',hd⟩⟩,T,⟨rT.nw,rT.un,rT.pin,⟨_,_,hT',d3⟩⟩,oe,vs,_,_,he',hc,hdd,hd,h1,hTe,hT',d3,by simp [hsz]⟩
theorem flight_x {M:Model} {A:vO} {E:uC->uD->Prop} {e:Addr} {C fl:uC} {d:Option Addr} {Q:Unit->uD->Prop}
  (I:Inv X pins σ H s) (x:qfb X pins H s.heap e C d fl)
  (h:∀s',Inv X pins σ H s'->qfb X pins H s'.heap e C d .none->Q () s'):uT M A (setFlight (.ref e) none) Q E s:=flight_g none I x h
theorem qfb.xin {h:vR} {e:Addr} {C fl:uC} {d:Option Addr} (x:qfb X pins H h e C d fl):XIn X pins H h e C d:=
 let ⟨r,T,rT,q⟩:=x
 ⟨r,.inr ⟨T,rT,_,q⟩⟩
theorem qfb.xinL {h:vR} {e:Addr} {C:uC} {d:Option Addr} (x:qfb X pins H h e C d (xG X.env.locals)):XIn X pins H h e C d:=x.xin
noncomputable def CX1 (P:vB) (w:vL):CXT:=fun outer H s E e s'=>∃(a:Addr) (C:uC) (d:Option Addr) (H':Hp),e=.ref a/\s'.os=s.os/\cV s'.gens/\Un (L2.frs outer) [] H H' s.heap s'.heap/\HOk P w H' s'.heap/\
 s.heap.get? a=none/\H' a=none/\(∃T,s.heap.get? T=none/\H' T=none/\XTr s'.heap a C d .none T)/\E C d H'
noncomputable def Xes (X:Cx) (W:L2.St->XK):Prop:=∀(pins:List (Addr × Obj)) (σ:L2.St) (H:Hp) (s:uD) (a:Addr) (C:uC) (d:Option Addr),Inv X pins σ H s->XIn X pins H s.heap a C d->W σ C d H->X.xe (.ref a) s
theorem xes_call {W:L2.St->XK} (h:Xes X W) (hex:X.ex=[]) {e:uC} {s':uD} (I:Inv X pins σ H s) (q:CX1 X.prog X.w X.stack H s (W σ) e s'):X.xe e s':=by
 obtain⟨a,C,d,H',rfl,os,bare,un,hok,la,na,⟨T,lT,nT,x⟩,w⟩:=q
 have J:Inv X pins σ H' s':=I.call' (ch:=[]) os un hok bare (fun b z=>absurd z (by simp))
 have pn:∀b,s.heap.get? b=none->∀p∈X.pn++pins,p.1≠b:=fun b lb p hp z=>by
  have w:=(I.pin p hp).1
  rw [z,lb] at w
  cases w
 obtain⟨oe,vs,oT,ts,he,hc,hdd,hd,h1,hTe,hT,hdT,h3⟩:=id x
 exact h pins σ H' s' a C d J ⟨⟨new_of I hex la,na,pn a la,⟨oe,vs,he,hd⟩⟩,.inr ⟨T,⟨new_of I hex lT,nT,pn T lT,⟨oT,ts,hT,hdT⟩⟩,_,x⟩⟩ w
end
section
variable {X: Cx} {pins: List (Addr × Obj)} {σ: L2.St} {H: Hp} {s: uD} {W: L2.St -> XK}
noncomputable def XSt (X:Cx) (W:L2.St->XK) (e:uC) (s:uD):Prop:=∃(a:Addr) (C:uC) (d:Option Addr) (σ:L2.St) (H:Hp),e=.ref a/\Inv X [] σ H s/\XIn X [] H s.heap a C d/\W σ C d H
abbrev xw (X:Cx) (W:L2.St->XK):Cx:=X.wish (XSt X W)
theorem Rec.less {h:vR} {b:Addr} (r:Rec X pins H h b):Rec X [] H h b:=⟨r.nw,r.un,fun p hp=>r.pin p (by rw [yA] at hp;exact yG _ hp),r.ob⟩
theorem XIn.less {h:vR} {a:Addr} {C:uC} {d:Option Addr} (x:XIn X pins H h a C d):XIn X [] H h a C d:=by
 obtain⟨r,x⟩:=x
 rcases x with x|⟨T,rT,x⟩
 .exact⟨r.less,.inl x⟩
 .exact⟨r.less,.inr ⟨T,rT.less,x⟩⟩
theorem Rec.unwish {E:uC->uD->Prop} {h:vR} {b:Addr} (r:Rec (X.wish E) pins H h b):Rec X pins H h b:=⟨r.nw,r.un,r.pin,r.ob⟩
theorem XIn.unwish {E:uC->uD->Prop} {h:vR} {a:Addr} {C:uC} {d:Option Addr} (x:XIn (X.wish E) pins H h a C d):XIn X pins H h a C d:=by
 obtain⟨r,x⟩:=x
 rcases x with x|⟨T,rT,x⟩
 .exact⟨r.unwish,.inl x⟩
 .exact⟨r.unwish,.inr ⟨T,rT.unwish,x⟩⟩
theorem qb0:Xes (xw X W) W:=fun pins σ H s a C d I x w=>⟨a,C,d,σ,H,rfl,I.unwish.pins_of (fun _ z=>nomatch z),x.unwish.less,w⟩
theorem qf0 (hst:X.stack=X.env :: X.outer) (hf:X.env.frame=some X.env.locals):PassesOwn (uW X.prog X.w) X.A X.env (XSt X W):=by
 rintro e s' ⟨a,C,d,σ,H,rfl,I,x,w⟩
 show uT _ _ (noteFrame (.ref a) X.env) _ _ s'
 refine note_x I I.ok.frames hst hf x fun s2 I2 x2=>?_
 obtain⟨r,T,rT,oe,vs,oT,ts,he,hc,hdd,hd,h1,r2⟩:=id x2
 unfold cameBackBy
 refine uB (cZ he hd h1 ?_)
 have fin:uT (uW X.prog X.w) X.A (setFlight (.ref a) X.env.frame) (fun _ s''=>XSt X W (.ref a) s'') (XSt X W) s2:=by
  rw [hf]
  exact flight_g (some X.env.locals) I2 x2 fun s3 I3 x3=>⟨a,C,d,σ,H,rfl,I3,qfb.xinL x3,w⟩
 first
  |(rw [gS (show ¬((uP T==vW)=true) from by simp)];exact fin)
  |(rw [gS (show ¬((uP T==vW)=true) from by simp)];exact uB (uI fin))
  |(refine uB ?_;rw [gS (show ¬((uP T==vW)=true) from by simp)];exact uI fin)
theorem PSs.xes {st:List Stmt} {t:TS} (hx:Xes X W) (h:PSs (xw X W) st t):PSs X st t:=fun pins s σ H D I hw=>
 vK (h pins s σ H D (I.wish _) hw) (fun _ _ q=>q.unwish) fun _ _ ⟨a,C,d,σ',H',e,I',x,w⟩=>by subst e;exact hx [] σ' H' _ a C d I' x w
end
section
variable {P: vB} {w: vL} {K: uR} {mg: Str -> Option uC} {base: vR}
theorem xes_fn {N:List Str} {qual:Str} {scope:cU} {f:Addr} {cd:uC} {A:vO} {outer:List Env} {s:uD} {H:Hp} {E:XK}:
  Xes (cxOf (CX1 P w) P w K mg base N qual scope f cd A outer s H E) (fun _=>E):=by
 intro pins σ H1 s1 a C d I x wE
 show uT _ _ (leaving _ _) _ _ s1
 unfold leaving
 refine uB (note_x I I.ok.frames rfl rfl x fun s2 I2 x2=>flight_x I2 x2 fun s3 I3 x3=>?_)
 obtain⟨r,T,rT,xt⟩:=x3
 exact⟨a,C,d,H1,rfl,I3.os,I3.bare,I3.base,I3.hok,r.nw,r.un,⟨T,rT.nw,rT.un,xt⟩,wE⟩
theorem okX {x qual:Str} {st:Stmt} {f:Addr} {fd:uM} {N ps:List Str} {k:Nat} {sp:Sp} (F:Fun K x qual st f fd) (S:FnScope N ps (qaa st)) (len:∀vs H Q E,sp vs H Q E->vs.length=ps.length)
  (hbody:∀(cdv:uC) (A:vO) (outer:List Env) (s:uD) (H:Hp) (vs:List V) (Q:VK) (E:XK),Room k (A.deeper (dQ qual (qaa st) s.heap.objs.size f cdv))->sp vs H Q E->
   ∃t,PSs (xw (cxOf (CX1 P w) P w K mg base N qual (qaa st) f cdv A outer s H E) (fun _=>E)) (qc3 st) t/\t {nx:=fun _ H'=>Q .non H',rt:=Q} (qem N vs) H):FnOk P w K mg base (CX1 P w) (k+1) f fd ps sp:=by
 obtain⟨oc,od,kV,doc,pm,an,cdv,ct,osl,rfl,lk,hcd⟩:=F.ex
 refine fn_of lk hcd S len fun A outer s H vs Q E hr hsp=>?_
 obtain⟨t,ht,q⟩:=hbody cdv A outer s H vs Q E hr hsp
 exact⟨t,PSs.xes xes_fn ht,q⟩
end
section
variable {X: Cx} {k: Nat} {f: Addr} {fd: uM} {ps: List Str} {sp: Sp} {dvs: List V} {ds: List uC} {W: L2.St -> XK} {x: Str} {p pos: Pos} {e: vU} {es: List vU} {t: TA}
noncomputable def tCallX (sp:Sp) (dvs:List V) (W:L2.St->XK) (t:TA):TE:=fun σ H Q=>t σ H fun vs H1=>sp (vs++dvs) H1 Q (W σ)
theorem run_fnX {pins:List (Addr × Obj)} {σ:L2.St} {H:Hp} {s:uD} {Q:VK} {us:List uC} {vs:List V} (F:FnOk X.prog X.w X.K X.mg X.base (CX1 X.prog X.w) k f fd ps sp) (hr:Room k X.A) (hb:qap X.K fd ps ds) (hd:qbi dvs ds) (hx:Xes X W) (hex:X.ex=[])
  (I:Inv X pins σ H s) (r:qbi vs us) (h:sp (vs++dvs) H Q (W σ)):uT (uW X.prog X.w) X.A (call (.ref f) us) (EP X pins σ Q) X.xe s:=by
 have r2:qbi (vs++dvs) (us++ds):=r.append hd
 have hl:(us++ds).length=ps.length:=by rw [<-r2.length];exact F.len _ _ _ _ h
 refine bX (xQ (F.run X.A X.stack s H ⟨us, []⟩ (us++ds) (vs++dvs) Q (W σ) hr I.env0 (hb s us I.kIn hl) r2 h) fun r s' hq=>?_)
 match r,hq with
 | .error e,hq=>exact xes_call hx hex I hq
 | .ok (.ret u),hq=>exact I.after hq
 | .ok .next,hq=>exact vY hq
 | .ok .brk,hq=>exact vY hq
 | .ok .cont,hq=>exact vY hq
theorem qbs (F:FnOk X.prog X.w X.K X.mg X.base (CX1 X.prog X.w) k f fd ps sp) (hr:Room k X.A) (hg:Gl X x) (hm:X.mg x=some (.ref f)) (hk:dO X.K (.ref f)=true) (hb:qap X.K fd ps ds) (hd:qbi dvs ds) (hx:Xes X W)
  (ha:PA X (e :: es) t) (hex:X.ex=[]:=by rfl) (hdb:(x==("__debug__" :Str))=false:=by decide) (he:vC (e :: es) X.env=(false,wH e X.env) :: vC es X.env:=by rfl) (hpl:(wR pos (vC es X.env)).any (·.1)=false:=by rfl):
  PE X (.Call (.Name x p) (e :: es) [] pos) (tCallX sp dvs W t):=by
 intro pins s σ H Q I h
 refine xR (qdw I hg hm ?_ hdb)
 refine xS (h₀:=X.base) I.ok.mod.kin hk (thn (ha pos pins s σ H _ I h) fun us s1 ⟨vs,H1,I1,r,q⟩=>⟨I1.kIn,?_⟩) he hpl
 exact run_fnX F hr hb hd hx hex I1 r q
end
structure XCls (K:uR) (C:Addr):Prop where
 ob:∃(nm q:Str) (N:Addr) (bs bm:List uC) (hdct:Bool) (sn:List Str) (sub:List uC) (ab:Bool) (col:Option Bool) (dd:Option Addr) (k0 k1 k2 k3 k5:Option uC) (mN:Str->Option uC),
  K.lookup C=some (cH nm q C N bs bm hdct sn sub ab col dd k0 k1 k2 k3 k5 "ValueError.__new__")/\(∀h:vR,K.In h->h.Ns N mN)/\mN "__init__" =none/\
  ∀h:vR,K.In h->OwnTail h [.type "ValueError",.type "Exception",.type "BaseException",.type "object"] bm
section
variable {X: Cx} {x: Str} {C: Addr} {W: L2.St -> XK} {np cpos pos: Pos} {e: vU} {es: List vU} {t: TA}
noncomputable def tRaise (t:TA) (C:Addr) (W:L2.St->XK):TS:=fun _ σ H=>t σ H fun xs H1=>xs.length<=sizeLine/\W σ (.ref C) none H1
theorem qc7 (hc:X.calm=true) (M:XCls X.K C) (hg:Gl X x) (hm:X.mg x=some (.ref C)) (hx:Xes X W) (ha:PA X (e :: es) t) (hex:X.ex=[]:=by rfl) (hdb:(x==("__debug__" :Str))=false:=by decide)
  (he:vC (e :: es) X.env=(false,wH e X.env) :: vC es X.env:=by rfl) (hpl:(wR cpos (vC es X.env)).any (·.1)=false:=by rfl):
  PS X (.Raise (some (.Call (.Name x np) (e :: es) [] cpos)) none pos) (tRaise t C W):=by
 intro pins s σ H D I h
 obtain⟨nm,q,N,bs,bm,hdct,sn,sub,ab,col,dd,k0,k1,k2,k3,k5,mN,hC,hN,hni,T⟩:=M.ob
 refine wpAny_Raise_call_subU (C:=C) (nm:=nm) (q:=q) (N:=N) (bs:=bs) (bm:=bm) (hdct:=hdct) (sn:=sn) (sub:=sub) (ab:=ab) (col:=col) (dd:=dd) (k0:=k0) (k1:=k1) (k2:=k2) (k3:=k3) (k5:=k5)
  aL (by decide) aL (mN:=mN) ((T _ I.kIn).hasType PySem.F.excBase_ValueError.hasBase) (I.ok.hd hc) ?_ hni ?_
 .rw [he];show (false ||(wR cpos (vC es X.env)).any (·.1))=false;rw [hpl];rfl
 .refine qdw I hg hm ⟨rfl,?_⟩ hdb
  have z:=ha cpos pins s σ H _ I h
  rw [he] at z ⊢
  refine cG (vK z (fun us s2 ⟨vs,H2,I2,r,hl,q⟩=>⟨rfl,by rw [<-r.length];exact hl,I2.kIn _ _ hC,hN _ I2.kIn,T _ I2.kIn,fun h' a m=>?_⟩) fun _ _ y=>y)
  obtain⟨tp,ea,_,_⟩:=m.there
  have J:Inv X pins σ H2 {s2 with heap:=h'}:=I2.kept (t':=s2.toks) m.keeps
  refine hx pins σ H2 _ a (.ref C) none J ⟨⟨new_of I2 hex m.new,un_of I2.hok m.new,fun p hp y=>?_,⟨_,_,ea,rfl⟩⟩,.inl ⟨_,_,ea,rfl,rfl,rfl,rfl⟩⟩ q
  have w:=(I2.pin p hp).1
  rw [y,m.new] at w
  cases w
end
section
variable {X: Cx} {pins: List (Addr × Obj)}
abbrev pnd (X:Cx) (pins:List (Addr × Obj)):Cx:={X with pn:=X.pn++pins}
abbrev suite (X:Cx) (a:Addr):Cx:={X with A:=X.A.mark (some (.ref a)),calm:=false,xe:=fun _ _=>False}
noncomputable def XO (a:Addr) (C:uC) (d:Option Addr):HO:=.ext fun h=>∃(oe:Obj) (vs:Array uC),h.get? a=some oe/\oe.cls=C/\oe.dict=d/\oe.data=.fields vs
end
section
variable {X: Cx}
noncomputable def tCut (t:TS):TS:=fun D σ H=>∃J:L2.St->Hp->Prop,t {D with nx:=J} σ H/\∀σ' H',J σ' H'->D.nx σ' H'
theorem qe0 {st:Stmt} {t:TS} (h:PS X st t):PS X st (tCut t):=by
 intro pins s σ H D I ⟨J,hw,k⟩
 refine vK (h pins s σ H _ I hw) (fun f s' q=>?_) fun _ _ z=>z
 cases f with
 |next=>obtain⟨σ',H',I',z⟩:=q;exact⟨σ',H',I',k _ _ z⟩
 |brk=>exact q
 |cont=>exact q
 |ret u=>exact q
end
section
noncomputable def gone (i:Nat) (D:Ends):Ends:={nx:=fun σ H=>D.nx (σ.set i none) H,rt:=D.rt,bk:=fun σ H=>D.bk (σ.set i none) H,ct:=fun σ H=>D.ct (σ.set i none) H}
end
theorem qdd {K:uR} {C:Addr} (q:fR K C [.type "ValueError",.type "Exception",.type "BaseException",.type "object"] "ValueError.__new__" =true):XCls K C:=by
 unfold fR at q
 split at q
 .rename_i dd cd sl ho
  split at q
  .rename_i C' bm k0 k1 k2 k3 n k5 hm hs
   simp only [vS,beq_iff_eq,dA] at q
   obtain⟨⟨⟨⟨⟨rfl,rfl⟩,hdel⟩,ht⟩,hok⟩,hni⟩:=q
   obtain⟨nm,bs,mro,ns,qn,hd,sn,sub,ab,col,del⟩:=cd
   dsimp only at hm hdel hok hni
   subst hm hdel
   have hsl:sl= #[k0,k1,k2,k3,some (.builtin "ValueError.__new__"),k5]:=by
    obtain⟨l⟩:=sl
    simp only at hs
    rw [hs]
   subst hsl
   unfold PySem.W.nsOkIn at hok
   split at hok
   .rename_i c1 d1 es ep sl1 hN
    have hSK:StrKeys es:=fun e he=>by
     have z:=gC.mp hok e he
     split at z
     .rename_i n t q;exact⟨n,t,q⟩
     .cases z
    have hNs:∀h:vR,K.In h->h.Ns ns (fun x=>fN es x):=fun h X=>⟨_,es,ep,X _ _ hN,rfl,hSK,fun _=>rfl⟩
    refine⟨nm,qn,ns,bs,bm,hd,sn,sub,ab,col,dd,k0,k1,k2,k3,k5,fun x=>fN es x,ho,hNs,?_,fun h X=>PySem.W.tail_of_in X ht⟩
    unfold xI at hni
    rw [hN] at hni
    dsimp only at hni
    split at hni
    .cases hni
    .rename_i hf
     show fN es "__init__" =none
     unfold fN findBy
     rw [<-fO,hf]
     rfl
   .cases hok
  .cases q
 .cases q
noncomputable def TyX (K:uR) (H:Hp) (x:V) (t:uC) (b:Bool):Prop:=TyOf K H x t\/∃(a:Addr) (d:Option Addr),x=.ref a/\H a=some (XO a t d)/\b=true
noncomputable def rIsi (K:uR):List V->Hp->VK->Prop:=fun xs H Q=>∃(x c:V) (u t:uC) (b:Bool),xs=[x,c]/\qbf c u/\(∀u',qbf c u'->u'=u)/\TyX K H x t b/\cQ K t u=some b/\Q (.bl b) H
theorem isi_yes {prog:vB} {w:vL} {A:vO} {E:uC->uD->Prop} {s:uD} {Q:uC->uD->Prop} {K:uR} {a:Addr} {t c:uC} (KX:K.In s.heap) (hp:∃o,s.heap.get? a=some o/\o.cls=t) (e:cQ K t c=some true)
  (h:Q (.bool true) s):uT (uW prog w) A (call (.builtin "isinstance") [.ref a,c]) Q E s:=by
 refine call_isinstance_of ?_ (by intro q;cases q)
 obtain⟨h0,g,d,tt,os⟩:=s
 obtain⟨o,ho,hc⟩:=hp
 have LT:dI (uW prog w) h0 (typeOf (.ref a)) t:=hc ▸ (PySem.W.Looks.ld ho).andThen .now
 unfold cQ at e
 unfold xU.«isinstance.nested»
 refine uB (LT.at ?_)
 by_cases q:(t==c)=true
 .rw [gT q]
  first
   |exact uB (wpAny_rule (uI h))
   |exact uB (wpAny_rule h)
 .rw [gS q] at e
  rw [gS q]
  obtain⟨hty,his,hsub⟩:=PySem.W.kit_cls (M:=uW prog w) KX e
  have LI:dI (uW prog w) h0 (isInstance (.ref a) c) true:=LT.andThen hsub
  refine uB (hty.at ?_)
  rw [gT (by decide)]
  k_delta "plainIsInstance"
  refine uB (uB (his.at ?_))
  simp only [Bool.not_true,Bool.false_eq_true,if_false]
  refine uB (LI.at ?_)
  first
   |exact uI (uI h)
   |(simp only [if_true];first|exact uI (uI h) |exact uI h|exact uB (uI (uI h)))
theorem qei {X:Cx}:Xes X (fun _ _ _ _=>False):=fun _ _ _ _ _ _ _ _ _ w=>w.elim
section
variable {X: Cx}
theorem qb9:qc9 X (.builtin "isinstance") (rIsi X.K):=by
 intro pins s σ H xs us Q I hv h
 obtain⟨x,c,u,t,b,rfl,hu,hu',ty,e,q⟩:=h
 cases hv with
 |cons r1 hv=>
  cases hv with
  |cons r2 hv=>
   cases hv
   rename_i v1 v2
   rw [hu' v2 r2]
   rcases ty with ty|⟨a,d,rfl,ea,rfl⟩
   .exact isinst_ok I r1 ty e fun tk=>⟨.bl b,H,I.tok tk,rfl,q⟩
   .cases r1
    obtain⟨⟨oe,vs,h1,h2,_⟩,_⟩:=(show qbo X.prog X.w H s.heap a (XO a t d) from I.hok a _ ea)
    exact isi_yes I.kIn ⟨oe,h1,h2⟩ e ⟨.bl true,H,I,rfl,q⟩
noncomputable def rIsN:R2:=fun x y H Q=>y=.non/\Q (.bl (decide (x=.non))) H
noncomputable def rNotN:R2:=fun x y H Q=>y=.non/\Q (.bl (!decide (x=.non))) H
noncomputable def rLen (K:uR):List V->Hp->VK->Prop:=fun xs H Q=>∃p ys,xs=[.ref p]/\(SqL K H p ys\/SqT K H p ys)/\Q (.int ys.length) H
theorem qay:qc9 X (.builtin "len") (rLen X.K):=call_len_seq
theorem op_isNN:OpR X (wB .Is) rIsN:=op_isN
theorem qg6:OpR X (wB .IsNot) rNotN:=op_notN
end
section
variable {K: uR} {H: Hp} {Q: VK}
theorem r_isi {x:V} {T:String} {t:uC} {b:Bool} (ty:TyOf K H x t) (e:cQ K t (.type T)=some b) (h:Q (.bl b) H):rIsi K [x,.ty T] H Q:=⟨x,_,_,t,b,rfl,rfl,fun _ z=>z,.inl ty,e,h⟩
end
section
variable {K: uR}
theorem kit_int_int:cQ K (.type "int") (.type "int")=some true:=by rfl
theorem kit_int_bool:cQ K (.type "int") (.type "bool")=some false:=by rfl
theorem kit_str_str:cQ K (.type "str") (.type "str")=some true:=by rfl
theorem kit_lst_lst:cQ K (.type "list") (.type "list")=some true:=by rfl
theorem kit_tup_tup:cQ K (.type "tuple") (.type "tuple")=some true:=by rfl
theorem kit_dct_dct:cQ K (.type "dict") (.type "dict")=some true:=by rfl
end
section
variable {K: uR} {σ σ': L2.St} {H H1: Hp} {Q: VK} {D: Ends} {ta tb te: TE} {t u: TS} {c c': TT} {ar: TA} {v x y: V} {i j: Nat}
theorem qah {N:List Str} {vs:List V} (e:qem N vs=σ) (h:t D σ H):t D (qem N vs) H:=e ▸ h
theorem r_var (e:σ[i]?=some (some v)) (h:Q v H):tVar i σ H Q:=⟨v,e,h⟩
theorem r_c (h:Q v H):tC v σ H Q:=h
theorem r_op {r:R2} (h:ta σ H fun x H1=>tb σ H1 fun y H2=>r x y H2 Q):tOp r ta tb σ H Q:=h
theorem r_I0 {g:Int->Int->V} {i j:Int} (h:Q (g i j) H):rI0 g (.int i) (.int j) H Q:=⟨i,j,rfl,rfl,h⟩
theorem r_I {C:Int->Int->Prop} {g:Int->Int->V} {i j:Int} (hc:C i j) (h:Q (g i j) H):rI C g (.int i) (.int j) H Q:=⟨i,j,rfl,rfl,hc,h⟩
theorem r_eqI {i j:Int} (h:Q (.bl (decide (i=j))) H):rEq (.int i) (.int j) H Q:=⟨rfl,by
 have e:decide (V.int i=V.int j)=decide (i=j):=by by_cases z:i=j <;> simp [z]
 rw [e];exact h⟩
theorem r_neI {i j:Int} (h:Q (.bl (!decide (i=j))) H):rNe (.int i) (.int j) H Q:=⟨rfl,by
 have e:decide (V.int i=V.int j)=decide (i=j):=by by_cases z:i=j <;> simp [z]
 rw [e];exact h⟩
theorem r_exb {b:Bool} {Q:Bool->Prop} (h:Q b):∃k,V.bl b=.bl k/\Q k:=⟨b,rfl,h⟩
theorem r_test {Q:Bool->Hp->Prop} (h:te σ H fun x H'=>∃k,x=.bl k/\Q k H'):tTest te σ H Q:=h
theorem r_tB {Q:Bool->Hp->Prop} (h:te σ H fun x H'=>∃k,x=.bl k/\Q k H'):tB te σ H Q:=h
theorem r_and {Q:Bool->Hp->Prop} (h:c σ H fun b H1=>if b=true then c' σ H1 Q else Q false H1):tAnd c c' σ H Q:=h
theorem r_or {Q:Bool->Hp->Prop} (h:c σ H fun b H1=>if b=true then Q true H1 else c' σ H1 Q):tOr c c' σ H Q:=h
theorem r_not {Q:Bool->Hp->Prop} (h:c σ H fun b H1=>Q (!b) H1):tNot c σ H Q:=h
theorem r_andV (h:ta σ H fun x H1=>∃k,x=.bl k/\if k=true then tb σ H1 Q else Q (.bl false) H1):tAndV ta tb σ H Q:=h
theorem r_orV (h:ta σ H fun x H1=>∃k,x=.bl k/\if k=true then Q (.bl true) H1 else tb σ H1 Q):tOrV ta tb σ H Q:=h
theorem r_notV (h:ta σ H fun x H1=>∃k,x=.bl k/\Q (.bl (!k)) H1):tNotV ta σ H Q:=h
theorem r_ifE (h:c σ H fun b H1=>if b=true then ta σ H1 Q else tb σ H1 Q):tIf c ta tb σ H Q:=h
theorem r_next (h:D.nx σ H):tNext D σ H:=h
theorem r_seq (h:t {nx:=u D,rt:=D.rt,bk:=D.bk,ct:=D.ct} σ H):tSeq t u D σ H:=h
theorem r_drop (h:te σ H fun _ H1=>D.nx σ H1):tDrop te D σ H:=h
theorem r_ret (h:te σ H D.rt):tRet te D σ H:=h
theorem r_if (h:c σ H fun b H1=>if b=true then t D σ H1 else u D σ H1):tIfS c t u D σ H:=h
theorem r_asg {g:TG} (h:te σ H fun x H1=>g x σ H1 D.nx):tAsg te g D σ H:=h
theorem r_name {Q:L2.St->Hp->Prop} (e:σ.set i (some v)=σ') (h:Q σ' H):qgd i v σ H Q:=by subst e;exact h
theorem r_gnil {Q:L2.St->Hp->Prop} (h:Q σ H):gNil [] σ H Q:=⟨rfl,h⟩
theorem r_gcons {g:TG} {gs:TGs} {vs:List V} {Q:L2.St->Hp->Prop} (h:g v σ H fun σ' H'=>gs vs σ' H' Q):gCons g gs (v :: vs) σ H Q:=⟨v,vs,rfl,h⟩
theorem r_gtup {n:Nat} {gs:TGs} {a:Addr} {xs:List V} {Q:L2.St->Hp->Prop} (hS:SqT K H a xs) (hn:xs.length=n) (h:gs xs σ H Q):gTup K n gs (.ref a) σ H Q:=⟨a,xs,rfl,hS,hn,h⟩
theorem r_nx {f b c:L2.St->Hp->Prop} {r:VK} (h:f σ H):Ends.nx {nx:=f,rt:=r,bk:=b,ct:=c} σ H:=h
theorem r_rt {f b c:L2.St->Hp->Prop} {r:VK} (h:r v H):Ends.rt {nx:=f,rt:=r,bk:=b,ct:=c} v H:=h
theorem r_nil {Q:List V->Hp->Prop} (h:Q [] H):tNil σ H Q:=h
theorem r_cons {Q:List V->Hp->Prop} (h:te σ H fun x H1=>ar σ H1 fun xs H2=>Q (x :: xs) H2):tCons te ar σ H Q:=h
theorem r_tup (h:ar σ H fun xs H1=>xs.length<=sizeLine/\∀p,H1 p=none->Q (.ref p) (upd H1 p (.tup xs))):tTup ar σ H Q:=h
theorem r_lst (h:ar σ H fun xs H1=>xs.length<=sizeLine/\∀p,H1 p=none->Q (.ref p) (upd H1 p (.lst xs))):tLst ar σ H Q:=h
theorem r_new {xs:List V} {A:Prop} (hn:xs.length<=sizeLine) (h:A):xs.length<=sizeLine/\A:=⟨hn,h⟩
theorem r_call {sp:Sp} {E:XK} (h:ar σ H fun vs H1=>sp vs H1 Q E):tCall sp [] E ar σ H Q:=by
 have e:(fun vs H1=>sp (vs++ []) H1 Q E)=fun vs H1=>sp vs H1 Q E:=by funext vs H1;rw [yA]
 show ar σ H fun vs H1=>sp (vs++ []) H1 Q E
 rw [e];exact h
theorem r_callX {sp:Sp} {W:L2.St->XK} (h:ar σ H fun vs H1=>sp vs H1 Q (W σ)):tCallX sp [] W ar σ H Q:=by
 have e:(fun vs H1=>sp (vs++ []) H1 Q (W σ))=fun vs H1=>sp vs H1 Q (W σ):=by funext vs H1;rw [yA]
 show ar σ H fun vs H1=>sp (vs++ []) H1 Q (W σ)
 rw [e];exact h
theorem r_cb {r:List V->Hp->VK->Prop} (h:ar σ H fun vs H1=>r vs H1 Q):tCB r ar σ H Q:=h
theorem r_raise {C:Addr} {W:L2.St->XK} (h:ar σ H fun xs H1=>xs.length<=sizeLine/\W σ (.ref C) none H1):tRaise ar C W D σ H:=h
theorem qb3 {p:Addr} {xs:List V} {k:Int} (hS:SqL K H p xs) (e:atI xs k=some v) (h:Q v H):rIxL K (.ref p) (.int k) H Q:=⟨p,xs,k,v,rfl,rfl,hS,e,h⟩
theorem r_ixT {p:Addr} {xs:List V} {k:Int} (hS:SqT K H p xs) (e:atI xs k=some v) (h:Q v H):rIxT K (.ref p) (.int k) H Q:=⟨p,xs,k,v,rfl,rfl,hS,e,h⟩
theorem r_fresh {R:Addr->Prop} (h:∀p,H p=none->R p):∀p,H p=none->R p:=h
theorem r_menu {p:Addr} {xs:List Int} {r:Int} (hS:SqL K H p (xs.map V.int)) (h0:0<=r) (h1:r < xs.length) (h:∀m,m∈xs->Q (.int m) H):rIxL K (.ref p) (.int r) H Q:=by
 have hk:r.toNat < xs.length:=by omega
 have ek:r=((r.toNat:Nat):Int):=by omega
 have q:atI (xs.map V.int) ((r.toNat:Nat):Int)=some (.int xs[r.toNat]):=qax (by rw [zC,zA hk] <;> rfl)
 rw [<-ek] at q
 exact⟨p,_,r,_,rfl,rfl,hS,q,h _ (zM hk)⟩
theorem r_cut0 (h:t {nx:=D.nx,rt:=D.rt,bk:=D.bk,ct:=D.ct} σ H):tCut t D σ H:=⟨D.nx,h,fun _ _ z=>z⟩
theorem r_cut (J:L2.St->Hp->Prop) (h:t {nx:=J,rt:=D.rt,bk:=D.bk,ct:=D.ct} σ H) (k:∀σ' H',J σ' H'->D.nx σ' H'):tCut t D σ H:=⟨J,h,k⟩
theorem r_lenT {p:Addr} {ys:List V} (hS:SqT K H p ys) (h:Q (.int ys.length) H):rLen K [.ref p] H Q:=⟨p,ys,rfl,.inr hS,h⟩
theorem r_lenL {p:Addr} {ys:List V} (hS:SqL K H p ys) (h:Q (.int ys.length) H):rLen K [.ref p] H Q:=⟨p,ys,rfl,.inl hS,h⟩
theorem r_isNn (h:Q (.bl true) H):rIsN .non .non H Q:=⟨rfl,h⟩
theorem r_isNr {a:Addr} (h:Q (.bl false) H):rIsN (.ref a) .non H Q:=⟨rfl,h⟩
theorem r_notNn (h:Q (.bl false) H):rNotN .non .non H Q:=⟨rfl,h⟩
end
section
variable {K: uR} {σ: L2.St} {H: Hp} {D: Ends} {wi: TI} {g: TG} {tb: TS} {tl: TE} {ta: TA}
noncomputable def FOR (J:It) (g:TG) (tb:TS) (D:Ends) (σ:L2.St) (H:Hp):Prop:=∃W:Nat->Nat->L2.St->Hp->Prop,(∃m,W 0 m σ H)/\∀i m σ H,W i m σ H->
 (J.stop i H/\D.nx σ H)\/(J.go i H/\∃N:L2.St->Hp->Prop,(∀σ' H',N σ' H'->∃m',m' < m/\W (i+1) m' σ' H')/\∀x H',J.yld i H x H'->g x σ H' fun σ2 H2=>tb {D with nx:=N,ct:=N,bk:=D.nx} σ2 H2)
noncomputable def rItL (K:uR) (x:V) (H:Hp) (R:It->Hp->Prop):Prop:=∃a,x=.ref a/\(∃xs,SqL K H a xs)/\R (Itl K a) H
noncomputable def rItR (vs:List V) (H:Hp) (R:It->Hp->Prop):Prop:=∃j:Int,vs=[.int j]/\-(2^62)<=j/\j < 2^62/\R (Itr 0 j.toNat) H
theorem r_for (h:wi σ H fun J H1=>FOR J g tb D σ H1):tFor wi g tb D σ H:=h
theorem r_iL {R:It->Hp->Prop} (h:tl σ H fun x H1=>rItL K x H1 R):iList K tl σ H R:=h
theorem r_iR {R:It->Hp->Prop} (h:ta σ H fun vs H1=>rItR vs H1 R):iRng1 ta σ H R:=h
theorem r_itL {a:Addr} {xs:List V} {R:It->Hp->Prop} (hS:SqL K H a xs) (h:R (Itl K a) H):rItL K (.ref a) H R:=⟨a,rfl,⟨xs,hS⟩,h⟩
theorem r_itR {j:Int} {R:It->Hp->Prop} (h0: -(2^62)<=j) (h1:j < 2^62) (h:R (Itr 0 j.toNat) H):rItR [.int j] H R:=⟨j,rfl,h0,h1,h⟩
theorem qcz {a:Addr} {xs:List V} (Pv:Nat->L2.St->Hp->Prop) (h0:Pv 0 σ H) (hl:∀i σ H,i<=xs.length->Pv i σ H->SqL K H a xs)
  (hs:∀i x σ H,xs[i]?=some x->Pv i σ H->g x σ H fun σ2 H2=>tb {nx:=Pv (i+1),rt:=D.rt,bk:=D.nx,ct:=Pv (i+1)} σ2 H2) (hd:∀σ H,Pv xs.length σ H->D.nx σ H):FOR (Itl K a) g tb D σ H:=for_list Pv h0 hl hs hd
theorem qd2 {lo:Int} {n:Nat} (Pv:Nat->L2.St->Hp->Prop) (h0:Pv 0 σ H)
  (hs:∀(i:Nat) σ H,i < n->Pv i σ H->g (.int (lo+i)) σ H fun σ2 H2=>tb {nx:=Pv (i+1),rt:=D.rt,bk:=D.nx,ct:=Pv (i+1)} σ2 H2) (hd:∀σ H,Pv n σ H->D.nx σ H):FOR (Itr lo n) g tb D σ H:=for_range Pv h0 hs hd
end
theorem qae {H:Hp} {a p:Addr} {o o':HO} (h:H a=some o) (n:H p=none):upd H p o' a=some o:=by rw [qa6 (qa7 h n)];exact h
theorem sqL_new {K:uR} {H:Hp} {a p:Addr} {o:HO} {xs:List V} (h:SqL K H a xs) (n:H p=none):SqL K (upd H p o) a xs:=(qa9 n o).seq h
theorem sqT_new {K:uR} {H:Hp} {a p:Addr} {o:HO} {xs:List V} (h:SqT K H a xs) (n:H p=none):SqT K (upd H p o) a xs:=same_tup (qa9 n o) h
theorem qfz {H0 H:Hp} {p:Addr} {o:HO} (h:qar H0 H) (n:H p=none):qar H0 (upd H p o):=h.trans (qa9 n o)
theorem i_t {c A B:Prop} [Decidable c] (h:c) (hA:A):if decide c=true then A else B:=by rw [gU h];exact iteT hA
theorem i_f {c A B:Prop} [Decidable c] (h:¬c) (hB:B):if decide c=true then A else B:=by rw [gW h];exact iteF hB
theorem i_2 {c A B:Prop} [Decidable c] (h1:c->A) (h2:¬c->B):if decide c=true then A else B:=by
 by_cases h:c
 .exact i_t h (h1 h)
 .exact i_f h (h2 h)
theorem i_nt {c A B:Prop} [Decidable c] (h:¬c) (hA:A):if (!decide c)=true then A else B:=by rw [gW h];exact iteT hA
theorem i_nf {c A B:Prop} [Decidable c] (h:c) (hB:B):if (!decide c)=true then A else B:=by rw [gU h];exact iteF hB
theorem i_nT {A B:Prop} (h:B):if (!true)=true then A else B:=h
theorem i_nF {A B:Prop} (h:A):if (!false)=true then A else B:=iteT h
theorem i_b2 {b:Bool} {A B:Prop} (h1:b=true->A) (h2:b=false->B):if b=true then A else B:=by
 cases b
 .exact iteF (h2 rfl)
 .exact iteT (h1 rfl)
noncomputable def AllC {α:Type} (f:α->Prop):List α->Prop
 | []=>True
 |a :: l=>f a/\AllC f l
theorem AllC.mem {α:Type} {f:α->Prop}:∀{l:List α},AllC f l->∀a∈l,f a
 | [],_,_,h=>absurd h (by simp)
 |b :: l,h,a,m=>by
  rcases zR.mp m with rfl|m
  .exact h.1
  .exact AllC.mem h.2 a m
noncomputable def qbk (caps:List Nat) (σ:L2.St):L2.St:=caps.map fun j=>(σ[j]?).getD none
noncomputable def rApp (acc:Addr) (N:Hp->Prop) (y:V) (H:Hp):Prop:=∃ys,H acc=some (.lst ys)/\ys.length < sizeLine/\N (upd H acc (.lst (ys++ [y])))
noncomputable def COMP (J:It) (caps:List Nat) (tt:TT) (te:TE) (acc:Addr) (σ:L2.St) (H:Hp) (Q:VK):Prop:=∃W:Nat->Nat->Hp->Prop,(∃m,W 0 m H)/\∀i m H,W i m H->
 (J.stop i H/\Q (.ref acc) H)\/(J.go i H/\∃N:Hp->Prop,(∀H',N H'->∃m',m' < m/\W (i+1) m' H')/\∀v H',J.yld i H v H'->tt (some v :: qbk caps σ) H' fun b H2=>
  if b=true then te (some v :: qbk caps σ) H2 fun y H3=>rApp acc N y H3 else N H2)
abbrev CT (α:Type):=Addr->uD->Hp->List Addr->α
noncomputable def tComp (wi:TI) (caps:List Nat) (tt:CT TT) (te:CT TE):TE:=fun σ H Q=>wi σ H fun J H1=>∀(C:Addr) (s:uD) (H0:Hp) (fp:List Addr) (acc:Addr),H1 acc=none->COMP J caps (tt C s H0 fp) (te C s H0 fp) acc σ (upd H1 acc (.lst [])) Q
noncomputable def tTrue:TT:=fun _ H Q=>Q true H
noncomputable def PIfs (X:Cx) (ifs:List vU) (t:TT):Prop:=
 ∀(pins:List (Addr × Obj)) (s:uD) (σ:L2.St) (H:Hp) (Q:Bool->Hp->Prop),Inv X pins σ H s->t σ H Q->
  uT (uW X.prog X.w) X.A (forIn ifs true fun c r=>if r=true then do let ok<-isTrue c X.env (wH c X.env);pure (aY ok) else pure (aY r)) (TP X pins σ Q) X.xe s
theorem qd8 {X:Cx}:PIfs X [] tTrue:=fun pins s σ H Q I h=>wpAny_tests_nil ⟨H,I,h⟩
theorem qck {X:Cx} {c:vU} {t:TT} (h:PT X c t):PIfs X [c] t:=fun pins s σ H Q I hw=>wpAny_tests_one (h pins s σ H Q I hw)
noncomputable def cxC (X:Cx) (N:List Str) (scope:cU) (cl:List (Str × Addr)) (C:Addr) (s:uD) (H:Hp) (fp:List Addr):Cx where
 prog:=X.prog
 w:=X.w
 K:=X.K
 mg:=X.mg
 base:=X.base
 A:=X.A
 N:=N
 s₀:=s
 H₀:=H
 env:=aM scope cl C X.env
 outer:=X.stack
 stack:=X.stack
 ex:=fp
 fn:=fun _=>false
 calm:=X.calm
 pn:=[]
 xe:=fun _ _=>False
structure Caps (X:Cx) (x:Str) (scope:cU) (cl:List (Str × Addr)) (caps:List Nat) (cn:List Str):Prop where
 clos:closureFor scope X.env=pure cl
 kind:scope.kind=.function
 cell:∀y∈scope.names,y.2≠ .cell
 names:∀y∈scope.names,y.2=.local->scope.names.lookup y.1=some .local
 tg:scope.names.lookup x=some .local
 sub:∀y c,cl.lookup y=some c->X.env.cells.lookup y=some c
 has:∀y,((relabel scope X.env).names.lookup y=some .cell\/(relabel scope X.env).names.lookup y=some .free)->∃c,cl.lookup y=some c
 len:caps.length=cn.length
 cap:∀(k:Nat) (y:Str) (j:Nat),cn[k]?=some y->caps[k]?=some j->X.N[j]?=some y/\X.env.kindOf y=some .cell/\(relabel scope X.env).names.lookup y=some .cell/\X.env.scope.names.lookup y=some .cell/\∃c,cl.lookup y=some c
 nd:(x :: cn).Nodup
section
variable {X: Cx} {pins: List (Addr × Obj)} {σ: L2.St} {H: Hp} {s: uD}
theorem Inv.comp {x:Str} {scope:cU} {cl:List (Str × Addr)} {caps:List Nat} {cn:List Str} (Cp:Caps X x scope cl caps cn) (I:Inv X pins σ H s) {fp:List Addr} (hf:∀b∈fp,FpOk X pins H b) (hlt:∀b∈fp,b < s.heap.objs.size) {h₁:vR} {t':Nat}
  (hns:h₁.Ns s.heap.objs.size (fun _=>none)) (k:∀b o,s.heap.get? b=some o->h₁.get? b=some o):
  Inv (cxC X (x :: cn) scope cl s.heap.objs.size s H fp) [] (none :: qbk caps σ) H {s with heap:=h₁,toks:=t'}:=by
 have cne:∀y c,cl.lookup y=some c->∃v,s.heap.IsCell c v:=fun y c e=>I.cell y c (Cp.sub y c e)
 have ltC:∀y c,cl.lookup y=some c->c < s.heap.objs.size:=fun y c e=>let ⟨v,q⟩:=cne y c e;q.lt
 have isC:∀c v,s.heap.IsCell c v->h₁.IsCell c v:=fun c v ⟨o,e,d⟩=>⟨o,k c o e,d⟩
 refine⟨⟨I.ok.mod,Cp.kind,I.ok.glob,I.ok.blt,uG _,fun y z c e1 e2=>I.ok.inj y z c (Cp.sub y c e1) (Cp.sub z c e2),fun y hy=>Cp.has y hy,fun y c z=>(uE z).elim,I.ok.hd,I.ok.frames,.inl rfl,
  fun b hb=>⟨vD (hlt b hb),fun y c e z=>?_⟩,I.bs,vP I.ok.bsz I.sz,fun b o e hb=>?_,fun b hb z=>?_,I.stack,I.stkFree⟩,
  rfl,I.bare,Un.kept k,⟨_,hns,fun i y v e1 e2 e3=>?_⟩,fun y c e=>?_,I.hok.fresh (uG _),fun y c e=>I.freeC y c (Cp.sub y c e),fun p hp=>absurd (show p∈([]:List (Addr × Obj)) from hp) (by simp),I.hok.kept k,?_⟩
 .exact(hf b hb).2.2.2.2.1 y c (Cp.sub y c e) z
 .rcases(hf b hb).2.2.2.1 with z|z
  .exact I.ok.noex b o e z
  .exact absurd (vI (uN e) (vP I.ok.bsz z)) (wD _)
 .rcases zR.mp (I.stkSub b z) with z|z
  .exact(hf b hb).2.1 z
  .exact(hf b hb).2.2.1 z
 .cases i with
  |zero=>cases e2
  |succ i=>
   have e1':cn[i]?=some y:=by simpa [cxC] using e1
   have e2':(qbk caps σ)[i]?=some (some v):=by simpa using e2
   unfold qbk at e2'
   rw [zC] at e2'
   obtain⟨j,hj,ej⟩:=uU.mp e2'
   obtain⟨c1,c2,c3,c5,c,c4⟩:=Cp.cap i y j e1' hj
   cases hs:σ[j]? with
   |none=>rw [hs] at ej;cases ej
   |some w=>
    rw [hs] at ej
    have ej':w=some v:=ej
    subst ej'
    obtain⟨m,hn,hl⟩:=I.loc
    obtain⟨u,r,l⟩:=hl j y v c1 hs (.inr (.inl c5))
    refine⟨u,r,.inr ⟨.inl c3,c,c4,?_⟩⟩
    rcases l with ⟨l,_⟩ |⟨_,c',e',q⟩
    .rw [c2] at l;cases l
    .rw [Cp.sub y c c4] at e'
     cases e'
     exact isC _ _ q
 .obtain⟨v,q⟩:=cne y c e
  exact⟨v,isC c v q⟩
 .show (none :: qbk caps σ).length=(x :: cn).length
  rw [zZ,zZ]
  unfold qbk
  rw [zB,Cp.len]
theorem Inv.uncomp {N:List Str} {scope:cU} {cl:List (Str × Addr)} {C:Addr} {σ':L2.St} {H':Hp} {s':uD} {fp:List Addr} (I:Inv X pins σ H s) (hf:∀b∈fp,FpOk X pins H b) (hC:C=s.heap.objs.size)
  (J:Inv (cxC X N scope cl C s H fp) [] σ' H' s') {h':vR} (sb:bH C s'.heap h'):Inv X pins σ H' {s' with heap:=h'}:=by
 have ne:∀b o,s.heap.get? b=some o->b≠C:=fun b o e=>by rw [hC];exact vD (uN e)
 have u:Un (frs X.stack) fp H H' s.heap s'.heap:=J.base
 have hok:HOk X.prog X.w H' h':=fun b o e=>by
  refine(J.hok b o e).stay (fun c u' hc q=>(sb.2 c ?_).trans q) (fun _ q=>q) fun _ _ q=>q
  intro z
  have n:H' C=none:=J.free
  rcases hc with hc|hc
  .rw [<-hc,z,n] at e;cases e
  .rw [z,n] at hc;cases hc
 refine I.call' (s':={s' with heap:=h'}) (ch:=fp) J.os ⟨fun b o e n hb hx=>(sb.2 b (ne b o e)).trans (u.keep b o e n hb hx),fun b o e n hb hx=>?_,u.free,fun b o e hx=>?_,u.tups,u.frzs,u.tbls⟩ hok J.bare fun b hb=>?_
 .obtain⟨sl,q⟩:=u.slot b o e n hb hx
  exact⟨sl,(sb.2 b (ne b o e)).trans q⟩
 .obtain⟨o',q⟩:=u.there b o e hx
  exact⟨o',(sb.2 b (ne b o e)).trans q⟩
 .obtain⟨f0,f1,f2,f3,f4,f5⟩:=hf b hb
  exact⟨f3,f1,f4,f5⟩
end
section
variable {X: Cx}
theorem qbp {elt iter:vU} {x:Str} {px:Pos} {ifs:List vU} {scope:cU} {cl:List (Str × Addr)} {pos:Pos} {caps:List Nat} {cn:List Str} {wi:TI} {tt:CT TT} {te:CT TE} (Cp:Caps X x scope cl caps cn) (hc:X.calm=true)
  (hi:PI X (.Name x px) iter wi) (ht:∀C s H fp,PIfs (cxC X (x :: cn) scope cl C s H fp) ifs (tt C s H fp)) (he:∀C s H fp,PE (cxC X (x :: cn) scope cl C s H fp) elt (te C s H fp))
  (hs:∀x,fW iter X.env x=pure x:=by intro _;rfl):
  PE X (.ListComp elt [⟨.Name x px,iter,ifs,0⟩] scope pos) (tComp wi caps tt te):=by
 intro pins s σ H Q I h
 rw [eval_ListComp]
 refine wpAny_comprehension_free (use:=none) rfl hs Cp.clos Cp.kind Cp.names (thn (hi pins s σ H _ I h) fun v s1 h1=>thn h1 fun itv s2 h2=>?_)
 obtain⟨it,fp,tn,J,H2,e,I2,T,st2,f2,R⟩:=h2
 subst e
 have hacc:H2 s2.heap.objs.size=none:=I2.hok.fresh (uG _)
 refine wG ?_
 have I3:Inv X pins σ (upd H2 s2.heap.objs.size (.lst [])) {s2 with heap:=s2.heap.push {cls:=.type "list",dict:=none,data:=.seq ([]:List uC).toArray}}:=Inv.lnew (its:=[]) (t':=s2.toks) I2 .nil (wC _)
 have lt2:∀b∈fp,b < s2.heap.objs.size:=fun b hb=>let ⟨o,e,_⟩:=T.obj _ _ st2 b hb;uN e
 have f3:∀b∈fp,FpOk X pins (upd H2 s2.heap.objs.size (.lst [])) b:=fun b hb=>⟨by rw [qa6 (vD (lt2 b hb))];exact(f2 b hb).1,(f2 b hb).2⟩
 have st3:tn 0 (s2.heap.push {cls:=.type "list",dict:=none,data:=.seq ([]:List uC).toArray}):=T.keep _ _ _ st2 fun b _ o e=>uF _ e
 generalize hs3:({s2 with heap:=s2.heap.push {cls:=.type "list",dict:=none,data:=.seq ([]:List uC).toArray}}:uD)=s3 at I3 ⊢
 have st3':tn 0 s3.heap:=by rw [<-hs3];exact st3
 generalize s2.heap.objs.size=acc at hacc I3 f3 ⊢
 obtain⟨W,⟨m0,w0⟩,turn⟩:=R s3.heap.objs.size s3 (upd H2 acc (.lst [])) fp acc hacc
 have lt3:∀b∈fp,b < s3.heap.objs.size:=fun b hb=>let ⟨o,e,_⟩:=T.obj _ _ st3' b hb;uN e
 clear st3 hs3
 refine wpAny_newFunctionEnv Cp.cell (by intro y hy;simp at hy) (fun h₁ hns hsb=>?_) Cp.kind
 have k1:∀b o,s3.heap.get? b=some o->h₁.get? b=some o:=fun b o e=>hsb.extBut b o (vD (uN e)) (uF _ e)
 have I4:Inv (cxC X (x :: cn) scope cl s3.heap.objs.size s3 (upd H2 acc (.lst [])) fp) [] (none :: qbk caps σ) (upd H2 acc (.lst [])) {s3 with heap:=h₁,toks:=s3.toks+([]:List (Str × uC)).length}:=
  Inv.comp Cp I3 f3 lt3 hns k1
 have st4:tn 0 h₁:=T.keep _ _ _ st3' fun b _ o e=>k1 b o e
 generalize hX:cxC X (x :: cn) scope cl s3.heap.objs.size s3 (upd H2 acc (.lst [])) fp=X' at I4
 have stat:∀{H':Hp},(∀b∈fp,H' b=none)->∀b∈fp,FpOk X' [] H' b:=fun hn b hb=>by
  subst hX
  obtain⟨g0,g1,g2,g3,g4,g5⟩:=f3 b hb
  refine⟨hn b hb,vD (lt3 b hb),fun z=>?_,.inl hb,fun y c e=>g4 y c (Cp.sub y c e),fun p hp=>absurd (show p∈([]:List (Addr × Obj)) from hp) (by simp)⟩
  rcases zR.mp (I3.stkSub b z) with z|z
  .exact g1 z
  .exact g2 z
 have core:cN (uW X.prog X.w) X.A (.compLoop (.ListComp elt [⟨.Name x px,iter,ifs,0⟩] scope pos) 0 (.ref it) (.ref acc) (aM scope cl s3.heap.objs.size X.env))
   (compPost (uW X.prog X.w) X.A X.xe none (EP X pins σ Q) (.ref acc) s3.heap.objs.size) {s3 with heap:=h₁,toks:=s3.toks+([]:List (Str × uC)).length}:=by
  refine codeAny_loop rfl (fun n s'=>∃i a H',Inv X' [] (a :: qbk caps σ) H' s'/\tn i s'.heap/\(∀b∈fp,H' b=none)/\W i n H') (fun n s5 hI=>?_) m0 ⟨0,none,_,I4,st4,fun b hb=>(f3 b hb).1,w0⟩
  obtain⟨i,a0,H5,I5,st5,fr5,w5⟩:=hI
  show uT _ _ ((compTurn _ 0 _ _ _).onRaise _) _ _ s5
  refine wpAny_noted ?_
  rw [compTurn_list]
  refine uB (aC (uB ?_))
  have aX:X'.A=X.A:=by subst hX;rfl
  have pX:X'.prog=X.prog:=by subst hX;rfl
  have wX:X'.w=X.w:=by subst hX;rfl
  have kX:X'.K=X.K:=by subst hX;rfl
  have cX:X'.calm=true:=by subst hX;exact hc
  have eX:X'.env=aM scope cl s3.heap.objs.size X.env:=by subst hX;rfl
  rcases turn i n H5 w5 with ⟨stop,qn⟩ |⟨go,N,hN,step⟩
  .have z:=T.done X' pX wX kX cX i [] s5 _ H5 (fun _ _=>False) I5 (stat fr5) st5 stop
   rw [aX] at z
   refine vK z (fun r s6 ⟨hr,I6⟩=>?_) fun _ _ q=>q.elim
   subst hr
   subst hX
   obtain⟨m,hm,_⟩:=id I6.loc
   exact uI ⟨m,hm,fun h' sb=>⟨.ref acc,H5,Inv.uncomp I3 f3 rfl I6 sb,rfl,qn⟩⟩
  .have z:=T.item X' pX wX kX cX i [] s5 _ H5 (fun _ _=>False) I5 (stat fr5) st5 go
   rw [aX] at z
   refine vK z (fun r s6 ⟨u,hr,h6⟩=>?_) fun _ _ q=>q.elim
   subst hr
   refine uB (vK h6 (fun _ s7 ⟨v,H7,I7,r7,y7,st7,fr7⟩=>?_) fun _ _ q=>q.elim)
   have I7':=I7.pinned (stat fr7) (T.obj _ _ st7)
   have asg:uT (uW X.prog X.w) X.A (fM (.Name x px) (aM scope cl s3.heap.objs.size X.env) u) (fun _ s8=>Inv X' ([]++qcm fp s7.heap) (some v :: qbk caps σ) H7 s8) (fun _ _=>False) s7:=by
    subst hX
    exact cW (qeo (X:=cxC X (x :: cn) scope cl s3.heap.objs.size s3 (upd H2 acc (.lst [])) fp) (i:=0) I7' Cp.nd rfl (.inl (cI Cp.tg)) r7 (fun s' I'=>I') (.inr (cI Cp.tg)))
   refine uB (vK asg (fun _ s8 I8=>?_) fun _ _ q=>q.elim)
   have tst:uT (uW X.prog X.w) X.A (forIn ifs true fun c r=>if r=true then do let ok<-isTrue c (aM scope cl s3.heap.objs.size X.env) (wH c (aM scope cl s3.heap.objs.size X.env));pure (aY ok) else pure (aY r))
     (TP X' ([]++qcm fp s7.heap) (some v :: qbk caps σ) (fun b H9=>if b=true then te s3.heap.objs.size s3 (upd H2 acc (.lst [])) fp (some v :: qbk caps σ) H9 (fun y H3=>rApp acc N y H3) else N H9)) (fun _ _=>False) s8:=by
    subst hX
    exact ht _ _ _ _ _ s8 _ H7 _ I8 (step v H7 y7)
   refine uB (vK tst (fun b s9 ⟨H9,I9,q9⟩=>?_) fun _ _ q=>q.elim)
   have fin:∀{a:Option V} {H10:Hp} {s10:uD},Inv X' ([]++qcm fp s7.heap) (a :: qbk caps σ) H10 s10->N H10->∃m',m' < n/\∃i a H',Inv X' [] (a :: qbk caps σ) H' s10/\tn i s10.heap/\(∀b∈fp,H' b=none)/\W i m' H':=fun {a H10 s10} I10 n10=>
    let ⟨m',hm,w10⟩:=hN _ n10
    ⟨m',hm,i+1,a,H10,I10.unpinned,T.keep _ _ _ st7 fun b hb o e=>(I10.pin (b,o) (zX _ (zX _ (qcg hb e)))).1,fun b hb=>by
     obtain⟨o,e,d⟩:=T.obj _ _ st7 b hb
     exact(I10.pin (b,o) (zX _ (zX _ (qcg hb e)))).2.1,w10⟩
   cases b with
   |false=>exact uI ⟨rfl,fin I9 q9⟩
   |true=>
    have elt':uT (uW X.prog X.w) X.A (wH elt (aM scope cl s3.heap.objs.size X.env)) (EP X' ([]++qcm fp s7.heap) (some v :: qbk caps σ) (fun y H3=>rApp acc N y H3)) (fun _ _=>False) s9:=by
     subst hX
     exact he _ _ _ _ _ s9 _ H9 _ I9 q9
    refine uB (uB (vK elt' (fun y s10 ⟨w,H10,I10,r10,ys,ha,hz,q10⟩=>?_) fun _ _ q=>q.elim))
    have app:uT (uW X.prog X.w) X.A (call (.builtin "list.append") [.ref acc,y]) (EP X' ([]++qcm fp s7.heap) (some v :: qbk caps σ) fun _ H11=>H11=upd H10 acc (.lst (ys++ [w]))) (fun _ _=>False) s10:=by
     subst hX
     exact qbe (X:=cxC X (x :: cn) scope cl s3.heap.objs.size s3 (upd H2 acc (.lst [])) fp) _ s10 _ H10 (.ref acc) [w] (.ref acc) [y] _ I10 rfl (.cons r10 .nil) ⟨acc,ys,w,rfl,rfl,ha,hz,rfl⟩
    refine uB (vK app (fun _ s11 ⟨_,H11,I11,_,e11⟩=>?_) fun _ _ q=>q.elim)
    subst e11
    exact uI (uI ⟨rfl,fin I11 q10⟩)
 exact codeAny_compStart_list core (T.self _ 0 _ _ _ st4 core)
noncomputable def Its (x:Str):It:=⟨fun i _=>i < x.cps.size,fun i H v H'=>H'=H/\∃c,x.cps[i]?=some c/\v=.str ⟨#[c]⟩,fun i _=>i=x.cps.size⟩
theorem turn_str {P:vB} {w:vL} {K:uR} {y:Str} {py:Pos} (x:Str) (t:Tok) (it:Addr) (ty:String) (W:∀A:vO,A.handled=none->Walks P w A it [it] [it] x.cps.size (SignAt x) (fun i h=>h.IsStrIter it ty x t i))
  (hself:∀(A:vO) (i:Nat) (s:uD) (Q:uC->uD->Prop) (E:uC->uD->Prop),s.heap.IsStrIter it ty x t i->Q (.ref it) s->uT (uW P w) A (pyIter (.ref it)) Q E s):
  Turn P w K (.Name y py) (Its x) [it] it (fun i h=>h.IsStrIter it ty x t i) where
 mem:=by simp
 obj:=fun i h st b hb=>by
  have e:b=it:=by simpa using hb
  subst e
  obtain⟨o,e,c,d⟩:=st
  exact⟨o,e,fun v z=>by rw [d] at z;cases z⟩
 keep:=fun i h h' ⟨o,e,r⟩ k=>⟨o,k it (by simp) o e,r⟩
 item:=by
  intro X hP hw hK hc i pins s σ H E I hf st hg
  subst hP hw hK
  obtain⟨f0,f1,f2,f3,f4,f5⟩:=hf it (by simp)
  refine(W X.A (I.ok.hd hc)).item i s _ _ hg st fun v h' tk hv st' k=>?_
  have I1:Inv X pins σ H {s with heap:=h',toks:=tk}:=I.turned (t':=tk) (fun b o hb e=>k b o (fun z=>hb (by simpa using z)) e) f0 f1 f3 f4 f5
  obtain⟨c,u,hx,rfl⟩:=hv
  exact⟨_,rfl,uI ⟨.str ⟨#[c]⟩,H,I1,⟨_,rfl⟩,⟨rfl,c,hx,rfl⟩,st',fun b hb=>(hf b hb).1⟩⟩
 done:=by
  intro X hP hw hK hc i pins s σ H E I hf st hg
  subst hP hw hK
  have hg':i=x.cps.size:=hg
  subst hg'
  obtain⟨f0,f1,f2,f3,f4,f5⟩:=hf it (by simp)
  exact(W X.A (I.ok.hd hc)).done s _ _ st fun h' tk k=>⟨rfl,I.turned (t':=tk) (fun b o hb e=>k b o (fun z=>hb (by simpa using z)) e) f0 f1 f3 f4 f5⟩
 self:=hself
noncomputable def rItS (v:V) (H:Hp) (R:It->Hp->Prop):Prop:=∃x,v=.str x/\R (Its x) H
noncomputable def iStr (tl:TE):TI:=fun σ H R=>tl σ H fun v H1=>rItS v H1 R
end
end My
namespace L2
open PySem PySem.Spec PyProof.Rows
section
variable {κ: Type} [DecidableEq κ]
noncomputable def qcq (kvs:List (κ × V)) (k:κ):Option V:=(kvs.find? fun kv=>decide (kv.1=k)).map (·.2)
noncomputable def qct (kvs:List (κ × V)) (k:κ) (v:V):List (κ × V):=
 if (kvs.any fun kv=>decide (kv.1=k))=true then kvs.map (fun kv=>if kv.1=k then (kv.1,v) else kv) else kvs++ [(k,v)]
theorem qbw {p:κ × V} {r:List (κ × V)} {k:κ} (e:p.1=k):qcq (p :: r) k=some p.2:=by simp [qcq,yL,e]
theorem qbx {p:κ × V} {r:List (κ × V)} {k:κ} (e:¬p.1=k):qcq (p :: r) k=qcq r k:=by simp [qcq,yL,e]
theorem qce (k:κ):∀kvs:List (κ × V),(kvs.any fun kv=>decide (kv.1=k))=(qcq kvs k).isSome
 | []=>rfl
 |p :: r=>by
  rw [xC]
  by_cases e:p.1=k
  .simp only [qbw e,gU e,dS,Option.isSome_some]
  .rw [qbx e,gW e,cB];exact qce k r
theorem valV_map (k j:κ) (y:V):∀kvs:List (κ × V),qcq (kvs.map fun kv=>if kv.1=k then (kv.1,y) else kv) j=(qcq kvs j).map fun x=>if j=k then y else x
 | []=>rfl
 |p :: r=>by
  have ih:=valV_map k j y r
  rw [zS]
  by_cases h:p.1=k
  .rw [gT h]
   by_cases e:p.1=j
   .rw [qbw (p:=(p.1,y)) e,qbw e,dZ,gT (e.symm.trans h)]
   .rw [qbx (p:=(p.1,y)) e,qbx e,ih]
  .rw [gS h]
   by_cases e:p.1=j
   .rw [qbw (p:=p) e,qbw e,dZ,gS (fun z=>h (e.trans z))]
   .rw [qbx (p:=p) e,qbx e,ih]
theorem valV_snoc (k j:κ) (y:V):∀kvs:List (κ × V),qcq kvs k=none->qcq (kvs++ [(k,y)]) j=if j=k then some y else qcq kvs j
 | [],_=>by
  by_cases e:k=j
  .rw [gT e.symm];exact qbw (p:=(k,y)) e
  .rw [gS (fun z=>e z.symm)];exact qbx (p:=(k,y)) e
 |p :: r,hn=>by
  rw [List.cons_append]
  have hk:¬p.1=k:=fun z=>by rw [qbw z] at hn;cases hn
  rw [qbx hk] at hn
  have ih:=valV_snoc k j y r hn
  by_cases e:p.1=j
  .rw [qbw e,qbw e,gS (fun z=>hk (e.trans z))]
  .rw [qbx e,qbx e,ih]
theorem valV_put (kvs:List (κ × V)) (k j:κ) (y:V):qcq (qct kvs k y) j=if j=k then some y else qcq kvs j:=by
 unfold qct
 by_cases a:(kvs.any fun kv=>decide (kv.1=k))=true
 .rw [gT a,valV_map]
  rw [qce] at a
  by_cases e:j=k
  .obtain⟨x,hx⟩:=dG.mp a
   rw [gT e,e,hx,dZ,gT rfl]
  .rw [gS e]
   cases qcq kvs j with
   |none=>rfl
   |some x=>rw [dZ,gS e]
 .rw [gS a]
  refine valV_snoc k j y kvs ?_
  rw [qce] at a
  cases q:qcq kvs k with
  |none=>rfl
  |some x=>rw [q] at a;exact(a rfl).elim
theorem qc6 (kvs:List (κ × V)) (k:κ) (v:V):(qct kvs k v).length<=kvs.length+1:=by
 unfold qct
 split
 .rw [zB];omega
 .rw [zK,zZ,xA];omega
theorem qep {kvs:List (κ × V)} {k:κ} (v:V) (h:qcq kvs k=none):qct kvs k v=kvs++ [(k,v)]:=by
 unfold qct
 rw [qce,h]
 exact gS (by decide)
theorem qgj.isSome_eq {o:Option V} {u:Option uC} (r:qgj o u):o.isSome=u.isSome:=by
 cases o with
 |none=>cases u with
  |none=>rfl
  |some _=>exact(show False from r).elim
 |some _=>cases u with
  |none=>exact(show False from r).elim
  |some _=>rfl
theorem qgj.getD {o:Option V} {u:Option uC} {d:V} {d':uC} (r:qgj o u) (rd:qbf d d'):qbf (o.getD d) (u.getD d'):=by
 cases o with
 |none=>cases u with
  |none=>exact rd
  |some _=>exact(show False from r).elim
 |some _=>cases u with
  |none=>exact(show False from r).elim
  |some _=>exact r
theorem KV.val {kvs:List (κ × V)} {vs:List (κ × uC)} (r:KV kvs vs) (k:κ):qgj (qcq kvs k) (dU vs k):=by
 unfold KV at r
 induction r with
 |nil=>exact wO
 | @cons p q ps qs h t ih=>
  obtain⟨h1,h2⟩:=h
  by_cases e:p.1=k
  .have e':q.1=k:=h1.symm.trans e
   have b:dU (q :: qs) k=some q.2:=by simp [dU,yL,e']
   rw [qbw e,b];exact h2
  .have e':¬q.1=k:=fun z=>e (h1.trans z)
   have b:dU (q :: qs) k=dU qs k:=by simp [dU,yL,e']
   rw [qbx e,b];exact ih
theorem KV.any {kvs:List (κ × V)} {vs:List (κ × uC)} (r:KV kvs vs) (k:κ):(kvs.any fun kv=>decide (kv.1=k))=vs.any fun kv=>decide (kv.1=k):=by
 unfold KV at r
 induction r with
 |nil=>rfl
 |cons h t ih=>rw [xC,xC,ih,h.1]
theorem KV.repl {kvs:List (κ × V)} {vs:List (κ × uC)} (r:KV kvs vs) (k:κ) {y:V} {u:uC} (ry:qbf y u):
  KV (kvs.map fun kv=>if kv.1=k then (kv.1,y) else kv) (vs.map fun kv=>if kv.1=k then (kv.1,u) else kv):=by
 unfold KV at r ⊢
 induction r with
 |nil=>exact .nil
 | @cons p q ps qs h t ih=>
  rw [zS,zS]
  refine .cons ?_ ih
  obtain⟨h1,h2⟩:=h
  by_cases e:p.1=k
  .rw [gT e,gT (h1.symm.trans e)];exact⟨h1,ry⟩
  .rw [gS e,gS (fun z=>e (h1.trans z))];exact⟨h1,h2⟩
theorem KV.put {kvs:List (κ × V)} {vs:List (κ × uC)} (r:KV kvs vs) (k:κ) {y:V} {u:uC} (ry:qbf y u):KV (qct kvs k y) (stored vs k u):=by
 unfold qct stored
 rw [r.any k]
 by_cases e:(vs.any fun kv=>decide (kv.1=k))=true
 .rw [gT e,gT e];exact r.repl k ry
 .rw [gS e,gS e];exact Paired.snoc r ⟨rfl,ry⟩
theorem KV.keys {kvs:List (κ × V)} {vs:List (κ × uC)} (r:KV kvs vs):kvs.map (·.1)=vs.map (·.1):=by
 unfold KV at r
 induction r with
 |nil=>rfl
 |cons h t ih=>rw [zS,zS,ih,h.1]
theorem KV.length {kvs:List (κ × V)} {vs:List (κ × uC)} (r:KV kvs vs):kvs.length=vs.length:=Paired.length r
end
theorem kV_is {P:vB} {w:vL} {k:Key} {u:uC} (r:qbf (kV k) u):(qbd P w).is k u=true:=by
 cases k with
 |inl i=>obtain⟨t,e⟩:=(show ∃t,u=aP i t from r);subst e;exact mixKind_int P w i t
 |inr x=>obtain⟨t,e⟩:=(show ∃t,u=eY x t from r);subst e;exact mixKind_str P w x t
theorem items_are {P:vB} {w:vL}:∀{ks:List Key} {us:List uC},qbi (ks.map kV) us->ItemsAre (qbd P w) ks us
 | [],_,r=>by rw [fY] at r;cases r;exact .nil
 |k :: ks,_,r=>by
  rw [zS] at r
  cases r with
  |cons h t=>exact .cons (kV_is h) (items_are t)
abbrev KT (H:Hp):List (List Key × V)->List (List Key × Addr × uC)->Prop:=Paired fun p q=>p.1=q.1/\H q.2.1=some (.tup (p.1.map kV))/\qbf p.2 q.2.2
theorem KT.val {H:Hp} {kvs:List (List Key × V)} {xs:List (List Key × Addr × uC)} (r:KT H kvs xs) (k:List Key):qgj (qcq kvs k) ((atKey xs k).map (·.2)):=by
 induction r with
 |nil=>exact wO
 | @cons p q ps qs h t ih=>
  obtain⟨h1,_,h2⟩:=h
  by_cases e:p.1=k
  .have e':q.1=k:=h1.symm.trans e
   have b:atKey (q :: qs) k=some q.2:=by simp [atKey,yL,e']
   rw [qbw e,b];exact h2
  .have e':¬q.1=k:=fun z=>e (h1.trans z)
   have b:atKey (q :: qs) k=atKey qs k:=by simp [atKey,yL,e']
   rw [qbx e,b];exact ih
theorem KT.repl {H:Hp} {kvs:List (List Key × V)} {xs:List (List Key × Addr × uC)} (r:KT H kvs xs) (k:List Key) {y:V} {u:uC} (ry:qbf y u):
  KT H (kvs.map fun kv=>if kv.1=k then (kv.1,y) else kv) (xs.map (putAt k u)):=by
 induction r with
 |nil=>exact .nil
 | @cons p q ps qs h t ih=>
  rw [zS,zS]
  refine .cons ?_ ih
  obtain⟨h1,h2,h3⟩:=h
  unfold putAt
  by_cases e:p.1=k
  .rw [gT e,gT (h1.symm.trans e)];exact⟨h1,h2,ry⟩
  .rw [gS e,gS (fun z=>e (h1.trans z))];exact⟨h1,h2,h3⟩
theorem KT.put {H:Hp} {kvs:List (List Key × V)} {xs:List (List Key × Addr × uC)} (r:KT H kvs xs) (k:List Key) {b:Addr} {y:V} {u:uC} (hb:H b=some (.tup (k.map kV))) (ry:qbf y u):
  KT H (qct kvs k y) (storedH xs k b u):=by
 have e:(kvs.any fun kv=>decide (kv.1=k))=(atKey xs k).isSome:=by
  rw [qce,(r.val k).isSome_eq,dB]
 unfold qct storedH
 rw [e]
 by_cases q:(atKey xs k).isSome=true
 .rw [gT q,gT q];exact r.repl k ry
 .rw [gS q,gS q];exact Paired.snoc r ⟨rfl,hb,ry⟩
theorem KT.keeps {H H':Hp} {kvs:List (List Key × V)} {xs:List (List Key × Addr × uC)} (r:KT H kvs xs) (ht:∀b ys,H b=some (.tup ys)->H' b=some (.tup ys)):KT H' kvs xs:=
 Paired.mapP r fun _ _ z=>⟨z.1,ht _ _ z.2.1,z.2.2⟩
section
variable {P: vB} {w: vL} {H: Hp} {h: vR} {a: Addr}
theorem rd_of {u:HO} (ok:HOk P w H h) (e:Rd H a u):qbo P w H h a u:=e.ok ok
theorem qfg {kvs:List (Key × V)} (ok:HOk P w H h) (e:Rd H a (.dK kvs)):kvs.length<=sizeLine/\(a==wN)=false/\∃vs,KV kvs vs/\h.DictOf (qbd P w) a vs:=
 show qbo P w H h a (.dK kvs) from rd_of ok e
theorem dk_of {kvs:List (Key × V)} (ok:HOk P w H h) (e:H a=some (.dK kvs)):kvs.length<=sizeLine/\(a==wN)=false/\∃vs,KV kvs vs/\h.DictOf (qbd P w) a vs:=qfg ok (.inl e)
theorem key_of {ks:List Key} (ok:HOk P w H h) (e:H a=some (.tup (ks.map kV))):(cP (qbd P w)).is h ks a:=by
 obtain⟨_,its,r,o,h1,h2,n,h3⟩:=(show qbo P w H h a (.tup (ks.map kV)) from ok a _ e)
 exact⟨o,its.toArray,n,h1,h2,h3,by simpa using items_are r⟩
theorem dt_rd {kvs:List (List Key × V)} (ok:HOk P w H h) (e:Rd H a (.dT kvs)):kvs.length<=sizeLine/\(a==wN)=false/\
  ∃xs,KT H kvs xs/\h.DictOfH (cP (qbd P w)) a xs:=by
 obtain⟨z,y,xs,r,o,es,ep,h1,h2,h3,h4,h5⟩:=(show qbo P w H h a (.dT kvs) from rd_of ok e)
 refine⟨z,y,xs,r,o,es,ep,h1,h2,h3,h4,fun x hx=>?_,h5⟩
 have all:∀{l:List (List Key × V)} {m:List (List Key × Addr × uC)},KT H l m->∀x∈m,(cP (qbd P w)).is h x.1 x.2.1:=by
  intro l m q
  induction q with
  |nil=>intro x hx;exact nomatch hx
  | @cons p q ps qs hq t ih=>
   intro x hx
   rcases zR.mp hx with e|hx
   .subst e
    exact key_of ok (by rw [<-hq.1];exact hq.2.1)
   .exact ih x hx
 exact all r x hx
theorem dt_of {kvs:List (List Key × V)} (ok:HOk P w H h) (e:H a=some (.dT kvs)):kvs.length<=sizeLine/\(a==wN)=false/\
  ∃xs,KT H kvs xs/\h.DictOfH (cP (qbd P w)) a xs:=dt_rd ok (.inl e)
end
noncomputable def DGet (H:Hp) (a:Addr) (y:V) (r:Option V):Prop:=
 (∃kvs k,Rd H a (.dK kvs)/\y=kV k/\r=qcq kvs k)\/∃kvs k b,Rd H a (.dT kvs)/\y=.ref b/\H b=some (.tup (k.map kV))/\r=qcq kvs k
noncomputable def DPut (H:Hp) (a:Addr) (y v:V) (H':Hp):Prop:=
 (∃kvs k,H a=some (.dK kvs)/\y=kV k/\kvs.length < sizeLine/\H'=upd H a (.dK (qct kvs k v)))\/
 ∃kvs k b,H a=some (.dT kvs)/\y=.ref b/\H b=some (.tup (k.map kV))/\kvs.length < sizeLine/\H'=upd H a (.dT (qct kvs k v))
theorem DPut.k {H:Hp} {a:Addr} {kvs:List (Key × V)} {k:Key} {v:V} (e:H a=some (.dK kvs)) (hl:kvs.length < sizeLine):DPut H a (kV k) v (upd H a (.dK (qct kvs k v))):=.inl ⟨kvs,k,e,rfl,hl,rfl⟩
theorem DPut.t {H:Hp} {a b:Addr} {kvs:List (List Key × V)} {k:List Key} {v:V} (e:H a=some (.dT kvs)) (eb:H b=some (.tup (k.map kV))) (hl:kvs.length < sizeLine):
  DPut H a (.ref b) v (upd H a (.dT (qct kvs k v))):=.inr ⟨kvs,k,b,e,rfl,eb,hl,rfl⟩
section
variable {X: Cx} {pins: List (Addr × Obj)} {σ: St} {H: Hp} {s: uD} {a: Addr} {y v: V} {u r: uC} {o: Option V} {A: vO} {E: uC -> uD -> Prop}
theorem Inv.big (I:Inv X pins σ H s):wN < s.heap.objs.size:=by
 have h:uS < s.heap.objs.size:=(I.mod.glob.keeps I.bk).lt
 exact Nat.lt_trans (by decide) h
theorem d_getItem {Q:uC->uD->Prop} (hu:A.units+1 < cLine) (I:Inv X pins σ H s) (g:DGet H a y (some v)) (ry:qbf y u) (h:∀w' s',Inv X pins σ H s'->qbf v w'->Q w' s'):
  uT (uW X.prog X.w) A (getItem (.ref a) u) Q E s:=by
 rcases g with ⟨kvs,k,e,ey,l⟩ |⟨kvs,k,b,e,ey,eb,l⟩
 .subst ey
  obtain⟨z,hd,vs,rel,dd⟩:=qfg I.hok e
  obtain⟨w',hw,rw'⟩:=qgj.some_of (v:=v) (o:=dU vs k) (by rw [l];exact rel.val k)
  exact wpAny_getItem_of (kV_is ry) dd.mapOf hw (h w' _ (I.tok _) rw')
 .subst ey
  cases (show u=uP b from ry)
  obtain⟨z,hd,xs,rel,dd⟩:=dt_rd I.hok e
  obtain⟨w',hw,rw'⟩:=qgj.some_of (v:=v) (o:=(atKey xs k).map (·.2)) (by rw [l];exact rel.val k)
  obtain⟨p,hp,hp2⟩:=uU.mp hw
  refine wpAny_getItem_heap (cR hu) (key_of I.hok eb) dd hp ?_
  rw [hp2]
  exact h w' _ (I.tok _) rw'
theorem d_in {Q:uC->uD->Prop} (hu:A.units+1 < cLine) (I:Inv X pins σ H s) (g:DGet H a y o) (ry:qbf y u) (h:∀s',Inv X pins σ H s'->Q (.bool o.isSome) s'):
  uT (uW X.prog X.w) A (wB .In u (.ref a)) Q E s:=by
 rcases g with ⟨kvs,k,e,ey,l⟩ |⟨kvs,k,b,e,ey,eb,l⟩
 .subst ey
  obtain⟨z,hd,vs,rel,dd⟩:=qfg I.hok e
  refine wpAny_in_of (kV_is ry) hd dd.mapOf ?_
  rw [<-(rel.val k).isSome_eq,<-l]
  exact h _ (I.tok _)
 .subst ey
  cases (show u=uP b from ry)
  obtain⟨z,hd,xs,rel,dd⟩:=dt_rd I.hok e
  refine wpAny_in_heap (cR hu) (key_of I.hok eb) hd dd ?_
  have q:=(rel.val k).isSome_eq
  rw [dB] at q
  rw [<-q,<-l]
  exact h _ (I.tok _)
theorem d_write {h':vR} {t':Nat} {ob:HO} (I:Inv X pins σ H s) (mu:Mut (H a)) (hs:bH a s.heap h') (he:∃q,h'.get? a=some q) (new:qbo X.prog X.w (upd H a ob) h' a ob):
  Inv X pins σ (upd H a ob) {s with heap:=h',toks:=t'}:=
 I.write (x:=a) (e:=a) mu (.inl rfl) (fun b q hb z=>(hs.2 b hb).trans z) he new
theorem dk_new {P:vB} {w:vL} {H':Hp} {h':vR} {kvs:List (Key × V)} {vs:List (Key × uC)} (z:kvs.length<=sizeLine) (hd:(a==wN)=false) (rel:KV kvs vs) (dd:h'.DictOf (qbd P w) a vs):
  qbo P w H' h' a (.dK kvs):=⟨z,hd,vs,rel,dd⟩
theorem d_setItem {H':Hp} {Q:Unit->uD->Prop} (hu:A.units+1 < cLine) (I:Inv X pins σ H s) (g:DPut H a y v H') (ry:qbf y u) (rv:qbf v r) (h:∀s',Inv X pins σ H' s'->Q () s'):
  uT (uW X.prog X.w) A (setItem (.ref a) u r) Q E s:=by
 rcases g with ⟨kvs,k,e,ey,l,eH⟩ |⟨kvs,k,b,e,ey,eb,l,eH⟩
 .subst ey eH
  obtain⟨z,hd,vs,rel,dd⟩:=dk_of I.hok e
  have hz:vs.length<=sizeLine:=by rw [<-rel.length];exact z
  have hl:(qct kvs k v).length<=sizeLine:=by have:=qc6 kvs k v;omega
  refine wpAny_setItem_pairs (hsz:=hz) (kV_is ry) dd fun h' dd' hs=>h _ ?_
  have he:∃q,h'.get? a=some q:=let ⟨q,_,_,hq,_⟩:=dd';⟨q,hq⟩
  exact d_write I (by rw [e];exact wO) hs he (dk_new hl hd (rel.put k rv) dd')
 .subst ey eH
  cases (show u=uP b from ry)
  obtain⟨z,hd,xs,rel,dd⟩:=dt_of I.hok e
  have hz:xs.length<=sizeLine:=by rw [<-Paired.length rel];exact z
  have hl:(qct kvs k v).length<=sizeLine:=by have:=qc6 kvs k v;omega
  refine wpAny_setItem_heap (hsz:=hz) (cR hu) (key_of I.hok eb) dd fun h' dd' hs=>h _ ?_
  obtain⟨q,es,ep,hq,h2,h3,h4,_,h5⟩:=dd'
  refine d_write I (by rw [e];exact wO) hs ⟨q,hq⟩ ⟨hl,hd,_,(rel.put k eb rv).keeps fun c ys ec=>?_,q,es,ep,hq,h2,h3,h4,h5⟩
  rw [qa6 (ne_of ec e (fun z=>nomatch z))]
  exact ec
end
section
variable {X: Cx} {pins: List (Addr × Obj)} {σ: St} {H: Hp} {s: uD} {a: Addr} {kvs: List (Key × V)} {A: vO} {E: uC -> uD -> Prop}
theorem d_len {Q:uC->uD->Prop} (I:Inv X pins σ H s) (e:Rd H a (.dK kvs)) (h:∀t s',Inv X pins σ H s'->Q (.int kvs.length t) s'):uT (uW X.prog X.w) A (call (.builtin "len") [.ref a]) Q E s:=by
 obtain⟨z,hd,vs,rel,dd⟩:=qfg I.hok e
 refine call_len_dict hd dd (by rw [<-rel.length];rw [bC] at z;omega) ?_
 rw [<-rel.length]
 exact h _ _ (I.tok _)
end
noncomputable def NoSl (i:vU):Prop:=∀ov iv,subscripted i false ov iv=operate [ov,iv] (getItem ov iv)
theorem subD_of {prog:vB} {w:vL} {A:vO} {E:uC->uD->Prop} {s:uD} {env:Env} {value slice:vU} {pos:Pos} {T id:String} {Q:uC->uD->Prop}
  (hl:typeLookup (.type T) "__getitem__" =pure (some (.builtin id))) (hs:NoSl slice)
  (h:uT (uW prog w) A (wH value env) (fun o s₁=>uT (uW prog w) A (wH slice env) (fun i s₂=>s₂.TypeIs o T/\uT (uW prog w) A (getItem o i) Q E s₂) E s₁) E s):
  uT (uW prog w) A (wH (.Subscript value slice pos) env) Q E s:=by
 refine Subscript_ (vK h (fun o s₁ h₁=>vK h₁ (fun i s₂ h₂=>?_) fun _ _ x=>x) fun _ _ x=>x)
 obtain⟨hT,h₂⟩:=h₂
 unfold subscriptTail
 refine uB ?_
 rw [getitemInPython_of_ne hT.not_modules]
 refine uB (wpAny_specialOf hT hl ?_)
 have fin:uT (uW prog w) A (subscripted slice false o i) (fun r s₃=>uT (uW prog w) A (letTemporaryGo value o r >>= fun _=>pure r) Q E s₃) E s₂:=by
  rw [hs o i]
  exact wpAny_operating (vK h₂ (fun r s₃ h₃=>uB (wpAny_letTemporaryGo (uI h₃))) fun _ _ x=>x)
 first
  |exact uI (uB fin)
  |exact uB (uI (uB fin))
  |exact uB fin
theorem dict_typeIs {X:Cx} {pins:List (Addr × Obj)} {σ:St} {H:Hp} {s:uD} {a:Addr} {y:V} {o:Option V} (I:Inv X pins σ H s) (g:DGet H a y o):s.TypeIs (.ref a) "dict":=by
 rcases g with ⟨kvs,k,e,_,_⟩ |⟨kvs,k,b,e,_,_,_⟩
 .obtain⟨_,_,vs,_,dd⟩:=qfg I.hok e
  exact dd.typeIs
 .obtain⟨_,_,xs,_,dd⟩:=dt_rd I.hok e
  exact dd.typeIs
noncomputable def tDGet (td ty:TE):TE:=fun σ H Q=>td σ H fun x H1=>ty σ H1 fun y H2=>∃a v,x=.ref a/\DGet H2 a y (some v)/\Q v H2
noncomputable def tDIn (ty td:TE):TE:=fun σ H Q=>ty σ H fun y H1=>td σ H1 fun x H2=>∃a o,x=.ref a/\DGet H2 a y o/\Q (.bl o.isSome) H2
noncomputable def sDPut (td ty tv:TE):TS:=fun D σ H=>tv σ H fun v H1=>td σ H1 fun x H2=>ty σ H2 fun y H3=>∃a H4,x=.ref a/\DPut H3 a y v H4/\D.nx σ H4
noncomputable def sDAug (td ty tv:TE) (rd:V->V->Hp->VK->Prop):TS:=fun D σ H=>td σ H fun x H1=>ty σ H1 fun y H2=>∃a v,x=.ref a/\DGet H2 a y (some v)/\
 tv σ H2 fun y2 H3=>rd v y2 H3 fun z H4=>∃H5,DPut H4 a y z H5/\D.nx σ H5
section
variable {X: Cx} {o i value: vU} {pos pos' tpos: Pos} {td ty tv: TE}
theorem qbt (hu:X.A.units+1 < cLine) (ho:PE X o td) (hi:PE X i ty) (hs:NoSl i):PE X (.Subscript o i pos) (tDGet td ty):=by
 intro pins s σ H Q I h
 refine subD_of PySem.F.slot_dict_getitem.lookup hs (thn (ho pins s σ H _ I h) fun u s1 ⟨x,H1,I1,rx,q1⟩=>thn (hi pins s1 σ H1 _ I1 q1) fun iv s2 ⟨y,H2,I2,ry,a,v,ex,g,q2⟩=>?_)
 subst ex
 obtain rfl:u=uP a:=rx
 exact⟨dict_typeIs I2 g,d_getItem hu I2 g ry fun w' s3 I3 rw'=>⟨v,H2,I3,rw',q2⟩⟩
theorem pc_din (hu:X.A.units+1 < cLine) (hi:PE X i ty) (ho:PE X o td):PC X .In i o (tDIn ty td):=by
 intro pins s σ H Q I h
 refine thn (hi pins s σ H _ I h) fun iv s1 ⟨y,H1,I1,ry,q1⟩=>thn (ho pins s1 σ H1 _ I1 q1) fun u s2 ⟨x,H2,I2,rx,a,ov,ex,g,q2⟩=>?_
 subst ex
 obtain rfl:u=uP a:=rx
 exact d_in hu I2 g ry fun s3 I3=>⟨.bl ov.isSome,H2,I3,rfl,q2⟩
theorem qea (hu:X.A.units+1 < cLine) (ho:PE X o td) (hi:PE X i ty) (hv:PE X value tv) (hs:eZ value (some (.Subscript o i pos')) pos.line X.env=pure false):
  PS X (.Assign [.Subscript o i pos'] value pos) (sDPut td ty tv):=by
 intro pins s σ H D I h
 refine wpAny_Assign_Subscript (thn (hv pins s σ H _ I h) fun r s1 ⟨v,H1,I1,rv,q1⟩=>thn (ho pins s1 σ H1 _ I1 q1) fun u s2 ⟨x,H2,I2,rx,q2⟩=>thn (hi pins s2 σ H2 _ I2 q2) fun iv s3 ⟨y,H3,I3,ry,a,H4,ex,g,q3⟩=>?_) hs
 subst ex
 obtain rfl:u=uP a:=rx
 exact d_setItem hu I3 g ry rv fun s4 I4=>⟨σ,H4,I4,q3⟩
theorem ps_daug {op:Operator} {rd:V->V->Hp->VK->Prop} (hu:X.A.units+1 < cLine) (ho:PE X o td) (hi:PE X i ty) (hv:PE X value tv) (hop:InOp X op rd)
  (ha:∀ov iv new,augStore i ov iv new=(do holding [new,ov,iv] (setItem ov iv new);release [new,ov,iv] [];pure .next)):PS X (.AugAssign (.Subscript o i tpos) op value pos) (sDAug td ty tv rd):=by
 intro pins s σ H D I h
 refine wpAny_AugAssign_SubscriptAny (thn (ho pins s σ H _ I h) fun u s1 ⟨x,H1,I1,rx,q1⟩=>thn (hi pins s1 σ H1 _ I1 q1) fun iv s2 ⟨y,H2,I2,ry,a,v,ex,g,q2⟩=>?_) ha
 subst ex
 obtain rfl:u=uP a:=rx
 refine d_getItem hu I2 g ry fun w' s3 I3 rw'=>thn (hv pins s3 σ H2 _ I3 q2) fun w2 s4 ⟨y2,H3,I4,ry2,q3⟩=>thn (hop pins s4 σ H3 v y2 w' w2 _ I4 rw' ry2 q3) fun w3 s5 ⟨z,H4,I5,rz,H5,g5,q4⟩=>?_
 exact d_setItem hu I5 g5 ry rz fun s6 I6=>⟨σ,H5,I6,q4⟩
end
theorem dk_empty {P:vB} {w:vL} {H:Hp} (h:vR) (hb:wN < h.objs.size):qbo P w H (h.push {cls:=.type "dict",data:=.dict #[]}) h.objs.size (.dK []):=
 ⟨wC _,beq_eq_false_iff_ne.mpr (xP (vD hb)), [],.nil,Heap.DictOf.new h⟩
theorem dt_empty {P:vB} {w:vL} {H:Hp} (h:vR) (hb:wN < h.objs.size):qbo P w H (h.push {cls:=.type "dict",data:=.dict #[]}) h.objs.size (.dT []):=
 ⟨wC _,beq_eq_false_iff_ne.mpr (xP (vD hb)), [],.nil,_,#[],0,uQ _ rfl,⟨rfl,rfl,rfl⟩,rfl,rfl,yR⟩
noncomputable def tDNewK:TE:=fun _ H Q=>∀p,H p=none->Q (.ref p) (upd H p (.dK []))
noncomputable def tDNewT:TE:=fun _ H Q=>∀p,H p=none->Q (.ref p) (upd H p (.dT []))
section
variable {X: Cx} {pos: Pos}
theorem qg5:PE X (.Dict [] [] pos) tDNewK:=fun pins s σ H Q I h=>
 wpAny_Dict_empty ⟨.ref s.heap.objs.size,_,I.laid (a:=s.heap.objs.size) (o:=.dK []) (t':=s.toks) (fun _ _ q=>uF _ q) (uG _) (dk_empty s.heap I.big),rfl,h _ (I.hok.fresh (uG _))⟩
theorem pe_dnewT:PE X (.Dict [] [] pos) tDNewT:=fun pins s σ H Q I h=>
 wpAny_Dict_empty ⟨.ref s.heap.objs.size,_,I.laid (a:=s.heap.objs.size) (o:=.dT []) (t':=s.toks) (fun _ _ q=>uF _ q) (uG _) (dt_empty s.heap I.big),rfl,h _ (I.hok.fresh (uG _))⟩
end
noncomputable def tPairs:List (TE × TE)->St->Hp->(List (V × V)->Hp->Prop)->Prop
 | [],_,H,Q=>Q [] H
 |(tk,tv) :: r,σ,H,Q=>tk σ H fun x H1=>tv σ H1 fun y H2=>tPairs r σ H2 fun ps H3=>Q ((x,y) :: ps) H3
abbrev VV:List (V × V)->List (uC × uC)->Prop:=Paired fun p q=>qbf p.1 q.1/\qbf p.2 q.2
noncomputable def PPs (X:Cx) (pos:Pos) (keys:List (Option vU)) (values:List vU) (trs:List (TE × TE)):Prop:=
 ∀(pins:List (Addr × Obj)) (s:uD) (σ:St) (H:Hp) (Q:List (V × V)->Hp->Prop),Inv X pins σ H s->tPairs trs σ H Q->
  uT (uW X.prog X.w) X.A (evalPairs (pairTrees keys values X.env pos)) (fun vs s'=>∃ps H',Inv X pins σ H' s'/\VV ps vs/\Q ps H') X.xe s
theorem pps_nil {X:Cx} {pos:Pos}:PPs X pos [] [] []:=fun pins s σ H Q I h=>pairTrees_nil_walk ⟨[],H,I,.nil,h⟩
theorem pps_cons {X:Cx} {pos:Pos} {k v:vU} {ks:List (Option vU)} {vs:List vU} {tk tv:TE} {trs:List (TE × TE)} (hk:PE X k tk) (hv:PE X v tv) (hr:PPs X pos ks vs trs):
  PPs X pos (some k :: ks) (v :: vs) ((tk,tv) :: trs):=fun pins s σ H Q I h=>
 pairTrees_cons_walk (thn (hk pins s σ H _ I h) fun u s1 ⟨x,H1,I1,rx,q1⟩=>thn (hv pins s1 σ H1 _ I1 q1) fun w2 s2 ⟨y,H2,I2,ry,q2⟩=>
  thn (hr pins s2 σ H2 _ I2 q2) fun ws s3 ⟨ps,H3,I3,rel,q3⟩=>⟨(x,y) :: ps,H3,I3,.cons ⟨rx,ry⟩ rel,q3⟩)
noncomputable def qfk (kvs more:List (Key × V)):List (Key × V):=more.foldl (fun acc kv=>qct acc kv.1 kv.2) kvs
theorem KV.merge:∀{more:List (Key × V)} {rs:List (Key × uC)} {kvs:List (Key × V)} {vs:List (Key × uC)},KV more rs->KV kvs vs->KV (qfk kvs more) (merged vs rs):=by
 intro more rs kvs vs r
 unfold KV at r
 induction r generalizing kvs vs with
 |nil=>intro q;exact q
 | @cons p q ps qs h t ih=>
  intro r0
  have e:KV (qct kvs p.1 p.2) (stored vs q.1 q.2):=by
   have:=r0.put p.1 h.2
   rw [<-h.1];exact this
  exact ih e
theorem qe6:∀(more kvs:List (Key × V)),(qfk kvs more).length<=kvs.length+more.length
 | [],kvs=>by show kvs.length<=kvs.length+0;omega
 |p :: r,kvs=>by
  have h1:=qe6 r (qct kvs p.1 p.2)
  have h2:=qc6 kvs p.1 p.2
  show (qfk (qct kvs p.1 p.2) r).length<=_
  rw [zZ];omega
theorem qfn {P:vB} {w:vL}:∀{kvs:List (Key × V)} {ws:List (uC × uC)},VV (kvs.map fun kv=>(kV kv.1,kv.2)) ws->∃rs,Carries (qbd P w) ws rs/\KV kvs rs
 | [],_,r=>by rw [fY] at r;cases r;exact⟨[],wO,.nil⟩
 |p :: kvs,_,r=>by
  rw [zS] at r
  cases r with
  | @cons a b as bs h t=>
   obtain⟨rs,c,q⟩:=qfn (P:=P) (w:=w) t
   obtain⟨b1,b2⟩:=b
   exact⟨(p.1,b2) :: rs,⟨kV_is h.1,rfl,c⟩,.cons ⟨rfl,h.2⟩ q⟩
noncomputable def tDisp (trs:List (TE × TE)):TE:=fun σ H Q=>∀p,H p=none->tPairs trs σ (upd H p (.dK [])) fun ps H2=>H2 p=some (.dK [])/\∃kvs:List (Key × V),ps=kvs.map (fun kv=>(kV kv.1,kv.2))/\kvs.length<=15/\Q (.ref p) (upd H2 p (.dK (qfk [] kvs)))
theorem pe_disp {X:Cx} {pos:Pos} {keys:List (Option vU)} {values:List vU} {trs:List (TE × TE)} (h:PPs X pos keys values trs) (hall:keys.all (·.isSome)=true) (hl:keys.length=values.length) (h0:keys≠ [])
  (h15:keys.length<=15):PE X (.Dict keys values pos) (tDisp trs):=by
 intro pins s σ H Q I q
 have hn:=I.hok.fresh (uG s.heap.objs.size)
 have I1:=I.laid (a:=s.heap.objs.size) (o:=.dK []) (h':=s.heap.push {cls:=.type "dict",data:=.dict #[]}) (t':=s.toks) (fun _ _ q=>uF _ q) (uG _) (dk_empty s.heap I.big)
 refine wpAny_Dict_walk (knd:=qbd X.prog X.w) hall hl h0 h15 (thn (h pins _ σ _ _ I1 (q _ hn)) fun ws s2 ⟨ps,H2,I2,rel,e,kvs,ep,lk,q2⟩=>?_)
 subst ep
 obtain⟨rs,c,rk⟩:=qfn (P:=X.prog) (w:=X.w) rel
 obtain⟨z,hd,vs0,r0,dd⟩:=dk_of I2.hok e
 cases r0
 refine⟨rs,c,dd,fun h' dd' hs=>⟨.ref s.heap.objs.size,_,?_,rfl,q2⟩⟩
 have hz:(qfk [] kvs).length<=sizeLine:=by
  have h1:=qe6 kvs []
  rw [xA] at h1
  rw [bC];omega
 have he:∃q,h'.get? s.heap.objs.size=some q:=let ⟨q,_,_,hq,_⟩:=dd';⟨q,hq⟩
 exact d_write I2 (by rw [e];exact wO) hs he (dk_new hz hd (rk.merge .nil) dd')
structure M1 (X:Cx) (o:vU) (m:Str) (apos:Pos) (e:vU) (cpos:Pos):Prop where
 base:cA o m X.env (wH o X.env)=wH o X.env
 few:((wR cpos (vC [e] X.env)).all (fun x=>!x.1) && (eQ cpos (cE [] X.env)).all (fun x=>x.1.isSome)
  && decide (([e]:List vU).length+([]:List Keyword).length+(if ([]:List Keyword).isEmpty then 0 else 1) < 30))=true
 line:(apos.endLine==cpos.line)=true
 trees:wR cpos (vC [e] X.env)=[(false,wH e X.env)]
structure M2 (X:Cx) (o:vU) (m:Str) (apos:Pos) (e f:vU) (cpos:Pos):Prop where
 base:cA o m X.env (wH o X.env)=wH o X.env
 few:((wR cpos (vC [e,f] X.env)).all (fun x=>!x.1) && (eQ cpos (cE [] X.env)).all (fun x=>x.1.isSome)
  && decide (([e,f]:List vU).length+([]:List Keyword).length+(if ([]:List Keyword).isEmpty then 0 else 1) < 30))=true
 line:(apos.endLine==cpos.line)=true
 trees:wR cpos (vC [e,f] X.env)=[(false,wH e X.env),(false,wH f X.env)]
noncomputable def IsD (H:Hp) (a:Addr):Prop:=(∃kvs,Rd H a (.dK kvs))\/∃kvs,Rd H a (.dT kvs)
theorem isD_at {X:Cx} {pins:List (Addr × Obj)} {σ:St} {H:Hp} {s:uD} {a:Addr} (I:Inv X pins σ H s) (d:IsD H a):
  s.TypeIs (.ref a) "dict"/\(∀b,uP a=.ref b->∃ob,s.heap.get? b=some ob/\ob.dict=none)/\(a==wN)=false:=by
 rcases d with ⟨kvs,e⟩ |⟨kvs,e⟩
 .obtain⟨_,hd,vs,_,dd⟩:=qfg I.hok e
  refine⟨dd.typeIs,fun b q=>?_,hd⟩
  cases q
  obtain⟨ob,_,_,h1,h2,_⟩:=dd
  exact⟨ob,h1,h2.2.1⟩
 .obtain⟨_,hd,xs,_,dd⟩:=dt_rd I.hok e
  refine⟨dd.typeIs,fun b q=>?_,hd⟩
  cases q
  obtain⟨ob,_,_,h1,h2,_⟩:=dd
  exact⟨ob,h1,h2.2.1⟩
section
variable {X: Cx} {pins: List (Addr × Obj)} {σ: St} {H: Hp} {s: uD} {a: Addr} {y d: V} {u r: uC} {o: Option V} {A: vO} {E: uC -> uD -> Prop}
theorem d_get2 {Q:uC->uD->Prop} (hu:A.units+1 < cLine) (I:Inv X pins σ H s) (g:DGet H a y o) (ry:qbf y u) (rd:qbf d r) (h:∀w' s',Inv X pins σ H s'->qbf (o.getD d) w'->Q w' s'):
  uT (uW X.prog X.w) A (call (.builtin "dict.get") [.ref a,u,r]) Q E s:=by
 rcases g with ⟨kvs,k,e,ey,l⟩ |⟨kvs,k,b,e,ey,eb,l⟩
 .subst ey
  obtain⟨z,hd,vs,rel,dd⟩:=qfg I.hok e
  refine call_meetsIn eI dd.typeIs PySem.F.entry_dict_get (PySem.F.args_dict_get_3 _ _ _) (meets_dict_get_default (qbd X.prog X.w) a (kV_is ry) hd r) ⟨_,dd.mapOf,h _ _ (I.tok _) ?_⟩
  rw [l]
  exact(rel.val k).getD rd
 .subst ey
  cases (show u=uP b from ry)
  obtain⟨z,hd,xs,rel,dd⟩:=dt_rd I.hok e
  refine call_meetsIn eI dd.typeIs PySem.F.entry_dict_get (PySem.F.args_dict_get_3 _ _ _) (meetsH_dict_get_default (cP (qbd X.prog X.w)) a b hd r) ⟨cR hu,k,xs,key_of I.hok eb,dd,h _ _ (I.tok _) ?_⟩
  rw [l]
  exact(rel.val k).getD rd
end
noncomputable def tDGet2 (td ty tx:TE):TE:=fun σ H Q=>td σ H fun x H1=>∃a,x=.ref a/\IsD H1 a/\ty σ H1 fun y H2=>tx σ H2 fun z H3=>∃o,DGet H3 a y o/\Q (o.getD z) H3
section
variable {X: Cx} {o e f: vU} {apos cpos: Pos} {td ty tx: TE}
theorem pe_dget2 (hu:X.A.units+1 < cLine) (ho:PE X o td) (he:PE X e ty) (hf:PE X f tx) (m:M2 X o "get" apos e f cpos):PE X (.Call (.Attribute o "get" apos) [e,f] [] cpos) (tDGet2 td ty tx):=by
 intro pins s σ H Q I h
 refine wpAny_Call_method m.base m.few m.line PySem.F.plainAttrs_dict eI PySem.F.type_dict_get (thn (ho pins s σ H _ I h) fun u s1 ⟨x,H1,I1,rx,a,ex,d,q1⟩=>?_)
 subst ex
 obtain rfl:u=uP a:=rx
 obtain⟨t1,t2,_⟩:=isD_at I1 d
 refine⟨t1,t2,?_⟩
 rw [m.trees]
 refine dR rfl (cG (fP (thn (he pins s1 σ H1 _ I1 q1) fun iv s2 ⟨y,H2,I2,ry,q2⟩=>
  fP (thn (hf pins s2 σ H2 _ I2 q2) fun fv s3 ⟨z,H3,I3,rz,ov,g,q3⟩=>Calls.spliced_nil ?_))))
 exact d_get2 hu I3 g ry rz fun w' s4 I4 rw'=>⟨_,H3,I4,rw',q3⟩
end
section
variable {X: Cx} {pins: List (Addr × Obj)} {σ: St} {H: Hp} {s: uD} {a: Addr} {kvs: List (Key × V)} {A: vO} {E: uC -> uD -> Prop}
theorem d_copyOf {Q:uC->uD->Prop} (I:Inv X pins σ H s) (e:Rd H a (.dK kvs)) (h:∀p s',H p=none->Inv X pins σ (upd H p (.dK kvs)) s'->Q (.ref p) s'):uT (uW X.prog X.w) A (call (.type "dict") [.ref a]) Q E s:=by
 obtain⟨z,hd,vs,rel,dd⟩:=qfg I.hok e
 refine kt_call_dict hd dd (by rw [<-rel.length];exact z) fun h' dd' hs=>?_
 refine h _ _ (I.hok.fresh (uG _)) (I.laid (a:=s.heap.objs.size) (o:=.dK kvs) (t':=s.toks) (fun b q hq=>?_) (uG _) (dk_new z (beq_eq_false_iff_ne.mpr (xP (vD I.big))) rel dd'))
 exact(hs.2 b (vD (uN hq))).trans (uF _ hq)
end
section
variable {X: Cx}
theorem call_lenD:qc9 X (.builtin "len") (fun xs H Q=>∃a kvs,xs=[V.ref a]/\H a=some (.dK kvs)/\Q (.int kvs.length) H):=by
 intro pins s σ H xs us Q I r h
 obtain⟨a,kvs,rfl,ha,q⟩:=h
 obtain⟨u,rfl,ru⟩:=vals1 r
 cases ru
 exact d_len I (.inl ha) fun t s' I'=>⟨.int kvs.length,H,I',⟨t,rfl⟩,q⟩
end
section
variable {κ: Type} [DecidableEq κ]
theorem valV_not {kvs:List (κ × V)} {k:κ} (h:qcq kvs k=none):¬k∈kvs.map (·.1):=by
 intro m
 obtain⟨p,hp,e⟩:=zI.mp m
 have q:(kvs.any fun kv=>decide (kv.1=k))=true:=yY.mpr ⟨p,hp,gU e⟩
 rw [qce,h] at q
 exact absurd q (by simp)
theorem valV_in {kvs:List (κ × V)} {k:κ} {v:V} (h:qcq kvs k=some v):k∈kvs.map (·.1):=by
 have q:(kvs.any fun kv=>decide (kv.1=k))=true:=by
  rw [qce,h]
  all_goals rfl
 obtain⟨p,hp,e⟩:=yY.mp q
 exact zI.mpr ⟨p,hp,of_decide_eq_true e⟩
theorem nd_snoc:∀{l:List κ} {k:κ},l.Nodup->¬k∈l->(l++ [k]).Nodup
 | [],k,_,_=>by simp
 |a :: r,k,h,hk=>by
  obtain⟨h1,h2⟩:=yC.mp h
  show (a ::(r++ [k])).Nodup
  refine yC.mpr ⟨fun m=>?_,nd_snoc h2 fun m=>hk (zR.mpr (aV m))⟩
  rcases zT.mp m with q|q
  .exact h1 q
  .exact hk (zR.mpr (uJ (zH.mp q).symm))
theorem nd_putK {kvs:List (κ × V)} {k:κ} (v:V) (hn:(kvs.map (·.1)).Nodup) (h:qcq kvs k=none):((qct kvs k v).map (·.1)).Nodup:=by
 rw [qep v h,zD]
 exact nd_snoc hn (valV_not h)
end
end L2
namespace My
open PySem PySem.Spec PyProof.Rows L2
theorem qdn {α:Type} {β:Type} [BEq α] [LawfulBEq α]:∀{l:List (α × β)} {x:α} {v:β},l.lookup x=some v->(x,v)∈l
 |(a,b) :: l,x,v,h=>by
  rw [List.lookup_cons] at h
  cases e:x==a with
  |true=>rw [e] at h;have e':=eq_of_beq e;have h':b=v:=uX h;subst e' h';exact zG
  |false=>rw [e] at h;exact zE _ (qdn h)
theorem qb1 {X:Cx} {x:Str} {scope:cU} {cl:List (Str × Addr)} {caps:List Nat} {cn:List Str} (h1:closureFor scope X.env=pure cl) (h2:scope.kind=.function) (h3:scope.names.all (fun p=>p.2 !=.cell)=true)
  (h4:scope.names.all (fun p=>p.2 !=.local || scope.names.lookup p.1==some .local)=true) (h5:scope.names.lookup x=some .local) (h6:AllC (fun p=>X.env.cells.lookup p.1=some p.2) cl)
  (h7:(relabel scope X.env).names.all (fun p=>!(p.2==.cell || p.2==.free) ||(cl.lookup p.1).isSome)=true) (h8:caps.length=cn.length)
  (h9:AllC (fun p=>X.N[p.1]?=some p.2/\X.env.kindOf p.2=some .cell/\(relabel scope X.env).names.lookup p.2=some .cell/\X.env.scope.names.lookup p.2=some .cell/\∃c,cl.lookup p.2=some c) (caps.zip cn)) (h10:(x :: cn).Nodup):Caps X x scope cl caps cn:=by
 refine⟨h1,h2,fun y hy z=>?_,fun y hy z=>?_,h5,fun y c e=>AllC.mem h6 _ (qdn e),fun y hy=>?_,h8,fun k y j e1 e2=>?_,h10⟩
 .have q:=yM.mp h3 y hy
  rw [z] at q
  cases q
 .have q:=yM.mp h4 y hy
  rw [z] at q
  simpa using q
 .have m:∃k,(y,k)∈(relabel scope X.env).names/\(k=.cell\/k=.free):=by
   rcases hy with hy|hy
   .exact⟨_,qdn hy,.inl rfl⟩
   .exact⟨_,qdn hy,.inr rfl⟩
  obtain⟨k,hm,hk⟩:=m
  have q:=yM.mp h7 _ hm
  have hk':(k==NameKind.cell || k==NameKind.free)=true:=by rcases hk with rfl|rfl <;> decide
  rw [hk'] at q
  exact dG.mp (by simpa using q)
 .refine AllC.mem h9 (j,y) ?_
  have hz:(caps.zip cn)[k]?=some (j,y):=by rw [List.getElem?_zip_eq_some];exact⟨e2,e1⟩
  exact zF hz
section
variable {X: Cx}
theorem pi_str {l:vU} {tl:TE} {y:Str} {py:Pos} (hl:PE X l tl):PI X (.Name y py) l (iStr tl):=by
 intro pins s σ H R I h
 refine thn (hl pins s σ H _ I h) fun u s1 ⟨v,H1,I1,r,x,ev,q⟩=>?_
 subst ev
 obtain⟨t,rfl⟩:=r
 have hn:H1 s1.heap.objs.size=none:=I1.hok.fresh (uG _)
 have fp:∀b∈ [s1.heap.objs.size],FpOk X pins H1 b:=fun b hb=>by
  have e:b=s1.heap.objs.size:=by simpa using hb
  subst e
  exact I1.fpOk (uG _) hn
 cases ha:x.cps.all (·< 128)
 .exact wpAny_pyIter_wide ha ⟨_, [s1.heap.objs.size],fun i h=>h.IsStrIter s1.heap.objs.size "str_iterator" x t i,Its x,H1,rfl,I1.kept (t':=s1.toks) (fun _ _ e=>uF _ e),
   turn_str x t _ _ (fun A hA=>Walks.strWide hA _ x t) fun A i s' Q' E' st hq=>wpAny_pyIter_striter_wide st hq,⟨_,uQ _ rfl,rfl,rfl⟩,fp,q⟩
 .exact wpAny_pyIter_ascii ha ⟨_, [s1.heap.objs.size],fun i h=>h.IsStrIter s1.heap.objs.size "str_ascii_iterator" x t i,Its x,H1,rfl,I1.kept (t':=s1.toks) (fun _ _ e=>uF _ e),
   turn_str x t _ _ (fun A hA=>Walks.strAscii hA _ x t) fun A i s' Q' E' st hq=>wpAny_pyIter_striter_ascii st hq,⟨_,uQ _ rfl,rfl,rfl⟩,fp,q⟩
noncomputable def rAll (K:uR):List V->Hp->VK->Prop:=fun xs H Q=>∃(p:Addr) (bs:List Bool),xs=[.ref p]/\SqL K H p (bs.map V.bl)/\Q (.bl (bs.all id)) H
theorem all_range (bs:List Bool):((vG bs.length).all fun i=>(bs[i]?).getD true)=bs.all id:=by
 rw [xY,yM,yM]
 constructor
 .intro h b hb
  obtain⟨i,hi,e⟩:=zO.mp hb
  have q:=h i (xB.mpr hi)
  rw [zA hi,e] at q
  exact q
 .intro h i hi
  have hi':=xB.mp hi
  rw [zA hi']
  exact h _ (zM hi')
theorem call_allB (hc:X.calm=true):qc9 X (.builtin "all") (rAll X.K):=by
 intro pins s σ H xs us Q I hv h
 obtain⟨p,bs,rfl,hS,q⟩:=h
 obtain⟨u,rfl,ru⟩:=hv.one
 cases ru
 obtain⟨its,rv,pl,hz⟩:=I.list hS
 have hl:=pl.isList
 have hlt:p < s.heap.objs.size:=by obtain⟨_,e,_⟩:=hl;exact uN e
 have hlen:=rv.length
 rw [zB] at hlen
 refine call_all_walk (bI hl ?_)
 refine⟨s.heap.objs.size, [s.heap.objs.size,p], [s.heap.objs.size],its.toArray.size,_,_,fun i=>(bs[i]?).getD true,rfl,Walks.list (A:=X.A.in1) (I.ok.hd hc) _ p (vD hlt) its.toArray,⟨⟨_,uQ _ rfl,rfl,rfl⟩,hl.push _⟩,fun i v s' Q' E' hP hQ=>?_,fun h' tk hk=>?_⟩
 .have hi:its[i]?=some v:=by simpa using hP
  have hb:i < bs.length:=by rw [hlen];exact(uH.mp hi).1
  have hx:(bs.map V.bl)[i]?=some (.bl bs[i]):=by rw [zC,zA hb];rfl
  obtain⟨u,e,r⟩:=rv.get hx
  rw [hi] at e
  cases e
  cases r
  dsimp only at hQ
  rw [zA hb] at hQ
  exact wF hQ
 .have e:((vG its.toArray.size).all fun i=>(bs[i]?).getD true)=bs.all id:=by
   rw [zU,<-hlen];exact all_range bs
  rw [e]
  exact⟨.bl _,H,I.kept (t':=tk) (fun b o eb=>hk b o (fun hm=>by have z:=uN eb;rw [zH.mp hm] at z;exact wD _ z) (uF _ eb)),rfl,q⟩
noncomputable def rCatS:R2:=fun x y H Q=>∃i j,x=.str i/\y=.str j/\i.length+j.length<=sizeLine/\Q (.str (i++j)) H
theorem op_catS:OpR X (bJ .Add) rCatS:=op_add_str
noncomputable def rInS:R2:=fun x y H Q=>∃i j,x=.str i/\y=.str j/\Q (.bl (!(bB j i 0 j.length 1).isEmpty)) H
theorem op_inS:OpR X (wB .In) rInS:=op_in_str
noncomputable def rLenS:List V->Hp->VK->Prop:=fun xs H Q=>∃z,xs=[.str z]/\z.length<=sizeLine/\Q (.int z.length) H
theorem call_lenS:qc9 X (.builtin "len") rLenS:=call_len_str
end
section
variable {K: uR} {H: Hp} {Q: VK} {σ: L2.St}
theorem r_sl {r:V->Option Int->Option Int->Hp->VK->Prop} {te:TE} {tl th:TO} (h:te σ H fun x H1=>tl σ H1 fun l H2=>th σ H2 fun u H3=>r x l u H3 Q):tSl r te tl th σ H Q:=h
theorem r_noPart {Q:Option Int->Hp->Prop} (h:Q none H):tNoPart σ H Q:=h
theorem r_part {te:TE} {Q:Option Int->Hp->Prop} (h:te σ H fun x H1=>∃i,x=.int i/\Q (some i) H1):tPart te σ H Q:=h
theorem r_chain {r r':R2} {ta tb tc:TE} (h:ta σ H fun x H1=>tb σ H1 fun y H2=>r x y H2 fun z H3=>∃k,z=.bl k/\(if k=true then tc σ H3 fun w' H4=>r' y w' H4 Q else Q (.bl false) H3)):tChain r r' ta tb tc σ H Q:=h
theorem r_all {p:Addr} {bs:List Bool} (hS:SqL K H p (bs.map V.bl)) (h:Q (.bl (bs.all id)) H):rAll K [.ref p] H Q:=⟨p,bs,rfl,hS,h⟩
theorem r_catS {i j:Str} (hn:i.length+j.length<=sizeLine) (h:Q (.str (i++j)) H):rCatS (.str i) (.str j) H Q:=⟨i,j,rfl,rfl,hn,h⟩
theorem r_inS {i j:Str} (h:Q (.bl (!(bB j i 0 j.length 1).isEmpty)) H):rInS (.str i) (.str j) H Q:=⟨i,j,rfl,rfl,h⟩
theorem r_lenS {z:Str} (hn:z.length<=sizeLine) (h:Q (.int z.length) H):rLenS [.str z] H Q:=⟨z,rfl,hn,h⟩
theorem r_ixS {z:Str} {i:Int} {c:Nat} (hn:z.length<=sizeLine) (e:atI z.cps.toList i=some c) (h:Q (.str ⟨#[c]⟩) H):rIxS (.str z) (.int i) H Q:=⟨z,i,c,rfl,rfl,hn,e,h⟩
theorem r_iS {tl:TE} {R:It->Hp->Prop} (h:tl σ H fun v H1=>rItS v H1 R):iStr tl σ H R:=h
theorem r_itS {x:Str} {R:It->Hp->Prop} (h:R (Its x) H):rItS (.str x) H R:=⟨x,rfl,h⟩
theorem r_comp {wi:TI} {caps:List Nat} {tt:CT TT} {te:CT TE} (h:wi σ H fun J H1=>∀(C:Addr) (s:uD) (H0:Hp) (fp:List Addr) (acc:Addr),H1 acc=none->COMP J caps (tt C s H0 fp) (te C s H0 fp) acc σ (upd H1 acc (.lst [])) Q):tComp wi caps tt te σ H Q:=h
theorem r_true {Q:Bool->Hp->Prop} (h:Q true H):tTrue σ H Q:=h
theorem r_app {acc:Addr} {N:Hp->Prop} {y:V} {ys:List V} (ha:H acc=some (.lst ys)) (hz:ys.length < sizeLine) (h:N (upd H acc (.lst (ys++ [y])))):rApp acc N y H:=⟨ys,ha,hz,h⟩
theorem qel {J:It} {caps:List Nat} {tt:TT} {te:TE} {acc:Addr} (n:Nat) (Pv:Nat->Hp->Prop) (h0:Pv 0 H) (hgo:∀i H,i < n->Pv i H->J.go i H) (hst:∀H,Pv n H->J.stop n H)
  (hs:∀i H v H',i < n->Pv i H->J.yld i H v H'->tt (some v :: qbk caps σ) H' fun b H2=>if b=true then te (some v :: qbk caps σ) H2 fun y H3=>rApp acc (Pv (i+1)) y H3 else Pv (i+1) H2)
  (hd:∀H,Pv n H->Q (.ref acc) H):COMP J caps tt te acc σ H Q:=by
 refine⟨fun i m H=>m=n - i/\i<=n/\Pv i H,⟨n,rfl,wC _,h0⟩,?_⟩
 rintro i m H ⟨rfl,hi,p⟩
 by_cases hlt:i < n
 .exact .inr ⟨hgo i H hlt p,Pv (i+1),fun H' p'=>⟨n - (i+1),by omega,rfl,hlt,p'⟩,fun v H' y=>hs i H v H' hlt p y⟩
 .have e:i=n:=by omega
  subst e
  exact .inl ⟨hst H p,hd H p⟩
end
section
variable {X: Cx}
noncomputable def rRep:R2:=fun x y H Q=>∃z n,x=.str z/\y=.int n/\0<=n/\n<=1/\Q (.str (if n < 1 then Str.empty else z)) H
theorem op_rep:OpR X (bJ .Mult) rRep:=by
 intro pins s σ H x y v u Q I rx ry h
 obtain⟨z,n,rfl,rfl,h0,h1,q⟩:=h
 obtain⟨t,rfl⟩:=rx
 obtain⟨k,rfl⟩:=ry
 refine P.mul_str (by rw [gW (by omega),gW (by omega)];rfl) (fun h2 h3=>?_) (fun h2 h3=>?_) ?_
 .have e:n=1:=by omega
  subst e
  rw [show ((1:Int)==1)=true from rfl,dS] at h3;cases h3
 .have e:n=1:=by omega
  subst e
  rw [show ((1:Int)==1)=true from rfl,dS] at h3;cases h3
 .by_cases c:n < 1
  .rw [gT c] at q ⊢
   exact⟨by decide,.str Str.empty,H,I.tok _,⟨_,rfl⟩,q⟩
  .have e:n=1:=by omega
   subst e
   rw [gS c] at q ⊢
   rw [gT (by rw [show ((1:Int)==1)=true from rfl,dS])]
   exact⟨.str z,H,I,⟨_,rfl⟩,q⟩
noncomputable def rIntB:List V->Hp->VK->Prop:=fun xs H Q=>∃b:Bool,xs=[.bl b]/\Q (.int (if b then 1 else 0)) H
theorem qe7:qc9 X (.type "int") rIntB:=by
 intro pins s σ H xs us Q I r h
 obtain⟨b,rfl,q⟩:=h
 cases r with
 |cons r1 r2=>
  cases r2
  cases r1
  exact call_int_bool ⟨.int _,H,I.tok _,⟨_,rfl⟩,q⟩
end
section
variable {H: Hp} {Q: VK}
theorem r_rep {z:Str} {n:Int} (h0:0<=n) (h1:n<=1) (h:Q (.str (if n < 1 then Str.empty else z)) H):rRep (.str z) (.int n) H Q:=⟨z,n,rfl,rfl,h0,h1,h⟩
theorem r_intB {b:Bool} (h:Q (.int (if b then 1 else 0)) H):rIntB [.bl b] H Q:=⟨b,rfl,h⟩
end
section
variable {prog: vB} {w: vL} {A: vO} {E: uC -> uD -> Prop} {h: vR} {g: Array GenState} {d: Drawn} {t: Nat} {os: OsState}
variable {nm q: Str} {C N fI: Addr} {bs bm bmB: List uC} {hdct: Bool} {sn: List Str} {sub: List uC} {ab: Bool} {col: Option Bool} {dd: Option Addr} {k0 k1 k2 k3 k5: Option uC} {B Bn newId nid initId inN: String} {bmN: List uC}
noncomputable def qd3 (h:vR) (C:Addr) (rest:List uC):vR:=(h.push {cls:=.type "tuple",data:=.seq rest.toArray}).push {cls:=.ref C,data:=.fields #[.ref h.objs.size,.none,.none,.none,.bool false,.none]}
theorem qfe (Fn:cO Bn newId inN bmN) (hBn:bmB.contains (.type Bn)=true) (F:cO B nid initId bmB) (T:OwnTail h bmB bm) {mN:Str->Option uC} {rest:List uC} {Q:Fin->uD->Prop}
  (hC:h.get? C=some (cH nm q C N bs bm hdct sn sub ab col dd k0 k1 k2 k3 k5 newId)) (hn:h.Ns N mN) (hni:mN "__init__" =some (.ref fI))
  (hb:dI (uW prog w) (qd3 h C rest) (bindSpecial (.ref fI) (.ref (h.objs.size+1))) (.ref fI, [.ref (h.objs.size+1)]))
  (hq:uT (uW prog w) A (call (.ref fI) (.ref (h.objs.size+1) :: rest)) (fun v s'=>v=.none/\Q (.done (.ret (.ref (h.objs.size+1)))) s') E ⟨qd3 h C rest,g,d,t,os⟩) (hrest:rest.length<=sizeLine:=by size_fits):
  uT (uW prog w) A (xU.«type.__call__» ⟨.ref C :: rest, []⟩) Q E ⟨h,g,d,t,os⟩:=by
 repeat (first|with_reducible refine bM hC ?_|with_reducible refine wpAny_madeBy_exc hC ?_|wp_step)
 refine codeAny_call_builtin_code (fQ _ Fn.quiet) (wpAny_check_new_subU Fn hBn T hC ?_)
 refine codeAny_exc_new_subU Fn hBn F T hC ?_ hrest
 show uT _ _ _ _ _ _
 have hC₁:=uF {cls:=.ref C,data:=.fields #[.ref h.objs.size,.none,.none,.none,.bool false,.none]}
  (uF {cls:=.type "tuple",data:=.seq rest.toArray} hC)
 have hn₁:((h.push {cls:=.type "tuple",data:=.seq rest.toArray}).push {cls:=.ref C,data:=.fields #[.ref h.objs.size,.none,.none,.none,.bool false,.none]}).Ns N mN:=
  let ⟨o,es,ep,e,r⟩:=hn;⟨o,es,ep,uF _ (uF _ e),r⟩
 have hget:((h.push {cls:=.type "tuple",data:=.seq rest.toArray}).push
   {cls:=.ref C,data:=.fields #[.ref h.objs.size,.none,.none,.none,.bool false,.none]}).get? (h.objs.size+1)=some
   {cls:=.ref C,data:=.fields #[.ref h.objs.size,.none,.none,.none,.bool false,.none]}:=by heap_get
 have hcC:(uP C :: bm).contains (.ref C)=true:=by simp
 have T₁:=T.keeps (h':=(h.push {cls:=.type "tuple",data:=.seq rest.toArray}).push {cls:=.ref C,data:=.fields #[.ref h.objs.size,.none,.none,.none,.bool false,.none]})
  fun b o e=>uF _ (uF _ e)
 unfold isInstance
 repeat (first|with_reducible refine bM hget ?_|(with_reducible refine wpAny_isSubtype_exc hC₁ ?_;rw [hcC]) |wp_step)
 show uT _ _ (typeLookup (.ref C) _) _ _ _
 refine wpAny_typeLookup_tail hC₁ hn₁ T₁ F.mroIs F.init.lookup ?_
 rw [hni]
 refine wV (uB (hb.at ?_))
 refine uB (vK hq (fun v s' ⟨ev,q⟩=>?_) fun _ _ x=>x)
 subst ev
 wp_walk
 exact q
theorem qgh (Fn:cO Bn newId inN bmN) (hBn:bmB.contains (.type Bn)=true) (F:cO B nid initId bmB) (T:OwnTail h bmB bm) {mN:Str->Option uC} {rest:List uC} {Q:uC->uD->Prop}
  (hC:h.get? C=some (cH nm q C N bs bm hdct sn sub ab col dd k0 k1 k2 k3 k5 newId)) (hn:h.Ns N mN) (hni:mN "__init__" =some (.ref fI))
  (hb:dI (uW prog w) (qd3 h C rest) (bindSpecial (.ref fI) (.ref (h.objs.size+1))) (.ref fI, [.ref (h.objs.size+1)]))
  (hq:uT (uW prog w) (A.under (.builtin "type.__call__" ⟨.ref C :: rest, []⟩)) (call (.ref fI) (.ref (h.objs.size+1) :: rest)) (fun v s'=>v=.none/\Q (.ref (h.objs.size+1)) s') E ⟨qd3 h C rest,g,d,t,os⟩) (hrest:rest.length<=sizeLine:=by size_fits):
  uT (uW prog w) A (call (.ref C) rest) Q E ⟨h,g,d,t,os⟩:=by
 have f1:=tc_lookup
 have f2:=tc_bind (.ref C)
 have hT:(⟨h,g,d,t,os⟩:uD).TypeIs (.ref C) "type":=⟨_,hC,rfl⟩
 refine bX (codeAny_of_tree ?_)
 show uT _ _ (callAny (.ref C) _) _ _ _
 repeat (any_goals (first|assumption|with_reducible refine bM hC ?_|wp_step))
 refine⟨rfl,?_⟩
 refine codeAny_call_builtin_at (fQ _ (by decide+kernel)) entry_typeCall (wpAny_check_type_call_sub hC (qfe (hrest:=hrest) Fn hBn F T hC hn hni hb ?_))
 exact hq
theorem qfi {env:Env} {M:Model} {s:uD} {x:Sem uC} {Q:Flow->uD->Prop} (hbase:bm.contains (.type "BaseException")=true) (hh:A.handled=none)
  (h:uT M A x (fun v s₁=>∃e oe,v=.ref e/\s₁.heap.get? C=some (cH nm q C N bs bm hdct sn sub ab col dd k0 k1 k2 k3 k5 newId)/\
   s₁.heap.get? e=some oe/\oe.cls=.ref C/\(∃vs,oe.data=.fields vs/\vs[1]?=some .none)/\E (.ref e) s₁) E s):
  uT M A (raiseStmt env (some x) none) Q E s:=by
 have hcB:(uP C :: bm).contains (.type "BaseException")=true:=by rw [List.contains_cons,hbase,Bool.or_true]
 unfold raiseStmt
 refine uB (vK h (fun v s₁ h₁=>?_) fun _ _ x=>x)
 obtain⟨e,oe,rfl,hC,he,hcls,⟨vs,hd,h1⟩,hE⟩:=h₁
 obtain⟨hp,g,d,tk,os⟩:=s₁
 obtain⟨oc,odd,oda,osl⟩:=oe
 obtain rfl:oc=.ref C:=hcls
 obtain rfl:oda=.fields vs:=hd
 repeat (first|with_reducible refine bM he ?_|with_reducible refine bM hC ?_|(with_reducible refine wpAny_isSubtype_exc hC ?_;rw [hcB]) |wp_step)
 rw [h1]
 refine uI ?_
 rw [gS (by decide)]
 exact uI (wpAny_raiseNew_none hh hE)
theorem qfc {env:Env} {s:uD} (Fn:cO Bn newId inN bmN) (hBn:bmB.contains (.type Bn)=true) (F:cO B nid initId bmB) {mN:Str->Option uC} {x:Str} {np cpos pos:Pos} {args:List vU} {Q:Flow->uD->Prop}
  (hbase:bm.contains (.type "BaseException")=true) (hh:A.handled=none) (hplain:(wR cpos (vC args env)).any (·.1)=false) (hni:mN "__init__" =some (.ref fI))
  (h:uT (uW prog w) A (wH (.Name x np) env) (fun f s₁=>f=.ref C/\uT (uW prog w) A (evalArgs (.ref C) true (wR cpos (vC args env)) [])
   (fun a s₂=>a.kw=[]/\a.pos.length<=sizeLine/\s₂.heap.get? C=some (cH nm q C N bs bm hdct sn sub ab col dd k0 k1 k2 k3 k5 newId)/\s₂.heap.Ns N mN/\OwnTail s₂.heap bmB bm/\
    dI (uW prog w) (qd3 s₂.heap C a.pos) (bindSpecial (.ref fI) (.ref (s₂.heap.objs.size+1))) (.ref fI, [.ref (s₂.heap.objs.size+1)])/\
    uT (uW prog w) (A.under (.builtin "type.__call__" ⟨.ref C :: a.pos, []⟩)) (call (.ref fI) (.ref (s₂.heap.objs.size+1) :: a.pos))
     (fun v s'=>v=.none/\s'.heap.get? C=some (cH nm q C N bs bm hdct sn sub ab col dd k0 k1 k2 k3 k5 newId)/\(∃oe,s'.heap.get? (s₂.heap.objs.size+1)=some oe/\oe.cls=.ref C/\∃vs,oe.data=.fields vs/\vs[1]?=some .none)/\E (.ref (s₂.heap.objs.size+1)) s') E {s₂ with heap:=qd3 s₂.heap C a.pos}) E s₁) E s):
  uT (uW prog w) A (exec (.Raise (some (.Call (.Name x np) args [] cpos)) none pos) env) Q E s:=by
 rw [arm_exec_Raise]
 first
  |refine uB (aC (qfi (C:=C) (nm:=nm) (q:=q) (N:=N) (bs:=bs) (bm:=bm) (hdct:=hdct) (sn:=sn) (sub:=sub) (ab:=ab) (col:=col) (dd:=dd) (k0:=k0) (k1:=k1) (k2:=k2) (k3:=k3) (k5:=k5) (newId:=newId) hbase hh (uB (vK (wpAny_Call_ofName (vK h (fun f s₁ h₁=>?_) fun _ _ x=>x)) (fun v s₃ h₃=>uB (aC (uI h₃))) fun _ _ x=>x))))
  |(simp only [evalOpt,Option.map];refine uB (aC (qfi (C:=C) (nm:=nm) (q:=q) (N:=N) (bs:=bs) (bm:=bm) (hdct:=hdct) (sn:=sn) (sub:=sub) (ab:=ab) (col:=col) (dd:=dd) (k0:=k0) (k1:=k1) (k2:=k2) (k3:=k3) (k5:=k5) (newId:=newId) hbase hh (uB (vK (wpAny_Call_ofName (vK h (fun f s₁ h₁=>?_) fun _ _ x=>x)) (fun v s₃ h₃=>uB (aC (uI h₃))) fun _ _ x=>x)))))
 obtain⟨rfl,h₁⟩:=h₁
 unfold callWith
 refine uB (wV (vK h₁ (fun a s₂ h₂=>uB (aC ?_)) fun _ _ x=>x))
 obtain⟨apos,akw⟩:=a
 obtain⟨hkw,hlen,hC,hn,T,hb,h₂⟩:=h₂
 obtain rfl:akw=[]:=hkw
 obtain⟨hp,g,d,tk,os⟩:=s₂
 simp only [hplain]
 refine uB (wpAny_keeperOf_exc hC ?_)
 refine uB (qgh (hrest:=hlen) Fn hBn F T hC hn hni hb (vK h₂ (fun v s' ⟨e1,e2,⟨oe,e3,e4,e6⟩,e5⟩=>⟨e1,uB (wV (wpAny_point (uI ?_)))⟩) fun _ _ x=>x))
 exact⟨_,oe,rfl,e2,e3,e4,e6,e5⟩
end
noncomputable def onlyVE:List uC->Bool
 | .ref _ :: r=>onlyVE r
 | [.type a,.type b,.type c,.type e]=>a== "ValueError" && b== "Exception" && c== "BaseException" && e== "object"
 |_=>false
noncomputable def overVE (K:uR) (C:Addr):Bool:=(PySem.W.clsIn K C).any fun cd=>onlyVE cd.mro
section
variable {K: uR} {C: Addr}
open PySem.W in
open PySem.W in
open PySem.W in
open PySem.W in
structure XAt (K:uR) (C:Addr):Prop where
 ga:vV K (.ref C) "__getattribute__" =some (some (.builtin "BaseException.__getattribute__"))
 gn:vV K (.ref C) "__getattr__" =some none
 mb:mroIn K C (.type "BaseException")=some true
 mo:mroIn K C (.type "object")=some true
 hd:gJ K C=true
 cl:vV K (.ref C) "__class__" =some (some (.builtin "object.__class__"))
 sp:eW K (.builtin "object.__class__") "__get__" =some (some (.builtin "getset_descriptor.__get__"))
 tk:PySem.W.takesIn K (.builtin "object.__class__")=some true
 sa:vV K (.ref C) "__setattr__" =some (some (.builtin "object.__setattr__"))
 po:overVE K C=true
open PySem.W in
open PySem.W in
end
noncomputable def XS (a C:Addr) (d:Option Addr):HO:=.ext fun h=>∃(oe:Obj) (vs:Array uC),h.get? a=some oe/\oe.cls=.ref C/\oe.dict=d/\oe.data=.fields vs/\vs[1]?=some .none/\(∃t0:Addr,vs[0]?=some (.ref t0))/\∀dx,d=some dx->dx≠a
section
variable {H: Hp} {a C dx: Addr}
theorem xs_ok {P:vB} {w:vL} {H:Hp} {h:vR} {d:Option Addr} (x:∃(oe:Obj) (vs:Array uC),h.get? a=some oe/\oe.cls=.ref C/\oe.dict=d/\oe.data=.fields vs/\vs[1]?=some .none/\(∃t0:Addr,vs[0]?=some (.ref t0))/\∀dx,d=some dx->dx≠a):qbo P w H h a (XS a C d):=by
 obtain⟨oe,vs,h1,h2⟩:=id x
 exact⟨x,⟨oe,h1⟩,fun h1 h2 ⟨oe,vs,z,zz⟩ k=>⟨oe,vs,k _ z,zz⟩⟩
theorem xs_get {P:vB} {w:vL} {h:vR} {d:Option Addr} (x:HOk P w H h) (e:H a=some (XS a C d)):∃(oe:Obj) (vs:Array uC),h.get? a=some oe/\oe.cls=.ref C/\oe.dict=d/\oe.data=.fields vs/\vs[1]?=some .none/\(∃t0:Addr,vs[0]?=some (.ref t0))/\∀dx,d=some dx->dx≠a:=
 (show qbo P w H h a (XS a C d) from x a _ e).1
end
noncomputable def del (H:Hp) (a:Addr):Hp:=fun b=>if b=a then none else H b
theorem qdp {H:Hp} {a:Addr}:del H a a=none:=by unfold del;rw [gT rfl]
theorem qdr {H:Hp} {a b:Addr} (h:b≠a):del H a b=H b:=by unfold del;rw [gS h]
section
variable {X: Cx} {pins: List (Addr × Obj)} {σ: L2.St} {H: Hp} {s: uD} {a: Addr} {φ: vR -> Prop}
theorem Inv.del (I:Inv X pins σ H s) (e:H a=some (.ext φ)):Inv X pins σ (My.del H a) s:=by
 have ne:∀b o,H b=some o->(∀φ,o≠ .ext φ)->b≠a:=fun b o q d z=>by rw [z,e] at q;cases q;exact d _ rfl
 refine⟨I.ok,I.os,I.bare,⟨I.base.keep,I.base.slot,fun b o q n hx=>?_,I.base.there,fun b xs q=>?_,fun b o u q=>?_,fun b ps q=>?_⟩,I.loc,I.cell,?_,fun x c q=>?_,fun p hp=>?_,fun b o q=>?_,I.len⟩
 .have z:=I.base.free b o q n hx
  by_cases hb:b=a
  .rw [hb];exact qdp
  .rw [qdr hb];exact z
 .have z:=I.base.tups b xs q
  rw [qdr (ne _ _ z (by intro φ y;cases y))];exact z
 .have z:=I.base.frzs b o u q
  rw [qdr (ne _ _ z (by intro φ y;cases y))];exact z
 .obtain⟨more,z⟩:=I.base.tbls b ps q
  exact⟨more,by rw [qdr (ne _ _ z (by intro φ y;cases y))];exact z⟩
 .by_cases hb:X.env.locals=a
  .rw [hb];exact qdp
  .rw [qdr hb];exact I.free
 .by_cases hb:c=a
  .rw [hb];exact qdp
  .rw [qdr hb];exact I.freeC x c q
 .obtain⟨z,n,l⟩:=I.pin p hp
  refine⟨z,?_,l⟩
  by_cases hb:p.1=a
  .rw [hb];exact qdp
  .rw [qdr hb];exact n
 .have hb:b≠a:=fun z=>by rw [z,qdp] at q;cases q
  rw [qdr hb] at q
  exact(I.hok b o q).stay (fun _ _ _ q=>q) (fun c q=>by rw [qdr (ne _ _ q (by intro φ y;cases y))];exact q) fun c xs q=>by rw [qdr (ne _ _ q (by intro φ y;cases y))];exact q
end
structure XClI (K:uR) (C f:Addr):Prop where
 ob:∃(nm q:Str) (N:Addr) (bs bm:List uC) (hdct:Bool) (sn:List Str) (sub:List uC) (ab:Bool) (col:Option Bool) (dd:Option Addr) (k0 k1 k2 k3 k5:Option uC) (mN:Str->Option uC),
  K.lookup C=some (cH nm q C N bs bm hdct sn sub ab col dd k0 k1 k2 k3 k5 "ValueError.__new__")/\(∀h:vR,K.In h->h.Ns N mN)/\mN "__init__" =some (.ref f)/\
  ∀h:vR,K.In h->OwnTail h [.type "ValueError",.type "Exception",.type "BaseException",.type "object"] bm
 fn:isFn K (.ref f)=true
section
variable {X: Cx} {k: Nat} {f: Addr} {fd: uM} {ps: List Str} {sp: Sp} {x: Str} {C: Addr} {W: L2.St -> XK} {np cpos pos: Pos} {e: vU} {es: List vU} {t: TA}
noncomputable def tRaiseI (t:TA) (C:Addr) (sp:Sp) (W:L2.St->XK):TS:=fun _ σ H=>t σ H fun xs H1=>xs.length<=sizeLine/\∀a,H1 a=none->sp (.ref a :: xs) (upd H1 a (XS a C none)) (fun v H2=>v=.non/\∃d,H2 a=some (XS a C d)/\W σ (.ref C) d (My.del H2 a)) E0
theorem ps_raiseI (hc:X.calm=true) (M:XClI X.K C f) (F:FnOk X.prog X.w X.K X.mg X.base CX0 k f fd ps sp) (hr:Room (k+1) X.A) (hb:qap X.K fd ps []) (hg:Gl X x) (hm:X.mg x=some (.ref C)) (hx:Xes X W) (ha:PA X (e :: es) t) (hex:X.ex=[]:=by rfl) (hdb:(x==("__debug__" :Str))=false:=by decide)
  (he:vC (e :: es) X.env=(false,wH e X.env) :: vC es X.env:=by rfl) (hpl:(wR cpos (vC es X.env)).any (·.1)=false:=by rfl):
  PS X (.Raise (some (.Call (.Name x np) (e :: es) [] cpos)) none pos) (tRaiseI t C sp W):=by
 intro pins s σ H D I h
 obtain⟨nm,q,N,bs,bm,hdct,sn,sub,ab,col,dd,k0,k1,k2,k3,k5,mN,hC,hN,hni,T⟩:=M.ob
 refine qfc (C:=C) (fI:=f) (nm:=nm) (q:=q) (N:=N) (bs:=bs) (bm:=bm) (hdct:=hdct) (sn:=sn) (sub:=sub) (ab:=ab) (col:=col) (dd:=dd) (k0:=k0) (k1:=k1) (k2:=k2) (k3:=k3) (k5:=k5)
  aL (by decide) aL (mN:=mN) ((T _ I.kIn).hasType PySem.F.excBase_ValueError.hasBase) (I.ok.hd hc) ?_ hni ?_
 .rw [he];show (false ||(wR cpos (vC es X.env)).any (·.1))=false;rw [hpl];rfl
 .refine qdw I hg hm ⟨rfl,?_⟩ hdb
  have z:=ha cpos pins s σ H _ I h
  rw [he] at z ⊢
  refine cG (vK z (fun us s2 ⟨vs,H2,I2,r,hl,q⟩=>?_) fun _ _ y=>y)
  have ea:(qd3 s2.heap C us).get? (s2.heap.objs.size+1)=some {cls:=.ref C,data:=.fields #[.ref s2.heap.objs.size,.none,.none,.none,.bool false,.none]}:=by
   have:=uQ (s2.heap.push {cls:=.type "tuple",data:=.seq us.toArray}) (o:={cls:=.ref C,data:=.fields #[.ref s2.heap.objs.size,.none,.none,.none,.bool false,.none]}) rfl
   rwa [bK] at this
  have hn:H2 (s2.heap.objs.size+1)=none:=I2.hok.fresh (aI _)
  have I3:Inv X pins σ (upd H2 (s2.heap.objs.size+1) (XS (s2.heap.objs.size+1) C none)) {s2 with heap:=qd3 s2.heap C us}:=
   I2.laid (t':=s2.toks) (fun b o y=>uF _ (uF _ y)) (aI _) (xs_ok ⟨_,_,ea,rfl,rfl,rfl,rfl,⟨_,rfl⟩,fun dx y=>by cases y⟩)
  have q:=q _ hn
  refine⟨rfl,by rw [<-r.length];exact hl,I2.kIn _ _ hC,hN _ I2.kIn,T _ I2.kIn,PySem.W.bind_fn I3.kIn _ (beq_iff_eq.mp M.fn),?_⟩
  have r2:qbi (V.ref (s2.heap.objs.size+1) :: vs) (uP (s2.heap.objs.size+1) :: us):=.cons rfl r
  have hln:(uP (s2.heap.objs.size+1) :: us++ []).length=ps.length:=by rw [yA,<-r2.length];exact F.len _ _ _ _ q
  have hb':=hb {s2 with heap:=qd3 s2.heap C us} (uP (s2.heap.objs.size+1) :: us) I3.kIn hln
  rw [yA] at hb'
  refine bX (xQ (F.run _ X.stack _ _ ⟨uP (s2.heap.objs.size+1) :: us, []⟩ (uP (s2.heap.objs.size+1) :: us) _ _ E0 (hr.make C us []) (I3.env0.make C us []) hb' r2 q) fun r s' hq'=>?_)
  cases r with
  |error e=>exact vY hq'
  |ok fl=>
   cases fl with
   |ret u=>
    obtain⟨v,H',I4,rv,ev,d,e4,q4⟩:=I3.after hq'
    subst ev
    obtain⟨oe,ws,g1,g2,g3,g4,g5,g6,g7⟩:=xs_get I4.hok e4
    refine⟨rv,I4.kIn _ _ hC,⟨oe,g1,g2,ws,g4,g5⟩,?_⟩
    have new:s2.heap.get? (s2.heap.objs.size+1)=none:=aH (aI _)
    refine hx pins σ _ _ _ (.ref C) d (Inv.del I4 e4) ⟨⟨new_of I2 hex new,qdp,fun p hp y=>?_,⟨_,_,g1,g4⟩⟩,.inl ⟨_,_,g1,g2,g3,g4,g5⟩⟩ q4
    have w:=(I2.pin p hp).1
    rw [y,new] at w
    cases w
   |next=>exact vY hq'
   |brk=>exact vY hq'
   |cont=>exact vY hq'
end
section
variable {X: Cx}
inductive PJ (X:Cx):List vU->List TE->Prop
 |nil:PJ X [] []
 |cons {e:vU} {es:List vU} {t:TE} {ts:List TE} (h:PE X e t) (r:PJ X es ts):PJ X (e :: es) (t :: ts)
end
structure XBase (K:uR) (T:Addr):Prop where
 ga:eW K (.ref T) "__getattribute__" =some (some (.builtin "type.__getattribute__"))
 rd:PySem.W.readsIn K T (.type "type")=true
 at_:PySem.W.findCls K (.ref T) (.type "type") "__init__" =some (.val (.builtin "ValueError.__init__"))
open PySem.MeetsSeq PySem.MeetsSeq2 PySem.MeetsSeq3 PySem.SeqRoads2
noncomputable def EqW (P:vB) (w:vL) (A:vO) (s:uD) (y x:uC) (b:Bool):Prop:=∀(E:uC->uD->Prop) (Q:Bool->uD->Prop),Q b s->uT (uW P w) A (eqBool y x) Q E s
noncomputable def opN:Bool->CmpOp
 |false=> .Eq
 |true=> .NotEq
noncomputable def RcW (P:vB) (w:vL) (A:vO) (s:uD) (ne:Bool) (y x:uC) (b:Bool):Prop:=∀(E:uC->uD->Prop) (Q:uC->uD->Prop),Q (.bool b) s->uT (uW P w) A (richCompare (opN ne) y x) Q E s
noncomputable def codeN:Bool->Int
 |false=>2
 |true=>3
abbrev lo (dd:Option Addr) (xs:Array uC) (n:Nat) (sl:Array (Option uC)):Obj:={cls:=.type "list",dict:=dd,data:=.seq xs n,slots:=sl}
abbrev tob (dd:Option Addr) (xs:Array uC) (n:Nat) (sl:Array (Option uC)):Obj:={cls:=.type "tuple",dict:=dd,data:=.seq xs n,slots:=sl}
section
variable {P: vB} {w: vL} {A: vO} {s: uD} {l b: Addr} {k: Bool}
theorem EqW.of {y x:uC} (h:SeqAt.EqAt A s y x k):EqW P w A s y x k:=fun E Q q=>h P w E Q q
theorem EqW.refs (hn:l≠b) (h:RcW P w A s false (.ref l) (.ref b) k):EqW P w A s (.ref l) (.ref b) k:=fun E Q q=>by
 unfold eqBool
 refine wV (wpAny_ite_split (fun z=>?_) fun _=>uB (h E _ (wF q)))
 have z':=eq_of_beq z
 injection z' with z'
 exact absurd z' hn
abbrev Fin1 (P:vB) (w:vL) (A:vO) (R:Result->uD->Prop):PySem.Fin->uD->Prop:=fun f s'=>match f with| .done r=>R (.ok r) s'| .again c=>c.quiet=true/\cN (uW P w) A c R s'
theorem loopW (ne:Bool) {xs ys:Array uC} {n m:Nat} {d1 d2:Option Addr} {s1 s2:Array (Option uC)} (hz:xs.size=ys.size) (f:Nat->Bool) (r:Nat):∀(i:Nat),xs.size - i=r->∀(A:vO) (R:Result->uD->Prop) (s:uD),s.heap.get? l=some (lo d1 xs n s1)->s.heap.get? b=some (lo d2 ys m s2)->
  (∀j (h1:j < xs.size) (h2:j < ys.size),EqW P w A.in1 s xs[j] ys[j] (f j))->R (.ok (.ret (.bool (ne !=((vG xs.size).drop i).all f)))) s->
  uT (uW P w) A.in1 (xU.«list.__eq__.loop» ⟨[.ref l,.ref b,xG i,xG (codeN ne)], []⟩) (Fin1 P w A R) (fun e s'=>R (.error e) s') s:=by
 induction r with
 |zero=>
  intro i hr A R s hl hb he q
  obtain⟨hp,g,d,tk,os⟩:=s
  have t1:xs[((i:Nat):Int).toNat]?=none:=by simp;omega
  have t2:ys[((i:Nat):Int).toNat]?=none:=by simp;omega
  have t3:(vG xs.size).drop i=[]:=by simp;omega
  rw [t3] at q
  cases ne with
  |false=>
   wp_walk using uO hl,uO hb
   rw [t1,t2]
   wp_walk using uO hl,uO hb
   show R (.ok (.ret (.bool (xs.size==ys.size)))) _
   rw [hz]
   simpa using q
  |true=>
   wp_walk using uO hl,uO hb
   rw [t1,t2]
   wp_walk using uO hl,uO hb
   show R (.ok (.ret (.bool (xs.size !=ys.size)))) _
   rw [hz]
   simpa using q
 |succ r ih=>
  intro i hr A R s hl hb he q
  obtain⟨hp,g,d,tk,os⟩:=s
  have j1:i < xs.size:=by omega
  have j2:i < ys.size:=by omega
  have t1:xs[((i:Nat):Int).toNat]?=some xs[i]:=by simp [j1]
  have t2:ys[((i:Nat):Int).toNat]?=some ys[i]:=by simp [j2]
  have t3:(vG xs.size).drop i=i ::(vG xs.size).drop (i+1):=by simp [wZ,j1]
  have t4:((i:Int)+1)=((i+1:Nat):Int):=by push_cast;rfl
  rw [t3,xD] at q
  cases ne with
  |false=>
   wp_walk using uO hl,uO hb
   rw [t1,t2]
   refine uB (he i j1 j2 _ _ ?_)
   cases hf:f i with
   |true=>
    rw [hf] at q
    wp_walk
    rw [t4]
    refine⟨dJ aD _,xZ fJ ?_⟩
    rw [xF aD _]
    exact ih (i+1) (by omega) A R _ hl hb he (by simpa using q)
   |false=>
    rw [hf] at q
    wp_walk using uO hl,uO hb
    rw [t1,t2]
    wp_walk
    simpa using q
  |true=>
   wp_walk using uO hl,uO hb
   rw [t1,t2]
   refine uB (he i j1 j2 _ _ ?_)
   cases hf:f i with
   |true=>
    rw [hf] at q
    wp_walk
    rw [t4]
    refine⟨dJ aD _,xZ fJ ?_⟩
    rw [xF aD _]
    exact ih (i+1) (by omega) A R _ hl hb he (by simpa using q)
   |false=>
    rw [hf] at q
    wp_walk using uO hl,uO hb
    rw [t1,t2]
    wp_walk
    simpa using q
theorem listW (ne:Bool) {xs ys:Array uC} {n m:Nat} {d1 d2:Option Addr} {s1 s2:Array (Option uC)} (hz:xs.size=ys.size) (f:Nat->Bool) {R:Result->uD->Prop} (hl:s.heap.get? l=some (lo d1 xs n s1)) (hb:s.heap.get? b=some (lo d2 ys m s2))
  (he:∀j (h1:j < xs.size) (h2:j < ys.size),EqW P w A.in1 s xs[j] ys[j] (f j)) (q:R (.ok (.ret (.bool (ne !=(vG xs.size).all f)))) s):
  uT (uW P w) A.in1 ((if ne=true then xU.«list.__ne__» else xU.«list.__eq__») ⟨[.ref l,.ref b], []⟩) (Fin1 P w A R) (fun e s'=>R (.error e) s') s:=by
 obtain⟨hp,g,d,tk,os⟩:=s
 have f3:=AutoSeq1.sub_list_list
 have z0:¬(xs.size !=ys.size)=true:=by simp [hz]
 cases ne with
 |false=>
  show uT _ _ (xU.«list.__eq__» _) _ _ _
  wp_walk using uO hl,uO hb
  refine⟨dJ aD _,xZ fJ ?_⟩
  rw [xF aD _]
  exact loopW false hz f _ 0 rfl A R _ hl hb he (by simpa using q)
 |true=>
  show uT _ _ (xU.«list.__ne__» _) _ _ _
  wp_walk using uO hl,uO hb
  refine⟨dJ aD _,xZ fJ ?_⟩
  rw [xF aD _]
  exact loopW true hz f _ 0 rfl A R _ hl hb he (by simpa using q)
theorem callW {T id:String} {name:Str} {B:xU} {self:uC} {rest:List uC} {E Q:uC->uD->Prop} (slot:Slot T name id) (hT:s.TypeIs self T) (entry:entryFor table id=some B) (args:argsOk id ⟨self :: rest, []⟩)
  (h:uT (uW P w) A.in1 (B ⟨self :: rest, []⟩) (Fin1 P w A (wants Q E)) (fun e s'=>wants Q E (.error e) s') s):uT (uW P w) A (call (.builtin id) (self :: rest)) Q E s:=
 bX (codeAny_call_builtin slot.plain entry (slot.check _ _ _ _ _ _ _ _ hT args h))
theorem RcW.lists (ne:Bool) {xs ys:Array uC} {f:Nat->Bool} (hl:s.heap.IsList l xs) (hb:s.heap.IsList b ys) (hz:xs.size=ys.size) (hu:A.units < cLine) (he:∀j (h1:j < xs.size) (h2:j < ys.size),EqW P w A.in1 s xs[j] ys[j] (f j)):
  RcW P w A s ne (.ref l) (.ref b) (ne !=(vG xs.size).all f):=fun E Q q=>by
 obtain⟨⟨c1,d1,e1,s1⟩,ho,hc,n,hd⟩:=id hl
 obtain⟨⟨c2,d2,e2,s2⟩,ho2,hc2,m,hd2⟩:=id hb
 simp only at hc hd hc2 hd2
 subst hc hd hc2 hd2
 have q':fL (ne !=(vG xs.size).all f)≠Value.notImplemented/\Q (.bool (ne !=(vG xs.size).all f)) s:=⟨(fun x=>nomatch x),q⟩
 cases ne with
 |false=>exact aE (op:=.Eq) ⟨_,ho,rfl⟩ ⟨_,ho2,rfl⟩ F.slot_list_eq (callW F.slot_list_eq ⟨_,ho,rfl⟩ F.entry_list_eq (F.args_list_eq_2 _ _) (listW (R:=wants (fun v s'=>v≠ .notImplemented/\Q v s') E) false hz f ho ho2 he q')) hu
 |true=>exact aE (op:=.NotEq) ⟨_,ho,rfl⟩ ⟨_,ho2,rfl⟩ F.slot_list_ne (callW F.slot_list_ne ⟨_,ho,rfl⟩ F.entry_list_ne (F.args_list_ne_2 _ _) (listW (R:=wants (fun v s'=>v≠ .notImplemented/\Q v s') E) true hz f ho ho2 he q')) hu
theorem RcW.listsN (ne:Bool) {xs ys:Array uC} (hl:s.heap.IsList l xs) (hb:s.heap.IsList b ys) (hz:(xs.size !=ys.size)=true) (hu:A.units < cLine):RcW P w A s ne (.ref l) (.ref b) (ne !=false):=fun E Q q=>by
 cases ne with
 |false=>exact SeqAt.RcAt.lists_lengths hl hb hz hu P w E Q q
 |true=>exact SeqAt.RcNeAt.lists_lengths hl hb hz hu P w E Q q
theorem tupW (ne:Bool) {xs ys:Array uC} {n m:Nat} {d1 d2:Option Addr} {s1 s2:Array (Option uC)} (f:Nat->Bool) {E Q:uC->uD->Prop} (hl:s.heap.get? l=some (tob d1 xs n s1)) (hb:s.heap.get? b=some (tob d2 ys m s2))
  (he:∀j (h1:j < xs.size) (h2:j < ys.size),EqW P w A.in1 s xs[j] ys[j] (f j)) (q:Q (.bool (ne !=((vG (min xs.size ys.size)).all f && xs.size==ys.size))) s):
  uT (uW P w) A.in1 ((if ne=true then xU.«tuple.__ne__» else xU.«tuple.__eq__») ⟨[.ref l,.ref b], []⟩) (fun fin s'=>∃v,fin=.done (.ret v)/\Q v s') E s:=by
 obtain⟨hp,g,d,tk,os⟩:=s
 have f2:=AutoSeq1.sub_tuple_tuple
 have hZ:(xs.toList.zip ys.toList).length=min xs.size ys.size:=by simp
 have turn:∀(x y:uC) (rest:List (uC × uC)) (i:Nat),(x,y) :: rest=(xs.toList.zip ys.toList).drop i->∃(h1:i < xs.size) (h2:i < ys.size),x=xs[i]/\y=ys[i]/\rest=(xs.toList.zip ys.toList).drop (i+1)/\(vG (min xs.size ys.size)).drop i=i ::(vG (min xs.size ys.size)).drop (i+1):=fun x y rest i hz=>by
  have hlt:i <(xs.toList.zip ys.toList).length:=by
   rcases bN i (xs.toList.zip ys.toList).length with z|z
   .exact z
   .rw [List.drop_of_length_le z] at hz;cases hz
  have hm:i < min xs.size ys.size:=hZ ▸ hlt
  have h1:i < xs.size:=vI hm (Nat.min_le_left _ _)
  have h2:i < ys.size:=vI hm (Nat.min_le_right _ _)
  rw [wZ hlt] at hz
  injection hz with hxy hrest
  exact⟨h1,h2,by have:=congrArg Prod.fst hxy;simpa using this,by have:=congrArg Prod.snd hxy;simpa using this,hrest,by simp [wZ,hm]⟩
 have last:∀i:Nat, []=(xs.toList.zip ys.toList).drop i->(vG (min xs.size ys.size)).drop i=[]:=fun i hz=>by
  have hge:min xs.size ys.size<=i:=by
   rcases bN i (xs.toList.zip ys.toList).length with z|z
   .rw [wZ z] at hz;cases hz
   .exact hZ ▸ z
  exact List.drop_of_length_le (by simpa using hge)
 cases ne with
 |false=>
  show uT _ _ (xU.«tuple.__eq__» _) _ _ _
  wp_walk using uO hl,uO hb,wpAny_forIn_list _ (fun rest c s'=>c.1=none/\s'=⟨hp,g,d,tk,os⟩/\∃i,rest=(xs.toList.zip ys.toList).drop i/\Q (.bool (((vG (min xs.size ys.size)).drop i).all f && xs.size==ys.size)) ⟨hp,g,d,tk,os⟩) _
  case turn=>
   rintro⟨x,y⟩ rest c s' ⟨hc,rfl,i,hz,hR⟩
   obtain⟨h1,h2,rfl,rfl,hrest,hd⟩:=turn x y rest i hz
   rw [hd,xD] at hR
   refine uB (he i h1 h2 _ _ ?_)
   cases hf:f i with
   |true=>
    rw [hf] at hR
    wp_walk
    exact⟨rfl,rfl,i+1,hrest,by simpa using hR⟩
   |false=>
    rw [hf] at hR
    wp_walk
    exact⟨_,rfl,by simpa using hR⟩
  case fin=>
   rintro⟨c1,c2⟩ s' ⟨hc,rfl,i,hz,hR⟩
   simp only at hc
   subst hc
   rw [last i hz] at hR
   wp_walk
   exact⟨_,rfl,by simpa [gH] using hR⟩
  case h=>exact⟨rfl,rfl,0,rfl,by simpa using q⟩
 |true=>
  show uT _ _ (xU.«tuple.__ne__» _) _ _ _
  wp_walk using uO hl,uO hb,wpAny_forIn_list _ (fun rest c s'=>c.1=none/\s'=⟨hp,g,d,tk,os⟩/\∃i,rest=(xs.toList.zip ys.toList).drop i/\Q (.bool (!(((vG (min xs.size ys.size)).drop i).all f && xs.size==ys.size))) ⟨hp,g,d,tk,os⟩) _
  case turn=>
   rintro⟨x,y⟩ rest c s' ⟨hc,rfl,i,hz,hR⟩
   obtain⟨h1,h2,rfl,rfl,hrest,hd⟩:=turn x y rest i hz
   rw [hd,xD] at hR
   refine uB (he i h1 h2 _ _ ?_)
   cases hf:f i with
   |true=>
    rw [hf] at hR
    wp_walk
    exact⟨rfl,rfl,i+1,hrest,by simpa using hR⟩
   |false=>
    rw [hf] at hR
    wp_walk
    exact⟨_,rfl,by simpa using hR⟩
  case fin=>
   rintro⟨c1,c2⟩ s' ⟨hc,rfl,i,hz,hR⟩
   simp only at hc
   subst hc
   rw [last i hz] at hR
   wp_walk
   exact⟨_,rfl,by simpa [gH,bne] using hR⟩
  case h=>exact⟨rfl,rfl,0,rfl,by simpa using q⟩
theorem RcW.tuples (ne:Bool) {xs ys:Array uC} {f:Nat->Bool} (hl:s.heap.IsTuple l xs) (hb:s.heap.IsTuple b ys) (hu:A.units < cLine) (he:∀j (h1:j < xs.size) (h2:j < ys.size),EqW P w A.in1 s xs[j] ys[j] (f j)):
  RcW P w A s ne (.ref l) (.ref b) (ne !=((vG (min xs.size ys.size)).all f && xs.size==ys.size)):=fun E Q q=>by
 obtain⟨⟨c1,d1,e1,s1⟩,ho,hc,n,hd⟩:=id hl
 obtain⟨⟨c2,d2,e2,s2⟩,ho2,hc2,m,hd2⟩:=id hb
 simp only at hc hd hc2 hd2
 subst hc hd hc2 hd2
 cases ne with
 |false=>exact aE (op:=.Eq) ⟨_,ho,rfl⟩ ⟨_,ho2,rfl⟩ F.slot_tuple_eq (wJ F.slot_tuple_eq ⟨_,ho,rfl⟩ F.entry_tuple_eq (tupW (Q:=fun v s'=>v≠ .notImplemented/\Q v s') false f ho ho2 he ⟨(fun x=>nomatch x),q⟩) (F.args_tuple_eq_2 _ _)) hu
 |true=>exact aE (op:=.NotEq) ⟨_,ho,rfl⟩ ⟨_,ho2,rfl⟩ F.slot_tuple_ne (wJ F.slot_tuple_ne ⟨_,ho,rfl⟩ F.entry_tuple_ne (tupW (Q:=fun v s'=>v≠ .notImplemented/\Q v s') true f ho ho2 he ⟨(fun x=>nomatch x),q⟩) (F.args_tuple_ne_2 _ _)) hu
end
end My
namespace My
open PySem PySem.Spec PyProof.Rows L2
inductive DEq (K:uR) (H:Hp):Nat->V->V->Bool->Prop
 |same {n:Nat} {a:Addr}:DEq K H n (.ref a) (.ref a) true
 |flat {n:Nat} {x y:V} (hx:qdl x=true) (hy:qdl y=true):DEq K H n x y (eqV x y)
 |ls {n:Nat} {a b:Addr} {xs ys:List V} {e:Nat->Bool} (ha:SqL K H a xs) (hb:SqL K H b ys) (ne:a≠b) (hl:xs.length=ys.length)
   (he:∀j (h1:j < xs.length) (h2:j < ys.length),DEq K H n xs[j] ys[j] (e j)):DEq K H (n+1) (.ref a) (.ref b) ((vG xs.length).all e)
 |lsN {n:Nat} {a b:Addr} {xs ys:List V} (ha:SqL K H a xs) (hb:SqL K H b ys) (ne:a≠b) (hl:xs.length≠ys.length):DEq K H (n+1) (.ref a) (.ref b) false
 |ts {n:Nat} {a b:Addr} {xs ys:List V} {e:Nat->Bool} (ha:SqT K H a xs) (hb:SqT K H b ys) (ne:a≠b)
   (he:∀j (h1:j < xs.length) (h2:j < ys.length),DEq K H n xs[j] ys[j] (e j)):DEq K H (n+1) (.ref a) (.ref b) ((vG (min xs.length ys.length)).all e && xs.length==ys.length)
 |dd {n:Nat} {a b:Addr} {ka kb:List (Key × V)} (ha:Rd H a (.dK ka)) (hb:Rd H b (.dK kb)) (ne:a≠b) (fa:∀p∈ka,qdl p.2=true) (fb:∀p∈kb,qdl p.2=true):
   DEq K H (n+1) (.ref a) (.ref b) (ka.length==kb.length && ka.all fun p=>(qcq kb p.1).elim false (eqV p.2))
theorem qfr {xs:List V} {us:List uC} (r:qbi xs us) {j:Nat} (h1:j < xs.length) (h2:j < us.length):qbf xs[j] us[j]:=by
 obtain⟨u,e,ru⟩:=r.get (zA h1)
 rw [zA h2] at e
 cases e
 exact ru
theorem valV_mem {kvs:List (Key × V)} {k:Key} {v:V} (h:qcq kvs k=some v):(k,v)∈kvs:=by
 unfold qcq at h
 obtain⟨p,hp,rfl⟩:=uU.mp h
 have e:=eE hp
 have e':p.1=k:=of_decide_eq_true e
 subst e'
 exact aS hp
theorem hits_of {A:vO} {s:uD} {kb:List (Key × V)} {vb:List (Key × uC)} (rb:KV kb vb) (fb:∀p∈kb,qdl p.2=true) {ka:List (Key × V)} {va:List (Key × uC)} (ra:KV ka va) (fa:∀p∈ka,qdl p.2=true):
  PySem.W.KeqHits A s vb va (ka.all fun p=>(qcq kb p.1).elim false (eqV p.2)):=by
 induction ra with
 |nil=>exact .nil
 | @cons p q l1 l2 h t ih=>
  obtain⟨k,v⟩:=p
  obtain⟨k',u⟩:=q
  obtain⟨e,ru⟩:=h
  dsimp only at e ru
  subst e
  have z:=rb.val k
  rw [xD]
  have ih':=ih fun p hp=>fa p (zE _ hp)
  cases hv:qcq kb k with
  |none=>
   rw [hv] at z
   have hn:dU vb k=none:=qgj.none_of z
   exact .miss hn
  |some y=>
   rw [hv] at z
   cases hu:dU vb k with
   |none=>rw [hu] at z;exact z.elim
   |some yu=>
    rw [hu] at z
    exact .hit hu (eqAt_V ru z (fa _ (zG ..)) (fb _ (valV_mem hv))) ih'
section
variable {X: Cx} {pins: List (Addr × Obj)} {σ: L2.St} {H: Hp} {s: uD}
theorem PlainL.isList {h:vR} {a:Addr} {its:Array uC} (p:PlainL h a its):h.IsList a its:=by
 obtain⟨o,n,e,c,d,t⟩:=p
 exact⟨o,e,c,n,t⟩
theorem deq_ok (I:Inv X pins σ H s) {n:Nat} {x y:V} {k:Bool} (q:DEq X.K H n x y k):∀(A:vO) (u v:uC),qbf x u->qbf y v->A.units+n < cLine->
  EqW X.prog X.w A s u v k/\∀a b,x=.ref a->y=.ref b->a≠b->∀ne:Bool,RcW X.prog X.w A s ne (.ref a) (.ref b) (ne !=k):=by
 have both:∀{A:vO} {a b:Addr} {k:Bool},a≠b->(∀ne:Bool,RcW X.prog X.w A s ne (.ref a) (.ref b) (ne !=k))->
   EqW X.prog X.w A s (.ref a) (.ref b) k/\∀a' b',V.ref a=.ref a'->V.ref b=.ref b'->a'≠b'->∀ne:Bool,RcW X.prog X.w A s ne (.ref a') (.ref b') (ne !=k):=fun {A a b k} ne R=>
  ⟨EqW.refs ne (by have z:=R false;simpa using z),fun a' b' e1 e2 _=>by cases e1;cases e2;exact R⟩
 induction q with
 | @same n a=>
  intro A u v ru rv hu
  obtain rfl:u=uP a:=ru
  obtain rfl:v=uP a:=rv
  exact⟨EqW.of (SeqAt.EqAt.same _),fun a' b' e1 e2 ne=>by cases e1;cases e2;exact absurd rfl ne⟩
 |flat hx hy=>
  intro A u v ru rv hu
  exact⟨EqW.of (eqAt_V ru rv hx hy),fun a b e _ _=>by subst e;cases hx⟩
 | @ls n a b xs ys e ha hb ne hl he ih=>
  intro A u v ru rv hu
  obtain rfl:u=uP a:=ru
  obtain rfl:v=uP b:=rv
  obtain⟨its,r1,p1,_⟩:=I.list ha
  obtain⟨its2,r2,p2,_⟩:=I.list hb
  have l1:=r1.length
  have l2:=r2.length
  refine both ne fun nb=>?_
  have z:=RcW.lists (P:=X.prog) (w:=X.w) (A:=A) (s:=s) nb (f:=e) (PlainL.isList p1) (PlainL.isList p2) (by rw [zU,zU];omega) (by omega) fun j h1 h2=>by
   have k1:j < its.length:=by simpa using h1
   have k2:j < its2.length:=by simpa using h2
   have w:=(ih j (by omega) (by omega) A.in1 its[j] its2[j] (qfr r1 (by omega) k1) (qfr r2 (by omega) k2) (by show A.units+1+n < cLine;omega)).1
   simpa using w
  rw [zU,<-l1] at z
  exact z
 | @lsN n a b xs ys ha hb ne hl=>
  intro A u v ru rv hu
  obtain rfl:u=uP a:=ru
  obtain rfl:v=uP b:=rv
  obtain⟨its,r1,p1,_⟩:=I.list ha
  obtain⟨its2,r2,p2,_⟩:=I.list hb
  have l1:=r1.length
  have l2:=r2.length
  exact both ne fun nb=>RcW.listsN nb (PlainL.isList p1) (PlainL.isList p2) (by rw [zU,zU];simp;omega) (by omega)
 | @ts n a b xs ys e ha hb ne he ih=>
  intro A u v ru rv hu
  obtain rfl:u=uP a:=ru
  obtain rfl:v=uP b:=rv
  obtain⟨its,r1,p1,_⟩:=I.tuple ha
  obtain⟨its2,r2,p2,_⟩:=I.tuple hb
  have l1:=r1.length
  have l2:=r2.length
  refine both ne fun nb=>?_
  have z:=RcW.tuples (P:=X.prog) (w:=X.w) (A:=A) (s:=s) nb (f:=e) p1 p2 (by omega) fun j h1 h2=>by
   have k1:j < its.length:=by simpa using h1
   have k2:j < its2.length:=by simpa using h2
   have w:=(ih j (by omega) (by omega) A.in1 its[j] its2[j] (qfr r1 (by omega) k1) (qfr r2 (by omega) k2) (by show A.units+1+n < cLine;omega)).1
   simpa using w
  rw [zU,zU,<-l1,<-l2] at z
  exact z
 | @dd n a b ka kb ha hb ne fa fb=>
  intro A u v ru rv hu
  obtain rfl:u=uP a:=ru
  obtain rfl:v=uP b:=rv
  obtain⟨_,ga,va,ra,da⟩:=qfg I.hok ha
  obtain⟨_,gb,vb,rb,db⟩:=qfg I.hok hb
  have l1:=ra.length
  have l2:=rb.length
  refine both ne fun nb E Q q=>?_
  have hits:=hits_of (A:=A.in1) (s:=s) rb fb ra fa
  rw [l1,l2] at q
  cases nb with
  |false=>exact PySem.W.keq_eq ga gb da db (by omega) (fun _=>hits) (by simpa using q)
  |true=>exact PySem.W.keq_ne ga gb da db (by omega) (fun _=>hits) (by simpa using q)
noncomputable def rEqD (K:uR):R2:=fun x y H Q=>∃a b n k,x=.ref a/\y=.ref b/\a≠b/\n<=8/\DEq K H n (.ref a) (.ref b) k/\Q (.bl k) H
theorem op_eqD (hu:X.A.units+8 < cLine):OpR X (wB .Eq) (rEqD X.K):=by
 intro pins s σ H x y v u Q I rx ry h
 obtain⟨a,b,n,k,rfl,rfl,ne,hn,q,z⟩:=h
 cases rx
 cases ry
 have r:=(deq_ok I q X.A _ _ rfl rfl (by omega)).2 a b rfl rfl ne false X.xe (EP X pins σ Q)
 rw [Bool.false_bne] at r
 exact r ⟨.bl k,H,I,rfl,z⟩
end
section
variable {X: Cx}
noncomputable def rListOf (K:uR):List V->Hp->VK->Prop:=fun xs H Q=>∃p ys,xs=[.ref p]/\(SqL K H p ys\/SqT K H p ys)/\∀l,H l=none->Q (.ref l) (upd H l (.lst ys))
theorem qfp:qc9 X (.type "list") (rListOf X.K):=call_list_of
end
section
variable {K: uR} {σ: L2.St} {H: Hp} {Q: VK} {p l b: Addr} {ys xs zs: List V} {to: TE} {t: TA} {T: String} {r: V -> List V -> Hp -> VK -> Prop} {x v: V}
theorem r_listL (h:SqL K H p ys) (q:∀l,H l=none->Q (.ref l) (upd H l (.lst ys))):rListOf K [.ref p] H Q:=⟨p,ys,rfl,.inl h,q⟩
theorem r_bm (h:to σ H fun x H1=>tyV K T x H1/\t σ H1 fun xs H2=>r x xs H2 Q):tBM K T r to t σ H Q:=h
theorem r_bm0 (h:to σ H fun x H1=>tyV K T x H1/\r x [] H1 Q):tBM0 K T r to σ H Q:=h
theorem r_tyL {P:Prop} (h:SqL K H p ys) (q:P):tyV K "list" (.ref p) H/\P:=⟨.inl ⟨rfl,_,h⟩,q⟩
theorem r_append (h:H l=some (.lst xs)) (hz:xs.length < sizeLine) (q:Q .non (upd H l (.lst (xs++ [v])))):rAppend (.ref l) [v] H Q:=⟨l,xs,v,rfl,rfl,h,hz,q⟩
theorem r_cat (h:H l=some (.lst xs)) (h':H b=some (.lst zs)) (hz:xs.length+zs.length<=sizeLine) (q:∀p,H p=none->Q (.ref p) (upd H p (.lst (xs++zs)))):rCat (.ref l) (.ref b) H Q:=⟨l,b,xs,zs,rfl,rfl,h,h',hz,q⟩
end
noncomputable def initIn (K:uR) (C f:Addr):Bool:=match K.lookup C with
 |some ⟨.type "type",_,.cls cd,sl⟩=>(match cd.mro,sl.toList with
  | .ref C' :: bm, [_,_,_,_,some (.builtin n),_]=>C'==C && n== "ValueError.__new__" && !cd.hasDel && PySem.W.tailIn K [.type "ValueError",.type "Exception",.type "BaseException",.type "object"] bm && PySem.W.nsOkIn K cd.ns && xI K cd.ns "__init__" ==some (some (.ref f))
  |_,_=>false)
 |_=>false
theorem xcli_of {K:uR} {C f:Addr} (q:initIn K C f=true) (hf:isFn K (.ref f)=true):XClI K C f:=by
 refine⟨?_,hf⟩
 unfold initIn at q
 split at q
 .rename_i dd cd sl ho
  split at q
  .rename_i C' bm k0 k1 k2 k3 n k5 hm hs
   simp only [vS,beq_iff_eq,dA] at q
   obtain⟨⟨⟨⟨⟨rfl,rfl⟩,hdel⟩,ht⟩,hok⟩,hni⟩:=q
   obtain⟨nm,bs,mro,ns,qn,hd,sn,sub,ab,col,del⟩:=cd
   dsimp only at hm hdel hok hni
   subst hm hdel
   have hsl:sl= #[k0,k1,k2,k3,some (.builtin "ValueError.__new__"),k5]:=by
    obtain⟨l⟩:=sl
    simp only at hs
    rw [hs]
   subst hsl
   unfold PySem.W.nsOkIn at hok
   split at hok
   .rename_i c1 d1 es ep sl1 hN
    have hSK:StrKeys es:=fun e he=>by
     have z:=gC.mp hok e he
     split at z
     .rename_i n t q;exact⟨n,t,q⟩
     .cases z
    have hNs:∀h:vR,K.In h->h.Ns ns (fun x=>fN es x):=fun h X=>⟨_,es,ep,X _ _ hN,rfl,hSK,fun _=>rfl⟩
    refine⟨nm,qn,ns,bs,bm,hd,sn,sub,ab,col,dd,k0,k1,k2,k3,k5,fun x=>fN es x,ho,hNs,?_,fun h X=>PySem.W.tail_of_in X ht⟩
    unfold xI at hni
    rw [hN] at hni
    dsimp only at hni
    split at hni
    .rename_i hf
     show fN es "__init__" =some (.ref f)
     unfold fN findBy
     rw [<-fO,hf]
     exact congrArg some (uX (uX hni))
    .first|(split at hni <;> cases hni) |simp at hni
   .cases hok
  .cases q
 .cases q
structure RoomH (k:Nat) (A:vO):Prop where
 dp:A.depth+3*k+5 < recursionLimit
 un:A.units+16*k+200 < cLine
structure FnOkH (P:vB) (w:vL) (K:uR) (mg:Str->Option uC) (base:vR) (k:Nat) (f:Addr) (fd:uM) (ps:List Str) (sp:Sp):Prop where
 len:∀vs H Q E,sp vs H Q E->vs.length=ps.length
 run:∀(a:Addr) (A:vO) (outer:List Env) (s:uD) (H:Hp) (args:Args) (us:List uC) (vs:List V) (Q:VK) (E:XK),RoomH k A->A.handled=some (.ref a)->Env0 P w K mg base A outer s H->fA s fd args (ps.zip us)->qbi vs us->sp vs H Q E->
  cN (uW P w) A (.call (.ref f) args) (CR CX0 outer P w H s Q E) s
section
variable {X: Cx}
noncomputable def rNeD (K:uR):R2:=fun x y H Q=>∃a b n k,x=.ref a/\y=.ref b/\a≠b/\n<=8/\DEq K H n (.ref a) (.ref b) k/\Q (.bl (!k)) H
theorem op_neD (hu:X.A.units+8 < cLine):OpR X (wB .NotEq) (rNeD X.K):=by
 intro pins s σ H x y v u Q I rx ry h
 obtain⟨a,b,n,k,rfl,rfl,ne,hn,q,z⟩:=h
 cases rx
 cases ry
 have r:=(deq_ok I q X.A _ _ rfl rfl (by omega)).2 a b rfl rfl ne true X.xe (EP X pins σ Q)
 rw [Bool.true_bne] at r
 exact r ⟨.bl (!k),H,I,rfl,z⟩
end
section
variable {K: uR} {H: Hp} {Q: VK} {a b: Addr} {n: Nat} {k: Bool}
theorem r_eqD (ne:a≠b) (hn:n<=8) (q:DEq K H n (.ref a) (.ref b) k) (h:Q (.bl k) H):rEqD K (.ref a) (.ref b) H Q:=⟨a,b,n,k,rfl,rfl,ne,hn,q,h⟩
theorem r_neD (ne:a≠b) (hn:n<=8) (q:DEq K H n (.ref a) (.ref b) k) (h:Q (.bl (!k)) H):rNeD K (.ref a) (.ref b) H Q:=⟨a,b,n,k,rfl,rfl,ne,hn,q,h⟩
end
theorem hu8 {k:Nat} {A:vO} (r:Room k A):A.units+8 < cLine:=by have:=r.un;omega
noncomputable def DEqs (K:uR) (H:Hp) (n:Nat):List V->List V->Prop
 | [], []=>True
 |x :: xs,y :: ys=>DEq K H n x y true/\DEqs K H n xs ys
 |_,_=>False
theorem DEqs.len {K:uR} {H:Hp} {n:Nat}:∀{xs ys:List V},DEqs K H n xs ys->xs.length=ys.length
 | [], [],_=>rfl
 |_ :: _,_ :: _,h=>congrArg (·+1) (DEqs.len h.2)
 | [],_ :: _,h=>h.elim
 |_ :: _, [],h=>h.elim
theorem DEqs.get {K:uR} {H:Hp} {n:Nat}:∀{xs ys:List V},DEqs K H n xs ys->∀j (h1:j < xs.length) (h2:j < ys.length),DEq K H n xs[j] ys[j] true
 | [], [],_,j,h1,_=>absurd h1 (cL j)
 |_ :: _,_ :: _,h,0,_,_=>h.1
 |_ :: _,_ :: _,h,j+1,h1,h2=>DEqs.get h.2 j (xV h1) (xV h2)
 | [],_ :: _,h,_,_,_=>h.elim
 |_ :: _, [],h,_,_,_=>h.elim
theorem deq_list {K:uR} {H:Hp} {n:Nat} {a b:Addr} {xs ys:List V} (ha:SqL K H a xs) (hb:SqL K H b ys) (ne:a≠b) (h:DEqs K H n xs ys):DEq K H (n+1) (.ref a) (.ref b) true:=by
 have z:=DEq.ls (n:=n) (e:=fun _=>true) ha hb ne h.len h.get
 have e:(vG xs.length).all (fun _=>true)=true:=by simp
 rw [e] at z
 exact z
noncomputable def SameBut (L:Addr) (H H':Hp):Prop:=∀b o,b≠L->H b=some o->H' b=some o
theorem SameBut.at {H H':Hp} {L:Addr} {o:HO} (e:SameBut L H H'):SameBut L H (upd H' L o):=fun b u hb q=>by
 rw [qa6 hb];exact e b u hb q
theorem SameBut.of {H H':Hp} {L:Addr} (s:qar H H'):SameBut L H H':=fun b u _ q=>s b u q
noncomputable def qgl (H:Hp) (a:Addr):Prop:=∀o u,H a≠some (.frz o u)
section
variable {X: Cx} {pins: List (Addr × Obj)} {σ: L2.St} {H H': Hp} {s: uD} {a: Addr} {kvs: List (Key × V)} {o: Obj}
theorem Inv.freeze (I:Inv X pins σ H s) (e:H a=some (.dK kvs)) (ho:s.heap.get? a=some o):Inv X pins σ (upd H a (.frz o (.dK kvs))) s:=by
 have ok:=I.hok a _ e
 have z:=I.write (x:=a) (e:=a) (o:=.frz o (.dK kvs)) (h':=s.heap) (t':=s.toks) (by rw [e];exact wO) (.inl rfl) (fun _ _ _ q=>q) ⟨o,ho⟩ ⟨ho,ok⟩
 exact z
theorem Inv.thaw (I:Inv X pins σ H s) (e:H a=some (.frz o (.dK kvs))) (n0:qgl X.H₀ a):Inv X pins σ (upd H a (.dK kvs)) s:=by
 have ne:∀b,H b=none->b≠a:=fun b q z=>by subst z;rw [e] at q;cases q
 have nk:∀b u,H b=some u->(∀o' u',u≠ .frz o' u')->b≠a:=fun b u q z w=>by subst w;rw [e] at q;cases q;exact z _ _ rfl
 refine⟨I.ok,I.os,I.bare,⟨I.base.keep,I.base.slot,fun b ob q n hx=>?_,I.base.there,fun b xs q=>?_,fun b ob u q=>?_,fun b ps q=>?_⟩,I.loc,I.cell,?_,fun x c q=>?_,fun p hp=>?_,fun b u q=>?_,I.len⟩
 .have z:=I.base.free b ob q n hx
  rw [qa6 (ne b z)];exact z
 .have z:=I.base.tups b xs q
  rw [qa6 (nk b _ z (by intro _ _ h;cases h))];exact z
 .have z:=I.base.frzs b ob u q
  rw [qa6 (fun w=>by subst w;exact n0 _ _ q)];exact z
 .obtain⟨m,z⟩:=I.base.tbls b ps q
  exact⟨m,by rw [qa6 (nk b _ z (by intro _ _ h;cases h))];exact z⟩
 .have z:=I.free
  rw [qa6 (ne _ z)];exact z
 .have z:=I.freeC x c q
  rw [qa6 (ne _ z)];exact z
 .obtain⟨p1,p2,p3⟩:=I.pin p hp
  exact⟨p1,by rw [qa6 (ne _ p2)];exact p2,p3⟩
 .by_cases hb:b=a
  .subst hb
   rw [qa3] at q
   cases q
   exact(I.hok b _ e).2
  .rw [qa6 hb] at q
   exact(I.hok b u q).stay (fun _ _ _ r=>r) (fun c r=>by rw [qa6 (nk c _ r (by intro _ _ h;cases h))];exact r) fun c xs r=>by rw [qa6 (nk c _ r (by intro _ _ h;cases h))];exact r
noncomputable def Thaw (H0 H H':Hp):Prop:=H'=H\/∃a o kvs,H a=some (.frz o (.dK kvs))/\qgl H0 a/\H'=upd H a (.dK kvs)
theorem Inv.thawed (I:Inv X pins σ H s) (t:Thaw X.H₀ H H'):Inv X pins σ H' s:=by
 rcases t with rfl|⟨a,o,kvs,e,n,rfl⟩
 .exact I
 .exact Inv.thaw I e n
end
section
variable {X: Cx} {st: Stmt} {e: vU} {t: TS} {te: TE}
noncomputable def thE (H0:Hp) (D:Ends):Ends:={nx:=fun σ H=>∃H',Thaw H0 H H'/\D.nx σ H',rt:=fun v H=>∃H',Thaw H0 H H'/\D.rt v H',bk:=fun σ H=>∃H',Thaw H0 H H'/\D.bk σ H',ct:=fun σ H=>∃H',Thaw H0 H H'/\D.ct σ H'}
noncomputable def tThA (H0:Hp) (t:TS):TS:=fun D σ H=>t (thE H0 D) σ H
theorem ps_thA (h:PS X st t):PS X st (tThA X.H₀ t):=fun pins s σ H D I q=>thn (h pins s σ H _ I q) fun f s' hs=>by
 cases f with
 |next=>obtain⟨σ',H1,J,H2,th,q⟩:=hs;exact⟨σ',H2,Inv.thawed J th,q⟩
 |brk=>obtain⟨σ',H1,J,H2,th,q⟩:=hs;exact⟨σ',H2,Inv.thawed J th,q⟩
 |cont=>obtain⟨σ',H1,J,H2,th,q⟩:=hs;exact⟨σ',H2,Inv.thawed J th,q⟩
 |ret u=>obtain⟨v,σ',H1,J,r,H2,th,q⟩:=hs;exact⟨v,σ',H2,Inv.thawed J th,r,q⟩
noncomputable def tThV (H0:Hp) (t:TE):TE:=fun σ H Q=>t σ H fun v H1=>∃H',Thaw H0 H1 H'/\Q v H'
theorem pe_thV (h:PE X e te):PE X e (tThV X.H₀ te):=fun pins s σ H Q I q=>thn (h pins s σ H _ I q) fun u s' ⟨v,H1,J,r,H2,th,q⟩=>⟨v,H2,Inv.thawed J th,r,q⟩
end
theorem kvget {κ:Type} {kvs:List (κ × V)} {vs:List (κ × uC)} (r:KV kvs vs):∀{i:Nat} {k:κ} {v:V},kvs[i]?=some (k,v)->∃u,vs[i]?=some (k,u)/\qbf v u:=by
 induction r with
 |nil=>intro i k v e;simp at e
 |cons h t ih=>
  intro i k v e
  cases i with
  |zero=>
   simp only [bE,dC] at e ⊢
   subst e
   obtain⟨h1,h2⟩:=h
   exact⟨_,Prod.ext h1.symm rfl,h2⟩
  |succ i=>
   simp only [bF] at e ⊢
   exact ih e
theorem kV_rel {k:Key} {u:uC} (h:keyIs k u=true):qbf (kV k) u:=by
 rcases qbc h with ⟨i,t,rfl,rfl⟩ |⟨x,t,rfl,rfl⟩
 .exact⟨t,rfl⟩
 .exact⟨t,rfl⟩
noncomputable def ItD (d:Addr) (o:Obj) (kvs:List (Key × V)):It:=
 ⟨fun i H=>H d=some (.frz o (.dK kvs))/\i < kvs.length,fun i H x H'=>H'=H/\∃k v,kvs[i]?=some (k,v)/\x=kV k,fun i H=>H d=some (.frz o (.dK kvs))/\kvs.length<=i⟩
theorem frz_at {P:vB} {w:vL} {H:Hp} {h:vR} {d:Addr} {o:Obj} {kvs:List (Key × V)} {es:Array fB} {ep:Nat} (ok:HOk P w H h) (e:H d=some (.frz o (.dK kvs))) (hd:o.data=.dict es ep):
  ∃vs,KV kvs vs/\h.DictAt (qbd P w) d vs ep:=by
 obtain⟨ho,_,_,vs,rel,o',es',ep',ho',ex,hd',ks,ps,nd⟩:=ok d _ e
 rw [ho] at ho'
 cases ho'
 rw [hd] at hd'
 cases hd'
 exact⟨vs,rel,o,es,ho,ex,hd,ks,ps,nd⟩
theorem turn_dict {P:vB} {w:vL} {K:uR} {tg:vU} {o:Obj} {kvs:List (Key × V)} {es:Array fB} {ep:Nat} (d it:Addr) (hd:o.data=.dict es ep):Turn P w K tg (ItD d o kvs) [it] it (fun i h=>h.IsKeyIter it d i kvs.length ep) where
 mem:=by simp
 obj:=fun i h st b hb=>by
  have e:b=it:=by simpa using hb
  subst e
  obtain⟨ob,e,c,dd⟩:=st
  exact⟨ob,e,fun v z=>by rw [dd] at z;cases z⟩
 keep:=fun i h h' st k=>st.at fun ob e=>k it (by simp) ob e
 item:=by
  intro X hP hw hK hc i pins s σ H E I hf st hg
  subst hP hw hK
  obtain⟨hfz,hi⟩:=hg
  obtain⟨vs,rel,dat⟩:=frz_at I.hok hfz hd
  obtain⟨f0,f1,f2,f3,f4,f5⟩:=hf it (by simp)
  have hl:=rel.length
  obtain⟨u,hu,ru⟩:=kvget rel (i:=i) (k:=kvs[i].1) (v:=kvs[i].2) (by rw [zA hi])
  rw [hl] at st
  refine wpAny_pyNext_dict_item st dat hu fun key h' hkey st' hs'=>?_
  have I1:Inv X pins σ H {s with heap:=h'}:=I.turned (t':=s.toks) (fun b ob hb e=>hs'.extBut b ob hb e) f0 f1 f3 f4 f5
  obtain⟨ob,e,c,dd⟩:=id st'
  exact⟨key,rfl,go_of (s:={s with heap:=h'}) e c dd (by decide) ⟨kV kvs[i].1,H,I1,kV_rel hkey,⟨rfl,kvs[i].1,kvs[i].2,zA hi,rfl⟩,by rw [hl];exact st',fun b hb=>(hf b hb).1⟩⟩
 done:=by
  intro X hP hw hK hc i pins s σ H E I hf st hg
  subst hP hw hK
  obtain⟨hfz,hi⟩:=hg
  obtain⟨vs,rel,dat⟩:=frz_at I.hok hfz hd
  obtain⟨f0,f1,f2,f3,f4,f5⟩:=hf it (by simp)
  have hl:=rel.length
  rw [hl] at st hi
  exact wpAny_pyNext_dict_end (I.ok.hd hc) st dat (by simpa using hi) fun h' eb=>⟨rfl,I.turned (t':=s.toks) (fun b ob hb e=>eb b ob hb e) f0 f1 f3 f4 f5⟩
 self:=fun _ _ _ _ _ st h=>wpAny_pyIter_keyiter st h
noncomputable def rItD (x:V) (H:Hp) (R:It->Hp->Prop):Prop:=∃a kvs,x=.ref a/\((H a=some (.dK kvs)/\∀o,R (ItD a o kvs) (upd H a (.frz o (.dK kvs))))\/∃o,H a=some (.frz o (.dK kvs))/\R (ItD a o kvs) H)
noncomputable def iDict (td:TE):TI:=fun σ H R=>td σ H fun x H1=>rItD x H1 R
theorem dat_of {P:vB} {w:vL} {H:Hp} {h:vR} {d:Addr} {kvs:List (Key × V)} (ok:qbo P w H h d (.dK kvs)):∃o es ep vs,h.get? d=some o/\o.data=.dict es ep/\KV kvs vs/\h.DictAt (qbd P w) d vs ep/\(d==wN)=false:=by
 obtain⟨_,hs,vs,rel,o,es,ep,ho,ex,hd,ks,ps,nd⟩:=ok
 exact⟨o,es,ep,vs,ho,hd,rel,⟨o,es,ho,ex,hd,ks,ps,nd⟩,hs⟩
theorem qec {X:Cx} {tg l:vU} {tl:TE} (hl:PE X l tl):PI X tg l (iDict tl):=by
 intro pins s σ H R I h
 refine thn (hl pins s σ H _ I h) fun v s1 ⟨x,H1,I1,r1,q1⟩=>?_
 obtain⟨a,kvs,e,q⟩:=q1
 subst e
 cases r1
 have ok:qbo X.prog X.w H1 s1.heap a (.dK kvs):=by
  rcases q with ⟨e,_⟩ |⟨o,e,_⟩
  .exact I1.hok a _ e
  .exact(I1.hok a _ e).2
 obtain⟨o,es,ep,vs,ho,hd,rel,dat,hs⟩:=dat_of ok
 have hlen:=rel.length
 refine wpAny_pyIter_dict hs dat ?_
 have it0:(s1.heap.push {cls:=.type "dict_keyiterator",data:=.fields #[.ref a,.int 0 0,.int vs.length 0,.int ep 0]}).IsKeyIter s1.heap.objs.size a 0 kvs.length ep:=by
  rw [hlen];exact⟨_,uQ _ rfl,rfl,rfl⟩
 rcases q with ⟨e,q⟩ |⟨o',e,q⟩
 .have I2:=Inv.freeze I1 e ho
  refine⟨s1.heap.objs.size, [s1.heap.objs.size],_,_,_,rfl,I2.kept (t':=s1.toks) fun b ob e=>uF _ e,turn_dict (kvs:=kvs) a _ hd,it0,fun b hb=>?_,q o⟩
  have e:b=s1.heap.objs.size:=by simpa using hb
  subst e
  exact I2.fpOk (uG _) (I2.hok.fresh (uG _))
 .have eo:o'=o:=by
   have z:=(I1.hok a _ e).1
   rw [ho] at z
   cases z
   rfl
  subst eo
  refine⟨s1.heap.objs.size, [s1.heap.objs.size],_,_,_,rfl,I1.kept (t':=s1.toks) fun b ob e=>uF _ e,turn_dict (kvs:=kvs) a _ hd,it0,fun b hb=>?_,q⟩
  have e:b=s1.heap.objs.size:=by simpa using hb
  subst e
  exact I1.fpOk (uG _) (I1.hok.fresh (uG _))
section
variable {σ: L2.St} {H H': Hp} {D: Ends} {t: TS} {te tl: TE} {Q: VK} {g: TG} {tb: TS} {a: Addr} {o: Obj} {kvs: List (Key × V)} {H0: Hp} {v: V}
theorem r_thA (h:t (thE H0 D) σ H):tThA H0 t D σ H:=h
theorem r_thNx (th:Thaw H0 H H') (h:D.nx σ H'):(thE H0 D).nx σ H:=⟨H',th,h⟩
theorem r_thV (h:te σ H fun v H1=>∃H',Thaw H0 H1 H'/\Q v H'):tThV H0 te σ H Q:=h
theorem thaw1 (e:H a=some (.frz o (.dK kvs))) (n:qgl H0 a):Thaw H0 H (upd H a (.dK kvs)):=.inr ⟨a,o,kvs,e,n,rfl⟩
theorem r_iD {R:It->Hp->Prop} (h:tl σ H fun x H1=>rItD x H1 R):iDict tl σ H R:=h
theorem r_itD {R:It->Hp->Prop} (e:H a=some (.dK kvs)) (h:∀o,R (ItD a o kvs) (upd H a (.frz o (.dK kvs)))):rItD (.ref a) H R:=⟨a,kvs,rfl,.inl ⟨e,h⟩⟩
theorem f_dict (Pv:Nat->L2.St->Hp->Prop) (h0:Pv 0 σ H) (hl:∀i σ H,i<=kvs.length->Pv i σ H->H a=some (.frz o (.dK kvs)))
  (hs:∀i k v σ H,kvs[i]?=some (k,v)->Pv i σ H->g (kV k) σ H fun σ2 H2=>tb {nx:=Pv (i+1),rt:=D.rt,bk:=D.nx,ct:=Pv (i+1)} σ2 H2) (hd:∀σ H,Pv kvs.length σ H->D.nx σ H):FOR (ItD a o kvs) g tb D σ H:=by
 refine⟨fun i m σ H=>m=kvs.length - i/\i<=kvs.length/\Pv i σ H,⟨kvs.length,rfl,wC _,h0⟩,?_⟩
 rintro i m σ H ⟨rfl,hi,p⟩
 have q:=hl i σ H hi p
 by_cases hlt:i < kvs.length
 .refine .inr ⟨⟨q,hlt⟩,Pv (i+1),fun σ' H' p'=>⟨kvs.length - (i+1),by omega,rfl,hlt,p'⟩,fun x H' y=>?_⟩
  obtain⟨e,k,v,hk,rfl⟩:=y
  subst e
  exact hs i k v σ _ hk p
 .have e:i=kvs.length:=Nat.le_antisymm hi (gO hlt)
  subst e
  exact .inl ⟨⟨q,uG _⟩,hd σ H p⟩
end
theorem objOk_get {P:vB} {w:vL} {H:Hp} {h:vR} {a:Addr} {o:HO} (x:qbo P w H h a o):∃u,h.get? a=some u:=by
 induction o with
 |lst xs=>obtain⟨_,_,_,_,e⟩:=x;exact⟨_,e⟩
 |tup xs=>obtain⟨_,_,_,ob,e,_⟩:=x;exact⟨_,e⟩
 |dK kvs=>obtain⟨_,_,_,_,o,_,_,e,_⟩:=x;exact⟨_,e⟩
 |dT kvs=>obtain⟨_,_,_,_,o,_,_,e,_⟩:=x;exact⟨_,e⟩
 |set S n=>obtain⟨o,_,_,_,e,_⟩:=x;exact⟨_,e⟩
 |ins C dx fs=>obtain⟨_,_,_,e,_⟩:=x;exact⟨_,e⟩
 |own y=>exact x
 |xd fs=>obtain⟨_,⟨_,_,_,e,_⟩,_⟩:=x;exact⟨_,e⟩
 |rng lo hi=>obtain⟨_,_,_,e⟩:=x;exact⟨_,e⟩
 |frz ob u ih=>exact⟨_,x.1⟩
 |tbl ps=>exact⟨_,x⟩
 |met f y=>exact⟨_,x⟩
 |ext φ=>exact x.2.1
theorem Inv.laidN {X:Cx} {pins:List (Addr × Obj)} {σ:L2.St} {H:Hp} {s:uD} {h':vR} {a:Addr} {o:HO} {t':Nat} (I:Inv X pins σ H s) (k:∀b u,s.heap.get? b=some u->h'.get? b=some u) (hg:s.heap.get? a=none) (new:qbo X.prog X.w (upd H a o) h' a o):
  H a=none/\Inv X pins σ (upd H a o) {s with heap:=h',toks:=t'}:=by
 have hn:H a=none:=by
  cases q:H a with
  |none=>rfl
  |some u=>obtain⟨v,e⟩:=objOk_get (I.hok a u q);rw [hg] at e;cases e
 refine⟨hn,I.un ⟨fun b u q _ _ _=>k b u q,fun b u q _ _ _=>⟨u.slots,k b u q⟩,fun b u q n _=>by rw [qa6 (fun z=>by subst z;rw [hg] at q;cases q)];exact n,fun b u q _=>⟨u,k b u q⟩,fun b xs q=>by rw [qa6 (qa7 q hn)];exact q,
  fun b u xs q=>by rw [qa6 (qa7 q hn)];exact q,fun b ps q=>⟨#[],by rw [qa6 (qa7 q hn),q];simp⟩⟩ fun b u e=>?_⟩
 by_cases hb:b=a
 .subst hb;rw [qa3] at e;cases e;exact new
 .rw [qa6 hb] at e
  exact(I.hok b u e).stay (fun c v _ q=>k c v q) (fun c q=>by rw [qa6 (qa7 q hn)];exact q) fun c xs q=>by rw [qa6 (qa7 q hn)];exact q
section
variable {X: Cx}
noncomputable def rDictCp:List V->Hp->VK->Prop:=fun xs H Q=>∃p kvs,xs=[.ref p]/\Rd H p (.dK kvs)/\∀q,H q=none->Q (.ref q) (upd H q (.dK kvs))
theorem qdq:qc9 X (.type "dict") rDictCp:=by
 intro pins s σ H xs us Q I hv h
 obtain⟨p,kvs,rfl,e,q⟩:=h
 obtain⟨u,rfl,ru⟩:=hv.one
 cases ru
 exact d_copyOf I e fun l s' hl I'=>⟨.ref l,_,I',rfl,q l hl⟩
theorem qfw:∀{ss:List Str} {us:List uC},qbi (ss.map V.str) us->gD us ss
 | [],_,r=>by cases r;exact .nil
 |x :: ss,_,r=>by
  cases r with
  |cons h t=>obtain⟨k,rfl⟩:=h;exact .cons x k (qfw t)
theorem qet:∀{us:List uC} {ss:List Str},gD us ss->qbi (ss.map V.str) us
 |_,_,.nil=> .nil
 |_,_,.cons x t h=> .cons ⟨t,rfl⟩ (qet h)
noncomputable def rSortL (K:uR):List V->Hp->VK->Prop:=fun xs H Q=>∃p ss,xs=[.ref p]/\SqL K H p (ss.map V.str)/\ss.length < 64/\∀l ss',H l=none->ss'.Perm ss->sortedS ss'=true->Q (.ref l) (upd H l (.lst (ss'.map V.str)))
theorem qeh:qc9 X (.builtin "sorted") (rSortL X.K):=by
 intro pins s σ H xs us Q I hv h
 obtain⟨p,ss,rfl,hS,hz,q⟩:=h
 obtain⟨u,rfl,ru⟩:=hv.one
 cases ru
 obtain⟨its,rv,pl,hz'⟩:=I.list hS
 have hlen:=rv.length
 rw [zB] at hlen
 refine sorted_strs (vs:=its) (PlainL.isList pl) (qfw rv) (by omega) fun out ss' a1 a2 a3=>?_
 obtain⟨e,he⟩:=sortedAll_at s.heap its out
 have hl2:=a2.length_eq
 have I2:=I.laid (a:=s.heap.objs.size+1) (o:=.lst (ss'.map V.str)) (t':=s.toks) (fun b ob hb=>sortedAll_old hb) (aI _) ⟨by rw [zB,bC];omega,out.toList,e,qet a1,by simpa [seqObj] using he⟩
 exact⟨.ref _,_,I2,rfl,q _ ss' (I.hok.fresh (aI _)) a2 a3⟩
noncomputable def rSortD:List V->Hp->VK->Prop:=fun xs H Q=>∃p kvs ss,xs=[.ref p]/\Rd H p (.dK kvs)/\kvs.map (·.1)=ss.map vE/\ss.length < 64/\∀l ss',H l=none->ss'.Perm ss->sortedS ss'=true->Q (.ref l) (upd H l (.lst (ss'.map V.str)))
theorem strs_keys {ss:List Str} {us:List uC} (hl:us.length=ss.length) (h:∀(j:Nat) (u:uC),us[j]?=some u->∃x,ss[j]?=some x/\keyIs (.inr x) u=true):gD us ss:=by
 induction us generalizing ss with
 |nil=>cases ss with
  |nil=>exact .nil
  |cons _ _=>simp at hl
 |cons u us ih=>cases ss with
  |nil=>simp at hl
  |cons x ss=>
   obtain⟨y,hy,hk⟩:=h 0 u rfl
   simp only [bE,dC] at hy
   subst hy
   rcases qbc hk with ⟨i,t,e,_⟩ |⟨z,t,e,rfl⟩
   .cases e
   .cases e
    exact .cons x t (ih (by simpa using hl) fun j v hv=>by have:=h (j+1) v (by simpa using hv);simpa using this)
theorem qfo (hc:X.calm=true):qc9 X (.builtin "sorted") rSortD:=by
 intro pins s σ H xs us Q I hv h
 obtain⟨p,kvs,ss,rfl,hR,hk,hz,q⟩:=h
 obtain⟨u,rfl,ru⟩:=hv.one
 cases ru
 obtain⟨o,es,ep,vs,ho,hd,rel,dat,hs⟩:=dat_of (hR.ok I.hok)
 have hlen:=rel.length
 have hks:=rel.keys
 have hl2:kvs.length=ss.length:=by have:=congrArg wP hk;simpa using this
 refine Calls.call_function_entry kind_sorted plain_sorted entry_sorted (args_sorted1 _) ?_
 unfold xU.«sorted»
 refine uB (m:=checkCount "sorted" 1 1 _) (uI ?_)
 refine uB (PySem.W.kdu_collect (A:=X.A.in1) (PySem.W.kdl_dict (knd:=qbd X.prog X.w) (kvs:=vs) (ep:=ep) hs) (I.ok.hd hc) dat (by rw [bC];omega) fun h' tk acc hkeep hacc=>?_)
 have hal:acc.toList.length=vs.length:=by rw [fE];exact hacc.1
 refine uB (wpAny_newList ?_ (by rw [hal,bC];omega))
 have hS:gD acc.toList ss:=by
  refine strs_keys (by omega) fun j v hv=>?_
  obtain⟨k,x,hx,hkv⟩:=hacc.2 j v (by rw [<-bT];exact hv)
  have e1:(vs.map (·.1))[j]?=some k:=by rw [zC,hx];rfl
  rw [<-hks,hk,zC] at e1
  obtain⟨z,hz1,rfl⟩:=uU.mp e1
  exact⟨z,hz1,hkv⟩
 have hoL:(h'.push {cls:=.type "list",data:=.seq acc.toList.toArray}).get? h'.objs.size=some (seqObj "list" acc.toList.toArray 0):=uQ _ rfl
 refine uB (wV (wJ slot_list_sort ⟨_,hoL,rfl⟩ entry_list_sort (list_sort_treeK strKind_oneLt hoL hS.keysOf (fun v₁ v₂ rest e=>keyKind_strs (by rw [<-e];exact hS)) (by omega) fun st' a1 a2=>⟨_,rfl,?_⟩) (args_list_sort _)))
 obtain⟨ss',b1,b2,b3⟩:=sorted_out_str hS a1 a2
 obtain⟨e,he⟩:=sortedHeap_at (out:=(arrOf st').map (·.2)) hoL
 have hl3:=b2.length_eq
 have hg:s.heap.get? h'.objs.size=none:=by
  cases q:s.heap.get? h'.objs.size with
  |none=>rfl
  |some ob=>exact absurd (uN (hkeep _ _ q)) (wD _)
 obtain⟨hn,I2⟩:=Inv.laidN I (h':=sortedHeap (h'.push {cls:=.type "list",data:=.seq acc.toList.toArray}) h'.objs.size acc.toList ((arrOf st').map (·.2))) (a:=h'.objs.size) (o:=.lst (ss'.map V.str)) (t':=tk) (fun b ob hb=>by
  have hb':=hkeep b ob hb
  rw [sortedHeap_old (vD (uN hb')) (by rw [size_push'];exact gE (uN hb'))]
  exact uF _ hb') hg ⟨by rw [zB,bC];omega,((arrOf st').map (·.2)).toList,e,qet b1,by rw [Array.toArray_toList];exact he⟩
 exact uI ⟨_,rfl,.ref _,_,I2,rfl,q _ ss' hn b2 b3⟩
end
section
variable {K: uR} {H: Hp} {Q: VK} {p: Addr} {kvs: List (Key × V)} {ss: List Str}
theorem r_dictCp (e:Rd H p (.dK kvs)) (h:∀q,H q=none->Q (.ref q) (upd H q (.dK kvs))):rDictCp [.ref p] H Q:=⟨p,kvs,rfl,e,h⟩
theorem r_sortL (e:SqL K H p (ss.map V.str)) (hz:ss.length < 64) (h:∀l ss',H l=none->ss'.Perm ss->sortedS ss'=true->Q (.ref l) (upd H l (.lst (ss'.map V.str)))):rSortL K [.ref p] H Q:=⟨p,ss,rfl,e,hz,h⟩
theorem r_sortD (e:Rd H p (.dK kvs)) (hk:kvs.map (·.1)=ss.map vE) (hz:ss.length < 64) (h:∀l ss',H l=none->ss'.Perm ss->sortedS ss'=true->Q (.ref l) (upd H l (.lst (ss'.map V.str)))):rSortD [.ref p] H Q:=⟨p,kvs,ss,rfl,e,hk,hz,h⟩
end
structure AD (kvs:List (Key × V)) (f:Str->Option Int):Prop where
 nd:(kvs.map (·.1)).Nodup
 sh:∀p∈kvs,∃z i,p=(vE z,V.int i)
 get:∀z,qcq kvs (vE z)=(f z).map V.int
noncomputable def noF:Str->Option Int:=fun _=>none
noncomputable def putF' (f:Str->Option Int) (z:Str) (i:Int):Str->Option Int:=fun y=>if y=z then some i else f y
theorem AD.nil:AD [] noF:=⟨yR,fun p hp=>absurd hp (by simp),fun z=>rfl⟩
theorem AD.cast {kvs:List (Key × V)} {f g:Str->Option Int} (h:AD kvs f) (e:∀z,f z=g z):AD kvs g:=⟨h.nd,h.sh,fun z=>by rw [h.get,e]⟩
theorem putK_keys {kvs:List (Key × V)} {k:Key} {v:V} (h:qcq kvs k≠none):(qct kvs k v).map (·.1)=kvs.map (·.1):=by
 unfold qct
 have e:(kvs.any fun kv=>decide (kv.1=k))=true:=by rw [qce];cases q:qcq kvs k with
  |none=>exact absurd q h
  |some _=>rfl
 rw [gT e,yP]
 apply yV
 intro p _
 show (if p.1=k then (p.1,v) else p).1=p.1
 split <;> rfl
theorem putK_mem {kvs:List (Key × V)} {k:Key} {v:V} {p:Key × V} (h:p∈qct kvs k v):p=(k,v)\/p∈kvs:=by
 unfold qct at h
 split at h
 .obtain⟨q,hq,e⟩:=zI.mp h
  split at e
  .rename_i ek;subst ek;exact .inl e.symm
  .subst e;exact .inr hq
 .rcases zT.mp h with h|h
  .exact .inr h
  .exact .inl (by simpa using h)
theorem AD.put {kvs:List (Key × V)} {f:Str->Option Int} (h:AD kvs f) (z:Str) (i:Int):AD (qct kvs (vE z) (.int i)) (putF' f z i):=by
 refine⟨?_,fun p hp=>?_,fun y=>?_⟩
 .cases q:qcq kvs (vE z) with
  |none=>exact nd_putK _ h.nd q
  |some v=>rw [putK_keys (by rw [q];simp)];exact h.nd
 .rcases putK_mem hp with rfl|hp
  .exact⟨z,i,rfl⟩
  .exact h.sh p hp
 .rw [valV_put]
  unfold putF'
  by_cases e:y=z
  .subst e;rw [gT rfl,gT rfl];rfl
  .rw [gS (fun q=>e (xM q)),gS e];exact h.get y
theorem valV_of_mem {kvs:List (Key × V)} (nd:(kvs.map (·.1)).Nodup) {k:Key} {v:V} (h:(k,v)∈kvs):qcq kvs k=some v:=by
 induction kvs with
 |nil=>simp at h
 |cons p r ih=>
  rw [zS,yC] at nd
  rcases zR.mp h with rfl|h
  .exact qbw rfl
  .have ne:¬p.1=k:=fun e=>nd.1 (e ▸ zI.mpr ⟨(k,v),h,rfl⟩)
   rw [qbx ne]
   exact ih nd.2 h
theorem AD.mem {kvs:List (Key × V)} {f:Str->Option Int} (h:AD kvs f) {k:Key} {v:V} (hm:(k,v)∈kvs):∃z n,k=vE z/\v=.int n/\f z=some n:=by
 obtain⟨z,n,e⟩:=h.sh _ hm
 cases e
 have q:=valV_of_mem h.nd hm
 rw [h.get] at q
 cases hf:f z with
 |none=>rw [hf] at q;cases q
 |some m=>rw [hf] at q;cases q;exact⟨z,_,rfl,rfl,hf⟩
noncomputable def qd1 (kvs:List (Key × V)):List Str:=kvs.filterMap fun p=>match p.1 with| .inr z=>some z| .inl _=>none
theorem AD.keys {kvs:List (Key × V)} {f:Str->Option Int} (h:AD kvs f):kvs.map (·.1)=(qd1 kvs).map vE:=by
 have sh:=h.sh
 clear h
 induction kvs with
 |nil=>rfl
 |cons p r ih=>
  obtain⟨z,i,rfl⟩:=sh p (zG ..)
  show vE z :: r.map (·.1)=(z :: qd1 r).map vE
  rw [zS,ih fun q hq=>sh q (zE _ hq)]
theorem AD.klen {kvs:List (Key × V)} {f:Str->Option Int} (h:AD kvs f):(qd1 kvs).length=kvs.length:=by
 have:=congrArg wP h.keys
 simpa using this.symm
theorem AD.knd {kvs:List (Key × V)} {f:Str->Option Int} (h:AD kvs f):(qd1 kvs).Nodup:=by
 have nd:=h.nd
 rw [h.keys] at nd
 exact aF (fun ne e=>ne (congrArg vE e)) (yO.mp nd)
theorem AD.kin {kvs:List (Key × V)} {f:Str->Option Int} (h:AD kvs f) (z:Str):z∈qd1 kvs↔f z≠none:=by
 constructor
 .intro hz
  have hm:(vE z:Key)∈kvs.map (·.1):=by rw [h.keys];exact zI.mpr ⟨z,hz,rfl⟩
  obtain⟨⟨k,v⟩,hp,e⟩:=zI.mp hm
  dsimp only at e
  subst e
  obtain⟨z',n,e1,_,hf⟩:=h.mem hp
  cases e1
  rw [hf];simp
 .intro hf
  cases q:f z with
  |none=>exact absurd q hf
  |some n=>
   have hv:=h.get z
   rw [q] at hv
   have hm:=valV_in hv
   rw [h.keys] at hm
   obtain⟨y,hy,e⟩:=zI.mp hm
   cases e
   exact hy
theorem nd_le:∀{l m:List Str},l.Nodup->(∀a∈l,a∈m)->l.length<=m.length
 | [],_,_,_=>wC _
 |a :: l,m,nd,h=>by
  have ha:=h a (zG ..)
  rw [yC] at nd
  have q:=nd_le (l:=l) (m:=m.erase a) nd.2 fun b hb=>(List.mem_erase_of_ne (fun(e:b=a)=>nd.1 (by rw [<-e];exact hb))).mpr (h b (zE _ hb))
  rw [List.length_erase_of_mem ha] at q
  have:0 < m.length:=List.length_pos_of_mem ha
  simp only [zZ]
  omega
theorem AD.le {kvs:List (Key × V)} {f:Str->Option Int} (h:AD kvs f) {ws:List Str} (hs:∀z,f z≠none->z∈ws):kvs.length<=ws.length:=by
 rw [<-h.klen]
 exact nd_le h.knd fun z hz=>hs z ((h.kin z).mp hz)
theorem AD.at {kvs:List (Key × V)} {f:Str->Option Int} (h:AD kvs f) {i:Nat} {k:Key} {v:V} (e:kvs[i]?=some (k,v)):∃z n,k=vE z/\v=.int n/\f z=some n/\(qd1 kvs)[i]?=some z:=by
 obtain⟨z,n,rfl,rfl,hf⟩:=h.mem (zF e)
 refine⟨z,n,rfl,rfl,hf,?_⟩
 have q:(kvs.map (·.1))[i]?=some (vE z):=by rw [zC,e];rfl
 rw [h.keys,zC] at q
 obtain⟨y,hy,e⟩:=uU.mp q
 cases e
 exact hy
noncomputable def leS (a b:Str):Prop:=ltCps b.cps.toList a.cps.toList=false
theorem qdk {a b:Str}:leS a b↔a.cps.toList<=b.cps.toList:=by
 unfold leS
 rw [ltCps_eq,decide_eq_false_iff_not]
 exact List.not_lt
theorem leS_refl (a:Str):leS a a:=qdk.mpr (List.le_refl _)
theorem leS_trans {a b c:Str} (h:leS a b) (h':leS b c):leS a c:=qdk.mpr (List.le_trans (qdk.mp h) (qdk.mp h'))
theorem leS_anti {a b:Str} (h:leS a b) (h':leS b a):a=b:=by
 have e:=List.le_antisymm (qdk.mp h) (qdk.mp h')
 obtain⟨⟨x⟩⟩:=a
 obtain⟨⟨y⟩⟩:=b
 have e':x=y:=e
 subst e'
 rfl
theorem rising_pw:∀{p:Str} {l:List Str},risingS p l=true->(p :: l).Pairwise leS
 |p, [],_=>bG _ _
 |p,x :: r,h=>by
  have h':(!ltCps x.cps.toList p.cps.toList && risingS x r)=true:=h
  rw [vS,dA] at h'
  have q:=rising_pw h'.2
  refine cS.mpr ⟨fun y hy=>?_,q⟩
  rcases zR.mp hy with rfl|hy
  .exact h'.1
  .exact leS_trans h'.1 (yF q hy)
theorem qdg:∀{l:List Str},sortedS l=true->l.Pairwise leS
 | [],_=>cY
 |x :: r,h=>rising_pw h
noncomputable def gN (f:Str->Option Int) (z:Str):Int:=(f z).getD 0
noncomputable def addF (f g:Str->Option Int):Str->Option Int:=fun y=>match g y with|none=>f y|some b=>some (gN f y+b)
noncomputable def qcw (f:Str->Option Int):Str->Option Int:=fun y=>match f y with|none=>none|some a=>if 0 < a then some a else none
theorem gN_get {kvs:List (Key × V)} {f:Str->Option Int} (h:AD kvs f) (z:Str):(qcq kvs (vE z)).getD (.int 0)=.int (gN f z):=by
 rw [h.get]
 unfold gN
 cases f z <;> rfl
theorem qbr {l:List Str} {i:Nat} {z:Str} (h:l[i]?=some z) (y:Str):y∈l.take (i+1)↔y∈l.take i\/y=z:=by
 rw [zL,h,zT]
 simp
section
variable {σ: L2.St} {H H': Hp} {Q: VK} {D: Ends} {td ty tx tv: TE} {a b p: Addr} {kvs kb: List (Key × V)} {f: Str -> Option Int} {z: Str} {n: Int} {v: V} {o: Obj}
noncomputable def rDG (a:Addr) (y z:V) (H:Hp) (Q:VK):Prop:=∃o,DGet H a y o/\Q (o.getD z) H
noncomputable def kDG2 (ty tx:TE) (σ:L2.St) (Q:VK) (x:V) (H:Hp):Prop:=∃a,x=.ref a/\IsD H a/\ty σ H fun y H2=>tx σ H2 fun z H3=>rDG a y z H3 Q
theorem r_dg2 (h:td σ H fun x H1=>kDG2 ty tx σ Q x H1):tDGet2 td ty tx σ H Q:=h
theorem r_dg2a (d:Rd H a (.dK kvs)) (h:ty σ H fun y H2=>tx σ H2 fun z H3=>rDG a y z H3 Q):kDG2 ty tx σ Q (.ref a) H:=⟨a,rfl,.inl ⟨kvs,d⟩,h⟩
theorem r_dg2b (d:Rd H a (.dK kvs)) (A:AD kvs f) (h:Q (.int (gN f z)) H):rDG a (.str z) (.int 0) H Q:=by
 refine⟨qcq kvs (vE z),.inl ⟨kvs,vE z,d,rfl,rfl⟩,?_⟩
 rw [gN_get A]
 exact h
noncomputable def rDGk (x y:V) (H:Hp) (Q:VK):Prop:=∃a v,x=.ref a/\DGet H a y (some v)/\Q v H
theorem r_dg (h:td σ H fun x H1=>ty σ H1 fun y H2=>rDGk x y H2 Q):tDGet td ty σ H Q:=h
theorem r_dgk (d:Rd H a (.dK kvs)) (A:AD kvs f) (e:f z=some n) (h:Q (.int n) H):rDGk (.ref a) (.str z) H Q:=
 ⟨a,.int n,rfl,.inl ⟨kvs,vE z,d,rfl,by rw [A.get,e];rfl⟩,h⟩
noncomputable def rDP (x y v:V) (H:Hp) (D:Ends) (σ:L2.St):Prop:=∃a H4,x=.ref a/\DPut H a y v H4/\D.nx σ H4
theorem r_dp (h:tv σ H fun v H1=>td σ H1 fun x H2=>ty σ H2 fun y H3=>rDP x y v H3 D σ):sDPut td ty tv D σ H:=h
theorem r_dpk (e:H a=some (.dK kvs)) (hz:kvs.length < sizeLine) (h:D.nx σ (upd H a (.dK (qct kvs (vE z) v)))):rDP (.ref a) (.str z) v H D σ:=⟨a,_,rfl,DPut.k (k:=vE z) e hz,h⟩
noncomputable def rDI (x y:V) (H:Hp) (Q:VK):Prop:=∃a o,x=.ref a/\DGet H a y o/\Q (.bl o.isSome) H
theorem r_di (h:ty σ H fun y H1=>td σ H1 fun x H2=>rDI x y H2 Q):tDIn ty td σ H Q:=h
theorem r_dnew (h:∀p,H p=none->Q (.ref p) (upd H p (.dK []))):tDNewK σ H Q:=h
theorem qdm (e:H a=some (.dK kvs)):qgl H a:=fun o u z=>by rw [e] at z;cases z
theorem qfj (e:H a=none):qgl H a:=fun o u z=>by rw [e] at z;cases z
theorem rd_new (d:Rd H a (.dK kvs)) (n:H p=none) {u:HO}:Rd (upd H p u) a (.dK kvs):=by
 rcases d with d|⟨o,d⟩
 .exact .inl (qae d n)
 .exact .inr ⟨o,qae d n⟩
theorem rd_in (d:Rd H b (.dK kb)) (ea:H a=some (.dK kvs)) (sb:SameBut a H H') (fz:H' a=some (.frz o (.dK kvs))):Rd H' b (.dK kb):=by
 by_cases e:b=a
 .subst e
  rcases d with d|⟨o',d⟩
  .rw [ea] at d;cases d;exact .inr ⟨o,fz⟩
  .rw [ea] at d;cases d
 .rcases d with d|⟨o',d⟩
  .exact .inl (sb _ _ e d)
  .exact .inr ⟨o',sb _ _ e d⟩
theorem qcu (e:H a=some (.dK kvs)) (sb:SameBut a H H'):qar H (upd H' a (.dK kvs)):=fun b u q=>by
 by_cases h:b=a
 .subst h;rw [qa3];rw [e] at q;exact q
 .rw [qa6 h];exact sb b u h q
theorem sb_frz (e:H a=some (.dK kvs)):SameBut a H (upd H a (.frz o (.dK kvs))):=fun b u h q=>by rw [qa6 h];exact q
theorem sb_put {l:Addr} {u:HO} (sb:SameBut a H H') (n:H l=none):SameBut a H (upd H' l u):=fun b w h q=>by
 rw [qa6 (qa7 q n)];exact sb b w h q
theorem qav {l:Addr} {u:HO} (s:qar H H') (n:H l=none):qar H (upd H' l u):=fun b w q=>by rw [qa6 (qa7 q n)];exact s b w q
end
noncomputable def viol (f g:Str->Option Int) (y:Str):Prop:=f y≠none/\gN g y < gN f y
theorem addF_sup {f g:Str->Option Int} {ws:List Str} (hf:∀z,f z≠none->z∈ws) (hg:∀z,g z≠none->z∈ws) (z:Str) (h:addF f g z≠none):z∈ws:=by
 unfold addF at h
 cases e:g z with
 |none=>rw [e] at h;exact hf z h
 |some b=>exact hg z (by rw [e];simp)
theorem step_put {l:List Str} {i:Nat} {z:Str} (h:l[i]?=some z) (F G:Str->Option Int) {v:Int} (hv:F z=some v) (y:Str):putF' (fun y=>if y∈l.take i then F y else G y) z v y=if y∈l.take (i+1) then F y else G y:=by
 unfold putF'
 by_cases e:y=z
 .subst e
  rw [gT rfl,gT ((qbr h y).mpr (.inr rfl)),hv]
 .rw [gS e]
  by_cases e2:y∈l.take i
  .rw [gT ((qbr h y).mpr (.inl e2))];exact gT e2
  .rw [gS (fun q=>((qbr h y).mp q).elim e2 e)];exact gS e2
theorem step_no {l:List Str} {i:Nat} {z:Str} (h:l[i]?=some z) (F G:Str->Option Int) (hv:F z=G z) (y:Str):(if y∈l.take i then F y else G y)=if y∈l.take (i+1) then F y else G y:=by
 by_cases e2:y∈l.take i
 .rw [gT e2,gT ((qbr h y).mpr (.inl e2))]
 .rw [gS e2]
  by_cases e:y=z
  .subst e
   rw [gT ((qbr h y).mpr (.inr rfl)),hv]
  .rw [gS (fun q=>((qbr h y).mp q).elim e2 e)]
theorem step_end {kvs:List (Key × V)} {g:Str->Option Int} (hB:AD kvs g) (F G:Str->Option Int) (hn:∀y,g y=none->F y=G y) (y:Str):(if y∈(qd1 kvs).take kvs.length then F y else G y)=F y:=by
 rw [<-hB.klen,zP]
 by_cases e:y∈qd1 kvs
 .rw [gT e]
 .rw [gS e]
  refine(hn y ?_).symm
  cases hf:g y with
  |none=>rfl
  |some n=>exact absurd ((hB.kin y).mpr (by rw [hf];simp)) e
theorem r_neB {H:Hp} {Q:VK} {i j:Bool} (h:Q (.bl (!decide (i=j))) H):rNe (.bl i) (.bl j) H Q:=⟨rfl,by
 have e:decide (V.bl i=V.bl j)=decide (i=j):=by by_cases z:i=j <;> simp [z]
 rw [e];exact h⟩
section
variable {X: Cx}
theorem qcs {elt iter:vU} {x y:Str} {px py:Pos} {ifs:List vU} {scope:cU} {cl:List (Str × Addr)} {pos spos:Pos} {caps:List Nat} {cn:List Str} {wi:TI} {tt:CT TT} {te:CT TE} {j:Nat} (Cp:Caps X x scope cl caps cn) (hc:X.calm=true)
  (hN:X.N.Nodup) (hy:X.N[j]?=some y) (hly:X.env.scope.names.lookup y=some .local)
  (hi:PI X (.Name x px) iter wi) (ht:∀C s H fp,PIfs (cxC X (x :: cn) scope cl C s H fp) ifs (tt C s H fp)) (he:∀C s H fp,PE (cxC X (x :: cn) scope cl C s H fp) elt (te C s H fp))
  (hsw:eZ (.ListComp elt [⟨.Name x px,iter,ifs,0⟩] scope pos) (some (.Name y py)) spos.line X.env=pure true:=by rfl) (hs:∀x,fW iter X.env x=pure x:=by intro _;rfl):
  PS X (.Assign [.Name y py] (.ListComp elt [⟨.Name x px,iter,ifs,0⟩] scope pos) spos) (tAsg (tComp wi caps tt te) (qgd j)):=by
 intro pins s σ H D I h
 replace h:tComp wi caps tt te σ H (fun v H1=>D.nx (σ.set j (some v)) H1):=h
 rw [exec_Assign_Name_used _ _ _ _ hsw]
 refine uB (aC (uB ?_))
 show uT _ X.A (do let _<-comprehension (.ListComp elt [⟨.Name x px,iter,ifs,0⟩] scope pos) scope X.env _ (newList []) false (wH iter X.env) (some (fM (.Name y py) X.env))) _ _ s
 refine uB (vK (wpAny_comprehension_free (use:=some (fM (.Name y py) X.env)) (Q:=fun _ s'=>SP X pins D .next s') rfl hs Cp.clos Cp.kind Cp.names
  (thn (hi pins s σ H _ I h) fun v s1 h1=>thn h1 fun itv s2 h2=>?_)) (fun _ s' hq=>uI (uI hq)) fun _ _ e=>e)
 obtain⟨it,fp,tn,J,H2,e,I2,T,st2,f2,R⟩:=h2
 subst e
 have hacc:H2 s2.heap.objs.size=none:=I2.hok.fresh (uG _)
 refine wG ?_
 have I3:Inv X pins σ (upd H2 s2.heap.objs.size (.lst [])) {s2 with heap:=s2.heap.push {cls:=.type "list",dict:=none,data:=.seq ([]:List uC).toArray}}:=Inv.lnew (its:=[]) (t':=s2.toks) I2 .nil (wC _)
 have lt2:∀b∈fp,b < s2.heap.objs.size:=fun b hb=>let ⟨o,e,_⟩:=T.obj _ _ st2 b hb;uN e
 have f3:∀b∈fp,FpOk X pins (upd H2 s2.heap.objs.size (.lst [])) b:=fun b hb=>⟨by rw [qa6 (vD (lt2 b hb))];exact(f2 b hb).1,(f2 b hb).2⟩
 have st3:tn 0 (s2.heap.push {cls:=.type "list",dict:=none,data:=.seq ([]:List uC).toArray}):=T.keep _ _ _ st2 fun b _ o e=>uF _ e
 generalize hs3:({s2 with heap:=s2.heap.push {cls:=.type "list",dict:=none,data:=.seq ([]:List uC).toArray}}:uD)=s3 at I3 ⊢
 have st3':tn 0 s3.heap:=by rw [<-hs3];exact st3
 generalize s2.heap.objs.size=acc at hacc I3 f3 ⊢
 obtain⟨W,⟨m0,w0⟩,turn⟩:=R s3.heap.objs.size s3 (upd H2 acc (.lst [])) fp acc hacc
 have lt3:∀b∈fp,b < s3.heap.objs.size:=fun b hb=>let ⟨o,e,_⟩:=T.obj _ _ st3' b hb;uN e
 clear st3 hs3
 refine wpAny_newFunctionEnv Cp.cell (by intro y hy;simp at hy) (fun h₁ hns hsb=>?_) Cp.kind
 have k1:∀b o,s3.heap.get? b=some o->h₁.get? b=some o:=fun b o e=>hsb.extBut b o (vD (uN e)) (uF _ e)
 have I4:Inv (cxC X (x :: cn) scope cl s3.heap.objs.size s3 (upd H2 acc (.lst [])) fp) [] (none :: qbk caps σ) (upd H2 acc (.lst [])) {s3 with heap:=h₁,toks:=s3.toks+([]:List (Str × uC)).length}:=
  Inv.comp Cp I3 f3 lt3 hns k1
 have st4:tn 0 h₁:=T.keep _ _ _ st3' fun b _ o e=>k1 b o e
 generalize hX:cxC X (x :: cn) scope cl s3.heap.objs.size s3 (upd H2 acc (.lst [])) fp=X' at I4
 have stat:∀{H':Hp},(∀b∈fp,H' b=none)->∀b∈fp,FpOk X' [] H' b:=fun hn b hb=>by
  subst hX
  obtain⟨g0,g1,g2,g3,g4,g5⟩:=f3 b hb
  refine⟨hn b hb,vD (lt3 b hb),fun z=>?_,.inl hb,fun y c e=>g4 y c (Cp.sub y c e),fun p hp=>absurd (show p∈([]:List (Addr × Obj)) from hp) (by simp)⟩
  rcases zR.mp (I3.stkSub b z) with z|z
  .exact g1 z
  .exact g2 z
 have core:cN (uW X.prog X.w) X.A (.compLoop (.ListComp elt [⟨.Name x px,iter,ifs,0⟩] scope pos) 0 (.ref it) (.ref acc) (aM scope cl s3.heap.objs.size X.env))
   (compPost (uW X.prog X.w) X.A X.xe (some (fM (.Name y py) X.env)) (fun _ s'=>SP X pins D .next s') (.ref acc) s3.heap.objs.size) {s3 with heap:=h₁,toks:=s3.toks+([]:List (Str × uC)).length}:=by
  refine codeAny_loop rfl (fun n s'=>∃i a H',Inv X' [] (a :: qbk caps σ) H' s'/\tn i s'.heap/\(∀b∈fp,H' b=none)/\W i n H') (fun n s5 hI=>?_) m0 ⟨0,none,_,I4,st4,fun b hb=>(f3 b hb).1,w0⟩
  obtain⟨i,a0,H5,I5,st5,fr5,w5⟩:=hI
  show uT _ _ ((compTurn _ 0 _ _ _).onRaise _) _ _ s5
  refine wpAny_noted ?_
  rw [compTurn_list]
  refine uB (aC (uB ?_))
  have aX:X'.A=X.A:=by subst hX;rfl
  have pX:X'.prog=X.prog:=by subst hX;rfl
  have wX:X'.w=X.w:=by subst hX;rfl
  have kX:X'.K=X.K:=by subst hX;rfl
  have cX:X'.calm=true:=by subst hX;exact hc
  have eX:X'.env=aM scope cl s3.heap.objs.size X.env:=by subst hX;rfl
  rcases turn i n H5 w5 with ⟨stop,qn⟩ |⟨go,N,hN,step⟩
  .have z:=T.done X' pX wX kX cX i [] s5 _ H5 (fun _ _=>False) I5 (stat fr5) st5 stop
   rw [aX] at z
   refine vK z (fun r s6 ⟨hr,I6⟩=>?_) fun _ _ q=>q.elim
   subst hr
   subst hX
   obtain⟨m,hm,_⟩:=id I6.loc
   have J0:Inv X pins σ H5 s6:=Inv.uncomp I3 f3 rfl I6 (h':=s6.heap) ⟨rfl,fun _ _=>rfl⟩
   have fC:FpOk X pins H5 s3.heap.objs.size:=I3.fpOk (uG _) I6.free
   refine uI ?_
   show uT _ X.A (fM (.Name y py) X.env (.ref acc)) _ _ s6
   refine cW (store_ok2 (X:=X) (v:=.ref acc) J0 hN hy (.inl hly) rfl (fun s7 I7 ⟨a,sb,ha⟩=>?_) (.inr hly))
   have nC:s3.heap.objs.size≠a:=by
    rcases ha with rfl|ha
    .exact fC.2.1
    .exact(fC.2.2.2.2.1 y a ha).symm
   refine⟨m,hm.sameBut sb nC,fun h' sb'=>⟨_,H5,?_,qn⟩⟩
   exact I7.turned (t':=s7.toks) (fun b o hb e=>(sb'.2 b hb).trans e) fC.1 fC.2.1 fC.2.2.2.1 fC.2.2.2.2.1 fC.2.2.2.2.2
  .have z:=T.item X' pX wX kX cX i [] s5 _ H5 (fun _ _=>False) I5 (stat fr5) st5 go
   rw [aX] at z
   refine vK z (fun r s6 ⟨u,hr,h6⟩=>?_) fun _ _ q=>q.elim
   subst hr
   refine uB (vK h6 (fun _ s7 ⟨v,H7,I7,r7,y7,st7,fr7⟩=>?_) fun _ _ q=>q.elim)
   have I7':=I7.pinned (stat fr7) (T.obj _ _ st7)
   have asg:uT (uW X.prog X.w) X.A (fM (.Name x px) (aM scope cl s3.heap.objs.size X.env) u) (fun _ s8=>Inv X' ([]++qcm fp s7.heap) (some v :: qbk caps σ) H7 s8) (fun _ _=>False) s7:=by
    subst hX
    exact cW (qeo (X:=cxC X (x :: cn) scope cl s3.heap.objs.size s3 (upd H2 acc (.lst [])) fp) (i:=0) I7' Cp.nd rfl (.inl (cI Cp.tg)) r7 (fun s' I'=>I') (.inr (cI Cp.tg)))
   refine uB (vK asg (fun _ s8 I8=>?_) fun _ _ q=>q.elim)
   have tst:uT (uW X.prog X.w) X.A (forIn ifs true fun c r=>if r=true then do let ok<-isTrue c (aM scope cl s3.heap.objs.size X.env) (wH c (aM scope cl s3.heap.objs.size X.env));pure (aY ok) else pure (aY r))
     (TP X' ([]++qcm fp s7.heap) (some v :: qbk caps σ) (fun b H9=>if b=true then te s3.heap.objs.size s3 (upd H2 acc (.lst [])) fp (some v :: qbk caps σ) H9 (fun y H3=>rApp acc N y H3) else N H9)) (fun _ _=>False) s8:=by
    subst hX
    exact ht _ _ _ _ _ s8 _ H7 _ I8 (step v H7 y7)
   refine uB (vK tst (fun b s9 ⟨H9,I9,q9⟩=>?_) fun _ _ q=>q.elim)
   have fin:∀{a:Option V} {H10:Hp} {s10:uD},Inv X' ([]++qcm fp s7.heap) (a :: qbk caps σ) H10 s10->N H10->∃m',m' < n/\∃i a H',Inv X' [] (a :: qbk caps σ) H' s10/\tn i s10.heap/\(∀b∈fp,H' b=none)/\W i m' H':=fun {a H10 s10} I10 n10=>
    let ⟨m',hm,w10⟩:=hN _ n10
    ⟨m',hm,i+1,a,H10,I10.unpinned,T.keep _ _ _ st7 fun b hb o e=>(I10.pin (b,o) (zX _ (zX _ (qcg hb e)))).1,fun b hb=>by
     obtain⟨o,e,d⟩:=T.obj _ _ st7 b hb
     exact(I10.pin (b,o) (zX _ (zX _ (qcg hb e)))).2.1,w10⟩
   cases b with
   |false=>exact uI ⟨rfl,fin I9 q9⟩
   |true=>
    have elt':uT (uW X.prog X.w) X.A (wH elt (aM scope cl s3.heap.objs.size X.env)) (EP X' ([]++qcm fp s7.heap) (some v :: qbk caps σ) (fun y H3=>rApp acc N y H3)) (fun _ _=>False) s9:=by
     subst hX
     exact he _ _ _ _ _ s9 _ H9 _ I9 q9
    refine uB (uB (vK elt' (fun y s10 ⟨w,H10,I10,r10,ys,ha,hz,q10⟩=>?_) fun _ _ q=>q.elim))
    have app:uT (uW X.prog X.w) X.A (call (.builtin "list.append") [.ref acc,y]) (EP X' ([]++qcm fp s7.heap) (some v :: qbk caps σ) fun _ H11=>H11=upd H10 acc (.lst (ys++ [w]))) (fun _ _=>False) s10:=by
     subst hX
     exact qbe (X:=cxC X (x :: cn) scope cl s3.heap.objs.size s3 (upd H2 acc (.lst [])) fp) _ s10 _ H10 (.ref acc) [w] (.ref acc) [y] _ I10 rfl (.cons r10 .nil) ⟨acc,ys,w,rfl,rfl,ha,hz,rfl⟩
    refine uB (vK app (fun _ s11 ⟨_,H11,I11,_,e11⟩=>?_) fun _ _ q=>q.elim)
    subst e11
    exact uI (uI ⟨rfl,fin I11 q10⟩)
 exact codeAny_compStart_list core (T.self _ 0 _ _ _ st4 core)
end
section
variable {X: Cx} {pins: List (Addr × Obj)} {σ: L2.St} {H: Hp} {s: uD} {h': vR}
theorem Inv.turnedL {t':Nat} {ch:List Addr} (I:Inv X pins σ H s) (hf:∀b∈ch,FpOk X pins H b) (k:∀b o,b∉ch->s.heap.get? b=some o->h'.get? b=some o):Inv X pins σ H {s with heap:=h',toks:=t'}:=by
 have nit:∀b u,H b=some u->b∉ch:=fun b u e z=>by rw [(hf b z).1] at e;cases e
 refine I.step (g':=s.gens) (d':=s.drawn) (ch:=ch) (fun b hb=>⟨(hf b hb).2.2.2.1,(hf b hb).2.1,(hf b hb).2.2.2.2.1,(hf b hb).2.2.2.2.2⟩) (fun b o _ _ hc e _=>k b o hc e) (fun b o _ _ hc e _=>⟨o.slots,k b o hc e⟩) (fun _ _ _ _ n=>n)
  (fun b o hc e=>⟨o,k b o hc e⟩) (fun _ _ e=>e) (fun _ _ _ e=>e) (fun b ps e=>⟨#[],by rw [e];simp⟩) (fun m hm=>?_) (fun b u e=>?_) I.bare
 .obtain⟨o,es,ep,ho,r⟩:=hm
  exact⟨o,es,ep,k _ o (fun z=>(hf _ z).2.1 rfl) ho,r⟩
 .refine(I.hok b u e).stay (fun c v hc q=>k c v ?_ q) (fun _ q=>q) fun _ _ q=>q
  rcases hc with rfl|hc
  .exact nit _ _ e
  .exact nit _ _ hc
theorem Inv.turnedT {t':Nat} {ch:List Addr} {T:Addr} {ob:HO} (I:Inv X pins σ H s) (hf:∀b∈ch,FpOk X pins H b) (k:∀b o,b∉ch->s.heap.get? b=some o->h'.get? b=some o) (hT:s.heap.get? T=none) (hn:H T=none) (new:qbo X.prog X.w (upd H T ob) h' T ob):
  Inv X pins σ (upd H T ob) {s with heap:=h',toks:=t'}:=by
 have nit:∀b u,H b=some u->b∉ch:=fun b u e z=>by rw [(hf b z).1] at e;cases e
 refine I.step (g':=s.gens) (d':=s.drawn) (ch:=ch) (fun b hb=>⟨(hf b hb).2.2.2.1,(hf b hb).2.1,(hf b hb).2.2.2.2.1,(hf b hb).2.2.2.2.2⟩) (fun b o _ _ hc e _=>k b o hc e) (fun b o _ _ hc e _=>⟨o.slots,k b o hc e⟩)
  (fun b o _ e n=>by rw [qa6 (fun z=>by subst z;rw [hT] at e;cases e)];exact n)
  (fun b o hc e=>⟨o,k b o hc e⟩) (fun b xs e=>by rw [qa6 (qa7 e hn)];exact e) (fun b o u e=>by rw [qa6 (qa7 e hn)];exact e) (fun b ps e=>⟨#[],by rw [qa6 (qa7 e hn),e];simp⟩) (fun m hm=>?_) (fun b u e=>?_) I.bare
 .obtain⟨o,es,ep,ho,r⟩:=hm
  exact⟨o,es,ep,k _ o (fun z=>(hf _ z).2.1 rfl) ho,r⟩
 .by_cases hb:b=T
  .subst hb;rw [qa3] at e;cases e;exact new
  .rw [qa6 hb] at e
   refine(I.hok b u e).stay (fun c v hc q=>k c v ?_ q) (fun c q=>by rw [qa6 (qa7 q hn)];exact q) fun c xs q=>by rw [qa6 (qa7 q hn)];exact q
   rcases hc with rfl|hc
   .exact nit _ _ e
   .exact nit _ _ hc
end
noncomputable def ItZ (K:uR) (l1 l2:Addr) (xs ys:List V):It:=
 ⟨fun i H=>SqL K H l1 xs/\SqL K H l2 ys/\i < xs.length/\i < ys.length,fun i H v H'=>∃T x y,H T=none/\xs[i]?=some x/\ys[i]?=some y/\v=.ref T/\H'=upd H T (.tup [x,y]),fun i H=>SqL K H l1 xs/\SqL K H l2 ys/\(xs.length<=i\/ys.length<=i)⟩
noncomputable def ZSt (z TI TO i1 i2 l1 l2:Addr) (i:Nat) (h:vR):Prop:=IsZip h z TI TO .none/\IsPair h TI (.ref i1) (.ref i2)/\(∃a b,IsPair h TO a b)/\h.IsListIter i1 l1 i/\h.IsListIter i2 l2 i
theorem turn_zip {P:vB} {w:vL} {K:uR} {elts:List vU} {kk:Nat} {tp:Pos} {z TI TO i1 i2 l1 l2:Addr} (D:ZipApart z TI TO i1 i2 l1 l2) (xs ys:List V):
  Turn P w K (.Tuple elts kk tp) (ItZ K l1 l2 xs ys) [z,TI,TO,i1,i2] z (ZSt z TI TO i1 i2 l1 l2) where
 mem:=by simp
 obj:=fun i h st b hb=>by
  obtain⟨hz,hTI,⟨a,c,hTO⟩,⟨o1,e1,_,d1⟩,o2,e2,_,d2⟩:=st
  simp only [zR,yI,or_false] at hb
  rcases hb with rfl|rfl|rfl|rfl|rfl
  .exact⟨_,hz,fun v q=>by have q':Data.fields _=gL v:=q;cases q'⟩
  .exact⟨_,hTI,fun v q=>by have q':Data.seq _ _=gL v:=q;cases q'⟩
  .exact⟨_,hTO,fun v q=>by have q':Data.seq _ _=gL v:=q;cases q'⟩
  .exact⟨o1,e1,fun v q=>by rw [d1] at q;cases q⟩
  .exact⟨o2,e2,fun v q=>by rw [d2] at q;cases q⟩
 keep:=fun i h h' st k=>by
  obtain⟨hz,hTI,⟨a,c,hTO⟩,h1,h2⟩:=st
  exact⟨k z (by simp) _ hz,k TI (by simp) _ hTI,⟨a,c,k TO (by simp) _ hTO⟩,h1.at fun o e=>k i1 (by simp) o e,h2.at fun o e=>k i2 (by simp) o e⟩
 item:=by
  intro X hP hw hK hc i pins s σ H E I hf st hg
  subst hP hw hK
  obtain⟨hz,hTI,⟨a,c,hTO⟩,h1,h2⟩:=st
  obtain⟨q1,q2,g1,g2⟩:=hg
  obtain⟨us,r1,p1,_⟩:=I.list q1
  obtain⟨ws,r2,p2,_⟩:=I.list q2
  obtain⟨u1,hu1,ru1⟩:=r1.get (zA g1)
  obtain⟨u2,hu2,ru2⟩:=r2.get (zA g2)
  refine wpAny_pyNext_zip_item D hz hTI hTO h1 h2 (PlainL.isList p1) (PlainL.isList p2) (x:=u1) (y:=u2) (by simpa using hu1) (by simpa using hu2) fun h' b1 b2 b3 b4 b5 b6 hk=>?_
  have hn:H s.heap.objs.size=none:=I.hok.fresh (uG _)
  have lt:∀{b:Addr} {o:Obj},s.heap.get? b=some o->b≠s.heap.objs.size:=fun e=>vD (uN e)
  have nz:z≠s.heap.objs.size:=lt hz
  have hg0:s.heap.get? s.heap.objs.size=none:=aH (uG _)
  have I1:Inv X pins σ (upd H s.heap.objs.size (.tup [xs[i],ys[i]])) {s with heap:=h'}:=Inv.turnedT (t':=s.toks) (ch:=[z,TO,i1,i2]) I
   (fun b hb=>hf b (by simp only [zR,yI,or_false] at hb ⊢;rcases hb with e|e|e|e <;> simp [e]))
   (fun b o hb e=>hk b o (fun q=>hb (by simp [q])) (fun q=>hb (by simp [q])) (fun q=>hb (by simp [q])) (fun q=>hb (by simp [q])) e) hg0 hn
   ⟨by show 2<=16777216;decide, [u1,u2],.cons ru1 (.cons ru2 .nil),⟨_,b5,rfl,_,rfl⟩⟩
  refine⟨.ref s.heap.objs.size,rfl,wpAny_letOwnedTupleGo_zip (s:={s with heap:=h'}) b1 fun h2' c1 hs2=>?_⟩
  have hfz:=hf z (by simp)
  have I2:Inv X pins σ (upd H s.heap.objs.size (.tup [xs[i],ys[i]])) {s with heap:=h2'}:=I1.turned (t':=s.toks) (fun b o hb e=>(hs2.2 b hb).trans e) (by rw [qa6 nz];exact hfz.1) hfz.2.1 hfz.2.2.2.1 hfz.2.2.2.2.1 hfz.2.2.2.2.2
  refine⟨.ref s.heap.objs.size,_,I2,rfl,⟨s.heap.objs.size,xs[i],ys[i],hn,zA g1,zA g2,rfl,rfl⟩,
   ⟨c1,hs2.extBut _ _ D.TIz (hk _ _ D.TIz D.TITO D.TIi1 D.TIi2 hTI),⟨_,_,hs2.extBut _ _ D.TOz b2⟩,b3.extBut hs2.extBut D.i1z,b4.extBut hs2.extBut D.i2z⟩,fun b hb=>?_⟩
  have e:b≠s.heap.objs.size:=by
   simp only [zR,yI,or_false] at hb
   obtain⟨o1,e1,_⟩:=h1
   obtain⟨o2,e2,_⟩:=h2
   rcases hb with rfl|rfl|rfl|rfl|rfl
   .exact nz
   .exact lt hTI
   .exact lt hTO
   .exact lt e1
   .exact lt e2
  rw [qa6 e]
  exact(hf b hb).1
 done:=by
  intro X hP hw hK hc i pins s σ H E I hf st hg
  subst hP hw hK
  obtain⟨hz,hTI,⟨a,c,hTO⟩,h1,h2⟩:=st
  obtain⟨q1,q2,g⟩:=hg
  obtain⟨us,r1,p1,_⟩:=I.list q1
  obtain⟨ws,r2,p2,_⟩:=I.list q2
  have l1:=r1.length
  have l2:=r2.length
  exact wpAny_pyNext_zip_end (I.ok.hd hc) D hz hTI hTO h1 h2 (PlainL.isList p1) (PlainL.isList p2) (g.elim (fun g=> .inl (by simp;omega)) fun g=> .inr (by simp;omega)) fun h' hk=>
   ⟨rfl,Inv.turnedL (t':=s.toks) (ch:=[z,TO,i1,i2]) I (fun b hb=>hf b (by simp only [zR,yI,or_false] at hb ⊢;rcases hb with e|e|e|e <;> simp [e]))
    fun b o hb e=>hk b o (fun q=>hb (by simp [q])) (fun q=>hb (by simp [q])) (fun q=>hb (by simp [q])) (fun q=>hb (by simp [q])) e⟩
 self:=fun _ _ _ _ _ st h=>wpAny_pyIter_zip st.1 h
noncomputable def rItZ (K:uR) (vs:List V) (H:Hp) (R:It->Hp->Prop):Prop:=∃l1 l2 xs ys,vs=[.ref l1,.ref l2]/\SqL K H l1 xs/\SqL K H l2 ys/\R (ItZ K l1 l2 xs ys) H
noncomputable def iZip (K:uR) (ta:TA):TI:=fun σ H R=>ta σ H fun vs H1=>rItZ K vs H1 R
theorem boot_zip:aQ "zip" =some (.type "zip"):=by decide+kernel
theorem pi_zip {X:Cx} {elts:List vU} {kk:Nat} {tp:Pos} {a b:vU} {ta:TA} {p pos:Pos} (hg:Gl X "zip") (hm:X.mg "zip" =none) (ha:PA X [a,b] ta) (hs:vC [a,b] X.env=[(false,wH a X.env),(false,wH b X.env)]:=by rfl) (hs2:vC [b] X.env=[(false,wH b X.env)]:=by rfl):
  PI X (.Tuple elts kk tp) (.Call (.Name "zip" p) [a,b] [] pos) (iZip X.K ta):=by
 intro pins s σ H R I h
 refine Call_ (qf5 I hg hm boot_zip (wS (thn (ha pos pins s σ H _ I h) fun us s1 ⟨vs,H1,I1,r1,q1⟩=>?_) (by rw [hs,hs2]) (by rw [hs2];rfl)))
 obtain⟨l1,l2,xs,ys,rfl,g1,g2,q⟩:=q1
 cases r1 with
 |cons r rr=>
  cases rr with
  |cons r' rr=>
   cases rr
   cases r
   cases r'
   obtain⟨us,v1,p1,_⟩:=I1.list g1
   obtain⟨ws,v2,p2,_⟩:=I1.list g2
   have t1:=PlainL.isList p1
   have t2:=PlainL.isList p2
   have lt1:l1 < s1.heap.objs.size:=by obtain⟨_,e,_⟩:=t1;exact uN e
   have lt2:l2 < s1.heap.objs.size:=by obtain⟨_,e,_⟩:=t2;exact uN e
   refine call_zip_2 t1 t2 fun h' hz hTI hTO hi1 hi2 hsz hk=>?_
   have I2:Inv X pins σ H1 {s1 with heap:=h'}:=I1.kept (t':=s1.toks) fun b o e=>hk b o e
   refine wpAny_pyIter_zip (s:={s1 with heap:=h'}) hz ?_
   refine⟨s1.heap.objs.size+4,_,_,_,H1,rfl,I2,turn_zip (zipApart_new lt1 lt2) xs ys,⟨hz,hTI,⟨_,_,hTO⟩,hi1,hi2⟩,fun b hb=>?_,q⟩
   have le:s1.heap.objs.size<=b:=by
    simp only [zR,yI,or_false] at hb
    rcases hb with rfl|rfl|rfl|rfl|rfl <;> omega
   exact I1.fpOk le (I1.hok.fresh le)
section
variable {K: uR} {σ: L2.St} {H: Hp} {D: Ends} {g: TG} {tb: TS} {ta: TA} {l1 l2: Addr} {xs ys: List V}
theorem r_iZ {R:It->Hp->Prop} (h:ta σ H fun vs H1=>rItZ K vs H1 R):iZip K ta σ H R:=h
theorem r_itZ {R:It->Hp->Prop} (e1:SqL K H l1 xs) (e2:SqL K H l2 ys) (h:R (ItZ K l1 l2 xs ys) H):rItZ K [.ref l1,.ref l2] H R:=⟨l1,l2,xs,ys,rfl,e1,e2,h⟩
theorem f_zip (hxy:xs.length=ys.length) (Pv:Nat->L2.St->Hp->Prop) (h0:Pv 0 σ H) (hl:∀i σ H,Pv i σ H->SqL K H l1 xs/\SqL K H l2 ys)
  (hs:∀i x y T σ H,xs[i]?=some x->ys[i]?=some y->Pv i σ H->H T=none->g (.ref T) σ (upd H T (.tup [x,y])) fun σ2 H2=>tb {nx:=Pv (i+1),rt:=D.rt,bk:=D.nx,ct:=Pv (i+1)} σ2 H2) (hd:∀σ H,Pv xs.length σ H->D.nx σ H):FOR (ItZ K l1 l2 xs ys) g tb D σ H:=by
 refine⟨fun i m σ H=>m=xs.length - i/\i<=xs.length/\Pv i σ H,⟨xs.length,rfl,wC _,h0⟩,?_⟩
 rintro i m σ H ⟨rfl,hi,p⟩
 obtain⟨q1,q2⟩:=hl i σ H p
 by_cases hlt:i < xs.length
 .refine .inr ⟨⟨q1,q2,hlt,by omega⟩,Pv (i+1),fun σ' H' p'=>⟨xs.length - (i+1),by omega,rfl,hlt,p'⟩,fun v H' e=>?_⟩
  obtain⟨T,x,y,hT,hx,hy,rfl,rfl⟩:=e
  exact hs i x y T σ H hx hy p hT
 .have e:i=xs.length:=by omega
  subst e
  exact .inl ⟨⟨q1,q2,.inl (uG _)⟩,hd σ H p⟩
end
section
variable {prog: vB} {w: vL} {A: vO} {E: uC -> uD -> Prop} {s: uD}
theorem set_exact {l:Addr} {items:Array uC} {n:Nat} {k:Int} {t:Tok} {v:uC} {Q:Unit->uD->Prop} (ho:s.heap.get? l=some {cls:=.type "list",data:=.seq items n}) (h0:0<=k) (hk:k < items.size) (hfit:k < 2^63)
  (q:Q () {s with heap:=s.heap.update l (Obj.mapSeq fun a=>a.setIfInBounds k.toNat v)}):uT (uW prog w) A (setItem (.ref l) (.int k t) v) Q E s:=by
 have hT:s.TypeIs (.ref l) "list":=⟨_,ho,rfl⟩
 unfold setItem
 try with_reducible refine wV ?_
 first|refine uB (uI ?_) |skip
 refine uB (wpAny_sequenceKey hT (by decide) ?_)
 refine uB (xJ (name:=aR "__setitem__") hT slot_list_setitem (wJ slot_list_setitem hT entry_list_setitem ?_ (args_list_setitem _ _ _)))
 show uT _ _ (Builtin.List.listSubscript? (.int k t) >>= _) _ _ s
 refine uB (wpAny_listSubscript_int (fitsIndex_of h0 hfit) ?_)
 clear hfit
 obtain⟨j,rfl⟩:=wK h0
 have hj:j < items.size:=by omega
 have hx:items[j]?=some items[j]:=aT hj
 show uT _ _ ((seqItemAt l j >>= fun r=>pure (r.map (j,·))) >>= _) _ _ s
 refine uB (uB (wpAny_seqItemAt ho rfl (uI ?_)))
 rw [hx]
 show uT _ _ (setSeqItemAt l j v >>= _) _ _ s
 refine uB (wpAny_setSeqItemAt ho rfl ?_)
 first
 |exact uB (uI (uI ⟨.none,rfl,uI q⟩))
 |exact uI ⟨.none,rfl,uI q⟩
end
noncomputable def rLP (x y v:V) (H:Hp) (D:Ends) (σ:L2.St):Prop:=∃l xs k,x=.ref l/\y=.int (k:Nat)/\H l=some (.lst xs)/\k < xs.length/\D.nx σ (upd H l (.lst (xs.set k v)))
noncomputable def sLPut (td ty tv:TE):TS:=fun D σ H=>tv σ H fun v H1=>td σ H1 fun x H2=>ty σ H2 fun y H3=>rLP x y v H3 D σ
theorem ps_lput {X:Cx} {o i value:vU} {pos pos':Pos} {td ty tv:TE} (ho:PE X o td) (hi:PE X i ty) (hv:PE X value tv) (hs:eZ value (some (.Subscript o i pos')) pos.line X.env=pure false):PS X (.Assign [.Subscript o i pos'] value pos) (sLPut td ty tv):=by
 intro pins s σ H D I h
 refine wpAny_Assign_Subscript (thn (hv pins s σ H _ I h) fun r s1 ⟨v,H1,I1,rv,q1⟩=>thn (ho pins s1 σ H1 _ I1 q1) fun u s2 ⟨x,H2,I2,rx,q2⟩=>thn (hi pins s2 σ H2 _ I2 q2) fun iv s3 ⟨y,H3,I3,ry,q3⟩=>?_) hs
 obtain⟨l,xs,k,rfl,rfl,hl,hk,q⟩:=q3
 obtain rfl:u=uP l:=rx
 obtain⟨t,rfl⟩:=ry
 obtain⟨z,its,n,rr,hlen,e⟩:=I3.lstM hl
 have hz:xs.length<=16777216:=z
 refine set_exact e (Int.natCast_nonneg k) (by simp;omega) (by omega) ?_
 rw [xE]
 exact⟨σ,_,I3.lset (its':=its.set k r) (ys:=xs.set k v) (t':=s3.toks) hl e (by simp) (rr.set rv k) (by rw [List.length_set];exact z),q⟩
section
variable {X: Cx}
noncomputable def tAlt (t1 t2:TE):TE:=fun σ H Q=>t1 σ H Q\/t2 σ H Q
theorem pe_alt {e:vU} {t1 t2:TE} (h1:PE X e t1) (h2:PE X e t2):PE X e (tAlt t1 t2):=fun pins s σ H Q I h=>h.elim (h1 pins s σ H Q I) (h2 pins s σ H Q I)
noncomputable def rMax:List V->Hp->VK->Prop:=fun xs H Q=>∃i j,xs=[.int i,.int j]/\Q (.int (if j > i then j else i)) H
noncomputable def rMin:List V->Hp->VK->Prop:=fun xs H Q=>∃i j,xs=[.int i,.int j]/\Q (.int (if j < i then j else i)) H
theorem call_maxR (hc:X.calm=true):qc9 X (.builtin "max") rMax:=call_max2 hc
theorem call_minR (hc:X.calm=true):qc9 X (.builtin "min") rMin:=call_min2 hc
end
section
variable {σ: L2.St} {H: Hp} {Q: VK} {D: Ends} {td ty tv t1 t2: TE} {l: Addr} {xs: List V} {k: Nat} {v: V} {i j: Int}
theorem r_lp (h:tv σ H fun v H1=>td σ H1 fun x H2=>ty σ H2 fun y H3=>rLP x y v H3 D σ):sLPut td ty tv D σ H:=h
theorem r_lpk (e:H l=some (.lst xs)) (hk:k < xs.length) (h:D.nx σ (upd H l (.lst (xs.set k v)))) {y:Int} (ey:y=(k:Int)):rLP (.ref l) (.int y) v H D σ:=by subst ey;exact⟨l,xs,k,rfl,rfl,e,hk,h⟩
theorem r_alt1 (h:t1 σ H Q):tAlt t1 t2 σ H Q:=.inl h
theorem r_alt2 (h:t2 σ H Q):tAlt t1 t2 σ H Q:=.inr h
theorem r_max (h:Q (.int (if j > i then j else i)) H):rMax [.int i,.int j] H Q:=⟨i,j,rfl,h⟩
theorem r_min (h:Q (.int (if j < i then j else i)) H):rMin [.int i,.int j] H Q:=⟨i,j,rfl,h⟩
end
section
variable {K: uR} {σ: L2.St} {H: Hp} {Q: VK} {D: Ends} {ta tv: TE} {t: TA} {a C dx: Addr} {fs: List (Str × V)} {f m: Str} {v y: V} {sp: Sp} {dvs: List V} {E: XK}
noncomputable def kMk (C:Addr) (sp:Sp) (dvs:List V) (E:XK) (Q:VK) (vs:List V) (H:Hp):Prop:=∀x dx,H x=none->H dx=none->dx≠x->sp (.ref x ::(vs++dvs)) (upd (upd H dx (.own x)) x (.ins C dx [])) (fun v H2=>v=.non/\Q (.ref x) H2) E
theorem r_mk (h:t σ H fun vs H1=>kMk C sp dvs E Q vs H1):tMake C sp dvs E t σ H Q:=h
noncomputable def kMt (C:Addr) (m:Str) (sp:Sp) (dvs:List V) (E:XK) (t:TA) (σ:L2.St) (Q:VK) (x:V) (H:Hp):Prop:=∃a dx fs,x=.ref a/\H a=some (.ins C dx fs)/\fs.lookup m=none/\t σ H fun vs H2=>sp (x ::(vs++dvs)) H2 Q E
theorem r_mt (h:ta σ H fun x H1=>kMt C m sp dvs E t σ Q x H1):tMeth C m sp dvs E ta t σ H Q:=h
theorem r_mtk (e:H a=some (.ins C dx fs)) (l:fs.lookup m=none) (h:t σ H fun vs H2=>sp (.ref a ::(vs++dvs)) H2 Q E):kMt C m sp dvs E t σ Q (.ref a) H:=⟨a,dx,fs,rfl,e,l,h⟩
noncomputable def kFl (K:uR) (f:Str) (Q:VK) (x:V) (H:Hp):Prop:=∃a C dx fs v,x=.ref a/\H a=some (.ins C dx fs)/\Cls K C/\qaz K C f/\fs.lookup f=some v/\Q v H
theorem r_fl (h:ta σ H fun x H1=>kFl K f Q x H1):tFld K ta f σ H Q:=h
theorem r_flk (e:H a=some (.ins C dx fs)) (c:Cls K C) (n:qaz K C f) (l:fs.lookup f=some v) (h:Q v H):kFl K f Q (.ref a) H:=⟨a,C,dx,fs,v,rfl,e,c,n,l,h⟩
noncomputable def kFs (K:uR) (f:Str) (y:V) (D:Ends) (σ:L2.St) (x:V) (H:Hp):Prop:=∃a C dx fs,x=.ref a/\H a=some (.ins C dx fs)/\Cls K C/\qaz K C f/\fs.length < 1000/\D.nx σ (upd H a (.ins C dx (qey f y fs)))
theorem r_fs (h:tv σ H fun y H1=>ta σ H1 fun x H2=>kFs K f y D σ x H2):sFld K ta tv f D σ H:=h
theorem qg2 (e:H a=some (.ins C dx fs)) (c:Cls K C) (n:qaz K C f) (hz:fs.length < 1000) (h:D.nx σ (upd H a (.ins C dx (qey f y fs)))):kFs K f y D σ (.ref a) H:=⟨a,C,dx,fs,rfl,e,c,n,hz,h⟩
end
structure IsC (K:uR) (C:Addr):Prop where
 ha:vV K (.ref C) "__class__" =some (some (.builtin "object.__class__"))
 hn:eW K (.builtin "object.__class__") "__get__" =some (some (.builtin "getset_descriptor.__get__"))
 htk:PySem.W.takesIn K (.builtin "object.__class__")=some true
 hm:mroIn K C (.type "object")=some true
section
variable {X: Cx} {k: Nat} {f C: Addr} {fd: uM} {ps: List Str} {sp: Sp} {dvs: List V} {ds: List uC} {W: L2.St -> XK} {x m: Str} {p pos apos: Pos} {e o: vU} {es: List vU} {ta: TE} {t: TA}
noncomputable def tMethX (C:Addr) (m:Str) (sp:Sp) (dvs:List V) (W:L2.St->XK) (ta:TE) (t:TA):TE:=fun σ H Q=>ta σ H fun x H1=>∃a dx fs,x=.ref a/\H1 a=some (.ins C dx fs)/\fs.lookup m=none/\t σ H1 fun vs H2=>sp (x ::(vs++dvs)) H2 Q (W σ)
theorem qb4 {pl:Sem Bool} (he:PE X o ta) (c:Cls X.K C) (hm:Meth X.K C m f) (F:FnOk X.prog X.w X.K X.mg X.base (CX1 X.prog X.w) k f fd ps sp) (hr:Room k X.A) (hb:qap X.K fd ps ds) (hd:qbi dvs ds) (hx:Xes X W) (ha:PA X (e :: es) t) (hex:X.ex=[]:=by rfl)
  (hst:vC (e :: es) X.env=(false,wH e X.env) :: vC es X.env:=by rfl) (hpl:(wR pos (vC es X.env)).any (·.1)=false:=by rfl)
  (ht:wH (.Call (.Attribute o m apos) (e :: es) [] pos) X.env=(do
   let ov<-wH o X.env
   standAt apos.atName
   let (f,first)<-holding [ov] (gM ov m pl)
   callWith pos f first (wR pos (vC (e :: es) X.env)) (eQ pos (cE [] X.env))):=by rfl):
  PE X (.Call (.Attribute o m apos) (e :: es) [] pos) (tMethX C m sp dvs W ta t):=by
 intro pins s σ H Q I h
 refine eG (pl:=pl) (thn (he pins s σ H _ I h) fun u s1 ⟨x,H1,I1,rx,a,dx,fs,ex,ea,l,q⟩=>?_) ht
 subst ex
 obtain rfl:u=uP a:=rx
 refine qef I1 ea c hm l (xS (first:=[.ref a]) (h₀:=X.base) I.ok.mod.kin hm.kp (thn (ha pos pins s1 σ H1 _ I1 q) fun us s2 ⟨vs,H2,I2,r,q2⟩=>⟨I2.kIn,?_⟩) hst hpl)
 exact run_fnX (us:=.ref a :: us) (vs:=.ref a :: vs) F hr hb hd hx hex I2 (.cons rfl r) q2
noncomputable def tMakeX (C:Addr) (sp:Sp) (dvs:List V) (W:L2.St->XK) (t:TA):TE:=fun σ H Q=>t σ H fun vs H1=>∀x dx,H1 x=none->H1 dx=none->dx≠x->sp (.ref x ::(vs++dvs)) (upd (upd H1 dx (.own x)) x (.ins C dx [])) (fun v H2=>v=.non/\Q (.ref x) H2) (W σ)
theorem run_makeX {pins:List (Addr × Obj)} {σ:L2.St} {H:Hp} {s:uD} {Q:VK} {us:List uC} {vs:List V} (M:Mk X.K C f) (F:FnOk X.prog X.w X.K X.mg X.base (CX1 X.prog X.w) k f fd ps sp) (hr:Room (k+1) X.A) (hb:qap X.K fd ps ds) (hd:qbi dvs ds)
  (hx:Xes X W) (hex:X.ex=[]) (I:Inv X pins σ H s) (r:qbi vs us)
  (h:∀x dx,H x=none->H dx=none->dx≠x->sp (.ref x ::(vs++dvs)) (upd (upd H dx (.own x)) x (.ins C dx [])) (fun v H2=>v=.non/\Q (.ref x) H2) (W σ)):
  uT (uW X.prog X.w) X.A (call (.ref C) us) (EP X pins σ Q) X.xe s:=by
 have hq:=h (s.heap.objs.size+1) s.heap.objs.size (I.hok.fresh (aI _)) (I.hok.fresh (uG _)) (vD (bW _))
 have I2:=Inv.made (C:=C) I
 have r2:qbi (V.ref (s.heap.objs.size+1) ::(vs++dvs)) (uP (s.heap.objs.size+1) ::(us++ds)):=.cons rfl (r.append hd)
 have hl:(uP (s.heap.objs.size+1) :: us++ds).length=ps.length:=by
  have e:=r2.length
  rw [F.len _ _ _ _ hq] at e
  exact e.symm
 refine bX (make_map (f:=f) I.kIn M.makes M.init (beq_iff_eq.mp M.fn) (xQ (F.run _ X.stack _ _ ⟨uP (s.heap.objs.size+1) :: us, []⟩ (uP (s.heap.objs.size+1) ::(us++ds)) _ _ (W σ) (hr.make C us [])
  (I2.env0.make C us []) (hb _ (uP (s.heap.objs.size+1) :: us) I2.kIn hl) r2 hq) fun r s' hq'=>?_))
 cases r with
 |error e=>exact xes_call hx hex I2 hq'
 |ok fl=>
  cases fl with
  |ret u=>
   obtain⟨v,H',I3,rv,ev,q3⟩:=I2.after hq'
   subst ev
   exact⟨rv,⟨V.ref (s.heap.objs.size+1),H',I3,rfl,q3⟩⟩
  |next=>exact vY hq'
  |brk=>exact vY hq'
  |cont=>exact vY hq'
theorem pe_makeX (M:Mk X.K C f) (F:FnOk X.prog X.w X.K X.mg X.base (CX1 X.prog X.w) k f fd ps sp) (hr:Room (k+1) X.A) (hg:Gl X x) (hm:X.mg x=some (.ref C)) (hb:qap X.K fd ps ds) (hd:qbi dvs ds) (hx:Xes X W)
  (ha:PA X (e :: es) t) (hex:X.ex=[]:=by rfl) (hdb:(x==("__debug__" :Str))=false:=by decide) (he:vC (e :: es) X.env=(false,wH e X.env) :: vC es X.env:=by rfl) (hpl:(wR pos (vC es X.env)).any (·.1)=false:=by rfl):
  PE X (.Call (.Name x p) (e :: es) [] pos) (tMakeX C sp dvs W t):=by
 intro pins s σ H Q I h
 refine xR (qdw I hg hm ?_ hdb)
 refine xS (h₀:=X.base) I.ok.mod.kin M.kp (thn (ha pos pins s σ H _ I h) fun us s1 ⟨vs,H1,I1,r,q⟩=>⟨I1.kIn,?_⟩) he hpl
 exact run_makeX M F hr hb hd hx hex I1 r q
end
structure FunD (K:uR) (x qual:Str) (st:Stmt) (f:Addr) (fd:uM) (T:Addr) (items:Array uC):Prop where
 ex:∃(oc:uC) (od:Option Addr) (kV doc pm:uC) (an:Option Addr) (cdv ct:uC) (osl:Array (Option uC)),
  fd=fnOf x qual (qcl st) (qc3 st) (qaa st) (.ref T) kV doc pm an cdv ct/\K.lookup f=some ⟨oc,od,.func fd,osl⟩/\gK K cdv qual=true
 kp:dO K (.ref f)=true
 tup:∃(o:Obj) (n:Nat),K.lookup T=some o/\o.data=.seq items n
section
variable {K: uR} {x qual: Str} {st: Stmt} {f T: Addr} {fd: uM} {ps: List Str} {items: Array uC}
theorem FunD.binds (F:FunD K x qual st f fd T items) {ds:List uC} (h:∀(kV doc pm:uC) (an:Option Addr) (cdv ct:uC) (us:List uC),(us++ds).length=ps.length->
   bindArgs (fnOf x qual (qcl st) (qc3 st) (qaa st) (.ref T) kV doc pm an cdv ct) ⟨us, []⟩=pure (ps.zip (us++ds))\/
   ∃g:Option (Array uC)->Sem (List (Str × uC)),bindArgs (fnOf x qual (qcl st) (qc3 st) (qaa st) (.ref T) kV doc pm an cdv ct) ⟨us, []⟩=seqItems? (.ref T) >>= g/\g (some items)=pure (ps.zip (us++ds))):qap K fd ps ds:=by
 obtain⟨oc,od,kV,doc,pm,an,cdv,ct,osl,rfl,lk,hcd⟩:=F.ex
 obtain⟨o,n,hT,hd⟩:=F.tup
 intro s us KX hl
 rcases h kV doc pm an cdv ct us hl with h|⟨g,h1,h2⟩
 .exact .of_eq h
 .exact BindsTo.of_defaults (T:=T) rfl (KX _ _ hT) hd h1 h2
end
section
variable {σ: L2.St} {H: Hp} {Q: VK} {ta: TE} {t: TA} {a C dx: Addr} {fs: List (Str × V)} {m: Str} {sp: Sp} {dvs: List V} {W: L2.St -> XK}
noncomputable def kMtX (C:Addr) (m:Str) (sp:Sp) (dvs:List V) (W:L2.St->XK) (t:TA) (σ:L2.St) (Q:VK) (x:V) (H:Hp):Prop:=∃a dx fs,x=.ref a/\H a=some (.ins C dx fs)/\fs.lookup m=none/\t σ H fun vs H2=>sp (x ::(vs++dvs)) H2 Q (W σ)
theorem r_mtX (h:ta σ H fun x H1=>kMtX C m sp dvs W t σ Q x H1):tMethX C m sp dvs W ta t σ H Q:=h
theorem r_mtkX (e:H a=some (.ins C dx fs)) (l:fs.lookup m=none) (h:t σ H fun vs H2=>sp (.ref a ::(vs++dvs)) H2 Q (W σ)):kMtX C m sp dvs W t σ Q (.ref a) H:=⟨a,dx,fs,rfl,e,l,h⟩
noncomputable def kMkX (C:Addr) (sp:Sp) (dvs:List V) (W:L2.St->XK) (σ:L2.St) (Q:VK) (vs:List V) (H:Hp):Prop:=∀x dx,H x=none->H dx=none->dx≠x->sp (.ref x ::(vs++dvs)) (upd (upd H dx (.own x)) x (.ins C dx [])) (fun v H2=>v=.non/\Q (.ref x) H2) (W σ)
theorem r_mkX (h:t σ H fun vs H1=>kMkX C sp dvs W σ Q vs H1):tMakeX C sp dvs W t σ H Q:=h
end
noncomputable def kDs (p:Addr) (Q:VK) (x y:V) (H2:Hp):Prop:=H2 p=some (.dK [])/\∃kvs:List (Key × V), [(x,y)]=kvs.map (fun kv=>(kV kv.1,kv.2))/\kvs.length<=15/\Q (.ref p) (upd H2 p (.dK (qfk [] kvs)))
theorem r_disp1 {σ:L2.St} {H:Hp} {Q:VK} {tk tv:TE} (h:∀p,H p=none->tk σ (upd H p (.dK [])) fun x H1=>tv σ H1 fun y H2=>kDs p Q x y H2):tDisp [(tk,tv)] σ H Q:=fun p hp=>h p hp
theorem r_ds {H:Hp} {Q:VK} {p:Addr} {z:Str} {y:V} (e:H p=some (.dK [])) (h:Q (.ref p) (upd H p (.dK [(vE z,y)]))):kDs p Q (.str z) y H:=⟨e, [(vE z,y)],rfl,Nat.le_of_ble_eq_true rfl,h⟩
section
variable {P: vB} {w: vL} {K: uR} {mg: Str -> Option uC} {base: vR} {x qual: Str} {st: Stmt} {f T: Addr} {fd: uM} {N ps: List Str} {k: Nat} {sp: Sp} {items: Array uC}
theorem okDX (F:FunD K x qual st f fd T items) (S:FnScope N ps (qaa st)) (len:∀vs H Q E,sp vs H Q E->vs.length=ps.length)
  (hbody:∀(cdv:uC) (A:vO) (outer:List Env) (s:uD) (H:Hp) (vs:List V) (Q:VK) (E:XK),Room k (A.deeper (dQ qual (qaa st) s.heap.objs.size f cdv))->sp vs H Q E->
   ∃t,PSs (xw (cxOf (CX1 P w) P w K mg base N qual (qaa st) f cdv A outer s H E) (fun _=>E)) (qc3 st) t/\t {nx:=fun _ H'=>Q .non H',rt:=Q} (qem N vs) H):FnOk P w K mg base (CX1 P w) (k+1) f fd ps sp:=by
 obtain⟨oc,od,kV,doc,pm,an,cdv,ct,osl,rfl,lk,hcd⟩:=F.ex
 refine fn_of lk hcd S len fun A outer s H vs Q E hr hsp=>?_
 obtain⟨t,ht,q⟩:=hbody cdv A outer s H vs Q E hr hsp
 exact⟨t,PSs.xes xes_fn ht,q⟩
theorem funD_mk {oc:uC} {od an:Option Addr} {osl:Array (Option uC)} {kV doc pm cdv ct:uC} {o:Obj} {n:Nat} (l:K.lookup f=some ⟨oc,od,.func (fnOf x qual (qcl st) (qc3 st) (qaa st) (.ref T) kV doc pm an cdv ct),osl⟩)
  (c:gK K cdv qual=true) (kp:dO K (.ref f)=true) (t:K.lookup T=some o) (hd:o.data=.seq items n):FunD K x qual st f (fnOf x qual (qcl st) (qc3 st) (qaa st) (.ref T) kV doc pm an cdv ct) T items:=
 ⟨⟨oc,od,kV,doc,pm,an,cdv,ct,osl,rfl,l,c⟩,kp,o,n,t,hd⟩
end
noncomputable def oK (hs:List (Str × Addr)):List (Key × V):=hs.map fun p=>(vE p.1,.ref p.2)
noncomputable def qdj:List (Str × Addr)->Str->Option Addr
 | [],_=>none
 |p :: r,z=>if p.1=z then some p.2 else qdj r z
theorem qfs (z:Str):∀hs:List (Str × Addr),qcq (oK hs) (vE z)=(qdj hs z).map V.ref
 | []=>rfl
 |p :: r=>by
  have ih:=qfs z r
  unfold qcq oK at ih ⊢
  rw [zS,yL]
  by_cases h:p.1=z
  .have e:decide ((vE p.1:Key)=vE z)=true:=by rw [h];exact gU rfl
   simp only [e,qdj,gT h]
   rfl
  .have e:decide ((vE p.1:Key)=vE z)=false:=gW fun q=>h (xM q)
   simp only [e,qdj,gS h]
   exact ih
theorem qfl {z:Str}:∀{hs:List (Str × Addr)},qdj hs z=none↔z∉hs.map (·.1)
 | []=>by simp [qdj]
 |p :: r=>by
  have ih:=qfl (z:=z) (hs:=r)
  unfold qdj
  by_cases q:p.1=z
  .rw [gT q]
   simp [q]
  .rw [gS q,ih]
   simp [xP q,fun e:z=p.1=>q e.symm]
theorem lookO_of {z:Str} {h:Addr}:∀{hs:List (Str × Addr)},(hs.map (·.1)).Nodup->(z,h)∈hs->qdj hs z=some h
 |p :: r,nd,m=>by
  rw [zS,yC] at nd
  unfold qdj
  rcases zR.mp m with e|e
  .rw [<-e,gT rfl]
  .have q:p.1≠z:=fun q=>nd.1 (by rw [q];exact zI.mpr ⟨(z,h),e,rfl⟩)
   rw [gS q]
   exact lookO_of nd.2 e
theorem putK_oK {hs:List (Str × Addr)} {z:Str} {h:Addr} (n:qdj hs z=none):qct (oK hs) (vE z) (.ref h)=oK (hs++ [(z,h)]):=by
 have hn:=qfl.mp n
 have e:((oK hs).any fun kv=>decide (kv.1=vE z))=false:=by
  rw [fX]
  intro kv hkv
  obtain⟨p,hp,rfl⟩:=zI.mp hkv
  intro q
  have q':=xM (of_decide_eq_true q)
  exact hn (zI.mpr ⟨p,hp,q'⟩)
 unfold qct
 rw [gS (by rw [e];decide)]
 unfold oK
 rw [zD];rfl
section
variable {H: Hp} {Q: VK} {a h: Addr} {hs: List (Str × Addr)} {z: Str}
theorem r_diO (d:Rd H a (.dK (oK hs))) (q:Q (.bl (qdj hs z).isSome) H):rDI (.ref a) (.str z) H Q:=by
 refine⟨a,qcq (oK hs) (vE z),rfl,.inl ⟨_,vE z,d,rfl,rfl⟩,?_⟩
 rw [qfs,dB]
 exact q
theorem r_dgO (d:Rd H a (.dK (oK hs))) (e:qdj hs z=some h) (q:Q (.ref h) H):rDGk (.ref a) (.str z) H Q:=
 ⟨a,.ref h,rfl,.inl ⟨_,vE z,d,rfl,by rw [qfs,e];rfl⟩,q⟩
end
end My
set_option exponentiation.threshold 2000
namespace My
open PySem PySem.Spec PyProof.Rows L2
end My
set_option maxHeartbeats 3200000
namespace My
open PySem PySem.Spec PyProof.Rows L2
section
variable {P: vB} {w: vL} {A: vO}
theorem sk_is (z:Str) (t:Tok):(strKind P w).is z (.str z t)=true:=by
 show fH z (.str z t)=true
 simp [fH]
theorem take_in {zs:List Str} {i:Nat} {z:Str} (nd:zs.Nodup) (h:zs[i]?=some z):(zs.take i).contains z=false:=by
 rw [<-Bool.not_eq_true,eJ]
 intro m
 obtain⟨j,hj,e⟩:=zO.mp m
 obtain⟨hi,e2⟩:=uH.mp h
 rw [zW] at hj
 rw [dD] at e
 exact(zV.mp nd) j i (by omega) hi (by omega) (by rw [e,e2])
theorem take_next {zs:List Str} {i:Nat} {z:Str} (h:zs[i]?=some z) (y:Str):((zs.take i).contains y || decide (y=z))=(zs.take (i+1)).contains y:=by
 rw [zL,h,xY,Bool.or_eq_true,eJ,eJ,zT,decide_eq_true_iff]
 simp
theorem setT_loop {R:Result->uD->Prop} {it c:Addr} {fp wr:List Addr} {G:Array GenState->Array GenState->Prop} {zs:List Str} {pv:Nat->uC->Prop} {St:Nat->uD->Prop}
  (W:WalksS P w A.in1 it fp wr G zs.length pv St) (hc:c∉fp) (nd:zs.Nodup) (hv:∀i v,pv i v->∃z t,zs[i]?=some z/\v=.str z t) (hb:zs.length+1 < gP):
  ∀(k i:Nat) (s:uD),zs.length - i=k->i<=zs.length->St i s->s.heap.SetOf (strKind P w) c (fun y=>(zs.take i).contains y) i->
   (∀s',Moved (c :: wr) G s s'->s'.heap.SetOf (strKind P w) c (fun y=>(zs.take zs.length).contains y) zs.length->R (.ok (.ret .none)) s')->
   cN (uW P w) A (.builtin "set.update.loop" ⟨[.ref c,.ref it], []⟩) R s:=by
 have cw:c∉wr:=fun h=>hc (W.sub _ h)
 have qat:∀{n:Nat} {S:Str->Bool} {s s':uD},Moved wr G s s'->s.heap.SetOf (strKind P w) c S n->s'.heap.SetOf (strKind P w) c S n:=fun hm hS=>by
  obtain⟨o,es,ep,t,ho,rest⟩:=hS
  exact⟨o,es,ep,t,hm.heap c _ cw ho,rest⟩
 intro k
 induction k with
 |zero=>
  intro i s hk hi st hS hR
  have e:i=zs.length:=by omega
  subst e
  refine xZ fG ?_
  rw [xF aW]
  show uT _ _ (dF (.ref it) >>= _) _ _ _
  refine uB (W.done s _ _ st fun s1 hm=>?_)
  exact uI (hR s1 (hm.mono fun b h=>zE _ h) (qat hm hS))
 |succ k ih=>
  intro i s hk hi st hS hR
  have lt:i < zs.length:=by omega
  refine xZ fG ?_
  rw [xF aW]
  show uT _ _ (dF (.ref it) >>= _) _ _ _
  refine uB (W.item i s _ _ lt st fun v s1 hp st1 hm=>?_)
  obtain⟨z,t,hz,rfl⟩:=hv i v hp
  have S1:=qat hm hS
  show uT _ _ (holding [eY z t] (setAdd c (.str z t)) >>= _) _ _ _
  refine uB (wV ?_)
  unfold setAdd
  refine wV (uB ((strKind P w).pyHash (k:=z) (sk_is z t) ?_))
  refine wpAny_setAddHashed_of (knd:=strKind P w) (s:={s1 with toks:=s1.toks+1}) (sk_is z t) rfl S1 (by omega) fun h2 sb S2=>?_
  have S3:h2.SetOf (strKind P w) c (fun y=>(zs.take (i+1)).contains y) (i+1):=SetOf_congr S2 (take_next hz) (by simp only [take_in nd hz];rfl)
  refine uI ⟨dJ aW _,ih (i+1) _ (by omega) lt (W.frame _ s1 _ _ st1 (aI _) fun b h o e=>?_) S3 fun s4 hm4 S4=>?_⟩
  .rw [sb.2 b fun q=>hc (q ▸ h)];exact e
  .refine hR s4 (Moved.trans W.gtrans ((hm.mono fun b h=>zE _ h).then_heap (aI _) fun b o h e=>?_) hm4) S4
   rw [sb.2 b fun q=>h (q ▸ zG)];exact e
abbrev setO (led:Bool):Obj:={cls:=.type "set",dict:=none,data:=.set #[] 0 (.fresh 0 0 led)}
theorem setT_call {E:uC->uD->Prop} {s:uD} {l:Addr} {items:Array uC} {zs:List Str} {Q:uC->uD->Prop} (hh:A.handled=none) (hl:s.heap.IsList l items) (hi:gD items.toList zs) (nd:zs.Nodup) (hb:zs.length+1 < gP)
  (h:∀(h':vR) (tk:Nat),h'.SetOf (strKind P w) s.heap.objs.size (fun y=>(zs.take zs.length).contains y) zs.length->(∀b o,b < s.heap.objs.size->s.heap.get? b=some o->h'.get? b=some o)->Q (.ref s.heap.objs.size) {s with heap:=h',toks:=tk}):
  uT (uW P w) A (call (.type "set") [.ref l]) Q E s:=by
 obtain⟨c,tl,hmro⟩:=PySem.F.called_set.mro
 have hmade:=PySem.F.called_set.made
 have hsub:=PySem.F.called_set.sub
 refine bX (codeAny_of_tree ?_)
 show uT _ _ (callAny (.type "set") _) _ _ _
 refine uI ⟨fQ _ (by decide+kernel),xZ PySem.F.entry_type_call ?_⟩
 rw [Around.under_plain (weight_type_call_type "set" [.ref l] []) rfl]
 have h1:=PySem.F.called_set.notType
 have h2:=PySem.F.called_set.canCreate
 have hct:=PySem.F.typeCall_set_1 (.ref l)
 repeat any_goals first|assumption|wp_step
 refine xQ (code_set_new_1 (.ref l) (E:=E) (Q₁:=fun x s1=>∃led:Bool,x=.ref s.heap.objs.size/\s1={s with heap:=s.heap.push (setO led)}) fun led=>⟨led,rfl,rfl⟩) fun r s1 hr=>?_
 cases r with
 |error e=>exact hr
 |ok fl=>
  cases fl with
  |ret obj=>
   obtain⟨led,rfl,rfl⟩:=hr
   have hS:(s.heap.push (setO led)).get? s.heap.objs.size=some (setO led):=uQ _ rfl
   have hT:Shared.TypeIs {s with heap:=s.heap.push (setO led)} (.ref s.heap.objs.size) "set":=⟨_,hS,rfl⟩
   have hli:=PySem.F.called_set.init.lookup
   have hbi:=PySem.F.called_set.init.bind (.ref s.heap.objs.size)
   repeat any_goals first|assumption|wp_step
   refine xQ (codeAny_call_builtin (R:=wants (fun x s2=>x=.none/\∃h' tk,s2={s with heap:=h',toks:=tk}/\h'.SetOf (strKind P w) s.heap.objs.size (fun y=>(zs.take zs.length).contains y) zs.length/\(∀b o,b < s.heap.objs.size->s.heap.get? b=some o->h'.get? b=some o)) E) PySem.F.called_set.init.plain PySem.F.entry_set_init (check_set_init_1 hT ?_)) fun r2 s2 hr2=>?_
   .obtain⟨ol,hol,hcl,nl,hdl⟩:=hl
    obtain⟨ocls,odict,odata,oslots⟩:=ol
    dsimp only at hcl hdl
    subst hcl hdl
    have hol':=uF (setO led) hol
    have q1:=PySem.F.sub_list_set
    have q2:=PySem.F.sub_list_frozenset
    have q3:(Value.type "list" ==Value.type "dict")=false:=by decide
    have hl1:(s.heap.push (setO led)).IsList l items:=⟨_,hol',rfl,nl,rfl⟩
    unfold xU.«set.__init__» noKeywords Builtin.Frozenset.updateFrom
    generalize hPI:pyIter=PI
    wp_walk
    subst hPI
    refine bI hl1 (uB (wpAny_runValue ?_))
    have lS:l < s.heap.objs.size:=uN hol
    have h3:A.in1.in1.in1.handled=none:=by simp [hh]
    have nI:l≠(s.heap.push (setO led)).objs.size:=by
     rw [bK];exact vD (gE lS)
    have nS:s.heap.objs.size∉ [(s.heap.push (setO led)).objs.size,l]:=by
     rw [bK]
     intro z
     simp only [zR,yI,or_false] at z
     rcases z with z|z
     .exact absurd z (vD (bW _))
     .rw [z] at lS;exact wD _ lS
    have ez:items.size=zs.length:=by
     have:=hi.length
     simpa using this
    have W:WalksS P w A.in1.in1.in1 _ _ _ _ items.size _ _:=(Walks.list h3 _ l nI items).toS
    rw [ez] at W
    refine setT_loop (zs:=zs) W nS nd (fun i v hv=>?_) hb (zs.length - 0) 0 _ (by omega) (wC _) ⟨⟨_,uQ _ rfl,rfl,rfl⟩,hl1.push _⟩ ?_ ?_
    .obtain⟨y,t,e1,e2⟩:=hi.item i v (by rw [bT];exact hv)
     exact⟨y,t,e2,e1⟩
    .have hget:=uF {cls:=.type "list_iterator",data:=.fields #[.ref l,.int 0 0]} hS
     exact SetOf_congr ((setObjOf_fresh (knd:=strKind P w) led).setOf hget (by unfold gP;omega)) (fun _=>rfl) rfl
    .intro s4 hm hS4
     obtain⟨h4,g4,d4,tk4,os4⟩:=s4
     have eg:g4=s.gens:=hm.gens
     have ed:d4=s.drawn:=hm.drawn
     have eo:os4=s.os:=hm.os
     subst eg ed eo
     refine uI ?_
     refine uI ⟨rfl,h4,tk4,rfl,hS4,fun b o hb' e=>?_⟩
     refine hm.heap b o (fun z=>?_) (uF _ (uF _ e))
     rw [bK] at z
     simp only [zR,yI,or_false] at z
     rcases z with z|z
     .rw [z] at hb';exact wD _ hb'
     .rw [z] at hb';exact wD _ (Nat.lt_trans (bW _) hb')
   .cases r2 with
    |error e=>exact hr2
    |ok fl2=>
     cases fl2 with
     |ret r=>
      obtain⟨rfl,h',tk,rfl,hS',hk'⟩:=hr2
      repeat any_goals first|assumption|wp_step
      exact h _ _ hS' hk'
     |next=>exact hr2.elim
     |brk=>exact hr2.elim
     |cont=>exact hr2.elim
  |next=>exact hr.elim
  |brk=>exact hr.elim
  |cont=>exact hr.elim
end
noncomputable def SetT (P:vB) (w:vL) (c:Addr) (n:Nat):HO:=.ext fun h=>∃S,h.SetOf (strKind P w) c S n
noncomputable def rSetT (P:vB) (w:vL) (K:uR):List V->Hp->VK->Prop:=fun xs H Q=>∃(p:Addr) (zs:List Str),xs=[.ref p]/\SqL K H p (zs.map V.str)/\zs.Nodup/\zs.length<=60/\∀c,H c=none->Q (.ref c) (upd H c (SetT P w c zs.length))
noncomputable def rLenT (P:vB) (w:vL):List V->Hp->VK->Prop:=fun xs H Q=>∃c n,xs=[.ref c]/\H c=some (SetT P w c n)/\Q (.int n) H
section
variable {X: Cx}
theorem call_setT (hc:X.calm=true:=by rfl):qc9 X (.type "set") (rSetT X.prog X.w X.K):=by
 intro pins s σ H xs us Q I hv h
 obtain⟨p,zs,rfl,hS,nd,hz,q⟩:=h
 obtain⟨u,rfl,ru⟩:=hv.one
 cases ru
 obtain⟨its,rv,pl,hz'⟩:=I.list hS
 refine setT_call (I.ok.hd hc) (PlainL.isList pl) (zs:=zs) (by simpa using qfw rv) nd (by unfold gP;omega) fun h' tk hT hk=>?_
 have hg:=hT
 obtain⟨o,es,ep,t,ho,_⟩:=hg
 exact⟨.ref _,_,I.laid (a:=s.heap.objs.size) (o:=SetT X.prog X.w s.heap.objs.size zs.length) (t':=tk) (fun b ob e=>hk b ob (uN e) e) (uG _) ⟨⟨_,hT⟩,⟨o,ho⟩,fun h1 h2 ⟨S,o1,r1,r2,r3,e1,rest⟩ k=>⟨S,o1,r1,r2,r3,k _ e1,rest⟩⟩,rfl,q _ (I.hok.fresh (uG _))⟩
theorem call_lenT:qc9 X (.builtin "len") (rLenT X.prog X.w):=by
 intro pins s σ H xs us Q I hv h
 obtain⟨c,n,rfl,e,q⟩:=h
 obtain⟨u,rfl,ru⟩:=hv.one
 cases ru
 obtain⟨⟨S,o,es,ep,t,ho,hx,hd,_,_,hb,hf,rfl⟩,_⟩:=I.hok c _ e
 refine call_len_set ho hx hd hf (by unfold gP at hb;omega) ⟨.int es.size,H,I.tok _,⟨_,rfl⟩,q⟩
end
section
variable {P: vB} {w: vL} {K: uR} {H: Hp} {Q: VK}
theorem r_setT {p:Addr} {zs:List Str} (hS:SqL K H p (zs.map V.str)) (nd:zs.Nodup) (hz:zs.length<=60) (h:∀c,H c=none->Q (.ref c) (upd H c (SetT P w c zs.length))):rSetT P w K [.ref p] H Q:=⟨p,zs,rfl,hS,nd,hz,h⟩
theorem r_lenT2 {c:Addr} {n:Nat} (e:H c=some (SetT P w c n)) (h:Q (.int n) H):rLenT P w [.ref c] H Q:=⟨c,n,rfl,e,h⟩
end
noncomputable def rLenD:List V->Hp->VK->Prop:=fun xs H Q=>∃a kvs,xs=[V.ref a]/\H a=some (.dK kvs)/\Q (.int kvs.length) H
theorem call_lenDD {X:Cx}:qc9 X (.builtin "len") rLenD:=L2.call_lenD
theorem r_lenD {H:Hp} {Q:VK} {a:Addr} {kvs:List (Key × V)} (e:H a=some (.dK kvs)) (h:Q (.int kvs.length) H):rLenD [.ref a] H Q:=⟨a,kvs,rfl,e,h⟩
end My
set_option maxHeartbeats 1000000
namespace My
open PySem PySem.Spec PyProof.Rows L2
noncomputable def ValO (v d:Addr):HO:=.ext fun h=>h.IsValuesView v d
end My
namespace My
open PySem PySem.Spec PyProof.Rows L2 PyProof
end My
namespace My
open PySem PySem.Spec PyProof.Rows L2
section
inductive OddV (K:uR) (H:Hp):V->Prop
 |non:OddV K H .non
 |bl (b:Bool):OddV K H (.bl b)
 |int (i:Int):OddV K H (.int i)
 |lst {a:Addr} {xs:List V} (h:SqL K H a xs):OddV K H (.ref a)
 |tup {a:Addr} {xs:List V} (h:SqT K H a xs):OddV K H (.ref a)
 |dct {a:Addr} {kvs:List (Key × V)} (h:H a=some (.dK kvs)):OddV K H (.ref a)
end
section
variable {K: uR} {H: Hp} {Q: VK}
theorem qgb {y:Str}:∀nm:List Str,inV (.str y) (nm.map V.str)=decide (y∈nm)
 | []=>rfl
 |z :: r=>by
  have ih:=qgb (y:=y) r
  unfold inV at ih ⊢
  rw [zS,xC,ih]
  by_cases c:z=y
  .subst c
   rw [show eqV (V.str z) (V.str z)=true from beq_self_eq_true z,gU (zG ..)]
   rfl
  .rw [show eqV (V.str z) (V.str y)=false from beq_false_of_ne c,cB]
   by_cases m:y∈r
   .rw [gU m,gU (zE _ m)]
   .rw [gW m,gW fun h=>(zR.mp h).elim (fun e=>c e.symm) m]
theorem flat_strs (nm:List Str):(nm.map V.str).all qdl=true:=by
 rw [gF]
 exact yM.mpr fun _ _=>rfl
theorem r_inSs {p:Addr} {y:Str} {nm:List Str} (h:SqL K H p (nm.map V.str)) (q:Q (.bl (decide (y∈nm))) H):rIn K false (.str y) (.ref p) H Q:=⟨p,_,rfl,.inl h,rfl,flat_strs nm,by rw [qgb];exact q⟩
end
theorem ints_of:∀{ns:List Int} {its:List uC},qbi (ns.map V.int) its->∃ys:List (Int × Tok),its=ys.map (fun p=>aP p.1 p.2)/\ys.map (·.1)=ns
 | [],_,r=>by cases r;exact⟨[],rfl,rfl⟩
 |n :: ns,_,r=>by
  cases r with
  |cons h t=>
   obtain⟨tk,rfl⟩:=h
   obtain⟨ys,e1,e2⟩:=ints_of t
   exact⟨(n,tk) :: ys,by rw [e1];rfl,by rw [zS,e2]⟩
theorem items_of (ys:List (Int × Tok)):(ys.map (fun p=>aP p.1 p.2)).toArray=intItems ys.toArray:=by
 unfold intItems
 simp
noncomputable def rMinL (K:uR):List V->Hp->VK->Prop:=fun xs H Q=>∃(p:Addr) (ns:List Int),xs=[.ref p]/\SqL K H p (ns.map V.int)/\0 < ns.length/\∀m,m∈ns->(∀a∈ns,m<=a)->Q (.int m) H
noncomputable def rMaxL (K:uR):List V->Hp->VK->Prop:=fun xs H Q=>∃(p:Addr) (ns:List Int),xs=[.ref p]/\SqL K H p (ns.map V.int)/\0 < ns.length/\∀m,m∈ns->(∀a∈ns,a<=m)->Q (.int m) H
noncomputable def rSumL (K:uR):List V->Hp->VK->Prop:=fun xs H Q=>∃(p:Addr) (ns:List Int),xs=[.ref p]/\SqL K H p (ns.map V.int)/\Q (.int ns.sum) H
section
variable {X: Cx}
theorem call_minL (hc:X.calm=true):qc9 X (.builtin "min") (rMinL X.K):=by
 intro pins s σ H xs us Q I hv h
 obtain⟨p,ns,rfl,hS,hn,q⟩:=h
 obtain⟨u,rfl,ru⟩:=hv.one
 cases ru
 obtain⟨its,rv,pl,hz⟩:=I.list hS
 have hl:=pl.isList
 obtain⟨ys,rfl,rfl⟩:=ints_of rv
 rw [items_of] at hl
 have hsz:0 < ys.toArray.size:=by rw [zB] at hn;simpa using hn
 refine min_intList (I.ok.hd hc) hl hsz fun v h' tk hv hk=>?_
 obtain⟨t,rfl⟩:=intItems_at hv
 obtain⟨h1,h2⟩:=argBest_lt (numAt ys.toArray) (ys.toArray.size - 1)
 refine⟨.int _,H,I.kept (t':=tk) hk,⟨t,rfl⟩,q _ ?_ fun a ha=>?_⟩
 .rw [numAt_eq]
  have hsy:ys.toArray.size=ys.length:=by simp
  exact getD_mem (show _ <(List.map (fun x:Int × Tok=>x.fst) ys).length by rw [zB];omega)
 .obtain⟨j,hj,rfl⟩:=mem_getD ha
  rw [zB] at hj
  have z:=h2 j (by have:ys.toArray.size=ys.length:=(by simp);omega)
  rw [numAt_eq ys.toArray j] at z
  exact z
theorem call_maxL (hc:X.calm=true):qc9 X (.builtin "max") (rMaxL X.K):=by
 intro pins s σ H xs us Q I hv h
 obtain⟨p,ns,rfl,hS,hn,q⟩:=h
 obtain⟨u,rfl,ru⟩:=hv.one
 cases ru
 obtain⟨its,rv,pl,hz⟩:=I.list hS
 have hl:=pl.isList
 obtain⟨ys,rfl,rfl⟩:=ints_of rv
 rw [items_of] at hl
 have hsz:0 < ys.toArray.size:=by rw [zB] at hn;simpa using hn
 refine max_intList (I.ok.hd hc) hl hsz fun v h' tk hv hk=>?_
 obtain⟨t,rfl⟩:=intItems_at hv
 obtain⟨h1,h2⟩:=argBest_gt (numAt ys.toArray) (ys.toArray.size - 1)
 refine⟨.int _,H,I.kept (t':=tk) hk,⟨t,rfl⟩,q _ ?_ fun a ha=>?_⟩
 .rw [numAt_eq]
  have hsy:ys.toArray.size=ys.length:=by simp
  exact getD_mem (show _ <(List.map (fun x:Int × Tok=>x.fst) ys).length by rw [zB];omega)
 .obtain⟨j,hj,rfl⟩:=mem_getD ha
  rw [zB] at hj
  have z:=h2 j (by have:ys.toArray.size=ys.length:=(by simp);omega)
  rw [numAt_eq ys.toArray j] at z
  exact z
theorem qez (ns:List Int):∀k,k<=ns.length->preSum (fun i=>(ns[i]?).getD 0) k=(ns.take k).sum
 |0,_=>by simp [preSum]
 |k+1,h=>by
  have hk:k < ns.length:=by omega
  show preSum _ k+(ns[k]?).getD 0=_
  rw [qez ns k (by omega),zL,zA hk,List.sum_append]
  simp
theorem call_sumL (hc:X.calm=true):qc9 X (.builtin "sum") (rSumL X.K):=by
 intro pins s σ H xs us Q I hv h
 obtain⟨p,ns,rfl,hS,q⟩:=h
 obtain⟨u,rfl,ru⟩:=hv.one
 cases ru
 obtain⟨its,rv,pl,hz⟩:=I.list hS
 have hl:=pl.isList
 have hlt:p < s.heap.objs.size:=by obtain⟨_,e,_⟩:=hl;exact uN e
 have hlen:=rv.length
 rw [zB] at hlen
 refine call_sum_walkG (bI hl ?_)
 refine⟨s.heap.objs.size, [s.heap.objs.size,p], [s.heap.objs.size],its.toArray.size,_,_,fun i=>(ns[i]?).getD 0,rfl,Walks.list (A:=X.A.in1) (I.ok.hd hc) _ p (vD hlt) its.toArray,⟨⟨_,uQ _ rfl,rfl,rfl⟩,hl.push _⟩,fun b hb=>?_,fun i v hP=>?_,fun h' tk t' hk=>?_⟩
 .have e:(s.heap.push {cls:=.type "list_iterator",data:=.fields #[.ref p,.int 0 0]}).objs.size=s.heap.objs.size+1:=by simp [Heap.push]
  rcases zR.mp hb with rfl|hb
  .show _ <(s.heap.push _).objs.size
   rw [e];omega
  .rw [zH.mp hb]
   show _ <(s.heap.push _).objs.size
   rw [e];exact gE hlt
 .have hi:its[i]?=some v:=by simpa using hP
  have hb:i < ns.length:=by rw [hlen];exact(uH.mp hi).1
  have hx:(ns.map V.int)[i]?=some (.int ns[i]):=by rw [zC,zA hb];rfl
  obtain⟨u,e,r⟩:=rv.get hx
  rw [hi] at e
  cases e
  obtain⟨t,rfl⟩:=r
  exact⟨t,by show aP ns[i] t=aP ((ns[i]?).getD 0) t;rw [zA hb];rfl⟩
 .have e:preSum (fun i=>(ns[i]?).getD 0) its.toArray.size=ns.sum:=by
   rw [zU,<-hlen,qez ns _ (uG _),zP]
  rw [e]
  exact⟨.int _,H,I.kept (t':=tk) (fun b o eb=>hk b o (fun hm=>by have z:=uN eb;rw [zH.mp hm] at z;exact wD _ z) (uF _ eb)),⟨_,rfl⟩,q⟩
end
section
variable {K: uR} {H: Hp} {Q: VK} {p: Addr} {ns: List Int}
theorem r_minL (hS:SqL K H p (ns.map V.int)) (hn:0 < ns.length) (h:∀m,m∈ns->(∀a∈ns,m<=a)->Q (.int m) H):rMinL K [.ref p] H Q:=⟨p,ns,rfl,hS,hn,h⟩
theorem r_maxL (hS:SqL K H p (ns.map V.int)) (hn:0 < ns.length) (h:∀m,m∈ns->(∀a∈ns,a<=m)->Q (.int m) H):rMaxL K [.ref p] H Q:=⟨p,ns,rfl,hS,hn,h⟩
theorem r_sumL (hS:SqL K H p (ns.map V.int)) (h:Q (.int ns.sum) H):rSumL K [.ref p] H Q:=⟨p,ns,rfl,hS,h⟩
end
noncomputable def XB (X:Cx) (E:XK) (e:uC) (s':uD):Prop:=∃(a:Addr) (C:uC) (d:Option Addr) (σ':L2.St) (H':Hp),e=.ref a/\Inv X [] σ' H' s'/\E C d H'/\
 ∃(T:Addr) (fl:uC) (σ1:L2.St) (H1:Hp) (s1:uD),Inv X [] σ1 H1 s1/\s1.heap.get? a=none/\s1.heap.get? T=none/\H' a=none/\H' T=none/\XTr s'.heap a C d fl T
abbrev xb (X:Cx) (E:XK):Cx:=X.wish (XB X E)
end My
namespace My
open PySem PySem.Spec PyProof.Rows L2 PyProof PySem.Builtin.Str
end My
namespace My
open PySem PySem.Spec PyProof.Rows L2 PyProof PySem.Builtin.Str PySem.StrLaws
noncomputable def hits (l:List Nat) (c:Nat) (is:List Nat):List Nat:=is.filter fun i=>decide (l[i]?=some c)
end My
namespace My
open PySem PySem.Spec PyProof.Rows L2 PyProof PySem.Builtin.Str PySem.NumText
end My
namespace My
open PySem PySem.Spec PyProof.Rows L2 PyProof PySem.Builtin.Str
end My
namespace My
open PySem PySem.Spec PyProof.Rows L2 PySem.Builtin
section
variable {prog: vB} {w: vL} {A: vO} {E: uC -> uD -> Prop} {s: uD} {it d: Addr} {i ep: Nat} {od: Obj} {es: Array fB}
theorem rawKey (hit:s.heap.IsKeyIter it d i es.size ep) (hod:s.heap.get? d=some od) (hdd:od.data=.dict es ep) {Q:Option uC->uD->Prop} (hi:i < es.size)
  (hQ:∀h',h'.IsKeyIter it d (i+1) es.size ep->bH it s.heap h'->Q (some es[i].key) {s with heap:=h'}):uT (uW prog w) A (dF (.ref it)) Q E s:=by
 obtain⟨o,ho,hc,hd⟩:=id hit
 have up:(s.heap.update it (wL (·.setIfInBounds 1 (xG ((i:Int)+1))))).IsKeyIter it d (i+1) es.size ep:=by
  refine⟨_,bR _ ho (bS (xT hd _)),?_,?_⟩
  .rw [gA];exact hc
  .rw [xT hd];simp [xG]
 have own:Dict_items.ownsTuple "dict_keyiterator" =false:=by decide
 have n1:¬((uP d==vW)=true):=uE
 unfold dF
 refine uB (fK (xJ (name:=aR "__next__") hit.typeIs aA (wJ aA hit.typeIs F.entry_dict_keyiterator_next ?_ (gQ _))))
 refine uB (uI (uB (uB (uB (xN hit.typeIs (uI (uB (eS ho hd ?_))))))))
 rw [own,gS uE]
 show uT _ _ (ite ((uP d==vW)=true) _ _) _ _ s
 rw [gS n1]
 refine uB (uI (uB (aG hod hdd ?_)))
 rw [gS (by simp)]
 refine uB (uI (uB (aZ hod hdd ?_)))
 rw [gS (by simp)]
 refine uI ?_
 have eg:(if (i:Int) < 0 then none else es[(i:Int).toNat]?)=some es[i]:=by rw [gS (by omega),xE];exact aT hi
 dsimp only
 rw [eg]
 dsimp only
 refine uB (uB (xN hit.typeIs (uI ?_)))
 refine uB (wpAny_isOneOf_keyiter hit.typeIs ?_)
 rw [own]
 refine uB (aJ ho hd (by simp) ?_)
 refine uB (wV ?_)
 refine uB (wpAny_isOneOf_keyiter (s:={s with heap:=s.heap.update it (wL (·.setIfInBounds 1 (xG ((i:Int)+1))))}) up.typeIs ?_)
 exact uI (uI ⟨_,rfl,uI (hQ _ up (cM ..))⟩)
theorem rawKeyEnd (hh:A.handled=none) (hit:s.heap.IsKeyIter it d i es.size ep) (hod:s.heap.get? d=some od) (hdd:od.data=.dict es ep) {Q:Option uC->uD->Prop} (hi:es.size<=i)
  (hQ:∀h',Heap.ExtBut it s.heap h'->Q none {s with heap:=h'}):uT (uW prog w) A (dF (.ref it)) Q E s:=by
 obtain⟨o,ho,hc,hd⟩:=id hit
 have own:Dict_items.ownsTuple "dict_keyiterator" =false:=by decide
 have n1:¬((uP d==vW)=true):=uE
 unfold dF
 refine uB (fK (xJ (name:=aR "__next__") hit.typeIs aA (wJ aA hit.typeIs F.entry_dict_keyiterator_next ?_ (gQ _))))
 refine uB (uI (uB (uB (uB (xN hit.typeIs (uI (uB (eS ho hd ?_))))))))
 rw [own,gS uE]
 show uT _ _ (ite ((uP d==vW)=true) _ _) _ _ s
 rw [gS n1]
 refine uB (uI (uB (aG hod hdd ?_)))
 rw [gS (by simp)]
 refine uB (uI (uB (aZ hod hdd ?_)))
 rw [gS (by simp)]
 refine uI ?_
 have eg:(if (i:Int) < 0 then none else es[(i:Int).toNat]?)=none:=by rw [gS (by omega),xE];exact Array.getElem?_eq_none hi
 dsimp only
 rw [eg]
 dsimp only
 refine uB (uB (xN hit.typeIs (uI ?_)))
 rw [own]
 refine uB (aJ ho hd (by simp) (uB ?_))
 unfold newExc newTuple
 refine uB (wG ?_ (by size_fits))
 refine uB (m:=eU _ _) (wpAny_of_eq (a:=vW) (by first|rfl|(simp only [eU];rfl)) (wG ?_ (by size_fits)))
 unfold raiseNew
 refine uB (wpAny_handled ?_)
 rw [show A.in1.handled=none from hh]
 refine uB (uI (wpAny_throw ?_))
 refine uB (wpAny_isInstance (T:="StopIteration") (b:=true) ⟨_,uQ _ rfl,rfl⟩ isSubtype_stop ?_)
 exact uI (hQ _ (((cM ..).extBut.push _).push _))
theorem rawVal (hit:s.heap.IsValIter it d i es.size ep) (hod:s.heap.get? d=some od) (hdd:od.data=.dict es ep) {Q:Option uC->uD->Prop} (hi:i < es.size)
  (hQ:∀h',h'.IsValIter it d (i+1) es.size ep->bH it s.heap h'->Q (some es[i].val) {s with heap:=h'}):uT (uW prog w) A (dF (.ref it)) Q E s:=by
 obtain⟨o,ho,hc,hd⟩:=id hit
 have up:(s.heap.update it (wL (·.setIfInBounds 1 (xG ((i:Int)+1))))).IsValIter it d (i+1) es.size ep:=by
  refine⟨_,bR _ ho (bS (xT hd _)),?_,?_⟩
  .rw [gA];exact hc
  .rw [xT hd];simp [xG]
 have own:Dict_items.ownsTuple "dict_valueiterator" =false:=by decide
 have n1:¬((uP d==vW)=true):=uE
 unfold dF
 refine uB (fK (xJ (name:=aR "__next__") hit.typeIs xK (wJ xK hit.typeIs gI ?_ (gG _))))
 refine uB (uI (uB (uB (uB (xO hit.typeIs (uI (uB (eS ho hd ?_))))))))
 rw [own,gS uE]
 show uT _ _ (ite ((uP d==vW)=true) _ _) _ _ s
 rw [gS n1]
 refine uB (uI (uB (aG hod hdd ?_)))
 rw [gS (by simp)]
 refine uB (uI (uB (aZ hod hdd ?_)))
 rw [gS (by simp)]
 refine uI ?_
 have eg:(if (i:Int) < 0 then none else es[(i:Int).toNat]?)=some es[i]:=by rw [gS (by omega),xE];exact aT hi
 dsimp only
 rw [eg]
 dsimp only
 refine uB (uB (xO hit.typeIs (uI ?_)))
 refine uB (eK hit.typeIs ?_)
 rw [own]
 refine uB (aJ ho hd (by simp) ?_)
 refine uB (wV ?_)
 refine uB (eK (s:={s with heap:=s.heap.update it (wL (·.setIfInBounds 1 (xG ((i:Int)+1))))}) up.typeIs ?_)
 refine uB (eK (s:={s with heap:=s.heap.update it (wL (·.setIfInBounds 1 (xG ((i:Int)+1))))}) up.typeIs ?_)
 exact uI (uI ⟨_,rfl,uI (hQ _ up (cM ..))⟩)
theorem rawValEnd (hh:A.handled=none) (hit:s.heap.IsValIter it d i es.size ep) (hod:s.heap.get? d=some od) (hdd:od.data=.dict es ep) {Q:Option uC->uD->Prop} (hi:es.size<=i)
  (hQ:∀h',Heap.ExtBut it s.heap h'->Q none {s with heap:=h'}):uT (uW prog w) A (dF (.ref it)) Q E s:=by
 obtain⟨o,ho,hc,hd⟩:=id hit
 have own:Dict_items.ownsTuple "dict_valueiterator" =false:=by decide
 have n1:¬((uP d==vW)=true):=uE
 unfold dF
 refine uB (fK (xJ (name:=aR "__next__") hit.typeIs xK (wJ xK hit.typeIs gI ?_ (gG _))))
 refine uB (uI (uB (uB (uB (xO hit.typeIs (uI (uB (eS ho hd ?_))))))))
 rw [own,gS uE]
 show uT _ _ (ite ((uP d==vW)=true) _ _) _ _ s
 rw [gS n1]
 refine uB (uI (uB (aG hod hdd ?_)))
 rw [gS (by simp)]
 refine uB (uI (uB (aZ hod hdd ?_)))
 rw [gS (by simp)]
 refine uI ?_
 have eg:(if (i:Int) < 0 then none else es[(i:Int).toNat]?)=none:=by rw [gS (by omega),xE];exact Array.getElem?_eq_none hi
 dsimp only
 rw [eg]
 dsimp only
 refine uB (uB (xO hit.typeIs (uI ?_)))
 rw [own]
 refine uB (aJ ho hd (by simp) (uB ?_))
 unfold newExc newTuple
 refine uB (wG ?_ (by size_fits))
 refine uB (m:=eU _ _) (wpAny_of_eq (a:=vW) (by first|rfl|(simp only [eU];rfl)) (wG ?_ (by size_fits)))
 unfold raiseNew
 refine uB (wpAny_handled ?_)
 rw [show A.in1.handled=none from hh]
 refine uB (uI (wpAny_throw ?_))
 refine uB (wpAny_isInstance (T:="StopIteration") (b:=true) ⟨_,uQ _ rfl,rfl⟩ isSubtype_stop ?_)
 exact uI (hQ _ (((cM ..).extBut.push _).push _))
theorem rawIter {Q:uC->uD->Prop} (hd:(d==wN)=false) (hod:s.heap.get? d=some od) (hx:od.ExactDict) (hdd:od.data=.dict es ep)
  (hQ:Q (.ref s.heap.objs.size) {s with heap:=s.heap.push {cls:=.type "dict_keyiterator",data:=.fields #[.ref d,.int 0 0,.int es.size 0,.int ep 0]}}):uT (uW prog w) A (pyIter (.ref d)) Q E s:=by
 have hT:s.TypeIs (.ref d) "dict":=⟨od,hod,hx.1⟩
 refine wpAny_pyIter_slot hT F.slot_dict_iter (wJ F.slot_dict_iter hT F.entry_dict_iter ?_ (F.args_dict_iter_1 _))
 unfold xU.«dict.__iter__» Builtin.Dict.dictSlotNone
 refine uB (uB (wpAny_notOrdered_dict hT (uI ?_)))
 unfold eM
 dsimp only
 refine uB (uI (uB ?_))
 rw [gS (by rw [hd];exact uE)]
 refine uI (uB (aG hod hdd (uB (aZ hod hdd (uB (wG (uI ⟨_,rfl,"dict_keyiterator",_,⟨_,uQ _ rfl,rfl⟩,F.slot_dict_keyiterator_next.lookup,?_⟩)))))))
 simpa [xG] using hQ
theorem rawViewIter {v:Addr} {Q:uC->uD->Prop} (hv:s.heap.IsValuesView v d) (hod:s.heap.get? d=some od) (hdd:od.data=.dict es ep)
  (hQ:Q (.ref s.heap.objs.size) {s with heap:=s.heap.push {cls:=.type "dict_valueiterator",data:=.fields #[.ref d,.int 0 0,.int es.size 0,.int ep 0]}}):uT (uW prog w) A (pyIter (.ref v)) Q E s:=by
 obtain⟨ov,hov,hcv,hdv⟩:=id hv
 refine wpAny_pyIter_slot hv.typeIs F.slot_dict_values_iter (wJ F.slot_dict_values_iter hv.typeIs F.entry_dict_values_iter ?_ (F.args_dict_values_iter_1 _))
 unfold xU.«dict_values.__iter__» Dict_items.dictOf
 refine uB (uI (uB (uB (cZ hov hdv (x:=.ref d) rfl (uI (uB ?_))))))
 unfold Dict_items.newIterator
 refine uB (aG hod hdd (uB (aZ hod hdd ?_)))
 have own:Dict_items.ownsTuple "dict_valueiterator" =false:=by decide
 simp only [own,Bool.false_eq_true,if_false]
 refine wG (uI ⟨_,rfl,"dict_valueiterator",_,⟨_,uQ _ rfl,rfl⟩,F.slot_dict_valueiterator_next.lookup,?_⟩)
 simpa [xG] using hQ
theorem rawValues (d:Addr) (hd:(d==wN)=false):MeetsIn prog w (xU.«dict.values» ⟨[.ref d], []⟩) (fun _ R s=>s.TypeIs (.ref d) "dict"/\
  R (.ok (.ret (.ref s.heap.objs.size))) {s with heap:=s.heap.push {cls:=.type "dict_values",data:=.fields #[.ref d]}}):=
 .of_wp fun A R s ⟨hT,h⟩=>by
  refine uB ?_
  unfold Builtin.Dict.noArgs
  refine uB (wpAny_notOrdered_dict hT ?_)
  show uT _ _ (pure d) _ _ s
  refine uI ?_
  show uT _ _ (eM d >>= _) _ _ s
  refine uB ?_
  unfold eM
  rw [gS (by rw [hd];exact uE)]
  exact uI (uB (wG (uI ⟨_,rfl,h⟩)))
end
end My
namespace My
open PySem PySem.Spec PyProof.Rows L2
section
variable {X: Cx} {pins: List (Addr × Obj)} {σ: L2.St} {H: Hp} {s: uD} {a: Addr} {kvs: List (List Key × V)} {o: Obj}
theorem Inv.freezeT (I:Inv X pins σ H s) (e:H a=some (.dT kvs)) (ho:s.heap.get? a=some o):Inv X pins σ (upd H a (.frz o (.dT kvs))) s:=by
 have ok:=I.hok a _ e
 have z:=I.write (x:=a) (e:=a) (o:=.frz o (.dT kvs)) (h':=s.heap) (t':=s.toks) (by rw [e];exact wO) (.inl rfl) (fun _ _ _ q=>q) ⟨o,ho⟩ ⟨ho,ok.stay (fun _ _ _ r=>r) (fun c r=>by
  rw [qa6 (fun w=>by subst w;rw [e] at r;cases r)];exact r) fun c xs r=>by
  rw [qa6 (fun w=>by subst w;rw [e] at r;cases r)];exact r⟩
 exact z
end
theorem entT {P:vB} {w:vL} {H:Hp} {h:vR} {a:Addr} {kvs:List (List Key × V)} (ok:qbo P w H h a (.dT kvs)):∃o es ep,h.get? a=some o/\o.ExactDict/\o.data=.dict es ep/\es.size=kvs.length/\(a==wN)=false/\
  ∀(i:Nat) (hi:i < es.size) k v,kvs[i]?=some (k,v)->∃b,es[i].key=.ref b/\H b=some (.tup (k.map kV))/\qbf v es[i].val:=by
 obtain⟨_,y,xs,r,o,es,ep,h1,h2,h3,h4,_⟩:=ok
 have key:∀{l:List (List Key × V)} {m:List (List Key × Addr × uC)},KT H l m->l.length=m.length/\∀(i:Nat) k v,l[i]?=some (k,v)->∃q,m[i]?=some q/\H q.2.1=some (.tup (k.map kV))/\qbf v q.2.2:=by
  intro l m q
  induction q with
  |nil=>exact⟨rfl,fun i k v e=>by simp at e⟩
  | @cons p q ps qs hq t ih=>
   refine⟨by rw [zZ,zZ,ih.1],fun i k v e=>?_⟩
   cases i with
   |zero=>
    simp only [bE,dC] at e ⊢
    subst e
    exact⟨q,rfl,hq.2.1,hq.2.2⟩
   |succ i=>
    simp only [bF] at e ⊢
    exact ih.2 i k v e
 obtain⟨kl,kg⟩:=key r
 have hs:es.size=xs.length:=by
  have:=congrArg wP h4
  rw [zB] at this
  simpa using this
 refine⟨o,es,ep,h1,h2,h3,by omega,y,fun i hi k v e=>?_⟩
 obtain⟨q,hq,hb,hv⟩:=kg i k v e
 have e1:es[i]?=some (entryOfKey (cP (qbd P w)) q):=by
  rw [<-bT,h4,zC,hq];rfl
 have e2:es[i]=entryOfKey (cP (qbd P w)) q:=by
  rw [aT hi] at e1
  exact uX e1
 rw [e2]
 exact⟨q.2.1,rfl,hb,hv⟩
noncomputable def ItDT (d:Addr) (o:Obj) (kvs:List (List Key × V)):It:=
 ⟨fun i H=>H d=some (.frz o (.dT kvs))/\i < kvs.length,fun i H x H'=>H'=H/\∃k v b,kvs[i]?=some (k,v)/\x=.ref b/\H b=some (.tup (k.map kV)),fun i H=>H d=some (.frz o (.dT kvs))/\kvs.length<=i⟩
theorem turn_dT {P:vB} {w:vL} {K:uR} {tg:vU} {o:Obj} {kvs:List (List Key × V)} {es:Array fB} {ep:Nat} (d it:Addr) (hd:o.data=.dict es ep):Turn P w K tg (ItDT d o kvs) [it] it (fun i h=>h.IsKeyIter it d i kvs.length ep) where
 mem:=by simp
 obj:=fun i h st b hb=>by
  have e:b=it:=by simpa using hb
  subst e
  obtain⟨ob,e,c,dd⟩:=st
  exact⟨ob,e,fun v z=>by rw [dd] at z;cases z⟩
 keep:=fun i h h' st k=>st.at fun ob e=>k it (by simp) ob e
 item:=by
  intro X hP hw hK hc i pins s σ H E I hf st hg
  subst hP hw hK
  obtain⟨hfz,hi⟩:=hg
  obtain⟨ho,okd⟩:=I.hok d _ hfz
  obtain⟨o',es',ep',ho',hx,hd',hsz,hsy,get⟩:=entT okd
  rw [ho] at ho'
  cases ho'
  rw [hd] at hd'
  cases hd'
  obtain⟨f0,f1,f2,f3,f4,f5⟩:=hf it (by simp)
  obtain⟨b,hb,hbt,_⟩:=get i (by omega) kvs[i].1 kvs[i].2 (by rw [zA hi])
  rw [<-hsz] at st
  refine rawKey st ho hd (by omega) fun h' st' hs'=>?_
  have I1:Inv X pins σ H {s with heap:=h'}:=I.turned (t':=s.toks) (fun b ob hb e=>hs'.extBut b ob hb e) f0 f1 f3 f4 f5
  obtain⟨ob,e,c,dd⟩:=id st'
  rw [hb]
  exact⟨_,rfl,go_of (s:={s with heap:=h'}) e c dd (by decide) ⟨.ref b,H,I1,rfl,⟨rfl,kvs[i].1,kvs[i].2,b,zA hi,rfl,hbt⟩,by rw [<-hsz];exact st',fun b hb=>(hf b hb).1⟩⟩
 done:=by
  intro X hP hw hK hc i pins s σ H E I hf st hg
  subst hP hw hK
  obtain⟨hfz,hi⟩:=hg
  obtain⟨ho,okd⟩:=I.hok d _ hfz
  obtain⟨o',es',ep',ho',hx,hd',hsz,hsy,get⟩:=entT okd
  rw [ho] at ho'
  cases ho'
  rw [hd] at hd'
  cases hd'
  obtain⟨f0,f1,f2,f3,f4,f5⟩:=hf it (by simp)
  rw [<-hsz] at st
  exact rawKeyEnd (I.ok.hd hc) st ho hd (by omega) fun h' eb=>⟨rfl,I.turned (t':=s.toks) (fun b ob hb e=>eb b ob hb e) f0 f1 f3 f4 f5⟩
 self:=fun _ _ _ _ _ st h=>wpAny_pyIter_keyiter st h
noncomputable def rItDT (x:V) (H:Hp) (R:It->Hp->Prop):Prop:=∃a kvs,x=.ref a/\H a=some (.dT kvs)/\∀o,R (ItDT a o kvs) (upd H a (.frz o (.dT kvs)))
noncomputable def iDictT (td:TE):TI:=fun σ H R=>td σ H fun x H1=>rItDT x H1 R
theorem qeq {X:Cx} {tg l:vU} {tl:TE} (hl:PE X l tl):PI X tg l (iDictT tl):=by
 intro pins s σ H R I h
 refine thn (hl pins s σ H _ I h) fun v s1 ⟨x,H1,I1,r1,q1⟩=>?_
 obtain⟨a,kvs,e,ea,q⟩:=q1
 subst e
 cases r1
 obtain⟨o,es,ep,ho,hx,hd,hsz,hsy,get⟩:=entT (I1.hok a _ ea)
 refine rawIter hsy ho hx hd ?_
 have it0:(s1.heap.push {cls:=.type "dict_keyiterator",data:=.fields #[.ref a,.int 0 0,.int es.size 0,.int ep 0]}).IsKeyIter s1.heap.objs.size a 0 kvs.length ep:=by
  rw [<-hsz];exact⟨_,uQ _ rfl,rfl,rfl⟩
 have I2:=Inv.freezeT I1 ea ho
 refine⟨s1.heap.objs.size, [s1.heap.objs.size],_,_,_,rfl,I2.kept (t':=s1.toks) fun b ob e=>uF _ e,turn_dT (kvs:=kvs) a _ hd,it0,fun b hb=>?_,q o⟩
 have e:b=s1.heap.objs.size:=by simpa using hb
 subst e
 exact I2.fpOk (uG _) (I2.hok.fresh (uG _))
noncomputable def rValsT:V->List V->Hp->VK->Prop:=fun x xs H Q=>∃p kvs,x=.ref p/\xs=[]/\Rd H p (.dT kvs)/\∀v,H v=none->Q (.ref v) (upd H v (ValO v p))
section
variable {X: Cx}
theorem mt_valsT:MtR X "dict.values" rValsT:=by
 intro pins s σ H x xs v us Q I rx rv h
 obtain⟨p,kvs,rfl,rfl,e,q⟩:=h
 cases rx
 have hus:=rv.zero
 subst hus
 obtain⟨o,es,ep,ho,hx,hd,hsz,hsy,get⟩:=entT (e.ok I.hok)
 have hT:s.TypeIs (.ref p) "dict":=⟨o,ho,hx.1⟩
 refine call_meetsIn PySem.F.slot_dict_values hT PySem.F.entry_dict_values (PySem.F.args_dict_values_1 _) (rawValues p hsy) ⟨hT,?_⟩
 exact⟨.ref _,_,I.laid (a:=s.heap.objs.size) (o:=ValO s.heap.objs.size p) (t':=s.toks) (fun b ob e=>uF _ e) (uG _) ⟨⟨_,uQ _ rfl,rfl,rfl⟩,⟨_,uQ _ rfl⟩,fun h1 h2 ⟨o,e1,r⟩ k=>⟨o,k _ e1,r⟩⟩,rfl,q _ (I.hok.fresh (uG _))⟩
end
end My
namespace My
open PySem PySem.Spec PyProof.Rows L2 PyProof PySem.SeqAt
noncomputable def isTx (z:Str):uC->Bool
 | .str a _=>a==z
 |_=>false
theorem isTx_at (z:Str):∀{us:List uC} {ss:List Str},gD us ss->∀(j:Nat) (h1:j < us.length) (h2:j < ss.length),isTx z us[j]=(ss[j]==z)
 |_,_,.nil,j,h1,_=>absurd h1 (cL j)
 |_,_,.cons x t h,0,_,_=>rfl
 |_,_,.cons x t h,j+1,h1,h2=>isTx_at z h j (xV h1) (xV h2)
theorem isTx_eq {A:vO} {s:uD} (z:Str) (t:Tok):∀{us:List uC} {ss:List Str},gD us ss->∀y∈us,EqAt A s y (.str z t) (isTx z y)
 |_,_,.nil,y,h=>by simp at h
 |_,_,.cons x u r,y,h=>by
  rcases zR.mp h with rfl|h
  .exact EqAt.str_str x u z t
  .exact isTx_eq z t r y h
theorem idx_ne {z:Str}:∀{ss:List Str} {j:Nat} (h:j < ss.length),j < ss.idxOf z->ss[j]≠z
 | [],j,h,_=>absurd h (cL j)
 |x :: ss,0,_,hj=>fun e=>by
  have e:x=z:=e
  rw [List.idxOf_cons,e] at hj
  simp at hj
 |x :: ss,j+1,h,hj=>by
  rw [List.idxOf_cons] at hj
  cases c:(x==z) with
  |true=>rw [c] at hj;simp at hj
  |false=>
   rw [c] at hj
   exact idx_ne (xV h) (by simpa using hj)
section
variable {X: Cx}
noncomputable def rIdxS (K:uR):V->List V->Hp->VK->Prop:=fun x xs H Q=>∃(l:Addr) (ss:List Str) (z:Str),x=.ref l/\xs=[.str z]/\SqL K H l (ss.map V.str)/\z∈ss/\Q (.int ((ss.idxOf z:Nat):Int)) H
theorem qf2:MtR X "list.index" (rIdxS X.K):=by
 intro pins s σ H x xs v us Q I rx rv h
 obtain⟨l,ss,z,rfl,rfl,hS,hz,q⟩:=h
 cases rx
 obtain⟨u,rfl,ru⟩:=rv.one
 obtain⟨t,rfl⟩:=ru
 obtain⟨its,r1,pl,hz'⟩:=I.list hS
 have sa:=qfw r1
 have hlen:=r1.length
 rw [zB] at hlen
 obtain⟨⟨cls,dd,data,sl⟩,ho,hc,n,hd⟩:=id pl.isList
 simp only at hc hd
 subst hc hd
 have hj:ss.idxOf z < ss.length:=List.idxOf_lt_length_iff.mpr hz
 have hz2:ss.length<=16777216:=by rw [zB] at hz';exact hz'
 refine call_meets wQ ⟨_,ho,rfl⟩ PySem.F.entry_list_index (PySem.F.args_list_index_2 _ _)
  (list_indexAt l its.toArray n dd sl (.str z t) (isTx z) (ss.idxOf z) (by simp;omega) (by omega) ?_ ?_) ⟨ho,fun y hy=>isTx_eq z t sa y (by simpa using hy),.int ((ss.idxOf z:Nat):Int),H,I.tok _,⟨_,rfl⟩,q⟩
 .show isTx z its[ss.idxOf z]=true
  rw [isTx_at z sa _ (by omega) hj]
  simpa using List.getElem_idxOf hj
 .intro j hjs hlt
  show isTx z its[j]=false
  rw [isTx_at z sa j (by simpa using hjs) (by omega)]
  exact beq_false_of_ne (idx_ne _ hlt)
end
section
variable {K: uR} {H: Hp} {Q: VK}
theorem r_idxS {l:Addr} {ss:List Str} {j:Nat} (h:SqL K H l (ss.map V.str)) (nd:ss.Nodup) (hj:j < ss.length) (q:Q (.int (j:Int)) H):rIdxS K (.ref l) [.str ss[j]] H Q:=⟨l,ss,ss[j],rfl,rfl,h,zM hj,by
 have e:ss.idxOf ss[j]=j:=List.Nodup.idxOf_getElem nd j hj
 rw [e];exact q⟩
end
end My
namespace My
open PySem PySem.Spec PyProof.Rows L2
section
variable {K: uR} {H: Hp} {Q: VK}
theorem r_menuV {p:Addr} {xs:List V} {r:Int} (hS:SqL K H p xs) (h0:0<=r) (h1:r < xs.length) (h:∀m,m∈xs->Q m H):rIxL K (.ref p) (.int r) H Q:=by
 obtain⟨j,rfl⟩:=wK h0
 have hj:j < xs.length:=by omega
 exact qb3 hS (qax (zA hj)) (h _ (zM hj))
end
end My
namespace My
open PySem PySem.Spec PyProof.Rows L2 PyProof PySem.SeqAt
end My
namespace My
open PySem PySem.Spec PyProof.Rows L2
section
variable {K: uR} {H: Hp} {p: Addr} {n: Int} {xs: List V}
theorem qgf {n:Nat} {a b:Addr} (ha:SqL K H a xs) (hb:SqL K H b []) (ne:a≠b):DEq K H (n+1) (.ref a) (.ref b) (decide (xs=[])):=by
 cases xs with
 |nil=>
  have z:=DEq.ls (n:=n) (e:=fun _=>true) ha hb ne rfl (fun j h1 h2=>absurd h1 (cL j))
  exact z
 |cons p r=>exact DEq.lsN ha hb ne (by simp)
end
noncomputable def rAny (K:uR):List V->Hp->VK->Prop:=fun xs H Q=>∃(p:Addr) (bs:List Bool),xs=[.ref p]/\SqL K H p (bs.map V.bl)/\Q (.bl (bs.any id)) H
theorem any_range (bs:List Bool):((vG bs.length).any fun i=>(bs[i]?).getD true)=bs.any id:=by
 rw [xY,yY,yY]
 constructor
 .rintro⟨i,hi,h⟩
  have hi':=xB.mp hi
  rw [zA hi'] at h
  exact⟨_,zM hi',h⟩
 .rintro⟨b,hb,h⟩
  obtain⟨i,hi,e⟩:=zO.mp hb
  exact⟨i,xB.mpr hi,by rw [zA hi,e];exact h⟩
section
variable {X: Cx}
theorem call_anyB (hc:X.calm=true):qc9 X (.builtin "any") (rAny X.K):=by
 intro pins s σ H xs us Q I hv h
 obtain⟨p,bs,rfl,hS,q⟩:=h
 obtain⟨u,rfl,ru⟩:=hv.one
 cases ru
 obtain⟨its,rv,pl,hz⟩:=I.list hS
 have hl:=pl.isList
 have hlt:p < s.heap.objs.size:=by obtain⟨_,e,_⟩:=hl;exact uN e
 have hlen:=rv.length
 rw [zB] at hlen
 refine call_any_walk (bI hl ?_)
 refine⟨s.heap.objs.size, [s.heap.objs.size,p], [s.heap.objs.size],its.toArray.size,_,_,fun i=>(bs[i]?).getD true,rfl,Walks.list (A:=X.A.in1) (I.ok.hd hc) _ p (vD hlt) its.toArray,⟨⟨_,uQ _ rfl,rfl,rfl⟩,hl.push _⟩,fun i v s' Q' E' hP hQ=>?_,fun h' tk hk=>?_⟩
 .have hi:its[i]?=some v:=by simpa using hP
  have hb:i < bs.length:=by rw [hlen];exact(uH.mp hi).1
  have hx:(bs.map V.bl)[i]?=some (.bl bs[i]):=by rw [zC,zA hb];rfl
  obtain⟨u,e,r⟩:=rv.get hx
  rw [hi] at e
  cases e
  cases r
  dsimp only at hQ
  rw [zA hb] at hQ
  exact wF hQ
 .have e:((vG its.toArray.size).any fun i=>(bs[i]?).getD true)=bs.any id:=by
   rw [zU,<-hlen];exact any_range bs
  rw [e]
  exact⟨.bl _,H,I.kept (t':=tk) (fun b o eb=>hk b o (fun hm=>by have z:=uN eb;rw [zH.mp hm] at z;exact wD _ z) (uF _ eb)),rfl,q⟩
end
noncomputable def ItVT (a:Addr) (o:Obj) (kvs:List (List Key × V)):It:=
 ⟨fun i H=>H a=some (.frz o (.dT kvs))/\i < kvs.length,fun i H v H'=>H'=H/\∃k,kvs[i]?=some (k,v),fun i H=>H a=some (.frz o (.dT kvs))/\kvs.length<=i⟩
theorem turn_vT {P:vB} {w:vL} {K:uR} {tg:vU} {o:Obj} {kvs:List (List Key × V)} {es:Array fB} {ep:Nat} (d it:Addr) (hd:o.data=.dict es ep):Turn P w K tg (ItVT d o kvs) [it] it (fun i h=>h.IsValIter it d i kvs.length ep) where
 mem:=by simp
 obj:=fun i h st b hb=>by
  have e:b=it:=by simpa using hb
  subst e
  obtain⟨ob,e,c,dd⟩:=st
  exact⟨ob,e,fun v z=>by rw [dd] at z;cases z⟩
 keep:=fun i h h' st k=>st.at fun ob e=>k it (by simp) ob e
 item:=by
  intro X hP hw hK hc i pins s σ H E I hf st hg
  subst hP hw hK
  obtain⟨hfz,hi⟩:=hg
  obtain⟨ho,okd⟩:=I.hok d _ hfz
  obtain⟨o',es',ep',ho',hx,hd',hsz,hsy,get⟩:=entT okd
  rw [ho] at ho'
  cases ho'
  rw [hd] at hd'
  cases hd'
  obtain⟨f0,f1,f2,f3,f4,f5⟩:=hf it (by simp)
  obtain⟨b,_,_,ru⟩:=get i (by omega) kvs[i].1 kvs[i].2 (by rw [zA hi])
  rw [<-hsz] at st
  refine rawVal st ho hd (by omega) fun h' st' hs'=>?_
  have I1:Inv X pins σ H {s with heap:=h'}:=I.turned (t':=s.toks) (fun b ob hb e=>hs'.extBut b ob hb e) f0 f1 f3 f4 f5
  obtain⟨ob,e,c,dd⟩:=id st'
  exact⟨_,rfl,go_of (s:={s with heap:=h'}) e c dd (by decide) ⟨kvs[i].2,H,I1,ru,⟨rfl,kvs[i].1,zA hi⟩,by rw [<-hsz];exact st',fun b hb=>(hf b hb).1⟩⟩
 done:=by
  intro X hP hw hK hc i pins s σ H E I hf st hg
  subst hP hw hK
  obtain⟨hfz,hi⟩:=hg
  obtain⟨ho,okd⟩:=I.hok d _ hfz
  obtain⟨o',es',ep',ho',hx,hd',hsz,hsy,get⟩:=entT okd
  rw [ho] at ho'
  cases ho'
  rw [hd] at hd'
  cases hd'
  obtain⟨f0,f1,f2,f3,f4,f5⟩:=hf it (by simp)
  rw [<-hsz] at st
  exact rawValEnd (I.ok.hd hc) st ho hd (by omega) fun h' eb=>⟨rfl,I.turned (t':=s.toks) (fun b ob hb e=>eb b ob hb e) f0 f1 f3 f4 f5⟩
 self:=fun _ _ _ _ _ st h=>wpAny_pyIter_valiter st h
noncomputable def rItVT (x:V) (H:Hp) (R:It->Hp->Prop):Prop:=∃v a kvs,x=.ref v/\H v=some (ValO v a)/\H a=some (.dT kvs)/\∀o,R (ItVT a o kvs) (upd H a (.frz o (.dT kvs)))
noncomputable def iValsT (td:TE):TI:=fun σ H R=>td σ H fun x H1=>rItVT x H1 R
theorem pi_valsT {X:Cx} {tg l:vU} {tl:TE} (hl:PE X l tl):PI X tg l (iValsT tl):=by
 intro pins s σ H R I h
 refine thn (hl pins s σ H _ I h) fun v s1 ⟨x,H1,I1,r1,q1⟩=>?_
 obtain⟨v,a,kvs,e,hv,ea,q⟩:=q1
 subst e
 cases r1
 obtain⟨o,es,ep,ho,hx,hd,hsz,hsy,get⟩:=entT (I1.hok a _ ea)
 obtain⟨hv1,_⟩:=I1.hok v _ hv
 refine rawViewIter hv1 ho hd ?_
 have I2:=Inv.freezeT I1 ea ho
 refine⟨s1.heap.objs.size, [s1.heap.objs.size],_,_,_,rfl,I2.kept (t':=s1.toks) fun b ob e=>uF _ e,turn_vT (kvs:=kvs) a _ hd,by rw [<-hsz];exact⟨_,uQ _ rfl,rfl,rfl⟩,fun b hb=>?_,q o⟩
 have e:b=s1.heap.objs.size:=by simpa using hb
 subst e
 exact I2.fpOk (uG _) (I2.hok.fresh (uG _))
section
variable {K: uR} {σ: L2.St} {H: Hp} {tl td ty tv: TE} {a p: Addr} {kvs: List (List Key × V)} {Q: VK} {D: Ends} {rd: V -> V -> Hp -> VK -> Prop}
theorem r_iVT {R:It->Hp->Prop} (h:tl σ H fun x H1=>rItVT x H1 R):iValsT tl σ H R:=h
theorem r_itVT {R:It->Hp->Prop} {v:Addr} (hv:H v=some (ValO v a)) (e:H a=some (.dT kvs)) (h:∀o,R (ItVT a o kvs) (upd H a (.frz o (.dT kvs)))):rItVT (.ref v) H R:=⟨v,a,kvs,rfl,hv,e,h⟩
theorem r_any {bs:List Bool} (e:SqL K H p (bs.map V.bl)) (h:Q (.bl (bs.any id)) H):rAny K [.ref p] H Q:=⟨p,bs,rfl,e,h⟩
noncomputable def kDA (tv:TE) (rd:V->V->Hp->VK->Prop) (D:Ends) (σ:L2.St) (x y:V) (H2:Hp):Prop:=∃a v,x=.ref a/\DGet H2 a y (some v)/\tv σ H2 fun y2 H3=>rd v y2 H3 fun z H4=>∃H5,DPut H4 a y z H5/\D.nx σ H5
theorem r_da (h:td σ H fun x H1=>ty σ H1 fun y H2=>kDA tv rd D σ x y H2):sDAug td ty tv rd D σ H:=h
end
section
variable {X: Cx} {pins: List (Addr × Obj)} {σ: L2.St} {H H': Hp} {s: uD} {a: Addr} {kvs: List (List Key × V)} {o: Obj}
theorem Inv.thawT (I:Inv X pins σ H s) (e:H a=some (.frz o (.dT kvs))) (n0:qgl X.H₀ a):Inv X pins σ (upd H a (.dT kvs)) s:=by
 have ne:∀b,H b=none->b≠a:=fun b q z=>by subst z;rw [e] at q;cases q
 have nk:∀b u,H b=some u->(∀o' u',u≠ .frz o' u')->b≠a:=fun b u q z w=>by subst w;rw [e] at q;cases q;exact z _ _ rfl
 refine⟨I.ok,I.os,I.bare,⟨I.base.keep,I.base.slot,fun b ob q n hx=>?_,I.base.there,fun b xs q=>?_,fun b ob u q=>?_,fun b ps q=>?_⟩,I.loc,I.cell,?_,fun x c q=>?_,fun p hp=>?_,fun b u q=>?_,I.len⟩
 .have z:=I.base.free b ob q n hx
  rw [qa6 (ne b z)];exact z
 .have z:=I.base.tups b xs q
  rw [qa6 (nk b _ z (by intro _ _ h;cases h))];exact z
 .have z:=I.base.frzs b ob u q
  rw [qa6 (fun w=>by subst w;exact n0 _ _ q)];exact z
 .obtain⟨m,z⟩:=I.base.tbls b ps q
  exact⟨m,by rw [qa6 (nk b _ z (by intro _ _ h;cases h))];exact z⟩
 .have z:=I.free
  rw [qa6 (ne _ z)];exact z
 .have z:=I.freeC x c q
  rw [qa6 (ne _ z)];exact z
 .obtain⟨p1,p2,p3⟩:=I.pin p hp
  exact⟨p1,by rw [qa6 (ne _ p2)];exact p2,p3⟩
 .by_cases hb:b=a
  .subst hb
   rw [qa3] at q
   cases q
   exact((I.hok b _ e).2).stay (fun _ _ _ r=>r) (fun c r=>by rw [qa6 (nk c _ r (by intro _ _ h;cases h))];exact r) fun c xs r=>by rw [qa6 (nk c _ r (by intro _ _ h;cases h))];exact r
  .rw [qa6 hb] at q
   exact(I.hok b u q).stay (fun _ _ _ r=>r) (fun c r=>by rw [qa6 (nk c _ r (by intro _ _ h;cases h))];exact r) fun c xs r=>by rw [qa6 (nk c _ r (by intro _ _ h;cases h))];exact r
noncomputable def qgi (H0 H H':Hp):Prop:=H'=H\/∃a o kvs,H a=some (.frz o (.dT kvs))/\qgl H0 a/\H'=upd H a (.dT kvs)
theorem Inv.thawedT (I:Inv X pins σ H s) (t:qgi X.H₀ H H'):Inv X pins σ H' s:=by
 rcases t with rfl|⟨a,o,kvs,e,n,rfl⟩
 .exact I
 .exact Inv.thawT I e n
end
section
variable {X: Cx} {st: Stmt} {e: vU} {t: TS} {te: TE}
noncomputable def thET (H0:Hp) (D:Ends):Ends:={nx:=fun σ H=>∃H',qgi H0 H H'/\D.nx σ H',rt:=fun v H=>∃H',qgi H0 H H'/\D.rt v H',bk:=fun σ H=>∃H',qgi H0 H H'/\D.bk σ H',ct:=fun σ H=>∃H',qgi H0 H H'/\D.ct σ H'}
noncomputable def tThAT (H0:Hp) (t:TS):TS:=fun D σ H=>t (thET H0 D) σ H
theorem ps_thAT (h:PS X st t):PS X st (tThAT X.H₀ t):=fun pins s σ H D I q=>thn (h pins s σ H _ I q) fun f s' hs=>by
 cases f with
 |next=>obtain⟨σ',H1,J,H2,th,q⟩:=hs;exact⟨σ',H2,Inv.thawedT J th,q⟩
 |brk=>obtain⟨σ',H1,J,H2,th,q⟩:=hs;exact⟨σ',H2,Inv.thawedT J th,q⟩
 |cont=>obtain⟨σ',H1,J,H2,th,q⟩:=hs;exact⟨σ',H2,Inv.thawedT J th,q⟩
 |ret u=>obtain⟨v,σ',H1,J,r,H2,th,q⟩:=hs;exact⟨v,σ',H2,Inv.thawedT J th,r,q⟩
noncomputable def tThVT (H0:Hp) (t:TE):TE:=fun σ H Q=>t σ H fun v H1=>∃H',qgi H0 H1 H'/\Q v H'
theorem pe_thVT (h:PE X e te):PE X e (tThVT X.H₀ te):=fun pins s σ H Q I q=>thn (h pins s σ H _ I q) fun u s' ⟨v,H1,J,r,H2,th,q⟩=>⟨v,H2,Inv.thawedT J th,r,q⟩
end
section
variable {σ: L2.St} {H H' H0: Hp} {D: Ends} {t: TS} {te: TE} {Q: VK} {a: Addr} {o: Obj} {kvs: List (List Key × V)} {v: V}
theorem r_thAT (h:t (thET H0 D) σ H):tThAT H0 t D σ H:=h
theorem r_thNxT (th:qgi H0 H H') (h:D.nx σ H'):(thET H0 D).nx σ H:=⟨H',th,h⟩
theorem r_thVT (h:te σ H fun v H1=>∃H',qgi H0 H1 H'/\Q v H'):tThVT H0 te σ H Q:=h
theorem thawT1 (e:H a=some (.frz o (.dT kvs))) (n:qgl H0 a):qgi H0 H (upd H a (.dT kvs)):=.inr ⟨a,o,kvs,e,n,rfl⟩
theorem qg8 (e:H a=some (.dT kvs)):qgl H a:=fun o u z=>by rw [e] at z;cases z
end
noncomputable def tLst0 (K:uR):TE:=fun _ H Q=>∀p,H p=none->(∀a xs,SqL K H a xs->a≠p)->Q (.ref p) (upd H p (.lst []))
theorem pe_lst0 {X:Cx} {pos:Pos}:PE X (.List [] pos) (tLst0 X.K):=by
 intro pins s σ H Q I hq
 refine wpAny_List_spliced (thn (qa2 (X:=X) pos pins s σ H (fun xs H1=>xs=[]/\H1=H) I ⟨rfl,rfl⟩) fun us s1 ⟨xs,H1,I1,r,e1,e2⟩=>?_)
 subst e1 e2
 have hu:=r.zero
 subst hu
 refine⟨by show 0<=_;exact wC _,?_⟩
 have hf:H1 s1.heap.objs.size=none:=I1.hok.fresh (uG _)
 refine⟨.ref s1.heap.objs.size,upd H1 s1.heap.objs.size (.lst []),I1.laid (t':=s1.toks) (fun b u e=>uF _ e) (uG _) ?_,rfl,hq _ hf fun a xs hS=>?_⟩
 .exact⟨wC _, [],0,r,uQ _ rfl⟩
 .obtain⟨its,rv,pl,hz⟩:=I1.list hS
  obtain⟨_,e,_⟩:=pl.isList
  exact vD (uN e)
theorem r_lst0 {K:uR} {σ:L2.St} {H:Hp} {Q:VK} (h:∀p,H p=none->(∀a xs,SqL K H a xs->a≠p)->Q (.ref p) (upd H p (.lst []))):tLst0 K σ H Q:=h
noncomputable def ItE (K:uR) (l:Addr) (xs:List V):It:=
 ⟨fun i H=>SqL K H l xs/\i < xs.length,fun i H v H'=>∃T x,H T=none/\xs[i]?=some x/\v=.ref T/\H'=upd H T (.tup [.int (i:Int),x]),fun i H=>SqL K H l xs/\xs.length<=i⟩
noncomputable def ESt (e it l:Addr) (i:Nat) (h:vR):Prop:=(∃old,IsEnum h e it ((i:Nat):Int) old)/\h.IsListIter it l i
theorem turn_enum {P:vB} {w:vL} {K:uR} {elts:List vU} {kk:Nat} {tp:Pos} {e it l:Addr} (ne:e≠it) (xs:List V):
  Turn P w K (.Tuple elts kk tp) (ItE K l xs) [e,it] e (ESt e it l) where
 mem:=by simp
 obj:=fun i h st b hb=>by
  obtain⟨⟨old,he⟩,o1,e1,_,d1⟩:=st
  simp only [zR,yI,or_false] at hb
  rcases hb with rfl|rfl
  .exact⟨_,he,fun v q=>by have q':Data.fields _=gL v:=q;cases q'⟩
  .exact⟨o1,e1,fun v q=>by rw [d1] at q;cases q⟩
 keep:=fun i h h' st k=>by
  obtain⟨⟨old,he⟩,h1⟩:=st
  exact⟨⟨old,k e (by simp) _ he⟩,h1.at fun o q=>k it (by simp) o q⟩
 item:=by
  intro X hP hw hK hc i pins s σ H E I hf st hg
  subst hP hw hK
  obtain⟨⟨old,he⟩,h1⟩:=st
  obtain⟨q1,g1⟩:=hg
  obtain⟨us,r1,p1,_⟩:=I.list q1
  obtain⟨u1,hu1,ru1⟩:=r1.get (zA g1)
  refine wpAny_pyNext_enum_item he h1 (PlainL.isList p1) (x:=u1) (by simpa using hu1) ne fun h' b1 b3 b5 b6 hk=>?_
  have hn:H s.heap.objs.size=none:=I.hok.fresh (uG _)
  have lt:∀{b:Addr} {o:Obj},s.heap.get? b=some o->b≠s.heap.objs.size:=fun e=>vD (uN e)
  have nz:e≠s.heap.objs.size:=lt he
  have hg0:s.heap.get? s.heap.objs.size=none:=aH (uG _)
  have I1:Inv X pins σ (upd H s.heap.objs.size (.tup [.int (i:Int),xs[i]])) {s with heap:=h',toks:=s.toks+1}:=Inv.turnedT (t':=s.toks+1) (ch:=[e,it]) I
   (fun b hb=>hf b hb)
   (fun b o hb q=>hk b o (fun z=>hb (by simp [z])) (fun z=>hb (by simp [z])) q) hg0 hn
   ⟨by show 2<=16777216;decide, [.int (i:Int) s.toks,u1],.cons ⟨_,rfl⟩ (.cons ru1 .nil),⟨_,b5,rfl,_,rfl⟩⟩
  refine⟨.ref s.heap.objs.size,rfl,wpAny_letOwnedTupleGo_enum (s:={s with heap:=h',toks:=s.toks+1}) b1 fun h2' c1 hs2=>?_⟩
  have hfz:=hf e (by simp)
  have I2:Inv X pins σ (upd H s.heap.objs.size (.tup [.int (i:Int),xs[i]])) {s with heap:=h2',toks:=s.toks+1}:=I1.turned (t':=s.toks+1) (fun b o hb q=>(hs2.2 b hb).trans q) (by rw [qa6 nz];exact hfz.1) hfz.2.1 hfz.2.2.2.1 hfz.2.2.2.2.1 hfz.2.2.2.2.2
  refine⟨.ref s.heap.objs.size,_,I2,rfl,⟨s.heap.objs.size,xs[i],hn,zA g1,rfl,rfl⟩,
   ⟨⟨u1,by rw [show (((i+1:Nat)):Int)=(i:Int)+1 by omega];exact c1⟩,b3.extBut hs2.extBut ne.symm⟩,fun b hb=>?_⟩
  have q:b≠s.heap.objs.size:=by
   simp only [zR,yI,or_false] at hb
   obtain⟨o1,e1,_⟩:=h1
   rcases hb with rfl|rfl
   .exact nz
   .exact lt e1
  rw [qa6 q]
  exact(hf b hb).1
 done:=by
  intro X hP hw hK hc i pins s σ H E I hf st hg
  subst hP hw hK
  obtain⟨⟨old,he⟩,h1⟩:=st
  obtain⟨q1,g⟩:=hg
  obtain⟨us,r1,p1,_⟩:=I.list q1
  have l1:=r1.length
  exact wpAny_pyNext_enum_end (I.ok.hd hc) he h1 (PlainL.isList p1) (by simp;omega) fun h' hk=>
   ⟨rfl,Inv.turnedL (t':=s.toks) (ch:=[e,it]) I (fun b hb=>hf b hb)
    fun b o hb q=>hk b o (fun z=>hb (by simp [z])) q⟩
 self:=fun _ _ _ _ _ st h=>wpAny_pyIter_enum st.1.choose_spec h
noncomputable def rItE (K:uR) (vs:List V) (H:Hp) (R:It->Hp->Prop):Prop:=∃l xs,vs=[.ref l]/\SqL K H l xs/\R (ItE K l xs) H
noncomputable def iEnum (K:uR) (ta:TA):TI:=fun σ H R=>ta σ H fun vs H1=>rItE K vs H1 R
theorem boot_enum:aQ "enumerate" =some (.type "enumerate"):=by decide+kernel
theorem pi_enum {X:Cx} {elts:List vU} {kk:Nat} {tp:Pos} {a:vU} {ta:TA} {p pos:Pos} (hg:Gl X "enumerate") (hm:X.mg "enumerate" =none) (ha:PA X [a] ta) (hs:vC [a] X.env=[(false,wH a X.env)]:=by rfl):
  PI X (.Tuple elts kk tp) (.Call (.Name "enumerate" p) [a] [] pos) (iEnum X.K ta):=by
 intro pins s σ H R I h
 refine Call_ (qf5 I hg hm boot_enum (wS (thn (ha pos pins s σ H _ I h) fun us s1 ⟨vs,H1,I1,r1,q1⟩=>?_) (by rw [hs];rfl) (by rfl)))
 obtain⟨l,xs,rfl,g1,q⟩:=q1
 cases r1 with
 |cons r rr=>
  cases rr
  cases r
  obtain⟨us,v1,p1,_⟩:=I1.list g1
  have t1:=PlainL.isList p1
  refine call_enumerate_list t1 fun h' he hit hsz hk=>?_
  have I2:Inv X pins σ H1 {s1 with heap:=h'}:=I1.kept (t':=s1.toks) fun b o e=>hk b o e
  refine wpAny_pyIter_enum (s:={s1 with heap:=h'}) he ?_
  refine⟨s1.heap.objs.size+1,_,_,_,H1,rfl,I2,turn_enum (Nat.succ_ne_self _) xs,⟨⟨_,he⟩,hit⟩,fun b hb=>?_,q⟩
  have le:s1.heap.objs.size<=b:=by
   simp only [zR,yI,or_false] at hb
   rcases hb with rfl|rfl <;> omega
  exact I1.fpOk le (I1.hok.fresh le)
section
variable {K: uR} {σ: L2.St} {H: Hp} {D: Ends} {g: TG} {tb: TS} {ta: TA} {l: Addr} {xs: List V}
theorem r_iE {R:It->Hp->Prop} (h:ta σ H fun vs H1=>rItE K vs H1 R):iEnum K ta σ H R:=h
theorem r_itE {R:It->Hp->Prop} (e1:SqL K H l xs) (h:R (ItE K l xs) H):rItE K [.ref l] H R:=⟨l,xs,rfl,e1,h⟩
theorem f_enum (Pv:Nat->L2.St->Hp->Prop) (h0:Pv 0 σ H) (hl:∀i σ H,Pv i σ H->SqL K H l xs)
  (hs:∀i x T σ H,xs[i]?=some x->Pv i σ H->H T=none->g (.ref T) σ (upd H T (.tup [.int (i:Int),x])) fun σ2 H2=>tb {nx:=Pv (i+1),rt:=D.rt,bk:=D.nx,ct:=Pv (i+1)} σ2 H2) (hd:∀σ H,Pv xs.length σ H->D.nx σ H):FOR (ItE K l xs) g tb D σ H:=by
 refine⟨fun i m σ H=>m=xs.length - i/\i<=xs.length/\Pv i σ H,⟨xs.length,rfl,wC _,h0⟩,?_⟩
 rintro i m σ H ⟨rfl,hi,p⟩
 have q1:=hl i σ H p
 by_cases hlt:i < xs.length
 .refine .inr ⟨⟨q1,hlt⟩,Pv (i+1),fun σ' H' p'=>⟨xs.length - (i+1),by omega,rfl,hlt,p'⟩,fun v H' e=>?_⟩
  obtain⟨T,x,hT,hx,rfl,rfl⟩:=e
  exact hs i x T σ H hx p hT
 .have e:i=xs.length:=by omega
  subst e
  exact .inl ⟨⟨q1,uG _⟩,hd σ H p⟩
end
end My
set_option maxHeartbeats 4000000
set_option exponentiation.threshold 1000
namespace Our
open PySem L2 My
noncomputable def top (i:Nat):uL:=PySem.Challenge.pw_quotatree_k47_whole_claims.main.body.getD i (.Pass ⟨0,0,0,0⟩)
noncomputable def qd5:uL->Nat->uL
 | .ClassDef _ _ _ body _ _ _ _ _ _ _,j=>body.getD j (.Pass ⟨0,0,0,0⟩)
 |s,_=>s
abbrev s_is_whole:uL:=top 15
abbrev s_is_name:uL:=top 16
abbrev s_is_whole_from:uL:=top 17
abbrev s_is_amount:uL:=top 19
abbrev s_amounts_of:uL:=top 20
abbrev s_above_nought:uL:=top 21
abbrev s_amount_of:uL:=top 22
abbrev s_added:uL:=top 23
abbrev s_beyond:uL:=top 24
abbrev s_total_of:uL:=top 25
abbrev s_holds_beneath:uL:=top 29
abbrev s_held_by:uL:=top 30
abbrev s_taking:uL:=top 32
abbrev s_used:uL:=top 33
abbrev s_fixed:uL:=top 34
abbrev s_rooms_left:uL:=top 35
abbrev s_first_lack:uL:=top 36
abbrev s_reason:uL:=top 37
abbrev s_parts_at:uL:=top 39
abbrev s_first_beyond:uL:=top 40
abbrev s_claims:uL:=top 41
abbrev s_are_wares:uL:=top 48
abbrev s_check_name:uL:=top 49
abbrev s_read_house:uL:=top 50
abbrev s_check_promises:uL:=top 51
abbrev s_cell:uL:=top 54
abbrev s_mix:uL:=top 55
abbrev s_name:uL:=top 56
abbrev s_lines:uL:=top 57
abbrev s_parts:uL:=top 58
abbrev s_rows:uL:=top 59
abbrev s_ends:uL:=top 60
abbrev s_sum:uL:=top 61
abbrev s_caps:uL:=top 62
abbrev s_world:uL:=top 63
abbrev s_told:uL:=top 64
abbrev s_promises:uL:=top 65
abbrev s_tree:uL:=top 66
abbrev s_objects:uL:=top 67
abbrev s_short:uL:=top 68
abbrev s_asked:uL:=top 69
abbrev s_whole:uL:=top 70
abbrev s_row_good:uL:=top 71
abbrev s_list_good:uL:=top 72
abbrev s_paper_good:uL:=top 73
abbrev s_had_to_go:uL:=top 74
abbrev s_other_way:uL:=top 75
abbrev s_beside:uL:=top 76
abbrev s_law:uL:=top 77
abbrev s_House_init:uL:=qd5 (top 47) 0
abbrev s_Tree_init:uL:=qd5 (top 52) 0
abbrev s_Tree_found:uL:=qd5 (top 52) 1
abbrev s_Tree_wares:uL:=qd5 (top 52) 2
abbrev s_Tree_names:uL:=qd5 (top 52) 3
abbrev s_Tree_has:uL:=qd5 (top 52) 4
abbrev s_Tree_check_house:uL:=qd5 (top 52) 5
abbrev s_Tree_house_of:uL:=qd5 (top 52) 6
abbrev s_Tree_elder_of:uL:=qd5 (top 52) 7
abbrev s_Tree_cap_of:uL:=qd5 (top 52) 9
abbrev s_Tree_kids:uL:=qd5 (top 52) 11
abbrev s_Tree_line:uL:=qd5 (top 52) 12
abbrev s_Tree_beneath:uL:=qd5 (top 52) 13
abbrev s_Tree_promised_beneath:uL:=qd5 (top 52) 14
abbrev s_Tree_check_more:uL:=qd5 (top 52) 16
abbrev s_Hold_init:uL:=qd5 (top 27) 0
abbrev s_Hold_may_end:uL:=qd5 (top 27) 2
abbrev s_Loan_may_end:uL:=qd5 (top 28) 1
abbrev s_i_NoPromise:uL:=qd5 (top 11) 0
set_option genSizeOf false in
set_option genInjectivity false in
structure Ad where
 w6x:Addr
 w60:uM
 w84:Addr
 w6q:uM
 w39:Addr
 w2i:uM
 w5y:Addr
 w56:uM
 w4w:Addr
 w4h:uM
 w3p:Addr
 w3h:uM
 w62:Addr
 w5j:uM
 wc4:Addr
 wab:uM
 wa8:Addr
 w8o:uM
 w6s:Addr
 w5v:uM
 w3i:Addr
 w2j:uM
 w8n:Addr
 w6o:uM
 wa0:Addr
 w8c:uM
 weu:Addr
 wc9:uM
 wd7:Addr
 wa3:uM
 w5f:Addr
 w45:uM
 w5e:Addr
 w4b:uM
 wa1:Addr
 w7x:uM
 w71:Addr
 w69:uM
 w3u:Addr
 w2z:uM
 wa2:Addr
 w8e:uM
 w66:Addr
 w4y:uM
 w5d:Addr
 w43:uM
 w4u:Addr
 w48:uM
 w2p:Addr
 w29:uM
 wet:Addr
 wd3:uM
 wgu:Addr
 wf1:uM
 wez:Addr
 wbv:uM
 wc6:Addr
 w9w:uM
 wcs:Addr
 wah:uM
 wel:Addr
 wbw:uM
 weq:Addr
 wd2:uM
 whd:Addr
 wfg:uM
 weo:Addr
 wce:uM
 wbu:Addr
 wa5:uM
 wen:Addr
 wci:uM
 w6y:Addr
 w65:uM
 wea:Addr
 wbz:uM
 w8m:Addr
 w6t:uM
 wcv:Addr
 w9u:uM
 wcr:Addr
 w9l:uM
 wbx:Addr
 wad:uM
 w70:Addr
 w61:uM
 w64:Addr
 w52:uM
 w4x:Addr
 w46:uM
 w5x:Addr
 w4v:uM
 w6a:Addr
 w5i:uM
 wae:Addr
 w86:uM
 wd5:Addr
 waw:uM
 w5k:Addr
 w4j:uM
 w5s:Addr
 w3n:uM
 wd1:Addr
 w0s:uC
 w4s:Addr
 w2u:uM
 wbh:Addr
 w0j:uC
 w73:Addr
 w6g:uM
 w7i:Addr
 w6i:uM
 w6p:Addr
 w5r:uM
 w23:Addr
 w1p:uM
 w31:Addr
 w2o:uM
 w3f:Addr
 w2k:uM
 w4n:Addr
 w3q:uM
 w5w:Addr
 w5b:uM
 w63:Addr
 w53:uM
 w0z:Addr
 w0o:uM
 w0v:Addr
 w0p:uM
 w28:Addr
 w24:uM
 w4m:Addr
 w5h:uM
 w3t:Addr
 w3c:uM
 w3v:Addr
 w3a:uM
 w4k:Addr
 w3r:uM
 w05:Addr
 w00:Addr
 w0u:Addr
 w0n:Addr
 w4f:Addr
 w5l:Addr
 w6w:Addr
 w0e:Addr
 w1o:Addr
 w5m:Addr
 w2x:Addr
 w2y:Addr
 w3z:Addr
 w3x:Addr
 w42:uC
 w0y:uC
 w1t:uC
 w1f:uC
 w0x:uC
 w0f:uC
structure Tx (K:uR) (mg:Str->Option uC) (d:Ad):Prop where
 w9j:Fun K "is_whole" "is_whole" s_is_whole d.w6x d.w60
 we3:mg "is_whole" =some (.ref d.w6x)
 wdt:qap K d.w60 ["thing"] []
 w8k:Fun K "is_name" "is_name" s_is_name d.w84 d.w6q
 wb1:mg "is_name" =some (.ref d.w84)
 wbr:qap K d.w6q ["thing"] []
 w37:Fun K "is_whole_from" "is_whole_from" s_is_whole_from d.w39 d.w2i
 w54:mg "is_whole_from" =some (.ref d.w39)
 w5g:qap K d.w2i ["thing","least","most"] []
 w85:Fun K "is_amount" "is_amount" s_is_amount d.w5y d.w56
 wco:mg "is_amount" =some (.ref d.w5y)
 wct:qap K d.w56 ["thing"] []
 w51:Fun K "amounts_of" "amounts_of" s_amounts_of d.w4w d.w4h
 w7e:mg "amounts_of" =some (.ref d.w4w)
 w77:qap K d.w4h ["handed","wares"] []
 w5n:Fun K "above_nought" "above_nought" s_above_nought d.w3p d.w3h
 w96:mg "above_nought" =some (.ref d.w3p)
 w93:qap K d.w3h ["amounts"] []
 w1q:Fun K "amount_of" "amount_of" s_amount_of d.w62 d.w5j
 w2b:mg "amount_of" =some (.ref d.w62)
 w27:qap K d.w5j ["amounts","ware"] []
 wd4:Fun K "added" "added" s_added d.wc4 d.wab
 wei:mg "added" =some (.ref d.wc4)
 wf0:qap K d.wab ["one","other"] []
 wdj:Fun K "beyond" "beyond" s_beyond d.wa8 d.w8o
 wfz:mg "beyond" =some (.ref d.wa8)
 wfi:qap K d.w8o ["one","other"] []
 w6n:Fun K "total_of" "total_of" s_total_of d.w6s d.w5v
 w9k:mg "total_of" =some (.ref d.w6s)
 w98:qap K d.w5v ["many"] []
 w25:Fun K "holds_beneath" "holds_beneath" s_holds_beneath d.w3i d.w2j
 w35:mg "holds_beneath" =some (.ref d.w3i)
 w36:qap K d.w2j ["tree","holds","house"] []
 w8l:Fun K "held_by" "held_by" s_held_by d.w8n d.w6o
 wav:mg "held_by" =some (.ref d.w8n)
 wap:qap K d.w6o ["holds"] []
 wd9:Fun K "taking" "taking" s_taking d.wa0 d.w8c
 wg3:mg "taking" =some (.ref d.wa0)
 wg2:qap K d.w8c ["tree","holds","house","ware"] []
 wgh:Fun K "used" "used" s_used d.weu d.wc9
 whh:mg "used" =some (.ref d.weu)
 whm:qap K d.wc9 ["tree","holds","house"] []
 wch:Fun K "fixed" "fixed" s_fixed d.wd7 d.wa3
 we7:mg "fixed" =some (.ref d.wd7)
 we5:qap K d.wa3 ["holds","rank","sure"] []
 w57:Fun K "rooms_left" "rooms_left" s_rooms_left d.w5f d.w45
 w7j:mg "rooms_left" =some (.ref d.w5f)
 w7g:qap K d.w45 ["tree","holds","line","amounts"] []
 w7b:Fun K "first_lack" "first_lack" s_first_lack d.w5e d.w4b
 wb0:mg "first_lack" =some (.ref d.w5e)
 waz:qap K d.w4b ["tree","holds","line","amounts"] []
 wd8:Fun K "reason" "reason" s_reason d.wa1 d.w7x
 wg4:mg "reason" =some (.ref d.wa1)
 wg0:qap K d.w7x ["tree","holds","house","amounts","rank","sure"] []
 w99:Fun K "parts_at" "parts_at" s_parts_at d.w71 d.w69
 we2:mg "parts_at" =some (.ref d.w71)
 we1:qap K d.w69 ["tree","hold","places"] []
 w5p:Fun K "first_beyond" "first_beyond" s_first_beyond d.w3u d.w2z
 w90:mg "first_beyond" =some (.ref d.w3u)
 w94:qap K d.w2z ["parts","rooms"] []
 wdc:Fun K "claims" "claims" s_claims d.wa2 d.w8e
 wfk:mg "claims" =some (.ref d.wa2)
 wfn:qap K d.w8e ["tree","holds","house","amounts","rank","sure"] []
 w8p:Fun K "are_wares" "are_wares" s_are_wares d.w66 d.w4y
 wck:mg "are_wares" =some (.ref d.w66)
 wc8:qap K d.w4y ["thing"] []
 w59:Fun K "check_name" "check_name" s_check_name d.w5d d.w43
 w7d:mg "check_name" =some (.ref d.w5d)
 w78:qap K d.w43 ["thing"] []
 w50:Fun K "read_house" "read_house" s_read_house d.w4u d.w48
 w74:mg "read_house" =some (.ref d.w4u)
 w75:qap K d.w48 ["wares","elder","promise","cap","weight"] []
 w1l:Fun K "check_promises" "check_promises" s_check_promises d.w2p d.w29
 w2q:mg "check_promises" =some (.ref d.w2p)
 w2l:qap K d.w29 ["name","promises","cap"] []
 w33:Fun K "_law_cell" "_law_cell" s_cell d.wet d.wd3
 w3k:mg "_law_cell" =some (.ref d.wet)
 w3l:qap K d.wd3 ["_law_script","_law_k"] []
 w2w:Fun K "_law_mix" "_law_mix" s_mix d.wgu d.wf1
 w38:mg "_law_mix" =some (.ref d.wgu)
 w32:qap K d.wf1 ["_law_cell_here","_law_k","_law_many"] []
 wem:Fun K "_law_name" "_law_name" s_name d.wez d.wbv
 wgb:mg "_law_name" =some (.ref d.wez)
 wgf:qap K d.wbv ["_law_script","_law_number"] []
 wew:Fun K "_law_lines" "_law_lines" s_lines d.wc6 d.w9w
 wgm:mg "_law_lines" =some (.ref d.wc6)
 wgw:qap K d.w9w ["_law_script","_law_many"] []
 wcw:Fun K "_law_parts" "_law_parts" s_parts d.wcs d.wah
 wff:mg "_law_parts" =some (.ref d.wcs)
 weh:qap K d.wah ["_law_cell_here","_law_kinds","_law_scale"] []
 wge:Fun K "_law_rows" "_law_rows" s_rows d.wel d.wbw
 whj:mg "_law_rows" =some (.ref d.wel)
 whq:qap K d.wbw ["_law_script","_law_houses","_law_kinds","_law_scale","_law_many"] []
 w8i:Fun K "_law_ends" "_law_ends" s_ends d.weq d.wd2
 w9h:mg "_law_ends" =some (.ref d.weq)
 w9f:qap K d.wd2 ["_law_row","_law_ask"] []
 wdx:Fun K "_law_sum" "_law_sum" s_sum d.whd d.wfg
 wfb:mg "_law_sum" =some (.ref d.whd)
 wf9:qap K d.wfg ["_law_rows_here","_law_lines_here","_law_at","_law_j"] []
 wg6:Fun K "_law_caps" "_law_caps" s_caps d.weo d.wce
 whg:mg "_law_caps" =some (.ref d.weo)
 whi:qap K d.wce ["_law_script","_law_rows_here","_law_lines_here","_law_ask"] []
 weg:Fun K "_law_world" "_law_world" s_world d.wbu d.wa5
 wgs:mg "_law_world" =some (.ref d.wbu)
 whf:qap K d.wa5 ["_law_script","_law_many"] []
 w7c:Fun K "_law_told" "_law_told" s_told d.wen d.wci
 w83:mg "_law_told" =some (.ref d.wen)
 w8r:qap K d.wci ["_law_wares","_law_parts_here"] []
 w9a:Fun K "_law_promises" "_law_promises" s_promises d.w6y d.w65
 wdp:mg "_law_promises" =some (.ref d.w6y)
 wds:qap K d.w65 ["_law_script","_law_lines_here","_law_caps_here"] []
 wga:Fun K "_law_tree" "_law_tree" s_tree d.wea d.wbz
 whl:mg "_law_tree" =some (.ref d.wea)
 whr:qap K d.wbz ["_law_script","_law_world_here"] []
 wba:Fun K "_law_objects" "_law_objects" s_objects d.w8m d.w6t
 wee:mg "_law_objects" =some (.ref d.w8m)
 wep:qap K d.w6t ["_law_world_here"] []
 wek:Fun K "_law_short" "_law_short" s_short d.wcv d.w9u
 wh2:mg "_law_short" =some (.ref d.wcv)
 wgq:qap K d.w9u ["_law_world_here","_law_some"] []
 wf4:Fun K "_law_asked" "_law_asked" s_asked d.wcr d.w9l
 whe:mg "_law_asked" =some (.ref d.wcr)
 wh6:qap K d.w9l ["_law_world_here","_law_tree_here","_law_objects_here"] []
 wby:Fun K "_law_whole" "_law_whole" s_whole d.wbx d.wad
 wfd:mg "_law_whole" =some (.ref d.wbx)
 wf5:qap K d.wad ["_law_found"] []
 w9g:Fun K "_law_row_good" "_law_row_good" s_row_good d.w70 d.w61
 we4:mg "_law_row_good" =some (.ref d.w70)
 wdn:qap K d.w61 ["_law_row"] []
 w88:Fun K "_law_list_good" "_law_list_good" s_list_good d.w64 d.w52
 wcf:mg "_law_list_good" =some (.ref d.w64)
 wc7:qap K d.w52 ["_law_given"] []
 w7h:Fun K "_law_paper_good" "_law_paper_good" s_paper_good d.w4x d.w46
 waq:mg "_law_paper_good" =some (.ref d.w4x)
 wb8:qap K d.w46 ["_law_world_here","_law_paper"] []
 w82:Fun K "_law_had_to_go" "_law_had_to_go" s_had_to_go d.w5x d.w4v
 wc5:mg "_law_had_to_go" =some (.ref d.w5x)
 wcp:qap K d.w4v ["_law_world_here","_law_given","_law_gone"] []
 w7u:Fun K "_law_other_way" "_law_other_way" s_other_way d.w6a d.w5i
 wd6:mg "_law_other_way" =some (.ref d.w6a)
 wc0:qap K d.w5i ["_law_script","_law_world_here"] []
 w7r:Fun K "_law_beside" "_law_beside" s_beside d.wae d.w86
 waa:mg "_law_beside" =some (.ref d.wae)
 w9x:qap K d.w86 ["_law_world_here","_law_gone"] []
 whw:Fun K "law" "law" s_law d.wd5 d.waw
 wi0:mg "law" =some (.ref d.wd5)
 wbi:Fun K "__init__" "House.__init__" s_House_init d.w5k d.w4j
 wb7:qap K d.w4j ["self","elder","promise","cap","weight"] []
 wcz:My.FunD K "__init__" "Tree.__init__" s_Tree_init d.w5s d.w3n d.wd1 #[d.w0s]
 wgn:qap K d.w3n ["self","wares","name","promise","cap","weight"] []
 wbj:qap K d.w3n ["self","wares","name","promise","cap","weight"] [d.w0s]
 wbe:qbi [.int 1] [d.w0s]
 wbb:My.FunD K "found" "Tree.found" s_Tree_found d.w4s d.w2u d.wbh #[d.w0j]
 wgi:qap K d.w2u ["self","name","elder","promise","cap","weight"] []
 wac:qap K d.w2u ["self","name","elder","promise","cap","weight"] [d.w0j]
 waf:qbi [.int 1] [d.w0j]
 wgg:Fun K "wares" "Tree.wares" s_Tree_wares d.w73 d.w6g
 wg5:qap K d.w6g ["self"] []
 wg8:Fun K "names" "Tree.names" s_Tree_names d.w7i d.w6i
 wgd:qap K d.w6i ["self"] []
 wdl:Fun K "has" "Tree.has" s_Tree_has d.w6p d.w5r
 w9i:qap K d.w5r ["self","thing"] []
 w6e:Fun K "check_house" "Tree.check_house" s_Tree_check_house d.w23 d.w1p
 w1v:qap K d.w1p ["self","thing"] []
 w81:Fun K "house_of" "Tree.house_of" s_Tree_house_of d.w31 d.w2o
 w55:qap K d.w2o ["self","name"] []
 w7w:Fun K "elder_of" "Tree.elder_of" s_Tree_elder_of d.w3f d.w2k
 w4t:qap K d.w2k ["self","name"] []
 w9y:Fun K "cap_of" "Tree.cap_of" s_Tree_cap_of d.w4n d.w3q
 w9v:qap K d.w3q ["self","name"] []
 wd0:Fun K "kids" "Tree.kids" s_Tree_kids d.w5w d.w5b
 wca:qap K d.w5b ["self","name"] []
 wcq:Fun K "line" "Tree.line" s_Tree_line d.w63 d.w53
 w4l:qap K d.w53 ["self","name"] []
 w8w:Fun K "beneath" "Tree.beneath" s_Tree_beneath d.w0z d.w0o
 w2d:qap K d.w0o ["self","name"] []
 w44:Fun K "promised_beneath" "Tree.promised_beneath" s_Tree_promised_beneath d.w0v d.w0p
 w47:qap K d.w0p ["self","name"] []
 w6u:Fun K "check_more" "Tree.check_more" s_Tree_check_more d.w28 d.w24
 w6z:qap K d.w24 ["self","names","more"] []
 wcc:Fun K "__init__" "Hold.__init__" s_Hold_init d.w4m d.w5h
 w8d:qap K d.w5h ["self","number","house","amounts","rank","turns"] []
 w91:Fun K "may_end" "Hold.may_end" s_Hold_may_end d.w3t d.w3c
 w5o:qap K d.w3c ["self","rank","sure"] []
 w8z:Fun K "may_end" "Loan.may_end" s_Loan_may_end d.w3v d.w3a
 w5q:qap K d.w3a ["self","rank","sure"] []
 wfm:Fun K "__init__" "NoPromise.__init__" s_i_NoPromise d.w4k d.w3r
 wan:My.XClI K d.w1o d.w4k
 w9o:qap K d.w3r ["self","house","ware"] []
 wgx:mg "House" =some (.ref d.w05)
 whu:mg "Tree" =some (.ref d.w00)
 whs:mg "Hold" =some (.ref d.w0u)
 wht:mg "Loan" =some (.ref d.w0n)
 wgr:mg "TreeError" =some (.ref d.w4f)
 wg1:mg "NoName" =some (.ref d.w5l)
 wgk:mg "Taken" =some (.ref d.w6w)
 wey:mg "NoHouse" =some (.ref d.w0e)
 wcd:mg "NoPromise" =some (.ref d.w1o)
 wde:mg "NoWare" =some (.ref d.w5m)
 w9e:mg "NoAmount" =some (.ref d.w2x)
 we0:mg "NoNumber" =some (.ref d.w2y)
 we6:mg "TooMany" =some (.ref d.w3z)
 wfe:mg "TooDeep" =some (.ref d.w3x)
 web:mg "LETTERS" =some d.w42
 w5a:qbf (.str "abcdefghijklmnopqrstuvwxyz") d.w42
 w92:mg "LONGEST_NAME" =some d.w0y
 w1i:qbf (.int 8) d.w0y
 wbg:mg "MOST_WARES" =some d.w1t
 w2h:qbf (.int 6) d.w1t
 wa7:mg "MOST_HOUSES" =some d.w1f
 w1y:qbf (.int 40) d.w1f
 w8y:mg "LONGEST_LINE" =some d.w0x
 w1h:qbf (.int 12) d.w0x
 w72:mg "GREATEST_WEIGHT" =some d.w0f
 w0r:qbf (.int 1000) d.w0f
 whk:mg "all" =none
 whz:mg "any" =none
 wgj:mg "bool" =none
 w9c:mg "dict" =none
 wcm:mg "enumerate" =none
 wdv:mg "int" =none
 w04:mg "isinstance" =none
 w2t:mg "len" =none
 wdb:mg "list" =none
 wh5:mg "max" =none
 wgo:mg "min" =none
 w34:mg "range" =none
 why:mg "set" =none
 w6b:mg "sorted" =none
 wdq:mg "str" =none
 whv:mg "sum" =none
 wf8:mg "tuple" =none
 whx:mg "zip" =none
 w0q:Meth K d.w0u "may_end" d.w3t
 w0m:Meth K d.w0n "may_end" d.w3v
 w1m:Cls K d.w05
 w01:Cls K d.w00
 w6k:Mk K d.w05 d.w5k
 w8a:Mk K d.w00 d.w5s
 w5u:Cls K d.w0u
 w4r:Cls K d.w0n
 w8q:Mk K d.w0u d.w4m
 w87:Mk K d.w0n d.w4m
 w1w:Meth K d.w00 "found" d.w4s
 w2v:Meth K d.w00 "wares" d.w73
 w2s:Meth K d.w00 "names" d.w7i
 w2c:Meth K d.w00 "has" d.w6p
 w06:Meth K d.w00 "check_house" d.w23
 w0h:Meth K d.w00 "house_of" d.w31
 w0g:Meth K d.w00 "elder_of" d.w3f
 w1j:Meth K d.w00 "cap_of" d.w4n
 w2f:Meth K d.w00 "kids" d.w5w
 w0t:Meth K d.w00 "line" d.w63
 w0c:Meth K d.w00 "beneath" d.w0z
 w07:Meth K d.w00 "promised_beneath" d.w0v
 w0i:Meth K d.w00 "check_more" d.w28
 w0l:vV K (.ref d.w05) "elder" =some none
 w0a:vV K (.ref d.w05) "promise" =some none
 w0k:vV K (.ref d.w05) "cap" =some none
 w1d:vV K (.ref d.w05) "weight" =some none
 w09:vV K (.ref d.w00) "sorted_wares" =some none
 w03:vV K (.ref d.w00) "houses" =some none
 w1k:vV K (.ref d.w0u) "number" =some none
 w22:vV K (.ref d.w0u) "house" =some none
 w1b:vV K (.ref d.w0u) "amounts" =some none
 w2g:vV K (.ref d.w0u) "rank" =some none
 w1u:vV K (.ref d.w0u) "turns" =some none
 w1g:vV K (.ref d.w0n) "number" =some none
 w1x:vV K (.ref d.w0n) "house" =some none
 w1c:vV K (.ref d.w0n) "amounts" =some none
 w1r:vV K (.ref d.w0n) "rank" =some none
 w21:vV K (.ref d.w0n) "turns" =some none
 we9:My.XCls K d.w0e
 w9b:My.XCls K d.w2x
 wda:My.XCls K d.w5m
 wfo:My.XCls K d.w5l
 wdm:My.XCls K d.w2y
 wh1:My.XCls K d.w6w
 wfa:My.XCls K d.w3z
 we8:My.XCls K d.w3x
noncomputable def eV:Option Str->V
 |none=> .non
 |some z=> .str z
structure Ho where
 el:Option Str
 pa:Addr
 kp:List (Key × V)
 fp:Str->Option Int
 ca:Addr
 kc:List (Key × V)
 fc:Str->Option Int
 w:Int
structure He where
 n:Str
 a:Addr
 x:Ho
structure Ts where
 sw:Addr
 ws:List Str
 hs:Addr
 hl:List He
noncomputable def fsH (x:Ho):List (Str × V):=[("elder",eV x.el),("promise",.ref x.pa),("cap",.ref x.ca),("weight",.int x.w)]
noncomputable def HoAt (d:Ad) (H:Hp) (a:Addr) (x:Ho):Prop:=(∃dx,H a=some (.ins d.w05 dx (fsH x)))/\H x.pa=some (.dK x.kp)/\AD x.kp x.fp/\H x.ca=some (.dK x.kc)/\AD x.kc x.fc
theorem HoAt.same {d:Ad} {H H':Hp} {a:Addr} {x:Ho} (h:HoAt d H a x) (s:qar H H'):HoAt d H' a x:=⟨let ⟨dx,e⟩:=h.1;⟨dx,s _ _ e⟩,s _ _ h.2.1,h.2.2.1,s _ _ h.2.2.2.1,h.2.2.2.2⟩
noncomputable def Ts.keys (S:Ts):List (Str × Addr):=S.hl.map fun e=>(e.n,e.a)
noncomputable def Ts.at (S:Ts) (z:Str):Option He:=S.hl.find? fun e=>decide (e.n=z)
noncomputable def fsT (S:Ts):List (Str × V):=[("sorted_wares",.ref S.sw),("houses",.ref S.hs)]
noncomputable def qes (d:Ad) (H:Hp) (t:Addr) (S:Ts):Prop:=(∃dx,H t=some (.ins d.w00 dx (fsT S)))/\H S.sw=some (.lst (S.ws.map V.str))/\H S.hs=some (.dK (oK S.keys))/\(S.hl.map (·.n)).Nodup/\S.hl.length<=60/\∀e∈S.hl,HoAt d H e.a e.x
theorem qes.same {d:Ad} {H H':Hp} {t:Addr} {S:Ts} (h:qes d H t S) (s:qar H H'):qes d H' t S:=
 ⟨let ⟨dx,e⟩:=h.1;⟨dx,s _ _ e⟩,s _ _ h.2.1,s _ _ h.2.2.1,h.2.2.2.1,h.2.2.2.2.1,fun e he=>(h.2.2.2.2.2 e he).same s⟩
theorem qdv (S:Ts) (z:Str):qdj S.keys z=(S.at z).map (·.a):=by
 obtain⟨sw,ws,hs,hl⟩:=S
 unfold Ts.keys Ts.at
 dsimp only
 induction hl with
 |nil=>rfl
 |cons e r ih=>
  rw [zS,yL]
  unfold qdj
  by_cases q:e.n=z
  .rw [gT q,gU q];rfl
  .rw [gS q,gW q];exact ih
theorem qcd {S:Ts} {z:Str} {e:He} (h:S.at z=some e):e∈S.hl/\e.n=z:=⟨aS h,by have:=eE h;simpa using this⟩
noncomputable def NotS (K:uR) (H:Hp) (x:V):Prop:=∃t,TyOf K H x t/\cQ K t (.type "str")=some false
noncomputable def qe8 (K:uR) (H:Hp) (x:V):Prop:=(∃z,x=.str z)\/(NotS K H x/\∀z,x≠ .str z)
noncomputable def who (S:Ts):V->Option He
 | .str z=>S.at z
 |_=>none
theorem qde {S:Ts} {x:V} (h:∀z,x≠ .str z):who S x=none:=by
 cases x <;> first|rfl|(rename_i z;exact absurd rfl (h z))
noncomputable def wbt (K:uR) (d:Ad):Sp:=fun vs H Q _=>∃(t:Addr) (S:Ts) (x:V),vs=[.ref t,x]/\qes d H t S/\qe8 K H x/\Q (.bl (who S x).isSome) H
noncomputable def w68 (K:uR) (d:Ad):Sp:=fun vs H Q E=>∃(t:Addr) (S:Ts) (x:V),vs=[.ref t,x]/\qes d H t S/\qe8 K H x/\(∀e,who S x=some e->Q .non H)/\(who S x=none->E (.ref d.w0e) none H)
noncomputable def w7p (K:uR) (d:Ad):Sp:=fun vs H Q E=>∃(t:Addr) (S:Ts) (x:V),vs=[.ref t,x]/\qes d H t S/\qe8 K H x/\(∀e,who S x=some e->Q (.ref e.a) H)/\(who S x=none->E (.ref d.w0e) none H)
noncomputable def w7q (K:uR) (d:Ad):Sp:=fun vs H Q E=>∃(t:Addr) (S:Ts) (x:V),vs=[.ref t,x]/\qes d H t S/\qe8 K H x/\(∀e,who S x=some e->Q (eV e.x.el) H)/\(who S x=none->E (.ref d.w0e) none H)
noncomputable def w95 (K:uR) (d:Ad):Sp:=fun vs H Q E=>∃(t:Addr) (S:Ts) (x:V),vs=[.ref t,x]/\qes d H t S/\qe8 K H x/\(∀e,who S x=some e->∀p,H p=none->Q (.ref p) (upd H p (.dK e.x.kc)))/\(who S x=none->E (.ref d.w0e) none H)
theorem r_notNs {H:Hp} {Q:VK} {a:Str} (h:Q (.bl true) H):rNotN (.str a) .non H Q:=⟨rfl,h⟩
theorem TyOf.same {K:uR} {H H':Hp} {x:V} {t:uC} (h:TyOf K H x t) (s:qar H H'):TyOf K H' x t:=by
 cases h with
 |non=>exact .non
 |bl b=>exact .bl b
 |int i=>exact .int i
 |str z=>exact .str z
 |flt z=>exact .flt z
 |lst e=>exact .lst (s _ _ e)
 |frz e=>exact .frz (s _ _ e)
 |tup e=>exact .tup (s _ _ e)
 |dK e=>exact .dK (s _ _ e)
 |dT e=>exact .dT (s _ _ e)
 |ins e c a n k m=>exact .ins (s _ _ e) c a n k m
theorem qe8.same {K:uR} {H H':Hp} {x:V} (h:qe8 K H x) (s:qar H H'):qe8 K H' x:=by
 rcases h with h|⟨⟨t,a,b⟩,n⟩
 .exact .inl h
 .exact .inr ⟨⟨t,TyOf.same a s,b⟩,n⟩
inductive LineOf (S:Ts):Str->List Str->Prop
 |top {z:Str} {e:He} (h:S.at z=some e) (n:e.x.el=none):LineOf S z [z]
 |up {z y:Str} {e:He} {zs:List Str} (h:S.at z=some e) (n:e.x.el=some y) (r:LineOf S y zs):LineOf S z (z :: zs)
noncomputable def RestOf (S:Ts):Option Str->List Str->Prop
 |none,zs=>zs=[]
 |some y,zs=>LineOf S y zs
theorem LineOf.open {S:Ts} {z:Str} {zs:List Str} (h:LineOf S z zs):∃e r,S.at z=some e/\zs=z :: r/\RestOf S e.x.el r:=by
 cases h with
 |top h n=>exact⟨_, [],h,rfl,by rw [n];rfl⟩
 |up h n r=>exact⟨_,_,h,rfl,by rw [n];exact r⟩
noncomputable def lenAt (l:Addr) (H:Hp):Nat:=match H l with
 |some (.lst xs)=>xs.length
 |_=>0
theorem lenAt_eq {l:Addr} {H:Hp} {xs:List V} (e:H l=some (.lst xs)):lenAt l H=xs.length:=by unfold lenAt;rw [e]
noncomputable def was (K:uR) (d:Ad):Sp:=fun vs H Q E=>∃(t:Addr) (S:Ts) (x:V),vs=[.ref t,x]/\qes d H t S/\
 ((∃z zs,x=.str z/\LineOf S z zs/\zs.length<=1000/\∀l,H l=none->Q (.ref l) (upd H l (.lst (zs.map V.str))))\/(qe8 K H x/\who S x=none/\∀l,H l=none->E (.ref d.w0e) none (upd H l (.lst [x]))))
noncomputable def qbg (S:Ts) (z:Str):List Str:=(S.hl.filter fun e=>decide (e.x.el=some z)).map (·.n)
noncomputable def wau (K:uR) (d:Ad):Sp:=fun vs H Q E=>∃(t:Addr) (S:Ts) (x:V),vs=[.ref t,x]/\qes d H t S/\qe8 K H x/\(∀e,who S x=some e->∀l ss H',qar H H'->H l=none->H' l=some (.lst (ss.map V.str))->ss.Perm (qbg S e.n)->vF ss=true->Q (.ref l) H')/\(who S x=none->E (.ref d.w0e) none H)
noncomputable def w7a (K:uR) (d:Ad):Sp:=fun vs H Q _=>∃(a:Addr) (kvs:List (Key × V)) (f:Str->Option Int) (z:Str),vs=[.ref a,.str z]/\Rd H a (.dK kvs)/\AD kvs f/\Q (.int (gN f z)) H
noncomputable def w89 (K:uR) (d:Ad):Sp:=fun vs H Q _=>∃(a:Addr) (kvs:List (Key × V)) (f:Str->Option Int),vs=[.ref a]/\H a=some (.dK kvs)/\AD kvs f/\kvs.length<=1000/\
 ∀l k' H',qar H H'->H l=none->H' l=some (.dK k')->AD k' (qcw f)->Q (.ref l) H'
noncomputable def wft (K:uR) (d:Ad):Sp:=fun vs H Q _=>∃(a b:Addr) (ka kb:List (Key × V)) (f g:Str->Option Int),vs=[.ref a,.ref b]/\Rd H a (.dK ka)/\H b=some (.dK kb)/\AD ka f/\AD kb g/\ka.length<=1000/\kb.length<=1000/\
 ∀l k' H',qar H H'->H l=none->H' l=some (.dK k')->AD k' (addF f g)->Q (.ref l) H'
noncomputable def wf7 (K:uR) (d:Ad):Sp:=fun vs H Q _=>∃(a b:Addr) (ka kb:List (Key × V)) (f g:Str->Option Int),vs=[.ref a,.ref b]/\Rd H a (.dK ka)/\Rd H b (.dK kb)/\AD ka f/\AD kb g/\ka.length < 64/\
 (∀H',qar H H'->(∀y,¬viol f g y)->Q .non H')/\∀z H',qar H H'->viol f g z->(∀y,viol f g y->leS z y)->Q (.str z) H'
structure Pt where
 a:Addr
 k:List (Key × V)
 f:Str->Option Int
noncomputable def sumF (ts:List Pt):Str->Option Int:=ts.foldl (fun f t=>addF f t.f) noF
noncomputable def PtOk (H:Hp) (ws:List Str) (t:Pt):Prop:=H t.a=some (.dK t.k)/\AD t.k t.f/\∀z,t.f z≠none->z∈ws
noncomputable def wcu (K:uR) (d:Ad):Sp:=fun vs H Q _=>∃(L:Addr) (ts:List Pt) (ws:List Str),vs=[.ref L]/\SqL K H L (ts.map fun t=> .ref t.a)/\ws.length<=100/\(∀t∈ts,PtOk H ws t)/\
 ∀l k' H',qar H H'->H l=none->H' l=some (.dK k')->AD k' (sumF ts)->Q (.ref l) H'
section
variable {K: uR} {d: Ad} {H: Hp} {Q: VK} {E: XK}
theorem u_amount {a:Addr} {kvs:List (Key × V)} {f:Str->Option Int} {z:Str} (hR:Rd H a (.dK kvs)) (hA:AD kvs f) (q:Q (.int (gN f z)) H):w7a K d [.ref a,.str z] H Q E:=⟨a,kvs,f,z,rfl,hR,hA,q⟩
end
local macro_rules | `(tactic| walk_at "kit") => `(tactic| (with_reducible (first
 |assumption|exact kit_int_int|exact kit_int_bool|exact kit_str_str
 |exact kit_lst_lst|exact kit_tup_tup|exact kit_dct_dct)))
local macro_rules | `(tactic| walk_at "ty") => `(tactic| (first
 |(with_reducible assumption) |(with_reducible exact TyOf.int _) |(with_reducible exact TyOf.bl _) |(with_reducible exact TyOf.str _)
 |(with_reducible exact TyOf.non) |((with_reducible refine' TyOf.tup ?h);(case h=>walk_at "heap")) |((with_reducible refine' TyOf.lst ?h);(case h=>walk_at "heap")) |((with_reducible refine' TyOf.dK ?h);(case h=>walk_at "heap"))))
local macro_rules | `(tactic| walk_at "heap") => `(tactic| first
 |with_reducible assumption|with_reducible exact qa3|((with_reducible refine' qae ?h ?n);(case n=>with_reducible assumption);(case h=>walk_at "heap")))
local macro_rules | `(tactic| walk_at "sqL") => `(tactic| first
 |with_reducible assumption|((with_reducible refine' sqL_new ?h ?n);(case n=>with_reducible assumption);(case h=>walk_at "sqL")) |((with_reducible refine' SqL.of ?h);(case h=>walk_at "heap")))
local macro_rules | `(tactic| walk_at "sqT") => `(tactic| first
 |with_reducible assumption|((with_reducible refine' sqT_new ?h ?n);(case n=>with_reducible assumption);(case h=>walk_at "sqT")) |((with_reducible refine' SqT.of ?h);(case h=>walk_at "heap")))
local macro_rules | `(tactic| walk_at "side") => `(tactic| first
 |assumption|exact rfl|omega|decide
 |(simp only [zZ,xA,zB];omega) |exact⟨by omega,by omega⟩ |exact⟨by decide,by decide⟩ |exact⟨by omega,by assumption⟩
 |exact⟨by assumption,by assumption⟩ |exact⟨by decide,by assumption⟩ |exact⟨by decide,by decide,by decide⟩)
local macro_rules | `(tactic| walk_at "size") => `(tactic| (first
 |assumption|(simp only [zZ,xA,zB,zW];first|decide|(show _<=16777216;omega) |(show _ < 16777216;omega)) |(show _<=16777216;omega) |(show _ < 16777216;omega)))
local macro_rules | `(tactic| walk_at "sp") => `(tactic| fail)
local macro_rules | `(tactic| walk_at "r1") => `(tactic| first
 |(with_reducible refine r_var (by with_unfolding_all exact rfl) ?_) |(with_reducible first|refine r_c ?_|refine r_op ?_|refine r_I0 ?_) |((with_reducible refine r_I ?hc ?_);(case hc=>walk_at "side")) |(with_reducible first|refine r_eqI ?_|refine r_neI ?_|refine r_exb ?_|refine r_test ?_|refine r_tB ?_|refine r_and ?_|refine r_or ?_|refine r_not ?_|refine r_andV ?_|refine r_orV ?_|refine r_notV ?_|refine r_ifE ?_|refine r_next ?_|refine r_seq ?_|refine r_drop ?_|refine r_ret ?_|refine r_if ?_|refine r_asg ?_)
 |(with_reducible refine r_name (by with_unfolding_all (simp only [List.set];exact rfl)) ?_) |(with_reducible first|refine r_gnil ?_|refine r_gcons ?_) |((with_reducible refine' r_gtup ?s ?n ?_);(case s=>walk_at "sqT");(case n=>exact rfl)) |(with_reducible first|refine r_for ?_|refine r_iL ?_|refine r_iR ?_)
 |((with_reducible refine' r_itL ?s ?_);(case s=>walk_at "sqL")) |((with_reducible refine' r_itR ?s ?t ?_);(case s=>walk_at "side");(case t=>walk_at "side")) |(with_reducible first|refine r_nx ?_|refine r_rt ?_|refine r_nil ?_|refine r_cons ?_|refine r_tup ?_|refine r_lst ?_) |((with_reducible refine r_new ?n ?_);(case n=>(simp only [zZ,xA];decide)))
 |((with_reducible refine r_fresh ?_);intro p hp) |(with_reducible first|refine r_call ?_|refine r_callX ?_|refine r_cb ?_|refine r_raise ?_) |((with_reducible refine' r_ixT ?s ?e ?_);(case s=>walk_at "sqT");(case e=>exact rfl)) |(with_reducible first|refine r_comp ?_|refine r_true ?_|refine r_iS ?_|refine r_itS ?_|refine r_inS ?_)
 |((with_reducible refine' r_app ?a ?z ?_);(case a=>walk_at "heap");(case z=>walk_at "size")) |((with_reducible refine' r_catS ?z ?_);(case z=>walk_at "size")) |((with_reducible refine' r_lenS ?z ?_);(case z=>walk_at "size")) |(with_reducible first|refine r_sl ?_|refine r_noPart ?_|refine r_part ?_|refine r_chain ?_)
 |((with_reducible refine' r_lenT ?s ?_);(case s=>walk_at "sqT")) |((with_reducible refine' r_lenL ?s ?_);(case s=>walk_at "sqL")) |(with_reducible first|refine r_isNn ?_|refine r_isNr ?_|refine r_notNn ?_) |((with_reducible refine' r_isi ?t ?k ?_);(case t=>walk_at "ty");(case k=>walk_at "kit"))
 |(with_reducible first|refine i_nT ?_|refine i_nF ?_|refine iteT ?_|refine iteF ?_) |((with_reducible refine i_t ?c ?_);(case c=>walk_at "side")) |((with_reducible refine i_f ?c ?_);(case c=>walk_at "side")) |((with_reducible refine i_nt ?c ?_);(case c=>walk_at "side"))
 |((with_reducible refine i_nf ?c ?_);(case c=>walk_at "side")) |walk_at "sp")
local macro_rules | `(tactic| walk_at "g") => `(tactic| repeat walk_at "r1")
local macro_rules|`(tactic|left)=>`(tactic|walk_at "g")
local macro_rules | `(tactic| walk_at "d") => `(tactic| try dsimp only [L2.cxOf, L2.Cx.nox, L2.Cx.wish, My.xw, pnd, suite])
local macro_rules | `(tactic| walk_at "rd") => `(tactic| first
 |with_reducible assumption|((with_reducible refine' rd_new ?h ?n);(case n=>with_reducible assumption);(case h=>walk_at "rd")) |((with_reducible refine' Rd.of ?h);(case h=>walk_at "heap")))
local macro_rules | `(tactic| walk_at "same") => `(tactic| first
 |with_reducible assumption|exact qar.refl _|((with_reducible refine' qfz ?h ?n);(case n=>with_reducible assumption);(case h=>walk_at "same")))
local macro_rules | `(tactic| walk_at "sp") => `(tactic| first
 |((with_reducible refine r_disp1 ?_);intro p hp) |((with_reducible refine' r_ds ?e ?_);(case e=>walk_at "heap")) |((with_reducible refine' u_amount ?r ?a ?_);(case r=>walk_at "rd");(case a=>with_reducible assumption)) |(with_reducible first|refine r_intB ?_|refine r_neB ?_)
 |((with_reducible refine' qb3 ?s ?e ?_);(case s=>walk_at "sqL");(case e=>exact rfl)) |(with_reducible refine r_dg2 ?_) |((with_reducible refine' r_dg2a ?r ?_);(case r=>walk_at "rd")) |((with_reducible refine' r_dg2b ?r ?a ?_);(case r=>walk_at "rd");(case a=>with_reducible assumption))
 |(with_reducible refine r_dg ?_) |((with_reducible refine' r_dgk ?r ?a ?e ?_);(case r=>walk_at "rd");(case a=>with_reducible assumption);(case e=>with_reducible assumption)) |(with_reducible refine r_dp ?_) |((with_reducible refine' r_dpk ?e ?z ?_);(case e=>walk_at "heap");(case z=>walk_at "size"))
 |((with_reducible refine r_dnew ?_);intro p hp) |(with_reducible first|refine r_thA ?_|refine r_iD ?_) |((with_reducible refine' r_dictCp ?e ?_);(case e=>walk_at "rd");intro p hp) |(with_reducible first|refine r_iZ ?_|refine r_lp ?_|refine r_max ?_|refine r_min ?_|refine r_mtX ?_)
 |((with_reducible refine' r_mtkX ?e ?l ?_);(case e=>walk_at "heap");(case l=>exact rfl)) |(with_reducible refine r_mkX ?_) |((with_reducible refine' r_mtk ?e ?l ?_);(case e=>walk_at "heap");(case l=>exact rfl)) |(with_reducible first|refine r_notNs ?_|refine r_di ?_)
 |((with_reducible refine' r_diO ?r ?_);(case r=>walk_at "rd")) |(with_reducible first|refine r_mk ?_|refine r_mt ?_|refine r_fl ?_|refine r_fs ?_) |((with_reducible refine' r_flk ?e ?c ?n ?l ?_);(case e=>walk_at "heap");(case c=>with_reducible assumption);(case n=>with_reducible assumption);(case l=>exact rfl)) |((with_reducible refine' qg2 ?e ?c ?n ?z ?_);(case e=>walk_at "heap");(case c=>with_reducible assumption);(case n=>with_reducible assumption);(case z=>(show _ < 1000;decide)))
 |(with_reducible first|refine r_bm ?_|refine r_bm0 ?_) |((with_reducible refine' r_tyL ?s ?_);(case s=>walk_at "sqL")) |((with_reducible refine' r_append ?h ?z ?_);(case h=>walk_at "heap");(case z=>walk_at "size")))
theorem wc3:FnScope ["thing"] ["thing"] (qaa s_is_whole):=⟨rfl,rfl,rfl,by decide+kernel,rfl,by decide+kernel,by decide+kernel⟩
theorem wdr:FnScope ["thing"] ["thing"] (qaa s_is_name):=⟨rfl,rfl,rfl,by decide+kernel,rfl,by decide+kernel,by decide+kernel⟩
theorem w7m:FnScope ["thing","least","most"] ["thing","least","most"] (qaa s_is_whole_from):=⟨rfl,rfl,rfl,by decide+kernel,rfl,by decide+kernel,by decide+kernel⟩
theorem wb9:FnScope ["thing"] ["thing"] (qaa s_is_amount):=⟨rfl,rfl,rfl,by decide+kernel,rfl,by decide+kernel,by decide+kernel⟩
theorem w4a:FnScope ["handed","wares","key","ware"] ["handed","wares"] (qaa s_amounts_of):=⟨rfl,rfl,rfl,by decide+kernel,rfl,by decide+kernel,by decide+kernel⟩
theorem w30:FnScope ["amounts","told","ware"] ["amounts"] (qaa s_above_nought):=⟨rfl,rfl,rfl,by decide+kernel,rfl,by decide+kernel,by decide+kernel⟩
theorem wbf:FnScope ["amounts","ware"] ["amounts","ware"] (qaa s_amount_of):=⟨rfl,rfl,rfl,by decide+kernel,rfl,by decide+kernel,by decide+kernel⟩
theorem wak:FnScope ["one","other","told","ware"] ["one","other"] (qaa s_added):=⟨rfl,rfl,rfl,by decide+kernel,rfl,by decide+kernel,by decide+kernel⟩
theorem wao:FnScope ["one","other","ware"] ["one","other"] (qaa s_beyond):=⟨rfl,rfl,rfl,by decide+kernel,rfl,by decide+kernel,by decide+kernel⟩
theorem w4g:FnScope ["many","total","amounts"] ["many"] (qaa s_total_of):=⟨rfl,rfl,rfl,by decide+kernel,rfl,by decide+kernel,by decide+kernel⟩
theorem w2m:FnScope ["tree","holds","house","names"] ["tree","holds","house"] (qaa s_holds_beneath):=⟨rfl,rfl,rfl,by decide+kernel,rfl,by decide+kernel,by decide+kernel⟩
theorem wdu:FnScope ["holds"] ["holds"] (qaa s_held_by):=⟨rfl,rfl,rfl,by decide+kernel,rfl,by decide+kernel,by decide+kernel⟩
theorem wb2:FnScope ["tree","holds","house","ware","there"] ["tree","holds","house","ware"] (qaa s_taking):=⟨rfl,rfl,rfl,by decide+kernel,rfl,by decide+kernel,by decide+kernel⟩
theorem wh3:FnScope ["tree","holds","house"] ["tree","holds","house"] (qaa s_used):=⟨rfl,rfl,rfl,by decide+kernel,rfl,by decide+kernel,by decide+kernel⟩
theorem wfy:FnScope ["holds","rank","sure"] ["holds","rank","sure"] (qaa s_fixed):=⟨rfl,rfl,rfl,by decide+kernel,rfl,by decide+kernel,by decide+kernel⟩
theorem w1e:FnScope ["tree","holds","line","amounts","rooms","at","cap","use","ware"] ["tree","holds","line","amounts"] (qaa s_rooms_left):=⟨rfl,rfl,rfl,by decide+kernel,rfl,by decide+kernel,by decide+kernel⟩
theorem w4c:FnScope ["tree","holds","line","amounts","rooms","place"] ["tree","holds","line","amounts"] (qaa s_first_lack):=⟨rfl,rfl,rfl,by decide+kernel,rfl,by decide+kernel,by decide+kernel⟩
theorem wev:FnScope ["tree","holds","house","amounts","rank","sure"] ["tree","holds","house","amounts","rank","sure"] (qaa s_reason):=⟨rfl,rfl,rfl,by decide+kernel,rfl,by decide+kernel,by decide+kernel⟩
theorem w49:FnScope ["tree","hold","places","line","parts","place"] ["tree","hold","places"] (qaa s_parts_at):=⟨rfl,rfl,rfl,by decide+kernel,rfl,by decide+kernel,by decide+kernel⟩
theorem w5c:FnScope ["parts","rooms","place"] ["parts","rooms"] (qaa s_first_beyond):=⟨rfl,rfl,rfl,by decide+kernel,rfl,by decide+kernel,by decide+kernel⟩
theorem w3g:FnScope ["tree","holds","house","amounts","rank","sure","rooms","given","hold","parts","place","taken"] ["tree","holds","house","amounts","rank","sure"] (qaa s_claims):=⟨rfl,rfl,rfl,by decide+kernel,rfl,by decide+kernel,by decide+kernel⟩
theorem wax:FnScope ["thing"] ["thing"] (qaa s_are_wares):=⟨rfl,rfl,rfl,by decide+kernel,rfl,by decide+kernel,by decide+kernel⟩
theorem w9p:FnScope ["thing"] ["thing"] (qaa s_check_name):=⟨rfl,rfl,rfl,by decide+kernel,rfl,by decide+kernel,by decide+kernel⟩
theorem w4i:FnScope ["wares","elder","promise","cap","weight","own_promise","own_cap"] ["wares","elder","promise","cap","weight"] (qaa s_read_house):=⟨rfl,rfl,rfl,by decide+kernel,rfl,by decide+kernel,by decide+kernel⟩
theorem w41:FnScope ["name","promises","cap","ware"] ["name","promises","cap"] (qaa s_check_promises):=⟨rfl,rfl,rfl,by decide+kernel,rfl,by decide+kernel,by decide+kernel⟩
theorem wh0:FnScope ["_law_script","_law_k"] ["_law_script","_law_k"] (qaa s_cell):=⟨rfl,rfl,rfl,by decide+kernel,rfl,by decide+kernel,by decide+kernel⟩
theorem wgc:FnScope ["_law_cell_here","_law_k","_law_many","_law_number"] ["_law_cell_here","_law_k","_law_many"] (qaa s_mix):=⟨rfl,rfl,rfl,by decide+kernel,rfl,by decide+kernel,by decide+kernel⟩
theorem w2n:FnScope ["_law_script","_law_number","_law_letters","_law_cell_here","_law_size","_law_at","_law_shift","_law_tail","_law_name_here","_law_k"] ["_law_script","_law_number"] (qaa s_name):=⟨rfl,rfl,rfl,by decide+kernel,rfl,by decide+kernel,by decide+kernel⟩
theorem w6f:FnScope ["_law_script","_law_many","_law_lines_here","_law_k","_law_elder"] ["_law_script","_law_many"] (qaa s_lines):=⟨rfl,rfl,rfl,by decide+kernel,rfl,by decide+kernel,by decide+kernel⟩
theorem w7s:FnScope ["_law_cell_here","_law_kinds","_law_scale","_law_parts_here","_law_j","_law_part"] ["_law_cell_here","_law_kinds","_law_scale"] (qaa s_parts):=⟨rfl,rfl,rfl,by decide+kernel,rfl,by decide+kernel,by decide+kernel⟩
theorem w67:FnScope ["_law_script","_law_houses","_law_kinds","_law_scale","_law_many","_law_rows_here","_law_number","_law_k","_law_cell_here","_law_parts_here"] ["_law_script","_law_houses","_law_kinds","_law_scale","_law_many"] (qaa s_rows):=⟨rfl,rfl,rfl,by decide+kernel,rfl,by decide+kernel,by decide+kernel⟩
theorem wgy:FnScope ["_law_row","_law_ask"] ["_law_row","_law_ask"] (qaa s_ends):=⟨rfl,rfl,rfl,by decide+kernel,rfl,by decide+kernel,by decide+kernel⟩
theorem whp:FnScope ["_law_rows_here","_law_lines_here","_law_at","_law_j"] ["_law_rows_here","_law_lines_here","_law_at","_law_j"] (qaa s_sum):=⟨rfl,rfl,rfl,by decide+kernel,rfl,by decide+kernel,by decide+kernel⟩
theorem w2a:FnScope ["_law_script","_law_rows_here","_law_lines_here","_law_ask","_law_cell_here","_law_stay","_law_go","_law_short_here","_law_caps_here","_law_at","_law_cap","_law_j","_law_low","_law_more","_law_near"] ["_law_script","_law_rows_here","_law_lines_here","_law_ask"] (qaa s_caps):=⟨rfl,rfl,rfl,by decide+kernel,rfl,by decide+kernel,by decide+kernel⟩
theorem w2e:FnScope ["_law_script","_law_many","_law_cell_here","_law_lines_here","_law_kinds","_law_scale","_law_names","_law_wares","_law_rows_here","_law_parts_here","_law_ask"] ["_law_script","_law_many"] (qaa s_world):=⟨rfl,rfl,rfl,by decide+kernel,rfl,by decide+kernel,by decide+kernel⟩
theorem w9s:FnScope ["_law_wares","_law_parts_here","_law_told_here","_law_ware","_law_part"] ["_law_wares","_law_parts_here"] (qaa s_told):=⟨rfl,rfl,rfl,by decide+kernel,rfl,by decide+kernel,by decide+kernel⟩
theorem w0w:FnScope ["_law_script","_law_lines_here","_law_caps_here","_law_cell_here","_law_left","_law_promises_here","_law_at","_law_j","_law_free","_law_part","_law_house"] ["_law_script","_law_lines_here","_law_caps_here"] (qaa s_promises):=⟨rfl,rfl,rfl,by decide+kernel,rfl,by decide+kernel,by decide+kernel⟩
theorem w3s:FnScope ["_law_script","_law_world_here","_law_names","_law_wares","_law_lines_here","_law_rows_here","_law_ask","_law_caps_here","_law_due","_law_tree_here","_law_k"] ["_law_script","_law_world_here"] (qaa s_tree):=⟨rfl,rfl,rfl,by decide+kernel,rfl,by decide+kernel,by decide+kernel⟩
theorem w0d:FnScope ["_law_world_here","_law_names","_law_wares","_law_lines_here","_law_rows_here","_law_ask","_law_caps_here","_law_objects_here","_law_number","_law_at","_law_parts_here","_law_rank","_law_sure","_law_turns"] ["_law_world_here"] (qaa s_objects):=⟨rfl,rfl,rfl,by decide+kernel,rfl,by decide+kernel,by decide+kernel⟩
theorem w1z:FnScope ["_law_world_here","_law_some","_law_names","_law_wares","_law_lines_here","_law_rows_here","_law_ask","_law_caps_here","_law_at","_law_ware","_law_j","_law_here"] ["_law_world_here","_law_some"] (qaa s_short):=⟨rfl,rfl,rfl,by decide+kernel,rfl,by decide+kernel,by decide+kernel⟩
theorem w4e:FnScope ["_law_world_here","_law_tree_here","_law_objects_here","_law_names","_law_wares","_law_lines_here","_law_rows_here","_law_ask","_law_caps_here"] ["_law_world_here","_law_tree_here","_law_objects_here"] (qaa s_asked):=⟨rfl,rfl,rfl,by decide+kernel,rfl,by decide+kernel,by decide+kernel⟩
theorem wfq:FnScope ["_law_found"] ["_law_found"] (qaa s_whole):=⟨rfl,rfl,rfl,by decide+kernel,rfl,by decide+kernel,by decide+kernel⟩
theorem w7t:FnScope ["_law_row","_law_ware"] ["_law_row"] (qaa s_row_good):=⟨rfl,rfl,rfl,by decide+kernel,rfl,by decide+kernel,by decide+kernel⟩
theorem w76:FnScope ["_law_given","_law_row"] ["_law_given"] (qaa s_list_good):=⟨rfl,rfl,rfl,by decide+kernel,rfl,by decide+kernel,by decide+kernel⟩
theorem w08:FnScope ["_law_world_here","_law_paper","_law_names","_law_wares","_law_lines_here","_law_rows_here","_law_ask","_law_caps_here","_law_at","_law_j","_law_stay","_law_here"] ["_law_world_here","_law_paper"] (qaa s_paper_good):=⟨rfl,rfl,rfl,by decide+kernel,rfl,by decide+kernel,by decide+kernel⟩
theorem w02:FnScope ["_law_world_here","_law_given","_law_gone","_law_names","_law_wares","_law_lines_here","_law_rows_here","_law_ask","_law_caps_here","_law_last","_law_number","_law_house","_law_amounts","_law_at","_law_ware","_law_own","_law_kept","_law_j","_law_here","_law_all_there"] ["_law_world_here","_law_given","_law_gone"] (qaa s_had_to_go):=⟨rfl,rfl,rfl,by decide+kernel,rfl,by decide+kernel,by decide+kernel⟩
theorem w0b:FnScope ["_law_script","_law_world_here","_law_names","_law_wares","_law_lines_here","_law_rows_here","_law_ask","_law_caps_here","_law_way","_law_numbers","_law_k","_law_row"] ["_law_script","_law_world_here"] (qaa s_other_way):=⟨rfl,rfl,rfl,by decide+kernel,rfl,by decide+kernel,by decide+kernel⟩
theorem wf6:FnScope ["_law_world_here","_law_gone"] ["_law_world_here","_law_gone"] (qaa s_beside):=⟨rfl,rfl,rfl,by decide+kernel,rfl,by decide+kernel,by decide+kernel⟩
theorem w3b:FnScope ["_law_script","_law_world_here","_law_names","_law_wares","_law_lines_here","_law_rows_here","_law_ask","_law_caps_here","_law_tree_here","_law_objects_here","_law_paper","_law_given","_law_other","_law_gone","_law_only"] ["_law_script"] (qaa s_law):=⟨rfl,rfl,rfl,by decide+kernel,rfl,by decide+kernel,by decide+kernel⟩
theorem waj:FnScope ["self","elder","promise","cap","weight"] ["self","elder","promise","cap","weight"] (qaa s_House_init):=⟨rfl,rfl,rfl,by decide+kernel,rfl,by decide+kernel,by decide+kernel⟩
theorem w7f:FnScope ["self","wares","name","promise","cap","weight","house"] ["self","wares","name","promise","cap","weight"] (qaa s_Tree_init):=⟨rfl,rfl,rfl,by decide+kernel,rfl,by decide+kernel,by decide+kernel⟩
theorem w4d:FnScope ["self","name","elder","promise","cap","weight","house","elders"] ["self","name","elder","promise","cap","weight"] (qaa s_Tree_found):=⟨rfl,rfl,rfl,by decide+kernel,rfl,by decide+kernel,by decide+kernel⟩
theorem wcb:FnScope ["self","thing"] ["self","thing"] (qaa s_Tree_has):=⟨rfl,rfl,rfl,by decide+kernel,rfl,by decide+kernel,by decide+kernel⟩
theorem w5z:FnScope ["self","thing"] ["self","thing"] (qaa s_Tree_check_house):=⟨rfl,rfl,rfl,by decide+kernel,rfl,by decide+kernel,by decide+kernel⟩
theorem w7l:FnScope ["self","name"] ["self","name"] (qaa s_Tree_house_of):=⟨rfl,rfl,rfl,by decide+kernel,rfl,by decide+kernel,by decide+kernel⟩
theorem w7o:FnScope ["self","name"] ["self","name"] (qaa s_Tree_elder_of):=⟨rfl,rfl,rfl,by decide+kernel,rfl,by decide+kernel,by decide+kernel⟩
theorem w8u:FnScope ["self","name"] ["self","name"] (qaa s_Tree_cap_of):=⟨rfl,rfl,rfl,by decide+kernel,rfl,by decide+kernel,by decide+kernel⟩
theorem wbd:FnScope ["self","name"] ["self","name"] (qaa s_Tree_kids):=⟨rfl,rfl,rfl,by decide+kernel,rfl,by decide+kernel,by decide+kernel⟩
theorem w3m:FnScope ["self","name","told","elder"] ["self","name"] (qaa s_Tree_line):=⟨rfl,rfl,rfl,by decide+kernel,rfl,by decide+kernel,by decide+kernel⟩
theorem w3e:FnScope ["self","name","told","kid"] ["self","name"] (qaa s_Tree_beneath):=⟨rfl,rfl,rfl,by decide+kernel,rfl,by decide+kernel,by decide+kernel⟩
theorem w3y:FnScope ["self","name"] ["self","name"] (qaa s_Tree_promised_beneath):=⟨rfl,rfl,rfl,by decide+kernel,rfl,by decide+kernel,by decide+kernel⟩
theorem w3j:FnScope ["self","names","more","name"] ["self","names","more"] (qaa s_Tree_check_more):=⟨rfl,rfl,rfl,by decide+kernel,rfl,by decide+kernel,by decide+kernel⟩
theorem wam:FnScope ["self","number","house","amounts","rank","turns"] ["self","number","house","amounts","rank","turns"] (qaa s_Hold_init):=⟨rfl,rfl,rfl,by decide+kernel,rfl,by decide+kernel,by decide+kernel⟩
theorem w8g:FnScope ["self","rank","sure"] ["self","rank","sure"] (qaa s_Hold_may_end):=⟨rfl,rfl,rfl,by decide+kernel,rfl,by decide+kernel,by decide+kernel⟩
theorem w8h:FnScope ["self","rank","sure"] ["self","rank","sure"] (qaa s_Loan_may_end):=⟨rfl,rfl,rfl,by decide+kernel,rfl,by decide+kernel,by decide+kernel⟩
variable {P: vB} {w: vL} {K: uR} {mg: Str -> Option uC} {base: vR} {d: Ad} (T: Tx K mg d)
include T in
theorem w8f:FnOk P w K mg base CX0 1 d.w6p d.w5r ["self","thing"] (wbt K d):=by
 refine T.wdl.ok wcb (fun vs H Q E h=>?_) (fun cdv A outer s H vs Q E hr h=>?_)
 .obtain⟨t,S,x,rfl,_⟩:=h;rfl
 obtain⟨t,S,x,rfl,hT,hx,q⟩:=h
 refine⟨_,(qa5 (qai (qe3 (qaf qb9 rfl T.w04 uV (qa0 (pv 1) (qa0 (qbu (v:=.ty "str") rfl T.wdq wW rfl) qa2))) (qdi (pe_cmp (pc_din (qcb hr) (pv 1) (qbb (pv 0) rfl))))))),?_⟩
 walk_at "d"
 refine qah (σ:=[some (.ref t),some (x)]) rfl ?_
 obtain⟨⟨dx,ht⟩,hw,hh,nd,hz,hE⟩:=hT
 have ct:=T.w01
 have nh:qaz K d.w00 "houses":=T.w03
 rcases hx with ⟨z,rfl⟩ |⟨⟨ty,ht1,ht2⟩,nz⟩
 .left
  rw [qdv,dB]
  exact q
 .left
  rw [qde nz] at q
  exact q
include T in
theorem w1n:FnOk P w K mg base (My.CX1 P w) 2 d.w23 d.w1p ["self","thing"] (w68 K d):=by
 refine okX T.w6e w5z (fun vs H Q E h=>?_) (fun cdv A outer s H vs Q E hr h=>?_)
 .obtain⟨t,S,x,rfl,_⟩:=h;rfl
 obtain⟨t,S,x,rfl,hT,hx,q1,q2⟩:=h
 refine⟨_,(qa5 (qbh (qbj (qb6 (qed (pv 0) T.w01 T.w2c ((w8f T).mono (by decide)) hr T.w9i .nil qak (qa0 (pv 1) qa2)))) (qa5 (qc7 rfl T.we9 rfl T.wey qb0 (qa0 qcx qa2))) qaq)),?_⟩
 walk_at "d"
 refine qah (σ:=[some (.ref t),some (x)]) rfl ?_
 have hT0:=hT
 obtain⟨⟨dx,ht⟩,hw,hh,nd,hz,hE⟩:=hT
 have ct:=T.w01
 have nh:qaz K d.w00 "houses":=T.w03
 left
 refine⟨t,S,x,rfl,hT0,hx,?_⟩
 cases hw':who S x with
 |none=>
  left
  show if (!false)=true then _ else _
  left
  exact q2 hw'
 |some e=>
  left
  exact q1 e hw'
include T in
theorem w4q:FnOk P w K mg base (My.CX1 P w) 3 d.w31 d.w2o ["self","name"] (w7p K d):=by
 refine okX T.w81 w7l (fun vs H Q E h=>?_) (fun cdv A outer s H vs Q E hr h=>?_)
 .obtain⟨t,S,x,rfl,_⟩:=h;rfl
 obtain⟨t,S,x,rfl,hT,hx,q1,q2⟩:=h
 refine⟨_,(qa1 (qba (qb4 (pv 0) T.w01 T.w06 ((w1n T).mono (by decide)) hr T.w1v .nil qb0 (qa0 (pv 1) qa2)))
  (qa5 (qai (qbt (qcb hr) (qbb (pv 0) rfl) (pv 1) (fun _ _=>rfl))))),?_⟩
 walk_at "d"
 refine qah (σ:=[some (.ref t),some (x)]) rfl ?_
 have hT0:=hT
 obtain⟨⟨dx,ht⟩,hw,hh,nd,hz,hE⟩:=hT
 have ct:=T.w01
 have nh:qaz K d.w00 "houses":=T.w03
 left
 refine⟨t,S,x,rfl,hT0,hx,fun e he=>?_,q2⟩
 have hz':∃z,x=.str z:=by
  rcases hx with h|⟨_,nz⟩
  .exact h
  .rw [qde nz] at he;cases he
 obtain⟨z,rfl⟩:=hz'
 left
 refine r_dgO (.inl hh) (h:=e.a) (by rw [qdv];show (S.at z).map _=_;rw [show S.at z=some e from he];rfl) ?_
 left
 exact q1 e he
include T in
theorem w4p:FnOk P w K mg base (My.CX1 P w) 4 d.w3f d.w2k ["self","name"] (w7q K d):=by
 refine okX T.w7w w7o (fun vs H Q E h=>?_) (fun cdv A outer s H vs Q E hr h=>?_)
 .obtain⟨t,S,x,rfl,_⟩:=h;rfl
 obtain⟨t,S,x,rfl,hT,hx,q1,q2⟩:=h
 refine⟨_,(qa5 (qai (qbb (qb4 (pv 0) T.w01 T.w0h ((w4q T).mono (by decide)) hr T.w55 .nil qb0 (qa0 (pv 1) qa2)) rfl))),?_⟩
 walk_at "d"
 refine qah (σ:=[some (.ref t),some (x)]) rfl ?_
 have hT0:=hT
 obtain⟨⟨dx,ht⟩,hw,hh,nd,hz,hE⟩:=hT
 have ct:=T.w01
 have nh:qaz K d.w00 "houses":=T.w03
 left
 refine⟨t,S,x,rfl,hT0,hx,fun e he=>?_,q2⟩
 obtain⟨z,rfl⟩:∃z,x=.str z:=by
  rcases hx with h|⟨_,nz⟩
  .exact h
  .rw [qde nz] at he;cases he
 obtain⟨⟨dh,ho⟩,hp,hpA,hc,hcA⟩:=hE e (qcd he).1
 have ch:=T.w1m
 have nf:qaz K d.w05 "elder":=T.w0l
 have hRp:Rd H e.x.pa (.dK e.x.kp):=.inl hp
 have hRc:Rd H e.x.ca (.dK e.x.kc):=.inl hc
 left
 exact q1 e he
include T in
theorem w1s:FnOk P w K mg base CX0 1 d.w62 d.w5j ["amounts","ware"] (w7a K d):=by
 refine T.w1q.ok wbf (fun vs H Q E h=>?_) (fun cdv A outer s H vs Q E hr h=>?_)
 .obtain⟨a,kvs,f,z,rfl,_⟩:=h;rfl
 obtain⟨a,kvs,f,z,rfl,hR,hA,q⟩:=h
 refine⟨_,(qa5 (qai (pe_dget2 (qcb hr) (pv 0) (pv 1) qa4 ⟨rfl,rfl,rfl,rfl⟩))),?_⟩
 walk_at "d"
 refine qah (σ:=[some (.ref a),some (.str z)]) rfl ?_
 left
 exact q
include T in
theorem w8s:FnOk P w K mg base CX0 1 d.w3p d.w3h ["amounts"] (w89 K d):=by
 refine T.w5n.ok w30 (fun vs H Q E h=>?_) (fun cdv A outer s H vs Q E hr h=>?_)
 .obtain⟨a,kvs,f,rfl,_⟩:=h;rfl
 obtain⟨a,kvs,f,rfl,hH,hA,hz,q⟩:=h
 refine⟨_,(qa1 (qag (i:=1) w30.nd rfl (uJ rfl) qg5)
  (qa1 (ps_thA (qb7 uY rfl (qec (pv 0)) (qac (i:=2) w30.nd rfl (uJ rfl)) (qa5 (qe0 (qbh (qam qe4 (qbt (qcb hr) (pv 0) (pv 2) (fun _ _=>rfl)) qa4 (qas _)) (qa5 (qea (qcb hr) (pv 1) (pv 2) (qbt (qcb hr) (pv 0) (pv 2) (fun _ _=>rfl)) rfl)) qaq)))))
  (qa5 (qai (pv 1))))),?_⟩
 walk_at "d"
 refine qah (σ:=[some (.ref a),none,none]) rfl ?_
 left
 rename_i l hl
 have ea:=qae (o':=.dK []) hH hl
 have nla:l≠a:=(qa7 hH hl).symm
 refine r_itD ea fun o=>?_
 refine f_dict (fun i σ H'=>∃(k':List (Key × V)) (w:Option V),σ=[some (.ref a),some (.ref l),w]/\SameBut a H H'/\H' a=some (.frz o (.dK kvs))/\H' l=some (.dK k')/\k'.length<=i/\AD k' (fun y=>if y∈(qd1 kvs).take i then qcw f y else none))
  ⟨[],none,rfl,SameBut.at (SameBut.of (qa9 hl _)),qa3,by rw [qa6 nla];exact qa3,uG _,AD.nil.cast fun z=>by simp [noF]⟩ ?_ ?_ ?_
 .rintro i σ H' _ ⟨k',w,rfl,sb,fz,hl',_⟩;exact fz
 .rintro i k v σ H' hk ⟨k',w,rfl,sb,fz,hl',hlen,hA'⟩
  obtain⟨z,n,rfl,rfl,hf,hzi⟩:=hA.at hk
  have hi:i < kvs.length:=(uH.mp hk).1
  have hRd:Rd H' a (.dK kvs):=.inr ⟨o,fz⟩
  show qgd _ (.str z) _ _ _
  left
  refine r_cut0 ?_
  left
  refine i_2 (fun c=>?_) (fun c=>?_)
  .left
   refine⟨_,_,rfl,?_,by rw [qa6 nla.symm];exact fz,qa3,?_,(hA'.put z n).cast fun y=>?_⟩
   .exact sb_put sb hl
   .have:=qc6 k' (vE z) (.int n);omega
   .exact step_put hzi (qcw f) (fun _=>none) (by unfold qcw;rw [hf];exact gT c) y
  .left
   refine⟨_,_,rfl,sb,fz,hl',by omega,hA'.cast fun y=>?_⟩
   exact step_no hzi (qcw f) (fun _=>none) (by unfold qcw;rw [hf];exact gS c) y
 .rintro σ H' ⟨k',w,rfl,sb,fz,hl',_,hA'⟩
  refine r_thNx (thaw1 fz (qdm hH)) ?_
  left
  refine q l k' _ (qcu hH sb) hl (by rw [qa6 nla];exact hl') (hA'.cast fun y=>?_)
  exact step_end hA (qcw f) (fun _=>none) (fun y e=>by unfold qcw;rw [e]) y
include T in
theorem wdd:FnOk P w K mg base CX0 2 d.wc4 d.wab ["one","other"] (wft K d):=by
 refine T.wd4.ok wak (fun vs H Q E h=>?_) (fun cdv A outer s H vs Q E hr h=>?_)
 .obtain⟨a,b,ka,kb,f,g,rfl,_⟩:=h;rfl
 obtain⟨a,b,ka,kb,f,g,rfl,hRa,hb,hA,hB,za,zb,q⟩:=h
 refine⟨_,(qa1 (qag (i:=2) wak.nd rfl (uJ rfl) (qbq qdq rfl T.w9c wU (qa0 (pv 0) qa2)))
  (qa1 (ps_thA (qb7 uY rfl (qec (pv 1)) (qac (i:=3) wak.nd rfl (uJ rfl)) (qa5 (qea (qcb hr) (pv 2) (pv 3) (qao qb2 (qa8 ((w1s T).mono (by decide)) hr rfl T.w2b T.w1q.kp T.w27 .nil qak (qa0 (pv 0) (qa0 (pv 3) qa2))) (qbt (qcb hr) (pv 1) (pv 3) (fun _ _=>rfl))) rfl))))
  (qa5 (qai (pv 2))))),?_⟩
 walk_at "d"
 refine qah (σ:=[some (.ref a),some (.ref b),none,none]) rfl ?_
 left
 rename_i l hl
 have eb:=qae (o':=.dK ka) hb hl
 have nlb:l≠b:=(qa7 hb hl).symm
 refine r_itD eb fun o=>?_
 refine f_dict (fun i σ H'=>∃(k':List (Key × V)) (w:Option V),σ=[some (.ref a),some (.ref b),some (.ref l),w]/\SameBut b H H'/\H' b=some (.frz o (.dK kb))/\H' l=some (.dK k')/\k'.length<=1000+i/\AD k' (fun y=>if y∈(qd1 kb).take i then addF f g y else f y))
  ⟨ka,none,rfl,SameBut.at (SameBut.of (qa9 hl _)),qa3,by rw [qa6 nlb];exact qa3,by omega,hA.cast fun z=>by simp⟩ ?_ ?_ ?_
 .rintro i σ H' _ ⟨k',w,rfl,sb,fz,hl',_⟩;exact fz
 .rintro i k v σ H' hk ⟨k',w,rfl,sb,fz,hl',hlen,hA'⟩
  obtain⟨z,n,rfl,rfl,hf,hzi⟩:=hB.at hk
  have hi:i < kb.length:=(uH.mp hk).1
  have hRb:Rd H' b (.dK kb):=.inr ⟨o,fz⟩
  have hRa':Rd H' a (.dK ka):=rd_in hRa hb sb fz
  show qgd _ (.str z) _ _ _
  left
  refine⟨_,_,rfl,sb_put sb hl,by rw [qa6 nlb.symm];exact fz,qa3,?_,(hA'.put z _).cast fun y=>?_⟩
  .have:=qc6 k' (vE z) (.int (gN f z+n));omega
  .exact step_put hzi (addF f g) f (by unfold addF;rw [hf]) y
 .rintro σ H' ⟨k',w,rfl,sb,fz,hl',_,hA'⟩
  refine r_thNx (thaw1 fz (qdm hb)) ?_
  left
  refine q l k' _ (qcu hb sb) hl (by rw [qa6 nlb];exact hl') (hA'.cast fun y=>?_)
  exact step_end hB (addF f g) f (fun y e=>by unfold addF;rw [e]) y
include T in
theorem wec:FnOk P w K mg base CX0 2 d.wa8 d.w8o ["one","other"] (wf7 K d):=by
 refine T.wdj.ok wao (fun vs H Q E h=>?_) (fun cdv A outer s H vs Q E hr h=>?_)
 .obtain⟨a,b,ka,kb,f,g,rfl,_⟩:=h;rfl
 obtain⟨a,b,ka,kb,f,g,rfl,hRa,hRb,hA,hB,za,qn,qs⟩:=h
 refine⟨_,(qa1 (qb7 uY rfl (qau (qaf (qfo rfl) rfl T.w6b xH (qa0 (pv 0) qa2))) (qac (i:=2) wao.nd rfl (uJ rfl)) (qa5 (qbh (qam qe4 (qbt (qcb hr) (pv 0) (pv 2) (fun _ _=>rfl)) (qa8 ((w1s T).mono (by decide)) hr rfl T.w2b T.w1q.kp T.w27 .nil qak (qa0 (pv 1) (qa0 (pv 2) qa2))) (qas _)) (qa5 (qai (pv 2))) qaq)))
  (qa5 (qai qcy))),?_⟩
 walk_at "d"
 refine qah (σ:=[some (.ref a),some (.ref b),none]) rfl ?_
 left
 refine r_sortD hRa hA.keys (by rw [hA.klen];exact za) fun l ss hl hp hs=>?_
 have pw:=qdg hs
 have hin:∀y,y∈ss↔f y≠none:=fun y=>(hp.mem_iff).trans (hA.kin y)
 left
 have sm:=qa9 hl (.lst (ss.map V.str))
 have hRa':=rd_new hRa hl (u:=.lst (ss.map V.str))
 have hRb':=rd_new hRb hl (u:=.lst (ss.map V.str))
 refine qcz (xs:=ss.map V.str) (fun i σ H'=>H'=upd H l (.lst (ss.map V.str))/\(∃w,σ=[some (.ref a),some (.ref b),w])/\∀j y,j < i->ss[j]?=some y->¬viol f g y) ⟨rfl,⟨_,rfl⟩,fun j y hj=>absurd hj (cL j)⟩ ?_ ?_ ?_
 .rintro i σ H' _ ⟨rfl,_⟩;exact SqL.of qa3
 .rintro i v σ H' hv ⟨rfl,⟨w,rfl⟩,hno⟩
  rw [zC] at hv
  obtain⟨z,hz,rfl⟩:=uU.mp hv
  have hfz:=(hin z).mp (zF hz)
  obtain⟨n,hn⟩:∃n,f z=some n:=by
   cases e:f z with
   |none=>exact absurd e hfz
   |some n=>exact⟨n,rfl⟩
  have gz:gN f z=n:=by unfold gN;rw [hn];rfl
  left
  refine i_2 (fun c=>?_) (fun c=>?_)
  .left
   refine qs z _ sm ⟨hfz,by rw [gz];exact c⟩ fun y hy=>?_
   obtain⟨j,hj,e⟩:=zO.mp ((hin y).mpr hy.1)
   have hji:i<=j:=by
    rcases bN j i with h|h
    .exact absurd hy (hno j y h (by rw [zA hj,e]))
    .exact h
   obtain⟨hi,ez⟩:=uH.mp hz
   rcases Nat.eq_or_lt_of_le hji with h|h
   .subst h;rw [ez] at e;subst e;exact leS_refl _
   .have:=zV.mp pw i j hi hj h
    rw [ez,e] at this;exact this
  .left
   refine⟨rfl,⟨_,rfl⟩,fun j y hj hy=>?_⟩
   rcases bN j i with h|h
   .exact hno j y h hy
   .have e:j=i:=by omega
    subst e
    rw [hz] at hy
    cases hy
    exact fun hv=>c (by have:=hv.2;rw [gz] at this;exact this)
 .rintro σ H' ⟨rfl,⟨w,rfl⟩,hno⟩
  left
  refine qn _ sm fun y hy=>?_
  obtain⟨j,hj,e⟩:=zO.mp ((hin y).mpr hy.1)
  exact hno j y (by rw [zB];exact hj) (by rw [zA hj,e]) hy
theorem sum_sup {ts:List Pt} {ws:List Str} (h:∀t∈ts,∀z,t.f z≠none->z∈ws):∀f0:Str->Option Int,(∀z,f0 z≠none->z∈ws)->∀z,ts.foldl (fun f t=>addF f t.f) f0 z≠none->z∈ws:=by
 induction ts with
 |nil=>intro f0 h0 z hz;exact h0 z hz
 |cons t ts ih=>intro f0 h0 z hz;exact ih (fun t' ht=>h t' (zE _ ht)) (addF f0 t.f) (addF_sup h0 (h t (zG ..))) z hz
include T in
theorem w8j:FnOk P w K mg base CX0 3 d.w6s d.w5v ["many"] (wcu K d):=by
 refine T.w6n.ok w4g (fun vs H Q E h=>?_) (fun cdv A outer s H vs Q E hr h=>?_)
 .obtain⟨L,ts,ws,rfl,_⟩:=h;rfl
 obtain⟨L,ts,ws,rfl,hS,hw,hts,q⟩:=h
 refine⟨_,(qa1 (qag (i:=1) w4g.nd rfl (uJ rfl) qg5)
  (qa1 (qb7 uY rfl (qau (pv 0)) (qac (i:=2) w4g.nd rfl (uJ rfl)) (qa5 (qag (i:=1) w4g.nd rfl (uJ rfl) (qa8 ((wdd T).mono (by decide)) hr rfl T.wei T.wd4.kp T.wf0 .nil qak (qa0 (pv 1) (qa0 (pv 2) qa2))))))
  (qa5 (qai (pv 1))))),?_⟩
 walk_at "d"
 refine qah (σ:=[some (.ref L),none,none]) rfl ?_
 left
 rename_i l0 hl0
 refine qcz (xs:=ts.map fun t=> .ref t.a) (fun i σ H'=>∃(l:Addr) (k':List (Key × V)) (w:Option V),σ=[some (.ref L),some (.ref l),w]/\qar H H'/\H l=none/\H' l=some (.dK k')/\AD k' (sumF (ts.take i))) ⟨l0, [],none,rfl,qa9 hl0 _,hl0,qa3,AD.nil⟩ ?_ ?_ ?_
 .rintro i σ H' _ ⟨l,k',w,rfl,sm,_⟩;exact sm.seq hS
 .rintro i v σ H' hv ⟨l,k',w,rfl,sm,hl,hl',hA'⟩
  rw [zC] at hv
  obtain⟨t,ht,rfl⟩:=uU.mp hv
  have hm:=zF ht
  obtain⟨h1,h2,h3⟩:=hts t hm
  have sup:∀z,sumF (ts.take i) z≠none->z∈ws:=sum_sup (fun t' ht'=>(hts t' (aN ht')).2.2) noF (fun z h=>absurd rfl h)
  have c1:=hA'.le sup
  have c2:=h2.le h3
  left
  refine⟨l,t.a,k',t.k,sumF (ts.take i),t.f,rfl,.inl hl',sm _ _ h1,hA',h2,by omega,by omega,fun l2 k2 H2 sm2 hl2 e2 hA2=>?_⟩
  left
  refine⟨l2,k2,_,rfl,sm.trans sm2,sm.free hl2,e2,?_⟩
  have e:ts.take (i+1)=ts.take i++ [t]:=by rw [zL,ht];rfl
  rw [e]
  unfold sumF
  rw [bO]
  exact hA2
 .rintro σ H' ⟨l,k',w,rfl,sm,hl,hl',hA'⟩
  rw [zB,zP] at hA'
  left
  exact q l k' H' sm hl hl' hA'
include T in
theorem w3o:FnOk P w K mg base (My.CX1 P w) 5 d.w63 d.w53 ["self","name"] (was K d):=by
 refine okX T.wcq w3m (fun vs H Q E h=>?_) (fun cdv A outer s H vs Q E hr h=>?_)
 .obtain⟨t,S,x,rfl,_⟩:=h;rfl
 obtain⟨t,S,x,rfl,hT,q⟩:=h
 refine⟨_,(qa1 (qag (i:=2) w3m.nd rfl (uJ rfl) (qc0 (qa0 (pv 1) qa2)))
  (qa1 (qag (i:=3) w3m.nd rfl (uJ rfl) (qb4 (pv 0) T.w01 T.w0g ((w4p T).mono (by decide)) hr T.w4t .nil qb0 (qa0 (pv 1) qa2)))
  (qa1 (ps_while (qf0 rfl rfl) (qam qg6 (pv 3) qcy (qas _)) (qa1 (qba (qdb uZ vM vN qbe (pv 2) (qa0 (pv 3) qa2)))
  (qa5 (qag (i:=3) w3m.nd rfl (uJ rfl) (qb4 (pv 0) T.w01 T.w0g ((w4p T).mono (by decide)) hr T.w4t .nil qb0 (qa0 (pv 3) qa2))))))
  (qa5 (qai (pv 2)))))),?_⟩
 walk_at "d"
 refine qah (σ:=[some (.ref t),some (x),none,none]) rfl ?_
 have ct:=T.w01
 obtain⟨dx,ht⟩:=hT.1
 left
 rename_i l hl
 have sl:=qa9 hl (.lst [x])
 rcases q with ⟨z,zs,rfl,hL,hz,q⟩ |⟨hx,hn,q⟩
 .obtain⟨e0,r0,h0,rfl,hr0⟩:=hL.open
  refine⟨t,S,.str z,rfl,hT.same sl,.inl ⟨z,rfl⟩,fun e he=>?_,fun he=>?_⟩
  .have ee:e0=e:=uX (h0.symm.trans he)
   subst ee
   left
   refine while_by (fun σ H'=>∃(ys rs:List Str) (o:Option Str),σ=[some (.ref t),some (.str z),some (.ref l),some (eV o)]/\H'=upd H l (.lst (ys.map V.str))/\ys++rs=z :: r0/\RestOf S o rs) (fun _ H'=>(r0.length+1) - lenAt l H') ⟨[z],r0,_,rfl,rfl,rfl,hr0⟩ ?_ ?_
   .rintro σ H' ⟨ys,rs,o,rfl,rfl,hyr,hR⟩
    have hlen:=congrArg wP hyr
    rw [zK,zZ] at hlen
    have hz2:(z :: r0).length<=1000:=hz
    rw [zZ] at hz2
    cases o with
    |none=>
     have:rs=[]:=hR
     subst this
     rw [yA] at hyr
     subst hyr
     rw [show eV none=V.non from rfl]
     left
     exact q l hl
    |some y=>
     obtain⟨e1,r1,h1,rfl,hr1⟩:=LineOf.open hR
     have sy:=qa9 hl (.lst (ys.map V.str))
     have eL:upd H l (.lst (ys.map V.str)) l=some (.lst (ys.map V.str)):=qa3
     have hzz:(ys.map V.str).length < sizeLine:=by rw [zB];show _ < 16777216;omega
     rw [show eV (some y)=V.str y from rfl]
     left
     rw [qbn]
     have s2:=qa9 hl (.lst (ys.map V.str++ [.str y]))
     have ht2:=s2 _ _ ht
     left
     refine⟨t,S,.str y,rfl,hT.same s2,.inl ⟨y,rfl⟩,fun e he=>?_,fun he=>?_⟩
     .have ee:e1=e:=uX (h1.symm.trans he)
      subst ee
      left
      rw [zZ] at hlen
      refine⟨⟨ys++ [y],r1,_,rfl,by rw [zD];rfl,by rw [bP];exact hyr,hr1⟩,?_⟩
      have g1:=lenAt_eq eL
      have g2:lenAt l (upd H l (.lst (ys.map V.str++ [V.str y])))=(ys.map V.str++ [V.str y]).length:=lenAt_eq qa3
      rw [zK,zB] at g2
      rw [zB] at g1
      rw [g1,g2]
      simp only [zZ,xA]
      omega
     .rw [show who S (.str y)=some e1 from h1] at he;cases he
   .rintro σ H' Q1 Q2 hm ⟨v,hv,w,k,hk,hq⟩
    exact⟨v,hv,w,k,hk,hm _ _ hq⟩
  .rw [show who S (.str z)=some e0 from h0] at he;cases he
 .refine⟨t,S,x,rfl,hT.same sl,hx.same sl,fun e he=>?_,fun _=>q l hl⟩
  rw [hn] at he;cases he
theorem at_of {S:Ts} {e:He} (nd:(S.hl.map (·.n)).Nodup) (h:e∈S.hl):S.at e.n=some e:=by
 have q:qdj S.keys e.n=some e.a:=lookO_of (by unfold Ts.keys;rw [yP];exact nd) (zI.mpr ⟨e,h,rfl⟩)
 unfold Ts.at
 revert nd h
 obtain⟨sw,ws,hs,hl⟩:=S
 dsimp only
 clear q
 intro nd h
 induction hl with
 |nil=>simp at h
 |cons y r ih=>
  rw [zS,yC] at nd
  rw [yL]
  rcases zR.mp h with h|h
  .subst h;rw [gU rfl]
  .have ne:y.n≠e.n:=fun z=>nd.1 (by rw [z];exact zI.mpr ⟨e,h,rfl⟩)
   rw [gW ne]
   exact ih nd.2 h
theorem keys_at {S:Ts} {i:Nat} {k:Key} {v:V} (h:(oK S.keys)[i]?=some (k,v)):∃e,S.hl[i]?=some e/\k=vE e.n/\v=.ref e.a:=by
 unfold oK Ts.keys at h
 rw [zC,zC] at h
 cases q:S.hl[i]? with
 |none=>rw [q] at h;cases h
 |some e=>rw [q] at h;cases h;exact⟨e,rfl,rfl,rfl⟩
theorem qer (S:Ts):(oK S.keys).length=S.hl.length:=by unfold oK Ts.keys;rw [zB,zB]
theorem dec_el {o:Option Str} {z:Str}:decide (eV o=V.str z)=decide (o=some z):=by
 cases o with
 |none=>rfl
 |some y=>
  by_cases h:y=z
  .subst h;show decide (V.str y=V.str y)=_;rw [gU rfl,gU rfl]
  .rw [gW (fun q=>h (by cases q;rfl)),gW (fun q=>h (uX q))]
theorem scal_el {o:Option Str} {z:Str}:scal (eV o) (V.str z)=true:=by cases o <;> rfl
include T in
theorem war:FnOk P w K mg base (My.CX1 P w) 3 d.w5w d.w5b ["self","name"] (wau K d):=by
 refine okX T.wd0 wbd (fun vs H Q E h=>?_) (fun cdv A outer s H vs Q E hr h=>?_)
 .obtain⟨t,S,x,rfl,_⟩:=h;rfl
 obtain⟨t,S,x,rfl,hT,hx,q1,q2⟩:=h
 refine⟨_,(qa1 (qba (qb4 (pv 0) T.w01 T.w06 ((w1n T).mono (by decide)) hr T.w1v .nil qb0 (qa0 (pv 1) qa2)))
  (qa5 (qai (qaf qeh rfl T.w6b xH (qa0 (pe_thV (qbp (caps:=[0,1]) (cn:=["self","name"]) (qb1 rfl rfl (by rfl) (by rfl) rfl ⟨rfl,⟨rfl,trivial⟩⟩ (by rfl) rfl ⟨⟨rfl,rfl,rfl,rfl,_,rfl⟩,⟨⟨rfl,rfl,rfl,rfl,_,rfl⟩,trivial⟩⟩ (by decide)) rfl (qec (qbb (pv 0) rfl)) (fun _ _ _ _=>(qck (qam qen (qbb (qbt (qcb hr) (qbb (pv 1) rfl) (pv 0) (fun _ _=>rfl)) rfl) (pv 2) (qas _)))) (fun _ _ _ _=>(pv 0)))) qa2))))),?_⟩
 walk_at "d"
 dsimp only [cxC]
 refine qah (σ:=[some (.ref t),some (x)]) rfl ?_
 have hT0:=hT
 obtain⟨⟨dx,ht⟩,hw,hh,nd,hz,hE⟩:=hT
 have ct:=T.w01
 have ch:=T.w1m
 have nh:qaz K d.w00 "houses":=T.w03
 have nf:qaz K d.w05 "elder":=T.w0l
 left
 refine⟨t,S,x,rfl,hT0,hx,fun e he=>?_,q2⟩
 obtain⟨z,rfl⟩:∃z,x=.str z:=by
  rcases hx with h|⟨_,nz⟩
  .exact h
  .rw [qde nz] at he;cases he
 obtain⟨hme,rfl⟩:=qcd he
 left
 refine r_thV ?_
 left
 refine r_itD hh fun o=>?_
 intro C s0 H0 fp na hna
 have hF:upd H S.hs (.frz o (.dK (oK S.keys))) S.hs=some (.frz o (.dK (oK S.keys))):=qa3
 have sb:SameBut S.hs H (upd H S.hs (.frz o (.dK (oK S.keys)))):=sb_frz hh
 have ht2:=sb _ _ (ne_of ht hh (by intro z;cases z)) ht
 have hna0:H na=none:=by
  by_cases z:na=S.hs
  .subst z;rw [hF] at hna;cases hna
  .rw [qa6 z] at hna;exact hna
 have hE2:∀e∈S.hl,∃dx,upd H S.hs (.frz o (.dK (oK S.keys))) e.a=some (.ins d.w05 dx (fsH e.x)):=fun e he=>by
  obtain⟨⟨dx,q⟩,_⟩:=hE e he
  exact⟨dx,sb _ _ (ne_of q hh (by intro z;cases z)) q⟩
 generalize upd H S.hs (.frz o (.dK (oK S.keys)))=HF at*
 refine qel S.hl.length (fun i H'=>H'=upd HF na (.lst ((((S.hl.take i).filter fun y=>decide (y.x.el=some e.n)).map (·.n)).map V.str))) rfl ?_ ?_ ?_ ?_
 .rintro i H' hi rfl
  exact⟨qae hF hna,by rw [qer];exact hi⟩
 .rintro H' rfl
  exact⟨qae hF hna,by rw [qer];exact uG _⟩
 .rintro i H' v H'' hi rfl ⟨rfl,k,v',hk,rfl⟩
  obtain⟨y,hy,rfl,rfl⟩:=keys_at hk
  have hym:=zF hy
  obtain⟨dy,hya⟩:=hE2 y hym
  have nx:(S.hl.take (i+1)).filter (fun y=>decide (y.x.el=some e.n))=(S.hl.take i).filter (fun y=>decide (y.x.el=some e.n))++(if decide (y.x.el=some e.n)=true then [y] else []):=by
   rw [zL,hy,zQ]
   congr 1
   simp only [Option.toList_some,zJ,yK]
  have hlen:((S.hl.take i).filter (fun y=>decide (y.x.el=some e.n))).length<=S.hl.length:=vP (zN ..) (by rw [zW];omega)
  left
  refine r_dgO (h:=y.a) (rd_new (.inr ⟨o,hF⟩) hna) (by rw [qdv,at_of nd hym];rfl) ?_
  left
  refine⟨scal_el,?_⟩
  rw [dec_el]
  refine⟨_,rfl,?_⟩
  refine i_2 (fun c=>?_) (fun c=>?_)
  .left
   rw [qbn,nx,gT (gU c),zD,zD];rfl
  .rw [nx,gS (by rw [gW c];decide),yA]
 rintro H' rfl
 rw [zP]
 have nns:na≠S.hs:=fun z=>by subst z;rw [hF] at hna;cases hna
 have eN:upd (upd HF na (.lst ((qbg S e.n).map V.str))) S.hs (.dK (oK S.keys)) na=some (.lst ((qbg S e.n).map V.str)):=by rw [qa6 nns];exact qa3
 have sm:qar H (upd (upd HF na (.lst ((qbg S e.n).map V.str))) S.hs (.dK (oK S.keys))):=qcu hh (sb_put sb hna0)
 have hkl:(qbg S e.n).length<=60:=by unfold qbg;rw [zB];exact vP (zN ..) hz
 refine⟨_,thaw1 (qae hF hna) (qdm hh),?_⟩
 show tNil _ (upd (upd HF na (.lst ((qbg S e.n).map V.str))) S.hs (.dK (oK S.keys))) _
 generalize upd (upd HF na (.lst ((qbg S e.n).map V.str))) S.hs (.dK (oK S.keys))=H3 at*
 left
 refine r_sortL (SqL.of eN) (by omega) fun l ss hl hp hs=>?_
 left
 exact q1 e he l ss _ (qfz sm hl) (sm.free hl) qa3 hp hs
theorem r_extend {H:Hp} {Q:VK} {l b:Addr} {xs zs:List V} (h:H l=some (.lst xs)) (hb:H b=some (.lst zs)) (hz:xs.length+zs.length<=sizeLine) (q:Q .non (upd H l (.lst (xs++zs)))):rExtend (.ref l) [.ref b] H Q:=⟨l,b,xs,zs,rfl,rfl,h,hb,hz,q⟩
noncomputable def flat (parts:List (Str × List Str)):List Str:=(parts.map (·.2)).flatten
noncomputable def Ben (S:Ts):Nat->Str->List Str->Prop
 |0,z,zs=>∃parts:List (Str × List Str),(parts.map (·.1)).Perm (qbg S z)/\zs=z :: flat parts/\∀p∈parts,False
 |n+1,z,zs=>∃parts:List (Str × List Str),(parts.map (·.1)).Perm (qbg S z)/\zs=z :: flat parts/\∀p∈parts,Ben S n p.1 p.2
noncomputable def BenP (S:Ts):Nat->Str->List Str->Prop
 |0,z,zs=>∃(parts:List (Str × List Str)) (rest:List Str),(parts.map (·.1)++rest).Perm (qbg S z)/\zs=z :: flat parts/\∀p∈parts,False
 |n+1,z,zs=>∃(parts:List (Str × List Str)) (rest:List Str),(parts.map (·.1)++rest).Perm (qbg S z)/\zs=z :: flat parts/\∀p∈parts,BenP S n p.1 p.2
theorem Ben.part {S:Ts}:∀{n:Nat} {z:Str} {zs:List Str},Ben S n z zs->BenP S n z zs
 |0,_,_,⟨parts,a,b,c⟩=>⟨parts, [],by rw [yA];exact a,b,c⟩
 |n+1,_,_,⟨parts,a,b,c⟩=>⟨parts, [],by rw [yA];exact a,b,fun p hp=>Ben.part (c p hp)⟩
noncomputable def BenK (S:Ts):Nat->Str->List Str->Prop
 |0,_,_=>False
 |n+1,z,zs=>Ben S n z zs
theorem ben_of {S:Ts} {n:Nat} {z:Str} {parts:List (Str × List Str)} (h:(parts.map (·.1)).Perm (qbg S z)) (hp:∀p∈parts,BenK S n p.1 p.2):Ben S n z (z :: flat parts):=by
 cases n with
 |zero=>exact⟨parts,h,rfl,hp⟩
 |succ n=>exact⟨parts,h,rfl,hp⟩
theorem benP_of {S:Ts} {n:Nat} {z:Str} {parts:List (Str × List Str)} {rest:List Str} (h:(parts.map (·.1)++rest).Perm (qbg S z)) (hp:∀p∈parts,BenK S n p.1 p.2):BenP S n z (z :: flat parts):=by
 cases n with
 |zero=>exact⟨parts,rest,h,rfl,hp⟩
 |succ n=>exact⟨parts,rest,h,rfl,fun p q=>Ben.part (hp p q)⟩
noncomputable def Slim (S:Ts):Prop:=∀n z zs,BenP S n z zs->zs.length<=1000
noncomputable def Dep (S:Ts):Nat->Str->Prop
 |0,z=>qbg S z=[]
 |n+1,z=>∀y∈qbg S z,Dep S n y
noncomputable def wdh (n:Nat) (K:uR) (d:Ad):Sp:=fun vs H Q E=>∃(t:Addr) (S:Ts) (x:V),vs=[.ref t,x]/\qes d H t S/\Slim S/\qe8 K H x/\(∀e,who S x=some e->Dep S n e.n/\∀l zs H',qar H H'->H l=none->H' l=some (.lst (zs.map V.str))->Ben S n e.n zs->Q (.ref l) H')/\(who S x=none->∀l,H l=none->E (.ref d.w0e) none (upd H l (.lst [x])))
theorem kid_at {S:Ts} {y z:Str} (nd:(S.hl.map (·.n)).Nodup) (h:y∈qbg S z):∃e,S.at y=some e/\e.n=y:=by
 obtain⟨e,he,rfl⟩:=zI.mp h
 exact⟨e,at_of nd (zY.mp he).1,rfl⟩
theorem flat_app (a b:List (Str × List Str)):flat (a++b)=flat a++flat b:=by unfold flat;rw [zD,List.flatten_append]
theorem ben_step {P:vB} {w:vL} {K:uR} {mg:Str->Option uC} {base:vR} {d:Ad} (T:Tx K mg d) (n:Nat) (spi:Sp) (IH:FnOk P w K mg base (My.CX1 P w) (3+n) d.w0z d.w0o ["self","name"] spi)
  (use:∀(t:Addr) (S:Ts) (z y:Str) (e:He) (H:Hp) (Q:VK) (E:XK),qes d H t S->Slim S->Dep S n z->y∈qbg S z->S.at y=some e->e.n=y->(∀l zs H',qar H H'->H l=none->H' l=some (.lst (zs.map V.str))->BenK S n y zs->Q (.ref l) H')->spi [.ref t,.str y] H Q E):
  FnOk P w K mg base (My.CX1 P w) (3+n+1) d.w0z d.w0o ["self","name"] (wdh n K d):=by
 refine okX T.w8w w3e (fun vs H Q E h=>?_) (fun cdv A outer s H vs Q E hr h=>?_)
 .obtain⟨t,S,x,rfl,_⟩:=h;rfl
 obtain⟨t,S,x,rfl,hT,hS,hx,q1,q2⟩:=h
 refine⟨_,(qa1 (qag (i:=2) w3e.nd rfl (uJ rfl) (qc0 (qa0 (pv 1) qa2)))
  (qa1 (qb7 (qf0 rfl rfl) rfl (qau (qb4 (pv 0) T.w01 T.w2f ((war T).mono (by omega)) hr T.wca .nil qb0 (qa0 (pv 1) qa2))) (qac (i:=3) w3e.nd rfl (uJ rfl)) (qa5 (qba (qdb uZ PySem.F.slot_list_extend PySem.F.type_list_extend mt_extend (pv 2) (qa0 (qb4 (pv 0) T.w01 T.w0c IH hr T.w2d .nil qb0 (qa0 (pv 3) qa2)) qa2)))))
  (qa5 (qai (pv 2))))),?_⟩
 walk_at "d"
 refine qah (σ:=[some (.ref t),some (x),none,none]) rfl ?_
 have ct:=T.w01
 obtain⟨dx,ht⟩:=hT.1
 have nd:=hT.2.2.2.1
 left
 rename_i lt hlt
 have sl:=qa9 hlt (.lst [x])
 refine⟨t,S,x,rfl,hT.same sl,hx.same sl,fun e he=>?_,fun he=>q2 he lt hlt⟩
 obtain⟨hD,q⟩:=q1 e he
 obtain⟨z,rfl⟩:∃z,x=.str z:=by
  rcases hx with h|⟨_,nz⟩
  .exact h
  .rw [qde nz] at he;cases he
 obtain⟨hme,rfl⟩:=qcd he
 intro lk ss H1 s1 hlk ek hp hs
 have eT:=s1 _ _ (qa3 (H:=H) (a:=lt) (o:=.lst [V.str e.n]))
 left
 have ntk:lk≠lt:=fun z=>by subst z;rw [qa3] at hlk;cases hlk
 refine qcz (xs:=ss.map V.str) (fun i σ H'=>∃(parts:List (Str × List Str)) (w:Option V),σ=[some (.ref t),some (.str e.n),some (.ref lt),w]/\parts.map (·.1)=ss.take i/\(∀p∈parts,BenK S n p.1 p.2)/\qar H H'/\H' lk=some (.lst (ss.map V.str))/\H' lt=some (.lst ((e.n :: flat parts).map V.str)))
  ⟨[],_,rfl,rfl,fun p hp=>absurd hp (by simp),sl.trans s1,ek,eT⟩ ?_ ?_ ?_
 .rintro i σ H' _ ⟨parts,w,_,_,_,_,ek',_⟩;exact SqL.of ek'
 .rintro i v σ H' hv ⟨parts,w,rfl,hps,hB,sm,ek',eT'⟩
  rw [zC] at hv
  obtain⟨y,hy,rfl⟩:=uU.mp hv
  have hyk:y∈qbg S e.n:=hp.mem_iff.mp (zF hy)
  obtain⟨ey,h1,h2⟩:=kid_at nd hyk
  have ht':=sm _ _ ht
  left
  refine use t S e.n y ey H' _ _ (hT.same sm) hS hD hyk h1 h2 fun l zs H2 s2 hl el hBy=>?_
  have eT2:=s2 _ _ eT'
  have hps2:(parts++ [(y,zs)]).map (·.1)=ss.take (i+1):=by rw [zD,hps,zL,hy];rfl
  have hB2:∀p∈parts++ [(y,zs)],BenK S n p.1 p.2:=fun p hp=>by
   rcases zT.mp hp with h|h
   .exact hB p h
   .have:=zH.mp h
    subst this;exact hBy
  have ef:flat (parts++ [(y,zs)])=flat parts++zs:=by rw [flat_app];congr 1;simp [flat]
  have hlen:=hS _ _ _ (benP_of (n:=n) (z:=e.n) (parts:=parts++ [(y,zs)]) (rest:=ss.drop (i+1)) (by rw [hps2,bU];exact hp) hB2)
  rw [ef,zZ,zK] at hlen
  left
  refine r_extend eT2 el (by rw [zB,zB,zZ];show _<=16777216;omega) ?_
  left
  refine⟨parts++ [(y,zs)],_,rfl,hps2,hB2,qav (sm.trans s2) hlt,by rw [qa6 ntk];exact s2 _ _ ek',?_⟩
  rw [ef,<-zD];exact qa3
 .rintro σ H' ⟨parts,w,rfl,hps,hB,sm,ek',eT'⟩
  rw [zB,zP] at hps
  left
  exact q lt _ H' sm hlt eT' (ben_of (by rw [hps];exact hp) hB)
theorem wf2 {P:vB} {w:vL} {K:uR} {mg:Str->Option uC} {base:vR} {CX:CXT} {k:Nat} {f:Addr} {fd:uM} {ps:List Str}:FnOk P w K mg base CX k f fd ps (fun _ _ _ _=>False):=
 ⟨fun _ _ _ _ h=>h.elim,fun _ _ _ _ _ _ _ _ _ _ _ _ _ h=>h.elim⟩
theorem wg7 {P:vB} {w:vL} {K:uR} {mg:Str->Option uC} {base:vR} {d:Ad} (T:Tx K mg d):∀n:Nat,FnOk P w K mg base (My.CX1 P w) (3+n+1) d.w0z d.w0o ["self","name"] (wdh n K d)
 |0=>ben_step T 0 (fun _ _ _ _=>False) wf2 fun t S z y e H Q E _ _ hD hy _ _ _=>by
  have:qbg S z=[]:=hD
  rw [this] at hy;simp at hy
 |n+1=>ben_step T (n+1) (wdh n K d) (wg7 T n) fun t S z y e H Q E hT hS hD hy h1 h2 q=>by
  refine⟨t,S,.str y,rfl,hT,hS,.inl ⟨y,rfl⟩,fun e' he'=>?_,fun he'=>?_⟩
  .have ee:e=e':=uX (h1.symm.trans he')
   subst ee
   rw [h2]
   exact⟨hD y hy,fun l zs H' sm hl el hB=>q l zs H' sm hl el hB⟩
  .rw [show who S (.str y)=some e from h1] at he';cases he'
noncomputable def w8b (K:uR) (d:Ad):Sp:=wdh 12 K d
include T in
theorem w3d:FnOk P w K mg base (My.CX1 P w) 16 d.w0z d.w0o ["self","name"] (w8b K d):=wg7 T 12
noncomputable def upS (S:Ts) (y:Str):Option Str:=(S.at y).bind fun e=>e.x.el
noncomputable def anc (S:Ts):Nat->Str->Option Str
 |0,y=>some y
 |k+1,y=>(upS S y).bind (anc S k)
theorem qdy {S:Ts}:∀(i j:Nat) (y:Str),anc S (i+j) y=(anc S i y).bind (anc S j)
 |0,j,y=>by rw [Nat.zero_add];rfl
 |i+1,j,y=>by
  rw [show i+1+j=(i+j)+1 by omega]
  show (upS S y).bind (anc S (i+j))=((upS S y).bind (anc S i)).bind (anc S j)
  cases upS S y with
  |none=>rfl
  |some u=>exact qdy i j u
noncomputable def WF (S:Ts):Prop:=(S.hl.map (·.n)).Nodup/\∀e∈S.hl,∃zs,LineOf S e.n zs
theorem up_of {S:Ts} {z:Str} {e:He} (h:S.at z=some e):upS S z=e.x.el:=by unfold upS;rw [h];rfl
theorem line_end {S:Ts} {z:Str} {zs:List Str} (h:LineOf S z zs):anc S zs.length z=none:=by
 induction h with
 |top h n=>show (upS S _).bind _=none;rw [up_of h,n];rfl
 |up h n r ih=>show (upS S _).bind _=none;rw [up_of h,n];exact ih
theorem no_cycle {S:Ts} (w:WF S) {k:Nat} {z:Str}:anc S (k+1) z≠some z:=by
 intro c
 cases hz:S.at z with
 |none=>
  have:anc S (k+1) z=none:=by show (upS S z).bind _=none;unfold upS;rw [hz];rfl
  rw [this] at c;cases c
 |some e=>
  obtain⟨zs,hl⟩:=w.2 e (qcd hz).1
  rw [(qcd hz).2] at hl
  have he:=line_end hl
  have rep:∀m,anc S (m*(k+1)) z=some z:=by
   intro m
   induction m with
   |zero=>rw [Nat.zero_mul];rfl
   |succ m ih=>rw [Nat.succ_mul,qdy,ih];exact c
  have h1:=rep zs.length
  have h2:zs.length*(k+1)=zs.length+zs.length*k:=by rw [Nat.mul_add,Nat.mul_one];omega
  rw [h2,qdy,he] at h1
  cases h1
theorem kid_up {S:Ts} (w:WF S) {y z:Str} (h:y∈qbg S z):upS S y=some z:=by
 obtain⟨e,he,rfl⟩:=zI.mp h
 obtain⟨hm,hd⟩:=zY.mp he
 unfold upS
 rw [at_of w.1 hm]
 exact of_decide_eq_true hd
theorem kids_nodup {S:Ts} (w:WF S) (z:Str):(qbg S z).Nodup:=by
 unfold qbg
 exact List.Nodup.sublist (List.Sublist.map _ yS) w.1
theorem ben_anc {S:Ts} (w:WF S):∀{n:Nat} {z:Str} {zs:List Str},BenP S n z zs->∀y∈zs,∃k,anc S k y=some z
 |0,z,_,⟨parts,rest,hp,rfl,hb⟩,y,hy=>by
  rcases zR.mp hy with rfl|hy
  .exact⟨0,rfl⟩
  .obtain⟨l,hl,_⟩:=yW.mp hy
   obtain⟨p,hpp,_⟩:=zI.mp hl
   exact(hb p hpp).elim
 |n+1,z,_,⟨parts,rest,hp,rfl,hb⟩,y,hy=>by
  rcases zR.mp hy with rfl|hy
  .exact⟨0,rfl⟩
  .obtain⟨l,hl,hyl⟩:=yW.mp hy
   obtain⟨p,hpp,rfl⟩:=zI.mp hl
   obtain⟨k,hk⟩:=ben_anc w (hb p hpp) y hyl
   have hu:=kid_up w (hp.mem_iff.mp (yG _ (zI.mpr ⟨p,hpp,rfl⟩)))
   exact⟨k+1,by rw [qdy,hk];show (upS S p.1).bind _=_;rw [hu];rfl⟩
theorem apart {S:Ts} (w:WF S) {p q z y:Str} {i j:Nat} (hp:upS S p=some z) (hq:upS S q=some z) (ne:p≠q) (hi:anc S i y=some p) (hj:anc S j y=some q) (le:i<=j):False:=by
 obtain⟨c,rfl⟩:=Nat.exists_eq_add_of_le le
 rw [qdy,hi] at hj
 have hj':anc S c p=some q:=hj
 cases c with
 |zero=>exact ne (uX hj')
 |succ c=>
  have h1:(upS S p).bind (anc S c)=some q:=hj'
  rw [hp] at h1
  have h2:anc S c z=some q:=h1
  refine no_cycle w (k:=c) (z:=z) ?_
  rw [qdy,h2]
  show (upS S q).bind _=_
  rw [hq];rfl
theorem qf1 {S:Ts} (w:WF S) {z:Str}:∀{parts:List (Str × List Str)},(parts.map (·.1)).Nodup->(∀p∈parts,upS S p.1=some z)->(∀p∈parts,p.2.Nodup/\∀y∈p.2,∃k,anc S k y=some p.1)->(flat parts).Nodup
 | [],_,_,_=>yR
 |p :: r,nd,hu,hb=>by
  rw [zS,yC] at nd
  have ih:=qf1 w (z:=z) nd.2 (fun q hq=>hu q (zE _ hq)) fun q hq=>hb q (zE _ hq)
  show (p.2++flat r).Nodup
  rw [yJ]
  refine⟨(hb p (zG ..)).1,ih,fun a ha b hbm e=>?_⟩
  subst e
  obtain⟨l,hl,hal⟩:=yW.mp hbm
  obtain⟨q,hq,rfl⟩:=zI.mp hl
  obtain⟨i,hi⟩:=(hb p (zG ..)).2 a ha
  obtain⟨j,hj⟩:=(hb q (zE _ hq)).2 a hal
  have ne:p.1≠q.1:=fun z=>nd.1 (by rw [z];exact zI.mpr ⟨q,hq,rfl⟩)
  have up:=hu p (zG ..)
  have uq:=hu q (zE _ hq)
  rcases Nat.le_total i j with h|h
  .exact apart w up uq ne hi hj h
  .exact apart w uq up ne.symm hj hi h
theorem qd0 {S:Ts} (w:WF S):∀{n:Nat} {z:Str} {zs:List Str},BenP S n z zs->zs.Nodup/\∀y∈zs,y=z\/y∈S.hl.map (·.n)
 |0,z,_,⟨parts,rest,hp,rfl,hb⟩=>by
  have:parts=[]:=by
   cases parts with
   |nil=>rfl
   |cons p r=>exact(hb p (zG ..)).elim
  subst this
  exact⟨by simp [flat],fun y hy=> .inl (by simpa [flat] using hy)⟩
 |n+1,z,_,⟨parts,rest,hp,rfl,hb⟩=>by
  have kd:=kids_nodup w z
  have hk:∀p∈parts,p.1∈qbg S z:=fun p h=>hp.mem_iff.mp (yG _ (zI.mpr ⟨p,h,rfl⟩))
  have hu:∀p∈parts,upS S p.1=some z:=fun p h=>kid_up w (hk p h)
  have hn:(parts.map (·.1)).Nodup:=(yJ.mp (hp.nodup_iff.mpr kd)).1
  have fl:=qf1 w (z:=z) hn hu fun p h=>⟨(qd0 w (hb p h)).1,ben_anc w (hb p h)⟩
  refine⟨yC.mpr ⟨fun hm=>?_,fl⟩,fun y hy=>?_⟩
  .obtain⟨l,hl,hal⟩:=yW.mp hm
   obtain⟨q,hq,rfl⟩:=zI.mp hl
   obtain⟨k,hk'⟩:=ben_anc w (hb q hq) z hal
   refine no_cycle w (k:=k) (z:=z) ?_
   rw [qdy,hk']
   show (upS S q.1).bind _=_
   rw [hu q hq];rfl
  .rcases zR.mp hy with rfl|hy
   .exact .inl rfl
   .obtain⟨l,hl,hal⟩:=yW.mp hy
    obtain⟨q,hq,rfl⟩:=zI.mp hl
    have hq1:q.1∈S.hl.map (·.n):=by
     obtain⟨e,he,e1⟩:=zI.mp (hk q hq)
     rw [<-e1];exact zI.mpr ⟨e,(zY.mp he).1,rfl⟩
    rcases(qd0 w (hb q hq)).2 y hal with rfl|h
    .exact .inr hq1
    .exact .inr h
theorem qfx {S:Ts} (w:WF S) (hz:S.hl.length<=60):Slim S:=fun n z zs h=>by
 obtain⟨nd,hm⟩:=qd0 w h
 have:=nd_le (m:=z :: S.hl.map (·.n)) nd fun y hy=>by
  rcases hm y hy with rfl|h
  .exact zG ..
  .exact zE _ h
 rw [zZ,zB] at this
 omega
noncomputable def ptOf (S:Ts) (y:Str):Pt:=match S.at y with
 |some e=>⟨e.x.pa,e.x.kp,e.x.fp⟩
 |none=>⟨0, [],noF⟩
theorem qg4 {S:Ts} {y:Str} {e:He} (h:S.at y=some e):ptOf S y=⟨e.x.pa,e.x.kp,e.x.fp⟩:=by unfold ptOf;rw [h]
noncomputable def qgk (S:Ts):Prop:=S.ws.length<=100/\∀e∈S.hl,∀z,e.x.fp z≠none->z∈S.ws
noncomputable def w3w (K:uR) (d:Ad):Sp:=fun vs H Q E=>∃(t:Addr) (S:Ts) (x:V),vs=[.ref t,x]/\qes d H t S/\WF S/\qgk S/\qe8 K H x/\
 (∀e,who S x=some e->Dep S 12 e.n/\∀l zs k' H',qar H H'->H l=none->H' l=some (.dK k')->Ben S 12 e.n zs->AD k' (sumF (zs.map (ptOf S)))->Q (.ref l) H')/\(who S x=none->∀l,H l=none->E (.ref d.w0e) none (upd H l (.lst [x])))
include T in
theorem w40:FnOk P w K mg base (My.CX1 P w) 17 d.w0v d.w0p ["self","name"] (w3w K d):=by
 refine okX T.w44 w3y (fun vs H Q E h=>?_) (fun cdv A outer s H vs Q E hr h=>?_)
 .obtain⟨t,S,x,rfl,_⟩:=h;rfl
 obtain⟨t,S,x,rfl,hT,hW,hO,hx,q1,q2⟩:=h
 refine⟨_,(qa5 (qai (qa8 ((w8j T).mono (by decide)) hr rfl T.w9k T.w6n.kp T.w98 .nil qak (qa0 (qbp (caps:=[0]) (cn:=["self"]) (qb1 rfl rfl (by rfl) (by rfl) rfl ⟨rfl,trivial⟩ (by rfl) rfl ⟨⟨rfl,rfl,rfl,rfl,_,rfl⟩,trivial⟩ (by decide)) rfl (qau (qb4 (pv 0) T.w01 T.w0c ((w3d T).mono (by decide)) hr T.w2d .nil qb0 (qa0 (pv 1) qa2))) (fun _ _ _ _=>qd8) (fun _ _ _ _=>(qbb (qbt (qcb hr) (qbb (pv 1) rfl) (pv 0) (fun _ _=>rfl)) rfl))) qa2)))),?_⟩
 walk_at "d"
 dsimp only [cxC]
 refine qah (σ:=[some (.ref t),some (x)]) rfl ?_
 have ct:=T.w01
 have ch:=T.w1m
 have nh:qaz K d.w00 "houses":=T.w03
 have nf:qaz K d.w05 "promise":=T.w0a
 obtain⟨dx,ht⟩:=hT.1
 have nd:=hT.2.2.2.1
 left
 refine⟨t,S,x,rfl,hT,qfx hW hT.2.2.2.2.1,hx,fun e he=>⟨(q1 e he).1,?_⟩,q2⟩
 obtain⟨hD,q⟩:=q1 e he
 intro lb zs H1 s1 hlb eb hB
 left
 have hT1:=hT.same s1
 obtain⟨⟨_,ht1⟩,hw,hh,_,hz,hE⟩:=hT1
 have hbn:=qd0 hW (Ben.part hB)
 have hzs:=qfx hW hz 12 _ _ (Ben.part hB)
 have hin:∀y∈zs,∃ey,S.at y=some ey/\ey∈S.hl:=fun y hy=>by
  have hy':y∈S.hl.map (·.n):=by
   rcases hbn.2 y hy with rfl|h
   .obtain⟨z,rfl⟩:∃z,x=.str z:=by
     rcases hx with h|⟨_,nz⟩
     .exact h
     .rw [qde nz] at he;cases he
    exact zI.mpr ⟨e,(qcd he).1,rfl⟩
   .exact h
  obtain⟨ey,hm,rfl⟩:=zI.mp hy'
  exact⟨ey,at_of nd hm,hm⟩
 intro C s0 H0 fp na hna
 refine qel zs.length (fun i H'=>H'=upd H1 na (.lst (((zs.take i).map (ptOf S)).map fun u=> .ref u.a))) rfl ?_ ?_ ?_ ?_
 .rintro i H' hi rfl
  exact⟨_,.str zs[i],SqL.of (qae eb hna),by rw [zC,zA hi];rfl⟩
 .rintro H' rfl
  exact⟨_,SqL.of (qae eb hna),by rw [zB];exact uG _⟩
 .rintro i H' v H'' hi rfl ⟨rfl,hy⟩
  have hv:=hy _ (SqL.of (qae eb hna))
  rw [zC,zA hi] at hv
  cases hv
  obtain⟨ey,h1,hm⟩:=hin _ (zM hi)
  obtain⟨⟨dy,hya⟩,_⟩:=hE ey hm
  left
  refine r_dgO (h:=ey.a) (rd_new (.inl hh) hna) (by rw [qdv,h1];rfl) ?_
  left
  rw [qbn,zL,zA hi]
  congr 2
  simp only [Option.toList_some,zD,zS,fY,qg4 h1]
 rintro H' rfl
 rw [zP]
 have s2:=qa9 hna (.lst ((zs.map (ptOf S)).map fun u=>V.ref u.a))
 have eN:upd H1 na (.lst ((zs.map (ptOf S)).map fun u=>V.ref u.a)) na=some (.lst ((zs.map (ptOf S)).map fun u=>V.ref u.a)):=qa3
 left
 refine⟨na,zs.map (ptOf S),S.ws,rfl,SqL.of eN,hO.1,fun u hu=>?_,fun l k' H2 s3 hl el hA=>q l zs k' H2 ((s1.trans s2).trans s3) ((s1.trans s2).free hl) el hB hA⟩
 obtain⟨y,hy,rfl⟩:=zI.mp hu
 obtain⟨ey,h1,hm⟩:=hin y hy
 obtain⟨_,hp,hA,_⟩:=hE ey hm
 rw [qg4 h1]
 exact⟨s2 _ _ hp,hA,hO.2 ey hm⟩
include T in
theorem w8v:FnOk P w K mg base CX0 1 d.w4k d.w3r ["self","house","ware"] (fun _ _ _ _=>False):=wf2
noncomputable def w6r (K:uR) (d:Ad):Sp:=fun vs H Q _=>∃(x:V) (a b:Addr) (ka kb:List (Key × V)) (f g:Str->Option Int),vs=[x,.ref a,.ref b]/\Rd H a (.dK ka)/\Rd H b (.dK kb)/\AD ka f/\AD kb g/\ka.length < 64/\(∀z n,f z=some n->n<=gN g z)/\∀H',qar H H'->Q .non H'
include T in
theorem w26:FnOk P w K mg base (My.CX1 P w) 3 d.w2p d.w29 ["name","promises","cap"] (w6r K d):=by
 refine okX T.w1l w41 (fun vs H Q E h=>?_) (fun cdv A outer s H vs Q E hr h=>?_)
 .obtain⟨x,a,b,ka,kb,f,g,rfl,_⟩:=h;rfl
 obtain⟨x,a,b,ka,kb,f,g,rfl,ha,hb,hf,hg,hz,hw,q⟩:=h
 refine⟨_,(qa1 (qag (i:=3) w41.nd rfl (uJ rfl) (qa8 ((wec T).mono (by decide)) hr rfl T.wfz T.wdj.kp T.wfi .nil qak (qa0 (pv 1) (qa0 (pv 2) qa2))))
  (qa5 (qbh (qam qg6 (pv 3) qcy (qas _)) (qa5 (ps_raiseI rfl T.wan ((w8v T).mono (by decide)) hr T.w9o rfl T.wcd qb0 (qa0 (pv 0) (qa0 (pv 3) qa2)))) qaq))),?_⟩
 walk_at "d"
 refine qah (σ:=[some (x),some (.ref a),some (.ref b),none]) rfl ?_
 left
 refine⟨a,b,ka,kb,f,g,rfl,ha,hb,hf,hg,hz,fun H' sm _=>?_,fun z H' sm hv _=>?_⟩
 .left
  exact q _ sm
 .obtain⟨h1,h2⟩:=hv
  cases e:f z with
  |none=>exact absurd e h1
  |some n=>
   have h3:=hw z n e
   have h4:gN f z=n:=by unfold gN;rw [e];rfl
   omega
noncomputable def w6c (K:uR) (d:Ad):Sp:=fun vs H Q _=>∃(t lb m:Addr) (S:Ts) (zs:List Str) (km:List (Key × V)) (fm:Str->Option Int),vs=[.ref t,.ref lb,.ref m]/\qes d H t S/\WF S/\qgk S/\SqL K H lb (zs.map V.str)/\H m=some (.dK km)/\AD km fm/\S.ws.length<=50/\(∀z,fm z≠none->z∈S.ws)/\
 (∀y∈zs,∃e,S.at y=some e/\Dep S 12 y/\∀bs,Ben S 12 y bs->∀z n,addF (sumF (bs.map (ptOf S))) fm z=some n->n<=gN e.x.fc z)/\∀H',qar H H'->Q .non H'
include T in
theorem w6l:FnOk P w K mg base (My.CX1 P w) 18 d.w28 d.w24 ["self","names","more"] (w6c K d):=by
 refine okX T.w6u w3j (fun vs H Q E h=>?_) (fun cdv A outer s H vs Q E hr h=>?_)
 .obtain⟨t,lb,m,S,zs,km,fm,rfl,_⟩:=h;rfl
 obtain⟨t,lb,m,S,zs,km,fm,rfl,hT,hW,hO,hL,hm,hA,hws,hfm,hy,q⟩:=h
 refine⟨_,(qa5 (qb7 (qf0 rfl rfl) rfl (qau (pv 1)) (qac (i:=3) w3j.nd rfl (uJ rfl)) (qa5 (qba (qbs ((w26 T).mono (by decide)) hr rfl T.w2q T.w1l.kp T.w2l .nil qb0 (qa0 (pv 3) (qa0 (qa8 ((wdd T).mono (by decide)) hr rfl T.wei T.wd4.kp T.wf0 .nil qak (qa0 (qb4 (pv 0) T.w01 T.w07 ((w40 T).mono (by decide)) hr T.w47 .nil qb0 (qa0 (pv 3) qa2)) (qa0 (pv 2) qa2))) (qa0 (qbb (qbt (qcb hr) (qbb (pv 0) rfl) (pv 3) (fun _ _=>rfl)) rfl) qa2)))))))),?_⟩
 walk_at "d"
 refine qah (σ:=[some (.ref t),some (.ref lb),some (.ref m),none]) rfl ?_
 have ct:=T.w01
 have ch:=T.w1m
 have nh:qaz K d.w00 "houses":=T.w03
 have nf:qaz K d.w05 "cap":=T.w0k
 left
 refine qcz (xs:=zs.map V.str) (fun i σ H'=>qar H H'/\∃w,σ=[some (.ref t),some (.ref lb),some (.ref m),w]) ⟨qar.refl _,_,rfl⟩ ?_ ?_ ?_
 .rintro i σ H' _ ⟨sm,_⟩;exact sm.seq hL
 .rintro i v σ H' hv ⟨sm,w,rfl⟩
  rw [zC] at hv
  obtain⟨y,hyi,rfl⟩:=uU.mp hv
  obtain⟨e,h1,hD,hb⟩:=hy y (zF hyi)
  obtain⟨dx,ht⟩:=(hT.same sm).1
  left
  have sup:∀bs:List Str,(∀b∈bs,∃eb,S.at b=some eb/\eb∈S.hl)->∀z,sumF (bs.map (ptOf S)) z≠none->z∈S.ws:=fun bs hbs=>by
   refine sum_sup (fun u hu z hz=>?_) noF (fun z hz=>absurd rfl hz)
   obtain⟨b,hb1,rfl⟩:=zI.mp hu
   obtain⟨eb,h3,h4⟩:=hbs b hb1
   rw [qg4 h3] at hz
   exact hO.2 eb h4 z hz
  refine⟨t,S,.str y,rfl,hT.same sm,hW,hO,.inl ⟨y,rfl⟩,fun e' he'=>?_,fun hn=>?_⟩
  .have ee:e=e':=uX (h1.symm.trans he')
   subst ee
   have hme:=qcd h1
   rw [hme.2]
   refine⟨hD,fun l bs k' H2 s2 hl el hB hA2=>?_⟩
   have hbs:∀b∈bs,∃eb,S.at b=some eb/\eb∈S.hl:=fun b hb1=>by
    have hb2:b∈S.hl.map (·.n):=by
     rcases(qd0 hW (Ben.part hB)).2 b hb1 with rfl|h
     .exact zI.mpr ⟨e,hme.1,hme.2⟩
     .exact h
    obtain⟨eb,h3,rfl⟩:=zI.mp hb2
    exact⟨eb,at_of hW.1 h3,h3⟩
   have l1:=hA2.le (sup bs hbs)
   have l2:=hA.le hfm
   left
   refine⟨l,m,k',km,_,fm,rfl,.inl el,(sm.trans s2) _ _ hm,hA2,hA,by omega,by omega,fun lx kx H3 s3 hlx elx hA3=>?_⟩
   have sx:=(sm.trans s2).trans s3
   obtain⟨⟨dx3,ht3⟩,_,hh3,_,_,hE3⟩:=hT.same sx
   obtain⟨⟨dh,ho⟩,_,_,hc,hcA⟩:=hE3 e hme.1
   left
   refine r_dgO (h:=e.a) (.inl hh3) (by rw [qdv,h1];rfl) ?_
   left
   refine⟨.str y,lx,e.x.ca,kx,e.x.kc,_,e.x.fc,rfl,.inl elx,.inl hc,hA3,hcA,?_,hb bs hB,fun H4 s4=>⟨sx.trans s4,_,rfl⟩⟩
   have l3:=hA3.le (ws:=S.ws) (addF_sup (sup bs hbs) hfm)
   omega
  .rw [show who S (.str y)=some e from h1] at hn;cases hn
 .rintro σ H' ⟨sm,w,rfl⟩
  left
  exact q _ sm
noncomputable def wc2 (K:uR) (d:Ad):Sp:=fun vs H Q _=>∃i:Int,vs=[.int i]/\Q (.bl true) H
noncomputable def w7k (K:uR) (d:Ad):Sp:=fun vs H Q _=>∃i a b:Int,vs=[.int i,.int a,.int b]/\a<=i/\i<=b/\Q (.bl true) H
noncomputable def wbs (K:uR) (d:Ad):Sp:=fun vs H Q _=>∃i:Int,vs=[.int i]/\0<=i/\i<=10^30/\Q (.bl true) H
include T in
theorem wc1:FnOk P w K mg base CX0 1 d.w6x d.w60 ["thing"] (wc2 K d):=by
 refine T.w9j.ok wc3 (fun vs H Q E h=>?_) (fun cdv A outer s H vs Q E hr h=>?_)
 .obtain⟨i,rfl,_⟩:=h;rfl
 obtain⟨i,rfl,q⟩:=h
 refine⟨_,(qa5 (qai (qe3 (qaf qb9 rfl T.w04 uV (qa0 (pv 0) (qa0 (qbu (v:=.ty "int") rfl T.wdv wY rfl) qa2))) (qdi (pe_not (qaf qb9 rfl T.w04 uV (qa0 (pv 0) (qa0 (qbu (v:=.ty "bool") rfl T.wgj PyProof.Rows.boot_bool rfl) qa2)))))))),?_⟩
 walk_at "d"
 refine qah (σ:=[some (.int i)]) rfl ?_
 left
 exact q
include T in
theorem w4o:FnOk P w K mg base CX0 2 d.w39 d.w2i ["thing","least","most"] (w7k K d):=by
 refine T.w37.ok w7m (fun vs H Q E h=>?_) (fun cdv A outer s H vs Q E hr h=>?_)
 .obtain⟨i,a,b,rfl,_⟩:=h;rfl
 obtain⟨i,a,b,rfl,h1,h2,q⟩:=h
 refine⟨_,(qa5 (qai (qe3 (qa8 ((wc1 T).mono (by decide)) hr rfl T.we3 T.w9j.kp T.wdt .nil qak (qa0 (pv 0) qa2)) (qdi (pe_chain op_le op_le (pv 1) (pv 0) (pv 2)))))),?_⟩
 walk_at "d"
 refine qah (σ:=[some (.int i),some (.int a),some (.int b)]) rfl ?_
 left
 refine⟨i,rfl,?_⟩
 left
 rw [gU h2]
 exact q
include T in
theorem wbc:FnOk P w K mg base CX0 3 d.w5y d.w56 ["thing"] (wbs K d):=by
 refine T.w85.ok wb9 (fun vs H Q E h=>?_) (fun cdv A outer s H vs Q E hr h=>?_)
 .obtain⟨i,rfl,_⟩:=h;rfl
 obtain⟨i,rfl,h1,h2,q⟩:=h
 refine⟨_,(qa5 (qai (qa8 ((w4o T).mono (by decide)) hr rfl T.w54 T.w37.kp T.w5g .nil qak (qa0 (pv 0) (qa0 qa4 (qa0 (qao op_pow qa4 qa4) qa2)))))),?_⟩
 walk_at "d"
 refine qah (σ:=[some (.int i)]) rfl ?_
 left
 refine⟨i,0,_,rfl,h1,?_,?_⟩
 .exact h2
 left
 exact q
theorem qgb {z:Str} {ws:List Str} (h:z∈ws):inV (.str z) (ws.map V.str)=true:=by
 unfold inV
 rw [yY]
 exact⟨.str z,zI.mpr ⟨z,h,rfl⟩,by simp [eqV]⟩
theorem qdz {K:uR} {H:Hp} {Q:VK} {p:Addr} {z:Str} {ws:List Str} (hS:SqL K H p (ws.map V.str)) (h:z∈ws) (q:Q (.bl false) H):rIn K true (.str z) (.ref p) H Q:=by
 refine⟨p,_,rfl,.inl hS,rfl,?_,?_⟩
 .rw [yM]
  intro x hx
  obtain⟨y,_,rfl⟩:=zI.mp hx
  rfl
 .rw [qgb h];exact q
noncomputable def w9r (K:uR) (d:Ad):Sp:=fun vs H Q _=>∃(a w:Addr) (k:List (Key × V)) (f:Str->Option Int) (ws:List Str),vs=[.ref a,.ref w]/\H a=some (.dK k)/\AD k f/\k.length<=1000/\H w=some (.lst (ws.map V.str))/\(∀z n,f z=some n->z∈ws/\0<=n/\n<=10^30)/\
 ∀l k' H',qar H H'->H l=none->H' l=some (.dK k')->AD k' (qcw f)->Q (.ref l) H'
include T in
theorem w6h:FnOk P w K mg base (My.CX1 P w) 4 d.w4w d.w4h ["handed","wares"] (w9r K d):=by
 refine okX T.w51 w4a (fun vs H Q E h=>?_) (fun cdv A outer s H vs Q E hr h=>?_)
 .obtain⟨a,w,k,f,ws,rfl,_⟩:=h;rfl
 obtain⟨a,w,kvs,f,ws,rfl,ha,hA,hz,hw,hf,q⟩:=h
 refine⟨_,(qa1 (qbh (qbj (qb6 (qaf qb9 rfl T.w04 uV (qa0 (pv 0) (qa0 (qbu (v:=.ty "dict") rfl T.w9c wU rfl) qa2))))) (qa5 (qc7 rfl T.w9b rfl T.w9e qb0 (qa0 qcx qa2))) qaq)
  (qa1 (ps_thA (qb7 (qf0 rfl rfl) rfl (qec (pv 0)) (qac (i:=2) w4a.nd rfl (uJ rfl)) (qa5 (qbh (PW.pt (qcr (qbj (qb6 (qaf qb9 rfl T.w04 uV (qa0 (pv 2) (qa0 (qbu (v:=.ty "str") rfl T.wdq wW rfl) qa2))))) (qd6 (qam qbl (pv 2) (pv 1) (by rfl))))) (qa5 (qc7 rfl T.wda rfl T.wde qb0 (qa0 qcx qa2))) qaq))))
  (qa1 (ps_thA (qb7 (qf0 rfl rfl) rfl (qec (pv 0)) (qac (i:=3) w4a.nd rfl (uJ rfl)) (qa5 (qbh (qbj (qb6 (qa8 ((wbc T).mono (by decide)) hr rfl T.wco T.w85.kp T.wct .nil qak (qa0 (qbt (qcb hr) (pv 0) (pv 3) (fun _ _=>rfl)) qa2)))) (qa5 (qc7 rfl T.w9b rfl T.w9e qb0 (qa0 qcx qa2))) qaq))))
  (qa5 (qai (qa8 ((w8s T).mono (by decide)) hr rfl T.w96 T.w5n.kp T.w93 .nil qak (qa0 (pv 0) qa2))))))),?_⟩
 walk_at "d"
 refine qah (σ:=[some (.ref a),some (.ref w),none,none]) rfl ?_
 left
 refine r_itD ha fun o=>?_
 have hwa:w≠a:=ne_of hw ha (by intro z;cases z)
 refine f_dict (fun i σ H'=>H'=upd H a (.frz o (.dK kvs))/\∃w2 w3,σ=[some (.ref a),some (.ref w),w2,w3]) ⟨rfl,_,_,rfl⟩ ?_ ?_ ?_
 .rintro i σ H' _ ⟨rfl,_⟩;exact qa3
 .rintro i k v σ H' hk ⟨rfl,w2,w3,rfl⟩
  obtain⟨z,n,rfl,rfl,hfz,hzi⟩:=hA.at hk
  have hw':upd H a (.frz o (.dK kvs)) w=some (.lst (ws.map V.str)):=by rw [qa6 hwa];exact hw
  show qgd _ (.str z) _ _ _
  left
  refine qdz (SqL.of hw') (hf z n hfz).1 ?_
  left
  exact⟨rfl,_,_,rfl⟩
 .rintro σ H' ⟨rfl,w2,w3,rfl⟩
  refine r_thNx (thaw1 qa3 (qdm ha)) ?_
  have s2:=qcu ha (sb_frz (o:=o) ha)
  have ha2:upd (upd H a (.frz o (.dK kvs))) a (.dK kvs) a=some (.dK kvs):=qa3
  generalize upd (upd H a (.frz o (.dK kvs))) a (.dK kvs)=H2 at*
  left
  refine r_itD ha2 fun o2=>?_
  refine f_dict (fun i σ H'=>H'=upd H2 a (.frz o2 (.dK kvs))/\∃w3,σ=[some (.ref a),some (.ref w),w2,w3]) ⟨rfl,_,rfl⟩ ?_ ?_ ?_
  .rintro i σ H' _ ⟨rfl,_⟩;exact qa3
  .rintro i k v σ H' hk ⟨rfl,w3,rfl⟩
   obtain⟨z,n,rfl,rfl,hfz,hzi⟩:=hA.at hk
   have hRd:Rd (upd H2 a (.frz o2 (.dK kvs))) a (.dK kvs):=.inr ⟨o2,qa3⟩
   show qgd _ (.str z) _ _ _
   left
   refine⟨n,rfl,(hf z n hfz).2.1,(hf z n hfz).2.2,?_⟩
   left
   exact⟨rfl,_,rfl⟩
  .rintro σ H' ⟨rfl,w3,rfl⟩
   refine r_thNx (thaw1 qa3 ?_) ?_
   .exact qdm ha
   have s3:=qcu ha2 (sb_frz (o:=o2) ha2)
   have ha3:upd (upd H2 a (.frz o2 (.dK kvs))) a (.dK kvs) a=some (.dK kvs):=qa3
   generalize upd (upd H2 a (.frz o2 (.dK kvs))) a (.dK kvs)=H3 at*
   left
   refine⟨a,kvs,f,rfl,ha3,hA,hz,fun l k' H4 s4 hl el hA4=>?_⟩
   left
   exact q l k' H4 ((s2.trans s3).trans s4) ((s2.trans s3).free hl) el hA4
noncomputable def w9z (K:uR) (d:Ad):Sp:=fun vs H Q _=>∃(x dx:Addr) (o:Ho),vs=[.ref x,eV o.el,.ref o.pa,.ref o.ca,.int o.w]/\H x=some (.ins d.w05 dx [])/\∀H',H' x=some (.ins d.w05 dx (fsH o))->SameBut x H H'->Q .non H'
include T in
theorem w9n:FnOk P w K mg base CX0 1 d.w5k d.w4j ["self","elder","promise","cap","weight"] (w9z K d):=by
 refine T.wbi.ok waj (fun vs H Q E h=>?_) (fun cdv A outer s H vs Q E hr h=>?_)
 .obtain⟨x,dx,o,rfl,_⟩:=h;rfl
 obtain⟨x,dx,o,rfl,hx,q⟩:=h
 refine⟨_,(qa1 (qdh (pv 0) (pv 1) rfl)
  (qa1 (qdh (pv 0) (pv 2) rfl)
  (qa1 (qdh (pv 0) (pv 3) rfl)
  (qa5 (qdh (pv 0) (pv 4) rfl))))),?_⟩
 walk_at "d"
 refine qah (σ:=[some (.ref x),some (eV o.el),some (.ref o.pa),some (.ref o.ca),some (.int o.w)]) rfl ?_
 have cl:=T.w1m
 have n1:qaz K d.w05 "elder":=T.w0l
 have n2:qaz K d.w05 "promise":=T.w0a
 have n3:qaz K d.w05 "cap":=T.w0k
 have n4:qaz K d.w05 "weight":=T.w1d
 left
 refine qg2 qa3 cl n2 (by show 1 < 1000;decide) ?_
 left
 refine qg2 qa3 cl n3 (by show 2 < 1000;decide) ?_
 left
 refine qg2 qa3 cl n4 (by show 3 < 1000;decide) ?_
 left
 refine q _ (by rw [qa3];rfl) fun b u hb e=>?_
 rw [qa6 hb,qa6 hb,qa6 hb,qa6 hb]
 exact e
noncomputable def wa4 (K:uR) (d:Ad):Sp:=fun vs H Q _=>∃(w a b:Addr) (el:Option Str) (ws:List Str) (ka kb:List (Key × V)) (f g:Str->Option Int) (wt:Int),vs=[.ref w,eV el,.ref a,.ref b,.int wt]/\H w=some (.lst (ws.map V.str))/\
 H a=some (.dK ka)/\AD ka f/\ka.length<=1000/\H b=some (.dK kb)/\AD kb g/\kb.length<=1000/\(∀z n,f z=some n->z∈ws/\0<=n/\n<=10^30)/\(∀z n,g z=some n->z∈ws/\0<=n/\n<=10^30)/\1<=wt/\wt<=1000/\
 ∀h o H',qar H H'->H h=none->H o.pa=none->H o.ca=none->HoAt d H' h o->o.el=el->o.w=wt->(∀z,o.fp z=qcw f z)->(∀z,o.fc z=qcw g z)->Q (.ref h) H'
include T in
theorem w6j:FnOk P w K mg base (My.CX1 P w) 5 d.w4u d.w48 ["wares","elder","promise","cap","weight"] (wa4 K d):=by
 refine okX T.w50 w4i (fun vs H Q E h=>?_) (fun cdv A outer s H vs Q E hr h=>?_)
 .obtain⟨w,a,b,el,ws,ka,kb,f,g,wt,rfl,_⟩:=h;rfl
 obtain⟨w,a,b,el,ws,ka,kb,f,g,wt,rfl,hw,ha,hA,hz,hb,hB,hz2,hf,hg,w0,w1,q⟩:=h
 refine⟨_,(qa1 (qag (i:=5) w4i.nd rfl (uJ rfl) (qbs ((w6h T).mono (by decide)) hr rfl T.w7e T.w51.kp T.w77 .nil qb0 (qa0 (pv 2) (qa0 (pv 0) qa2))))
  (qa1 (qag (i:=6) w4i.nd rfl (uJ rfl) (qbs ((w6h T).mono (by decide)) hr rfl T.w7e T.w51.kp T.w77 .nil qb0 (qa0 (pv 3) (qa0 (pv 0) qa2))))
  (qa1 (qbh (qbj (qb6 (qa8 ((w4o T).mono (by decide)) hr rfl T.w54 T.w37.kp T.w5g .nil qak (qa0 (pv 4) (qa0 qa4 (qa0 (qee rfl T.w72 T.w0r) qa2)))))) (qa5 (qc7 rfl T.wdm rfl T.we0 qb0 (qa0 qcx qa2))) qaq)
  (qa5 (qai (pe_make T.w6k ((w9n T).mono (by decide)) hr rfl T.wgx T.wb7 .nil qak (qa0 (pv 1) (qa0 (pv 5) (qa0 (pv 6) (qa0 (pv 4) qa2)))))))))),?_⟩
 walk_at "d"
 refine qah (σ:=[some (.ref w),some (eV el),some (.ref a),some (.ref b),some (.int wt),none,none]) rfl ?_
 left
 refine⟨a,w,ka,f,ws,rfl,ha,hA,hz,hw,hf,fun lp kp H1 s1 hlp ep hAp=>?_⟩
 left
 refine⟨b,w,kb,g,ws,rfl,s1 _ _ hb,hB,hz2,s1 _ _ hw,hg,fun lc kc H2 s2 hlc ec hAc=>?_⟩
 left
 refine⟨wt,1,1000,rfl,w0,w1,?_⟩
 left
 intro x dx hx hdx ne
 have ep2:=s2 _ _ ep
 refine⟨x,dx,⟨el,lp,kp,qcw f,lc,kc,qcw g,wt⟩,rfl,qa3,fun H3 ex sb=>⟨rfl,?_⟩⟩
 have s3:qar H2 H3:=fun c o hc=>sb c o (qa7 hc hx) (by rw [qa6 (qa7 hc hx),qa6 (qa7 hc hdx)];exact hc)
 left
 exact q x ⟨el,lp,kp,qcw f,lc,kc,qcw g,wt⟩ H3 ((s1.trans s2).trans s3) ((s1.trans s2).free hx) hlp (s1.free hlc) ⟨⟨dx,ex⟩,s3 _ _ ep2,hAp,s3 _ _ ec,hAc⟩ rfl rfl (fun _=>rfl) fun _=>rfl
theorem qav {H H':Hp} {a:Addr} {o:HO} (s:qar H H') (n:H a=none):qar H (upd H' a o):=fun b u e=>by rw [qa6 (qa7 e n)];exact s b u e
noncomputable def isL (c:Nat):Bool:=decide (97<=c) && decide (c<=122)
theorem inL:∀c:Nat,c < 128->(!(bB (aR "abcdefghijklmnopqrstuvwxyz") ⟨#[c]⟩ 0 (aR "abcdefghijklmnopqrstuvwxyz").length 1).isEmpty)=isL c:=by decide+kernel
noncomputable def qeg (x:Str):List Nat:=x.cps.toList
noncomputable def qdx (x:Str):Bool:=decide (1<=x.length) && decide (x.length<=8) && (qeg x).all isL
theorem len_codes (x:Str):(qeg x).length=x.length:=by simp [qeg,Str.length]
theorem goodS_of {z:Str} (h:qdx z=true):1<=z.length/\z.length<=8/\∀c∈qeg z,isL c=true:=by
 unfold qdx at h
 rw [vS,vS,yM] at h
 exact⟨of_decide_eq_true h.1.1,of_decide_eq_true h.1.2,h.2⟩
theorem isL_lt {c:Nat} (h:isL c=true):c < 128:=by
 unfold isL at h
 rw [vS] at h
 have:=of_decide_eq_true h.2
 omega
noncomputable def wdw (K:uR) (d:Ad):Sp:=fun vs H Q _=>∃z,vs=[.str z]/\qdx z=true/\∀H',qar H H'->Q (.bl true) H'
include T in
theorem w97:FnOk P w K mg base CX0 1 d.w84 d.w6q ["thing"] (wdw K d):=by
 refine T.w8k.ok wdr (fun vs H Q E h=>?_) (fun cdv A outer s H vs Q E hr h=>?_)
 .obtain⟨z,rfl,_⟩:=h;rfl
 obtain⟨z,rfl,hg,q⟩:=h
 obtain⟨h1,h8,hL⟩:=goodS_of hg
 have lz:=len_codes z
 refine⟨_,(qa1 (qbh (qbj (qb6 (qaf qb9 rfl T.w04 uV (qa0 (pv 0) (qa0 (qbu (v:=.ty "str") rfl T.wdq wW rfl) qa2))))) (qa5 (qai qdc)) qaq)
  (qa1 (qbh (PW.pt (qcr (qam op_lt (qaf call_lenS rfl T.w2t vH (qa0 (pv 0) qa2)) qa4 (qas _)) (qd6 (qam qe4 (qaf call_lenS rfl T.w2t vH (qa0 (pv 0) qa2)) (qee rfl T.w92 T.w1i) (qas _))))) (qa5 (qai qdc)) qaq)
  (qa5 (qai (qaf (call_allB rfl) rfl T.whk PyProof.Rows.boot_all (qa0 (qbp (caps:=[]) (cn:=[]) (qb1 rfl rfl (by rfl) (by rfl) rfl trivial (by rfl) rfl trivial (by decide)) rfl (pi_str (pv 0)) (fun _ _ _ _=>qd8) (fun _ _ _ _=>(qbm op_inS (pv 0) (qee rfl T.web T.w5a) (by rfl)))) qa2)))))),?_⟩
 walk_at "d"
 try dsimp only [cxC]
 refine qah (σ:=[some (.str z)]) rfl ?_
 left
 intro C s0 H0 fp acc hacc
 refine qel z.length (fun i H'=>H'=upd H acc (.lst (((qeg z).take i).map fun c=>V.bl (isL c)))) (by simp) (fun i H' hi _=>hi) (fun H' _=>rfl) ?_ ?_
 .rintro i H' v H'' hi rfl ⟨rfl,c,hc,rfl⟩
  have hc':(qeg z)[i]?=some c:=by unfold qeg;rw [bT];exact hc
  have c128:=isL_lt (hL c (zF hc'))
  left
  rw [inL c c128,qbn]
  congr 2
  rw [zL,hc',zD]
  rfl
 .rintro H' rfl
  left
  have e1:((qeg z).take z.length).map (fun c=>V.bl (isL c))=((qeg z).map isL).map V.bl:=by
   rw [<-lz,zP,yP];rfl
  rw [e1]
  refine r_all (bs:=(qeg z).map isL) (SqL.of qa3) ?_
  have e2:((qeg z).map isL).all id=true:=by
   rw [gF,yM]
   exact hL
  rw [e2]
  left
  exact q _ (qa9 hacc _)
noncomputable def wa6 (K:uR) (d:Ad):Sp:=fun vs H Q _=>∃z,vs=[.str z]/\qdx z=true/\∀H',qar H H'->Q .non H'
include T in
theorem w6m:FnOk P w K mg base (My.CX1 P w) 2 d.w5d d.w43 ["thing"] (wa6 K d):=by
 refine okX T.w59 w9p (fun vs H Q E h=>?_) (fun cdv A outer s H vs Q E hr h=>?_)
 .obtain⟨z,rfl,_⟩:=h;rfl
 obtain⟨z,rfl,hg,q⟩:=h
 refine⟨_,(qa5 (qbh (qbj (qb6 (qa8 ((w97 T).mono (by decide)) hr rfl T.wb1 T.w8k.kp T.wbr .nil qak (qa0 (pv 0) qa2)))) (qa5 (qc7 rfl T.wfo rfl T.wg1 qb0 (qa0 qcx qa2))) qaq)),?_⟩
 walk_at "d"
 refine qah (σ:=[some (.str z)]) rfl ?_
 left
 refine⟨z,rfl,hg,fun H' sm=>?_⟩
 left
 exact q _ sm
structure GoodT (ws:List Str):Prop where
 lo:1<=ws.length
 hi:ws.length<=6
 ok:∀z∈ws,qdx z=true
 nd:ws.Nodup
noncomputable def wb5 (K:uR) (d:Ad):Sp:=fun vs H Q _=>∃(a:Addr) (ws:List Str),vs=[.ref a]/\H a=some (.lst (ws.map V.str))/\GoodT ws/\∀H',qar H H'->Q (.bl true) H'
include T in
theorem wbm:FnOk P w K mg base CX0 2 d.w66 d.w4y ["thing"] (wb5 K d):=by
 refine T.w8p.ok wax (fun vs H Q E h=>?_) (fun cdv A outer s H vs Q E hr h=>?_)
 .obtain⟨a,ws,rfl,_⟩:=h;rfl
 obtain⟨a,ws,rfl,ha,g,q⟩:=h
 have g1:=g.lo
 have g2:=g.hi
 have hl:(ws.map V.str).length=ws.length:=zB _
 refine⟨_,(qa1 (qbh (PW.pt (qcr (qbj (qb6 (qaf qb9 rfl T.w04 uV (qa0 (pv 0) (qa0 (qbu (v:=.ty "list") rfl T.wdb bQ rfl) qa2))))) (qcr (qam op_lt (qaf qay rfl T.w2t vH (qa0 (pv 0) qa2)) qa4 (qas _)) (qd6 (qam qe4 (qaf qay rfl T.w2t vH (qa0 (pv 0) qa2)) (qee rfl T.wbg T.w2h) (qas _)))))) (qa5 (qai qdc)) qaq)
  (qa5 (qai (qe3 (qaf (call_allB rfl) rfl T.whk PyProof.Rows.boot_all (qa0 (qbp (caps:=[]) (cn:=[]) (qb1 rfl rfl (by rfl) (by rfl) rfl trivial (by rfl) rfl trivial (by decide)) rfl (qau (pv 0)) (fun _ _ _ _=>qd8) (fun _ _ _ _=>(qa8 ((w97 T).mono (by decide)) hr rfl T.wb1 T.w8k.kp T.wbr .nil qak (qa0 (pv 0) qa2)))) qa2)) (qdi (qbm qen (qaf call_lenT rfl T.w2t vH (qa0 (qbq call_setT rfl T.why PyProof.Rows.boot_set (qa0 (pv 0) qa2)) qa2)) (qaf qay rfl T.w2t vH (qa0 (pv 0) qa2)) (qas _))))))),?_⟩
 walk_at "d"
 try dsimp only [cxC]
 refine qah (σ:=[some (.ref a)]) rfl ?_
 left
 intro C s0 H0 fp acc hacc
 refine qel ws.length (fun i H'=>qar H H'/\H' acc=some (.lst ((bL i true).map V.bl))) ⟨qa9 hacc _,qa3⟩ ?_ ?_ ?_ ?_
 .rintro i H' hi ⟨sm,_⟩
  exact⟨_,.str ws[i],SqL.of (sm _ _ ha),by rw [zC,zA hi];rfl⟩
 .rintro H' ⟨sm,_⟩
  exact⟨_,SqL.of (sm _ _ ha),by rw [hl];exact uG _⟩
 .rintro i H' v H'' hi ⟨sm,ea⟩ ⟨rfl,hy⟩
  have hv:=hy _ (SqL.of (sm _ _ ha))
  rw [zC,zA hi] at hv
  cases hv
  left
  refine⟨ws[i],rfl,g.ok _ (zM hi),fun H2 s2=>?_⟩
  refine⟨_,s2 _ _ ea,by rw [zB,List.length_replicate];show _ < 16777216;omega,qav (sm.trans s2) hacc,?_⟩
  rw [qa3,List.replicate_succ',zD];rfl
 rintro H' ⟨sm,ea⟩
 left
 refine r_all (bs:=bL ws.length true) (SqL.of ea) ?_
 have e2:(bL ws.length true).all id=true:=by simp
 rw [e2]
 left
 refine r_setT (zs:=ws) (SqL.of (sm _ _ ha)) g.nd (by omega) fun c hc=>?_
 left
 refine r_lenT2 qa3 ?_
 left
 refine r_lenL (SqL.of (qae (sm _ _ ha) hc)) ?_
 left
 rw [hl,gU rfl]
 exact q _ (sm.trans (qa9 hc _))
noncomputable def Fin (ws:List Str) (f:Str->Option Int):Prop:=∀z n,f z=some n->z∈ws/\0<=n/\n<=10^30
theorem posF_some {f:Str->Option Int} {y:Str} {n:Int} (h:qcw f y=some n):f y=some n/\0 < n:=by
 unfold qcw at h
 cases e:f y with
 |none=>rw [e] at h;cases h
 |some m=>
  rw [e] at h
  by_cases c:0 < m
  .have h':some m=some n:=by simpa [c] using h
   cases h'
   exact⟨rfl,c⟩
  .exact absurd h (by simp [c])
theorem qf8 {ws:List Str} {f:Str->Option Int} (hf:Fin ws f) (y:Str):gN (qcw f) y=gN f y:=by
 unfold gN qcw
 cases e:f y with
 |none=>rfl
 |some m=>
  have:=(hf y m e).2.1
  by_cases c:0 < m
  .simp [c]
  .have z:m=0:=by omega
   subst z
   rfl
theorem pos_le {ws:List Str} {f g:Str->Option Int} (hg:Fin ws g) (h:∀y,gN f y<=gN g y):∀z n,qcw f z=some n->n<=gN (qcw g) z:=fun z n e=>by
 have e1:=(posF_some e).1
 have:=h z
 rw [qf8 hg]
 unfold gN at this ⊢
 rw [e1] at this
 exact this
theorem pos_in {ws:List Str} {f:Str->Option Int} (hf:Fin ws f):∀z,qcw f z≠none->z∈ws:=fun z h=>by
 cases e:qcw f z with
 |none=>exact absurd e h
 |some n=>exact(hf z n (posF_some e).1).1
noncomputable def wb4 (K:uR) (d:Ad):Sp:=fun vs H Q _=>∃(x dx w a b:Addr) (z:Str) (ws:List Str) (ka kb:List (Key × V)) (f g:Str->Option Int) (wt:Int),vs=[.ref x,.ref w,.str z,.ref a,.ref b,.int wt]/\H x=some (.ins d.w00 dx [])/\
 H w=some (.lst (ws.map V.str))/\GoodT ws/\qdx z=true/\H a=some (.dK ka)/\AD ka f/\ka.length<=1000/\H b=some (.dK kb)/\AD kb g/\kb.length<=1000/\Fin ws f/\Fin ws g/\1<=wt/\wt<=1000/\(∀y,gN f y<=gN g y)/\
 ∀(S:Ts) (e:He) H',SameBut x H H'->qes d H' x S->H S.hs=none->H S.sw=none->H e.a=none->H e.x.pa=none->H e.x.ca=none->S.hl=[e]->e.n=z->e.x.el=none->e.x.w=wt->(∀y,e.x.fp y=qcw f y)->(∀y,e.x.fc y=qcw g y)->S.ws.Perm ws->vF S.ws=true->Q .non H'
include T in
theorem wbk:FnOk P w K mg base (My.CX1 P w) 6 d.w5s d.w3n ["self","wares","name","promise","cap","weight"] (wb4 K d):=by
 refine okDX T.wcz w7f (fun vs H Q E h=>?_) (fun cdv A outer s H vs Q E hr h=>?_)
 .obtain⟨x,dx,w,a,b,z,ws,ka,kb,f,g,wt,rfl,_⟩:=h;rfl
 obtain⟨x,dx,w,a,b,z,ws,ka,kb,f,g,wt,rfl,hx,hw,gt,gz,ha,hA,za,hb,hB,zb,ff,fg,w0,w1,le,q⟩:=h
 have g2:=gt.hi
 refine⟨_,(qa1 (qbh (qbj (qb6 (qa8 ((wbm T).mono (by decide)) hr rfl T.wck T.w8p.kp T.wc8 .nil qak (qa0 (pv 1) qa2)))) (qa5 (qc7 rfl T.wda rfl T.wde qb0 (qa0 qcx qa2))) qaq)
  (qa1 (qba (qbs ((w6m T).mono (by decide)) hr rfl T.w7d T.w59.kp T.w78 .nil qb0 (qa0 (pv 2) qa2)))
  (qa1 (qag (i:=6) w7f.nd rfl (uJ rfl) (qbs ((w6j T).mono (by decide)) hr rfl T.w74 T.w50.kp T.w75 .nil qb0 (qa0 (pv 1) (qa0 qcy (qa0 (pv 3) (qa0 (pv 4) (qa0 (pv 5) qa2)))))))
  (qa1 (qba (qbs ((w26 T).mono (by decide)) hr rfl T.w2q T.w1l.kp T.w2l .nil qb0 (qa0 (pv 2) (qa0 (qbb (pv 6) rfl) (qa0 (qbb (pv 6) rfl) qa2)))))
  (qa1 (qdh (pv 0) (qaf qeh rfl T.w6b xH (qa0 (pv 1) qa2)) rfl)
  (qa5 (qdh (pv 0) (pe_disp (pps_cons (pv 2) (pv 6) pps_nil) rfl rfl (by simp) (by decide)) rfl))))))),?_⟩
 walk_at "d"
 refine qah (σ:=[some (.ref x),some (.ref w),some (.str z),some (.ref a),some (.ref b),some (.int wt),none]) rfl ?_
 have ct:=T.w01
 have ch:=T.w1m
 have n1:qaz K d.w00 "sorted_wares":=T.w09
 have n2:qaz K d.w00 "houses":=T.w03
 have n3:qaz K d.w05 "promise":=T.w0a
 have n4:qaz K d.w05 "cap":=T.w0k
 left
 refine⟨w,ws,rfl,hw,gt,fun H1 s1=>?_⟩
 left
 refine⟨z,rfl,gz,fun H2 s2=>?_⟩
 have t2:=s1.trans s2
 left
 refine⟨w,a,b,none,ws,ka,kb,f,g,wt,rfl,t2 _ _ hw,t2 _ _ ha,hA,za,t2 _ _ hb,hB,zb,ff,fg,w0,w1,fun h o H3 s3 nh np nc hO eel ew efp efc=>?_⟩
 obtain⟨⟨dh,ho⟩,hp,hpA,hc,hcA⟩:=id hO
 have efp':o.fp=qcw f:=funext efp
 have efc':o.fc=qcw g:=funext efc
 have lk:o.kp.length<=ws.length:=hpA.le (by rw [efp'];exact pos_in ff)
 left
 refine⟨.str z,o.pa,o.ca,o.kp,o.kc,o.fp,o.fc,rfl,.inl hp,.inl hc,hpA,hcA,by omega,by rw [efp',efc'];exact pos_le fg le,fun H4 s4=>?_⟩
 have t4:=(t2.trans s3).trans s4
 have hx4:=t4 _ _ hx
 have hO4:=hO.same s4
 left
 refine r_sortL (SqL.of (t4 _ _ hw)) (by omega) fun l ss hl hpm hs=>?_
 left
 rename_i p hpp
 rw [qbn]
 refine qg2 (qae qa3 hpp) ct n2 (by show 1 < 1000;decide) ?_
 left
 have npx:p≠x:=fun e=>by subst e;rw [qa3] at hpp;cases hpp
 have np4':upd H4 l (.lst (ss.map V.str)) p=none:=by rw [qa6 npx] at hpp;exact hpp
 have nlx:x≠l:=qa7 hx4 hl
 have npl:p≠l:=fun e=>by subst e;rw [qa3] at np4';cases np4'
 have np4:H4 p=none:=by rw [qa6 npl] at np4';exact np4'
 have sF:∀b u,b≠x->H4 b=some u->upd (upd (upd (upd H4 l (.lst (ss.map V.str))) x (.ins d.w00 dx (qey "sorted_wares" (V.ref l) []))) p (.dK [(vE z,V.ref h)])) x (.ins d.w00 dx (qey "houses" (V.ref p) (qey "sorted_wares" (V.ref l) []))) b=some u:=fun b u hb e=>by
  rw [qa6 hb,qa6 (qa7 e np4),qa6 hb,qa6 (qa7 e hl)];exact e
 obtain⟨⟨dh4,ho4⟩,hp4,hpA4,hc4,hcA4⟩:=hO4
 refine q ⟨l,ss,p, [⟨z,h,o⟩]⟩ ⟨z,h,o⟩ _ (fun b u hb e=>sF b u hb (t4 _ _ e)) ⟨⟨dx,by rw [qa3];rfl⟩,?_,?_,yC.mpr ⟨by simp,yR⟩,by show 1<=60;decide,fun e he=>?_⟩ (t4.free np4) (t4.free hl) (t2.free nh) (t2.free np) (t2.free nc) rfl rfl eel ew efp efc hpm hs
 .show upd _ _ _ l=_
  rw [qa6 nlx.symm,qa6 npl.symm,qa6 nlx.symm,qa3]
 .show upd _ _ _ p=_
  rw [qa6 npx,qa3]
  rfl
 .have e':e=⟨z,h,o⟩:=by simpa using he
  subst e'
  have n1:∀{b:Addr} {u:HO},H4 b=some u->u≠ .ins d.w00 dx []->b≠x:=fun e1 e2 e3=>by
   subst e3;rw [hx4] at e1;exact e2 (uX e1).symm
  refine⟨⟨dh4,sF _ _ (n1 ho4 fun e=>?_) ho4⟩,sF _ _ (n1 hp4 fun e=>by cases e) hp4,hpA4,sF _ _ (n1 hc4 fun e=>by cases e) hc4,hcA4⟩
  have:=congrArg (fun u:HO=>match u with| .ins _ _ fs=>fs.length|_=>0) e
  simp [fsH] at this
noncomputable def upL (el:Nat->Nat):Nat->Nat->List Nat
 |0,k=> [k]
 |f+1,k=>k ::(if k=0 then [] else upL el f (el k))
noncomputable def qab (el:Nat->Nat) (k:Nat):List Nat:=upL el k k
noncomputable def Low (el:Nat->Nat) (n:Nat):Prop:=∀k,0 < k->k < n->el k < k
theorem upL_eq {el:Nat->Nat} {n:Nat} (lo:Low el n):∀(f k:Nat),k < n->k<=f->upL el f k=qab el k:=by
 intro f
 induction f using aB with
 |ind f ih=>
  intro k kn kf
  cases f with
  |zero=>have:k=0:=(by omega);subst this;rfl
  |succ f=>
   cases k with
   |zero=>rfl
   |succ k=>
    have l:=lo (k+1) (by omega) kn
    show (k+1) ::(if k+1=0 then [] else upL el f (el (k+1)))=(k+1) ::(if k+1=0 then [] else upL el k (el (k+1)))
    rw [gS (by omega),gS (by omega),ih f (by omega) (el (k+1)) (by omega) (by omega)]
    rcases bN k f with h|h
    .rw [ih k (by omega) (el (k+1)) (by omega) (by omega)]
    .have:f=k:=by omega
     subst this
     rw [ih f (by omega) (el (f+1)) (by omega) (by omega)]
theorem qdo (el:Nat->Nat):qab el 0=[0]:=rfl
theorem qc8 {el:Nat->Nat} {n k:Nat} (lo:Low el n) (k0:0 < k) (kn:k < n):qab el k=k :: qab el (el k):=by
 cases k with
 |zero=>omega
 |succ k=>
  have l:=lo (k+1) k0 kn
  show (k+1) ::(if k+1=0 then [] else upL el k (el (k+1)))=_
  rw [gS (by omega),upL_eq lo k _ (by omega) (by omega)]
theorem qc2 {el:Nat->Nat} {n:Nat} (lo:Low el n):∀k,k < n->(qab el k).length<=k+1:=by
 intro k
 induction k using aB with
 |ind k ih=>
  intro kn
  cases k with
  |zero=>exact uG _
  |succ k=>
   have l:=lo (k+1) (by omega) kn
   rw [qc8 lo (by omega) kn,zZ]
   have:=ih (el (k+1)) l (by omega)
   omega
theorem qch {el:Nat->Nat} {n k:Nat} (lo:Low el n) (kn:k < n):k∈qab el k:=by
 cases k with
 |zero=>exact zG ..
 |succ k=>rw [qc8 lo (by omega) kn];exact zG ..
theorem qcf {el:Nat->Nat} {n:Nat} (lo:Low el n):∀k,k < n->∀j∈qab el k,j<=k:=by
 intro k
 induction k using aB with
 |ind k ih=>
  intro kn j hj
  cases k with
  |zero=>rw [qdo] at hj;simp at hj;omega
  |succ k=>
   have l:=lo (k+1) (by omega) kn
   rw [qc8 lo (by omega) kn] at hj
   rcases zR.mp hj with h|h
   .omega
   .have:=ih (el (k+1)) l (by omega) j h
    omega
theorem lineN_in {el:Nat->Nat} {n:Nat} (lo:Low el n) {j:Nat} (j0:0 < j):∀k,k < n->j∈qab el k->el j∈qab el k:=by
 intro k
 induction k using aB with
 |ind k ih=>
  intro kn hj
  cases k with
  |zero=>rw [qdo] at hj;simp at hj;omega
  |succ k=>
   have l:=lo (k+1) (by omega) kn
   rw [qc8 lo (by omega) kn] at hj ⊢
   rcases zR.mp hj with h|h
   .subst h;exact zE _ (qch lo (by omega))
   .exact zE _ (ih (el (k+1)) l (by omega) h)
structure Pl (S:Ts) (nm:Nat->Str) (el:Nat->Nat) (n:Nat):Prop where
 len:S.hl.length=n
 nam:∀k e,S.hl[k]?=some e->e.n=nm k/\e.x.el=if k=0 then none else some (nm (el k))
 inj:∀i j,i < n->j < n->nm i=nm j->i=j
 low:Low el n
section
variable {S: Ts} {nm: Nat -> Str} {el: Nat -> Nat} {n: Nat}
theorem Pl.get (p:Pl S nm el n) {k:Nat} (kn:k < n):∃e,S.hl[k]?=some e/\e.n=nm k/\e.x.el=if k=0 then none else some (nm (el k)):=by
 have h:k < S.hl.length:=by rw [p.len];exact kn
 have e:=zA h
 exact⟨_,e,p.nam k _ e⟩
theorem Pl.ix (p:Pl S nm el n) {e:He} (h:e∈S.hl):∃k,k < n/\S.hl[k]?=some e/\e.n=nm k/\e.x.el=if k=0 then none else some (nm (el k)):=by
 obtain⟨k,hk,q⟩:=zO.mp h
 have e1:S.hl[k]?=some e:=by rw [zA hk,q]
 exact⟨k,by rw [<-p.len];exact hk,e1,p.nam k e e1⟩
theorem Pl.nodup (p:Pl S nm el n):(S.hl.map (·.n)).Nodup:=by
 show dL _ _
 rw [yO,zV]
 intro i j hi hj lt q
 have h1:=(p.nam i _ (zA hi)).1
 have h2:=(p.nam j _ (zA hj)).1
 have:=p.inj i j (by rw [<-p.len];exact hi) (by rw [<-p.len];exact hj) (by rw [<-h1,<-h2];exact q)
 omega
theorem Pl.at (p:Pl S nm el n) {k:Nat} (kn:k < n):∃e,S.at (nm k)=some e/\S.hl[k]?=some e/\e.x.el=if k=0 then none else some (nm (el k)):=by
 obtain⟨e,h1,h2,h3⟩:=p.get kn
 have:=at_of p.nodup (zF h1)
 rw [h2] at this
 exact⟨e,this,h1,h3⟩
theorem Pl.line (p:Pl S nm el n):∀k,k < n->LineOf S (nm k) ((qab el k).map nm):=by
 intro k
 induction k using aB with
 |ind k ih=>
  intro kn
  obtain⟨e,h1,_,h3⟩:=p.at kn
  cases k with
  |zero=>exact .top h1 h3
  |succ k=>
   have l:=p.low (k+1) (by omega) kn
   rw [gS (by omega)] at h3
   rw [qc8 p.low (by omega) kn,zS]
   exact .up h1 h3 (ih _ l (by omega))
theorem Pl.wf (p:Pl S nm el n):WF S:=⟨p.nodup,fun e he=>by
 obtain⟨k,kn,_,h,_⟩:=p.ix he
 rw [h]
 exact⟨_,p.line k kn⟩⟩
theorem Pl.kid (p:Pl S nm el n) {j:Nat} {y:Str} (jn:j < n) (h:y∈qbg S (nm j)):∃k,0 < k/\k < n/\el k=j/\y=nm k:=by
 obtain⟨e,he,rfl⟩:=zI.mp h
 obtain⟨hm,hd⟩:=zY.mp he
 obtain⟨k,kn,_,h1,h2⟩:=p.ix hm
 have hd':e.x.el=some (nm j):=of_decide_eq_true hd
 rw [h2] at hd'
 by_cases z:k=0
 .rw [gT z] at hd';cases hd'
 .rw [gS z] at hd'
  have l:=p.low k (by omega) kn
  exact⟨k,by omega,kn,p.inj _ _ (by omega) jn (uX hd'),h1⟩
theorem Pl.dep (p:Pl S nm el n):∀m j,j < n->n<=j+m+1->Dep S m (nm j):=by
 intro m
 induction m with
 |zero=>
  intro j jn hn
  show qbg S (nm j)=[]
  cases e:qbg S (nm j) with
  |nil=>rfl
  |cons y r=>
   obtain⟨k,k0,kn,ke,_⟩:=p.kid jn (y:=y) (by rw [e];exact zG ..)
   have:=p.low k k0 kn
   omega
 |succ m ih=>
  intro j jn hn y hy
  obtain⟨k,k0,kn,ke,rfl⟩:=p.kid jn hy
  have:=p.low k k0 kn
  exact ih k kn (by omega)
theorem Pl.ben (p:Pl S nm el n):∀(m j:Nat) (zs:List Str),j < n->BenP S m (nm j) zs->∀y∈zs,∃k,k < n/\y=nm k/\j∈qab el k:=by
 intro m
 induction m with
 |zero=>
  rintro j _ jn ⟨parts,rest,hp,rfl,hb⟩ y hy
  rcases zR.mp hy with h|h
  .exact⟨j,jn,h,qch p.low jn⟩
  .obtain⟨l,hl,_⟩:=yW.mp h
   obtain⟨q,hq,_⟩:=zI.mp hl
   exact(hb q hq).elim
 |succ m ih=>
  rintro j _ jn ⟨parts,rest,hp,rfl,hb⟩ y hy
  rcases zR.mp hy with h|h
  .exact⟨j,jn,h,qch p.low jn⟩
  .obtain⟨l,hl,hyl⟩:=yW.mp h
   obtain⟨q,hq,rfl⟩:=zI.mp hl
   obtain⟨k,k0,kn,ke,e⟩:=p.kid jn (hp.mem_iff.mp (yG _ (zI.mpr ⟨q,hq,rfl⟩)))
   have hB:=hb q hq
   rw [e] at hB
   obtain⟨i,i1,i2,i3⟩:=ih k q.2 kn hB y hyl
   refine⟨i,i1,i2,?_⟩
   have:=lineN_in p.low k0 i i1 i3
   rw [ke] at this
   exact this
end
noncomputable def qds:Nat->(Nat->Int)->Int
 |0,_=>0
 |n+1,f=>qds n f+f n
theorem sumR_le {f g:Nat->Int}:∀{n:Nat},(∀k,k < n->f k<=g k)->qds n f<=qds n g
 |0,_=>vX _
 |n+1,h=>by
  have h1:=sumR_le (n:=n) fun k hk=>h k (by omega)
  have h2:=h n (by omega)
  show qds n f+f n<=qds n g+g n
  omega
theorem sumR_nn {f:Nat->Int}:∀{n:Nat},(∀k,k < n->0<=f k)->0<=qds n f
 |0,_=>vX _
 |n+1,h=>by
  have h1:=sumR_nn (n:=n) fun k hk=>h k (by omega)
  have h2:=h n (by omega)
  show 0<=qds n f+f n
  omega
theorem sumR_mono {f:Nat->Int} {n m:Nat} (hm:n<=m) (h:∀k,k < m->0<=f k):qds n f<=qds m f:=by
 induction m with
 |zero=>have:n=0:=(by omega);subst this;exact vX _
 |succ m ih=>
  rcases bN n (m+1) with c|c
  .have h1:=ih (by omega) fun k hk=>h k (by omega)
   have h2:=h m (by omega)
   show _<=qds m f+f m
   omega
  .have:n=m+1:=by omega
   subst this;exact vX _
noncomputable def sumL (f:Nat->Int):List Nat->Int
 | []=>0
 |k :: r=>f k+sumL f r
theorem sumL_perm {f:Nat->Int} {a b:List Nat} (h:a.Perm b):sumL f a=sumL f b:=by
 induction h with
 |nil=>rfl
 |cons x _ ih=>show _+_=_+_;rw [ih]
 |swap x y l=>show f y+(f x+sumL f l)=f x+(f y+sumL f l);omega
 |trans _ _ h1 h2=>rw [h1,h2]
theorem qfv {f:Nat->Int}:∀{n:Nat} {ks:List Nat},ks.Nodup->(∀k∈ks,k < n)->(∀k,k < n->0<=f k)->sumL f ks<=qds n f
 |0,ks,_,h,_=>by
  cases ks with
  |nil=>exact vX _
  |cons k r=>exact absurd (h k (zG ..)) (by omega)
 |n+1,ks,nd,h,p=>by
  show _<=qds n f+f n
  by_cases m:n∈ks
  .rw [sumL_perm (List.perm_cons_erase m)]
   have nd2:=nd.erase n
   have:=qfv (n:=n) nd2 (fun k hk=>by
    have h1:=h k (List.mem_of_mem_erase hk)
    have:k≠n:=fun z=>by subst z;exact(List.Nodup.not_mem_erase nd) hk
    omega) fun k hk=>p k (by omega)
   show f n+_<=_
   omega
  .have:=qfv (n:=n) nd (fun k hk=>by
    have h1:=h k hk
    have:k≠n:=fun z=>m (z ▸ hk)
    omega) fun k hk=>p k (by omega)
   have:=p n (by omega)
   omega
theorem gN_add (f g:Str->Option Int) (z:Str):gN (addF f g) z=gN f z+gN g z:=by
 unfold gN addF
 cases e:g z with
 |none=>simp
 |some b=>rfl
theorem gN_sum (z:Str):∀(ts:List Pt) (f0:Str->Option Int),gN (ts.foldl (fun f t=>addF f t.f) f0) z=gN f0 z+(ts.map fun t=>gN t.f z).sum
 | [],f0=>by simp
 |t :: ts,f0=>by
  rw [yQ,gN_sum z ts,gN_add,zS,yT]
  omega
section
variable {S: Ts} {nm: Nat -> Str} {el: Nat -> Nat} {n: Nat}
theorem Pl.sums (p:Pl S nm el n) {v:Str} {pr:Nat->Int} (hp:∀k e,S.hl[k]?=some e->gN e.x.fp v=pr k) (h0:∀k,k < n->0<=pr k) {m j:Nat} {bs:List Str} (jn:j < n) (hb:Ben S m (nm j) bs):
  gN (sumF (bs.map (ptOf S))) v<=qds n fun k=>if j∈qab el k then pr k else 0:=by
 have nd:=(qd0 p.wf hb.part).1
 have hk:=p.ben m j bs jn hb.part
 have key:∀bs:List Str,bs.Nodup->(∀y∈bs,∃k,k < n/\y=nm k/\j∈qab el k)->∃ks:List Nat,ks.Nodup/\(∀k∈ks,k < n/\nm k∈bs)/\((bs.map (ptOf S)).map fun t=>gN t.f v).sum=sumL (fun k=>if j∈qab el k then pr k else 0) ks:=by
  intro bs
  induction bs with
  |nil=>intro _ _;exact⟨[],yR,fun k hk=>absurd hk (by simp),rfl⟩
  |cons y r ih=>
   intro nd h
   rw [yC] at nd
   obtain⟨ks,k1,k2,k3⟩:=ih nd.2 fun y' hy=>h y' (zE _ hy)
   obtain⟨k,kn,rfl,kj⟩:=h y (zG ..)
   obtain⟨e,e1,e2,_⟩:=p.at kn
   refine⟨k :: ks,yC.mpr ⟨fun m=>nd.1 (k2 k m).2,k1⟩,fun k' hk'=>?_,?_⟩
   .rcases zR.mp hk' with rfl|hk'
    .exact⟨kn,zG ..⟩
    .exact⟨(k2 k' hk').1,zE _ (k2 k' hk').2⟩
   .rw [zS,zS,yT,k3,qg4 e1]
    show gN e.x.fp v+_=(if j∈qab el k then pr k else 0)+_
    rw [hp k e e2,gT kj]
 obtain⟨ks,k1,k2,k3⟩:=key bs nd hk
 unfold sumF
 rw [gN_sum,k3]
 have z:gN noF v=0:=rfl
 rw [z,xW]
 exact qfv k1 (fun k hk=>(k2 k hk).1) fun k hk=>by
  split
  .exact h0 k hk
  .exact vX _
end
theorem ad_oK {k:List (Key × V)} {f:Str->Option Int} (hk:AD k f) {ks:List (Str × Addr)} {z:Str} {h:Addr} (hl:qdj ks z=some h):HO.dK k≠ .dK (oK ks):=fun e=>by
 have e2:k=oK ks:=by injection e
 subst e2
 have g1:=hk.get z
 rw [qfs,hl] at g1
 cases hf:f z with
 |none=>rw [hf] at g1;cases g1
 |some n=>rw [hf] at g1;cases g1
noncomputable def wal (K:uR) (d:Ad):Sp:=fun vs H Q E=>∃(t a b:Addr) (S:Ts) (z:Str) (xe:V) (ka kb:List (Key × V)) (f g:Str->Option Int) (wt:Int),vs=[.ref t,.str z,xe,.ref a,.ref b,.int wt]/\qes d H t S/\qdx z=true/\S.at z=none/\qe8 K H xe/\
 (who S xe=none->∀H',qar H H'->E (.ref d.w0e) none H')/\
 ∀e,who S xe=some e->WF S/\qgk S/\S.ws.length<=50/\H a=some (.dK ka)/\AD ka f/\ka.length<=1000/\H b=some (.dK kb)/\AD kb g/\kb.length<=1000/\Fin S.ws f/\Fin S.ws g/\1<=wt/\wt<=1000/\S.hl.length < 40/\
  (∃zs,LineOf S e.n zs/\zs.length < 12/\∀y∈zs,∃e',S.at y=some e'/\Dep S 12 y/\∀bs,Ben S 12 y bs->∀v n,addF (sumF (bs.map (ptOf S))) (qcw f) v=some n->n<=gN e'.x.fc v)/\(∀y,gN f y<=gN g y)/\
  ∀(e2:He) H',SameBut S.hs H H'->H e2.a=none->H e2.x.pa=none->H e2.x.ca=none->qes d H' t {S with hl:=S.hl++ [e2]}->e2.n=z->e2.x.el=some e.n->e2.x.w=wt->(∀y,e2.x.fp y=qcw f y)->(∀y,e2.x.fc y=qcw g y)->Q .non H'
include T in
theorem w9q:FnOk P w K mg base (My.CX1 P w) 19 d.w4s d.w2u ["self","name","elder","promise","cap","weight"] (wal K d):=by
 refine okDX T.wbb w4d (fun vs H Q E h=>?_) (fun cdv A outer s H vs Q E hr h=>?_)
 .obtain⟨t,a,b,S,z,xe,ka,kb,f,g,wt,rfl,_⟩:=h;rfl
 obtain⟨t,a,b,S,z,xe,ka,kb,f,g,wt,rfl,hT,gz,nz,hx,q2,q1⟩:=h
 refine⟨_,(qa1 (qba (qbs ((w6m T).mono (by decide)) hr rfl T.w7d T.w59.kp T.w78 .nil qb0 (qa0 (pv 1) qa2)))
  (qa1 (qbh (qb6 (qed (pv 0) T.w01 T.w2c ((w8f T).mono (by decide)) hr T.w9i .nil qak (qa0 (pv 1) qa2))) (qa5 (qc7 rfl T.wh1 rfl T.wgk qb0 (qa0 qcx qa2))) qaq)
  (qa1 (qba (qb4 (pv 0) T.w01 T.w06 ((w1n T).mono (by decide)) hr T.w1v .nil qb0 (qa0 (pv 2) qa2)))
  (qa1 (qag (i:=6) w4d.nd rfl (uJ rfl) (qbs ((w6j T).mono (by decide)) hr rfl T.w74 T.w50.kp T.w75 .nil qb0 (qa0 (qbb (pv 0) rfl) (qa0 (pv 2) (qa0 (pv 3) (qa0 (pv 4) (qa0 (pv 5) qa2)))))))
  (qa1 (qbh (qam op_ge (qaf call_lenDD rfl T.w2t vH (qa0 (qbb (pv 0) rfl) qa2)) (qee rfl T.wa7 T.w1y) (qas _)) (qa5 (qc7 rfl T.wfa rfl T.we6 qb0 (qa0 qcx qa2))) qaq)
  (qa1 (qag (i:=7) w4d.nd rfl (uJ rfl) (qb4 (pv 0) T.w01 T.w0t ((w3o T).mono (by decide)) hr T.w4l .nil qb0 (qa0 (pv 2) qa2)))
  (qa1 (qbh (qam op_ge (qaf qay rfl T.w2t vH (qa0 (pv 7) qa2)) (qee rfl T.w8y T.w1h) (qas _)) (qa5 (qc7 rfl T.we8 rfl T.wfe qb0 (qa0 qcx qa2))) qaq)
  (qa1 (qba (qbs ((w26 T).mono (by decide)) hr rfl T.w2q T.w1l.kp T.w2l .nil qb0 (qa0 (pv 1) (qa0 (qbb (pv 6) rfl) (qa0 (qbb (pv 6) rfl) qa2)))))
  (qa1 (qba (qb4 (pv 0) T.w01 T.w0i ((w6l T).mono (by decide)) hr T.w6z .nil qb0 (qa0 (pv 7) (qa0 (qbb (pv 6) rfl) qa2))))
  (qa5 (qea (qcb hr) (qbb (pv 0) rfl) (pv 1) (pv 6) rfl))))))))))),?_⟩
 walk_at "d"
 refine qah (σ:=[some (.ref t),some (.str z),some (xe),some (.ref a),some (.ref b),some (.int wt),none,none]) rfl ?_
 have ct:=T.w01
 have ch:=T.w1m
 have n1:qaz K d.w00 "sorted_wares":=T.w09
 have n2:qaz K d.w00 "houses":=T.w03
 have n3:qaz K d.w05 "promise":=T.w0a
 have n4:qaz K d.w05 "cap":=T.w0k
 left
 refine⟨z,rfl,gz,fun H1 s1=>?_⟩
 have hT1:=hT.same s1
 obtain⟨dx,ht⟩:=id hT1.1
 left
 refine⟨t,S,.str z,rfl,hT1,.inl ⟨z,rfl⟩,?_⟩
 rw [show who S (.str z)=none from nz]
 left
 show if false=true then _ else _
 left
 refine⟨t,S,xe,rfl,hT1,hx.same s1,fun e he=>?_,fun he=>q2 he H1 s1⟩
 obtain⟨hW,hO,hws,ha,hA,za,hb,hB,zb,ff,fg,w0,w1,h40,⟨zs,hL,hz12,hy⟩,le,q⟩:=q1 e he
 obtain⟨y,rfl⟩:∃y,xe=.str y:=by
  rcases hx with h|⟨_,nz'⟩
  .exact h
  .rw [qde nz'] at he;cases he
 have ey:e.n=y:=(qcd he).2
 have hsw:=hT1.2.1
 left
 refine⟨S.sw,a,b,some y,S.ws,ka,kb,f,g,wt,rfl,hsw,s1 _ _ ha,hA,za,s1 _ _ hb,hB,zb,ff,fg,w0,w1,fun h o H3 s3 nh np nc hOo eel ew efp efc=>?_⟩
 obtain⟨⟨dh,ho⟩,hp,hpA,hc,hcA⟩:=id hOo
 have efp':o.fp=qcw f:=funext efp
 have efc':o.fc=qcw g:=funext efc
 have lk:o.kp.length<=S.ws.length:=hpA.le (by rw [efp'];exact pos_in ff)
 have hT3:=hT1.same s3
 obtain⟨⟨dx3,ht3⟩,hw3,hh3,nd3,hz3,hE3⟩:=id hT3
 left
 refine r_lenD hh3 ?_
 rw [qer]
 left
 refine⟨t,S,.str y,rfl,hT3,.inl ⟨y,zs,rfl,by rw [<-ey];exact hL,by omega,fun l hl=>?_⟩⟩
 have s4:=qa9 hl (.lst (zs.map V.str))
 have eL:upd H3 l (.lst (zs.map V.str)) l=some (.lst (zs.map V.str)):=qa3
 have hzl:(zs.map V.str).length=zs.length:=zB _
 generalize upd H3 l (.lst (zs.map V.str))=H4 at*
 have ho4:=s4 _ _ ho
 have hp4:=s4 _ _ hp
 have hc4:=s4 _ _ hc
 left
 refine⟨.str z,o.pa,o.ca,o.kp,o.kc,o.fp,o.fc,rfl,.inl hp4,.inl hc4,hpA,hcA,by omega,by rw [efp',efc'];exact pos_le fg le,fun H5 s5=>?_⟩
 have s35:=s4.trans s5
 have ho5:=s35 _ _ ho
 have hT5:=hT3.same s35
 obtain⟨dx5,ht5⟩:=id hT5.1
 left
 refine⟨t,l,o.pa,S,zs,o.kp,o.fp,rfl,hT5,hW,hO,SqL.of (s5 _ _ eL),s35 _ _ hp,hpA,hws,by rw [efp'];exact pos_in ff,by rw [efp'];exact hy,fun H6 s6=>?_⟩
 have s36:=s35.trans s6
 have s16:=s3.trans s36
 have s06:=s1.trans s16
 obtain⟨⟨dx6,ht6⟩,hw6,hh6,nd6,hz6,hE6⟩:=hT3.same s36
 left
 have lkn:qdj S.keys z=none:=by rw [qdv,nz];rfl
 have hksz:(oK S.keys).length < sizeLine:=by rw [qer];show _ < 16777216;omega
 refine r_dpk hh6 hksz ?_
 rw [putK_oK lkn]
 left
 have sF:∀b u,b≠S.hs->H6 b=some u->upd H6 S.hs (.dK (oK (S.keys++ [(z,h)]))) b=some u:=fun b u hb e=>by rw [qa6 hb];exact e
 have nH:∀{b:Addr} {u:HO},H6 b=some u->u≠ .dK (oK S.keys)->b≠S.hs:=fun e1 e2 e3=>by
  subst e3;rw [hh6] at e1;exact e2 (uX e1).symm
 have hT1':=hT1
 have fresh:∀{b:Addr} {u:HO},H1 b=none->H6 b=some u->b≠S.hs:=fun e1 _ e3=>by
  subst e3;rw [hT1'.2.2.1] at e1;cases e1
 refine q ⟨z,h,o⟩ _ (fun b u hb e=>sF b u hb (s06 _ _ e)) (s1.free nh) (s1.free np) (s1.free nc) ⟨⟨dx6,sF _ _ (nH ht6 (by intro e;cases e)) ht6⟩,sF _ _ (nH hw6 (by intro e;cases e)) hw6,?_,?_,?_,fun e1 he1=>?_⟩ rfl (by rw [ey];exact eel) ew efp efc
 .show upd _ _ _ S.hs=some (.dK (oK (Ts.keys _)))
  rw [qa3]
  unfold Ts.keys
  rw [zD];rfl
 .show (List.map _ (S.hl++ [_])).Nodup
  rw [zD,yJ]
  refine⟨nd6,yC.mpr ⟨by simp,yR⟩,fun x hx1 y' hy1 e=>?_⟩
  have:y'=z:=by simpa using hy1
  subst this
  subst e
  obtain⟨e2,m2,rfl⟩:=zI.mp hx1
  rw [at_of nd6 m2] at nz
  cases nz
 .show (S.hl++ [_]).length<=60
  rw [zK]
  show _+1<=60
  omega
 .rcases zT.mp he1 with m|m
  .obtain⟨⟨dy,hy1⟩,hy2,hy3,hy4,hy5⟩:=hE6 e1 m
   have no:∀{k:List (Key × V)} {f:Str->Option Int},AD k f->HO.dK k≠ .dK (oK S.keys):=fun hk=>ad_oK hk (z:=e1.n) (h:=e1.a) (by rw [qdv,at_of nd6 m];rfl)
   exact⟨⟨dy,sF _ _ (nH hy1 (by intro e;cases e)) hy1⟩,sF _ _ (nH hy2 (no hy3)) hy2,hy3,sF _ _ (nH hy4 (no hy5)) hy4,hy5⟩
  .have:e1=⟨z,h,o⟩:=by simpa using m
   subst this
   have h6:=s36 _ _ ho
   refine⟨⟨dh,sF _ _ (fresh nh h6) h6⟩,sF _ _ (fresh np (s36 _ _ hp)) (s36 _ _ hp),hpA,sF _ _ (fresh nc (s36 _ _ hc)) (s36 _ _ hc),hcA⟩
abbrev ABC:Str:=aR "abcdefghijklmnopqrstuvwxyz"
noncomputable def letc (i:Int):Nat:=97+(i%26).toNat
theorem letAt (g:Int):atI ABC.cps.toList (g%26)=some (letc g):=by
 have e0:=wA g (show (26:Int)≠0 by decide)
 have e1:=vZ g (show (0:Int) < 26 by decide)
 have h:∀k:Nat,k < 26->ABC.cps.toList[k]?=some (97+k):=by decide+kernel
 have e:g%26=(((g%26).toNat:Nat):Int):=by omega
 rw [e]
 rw [qax (h (g%26).toNat (by omega))]
 rfl
theorem letc_isL (g:Int):isL (letc g)=true:=by
 have e0:=wA g (show (26:Int)≠0 by decide)
 have e1:=vZ g (show (0:Int) < 26 by decide)
 unfold isL letc
 rw [vS,decide_eq_true_iff,decide_eq_true_iff]
 omega
theorem letc_inj {g g':Int} (h:letc g=letc g'):g%26=g'%26:=by
 have e0:=wA g (show (26:Int)≠0 by decide)
 have f0:=wA g' (show (26:Int)≠0 by decide)
 unfold letc at h
 omega
noncomputable def ofL (l:List Nat):Str:=⟨l.toArray⟩
theorem qf9 (l:List Nat):qeg (ofL l)=l:=by simp [qeg,ofL]
theorem ofL_inj {l m:List Nat} (h:ofL l=ofL m):l=m:=by rw [<-qf9 l,<-qf9 m,h]
theorem ofL_snoc (l:List Nat) (c:Nat):ofL l++(⟨#[c]⟩:Str)=ofL (l++ [c]):=by
 have e:(ofL l++(⟨#[c]⟩:Str)).cps=(ofL (l++ [c])).cps:=by
  rw [Str.cps_append]
  simp [ofL]
 exact congrArg Str.mk e
theorem qg7 (l:List Nat):(ofL l).length=l.length:=by simp [ofL,Str.length]
noncomputable def iV (e:Nat):V:=.int (e:Int)
noncomputable def FinB (ws:List Str) (B:Int) (f:Str->Option Int):Prop:=∀z n,f z=some n->z∈ws/\0<=n/\n<=B
noncomputable def elN (es:List Nat) (k:Nat):Nat:=(es[k - 1]?).getD 0
noncomputable def ptN (ts:List Pt) (k:Nat) (v:Str):Int:=match ts[k]? with
 |some t=>gN t.f v
 |none=>0
theorem qg9 {el:Nat->Nat} {n:Nat} (lo:Low el n):∀k,k < n->(qab el k).Pairwise (fun a b=>b < a):=by
 intro k
 induction k using aB with
 |ind k ih=>
  intro kn
  cases k with
  |zero=>rw [qdo];exact bG ..
  |succ k=>
   have l:=lo (k+1) (by omega) kn
   rw [qc8 lo (by omega) kn,cS]
   refine⟨fun a ha=>?_,ih _ l (by omega)⟩
   have:=qcf lo (el (k+1)) (by omega) a ha
   omega
structure PL where
 lw:Addr
 ln:Addr
 le:Addr
 lp:Addr
 lc:Addr
 ws:List Str
 nm:List Str
 es:List Nat
 tp:List Pt
 tc:List Pt
structure PlF (P:PL):Prop where
 w1:1<=P.ws.length
 w3:P.ws.length<=6
 wg:∀z∈P.ws,qdx z=true
 wn:P.ws.Nodup
 nl:P.nm.length=P.es.length+1
 n12:P.nm.length<=12
 ng:∀z∈P.nm,qdx z=true
 nn:P.nm.Nodup
 lo:∀(k e:Nat),P.es[k]?=some e->e<=k/\e<=10
 pl:P.tp.length=P.nm.length
 cl:P.tc.length=P.nm.length
 pa:∀t∈P.tp,AD t.k t.f/\FinB P.ws (10^30) t.f
 ca:∀t∈P.tc,AD t.k t.f/\FinB P.ws (10^30) t.f
 le:∀(j:Nat) (t:Pt),P.tc[j]?=some t->∀v∈P.ws,(qds P.tp.length fun k=>if j∈qab (elN P.es) k then ptN P.tp k v else 0)<=gN t.f v
theorem qd4 {es:List Nat} (lo:∀(k e:Nat),es[k]?=some e->e<=k) (n:Nat):Low (elN es) n:=fun k k0 kn=>by
 unfold elN
 cases e:es[k - 1]? with
 |none=>exact k0
 |some a=>have:=lo _ _ e;show a < k;omega
theorem elN_at {es:List Nat} {b:Nat} (hb:b < es.length):elN es (b+1)=es[b]:=by unfold elN;rw [Nat.add_sub_cancel,zA hb];rfl
theorem FinB.fin {ws:List Str} {B:Int} {f:Str->Option Int} (h:FinB ws B f) (hB:B<=10^30):Fin ws f:=fun z n e=>by
 obtain⟨a,b,c⟩:=h z n e
 exact⟨a,b,by omega⟩
theorem fin_perm {ws ws':List Str} {f:Str->Option Int} (h:Fin ws f) (p:ws'.Perm ws):Fin ws' f:=fun z n e=>by
 obtain⟨a,b,c⟩:=h z n e
 exact⟨p.mem_iff.mpr a,b,c⟩
noncomputable def nmF (P:PL) (k:Nat):Str:=(P.nm[k]?).getD (ofL [])
noncomputable def tfF (ts:List Pt) (k:Nat):Str->Option Int:=match ts[k]? with
 |some t=>t.f
 |none=>noF
theorem ptN_eq (ts:List Pt) (k:Nat) (v:Str):ptN ts k v=gN (tfF ts k) v:=by
 unfold ptN tfF
 cases ts[k]? <;> rfl
structure TInv (S:Ts) (P:PL) (n:Nat) (wt:Nat->Int):Prop where
 pl:Pl S (nmF P) (elN P.es) n
 wp:S.ws.Perm P.ws
 ws:vF S.ws=true
 da:∀(k:Nat) (e:He),S.hl[k]?=some e->(∀v,e.x.fp v=qcw (tfF P.tp k) v)/\(∀v,e.x.fc v=qcw (tfF P.tc k) v)/\e.x.w=wt k
theorem qd9 {P:PL} {k:Nat} (h:k < P.nm.length):nmF P k=P.nm[k]:=by unfold nmF;rw [zA h];rfl
theorem nmF_inj {P:PL} (f:PlF P) {n:Nat} (hn:n<=P.nm.length):∀i j,i < n->j < n->nmF P i=nmF P j->i=j:=fun i j hi hj e=>by
 rw [qd9 (by omega),qd9 (by omega)] at e
 rcases dE i j with h|h|h
 .exact absurd e ((zV.mp f.nn) i j (by omega) (by omega) h)
 .exact h
 .exact absurd e.symm ((zV.mp f.nn) j i (by omega) (by omega) h)
theorem PlF.low {P:PL} (f:PlF P) (n:Nat):Low (elN P.es) n:=qd4 (fun k e h=>(f.lo k e h).1) n
theorem qeu {P:PL} (f:PlF P) {k:Nat} (hk:k < P.nm.length):∃t,P.tp[k]?=some t/\t∈P.tp/\tfF P.tp k=t.f/\AD t.k t.f/\Fin P.ws t.f:=by
 have h:k < P.tp.length:=by rw [f.pl];exact hk
 have e:=zA h
 refine⟨_,e,zM h,by unfold tfF;rw [e],(f.pa _ (zM h)).1,(f.pa _ (zM h)).2.fin (by decide)⟩
theorem tc_fin {P:PL} (f:PlF P) {k:Nat} (hk:k < P.nm.length):∃t,P.tc[k]?=some t/\t∈P.tc/\tfF P.tc k=t.f/\AD t.k t.f/\Fin P.ws t.f:=by
 have h:k < P.tc.length:=by rw [f.cl];exact hk
 have e:=zA h
 refine⟨_,e,zM h,by unfold tfF;rw [e],(f.ca _ (zM h)).1,(f.ca _ (zM h)).2.fin (by decide)⟩
theorem fin_nn {ws:List Str} {f:Str->Option Int} (h:Fin ws f) (v:Str):0<=gN f v:=by
 unfold gN
 cases e:f v with
 |none=>exact vX _
 |some n=>exact(h v n e).2.1
theorem fin_out {ws:List Str} {f:Str->Option Int} (h:Fin ws f) {v:Str} (hv:v∉ws):gN f v=0:=by
 unfold gN
 cases e:f v with
 |none=>rfl
 |some n=>exact absurd (h v n e).1 hv
theorem pr_nn {P:PL} (f:PlF P) {k:Nat} (hk:k < P.nm.length) (v:Str):0<=gN (tfF P.tp k) v:=by
 obtain⟨t,_,_,e,_,h⟩:=qeu f hk
 rw [e];exact fin_nn h v
theorem cap_ge {P:PL} (f:PlF P) {j:Nat} (hj:j < P.nm.length) (v:Str):(qds P.nm.length fun k=>if j∈qab (elN P.es) k then gN (tfF P.tp k) v else 0)<=gN (tfF P.tc j) v:=by
 obtain⟨t,e1,e2,e3,e4,e5⟩:=tc_fin f hj
 rw [e3]
 by_cases hv:v∈P.ws
 .have z:=f.le j t e1 v hv
  rw [f.pl] at z
  have:(fun k=>if j∈qab (elN P.es) k then ptN P.tp k v else 0)=fun k=>if j∈qab (elN P.es) k then gN (tfF P.tp k) v else 0:=funext fun k=>by rw [ptN_eq]
  rw [this] at z
  exact z
 .have z:(qds P.nm.length fun k=>if j∈qab (elN P.es) k then gN (tfF P.tp k) v else 0)<=qds P.nm.length fun _=>0:=sumR_le fun k hk=>by
   split
   .obtain⟨t',_,_,q,_,h⟩:=qeu f hk
    rw [q,fin_out h hv];exact vX _
   .exact vX _
  have z0:∀n,(qds n fun _=>0)=0:=fun n=>by
   induction n with
   |zero=>rfl
   |succ n ih=>show qds n _+0=0;rw [ih];rfl
  rw [z0] at z
  have:=fin_nn e5 v
  omega
theorem own_le {P:PL} (f:PlF P) {k:Nat} (hk:k < P.nm.length) (v:Str):gN (tfF P.tp k) v<=gN (tfF P.tc k) v:=by
 have z:=cap_ge f hk v
 have h:gN (tfF P.tp k) v<=qds P.nm.length fun i=>if k∈qab (elN P.es) i then gN (tfF P.tp i) v else 0:=by
  have h1:sumL (fun i=>if k∈qab (elN P.es) i then gN (tfF P.tp i) v else 0) [k]<=qds P.nm.length fun i=>if k∈qab (elN P.es) i then gN (tfF P.tp i) v else 0:=
   qfv (yC.mpr ⟨by simp,yR⟩) (fun i hi=>by have:i=k:=(by simpa using hi);omega) fun i hi=>by
    split
    .exact pr_nn f hi v
    .exact vX _
  have h2:sumL (fun i=>if k∈qab (elN P.es) i then gN (tfF P.tp i) v else 0) [k]=gN (tfF P.tp k) v:=by
   show (if k∈qab (elN P.es) k then gN (tfF P.tp k) v else 0)+0=_
   rw [gT (qch (f.low P.nm.length) hk),Int.add_zero]
  omega
 omega
theorem TInv.ask {S:Ts} {P:PL} {k:Nat} {wt:Nat->Int} (h:TInv S P k wt) (f:PlF P) (k0:0 < k) (kn:k < P.nm.length):∃e,S.at (nmF P (elN P.es k))=some e/\e.n=nmF P (elN P.es k)/\WF S/\qgk S/\S.ws.length<=50/\S.hl.length < 40/\S.at (nmF P k)=none/\
  ∃zs,LineOf S e.n zs/\zs.length < 12/\∀y∈zs,∃e',S.at y=some e'/\Dep S 12 y/\∀bs,Ben S 12 y bs->∀v n,addF (sumF (bs.map (ptOf S))) (qcw (tfF P.tp k)) v=some n->n<=gN e'.x.fc v:=by
 have low:=f.low P.nm.length
 have lk:=low k k0 kn
 have n12:=f.n12
 obtain⟨e,h1,h2,h3⟩:=h.pl.at lk
 have en:e.n=nmF P (elN P.es k):=(qcd h1).2
 refine⟨e,h1,en,h.pl.wf,⟨by have:=h.wp.length_eq;have:=f.w3;omega,fun e' he z hz=>?_⟩,by have:=h.wp.length_eq;have:=f.w3;omega,by rw [h.pl.len];omega,?_,(qab (elN P.es) (elN P.es k)).map (nmF P),by rw [en];exact h.pl.line _ lk,?_,fun y hy=>?_⟩
 .obtain⟨i,hi,q,_⟩:=h.pl.ix he
  obtain⟨t,_,_,q2,_,q3⟩:=qeu f (k:=i) (by omega)
  rw [(h.da i e' q).1,q2] at hz
  exact h.wp.mem_iff.mpr (pos_in q3 z hz)
 .cases c:S.at (nmF P k) with
  |none=>rfl
  |some e'=>
   obtain⟨i,hi,_,q,_⟩:=h.pl.ix (qcd c).1
   have:=nmF_inj f (n:=P.nm.length) (uG _) i k (by omega) kn (by rw [<-q,(qcd c).2])
   omega
 .rw [zB]
  have hl:=qc2 low (elN P.es k) (by omega)
  have:elN P.es k<=10:=by
   obtain⟨b,rfl⟩:∃b,k=b+1:=⟨k - 1,by omega⟩
   have hb:b < P.es.length:=by have:=f.nl;omega
   rw [elN_at hb]
   exact(f.lo b _ (zA hb)).2
  omega
 .obtain⟨j,hj,rfl⟩:=zI.mp hy
  have jl:=qcf low (elN P.es k) (by omega) j hj
  have jk:j < k:=by omega
  obtain⟨e',q1,q2,_⟩:=h.pl.at jk
  refine⟨e',q1,h.pl.dep 12 j jk (by omega),fun bs hb v n hn=>?_⟩
  have hs:=h.pl.sums (v:=v) (pr:=fun i=>gN (tfF P.tp i) v) (fun i e2 he2=>?_) (fun i hi=>pr_nn f (by omega) v) jk hb
  .have g1:n=gN (addF (sumF (bs.map (ptOf S))) (qcw (tfF P.tp k))) v:=by unfold gN;rw [hn];rfl
   obtain⟨t,_,_,t3,_,t5⟩:=qeu f kn
   rw [gN_add,t3,qf8 t5,<-t3] at g1
   obtain⟨u,_,_,u3,_,u5⟩:=tc_fin f (k:=j) (by omega)
   have fc:e'.x.fc=qcw u.f:=by rw [<-u3];exact funext (h.da j e' q2).2.1
   rw [fc,qf8 u5,<-u3]
   have cg:=cap_ge f (j:=j) (by omega) v
   have mono:=sumR_mono (f:=fun i=>if j∈qab (elN P.es) i then gN (tfF P.tp i) v else 0) (n:=k+1) (m:=P.nm.length) (by omega) fun i hi=>by
    try dsimp only
    split
    .exact pr_nn f hi v
    .exact vX _
   have top:(qds (k+1) fun i=>if j∈qab (elN P.es) i then gN (tfF P.tp i) v else 0)=(qds k fun i=>if j∈qab (elN P.es) i then gN (tfF P.tp i) v else 0)+gN (tfF P.tp k) v:=by
    show qds k _+(if j∈qab (elN P.es) k then gN (tfF P.tp k) v else 0)=_
    rw [gT]
    rw [qc8 low k0 kn]
    exact zE _ hj
   omega
  .obtain⟨t,_,_,t3,_,t5⟩:=qeu f (k:=i) (by have:=(uH.mp he2).1;rw [h.pl.len] at this;omega)
   rw [show e2.x.fp=qcw (tfF P.tp i) from funext (h.da i e2 he2).1,t3]
   exact qf8 t5 v
theorem TInv.next {S:Ts} {P:PL} {k:Nat} {wt:Nat->Int} (h:TInv S P k wt) (f:PlF P) (k0:0 < k) (kn:k < P.nm.length) {e2:He} {w:Int} (en:e2.n=nmF P k) (el:e2.x.el=some (nmF P (elN P.es k))) (ew:e2.x.w=w) (ep:∀v,e2.x.fp v=qcw (tfF P.tp k) v) (ec:∀v,e2.x.fc v=qcw (tfF P.tc k) v):
  TInv {S with hl:=S.hl++ [e2]} P (k+1) (fun i=>if i=k then w else wt i):=by
 have hl:=h.pl.len
 have split:∀(i:Nat) (e:He),(S.hl++ [e2])[i]?=some e->(i < k/\S.hl[i]?=some e)\/(i=k/\e=e2):=fun i e he=>by
  rcases bN i S.hl.length with c|c
  .rw [yE c] at he
   exact .inl ⟨by omega,he⟩
  .have:=(uH.mp he).1
   rw [zK,yB] at this
   have ei:i=S.hl.length:=by omega
   rw [yD c,ei,dW] at he
   exact .inr ⟨by omega,by simpa using he.symm⟩
 refine⟨⟨by show (S.hl++ [e2]).length=_;rw [zK,hl];rfl,fun i e he=>?_,nmF_inj f (by omega),fun i i0 ik=>f.low P.nm.length i i0 (by omega)⟩,h.wp,h.ws,fun i e he=>?_⟩
 .rcases split i e he with ⟨a,b⟩ |⟨rfl,rfl⟩
  .exact h.pl.nam i e b
  .exact⟨en,by rw [gS (by omega)];exact el⟩
 .rcases split i e he with ⟨a,b⟩ |⟨rfl,rfl⟩
  .obtain⟨x,y,z⟩:=h.da i e b
   exact⟨x,y,by rw [gS (by omega)];exact z⟩
  .exact⟨ep,ec,by rw [gT rfl];exact ew⟩
structure Apart (S:Ts) (t q:Addr):Prop where
 t:t≠q
 sw:S.sw≠q
 hs:S.hs≠q
 ho:∀e∈S.hl,e.a≠q/\e.x.pa≠q/\e.x.ca≠q
theorem sort_eq {ss ss':List Str} (h:ss.Perm ss') (a:vF ss=true) (b:vF ss'=true):ss=ss':=
 List.Perm.eq_of_pairwise (le:=leS) (fun x y _ _ h1 h2=>leS_anti h1 h2) (qdg a) (qdg b) h
theorem pl_one {S:Ts} {P:PL} {e:He} (f:PlF P) (hl:S.hl=[e]) (en:e.n=nmF P 0) (el:e.x.el=none):Pl S (nmF P) (elN P.es) 1:=by
 refine⟨by rw [hl];rfl,fun k e' he=>?_,fun i j hi hj _=>by omega,fun k k0 k1=>by omega⟩
 rw [hl] at he
 have hk:=(uH.mp he).1
 have e0:k=0:=by rw [yB] at hk;omega
 subst e0
 have:e'=e:=by simpa using he.symm
 subst this
 exact⟨en,el⟩
theorem TInv.cast {S:Ts} {P:PL} {n:Nat} {wt wt':Nat->Int} (h:TInv S P n wt) (e:∀j,j < n->wt j=wt' j):TInv S P n wt':=⟨h.pl,h.wp,h.ws,fun k x hx=>by
 have hk:=(uH.mp hx).1
 rw [h.pl.len] at hk
 obtain⟨a,b,c⟩:=h.da k x hx
 exact⟨a,b,c.trans (e k hk)⟩⟩
noncomputable def tV:Option Int->V
 |none=> .non
 |some n=> .int n
noncomputable def qgg (d:Ad) (s:Bool):Addr:=if s=true then d.w0u else d.w0n
noncomputable def fsB (n:Int) (z:Str) (m:Addr) (r:Int) (t:Option Int):List (Str × V):=[("number",.int n),("house",.str z),("amounts",.ref m),("rank",.int r),("turns",tV t)]
theorem clsOk {K:uR} {mg:Str->Option uC} {d:Ad} (T:Tx K mg d) (s:Bool):Cls K (qgg d s)/\qaz K (qgg d s) "number"/\qaz K (qgg d s) "house"/\qaz K (qgg d s) "amounts"/\qaz K (qgg d s) "rank"/\qaz K (qgg d s) "turns":=by
 cases s
 .exact⟨T.w4r,T.w1g,T.w1x,T.w1c,T.w1r,T.w21⟩
 .exact⟨T.w5u,T.w1k,T.w22,T.w1b,T.w2g,T.w1u⟩
noncomputable def wbo (K:uR) (d:Ad):Sp:=fun vs H Q _=>∃(x dx a:Addr) (s:Bool) (n:Int) (z:Str) (k:List (Key × V)) (r:Int) (t:Option Int),vs=[.ref x,.int n,.str z,.ref a,.int r,tV t]/\H x=some (.ins (qgg d s) dx [])/\H a=some (.dK k)/\
 ∀m H',H m=none->H' x=some (.ins (qgg d s) dx (fsB n z m r t))->H' m=some (.dK k)->SameBut x H H'->Q .non H'
include T in
theorem w79:FnOk P w K mg base CX0 1 d.w4m d.w5h ["self","number","house","amounts","rank","turns"] (wbo K d):=by
 refine T.wcc.ok wam (fun vs H Q E h=>?_) (fun cdv A outer s H vs Q E hr h=>?_)
 .obtain⟨x,dx,a,s,n,z,k,r,t,rfl,_⟩:=h;rfl
 obtain⟨x,dx,a,s,n,z,k,r,t,rfl,hx,ha,q⟩:=h
 refine⟨_,(qa1 (qdh (pv 0) (pv 1) rfl)
  (qa1 (qdh (pv 0) (pv 2) rfl)
  (qa1 (qdh (pv 0) (qbq qdq rfl T.w9c wU (qa0 (pv 3) qa2)) rfl)
  (qa1 (qdh (pv 0) (pv 4) rfl)
  (qa5 (qdh (pv 0) (pv 5) rfl)))))),?_⟩
 walk_at "d"
 refine qah (σ:=[some (.ref x),some (.int n),some (.str z),some (.ref a),some (.int r),some (tV t)]) rfl ?_
 obtain⟨cl,n1,n2,n3,n4,n5⟩:=clsOk T s
 left
 refine qg2 qa3 cl n2 (by show 1 < 1000;decide) ?_
 rw [qbn]
 have nxa:a≠x:=fun z=>by subst z;rw [hx] at ha;cases ha
 have hRa:Rd (upd H x (.ins (qgg d s) dx (qey "house" (.str z) (qey "number" (.int n) [])))) a (.dK k):=.inl (by rw [qa6 nxa];exact ha)
 left
 rename_i m hm
 have nmx:m≠x:=fun z=>by subst z;rw [qa3] at hm;cases hm
 have hm0:H m=none:=by rw [qa6 nmx] at hm;exact hm
 refine qg2 (qae qa3 hm) cl n3 (by show 2 < 1000;decide) ?_
 left
 refine qg2 qa3 cl n4 (by show 3 < 1000;decide) ?_
 left
 refine qg2 qa3 cl n5 (by show 4 < 1000;decide) ?_
 left
 refine q m _ hm0 (by rw [qa3];rfl) (by rw [qa6 nmx,qa6 nmx,qa6 nmx];exact qa3) fun b o hb e=>?_
 rw [qa6 hb,qa6 hb,qa6 hb,qa6 (qa7 e hm0),qa6 hb]
 exact e
noncomputable def InW (ws:List Str) (f:Str->Option Int):Prop:=∀z,f z≠none->z∈ws
structure Rr where
 p:Addr
 e:Addr
 n:Int
 i:Nat
 k:List (Key × V)
 f:Str->Option Int
 r:Int
 s:Bool
structure Ob where
 R:Rr
 o:Addr
 m:Addr
 t:Option Int
structure ObAt (d:Ad) (H:Hp) (P:PL) (b:Ob):Prop where
 obj:∃dx,H b.o=some (.ins (qgg d b.R.s) dx (fsB b.R.n (nmF P b.R.i) b.m b.R.r b.t))
 amt:H b.m=some (.dK b.R.k)
 ad:AD b.R.k b.R.f
 inw:InW P.ws b.R.f
 il:b.R.i < P.nm.length
theorem ObAt.same {d:Ad} {H H':Hp} {P:PL} {b:Ob} (h:ObAt d H P b) (s:qar H H'):ObAt d H' P b:=⟨let ⟨dx,e⟩:=h.obj;⟨dx,s _ _ e⟩,s _ _ h.amt,h.ad,h.inw,h.il⟩
theorem line_kid {el:Nat->Nat} {n:Nat} (lo:Low el n) {j:Nat}:∀k,k < n->j∈qab el k->j≠k->∃c,0 < c/\c < n/\el c=j/\c∈qab el k:=by
 intro k
 induction k using aB with
 |ind k ih=>
  intro kn hj ne
  cases k with
  |zero=>rw [qdo] at hj;simp at hj;omega
  |succ k=>
   have l:=lo (k+1) (by omega) kn
   rw [qc8 lo (by omega) kn] at hj ⊢
   rcases zR.mp hj with h|h
   .exact absurd h ne
   .by_cases c:j=el (k+1)
    .exact⟨k+1,by omega,kn,c.symm,zG ..⟩
    .obtain⟨x,x0,x1,x2,x3⟩:=ih (el (k+1)) l (by omega) h c
     exact⟨x,x0,x1,x2,zE _ x3⟩
theorem Pl.isKid {S:Ts} {nm:Nat->Str} {el:Nat->Nat} {n:Nat} (p:Pl S nm el n) {c:Nat} (c0:0 < c) (cn:c < n):nm c∈qbg S (nm (el c)):=by
 obtain⟨e,h1,h2,h3⟩:=p.get cn
 rw [gS (by omega)] at h3
 rw [<-h2]
 exact zI.mpr ⟨e,zY.mpr ⟨zF h1,gU h3⟩,rfl⟩
theorem flat_in {parts:List (Str × List Str)} {q:Str × List Str} {y:Str} (hq:q∈parts) (hy:y∈q.2):y∈flat parts:=yW.mpr ⟨q.2,zI.mpr ⟨q,hq,rfl⟩,hy⟩
theorem Pl.allBen {S:Ts} {nm:Nat->Str} {el:Nat->Nat} {n:Nat} (p:Pl S nm el n):∀(m j:Nat) (zs:List Str),j < n->Ben S m (nm j) zs->∀k,k < n->j∈qab el k->nm k∈zs:=by
 intro m
 induction m with
 |zero=>
  rintro j _ jn ⟨parts,hp,rfl,hb⟩ k kn hk
  by_cases c:j=k
  .rw [c];exact zG ..
  .obtain⟨x,x0,x1,x2,x3⟩:=line_kid p.low k kn hk c
   have z:=p.isKid x0 x1
   rw [x2] at z
   obtain⟨q,hq,_⟩:=zI.mp (hp.mem_iff.mpr z)
   exact(hb q hq).elim
 |succ m ih=>
  rintro j _ jn ⟨parts,hp,rfl,hb⟩ k kn hk
  by_cases c:j=k
  .rw [c];exact zG ..
  .obtain⟨x,x0,x1,x2,x3⟩:=line_kid p.low k kn hk c
   have z:=p.isKid x0 x1
   rw [x2] at z
   obtain⟨q,hq,e⟩:=zI.mp (hp.mem_iff.mpr z)
   have hB:=hb q hq
   rw [e] at hB
   exact zE _ (flat_in hq (ih x q.2 x1 hB k kn x3))
theorem Pl.benIff {S:Ts} {nm:Nat->Str} {el:Nat->Nat} {n:Nat} (p:Pl S nm el n) {m j:Nat} {zs:List Str} (jn:j < n) (h:Ben S m (nm j) zs) {k:Nat} (kn:k < n):nm k∈zs↔j∈qab el k:=by
 refine⟨fun hk=>?_,p.allBen m j zs jn h k kn⟩
 obtain⟨i,i1,i2,i3⟩:=p.ben m j zs jn h.part _ hk
 rw [p.inj k i kn i1 i2]
 exact i3
noncomputable def bsV (bs:List Ob):List V:=bs.map fun b=> .ref b.o
noncomputable def inZ (P:PL) (zs:List Str) (b:Ob):Bool:=decide (nmF P b.R.i∈zs)
noncomputable def NoHs (K:uR) (d:Ad) (H:Hp) (t:Addr) (x:V) (E:XK):Prop:=∃S:Ts,qes d H t S/\WF S/\qe8 K H x/\who S x=none/\∀H',qar H H'->E (.ref d.w0e) none H'
noncomputable def w7n (K:uR) (d:Ad):Sp:=fun vs H Q E=>(∃(t:Addr) (l x:V),vs=[.ref t,l,x]/\NoHs K d H t x E)\/∃(t lh:Addr) (S:Ts) (P:PL) (bs:List Ob) (z:Str) (e:He),vs=[.ref t,.ref lh,.str z]/\qes d H t S/\WF S/\S.at z=some e/\Dep S 12 z/\H lh=some (.lst (bsV bs))/\bs.length<=63/\(∀b∈bs,ObAt d H P b)/\
 ∀(l:Addr) (zs:List Str) H',qar H H'->H l=none->Ben S 12 z zs->H' l=some (.lst (bsV (bs.filter (inZ P zs))))->Q (.ref l) H'
include T in
theorem w2r:FnOk P w K mg base (My.CX1 P w) 17 d.w3i d.w2j ["tree","holds","house"] (w7n K d):=by
 refine okX T.w25 w2m (fun vs H Q E h=>?_) (fun cdv A outer s H vs Q E hr h=>?_)
 .rcases h with ⟨t,l,x,rfl,_⟩ |⟨t,lh,S,P,bs,z,e,rfl,_⟩ <;> rfl
 rcases h with ⟨t,l,x,rfl,S,hT,hW,hx,wn,q⟩ |h
 .refine⟨_,(qa1 (qag (i:=3) w2m.nd rfl (aV rfl) (qb4 (pv 0) T.w01 T.w0c ((w3d T).mono (by decide)) hr T.w2d .nil qb0 (qa0 (pv 2) qa2)))
  (qa5 (qai (qbp (caps:=[3]) (cn:=["names"]) (qb1 rfl rfl (by rfl) (by rfl) rfl ⟨rfl,trivial⟩ (by rfl) rfl ⟨⟨rfl,rfl,rfl,rfl,_,rfl⟩,trivial⟩ (by decide)) rfl (qau (pv 1)) (fun _ _ _ _=>(qck (qam qbv (qbb (pv 0) rfl) (pv 1) (by rfl)))) (fun _ _ _ _=>(pv 0)))))),?_⟩
  walk_at "d"
  try dsimp only [cxC]
  refine qah (σ:=[some (.ref t),some (l),some (x),none]) rfl ?_
  have ct:=T.w01
  obtain⟨dx,ht⟩:=id hT.1
  left
  refine⟨t,S,x,rfl,hT,qfx hW hT.2.2.2.2.1,hx,fun e he=>?_,fun _ ll hll=>?_⟩
  .rw [wn] at he;cases he
  exact q _ (qa9 hll _)
 obtain⟨t,lh,S,P,bs,z,e,rfl,hT,hW,ae,hD,hL,h63,hB,q⟩:=h
 have een:=(qcd ae).2
 refine⟨_,(qa1 (qag (i:=3) w2m.nd rfl (aV rfl) (qb4 (pv 0) T.w01 T.w0c ((w3d T).mono (by decide)) hr T.w2d .nil qb0 (qa0 (pv 2) qa2)))
  (qa5 (qai (qbp (caps:=[3]) (cn:=["names"]) (qb1 rfl rfl (by rfl) (by rfl) rfl ⟨rfl,trivial⟩ (by rfl) rfl ⟨⟨rfl,rfl,rfl,rfl,_,rfl⟩,trivial⟩ (by decide)) rfl (qau (pv 1)) (fun _ _ _ _=>(qck (qam qbv (qbb (pv 0) rfl) (pv 1) (by rfl)))) (fun _ _ _ _=>(pv 0)))))),?_⟩
 walk_at "d"
 try dsimp only [cxC]
 refine qah (σ:=[some (.ref t),some (.ref lh),some (.str z),none]) rfl ?_
 have ct:=T.w01
 obtain⟨dx,ht⟩:=id hT.1
 left
 refine⟨t,S,.str z,rfl,hT,qfx hW hT.2.2.2.2.1,.inl ⟨_,rfl⟩,fun e' he'=>?_,fun hn=>?_⟩
 rotate_left
 .rw [show who S (.str z)=some e from ae] at hn;cases hn
 have ee:e=e':=uX (ae.symm.trans he')
 subst ee
 rw [een]
 refine⟨hD,fun lb zs H1 s1 hlb elb hBen=>?_⟩
 have hL1:=s1 _ _ hL
 have hB1:∀b∈bs,ObAt d H1 P b:=fun b hb=>(hB b hb).same s1
 clear hT hD he' ht hL hB
 left
 intro C s0 H0 fp acc hacc
 refine qel bs.length (fun i H'=>H'=upd H1 acc (.lst (bsV ((bs.take i).filter (inZ P zs))))) rfl ?_ ?_ ?_ ?_
 .rintro i H' hi rfl
  exact⟨_,.ref bs[i].o,SqL.of (qae hL1 hacc),by unfold bsV;rw [zC,zA hi];rfl⟩
 .rintro H' rfl
  exact⟨_,SqL.of (qae hL1 hacc),by unfold bsV;rw [zB];exact uG _⟩
 .rintro i H' v H'' hi rfl ⟨rfl,hy⟩
  have hv:=hy _ (SqL.of (qae hL1 hacc))
  unfold bsV at hv
  rw [zC,zA hi] at hv
  cases hv
  have hb:=hB1 _ (zM hi)
  have tk:bs.take (i+1)=bs.take i++ [bs[i]]:=by rw [zL,zA hi];rfl
  generalize hbi:bs[i]=b at*
  obtain⟨dx,hbo⟩:=hb.obj
  have hbo':=qae (o':=.lst (bsV ((bs.take i).filter (inZ P zs)))) hbo hacc
  have elb':=qae (o':=.lst (bsV ((bs.take i).filter (inZ P zs)))) elb hacc
  obtain⟨cl,n1,n2,n3,n4,n5⟩:=clsOk T b.R.s
  have zl:(bsV ((bs.take i).filter (inZ P zs))).length < sizeLine:=by
   unfold bsV
   rw [zB]
   have h1:=zN (inZ P zs) (bs.take i)
   rw [zW] at h1
   show _ < 16777216
   omega
  left
  refine r_inSs (SqL.of elb') ?_
  by_cases m:nmF P b.R.i∈zs
  .rw [gU m]
   left
   rw [qbn,tk,zQ,zJ,gT (show inZ P zs b=true from gU m)]
   congr 2
   unfold bsV
   rw [zD];rfl
  .rw [gW m]
   left
   rw [tk,zQ,zJ,gS (show ¬inZ P zs b=true by rw [show inZ P zs b=false from gW m];decide),yK,yA]
 rintro H' rfl
 rw [zP]
 left
 exact q acc zs _ (s1.trans (qa9 hacc _)) (s1.free hacc) hBen qa3
noncomputable def obPt (b:Ob):Pt:=⟨b.m,b.R.k,b.R.f⟩
noncomputable def wdz (K:uR) (d:Ad):Sp:=fun vs H Q _=>∃(lh:Addr) (P:PL) (bs:List Ob),vs=[.ref lh]/\H lh=some (.lst (bsV bs))/\bs.length<=63/\P.ws.length<=6/\(∀b∈bs,ObAt d H P b)/\
 ∀(l:Addr) (k:List (Key × V)) H',qar H H'->H l=none->H' l=some (.dK k)->AD k (sumF (bs.map obPt))->Q (.ref l) H'
include T in
theorem w9d:FnOk P w K mg base CX0 4 d.w8n d.w6o ["holds"] (wdz K d):=by
 refine T.w8l.ok wdu (fun vs H Q E h=>?_) (fun cdv A outer s H vs Q E hr h=>?_)
 .obtain⟨lh,P,bs,rfl,_⟩:=h;rfl
 obtain⟨lh,P,bs,rfl,hL,h63,w3,hB,q⟩:=h
 refine⟨_,(qa5 (qai (qa8 ((w8j T).mono (by decide)) hr rfl T.w9k T.w6n.kp T.w98 .nil qak (qa0 (qbp (caps:=[]) (cn:=[]) (qb1 rfl rfl (by rfl) (by rfl) rfl trivial (by rfl) rfl trivial (by decide)) rfl (qau (pv 0)) (fun _ _ _ _=>qd8) (fun _ _ _ _=>(qbb (pv 0) rfl))) qa2)))),?_⟩
 walk_at "d"
 try dsimp only [cxC]
 refine qah (σ:=[some (.ref lh)]) rfl ?_
 left
 intro C s0 H0 fp acc hacc
 refine qel bs.length (fun i H'=>H'=upd H acc (.lst (((bs.take i).map obPt).map fun u=> .ref u.a))) rfl ?_ ?_ ?_ ?_
 .rintro i H' hi rfl
  exact⟨_,.ref bs[i].o,SqL.of (qae hL hacc),by unfold bsV;rw [zC,zA hi];rfl⟩
 .rintro H' rfl
  exact⟨_,SqL.of (qae hL hacc),by unfold bsV;rw [zB];exact uG _⟩
 .rintro i H' v H'' hi rfl ⟨rfl,hy⟩
  have hv:=hy _ (SqL.of (qae hL hacc))
  unfold bsV at hv
  rw [zC,zA hi] at hv
  cases hv
  have hb:=hB _ (zM hi)
  have tk:bs.take (i+1)=bs.take i++ [bs[i]]:=by rw [zL,zA hi];rfl
  generalize hbi:bs[i]=b at*
  obtain⟨dx,hbo⟩:=hb.obj
  have hbo':=qae (o':=.lst (((bs.take i).map obPt).map fun u=> .ref u.a)) hbo hacc
  obtain⟨cl,n1,n2,n3,n4,n5⟩:=clsOk T b.R.s
  left
  rw [qbn,tk,zD,zD]
  rfl
 rintro H' rfl
 rw [zP]
 have s2:=qa9 hacc (.lst ((bs.map obPt).map fun u=>V.ref u.a))
 have eN:upd H acc (.lst ((bs.map obPt).map fun u=>V.ref u.a)) acc=some (.lst ((bs.map obPt).map fun u=>V.ref u.a)):=qa3
 left
 refine⟨acc,bs.map obPt,P.ws,rfl,SqL.of eN,by omega,fun u hu=>?_,fun l k' H2 s3 hl el hA=>q l k' H2 (s2.trans s3) (s2.free hl) el hA⟩
 obtain⟨b,hb,rfl⟩:=zI.mp hu
 have hb':=hB b hb
 exact⟨s2 _ _ hb'.amt,hb'.ad,hb'.inw⟩
noncomputable def wh4 (K:uR) (d:Ad):Sp:=fun vs H Q E=>(∃(t:Addr) (l x:V),vs=[.ref t,l,x]/\NoHs K d H t x E)\/∃(t lh:Addr) (S:Ts) (P:PL) (bs:List Ob) (z:Str) (e:He),vs=[.ref t,.ref lh,.str z]/\qes d H t S/\WF S/\S.at z=some e/\Dep S 12 z/\H lh=some (.lst (bsV bs))/\bs.length<=63/\P.ws.length<=6/\(∀b∈bs,ObAt d H P b)/\
 ∀(l:Addr) (zs:List Str) (k:List (Key × V)) H',qar H H'->H l=none->Ben S 12 z zs->H' l=some (.dK k)->AD k (sumF ((bs.filter (inZ P zs)).map obPt))->Q (.ref l) H'
include T in
theorem wh7:FnOk P w K mg base (My.CX1 P w) 18 d.weu d.wc9 ["tree","holds","house"] (wh4 K d):=by
 refine okX T.wgh wh3 (fun vs H Q E h=>?_) (fun cdv A outer s H vs Q E hr h=>?_)
 .rcases h with ⟨t,l,x,rfl,_⟩ |⟨t,lh,S,P,bs,z,e,rfl,_⟩ <;> rfl
 rcases h with ⟨t,l,x,rfl,hN⟩ |h
 .refine⟨_,(qa5 (qai (qa8 ((w9d T).mono (by decide)) hr rfl T.wav T.w8l.kp T.wap .nil qak (qa0 (qbs ((w2r T).mono (by decide)) hr rfl T.w35 T.w25.kp T.w36 .nil qb0 (qa0 (pv 0) (qa0 (pv 1) (qa0 (pv 2) qa2)))) qa2)))),?_⟩
  walk_at "d"
  refine qah (σ:=[some (.ref t),some (l),some (x)]) rfl ?_
  left
  exact .inl ⟨t,l,x,rfl,hN⟩
 obtain⟨t,lh,S,P,bs,z,e,rfl,hT,hW,ae,hD,hL,h63,w3,hB,q⟩:=h
 refine⟨_,(qa5 (qai (qa8 ((w9d T).mono (by decide)) hr rfl T.wav T.w8l.kp T.wap .nil qak (qa0 (qbs ((w2r T).mono (by decide)) hr rfl T.w35 T.w25.kp T.w36 .nil qb0 (qa0 (pv 0) (qa0 (pv 1) (qa0 (pv 2) qa2)))) qa2)))),?_⟩
 walk_at "d"
 refine qah (σ:=[some (.ref t),some (.ref lh),some (.str z)]) rfl ?_
 left
 refine .inr ⟨t,lh,S,P,bs,z,e,rfl,hT,hW,ae,hD,hL,h63,hB,fun l zs H1 s1 hl hBen el=>?_⟩
 left
 refine⟨l,P,_,rfl,el,vP (zN ..) h63,w3,fun b hb=>(hB b (zY.mp hb).1).same s1,fun l2 k H2 s2 hl2 el2 hA=>?_⟩
 exact q l2 zs k H2 (s1.trans s2) (s1.free hl2) hBen el2 hA
theorem inV_nat {k:Nat}:∀L:List Nat,inV (.int ((k:Nat):Int)) (L.map iV)=decide (k∈L)
 | []=>rfl
 |z :: r=>by
  have ih:=inV_nat (k:=k) r
  unfold inV at ih ⊢
  rw [zS,xC,ih]
  by_cases c:z=k
  .subst c
   rw [show eqV (iV z) (V.int ((z:Nat):Int))=true from beq_self_eq_true _,gU (zG ..)]
   rfl
  .rw [show eqV (iV z) (V.int ((k:Nat):Int))=false from beq_false_of_ne fun e=>c (by omega),cB]
   by_cases m:k∈r
   .rw [gU m,gU (zE _ m)]
   .rw [gW m,gW fun h=>(zR.mp h).elim (fun e=>c e.symm) m]
theorem flat_nats (L:List Nat):(L.map iV).all qdl=true:=by
 rw [gF]
 exact yM.mpr fun _ _=>rfl
theorem r_inN {K:uR} {H:Hp} {Q:VK} {p:Addr} {k:Nat} {ki:Int} {L:List Nat} (h:SqL K H p (L.map iV)) (e:((k:Nat):Int)=ki) (q:Q (.bl (decide (k∈L))) H):rIn K false (.int ki) (.ref p) H Q:=⟨p,_,rfl,.inl h,rfl,flat_nats L,by rw [<-e,inV_nat];exact q⟩
theorem ObAt.put {d:Ad} {H:Hp} {P:PL} {b:Ob} {q:Addr} {o:HO} (h:ObAt d H P b) (n1:b.o≠q) (n2:b.m≠q):ObAt d (upd H q o) P b:=⟨let ⟨dx,e⟩:=h.obj;⟨dx,by rw [qa6 n1];exact e⟩,by rw [qa6 n2];exact h.amt,h.ad,h.inw,h.il⟩
noncomputable def qbz (ns:List Int) (k:Int):Int:=if k <((ns.length:Nat):Int) then cell ns k else if ns=[] then 7919*k else (cell ns (k%((ns.length:Nat):Int))).fdiv (k+1)+7919*k
noncomputable def whb (K:uR) (d:Ad):Sp:=fun vs H Q _=>∃(a:Addr) (ns:List Int) (k:Int),vs=[.ref a,.int k]/\SqL K H a (ns.map V.int)/\0<=k/\k<=1000/\ns.length<=63/\∀H',qar H H'->Q (.int (qbz ns k)) H'
noncomputable def wg9 (K:uR) (d:Ad):Sp:=fun vs H Q _=>∃c k m:Int,vs=[.int c,.int k,.int m]/\0<=k/\k<=100000/\1<=m/\m<=100000/\∀r:Int,0<=r->r < m->Q (.int r) H
section
variable {K: uR} {d: Ad} {H: Hp} {Q: VK} {E: XK}
theorem qci {c k m:Int} (k0:0<=k) (k1:k<=100000) (m0:1<=m) (m1:m<=100000) (q:∀r:Int,0<=r->r < m->Q (.int r) H):wg9 K d [.int c,.int k,.int m] H Q E:=⟨c,k,m,rfl,k0,k1,m0,m1,q⟩
end
include T in
theorem w20:FnOk P w K mg base CX0 1 d.wet d.wd3 ["_law_script","_law_k"] (whb K d):=by
 refine T.w33.ok wh0 (fun vs H Q E h=>?_) (fun cdv A outer s H vs Q E hr h=>?_)
 .obtain⟨a,ns,k,rfl,_⟩:=h;rfl
 obtain⟨a,ns,k,rfl,hS,k0,k1,hn,q⟩:=h
 refine⟨_,(qa1 (qbh (qam op_lt (pv 1) (qaf qay rfl T.w2t vH (qa0 (pv 0) qa2)) (qas _)) (qa5 (qai (qaj qal (pv 0) (pv 1) (fun _ _=>rfl)))) qaq)
  (qa1 (qbh (qam (op_eqD (hu8 hr)) (pv 0) pe_lst0 (qas _)) (qa5 (qai (qao qby qa4 (pv 1)))) qaq)
  (qa5 (qai (qao qb2 (qao qcn (qaj qal (pv 0) (qao qcc (pv 1) (qaf qay rfl T.w2t vH (qa0 (pv 0) qa2))) (fun _ _=>rfl)) (qao qb2 (pv 1) qa4)) (qao qby qa4 (pv 1))))))),?_⟩
 walk_at "d"
 refine qah (σ:=[some (.ref a),some (.int k)]) rfl ?_
 left
 have hl:(ns.map V.int).length=ns.length:=zB _
 have ks:k.natAbs < 2^600:=vT (show k.natAbs<=1000 by omega) (by decide)
 rw [hl]
 refine i_2 (fun c=>?_) (fun c=>?_)
 .have q:=q H (qar.refl _)
  unfold qbz at q
  rw [gT c] at q
  left
  refine qb3 hS (cell_at k0 c) ?_
  left
  exact q
 .left
  refine r_lst0 fun pe hpe npe=>?_
  have s1:=qa9 hpe (.lst [])
  have hS1:=s1.seq hS
  have q:=q _ s1
  have epe:upd H pe (.lst []) pe=some (.lst []):=qa3
  generalize upd H pe (.lst [])=H1 at*
  have ne:=npe a _ hS
  refine r_eqD ne (by decide) (qgf (n:=0) hS1 (SqL.of epe) ne) ?_
  have em:(ns.map V.int=[])=(ns=[]):=propext ⟨fun e=>by simpa using e,fun e=>by rw [e];rfl⟩
  simp only [em]
  unfold qbz at q
  rw [gS c] at q
  by_cases c2:ns=[]
  .rw [gT c2] at q
   rw [gU c2]
   left
   exact q
  .rw [gS c2] at q
   rw [gW c2]
   have l0:0 < ns.length:=List.length_pos_iff.mpr c2
   left
   rw [hl]
   have e0:=wA k (show ((ns.length:Nat):Int)≠0 by omega)
   have e1:=vZ k (show (0:Int) <((ns.length:Nat):Int) by omega)
   left
   refine qb3 hS1 (cell_at e0 e1) ?_
   left
   exact q
include T in
theorem w1a:FnOk P w K mg base CX0 1 d.wgu d.wf1 ["_law_cell_here","_law_k","_law_many"] (wg9 K d):=by
 refine T.w2w.ok wgc (fun vs H Q E h=>?_) (fun cdv A outer s H vs Q E hr h=>?_)
 .obtain⟨c,k,m,rfl,_⟩:=h;rfl
 obtain⟨c,k,m,rfl,k0,k1,m0,m1,q⟩:=h
 refine⟨_,(qa1 (qag (i:=3) wgc.nd rfl (uJ rfl) (qao qcc (qao qby (qao qb2 (qao qcc (pv 0) qa4) (qao qby qa4 (pv 1))) qa4) qa4))
  (qa5 (qai (qao qcc (qao qcn (qao qcc (qao qb2 (qao qby (pv 3) (pv 3)) (pv 3)) qa4) qa4) (pv 2))))),?_⟩
 walk_at "d"
 refine qah (σ:=[some (.int c),some (.int k),some (.int m),none]) rfl ?_
 left
 have a0:=wA c (show (1000003:Int)≠0 by decide)
 have a1:=vZ c (show (0:Int) < 1000003 by decide)
 generalize c%1000003=u at*
 left
 have n0:=wA ((u+7919*k)*48271) (show (2147483647:Int)≠0 by decide)
 have n1:=vZ ((u+7919*k)*48271) (show (0:Int) < 2147483647 by decide)
 generalize (u+7919*k)*48271%2147483647=y at*
 left
 exact q _ (wA _ (by omega)) (vZ _ (by omega))
noncomputable def nJ (c1 sh A:Int) (j:Nat):Nat:=letc (c1.fdiv (0+(j:Int)+1)+(0+(j:Int))*(0+(j:Int))+sh*if decide (0+(j:Int)=A)=true then 1 else 0)
noncomputable def nB (c1 sh A:Int) (L:Nat):List Nat:=(vG L).map (nJ c1 sh A)
noncomputable def nE (c0:Int):Int:=c0.fdiv 64%2
noncomputable def nL (c0:Int):Nat:=(1+c0%(8 - nE c0)).toNat
noncomputable def nA (c0:Int):Int:=c0.fdiv 8%((nL c0:Nat):Int)
noncomputable def nmC (c0 c1:Int) (m:Int):List Nat:=if nE c0=1 then nB c1 (m.fdiv 2) (nA c0) (nL c0)++(if m%2=1 then [letc c1] else []) else nB c1 m (nA c0) (nL c0)
noncomputable def nmS (c0 c1:Int) (m:Int):Str:=ofL (nmC c0 c1 m)
theorem nE_or (c0:Int):nE c0=0\/nE c0=1:=by unfold nE;omega
theorem nL_ok (c0:Int):1<=nL c0/\((nL c0:Nat):Int)<=8 - nE c0/\((nL c0:Nat):Int)=1+c0%(8 - nE c0):=by
 have h:=nE_or c0
 unfold nL
 generalize nE c0=e at*
 have f0:=wA c0 (show (8 - e:Int)≠0 by omega)
 have f1:=vZ c0 (show (0:Int) < 8 - e by omega)
 omega
theorem nA_ok (c0:Int):0<=nA c0/\nA c0 <((nL c0:Nat):Int):=by
 have h:=(nL_ok c0).1
 unfold nA
 exact⟨wA _ (by omega),vZ _ (by omega)⟩
theorem qda (c1 sh A:Int) (L:Nat):(nB c1 sh A L).length=L:=by unfold nB;rw [zB,yZ]
theorem nB_inj {c1 sh sh' A:Int} {L:Nat} (a0:0<=A) (a1:A < L) (h0:0<=sh) (h1:sh < 26) (h2:0<=sh') (h3:sh' < 26) (h:nB c1 sh A L=nB c1 sh' A L):sh=sh':=by
 have hj:=congrArg (fun l:List Nat=>l[A.toNat]?) h
 unfold nB at hj
 simp only [zC] at hj
 rw [List.getElem?_range (by omega)] at hj
 have hj':nJ c1 sh A A.toNat=nJ c1 sh' A A.toNat:=by simpa using hj
 unfold nJ at hj'
 have e:decide ((0:Int)+(A.toNat:Int)=A)=true:=gU (by omega)
 rw [e,gT rfl] at hj'
 have z:=letc_inj hj'
 generalize c1.fdiv (0+(A.toNat:Int)+1)+(0+(A.toNat:Int))*(0+(A.toNat:Int))=x at z
 omega
theorem qgc {l:List Nat} (h1:1<=l.length) (h8:l.length<=8) (h:∀x∈l,isL x=true):qdx (ofL l)=true:=by
 unfold qdx
 rw [qg7,qf9,vS,vS,decide_eq_true_iff,decide_eq_true_iff,yM]
 exact⟨⟨h1,h8⟩,h⟩
theorem nB_isL (c1 sh A:Int) (L:Nat):∀x∈nB c1 sh A L,isL x=true:=fun x hx=>by
 unfold nB at hx
 obtain⟨j,_,rfl⟩:=zI.mp hx
 exact letc_isL _
theorem nmS_good (c0 c1 m:Int):qdx (nmS c0 c1 m)=true:=by
 obtain⟨h1,h2,_⟩:=nL_ok c0
 unfold nmS nmC
 rcases nE_or c0 with e|e
 .rw [gS (by omega)]
  exact qgc (by rw [qda];exact h1) (by rw [qda];omega) (nB_isL _ _ _ _)
 .rw [gT e]
  by_cases c:m%2=1
  .rw [gT c]
   refine qgc (by rw [zK,qda];omega) (by rw [zK,qda,yB];omega) fun x hx=>?_
   rcases zT.mp hx with h|h
   .exact nB_isL _ _ _ _ x h
   .rw [zH.mp h];exact letc_isL _
  .rw [gS c,yA]
   exact qgc (by rw [qda];exact h1) (by rw [qda];omega) (nB_isL _ _ _ _)
theorem nmS_inj {c0 c1 m m':Int} (m0:0<=m) (m1:m < 26) (m2:0<=m') (m3:m' < 26) (h:nmS c0 c1 m=nmS c0 c1 m'):m=m':=by
 have z:=ofL_inj h
 obtain⟨a0,a1⟩:=nA_ok c0
 unfold nmC at z
 have d1:m.fdiv 2=m / 2:=aO m (by decide)
 have d2:m'.fdiv 2=m' / 2:=aO m' (by decide)
 rcases nE_or c0 with e|e
 .rw [gS (by omega),gS (by omega)] at z
  exact nB_inj a0 a1 m0 m1 m2 m3 z
 .rw [gT e,gT e,d1,d2] at z
  have hl:=congrArg wP z
  rw [zK,zK,qda,qda] at hl
  have hx:=nB_inj a0 a1 (show 0<=m / 2 by omega) (by omega) (show 0<=m' / 2 by omega) (by omega) (List.append_inj_left z (by rw [qda,qda]))
  by_cases c:m%2=1
  .by_cases c':m'%2=1
   .omega
   .rw [gT c,gS c'] at hl
    have hl:nL c0+1=nL c0+0:=hl
    omega
  .by_cases c':m'%2=1
   .rw [gS c,gT c'] at hl
    have hl:nL c0+0=nL c0+1:=hl
    omega
   .omega
structure Nms (ss:List Str) (n:Nat):Prop where
 len:ss.length=n
 nd:ss.Nodup
 good:∀z∈ss,qdx z=true
theorem nms_of {c0 c1 b:Int} {n:Nat} (b0:0<=b) (b1:b+n<=26):Nms ((vG n).map fun(k:Nat)=>nmS c0 c1 (b+(k:Int))) n:=by
 refine⟨by rw [zB,yZ],?_,fun z hz=>?_⟩
 .show dL _ _
  rw [yO]
  refine List.Pairwise.imp_of_mem (R:=fun a b=>a < b) (fun {x y} hx hy lt e=>?_) List.pairwise_lt_range
  have h1:=xB.mp hx
  have h2:=xB.mp hy
  have:=nmS_inj (by omega) (by omega) (by omega) (by omega) e
  omega
 .obtain⟨k,_,rfl⟩:=zI.mp hz
  exact nmS_good _ _ _
theorem ofL_app (l l':List Nat):ofL l++ofL l'=ofL (l++l'):=by
 have e:(ofL l++ofL l').cps=(ofL (l++l')).cps:=by
  rw [Str.cps_append]
  simp [ofL]
 exact congrArg Str.mk e
noncomputable def wh9 (K:uR) (d:Ad):Sp:=fun vs H Q _=>∃(a:Addr) (ns:List Int) (m:Int),vs=[.ref a,.int m]/\SqL K H a (ns.map V.int)/\ns.length<=63/\0<=m/\m<=25/\∀H',qar H H'->Q (.str (nmS (qbz ns 0) (qbz ns 1) m)) H'
include T in
theorem wex:FnOk P w K mg base CX0 2 d.wez d.wbv ["_law_script","_law_number"] (wh9 K d):=by
 refine T.wem.ok w2n (fun vs H Q E h=>?_) (fun cdv A outer s H vs Q E hr h=>?_)
 .obtain⟨a,ns,m,rfl,_⟩:=h;rfl
 obtain⟨a,ns,m,rfl,hS,h63,m0,m1,q⟩:=h
 refine⟨_,(qa1 (qag (i:=2) w2n.nd rfl (uJ rfl) qcx)
  (qa1 (qag (i:=3) w2n.nd rfl (uJ rfl) (qa8 ((w20 T).mono (by decide)) hr rfl T.w3k T.w33.kp T.w3l .nil qak (qa0 (pv 0) (qa0 qa4 qa2))))
  (qa1 (qag (i:=4) w2n.nd rfl (uJ rfl) (qao qb2 qa4 (qao qcc (pv 3) (qao qek qa4 (qao qcc (qao qcn (pv 3) qa4) qa4)))))
  (qa1 (qag (i:=5) w2n.nd rfl (uJ rfl) (qao qcc (qao qcn (pv 3) qa4) (pv 4)))
  (qa1 (qag (i:=6) w2n.nd rfl (uJ rfl) (pv 1))
  (qa1 (qag (i:=7) w2n.nd rfl (uJ rfl) qcx)
  (qa1 (qe0 (qbh (qam qen (qao qcc (qao qcn (pv 3) qa4) qa4) qa4 (qas _)) (qa1 (qag (i:=6) w2n.nd rfl (uJ rfl) (qao qcn (pv 1) qa4))
  (qa5 (qag (i:=7) w2n.nd rfl (uJ rfl) (qao op_rep (qaj ix_str (pv 2) (qao qcc (qa8 ((w20 T).mono (by decide)) hr rfl T.w3k T.w33.kp T.w3l .nil qak (qa0 (pv 0) (qa0 qa4 qa2))) qa4) (fun _ _=>rfl)) (qao qcc (pv 1) qa4))))) qaq))
  (qa1 (qag (i:=8) w2n.nd rfl (uJ rfl) qcx)
  (qa1 (qb7 uY rfl (qc1 rfl T.w34 (qa0 (pv 4) qa2)) (qac (i:=9) w2n.nd rfl (uJ rfl)) (qa5 (qag (i:=8) w2n.nd rfl (uJ rfl) (qao op_catS (pv 8) (qaj ix_str (pv 2) (qao qcc (qao qb2 (qao qb2 (qao qcn (qa8 ((w20 T).mono (by decide)) hr rfl T.w3k T.w33.kp T.w3l .nil qak (qa0 (pv 0) (qa0 qa4 qa2))) (qao qb2 (pv 9) qa4)) (qao qby (pv 9) (pv 9))) (qao qby (pv 6) (qbq qe7 rfl T.wdv wY (qa0 (qbm qen (pv 9) (pv 5) (qas _)) qa2)))) qa4) (fun _ _=>rfl))))))
  (qa5 (qai (qao op_catS (pv 8) (pv 7))))))))))))),?_⟩
 walk_at "d"
 refine qah (σ:=[some (.ref a),some (.int m),none,none,none,none,none,none,none,none]) rfl ?_
 left
 refine⟨a,ns,0,rfl,hS,by decide,by decide,h63,fun H1 s1=>?_⟩
 generalize hc0:qbz ns 0=c0 at*
 generalize hc1:qbz ns 1=c1 at*
 have hS1:=s1.seq hS
 obtain⟨L1,L8,eL⟩:=nL_ok c0
 obtain⟨A0,A1⟩:=nA_ok c0
 have E01:=nE_or c0
 have q:∀H',qar H1 H'->Q (.str (nmS c0 c1 m)) H':=fun H' s'=>q H' (s1.trans s')
 left
 have eL':1+c0%(8 - c0.fdiv 64%2)=((nL c0:Nat):Int):=eL.symm
 rw [eL']
 refine r_I (by omega) ?_
 have eA:c0.fdiv 8%((nL c0:Nat):Int)=nA c0:=rfl
 rw [eA]
 clear eL eL' eA
 have eN:((nL c0:Nat):Int).toNat=nL c0:=by omega
 generalize hLi:((nL c0:Nat):Int)=Li at*
 generalize hAi:nA c0=A at*
 left
 refine r_cut (fun σ' H'=>∃(sh:Int) (tl:List Nat),σ'=[some (.ref a),some (.int m),some (.str ABC),some (.int c0),some (.int Li),some (.int A),some (.int sh),some (.str (ofL tl)),none,none]/\qar H1 H'/\0<=sh/\sh<=25/\tl.length<=1/\nmC c0 c1 m=nB c1 sh A (nL c0)++tl) ?_ ?_
 .left
  refine i_2 (fun c=>?_) (fun c=>?_)
  .have ed:m.fdiv 2=m / 2:=aO m (by decide)
   have ez:nmC c0 c1 m=nB c1 (m.fdiv 2) A (nL c0)++(if m%2=1 then [letc c1] else []):=by unfold nmC;rw [gT (show nE c0=1 from c),hAi]
   left
   refine⟨a,ns,1,rfl,hS1,by decide,by decide,h63,fun H2 s2=>?_⟩
   rw [hc1]
   left
   refine r_ixS (by decide) (letAt _) ?_
   left
   refine r_rep (by omega) (by omega) ?_
   left
   refine⟨m.fdiv 2,if m%2=1 then [letc c1] else [],?_,s2,by omega,by omega,by split;exact uG _;exact wC _,ez⟩
   by_cases c3:m%2=1
   .rw [gT c3,gS (by omega)];rfl
   .rw [gS c3,gT (by omega)];rfl
  .left
   refine⟨m, [],rfl,qar.refl _,m0,by omega,by decide,?_⟩
   unfold nmC
   rw [gS (show ¬nE c0=1 from c),yA,hAi]
 rintro σ' H2 ⟨sh,tl,rfl,s2,h0,h1,ht,ez⟩
 left
 rw [eN]
 have shs:sh.natAbs < 2^600:=vT (show sh.natAbs<=25 by omega) (by decide)
 refine qd2 (fun i σ H'=>∃(w:Option V),σ=[some (.ref a),some (.int m),some (.str ABC),some (.int c0),some (.int Li),some (.int A),some (.int sh),some (.str (ofL tl)),some (.str (ofL (nB c1 sh A i))),w]/\qar H2 H') ⟨_,rfl,qar.refl _⟩ ?_ ?_
 .rintro i σ H' hi ⟨w,rfl,s3⟩
  have ki:((0:Int)+(i:Int)).natAbs < 2^600:=vT (show ((0:Int)+(i:Int)).natAbs<=8 by omega) (by decide)
  have ez:nB c1 sh A (i+1)=nB c1 sh A i++ [nJ c1 sh A i]:=by unfold nB;rw [List.range_succ,zD];rfl
  have lz:(ofL (nB c1 sh A i)).length=i:=by rw [qg7,qda]
  left
  refine⟨a,ns,1,rfl,(s2.trans s3).seq hS1,by decide,by decide,h63,fun H4 s4=>?_⟩
  rw [hc1]
  left
  refine r_ixS (by decide) (letAt _) ?_
  refine r_catS ?_ ?_
  .rw [lz];show _+1<=16777216;omega
  left
  rw [ez,<-ofL_snoc]
  exact⟨_,rfl,s3.trans s4⟩
 .rintro σ H' ⟨w,rfl,s3⟩
  have ln:(ofL (nB c1 sh A (nL c0))).length=nL c0:=by rw [qg7,qda]
  left
  refine r_catS (by rw [ln,qg7];show nL c0+_<=16777216;omega) ?_
  left
  have en:ofL (nB c1 sh A (nL c0))++ofL tl=nmS c0 c1 m:=by
   unfold nmS
   rw [ez]
   exact ofL_app _ _
  rw [en]
  exact q _ (s2.trans s3)
theorem upL_congr {el el':Nat->Nat} {n:Nat} (lo:∀j,0 < j->j<=n->el j < j) (h:∀j,0 < j->j<=n->el j=el' j):∀(f k:Nat),k<=n->upL el f k=upL el' f k
 |0,_,_=>rfl
 |f+1,k,hk=>by
  show k ::(if k=0 then [] else upL el f (el k))=k ::(if k=0 then [] else upL el' f (el' k))
  by_cases c:k=0
  .rw [gT c,gT c]
  .rw [gS c,gS c,<-h k (by omega) hk,upL_congr lo h f (el k) (by have:=lo k (by omega) hk;omega)]
structure LnsAt (H:Hp) (le:Addr) (las:List Addr) (es:List Nat):Prop where
 top:H le=some (.lst (las.map V.ref))
 len:las.length=es.length+1
 row:∀(k:Nat) (a:Addr),las[k]?=some a->H a=some (.lst ((qab (elN es) k).map iV))
 lo:∀(k e:Nat),es[k]?=some e->e<=k/\e<=10
theorem LnsAt.same {H H':Hp} {le:Addr} {las:List Addr} {es:List Nat} (h:LnsAt H le las es) (s:qar H H'):LnsAt H' le las es:=⟨s _ _ h.top,h.len,fun k a e=>s _ _ (h.row k a e),h.lo⟩
theorem LnsAt.at {H:Hp} {le:Addr} {las:List Addr} {es:List Nat} (h:LnsAt H le las es) {k:Nat} (hk:k < es.length+1):∃a,las[k]?=some a/\atI (las.map V.ref) ((k:Nat):Int)=some (.ref a)/\H a=some (.lst ((qab (elN es) k).map iV)):=by
 have e:=zA (show k < las.length by rw [h.len];exact hk)
 exact⟨_,e,qax (by rw [zC,e];rfl),h.row k _ e⟩
theorem es_snoc {es:List Nat} {x:Nat} (h:∀(k e:Nat),es[k]?=some e->e<=k/\e<=10) (hx:x<=es.length) (h10:x<=10):∀(k e:Nat),(es++ [x])[k]?=some e->e<=k/\e<=10:=fun k e hk=>by
 by_cases c:k < es.length
 .rw [yE c] at hk
  exact h k e hk
 .rw [yD (by omega)] at hk
  by_cases z:k - es.length=0
  .rw [z] at hk
   have:x=e:=by simpa using hk
   subst this
   exact⟨by omega,h10⟩
  .rw [bV (by rw [yB];omega)] at hk
   cases hk
theorem elN_snoc {es:List Nat} {x j:Nat} (h0:0 < j) (h:j<=es.length):elN (es++ [x]) j=elN es j:=by
 cases j with
 |zero=>omega
 |succ b=>
  have h1:b < es.length:=by omega
  rw [elN_at (es:=es++ [x]) (b:=b) (by rw [zK];omega),elN_at h1,List.getElem_append_left h1]
theorem line_snoc {es:List Nat} {x j:Nat} (lo:∀(k e:Nat),es[k]?=some e->e<=k/\e<=10) (h:j<=es.length):qab (elN (es++ [x])) j=qab (elN es) j:=by
 have low:=qd4 (fun k e h=>(lo k e h).1) (es.length+1)
 exact(upL_congr (n:=es.length) (fun i h0 h1=>low i h0 (by omega)) (fun i h0 h1=>(elN_snoc h0 h1).symm) j j h).symm
theorem line_new {es:List Nat} {x:Nat} (lo:∀(k e:Nat),es[k]?=some e->e<=k/\e<=10) (hx:x<=es.length) (h10:x<=10):qab (elN (es++ [x])) (es.length+1)=(es.length+1) :: qab (elN es) x:=by
 have low:=qd4 (fun k e h=>(es_snoc lo hx h10 k e h).1) (es.length+2)
 rw [qc8 low (by omega) (by omega)]
 have e:elN (es++ [x]) (es.length+1)=x:=by
  rw [elN_at (es:=es++ [x]) (b:=es.length) (by rw [zK];show _ < _+1;omega)]
  simp
 rw [e,line_snoc lo hx]
theorem LnsAt.snoc {H:Hp} {le p:Addr} {las:List Addr} {es:List Nat} {x:Nat} (h:LnsAt H le las es) (hx:x<=es.length) (h10:x<=10) (hp:H p=some (.lst (((es.length+1) :: qab (elN es) x).map iV))) (np:p≠le) (nl:∀a∈las,a≠le):LnsAt (upd H le (.lst (las.map V.ref++ [V.ref p]))) le (las++ [p]) (es++ [x]):=by
 refine⟨by rw [qa3,zD];rfl,by rw [zK,zK,h.len];rfl,fun k a e=>?_,es_snoc h.lo hx h10⟩
 have hl:=h.len
 by_cases c:k < las.length
 .rw [yE c] at e
  rw [qa6 (nl a (zF e)),line_snoc h.lo (by omega)]
  exact h.row k a e
 .have h1:=(uH.mp e).1
  rw [zK,yB] at h1
  have ek:k=las.length:=by omega
  rw [yD (by omega),ek,dW] at e
  have e:p=a:=by simpa using e
  rw [<-e,qa6 np,ek,hl,line_new h.lo hx h10]
  exact hp
noncomputable def wfw (K:uR) (d:Ad):Sp:=fun vs H Q _=>∃(a:Addr) (ns:List Int) (n:Nat),vs=[.ref a,.int (n:Int)]/\SqL K H a (ns.map V.int)/\ns.length<=63/\1<=n/\n<=6/\
 ∀(le:Addr) (las:List Addr) (es:List Nat) (H':Hp),qar H H'->LnsAt H' le las es->es.length+1=n->Q (.ref le) H'
include T in
theorem wfr:FnOk P w K mg base CX0 2 d.wc6 d.w9w ["_law_script","_law_many"] (wfw K d):=by
 refine T.wew.ok w6f (fun vs H Q E h=>?_) (fun cdv A outer s H vs Q E hr h=>?_)
 .obtain⟨a,ns,n,rfl,_⟩:=h;rfl
 obtain⟨a,ns,n,rfl,hS,h63,n1,n6,q⟩:=h
 refine⟨_,(qa1 (qag (i:=2) w6f.nd rfl (uJ rfl) (qc0 (qa0 (qc0 (qa0 qa4 qa2)) qa2)))
  (qa1 (qb7 uY rfl (pi_range2 rfl T.w34 (qa0 qa4 (qa0 (pv 1) qa2))) (qac (i:=3) w6f.nd rfl (uJ rfl)) (qa1 (qag (i:=4) w6f.nd rfl (uJ rfl) (qa8 ((w1a T).mono (by decide)) hr rfl T.w38 T.w2w.kp T.w32 .nil qak (qa0 (qa8 ((w20 T).mono (by decide)) hr rfl T.w3k T.w33.kp T.w3l .nil qak (qa0 (pv 0) (qa0 qa4 qa2))) (qa0 (pv 3) (qa0 (pv 3) qa2)))))
  (qa1 (qe0 (qbh (qam qen (qao qcc (qa8 ((w20 T).mono (by decide)) hr rfl T.w3k T.w33.kp T.w3l .nil qak (qa0 (pv 0) (qa0 qa4 qa2))) qa4) qa4 (qas _)) (qa5 (qag (i:=4) w6f.nd rfl (uJ rfl) (qao qek (pv 3) qa4))) qaq))
  (qa5 (qba (qdb uZ vM vN qbe (pv 2) (qa0 (qao op_cat (qc0 (qa0 (pv 3) qa2)) (qaj qal (pv 2) (pv 4) (fun _ _=>rfl))) qa2)))))))
  (qa5 (qai (pv 2))))),?_⟩
 walk_at "d"
 refine qah (σ:=[some (.ref a),some (.int (n:Int)),none,none,none]) rfl ?_
 left
 rename_i l0 hl0 le hle
 have s1:=qa9 hl0 (.lst [.int 0])
 have e0:upd H l0 (.lst [.int 0]) l0=some (.lst [.int 0]):=qa3
 generalize upd H l0 (.lst [.int 0])=H1 at*
 have s2:=s1.trans (qa9 hle (.lst [V.ref l0]))
 have e02:=qae (o':=.lst [V.ref l0]) e0 hle
 have ele:upd H1 le (.lst [V.ref l0]) le=some (.lst [V.ref l0]):=qa3
 have nl0:l0≠le:=qa7 e0 hle
 have fle:H le=none:=s1.free hle
 generalize upd H1 le (.lst [V.ref l0])=H2 at*
 have L0:LnsAt H2 le [l0] []:=⟨ele,rfl,fun k x e=>by
  have hk:k=0:=by
   have:=(uH.mp e).1
   rw [yB] at this
   omega
  subst hk
  have e:l0=x:=by simpa using e
  rw [<-e];exact e02,fun k e h=>by simp at h⟩
 clear e0 e02 ele hl0 hle s1
 generalize hni:((n:Nat):Int)=ni at*
 unfold iRng2
 left
 refine⟨1,_,rfl,⟨by decide,by decide,by omega,by omega⟩,?_⟩
 refine qd2 (fun i σ H'=>∃(las:List Addr) (es:List Nat) (w3 w4:Option V),σ=[some (V.ref a),some (V.int ni),some (V.ref le),w3,w4]/\qar H H'/\LnsAt H' le las es/\es.length=i/\∀x∈las,x≠le) ⟨[l0], [],_,_,rfl,s2,L0,rfl,fun x hx=>by rw [zH.mp hx];exact nl0⟩ ?_ ?_
 .rintro i σ H' hi ⟨las,es,w3,w4,rfl,sm,L,hel,nla⟩
  have hi:i <(ni - 1).toNat:=hi
  have hS':=sm.seq hS
  left
  refine⟨a,ns,2,rfl,hS',by decide,by decide,h63,fun H3 s3=>?_⟩
  left
  refine qci (by omega) (by omega) (by omega) (by omega) fun r r0 r1=>?_
  left
  refine r_cut (fun σ' H4=>∃e:Nat,σ'=[some (V.ref a),some (V.int ni),some (V.ref le),some (V.int (1+(i:Int))),some (V.int (e:Int))]/\qar H3 H4/\e<=i) ?_ ?_
  .left
   refine⟨a,ns,2,rfl,s3.seq hS',by decide,by decide,h63,fun H4 s4=>?_⟩
   left
   refine i_2 (fun c=>?_) (fun c=>?_)
   .left
    exact⟨i,by rw [show (1:Int)+(i:Int) - 1=(i:Int) by omega],s4,uG _⟩
   .left
    exact⟨r.toNat,by rw [Int.toNat_of_nonneg r0],s4,by omega⟩
  rintro σ' H4 ⟨e,rfl,s4,he⟩
  have t4:=s3.trans s4
  have L4:=L.same t4
  obtain⟨x,hx,ax,ex⟩:=L4.at (k:=e) (by omega)
  have etop:=L4.top
  have zl:(las.map V.ref).length < sizeLine:=by rw [zB,L.len];show _ < 16777216;omega
  have ll:=qc2 (qd4 (fun k e h=>(L.lo k e h).1) (es.length+1)) e (by omega)
  clear r0 r1
  generalize hei:((e:Nat):Int)=ei at*
  left
  rename_i pk hpk
  have s5:=qa9 hpk (.lst [V.int (1+(i:Int))])
  have epk:upd H4 pk (.lst [V.int (1+(i:Int))]) pk=some (.lst [V.int (1+(i:Int))]):=qa3
  have L5:=L4.same s5
  generalize upd H4 pk (.lst [V.int (1+(i:Int))])=H5 at*
  refine qb3 (SqL.of L5.top) ax ?_
  refine r_cat epk (s5 _ _ ex) (by rw [zB];show 1+_<=16777216;omega) fun p hp=>?_
  have eap: [V.int (1+(i:Int))]++(qab (elN es) e).map iV=((es.length+1) :: qab (elN es) e).map iV:=by
   rw [zS]
   show V.int (1+(i:Int)) :: _=V.int (((es.length+1:Nat)):Int) :: _
   rw [show (1:Int)+(i:Int)=((es.length+1:Nat):Int) by omega];rfl
  rw [eap]
  have s6:=qa9 hp (.lst (((es.length+1) :: qab (elN es) e).map iV))
  have ep:upd H5 p (.lst (((es.length+1) :: qab (elN es) e).map iV)) p=some (.lst (((es.length+1) :: qab (elN es) e).map iV)):=qa3
  have L6:=L5.same s6
  have np:p≠le:=(qa7 L5.top hp).symm
  generalize upd H5 p (.lst (((es.length+1) :: qab (elN es) e).map iV))=H6 at*
  clear etop epk ex ax hpk hp eap
  have etop:=L6.top
  left
  refine⟨las++ [p],es++ [e],_,_,rfl,qav (((sm.trans t4).trans s5).trans s6) fle,L6.snoc (by omega) (by omega) ep np nla,by rw [zK,hel];rfl,fun y hy=>?_⟩
  rcases zT.mp hy with hy|hy
  .exact nla y hy
  .rw [zH.mp hy];exact np
 .rintro σ H' ⟨las,es,w3,w4,rfl,sm,L,hel,nla⟩
  left
  exact q le las es H' sm L (by omega)
noncomputable def tdS (f:Str->Option Int) (p:Str × Int):Str->Option Int:=if 0 < p.2 then putF' f p.1 p.2 else f
noncomputable def tdP (k:List (Key × V)) (p:Str × Int):List (Key × V):=if 0 < p.2 then qct k (vE p.1) (.int p.2) else k
noncomputable def tdF (l:List (Str × Int)):Str->Option Int:=l.foldl tdS noF
noncomputable def tdK (l:List (Str × Int)):List (Key × V):=l.foldl tdP []
theorem td_snoc (l:List (Str × Int)) (p:Str × Int):tdF (l++ [p])=tdS (tdF l) p/\tdK (l++ [p])=tdP (tdK l) p:=by
 unfold tdF tdK
 rw [bO,bO]
 exact⟨rfl,rfl⟩
theorem td_ad0:∀(l:List (Str × Int)) {k:List (Key × V)} {f:Str->Option Int},AD k f->AD (l.foldl tdP k) (l.foldl tdS f)
 | [],_,_,h=>h
 |p :: l,k,f,h=>by
  rw [yQ,yQ]
  refine td_ad0 l ?_
  unfold tdP tdS
  by_cases c:0 < p.2
  .rw [gT c,gT c];exact h.put _ _
  .rw [gS c,gS c];exact h
theorem td_ad (l:List (Str × Int)):AD (tdK l) (tdF l):=td_ad0 l AD.nil
theorem td_len0:∀(l:List (Str × Int)) (k:List (Key × V)),(l.foldl tdP k).length<=k.length+l.length
 | [],k=>uG _
 |p :: l,k=>by
  rw [yQ,zZ]
  have h:=td_len0 l (tdP k p)
  have:(tdP k p).length<=k.length+1:=by
   unfold tdP
   by_cases c:0 < p.2
   .rw [gT c];have:=qc6 k (vE p.1) (.int p.2);omega
   .rw [gS c];omega
  omega
theorem td_len (l:List (Str × Int)):(tdK l).length<=l.length:=by
 have:=td_len0 l []
 rw [xA,Nat.zero_add] at this
 exact this
theorem td_miss:∀(l:List (Str × Int)) (f:Str->Option Int) (z:Str),z∉l.map (·.1)->l.foldl tdS f z=f z
 | [],_,_,_=>rfl
 |p :: l,f,z,h=>by
  rw [zS,zR,not_or] at h
  rw [yQ,td_miss l _ z h.2]
  unfold tdS
  by_cases c:0 < p.2
  .rw [gT c];unfold putF';rw [gS h.1]
  .rw [gS c]
theorem td_hit:∀(l:List (Str × Int)) (f:Str->Option Int) (p:Str × Int),(l.map (·.1)).Nodup->p∈l->f p.1=none->l.foldl tdS f p.1=if 0 < p.2 then some p.2 else none
 | [],_,_,_,h,_=>absurd h (by simp)
 |x :: l,f,p,nd,h,hf=>by
  rw [zS,yC] at nd
  rw [yQ]
  rcases zR.mp h with e|e
  .subst e
   rw [td_miss l _ _ nd.1]
   unfold tdS
   by_cases c:0 < p.2
   .rw [gT c,gT c];unfold putF';rw [gT rfl]
   .rw [gS c,gS c];exact hf
  .have ne:p.1≠x.1:=fun z=>nd.1 (z ▸ zI.mpr ⟨p,e,rfl⟩)
   refine td_hit l _ p nd.2 e ?_
   unfold tdS
   by_cases c:0 < x.2
   .rw [gT c];unfold putF';rw [gS ne];exact hf
   .rw [gS c];exact hf
theorem zip_fst {ws:List Str} {ps:List Int} (h:ws.length=ps.length):(ws.zip ps).map (·.1)=ws:=by
 rw [List.map_fst_zip (by omega)]
theorem tdF_at {ws:List Str} {ps:List Int} (h:ws.length=ps.length) (nd:ws.Nodup) {j:Nat} (h1:j < ws.length) (h2:j < ps.length):tdF (ws.zip ps) ws[j]=if 0 < ps[j] then some ps[j] else none:=by
 have hm:(ws[j],ps[j])∈ws.zip ps:=by
  refine zO.mpr ⟨j,by rw [eF];omega,?_⟩
  rw [List.getElem_zip]
 exact td_hit (ws.zip ps) noF (ws[j],ps[j]) (by rw [zip_fst h];exact nd) hm rfl
theorem tdF_in {ws:List Str} {ps:List Int} (h:ws.length=ps.length):InW ws (tdF (ws.zip ps)):=fun z hz=>by
 apply cT
 intro c
 exact hz (td_miss (ws.zip ps) noF z (by rw [zip_fst h];exact c))
theorem qft {ws:List Str} {ps:List Int} {B:Int} (h:ws.length=ps.length) (nd:ws.Nodup) (hp:∀p∈ps,p<=B):FinB ws B (tdF (ws.zip ps)):=fun z n e=>by
 have hz:=tdF_in h z (by rw [e];simp)
 obtain⟨j,hj,rfl⟩:=zO.mp hz
 have hj2:j < ps.length:=by omega
 rw [tdF_at h nd hj hj2] at e
 by_cases c:0 < ps[j]
 .rw [gT c] at e
  have e:ps[j]=n:=uX e
  exact⟨hz,by omega,by rw [<-e];exact hp _ (zM hj2)⟩
 .rw [gS c] at e;cases e
theorem qdf {ws:List Str} {ps:List Int} (h:ws.length=ps.length) (nd:ws.Nodup) (h0:∀p∈ps,0<=p) {j:Nat} (h1:j < ws.length) (h2:j < ps.length):gN (tdF (ws.zip ps)) ws[j]=ps[j]:=by
 unfold gN
 rw [tdF_at h nd h1 h2]
 have:=h0 _ (zM h2)
 by_cases c:0 < ps[j]
 .rw [gT c];rfl
 .rw [gS c];show (0:Int)=_;omega
noncomputable def wh8 (K:uR) (d:Ad):Sp:=fun vs H Q _=>∃(lw lp:Addr) (ws:List Str) (ps:List Int),vs=[.ref lw,.ref lp]/\SqL K H lw (ws.map V.str)/\SqL K H lp (ps.map V.int)/\ws.length=ps.length/\ws.length<=100/\
 ∀(l:Addr) (H':Hp),qar H H'->H l=none->H' l=some (.dK (tdK (ws.zip ps)))->Q (.ref l) H'
include T in
theorem w5t:FnOk P w K mg base CX0 1 d.wen d.wci ["_law_wares","_law_parts_here"] (wh8 K d):=by
 refine T.w7c.ok w9s (fun vs H Q E h=>?_) (fun cdv A outer s H vs Q E hr h=>?_)
 .obtain⟨lw,lp,ws,ps,rfl,_⟩:=h;rfl
 obtain⟨lw,lp,ws,ps,rfl,hW,hP,hwp,h100,q⟩:=h
 refine⟨_,(qa1 (qag (i:=2) w9s.nd rfl (uJ rfl) qg5)
  (qa1 (qb7 uY rfl (pi_zip rfl T.whx (qa0 (pv 0) (qa0 (pv 1) qa2))) (qd7 rfl (qad (qac (i:=3) w9s.nd rfl (uJ rfl)) (qad (qac (i:=4) w9s.nd rfl (uJ rfl)) qca))) (qa5 (qe0 (qbh (qam qe4 (pv 4) qa4 (qas _)) (qa5 (qea (qcb hr) (pv 2) (pv 3) (pv 4) rfl)) qaq))))
  (qa5 (qai (pv 2))))),?_⟩
 walk_at "d"
 refine qah (σ:=[some (.ref lw),some (.ref lp),none,none,none]) rfl ?_
 left
 rename_i l hl
 have s1:=qa9 hl (.dK [])
 refine r_itZ (s1.seq hW) (s1.seq hP) ?_
 refine f_zip (by rw [zB,zB];exact hwp) (fun i σ H'=>∃w1 w2:Option V,σ=[some (V.ref lw),some (V.ref lp),some (V.ref l),w1,w2]/\qar H H'/\H' l=some (.dK (tdK ((ws.zip ps).take i)))) ⟨_,_,rfl,s1,qa3⟩ ?_ ?_ ?_
 .rintro i σ H' ⟨w1,w2,rfl,sm,el⟩
  exact⟨sm.seq hW,sm.seq hP⟩
 .rintro i x y Tt σ H' hx hy ⟨w1,w2,rfl,sm,el⟩ hTt
  rw [zC] at hx hy
  obtain⟨z,hz,rfl⟩:=uU.mp hx
  obtain⟨n,hn,rfl⟩:=uU.mp hy
  have hzn:(ws.zip ps)[i]?=some (z,n):=by rw [List.getElem?_zip_eq_some];exact⟨hz,hn⟩
  have tk:(ws.zip ps).take (i+1)=(ws.zip ps).take i++ [(z,n)]:=by rw [zL,hzn];rfl
  have st:=td_snoc ((ws.zip ps).take i) (z,n)
  rw [<-tk] at st
  have s2:=qa9 hTt (.tup [.str z,.int n])
  have el2:=s2 _ _ el
  have tT:upd H' Tt (.tup [.str z,.int n]) Tt=some (.tup [.str z,.int n]):=qa3
  generalize upd H' Tt (.tup [.str z,.int n])=H2 at*
  have kl:(tdK ((ws.zip ps).take i)).length < sizeLine:=by
   have:=td_len ((ws.zip ps).take i)
   rw [zW,eF] at this
   show _ < 16777216
   omega
  rw [st.2]
  unfold tdP
  clear hx hy hz hn hzn tk st
  left
  refine r_cut0 ?_
  left
  refine i_2 (fun c=>?_) (fun c=>?_)
  .left
   exact⟨_,_,rfl,qav (sm.trans s2) hl,by rw [qa3,gT c]⟩
  .left
   exact⟨_,_,rfl,sm.trans s2,by rw [gS c];exact el2⟩
 .rintro σ H' ⟨w1,w2,rfl,sm,el⟩
  left
  rw [zB,show (ws.zip ps).take ws.length=ws.zip ps from List.take_of_length_le (by rw [eF];omega)] at el
  exact q l H' sm hl el
structure Sc (sc:Int):Prop where
 lo:1<=sc
 hi:sc<=10^27
structure PpOk (p:Int):Prop where
 lo:0<=p
 hi:p<=6*10^27
structure XuOk (x:Int):Prop where
 hi:x<=5*10^27
noncomputable def wfx (K:uR) (d:Ad):Sp:=fun vs H Q _=>∃(c sc:Int) (k:Nat),vs=[.int c,.int (k:Int),.int sc]/\1<=k/\k<=6/\Sc sc/\
 ∀(l:Addr) (ps:List Int) (H':Hp),qar H H'->H l=none->H' l=some (.lst (ps.map V.int))->ps.length=k->(∀p∈ps,PpOk p)->Q (.ref l) H'
include T in
theorem wdk:FnOk P w K mg base CX0 2 d.wcs d.wah ["_law_cell_here","_law_kinds","_law_scale"] (wfx K d):=by
 refine T.wcw.ok w7s (fun vs H Q E h=>?_) (fun cdv A outer s H vs Q E hr h=>?_)
 .obtain⟨c,sc,k,rfl,_⟩:=h;rfl
 obtain⟨c,sc,k,rfl,k1,k3,hsc,q⟩:=h
 refine⟨_,(qa1 (qag (i:=3) w7s.nd rfl (uJ rfl) (qc0 qa2))
  (qa1 (qb7 uY rfl (qc1 rfl T.w34 (qa0 (pv 1) qa2)) (qac (i:=4) w7s.nd rfl (uJ rfl)) (qa1 (qag (i:=5) w7s.nd rfl (uJ rfl) (qao qb2 (qao qby (qa8 ((w1a T).mono (by decide)) hr rfl T.w38 T.w2w.kp T.w32 .nil qak (qa0 (pv 0) (qa0 (qao qb2 qa4 (pv 4)) (qa0 qa4 qa2)))) (pv 2)) (qa8 ((w1a T).mono (by decide)) hr rfl T.w38 T.w2w.kp T.w32 .nil qak (qa0 (pv 0) (qa0 (qao qb2 qa4 (pv 4)) (qa0 qa4 qa2))))))
  (qa5 (qba (qdb uZ vM vN qbe (pv 3) (qa0 (qao qby (pv 5) (qaf (call_minR rfl) rfl T.wgo eO (qa0 qa4 (qa0 (qa8 ((w1a T).mono (by decide)) hr rfl T.w38 T.w2w.kp T.w32 .nil qak (qa0 (pv 0) (qa0 (qao qb2 qa4 (pv 4)) (qa0 qa4 qa2)))) qa2)))) qa2))))))
  (qa1 (qe0 (qbh (qam qen (qaf (call_maxL rfl) rfl T.wh5 eP (qa0 (pv 3) qa2)) qa4 (qas _)) (qa5 (ps_lput (pv 3) (qa8 ((w1a T).mono (by decide)) hr rfl T.w38 T.w2w.kp T.w32 .nil qak (qa0 (pv 0) (qa0 qa4 (qa0 (pv 1) qa2)))) (pv 2) rfl)) qaq))
  (qa5 (qai (pv 3)))))),?_⟩
 walk_at "d"
 refine qah (σ:=[some (.int c),some (.int (k:Int)),some (.int sc),none,none,none]) rfl ?_
 have ek:((k:Nat):Int).toNat=k:=by omega
 generalize hki:((k:Nat):Int)=ki at*
 have sb:sc.natAbs < 2^200:=by
  have a:=hsc.lo
  have b:=hsc.hi
  exact vT (show sc.natAbs<=10^28 by omega) (by decide)
 have s0:0<=sc:=by have:=hsc.lo;omega
 have sb6:sc.natAbs < 2^600:=Nat.lt_trans sb (by decide)
 left
 rename_i l hl
 rw [ek]
 refine qd2 (fun i σ H'=>∃(ps:List Int) (w1 w2:Option V),σ=[some (V.int c),some (V.int ki),some (V.int sc),some (V.ref l),w1,w2]/\H'=upd H l (.lst (ps.map V.int))/\ps.length=i/\∀p∈ps,PpOk p) ⟨[],_,_,rfl,rfl,rfl,fun p h=>by simp at h⟩ ?_ ?_
 .rintro i σ H' hi ⟨ps,w1,w2,rfl,rfl,hlen,hp⟩
  have zl:(ps.map V.int).length < sizeLine:=by rw [zB];show _ < 16777216;omega
  have b2:((2:Int)).natAbs < 2^600/\((0:Int)+(i:Int)).natAbs < 2^600:=⟨by decide,vT (show ((0:Int)+(i:Int)).natAbs<=5 by omega) (by decide)⟩
  left
  refine qci (by omega) (by omega) (by decide) (by decide) fun r r0 r1=>?_
  have rb:r.natAbs < 2^600:=vT (show r.natAbs<=5 by omega) (by decide)
  left
  refine qci (by omega) (by omega) (by decide) (by decide) fun r2 a0 a1=>?_
  left
  refine qci (by omega) (by omega) (by decide) (by decide) fun r3 d0 d1=>?_
  have x0:0<=r*sc:=Int.mul_nonneg r0 s0
  have xu:XuOk (r*sc):=⟨Int.mul_le_mul (show r<=5 by omega) hsc.hi s0 (by decide)⟩
  have xb:(r*sc).natAbs < 2^300:=by
   rw [Int.natAbs_mul]
   exact vT (Nat.mul_le_mul (show r.natAbs<=5 by omega) (fU sb)) (by decide)
  generalize r*sc=x at*
  have yb:(x+r2).natAbs < 2^600:=vT (show (x+r2).natAbs<=2^300+10 by omega) (by decide)
  have y0:0<=x+r2:=by omega
  have yu:PpOk (x+r2):=⟨y0,by have:=xu.hi;omega⟩
  generalize x+r2=y at*
  left
  have m0:(if r3 < 1 then r3 else (1:Int))=0\/(if r3 < 1 then r3 else (1:Int))=1:=by split <;> omega
  have m1:(if r3 < 1 then r3 else (1:Int)).natAbs < 2^600:=vT (show _<=5 by split <;> omega) (by decide)
  generalize (if r3 < 1 then r3 else (1:Int))=z at*
  refine⟨ps++ [y*z],_,_,rfl,by rw [qbn,zD];rfl,by rw [zK,hlen];rfl,fun p h=>?_⟩
  rcases zT.mp h with h|h
  .exact hp p h
  .rw [zH.mp h]
   rcases m0 with e|e
   .rw [e,Int.mul_zero];exact⟨by decide,by decide⟩
   .rw [e,Int.mul_one];exact yu
 .rintro σ H' ⟨ps,w1,w2,rfl,rfl,hlen,hp⟩
  left
  refine r_cut (fun σ' H'=>∃(ps:List Int) (w1 w2:Option V),σ'=[some (V.int c),some (V.int ki),some (V.int sc),some (V.ref l),w1,w2]/\H'=upd H l (.lst (ps.map V.int))/\ps.length=k/\∀p∈ps,PpOk p) ?_ ?_
  .left
   refine r_maxL (SqL.of qa3) (by omega) fun m _ _=>?_
   left
   refine i_2 (fun c0=>?_) (fun c0=>?_)
   .left
    refine qci (by decide) (by decide) (by omega) (by omega) fun r r0 r1=>?_
    refine r_lpk qa3 (k:=r.toNat) (by rw [zB];omega) ?_ (by omega)
    left
    refine⟨ps.set r.toNat sc,_,_,rfl,by rw [qbn,<-List.map_set],by rw [List.length_set];exact hlen,fun p h=>?_⟩
    rcases List.mem_or_eq_of_mem_set h with h|h
    .exact hp p h
    .rw [h];exact⟨s0,by have:=hsc.hi;omega⟩
   .left
    exact⟨ps,_,_,rfl,rfl,hlen,hp⟩
  .rintro σ' H' ⟨ps,w1,w2,rfl,rfl,hlen,hp⟩
   left
   exact q l ps _ (qa9 hl _) hl qa3 hlen hp
structure Rw where
 p:Addr
 e:Addr
 n:Int
 i:Nat
 ps:List Int
 r:Int
 s:Bool
structure RwAt (H:Hp) (nh kd:Nat) (R:Rw):Prop where
 row:H R.p=some (.tup [.int R.n,.int ((R.i:Nat):Int),.ref R.e,.int R.r,.bl R.s])
 par:H R.e=some (.lst (R.ps.map V.int))
 len:R.ps.length=kd
 nn:∀p∈R.ps,PpOk p
 il:R.i < nh
 n1:1<=R.n
theorem RwAt.same {H H':Hp} {nh kd:Nat} {R:Rw} (h:RwAt H nh kd R) (s:qar H H'):RwAt H' nh kd R:=⟨s _ _ h.row,s _ _ h.par,h.len,h.nn,h.il,h.n1⟩
noncomputable def rwV (Rs:List Rw):List V:=Rs.map fun R=> .ref R.p
noncomputable def wgz (K:uR) (d:Ad):Sp:=fun vs H Q _=>∃(a:Addr) (ns:List Int) (sc:Int) (nh kd m:Nat),vs=[.ref a,.int (nh:Int),.int (kd:Int),.int sc,.int (m:Int)]/\SqL K H a (ns.map V.int)/\ns.length<=63/\Sc sc/\1<=nh/\nh<=12/\1<=kd/\kd<=6/\m<=30/\
 ∀(l:Addr) (Rs:List Rw) (H':Hp),qar H H'->H' l=some (.lst (rwV Rs))->Rs.length=m->(∀R∈Rs,RwAt H' nh kd R)->(Rs.map fun R=>R.n).Pairwise (·< ·)->Q (.ref l) H'
include T in
theorem wgl:FnOk P w K mg base CX0 3 d.wel d.wbw ["_law_script","_law_houses","_law_kinds","_law_scale","_law_many"] (wgz K d):=by
 refine T.wge.ok w67 (fun vs H Q E h=>?_) (fun cdv A outer s H vs Q E hr h=>?_)
 .obtain⟨a,ns,sc,nh,kd,m,rfl,_⟩:=h;rfl
 obtain⟨a,ns,sc,nh,kd,mm,rfl,hS,h63,hsc,n1,n12,k1,k3,m30,q⟩:=h
 refine⟨_,(qa1 (qag (i:=5) w67.nd rfl (uJ rfl) (qc0 qa2))
  (qa1 (qag (i:=6) w67.nd rfl (uJ rfl) (qa8 ((w1a T).mono (by decide)) hr rfl T.w38 T.w2w.kp T.w32 .nil qak (qa0 (qa8 ((w20 T).mono (by decide)) hr rfl T.w3k T.w33.kp T.w3l .nil qak (qa0 (pv 0) (qa0 qa4 qa2))) (qa0 qa4 (qa0 qa4 qa2)))))
  (qa1 (qb7 uY rfl (qc1 rfl T.w34 (qa0 (pv 4) qa2)) (qac (i:=7) w67.nd rfl (uJ rfl)) (qa1 (qag (i:=8) w67.nd rfl (uJ rfl) (qa8 ((w20 T).mono (by decide)) hr rfl T.w3k T.w33.kp T.w3l .nil qak (qa0 (pv 0) (qa0 (qao qb2 qa4 (pv 7)) qa2))))
  (qa1 (qag (i:=6) w67.nd rfl (uJ rfl) (qao qb2 (qao qb2 (pv 6) qa4) (qa8 ((w1a T).mono (by decide)) hr rfl T.w38 T.w2w.kp T.w32 .nil qak (qa0 (pv 8) (qa0 qa4 (qa0 qa4 qa2))))))
  (qa1 (qag (i:=9) w67.nd rfl (uJ rfl) (qa8 ((wdk T).mono (by decide)) hr rfl T.wff T.wcw.kp T.weh .nil qak (qa0 (pv 8) (qa0 (pv 2) (qa0 (pv 3) qa2)))))
  (qa5 (qba (qdb uZ vM vN qbe (pv 5) (qa0 (qe2 (qa0 (pv 6) (qa0 (qa8 ((w1a T).mono (by decide)) hr rfl T.w38 T.w2w.kp T.w32 .nil qak (qa0 (pv 8) (qa0 qa4 (qa0 (pv 1) qa2)))) (qa0 (pv 9) (qa0 (qa8 ((w1a T).mono (by decide)) hr rfl T.w38 T.w2w.kp T.w32 .nil qak (qa0 (pv 8) (qa0 qa4 (qa0 qa4 qa2)))) (qa0 (qbm qen (qa8 ((w1a T).mono (by decide)) hr rfl T.w38 T.w2w.kp T.w32 .nil qak (qa0 (pv 8) (qa0 qa4 (qa0 qa4 qa2)))) qa4 (qas _)) qa2)))))) qa2))))))))
  (qa5 (qai (pv 5)))))),?_⟩
 walk_at "d"
 refine qah (σ:=[some (.ref a),some (.int (nh:Int)),some (.int (kd:Int)),some (.int sc),some (.int (mm:Int)),none,none,none,none,none]) rfl ?_
 have emm:((mm:Nat):Int).toNat=mm:=by omega
 generalize hni:((nh:Nat):Int)=ni
 generalize hki:((kd:Nat):Int)=ki
 generalize hmi:((mm:Nat):Int)=mi at*
 left
 rename_i l hl
 have s1:=qa9 hl (.lst [])
 have e1:upd H l (.lst []) l=some (.lst []):=qa3
 generalize upd H l (.lst [])=H1 at*
 refine⟨a,ns,3,rfl,s1.seq hS,by decide,by decide,h63,fun H2 s2=>?_⟩
 have e2:=s2 _ _ e1
 have t2:=s1.trans s2
 left
 refine qci (by decide) (by decide) (by decide) (by decide) fun r2 r20 _=>?_
 left
 rw [emm]
 refine qd2 (fun i σ H'=>∃(Rs:List Rw) (m:Int) (w1 w2 w3:Option V),σ=[some (V.ref a),some (V.int ni),some (V.int ki),some (V.int sc),some (V.int mi),some (V.ref l),some (V.int m),w1,w2,w3]/\qar H H'/\H' l=some (.lst (rwV Rs))/\Rs.length=i/\(∀R∈Rs,RwAt H' nh kd R/\R.e≠l)/\(Rs.map fun R=>R.n).Pairwise (·< ·)/\(∀R∈Rs,R.n<=m)/\0<=m)
  ⟨[],_,_,_,_,rfl,t2,e2,rfl,fun R h=>by simp at h,cY,fun R h=>by simp at h,r20⟩ ?_ ?_
 .rintro i σ H' hi ⟨Rs,m,w1,w2,w3,rfl,sm,el,hlen,hR,hup,hle,m0⟩
  left
  refine⟨a,ns,8+(0+(i:Int)),rfl,sm.seq hS,by omega,by omega,h63,fun H2' s2'=>?_⟩
  generalize qbz ns (8+(0+(i:Int)))=c3
  left
  refine qci (by decide) (by decide) (by decide) (by decide) fun r4 r40 _=>?_
  left
  refine⟨c3,sc,kd,by rw [hki],k1,k3,hsc,fun e ps H3 s3 he ee hps h0=>?_⟩
  have el3:=s3 _ _ (s2' _ _ el)
  left
  refine qci (by decide) (by decide) (by omega) (by omega) fun r6 d0 d1=>?_
  left
  refine qci (by decide) (by decide) (by decide) (by decide) fun r7 _ _=>?_
  left
  refine qci (by decide) (by decide) (by decide) (by decide) fun r5 _ _=>?_
  have zl:(rwV Rs).length < sizeLine:=by unfold rwV;rw [zB];show _ < 16777216;omega
  left
  rename_i pr hpr
  have er:r6=((r6.toNat:Nat):Int):=by omega
  have s4:=qa9 hpr (.tup [.int (m+1+r4),.int r6,.ref e,.int r7,.bl (decide (r5=0))])
  have epr:upd H3 pr (.tup [.int (m+1+r4),.int r6,.ref e,.int r7,.bl (decide (r5=0))]) pr=some (.tup [.int (m+1+r4),.int r6,.ref e,.int r7,.bl (decide (r5=0))]):=qa3
  have el4:=s4 _ _ el3
  have nel:e≠l:=(qa7 (s2' _ _ el) he).symm
  generalize upd H3 pr (.tup [.int (m+1+r4),.int r6,.ref e,.int r7,.bl (decide (r5=0))])=H4 at*
  have putR:∀{R:Rw} {o:HO},RwAt H4 nh kd R->R.e≠l->RwAt (upd H4 l o) nh kd R:=fun {R o} h ne=>by
   have np:R.p≠l:=ne_of h.row el4 (by simp)
   exact⟨by rw [qa6 np];exact h.row,by rw [qa6 ne];exact h.par,h.len,h.nn,h.il,h.n1⟩
  obtain⟨R0,e01,e02,e03,e04⟩:∃R0:Rw,R0.p=pr/\R0.e≠l/\RwAt H4 nh kd R0/\R0.n=m+1+r4:=⟨⟨pr,e,m+1+r4,r6.toNat,ps,r7,decide (r5=0)⟩,rfl,nel,⟨by rw [<-er];exact epr,s4 _ _ ee,hps,h0,by show r6.toNat < nh;omega,by show 1<=m+1+r4;omega⟩,rfl⟩
  have e05:upd H4 l (.lst (rwV Rs++ [.ref pr])) l=some (.lst (rwV (Rs++ [R0]))):=by rw [qa3];unfold rwV;rw [zD,<-e01];rfl
  have sm4:qar H (upd H4 l (.lst (rwV Rs++ [.ref pr]))):=qav (((sm.trans s2').trans s3).trans s4) hl
  have hlen4:(Rs++ [R0]).length=i+1:=by rw [zK,hlen];rfl
  have hR4:∀R∈Rs++ [R0],RwAt (upd H4 l (.lst (rwV Rs++ [.ref pr]))) nh kd R/\R.e≠l:=fun R hr=>by
   rcases zT.mp hr with h|h
   .obtain⟨h1,h2⟩:=hR R h
    exact⟨putR (h1.same ((s2'.trans s3).trans s4)) h2,h2⟩
   .rw [zH.mp h]
    exact⟨putR e03 e02,e02⟩
  have hup4:((Rs++ [R0]).map fun R=>R.n).Pairwise (·< ·):=by
   rw [zD,cJ]
   refine⟨hup,bG _ _,fun x hx y hy=>?_⟩
   obtain⟨R,hr,rfl⟩:=zI.mp hx
   have hy:y=R0.n:=by simpa using hy
   have:=hle R hr
   omega
  have hle4:∀R∈Rs++ [R0],R.n<=m+1+r4:=fun R hr=>by
   rcases zT.mp hr with h|h
   .have:=hle R h;omega
   .rw [zH.mp h,e04];exact vX _
  clear hR putR e03 epr hl hS s1 s2 s3 s4 hup hle
  exact⟨Rs++ [R0],_,_,_,_,rfl,sm4,e05,hlen4,hR4,hup4,hle4,by omega⟩
 .rintro σ H' ⟨Rs,m,w1,w2,w3,rfl,sm,el,hlen,hR,hup,hle,m0⟩
  left
  exact q l Rs H' sm el (by omega) (fun R h=>(hR R h).1) hup
noncomputable def qfh (ws:List Str) (R:Rw):Rr:=⟨R.p,R.e,R.n,R.i,tdK (ws.zip R.ps),tdF (ws.zip R.ps),R.r,R.s⟩
noncomputable def colV (kd:Nat) (f:Nat->Int):List V:=(vG kd).map fun j=>V.int (f j)
theorem colV_len (kd:Nat) (f:Nat->Int):(colV kd f).length=kd:=by unfold colV;rw [zB,yZ]
theorem colV_at {kd j:Nat} (f:Nat->Int) (h:j < kd):atI (colV kd f) ((j:Nat):Int)=some (V.int (f j)):=qax (by unfold colV;rw [zC,List.getElem?_range h];rfl)
theorem colV_set {kd j:Nat} (f:Nat->Int) (v:Int) (h:j < kd):(colV kd f).set j (V.int v)=colV kd fun i=>if i=j then v else f i:=by
 unfold colV
 refine List.ext_getElem (by rw [List.length_set,zB,zB]) fun i g1 g2=>?_
 rw [List.getElem_set,yH,yH,List.getElem_range]
 by_cases c:j=i
 .show (if j=i then V.int v else _)=V.int (if i=j then v else f i)
  rw [gT c,gT c.symm]
 .show (if j=i then V.int v else V.int (f i))=V.int (if i=j then v else f i)
  rw [gS c,gS (fun z=>c z.symm)]
theorem colV_congr {kd:Nat} {f g:Nat->Int} (h:∀j,j < kd->f j=g j):colV kd f=colV kd g:=by
 unfold colV
 refine yV fun j hj=>?_
 rw [h j (xB.mp hj)]
noncomputable def qc5 (H:Hp) (ls:List Addr) (kd:Nat) (X:Nat->Nat->Int):Prop:=∀(h:Nat) (l:Addr),ls[h]?=some l->H l=some (.lst (colV kd (X h)))
theorem qc5.cast {H:Hp} {ls:List Addr} {kd:Nat} {X Y:Nat->Nat->Int} (h:qc5 H ls kd X) (e:∀i j,i < ls.length->j < kd->X i j=Y i j):qc5 H ls kd Y:=fun i l hl=>by
 rw [h i l hl]
 rw [colV_congr fun j hj=>e i j (uH.mp hl).1 hj]
theorem qc5.put {H:Hp} {ls:List Addr} {kd:Nat} {X:Nat->Nat->Int} (nd:ls.Nodup) (h:qc5 H ls kd X) {i:Nat} {l:Addr} (hl:ls[i]?=some l) {f:Nat->Int}:qc5 (upd H l (.lst (colV kd f))) ls kd fun k=>if k=i then f else X k:=fun k l' hl'=>by
 try dsimp only
 by_cases c:k=i
 .subst c
  rw [hl] at hl'
  cases hl'
  rw [gT rfl,qa3]
 .rw [gS c,qa6]
  .exact h k l' hl'
  .intro z
   subst z
   obtain⟨h1,e1⟩:=uH.mp hl
   obtain⟨h2,e2⟩:=uH.mp hl'
   rcases dE k i with lt|lt|lt
   .exact(zV.mp nd) k i h2 h1 lt (e2.trans e1.symm)
   .exact c lt
   .exact(zV.mp nd) i k h1 h2 lt (e1.trans e2.symm)
theorem qc5.other {H:Hp} {ls:List Addr} {kd:Nat} {X:Nat->Nat->Int} (h:qc5 H ls kd X) {a:Addr} {o:HO} (ha:a∉ls):qc5 (upd H a o) ls kd X:=fun i l hl=>by
 rw [qa6 (show l≠a from fun z=>ha (z ▸ zF hl))]
 exact h i l hl
theorem qc5.same {H H':Hp} {ls:List Addr} {kd:Nat} {X:Nat->Nat->Int} (h:qc5 H ls kd X) (s:qar H H'):qc5 H' ls kd X:=fun i l hl=>s _ _ (h i l hl)
noncomputable def SB (ls:List Addr) (H H':Hp):Prop:=∀b o,H b=some o->b∉ls->H' b=some o
theorem SB.new {ls:List Addr} {H H' H'':Hp} (s:SB ls H H') (t:qar H' H''):SB ls H H'':=fun b o hb hn=>t _ _ (s b o hb hn)
theorem SB.put {ls:List Addr} {H H':Hp} (s:SB ls H H') {a:Addr} {o:HO} (h:H a=none\/a∈ls):SB ls H (upd H' a o):=fun b u hb hn=>by
 rw [qa6]
 .exact s b u hb hn
 .intro z
  subst z
  rcases h with h|h
  .rw [h] at hb;cases hb
  .exact hn h
abbrev Pq:=Addr × List Int
noncomputable def qsV (qs:List Pq):List V:=qs.map fun q=> .ref q.1
noncomputable def atQ (qs:List Pq) (k j:Nat):Int:=match qs[k]? with
 |some q=>(q.2[j]?).getD 0
 |none=>0
structure QsAt (H1 H:Hp) (lp:Addr) (kd:Nat) (qs:List Pq):Prop where
 top:H lp=some (.lst (qsV qs))
 row:∀q∈qs,H q.1=some (.lst (q.2.map V.int))/\H1 q.1=none/\q.1≠lp
 nd:(qs.map (·.1)).Nodup
 val:∀q∈qs,q.2.length=kd/\∀x∈q.2,0<=x/\x<=10^30
noncomputable def sumQ (el:Nat->Nat) (qs:List Pq) (n h j:Nat):Int:=qds n fun k=>if h∈qab el k then atQ qs k j else 0
theorem qe9 {f g:Nat->Int}:∀{n:Nat},(∀k,k < n->f k=g k)->qds n f=qds n g
 |0,_=>rfl
 |n+1,h=>by
  show qds n f+f n=qds n g+g n
  rw [qe9 fun k hk=>h k (by omega),h n (by omega)]
theorem atQ_old {qs:List Pq} {q:Pq} {k j:Nat} (h:k < qs.length):atQ (qs++ [q]) k j=atQ qs k j:=by
 unfold atQ
 rw [yE h]
theorem atQ_new {qs:List Pq} {q:Pq} {j:Nat}:atQ (qs++ [q]) qs.length j=(q.2[j]?).getD 0:=by
 unfold atQ
 rw [yD (uG _),dW]
 rfl
theorem sumQ_snoc (el:Nat->Nat) (qs:List Pq) (q:Pq) (h j:Nat):sumQ el (qs++ [q]) (qs.length+1) h j=sumQ el qs qs.length h j+if h∈qab el qs.length then (q.2[j]?).getD 0 else 0:=by
 show (qds qs.length fun k=>if h∈qab el k then atQ (qs++ [q]) k j else 0)+(if h∈qab el qs.length then atQ (qs++ [q]) qs.length j else 0)=_
 rw [atQ_new]
 congr 1
 refine qe9 fun k hk=>?_
 rw [atQ_old hk]
theorem atQ_nn {qs:List Pq} (hv:∀q∈qs,∀x∈q.2,0<=x) (k j:Nat):0<=atQ qs k j:=by
 unfold atQ
 cases e:qs[k]? with
 |none=>exact vX _
 |some q=>
  show 0<=(q.2[j]?).getD 0
  cases e2:q.2[j]? with
  |none=>exact vX _
  |some x=>exact hv q (zF e) x (zF e2)
theorem sumQ_nn {el:Nat->Nat} {qs:List Pq} (hv:∀q∈qs,∀x∈q.2,0<=x) (n h j:Nat):0<=sumQ el qs n h j:=sumR_nn fun k _=>by
 by_cases c:h∈qab el k
 .rw [gT c];exact atQ_nn hv k j
 .rw [gS c];exact vX _
noncomputable def qgm (H:Hp) (kd:Nat) (cs:List Pq):Prop:=∀c∈cs,H c.1=some (.lst (c.2.map V.int))/\c.2.length=kd/\∀x∈c.2,0<=x/\x<=10^30
theorem qgm.same {H H':Hp} {kd:Nat} {cs:List Pq} (h:qgm H kd cs) (s:qar H H'):qgm H' kd cs:=fun c hc=>⟨s _ _ (h c hc).1,(h c hc).2⟩
theorem qgm.bd {H:Hp} {kd:Nat} {cs:List Pq} (h:qgm H kd cs) (i j:Nat):0<=atQ cs i j/\atQ cs i j<=10^30:=by
 unfold atQ
 cases e:cs[i]? with
 |none=>exact⟨vX _,show (0:Int)<=10^30 by decide⟩
 |some q=>
  show 0<=(q.2[j]?).getD 0/\(q.2[j]?).getD 0<=10^30
  cases e2:q.2[j]? with
  |none=>exact⟨vX _,show (0:Int)<=10^30 by decide⟩
  |some x=>exact(h q (zF e)).2.2 x (zF e2)
theorem qgm.col {H:Hp} {kd:Nat} {cs:List Pq} (h:qgm H kd cs) {i:Nat} {c:Pq} (hc:cs[i]?=some c):c.2.map V.int=colV kd fun j=>atQ cs i j:=by
 unfold colV
 have hl:=(h c (zF hc)).2.1
 refine List.ext_getElem (by rw [zB,zB,yZ,hl]) fun j g1 g2=>?_
 rw [zB] at g1
 rw [yH,yH,List.getElem_range]
 unfold atQ
 rw [hc]
 show _=V.int ((c.2[j]?).getD 0)
 rw [zA g1];rfl
noncomputable def wcg (K:uR) (d:Ad):Sp:=fun vs H Q _=>∃(a:Addr) (ns:List Int) (le lc:Addr) (las:List Addr) (cs:List Pq) (es:List Nat) (kd:Nat),vs=[.ref a,.ref le,.ref lc]/\SqL K H a (ns.map V.int)/\ns.length<=63/\LnsAt H le las es/\es.length<=11/\H lc=some (.lst (qsV cs))/\cs.length=es.length+1/\qgm H kd cs/\kd<=6/\
 ∀(l:Addr) (qs:List Pq) (H':Hp),qar H H'->H' l=some (.lst (qsV qs))->qs.length=es.length+1->(∀q∈qs,H' q.1=some (.lst (q.2.map V.int))/\q.2.length=kd/\∀x∈q.2,0<=x/\x<=10^30)->(∀h j,h < es.length+1->j < kd->sumQ (elN es) qs (es.length+1) h j<=atQ cs h j)->Q (.ref l) H'
include T in
theorem wcy:FnOk P w K mg base CX0 2 d.w6y d.w65 ["_law_script","_law_lines_here","_law_caps_here"] (wcg K d):=by
 refine T.w9a.ok w0w (fun vs H Q E h=>?_) (fun cdv A outer s H vs Q E hr h=>?_)
 .obtain⟨a,ns,le,lc,las,cs,es,kd,rfl,_⟩:=h;rfl
 obtain⟨a,ns,le,lc,las,cs,es,kd,rfl,hSa,h63,hE,h11,hC,hcl,h9,k3,q⟩:=h
 have lo:∀(k e:Nat),es[k]?=some e->e<=k:=fun k e h=>(hE.lo k e h).1
 have low:=qd4 lo (es.length+1)
 refine⟨_,(qa1 (qag (i:=3) w0w.nd rfl (uJ rfl) (qa8 ((w20 T).mono (by decide)) hr rfl T.w3k T.w33.kp T.w3l .nil qak (qa0 (pv 0) (qa0 qa4 qa2))))
  (qa1 (qag (i:=4) w0w.nd rfl (aV rfl) (qbp (caps:=[]) (cn:=[]) (qb1 rfl rfl (by rfl) (by rfl) rfl trivial (by rfl) rfl trivial (by decide)) rfl (qau (pv 2)) (fun _ _ _ _=>qd8) (fun _ _ _ _=>(qbq qfp rfl T.wdb bQ (qa0 (pv 0) qa2)))))
  (qa1 (qag (i:=5) w0w.nd rfl (uJ rfl) (qc0 qa2))
  (qa1 (qb7 uY rfl (qc1 rfl T.w34 (qa0 (qaf qay rfl T.w2t vH (qa0 (pv 1) qa2)) qa2)) (qac (i:=6) w0w.nd rfl (uJ rfl)) (qa1 (qba (qdb uZ vM vN qbe (pv 5) (qa0 (qc0 qa2) qa2)))
  (qa5 (qb7 uY rfl (qc1 rfl T.w34 (qa0 (qaf qay rfl T.w2t vH (qa0 (qaj qal (pv 2) (pv 6) (fun _ _=>rfl)) qa2)) qa2)) (qac (i:=7) w0w.nd rfl (aV rfl)) (qa1 (qag (i:=8) w0w.nd rfl (uJ rfl) (qaf (call_minL rfl) rfl T.wgo eO (qa0 (qbp (caps:=[4,7]) (cn:=["_law_left","_law_j"]) (qb1 rfl rfl (by rfl) (by rfl) rfl ⟨rfl,⟨rfl,trivial⟩⟩ (by rfl) rfl ⟨⟨rfl,rfl,rfl,rfl,_,rfl⟩,⟨⟨rfl,rfl,rfl,rfl,_,rfl⟩,trivial⟩⟩ (by decide)) rfl (qau (qaj qal (pv 1) (pv 6) (fun _ _=>rfl))) (fun _ _ _ _=>qd8) (fun _ _ _ _=>(qaj qal (qaj qal (pv 1) (pv 0) (fun _ _=>rfl)) (pv 2) (fun _ _=>rfl)))) qa2)))
  (qa1 (qag (i:=9) w0w.nd rfl (uJ rfl) (qaj qal (qc0 (qa0 qa4 (qa0 (pv 8) (qa0 (qao qcn (pv 8) qa4) qa2)))) (qa8 ((w1a T).mono (by decide)) hr rfl T.w38 T.w2w.kp T.w32 .nil qak (qa0 (pv 3) (qa0 (qao qb2 (qao qb2 qa4 (qao qby qa4 (pv 6))) (pv 7)) (qa0 qa4 qa2)))) (fun _ _=>rfl)))
  (qa1 (qba (qdb uZ vM vN qbe (qaj qal (pv 5) (pv 6) (fun _ _=>rfl)) (qa0 (pv 9) qa2)))
  (qa5 (qb7 uY rfl (qau (qaj qal (pv 1) (pv 6) (fun _ _=>rfl))) (qac (i:=10) w0w.nd rfl (uJ rfl)) (qa5 (ps_lput (qaj qal (pv 4) (pv 10) (fun _ _=>rfl)) (pv 7) (qao qek (qaj qal (qaj qal (pv 4) (pv 10) (fun _ _=>rfl)) (pv 7) (fun _ _=>rfl)) (pv 9)) rfl)))))))))))
  (qa5 (qai (pv 5))))))),?_⟩
 walk_at "d"
 try dsimp only [cxC]
 refine qah (σ:=[some (.ref a),some (.ref le),some (.ref lc),none,none,none,none,none,none,none,none]) rfl ?_
 left
 refine⟨a,ns,5,rfl,hSa,by decide,by decide,h63,fun H sc=>?_⟩
 have hE:=hE.same sc
 have hC:=sc _ _ hC
 have h9:=h9.same sc
 have q:=fun l qs H' (s:qar H H')=>q l qs H' (sc.trans s)
 generalize qbz ns 5=c
 left
 intro C s0 H0 fp ll hll
 refine qel (es.length+1) (fun i H'=>∃ls:List Addr,qar H H'/\H' ll=some (.lst (ls.map V.ref))/\ls.length=i/\ls.Nodup/\(∀l∈ls,l≠ll/\H l=none)/\qc5 H' ls kd (atQ cs)) ⟨[],qa9 hll _,qa3,rfl,yR,fun l h=>by simp at h,fun h l hl=>by simp at hl⟩ ?_ ?_ ?_ ?_
 .rintro i H' hi ⟨ls,sm,_⟩
  exact⟨_,.ref (cs[i]'(by omega)).1,SqL.of (sm _ _ hC),by unfold qsV;rw [zC,zA (by omega)];rfl⟩
 .rintro H' ⟨ls,sm,_⟩
  exact⟨_,SqL.of (sm _ _ hC),by unfold qsV;rw [zB];omega⟩
 .rintro i H' v H'' hi ⟨ls,sm,eL,hlen,nd,hls,hA⟩ ⟨rfl,hv⟩
  have hv:=hv _ (SqL.of (sm _ _ hC))
  unfold qsV at hv
  have hci:cs[i]?=some (cs[i]'(by omega)):=zA (by omega)
  rw [zC,hci] at hv
  cases hv
  have h9i:=(h9 _ (zF hci)).1
  have e9:=h9.col hci
  generalize cs[i]'(by omega)=ci at*
  left
  refine r_listL (SqL.of (sm _ _ h9i)) fun l hl=>?_
  have s1:=qa9 hl (.lst (ci.2.map V.int))
  have eL1:=s1 _ _ eL
  have el:upd H'' l (.lst (ci.2.map V.int)) l=some (.lst (colV kd fun j=>atQ cs i j)):=by rw [qa3,e9]
  have nl:l≠ll:=(qa7 eL hl).symm
  have nls:l∉ls:=fun hm=>by
   obtain⟨j,hj,e⟩:=zO.mp hm
   have:=hA j l (by rw [zA hj,e])
   rw [hl] at this;cases this
  generalize upd H'' l (.lst (ci.2.map V.int))=H2 at*
  have zl:(ls.map V.ref).length < sizeLine:=by rw [zB];show _ < 16777216;omega
  left
  refine⟨ls++ [l],qav (sm.trans s1) hll,by rw [qa3,zD];rfl,by rw [zK,hlen];rfl,?_,fun x hx=>?_,fun h x hx=>?_⟩
  .exact yJ.mpr ⟨nd,yC.mpr ⟨by simp,yR⟩,fun a ha b hb=>by rw [zH.mp hb];exact fun z=>nls (z ▸ ha)⟩
  .rcases zT.mp hx with h|h
   .exact hls x h
   .rw [zH.mp h];exact⟨nl,sm.free hl⟩
  .by_cases cc:h < ls.length
   .rw [yE cc] at hx
    rw [qa6 (hls x (zF hx)).1]
    exact s1 _ _ (hA h x hx)
   .rw [yD (by omega)] at hx
    have:x=l:=by
     have hm:=zF hx
     exact zH.mp hm
    subst this
    rw [qa6 nl]
    have hh:h=i:=by
     have:=(uH.mp hx).1
     rw [yB] at this
     omega
    rw [hh]
    exact el
 rintro H1 ⟨ls,s1,eL1,hlen,nd,hls,hA1⟩
 have hE1:=(hE.same s1).top
 have hle:(las.map V.ref).length=es.length+1:=by rw [zB,hE.len]
 have hrn:(((las.map V.ref).length:Nat):Int).toNat=es.length+1:=by rw [hle];omega
 have inLs:∀{H':Hp} {X:Nat->Nat->Int} {a:Addr},qc5 H' ls kd X->H' a=none->a∉ls:=fun {H' X a} hA ha hm=>by
  obtain⟨j,hj,e⟩:=zO.mp hm
  have:=hA j a (by rw [zA hj,e])
  rw [ha] at this;cases this
 have notL:∀{b:Addr} {o:HO},H b=some o->b∉ls:=fun {b o} hb hm=>by rw [(hls b hm).2] at hb;cases hb
 left
 rename_i lp hlp
 rw [hrn]
 have nlpL:lp∉ls:=inLs hA1 hlp
 refine qd2 (fun i σ H'=>∃(qs:List Pq) (X:Nat->Nat->Int) (w1 w2 w3 w4 w5:Option V),σ=[some (V.ref a),some (V.ref le),some (V.ref lc),some (V.int c),some (V.ref ll),some (V.ref lp),w1,w2,w3,w4,w5]/\SB ls H1 H'/\QsAt H1 H' lp kd qs/\qs.length=i/\qc5 H' ls kd X/\∀h j,h < es.length+1->j < kd->0<=X h j/\X h j=atQ cs h j - sumQ (elN es) qs i h j)
  ⟨[],atQ cs,_,_,_,_,_,rfl,SB.put (fun b o hb _=>hb) (.inl hlp),⟨qa3,fun q hq=>by simp at hq,yR,fun q hq=>by simp at hq⟩,rfl,hA1.other nlpL,fun h j _ _=>⟨(h9.bd h j).1,by show _=_ - (0:Int);omega⟩⟩ ?_ ?_
 .rintro i σ H' hi ⟨qs,X,w1,w2,w3,w4,w5,rfl,sb,hq,hql,hA,hX⟩
  have smH:∀{H'':Hp},SB ls H1 H''->qar H H'':=fun {H''} sb b o hb=>sb b o (s1 b o hb) (notL hb)
  have sm:=smH sb
  rw [xW]
  have hci:cs[i]?=some (cs[i]'(by omega)):=zA (by omega)
  obtain⟨h9i,h9l,_⟩:=h9 _ (zF hci)
  have xc:atI (qsV cs) ((i:Nat):Int)=some (.ref (cs[i]'(by omega)).1):=qax (by unfold qsV;rw [zC,hci];rfl)
  generalize cs[i]'(by omega)=ci at*
  have kb:((i:Nat):Int).natAbs < 2^600:=vT (show ((i:Nat):Int).natAbs<=12 by omega) (by decide)
  have pw:=qg9 low i hi
  have lle:=qcf low i hi
  obtain⟨lh,_,alh,elh0⟩:=hE.at hi
  generalize hki:((i:Nat):Int)=ki at*
  have nlhL:lh∉ls:=notL elh0
  have elh:=sm _ _ elh0
  have nlhp:lp≠lh:=fun z=>by rw [z,s1 _ _ elh0] at hlp;cases hlp
  have nq:∀q∈qs,q.1≠lh:=fun q h z=>by
   have:=(hq.row q h).2.1
   rw [z,s1 _ _ elh0] at this;cases this
  have hq2:=hq
  have hA2:=hA
  have sb2:=sb
  have etop:=hq2.top
  have zq:(qsV qs).length < sizeLine:=by unfold qsV;rw [zB];show _ < 16777216;omega
  left
  rename_i pi hpi
  have nplp:lp≠pi:=qa7 etop hpi
  have nplh:lh≠pi:=qa7 elh hpi
  have npL:pi∉ls:=inLs hA2 hpi
  have n1pi:H1 pi=none:=by
   cases e:H1 pi with
   |none=>rfl
   |some o=>have:=sb2 pi o e npL;rw [hpi] at this;cases this
  have npq:∀q∈qs,q.1≠pi:=fun q hq=>qa7 (hq2.row q hq).1 hpi
  have e3lp:(upd (upd H' pi (.lst [])) lp (.lst (qsV qs++ [.ref pi]))) lp=some (.lst (qsV qs++ [.ref pi])):=qa3
  have e3pi:(upd (upd H' pi (.lst [])) lp (.lst (qsV qs++ [.ref pi]))) pi=some (.lst (([]:List Int).map V.int)):=by rw [qa6 nplp.symm];exact qa3
  have e3lh:(upd (upd H' pi (.lst [])) lp (.lst (qsV qs++ [.ref pi]))) lh=some (.lst ((qab (elN es) i).map iV)):=by rw [qa6 nlhp.symm,qa6 nplh];exact elh
  have e3q:∀q∈qs,(upd (upd H' pi (.lst [])) lp (.lst (qsV qs++ [.ref pi]))) q.1=some (.lst (q.2.map V.int)):=fun q h=>by rw [qa6 (hq2.row q h).2.2,qa6 (npq q h)];exact(hq2.row q h).1
  have hA3:qc5 (upd (upd H' pi (.lst [])) lp (.lst (qsV qs++ [.ref pi]))) ls kd X:=(hA2.other npL).other nlpL
  have sb3:SB ls H1 (upd (upd H' pi (.lst [])) lp (.lst (qsV qs++ [.ref pi]))):=(sb2.put (.inl n1pi)).put (.inl hlp)
  generalize upd (upd H' pi (.lst [])) lp (.lst (qsV qs++ [.ref pi]))=H3 at*
  have nlhq:∀q∈qs,q.1≠lh/\q.1≠pi/\q.1≠lp/\q.1∉ls:=fun q h=>⟨nq q h,npq q h,(hq2.row q h).2.2,fun hm=>by
   obtain⟨j,hj,e⟩:=zO.mp hm
   have e2:=hA1 j q.1 (by rw [zA hj,e])
   rw [(hq2.row q h).2.1] at e2;cases e2⟩
  have hk9:(ci.2.map V.int).length=kd:=by rw [zB];exact h9l
  have hkn:(((ci.2.map V.int).length:Nat):Int).toNat=kd:=by rw [hk9];omega
  have h93:=(smH sb3) _ _ h9i
  have nn:=fun h j=>sumQ_nn (el:=elN es) (fun q hq x hx=>((hq2.val q hq).2 x hx).1) i h j
  have nd1:=hq2.nd
  have val1:=hq2.val
  have row1:=fun q h=>(hq2.row q h).2
  clear hq2 hA2 sb2 hq hA sb sm etop elh zq hpi npq
  refine qb3 (SqL.of ((smH sb3) _ _ hC)) xc ?_
  left
  rw [hkn]
  have lnd:(qab (elN es) i).Nodup:=aF (fun h z=>by omega) pw
  refine qd2 (fun j σ H4=>∃(cur:List Int) (Y:Nat->Nat->Int) (w1 w2 w3 w4:Option V),σ=[some (V.ref a),some (V.ref le),some (V.ref lc),some (V.int c),some (V.ref ll),some (V.ref lp),some (V.int ki),w1,w2,w3,w4]/\SB ls H1 H4/\H4 lp=some (.lst (qsV qs++ [.ref pi]))/\H4 pi=some (.lst (cur.map V.int))/\H4 lh=some (.lst ((qab (elN es) i).map iV))/\(∀q∈qs,H4 q.1=some (.lst (q.2.map V.int)))/\cur.length=j/\(∀x∈cur,0<=x/\x<=10^30)/\qc5 H4 ls kd Y/\
    ∀h j',h < es.length+1->j' < kd->0<=Y h j'/\Y h j'=atQ cs h j' - sumQ (elN es) qs i h j' - (if h∈qab (elN es) i then (cur[j']?).getD 0 else 0))
   ⟨[],X,_,_,_,_,rfl,sb3,e3lp,e3pi,e3lh,e3q,rfl,fun x h=>by simp at h,hA3,fun h j' hh hj'=>⟨(hX h j' hh hj').1,by rw [(hX h j' hh hj').2];simp⟩⟩ ?_ ?_
  .rintro j σ H4 hj ⟨cur,Y,w1,w2,w3,w4,rfl,sb4,e4lp,e4pi,e4lh,e4q,hcl,hcur,hA4,hY⟩
   clear e3lp e3pi e3lh e3q hA3 sb3 hX h93 hkn hk9
   rw [xW]
   have e4le:H4 le=some (.lst (las.map V.ref)):=sb4 le _ (s1 _ _ hE.top) (notL hE.top)
   have e4ll:H4 ll=some (.lst (ls.map V.ref)):=sb4 ll _ eL1 fun hm=>(hls ll hm).1 rfl
   have xl:∀h,h < es.length+1->∃l,ls[h]?=some l/\atI (ls.map V.ref) ((h:Nat):Int)=some (.ref l):=fun h hh=>⟨ls[h],zA (by omega),qax (by rw [zC,zA (by omega)];rfl)⟩
   have xj:∀f:Nat->Int,atI (colV kd f) ((j:Nat):Int)=some (V.int (f j)):=fun f=>colV_at f hj
   generalize hji:((j:Nat):Int)=ji at*
   left
   refine qb3 (SqL.of e4le) alh ?_
   left
   intro C s0 H0 fp acc hacc
   refine qel (qab (elN es) i).length (fun c Hc=>Hc=upd H4 acc (.lst ((((qab (elN es) i).take c).map fun h=>Y h j).map V.int))) rfl ?_ ?_ ?_ ?_
   .rintro c Hc hc rfl
    exact⟨_,iV (qab (elN es) i)[c],SqL.of (qae e4lh hacc),by rw [zC,zA hc];rfl⟩
   .rintro Hc rfl
    exact⟨_,SqL.of (qae e4lh hacc),by rw [zB];exact uG _⟩
   .rintro c Hc v Hd hc rfl ⟨rfl,hv⟩
    have hv:=hv _ (SqL.of (qae e4lh hacc))
    rw [zC,zA hc] at hv
    cases hv
    have tk:(qab (elN es) i).take (c+1)=(qab (elN es) i).take c++ [(qab (elN es) i)[c]]:=by rw [zL,zA hc];rfl
    have hh:=lle _ (zM hc)
    have hcl2:=qc2 low i hi
    generalize (qab (elN es) i)[c]=h at*
    obtain⟨l,hl,al⟩:=xl h (by omega)
    have zl:((((qab (elN es) i).take c).map fun h=>Y h j).map V.int).length < sizeLine:=by rw [zB,zB,zW];show _ < 16777216;omega
    unfold iV
    left
    refine qb3 (SqL.of (qae e4ll hacc)) al ?_
    left
    refine qb3 (SqL.of (qae (hA4 h l hl) hacc)) (xj _) ?_
    left
    rw [qbn,tk,zD,zD]
    rfl
   rintro Hc rfl
   rw [zP]
   have s5:=qa9 hacc (.lst (((qab (elN es) i).map fun h=>Y h j).map V.int))
   have e5:upd H4 acc (.lst (((qab (elN es) i).map fun h=>Y h j).map V.int)) acc=some (.lst (((qab (elN es) i).map fun h=>Y h j).map V.int)):=qa3
   generalize upd H4 acc (.lst (((qab (elN es) i).map fun h=>Y h j).map V.int))=H5 at*
   left
   refine r_minL (SqL.of e5) (by rw [zB];exact List.length_pos_of_mem (qch low hi)) fun m hm hmin=>?_
   have mle:∀h∈qab (elN es) i,m<=Y h j:=fun h hh=>hmin _ (zI.mpr ⟨h,hh,rfl⟩)
   have cj:(cur[j]?).getD 0=0:=by rw [bV (by omega)];rfl
   obtain⟨m0,m9⟩:0<=m/\m<=10^30:=by
    obtain⟨h,hh,rfl⟩:=zI.mp hm
    have z:=hY h j (by have:=lle h hh;omega) hj
    have z2:=nn h j
    rw [cj] at z
    have:(if h∈qab (elN es) i then (0:Int) else 0)=0:=by split <;> rfl
    rw [this] at z
    have:=(h9.bd h j).2
    omega
   clear hm hmin e5 hacc
   left
   rename_i pm hpm
   refine qci (by omega) (by omega) (by decide) (by decide) fun r r0 r1=>?_
   refine r_menu (xs:=[0,m,m.fdiv 2]) (SqL.of qa3) r0 r1 fun pt hpt=>?_
   obtain⟨p0,pm'⟩:0<=pt/\pt<=m:=by
    have ed:m.fdiv 2=m / 2:=aO m (by decide)
    simp only [zR,yI,or_false] at hpt
    rw [ed] at hpt
    omega
   have s6:=s5.trans (qa9 hpm (.lst [.int 0,.int m,.int (m.fdiv 2)]))
   generalize upd H5 pm (.lst [.int 0,.int m,.int (m.fdiv 2)])=H6 at*
   have e6lp:=s6 _ _ e4lp
   have e6pi:=s6 _ _ e4pi
   have e6lh:=s6 _ _ e4lh
   have e6q:∀q∈qs,H6 q.1=some (.lst (q.2.map V.int)):=fun q h=>s6 _ _ (e4q q h)
   have hA6:=hA4.same s6
   have sb6:=sb4.new s6
   have zc:(cur.map V.int).length < sizeLine:=by rw [zB];show _ < 16777216;omega
   have xpi:atI (qsV qs++ [V.ref pi]) ki=some (.ref pi):=by
    rw [<-hki]
    refine qax ?_
    rw [yD (by unfold qsV;rw [zB];omega)]
    unfold qsV
    rw [zB,hql,dW]
    rfl
   clear hpt r0 r1 s5 s6 e4lp e4pi e4lh e4q hA4 sb4 e4ll hpm
   left
   refine qb3 (SqL.of e6lp) xpi ?_
   left
   have ecur:cur.map V.int++ [V.int pt]=(cur++ [pt]).map V.int:=by rw [zD];rfl
   rw [ecur]
   have e7lp:upd H6 pi (.lst ((cur++ [pt]).map V.int)) lp=some (.lst (qsV qs++ [.ref pi])):=by rw [qa6 nplp];exact e6lp
   have e7pi:upd H6 pi (.lst ((cur++ [pt]).map V.int)) pi=some (.lst ((cur++ [pt]).map V.int)):=qa3
   have e7lh:upd H6 pi (.lst ((cur++ [pt]).map V.int)) lh=some (.lst ((qab (elN es) i).map iV)):=by rw [qa6 nplh];exact e6lh
   have e7q:∀q∈qs,upd H6 pi (.lst ((cur++ [pt]).map V.int)) q.1=some (.lst (q.2.map V.int)):=fun q h=>by rw [qa6 (nlhq q h).2.1];exact e6q q h
   have hA7:=hA6.other (o:=.lst ((cur++ [pt]).map V.int)) npL
   have sb7:SB ls H1 (upd H6 pi (.lst ((cur++ [pt]).map V.int))):=sb6.put (.inl n1pi)
   generalize upd H6 pi (.lst ((cur++ [pt]).map V.int))=H7 at*
   clear e6lp e6pi e6lh e6q hA6 sb6 zc
   have e7le:H7 le=some (.lst (las.map V.ref)):=sb7 le _ (s1 _ _ hE.top) (notL hE.top)
   left
   refine qb3 (SqL.of e7le) alh ?_
   left
   refine qcz (xs:=(qab (elN es) i).map iV) (fun c' σ H8=>∃w:Option V,σ=[some (V.ref a),some (V.ref le),some (V.ref lc),some (V.int c),some (V.ref ll),some (V.ref lp),some (V.int ki),some (V.int ji),some (V.int m),some (V.int pt),w]/\SB ls H1 H8/\H8 lp=some (.lst (qsV qs++ [.ref pi]))/\H8 pi=some (.lst ((cur++ [pt]).map V.int))/\H8 lh=some (.lst ((qab (elN es) i).map iV))/\(∀q∈qs,H8 q.1=some (.lst (q.2.map V.int)))/\qc5 H8 ls kd fun h j'=>if h∈(qab (elN es) i).take c'/\j'=j then Y h j' - pt else Y h j')
    ⟨_,rfl,sb7,e7lp,e7pi,e7lh,e7q,hA7.cast fun h j' _ _=>by rw [gS (by simp)]⟩ ?_ ?_ ?_
   .rintro c' σ H8 _ ⟨w,_,_,_,_,e,_⟩
    exact SqL.of e
   .rintro c' x σ H8 hx ⟨w,rfl,sb8,e8lp,e8pi,e8lh,e8q,hA8⟩
    rw [zC] at hx
    obtain⟨h,hh,rfl⟩:=uU.mp hx
    have hc':c' <(qab (elN es) i).length:=(uH.mp hh).1
    have tk:(qab (elN es) i).take (c'+1)=(qab (elN es) i).take c'++ [h]:=by rw [zL,hh];rfl
    have hin:=lle h (zF hh)
    have hnt:h∉(qab (elN es) i).take c':=fun hm=>by
     obtain⟨b,hb,e⟩:=zO.mp hm
     rw [zW] at hb
     rw [dD] at e
     obtain⟨g1,g2⟩:=uH.mp hh
     exact(zV.mp lnd) b c' (by omega) hc' (by omega) (e.trans g2.symm)
    obtain⟨l,hl,al⟩:=xl h (by omega)
    have hlm:=zF hl
    have e8ll:H8 ll=some (.lst (ls.map V.ref)):=sb8 ll _ eL1 fun hm=>(hls ll hm).1 rfl
    have e8l:=hA8 h l hl
    have yv:(if h∈(qab (elN es) i).take c'/\j=j then Y h j - pt else Y h j)=Y h j:=gS fun z=>hnt z.1
    have xv:=xj fun j'=>if h∈(qab (elN es) i).take c'/\j'=j then Y h j' - pt else Y h j'
    rw [yv] at xv
    clear hx
    unfold iV
    left
    refine qb3 (SqL.of e8ll) al ?_
    left
    refine qb3 (SqL.of e8l) xv ?_
    left
    refine qb3 (SqL.of e8ll) al ?_
    left
    refine r_lpk e8l (k:=j) (by rw [colV_len];exact hj) ?_ hji.symm
    rw [colV_set _ _ hj]
    have nl:∀a,a∉ls->a≠l:=fun a ha z=>ha (z ▸ hlm)
    left
    refine⟨_,rfl,sb8.put (.inr hlm),by rw [qa6 (nl lp nlpL)];exact e8lp,by rw [qa6 (nl pi npL)];exact e8pi,by rw [qa6 (nl lh nlhL)];exact e8lh,fun q hq=>by rw [qa6 (nl q.1 (nlhq q hq).2.2.2)];exact e8q q hq,(hA8.put nd hl).cast fun a b ha hb=>?_⟩
    try dsimp only
    rw [tk]
    by_cases ca:a=h
    .rw [gT ca,ca]
     by_cases cb:b=j
     .rw [gT cb,gT ⟨zX _ (zH.mpr rfl),cb⟩,cb]
     .rw [gS cb,gS (fun z=>cb z.2),gS (fun z=>cb z.2)]
    .rw [gS ca]
     by_cases cm:a∈(qab (elN es) i).take c'/\b=j
     .rw [gT cm,gT ⟨yG _ cm.1,cm.2⟩]
     .rw [gS cm,gS fun z=>(zT.mp z.1).elim (fun z1=>cm ⟨z1,z.2⟩) fun z1=>ca (zH.mp z1)]
   .rintro σ H8 ⟨w,rfl,sb8,e8lp,e8pi,e8lh,e8q,hA8⟩
    rw [zB,zP] at hA8
    left
    refine⟨cur++ [pt],_,_,_,_,_,rfl,sb8,e8lp,e8pi,e8lh,e8q,by rw [zK,hcl];rfl,fun x hx=>?_,hA8,fun h j' hh hj'=>?_⟩
    .rcases zT.mp hx with z|z
     .exact hcur x z
     .rw [zH.mp z];omega
    .obtain⟨y0,y1⟩:=hY h j' hh hj'
     by_cases cj':j'=j
     .subst cj'
      rw [cj] at y1
      have eg:((cur++ [pt])[j']?).getD 0=pt:=by rw [yD (by omega),hcl,dW];rfl
      rw [eg]
      by_cases ch:h∈qab (elN es) i
      .have:=mle h ch
       rw [gT ch] at y1 ⊢
       rw [gT ⟨ch,rfl⟩]
       omega
      .rw [gS ch] at y1 ⊢
       rw [gS fun z=>ch z.1]
       exact⟨y0,y1⟩
     .have eg:((cur++ [pt])[j']?).getD 0=(cur[j']?).getD 0:=by
       by_cases lt:j' < cur.length
       .rw [yE lt]
       .rw [bV (l:=cur) (by omega),bV (by rw [zK,yB];omega)]
      rw [eg,gS fun z=>cj' z.2]
      exact⟨y0,y1⟩
  .rintro σ H4 ⟨cur,Y,w1,w2,w3,w4,rfl,sb4,e4lp,e4pi,e4lh,e4q,hcl,hcur,hA4,hY⟩
   left
   refine⟨qs++ [(pi,cur)],Y,_,_,_,_,_,rfl,sb4,⟨by rw [e4lp];unfold qsV;rw [zD];rfl,fun q hq=>?_,?_,fun q hq=>?_⟩,by rw [zK,hql];rfl,hA4,fun h j' hh hj'=>?_⟩
   .rcases zT.mp hq with z|z
    .exact⟨e4q q z,row1 q z⟩
    .rw [zH.mp z];exact⟨e4pi,n1pi,nplp.symm⟩
   .rw [zD]
    exact yJ.mpr ⟨nd1,yC.mpr ⟨by simp,yR⟩,fun a ha b hb=>by
     have eb:b=pi:=by simpa using hb
     obtain⟨q,hq,rfl⟩:=zI.mp ha
     rw [eb]
     exact(nlhq q hq).2.1⟩
   .rcases zT.mp hq with z|z
    .exact val1 q z
    .rw [zH.mp z];exact⟨hcl,hcur⟩
   .have z:sumQ (elN es) (qs++ [(pi,cur)]) (qs.length+1) h j'=sumQ (elN es) qs qs.length h j'+(if h∈qab (elN es) qs.length then (cur[j']?).getD 0 else 0):=sumQ_snoc (elN es) qs (pi,cur) h j'
    rw [hql] at z
    rw [z]
    obtain⟨y0,y1⟩:=hY h j' hh hj'
    exact⟨y0,by rw [y1,Int.sub_sub]⟩
 .rintro σ H' ⟨qs,X,w1,w2,w3,w4,w5,rfl,sb,hq,hql,hA,hX⟩
  left
  exact q lp qs H' (fun b o hb=>sb b o (s1 b o hb) (notL hb)) hq.top hql (fun x hx=>⟨(hq.row x hx).1,hq.val x hx⟩) fun h j hh hj=>by
   have:=hX h j hh hj
   omega
noncomputable def csD (cs:List Pq) (k:Nat):List Int:=match cs[k]? with
 |some c=>c.2
 |none=> []
noncomputable def csA (cs:List Pq) (k:Nat):Addr:=match cs[k]? with
 |some c=>c.1
 |none=>0
noncomputable def csT (ws:List Str) (cs:List Pq):List Pt:=cs.map fun c=>⟨0,tdK (ws.zip c.2),tdF (ws.zip c.2)⟩
theorem qgm.at {H:Hp} {kd:Nat} {cs:List Pq} (h:qgm H kd cs) {k:Nat} (hk:k < cs.length):H (csA cs k)=some (.lst ((csD cs k).map V.int))/\(csD cs k).length=kd/\(∀x∈csD cs k,0<=x/\x<=10^30)/\atI (qsV cs) ((k:Nat):Int)=some (.ref (csA cs k)):=by
 have e:=zA hk
 have z:=h _ (zM hk)
 unfold csA csD
 rw [e]
 exact⟨z.1,z.2.1,z.2.2,qax (by unfold qsV;rw [zC,e];rfl)⟩
theorem csT_at {ws:List Str} {cs:List Pq} {k:Nat} (hk:k < cs.length):(csT ws cs)[k]?=some ⟨0,tdK (ws.zip (csD cs k)),tdF (ws.zip (csD cs k))⟩:=by
 have e:=zA hk
 unfold csT csD
 rw [zC,e];rfl
noncomputable def mkP (ws nm:List Str) (es:List Nat) (ts:List Pt) (cs:List Pq):PL:=⟨0,0,0,0,0,ws,nm,es,ts,csT ws cs⟩
theorem mkP_ok {H:Hp} {ws nm:List Str} {es:List Nat} {ts:List Pt} {qs cs:List Pq} (hcl:cs.length=es.length+1) (hcs:qgm H ws.length cs) (hw:Nms ws ws.length) (w1:1<=ws.length) (w3:ws.length<=6) (hn:Nms nm (es.length+1)) (h11:es.length<=11) (lo:∀(k e:Nat),es[k]?=some e->e<=k/\e<=10)
  (hts:ts.map (fun t=>(t.k,t.f))=qs.map fun q=>(tdK (ws.zip q.2),tdF (ws.zip q.2))) (hql:qs.length=es.length+1) (hq:∀q∈qs,q.2.length=ws.length/\∀x∈q.2,0<=x/\x<=10^30) (hs:∀h j,h < es.length+1->j < ws.length->sumQ (elN es) qs (es.length+1) h j<=atQ cs h j):PlF (mkP ws nm es ts cs):=by
 have htl:ts.length=es.length+1:=by have:=congrArg wP hts;rw [zB,zB] at this;omega
 have htk:∀(k:Nat) (t:Pt),ts[k]?=some t->∃q,qs[k]?=some q/\t.k=tdK (ws.zip q.2)/\t.f=tdF (ws.zip q.2):=fun k t ht=>by
  have z:=congrArg (fun l=>l[k]?) hts
  simp only [zC,ht] at z
  cases e:qs[k]? with
  |none=>rw [e] at z;cases z
  |some q=>
   rw [e] at z
   have z':(t.k,t.f)=(tdK (ws.zip q.2),tdF (ws.zip q.2)):=uX z
   exact⟨q,rfl,(cK z').1,(cK z').2⟩
 refine⟨w1,w3,hw.good,hw.nd,hn.len,by show nm.length<=12;rw [hn.len];omega,hn.good,hn.nd,lo,by show ts.length=nm.length;rw [hn.len];exact htl,by show (csT ws cs).length=nm.length;unfold csT;rw [zB,hn.len];exact hcl,fun t ht=>?_,fun t ht=>?_,fun j t ht v hv=>?_⟩
 .obtain⟨k,hk,e⟩:=zO.mp ht
  obtain⟨q,h1,h2,h3⟩:=htk k t (by rw [<-e];exact zA hk)
  rw [h2,h3]
  exact⟨td_ad _,qft (hq q (zF h1)).1.symm hw.nd fun p hp=>((hq q (zF h1)).2 p hp).2⟩
 .obtain⟨c,hc,rfl⟩:=zI.mp ht
  exact⟨td_ad _,qft (hcs c hc).2.1.symm hw.nd fun p hp=>((hcs c hc).2.2 p hp).2⟩
 .have hj:j < es.length+1:=by
   have:=(uH.mp ht).1
   rw [show (mkP ws nm es ts cs).tc=csT ws cs from rfl] at this
   unfold csT at this
   rw [zB] at this
   omega
  have e:t=⟨0,tdK (ws.zip (csD cs j)),tdF (ws.zip (csD cs j))⟩:=uX (ht.symm.trans (csT_at (by omega)))
  subst e
  obtain⟨_,cl,cb,_⟩:=hcs.at (show j < cs.length by omega)
  obtain⟨a,ha,rfl⟩:=zO.mp hv
  have ha:a < ws.length:=ha
  have g9:gN (tdF (ws.zip (csD cs j))) ws[a]=atQ cs j a:=by
   rw [qdf cl.symm hw.nd (fun p hp=>(cb p hp).1) ha (by rw [cl];exact ha)]
   have e:=zA (show j < cs.length by omega)
   unfold atQ
   rw [e]
   show _=((cs[j]'(by omega)).2[a]?).getD 0
   have e2:csD cs j=(cs[j]'(by omega)).2:=by unfold csD;rw [e]
   rw [<-e2,zA (by rw [cl];exact ha)];rfl
  show (qds ts.length fun k=>if j∈qab (elN es) k then ptN ts k ws[a] else 0)<=gN (tdF (ws.zip (csD cs j))) ws[a]
  rw [g9,htl]
  refine Int.le_trans (Int.le_of_eq ?_) (hs j a hj ha)
  unfold sumQ
  refine qe9 fun k hk=>?_
  have hkt:k < ts.length:=by omega
  obtain⟨q,h1,h2,h3⟩:=htk k ts[k] (zA hkt)
  have hqm:=hq q (zF h1)
  have e1:ptN ts k ws[a]=atQ qs k a:=by
   unfold ptN atQ
   rw [zA hkt,h1]
   show gN ts[k].f ws[a]=(q.2[a]?).getD 0
   rw [h3,qdf hqm.1.symm hw.nd (fun p hp=>(hqm.2 p hp).1) ha (by omega),zA (by omega)]
   rfl
  rw [e1]
theorem line_head (el:Nat->Nat) (k:Nat):(qab el k)[0]?=some k:=by cases k <;> rfl
noncomputable def wgv (K:uR) (d:Ad):Sp:=fun vs H Q _=>∃(a:Addr) (ns:List Int) (wt ln lw le lr la lc:Addr) (las:List Addr) (cs:List Pq) (nm ws:List Str) (es:List Nat),vs=[.ref a,.ref wt]/\SqL K H a (ns.map V.int)/\ns.length<=63/\H wt=some (.tup [.ref ln,.ref lw,.ref le,.ref lr,.ref la,.ref lc])/\H ln=some (.lst (nm.map V.str))/\H lw=some (.lst (ws.map V.str))/\LnsAt H le las es/\H lc=some (.lst (qsV cs))/\cs.length=es.length+1/\qgm H ws.length cs/\
 Nms nm (es.length+1)/\Nms ws ws.length/\1<=ws.length/\ws.length<=6/\es.length<=11/\
 ∀(t:Addr) (S:Ts) (P:PL) (wt:Nat->Int) (H':Hp),qar H H'->P.nm=nm->P.ws=ws->P.es=es->P.tc=csT ws cs->PlF P->qes d H' t S->TInv S P nm.length wt->Q (.ref t) H'
include T in
theorem wgt:FnOk P w K mg base CX0 20 d.wea d.wbz ["_law_script","_law_world_here"] (wgv K d):=by
 refine T.wga.ok w3s (fun vs H Q E h=>?_) (fun cdv A outer s H vs Q E hr h=>?_)
 .obtain⟨a,ns,wt,ln,lw,le,lr,la,lc,las,cs,nm,ws,es,rfl,_⟩:=h;rfl
 obtain⟨a,ns,wt,ln,lw,le,lr,la,lc,las,cs,nm,ws,es,rfl,hSa,h63,hwt,hN,hW,hE,hC,hcl,h9,hn,hw,w1,w3,h11,q⟩:=h
 have lo:=hE.lo
 refine⟨_,(qa1 (qej (pv 1) (qd7 rfl (qad (qac (i:=2) w3s.nd rfl (uJ rfl)) (qad (qac (i:=3) w3s.nd rfl (aV rfl)) (qad (qac (i:=4) w3s.nd rfl (uJ rfl)) (qad (qac (i:=5) w3s.nd rfl (uJ rfl)) (qad (qac (i:=6) w3s.nd rfl (uJ rfl)) (qad (qac (i:=7) w3s.nd rfl (uJ rfl)) qca))))))))
  (qa1 (qcs (j:=8) (caps:=[3]) (cn:=["_law_wares"]) (qb1 rfl rfl (by rfl) (by rfl) rfl ⟨rfl,trivial⟩ (by rfl) rfl ⟨⟨rfl,rfl,rfl,rfl,_,rfl⟩,trivial⟩ (by decide)) rfl w3s.nd rfl rfl (qau (qa8 ((wcy T).mono (by decide)) hr rfl T.wdp T.w9a.kp T.wds .nil qak (qa0 (pv 0) (qa0 (pv 4) (qa0 (pv 7) qa2))))) (fun _ _ _ _=>qd8) (fun _ _ _ _=>(qa8 ((w5t T).mono (by decide)) hr rfl T.w83 T.w7c.kp T.w8r .nil qak (qa0 (pv 1) (qa0 (pv 0) qa2)))))
  (qa1 (qag (i:=9) w3s.nd rfl (uJ rfl) (pe_makeX (W:=fun _ _ _ _=>False) T.w8a ((wbk T).mono (by decide)) hr rfl T.whu T.wbj T.wbe qei (qa0 (qbq qfp rfl T.wdb bQ (qa0 (pv 3) qa2)) (qa0 (qaj qal (pv 2) qa4 (fun _ _=>rfl)) (qa0 (qaj qal (pv 8) qa4 (fun _ _=>rfl)) (qa0 (qa8 ((w5t T).mono (by decide)) hr rfl T.w83 T.w7c.kp T.w8r .nil qak (qa0 (pv 3) (qa0 (qaj qal (pv 7) qa4 (fun _ _=>rfl)) qa2))) qa2))))))
  (qa1 (qb7 uY rfl (pi_range2 rfl T.w34 (qa0 qa4 (qa0 (qaf qay rfl T.w2t vH (qa0 (pv 2) qa2)) qa2))) (qac (i:=10) w3s.nd rfl (uJ rfl)) (qa5 (qba (qb4 (W:=fun _ _ _ _=>False) (pv 9) T.w01 T.w1w ((w9q T).mono (by decide)) hr T.wac T.waf qei (qa0 (qaj qal (pv 2) (pv 10) (fun _ _=>rfl)) (qa0 (qaj qal (pv 2) (qaj qal (qaj qal (pv 4) (pv 10) (fun _ _=>rfl)) qa4 (fun _ _=>rfl)) (fun _ _=>rfl)) (qa0 (qaj qal (pv 8) (pv 10) (fun _ _=>rfl)) (qa0 (qa8 ((w5t T).mono (by decide)) hr rfl T.w83 T.w7c.kp T.w8r .nil qak (qa0 (pv 3) (qa0 (qaj qal (pv 7) (pv 10) (fun _ _=>rfl)) qa2))) qa2))))))))
  (qa5 (qai (pv 9))))))),?_⟩
 walk_at "d"
 try dsimp only [cxC]
 refine qah (σ:=[some (.ref a),some (.ref wt),none,none,none,none,none,none,none,none,none]) rfl ?_
 have ct:=T.w01
 left
 refine⟨a,ns,le,lc,las,cs,es,ws.length,rfl,hSa,h63,hE,h11,hC,hcl,h9,w3,fun lq qs H1 s1 elq hql hq hsum=>?_⟩
 have hW1:=s1 _ _ hW
 left
 intro C s0 H0 fp ld hld
 refine qel qs.length (fun i H'=>∃ts:List Pt,qar H1 H'/\H' ld=some (.lst (ts.map fun t=> .ref t.a))/\ts.map (fun t=>(t.k,t.f))=(qs.take i).map (fun q=>(tdK (ws.zip q.2),tdF (ws.zip q.2)))/\∀t∈ts,H' t.a=some (.dK t.k)/\t.a≠ld) ⟨[],qa9 hld _,qa3,rfl,fun t h=>by simp at h⟩ ?_ ?_ ?_ ?_
 .rintro i H' hi ⟨ts,sm,_⟩
  exact⟨_,.ref qs[i].1,SqL.of (sm _ _ elq),by unfold qsV;rw [zC,zA hi];rfl⟩
 .rintro H' ⟨ts,sm,_⟩
  exact⟨_,SqL.of (sm _ _ elq),by unfold qsV;rw [zB];exact uG _⟩
 .rintro i H' v H'' hi ⟨ts,sm,eD,hts,hT⟩ ⟨rfl,hv⟩
  have hv:=hv _ (SqL.of (sm _ _ elq))
  unfold qsV at hv
  rw [zC,zA hi] at hv
  cases hv
  have tk:qs.take (i+1)=qs.take i++ [qs[i]]:=by rw [zL,zA hi];rfl
  obtain⟨q1,q2,q3⟩:=hq _ (zM hi)
  have htl:ts.length=i:=by have:=congrArg wP hts;rw [zB,zB,zW] at this;omega
  generalize qs[i]=qi at*
  have zl:(ts.map fun t=>V.ref t.a).length < sizeLine:=by rw [zB];show _ < 16777216;omega
  left
  refine⟨lw,qi.1,ws,qi.2,rfl,SqL.of (sm _ _ hW1),SqL.of (sm _ _ q1),q2.symm,by omega,fun l H3 s3 hl el=>?_⟩
  have eD3:=s3 _ _ eD
  have nl:l≠ld:=(qa7 eD hl).symm
  refine⟨_,eD3,zl,ts++ [⟨l,tdK (ws.zip qi.2),tdF (ws.zip qi.2)⟩],qav (sm.trans s3) hld,by rw [qa3,zD];rfl,by rw [zD,hts,tk,zD];rfl,fun t ht=>?_⟩
  rcases zT.mp ht with h|h
  .exact⟨by rw [qa6 (hT t h).2];exact s3 _ _ (hT t h).1,(hT t h).2⟩
  .rw [zH.mp h]
   exact⟨by rw [qa6 nl];exact el,nl⟩
 rintro H2 ⟨ts,s2,eD,hts,hT⟩
 rw [zP] at hts
 have pf:PlF (mkP ws nm es ts cs):=mkP_ok hcl h9 hw w1 w3 hn h11 lo hts hql (fun q h=>(hq q h).2) hsum
 have s02:=s1.trans s2
 have hlen:=hn.len
 have etp:(mkP ws nm es ts cs).tp=ts:=rfl
 have etc:(mkP ws nm es ts cs).tc=csT ws cs:=rfl
 have ews:(mkP ws nm es ts cs).ws=ws:=rfl
 have enm:(mkP ws nm es ts cs).nm=nm:=rfl
 have ees:(mkP ws nm es ts cs).es=es:=rfl
 generalize mkP ws nm es ts cs=P at*
 subst etp ews enm ees
 have nlc:P.nm.length=cs.length:=by have:=pf.nl;omega
 have tcE:∀k,k < P.nm.length->tfF P.tc k=tdF (P.ws.zip (csD cs k)):=fun k hk=>by unfold tfF;rw [etc,csT_at (by omega)]
 have tcF:∀k,k < P.nm.length->Fin P.ws (tdF (P.ws.zip (csD cs k))):=fun k hk=>(qft (h9.at (by omega)).2.1.symm hw.nd fun p hp=>((h9.at (by omega)).2.2.1 p hp).2).fin (by decide)
 have tcL:∀k,k < P.nm.length->(tdK (P.ws.zip (csD cs k))).length<=1000:=fun k hk=>by
  have:=td_len (P.ws.zip (csD cs k))
  rw [eF] at this
  omega
 have nl:=pf.nl
 have n12:=pf.n12
 have gt:GoodT P.ws:=⟨pf.w1,by have:=pf.w3;omega,pf.wg,pf.wn⟩
 have hz0:P.nm[0]?=some (nmF P 0):=by rw [qd9 (by omega)];exact zA (by omega)
 have gz:qdx (nmF P 0)=true:=pf.ng _ (zF hz0)
 have xn0:atI (P.nm.map V.str) 0=some (.str (nmF P 0)):=qax (j:=0) (by rw [zC,hz0];rfl)
 obtain⟨tp,tp1,tp2,tp3,tp4,tp5⟩:=qeu pf (k:=0) (by omega)
 have xp:atI (P.tp.map fun t=>V.ref t.a) 0=some (.ref tp.a):=qax (j:=0) (by rw [zC,tp1];rfl)
 obtain⟨h90,h90l,_,xc0⟩:=h9.at (k:=0) (by omega)
 have xc0:atI (qsV cs) 0=some (.ref (csA cs 0)):=xc0
 have lp1:tp.k.length<=1000:=by have:=tp4.le (fun z hz=>by cases e:tp.f z with|none=>exact absurd e hz|some n=>exact(tp5 z n e).1);omega
 have ole:=own_le pf (k:=0) (by omega)
 rw [tcE 0 (by omega)] at ole
 have hW2:=s02 _ _ hW
 left
 refine r_listL (SqL.of hW2) fun h0 hh0=>?_
 have s3:=qa9 hh0 (.lst (P.ws.map V.str))
 have e0:upd H2 h0 (.lst (P.ws.map V.str)) h0=some (.lst (P.ws.map V.str)):=qa3
 generalize upd H2 h0 (.lst (P.ws.map V.str))=H3 at*
 have s03:=s02.trans s3
 have eD3:=s3 _ _ eD
 left
 refine qb3 (SqL.of (s03 _ _ hN)) xn0 ?_
 left
 refine qb3 (SqL.of eD3) xp ?_
 left
 refine qb3 (SqL.of (s03 _ _ hC)) xc0 ?_
 left
 refine⟨lw,csA cs 0,P.ws,csD cs 0,rfl,SqL.of (s03 _ _ hW),SqL.of (s03 _ _ h90),h90l.symm,by omega,fun h2 H4 s4 hh2 e2=>?_⟩
 have s04:=s03.trans s4
 have e1:=s4 _ _ (s3 _ _ (hT tp tp2).1)
 have e04:=s4 _ _ e0
 left
 intro x dx hx hdx ne
 have sN:∀b u,H4 b=some u->upd (upd H4 dx (.own x)) x (.ins d.w00 dx []) b=some u:=fun b u e=>by rw [qa6 (qa7 e hx),qa6 (qa7 e hdx)];exact e
 refine⟨x,dx,h0,tp.a,h2,nmF P 0,P.ws,tp.k,tdK (P.ws.zip (csD cs 0)),tp.f,tdF (P.ws.zip (csD cs 0)),1,rfl,qa3,sN _ _ e04,gt,gz,sN _ _ e1,tp4,lp1,sN _ _ e2,td_ad _,tcL 0 (by omega),tp5,tcF 0 (by omega),by decide,by decide,fun y=>by rw [<-tp3];exact ole y,fun S e H5 sb hTr hs' f1 f2 f3 f4 hl en' ee ew' efp efc hpm hso=>⟨rfl,?_⟩⟩
 have s5:qar H4 H5:=fun b u e=>sb b u (qa7 e hx) (sN b u e)
 have fr:H4 S.hs=none:=by
  cases r:H4 S.hs with
  |none=>rfl
  |some u=>rw [sN _ _ r] at hs';cases hs'
 have s05:=s04.trans s5
 have s25:=(s3.trans s4).trans s5
 have hs2:H2 S.hs=none:=(s3.trans s4).free fr
 have tI:TInv S P (1+0) (fun _=>(1:Int)):=⟨pl_one pf hl en' ee,hpm,hso,fun k e' he=>by
  rw [hl] at he
  have hk:=(uH.mp he).1
  have e0:k=0:=by rw [yB] at hk;omega
  subst e0
  have:e'=e:=by simpa using he.symm
  subst this
  exact⟨by rw [tp3];exact efp,by rw [tcE 0 (by omega)];exact efc,by rw [ew']⟩⟩
 have hnl2:(P.nm.map V.str).length=P.nm.length:=zB _
 have hrn1:((((P.nm.map V.str).length:Nat):Int) - 1).toNat=P.nm.length - 1:=by rw [hnl2];omega
 have en5:=s05 _ _ hN
 clear sN fr hs' sb f1 f2 f3 f4 hpm hso efp efc ew' ee hl en' s5 s4 s3 e0 e1 e2 e04 hx hdx ne hh0 hh2 xp xc0 tp4 tp5 tp1 tp2 tp3 lp1 ole gt xn0 gz hz0 hld eD3 elq hW1 hW2 s1 s03 s04
 left
 unfold iRng2
 left
 refine⟨1,_,rfl,⟨by decide,by decide,by rw [hnl2];omega,by rw [hnl2];omega⟩,?_⟩
 rw [hrn1]
 refine qd2 (fun i σ H'=>∃(w:Option V) (S':Ts),σ=[some (V.ref a),some (V.ref wt),some (V.ref ln),some (V.ref lw),some (V.ref le),some (V.ref lr),some (V.ref la),some (V.ref lc),some (V.ref ld),some (V.ref x),w]/\H2 S'.hs=none/\qes d H' x S'/\TInv S' P (1+i) (fun _=>(1:Int))/\qar H2 H') ⟨_,S,rfl,hs2,hTr,tI,s25⟩ ?_ ?_
 .rintro i σ H' hi ⟨w,S',rfl,hs1,hT',hI',sm⟩
  clear hTr tI s05 s25 hs2 en5
  have kn:1+i < P.nm.length:=by omega
  obtain⟨e',ae,een,hWf,hOw,hw50,h40,nk,line⟩:=hI'.ask pf (by omega) kn
  obtain⟨tp,tp1,tp2,tp3,tp4,tp5⟩:=qeu pf kn
  have low:=pf.low P.nm.length (1+i) (by omega) kn
  have hb:i < P.es.length:=by omega
  have eb:elN P.es (1+i)=P.es[i]:=by rw [Nat.add_comm 1 i];exact elN_at hb
  obtain⟨lk,_,xl,elk⟩:=hE.at (k:=1+i) (by omega)
  have xe:atI ((qab (elN P.es) (1+i)).map iV) ((1:Nat):Int)=some (V.int ((elN P.es (1+i):Nat):Int)):=qax (by rw [qc8 (pf.low P.nm.length) (by omega) kn,zS,bF,zC,line_head];try rfl)
  have xe:atI ((qab (elN P.es) (1+i)).map iV) 1=some (V.int ((elN P.es (1+i):Nat):Int)):=xe
  have xn2:atI (P.nm.map V.str) ((elN P.es (1+i):Nat):Int)=some (.str (nmF P (elN P.es (1+i)))):=by rw [qd9 (by omega)];exact qax (by rw [zC,zA (by omega)];rfl)
  have xp:atI (P.tp.map fun t=>V.ref t.a) (((1+i:Nat)):Int)=some (.ref tp.a):=qax (by rw [zC,tp1];rfl)
  obtain⟨h9k,h9kl,_,xc⟩:=h9.at (k:=1+i) (by omega)
  have xn:atI (P.nm.map V.str) (((1+i:Nat)):Int)=some (.str (nmF P (1+i))):=by rw [qd9 kn];exact qax (by rw [zC,zA kn];rfl)
  have gzk:qdx (nmF P (1+i))=true:=by rw [qd9 kn];exact pf.ng _ (zM kn)
  have lp1:tp.k.length<=1000:=by have:=tp4.le (fun z hz=>by cases e:tp.f z with|none=>exact absurd e hz|some n=>exact(tp5 z n e).1);omega
  have ole:=own_le pf kn
  rw [tcE _ kn] at ole
  rw [show (1:Int)+(i:Int)=(((1+i:Nat)):Int) by omega]
  generalize ((elN P.es (1+i):Nat):Int)=ej at xe xn2
  generalize hki:(((1+i:Nat)):Int)=ki at*
  have s0':=s02.trans sm
  obtain⟨dx',ht'⟩:=id hT'.1
  have eD':=sm _ _ eD
  clear hrn1 hnl2
  left
  refine qb3 (SqL.of (s0' _ _ hN)) xn ?_
  left
  refine qb3 (SqL.of (s0' _ _ hE.top)) xl ?_
  left
  refine qb3 (SqL.of (s0' _ _ elk)) xe ?_
  left
  refine qb3 (SqL.of (s0' _ _ hN)) xn2 ?_
  left
  refine qb3 (SqL.of eD') xp ?_
  left
  refine qb3 (SqL.of (s0' _ _ hC)) xc ?_
  left
  refine⟨lw,csA cs (1+i),P.ws,csD cs (1+i),rfl,SqL.of (s0' _ _ hW),SqL.of (s0' _ _ h9k),h9kl.symm,by omega,fun h2 H4 s4 hh2 e2=>?_⟩
  have e1:=s4 _ _ (sm _ _ (hT tp tp2).1)
  left
  refine⟨x,tp.a,h2,S',nmF P (1+i),.str (nmF P (elN P.es (1+i))),tp.k,tdK (P.ws.zip (csD cs (1+i))),tp.f,tdF (P.ws.zip (csD cs (1+i))),1,rfl,hT'.same s4,gzk,nk,.inl ⟨_,rfl⟩,fun hn=>?_,fun e3 he3=>?_⟩
  .rw [show who S' (.str (nmF P (elN P.es (1+i))))=some e' from ae] at hn;cases hn
  .have e33:e'=e3:=uX (ae.symm.trans he3)
   subst e33
   refine⟨hWf,hOw,hw50,e1,tp4,lp1,e2,td_ad _,tcL _ kn,fin_perm tp5 hI'.wp,fin_perm (tcF _ kn) hI'.wp,by decide,by decide,h40,by rw [<-tp3];exact line,fun y=>by rw [<-tp3];exact ole y,fun e4 H5 sb f1 f2 f3 hT5 n1 n2 n3 n4 n5=>?_⟩
   left
   refine⟨_,{S' with hl:=S'.hl++ [e4]},rfl,hs1,hT5,(hI'.next pf (by omega) kn n1 (by rw [n2,een]) n3 (by rw [tp3];exact n4) (by rw [tcE _ kn];exact n5)).cast fun j hj=>?_,fun b u e=>sb b u (qa7 e hs1) ((sm.trans s4) b u e)⟩
   split <;> rfl
 rintro σ H' ⟨w,S',rfl,hs1,hT',hI',sm⟩
 left
 exact q x S' P _ H' (s02.trans sm) rfl rfl rfl etc pf hT' (by rw [show P.nm.length=1+(P.nm.length - 1) by omega];exact hI')
noncomputable def tuO (n r:Int):Option Int:=if n%2=0 then none else some (1+r)
noncomputable def wdy (K:uR) (d:Ad):Sp:=fun vs H Q _=>∃(wt ln lw le lr la lc:Addr) (P:PL) (Rs:List Rw),vs=[.ref wt]/\H wt=some (.tup [.ref ln,.ref lw,.ref le,.ref lr,.ref la,.ref lc])/\H lr=some (.lst (rwV Rs))/\H ln=some (.lst (P.nm.map V.str))/\H lw=some (.lst (P.ws.map V.str))/\P.ws.length<=6/\Rs.length<=30/\(∀R∈Rs,RwAt H P.nm.length P.ws.length R)/\
 ∀(l:Addr) (bs:List Ob) (H':Hp),qar H H'->H' l=some (.lst (bsV bs))->bs.map (·.R)=Rs.map (qfh P.ws)->(∀b∈bs,ObAt d H' P b)->(∀b∈bs,b.t=tuO b.R.n b.R.r)->Q (.ref l) H'
include T in
theorem wdo:FnOk P w K mg base CX0 3 d.w8m d.w6t ["_law_world_here"] (wdy K d):=by
 refine T.wba.ok w0d (fun vs H Q E h=>?_) (fun cdv A outer s H vs Q E hr h=>?_)
 .obtain⟨wt,ln,lw,le,lr,la,lc,P,Rs,rfl,_⟩:=h;rfl
 obtain⟨wt,ln,lw,le,lr,la,lc,P,Rs,rfl,hwt,hL,hN,hW,w3,h9,hR,q⟩:=h
 refine⟨_,(qa1 (qej (pv 0) (qd7 rfl (qad (qac (i:=1) w0d.nd rfl (uJ rfl)) (qad (qac (i:=2) w0d.nd rfl (uJ rfl)) (qad (qac (i:=3) w0d.nd rfl (uJ rfl)) (qad (qac (i:=4) w0d.nd rfl (uJ rfl)) (qad (qac (i:=5) w0d.nd rfl (uJ rfl)) (qad (qac (i:=6) w0d.nd rfl (uJ rfl)) qca))))))))
  (qa1 (qag (i:=7) w0d.nd rfl (uJ rfl) (qc0 qa2))
  (qa1 (qb7 uY rfl (qau (pv 4)) (qd7 rfl (qad (qac (i:=8) w0d.nd rfl (uJ rfl)) (qad (qac (i:=9) w0d.nd rfl (uJ rfl)) (qad (qac (i:=10) w0d.nd rfl (uJ rfl)) (qad (qac (i:=11) w0d.nd rfl (uJ rfl)) (qad (qac (i:=12) w0d.nd rfl (uJ rfl)) qca)))))) (qa1 (qag (i:=13) w0d.nd rfl (uJ rfl) (qaj qal (qc0 (qa0 qcy (qa0 (qao qb2 qa4 (pv 11)) qa2))) (qao qcc (pv 8) qa4) (fun _ _=>rfl)))
  (qa5 (qe0 (qbh (qb6 (pv 12)) (qa5 (qba (qdb uZ vM vN qbe (pv 7) (qa0 (pe_make T.w8q ((w79 T).mono (by decide)) hr rfl T.whs T.w8d .nil qak (qa0 (pv 8) (qa0 (qaj qal (pv 1) (pv 9) (fun _ _=>rfl)) (qa0 (qa8 ((w5t T).mono (by decide)) hr rfl T.w83 T.w7c.kp T.w8r .nil qak (qa0 (pv 2) (qa0 (pv 10) qa2))) (qa0 (pv 11) (qa0 (pv 13) qa2)))))) qa2)))) (qa5 (qba (qdb uZ vM vN qbe (pv 7) (qa0 (pe_make T.w87 ((w79 T).mono (by decide)) hr rfl T.wht T.w8d .nil qak (qa0 (pv 8) (qa0 (qaj qal (pv 1) (pv 9) (fun _ _=>rfl)) (qa0 (qa8 ((w5t T).mono (by decide)) hr rfl T.w83 T.w7c.kp T.w8r .nil qak (qa0 (pv 2) (qa0 (pv 10) qa2))) (qa0 (pv 11) (qa0 (pv 13) qa2)))))) qa2)))))))))
  (qa5 (qai (pv 7)))))),?_⟩
 walk_at "d"
 refine qah (σ:=[some (.ref wt),none,none,none,none,none,none,none,none,none,none,none,none,none]) rfl ?_
 left
 rename_i l hl
 have s1:=qa9 hl (.lst [])
 have hL1:=s1 _ _ hL
 left
 refine qcz (xs:=rwV Rs) (fun i σ H'=>∃(bs:List Ob) (w1 w2 w3 w4 w5 w6:Option V),σ=[some (V.ref wt),some (V.ref ln),some (V.ref lw),some (V.ref le),some (V.ref lr),some (V.ref la),some (V.ref lc),some (V.ref l),w1,w2,w3,w4,w5,w6]/\qar H H'/\H' l=some (.lst (bsV bs))/\bs.map (·.R)=(Rs.take i).map (qfh P.ws)/\(∀b∈bs,ObAt d H' P b)/\∀b∈bs,b.t=tuO b.R.n b.R.r)
  ⟨[],_,_,_,_,_,_,rfl,s1,qa3,rfl,fun b h=>by simp at h,fun b h=>by simp at h⟩ ?_ ?_ ?_
 .rintro i σ H' hi ⟨bs,w1,w2,w3,w4,w5,w6,rfl,sm,el,hbs,hB,hU⟩
  exact SqL.of (sm _ _ hL)
 .rintro i x σ H' hx ⟨bs,w1,w2,w3,w4,w5,w6,rfl,sm,el,hbs,hB,hU⟩
  unfold rwV at hx
  rw [zC] at hx
  obtain⟨R,hr,rfl⟩:=uU.mp hx
  have tk:Rs.take (i+1)=Rs.take i++ [R]:=by rw [zL,hr];rfl
  have hi9:i < Rs.length:=(uH.mp hr).1
  have hRi:=(hR R (zF hr)).same sm
  have hrow:=hRi.row
  have hbl:bs.length<=30:=by have:=congrArg wP hbs;rw [zB,zB,zW] at this;omega
  have xn:atI (P.nm.map V.str) ((R.i:Nat):Int)=some (.str (nmF P R.i)):=by rw [qd9 hRi.il];exact qax (by rw [zC,zA hRi.il];rfl)
  generalize hri:((R.i:Nat):Int)=ri at*
  clear hx
  left
  rename_i pm hpm
  have m0:=wA R.n (show (2:Int)≠0 by decide)
  have m1:=vZ R.n (show (0:Int) < 2 by decide)
  have hturn:∃t:Option Int,atI [V.non,V.int (1+R.r)] (R.n%2)=some (tV t)/\t=tuO R.n R.r:=by
   have hc:R.n%2=0\/R.n%2=1:=by omega
   rcases hc with c|c
   .exact⟨none,by rw [c];exact qax (j:=0) rfl,by unfold tuO;rw [gT c]⟩
   .exact⟨some (1+R.r),by rw [c];exact qax (j:=1) rfl,by unfold tuO;rw [gS (by omega)]⟩
  obtain⟨t,ht,htu⟩:=hturn
  refine qb3 (SqL.of qa3) ht ?_
  have s2:=qa9 hpm (.lst [V.non,V.int (1+R.r)])
  generalize upd H' pm (.lst [V.non,V.int (1+R.r)])=H1 at*
  clear m0 m1 ht hrow
  have hN1:=s2 _ _ (sm _ _ hN)
  have hW1:=s2 _ _ (sm _ _ hW)
  have hP1:=s2 _ _ hRi.par
  have el1:=s2 _ _ el
  have hB1:∀b∈bs,ObAt d H1 P b:=fun b hb=>(hB b hb).same s2
  have zl:(bsV bs).length < sizeLine:=by unfold bsV;rw [zB];show _ < 16777216;omega
  have fin:∀(x dx a m:Addr) (H2 H3:Hp),qar H1 H2->H2 x=none->H2 dx=none->H2 a=some (.dK (tdK (P.ws.zip R.ps)))->upd (upd H2 dx (.own x)) x (.ins (qgg d R.s) dx []) m=none->H3 x=some (.ins (qgg d R.s) dx (fsB R.n (nmF P R.i) m R.r t))->H3 m=some (.dK (tdK (P.ws.zip R.ps)))->SameBut x (upd (upd H2 dx (.own x)) x (.ins (qgg d R.s) dx [])) H3->
    qar H1 H3/\H3 l=some (.lst (bsV bs))/\∃bs':List Ob,bsV bs'=bsV bs++ [.ref x]/\bs'.map (·.R)=(Rs.take (i+1)).map (qfh P.ws)/\(∀b∈bs',ObAt d (upd H3 l (.lst (bsV bs++ [.ref x]))) P b)/\∀b∈bs',b.t=tuO b.R.n b.R.r:=fun x dx a m H2 H3 s3 hx hdx ha hm ex em sb=>by
   have nmx:m≠x:=fun z=>by subst z;rw [qa3] at hm;cases hm
   rw [qa6 nmx] at hm
   have s13:qar H1 H3:=fun b o hb=>by
    have hb2:=s3 _ _ hb
    exact sb b o (qa7 hb2 hx) (by rw [qa6 (qa7 hb2 hx),qa6 (qa7 hb2 hdx)];exact hb2)
   have el3:=s13 _ _ el1
   refine⟨s13,el3,bs++ [⟨qfh P.ws R,x,m,t⟩],by unfold bsV;rw [zD];rfl,by rw [zD,hbs,tk,zD];rfl,fun b hb=>?_,fun b hb=>?_⟩
   rotate_left
   .rcases zT.mp hb with h|h
    .exact hU b h
    .rw [zH.mp h];exact htu
   have nel:∀y:Ob,ObAt d H3 P y->y.o≠l/\y.m≠l:=fun y hy=>by
    refine⟨fun z=>?_,fun z=>?_⟩
    .obtain⟨dx,e⟩:=hy.obj
     rw [z,el3] at e;cases e
    .have e:=hy.amt
     rw [z,el3] at e;cases e
   rcases zT.mp hb with h|h
   .have h1:=(hB1 b h).same s13
    exact h1.put (nel b h1).1 (nel b h1).2
   .have:b=⟨qfh P.ws R,x,m,t⟩:=by simpa using h
    subst this
    have h1:ObAt d H3 P ⟨qfh P.ws R,x,m,t⟩:=⟨⟨dx,ex⟩,em,td_ad _,tdF_in hRi.len.symm,hRi.il⟩
    exact h1.put (nel _ h1).1 (nel _ h1).2
  left
  refine r_cut0 ?_
  left
  refine i_b2 (fun hs=>?_) (fun hs=>?_)
  .have ec:qgg d R.s=d.w0u:=by rw [hs];rfl
   left
   refine qb3 (SqL.of hN1) xn ?_
   left
   refine⟨lw,R.e,P.ws,R.ps,rfl,SqL.of hW1,SqL.of hP1,hRi.len.symm,by omega,fun a H2 s3 ha ea=>?_⟩
   left
   intro x dx hx hdx ne
   refine⟨x,dx,a,R.s,R.n,nmF P R.i,tdK (P.ws.zip R.ps),R.r,t,rfl,by rw [ec];exact qa3,by rw [qa6 (qa7 ea hx),qa6 (qa7 ea hdx)];exact ea,fun m H3 hm ex em sb=>⟨rfl,?_⟩⟩
   rw [<-ec] at hm sb
   obtain⟨s13,el3,bs',e1,e2,e3,e4⟩:=fin x dx a m H2 H3 s3 hx hdx ea hm ex em sb
   left
   exact⟨bs',_,_,_,_,_,_,rfl,qav ((sm.trans s2).trans s13) hl,by rw [qa3,e1],e2,e3,e4⟩
  .have ec:qgg d R.s=d.w0n:=by rw [hs];rfl
   left
   refine qb3 (SqL.of hN1) xn ?_
   left
   refine⟨lw,R.e,P.ws,R.ps,rfl,SqL.of hW1,SqL.of hP1,hRi.len.symm,by omega,fun a H2 s3 ha ea=>?_⟩
   left
   intro x dx hx hdx ne
   refine⟨x,dx,a,R.s,R.n,nmF P R.i,tdK (P.ws.zip R.ps),R.r,t,rfl,by rw [ec];exact qa3,by rw [qa6 (qa7 ea hx),qa6 (qa7 ea hdx)];exact ea,fun m H3 hm ex em sb=>⟨rfl,?_⟩⟩
   rw [<-ec] at hm sb
   obtain⟨s13,el3,bs',e1,e2,e3,e4⟩:=fin x dx a m H2 H3 s3 hx hdx ea hm ex em sb
   left
   exact⟨bs',_,_,_,_,_,_,rfl,qav ((sm.trans s2).trans s13) hl,by rw [qa3,e1],e2,e3,e4⟩
 .rintro σ H' ⟨bs,w1,w2,w3,w4,w5,w6,rfl,sm,el,hbs,hB,hU⟩
  left
  rw [show Rs.take (rwV Rs).length=Rs by unfold rwV;rw [zB,zP]] at hbs
  exact q l bs H' sm el hbs hB hU
noncomputable def qc4 (r:Int) (su:Bool) (R:Rw):Bool:=!R.s && (su || decide (R.r < r))
noncomputable def wha (K:uR) (d:Ad):Sp:=fun vs H Q _=>∃(la:Addr) (nh kd:Nat) (R:Rw) (h:Int) (pa:Addr) (r:Int) (su:Bool),vs=[.ref R.p,.ref la]/\RwAt H nh kd R/\H la=some (.tup [.int h,.ref pa,.int r,.bl su])/\Q (.bl (qc4 r su R)) H
include T in
theorem w6v:FnOk P w K mg base CX0 1 d.weq d.wd2 ["_law_row","_law_ask"] (wha K d):=by
 refine T.w8i.ok wgy (fun vs H Q E h=>?_) (fun cdv A outer s H vs Q E hr h=>?_)
 .obtain⟨la,nh,kd,R,h,pa,r,su,rfl,_⟩:=h;rfl
 obtain⟨la,nh,kd,R,h,pa,r,su,rfl,hR,hla,q⟩:=h
 refine⟨_,(qa5 (qai (qe3 (pe_not (qaj qan (pv 0) qa4 (fun _ _=>rfl))) (qdi (pe_or (qaj qan (pv 1) qa4 (fun _ _=>rfl)) (qdi (qbm op_lt (qaj qan (pv 0) qa4 (fun _ _=>rfl)) (qaj qan (pv 1) qa4 (fun _ _=>rfl)) (qas _)))))))),?_⟩
 walk_at "d"
 refine qah (σ:=[some (.ref R.p),some (.ref la)]) rfl ?_
 have hrow:=hR.row
 generalize hri:((R.i:Nat):Int)=ri at*
 unfold qc4 at q
 cases c1:R.s with
 |true=>
  rw [c1] at hrow q
  left
  exact q
 |false=>
  rw [c1] at hrow q
  cases c2:su with
  |true=>
   rw [c2] at hla q
   left
   exact q
  |false=>
   rw [c2] at hla q
   left
   exact q
noncomputable def psN (R:Rw) (j:Nat):Int:=(R.ps[j]?).getD 0
noncomputable def qcj (el:Nat->Nat) (Rs:List Rw) (a j:Nat):Int:=((Rs.filter fun R=>decide (a∈qab el R.i)).map fun R=>psN R j).sum
noncomputable def whn (K:uR) (d:Ad):Sp:=fun vs H Q _=>∃(lr le:Addr) (las:List Addr) (Rs:List Rw) (es:List Nat) (nh kd a j:Nat),vs=[.ref lr,.ref le,.int (a:Int),.int (j:Int)]/\H lr=some (.lst (rwV Rs))/\Rs.length<=30/\(∀R∈Rs,RwAt H nh kd R)/\LnsAt H le las es/\nh=es.length+1/\j < kd/\
 ∀H',qar H H'->Q (.int (qcj (elN es) Rs a j)) H'
include T in
theorem wbp:FnOk P w K mg base CX0 3 d.whd d.wfg ["_law_rows_here","_law_lines_here","_law_at","_law_j"] (whn K d):=by
 refine T.wdx.ok whp (fun vs H Q E h=>?_) (fun cdv A outer s H vs Q E hr h=>?_)
 .obtain⟨lr,le,las,Rs,es,nh,kd,a,j,rfl,_⟩:=h;rfl
 obtain⟨lr,le,las,Rs,es,nh,kd,a,j,rfl,hL,h9,hR,hE,en,jk,q⟩:=h
 refine⟨_,(qa5 (qai (qaf (call_sumL rfl) rfl T.whv PyProof.Rows.boot_sum (qa0 (qbp (caps:=[1,2,3]) (cn:=["_law_lines_here","_law_at","_law_j"]) (qb1 rfl rfl (by rfl) (by rfl) rfl ⟨rfl,⟨rfl,⟨rfl,trivial⟩⟩⟩ (by rfl) rfl ⟨⟨rfl,rfl,rfl,rfl,_,rfl⟩,⟨⟨rfl,rfl,rfl,rfl,_,rfl⟩,⟨⟨rfl,rfl,rfl,rfl,_,rfl⟩,trivial⟩⟩⟩ (by decide)) rfl (qau (pv 0)) (fun _ _ _ _=>(qck (qam qbv (pv 2) (qaj qal (pv 1) (qaj qan (pv 0) qa4 (fun _ _=>rfl)) (fun _ _=>rfl)) (by rfl)))) (fun _ _ _ _=>(qaj qal (qaj qan (pv 0) qa4 (fun _ _=>rfl)) (pv 3) (fun _ _=>rfl)))) qa2)))),?_⟩
 walk_at "d"
 try dsimp only [cxC]
 refine qah (σ:=[some (.ref lr),some (.ref le),some (.int (a:Int)),some (.int (j:Int))]) rfl ?_
 have xj:∀(R:Rw),R.ps.length=kd->atI (R.ps.map V.int) ((j:Nat):Int)=some (.int (psN R j)):=fun R hl=>qax (by unfold psN;rw [zC,zA (by omega)];rfl)
 generalize hai:((a:Nat):Int)=ai
 generalize hji:((j:Nat):Int)=ji at*
 left
 intro C s0 H0 fp acc hacc
 refine qel Rs.length (fun i H'=>qar H H'/\H' acc=some (.lst ((((Rs.take i).filter fun R=>decide (a∈qab (elN es) R.i)).map fun R=>psN R j).map V.int))) ⟨qa9 hacc _,qa3⟩ ?_ ?_ ?_ ?_
 .rintro i H' hi ⟨sm,_⟩
  exact⟨_,.ref Rs[i].p,SqL.of (sm _ _ hL),by unfold rwV;rw [zC,zA hi];rfl⟩
 .rintro H' ⟨sm,_⟩
  exact⟨_,SqL.of (sm _ _ hL),by unfold rwV;rw [zB];exact uG _⟩
 .rintro i H' v H'' hi ⟨sm,ea⟩ ⟨rfl,hv⟩
  have hv:=hv _ (SqL.of (sm _ _ hL))
  unfold rwV at hv
  rw [zC,zA hi] at hv
  cases hv
  have tk:Rs.take (i+1)=Rs.take i++ [Rs[i]]:=by rw [zL,zA hi];rfl
  have hRi:=(hR _ (zM hi)).same sm
  generalize Rs[i]=R at*
  have hrow:=hRi.row
  have ril:=hRi.il
  obtain⟨x,_,ax,ex⟩:=(hE.same sm).at (k:=R.i) (by omega)
  have etop:=(hE.same sm).top
  have hpar:=hRi.par
  generalize hri:((R.i:Nat):Int)=ri at*
  have zl:((((Rs.take i).filter fun R=>decide (a∈qab (elN es) R.i)).map fun R=>psN R j).map V.int).length < sizeLine:=by
   rw [zB,zB]
   have h1:=zN (fun R:Rw=>decide (a∈qab (elN es) R.i)) (Rs.take i)
   rw [zW] at h1
   show _ < 16777216
   omega
  left
  refine qb3 (SqL.of etop) ax ?_
  left
  refine r_inN (SqL.of ex) hai ?_
  by_cases c:a∈qab (elN es) R.i
  .rw [gU c]
   left
   refine qb3 (SqL.of hpar) (xj R hRi.len) ?_
   left
   refine⟨qav sm hacc,?_⟩
   rw [qa3,tk,zQ,zJ,gT (gU c),zD,zD];rfl
  .rw [gW c]
   left
   refine⟨sm,?_⟩
   rw [ea,tk,zQ,zJ,gS (by rw [gW c];decide),yK,yA]
 rintro H1 ⟨sm,ea⟩
 rw [zP] at ea
 left
 refine r_sumL (SqL.of ea) ?_
 left
 exact q _ sm
theorem r_slL {K:uR} {H:Hp} {Q:VK} {a:Addr} {xs:List V} {lo hi:Option Int} (h:SqL K H a xs) (q:∀p,H p=none->Q (.ref p) (upd H p (.lst (cutV xs lo hi)))):rSlL K (.ref a) lo hi H Q:=⟨a,xs,rfl,h,q⟩
theorem psN_bd {R:Rw} {j:Nat} (h:∀p∈R.ps,PpOk p):0<=psN R j/\psN R j<=6*10^27:=by
 unfold psN
 cases e:R.ps[j]? with
 |none=>exact⟨vX _,by decide⟩
 |some x=>have:=h x (zF e);exact⟨this.lo,this.hi⟩
theorem sumRs_bd {el:Nat->Nat} {a j:Nat}:∀{Rs:List Rw},(∀R∈Rs,∀p∈R.ps,PpOk p)->0<=qcj el Rs a j/\qcj el Rs a j<=((Rs.length:Nat):Int)*(6*10^27)
 | [],_=>⟨vX _,by show (0:Int)<=0*(6*10^27);decide⟩
 |R :: Rs,h=>by
  have ih:=sumRs_bd (el:=el) (a:=a) (j:=j) (Rs:=Rs) fun x hx=>h x (zE _ hx)
  have hb:=psN_bd (j:=j) (h R (zG ..))
  unfold qcj at ih ⊢
  rw [zJ,zZ]
  by_cases c:decide (a∈qab el R.i)=true
  .rw [gT c,zS,yT]
   omega
  .rw [gS c]
   omega
theorem cut0 {Rs:List Rw} {r:Int} (h0:0<=r):cutV (rwV Rs) none (some r)=rwV (Rs.take r.toNat):=by
 obtain⟨n,rfl⟩:=wK h0
 unfold cutV
 rw [HT.sIx_none,HT.sIx_nat,List.drop_zero,Nat.sub_zero,xE]
 unfold rwV
 rw [<-List.map_take,zB]
 congr 1
 by_cases c:n<=Rs.length
 .rw [Nat.min_eq_left c]
 .rw [Nat.min_eq_right (by omega),zP,List.take_of_length_le (by omega)]
structure CpB (x:Int):Prop where
 lo:0<=x
 hi:x<=10^30
structure IxB (x:Int):Prop where
 lo:0<=x
 hi:x<=6
structure SmB (x:Int):Prop where
 lo:0<=x
 hi:x<=2*10^29
theorem sum_smb {el:Nat->Nat} {a j:Nat} {Rs:List Rw} (h:∀R∈Rs,∀p∈R.ps,PpOk p) (l:Rs.length<=30):SmB (qcj el Rs a j):=by
 have:=sumRs_bd (el:=el) (a:=a) (j:=j) h
 exact⟨this.1,by omega⟩
structure LwB (x:Int):Prop where
 lo:0<=x
 hi:x<=3*10^29
theorem lw_of {x p:Int} {b:Bool} (h:SmB x) (hp:PpOk p):LwB (x+p*if b=true then 1 else 0):=by
 have h1:=h.lo
 have h2:=h.hi
 have p1:=hp.lo
 have p2:=hp.hi
 cases b with
 |true=>rw [gT rfl,Int.mul_one];exact⟨by omega,by omega⟩
 |false=>rw [gS uE,Int.mul_zero];exact⟨by omega,by omega⟩
theorem cp_of {x y z v:Int} (h:LwB x) (hy:SmB y) (hz:z∈ [0,0,1,0 - if decide (0 < y)=true then 1 else 0]) (hv:v∈ [x+y+z,if x - 1 > 0 then x - 1 else 0]):CpB v:=by
 have h1:=h.lo
 have h2:=h.hi
 have y1:=hy.lo
 have y2:=hy.hi
 have hz:z=0\/z=1\/z=0 - (if decide (0 < y)=true then 1 else 0):=by
  simp only [zR,yI,or_false] at hz
  omega
 have hv:v=x+y+z\/v=if x - 1 > 0 then x - 1 else 0:=by
  simp only [zR,yI,or_false] at hv
  exact hv
 have zb:0<=y+z/\z<=1:=by
  rcases hz with e|e|e
  .omega
  .omega
  .rw [e]
   by_cases c:0 < y
   .rw [gU c,gT rfl];omega
   .rw [gW c,gS uE];omega
 rcases hv with e|e
 .exact⟨by omega,by omega⟩
 .rw [e];split
  .exact⟨by omega,by omega⟩
  .exact⟨by omega,by omega⟩
noncomputable def whc (K:uR) (d:Ad):Sp:=fun vs H Q _=>∃(a:Addr) (ns:List Int) (lr le la pa:Addr) (las:List Addr) (Rs:List Rw) (es:List Nat) (kd h:Nat) (aps:List Int) (rk:Int) (su:Bool),vs=[.ref a,.ref lr,.ref le,.ref la]/\SqL K H a (ns.map V.int)/\ns.length<=63/\H lr=some (.lst (rwV Rs))/\Rs.length<=30/\(∀R∈Rs,RwAt H (es.length+1) kd R)/\LnsAt H le las es/\es.length<=5/\1<=kd/\kd<=6/\h < es.length+1/\H la=some (.tup [.int (h:Int),.ref pa,.int rk,.bl su])/\H pa=some (.lst (aps.map V.int))/\aps.length=kd/\(∀p∈aps,PpOk p)/\
 ∀(lc:Addr) (cs:List Pq) (H':Hp),qar H H'->H' lc=some (.lst (qsV cs))->cs.length=es.length+1->qgm H' kd cs->Q (.ref lc) H'
include T in
theorem wgp:FnOk P w K mg base CX0 4 d.weo d.wce ["_law_script","_law_rows_here","_law_lines_here","_law_ask"] (whc K d):=by
 refine T.wg6.ok w2a (fun vs H Q E h=>?_) (fun cdv A outer s H vs Q E hr h=>?_)
 .obtain⟨a,ns,lr,le,la,pa,las,Rs,es,kd,h,aps,rk,su,rfl,_⟩:=h;rfl
 obtain⟨a,ns,lr,le,la,pa,las,Rs,es,kd,h,aps,rk,su,rfl,hSa,h63,hL,r30,hR,hE,e5,k1,k3,hh,hla,hpa,apl,apn,q⟩:=h
 refine⟨_,(qa1 (qag (i:=4) w2a.nd rfl (uJ rfl) (qa8 ((w20 T).mono (by decide)) hr rfl T.w3k T.w33.kp T.w3l .nil qak (qa0 (pv 0) (qa0 qa4 qa2))))
  (qa1 (qcs (j:=5) (caps:=[3]) (cn:=["_law_ask"]) (qb1 rfl rfl (by rfl) (by rfl) rfl ⟨rfl,trivial⟩ (by rfl) rfl ⟨⟨rfl,rfl,rfl,rfl,_,rfl⟩,trivial⟩ (by decide)) rfl w2a.nd rfl rfl (qau (pv 1)) (fun _ _ _ _=>(qck (qbj (qb6 (qa8 ((w6v T).mono (by decide)) hr rfl T.w9h T.w8i.kp T.w9f .nil qak (qa0 (pv 0) (qa0 (pv 1) qa2))))))) (fun _ _ _ _=>(pv 0)))
  (qa1 (qcs (j:=6) (caps:=[3]) (cn:=["_law_ask"]) (qb1 rfl rfl (by rfl) (by rfl) rfl ⟨rfl,trivial⟩ (by rfl) rfl ⟨⟨rfl,rfl,rfl,rfl,_,rfl⟩,trivial⟩ (by decide)) rfl w2a.nd rfl rfl (qau (pv 1)) (fun _ _ _ _=>(qck (qb6 (qa8 ((w6v T).mono (by decide)) hr rfl T.w9h T.w8i.kp T.w9f .nil qak (qa0 (pv 0) (qa0 (pv 1) qa2)))))) (fun _ _ _ _=>(pv 0)))
  (qa1 (qag (i:=7) w2a.nd rfl (uJ rfl) qa4)
  (qa1 (qe0 (qbh (qam qen (qa8 ((w1a T).mono (by decide)) hr rfl T.w38 T.w2w.kp T.w32 .nil qak (qa0 (pv 4) (qa0 qa4 (qa0 qa4 qa2)))) qa4 (qas _)) (qa5 (qag (i:=7) w2a.nd rfl (uJ rfl) (qaj qal (qaj qal (pv 2) (qaj qan (pv 3) qa4 (fun _ _=>rfl)) (fun _ _=>rfl)) (qa8 ((w1a T).mono (by decide)) hr rfl T.w38 T.w2w.kp T.w32 .nil qak (qa0 (pv 4) (qa0 qa4 (qa0 (qaf qay rfl T.w2t vH (qa0 (qaj qal (pv 2) (qaj qan (pv 3) qa4 (fun _ _=>rfl)) (fun _ _=>rfl)) qa2)) qa2)))) (fun _ _=>rfl)))) qaq))
  (qa1 (qag (i:=8) w2a.nd rfl (uJ rfl) (qc0 qa2))
  (qa1 (qb7 uY rfl (qc1 rfl T.w34 (qa0 (qaf qay rfl T.w2t vH (qa0 (pv 2) qa2)) qa2)) (qac (i:=9) w2a.nd rfl (uJ rfl)) (qa1 (qag (i:=10) w2a.nd rfl (uJ rfl) (qc0 qa2))
  (qa1 (qb7 uY rfl (qc1 rfl T.w34 (qa0 (qaf qay rfl T.w2t vH (qa0 (qaj qan (pv 3) qa4 (fun _ _=>rfl)) qa2)) qa2)) (qac (i:=11) w2a.nd rfl (uJ rfl)) (qa1 (qag (i:=12) w2a.nd rfl (uJ rfl) (qao qb2 (qa8 ((wbp T).mono (by decide)) hr rfl T.wfb T.wdx.kp T.wf9 .nil qak (qa0 (pv 5) (qa0 (pv 2) (qa0 (pv 9) (qa0 (pv 11) qa2))))) (qao qby (qaj qal (qaj qan (pv 3) qa4 (fun _ _=>rfl)) (pv 11) (fun _ _=>rfl)) (qbq qe7 rfl T.wdv wY (qa0 (qbm qbv (pv 9) (qaj qal (pv 2) (qaj qan (pv 3) qa4 (fun _ _=>rfl)) (fun _ _=>rfl)) (by rfl)) qa2)))))
  (qa1 (qag (i:=13) w2a.nd rfl (uJ rfl) (qa8 ((wbp T).mono (by decide)) hr rfl T.wfb T.wdx.kp T.wf9 .nil qak (qa0 (pe_slice sl_list (pv 6) po_none (po_some (qa8 ((w1a T).mono (by decide)) hr rfl T.w38 T.w2w.kp T.w32 .nil qak (qa0 (pv 4) (qa0 (qao qb2 (qao qb2 qa4 (qao qby qa4 (pv 9))) (pv 11)) (qa0 (qao qb2 (qaf qay rfl T.w2t vH (qa0 (pv 6) qa2)) qa4) qa2)))))) (qa0 (pv 2) (qa0 (pv 9) (qa0 (pv 11) qa2))))))
  (qa1 (qag (i:=14) w2a.nd rfl (uJ rfl) (qaj qal (qc0 (qa0 qa4 (qa0 qa4 (qa0 qa4 (qa0 (qao qek qa4 (qbq qe7 rfl T.wdv wY (qa0 (qbm qe4 (pv 13) qa4 (qas _)) qa2))) qa2))))) (qa8 ((w1a T).mono (by decide)) hr rfl T.w38 T.w2w.kp T.w32 .nil qak (qa0 (pv 4) (qa0 (qao qb2 (qao qb2 qa4 (qao qby qa4 (pv 9))) (pv 11)) (qa0 qa4 qa2)))) (fun _ _=>rfl)))
  (qa5 (qba (qdb uZ vM vN qbe (pv 10) (qa0 (qaj qal (qc0 (qa0 (qao qb2 (qao qb2 (pv 12) (pv 13)) (pv 14)) (qa0 (qaf (call_maxR rfl) rfl T.wh5 eP (qa0 qa4 (qa0 (qao qek (pv 12) qa4) qa2))) qa2))) (qbq qe7 rfl T.wdv wY (qa0 (qbm qen (pv 9) (pv 7) (qas _)) qa2)) (fun _ _=>rfl)) qa2))))))))
  (qa5 (qba (qdb uZ vM vN qbe (pv 8) (qa0 (pv 10) qa2)))))))
  (qa5 (qai (pv 8)))))))))),?_⟩
 walk_at "d"
 try dsimp only [cxC]
 refine qah (σ:=[some (.ref a),some (.ref lr),some (.ref le),some (.ref la),none,none,none,none,none,none,none,none,none,none,none]) rfl ?_
 left
 refine⟨a,ns,7,rfl,hSa,by decide,by decide,h63,fun H sc=>?_⟩
 have hL:=sc _ _ hL
 have hR:=fun R hr=>(hR R hr).same sc
 have hE:=hE.same sc
 have hla:=sc _ _ hla
 have hpa:=sc _ _ hpa
 have q:=fun lc cs H' (s:qar H H')=>q lc cs H' (sc.trans s)
 generalize qbz ns 7=c
 clear hSa sc
 have hLH:=hL
 have hRH:=hR
 have hlaH:=hla
 left
 intro C s0 H0 fp ls hls
 refine qel Rs.length (fun i H'=>H'=upd H ls (.lst (rwV ((Rs.take i).filter fun R=>!qc4 rk su R)))) rfl ?_ ?_ ?_ ?_
 .rintro i H' hi rfl
  exact⟨_,.ref Rs[i].p,SqL.of (qae hLH hls),by unfold rwV;rw [zC,zA hi];rfl⟩
 .rintro H' rfl
  exact⟨_,SqL.of (qae hLH hls),by unfold rwV;rw [zB];exact uG _⟩
 .rintro i H' v H'' hi rfl ⟨rfl,hv⟩
  have hv:=hv _ (SqL.of (qae hLH hls))
  unfold rwV at hv
  rw [zC,zA hi] at hv
  cases hv
  have tk:Rs.take (i+1)=Rs.take i++ [Rs[i]]:=by rw [zL,zA hi];rfl
  have hRi:=(hRH _ (zM hi)).same (qa9 hls (.lst (rwV ((Rs.take i).filter fun R=>!qc4 rk su R))))
  generalize Rs[i]=R at*
  have hla':=qae (o':=.lst (rwV ((Rs.take i).filter fun R=>!qc4 rk su R))) hlaH hls
  have zl:(rwV ((Rs.take i).filter fun R=>!qc4 rk su R)).length < sizeLine:=by
   unfold rwV
   rw [zB]
   have h1:=zN (fun R:Rw=>!qc4 rk su R) (Rs.take i)
   rw [zW] at h1
   show _ < 16777216
   omega
  left
  refine⟨la,_,kd,R,_,pa,rk,su,rfl,hRi,hla',?_⟩
  cases c:qc4 rk su R with
  |true=>
   left
   rw [tk,zQ,zJ,gS (by rw [c];exact uE),yK,yA]
  |false=>
   left
   rw [qbn,tk,zQ,zJ,gT (by rw [c];try rfl)]
   unfold rwV
   rw [zD];rfl
 rintro H' rfl
 rw [zP]
 have s1:=qa9 hls (.lst (rwV (Rs.filter fun R=>!qc4 rk su R)))
 have els:upd H ls (.lst (rwV (Rs.filter fun R=>!qc4 rk su R))) ls=some (.lst (rwV (Rs.filter fun R=>!qc4 rk su R))):=qa3
 generalize upd H ls (.lst (rwV (Rs.filter fun R=>!qc4 rk su R)))=H1 at*
 have hLH1:=s1 _ _ hL
 have hRH1:=fun R hr=>(hR R hr).same s1
 have hlaH1:=s1 _ _ hla
 left
 intro C s0 H0 fp lg hlg
 refine qel Rs.length (fun i H'=>H'=upd H1 lg (.lst (rwV ((Rs.take i).filter fun R=>qc4 rk su R)))) rfl ?_ ?_ ?_ ?_
 .rintro i H' hi rfl
  exact⟨_,.ref Rs[i].p,SqL.of (qae hLH1 hlg),by unfold rwV;rw [zC,zA hi];rfl⟩
 .rintro H' rfl
  exact⟨_,SqL.of (qae hLH1 hlg),by unfold rwV;rw [zB];exact uG _⟩
 .rintro i H' v H'' hi rfl ⟨rfl,hv⟩
  have hv:=hv _ (SqL.of (qae hLH1 hlg))
  unfold rwV at hv
  rw [zC,zA hi] at hv
  cases hv
  have tk:Rs.take (i+1)=Rs.take i++ [Rs[i]]:=by rw [zL,zA hi];rfl
  have hRi:=(hRH1 _ (zM hi)).same (qa9 hlg (.lst (rwV ((Rs.take i).filter fun R=>qc4 rk su R))))
  generalize Rs[i]=R at*
  have hla':=qae (o':=.lst (rwV ((Rs.take i).filter fun R=>qc4 rk su R))) hlaH1 hlg
  have zl:(rwV ((Rs.take i).filter fun R=>qc4 rk su R)).length < sizeLine:=by
   unfold rwV
   rw [zB]
   have h1:=zN (fun R:Rw=>qc4 rk su R) (Rs.take i)
   rw [zW] at h1
   show _ < 16777216
   omega
  left
  refine⟨la,_,kd,R,_,pa,rk,su,rfl,hRi,hla',?_⟩
  cases c:qc4 rk su R with
  |true=>
   left
   rw [qbn,tk,zQ,zJ,gT (by rw [c];try rfl)]
   unfold rwV
   rw [zD];rfl
  |false=>
   left
   rw [tk,zQ,zJ,gS (by rw [c];exact uE),yK,yA]
 rintro H' rfl
 rw [zP]
 have s2:=qa9 hlg (.lst (rwV (Rs.filter fun R=>qc4 rk su R)))
 have elg:upd H1 lg (.lst (rwV (Rs.filter fun R=>qc4 rk su R))) lg=some (.lst (rwV (Rs.filter fun R=>qc4 rk su R))):=qa3
 have els2:=s2 _ _ els
 generalize upd H1 lg (.lst (rwV (Rs.filter fun R=>qc4 rk su R)))=H2 at*
 have t2:=s1.trans s2
 have hE2:=hE.same t2
 have hla2:=t2 _ _ hla
 have hpa2:=t2 _ _ hpa
 have hR2:∀R∈Rs,RwAt H2 (es.length+1) kd R:=fun R hr=>(hR R hr).same t2
 have f30:∀p:Rw->Bool,(Rs.filter p).length<=30:=fun p=>vP (zN ..) r30
 have fst:∀R∈Rs.filter (fun R=>!qc4 rk su R),R∈Rs:=fun R hr=>(zY.mp hr).1
 have fgo:∀R∈Rs.filter (fun R=>qc4 rk su R),R∈Rs:=fun R hr=>(zY.mp hr).1
 have fs30:=f30 fun R=>!qc4 rk su R
 have fg30:=f30 fun R=>qc4 rk su R
 generalize (Rs.filter fun R=>!qc4 rk su R)=Ss at*
 generalize (Rs.filter fun R=>qc4 rk su R)=Gs at*
 clear hLH hLH1 hRH hRH1 hlaH hlaH1 els hls hlg s1 s2 f30
 obtain⟨xh,_,axh,exh⟩:=hE2.at hh
 have etop2:=hE2.top
 have lh1:1<=(qab (elN es) h).length:=by have:=line_head (elN es) h;cases e:qab (elN es) h with|nil=>rw [e] at this;cases this|cons _ _=>show 1<=_+1;omega
 have lh2:=qc2 (qd4 (fun k e h=>(hE.lo k e h).1) (es.length+1)) h hh
 have lnm:(((qab (elN es) h).map iV).length:Int)=(((qab (elN es) h).length:Nat):Int):=by rw [zB]
 generalize hhi:((h:Nat):Int)=hi at*
 left
 refine r_cut (fun σ' H'=>H'=H2/\∃sh:Int,σ'=[some (V.ref a),some (V.ref lr),some (V.ref le),some (V.ref la),some (V.int c),some (V.ref ls),some (V.ref lg),some (V.int sh),none,none,none,none,none,none,none]) ?_ ?_
 .left
  refine qci (by decide) (by decide) (by decide) (by decide) fun r _ _=>?_
  left
  refine i_2 (fun c1=>?_) (fun c1=>?_)
  .left
   refine qb3 (SqL.of etop2) axh ?_
   left
   refine qb3 (SqL.of etop2) axh ?_
   left
   rw [lnm]
   refine qci (by decide) (by decide) (by omega) (by omega) fun r2 a0 a1=>?_
   refine r_menuV (SqL.of exh) a0 (by rw [zB];exact a1) fun m hm=>?_
   obtain⟨k,_,rfl⟩:=zI.mp hm
   left
   exact⟨rfl,_,rfl⟩
  .left
   exact⟨rfl,_,rfl⟩
 rintro σ' H' ⟨rfl,sh,rfl⟩
 clear lh1 lh2 lnm
 left
 rename_i lc hlc
 have s3:=qa9 hlc (.lst [])
 have elc:upd H' lc (.lst []) lc=some (.lst []):=qa3
 generalize upd H' lc (.lst [])=H3 at*
 have hln:(las.map V.ref).length=es.length+1:=by rw [zB,hE.len]
 have hrn:(((las.map V.ref).length:Nat):Int).toNat=es.length+1:=by rw [hln];omega
 left
 rw [hrn]
 refine qd2 (fun i σ Hx=>∃(cs:List Pq) (w9 w10 w11 w12 w13 w14:Option V),σ=[some (V.ref a),some (V.ref lr),some (V.ref le),some (V.ref la),some (V.int c),some (V.ref ls),some (V.ref lg),some (V.int sh),some (V.ref lc),w9,w10,w11,w12,w13,w14]/\qar H' Hx/\Hx lc=some (.lst (qsV cs))/\cs.length=i/\qgm Hx kd cs/\∀q∈cs,q.1≠lc) ⟨[],_,_,_,_,_,_,rfl,s3,elc,rfl,fun q hq=>by simp at hq,fun q hq=>by simp at hq⟩ ?_ ?_
 .rintro i σ Hx hi ⟨cs,w9,w10,w11,w12,w13,w14,rfl,sx,elx,hcl,hcs,ncs⟩
  rw [xW]
  have ki:((i:Nat):Int).natAbs < 2^600:=vT (show ((i:Nat):Int).natAbs<=12 by omega) (by decide)
  have ib:IxB ((i:Nat):Int):=⟨by omega,by omega⟩
  generalize hii:((i:Nat):Int)=ii at*
  have hpax:=sx _ _ hpa2
  have hlax:=sx _ _ hla2
  clear hln hrn
  have apn2:(((aps.map V.int).length:Nat):Int).toNat=kd:=by rw [zB,apl];omega
  left
  rename_i lp hlp
  have s4:=qa9 hlp (.lst [])
  have elp:upd Hx lp (.lst []) lp=some (.lst []):=qa3
  generalize upd Hx lp (.lst [])=H4 at*
  have hpa4:=s4 _ _ hpax
  have hla4:=s4 _ _ hlax
  clear hpax hlax
  left
  rw [apn2]
  refine qd2 (fun j σ Hy=>∃(cur:List Int) (w11 w12 w13 w14:Option V),σ=[some (V.ref a),some (V.ref lr),some (V.ref le),some (V.ref la),some (V.int c),some (V.ref ls),some (V.ref lg),some (V.int sh),some (V.ref lc),some (V.int ii),some (V.ref lp),w11,w12,w13,w14]/\qar Hx Hy/\Hy lp=some (.lst (cur.map V.int))/\cur.length=j/\∀x∈cur,CpB x) ⟨[],_,_,_,_,rfl,s4,elp,rfl,fun x hx=>by simp at hx⟩ ?_ ?_
  .clear hpa4 hla4 elp s4
   rintro j σ Hy hj ⟨cur,w11,w12,w13,w14,rfl,sy,ely,hcu,hcv⟩
   rw [xW]
   have sxy:=sx.trans sy
   have hpay:=sxy _ _ hpa2
   have hlay:=sxy _ _ hla2
   have hEy:=hE2.same sxy
   have etopy:=hEy.top
   have exhy:=sxy _ _ exh
   have elsy:=sxy _ _ els2
   have elgy:=sxy _ _ elg
   have hRy:∀R∈Rs,RwAt Hy (es.length+1) kd R:=fun R hr=>(hR2 R hr).same sxy
   have eap:=zA (show j < aps.length by omega)
   have xj:atI (aps.map V.int) ((j:Nat):Int)=some (.int (aps[j]'(by omega))):=qax (by rw [zC,eap];rfl)
   have pj:=apn _ (zF eap)
   generalize aps[j]'(by omega)=pv at*
   have pb:pv.natAbs < 2^600:=by have:=pj.lo;have:=pj.hi;exact vT (show pv.natAbs<=10^28 by omega) (by decide)
   have jb:IxB ((j:Nat):Int):=⟨by omega,by omega⟩
   generalize hjj:((j:Nat):Int)=jj at*
   left
   refine⟨ls,le,las,Ss,es,_,kd,i,j,by rw [hii,hjj],elsy,fs30,fun R hr=>hRy R (fst R hr),hEy,rfl,hj,fun H5 s5=>?_⟩
   have lowb:SmB (qcj (elN es) Ss i j):=sum_smb (fun R hr=>(hR2 R (fst R hr)).nn) fs30
   generalize qcj (elN es) Ss i j=lo at*
   have hpa5:=s5 _ _ hpay
   have hla5:=s5 _ _ hlay
   have etop5:=s5 _ _ etopy
   have exh5:=s5 _ _ exhy
   have ely5:=s5 _ _ ely
   have elg5:=s5 _ _ elgy
   have hE5:=hEy.same s5
   have hR5:∀R∈Rs,RwAt H5 (es.length+1) kd R:=fun R hr=>(hRy R hr).same s5
   clear hpay hlay etopy exhy elsy elgy hRy ely
   left
   refine qb3 (SqL.of hpa5) xj ?_
   left
   refine qb3 (SqL.of etop5) axh ?_
   left
   refine r_inN (SqL.of exh5) hii ?_
   have mb:∀b:Bool,(if b=true then (1:Int) else 0).natAbs < 2^600:=fun b=>by cases b <;> decide
   have mb1:=mb (decide (i∈qab (elN es) h))
   generalize hbb:decide (i∈qab (elN es) h)=bb at*
   have lwb:=lw_of (b:=bb) lowb pj
   left
   generalize lo+pv*(if bb=true then 1 else 0)=low at*
   have glen:(rwV Gs).length=Gs.length:=by unfold rwV;rw [zB]
   rw [glen]
   have x1:=ib.lo
   have x2:=ib.hi
   have x3:=jb.lo
   have x4:=jb.hi
   refine qci (by omega) (by omega) (by omega) (by omega) fun r r0 r1=>?_
   refine⟨_,rfl,?_⟩
   refine r_slL (SqL.of elg5) fun lx hlx=>?_
   rw [cut0 r0]
   have s6:=qa9 hlx (.lst (rwV (Gs.take r.toNat)))
   have elx6:upd H5 lx (.lst (rwV (Gs.take r.toNat))) lx=some (.lst (rwV (Gs.take r.toNat))):=qa3
   generalize upd H5 lx (.lst (rwV (Gs.take r.toNat)))=H6 at*
   have tg30:(Gs.take r.toNat).length<=30:=by rw [zW];omega
   clear r0 r1 glen x1 x2 x3 x4 hlx
   left
   refine⟨lx,le,las,Gs.take r.toNat,es,_,kd,i,j,by rw [hii,hjj],elx6,tg30,fun R hr=>(hR5 R (fgo R (aN hr))).same s6,hE5.same s6,rfl,hj,fun H7 s7=>?_⟩
   have mob:SmB (qcj (elN es) (Gs.take r.toNat) i j):=sum_smb (fun R hr=>(hR2 R (fgo R (aN hr))).nn) tg30
   generalize qcj (elN es) (Gs.take r.toNat) i j=mo at*
   have ely7:=s7 _ _ (s6 _ _ ely5)
   have t57:=(s5.trans s6).trans s7
   clear hpa5 hla5 etop5 exh5 ely5 elg5 hE5 hR5 s5 s6 s7 elx6 hbb lowb pj pb mb mb1 xj eap
   left
   rename_i pm hpm
   have x1:=ib.lo
   have x2:=ib.hi
   have x3:=jb.lo
   have x4:=jb.hi
   refine qci (by omega) (by omega) (by decide) (by decide) fun r2 b0 b1=>?_
   refine r_menu (xs:=[0,0,1,0 - if decide (0 < mo)=true then 1 else 0]) (SqL.of qa3) b0 b1 fun nr hnr=>?_
   have s8:=qa9 hpm (.lst [V.int 0,V.int 0,V.int 1,V.int (0 - if decide (0 < mo)=true then 1 else 0)])
   generalize upd H7 pm (.lst [V.int 0,V.int 0,V.int 1,V.int (0 - if decide (0 < mo)=true then 1 else 0)])=H8 at*
   have ely8:=s8 _ _ ely7
   clear b0 b1 ely7 hpm x1 x2 x3 x4
   left
   rename_i p9 hp9
   have ely9:=qae (o':=.lst [V.int (low+mo+nr),V.int (if low - 1 > 0 then low - 1 else 0)]) ely8 hp9
   have s9:=qa9 hp9 (.lst [V.int (low+mo+nr),V.int (if low - 1 > 0 then low - 1 else 0)])
   have e9:upd H8 p9 (.lst [V.int (low+mo+nr),V.int (if low - 1 > 0 then low - 1 else 0)]) p9=some (.lst [V.int (low+mo+nr),V.int (if low - 1 > 0 then low - 1 else 0)]):=qa3
   generalize upd H8 p9 (.lst [V.int (low+mo+nr),V.int (if low - 1 > 0 then low - 1 else 0)])=H9 at*
   refine r_menu (xs:=[low+mo+nr,if low - 1 > 0 then low - 1 else 0]) (SqL.of e9) (by split <;> decide) (by show _ <(2:Int);split <;> decide) fun v hv=>?_
   have cv:=cp_of lwb mob hnr hv
   have zl:(cur.map V.int).length < sizeLine:=by rw [zB];show _ < 16777216;omega
   clear hv hnr lwb mob ely8 e9 hp9
   left
   refine⟨cur++ [v],_,_,_,_,rfl,qav (((sy.trans t57).trans s8).trans s9) hlp,by rw [qa3,zD];rfl,by rw [zK,hcu];rfl,fun x hx=>?_⟩
   rcases zT.mp hx with hx|hx
   .exact hcv x hx
   .rw [zH.mp hx];exact cv
  .rintro σ Hy ⟨cur,w11,w12,w13,w14,rfl,sy,ely,hcu,hcv⟩
   have ecy:=sy _ _ elx
   have zq:(qsV cs).length < sizeLine:=by unfold qsV;rw [zB];show _ < 16777216;omega
   have nlp:lp≠lc:=(qa7 elx hlp).symm
   left
   refine⟨cs++ [(lp,cur)],_,_,_,_,_,_,rfl,qav (sx.trans sy) hlc,by rw [qa3];unfold qsV;rw [zD];rfl,by rw [zK,hcl];rfl,fun c' hc'=>?_,fun c' hc'=>?_⟩
   .rcases zT.mp hc' with h|h
    .obtain⟨g1,g2⟩:=hcs c' h
     exact⟨by rw [qa6 (ncs c' h)];exact sy _ _ g1,g2⟩
    .rw [zH.mp h]
     exact⟨by rw [qa6 nlp];exact ely,hcu,fun x hx=>⟨(hcv x hx).lo,(hcv x hx).hi⟩⟩
   .rcases zT.mp hc' with h|h
    .exact ncs c' h
    .rw [zH.mp h];exact nlp
 .rintro σ Hx ⟨cs,w9,w10,w11,w12,w13,w14,rfl,sx,elx,hcl,hcs,ncs⟩
  left
  exact q lc cs Hx (t2.trans sx) elx hcl hcs
include T in
theorem w8x:FnOk P w K mg base (My.CX1 P w) 4 d.w4n d.w3q ["self","name"] (w95 K d):=by
 refine okX T.w9y w8u (fun vs H Q E h=>?_) (fun cdv A outer s H vs Q E hr h=>?_)
 .obtain⟨t,S,x,rfl,_⟩:=h;rfl
 obtain⟨t,S,x,rfl,hT,hx,q1,q2⟩:=h
 refine⟨_,(qa5 (qai (qbq qdq rfl T.w9c wU (qa0 (qbb (qb4 (pv 0) T.w01 T.w0h ((w4q T).mono (by decide)) hr T.w55 .nil qb0 (qa0 (pv 1) qa2)) rfl) qa2)))),?_⟩
 walk_at "d"
 refine qah (σ:=[some (.ref t),some (x)]) rfl ?_
 have hT0:=hT
 obtain⟨⟨dx,ht⟩,hw,hh,nd,hz,hE⟩:=hT
 have ct:=T.w01
 have nh:qaz K d.w00 "houses":=T.w03
 left
 refine⟨t,S,x,rfl,hT0,hx,fun e he=>?_,q2⟩
 obtain⟨z,rfl⟩:∃z,x=.str z:=by
  rcases hx with h|⟨_,nz⟩
  .exact h
  .rw [qde nz] at he;cases he
 obtain⟨⟨dh,ho⟩,hp,hpA,hc,hcA⟩:=hE e (qcd he).1
 have ch:=T.w1m
 have nf:qaz K d.w05 "cap":=T.w0k
 have hRp:Rd H e.x.pa (.dK e.x.kp):=.inl hp
 have hRc:Rd H e.x.ca (.dK e.x.kc):=.inl hc
 left
 rename_i p hp
 exact q1 e he p hp
noncomputable def w7v (K:uR) (d:Ad):Sp:=fun vs H Q _=>∃x y z:V,vs=[x,y,z]/\Q (.bl false) H
noncomputable def w8t (K:uR) (d:Ad):Sp:=fun vs H Q _=>∃(o m dx:Addr) (n:Int) (z:Str) (rk:Int) (t:Option Int) (r:Int) (s:Bool),vs=[.ref o,.int r,.bl s]/\H o=some (.ins d.w0n dx (fsB n z m rk t))/\Q (.bl (s || decide (rk < r))) H
include T in
theorem w58:FnOk P w K mg base CX0 1 d.w3t d.w3c ["self","rank","sure"] (w7v K d):=by
 refine T.w91.ok w8g (fun vs H Q E h=>?_) (fun cdv A outer s H vs Q E hr h=>?_)
 .obtain⟨x,y,z,rfl,_⟩:=h;rfl
 obtain⟨x,y,z,rfl,q⟩:=h
 refine⟨_,(qa5 (qai qdc)),?_⟩
 walk_at "d"
 refine qah (σ:=[some (x),some (y),some (z)]) rfl ?_
 left
 exact q
include T in
theorem w4z:FnOk P w K mg base CX0 1 d.w3v d.w3a ["self","rank","sure"] (w8t K d):=by
 refine T.w8z.ok w8h (fun vs H Q E h=>?_) (fun cdv A outer s H vs Q E hr h=>?_)
 .obtain⟨o,m,dx,n,z,rk,t,r,s,rfl,_⟩:=h;rfl
 obtain⟨o,m,dx,n,z,rk,t,r,b,rfl,ho,q⟩:=h
 refine⟨_,(qa5 (qai (pe_or (pv 2) (qdi (qbm op_lt (qbb (pv 0) rfl) (pv 1) (qas _)))))),?_⟩
 walk_at "d"
 refine qah (σ:=[some (.ref o),some (.int r),some (.bl b)]) rfl ?_
 have c:=T.w4r
 have n4:qaz K d.w0n "rank":=T.w1r
 unfold fsB at ho
 left
 refine i_b2 (fun e=>?_) (fun e=>?_)
 .subst e
  left
  exact q
 .subst e
  left
  exact q
noncomputable def qat (r:Int) (s:Bool) (b:Ob):Bool:=b.R.s || !(s || decide (b.R.r < r))
noncomputable def wfl (K:uR) (d:Ad):Sp:=fun vs H Q _=>∃(lh:Addr) (P:PL) (bs:List Ob) (r:Int) (s:Bool),vs=[.ref lh,.int r,.bl s]/\H lh=some (.lst (bsV bs))/\bs.length<=63/\(∀b∈bs,ObAt d H P b)/\
 ∀(l:Addr),H l=none->Q (.ref l) (upd H l (.lst (bsV (bs.filter (qat r s)))))
include T in
theorem wdf:FnOk P w K mg base CX0 2 d.wd7 d.wa3 ["holds","rank","sure"] (wfl K d):=by
 refine T.wch.ok wfy (fun vs H Q E h=>?_) (fun cdv A outer s H vs Q E hr h=>?_)
 .obtain⟨lh,P,bs,r,s,rfl,_⟩:=h;rfl
 obtain⟨lh,P,bs,r,s',rfl,hL,h63,hB,q⟩:=h
 refine⟨_,(qa5 (qai (qbp (caps:=[1,2]) (cn:=["rank","sure"]) (qb1 rfl rfl (by rfl) (by rfl) rfl ⟨rfl,⟨rfl,trivial⟩⟩ (by rfl) rfl ⟨⟨rfl,rfl,rfl,rfl,_,rfl⟩,⟨⟨rfl,rfl,rfl,rfl,_,rfl⟩,trivial⟩⟩ (by decide)) rfl (qau (pv 0)) (fun _ _ _ _=>(qck (qbj (qb6 (pe_alt (qed (pv 0) T.w5u T.w0q ((w58 T).mono (by decide)) hr T.w5o .nil qak (qa0 (pv 1) (qa0 (pv 2) qa2))) (qed (pv 0) T.w4r T.w0m ((w4z T).mono (by decide)) hr T.w5q .nil qak (qa0 (pv 1) (qa0 (pv 2) qa2)))))))) (fun _ _ _ _=>(pv 0))))),?_⟩
 walk_at "d"
 try dsimp only [cxC]
 refine qah (σ:=[some (.ref lh),some (.int r),some (.bl s')]) rfl ?_
 left
 intro C s0 H0 fp acc hacc
 refine qel bs.length (fun i H'=>H'=upd H acc (.lst (bsV ((bs.take i).filter (qat r s'))))) rfl ?_ ?_ ?_ ?_
 .rintro i H' hi rfl
  exact⟨_,.ref bs[i].o,SqL.of (qae hL hacc),by unfold bsV;rw [zC,zA hi];rfl⟩
 .rintro H' rfl
  exact⟨_,SqL.of (qae hL hacc),by unfold bsV;rw [zB];exact uG _⟩
 .rintro i H' v H'' hi rfl ⟨rfl,hy⟩
  have hv:=hy _ (SqL.of (qae hL hacc))
  unfold bsV at hv
  rw [zC,zA hi] at hv
  cases hv
  have hb:=hB _ (zM hi)
  have tk:bs.take (i+1)=bs.take i++ [bs[i]]:=by rw [zL,zA hi];rfl
  generalize hbi:bs[i]=b at*
  obtain⟨dx,hbo⟩:=hb.obj
  have hbo':=qae (o':=.lst (bsV ((bs.take i).filter (qat r s')))) hbo hacc
  have zl:(bsV ((bs.take i).filter (qat r s'))).length < sizeLine:=by
   unfold bsV
   rw [zB]
   have h1:=zN (qat r s') (bs.take i)
   rw [zW] at h1
   show _ < 16777216
   omega
  have yes:qat r s' b=true->upd (upd H acc (.lst (bsV ((bs.take i).filter (qat r s'))))) acc (.lst (bsV ((bs.take i).filter (qat r s'))++ [.ref b.o]))=upd H acc (.lst (bsV ((bs.take (i+1)).filter (qat r s')))):=fun e=>by
   rw [qbn,tk,zQ,zJ,gT e]
   congr 2
   unfold bsV
   rw [zD];rfl
  have no:qat r s' b=false->upd H acc (.lst (bsV ((bs.take i).filter (qat r s'))))=upd H acc (.lst (bsV ((bs.take (i+1)).filter (qat r s')))):=fun e=>by
   rw [tk,zQ,zJ,gS (by rw [e];exact uE),yK,yA]
  cases hs:b.R.s with
  |true=>
   rw [hs,show qgg d true=d.w0u from rfl] at hbo'
   left
   refine r_alt1 ?_
   left
   refine⟨_,_,_,rfl,?_⟩
   left
   exact yes (by unfold qat;rw [hs];rfl)
  |false=>
   rw [hs,show qgg d false=d.w0n from rfl] at hbo'
   left
   refine r_alt2 ?_
   left
   refine⟨b.o,b.m,dx,b.R.n,nmF P b.R.i,b.R.r,b.t,r,s',rfl,hbo',?_⟩
   cases hq:(s' || decide (b.R.r < r)) with
   |true=>
    left
    exact no (by unfold qat;rw [hs,hq];rfl)
   |false=>
    left
    exact yes (by unfold qat;rw [hs,hq];rfl)
 rintro H' rfl
 rw [zP]
 left
 exact q acc hacc
theorem r_dpT {H:Hp} {a b:Addr} {kvs:List (List Key × V)} {k:List Key} {v:V} {D:Ends} {σ:L2.St} (e:H a=some (.dT kvs)) (eb:H b=some (.tup (k.map kV))) (hz:kvs.length < sizeLine) (h:D.nx σ (upd H a (.dT (qct kvs k v)))):rDP (.ref a) (.ref b) v H D σ:=⟨a,_,rfl,DPut.t e eb hz,h⟩
theorem r_dgT {H:Hp} {Q:VK} {a b:Addr} {kvs:List (List Key × V)} {k:List Key} {v:V} (d:Rd H a (.dT kvs)) (eb:H b=some (.tup (k.map kV))) (e:qcq kvs k=some v) (h:Q v H):rDGk (.ref a) (.ref b) H Q:=⟨a,v,rfl,.inr ⟨kvs,k,b,d,rfl,eb,e.symm⟩,h⟩
theorem r_dnewT {σ:L2.St} {H:Hp} {Q:VK} (h:∀p,H p=none->Q (.ref p) (upd H p (.dT []))):tDNewT σ H Q:=h
theorem qep {κ:Type} [DecidableEq κ] {kvs:List (κ × V)} {k:κ} {v:V} (h:k∉kvs.map (·.1)):qct kvs k v=kvs++ [(k,v)]:=by
 unfold qct
 rw [gS]
 intro e
 obtain⟨x,hx,hk⟩:=yY.mp e
 exact h (zI.mpr ⟨x,hx,of_decide_eq_true hk⟩)
noncomputable def qdu (z:Str) (ss:List Str) (val:Str->Int):List (List Key × V):=ss.map fun w=>([vE z,vE w],V.int (val w))
noncomputable def qcv (P:PL) (js:List Nat) (ss:List Str) (val:Nat->Str->Int):List (List Key × V):=js.flatMap fun j=>qdu (nmF P j) ss (val j)
noncomputable def fcOf (S:Ts) (z:Str):Str->Option Int:=match S.at z with
 |some e=>e.x.fc
 |none=>noF
noncomputable def useF (P:PL) (bs:List Ob) (j:Nat):Str->Option Int:=sumF ((bs.filter fun b=>decide (j∈qab (elN P.es) b.R.i)).map obPt)
noncomputable def qb5 (S:Ts) (P:PL) (bs:List Ob) (f:Str->Option Int) (j:Nat) (w:Str):Int:=gN (fcOf S (nmF P j)) w - gN (useF P bs j) w - gN f w
structure WdAt (K:uR) (d:Ad) (H:Hp) (t lh:Addr) (S:Ts) (P:PL) (bs:List Ob) (n:Nat):Prop where
 tr:qes d H t S
 wf:WF S
 pl:Pl S (nmF P) (elN P.es) n
 nn:P.nm.length=n
 hs:∀j,j < n->(∃e,S.at (nmF P j)=some e)/\Dep S 12 (nmF P j)
 w3:P.ws.length<=6
 h:H lh=some (.lst (bsV bs))
 h63:bs.length<=63
 ob:∀b∈bs,ObAt d H P b
theorem WdAt.same {K:uR} {d:Ad} {H H':Hp} {t lh:Addr} {S:Ts} {P:PL} {bs:List Ob} {n:Nat} (h:WdAt K d H t lh S P bs n) (s:qar H H'):WdAt K d H' t lh S P bs n:=⟨h.tr.same s,h.wf,h.pl,h.nn,h.hs,h.w3,s _ _ h.h,h.h63,fun b hb=>(h.ob b hb).same s⟩
theorem rm_in {P:PL} {js:List Nat} {ss:List Str} {val:Nat->Str->Int} {k:List Key} (h:k∈(qcv P js ss val).map (·.1)):∃j∈js,∃w∈ss,k=[vE (nmF P j),vE w]:=by
 obtain⟨x,hx,rfl⟩:=zI.mp h
 obtain⟨j,hj,hx⟩:=bY.mp hx
 obtain⟨w,hw,rfl⟩:=zI.mp hx
 exact⟨j,hj,w,hw,rfl⟩
theorem rm_len (P:PL) (js:List Nat) (ss:List Str) (val:Nat->Str->Int):(qcv P js ss val).length=js.length*ss.length:=by
 induction js with
 |nil=>simp [qcv]
 |cons j r ih=>
  show (qdu (nmF P j) ss (val j)++qcv P r ss val).length=_
  rw [zK,ih,zZ,Nat.succ_mul]
  unfold qdu
  rw [zB]
  omega
noncomputable def w9t (K:uR) (d:Ad):Sp:=fun vs H Q _=>∃(t lh ll am:Addr) (S:Ts) (P:PL) (bs:List Ob) (n:Nat) (js:List Nat) (ka:List (Key × V)) (f:Str->Option Int) (ss:List Str),vs=[.ref t,.ref lh,.ref ll,.ref am]/\WdAt K d H t lh S P bs n/\
 H ll=some (.lst (js.map fun j=>V.str (nmF P j)))/\(∀j∈js,j < n)/\js.Nodup/\js.length<=12/\H am=some (.dK ka)/\AD ka f/\ss.Perm (qd1 ka)/\vF ss=true/\ss.length<=6/\
 ∀(rm:Addr) H',qar H H'->H rm=none->H' rm=some (.dT (qcv P js ss (qb5 S P bs f)))->Q (.ref rm) H'
include T in
theorem w6d:FnOk P w K mg base CX0 19 d.w5f d.w45 ["tree","holds","line","amounts"] (w9t K d):=by
 refine T.w57.ok w1e (fun vs H Q E h=>?_) (fun cdv A outer s H vs Q E hr h=>?_)
 .obtain⟨t,lh,ll,am,S,P,bs,n,js,ka,f,ss,rfl,_⟩:=h;rfl
 obtain⟨t,lh,ll,am,S,P,bs,n,js,ka,f,ss,rfl,hW,hl,jn,jd,j12,ha,hA,hp,hs,s6,q⟩:=h
 refine⟨_,(qa1 (qag (i:=4) w1e.nd rfl (uJ rfl) pe_dnewT)
  (qa1 (qb7 uY rfl (qau (pv 2)) (qac (i:=5) w1e.nd rfl (uJ rfl)) (qa1 (qag (i:=6) w1e.nd rfl (uJ rfl) (qb4 (W:=fun _ _ _ _=>False) (pv 0) T.w01 T.w1j ((w8x T).mono (by decide)) hr T.w9v .nil qei (qa0 (pv 5) qa2)))
  (qa1 (qag (i:=7) w1e.nd rfl (uJ rfl) (qbs (W:=fun _ _ _ _=>False) ((wh7 T).mono (by decide)) hr rfl T.whh T.wgh.kp T.whm .nil qei (qa0 (pv 0) (qa0 (pv 1) (qa0 (pv 5) qa2)))))
  (qa5 (qb7 uY rfl (qau (qaf (qfo rfl) rfl T.w6b xH (qa0 (pv 3) qa2))) (qac (i:=8) w1e.nd rfl (uJ rfl)) (qa5 (qea (qcb hr) (pv 4) (qe2 (qa0 (pv 5) (qa0 (pv 8) qa2))) (qao qek (qao qek (qa8 ((w1s T).mono (by decide)) hr rfl T.w2b T.w1q.kp T.w27 .nil qak (qa0 (pv 6) (qa0 (pv 8) qa2))) (qa8 ((w1s T).mono (by decide)) hr rfl T.w2b T.w1q.kp T.w27 .nil qak (qa0 (pv 7) (qa0 (pv 8) qa2)))) (qbt (qcb hr) (pv 3) (pv 8) (fun _ _=>rfl))) rfl)))))))
  (qa5 (qai (pv 4))))),?_⟩
 walk_at "d"
 refine qah (σ:=[some (.ref t),some (.ref lh),some (.ref ll),some (.ref am),none,none,none,none,none]) rfl ?_
 left
 refine r_dnewT fun rm hrm=>?_
 have s1:=qa9 hrm (.dT [])
 have e1:upd H rm (.dT []) rm=some (.dT (qcv P [] ss (qb5 S P bs f))):=qa3
 have l1:=s1 _ _ hl
 generalize upd H rm (.dT [])=H1 at*
 have snd:ss.Nodup:=hp.nodup_iff.mpr hA.knd
 have sk:∀w∈ss,∃m,f w=some m:=fun w hw=>by
  have z:=(hA.kin w).mp (hp.mem_iff.mp hw)
  cases e:f w with
  |none=>exact absurd e z
  |some m=>exact⟨m,rfl⟩
 have kl:ka.length<=6:=by have:=hp.length_eq;have:=hA.klen;omega
 left
 refine qcz (xs:=js.map fun j=>V.str (nmF P j)) (fun i σ H'=>∃w1 w2 w3 w4:Option V,σ=[some (.ref t),some (.ref lh),some (.ref ll),some (.ref am),some (.ref rm),w1,w2,w3,w4]/\qar H H'/\H' rm=some (.dT (qcv P (js.take i) ss (qb5 S P bs f))))
  ⟨_,_,_,_,rfl,s1,e1⟩ ?_ ?_ ?_
 .rintro i σ H' _ ⟨w1,w2,w3,w4,rfl,sm,_⟩
  exact SqL.of (sm _ _ hl)
 .rintro i v σ H' hv ⟨w1,w2,w3,w4,rfl,sm,er⟩
  rw [zC] at hv
  obtain⟨j,hj,rfl⟩:=uU.mp hv
  have hi:=(uH.mp hj).1
  have hjm:=zF hj
  have hjn:=jn j hjm
  have tk:js.take (i+1)=js.take i++ [j]:=by rw [zL,hj];rfl
  have hnt:j∉js.take i:=fun hm=>by
   obtain⟨b,hb,e⟩:=zO.mp hm
   rw [zW] at hb
   rw [dD] at e
   obtain⟨g1,g2⟩:=uH.mp hj
   exact(zV.mp jd) b i (by omega) hi (by omega) (e.trans g2.symm)
  have hW1:=hW.same sm
  obtain⟨⟨e,ae⟩,dp⟩:=hW.hs j hjn
  have ct:=T.w01
  obtain⟨dx,ht⟩:=id hW1.tr.1
  left
  refine⟨t,S,.str (nmF P j),rfl,hW1.tr,.inl ⟨_,rfl⟩,fun e' he' p hp'=>?_,fun hn=>by rw [show who S (.str (nmF P j))=some e from ae] at hn;cases hn⟩
  have ee:e=e':=uX (ae.symm.trans he')
  subst ee
  have hcA:AD e.x.kc e.x.fc:=(hW1.tr.2.2.2.2.2 e (qcd ae).1).2.2.2.2
  have efc:fcOf S (nmF P j)=e.x.fc:=by unfold fcOf;rw [ae]
  have s2:=sm.trans (qa9 hp' (.dK e.x.kc))
  have ec:upd H' p (.dK e.x.kc) p=some (.dK e.x.kc):=qa3
  have er2:=qae (o':=.dK e.x.kc) er hp'
  generalize upd H' p (.dK e.x.kc)=H2 at*
  have hW2:=hW.same s2
  clear hW1 ht hp'
  left
  refine .inr ⟨t,lh,S,P,bs,nmF P j,e,rfl,hW2.tr,hW.wf,ae,dp,hW2.h,hW.h63,hW.w3,hW2.ob,fun lu zs ku H3 s3 hlu hBen eu hAu=>?_⟩
  have euf:(bs.filter (inZ P zs)).map obPt=(bs.filter fun b=>decide (j∈qab (elN P.es) b.R.i)).map obPt:=by
   congr 1
   refine yN fun b hb=>?_
   unfold inZ
   have:=hW.pl.benIff hjn hBen (k:=b.R.i) (by have:=(hW.ob b hb).il;rw [hW.nn] at this;exact this)
   exact decide_eq_decide.mpr this
  rw [euf] at hAu
  change AD ku (useF P bs j) at hAu
  have s23:=s2.trans s3
  have ec3:=s3 _ _ ec
  have er3:=s3 _ _ er2
  have ha3:=s23 _ _ ha
  clear hBen euf hW2 hlu s2 s3 ec er2 er
  left
  refine r_sortD (.inl ha3) hA.keys (by have:=hA.klen;omega) fun ls ss' hls hp2 hs2=>?_
  have ess:ss'=ss:=sort_eq (hp2.trans hp.symm) hs2 hs
  subst ess
  have s4:=s23.trans (qa9 hls (.lst (ss'.map V.str)))
  have el:upd H3 ls (.lst (ss'.map V.str)) ls=some (.lst (ss'.map V.str)):=qa3
  have ec4:=qae (o':=.lst (ss'.map V.str)) ec3 hls
  have er4:=qae (o':=.lst (ss'.map V.str)) er3 hls
  have eu4:=qae (o':=.lst (ss'.map V.str)) eu hls
  have nrl:rm≠ls:=qa7 er3 hls
  generalize upd H3 ls (.lst (ss'.map V.str))=H4 at*
  clear hp2 hs2 hls s23 ec3 er3 eu ha3
  left
  refine qcz (xs:=ss'.map V.str) (fun c σ H5=>∃w4:Option V,σ=[some (.ref t),some (.ref lh),some (.ref ll),some (.ref am),some (.ref rm),some (.str (nmF P j)),some (.ref p),some (.ref lu),w4]/\SameBut rm H4 H5/\H5 rm=some (.dT (qcv P (js.take i) ss' (qb5 S P bs f)++qdu (nmF P j) (ss'.take c) (qb5 S P bs f j))))
   ⟨_,rfl,fun b o _ e=>e,by rw [er4];unfold qdu;simp⟩ ?_ ?_ ?_
  .rintro c σ H5 _ ⟨w4,rfl,sb,_⟩
   exact SqL.of (sb _ _ nrl.symm el)
  .rintro c v σ H5 hv5 ⟨w4,rfl,sb,er5⟩
   rw [zC] at hv5
   obtain⟨w,hw,rfl⟩:=uU.mp hv5
   have hc:=(uH.mp hw).1
   obtain⟨m,fm⟩:=sk w (zF hw)
   have hRp:Rd H5 p (.dK e.x.kc):=.inl (sb _ _ (fun z=>by subst z;rw [er4] at ec4;cases ec4) ec4)
   have hRu:Rd H5 lu (.dK ku):=.inl (sb _ _ (fun z=>by subst z;rw [er4] at eu4;cases eu4) eu4)
   have ha4:=s4 _ _ ha
   have hRa:Rd H5 am (.dK ka):=.inl (sb _ _ (fun z=>by subst z;rw [er4] at ha4;cases ha4) ha4)
   left
   rename_i p5 hp5
   have er6:=qae (o':=.tup [V.str (nmF P j),V.str w]) er5 hp5
   have tkw:ss'.take (c+1)=ss'.take c++ [w]:=by rw [zL,hw];rfl
   have wnt:w∉ss'.take c:=fun hm=>by
    obtain⟨b,hb,e'⟩:=zO.mp hm
    rw [zW] at hb
    rw [dD] at e'
    obtain⟨g1,g2⟩:=uH.mp hw
    exact(zV.mp snd) b c (by omega) hc (by omega) (e'.trans g2.symm)
   have nin:([vE (nmF P j),vE w]:List Key)∉(qcv P (js.take i) ss' (qb5 S P bs f)++qdu (nmF P j) (ss'.take c) (qb5 S P bs f j)).map (·.1):=fun hm=>by
    rw [zD] at hm
    rcases zT.mp hm with hm|hm
    .obtain⟨j',hj',w',_,e'⟩:=rm_in hm
     have e1:nmF P j=nmF P j':=by
      have:=(wM e').1
      exact xM this
     have:=hW.pl.inj j j' hjn (jn j' (aN hj')) e1
     subst this
     exact hnt hj'
    .unfold qdu at hm
     rw [yP] at hm
     obtain⟨w',hw',e'⟩:=zI.mp hm
     have e2:w'=w:=xM (wM (wM e').2).1
     exact wnt (e2 ▸ hw')
   have gf:gN f w=m:=by unfold gN;rw [fm];rfl
   have ev:gN e.x.fc w - gN (useF P bs j) w - m=qb5 S P bs f j w:=by unfold qb5;rw [efc,gf]
   rw [ev]
   have sz:(qcv P (js.take i) ss' (qb5 S P bs f)++qdu (nmF P j) (ss'.take c) (qb5 S P bs f j)).length < sizeLine:=by
    rw [zK,rm_len]
    unfold qdu
    rw [zB,zW,zW]
    have:min i js.length*ss'.length<=12*6:=Nat.mul_le_mul (by omega) s6
    show _ < 16777216
    omega
   refine r_dpT (k:=[vE (nmF P j),vE w]) er6 qa3 sz ?_
   rw [qep nin]
   left
   refine⟨_,rfl,fun b o hb e'=>?_,?_⟩
   .rw [qa6 hb,qa6 (qa7 (sb b o hb e') hp5)]
    exact sb b o hb e'
   .rw [qa3,tkw,bP]
    unfold qdu
    rw [zD]
    rfl
  .rintro σ H5 ⟨w4,rfl,sb,er5⟩
   rw [zB,zP] at er5
   refine⟨_,_,_,_,rfl,fun b o hb=>?_,?_⟩
   .exact sb _ _ (fun z=>by subst z;rw [hrm] at hb;cases hb) (s4 _ _ hb)
   .rw [er5,tk]
    unfold qcv
    rw [List.flatMap_append]
    simp
 .rintro σ H' ⟨w1,w2,w3,w4,rfl,sm,er⟩
  rw [zB,zP] at er
  left
  exact q rm H' sm hrm er
structure Wd where
 wt:Addr
 ln:Addr
 lw:Addr
 le:Addr
 lr:Addr
 la:Addr
 lc:Addr
 pa:Addr
 las:List Addr
 nm:List Str
 ws:List Str
 es:List Nat
 Rs:List Rw
 h:Nat
 aps:List Int
 rk:Int
 su:Bool
 cs:List Pq
structure WAt (H:Hp) (w:Wd):Prop where
 tup:H w.wt=some (.tup [.ref w.ln,.ref w.lw,.ref w.le,.ref w.lr,.ref w.la,.ref w.lc])
 ln:H w.ln=some (.lst (w.nm.map V.str))
 lw:H w.lw=some (.lst (w.ws.map V.str))
 le:LnsAt H w.le w.las w.es
 lr:H w.lr=some (.lst (rwV w.Rs))
 rs:∀R∈w.Rs,RwAt H (w.es.length+1) w.ws.length R
 la:H w.la=some (.tup [.int ((w.h:Nat):Int),.ref w.pa,.int w.rk,.bl w.su])
 pa:H w.pa=some (.lst (w.aps.map V.int))
 lc:H w.lc=some (.lst (qsV w.cs))
 cs:qgm H w.ws.length w.cs
structure WOk (w:Wd):Prop where
 apl:w.aps.length=w.ws.length
 apn:∀p∈w.aps,PpOk p
 hh:w.h < w.es.length+1
 cl:w.cs.length=w.es.length+1
 nms:Nms w.nm (w.es.length+1)
 wsn:Nms w.ws w.ws.length
 w1:1<=w.ws.length
 w6:w.ws.length<=6
 e5:w.es.length<=5
 up:(w.Rs.map fun R=>R.n).Pairwise (·< ·)
 r30:w.Rs.length<=30
theorem WAt.same {H H':Hp} {w:Wd} (h:WAt H w) (s:qar H H'):WAt H' w:=⟨s _ _ h.tup,s _ _ h.ln,s _ _ h.lw,h.le.same s,s _ _ h.lr,fun R hr=>(h.rs R hr).same s,s _ _ h.la,s _ _ h.pa,s _ _ h.lc,h.cs.same s⟩
noncomputable def wdi (K:uR) (d:Ad):Sp:=fun vs H Q _=>∃(a:Addr) (ns:List Int) (m:Nat),vs=[.ref a,.int (m:Int)]/\SqL K H a (ns.map V.int)/\ns.length<=63/\m<=30/\∀(w:Wd) (H':Hp),qar H H'->WAt H' w->WOk w->Q (.ref w.wt) H'
include T in
theorem wfs:FnOk P w K mg base CX0 5 d.wbu d.wa5 ["_law_script","_law_many"] (wdi K d):=by
 refine T.weg.ok w2e (fun vs H Q E h=>?_) (fun cdv A outer s H vs Q E hr h=>?_)
 .obtain⟨a,ns,m,rfl,_⟩:=h;rfl
 obtain⟨a,ns,m,rfl,hS,h63,m30,q⟩:=h
 refine⟨_,(qa1 (qag (i:=2) w2e.nd rfl (aV rfl) (qa8 ((w20 T).mono (by decide)) hr rfl T.w3k T.w33.kp T.w3l .nil qak (qa0 (pv 0) (qa0 qa4 qa2))))
  (qa1 (qag (i:=3) w2e.nd rfl (uJ rfl) (qa8 ((wfr T).mono (by decide)) hr rfl T.wgm T.wew.kp T.wgw .nil qak (qa0 (pv 0) (qa0 (qao qb2 qa4 (qa8 ((w1a T).mono (by decide)) hr rfl T.w38 T.w2w.kp T.w32 .nil qak (qa0 (pv 2) (qa0 qa4 (qa0 qa4 qa2))))) qa2))))
  (qa1 (qag (i:=4) w2e.nd rfl (uJ rfl) (qao qb2 qa4 (qa8 ((w1a T).mono (by decide)) hr rfl T.w38 T.w2w.kp T.w32 .nil qak (qa0 (pv 2) (qa0 qa4 (qa0 qa4 qa2))))))
  (qa1 (qag (i:=5) w2e.nd rfl (uJ rfl) (qaj qal (qc0 (qa0 qa4 (qa0 qa4 (qa0 (qao qb2 qa4 (qao qcc (qa8 ((w20 T).mono (by decide)) hr rfl T.w3k T.w33.kp T.w3l .nil qak (qa0 (pv 0) (qa0 qa4 qa2))) (qao op_pow qa4 qa4))) qa2)))) (qa8 ((w1a T).mono (by decide)) hr rfl T.w38 T.w2w.kp T.w32 .nil qak (qa0 (pv 2) (qa0 qa4 (qa0 qa4 qa2)))) (fun _ _=>rfl)))
  (qa1 (qcs (j:=6) (caps:=[0]) (cn:=["_law_script"]) (qb1 rfl rfl (by rfl) (by rfl) rfl ⟨rfl,trivial⟩ (by rfl) rfl ⟨⟨rfl,rfl,rfl,rfl,_,rfl⟩,trivial⟩ (by decide)) rfl w2e.nd rfl rfl (qc1 rfl T.w34 (qa0 (qaf qay rfl T.w2t vH (qa0 (pv 3) qa2)) qa2)) (fun _ _ _ _=>qd8) (fun _ _ _ _=>(qa8 ((wex T).mono (by decide)) hr rfl T.wgb T.wem.kp T.wgf .nil qak (qa0 (pv 1) (qa0 (pv 0) qa2)))))
  (qa1 (qcs (j:=7) (caps:=[0,2]) (cn:=["_law_script","_law_cell_here"]) (qb1 rfl rfl (by rfl) (by rfl) rfl ⟨rfl,⟨rfl,trivial⟩⟩ (by rfl) rfl ⟨⟨rfl,rfl,rfl,rfl,_,rfl⟩,⟨⟨rfl,rfl,rfl,rfl,_,rfl⟩,trivial⟩⟩ (by decide)) rfl w2e.nd rfl rfl (qc1 rfl T.w34 (qa0 (pv 4) qa2)) (fun _ _ _ _=>qd8) (fun _ _ _ _=>(qa8 ((wex T).mono (by decide)) hr rfl T.wgb T.wem.kp T.wgf .nil qak (qa0 (pv 1) (qa0 (qao qb2 (pv 0) (qao qby qa4 (qao qcc (pv 2) qa4))) qa2)))))
  (qa1 (qag (i:=8) w2e.nd rfl (uJ rfl) (qa8 ((wgl T).mono (by decide)) hr rfl T.whj T.wge.kp T.whq .nil qak (qa0 (pv 0) (qa0 (qaf qay rfl T.w2t vH (qa0 (pv 3) qa2)) (qa0 (pv 4) (qa0 (pv 5) (qa0 (pv 1) qa2)))))))
  (qa1 (qag (i:=9) w2e.nd rfl (uJ rfl) (qa8 ((wdk T).mono (by decide)) hr rfl T.wff T.wcw.kp T.weh .nil qak (qa0 (qa8 ((w20 T).mono (by decide)) hr rfl T.w3k T.w33.kp T.w3l .nil qak (qa0 (pv 0) (qa0 qa4 qa2))) (qa0 (pv 4) (qa0 (pv 5) qa2)))))
  (qa1 (qag (i:=10) w2e.nd rfl (uJ rfl) (qe2 (qa0 (qa8 ((w1a T).mono (by decide)) hr rfl T.w38 T.w2w.kp T.w32 .nil qak (qa0 (pv 2) (qa0 qa4 (qa0 (qaf qay rfl T.w2t vH (qa0 (pv 3) qa2)) qa2)))) (qa0 (pv 9) (qa0 (qa8 ((w1a T).mono (by decide)) hr rfl T.w38 T.w2w.kp T.w32 .nil qak (qa0 (pv 2) (qa0 qa4 (qa0 qa4 qa2)))) (qa0 (qbm qen (qa8 ((w1a T).mono (by decide)) hr rfl T.w38 T.w2w.kp T.w32 .nil qak (qa0 (pv 2) (qa0 qa4 (qa0 qa4 qa2)))) qa4 (qas _)) qa2))))))
  (qa5 (qai (qe2 (qa0 (pv 6) (qa0 (pv 7) (qa0 (pv 3) (qa0 (pv 8) (qa0 (pv 10) (qa0 (qa8 ((wgp T).mono (by decide)) hr rfl T.whg T.wg6.kp T.whi .nil qak (qa0 (pv 0) (qa0 (pv 8) (qa0 (pv 3) (qa0 (pv 10) qa2))))) qa2)))))))))))))))))),?_⟩
 walk_at "d"
 try dsimp only [cxC]
 refine qah (σ:=[some (.ref a),some (.int (m:Int)),none,none,none,none,none,none,none,none,none]) rfl ?_
 generalize hmi:((m:Nat):Int)=mi
 left
 refine⟨a,ns,4,rfl,hS,by decide,by decide,h63,fun H1 s1=>?_⟩
 generalize qbz ns 4=c
 left
 refine qci (by decide) (by decide) (by decide) (by decide) fun r r0 r1=>?_
 left
 obtain⟨n,hn⟩:=wK (show 0<=1+r by omega)
 rw [hn]
 refine⟨a,ns,n,rfl,s1.seq hS,h63,by omega,by omega,fun le las es H2 s2 L hel=>?_⟩
 have t2:=s1.trans s2
 have e5:es.length<=5:=by omega
 clear hn r0 r1
 left
 refine qci (by decide) (by decide) (by decide) (by decide) fun r2 b0 b1=>?_
 obtain⟨kd,hkd⟩:=wK (show 0<=1+r2 by omega)
 have k1:1<=kd:=by omega
 have k6:kd<=6:=by omega
 have ek:((kd:Nat):Int).toNat=kd:=by omega
 left
 rw [hkd]
 clear hkd b0 b1
 generalize hki:((kd:Nat):Int)=ki at*
 refine⟨a,ns,5,rfl,t2.seq hS,by decide,by decide,h63,fun H3 s3=>?_⟩
 generalize qbz ns 5=c5
 left
 rename_i pm hpm
 refine qci (by decide) (by decide) (by decide) (by decide) fun r3 b0 b1=>?_
 refine r_menu (xs:=[1,1,1+c5%10^Int.toNat 27]) (SqL.of qa3) b0 b1 fun sc hm=>?_
 have hsc:Sc sc:=by
  have e27:(10:Int)^Int.toNat 27=10^27:=rfl
  rw [e27] at hm
  simp only [zR,yI,or_false] at hm
  have m0:=wA c5 (show (10^27:Int)≠0 by decide)
  have m1:=vZ c5 (show (0:Int) < 10^27 by decide)
  exact⟨by omega,by omega⟩
 have s4:=qa9 hpm (.lst [V.int 1,V.int 1,V.int (1+c5%10^Int.toNat 27)])
 generalize upd H3 pm (.lst [V.int 1,V.int 1,V.int (1+c5%10^Int.toNat 27)])=H4 at*
 have t4:=(t2.trans s3).trans s4
 have L4:=L.same (s3.trans s4)
 clear hm b0 b1 hpm s3 s4 s1 s2 t2 L
 have etop:=L4.top
 have lnl:(((las.map V.ref).length:Nat):Int)=((n:Nat):Int):=by rw [zB,L4.len,hel]
 have ntn:((n:Nat):Int).toNat=n:=by omega
 left
 rw [lnl]
 generalize hni:((n:Nat):Int)=ni at*
 left
 intro C s0 H0 fp ln hln
 rw [ntn]
 refine qel n (fun i H'=>qar H4 H'/\H' ln=some (.lst (((vG i).map fun(k:Nat)=>nmS (qbz ns 0) (qbz ns 1) (0+(k:Int))).map V.str))) ⟨qa9 hln _,qa3⟩ ?_ ?_ ?_ ?_
 .rintro i H' hi _
  exact hi
 .rintro H' _
  exact uG _
 .rintro i H' v H'' hi ⟨sm,ea⟩ ⟨rfl,rfl⟩
  have zl:(((vG i).map fun(k:Nat)=>nmS (qbz ns 0) (qbz ns 1) (0+(k:Int))).map V.str).length < sizeLine:=by rw [zB,zB,yZ];show _ < 16777216;omega
  left
  refine⟨a,ns,0+(i:Int),rfl,(t4.trans sm).seq hS,h63,by omega,by omega,fun H5 s5=>?_⟩
  have ea5:=s5 _ _ ea
  refine⟨_,ea5,zl,qav (sm.trans s5) hln,?_⟩
  rw [qa3,List.range_succ,zD,zD];rfl
 rintro H5 ⟨s5,eln⟩
 have hnm:Nms ((vG n).map fun(k:Nat)=>nmS (qbz ns 0) (qbz ns 1) (0+(k:Int))) n:=nms_of (by decide) (by omega)
 generalize (vG n).map (fun(k:Nat)=>nmS (qbz ns 0) (qbz ns 1) (0+(k:Int)))=nm at*
 have t5:=t4.trans s5
 have L5:=L4.same s5
 clear etop L4 hln
 left
 intro C s0 H0 fp lw hlw
 rw [ek]
 have o0:=wA c (show (2:Int)≠0 by decide)
 have o1:=vZ c (show (0:Int) < 2 by decide)
 refine qel kd (fun i H'=>qar H5 H'/\H' lw=some (.lst (((vG i).map fun(k:Nat)=>nmS (qbz ns 0) (qbz ns 1) (20*(c%2)+(k:Int))).map V.str))) ⟨qa9 hlw _,qa3⟩ ?_ ?_ ?_ ?_
 .rintro i H' hi _
  exact hi
 .rintro H' _
  exact uG _
 .rintro i H' v H'' hi ⟨sm,ea⟩ ⟨rfl,rfl⟩
  have zl:(((vG i).map fun(k:Nat)=>nmS (qbz ns 0) (qbz ns 1) (20*(c%2)+(k:Int))).map V.str).length < sizeLine:=by rw [zB,zB,yZ];show _ < 16777216;omega
  have ob:(c%2).natAbs < 2^600:=vT (show (c%2).natAbs<=2 by omega) (by decide)
  left
  refine⟨a,ns,0+(i:Int)+20*(c%2),rfl,(t5.trans sm).seq hS,h63,by omega,by omega,fun H6 s6=>?_⟩
  have ea6:=s6 _ _ ea
  refine⟨_,ea6,zl,qav (sm.trans s6) hlw,?_⟩
  rw [qa3,List.range_succ,zD,zD,show 0+(i:Int)+20*(c%2)=20*(c%2)+(i:Int) by omega];rfl
 rintro H6 ⟨s6,elw⟩
 have hws:Nms ((vG kd).map fun(k:Nat)=>nmS (qbz ns 0) (qbz ns 1) (20*(c%2)+(k:Int))) kd:=nms_of (by omega) (by omega)
 generalize (vG kd).map (fun(k:Nat)=>nmS (qbz ns 0) (qbz ns 1) (20*(c%2)+(k:Int)))=ws at*
 have t6:=t5.trans s6
 have L6:=L5.same s6
 have eln6:=s6 _ _ eln
 clear hlw o0 o1 eln L5 s5 s6
 have etop:=L6.top
 left
 rw [lnl]
 have nl1:1<=n:=by omega
 have nl6:n<=6:=by omega
 refine⟨a,ns,sc,n,kd,m,by rw [hni,hki,hmi],t6.seq hS,h63,hsc,nl1,by omega,k1,k6,m30,fun lr Rs H7 s7 elr hrl hR hup=>?_⟩
 have t7:=t6.trans s7
 left
 refine⟨a,ns,6,rfl,t7.seq hS,by decide,by decide,h63,fun H8 s8=>?_⟩
 generalize qbz ns 6=c6
 left
 refine⟨c6,sc,kd,by rw [hki],k1,k6,hsc,fun pa aps H9 s9 hpa epa hal han=>?_⟩
 have s79:=s8.trans s9
 have L9:=L6.same (s7.trans s79)
 have eln9:=s79 _ _ (s7 _ _ eln6)
 have elw9:=s79 _ _ (s7 _ _ elw)
 have elr9:=s79 _ _ elr
 have hR9:∀R∈Rs,RwAt H9 n kd R:=fun R hr=>(hR R hr).same s79
 have t9:=t7.trans s79
 clear etop L6 eln6 elw elr hR t6 t7 s7 s8 s9 s79 t4 t5 hpa
 have etop:=L9.top
 left
 rw [lnl]
 have nb1:1<=ni:=by omega
 have nb2:ni<=6:=by omega
 refine qci (by decide) (by decide) (by omega) (by omega) fun r4 b0 b1=>?_
 obtain⟨h,hh0⟩:=wK b0
 have hh:h < n:=by omega
 rw [hh0]
 clear hh0 b0 b1 nb1 nb2
 generalize hhi:((h:Nat):Int)=hi at*
 left
 refine qci (by decide) (by decide) (by decide) (by decide) fun r5 _ _=>?_
 left
 refine qci (by decide) (by decide) (by decide) (by decide) fun r6 _ _=>?_
 left
 rename_i la hla
 have s10:=qa9 hla (.tup [V.int hi,V.ref pa,V.int r5,V.bl (decide (r6=0))])
 have ela:upd H9 la (.tup [V.int hi,V.ref pa,V.int r5,V.bl (decide (r6=0))]) la=some (.tup [V.int hi,V.ref pa,V.int r5,V.bl (decide (r6=0))]):=qa3
 generalize upd H9 la (.tup [V.int hi,V.ref pa,V.int r5,V.bl (decide (r6=0))])=H10 at*
 generalize hsu:decide (r6=0)=su at*
 have n0:n=es.length+1:=by omega
 refine⟨a,ns,lr,le,la,pa,las,Rs,es,kd,h,aps,r5,su,rfl,(t9.trans s10).seq hS,h63,s10 _ _ elr9,by omega,fun R hr=>by rw [<-n0];exact(hR9 R hr).same s10,L9.same s10,e5,k1,k6,by omega,by rw [hhi];exact ela,s10 _ _ epa,hal,han,fun lc cs H11 s11 elc hcl hcs=>?_⟩
 have t11:=(t9.trans s10).trans s11
 have s911:=s10.trans s11
 left
 rename_i wt hwt
 have s12:=qa9 hwt (.tup [V.ref ln,V.ref lw,V.ref le,V.ref lr,V.ref la,V.ref lc])
 have ewt:upd H11 wt (.tup [V.ref ln,V.ref lw,V.ref le,V.ref lr,V.ref la,V.ref lc]) wt=some (.tup [V.ref ln,V.ref lw,V.ref le,V.ref lr,V.ref la,V.ref lc]):=qa3
 generalize upd H11 wt (.tup [V.ref ln,V.ref lw,V.ref le,V.ref lr,V.ref la,V.ref lc])=H12 at*
 have s912:=s911.trans s12
 have ewl:ws.length=kd:=hws.len
 subst ewl
 exact q ⟨wt,ln,lw,le,lr,la,lc,pa,las,nm,ws,es,Rs,h,aps,r5,su,cs⟩ H12 (t11.trans s12) ⟨ewt,s912 _ _ eln9,s912 _ _ elw9,L9.same s912,s912 _ _ elr9,fun R hr=>by show RwAt H12 (es.length+1) _ R;rw [<-n0];exact(hR9 R hr).same s912,by show H12 la=some (.tup [.int ((h:Nat):Int),_,_,_]);rw [hhi];exact(s11.trans s12) _ _ ela,s912 _ _ epa,s12 _ _ elc,hcs.same s12⟩ ⟨hal,han,by show h < es.length+1;omega,hcl,by show Nms nm (es.length+1);rw [<-n0];exact hnm,hws,k1,k6,e5,hup,by show Rs.length<=30;omega⟩
theorem rm_get {P:PL} {js:List Nat} {ss:List Str} {val:Nat->Str->Int} {i:Nat} {k:List Key} {v:V} (h:(qcv P js ss val)[i]?=some (k,v)):∃j∈js,∃w∈ss,k=[vE (nmF P j),vE w]/\v=.int (val j w):=by
 obtain⟨j,hj,hx⟩:=bY.mp (zF h)
 obtain⟨w,hw,e⟩:=zI.mp hx
 cases e
 exact⟨j,hj,w,hw,rfl,rfl⟩
theorem rm_nd {P:PL} {js:List Nat} {ss:List Str} {val:Nat->Str->Int} (inj:∀i∈js,∀j∈js,nmF P i=nmF P j->i=j) (jd:js.Nodup) (sd:ss.Nodup):((qcv P js ss val).map (·.1)).Nodup:=by
 induction js with
 |nil=>exact yR
 |cons j r ih=>
  show ((qdu (nmF P j) ss (val j)++qcv P r ss val).map (·.1)).Nodup
  rw [yC] at jd
  rw [zD]
  refine yJ.mpr ⟨?_,ih (fun a ha b hb=>inj a (zE _ ha) b (zE _ hb)) jd.2,fun a ha b hb e=>?_⟩
  .unfold qdu
   rw [yP]
   show dL _ _
   rw [yO]
   exact aF (fun {x y} h e=>h (xM (wM (wM e).2).1)) sd
  .unfold qdu at ha
   rw [yP] at ha
   obtain⟨w,_,rfl⟩:=zI.mp ha
   obtain⟨j',hj',w',_,e'⟩:=rm_in hb
   have e1:nmF P j=nmF P j':=xM (wM (e.trans e')).1
   have:=inj j (zG ..) j' (zE _ hj') e1
   subst this
   exact jd.1 hj'
theorem valV_at {κ:Type} [DecidableEq κ] {kvs:List (κ × V)} (nd:(kvs.map (·.1)).Nodup) {i:Nat} {k:κ} {v:V} (h:kvs[i]?=some (k,v)):qcq kvs k=some v:=by
 induction kvs generalizing i with
 |nil=>simp at h
 |cons x r ih=>
  rw [zS,yC] at nd
  cases i with
  |zero=>
   simp only [bE,dC] at h
   subst h
   unfold qcq
   simp
  |succ i=>
   simp only [bF] at h
   have hne:¬x.1=k:=fun e=>nd.1 (e ▸ zI.mpr ⟨(k,v),zF h,rfl⟩)
   have z:=ih nd.2 h
   unfold qcq at z ⊢
   simpa [yL,hne] using z
theorem r_itDT {a:Addr} {H:Hp} {kvs:List (List Key × V)} {R:It->Hp->Prop} (e:H a=some (.dT kvs)) (h:∀o,R (ItDT a o kvs) (upd H a (.frz o (.dT kvs)))):rItDT (.ref a) H R:=⟨a,kvs,rfl,e,h⟩
theorem r_iDT {tl:TE} {σ:L2.St} {H:Hp} {R:It->Hp->Prop} (h:tl σ H fun x H1=>rItDT x H1 R):iDictT tl σ H R:=h
theorem qge {D:Ends} {σ:L2.St} {H:Hp} {g:TG} {tb:TS} {a:Addr} {o:Obj} {kvs:List (List Key × V)} (Pv:Nat->L2.St->Hp->Prop) (h0:Pv 0 σ H) (hl:∀i σ H,i<=kvs.length->Pv i σ H->H a=some (.frz o (.dT kvs)))
  (hs:∀i k v b σ H,kvs[i]?=some (k,v)->H b=some (.tup (k.map kV))->Pv i σ H->g (.ref b) σ H fun σ2 H2=>tb {nx:=Pv (i+1),rt:=D.rt,bk:=D.nx,ct:=Pv (i+1)} σ2 H2) (hd:∀σ H,Pv kvs.length σ H->D.nx σ H):FOR (ItDT a o kvs) g tb D σ H:=by
 refine⟨fun i m σ H=>m=kvs.length - i/\i<=kvs.length/\Pv i σ H,⟨kvs.length,rfl,wC _,h0⟩,?_⟩
 rintro i m σ H ⟨rfl,hi,p⟩
 have q:=hl i σ H hi p
 by_cases hlt:i < kvs.length
 .refine .inr ⟨⟨q,hlt⟩,Pv (i+1),fun σ' H' p'=>⟨kvs.length - (i+1),by omega,rfl,hlt,p'⟩,fun x H' y=>?_⟩
  obtain⟨e,k,v,b,hk,rfl,hb⟩:=y
  subst e
  exact hs i k v b σ _ hk hb p
 .have e:i=kvs.length:=Nat.le_antisymm hi (gO hlt)
  subst e
  exact .inl ⟨⟨q,uG _⟩,hd σ H p⟩
theorem WdAt.fix {K:uR} {d:Ad} {H:Hp} {t lh l:Addr} {S:Ts} {P:PL} {bs:List Ob} {n:Nat} (h:WdAt K d H t lh S P bs n) (hl:H l=none) (r:Int) (s:Bool):WdAt K d (upd H l (.lst (bsV (bs.filter (qat r s))))) t l S P (bs.filter (qat r s)) n:=by
 have s1:=qa9 hl (.lst (bsV (bs.filter (qat r s))))
 have z:=h.same s1
 exact⟨z.tr,z.wf,z.pl,z.nn,z.hs,z.w3,qa3,vP (zN ..) z.h63,fun b hb=>z.ob b (zY.mp hb).1⟩
abbrev Pc:=Nat × Str
noncomputable def pls (js:List Nat) (ss:List Str):List Pc:=js.flatMap fun j=>ss.map fun w=>(j,w)
noncomputable def pcK (P:PL) (p:Pc):List Key:=[vE (nmF P p.1),vE p.2]
noncomputable def rmM (P:PL) (ps:List Pc) (val:Pc->Int):List (List Key × V):=ps.map fun p=>(pcK P p,V.int (val p))
theorem rm_map (P:PL) (ss:List Str) (val:Nat->Str->Int):∀js:List Nat,qcv P js ss val=rmM P (pls js ss) fun p=>val p.1 p.2
 | []=>rfl
 |j :: js=>by
  show qdu (nmF P j) ss (val j)++qcv P js ss val=rmM P (ss.map (fun w=>(j,w))++pls js ss) _
  rw [rm_map P ss val js]
  unfold rmM qdu
  rw [zD,yP];rfl
theorem qe1 {js:List Nat} {ss:List Str} {p:Pc} (h:p∈pls js ss):p.1∈js/\p.2∈ss:=by
 obtain⟨j,hj,hx⟩:=bY.mp h
 obtain⟨w,hw,rfl⟩:=zI.mp hx
 exact⟨hj,hw⟩
theorem pls_len (js:List Nat) (ss:List Str):(pls js ss).length=js.length*ss.length:=by
 induction js with
 |nil=>simp [pls]
 |cons j r ih=>
  show (ss.map (fun w=>(j,w))++pls r ss).length=_
  rw [zK,ih,zZ,Nat.succ_mul,zB]
  omega
theorem pls_nd {js:List Nat} {ss:List Str} (jd:js.Nodup) (sd:ss.Nodup):(pls js ss).Nodup:=by
 induction js with
 |nil=>exact yR
 |cons j r ih=>
  rw [yC] at jd
  show (ss.map (fun w=>(j,w))++pls r ss).Nodup
  refine yJ.mpr ⟨?_,ih jd.2,fun a ha b hb e=>?_⟩
  .show dL _ _
   rw [yO]
   exact aF (fun {x y} h e=>h (cK e).2) sd
  .obtain⟨w,_,rfl⟩:=zI.mp ha
   subst e
   exact jd.1 (qe1 hb).1
structure PsOk (P:PL) (ps:List Pc) (n:Nat):Prop where
 nd:ps.Nodup
 lt:∀p∈ps,p.1 < n
 inj:∀i j,i < n->j < n->nmF P i=nmF P j->i=j
 len:ps.length<=100
theorem pcK_inj {P:PL} {ps:List Pc} {n:Nat} (h:PsOk P ps n) {p q:Pc} (hp:p∈ps) (hq:q∈ps) (e:pcK P p=pcK P q):p=q:=by
 have e1:nmF P p.1=nmF P q.1:=xM (wM e).1
 have e2:p.2=q.2:=xM (wM (wM e).2).1
 have:=h.inj _ _ (h.lt p hp) (h.lt q hq) e1
 exact Prod.ext this e2
theorem rmM_keys {P:PL} {ps:List Pc} {n:Nat} (h:PsOk P ps n) (val:Pc->Int):((rmM P ps val).map (·.1)).Nodup:=by
 have e:(rmM P ps val).map (·.1)=ps.map (pcK P):=by unfold rmM;rw [yP];rfl
 rw [e]
 show dL _ _
 rw [yO]
 exact List.Pairwise.imp_of_mem (fun {x y} hx hy ne e=>ne (pcK_inj h hx hy e)) h.nd
theorem rmM_at {P:PL} {ps:List Pc} {val:Pc->Int} {i:Nat} {k:List Key} {v:V} (h:(rmM P ps val)[i]?=some (k,v)):∃p,ps[i]?=some p/\k=pcK P p/\v=.int (val p):=by
 unfold rmM at h
 rw [zC] at h
 obtain⟨p,hp,e⟩:=uU.mp h
 exact⟨p,hp,(cK e).1.symm,(cK e).2.symm⟩
theorem qew {P:PL} {ps:List Pc} {n:Nat} (h:PsOk P ps n) {val:Pc->Int} {i:Nat} {p:Pc} (hp:ps[i]?=some p):qcq (rmM P ps val) (pcK P p)=some (.int (val p)):=valV_at (rmM_keys h val) (i:=i) (by unfold rmM;rw [zC,hp];rfl)
theorem rmM_take {P:PL} {ps:List Pc} {n:Nat} (h:PsOk P ps n) {val:Pc->Int} {i:Nat} {p:Pc} (hp:ps[i]?=some p):qct (rmM P (ps.take i) val) (pcK P p) (.int (val p))=rmM P (ps.take (i+1)) val:=by
 have tk:ps.take (i+1)=ps.take i++ [p]:=by rw [zL,hp];rfl
 rw [qep,tk]
 .unfold rmM;rw [zD];rfl
 .intro hm
  have e:(rmM P (ps.take i) val).map (·.1)=(ps.take i).map (pcK P):=by unfold rmM;rw [yP];rfl
  rw [e] at hm
  obtain⟨q,hq,eq⟩:=zI.mp hm
  have:=pcK_inj h (aN hq) (zF hp) eq
  subst this
  have nd:=h.nd
  have e2:=bU (i+1) ps
  rw [tk] at e2
  rw [<-e2,yJ,yJ] at nd
  exact nd.1.2.2 q hq q (zH.mpr rfl) rfl
noncomputable def prN (P:PL) (b:Ob) (p:Pc):Int:=if p.1∈qab (elN P.es) b.R.i then gN b.R.f p.2 else 0
noncomputable def wcx (K:uR) (d:Ad):Sp:=fun vs H Q _=>∃(t lh rm:Addr) (S:Ts) (P:PL) (bs:List Ob) (b:Ob) (n:Nat) (ps:List Pc) (val:Pc->Int),vs=[.ref t,.ref b.o,.ref rm]/\WdAt K d H t lh S P bs n/\n<=12/\ObAt d H P b/\PsOk P ps n/\H rm=some (.dT (rmM P ps val))/\
 ∀pt H',qar H H'->H pt=none->H' pt=some (.dT (rmM P ps (prN P b)))->Q (.ref pt) H'
include T in
theorem wcl:FnOk P w K mg base CX0 7 d.w71 d.w69 ["tree","hold","places"] (wcx K d):=by
 refine T.w99.ok w49 (fun vs H Q E h=>?_) (fun cdv A outer s H vs Q E hr h=>?_)
 .obtain⟨t,lh,rm,S,P,bs,b,n,ps,val,rfl,_⟩:=h;rfl
 obtain⟨t,lh,rm,S,P,bs,b,n,ps,val,rfl,hW,n12,hb,hP,er,q⟩:=h
 refine⟨_,(qa1 (qag (i:=3) w49.nd rfl (uJ rfl) (qb4 (W:=fun _ _ _ _=>False) (pv 0) T.w01 T.w0t ((w3o T).mono (by decide)) hr T.w4l .nil qei (qa0 (qbb (pv 1) rfl) qa2)))
  (qa1 (qag (i:=4) w49.nd rfl (uJ rfl) pe_dnewT)
  (qa1 (ps_thAT (qb7 uY rfl (qeq (pv 2)) (qac (i:=5) w49.nd rfl (uJ rfl)) (qa5 (qea (qcb hr) (pv 4) (pv 5) (pe_ifExp (qam qbv (qaj qan (pv 5) qa4 (fun _ _=>rfl)) (pv 3) (by rfl)) (qa8 ((w1s T).mono (by decide)) hr rfl T.w2b T.w1q.kp T.w27 .nil qak (qa0 (qbb (pv 1) rfl) (qa0 (qaj qan (pv 5) qa4 (fun _ _=>rfl)) qa2))) qa4) rfl))))
  (qa5 (qai (pv 4)))))),?_⟩
 walk_at "d"
 refine qah (σ:=[some (.ref t),some (.ref b.o),some (.ref rm),none,none,none]) rfl ?_
 have ct:=T.w01
 obtain⟨dx,ht⟩:=id hW.tr.1
 obtain⟨db,hbo⟩:=hb.obj
 obtain⟨cl,m1,m2,m3,m4,m5⟩:=clsOk T b.R.s
 unfold fsB at hbo
 have bi:b.R.i < n:=by have:=hb.il;rw [hW.nn] at this;exact this
 left
 refine⟨t,S,.str (nmF P b.R.i),rfl,hW.tr,.inl ⟨nmF P b.R.i,(qab (elN P.es) b.R.i).map (nmF P),rfl,hW.pl.line b.R.i bi,by rw [zB];have:=qc2 hW.pl.low b.R.i bi;omega,fun ll hll=>?_⟩⟩
 have s1:=qa9 hll (.lst (((qab (elN P.es) b.R.i).map (nmF P)).map V.str))
 have ell:upd H ll (.lst (((qab (elN P.es) b.R.i).map (nmF P)).map V.str)) ll=some (.lst (((qab (elN P.es) b.R.i).map (nmF P)).map V.str)):=qa3
 generalize upd H ll (.lst (((qab (elN P.es) b.R.i).map (nmF P)).map V.str))=H1 at*
 left
 refine r_dnewT fun pt hpt=>?_
 have s2:=qa9 hpt (.dT [])
 have ept:upd H1 pt (.dT []) pt=some (.dT (rmM P (ps.take 0) (prN P b))):=qa3
 generalize upd H1 pt (.dT [])=H2 at*
 have t2:=s1.trans s2
 have er2:=t2 _ _ er
 have fpt:H pt=none:=s1.free hpt
 have npr:pt≠rm:=(qa7 er fpt).symm
 have ell2:=s2 _ _ ell
 have hb2:=hb.same t2
 have hbo2:=t2 _ _ hbo
 clear hbo ht ell
 left
 refine r_thAT ?_
 left
 refine r_iDT ?_
 left
 refine r_itDT er2 fun o=>?_
 have hF:upd H2 rm (.frz o (.dT (rmM P ps val))) rm=some (.frz o (.dT (rmM P ps val))):=qa3
 have sF:∀x u,x≠rm->H2 x=some u->upd H2 rm (.frz o (.dT (rmM P ps val))) x=some u:=fun x u ne e=>by rw [qa6 ne];exact e
 have nll:ll≠rm:=fun z=>by rw [z,er2] at ell2;cases ell2
 have nlp:ll≠pt:=fun z=>by rw [z,ept] at ell2;cases ell2
 have nbo:b.o≠rm:=fun z=>by rw [z,er2] at hbo2;cases hbo2
 have nbm:b.m≠rm:=fun z=>by have:=hb2.amt;rw [z,er2] at this;cases this
 have nbo2:b.o≠pt:=fun z=>by rw [z,ept] at hbo2;cases hbo2
 have nbm2:b.m≠pt:=fun z=>by have:=hb2.amt;rw [z,ept] at this;cases this
 have ept2:=sF pt _ npr ept
 generalize upd H2 rm (.frz o (.dT (rmM P ps val)))=HF at*
 have l100:=hP.len
 refine qge (fun i σ H'=>∃w:Option V,σ=[some (.ref t),some (.ref b.o),some (.ref rm),some (.ref ll),some (.ref pt),w]/\H' rm=some (.frz o (.dT (rmM P ps val)))/\(∀x u,x≠rm->x≠pt->H2 x=some u->H' x=some u)/\H' pt=some (.dT (rmM P (ps.take i) (prN P b)))) ⟨_,rfl,hF,fun x u n1 _ e=>sF x u n1 e,ept2⟩ ?_ ?_ ?_
 .rintro i σ H' _ ⟨w,_,fz,_⟩;exact fz
 .rintro i k v a σ H' hk ha ⟨w,rfl,fz,sm,ep⟩
  obtain⟨p,hp,rfl,rfl⟩:=rmM_at hk
  have ha:H' a=some (.tup [.str (nmF P p.1),.str p.2]):=ha
  have hpm:=zF hp
  have ell':=sm _ _ nll nlp ell2
  have hbo':=sm _ _ nbo nbo2 hbo2
  have hRb:Rd H' b.m (.dK b.R.k):=.inl (sm _ _ nbm nbm2 hb2.amt)
  have had:=hb2.ad
  have sz:(rmM P (ps.take i) (prN P b)).length < sizeLine:=by unfold rmM;rw [zB,zW];show _ < 16777216;omega
  have ein:(nmF P p.1∈(qab (elN P.es) b.R.i).map (nmF P))=(p.1∈qab (elN P.es) b.R.i):=propext ⟨fun hm=>by
   obtain⟨j,hj,e⟩:=zI.mp hm
   have hjn:=qcf hW.pl.low b.R.i bi j hj
   have:=hP.inj _ _ (by omega) (hP.lt p hpm) e
   rw [<-this];exact hj,fun hm=>zI.mpr ⟨_,hm,rfl⟩⟩
  have fin:∀v:Int,v=prN P b p->∃w':Option V, [some (V.ref t),some (V.ref b.o),some (V.ref rm),some (V.ref ll),some (V.ref pt),some (V.ref a)]=[some (V.ref t),some (V.ref b.o),some (V.ref rm),some (V.ref ll),some (V.ref pt),w']/\upd H' pt (.dT (qct (rmM P (ps.take i) (prN P b)) (pcK P p) (.int v))) rm=some (.frz o (.dT (rmM P ps val)))/\(∀x u,x≠rm->x≠pt->H2 x=some u->upd H' pt (.dT (qct (rmM P (ps.take i) (prN P b)) (pcK P p) (.int v))) x=some u)/\upd H' pt (.dT (qct (rmM P (ps.take i) (prN P b)) (pcK P p) (.int v))) pt=some (.dT (rmM P (ps.take (i+1)) (prN P b))):=fun v ev=>by
   rw [ev,rmM_take hP hp]
   exact⟨_,rfl,by rw [qa6 npr.symm];exact fz,fun x u n1 n2 e=>by rw [qa6 n2];exact sm x u n1 n2 e,qa3⟩
  left
  refine r_inSs (SqL.of ell') ?_
  simp only [ein]
  by_cases c:p.1∈qab (elN P.es) b.R.i
  .rw [gU c]
   left
   refine r_dpT (k:=pcK P p) ep ha sz ?_
   exact fin _ (by unfold prN;rw [gT c])
  .rw [gW c]
   left
   refine r_dpT (k:=pcK P p) ep ha sz ?_
   exact fin _ (by unfold prN;rw [gS c])
 .rintro σ H' ⟨w,rfl,fz,sm,ep⟩
  have el:(rmM P ps val).length=ps.length:=by unfold rmM;rw [zB]
  rw [el,zP] at ep
  refine r_thNxT (thawT1 fz (qg8 er)) ?_
  left
  refine q pt _ (fun x u e=>?_) fpt (by rw [qa6 npr];exact ep)
  by_cases c:x=rm
  .subst c
   rw [qa3]
   rw [er] at e;exact e
  .rw [qa6 c]
   exact sm x u c (qa7 e fpt) (t2 _ _ e)
noncomputable def w7y (K:uR) (d:Ad):Sp:=fun vs H Q _=>∃(pt rm:Addr) (P:PL) (n:Nat) (ps:List Pc) (pu ru:Pc->Int),vs=[.ref pt,.ref rm]/\PsOk P ps n/\H pt=some (.dT (rmM P ps pu))/\H rm=some (.dT (rmM P ps ru))/\pt≠rm/\
 (ps.find? (fun p=>decide (ru p < pu p))=none->∀H',qar H H'->Q .non H')/\∀p,ps.find? (fun p=>decide (ru p < pu p))=some p->∀b H',qar H H'->H' b=some (.tup [.str (nmF P p.1),.str p.2])->Q (.ref b) H'
theorem find_take {α:Type} {f:α->Bool} {l:List α} {i:Nat} {x:α} (hx:l[i]?=some x) (hn:∀y∈l.take i,f y=false) (hf:f x=true):l.find? f=some x:=by
 induction l generalizing i with
 |nil=>simp at hx
 |cons a l ih=>
  cases i with
  |zero=>
   have e:a=x:=by simpa using hx
   subst e
   rw [yL,hf]
  |succ i=>
   have hx:l[i]?=some x:=by simpa using hx
   rw [yL,hn a (by simp)]
   exact ih hx fun y hy=>hn y (by rw [List.take_succ_cons];exact zE _ hy)
include T in
theorem w7z:FnOk P w K mg base CX0 1 d.w3u d.w2z ["parts","rooms"] (w7y K d):=by
 refine T.w5p.ok w5c (fun vs H Q E h=>?_) (fun cdv A outer s H vs Q E hr h=>?_)
 .obtain⟨pt,rm,P,n,ps,pu,ru,rfl,_⟩:=h;rfl
 obtain⟨pt,rm,P,n,ps,pu,ru,rfl,hP,ept,er,ne,qn,q⟩:=h
 refine⟨_,(qa1 (ps_thAT (qb7 uY rfl (qeq (pv 0)) (qac (i:=2) w5c.nd rfl (uJ rfl)) (qa5 (qbh (qam qe4 (qbt (qcb hr) (pv 0) (pv 2) (fun _ _=>rfl)) (qbt (qcb hr) (pv 1) (pv 2) (fun _ _=>rfl)) (qas _)) (qa5 (qai (pv 2))) qaq))))
  (qa5 (qai qcy))),?_⟩
 walk_at "d"
 refine qah (σ:=[some (.ref pt),some (.ref rm),none]) rfl ?_
 left
 refine r_thAT ?_
 left
 refine r_iDT ?_
 left
 refine r_itDT ept fun o=>?_
 have sT:∀x u,H x=some u->upd (upd H pt (.frz o (.dT (rmM P ps pu)))) pt (.dT (rmM P ps pu)) x=some u:=fun x u e=>by
  rw [qbn]
  by_cases c:x=pt
  .rw [c,qa3];rw [c,ept] at e;exact e
  .rw [qa6 c];exact e
 have erF:upd H pt (.frz o (.dT (rmM P ps pu))) rm=some (.dT (rmM P ps ru)):=by rw [qa6 ne.symm];exact er
 have hF:upd H pt (.frz o (.dT (rmM P ps pu))) pt=some (.frz o (.dT (rmM P ps pu))):=qa3
 have el:(rmM P ps pu).length=ps.length:=by unfold rmM;rw [zB]
 generalize upd H pt (.frz o (.dT (rmM P ps pu)))=HF at*
 refine qge (fun i σ H'=>H'=HF/\(∃w:Option V,σ=[some (.ref pt),some (.ref rm),w])/\∀y∈ps.take i,decide (ru y < pu y)=false) ⟨rfl,⟨_,rfl⟩,fun y hy=>by simp at hy⟩ ?_ ?_ ?_
 .rintro i σ H' _ ⟨rfl,_⟩;exact hF
 .rintro i k v a σ H' hk ha ⟨rfl,⟨w,rfl⟩,hno⟩
  obtain⟨p,hp,rfl,rfl⟩:=rmM_at hk
  have tk:ps.take (i+1)=ps.take i++ [p]:=by rw [zL,hp];rfl
  left
  refine r_dgT (k:=pcK P p) (.inr ⟨o,hF⟩) ha (qew hP hp) ?_
  left
  refine r_dgT (k:=pcK P p) (.inl erF) ha (qew hP hp) ?_
  left
  refine i_2 (fun c=>?_) (fun c=>?_)
  .refine⟨V.ref a,rfl,_,thawT1 hF (qg8 ept),?_⟩
   have nap:a≠pt:=fun z=>by rw [z,hF] at ha;cases ha
   refine q p (find_take hp hno (gU c)) a _ sT ?_
   rw [qa6 nap];exact ha
  .left
   refine⟨rfl,⟨_,rfl⟩,fun y hy=>?_⟩
   rw [tk] at hy
   rcases zT.mp hy with hy|hy
   .exact hno y hy
   .rw [zH.mp hy];exact gW c
 .rintro σ H' ⟨rfl,⟨w,rfl⟩,hno⟩
  rw [el,zP] at hno
  refine r_thNxT (thawT1 hF (qg8 ept)) ?_
  left
  exact qn (yX.mpr fun y hy=>by rw [hno y hy];exact uE) _ sT
noncomputable def clF (P:PL) (ps:List Pc) (st:(Pc->Int) × List (Ob × Pc)) (b:Ob):(Pc->Int) × List (Ob × Pc):=match ps.find? (fun p=>decide (st.1 p < prN P b p)) with
 |none=>(fun p=>st.1 p - prN P b p,st.2)
 |some p=>(st.1,st.2++ [(b,p)])
noncomputable def clL (P:PL) (ps:List Pc) (v0:Pc->Int) (bs:List Ob):(Pc->Int) × List (Ob × Pc):=bs.foldl (clF P ps) (v0, [])
theorem clL_snoc (P:PL) (ps:List Pc) (v0:Pc->Int) (bs:List Ob) (b:Ob):clL P ps v0 (bs++ [b])=clF P ps (clL P ps v0 bs) b:=by unfold clL;rw [bO];rfl
theorem qcp {P:PL} {ps:List Pc} {st:(Pc->Int) × List (Ob × Pc)} {b:Ob} (h:ps.find? (fun p=>decide (st.1 p < prN P b p))=none):clF P ps st b=(fun p=>st.1 p - prN P b p,st.2):=by unfold clF;rw [h]
theorem qco {P:PL} {ps:List Pc} {st:(Pc->Int) × List (Ob × Pc)} {b:Ob} {p:Pc} (h:ps.find? (fun p=>decide (st.1 p < prN P b p))=some p):clF P ps st b=(st.1,st.2++ [(b,p)]):=by unfold clF;rw [h]
structure Gr where
 p:Addr
 m:Addr
 b:Ob
 c:Pc
structure GrAt (H:Hp) (P:PL) (g:Gr):Prop where
 tup:H g.p=some (.tup [.int g.b.R.n,.str (nmF P g.b.R.i),.ref g.m,.str (nmF P g.c.1),.str g.c.2])
 dic:H g.m=some (.dK g.b.R.k)
theorem GrAt.same {H H':Hp} {P:PL} {g:Gr} (h:GrAt H P g) (s:qar H H'):GrAt H' P g:=⟨s _ _ h.tup,s _ _ h.dic⟩
noncomputable def grV (gs:List Gr):List V:=gs.map fun g=>V.ref g.p
theorem GrAt.mv {H H':Hp} {P:PL} {g:Gr} {rm:Addr} {k:List (List Key × V)} (h:GrAt H P g) (e:H rm=some (.dT k)) (s:∀x u,x≠rm->H x=some u->H' x=some u):GrAt H' P g:=⟨s _ _ (fun z=>by have:=h.tup;rw [z,e] at this;cases this) h.tup,s _ _ (fun z=>by have:=h.dic;rw [z,e] at this;cases this) h.dic⟩
theorem rmM_set {P:PL} {ps:List Pc} {n:Nat} (h:PsOk P ps n) {val:Pc->Int} {i:Nat} {p:Pc} (hp:ps[i]?=some p) (x:Int):qct (rmM P ps val) (pcK P p) (.int x)=rmM P ps fun q=>if q=p then x else val q:=by
 unfold qct
 rw [gT (by rw [L2.qce,qew h hp];rfl)]
 unfold rmM
 rw [yP]
 refine yV fun q hq=>?_
 show (if pcK P q=pcK P p then (pcK P q,V.int x) else (pcK P q,V.int (val q)))=(pcK P q,V.int (if q=p then x else val q))
 by_cases c:q=p
 .rw [gT (by rw [c]),gT c]
 .rw [gS (fun e=>c (pcK_inj h hq (zF hp) e)),gS c]
theorem qex {P:PL} {ps:List Pc} {u v:Pc->Int} (h:∀p∈ps,u p=v p):rmM P ps u=rmM P ps v:=by
 unfold rmM
 exact yV fun p hp=>by rw [h p hp]
theorem r_tyDT {K:uR} {H:Hp} {p:Addr} {kvs:List (List Key × V)} {B:Prop} (e:H p=some (.dT kvs)) (q:B):tyV K "dict" (.ref p) H/\B:=⟨.inr (.inr (.inl ⟨rfl,.inr ⟨_,e⟩⟩)),q⟩
noncomputable def qaw (r:Int) (su:Bool) (b:Ob):Bool:=!qat r su b
noncomputable def wed (K:uR) (d:Ad):Sp:=fun vs H Q _=>∃(t lh am:Addr) (S:Ts) (P:PL) (bs:List Ob) (n h:Nat) (ka:List (Key × V)) (f:Str->Option Int) (ss:List Str) (r:Int) (su:Bool),vs=[.ref t,.ref lh,.str (nmF P h),.ref am,.int r,.bl su]/\WdAt K d H t lh S P bs n/\n<=12/\h < n/\H am=some (.dK ka)/\AD ka f/\ss.Perm (qd1 ka)/\vF ss=true/\ss.length<=6/\
 ((∃p∈pls (qab (elN P.es) h) ss,qb5 S P (bs.filter (qat r su)) f p.1 p.2 < 0)->∀H',qar H H'->Q .non H')/\
 ((∀p∈pls (qab (elN P.es) h) ss,0<=qb5 S P (bs.filter (qat r su)) f p.1 p.2)->∀(l:Addr) (gs:List Gr) (H':Hp),qar H H'->H l=none->H' l=some (.lst (grV gs))->(∀g∈gs,GrAt H' P g/\g.b∈bs/\H g.m=none/\H g.p=none)->gs.map (fun g=>(g.b,g.c))=(clL P (pls (qab (elN P.es) h) ss) (fun p=>qb5 S P (bs.filter (qat r su)) f p.1 p.2) (bs.filter (qaw r su))).2->Q (.ref l) H')
include T in
theorem wer:FnOk P w K mg base CX0 21 d.wa2 d.w8e ["tree","holds","house","amounts","rank","sure"] (wed K d):=by
 refine T.wdc.ok w3g (fun vs H Q E h=>?_) (fun cdv A outer s H vs Q E hr h=>?_)
 .obtain⟨t,lh,am,S,P,bs,n,h,ka,f,ss,r,su,rfl,_⟩:=h;rfl
 obtain⟨t,lh,am,S,P,bs,n,h,ka,f,ss,r,su,rfl,hW,n12,hn,ha,hA,hp,hs,s6,qn,q⟩:=h
 refine⟨_,(qa1 (qag (i:=6) w3g.nd rfl (uJ rfl) (qa8 ((w6d T).mono (by decide)) hr rfl T.w7j T.w57.kp T.w7g .nil qak (qa0 (pv 0) (qa0 (qa8 ((wdf T).mono (by decide)) hr rfl T.we7 T.wch.kp T.we5 .nil qak (qa0 (pv 1) (qa0 (pv 4) (qa0 (pv 5) qa2)))) (qa0 (qb4 (W:=fun _ _ _ _=>False) (pv 0) T.w01 T.w0t ((w3o T).mono (by decide)) hr T.w4l .nil qei (qa0 (pv 2) qa2)) (qa0 (pv 3) qa2))))))
  (qa1 (qbh (qb6 (qaf (call_anyB rfl) rfl T.whz PyProof.Rows.boot_any (qa0 (pe_thVT (qbp (caps:=[]) (cn:=[]) (qb1 rfl rfl (by rfl) (by rfl) rfl trivial (by rfl) rfl trivial (by decide)) rfl (pi_valsT (pe_bm0 PySem.F.plainAttrs_dict PySem.F.slot_dict_values PySem.F.type_dict_values mt_valsT (pv 6))) (fun _ _ _ _=>qd8) (fun _ _ _ _=>(qbm op_lt (pv 0) qa4 (qas _))))) qa2))) (qa5 (qai qcy)) qaq)
  (qa1 (qag (i:=7) w3g.nd rfl (uJ rfl) (qc0 qa2))
  (qa1 (qb7 uY rfl (qau (qbp (caps:=[4,5]) (cn:=["rank","sure"]) (qb1 rfl rfl (by rfl) (by rfl) rfl ⟨rfl,⟨rfl,trivial⟩⟩ (by rfl) rfl ⟨⟨rfl,rfl,rfl,rfl,_,rfl⟩,⟨⟨rfl,rfl,rfl,rfl,_,rfl⟩,trivial⟩⟩ (by decide)) rfl (qau (pv 1)) (fun _ _ _ _=>(qck (qb6 (pe_alt (qed (pv 0) T.w5u T.w0q ((w58 T).mono (by decide)) hr T.w5o .nil qak (qa0 (pv 1) (qa0 (pv 2) qa2))) (qed (pv 0) T.w4r T.w0m ((w4z T).mono (by decide)) hr T.w5q .nil qak (qa0 (pv 1) (qa0 (pv 2) qa2))))))) (fun _ _ _ _=>(pv 0)))) (qac (i:=8) w3g.nd rfl (uJ rfl)) (qa1 (qag (i:=9) w3g.nd rfl (uJ rfl) (qa8 ((wcl T).mono (by decide)) hr rfl T.we2 T.w99.kp T.we1 .nil qak (qa0 (pv 0) (qa0 (pv 8) (qa0 (pv 6) qa2)))))
  (qa1 (qag (i:=10) w3g.nd rfl (uJ rfl) (qa8 ((w7z T).mono (by decide)) hr rfl T.w90 T.w5p.kp T.w94 .nil qak (qa0 (pv 9) (qa0 (pv 6) qa2))))
  (qa5 (qe0 (qbh (qam op_isNN (pv 10) qcy (qas _)) (qa5 (ps_thAT (qb7 uY rfl (qeq (pv 9)) (qac (i:=11) w3g.nd rfl (uJ rfl)) (qa5 (ps_daug (qcb hr) (pv 6) (pv 11) (qbt (qcb hr) (pv 9) (pv 11) (fun _ _=>rfl)) in_sub (fun _ _ _=>rfl)))))) (qa5 (qba (qdb uZ vM vN qbe (pv 7) (qa0 (qe2 (qa0 (qbb (pv 8) rfl) (qa0 (qbb (pv 8) rfl) (qa0 (qbq qdq rfl T.w9c wU (qa0 (qbb (pv 8) rfl) qa2)) (qa0 (qaj qan (pv 10) qa4 (fun _ _=>rfl)) (qa0 (qaj qan (pv 10) qa4 (fun _ _=>rfl)) qa2)))))) qa2))))))))))
  (qa5 (qai (pv 7))))))),?_⟩
 walk_at "d"
 try dsimp only [cxC]
 refine qah (σ:=[some (.ref t),some (.ref lh),some (.str (nmF P h)),some (.ref am),some (.int r),some (.bl su),none,none,none,none,none,none]) rfl ?_
 left
 refine⟨lh,P,bs,r,su,rfl,hW.h,hW.h63,hW.ob,fun lf hlf=>?_⟩
 have hW1:=hW.fix hlf r su
 have s1:=qa9 hlf (.lst (bsV (bs.filter (qat r su))))
 generalize upd H lf (.lst (bsV (bs.filter (qat r su))))=H1 at*
 have ct:=T.w01
 obtain⟨dx,ht⟩:=id hW1.tr.1
 left
 refine⟨t,S,.str (nmF P h),rfl,hW1.tr,.inl ⟨nmF P h,(qab (elN P.es) h).map (nmF P),rfl,hW.pl.line h hn,by rw [zB];have:=qc2 hW.pl.low h hn;omega,fun ll hll=>?_⟩⟩
 have lle:=qcf hW.pl.low h hn
 have lnd:(qab (elN P.es) h).Nodup:=aF (fun h z=>by omega) (qg9 hW.pl.low h hn)
 have l12:(qab (elN P.es) h).length<=12:=by have:=qc2 hW.pl.low h hn;omega
 have s2:=qa9 hll (.lst (((qab (elN P.es) h).map (nmF P)).map V.str))
 have ell:upd H1 ll (.lst (((qab (elN P.es) h).map (nmF P)).map V.str)) ll=some (.lst ((qab (elN P.es) h).map fun j=>V.str (nmF P j))):=by rw [qa3,yP];rfl
 generalize upd H1 ll (.lst (((qab (elN P.es) h).map (nmF P)).map V.str))=H2 at*
 have hW2:=hW1.same s2
 have t2:=s1.trans s2
 have snd:ss.Nodup:=hp.nodup_iff.mpr hA.knd
 have jn:∀j∈qab (elN P.es) h,j < n:=fun j hj=>by have:=lle j hj;omega
 clear ht
 left
 refine⟨t,lf,ll,am,S,P,_,n,qab (elN P.es) h,ka,f,ss,rfl,hW2,ell,jn,lnd,l12,t2 _ _ ha,hA,hp,hs,s6,fun rm H3 s3 hrm er=>?_⟩
 rw [rm_map] at er
 have hP:PsOk P (pls (qab (elN P.es) h) ss) n:=⟨pls_nd lnd snd,fun p hp=>jn p.1 (qe1 hp).1,fun i j hi hj e=>hW.pl.inj i j hi hj e,by rw [pls_len];have:=Nat.mul_le_mul l12 s6;omega⟩
 have t3:=t2.trans s3
 have frm:H rm=none:=t2.free hrm
 generalize pls (qab (elN P.es) h) ss=ps at*
 generalize hv0:(fun p:Pc=>qb5 S P (bs.filter (qat r su)) f p.1 p.2)=v0 at*
 have qn:(∃p∈ps,v0 p < 0)->∀H',qar H H'->Q .non H':=fun⟨p,h1,h2⟩=>qn ⟨p,h1,by rw [<-hv0] at h2;exact h2⟩
 have q:=fun(hq:∀p∈ps,0<=v0 p)=>q fun p h1=>by have:=hq p h1;rw [<-hv0] at this;exact this
 clear hW1 hW2 ell s1 s2 s3 hlf hll hrm hv0 t2
 have l100:=hP.len
 left
 refine r_thVT ?_
 left
 refine r_iVT ?_
 left
 refine r_tyDT er ?_
 refine⟨rm,_,rfl,rfl,.inl er,fun v hv=>?_⟩
 have s4:=qa9 hv (ValO v rm)
 have ev:upd H3 v (ValO v rm) v=some (ValO v rm):=qa3
 have er4:=s4 _ _ er
 generalize upd H3 v (ValO v rm)=H4 at*
 refine r_itVT ev er4 fun o=>?_
 have hF:upd H4 rm (.frz o (.dT (rmM P ps v0))) rm=some (.frz o (.dT (rmM P ps v0))):=qa3
 have sF:∀x u,x≠rm->H4 x=some u->upd H4 rm (.frz o (.dT (rmM P ps v0))) x=some u:=fun x u ne e=>by rw [qa6 ne];exact e
 generalize upd H4 rm (.frz o (.dT (rmM P ps v0)))=HF at*
 have rml:(rmM P ps v0).length=ps.length:=by unfold rmM;rw [zB]
 intro C s0 H0 fp acc hacc
 refine qel ps.length (fun i H'=>H'=upd HF acc (.lst (((ps.take i).map fun p=>decide (v0 p < 0)).map V.bl))) rfl ?_ ?_ ?_ ?_
 .rintro i H' hi rfl
  exact⟨qae hF hacc,by rw [rml];exact hi⟩
 .rintro H' rfl
  exact⟨qae hF hacc,by rw [rml];exact uG _⟩
 .rintro i H' w H'' hi rfl ⟨rfl,k,hk⟩
  obtain⟨p,hp,_,rfl⟩:=rmM_at hk
  have tk:ps.take (i+1)=ps.take i++ [p]:=by rw [zL,hp];rfl
  have zl:(((ps.take i).map fun p=>decide (v0 p < 0)).map V.bl).length < sizeLine:=by rw [zB,zB,zW];show _ < 16777216;omega
  left
  rw [qbn,tk,zD,zD];rfl
 rintro H' rfl
 rw [zP]
 refine⟨_,thawT1 (qae hF hacc) (qfj frm),?_⟩
 have nar:acc≠rm:=(qa7 hF hacc).symm
 have eacc:upd (upd HF acc (.lst ((ps.map fun p=>decide (v0 p < 0)).map V.bl))) rm (.dT (rmM P ps v0)) acc=some (.lst ((ps.map fun p=>decide (v0 p < 0)).map V.bl)):=by rw [qa6 nar];exact qa3
 have er5:upd (upd HF acc (.lst ((ps.map fun p=>decide (v0 p < 0)).map V.bl))) rm (.dT (rmM P ps v0)) rm=some (.dT (rmM P ps v0)):=qa3
 have t5:qar H (upd (upd HF acc (.lst ((ps.map fun p=>decide (v0 p < 0)).map V.bl))) rm (.dT (rmM P ps v0))):=fun x u e=>by
  have n1:x≠rm:=qa7 e frm
  rw [qa6 n1]
  exact qae (sF x u n1 (s4 _ _ (t3 _ _ e))) hacc
 generalize upd (upd HF acc (.lst ((ps.map fun p=>decide (v0 p < 0)).map V.bl))) rm (.dT (rmM P ps v0))=H5 at*
 clear hF sF hacc nar er4 ev s4 er t3 hv rml
 left
 refine r_any (SqL.of eacc) ?_
 refine⟨_,rfl,?_⟩
 cases hany:(ps.map fun p=>decide (v0 p < 0)).any id with
 |true=>
  left
  obtain⟨x,hx,e⟩:=yY.mp hany
  obtain⟨p,hp1,rfl⟩:=zI.mp hx
  exact qn ⟨p,hp1,of_decide_eq_true e⟩ _ t5
 |false=>
  have hnn:∀p∈ps,0<=v0 p:=fun p hp1=>by
   have:=fX.mp hany (decide (v0 p < 0)) (zI.mpr ⟨p,hp1,rfl⟩)
   apply cT
   intro c
   exact this (gU (by omega))
  have q:=q hnn
  clear hany hnn qn eacc
  left
  rename_i lg hlg
  have s6:=qa9 hlg (.lst [])
  have elg:upd H5 lg (.lst []) lg=some (.lst []):=qa3
  have er6:=s6 _ _ er5
  have t6:=t5.trans s6
  have flg:H lg=none:=t5.free hlg
  have ngr:lg≠rm:=(qa7 er5 hlg).symm
  generalize upd H5 lg (.lst [])=H6 at*
  have hW6:=hW.same t6
  have hL6:=hW6.h
  have l63:=hW.h63
  clear s6 hlg er5 t5
  left
  intro C s0 H0 fp ac hac
  refine qel bs.length (fun i H'=>H'=upd H6 ac (.lst (bsV ((bs.take i).filter (qaw r su))))) rfl ?_ ?_ ?_ ?_
  .rintro i H' hi rfl
   exact⟨_,.ref bs[i].o,SqL.of (qae hL6 hac),by unfold bsV;rw [zC,zA hi];rfl⟩
  .rintro H' rfl
   exact⟨_,SqL.of (qae hL6 hac),by unfold bsV;rw [zB];exact uG _⟩
  .rintro i H' v H'' hi rfl ⟨rfl,hy⟩
   have hv:=hy _ (SqL.of (qae hL6 hac))
   unfold bsV at hv
   rw [zC,zA hi] at hv
   cases hv
   have hb:=hW6.ob _ (zM hi)
   have tk:bs.take (i+1)=bs.take i++ [bs[i]]:=by rw [zL,zA hi];rfl
   generalize hbi:bs[i]=b at*
   obtain⟨dxb,hbo⟩:=hb.obj
   have hbo':=qae (o':=.lst (bsV ((bs.take i).filter (qaw r su)))) hbo hac
   have zl:(bsV ((bs.take i).filter (qaw r su))).length < sizeLine:=by
    unfold bsV
    rw [zB]
    have h1:=zN (qaw r su) (bs.take i)
    rw [zW] at h1
    show _ < 16777216
    omega
   have yes:qaw r su b=true->upd (upd H6 ac (.lst (bsV ((bs.take i).filter (qaw r su))))) ac (.lst (bsV ((bs.take i).filter (qaw r su))++ [.ref b.o]))=upd H6 ac (.lst (bsV ((bs.take (i+1)).filter (qaw r su)))):=fun e=>by
    rw [qbn,tk,zQ,zJ,gT e]
    congr 2
    unfold bsV
    rw [zD];rfl
   have no:qaw r su b=false->upd H6 ac (.lst (bsV ((bs.take i).filter (qaw r su))))=upd H6 ac (.lst (bsV ((bs.take (i+1)).filter (qaw r su)))):=fun e=>by
    rw [tk,zQ,zJ,gS (by rw [e];exact uE),yK,yA]
   cases hs:b.R.s with
   |true=>
    rw [hs,show qgg d true=d.w0u from rfl] at hbo'
    left
    refine r_alt1 ?_
    left
    refine⟨_,_,_,rfl,?_⟩
    left
    exact no (by unfold qaw qat;rw [hs];rfl)
   |false=>
    rw [hs,show qgg d false=d.w0n from rfl] at hbo'
    left
    refine r_alt2 ?_
    left
    refine⟨b.o,b.m,dxb,b.R.n,nmF P b.R.i,b.R.r,b.t,r,su,rfl,hbo',?_⟩
    cases hq:(su || decide (b.R.r < r)) with
    |true=>
     left
     exact yes (by unfold qaw qat;rw [hs,hq];rfl)
    |false=>
     left
     exact no (by unfold qaw qat;rw [hs,hq];rfl)
  rintro H' rfl
  rw [zP]
  have glm:∀b∈bs.filter (qaw r su),b∈bs:=fun b hb=>(zY.mp hb).1
  have gl63:(bs.filter (qaw r su)).length<=63:=vP (zN ..) l63
  have s7:=qa9 hac (.lst (bsV (bs.filter (qaw r su))))
  have eac:upd H6 ac (.lst (bsV (bs.filter (qaw r su)))) ac=some (.lst (bsV (bs.filter (qaw r su)))):=qa3
  have elg7:=s7 _ _ elg
  have er7:=s7 _ _ er6
  have t7:=t6.trans s7
  have nag:ac≠lg:=(qa7 elg hac).symm
  have nar:ac≠rm:=(qa7 er6 hac).symm
  generalize upd H6 ac (.lst (bsV (bs.filter (qaw r su))))=H7 at*
  generalize bs.filter (qaw r su)=gl at*
  clear hL6 hW6 elg er6 t6 s7 hac
  left
  refine qcz (xs:=bsV gl) (fun i σ H'=>∃(gs:List Gr) (w8 w9 w10 w11:Option V),σ=[some (V.ref t),some (V.ref lh),some (V.str (nmF P h)),some (V.ref am),some (V.int r),some (V.bl su),some (V.ref rm),some (V.ref lg),w8,w9,w10,w11]/\qar H H'/\H' ac=some (.lst (bsV gl))/\H' rm=some (.dT (rmM P ps (clL P ps v0 (gl.take i)).1))/\H' lg=some (.lst (grV gs))/\gs.length<=i/\(∀g∈gs,GrAt H' P g/\g.b∈bs/\H g.m=none/\H g.p=none)/\gs.map (fun g=>(g.b,g.c))=(clL P ps v0 (gl.take i)).2) ⟨[],_,_,_,_,rfl,t7,eac,er7,elg7,uG _,fun g hg=>by simp at hg,rfl⟩ ?_ ?_ ?_
  .rintro i σ H' _ ⟨gs,w8,w9,w10,w11,_,_,ea,_⟩;exact SqL.of ea
  .rintro i x σ H' hx ⟨gs,w8,w9,w10,w11,rfl,sm,ea,erm,elg,gsl,hG,hgs⟩
   have hi:i < gl.length:=by have:=(uH.mp hx).1;unfold bsV at this;rw [zB] at this;exact this
   have eb:=zA hi
   have hbm:=glm _ (zM hi)
   have tk:gl.take (i+1)=gl.take i++ [gl[i]]:=by rw [zL,eb];rfl
   generalize gl[i]=b at*
   have hx:V.ref b.o=x:=by
    unfold bsV at hx
    rw [zC,eb] at hx
    exact uX hx
   subst hx
   have cls:=clL_snoc P ps v0 (gl.take i) b
   rw [<-tk] at cls
   rw [cls]
   generalize clL P ps v0 (gl.take i)=st at*
   have hW':=hW.same sm
   have hb':=hW'.ob b hbm
   obtain⟨dxb,hbo⟩:=hb'.obj
   obtain⟨cl,m1,m2,m3,m4,m5⟩:=clsOk T b.R.s
   unfold fsB at hbo
   clear hx cls eac er7 elg7 t7
   left
   refine⟨t,lh,rm,S,P,bs,b,n,ps,st.1,rfl,hW',n12,hb',hP,erm,fun pt H8 s8 hpt ept=>?_⟩
   have npr:pt≠rm:=(qa7 erm hpt).symm
   left
   refine⟨pt,rm,P,n,ps,prN P b,st.1,rfl,hP,ept,s8 _ _ erm,npr,fun hf H9 s9=>?_,fun p hf a H9 s9 ha=>?_⟩
   .rw [qcp hf]
    left
    refine r_cut0 ?_
    left
    have t9:=s8.trans s9
    have ept9:=s9 _ _ ept
    have erm9:=t9 _ _ erm
    have fpt:H pt=none:=sm.free hpt
    refine r_thAT ?_
    left
    refine r_iDT ?_
    left
    refine r_itDT ept9 fun o=>?_
    have hF:upd H9 pt (.frz o (.dT (rmM P ps (prN P b)))) pt=some (.frz o (.dT (rmM P ps (prN P b)))):=qa3
    have sF:∀x u,x≠pt->H9 x=some u->upd H9 pt (.frz o (.dT (rmM P ps (prN P b)))) x=some u:=fun x u ne e=>by rw [qa6 ne];exact e
    have ermF:=sF rm _ npr.symm erm9
    generalize upd H9 pt (.frz o (.dT (rmM P ps (prN P b))))=HF at*
    have sz:∀u:Pc->Int,(rmM P ps u).length < sizeLine:=fun u=>by unfold rmM;rw [zB];show _ < 16777216;omega
    have e0:rmM P ps st.1=rmM P ps (fun q=>if q∈ps.take 0 then st.1 q - prN P b q else st.1 q):=qex fun q _=>by rw [gS (by simp)]
    rw [e0] at ermF
    refine qge (fun k σ Hx=>∃w:Option V,σ=[some (V.ref t),some (V.ref lh),some (V.str (nmF P h)),some (V.ref am),some (V.int r),some (V.bl su),some (V.ref rm),some (V.ref lg),some (V.ref b.o),some (V.ref pt),some V.non,w]/\Hx pt=some (.frz o (.dT (rmM P ps (prN P b))))/\(∀x u,x≠pt->x≠rm->H9 x=some u->Hx x=some u)/\Hx rm=some (.dT (rmM P ps (fun q=>if q∈ps.take k then st.1 q - prN P b q else st.1 q)))) ⟨_,rfl,hF,fun x u n1 _ e=>sF x u n1 e,ermF⟩ ?_ ?_ ?_
    .rintro k σ Hx _ ⟨w,_,fz,_⟩;exact fz
    .rintro k kk v a σ Hx hk ha ⟨w,rfl,fz,sx,ex⟩
     obtain⟨p,hp1,rfl,rfl⟩:=rmM_at hk
     have tkp:ps.take (k+1)=ps.take k++ [p]:=by rw [zL,hp1];rfl
     have pnt:p∉ps.take k:=fun hm=>by
      have nd:=hP.nd
      have e2:=bU (k+1) ps
      rw [tkp] at e2
      rw [<-e2,yJ,yJ] at nd
      exact nd.1.2.2 p hm p (zH.mpr rfl) rfl
     have fin:∃w':Option V, [some (V.ref t),some (V.ref lh),some (V.str (nmF P h)),some (V.ref am),some (V.int r),some (V.bl su),some (V.ref rm),some (V.ref lg),some (V.ref b.o),some (V.ref pt),some V.non,some (V.ref a)]=[some (V.ref t),some (V.ref lh),some (V.str (nmF P h)),some (V.ref am),some (V.int r),some (V.bl su),some (V.ref rm),some (V.ref lg),some (V.ref b.o),some (V.ref pt),some V.non,w']/\upd Hx rm (.dT (qct (rmM P ps (fun q=>if q∈ps.take k then st.1 q - prN P b q else st.1 q)) (pcK P p) (.int ((if p∈ps.take k then st.1 p - prN P b p else st.1 p) - prN P b p)))) pt=some (.frz o (.dT (rmM P ps (prN P b))))/\(∀x u,x≠pt->x≠rm->H9 x=some u->upd Hx rm (.dT (qct (rmM P ps (fun q=>if q∈ps.take k then st.1 q - prN P b q else st.1 q)) (pcK P p) (.int ((if p∈ps.take k then st.1 p - prN P b p else st.1 p) - prN P b p)))) x=some u)/\upd Hx rm (.dT (qct (rmM P ps (fun q=>if q∈ps.take k then st.1 q - prN P b q else st.1 q)) (pcK P p) (.int ((if p∈ps.take k then st.1 p - prN P b p else st.1 p) - prN P b p)))) rm=some (.dT (rmM P ps (fun q=>if q∈ps.take (k+1) then st.1 q - prN P b q else st.1 q))):=by
      rw [rmM_set hP hp1]
      refine⟨_,rfl,by rw [qa6 npr];exact fz,fun x u n1 n2 e=>by rw [qa6 n2];exact sx x u n1 n2 e,?_⟩
      rw [qa3,qex fun q _=>?_]
      rw [tkp]
      by_cases c:q=p
      .rw [gT c,gS pnt,c,gT (zX _ (zH.mpr rfl))]
      .rw [gS c]
       by_cases c2:q∈ps.take k
       .rw [gT c2,gT (yG _ c2)]
       .rw [gS c2,gS (fun hm=>(zT.mp hm).elim c2 fun h1=>c (zH.mp h1))]
     left
     refine r_da ?_
     left
     refine⟨rm,_,rfl,.inr ⟨_,pcK P p,a,.inl ex,rfl,ha,(qew hP hp1).symm⟩,?_⟩
     left
     refine r_dgT (k:=pcK P p) (.inr ⟨o,fz⟩) ha (qew hP hp1) ?_
     exact⟨_,_,rfl,rfl,_,DPut.t ex ha (sz _),fin⟩
    .rintro σ Hx ⟨w,rfl,fz,sx,ex⟩
     have el2:(rmM P ps (prN P b)).length=ps.length:=by unfold rmM;rw [zB]
     rw [el2,zP,qex (v:=fun q=>st.1 q - prN P b q) fun q hq=>by rw [gT hq]] at ex
     refine r_thNxT (thawT1 fz (qfj fpt)) ?_
     have mv:∀x u,x≠rm->H' x=some u->upd Hx pt (.dT (rmM P ps (prN P b))) x=some u:=fun x u n1 e=>by
      have n2:x≠pt:=qa7 e hpt
      rw [qa6 n2]
      exact sx x u n2 n1 (t9 _ _ e)
     exact⟨gs,_,_,_,_,rfl,fun x u e=>mv x u (qa7 e frm) (sm _ _ e),mv _ _ nar ea,by rw [qa6 npr.symm];exact ex,mv _ _ ngr elg,by omega,fun g hg=>⟨(hG g hg).1.mv erm mv,(hG g hg).2⟩,hgs⟩
   .rw [qco hf]
    have t9:=s8.trans s9
    have elg9:=t9 _ _ elg
    have hbo9:=t9 _ _ hbo
    have hRb:Rd H9 b.m (.dK b.R.k):=.inl (t9 _ _ hb'.amt)
    have zl:(grV gs).length < sizeLine:=by unfold grV;rw [zB];show _ < 16777216;omega
    clear hbo ept
    left
    refine r_cut0 ?_
    left
    rename_i m hm pp hpp
    have u1:=qa9 hm (.dK b.R.k)
    have em:upd H9 m (.dK b.R.k) m=some (.dK b.R.k):=qa3
    generalize upd H9 m (.dK b.R.k)=Ha at*
    have u2:=qa9 hpp (.tup [V.int b.R.n,V.str (nmF P b.R.i),V.ref m,V.str (nmF P p.1),V.str p.2])
    have epp:upd Ha pp (.tup [V.int b.R.n,V.str (nmF P b.R.i),V.ref m,V.str (nmF P p.1),V.str p.2]) pp=some (.tup [V.int b.R.n,V.str (nmF P b.R.i),V.ref m,V.str (nmF P p.1),V.str p.2]):=qa3
    generalize upd Ha pp (.tup [V.int b.R.n,V.str (nmF P b.R.i),V.ref m,V.str (nmF P p.1),V.str p.2])=Hb at*
    have tb:=(t9.trans u1).trans u2
    have gn:GrAt Hb P ⟨pp,m,b,p⟩:=⟨epp,u2 _ _ em⟩
    have elgb:=tb _ _ elg
    have put:∀{g:Gr},GrAt Hb P g->GrAt (upd Hb lg (.lst (grV gs++ [V.ref pp]))) P g:=fun {g} hg=>⟨by rw [qa6 (fun z=>by have:=hg.tup;rw [z,elgb] at this;cases this)];exact hg.tup,by rw [qa6 (fun z=>by have:=hg.dic;rw [z,elgb] at this;cases this)];exact hg.dic⟩
    refine⟨gs++ [⟨pp,m,b,p⟩],_,_,_,_,rfl,qav (sm.trans tb) flg,by rw [qa6 nag];exact tb _ _ ea,by rw [qa6 ngr.symm];exact tb _ _ erm,by rw [qa3];unfold grV;rw [zD];rfl,by rw [zK,yB];omega,fun g hg=>?_,by rw [zD,hgs];rfl⟩
    rcases zT.mp hg with hg|hg
    .exact⟨put ((hG g hg).1.same tb),(hG g hg).2⟩
    .rw [zH.mp hg];exact⟨put gn,hbm,(sm.trans t9).free hm,((sm.trans t9).trans u1).free hpp⟩
  rintro σ H' ⟨gs,w8,w9,w10,w11,rfl,sm,ea,erm,elg,gsl,hG,hgs⟩
  have ez:(bsV gl).length=gl.length:=zB _
  rw [ez,zP] at hgs
  left
  exact q lg gs H' sm flg elg hG hgs
structure Pr where
 a:Addr
 n:Int
 x:Int
noncomputable def prV (ps:List Pr):List V:=ps.map fun p=> .ref p.a
noncomputable def PrAt (H:Hp) (p:Pr):Prop:=H p.a=some (.tup [.int p.n,.int p.x])
noncomputable def prZ (ps:List Pr):List (Int × Int):=ps.map fun p=>(p.n,p.x)
noncomputable def takeN (v:Str) (bs:List Ob):List (Int × Int):=(bs.filter fun b=>decide (0 < gN b.R.f v)).map fun b=>(b.R.n,gN b.R.f v)
noncomputable def wf3 (K:uR) (d:Ad):Sp:=fun vs H Q _=>∃(t lh:Addr) (S:Ts) (P:PL) (bs:List Ob) (z v:Str) (e:He),vs=[.ref t,.ref lh,.str z,.str v]/\qes d H t S/\WF S/\S.at z=some e/\Dep S 12 z/\H lh=some (.lst (bsV bs))/\bs.length<=63/\(∀b∈bs,ObAt d H P b)/\
 ∀(l:Addr) (zs:List Str) (ps:List Pr) (H':Hp),qar H H'->H l=none->Ben S 12 z zs->H' l=some (.lst (prV ps))->(∀p∈ps,PrAt H' p/\H p.a=none)->prZ ps=takeN v (bs.filter (inZ P zs))->ps.length<=63->Q (.ref l) H'
theorem gN_pos {f:Str->Option Int} {v:Str} (h:0 < gN f v):f v=some (gN f v):=by
 unfold gN at h ⊢
 cases e:f v with
 |none=>rw [e] at h;exact absurd h (by decide)
 |some n=>rfl
include T in
theorem wes:FnOk P w K mg base CX0 18 d.wa0 d.w8c ["tree","holds","house","ware"] (wf3 K d):=by
 refine T.wd9.ok wb2 (fun vs H Q E h=>?_) (fun cdv A outer s H vs Q E hr h=>?_)
 .obtain⟨t,lh,S,P,bs,z,v,e,rfl,_⟩:=h;rfl
 obtain⟨t,lh,S,P,bs,z,v,e,rfl,hT,hW,ae,hD,hL,h63,hB,q⟩:=h
 refine⟨_,(qa1 (qcs (j:=4) (caps:=[3]) (cn:=["ware"]) (qb1 rfl rfl (by rfl) (by rfl) rfl ⟨rfl,trivial⟩ (by rfl) rfl ⟨⟨rfl,rfl,rfl,rfl,_,rfl⟩,trivial⟩ (by decide)) rfl wb2.nd rfl rfl (qau (qbs (W:=fun _ _ _ _=>False) ((w2r T).mono (by decide)) hr rfl T.w35 T.w25.kp T.w36 .nil qei (qa0 (pv 0) (qa0 (pv 1) (qa0 (pv 2) qa2))))) (fun _ _ _ _=>(qck (qam qe4 (qa8 ((w1s T).mono (by decide)) hr rfl T.w2b T.w1q.kp T.w27 .nil qak (qa0 (qbb (pv 0) rfl) (qa0 (pv 1) qa2))) qa4 (qas _)))) (fun _ _ _ _=>(pv 0)))
  (qa5 (qai (qbp (caps:=[3]) (cn:=["ware"]) (qb1 rfl rfl (by rfl) (by rfl) rfl ⟨rfl,trivial⟩ (by rfl) rfl ⟨⟨rfl,rfl,rfl,rfl,_,rfl⟩,trivial⟩ (by decide)) rfl (qau (pv 4)) (fun _ _ _ _=>qd8) (fun _ _ _ _=>(qe2 (qa0 (qbb (pv 0) rfl) (qa0 (qbt (qcb hr) (qbb (pv 0) rfl) (pv 1) (fun _ _=>rfl)) qa2)))))))),?_⟩
 walk_at "d"
 try dsimp only [cxC]
 refine qah (σ:=[some (.ref t),some (.ref lh),some (.str z),some (.str v),none]) rfl ?_
 left
 refine .inr ⟨t,lh,S,P,bs,z,e,rfl,hT,hW,ae,hD,hL,h63,hB,fun l1 zs H1 s1 hl1 hBen el1=>?_⟩
 have hB1:∀b∈bs.filter (inZ P zs),ObAt d H1 P b:=fun b hb=>(hB b (zY.mp hb).1).same s1
 have h63':(bs.filter (inZ P zs)).length<=63:=vP (zN ..) h63
 have q1:∀(l:Addr) (ps:List Pr) (H':Hp),qar H H'->H l=none->H' l=some (.lst (prV ps))->(∀p∈ps,PrAt H' p/\H p.a=none)->prZ ps=takeN v (bs.filter (inZ P zs))->ps.length<=63->Q (.ref l) H':=fun l ps H' a b c d e f=>q l zs ps H' a b hBen c d e f
 clear q
 generalize bs.filter (inZ P zs)=cs at*
 clear hT hD hL hB
 left
 intro C s0 H0 fp acc hacc
 refine qel cs.length (fun i H'=>H'=upd H1 acc (.lst (bsV ((cs.take i).filter fun b=>decide (0 < gN b.R.f v))))) rfl ?_ ?_ ?_ ?_
 .rintro i H' hi rfl
  exact⟨_,.ref cs[i].o,SqL.of (qae el1 hacc),by unfold bsV;rw [zC,zA hi];rfl⟩
 .rintro H' rfl
  exact⟨_,SqL.of (qae el1 hacc),by unfold bsV;rw [zB];exact uG _⟩
 .rintro i H' u H'' hi rfl ⟨rfl,hy⟩
  have hv:=hy _ (SqL.of (qae el1 hacc))
  unfold bsV at hv
  rw [zC,zA hi] at hv
  cases hv
  have hb:=hB1 _ (zM hi)
  have tk:cs.take (i+1)=cs.take i++ [cs[i]]:=by rw [zL,zA hi];rfl
  generalize hbi:cs[i]=b at*
  obtain⟨dx,hbo⟩:=hb.obj
  have hbo':=qae (o':=.lst (bsV ((cs.take i).filter fun b=>decide (0 < gN b.R.f v)))) hbo hacc
  have hbm:Rd (upd H1 acc (.lst (bsV ((cs.take i).filter fun b=>decide (0 < gN b.R.f v))))) b.m (.dK b.R.k):=.inl (qae hb.amt hacc)
  have hAb:=hb.ad
  obtain⟨cl,n1,n2,n3,n4,n5⟩:=clsOk T b.R.s
  have zl:(bsV ((cs.take i).filter fun b=>decide (0 < gN b.R.f v))).length < sizeLine:=by
   unfold bsV
   rw [zB]
   have h1:=zN (fun b:Ob=>decide (0 < gN b.R.f v)) (cs.take i)
   rw [zW] at h1
   show _ < 16777216
   omega
  left
  refine i_2 (fun c=>?_) (fun c=>?_)
  .left
   rw [qbn,tk,zQ,zJ,gT (gU c)]
   congr 2
   unfold bsV
   rw [zD];rfl
  .left
   rw [tk,zQ,zJ,gS (by rw [gW c];decide),yK,yA]
 rintro H' rfl
 rw [zP]
 have s2:=qa9 hacc (.lst (bsV (cs.filter fun b=>decide (0 < gN b.R.f v))))
 have e2:upd H1 acc (.lst (bsV (cs.filter fun b=>decide (0 < gN b.R.f v)))) acc=some (.lst (bsV (cs.filter fun b=>decide (0 < gN b.R.f v)))):=qa3
 generalize upd H1 acc (.lst (bsV (cs.filter fun b=>decide (0 < gN b.R.f v))))=H2 at*
 have hB2:∀b∈cs.filter (fun b=>decide (0 < gN b.R.f v)),ObAt d H2 P b/\0 < gN b.R.f v:=fun b hb=>⟨(hB1 b (zY.mp hb).1).same s2,of_decide_eq_true (zY.mp hb).2⟩
 have h63'':(cs.filter fun b=>decide (0 < gN b.R.f v)).length<=63:=vP (zN ..) h63'
 have q':∀(l:Addr) (ps:List Pr) (H':Hp),qar H2 H'->H2 l=none->H' l=some (.lst (prV ps))->(∀p∈ps,PrAt H' p/\H2 p.a=none)->prZ ps=(cs.filter fun b=>decide (0 < gN b.R.f v)).map (fun b=>(b.R.n,gN b.R.f v))->ps.length<=63->Q (.ref l) H':=fun l ps H' sm hl el hp hn h6=>
  q1 l ps H' ((s1.trans s2).trans sm) ((s1.trans s2).free hl) el (fun p h=>⟨(hp p h).1,(s1.trans s2).free (hp p h).2⟩) hn h6
 generalize cs.filter (fun b=>decide (0 < gN b.R.f v))=ds at*
 clear q1 hB1 el1 hacc hBen s1 s2
 left
 intro C s0 H0 fp acc2 hacc2
 refine qel ds.length (fun i H'=>∃ps:List Pr,qar H2 H'/\H' acc2=some (.lst (prV ps))/\prZ ps=(ds.take i).map (fun b=>(b.R.n,gN b.R.f v))/\∀p∈ps,PrAt H' p/\H2 p.a=none) ⟨[],qa9 hacc2 _,qa3,rfl,fun p h=>by simp at h⟩ ?_ ?_ ?_ ?_
 .rintro i H' hi ⟨ps,sm,_⟩
  exact⟨_,.ref ds[i].o,SqL.of (sm _ _ e2),by unfold bsV;rw [zC,zA hi];rfl⟩
 .rintro H' ⟨ps,sm,_⟩
  exact⟨_,SqL.of (sm _ _ e2),by unfold bsV;rw [zB];exact uG _⟩
 .rintro i H' u H'' hi ⟨ps,sm,ea,hn,hp⟩ ⟨rfl,hy⟩
  have hv:=hy _ (SqL.of (sm _ _ e2))
  unfold bsV at hv
  rw [zC,zA hi] at hv
  cases hv
  obtain⟨hb0,hpos⟩:=hB2 _ (zM hi)
  have hb:=hb0.same sm
  have tk:ds.take (i+1)=ds.take i++ [ds[i]]:=by rw [zL,zA hi];rfl
  have hpl:ps.length=i:=by
   have:=congrArg wP hn
   unfold prZ at this
   rw [zB,zB,zW] at this
   omega
  generalize hbi:ds[i]=b at*
  obtain⟨dx,hbo⟩:=hb.obj
  have hbm:Rd H'' b.m (.dK b.R.k):=.inl hb.amt
  have hAb:=hb.ad
  have hfv:=gN_pos hpos
  generalize hgx:gN b.R.f v=gx at*
  obtain⟨cl,n1,n2,n3,n4,n5⟩:=clsOk T b.R.s
  have zl:(prV ps).length < sizeLine:=by unfold prV;rw [zB];show _ < 16777216;omega
  left
  rename_i p hp0
  have s3:=qa9 hp0 (.tup [.int b.R.n,.int gx])
  have ea3:=s3 _ _ ea
  refine⟨ps++ [⟨p,b.R.n,gx⟩],qav (sm.trans s3) hacc2,by rw [qa3];unfold prV;rw [zD];rfl,?_,fun x hx=>?_⟩
  .unfold prZ at hn ⊢
   rw [zD,hn,tk,zD,List.map_singleton,List.map_singleton,hgx]
  .rcases zT.mp hx with h|h
   .have h1:=s3 _ _ (hp x h).1
    exact⟨by show upd _ acc2 _ x.a=_;rw [qa6 (ne_of h1 ea3 (by simp))];exact h1,(hp x h).2⟩
   .rw [zH.mp h]
    exact⟨by show upd _ acc2 _ p=_;rw [qa6 (qa7 ea hp0).symm];exact qa3,sm.free hp0⟩
 rintro H' ⟨ps,sm,ea,hn,hp⟩
 rw [zP] at hn
 left
 exact q' acc2 ps H' sm hacc2 ea hp hn (by
  have:=congrArg wP hn
  unfold prZ at this
  rw [zB,zB] at this
  omega)
noncomputable def w9m (K:uR) (d:Ad):Sp:=fun vs H Q _=>∃(t lh ll am:Addr) (S:Ts) (P:PL) (bs:List Ob) (n:Nat) (js:List Nat) (ka:List (Key × V)) (f:Str->Option Int) (ss:List Str),vs=[.ref t,.ref lh,.ref ll,.ref am]/\WdAt K d H t lh S P bs n/\
 H ll=some (.lst (js.map fun j=>V.str (nmF P j)))/\(∀j∈js,j < n)/\js.Nodup/\js.length<=12/\H am=some (.dK ka)/\AD ka f/\ss.Perm (qd1 ka)/\vF ss=true/\ss.length<=6/\
 ((∀j∈js,∀w∈ss,0<=qb5 S P bs f j w)->∀H',qar H H'->Q .non H')/\
 ∀j w,j∈js->w∈ss->qb5 S P bs f j w < 0->∀(p l:Addr) (ps:List Pr) H',qar H H'->H p=none->H' p=some (.tup [.str (nmF P j),.str w,.ref l])->H l=none->H' l=some (.lst (prV ps))->(∀p∈ps,PrAt H' p/\H p.a=none)->prZ ps=takeN w (bs.filter fun b=>decide (j∈qab (elN P.es) b.R.i))->Q (.ref p) H'
include T in
theorem wai:FnOk P w K mg base CX0 20 d.w5e d.w4b ["tree","holds","line","amounts"] (w9m K d):=by
 refine T.w7b.ok w4c (fun vs H Q E h=>?_) (fun cdv A outer s H vs Q E hr h=>?_)
 .obtain⟨t,lh,ll,am,S,P,bs,n,js,ka,f,ss,rfl,_⟩:=h;rfl
 obtain⟨t,lh,ll,am,S,P,bs,n,js,ka,f,ss,rfl,hW,hl,jn,jd,j12,ha,hA,hp,hs,s6,qn,q⟩:=h
 refine⟨_,(qa1 (qag (i:=4) w4c.nd rfl (uJ rfl) (qa8 ((w6d T).mono (by decide)) hr rfl T.w7j T.w57.kp T.w7g .nil qak (qa0 (pv 0) (qa0 (pv 1) (qa0 (pv 2) (qa0 (pv 3) qa2))))))
  (qa1 (qb7 uY rfl (qeq (pv 4)) (qac (i:=5) w4c.nd rfl (uJ rfl)) (qa5 (qbh (qam op_lt (qbt (qcb hr) (pv 4) (pv 5) (fun _ _=>rfl)) qa4 (qas _)) (qa5 (qai (qe2 (qa0 (qaj qan (pv 5) qa4 (fun _ _=>rfl)) (qa0 (qaj qan (pv 5) qa4 (fun _ _=>rfl)) (qa0 (qa8 ((wes T).mono (by decide)) hr rfl T.wg3 T.wd9.kp T.wg2 .nil qak (qa0 (pv 0) (qa0 (pv 1) (qa0 (qaj qan (pv 5) qa4 (fun _ _=>rfl)) (qa0 (qaj qan (pv 5) qa4 (fun _ _=>rfl)) qa2))))) qa2)))))) qaq)))
  (qa5 (qai qcy)))),?_⟩
 walk_at "d"
 refine qah (σ:=[some (.ref t),some (.ref lh),some (.ref ll),some (.ref am),none,none]) rfl ?_
 left
 refine⟨t,lh,ll,am,S,P,bs,n,js,ka,f,ss,rfl,hW,hl,jn,jd,j12,ha,hA,hp,hs,s6,fun rm H1 s1 hrm er=>?_⟩
 have snd:ss.Nodup:=hp.nodup_iff.mpr hA.knd
 have knd:=rm_nd (val:=qb5 S P bs f) (fun a ha b hb e=>hW.pl.inj a b (jn a ha) (jn b hb) e) jd snd
 have full:∀j∈js,∀w∈ss,∃i:Nat,(qcv P js ss (qb5 S P bs f))[i]?=some (([vE (nmF P j),vE w]:List Key),V.int (qb5 S P bs f j w)):=fun j hj w hw=>by
  have hm:(([vE (nmF P j),vE w]:List Key),V.int (qb5 S P bs f j w))∈qcv P js ss (qb5 S P bs f):=bY.mpr ⟨j,hj,zI.mpr ⟨w,hw,rfl⟩⟩
  obtain⟨i,hi,e⟩:=zO.mp hm
  exact⟨i,by rw [zA hi,e]⟩
 have hget:=fun {i:Nat} {k:List Key} {v:V} (h:(qcv P js ss (qb5 S P bs f))[i]?=some (k,v))=>rm_get h
 generalize qcv P js ss (qb5 S P bs f)=kvs at*
 left
 refine r_iDT ?_
 left
 refine r_itDT er fun o=>?_
 have sF:∀{H':Hp},qar (upd H1 rm (.frz o (.dT kvs))) H'->qar H H':=fun s b u hb=>s b u (by rw [qa6 (fun z=>by subst z;rw [hrm] at hb;cases hb)];exact s1 b u hb)
 refine qge (fun i σ H'=>H'=upd H1 rm (.frz o (.dT kvs))/\(∃w:Option V,σ=[some (.ref t),some (.ref lh),some (.ref ll),some (.ref am),some (.ref rm),w])/\∀(i' j:Nat) (w:Str),i' < i->kvs[i']?=some (([vE (nmF P j),vE w]:List Key),V.int (qb5 S P bs f j w))->0<=qb5 S P bs f j w)
  ⟨rfl,⟨_,rfl⟩,fun i' j w h=>absurd h (by omega)⟩ ?_ ?_ ?_
 .rintro i σ H' _ ⟨rfl,_⟩
  exact qa3
 .rintro i k v b σ H' hk hb ⟨rfl,⟨w0,rfl⟩,hall⟩
  obtain⟨j,hj,w,hw,rfl,rfl⟩:=hget hk
  have hv:=valV_at knd hk
  have hb:upd H1 rm (.frz o (.dT kvs)) b=some (.tup [.str (nmF P j),.str w]):=hb
  have hR:Rd (upd H1 rm (.frz o (.dT kvs))) rm (.dT kvs):=.inr ⟨o,qa3⟩
  left
  refine r_dgT (k:=[vE (nmF P j),vE w]) hR hb hv ?_
  left
  refine i_2 (fun c=>?_) (fun c=>?_)
  .have hW1:=hW.same (sF (qar.refl _))
   obtain⟨⟨e,ae⟩,dp⟩:=hW.hs j (jn j hj)
   left
   refine⟨t,lh,S,P,bs,nmF P j,w,e,rfl,hW1.tr,hW.wf,ae,dp,hW1.h,hW.h63,hW1.ob,fun l zs ps H2 s2 hl2 hBen el hp2 hn2 _=>?_⟩
   have euf:bs.filter (inZ P zs)=bs.filter fun b=>decide (j∈qab (elN P.es) b.R.i):=by
    refine yN fun b hb=>?_
    unfold inZ
    have:=hW.pl.benIff (jn j hj) hBen (k:=b.R.i) (by have:=(hW.ob b hb).il;rw [hW.nn] at this;exact this)
    exact decide_eq_decide.mpr this
   rw [euf] at hn2
   left
   rename_i p3 hp3
   have free:∀{a:Addr},upd H1 rm (.frz o (.dT kvs)) a=none->H a=none:=fun {a} h=>(sF (qar.refl _)).free h
   exact q j w hj hw c p3 l ps _ (qfz (sF s2) hp3) (free (s2.free hp3)) qa3 (free hl2) (qae el hp3) (fun x hx=>⟨qae (hp2 x hx).1 hp3,free (hp2 x hx).2⟩) hn2
  .left
   refine⟨rfl,⟨_,rfl⟩,fun i' j' w' hi' hk'=>?_⟩
   by_cases e:i'=i
   .subst e
    rw [hk] at hk'
    obtain⟨e1,e2⟩:=cK (uX hk')
    have e3:qb5 S P bs f j w=qb5 S P bs f j' w':=V.int.inj e2
    omega
   .exact hall i' j' w' (by omega) hk'
 .rintro σ H' ⟨rfl,⟨w0,rfl⟩,hall⟩
  left
  refine qn (fun j hj w hw=>?_) _ (sF (qar.refl _))
  obtain⟨i,hi⟩:=full j hj w hw
  exact hall i j w (uH.mp hi).1 hi
noncomputable def wej (K:uR) (d:Ad):Sp:=fun vs H Q _=>∃(t lh am:Addr) (S:Ts) (P:PL) (bs:List Ob) (n j:Nat) (ka:List (Key × V)) (f:Str->Option Int) (ss:List Str) (r:Int) (s:Bool),vs=[.ref t,.ref lh,.str (nmF P j),.ref am,.int r,.bl s]/\WdAt K d H t lh S P bs n/\n<=12/\j < n/\
 H am=some (.dK ka)/\AD ka f/\ss.Perm (qd1 ka)/\vF ss=true/\ss.length<=6/\
 ((∀i∈qab (elN P.es) j,∀w∈ss,0<=qb5 S P (bs.filter (qat r s)) f i w)->∀H',qar H H'->Q .non H')/\
 ∀i w,i∈qab (elN P.es) j->w∈ss->qb5 S P (bs.filter (qat r s)) f i w < 0->∀(p l:Addr) (ps:List Pr) H',qar H H'->H p=none->H' p=some (.tup [.str (nmF P i),.str w,.ref l])->H l=none->H' l=some (.lst (prV ps))->(∀p∈ps,PrAt H' p/\H p.a=none)->prZ ps=takeN w ((bs.filter (qat r s)).filter fun b=>decide (i∈qab (elN P.es) b.R.i))->Q (.ref p) H'
include T in
theorem wef:FnOk P w K mg base CX0 21 d.wa1 d.w7x ["tree","holds","house","amounts","rank","sure"] (wej K d):=by
 refine T.wd8.ok wev (fun vs H Q E h=>?_) (fun cdv A outer s H vs Q E hr h=>?_)
 .obtain⟨t,lh,am,S,P,bs,n,j,ka,f,ss,r,s,rfl,_⟩:=h;rfl
 obtain⟨t,lh,am,S,P,bs,n,j,ka,f,ss,r,s',rfl,hW,n12,jn,ha,hA,hp,hs,s6,qn,q⟩:=h
 refine⟨_,(qa5 (qai (qa8 ((wai T).mono (by decide)) hr rfl T.wb0 T.w7b.kp T.waz .nil qak (qa0 (pv 0) (qa0 (qa8 ((wdf T).mono (by decide)) hr rfl T.we7 T.wch.kp T.we5 .nil qak (qa0 (pv 1) (qa0 (pv 4) (qa0 (pv 5) qa2)))) (qa0 (qb4 (W:=fun _ _ _ _=>False) (pv 0) T.w01 T.w0t ((w3o T).mono (by decide)) hr T.w4l .nil qei (qa0 (pv 2) qa2)) (qa0 (pv 3) qa2))))))),?_⟩
 walk_at "d"
 refine qah (σ:=[some (.ref t),some (.ref lh),some (.str (nmF P j)),some (.ref am),some (.int r),some (.bl s')]) rfl ?_
 left
 refine⟨lh,P,bs,r,s',rfl,hW.h,hW.h63,hW.ob,fun lf hlf=>?_⟩
 have hW1:=hW.fix hlf r s'
 have s1:=qa9 hlf (.lst (bsV (bs.filter (qat r s'))))
 generalize upd H lf (.lst (bsV (bs.filter (qat r s'))))=H1 at*
 have ct:=T.w01
 obtain⟨dx,ht⟩:=id hW1.tr.1
 left
 refine⟨t,S,.str (nmF P j),rfl,hW1.tr,.inl ⟨nmF P j,(qab (elN P.es) j).map (nmF P),rfl,hW.pl.line j jn,by rw [zB];have:=qc2 hW.pl.low j jn;omega,fun ll hll=>?_⟩⟩
 have lle:=qcf hW.pl.low j jn
 have lnd:(qab (elN P.es) j).Nodup:=aF (fun h z=>by omega) (qg9 hW.pl.low j jn)
 have l12:(qab (elN P.es) j).length<=12:=by have:=qc2 hW.pl.low j jn;omega
 have lself:=qch hW.pl.low jn
 have s2:=s1.trans (qa9 hll (.lst (((qab (elN P.es) j).map (nmF P)).map V.str)))
 have hW2:=hW1.same (qa9 hll (.lst (((qab (elN P.es) j).map (nmF P)).map V.str)))
 have el:upd H1 ll (.lst (((qab (elN P.es) j).map (nmF P)).map V.str)) ll=some (.lst ((qab (elN P.es) j).map fun i=>V.str (nmF P i))):=by rw [qa3,yP];rfl
 generalize upd H1 ll (.lst (((qab (elN P.es) j).map (nmF P)).map V.str))=H2 at*
 clear hW1 s1 hll ht
 generalize qab (elN P.es) j=L at*
 left
 exact⟨t,lf,ll,am,S,P,bs.filter (qat r s'),n,L,ka,f,ss,rfl,hW2,el,fun i hi=>by have:=lle i hi;omega,lnd,l12,s2 _ _ ha,hA,hp,hs,s6,fun h H' s=>qn h H' (s2.trans s),fun i w hi hw c p l ps H' s3 hp' e1 hl e2 hps hn=>q i w hi hw c p l ps H' (s2.trans s3) (s2.free hp') e1 (s2.free hl) e2 (fun x hx=>⟨(hps x hx).1,s2.free (hps x hx).2⟩) hn⟩
noncomputable def wfp (K:uR) (d:Ad):Sp:=fun vs H Q _=>∃i:Int,vs=[.int i]/\Q (.bl true) H
include T in
theorem wdg:FnOk P w K mg base CX0 1 d.wbx d.wad ["_law_found"] (wfp K d):=by
 refine T.wby.ok wfq (fun vs H Q E h=>?_) (fun cdv A outer s H vs Q E hr h=>?_)
 .obtain⟨i,rfl,_⟩:=h;rfl
 obtain⟨i,rfl,q⟩:=h
 refine⟨_,(qa5 (qai (qe3 (qaf qb9 rfl T.w04 uV (qa0 (pv 0) (qa0 (qbu (v:=.ty "int") rfl T.wdv wY rfl) qa2))) (qdi (pe_not (qaf qb9 rfl T.w04 uV (qa0 (pv 0) (qa0 (qbu (v:=.ty "bool") rfl T.wgj PyProof.Rows.boot_bool rfl) qa2)))))))),?_⟩
 walk_at "d"
 refine qah (σ:=[some (.int i)]) rfl ?_
 left
 exact q
noncomputable def wcj (K:uR) (d:Ad):Sp:=fun vs H Q _=>∃(P:PL) (g:Gr),vs=[.ref g.p]/\GrAt H P g/\AD g.b.R.k g.b.R.f/\∀H',qar H H'->Q (.bl true) H'
include T in
theorem wcn:FnOk P w K mg base CX0 2 d.w70 d.w61 ["_law_row"] (wcj K d):=by
 refine T.w9g.ok w7t (fun vs H Q E h=>?_) (fun cdv A outer s H vs Q E hr h=>?_)
 .obtain⟨P,g,rfl,_⟩:=h;rfl
 obtain⟨P,g,rfl,hG,hA,q⟩:=h
 refine⟨_,(qa1 (qbh (PW.pt (qcr (qbj (qb6 (qaf qb9 rfl T.w04 uV (qa0 (pv 0) (qa0 (qbu (v:=.ty "tuple") rfl T.wf8 PyProof.Rows.boot_tuple rfl) qa2))))) (qcr (qam op_ne (qaf qay rfl T.w2t vH (qa0 (pv 0) qa2)) qa4 (qas _)) (qcr (qbj (qb6 (qa8 ((wdg T).mono (by decide)) hr rfl T.wfd T.wby.kp T.wf5 .nil qak (qa0 (qaj qan (pv 0) qa4 (fun _ _=>rfl)) qa2)))) (qd6 (qbj (qb6 (qaf qb9 rfl T.w04 uV (qa0 (qaj qan (pv 0) qa4 (fun _ _=>rfl)) (qa0 (qbu (v:=.ty "str") rfl T.wdq wW rfl) qa2)))))))))) (qa5 (qai qdc)) qaq)
  (qa1 (qbh (PW.pt (qcr (qbj (qb6 (qaf qb9 rfl T.w04 uV (qa0 (qaj qan (pv 0) qa4 (fun _ _=>rfl)) (qa0 (qbu (v:=.ty "dict") rfl T.w9c wU rfl) qa2))))) (qcr (qbj (qb6 (qaf qb9 rfl T.w04 uV (qa0 (qaj qan (pv 0) qa4 (fun _ _=>rfl)) (qa0 (qbu (v:=.ty "str") rfl T.wdq wW rfl) qa2))))) (qd6 (qbj (qb6 (qaf qb9 rfl T.w04 uV (qa0 (qaj qan (pv 0) qa4 (fun _ _=>rfl)) (qa0 (qbu (v:=.ty "str") rfl T.wdq wW rfl) qa2))))))))) (qa5 (qai qdc)) qaq)
  (qa1 (ps_thA (qb7 uY rfl (qec (qaj qan (pv 0) qa4 (fun _ _=>rfl))) (qac (i:=1) w7t.nd rfl (uJ rfl)) (qa5 (qbh (qbj (qb6 (qa8 ((wdg T).mono (by decide)) hr rfl T.wfd T.wby.kp T.wf5 .nil qak (qa0 (qbt (qcb hr) (qaj qan (pv 0) qa4 (fun _ _=>rfl)) (pv 1) (fun _ _=>rfl)) qa2)))) (qa5 (qai qdc)) qaq))))
  (qa5 (qai qdc))))),?_⟩
 walk_at "d"
 refine qah (σ:=[some (.ref g.p),none]) rfl ?_
 have htp:=hG.tup
 have hdc:=hG.dic
 left
 refine⟨_,rfl,?_⟩
 left
 refine r_itD hdc fun o=>?_
 have npm:g.p≠g.m:=fun z=>by rw [z,hdc] at htp;cases htp
 have htF:upd H g.m (.frz o (.dK g.b.R.k)) g.p=_:=(qa6 npm).trans htp
 have hF:upd H g.m (.frz o (.dK g.b.R.k)) g.m=some (.frz o (.dK g.b.R.k)):=qa3
 refine f_dict (fun i σ H'=>H'=upd H g.m (.frz o (.dK g.b.R.k))/\∃w2,σ=[some (.ref g.p),w2]) ⟨rfl,_,rfl⟩ ?_ ?_ ?_
 .rintro i σ H' _ ⟨rfl,_⟩;exact qa3
 .rintro i k v σ H' hk ⟨rfl,w2,rfl⟩
  obtain⟨z,n,rfl,rfl,hfz,hzi⟩:=hA.at hk
  have hRd:Rd (upd H g.m (.frz o (.dK g.b.R.k))) g.m (.dK g.b.R.k):=.inr ⟨o,hF⟩
  show qgd _ (.str z) _ _ _
  left
  refine⟨n,rfl,?_⟩
  left
  exact⟨rfl,_,rfl⟩
 .rintro σ H' ⟨rfl,w2,rfl⟩
  refine r_thNx (thaw1 hF (qdm hdc)) ?_
  have s2:=qcu hdc (sb_frz (o:=o) hdc)
  generalize upd (upd H g.m (.frz o (.dK g.b.R.k))) g.m (.dK g.b.R.k)=H2 at*
  left
  exact q _ s2
noncomputable def wbq (K:uR) (d:Ad):Sp:=fun vs H Q _=>∃(l:Addr) (P:PL) (gs:List Gr),vs=[.ref l]/\H l=some (.lst (grV gs))/\(∀g∈gs,GrAt H P g/\AD g.b.R.k g.b.R.f)/\∀H',qar H H'->Q (.bl true) H'
include T in
theorem wat:FnOk P w K mg base CX0 3 d.w64 d.w52 ["_law_given"] (wbq K d):=by
 refine T.w88.ok w76 (fun vs H Q E h=>?_) (fun cdv A outer s H vs Q E hr h=>?_)
 .obtain⟨l,P,gs,rfl,_⟩:=h;rfl
 obtain⟨l,P,gs,rfl,hl,hG,q⟩:=h
 refine⟨_,(qa1 (qbh (qbj (qb6 (qaf qb9 rfl T.w04 uV (qa0 (pv 0) (qa0 (qbu (v:=.ty "list") rfl T.wdb bQ rfl) qa2))))) (qa5 (qai qdc)) qaq)
  (qa1 (qb7 uY rfl (qau (pv 0)) (qac (i:=1) w76.nd rfl (uJ rfl)) (qa5 (qbh (qbj (qb6 (qa8 ((wcn T).mono (by decide)) hr rfl T.we4 T.w9g.kp T.wdn .nil qak (qa0 (pv 1) qa2)))) (qa5 (qai qdc)) qaq)))
  (qa5 (qai qdc)))),?_⟩
 walk_at "d"
 refine qah (σ:=[some (.ref l),none]) rfl ?_
 left
 refine qcz (xs:=grV gs) (fun i σ H'=>∃w:Option V,σ=[some (V.ref l),w]/\qar H H') ⟨_,rfl,qar.refl _⟩ ?_ ?_ ?_
 .rintro i σ H' _ ⟨w,_,sm⟩;exact SqL.of (sm _ _ hl)
 .rintro i x σ H' hx ⟨w,rfl,sm⟩
  unfold grV at hx
  rw [zC] at hx
  obtain⟨g,hg,rfl⟩:=uU.mp hx
  have hgm:=zF hg
  left
  refine⟨P,g,rfl,(hG g hgm).1.same sm,(hG g hgm).2,fun H2 s2=>?_⟩
  left
  exact⟨_,rfl,sm.trans s2⟩
 .rintro σ H' ⟨w,rfl,sm⟩
  left
  exact q _ sm
structure WTr (K:uR) (d:Ad) (H:Hp) (w:Wd) (t lh:Addr) (S:Ts) (P:PL) (bs:List Ob):Prop where
 wd:WdAt K d H t lh S P bs (w.es.length+1)
 nm:P.nm=w.nm
 ws:P.ws=w.ws
 es:P.es=w.es
theorem WTr.same {K:uR} {d:Ad} {H H':Hp} {w:Wd} {t lh:Addr} {S:Ts} {P:PL} {bs:List Ob} (h:WTr K d H w t lh S P bs) (s:qar H H'):WTr K d H' w t lh S P bs:=⟨h.wd.same s,h.nm,h.ws,h.es⟩
noncomputable def akF (w:Wd):Str->Option Int:=tdF (w.ws.zip w.aps)
noncomputable def wfh (K:uR) (d:Ad):Sp:=fun vs H Q _=>∃(w:Wd) (t lh:Addr) (S:Ts) (P:PL) (bs:List Ob) (ss:List Str),vs=[.ref w.wt,.ref t,.ref lh]/\WAt H w/\WOk w/\WTr K d H w t lh S P bs/\ss.Perm (qd1 (tdK (w.ws.zip w.aps)))/\vF ss=true/\ss.length<=6/\
 ((∃p∈pls (qab (elN P.es) w.h) ss,qb5 S P (bs.filter (qat w.rk w.su)) (akF w) p.1 p.2 < 0)->∀H',qar H H'->Q .non H')/\
 ((∀p∈pls (qab (elN P.es) w.h) ss,0<=qb5 S P (bs.filter (qat w.rk w.su)) (akF w) p.1 p.2)->∀(l:Addr) (gs:List Gr) (H':Hp),qar H H'->H l=none->H' l=some (.lst (grV gs))->(∀g∈gs,GrAt H' P g/\g.b∈bs/\H g.m=none/\H g.p=none)->gs.map (fun g=>(g.b,g.c))=(clL P (pls (qab (elN P.es) w.h) ss) (fun p=>qb5 S P (bs.filter (qat w.rk w.su)) (akF w) p.1 p.2) (bs.filter (qaw w.rk w.su))).2->Q (.ref l) H')
include T in
theorem wfu:FnOk P w K mg base CX0 22 d.wcr d.w9l ["_law_world_here","_law_tree_here","_law_objects_here"] (wfh K d):=by
 refine T.wf4.ok w4e (fun vs H Q E h=>?_) (fun cdv A outer s H vs Q E hr h=>?_)
 .obtain⟨w,t,lh,S,P,bs,ss,rfl,_⟩:=h;rfl
 obtain⟨w,t,lh,S,P,bs,ss,rfl,hw,ok,ht,hp,hs,s6,qn,q⟩:=h
 refine⟨_,(qa1 (qej (pv 0) (qd7 rfl (qad (qac (i:=3) w4e.nd rfl (uJ rfl)) (qad (qac (i:=4) w4e.nd rfl (uJ rfl)) (qad (qac (i:=5) w4e.nd rfl (uJ rfl)) (qad (qac (i:=6) w4e.nd rfl (uJ rfl)) (qad (qac (i:=7) w4e.nd rfl (uJ rfl)) (qad (qac (i:=8) w4e.nd rfl (uJ rfl)) qca))))))))
  (qa5 (qai (qa8 ((wer T).mono (by decide)) hr rfl T.wfk T.wdc.kp T.wfn .nil qak (qa0 (pv 1) (qa0 (pv 2) (qa0 (qaj qal (pv 3) (qaj qan (pv 7) qa4 (fun _ _=>rfl)) (fun _ _=>rfl)) (qa0 (qa8 ((w5t T).mono (by decide)) hr rfl T.w83 T.w7c.kp T.w8r .nil qak (qa0 (pv 4) (qa0 (qaj qan (pv 7) qa4 (fun _ _=>rfl)) qa2))) (qa0 (qaj qan (pv 7) qa4 (fun _ _=>rfl)) (qa0 (qaj qan (pv 7) qa4 (fun _ _=>rfl)) qa2)))))))))),?_⟩
 walk_at "d"
 refine qah (σ:=[some (.ref w.wt),some (.ref t),some (.ref lh),none,none,none,none,none,none]) rfl ?_
 have htp:=hw.tup
 have hla:=hw.la
 have nl:=ht.wd.nn
 have xn:atI (w.nm.map V.str) ((w.h:Nat):Int)=some (.str (nmF P w.h)):=by
  have e:w.h < P.nm.length:=by rw [nl];exact ok.hh
  rw [qd9 e,<-ht.nm]
  exact qax (by rw [zC,zA e];rfl)
 have hh:=ok.hh
 have e5:=ok.e5
 have apl:=ok.apl
 have w6:=ok.w6
 generalize hhi:((w.h:Nat):Int)=hi at*
 left
 refine qb3 (SqL.of hw.ln) xn ?_
 left
 refine⟨w.lw,w.pa,w.ws,w.aps,rfl,SqL.of hw.lw,SqL.of hw.pa,apl.symm,by omega,fun am H1 s1 ham eam=>?_⟩
 have hla1:=s1 _ _ hla
 clear htp hla
 left
 refine⟨t,lh,am,S,P,bs,_,w.h,tdK (w.ws.zip w.aps),akF w,ss,w.rk,w.su,rfl,ht.wd.same s1,by omega,hh,eam,td_ad _,hp,hs,s6,fun c H2 s2=>?_,fun c l gs H2 s2 hl el hG hgs=>?_⟩
 .left
  exact qn c _ (s1.trans s2)
 .left
  exact q c l gs H2 (s1.trans s2) (s1.free hl) el (fun g hg=>⟨(hG g hg).1,(hG g hg).2.1,s1.free (hG g hg).2.2.1,s1.free (hG g hg).2.2.2⟩) hgs
noncomputable def capN (w:Wd) (p:Pc):Int:=gN (tdF (w.ws.zip (csD w.cs p.1))) p.2
noncomputable def qfd (w:Wd) (Bs:List Rw) (p:Pc):Int:=((Bs.filter fun R=>decide (p.1∈qab (elN w.es) R.i)).map fun R=>gN (tdF (w.ws.zip R.ps)) p.2).sum
noncomputable def bad (w:Wd) (Bs:List Rw) (p:Pc):Bool:=decide (0 < gN (akF w) p.2) && decide (capN w p < qfd w Bs p+gN (akF w) p.2)
theorem pls_app (a b:List Nat) (ss:List Str):pls (a++b) ss=pls a ss++pls b ss:=by unfold pls;rw [List.flatMap_append]
theorem find_pls {js:List Nat} {ss:List Str} {i c j:Nat} {z:Str} {f:Pc->Bool} (hj:js[i]?=some j) (hz:ss[c]?=some z) (h1:∀j'∈js.take i,∀z'∈ss,f (j',z')=false) (h2:∀z'∈ss.take c,f (j,z')=false) (hf:f (j,z)=true):(pls js ss).find? f=some (j,z):=by
 have hi:=(uH.mp hj).1
 have e:js=js.take i++(j :: js.drop (i+1)):=by
  have:=bU i js
  rw [wZ hi,(uH.mp hj).2] at this
  exact this.symm
 rw [e,pls_app,List.find?_append]
 have n1:(pls (js.take i) ss).find? f=none:=yX.mpr fun p hp=>by
  obtain⟨a,b⟩:=qe1 hp
  rw [h1 p.1 a p.2 b];exact uE
 rw [n1]
 show (pls (j :: js.drop (i+1)) ss).find? f=_
 show (ss.map (fun w=>(j,w))++pls (js.drop (i+1)) ss).find? f=_
 rw [List.find?_append]
 have n2:(ss.map (fun w=>(j,w))).find? f=some (j,z):=find_take (i:=c) (by rw [zC,hz];rfl) (fun y hy=>by
  rw [<-List.map_take] at hy
  obtain⟨w,hw,rfl⟩:=zI.mp hy
  exact h2 w hw) hf
 rw [n2];rfl
theorem find_pls_no {js:List Nat} {ss:List Str} {f:Pc->Bool} (h1:∀j∈js,∀z∈ss,f (j,z)=false):(pls js ss).find? f=none:=yX.mpr fun p hp=>by
 obtain⟨a,b⟩:=qe1 hp
 rw [h1 p.1 a p.2 b];exact uE
theorem sumZ_eq {w:Wd} {Bs:List Rw} {a j:Nat} (nd:w.ws.Nodup) (hj:j < w.ws.length) (h:∀R∈Bs,R.ps.length=w.ws.length/\∀p∈R.ps,PpOk p):qfd w Bs (a,w.ws[j])=qcj (elN w.es) Bs a j:=by
 unfold qfd qcj
 congr 1
 refine yV fun R hR=>?_
 obtain⟨l1,l2⟩:=h R (zY.mp hR).1
 show gN (tdF (w.ws.zip R.ps)) w.ws[j]=psN R j
 rw [qdf l1.symm nd (fun p hp=>(l2 p hp).lo) hj (by omega)]
 unfold psN
 rw [zA (by omega)];rfl
noncomputable def wfv (K:uR) (d:Ad):Sp:=fun vs H Q _=>∃(w:Wd) (ls:Addr) (P:PL) (Bs:List Rw) (sw:List Str),vs=[.ref w.wt,.ref ls]/\WAt H w/\WOk w/\P.nm=w.nm/\H ls=some (.lst (rwV Bs))/\(∀R∈Bs,RwAt H (w.es.length+1) w.ws.length R)/\Bs.length<=30/\sw.Perm w.ws/\vF sw=true/\
 ((pls (qab (elN w.es) w.h) sw).find? (bad w Bs)=none->∀H',qar H H'->Q .non H')/\∀p,(pls (qab (elN w.es) w.h) sw).find? (bad w Bs)=some p->∀a H',qar H H'->H a=none->H' a=some (.tup [.str (nmF P p.1),.str p.2])->Q (.ref a) H'
include T in
theorem wfj:FnOk P w K mg base CX0 4 d.wcv d.w9u ["_law_world_here","_law_some"] (wfv K d):=by
 refine T.wek.ok w1z (fun vs H Q E h=>?_) (fun cdv A outer s H vs Q E hr h=>?_)
 .obtain⟨w,ls,P,Bs,sw,rfl,_⟩:=h;rfl
 obtain⟨w,ls,P,Bs,sw,rfl,hw,ok,hPn,hl,hB,b30,hp,hs,qn,q⟩:=h
 refine⟨_,(qa1 (qej (pv 0) (qd7 rfl (qad (qac (i:=2) w1z.nd rfl (uJ rfl)) (qad (qac (i:=3) w1z.nd rfl (uJ rfl)) (qad (qac (i:=4) w1z.nd rfl (uJ rfl)) (qad (qac (i:=5) w1z.nd rfl (uJ rfl)) (qad (qac (i:=6) w1z.nd rfl (uJ rfl)) (qad (qac (i:=7) w1z.nd rfl (uJ rfl)) qca))))))))
  (qa1 (qb7 uY rfl (qau (qaj qal (pv 4) (qaj qan (pv 6) qa4 (fun _ _=>rfl)) (fun _ _=>rfl))) (qac (i:=8) w1z.nd rfl (uJ rfl)) (qa5 (qb7 uY rfl (qau (qaf qeh rfl T.w6b xH (qa0 (pv 3) qa2))) (qac (i:=9) w1z.nd rfl (uJ rfl)) (qa1 (qag (i:=10) w1z.nd rfl (uJ rfl) (qdb uZ wQ xL qf2 (pv 3) (qa0 (pv 9) qa2)))
  (qa1 (qag (i:=11) w1z.nd rfl (uJ rfl) (qa8 ((wbp T).mono (by decide)) hr rfl T.wfb T.wdx.kp T.wf9 .nil qak (qa0 (pv 1) (qa0 (pv 4) (qa0 (pv 8) (qa0 (pv 10) qa2))))))
  (qa5 (qbh (PW.pt (pw_and (qam qe4 (qaj qal (qaj qan (pv 6) qa4 (fun _ _=>rfl)) (pv 10) (fun _ _=>rfl)) qa4 (qas _)) (qg3 (qam qe4 (qao qb2 (pv 11) (qaj qal (qaj qan (pv 6) qa4 (fun _ _=>rfl)) (pv 10) (fun _ _=>rfl))) (qaj qal (qaj qal (pv 7) (pv 8) (fun _ _=>rfl)) (pv 10) (fun _ _=>rfl)) (qas _))))) (qa5 (qai (qe2 (qa0 (qaj qal (pv 2) (pv 8) (fun _ _=>rfl)) (qa0 (pv 9) qa2))))) qaq)))))))
  (qa5 (qai qcy)))),?_⟩
 walk_at "d"
 refine qah (σ:=[some (.ref w.wt),some (.ref ls),none,none,none,none,none,none,none,none,none,none]) rfl ?_
 have htp:=hw.tup
 have hla:=hw.la
 have etop:=hw.le.top
 obtain⟨xh,_,axh,exh⟩:=hw.le.at ok.hh
 have low:=qd4 (fun k e h=>(hw.le.lo k e h).1) (w.es.length+1)
 have lle:=qcf low w.h ok.hh
 have hh:=ok.hh
 have w6:=ok.w6
 generalize hhi:((w.h:Nat):Int)=hi at*
 left
 refine qb3 (SqL.of etop) axh ?_
 left
 refine qcz (xs:=(qab (elN w.es) w.h).map iV) (fun i σ H'=>∃(w8 w9 w10 w11:Option V),σ=[some (V.ref w.wt),some (V.ref ls),some (V.ref w.ln),some (V.ref w.lw),some (V.ref w.le),some (V.ref w.lr),some (V.ref w.la),some (V.ref w.lc),w8,w9,w10,w11]/\qar H H'/\∀j∈(qab (elN w.es) w.h).take i,∀z∈sw,bad w Bs (j,z)=false) ⟨_,_,_,_,rfl,qar.refl _,fun j hj=>by simp at hj⟩ ?_ ?_ ?_
 .rintro i σ H' _ ⟨w8,w9,w10,w11,_,sm,_⟩;exact SqL.of (sm _ _ exh)
 .rintro i x σ H' hx ⟨w8,w9,w10,w11,rfl,sm,hno⟩
  rw [zC] at hx
  obtain⟨a,ha,rfl⟩:=uU.mp hx
  have tka:(qab (elN w.es) w.h).take (i+1)=(qab (elN w.es) w.h).take i++ [a]:=by rw [zL,ha];rfl
  have hal:=lle a (zF ha)
  have han:a < w.es.length+1:=by omega
  obtain⟨ec,ecl,ecb,xc⟩:=hw.cs.at (k:=a) (by rw [ok.cl];exact han)
  have hlw':=sm _ _ hw.lw
  clear hx axh etop htp hla
  unfold iV
  generalize hai:((a:Nat):Int)=ai at*
  left
  refine r_sortL (SqL.of hlw') (by omega) fun l ss' hl2 hp2 hs2=>?_
  have ess:ss'=sw:=sort_eq (hp2.trans hp.symm) hs2 hs
  subst ess
  have s2:=qa9 hl2 (.lst (ss'.map V.str))
  have el2:upd H' l (.lst (ss'.map V.str)) l=some (.lst (ss'.map V.str)):=qa3
  generalize upd H' l (.lst (ss'.map V.str))=H2 at*
  have t2:=sm.trans s2
  clear hp2 hs2 hl2 hlw'
  left
  refine qcz (xs:=ss'.map V.str) (fun c σ H3=>∃(w9 w10 w11:Option V),σ=[some (V.ref w.wt),some (V.ref ls),some (V.ref w.ln),some (V.ref w.lw),some (V.ref w.le),some (V.ref w.lr),some (V.ref w.la),some (V.ref w.lc),some (V.int ai),w9,w10,w11]/\qar H2 H3/\∀z∈ss'.take c,bad w Bs (a,z)=false) ⟨_,_,_,rfl,qar.refl _,fun z hz=>by simp at hz⟩ ?_ ?_ ?_
  .rintro c σ H3 _ ⟨w9,w10,w11,_,s3,_⟩;exact SqL.of (s3 _ _ el2)
  .rintro c x σ H3 hx ⟨w9,w10,w11,rfl,s3,hnc⟩
   rw [zC] at hx
   obtain⟨z,hz,rfl⟩:=uU.mp hx
   have tkz:ss'.take (c+1)=ss'.take c++ [z]:=by rw [zL,hz];rfl
   obtain⟨j,hj,rfl⟩:=zO.mp (hp.mem_iff.mp (zF hz))
   have t3:=t2.trans s3
   have hw3:=hw.same t3
   have la3:=hw3.la
   have lw3:=hw3.lw
   rw [hhi] at la3
   have hap:j < w.aps.length:=by rw [ok.apl];exact hj
   have hcj:j <(csD w.cs a).length:=by rw [ecl];exact hj
   have x1:atI (w.aps.map V.int) ((j:Nat):Int)=some (.int w.aps[j]):=qax (by rw [zC,zA hap];rfl)
   have x2:atI ((csD w.cs a).map V.int) ((j:Nat):Int)=some (.int (csD w.cs a)[j]):=qax (by rw [zC,zA hcj];rfl)
   have x3:atI (w.nm.map V.str) ai=some (.str (nmF P a)):=by
    rw [<-hai,<-hPn]
    have e:a < P.nm.length:=by rw [hPn,ok.nms.len];exact han
    rw [qd9 e]
    exact qax (by rw [zC,zA e];rfl)
   have v1:gN (akF w) w.ws[j]=w.aps[j]:=qdf ok.apl.symm ok.wsn.nd (fun p hp=>(ok.apn p hp).lo) hj hap
   have v2:capN w (a,w.ws[j])=(csD w.cs a)[j]:=qdf ecl.symm ok.wsn.nd (fun p hp=>(ecb p hp).1) hj hcj
   have v3:qfd w Bs (a,w.ws[j])=qcj (elN w.es) Bs a j:=sumZ_eq ok.wsn.nd hj fun R hr=>⟨(hB R hr).len,(hB R hr).nn⟩
   have ebad:bad w Bs (a,w.ws[j])=(decide (0 < w.aps[j]) && decide ((csD w.cs a)[j] < qcj (elN w.es) Bs a j+w.aps[j])):=by
    unfold bad
    rw [v2,v3]
    show (decide (0 < gN (akF w) w.ws[j]) && decide (_ < _+gN (akF w) w.ws[j]))=_
    rw [v1]
   generalize w.aps[j]=av at*
   generalize (csD w.cs a)[j]=cv at*
   clear hx v1 v2 v3
   left
   refine r_idxS (SqL.of hw3.lw) ok.wsn.nd hj ?_
   generalize hji:((j:Nat):Int)=ji at*
   left
   refine⟨ls,w.le,w.las,Bs,w.es,_,w.ws.length,a,j,by rw [hai,hji],t3 _ _ hl,b30,fun R hr=>(hB R hr).same t3,hw3.le,rfl,hj,fun H4 s4=>?_⟩
   generalize qcj (elN w.es) Bs a j=sv at*
   have hw4:=hw3.same s4
   have la4:=hw4.la
   rw [hhi] at la4
   have t4:=t3.trans s4
   clear la3
   left
   refine qb3 (SqL.of hw4.pa) x1 ?_
   left
   have nofin:bad w Bs (a,w.ws[j])=false->∀z∈ss'.take (c+1),bad w Bs (a,z)=false:=fun e z hz2=>by
    rw [tkz] at hz2
    rcases zT.mp hz2 with h|h
    .exact hnc z h
    .rw [zH.mp h];exact e
   refine i_2 (fun c1=>?_) (fun c1=>?_)
   .left
    refine qb3 (SqL.of hw4.pa) x1 ?_
    left
    refine qb3 (SqL.of hw4.lc) xc ?_
    left
    refine qb3 (SqL.of (t4 _ _ ec)) x2 ?_
    left
    refine i_2 (fun c2=>?_) (fun c2=>?_)
    .left
     refine qb3 (SqL.of hw4.ln) x3 ?_
     left
     rename_i pp hpp
     exact q (a,w.ws[j]) (find_pls ha hz hno hnc (by rw [ebad,gU c1,gU c2];rfl)) pp _ (t4.trans (qa9 hpp _)) (t4.free hpp) qa3
    .left
     exact⟨_,_,_,rfl,s3.trans s4,nofin (by rw [ebad,gW c2,Bool.and_false])⟩
   .left
    exact⟨_,_,_,rfl,s3.trans s4,nofin (by rw [ebad,gW c1,Bool.false_and])⟩
  .rintro σ H3 ⟨w9,w10,w11,rfl,s3,hnc⟩
   rw [zB,zP] at hnc
   left
   refine⟨_,_,_,_,rfl,t2.trans s3,fun j hj z hz=>?_⟩
   rw [tka] at hj
   rcases zT.mp hj with h|h
   .exact hno j h z hz
   .rw [zH.mp h];exact hnc z hz
 .rintro σ H' ⟨w8,w9,w10,w11,rfl,sm,hno⟩
  rw [zB,zP] at hno
  left
  exact qn (find_pls_no hno) _ sm
noncomputable def sO (P:PL) (p:Pc) (l:List Ob):Int:=(l.map fun b=>prN P b p).sum
theorem qdt (P:PL) (p:Pc) (b:Ob) (l:List Ob):sO P p (b :: l)=prN P b p+sO P p l:=by unfold sO;rw [zS,yT]
theorem sO_app (P:PL) (p:Pc) (a b:List Ob):sO P p (a++b)=sO P p a+sO P p b:=by unfold sO;rw [zD,List.sum_append]
theorem qg0 (P:PL) (p:Pc) (f g:Ob->Bool):∀l:List Ob,sO P p (l.filter f)=sO P p ((l.filter g).filter f)+sO P p ((l.filter fun x=>!g x).filter f)
 | []=>rfl
 |b :: l=>by
  have ih:=qg0 P p f g l
  rw [zJ,zJ,zJ]
  cases hg:g b with
  |true=>
   rw [gT rfl,gS (show ¬(!true)=true from uE),zJ]
   cases hf:f b with
   |true=>rw [gT rfl,gT rfl,qdt,qdt];omega
   |false=>rw [gS uE,gS uE];exact ih
  |false=>
   rw [gS uE,gT (show (!false)=true from rfl),zJ]
   cases hf:f b with
   |true=>rw [gT rfl,gT rfl,qdt,qdt];omega
   |false=>rw [gS uE,gS uE];exact ih
noncomputable def gnm (l:List (Ob × Pc)):List Int:=l.map fun x=>x.1.R.n
theorem qfm (P:PL) (ps:List Pc):∀(C:List Ob) (st:(Pc->Int) × List (Ob × Pc)),∃D,(C.foldl (clF P ps) st).2=st.2++D/\∀x∈D,x.1∈C
 | [],st=>⟨[],by rw [yA];rfl,fun x hx=>by simp at hx⟩
 |c :: C,st=>by
  rw [yQ]
  obtain⟨D,h1,h2⟩:=qfm P ps C (clF P ps st c)
  cases hf:ps.find? (fun p=>decide (st.1 p < prN P c p)) with
  |none=>
   refine⟨D,?_,fun x hx=>zE _ (h2 x hx)⟩
   rw [h1,qcp hf]
  |some q=>
   refine⟨(c,q) :: D,?_,fun x hx=>?_⟩
   .rw [h1,qco hf]
    show st.2++ [(c,q)]++D=_
    rw [bP];rfl
   .rcases zR.mp hx with h|h
    .rw [h];exact zG ..
    .exact zE _ (h2 x h)
theorem cl_mem (P:PL) (ps:List Pc) {x:Ob × Pc}:∀(C:List Ob) (st:(Pc->Int) × List (Ob × Pc)),x∈(C.foldl (clF P ps) st).2->x∈st.2\/∃A B,C=A++x.1 :: B/\ps.find? (fun p=>decide ((A.foldl (clF P ps) st).1 p < prN P x.1 p))=some x.2
 | [],st,h=> .inl h
 |c :: C,st,h=>by
  rw [yQ] at h
  rcases cl_mem P ps C (clF P ps st c) h with h|⟨A,B,e,hf⟩
  .cases hq:ps.find? (fun p=>decide (st.1 p < prN P c p)) with
   |none=>rw [qcp hq] at h;exact .inl h
   |some q=>
    rw [qco hq] at h
    rcases zT.mp h with h|h
    .exact .inl h
    .have h:=zH.mp h
     subst h
     exact .inr ⟨[],C,rfl,hq⟩
  .exact .inr ⟨c :: A,B,by rw [e];rfl,hf⟩
theorem cl_val (P:PL) (ps:List Pc) (p:Pc):∀(C:List Ob) (st:(Pc->Int) × List (Ob × Pc)) (D:List (Ob × Pc)),(C.map fun b=>b.R.n).Nodup->(C.foldl (clF P ps) st).2=st.2++D->(C.foldl (clF P ps) st).1 p=st.1 p - sO P p (C.filter fun x=>decide (x.R.n∉gnm D))
 | [],st,D,_,_=>by show st.1 p=st.1 p - 0;omega
 |c :: C,st,D,nd,hD=>by
  rw [zS,yC] at nd
  rw [yQ] at hD ⊢
  obtain⟨D',e',m'⟩:=qfm P ps C (clF P ps st c)
  have ih:=cl_val P ps p C (clF P ps st c) D' nd.2 e'
  have cn:∀x∈D',x.1.R.n≠c.R.n:=fun x hx e=>nd.1 (by rw [<-e];exact zI.mpr ⟨x.1,m' x hx,rfl⟩)
  rw [ih]
  cases hf:ps.find? (fun p=>decide (st.1 p < prN P c p)) with
  |none=>
   rw [qcp hf] at e' ⊢
   have eD:D=D':=List.append_cancel_left (hD.symm.trans (by rw [qcp hf];exact e'))
   subst eD
   have hc:c.R.n∉gnm D:=fun hm=>by
    obtain⟨x,hx,e⟩:=zI.mp hm
    exact cn x hx e
   rw [zJ,gT (gU hc),qdt]
   show st.1 p - prN P c p - _=_
   omega
  |some q=>
   rw [qco hf] at e' ⊢
   have eD:D=(c,q) :: D':=List.append_cancel_left (hD.symm.trans (by rw [qco hf];exact e'.trans (by show st.2++ [(c,q)]++D'=_;rw [bP];rfl)))
   subst eD
   have hc:c.R.n∈gnm ((c,q) :: D'):=zG ..
   rw [zJ,gS (by rw [gW (not_not_intro hc)];exact uE)]
   have ef:(C.filter fun x=>decide (x.R.n∉gnm ((c,q) :: D')))=C.filter fun x=>decide (x.R.n∉gnm D'):=yN fun x hx=>by
    have ne:x.R.n≠c.R.n:=fun e=>nd.1 (by rw [<-e];exact zI.mpr ⟨x,hx,rfl⟩)
    refine decide_eq_decide.mpr ⟨fun h hm=>h (zE _ hm),fun h hm=>?_⟩
    rcases zR.mp hm with e|e
    .exact ne e
    .exact h e
   rw [ef]
noncomputable def besO (r:Int) (su:Bool) (gone:List Int) (m:Int) (b:Ob):Bool:=(decide (b.R.n=m) || decide (b.R.n∉gone)) && (decide (b.R.n<=m) || !qaw r su b)
theorem beside_eq {P:PL} {ps:List Pc} {v0:Pc->Int} {bs:List Ob} {r:Int} {su:Bool} {x:Ob × Pc} (up:(bs.map fun b=>b.R.n).Pairwise (·< ·)) (hx:x∈(clL P ps v0 (bs.filter (qaw r su))).2):
  ∃u:Pc->Int,ps.find? (fun p=>decide (u p < prN P x.1 p))=some x.2/\∀p,u p - prN P x.1 p=v0 p+sO P p (bs.filter (qat r su)) - sO P p (bs.filter (besO r su (gnm (clL P ps v0 (bs.filter (qaw r su))).2) x.1.R.n)):=by
 have hx':=hx
 unfold clL at hx'
 rcases cl_mem P ps _ _ hx' with h|⟨A,B,e,hf⟩
 .simp at h
 refine⟨_,hf,fun p=>?_⟩
 have upE:((bs.filter (qaw r su)).map fun b=>b.R.n).Pairwise (·< ·):=by
  rw [yO] at up ⊢
  exact up.sublist yS
 have ndE:((bs.filter (qaw r su)).map fun b=>b.R.n).Nodup:=upE.imp fun h e=>by omega
 have ndB:(bs.map fun b=>b.R.n).Nodup:=up.imp fun h e=>by omega
 obtain⟨DA,eA,mA⟩:=qfm P ps A (v0, [])
 have eA:(A.foldl (clF P ps) (v0, [])).2=[]++DA:=eA
 have upE2:=upE
 have ndE2:=ndE
 rw [e,zD,zS] at upE2 ndE2
 have vA:=cl_val P ps p A (v0, []) DA (yJ.mp ndE2).1 eA
 obtain⟨DB,eB,mB⟩:=qfm P ps (x.1 :: B) (A.foldl (clF P ps) (v0, []))
 have egone:(clL P ps v0 (bs.filter (qaw r su))).2=DA++DB:=by
  unfold clL
  rw [e,bO,eB,eA];rfl
 rw [egone]
 have lt1:∀y∈A,y.R.n < x.1.R.n:=fun y hy=>(cJ.mp upE2).2.2 _ (zI.mpr ⟨y,hy,rfl⟩) _ (zG ..)
 have lt2:∀y∈B,x.1.R.n < y.R.n:=fun y hy=>yF (cJ.mp upE2).2.1 (zI.mpr ⟨y,hy,rfl⟩)
 have gB:∀y∈bs.filter (qaw r su),qaw r su y=true:=fun y hy=>(zY.mp hy).2
 have numIn:∀y∈bs,∀z∈DA++DB,z.1.R.n=y.R.n->qaw r su y=true:=fun y hy z hz en=>by
  have hzE:z.1∈bs.filter (qaw r su):=by
   rw [e]
   rcases zT.mp hz with h|h
   .exact yG _ (mA z h)
   .exact zX _ (mB z h)
  have hzb:=(zY.mp hzE).1
  obtain⟨i,hi,ei⟩:=zO.mp hzb
  obtain⟨j,hj,ej⟩:=zO.mp hy
  have hij:i=j:=by
   rcases dE i j with lt|lt|lt
   .have:=(zV.mp up) i j (by rw [zB];exact hi) (by rw [zB];exact hj) lt
    rw [yH,yH,ei,ej] at this
    omega
   .exact lt
   .have:=(zV.mp up) j i (by rw [zB];exact hj) (by rw [zB];exact hi) lt
    rw [yH,yH,ei,ej] at this
    omega
  subst hij
  rw [<-ej,ei]
  exact gB _ hzE
 have hsp:=qg0 P p (besO r su (gnm (DA++DB)) x.1.R.n) (qaw r su) bs
 have e1:(bs.filter fun y=>!qaw r su y).filter (besO r su (gnm (DA++DB)) x.1.R.n)=bs.filter (qat r su):=by
  have e0:(bs.filter fun y=>!qaw r su y)=bs.filter (qat r su):=yN fun y _=>by unfold qaw;rw [Bool.not_not]
  rw [e0]
  refine List.filter_eq_self.mpr fun y hy=>?_
  obtain⟨hyb,hys⟩:=zY.mp hy
  have hg:qaw r su y=false:=by unfold qaw;rw [hys];rfl
  have hng:y.R.n∉gnm (DA++DB):=fun hm=>by
   obtain⟨z,hz,ez⟩:=zI.mp hm
   have:=numIn y hyb z hz ez
   rw [hg] at this;cases this
  unfold besO
  rw [gU hng,hg,Bool.or_true]
  show (true && (_ || true))=true
  rw [Bool.or_true];rfl
 have e2:(bs.filter (qaw r su)).filter (besO r su (gnm (DA++DB)) x.1.R.n)=A.filter (fun y=>decide (y.R.n∉gnm DA))++ [x.1]:=by
  rw [e,zQ,zJ]
  have b1:besO r su (gnm (DA++DB)) x.1.R.n x.1=true:=by
   unfold besO
   rw [gU rfl,gU (vX _)];rfl
  rw [gT b1]
  have b2:B.filter (besO r su (gnm (DA++DB)) x.1.R.n)=[]:=dX.mpr fun y hy=>by
   have hg:qaw r su y=true:=gB y (by rw [e];exact zX _ (zE _ hy))
   have:=lt2 y hy
   unfold besO
   rw [hg,gW (show ¬y.R.n<=x.1.R.n by omega)]
   simp
  rw [b2]
  congr 1
  refine yN fun y hy=>?_
  have hg:qaw r su y=true:=gB y (by rw [e];exact yG _ hy)
  have h1:=lt1 y hy
  have hiff:(y.R.n∉gnm (DA++DB))↔y.R.n∉gnm DA:=by
   unfold gnm
   rw [zD,zT]
   refine⟨fun h hm=>h (.inl hm),fun h hm=>?_⟩
   rcases hm with hm|hm
   .exact h hm
   .obtain⟨z,hz,ez⟩:=zI.mp hm
    rcases zR.mp (mB z hz) with h2|h2
    .rw [h2] at ez;omega
    .have:=lt2 _ h2;omega
  unfold besO
  rw [gW (show ¬y.R.n=x.1.R.n by omega),gU (show y.R.n<=x.1.R.n by omega),cB,dS,Bool.and_true]
  exact decide_eq_decide.mpr hiff
 rw [e1,e2,sO_app,qdt] at hsp
 have z0:sO P p []=0:=rfl
 have vA:(A.foldl (clF P ps) (v0, [])).1 p=v0 p - sO P p (A.filter fun y=>decide (y.R.n∉gnm DA)):=vA
 omega
theorem pw_rising:∀{p:Str} {l:List Str},(p :: l).Pairwise leS->PyProof.Rows.risingS p l=true
 |p, [],_=>rfl
 |p,x :: r,h=>by
  have h1:=yF h (zG ..)
  unfold PyProof.Rows.risingS
  rw [vS,dA]
  exact⟨h1,pw_rising (List.Pairwise.of_cons h)⟩
theorem ins_ex (x:Str):∀{l:List Str},l.Pairwise leS->∃l':List Str,l'.Perm (x :: l)/\l'.Pairwise leS
 | [],_=>⟨[x],List.Perm.refl _,bG _ _⟩
 |y :: r,h=>by
  by_cases c:leS x y
  .refine⟨x :: y :: r,List.Perm.refl _,cS.mpr ⟨fun z hz=>?_,h⟩⟩
   rcases zR.mp hz with rfl|hz
   .exact c
   .exact leS_trans c (yF h hz)
  .have c':leS y x:=qdk.mpr ((List.le_total _ _).resolve_left fun z=>c (qdk.mpr z))
   obtain⟨l',hp,hl⟩:=ins_ex x (List.Pairwise.of_cons h)
   refine⟨y :: l',(hp.cons y).trans (List.Perm.swap x y r),cS.mpr ⟨fun z hz=>?_,hl⟩⟩
   rcases zR.mp (hp.mem_iff.mp hz) with rfl|hz
   .exact c'
   .exact yF h hz
theorem sort_ex:∀ss:List Str,∃ss':List Str,ss'.Perm ss/\vF ss'=true:=fun ss=>by
 have:∃ss':List Str,ss'.Perm ss/\ss'.Pairwise leS:=by
  induction ss with
  |nil=>exact⟨[],List.Perm.refl _,cY⟩
  |cons x r ih=>
   obtain⟨r',hp,hr⟩:=ih
   obtain⟨l',hp',hl⟩:=ins_ex x hr
   exact⟨l',hp'.trans (hp.cons x),hl⟩
 obtain⟨l,hp,hl⟩:=this
 refine⟨l,hp,?_⟩
 cases l with
 |nil=>rfl
 |cons x r=>exact pw_rising hl
theorem sk_eq {ws ss sw:List Str} {ps:List Int} (hl:ws.length=ps.length) (nd:ws.Nodup) (hp:ss.Perm (qd1 (tdK (ws.zip ps)))) (hs:vF ss=true) (hq:sw.Perm ws) (ht:vF sw=true):ss=sw.filter fun z=>decide (0 < gN (tdF (ws.zip ps)) z):=by
 have hA:=td_ad (ws.zip ps)
 refine List.Perm.eq_of_pairwise (le:=leS) (fun x y _ _ h1 h2=>leS_anti h1 h2) (qdg hs) ((qdg ht).sublist yS) ?_
 refine(List.perm_ext_iff_of_nodup (hp.nodup_iff.mpr hA.knd) ((hq.nodup_iff.mpr nd).sublist yS)).mpr fun z=>?_
 rw [hp.mem_iff,hA.kin,zY,decide_eq_true_eq,hq.mem_iff]
 constructor
 .intro h
  have hz:=tdF_in hl z h
  refine⟨hz,?_⟩
  obtain⟨j,hj,rfl⟩:=zO.mp hz
  have e:=tdF_at hl nd hj (by omega)
  unfold gN
  rw [e] at h ⊢
  by_cases c:0 < ps[j]
  .rw [gT c];exact c
  .rw [gS c] at h;exact absurd rfl h
 .rintro⟨hz,h⟩ e
  unfold gN at h
  rw [e] at h
  exact absurd h (by show ¬(0:Int) < 0;omega)
theorem qeb (A:Str->Bool) (ss:List Str):∀js:List Nat,pls js (ss.filter A)=(pls js ss).filter fun p=>A p.2
 | []=>rfl
 |j :: js=>by
  show (ss.filter A).map (fun z=>(j,z))++pls js (ss.filter A)=((ss.map fun z=>(j,z))++pls js ss).filter _
  rw [zQ,qeb A ss js,List.filter_map];rfl
theorem find_cg {f g:Pc->Bool}:∀{l:List Pc},(∀p∈l,f p=g p)->l.find? f=l.find? g
 | [],_=>rfl
 |p :: l,h=>by
  rw [yL,yL,h p (zG ..),find_cg fun q hq=>h q (zE _ hq)]
theorem sum_if {l:List Ob} {f:Ob->Bool} {g:Ob->Int}:((l.filter f).map g).sum=(l.map fun b=>if f b=true then g b else 0).sum:=by
 induction l with
 |nil=>rfl
 |cons b l ih=>
  rw [zJ,zS,yT,<-ih]
  by_cases c:f b=true
  .rw [gT c,gT c,zS,yT]
  .rw [gS c,gS c,xW]
theorem use_sO (P:PL) (l:List Ob) (k:Nat) (z:Str):gN (useF P l k) z=sO P (k,z) l:=by
 unfold useF sumF
 rw [gN_sum,show gN noF z=0 from rfl,xW,yP]
 unfold sO
 show ((l.filter _).map fun b=>gN b.R.f z).sum=_
 rw [sum_if]
 congr 1
 refine yV fun b _=>?_
 unfold prN
 by_cases c:k∈qab (elN P.es) b.R.i
 .rw [gT c,gT (gU c)]
 .rw [gS c,gS (by rw [gW c];exact uE)]
theorem qg1 {w:Wd} {P:PL} {S:Ts} {n:Nat} {wt:Nat->Int} {H:Hp} {k:Nat} {z:Str} {l:List Ob} {f:Str->Option Int} (hI:TInv S P n wt) (pf:PlF P) (hn:n=P.nm.length) (hh:k < n) (ews:P.ws=w.ws) (etc:P.tc=csT w.ws w.cs) (hcl:w.cs.length=n) (hcs:qgm H w.ws.length w.cs):qb5 S P l f k z=capN w (k,z) - sO P (k,z) l - gN f z:=by
 obtain⟨e,ae,hek,hel⟩:=hI.pl.at hh
 have hk:∃k',S.hl[k']?=some e/\k'=k:=by
  obtain⟨k',hk,ek⟩:=zO.mp (qcd ae).1
  have e1:=zA hk
  rw [ek] at e1
  have hkn:k' < n:=by have:=hI.pl.len;omega
  have:=(hI.pl.nam k' e e1).1
  refine⟨k',e1,hI.pl.inj k' k hkn hh ?_⟩
  rw [<-this]
  exact(qcd ae).2
 obtain⟨k,e1,rfl⟩:=hk
 have efc:=(hI.da k e e1).2.1
 have hkc:k < w.cs.length:=by omega
 obtain⟨_,cl,cb,_⟩:=hcs.at hkc
 have etf:tfF P.tc k=tdF (w.ws.zip (csD w.cs k)):=by unfold tfF;rw [etc,csT_at hkc]
 have fin:Fin w.ws (tdF (w.ws.zip (csD w.cs k))):=(qft cl.symm (by rw [<-ews];exact pf.wn) fun p hp=>(cb p hp).2).fin (by decide)
 have g1:gN (fcOf S (nmF P k)) z=capN w (k,z):=by
  unfold fcOf
  rw [ae]
  show gN e.x.fc z=_
  have:gN e.x.fc z=gN (qcw (tfF P.tc k)) z:=by unfold gN;rw [efc]
  rw [this,etf,qf8 fin];rfl
 unfold qb5
 rw [g1,use_sO]
noncomputable def besR (r:Int) (su:Bool) (gone:List Int) (m:Int) (R:Rw):Bool:=(decide (R.n=m) || decide (R.n∉gone)) && (decide (R.n<=m) || !qc4 r su R)
theorem bes_one {ws:List Str} {r:Int} {su:Bool} {g:List Int} {m:Int} {b:Ob} {R:Rw} (e:b.R=qfh ws R):besO r su g m b=besR r su g m R:=by
 unfold besO besR qaw qat qc4
 rw [e]
 show (_ && (_ || !(!(R.s || !(su || decide (R.r < r))))))=_
 congr 2
 cases R.s <;> cases su <;> cases decide (R.r < r) <;> rfl
theorem qfu {w:Wd} {P:PL} {p:Pc} {f:Ob->Bool} {g:Rw->Bool} (ees:P.es=w.es) (hfg:∀(b:Ob) (R:Rw),b.R=qfh w.ws R->f b=g R):∀{bs:List Ob} {Rs:List Rw},bs.map (·.R)=Rs.map (qfh w.ws)->qfd w (Rs.filter g) p=sO P p (bs.filter f)
 | [], [],_=>rfl
 | [],_ :: _,e=>by simp at e
 |_ :: _, [],e=>by simp at e
 |b :: bs,R :: Rs,e=>by
  rw [zS,zS] at e
  obtain⟨e1,e2⟩:=wM e
  have ih:=qfu (p:=p) ees hfg e2
  rw [zJ,zJ (xs:=bs),hfg b R e1]
  by_cases c:g R=true
  .rw [gT c,gT c,qdt,<-ih]
   have ei:b.R.i=R.i:=by rw [e1];rfl
   have ef:b.R.f=tdF (w.ws.zip R.ps):=by rw [e1];rfl
   unfold qfd prN
   rw [zJ,ees,ei,ef]
   by_cases c2:p.1∈qab (elN w.es) R.i
   .rw [gT (gU c2),gT c2,zS,yT]
   .rw [gS (by rw [gW c2];exact uE),gS c2,xW]
  .rw [gS c,gS c,ih]
theorem short_at {w:Wd} {P:PL} {S:Ts} {n:Nat} {wt:Nat->Int} {H:Hp} {bs:List Ob} {ss sw:List Str} {x:Ob × Pc} (hI:TInv S P n wt) (pf:PlF P) (hn:n=P.nm.length) (ews:P.ws=w.ws) (ees:P.es=w.es) (etc:P.tc=csT w.ws w.cs) (hcl:w.cs.length=n) (hcs:qgm H w.ws.length w.cs) (ok:WOk w) (hjs:∀j∈qab (elN w.es) w.h,j < n)
  (hbs:bs.map (·.R)=w.Rs.map (qfh w.ws)) (hp:ss.Perm (qd1 (tdK (w.ws.zip w.aps)))) (hs:vF ss=true) (hq:sw.Perm w.ws) (ht:vF sw=true)
  (hx:x∈(clL P (pls (qab (elN P.es) w.h) ss) (fun p=>qb5 S P (bs.filter (qat w.rk w.su)) (akF w) p.1 p.2) (bs.filter (qaw w.rk w.su))).2):
  (pls (qab (elN w.es) w.h) sw).find? (bad w (w.Rs.filter (besR w.rk w.su (gnm (clL P (pls (qab (elN P.es) w.h) ss) (fun p=>qb5 S P (bs.filter (qat w.rk w.su)) (akF w) p.1 p.2) (bs.filter (qaw w.rk w.su))).2) x.1.R.n)))=some x.2:=by
 have up:(bs.map fun b=>b.R.n).Pairwise (·< ·):=by
  have e:(bs.map fun b=>b.R.n)=w.Rs.map fun R=>R.n:=by
   have:=congrArg (List.map fun r:Rr=>r.n) hbs
   rw [yP,yP] at this
   exact this
  rw [e];exact ok.up
 obtain⟨u,hf,hu⟩:=beside_eq up hx
 have ess:=sk_eq ok.apl.symm ok.wsn.nd hp hs hq ht
 generalize gnm (clL P (pls (qab (elN P.es) w.h) ss) (fun p=>qb5 S P (bs.filter (qat w.rk w.su)) (akF w) p.1 p.2) (bs.filter (qaw w.rk w.su))).2=g at*
 rw [ess,ees,qeb,List.find?_filter] at hf
 rw [<-hf]
 refine find_cg fun p hp=>?_
 have hpn:=hjs _ (qe1 hp).1
 have h1:=hu p
 have h2:qb5 S P (bs.filter (qat w.rk w.su)) (akF w) p.1 p.2=capN w (p.1,p.2) - sO P (p.1,p.2) (bs.filter (qat w.rk w.su)) - gN (akF w) p.2:=qg1 hI pf hn hpn ews etc hcl hcs
 have h3:=qfu (w:=w) (P:=P) (p:=p) (f:=besO w.rk w.su g x.1.R.n) (g:=besR w.rk w.su g x.1.R.n) ees (fun b R e=>bes_one e) hbs
 try dsimp only at h1
 rw [h2] at h1
 rw [<-h3] at h1
 have e0:((p.1,p.2):Pc)=p:=rfl
 rw [e0] at h1
 unfold bad
 have hiff:(capN w p < qfd w (w.Rs.filter (besR w.rk w.su g x.1.R.n)) p+gN (akF w) p.2)↔u p < prN P x.1 p:=by omega
 rw [decide_eq_decide.mpr hiff]
 unfold akF
 cases decide (0 < gN (tdF (w.ws.zip w.aps)) p.2) <;> cases decide (u p < prN P x.1 p) <;> rfl
theorem cl_sub (P:PL) (ps:List Pc):∀(C:List Ob) (st:(Pc->Int) × List (Ob × Pc)),∃D,(C.foldl (clF P ps) st).2.map (·.1)=st.2.map (·.1)++D/\D.Sublist C
 | [],st=>⟨[],by rw [yA];rfl,List.Sublist.refl _⟩
 |c :: C,st=>by
  rw [yQ]
  obtain⟨D,h1,h2⟩:=cl_sub P ps C (clF P ps st c)
  cases hf:ps.find? (fun p=>decide (st.1 p < prN P c p)) with
  |none=>exact⟨D,by rw [h1,qcp hf],h2.cons c⟩
  |some q=>
   refine⟨c :: D,?_,h2.cons₂ c⟩
   rw [h1,qco hf,zD,bP];rfl
theorem cl_nn (P:PL) (ps:List Pc):∀(C:List Ob) (st:(Pc->Int) × List (Ob × Pc)),(∀p∈ps,0<=st.1 p)->∀p∈ps,0<=(C.foldl (clF P ps) st).1 p
 | [],_,h=>h
 |c :: C,st,h=>by
  rw [yQ]
  refine cl_nn P ps C _ fun p hp=>?_
  cases hf:ps.find? (fun p=>decide (st.1 p < prN P c p)) with
  |none=>
   rw [qcp hf]
   have:=yX.mp hf p hp
   simp only [decide_eq_true_eq] at this
   show 0<=st.1 p - prN P c p
   omega
  |some q=>rw [qco hf];exact h p hp
theorem num_inj {bs:List Ob} (up:(bs.map fun b=>b.R.n).Pairwise (·< ·)) {a b:Ob} (ha:a∈bs) (hb:b∈bs) (e:a.R.n=b.R.n):a=b:=by
 obtain⟨i,hi,ei⟩:=zO.mp ha
 obtain⟨j,hj,ej⟩:=zO.mp hb
 rcases dE i j with lt|lt|lt
 .have:=(zV.mp up) i j (by rw [zB];exact hi) (by rw [zB];exact hj) lt
  rw [yH,yH,ei,ej] at this
  omega
 .subst lt;rw [<-ei,ej]
 .have:=(zV.mp up) j i (by rw [zB];exact hj) (by rw [zB];exact hi) lt
  rw [yH,yH,ei,ej] at this
  omega
theorem bs_up {w:Wd} {bs:List Ob} (ok:WOk w) (hbs:bs.map (·.R)=w.Rs.map (qfh w.ws)):(bs.map fun b=>b.R.n).Pairwise (·< ·):=by
 have e:(bs.map fun b=>b.R.n)=w.Rs.map fun R=>R.n:=by
  have:=congrArg (List.map fun r:Rr=>r.n) hbs
  rw [yP,yP] at this
  exact this
 rw [e];exact ok.up
theorem left_eq {P:PL} {bs C:List Ob} {g:List Int} {p:Pc} {goes:Ob->Bool} (up:(bs.map fun b=>b.R.n).Pairwise (·< ·)) (eC:C=bs.filter goes) (hg:∀m∈g,∃b∈C,b.R.n=m):sO P p (bs.filter fun b=>!decide (b.R.n∈g))=sO P p (C.filter fun b=>decide (b.R.n∉g))+sO P p (bs.filter fun b=>!goes b):=by
 have hsp:=qg0 P p (fun b=>!decide (b.R.n∈g)) goes bs
 rw [hsp,eC]
 congr 1
 .congr 1
  refine yN fun b _=>?_
  by_cases c:b.R.n∈g
  .rw [gU c,gW (not_not_intro c)];rfl
  .rw [gW c,gU c];rfl
 .congr 1
  refine List.filter_eq_self.mpr fun b hb=>?_
  obtain⟨hb1,hb2⟩:=zY.mp hb
  have:b.R.n∉g:=fun hm=>by
   obtain⟨c,hc,e⟩:=hg _ hm
   rw [eC] at hc
   obtain⟨hc1,hc2⟩:=zY.mp hc
   have:=num_inj up hc1 hb1 e
   rw [this] at hc2
   rw [hc2] at hb2
   exact gR hb2
  rw [gW this];rfl
theorem no_bad {w:Wd} {P:PL} {S:Ts} {n:Nat} {wt:Nat->Int} {H:Hp} {bs:List Ob} {ss sw:List Str} (hI:TInv S P n wt) (pf:PlF P) (hn:n=P.nm.length) (ews:P.ws=w.ws) (ees:P.es=w.es) (etc:P.tc=csT w.ws w.cs) (hcl:w.cs.length=n) (hcs:qgm H w.ws.length w.cs) (ok:WOk w) (hjs:∀j∈qab (elN w.es) w.h,j < n)
  (hbs:bs.map (·.R)=w.Rs.map (qfh w.ws)) (hp:ss.Perm (qd1 (tdK (w.ws.zip w.aps)))) (hs:vF ss=true) (hq:sw.Perm w.ws) (ht:vF sw=true)
  (hnn:∀p∈pls (qab (elN P.es) w.h) ss,0<=qb5 S P (bs.filter (qat w.rk w.su)) (akF w) p.1 p.2):
  (pls (qab (elN w.es) w.h) sw).find? (bad w (w.Rs.filter fun R=>!decide (R.n∈gnm (clL P (pls (qab (elN P.es) w.h) ss) (fun p=>qb5 S P (bs.filter (qat w.rk w.su)) (akF w) p.1 p.2) (bs.filter (qaw w.rk w.su))).2)))=none:=by
 have up:=bs_up ok hbs
 have ndE:((bs.filter (qaw w.rk w.su)).map fun b=>b.R.n).Nodup:=by
  have:((bs.filter (qaw w.rk w.su)).map fun b=>b.R.n).Pairwise (·< ·):=by
   rw [yO] at up ⊢
   exact up.sublist yS
  exact this.imp fun h e=>by omega
 have ess:=sk_eq ok.apl.symm ok.wsn.nd hp hs hq ht
 rw [ees] at hnn ⊢
 rw [yX]
 intro p hp2 hb
 unfold bad at hb
 rw [vS,decide_eq_true_eq,decide_eq_true_eq] at hb
 obtain⟨b1,b2⟩:=hb
 have hps:p∈pls (qab (elN w.es) w.h) ss:=by
  rw [ess,qeb,zY]
  exact⟨hp2,gU b1⟩
 have hpn:=hjs _ (qe1 hp2).1
 have h0:=cl_nn P (pls (qab (elN w.es) w.h) ss) (bs.filter (qaw w.rk w.su)) ((fun p=>qb5 S P (bs.filter (qat w.rk w.su)) (akF w) p.1 p.2), []) hnn p hps
 have h1:=cl_val P (pls (qab (elN w.es) w.h) ss) p (bs.filter (qaw w.rk w.su)) ((fun p=>qb5 S P (bs.filter (qat w.rk w.su)) (akF w) p.1 p.2), []) (clL P (pls (qab (elN w.es) w.h) ss) (fun p=>qb5 S P (bs.filter (qat w.rk w.su)) (akF w) p.1 p.2) (bs.filter (qaw w.rk w.su))).2 ndE (by unfold clL;rfl)
 have hg:∀m∈gnm (clL P (pls (qab (elN w.es) w.h) ss) (fun p=>qb5 S P (bs.filter (qat w.rk w.su)) (akF w) p.1 p.2) (bs.filter (qaw w.rk w.su))).2,∃b∈bs.filter (qaw w.rk w.su),b.R.n=m:=fun m hm=>by
  obtain⟨x,hx,rfl⟩:=zI.mp hm
  obtain⟨D,e1,e2⟩:=qfm P (pls (qab (elN w.es) w.h) ss) (bs.filter (qaw w.rk w.su)) ((fun p=>qb5 S P (bs.filter (qat w.rk w.su)) (akF w) p.1 p.2), [])
  unfold clL at hx
  rw [e1] at hx
  exact⟨x.1,e2 x hx,rfl⟩
 generalize gnm (clL P (pls (qab (elN w.es) w.h) ss) (fun p=>qb5 S P (bs.filter (qat w.rk w.su)) (akF w) p.1 p.2) (bs.filter (qaw w.rk w.su))).2=g at*
 have h2:qb5 S P (bs.filter (qat w.rk w.su)) (akF w) p.1 p.2=capN w (p.1,p.2) - sO P (p.1,p.2) (bs.filter (qat w.rk w.su)) - gN (akF w) p.2:=qg1 hI pf hn hpn ews etc hcl hcs
 have h3:=qfu (w:=w) (P:=P) (p:=p) (f:=fun b=>!decide (b.R.n∈g)) (g:=fun R=>!decide (R.n∈g)) ees (fun b R e=>by rw [e];rfl) hbs
 have h4:=left_eq (P:=P) (p:=p) up rfl hg
 have e5:(bs.filter fun b=>!qaw w.rk w.su b)=bs.filter (qat w.rk w.su):=yN fun y _=>by unfold qaw;rw [Bool.not_not]
 rw [e5] at h4
 rw [h1] at h0
 dsimp only at h0
 rw [h2] at h0
 have e0:((p.1,p.2):Pc)=p:=rfl
 rw [e0] at h0
 omega
theorem eq_tV {K:uR} {H:Hp} {n:Nat} (t:Option Int):DEq K H n (tV t) (tV t) true:=by
 cases t with
 |none=>exact DEq.flat (x:=.non) (y:=.non) rfl rfl
 |some i=>
  have w:=DEq.flat (K:=K) (H:=H) (n:=n) (x:=.int i) (y:=.int i) rfl rfl
  have e:eqV (.int i) (.int i)=true:=by simp [eqV]
  rw [e] at w
  exact w
theorem deq_int {K:uR} {H:Hp} {n:Nat} (i:Int):DEq K H n (.int i) (.int i) true:=eq_tV (some i)
theorem deq_tup {K:uR} {H:Hp} {n:Nat} {a b:Addr} {xs ys:List V} (ha:SqT K H a xs) (hb:SqT K H b ys) (ne:a≠b) (h:DEqs K H n xs ys):DEq K H (n+1) (.ref a) (.ref b) true:=by
 have z:=DEq.ts (n:=n) (e:=fun _=>true) ha hb ne h.get
 have e:((vG (min xs.length ys.length)).all (fun _=>true) && xs.length==ys.length)=true:=by rw [h.len];simp
 rw [e] at z
 exact z
theorem flat_ints (L:List Int):((L.map V.int).all fun v=>qdl v)=true:=by
 rw [gF]
 exact yM.mpr fun _ _=>rfl
theorem inV_int (x:Int):∀L:List Int,inV (.int x) (L.map V.int)=decide (x∈L)
 | []=>rfl
 |y :: L=>by
  have ih:=inV_int x L
  unfold inV at ih ⊢
  rw [zS,xC,ih]
  by_cases c:y=x
  .subst c
   rw [show eqV (V.int y) (V.int y)=true from beq_self_eq_true _,gU (zG ..)]
   rfl
  .rw [show eqV (V.int y) (V.int x)=false from beq_false_of_ne c,cB]
   by_cases m:x∈L
   .rw [gU m,gU (zE _ m)]
   .rw [gW m,gW fun h=>(zR.mp h).elim (fun e=>c e.symm) m]
theorem r_notInI {K:uR} {H:Hp} {Q:VK} {p:Addr} {x:Int} {L:List Int} (h:SqL K H p (L.map V.int)) (q:Q (.bl (!decide (x∈L))) H):rIn K true (.int x) (.ref p) H Q:=⟨p,_,rfl,.inl h,rfl,flat_ints L,by rw [inV_int];exact q⟩
theorem own_eq {Rs:List Rw} (up:(Rs.map fun R=>R.n).Pairwise (·< ·)) {R:Rw} (h:R∈Rs):(Rs.filter fun X=>decide (X.n=R.n))=[R]:=by
 obtain⟨A,B,rfl⟩:=List.append_of_mem h
 rw [zD,zS,cJ] at up
 obtain⟨_,h2,h3⟩:=up
 have e1:(A.filter fun X=>decide (X.n=R.n))=[]:=dX.mpr fun x hx=>by
  have:=h3 _ (zI.mpr ⟨x,hx,rfl⟩) _ (zG ..)
  simp only [decide_eq_true_eq]
  omega
 have e2:(B.filter fun X=>decide (X.n=R.n))=[]:=dX.mpr fun x hx=>by
  have:=yF h2 (zI.mpr ⟨x,hx,rfl⟩)
  simp only [decide_eq_true_eq]
  omega
 rw [zQ,zJ,gT (gU rfl),e1,e2];rfl
theorem gs_in {P:PL} {ps:List Pc} {v0:Pc->Int} {C:List Ob} {gs:List Gr} (h:gs.map (fun g=>(g.b,g.c))=(clL P ps v0 C).2):∀g∈gs,g.b∈C:=fun g hg=>by
 obtain⟨D,e1,e2⟩:=qfm P ps C (v0, [])
 have hm:(g.b,g.c)∈(clL P ps v0 C).2:=by rw [<-h];exact zI.mpr ⟨g,hg,rfl⟩
 unfold clL at hm
 rw [e1] at hm
 exact e2 _ hm
theorem gs_own {w:Wd} {P:PL} {ps:List Pc} {v0:Pc->Int} {bs:List Ob} {gs:List Gr} (hbs:bs.map (·.R)=w.Rs.map (qfh w.ws)) (h:gs.map (fun g=>(g.b,g.c))=(clL P ps v0 (bs.filter (qaw w.rk w.su))).2):∀g∈gs,∃R∈w.Rs,g.b.R=qfh w.ws R/\qc4 w.rk w.su R=true:=fun g hg=>by
 obtain⟨h1,h2⟩:=zY.mp (gs_in h g hg)
 have hm:g.b.R∈w.Rs.map (qfh w.ws):=by rw [<-hbs];exact zI.mpr ⟨g.b,h1,rfl⟩
 obtain⟨R,hR,e⟩:=zI.mp hm
 refine⟨R,hR,e.symm,?_⟩
 unfold qaw qat at h2
 rw [<-e] at h2
 have h2:(!(R.s || !(w.su || decide (R.r < w.rk))))=true:=h2
 unfold qc4
 revert h2
 cases R.s <;> cases w.su <;> cases decide (R.r < w.rk) <;> exact id
theorem gs_up {w:Wd} {P:PL} {ps:List Pc} {v0:Pc->Int} {bs:List Ob} {gs:List Gr} (ok:WOk w) (hbs:bs.map (·.R)=w.Rs.map (qfh w.ws)) (h:gs.map (fun g=>(g.b,g.c))=(clL P ps v0 (bs.filter (qaw w.rk w.su))).2):(gs.map fun g=>g.b.R.n).Pairwise (·< ·):=by
 have up:=bs_up ok hbs
 obtain⟨D,e1,e2⟩:=cl_sub P ps (bs.filter (qaw w.rk w.su)) (v0, [])
 have e1:(clL P ps v0 (bs.filter (qaw w.rk w.su))).2.map (·.1)=D:=e1
 rw [<-h,yP] at e1
 have e3:(gs.map fun g=>g.b.R.n)=D.map fun b=>b.R.n:=by rw [<-e1,yP];rfl
 rw [e3]
 rw [yO] at up ⊢
 exact up.sublist (e2.trans yS)
theorem cl_len (P:PL) (ps:List Pc):∀(C:List Ob) (st:(Pc->Int) × List (Ob × Pc)),(C.foldl (clF P ps) st).2.length<=st.2.length+C.length
 | [],st=>uG _
 |c :: C,st=>by
  rw [yQ,zZ]
  have ih:=cl_len P ps C (clF P ps st c)
  cases hf:ps.find? (fun p=>decide (st.1 p < prN P c p)) with
  |none=>
   rw [qcp hf] at ih ⊢
   have ih:_<=st.2.length+C.length:=ih
   omega
  |some q=>
   rw [qco hf] at ih ⊢
   have ih:_<=(st.2++ [(c,q)]).length+C.length:=ih
   rw [zK] at ih
   have e: [(c,q)].length=1:=rfl
   omega
theorem r_inI {K:uR} {H:Hp} {Q:VK} {p:Addr} {x:Int} {L:List Int} (h:SqL K H p (L.map V.int)) (q:Q (.bl (decide (x∈L))) H):rIn K false (.int x) (.ref p) H Q:=⟨p,_,rfl,.inl h,rfl,flat_ints L,by rw [inV_int];exact q⟩
theorem perm_sum {l m:List Int} (h:l.Perm m):l.sum=m.sum:=by
 induction h with
 |nil=>rfl
 |cons x _ ih=>rw [yT,yT,ih]
 |swap x y l=>rw [yT,yT,yT,yT];omega
 |trans _ _ h1 h2=>exact h1.trans h2
theorem sumZ_perm {w:Wd} {A B:List Rw} {p:Pc} (h:A.Perm B):qfd w A p=qfd w B p:=by
 unfold qfd
 exact perm_sum ((h.filter _).map _)
theorem qev (w:Wd) (p:Pc) (R:Rw) (l:List Rw):qfd w (R :: l) p=(if p.1∈qab (elN w.es) R.i then gN (tdF (w.ws.zip R.ps)) p.2 else 0)+qfd w l p:=by
 unfold qfd
 rw [zJ]
 by_cases c:p.1∈qab (elN w.es) R.i
 .rw [gT (gU c),gT c,zS,yT]
 .rw [gS (by rw [gW c];exact uE),gS c,xW]
theorem gN_td_nn {ws:List Str} {ps:List Int} (h:ws.length=ps.length) (nd:ws.Nodup) (h0:∀p∈ps,0<=p) (z:Str):0<=gN (tdF (ws.zip ps)) z:=by
 by_cases c:z∈ws
 .obtain⟨j,hj,rfl⟩:=zO.mp c
  rw [qdf h nd h0 hj (by omega)]
  exact h0 _ (zM _)
 .have e:tdF (ws.zip ps) z=none:=by
   cases q:tdF (ws.zip ps) z with
   |none=>rfl
   |some n=>exact absurd (tdF_in h z (by rw [q];simp)) c
  unfold gN
  rw [e];exact vX _
theorem sumZ_mono {w:Wd} {p:Pc} {f g:Rw->Bool} (nd:w.ws.Nodup):∀{l:List Rw},(∀R∈l,R.ps.length=w.ws.length/\∀q∈R.ps,PpOk q)->(∀R∈l,f R=true->g R=true)->qfd w (l.filter f) p<=qfd w (l.filter g) p
 | [],_,_=>vX _
 |R :: l,hl,h=>by
  have ih:=sumZ_mono (p:=p) nd (fun X hX=>hl X (zE _ hX)) fun X hX=>h X (zE _ hX)
  obtain⟨l1,l2⟩:=hl R (zG ..)
  have h0:0<=(if p.1∈qab (elN w.es) R.i then gN (tdF (w.ws.zip R.ps)) p.2 else 0):=by
   by_cases c:p.1∈qab (elN w.es) R.i
   .rw [gT c];exact gN_td_nn l1.symm nd (fun q hq=>(l2 q hq).lo) p.2
   .rw [gS c];exact vX _
  have hR:=h R (zG ..)
  rw [zJ,zJ (p:=g)]
  by_cases c:f R=true
  .rw [gT c,gT (hR c),qev,qev];omega
  .rw [gS c]
   by_cases c2:g R=true
   .rw [gT c2,qev];omega
   .rw [gS c2];exact ih
noncomputable def besF (w:Wd) (sw:List Str) (g:List Int):Bool:=((pls (qab (elN w.es) w.h) sw).find? (bad w (w.Rs.filter fun R=>!decide (R.n∈g)))).isNone
theorem besF_no {w:Wd} {sw:List Str} {g:List Int} {f:Rw->Bool} {p:Pc} (ok:WOk w) (hl:∀R∈w.Rs,R.ps.length=w.ws.length/\∀q∈R.ps,PpOk q) (hp:p∈pls (qab (elN w.es) w.h) sw) (hb:bad w (w.Rs.filter f) p=true) (h:∀R∈w.Rs,f R=true->R.n∉g):besF w sw g=false:=by
 unfold besF
 cases e:(pls (qab (elN w.es) w.h) sw).find? (bad w (w.Rs.filter fun R=>!decide (R.n∈g))) with
 |some q=>rfl
 |none=>
  have:=yX.mp e p hp
  have hm:=sumZ_mono (w:=w) (p:=p) (f:=f) (g:=fun R=>!decide (R.n∈g)) ok.wsn.nd hl fun R hR hf=>by
   rw [gW (h R hR hf)];rfl
  refine absurd ?_ this
  unfold bad at hb ⊢
  rw [vS,decide_eq_true_eq,decide_eq_true_eq] at hb ⊢
  exact⟨hb.1,by omega⟩
noncomputable def qff (r:Int) (su:Bool) (gone:List Int) (m:Int) (R:Rw):Bool:=!decide (R.n∈gone) && (decide (R.n < m) || !qc4 r su R)
theorem had_perm {w:Wd} {gone:List Int} {R:Rw} (ok:WOk w) (hR:R∈w.Rs) (hg:R.n∈gone):(w.Rs.filter (besR w.rk w.su gone R.n)).Perm (w.Rs.filter (qff w.rk w.su gone R.n)++ [R]):=by
 refine(List.filter_append_perm (fun X=>!decide (X.n=R.n)) (w.Rs.filter (besR w.rk w.su gone R.n))).symm.trans ?_
 have e1:(w.Rs.filter (besR w.rk w.su gone R.n)).filter (fun X=>!decide (X.n=R.n))=w.Rs.filter (qff w.rk w.su gone R.n):=by
  rw [yU]
  refine yN fun X _=>?_
  unfold besR qff
  by_cases c:X.n=R.n
  .rw [gU c,show decide (X.n∈gone)=true from gU (by rw [c];exact hg)];rfl
  .rw [gW c,cB]
   have e:decide (X.n<=R.n)=decide (X.n < R.n):=decide_eq_decide.mpr (by omega)
   rw [e]
   by_cases c2:X.n∈gone
   .rw [gU c2,gW (not_not_intro c2)];rfl
   .rw [gW c2,gU c2];rfl
 have e2:(w.Rs.filter (besR w.rk w.su gone R.n)).filter (fun X=>!!decide (X.n=R.n))=[R]:=by
  rw [yU,<-own_eq ok.up hR]
  refine yN fun X _=>?_
  unfold besR
  by_cases c:X.n=R.n
  .rw [gU c,gU (show X.n<=R.n by omega)];rfl
  .rw [gW c];rfl
 rw [e1,e2]
noncomputable def wfc (K:uR) (d:Ad):Sp:=fun vs H Q _=>∃(w:Wd) (lg:Addr) (P:PL) (g:List Int) (sw:List Str),vs=[.ref w.wt,.ref lg]/\WAt H w/\WOk w/\P.nm=w.nm/\H lg=some (.lst (g.map V.int))/\sw.Perm w.ws/\vF sw=true/\∀H',qar H H'->Q (.bl (besF w sw g)) H'
include T in
theorem w80:FnOk P w K mg base CX0 5 d.wae d.w86 ["_law_world_here","_law_gone"] (wfc K d):=by
 refine T.w7r.ok wf6 (fun vs H Q E h=>?_) (fun cdv A outer s H vs Q E hr h=>?_)
 .obtain⟨w,lg,P,g,sw,rfl,_⟩:=h;rfl
 obtain⟨w,lg,P,g,sw,rfl,hw,ok,enm,elg,psw,qsw,q⟩:=h
 refine⟨_,(qa5 (qai (qbm op_isNN (qa8 ((wfj T).mono (by decide)) hr rfl T.wh2 T.wek.kp T.wgq .nil qak (qa0 (pv 0) (qa0 (qbp (caps:=[1]) (cn:=["_law_gone"]) (qb1 rfl rfl (by rfl) (by rfl) rfl ⟨rfl,trivial⟩ (by rfl) rfl ⟨⟨rfl,rfl,rfl,rfl,_,rfl⟩,trivial⟩ (by decide)) rfl (qau (qaj qan (pv 0) qa4 (fun _ _=>rfl))) (fun _ _ _ _=>(qck (qam qbl (qaj qan (pv 0) qa4 (fun _ _=>rfl)) (pv 1) (by rfl)))) (fun _ _ _ _=>(pv 0))) qa2))) qcy (qas _)))),?_⟩
 walk_at "d"
 try dsimp only [cxC]
 refine qah (σ:=[some (.ref w.wt),some (.ref lg)]) rfl ?_
 have htp:=hw.tup
 have hlr:=hw.lr
 have r30:=ok.r30
 left
 intro C s0 H0 fp lk hlk
 refine qel w.Rs.length (fun i H2=>qar H H2/\H2 lk=some (.lst (rwV ((w.Rs.take i).filter fun R=>!decide (R.n∈g))))) ⟨qa9 hlk _,qa3⟩ ?_ ?_ ?_ ?_
 .rintro i H2 hi ⟨s2,_⟩
  exact⟨_,.ref w.Rs[i].p,SqL.of (s2 _ _ hlr),by unfold rwV;rw [zC,zA hi];rfl⟩
 .rintro H2 ⟨s2,_⟩
  exact⟨_,SqL.of (s2 _ _ hlr),by unfold rwV;rw [zB];exact uG _⟩
 .rintro i H2 v H3 hi ⟨s2,ea⟩ ⟨rfl,hv⟩
  have hv:=hv _ (SqL.of (s2 _ _ hlr))
  unfold rwV at hv
  rw [zC,zA hi] at hv
  cases hv
  have tk:w.Rs.take (i+1)=w.Rs.take i++ [w.Rs[i]]:=by rw [zL,zA hi];rfl
  have hRi:=(hw.rs _ (zM hi)).same s2
  generalize w.Rs[i]=R at*
  have hrow:=hRi.row
  generalize hri:((R.i:Nat):Int)=ri at*
  have zl:(rwV ((w.Rs.take i).filter fun R=>!decide (R.n∈g))).length < sizeLine:=by
   unfold rwV
   rw [zB]
   have h1:=zN (fun R:Rw=>!decide (R.n∈g)) (w.Rs.take i)
   rw [zW] at h1
   show _ < 16777216
   omega
  have eg2:=s2 _ _ elg
  clear hv htp
  left
  refine r_notInI (SqL.of eg2) ?_
  by_cases c2:R.n∈g
  .rw [gU c2]
   left
   refine⟨s2,?_⟩
   rw [ea,tk,zQ,zJ,gS (by rw [gU c2];exact uE),yK,yA]
  .rw [gW c2]
   left
   refine⟨qav s2 hlk,?_⟩
   rw [qa3,tk,zQ,zJ,gT (by rw [gW c2];rfl)]
   unfold rwV
   rw [zD];rfl
 rintro H8 ⟨s8,elk⟩
 rw [zP] at elk
 have hw8:=hw.same s8
 have b30:(w.Rs.filter fun R=>!decide (R.n∈g)).length<=30:=vP (zN ..) r30
 have hsub:∀R∈w.Rs.filter fun R=>!decide (R.n∈g),R∈w.Rs:=fun R hr=>(zY.mp hr).1
 unfold besF at q
 generalize (w.Rs.filter fun R=>!decide (R.n∈g))=Bs at*
 left
 refine⟨w,lk,P,Bs,sw,rfl,hw8,ok,enm,elk,fun R hr=>hw8.rs R (hsub R hr),b30,psw,qsw,fun hn H9 s9=>?_,fun p hp pl H9 s9 npl epl=>?_⟩
 .rw [hn] at q
  left
  exact q _ (s8.trans s9)
 .rw [hp] at q
  left
  exact q _ (s8.trans s9)
noncomputable def wbn (K:uR) (d:Ad):Sp:=fun vs H Q _=>∃(a:Addr) (ns:List Int) (w:Wd),vs=[.ref a,.ref w.wt]/\SqL K H a (ns.map V.int)/\ns.length<=63/\WAt H w/\WOk w/\∀(l:Addr) (oth:List Int) (H':Hp),qar H H'->H' l=some (.lst (oth.map V.int))->(∀n∈oth,∃R∈w.Rs,R.n=n/\qc4 w.rk w.su R=true)->Q (.ref l) H'
include T in
theorem wbl:FnOk P w K mg base CX0 2 d.w6a d.w5i ["_law_script","_law_world_here"] (wbn K d):=by
 refine T.w7u.ok w0b (fun vs H Q E h=>?_) (fun cdv A outer s H vs Q E hr h=>?_)
 .obtain⟨a,ns,w,rfl,_⟩:=h;rfl
 obtain⟨a,ns,w,rfl,hS,h63,hw,ok,q⟩:=h
 refine⟨_,(qa1 (qej (pv 1) (qd7 rfl (qad (qac (i:=2) w0b.nd rfl (uJ rfl)) (qad (qac (i:=3) w0b.nd rfl (uJ rfl)) (qad (qac (i:=4) w0b.nd rfl (uJ rfl)) (qad (qac (i:=5) w0b.nd rfl (uJ rfl)) (qad (qac (i:=6) w0b.nd rfl (uJ rfl)) (qad (qac (i:=7) w0b.nd rfl (uJ rfl)) qca))))))))
  (qa1 (qag (i:=8) w0b.nd rfl (uJ rfl) (qa8 ((w1a T).mono (by decide)) hr rfl T.w38 T.w2w.kp T.w32 .nil qak (qa0 (qa8 ((w20 T).mono (by decide)) hr rfl T.w3k T.w33.kp T.w3l .nil qak (qa0 (pv 0) (qa0 qa4 qa2))) (qa0 qa4 (qa0 qa4 qa2)))))
  (qa1 (qag (i:=9) w0b.nd rfl (uJ rfl) (qc0 qa2))
  (qa1 (qb7 uY rfl (pi_enum rfl T.wcm (qa0 (pv 5) qa2)) (qd7 rfl (qad (qac (i:=10) w0b.nd rfl (uJ rfl)) (qad (qac (i:=11) w0b.nd rfl (uJ rfl)) qca))) (qa5 (qe0 (qbh (PW.pt (pw_and (qb6 (qa8 ((w6v T).mono (by decide)) hr rfl T.w9h T.w8i.kp T.w9f .nil qak (qa0 (pv 11) (qa0 (pv 6) qa2)))) (qg3 (PW.pt (qcr (qam qen (pv 8) qa4 (qas _)) (qd6 (qam qe4 (qa8 ((w1a T).mono (by decide)) hr rfl T.w38 T.w2w.kp T.w32 .nil qak (qa0 (qa8 ((w20 T).mono (by decide)) hr rfl T.w3k T.w33.kp T.w3l .nil qak (qa0 (pv 0) (qa0 (qao qb2 qa4 (pv 10)) qa2))) (qa0 qa4 (qa0 (qao qb2 qa4 (qao qby qa4 (pv 8))) qa2)))) qa4 (qas _)))))))) (qa5 (qba (qdb uZ vM vN qbe (pv 9) (qa0 (qaj qan (pv 11) qa4 (fun _ _=>rfl)) qa2)))) qaq))))
  (qa5 (qai (pv 9))))))),?_⟩
 walk_at "d"
 refine qah (σ:=[some (.ref a),some (.ref w.wt),none,none,none,none,none,none,none,none,none,none]) rfl ?_
 have htp:=hw.tup
 have r30:=ok.r30
 left
 refine⟨a,ns,7,rfl,hS,by decide,by decide,h63,fun H1 s1=>?_⟩
 generalize qbz ns 7=c7
 clear htp
 left
 refine qci (by decide) (by decide) (by decide) (by decide) fun way y0 y1=>?_
 left
 rename_i l hl
 have s2:=s1.trans (qa9 hl (.lst []))
 have el:upd H1 l (.lst []) l=some (.lst (([]:List Int).map V.int)):=qa3
 have hl0:H l=none:=s1.free hl
 generalize upd H1 l (.lst [])=H2 at*
 have hlr:=s2 _ _ hw.lr
 clear hl s1
 refine r_iE ?_
 left
 refine r_itE (SqL.of hlr) ?_
 refine f_enum (fun i σ H'=>∃(oth:List Int) (w1 w2:Option V),σ=[some (V.ref a),some (V.ref w.wt),some (V.ref w.ln),some (V.ref w.lw),some (V.ref w.le),some (V.ref w.lr),some (V.ref w.la),some (V.ref w.lc),some (V.int way),some (V.ref l),w1,w2]/\qar H H'/\H' l=some (.lst (oth.map V.int))/\oth.length<=i/\∀n∈oth,∃R∈w.Rs,R.n=n/\qc4 w.rk w.su R=true) ⟨[],_,_,rfl,s2,el,uG _,fun n hn=>by simp at hn⟩ ?_ ?_ ?_
 .rintro i σ H' ⟨oth,w1,w2,_,sm,_⟩
  exact SqL.of (sm _ _ hw.lr)
 .rintro i x Tt σ H' hx ⟨oth,w1,w2,rfl,sm,ea,hlen,ho⟩ hTt
  unfold rwV at hx
  rw [zC] at hx
  obtain⟨R,hr,rfl⟩:=uU.mp hx
  have hrm:=zF hr
  have hi:i < w.Rs.length:=(uH.mp hr).1
  have s3:=qa9 hTt (.tup [.int ((i:Nat):Int),.ref R.p])
  have eT:upd H' Tt (.tup [.int ((i:Nat):Int),.ref R.p]) Tt=some (.tup [.int ((i:Nat):Int),.ref R.p]):=qa3
  generalize upd H' Tt (.tup [.int ((i:Nat):Int),.ref R.p])=H3 at*
  have t3:=sm.trans s3
  have ea3:=s3 _ _ ea
  have hR3:=(hw.rs R hrm).same t3
  have hla3:=t3 _ _ hw.la
  have hrow:=hR3.row
  have zl:(oth.map V.int).length < sizeLine:=by rw [zB];show _ < 16777216;omega
  have ii0:0<=((i:Nat):Int)/\((i:Nat):Int)<=30:=by omega
  generalize hri:((R.i:Nat):Int)=ri at*
  generalize hhi:((w.h:Nat):Int)=hi at*
  generalize hii:((i:Nat):Int)=ii at*
  clear hx hr hTt
  left
  refine r_cut (fun σ' H'=>∃(oth:List Int) (w1 w2:Option V),σ'=[some (V.ref a),some (V.ref w.wt),some (V.ref w.ln),some (V.ref w.lw),some (V.ref w.le),some (V.ref w.lr),some (V.ref w.la),some (V.ref w.lc),some (V.int way),some (V.ref l),w1,w2]/\qar H H'/\H' l=some (.lst (oth.map V.int))/\oth.length<=i+1/\∀n∈oth,∃R∈w.Rs,R.n=n/\qc4 w.rk w.su R=true) ?_ (fun σ' H' h=>h)
  left
  refine⟨w.la,_,_,R,_,w.pa,w.rk,w.su,rfl,hR3,hla3,?_⟩
  refine⟨_,rfl,?_⟩
  have more:∀(H4:Hp),qar H3 H4->qc4 w.rk w.su R=true->qar H (upd H4 l (.lst (oth.map V.int++ [.int R.n])))/\upd H4 l (.lst (oth.map V.int++ [.int R.n])) l=some (.lst ((oth++ [R.n]).map V.int))/\(oth++ [R.n]).length<=i+1/\∀n∈oth++ [R.n],∃R∈w.Rs,R.n=n/\qc4 w.rk w.su R=true:=fun H4 s4 he=>by
   refine⟨qav (t3.trans s4) hl0,by rw [qa3,zD];rfl,by rw [zK,yB];omega,fun n hn=>?_⟩
   rcases zT.mp hn with h|h
   .exact ho n h
   .rw [zH.mp h];exact⟨R,hrm,rfl,he⟩
  cases c1:qc4 w.rk w.su R with
  |false=>
   left
   exact⟨oth,_,_,rfl,t3,ea3,by omega,ho⟩
  |true=>
   left
   by_cases c2:way=0
   .rw [gU c2]
    left
    obtain⟨m1,m2,m3,m4⟩:=more H3 (qar.refl _) c1
    exact⟨oth++ [R.n],_,_,rfl,m1,m2,m3,m4⟩
   .rw [gW c2]
    left
    refine⟨a,ns,8+ii,rfl,t3.seq hS,by omega,by omega,h63,fun H4 s4=>?_⟩
    have ea4:=s4 _ _ ea3
    have hrow4:=s4 _ _ hrow
    clear hrow ea3
    generalize qbz ns (8+ii)=c8
    left
    refine qci (by decide) (by decide) (by omega) (by omega) fun r _ _=>?_
    left
    refine i_2 (fun c3=>?_) (fun c3=>?_)
    .left
     obtain⟨m1,m2,m3,m4⟩:=more H4 s4 c1
     exact⟨oth++ [R.n],_,_,rfl,m1,m2,m3,m4⟩
    .left
     exact⟨oth,_,_,rfl,t3.trans s4,ea4,by omega,ho⟩
 .rintro σ H' ⟨oth,w1,w2,rfl,sm,ea,_,ho⟩
  left
  exact q l oth H' sm ea ho
noncomputable def stR (w:Wd) (i:Nat) (R:Rw):Bool:=!qc4 w.rk w.su R && decide (i∈qab (elN w.es) R.i)
theorem deqs_pr {K:uR} {H:Hp}:∀{ps qs:List Pr},prZ ps=prZ qs->(∀x∈ps,PrAt H x)->(∀x∈qs,PrAt H x)->(∀x∈ps,∀y∈qs,x.a≠y.a)->DEqs K H 1 (prV ps) (prV qs)
 | [], [],_,_,_,_=>trivial
 | [],_ :: _,e,_,_,_=>by simp [prZ] at e
 |_ :: _, [],e,_,_,_=>by simp [prZ] at e
 |x :: ps,y :: qs,e,hp,hq,hn=>by
  unfold prZ at e
  rw [zS,zS] at e
  obtain⟨e1,e2⟩:=wM e
  obtain⟨ea,eb⟩:=cK e1
  refine⟨?_,deqs_pr (show prZ ps=prZ qs from e2) (fun z hz=>hp z (zE _ hz)) (fun z hz=>hq z (zE _ hz)) fun a ha b hb=>hn a (zE _ ha) b (zE _ hb)⟩
  have h1:=hp x (zG ..)
  have h2:=hq y (zG ..)
  unfold PrAt at h1 h2
  rw [<-ea,<-eb] at h2
  exact deq_tup (n:=0) (SqT.of h1) (SqT.of h2) (hn x (zG ..) y (zG ..)) ⟨deq_int _,deq_int _,trivial⟩
noncomputable def wag (K:uR) (d:Ad):Sp:=fun vs H Q _=>∃(w:Wd) (p l:Addr) (i j:Nat) (ps:List Pr),vs=[.ref w.wt,.ref p]/\WAt H w/\WOk w/\∃(hi:i < w.nm.length) (hj:j < w.ws.length),H p=some (.tup [.str w.nm[i],.str w.ws[j],.ref l])/\H l=some (.lst (prV ps))/\(∀x∈ps,PrAt H x)/\prZ ps=((w.Rs.filter (stR w i)).filter (fun R=>decide (0 < psN R j))).map (fun R=>(R.n,psN R j))/\i∈qab (elN w.es) w.h/\0 <(w.aps[j]?).getD 0/\((csD w.cs i)[j]?).getD 0 < qcj (elN w.es) (w.Rs.filter (stR w i)) i j+(w.aps[j]?).getD 0/\∀H',qar H H'->Q (.bl true) H'
include T in
theorem wa9:FnOk P w K mg base CX0 4 d.w4x d.w46 ["_law_world_here","_law_paper"] (wag K d):=by
 refine T.w7h.ok w08 (fun vs H Q E h=>?_) (fun cdv A outer s H vs Q E hr h=>?_)
 .obtain⟨w,p,l,i,j,ps,rfl,_⟩:=h;rfl
 obtain⟨w,p,l,i,j,ps,rfl,hw,ok,hi,hj,hp,hl,hps,eps,hil,hak,hbd,q⟩:=h
 refine⟨_,(qa1 (qej (pv 0) (qd7 rfl (qad (qac (i:=2) w08.nd rfl (uJ rfl)) (qad (qac (i:=3) w08.nd rfl (uJ rfl)) (qad (qac (i:=4) w08.nd rfl (aV rfl)) (qad (qac (i:=5) w08.nd rfl (uJ rfl)) (qad (qac (i:=6) w08.nd rfl (aV rfl)) (qad (qac (i:=7) w08.nd rfl (uJ rfl)) qca))))))))
  (qa1 (qbh (PW.pt (qcr (qbj (qb6 (qaf qb9 rfl T.w04 uV (qa0 (pv 1) (qa0 (qbu (v:=.ty "tuple") rfl T.wf8 PyProof.Rows.boot_tuple rfl) qa2))))) (qcr (qam op_ne (qaf qay rfl T.w2t vH (qa0 (pv 1) qa2)) qa4 (qas _)) (qcr (qam qbl (qaj qan (pv 1) qa4 (fun _ _=>rfl)) (pv 2) (by rfl)) (qd6 (qam qbl (qaj qan (pv 1) qa4 (fun _ _=>rfl)) (pv 3) (by rfl))))))) (qa5 (qai qdc)) qaq)
  (qa1 (qag (i:=8) w08.nd rfl (aV rfl) (qdb uZ wQ xL qf2 (pv 2) (qa0 (qaj qan (pv 1) qa4 (fun _ _=>rfl)) qa2)))
  (qa1 (qag (i:=9) w08.nd rfl (aV rfl) (qdb uZ wQ xL qf2 (pv 3) (qa0 (qaj qan (pv 1) qa4 (fun _ _=>rfl)) qa2)))
  (qa1 (qcs (j:=10) (caps:=[4,6,8]) (cn:=["_law_lines_here","_law_ask","_law_at"]) (qb1 rfl rfl (by rfl) (by rfl) rfl ⟨rfl,⟨rfl,⟨rfl,trivial⟩⟩⟩ (by rfl) rfl ⟨⟨rfl,rfl,rfl,rfl,_,rfl⟩,⟨⟨rfl,rfl,rfl,rfl,_,rfl⟩,⟨⟨rfl,rfl,rfl,rfl,_,rfl⟩,trivial⟩⟩⟩ (by decide)) rfl w08.nd rfl rfl (qau (pv 5)) (fun _ _ _ _=>(qck (PW.pt (pw_and (qbj (qb6 (qa8 ((w6v T).mono (by decide)) hr rfl T.w9h T.w8i.kp T.w9f .nil qak (qa0 (pv 0) (qa0 (pv 2) qa2))))) (qg3 (qam qbv (pv 3) (qaj qal (pv 1) (qaj qan (pv 0) qa4 (fun _ _=>rfl)) (fun _ _=>rfl)) (by rfl))))))) (fun _ _ _ _=>(pv 0)))
  (qa1 (qbh (qam (op_neD (hu8 hr)) (qaj qan (pv 1) qa4 (fun _ _=>rfl)) (qbp (caps:=[9]) (cn:=["_law_j"]) (qb1 rfl rfl (by rfl) (by rfl) rfl ⟨rfl,trivial⟩ (by rfl) rfl ⟨⟨rfl,rfl,rfl,rfl,_,rfl⟩,trivial⟩ (by decide)) rfl (qau (pv 10)) (fun _ _ _ _=>(qck (qam qe4 (qaj qal (qaj qan (pv 0) qa4 (fun _ _=>rfl)) (pv 1) (fun _ _=>rfl)) qa4 (qas _)))) (fun _ _ _ _=>(qe2 (qa0 (qaj qan (pv 0) qa4 (fun _ _=>rfl)) (qa0 (qaj qal (qaj qan (pv 0) qa4 (fun _ _=>rfl)) (pv 1) (fun _ _=>rfl)) qa2))))) (qas _)) (qa5 (qai qdc)) qaq)
  (qa1 (qag (i:=11) w08.nd rfl (uJ rfl) (qa8 ((wbp T).mono (by decide)) hr rfl T.wfb T.wdx.kp T.wf9 .nil qak (qa0 (pv 10) (qa0 (pv 4) (qa0 (pv 8) (qa0 (pv 9) qa2))))))
  (qa5 (qai (qe3 (qbm qbv (pv 8) (qaj qal (pv 4) (qaj qan (pv 6) qa4 (fun _ _=>rfl)) (fun _ _=>rfl)) (by rfl)) (qe3 (qbm qe4 (qaj qal (qaj qan (pv 6) qa4 (fun _ _=>rfl)) (pv 9) (fun _ _=>rfl)) qa4 (qas _)) (qdi (qbm qe4 (qao qb2 (pv 11) (qaj qal (qaj qan (pv 6) qa4 (fun _ _=>rfl)) (pv 9) (fun _ _=>rfl))) (qaj qal (qaj qal (pv 7) (pv 8) (fun _ _=>rfl)) (pv 9) (fun _ _=>rfl)) (qas _)))))))))))))),?_⟩
 walk_at "d"
 try dsimp only [cxC]
 refine qah (σ:=[some (.ref w.wt),some (.ref p),none,none,none,none,none,none,none,none,none,none]) rfl ?_
 have htp:=hw.tup
 have eln:=hw.ln
 have elw:=hw.lw
 left
 refine qdz (SqL.of hw.ln) (zM hi) ?_
 left
 refine qdz (SqL.of hw.lw) (zM hj) ?_
 left
 refine r_idxS (SqL.of hw.ln) ok.nms.nd hi ?_
 left
 refine r_idxS (SqL.of hw.lw) ok.wsn.nd hj ?_
 have hln:=hw.le
 have r30:=ok.r30
 have hlr:=hw.lr
 have hin:i < w.es.length+1:=by rw [<-ok.nms.len];exact hi
 generalize hii:((i:Nat):Int)=ii at*
 generalize hjj:((j:Nat):Int)=jj at*
 left
 intro C s0 H0 fp lt hlt
 have zr:∀(f:Rw->Bool) (l:List Rw) (k:Nat),l.length<=30->(rwV ((l.take k).filter f)).length < sizeLine:=fun f l k h=>by
  unfold rwV
  rw [zB]
  have h1:=zN f (l.take k)
  rw [zW] at h1
  show _ < 16777216
  omega
 refine qel w.Rs.length (fun k H2=>qar H H2/\H2 lt=some (.lst (rwV ((w.Rs.take k).filter (stR w i))))) ⟨qa9 hlt _,qa3⟩ ?_ ?_ ?_ ?_
 .rintro k H2 hk ⟨s2,_⟩
  exact⟨_,.ref w.Rs[k].p,SqL.of (s2 _ _ hlr),by unfold rwV;rw [zC,zA hk];rfl⟩
 .rintro H2 ⟨s2,_⟩
  exact⟨_,SqL.of (s2 _ _ hlr),by unfold rwV;rw [zB];exact uG _⟩
 .rintro k H2 v H3 hk ⟨s2,ea⟩ ⟨rfl,hv⟩
  have hv:=hv _ (SqL.of (s2 _ _ hlr))
  unfold rwV at hv
  rw [zC,zA hk] at hv
  cases hv
  have tk:w.Rs.take (k+1)=w.Rs.take k++ [w.Rs[k]]:=by rw [zL,zA hk];rfl
  have hRi:=(hw.rs _ (zM hk)).same s2
  generalize w.Rs[k]=R at*
  have hrow:=hRi.row
  have hla2:=s2 _ _ hw.la
  obtain⟨x,_,ax,ex⟩:=(hln.same s2).at (k:=R.i) hRi.il
  have etop:=(hln.same s2).top
  have zl:=zr (stR w i) w.Rs k r30
  have yes:stR w i R=true->rwV ((w.Rs.take (k+1)).filter (stR w i))=rwV ((w.Rs.take k).filter (stR w i))++ [.ref R.p]:=fun e=>by
   rw [tk,zQ,zJ,gT e]
   unfold rwV
   rw [zD];rfl
  have no:stR w i R=false->rwV ((w.Rs.take (k+1)).filter (stR w i))=rwV ((w.Rs.take k).filter (stR w i)):=fun e=>by
   rw [tk,zQ,zJ,gS (by rw [e];exact uE),yK,yA]
  generalize hri:((R.i:Nat):Int)=ri at*
  generalize hhi:((w.h:Nat):Int)=hh at*
  clear tk hv htp eln elw
  left
  refine⟨w.la,_,_,R,_,w.pa,w.rk,w.su,rfl,hRi,hla2,?_⟩
  refine⟨_,rfl,?_⟩
  cases c1:qc4 w.rk w.su R with
  |true=>
   left
   refine⟨s2,?_⟩
   rw [ea,no (by unfold stR;rw [c1];rfl)]
  |false=>
   left
   refine qb3 (SqL.of etop) ax ?_
   left
   refine r_inN (SqL.of ex) hii ?_
   by_cases c:i∈qab (elN w.es) R.i
   .rw [gU c]
    left
    refine⟨qav s2 hlt,?_⟩
    rw [qa3,yes (by unfold stR;rw [c1,gU c];rfl)]
   .rw [gW c]
    left
    refine⟨s2,?_⟩
    rw [ea,no (by unfold stR;rw [c1,gW c];rfl)]
 rintro H4 ⟨s4,elt⟩
 rw [zP] at elt
 have hw4:=hw.same s4
 have hp4:=s4 _ _ hp
 have hl4:=s4 _ _ hl
 have hps4:∀x∈ps,PrAt H4 x:=fun x hx=>s4 _ _ (hps x hx)
 have k30:(w.Rs.filter (stR w i)).length<=30:=vP (zN ..) r30
 have hkR:∀R∈w.Rs.filter (stR w i),RwAt H4 (w.es.length+1) w.ws.length R:=fun R hr=>hw4.rs R (zY.mp hr).1
 generalize (w.Rs.filter (stR w i))=Ks at*
 have xj:∀(R:Rw),R.ps.length=w.ws.length->atI (R.ps.map V.int) jj=some (.int (psN R j)):=fun R hl=>by rw [<-hjj];exact qax (by unfold psN;rw [zC,zA (by omega)];rfl)
 clear htp hp hl hps hlr hw eln elw
 left
 intro C s0 H0 fp ln2 hln2
 refine qel Ks.length (fun k H5=>∃qs:List Pr,qar H4 H5/\H5 ln2=some (.lst (prV qs))/\qs.length<=k/\(∀x∈qs,PrAt H5 x/\H4 x.a=none)/\prZ qs=((Ks.take k).filter (fun R=>decide (0 < psN R j))).map (fun R=>(R.n,psN R j))) ⟨[],qa9 hln2 _,qa3,uG _,fun x hx=>by simp at hx,rfl⟩ ?_ ?_ ?_ ?_
 .rintro k H5 hk ⟨qs,s5,_⟩
  exact⟨_,.ref Ks[k].p,SqL.of (s5 _ _ elt),by unfold rwV;rw [zC,zA hk];rfl⟩
 .rintro H5 ⟨qs,s5,_⟩
  exact⟨_,SqL.of (s5 _ _ elt),by unfold rwV;rw [zB];exact uG _⟩
 .rintro k H5 v H6 hk ⟨qs,s5,ea,hql,hqs,eqs⟩ ⟨rfl,hv⟩
  have hv:=hv _ (SqL.of (s5 _ _ elt))
  unfold rwV at hv
  rw [zC,zA hk] at hv
  cases hv
  have tk:Ks.take (k+1)=Ks.take k++ [Ks[k]]:=by rw [zL,zA hk];rfl
  have hRi:=(hkR _ (zM hk)).same s5
  generalize Ks[k]=R at*
  have hrow:=hRi.row
  have hpar:=hRi.par
  have xr:=xj R hRi.len
  have zl:(prV qs).length < sizeLine:=by unfold prV;rw [zB];show _ < 16777216;omega
  generalize hri:((R.i:Nat):Int)=ri at*
  clear hv hp4
  left
  refine qb3 (SqL.of hpar) xr ?_
  left
  by_cases c:0 < psN R j
  .rw [gU c]
   left
   refine qb3 (SqL.of hpar) xr ?_
   left
   rename_i pp hpp
   have u1:=qa9 hpp (.tup [V.int R.n,V.int (psN R j)])
   have epp:upd H6 pp (.tup [V.int R.n,V.int (psN R j)]) pp=some (.tup [V.int R.n,V.int (psN R j)]):=qa3
   generalize upd H6 pp (.tup [V.int R.n,V.int (psN R j)])=H7 at*
   have ea7:=u1 _ _ ea
   have put:∀{x:Pr} {o:HO},PrAt H7 x->PrAt (upd H7 ln2 o) x:=fun {x o} h=>by
    unfold PrAt at h ⊢
    rw [qa6 (fun z=>by rw [z,ea7] at h;cases h)];exact h
   refine⟨qs++ [⟨pp,R.n,psN R j⟩],qav (s5.trans u1) hln2,by rw [qa3];unfold prV;rw [zD];rfl,by rw [zK,yB];omega,fun x hx=>?_,by unfold prZ at eqs ⊢;rw [zD,eqs,tk,zQ,zJ,gT (gU c),zD];rfl⟩
   rcases zT.mp hx with h|h
   .exact⟨put (u1 _ _ (hqs x h).1),(hqs x h).2⟩
   .rw [zH.mp h]
    exact⟨put epp,s5.free hpp⟩
  .rw [gW c]
   left
   refine⟨qs,s5,ea,by omega,hqs,?_⟩
   rw [eqs,tk,zQ,zJ,gS (by rw [gW c];exact uE),yK,yA]
 rintro H5 ⟨qs,s5,elq,_,hqs,eqs⟩
 rw [zP] at eqs
 have hp5:=s5 _ _ hp4
 have hl5:=s5 _ _ hl4
 have hw5:=hw4.same s5
 have ne:l≠ln2:=qa7 hl4 hln2
 have dq:=deqs_pr (K:=K) (eps.trans eqs.symm) (fun x hx=>s5 _ _ (hps4 x hx)) (fun x hx=>(hqs x hx).1) fun x hx y hy=>qa7 (hps4 x hx) (hqs y hy).2
 refine r_neD ne (by decide) (deq_list (n:=1) (SqL.of hl5) (SqL.of elq) ne dq) ?_
 refine⟨_,rfl,?_⟩
 have t5:=s4.trans s5
 have elt5:=s5 _ _ elt
 have hkR5:∀R∈Ks,RwAt H5 (w.es.length+1) w.ws.length R:=fun R hr=>(hkR R hr).same s5
 clear dq hqs elq hln2 hp4 hl4 hps4 elt hkR hw4
 left
 refine⟨lt,w.le,w.las,Ks,w.es,_,w.ws.length,i,j,by rw [hii,hjj],elt5,k30,hkR5,hw5.le,rfl,hj,fun H6 s6=>?_⟩
 generalize qcj (elN w.es) Ks i j=sv at*
 have hw6:=hw5.same s6
 obtain⟨xh,_,axh,exh⟩:=hw6.le.at ok.hh
 obtain⟨ec,ecl,ecb,xc⟩:=hw6.cs.at (k:=i) (by rw [ok.cl];exact hin)
 have etop:=hw6.le.top
 have ela:=hw6.la
 have hap:j < w.aps.length:=by rw [ok.apl];exact hj
 have hcj:j <(csD w.cs i).length:=by rw [ecl];exact hj
 have x1:atI (w.aps.map V.int) jj=some (.int w.aps[j]):=by rw [<-hjj];exact qax (by rw [zC,zA hap];rfl)
 have x2:atI ((csD w.cs i).map V.int) jj=some (.int (csD w.cs i)[j]):=by rw [<-hjj];exact qax (by rw [zC,zA hcj];rfl)
 rw [hii] at xc
 rw [zA hap] at hak hbd
 rw [zA hcj] at hbd
 have hak:0 < w.aps[j]:=hak
 have hbd:(csD w.cs i)[j] < sv+w.aps[j]:=hbd
 have hil':decide (i∈qab (elN w.es) w.h)=true:=gU hil
 generalize hhi:((w.h:Nat):Int)=hh at*
 generalize w.aps[j]=av at*
 generalize (csD w.cs i)[j]=cv at*
 have t6:=t5.trans s6
 clear elt5 hkR5 hw5 hp5 hl5 s6
 left
 refine qb3 (SqL.of etop) axh ?_
 left
 refine r_inN (SqL.of exh) hii ?_
 rw [hil']
 refine⟨_,rfl,?_⟩
 left
 refine qb3 (SqL.of hw6.pa) x1 ?_
 left
 refine qb3 (SqL.of hw6.pa) x1 ?_
 left
 refine qb3 (SqL.of hw6.lc) xc ?_
 left
 refine qb3 (SqL.of ec) x2 ?_
 left
 rw [gU hbd]
 exact q _ t6
theorem r_notInN {K:uR} {H:Hp} {Q:VK} {p:Addr} {k:Nat} {ki:Int} {L:List Nat} (h:SqL K H p (L.map iV)) (e:((k:Nat):Int)=ki) (q:Q (.bl (!decide (k∈L))) H):rIn K true (.int ki) (.ref p) H Q:=⟨p,_,rfl,.inl h,rfl,flat_nats L,by rw [<-e,inV_nat];exact q⟩
noncomputable def HadG (w:Wd) (gone:List Int) (g:Gr):Prop:=(∃R∈w.Rs,g.b.R=qfh w.ws R/\qc4 w.rk w.su R=true/\R.n∈gone/\capN w g.c < qfd w (w.Rs.filter (qff w.rk w.su gone R.n)++ [R]) g.c+gN (akF w) g.c.2)/\g.c.1∈qab (elN w.es) w.h/\g.c.2∈w.ws
noncomputable def wb3 (K:uR) (d:Ad):Sp:=fun vs H Q _=>∃(w:Wd) (l lg:Addr) (P:PL) (gs:List Gr) (gone:List Int),vs=[.ref w.wt,.ref l,.ref lg]/\WAt H w/\WOk w/\P.nm=w.nm/\H l=some (.lst (grV gs))/\H lg=some (.lst (gone.map V.int))/\(∀g∈gs,GrAt H P g/\HadG w gone g)/\(gs.map fun g=>g.b.R.n).Pairwise (·< ·)/\∀H',qar H H'->Q (.bl true) H'
include T in
theorem wb6:FnOk P w K mg base CX0 4 d.w5x d.w4v ["_law_world_here","_law_given","_law_gone"] (wb3 K d):=by
 refine T.w82.ok w02 (fun vs H Q E h=>?_) (fun cdv A outer s H vs Q E hr h=>?_)
 .obtain⟨w,l,lg,P,gs,gone,rfl,_⟩:=h;rfl
 obtain⟨w,l,lg,P,gs,gone,rfl,hw,ok,hPn,hL,elg,hG,hup,q⟩:=h
 refine⟨_,(qa1 (qej (pv 0) (qd7 rfl (qad (qac (i:=3) w02.nd rfl (uJ rfl)) (qad (qac (i:=4) w02.nd rfl (uJ rfl)) (qad (qac (i:=5) w02.nd rfl (uJ rfl)) (qad (qac (i:=6) w02.nd rfl (uJ rfl)) (qad (qac (i:=7) w02.nd rfl (aV rfl)) (qad (qac (i:=8) w02.nd rfl (uJ rfl)) qca))))))))
  (qa1 (qag (i:=9) w02.nd rfl (uJ rfl) qa4)
  (qa1 (qb7 uY rfl (qau (pv 1)) (qd7 rfl (qad (qac (i:=10) w02.nd rfl (aV rfl)) (qad (qac (i:=11) w02.nd rfl (uJ rfl)) (qad (qac (i:=12) w02.nd rfl (uJ rfl)) (qad (qac (i:=13) w02.nd rfl (uJ rfl)) (qad (qac (i:=14) w02.nd rfl (uJ rfl)) qca)))))) (qa1 (qcs (j:=15) (caps:=[10]) (cn:=["_law_number"]) (qb1 rfl rfl (by rfl) (by rfl) rfl ⟨rfl,trivial⟩ (by rfl) rfl ⟨⟨rfl,rfl,rfl,rfl,_,rfl⟩,trivial⟩ (by decide)) rfl w02.nd rfl rfl (qau (pv 6)) (fun _ _ _ _=>(qck (qam qen (qaj qan (pv 0) qa4 (fun _ _=>rfl)) (pv 1) (qas _)))) (fun _ _ _ _=>(pv 0)))
  (qa1 (qbh (PW.pt (qcr (qam op_le (pv 10) (pv 9) (qas _)) (qcr (qam op_ne (qaf qay rfl T.w2t vH (qa0 (pv 15) qa2)) qa4 (qas _)) (qcr (qbj (qb6 (qa8 ((w6v T).mono (by decide)) hr rfl T.w9h T.w8i.kp T.w9f .nil qak (qa0 (qaj qal (pv 15) qa4 (fun _ _=>rfl)) (qa0 (pv 7) qa2))))) (qcr (qam qbl (pv 13) (pv 3) (by rfl)) (qd6 (qam qbl (pv 14) (pv 4) (by rfl)))))))) (qa5 (qai qdc)) qaq)
  (qa1 (qcs (j:=16) (caps:=[2,7,10]) (cn:=["_law_gone","_law_ask","_law_number"]) (qb1 rfl rfl (by rfl) (by rfl) rfl ⟨rfl,⟨rfl,⟨rfl,trivial⟩⟩⟩ (by rfl) rfl ⟨⟨rfl,rfl,rfl,rfl,_,rfl⟩,⟨⟨rfl,rfl,rfl,rfl,_,rfl⟩,⟨⟨rfl,rfl,rfl,rfl,_,rfl⟩,trivial⟩⟩⟩ (by decide)) rfl w02.nd rfl rfl (qau (pv 6)) (fun _ _ _ _=>(qck (PW.pt (pw_and (qam qbl (qaj qan (pv 0) qa4 (fun _ _=>rfl)) (pv 1) (by rfl)) (qg3 (PW.pt (qcr (qam op_lt (qaj qan (pv 0) qa4 (fun _ _=>rfl)) (pv 3) (qas _)) (qd6 (qbj (qb6 (qa8 ((w6v T).mono (by decide)) hr rfl T.w9h T.w8i.kp T.w9f .nil qak (qa0 (pv 0) (qa0 (pv 2) qa2))))))))))))) (fun _ _ _ _=>(pv 0)))
  (qa1 (qag (i:=17) w02.nd rfl (uJ rfl) (qdb uZ wQ xL qf2 (pv 4) (qa0 (pv 14) qa2)))
  (qa1 (qag (i:=18) w02.nd rfl (uJ rfl) (qdb uZ wQ xL qf2 (pv 3) (qa0 (pv 13) qa2)))
  (qa1 (qag (i:=19) w02.nd rfl (uJ rfl) (qa8 ((wbp T).mono (by decide)) hr rfl T.wfb T.wdx.kp T.wf9 .nil qak (qa0 (qao op_cat (pv 16) (pv 15)) (qa0 (pv 5) (qa0 (pv 18) (qa0 (pv 17) qa2))))))
  (qa1 (qbh (PW.pt (qcr (qam qbl (pv 18) (qaj qal (pv 5) (qaj qan (pv 7) qa4 (fun _ _=>rfl)) (fun _ _=>rfl)) (by rfl)) (qd6 (qam op_le (qao qb2 (pv 19) (qaj qal (qaj qan (pv 7) qa4 (fun _ _=>rfl)) (pv 17) (fun _ _=>rfl))) (qaj qal (qaj qal (pv 8) (pv 18) (fun _ _=>rfl)) (pv 17) (fun _ _=>rfl)) (qas _))))) (qa5 (qai qdc)) qaq)
  (qa5 (qag (i:=9) w02.nd rfl (uJ rfl) (pv 10)))))))))))
  (qa5 (qai qdc))))),?_⟩
 walk_at "d"
 try dsimp only [cxC]
 refine qah (σ:=[some (.ref w.wt),some (.ref l),some (.ref lg),none,none,none,none,none,none,none,none,none,none,none,none,none,none,none,none,none]) rfl ?_
 have htp:=hw.tup
 have low:=qd4 (fun k e h=>(hw.le.lo k e h).1) (w.es.length+1)
 have lle:=qcf low w.h ok.hh
 have zr:∀(f:Rw->Bool) (l:List Rw) (k:Nat),l.length<=30->(rwV ((l.take k).filter f)).length < sizeLine:=fun f l k h=>by
  unfold rwV
  rw [zB]
  have h1:=zN f (l.take k)
  rw [zW] at h1
  show _ < 16777216
  omega
 left
 refine qcz (xs:=grV gs) (fun i σ H'=>∃(la:Int) (w10 w11 w12 w13 w14 w15 w16 w17 w18 w19:Option V),σ=[some (V.ref w.wt),some (V.ref l),some (V.ref lg),some (V.ref w.ln),some (V.ref w.lw),some (V.ref w.le),some (V.ref w.lr),some (V.ref w.la),some (V.ref w.lc),some (V.int la),w10,w11,w12,w13,w14,w15,w16,w17,w18,w19]/\qar H H'/\∀(j:Nat) (g:Gr),i<=j->gs[j]?=some g->la < g.b.R.n) ⟨0,_,_,_,_,_,_,_,_,_,_,rfl,qar.refl _,fun j g _ hg=>?_⟩ ?_ ?_ ?_
 .obtain⟨R,hr,e,_⟩:=(hG g (zF hg)).2.1
  have:=(hw.rs R hr).n1
  rw [e]
  show 0 < R.n
  omega
 .rintro i σ H' _ ⟨la,w10,w11,w12,w13,w14,w15,w16,w17,w18,w19,_,sm,_⟩;exact SqL.of (sm _ _ hL)
 .rintro i x σ H' hx ⟨la,w10,w11,w12,w13,w14,w15,w16,w17,w18,w19,rfl,sm,hlast⟩
  unfold grV at hx
  rw [zC] at hx
  obtain⟨g,hg,rfl⟩:=uU.mp hx
  obtain⟨hGi,⟨R,hrm,eR,hend,hgo,hcap⟩,hcl,hcw⟩:=hG g (zF hg)
  have hgl:=hlast i g (uG _) hg
  have hnext:∀(j:Nat) (g':Gr),i+1<=j->gs[j]?=some g'->g.b.R.n < g'.b.R.n:=fun j g' hj hg'=>by
   obtain⟨hj1,ej⟩:=uH.mp hg'
   obtain⟨hi1,ei⟩:=uH.mp hg
   have:=(zV.mp hup) i j (by rw [zB];exact hi1) (by rw [zB];exact hj1) (by omega)
   rw [yH,yH,ei,ej] at this
   exact this
  have hgt:=(hGi.same sm).tup
  have hw1:=hw.same sm
  have hlr:=hw1.lr
  have r30:=ok.r30
  have eown:=own_eq ok.up hrm
  have en:g.b.R.n=R.n:=by rw [eR];rfl
  obtain⟨j,hj,ej⟩:=zO.mp hcw
  have hcn:g.c.1 < w.nm.length:=by have:=lle _ hcl;rw [ok.nms.len];have:=ok.hh;omega
  have enm:nmF P g.c.1=w.nm[g.c.1]:=by
   have:g.c.1 < P.nm.length:=by rw [hPn];exact hcn
   rw [qd9 this]
   simp only [hPn]
  rw [en,enm,<-ej] at hgt
  rw [en] at hgl
  have hnext:∀(j:Nat) (g':Gr),i+1<=j->gs[j]?=some g'->R.n < g'.b.R.n:=fun j g' a b=>by rw [<-en];exact hnext j g' a b
  have ec:g.c=(g.c.1,w.ws[j]):=by rw [ej]
  rw [ec] at hcap
  dsimp only at hcap
  generalize g.c.1=at_ at*
  clear hx hg hlast eR hGi en ec ej enm hcw
  left
  intro C s0 H0 fp lo hlo
  refine qel w.Rs.length (fun i H2=>qar H' H2/\H2 lo=some (.lst (rwV ((w.Rs.take i).filter fun X=>decide (X.n=R.n))))) ⟨qa9 hlo _,qa3⟩ ?_ ?_ ?_ ?_
  .rintro i H2 hi ⟨s2,_⟩
   exact⟨_,.ref w.Rs[i].p,SqL.of (s2 _ _ hlr),by unfold rwV;rw [zC,zA hi];rfl⟩
  .rintro H2 ⟨s2,_⟩
   exact⟨_,SqL.of (s2 _ _ hlr),by unfold rwV;rw [zB];exact uG _⟩
  .rintro i H2 v H3 hi ⟨s2,ea⟩ ⟨rfl,hv⟩
   have hv:=hv _ (SqL.of (s2 _ _ hlr))
   unfold rwV at hv
   rw [zC,zA hi] at hv
   cases hv
   have tk:w.Rs.take (i+1)=w.Rs.take i++ [w.Rs[i]]:=by rw [zL,zA hi];rfl
   have hRi:=(hw1.rs _ (zM hi)).same s2
   generalize w.Rs[i]=X at*
   have hrow:=hRi.row
   generalize hri:((X.i:Nat):Int)=ri at*
   have zl:=zr (fun X=>decide (X.n=R.n)) w.Rs i r30
   clear hv hgt
   left
   by_cases c1:X.n=R.n
   .rw [gU c1]
    left
    refine⟨qav s2 hlo,?_⟩
    rw [qa3,tk,zQ,zJ,gT (gU c1)]
    unfold rwV
    rw [zD];rfl
   .rw [gW c1]
    left
    refine⟨s2,?_⟩
    rw [ea,tk,zQ,zJ,gS (by rw [gW c1];exact uE),yK,yA]
  rintro H2 ⟨s2,elo⟩
  rw [zP,eown] at elo
  have elo:H2 lo=some (.lst [.ref R.p]):=elo
  have hw2:=hw1.same s2
  have hR2:=hw2.rs R hrm
  have hla2:=hw2.la
  have t2:=sm.trans s2
  generalize hhi:((w.h:Nat):Int)=hi at*
  clear hgt hw1 hlr eown hlo
  left
  refine⟨w.la,_,_,R,_,w.pa,w.rk,w.su,rfl,hR2,hla2,?_⟩
  rw [hend]
  refine⟨_,rfl,?_⟩
  left
  refine qdz (SqL.of hw2.ln) (zM hcn) ?_
  left
  refine qdz (SqL.of hw2.lw) (zM hj) ?_
  have hlr:=hw2.lr
  have elg2:=t2 _ _ elg
  left
  intro C s0 H0 fp lk hlk
  refine qel w.Rs.length (fun i H3=>qar H2 H3/\H3 lk=some (.lst (rwV ((w.Rs.take i).filter (qff w.rk w.su gone R.n))))) ⟨qa9 hlk _,qa3⟩ ?_ ?_ ?_ ?_
  .rintro i H3 hi ⟨s3,_⟩
   exact⟨_,.ref w.Rs[i].p,SqL.of (s3 _ _ hlr),by unfold rwV;rw [zC,zA hi];rfl⟩
  .rintro H3 ⟨s3,_⟩
   exact⟨_,SqL.of (s3 _ _ hlr),by unfold rwV;rw [zB];exact uG _⟩
  .rintro i H3 v H4 hi ⟨s3,ea⟩ ⟨rfl,hv⟩
   have hv:=hv _ (SqL.of (s3 _ _ hlr))
   unfold rwV at hv
   rw [zC,zA hi] at hv
   cases hv
   have tk:w.Rs.take (i+1)=w.Rs.take i++ [w.Rs[i]]:=by rw [zL,zA hi];rfl
   have hRi:=(hw2.rs _ (zM hi)).same s3
   generalize w.Rs[i]=X at*
   have hrow:=hRi.row
   have hla3:=s3 _ _ hla2
   have elg3:=s3 _ _ elg2
   have zl:=zr (qff w.rk w.su gone R.n) w.Rs i r30
   have yes:qff w.rk w.su gone R.n X=true->rwV ((w.Rs.take (i+1)).filter (qff w.rk w.su gone R.n))=rwV ((w.Rs.take i).filter (qff w.rk w.su gone R.n))++ [.ref X.p]:=fun e=>by
    rw [tk,zQ,zJ,gT e]
    unfold rwV
    rw [zD];rfl
   have no:qff w.rk w.su gone R.n X=false->rwV ((w.Rs.take (i+1)).filter (qff w.rk w.su gone R.n))=rwV ((w.Rs.take i).filter (qff w.rk w.su gone R.n)):=fun e=>by
    rw [tk,zQ,zJ,gS (by rw [e];exact uE),yK,yA]
   generalize hri:((X.i:Nat):Int)=ri at*
   clear tk hv hla2 elo
   left
   refine r_notInI (SqL.of elg3) ?_
   by_cases c1:X.n∈gone
   .rw [gU c1]
    left
    refine⟨s3,?_⟩
    rw [ea,no (by unfold qff;rw [gU c1];rfl)]
   .rw [gW c1]
    left
    by_cases c2:X.n < R.n
    .rw [gU c2]
     left
     refine⟨qav s3 hlk,?_⟩
     rw [qa3,yes (by unfold qff;rw [gW c1,gU c2];rfl)]
    .rw [gW c2]
     left
     refine⟨w.la,_,_,X,_,w.pa,w.rk,w.su,rfl,hRi,hla3,?_⟩
     refine⟨_,rfl,?_⟩
     cases c3:qc4 w.rk w.su X with
     |true=>
      left
      refine⟨s3,?_⟩
      rw [ea,no (by unfold qff;rw [gW c1,gW c2,c3];rfl)]
     |false=>
      left
      refine⟨qav s3 hlk,?_⟩
      rw [qa3,yes (by unfold qff;rw [gW c1,gW c2,c3];rfl)]
  rintro H3 ⟨s3,elk⟩
  rw [zP] at elk
  have hw3:=hw2.same s3
  have elo3:=s3 _ _ elo
  have t3:=t2.trans s3
  have k30:(w.Rs.filter (qff w.rk w.su gone R.n)).length<=30:=vP (zN ..) r30
  have hsub:∀X∈w.Rs.filter (qff w.rk w.su gone R.n)++ [R],X∈w.Rs:=fun X hX=>by
   rcases zT.mp hX with h|h
   .exact(zY.mp h).1
   .rw [zH.mp h];exact hrm
  have k31:(w.Rs.filter (qff w.rk w.su gone R.n)++ [R]).length<=30:=by
   rw [<-(had_perm ok hrm hgo).length_eq]
   exact vP (zN ..) r30
  generalize (w.Rs.filter (qff w.rk w.su gone R.n))=Ks at*
  have han:at_ < w.es.length+1:=by rw [<-ok.nms.len];exact hcn
  obtain⟨ec,ecl,ecb,xc⟩:=hw3.cs.at (k:=at_) (by rw [ok.cl];exact han)
  have hap:j < w.aps.length:=by rw [ok.apl];exact hj
  have hcj:j <(csD w.cs at_).length:=by rw [ecl];exact hj
  have x1:atI (w.aps.map V.int) ((j:Nat):Int)=some (.int w.aps[j]):=qax (by rw [zC,zA hap];rfl)
  have x2:atI ((csD w.cs at_).map V.int) ((j:Nat):Int)=some (.int (csD w.cs at_)[j]):=qax (by rw [zC,zA hcj];rfl)
  have v1:gN (akF w) w.ws[j]=w.aps[j]:=qdf ok.apl.symm ok.wsn.nd (fun p hp=>(ok.apn p hp).lo) hj hap
  have v2:capN w (at_,w.ws[j])=(csD w.cs at_)[j]:=qdf ecl.symm ok.wsn.nd (fun p hp=>(ecb p hp).1) hj hcj
  have v3:qfd w (Ks++ [R]) (at_,w.ws[j])=qcj (elN w.es) (Ks++ [R]) at_ j:=sumZ_eq ok.wsn.nd hj fun X hX=>⟨(hw3.rs X (hsub X hX)).len,(hw3.rs X (hsub X hX)).nn⟩
  rw [v1,v2,v3] at hcap
  have elw:=hw3.lw
  have eln:=hw3.ln
  have ela:=hw3.la
  rw [hhi] at ela
  clear v1 v2 v3 hw2 hlk hlr elg2 hla2 s3 elo
  left
  refine r_idxS (SqL.of elw) ok.wsn.nd hj ?_
  left
  refine r_idxS (SqL.of eln) ok.nms.nd hcn ?_
  generalize hji:((j:Nat):Int)=ji at*
  generalize hai:((at_:Nat):Int)=ai at*
  left
  have hz:(rwV Ks).length+([V.ref R.p]:List V).length<=sizeLine:=by
   unfold rwV
   rw [zB,yB]
   show _<=16777216
   omega
  refine r_cat elk elo3 hz fun lq hlq=>?_
  have s4:=qa9 hlq (.lst (rwV Ks++ [.ref R.p]))
  have elq:upd H3 lq (.lst (rwV Ks++ [.ref R.p])) lq=some (.lst (rwV (Ks++ [R]))):=by
   rw [qa3]
   unfold rwV
   rw [zD];rfl
  generalize upd H3 lq (.lst (rwV Ks++ [.ref R.p]))=H4 at*
  have hw4:=hw3.same s4
  clear elk elo3 hz hlq
  left
  refine⟨lq,w.le,w.las,Ks++ [R],w.es,_,w.ws.length,at_,j,by rw [hai,hji],elq,k31,fun X hX=>hw4.rs X (hsub X hX),hw4.le,rfl,hj,fun H5 s5=>?_⟩
  generalize qcj (elN w.es) (Ks++ [R]) at_ j=sv at*
  have hw5:=hw4.same s5
  obtain⟨xh,_,axh,exh⟩:=hw5.le.at ok.hh
  have etop:=hw5.le.top
  have ela5:=hw5.la
  rw [hhi] at axh ela5
  have t5:=(t3.trans s4).trans s5
  have s45:=s4.trans s5
  have hcl':decide (at_∈qab (elN w.es) w.h)=true:=gU hcl
  generalize w.aps[j]=av at*
  generalize (csD w.cs at_)[j]=cv at*
  clear elq hw4 ela elw eln hw3 s5 s4
  left
  refine qb3 (SqL.of etop) axh ?_
  left
  refine r_notInN (SqL.of exh) hai ?_
  rw [hcl']
  left
  refine qb3 (SqL.of hw5.pa) x1 ?_
  left
  refine qb3 (SqL.of hw5.lc) xc ?_
  left
  refine qb3 (SqL.of (s45 _ _ ec)) x2 ?_
  left
  exact⟨_,_,_,_,_,_,_,_,_,_,_,rfl,t5,hnext⟩
 .rintro σ H' ⟨la,w10,w11,w12,w13,w14,w15,w16,w17,w18,w19,rfl,sm,_⟩
  left
  exact q _ sm
theorem pls_mem {js:List Nat} {ss:List Str} {p:Pc} (h1:p.1∈js) (h2:p.2∈ss):p∈pls js ss:=bY.mpr ⟨p.1,h1,zI.mpr ⟨p.2,h2,rfl⟩⟩
theorem stays_end {ws:List Str} {r:Int} {su:Bool} {b:Ob} {R:Rw} (e:b.R=qfh ws R):qat r su b=!qc4 r su R:=by
 unfold qat qc4
 rw [e]
 show (R.s || !(su || decide (R.r < r)))=_
 cases R.s <;> cases su <;> cases decide (R.r < r) <;> rfl
theorem row_inj {w:Wd} (ok:WOk w) {A B:Rw} (ha:A∈w.Rs) (hb:B∈w.Rs) (e:A.n=B.n):A=B:=by
 have h1:=own_eq ok.up ha
 have:B∈w.Rs.filter fun X=>decide (X.n=A.n):=zY.mpr ⟨hb,gU e.symm⟩
 rw [h1] at this
 exact(zH.mp this).symm
theorem take_eq {w:Wd} {P:PL} {i j:Nat} (nd:w.ws.Nodup) (hj:j < w.ws.length) (ees:P.es=w.es):∀{bs:List Ob} {Rs:List Rw},bs.map (·.R)=Rs.map (qfh w.ws)->(∀R∈Rs,R.ps.length=w.ws.length/\∀p∈R.ps,PpOk p)->
  takeN w.ws[j] ((bs.filter (qat w.rk w.su)).filter fun b=>decide (i∈qab (elN P.es) b.R.i))=((Rs.filter (stR w i)).filter (fun R=>decide (0 < psN R j))).map (fun R=>(R.n,psN R j))
 | [], [],_,_=>rfl
 | [],_ :: _,e,_=>by simp at e
 |_ :: _, [],e,_=>by simp at e
 |b :: bs,R :: Rs,e,hl=>by
  rw [zS,zS] at e
  obtain⟨e1,e2⟩:=wM e
  have ih:=take_eq (i:=i) nd hj ees e2 fun x hx=>hl x (zE _ hx)
  obtain⟨l1,l2⟩:=hl R (zG ..)
  have eg:gN b.R.f w.ws[j]=psN R j:=by
   rw [e1]
   show gN (tdF (w.ws.zip R.ps)) w.ws[j]=_
   rw [qdf l1.symm nd (fun p hp=>(l2 p hp).lo) hj (by omega)]
   unfold psN
   rw [zA (by omega)];rfl
  have ei:b.R.i=R.i:=by rw [e1];rfl
  have en:b.R.n=R.n:=by rw [e1];rfl
  unfold takeN at ih ⊢
  rw [yU,yU] at ih ⊢
  rw [yU] at ih ⊢
  have et:(decide (0 < gN b.R.f w.ws[j]) && (decide (i∈qab (elN P.es) b.R.i) && qat w.rk w.su b))=(decide (0 < psN R j) && stR w i R):=by
   unfold stR
   rw [eg,ei,ees,stays_end e1,Bool.and_comm (!qc4 w.rk w.su R)]
  have et2:(decide (0 < gN b.R.f w.ws[j]) && decide (i∈qab (elN P.es) b.R.i) && qat w.rk w.su b)=(decide (0 < psN R j) && stR w i R):=by rw [Bool.and_assoc];exact et
  rw [zJ,zJ (xs:=Rs)]
  by_cases c:(decide (0 < psN R j) && stR w i R)=true
  .rw [gT c,zS,<-ih]
   first
    |rw [gT (by rw [et];exact c)]
    |rw [gT (by rw [et2];exact c)]
   rw [zS,eg,en]
  .rw [gS c,<-ih]
   first
    |rw [gS (by rw [et];exact c)]
    |rw [gS (by rw [et2];exact c)]
theorem sum_st {w:Wd} {i j:Nat} (l:List Rw):qcj (elN w.es) (l.filter (stR w i)) i j=qcj (elN w.es) (l.filter fun R=>!qc4 w.rk w.su R) i j:=by
 unfold qcj
 rw [yU,yU]
 congr 2
 refine yN fun R _=>?_
 unfold stR
 cases decide (i∈qab (elN w.es) R.i) <;> cases qc4 w.rk w.su R <;> rfl
section
variable {w: Wd} {P: PL} {S: Ts} {n: Nat} {wt: Nat -> Int} {H: Hp} {bs: List Ob} {sw: List Str}
theorem short_room (hI:TInv S P n wt) (pf:PlF P) (hn:n=P.nm.length) (ews:P.ws=w.ws) (ees:P.es=w.es) (etc:P.tc=csT w.ws w.cs) (hcl:w.cs.length=n) (hcs:qgm H w.ws.length w.cs) (hbs:bs.map (·.R)=w.Rs.map (qfh w.ws)) {i:Nat} {z:Str} (hi:i < n) (hr:qb5 S P (bs.filter (qat w.rk w.su)) (akF w) i z < 0):
  capN w (i,z) < qfd w (w.Rs.filter fun R=>!qc4 w.rk w.su R) (i,z)+gN (akF w) z:=by
 rw [qg1 hI pf hn hi ews etc hcl hcs] at hr
 rw [qfu (w:=w) (P:=P) (p:=(i,z)) (f:=qat w.rk w.su) (g:=fun R=>!qc4 w.rk w.su R) ees (fun b R e=>stays_end e) hbs]
 omega
theorem other_no (ok:WOk w) (hl:∀R∈w.Rs,R.ps.length=w.ws.length/\∀q∈R.ps,PpOk q) {oth:List Int} (ho:∀n∈oth,∃R∈w.Rs,R.n=n/\qc4 w.rk w.su R=true) {p:Pc} (hp:p∈pls (qab (elN w.es) w.h) sw) (h0:0 < gN (akF w) p.2) (hc:capN w p < qfd w (w.Rs.filter fun R=>!qc4 w.rk w.su R) p+gN (akF w) p.2):besF w sw oth=false:=
 besF_no ok hl hp (f:=fun R=>!qc4 w.rk w.su R) (by unfold bad;rw [gU h0,gU hc];rfl) fun R hR hf hm=>by
  obtain⟨X,hX,e,he⟩:=ho _ hm
  have:=row_inj ok hX hR e
  subst this
  rw [he] at hf
  exact gR hf
theorem had_one (ok:WOk w) {gone:List Int} {R:Rw} {p:Pc} (hR:R∈w.Rs) (hg:R.n∈gone) (hf:(pls (qab (elN w.es) w.h) sw).find? (bad w (w.Rs.filter (besR w.rk w.su gone R.n)))=some p):capN w p < qfd w (w.Rs.filter (qff w.rk w.su gone R.n)++ [R]) p+gN (akF w) p.2:=by
 have hb:=eE hf
 unfold bad at hb
 rw [vS,decide_eq_true_eq,decide_eq_true_eq] at hb
 rw [<-sumZ_perm (had_perm ok hR hg)]
 exact hb.2
theorem other_first (ok:WOk w) (hl:∀R∈w.Rs,R.ps.length=w.ws.length/\∀q∈R.ps,PpOk q) {oth gone:List Int} (ho:∀n∈oth,∃R∈w.Rs,R.n=n/\qc4 w.rk w.su R=true) {R:Rw} {rest:List Rw} (hd:(w.Rs.filter fun R=>!decide (decide (R.n∈gone)=decide (R.n∈oth)))=R :: rest) (hn:R.n∉oth)
  (hsh:R.n∈gone->∃p,(pls (qab (elN w.es) w.h) sw).find? (bad w (w.Rs.filter (besR w.rk w.su gone R.n)))=some p):besF w sw oth=false:=by
 have hRm:R∈w.Rs.filter fun R=>!decide (decide (R.n∈gone)=decide (R.n∈oth)):=by rw [hd];exact zG ..
 obtain⟨hR,hq⟩:=zY.mp hRm
 have hg:R.n∈gone:=by
  apply cT
  intro c
  rw [gW c,gW hn] at hq
  exact absurd hq (by decide)
 obtain⟨p,hf⟩:=hsh hg
 refine besF_no ok hl (aS hf) (eE hf) fun X hX hx hm=>?_
 have up:((R :: rest).map fun R=>R.n).Pairwise (·< ·):=by
  rw [<-hd]
  have:=ok.up
  rw [yO] at this ⊢
  exact this.sublist yS
 rw [zS] at up
 unfold besR at hx
 rw [vS,Bool.or_eq_true,Bool.or_eq_true,decide_eq_true_eq,decide_eq_true_eq,decide_eq_true_eq] at hx
 obtain⟨h1,h2⟩:=hx
 rcases h1 with h1|h1
 .rw [h1] at hm;exact hn hm
 rcases h2 with h2|h2
 .have hxd:X∈w.Rs.filter fun R=>!decide (decide (R.n∈gone)=decide (R.n∈oth)):=zY.mpr ⟨hX,by rw [gW h1,gU hm];rfl⟩
  rw [hd] at hxd
  rcases zR.mp hxd with e|e
  .rw [e] at hm;exact hn hm
  .have:=yF up (zI.mpr ⟨X,e,rfl⟩)
   omega
 .obtain⟨Y,hY,e,he⟩:=ho _ hm
  have:=row_inj ok hY hX e
  subst this
  rw [he] at h2
  exact gR h2
end
theorem u_world {K:uR} {d:Ad} {H:Hp} {Q:VK} {E:XK} {a:Addr} {ns:List Int} {x:Int} (h0:0<=x) (h1:x<=30) (hS:SqL K H a (ns.map V.int)) (h63:ns.length<=63) (q:∀(w:Wd) (H':Hp),qar H H'->WAt H' w->WOk w->Q (.ref w.wt) H'):wdi K d [.ref a,.int x] H Q E:=by
 obtain⟨m,rfl⟩:=wK h0
 exact⟨a,ns,m,rfl,hS,h63,by omega,q⟩
noncomputable def sp_law0 (K:uR):Sp:=fun vs H Q _=>∃(a:Addr) (ns:List Int),vs=[.ref a]/\SqL K H a (ns.map V.int)/\ns.length<=63/\∀H',Q (.bl true) H'
noncomputable def sp_law (K:uR) (d:Ad):Sp:=sp_law0 K
include T in
theorem ok_law:FnOk P w K mg base CX0 26 d.wd5 d.waw ["_law_script"] (sp_law K d):=by
 refine T.whw.ok w3b (fun vs H Q E h=>?_) (fun cdv A outer s H vs Q E hr h=>?_)
 .obtain⟨a,ns,rfl,_⟩:=h;rfl
 obtain⟨a,ns,rfl,hS,h63,q⟩:=h
 refine⟨_,(qa1 (qag (i:=1) w3b.nd rfl (uJ rfl) (qa8 ((wfs T).mono (by decide)) hr rfl T.wgs T.weg.kp T.whf .nil qak (qa0 (pv 0) (qa0 (qaf (call_maxR rfl) rfl T.wh5 eP (qa0 qa4 (qa0 (qaf (call_minR rfl) rfl T.wgo eO (qa0 (qao qek (qaf qay rfl T.w2t vH (qa0 (pv 0) qa2)) qa4) (qa0 qa4 qa2))) qa2))) qa2))))
  (qa1 (qej (pv 1) (qd7 rfl (qad (qac (i:=2) w3b.nd rfl (uJ rfl)) (qad (qac (i:=3) w3b.nd rfl (uJ rfl)) (qad (qac (i:=4) w3b.nd rfl (uJ rfl)) (qad (qac (i:=5) w3b.nd rfl (uJ rfl)) (qad (qac (i:=6) w3b.nd rfl (uJ rfl)) (qad (qac (i:=7) w3b.nd rfl (uJ rfl)) qca))))))))
  (qa1 (qag (i:=8) w3b.nd rfl (uJ rfl) (qa8 ((wgt T).mono (by decide)) hr rfl T.whl T.wga.kp T.whr .nil qak (qa0 (pv 0) (qa0 (pv 1) qa2))))
  (qa1 (qag (i:=9) w3b.nd rfl (uJ rfl) (qa8 ((wdo T).mono (by decide)) hr rfl T.wee T.wba.kp T.wep .nil qak (qa0 (pv 1) qa2)))
  (qa1 (qag (i:=10) w3b.nd rfl (uJ rfl) (qa8 ((wef T).mono (by decide)) hr rfl T.wg4 T.wd8.kp T.wg0 .nil qak (qa0 (pv 8) (qa0 (pv 9) (qa0 (qaj qal (pv 2) (qaj qan (pv 6) qa4 (fun _ _=>rfl)) (fun _ _=>rfl)) (qa0 (qa8 ((w5t T).mono (by decide)) hr rfl T.w83 T.w7c.kp T.w8r .nil qak (qa0 (pv 3) (qa0 (qaj qan (pv 6) qa4 (fun _ _=>rfl)) qa2))) (qa0 (qaj qan (pv 6) qa4 (fun _ _=>rfl)) (qa0 (qaj qan (pv 6) qa4 (fun _ _=>rfl)) qa2))))))))
  (qa1 (qag (i:=11) w3b.nd rfl (uJ rfl) (qa8 ((wfu T).mono (by decide)) hr rfl T.whe T.wf4.kp T.wh6 .nil qak (qa0 (pv 1) (qa0 (pv 8) (qa0 (pv 9) qa2)))))
  (qa1 (qag (i:=12) w3b.nd rfl (aV rfl) (qa8 ((wbl T).mono (by decide)) hr rfl T.wd6 T.w7u.kp T.wc0 .nil qak (qa0 (pv 0) (qa0 (pv 1) qa2))))
  (qa1 (qbh (qam op_isNN (pv 11) qcy (qas _)) (qa5 (qai (qe3 (qa8 ((wa9 T).mono (by decide)) hr rfl T.waq T.w7h.kp T.wb8 .nil qak (qa0 (pv 1) (qa0 (pv 10) qa2))) (qdi (pe_not (qa8 ((w80 T).mono (by decide)) hr rfl T.waa T.w7r.kp T.w9x .nil qak (qa0 (pv 1) (qa0 (pv 12) qa2)))))))) qaq)
  (qa1 (qbh (PW.pt (qcr (qam qg6 (pv 10) qcy (qas _)) (qd6 (qbj (qb6 (qa8 ((wat T).mono (by decide)) hr rfl T.wcf T.w88.kp T.wc7 .nil qak (qa0 (pv 11) qa2))))))) (qa5 (qai qdc)) qaq)
  (qa1 (qag (i:=13) w3b.nd rfl (aV rfl) (qbp (caps:=[]) (cn:=[]) (qb1 rfl rfl (by rfl) (by rfl) rfl trivial (by rfl) rfl trivial (by decide)) rfl (qau (pv 11)) (fun _ _ _ _=>qd8) (fun _ _ _ _=>(qaj qan (pv 0) qa4 (fun _ _=>rfl)))))
  (qa1 (qbh (PW.pt (qcr (qbj (qb6 (qa8 ((w80 T).mono (by decide)) hr rfl T.waa T.w7r.kp T.w9x .nil qak (qa0 (pv 1) (qa0 (pv 13) qa2))))) (qd6 (qbj (qb6 (qa8 ((wb6 T).mono (by decide)) hr rfl T.wc5 T.w82.kp T.wcp .nil qak (qa0 (pv 1) (qa0 (pv 11) (qa0 (pv 13) qa2))))))))) (qa5 (qai qdc)) qaq)
  (qa1 (qcs (j:=14) (caps:=[12,13]) (cn:=["_law_other","_law_gone"]) (qb1 rfl rfl (by rfl) (by rfl) rfl ⟨rfl,⟨rfl,trivial⟩⟩ (by rfl) rfl ⟨⟨rfl,rfl,rfl,rfl,_,rfl⟩,⟨⟨rfl,rfl,rfl,rfl,_,rfl⟩,trivial⟩⟩ (by decide)) rfl w3b.nd rfl rfl (qau (pv 5)) (fun _ _ _ _=>(qck (qam op_ne (qbm qbv (qaj qan (pv 0) qa4 (fun _ _=>rfl)) (pv 2) (by rfl)) (qbm qbv (qaj qan (pv 0) qa4 (fun _ _=>rfl)) (pv 1) (by rfl)) (qas _)))) (fun _ _ _ _=>(qaj qan (pv 0) qa4 (fun _ _=>rfl))))
  (qa5 (qai (pe_or (qbm (op_eqD (hu8 hr)) (pv 14) (qc0 qa2) (qas _)) (pe_or (qbm qbv (qaj qal (pv 14) qa4 (fun _ _=>rfl)) (pv 12) (by rfl)) (qdi (pe_not (qa8 ((w80 T).mono (by decide)) hr rfl T.waa T.w7r.kp T.w9x .nil qak (qa0 (pv 1) (qa0 (pv 12) qa2))))))))))))))))))))),?_⟩
 walk_at "d"
 try dsimp only [cxC]
 refine qah (σ:=[some (.ref a),none,none,none,none,none,none,none,none,none,none,none,none,none,none]) rfl ?_
 have ct:=T.w01
 left
 refine u_world (by omega) (by omega) hS h63 fun w H1 s1 hw ok=>?_
 have htp:=hw.tup
 have hS1:=s1.seq hS
 clear s1 hS
 left
 refine⟨a,ns,w.wt,w.ln,w.lw,w.le,w.lr,w.la,w.lc,w.las,w.cs,w.nm,w.ws,w.es,rfl,hS1,h63,hw.tup,hw.ln,hw.lw,hw.le,hw.lc,ok.cl,hw.cs,ok.nms,ok.wsn,ok.w1,ok.w6,by have:=ok.e5;omega,fun t S P wt H2 s2 enm ews ees etc pf hT hI=>?_⟩
 have hw2:=hw.same s2
 have nl:P.nm.length=w.es.length+1:=by rw [enm,ok.nms.len]
 rw [ok.nms.len] at hI
 have hS2:=s2.seq hS1
 clear hw s2 hS1 htp
 left
 refine⟨w.wt,w.ln,w.lw,w.le,w.lr,w.la,w.lc,P,w.Rs,rfl,hw2.tup,hw2.lr,by rw [enm];exact hw2.ln,by rw [ews];exact hw2.lw,by rw [ews];exact ok.w6,ok.r30,fun R hr=>by rw [nl,ews];exact hw2.rs R hr,fun lh bs H3 s3 elh hbs hB hU=>?_⟩
 have hw3:=hw2.same s3
 have hS3:=s3.seq hS2
 have hbl:bs.length=w.Rs.length:=by have:=congrArg wP hbs;rw [zB,zB] at this;exact this
 have hWd:WdAt K d H3 t lh S P bs (w.es.length+1):=⟨hT.same s3,hI.pl.wf,hI.pl,nl,fun j hj=>by
  obtain⟨e,ae,_,_⟩:=hI.pl.at hj
  exact⟨⟨e,ae⟩,hI.pl.dep 12 j hj (by have:=ok.e5;omega)⟩,by rw [ews];exact ok.w6,elh,by have:=ok.r30;omega,hB⟩
 have hWT:WTr K d H3 w t lh S P bs:=⟨hWd,enm,ews,ees⟩
 rw [ews] at hbs
 obtain⟨ss,pss,qss⟩:=sort_ex (qd1 (tdK (w.ws.zip w.aps)))
 obtain⟨sw,psw,qsw⟩:=sort_ex w.ws
 have ess:=sk_eq ok.apl.symm ok.wsn.nd pss qss psw qsw
 have hs6:ss.length<=6:=by
  rw [ess]
  have:=zN (fun z=>decide (0 < gN (tdF (w.ws.zip w.aps)) z)) sw
  have h1:=psw.length_eq
  have h2:=ok.w6
  omega
 have low:=qd4 (fun k e h=>(hw3.le.lo k e h).1) (w.es.length+1)
 have hjs:∀j∈qab (elN w.es) w.h,j < w.es.length+1:=fun j hj=>by
  have:=qcf low w.h ok.hh j hj
  have:=ok.hh
  omega
 have hnb:=no_bad (bs:=bs) hI pf nl.symm ews ees etc ok.cl hw3.cs ok hjs hbs pss qss psw qsw
 have hsh:=fun x=>short_at (x:=x) (bs:=bs) hI pf nl.symm ews ees etc ok.cl hw3.cs ok hjs hbs pss qss psw qsw
 have hrl:∀R∈w.Rs,R.ps.length=w.ws.length/\∀q∈R.ps,PpOk q:=fun R hR=>⟨(hw3.rs R hR).len,(hw3.rs R hR).nn⟩
 have had:∀b∈bs,AD b.R.k b.R.f:=fun b hb=>(hB b hb).ad
 have hsr:∀i∈qab (elN w.es) w.h,∀z,qb5 S P (bs.filter (qat w.rk w.su)) (akF w) i z < 0->capN w (i,z) < qfd w (w.Rs.filter fun R=>!qc4 w.rk w.su R) (i,z)+gN (akF w) z:=fun i hi z=>short_room hI pf nl.symm ews ees etc ok.cl hw3.cs hbs (hjs i hi)
 have xn:atI (w.nm.map V.str) ((w.h:Nat):Int)=some (.str (nmF P w.h)):=by
  have e:w.h < P.nm.length:=by rw [nl];exact ok.hh
  rw [qd9 e,<-enm]
  exact qax (by rw [zC,zA e];rfl)
 have hla:=hw3.la
 have hhh:=ok.hh
 have e5:=ok.e5
 generalize hhi:((w.h:Nat):Int)=hi at*
 clear hw2 s3 hT elh hB hI pf etc low hU hS2
 left
 refine qb3 (SqL.of hw3.ln) xn ?_
 left
 refine⟨w.lw,w.pa,w.ws,w.aps,rfl,SqL.of hw3.lw,SqL.of hw3.pa,ok.apl.symm,by have:=ok.w6;omega,fun am H4 s4 ham eam=>?_⟩
 have hla4:=s4 _ _ hla
 have hw4:=hw3.same s4
 have hWT4:=hWT.same s4
 have hS4:=s4.seq hS3
 clear hla hw3 hWT hS3 xn hWd
 left
 refine⟨t,lh,am,S,P,bs,w.es.length+1,w.h,tdK (w.ws.zip w.aps),akF w,ss,w.rk,w.su,rfl,hWT4.wd,by omega,hhh,eam,td_ad _,pss,qss,hs6,fun c H5 s5=>?_,fun i z hi hz hr p l ps H5 s5 np ep nl5 el hps eps=>?_⟩
 .have hw5:=hw4.same s5
  have hWT5:=hWT4.same s5
  have hS5:=s5.seq hS4
  clear hw4 hWT4 hS4 eam hla4
  left
  refine⟨w,t,lh,S,P,bs,ss,rfl,hw5,ok,hWT5,pss,qss,hs6,fun c2 H6 s6=>?_,fun c2 l gs H6 s6 nl6 el hG hgs=>?_⟩
  .obtain⟨p,h1,h2⟩:=c2
   have:=c p.1 (qe1 h1).1 p.2 (qe1 h1).2
   omega
  have g30:gs.length<=30:=by
   have h1:=congrArg wP hgs
   rw [zB] at h1
   have h2:=cl_len P (pls (qab (elN P.es) w.h) ss) (bs.filter (qaw w.rk w.su)) ((fun p=>qb5 S P (bs.filter (qat w.rk w.su)) (akF w) p.1 p.2), [])
   have h3:=zN (qaw w.rk w.su) bs
   have h4:=ok.r30
   unfold clL at h1
   have h5:([]:List (Ob × Pc)).length=0:=rfl
   dsimp only at h2
   omega
  have hnb:=hnb c2
  rw [<-hgs] at hnb hsh
  have egn:gnm (gs.map fun g=>(g.b,g.c))=gs.map fun g=>g.b.R.n:=by unfold gnm;rw [yP];rfl
  rw [egn] at hnb hsh
  have hown:=gs_own hbs hgs
  have hgup:=gs_up ok hbs hgs
  have hadg:∀g∈gs,GrAt H6 P g/\AD g.b.R.k g.b.R.f:=fun g hg=>⟨(hG g hg).1,had _ (hG g hg).2.1⟩
  have hhad:∀g∈gs,HadG w (gs.map fun g=>g.b.R.n) g:=fun g hg=>by
   obtain⟨R,hR,e,he⟩:=hown g hg
   have hf:=hsh (g.b,g.c) (zI.mpr ⟨g,hg,rfl⟩)
   dsimp only at hf
   have en:g.b.R.n=R.n:=by rw [e];rfl
   rw [en] at hf
   have hgo:R.n∈gs.map fun g=>g.b.R.n:=by rw [<-en];exact zI.mpr ⟨g,hg,rfl⟩
   have hm:=qe1 (aS hf)
   exact⟨⟨R,hR,e,he,hgo,had_one ok hR hgo hf⟩,hm.1,psw.mem_iff.mp hm.2⟩
  have hfst:∀n∈gs.map fun g=>g.b.R.n,∃p,(pls (qab (elN w.es) w.h) sw).find? (bad w (w.Rs.filter (besR w.rk w.su (gs.map fun g=>g.b.R.n) n)))=some p:=fun n hn=>by
   obtain⟨g,hg,rfl⟩:=zI.mp hn
   exact⟨_,hsh (g.b,g.c) (zI.mpr ⟨g,hg,rfl⟩)⟩
  have hbes:besF w sw (gs.map fun g=>g.b.R.n)=true:=by unfold besF;rw [hnb];rfl
  have hw6:=hw5.same s6
  have hS6:=s6.seq hS5
  clear hsh hnb hown hgs c c2 hG hw5 hWT5 hS5 had egn
  left
  refine⟨a,ns,w,rfl,hS6,h63,hw6,ok,fun lo oth H7 s7 elo ho=>?_⟩
  have hw7:=hw6.same s7
  have el7:=s7 _ _ el
  have hG7:∀g∈gs,GrAt H7 P g/\AD g.b.R.k g.b.R.f:=fun g hg=>⟨(hadg g hg).1.same s7,(hadg g hg).2⟩
  clear hw6 el hadg hS6
  left
  refine⟨l,P,gs,rfl,el7,hG7,fun H8 s8=>?_⟩
  have hw8:=hw7.same s8
  have el8:=s8 _ _ el7
  have elo8:=s8 _ _ elo
  have hG8:∀g∈gs,GrAt H8 P g:=fun g hg=>(hG7 g hg).1.same s8
  clear hw7 el7 hG7 elo s8
  left
  intro C s0 H0 fp lg hlg
  refine qel gs.length (fun i H'=>qar H8 H'/\H' lg=some (.lst (((gs.take i).map fun g=>g.b.R.n).map V.int))) ⟨qa9 hlg _,qa3⟩ ?_ ?_ ?_ ?_
  .rintro i H' hi ⟨sm,_⟩
   exact⟨_,.ref gs[i].p,SqL.of (sm _ _ el8),by unfold grV;rw [zC,zA hi];rfl⟩
  .rintro H' ⟨sm,_⟩
   exact⟨_,SqL.of (sm _ _ el8),by unfold grV;rw [zB];exact uG _⟩
  .rintro i H' v H'' hi ⟨sm,ea⟩ ⟨rfl,hv⟩
   have hv:=hv _ (SqL.of (sm _ _ el8))
   unfold grV at hv
   rw [zC,zA hi] at hv
   cases hv
   have tk:gs.take (i+1)=gs.take i++ [gs[i]]:=by rw [zL,zA hi];rfl
   have hGi:=(hG8 _ (zM hi)).same sm
   generalize gs[i]=g at*
   have htp:=hGi.tup
   have zl:(((gs.take i).map fun g=>g.b.R.n).map V.int).length < sizeLine:=by rw [zB,zB,zW];show _ < 16777216;omega
   left
   refine⟨qav sm hlg,?_⟩
   rw [qa3,tk,zD,zD];rfl
  rintro H9 ⟨s9,elg⟩
  rw [zP] at elg
  have hw9:=hw8.same s9
  have el9:=s9 _ _ el8
  have elo9:=s9 _ _ elo8
  have hG9:∀g∈gs,GrAt H9 P g/\HadG w (gs.map fun g=>g.b.R.n) g:=fun g hg=>⟨(hG8 g hg).same s9,hhad g hg⟩
  clear hhad hlg g30 hw8 el8 elo8 hG8 s9
  generalize hgn:(gs.map fun g=>g.b.R.n)=gone at*
  left
  refine⟨w,lg,P,gone,sw,rfl,hw9,ok,enm,elg,psw,qsw,fun H10 s10=>?_⟩
  rw [hbes]
  have hw10:=hw9.same s10
  have hG10:∀g∈gs,GrAt H10 P g/\HadG w gone g:=fun g hg=>⟨(hG9 g hg).1.same s10,(hG9 g hg).2⟩
  have el10:=s10 _ _ el9
  have elg10:=s10 _ _ elg
  have elo10:=s10 _ _ elo9
  clear hw9 hG9 el9 elg elo9 s10
  left
  refine⟨w,l,lg,P,gs,gone,rfl,hw10,ok,enm,el10,elg10,hG10,by rw [hgn];exact hgup,fun H11 s11=>?_⟩
  have hw11:=hw10.same s11
  have elg11:=s11 _ _ elg10
  have elo11:=s11 _ _ elo10
  have hlr:=hw11.lr
  have r30:=ok.r30
  clear hw10 hG10 el10 elg10 elo10 s11
  left
  intro C s0 H0 fp lk hlk
  refine qel w.Rs.length (fun i H2=>qar H11 H2/\H2 lk=some (.lst ((((w.Rs.take i).filter fun R=>!decide (decide (R.n∈gone)=decide (R.n∈oth))).map fun R=>R.n).map V.int))) ⟨qa9 hlk _,qa3⟩ ?_ ?_ ?_ ?_
  .rintro i H2 hi ⟨s2,_⟩
   exact⟨_,.ref w.Rs[i].p,SqL.of (s2 _ _ hlr),by unfold rwV;rw [zC,zA hi];rfl⟩
  .rintro H2 ⟨s2,_⟩
   exact⟨_,SqL.of (s2 _ _ hlr),by unfold rwV;rw [zB];exact uG _⟩
  .rintro i H2 v H3 hi ⟨s2,ea⟩ ⟨rfl,hv⟩
   have hv:=hv _ (SqL.of (s2 _ _ hlr))
   unfold rwV at hv
   rw [zC,zA hi] at hv
   cases hv
   have tk:w.Rs.take (i+1)=w.Rs.take i++ [w.Rs[i]]:=by rw [zL,zA hi];rfl
   have hRi:=(hw11.rs _ (zM hi)).same s2
   generalize w.Rs[i]=R at*
   have hrow:=hRi.row
   generalize hri:((R.i:Nat):Int)=ri at*
   have zl:((((w.Rs.take i).filter fun R=>!decide (decide (R.n∈gone)=decide (R.n∈oth))).map fun R=>R.n).map V.int).length < sizeLine:=by
    rw [zB,zB]
    have h1:=zN (fun R:Rw=>!decide (decide (R.n∈gone)=decide (R.n∈oth))) (w.Rs.take i)
    rw [zW] at h1
    show _ < 16777216
    omega
   have eg2:=s2 _ _ elg11
   have eo2:=s2 _ _ elo11
   clear hv
   left
   refine r_inI (SqL.of eg2) ?_
   left
   refine r_inI (SqL.of eo2) ?_
   left
   by_cases cc:decide (R.n∈gone)=decide (R.n∈oth)
   .rw [cc]
    left
    refine⟨s2,?_⟩
    rw [ea,tk,zQ,zJ,gS (by rw [gU cc];exact uE),yK,yA]
   .left
    refine⟨qav s2 hlk,?_⟩
    rw [qa3,tk,zQ,zJ,gT (by rw [gW cc];rfl),zD,zD];rfl
  rintro H12 ⟨s12,elk⟩
  rw [zP] at elk
  left
  rename_i pe hpe
  have ne:lk≠pe:=qa7 elk hpe
  have s13:=qa9 hpe (.lst [])
  have epe:upd H12 pe (.lst []) pe=some (.lst []):=qa3
  generalize upd H12 pe (.lst [])=H13 at*
  have elk13:=s13 _ _ elk
  have elo13:=(s12.trans s13) _ _ elo11
  have hw13:=hw11.same (s12.trans s13)
  clear elk hpe s12 hlk
  cases hd:(w.Rs.filter fun R=>!decide (decide (R.n∈gone)=decide (R.n∈oth))) with
  |nil=>
   rw [hd] at elk13
   refine r_eqD ne (by decide) (qgf (n:=0) (SqL.of elk13) (SqL.of epe) ne) ?_
   refine⟨_,rfl,?_⟩
   exact iteT (q _)
  |cons R rest=>
   rw [hd] at elk13
   refine r_eqD ne (by decide) (qgf (n:=0) (SqL.of elk13) (SqL.of epe) ne) ?_
   refine⟨_,rfl,?_⟩
   refine iteF ?_
   have elk13:H13 lk=some (.lst (V.int R.n ::(rest.map fun R=>R.n).map V.int)):=elk13
   left
   refine qb3 (SqL.of elk13) (qax (j:=0) rfl) ?_
   left
   refine r_inI (SqL.of elo13) ?_
   by_cases c:R.n∈oth
   .rw [gU c]
    left
    exact q _
   .rw [gW c]
    left
    refine⟨w,lo,P,oth,sw,rfl,hw13,ok,enm,elo13,psw,qsw,fun H14 s14=>?_⟩
    rw [other_first ok hrl ho hd c fun hm=>hfst _ hm]
    left
    exact q _
 .have hw5:=hw4.same s5
  have hWT5:=hWT4.same s5
  have hS5:=s5.seq hS4
  rw [ess] at hz
  obtain⟨hz1,hz2⟩:=zY.mp hz
  have hz2:=of_decide_eq_true hz2
  have hzw:=psw.mem_iff.mp hz1
  have hpp:((i,z):Pc)∈pls (qab (elN w.es) w.h) ss:=pls_mem (by rw [<-ees];exact hi) (by rw [ess];exact hz)
  have hps2:((i,z):Pc)∈pls (qab (elN w.es) w.h) sw:=pls_mem (by rw [<-ees];exact hi) hz1
  rw [ees] at hi
  have hbad:=hsr i hi z hr
  have hin:=hjs i hi
  clear hw4 hWT4 hS4 eam hla4 hz
  left
  refine⟨w,t,lh,S,P,bs,ss,rfl,hw5,ok,hWT5,pss,qss,hs6,fun c2 H6 s6=>?_,fun c2 l gs H6 s6 nl6 el hG hgs=>?_⟩
  rotate_left
  .rw [ees] at c2
   have:=c2 (i,z) hpp
   dsimp only at this
   omega
  have hw6:=hw5.same s6
  have hS6:=s6.seq hS5
  clear hw5 hWT5 hS5 c2
  left
  refine⟨a,ns,w,rfl,hS6,h63,hw6,ok,fun lo oth H7 s7 elo ho=>?_⟩
  have hw7:=hw6.same s7
  have t7:=s6.trans s7
  have hno:=other_no ok hrl ho hps2 hz2 hbad
  obtain⟨j,hj,rfl⟩:=zO.mp hzw
  obtain⟨ec,ecl,ecb,xc⟩:=hw7.cs.at (k:=i) (by rw [ok.cl];exact hin)
  have hap:j < w.aps.length:=by rw [ok.apl];exact hj
  have hcj:j <(csD w.cs i).length:=by rw [ecl];exact hj
  have v1:gN (akF w) w.ws[j]=w.aps[j]:=qdf ok.apl.symm ok.wsn.nd (fun p hp=>(ok.apn p hp).lo) hj hap
  have v2:capN w (i,w.ws[j])=(csD w.cs i)[j]:=qdf ecl.symm ok.wsn.nd (fun p hp=>(ecb p hp).1) hj hcj
  have v3:qfd w (w.Rs.filter fun R=>!qc4 w.rk w.su R) (i,w.ws[j])=qcj (elN w.es) (w.Rs.filter fun R=>!qc4 w.rk w.su R) i j:=sumZ_eq ok.wsn.nd hj fun R hR=>hrl R (zY.mp hR).1
  have hin':i < w.nm.length:=by rw [ok.nms.len];exact hin
  have enz:nmF P i=w.nm[i]:=by
   have:i < P.nm.length:=by rw [enm];exact hin'
   rw [qd9 this]
   simp only [enm]
  rw [enz] at ep
  rw [v1,v2,v3,<-sum_st] at hbad
  have hz2:0 < gN (akF w) w.ws[j]:=hz2
  rw [v1] at hz2
  rw [take_eq ok.wsn.nd hj ees hbs hrl] at eps
  have h1:0 <(w.aps[j]?).getD 0:=by rw [zA hap];exact hz2
  have h2:((csD w.cs i)[j]?).getD 0 < qcj (elN w.es) (w.Rs.filter (stR w i)) i j+(w.aps[j]?).getD 0:=by
   rw [zA hap,zA hcj];exact hbad
  left
  refine⟨w,p,l,i,j,ps,rfl,hw7,ok,hin',hj,t7 _ _ ep,t7 _ _ el,fun x hx=>t7 _ _ (hps x hx).1,eps,hi,h1,h2,fun H8 s8=>?_⟩
  left
  refine⟨w,lo,P,oth,sw,rfl,hw7.same s8,ok,enm,s8 _ _ elo,psw,qsw,fun H9 s9=>?_⟩
  rw [hno]
  left
  exact q _
structure Fz (K:uR) (n:Str) (s:Stmt) (f:Addr) (fd:uM):Prop where
 a:xI K uS n=some (some (.ref f))
 F:Fun K n n s f fd
structure Fm (K:uR) (c:Addr) (n q:Str) (s:Stmt) (f:Addr) (fd:uM):Prop where
 a:vV K (.ref c) n=some (some (.ref f))
 F:Fun K n q s f fd
theorem Fz.m {K:uR} {n:Str} {s:Stmt} {f:Addr} {fd:uM} {h:vR} {mg:Str->Option uC} (g:Fz K n s f fd) (X:K.In h) (G:h.Ns uS mg):mg n=some (.ref f):=vQ X G g.a
theorem ln1 {p:List uC->Prop} (h:∀x0:uC,p [x0]) (us:List uC) (e:us.length=1):p us:=by
 match us,e with
 | [x0],_=>exact h x0
theorem ln2 {p:List uC->Prop} (h:∀x0 x1:uC,p [x0,x1]) (us:List uC) (e:us.length=2):p us:=by
 match us,e with
 | [x0,x1],_=>exact h x0 x1
theorem ln3 {p:List uC->Prop} (h:∀x0 x1 x2:uC,p [x0,x1,x2]) (us:List uC) (e:us.length=3):p us:=by
 match us,e with
 | [x0,x1,x2],_=>exact h x0 x1 x2
theorem ln4 {p:List uC->Prop} (h:∀x0 x1 x2 x3:uC,p [x0,x1,x2,x3]) (us:List uC) (e:us.length=4):p us:=by
 match us,e with
 | [x0,x1,x2,x3],_=>exact h x0 x1 x2 x3
theorem ln5 {p:List uC->Prop} (h:∀x0 x1 x2 x3 x4:uC,p [x0,x1,x2,x3,x4]) (us:List uC) (e:us.length=5):p us:=by
 match us,e with
 | [x0,x1,x2,x3,x4],_=>exact h x0 x1 x2 x3 x4
theorem ln6 {p:List uC->Prop} (h:∀x0 x1 x2 x3 x4 x5:uC,p [x0,x1,x2,x3,x4,x5]) (us:List uC) (e:us.length=6):p us:=by
 match us,e with
 | [x0,x1,x2,x3,x4,x5],_=>exact h x0 x1 x2 x3 x4 x5
theorem txt_mk {K:uR} {h:vR} {mg:Str->Option uC} {fa:Addr} {f_z0 f_z1 f_z2 f_z3 f_z4 f_z5 f_z6 f_z7 f_z8 f_z9 f_z10 f_z11 f_z12 f_z13 f_z14 f_z15 f_z16 f_z17 f_z18 f_z19 f_z20 f_z21 f_z22 f_z23 f_z24 f_z25 f_z26 f_z27 f_z28 f_z29 f_z30 f_z31 f_z32 f_z33 f_z34 f_z35 f_z36 f_z37 f_z38 f_z39 f_z40 f_z41 f_z42 f_z43 f_z44 f_z45 f_z46 f_z47 wd5 f_z49 f_z50 f_z51 f_z52 f_z53 f_z54 f_z55 f_z56 f_z57 f_z58 f_z59 f_z60 f_z61 f_z62 f_z63 f_z64 f_z65 f_z66 f_z67 w05 w00 w0u w0n w4f w5l w6w w0e w1o w5m w2x w2y w3z w3x:Addr} {d_z0 d_z1 d_z2 d_z3 d_z4 d_z5 d_z6 d_z7 d_z8 d_z9 d_z10 d_z11 d_z12 d_z13 d_z14 d_z15 d_z16 d_z17 d_z18 d_z19 d_z20 d_z21 d_z22 d_z23 d_z24 d_z25 d_z26 d_z27 d_z28 d_z29 d_z30 d_z31 d_z32 d_z33 d_z34 d_z35 d_z36 d_z37 d_z38 d_z39 d_z40 d_z41 d_z42 d_z43 d_z44 d_z45 d_z46 d_z47 d_law d_z49 d_z52 d_z53 d_z54 d_z55 d_z56 d_z57 d_z58 d_z59 d_z60 d_z61 d_z62 d_z63 d_z64 d_z65 d_z66 d_z67:uM} (X:K.In h) (G:h.Ns uS mg) (hfa:mg "law" =some (.ref fa))
  (g_z0:Fz K "is_whole" s_is_whole f_z0 d_z0)
  (g_z1:Fz K "is_name" s_is_name f_z1 d_z1)
  (g_z2:Fz K "is_whole_from" s_is_whole_from f_z2 d_z2)
  (g_z3:Fz K "is_amount" s_is_amount f_z3 d_z3)
  (g_z4:Fz K "amounts_of" s_amounts_of f_z4 d_z4)
  (g_z5:Fz K "above_nought" s_above_nought f_z5 d_z5)
  (g_z6:Fz K "amount_of" s_amount_of f_z6 d_z6)
  (g_z7:Fz K "added" s_added f_z7 d_z7)
  (g_z8:Fz K "beyond" s_beyond f_z8 d_z8)
  (g_z9:Fz K "total_of" s_total_of f_z9 d_z9)
  (g_z10:Fz K "holds_beneath" s_holds_beneath f_z10 d_z10)
  (g_z11:Fz K "held_by" s_held_by f_z11 d_z11)
  (g_z12:Fz K "taking" s_taking f_z12 d_z12)
  (g_z13:Fz K "used" s_used f_z13 d_z13)
  (g_z14:Fz K "fixed" s_fixed f_z14 d_z14)
  (g_z15:Fz K "rooms_left" s_rooms_left f_z15 d_z15)
  (g_z16:Fz K "first_lack" s_first_lack f_z16 d_z16)
  (g_z17:Fz K "reason" s_reason f_z17 d_z17)
  (g_z18:Fz K "parts_at" s_parts_at f_z18 d_z18)
  (g_z19:Fz K "first_beyond" s_first_beyond f_z19 d_z19)
  (g_z20:Fz K "claims" s_claims f_z20 d_z20)
  (g_z21:Fz K "are_wares" s_are_wares f_z21 d_z21)
  (g_z22:Fz K "check_name" s_check_name f_z22 d_z22)
  (g_z23:Fz K "read_house" s_read_house f_z23 d_z23)
  (g_z24:Fz K "check_promises" s_check_promises f_z24 d_z24)
  (g_z25:Fz K "_law_cell" s_cell f_z25 d_z25)
  (g_z26:Fz K "_law_mix" s_mix f_z26 d_z26)
  (g_z27:Fz K "_law_name" s_name f_z27 d_z27)
  (g_z28:Fz K "_law_lines" s_lines f_z28 d_z28)
  (g_z29:Fz K "_law_parts" s_parts f_z29 d_z29)
  (g_z30:Fz K "_law_rows" s_rows f_z30 d_z30)
  (g_z31:Fz K "_law_ends" s_ends f_z31 d_z31)
  (g_z32:Fz K "_law_sum" s_sum f_z32 d_z32)
  (g_z33:Fz K "_law_caps" s_caps f_z33 d_z33)
  (g_z34:Fz K "_law_world" s_world f_z34 d_z34)
  (g_z35:Fz K "_law_told" s_told f_z35 d_z35)
  (g_z36:Fz K "_law_promises" s_promises f_z36 d_z36)
  (g_z37:Fz K "_law_tree" s_tree f_z37 d_z37)
  (g_z38:Fz K "_law_objects" s_objects f_z38 d_z38)
  (g_z39:Fz K "_law_short" s_short f_z39 d_z39)
  (g_z40:Fz K "_law_asked" s_asked f_z40 d_z40)
  (g_z41:Fz K "_law_whole" s_whole f_z41 d_z41)
  (g_z42:Fz K "_law_row_good" s_row_good f_z42 d_z42)
  (g_z43:Fz K "_law_list_good" s_list_good f_z43 d_z43)
  (g_z44:Fz K "_law_paper_good" s_paper_good f_z44 d_z44)
  (g_z45:Fz K "_law_had_to_go" s_had_to_go f_z45 d_z45)
  (g_z46:Fz K "_law_other_way" s_other_way f_z46 d_z46)
  (g_z47:Fz K "_law_beside" s_beside f_z47 d_z47)
  (g_law:Fz K "law" s_law wd5 d_law)
  (g_z49:Fm K w05 "__init__" "House.__init__" s_House_init f_z49 d_z49)
  {od_z50 an_z50:Option Addr} {sl_z50:Array (Option uC)} {oc_z50 kV_z50 dc_z50 pm_z50 cd_z50 ct_z50 w0s:uC} {t_z50:Addr}
  (a_z50:vV K (.ref w00) "__init__" =some (some (.ref f_z50))) (l_z50:K.lookup f_z50=some ⟨oc_z50,od_z50,.func (fnOf "__init__" "Tree.__init__" (qcl s_Tree_init) (qc3 s_Tree_init) (qaa s_Tree_init) (.ref t_z50) kV_z50 dc_z50 pm_z50 an_z50 cd_z50 ct_z50),sl_z50⟩) (c_z50:gK K cd_z50 "Tree.__init__" =true) (k_z50:dO K (.ref f_z50)=true)
  {ob_z50:Obj} {nn_z50:Nat} (tt_z50:K.lookup t_z50=some ob_z50) (td_z50:ob_z50.data=.seq #[w0s] nn_z50) (rd_z50:qbi [.int 1] [w0s])
  {od_z51 an_z51:Option Addr} {sl_z51:Array (Option uC)} {oc_z51 kV_z51 dc_z51 pm_z51 cd_z51 ct_z51 w0j:uC} {t_z51:Addr}
  (a_z51:vV K (.ref w00) "found" =some (some (.ref f_z51))) (l_z51:K.lookup f_z51=some ⟨oc_z51,od_z51,.func (fnOf "found" "Tree.found" (qcl s_Tree_found) (qc3 s_Tree_found) (qaa s_Tree_found) (.ref t_z51) kV_z51 dc_z51 pm_z51 an_z51 cd_z51 ct_z51),sl_z51⟩) (c_z51:gK K cd_z51 "Tree.found" =true) (k_z51:dO K (.ref f_z51)=true)
  {ob_z51:Obj} {nn_z51:Nat} (tt_z51:K.lookup t_z51=some ob_z51) (td_z51:ob_z51.data=.seq #[w0j] nn_z51) (rd_z51:qbi [.int 1] [w0j])
  (g_z52:Fm K w00 "wares" "Tree.wares" s_Tree_wares f_z52 d_z52)
  (g_z53:Fm K w00 "names" "Tree.names" s_Tree_names f_z53 d_z53)
  (g_z54:Fm K w00 "has" "Tree.has" s_Tree_has f_z54 d_z54)
  (g_z55:Fm K w00 "check_house" "Tree.check_house" s_Tree_check_house f_z55 d_z55)
  (g_z56:Fm K w00 "house_of" "Tree.house_of" s_Tree_house_of f_z56 d_z56)
  (g_z57:Fm K w00 "elder_of" "Tree.elder_of" s_Tree_elder_of f_z57 d_z57)
  (g_z58:Fm K w00 "cap_of" "Tree.cap_of" s_Tree_cap_of f_z58 d_z58)
  (g_z59:Fm K w00 "kids" "Tree.kids" s_Tree_kids f_z59 d_z59)
  (g_z60:Fm K w00 "line" "Tree.line" s_Tree_line f_z60 d_z60)
  (g_z61:Fm K w00 "beneath" "Tree.beneath" s_Tree_beneath f_z61 d_z61)
  (g_z62:Fm K w00 "promised_beneath" "Tree.promised_beneath" s_Tree_promised_beneath f_z62 d_z62)
  (g_z63:Fm K w00 "check_more" "Tree.check_more" s_Tree_check_more f_z63 d_z63)
  (g_z64:Fm K w0u "__init__" "Hold.__init__" s_Hold_init f_z64 d_z64)
  (g_z65:Fm K w0u "may_end" "Hold.may_end" s_Hold_may_end f_z65 d_z65)
  (g_z66:Fm K w0n "may_end" "Loan.may_end" s_Loan_may_end f_z66 d_z66)
  (g_z67:Fm K w1o "__init__" "NoPromise.__init__" s_i_NoPromise f_z67 d_z67)
  (qi_z67:initIn K w1o f_z67=true) (hi_z67:isFn K (.ref f_z67)=true)
  (a_House:xI K uS "House" =some (some (.ref w05)))
  (a_Tree:xI K uS "Tree" =some (some (.ref w00)))
  (a_Hold:xI K uS "Hold" =some (some (.ref w0u)))
  (a_Loan:xI K uS "Loan" =some (some (.ref w0n)))
  (a_TreeError:xI K uS "TreeError" =some (some (.ref w4f)))
  (a_NoName:xI K uS "NoName" =some (some (.ref w5l)))
  (a_Taken:xI K uS "Taken" =some (some (.ref w6w)))
  (a_NoHouse:xI K uS "NoHouse" =some (some (.ref w0e)))
  (a_NoPromise:xI K uS "NoPromise" =some (some (.ref w1o)))
  (a_NoWare:xI K uS "NoWare" =some (some (.ref w5m)))
  (a_NoAmount:xI K uS "NoAmount" =some (some (.ref w2x)))
  (a_NoNumber:xI K uS "NoNumber" =some (some (.ref w2y)))
  (a_TooMany:xI K uS "TooMany" =some (some (.ref w3z)))
  (a_TooDeep:xI K uS "TooDeep" =some (some (.ref w3x)))
  {w42:uC} (a_LETTERS:xI K uS "LETTERS" =some (some w42)) (w5a:qbf (.str "abcdefghijklmnopqrstuvwxyz") w42)
  {w0y:uC} (a_LONGEST_NAME:xI K uS "LONGEST_NAME" =some (some w0y)) (w1i:qbf (.int 8) w0y)
  {w1t:uC} (a_MOST_WARES:xI K uS "MOST_WARES" =some (some w1t)) (w2h:qbf (.int 6) w1t)
  {w1f:uC} (a_MOST_HOUSES:xI K uS "MOST_HOUSES" =some (some w1f)) (w1y:qbf (.int 40) w1f)
  {w0x:uC} (a_LONGEST_LINE:xI K uS "LONGEST_LINE" =some (some w0x)) (w1h:qbf (.int 12) w0x)
  {w0f:uC} (a_GREATEST_WEIGHT:xI K uS "GREATEST_WEIGHT" =some (some w0f)) (w0r:qbf (.int 1000) w0f)
  (q_NoHouse:fR K w0e [.type "ValueError",.type "Exception",.type "BaseException",.type "object"] "ValueError.__new__" =true)
  (q_NoAmount:fR K w2x [.type "ValueError",.type "Exception",.type "BaseException",.type "object"] "ValueError.__new__" =true)
  (q_NoWare:fR K w5m [.type "ValueError",.type "Exception",.type "BaseException",.type "object"] "ValueError.__new__" =true)
  (q_NoName:fR K w5l [.type "ValueError",.type "Exception",.type "BaseException",.type "object"] "ValueError.__new__" =true)
  (q_NoNumber:fR K w2y [.type "ValueError",.type "Exception",.type "BaseException",.type "object"] "ValueError.__new__" =true)
  (q_Taken:fR K w6w [.type "ValueError",.type "Exception",.type "BaseException",.type "object"] "ValueError.__new__" =true)
  (q_TooMany:fR K w3z [.type "ValueError",.type "Exception",.type "BaseException",.type "object"] "ValueError.__new__" =true)
  (q_TooDeep:fR K w3x [.type "ValueError",.type "Exception",.type "BaseException",.type "object"] "ValueError.__new__" =true)
  (w0q:Meth K w0u "may_end" f_z65)
  (w0m:Meth K w0n "may_end" f_z66)
  (w1m:Cls K w05)
  (w01:Cls K w00)
  (w6k:Mk K w05 f_z49)
  (w8a:Mk K w00 f_z50)
  (w5u:Cls K w0u)
  (w4r:Cls K w0n)
  (w8q:Mk K w0u f_z64)
  (w87:Mk K w0n f_z64)
  (w1w:Meth K w00 "found" f_z51)
  (w2v:Meth K w00 "wares" f_z52)
  (w2s:Meth K w00 "names" f_z53)
  (w2c:Meth K w00 "has" f_z54)
  (w06:Meth K w00 "check_house" f_z55)
  (w0h:Meth K w00 "house_of" f_z56)
  (w0g:Meth K w00 "elder_of" f_z57)
  (w1j:Meth K w00 "cap_of" f_z58)
  (w2f:Meth K w00 "kids" f_z59)
  (w0t:Meth K w00 "line" f_z60)
  (w0c:Meth K w00 "beneath" f_z61)
  (w07:Meth K w00 "promised_beneath" f_z62)
  (w0i:Meth K w00 "check_more" f_z63)
  (w0l:vV K (.ref w05) "elder" =some none)
  (w0a:vV K (.ref w05) "promise" =some none)
  (w0k:vV K (.ref w05) "cap" =some none)
  (w1d:vV K (.ref w05) "weight" =some none)
  (w09:vV K (.ref w00) "sorted_wares" =some none)
  (w03:vV K (.ref w00) "houses" =some none)
  (w1k:vV K (.ref w0u) "number" =some none)
  (w22:vV K (.ref w0u) "house" =some none)
  (w1b:vV K (.ref w0u) "amounts" =some none)
  (w2g:vV K (.ref w0u) "rank" =some none)
  (w1u:vV K (.ref w0u) "turns" =some none)
  (w1g:vV K (.ref w0n) "number" =some none)
  (w1x:vV K (.ref w0n) "house" =some none)
  (w1c:vV K (.ref w0n) "amounts" =some none)
  (w1r:vV K (.ref w0n) "rank" =some none)
  (w21:vV K (.ref w0n) "turns" =some none)
  (y_all:xI K uS "all" =some none)
  (y_any:xI K uS "any" =some none)
  (y_bool:xI K uS "bool" =some none)
  (y_dict:xI K uS "dict" =some none)
  (y_enumerate:xI K uS "enumerate" =some none)
  (y_int:xI K uS "int" =some none)
  (y_isinstance:xI K uS "isinstance" =some none)
  (y_len:xI K uS "len" =some none)
  (y_list:xI K uS "list" =some none)
  (y_max:xI K uS "max" =some none)
  (y_min:xI K uS "min" =some none)
  (y_range:xI K uS "range" =some none)
  (y_set:xI K uS "set" =some none)
  (y_sorted:xI K uS "sorted" =some none)
  (y_str:xI K uS "str" =some none)
  (y_sum:xI K uS "sum" =some none)
  (y_tuple:xI K uS "tuple" =some none)
  (y_zip:xI K uS "zip" =some none)
  :∃d:Ad,Tx K mg d/\fa=d.wd5/\∀(s:uD) (v:uC),fA s d.waw ⟨[v], []⟩ [("_law_script",v)]:=by
 have e:=hfa.symm.trans (g_law.m X G)
 cases e
 have Fl:=g_law.F
 obtain⟨_,_,_,_,_,_,_,_,_,rfl,_,_⟩:=Fl.ex
 have F_z50:=funD_mk (st:=s_Tree_init) l_z50 c_z50 k_z50 tt_z50 td_z50
 have b_z50:qap K _ ["self","wares","name","promise","cap","weight"] []:=F_z50.binds (ps:=["self","wares","name","promise","cap","weight"]) fun _ _ _ _ _ _ us hl=>by have e:us.length=6:=(by simpa using hl);clear hl;revert us e;exact ln6 fun _ _ _ _ _ _=>by first|exact .inl rfl|exact .inr ⟨_,rfl,rfl⟩
 have b1_z50:qap K _ ["self","wares","name","promise","cap","weight"] [w0s]:=F_z50.binds (ps:=["self","wares","name","promise","cap","weight"]) fun _ _ _ _ _ _ us hl=>by have e:us.length=5:=(by simpa using hl);clear hl;revert us e;exact ln5 fun _ _ _ _ _=>by first|exact .inl rfl|exact .inr ⟨_,rfl,rfl⟩
 have F_z51:=funD_mk (st:=s_Tree_found) l_z51 c_z51 k_z51 tt_z51 td_z51
 have b_z51:qap K _ ["self","name","elder","promise","cap","weight"] []:=F_z51.binds (ps:=["self","name","elder","promise","cap","weight"]) fun _ _ _ _ _ _ us hl=>by have e:us.length=6:=(by simpa using hl);clear hl;revert us e;exact ln6 fun _ _ _ _ _ _=>by first|exact .inl rfl|exact .inr ⟨_,rfl,rfl⟩
 have b1_z51:qap K _ ["self","name","elder","promise","cap","weight"] [w0j]:=F_z51.binds (ps:=["self","name","elder","promise","cap","weight"]) fun _ _ _ _ _ _ us hl=>by have e:us.length=5:=(by simpa using hl);clear hl;revert us e;exact ln5 fun _ _ _ _ _=>by first|exact .inl rfl|exact .inr ⟨_,rfl,rfl⟩
 refine⟨⟨_,_,_,_,_,_,_,_,_,_,_,_,_,_,_,_,_,_,_,_,_,_,_,_,_,_,_,_,_,_,_,_,_,_,_,_,_,_,_,_,_,_,_,_,_,_,_,_,_,_,_,_,_,_,_,_,_,_,_,_,_,_,_,_,_,_,_,_,_,_,_,_,_,_,_,_,_,_,_,_,_,_,_,_,_,_,_,_,_,_,_,_,_,_,_,_,_,_,_,_,_,_,t_z50,w0s,_,_,t_z51,w0j,_,_,_,_,_,_,_,_,_,_,_,_,_,_,_,_,_,_,_,_,_,_,_,_,_,_,_,_,_,_,_,_,w05,w00,w0u,w0n,w4f,w5l,w6w,w0e,w1o,w5m,w2x,w2y,w3z,w3x,w42,w0y,w1t,w1f,w0x,w0f⟩,⟨g_z0.F,g_z0.m X G,g_z0.F.binds fun _ _ _ _ _ _=>ln1 fun _=>rfl,g_z1.F,g_z1.m X G,g_z1.F.binds fun _ _ _ _ _ _=>ln1 fun _=>rfl,g_z2.F,g_z2.m X G,g_z2.F.binds fun _ _ _ _ _ _=>ln3 fun _ _ _=>rfl,g_z3.F,g_z3.m X G,g_z3.F.binds fun _ _ _ _ _ _=>ln1 fun _=>rfl,g_z4.F,g_z4.m X G,g_z4.F.binds fun _ _ _ _ _ _=>ln2 fun _ _=>rfl,g_z5.F,g_z5.m X G,g_z5.F.binds fun _ _ _ _ _ _=>ln1 fun _=>rfl,g_z6.F,g_z6.m X G,g_z6.F.binds fun _ _ _ _ _ _=>ln2 fun _ _=>rfl,g_z7.F,g_z7.m X G,g_z7.F.binds fun _ _ _ _ _ _=>ln2 fun _ _=>rfl,g_z8.F,g_z8.m X G,g_z8.F.binds fun _ _ _ _ _ _=>ln2 fun _ _=>rfl,g_z9.F,g_z9.m X G,g_z9.F.binds fun _ _ _ _ _ _=>ln1 fun _=>rfl,g_z10.F,g_z10.m X G,g_z10.F.binds fun _ _ _ _ _ _=>ln3 fun _ _ _=>rfl,g_z11.F,g_z11.m X G,g_z11.F.binds fun _ _ _ _ _ _=>ln1 fun _=>rfl,g_z12.F,g_z12.m X G,g_z12.F.binds fun _ _ _ _ _ _=>ln4 fun _ _ _ _=>rfl,g_z13.F,g_z13.m X G,g_z13.F.binds fun _ _ _ _ _ _=>ln3 fun _ _ _=>rfl,g_z14.F,g_z14.m X G,g_z14.F.binds fun _ _ _ _ _ _=>ln3 fun _ _ _=>rfl,g_z15.F,g_z15.m X G,g_z15.F.binds fun _ _ _ _ _ _=>ln4 fun _ _ _ _=>rfl,g_z16.F,g_z16.m X G,g_z16.F.binds fun _ _ _ _ _ _=>ln4 fun _ _ _ _=>rfl,g_z17.F,g_z17.m X G,g_z17.F.binds fun _ _ _ _ _ _=>ln6 fun _ _ _ _ _ _=>rfl,g_z18.F,g_z18.m X G,g_z18.F.binds fun _ _ _ _ _ _=>ln3 fun _ _ _=>rfl,g_z19.F,g_z19.m X G,g_z19.F.binds fun _ _ _ _ _ _=>ln2 fun _ _=>rfl,g_z20.F,g_z20.m X G,g_z20.F.binds fun _ _ _ _ _ _=>ln6 fun _ _ _ _ _ _=>rfl,g_z21.F,g_z21.m X G,g_z21.F.binds fun _ _ _ _ _ _=>ln1 fun _=>rfl,g_z22.F,g_z22.m X G,g_z22.F.binds fun _ _ _ _ _ _=>ln1 fun _=>rfl,g_z23.F,g_z23.m X G,g_z23.F.binds fun _ _ _ _ _ _=>ln5 fun _ _ _ _ _=>rfl,g_z24.F,g_z24.m X G,g_z24.F.binds fun _ _ _ _ _ _=>ln3 fun _ _ _=>rfl,g_z25.F,g_z25.m X G,g_z25.F.binds fun _ _ _ _ _ _=>ln2 fun _ _=>rfl,g_z26.F,g_z26.m X G,g_z26.F.binds fun _ _ _ _ _ _=>ln3 fun _ _ _=>rfl,g_z27.F,g_z27.m X G,g_z27.F.binds fun _ _ _ _ _ _=>ln2 fun _ _=>rfl,g_z28.F,g_z28.m X G,g_z28.F.binds fun _ _ _ _ _ _=>ln2 fun _ _=>rfl,g_z29.F,g_z29.m X G,g_z29.F.binds fun _ _ _ _ _ _=>ln3 fun _ _ _=>rfl,g_z30.F,g_z30.m X G,g_z30.F.binds fun _ _ _ _ _ _=>ln5 fun _ _ _ _ _=>rfl,g_z31.F,g_z31.m X G,g_z31.F.binds fun _ _ _ _ _ _=>ln2 fun _ _=>rfl,g_z32.F,g_z32.m X G,g_z32.F.binds fun _ _ _ _ _ _=>ln4 fun _ _ _ _=>rfl,g_z33.F,g_z33.m X G,g_z33.F.binds fun _ _ _ _ _ _=>ln4 fun _ _ _ _=>rfl,g_z34.F,g_z34.m X G,g_z34.F.binds fun _ _ _ _ _ _=>ln2 fun _ _=>rfl,g_z35.F,g_z35.m X G,g_z35.F.binds fun _ _ _ _ _ _=>ln2 fun _ _=>rfl,g_z36.F,g_z36.m X G,g_z36.F.binds fun _ _ _ _ _ _=>ln3 fun _ _ _=>rfl,g_z37.F,g_z37.m X G,g_z37.F.binds fun _ _ _ _ _ _=>ln2 fun _ _=>rfl,g_z38.F,g_z38.m X G,g_z38.F.binds fun _ _ _ _ _ _=>ln1 fun _=>rfl,g_z39.F,g_z39.m X G,g_z39.F.binds fun _ _ _ _ _ _=>ln2 fun _ _=>rfl,g_z40.F,g_z40.m X G,g_z40.F.binds fun _ _ _ _ _ _=>ln3 fun _ _ _=>rfl,g_z41.F,g_z41.m X G,g_z41.F.binds fun _ _ _ _ _ _=>ln1 fun _=>rfl,g_z42.F,g_z42.m X G,g_z42.F.binds fun _ _ _ _ _ _=>ln1 fun _=>rfl,g_z43.F,g_z43.m X G,g_z43.F.binds fun _ _ _ _ _ _=>ln1 fun _=>rfl,g_z44.F,g_z44.m X G,g_z44.F.binds fun _ _ _ _ _ _=>ln2 fun _ _=>rfl,g_z45.F,g_z45.m X G,g_z45.F.binds fun _ _ _ _ _ _=>ln3 fun _ _ _=>rfl,g_z46.F,g_z46.m X G,g_z46.F.binds fun _ _ _ _ _ _=>ln2 fun _ _=>rfl,g_z47.F,g_z47.m X G,g_z47.F.binds fun _ _ _ _ _ _=>ln2 fun _ _=>rfl,Fl,g_law.m X G,g_z49.F,g_z49.F.binds fun _ _ _ _ _ _=>ln5 fun _ _ _ _ _=>rfl,F_z50,b_z50,b1_z50,rd_z50,F_z51,b_z51,b1_z51,rd_z51,g_z52.F,g_z52.F.binds fun _ _ _ _ _ _=>ln1 fun _=>rfl,g_z53.F,g_z53.F.binds fun _ _ _ _ _ _=>ln1 fun _=>rfl,g_z54.F,g_z54.F.binds fun _ _ _ _ _ _=>ln2 fun _ _=>rfl,g_z55.F,g_z55.F.binds fun _ _ _ _ _ _=>ln2 fun _ _=>rfl,g_z56.F,g_z56.F.binds fun _ _ _ _ _ _=>ln2 fun _ _=>rfl,g_z57.F,g_z57.F.binds fun _ _ _ _ _ _=>ln2 fun _ _=>rfl,g_z58.F,g_z58.F.binds fun _ _ _ _ _ _=>ln2 fun _ _=>rfl,g_z59.F,g_z59.F.binds fun _ _ _ _ _ _=>ln2 fun _ _=>rfl,g_z60.F,g_z60.F.binds fun _ _ _ _ _ _=>ln2 fun _ _=>rfl,g_z61.F,g_z61.F.binds fun _ _ _ _ _ _=>ln2 fun _ _=>rfl,g_z62.F,g_z62.F.binds fun _ _ _ _ _ _=>ln2 fun _ _=>rfl,g_z63.F,g_z63.F.binds fun _ _ _ _ _ _=>ln3 fun _ _ _=>rfl,g_z64.F,g_z64.F.binds fun _ _ _ _ _ _=>ln6 fun _ _ _ _ _ _=>rfl,g_z65.F,g_z65.F.binds fun _ _ _ _ _ _=>ln3 fun _ _ _=>rfl,g_z66.F,g_z66.F.binds fun _ _ _ _ _ _=>ln3 fun _ _ _=>rfl,g_z67.F,xcli_of qi_z67 hi_z67,g_z67.F.binds fun _ _ _ _ _ _=>ln3 fun _ _ _=>rfl,vQ X G a_House,vQ X G a_Tree,vQ X G a_Hold,vQ X G a_Loan,vQ X G a_TreeError,vQ X G a_NoName,vQ X G a_Taken,vQ X G a_NoHouse,vQ X G a_NoPromise,vQ X G a_NoWare,vQ X G a_NoAmount,vQ X G a_NoNumber,vQ X G a_TooMany,vQ X G a_TooDeep,vQ X G a_LETTERS,w5a,vQ X G a_LONGEST_NAME,w1i,vQ X G a_MOST_WARES,w2h,vQ X G a_MOST_HOUSES,w1y,vQ X G a_LONGEST_LINE,w1h,vQ X G a_GREATEST_WEIGHT,w0r,vJ X G y_all,vJ X G y_any,vJ X G y_bool,vJ X G y_dict,vJ X G y_enumerate,vJ X G y_int,vJ X G y_isinstance,vJ X G y_len,vJ X G y_list,vJ X G y_max,vJ X G y_min,vJ X G y_range,vJ X G y_set,vJ X G y_sorted,vJ X G y_str,vJ X G y_sum,vJ X G y_tuple,vJ X G y_zip,w0q,w0m,w1m,w01,w6k,w8a,w5u,w4r,w8q,w87,w1w,w2v,w2s,w2c,w06,w0h,w0g,w1j,w2f,w0t,w0c,w07,w0i,w0l,w0a,w0k,w1d,w09,w03,w1k,w22,w1b,w2g,w1u,w1g,w1x,w1c,w1r,w21,qdd q_NoHouse,qdd q_NoAmount,qdd q_NoWare,qdd q_NoName,qdd q_NoNumber,qdd q_Taken,qdd q_TooMany,qdd q_TooDeep⟩,rfl,fun s v=> .of_eq rfl⟩
theorem walk {l:PySem.W.OpenLaw} {q:vB} {loose:List Str} {XP:(Str->Option uC)->vR->Prop} {YP:vL->vR->Prop} {e:DefRec} {K:Params->uR} (hn:l.most=some 63) (hdf:e.params.defaults=[]) (hlaw:e.name= "law")
  (hY:∀(w:vL) (h:vR),YP w h->(K w.params).In h)
  (F:∀(w:vL) (mg:Str->Option uC) (fa:Addr) (h:vR),(K w.params).In h->h.Ns uS mg->mg "law" =some (.ref fa)->∃d:Ad,Tx (K w.params) mg d/\fa=d.wd5/\∀(s:uD) (v:uC),fA s d.waw ⟨[v], []⟩ [("_law_script",v)]):
  PySem.W.WalkO q loose XP YP l.row.toRowW e [] (fun f vs=>PySem.call f vs):=by
 refine L2.walk_of (n:=63) (k:=26) (x:="_law_script") (CX:=fun _=>CX0) (sp:=fun w=>sp_law0 (K w.params)) hn (by decide) hdf ⟨rfl,by decide,by decide⟩ hY (fun w mg fa h KX G hm=>?_) (fun _ _ a ns hl _ hS=>⟨a,ns,rfl,hS,hl,fun _=>rfl⟩) fun _ _ _ _ _ z=>z
 rw [hlaw] at hm
 obtain⟨d,T,rfl,hb⟩:=F w mg fa h KX G hm
 exact⟨d.waw,hb,fun base _ _=>(ok_law (P:=l.prog) (w:=w) (base:=base) T).imp fun vs H Q E q=>q⟩
end Our
namespace PySem.W.Fast
theorem tw17594330977971541861:0=0:=rfl
theorem tw4500659680132487236:0=0:=rfl
theorem tw5950099656226955908:0=0:=rfl
theorem tw3318467509934919012:0=0:=rfl
theorem tw12708406580144247478:0=0:=rfl
theorem tw9417704114062142697:0=0:=rfl
theorem tw2713512338889891371:0=0:=rfl
theorem tw14842454457645991253:0=0:=rfl
theorem tw12572308307774032729:0=0:=rfl
theorem tw17974346099295522101:0=0:=rfl
theorem tw13182034265026197509:0=0:=rfl
theorem tw11157984532516069496:0=0:=rfl
theorem tw13878599983099598877:0=0:=rfl
theorem tw17453869093315785578:0=0:=rfl
theorem tw7073469950791552950:0=0:=rfl
theorem tw2014167329375377143:0=0:=rfl
theorem tw10981710015936924458:0=0:=rfl
theorem tw1628804006091684541:0=0:=rfl
theorem tw10948598506461862984:0=0:=rfl
theorem tw2782923243078386113:0=0:=rfl
theorem tw18120182005294678310:0=0:=rfl
theorem tw5093724314412853474:0=0:=rfl
theorem tw503157266326518325:0=0:=rfl
theorem tw13614598474468806633:0=0:=rfl
theorem tw11385273701452599206:0=0:=rfl
theorem tw7843143764978758193:0=0:=rfl
theorem tw4203989366533288190:0=0:=rfl
theorem tw12138595424994021317:0=0:=rfl
theorem tw14863507343383754831:0=0:=rfl
theorem tw11912066930176165145:0=0:=rfl
theorem tw2698329822916575087:0=0:=rfl
theorem tw5349191298346066589:0=0:=rfl
theorem tw12358088605769150627:0=0:=rfl
theorem tw9501895252528701944:0=0:=rfl
theorem tw16725227505666230984:0=0:=rfl
theorem tw10797838388901032971:0=0:=rfl
theorem tw18063021378103455540:0=0:=rfl
theorem tw16604202152049538121:0=0:=rfl
theorem tw16397003271013347310:0=0:=rfl
theorem tw14025931372846711601:0=0:=rfl
theorem tw240301833730995977:0=0:=rfl
theorem tw4208740721869553446:0=0:=rfl
theorem tw1908446828852704087:0=0:=rfl
theorem tw9270043977005952102:0=0:=rfl
theorem tw4418272631427114841:0=0:=rfl
theorem tw13303829680789030:0=0:=rfl
theorem tw10249358018643956978:0=0:=rfl
theorem tw18279115253755514415:0=0:=rfl
theorem tw7028373657450766683:0=0:=rfl
theorem tw11023507905370495954:0=0:=rfl
theorem tw12302103716439052712:0=0:=rfl
theorem tw12262538770517377993:0=0:=rfl
theorem tw11304635551610466399:0=0:=rfl
theorem tw14006454602003113117:0=0:=rfl
theorem tw10059219870184979140:0=0:=rfl
theorem tw15148406105487998073:0=0:=rfl
theorem tw9734287682640082317:0=0:=rfl
theorem tw5523274457865351149:0=0:=rfl
theorem tw5757618225919901017:0=0:=rfl
theorem tw13296880719257528263:0=0:=rfl
theorem tw14969705738125803651:0=0:=rfl
theorem tw3024069330209344153:0=0:=rfl
theorem tw6573346970365776452:0=0:=rfl
theorem tw12797098292895069018:0=0:=rfl
theorem tw6970860189041256938:0=0:=rfl
theorem tw11533923428090840100:0=0:=rfl
theorem tw8180541723483583705:0=0:=rfl
theorem tw3964759611950206564:0=0:=rfl
theorem tw18289101579009803307:0=0:=rfl
theorem tw322021464550627678:0=0:=rfl
theorem tw5864092423899518728:0=0:=rfl
theorem tw16224526506714435638:0=0:=rfl
theorem tw8444173031012074595:0=0:=rfl
theorem tw9575841963705355108:0=0:=rfl
theorem tw6541009894292751334:0=0:=rfl
theorem tw15955629219352180441:0=0:=rfl
theorem tw13670011138370678908:0=0:=rfl
theorem tw14444085240607448417:0=0:=rfl
theorem tw7700530598107192712:0=0:=rfl
theorem tw18130720170631536162:0=0:=rfl
theorem tw11094502013947084515:0=0:=rfl
theorem tw9731045528267409562:0=0:=rfl
theorem tw14742083347396879847:0=0:=rfl
theorem tw1009444554255640524:0=0:=rfl
theorem tw11019941729959061050:0=0:=rfl
theorem tw6919576927533221011:0=0:=rfl
theorem tw18434337381113780202:0=0:=rfl
theorem tw9502752534640725818:0=0:=rfl
theorem tw16484507201535019637:0=0:=rfl
theorem tw16342715639115909629:0=0:=rfl
theorem tw15721386307341451267:0=0:=rfl
theorem tw1798514286997726025:0=0:=rfl
theorem tw11704426233081735000:0=0:=rfl
theorem tw4649824612017471429:0=0:=rfl
theorem tw11720790684377299198:0=0:=rfl
theorem tw6260100688470742604:0=0:=rfl
theorem tw9455284689653460240:0=0:=rfl
theorem tw2845510788576328603:0=0:=rfl
theorem tw2084420323489815341:0=0:=rfl
theorem tw770220994924463947:0=0:=rfl
theorem tw16951814311739025171:0=0:=rfl
theorem tw2956221006868755981:0=0:=rfl
theorem tw15024571644959989703:0=0:=rfl
theorem tw1172233050381281447:0=0:=rfl
theorem tw15546786894640019105:0=0:=rfl
theorem tw17684887937755585775:0=0:=rfl
theorem tw13667687391532962939:0=0:=rfl
theorem tw1581966028064435767:0=0:=rfl
theorem tw12486133070668654477:0=0:=rfl
theorem tw9901561688445855134:0=0:=rfl
theorem tw17958943316854498378:0=0:=rfl
theorem tw5245944684883385602:0=0:=rfl
theorem tw11481477782645414574:0=0:=rfl
theorem tw12770751028972211299:0=0:=rfl
theorem tw6037464914363589951:0=0:=rfl
theorem tw6753464688650226107:0=0:=rfl
theorem tw18253487666243190688:0=0:=rfl
theorem tw8496471091162778958:0=0:=rfl
theorem tw2581462877963680688:0=0:=rfl
theorem tw16908997739827884538:0=0:=rfl
theorem tw2594601185516606423:0=0:=rfl
theorem tw11052841769850544217:0=0:=rfl
theorem tw4711077071279550183:0=0:=rfl
theorem tw3452231904711039912:0=0:=rfl
theorem tw17736861465819241686:0=0:=rfl
theorem tw815242856163881532:0=0:=rfl
theorem tw9787358759027800341:0=0:=rfl
theorem tw11669550495386387161:0=0:=rfl
theorem tw14191421896765080505:0=0:=rfl
theorem tw5384714000174212207:0=0:=rfl
theorem tw478934940216668830:0=0:=rfl
theorem tw3321078228959379130:0=0:=rfl
theorem tw17525304394931614752:0=0:=rfl
theorem tw8385449505169220045:0=0:=rfl
theorem tw6618678278968411964:0=0:=rfl
theorem tw13950054892261888881:0=0:=rfl
theorem tw18289946196806349639:0=0:=rfl
theorem tw840912204618336260:0=0:=rfl
theorem tw3409097685739017676:0=0:=rfl
theorem tw2334329977842874410:0=0:=rfl
theorem tw10787031625626261718:0=0:=rfl
theorem tw17796031439679097991:0=0:=rfl
theorem tw14216412137266404899:0=0:=rfl
theorem tw2417121401463289557:0=0:=rfl
theorem tw17216536304241403984:0=0:=rfl
theorem tw6188800180301797908:0=0:=rfl
theorem tw16049300867128145784:0=0:=rfl
theorem tw8123374483559785474:0=0:=rfl
theorem tw8943770928825615710:0=0:=rfl
theorem tw6048570085365167370:0=0:=rfl
theorem tw7795143663871340108:0=0:=rfl
theorem tw17797562243662493875:0=0:=rfl
theorem tw12223798297059380370:0=0:=rfl
theorem tw942962560578413524:0=0:=rfl
theorem tw3274938677709734523:0=0:=rfl
theorem tw8092903099628206189:0=0:=rfl
theorem tw11848193741939565680:0=0:=rfl
theorem tw15183069547088345156:0=0:=rfl
theorem tw14916902096930556553:0=0:=rfl
theorem tw10403149254194105662:0=0:=rfl
theorem tw18250834091658111307:0=0:=rfl
theorem tw13432688889061702887:0=0:=rfl
theorem tw18441253550267195453:0=0:=rfl
theorem tw4726794226494888888:0=0:=rfl
theorem tw3786718825445977274:0=0:=rfl
theorem tw14800262057736212665:0=0:=rfl
theorem tw14340555448490653772:0=0:=rfl
theorem tw7492288068540694062:0=0:=rfl
theorem tw3993041712062339832:0=0:=rfl
theorem tw15196582101184371759:0=0:=rfl
theorem tw9893310081741978181:0=0:=rfl
theorem tw5120359754885940769:0=0:=rfl
theorem tw10142848284938261757:0=0:=rfl
theorem tw2502280496693003280:0=0:=rfl
theorem tw5109104749690731446:0=0:=rfl
theorem tw12033603658984058917:0=0:=rfl
theorem tw7081964330130700583:0=0:=rfl
theorem tw12690150059479500627:0=0:=rfl
theorem tw1616602135632297093:0=0:=rfl
theorem tw3074470537414388088:0=0:=rfl
theorem tw17464967997197411870:0=0:=rfl
theorem tw3635861281453208362:0=0:=rfl
theorem tw6068106126096684320:0=0:=rfl
theorem tw8085446561529083229:0=0:=rfl
theorem tw3756411128928786572:0=0:=rfl
theorem tw787985296513581174:0=0:=rfl
theorem tw16621503538767673629:0=0:=rfl
theorem tw276564370410314096:0=0:=rfl
theorem tw9188268801872562207:0=0:=rfl
theorem tw4214971715314814443:0=0:=rfl
theorem tw3979016807339724867:0=0:=rfl
theorem tw17488565706413432372:0=0:=rfl
theorem tw9410485313429521965:0=0:=rfl
theorem tw13108393579280188597:0=0:=rfl
theorem tw16989469908891707446:0=0:=rfl
theorem tw4913949080994967475:0=0:=rfl
theorem tw8103740079653740568:0=0:=rfl
theorem tw9846240939178380388:0=0:=rfl
theorem tw16507449634276966514:0=0:=rfl
theorem tw10079298668050222763:0=0:=rfl
theorem tw12783455135072609965:0=0:=rfl
theorem tw14365419974557401502:0=0:=rfl
theorem tw12806970976379230551:0=0:=rfl
theorem tw9484429743679669813:0=0:=rfl
theorem tw2293005112273134145:0=0:=rfl
theorem tw3821938568703716679:0=0:=rfl
theorem tw17048101893885922611:0=0:=rfl
theorem tw12810969767452135657:0=0:=rfl
theorem tw16509744231147191645:0=0:=rfl
theorem tw14899641477400793854:0=0:=rfl
theorem tw9199873871770505776:0=0:=rfl
theorem tw8520531588008403519:0=0:=rfl
theorem tw1142768124014771568:0=0:=rfl
theorem tw8566591795195023801:0=0:=rfl
theorem tw8548764932493075425:0=0:=rfl
theorem tw15364065371092669105:0=0:=rfl
theorem tw7591171352429312418:0=0:=rfl
theorem tw413739500283727102:0=0:=rfl
theorem tw10568006097007131547:0=0:=rfl
theorem tw1713159055134344719:0=0:=rfl
theorem tw704040075961565273:0=0:=rfl
theorem tw6415823941819962603:0=0:=rfl
theorem tw7057309927057834429:0=0:=rfl
theorem tw4421663835786179717:0=0:=rfl
theorem tw2953695802118007178:0=0:=rfl
theorem tw3531290250698127497:0=0:=rfl
theorem tw9285995460836964980:0=0:=rfl
theorem tw4397611451855660665:0=0:=rfl
theorem tw13366091894006835951:0=0:=rfl
theorem tw1104220098394518530:0=0:=rfl
theorem tw10070011665610180896:0=0:=rfl
theorem tw892929338490809769:0=0:=rfl
theorem tw15758011053914425209:0=0:=rfl
theorem tw9981503608771606194:0=0:=rfl
theorem tw15712986456443229908:0=0:=rfl
theorem tw2199569100532279924:0=0:=rfl
theorem tw7164484222348949411:0=0:=rfl
theorem tw11908473302048373894:0=0:=rfl
theorem tw6290149776284722489:0=0:=rfl
theorem tw15403670276653732073:0=0:=rfl
theorem tw990682160521796696:0=0:=rfl
theorem tw838684024985078261:0=0:=rfl
theorem tw10015715236045155088:0=0:=rfl
theorem tw11233966908744173877:0=0:=rfl
theorem tw982643249068026462:0=0:=rfl
theorem tw10938075068272114009:0=0:=rfl
theorem tw15057147457840129590:0=0:=rfl
theorem tw12198105200001792985:0=0:=rfl
theorem tw17671164563916890316:0=0:=rfl
theorem tw13247879801423120412:0=0:=rfl
theorem tw17827271899422230061:0=0:=rfl
theorem tw14744490621929851511:0=0:=rfl
theorem tw911582945516203791:0=0:=rfl
theorem tw3263983315409304769:0=0:=rfl
theorem tw1948668426964295793:0=0:=rfl
theorem tw1915461330879254508:0=0:=rfl
theorem tw17537090207913725463:0=0:=rfl
theorem tw12689919766128362437:0=0:=rfl
theorem tw8681175873897056962:0=0:=rfl
theorem tw5168242069722457389:0=0:=rfl
theorem tw876413716594541207:0=0:=rfl
theorem tw11421640805825529994:0=0:=rfl
theorem tw8047202276253602826:0=0:=rfl
theorem tw2965553989008522550:0=0:=rfl
theorem tw15355764549618922471:0=0:=rfl
theorem tw5194555753647215386:0=0:=rfl
theorem tw10533128220091047562:0=0:=rfl
theorem tw7232867180493675336:0=0:=rfl
theorem tw15967774520528490690:0=0:=rfl
theorem tw450235476224795948:0=0:=rfl
theorem tw1948787927836271905:0=0:=rfl
theorem tw1851520797066856455:0=0:=rfl
theorem tw8663346887572578634:0=0:=rfl
theorem tw8349361103654219987:0=0:=rfl
theorem tw8026414873414214169:0=0:=rfl
theorem tw17823825259639311344:0=0:=rfl
theorem tw1737326602336282119:0=0:=rfl
theorem tw17804002735722843062:0=0:=rfl
theorem tw3319034002281671254:0=0:=rfl
theorem tw16836295985202300408:0=0:=rfl
theorem tw6281235589003731946:0=0:=rfl
theorem tw6573472102327552912:0=0:=rfl
theorem tw13497492570460976144:0=0:=rfl
theorem tw3464120415976099449:0=0:=rfl
theorem tw11101519633515245328:0=0:=rfl
theorem tw12050778163158287238:0=0:=rfl
theorem tw5248261477048251724:0=0:=rfl
theorem tw17895527349036955761:0=0:=rfl
theorem tw7041850547627436027:0=0:=rfl
theorem tw10989677364098305265:0=0:=rfl
theorem tw455385615340411212:0=0:=rfl
theorem tw2930240595756516313:0=0:=rfl
theorem tw9316750618598713440:0=0:=rfl
theorem tw5855651375622270825:0=0:=rfl
theorem tw14354323246246458102:0=0:=rfl
theorem tw11883289143311253152:0=0:=rfl
theorem tw3037069423492380802:0=0:=rfl
theorem tw919370367919810687:0=0:=rfl
theorem tw7946677941961081589:0=0:=rfl
theorem tw3818723160517373670:0=0:=rfl
theorem tw16240084424125070139:0=0:=rfl
theorem tw5850618950286149450:0=0:=rfl
theorem tw7492452195056706196:0=0:=rfl
theorem tw6426529536963445199:0=0:=rfl
theorem tw3105303939032842448:0=0:=rfl
theorem tw8978784898779530875:0=0:=rfl
theorem tw3142529594493146201:0=0:=rfl
theorem tw14560627461365943714:0=0:=rfl
theorem tw13601001479088861038:0=0:=rfl
theorem tw7404568119548573179:0=0:=rfl
theorem tw2814569891177098200:0=0:=rfl
theorem tw15182097857271390239:0=0:=rfl
theorem tw9567726492178257956:0=0:=rfl
theorem tw7278886318165290768:0=0:=rfl
theorem tw3556973039504792237:0=0:=rfl
theorem tw2095808022334661746:0=0:=rfl
theorem tw11233960946047279361:0=0:=rfl
theorem tw10839895715025414630:0=0:=rfl
theorem tw7659905019904106483:0=0:=rfl
theorem tw5613916982918406837:0=0:=rfl
theorem tw2950387946808988330:0=0:=rfl
theorem tw13225588193468390231:0=0:=rfl
theorem tw12966048890583486560:0=0:=rfl
theorem tw12741540388147248650:0=0:=rfl
theorem tw9839827285266312123:0=0:=rfl
theorem tw3054554224945943409:0=0:=rfl
theorem tw998129291028929106:0=0:=rfl
theorem tw9251556341884359088:0=0:=rfl
theorem tw5232971762972241274:0=0:=rfl
theorem tw17036169341510470952:0=0:=rfl
theorem tw4908798259455695791:0=0:=rfl
theorem tw18169799468239905508:0=0:=rfl
theorem tw16265217151051753178:0=0:=rfl
theorem tw7056141104809935284:0=0:=rfl
theorem tw17899166533476500907:0=0:=rfl
theorem tw4044585661803224788:0=0:=rfl
theorem tw7265059407711463972:0=0:=rfl
theorem tw3171793693278479299:0=0:=rfl
theorem tw9520240993897605468:0=0:=rfl
theorem tw14831197748387099599:0=0:=rfl
theorem tw14672897645323722949:0=0:=rfl
theorem tw11760879338005950775:0=0:=rfl
theorem tw15076775665004972456:0=0:=rfl
theorem tw6916630227581842439:0=0:=rfl
theorem tw6019758674618454303:0=0:=rfl
theorem tw12067834890608323346:0=0:=rfl
theorem tw9873651677786639967:0=0:=rfl
theorem tw7201737881644549449:0=0:=rfl
theorem tw6596752919311429289:0=0:=rfl
theorem tw4385966069257823416:0=0:=rfl
theorem tw13931439342967072015:0=0:=rfl
theorem tw13033966386214962385:0=0:=rfl
theorem tw2974020560185170098:0=0:=rfl
theorem tw9417045064099424942:0=0:=rfl
theorem tw4703662220034740120:0=0:=rfl
theorem tw8570332013083358261:0=0:=rfl
theorem tw8048247706836204393:0=0:=rfl
theorem tw5556634971791896666:0=0:=rfl
theorem tw18118063125791957362:0=0:=rfl
theorem tw14925782823284160047:0=0:=rfl
theorem tw7637881488557372471:0=0:=rfl
theorem tw650723774591342363:0=0:=rfl
theorem tw406744122867649723:0=0:=rfl
theorem tw10834546051455823793:0=0:=rfl
theorem tw15108763000148168896:0=0:=rfl
theorem tw12467720234082861392:0=0:=rfl
theorem tw108293393763305556:0=0:=rfl
theorem tw17550318940388932032:0=0:=rfl
theorem tw14607296538154980724:0=0:=rfl
theorem tw15197110873393233590:0=0:=rfl
theorem tw18024013067988778012:0=0:=rfl
theorem tw3419973571829589195:0=0:=rfl
theorem tw2360056216024937370:0=0:=rfl
theorem tw15206878795942514444:0=0:=rfl
theorem tw7635250024415441670:0=0:=rfl
theorem tw5680354950221939742:0=0:=rfl
theorem tw4665687082414070523:0=0:=rfl
theorem tw715939624174290435:0=0:=rfl
theorem tw14605064617895667685:0=0:=rfl
theorem tw5255824433969934673:0=0:=rfl
end PySem.W.Fast
open PySem PySem.W PyProof.Rows
set_option maxRecDepth 100000 in
set_option maxHeartbeats 0 in
theorem PySem.Challenge.cw_quotatree_k47_whole_claims_holds : PySem.Challenge.rw_quotatree_k47_whole_claims.Holds := by
 w_on;o_law;k_head;(case hw=>w_witness2)
 k_fill
 refine Our.walk (l:=PySem.Challenge.rw_quotatree_k47_whole_claims) rfl rfl rfl (fun w h Y=>PySem.W.kIn_of Y) ?F
 case F=>
  intro w mg fa h KX G hmg
  refine' Our.txt_mk KX G hmg ?g_z0 ?g_z1 ?g_z2 ?g_z3 ?g_z4 ?g_z5 ?g_z6 ?g_z7 ?g_z8 ?g_z9 ?g_z10 ?g_z11 ?g_z12 ?g_z13 ?g_z14 ?g_z15 ?g_z16 ?g_z17 ?g_z18 ?g_z19 ?g_z20 ?g_z21 ?g_z22 ?g_z23 ?g_z24 ?g_z25 ?g_z26 ?g_z27 ?g_z28 ?g_z29 ?g_z30 ?g_z31 ?g_z32 ?g_z33 ?g_z34 ?g_z35 ?g_z36 ?g_z37 ?g_z38 ?g_z39 ?g_z40 ?g_z41 ?g_z42 ?g_z43 ?g_z44 ?g_z45 ?g_z46 ?g_z47 ?g_law ?g_z49 ?a_z50 ?l_z50 ?c_z50 ?k_z50 ?tt_z50 ?td_z50 ?rd_z50 ?a_z51 ?l_z51 ?c_z51 ?k_z51 ?tt_z51 ?td_z51 ?rd_z51 ?g_z52 ?g_z53 ?g_z54 ?g_z55 ?g_z56 ?g_z57 ?g_z58 ?g_z59 ?g_z60 ?g_z61 ?g_z62 ?g_z63 ?g_z64 ?g_z65 ?g_z66 ?g_z67 ?qi_z67 ?hi_z67 ?a_House ?a_Tree ?a_Hold ?a_Loan ?a_TreeError ?a_NoName ?a_Taken ?a_NoHouse ?a_NoPromise ?a_NoWare ?a_NoAmount ?a_NoNumber ?a_TooMany ?a_TooDeep ?a_LETTERS ?w5a ?a_LONGEST_NAME ?w1i ?a_MOST_WARES ?w2h ?a_MOST_HOUSES ?w1y ?a_LONGEST_LINE ?w1h ?a_GREATEST_WEIGHT ?w0r ?q_NoHouse ?q_NoAmount ?q_NoWare ?q_NoName ?q_NoNumber ?q_Taken ?q_TooMany ?q_TooDeep ?w0q ?w0m ?w1m ?w01 ?w6k ?w8a ?w5u ?w4r ?w8q ?w87 ?w1w ?w2v ?w2s ?w2c ?w06 ?w0h ?w0g ?w1j ?w2f ?w0t ?w0c ?w07 ?w0i ?w0l ?w0a ?w0k ?w1d ?w09 ?w03 ?w1k ?w22 ?w1b ?w2g ?w1u ?w1g ?w1x ?w1c ?w1r ?w21 ?y_all ?y_any ?y_bool ?y_dict ?y_enumerate ?y_int ?y_isinstance ?y_len ?y_list ?y_max ?y_min ?y_range ?y_set ?y_sorted ?y_str ?y_sum ?y_tuple ?y_zip
  (case a_House=>k_is)
  (case a_Tree=>k_is)
  (case a_Hold=>k_is)
  (case a_Loan=>k_is)
  (case a_TreeError=>k_is)
  (case a_NoName=>k_is)
  (case a_Taken=>k_is)
  (case a_NoHouse=>k_is)
  (case a_NoPromise=>k_is)
  (case a_NoWare=>k_is)
  (case a_NoAmount=>k_is)
  (case a_NoNumber=>k_is)
  (case a_TooMany=>k_is)
  (case a_TooDeep=>k_is)
  all_goals try (refine' ⟨?a,L2.fun_mk ?l ?c ?k⟩;(case a=>k_is);(case l=>k_is);(case c=>k_is);(case k=>k_is))
  (case a_z50=>k_is);(case l_z50=>k_is);(case c_z50=>k_is);(case k_z50=>k_is)
  (case tt_z50=>k_is);(case td_z50=>first|rfl|k_is);(case rd_z50=>first|exact .cons ⟨_,rfl⟩ .nil|exact .cons rfl .nil)
  (case a_z51=>k_is);(case l_z51=>k_is);(case c_z51=>k_is);(case k_z51=>k_is)
  (case tt_z51=>k_is);(case td_z51=>first|rfl|k_is);(case rd_z51=>first|exact .cons ⟨_,rfl⟩ .nil|exact .cons rfl .nil)
  (case qi_z67=>kernel_rfl);(case hi_z67=>k_is)
  (case a_LETTERS=>k_is)
  (case w5a=>exact⟨_,rfl⟩)
  (case a_LONGEST_NAME=>k_is)
  (case w1i=>exact⟨_,rfl⟩)
  (case a_MOST_WARES=>k_is)
  (case w2h=>exact⟨_,rfl⟩)
  (case a_MOST_HOUSES=>k_is)
  (case w1y=>exact⟨_,rfl⟩)
  (case a_LONGEST_LINE=>k_is)
  (case w1h=>exact⟨_,rfl⟩)
  (case a_GREATEST_WEIGHT=>k_is)
  (case w0r=>exact⟨_,rfl⟩)
  (case q_NoHouse=>k_exc)
  (case q_NoAmount=>k_exc)
  (case q_NoWare=>k_exc)
  (case q_NoName=>k_exc)
  (case q_NoNumber=>k_exc)
  (case q_Taken=>k_exc)
  (case q_TooMany=>k_exc)
  (case q_TooDeep=>k_exc)
  (case w0q=>(constructor <;> first|k_is|kernel_rfl))
  (case w0m=>(constructor <;> first|k_is|kernel_rfl))
  (case w1m=>(constructor <;> first|k_is|kernel_rfl))
  (case w01=>(constructor <;> first|k_is|kernel_rfl))
  (case w6k=>(constructor <;> first|k_is|kernel_rfl))
  (case w8a=>(constructor <;> first|k_is|kernel_rfl))
  (case w5u=>(constructor <;> first|k_is|kernel_rfl))
  (case w4r=>(constructor <;> first|k_is|kernel_rfl))
  (case w8q=>(constructor <;> first|k_is|kernel_rfl))
  (case w87=>(constructor <;> first|k_is|kernel_rfl))
  (case w1w=>(constructor <;> first|k_is|kernel_rfl))
  (case w2v=>(constructor <;> first|k_is|kernel_rfl))
  (case w2s=>(constructor <;> first|k_is|kernel_rfl))
  (case w2c=>(constructor <;> first|k_is|kernel_rfl))
  (case w06=>(constructor <;> first|k_is|kernel_rfl))
  (case w0h=>(constructor <;> first|k_is|kernel_rfl))
  (case w0g=>(constructor <;> first|k_is|kernel_rfl))
  (case w1j=>(constructor <;> first|k_is|kernel_rfl))
  (case w2f=>(constructor <;> first|k_is|kernel_rfl))
  (case w0t=>(constructor <;> first|k_is|kernel_rfl))
  (case w0c=>(constructor <;> first|k_is|kernel_rfl))
  (case w07=>(constructor <;> first|k_is|kernel_rfl))
  (case w0i=>(constructor <;> first|k_is|kernel_rfl))
  (case w0l=>k_is)
  (case w0a=>k_is)
  (case w0k=>k_is)
  (case w1d=>k_is)
  (case w09=>k_is)
  (case w03=>k_is)
  (case w1k=>k_is)
  (case w22=>k_is)
  (case w1b=>k_is)
  (case w2g=>k_is)
  (case w1u=>k_is)
  (case w1g=>k_is)
  (case w1x=>k_is)
  (case w1c=>k_is)
  (case w1r=>k_is)
  (case w21=>k_is)
  (case y_all=>k_is)
  (case y_any=>k_is)
  (case y_bool=>k_is)
  (case y_dict=>k_is)
  (case y_enumerate=>k_is)
  (case y_int=>k_is)
  (case y_isinstance=>k_is)
  (case y_len=>k_is)
  (case y_list=>k_is)
  (case y_max=>k_is)
  (case y_min=>k_is)
  (case y_range=>k_is)
  (case y_set=>k_is)
  (case y_sorted=>k_is)
  (case y_str=>k_is)
  (case y_sum=>k_is)
  (case y_tuple=>k_is)
  (case y_zip=>k_is)