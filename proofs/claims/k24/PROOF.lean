import PyProof.Rows.All
import Wide.All
import OpenK.AllK
import PySem.Challenge.RW_roomtouch_k24_no_tintings
set_option Elab.async false
set_option linter.all false
set_option compiler.extract_closed false
set_option genSizeOf false
set_option maxRecDepth 100000
set_option maxHeartbeats 4000000
local macro_rules | `(⋯)=>`(by first|decide|simp|omega|lia)
local macro_rules | `(∅)=>`(by first|omega|(unfold PySem.sizeLine;first|omega|decide))
open Decidable renaming decide->bd
open List renaming length_map->ax,getElem?_eq_getElem->bg,getElem?_eq_some_iff->bt,mem_map->ee,getElem?_map->ez,mem_cons_self->eN,mem_cons_of_mem->fk,mem_of_getElem?->fB,length_append->gd,length_cons->gk,all_eq_true->hE,map_map->hG,map_append->hI,range->hM,mem_cons->hO,mem_append->hY,mem_filter->iF,mergeSort_perm->jn,size_toArray->kq,mem_singleton->kH,length_range->kL,length_take->l5,getD_eq_getElem?_getD->mu,take_length->mv,map_cons->mA,mem_range->nk,getElem?_set_ne->n3,pairwise_map->ox,getElem_of_mem->oy,getElem?_append_right->ph,mem_append_right->pL,getElem?_set_self->ql,length_filter_le->qp,getElem?_append_left->qt,nodup_cons->sk,countP_eq_length_filter->vT,append_nil->wa,countP_cons->wk,append_assoc->wm,length_set->yv,length_drop->y4,pairwise_iff_getElem->za,nodup_append->zb,replicate->zc,mem_append_left->z6,getElem_inj->z7,any_eq_true->z8,length_reverse->C0,getElem?_zip_eq_some->HT,not_mem_nil->L0,mem_flatMap->L1,find?_eq_none->L',map_congr_left->S',filter_sublist->Ts,length_pos_of_mem->WG,getElem_map->ZF,mem_filterMap->ZJ,length_singleton->ZM,getElem?_eq_none->ZN,cons_lt_cons_iff->ZO,findIdx?_eq_some_iff_getElem->ZQ,mem_of_find?_eq_some->ZT,find?_cons->ZV,not_lt->ZX,mem_of_mem_take->ZY,length_pos_iff->Z3,getElem?_range->Z4,pairwise_mergeSort->Z6,lookup_cons->Z7,filter_cons->Z8,length_nil->aah,reverse_cons->aak,flatMap_cons->aal,nodup_nil->aap,length_eraseIdx_of_lt->aaq,getElem_mem->aat,map_take->aaA,map_drop->aaB,length_erase_of_mem->aaC,any_cons->aaD,pairwise_cons->aaE,countP_append->aaF,take_sublist->aaM,map_id'->aaN,lt_irrefl->aaO,take_append_drop->aaV,le_antisymm->aaX,mem_erase_of_ne->aa4,getElem?_modify->aa5,exists_mem_of_length_pos->aa6,foldl_cons->aa',find?_some->aba,flatMap_append->abe,filterMap_cons->abf,perm_ext_iff_of_nodup->abo,perm_append_singleton->abp,map_inj_right->abq,foldl_append->abD,ext_getElem?->abE,countP_congr->abF,nodup_range->abR,getElem?_replicate->abS,toArray->ab2,take_of_length_le->ab3,length_eq_one_iff->ab4,any_map->ab5,of_mem_zip->ab',forIn_cons->aca,countP_singleton->acd,countP_le_length->ace,mem_of_mem_drop->acn,getElem?_of_mem->aco,lt_trans->acy,zip_cons_cons->acD,getElem?_drop->acE,reverse_perm->acN,filter_congr->acO,mem_reverse->ac4,flatMap_def->ac5,singleton_perm_singleton->ada,range_succ->adg,all_append->adh,take_zero->adw,drop_eq_getElem_cons->adz,getElem?_take_of_lt->adD,all_cons->adE,pairwise_singleton->adM,length_eq_zero_iff->adN,getElem?_cons_succ->adO,range_succ_eq_map->adU,map_nil->adV,all_map->adW,perm_append_comm->aea,mem_iff_getElem?->aeb,pairwise_append->aee,replicate_succ->aeq,filter_eq_self->aer,map_mergeSort->aez,getElem?_take->aeA,findIdx?_cons->aeB,filter_append->aeC,find?_append->aeV,range'_succ->ae2,map_reverse->ae3,map_flatMap->ae4,flatMap_map->ae5,ext_getElem->ae6,drop_length->ae7,length_zip->afi,find?_map->afo,take_nil->afG,drop_nil->afH,zip_map->afT,map_id->agf,foldl->agF
open PySem renaming Value->dk,sizeLine->eu,wpAny_bind->ey,Addr->eH,Shared->eK,Str->eT,wpAny_pure->gi,Expr->hQ,FuncData->hU,wpAny->ka,mainGlobals->kx,model->k7,Program->lq,starEach->ma,tupleKeyHash->nL,compareOp->o5,Around->pk,Heap->pq,World->qh,IsTupleKey->ro,wpAny_holding->sj,cLine->vv,assignEach->wd,behindInMarks->wy,foldedSetIterable->xn,Pos->z5,SetTable->z9,Obj->C1,wpAny_mono->Dt,backTo->Hz,swapsWith->H9,sizeLine_eq->KX,wpAny_truthy_bool->T',sysModules->XP,bootBuiltins->ZL,wpAny_call_entry->ZP,Stmt->ZZ,codeAny_builtin->Z2,attributeBase->Z',Scope->aaf,wpAny_typeNameOfWhole_keyiter->aai,holding->aaj,wpAny_passesOwn->aan,wpAny_setState_of->aar,wpAny_pyIter_list->aas,mem_of_lookup->aau,Paired->aaz,wpAny_typeNameOf_keyiter->aaK,binaryOp->aaL,tupleKind_room_in1->aaP,assign->aaQ,wpAny_loadPart_at->aaY,Builtin->aa1,wpAny_eqBool_str->abb,DictEntry->abd,sliceBounds->abj,boot_len->abk,wpAny_execs_nil->abr,codeAny_mono->aby,codeAny->abz,wpAny_Call_Name_kw->abK,typeLookup->abL,pyNext->abM,wpAny_newObj_type->abY,wpAny_dictEntries->abZ,swapsWithSole->ab6,swappedStores->ab7,wpAny_callSpecial?_slot->acf,GenState->ach,call_meets->acq,shortFactorBits->acu,letOwnedTupleGo->acv,codeAny_call_builtin->acF,carriedByValue->acG,NameKind->acH,tupleKind->acJ,lastMarks->acK,PassesOwn->acL,Keyword->acM,wpAny_standAt->acY,plainId_quiet->acZ,ExceptHandler->ac2,standAt->adi,slot_list_getitem->adj,relabel->adk,ofAClassStatement->adl,Result->adx,subscripted->adA,keywordEach->adB,CmpOp->adC,wpAny_dictEpoch->adG,getItem->adQ,wpAny_seqItems->adY,isTrue->adZ,bindArgs->ad0,wpAny_newList->aeh,wpAny_getItem_list_slice->aei,wpAny_comprehension_free->aej,evalPart_none->aek,bindL->aev,bindC->aew,wpAny_typeOf->aeE,valueAt->aeF,setItem->aeG,seqIndex_neg->aeH,rawInt->aeI,merged->aeJ,callerA->aeK,ExcBaseFacts->aeR,BindsTo->aeS,wpAny_notOrdered_dict->aeW,wpAny_isSame_ref_self->aeX,wpAny_isOneOf_keyiter->aeY,wpAny_eqIsQuiet_tuple->aeZ,wpAny_pyIter_keyiter->ae9,seqIndex_of->ae',getAttr?->afa,backToKw->afb,atKey->afc,wpAny_eqBool_tuple->afs,wpAny_call->aft,wpAny_Name->afu,typeIs_int->afv,truthy->afw,pyIter->afx,getattributeRaised->afy,builtinsNs->afz,wpAny_storeSet_of->afJ,wpAny_assign_Name->afK,searchCouldBeSeen->afL,wpAny_pyIter_zip->afU,wpAny_forIn_list->afV,wpAny_execs_cons->afW,wpAny_eqBool_int->afX,wpAny_Dict_empty->afY,scanBound->afZ,checkBuiltinCall->af1,cellsFrom->af2,wpAny_specialOf->agh,wpAny_setField->agK,wpAny_fieldsOf->agL,setRelay->agM,wpAny_attempt->agW,setSearchFrom->agX,evalPart_some->agY,call_list_seq->agZ
open Nat renaming le_refl->ft,ne_of_lt->ia,lt_of_lt_of_le->lF,zero_le->pe,le_trans->px,mod_eq_of_lt->se,le_of_lt_succ->t9,lt_irrefl->zd,mod_lt->zR,not_lt_zero->Dl,lt_of_le_of_lt->NN,zero_add->ZE,lt_trans->aav,lt_succ_self->aaw,le_add_right->aax,mod_self->aaU,le_succ->aa9,add_sub_cancel'->abi,succ_pos->abl,lt_trichotomy->abI,lt_succ_of_lt->abJ,le_of_lt->ab9,ne_of_gt->acW,add_mod_right->acX,sub_self->ad8,div_div_eq_div_mul->ad9,add_comm->ad',div_eq_of_lt->afh,pow_zero->agc,pow_succ->agd,le_of_eq->age,log2_lt->agC,le_zero->agD,div_one->agE,not_lt->agV
open PySem.Heap renaming get?_push_of_some->fA,lt_size->gD,get?_push_size->lD,get?_update_other->aad,SameBut->aae,get?_update_self->acb,size_push->acm,size_update->ac1,get?_push_ne->aeQ
open Option renaming some->ac,none->am,map_eq_some_iff->gj,bind_some->pR,map_some->P2,isSome_iff_exists->ZW,isSome_map->acC
open PySem.W renaming Frag->gW,kitOne->o4,mg_none_of->r6,nsIn->zI,mg_of->Z1,kitAny->aaH,kia_one->aa8,keepIn->abA,findIn->abB,hideAll_get->abT,KatTups->ab8,mroIn->acB,fnOf->acR,exmOne->ac6,excIn->ac7,kas_rev->adm,looks_findIn->adH,hideAll_none->adI,of_hideAll->ael,clsIn->aem,methodObj->aeL,kitx_none->aeM,OpenLaw->ae0,kat_cons->afd,Looks->afl,hideAll->afA,funFrames_hide->afB,cellsFrom_some->afC,kat_no->af3,kat_lt->af4,kas_sort->af5,codeIn->af6,looks_mroIn->agi,callWith_K->agO
open Bool renaming true->bi,false->bv,and_eq_true->hF,eq_iff_iff->nF,and_eq_true_iff->n7,false_eq_true->o3,eq_false_iff->qo,not_eq_true'->t8,false_ne_true->xr,false_or->O1,not_eq_true->Z9,not_eq_false'->aaG,true_and->aa2,or_eq_false_iff->acp,not_true->acz,not_not->acP,and_true->adF,false_and->afq,and_false->afr
open Array renaming getElem?_toList->hH,getElem?_eq_getElem->me,length_toList->nT,getD_eq_getD_getElem?->p6,getElem?_eq_some_iff->Cs,size_map->Z5,toList_append->aay,mem_toList_iff->aa3,toList_filterMap->abX,all_eq_true'->acA,replicate->adb,perm_iff_toList_perm->ads,getElem?_eq_none->adP,getElem?_map->aes,forIn_toList->aet,append_assoc->aeu,toList_push->aeD,toList->afI,map->agJ
open PySem.Str renaming ofString->lT,cps_append->aaR,empty->aaZ,join->aen
open Sum renaming inr->pl,inl->acQ
open PySem.Value renaming ref->rm,none->tm,bool->P',str->ZR,builtin->aaW,int->abh,type->adn,isStrOf->afm,isInt->afM
open PySem.SeqAt renaming canLay_of_shaped->sT,readOf->abc,shaped->adK
open PyProof.Rows.F renaming plain_set_update_loop->ti,entry_set_update_loop->LS
open PySem.Builtin.Int renaming intBits->tj,intTooBig->adf
open PySem.PyData renaming strOk->y1,eqv->aab,canLay0->aam,canLayAll0->abt,depthAll->ac0,eqvAll->afe
open List.Pairwise renaming sublist->y3,nil->aa7,imp_of_mem->acI
open PySem.Builtin.Str renaming occurrences->LK
open Int renaming eq_ofNat_of_zero_le->Rr,emod_lt_of_pos->aag,emod_nonneg->abg,toNat_natCast->ae8,le_antisymm->afp,ofNat_lt->agg,le_refl->agI
open PySem.F renaming slot_dict_keyiterator_next->T2,called_set->YP,plainAttrs_list->abC,slot_dict_get->abV,typeOf_object_class->acr,excBase_ValueError->ac8,excAttr_ValueError->ac9,args_dict_keyiterator_next_1->adp,entry_dict_keyiterator_next->adt,args_dict_get_3->adu,entry_dict_get->ady,slot_list_reverse->adS,slot_tuple_index->ad2,slot_list_getattribute->ad3,slot_list_append->ad4,slot_list_index->aed,slot_dict_iter->afE,slot_int_rmul->afP,slot_dict_len->afQ,slot_gs_get->agl
open False renaming elim->ZG
open Classical renaming byContradiction->ZI,propDecidable->Z0,not_imp->adX
open List.cons renaming injEq->ZK
open PySem.Around renaming under_plainId->ZS
open PySem.SetTable renaming insertAt->ZU,runEnd->aaI,toList_insertAt->abm,sizeAbove->abG,insertAt_perm->abH,Probe->abN,turns->acg,bits->acT,leap->ado,sameMemory->adJ,fill->aeN
open PyProof.Rows renaming callWith_type1->aaa,envOfC->aaJ,seqObj->aaT,kindOf->abw,IsTup->abx,room_in_shaped->abO,StrsAre->ab1,AllBare->acs,entry_list_sort->adL,IntsAre->adT,slot_list_sort->ad5,args_list_sort->ad6,Subscript_->ad7,subscriptTail->aeo,strKind_oneLt->aep,subscriptTail_builtinR->aeT,keyKind_strs->aeU,arrOf->afg,keyLt'->afF,list_sort_treeK->agz,get?_update_seq->agA,callWith_builtin1->agB,tail_any->agS,sortedHeap_old->agT,sortedHeap_at->ag3,sortedAll_old->ag4,listUpdate_at->ag5
open PySem.SetTable.layClean renaming free->aac
open True renaming intro->aao
open PySem.Heap.SameBut renaming update->aaS
open PySem.Obj renaming mapSeq->aa0,putSet->abu,data_mapFields->aeO,mapFields->afN
open PySem.NameKind renaming free->abn,cell->aeP
open PySem.Calls renaming call_function_entry->abv,callWith_builtin->abW,evalArgs_plain->aci,spliced_cons->acx,Name_function_global->adq,spliced_nil->aey
open Or renaming inr->abP,inl->abQ
open PySem.Txt renaming join->abU
open PySem.Builtin.Dict_items renaming ownsTuple->ab0
open Option.some renaming injEq->acj
open List.Perm renaming cons_inv->ack,of_eq->aef
open List.Nodup renaming length_le_of_subset->acw
open PySem.W.Looks renaming of_pure->acS,ld->afD
open PySem.Builtin.Dict renaming updateFrom->acV,pairItems->ac3,showsAll->ac',selfAndRest->agv,pendingCount->agw,dictSlotNone->agx,addKeywords->agy
open PySem.Heap.IsSliceOf renaming new->ade
open Prod renaming ext->adv,snd->afn
open PySem.Heap.DictOf renaming new->adR
open PySem.Spec renaming same->ad1
open PySem.PassesOwn renaming never->aec
open ForInStep renaming yield->aeg
open PySem.Code renaming quiet_builtin->aex
open Prod.mk renaming injEq->ae1
open PySem.Builtin.Frozenset renaming updateFrom->aff
open Std.Legacy.Range renaming size->afj,forIn_eq_forIn_range'->afk
open PySem.Heap.UpToSlots renaming of_keeps->afO
open PySem.CmpOp renaming NotIn->afR,In->agR
open PyProof.Rows.SortSt renaming mk'->afS
open PySem.EqMixed renaming eq_str_int->af8,eq_str_bool->af9,eq_int_str->af',eq_bool_str->aga
open PySem.Builtin.Range renaming rangeSize->agb
open PySem.W.WData renaming int->agj
open PySem.SeqAt.RcNeAt renaming lists_lengths->agk
open PySem.EqNone renaming eq_str_none->agm,eq_none_str->agn,eq_none_none->ago,eq_none_int->agp,eq_none_bool->agq,eq_int_none->agr,eq_bool_none->ags
open PySem.Builtin.List renaming listTooLong->agt,listFitsIndex->agu
open List.Sublist renaming map->agG,filter->agH
open PySem.SeqAt.RcAt renaming lists_lengths->ag0
open PySem.SeqAt.EqAt renaming str_int->ag1,int_str->ag2
open And renaming intro->ag6
open PySem PySem.Spec PyProof.Rows
noncomputable section
theorem ι{a b:Prop}(h:a):a\/b:=.inl h
theorem τ{a b:Prop}(h:b):a\/b:=.inr h
theorem ρ{a:Sort u}{b:a}:b=b:=rfl
namespace L2
def nO (h:am=ac a):P:=by cases h
def sO (h:ac a=ac c):a=c:=by cases h;rfl
def sP (h:ac (a,b)=ac (c,d)):a=c/\b=d:=by cases h;exact⟨ρ,ρ⟩
inductive OB {α β γ:Type}(o:Option (α×β)) (g:α×β->Option γ) (r:γ):Prop
 | mk (a:α) (b:β) (e:o=ac (a,b)) (h:g (a,b)=ac r)
inductive OA {α γ:Type}(o:Option α) (g:α->Option γ) (r:γ):Prop
 | mk (a:α) (e:o=ac a) (h:g a=ac r)
theorem oB (h:o.bind g=ac r):OB o g r:=by
 cases o with
 | none=>cases h
 | some p=>exact⟨p.1,p.2,ρ,h⟩
theorem oA (h:o.bind g=ac r):OA o g r:=by
 cases o with
 | none=>cases h
 | some p=>exact⟨p,ρ,h⟩
theorem oM (h:o.map g=ac r):OA o (λx=>ac<|g x) r:=by
 cases o with
 | none=>cases h
 | some p=>exact⟨p,ρ,h⟩
theorem oN (h:o.map g=ac r):OB o (λx=>ac<|g x) r:=by
 cases o with
 | none=>cases h
 | some p=>exact⟨p.1,p.2,ρ,h⟩
abbrev Key:=Sum Int eT
noncomputable def j5:Key->dk->Bool
 | .inl k,v=>afM k v
 | .inr x,v=>afm x v
noncomputable def OQ(w:qh):Key->Int
 | .inl k=>hashInt k
 | .inr x=>hashStr w x
theorem jC:∀{k:Key}{v:dk},j5 k v=bi->(∃i t,k=acQ i/\v=abh i t)\/(∃x t,k=pl x/\v=ZR x t)
 | .inl i,v,h=>by obtain⟨t,e⟩:=Value.isInt_shape h;exact ι ⟨i,t,ρ,e⟩
 | .inr x,v,h=>by obtain⟨t,e⟩:=Value.isStrOf_shape h;exact τ ⟨x,t,ρ,e⟩
def J6(i)(t):j5 (.inl i) (.int i t)=bi:=by simp[j5,afM]
def Fn(x)(t):j5 (.inr x) (.str x t)=bi:=by simp[j5,afm]
def JS(a b):bd ((acQ a:Key)=acQ b)=(a==b):=by grind
def IY(a b):bd ((pl a:Key)=pl b)=bd (a=b):=⋯
def Ka(a)(b):bd ((acQ a:Key)=pl b)=bv:=decide_eq_false<|λq=>nomatch q
def Tb(a)(b):bd ((pl a:Key)=acQ b)=bv:=decide_eq_false<|λq=>nomatch q
def cJ(prog)(w):PySem.KeyKind prog w Key where
 is:=j5
 hash:=OQ w
 inj:=λv a b f d=>by
  rcases jC f with⟨i,t,rfl,rfl⟩|⟨x,t,rfl,rfl⟩
  ·rcases jC d with⟨j,u,rfl,e⟩|⟨y,u,rfl,e⟩;simp_all;simp_all
  rcases jC d with⟨j,u,rfl,e⟩|⟨y,u,rfl,e⟩;simp_all;simp_all
 byValue:=λk v h=>by rcases jC h with⟨i,t,rfl,rfl⟩|⟨x,t,rfl,rfl⟩<;>rfl
 pyHash:=λc h=>by
  rcases jC c with⟨i,t,rfl,rfl⟩|⟨x,t,rfl,rfl⟩
  ·exact wpAny_pyHash_int h
  exact wpAny_pyHash_str h
 eqBool:=λg c h=>by
  rcases jC g with⟨i,t,rfl,rfl⟩|⟨x,t,rfl,rfl⟩
  ·rcases jC c with⟨j,u,rfl,rfl⟩|⟨y,u,rfl,rfl⟩
   ·rw[JS] at h;exact afX h
   rw[Ka] at h;exact ag2 i t y u _ _ _ _ h
  rcases jC c with⟨j,u,rfl,rfl⟩|⟨y,u,rfl,rfl⟩
  ·rw[Tb] at h;exact ag1 x t j u _ _ _ _ h
  rw[IY] at h;exact abb h
 «strs»:=λk x t v h=>by rcases jC h with⟨i,u,rfl,e⟩|⟨y,u,rfl,e⟩;simp_all;injection e with l _;subst l;cases v<;>rfl
inductive V where
 | aF|bl (b:Bool)|int (i:Int)|str (x:eT)|jy (b:Array UInt8)|xD (b:UInt64)|ref (a:eH)|ty (n:String)
 deriving DecidableEq
def RelV:V->dk->Prop
 | .aF,u=>u=tm
 | .bl b,u=>u=P' b
 | .int i,u=>∃t,u=abh i t
 | .str x,u=>∃t,u=ZR x t
 | .jy b,u=>∃t,u=Value.bytes b t
 | .xD b,u=>∃t,u=Value.float b t
 | .ref a,u=>u=rm a
 | .ty n,u=>u=adn n
abbrev aJ:List V->List dk->Prop:=aaz RelV
def aJ.length (r:aJ xs us):xs.length=us.length:=Paired.length r
theorem aJ.get{xs:List V}{us:List dk}{i:Nat}{x:V}(h:aJ xs us)(e:xs[i]?=ac x):∃u,us[i]?=ac u/\RelV x u:=by
 induction h generalizing i with
 | nil=>simp at e
 | cons r _ a =>
  cases i with
  | zero=>simp at e;subst e;exact⟨_,ρ,r⟩
  | succ i=>exact a (i:=i) (by simpa using e)
theorem aJ.set (r:RelV x u):∀{xs:List V}{us:List dk}(i:Nat),aJ xs us->aJ (xs.set i x) (us.set i u)
 | _,_,_,.nil=>.nil
 | _,_,0,.cons _ t=>.cons r t
 | _,_,i+1,.cons q t=>.cons q<|aJ.set r i t
theorem aJ.append (h:aJ xs us)(s:aJ ys a):aJ (xs++ys) (us++a):=by
 induction h with
 | nil=>exact s
 | cons r _ b=>exact .cons r b
theorem aJ.take:∀{xs:List V}{us:List dk}(n:Nat),aJ xs us->aJ (xs.take n) (us.take n)
 | _,_,0,_=>.nil
 | _,_,_+1,.nil=>.nil
 | _,_,n+1,.cons r t=>.cons r<|aJ.take n t
theorem aJ.drop:∀{xs:List V}{us:List dk}(n:Nat),aJ xs us->aJ (xs.drop n) (us.drop n)
 | _,_,0,r=>r
 | _,_,_+1,.nil=>.nil
 | _,_,n+1,.cons _ t=>aJ.drop n t
def iN:Option V->Option dk->Prop
 | some v,ac u=>RelV v u
 | none,am=>True
 | _,_=>False
def KV:List (a×V)->List (a×dk)->Prop:=aaz λ(p:a×V) (q:a×dk)=>p.1=q.1/\RelV p.2 q.2
noncomputable def kV:Key->V
 | .inl i=>.int i
 | .inr x=>.str x
inductive HO where
 /-- a list -/
 | L (xs:List V)
 /-- a tuple (never changes) -/
 | U (xs:List V)
 /-- a dict whose keys are ints and texts;one whose keys are tuples of ints and texts (the empty one is both) -/
 | dK (kvs:List (Key×V))|dT (kvs:List (List Key×V))
 /-- a set of ints: its members,its size -/
 | set (S:Int->Bool) (n:Nat)
 /-- an instance of the class at C,its dict at dx,its attributes -/
 | ins (C dx:eH) (fs:List (eT×V))
 /-- the dict of the instance at x -/
 | O (x:eH)
 /-- the dict of an exception -/
 | xd (fs:List (eT×V))
 /-- a bound method,f of x -/
 | met (f x:eH)
 /-- a range object lo,lo+1,.. below hi -/
 | rM (lo hi:Int)
 /-- a thing that is known to the object (the script;a dict while a loop walks it): read,never written while it is so -/
 | bB (o:C1) (u:HO)
 /-- a code object's table -/
 | lx (ps:Array dk)
 /-- any other thing,by what is true of its one object (a def of one's own: SetO a S n:=HO.ext fun h=>..) -/
 | ext (φ:pq->Prop)
abbrev Hp:=eH->Option HO
noncomputable def upd(H:Hp)(a:eH)(o:HO):Hp:=λb=>if b=a then ac o else H b
def aV:upd H a o a=ac o:=by unfold upd;rw[if_pos ρ]
def au (h:b≠a):upd H a o b=H b:=by simp_all [upd]
def NV:upd (upd H a o) a u=upd H a u:=by funext b;simp_all [upd]
def Vl{H:Hp}{a b:eH}{o u:HO}(h:H a=ac o)(h':H b=ac u)(d:o≠u):a≠b:=by grind
def dH{H:Hp}{a b:eH}{o:HO}(h:H a=ac o)(h':H b=am):a≠b:=by lia
section
variable(P:lq)(w:qh)
def cB(H:Hp)(h:pq)(a:eH):HO->Prop
 | .L xs=>xs.length<=eu/\∃(its:List dk) (n:Nat),aJ xs its/\h.get? a=ac {cls:=.type "list",data:=.seq its.toArray n}
 | .U xs=>xs.length<=eu/\∃its:List dk,aJ xs its/\abx h a its.toArray
 | .dK kvs=>kvs.length<=eu/\(a==XP)=bv/\∃vs,KV kvs vs/\h.DictOf (cJ P w) a vs
 | .dT kvs=>kvs.length<=eu/\(a==XP)=bv/\∃xs:List (List Key×eH×dk),
   aaz (λ(p:List Key×V) (q:List Key×eH×dk)=>p.1=q.1/\H q.2.1=ac (.U<|p.1.map kV)/\RelV p.2 q.2.2) kvs xs /\
   ∃o e ep,h.get? a=ac o/\o.ExactDict/\o.data=.dict e ep/\e.toList=xs.map (entryOfKey<|acJ<|cJ P w)/\(xs.map (·.1)).Nodup
 | .set S n=>h.SetOf (intKind P w) a S n
 | .ins C c fs=>H c=ac (.O a)/\fs.length<=1000/\c≠a/\h.get? a=ac (W.instObj C c) /\
   ∃b,h.Ns1 c b/\(∀f,iN (fs.lookup f)<|b f)/\PySem.Within b (fs.map (·.1))
 | .O _=>∃o,h.get? a=ac o
 | .xd fs=>∃b,h.Ns1 a b/\∀f,iN (fs.lookup f) (b f)
 | .rM lo j=>∃t u v,h.get? a=ac {cls:=.type "range",data:=.fields #[.int lo t,.int j u,.int 1 v]}
 | .bB o u=>h.get? a=ac o/\cB H h a u
 | .lx k=>h.get? a=ac {cls:=.none,data:=.fields k}
 | .met f x=>h.get? a=ac (aeL (.ref f)<|.ref x)
 | .ext d=>d h/\(∃o,h.get? a=ac o)/\∀g i:pq,d g->(∀o,g.get? a=ac o->i.get? a=ac o)->d i
def cp(H:Hp)(h:pq):Prop:=∀a o,H a=ac o->cB P w H h a o
end
section
variable{P:lq}{w:qh}{H H':Hp}{h h':pq}{a:eH}{o:HO}{x e:eH}{o':HO}
theorem cB.lt(x:cB P w H h a o):a<h.objs.size:=by
 cases o with
 | L xs=>obtain⟨_,_,_,_,e⟩:=x;exact gD e
 | U xs=>obtain⟨_,_,_,p⟩:=x;exact p.lt
 | dK kvs=>obtain⟨_,_,_,_,o,_,_,e,_⟩:=x;exact gD e
 | dT kvs=>obtain⟨_,_,_,_,o,_,_,e,_⟩:=x;exact gD e
 | set S n=>obtain⟨o,_,_,_,e,_⟩:=x;exact gD e
 | ins C dx fs=>obtain⟨_,_,_,e,_⟩:=x;exact gD e
 | O y=>obtain⟨_,e⟩:=x;exact gD e
 | xd fs=>obtain⟨_,⟨_,_,_,e,_⟩,_⟩:=x;exact gD e
 | rM lo hi=>obtain⟨_,_,_,e⟩:=x;exact gD e
 | bB ob u=>obtain⟨e,_⟩:=x;exact gD e
 | lx ps=>exact gD (x)
 | met f y=>exact gD (x)
 | ext φ=>obtain⟨_,⟨_,e⟩,_⟩:=x;exact gD e
theorem Paired.qP (p:aaz F c d)(f:∀a b,F a b->G a b):aaz G c d:=by
 induction p with
 | nil=>exact .nil
 | cons r _ j=>exact .cons (f _ _ r) j
theorem cB.gw(x:cB P w H h a o)(k:∀b u,(b=a\/H b=ac (.O a))->h.get? b=ac u->h'.get? b=ac u)
 (ho:∀b,H b=ac (.O a)->H' b=ac (.O a))(m:∀b xs,H b=ac (.U xs)->H' b=ac (.U xs)):cB P w H' h' a o:=by
 induction o with
 | L xs=>obtain⟨z,its,n,r,e⟩:=x;exact⟨z,its,n,r,k _ _ (ι ρ) e⟩
 | U xs=>obtain⟨z,its,r,ob,e,c⟩:=x;exact⟨z,its,r,ob,k _ _ (ι ρ) e,c⟩
 | dK kvs=>obtain⟨z,y,vs,r,ob,g,ep,e,c⟩:=x;exact⟨z,y,vs,r,ob,g,ep,k _ _ (ι ρ) e,c⟩
 | dT kvs=>obtain⟨z,y,xs,r,ob,g,ep,e,c⟩:=x;exact⟨z,y,xs,Paired.qP r λp q z=>⟨z.1,m _ _ z.2.1,z.2.2⟩,ob,g,ep,k _ _ (ι ρ) e,c⟩
 | set S n=>obtain⟨ob,g,ep,t,e,c⟩:=x;exact⟨ob,g,ep,t,k _ _ (ι ρ) e,c⟩
 | ins C dx fs=>obtain⟨d,z,ne,e,i,⟨j,g,ep,s,c⟩,r⟩:=x;exact⟨ho _ d,z,ne,k _ _ (ι ρ) e,i,⟨j,g,ep,k _ _ (τ d) s,c⟩,r⟩
 | O y=>obtain⟨ob,e⟩:=x;exact⟨ob,k _ _ (ι ρ) e⟩
 | xd fs=>obtain⟨i,⟨j,g,ep,e,c⟩,r⟩:=x;exact⟨i,⟨j,g,ep,k _ _ (ι ρ) e,c⟩,r⟩
 | rM lo hi=>obtain⟨t,u,v,e⟩:=x;exact⟨t,u,v,k _ _ (ι ρ) e⟩
 | bB ob u A=>obtain⟨e,q⟩:=x;exact⟨k _ _ (ι ρ) e,A q⟩
 | lx l=>have e:=x;exact k a _ (ι ρ) e
 | met f y=>have e:=x;exact k a _ (ι ρ) e
 | ext φ=>obtain⟨p,⟨o,e⟩,st⟩:=x;exact⟨st _ _ p λo q=>k _ _ (ι ρ) q,⟨o,k _ _ (ι ρ) e⟩,st⟩
def cp.lt(x:cp P w H h)(e:H a=ac o):a<h.objs.size:=(x a o e).lt
theorem cp.fresh(x:cp P w H h)(e:h.objs.size<=a):H a=am:=by
 cases q:H a with
 | none=>rfl
 | some u=>exact absurd (lF (x.lt q) e)<|zd _
def cp.kept(x:cp P w H h)(k:∀b u,h.get? b=ac u->h'.get? b=ac u):cp P w H h':=λa o e =>
 (x a o e).gw (λb u _ q=>k b u q) (λ_ q=>q) λ_ _ q=>q
def cp.laid(x:cp P w H h)(k:∀b u,h.get? b=ac u->h'.get? b=ac u)(i:h.objs.size<=a)(d:cB P w (upd H a o) h' a o):cp P w (upd H a o) h':=λb u e=>by
 have f:=x.fresh i;by_cases g:b=a
 ·subst g;rw[aV] at e;obtain rfl:=sO e;exact d
 rw[au g] at e;exact (x b u e).gw (λc v _ q=>k c v q) (λc q=>by rw[au (dH q f)];exact q) λc xs q=>by rw[au (dH q f)];exact q
def Rd(H:Hp)(a:eH)(u:HO):Prop:=H a=ac u\/∃o,H a=ac (.bB o u)
def Rd.of (h:H a=ac u):Rd H a u:=ι h
def Rd.ok (r:Rd H a u)(x:cp P w H h):cB P w H h a u:=by
 rcases r with r|⟨o,r⟩
 ·exact x a u r
 obtain⟨_,q⟩:=x a _ r;exact q
def pY:Option HO->Prop
 | some (.L _)=>True
 | some (.dK _)=>True
 | some (.dT _)=>True
 | some (.set _ _)=>True
 | some (.ins _ _ _)=>True
 | some (.ext _)=>True
 | _=>False
def cp.write(ok:cp P w H h)(f:pY (H x))(p:e=x\/H e=ac (.O x))(k:∀b u,b≠e->h.get? b=ac u->h'.get? b=ac u)(l:∃u,h'.get? e=ac u)
 (m:cB P w (upd H x o') h' x o'):cp P w (upd H x o') h':=λb u q=>by
 have g:∀c y,H c=ac (.O y)->c≠x:=λc y r z=>by subst z;rwa[r] at f
 have i:∀c xs,H c=ac (.U xs)->c≠x:=λc xs r z=>by subst z;rwa[r] at f
 by_cases j:b=x
 ·subst j;rw[aV] at q;obtain rfl:=sO q;exact m
 rw[au j] at q;by_cases d:b=e
 ·have n:H b=ac (.O x):=by
   rcases p with z|z
   ·exact absurd (d.trans z) j
   rwa[d]
  rw[q] at n;obtain rfl:=sO n;obtain⟨v,s⟩:=l;exact⟨v,by rw[d];exact s⟩
 refine (ok b u q).gw (λc v hc r=>k c v ?_ r) (λc r=>by rw[au (g c b r)];exact r) λc xs r=>by rw[au (i c xs r)];exact r
 grind
end
structure Un (fs ex:List eH) (H H':Hp) (h h':pq):Prop where
 keep:∀b o,h.get? b=ac o->H b=am->b∉fs->b∉ex->h'.get? b=ac o
 slot:∀b o,h.get? b=ac o->H b=am->b∈fs->b∉ex->∃sl,h'.get? b=ac {o with slots:=sl}
 free:∀b o,h.get? b=ac o->H b=am->b∉ex->H' b=am
 there:∀b o,h.get? b=ac o->b∉ex->∃o',h'.get? b=ac o'
 iz:∀b xs,H b=ac (.U xs)->H' b=ac (.U xs)
 gN:∀b o u,H b=ac (.bB o u)->H' b=ac (.bB o u)
 iu:∀b ps,H b=ac (.lx ps)->∃more,H' b=ac (.lx<|ps++more)
section
variable{fs fs' ex ex':List eH}{H H1 H2:Hp}{h h1 h2 h':pq}{a x e:eH}{o:HO}
def Un.any(u:Un fs ex H H1 h h1)(q:h.get? b=ac ob)(n:H b=am)(c:b∉ex):∃sl,h1.get? b=ac {ob with slots:=sl}:=by
 by_cases d:b∈fs
 ·exact u.slot b ob q n d c
 exact⟨ob.slots,u.keep b ob q n d c⟩
def Un.kept(k:∀b u,h.get? b=ac u->h'.get? b=ac u):Un fs ex H H h h' :=
 ⟨λb ob q _ _ _=>k b ob q,λb ob q _ _ _=>⟨ob.slots,k b ob q⟩,λ_ _ _ n _=>n,λb ob q _=>⟨ob,k b ob q⟩,λ_ _ q=>q,λ_ _ _ q=>q,λ_ ps q=>⟨#[],by rw[q];simp⟩⟩
def Un.refl:Un fs ex H H h h:=Un.kept λ_ _ q=>q
def Un.laid(k:∀b u,h.get? b=ac u->h'.get? b=ac u)(d:h.objs.size<=a)(c:H a=am):Un fs ex H (upd H a o) h h' where
 keep:=λb u q _ _ _=>k b u q
 slot:=λb u q _ _ _=>⟨u.slots,k b u q⟩
 free:=λb u q n _=>by rw[au (ia<|lF (gD q) d)];exact n
 there:=λb u q _=>⟨u,k b u q⟩
 iz:=λb xs q=>by rw[au (dH q c)];exact q
 gN:=λb u xs q=>by rw[au (dH q c)];exact q
 iu:=λb ps q=>⟨#[],by rw[au (dH q c),q];simp⟩
def Un.write(c:pY (H x))(he:e=x\/H e=ac (.O x))(k:∀b u,b≠e->h.get? b=ac u->h'.get? b=ac u)(heo:∃u,h'.get? e=ac u):Un fs ex H (upd H x o) h h':=by
 have g:∀b,H b=am->b≠x:=λb n z=>by subst z;rwa[n] at c
 have d:∀b,H b=am->b≠e:=by lia
 have hm:∀b u,H b=ac u->¬pY (ac u)->b≠x:=by lia
 refine⟨λb u q n _ _=>k b u (d b n) q,λb u q n _ _=>⟨u.slots,k b u (d b n) q⟩,λb u q n _=>by rw[au (g b n)];exact n,λb u q _=>?_,
  λb xs q=>by rw[au (hm b _ q λz=>z)];exact q,λb u xs q=>by rw[au (hm b _ q λz=>z)];exact q,λb ps q=>⟨#[],by rw[au (hm b _ q λz=>z),q];simp⟩⟩
 by_cases f:b=e;simp_all;exact⟨u,k b u f q⟩
end
noncomputable def gr(h:pq)(H:Hp):List Addr:=(hM h.objs.size).filter λa=>(H a).isSome
def kr(h:pq)(H:Hp):Heap:=afA h<|gr h H
theorem T8 (e:(kr h H).get? b=ac o):h.get? b=ac o/\H b=am:=by
 have a:=ael (gr h H) e;refine⟨a,?_⟩;cases q:H b with
 | none=>rfl
 | some x=>simp_all [gr,kr,gD,adI]
noncomputable def nA(g h:pq)(L:eH):List (eH×C1):=(hM h.objs.size).filterMap λa=>if a=L\/(g.get? a).isSome=bi then am else (h.get? a).map λo=>(a,o)
def yi (c:a≠L)(d:g.get? a=am)(b:h.get? a=ac o):(a,o)∈nA g h L :=
 ZJ.2 ⟨a,nk.2<|gD b,by simp[c,d,b]⟩
theorem U3 (a:p∈nA g h L):p.1≠L/\g.get? p.1=am/\h.get? p.1=ac p.2:=by
 obtain⟨b,_,e⟩:=ZJ.1 a;split at e
 ·exact nO e
 cases q:h.get? b with
 | none=>simp_all
 | some u=>rw[q] at e;simp at e;subst e;simp_all
def D3:News g L h (nA g h L):=λp d=>let ⟨a,b,c⟩:=U3 d;⟨c,a,b⟩
structure Mod (K:gW) (mg:eT->Option dk) (base:pq):Prop where
 qV:K.In base
 glob:base.Ns kx mg
 blt:∃mb,base.Ns afz mb/\∀x:eT,x≠"__name__"->mb x=ZL x
 nolimit:base.NoLimit
structure Cx where
 prog:lq
 w:qh
 K:gW
 mg:eT->Option dk
 base:pq
 A:pk
 N:List eT
 cR:eK
 sA:Hp
 env:Env
 outer:List Env
 stack:List Env
 ex:List eH
 fn:eT->Bool
 calm:Bool
 pn:List (eH×C1)
 xe:dk->eK->Prop
noncomputable def dm(l:List Env):List Addr:=l.filterMap (·.frame)
abbrev bA(x:eT):Prop:=(x==("__debug__":eT))=bv
abbrev cG(x:eT):Prop:=(x==("__classdict__":eT))=bv
abbrev bC(X:Cx)(e:hQ)(a:List hQ):Prop:=ma (e::a) X.env=(false,eval e X.env)::ma a X.env
abbrev qz(X:Cx)(p:z5)(e:hQ):Prop:=((Hz p<|ma [e] X.env).all (λx=>!x.1)&&(afb p<|adB [] X.env).all (λx=>x.1.isSome)&&bd ([e].length+([]:List acM).length+(if ([]:List acM).isEmpty then 0 else 1)<30))=bi
abbrev Cx.fs(X:Cx):List Addr:=dm X.outer
def cc(a:aaf)(x:eT):Prop:=a.names.lookup x=some .local\/a.names.lookup x=some .cell\/a.names.lookup x=some .free
def Loc(a:aaf)(x:eT):Prop:=a.names.lookup x=some .local\/a.names.lookup x=some .cell
def Look(env:Env)(h:pq)(m:eT->Option dk)(x:eT)(u:dk):Prop :=
 (env.kindOf x=some .local/\m x=ac u)\/((env.kindOf x=some .cell\/env.kindOf x=some .free)/\∃c,env.cells.lookup x=ac c/\h.IsCell c (ac u))
structure Cx.Ok (X:Cx):Prop where
 mod:Mod X.K X.mg X.base
 kind:X.env.scope.kind=.function
 glob:X.env.globals=kx
 blt:X.env.builtins=afz
 above:X.cR.heap.objs.size<=X.env.locals
 inj:∀x y c,X.env.cells.lookup x=ac c->X.env.cells.lookup y=ac c->x=y
 has:∀x,(X.env.kindOf x=some .cell\/X.env.kindOf x=some .free)->∃c,X.env.cells.lookup x=ac c
 kO:∀x c,X.fn x=bi->X.env.cells.lookup x=ac c->X.cR.heap.objs.size<=c
 hd:X.calm=bi->X.A.handled=am
 frames:X.A.frames=ac X.stack
 j0:X.stack=X.outer\/(X.stack=X.env::X.outer/\X.env.frame=ac X.env.locals)
 rb:∀b∈X.ex,b≠X.env.locals/\∀x c,X.env.cells.lookup x=ac c->c≠b
 bs:∀b o,X.base.get? b=ac o->X.cR.heap.get? b=ac o/\X.sA b=am
 je:X.base.objs.size<=X.cR.heap.objs.size
 lQ:∀b o,X.base.get? b=ac o->b∉X.ex
 nG:∀b∈X.ex,b∉X.fs
 gR:X.cR.heap.FunFrames X.base X.outer
 kF:∀b∈X.fs,X.sA b=am
structure Inv (X:Cx) (pins:List (eH×C1)) (σ:List (Option V)) (H:Hp) (s:eK):Prop where
 ok:X.Ok
 os:s.os=X.cR.os
 bare:acs s.gens
 base:Un X.fs X.ex X.sA H X.cR.heap s.heap
 loc:∃m,s.heap.Ns X.env.locals m/\∀(i:Nat) (x:eT) (v:V),X.N[i]?=ac x->σ[i]?=ac (ac v)->cc X.env.scope x->∃u,RelV v u/\Look X.env s.heap m x u
 cell:∀x c,X.env.cells.lookup x=ac c->∃v,s.heap.IsCell c v
 free:H X.env.locals=am
 eS:∀x c,X.env.cells.lookup x=ac c->H c=am
 pin:∀p∈X.pn++pins,s.heap.get? p.1=ac p.2/\H p.1=am/\p.1≠X.env.locals/\p.1∉X.fs/\∀v,p.2.data≠.cell v
 aq:cp X.prog X.w H s.heap
 len:σ.length=X.N.length
section
variable{X:Cx}{pins:List (eH×C1)}{σ:List (Option V)}{H H':Hp}{s:eK}{h':pq}
def Cx.Ok.T3(ok:X.Ok)(e:X.base.get? b=ac o):b∉X.fs:=λa=>by have:=(ok.gR.mem a).1;simp_all
def Inv.bs(I:Inv X pins σ H s):∀b o,X.base.get? b=ac o->s.heap.get? b=ac o/\H b=am:=λb o e =>
 ⟨I.base.keep b o (I.ok.bs b o e).1 (I.ok.bs b o e).2 (I.ok.T3 e) (I.ok.lQ b o e),I.base.free b o (I.ok.bs b o e).1 (I.ok.bs b o e).2 (I.ok.lQ b o e)⟩
def Inv.bk(I:Inv X pins σ H s):∀b o,X.base.get? b=ac o->s.heap.get? b=ac o:=λb o e=>(I.bs b o e).1
def Inv.mod(I:Inv X pins σ H s):Mod X.K X.mg X.base:=I.ok.mod
def Inv.d9(I:Inv X pins σ H s):X.K.In s.heap:=I.ok.mod.qV.keeps I.bk
def Inv.lt(I:Inv X pins σ H s):X.env.locals<s.heap.objs.size:=let ⟨_,a,_⟩:=I.loc;a.lt
def Inv.sz(I:Inv X pins σ H s):X.cR.heap.objs.size<=s.heap.objs.size:=px I.ok.above<|ab9 I.lt
def Inv.MJ(I:Inv X pins σ H s)(h:s.heap.objs.size<=a):a∉X.fs:=λb=>by obtain⟨_,o,ho,_⟩:=I.ok.gR.mem b;exact absurd (lF (gD ho)<|px I.sz h)<|zd _
def Inv.gH(I:Inv X pins σ H s):∀x c,X.env.cells.lookup x=ac c->c≠X.env.locals:=λx c e z=>by obtain⟨v,o,ho,hd⟩:=I.cell x c e;obtain⟨m,⟨o',es,ep,ho',hd',_⟩,_⟩:=I.loc;simp_all
theorem Inv.gR(I:Inv X pins σ H s):s.heap.FunFrames X.base X.outer:=by
 have all:∀(l:List Env),(∀b∈dm l,b∈X.fs)->X.cR.heap.FunFrames X.base l->s.heap.FunFrames X.base l:=by
  intro l;induction l with
  | nil=>intro _ _;trivial
  | cons env r f=>intro hs hl;obtain⟨g,⟨L,o,a,h,ho,hd⟩,i⟩:=hl;have c:=hs L (by unfold dm;rw[abf,a];exact eN);obtain⟨sl,e⟩:=I.base.slot L o ho (I.ok.kF L c) c λz=>I.ok.nG L z c;exact⟨g,⟨L,_,a,h,e,hd⟩,f (λb d=>hs b (by unfold dm;rw[abf,a];exact fk _ d)) i⟩
 exact all X.outer (λ_ d=>d) I.ok.gR
def Inv.stack(I:Inv X pins σ H s):s.heap.FunFrames X.base X.stack:=by
 rcases I.ok.j0 with e|⟨e,a⟩
 ·rw[e];exact I.gR
 rw[e];obtain⟨m,b,_⟩:=I.loc;refine .cons (by rw[I.ok.kind];decide) a b ?_ I.gR;exact Heap.get?_none_of_le<|px I.ok.je I.ok.above
def Inv.qN(I:Inv X pins σ H s):∀b∈dm X.stack,b∈X.env.locals::X.fs:=λb a=>by
 rcases I.ok.j0 with e|⟨e,c⟩
 ·rw[e] at a;exact fk _ a
 rw[e] at a;delta dm at a;simp only[abf,c] at a;exact a
def Inv.zV(I:Inv X pins σ H s):∀b∈dm X.stack,H b=am:=λb a=>by
 rcases hO.1 (I.qN b a) with e|a
 ·rw[e];exact I.free
 obtain⟨_,o,ho,_⟩:=I.ok.gR.mem a;exact I.base.free b o ho (I.ok.kF b a) λz=>I.ok.nG b z a
def Inv.step{g':Array ach}{t':Nat}{d':Drawn}{ch:List eH}(I:Inv X pins σ H s)
 (g:∀b∈ch,(b∈X.ex\/X.cR.heap.objs.size<=b)/\b≠X.env.locals/\(∀x c,X.env.cells.lookup x=ac c->c≠b)/\∀p∈X.pn++pins,p.1≠b)
 (keep:∀b o,b≠X.env.locals->b∉X.fs->b∉ch->s.heap.get? b=ac o->H b=am->h'.get? b=ac o)
 (slot:∀b o,b≠X.env.locals->b∈X.fs->b∉ch->s.heap.get? b=ac o->H b=am->∃sl,h'.get? b=ac {o with slots:=sl})(free:∀b o,b∉ch->s.heap.get? b=ac o->H b=am->H' b=am)
 (there:∀b o,b∉ch->s.heap.get? b=ac o->∃A,h'.get? b=ac A)
 (iz:∀b xs,H b=ac (.U xs)->H' b=ac (.U xs))(gN:∀b o u,H b=ac (.bB o u)->H' b=ac (.bB o u))(iu:∀b C,H b=ac (.lx C)->∃more,H' b=ac (.lx<|C++more))
 (ns:∀m,s.heap.Ns X.env.locals m->h'.Ns X.env.locals m)(aq:cp X.prog X.w H' h')(J:acs g') :
  Inv X pins σ H' {s with heap:=h',gens:=g',drawn:=d',toks:=t'}:=by
 have D:∀b o,X.cR.heap.get? b=ac o->b≠X.env.locals:=λb o e=>ia<|lF (gD e) I.ok.above;have t:∀b o,X.cR.heap.get? b=ac o->b∉X.ex->b∉ch:=λb o e a j=>by
  rcases (g b j).1 with z|z
  ·exact a z
  exact absurd (lF (gD e) z)<|zd _
 have y:∀x c,X.env.cells.lookup x=ac c->∀v,s.heap.IsCell c v->h'.IsCell c v:=λx c e v ⟨o,ho,hd⟩=>by
  have h:c∉ch:=λz=>(g c z).2.2.1 x c e ρ;by_cases E:c∈X.fs
  ·obtain⟨sl,q⟩:=slot c o (I.gH x c e) E h ho<|I.eS x c e;exact⟨_,q,hd⟩
  exact⟨o,keep c o (I.gH x c e) E h ho<|I.eS x c e,hd⟩
 refine⟨I.ok,I.os,J,⟨λb o e n j a=>?_,λb o e n j a=>?_,λb o e n a=>?_,λb o e a=>?_,λb xs e=>iz b xs<|I.base.iz b xs e,λb o xs e=>gN b o xs<|I.base.gN b o xs e,λb C e=>?_⟩,?_,λx c e=>?_,?_,λx c e=>?_,λp F=>?_,aq,I.len⟩
 ·exact keep b o (D b o e) j (t b o e a) (I.base.keep b o e n j a)<|I.base.free b o e n a
 ·obtain⟨sl,f⟩:=I.base.slot b o e n j a;obtain⟨G,B⟩:=slot b _ (D b o e) j (t b o e a) f<|I.base.free b o e n a;exact⟨G,B⟩
 ·obtain⟨A,f⟩:=I.base.there b o e a;exact free b A (t b o e a) f<|I.base.free b o e n a
 ·obtain⟨A,f⟩:=I.base.there b o e a;exact there b A (t b o e a) f
 ·obtain⟨K,f⟩:=I.base.iu b C e;obtain⟨L,B⟩:=iu b _ f;exact⟨K++L,by rw[B,aeu]⟩
 ·obtain⟨m,M,hl⟩:=I.loc;refine⟨m,ns m M,λi x v f B N=>?_⟩;obtain⟨u,r,l⟩:=hl i x v f B N;refine⟨u,r,?_⟩;rcases l with l|⟨k,c,e,z⟩
  ·exact ι l
  exact τ ⟨k,c,e,y x c e _ z⟩
 ·obtain⟨v,z⟩:=I.cell x c e;exact⟨v,y x c e v z⟩
 ·obtain⟨m,⟨o,_,_,ho,_⟩,_⟩:=I.loc;exact free _ o (λz=>(g _ z).2.1 ρ) ho I.free
 ·obtain⟨v,o,ho,hd⟩:=I.cell x c e;exact free c o (λz=>(g c z).2.2.1 x c e ρ) ho<|I.eS x c e
 obtain⟨e,n,ne,nf,d⟩:=I.pin p F;have h:p.1∉ch:=λz=>(g p.1 z).2.2.2 p F ρ;exact⟨keep p.1 p.2 ne nf h e n,free p.1 p.2 h e n,ne,nf,d⟩
def Inv.un (I:Inv X pins σ H s)(u:Un X.fs [] H H' s.heap h')(aq:cp X.prog X.w H' h'):Inv X pins σ H' {s with heap:=h',toks:=t'}:=by
 obtain⟨m,⟨o,es,ep,ho,r⟩,_⟩:=id I.loc;obtain⟨sl,f⟩:=u.any ho I.free ⋯
 exact I.step (ch:=[]) (λ_ z=>nomatch z) (λb o _ c _ e n=>u.keep b o e n c ⋯) (λb o _ c _ e n=>u.slot b o e n c ⋯) (λb o _ e n=>u.free b o e n ⋯) (λb o _ e=>u.there b o e ⋯) u.iz u.gN u.iu (λm' hm=>by obtain⟨o',es',d,a,g⟩:=hm;rw[ho] at a;obtain rfl:=sO a;exact⟨_,es',d,f,g⟩) aq I.bare
def Inv.call (I:Inv X pins σ H s)(u:Un (dm X.stack) ch H H' s.heap h')(aq:cp X.prog X.w H' h')(i:acs g')(d:∀b∈ch,(b∈X.ex\/X.cR.heap.objs.size<=b)/\b≠X.env.locals/\(∀x c,X.env.cells.lookup x=ac c->c≠b)/\∀p∈X.pn++pins,p.1≠b) :
  Inv X pins σ H' {s with heap:=h',gens:=g',drawn:=d',toks:=t'}:=by
 obtain⟨m,⟨o,es,ep,ho,r⟩,_⟩:=id I.loc;obtain⟨sl,g⟩:=u.any ho I.free λz=>(d _ z).2.1 ρ
 exact I.step d (λb o g j a e n=>u.keep b o e n (λz=>(hO.1<|I.qN b z).elim g j) a) (λb o _ _ a e n=>u.any e n a) (λb o a e n=>u.free b o e n a) (λb o a e=>u.there b o e a) u.iz u.gN u.iu (λm' hm=>by obtain⟨o',es',h,f,k⟩:=hm;rw[ho] at f;obtain rfl:=sO f;exact⟨_,es',h,g,k⟩) aq i
def Inv.turned (I:Inv X pins σ H s)(k:∀b o,b≠it->s.heap.get? b=ac o->h'.get? b=ac o)(hn:H it=am)(f:it≠X.env.locals)(g:it∈X.ex\/X.cR.heap.objs.size<=it)(h:∀x c,X.env.cells.lookup x=ac c->c≠it)(i:∀p∈X.pn++pins,p.1≠it):Inv X pins σ H {s with heap:=h',toks:=t'}:=by
 have d:∀b u,H b=ac u->b≠it:=by lia
 refine I.step (ch:=[it]) (λb j=>?_) (λb o _ _ a e _=>k b o (λz=>a (by simp[z])) e) (λb o _ _ a e _=>⟨o.slots,k b o (λz=>a (by simp[z])) e⟩) (λ_ _ _ _ n=>n)
  (λb o a e=>⟨o,k b o (λz=>a (by simp[z])) e⟩) (λ_ _ e=>e) (λ_ _ _ e=>e) (λb ps e=>⟨#[],by rw[e];simp⟩) (λm hm=>?_) (λb u e=>?_) I.bare
 ·have e:b=it:=by simpa using j
  subst e;exact⟨g,f,h,i⟩
 ·obtain⟨o,l,ep,ho,r⟩:=hm;exact⟨o,l,ep,k _ o (Ne.symm f) ho,r⟩
 refine (I.aq b u e).gw (λc v a q=>k c v ?_ q) (λ_ q=>q) λ_ _ q=>q;rcases a with z|z
 ·rw[z];exact d b u e
 exact d c _ z
def Inv.tok(I:Inv X pins σ H s)(t:Nat):Inv X pins σ H {s with toks:=t}:=I.un Un.refl I.aq
def Inv.kept (I:Inv X pins σ H s)(k:∀b u,s.heap.get? b=ac u->h'.get? b=ac u):Inv X pins σ H {s with heap:=h',toks:=t'}:=I.un (Un.kept k)<|I.aq.kept k
def Inv.laid (I:Inv X pins σ H s)(k:∀b u,s.heap.get? b=ac u->h'.get? b=ac u)(c:s.heap.objs.size<=a)(d:cB X.prog X.w (upd H a o) h' a o) :
  Inv X pins σ (upd H a o) {s with heap:=h',toks:=t'}:=I.un (Un.laid k c<|I.aq.fresh c)<|I.aq.laid k c d
def Inv.write (I:Inv X pins σ H s)(c:pY (H x))(d:e=x\/H e=ac (.O x))(k:∀b u,b≠e->s.heap.get? b=ac u->h'.get? b=ac u)(a:∃u,h'.get? e=ac u)(f:cB X.prog X.w (upd H x o) h' x o):Inv X pins σ (upd H x o) {s with heap:=h',toks:=t'}:=I.un (Un.write c d k a)<|I.aq.write c d k a f
def Inv.AR (I:Inv X pins σ H s)(h:∀p∈a,s.heap.get? p.1=ac p.2/\H p.1=am/\p.1≠X.env.locals/\p.1∉X.fs/\∀v,p.2.data≠.cell v):Inv X a σ H s :=
 ⟨I.ok,I.os,I.bare,I.base,I.loc,I.cell,I.free,I.eS,λp b=>(hY.1 b).elim (λz=>I.pin p<|z6 _ z) (h p),I.aq,I.len⟩
def Ab{N:List eT}(c:N.Nodup){i j:Nat}{x:eT}(a:N[i]?=ac x)(b:N[j]?=ac x):i=j:=by obtain⟨h1,d⟩:=bt.1 a;obtain⟨h2,e⟩:=bt.1 b;exact (z7 c).1 (d.trans e.symm)
def E9 (I:Inv X pins σ H s)(hN:X.N.Nodup)(G:X.N[i]?=ac x)(l:Loc X.env.scope x)(r:RelV v u)(h:∀s',Inv X pins (σ.set i<|ac v) H s'->(∃a,aae a s.heap s'.heap/\(a=X.env.locals\/X.env.cells.lookup x=ac a))->Q () s')(hf:X.fn x=bi\/X.env.scope.names.lookup x=some .local:=by first|exact ι ρ|exact τ ρ|assumption):ka M A (storeName X.env x u) Q E s:=by
 obtain⟨m,S,hl⟩:=id I.loc;have T:(X.env.scope.kind==.class||(X.env.scope.kind==.module&&X.env.locals != X.env.globals))=bv:=by rw[I.ok.kind];rfl
 have J:i<σ.length:=by rw[I.len];exact (bt.1 G).1
 have gH:=I.gH;have tracked:∀{a:eH}{h':pq},(∃o,s.heap.get? a=ac o/\H a=am)->aae a s.heap h'->cp X.prog X.w H h':=λ{a h'} ha hs b ob e=>by
  obtain⟨_,_,F⟩:=ha;refine (I.aq b ob e).gw (λc L g q=>(hs.2 c ?_).trans q) (λ_ q=>q) λ_ _ q=>q;rintro rfl;rcases g with rfl|g
  ·rw[F] at e;exact nO e
  rw[F] at g;exact nO g
 rcases l with B|B
 ·refine wpAny_storeName_local B S (λh' Vw hs=>?_) T;obtain⟨oL,_,_,Vx,_⟩:=id S;refine h _ ⟨I.ok,I.os,I.bare,⟨λb o e n C l=>?_,λb o e n C l=>?_,I.base.free,λb o e l=>?_,I.base.iz,I.base.gN,I.base.iu⟩,⟨_,Vw,λj y U f t W=>?_⟩,λy c e=>?_,I.free,I.eS,λp Y=>?_,tracked ⟨oL,Vx,I.free⟩ hs,by simpa using I.len⟩ ⟨_,hs,ι ρ⟩
  ·exact (hs.2 b<|ia<|lF (gD e) I.ok.above).trans (I.base.keep b o e n C l)
  ·obtain⟨sl,f⟩:=I.base.slot b o e n C l;exact⟨sl,(hs.2 b<|ia<|lF (gD e) I.ok.above).trans f⟩
  ·obtain⟨Z,f⟩:=I.base.there b o e l;exact⟨Z,(hs.2 b<|ia<|lF (gD e) I.ok.above).trans f⟩
  ·by_cases D:j=i
   ·subst D;rw[G] at f;obtain rfl:=sO f;rw[ql J] at t;cases t;exact⟨u,r,ι ⟨B,⋯⟩⟩
   rw[n3 (Ne.symm D)] at t;obtain⟨u',r',q⟩:=hl j y U f t W;refine⟨u',r',?_⟩;rcases q with⟨k,e⟩|⟨k,c,e,z⟩
   ·refine ι ⟨k,?_⟩;have:y≠x:=λe=>D (Ab hN f<|e ▸ G);simp[this,e]
   exact τ ⟨k,c,e,z.sameBut hs<|gH y c e⟩
  ·obtain⟨L,z⟩:=I.cell y c e;exact⟨L,z.sameBut hs<|gH y c e⟩
  obtain⟨e,n,ne,nf,d⟩:=I.pin p Y;exact⟨(hs.2 p.1 ne).trans e,n,ne,nf,d⟩
 have K:X.fn x=bi:=by
  rcases hf with z|z
  ·exact z
  rw[z] at B;contradiction
 obtain⟨c,g⟩:=I.ok.has x<|ι B;obtain⟨L,z⟩:=I.cell x c g;refine wpAny_storeName_cell I.ok.kind B g z<|λh' O hs=>?_;obtain⟨oc,P,Vu⟩:=id z;refine h {s with heap:=h'} ⟨I.ok,I.os,I.bare,⟨λb o e n C l=>?_,λb o e n C l=>?_,I.base.free,λb o e l=>?_,I.base.iz,I.base.gN,I.base.iu⟩,⟨m,S.sameBut hs<|Ne.symm<|gH x c g,λj y U f t W=>?_⟩,λy c' e=>?_,I.free,I.eS,λp Y=>?_,tracked ⟨oc,P,I.eS x c g⟩ hs,by simpa using I.len⟩ ⟨c,hs,τ g⟩
 ·exact (hs.2 b<|ia<|lF (gD e)<|I.ok.kO x c K g).trans (I.base.keep b o e n C l)
 ·obtain⟨sl,f⟩:=I.base.slot b o e n C l;exact⟨sl,(hs.2 b<|ia<|lF (gD e)<|I.ok.kO x c K g).trans f⟩
 ·obtain⟨Z,f⟩:=I.base.there b o e l;exact⟨Z,(hs.2 b<|ia<|lF (gD e)<|I.ok.kO x c K g).trans f⟩
 ·by_cases D:j=i
  ·subst D;rw[G] at f;obtain rfl:=sO f;rw[ql J] at t;cases t;exact⟨u,r,τ ⟨ι B,c,g,O⟩⟩
  rw[n3 (Ne.symm D)] at t;obtain⟨u',r',q⟩:=hl j y U f t W;refine⟨u',r',?_⟩;rcases q with q|⟨k,c',e,z'⟩
  ·exact ι q
  refine τ ⟨k,c',e,z'.sameBut hs ?_⟩;rintro rfl;exact D<|Ab hN f<|I.ok.inj _ _ _ e g ▸ G
 ·by_cases R:c'=c
  ·subst R;exact⟨_,O⟩
  obtain⟨w2,z2⟩:=I.cell y c' e;exact⟨w2,z2.sameBut hs R⟩
 obtain⟨e,n,ne,nf,d⟩:=I.pin p Y;refine⟨(hs.2 p.1 ?_).trans e,n,ne,nf,d⟩;intro q;rw[q,P] at e;exact d L (by rw[<-(Option.some.inj e)];exact Vu)
def wu (I:Inv X pins σ H s)(a:X.N.Nodup)(b:X.N[i]?=ac x)(c:Loc X.env.scope x)(r:RelV v u)(h:∀s',Inv X pins (σ.set i<|ac v) H s'->Q () s')(d:X.fn x=bi\/X.env.scope.names.lookup x=some .local:=by first|exact ι ρ|exact τ ρ|assumption):ka M A (storeName X.env x u) Q E s :=
 E9 I a b c r (λs' e _=>h s' e) d
def Inv.Bg (I:Inv X pins σ H s)(ho:s'.os=s.os)(u:Un (dm X.stack) ch H H' s.heap s'.heap)(aq:cp X.prog X.w H' s'.heap)(d:acs s'.gens)(a:∀b∈ch,(b∈X.ex\/X.cR.heap.objs.size<=b)/\b≠X.env.locals/\(∀x c,X.env.cells.lookup x=ac c->c≠b)/\∀p∈X.pn++pins,p.1≠b):Inv X pins σ H' s':=by obtain⟨h',g',d',t',f⟩:=s';have e:=ho;subst e;exact I.call u aq d a
end
abbrev XK:=dk->Option eH->Hp->Prop
abbrev St:=List<|Option V
abbrev VK:=V->Hp->Prop
abbrev TE:=St->Hp->VK->Prop
noncomputable abbrev TT:=St->Hp->(Bool->Hp->Prop)->Prop
abbrev TA:=St->Hp->(List V->Hp->Prop)->Prop
structure Ends where
 nx:St->Hp->Prop
 rt:VK
 bk:St->Hp->Prop:=fun _ _=>False
 ct:St->Hp->Prop:=fun _ _=>False
abbrev TS:=Ends->St->Hp->Prop
inductive EP (X:Cx) (pins:List (eH×C1)) (σ:St) (Q:VK) (u:dk) (s':eK):Prop
 | mk (v) (H') (i:Inv X pins σ H' s') (r:RelV v u) (q:Q v H')
def TP(X:Cx)(a:List (eH×C1))(d:St)(Q:Bool->Hp->Prop)(b:Bool)(s':eK):Prop:=∃c,Inv X a d c s'/\Q b c
inductive AP (X:Cx) (pins:List (eH×C1)) (σ:St) (Q:List V->Hp->Prop) (us:List dk) (s':eK):Prop
 | mk (vs) (H') (i:Inv X pins σ H' s') (r:aJ vs us) (q:Q vs H')
def SP(X:Cx)(c:List (eH×C1))(D:Ends)(f:Flow)(s':eK):Prop :=
 match f with
 | .next=>∃a b,Inv X c a b s'/\D.nx a b
 | .brk=>∃a b,Inv X c a b s'/\D.bk a b
 | .cont=>∃a b,Inv X c a b s'/\D.ct a b
 | .ret u=>∃v a b,Inv X c a b s'/\RelV v u/\D.rt v b
def PE(X:Cx)(e:hQ)(t:TE):Prop :=
 ∀(a:List (eH×C1)) (s:eK) (b:St) (H:Hp) (Q:VK),Inv X a b H s->t b H Q->ka (k7 X.prog X.w) X.A (eval e X.env) (EP X a b Q) X.xe s
def PT(X:Cx)(e:hQ)(t:TT):Prop :=
 ∀(a:List (eH×C1)) (s:eK) (b:St) (H:Hp) (Q:Bool->Hp->Prop),Inv X a b H s->t b H Q->ka (k7 X.prog X.w) X.A (adZ e X.env<|eval e X.env) (TP X a b Q) X.xe s
def PW(X:Cx)(e:hQ)(t:TT):Prop :=
 ∀(b:Sem dk) (a:List (eH×C1)) (s:eK) (c:St) (H:Hp) (Q:Bool->Hp->Prop),Inv X a c H s->t c H Q->ka (k7 X.prog X.w) X.A (adZ e X.env b) (TP X a c Q) X.xe s
def PW.pt (h:PW X e t):PT X e t:=h _
def PA(X:Cx)(c:List hQ)(t:TA):Prop :=
 ∀(pos:z5) (a:List (eH×C1)) (s:eK) (b:St) (H:Hp) (Q:List V->Hp->Prop),Inv X a b H s->t b H Q->ka (k7 X.prog X.w) X.A (spliced<|Hz pos<|ma c X.env) (AP X a b Q) X.xe s
def PS(X:Cx)(st:ZZ)(t:TS):Prop :=
 ∀(a:List (eH×C1)) (s:eK) (b:St) (H:Hp) (D:Ends),Inv X a b H s->t D b H->ka (k7 X.prog X.w) X.A (exec st X.env) (SP X a D) X.xe s
def fm(X:Cx)(st:List ZZ)(t:TS):Prop :=
 ∀(a:List (eH×C1)) (s:eK) (b:St) (H:Hp) (D:Ends),Inv X a b H s->t D b H->ka (k7 X.prog X.w) X.A (execs st X.env) (SP X a D) X.xe s
def aI (h:ka M A t Q E s)(d:∀a s,Q a s->c a s):ka M A t c E s:=Dt h d λ_ _ x=>x
section
variable{X:Cx}
def kP(i:Nat):TE:=λa H Q=>∃v,a[i]?=ac (ac v)/\Q v H
def tC(v:V):TE:=λ_ H Q=>Q v H
def eG (k:X.N[i]?=ac x)(n:cc X.env.scope x)(hd:bA x:=by decide)(g:cG x:=by decide):PE X (.Name x pos) (kP i):=by
 intro f s o H Q I h;obtain⟨v,e,h⟩:=h;obtain⟨m,p,hl⟩:=I.loc;obtain⟨u,r,l⟩:=hl i x v k e n;have d:EP X f o Q u s:=⟨v,H,I,r,h⟩;rcases l with⟨a,hm⟩|⟨a,c,j,b⟩
 ·exact afu (wpAny_loadName_local I.ok.kind a p hm d) hd
 rcases a with a|a
 ·exact afu (wpAny_loadName_cell I.ok.kind a j b d) hd
 exact afu (wpAny_loadName_free I.ok.kind a j b d g) hd
theorem kM{i j pos}:PE X (.Constant (.int i) j pos) (tC<|.int i):=fun _ _ _ H _ I h=>wpAny_Constant_int ⟨.int i,H,I.tok _,⟨_,ρ⟩,h⟩
def Rm{b j pos}:PE X (.Constant (.bool b) j pos) (tC<|.bl b):=λ_ _ _ H _ I h=>Constant_bool ⟨.bl b,H,I,ρ,h⟩
theorem Fx{j pos}:PE X (.Constant .none j pos) (tC .aF):=fun _ _ _ H _ I h=>Constant_none ⟨.aF,H,I,ρ,h⟩
def Ey{x j pos}:PE X (.Constant (.str x) j pos) (tC<|.str x):=λ_ _ _ H _ I h=>Calls.Constant_str ⟨.str x,H,I.tok _,⟨_,ρ⟩,h⟩
def Gl(X:Cx)(x:eT):Prop:=X.env.kindOf x=some .globalImplicit
def qF (I:Inv X a b H s)(c:Gl X x)(hm:X.mg x=ac u)(h:Q u s)(hd:bA x:=by decide):ka (k7 X.prog X.w) X.A (eval (.Name x pos) X.env) Q E s :=
 adq I.ok.kind c (Calls.loadGlobal_global (by rw[I.ok.glob];exact I.mod.glob.keeps I.bk) hm h) hd
def nP (I:Inv X a b H s)(c:Gl X x)(hm:X.mg x=am)(d:ZL x=ac u)(h:Q u s)(e:x≠"__name__":=by decide)(hd:bA x:=by decide):ka (k7 X.prog X.w) X.A (eval (.Name x pos) X.env) Q E s:=by obtain⟨mb,f,g⟩:=I.mod.blt;exact adq I.ok.kind c (Calls.loadGlobal_builtin (by rw[I.ok.glob];exact I.mod.glob.keeps I.bk) hm (by rw[I.ok.blt];exact f.keeps I.bk) ((g x e).trans d) h) hd
def jP (a:Gl X x)(hm:X.mg x=ac u)(r:RelV v u)(hd:bA x:=by decide):PE X (.Name x pos) (tC v) :=
 λ_ _ _ H _ I h=>qF I a hm ⟨v,H,I,r,h⟩ hd
def CH (a:Gl X x)(hm:X.mg x=am)(b:ZL x=ac u)(r:RelV v u)(c:x≠"__name__":=by decide)(hd:bA x:=by decide):PE X (.Name x pos) (tC v) :=
 λ_ _ _ H _ I h=>nP I a hm b ⟨v,H,I,r,h⟩ c hd
variable{a b:hQ}{ta tb:TE}{pos:z5}
theorem FX(b:hQ){op:adC}(h:op≠.In)(c:op≠.NotIn):wy op b=bv:=by
 have d:(op==agR)=bv:=by cases op<;>first|rfl|exact absurd ρ h
 have e:(op==afR)=bv:=by cases op<;>first|rfl|exact absurd ρ c
 cases b<;>simp[wy,d,e]
def tB(t:TE):TT:=λd H Q=>t d H λx e=>∃c,x=.bl c/\Q c e
theorem EK{e:hQ}{t:TE}(h:PE X e t)(g:∀c,adZ e X.env c=(do let v <-c;adi e.pos;aaj [v] (afw v)):=by intro _;rfl):PT X e (tB t):=by intro f s i H Q I hw;refine isTrue_plain (aI (h f s i H _ I hw) fun v s1 ⟨x,j,k,l,m⟩=>?_)<|g _;obtain⟨d,rfl,q⟩:=m;subst l;exact T' ⟨j,k,q⟩
variable{tA tB':TT}{rest:List hQ}
def J2(t u:TT):TT:=λd H Q=>t d H λc e=>if c=bi then u d e Q else Q false e
def QZ(t u:TT):TT:=λd H Q=>t d H λc e=>if c=bi then Q true e else u d e Q
def PX(t:TT):TT:=λd H Q=>t d H λc e=>Q (!c) e
theorem Mx(f:PT X a tA):PW X (.BoolOp .And [a] pos) tA:=by
 refine λwh d s g H Q I h=>isTrue_and (aI (f d s g H Q I h) λc s1 e=>?_);cases c with
 | true=>exact isTrue_and_nil e
 | false=>exact e
theorem RW(f:PT X a tA):PW X (.BoolOp .Or [a] pos) tA:=by
 refine λwh d s g H Q I h=>isTrue_or (aI (f d s g H Q I h) λc s1 e=>?_);cases c with
 | false=>exact isTrue_or_nil e
 | true=>exact e
theorem UX(j:PT X a tA)(k:PW X (.BoolOp .And (b::rest) pos) tB'):PW X (.BoolOp .And (a::b::rest) pos) (J2 tA tB'):=by
 refine λl d s e H Q I h=>isTrue_and (aI (j d s e H _ I h) λc m q=>?_);obtain⟨f,g,i⟩:=q;cases c with
 | true=>exact k l d m e f Q g i
 | false=>exact⟨f,g,i⟩
theorem Ua(j:PT X a tA)(k:PW X (.BoolOp .Or (b::rest) pos) tB'):PW X (.BoolOp .Or (a::b::rest) pos) (QZ tA tB'):=by
 refine λl d s e H Q I h=>isTrue_or (aI (j d s e H _ I h) λc m q=>?_);obtain⟨f,g,i⟩:=q;cases c with
 | true=>exact⟨f,g,i⟩
 | false=>exact k l d m e f Q g i
def G8(e:PT X a tA):PT X (.UnaryOp .Not a pos) (PX tA):=by exact λd s f H Q I h=>isTrue_not<|e d s f H (λc g=>Q (!c) g) I h
def OV{op}(h:PE X a t):PE X (.BoolOp op [a] pos) t:=λc s d H Q I hw=>BoolOp_one<|h c s d H Q I hw
end
def cg(K:gW)(H:Hp)(a:eH)(xs:List V):Prop :=
 Rd H a (.L xs) \/
  ∃(o:C1) (its:Array dk) (n:Nat),K.lookup a=ac o/\o.cls=.type "list"/\o.dict=am/\o.data=.seq its n/\its.size<=eu/\aJ xs its.toList
def bq(K:gW)(H:Hp)(a:eH)(xs:List V):Prop :=
 Rd H a (.U xs) \/
  ∃(o:C1) (its:Array dk) (n:Nat),K.lookup a=ac o/\o.cls=.type "tuple"/\o.data=.seq its n/\its.size<=eu/\aJ xs its.toList
noncomputable def UI:dk->Option V
 | .none=>some .aF
 | .bool b=>ac (.bl b)
 | .int i _=>ac (.int i)
 | .str x _=>ac (.str x)
 | .bytes b _=>ac (.jy b)
 | .float b _=>ac (.xD b)
 | .ref a=>ac (.ref a)
 | .type n=>ac (.ty n)
 | _=>am
theorem RelV.abs (r:RelV x u):UI u=ac x:=by
 cases x with
 | aF=>subst r;rfl
 | bl _=>subst r;rfl
 | int _=>obtain⟨t,rfl⟩:=r;rfl
 | str _=>obtain⟨t,rfl⟩:=r;rfl
 | jy _=>obtain⟨t,rfl⟩:=r;rfl
 | xD _=>obtain⟨t,rfl⟩:=r;rfl
 | ref _=>subst r;rfl
 | ty _=>subst r;rfl
def RelV.inj (r:RelV x u)(q:RelV y u):x=y:=Option.some.inj<|r.abs.symm.trans q.abs
theorem aJ.inj (h:aJ xs us)(h':aJ ys us):xs=ys:=by
 induction h generalizing ys with
 | nil=>cases h';rfl
 | cons r t a =>
  cases h' with
  | cons b t'=>rw[r.inj b,a t']
section
variable{X:Cx}{pins:List (eH×C1)}{σ:St}{H:Hp}{s:eK}{a:eH}{xs ys:List V}{E:dk->eK->Prop}
def cg.of{K:gW}(h:H a=ac (.L xs)):cg K H a xs:=ι<|ι h
def bq.of{K:gW}(h:H a=ac (.U xs)):bq K H a xs:=ι<|ι h
def Inv.list(I:Inv X pins σ H s)(h:cg X.K H a xs):∃its:List dk,aJ xs its/\PlainL s.heap a its.toArray/\xs.length<=sizeLine:=by
 rcases h with h|⟨o,its,n,b,c,hd,hs,hz,r⟩
 ·obtain⟨z,its,n,r,e⟩:=h.ok I.aq;exact⟨its,r,⟨_,n,e,ρ,ρ,ρ⟩,z⟩
 refine⟨its.toList,r,⟨o,n,I.d9 a o b,c,hd,by simpa using hs⟩,?_⟩;have e:=r.length;simp_all
def Inv.tuple(I:Inv X pins σ H s)(h:bq X.K H a xs):∃its:List dk,aJ xs its/\abx s.heap a its.toArray/\xs.length<=sizeLine:=by
 rcases h with h|⟨o,its,n,b,c,hs,hz,r⟩
 ·obtain⟨z,its,r,p⟩:=h.ok I.aq;exact⟨its,r,p,z⟩
 refine⟨its.toList,r,⟨o,I.d9 a o b,c,n,by simpa using hs⟩,?_⟩;have e:=r.length;simp_all
def Inv.RZ(I:Inv X pins σ H s)(h:cg X.K H a xs)(h':cg X.K H a ys):xs=ys:=by
 obtain⟨its,r,⟨o,n,e,_,_,d⟩,_⟩:=I.list h;obtain⟨its',c,⟨o',n',b,_,_,d'⟩,_⟩:=I.list h';rw[e] at b;obtain rfl:=sO b;rw[d] at d';injection d' with f _;have:its=its':=by simpa using congrArg afI f
 subst this;exact r.inj c
def Inv.UU(I:Inv X pins σ H s)(h:bq X.K H a xs)(h':bq X.K H a ys):xs=ys:=by
 obtain⟨its,r,⟨o,e,_,n,d⟩,_⟩:=I.tuple h;obtain⟨its',c,⟨o',b,_,n',d'⟩,_⟩:=I.tuple h';rw[e] at b;obtain rfl:=sO b;rw[d] at d';injection d' with f _;have:its=its':=by simpa using congrArg afI f
 subst this;exact r.inj c
abbrev Cx.jr(X:Cx)(E:dk->eK->Prop):Cx:={X with xe:=E}
abbrev Cx.iA(X:Cx):Cx:=X.jr λ_ _=>False
def Cx.Ok.jr (ok:X.Ok)(E:dk->eK->Prop):(X.jr E).Ok :=
 ⟨ok.mod,ok.kind,ok.glob,ok.blt,ok.above,ok.inj,ok.has,ok.kO,ok.hd,ok.frames,ok.j0,ok.rb,ok.bs,ok.je,ok.lQ,ok.nG,ok.gR,ok.kF⟩
def Cx.Ok.j7 (ok:(X.jr E).Ok):X.Ok :=
 ⟨ok.mod,ok.kind,ok.glob,ok.blt,ok.above,ok.inj,ok.has,ok.kO,ok.hd,ok.frames,ok.j0,ok.rb,ok.bs,ok.je,ok.lQ,ok.nG,ok.gR,ok.kF⟩
def Inv.jr(I:Inv X pins σ H s)(E:dk->eK->Prop):Inv (X.jr E) pins σ H s:=⟨I.ok.jr E,I.os,I.bare,I.base,I.loc,I.cell,I.free,I.eS,I.pin,I.aq,I.len⟩
def Inv.j7(I:Inv (X.jr E) pins σ H s):Inv X pins σ H s:=⟨I.ok.j7,I.os,I.bare,I.base,I.loc,I.cell,I.free,I.eS,I.pin,I.aq,I.len⟩
theorem SP.j7 (h:SP (X.jr E) pins D f s'):SP X pins D f s':=by
 cases f with
 | next=>obtain⟨b,c,I,q⟩:=h;exact⟨b,c,I.j7,q⟩
 | brk=>obtain⟨b,c,I,q⟩:=h;exact⟨b,c,I.j7,q⟩
 | cont=>obtain⟨b,c,I,q⟩:=h;exact⟨b,c,I.j7,q⟩
 | ret u=>obtain⟨v,b,c,I,r,q⟩:=h;exact⟨v,b,c,I.j7,r,q⟩
def fm.iA{st:List ZZ}{t:TS}(h:fm X.iA st t):fm X st t:=λpins s σ H D I hw =>
 Dt (h pins s σ H D (I.jr _) hw) (λ_ _ q=>q.j7) λ_ _ z=>ZG z
end
section
variable{X:Cx}{st:ZZ}{rest:List ZZ}{t u:TS}{e:hQ}{te:TE}{pos:z5}
def P5:TS:=λD a H=>D.nx a H
def AM(t u:TS):TS:=λD a H=>t {D with nx:=u D} a H
def vG:fm X [] P5:=λ_ _ a H _ I h=>abr ⟨a,H,I,h⟩
theorem m9(c:PS X st t)(d:fm X rest u):fm X (st::rest) (AM t u):=by
 refine λa s g H D I h=>afW (aI (c a s g H {D with nx:=u D} I h) λf i q=>?_);cases f with
 | next=>obtain⟨b,j,k,q⟩:=q;exact d a i b j D k q
 | ret v=>exact q
 | brk=>exact q
 | cont=>exact q
theorem mO(b:PS X st t):fm X [st] t:=by
 intro a s c H D I h;refine afW (aI (b a s c H D I h) fun f s1 q=>?_);cases f with
 | next=>exact abr q
 | ret v=>exact q
 | brk=>exact q
 | cont=>exact q
def Inv.quiet (I:Inv X a b H s):interactive X.env=bv:=by simp[interactive,I.ok.kind]
def Mc(te:TE):TS:=λD a H=>te a H λ_ b=>D.nx a b
def qZ(c:PE X e te)(hs:H9 e am pos.line X.env=pure false:=by rfl):PS X (.Expr e pos) (Mc te):=by exact λa s b H D I h=>wpAny_Expr_any (aI (c a s b H _ I h) λv s1 ⟨x,d,f,r1,g⟩=>⟨b,d,f,g⟩) I.quiet hs
def PU(te:TE):TS:=λD a H=>te a H D.rt
def uJ(c:PE X e te):PS X (.Return (ac e) pos) (PU te):=by exact λa s b H D I h=>wpAny_Return_some (aI (c a s b H _ I h) λv s1 ⟨x,d,f,g,i⟩=>⟨x,b,d,f,g,i⟩)
def OR(c:TT)(t u:TS):TS:=λD a H=>c a H λb d=>if b=bi then t D a d else u D a d
theorem qT (m:PT X c tc)(n:fm X a t)(o:fm X b u):PS X (.If c a b pos) (OR tc t u):=by
 refine λf s g H D I h=>wpAny_If (aI (m f s g H _ I h) λd i e=>?_);obtain⟨j,k,l⟩:=e;cases d with
 | true=>exact n f i g j D k l
 | false=>exact o f i g j D k l
end
abbrev TG:=V->St->Hp->(St->Hp->Prop)->Prop
abbrev jA:=List V->St->Hp->(St->Hp->Prop)->Prop
def PG(X:Cx)(target:hQ)(t:TG):Prop :=
 ∀(a:List (eH×C1)) (s:eK) (c:St) (H:Hp) (v:V) (u:dk) (Q:St->Hp->Prop),Inv X a c H s->RelV v u->t v c H Q ->
  ka (k7 X.prog X.w) X.A (aaQ target X.env u) (λ_ s'=>∃b d,Inv X a b d s'/\Q b d) X.xe s
def pj(X:Cx)(e:List hQ)(t:jA):Prop :=
 ∀(a:List (eH×C1)) (s:eK) (c:St) (H:Hp) (vs:List V) (us:List dk) (Q:St->Hp->Prop),Inv X a c H s->aJ vs us->t vs c H Q ->
  ka (k7 X.prog X.w) X.A (assignInOrder ((wd e X.env).map (·.2)) us) (λ_ s'=>∃b d,Inv X a b d s'/\Q b d) X.xe s
abbrev vK:=V->V->V->Hp->(Hp->Prop)->Prop
def Cb(X:Cx)(t:vK):Prop :=
 ∀(a:List (eH×C1)) (s:eK) (b:St) (H:Hp) (o i v:V) (c d u:dk) (Q:Hp->Prop),Inv X a b H s->RelV o c->RelV i d->RelV v u->t o i v H Q ->
  ka (k7 X.prog X.w) X.A (aeG c d u) (λ_ s'=>∃e,Inv X a b e s'/\Q e) X.xe s
section
variable{X:Cx}{pos:z5}{tg a b c:hQ}{ta tb tc:TE}
def mQ(i:Nat):TG:=λv d H Q=>Q (d.set i<|ac v) H
def zq (d:X.N.Nodup)(e:X.N[i]?=ac x)(f:Loc X.env.scope x)(g:X.fn x=bi\/X.env.scope.names.lookup x=some .local:=by first|exact ι ρ|exact τ ρ|assumption):PG X (.Name x pos) (mQ i):=by exact λpins s σ H v u Q I r h=>afK<|wu I d e f r (λs' j=>⟨_,H,j,h⟩) g
def F6:jA:=λvs d H Q=>vs=[]/\Q d H
def zN(t:TG)(u:jA):jA:=λvs e H Q=>∃v r,vs=v::r/\t v e H λd f=>u r d f Q
def Aw:pj X [] F6:=by intro pins s d H vs us Q I r h;obtain⟨e,h⟩:=h;subst e;cases r;exact assignInOrder_nil ⟨d,H,I,h⟩
theorem wj (i:PG X e t)(j:pj X f u)(hs:(wd (e::f) X.env).map (·.2)=aaQ e X.env::(wd f X.env).map (·.2):=by rfl):pj X (e::f) (zN t u):=by
 intro d s k H vs us Q I r h;obtain⟨v,vr,l,h⟩:=h;subst l;cases r with
 | cons r m=>rw[hs];refine assignInOrder_cons (aI (i d s k H _ _ _ I r h) λ_ n f=>?_);obtain⟨g,o,p,q⟩:=f;exact j d n g o _ _ Q p m q
def FK(K:gW)(n:Nat)(t:jA):TG:=λv d H Q=>∃a xs,v=.ref a/\bq K H a xs/\xs.length=n/\t xs d H Q
def G1 (l:X.calm=bi)(h:pj X f t)(m:(wd f X.env).length=n:=by rfl)(g:(wd f X.env).findIdx? (·.1)=am:=by rfl):PG X (.Tuple f k pos) (FK X.K n t):=by intro d s i H v u Q I r hw;obtain⟨a,xs,p,q,hl,hw⟩:=hw;subst p;subst r;obtain⟨its,j,w,hz⟩:=I.tuple q;refine assign_Tuple_tuple (I.ok.hd l) w (by simp[m,<-hl,j.length]) g λh' x=>?_;have y:=I.kept (t':=s.toks) λb o e=>x b o (ia<|gD e) e;exact h d _ i H xs _ Q y (j) hw
def Ui(to e:TE)(t:vK):TG:=λv d H Q=>to d H λo f=>e d f λi g=>t o i v g λh=>Q d h
def MW (ho:PE X o to)(k:PE X i j)(hs:Cb X t)(l:∀v,aaQ (.Subscript o i pos) X.env v=(do
   let e <-aaj [v] (eval o X.env);let f <-aaj [v,e] (eval i X.env)
   adi pos
   aaj [v,e,f] (aeG e f v)
   release [v,e,f] []):=by intro _;rfl):PG X (.Subscript o i pos) (Ui to j t):=by
 intro d s g H v u Q I r h;rw[l];refine ey<|sj (aI (ho d s g H _ I h) λe m f=>?_);obtain⟨x,n,p,q,w⟩:=f;refine ey<|sj (aI (k d m g n _ p w) λf z h=>?_);obtain⟨y,A,B,C,D⟩:=h;refine ey<|acY<|ey<|sj (aI (hs d z g A x y v e f u _ B q C r D) λ_ s3 h=>?_);obtain⟨E,F,G⟩:=h;exact wpAny_release ⟨g,E,F,G⟩
def rY(te:TE)(g:TG):TS:=λD d H=>te d H λx e=>g x d e D.nx
def Gq (i:PE X e te)(j:PG X tg g)(hs:ab6 [tg] e pos.line X.env=pure false:=by rfl)(hw:ab7 [tg] e X.env=pure am:=by rfl)(k:(wd [tg] X.env).map (·.2)=[aaQ tg X.env]:=by rfl):PS X (.Assign [tg] e pos) (rY te g):=by refine λd s f H D I h=>wpAny_Assign_stores (aI (i d s f H _ I h) λv l g=>?_) hs hw;obtain⟨x,m,n,o,p⟩:=g;rw[k];exact aI (j d l f m x v _ n o p) λ_ s2 q=>q
def yt (g:X.N.Nodup)(j:X.N[i]?=ac x)(k:Loc X.env.scope x)(l:PE X e te)(hs:H9 e (ac<|.Name x d) pos.line X.env=pure false:=by rfl)(m:X.fn x=bi\/X.env.scope.names.lookup x=some .local:=by first|exact ι ρ|exact τ ρ|assumption) :
  PS X (.Assign [.Name x d] e pos) (rY te<|mQ i):=by
 refine λf s n H D I h=>wpAny_Assign_Name (aI (l f s n H _ I h) λv s1 g=>?_) hs;obtain⟨y,o,p,q,r⟩:=g;exact wu p g j k q (λs2 t=>⟨_,o,t,r⟩) m
def L4(c:TT)(tb:TS):TS:=λD d H=>∃W:Nat->St->Hp->Prop,(∃m,W m d H)/\∀m d H,W m d H ->
 c d H λb f=>if b=bi then ∃N:St->Hp->Prop,(∀e g,N e g->∃h,h<m/\W h e g)/\tb {D with nx:=N,ct:=N,bk:=D.nx} d f else D.nx d f
theorem Tw{c:hQ}{body:List ZZ}{tc:TT}{tb:TS}(r:acL (k7 X.prog X.w) X.A X.env X.xe)(B:PT X c tc)(C:fm X body tb):PS X (.While c body [] pos) (L4 tc tb):=by
 intro e s E H D I h;obtain⟨W,⟨F,G⟩,turn⟩:=h;refine wpAny_While<|codeAny_whileLoop (fun n s'=>∃l t,Inv X e l t s'/\W n l t) ?_ F ⟨E,H,I,G⟩;rintro n J ⟨g,u,K,L⟩;refine aan r (aI (B e J g u _ K<|turn n g u L) fun b M h=>?_);obtain⟨x,y,j⟩:=h;cases b with
 | true =>
  obtain⟨N,z,j⟩:=j;refine aan r (aI (C e M g x _ y j) fun f s3 k=>?_);cases f with
  | next=>obtain⟨d,i,m,o⟩:=k;obtain⟨p,hm,q⟩:=z d i o;exact⟨p,hm,d,i,m,q⟩
  | cont=>obtain⟨d,i,m,o⟩:=k;obtain⟨p,hm,q⟩:=z d i o;exact⟨p,hm,d,i,m,q⟩
  | brk=>exact k
  | ret v=>exact k
 | false=>exact abr ⟨g,x,y,j⟩
structure It where
 go:Nat->Hp->Prop
 ny:Nat->Hp->V->Hp->Prop
 stop:Nat->Hp->Prop
def jq(X:Cx)(d:List (eH×C1))(H:Hp)(b:eH):Prop :=
 H b=am/\b≠X.env.locals/\b∉X.fs/\(b∈X.ex\/X.cR.heap.objs.size<=b)/\(∀x c,X.env.cells.lookup x=ac c->c≠b)/\∀p∈X.pn++d,p.1≠b
theorem Inv.mi{X:Cx}{d:List (eH×C1)}{h:St}{H g:Hp}{s:eK}{b:eH}(I:Inv X d h H s)(f:s.heap.objs.size<=b)(i:g b=am):jq X d g b:=by
 refine⟨i,acW<|lF I.lt f,I.MJ f,τ<|px I.sz f,fun x c e z=>?_,fun p j z=>?_⟩
 ·obtain⟨v,q⟩:=I.cell x c e;exact absurd (lF q.lt (by rw[z];exact f))<|zd _
 exact absurd (lF (gD (I.pin p j).1) (by rw[z];exact f))<|zd _
structure Turn (P:lq) (w:qh) (K:gW) (tg:hQ) (J:It) (fp:List eH) (it:eH) (tn:Nat->pq->Prop):Prop where
 mem:it∈fp
 obj:∀i h,tn i h->∀b∈fp,∃o,h.get? b=ac o/\∀v,o.data≠.cell v
 keep:∀i h h',tn i h->(∀b∈fp,∀o,h.get? b=ac o->h'.get? b=ac o)->tn i h'
 item:∀(X:Cx),X.prog=P->X.w=w->X.K=K->X.calm=bi->∀(i:Nat) (pins:List (eH×C1)) (s:eK) (σ:St) (H:Hp) (E:dk->eK->Prop),Inv X pins σ H s->(∀b∈fp,jq X pins H b)->tn i s.heap->J.go i H ->
  ka (k7 P w) X.A (abM<|.ref it) (fun r s1=>∃u,r=ac u /\
   ka (k7 P w) X.A (acv tg (.ref it) u) (fun _ s2=>∃x H',Inv X pins σ H' s2/\RelV x u/\J.ny i H x H'/\tn (i+1) s2.heap/\∀b∈fp,H' b=am) E s1) E s
 done:∀(X:Cx),X.prog=P->X.w=w->X.K=K->X.calm=bi->∀(i:Nat) (pins:List (eH×C1)) (s:eK) (σ:St) (H:Hp) (E:dk->eK->Prop),Inv X pins σ H s->(∀b∈fp,jq X pins H b)->tn i s.heap->J.stop i H ->
  ka (k7 P w) X.A (abM<|.ref it) (fun r s1=>r=am/\Inv X pins σ H s1) E s
 self:∀(A:pk) (i:Nat) (s:eK) (Q:dk->eK->Prop) (E:dk->eK->Prop),tn i s.heap->Q (.ref it) s->ka (k7 P w) A (afx<|.ref it) Q E s
abbrev TI:=St->Hp->(It->Hp->Prop)->Prop
def D9(X:Cx)(d:List (eH×C1))(j:St)(tg:hQ)(R:It->Hp->Prop)(f:dk)(g:eK):Prop :=
 ∃(it:eH) (h:List eH) (i:Nat->pq->Prop) (J:It) (e:Hp),f=.ref it/\Inv X d j e g/\Turn X.prog X.w X.K tg J h it i/\i 0 g.heap/\(∀b∈h,jq X d e b)/\R J e
def PI(X:Cx)(tg iter:hQ)(f:TI):Prop :=
 ∀(d:List (eH×C1)) (s:eK) (e:St) (H:Hp) (R:It->Hp->Prop),Inv X d e H s->f e H R ->
  ka (k7 X.prog X.w) X.A (eval iter X.env) (λv g=>ka (k7 X.prog X.w) X.A (afx v) (D9 X d e tg R) X.xe g) X.xe s
theorem oV (ho:s.heap.get? it=ac o)(e:o.cls=.type n)(hd:o.data=.fields vs)(f:["enumerate","zip","dict_itemiterator","dict_reverseitemiterator","odict_iterator","itertools.zip_longest","itertools.pairwise"].contains n=bv)(d:Q () s):ka M A (acv tg (.ref it) u) Q E s:=by
  cases tg<;>first
    | exact gi d
    | (cases u<;>first
        | exact gi d
        | (refine ey (wpAny_load ho ?_)
           rw[e,hd];show ka M A (if (["enumerate","zip","dict_itemiterator","dict_reverseitemiterator","odict_iterator","itertools.zip_longest","itertools.pairwise"].contains n&&vs[0]?==ac (aeI _))=bi then _ else _) Q E s;rw[if_neg (by intro h;rw[f,afq] at h;contradiction)]
           exact gi d))
noncomputable def Ew(K:gW)(a:eH):It :=
 ⟨λi H=>∃xs x,cg K H a xs/\xs[i]?=ac x,λi H x d=>d=H/\∀xs,cg K H a xs->xs[i]?=ac x,λi H=>∃xs,cg K H a xs/\xs.length<=i⟩
noncomputable def BB(K:gW)(a:eH):It :=
 ⟨λi H=>∃xs x,bq K H a xs/\xs[i]?=ac x,λi H x d=>d=H/\∀xs,bq K H a xs->xs[i]?=ac x,λi H=>∃xs,bq K H a xs/\xs.length<=i⟩
noncomputable def pJ(lo:Int)(n:Nat):It:=⟨λi _=>i<n,λi H x d=>d=H/\x=.int (lo+i),λi _=>n<=i⟩
def UT{P:lq}{w:qh}{K:gW}{tg:hQ}(a it:eH):Turn P w K tg (Ew K a) [it] it (λi h=>h.IsListIter it a i) where
 mem:=⋯
 obj:=λi h st b f=>by
  have e:b=it:=by simpa using f
  subst e;obtain⟨o,e,c,d⟩:=st;exact⟨o,e,λv z=>by rw[d] at z;contradiction⟩
 keep:=λi h h' st k=>st.at λo e=>k it ⋯ o e
 item:=by intro X n hw q G i g s J H E I j st r;subst n hw q;obtain⟨xs,x,l,t⟩:=r;obtain⟨its,y,p,L⟩:=I.list l;obtain⟨u,M,N⟩:=y.get t;obtain⟨A,B,O,C,D,F⟩:=j it ⋯;refine wpAny_pyNext_list_item st p.isList (by simpa using M) λh' m Q=>?_;have R:=I.turned (t':=s.toks) (λb o f e=>(Q.2 b f).trans e) A B C D F;obtain⟨o,e,c,d⟩:=id m;exact⟨u,ρ,oV e c d ρ ⟨x,H,R,N,⟨ρ,λys S=>by rw[I.RZ S l];exact t⟩,m,λb f=>(j b f).1⟩⟩
 done:=by intro X n hw q G i g s J H E I j st r;subst n hw q;obtain⟨xs,l,t⟩:=r;obtain⟨its,y,p,L⟩:=I.list l;obtain⟨A,B,O,C,D,F⟩:=j it ⋯;have hl:=y.length;exact wpAny_pyNext_list_end (I.ok.hd G) st p.isList (by simp;omega) λh' T=>⟨ρ,I.turned (λb o f e=>T b o f e) A B C D F⟩
 self:=λ_ _ _ _ _ st h=>wpAny_pyIter_listiter st h
def Mw{P:lq}{w:qh}{K:gW}{tg:hQ}(a it:eH):Turn P w K tg (BB K a) [it] it (λi h=>h.IsTupleIter it a i) where
 mem:=⋯
 obj:=λi h st b f=>by
  have e:b=it:=by simpa using f
  subst e;obtain⟨o,e,c,d⟩:=st;exact⟨o,e,by lia⟩
 keep:=λi h h' st k=>st.at λo e=>k it ⋯ o e
 item:=by intro X n hw q D i g s F H E I j st r;subst n hw q;obtain⟨xs,x,l,t⟩:=r;obtain⟨its,v,p,G⟩:=I.tuple l;obtain⟨u,J,L⟩:=v.get t;obtain⟨y,z,M,A,B,C⟩:=j it ⋯;refine wpAny_pyNext_tuple_item st (p) (by simpa using J) λh' m N=>?_;have O:=I.turned (t':=s.toks) (λb o f e=>(N.2 b f).trans e) y z A B C;obtain⟨o,e,c,d⟩:=id m;exact⟨u,ρ,oV e c d ρ ⟨x,H,O,L,⟨ρ,λys Q=>by rw[I.UU Q l];exact t⟩,m,λb f=>(j b f).1⟩⟩
 done:=by intro X n hw q D i g s F H E I j st r;subst n hw q;obtain⟨xs,l,t⟩:=r;obtain⟨its,v,p,G⟩:=I.tuple l;obtain⟨y,z,M,A,B,C⟩:=j it ⋯;have hl:=v.length;exact wpAny_pyNext_tuple_end (I.ok.hd D) st (p) (by simp;omega) λh' R=>⟨ρ,I.turned (λb o f e=>R b o f e) y z A B C⟩
 self:=λ_ _ _ _ _ st h=>wpAny_pyIter_tupleiter st h
def QF{P:lq}{w:qh}{K:gW}{tg:hQ}(it:eH)(lo:Int)(n:Nat):Turn P w K tg (pJ lo n) [it] it (λi h=>IsRangeIter h it (lo+(i:Nat)*1) ((n:Int)-(i:Nat)) 1) where
 mem:=⋯
 obj:=λi h st b d=>by
  have e:b=it:=by simpa using d
  subst e;exact⟨_,st,λv z=>by have z':Data.fields _=Data.cell v:=z;contradiction⟩
 keep:=λi h h' st k=>k it ⋯ _ st
 item:=by intro X l hw m p i f s B H E I g st q;subst l hw m;obtain⟨r,u,C,x,y,A⟩:=g it ⋯;have W:=Walks.range (prog:=X.prog) (w:=X.w) (I.ok.hd p) it lo 1 n;refine W.item i s _ _ q st λv h' tk D j F=>?_;obtain⟨t,rfl⟩:=D;have G:Inv X f B H {s with heap:=h',toks:=tk}:=I.turned (λb o d e=>F b o (by simpa using d) e) r u x y A;refine⟨_,ρ,oV j ρ ρ ρ ⟨.int<|lo+i,H,G,⟨t,?_⟩,⟨ρ,ρ⟩,j,λb d=>(g b d).1⟩⟩;rw[Int.mul_one]
 done:=by intro X l hw m p i f s B H E I g st q;obtain⟨r,u,C,x,y,A⟩:=g it ⋯;exact wpAny_pyNext_range_end (I.ok.hd p) st (by have:n<=i:=q;omega) λh' J=>⟨ρ,I.turned (λb o d e=>J b o d e) r u x y A⟩
 self:=λ_ _ _ _ _ st h=>wpAny_pyIter_rangeiter st h
def EN(K:gW)(e:TE):TI:=λf H R=>e f H λx d=>∃a,x=.ref a/\(∃xs,cg K d a xs)/\R (Ew K a) d
def Ra(K:gW)(e:TE):TI:=λf H R=>e f H λx d=>∃a,x=.ref a/\(∃xs,bq K d a xs)/\R (BB K a) d
def Fj (hl:PE X l i):PI X tg l (EN X.K i):=by
 refine λg s j H R I h=>aI (hl g s j H _ I h) λv d e=>?_;obtain⟨x,k,f,m,n⟩:=e;obtain⟨a,e,⟨xs,r⟩,q⟩:=n;subst e;subst m;obtain⟨its,rv,p,hz⟩:=f.list r;apply aas p.isList;refine⟨d.heap.objs.size,[d.heap.objs.size],_,_,k,ρ,f.kept λb o e=>fA _ e,UT a _,⟨_,lD _ ρ,ρ,ρ⟩,λb t=>?_,q⟩;have e:b=d.heap.objs.size:=by simpa using t
 subst e;exact f.mi (ft _)<|f.aq.fresh<|ft _
def Nj (hl:PE X l i):PI X tg l (Ra X.K i):=by
 refine λg s j H R I h=>aI (hl g s j H _ I h) λv d e=>?_;obtain⟨x,k,f,m,n⟩:=e;obtain⟨a,e,⟨xs,r⟩,q⟩:=n;subst e;subst m;obtain⟨its,rv,p,hz⟩:=f.tuple r;apply wpAny_pyIter_tuple<|p;refine⟨d.heap.objs.size,[d.heap.objs.size],_,_,k,ρ,f.kept λb o e=>fA _ e,Mw a _,⟨_,lD _ ρ,ρ,ρ⟩,λb t=>?_,q⟩;have e:b=d.heap.objs.size:=by simpa using t
 subst e;exact f.mi (ft _)<|f.aq.fresh<|ft _
def Eo{f:List (eH×C1)}{g:St}{H:Hp}{s:eK}{R:It->Hp->Prop}{E:dk->eK->Prop}{lo d:Int}{t u v:Tok}{tk:Nat}(I:Inv X f g H s)(i:-(2 ^ 62)<=lo)(j:lo<2 ^ 62)(k:-(2 ^ 62)<=d)(l:d<2 ^ 62)
 (q:R (pJ lo (d-lo).toNat) H):ka (k7 X.prog X.w) X.A (afx<|.ref s.heap.objs.size) (D9 X f g tg R) E {s with heap:=s.heap.push {cls:=.type "range",data:=.fields #[.int lo t,.int d u,.int 1 v]},toks:=tk}:=by
 apply wpAny_pyIter_range (IsRange.new ..)<|small_one i j k l;have h:Inv X f g H {s with heap:=s.heap.push {cls:=.type "range",data:=.fields #[.int lo t,.int d u,.int 1 v]},toks:=tk}:=I.kept λb o e=>fA _ e
 refine⟨(s.heap.push {cls:=.type "range",data:=.fields #[.int lo t,.int d u,.int 1 v]}).objs.size,[(s.heap.push {cls:=.type "range",data:=.fields #[.int lo t,.int d u,.int 1 v]}).objs.size],_,_,H,ρ,
  h.kept λb o e=>fA _ e,QF _ lo (d-lo).toNat,?_,λb m=>?_,q⟩
 ·have n:lo+((0:Nat):Int)*1=lo:=⋯;have p:(((d-lo).toNat:Nat):Int)-((0:Nat):Int)=agb lo d 1:=by grind [rangeSize_one]
  rw[n,p];exact lD _ ρ
 have e:b=(s.heap.push {cls:=.type "range",data:=.fields #[.int lo t,.int d u,.int 1 v]}).objs.size:=by simpa using m
 subst e;exact h.mi (ft _)<|h.aq.fresh<|ft _
def O4(ta:TA):TI:=λd H R=>ta d H λvs e=>∃j:Int,vs=[.int j]/\-(2 ^ 62)<=j/\j<2 ^ 62/\R (pJ 0 j.toNat) e
def UK(ta:TA):TI:=λd H R=>ta d H λvs e=>∃i j:Int,vs=[.int i,.int j]/\(-(2 ^ 62)<=i/\i<2 ^ 62/\-(2 ^ 62)<=j/\j<2 ^ 62)/\R (pJ i (j-i).toNat) e
theorem R3{a:hQ}{ta:TA}{p pos:z5}(g:Gl X "range")(hm:X.mg "range"=am)(i:PA X [a] ta)(hs:ma [a] X.env=[(false,eval a X.env)]:=by rfl):PI X tg (.Call (.Name "range" p) [a] [] pos) (O4 ta):=by
 refine fun d s k H R I h=>Call_<|nP I g hm boot_range<|aaa (aI (i pos d s k H _ I h) fun us s1 e=>?_) hs ρ;obtain⟨vs,H1,l,m,f⟩:=e;obtain⟨j,e,f,n,q⟩:=f;subst e;cases m with
 | cons r o =>
  cases o;obtain⟨t,rfl⟩:=r;exact call_range_1<|Eo l ⋯ ⋯ f n (by simpa using q)
theorem Lb{a b:hQ}{ta:TA}{p pos:z5}(l:Gl X "range")(hm:X.mg "range"=am)(m:PA X [a,b] ta)(hs:ma [a,b] X.env=[(false,eval a X.env),(false,eval b X.env)]:=by rfl)(d:ma [b] X.env=[(false,eval b X.env)]:=by rfl) :
  PI X tg (.Call (.Name "range" p) [a,b] [] pos) (UK ta):=by
 refine fun f s n H R I h=>Call_<|nP I l hm boot_range<|aaa (aI (m pos f s n H _ I h) fun us s1 e=>?_) (by rw[hs,d]) (by rw[d];rfl);obtain⟨vs,H1,o,u,g⟩:=e;obtain⟨i,j,e,⟨g,v,w,x⟩,q⟩:=g;subst e;cases u with
 | cons r k =>
  cases k with
  | cons y k =>
   cases k;obtain⟨t,rfl⟩:=r;obtain⟨t',rfl⟩:=y;exact call_range_2<|Eo o g v w x q
def MO(k:TI)(g:TG)(tb:TS):TS:=λD d H=>k d H λJ l=>∃W:Nat->Nat->St->Hp->Prop,(∃m,W 0 m d l)/\∀i m d H,W i m d H ->
 (J.stop i H/\D.nx d H)\/(J.go i H/\∃N:St->Hp->Prop,(∀f e,N f e->∃h,h<m/\W (i+1) h f e)/\∀x e,J.ny i H x e->g x d e λj n=>tb {D with nx:=N,ct:=N,bk:=D.nx} j n)
noncomputable def rJ(d:List eH)(h:pq):List (eH×C1):=d.filterMap λb=>(h.get? b).map λo=>(b,o)
theorem tO{d:List eH}{h:pq}{b:eH}{o:C1}(f:b∈d)(e:h.get? b=ac o):(b,o)∈rJ d h:=ZJ.2 ⟨b,f,by rw[e];rfl⟩
theorem JG (f:p∈rJ d h):p.1∈d/\h.get? p.1=ac p.2:=by
 obtain⟨b,g,e⟩:=ZJ.1 f;cases q:h.get? b with
 | none=>rw[q] at e;exact nO e
 | some o=>rw[q] at e;have i:=Option.some.inj e;subst i;exact⟨g,q⟩
def Inv.pinned (I:Inv X f h H s)(k:∀b∈g,jq X f H b)(ho:∀b∈g,∃o,s.heap.get? b=ac o/\∀v,o.data≠.cell v):Inv X (f++rJ g s.heap) h H s :=
 I.AR λp l=>(hY.1 l).elim (λz=>I.pin p<|pL _ z) λz=>by obtain⟨i,e⟩:=JG z;obtain⟨m,n,q,_⟩:=k p.1 i;obtain⟨o,j,d⟩:=ho p.1 i;rw[e] at j;obtain rfl:=sO j;exact⟨e,m,n,q,d⟩
def Inv.sQ (I:Inv X (d++f) e H s):Inv X d e H s:=I.AR λp g=>I.pin p<|pL _<|z6 _ g
theorem MS{iter:hQ}{body:List ZZ}{R:TI}{g:TG}{tb:TS}{pos:z5}(E:acL (k7 X.prog X.w) X.A X.env X.xe)(S:X.calm=bi)(hi:PI X tg iter R)(hg:PG X tg g)(l:fm X body tb)
 (hs:∀x,xn iter X.env x=pure x:=by intro _;rfl):PS X (.For tg iter body [] pos) (MO R g tb):=by
 refine fun k s U H D I h=>wpAny_For (aI (hi k s U H _ I h) fun v s1 h1=>aI h1 fun itv s2 h2=>?_) hs;obtain⟨it,F,V,J,H2,e,I2,T,Y,Z,W,⟨m0,w0⟩,turn⟩:=h2;subst e;have C:∀{t:Hp},(∀b∈F,t b=am)->∀b∈F,jq X k t b:=fun hn b l=>⟨hn b l,(Z b l).2⟩;refine codeAny_forLoop_any (fun n s'=>∃i y t,Inv X k y t s'/\V i s'.heap/\(∀b∈F,t b=am)/\W i n y t) ?_ m0 ⟨0,U,H2,I2,Y,fun b l=>(Z b l).1,w0⟩;rintro n s3 ⟨i,z,L,I3,M,O,w3⟩;rcases turn i n z L w3 with⟨stop,qn⟩|⟨go,N,hN,step⟩
 ·refine aan E (aI (T.done X ρ ρ ρ S i k s3 z L X.xe I3 (C O) M stop) fun r s4 h=>?_);obtain⟨P,I4⟩:=h;subst P;exact abr ⟨z,L,I4,qn⟩
 refine aan E (aI (T.item X ρ ρ ρ S i k s3 z L X.xe I3 (C O) M go) fun r s4 h=>?_);obtain⟨u,P,h4⟩:=h;subst P;refine aan E (aI h4 fun _ s5 ⟨x,H5,I5,r5,y5,G,Vw⟩=>?_);refine aan E (aI (hg _ s5 z H5 x u _ (I5.pinned (C Vw)<|T.obj _ _ G) r5<|step x H5 y5) fun _ s6 h=>?_);obtain⟨Vy,H6,I6,q6⟩:=h;refine aan E (aI (l _ s6 Vy H6 _ I6 q6) fun f Q B=>?_);have again:∀{j:St}{p:Hp},Inv X (k++rJ F s5.heap) j p Q->N j p->∃m,m<n/\∃i y t,Inv X k y t Q/\V i Q.heap/\(∀b∈F,t b=am)/\W i m y t:=fun {j p} q K=>by obtain⟨m',hm,w7⟩:=hN j p K;refine⟨m',hm,i+1,j,p,q.sQ,T.keep _ _ _ G fun b l o e=>(q.pin (b,o)<|pL _<|pL _<|tO l e).1,fun b l=>?_,w7⟩;obtain⟨o,e,d⟩:=T.obj _ _ G b l;exact (q.pin (b,o)<|pL _<|pL _<|tO l e).2.1
 cases f with
 | next=>obtain⟨j,p,q,K⟩:=B;exact again q K
 | cont=>obtain⟨j,p,q,K⟩:=B;exact again q K
 | brk=>obtain⟨j,p,q,B⟩:=B;exact⟨j,p,q.sQ,B⟩
 | ret v=>obtain⟨x7,j,p,q,r7,B⟩:=B;exact⟨x7,j,p,q.sQ,r7,B⟩
abbrev R2:=V->V->Hp->VK->Prop
def bc(X:Cx)(f:dk->dk->Sem dk)(r:R2):Prop :=
 ∀(d:List (eH×C1)) (s:eK) (e:St) (H:Hp) (x y:V) (v u:dk) (Q:VK),Inv X d e H s->RelV x v->RelV y u->r x y H Q ->
  ka (k7 X.prog X.w) X.A (f v u) (EP X d e Q) X.xe s
def yg(X:Cx)(f:dk->Sem dk)(r:V->Hp->VK->Prop):Prop :=
 ∀(d:List (eH×C1)) (s:eK) (e:St) (H:Hp) (x:V) (v:dk) (Q:VK),Inv X d e H s->RelV x v->r x H Q ->
  ka (k7 X.prog X.w) X.A (f v) (EP X d e Q) X.xe s
def bD(X:Cx)(f:dk)(r:List V->Hp->VK->Prop):Prop :=
 ∀(d:List (eH×C1)) (s:eK) (e:St) (H:Hp) (xs:List V) (us:List dk) (Q:VK),Inv X d e H s->aJ xs us->r xs H Q ->
  ka (k7 X.prog X.w) X.A (call f us) (EP X d e Q) X.xe s
def Ll(X:Cx)(r:V->Hp->(Bool->Hp->Prop)->Prop):Prop :=
 ∀(d:List (eH×C1)) (s:eK) (e:St) (H:Hp) (x:V) (v:dk) (Q:Bool->Hp->Prop),Inv X d e H s->RelV x v->r x H Q ->
  ka (k7 X.prog X.w) X.A (afw v) (TP X d e Q) X.xe s
def lZ(r:R2)(ta tb:TE):TE:=λd H Q=>ta d H λx e=>tb d e λy f=>r x y f Q
def Sh(r:V->Hp->VK->Prop)(ta:TE):TE:=λd H Q=>ta d H λx e=>r x e Q
def rI(C:Int->Int->Prop)(g:Int->Int->V):R2:=λx y H Q=>∃i j,x=.int i/\y=.int j/\C i j/\Q (g i j) H
def iK(g:Int->Int->V):R2:=λx y H Q=>∃i j,x=.int i/\y=.int j/\Q (g i j) H
def rU(g:Int->V):V->Hp->VK->Prop:=λx H Q=>∃i,x=.int i/\Q (g i) H
def vH(m:PE X a ta)(n:PE X b tb){R:V->V->Hp->Prop}(I:Inv X d e H s)(h:ta e H λx j=>tb e j λy g=>R x y g){Q:dk->eK->Prop}{f:dk->dk->Sem dk}(o:∀v u i x y g,Inv X d e g i->RelV x v->RelV y u->R x y g->ka (k7 X.prog X.w) X.A (f v u) Q X.xe i) :
  ka (k7 X.prog X.w) X.A (eval a X.env) (λv k=>ka (k7 X.prog X.w) X.A (eval b X.env) (λu l=>ka (k7 X.prog X.w) X.A (f v u) Q X.xe l) X.xe k) X.xe s:=by
 refine aI (m d s e H _ I h) λv p g=>?_;obtain⟨x,j,q,r,t⟩:=g;refine aI (n d p e j _ q t) λu i h=>?_;obtain⟨y,g,z,B,C⟩:=h;exact o v u i x y g z r B C
def Pk (ho:yg X (unaryOp op) r)(f:PE X a ta):PE X (.UnaryOp op a pos) (Sh r ta):=by exact λd s e H Q I h=>UnaryOp_ (aI (f d s e H _ I h) λv g ⟨x,i,j,k,l⟩=>ho d g e i x v Q j k l)
def uH{f:dk->dk->Sem dk}{C:Int->Int->Prop}{g:Int->Int->Int}
 (rule:∀(i j:Int) (t u:Tok) (s:eK) (Q:dk->eK->Prop) (E:dk->eK->Prop),C i j->Q (.int (g i j) s.toks) {s with toks:=s.toks+1}->ka (k7 X.prog X.w) X.A (f (.int i t)<|.int j u) Q E s) :
  bc X f (rI C λi j=>.int<|g i j):=by
 intro pins s σ H x y v u Q I d e h;obtain⟨i,j,rfl,rfl,k,q⟩:=h;obtain⟨t,rfl⟩:=d;obtain⟨t',rfl⟩:=e;exact rule i j t t' s _ _ k ⟨.int<|g i j,H,I.tok _,⟨_,ρ⟩,q⟩
def AH{f:dk->dk->Sem dk}{g:Int->Int->Int}
 (rule:∀(i j:Int) (t u:Tok) (s:eK) (Q:dk->eK->Prop) (E:dk->eK->Prop),Q (.int (g i j) s.toks) {s with toks:=s.toks+1}->ka (k7 X.prog X.w) X.A (f (.int i t)<|.int j u) Q E s) :
  bc X f (iK λi j=>.int<|g i j):=by
 intro pins s σ H x y v u Q I d e h;obtain⟨i,j,rfl,rfl,q⟩:=h;obtain⟨t,rfl⟩:=d;obtain⟨t',rfl⟩:=e;exact rule i j t t' s _ _ ⟨.int<|g i j,H,I.tok _,⟨_,ρ⟩,q⟩
def vp{f:dk->dk->Sem dk}{g:Int->Int->Bool}
 (rule:∀(i j:Int) (t u:Tok) (s:eK) (Q:dk->eK->Prop) (E:dk->eK->Prop),Q (.bool<|g i j) s->ka (k7 X.prog X.w) X.A (f (.int i t)<|.int j u) Q E s) :
  bc X f (iK λi j=>.bl<|g i j):=by
 intro pins s σ H x y v u Q I d e h;obtain⟨i,j,rfl,rfl,q⟩:=h;obtain⟨t,rfl⟩:=d;obtain⟨t',rfl⟩:=e;exact rule i j t t' s _ _ ⟨.bl<|g i j,H,I,ρ,q⟩
def La(i j:Int):Prop:=0<=j/\j<=1000000/\i.natAbs<2 ^ 64
def U9:bc X (aaL .Mod) (rI (λ_ j=>0<j) λi j=>.int<|i%j):=uH λi j _ _ _ _ _ d q=>by exact mod_int' (by lia) (by rw[Int.fmod_eq_emod_of_nonneg i (by lia)];exact q)
def Pc:bc X (aaL .Pow) (rI La λi j=>.int<|i ^ j.toNat):=uH λ_ _ _ _ _ _ _ d q=>pow_int_small d.1 d.2.1 d.2.2 q
def Ms{f:dk->Sem dk}{g:Int->Int}
 (rule:∀(i:Int) (t:Tok) (s:eK) (Q:dk->eK->Prop) (E:dk->eK->Prop),Q (.int (g i) s.toks) {s with toks:=s.toks+1}->ka (k7 X.prog X.w) X.A (f<|.int i t) Q E s) :
  yg X f (rU λi=>.int<|g i):=by
 intro pins s σ H x v Q I d h;obtain⟨i,rfl,q⟩:=h;obtain⟨t,rfl⟩:=d;exact rule i t s _ _ ⟨.int<|g i,H,I.tok _,⟨_,ρ⟩,q⟩
noncomputable def Kr:V->V->Bool
 | .aF,.aF=>true|.aF,.int _=>true|.int _,.aF=>true|.aF,.bl _=>true|.bl _,.aF=>true|.aF,.str _=>true|.str _,.aF=>true
 | .int _,.int _=>true|.bl _,.bl _=>true|.str _,.str _=>true|.jy _,.jy _=>true
 | .int _,.str _=>true|.str _,.int _=>true|.bl _,.str _=>true|.str _,.bl _=>true
 | _,_=>false
def Lg:R2:=λx y H Q=>Kr x y=bi/\Q (.bl<|bd<|x=y) H
def Ji:bd (V.int i=V.int j)=(i==j):=by rw[nF];simp
def Th:bd (V.bl i=V.bl j)=(i==j):=by rw[nF];simp
def QI:bd (V.str i=V.str j)=(i==j):=by rw[nF];simp
def JC:bd (V.jy i=V.jy j)=(i.toList==j.toList):=by rw[nF];cases i;cases j;simp
def fO (I:Inv X d f H s)(q:Q (.bl k) H)(e:k=g):EP X d f Q (.bool g) s:=by subst e;exact⟨.bl k,H,I,ρ,q⟩
theorem HE:bc X (o5 .Eq) Lg:=by
 intro pins s σ H x y v u Q I e d h;obtain⟨hs,q⟩:=h;cases x with
 | aF =>
  cases e;cases y with
  | aF=>subst d;exact ago (fO I q ρ)
  | bl j=>subst d;exact agq (fO I q ρ)
  | int j=>obtain⟨t',rfl⟩:=d;exact agp (fO I q ρ)
  | str j=>obtain⟨t',rfl⟩:=d;exact agn (fO I q ρ)
  | _=>exact absurd (hs) xr
 | bl i =>
  subst e;cases y with
  | aF=>subst d;exact ags (fO I q ρ)
  | bl j=>subst d;exact eq_bool (fO I q Th)
  | str j=>obtain⟨t',rfl⟩:=d;exact aga (fO I q ρ)
  | _=>exact absurd (hs) xr
 | int i =>
  obtain⟨t,rfl⟩:=e;cases y with
  | aF=>subst d;exact agr (fO I q ρ)
  | int j=>obtain⟨t',rfl⟩:=d;exact eq_int (fO I q Ji)
  | str j=>obtain⟨t',rfl⟩:=d;exact af' (fO I q ρ)
  | _=>exact absurd (hs) xr
 | str i =>
  obtain⟨t,rfl⟩:=e;cases y with
  | aF=>cases d;exact agm (fO I q ρ)
  | bl j=>cases d;exact af9 (fO I q ρ)
  | int j=>obtain⟨t',rfl⟩:=d;exact af8 (fO I q ρ)
  | str j=>obtain⟨t',rfl⟩:=d;exact eq_str (fO I q QI)
  | _=>exact absurd (hs) xr
 | jy i =>
  obtain⟨t,rfl⟩:=e;cases y with
  | jy j=>obtain⟨t',rfl⟩:=d;exact W.eq_bytes (fO I q JC)
  | _=>exact absurd (hs) xr
 | _=>cases y<;>exact absurd (show false=bi from hs) xr
def EX:bc X (o5 .Lt) (iK λi j=>.bl<|bd<|i<j):=vp λ_ _ _ _ _ _ _ q=>lt_int q
def Qp:bc X (o5 .Gt) (iK λi j=>.bl<|bd<|j<i):=vp λ_ _ _ _ _ _ _ q=>gt_int q
def Dx:bc X (o5 .Lt) (λx y H Q=>∃i j,x=.str i/\y=.str j/\Q (.bl<|bd<|i.cps.toList<j.cps.toList) H):=by intro pins s σ H x y v u Q I d e h;obtain⟨i,j,rfl,rfl,q⟩:=h;obtain⟨t,rfl⟩:=d;obtain⟨t',rfl⟩:=e;exact lt_str<|fO I q ρ
def SJ:bc X (o5 .In) (λx y H Q=>∃i j,x=.str i/\y=.str j/\Q (.bl<|!(LK j i 0 j.length 1).isEmpty) H):=by intro pins s σ H x y v u Q I d e h;obtain⟨i,j,rfl,rfl,q⟩:=h;obtain⟨t,rfl⟩:=d;obtain⟨t',rfl⟩:=e;exact in_str<|fO I q ρ
def bc.or (h:bc X f r)(h':bc X f e):bc X f (λx y H Q=>r x y H Q\/e x y H Q):=by
 intro d s g H x y v u Q I i j q;rcases q with q|q
 ·exact h d s g H x y v u Q I i j q
 exact h' d s g H x y v u Q I i j q
def lK(b)(h:op≠.In:=by decide)(h2:op≠.NotIn:=by decide):wy op b=bv:=by
 have d:(op==agR)=bv:=by simp_all
 have e:(op==afR)=bv:=by simp_all
 cases b<;>simp[wy,d,e]
def Ax (ho:bc X (o5 op) r)(e:PE X a ta)(f:PE X b tb)(hm:wy op b=bv):PE X (.Compare a [op] [b] pos) (lZ r ta tb):=by exact λd s g H Q I h=>wpAny_Compare1 (vH e f I h λv u i x y j k l m q=>ho d i g j x y v u Q k l m q) hm
def zw(t:TE):TT:=λd H Q=>t d H λx e=>∃k,x=.bl k/\Q k e
def pE (ho:bc X (o5 op) r)(g:PE X a ta)(i:PE X b tb)(hm:wy op b=bv):PT X (.Compare a [op] [b] pos) (zw<|lZ r ta tb):=by
 intro d s f H Q I h;refine wpAny_isTrue_Compare1 (aI (g d s f H _ I h) λv j ⟨x,l,m,n,o⟩=>aI (i d j f l _ m o) λu p ⟨y,q,t,w,A⟩ =>
  aI (ho d p f q x y v u _ t n w A) λc s3 ⟨z,B,C,D,k,e,E⟩=>?_) hm
 subst e;subst D;exact T' ⟨B,C,E⟩
def yB(r f:R2)(ta tb tc:TE):TE:=λd H Q=>ta d H λx g=>tb d g λy h=>r x y h λz e=>∃k,z=.bl k /\
 (if k=bi then tc d e λi j=>f y i j Q else Q (.bl false) e)
theorem Og (ho:bc X (o5 op) r)(l:bc X (o5 g) j)(q:PE X a ta)(t:PE X b tb)(w:PE X c tc)(hm:acK [op,g] [b,c]=bv:=by with_unfolding_all rfl):PE X (.Compare a [op,g] [b,c] pos) (yB r j ta tb tc):=by
 intro f s i H Q I h;refine Compare_chain (aI (q f s i H _ I h) λv A ⟨x,B,C,D,E⟩=>chain_link (aI (t f A i B _ C E) λu F ⟨y,G,J,m,K⟩ =>
  aI (ho f F i G x y v u _ J D m K) λd L ⟨z,n,o,M,k,e,p⟩=>?_)) hm
 subst e;subst M;apply T';cases k with
 | false=>exact ite_ff ⟨.bl false,n,o,ρ,p⟩
 | true=>exact ite_tt<|chain_last (aI (w f L i n _ o p) λN O ⟨P,R,S,T,U⟩=>l f O i R y P u N Q S m T U)
theorem M9 (ho:bc X (o5 op) r)(l:bc X (o5 g) j)(q:PE X a ta)(t:PE X b tb)(w:PE X c tc)(hm:acK [op,g] [b,c]=bv:=by with_unfolding_all rfl):PT X (.Compare a [op,g] [b,c] pos) (zw<|yB r j ta tb tc):=by
 intro f s i H Q I h;refine isTrue_chain (aI (q f s i H _ I h) λv A ⟨x,B,C,D,E⟩=>test_link (aI (t f A i B _ C E) λu F ⟨y,G,J,m,K⟩ =>
  aI (ho f F i G x y v u _ J D m K) λd L ⟨z,n,o,M,k,e,p⟩=>?_)) hm
 subst e;subst M;apply T';cases k with
 | false=>obtain⟨k',N,O⟩:=p;cases N;exact ite_ff ⟨n,o,O⟩
 | true=>refine ite_tt<|test_last (aI (w f L i n _ o p) λP R ⟨S,T,U,V,W⟩=>aI (l f R i T y S u P _ U m V W) λd' s5 ⟨z2,Y,Z,r5,k2,e2,q5⟩=>?_);subst e2;subst r5;exact T' ⟨Y,Z,q5⟩
def qB(K:gW)(x:V)(H:Hp)(k:Bool):Prop :=
 match x with
 | .aF=>k=bv
 | .bl b=>k=b
 | .int i=>k=(i != 0)
 | .str y=>y.length<=eu/\k=((y.length:Int) != 0)
 | .jy y=>y.size<=eu/\k=((y.size:Int) != 0)
 | .ref p=>(∃xs,cg K H p xs/\k=!xs.isEmpty)\/(∃xs,bq K H p xs/\k=!xs.isEmpty)\/∃kvs,H p=ac (.dK kvs)/\k=!kvs.isEmpty
 | _=>False
def OH (r:KV kvs vs):(!vs.isEmpty)=!kvs.isEmpty:=by
 cases r<;>rfl
def Cn (r:aJ xs its):(!its.toArray.isEmpty)=!xs.isEmpty:=by
 cases r<;>simp
def l9:(eu:Nat)<2 ^ 63:=by rw[KX];decide
theorem x9:Ll X (λx H Q=>∃k,qB X.K x H k/\Q k H):=by
 intro pins s σ H x v Q I f h;obtain⟨k,e,q⟩:=h;have hs:=KX;cases x with
 | aF=>subst f;have d:=e;subst d;exact truthy_none ⟨H,I,q⟩
 | bl b=>subst f;have d:=e;subst d;exact T' ⟨H,I,q⟩
 | int i=>obtain⟨t,rfl⟩:=f;have d:=e;subst d;exact PySem.P.truthy_int ⟨H,I,q⟩
 | str y=>obtain⟨t,rfl⟩:=f;obtain⟨o,d⟩:y.length<=eu/\k=((y.length:Int) != 0):=e;subst d;exact PySem.P.truthy_str ∅ ⟨H,I.tok _,q⟩
 | jy y=>obtain⟨t,rfl⟩:=f;obtain⟨o,d⟩:y.size<=eu/\k=((y.size:Int) != 0):=e;subst d;exact W.truthy_bytes (by lia) ⟨H,I.tok _,q⟩
 | ref p =>
  subst f;have d:=e;rcases d with⟨xs,g,d⟩|⟨xs,g,d⟩|⟨kvs,g,d⟩
  ·subst d;obtain⟨its,r,l,n⟩:=I.list g;have j:=r.length;exact wpAny_truthy_list l.isList (by simp only[kq];omega) ⟨H,I.tok _,by rw[Cn r];exact q⟩
  ·subst d;obtain⟨its,r,l,n⟩:=I.tuple g;have j:=r.length;exact truthy_tuple l (by simp only[kq];omega) ⟨H,I.tok _,by rw[Cn r];exact q⟩
  subst d;obtain⟨n,u,vs,r,m⟩:kvs.length<=eu/\(p==XP)=bv/\∃vs,KV kvs vs/\s.heap.DictOf (cJ X.prog X.w) p vs:=I.aq p _ g;have j:=Paired.length r;exact wpAny_truthy_dict u m ∅ ⟨H,I.tok _,by rw[OH r];exact q⟩
 | _=>exact (e).elim
def Il(i:PE X a ta)(j:∀d,adZ a X.env d=(do let v <-d;adi a.pos;aaj [v] (afw v))) :
  PT X a (λf H Q=>ta f H λx g=>∃k,qB X.K x g k/\Q k g):=by
 exact λe s f H Q I h=>isTrue_plain (aI (i e s f H _ I h) λv l ⟨x,m,n,o,p⟩=>x9 e l f m x v Q n o p)<|j _
def K1:bc X (aaL .Add) (λx y H Q=>∃i j,x=.str i/\y=.str j/\i.length+j.length<=eu/\Q (.str<|i++j) H):=by intro pins s σ H x y v u Q I d e h;obtain⟨i,j,rfl,rfl,f,q⟩:=h;obtain⟨t,rfl⟩:=d;obtain⟨t',rfl⟩:=e;exact add_str (λt' tk=>⟨.str<|i++j,H,I.tok _,⟨_,ρ⟩,q⟩) f
theorem vals1 (r:aJ [x] us):∃u,us=[u]/\RelV x u:=by
 cases r with
 | cons d e=>cases e;exact⟨_,ρ,d⟩
theorem vals2 (r:aJ [x,y] us):∃u d,us=[u,d]/\RelV x u/\RelV y d:=by
 cases r with
 | cons e f =>
  cases f with
  | cons g h=>cases h;exact⟨_,_,ρ,e,g⟩
def RD(e:X.calm=bi):bD X (.builtin "max") (λxs H Q=>∃i j,xs=[.int i,.int j]/\Q (.int (if j>i then j else i)) H):=by
 intro pins s σ H xs us Q I r h;obtain⟨i,j,rfl,q⟩:=h;obtain⟨u,w',rfl,⟨t,rfl⟩,⟨t',rfl⟩⟩:=vals2 r;refine max_two_ints (I.ok.hd e) λh' tk k=>⟨_,H,I.kept k,?_,q⟩;by_cases d:j>i
 ·rw[if_pos d,if_pos d];exact⟨_,ρ⟩
 rw[if_neg d,if_neg d];exact⟨_,ρ⟩
def Q3(e:X.calm=bi):bD X (.builtin "min") (λxs H Q=>∃i j,xs=[.int i,.int j]/\Q (.int (if j<i then j else i)) H):=by
 intro pins s σ H xs us Q I r h;obtain⟨i,j,rfl,q⟩:=h;obtain⟨u,w',rfl,⟨t,rfl⟩,⟨t',rfl⟩⟩:=vals2 r;refine min_two_ints (I.ok.hd e) λh' tk k=>⟨_,H,I.kept k,?_,q⟩;by_cases d:j<i
 ·rw[if_pos d,if_pos d];exact⟨_,ρ⟩
 rw[if_neg d,if_neg d];exact⟨_,ρ⟩
def TK:bD X (.type "int") (λxs H Q=>(∃i,xs=[.int i]/\Q (.int i) H)\/∃k,xs=[.bl k]/\Q (.int (if k then 1 else 0)) H):=by
 intro pins s σ H xs us Q I r h;rcases h with⟨i,rfl,q⟩|⟨k,rfl,q⟩
 ·obtain⟨u,rfl,t,rfl⟩:=vals1 r;exact call_int_int ⟨.int i,H,I,⟨_,ρ⟩,q⟩
 obtain⟨u,rfl,d⟩:=vals1 r;subst d;exact call_int_bool ⟨.int (if k then 1 else 0),H,I.tok _,⟨_,ρ⟩,q⟩
end
theorem iN.some_of (r:iN (ac v) o):∃u,o=ac u/\RelV v u:=by
 cases o with
 | none=>exact (r).elim
 | some u=>exact⟨u,ρ,r⟩
structure cb (k:Nat) (A:pk):Prop where
 hd:A.handled=am
 dp:A.depth+3*k+5<recursionLimit
 un:A.units+16*k+200<vv
def cb.mono (r:cb k A)(h:j<=k):cb j A:=⟨r.hd,by have:=r.dp;omega,by have:=r.un;omega⟩
def cb.deeper (r:cb (k+1) A)(env:Env):cb k (A.deeper env) :=
 ⟨r.hd,by have:=r.dp;show A.depth+1+3*k+5<_;omega,by have:=r.un;show A.units+3+16*k+200<_;omega⟩
def cb.depth (r:cb k A):A.depth<recursionLimit:=by have:=r.dp;omega
def pQ:TA:=λ_ H Q=>Q [] H
def lV(b:TE)(tr:TA):TA:=λa H Q=>b a H λx c=>tr a c λxs d=>Q (x::xs) d
section
variable{X:Cx}{e:hQ}{es:List hQ}{te:TE}{t:TA}{pos:z5}
def dW:PA X [] pQ:=λ_ _ _ _ H Q I h=>aey ⟨[],H,I,.nil,h⟩
def bX(c:PE X e te)(d:PA X es t)(hs:bC X e es:=by rfl):PA X (e::es) (lV te t):=by intro pos a s b H Q I h;rw[hs];refine acx (aI (c a s b H _ I h) λu f e=>?_);obtain⟨x,g,i,j,k⟩:=e;exact aI (d pos a f b g _ i k) λus s2 ⟨xs,l,m,n,o⟩=>⟨x::xs,l,m,.cons j n,o⟩
def y8(t:TA):TE:=λb H Q=>t b H λxs a=>xs.length<=eu/\∀p,a p=am->Q (.ref p) (upd a p<|.U xs)
def Et(t:TA):TE:=λb H Q=>t b H λxs a=>xs.length<=eu/\∀p,a p=am->Q (.ref p) (upd a p<|.L xs)
def rh{g}(h:PA X es t):PE X (.Tuple es g pos) (y8 t):=by refine λc s i H Q I j=>wpAny_Tuple_spliced (aI (h pos c s i H _ I j) λus a ⟨xs,d,f,r,z,q⟩=>⟨by rw[<-r.length];exact z,?_⟩);refine⟨.ref a.heap.objs.size,upd d a.heap.objs.size<|.U xs,f.laid (λb u e=>fA _ e) (ft _) ?_,ρ,q _<|f.aq.fresh<|ft _⟩;exact⟨z,us,r,⟨_,lD _ ρ,ρ,_,ρ⟩⟩
def yG(h:PA X es t):PE X (.List es pos) (Et t):=by refine λc s g H Q I i=>wpAny_List_spliced (aI (h pos c s g H _ I i) λus a ⟨xs,d,f,r,z,q⟩=>⟨by rw[<-r.length];exact z,?_⟩);refine⟨.ref a.heap.objs.size,upd d a.heap.objs.size<|.L xs,f.laid (λb u e=>fA _ e) (ft _) ?_,ρ,q _<|f.aq.fresh<|ft _⟩;exact⟨z,us,0,r,lD _ ρ⟩
end
abbrev Sp:=List V->Hp->VK->XK->Prop
abbrev iQ:=List Env->Hp->eK->XK->dk->eK->Prop
structure uK (P:lq) (w:qh) (K:gW) (mg:eT->Option dk) (base:pq) (A:pk) (outer:List Env) (s:eK) (H:Hp):Prop where
 frames:A.frames=ac outer
 mod:Mod K mg base
 bs:∀b o,base.get? b=ac o->s.heap.get? b=ac o/\H b=am
 je:base.objs.size<=s.heap.objs.size
 gR:s.heap.FunFrames base outer
 kF:∀b∈dm outer,H b=am
 aq:cp P w H s.heap
 bare:acs s.gens
def CE(outer:List Env)(P:lq)(w:qh)(H:Hp)(s:eK)(Q:VK)(u:dk)(s':eK):Prop :=
 ∃v a,s'.os=s.os/\acs s'.gens/\Un (dm outer) [] H a s.heap s'.heap/\cp P w a s'.heap/\RelV v u/\Q v a
def CR(CX:iQ)(outer:List Env)(P:lq)(w:qh)(H:Hp)(s:eK)(Q:VK)(E:XK)(r:adx)(s':eK):Prop :=
 match r with
 | .ok (.ret u)=>CE outer P w H s Q u s'
 | .ok _=>False
 | .error e=>CX outer H s E e s'
structure aS (P:lq) (w:qh) (K:gW) (mg:eT->Option dk) (base:pq) (CX:iQ) (k:Nat) (f:eH) (fd:hU) (ps:List eT) (sp:Sp):Prop where
 len:∀vs H Q E,sp vs H Q E->vs.length=ps.length
 run:∀(A:pk) (outer:List Env) (s:eK) (H:Hp) (args:Args) (us:List dk) (vs:List V) (Q:VK) (E:XK),cb k A->uK P w K mg base A outer s H->aeS s fd args (ps.zip us)->aJ vs us->sp vs H Q E ->
  abz (k7 P w) A (.call (.ref f) args) (CR CX outer P w H s Q E) s
def aS.imp{P:lq}{w:qh}{K:gW}{mg:eT->Option dk}{base:pq}{CX:iQ}{k:Nat}{f:eH}{b:hU}{c:List eT}{sp a:Sp}(F:aS P w K mg base CX k f b c sp)
 (h:∀vs H Q E,a vs H Q E->sp vs H Q E):aS P w K mg base CX k f b c a :=
 ⟨λvs H Q E q=>F.len vs H Q E<|h _ _ _ _ q,λA outer s H args us vs Q E d e g i hs=>F.run A outer s H args us vs Q E d e g i<|h _ _ _ _ hs⟩
section
variable{X:Cx}{pins:List (eH×C1)}{σ:St}{H:Hp}{s s':eK}
def Inv.HN(I:Inv X pins σ H s):uK X.prog X.w X.K X.mg X.base X.A X.stack s H :=
 ⟨I.ok.frames,I.ok.mod,I.bs,px I.ok.je I.sz,I.stack,I.zV,I.aq,I.bare⟩
def Inv.after (I:Inv X pins σ H s)(h:CE X.stack X.prog X.w H s Q u s'):EP X pins σ Q u s':=by obtain⟨v,c,os,bare,un,aq,r,q⟩:=h;obtain⟨hh,g,d,t,a⟩:=s';obtain rfl:a=s.os:=os;exact⟨v,c,I.call un aq bare (λb z=>absurd z ⋯),r,q⟩
end
def L8(sp:Sp)(a:List V)(E:XK)(t:TA):TE:=λb H Q=>t b H λvs c=>sp (vs++a) c Q E
def Binds(K:gW)(b:hU)(a:List eT)(ds:List dk):Prop :=
 ∀(s:eK) (us:List dk),K.In s.heap->(us++ds).length=a.length->aeS s b ⟨us,[]⟩ (a.zip<|us++ds)
def Binds.all{K:gW}{b:hU}{a:List eT}(h:∀us:List dk,us.length=a.length->ad0 b ⟨us,[]⟩=pure (a.zip us)):Binds K b a []:=λs us _ hl=>by rw[wa] at hl ⊢;exact .of_eq<|h us hl
def tQ(CX:iQ)(X:Cx)(E:XK):Prop:=∀(a:List (eH×C1)) (b:St) (H:Hp) (s:eK) (e:dk) (s':eK),Inv X a b H s->CX X.stack H s E e s'->X.xe e s'
section
variable{X:Cx}{CX:iQ}{k:Nat}{f C:eH}{fd:hU}{ps:List eT}{sp:Sp}{dvs:List V}{ds:List dk}{E:XK}{x m:eT}{p pos apos:z5}{e o:hQ}{es:List hQ}{ta:TE}{t:TA}
theorem LF (F:aS X.prog X.w X.K X.mg X.base CX k f fd ps sp)(g:cb k X.A)(i:Binds X.K fd ps ds)(hd:aJ dvs ds)(j:tQ CX X E)(I:Inv X a c H s)(r:aJ vs us)(h:sp (vs++dvs) H Q E):ka (k7 X.prog X.w) X.A (call (.ref f) us) (EP X a c Q) X.xe s:=by
 have d:=r.append hd;have hl:(us++ds).length=ps.length:=by rw[<-d.length];exact F.len _ _ _ _ h
 refine aft (aby (F.run X.A X.stack s H ⟨us,[]⟩ (us++ds) (vs++dvs) Q E g I.HN (i s us I.d9 hl) d h) λr s' b=>?_);cases r with
 | error e=>exact j a c H s e s' I b
 | ok l =>
  cases l with
  | ret u=>exact I.after b
  | next=>exact ZG b
  | brk=>exact ZG b
  | cont=>exact ZG b
def GH(F:aS X.prog X.w X.K X.mg X.base CX k f fd ps sp)(g:cb k X.A)(i:Gl X x)(hm:X.mg x=ac (.ref f))(j:abA X.K (.ref f)=bi)(l:Binds X.K fd ps ds)(hd:aJ dvs ds)(n:tQ CX X E)
 (u:PA X (e::es) t)(b:bA x:=by decide)(v:bC X e es:=by rfl)(c:(Hz pos<|ma es X.env).any (·.1)=bv:=by rfl) :
  PE X (.Call (.Name x p) (e::es) [] pos) (L8 sp dvs E t):=by
 refine λa s y H Q I h=>abK<|qF I i hm ?_ b;refine agO I.ok.mod.qV j (aI (u pos a s y H _ I h) λus s1 ⟨vs,H1,d,r,q⟩=>⟨d.d9,?_⟩) v c;exact LF F g l hd n d r q
end
structure br (N P:List eT) (sc:aaf):Prop where
 kind:sc.kind=.function
 co:sc.isCoroutine=bv
 gen:sc.isGenerator=bv
 nd:N.Nodup
 pre:N.take P.length=P
 par:∀x∈P,sc.names.lookup x=some .local\/sc.names.lookup x=some .cell
 SW:∀y∈sc.names,y.2≠.free
theorem Gg{abw:eT->Option acH}:∀{binds:List (eT×dk)}{m:eT->Option dk},(∀v,(x,v)∉binds)->aev abw binds m x=m x
 | [],_,_=>rfl
 | (n,v)::r,m,h=>by
  dsimp only[aev];rw[Gg λw hw=>h w<|fk _ hw];split
  ·have:x≠n:=by rintro rfl;exact h v eN
   simp[this]
  rfl
theorem GZ{abw:eT->Option acH}:∀{binds:List (eT×dk)}{m:eT->Option dk},(∀v,(x,v)∉binds)->aew abw binds m x=m x
 | [],_,_=>rfl
 | (n,v)::r,m,h=>by
  dsimp only[aew];rw[GZ λw hw=>h w<|fk _ hw];split
  ·rfl
  have:x≠n:=by rintro rfl;exact h v eN
  simp[this]
theorem Bf{abw:eT->Option acH}:∀{P:List eT}{vs:List dk}{i:Nat}{m:eT->Option dk},P.Nodup->P[i]?=ac x->vs[i]?=ac v->abw x=some .local ->
  aev abw (P.zip vs) m x=ac v
 | [],_,_,_,_,h,_,_=>by simp at h
 | _::_,[],_,_,_,_,h,_=>by simp at h
 | p::P,w::vs,0,m,nd,a,b,c=>by simp at a b;subst a;subst b;show aev abw ((p,w)::P.zip vs) m p=_;dsimp only[aev];rw[Gg λv d=>(sk.1 nd).1 (ab' d).1,if_pos c];simp
 | p::P,w::vs,i+1,m,nd,a,b,c=>by unfold aev;exact Bf (sk.1 nd).2 (a) (b) c
theorem CQ{abw:eT->Option acH}:∀{P:List eT}{vs:List dk}{i:Nat}{m:eT->Option dk},P.Nodup->P[i]?=ac x->vs[i]?=ac v->abw x≠some .local ->
  aew abw (P.zip vs) m x=ac v
 | [],_,_,_,_,h,_,_=>by simp at h
 | _::_,[],_,_,_,_,h,_=>by simp at h
 | p::P,w::vs,0,m,nd,a,b,c=>by simp at a b;subst a;subst b;show aew abw ((p,w)::P.zip vs) m p=_;dsimp only[aew];rw[GZ λv d=>(sk.1 nd).1 (ab' d).1,if_neg c];simp
 | p::P,w::vs,i+1,m,nd,a,b,c=>by unfold aew;exact CQ (sk.1 nd).2 (a) (b) c
noncomputable def start(N:List eT)(vs:List V):St:=vs.map ac++zc (N.length-vs.length) am
noncomputable def dQ(CX:iQ)(P:lq)(w:qh)(K:gW)(mg:eT->Option dk)(base:pq)(N:List eT)(a:eT)(scope:aaf)(f:eH)(cd:dk)(A:pk)(outer:List Env)(s:eK)(H:Hp)(E:XK):Cx where
 prog:=P
 w:=w
 K:=K
 mg:=mg
 base:=base
 A:=A.deeper<|aaJ a scope s.heap.objs.size f cd
 N:=N
 cR:=s
 sA:=H
 env:=aaJ a scope s.heap.objs.size f cd
 outer:=outer
 stack:=aaJ a scope s.heap.objs.size f cd::outer
 ex:=[]
 calm:=true
 fn:=λ_=>true
 pn:=[]
 xe:=λe s'=>ka (k7 P w) (A.deeper<|aaJ a scope s.heap.objs.size f cd) (leaving (aaJ a scope s.heap.objs.size f cd) e) (λ_ b=>CX outer H s E e b) (λc b=>CX outer H s E c b) s'
def Cj{a:aaf}{n:Nat}{x:eT}(h:a.names.lookup x=some .cell):∃c,(af2 n a.names []).lookup x=ac c:=by exact ZW.1<|afC a.names n []<|ι h
def Pd{CX:iQ}{P:lq}{w:qh}{K:gW}{mg:eT->Option dk}{base:pq}{N g:List eT}{d:eT}{scope:aaf}{f:eH}{cd:dk}{A:pk}{outer:List Env}{s C:eK}{H:Hp}{E:XK}{us:List dk}{vs:List V}
 (S:br N g scope)(hd:A.handled=am)(a:uK P w K mg base A outer s H)(hl:vs.length=g.length)(r:aJ vs us)
 (x:InCallC s s.heap.objs.size (aev (aaJ d scope s.heap.objs.size f cd).kindOf (g.zip us) λ_=>am) (af2 (s.heap.objs.size+1) scope.names []) (aew (aaJ d scope s.heap.objs.size f cd).kindOf (g.zip us) λ_=>am) C) :
  Inv (dQ CX P w K mg base N d scope f cd A outer s H E) [] (start N vs) H C:=by
 have hpl:g.length<=N.length:=by have:=congrArg List.length S.pre;grind
 obtain⟨o,tk,rfl,D⟩:=x.done;have l:∀b:eH,b∉(dQ CX P w K mg base N d scope f cd A outer s H E).ex:=λb z=>absurd (show b∈([]:List eH) from z) ⋯
 refine⟨⟨a.mod,S.kind,ρ,ρ,ft _,λy z c o B=>?_,λy j=>?_,λy c _ h=>?_,λ_=>hd,Around.frames_deeper a.frames,τ ⟨ρ,ρ⟩,λb z=>absurd z<|l b,a.bs,a.je,λb _ _=>l b,λb z=>absurd z<|l b,a.gR,a.kF⟩,
  ρ,a.bare,Un.kept D,⟨_,x.toInCall.ns,λi y v o B h3=>?_⟩,λy c h=>⟨_,x.cell y c h⟩,a.aq.fresh<|ft _,λy c h=>?_,λp m=>absurd (show p∈([]:List (eH×C1)) from m) ⋯,a.aq.kept D,?_⟩
 ·exact name_of_addr x.apart (aau o)<|aau B
 ·have j:=j;rcases j with j|j
  ·exact Cj j
  exact absurd ρ<|S.SW _<|aau j
 ·exact ab9<|x.above y c<|aau h
 ·have F:i<vs.length:=by
   unfold start at B;by_cases F:i<vs.length
   ·exact F
   simp_all [ph,abS]
  have I:vs[i]?=ac v:=by simp_all [start,qt]
  obtain⟨u,G,J⟩:=r.get I;have m:g[i]?=ac y:=by rwa[<-S.pre,adD ∅]
  have t:g.Nodup:=by rw[<-S.pre];exact S.nd.sublist<|aaM _ _
  refine⟨u,J,?_⟩;rcases S.par y (fB m) with k|k
  ·exact ι ⟨k,Bf t m G k⟩
  obtain⟨c,e⟩:=Cj k;refine τ ⟨ι k,c,e,?_⟩;have q:=x.cell y c e;rw[CQ t m G (by show scope.names.lookup y≠_;rw[k];decide)] at q;exact q
 ·exact a.aq.fresh<|ab9<|x.above y c<|aau h
 unfold start;show _=N.length;simp_all
theorem C2{CX:iQ}{P:lq}{w:qh}{K:gW}{mg:eT->Option dk}{base:pq}{k:Nat}{f:eH}{name a:eT}{d:Arguments}{body:List ZZ}{scope:aaf}{F kV p pm c ct U:dk}{G X:Option eH}
 {L:Array (Option dk)}{N j:List eT}{sp:Sp}(lk:K.lookup f=ac ⟨U,X,.func<|acR name a d body scope F kV p pm G c ct,L⟩)(M:af6 K c a=bi)(S:br N j scope)
 (len:∀vs H Q E,sp vs H Q E->vs.length=j.length)
 (l:∀(A:pk) (outer:List Env) (s:eK) (H:Hp) (vs:List V) (Q:VK) (E:XK),cb k (A.deeper<|aaJ a scope s.heap.objs.size f c)->sp vs H Q E ->
   ∃t,fm (dQ CX P w K mg base N a scope f c A outer s H E) body t/\t {nx:=λ_ g=>Q .aF g,rt:=Q} (start N vs) H) :
  aS P w K mg base CX (k+1) f (acR name a d body scope F kV p pm G c ct) j sp:=by
 refine⟨len,λA outer s H args us vs Q E C i Y r z=>?_⟩;have hl:=len _ _ _ _ z;have O:=i.mod.qV.keeps λb o e=>(i.bs b o e).1;have R:=i.mod.nolimit.keeps λb o e=>(i.bs b o e).1;have m:∀y∈j.zip us,scope.names.lookup y.1=some .local\/(scope.names.lookup y.1=some .cell/\((af2 (s.heap.objs.size+1) scope.names []).lookup y.1).isSome=bi):=λ⟨n,v⟩ Z=>by
  rcases S.par n (ab' Z).1 with q|q
  ·exact ι q
  exact τ ⟨q,afC _ _ _<|ι q⟩
 refine codeAny_call_function C.depth (O _ _ lk) ρ S.co S.gen ρ (W.codeRec_of O M)<|Y _ _ _ _ ?_;refine wpAny_newFunctionEnv_cells S.kind m λenv he T x=>?_;subst he;refine⟨R.keeps x.toInCall.keep,codeAny_func ?_⟩;obtain⟨t,ht,hq⟩:=l A outer s H vs Q E (C.deeper _) z;have I:Inv (dQ CX P w K mg base N a scope f c A outer s H E) [] (start N vs) H T:=Pd S C.hd i hl r x;refine Dt (ht [] T (start N vs) H _ I hq) (λfl s' hs=>?_) λe s' hs=>hs;have B:∀{h:St}{g:Hp}{v:V}{u:dk},Inv (dQ CX P w K mg base N a scope f c A outer s H E) [] h g s'->RelV v u->Q v g->CE outer P w H s Q u s' :=
  λ{h g v u} J D q=>⟨v,g,J.os,J.bare,J.base,J.aq,D,q⟩
 cases fl with
 | ret u=>obtain⟨v,h,g,J,D,q⟩:=hs;exact B J D q
 | next=>obtain⟨h,g,J,q⟩:=hs;exact B (v:=V.aF) J ρ q
 | brk=>obtain⟨_,_,_,q⟩:=hs;exact ZG q
 | cont=>obtain⟨_,_,_,q⟩:=hs;exact ZG q
section
variable{X:Cx}{x:eT}{p pos:z5}{e:hQ}{es:List hQ}{t:TA}{id T:String}{r:List V->Hp->VK->Prop}
def uG(r:List V->Hp->VK->Prop)(t:TA):TE:=λa H Q=>t a H λvs b=>r vs b Q
def jO(f:bD X (.builtin id) r)(g:Gl X x)(hm:X.mg x=am)(i:ZL x=ac (.builtin id))(j:PA X (e::es) t)(k:x≠"__name__":=by decide)(b:bA x:=by decide)
 (l:bC X e es:=by rfl)(c:(Hz pos<|ma es X.env).any (·.1)=bv:=by rfl):PE X (.Call (.Name x p) (e::es) [] pos) (uG r t):=by
 refine λa s d H Q I h=>abK<|nP I g hm i ?_ k b;exact agB (aI (j pos a s d H _ I h) λus m ⟨vs,n,o,q,u⟩=>f a m d n vs us Q o q u) l c
def rl(f:bD X (.type T) r)(g:Gl X x)(hm:X.mg x=am)(i:ZL x=ac (.type T))(j:PA X (e::es) t)(k:x≠"__name__":=by decide)(b:bA x:=by decide)
 (l:bC X e es:=by rfl)(c:(Hz pos<|ma es X.env).any (·.1)=bv:=by rfl):PE X (.Call (.Name x p) (e::es) [] pos) (uG r t):=by
 refine λa s d H Q I h=>abK<|nP I g hm i ?_ k b;exact aaa (aI (j pos a s d H _ I h) λus m ⟨vs,n,o,q,u⟩=>f a m d n vs us Q o q u) l c
end
section
open PySem.SeqAt
open PySem.AutoSeq1 (wpAny_loadPart')
open PySem.MeetsSeq PySem.MeetsSeq2 PySem.MeetsSeq3
end
section
variable{prog:lq}{w:qh}{A:pk}{E:dk->eK->Prop}{s:eK}{X:Cx}{e:hQ}{te:TE}{lo hi:Option hQ}{tl th:TO}{pos p2:z5}
noncomputable def eI(n d:Nat):Option Int->Nat
 | none=>d
 | some v=>if v<0 then (v+(n:Int)).toNat else min v.toNat n
def DJ(n d):eI n d am=d:=ρ
def Ft(n d k:Nat):eI n d (ac (k:Int))=min k n:=by rfl
abbrev TO:=St->Hp->(Option Int->Hp->Prop)->Prop
def PO(X:Cx)(e:Option hQ)(t:TO):Prop :=
 ∀(a:List (eH×C1)) (s:eK) (b:St) (H:Hp) (Q:Option Int->Hp->Prop),Inv X a b H s->t b H Q ->
  ka (k7 X.prog X.w) X.A (evalPart e X.env) (λu s'=>∃o c,Inv X a b c s'/\IsPart u o/\Q o c) X.xe s
def Ib:TO:=λ_ H Q=>Q am H
def Nd(t:TE):TO:=λa H Q=>t a H λx b=>∃i,x=.int i/\Q (ac i) b
def JH:PO X am Ib:=by exact λpins s σ H Q I h=>gi ⟨am,H,I,.none,h⟩
def T4(h:PE X e te):PO X (ac e) (Nd te):=by refine λa s b H Q I hw=>aI (h a s b H _ I hw) λu s1 e=>?_;obtain⟨x,c,d,f,g⟩:=e;obtain⟨i,rfl,q⟩:=g;obtain⟨t,rfl⟩:=f;exact⟨ac i,c,d,.int i t,q⟩
def GX(X:Cx)(r:V->Option Int->Option Int->Hp->VK->Prop):Prop :=
 ∀(a:List (eH×C1)) (s:eK) (b:St) (H:Hp) (x:V) (v c d:dk) (lo hi:Option Int) (sl:eH) (Q:VK),Inv X a b H s->RelV x v->s.heap.IsSliceOf sl c d .none->IsPart c lo->IsPart d hi->r x lo hi H Q ->
  ∃T id,abL (.type T) "__getitem__"=pure (ac<|.builtin id)/\s.TypeIs v T/\ka (k7 X.prog X.w) X.A (adQ v<|.ref sl) (EP X a b Q) X.xe s
def Jc(r:V->Option Int->Option Int->Hp->VK->Prop)(te:TE)(tl th:TO):TE:=λa H Q=>te a H λx b=>tl a b λl c=>th a c λu d=>r x l u d Q
def OX (j:GX X r)(k:PE X e te)(hl:PO X lo tl)(m:PO X hi th):PE X (.Subscript e (.Slice lo hi am p2) pos) (Jc r te tl th):=by refine λa s d H Q I h=>ad7 (aI (k a s d H _ I h) λv n g=>?_);obtain⟨x,o,p,t,y⟩:=g;refine wpAny_Slice (aI (hl a n d o _ p y) λf z ⟨l,B,C,D,F⟩=>aI (m a z d B _ C F) λg c h=>?_);obtain⟨u,i,G,J,K⟩:=h;apply gi;have L:Inv X a d i {c with heap:=c.heap.push {cls:=.type "slice",data:=.fields #[f,g,.none]} }:=G.kept (t':=c.toks) λb ob q=>fA _ q;obtain⟨T,id,M,N,O⟩:=j a {c with heap:=c.heap.push {cls:=.type "slice",data:=.fields #[f,g,.none]} } d i x v f g l u c.heap.objs.size Q L t (ade ..) D J K;exact agS N M O (by with_unfolding_all rfl)
def lB(xs:List V)(lo hi:Option Int):List V:=(xs.drop<|eI xs.length 0 lo).take (eI xs.length xs.length hi-eI xs.length 0 lo)
def Kb(xs)(lo hi):(lB xs lo hi).length<=xs.length:=by delta lB;rw[l5,y4];lia
end
noncomputable def fh(n:Nat)(i:Int):Option Nat:=if 0<=i then (if i<n then ac i.toNat else am) else if -(n:Int)<=i then ac (i+n).toNat else am
def dc (xs:List a)(i:Int):Option a:=(fh xs.length i).bind λj=>xs[j]?
def AK (h:fh n i=ac j):seqIndex? i n=ac j/\j<n/\-(n:Int)<=i/\i<n:=by
 delta fh at h;by_cases b:0<=i
 ·rw[if_pos b] at h;by_cases a:i<n
  ·rw[if_pos a] at h;have e:=Option.some.inj h;exact⟨by rw[ae' b a,e],∅,∅,a⟩
  rw[if_neg a] at h;exact nO h
 rw[if_neg b] at h;by_cases a:-(n:Int)<=i
 ·rw[if_pos a] at h;have e:=Option.some.inj h;exact⟨by rw[aeH ∅ a,e],∅,a,∅⟩
 rw[if_neg a] at h;exact nO h
theorem wC{a:Type}{xs:List a}{i:Int}{v:a}(h:dc xs i=ac v):∃j,seqIndex? i xs.length=ac j/\xs[j]?=ac v/\j<xs.length/\-(xs.length:Int)<=i/\i<xs.length:=by
 delta dc at h;cases e:fh xs.length i with
 | none=>rw[e] at h;exact nO h
 | some j=>rw[e] at h;obtain⟨b,c,d,f⟩:=AK e;exact⟨j,b,h,c,d,f⟩
def iO{a:Type}{xs:List a}{j:Nat}{v:a}(h:xs[j]?=ac v):dc xs (j:Int)=ac v:=by have hj:=(bt.1 h).1;simp_all [fh,dc]
def Vd (xs:List a)(v:a):dc (xs++[v]) (-1)=ac v:=by
 have hl:(xs++[v]).length=xs.length+1:=⋯
 have e:fh (xs++[v]).length (-1)=ac xs.length:=by
  delta fh;rw[hl,if_neg ⋯,if_pos (by lia)]
  congr 1;lia
 delta dc;simp only[e];simp
def kZ(b:hQ):Prop:=∀o i,adA b false o i=operate [o,i] (adQ o i)
def kE(X:Cx)(r:R2):Prop :=
 ∀(value slice:hQ) (a:List (eH×C1)) (s:eK) (b:St) (H:Hp) (x y:V) (v u:dk) (Q:VK),Inv X a b H s->RelV x v->RelV y u->r x y H Q ->
  adA slice false v u=operate [v,u] (adQ v u)->ka (k7 X.prog X.w) X.A (aeo value slice v u) (EP X a b Q) X.xe s
def pS(X:Cx)(id:String)(r:V->List V->Hp->VK->Prop):Prop :=
 ∀(a:List (eH×C1)) (s:eK) (b:St) (H:Hp) (x:V) (xs:List V) (v:dk) (us:List dk) (Q:VK),Inv X a b H s->RelV x v->aJ xs us->r x xs H Q ->
  ka (k7 X.prog X.w) X.A (call (.builtin id) (v::us)) (EP X a b Q) X.xe s
section
variable{X:Cx}{a b:hQ}{ta tb:TE}{pos:z5}
def kE.or (h:kE X r)(h':kE X d):kE X (λx y H Q=>r x y H Q\/d x y H Q):=by
 intro value slice c s e H x y v u Q I f g q hs;rcases q with q|q
 ·exact h value slice c s e H x y v u Q I f g q hs
 exact h' value slice c s e H x y v u Q I f g q hs
def oO (d:kE X r)(e:PE X a ta)(f:PE X b tb)(hs:kZ b):PE X (.Subscript a b pos) (lZ r ta tb):=by exact λc s g H Q I h=>ad7 (vH e f I h λv u i x y j k l m q=>d a b c i g j x y v u Q k l m q<|hs _ _)
def Ag(K:gW):R2:=λx y H Q=>∃p xs i v,x=.ref p/\y=.int i/\cg K H p xs/\dc xs i=ac v/\Q v H
def yz(K:gW):R2:=λx y H Q=>∃p xs i v,x=.ref p/\y=.int i/\bq K H p xs/\dc xs i=ac v/\Q v H
def Aq:R2:=λx y H Q=>∃z i c,x=.str z/\y=.int i/\z.length<=eu/\dc z.cps.toList i=ac c/\Q (.str ⟨#[c]⟩) H
def vI:kE X (Ag X.K):=by
 intro value slice c s k H x y v u Q I o A h hs;obtain⟨p,xs,i,z,rfl,rfl,B,C,q⟩:=h;subst o;obtain⟨t,rfl⟩:=A;obtain⟨its,r,f,hz⟩:=I.list B;obtain⟨j,d,D,h3,E,F⟩:=wC C;obtain⟨w,l,m⟩:=r.get D;have hl:=r.length;have hn:=l9;have e:EP X c k Q w s:=⟨z,H,I,m,q⟩;by_cases n:0<=i
 ·have g:i.toNat=j:=by rw[ae' n F] at d;exact Option.some.inj d
  exact item_listR f.isList n ∅ (by rw[g];simpa using l) e hs
 have g:(i+(its.toArray.size:Int)).toNat=j:=by rw[aeH ⋯ E] at d;rw[kq,<-hl];exact Option.some.inj d
 exact aeT f.isList.typeIs adj.lookup
  (wpAny_getItem_list_neg f.isList ⋯ (by rw[kq]<;>omega) (by lia) (by rw[g];simpa using l) ⟨ρ,e⟩) hs
def vS:kE X (yz X.K):=by
 intro value slice c s d H x y v u Q I k l h hs;obtain⟨p,xs,i,z,rfl,rfl,m,n,q⟩:=h;subst k;obtain⟨t,rfl⟩:=l;obtain⟨its,r,e,hz⟩:=I.tuple m;obtain⟨j,o,A,h3,h4,h5⟩:=wC n;obtain⟨w,B,f⟩:=r.get A;have hl:=r.length;have hn:=l9;have g:EP X c d Q w s:=⟨z,H,I,f,q⟩;exact aeT e.typeIs slot_tuple_getitem.lookup
  (getItem_tuple e (by lia) (by lia) (by rw[kq,<-hl];exact o) (by simpa using B) ⟨ρ,g⟩) hs
def Eu(K:gW):R2:=λx y H Q=>Ag K x y H Q\/yz K x y H Q\/Aq x y H Q
def AI:kE X (Eu X.K):=vI.or (vS.or (by
  intro value slice pins s σ H x y v u Q I e f h hs;obtain⟨z,i,c,rfl,rfl,hz,g,q⟩:=h;obtain⟨t,rfl⟩:=e;obtain⟨t',rfl⟩:=f;obtain⟨j,d,k,h3,l,m⟩:=wC g;have hl:z.cps.toList.length=z.length:=by simp[Str.length]
  rw[hl] at d l m;have hn:=l9;exact agS (typeIs_str s z t) slot_str_getitem.lookup (getItem_str (by lia) (by rw[d];simpa using k) ⟨.str ⟨#[c]⟩,H,I.tok _,⟨_,ρ⟩,q⟩) hs))
def Rx(its:List dk)(n j:Nat)(u:dk):aa0 (·.setIfInBounds j u) {cls:=.type "list",data:=.seq its.toArray n}={cls:=.type "list",data:=.seq (its.set j u).toArray n}:=by simp[aa0]
def Inv.L (I:Inv X c d H s)(h:H p=ac (.L xs)) :
  ∃(its:List dk) (n:Nat),aJ xs its/\s.heap.get? p=ac {cls:=.type "list",data:=.seq its.toArray n}/\xs.length<=sizeLine:=by
 obtain⟨z,its,n,r,e⟩:=I.aq p _ h;exact⟨its,n,r,e,z⟩
def Inv.J1{c:List (eH×C1)}{g:St}{H:Hp}{s:eK}{p:eH}{xs ys:List V}{its its':List dk}{n d:Nat}{f:C1->C1}(I:Inv X c g H s)(h:H p=ac (.L xs))
 (ho:s.heap.get? p=ac {cls:=.type "list",data:=.seq its.toArray n})(i:f {cls:=.type "list",data:=.seq its.toArray n}={cls:=.type "list",data:=.seq its'.toArray d})(r:aJ ys its')(j:ys.length<=eu)(t:Nat) :
  Inv X c g (upd H p<|.L ys) {s with heap:=s.heap.update p f,toks:=t}:=by
 have e:(s.heap.update p f).get? p=ac {cls:=.type "list",data:=.seq its'.toArray d}:=by rw[acb f ho (by rw[i]<;>rfl),i]
 apply I.write (by rw[h];trivial) (ι ρ) (λb u k q=>(aad _ _<|Ne.symm k).trans q) ⟨_,e⟩;exact⟨j,its',d,r,e⟩
def SX:V->V->V->Hp->(Hp->Prop)->Prop:=λo i v H Q=>∃p xs k j,o=.ref p/\i=.int k/\H p=ac (.L xs)/\fh xs.length k=ac j/\Q (upd H p<|.L<|xs.set j v)
def set_list:Cb X SX:=by
 intro d s m H o i v ov iv u Q I w x y h;obtain⟨p,xs,k,j,rfl,rfl,f,z,q⟩:=h;subst w;obtain⟨t,rfl⟩:=x;obtain⟨its,n,r,ho,A⟩:=I.L f;obtain⟨c,h2,B,C⟩:=AK z;have hl:=r.length;have hn:=l9;have g:Inv X d m (upd H p<|.L<|xs.set j v) {s with heap:=s.heap.update p (aa0 (·.setIfInBounds j u))} :=
  I.J1 f ho (Rx its n j u) (r.set y j) (by rw[yv];exact A) s.toks
 by_cases l:0<=k
 ·have e:k.toNat=j:=by rw[ae' l C] at c;exact Option.some.inj c
  exact W.ki_setAt ho l (by lia) (by simp_all) (by rw[e];exact⟨_,g,q⟩)
 have e:(k+(its.toArray.size:Int)).toNat=j:=by rw[aeH ∅ B] at c;rw[kq,<-hl];exact Option.some.inj c
 exact W.ki_setBack ho ∅ (by simp_all) (by lia) (by rw[e];exact⟨_,g,q⟩)
theorem Ux(lo c)(n):(abj lo c am n).1=((eI n 0 lo:Nat):Int)/\(abj lo c am n).2.1=((eI n n c:Nat):Int)/\(abj lo c am n).2.2=1:=by
 refine⟨?_,?_,ρ⟩
 ·cases lo with
  | none=>simp[abj,eI]
  | some i=>simp only[abj,eI,Option.getD_none,if_true];grind
 cases c with
 | none=>simp[abj,eI]
 | some i=>simp only[abj,eI,Option.getD_none,if_true];grind
def Nw(its:List dk)(lo c:Option Int):slicePick its.toArray lo c am=((its.drop<|eI its.length 0 lo).take (eI its.length its.length c-eI its.length 0 lo)).toArray:=by obtain⟨d,e,f⟩:=Ux lo c its.toArray.size;delta slicePick;simp only[d,e,f];simp only[sliceRange_one,pick_run]<;>rfl
def II(K:gW):V->Option Int->Option Int->Hp->VK->Prop:=λx lo c H Q=>∃a xs,x=.ref a/\cg K H a xs/\∀p,H p=am->Q (.ref p) (upd H p<|.L<|lB xs lo c)
def Mj:GX X (II X.K):=by intro pins s σ H x v vl vu lo c sl Q I f hs g i h;obtain⟨a,xs,rfl,j,q⟩:=h;subst f;obtain⟨its,r,e,k⟩:=I.list j;have d:=r.length;refine⟨"list",_,adj.lookup,e.isList.typeIs,?_⟩;refine aei e.isList hs g i .none ⋯ ?_ (by rw[kq]<;>omega);rw[Nw,<-d];refine⟨.ref s.heap.objs.size,_,I.laid (λb ob q=>fA _ q) (ft _) ?_,ρ,q _<|I.aq.fresh<|ft _⟩;exact⟨px (Kb xs lo c) k,_,0,(r.drop<|eI xs.length 0 lo).take (eI xs.length xs.length c-eI xs.length 0 lo),lD _ ρ⟩
def JD:bc X (o5 .NotIn) (λx y H Q=>∃i j,x=.str i/\y=.str j/\Q (.bl<|!(!(LK j i 0 j.length 1).isEmpty)) H):=by intro pins s σ H x y v u Q I c d h;obtain⟨i,j,rfl,rfl,q⟩:=h;obtain⟨t,rfl⟩:=c;obtain⟨t',rfl⟩:=d;exact notIn_str ⟨.bl _,H,I,ρ,q⟩
def JA:bD X (.builtin "len") (λxs H Q=>∃p ys,xs=[.ref p]/\(cg X.K H p ys\/bq X.K H p ys)/\Q (.int ys.length) H):=by
 intro pins s σ H xs us Q I r h;obtain⟨p,ys,rfl,d,q⟩:=h;obtain⟨u,rfl,g⟩:=vals1 r;subst g;have hn:=l9;rcases d with d|d
 ·obtain⟨its,e,f,i⟩:=I.list d;have c:=e.length;exact Calls.call_len_list f.isList (by grind) ⟨.int ys.length,H,I.tok _,⟨s.toks+1,by rw[kq,c]⟩,q⟩
 obtain⟨its,e,f,i⟩:=I.tuple d;have c:=e.length;exact len_tuple f (by grind) ⟨.int ys.length,H,I.tok _,⟨s.toks+1,by rw[kq,c]⟩,q⟩
def Ku:bD X (.builtin "len") (λxs H Q=>∃z,xs=[.str z]/\z.length<=eu/\Q (.int z.length) H):=by intro pins s σ H xs us Q I r h;obtain⟨z,rfl,hz,q⟩:=h;obtain⟨u,rfl,t,rfl⟩:=vals1 r;have hn:=l9;exact len_str (by lia) ⟨.int z.length,H,I.tok _,⟨_,ρ⟩,q⟩
def bD.or (h:bD X f r)(h':bD X f d):bD X f (λxs H Q=>r xs H Q\/d xs H Q):=by
 intro c s e H xs us Q I rs q;rcases q with q|q
 ·exact h c s e H xs us Q I rs q
 exact h' c s e H xs us Q I rs q
def Ce:bD X (.type "list") (λxs H Q=>∃p ys,xs=[.ref p]/\(cg X.K H p ys\/bq X.K H p ys)/\∀l,H l=am->Q (.ref l) (upd H l<|.L ys)):=by
 intro i s v H xs us Q I r h;obtain⟨p,ys,rfl,d,q⟩:=h;obtain⟨u,rfl,x⟩:=vals1 r;subst x;have g:∀(its:List dk),aJ ys its->ys.length<=eu->∀(h':pq) (c':Nat),(∀b t,s.heap.get? b=ac t->h'.get? b=ac t) ->
   h'.get? s.heap.objs.size=ac {cls:=.type "list",dict:=am,data:=.seq its.toArray c',slots:=#[]}->EP X i v Q (.ref s.heap.objs.size) {s with heap:=h'}:=λits c f h' c' kp e =>
  ⟨.ref s.heap.objs.size,_,I.laid kp (ft _) (show cB X.prog X.w _ h' _ (.L ys) from ⟨f,its,c',c,e⟩),ρ,q _<|I.aq.fresh<|ft _⟩
 rcases d with d|d
 ·obtain⟨its,c,j,f⟩:=I.list d;have k:=c.length;obtain⟨o,ho,m,n,hd⟩:=j.isList;exact agZ p (ι ρ) ho m hd (λh' c' kp e=>g its c f h' c' kp e) (by simp_all)
 obtain⟨its,c,j,f⟩:=I.tuple d;have k:=c.length;obtain⟨o,ho,m,n,hd⟩:=j;exact agZ p (τ ρ) ho m hd (λh' c' kp e=>g its c f h' c' kp e) (by simp_all)
def Hc:bD X (.type "tuple") (λxs H Q=>∃p ys,xs=[.ref p]/\((cg X.K H p ys/\∀l,H l=am->Q (.ref l) (upd H l<|.U ys))\/(bq X.K H p ys/\Q (.ref p) H))):=by
 intro c s i H xs us Q I r h;obtain⟨p,ys,rfl,h⟩:=h;obtain⟨u,rfl,m⟩:=vals1 r;subst m;rcases h with⟨d,q⟩|⟨d,q⟩
 ·obtain⟨its,f,g,j⟩:=I.list d;have hlen:=f.length;refine call_tuple_list g.isList (λh' kp=>?_) (by simp_all);have k:=I.kept (t':=s.toks) kp;have n:Inv X c i (upd H h'.objs.size<|.U ys) {s with heap:=h'.push {cls:=.type "tuple",data:=.seq its.toArray} } :=
   k.laid (λb o e=>fA _ e) (ft _) (⟨j,its,f,IsTup.new _ _⟩)
  exact⟨.ref h'.objs.size,_,n,ρ,q _<|k.aq.fresh<|ft _⟩
 obtain⟨its,f,g,j⟩:=I.tuple d;exact call_tuple_same g ⟨.ref p,H,I,ρ,q⟩
def vN(K:gW)(T:String)(x:V)(H:Hp):Prop:=match x with
 | .str _=>T="str"
 | .int _=>T="int"
 | .ref p=>(T="list"/\∃xs,cg K H p xs)\/(T="tuple"/\∃o,K.lookup p=ac o/\o.cls=.type "tuple"/\o.dict=am) \/
   (T="dict"/\((∃kvs,H p=ac (.dK kvs))\/∃kvs,H p=ac (.dT kvs)))\/(T="set"/\∃S n,H p=ac (.set S n))
 | _=>False
theorem EC (I:Inv X f j H s)(r:RelV x v)(ty:vN X.K T x H) :
  s.TypeIs v T/\∀a,v=.ref a->∃ob,s.heap.get? a=ac ob/\ob.dict=am:=by
 cases x with
 | str z=>obtain⟨t,rfl⟩:=r;cases (ty);simp[typeIs_str]
 | int i=>obtain⟨t,rfl⟩:=r;cases (ty);simp[afv]
 | ref p =>
  subst r;rcases ty with⟨rfl,xs,k⟩|⟨rfl,o,d,l,hd⟩|⟨rfl,d⟩|⟨rfl,S,n,d⟩
  ·obtain⟨its,_,h,_⟩:=I.list k;refine⟨h.isList.typeIs,λa e=>?_⟩;cases e;obtain⟨o,n,e,c,hd,_⟩:=h;exact⟨o,e,hd⟩
  ·refine⟨⟨o,I.d9 p o d,l⟩,λa e=>?_⟩;cases e;exact⟨o,I.d9 _ o d,hd⟩
  ·have z:∃o,s.heap.get? p=ac o/\o.ExactDict:=by
    rcases d with⟨kvs,d⟩|⟨kvs,d⟩
    ·obtain⟨_,_,_,_,o,_,_,e,ex,_⟩:=I.aq p _ d;exact⟨o,e,ex⟩
    obtain⟨_,_,_,_,o,_,_,e,ex,_⟩:=I.aq p _ d;exact⟨o,e,ex⟩
   obtain⟨o,e,ex⟩:=z;refine⟨⟨o,e,ex.1⟩,λa g=>?_⟩;cases g;exact⟨o,e,ex.2.1⟩
  obtain⟨o,_,_,_,e,ex,_⟩:=I.aq p _ d;refine⟨⟨o,e,ex.1⟩,λa g=>?_⟩;cases g;exact⟨o,e,ex.2.1⟩
 | _=>exact ZG ty
def Nz(K:gW)(T:String)(r:V->List V->Hp->VK->Prop)(to:TE):TE:=λd H Q=>to d H λx c=>vN K T x c/\r x [] c Q
def tR(K:gW)(T:String)(r:V->List V->Hp->VK->Prop)(to:TE)(t:TA):TE:=λc H Q=>to c H λx d=>vN K T x d/\t c d λxs e=>r x xs e Q
variable{o e:hQ}{es:List hQ}{to:TE}{t:TA}{name:eT}{apos cpos:z5}{T id:String}{r:V->List V->Hp->VK->Prop}
def Qj(l:PlainAttrs T)(slot:Slot T name id)(g:typeOf (.builtin id)=pure (.type "method_descriptor"))(hm:pS X id r)(ho:PE X o to)
 (d:Z' o name X.env (eval o X.env)=eval o X.env:=by rfl)(f:(apos.endLine==cpos.line)=bi:=by rfl):PE X (.Call (.Attribute o name apos) [] [] cpos) (Nz X.K T r to):=by
 intro c s i H Q I h;refine wpAny_Call_method0_late d f (aI (ho c s i H _ I h) λv m ⟨x,n,j,k,ty,p⟩=>?_);obtain⟨q,u⟩:=EC j k ty;exact⟨T,id,l,slot,g,q,u,abW ρ<|PySem.evalArgs_none<|hm c m i n x [] v [] Q j k .nil p⟩
def uf(n:PlainAttrs T)(slot:Slot T name id)(k:typeOf (.builtin id)=pure (.type "method_descriptor"))(hm:pS X id r)(ho:PE X o to)(p:PA X (e::es) t)
 (f:Z' o name X.env (eval o X.env)=eval o X.env:=by rfl)
 (i:((Hz cpos<|ma (e::es) X.env).all (λx=>!x.1)&&(afb cpos<|adB [] X.env).all (λx=>x.1.isSome)
   && bd ((e::es).length+([]:List acM).length+(if ([]:List acM).isEmpty then 0 else 1)<30))=bi:=by rfl)
 (g:(apos.endLine==cpos.line)=bi:=by rfl)(hs:bC X e es:=by rfl)(d:(Hz cpos<|ma es X.env).any (·.1)=bv:=by rfl) :
  PE X (.Call (.Attribute o name apos) (e::es) [] cpos) (tR X.K T r to t):=by
 refine λc s j H Q I h=>wpAny_Call_method_late f i g ρ (aI (ho c s j H _ I h) λv q e=>?_);obtain⟨x,u,l,m,ty,w⟩:=e;obtain⟨y,z⟩:=EC l m ty;refine⟨T,id,n,slot,k,y,z,?_⟩;have hA:=p cpos c q j u _ l w;rw[hs] at hA ⊢;refine abW (by show (false||(Hz cpos<|ma es X.env).any (·.1))=bv;rw[d]<;>rfl)<|aci ?_;exact aI hA λus A ⟨vs,B,C,D,E⟩=>hm c A j B x vs v us Q C m D E
end
def Fq(X:Cx)(id:String)(r:V->List V->Hp->VK->Prop):Prop :=
 ∀(a:List (eH×C1)) (s:eK) (b:St) (H:Hp) (x:V) (xs:List V) (v:dk) (us:List dk) (Q:VK),Inv X a b H s->RelV x v->aJ xs us->r x xs H Q ->
  ka (k7 X.prog X.w) X.A (call (.builtin id) (v::us)) (EP X a b Q) X.xe s
theorem aJ.one (h:aJ [x] us):∃u,us=[u]/\RelV x u:=by
 cases h with
 | cons r t=>cases t;exact⟨_,ρ,r⟩
theorem aJ.two (h:aJ [x,y] us):∃u v,us=[u,v]/\RelV x u/\RelV y v:=by
 cases h with
 | cons r t=>obtain⟨v,e,q⟩:=aJ.one t;exact⟨_,v,by rw[e],r,q⟩
theorem aJ.zero:∀{us:List dk},aJ [] us->us=[]
 | _,.nil=>rfl
theorem aJ.reverse (h:aJ xs us):aJ xs.reverse us.reverse:=by
 induction h with
 | nil=>exact .nil
 | cons r t a=>rw[aak,aak];exact aJ.append a<|.cons r .nil
section
variable{X:Cx}{pins:List (eH×C1)}{σ:St}{H:Hp}{s:eK}{l b:eH}{xs ys zs:List V}{prog:lq}{w:qh}{A:pk}{E:dk->eK->Prop}
def Inv.HF{its its':List dk}{n:Nat}{f:Array dk->Array dk}{t':Nat}(I:Inv X pins σ H s)(a:H l=ac (.L xs))
 (e:s.heap.get? l=ac {cls:=.type "list",data:=.seq its.toArray n})(c:f its.toArray=its'.toArray)(d:aJ ys its')(g:ys.length<=eu) :
  Inv X pins σ (upd H l<|.L ys) {s with heap:=s.heap.update l<|aa0 f,toks:=t'}:=by
 have q:=PySem.IsL.update e f;rw[c] at q;apply I.write (by rw[a];exact trivial) (ι ρ) (λb' u h i=>(aad s.heap (aa0 f)<|Ne.symm h).trans i) ⟨_,q⟩;exact⟨g,its',_,d,q⟩
def Inv.zo (I:Inv X pins σ H s)(a:aJ ys its)(c:ys.length<=eu) :
  Inv X pins σ (upd H s.heap.objs.size<|.L ys) {s with heap:=s.heap.push {cls:=.type "list",data:=.seq its.toArray},toks:=t'} :=
 I.laid (λ_ _ q=>fA _ q) (ft _) ⟨c,its,0,a,lD _ ρ⟩
def Inv.fresh(I:Inv X pins σ H s):H s.heap.objs.size=am:=I.aq.fresh<|ft _
def Inv.BZ(I:Inv X pins σ H s)(a:H l=ac (.L xs)):xs.length<=eu/\∃(its:List dk) (n:Nat),aJ xs its/\xs.length=its.length/\s.heap.get? l=ac {cls:=.type "list",data:=.seq its.toArray n}:=by obtain⟨z,its,n,r,e⟩:=I.aq l _ a;exact⟨z,its,n,r,r.length,e⟩
def F4:V->List V->Hp->VK->Prop:=λx vs H Q=>∃l xs y,x=.ref l/\vs=[y]/\H l=ac (.L xs)/\xs.length<eu/\Q .aF (upd H l<|.L<|xs++[y])
def HS:Fq X "list.append" F4:=by intro pins s σ H x vs v us Q I c d h;obtain⟨l,xs,y,rfl,rfl,a,hz,q⟩:=h;subst c;obtain⟨u,rfl,f⟩:=d.one;obtain⟨z,its,n,r,hl,e⟩:=I.BZ a;refine acq ad4 ⟨_,e,ρ⟩ F.entry_list_append (F.args_list_append_2 _ _) (PySem.list_append l its.toArray n u (by rw[kq];omega)) ⟨e,?_⟩;refine⟨.aF,_,I.HF a e ⋯ (r.append<|.cons f .nil) ?_,ρ,q⟩;rw[gd,ZM];omega
def Vj:V->List V->Hp->VK->Prop:=λx vs H Q=>∃l xs,x=.ref l/\vs=[]/\H l=ac (.L xs)/\Q .aF (upd H l<|.L xs.reverse)
def Qe:Fq X "list.reverse" Vj:=by intro pins s σ H x vs v us Q I d f h;obtain⟨l,xs,rfl,rfl,a,q⟩:=h;subst d;have c:=f.zero;subst c;obtain⟨z,its,n,r,hl,e⟩:=I.BZ a;refine acq adS ⟨_,e,ρ⟩ F.entry_list_reverse (F.args_list_reverse_1 _) (AutoSeq1.list_reverse_list_0 l its.toArray n (by rw[kq];omega)) ⟨e,?_⟩;refine⟨.aF,_,I.HF a e ⋯ r.reverse ?_,ρ,q⟩;rw[C0];omega
set_option maxRecDepth 100000 in
end
section
variable{κ:Type}[DecidableEq κ]
noncomputable def fF(kvs:List (κ×V))(k:κ):Option V:=(kvs.find? λa=>bd<|a.1=k).map (·.2)
noncomputable def putK(kvs:List (κ×V))(k:κ)(v:V):List (κ×V) :=
 if (kvs.any λa=>bd<|a.1=k)=bi then kvs.map (λa=>if a.1=k then (a.1,v) else a) else kvs++[(k,v)]
def qC{p:κ×V}{r:List (κ×V)}{k:κ}(e:p.1=k):fF (p::r) k=ac p.2:=by simp[fF,ZV,e]
def qS{p:κ×V}{r:List (κ×V)}{k:κ}(e:¬p.1=k):fF (p::r) k=fF r k:=by simp[fF,ZV,e]
theorem u2(k):∀kvs:List (κ×V),(kvs.any λa=>bd<|a.1=k)=(fF kvs k).isSome
 | []=>rfl
 | p::r=>by
  simp;by_cases e:p.1=k
  ·simp only[qC e,decide_eq_true e,Bool.true_or,Option.isSome_some]
  simp only[qS e,decide_eq_false e];exact u2 k r
theorem xX(kvs:List (κ×V))(k:κ)(v:V):(putK kvs k v).length<=kvs.length+1:=by
 unfold putK;split
 ·simp only[ax];lia
 simp
theorem iN.pK (r:iN o u):o.isSome=u.isSome:=by
 cases o with
 | none=>cases u with
  | none=>rfl
  | some _=>exact (r).elim
 | some _=>cases u with
  | none=>exact (r).elim
  | some _=>rfl
theorem iN.getD (r:iN o u)(a:RelV d d'):RelV (o.getD d) (u.getD d'):=by
 cases o with
 | none=>cases u with
  | none=>exact a
  | some _=>exact (r).elim
 | some _=>cases u with
  | none=>exact (r).elim
  | some _=>exact r
theorem KV.val (r:KV kvs vs)(k:κ):iN (fF kvs k) (aeF vs k):=by
 unfold KV at r;induction r with
 | nil=>exact aao
 | @cons p q ps a h t ih =>
  obtain⟨c,d⟩:=h;by_cases e:p.1=k
  ·have f:=c.symm.trans e;have b:aeF (q::a) k=ac q.2:=by simp[aeF,ZV,f]
   rwa[qC e,b]
  simp_all [aeF,qS]
theorem KV.any (r:KV kvs vs)(k:κ):(kvs.any λa=>bd<|a.1=k)=vs.any λa=>bd (a.1=k):=by
 induction r with
 | nil=>rfl
 | cons h t b=>rw[aaD,aaD,b,h.1]
theorem KV.jj (r:KV kvs vs)(k:κ)(c:RelV y u) :
  KV (kvs.map λa=>if a.1=k then (a.1,y) else a) (vs.map λa=>if a.1=k then (a.1,u) else a):=by
 unfold KV at r ⊢;induction r with
 | nil=>exact .nil
 | @cons p q ps qs h t d =>
  rw[mA,mA];refine .cons ?_ d;obtain⟨b,h2⟩:=h;by_cases e:p.1=k
  ·rw[if_pos e,if_pos<|b.symm.trans e];exact⟨b,c⟩
  simp_all
def KV.put (r:KV kvs vs)(k:κ)(a:RelV y u):KV (putK kvs k y) (stored vs k u):=by
 delta putK stored;rw[r.any k];by_cases e:(vs.any λb=>bd<|b.1=k)=bi
 ·rw[if_pos e,if_pos e];exact r.jj k a
 rw[if_neg e,if_neg e];exact Paired.snoc r ⟨ρ,a⟩
theorem KV.keys{kvs:List (κ×V)}{vs:List (κ×dk)}(r:KV kvs vs):kvs.map (·.1)=vs.map (·.1):=by
 induction r with
 | nil=>rfl
 | cons h t a=>rw[mA,mA,a,h.1]
def KV.length (r:KV kvs vs):kvs.length=vs.length:=Paired.length r
end
theorem mM (r:RelV (kV k) u):(cJ P w).is k u=bi:=by
 cases k with
 | inl i=>obtain⟨t,e⟩:=(r);subst e;exact (λprog w i t=>J6 i t) P w i t
 | inr x=>obtain⟨t,e⟩:=(r);subst e;exact (λprog w x t=>Fn x t) P w x t
theorem w8:∀{a:List Key}{us:List dk},aJ (a.map kV) us->ItemsAre (cJ P w) a us
 | [],_,r=>by rw[adV] at r;cases r;exact .nil
 | k::a,_,r=>by
  cases r with
  | cons h t=>exact .cons (mM h)<|w8 t
abbrev KT(H:Hp):List (List Key×V)->List (List Key×eH×dk)->Prop:=aaz λp q=>p.1=q.1/\H q.2.1=ac (.U<|p.1.map kV)/\RelV p.2 q.2.2
theorem KT.val (r:KT H kvs xs)(k:List Key):iN (fF kvs k) ((afc xs k).map (·.2)):=by
 induction r with
 | nil=>exact aao
 | @cons p q ps a h t ih =>
  obtain⟨c,_,d⟩:=h;by_cases e:p.1=k
  ·have f:=c.symm.trans e;have b:afc (q::a) k=ac q.2:=by simp[afc,ZV,f]
   rwa[qC e,b]
  simp_all [afc,qS]
theorem KT.jj (r:KT H kvs xs)(k:List Key)(d:RelV y u) :
  KT H (kvs.map λb=>if b.1=k then (b.1,y) else b) (xs.map<|putAt k u):=by
 induction r with
 | nil=>exact .nil
 | @cons p q ps qs h t f =>
  simp;refine .cons ?_ f;obtain⟨a,c,g⟩:=h;delta putAt;by_cases e:p.1=k
  ·rw[if_pos e,if_pos<|a.symm.trans e];exact⟨a,c,d⟩
  rw[if_neg e,if_neg<|λz=>e<|a.trans z];exact⟨a,c,g⟩
def KT.put (r:KT H kvs xs)(k:List Key)(c:H b=ac (.U<|k.map kV))(a:RelV y u) :
  KT H (putK kvs k y) (storedH xs k b u):=by
 have e:(kvs.any λd=>bd<|d.1=k)=(afc xs k).isSome:=by rw[u2,(r.val k).pK,acC]
 delta putK storedH;rw[e];by_cases q:(afc xs k).isSome=bi
 ·rw[if_pos q,if_pos q];exact r.jj k a
 rw[if_neg q,if_neg q];exact Paired.snoc r ⟨ρ,c,a⟩
def KT.keeps (r:KT H kvs xs)(c:∀b ys,H b=ac (.U ys)->a b=ac (.U ys)):KT a kvs xs :=
 Paired.qP r λ_ _ z=>⟨z.1,c _ _ z.2.1,z.2.2⟩
section
variable{P:lq}{w:qh}{H:Hp}{h:pq}{a:eH}{X:Cx}{pins:List (eH×C1)}{σ:St}{s:eK}{y v:V}{u r:dk}{o:Option V}{A:pk}{E:dk->eK->Prop}
def zP{u:HO}(ok:cp P w H h)(e:Rd H a u):cB P w H h a u:=e.ok ok
def jT (ok:cp P w H h)(e:Rd H a (.dK kvs)):kvs.length<=eu/\(a==XP)=bv/\∃vs,KV kvs vs/\h.DictOf (cJ P w) a vs :=
 show cB P w H h a (.dK kvs) from zP ok e
def nV (ok:cp P w H h)(e:H a=ac (.U<|b.map kV)):(acJ<|cJ P w).is h b a:=by obtain⟨_,its,r,o,c,d,n,f⟩:=(ok a _ e);exact⟨o,its.toArray,n,c,d,f,by simpa using w8 r⟩
theorem mE (ok:cp P w H h)(e:Rd H a (.dT kvs)):kvs.length<=eu/\(a==XP)=bv /\
  ∃xs,KT H kvs xs/\h.DictOfH (acJ<|cJ P w) a xs:=by
 obtain⟨z,y,xs,r,o,c,ep,d,f,g,i,j⟩:=(zP ok e);refine⟨z,y,xs,r,o,c,ep,d,f,g,i,λx b=>?_,j⟩;have all:∀{l:List (List Key×V)}{m:List (List Key×eH×dk)},KT H l m->∀x∈m,(acJ<|cJ P w).is h x.1 x.2.1:=by
  intro l m q;induction q with
  | nil=>simp
  | @cons p q ps qs hq t k =>
   intro x b;rcases hO.1 b with e|b
   ·exact nV ok (by simp_all)
   exact k x b
 exact all r x b
def gJ(H:Hp)(a:eH)(y:V)(r:Option V):Prop :=
 (∃kvs k,Rd H a (.dK kvs)/\y=kV k/\r=fF kvs k)\/∃kvs k b,Rd H a (.dT kvs)/\y=.ref b/\H b=ac (.U<|k.map kV)/\r=fF kvs k
def kJ(H:Hp)(a:eH)(y v:V)(c:Hp):Prop :=
 (∃kvs k,H a=ac (.dK kvs)/\y=kV k/\kvs.length<eu/\c=upd H a (.dK<|putK kvs k v)) \/
 ∃kvs k b,H a=ac (.dT kvs)/\y=.ref b/\H b=ac (.U<|k.map kV)/\kvs.length<eu/\c=upd H a (.dT<|putK kvs k v)
theorem gJ.k{H:Hp}{a:eH}{kvs:List (Key×V)}{k:Key}(e:H a=ac (.dK kvs)):gJ H a (kV k) (fF kvs k):=ι ⟨kvs,k,ι e,ρ,ρ⟩
theorem kJ.k{H:Hp}{a:eH}{kvs:List (Key×V)}{k:Key}{v:V}(e:H a=ac (.dK kvs))(hl:kvs.length<eu):kJ H a (kV k) v (upd H a<|.dK<|putK kvs k v):=ι ⟨kvs,k,e,ρ,hl,ρ⟩
def kJ.t{H:Hp}{a b:eH}{kvs:List (List Key×V)}{k:List Key}{v:V}(e:H a=ac (.dT kvs))(c:H b=ac (.U<|k.map kV))(hl:kvs.length<eu) :
  kJ H a (.ref b) v (upd H a<|.dT<|putK kvs k v):=τ ⟨kvs,k,b,e,ρ,c,hl,ρ⟩
def Inv.u1(I:Inv X pins σ H s):XP<s.heap.objs.size:=by exact aav ⋯<|(I.mod.glob.keeps I.bk).lt
def Lz (n:A.units+1<vv)(I:Inv X pins σ H s)(g:gJ H a y (ac v))(j:RelV y u)(h:∀c s',Inv X pins σ H s'->RelV v c->Q c s') :
  ka (k7 X.prog X.w) A (adQ (.ref a) u) Q E s:=by
 rcases g with⟨kvs,k,e,i,l⟩|⟨kvs,k,b,e,i,q,l⟩
 ·subst i;obtain⟨z,hd,vs,d,dd⟩:=jT I.aq e;obtain⟨c,hw,f⟩:=iN.some_of (by rw[l];exact d.val k);exact wpAny_getItem_of (mM j) dd.mapOf hw<|h c _ (I.tok _) f
 subst i;cases (j);obtain⟨z,hd,xs,d,dd⟩:=mE I.aq e;obtain⟨c,hw,f⟩:=iN.some_of (by rw[l];exact d.val k);obtain⟨p,t,m⟩:=gj.1 hw;apply wpAny_getItem_heap (aaP n) (nV I.aq q) dd t;simp[m];exact h c _ (I.tok _) f
def Pz (i:A.units+1<vv)(I:Inv X pins σ H s)(g:gJ H a y o)(f:RelV y u)(h:∀s',Inv X pins σ H s'->Q (.bool o.isSome) s') :
  ka (k7 X.prog X.w) A (o5 .In u<|.ref a) Q E s:=by
 rcases g with⟨kvs,k,e,d,l⟩|⟨kvs,k,b,e,d,j,l⟩
 ·subst d;obtain⟨z,hd,vs,c,dd⟩:=jT I.aq e;apply wpAny_in_of (mM f) hd dd.mapOf;rw[<-(c.val k).pK,<-l];exact h _<|I.tok _
 subst d;cases (f);obtain⟨z,hd,xs,c,dd⟩:=mE I.aq e;apply wpAny_in_heap (aaP i) (nV I.aq j) hd dd;have q:=(c.val k).pK;rw[acC] at q;simp only[<-q,<-l];exact h _<|I.tok _
def Su (i:A.units+1<vv)(I:Inv X pins σ H s)(g:gJ H a y o)(f:RelV y u)(h:∀s',Inv X pins σ H s'->Q (.bool<|!o.isSome) s') :
  ka (k7 X.prog X.w) A (o5 .NotIn u<|.ref a) Q E s:=by
 rcases g with⟨kvs,k,e,d,l⟩|⟨kvs,k,b,e,d,j,l⟩
 ·subst d;obtain⟨z,hd,vs,c,dd⟩:=jT I.aq e;apply wpAny_notIn_of (mM f) hd dd.mapOf;rw[<-(c.val k).pK,<-l];exact h _<|I.tok _
 subst d;cases (f);obtain⟨z,hd,xs,c,dd⟩:=mE I.aq e;apply wpAny_notIn_heap (aaP i) (nV I.aq j) hd dd;have q:=(c.val k).pK;rw[acC] at q;simp only[<-q,<-l];exact h _<|I.tok _
def Au (I:Inv X pins σ H s)(d:pY (H a))(hs:aae a s.heap h')(f:∃q,h'.get? a=ac q)(c:cB X.prog X.w (upd H a ob) h' a ob) :
  Inv X pins σ (upd H a ob) {s with heap:=h',toks:=t'} :=
 I.write d (ι ρ) (λb q g z=>(hs.2 b g).trans z) f c
def y9 (z:kvs.length<=eu)(hd:(a==XP)=bv)(b:KV kvs vs)(dd:h'.DictOf (cJ P w) a vs) :
  cB P w c h' a (.dK kvs):=⟨z,hd,vs,b,dd⟩
def Uq (C:A.units+1<vv)(I:Inv X pins σ H s)(g:kJ H a y v p)(t:RelV y u)(x:RelV v r)(h:∀s',Inv X pins σ p s'->Q () s') :
  ka (k7 X.prog X.w) A (aeG (.ref a) u r) Q E s:=by
 rcases g with⟨kvs,k,e,j,l,m⟩|⟨kvs,k,b,e,j,B,l,m⟩
 ·subst j m;obtain⟨z,hd,vs,d,dd⟩:=(λok e=>jT ok<|ι e) I.aq e;have n:vs.length<=sizeLine:=by rw[<-d.length];exact z
  have hl:(putK kvs k v).length<=sizeLine:=by grind [xX]
  refine wpAny_setItem_pairs (hsz:=n) (mM t) dd λh' f hs=>h _ ?_;have D:∃q,h'.get? a=ac q:=let ⟨q,_,_,i,_⟩:=f;⟨q,i⟩
  exact Au I (by rw[e];exact aao) hs D<|y9 hl hd (d.put k x) f
 subst j m;cases (t);obtain⟨z,hd,xs,d,dd⟩:=(λok e=>mE ok<|ι e) I.aq e;have n:xs.length<=sizeLine:=by rw[<-Paired.length d];exact z
 have hl:(putK kvs k v).length<=sizeLine:=by grind [xX]
 refine wpAny_setItem_heap (hsz:=n) (aaP C) (nV I.aq B) dd λh' f hs=>h _ ?_;obtain⟨q,F,ep,i,G,J,K,_,L⟩:=f;refine Au I (by rw[e];exact aao) hs ⟨q,i⟩ ⟨hl,hd,_,(d.put k B x).keeps λc ys M=>?_,q,F,ep,i,G,J,K,L⟩;rw[au (by lia)];exact M
end
section
variable{X:Cx}{pins:List (eH×C1)}{σ:St}{H:Hp}{s:eK}{a:eH}{kvs:List (Key×V)}{k:Key}{u:dk}{A:pk}{E:dk->eK->Prop}
def Nv (I:Inv X pins σ H s)(e:Rd H a (.dK kvs))(h:∀t s',Inv X pins σ H s'->Q (.int kvs.length t) s'):ka (k7 X.prog X.w) A (call (.builtin "len") [.ref a]) Q E s:=by obtain⟨z,hd,vs,b,dd⟩:=jT I.aq e;apply call_len_dict hd dd (by rw[<-b.length];rw[KX] at z;omega);rw[<-b.length];exact h _ _<|I.tok _
end
def D8(i:hQ):Prop:=∀a b,adA i false a b=operate [a,b] (adQ a b)
theorem MF{prog:lq}{w:qh}{A:pk}{E:dk->eK->Prop}{s:eK}{env:Env}{value slice:hQ}{pos:z5}{T id:String}{Q:dk->eK->Prop}
 (hl:abL (.type T) "__getitem__"=pure (ac<|.builtin id))(hs:D8 slice)
 (h:ka (k7 prog w) A (eval value env) (λo c=>ka (k7 prog w) A (eval slice env) (λi a=>a.TypeIs o T/\ka (k7 prog w) A (adQ o i) Q E a) E c) E s) :
  ka (k7 prog w) A (eval (.Subscript value slice pos) env) Q E s:=by
 refine ad7 (Dt h (λo c f=>Dt f (λi a b=>?_) λ_ _ x=>x) λ_ _ x=>x);obtain⟨j,b⟩:=b;apply ey;refine ey<|agh j hl ?_;have d:ka (k7 prog w) A (adA slice false o i) (λr e=>ka (k7 prog w) A (letTemporaryGo value o r >>= λ_=>pure r) Q E e) E a:=by rw[hs o i];exact wpAny_operating (Dt b (λr e g=>ey<|wpAny_letTemporaryGo<|gi g) λ_ _ x=>x)
 first
  | exact gi (ey d)
  | exact ey (gi<|ey d)
  | exact ey d
def OG(d ty:TE):TE:=λb H Q=>d b H λx e=>ty b e λy c=>∃a v,x=.ref a/\gJ c a y (ac v)/\Q v c
def Rf(d ty e:TE):TS:=λD b H=>e b H λv f=>d b f λx g=>ty b g λy h=>∃a c,x=.ref a/\kJ h a y v c/\D.nx b c
section
variable{X:Cx}{o i e value:hQ}{pos pos' tpos:z5}{td ty tv:TE}
def uL(j:X.A.units+1<vv)(ho:PE X o td)(k:PE X i ty)(hs:D8 i):PE X (.Subscript o i pos) (OG td ty):=by
 refine λb s c H Q I h=>MF PySem.F.slot_dict_getitem.lookup hs (aI (ho b s c H _ I h) λu l ⟨x,m,n,p,q⟩=>aI (k b l c m _ n q) λiv s2 f=>?_);obtain⟨y,r,d,t,a,v,ex,g,w⟩:=f
 subst ex;obtain rfl:u=rm a:=p;exact⟨(λI g=>by
   rcases g with⟨kvs,k,e,_,_⟩|⟨kvs,k,b,e,_,_,_⟩
   ·obtain⟨_,_,vs,_,dd⟩:=jT I.aq e;exact dd.typeIs
   obtain⟨_,_,xs,_,dd⟩:=mE I.aq e;exact dd.typeIs) d g,Lz j d g t λw' s3 z f=>⟨v,r,z,f,w⟩⟩
def Fd(d:X.A.units+1<vv)(ho:PE X o td)(f:PE X i ty)(j:PE X value tv)(hs:H9 value (ac<|.Subscript o i pos') pos.line X.env=pure false) :
  PS X (.Assign [.Subscript o i pos'] value pos) (Rf td ty tv):=by
 refine λb s c H D I h=>wpAny_Assign_Subscript (aI (j b s c H _ I h) λr k ⟨v,l,m,n,p⟩=>aI (ho b k c l _ m p) λu q ⟨x,t,w,z,B⟩=>aI (f b q c t _ w B) λiv s3 e=>?_) hs;obtain⟨y,H3,C,E,a,F,ex,g,G⟩:=e;subst ex;obtain rfl:u=rm a:=z;exact Uq d C g E n λs4 J=>⟨c,F,J,G⟩
def R6 (h:pq)(a:XP<h.objs.size):cB P w H (h.push {cls:=.type "dict",data:=.dict #[]}) h.objs.size (.dK []) :=
 ⟨pe _,beq_eq_false_iff_ne.2<|Ne.symm<|ia a,[],.nil,adR h⟩
def Ox:TE:=λ_ H Q=>∀p,H p=am->Q (.ref p) (upd H p<|.dK [])
def Kw:TE:=λ_ H Q=>∀p,H p=am->Q (.ref p) (upd H p<|.dT [])
def Kf:PE X (.Dict [] [] pos) Ox:=λpins s σ H Q I h =>
 afY ⟨.ref s.heap.objs.size,_,I.laid (λ_ _ q=>fA _ q) (ft _)<|R6 s.heap I.u1,ρ,h _<|I.aq.fresh<|ft _⟩
def Pj:PE X (.Dict [] [] pos) Kw:=λpins s σ H Q I h =>
 afY ⟨.ref s.heap.objs.size,_,I.laid (λ_ _ q=>fA _ q) (ft _) ((λh a=>
   ⟨pe _,beq_eq_false_iff_ne.2<|Ne.symm<|ia a,[],.nil,_,#[],0,lD _ ρ,⟨ρ,ρ,ρ⟩,ρ,ρ,aap⟩) s.heap I.u1),ρ,h _<|I.aq.fresh<|ft _⟩
end
def lM(kvs more:List (Key×V)):List (Key×V):=more.foldl (λa b=>putK a b.1 b.2) kvs
theorem KV.merge:∀{more:List (Key×V)}{rs:List (Key×dk)}{kvs:List (Key×V)}{vs:List (Key×dk)},KV more rs->KV kvs vs->KV (lM kvs more) (aeJ vs rs):=by
 intro more rs kvs vs r;induction r generalizing kvs vs with
 | nil=>exact λq=>q
 | @cons p q ps qs h t a =>
  intro b;have e:KV (putK kvs p.1 p.2) (stored vs q.1 q.2):=by rw[<-h.1];exact b.put p.1 h.2
  exact a e
theorem G':∀(more kvs:List (Key×V)),(lM kvs more).length<=kvs.length+more.length
 | [],kvs=>by show kvs.length<=kvs.length+0;omega
 | p::r,kvs=>by have h1:=G' r<|putK kvs p.1 p.2;have h2:=xX kvs p.1 p.2;grind [lM]
structure M2 (X:Cx) (o:hQ) (m:eT) (apos:z5) (e f:hQ) (cpos:z5):Prop where
 base:Z' o m X.env (eval o X.env)=eval o X.env
 bz:((Hz cpos<|ma [e,f] X.env).all (fun x=>!x.1)&&(afb cpos<|adB [] X.env).all (fun x=>x.1.isSome)
  && bd (([e,f]:List hQ).length+([]:List acM).length+(if ([]:List acM).isEmpty then 0 else 1)<30))=bi
 line:(apos.endLine==cpos.line)=bi
 trees:Hz cpos (ma [e,f] X.env)=[(false,eval e X.env),(false,eval f X.env)]
def ES(H:Hp)(a:eH):Prop:=(∃kvs,Rd H a<|.dK kvs)\/∃kvs,Rd H a<|.dT kvs
def Qi (I:Inv X c h H s)(d:ES H a) :
  s.TypeIs (.ref a) "dict"/\(∀b,rm a=.ref b->∃ob,s.heap.get? b=ac ob/\ob.dict=am)/\(a==XP)=bv:=by
 rcases d with⟨kvs,e⟩|⟨kvs,e⟩
 ·obtain⟨_,hd,vs,_,dd⟩:=jT I.aq e;refine⟨dd.typeIs,λb q=>?_,hd⟩;cases q;obtain⟨ob,_,_,f,g,_⟩:=dd;exact⟨ob,f,g.2.1⟩
 obtain⟨_,hd,xs,_,dd⟩:=mE I.aq e;refine⟨dd.typeIs,λb q=>?_,hd⟩;cases q;obtain⟨ob,_,_,f,g,_⟩:=dd;exact⟨ob,f,g.2.1⟩
section
variable{X:Cx}{pins:List (eH×C1)}{σ:St}{H:Hp}{s:eK}{a:eH}{y d:V}{u r:dk}{o:Option V}{A:pk}{E:dk->eK->Prop}
def Iu (n:A.units+1<vv)(I:Inv X pins σ H s)(g:gJ H a y o)(i:RelV y u)(j:RelV d r)(h:∀m s',Inv X pins σ H s'->RelV (o.getD d) m->Q m s') :
  ka (k7 X.prog X.w) A (call (.builtin "dict.get") [.ref a,u,r]) Q E s:=by
 rcases g with⟨kvs,k,e,f,l⟩|⟨kvs,k,b,e,f,p,l⟩
 ·subst f;obtain⟨z,hd,vs,c,dd⟩:=jT I.aq e;refine call_meetsIn abV dd.typeIs ady (adu _ _ _) (meets_dict_get_default (cJ X.prog X.w) a (mM i) hd r) ⟨_,dd.mapOf,h _ _ (I.tok _) ?_⟩;rw[l];exact (c.val k).getD j
 subst f;cases (i);obtain⟨z,hd,xs,c,dd⟩:=mE I.aq e;refine call_meetsIn abV dd.typeIs ady (adu _ _ _) (meetsH_dict_get_default (acJ<|cJ X.prog X.w) a b hd r) ⟨aaP n,k,xs,nV I.aq p,dd,h _ _ (I.tok _) ?_⟩;rw[l];exact (c.val k).getD j
end
def Mb(e ty tx:TE):TE:=λb H Q=>e b H λx c=>∃a,x=.ref a/\ES c a/\ty b c λy f=>tx b f λz d=>∃o,gJ d a y o/\Q (o.getD z) d
section
variable{X:Cx}{o e f:hQ}{apos cpos:z5}{td ty tx:TE}{pins:List (eH×C1)}{σ:St}{H:Hp}{s:eK}{a:eH}{kvs:List (Key×V)}{A:pk}{E:dk->eK->Prop}
def L3(i:X.A.units+1<vv)(ho:PE X o td)(j:PE X e ty)(k:PE X f tx)(m:M2 X o "get" apos e f cpos):PE X (.Call (.Attribute o "get" apos) [e,f] [] cpos) (Mb td ty tx):=by
 intro pins s σ H Q I h;refine wpAny_Call_method m.base m.bz m.line PySem.F.plainAttrs_dict abV PySem.F.type_dict_get (aI (ho pins s σ H _ I h) λu l ⟨x,n,b,p,a,ex,d,q⟩=>?_)
 subst ex;obtain rfl:u=rm a:=p;obtain⟨r,t,_⟩:=Qi b d;refine⟨r,t,?_⟩;rw[m.trees];refine abW ρ (aci (acx (aI (j pins l σ n _ b q) λiv v ⟨y,w,B,C,D⟩ =>
  acx (aI (k pins v σ w _ B D) λfv s3 ⟨z,G,J,K,ov,g,L⟩=>aey ?_))))
 exact Iu i J g C K λw' s4 M c=>⟨_,G,M,c,L⟩
def IQ (I:Inv X pins σ H s)(e:Rd H a (.dK kvs))(h:∀p s',H p=am->Inv X pins σ (upd H p<|.dK kvs) s'->Q (.ref p) s'):ka (k7 X.prog X.w) A (call (.type "dict") [.ref a]) Q E s:=by obtain⟨z,hd,vs,c,dd⟩:=jT I.aq e;refine kt_call_dict hd dd (by rw[<-c.length];exact z) λh' d hs=>?_;refine h _ _ (I.aq.fresh<|ft _)<|I.laid (λb q g=>?_) (ft _)<|y9 z (beq_eq_false_iff_ne.2<|Ne.symm<|ia I.u1) c d;exact (hs.2 b<|ia<|gD g).trans (fA _ g)
end
section
open PySem.W PySem.Calls
theorem Td:∀(ns:List Int) (vs:List dk),WellAll P h vs (ns.map agj)->adT vs ns:=by
 intro ns;induction ns with
 | nil=>intro vs w;cases w;exact .nil
 | cons n ns c =>
  intro vs w;cases w with
  | cons a b =>
   cases a;exact .cons _ _<|c _ b
theorem JO{l:ae0}{n:Nat}(m:l.most=ac n){P:Params}{h:pq}{args:List WData}{b:List dk}
 (c:l.row.toRowW.claim.pre args=bi)(i:WellAll P h b args) :
  ∃a vs ns,b=[rm a]/\args=[WData.list (ns.map agj)]/\h.get? a=ac {cls:=.type "list",data:=.seq vs.toArray}/\adT vs ns/\ns.length<=n:=by
 have j:WShape.hasAll [] args [.list .int]=bi:=(pre_splitW c).1;have k:l.pre.holds [] {args:=args}=bi:=(pre_splitW c).2;obtain⟨d,r,rfl,o,p⟩:=hasAllW_cons j;obtain rfl:=hasAllW_nil p;obtain⟨xs,rfl,q⟩:=hasW_list o;obtain⟨ns,rfl⟩:=items_int q;have f:ns.length<=n:=by
  have e:(WTm.not<|.lt (.lit<|.int (n:Int))<|.len<|.arg 0).holds [] {args:=[.list (ns.map .int)]}=bi:=by have e:=(holds_andW k).1;rwa[m] at e
  have h5:=condW_of e<|w_not<|w_lt w_lit<|w_len_list<|w_arg ρ;simp_all
 cases i with
 | cons s t =>
  cases t;cases s with
  | list ho g=>exact⟨_,_,ns,ρ,ρ,ho,Td ns _ g,f⟩
def O7(l:ae0)(args:List WData):l.row.toRowW.claim.post args (.bool true) args=bi :=
 postW_of
  rfl
  (w_eq_bool (w_res ρ) w_lit) rfl
end
theorem T6 (h:adT vs ns):aJ (ns.map V.int) vs:=by
 induction h with
 | nil=>exact .nil
 | cons n t _ a=>exact .cons ⟨t,ρ⟩ a
def Gf(H:Hp):Prop:=∀b,H b=am\/∃o xs,H b=ac (.bB o<|.L xs)
theorem SD{P:lq}{w:qh}{K:gW}{mg y:eT->Option dk}{CX:iQ}{k:Nat}{fa a:eH}{I:hU}{x:eT}{sp:Sp}{c:eK}{vs:List dk}{ns:List Int}
 (J:K.In c.heap)(p:c.heap.Ns kx mg)(f:c.heap.Ns afz y)(L:∀x:eT,x≠"__name__"->y x=ZL x)(A:c.heap.NoLimit)(U:c.gens=#[])
 (B:c.heap.get? a=ac {cls:=.type "list",data:=.seq vs.toArray})(M:adT vs ns)(hl:ns.length<=eu)(X:cb k aeK)
 (F:∀base:pq,K.In base->base.Ns kx mg->aS P w K mg base CX k fa I [x] sp)(l:∀(s:eK) (u:dk),aeS s I ⟨[u],[]⟩ [(x,u)])
 (N:∀H:Hp,Gf H->cg K H a (ns.map V.int)->sp [.ref a] H (λv _=>v=.bl true) λ_ _ _=>False)
 (O:∀H e s',CX [] H c (λ_ _ _=>False) e s'->False) :
  abz (k7 P w) aeK (.call (.ref fa) ⟨[.ref a],[]⟩) (λr s'=>r=.ok (.ret<|.bool true)/\OldK c.heap s'.heap/\s'.os=c.os/\acs s'.gens) c:=by
 have Q:=T6 M;have C:=M.length;have j:∀H:Hp,Gf H->cg K H a (ns.map V.int)->cp P w H c.heap->(∀b,H b≠am->b=a)->(H a≠am->K.lookup a=am) ->
   abz (k7 P w) aeK (.call (.ref fa) ⟨[.ref a],[]⟩) (λr s'=>r=.ok (.ret<|.bool true)/\OldK c.heap s'.heap/\s'.os=c.os/\acs s'.gens) c:=by
  intro H R Y aq hA hK;have g:∀{b:eH}{o:C1},c.heap.get? b=ac o->H b=am->(kr c.heap H).get? b=ac o:=λe n=>(λe n=>
    abT _ e λhm=>by
     have q:=(iF.1 hm).2
     simp_all) e n
  have S:∀{b:eH}{o:C1}{D:Array abd}{ep:Nat},c.heap.get? b=ac o->o.data=.dict D ep->H b=am:=by grind
  have i:∀{b:eH}{m:eT->Option dk},c.heap.Ns b m->(kr c.heap H).Ns b m:=λ{b m} ⟨o,D,ep,e,d,r⟩=>⟨o,D,ep,g e<|S e d,d,r⟩
  have t:K.In (kr c.heap H):=λb o e=>g (J b o e) (by grind)
  have Z:Mod K mg (kr c.heap H):=⟨t,i p,⟨y,i f,L⟩,let ⟨mc,h1,h2⟩:=A;⟨mc,i h1,h2⟩⟩;have e0:uK P w K mg (kr c.heap H) aeK [] c H:=⟨ρ,Z,λb o e=>T8 e,age<|(λh H=>W.hideAll_size _ _) _ _,trivial,λb f=>absurd (show b∈([]:List eH) from f) ⋯,aq,.of_eq U⟩;refine aby ((F _ t<|i p).run aeK [] c H ⟨[.ref a],[]⟩ [.ref a] [.ref a] _ _ X e0 (l c<|.ref a) (.cons ρ .nil) (N H R Y)) λr s' h=>?_;cases r with
  | error e=>exact (O H e s' h).elim
  | ok fl =>
   cases fl with
   | next=>exact ZG h
   | brk=>exact ZG h
   | cont=>exact ZG h
   | ret u =>
    obtain⟨v,H',os,bare,un,E,r',q⟩:=h;have q':=q;subst q';obtain rfl:u=P' true:=r';refine⟨ρ,OldK.of_keep λb o e=>?_,os,bare⟩;cases q:H b with
    | none=>exact un.keep b o e q (by intro z;exact absurd (show b∈([]:List eH) from z) ⋯) ⋯
    | some u =>
     rcases R b with z|⟨ob,xs,z⟩
     ·rw[q] at z;contradiction
     obtain⟨T,_⟩:=aq b _ z;obtain⟨e2,_⟩:=E b _<|un.gN b ob _ z;rw[e] at T;obtain rfl:=sO T;exact e2
 cases G:K.lookup a with
 | some o=>have e:=J a o G;rw[B] at e;obtain rfl:=sO e;refine j (λ_=>am) (λ_=>ι ρ) (τ ⟨_,vs.toArray,_,G,ρ,ρ,ρ,by rw[kq,C];exact hl,by simpa using Q⟩) (λb u z=>by simp_all) (λb z=>absurd ρ z) λz=>absurd ρ z
 | none =>
  refine j (λb=>if b=a then ac (.bB {cls:=.type "list",data:=.seq vs.toArray} (.L<|ns.map V.int)) else am) (λb=>?_) (ι<|τ ⟨{cls:=.type "list",data:=.seq vs.toArray},if_pos ρ⟩) (λb u z=>?_) (λb z=>?_) λ_=>G
  ·by_cases f:b=a
   ·exact τ ⟨_,_,if_pos f⟩
   exact ι<|if_neg f
  ·by_cases f:b=a
   ·obtain rfl:=sO<|(if_pos f).symm.trans z;subst f;exact⟨B,by rw[ax];exact hl,vs,_,Q,B⟩
   simp_all
  by_cases f:b=a
  ·exact f
  cases z (if_neg f)
noncomputable def mL(s:ZZ):Arguments:=match s with
 | .FunctionDef _ a _ _ _ _ _ _ _ _=>a
 | _=>{posonlyargs:=[],args:=[],vararg:=am,kwonlyargs:=[],kw_defaults:=[],kwarg:=am,defaults:=[]}
noncomputable def fV(s:ZZ):List Stmt:=match s with
 | .FunctionDef _ _ b _ _ _ _ _ _ _=>b
 | _=>[]
noncomputable def aK(s:ZZ):Scope:=match s with
 | .FunctionDef _ _ _ _ _ _ a _ _ _=>a
 | _=>{kind:=.function,names:=[],isGenerator:=false,isCoroutine:=false}
abbrev bb:iQ:=λ_ _ _ _ _ _=>False
abbrev E0:XK:=λ_ _ _=>False
structure a9 (K:gW) (x qual:eT) (st:ZZ) (f:eH) (fd:hU):Prop where
 ex:∃(oc:dk) (od:Option eH) (kV doc pm:dk) (an:Option eH) (cdv ct:dk) (osl:Array (Option dk)),
  fd=acR x qual (mL st) (fV st) (aK st) .none kV doc pm an cdv ct/\K.lookup f=ac ⟨oc,od,.func fd,osl⟩/\af6 K cdv qual=bi
 kp:abA K (.ref f)=bi
section
variable{P:lq}{w:qh}{K:gW}{mg:eT->Option dk}{base:pq}{X:Cx}{Ar:pk}{pins:List (eH×C1)}{σ:St}{H:Hp}{s:eK}{NB:List eT}{scope:aaf}{s₂:eK}{E:dk->eK->Prop}{caps:List (Option Nat)}{elt iter tg:hQ}{ifs:List hQ}{pos:z5}{wi:TI}{g:TG}{tc:TT}{te:TE}{h h':pq}{a:eH}{o:HO}
def a9.ok{x b:eT}{st:ZZ}{f:eH}{i:hU}{N e:List eT}{k:Nat}{sp:Sp}(F:a9 K x b st f i)(S:br N e (aK st))(len:∀vs H Q E,sp vs H Q E->vs.length=e.length)
 (d:∀(c:dk) (A:pk) (outer:List Env) (s:eK) (H:Hp) (vs:List V) (Q:VK) (E:XK),cb k (A.deeper<|aaJ b (aK st) s.heap.objs.size f c)->sp vs H Q E ->
   ∃t,fm (dQ bb P w K mg base N b (aK st) f c A outer s H E).iA (fV st) t/\t {nx:=λ_ m=>Q .aF m,rt:=Q} (start N vs) H):aS P w K mg base bb (k+1) f i e sp:=by
 obtain⟨oc,od,kV,doc,pm,an,c,ct,osl,rfl,lk,j⟩:=F.ex;refine C2 lk j S len λA outer s H vs Q E n l=>?_;obtain⟨t,h,q⟩:=d c A outer s H vs Q E n l;exact⟨t,h.iA,q⟩
def a9.binds{x b:eT}{st:ZZ}{f:eH}{j:hU}{e:List eT}(F:a9 K x b st f j)
 (h:∀(kV c pm:dk) (i:Option eH) (d ct:dk) (us:List dk),us.length=e.length->ad0 (acR x b (mL st) (fV st) (aK st) .none kV c pm i d ct) ⟨us,[]⟩=pure (e.zip us)):Binds K j e []:=by
 obtain⟨oc,od,kV,c,pm,i,d,ct,osl,rfl,lk,hcd⟩:=F.ex;exact .all<|h kV c pm i d ct
def RH{x b:eT}{st:ZZ}{f:eH}{m:dk}{n j:Option eH}{i:Array (Option dk)}{kV e pm d ct:dk}(l:K.lookup f=ac ⟨m,n,.func<|acR x b (mL st) (fV st) (aK st) .none kV e pm j d ct,i⟩)
 (c:af6 K d b=bi)(k:abA K (.ref f)=bi):a9 K x b st f (acR x b (mL st) (fV st) (aK st) .none kV e pm j d ct):=⟨⟨m,n,kV,e,pm,j,d,ct,i,ρ,l,c⟩,k⟩
theorem pv(i:Nat){x:eT}{pos:z5}(c:X.N[i]?=ac x:=by rfl)(d:cc X.env.scope x:=by first|exact abQ ρ|exact abP (abQ ρ)|exact abP<|abP ρ)(hd:bA x:=by decide)
 (b:cG x:=by decide):PE X (.Name x pos) (kP i):=eG c d hd b
def aj(H c:Hp):Prop:=∀b o,H b=ac o->c b=ac o
def aj.refl(H):aj H H:=λ_ _ h=>h
def aj.trans (a:aj H d)(b:aj d e):aj H e:=λc o h=>b c o<|a c o h
noncomputable abbrev Gy(ifs:List hQ)(env:Env):Sem Bool:=forIn ifs true λt ok =>
 if ok=bi then (adZ t env<|eval t env) >>= λb=>pure (.yield b)
 else pure (.yield ok)
abbrev om:dk->eK->Prop:=λ_ _=>False
theorem L6 (W:Nat->eK->Prop)(turn:∀n d,W n d->ka (k7 P w) Ar (abM c) (λe i=>match e with
   | none=>p (.ok .next) i
   | some u=>ka (k7 P w) Ar (acv tg c u)
     (λ_ r=>ka (k7 P w) Ar (aaQ tg env u)
      (λ_ t=>ka (k7 P w) Ar (Gy ifs env)
       (λok j=>if ok=bi then ka (k7 P w) Ar (eval elt env)
         (λy v=>ka (k7 P w) Ar (call (.builtin "list.append") [b,y]) (λ_ A=>∃m,m<n/\W m A) om v) om j
        else ∃m,m<n/\W m j) om t) om r) om i) om d)(B:Nat)(F:W B q):abz (k7 P w) Ar (.compLoop (.ListComp elt [⟨tg,f,ifs,0⟩] k l) 0 c b env) p q:=by
 refine codeAny_loop ρ W (λn d hw=>?_) B F;apply wpAny_noted;rw[compTurn_list];refine ey<|acY<|ey (Dt (turn n d hw) (λe i C=>?_) λ_ _ z=>z.elim);cases e with
 | none=>exact gi C
 | some u =>
  refine ey (Dt C (λ_ r G=>?_) λ_ _ z=>z.elim);refine ey (Dt G (λ_ t I=>?_) λ_ _ z=>z.elim);refine ey (Dt I (λok j D=>?_) λ_ _ z=>z.elim);cases ok with
  | false=>exact gi (ag6 ρ D)
  | true=>refine ey<|ey (Dt D (λy v J=>?_) λ_ _ z=>z.elim);refine ey (Dt J (λ_ A L=>?_) λ_ _ z=>z.elim);exact gi<|gi<|ag6 ρ L
theorem vF(env):∀(names:List (eT×acH)) (cs:List (eT×eH)),(∀y∈names,y.2=.free->∃c,env.cells.lookup y.1=ac c) ->
  (∀x c,cs.lookup x=ac c->env.cells.lookup x=ac c) ->
  ∃cl:List (eT×eH),(forIn names cs (λ(x:eT×acH) (r:List (eT×eH))=>if (x.2==abn)=bi then (do let a <-cellOf env x.1;pure (aeg ((x.1,a)::r))) else pure (aeg r)):Sem (List<|eT×eH))=pure cl /\
   (∀x c,cl.lookup x=ac c->env.cells.lookup x=ac c)/\(∀x,(cs.lookup x).isSome=bi->(cl.lookup x).isSome=bi)/\∀y∈names,y.2=.free->(cl.lookup y.1).isSome=bi
 | [],cs,_,f=>⟨cs,⋯,f,λ_ h=>h,λ_ h=>by simp at h⟩
 | (n,k)::r,cs,m,f=>by
  have p:∀y∈r,y.2=.free->∃c,env.cells.lookup y.1=ac c:=λy b=>m y<|fk _ b;by_cases u:k=.free
  ·subst u;obtain⟨c,v⟩:=m (n,.free) eN ρ;have q:∀x c',((n,c)::cs).lookup x=ac c'->env.cells.lookup x=ac c':=by grind
   obtain⟨cl,t,i,d,j⟩:=vF env r ((n,c)::cs) p q;refine⟨cl,?_,i,λx z=>d x ?_,λy b l=>?_⟩
   ·rw[aca];have e:cellOf env n=pure c:=by unfold cellOf;rw[v]
    simp only[if_true,e,pure_bind];exact t
   ·rw[Z7];cases x==n<;>simp[z]
   rcases hO.1 b with rfl|b
   ·exact d _ (by simp[Z7])
   exact j y b l
  obtain⟨cl,t,i,d,j⟩:=vF env r cs p f;refine⟨cl,?_,i,d,λy b l=>?_⟩;simp_all;rcases hO.1 b with rfl|b;simp_all;exact j y b l
def Cv (h:∀y∈scope.names,y.2=.free->∃c,env.cells.lookup y.1=ac c) :
  ∃cl,closureFor scope env=pure cl/\(∀x c,cl.lookup x=ac c->env.cells.lookup x=ac c)/\∀y∈scope.names,y.2=.free->(cl.lookup y.1).isSome=bi:=by
 obtain⟨cl,b,d,_,f⟩:=vF env scope.names [] h<|λ_ _ e=>by simp at e
 refine⟨cl,?_,d,f⟩;dsimp only[closureFor];simp only[<-b];simp only[bind_pure]
theorem pN [BEq b][LawfulBEq b]:∀{l:List (b×c)}{x:b}{k:c},l.lookup x=ac k->(x,k)∈l
 | [],_,_,h=>by simp at h
 | (n,k')::r,x,k,h=>by
  rw[Z7] at h;cases d:x==n with
  | true=>simp_all
  | false=>rw[d] at h;exact fk _<|pN h
theorem xF(env:Env):∀(names:List (eT×acH)) (x:eT),
  (names.map λ(n,k)=>if (k==abn&&env.scope.kind==.function&&env.kindOf n==some .cell) then (n,aeP) else (n,k)).lookup x =
   (names.lookup x).map λk=>if (k==abn&&env.scope.kind==.function&&env.kindOf x==some .cell) then aeP else k
 | [],_=>rfl
 | (n,k)::r,x=>by
  rw[mA];cases c:x==n with
  | true =>
   have e:x=n:=by simpa using c
   subst e;by_cases b:(k==abn&&env.scope.kind==.function&&env.kindOf x==some .cell)=bi
   ·simp only[b,if_true,Z7,beq_self_eq_true,P2]
   simp only[b,if_false,Z7,beq_self_eq_true,P2,o3]
  | false =>
   have d:=xF env r x;by_cases b:(k==abn&&env.scope.kind==.function&&env.kindOf n==some .cell)=bi
   ·simp only[b,if_true,Z7,c];exact d
   simp only[b,if_false,Z7,c,o3];exact d
def RA (h:scope.names.lookup x=some .free):(adk scope env).names.lookup x=some .cell\/(adk scope env).names.lookup x=some .free:=by
 delta adk;simp only[xF,h];simp only[P2];split
 ·exact ι ρ
 exact τ ρ
theorem PC (b:∀y∈scope.names,y.2≠.cell)(h:(adk scope env).names.lookup x=some .cell\/(adk scope env).names.lookup x=some .free):scope.names.lookup x=some .free:=by
 unfold adk at h;rw[xF] at h;cases e:scope.names.lookup x with
 | none=>simp_all
 | some k=>have hm:=b _<|pN e;grind
def cz(X:Cx)(NB:List eT)(scope:aaf)(cl:List (eT×eH))(C:eH)(b:eK)(H:Hp)(c:List eH):Cx :=
 {X with N:=NB,cR:=b,sA:=H,env:=compEnvC scope cl C X.env,outer:=X.stack,ex:=c,fn:=λ_=>false,pn:=[],xe:=λ_ _=>False}
noncomputable def eO(caps:List (Option Nat))(σ:St):St:=caps.map λo=>o.bind λj=>(σ[j]?).join
noncomputable def gP(N NB:List eT)(b:aaf)(caps:List (Option Nat)):Bool :=
 caps.length==NB.length&&(hM caps.length).all λi=>match caps[i]? with
  | some (ac j)=>(match NB[i]?,N[j]? with|some x,ac y=>x==y&&b.names.lookup x==some .free|_,_=>false)
  | _=>true
def Uk (h:gP N NB b caps=bi):(eO caps σ).length=NB.length:=by delta gP at h;rw[hF] at h;simp[eO];simpa using h.1
theorem UC{N NB:List eT}{c:aaf}{σ:St}{caps:List (Option Nat)}{i:Nat}{x:eT}{v:V}(h:gP N NB c caps=bi)(k:NB[i]?=ac x)(b:(eO caps σ)[i]?=ac (ac v)) :
  c.names.lookup x=some .free/\∃j:Nat,N[j]?=ac x/\σ[j]?=ac (ac v)/\caps[i]?=ac (ac j):=by
 unfold gP at h;rw[hF] at h;unfold eO at b;rw[ez] at b;cases e:caps[i]? with
 | none=>rw[e] at b;exact nO b
 | some o =>
  rw[e] at b;cases o with
  | none=>cases b
  | some j =>
   have d:=(bt.1 e).1;have q:=hE.1 h.2 i<|nk.2 d;rw[e] at q;dsimp only at q;rw[k] at q;cases f:N[j]? with
   | none=>simp_all
   | some y =>
    rw[f] at q;simp only[hF] at q;have l:x=y:=by simpa using q.1
    subst l;refine⟨by simpa using q.2,j,f,?_,rfl⟩;simp at b;cases m:σ[j]? with
    | none=>rw[m] at b;exact nO b
    | some z=>simp_all
structure jl (sc:aaf) (scope:aaf):Prop where
 kind:scope.kind=.function
 Cq:∀y∈scope.names,y.2≠.cell
 loc:∀y∈scope.names,y.2=.local->scope.names.lookup y.1=some .local
 free:∀y∈scope.names,y.2=.free->sc.names.lookup y.1=some .cell\/sc.names.lookup y.1=some .free
def Qv (I:Inv X pins σ H s)(S:jl X.env.scope scope)(n:gP X.N NB scope caps=bi)(d:∀x c,cl.lookup x=ac c->X.env.cells.lookup x=ac c)(B:∀y∈scope.names,y.2=.free->(cl.lookup y.1).isSome=bi)(Q:f.Ns s.heap.objs.size λ_=>am)(keep:∀b o,s.heap.get? b=ac o->f.get? b=ac o)(q:∀b∈O,jq X pins H b/\b<s.heap.objs.size) :
  Inv (cz X NB scope cl s.heap.objs.size s H O) [] (eO caps σ) H {s with heap:=f,toks:=tk}:=by
 have hC:X.env.locals<s.heap.objs.size:=I.lt;refine⟨⟨I.ok.mod,?_,I.ok.glob,I.ok.blt,ft _,λx y c D F=>?_,λx V=>?_,λx c h=>?_,I.ok.hd,I.ok.frames,ι ρ,λb t=>?_,λb o e=>?_,px I.ok.je I.sz,λb o e t=>?_,λb t hm=>?_,I.stack,I.zV⟩,
  ρ,I.bare,Un.kept keep,⟨_,Q,λi x v D F h3=>?_⟩,λx c h=>?_,I.aq.fresh<|ft _,λx c h=>?_,λp W=>absurd (show p∈([]:List (eH×C1)) from W) ⋯,I.aq.kept keep,Uk n⟩
 ·exact S.kind
 ·exact I.ok.inj x y c (d x c D)<|d y c F
 ·have A:=PC S.Cq V;exact ZW.1<|B _ (pN A) ρ
 ·exact absurd h (by show ¬(false=bi);simp)
 ·obtain⟨⟨R,G,J,L,M,T⟩,lt⟩:=q b t;exact⟨ia lt,λx c e=>M x c<|d x c e⟩
 ·exact I.bs b o e
 ·obtain⟨⟨R,G,J,L,M,T⟩,lt⟩:=q b t;rcases L with z|z
  ·exact I.ok.lQ b o e z
  exact absurd (lF (lF (gD e) I.ok.je) z)<|zd _
 ·obtain⟨⟨R,G,J,L,M,T⟩,lt⟩:=q b t;rcases hO.1 (I.qN b hm) with z|z
  ·exact G z
  exact J z
 ·obtain⟨A,j,Y,Z,_⟩:=UC n D F;obtain⟨m,hn,hl⟩:=I.loc;have hk:=S.free _ (pN A) ρ;have hv:cc X.env.scope x:=τ hk;obtain⟨u,r,l⟩:=hl j x v Y Z hv;refine⟨u,r,τ ⟨RA A,?_⟩⟩;obtain⟨c,U⟩:=ZW.1<|B _ (pN A) ρ;refine⟨c,U,?_⟩;rcases l with⟨k,_⟩|⟨_,c',C,z⟩
  ·have k:X.env.scope.names.lookup x=some .local:=k;simp_all
  rw[d x c U] at C;obtain rfl:=sO C;obtain⟨o,ho,hd⟩:=z;exact⟨o,keep c o ho,hd⟩
 ·obtain⟨v,o,ho,hd⟩:=I.cell x c<|d x c h;exact⟨v,o,keep c o ho,hd⟩
 exact I.eS x c<|d x c h
def PF(X:Cx)(ifs:List hQ)(t:TT):Prop :=
 ∀(pins:List (eH×C1)) (s:eK) (σ:St) (H:Hp) (Q:Bool->Hp->Prop),Inv X pins σ H s->t σ H Q ->
  ka (k7 X.prog X.w) X.A (Gy ifs X.env) (TP X pins σ Q) X.xe s
def vB:TT:=λ_ H Q=>Q true H
def C8:PF X [] vB:=λ_ _ _ H _ I h=>wpAny_tests_nil ⟨H,I,h⟩
def Mr (h:PT X c t):PF X [c] t:=λpins s σ H Q I b=>wpAny_tests_one<|h pins s σ H Q I b
def p9(caps:St->St)(wi:TI)(g:TG)(tc:TT)(te:TE):TE:=fun σ H Q=>wi σ H λJ k=>∀D,k D=am->∃W:Nat->Nat->St->Hp->Prop,
 (∃m,W 0 m (caps σ)<|upd k D<|.L [])/\∀i m f d,W i m f d ->
  (J.stop i d/\Q (.ref D) d)\/(J.go i d/\∀x j,J.ny i d x j->g x f j λc p=>tc c p λb l =>
   if b=bi then te c l λy n=>∃ys,n D=ac (.L ys)/\ys.length<eu/\∃e,e<m/\W (i+1) e c (upd n D<|.L<|ys++[y])
   else ∃e,e<m/\W (i+1) e c l)
theorem A3{caps:List (Option Nat)}{elt iter tg:hQ}{ifs:List hQ}{pos:z5}{it:eH}{j:List eH}{Z:Nat->pq->Prop}{J:It}{l:Hp}{g:TG}{tc:TT}{te:TE}{cl:List (eT×eH)}{Q:VK}{RR:dk->eH->adx->eK->Prop}
 (I2:Inv X pins σ l s₂)(T:Turn X.prog X.w X.K tg J j it Z)(VF:Z 0 s₂.heap)(f2:∀b∈j,jq X pins l b)(hc:X.calm=bi)(S:jl X.env.scope scope)(VQ:gP X.N NB scope caps=bi)
 (VG:∀x c,cl.lookup x=ac c->X.env.cells.lookup x=ac c)(V1:∀y∈scope.names,y.2=.free->(cl.lookup y.1).isSome=bi)
 (k:∀(cl:List (eT×eH)) (C:eH) (f:eK) (H:Hp) (j:List eH),PG (cz X NB scope cl C f H j) tg g/\PF (cz X NB scope cl C f H j) ifs tc/\PE (cz X NB scope cl C f H j) elt te)
 (hW:∀D,l D=am->∃W:Nat->Nat->St->Hp->Prop,(∃m,W 0 m (eO caps σ)<|upd l D<|.L [])/\∀i m L t,W i m L t ->
   (J.stop i t/\Q (.ref D) t)\/(J.go i t/\∀x VH,J.ny i t x VH->g x L VH fun U l=>tc U l fun b H3 =>
    if b=bi then te U H3 fun y H4=>∃ys,H4 D=ac (.L ys)/\ys.length<eu/\∃I,I<m/\W (i+1) I U (upd H4 D<|.L<|ys++[y])
    else ∃I,I<m/\W (i+1) I U H3))
 (V4:∀D C t s' m,Inv X pins σ t s'->s'.heap.Ns C m->jq X pins t C->Q (.ref D) t->RR (.ref D) C (.ok .next) s') :
  ka (k7 X.prog X.w) X.A (newList []) (fun VI f=>ka (k7 X.prog X.w) X.A (newFunctionEnv scope X.env.globals cl [] X.env.qual none .none<|ac X.env) (fun Vv O =>
   abz (k7 X.prog X.w) X.A (.compStart (.ListComp elt [⟨tg,iter,ifs,0⟩] scope pos) 0 (.ref it) VI {Vv with scope:=adk scope X.env}) (RR VI Vv.locals) O) E f) E s₂:=by
 refine abY<|wpAny_newFunctionEnv S.Cq (by intro y hy;simp at hy) (fun B F G=>?_) S.kind;have I3:Inv X pins σ (upd l s₂.heap.objs.size<|.L []) {s₂ with heap:=s₂.heap.push {cls:=.type "list",data:=.seq ([]:List dk).toArray},toks:=s₂.toks} :=
  I2.zo .nil (pe _)
 obtain⟨W,⟨m0,w0⟩,hW⟩:=hW s₂.heap.objs.size I2.fresh;generalize Vw:({s₂ with heap:=s₂.heap.push {cls:=.type "list",data:=.seq ([]:List dk).toArray},toks:=s₂.toks}:eK)=f at I3;have Vx:=congrArg (·.heap) Vw;have et3:=congrArg (·.toks) Vw;have hsz:s₂.heap.objs.size<f.heap.objs.size:=by rw[<-Vx,acm];exact aaw _
 (try rw[Vx] at F G)
 have keep:∀b o,f.heap.get? b=ac o->B.get? b=ac o:=fun b o e=>G.extBut b o (ia<|gD e)<|fA _ e;have V5:∀b o,s₂.heap.get? b=ac o->f.heap.get? b=ac o:=fun b o e=>by rw[<-Vx];exact fA _ e
 have V:∀b∈j,jq X pins (upd l s₂.heap.objs.size<|.L []) b/\b<f.heap.objs.size:=fun b k=>by obtain⟨o,e,_⟩:=T.obj _ _ VF b k;have lt:=gD e;exact⟨⟨by rw[au (ia lt)];exact (f2 b k).1,(f2 b k).2⟩,aav lt hsz⟩
 have V6:=T.keep _ _ _ VF fun b _ o e=>keep b o<|V5 b o e;have V7:=F;have IB:Inv (cz X NB scope cl f.heap.objs.size f (upd l s₂.heap.objs.size<|.L []) j) [] (eO caps σ) (upd l s₂.heap.objs.size<|.L []) {f with heap:=B,toks:=f.toks+([]:List (eT×dk)).length} :=
  Qv I3 S VQ VG V1 V7 keep V
 have Vy:Z 0 ({f with heap:=B,toks:=f.toks+([]:List (eT×dk)).length}:eK).heap:=V6;generalize ({f with heap:=B,toks:=f.toks+([]:List (eT×dk)).length}:eK)=O at IB Vy ⊢;have Vz:∀{t:Hp},(∀b∈j,t b=am)->∀b∈j,jq (cz X NB scope cl f.heap.objs.size f (upd l s₂.heap.objs.size<|.L []) j) [] t b:=fun hn b k=>by
  obtain⟨⟨f0,f1,VJ,f3,f4,f5⟩,lt⟩:=V b k;refine⟨hn b k,ia lt,fun hm=>?_,ι k,fun x c e=>f4 x c<|VG x c e,fun p hp=>absurd (show p∈([]:List (eH×C1)) from hp) ⋯⟩;rcases hO.1 (I2.qN b hm) with z|z
  ·exact f1 z
  exact VJ z
 obtain⟨bG,bF,bE⟩:=k cl f.heap.objs.size f (upd l s₂.heap.objs.size<|.L []) j;have VA:abz (k7 X.prog X.w) X.A (.compLoop (.ListComp elt [⟨tg,iter,ifs,0⟩] scope pos) 0 (.ref it) (.ref s₂.heap.objs.size)<|compEnvC scope cl f.heap.objs.size X.env) (RR (.ref s₂.heap.objs.size) f.heap.objs.size) O:=by
  refine L6 (fun n s'=>∃i L t,Inv (cz X NB scope cl f.heap.objs.size f (upd l s₂.heap.objs.size<|.L []) j) [] L t s'/\Z i s'.heap/\(∀b∈j,t b=am)/\W i n L t) ?_ m0
   ⟨0,_,_,IB,Vy,fun b k=>(V b k).1.1,w0⟩
  rintro n s5 ⟨i,Y,H5,I5,VL,VM,w5⟩;rcases hW i n Y H5 w5 with⟨stop,q⟩|⟨go,step⟩
  ·refine aI (T.done (cz X NB scope cl f.heap.objs.size f (upd l s₂.heap.objs.size<|.L []) j) ρ ρ ρ hc i [] s5 Y H5 (fun _ _=>False) I5 (Vz VM) VL stop) fun r s6 h=>?_;obtain⟨hr,I6⟩:=h;subst hr;obtain⟨m,hn,_⟩:=I6.loc;refine V4 _ _ H5 s6 m ?_ hn (I3.mi (ft _) I6.free) q;refine I3.Bg I6.os I6.base I6.aq I6.bare fun b k=>?_;obtain⟨⟨f0,f1,VJ,f3,f4,f5⟩,lt⟩:=V b k;exact⟨f3,f1,f4,f5⟩
  refine aI (T.item (cz X NB scope cl f.heap.objs.size f (upd l s₂.heap.objs.size<|.L []) j) ρ ρ ρ hc i [] s5 Y H5 (fun _ _=>False) I5 (Vz VM) VL go) fun r s6 h=>?_;obtain⟨u,hr,h6⟩:=h;subst hr;refine aI h6 fun _ s7 h=>?_;obtain⟨x,H7,I7,r7,y7,VB,Wf⟩:=h;have Wg:=I7.pinned (Vz Wf)<|T.obj _ _ VB;have back:∀{VC:St}{R:Hp}{s9:eK},Inv (cz X NB scope cl f.heap.objs.size f (upd l s₂.heap.objs.size<|.L []) j) ([]++rJ j s7.heap) VC R s9 ->
    Inv (cz X NB scope cl f.heap.objs.size f (upd l s₂.heap.objs.size<|.L []) j) [] VC R s9/\Z (i+1) s9.heap/\∀b∈j,R b=am:=fun {VC R s9} I9=>by
   refine⟨I9.sQ,T.keep _ _ _ VB fun b k o e=>(I9.pin (b,o)<|pL _<|pL _<|tO k e).1,fun b k=>?_⟩;obtain⟨o,e,d⟩:=T.obj _ _ VB b k;exact (I9.pin (b,o)<|pL _<|pL _<|tO k e).2.1
  refine aI (bG _ s7 Y H7 x u _ Wg r7<|step x H7 y7) fun _ s8 h=>?_;obtain⟨M,H8,I8,q8⟩:=h;refine aI (bF _ s8 M H8 _ I8 q8) fun ok s9 h=>?_;obtain⟨R,I9,q9⟩:=h;cases ok with
  | false=>obtain⟨I,hm,w9⟩:=q9;obtain⟨a1,a2,a3⟩:=back I9;exact⟨I,hm,i+1,M,R,a1,a2,a3,w9⟩
  | true=>refine aI (bE _ s9 M R _ I9 q9) fun v Wi h=>?_;obtain⟨y,VN,Wj,Wk,ys,hD,hz,I,hm,Wl⟩:=h;refine aI (HS _ Wi M VN (.ref s₂.heap.objs.size) [y] (.ref s₂.heap.objs.size) [v] (fun _ VO=>VO=upd VN s₂.heap.objs.size (.L<|ys++[y])) Wj ρ (.cons Wk .nil) ⟨_,ys,y,ρ,ρ,hD,hz,ρ⟩) fun _ s11 h=>?_;obtain⟨_,VO,Wm,_,Wn⟩:=h;subst Wn;obtain⟨a1,a2,a3⟩:=back Wm;exact⟨I,hm,i+1,M,_,a1,a2,a3,Wl⟩
 exact codeAny_compStart_list VA<|T.self _ 0 _ _ _ Vy VA
def DP(z:X.calm=bi)(S:jl X.env.scope scope)(i:gP X.N NB scope caps=bi)(B:PI X tg iter wi)
 (j:∀(cl:List (eT×eH)) (C:eH) (c:eK) (H:Hp) (d:List eH),PG (cz X NB scope cl C c H d) tg g/\PF (cz X NB scope cl C c H d) ifs tc/\PE (cz X NB scope cl C c H d) elt te)
 (hs:∀x,xn iter X.env x=pure x:=by intro _;rfl):PE X (.ListComp elt [⟨tg,iter,ifs,0⟩] scope pos) (p9 (eO caps) wi g tc te):=by
 intro pins s σ H Q I h;obtain⟨cl,f,p,r⟩:=Cv<|λy F k=>I.ok.has y.1<|S.free y F k;refine aej ρ hs f S.kind S.loc (aI (B pins s σ H _ I h) λxv s₁ l=>aI l λitv s₂ n=>?_);obtain⟨it,d,tn,J,H2,rfl,G,T,t,L,M⟩:=n;apply A3 G T t L z S i p r j M;intro D C O s' m R U k q;refine⟨m,U,λh' v=>⟨.ref D,O,?_,ρ,q⟩⟩;obtain⟨V,W,f2',Y,Z,f5⟩:=k;exact R.turned (λb o j e=>(v.2 b j).trans e) V W Y Z f5
def AZ (hN:X.N.Nodup)(F:X.N[i]?=ac y)(l:Loc X.env.scope y)(hc:X.calm=bi)(S:jl X.env.scope scope)(n:gP X.N NB scope caps=bi)(hi:PI X tg iter wi)(p:∀(cl:List (eT×eH)) (C:eH) (c:eK) (H:Hp) (j:List eH),PG (cz X NB scope cl C c H j) tg g/\PF (cz X NB scope cl C c H j) ifs tc/\PE (cz X NB scope cl C c H j) elt te)(G:H9 (.ListComp elt [⟨tg,iter,ifs,0⟩] scope pos) (ac<|.Name y py) d.line X.env=pure true)(hs:∀x,xn iter X.env x=pure x:=by intro _;rfl)(r:X.fn y=bi\/X.env.scope.names.lookup y=some .local:=by first|exact ι ρ|exact τ ρ|assumption) :
  PS X (.Assign [.Name y py] (.ListComp elt [⟨tg,iter,ifs,0⟩] scope pos) d) (rY (p9 (eO caps) wi g tc te)<|mQ i):=by
 intro pins s σ H D I h;obtain⟨cl,k,L,M⟩:=Cv<|λy l r=>I.ok.has y.1<|S.free y l r;rw[exec_Assign_Name_used _ _ _ _ G];refine ey<|acY<|ey ?_;show ka _ X.A (do let _ <-comprehension (.ListComp elt [⟨tg,iter,ifs,0⟩] scope pos) scope X.env _ (newList []) false (eval iter X.env) (ac<|aaQ (.Name y py) X.env)) _ _ s;refine ey (Dt (aej ρ hs k S.kind S.loc (aI (hi pins s σ H _ I h) λxv s₁ t=>aI t λitv s₂ u=>?_)) (λ_ s' hq=>gi<|gi hq) λ_ _ e=>e);obtain⟨it,j,tn,J,H2,rfl,I2,T,O,f2,hW⟩:=u;apply A3 (Q:=λx H1=>mQ i x σ H1 D.nx) I2 T O f2 hc S n L M p hW;intro U C H' s' m I' hn V q;obtain⟨f0,W,f2',f3,Y,f5⟩:=V;refine afK<|E9 (v:=.ref U) I' hN F l ρ (λZ Vs f=>?_) r;obtain⟨a,f,ha⟩:=f;have Vt:C≠a:=by
  rintro rfl;rcases ha with z|z
  ·exact W z
  exact Y _ _ z ρ
 refine⟨m,hn.sameBut f Vt,λh' B=>?_⟩;exact⟨_,H',Vs.turned (λb o p e=>(B.2 b p).trans e) f0 W f3 Y f5,q⟩
theorem cB.alive(x:cB P w H h a o):∃u,h.get? a=ac u:=by
 cases o with
 | L xs=>obtain⟨z,its,n,r,e⟩:=x;exact⟨_,e⟩
 | U xs=>obtain⟨z,its,r,ob,e,c⟩:=x;exact⟨_,e⟩
 | dK kvs=>obtain⟨z,y,vs,r,ob,b,ep,e,c⟩:=x;exact⟨_,e⟩
 | dT kvs=>obtain⟨z,y,xs,r,ob,b,ep,e,c⟩:=x;exact⟨_,e⟩
 | set S n=>obtain⟨ob,b,ep,t,e,c⟩:=x;exact⟨_,e⟩
 | ins C dx fs=>obtain⟨d,z,ne,e,i,_⟩:=x;exact⟨_,e⟩
 | O y=>exact x
 | xd fs=>obtain⟨i,⟨od,b,ep,e,c⟩,r⟩:=x;exact⟨_,e⟩
 | rM lo hi=>obtain⟨t,u,v,e⟩:=x;exact⟨_,e⟩
 | bB ob u=>obtain⟨e,q⟩:=x;exact⟨_,e⟩
 | lx ps=>exact⟨_,x⟩
 | met f y=>exact⟨_,x⟩
 | ext φ=>obtain⟨p,e,st⟩:=x;exact e
def cp.tracked(x:cp P w H h)(k:∀b u,H b≠am->h.get? b=ac u->h'.get? b=ac u):cp P w H h':=λc ob e =>
 (x c ob e).gw (λb u d q=>k b u (by
  rcases d with z|z
  ·rw[z,e];simp
  rw[z];simp) q) (λ_ q=>q) λ_ _ q=>q
theorem cp.dead(x:cp P w H h)(e:h.get? a=am):H a=am:=by
 cases q:H a with
 | none=>rfl
 | some u=>obtain⟨v,z⟩:=(x a u q).alive;rw[e] at z;exact nO z
structure Flt (av:List eH) (H:Hp) (h₀:pq) (a:eH) (cls fl:dk) (h:pq):Prop where
 ex:∃(a0:dk) (T:eH) (oe oT:C1) (vs ts:Array dk),h.get? a=ac oe/\oe.cls=cls/\oe.data=.fields vs/\vs[0]?=ac a0/\vs[1]?=ac (.ref T)/\T≠a/\h.get? T=ac oT/\oT.data=.fields ts/\ts[3]?=ac fl/\H T=am/\h₀.get? T=am/\T∉av
 na:H a=am
 nw:h₀.get? a=am
 nv:a∉av
def Inv.GQ{h':pq}{tk:Nat}{ch:List eH}(I:Inv X pins σ H s)
 (j:∀b∈ch,H b=am/\X.cR.heap.get? b=am/\(∀o,s.heap.get? b=ac o->∃vs,o.data=.fields vs)/\∀p∈X.pn++pins,p.1≠b)
 (keep:∀b o,b∉ch->b∉dm X.stack->s.heap.get? b=ac o->h'.get? b=ac o)
 (slot:∀b o,b∉ch->b∈dm X.stack->s.heap.get? b=ac o->∃sl,h'.get? b=ac {o with slots:=sl}):Inv X pins σ H {s with heap:=h',toks:=tk}:=by
 have any:∀b o,b∉ch->s.heap.get? b=ac o->∃sl,h'.get? b=ac {o with slots:=sl}:=λb o f e=>by
  by_cases z:b∈dm X.stack
  ·exact slot b o f z e
  exact⟨o.slots,keep b o f z e⟩
 have y:∀b o,X.cR.heap.get? b=ac o->b∉ch:=λb o e f=>by rw[(j b f).2.1] at e;exact nO e
 have L:∀b o,X.cR.heap.get? b=ac o->b≠X.env.locals:=λb o e=>ia<|lF (gD e) I.ok.above;have j0:∀b,b∈dm X.stack->b≠X.env.locals->b∈X.fs:=λb f hl=>by
  rcases hO.1 (I.qN b f) with z|z
  ·exact absurd z hl
  exact z
 have D:∀x c,X.env.cells.lookup x=ac c->c∉ch:=λx c e f=>by obtain⟨v,o,ho,hd⟩:=I.cell x c e;obtain⟨vs,z⟩:=(j c f).2.2.1 o ho;rw[hd] at z;contradiction
 have t:∀x c,X.env.cells.lookup x=ac c->∀v,s.heap.IsCell c v->h'.IsCell c v:=λx c e v ⟨o,ho,hd⟩=>by obtain⟨sl,q⟩:=any c o (D x c e) ho;exact⟨_,q,hd⟩
 obtain⟨m,M,hl⟩:=I.loc;obtain⟨N,R,ep,F,G,S⟩:=M;have J:X.env.locals∉ch:=λf=>by obtain⟨vs,z⟩:=(j _ f).2.2.1 N F;rw[G] at z;contradiction
 obtain⟨slL,T⟩:=any _ N J F;refine⟨I.ok,I.os,I.bare,⟨λb o e n f A=>?_,λb o e n f A=>?_,I.base.free,λb o e A=>?_,I.base.iz,I.base.gN,I.base.iu⟩,⟨m,⟨_,R,ep,T,G,S⟩,λi x v B C U=>?_⟩,λx c e=>?_,I.free,I.eS,λp O=>?_,?_,I.len⟩
 ·exact keep b o (y b o e) (λz=>f<|j0 b z<|L b o e)<|I.base.keep b o e n f A
 ·obtain⟨sl,B⟩:=I.base.slot b o e n f A;obtain⟨Q,C⟩:=any b _ (y b o e) B;exact⟨Q,C⟩
 ·obtain⟨V,B⟩:=I.base.there b o e A;obtain⟨sl,C⟩:=any b V (y b o e) B;exact⟨_,C⟩
 ·obtain⟨u,r,l⟩:=hl i x v B C U;refine⟨u,r,?_⟩;rcases l with l|⟨k,c,e,z⟩
  ·exact ι l
  exact τ ⟨k,c,e,t x c e _ z⟩
 ·obtain⟨v,z⟩:=I.cell x c e;exact⟨v,t x c e v z⟩
 ·obtain⟨e,n,ne,nf,d⟩:=I.pin p O;exact⟨keep p.1 p.2 (λz=>(j _ z).2.2.2 p O ρ) (λz=>nf<|j0 _ z ne) e,n,ne,nf,d⟩
 refine I.aq.tracked λb u f e=>keep b u (λz=>f (j b z).1) (λz=>f<|I.zV b z) e
abbrev og(X:Cx)(pins:List (eH×C1)):List Addr:=(X.pn++pins).map (·.1)
theorem Inv.ve (I:Inv X pins σ H s)(F:Flt (og X pins) H X.cR.heap a cls t s.heap)(u:X.ex=[]) :
  ∃a0 B,B.StaysIn s.heap/\B.get? a=am/\s.heap.FunFrames B X.stack/\s.heap.TracedAtW B a cls a0 t /\
   ∀(h':pq) (tk:Nat) (i:dk),B.StaysIn h'->h'.TracedAtW B a cls a0 i->s.heap.UpToSlots h'->Inv X pins σ H {s with heap:=h',toks:=tk}/\Flt (og X pins) H X.cR.heap a cls i h':=by
 obtain⟨⟨a0,T,oe,oT,vs,ts,v,e2,x,e4,e5,e6,A,C,e9,D,G,J⟩,na,L,M⟩:=F;have k:=I.stack;have nfr:∀{b:eH}{o:C1}{us:Array dk},s.heap.get? b=ac o->o.data=.fields us->b∉dm X.stack:=λ{b o us} q d f=>by obtain⟨_,N,O,n⟩:=k.mem f;rw[q] at O;obtain rfl:=sO O;exact n _ d
 have Q:∀env∈X.stack,∀b,env.frame=ac b->b∈a::T::dm X.stack:=λenv he b f=>fk _<|fk _<|ZJ.2 ⟨env,he,f⟩;refine⟨a0,afA s.heap (a::T::dm X.stack),λb o q=>ael _ q,adI _ eN,afB k Q,⟨oe,vs,T,oT,ts,v,⟨e2,e4⟩,x,e5,adI _<|fk _ eN,e6,A,C,e9⟩,?_⟩;intro h' tk i hB tr up;have keep:∀b o,b∉[a,T]->b∉dm X.stack->s.heap.get? b=ac o->h'.get? b=ac o:=λb o l m q=>by
  refine hB b o (abT _ q λz=>?_);rcases hO.1 z with z|z
  ·exact l (by simp[z])
  rcases hO.1 z with z|z
  ·exact l (by simp[z])
  exact m z
 have j:∀b,b∉og X pins->∀p∈X.pn++pins,p.1≠b:=λb f p r z=>f<|z ▸ List.mem_map_of_mem r;refine⟨I.GQ (λb f=>?_) keep (λb o l m q=>up b o q (k.mem m |>.2.elim λN z=>by rw[z.1] at q;obtain rfl:=sO q;exact z.2)),?_⟩
 ·rcases hO.1 f with z|z
  ·subst z;exact⟨na,L,λo q=>by rw[v] at q;obtain rfl:=sO q;exact⟨_,x⟩,j _ M⟩
  have z:b=T:=by simpa using z
  subst z;exact⟨D,G,λo q=>by rw[A] at q;obtain rfl:=sO q;exact⟨_,C⟩,j _ J⟩
 obtain⟨R,S,c,U,V,f1,⟨f2,f4⟩,f3,f5,Y,Z,f7,f8,f9⟩:=tr;have hT:s.heap.get? c=am\/c=T:=by
  cases q:s.heap.get? c with
  | none=>exact ι ρ
  | some o =>
   by_cases z:c=T
   ·exact τ z
   by_cases z2:c∈dm X.stack
   ·obtain⟨_,o2,q2,n⟩:=k.mem z2;obtain⟨sl,q3⟩:=up c o2 q2 n;rw[f7] at q3;obtain rfl:=sO q3;exact absurd f8<|n _
   have:=abT (a::T::dm X.stack) q (by
    intro y;rcases hO.1 y with y|y
    ·exact Z y
    rcases hO.1 y with y|y
    ·exact z y
    exact z2 y)
   rw[Y] at this;exact nO this
 refine⟨⟨a0,c,R,U,S,V,f1,f2,f3,f4,f5,Z,f7,f8,f9,?_⟩,na,L,M⟩;rcases hT with q|q
 ·refine⟨I.aq.dead q,?_,λz=>?_⟩
  ·cases y:X.cR.heap.get? c with
   | none=>rfl
   | some o=>obtain⟨N,y'⟩:=I.base.there c o y (by rw[u];simp);rw[q] at y';exact nO y'
  obtain⟨p,r,e⟩:=ee.1 z;have:=(I.pin p r).1;rw[e,q] at this;exact nO this
 subst q;exact⟨D,G,J⟩
end
def dP(P:lq)(w:qh):iQ:=λouter H s E e s'=>∃a cls b,e=.ref a/\s'.os=s.os/\acs s'.gens/\Un (dm outer) [] H b s.heap s'.heap/\cp P w b s'.heap/\Flt [] b s.heap a cls .none s'.heap/\E cls (ac a) b
def mB(X:Cx)(c:St)(cls:dk)(a:eH)(H:Hp):Prop:=∀(b:List (eH×C1)) (s:eK),Inv X b c H s->Flt (og X b) H X.cR.heap a cls .none s.heap->X.xe (.ref a) s
def xE(X:Cx)(c:St)(C:eH)(H:Hp):Prop:=∀(b:List (eH×C1)) (s:eK) (h':pq) (a:eH) (vs:List dk),Inv X b c H s->Heap.MadeExcOf s.heap h' a (.ref C) vs->X.xe (.ref a) {s with heap:=h'}
def Flt.weak (F:Flt e H h₀ a cls f h)(k:∀b,b∉e->h₀.get? b=am->b∉d/\c.get? b=am):Flt d H c a cls f h:=by obtain⟨⟨a0,T,m,n,vs,o,p,q,r,s,t,u,v,w,x,y,g,i⟩,na,j,l⟩:=F;exact⟨⟨a0,T,m,n,vs,o,p,q,r,s,t,u,v,w,x,y,(k T i g).2,(k T i g).1⟩,na,(k a l j).2,(k a l j).1⟩
section
variable{P:lq}{w:qh}{K:gW}{mg:eT->Option dk}{base:pq}{N:List eT}{qual:eT}{scope:aaf}{f:eH}{cd:dk}{A:pk}{outer:List Env}{s:eK}{H:Hp}{E:XK}{σ:St}{cls:dk}{a C:eH}{H1:Hp}
def Tf(g:E cls (ac a) H1):mB (dQ (dP P w) P w K mg base N qual scope f cd A outer s H E) σ cls a H1:=by intro pins c I F;obtain⟨a0,B,h,d,i,tr,nx⟩:=I.ve F ρ;refine wpAny_leaves_onW I.ok.frames ρ ⟨h,d,i,tr⟩ λh' e up=>?_;obtain⟨J,j⟩:=nx h' c.toks .none e.1 e.2.2.2 up;exact⟨a,cls,H1,ρ,J.os,J.bare,J.base,J.aq,j.weak λb _ k=>⟨⋯,k⟩,g⟩
theorem L7(M:∀a,E (.ref C) (ac a) H1):xE (dQ (dP P w) P w K mg base N qual scope f cd A outer s H E) σ C H1:=by
 intro i c h' a vs I made;have j:=I.stack;have k:∀env∈(dQ (dP P w) P w K mg base N qual scope f cd A outer s H E).stack,∀b,env.frame=ac b->b∈dm (dQ (dP P w) P w K mg base N qual scope f cd A outer s H E).stack:=λenv O b d=>ZJ.2 ⟨env,O,d⟩;have l:=afB j k;have e:∀b,c.heap.get? b=am->s.heap.get? b=am:=λb q=>by
  cases y:s.heap.get? b with
  | none=>rfl
  | some o=>obtain⟨Q,m⟩:=I.base.there b o y (by simp[dQ]);rw[q] at m;exact nO m
 refine wpAny_leaves_madeW I.ok.frames ρ (λb o q=>ael _ q) l made λp t r U tn up=>?_;have g:=(afO made.keeps).trans up;have J:Inv (dQ (dP P w) P w K mg base N qual scope f cd A outer s H E) i σ H1 {c with heap:=p,toks:=c.toks}:=by refine I.GQ (ch:=[]) (λb d=>absurd d ⋯) (λb o _ d q=>r.1 b o<|abT _ q d) λb o _ d q=>g b o q ?_;obtain⟨_,Q,u,n⟩:=j.mem d;rw[q] at u;obtain rfl:=sO u;exact n
 refine⟨a,.ref C,H1,ρ,J.os,J.bare,J.base,J.aq,?_,M a⟩;obtain⟨R,v,T,S,U,V,⟨X,Y⟩,Z,f5,x,f6,B,D,f9⟩:=r.2.2.2;have F:c.heap.get? T=am:=by
  cases q:c.heap.get? T with
  | none=>rfl
  | some o =>
   by_cases z:T∈dm (dQ (dP P w) P w K mg base N qual scope f cd A outer s H E).stack
   ·obtain⟨_,o2,q2,n⟩:=j.mem z;obtain⟨sl,G⟩:=g T o2 q2 n;rw[B] at G;obtain rfl:=sO G;exact absurd D<|n _
   have:=abT _ q z;rw[x] at this;exact nO this
 exact⟨⟨_,T,R,S,v,U,V,X,Z,Y,f5,f6,B,D,f9,I.aq.dead F,e T F,⋯⟩,I.aq.dead made.new,e a made.new,⋯⟩
end
section
variable{X:Cx}{pins:List (eH×C1)}{σ:St}{H:Hp}{s:eK}
def RN{K:gW}{h:pq}{C:eH}{b:List dk}{a:String}(k:K.In h)(q:ac7 K C b a=bi) :
  ∃bm N nm c bs hd sn sub ab col dd k0 k1 k2 k3 k5 mN,h.get? C=ac (excClassObj nm c C N bs bm hd sn sub ab col dd k0 k1 k2 k3 k5 a)/\h.Ns N mN/\mN "__init__"=am/\OwnTail h b bm:=by
 delta ac7 at q;split at q
 case h_2=>contradiction
 case h_1 dd cd sl ho =>
  split at q
  case h_2=>contradiction
  case h_1 C' bm k0 k1 k2 k3 n k5 hm hs =>
   simp only[hF,hF,hF,hF] at q;obtain⟨⟨⟨⟨⟨f,g⟩,i⟩,o⟩,d⟩,j⟩:=q;have p:C'=C:=by simpa using f
   have r:n=a:=by simpa using g
   have l:cd.hasDel=bv:=by simpa using i
   have m:=beq_iff_eq.1 j;clear f g i j;subst p r;rcases cd with⟨nm,bs,mro,ns,c,hd,sn,sub,ab,col,del⟩;simp only at hm l d m;subst hm l;have e:sl=#[k0,k1,k2,k3,ac<|.builtin n,k5]:=by
    cases sl;simp only at hs;rw[hs]
   subst e;exact⟨bm,ns,nm,c,bs,hd,sn,sub,ab,col,dd,k0,k1,k2,k3,k5,_,k _ _ ho,.of_isNs<|W.isNs_of_in k d,W.nsMap_none_of_in k d m,W.tail_of_in k o⟩
def Te(X:Cx)(C:eH)(t:TA):TS:=λ_ σ H=>t σ H λvs a=>vs.length<=eu/\xE X σ C a
def Ny (k:aeR B c f j)(u:ac7 X.K C j c=bi)(g:X.A.handled=am)(v:Gl X x)(hm:X.mg x=ac (.ref C))(w:PA X (e::d) t)(l:bA x:=by decide)(m:bC X e d:=by rfl)(n:(Hz b<|ma d X.env).any (·.1)=bv:=by rfl) :
  PS X (.Raise (ac<|.Call (.Name x p) (e::d) [] b) am pos) (Te X C t):=by
 intro pins s σ H D I h;obtain⟨bm,y,nm,E,bs,hd,sn,sub,ab,col,dd,k0,k1,k2,k3,k5,mN,F,G,o,T⟩:=RN I.ok.mod.qV u;refine wpAny_Raise_call_subT (nm:=nm) (q:=E) (N:=y) (bs:=bs) (hdct:=hd) (sn:=sn) (sub:=sub) (ab:=ab) (col:=col) (dd:=dd) (k0:=k0) (k1:=k1) (k2:=k2) (k3:=k3) (k5:=k5) k (T.hasType k.hasBase) g (by rw[m];show (false||(Hz b<|ma d X.env).any (·.1))=bv;rw[n];rfl) o<|qF I v hm ⟨ρ,?_⟩ l;have q:=w b pins s σ H _ I h;rw[m] at q ⊢;refine aci (aI q λus J ⟨vs,H1,i,r,z,L⟩=>?_);exact⟨ρ,by rw[<-r.length];exact z,i.bk _ _ F,G.keeps i.bk,T.keeps i.bk,λh' a made=>L pins J h' a us i made⟩
def KA(X:Cx)(sp:Sp)(t:TA):TE:=fun σ H Q=>t σ H λvs c=>∃E,sp vs c Q E/\∀cls a b,E cls (ac a) b->mB X σ cls a b
variable{k:Nat}{f C:eH}{fd:hU}{ps:List eT}{sp:Sp}{E:XK}{x m:eT}{p pos apos:z5}{e o:hQ}{es:List hQ}{ta:TE}{t:TA}
theorem Rl (F:aS X.prog X.w X.K X.mg X.base (dP X.prog X.w) k f fd ps sp)(B:cb k X.A)(d:Binds X.K fd ps [])(j:X.ex=[])(I:Inv X pins σ H s)(r:aJ vs us)(h:sp vs H Q E)(D:∀cls a l,E cls (ac a) l->mB X σ cls a l):ka (k7 X.prog X.w) X.A (call (.ref f) us) (EP X pins σ Q) X.xe s:=by
 have hl:(us++[]).length=ps.length:=by rw[wa,<-r.length];exact F.len _ _ _ _ h
 have g:=d s us I.d9 hl;rw[wa] at g;refine aft (aby (F.run X.A X.stack s H ⟨us,[]⟩ us vs Q E B I.HN g r h) λr s' c=>?_);cases r with
 | error e =>
  obtain⟨a,cls,n,rfl,os,bare,un,aq,i,G⟩:=c;have J:=I.Bg (ch:=[]) os un aq bare<|λb z=>absurd z ⋯;refine D cls a n G pins s' J (i.weak λb _ d=>⟨λz=>?_,?_⟩)
  ·obtain⟨q,c,e⟩:=ee.1 z;have:=(I.pin q c).1;simp only[e,d] at this;exact nO this
  cases y:X.cR.heap.get? b with
  | none=>rfl
  | some o=>obtain⟨o',v⟩:=I.base.there b o y (by rw[j];simp);rw[d] at v;exact nO v
 | ok i =>
  cases i with
  | ret u=>exact I.after c
  | next=>exact ZG c
  | brk=>exact ZG c
  | cont=>exact ZG c
theorem p8(F:aS X.prog X.w X.K X.mg X.base (dP X.prog X.w) k f fd ps sp)(g:cb k X.A)(i:Gl X x)(hm:X.mg x=ac (.ref f))(j:abA X.K (.ref f)=bi)(l:Binds X.K fd ps [])(a:X.ex=[])
 (n:PA X (e::es) t)(b:bA x:=by decide)(u:bC X e es:=by rfl)(c:(Hz pos<|ma es X.env).any (·.1)=bv:=by rfl) :
  PE X (.Call (.Name x p) (e::es) [] pos) (KA X sp t):=by
 intro pins s σ H Q I h;refine abK<|qF I i hm ?_ b;refine agO I.ok.mod.qV j (aI (n pos pins s σ H _ I h) fun us s1 ⟨vs,H1,d,r,E,q,v⟩=>⟨d.d9,?_⟩) u c;exact Rl F g l a d r q v
end
def Cp(a:eH)(cls:dk)(h:pq):Prop:=∃o vs,h.get? a=ac o/\o.cls=cls/\o.data=.fields vs
noncomputable def excAt(a:eH)(cls:dk):HO:=.ext<|Cp a cls
section
variable{X:Cx}{pins:List (eH×C1)}{σ:St}{H:Hp}{s:eK}{prog:lq}{w:qh}{A:pk}{E:dk->eK->Prop}{K:gW}{h:pq}{g:Array ach}{d:Drawn}{t:Nat}{os:OsState}{a C:eH}{o:C1}
def Inv.Q9 (I:Inv X pins σ H s)(F:Flt (og X pins) H X.cR.heap a cls B s.heap):Inv X pins σ (upd H a<|excAt a cls) s:=by
 obtain⟨⟨a0,T,l,oT,vs,ts,f,D,j,_⟩,na,G,J⟩:=F;have ne:∀b u,H b=ac u->b≠a:=λb u q z=>by rw[z,na] at q;exact nO q
 obtain⟨m,L,hl⟩:=id I.loc;obtain⟨oL,es,ep,i,r,hr⟩:=L;have M:X.env.locals≠a:=λz=>by simp only[z,f] at i;obtain rfl:=sO i;rw[j] at r;contradiction
 refine⟨I.ok,I.os,I.bare,⟨I.base.keep,I.base.slot,λb o e n N=>?_,I.base.there,λb xs e=>?_,λb o u e=>?_,λb O e=>?_⟩,I.loc,I.cell,?_,λx c e=>?_,λp y=>?_,λb u e=>?_,I.len⟩
 ·rw[au (λz=>by rw[z,G] at e;exact nO e)];exact I.base.free b o e n N
 ·have q:=I.base.iz b xs e;rw[au (ne b _ q)];exact q
 ·have q:=I.base.gN b o u e;rw[au (ne b _ q)];exact q
 ·obtain⟨more,q⟩:=I.base.iu b O e;exact⟨more,by rw[au (ne b _ q)];exact q⟩
 ·rw[au M];exact I.free
 ·obtain⟨v,o,ho,hd⟩:=I.cell x c e;rw[au (λz=>by simp only[z,f] at ho;obtain rfl:=sO ho;rw[j] at hd;contradiction)];exact I.eS x c e
 ·obtain⟨q,n,P,nf,d⟩:=I.pin p y;exact⟨q,by rw[au (λz=>J<|ee.2 ⟨p,y,z⟩)];exact n,P,nf,d⟩
 by_cases z:b=a
 ·subst z;rw[aV] at e;obtain rfl:=sO e;exact⟨⟨l,vs,f,D,j⟩,⟨l,f⟩,λh1 h2 ⟨o,Q,R,S,U⟩ k=>⟨o,Q,k o R,S,U⟩⟩
 rw[au z] at e;exact (I.aq b u e).gw (λc w' hc q=>q) (λc q=>by rw[au (ne c _ q)];exact q) λc xs q=>by rw[au (ne c _ q)];exact q
def Inv.KD (I:Inv X pins σ H s)(O:X.N.Nodup)(P:X.N[i]?=ac n)(hl:∀(i:Nat) (x:eT) (v:V),X.N[i]?=ac x->σ[i]?=ac (ac v)->cc X.env.scope x->∃u,RelV v u/\Look X.env s.heap m x u)(Q:h'.Ns X.env.locals (λx=>if x=n then v else m x))(f:aae X.env.locals s.heap h') :
  Inv X pins (σ.set i am) H {s with heap:=h',toks:=tk}:=by
 have gH:=I.gH;obtain⟨_,L,_⟩:=I.loc;obtain⟨oL,_,_,hoL,_⟩:=L;refine⟨I.ok,I.os,I.bare,⟨λb o e n D F=>?_,λb o e n D F=>?_,I.base.free,λb o e F=>?_,I.base.iz,I.base.gN,I.base.iu⟩,⟨_,Q,λj y R M B S=>?_⟩,λy c e=>?_,I.free,I.eS,λp T=>?_,?_,by simpa using I.len⟩
 ·exact (f.2 b<|ia<|lF (gD e) I.ok.above).trans (I.base.keep b o e n D F)
 ·obtain⟨sl,q⟩:=I.base.slot b o e n D F;exact⟨sl,(f.2 b<|ia<|lF (gD e) I.ok.above).trans q⟩
 ·obtain⟨U,q⟩:=I.base.there b o e F;exact⟨U,(f.2 b<|ia<|lF (gD e) I.ok.above).trans q⟩
 ·by_cases J:j=i
  ·subst J;by_cases G:j<σ.length
   ·rw[ql G] at B;cases B
   rw[ZN (by simpa using Nat.le_of_not_lt G)] at B;exact nO B
  rw[n3 (Ne.symm J)] at B;obtain⟨u,r,l⟩:=hl j y R M B S;refine⟨u,r,?_⟩;rcases l with⟨k,q⟩|⟨k,c,q,z⟩
  ·refine ι ⟨k,?_⟩;have:y≠n:=λz=>J (Ab O M<|z ▸ P);simp[this,q]
  exact τ ⟨k,c,q,z.sameBut f<|gH y c q⟩
 ·obtain⟨W,z⟩:=I.cell y c e;exact⟨W,z.sameBut f<|gH y c e⟩
 ·obtain⟨e,n,ne,nf,d⟩:=I.pin p T;exact⟨(f.2 p.1 ne).trans e,n,ne,nf,d⟩
 refine I.aq.tracked λb u D q=>(f.2 b λz=>?_).trans q;subst z;exact D I.free
abbrev Cx.ja(X:Cx)(v:dk)(E:dk->eK->Prop):Cx:={X with A:=X.A.mark<|ac v,calm:=false,xe:=E}
def Inv.ja (I:Inv X pins σ H s):Inv (X.ja v E) pins σ H s :=
 ⟨⟨I.ok.mod,I.ok.kind,I.ok.glob,I.ok.blt,I.ok.above,I.ok.inj,I.ok.has,I.ok.kO,λz=>(by contradiction),I.ok.frames,I.ok.j0,I.ok.rb,I.ok.bs,I.ok.je,I.ok.lQ,I.ok.nG,I.ok.gR,I.ok.kF⟩,I.os,I.bare,I.base,I.loc,I.cell,I.free,I.eS,I.pin,I.aq,I.len⟩
def Inv.T9 (ok:X.Ok)(I:Inv (X.ja v E) pins σ H s):Inv X pins σ H s :=
 ⟨ok,I.os,I.bare,I.base,I.loc,I.cell,I.free,I.eS,I.pin,I.aq,I.len⟩
abbrev Cx.nz(X:Cx)(pn:List (eH×C1))(E:dk->eK->Prop):Cx:={X with pn:=pn,xe:=E}
def Inv.nz (I:Inv X pins σ H s):Inv (X.nz (X.pn++pins) E) [] σ H s :=
 ⟨⟨I.ok.mod,I.ok.kind,I.ok.glob,I.ok.blt,I.ok.above,I.ok.inj,I.ok.has,I.ok.kO,I.ok.hd,I.ok.frames,I.ok.j0,I.ok.rb,I.ok.bs,I.ok.je,I.ok.lQ,I.ok.nG,I.ok.gR,I.ok.kF⟩,I.os,I.bare,I.base,I.loc,I.cell,I.free,I.eS,by simpa using I.pin,I.aq,I.len⟩
def Inv.nI (I:Inv (X.nz (X.pn++pins) E) b σ H s):Inv X pins σ H s :=
 ⟨⟨I.ok.mod,I.ok.kind,I.ok.glob,I.ok.blt,I.ok.above,I.ok.inj,I.ok.has,I.ok.kO,I.ok.hd,I.ok.frames,I.ok.j0,I.ok.rb,I.ok.bs,I.ok.je,I.ok.lQ,I.ok.nG,I.ok.gR,I.ok.kF⟩,I.os,I.bare,I.base,I.loc,I.cell,I.free,I.eS,λp c=>I.pin p<|z6 _ c,I.aq,I.len⟩
theorem SP.nI (h:SP (X.nz (X.pn++pins) E) e D f s'):SP X pins D f s':=by
 cases f with
 | next=>obtain⟨b,c,I,q⟩:=h;exact⟨b,c,I.nI,q⟩
 | brk=>obtain⟨b,c,I,q⟩:=h;exact⟨b,c,I.nI,q⟩
 | cont=>obtain⟨b,c,I,q⟩:=h;exact⟨b,c,I.nI,q⟩
 | ret u=>obtain⟨v,b,c,I,r,q⟩:=h;exact⟨v,b,c,I.nI,r,q⟩
def rV(X:Cx)(hs:List ac2)(Q:Flow->eK->Prop):dk->eK->Prop:=λe f =>
 ka (k7 X.prog X.w) X.A (noteFrame e X.env) (λ_ b=>ka (k7 X.prog X.w) X.A (setFlight e am) (λ_ c=>ka (k7 X.prog X.w) X.A (handleBy e X.env hs) Q X.xe c) X.xe b) X.xe f
def Ve(X:Cx)(hs:List ac2)(b:List (eH×C1)->(dk->eK->Prop)->TS):TS:=λD σ H=>∀pins,b (X.pn++pins) (rV X hs<|SP X pins D) D σ H
theorem Iz{body:List ZZ}{h₀:ac2}{hs:List ac2}{pos:z5}{b:List (eH×C1)->(dk->eK->Prop)->TS}(i:∀pn c,fm (X.nz pn c) body<|b pn c):PS X (.Try body (h₀::hs) [] [] pos) (Ve X (h₀::hs) b):=by
 intro pins s σ H D I h;refine wpAny_Try_except ?_;refine Dt (i (X.pn++pins) (rV X (h₀::hs)<|SP X pins D) [] s σ H D I.nz<|h pins) (fun j k q=>?_) fun e k q=>q;have q:=SP.nI q;cases j with
 | next=>obtain⟨f,l,m,n⟩:=q;exact abr ⟨f,l,m,n⟩
 | brk=>exact q
 | cont=>exact q
 | ret u=>exact q
theorem Ir{x n:eT}{C a:eH}{cls:dk}{i:Nat}{f:ZZ}{ja:List ZZ}{np M:z5}{D:Ends}{O:TS}(V:X.N.Nodup)(Y:X.N[i]?=ac n)(hl:X.env.kindOf n=some .local)(j:X.ex=[])(G:X.stack=X.env::X.outer)(Z:X.env.frame=ac X.env.locals)
 (hg:Gl X x)(hm:X.mg x=ac (.ref C))(hx:ac6 X.K cls (.ref C)=ac true)(Vs:∀v,fm (X.ja v fun _ _=>False) (f::ja) O)(hq:O {nx:=fun J P=>D.nx (J.set i am) P,rt:=fun _ _=>False} (σ.set i<|ac<|.ref a) (upd H a<|excAt a cls))
 (hd:bA x:=by decide):mB (X.nz (X.pn++pins)<|rV X [.ExceptHandler (ac<|.Name x np) (ac n) (f::ja) M]<|SP X pins D) σ cls a H:=by
 intro pins' s I0 F0;have I:Inv X pins σ H s:=I0.nI;have F:Flt (og X pins) H X.cR.heap a cls .none s.heap:=F0.weak fun b hb Q=>⟨fun z=>hb (by obtain⟨p,hp,e⟩:=ee.1 z;exact ee.2 ⟨p,z6 _ hp,e⟩),Q⟩
 clear I0 F0;obtain⟨a0,B,k,c,l,tr,nx⟩:=I.ve F j;refine wpAny_looks_onW (by rw[I.ok.frames,G]) Z ⟨k,c,G ▸ l,tr⟩ fun R held up=>?_;obtain⟨I1,F1⟩:=nx R s.toks _ held.1 held.2.2.2 up;clear nx up held;obtain⟨a0,B,k,c,l,tr,nx⟩:=I1.ve F1 j;refine wpAny_landsW ⟨k,c,l,tr⟩ fun r held up=>?_;obtain⟨S,F2⟩:=nx r s.toks _ held.1 held.2.2.2 up;clear nx up held;refine wpAny_handleBy_cons (codeAny_handlers_test<|qF (X:=X.ja (.ref a) fun _ _=>False) S.ja hg hm ?_ hd) (by intro q;contradiction);have LT:afl (k7 X.prog X.w) r (typeOf<|.ref a) cls:=by obtain⟨⟨a0,T,oe,oT,vs,O,e1,e2,_⟩,_,_,_⟩:=F2;subst e2;exact (afD e1).andThen .now
 refine (W.exm_one S.d9 LT hx).at ?_;refine codeAny_handlers_suite_as ?_;obtain⟨a0,B,k,c,l,tr,nx⟩:=S.ve F2 j;refine lands_againW ⟨k,c,l,tr⟩ fun U held up=>?_;obtain⟨I3,F3⟩:=nx U s.toks _ held.1 held.2.2.2 up;have I4:=I3.Q9 F3;refine wu (X:=X.ja (.ref a) fun _ _=>False) (v:=.ref a) I4.ja V Y (ι hl) ρ (fun s' I5=>?_)<|τ hl;refine Dt (Vs (.ref a) pins s' _ _ _ I5 hq) (fun fl s6 q=>?_) fun _ _ z=>z.elim;cases fl with
 | next=>obtain⟨J,P,y,q6⟩:=q;have y:=y.T9 I.ok;obtain⟨m,Q,Vw⟩:=id y.loc;refine wpAny_nameGoes_keeps hl Q (by rw[I.ok.kind];rfl) fun h' v Vx sb=>?_;exact⟨_,P,y.KD V Y Vw Vx sb,q6⟩
 | brk=>obtain⟨_,_,_,q⟩:=q;exact q.elim
 | cont=>obtain⟨_,_,_,q⟩:=q;exact q.elim
 | ret u=>obtain⟨_,_,_,_,_,q⟩:=q;exact q.elim
structure jk (K:gW) (C:eH):Prop where
 ga:abB K (.ref C) "__getattribute__"=ac (ac<|.builtin "BaseException.__getattribute__")
 gt:abB K (.ref C) "__getattr__"=ac am
 cl:abB K (.ref C) "__class__"=ac (ac<|.builtin "object.__class__")
 be:acB K C (.type "BaseException")=ac true
 ob:acB K C (.type "object")=ac true
 cd:(aem K C).isSome=bi
def NW (X:K.In h)(b:h.get? a=ac o)(c:o.cls=.ref C)(k:jk K C)(hq:R (.ok<|.ret<|.ref C) ⟨h,g,d,t,os⟩) :
  abz (k7 prog w) A (.call (.builtin "getset_descriptor.__get__") ⟨[.builtin "object.__class__",.ref a,f],[]⟩) R ⟨h,g,d,t,os⟩:=by
 have e:=acr;have i:∀{A:pk}{Q:Bool->eK->Prop}{E:dk->eK->Prop},Q true ⟨h,g,d,t,os⟩->ka (k7 prog w) A (isSubtype (.ref C)<|.type<|".".intercalate ("object.__class__".cutAt '.').dropLast) Q E ⟨h,g,d,t,os⟩:=λq=>by exact (agi X k.ob).at q
 refine acF F.slot_gs_get.plain F.entry_gs_get
  (agl.check _ _ _ _ _ _ _ _ e (F.args_gs_get _ _ _) ?_)
 repeat (any_goals (first|assumption|(with_reducible refine aaY b ?_;rw[c])|with_reducible refine i ?_|wp_step))
 refine⟨aex _ (by decide +kernel),
  Z2 F.entry_object_class ?_⟩
 repeat (any_goals (first|assumption|(with_reducible refine aaY b ?_;rw[c])|wp_step))
def SU (X:K.In h)(b:h.get? a=ac o)(c:o.cls=.ref C)(k:jk K C)(hq:Q (.done<|.ret<|.ref C) ⟨h,g,d,t,os⟩) :
  ka (k7 prog w) A (aa1.«object.__getattribute__» ⟨[.ref a,.str "__class__" tk],[]⟩) Q E ⟨h,g,d,t,os⟩:=by
 have f5:=acr;have f6:=agl.lookup;have f7:=F.slot_gs_set.lookup;have e:∀{A:pk}{Q:Option dk->eK->Prop}{E:dk->eK->Prop},Q (ac<|.builtin "object.__class__") ⟨h,g,d,t,os⟩->ka (k7 prog w) A (abL (.ref C) "__class__") Q E ⟨h,g,d,t,os⟩:=λq=>(adH X k.cl).at q
 repeat (any_goals (first|assumption|(with_reducible refine aaY b ?_;rw[c])|with_reducible refine e ?_|wp_step))
 refine NW X b c k ?_
 repeat (any_goals (first|assumption|wp_step))
def Qo (X:K.In h)(e:h.get? a=ac o)(f:o.cls=.ref C)(k:jk K C)(i:Q () ⟨h,g,d,t,os⟩) :
  ka M A (af1 "BaseException.__getattribute__" ⟨[.ref a,b],[]⟩) Q E ⟨h,g,d,t,os⟩:=by
 have j:builtinKind "BaseException.__getattribute__"=some .slot:=by decide +kernel
 have c:splitId "BaseException.__getattribute__"=ac ("BaseException","__getattribute__"):=by decide +kernel
 have l:∀{A:pk}{Q:Bool->eK->Prop}{E:dk->eK->Prop},Q true ⟨h,g,d,t,os⟩->ka M A (isSubtype (.ref C)<|.type "BaseException") Q E ⟨h,g,d,t,os⟩:=λq=>(agi X k.be).at q;have ha:=F.args_bexc_ga (.ref a) b;simp only[af1,j,c];refine ey ?_;unfold isInstance
 repeat (first|(with_reducible refine aaY e ?_;rw[f])|with_reducible refine l ?_|wp_step)
 exact i
def P4{tk:Tok}{fill b:Bool}{Q:dk->eK->Prop}(X:K.In h)(e:h.get? a=ac o)(f:o.cls=.ref C)(k:jk K C)(c:Slot "ValueError" "__getattribute__" "BaseException.__getattribute__")(hq:Q (.ref C) ⟨h,g,d,t,os⟩) :
  ka (k7 prog w) A (getAttrBy (.ref a) (.str "__class__" tk) fill b) Q E ⟨h,g,d,t,os⟩:=by
 have f3:=c.bind<|.ref a;have hx0:(b&&onTheHeap (aaW "BaseException.__getattribute__"))=bv:=by cases b<;>rfl
 have i:(aaW "BaseException.__getattribute__" == aaW "object.__getattribute__")=bv:=by decide +kernel
 have hx1:(onTheHeap (rm C)&&aaW "BaseException.__getattribute__" == aaW "object.__getattribute__")=bv:=by rw[i];rfl
 have l:∀{A:pk}{Q:Option dk->eK->Prop}{E:dk->eK->Prop},Q (ac<|.builtin "BaseException.__getattribute__") ⟨h,g,d,t,os⟩->ka (k7 prog w) A (abL (.ref C) "__getattribute__") Q E ⟨h,g,d,t,os⟩:=λq=>(adH X k.ga).at q;have j:∀{A:pk}{Q:Option dk->eK->Prop}{E:dk->eK->Prop},Q am ⟨h,g,d,t,os⟩->ka (k7 prog w) A (abL (.ref C) "__getattr__") Q E ⟨h,g,d,t,os⟩:=λq=>(adH X k.gt).at q
 repeat (any_goals (first|assumption|(with_reducible refine aaY e ?_;rw[f])|with_reducible refine l ?_|with_reducible refine j ?_|wp_step))
 refine acF c.plain F.entry_bexc_ga<|Qo X e f k<|SU X e f k ?_
 repeat (any_goals (first|assumption|wp_step))
def Jb (X:K.In h)(c:h.get? a=ac o)(e:o.cls=.ref C)(k:jk K C)(b:Slot "ValueError" "__getattribute__" "BaseException.__getattribute__")(hq:Q (ac<|.ref C) ⟨h,g,d,t+1,os⟩) :
  ka (k7 prog w) A (afa (.ref a) "__class__") Q E ⟨h,g,d,t,os⟩:=by
 unfold afa getAttrBy?
 repeat (any_goals (first|assumption|with_reducible apply P4 X c e k b|wp_step))
theorem C7(k:jk K C)(i:Slot "ValueError" "__getattribute__" "BaseException.__getattribute__"):W.KitX K (.ref a) (.ref C) (Cp a<|.ref C) where
 ty:=fun _ _ _ ⟨o,vs,c,f,_⟩=>f ▸ (afD c).andThen .now
 it:=fun M h X _=>by
  obtain⟨cd,b⟩:=ZW.1 k.cd;unfold aem at b;split at b
  ·rename_i ho;intro A' Q' E' s' l q;unfold isType loadHead;exact ey<|wpAny_loadPart (l _ _<|X _ _ ho)<|gi q
  exact nO b
 ne:=fun h m dd its n sl X j=>by
  obtain⟨cd,b⟩:=ZW.1 k.cd;refine qo.2 fun q=>?_;have e:C=m:=Value.ref.inj<|beq_iff_eq.1 q;subst e;unfold aem at b;split at b
  ·rename_i ho;have z:=(X _ _ ho).symm.trans j;cases z
  exact nO b
 ca:=fun {_ _ _ _ _ s} X ⟨o,vs,c,f,_⟩ q=>by obtain⟨h,g,d,t,os⟩:=s;exact Jb X c f k i q
end
inductive Dat where
 | aF|bl (b:Bool)|int (i:Int)|str (x:eT)
 | U (xs:List Dat)|L (xs:List Dat)|a8 (ks:List (eT×Dat))
 | exc (C:eH)
 | ins (C:eH×eH) (fs:List (eT×Dat))
 | cV (ns:List Int)
 | adr (p:eH)
 /-- a tuple of texts that lies in the heap -/
 | dM (l:List eT)
 /-- a dict that is gone through: its object stays as it is -/
 | fu (ks:List (eT×Dat))
 /-- a dict whose keys are tuples of texts;fz: gone through,its object stays as it is -/
 | aX (fz:Bool) (ks:List (List eT×Dat))
mutual
/-- the value v is the datum d,over the heap H (and the module's own objects) -/
def Rep(K:gW)(H:Hp):Dat->V->Prop
 | .aF,v=>v=.aF
 | .bl b,v=>v=.bl b
 | .int i,v=>v=.int i
 | .str x,v=>v=.str x
 | .U ds,v=>∃p vs,v=.ref p/\bq K H p vs/\aA K H ds vs
 | .L ds,v=>∃p vs,v=.ref p/\Rd H p (.L vs)/\aA K H ds vs
 | .a8 a,v=>∃p kvs,v=.ref p/\H p=ac (.dK kvs)/\bN K H a kvs
 | .exc C,v=>∃p,v=.ref p/\H p=ac (excAt p<|.ref C)
 | .ins C fs,v=>∃p c vs,v=.ref p/\H p=ac (.ins C.1 c vs)/\nB K H fs vs/\p=C.2
 | .cV ns,v=>∃p,v=.ref p/\cg K H p (ns.map V.int)
 | .adr p,v=>v=.ref p
 | .dM l,v=>∃p,v=.ref p/\H p=ac (.U<|l.map V.str)
 | .fu a,v=>∃p o kvs,v=.ref p/\H p=ac (.bB o<|.dK kvs)/\bN K H a kvs
 | .aX e a,v=>∃p o kvs,v=.ref p/\H p=ac (if e then .bB o (.dT kvs) else .dT kvs)/\cj K H a kvs
def aA(K:gW)(H:Hp):List Dat->List V->Prop
 | [],vs=>vs=[]
 | d::ds,vs=>∃v r,vs=v::r/\Rep K H d v/\aA K H ds r
def bN(K:gW)(H:Hp):List (eT×Dat)->List (Key×V)->Prop
 | [],kvs=>kvs=[]
 | (k,d)::a,kvs=>∃v r,kvs=(pl k,v)::r/\Rep K H d v/\bN K H a r
def cj(K:gW)(H:Hp):List (List eT×Dat)->List (List Key×V)->Prop
 | [],kvs=>kvs=[]
 | (k,d)::a,kvs=>∃v r,kvs=(k.map pl,v)::r/\Rep K H d v/\cj K H a r
def nB(K:gW)(H:Hp):List (eT×Dat)->List (eT×V)->Prop
 | [],kvs=>kvs=[]
 | (k,d)::a,kvs=>∃v r,kvs=(k,v)::r/\Rep K H d v/\nB K H a r
end
section
variable{K:gW}{H H':Hp}{H0:Hp×Hp}{Hi:Hp}{ps:Nat->Option eH}{δ:DS}{σ:St}{X:Cx}{e a b c:hQ}{pos:z5}{δ':DS}{i:Nat}{r:Res}{v:V}{tg:hQ}{P:lq}{w:qh}{mg:eT->Option dk}{base:pq}{psB:Nat->Option eH}{ta tb:TE}{rest:List hQ}{pins:List (eH×C1)}{s:eK}
def bq.mono (s:aj H H')(h:bq K H p vs):bq K H' p vs:=by
 rcases h with (h|⟨o,h⟩)|h
 ·exact ι<|ι<|s _ _ h
 ·exact ι<|τ ⟨o,s _ _ h⟩
 exact τ h
def cg.mono (s:aj H H')(h:cg K H p vs):cg K H' p vs:=by
 rcases h with (h|⟨o,h⟩)|h
 ·exact ι<|ι<|s _ _ h
 ·exact ι<|τ ⟨o,s _ _ h⟩
 exact τ h
def Rd.mono (s:aj H H')(h:Rd H p u):Rd H' p u:=by
 rcases h with h|⟨o,h⟩
 ·exact ι<|s _ _ h
 exact τ ⟨o,s _ _ h⟩
mutual
theorem Rep.mono(s:aj H H'):∀{d:Dat}{v:V},Rep K H d v->Rep K H' d v
 | .aF,_,h=>h
 | .bl _,_,h=>h
 | .int _,_,h=>h
 | .str _,_,h=>h
 | .U _,_,h=>by obtain⟨p,vs,e,q,r⟩:=h;exact⟨p,vs,e,bq.mono s q,aA.mono s r⟩
 | .L _,_,h=>by obtain⟨p,vs,e,q,r⟩:=h;exact⟨p,vs,e,Rd.mono s q,aA.mono s r⟩
 | .a8 _,_,h=>by obtain⟨p,kvs,e,q,r⟩:=h;exact⟨p,kvs,e,s _ _ q,bN.mono s r⟩
 | .exc _,_,h=>by obtain⟨p,e,q⟩:=h;exact⟨p,e,s _ _ q⟩
 | .ins _ _,_,h=>by obtain⟨p,g,vs,e,q,r,z⟩:=h;exact⟨p,g,vs,e,s _ _ q,nB.mono s r,z⟩
 | .cV _,_,h=>by obtain⟨p,e,q⟩:=h;exact⟨p,e,cg.mono s q⟩
 | .adr _,_,h=>h
 | .dM _,_,h=>by obtain⟨p,e,q⟩:=h;exact⟨p,e,s _ _ q⟩
 | .fu _,_,h=>by obtain⟨p,o,kvs,e,q,r⟩:=h;exact⟨p,o,kvs,e,s _ _ q,bN.mono s r⟩
 | .aX _ _,_,h=>by obtain⟨p,o,kvs,e,q,r⟩:=h;exact⟨p,o,kvs,e,s _ _ q,cj.mono s r⟩
theorem aA.mono(s:aj H H'):∀{ds:List Dat}{vs:List V},aA K H ds vs->aA K H' ds vs
 | [],_,h=>h
 | _::_,_,h=>by obtain⟨v,r,e,q,t⟩:=h;exact⟨v,r,e,Rep.mono s q,aA.mono s t⟩
theorem bN.mono(s:aj H H'):∀{f:List (eT×Dat)}{kvs:List (Key×V)},bN K H f kvs->bN K H' f kvs
 | [],_,h=>h
 | (_,_)::_,_,h=>by obtain⟨v,r,e,q,t⟩:=h;exact⟨v,r,e,Rep.mono s q,bN.mono s t⟩
theorem cj.mono(s:aj H H'):∀{f:List (List eT×Dat)}{kvs:List (List Key×V)},cj K H f kvs->cj K H' f kvs
 | [],_,h=>h
 | (_,_)::_,_,h=>by obtain⟨v,r,e,q,t⟩:=h;exact⟨v,r,e,Rep.mono s q,cj.mono s t⟩
theorem nB.mono(s:aj H H'):∀{f:List (eT×Dat)}{kvs:List (eT×V)},nB K H f kvs->nB K H' f kvs
 | [],_,h=>h
 | (_,_)::_,_,h=>by obtain⟨v,r,e,q,t⟩:=h;exact⟨v,r,e,Rep.mono s q,nB.mono s t⟩
end
theorem aA.length:∀{ds:List Dat}{vs:List V},aA K H ds vs->vs.length=ds.length
 | [],_,h=>by rw[show _=[] from h];rfl
 | _::_,_,⟨v,r,e,q,t⟩=>by rw[e,gk,gk,aA.length t]
theorem aA.append:∀{ds d:List Dat}{vs f:List V},aA K H ds vs->aA K H d f->aA K H (ds++d) (vs++f)
 | [],_,_,_,h,h'=>by rw[show _=[] from h];exact h'
 | _::_,_,_,_,⟨v,r,e,q,t⟩,h'=>⟨v,r++_,by rw[e];rfl,q,aA.append t h'⟩
theorem aA.get (h:aA K H ds vs)(e:ds[i]?=ac d):∃v,vs[i]?=ac v/\Rep K H d v:=by
 induction ds generalizing vs i with
 | nil=>simp at e
 | cons _ _ f =>
  obtain⟨v,r,rfl,q,t⟩:=h;cases i with
  | zero=>simp at e;subst e;exact⟨v,ρ,q⟩
  | succ i=>exact f (vs:=r) (i:=i) t (by simpa using e)
theorem aA.set (i:Nat)(h:aA K H ds vs)(q:Rep K H d v):aA K H (ds.set i d) (vs.set i v):=by
 induction ds generalizing vs i with
 | nil=>rw[show vs=[] from h];exact ρ
 | cons _ _ f =>
  obtain⟨v,r,rfl,p,t⟩:=h;cases i with
  | zero=>exact⟨_,r,ρ,q,t⟩
  | succ i=>exact⟨v,_,ρ,p,f i t⟩
inductive Slot where
 /-- nothing,data,a list or dict that this frame owns (its content),one that the caller owns and lends -/
 | no|D (d:Dat)|O (d:Dat)|io (d:Dat)
abbrev DS:=List Slot
inductive Res where
 | D (d:Dat)|O (d:Dat)
noncomputable def Res.val:Res->Dat
 | .D d=>d
 | .O d=>d
def cH(K:gW)(H Hi:Hp)(p:eH):Dat->Prop
 | .L ds=>∃vs,H p=ac (.L vs)/\aA K Hi ds vs/\Hi p=am
 | .a8 d=>∃kvs,H p=ac (.dK kvs)/\bN K Hi d kvs/\Hi p=am
 | .aX f d=>f=bv/\∃kvs,H p=ac (.dT kvs)/\cj K Hi d kvs/\Hi p=am
 | _=>False
def eR(Hi H:Hp)(p:eH)(o:HO):Prop:=Hi p=ac o\/H p=am\/∃vs,o=.U vs
def gA(ps:Nat->Option eH)(p:eH):Prop:=∃i,ps i=ac p
structure SR (K:gW) (H0:Hp×Hp) (ps:Nat->Option eH) (δ:DS) (σ:St) (H Hi:Hp):Prop where
 sub:aj Hi H
 keep:∀b o,H0.1 b=ac o->¬gA ps b->H b=ac o
 eY:∀p,gA ps p->H p≠am
 D:∀(i:Nat) (d:Dat),δ[i]?=ac (.D d)->∃v,σ[i]?=ac (ac v)/\Rep K Hi d v
 O:∀(i:Nat) (c:Dat),δ[i]?=ac (.O c)->∃p,σ[i]?=ac (ac<|.ref p)/\cH K H Hi p c/\¬gA ps p/\H0.1 p=am
 io:∀(i:Nat) (c:Dat),δ[i]?=ac (.io c)->∃p,σ[i]?=ac (ac<|.ref p)/\cH K H Hi p c/\ps i=ac p
 ne:∀(i j:Nat) (c c':Dat) (p:eH),(δ[i]?=ac (.O c)\/δ[i]?=ac (.io c))->(δ[j]?=ac (.O c')\/δ[j]?=ac (.io c'))->σ[i]?=ac (ac<|.ref p)->σ[j]?=ac (ac<|.ref p)->i=j
 len:δ.length=σ.length
 nw:∀p o,Hi p=ac o->eR H0.2 H0.1 p o
def RR(K:gW)(H0:Hp×Hp)(ps:Nat->Option eH)(δ:DS)(σ:St)(H Hi:Hp)(v:V):Res->Prop
 | .D d=>Rep K Hi d v
 | .O c=>∃p,v=.ref p/\cH K H Hi p c/\¬gA ps p/\H0.1 p=am/\∀(i:Nat) (c':Dat),(δ[i]?=ac (.O c')\/δ[i]?=ac (.io c'))->σ[i]?≠ac (ac<|.ref p)
theorem cH.some{p:eH}{c:Dat}(h:cH K H Hi p c):(∃o,H p=ac o)/\Hi p=am:=by
 cases c with
 | L ds=>obtain⟨vs,e,_,n⟩:=h;exact⟨⟨_,e⟩,n⟩
 | a8 d=>obtain⟨vs,e,_,n⟩:=h;exact⟨⟨_,e⟩,n⟩
 | aX fz d=>obtain⟨_,vs,e,_,n⟩:=h;exact⟨⟨_,e⟩,n⟩
 | _=>exact h.elim
theorem cH.nt{p:eH}{c:Dat}{vs:List V}(h:cH K H Hi p c)(e:H p=Option.some (.U vs)):False:=by
 cases c with
 | L ds=>obtain⟨vs,q,_⟩:=h;simp_all
 | a8 d=>obtain⟨vs,q,_⟩:=h;simp_all
 | aX fz d=>obtain⟨_,vs,q,_⟩:=h;simp_all
 | _=>exact h.elim
theorem cH.keeps{H' d:Hp}{p:eH}{c:Dat}(h:cH K H Hi p c)(e:H' p=H p)(s:aj Hi d)(n:d p=am):cH K H' d p c:=by
 cases c with
 | L ds=>obtain⟨vs,q,r,_⟩:=h;exact⟨vs,e.trans q,aA.mono s r,n⟩
 | a8 f=>obtain⟨vs,q,r,_⟩:=h;exact⟨vs,e.trans q,bN.mono s r,n⟩
 | aX fz f=>obtain⟨z,vs,q,r,_⟩:=h;exact⟨z,vs,e.trans q,cj.mono s r,n⟩
 | _=>exact h.elim
def dS (h:H p=am):aj H (upd H p o):=λb u e=>by rwa[au (dH e h)]
def xU (s:aj Hi H):aj (upd Hi p o) (upd H p o):=λb u e=>by
 by_cases d:b=p
 ·subst d;rw[aV] at e ⊢;exact e
 rw[au d] at e ⊢;exact s b u e
def DU (s:aj Hi H)(h:H p=ac o):aj (upd Hi p o) H:=λb u e=>by
 by_cases d:b=p
 ·subst d;rw[aV] at e;exact h.trans e
 rw[au d] at e;exact s b u e
def u5 (s:aj Hi H)(h:Hi p=am):aj Hi (upd H p o):=λb u e=>by rw[au (dH e h)];exact s b u e
theorem SR.dg(S:SR K H0 ps δ σ H Hi)(h:H p=am):Hi p=am:=by
 cases e:Hi p with
 | none=>rfl
 | some o=>rw[S.sub _ _ e] at h;contradiction
theorem SR.bL(S:SR K H0 ps δ σ H Hi)(h:H p=am):H0.1 p=am/\¬gA ps p:=by
 have d:¬gA ps p:=λm=>S.eY p m h;refine⟨?_,d⟩;cases e:H0.1 p with
 | none=>rfl
 | some o=>rw[S.keep _ _ e d] at h;contradiction
def SR.laid(S:SR K H0 ps δ σ H Hi)(h:H p=am):SR K H0 ps δ σ (upd H p o) (upd Hi p o)/\aj Hi (upd Hi p o):=by
 have g:aj Hi (upd Hi p o):=dS<|S.dg h;have ne:∀{q:eH}{c:Dat},cH K H Hi q c->q≠p:=λf=>dH f.some.1.choose_spec h;refine⟨⟨xU S.sub,λb u e n=>?_,λq m=>?_,λi d e=>?_,λi c e=>?_,λi c e=>?_,S.ne,S.len,λq u e=>?_⟩,g⟩
 ·rw[au (dH (S.keep b u e n) h)];exact S.keep b u e n
 ·by_cases f:q=p;simp_all [aV];rw[au f];exact S.eY q m
 ·obtain⟨v,a,b⟩:=S.D i d e;exact⟨v,a,Rep.mono g b⟩
 ·obtain⟨q,a,b,j,l⟩:=S.O i c e;exact⟨q,a,b.keeps (au<|ne b) g (by rw[au (ne b)];exact b.some.2),j,l⟩
 ·obtain⟨q,a,b,j⟩:=S.io i c e;exact⟨q,a,b.keeps (au<|ne b) g (by rw[au (ne b)];exact b.some.2),j⟩
 by_cases f:q=p
 ·subst f;exact τ<|ι (S.bL h).1
 rw[au f] at e;exact S.nw q u e
def SR.made(S:SR K H0 ps δ σ H Hi)(h:H p=am):SR K H0 ps δ σ (upd H p o) Hi:=by
 have g:=S.dg h;have ne:∀{q:eH}{c:Dat},cH K H Hi q c->q≠p:=λd=>dH d.some.1.choose_spec h;refine⟨u5 S.sub g,λb u e n=>?_,λq m=>?_,S.D,λi c e=>?_,λi c e=>?_,S.ne,S.len,S.nw⟩
 ·rw[au (dH (S.keep b u e n) h)];exact S.keep b u e n
 ·by_cases d:q=p;simp_all [aV];rw[au d];exact S.eY q m
 ·obtain⟨q,a,b,f,j⟩:=S.O i c e;exact⟨q,a,b.keeps (au<|ne b) (aj.refl _) b.some.2,f,j⟩
 obtain⟨q,a,b,f⟩:=S.io i c e;exact⟨q,a,b.keeps (au<|ne b) (aj.refl _) b.some.2,f⟩
theorem SR.dJ(S:SR K H0 ps δ σ H Hi){p:eH}(h:H p=am):∀(i:Nat) (c':Dat),(δ[i]?=ac (.O c')\/δ[i]?=ac (.io c'))->σ[i]?≠ac (ac<|.ref p):=by
 rintro i c' (e|e) z
 ·obtain⟨q,a,b,_⟩:=S.O i c' e;rw[a] at z;cases z;rw[b.some.1.choose_spec] at h;cases h
 obtain⟨q,a,b,_⟩:=S.io i c' e;rw[a] at z;cases z;rw[b.some.1.choose_spec] at h;cases h
theorem SR.freeze(S:SR K H0 ps δ σ H Hi)(h:RR K H0 ps δ σ H Hi v r):∃f,SR K H0 ps δ σ H f/\aj Hi f/\Rep K f r.val v:=by
 cases r with
 | D d=>exact⟨Hi,S,aj.refl _,h⟩
 | O c =>
  obtain⟨p,rfl,ho,np,t,nd⟩:=h;have go:∀o,H p=ac o->(∃f,f=upd Hi p o/\SR K H0 ps δ σ H f/\aj Hi f):=λo e=>by
   have g:aj Hi (upd Hi p o):=dS ho.some.2;refine⟨_,ρ,⟨DU S.sub e,S.keep,S.eY,λi d j=>?_,λi c' j=>?_,λi c' j=>?_,S.ne,S.len,λq u j=>?_⟩,g⟩
   ·obtain⟨v,a,b⟩:=S.D i d j;exact⟨v,a,Rep.mono g b⟩
   ·obtain⟨q,a,b,m,y⟩:=S.O i c' j;have k:q≠p:=λz=>nd i c' (ι j) (by rw[a,z]);exact⟨q,a,b.keeps ρ g (by rw[au k];exact b.some.2),m,y⟩
   ·obtain⟨q,a,b,m⟩:=S.io i c' j;have k:q≠p:=λz=>nd i c' (τ j) (by rw[a,z]);exact⟨q,a,b.keeps ρ g (by rw[au k];exact b.some.2),m⟩
   by_cases k:q=p
   ·subst k;exact τ<|ι t
   rw[au k] at j;exact S.nw q u j
  cases c with
  | L ds=>obtain⟨vs,e,r,n⟩:=ho;obtain⟨f,rfl,l,g⟩:=go _ e;exact⟨_,l,g,p,vs,ρ,Rd.of aV,aA.mono g r⟩
  | a8 A=>obtain⟨vs,e,r,n⟩:=ho;obtain⟨f,rfl,l,g⟩:=go _ e;exact⟨_,l,g,p,vs,ρ,aV,bN.mono g r⟩
  | aX fz A=>obtain⟨rfl,vs,e,r,n⟩:=ho;obtain⟨f,rfl,l,g⟩:=go _ e;exact⟨_,l,g,p,{cls:=.none,data:=.fields #[]},vs,ρ,aV,cj.mono g r⟩
  | _=>exact ho.elim
abbrev EF:=DS->Option (Res×DS)
abbrev DF:=DS->Option (Dat×DS)
abbrev BF:=DS->Option (Bool×DS)
abbrev AF:=DS->Option (List Dat×DS)
def JR(K:gW)(H0:Hp×Hp)(ps:Nat->Option eH)(σ:St)(Hi:Hp)(Q:VK)(r:Res)(δ':DS):Prop:=∀v H' d,SR K H0 ps δ' σ H' d->aj Hi d->RR K H0 ps δ' σ H' d v r->Q v H'
def Oq(K:gW)(H0:Hp×Hp)(ps:Nat->Option eH)(σ:St)(Hi:Hp)(Q:VK)(d:Dat)(δ':DS):Prop:=∀v H' f,SR K H0 ps δ' σ H' f->aj Hi f->Rep K f d v->Q v H'
def zQ(K:gW)(H0:Hp×Hp)(ps:Nat->Option eH)(σ:St)(Hi:Hp)(Q:Hp->Prop)(δ':DS):Prop:=∀H' d,SR K H0 ps δ' σ H' d->aj Hi d->Q H'
def UL(K:gW)(H0:Hp×Hp)(ps:Nat->Option eH)(σ:St)(Hi:Hp)(Q:List V->Hp->Prop)(ds:List Dat)(δ':DS):Prop:=∀vs H' d,SR K H0 ps δ' σ H' d->aj Hi d->aA K d ds vs->Q vs H'
def U2(X:Cx)(f:EF)(t:TE):Prop:=∀(H0:Hp×Hp) (ps:Nat->Option eH) (δ:DS) (σ:St) (H Hi:Hp) (r:Res) (δ':DS) (Q:VK),f δ=ac (r,δ')->SR X.K H0 ps δ σ H Hi ->
 JR X.K H0 ps σ Hi Q r δ'->t σ H Q
inductive DE (X:Cx) (e:hQ) (f:EF):Prop
 | mk (t:TE) (p:PE X e t) (q:U2 X f t)
def N8(X:Cx)(f:DF)(t:TE):Prop:=∀(H0:Hp×Hp) (ps:Nat->Option eH) (δ:DS) (σ:St) (H Hi:Hp) (d:Dat) (δ':DS) (Q:VK),f δ=ac (d,δ')->SR X.K H0 ps δ σ H Hi ->
 Oq X.K H0 ps σ Hi Q d δ'->t σ H Q
inductive DD (X:Cx) (e:hQ) (f:DF):Prop
 | mk (t:TE) (p:PE X e t) (q:N8 X f t)
def IJ(X:Cx)(f:BF)(t:TT):Prop:=∀(H0:Hp×Hp) (ps:Nat->Option eH) (δ:DS) (σ:St) (H Hi:Hp) (b:Bool) (δ':DS) (Q:Bool->Hp->Prop),f δ=ac (b,δ')->SR X.K H0 ps δ σ H Hi ->
 zQ X.K H0 ps σ Hi (Q b) δ'->t σ H Q
inductive DT (X:Cx) (e:hQ) (f:BF):Prop
 | mk (t:TT) (p:PT X e t) (q:IJ X f t)
def RX(X:Cx)(f:BF)(t:TT):Prop:=∀(H0:Hp×Hp) (ps:Nat->Option eH) (δ:DS) (σ:St) (H Hi:Hp) (b:Bool) (δ':DS) (Q:Bool->Hp->Prop),f δ=ac (b,δ')->SR X.K H0 ps δ σ H Hi ->
 zQ X.K H0 ps σ Hi (Q b) δ'->t σ H Q
inductive DW (X:Cx) (e:hQ) (f:BF):Prop
 | mk (t:TT) (p:PW X e t) (q:RX X f t)
def Ia(X:Cx)(f:AF)(t:TA):Prop:=∀(H0:Hp×Hp) (ps:Nat->Option eH) (δ:DS) (σ:St) (H Hi:Hp) (ds:List Dat) (δ':DS) (Q:List V->Hp->Prop),f δ=ac (ds,δ')->SR X.K H0 ps δ σ H Hi ->
 UL X.K H0 ps σ Hi Q ds δ'->t σ H Q
inductive DA (X:Cx) (es:List hQ) (f:AF):Prop
 | mk (t:TA) (p:PA X es t) (q:Ia X f t)
def fX(f:EF):DF:=fun δ=>(f δ).map λp=>(p.1.val,p.2)
noncomputable def qu(f:DF):EF:=fun δ=>(f δ).map λp=>(.D p.1,p.2)
def DW.dt (h:DW X e f):DT X e f:=let ⟨t,p,q⟩:=h;⟨t,p.pt,q⟩
def DE.dd (h:DE X e f):DD X e (fX f):=by obtain⟨t,p,q⟩:=h;refine⟨t,p,λH0 ps δ σ H Hi d δ' Q g S k=>?_⟩;obtain⟨r,δ1,m,g⟩:=oN g;obtain⟨rfl,rfl⟩:=sP g;refine q H0 ps δ σ H Hi r δ1 Q m S λv H' Hi' n s' o=>?_;obtain⟨j,u,x,l⟩:=n.freeze o;exact k v H' j u (s'.trans x) l
def DD.de (h:DD X e f):DE X e (qu f):=by obtain⟨t,p,q⟩:=h;refine⟨t,p,λH0 ps δ σ H Hi r δ' Q g S k=>?_⟩;obtain⟨d,δ1,m,g⟩:=oN g;obtain⟨rfl,rfl⟩:=sP g;exact q H0 ps δ σ H Hi d δ1 Q m S λv H' j n s' l=>k v H' j n s' l
noncomputable def fC(d:Dat):DF:=fun δ=>ac (d,δ)
def uD (h:PE X e (tC v))(r:∀H,Rep X.K H d v):DD X e (fC d) :=
 ⟨_,h,λH0 ps δ σ H Hi d' δ' Q f S k=>by obtain⟨rfl,rfl⟩:=sP f;exact k v H Hi S (aj.refl _)<|r _⟩
def Mh{i j}:DD X (.Constant (.int i) j pos) (fC<|.int i):=uD kM λ_=>rfl
def S9{i j}:DD X (.Constant (.bool i) j pos) (fC<|.bl i):=uD Rm λ_=>rfl
def Sv{x j}:DD X (.Constant (.str x) j pos) (fC<|.str x):=uD Ey λ_=>rfl
structure Glob (X:Cx) (x:eT) (d:Dat):Prop where
 gl:Gl X x
 is:∃v u,X.mg x=ac u/\RelV v u/\∀H,Rep X.K H d v
def RE (h:Glob X x d)(hd:bA x:=by decide):DD X (.Name x pos) (fC d):=by obtain⟨v,u,f,g,j⟩:=h.is;exact uD (jP h.gl f g hd) j
noncomputable def cS(i:Nat):DF:=fun δ=>match δ[i]? with
 | some (.D d)=>ac (d,δ)
 | some (.O c)=>ac (c,δ.set i<|.D c)
 | _=>am
def SR.HA{K:gW}{H0:Hp×Hp}{H Hi:Hp}{ps:Nat->Option eH}{δ:DS}{σ:St}{i:Nat}{c:Dat}(S:SR K H0 ps δ σ H Hi)(e:δ[i]?=ac (.O c)) :
  ∃g v,σ[i]?=ac (ac v)/\SR K H0 ps (δ.set i<|.D c) σ H g/\aj Hi g/\Rep K g c v:=by
 obtain⟨p,t,ho,A,B⟩:=S.O i c e;have n:=(bt.1 e).1;have C:SR K H0 ps (δ.set i .no) σ H Hi:=by
  have get:∀{j:Nat}{s:Slot},(δ.set i .no)[j]?=ac s->s≠.no->j≠i/\δ[j]?=ac s:=λ{j s} h y=>by by_cases f:j=i;simp_all;rw[n3 (Ne.symm f)] at h;exact⟨f,h⟩
  refine⟨S.sub,S.keep,S.eY,λj d h=>S.D j d (get h ⋯).2,λj c' h=>S.O j c' (get h ⋯).2,λj c' h=>S.io j c' (get h ⋯).2,λj k c' m q u x=>?_,by rw[yv];exact S.len,S.nw⟩;exact S.ne j k c' m q (u.imp (λz=>(get z ⋯).2) λz=>(get z ⋯).2) (x.imp (λz=>(get z ⋯).2) λz=>(get z ⋯).2)
 have r:RR K H0 ps (δ.set i .no) σ H Hi (.ref p) (.O c):=by
  refine⟨p,ρ,ho,A,B,λj c' h z=>?_⟩;have f:j≠i:=λw=>by simp_all
  rw[n3 (Ne.symm f)] at h;exact f<|S.ne j i c' c p h (ι e) z t
 obtain⟨g,l,D,o⟩:=C.freeze r;refine⟨g,.ref p,t,⟨l.sub,l.keep,l.eY,λj d h=>?_,λj c' h=>?_,λj c' h=>?_,λj k c' m q u x E F=>?_,by rw[yv];exact S.len,l.nw⟩,D,o⟩
 ·by_cases f:j=i
  ·subst f;rw[ql n] at h;cases h;exact⟨_,t,o⟩
  rw[n3 (Ne.symm f)] at h;exact l.D j d (by rw[n3 (Ne.symm f)];exact h)
 all_goals
  have back:∀{j:Nat}{s:Slot},(δ.set i<|.D c)[j]?=ac s->(∀d,s≠.D d)->(δ.set i .no)[j]?=ac s:=λ{j s} h y=>by
   by_cases f:j=i
   ·subst f;rw[ql n] at h;obtain rfl:=sO h;exact absurd ρ<|y c
   rw[n3 (Ne.symm f)] at h ⊢;exact h
 ·exact l.O j c'<|back h (by intro d;simp)
 ·exact l.io j c'<|back h (by intro d;simp)
 exact l.ne j k c' m q (u.imp (λz=>back z (by intro d;simp)) λz=>back z (by intro d;simp)) (x.imp (λz=>back z (by intro d;simp)) λz=>back z (by intro d;simp)) E F
def JX (i:Nat)(m:X.N[i]?=ac x)(n:cc X.env.scope x)(hd:bA x:=by decide)(j:cG x:=by decide):DD X (.Name x pos) (cS i):=by
 refine⟨_,eG m n hd j,λH0 ps δ σ H Hi d δ' Q f S k=>?_⟩;unfold cS at f;split at f
 ·rename_i d0 g;cases f;obtain⟨v,h,r⟩:=S.D i d g;exact⟨v,h,k v H Hi S (aj.refl _) r⟩
 ·rename_i c0 g;obtain⟨rfl,rfl⟩:=sP f;obtain⟨l,v,h,o,s',r⟩:=S.HA g;exact⟨v,h,k v H l o s' r⟩
 exact nO f
noncomputable def yL(i:Nat):EF:=fun δ=>match δ[i]? with
 | some (.D d)=>ac (.D d,δ)
 | some (.O c)=>ac (.O c,δ.set i .no)
 | _=>am
def R' (i:Nat)(u:X.N[i]?=ac x)(y:cc X.env.scope x)(hd:bA x:=by decide)(m:cG x:=by decide):DE X (.Name x pos) (yL i):=by
 refine⟨_,eG u y hd m,λH0 ps δ σ H Hi r δ' Q f S k=>?_⟩;unfold yL at f;split at f
 ·rename_i A g;obtain⟨rfl,rfl⟩:=sP f;obtain⟨v,l,r⟩:=S.D i A g;exact⟨v,l,k v H Hi S (aj.refl _) r⟩
 ·rename_i n g;obtain⟨rfl,rfl⟩:=sP f;obtain⟨p,l,ho,B,C⟩:=S.O i n g;have hlt:=(bt.1 g).1;have get:∀{j:Nat}{s:Slot},(δ.set i .no)[j]?=ac s->s≠.no->j≠i/\δ[j]?=ac s:=λ{j s} h hn=>by by_cases o:j=i;simp_all;rw[n3 (Ne.symm o)] at h;exact⟨o,h⟩
  refine⟨.ref p,l,k (.ref p) H Hi ⟨S.sub,S.keep,S.eY,λj d h=>S.D j d (get h ⋯).2,λj c' h=>S.O j c' (get h ⋯).2,λj c' h=>S.io j c' (get h ⋯).2,λj k c' t q D E=>?_,by rw[yv];exact S.len,S.nw⟩ (aj.refl _) ⟨p,ρ,ho,B,C,λj c' h z=>?_⟩⟩
  ·exact S.ne j k c' t q (D.imp (λz=>(get z ⋯).2) λz=>(get z ⋯).2) (E.imp (λz=>(get z ⋯).2) λz=>(get z ⋯).2)
  have h':j≠i/\(δ[j]?=ac (.O c')\/δ[j]?=ac (.io c')):=by
   rcases h with h|h
   ·exact⟨(get h ⋯).1,ι (get h ⋯).2⟩
   exact⟨(get h ⋯).1,τ (get h ⋯).2⟩
  exact h'.1<|S.ne j i c' n p h'.2 (ι g) z l
 exact nO f
noncomputable def cO(op:Dat->Dat->Option Res)(f g:DF):EF:=fun δ=>(f δ).bind λp=>(g p.2).bind λq=>(op p.1 q.1).map λr=>(r,q.2)
def fW(X:Cx)(r:R2)(op:Dat->Dat->Option Res):Prop:=∀(H0:Hp×Hp) (ps:Nat->Option eH) (δ:DS) (σ:St) (H Hi:Hp) (x y:V) (d d':Dat) (o:Res) (Q:VK),op d d'=ac o->SR X.K H0 ps δ σ H Hi->Rep X.K Hi d x->Rep X.K Hi d' y ->
 (∀v H' f,SR X.K H0 ps δ σ H' f->aj Hi f->RR X.K H0 ps δ σ H' f v o->Q v H')->r x y H Q
def xC{r:R2}{op:Dat->Dat->Option Res}{f g:DF}{ta tb:TE}(ho:fW X r op)
 (q:∀(H0:Hp×Hp) (ps:Nat->Option eH) (δ:DS) (σ:St) (H Hi:Hp) (d:Dat) (δ':DS) (Q:VK),f δ=ac (d,δ')->SR X.K H0 ps δ σ H Hi->(∀v H' h,SR X.K H0 ps δ' σ H' h->aj Hi h->Rep X.K h d v->Q v H')->ta σ H Q)
 (t:∀(H0:Hp×Hp) (ps:Nat->Option eH) (δ:DS) (σ:St) (H Hi:Hp) (d:Dat) (δ':DS) (Q:VK),g δ=ac (d,δ')->SR X.K H0 ps δ σ H Hi->(∀v H' h,SR X.K H0 ps δ' σ H' h->aj Hi h->Rep X.K h d v->Q v H')->tb σ H Q)
 (H0:Hp×Hp)(ps:Nat->Option eH)(δ:DS)(σ:St)(H Hi:Hp)(o:Res)(δ':DS)(Q:VK)(j:cO op f g δ=ac (o,δ'))(S:SR X.K H0 ps δ σ H Hi)
 (k:∀v H' h,SR X.K H0 ps δ' σ H' h->aj Hi h->RR X.K H0 ps δ' σ H' h v o->Q v H'):lZ r ta tb σ H Q:=by
 obtain⟨d,δ1,u,j⟩:=oB j;obtain⟨d',δ2,z,j⟩:=oB j;obtain⟨o',A,j⟩:=oM j;obtain⟨rfl,rfl⟩:=sP j;refine q H0 ps δ σ H Hi d δ1 _ u S λx B l C D E=>?_;refine t H0 ps δ1 σ B l d' _ _ z C λy F m G n I=>?_;exact ho H0 ps _ σ F m x y d d' _ Q A G (Rep.mono n E) I λv J p L M N=>k v J p L ((D.trans n).trans M) N
def nE{op:Operator}{r:R2}{d:Dat->Dat->Option Res}{f g:DF}(h:bc X (aaL op) r)(ho:fW X r d)(j:DD X a f)(k:DD X b g):DE X (.BinOp a op b pos) (cO d f g):=by obtain⟨ta,l,m⟩:=j;obtain⟨tb,n,o⟩:=k;exact⟨_,(λho e f=>by exact λd s g H Q I h=>wpAny_BinOp (vH e f I h λv u i x y j k l m q=>ho d i g j x y v u Q k l m q)) h l n,xC ho m o⟩
def tY{op:adC}{r:R2}{d:Dat->Dat->Option Res}{f g:DF}(h:bc X (o5 op) r)(ho:fW X r d)(j:DD X a f)(k:DD X b g)(hm:wy op b=bv):DE X (.Compare a [op] [b] pos) (cO d f g):=by obtain⟨ta,l,m⟩:=j;obtain⟨tb,n,o⟩:=k;exact⟨_,Ax h l n hm,xC ho m o⟩
def BH:R2:=λx y H Q=>∃l b xs d,x=.ref l/\y=.ref b/\Rd H l (.L xs)/\Rd H b (.L d)/\xs.length+d.length<=eu/\∀p,H p=am->Q (.ref p) (upd H p<|.L<|xs++d)
def Pa(i j:Int):Prop:=0<j/\j.natAbs.log2<9000
def Jv:bc X (aaL .FloorDiv) (rI Pa λi j=>.int<|i/j):=uH λi j _ _ _ _ _ d q=>by have h1:=d.1;exact floordiv_int (by lia) (by rw[Int.fdiv_eq_ediv_of_nonneg i (by lia)];exact q)<|ι<|PyProof.noPylong_of_log2 d.2
theorem aA.ints:∀(ns:List Int),aA K H (ns.map Dat.int) (ns.map V.int)
 | []=>rfl
 | n::ns=>⟨_,_,ρ,ρ,aA.ints ns⟩
noncomputable def i5:Dat->Dat->Option Res
 | .int i,.int j=>ac (.D<|.int<|i+j)
 | .str x,.str y=>if x.length+y.length<=eu then ac (.D<|.str<|x++y) else am
 | .L xs,.L ys=>if xs.length+ys.length<=eu then ac (.O<|.L<|xs++ys) else am
 | _,_=>am
def Ei(_:gW):R2:=λx y H Q=>iK (λi j=>.int<|i+j) x y H Q\/(λx y H Q=>(λx y H Q=>∃i j,x=.str i/\y=.str j/\i.length+j.length<=eu/\Q (.str<|i++j) H) x y H Q\/BH x y H Q) x y H Q
def Rk:bc X (aaL .Add) (Ei X.K):=bc.or (AH λ_ _ _ _ _ _ _ q=>add_int q) (bc.or K1 (by
  intro pins s σ H x y v u Q I g j h;obtain⟨l,b,xs,zs,rfl,rfl,k,m,hz,q⟩:=h;subst g;subst j;obtain⟨z,its,n,r,e⟩:=k.ok I.aq;obtain⟨z2,d,n2,f,o⟩:=m.ok I.aq;have hl:=r.length;have hl2:=f.length;refine PySem.P.add_list e o ?_ (by rw[kq,kq];lia);have p:its.toArray++d.toArray=(its++d).toArray:=⋯
  rw[p];exact⟨.ref _,_,I.zo (r.append f) (by rw[gd];omega),ρ,q _ I.fresh⟩))
def Kn:fW X (Ei X.K) i5:=by
 intro H0 ps δ σ H Hi x y d d' o Q e S g h k;delta i5 at e;split at e
 ·obtain rfl:=sO e;subst g;subst h;exact ι ⟨_,_,ρ,ρ,k _ H Hi S (aj.refl _) ρ⟩
 ·split at e
  ·rename_i j;obtain rfl:=sO e;subst g;subst h;exact τ<|ι ⟨_,_,ρ,ρ,j,k _ H Hi S (aj.refl _) ρ⟩
  exact nO e
 ·split at e
  ·rename_i j;obtain rfl:=sO e;obtain⟨p,vs,rfl,n,l⟩:=g;obtain⟨t,u,rfl,z,m⟩:=h;refine τ (τ ⟨p,t,vs,u,ρ,ρ,Rd.mono S.sub n,Rd.mono S.sub z,by rw[l.length,m.length];exact j,λq f=>?_⟩);exact k (.ref q) _ Hi (S.made f) (aj.refl _) ⟨q,ρ,⟨_,aV,aA.append l m,S.dg f⟩,(S.bL f).2,(S.bL f).1,S.dJ f⟩
  exact nO e
 exact nO e
noncomputable def gu(C:Int->Int->Bool)(g:Int->Int->Dat):Dat->Dat->Option Res
 | .int i,.int j=>if C i j=bi then ac (.D<|g i j) else am
 | _,_=>am
def sW (f:∀i j,C i j=bi->C' i j)(h:∀i j K H,Rep K H (g i j)<|g' i j):fW X (rI C' g') (gu C g):=by
 intro H0 ps δ σ H Hi x y d d' o Q e S l m k;delta gu at e;split at e
 ·split at e
  ·rename_i n;obtain rfl:=sO e;subst l;subst m;exact⟨_,_,ρ,ρ,f _ _ n,k _ H Hi S (aj.refl _)<|h _ _ _ _⟩
  exact nO e
 exact nO e
def yW (f:∀i j K H,Rep K H (g i j)<|g' i j):fW X (iK g') (gu (λ_ _=>true) g):=by
 intro H0 ps δ σ H Hi x y d d' o Q e S h l k;delta gu at e;split at e
 ·split at e
  ·obtain rfl:=sO e;subst h;subst l;exact⟨_,_,ρ,ρ,k _ H Hi S (aj.refl _)<|f _ _ _ _⟩
  contradiction
 exact nO e
noncomputable def ko:Res->Slot
 | .D d=>.D d
 | .O c=>.O c
def j9(i:Nat)(r:Res)(δ:DS):Option DS:=match δ[i]? with
 | none=>am
 | some (.io _)=>am
 | some _=>ac<|δ.set i<|ko r
theorem SR.put(S:SR K H0 ps δ σ H Hi)(u:RR K H0 ps δ σ H Hi v r)(e:j9 i r δ=ac δ'):SR K H0 ps δ' (σ.set i<|ac v) H Hi:=by
 delta j9 at e;cases x:δ[i]? with
 | none=>rw[x] at e;exact nO e
 | some s =>
  have o:=(bt.1 x).1;have C:i<σ.length:=by rw[<-S.len];exact o
  have F:δ'=δ.set i (ko r)/\∀c,s≠.io c:=by rw[x] at e;cases s<;>first|(exact nO e;done)|(exact⟨(Option.some.inj e).symm,by intro c;simp⟩)
  obtain⟨rfl,_⟩:=F;have other:∀{j:Nat}{s':Slot},j≠i->(δ.set i<|ko r)[j]?=ac s'->δ[j]?=ac s':=λ{j s'} f h=>by rwa[n3 (Ne.symm f)] at h
  have ad1:∀{s':Slot},(δ.set i<|ko r)[i]?=ac s'->s'=ko r:=λ{s'} h=>by rw[ql o] at h;exact (Option.some.inj h).symm
  have g:∀{j:Nat},j≠i->(σ.set i<|ac v)[j]?=σ[j]?:=λ{j} f=>n3<|Ne.symm f;have y:(σ.set i<|ac v)[i]?=ac (ac v):=ql C;refine⟨S.sub,S.keep,S.eY,λj d h=>?_,λj c h=>?_,λj c h=>?_,λj k c c' p A B m n=>?_,by simp only[yv,yv];exact S.len,S.nw⟩
  ·by_cases f:j=i
   ·subst f;have q:=ad1 h;cases r with
    | D d'=>cases q;exact⟨v,y,u⟩
    | O c=>contradiction
   rw[g f];exact S.D j d<|other f h
  ·by_cases f:j=i
   ·subst f;have q:=ad1 h;cases r with
    | D d'=>cases q
    | O c =>
     cases q;obtain⟨p,rfl,ho,D,E,_⟩:=u;exact⟨p,y,ho,D,E⟩
   rw[g f];exact S.O j c<|other f h
  ·by_cases f:j=i
   ·subst f;have q:=ad1 h;cases r<;>contradiction
   rw[g f];exact S.io j c<|other f h
  have back:∀{j:Nat}{c:Dat},((δ.set i<|ko r)[j]?=ac (.O c)\/(δ.set i<|ko r)[j]?=ac (.io c))->j≠i->(δ[j]?=ac (.O c)\/δ[j]?=ac (.io c)):=λh f=>h.imp (other f) (other f);have t:∀{c:Dat}{p:eH},((δ.set i<|ko r)[i]?=ac (.O c)\/(δ.set i<|ko r)[i]?=ac (.io c))->(σ.set i<|ac v)[i]?=ac (ac<|.ref p)->∀(k:Nat) (c':Dat),(δ[k]?=ac (.O c')\/δ[k]?=ac (.io c'))->σ[k]?≠ac (ac<|.ref p):=λ{c p} h z=>by
   rw[y] at z;cases r with
   | D d'=>rcases h with h|h<;>cases ad1 h
   | O c0=>obtain⟨p',G,ho,D,E,nd⟩:=u;subst G;cases z;exact nd
  by_cases f:j=i
  ·by_cases l:k=i
   ·simp only[f,l]
   subst f;rw[g l] at n;exact absurd n<|t A m k c'<|back B l
  by_cases l:k=i
  ·subst l;rw[g f] at m;exact absurd m<|t B n j c<|back A f
  rw[g f] at m;rw[g l] at n;exact S.ne j k c c' p (back A f) (back B l) m n
abbrev GF:=Dat->DS->Option DS
def Pp(X:Cx)(g:GF)(t:TG):Prop:=∀(H0:Hp×Hp) (ps:Nat->Option eH) (δ:DS) (σ:St) (H Hi:Hp) (d:Dat) (δ':DS) (v:V) (Q:St->Hp->Prop),g d δ=ac δ'->SR X.K H0 ps δ σ H Hi->Rep X.K Hi d v ->
 (∀f,SR X.K H0 ps δ' f H Hi->Q f H)->t v σ H Q
inductive DG (X:Cx) (tg:hQ) (g:GF):Prop
 | mk (t:TG) (p:PG X tg t) (q:Pp X g t)
def MC(X:Cx)(g:List Dat->DS->Option DS)(t:jA):Prop:=∀(H0:Hp×Hp) (ps:Nat->Option eH) (δ:DS) (σ:St) (H Hi:Hp) (ds:List Dat) (δ':DS) (vs:List V) (Q:St->Hp->Prop),g ds δ=ac δ'->SR X.K H0 ps δ σ H Hi->aA X.K Hi ds vs ->
 (∀d,SR X.K H0 ps δ' d H Hi->Q d H)->t vs σ H Q
inductive nu (X:Cx) (tgs:List hQ) (g:List Dat->DS->Option DS):Prop
 | mk (t:jA) (p:pj X tgs t) (q:MC X g t)
def vR(i:Nat):GF:=λd δ=>j9 i (.D d) δ
noncomputable def Ja:List Dat->DS->Option DS
 | [],δ=>ac δ
 | _,_=>am
noncomputable def A9(g:GF)(f:List Dat->DS->Option DS):List Dat->DS->Option DS
 | d::ds,δ=>(g d δ).bind (f ds)
 | [],_=>am
theorem Q7:nu X [] Ja:=by
 refine⟨_,Aw,λH0 ps δ σ H Hi ds δ' vs Q e S r k=>?_⟩;cases ds with
 | nil=>obtain rfl:=sO e;exact⟨r,k σ S⟩
 | cons _ _=>exact nO e
theorem Kx (m:DG X e g)(n:nu X f h)(hs:(wd (e::f) X.env).map (·.2)=aaQ e X.env::(wd f X.env).map (·.2):=by rfl):nu X (e::f) (A9 g h):=by
 obtain⟨t1,o,p⟩:=m;obtain⟨t2,q,t⟩:=n;refine⟨_,wj o q hs,λH0 ps δ σ H Hi ds δ' vs Q e S r k=>?_⟩;cases ds with
 | nil=>exact nO e
 | cons d ds=>obtain⟨v,j,rfl,u,x⟩:=r;obtain⟨δ1,y,e⟩:=oA e;exact⟨v,j,ρ,p H0 ps δ σ H Hi d δ1 v _ y S u λl z=>t H0 ps δ1 l H Hi ds δ' j Q e z x k⟩
inductive Out where
 | next (δ:DS)|ret (r:Res) (δ:DS)|brk (δ:DS)|cont (δ:DS)|exc (C:eH) (δ:DS)
def XE(X:Cx)(C:eH)(σ:St)(H:Hp):Prop:=xE X σ C H/\∀a,mB X σ (.ref C) a H
abbrev SF:=DS->Option Out
def mF(X:Cx)(H0:Hp×Hp)(ps:Nat->Option eH)(Hi:Hp)(D:Ends):Out->Prop
 | .next δ=>∀f H' d,SR X.K H0 ps δ f H' d->aj Hi d->D.nx f H'
 | .ret r δ=>∀v f H' d,SR X.K H0 ps δ f H' d->aj Hi d->RR X.K H0 ps δ f H' d v r->D.rt v H'
 | .brk δ=>∀f H' d,SR X.K H0 ps δ f H' d->aj Hi d->D.bk f H'
 | .cont δ=>∀f H' d,SR X.K H0 ps δ f H' d->aj Hi d->D.ct f H'
 | .exc C δ=>∀f H' d,SR X.K H0 ps δ f H' d->aj Hi d->XE X C f H'
theorem mF.mono (s:aj Hi j)(h:mF X H0 ps Hi D o):mF X H0 ps j D o:=by
 cases o with
 | next δ=>exact λd H' f S g=>h d H' f S (s.trans g)
 | ret r δ=>exact λv d H' f S g=>h v d H' f S (s.trans g)
 | brk δ=>exact λd H' f S g=>h d H' f S (s.trans g)
 | cont δ=>exact λd H' f S g=>h d H' f S (s.trans g)
 | exc C δ=>exact λd H' f S g=>h d H' f S<|s.trans g
def Ju(X:Cx)(f:SF)(t:TS):Prop:=∀(H0:Hp×Hp) (ps:Nat->Option eH) (δ:DS) (σ:St) (H Hi:Hp) (o:Out) (D:Ends),f δ=ac o->SR X.K H0 ps δ σ H Hi->mF X H0 ps Hi D o->t D σ H
inductive b8 (X:Cx) (st:ZZ) (f:SF):Prop
 | mk (t:TS) (p:PS X st t) (q:Ju X f t)
def Uc(X:Cx)(f:SF)(t:TS):Prop:=∀(H0:Hp×Hp) (ps:Nat->Option eH) (δ:DS) (σ:St) (H Hi:Hp) (o:Out) (D:Ends),f δ=ac o->SR X.K H0 ps δ σ H Hi->mF X H0 ps Hi D o->t D σ H
inductive fJ (X:Cx) (st:List ZZ) (f:SF):Prop
 | mk (t:TS) (p:fm X st t) (q:Uc X f t)
noncomputable def lE:SF:=fun δ=>ac<|.next δ
noncomputable def gE(f g:SF):SF:=fun δ=>(f δ).bind λo=>match o with
 | .next δ1=>g δ1
 | o=>ac o
noncomputable def mn(f:DF):SF:=fun δ=>(f δ).map λp=>.next p.2
noncomputable def nJ(f:EF):SF:=fun δ=>(f δ).map λp=>.ret p.1 p.2
noncomputable def jm(c:BF)(f g:SF):SF:=fun δ=>(c δ).bind λp=>if p.1=bi then f p.2 else g p.2
def i6(i:Nat)(f:EF):SF:=fun δ=>(f δ).bind λp=>(j9 i p.1 p.2).map .next
noncomputable def nY(g:GF)(f:DF):SF:=fun δ=>(f δ).bind λp=>(g p.1 p.2).map .next
def vc:fJ X [] lE:=⟨_,vG,λH0 ps δ σ H Hi o D e S k=>by obtain rfl:=sO e;exact k σ H Hi S<|aj.refl _⟩
theorem tV{st:ZZ}{d:List ZZ}{f g:SF}(l:b8 X st f)(m:fJ X d g):fJ X (st::d) (gE f g):=by
 obtain⟨t1,n,p⟩:=l;obtain⟨t2,q,t⟩:=m;refine⟨_,m9 n q,λH0 ps δ σ H Hi o D e S k=>?_⟩;obtain⟨o1,u,e⟩:=oA e;apply p H0 ps δ σ H Hi o1 _ u S;cases o1 with
 | next δ1=>exact λh H' j x s'=>t H0 ps δ1 h H' j o D e x (k.mono s')
 | ret r δ1=>obtain rfl:=sO e;exact k
 | brk δ1=>obtain rfl:=sO e;exact k
 | cont δ1=>obtain rfl:=sO e;exact k
 | exc C δ1=>obtain rfl:=sO e;exact k
def Bw (h:DD X e f)(hs:H9 e am pos.line X.env=pure false:=by rfl):b8 X (.Expr e pos) (mn f):=by obtain⟨t,p,q⟩:=h;refine⟨_,qZ p hs,λH0 ps δ σ H Hi o D e S k=>?_⟩;obtain⟨d,δ1,j,e⟩:=oN e;obtain rfl:=sO e;exact q H0 ps δ σ H Hi d δ1 _ j S λv H' g l s' _=>k σ H' g l s'
def yY (h:DE X e f):b8 X (.Return (ac e) pos) (nJ f):=by obtain⟨t,p,q⟩:=h;refine⟨_,uJ p,λH0 ps δ σ H Hi o D e S k=>?_⟩;obtain⟨r,δ1,g,e⟩:=oN e;obtain rfl:=sO e;exact q H0 ps δ σ H Hi r δ1 _ g S λv H' d j s' l=>k v σ H' d j s' l
theorem xV{c:hQ}{a b:List ZZ}{fc:BF}{fa fb:SF}(g:DT X c fc)(h:fJ X a fa)(j:fJ X b fb):b8 X (.If c a b pos) (jm fc fa fb):=by
 obtain⟨tc,l,m⟩:=g;obtain⟨ta,n,p⟩:=h;obtain⟨tb,q,t⟩:=j;refine⟨_,qT l n q,λH0 ps δ σ H Hi o D e S k=>?_⟩;obtain⟨b,δ1,u,e⟩:=oB e;refine m H0 ps δ σ H Hi b δ1 _ u S λH' d f s'=>?_;cases b with
 | true=>exact p H0 ps δ1 σ H' d o D e f (k.mono s')
 | false=>exact t H0 ps δ1 σ H' d o D e f<|k.mono s'
def Nt (h:DD X e f)(n:DG X tg g)(hs:ab6 [tg] e pos.line X.env=pure false:=by rfl)(hw:ab7 [tg] e X.env=pure am:=by rfl)(u:(wd [tg] X.env).map (·.2)=[aaQ tg X.env]:=by rfl):b8 X (.Assign [tg] e pos) (nY g f):=by obtain⟨t,p,q⟩:=h;obtain⟨tg',l,x⟩:=n;refine⟨_,Gq p l hs hw u,λH0 ps δ σ H Hi o D e S k=>?_⟩;obtain⟨d,δ1,y,e⟩:=oB e;obtain⟨δ2,z,e⟩:=oM e;obtain rfl:=sO e;exact q H0 ps δ σ H Hi d δ1 _ y S λv H' j A s' B=>x H0 ps δ1 σ H' j d _ v _ z A B λm C=>k m H' j C s'
def JW(K:gW)(J:It)(items:List Dat)(Hi:Hp):Prop:=∀(i:Nat) (H':Hp),aj Hi H' ->
 (∀d,items[i]?=ac d->J.go i H'/\∀x f,J.ny i H' x f->(f=H'/\Rep K Hi d x)\/∃p o,H' p=am/\f=upd H' p o/\∀g,aj Hi g->g p=am->Rep K (upd g p o) d x) /\
 (items.length<=i->J.stop i H')
def JW.mono{K:gW}{J:It}{items:List Dat}{Hi f:Hp}(h:JW K J items Hi)(s:aj Hi f):JW K J items f:=λi H' s'=>by
 obtain⟨g,l⟩:=h i H'<|s.trans s';refine⟨λd e=>⟨(g d e).1,λx j y=>?_⟩,l⟩;rcases (g d e).2 x j y with⟨a,b⟩|⟨p,o,a,b,c⟩
 ·exact ι ⟨a,Rep.mono s b⟩
 exact τ ⟨p,o,a,b,λk m n=>c k (s.trans m) n⟩
abbrev IF:=DS->Option (List Dat×DS)
def QD(X:Cx)(f:IF)(h:TI):Prop:=∀(H0:Hp×Hp) (ps:Nat->Option eH) (δ:DS) (σ:St) (H Hi:Hp) (items:List Dat) (δ':DS) (R:It->Hp->Prop),f δ=ac (items,δ')->SR X.K H0 ps δ σ H Hi ->
 (∀J g d,SR X.K H0 ps δ' σ g d->aj Hi d->JW X.K J items d->R J g)->h σ H R
inductive dy (X:Cx) (tg iter:hQ) (f:IF):Prop
 | mk (wi:TI) (p:PI X tg iter wi) (q:QD X f wi)
noncomputable def Uw:Dat->Option (List Dat)
 | .L ds=>ac ds
 | .U ds=>ac ds
 | _=>am
def jG(f:DF):IF:=fun δ=>(f δ).bind λp=>(Uw p.1).map λds=>(ds,p.2)
noncomputable def dF(lo n:Int):List Dat:=(hM (n-lo).toNat).map λk:Nat=>.int<|lo+(k:Int)
noncomputable def oD(f:AF):IF:=fun δ=>(f δ).bind λp=>match p.1 with
 | [.int n]=>if -(2 ^ 62)<=n/\n<2 ^ 62 then ac (dF 0 n,p.2) else am
 | _=>am
noncomputable def qL(f:AF):IF:=fun δ=>(f δ).bind λp=>match p.1 with
 | [.int lo,.int n]=>if -(2 ^ 62)<=lo/\lo<2 ^ 62/\-(2 ^ 62)<=n/\n<2 ^ 62 then ac (dF lo n,p.2) else am
 | _=>am
def PI.or (g:PI X tg iter d)(j:PI X tg iter f):PI X tg iter (fun σ H R=>d σ H R\/f σ H R):=λpins s σ H R I h=>h.elim (g pins s σ H R I)<|j pins s σ H R I
theorem Oo (h:DD X e f):dy X tg e (jG f):=by
 obtain⟨t,p,q⟩:=h;refine⟨_,PI.or (Fj p)<|Nj p,λH0 ps δ σ H Hi items δ' R j S k=>?_⟩;obtain⟨d,δ1,z,j⟩:=oB j;dsimp only at j;cases d with
 | L ds =>
  cases j;refine ι (q H0 ps δ σ H Hi _ _ _ z S λv H' m n s' r=>?_);obtain⟨a,vs,rfl,g,rs⟩:=r;refine⟨a,ρ,⟨vs,ι<|Rd.mono n.sub g⟩,k _ H' m n s' λi A l=>⟨λd e=>?_,λhl=>⟨vs,ι<|Rd.mono l g,by rw[rs.length];exact hl⟩⟩⟩;obtain⟨x,ex,B⟩:=rs.get e;refine⟨⟨vs,x,ι<|Rd.mono l g,ex⟩,λy C o=>ι ?_⟩;obtain⟨rfl,u⟩:=o;have:=u vs<|ι<|Rd.mono l g;simp_all
 | U ds =>
  cases j;refine τ (q H0 ps δ σ H Hi _ _ _ z S λv H' m n s' r=>?_);obtain⟨a,vs,rfl,g,rs⟩:=r;refine⟨a,ρ,⟨vs,bq.mono n.sub g⟩,k _ H' m n s' λi A l=>⟨λd e=>?_,λhl=>⟨vs,bq.mono l g,by rw[rs.length];exact hl⟩⟩⟩;obtain⟨x,ex,B⟩:=rs.get e;refine⟨⟨vs,x,bq.mono l g,ex⟩,λy C o=>ι ?_⟩;obtain⟨rfl,u⟩:=o;have:=u vs<|bq.mono l g;simp_all
 | _=>exact nO j
theorem Gh{K:gW}{lo n:Int}{Hi:Hp}:JW K (pJ lo (n-lo).toNat) (dF lo n) Hi:=λi H' _=>by
 refine⟨λd e=>?_,λhl=>?_⟩
 ·unfold dF at e;rw[ez] at e;have f:i<(n-lo).toNat:=by
   cases q:(hM (n-lo).toNat)[i]? with
   | none=>rw[q] at e;exact nO e
   | some j=>simpa using (bt.1 q).1
  rw[Z4 f] at e;obtain rfl:=sO e;exact⟨f,λx H'' y=>ι ⟨y.1,y.2⟩⟩
 unfold dF at hl;rw[ax,kL] at hl;exact hl
def SA (l:Gl X "range")(hm:X.mg "range"=am)(h:DA X [a] f)(hs:ma [a] X.env=[(false,eval a X.env)]:=by rfl):dy X tg (.Call (.Name "range" p) [a] [] pos) (oD f):=by
 obtain⟨t,m,q⟩:=h;refine⟨_,R3 l hm m hs,λH0 ps δ σ H Hi items δ' R d S k=>?_⟩;obtain⟨ds,δ1,o,d⟩:=oB d;dsimp only at d;refine q H0 ps δ σ H Hi ds δ1 _ o S λvs H' g u s' r=>?_;split at d
 ·split at d
  ·rename_i n j;obtain⟨rfl,rfl⟩:=sP d;obtain⟨v,r1,rfl,x,y⟩:=r;subst x;subst y;refine⟨n,ρ,j.1,j.2,?_⟩;have:=k (pJ 0 (n-0).toNat) H' g u s' Gh;rwa [Int.sub_zero] at this
  exact nO d
 exact nO d
def Va (m:Gl X "range")(hm:X.mg "range"=am)(h:DA X [a,b] f)(hs:ma [a,b] X.env=[(false,eval a X.env),(false,eval b X.env)]:=by rfl)(g:ma [b] X.env=[(false,eval b X.env)]:=by rfl) :
  dy X tg (.Call (.Name "range" p) [a,b] [] pos) (qL f):=by
 obtain⟨t,o,q⟩:=h;refine⟨_,Lb m hm o hs g,λH0 ps δ σ H Hi items δ' R d S k=>?_⟩;obtain⟨ds,δ1,u,d⟩:=oB d;dsimp only at d;refine q H0 ps δ σ H Hi ds δ1 _ u S λvs H' j x s' r=>?_;split at d
 ·split at d
  ·rename_i lo n y;obtain⟨rfl,rfl⟩:=sP d;obtain⟨v,r1,rfl,z,w,r2,rfl,l,A⟩:=r;subst z;subst l;subst A;exact⟨lo,n,ρ,y,k _ H' j x s' Gh⟩
  exact nO d
 exact nO d
noncomputable def forLoop(g:GF)(fb:SF):List Dat->SF
 | [],δ=>ac (.next δ)
 | x::xs,δ=>(g x δ).bind fun δ1=>(fb δ1).bind λo=>match o with
  | .next δ2=>forLoop g fb xs δ2
  | .cont δ2=>forLoop g fb xs δ2
  | .brk δ2=>ac (.next δ2)
  | .ret r δ2=>ac (.ret r δ2)
  | .exc _ _=>am
def pd(fi:IF)(g:GF)(fb:SF):SF:=fun δ=>(fi δ).bind λp=>forLoop g fb p.1 p.2
theorem UW (Z:acL (k7 X.prog X.w) X.A X.env X.xe)(hc:X.calm=bi)(R:dy X tg iter fi)(hg:DG X tg g)(hb:fJ X body fb)(hs:∀x,xn iter X.env x=pure x:=by intro _;rfl):b8 X (.For tg iter body [] pos) (pd fi g fb):=by
 obtain⟨wi,pi,qi⟩:=R;obtain⟨tg',pg,qg⟩:=hg;obtain⟨tb,pb,qb⟩:=hb;refine⟨_,MS Z hc pi pg pb hs,λH0 ps δ σ H Hi o D e S k=>?_⟩;obtain⟨items,δ1,e1,e⟩:=oB e;refine qi H0 ps δ σ H Hi items δ1 _ e1 S λJ H1 B S1 Q jw=>?_
 refine⟨λi m q H'=>m=items.length-i/\i<=items.length/\∃δ' j,SR X.K H0 ps δ' q H' j/\aj B j/\forLoop g fb (items.drop i) δ'=ac o,
  ⟨items.length,⋯,pe _,δ1,B,S1,aj.refl _,by simpa using e⟩,?_⟩
 rintro i m q H' ⟨rfl,R,δ',j,I,s',h⟩;have L:=jw i H'<|s'.trans I.sub;by_cases M:i<items.length
 ·have T:=bg M;rw[adz M] at h;obtain⟨δ2,e2,h⟩:=oA h;obtain⟨U,e3,h⟩:=oA h;refine τ ⟨(L.1 _ T).1,λE V=>∃d F,SR X.K H0 ps d E V F/\aj B F/\forLoop g fb (items.drop<|i+1) d=ac o,λE V ⟨d,F,S3,s3,f3⟩=>⟨items.length-(i+1),⋯,ρ,M,d,F,S3,s3,f3⟩,λx G y=>?_⟩;obtain⟨f,W,Y,rx⟩:∃f,SR X.K H0 ps δ' q G f/\aj j f/\Rep X.K f items[i] x:=by
   rcases (L.1 _ T).2 x G y with⟨rfl,r⟩|⟨p,ob,n,rfl,r⟩
   ·exact⟨j,I,aj.refl _,Rep.mono s' r⟩
   obtain⟨a,b⟩:=I.laid n;exact⟨_,a,b,r j s'<|I.dg n⟩
  refine qg H0 ps δ' q G f _ δ2 x _ e2 W rx λE S2=>?_;apply qb H0 ps δ2 E G f U _ e3 S2;have O:=s'.trans Y;cases U with
  | next d=>exact λt N l u z=>⟨d,l,u,O.trans z,h⟩
  | cont d=>exact λt N l u z=>⟨d,l,u,O.trans z,h⟩
  | brk d=>obtain rfl:=sO h;exact λt N l u z=>k t N l u ((Q.trans O).trans z)
  | ret r d=>obtain rfl:=sO h;exact λv t N l u z rr=>k v t N l u ((Q.trans O).trans z) rr
  | exc C d=>exact nO h
 have ei:i=items.length:=by lia
 subst ei;rw[ae7] at h;obtain rfl:=sO h;exact ι ⟨L.2<|ft _,k q H' j I<|Q.trans s'⟩
noncomputable def gB(c:BF)(fb:SF):Nat->SF
 | 0,_=>am
 | n+1,δ=>(c δ).bind λp=>if p.1=bi then (fb p.2).bind (λo=>match o with
   | .next δ2=>gB c fb n δ2
   | .cont δ2=>gB c fb n δ2
   | .brk δ2=>ac (.next δ2)
   | .ret r δ2=>ac (.ret r δ2)
   | .exc _ _=>am) else ac (.next p.2)
theorem Jo{c:hQ}{body:List ZZ}{fc:BF}{fb:SF}(n:Nat)(J:acL (k7 X.prog X.w) X.A X.env X.xe)(L:DT X c fc)(M:fJ X body fb):b8 X (.While c body [] pos) (gB fc fb n):=by
 obtain⟨tc,N,O⟩:=L;obtain⟨tb,Q,R⟩:=M;refine⟨_,Tw J N Q,λH0 ps δ σ H Hi o D e S k=>?_⟩;refine⟨λm h H'=>∃δ' q,SR X.K H0 ps δ' h H' q/\aj Hi q/\gB fc fb m δ'=ac o,⟨n,δ,Hi,S,aj.refl _,e⟩,?_⟩;rintro m h H' ⟨δ',q,T,s',f⟩;cases m with
 | zero=>exact nO f
 | succ m =>
  obtain⟨b,δ1,U,f⟩:=oB f;refine O H0 ps δ' h H' q b δ1 _ U T λB u E F=>?_;cases b with
  | false=>obtain rfl:=sO f;exact k h B u E (s'.trans F)
  | true =>
   have f:((fb δ1).bind λo=>match o with
    | .next δ2=>gB fc fb m δ2
    | .cont δ2=>gB fc fb m δ2
    | .brk δ2=>ac (.next δ2)
    | .ret r δ2=>ac (.ret r δ2)
    | .exc _ _=>am)=ac o:=f
   refine⟨λz G=>∃d t,SR X.K H0 ps d z G t/\aj Hi t/\gB fc fb m d=ac o,λz G ⟨d,t,V,W,Y⟩=>⟨m,aaw _,d,t,V,W,Y⟩,?_⟩;obtain⟨I,Z,f⟩:=oA f;apply R H0 ps δ1 h B u I _ Z E;have y:=s'.trans F;cases I with
   | next d=>exact λj x g l p=>⟨d,g,l,y.trans p,f⟩
   | cont d=>exact λj x g l p=>⟨d,g,l,y.trans p,f⟩
   | brk d=>obtain rfl:=sO f;exact λj x g l p=>k j x g l (y.trans p)
   | ret r d=>obtain rfl:=sO f;exact λv j x g l p rr=>k v j x g l (y.trans p) rr
   | exc C d=>exact nO f
noncomputable def iy:AF:=fun δ=>ac ([],δ)
noncomputable def fI(f:DF)(g:AF):AF:=fun δ=>(f δ).bind λp=>(g p.2).map λq=>(p.1::q.1,q.2)
noncomputable def sv(f:AF):EF:=fun δ=>(f δ).bind λp=>if p.1.length<=eu then ac (.O<|.L p.1,p.2) else am
noncomputable def tW(f:AF):DF:=fun δ=>(f δ).bind λp=>if p.1.length<=eu then ac (.U p.1,p.2) else am
def US:DA X [] iy:=⟨_,dW,λH0 ps δ σ H Hi ds δ' Q e S k=>by obtain⟨rfl,rfl⟩:=sP e;exact k [] H Hi S (aj.refl _) ρ⟩
def LN (o:DD X e f)(p:DA X h g)(hs:bC X e h:=by rfl):DA X (e::h) (fI f g):=by obtain⟨t1,q,t⟩:=o;obtain⟨t2,u,x⟩:=p;refine⟨_,bX q u hs,λH0 ps δ σ H Hi ds δ' Q e S k=>?_⟩;obtain⟨d,δ1,y,e⟩:=oB e;obtain⟨j,δ2,z,e⟩:=oN e;obtain⟨rfl,rfl⟩:=sP e;refine t H0 ps δ σ H Hi d δ1 _ y S λv A l B C D=>?_;exact x H0 ps δ1 σ A l j _ _ z B λvs E m F n G=>k (v::vs) E m F (C.trans n) ⟨v,vs,ρ,Rep.mono n D,G⟩
def NY (h:DA X j f):DE X (.List j pos) (sv f):=by
 obtain⟨t,p,q⟩:=h;refine⟨_,yG p,λH0 ps δ σ H Hi r δ' Q e S k=>?_⟩;obtain⟨ds,δ1,n,e⟩:=oB e;split at e
 ·rename_i o;obtain⟨rfl,rfl⟩:=sP e;refine q H0 ps δ σ H Hi ds _ _ n S λvs H1 l d u m=>⟨by rw[m.length];exact o,λp g=>?_⟩;exact k (.ref p) _ l (d.made g) u ⟨p,ρ,⟨_,aV,m,d.dg g⟩,(d.bL g).2,(d.bL g).1,d.dJ g⟩
 exact nO e
def Mf {m}(h:DA X g f):DD X (.Tuple g m pos) (tW f):=by
 obtain⟨t,p,q⟩:=h;refine⟨_,rh p,λH0 ps δ σ H Hi d δ' Q e S k=>?_⟩;obtain⟨ds,δ1,n,e⟩:=oB e;split at e
 ·rename_i u;obtain⟨rfl,rfl⟩:=sP e;refine q H0 ps δ σ H Hi ds _ _ n S λvs H1 Hi1 x y j=>⟨by rw[j.length];exact u,λp z=>?_⟩;obtain⟨A,l⟩:=x.laid z;exact k (.ref p) _ _ A (y.trans l) ⟨p,vs,ρ,bq.of aV,aA.mono l j⟩
 exact nO e
abbrev aY:=List Dat->Option Res
def RC(K:gW)(H H' f:Hp)(v:V):Res->Prop
 | .D d=>Rep K f d v
 | .O c=>∃p,v=.ref p/\cH K H' f p c/\H p=am
def aG(K:gW)(fn:aY):Sp:=λvs H Q _=>∃Hi ds r,aj Hi H/\aA K Hi ds vs/\fn ds=ac r /\
 ∀v H' d,aj H H'->aj Hi d->aj d H'->(∀p o,d p=ac o->eR Hi H p o)->RC K H H' d v r->Q v H'
abbrev cK:=Dat->List Dat->Option (Res×Dat)
def dz(K:gW)(j:Nat)(fn:cK):Sp:=λvs H Q _=>∃Hi p c ds r c',aj Hi H/\vs[j]?=ac (.ref p)/\cH K H Hi p c/\aA K Hi ds (vs.eraseIdx j)/\fn c ds=ac (r,c') /\
 ∀v H' d,(∀b o,H b=ac o->b≠p->H' b=ac o)->aj Hi d->aj d H'->(∀p o,d p=ac o->eR Hi H p o)->cH K H' d p c'->RC K H H' d v r->Q v H'
theorem SR.after (S:SR K H0 ps δ σ H Hi)(s:aj H H')(j:aj Hi f)(k:aj f H')(nw:∀p o,f p=ac o->eR Hi H p o)(m:RC K H H' f v r):SR K H0 ps δ σ H' f/\RR K H0 ps δ σ H' f v r:=by
 have O:∀{q:eH}{c:Dat},cH K H Hi q c->cH K H' f q c:=λ{q c} h=>by
  obtain⟨⟨o,e⟩,n⟩:=h.some;apply h.keeps ((s q o e).trans e.symm) j;cases z:f q with
  | none=>rfl
  | some u=>rcases nw q u z with w|w|⟨vs,w⟩;simp_all;simp_all;subst w;have:=k _ _ z;rw[s q o e] at this;obtain rfl:=sO this;exact (h.nt e).elim
 refine⟨⟨k,λb o e n=>s b o<|S.keep b o e n,λp l z=>?_,λi d e=>?_,λi c e=>?_,λi c e=>?_,S.ne,S.len,λp o e=>?_⟩,?_⟩
 ·cases e:H p with
  | none=>exact S.eY p l e
  | some o=>rw[s p o e] at z;contradiction
 ·obtain⟨w,a,b⟩:=S.D i d e;exact⟨w,a,Rep.mono j b⟩
 ·obtain⟨q,a,b,g,t⟩:=S.O i c e;exact⟨q,a,O b,g,t⟩
 ·obtain⟨q,a,b,g⟩:=S.io i c e;exact⟨q,a,O b,g⟩
 ·rcases nw p o e with z|z|z
  ·exact S.nw p o z
  ·exact τ<|ι (S.bL z).1
  exact τ<|τ z
 cases r with
 | D d=>exact m
 | O c=>obtain⟨p,e,o,n⟩:=m;exact⟨p,e,o,(S.bL n).2,(S.bL n).1,S.dJ n⟩
noncomputable def bV(fn:aY)(fa:AF):EF:=fun δ=>(fa δ).bind λp=>(fn p.1).map λr=>(r,p.2)
structure zm (X:Cx) (x:eT) (sp:Sp):Prop where
 gl:Gl X x
 is:∃(CX:iQ) (k:Nat) (f:eH) (fd:hU) (pn:List eT),aS X.prog X.w X.K X.mg X.base CX k f fd pn sp/\cb k X.A/\X.mg x=ac (.ref f)/\abA X.K (.ref f)=bi/\Binds X.K fd pn []/\tQ CX X E0
def Q8{x:eT}{e:hQ}{g:List hQ}{fn:aY}{fa:AF}{p:z5}(h:zm X x (aG X.K fn))(y:DA X (e::g) fa)(j:bA x:=by decide)
 (z:bC X e g:=by rfl)(l:(Hz pos<|ma g X.env).any (·.1)=bv:=by rfl):DE X (.Call (.Name x p) (e::g) [] pos) (bV fn fa):=by
 obtain⟨A,CX,k,f,fd,pn,F,B,hm,C,D,E⟩:=h;obtain⟨t,G,q⟩:=y;refine⟨_,GH F B A hm C D .nil E G j z l,λH0 ps δ σ H Hi r δ' Q d S k=>?_⟩;obtain⟨ds,δ1,I,d⟩:=oB d;obtain⟨r2,J,d⟩:=oM d;obtain⟨rfl,rfl⟩:=sP d;refine q H0 ps δ σ H Hi ds _ _ I S λvs H1 m n L M=>?_;refine⟨m,ds,_,n.sub,by rw[wa];exact M,J,λv N o O u R T U=>?_⟩;obtain⟨V,W⟩:=n.after O u R T U;exact k v N o V (L.trans u) W
noncomputable def fK(n:Nat)(ds:List Dat):DS:=ds.map Slot.D++zc (n-ds.length) .no
def k9(n:Nat)(f:SF):aY:=λds=>(f<|fK n ds).bind λo=>match o with
 | .next _=>ac (.D .aF)
 | .ret r _=>ac r
 | _=>am
def Bh (s:aj Hi H)(r:aA K Hi ds vs):SR K (H,Hi) (λ_=>am) (fK N.length ds) (start N vs) H Hi:=by
 have hl:=r.length;have f:∀{i:Nat}{s:Slot},(fK N.length ds)[i]?=ac s->(∃d,s=.D d/\ds[i]?=ac d)\/s=.no:=λ{i s} h=>by
  delta fK at h;by_cases m:i<ds.length
  ·rw[qt (by simpa using m),ez] at h;simp_all
  rw[ph (by simpa using m)] at h;rw[abS] at h;split at h
  ·obtain rfl:=sO h;exact τ ρ
  exact nO h
 refine⟨s,λb o e _=>e,λp l=>?_,λi d e=>?_,λi c e=>?_,λi c e=>?_,λi j c c' p k h2=>?_,?_,λp o e=>ι e⟩
 ·obtain⟨_,z⟩:=l;exact nO z
 ·rcases f e with⟨d',g,h⟩|g
  ·cases g;obtain⟨v,a,b⟩:=r.get h;refine⟨v,?_,b⟩;unfold start;rw[qt (by simpa using (bt.1 a).1),ez,a];rfl
  contradiction
 ·rcases f e with⟨d',g,h⟩|g<;>contradiction
 ·rcases f e with⟨d',g,h⟩|g<;>contradiction
 ·rcases k with k|k<;>(rcases f k with⟨d',g,h⟩|g<;>contradiction)
 simp_all [fK,start]
theorem OZ{x n:eT}{st:ZZ}{f:eH}{B:hU}{N ps:List eT}{k:Nat}{fn:aY}{fb:SF}(F:a9 K x n st f B)(S:br N ps (aK st))(y:∀ds r,fn ds=ac r->ds.length=ps.length)
 (I:∀(u:dk) (A:pk) (outer:List Env) (s:eK) (H:Hp) (E:XK),cb k (A.deeper<|aaJ n (aK st) s.heap.objs.size f u)->fJ (dQ bb P w K mg base N n (aK st) f u A outer s H E).iA (fV st) fb)
 (J:∀ds r,fn ds=ac r->k9 N.length fb ds=ac r):aS P w K mg base bb (k+1) f B ps (aG K fn):=by
 refine F.ok S (λvs H Q E h=>?_)<|λu A outer s H vs Q E L h=>?_
 ·obtain⟨Hi,ds,r,s,rs,e,_⟩:=h;rw[rs.length];exact y ds r e
 obtain⟨Hi,ds,r,M,rs,e,D⟩:=h;obtain⟨t,p,q⟩:=I u A outer s H E L;refine⟨t,p,?_⟩;have l:=J ds r e;obtain⟨o,O,l⟩:=oA l;have nw:∀{δ:DS}{m:St}{H' g:Hp},SR K (H,Hi) (λ_=>am) δ m H' g->∀p o,g p=ac o->eR Hi H p o:=λj p o e=>j.nw p o e;have kp:∀{δ:DS}{m:St}{H' g:Hp},SR K (H,Hi) (λ_=>am) δ m H' g->aj H H':=λj b o e=>j.keep b o e<|λ⟨_,z⟩=>by exact nO z
 apply q (H,Hi) (λ_=>am) (fK N.length ds) (start N vs) H Hi o _ O<|Bh M rs;cases o with
 | next δ=>obtain rfl:=sO l;exact λm H' g j s'=>D .aF H' g (kp j) s' j.sub (nw j) ρ
 | ret r' δ =>
  cases l;refine λv m H' g j s' G=>D v H' g (kp j) s' j.sub (nw j) ?_;cases r with
  | D d=>exact G
  | O c=>obtain⟨p,R,o,np,T,_⟩:=G;exact⟨p,R,o,T⟩
 | brk δ=>exact nO l
 | cont δ=>exact nO l
 | exc C δ=>exact nO l
def kY(K:gW)(f:DF):TE:=fun σ H Q=>∃H0 ps δ Hi d δ',f δ=ac (d,δ')/\SR K H0 ps δ σ H Hi/\∀v H' g,SR K H0 ps δ' σ H' g->aj Hi g->Rep K g d v->Q v H'
def lX(K:gW)(f:BF):TT:=fun σ H Q=>∃H0 ps δ Hi d δ',f δ=ac (d,δ')/\SR K H0 ps δ σ H Hi/\∀H' g,SR K H0 ps δ' σ H' g->aj Hi g->Q d H'
def kW(K:gW)(g:GF):TG:=λv σ H Q=>∃H0 ps δ Hi d δ',g d δ=ac δ'/\SR K H0 ps δ σ H Hi/\Rep K Hi d v/\∀f,SR K H0 ps δ' f H Hi->Q f H
def DD.nj (h:DD X e f):PE X e (kY X.K f):=by obtain⟨t,p,q⟩:=h;rintro pins s σ H Q I ⟨H0,ps,δ,Hi,d,δ',g,S,k⟩;exact p pins s σ H Q I<|q H0 ps δ σ H Hi d δ' Q g S k
def DG.nj (h:DG X tg g):PG X tg (kW X.K g):=by obtain⟨t,p,q⟩:=h;rintro pins s σ H v u Q I r ⟨H0,ps,δ,Hi,d,δ',f,S,j,k⟩;exact p pins s σ H v u Q I r<|q H0 ps δ σ H Hi d δ' v Q f S j k
def lP(X:Cx)(ifs:List hQ)(f:BF):Prop:=PF X ifs<|lX X.K f
def UN:lP X [] (fun δ=>ac (true,δ)):=by rintro pins s σ H Q I ⟨H0,ps,δ,Hi,d,δ',f,S,k⟩;obtain⟨rfl,rfl⟩:=sP f;exact C8 pins s σ H Q I<|k H Hi S<|aj.refl _
def IV{X:Cx}{c:hQ}{f:BF}(h:DT X c f):lP X [c] f:=by obtain⟨t,p,q⟩:=h;rintro pins s σ H Q I ⟨H0,ps,δ,Hi,d,δ',g,S,k⟩;exact Mr p pins s σ H Q I<|q H0 ps δ σ H Hi d δ' Q g S k
noncomputable def noOwn(δ:DS):Bool:=δ.all λs=>match s with|.O _=>false|_=>true
theorem Ej{δ:DS}(h:noOwn δ=bi){i:Nat}{c:Dat}:δ[i]?≠ac (.O c):=fun e=>by have:=hE.1 h _<|fB e;contradiction
noncomputable def bB(ln:Option (Nat×Nat)):List (Option Nat)->DS->DS
 | [],δ=>δ
 | o::r,δ=>bB ln r (match o with
  | some j=>if ln.map afn=ac j then δ else (match δ[j]? with|some (.O c)=>δ.set j (.D c)|_=>δ)
  | none=>δ)
noncomputable def cC(caps:List (Option Nat))(δ:DS):DS:=caps.map λo=>match o with
 | some j=>(match δ[j]? with|some (.D d)=>.D d|_=>.no)
 | none=>.no
noncomputable def compLoop(g:GF)(fc:BF)(fe:DF):List Dat->List Dat->DS->Option (List Dat×DS)
 | [],d,δ=>ac (d,δ)
 | x::xs,d,δ=>(g x δ).bind fun δ1=>(fc δ1).bind λp=>if p.1=bi then (fe p.2).bind λq=>if d.length<eu/\noOwn q.2=bi then compLoop g fc fe xs (d++[q.1]) q.2 else am
   else if noOwn p.2=bi then compLoop g fc fe xs d p.2 else am
def eV(caps:List (Option Nat))(ln:Option (Nat×Nat))(fi:IF)(g:GF)(fc:BF)(fe:DF):EF:=fun δ=>(fi δ).bind λp =>
 let δ1:=bB ln caps p.2
 match ln with
 | none=>(compLoop g fc fe p.1 []<|cC caps δ1).map λq=>(.O<|.L q.1,δ1)
 | some (k,j)=>if caps[k]?=ac (ac j) then (match δ1[j]? with
  | some (.O c)=>(compLoop g fc fe p.1 []<|(cC caps δ1).set k (.io c)).bind λq=>(match q.2[k]? with|some (.io c')=>ac (.O<|.L q.1,δ1.set j<|.O c')|_=>am)
  | some (.io c)=>(compLoop g fc fe p.1 []<|(cC caps δ1).set k (.io c)).bind λq=>(match q.2[k]? with|some (.io c')=>ac (.O<|.L q.1,δ1.set j<|.io c')|_=>am)
  | _=>am) else am
theorem oR(ln):∀(caps:List (Option Nat)) {δ:DS}{H Hi:Hp},SR K H0 ps δ σ H Hi->∃d,SR K H0 ps (bB ln caps δ) σ H d/\aj Hi d
 | [],_,_,Hi,S=>⟨Hi,S,aj.refl _⟩
 | none::r,_,_,_,S=>oR ln r S
 | some j::r,δ,H,Hi,S=>by
  unfold bB;dsimp only;by_cases hl:ln.map afn=ac j
  ·rw[if_pos hl];exact oR ln r S
  rw[if_neg hl];split
  ·rename_i c e;obtain⟨Hi1,v,_,g,h,_⟩:=S.HA e;obtain⟨f,k,l⟩:=oR ln r g;exact⟨f,k,h.trans l⟩
  exact oR ln r S
def SR.rebase (S:SR K H0 ps δ σ H Hi)(n:noOwn δ=bi):SR K (H,Hi) ps δ σ H Hi :=
 ⟨S.sub,λb o e _=>e,S.eY,S.D,λi c e=>absurd e<|Ej n,S.io,S.ne,S.len,λp o e=>ι e⟩
theorem B6{caps:List (Option Nat)}{δ:DS}{k:Nat}{d:Dat}(h:(cC caps δ)[k]?=ac (.D d)):∃j:Nat,caps[k]?=ac (ac j)/\δ[j]?=ac (.D d):=by
 unfold cC at h;rw[ez] at h;cases e:caps[k]? with
 | none=>rw[e] at h;exact nO h
 | some o =>
  rw[e] at h;cases o with
  | none=>cases h
  | some j=>refine⟨j,ρ,?_⟩;simp at h;split at h;simp_all;contradiction
theorem mI{caps:List (Option Nat)}{δ:DS}{k:Nat}{c:Dat}:(cC caps δ)[k]?≠ac (.O c)/\(cC caps δ)[k]?≠ac (.io c):=by
 delta cC;rw[ez];cases e:caps[k]? with
 | none=>simp
 | some o =>
  cases o with
  | none=>simp
  | some j =>
   simp only[P2];constructor
   all_goals
    intro z;have z:=Option.some.inj z;split at z<;>contradiction
def ya{caps:List (Option Nat)}{k j:Nat}{v:V}(h:caps[k]?=ac (ac j))(e:σ[j]?=ac (ac v)):(eO caps σ)[k]?=ac (ac v):=by simp_all [eO]
def Oc (S:SR K H0 ps δ σ H Hi):SR K (H,Hi) (λ_=>am) (cC caps δ) (eO caps σ) H Hi:=by
 refine⟨S.sub,λb o e _=>e,λp l=>?_,λk d e=>?_,λk c e=>absurd e mI.1,λk c e=>absurd e mI.2,λk k' c c' p h=>?_,?_,λp o e=>ι e⟩
 ·obtain⟨_,z⟩:=l;exact nO z
 ·obtain⟨j,f,g⟩:=B6 e;obtain⟨v,a,b⟩:=S.D j d g;exact⟨v,ya f a,b⟩
 ·rcases h with h|h
  ·exact absurd h mI.1
  exact absurd h mI.2
 simp[cC,eO]
theorem DQ {Qf:Hp->Prop}(S0:SR K (u,h) psB G Vu u h)(n0:noOwn G=bi)(U:u D=am)(jw:JW K J items h)(ef:compLoop g fc fe items [] G=ac (M,N))(VL:∀j H' d vs,SR K (H',d) psB N j H' d->aj h d->(∀b o,u b=ac o->¬gA psB b->H' b=ac o)->(∀p o,d p=ac o->eR h u p o)->H' D=ac (.L vs)->aA K d M vs->d D=am->Qf H') :
  ∃W:Nat->Nat->St->Hp->Prop,(∃m,W 0 m Vu<|upd u D<|.L [])/\∀i m j H',W i m j H'->(J.stop i H'/\Qf H')\/(J.go i H'/\∀x B,J.ny i H' x B->kW K g x j B λC H2=>lX K fc C H2 λb H3 =>
   if b=bi then kY K fe C H3 λy E=>∃ys,E D=ac (.L ys)/\ys.length<eu/\∃O,O<m/\W (i+1) O C (upd E D<|.L<|ys++[y])
   else ∃O,O<m/\W (i+1) O C H3):=by
 have Y:¬gA psB D:=λl=>S0.eY D l U;have Vv:=S0.dg U;have Q:∀{δ:DS}{σ:St}{H Hi:Hp}{H0:Hp×Hp}(vs:List V),SR K H0 psB δ σ H Hi->noOwn δ=bi->Hi D=am->SR K (upd H D<|.L vs,Hi) psB δ σ (upd H D<|.L vs) Hi:=λ{δ σ H Hi H0} vs S n hd=>by
  refine⟨u5 S.sub hd,λb o e _=>e,λp l=>?_,S.D,λi c e=>absurd e<|Ej n,λi c e=>?_,S.ne,S.len,λp o e=>ι e⟩
  ·have hp:p≠D:=λz=>Y (by rw[<-z];exact l);rw[au hp];exact S.eY p l
  obtain⟨q,a,b,c1⟩:=S.io i c e;have hq:q≠D:=λz=>Y (by rw[<-z];exact⟨i,c1⟩);exact⟨q,a,b.keeps (au hq) (aj.refl _) b.some.2,c1⟩
 refine⟨λi m j H'=>m=items.length-i/\i<=items.length/\∃δ d F vs,SR K (H',d) psB δ j H' d/\noOwn δ=bi/\aj h d/\(∀b o,u b=ac o->¬gA psB b->H' b=ac o)/\(∀p o,d p=ac o->eR h u p o) /\
   H' D=ac (.L vs)/\aA K d F vs/\d D=am/\compLoop g fc fe (items.drop i) F δ=ac (M,N),
  ⟨items.length,⋯,pe _,G,h,[],[],Q [] S0 n0 Vv,n0,aj.refl _,λb o e _=>by rw[au (dH e U)];exact e,λp o e=>ι e,aV,ρ,Vv,by simpa using ef⟩,?_⟩
 rintro i m j H' ⟨rfl,hi,δ,d,F,vs,S,n,L,kb,nb,Z,ra,hd,f⟩;have R:=jw i H'<|L.trans S.sub;have base:∀{p:eH},H' p=am->u p=am:=λ{p} z=>by
  cases e:u p with
  | none=>rfl
  | some o =>
   by_cases l:gA psB p
   ·exact absurd z<|S.eY p l
   rw[kb p o e l] at z;contradiction
 by_cases I:i<items.length
 ·have eg:=bg I;rw[adz I] at f;obtain⟨δ1,e2,f⟩:=oA f;obtain⟨b,δ2,e3,f⟩:=oB f;dsimp only at f;refine τ ⟨(R.1 _ eg).1,λx B y=>?_⟩;obtain⟨k,VP,T,rx⟩:∃k,SR K (H',d) psB δ j B k/\aj d k/\Rep K k items[i] x:=by
   rcases (R.1 _ eg).2 x B y with⟨rfl,r⟩|⟨p,ob,nn,rfl,r⟩
   ·exact⟨d,S,aj.refl _,Rep.mono L r⟩
   obtain⟨a,b⟩:=S.laid nn;exact⟨_,a,b,r d L<|S.dg nn⟩
  refine⟨(H',d),psB,δ,k,_,δ1,e2,VP,rx,λC S2=>?_⟩;refine⟨(H',d),psB,δ1,k,b,δ2,e3,S2,λH3 Vw S3 s3=>?_⟩;have kp:∀{Vx:DS}{Vy:St}{E t:Hp},SR K (H',d) psB Vx Vy E t->E D=ac (.L vs)/\t D=am/\(∀b o,u b=ac o->¬gA psB b->E b=ac o)/\(∀p o,t p=ac o->eR h u p o):=λ{Vx Vy E t} A=>by
   refine⟨A.keep D _ Z Y,?_,λb o e l=>A.keep b o (kb b o e l) l,λp o e=>?_⟩
   ·cases z:t D with
    | none=>rfl
    | some o =>
     rcases A.nw D o z with w|w|⟨ts,w⟩
     ·have w:d D=ac o:=w;rw[hd] at w;exact nO w
     ·have w:H' D=am:=w;rw[Z] at w;contradiction
     subst w;have t1:=A.sub _ _ z;rw[A.keep D _ Z Y] at t1;cases t1
   rcases A.nw p o e with w|w|w
   ·exact nb p o w
   ·exact τ<|ι<|base w
   exact τ<|τ w
  cases b with
  | false =>
   simp only[o3,if_false] at f;split at f
   ·rename_i n2;obtain⟨a1,a2,a3,a4⟩:=kp S3;exact⟨items.length-(i+1),⋯,ρ,I,δ2,Vw,F,vs,S3.rebase n2,n2,(L.trans T).trans s3,a3,a4,a1,aA.mono (T.trans s3) ra,a2,f⟩
   exact nO f
  | true =>
   obtain⟨yd,Vz,e4,f⟩:=oB f;split at f
   ·rename_i hz;refine⟨(H',d),psB,δ2,Vw,yd,Vz,e4,S3,λv E t A s4 ry=>?_⟩;obtain⟨a1,a2,a3,a4⟩:=kp A;have sa:=(T.trans s3).trans s4;refine⟨vs,a1,by rw[ra.length];exact hz.1,items.length-(i+1),⋯,ρ,I,Vz,t,F++[yd],vs++[v],Q _ A hz.2 a2,hz.2,L.trans sa,λb o e l=>?_,a4,aV,aA.append (aA.mono sa ra) ⟨v,[],ρ,ry,ρ⟩,a2,f⟩;rw[au (dH e U)];exact a3 b o e l
   exact nO f
 have ei:i=items.length:=by lia
 subst ei;rw[ae7] at f;cases f;exact ι ⟨R.2<|ft _,VL j H' d vs S L kb nb Z ra hd⟩
theorem BO:noOwn (cC caps δ)=bi:=by
 delta noOwn;rw[hE];intro s hs;obtain⟨k,d⟩:=aco hs;cases s with
 | O c=>exact absurd d mI.1
 | _=>rfl
def Bl (u:∀(H0:Hp×Hp) (ps:Nat->Option eH) (δ:DS) (σ:St) (H Hi:Hp) (items:List Dat) (δ':DS) (R:It->Hp->Prop),fi δ=ac (items,δ')->SR X.K H0 ps δ σ H Hi->(∀J j h,SR X.K H0 ps δ' σ j h->aj Hi h->JW X.K J items h->R J j)->l σ H R)(H0)(ps)(δ)(σ)(H Hi)(r)(δ')(Q)(f:eV caps am fi g fc fe δ=ac (r,δ'))(S:SR X.K H0 ps δ σ H Hi)(k:∀v H' d,SR X.K H0 ps δ' σ H' d->aj Hi d->RR X.K H0 ps δ' σ H' d v r->Q v H'):p9 (eO caps) l (kW X.K g) (lX X.K fc) (kY X.K fe) σ H Q:=by
 obtain⟨items,δ1,x,f⟩:=oB f;dsimp only at f;obtain⟨m,δe,y,f⟩:=oN f;obtain⟨rfl,rfl⟩:=sP f;refine u H0 ps δ σ H Hi items δ1 _ x S λJ j h A B C=>?_;intro D n;obtain⟨Hi2,p,q⟩:=oR am caps A;refine DQ (Oc p) BO n (C.mono q) y fun σ' H' d vs E t kb F G I hd=>?_;have L:aj j H':=λb o e=>kb b o e<|λ⟨_,z⟩=>by exact nO z
 obtain⟨M,N⟩:=p.after (r:=.O<|.L m) L t E.sub F ⟨D,ρ,⟨vs,G,I,hd⟩,n⟩;exact k (.ref D) H' d M ((B.trans q).trans t) N
def Jw (j:X.calm=bi)(B:jl X.env.scope scope)(h:gP X.N NB scope caps=bi)(k:dy X tg iter fi)(l:∀(cl:List (eT×eH)) (C:eH) (d:eK) (H:Hp) (f:List eH),DG (cz X NB scope cl C d H f) tg g)(m:∀(cl:List (eT×eH)) (C:eH) (d:eK) (H:Hp) (f:List eH),lP (cz X NB scope cl C d H f) ifs fc)(n:∀(cl:List (eT×eH)) (C:eH) (d:eK) (H:Hp) (f:List eH),DD (cz X NB scope cl C d H f) elt fe)(hs:∀x,xn iter X.env x=pure x:=by intro _;rfl) :
  DE X (.ListComp elt [⟨tg,iter,ifs,0⟩] scope pos) (eV caps am fi g fc fe):=by
 obtain⟨wi,o,p⟩:=k;exact⟨_,DP (tc:=lX X.K fc) j B h o (λcl C d H f=>⟨(l cl C d H f).nj,m cl C d H f,(n cl C d H f).nj⟩) hs,Bl p⟩
def Pw (i:Nat)(p:X.N.Nodup)(l:X.N[i]?=ac y)(q:Loc X.env.scope y)(t:X.fn y=bi\/X.env.scope.names.lookup y=some .local)(u:X.calm=bi)(B:jl X.env.scope scope)(j:gP X.N NB scope caps=bi)(z:dy X tg iter fi)(A:∀(cl:List (eT×eH)) (C:eH) (d:eK) (H:Hp) (f:List eH),DG (cz X NB scope cl C d H f) tg g)(E:∀(cl:List (eT×eH)) (C:eH) (d:eK) (H:Hp) (f:List eH),lP (cz X NB scope cl C d H f) ifs fc)(F:∀(cl:List (eT×eH)) (C:eH) (d:eK) (H:Hp) (f:List eH),DD (cz X NB scope cl C d H f) elt fe)(m:H9 (.ListComp elt [⟨tg,iter,ifs,0⟩] scope pos) (ac<|.Name y py) h.line X.env=pure true)(hs:∀x,xn iter X.env x=pure x:=by intro _;rfl) :
  b8 X (.Assign [.Name y py] (.ListComp elt [⟨tg,iter,ifs,0⟩] scope pos) h) (i6 i<|eV caps am fi g fc fe):=by
 obtain⟨wi,G,I⟩:=z;refine⟨_,AZ (g:=kW X.K g) (tc:=lX X.K fc) (te:=kY X.K fe) p l q u B j G (λcl C d H f=>⟨(A cl C d H f).nj,E cl C d H f,(F cl C d H f).nj⟩) m hs t,λH0 ps δ σ H Hi o D e S k=>?_⟩;obtain⟨r,δ1,J,e⟩:=oB e;obtain⟨δ2,L,e⟩:=oM e;obtain rfl:=sO e;exact Bl I H0 ps δ σ H Hi r δ1 _ J S λv H' n M s' O=>k _ H' n (M.put O L) s'
def RF(K:gW)(ta tb:TE):TE:=fun σ H Q=>ta σ H λx d=>∃c,qB K x d c/\if c=bi then Q x d else tb σ d Q
def P9(K:gW)(ta tb:TE):TE:=fun σ H Q=>ta σ H λx d=>∃c,qB K x d c/\if c=bi then tb σ d Q else Q x d
theorem QK(l:PE X a ta)(m:PE X (.BoolOp .Or (b::rest) pos) tb):PE X (.BoolOp .Or (a::b::rest) pos) (RF X.K ta tb):=by
 refine λpins s σ H Q I h=>BoolOp_or (aI (l pins s σ H _ I h) λv n e=>?_);obtain⟨x,f,o,g,c,tc,j⟩:=e;refine aI (x9 pins n σ f x v (λc' d=>c'=c/\d=f) o g ⟨c,tc,ρ,ρ⟩) λc' p h=>?_;obtain⟨d,k,q,t⟩:=h;subst q t;cases c' with
 | false=>exact m pins p σ d Q k j
 | true=>exact⟨x,d,k,g,j⟩
theorem Ig(l:PE X a ta)(m:PE X (.BoolOp .And (b::rest) pos) tb):PE X (.BoolOp .And (a::b::rest) pos) (P9 X.K ta tb):=by
 refine λpins s σ H Q I h=>BoolOp_and (aI (l pins s σ H _ I h) λv n e=>?_);obtain⟨x,f,o,g,c,tc,j⟩:=e;refine aI (x9 pins n σ f x v (λc' d=>c'=c/\d=f) o g ⟨c,tc,ρ,ρ⟩) λc' p h=>?_;obtain⟨d,k,q,t⟩:=h;subst q t;cases c' with
 | true=>exact m pins p σ d Q k j
 | false=>exact⟨x,d,k,g,j⟩
noncomputable def qy:Dat->Option Bool
 | .aF=>ac false
 | .bl b=>ac b
 | .int i=>ac (i != 0)
 | .str x=>if x.length<=eu then ac ((x.length:Int) != 0) else am
 | .L ds=>ac (!ds.isEmpty)
 | .U ds=>ac (!ds.isEmpty)
 | .a8 d=>ac (!d.isEmpty)
 | .exc _=>am
 | .ins _ _=>am
 | .cV _=>am
 | .adr _=>am
 | .dM _=>am
 | .fu _=>am
 | .aX _ _=>am
def wb{d f:Type}{xs:List d}{ys:List f}(h:xs.length=ys.length):xs.isEmpty=ys.isEmpty:=by
 cases xs<;>cases ys<;>first|rfl|(simp at h)
theorem bN.length:∀{d:List (eT×Dat)}{kvs:List (Key×V)},bN K H d kvs->kvs.length=d.length
 | [],_,h=>by rw[show _=[] from h];rfl
 | (_,_)::_,_,f=>by obtain⟨v,r,e,q,t⟩:=f;simp only[e,gk,gk,bN.length t]
theorem vA{K:gW}{H Hi:Hp}{d:Dat}{v:V}{c:Bool}(s:aj Hi H)(r:Rep K Hi d v)(e:qy d=ac c):qB K v H c:=by
 cases d with
 | aF=>subst r;obtain rfl:=sO e;exact ρ
 | bl b=>subst r;obtain rfl:=sO e;exact ρ
 | int i=>subst r;obtain rfl:=sO e;exact ρ
 | str x =>
  subst r;have e:(if x.length<=eu then ac ((x.length:Int) != 0) else am)=ac c:=e;split at e
  ·rename_i g;obtain rfl:=sO e;exact⟨g,ρ⟩
  exact nO e
 | L ds=>obtain⟨p,vs,rfl,q,rs⟩:=r;cases e;exact ι ⟨vs,ι<|Rd.mono s q,by rw[wb rs.length]⟩
 | U ds=>obtain⟨p,vs,rfl,q,rs⟩:=r;cases e;exact τ (ι ⟨vs,bq.mono s q,by rw[wb rs.length]⟩)
 | a8 f=>obtain⟨p,vs,rfl,q,rs⟩:=r;obtain rfl:=sO e;exact τ (τ ⟨vs,s _ _ q,by rw[wb (bN.length rs)]⟩)
 | exc C=>exact nO e
 | ins C fs=>exact nO e
 | cV ns=>exact nO e
 | adr p=>exact nO e
 | dM l=>exact nO e
 | fu f=>exact nO e
 | aX fz f=>exact nO e
def oZ(f:DF):BF:=fun δ=>(f δ).bind λp=>(qy p.1).map λc=>(c,p.2)
noncomputable def eM(f:EF):BF:=fun δ=>(f δ).bind λp=>match p.1 with
 | .D (.bl b)=>ac (b,p.2)
 | _=>am
noncomputable def rN(f:BF):BF:=fun δ=>(f δ).map λp=>(!p.1,p.2)
noncomputable def j4(f g:BF):BF:=fun δ=>(f δ).bind λp=>if p.1=bi then g p.2 else ac (false,p.2)
noncomputable def jL(f g:BF):BF:=fun δ=>(f δ).bind λp=>if p.1=bi then ac (true,p.2) else g p.2
def jc(f g:DF):DF:=fun δ=>(f δ).bind λp=>(qy p.1).bind λc=>if c=bi then g p.2 else ac p
def o6(f g:DF):DF:=fun δ=>(f δ).bind λp=>(qy p.1).bind λc=>if c=bi then ac p else g p.2
def Tr (h:DD X a f)(m:∀g,adZ a X.env g=(do let v <-g;adi a.pos;aaj [v] (afw v))):DT X a (oZ f):=by obtain⟨t,p,q⟩:=h;refine⟨_,Il p m,λH0 ps δ σ H Hi c δ' Q e S k=>?_⟩;obtain⟨d,δ1,n,e⟩:=oB e;obtain⟨c',o,e⟩:=oM e;obtain⟨rfl,rfl⟩:=sP e;exact q H0 ps δ σ H Hi d _ _ n S λv H' j l s' r=>⟨_,vA l.sub r o,k H' j l s'⟩
theorem mz{op:adC}{r:R2}{d:Dat->Dat->Option Res}{f g:DF}(j:bc X (o5 op) r)(ho:fW X r d)(l:DD X a f)(m:DD X b g)(hm:wy op b=bv):DT X (.Compare a [op] [b] pos) (eM<|cO d f g):=by
 obtain⟨ta,n,o⟩:=l;obtain⟨tb,p,q⟩:=m;refine⟨_,pE j n p hm,fun H0 ps δ σ H Hi c δ' Q e S k=>?_⟩;obtain⟨rs,δ1,t,e⟩:=oB e;dsimp only at e;split at e
 ·obtain⟨rfl,rfl⟩:=sP e;exact xC ho o q H0 ps δ σ H Hi _ _ _ t S fun v H' h u s' x=>⟨_,x,k H' h u s'⟩
 exact nO e
def Oz (h:DT X a f):DT X (.UnaryOp .Not a pos) (rN f):=by obtain⟨t,p,q⟩:=h;refine⟨_,G8 p,λH0 ps δ σ H Hi c δ' Q e S k=>?_⟩;obtain⟨d,δ1,j,e⟩:=oN e;obtain⟨rfl,rfl⟩:=sP e;exact q H0 ps δ σ H Hi d _ _ j S λH' g l s'=>k H' g l s'
def QH (h:DT X a f):DW X (.BoolOp .And [a] pos) f:=let ⟨t,p,q⟩:=h;⟨t,Mx p,q⟩
def OC (h:DT X a f):DW X (.BoolOp .Or [a] pos) f:=let ⟨t,p,q⟩:=h;⟨t,RW p,q⟩
theorem Kl (m:DT X a f)(n:DW X (.BoolOp .And (b::rest) pos) g):DW X (.BoolOp .And (a::b::rest) pos) (j4 f g):=by
 obtain⟨t1,o,p⟩:=m;obtain⟨t2,q,t⟩:=n;refine⟨_,UX o q,λH0 ps δ σ H Hi c δ' Q e S k=>?_⟩;obtain⟨d,δ1,u,e⟩:=oB e;refine p H0 ps δ σ H Hi d δ1 _ u S λH' h j s'=>?_;cases d with
 | true=>exact t H0 ps δ1 σ H' h c δ' Q e j λx l y z=>k x l y (s'.trans z)
 | false=>obtain⟨rfl,rfl⟩:=sP e;exact k H' h j s'
theorem U8 (m:DT X a f)(n:DW X (.BoolOp .Or (b::rest) pos) g):DW X (.BoolOp .Or (a::b::rest) pos) (jL f g):=by
 obtain⟨t1,o,p⟩:=m;obtain⟨t2,q,t⟩:=n;refine⟨_,Ua o q,λH0 ps δ σ H Hi c δ' Q e S k=>?_⟩;obtain⟨d,δ1,u,e⟩:=oB e;refine p H0 ps δ σ H Hi d δ1 _ u S λH' h j s'=>?_;cases d with
 | false=>exact t H0 ps δ1 σ H' h c δ' Q e j λx l y z=>k x l y (s'.trans z)
 | true=>obtain⟨rfl,rfl⟩:=sP e;exact k H' h j s'
def JJ{op}(h:DD X a f):DD X (.BoolOp op [a] pos) f:=let ⟨t,p,q⟩:=h;⟨t,OV p,q⟩
theorem Rz (m:DD X a f)(n:DD X (.BoolOp .And (b::rest) pos) g):DD X (.BoolOp .And (a::b::rest) pos) (jc f g):=by
 obtain⟨t1,o,p⟩:=m;obtain⟨t2,q,t⟩:=n;refine⟨_,Ig o q,λH0 ps δ σ H Hi c δ' Q e S k=>?_⟩;obtain⟨d,δ1,u,e⟩:=oB e;obtain⟨c',x,e⟩:=oA e;refine p H0 ps δ σ H Hi d δ1 _ u S λv H' h j s' r=>⟨c',vA j.sub r x,?_⟩;cases c' with
 | true=>exact t H0 ps δ1 σ H' h c δ' Q e j λy z l A B C=>k y z l A (s'.trans B) C
 | false=>obtain⟨rfl,rfl⟩:=sP e;exact k v H' h j s' r
theorem Ub (m:DD X a f)(n:DD X (.BoolOp .Or (b::rest) pos) g):DD X (.BoolOp .Or (a::b::rest) pos) (o6 f g):=by
 obtain⟨t1,o,p⟩:=m;obtain⟨t2,q,t⟩:=n;refine⟨_,QK o q,λH0 ps δ σ H Hi c δ' Q e S k=>?_⟩;obtain⟨d,δ1,u,e⟩:=oB e;obtain⟨c',x,e⟩:=oA e;refine p H0 ps δ σ H Hi d δ1 _ u S λv H' h j s' r=>⟨c',vA j.sub r x,?_⟩;cases c' with
 | false=>exact t H0 ps δ1 σ H' h c δ' Q e j λy z l A B C=>k y z l A (s'.trans B) C
 | true=>obtain⟨rfl,rfl⟩:=sP e;exact k v H' h j s' r
mutual
noncomputable def toPy:Dat->PyData
 | .aF=>.none
 | .bl b=>.bool b
 | .int i=>.int i
 | .str x=>.str x
 | .U xs=>.tuple (dj xs)
 | .L xs=>.list (dj xs)
 | .a8 _=>.dict []
 | .exc _=>.none
 | .ins _ _=>.none
 | .cV _=>.none
 | .adr _=>.none
 | .dM _=>.none
 | .fu _=>.none
 | .aX _ _=>.none
noncomputable def dj:List Dat->List PyData
 | []=>[]
 | d::r=>toPy d::dj r
end
mutual
/-- no dict within -/
noncomputable def jB:Dat->Bool
 | .U xs=>jX xs
 | .L xs=>jX xs
 | .a8 _=>false
 | .exc _=>false
 | .ins _ _=>false
 | .cV _=>false
 | .adr _=>false
 | .dM _=>false
 | .fu _=>false
 | .aX _ _=>false
 | _=>true
noncomputable def jX:List Dat->Bool
 | []=>true
 | d::r=>jB d&&jX r
end
mutual
theorem jW(I:Inv X pins σ H s)(f:aj Hi H):∀{d:Dat}{v:V}{u:dk},jB d=bi->Rep X.K Hi d v->RelV v u->∃g,Reads s.heap u (toPy d) g
 | .aF,_,_,_,r,q=>by
  cases r
  cases q
  exact⟨_,.none⟩
 | .bl b,_,_,_,r,q=>by
  cases r
  cases q
  exact⟨_,.bool b⟩
 | .int i,_,_,_,r,q=>by
  cases r
  obtain⟨t,rfl⟩:=q
  exact⟨_,.int i t⟩
 | .str x,_,_,_,r,q=>by
  cases r
  obtain⟨t,rfl⟩:=q
  exact⟨_,.str x t⟩
 | .U ds,_,_,p,r,q=>by
  obtain⟨a,vs,rfl,k,rs⟩:=r
  cases q
  obtain⟨its,l,⟨o,j,m,n,y⟩,_⟩:=I.tuple<|bq.mono f k
  obtain⟨g,h⟩:=uP I f (show jX ds=bi from p) rs l
  exact⟨_,.tuple j m y (by simpa using h)⟩
 | .L ds,_,_,p,r,q=>by
  obtain⟨a,vs,rfl,k,rs⟩:=r
  cases q
  obtain⟨z,its,n,l,j⟩:=(Rd.mono f k).ok I.aq
  obtain⟨g,h⟩:=uP I f (show jX ds=bi from p) rs l
  exact⟨_,.list j rfl rfl (by simpa using h)⟩
 | .a8 _,_,_,p,_,_=>by cases p
 | .exc _,_,_,p,_,_=>by cases p
 | .ins _ _,_,_,p,_,_=>by cases p
 | .cV _,_,_,p,_,_=>by cases p
 | .adr _,_,_,p,_,_=>by cases p
 | .dM _,_,_,p,_,_=>by cases p
 | .fu _,_,_,p,_,_=>by cases p
 | .aX _ _,_,_,p,_,_=>by cases p
theorem uP(I:Inv X pins σ H s)(f:aj Hi H):∀{ds:List Dat}{vs:List V}{us:List dk},jX ds=bi->aA X.K Hi ds vs->aJ vs us->∃g,ReadsAll s.heap us (dj ds) g
 | [],_,_,_,r,q=>by
  cases (show _=[] from r)
  cases q
  exact⟨_,.nil⟩
 | d::ds,_,_,p,r,q=>by
  obtain⟨v,vr,rfl,A,B⟩:=r
  cases q with
  | cons C D =>
   have p:=n7.1 (show (jB d&&jX ds)=bi from p)
   obtain⟨g,j⟩:=jW I f p.1 A C
   obtain⟨bs,m⟩:=uP I f p.2 B D
   exact⟨_,.cons j m⟩
end
def bH(d:Dat):Bool:=jB d&&adK (toPy d)
def dA(d e:Dat):Bool:=aab (toPy d)<|toPy e
noncomputable def BD(neg:Bool):Dat->Dat->Option Res
 | .L (_::_),.L []=>ac (.D<|.bl neg)
 | _,_=>am
def eF(neg:Bool):Dat->Dat->Option Res:=λd e=>if bH d&&bH e then ac (.D<|.bl (if neg then !dA d e else dA d e)) else BD neg d e
def yD(K:gW)(neg:Bool):R2:=λx y H Q=>∃Hi d e,aj Hi H/\Rep K Hi d x/\Rep K Hi e y/\bH d=bi/\bH e=bi/\Q (.bl (if neg then !dA d e else dA d e)) H
def zg(neg:Bool):R2:=λx y H Q=>∃l b z d,x=.ref l/\y=.ref b/\Rd H l (.L (z::d))/\Rd H b (.L [])/\Q (.bl neg) H
def Ah(K:gW)(neg:Bool):R2:=λx y H Q=>yD K neg x y H Q\/zg neg x y H Q
def E8{pins:List (eH×C1)}{σ:St}{H:Hp}{s:eK}(I:Inv X pins σ H s){l b:eH}{z:V}{h:List V}(j:Rd H l (.L (z::h)))(k:Rd H b (.L [])):∃f g:Array dk,s.heap.IsList l f/\s.heap.IsList b g/\(f.size != g.size)=bi:=by obtain⟨z1,its,n,r,e⟩:=j.ok I.aq;obtain⟨z2,d,m,o,p⟩:=k.ok I.aq;have t:=o.length;refine⟨its.toArray,d.toArray,⟨_,e,ρ,n,ρ⟩,⟨_,p,ρ,m,ρ⟩,?_⟩;simp only[kq,<-r.length,<-t];rfl
def C3(d:X.A.units+64<vv):bc X (o5 .Eq) (Ah X.K false):=bc.or ((λk=>by intro pins s σ H x y v u Q I l m h;obtain⟨Hi,d,e,j,n,o,f,g,q⟩:=h;have f:=n7.1 f;have g:=n7.1 g;obtain⟨as,p⟩:=jW I j f.1 n l;obtain⟨bs,t⟩:=jW I j g.1 o m;exact eq_dataH p t f.2 g.2 k ⟨.bl<|dA d e,H,I,ρ,q⟩) d)<|(λhu=>by intro pins s σ H x y v u Q I d f h;obtain⟨l,b,z,zs,rfl,rfl,g,j,q⟩:=h;subst d;subst f;obtain⟨i1,i2,a,c,k⟩:=E8 I g j;exact ag0 a c k (by lia) _ _ _ _ ⟨.bl false,H,I,ρ,q⟩) d
def E1(d:X.A.units+64<vv):bc X (o5 .NotEq) (Ah X.K true):=bc.or ((λk=>by intro pins s σ H x y v u Q I l m h;obtain⟨Hi,d,e,j,n,o,f,g,q⟩:=h;have f:=n7.1 f;have g:=n7.1 g;obtain⟨as,p⟩:=jW I j f.1 n l;obtain⟨bs,t⟩:=jW I j g.1 o m;exact ne_dataH p t f.2 g.2 k ⟨.bl<|!dA d e,H,I,ρ,q⟩) d)<|(λhu=>by intro pins s σ H x y v u Q I d f h;obtain⟨l,b,z,zs,rfl,rfl,g,j,q⟩:=h;subst d;subst f;obtain⟨i1,i2,a,c,k⟩:=E8 I g j;exact agk a c k (by lia) _ _ _ _ ⟨.bl true,H,I,ρ,q⟩) d
def uk:fW X (Ah X.K neg) (eF neg):=by
 intro H0 ps δ σ H Hi x y d d' o Q e S g h k;delta eF at e;split at e
 ·rename_i f;have f:=n7.1 f;obtain rfl:=sO e;exact ι ⟨Hi,d,d',S.sub,g,h,f.1,f.2,k _ H Hi S (aj.refl _) ρ⟩
 delta BD at e;split at e
 ·obtain rfl:=sO e;obtain⟨p,vs,rfl,j,l⟩:=g;obtain⟨m,n,rfl,q,t⟩:=h;obtain⟨z,u,rfl,_,_⟩:=l;cases (t);exact τ ⟨p,m,z,u,ρ,ρ,Rd.mono S.sub j,Rd.mono S.sub q,k _ H Hi S (aj.refl _) ρ⟩
 exact nO e
def inD(d:Dat)(ds:List Dat):Bool:=(dj ds).any λy=>aab y<|toPy d
def vM(neg:Bool):Dat->Dat->Option Res
 | d,.L ds=>if bH d&&bH (.L ds) then ac (.D<|.bl (if neg then !inD d ds else inD d ds)) else am
 | d,.U ds=>if bH d&&bH (.U ds) then ac (.D<|.bl (if neg then !inD d ds else inD d ds)) else am
 | .str x,.str y=>ac (.D<|.bl (if neg then !(!(LK y x 0 y.length 1).isEmpty) else !(LK y x 0 y.length 1).isEmpty))
 | _,_=>am
def zO(K:gW)(neg:Bool):R2:=λx y H Q=>∃Hi d ds c,(c=.L ds\/c=.U ds)/\aj Hi H/\Rep K Hi d x/\Rep K Hi c y/\bH d=bi/\bH c=bi/\Q (.bl (if neg then !inD d ds else inD d ds)) H
def nK(K:gW)(neg:Bool):R2:=λx y H Q=>zO K neg x y H Q\/(λx y H Q=>∃i j,x=.str i/\y=.str j/\Q (.bl (if neg then !(!(LK j i 0 j.length 1).isEmpty) else !(LK j i 0 j.length 1).isEmpty)) H) x y H Q
def HB(j:X.A.units+65<vv):bc X (o5 .NotIn) (zO X.K true):=by
 intro pins s σ H x y v u Q I n o h;obtain⟨Hi,d,ds,c,p,k,t,z,f,g,q⟩:=h;have f:=n7.1 f;have g:=n7.1 g;obtain⟨as,l⟩:=jW I k f.1 t n;obtain⟨bs,m⟩:=jW I k g.1 z o;rcases p with rfl|rfl
 ·exact SeqAt.notIn_list_reads m l (sT g.2) (sT f.2) (abO f.2 j) ⟨.bl<|!inD d ds,H,I,ρ,q⟩
 exact SeqAt.notIn_tuple_reads m l (sT g.2) (sT f.2) (abO f.2 j) ⟨.bl<|!inD d ds,H,I,ρ,q⟩
def R1(d:X.A.units+65<vv):bc X (o5 .In) (nK X.K false):=bc.or ((λj=>by
  intro pins s σ H x y v u Q I n o h;obtain⟨Hi,d,ds,c,p,k,t,z,f,g,q⟩:=h;have f:=n7.1 f;have g:=n7.1 g;obtain⟨as,l⟩:=jW I k f.1 t n;obtain⟨bs,m⟩:=jW I k g.1 z o;rcases p with rfl|rfl
  ·exact SeqAt.in_list_reads m l (sT g.2) (sT f.2) (abO f.2 j) ⟨.bl<|inD d ds,H,I,ρ,q⟩
  exact SeqAt.in_tuple_reads m l (sT g.2) (sT f.2) (abO f.2 j) ⟨.bl<|inD d ds,H,I,ρ,q⟩) d) SJ
def Nc(d:X.A.units+65<vv):bc X (o5 .NotIn) (nK X.K true):=bc.or (HB d) JD
def Ud:fW X (nK X.K neg) (vM neg):=by
 intro H0 ps δ σ H Hi x y d d' o Q e S g h k;delta vM at e;split at e
 ·split at e
  ·rename_i f;have f:=n7.1 f;cases e;exact ι ⟨Hi,d,_,_,ι ρ,S.sub,g,h,f.1,f.2,k _ H Hi S (aj.refl _) ρ⟩
  exact nO e
 ·split at e
  ·rename_i f;have f:=n7.1 f;cases e;exact ι ⟨Hi,d,_,_,τ ρ,S.sub,g,h,f.1,f.2,k _ H Hi S (aj.refl _) ρ⟩
  exact nO e
 ·obtain rfl:=sO e;subst g;subst h;exact τ ⟨_,_,ρ,ρ,k _ H Hi S (aj.refl _) ρ⟩
 exact nO e
end
noncomputable def kindAt(io:Bool)(c:Dat):Slot:=if io then .io c else .O c
noncomputable def ownOf:Slot->Option (Bool×Dat)
 | .O c=>ac (false,c)
 | .io c=>ac (true,c)
 | _=>am
def uy{s:Slot}{b:Bool}{c:Dat}(h:ownOf s=ac (b,c)):s=kindAt b c:=by
 cases s<;>cases h<;>rfl
section
variable{K:gW}{H0:Hp×Hp}{ps:Nat->Option eH}{δ:DS}{σ:St}{H Hi:Hp}{i:Nat}{io:Bool}{c c':Dat}{p:eH}{X:Cx}{pos apos:z5}
theorem SR.at(S:SR K H0 ps δ σ H Hi)(e:δ[i]?=ac (kindAt io c)):∃p,σ[i]?=ac (ac<|.ref p)/\cH K H Hi p c:=by
 cases io with
 | false=>obtain⟨p,a,b,_⟩:=S.O i c e;exact⟨p,a,b⟩
 | true=>obtain⟨p,a,b,_⟩:=S.io i c e;exact⟨p,a,b⟩
theorem SR.write (S:SR K H0 ps δ σ H Hi)(e:δ[i]?=ac (kindAt io c))(ep:σ[i]?=ac (ac<|.ref p))(ho:cH K (upd H p o) Hi p c'):SR K H0 ps (δ.set i<|kindAt io c') σ (upd H p o) Hi:=by
 have v:=(bt.1 e).1;have w:δ[i]?=ac (.O c)\/δ[i]?=ac (.io c):=by
  cases io with
  | false=>exact ι e
  | true=>exact τ e
 have x:¬gA ps p->H0.1 p=am:=λy=>by
  cases io with
  | false=>obtain⟨q,a,b,g,r⟩:=S.O i c e;rw[ep] at a;cases a;exact r
  | true=>obtain⟨q,a,b,g⟩:=S.io i c e;rw[ep] at a;cases a;exact absurd ⟨i,g⟩ y
 have other:∀{j:Nat}{s:Slot},j≠i->(δ.set i<|kindAt io c')[j]?=ac s->δ[j]?=ac s:=λ{j s} f h=>by rw[n3 (Ne.symm f)] at h;exact h
 have ad1:∀{s:Slot},(δ.set i<|kindAt io c')[i]?=ac s->s=kindAt io c':=λ{s} h=>by rw[ql v] at h;exact (Option.some.inj h).symm
 have ne:∀{j:Nat}{d:Dat}{q:eH},j≠i->(δ[j]?=ac (.O d)\/δ[j]?=ac (.io d))->σ[j]?=ac (ac<|.ref q)->q≠p:=λ{j d q} f h a z=>by subst z;exact f<|S.ne j i d c q h w a ep
 refine⟨u5 S.sub ho.some.2,λb u t n=>?_,λq l=>?_,λj d h=>?_,λj d h=>?_,λj d h=>?_,λj k d d' q A B C D=>?_,by rw[yv];exact S.len,S.nw⟩
 ·have E:b≠p:=λz=>by subst z;rw[x n] at t;exact nO t
  rw[au E];exact S.keep b u t n
 ·by_cases m:q=p
  ·subst m;rw[aV];simp
  rw[au m];exact S.eY q l
 ·have f:j≠i:=λz=>by subst z;have:=ad1 h;cases io<;>contradiction
  exact S.D j d<|other f h
 ·by_cases f:j=i
  ·subst f;have:=ad1 h;cases io with
   | false =>
    cases this;obtain⟨q,a,b,g,r⟩:=S.O j c e;rw[ep] at a;cases a;exact⟨p,ep,ho,g,r⟩
   | true=>cases this
  obtain⟨q,a,b,g,r⟩:=S.O j d<|other f h;have m:=ne f (ι<|other f h) a;exact⟨q,a,b.keeps (au m) (aj.refl _) b.some.2,g,r⟩
 ·by_cases f:j=i
  ·subst f;have:=ad1 h;cases io with
   | true =>
    cases this;obtain⟨q,a,b,g⟩:=S.io j c e;rw[ep] at a;cases a;exact⟨p,ep,ho,g⟩
   | false=>contradiction
  obtain⟨q,a,b,g⟩:=S.io j d<|other f h;have m:=ne f (τ<|other f h) a;exact⟨q,a,b.keeps (au m) (aj.refl _) b.some.2,g⟩
 have back:∀{j:Nat}{d:Dat},((δ.set i<|kindAt io c')[j]?=ac (.O d)\/(δ.set i<|kindAt io c')[j]?=ac (.io d))->∃d',δ[j]?=ac (.O d')\/δ[j]?=ac (.io d'):=λ{j d} h=>by
  by_cases f:j=i
  ·subst f;exact⟨c,w⟩
  exact⟨d,h.imp (other f)<|other f⟩
 obtain⟨F,G⟩:=back A;obtain⟨I,J⟩:=back B;exact S.ne j k F I q G J C D
def MD(K:gW)(T:String)(r:V->List V->Hp->VK->Prop)(a:Dat->List Dat->Option (Dat×Dat)):Prop:=∀(H Hi:Hp) (p:eH) (c:Dat) (ds:List Dat) (vs:List V) (d c':Dat) (Q:VK),a c ds=ac (d,c')->aj Hi H->cH K H Hi p c->aA K Hi ds vs ->
 (∀v o,cH K (upd H p o) Hi p c'->Rep K Hi d v->Q v (upd H p o))->r (.ref p) vs H Q
noncomputable def Kv:Dat->Bool
 | .L _=>true
 | _=>false
def kf(i:Nat)(a:Dat->List Dat->Option (Dat×Dat))(fa:AF):DF:=fun δ=>((δ[i]?).bind ownOf).bind λs=>if Kv s.2=bi then (fa δ).bind λp=>((p.2[i]?).bind ownOf).bind λt=>(a t.2 p.1).map λq=>(q.1,p.2.set i<|kindAt t.1 q.2) else am
theorem So (h:kf i f fa δ=ac (d,δ')) :
  ∃io c ds δ1 a b c',δ[i]?=ac (kindAt io<|.L c)/\fa δ=ac (ds,δ1)/\δ1[i]?=ac (kindAt a b)/\f b ds=ac (d,c')/\δ'=δ1.set i (kindAt a c'):=by
 delta kf at h;cases g:δ[i]? with
 | none=>rw[g] at h;exact nO h
 | some s =>
  rw[g] at h;obtain⟨io,c,k,h⟩:=oB h;dsimp only at h;split at h
  ·cases j:fa δ with
   | none=>rw[j] at h;exact nO h
   | some p =>
    obtain⟨ds,δ1⟩:=p;rw[j] at h;simp at h;cases e:δ1[i]? with
    | none=>rw[e] at h;exact nO h
    | some s1 =>
     rw[e] at h;obtain⟨a,b,l,h⟩:=oB h;obtain⟨d',c',m,h⟩:=oN h;dsimp only at h;obtain⟨rfl,rfl⟩:=sP h;cases c with
     | L c=>exact⟨io,c,ds,δ1,a,b,c',by rw[uy k],rfl,by rw[e,uy l],m,rfl⟩
     | _=>contradiction
  exact nO h
def LA (i:Nat)(hN:X.N[i]?=ac x)(hv:cc X.env.scope x)(y:∀{t:TA},PA X (e::f) t->PE X (.Call (.Attribute (.Name x l) m apos) (e::f) [] pos) (tR X.K "list" r (kP i) t))(hm:MD X.K "list" r n)(z:DA X (e::f) fa):DD X (.Call (.Attribute (.Name x l) m apos) (e::f) [] pos) (kf i n fa):=by obtain⟨t,p,q⟩:=z;refine⟨_,y p,λH0 ps δ σ H Hi d δ' Q A S k=>?_⟩;obtain⟨io,c,ds,δ1,io',B,c',C,D,s,E,rfl⟩:=So A;obtain⟨a,h,F⟩:=S.at C;obtain⟨u,G,_,_⟩:=F;refine⟨.ref a,h,ι ⟨ρ,u,cg.of G⟩,?_⟩;refine q H0 ps δ σ H Hi ds δ1 _ D S λvs I g j J L=>?_;obtain⟨b,w,ob⟩:=j.at s;rw[h] at w;cases w;exact hm I g a B ds vs d c' Q E j.sub ob L λv o o1 M=>k v _ g (j.write s h o1) J M
noncomputable def mH:Dat->List Dat->Option (Dat×Dat)
 | .L xs,[d]=>if xs.length<eu then ac (.aF,.L<|xs++[d]) else am
 | _,_=>am
def Sb (i:Nat)(g:X.N[i]?=ac x)(j:cc X.env.scope x)(l:DA X [e] fa)(hd:bA x:=by decide)(k:cG x:=by decide)(b:Z' (.Name x a) "append" X.env (eval (.Name x a) X.env)=eval (.Name x a) X.env:=by rfl)(f:qz X pos e:=by rfl)(d:(apos.endLine==pos.line)=bi:=by rfl)(hs:bC X e []:=by rfl):DD X (.Call (.Attribute (.Name x a) "append" apos) [e] [] pos) (kf i mH fa) :=
 LA i g j (λh=>uf abC ad4 PySem.F.type_list_append HS (eG g j hd k) h b f d hs ρ) (by
   intro H Hi p c ds vs d c' Q e sm ho r k;delta mH at e;split at e
   ·split at e
    ·rename_i b;obtain⟨rfl,rfl⟩:=sP e;obtain⟨f,g,a,h⟩:=ho;obtain⟨v,vr,rfl,j,l⟩:=r;subst l;exact⟨p,f,v,ρ,ρ,g,by rw[a.length];exact b,k .aF _ ⟨_,aV,aA.append a ⟨v,[],ρ,j,ρ⟩,h⟩ ρ⟩
    exact nO e
   exact nO e) l
end
def CD(X:Cx)(r:List V->Hp->VK->Prop)(g:List Dat->Option Res):Prop:=∀(b:Hp×Hp) (c:Nat->Option eH) (δ:DS) (d:St) (H e:Hp) (vs:List V) (ds:List Dat) (o:Res) (Q:VK),g ds=ac o->SR X.K b c δ d H e->aA X.K e ds vs ->
 (∀v f a,SR X.K b c δ d f a->aj e a->RR X.K b c δ d f a v o->Q v f)->r vs H Q
section
variable{X:Cx}{pos p:z5}{x:eT}{id T:String}{r:List V->Hp->VK->Prop}{fo:List Dat->Option Res}{e:hQ}{es:List hQ}{fa:AF}{K:gW}{H0:Hp×Hp}{ps:Nat->Option eH}{δ:DS}{σ:St}{H Hi:Hp}{i:Nat}{d:Dat}{v:V}{a b:hQ}{P:lq}{w:qh}{mg:eT->Option dk}{base:pq}{f g:DF}{p2:z5}
def HD (n:CD X r fo)(q:∀(H0:Hp×Hp) (ps:Nat->Option eH) (δ:DS) (σ:St) (H Hi:Hp) (ds:List Dat) (δ':DS) (Q:List V->Hp->Prop),fa δ=ac (ds,δ')->SR X.K H0 ps δ σ H Hi->(∀vs h c,SR X.K H0 ps δ' σ h c->aj Hi c->aA X.K c ds vs->Q vs h)->t σ H Q)(H0:Hp×Hp)(ps:Nat->Option eH)(δ:DS)(σ:St)(H Hi:Hp)(o:Res)(δ':DS)(Q:VK)(j:bV fo fa δ=ac (o,δ'))(S:SR X.K H0 ps δ σ H Hi)(k:∀v h c,SR X.K H0 ps δ' σ h c->aj Hi c->RR X.K H0 ps δ' σ h c v o->Q v h):uG r t σ H Q:=by obtain⟨ds,δ1,s,j⟩:=oB j;obtain⟨r2,u,j⟩:=oM j;obtain⟨rfl,rfl⟩:=sP j;refine q H0 ps δ σ H Hi ds _ _ s S λvs y l z A B=>?_;exact n H0 ps _ σ y l vs ds _ Q u z B λv C m D E F=>k v C m D (A.trans E) F
def hV(j:bD X (.builtin id) r)(k:CD X r fo)(l:Gl X x)(hm:X.mg x=am)(m:ZL x=ac (.builtin id))(n:DA X (e::es) fa)(o:x≠"__name__":=by decide)(c:bA x:=by decide)
 (s:bC X e es:=by rfl)(h:(Hz pos<|ma es X.env).any (·.1)=bv:=by rfl):DE X (.Call (.Name x p) (e::es) [] pos) (bV fo fa):=by
 obtain⟨t,u,q⟩:=n;exact⟨_,jO j l hm m u o c s h,HD k q⟩
def vm(j:bD X (.type T) r)(k:CD X r fo)(l:Gl X x)(hm:X.mg x=am)(m:ZL x=ac (.type T))(n:DA X (e::es) fa)(o:x≠"__name__":=by decide)(c:bA x:=by decide)
 (s:bC X e es:=by rfl)(h:(Hz pos<|ma es X.env).any (·.1)=bv:=by rfl):DE X (.Call (.Name x p) (e::es) [] pos) (bV fo fa):=by
 obtain⟨t,u,q⟩:=n;exact⟨_,rl j l hm m u o c s h,HD k q⟩
noncomputable def vf:List Dat->Option Res
 | [.int i]=>ac (.D<|.int (if i<0 then -i else i))
 | _=>am
def Js:CD X (λxs H Q=>∃i,xs=[.int i]/\Q (.int (if i<0 then -i else i)) H) vf:=by
 intro H0 ps δ σ H Hi vs ds o Q e S r k;delta vf at e;split at e
 ·obtain rfl:=sO e;obtain⟨v,vr,rfl,c,h⟩:=r;subst c;subst h;exact⟨_,ρ,k _ H Hi S (aj.refl _) ρ⟩
 exact nO e
noncomputable def oG:List Dat->Option Res
 | [.int i]=>ac (.D<|.int i)
 | [.bl b]=>ac (.D<|.int (if b then 1 else 0))
 | _=>am
def M7:CD X (λxs H Q=>(∃i,xs=[.int i]/\Q (.int i) H)\/∃k,xs=[.bl k]/\Q (.int (if k then 1 else 0)) H) oG:=by
 intro H0 ps δ σ H Hi vs ds o Q e S r k;delta oG at e;split at e
 ·cases e;obtain⟨v,j,rfl,c,h⟩:=r;cases c;subst h;exact ι ⟨_,ρ,k _ H Hi S (aj.refl _) ρ⟩
 ·cases e;obtain⟨v,j,rfl,c,h⟩:=r;subst c;subst h;exact τ ⟨_,ρ,k _ H Hi S (aj.refl _) ρ⟩
 exact nO e
noncomputable def Am:List Dat->Option Res
 | [.int i,.int j]=>ac (.D<|.int (if j<i then j else i))
 | _=>am
noncomputable def uu:List Dat->Option Res
 | [.int i,.int j]=>ac (.D<|.int (if j>i then j else i))
 | _=>am
def Kq:CD X (λxs H Q=>∃i j,xs=[.int i,.int j]/\Q (.int (if j<i then j else i)) H) Am:=by
 intro H0 ps δ σ H Hi vs ds o Q e S r k;delta Am at e;split at e
 ·obtain rfl:=sO e;obtain⟨v,vr,rfl,h,w,wr,rfl,c,l⟩:=r;subst h;subst c;subst l;exact⟨_,_,ρ,k _ H Hi S (aj.refl _) ρ⟩
 exact nO e
def Qq:CD X (λxs H Q=>∃i j,xs=[.int i,.int j]/\Q (.int (if j>i then j else i)) H) uu:=by
 intro H0 ps δ σ H Hi vs ds o Q e S r k;delta uu at e;split at e
 ·obtain rfl:=sO e;obtain⟨v,vr,rfl,h,w,wr,rfl,c,l⟩:=r;subst h;subst c;subst l;exact⟨_,_,ρ,k _ H Hi S (aj.refl _) ρ⟩
 exact nO e
noncomputable def bZ:Dat->Option Nat
 | .L ds=>ac ds.length
 | .U ds=>ac ds.length
 | .a8 c=>ac c.length
 | .fu c=>ac c.length
 | .str x=>if x.length<=eu then ac x.length else am
 | _=>am
def wz:List Dat->Option Res
 | [d]=>(bZ d).map λn:Nat=>.D (.int (n:Int))
 | _=>am
def yE(K:gW):List V->Hp->VK->Prop:=λxs H Q=>(∃p ys,xs=[.ref p]/\(cg K H p ys\/bq K H p ys)/\Q (.int ys.length) H)\/(λxs H Q=>(λxs H Q=>(∃z,xs=[.str z]/\z.length<=eu/\Q (.int z.length) H)) xs H Q\/(λxs H Q=>∃a kvs,xs=[.ref a]/\Rd H a (.dK kvs)/\Q (.int kvs.length) H) xs H Q) xs H Q
def Dq:bD X (.builtin "len") (yE X.K):=bD.or JA<|bD.or Ku (by intro pins s σ H xs us Q I r h;obtain⟨a,kvs,rfl,c,q⟩:=h;obtain⟨u,rfl,j⟩:=vals1 r;subst j;exact Nv I c λt s' k=>⟨.int kvs.length,H,k,⟨t,ρ⟩,q⟩)
theorem IC:CD X (yE X.K) wz:=by
 intro H0 ps δ σ H Hi vs ds o Q e S r k;delta wz at e;split at e
 ·rename_i d;obtain⟨v,vr,rfl,h,j⟩:=r;subst j;cases d with
  | L ds =>
   cases e;obtain⟨p,c,rfl,q,rs⟩:=h;refine ι ⟨p,c,ρ,ι<|ι<|Rd.mono S.sub q,k _ H Hi S (aj.refl _) ?_⟩;show V.int _=V.int _;rw[rs.length]
  | U ds =>
   cases e;obtain⟨p,c,rfl,q,rs⟩:=h;refine ι ⟨p,c,ρ,τ<|bq.mono S.sub q,k _ H Hi S (aj.refl _) ?_⟩;show V.int _=V.int _;rw[rs.length]
  | str x =>
   subst h;have e:(if x.length<=eu then ac x.length else am).map (λn:Nat=>Res.D<|.int n)=ac o:=e;split at e
   ·rename_i l;obtain rfl:=sO e;exact τ<|ι ⟨x,ρ,l,k _ H Hi S (aj.refl _) ρ⟩
   exact nO e
  | a8 m =>
   cases e;obtain⟨p,c,rfl,q,rs⟩:=h;refine τ<|τ ⟨p,c,ρ,Rd.of<|S.sub _ _ q,k _ H Hi S (aj.refl _) ?_⟩;show V.int _=V.int _;rw[bN.length rs]
  | fu m =>
   cases e;obtain⟨p,ob,c,rfl,q,rs⟩:=h;refine τ<|τ ⟨p,c,ρ,τ ⟨ob,S.sub _ _ q⟩,k _ H Hi S (aj.refl _) ?_⟩;show V.int _=V.int _;rw[bN.length rs]
  | _=>exact nO e
 exact nO e
def qf:Dat->Dat->Option Dat
 | .L ds,.int i=>dc ds i
 | .U ds,.int i=>dc ds i
 | .str x,.int i=>if x.length<=eu then (dc x.cps.toList i).map λc=>.str ⟨#[c]⟩ else am
 | _,_=>am
noncomputable def f':Slot->Option Dat
 | .D d=>ac d
 | .O d=>ac d
 | .io d=>ac d
 | .no=>am
def Top(K:gW)(H Hi:Hp)(v:V):Dat->Prop
 | .L ds=>∃p vs,v=.ref p/\Rd H p (.L vs)/\aA K Hi ds vs
 | .U ds=>∃p vs,v=.ref p/\bq K H p vs/\aA K Hi ds vs
 | .a8 c=>∃p kvs,v=.ref p/\H p=ac (.dK kvs)/\bN K Hi c kvs
 | .aX h c=>∃p o kvs,v=.ref p/\H p=ac (if h then .bB o (.dT kvs) else .dT kvs)/\cj K Hi c kvs
 | d=>Rep K Hi d v
theorem Rep.top(r:Rep K Hi d v)(s:aj Hi H):Top K H Hi v d:=by
 cases d with
 | L ds=>obtain⟨p,vs,a,b,c⟩:=r;exact⟨p,vs,a,Rd.mono s b,c⟩
 | U ds=>obtain⟨p,vs,a,b,c⟩:=r;exact⟨p,vs,a,bq.mono s b,c⟩
 | a8 ds=>obtain⟨p,vs,a,b,c⟩:=r;exact⟨p,vs,a,s _ _ b,c⟩
 | aX fz ds=>obtain⟨p,o,vs,a,b,c⟩:=r;exact⟨p,o,vs,a,s _ _ b,c⟩
 | _=>exact r
theorem cH.top{p:eH}(h:cH K H Hi p d):Top K H Hi (.ref p) d:=by
 cases d with
 | L ds=>obtain⟨vs,a,b,_⟩:=h;exact⟨p,vs,ρ,Rd.of a,b⟩
 | a8 c=>obtain⟨vs,a,b,_⟩:=h;exact⟨p,vs,ρ,a,b⟩
 | aX fz c=>obtain⟨rfl,vs,a,b,_⟩:=h;exact⟨p,{cls:=.none,data:=.fields #[]},vs,ρ,a,b⟩
 | _=>exact h.elim
theorem SR.peek(S:SR K H0 ps δ σ H Hi)(e:(δ[i]?).bind f'=ac d):∃v,σ[i]?=ac (ac v)/\Top K H Hi v d:=by
 obtain⟨s,c,e⟩:=oA e;cases s with
 | no=>exact nO e
 | D d'=>cases e;obtain⟨v,a,b⟩:=S.D i d c;exact⟨v,a,b.top S.sub⟩
 | O d'=>cases e;obtain⟨p,a,b,_⟩:=S.O i d c;exact⟨_,a,b.top⟩
 | io d'=>cases e;obtain⟨p,a,b,_⟩:=S.io i d c;exact⟨_,a,b.top⟩
theorem HQ (r:aA K Hi ds vs)(e:dc ds k=ac d):∃v,dc vs k=ac v/\Rep K Hi d v:=by
 delta dc at e ⊢;rw[r.length];cases q:fh ds.length k with
 | none=>rw[q] at e;exact nO e
 | some j=>rw[q] at e;exact r.get e
def DH{x y:V}{a b:Dat}{Q:VK}(t:Top K H Hi x a)(j:Rep K Hi b y)(e:qf a b=ac d)(k:∀v,Rep K Hi d v->Q v H):Eu K x y H Q:=by
 delta qf at e;split at e
 ·obtain⟨p,vs,rfl,l,rs⟩:=t;cases j;obtain⟨v,h,m⟩:=HQ rs e;exact ι ⟨p,vs,_,v,ρ,ρ,ι l,h,k v m⟩
 ·obtain⟨p,vs,rfl,l,rs⟩:=t;cases j;obtain⟨v,h,m⟩:=HQ rs e;exact τ<|ι ⟨p,vs,_,v,ρ,ρ,l,h,k v m⟩
 ·split at e
  ·rename_i n;subst t;subst j;obtain⟨c,h,e⟩:=oM e;obtain rfl:=sO e;exact τ<|τ ⟨_,_,c,ρ,ρ,n,h,k _ ρ⟩
  exact nO e
 exact nO e
def qO(i:Nat):DF:=fun δ=>((δ[i]?).bind f').bind λc=>(bZ c).map λn:Nat=>(.int (n:Int),δ)
theorem TV (i:Nat)(u:X.N[i]?=ac x)(y:cc X.env.scope x)(A:Gl X "len")(hm:X.mg "len"=am)(hd:bA x:=by decide)(o:cG x:=by decide) :
  DD X (.Call (.Name "len" s) [.Name x q] [] pos) (qO i):=by
 refine⟨_,jO Dq A hm abk<|bX (eG u y hd o) dW ρ,λH0 ps δ σ H Hi d δ' Q e S k=>?_⟩;obtain⟨c,B,e⟩:=oA e;cases h:bZ c with
 | none=>rw[h] at e;exact nO e
 | some n =>
  rw[h] at e;obtain⟨rfl,rfl⟩:=sP e;obtain⟨v,a,t⟩:=S.peek B;refine⟨v,a,?_⟩;have j:∀m:Nat,m=n->Q (.int (m:Int)) H:=λm em=>k _ H Hi S (aj.refl _) (by rw[em];rfl);cases c with
  | L ds=>obtain⟨p,vs,rfl,l,rs⟩:=t;cases h;exact ι ⟨p,vs,ρ,ι<|ι l,j _ rs.length⟩
  | U ds=>obtain⟨p,vs,rfl,l,rs⟩:=t;cases h;exact ι ⟨p,vs,ρ,τ l,j _ rs.length⟩
  | a8 C=>obtain⟨p,vs,rfl,l,rs⟩:=t;cases h;exact τ (τ ⟨p,vs,ρ,Rd.of l,j _<|bN.length rs⟩)
  | fu C=>obtain⟨p,ob,vs,rfl,l,rs⟩:=t;obtain rfl:=sO h;exact τ (τ ⟨p,vs,ρ,τ ⟨ob,S.sub _ _ l⟩,j _<|bN.length rs⟩)
  | str z =>
   subst t;have h:(if z.length<=eu then ac z.length else am)=ac n:=h;split at h
   ·rename_i D;obtain rfl:=sO h;exact τ<|ι ⟨z,ρ,D,j _ ρ⟩
   exact nO h
  | _=>exact nO h
def ni(i:Nat)(c f:DF):SF:=fun δ=>(f δ).bind λp=>((p.2[i]?).bind ownOf).bind λ_=>(c p.2).bind λq=>match q.1 with
 | .int k=>((q.2[i]?).bind ownOf).bind λs=>(match s.2 with
  | .L xs=>(fh xs.length k).map λj=>.next (q.2.set i<|kindAt s.1<|.L<|xs.set j p.1)
  | _=>am)
 | _=>am
theorem OW (i:Nat)(U:X.N[i]?=ac x)(V:cc X.env.scope x)(h:DD X e f)(W:DD X l E)(hd:bA x:=by decide)(F:cG x:=by decide)(Y:∀v,aaQ (.Subscript (.Name x m) l pt) X.env v=(do
   let u <-aaj [v] (eval (.Name x m) X.env);let A <-aaj [v,u] (eval l X.env)
   adi pt
   aaj [v,u,A] (aeG u A v)
   release [v,u,A] []):=by intro _;rfl)(hs:ab6 [.Subscript (.Name x m) l pt] e pos.line X.env=pure false:=by rfl)(hw:ab7 [.Subscript (.Name x m) l pt] e X.env=pure am:=by rfl)(B:(wd [.Subscript (.Name x m) l pt] X.env).map (·.2)=[aaQ (.Subscript (.Name x m) l pt) X.env]:=by rfl):b8 X (.Assign [.Subscript (.Name x m) l pt] e pos) (ni i E f):=by
 obtain⟨t,p,q⟩:=h;obtain⟨tk,Z,qk⟩:=W;refine⟨_,Gq p (MW (eG U V hd F) Z set_list Y) hs hw B,λH0 ps δ σ H Hi o D e S k=>?_⟩;obtain⟨d,δ1,e1,e⟩:=oB e;obtain⟨s0,e2,e⟩:=oA e;obtain⟨n,δ2,e3,e⟩:=oB e;dsimp only at e;split at e
 ·rename_i kk;obtain⟨io,c,G,e⟩:=oB e;dsimp only at e;cases c with
  | L xs =>
   obtain⟨j,e5,e⟩:=oM e;obtain rfl:=sO e;have sl:∀{δ':DS}{b:Bool}{c:Dat},(δ'[i]?).bind ownOf=ac (b,c)->δ'[i]?=ac (kindAt b c):=λ{δ' b c} h=>by
    cases z:δ'[i]? with
    | none=>rw[z] at h;exact nO h
    | some s=>rw[z] at h;rw[uy h]
   refine q H0 ps δ σ H Hi d δ1 _ e1 S λv H1 I J s1 r1=>?_;obtain⟨a,C,_⟩:=J.at<|sl e2;refine⟨.ref a,C,qk H0 ps δ1 σ H1 I _ δ2 _ e3 J λy H2 L M O r2=>?_⟩;subst r2;obtain⟨b,Q,ob⟩:=M.at<|sl G;rw[C] at Q;cases Q;obtain⟨vs,B,R,h3⟩:=ob;refine⟨a,vs,kk,j,ρ,ρ,B,by rw[R.length];exact e5,?_⟩;exact k σ _ L (M.write (sl G) C ⟨_,aV,aA.set j R<|Rep.mono O r1,h3⟩) (s1.trans O)
  | _=>exact nO e
 exact nO e
def Oj(X:Cx)(j:Nat)(i:Nat)(f:AF)(t:TA):Prop:=∀(H0:Hp×Hp) (ps:Nat->Option eH) (δ:DS) (σ:St) (H Hi:Hp) (ds:List Dat) (δ':DS) (w:V) (Q:List V->Hp->Prop),f δ=ac (ds,δ')->SR X.K H0 ps δ σ H Hi->σ[i]?=ac (ac w) ->
 (∀vs h c,SR X.K H0 ps δ' σ h c->aj Hi c->vs[j]?=ac w->aA X.K c ds (vs.eraseIdx j)->Q vs h)->t σ H Q
inductive vi (X:Cx) (es:List hQ) (j i:Nat) (f:AF):Prop
 | mk (t:TA) (p:PA X es t) (q:Oj X j i f t)
def O'{x:eT}{c:z5}{es:List hQ}{g:AF}(i:Nat)(m:X.N[i]?=ac x)(n:cc X.env.scope x)(h:DA X es g)(hs:ma (.Name x c::es) X.env=(false,eval (.Name x c) X.env)::ma es X.env:=by rfl)
 (hd:bA x:=by decide)(j:cG x:=by decide):vi X (.Name x c::es) 0 i g:=by
 obtain⟨t,p,q⟩:=h;refine⟨_,bX (eG m n hd j) p hs,λH0 ps δ σ H Hi ds δ' w Q e S o k=>⟨w,o,?_⟩⟩;exact q H0 ps δ σ H Hi ds δ' _ e S λvs s l u s' r=>k (w::vs) s l u s' ρ r
theorem SR.El{K:gW}{H0:Hp×Hp}{ps:Nat->Option eH}{δ:DS}{σ:St}{H Hi l k:Hp}{v:V}{r:Res}{i:Nat}{io:Bool}{c c':Dat}{p:eH}(S:SR K H0 ps δ σ H Hi)(e:δ[i]?=ac (kindAt io c))(ep:σ[i]?=ac (ac<|.ref p))
 (s:∀b o,H b=ac o->b≠p->l b=ac o)(O:aj Hi k)(Q:aj k l)(nw:∀p o,k p=ac o->eR Hi H p o)(D:cH K l k p c')(n:RC K H l k v r) :
  SR K H0 ps (δ.set i<|kindAt io c') σ l k/\RR K H0 ps (δ.set i<|kindAt io c') σ l k v r:=by
 obtain⟨q,eq,R⟩:=S.at e;rw[ep] at eq;cases eq;obtain⟨⟨ob,A⟩,hn⟩:=R.some;obtain⟨⟨y,E⟩,F⟩:=D.some;have U:aj H (upd l p ob):=λb o B=>by
  by_cases z:b=p
  ·subst z;rw[aV];rw[A] at B;exact B
  rw[au z];exact s b o B z
 have G:aj k (upd l p ob):=u5 Q F;have I:RC K H (upd l p ob) k v r:=by
  cases r with
  | D d=>exact n
  | O Y =>
   obtain⟨t,C,u,m⟩:=n;have J:t≠p:=λz=>by subst z;rw[A] at m;contradiction
   exact⟨t,C,u.keeps (au J) (aj.refl _) u.some.2,m⟩
 obtain⟨Z,rr⟩:=S.after U O G nw I;have L:upd (upd l p ob) p y=l:=by
  rw[NV];funext b;by_cases z:b=p
  ·subst z;rw[aV,E]
  rw[au z]
 have M:=Z.write e ep (by rw[L];exact D);simp[L] at M;refine⟨M,?_⟩;cases r with
 | D d=>exact n
 | O Y =>
  obtain⟨t,C,u,m⟩:=n;refine⟨t,C,u,(S.bL m).2,(S.bL m).1,λj d h z=>?_⟩;by_cases N:j=i
  ·subst N;rw[ep] at z;cases z;rw[A] at m;contradiction
  rw[n3 (Ne.symm N)] at h;exact S.dJ m j d h z
def p7(fn:cK)(i:Nat)(fa:AF):EF:=fun δ=>((δ[i]?).bind ownOf).bind λ_=>(fa δ).bind λp=>((p.2[i]?).bind ownOf).bind λs=>(fn s.2 p.1).map λq=>(q.1,p.2.set i<|kindAt s.1 q.2)
theorem kD{δ:DS}{i:Nat}{b:Bool}{c:Dat}(h:(δ[i]?).bind ownOf=ac (b,c)):δ[i]?=ac (kindAt b c):=by
 cases z:δ[i]? with
 | none=>rw[z] at h;exact nO h
 | some s=>rw[z] at h;rw[uy h]
def Qw (h:zm X x (dz X.K j fn))(C:vi X (e::es) j i fa)(o:bA x:=by decide)(D:bC X e es:=by rfl)(s:(Hz pos<|ma es X.env).any (·.1)=bv:=by rfl):DE X (.Call (.Name x p) (e::es) [] pos) (p7 fn i fa):=by obtain⟨E,CX,k,f,fd,pn,F,G,hm,I,J,L⟩:=h;obtain⟨t,M,q⟩:=C;refine⟨_,GH F G E hm I J .nil L M o D s,λH0 ps δ σ H Hi r δ' Q l S k=>?_⟩;obtain⟨b0,c0,N,l⟩:=oB l;obtain⟨ds,δ1,O,l⟩:=oB l;obtain⟨io,c,u,l⟩:=oB l;obtain⟨r',c',R,l⟩:=oN l;dsimp only at l;obtain⟨rfl,rfl⟩:=sP l;obtain⟨a,m,_⟩:=S.at<|kD N;refine q H0 ps δ σ H Hi ds δ1 _ _ O S m λvs H1 y n U V W=>?_;obtain⟨b,z,ob⟩:=n.at<|kD u;rw[m] at z;cases z;refine⟨y,a,c,ds,_,c',n.sub,by rw[wa];exact V,ob,by rw[wa];exact W,R,λv Y A Z B a3 a4 oc rc=>?_⟩;obtain⟨S2,rr⟩:=n.El (kD u) m Z B a3 a4 oc rc;exact k v Y A S2 (U.trans B) rr
noncomputable def ju(n j:Nat)(c:Dat)(ds:List Dat):DS:=(ds.map Slot.D).take j++.io c::(ds.map Slot.D).drop j++zc (n-ds.length-1) .no
def m7(n j:Nat)(f:SF):cK:=λc ds=>(f<|ju n j c ds).bind λo=>match o with
 | .next δ=>(match δ[j]? with|some (.io c')=>ac (.D .aF,c')|_=>am)
 | .ret r δ=>(match δ[j]? with|some (.io c')=>ac (r,c')|_=>am)
 | _=>am
theorem vz (hj:j<=ds.length)(h:(ju n j c ds)[k]?=ac s) :
  (k<j/\∃d,ds[k]?=ac d/\s=.D d)\/(k=j/\s=.io c)\/(j<k/\∃d,ds[k-1]?=ac d/\s=.D d)\/s=.no:=by
 delta ju at h;have l:((ds.map Slot.D).take j).length=j:=by rw[l5,ax];lia
 by_cases o:k<j
 ·rw[wm,qt (by simp only[l];exact o),adD o,ez] at h;cases e:ds[k]? with
  | none=>rw[e] at h;exact nO h
  | some d=>simp_all
 rw[wm,ph (by rw[l];lia),l] at h;by_cases q:k=j
 ·subst q;rw[ad8] at h;obtain rfl:=sO h;exact τ<|ι ⟨ρ,ρ⟩
 have t:j<k:=by lia
 obtain⟨m,hm⟩:∃m,k-j=m+1:=⟨k-j-1,by lia⟩;simp[hm] at h;by_cases u:m<((ds.map Slot.D).drop j).length
 ·rw[qt u,acE,ez] at h;have y:j+m=k-1:=by lia
  rw[y] at h;cases e:ds[k-1]? with
  | none=>rw[e] at h;exact nO h
  | some d=>rw[e] at h;obtain rfl:=sO h;exact τ<|τ<|ι ⟨t,d,ρ,ρ⟩
 rw[ph (by lia),abS] at h;simp_all
theorem FH{K:gW}{N:List eT}{vs:List V}{ds:List Dat}{H Hi:Hp}{j:Nat}{p:eH}{c:Dat}(s:aj Hi H)(hl:vs.length<=N.length)(A:vs[j]?=ac (.ref p))(B:cH K H Hi p c)(r:aA K Hi ds (vs.eraseIdx j)) :
  SR K (H,Hi) (fun k=>if k=j then ac p else am) (ju N.length j c ds) (start N vs) H Hi:=by
 have D:=(bt.1 A).1;have hd:=r.length;rw[aaq D] at hd;have n:j<=ds.length:=⋯;have st:∀{k:Nat}{v:V},vs[k]?=ac v->(start N vs)[k]?=ac (ac v):=fun {k v} e=>by unfold start;rw[qt (by simpa using (bt.1 e).1),ez,e];rfl
 have m:∀{k:Nat}{d:Dat},(ju N.length j c ds)[k]?≠ac (.O d):=fun {k d} h=>by rcases vz n h with⟨_,_,_,e⟩|⟨_,e⟩|⟨_,_,_,e⟩|e<;>contradiction
 have t:∀{k:Nat}{d:Dat},(ju N.length j c ds)[k]?=ac (.io d)->k=j/\d=c:=fun {k d} h=>by
  rcases vz n h with⟨_,_,_,e⟩|⟨a,e⟩|⟨_,_,_,e⟩|e
  ·contradiction
  simp_all
  ·contradiction
  contradiction
 refine⟨s,fun b o e _=>e,fun q l=>?_,fun k d e=>?_,fun k d e=>absurd e m,fun k d e=>?_,fun k E d d' q F G z1 z2=>?_,?_,fun q o e=>ι e⟩
 ·obtain⟨k,z⟩:=l;dsimp only at z;split at z
  ·obtain rfl:=sO z;obtain⟨⟨o,e⟩,_⟩:=B.some;rw[e];simp
  exact nO z
 ·rcases vz n e with⟨C,d',y,u⟩|⟨_,u⟩|⟨C,d',y,u⟩|u
  ·cases u;obtain⟨v,a,b⟩:=r.get y;rw[List.getElem?_eraseIdx_of_lt C] at a;exact⟨v,st a,b⟩
  ·contradiction
  ·cases u;obtain⟨v,a,b⟩:=r.get y;rw[List.getElem?_eraseIdx_of_ge (by lia)] at a;have:k-1+1=k:=by lia
   rw[this] at a;exact⟨v,st a,b⟩
  contradiction
 ·obtain⟨rfl,rfl⟩:=t e;exact⟨p,st A,B,⋯⟩
 ·have I:k=j:=by
   rcases F with h|h
   ·cases m h
   exact (t h).1
  have J:E=j:=by
   rcases G with h|h
   ·cases m h
   exact (t h).1
  simp only[I,J]
 grind [ju,start]
theorem M8{x y:eT}{st:ZZ}{f:eH}{Y:hU}{N ps:List eT}{k j:Nat}{fn:cK}{fb:SF}(F:a9 K x y st f Y)(S:br N ps (aK st))(O:∀c ds r,fn c ds=ac r->ds.length+1=ps.length)
 (Z:∀(B:dk) (A:pk) (outer:List Env) (s:eK) (H:Hp) (E:XK),cb k (A.deeper<|aaJ y (aK st) s.heap.objs.size f B)->fJ (dQ bb P w K mg base N y (aK st) f B A outer s H E).iA (fV st) fb)
 (hf:∀c ds r,fn c ds=ac r->m7 N.length j fb c ds=ac r):aS P w K mg base bb (k+1) f Y ps (dz K j fn):=by
 have L:∀{vs:List V}{H Hi:Hp}{p:eH}{c:Dat}{ds:List Dat}{r:Res×Dat},vs[j]?=ac (V.ref p)->aA K Hi ds (vs.eraseIdx j)->fn c ds=ac r->vs.length=ps.length:=fun {vs H Hi p c ds r} G rs e=>by have hj:=(bt.1 G).1;have:=rs.length;rw[aaq hj] at this;have:=O c ds r e;lia
 have hpl:ps.length<=N.length:=by have:=congrArg List.length S.pre;rw[l5] at this;lia
 refine F.ok S (fun vs H Q E h=>?_)<|fun B A outer s H vs Q E hr h=>?_
 ·obtain⟨Hi,p,c,ds,r,c',sm,G,oc,rs,e,_⟩:=h;exact L (H:=H) G rs e
 obtain⟨Hi,p,c,ds,r,c',sm,G,oc,rs,e,kk⟩:=h;obtain⟨t,pp,q⟩:=Z B A outer s H E hr;refine⟨t,pp,?_⟩;have l:=hf c ds (r,c') e;unfold m7 at l;have hv:=L (H:=H) G rs e;obtain⟨o,e1,l⟩:=oA l;have M:∀{δ:DS}{D:St}{u m:Hp}{I:Dat},SR K (H,Hi) (fun k=>if k=j then ac p else am) δ D u m->δ[j]?=ac (.io I) ->
   (∀b o,H b=ac o->b≠p->u b=ac o)/\(∀p o,m p=ac o->eR Hi H p o)/\cH K u m p I:=fun {δ D u m I} n J=>by
  refine⟨fun b o eb Z=>n.keep b o eb fun ⟨k,z⟩=>?_,fun p o e=>n.nw p o e,?_⟩;simp_all;obtain⟨p',a,b,c2⟩:=n.io j I J;simp_all
 apply q (H,Hi) _ (ju N.length j c ds) (start N vs) H Hi o _ e1<|FH sm ∅ G oc rs;cases o with
 | next δ =>
  refine fun D u m n s'=>?_;simp only at l;split at l
  ·rename_i I J;cases l;obtain⟨R,U,W⟩:=M n J;exact kk .aF u m R s' n.sub U W ρ
  exact nO l
 | ret r' δ =>
  refine fun v D u m n s' rr=>?_;simp only at l;split at l
  ·rename_i I J;cases l;obtain⟨R,U,W⟩:=M n J;apply kk v u m R s' n.sub U W;cases r with
   | D d=>exact rr
   | O c0=>obtain⟨p0,e',o,np,n0,_⟩:=rr;exact⟨p0,e',o,n0⟩
  exact nO l
 | brk δ=>exact nO l
 | cont δ=>exact nO l
 | exc C δ=>exact nO l
def dR{N:List eT}{x:eT}{i:Nat}(h:N.findIdx? (·==x)=ac i):N[i]?=ac x:=by obtain⟨c,j,_⟩:=ZQ.1 h;simp_all
noncomputable def fR(i j:Int):Bool:=!(bd (tj i>acu)&&bd (tj j>acu)&&adf (tj i+tj j))
noncomputable def mj(_ j:Int):Bool:=bd (0<j)&&bd (j.natAbs.log2<9000)
noncomputable def Hk(i j:Int):Bool:=bd (0<=j)&&bd (j<=1000000)&&bd (i.natAbs<2 ^ 64)
def MY(c:DD X a f)(h:DD X b g):DE X (.BinOp a .Add b pos) (cO i5 f g):=nE Rk Kn c h
def TB(c:DD X a f)(h:DD X b g):DE X (.BinOp a .Sub b pos) (cO (gu (λ_ _=>true) λi j=>.int<|i-j) f g):=nE (AH λ_ _ _ _ _ _ _ q=>sub_int q) (yW λ_ _ _ _=>rfl) c h
def M1(c:DD X a f)(k:DD X b g):DE X (.BinOp a .Mult b pos) (cO (gu fR λi j=>.int<|i*j) f g) :=
 nE (uH λ_ _ _ _ _ _ _ c q=>mul_int q c) (sW (λi j h=>by unfold fR at h;unfold IntMulOk;intro z;rw[z] at h;contradiction) λ_ _ _ _=>rfl) c k
def NO(c:DD X a f)(k:DD X b g):DE X (.BinOp a .FloorDiv b pos) (cO (gu mj λi j=>.int<|i/j) f g) :=
 nE Jv (sW (λi j h=>by unfold mj at h;rw[hF] at h;exact⟨of_decide_eq_true h.1,of_decide_eq_true h.2⟩) λ_ _ _ _=>rfl) c k
def PN(c:DD X a f)(k:DD X b g):DE X (.BinOp a .Mod b pos) (cO (gu (λ_ j=>bd<|0<j) λi j=>.int<|i%j) f g) :=
 nE U9 (sW (λi j h=>of_decide_eq_true h) λ_ _ _ _=>rfl) c k
def LZ(c:DD X a f)(k:DD X b g):DE X (.BinOp a .Pow b pos) (cO (gu Hk λi j=>.int<|i ^ j.toNat) f g) :=
 nE Pc (sW (λi j h=>by unfold Hk at h;rw[hF,hF] at h;exact⟨of_decide_eq_true h.1.1,of_decide_eq_true h.1.2,of_decide_eq_true h.2⟩) λ_ _ _ _=>rfl) c k
def U'(c:X.A.units+64<vv)(h:DD X a f)(j:DD X b g):DT X (.Compare a [.Eq] [b] pos) (eM<|cO (eF false) f g):=mz (C3 c) uk h j<|lK _
def Qn(c:X.A.units+64<vv)(h:DD X a f)(j:DD X b g):DT X (.Compare a [.NotEq] [b] pos) (eM<|cO (eF true) f g):=mz (E1 c) uk h j<|lK _
theorem Nx(c:DD X a f)(h:DD X b g):DT X (.Compare a [.Gt] [b] pos) (eM<|cO (gu (fun _ _=>true) fun i j=>.bl<|bd<|j<i) f g):=mz Qp (yW fun _ _ _ _=>rfl) c h<|lK _
theorem M0(c:DD X a f)(h:DD X b g):DT X (.Compare a [.GtE] [b] pos) (eM<|cO (gu (fun _ _=>true) fun i j=>.bl<|bd<|j<=i) f g):=mz (vp fun _ _ _ _ _ _ _ q=>ge_int q) (yW fun _ _ _ _=>rfl) c h<|lK _
def Om (h:X.N.findIdx? (·==x)=ac i)(j:cc X.env.scope x)(hd:bA x)(c:cG x):DD X (.Name x pos) (cS i):=JX i (dR h) j hd c
def UR (h:X.N.findIdx? (·==x)=ac i)(j:cc X.env.scope x)(hd:bA x)(c:cG x):DE X (.Name x pos) (yL i):=R' i (dR h) j hd c
def v7{x:eT}{e:hQ}{f:EF}{c:z5}{i:Nat}(j:X.N.Nodup)(k:X.N.findIdx? (·==x)=ac i)(l:Loc X.env.scope x)(m:X.fn x=bi\/X.env.scope.names.lookup x=some .local)
 (hs:H9 e (ac<|.Name x c) pos.line X.env=pure false)(h:DE X e f):b8 X (.Assign [.Name x c] e pos) (i6 i f):=(λi j l m n h hs=>by
   obtain⟨t,p,q⟩:=h;refine⟨_,yt j l m p hs n,λH0 ps δ σ H Hi o D e S k=>?_⟩
   obtain⟨r,δ1,u,e⟩:=oB e;obtain⟨δ2,y,e⟩:=oM e;obtain rfl:=sO e;exact q H0 ps δ σ H Hi r δ1 _ u S λv H' g z s' A=>k _ H' g (z.put A y) s') i j (dR k) l m h hs
def Qt (o:X.N.findIdx? (·==x)=ac i)(q:cc X.env.scope x)(hd:bA x)(n:cG x)(s:∀v,aaQ (.Subscript (.Name x j) c pt) X.env v=(do
   let k <-aaj [v] (eval (.Name x j) X.env);let l <-aaj [v,k] (eval c X.env)
   adi pt
   aaj [v,k,l] (aeG k l v)
   release [v,k,l] []))(hs:ab6 [.Subscript (.Name x j) c pt] e pos.line X.env=pure false)(hw:ab7 [.Subscript (.Name x j) c pt] e X.env=pure am)(t:(wd [.Subscript (.Name x j) c pt] X.env).map (·.2)=[aaQ (.Subscript (.Name x j) c pt) X.env])(h:DD X e f)(u:DD X c m):b8 X (.Assign [.Subscript (.Name x j) c pt] e pos) (ni i m f):=OW i (dR o) q h u hd n s hs hw t
abbrev OF:=DS->Option (Option Int×DS)
def PB(X:Cx)(f:OF)(t:TO):Prop:=∀(H0:Hp×Hp) (ps:Nat->Option eH) (δ:DS) (σ:St) (H Hi:Hp) (o:Option Int) (δ':DS) (Q:Option Int->Hp->Prop),f δ=ac (o,δ')->SR X.K H0 ps δ σ H Hi->zQ X.K H0 ps σ Hi (Q o) δ'->t σ H Q
inductive DO (X:Cx) (e:Option hQ) (f:OF):Prop
 | mk (t:TO) (p:PO X e t) (q:PB X f t)
noncomputable def o8:OF:=fun δ=>ac (am,δ)
noncomputable def lA(f:DF):OF:=fun δ=>(f δ).bind λp=>match p.1 with
 | .int i=>ac (ac i,p.2)
 | _=>am
def cutD (xs:List c)(lo h:Option Int):List c:=(xs.drop<|eI xs.length 0 lo).take (eI xs.length xs.length h-eI xs.length 0 lo)
def fD:Dat->Option Int->Option Int->Option Res
 | .L ds,lo,c=>ac (.O<|.L<|cutD ds lo c)
 | .cV ns,lo,c=>ac (.O<|.L<|(cutD ns lo c).map Dat.int)
 | _,_,_=>am
def kB(f:DF)(l h:OF):EF:=fun δ=>(f δ).bind λp=>(l p.2).bind λq=>(h q.2).bind λr=>(fD p.1 q.1 r.1).map λo=>(o,r.2)
def K5(ns)(lo c):lB (ns.map V.int) lo c=(cutD ns lo c).map V.int:=by delta lB cutD;rw[ax,aaA,aaB]
theorem aA.take:∀{ds:List Dat}{vs:List V}(n:Nat),aA K H ds vs->aA K H (ds.take n) (vs.take n)
 | [],_,n,h=>by simp only[show _=[] from h,afG,afG];exact ρ
 | _::_,_,0,c=>by obtain⟨v,r,e,q,t⟩:=c;rw[e];exact ρ
 | _::_,_,n+1,c=>by obtain⟨v,r,e,q,t⟩:=c;exact⟨v,r.take n,by rw[e];rfl,q,aA.take n t⟩
theorem aA.drop:∀{ds:List Dat}{vs:List V}(n:Nat),aA K H ds vs->aA K H (ds.drop n) (vs.drop n)
 | [],_,n,h=>by simp only[show _=[] from h,afH,afH];exact ρ
 | _::_,_,0,h=>h
 | _::_,_,n+1,c=>by obtain⟨v,r,e,q,t⟩:=c;rw[e];exact aA.drop n t
def aA.cut (lo c:Option Int)(r:aA K H ds vs):aA K H (cutD ds lo c) (lB vs lo c):=by delta cutD lB;rw[r.length];exact aA.take _<|aA.drop _ r
def Jk:DO X am o8:=⟨_,JH,λH0 ps δ σ H Hi o δ' Q e S k=>by obtain⟨rfl,rfl⟩:=sP e;exact k H Hi S<|aj.refl _⟩
def S7 (h:DD X e f):DO X (ac e) (lA f):=by
 obtain⟨t,p,q⟩:=h;refine⟨_,T4 p,λH0 ps δ σ H Hi o δ' Q e S k=>?_⟩;obtain⟨d,δ1,j,e⟩:=oB e;dsimp only at e;split at e
 ·obtain⟨rfl,rfl⟩:=sP e;exact q H0 ps δ σ H Hi _ _ _ j S λv l c m s' r=>⟨_,r,k l c m s'⟩
 exact nO e
theorem Qh{f:DF}{l h:OF}{lo C:Option hQ}(I:DD X e f)(hl:DO X lo l)(hh:DO X C h):DE X (.Subscript e (.Slice lo C am p2) pos) (kB f l h):=by
 obtain⟨t,p,q⟩:=I;obtain⟨tl,J,L⟩:=hl;obtain⟨th,M,N⟩:=hh;refine⟨_,OX Mj p J M,λH0 ps δ σ H Hi o δ' Q c S k=>?_⟩;rw[kB] at c;obtain⟨d,δ1,O,c⟩:=oB c;cases s:l δ1 with
 | none=>rw[s] at c;exact nO c
 | some lp =>
  obtain⟨a,δ2⟩:=lp;rw[s] at c;simp only[pR] at c;obtain⟨b,δ3,R,c⟩:=oB c;dsimp only at c;obtain⟨o',u,c⟩:=oM c;cases c;refine q H0 ps δ σ H Hi d δ1 _ O S λv U D V E W=>?_;refine L H0 ps δ1 σ U D a δ2 _ s V λY F Z y=>?_;refine N H0 ps δ2 σ Y F b _ _ R Z λH3 n j A=>?_;have G:=Rep.mono (y.trans A) W;cases d with
  | L ds=>obtain rfl:=sO u;obtain⟨p,vs,rfl,B,rs⟩:=G;refine⟨p,vs,ρ,ι<|Rd.mono j.sub B,λz m=>?_⟩;exact k (.ref z) _ n (j.made m) ((E.trans y).trans A) ⟨z,ρ,⟨_,aV,aA.cut a b rs,j.dg m⟩,(j.bL m).2,(j.bL m).1,j.dJ m⟩
  | cV ns=>obtain rfl:=sO u;obtain⟨p,rfl,B⟩:=G;refine⟨p,_,ρ,cg.mono j.sub B,λz m=>?_⟩;exact k (.ref z) _ n (j.made m) ((E.trans y).trans A) ⟨z,ρ,⟨_,aV,by rw[K5];exact aA.ints _,j.dg m⟩,(j.bL m).2,(j.bL m).1,j.dJ m⟩
  | _=>exact nO u
noncomputable def qM(k:Nat)(p:eH):Nat->Option Addr:=λm=>if m=k then ac p else am
def zD{k:Nat}{p b:eH}(h:gA (qM k p) b):b=p:=by obtain⟨m,z⟩:=h;delta qM at z;simp_all
def Oe{caps:List (Option Nat)}{δ:DS}{H Hi:Hp}{k j:Nat}{p:eH}{c:Dat}(S:SR K H0 ps δ σ H Hi)(t:caps[k]?=ac (ac j))(ep:σ[j]?=ac (ac<|.ref p))(u:cH K H Hi p c) :
  SR K (H,Hi) (qM k p) ((cC caps δ).set k (.io c)) (eO caps σ) H Hi:=by
 have y:k<(cC caps δ).length:=by delta cC;rw[ax];exact (bt.1 t).1
 have other:∀{m:Nat}{s:Slot},m≠k->((cC caps δ).set k (.io c))[m]?=ac s->(cC caps δ)[m]?=ac s:=λ{m s} hm h=>by rwa[n3 (Ne.symm hm)] at h
 have ad1:∀{s:Slot},((cC caps δ).set k (.io c))[k]?=ac s->s=.io c:=λ{s} h=>by rw[ql y] at h;exact (Option.some.inj h).symm
 have n:∀{m:Nat}{d:Dat},(((cC caps δ).set k (.io c))[m]?=ac (.O d)\/((cC caps δ).set k (.io c))[m]?=ac (.io d))->m=k:=λ{m d} h=>by
  by_cases hm:m=k
  ·exact hm
  rcases h with h|h
  ·exact absurd (other hm h) mI.1
  exact absurd (other hm h) mI.2
 refine⟨S.sub,λb o e _=>e,λq l=>?_,λm d e=>?_,λm d e=>?_,λm d e=>?_,λm m' d d' q A B _ _=>(n A).trans (n B).symm,?_,λq o e=>ι e⟩
 ·rw[zD l];obtain⟨⟨o,e⟩,_⟩:=u.some;rw[e];simp
 ·have hm:m≠k:=λz=>by subst z;cases ad1 e
  obtain⟨C,D,E⟩:=B6<|other hm e;obtain⟨v,a,b⟩:=S.D C d E;exact⟨v,ya D a,b⟩
 ·have hm:=n<|ι e;subst hm;cases ad1 e
 ·have hm:=n<|τ e;subst hm;cases ad1 e;exact⟨p,ya t ep,u,by unfold qM;rw[if_pos ρ]⟩
 simp[cC,eO]
theorem IX{caps:List (Option Nat)}{kb j:Nat}{N:TI}{fi:IF}{g:GF}{fc:BF}{fe:DF}
 (qi:∀(H0:Hp×Hp) (ps:Nat->Option eH) (δ:DS) (σ:St) (H Hi:Hp) (items:List Dat) (δ':DS) (R:It->Hp->Prop),fi δ=ac (items,δ')->SR X.K H0 ps δ σ H Hi->(∀J I A,SR X.K H0 ps δ' σ I A->aj Hi A->JW X.K J items A->R J I)->N σ H R)
 (H0:Hp×Hp)(ps:Nat->Option eH)(δ:DS)(σ:St)(H Hi:Hp)(r:Res)(δ':DS)(Q:VK)(h:eV caps (ac (kb,j)) fi g fc fe δ=ac (r,δ'))(S:SR X.K H0 ps δ σ H Hi)
 (k:∀v s z,SR X.K H0 ps δ' σ s z->aj Hi z->RR X.K H0 ps δ' σ s z v r->Q v s):p9 (eO caps) N (kW X.K g) (lX X.K fc) (kY X.K fe) σ H Q:=by
 obtain⟨items,δ1,e1,h⟩:=oB h;dsimp only at h;split at h
 ·rename_i ek;refine qi H0 ps δ σ H Hi items δ1 _ e1 S λJ I A S1 s1 jw=>?_;intro D O;obtain⟨Hi2,M,U⟩:=oR (ac (kb,j)) caps S1;have go:∀(io:Bool) (c:Dat),(bB (ac (kb,j)) caps δ1)[j]?=ac (kindAt io c)->∀(n:List Dat) (t:DS) (c':Dat),compLoop g fc fe items [] ((cC caps<|bB (ac (kb,j)) caps δ1).set kb (.io c))=ac (n,t)->t[kb]?=ac (.io c') ->
    r=.O (.L n)->δ'=(bB (ac (kb,j)) caps δ1).set j (kindAt io c') ->
    ∃W:Nat->Nat->St->Hp->Prop,(∃m,W 0 m (eO caps σ)<|upd I D<|.L [])/\∀i m E s,W i m E s->(J.stop i s/\Q (.ref D) s)\/(J.go i s/\∀x L,J.ny i s x L->kW X.K g x E L λB H2=>lX X.K fc B H2 λb V =>
     if b=bi then kY X.K fe B V λy Y=>∃ys,Y D=ac (.L ys)/\ys.length<eu/\∃F,F<m/\W (i+1) F B (upd Y D<|.L<|ys++[y])
     else ∃F,F<m/\W (i+1) F B V):=by
   intro io c C n t c' u G er ed;subst er;subst ed;obtain⟨p,ep,op⟩:=M.at C;refine DQ (Oe M ek ep op) (by
     delta noOwn;rw[hE];intro s hs;rcases List.mem_or_eq_of_mem_set hs with h|h
     ·exact hE.1 (BO) s h
     rw[h]) O (jw.mono U) u λE s z vs Z sm Vt nb eD ra hd=>?_
   obtain⟨q,_,oq,eq⟩:=Z.io kb c' G;have hq:=zD ⟨kb,eq⟩;subst hq;obtain⟨S3,rr⟩:=M.El (r:=.O<|.L n) C ep (λb o e hb=>Vt b o e λl=>hb<|zD l) sm Z.sub nb oq ⟨D,ρ,⟨vs,eD,ra,hd⟩,O⟩;exact k (.ref D) s z S3 ((s1.trans U).trans sm) rr
  split at h
  ·rename_i c C;cases u:compLoop g fc fe items [] ((cC caps<|bB (ac (kb,j)) caps δ1).set kb (.io c)) with
   | none=>rw[u] at h;exact nO h
   | some q =>
    obtain⟨n,t⟩:=q;rw[u] at h;simp at h;split at h
    ·rename_i c' G;cases h;exact go false c C n t c' u G ρ ρ
    cases h
  ·rename_i c C;cases u:compLoop g fc fe items [] ((cC caps<|bB (ac (kb,j)) caps δ1).set kb (.io c)) with
   | none=>rw[u] at h;exact nO h
   | some q =>
    obtain⟨n,t⟩:=q;rw[u] at h;simp at h;split at h
    ·rename_i c' G;cases h;exact go true c C n t c' u G ρ ρ
    cases h
  exact nO h
 exact nO h
def Mg{NB:List eT}{caps:List (Option Nat)}{scope:aaf}{elt iter k:hQ}{ifs:List hQ}{fi:IF}{g:GF}{fc:BF}{fe:DF}(kb j:Nat)(m:X.calm=bi)(B:jl X.env.scope scope)(l:gP X.N NB scope caps=bi)(n:dy X k iter fi)
 (o:∀(cl:List (eT×eH)) (C:eH) (c:eK) (H:Hp) (h:List eH),DG (cz X NB scope cl C c H h) k g)(q:∀(cl:List (eT×eH)) (C:eH) (c:eK) (H:Hp) (h:List eH),lP (cz X NB scope cl C c H h) ifs fc)
 (s:∀(cl:List (eT×eH)) (C:eH) (c:eK) (H:Hp) (h:List eH),DD (cz X NB scope cl C c H h) elt fe)(hs:∀x,xn iter X.env x=pure x:=by intro _;rfl) :
  DE X (.ListComp elt [⟨k,iter,ifs,0⟩] scope pos) (eV caps (ac (kb,j)) fi g fc fe):=by
 obtain⟨wi,t,u⟩:=n;exact⟨_,DP (tc:=lX X.K fc) m B l t (λcl C c H h=>⟨(o cl C c H h).nj,q cl C c H h,(s cl C c H h).nj⟩) hs,IX u⟩
def kR(d:Dat)(ds:List Dat):Option Nat:=(dj ds).findIdx? λy=>aab y<|toPy d
def AU(K:gW):V->List V->Hp->VK->Prop:=λx vs H Q=>∃Hi ds d y p c j,x=.ref p/\vs=[y]/\aj Hi H/\Rd H p (.L c)/\aA K Hi ds c/\Rep K Hi d y/\bH (.L ds)=bi/\bH d=bi/\kR d ds=ac j/\Q (.int (j:Int)) H
def JT(J:X.A.units+65<vv):pS X "list.index" (AU X.K):=by
 intro pins s σ H x vs v us Q I L M h;obtain⟨Hi,ds,d,y,p,ws,j,rfl,rfl,t,N,rs,O,k,c,R,q⟩:=h;subst L;obtain⟨u,rfl,S⟩:=M.one;obtain⟨z,its,n,l,e⟩:=N.ok I.aq;have k:=n7.1 k;have c:=n7.1 c;obtain⟨as,B⟩:=uP I t (k.1) rs l;obtain⟨bs,U⟩:=jW I t c.1 O S;have k1:=sT k.2;have k2:=sT c.2;have hm:=SeqAt.readsAll_map _ _ _ k1 B;obtain⟨hj,C,D⟩:=ZQ.1 R;have hl:its.length=(dj ds).length:=by simp only[<-hm,ax]
 have get:∀(m:Nat) (h:m<its.toArray.size),abc s.heap its.toArray[m]=(dj ds)[m]'(by simp_all):=λm h=>by
  have a:(its.map<|abc s.heap)[m]?=ac (abc s.heap its.toArray[m]):=by
   rw[ez];have:its[m]?=ac its.toArray[m]:=⋯
   rw[this];rfl
  rw[hm] at a;rw[bg (by rw[<-hl];simpa using h)] at a;exact (Option.some.inj a).symm
 have o:j<its.toArray.size:=by simp_all
 have hz:=l.length;have l63:=l9;refine acq aed ⟨_,e,ρ⟩ F.entry_list_index (F.args_list_index_2 _ _)
  (SeqAt.list_indexAt p its.toArray n am #[] u (λw=>aab (abc s.heap w)<|toPy d) j o ?_ ?_ λm E G=>?_) ⟨e,SeqAt.items_eqAt (by simpa using B) U k1 k2<|abO c.2 J,?_⟩
 lia
 ·rwa[get j o]
 ·rw[get m E];exact qo.2<|D m G
 exact⟨.int (j:Int),H,I.tok _,⟨_,ρ⟩,q⟩
def sy(f:DF)(fa:AF):DF:=fun δ=>(f δ).bind λp=>(fa p.2).bind λq=>match p.1,q.1 with
 | .L ds,[d]=>if bH (.L ds)&&bH d then (kR d ds).map λj:Nat=>(.int (j:Int),q.2) else am
 | _,_=>am
theorem Sl (ho:DD X o f)(E:DA X [e] fa)(F:∀{to:TE}{t:TA},PE X o to->PA X [e] t->PE X (.Call (.Attribute o "index" l) [e] [] pos) (tR X.K "list" (AU X.K) to t)):DD X (.Call (.Attribute o "index" l) [e] [] pos) (sy f fa):=by
 obtain⟨to,G,I⟩:=ho;obtain⟨t,p,q⟩:=E;refine⟨_,F G p,λH0 ps δ σ H Hi d δ' Q h S k=>?_⟩;obtain⟨c,δ1,J,h⟩:=oB h;cases s:fa δ1 with
 | none=>rw[s] at h;exact nO h
 | some ap =>
  obtain⟨as,δ2⟩:=ap;rw[s] at h;dsimp only[pR] at h;split at h
  ·rename_i ds x;split at h
   ·rename_i m;have m:=n7.1 m;obtain⟨j,L,h⟩:=oM h;obtain⟨rfl,rfl⟩:=sP h;refine I H0 ps δ σ H Hi _ δ1 _ J S λv M A B N O=>?_;obtain⟨a,C,rfl,D,rs⟩:=O;refine⟨ι ⟨ρ,C,ι<|Rd.mono B.sub D⟩,q H0 ps δ1 σ M A _ _ _ s B λvs R n u z U=>?_⟩;obtain⟨y,yr,rfl,V,W⟩:=U;subst W;exact⟨n,ds,x,y,a,C,j,ρ,ρ,u.sub,Rd.mono u.sub<|Rd.mono z D,aA.mono z rs,V,m.1,m.2,L,k _ R n u (N.trans z) ρ⟩
   exact nO h
  exact nO h
def a9.T7{x c:eT}{st:ZZ}{f:eH}{l:hU}{N ps:List eT}{k:Nat}{sp:Sp}(F:a9 K x c st f l)(S:br N ps (aK st))(len:∀vs H Q E,sp vs H Q E->vs.length=ps.length)
 (j:∀(h:dk) (A:pk) (outer:List Env) (s:eK) (H:Hp) (vs:List V) (Q:VK) (E:XK),cb k (A.deeper<|aaJ c (aK st) s.heap.objs.size f h)->sp vs H Q E ->
   ∃t,fm (dQ (dP P w) P w K mg base N c (aK st) f h A outer s H E) (fV st) t/\t {nx:=λ_ o=>Q .aF o,rt:=Q} (start N vs) H):aS P w K mg base (dP P w) (k+1) f l ps sp:=by
 obtain⟨oc,od,kV,doc,pm,an,h,ct,osl,rfl,lk,m⟩:=F.ex;exact C2 lk m S len λA outer s H vs Q E q n=>j h A outer s H vs Q E q n
def PS.iA{X:Cx}{st:ZZ}{t:TS}(h:PS X.iA st t):PS X st t:=λc s σ H D I hw =>
 Dt (h c s σ H D (I.jr _) hw) (λ_ _ q=>SP.j7 q) λ_ _ z=>z.elim
inductive iP where
 | ok (r:Res)|exc (C:eH)
abbrev fE:=List Dat->Option iP
def QT(K:gW)(H Hi:Hp)(Q:VK)(E:XK):iP->Prop
 | .ok r=>∀v h c,aj H h->aj Hi c->aj c h->(∀p o,c p=ac o->eR Hi H p o)->RC K H h c v r->Q v h
 | .exc C=>∀a h c,aj H h->aj Hi c->aj c h->(∀p o,c p=ac o->eR Hi H p o)->E (.ref C) (ac a) h
def gS(K:gW)(fn:fE):Sp:=λvs H Q E=>∃Hi ds r,aj Hi H/\aA K Hi ds vs/\fn ds=ac r/\QT K H Hi Q E r
def iG(n:Nat)(f:SF):fE:=λds=>(f<|fK n ds).bind λo=>match o with
 | .next _=>ac (.ok<|.D .aF)
 | .ret r _=>ac (.ok r)
 | .exc C _=>ac (.exc C)
 | _=>am
theorem Vk{x y:eT}{st:ZZ}{f:eH}{I:hU}{N ps:List eT}{k:Nat}{fn:fE}{fb:SF}(F:a9 K x y st f I)(S:br N ps (aK st))(G:∀ds r,fn ds=ac r->ds.length=ps.length)
 (L:∀(B:dk) (A:pk) (outer:List Env) (s:eK) (H:Hp) (E:XK),cb k (A.deeper<|aaJ y (aK st) s.heap.objs.size f B)->fJ (dQ (dP P w) P w K mg base N y (aK st) f B A outer s H E) (fV st) fb)
 (M:∀ds r,fn ds=ac r->iG N.length fb ds=ac r):aS P w K mg base (dP P w) (k+1) f I ps (gS K fn):=by
 refine F.T7 S (λvs H Q E h=>?_)<|λB A outer s H vs Q E O h=>?_
 ·obtain⟨Hi,ds,r,s,rs,e,_⟩:=h;rw[rs.length];exact G ds r e
 obtain⟨Hi,ds,r,R,rs,e,D⟩:=h;obtain⟨t,p,q⟩:=L B A outer s H E O;refine⟨t,p,?_⟩;have u:=M ds r e;obtain⟨o,U,u⟩:=oA u;have nw:∀{δ:DS}{n:St}{m l:Hp},SR K (H,Hi) (λ_=>am) δ n m l->∀p o,l p=ac o->eR Hi H p o:=λj p o e=>j.nw p o e;have kp:∀{δ:DS}{n:St}{m l:Hp},SR K (H,Hi) (λ_=>am) δ n m l->aj H m:=λj b o e=>j.keep b o e<|λ⟨_,z⟩=>by exact nO z
 refine q (H,Hi) (λ_=>am) (fK N.length ds) (start N vs) H Hi o _ U (Bh R rs) ?_;cases o with
 | next δ=>obtain rfl:=sO u;exact λn m l j s'=>D .aF m l (kp j) s' j.sub (nw j) ρ
 | ret V δ =>
  obtain rfl:=sO u;refine λv n m l j s' J=>D v m l (kp j) s' j.sub (nw j) ?_;cases V with
  | D d=>exact J
  | O c=>obtain⟨p,W,o,np,Y,_⟩:=J;exact⟨p,W,o,Y⟩
 | brk δ=>exact nO u
 | cont δ=>exact nO u
 | exc C δ =>
  obtain rfl:=sO u;refine λn m l j s'=>⟨L7 λa=>?_,λa=>Tf ?_⟩
  ·exact D a m l (kp j) s' j.sub<|nw j
  exact D a m l (kp j) s' j.sub<|nw j
structure IK (X:Cx) (x:eT) (sp:Sp):Prop where
 gl:Gl X x
 ex:X.ex=[]
 is:∃(k:Nat) (f:eH) (fd:hU) (pn:List eT),aS X.prog X.w X.K X.mg X.base (dP X.prog X.w) k f fd pn sp/\cb k X.A/\X.mg x=ac (.ref f)/\abA X.K (.ref f)=bi/\Binds X.K fd pn []
noncomputable def mx(C:eH)(fa:AF):SF:=fun δ=>(fa δ).bind λp=>if p.1.length<=eu then ac (.exc C p.2) else am
def JI (z:aeR B c j m)(E:ac7 X.K C m c=bi)(l:X.A.handled=am)(F:Gl X x)(hm:X.mg x=ac (.ref C))(G:DA X (e::es) fa)(n:bA x:=by decide)(I:bC X e es:=by rfl)(s:(Hz k<|ma es X.env).any (·.1)=bv:=by rfl) :
  b8 X (.Raise (ac<|.Call (.Name x y) (e::es) [] k) am pos) (mx C fa):=by
 obtain⟨t,J,q⟩:=G;refine⟨_,Ny z E l F hm J n I s,λH0 ps δ σ H Hi o D h S L=>?_⟩;obtain⟨ds,δ1,M,h⟩:=oB h;split at h
 ·rename_i N;obtain rfl:=sO h;exact q H0 ps δ σ H Hi ds _ _ M S λvs O u Q R U=>⟨by rw[U.length];exact N,(L σ O u Q R).1⟩
 exact nO h
noncomputable def tX(f:SF):SF:=fun δ=>match f δ with
 | some (.exc _ _)=>am
 | o=>o
theorem b8.calm{st:ZZ}{f:SF}(h:b8 X.iA st f):b8 X st (tX f):=by
 obtain⟨t,p,q⟩:=h;refine⟨t,p.iA,λH0 ps δ σ H Hi o D c S k=>?_⟩;unfold tX at c;have j:f δ=ac o/\∀C δ',o≠.exc C δ':=by
  split at c
  ·exact nO c
  rename_i h;exact⟨c,λC δ' z=>h C δ' (by rw[c,z])⟩
 refine q H0 ps δ σ H Hi o D j.1 S ?_;cases o with
 | exc C δ'=>exact absurd ρ (j.2 C δ')
 | _=>exact k
def PE.or (h:PE X e t)(h':PE X e u):PE X e (fun σ H Q=>t σ H Q\/u σ H Q):=λc s σ H Q I q=>q.elim (h c s σ H Q I)<|h' c s σ H Q I
theorem PS.or{X:Cx}{e:ZZ}{t u:TS}(h:PS X e t)(h':PS X e u):PS X e (fun D σ H=>t D σ H\/u D σ H):=fun c s σ H D I q=>q.elim (h c s σ H D I)<|h' c s σ H D I
def PG.or (h:PG X e t)(h':PG X e u):PG X e (λv σ H Q=>t v σ H Q\/u v σ H Q):=λc s σ H v z Q I r q=>q.elim (h c s σ H v z Q I r)<|h' c s σ H v z Q I r
def J3(n:Nat)(t:jA):TG:=λv σ H Q=>∃a xs,v=.ref a/\Rd H a (.L xs)/\xs.length=n/\t xs σ H Q
def Nq (q:X.calm=bi)(h:pj X es t)(y:(wd es X.env).length=n:=by rfl)(j:(wd es X.env).findIdx? (·.1)=am:=by rfl):PG X (.Tuple es k pos) (J3 n t):=by intro c s σ H v u Q I r hw;obtain⟨a,xs,A,B,hl,hw⟩:=hw;subst A;subst r;obtain⟨z,its,m,l,e⟩:=B.ok I.aq;have C:s.heap.IsList a its.toArray:=⟨_,e,ρ,m,ρ⟩;refine ey<|acY ?_;delta unpack;rw[show (wd es X.env).length=its.toArray.size by simp[y,<-hl,l.length],j];refine ey<|sj (W.kun_itemsOf (I.ok.hd q) C λh' D=>?_);have E:=I.kept (t':=s.toks) λb o e=>D b o (ia<|gD e) e;exact h c _ σ H xs _ Q E (l) hw
noncomputable def we(n:Nat)(c:List Dat->DS->Option DS):GF
 | .U ds,δ=>if ds.length=n then c ds δ else am
 | .L ds,δ=>if ds.length=n then c ds δ else am
 | _,_=>am
def Ri (m:X.calm=bi)(h:nu X es l)(o:(wd es X.env).length=n:=by rfl)(c:(wd es X.env).findIdx? (·.1)=am:=by rfl):DG X (.Tuple es k pos) (we n l):=by
 obtain⟨t,p,q⟩:=h;refine⟨_,PG.or (G1 m p o c)<|Nq m p o c,λH0 ps δ σ H Hi d δ' v Q e S r k=>?_⟩;unfold we at e;split at e
 ·split at e
  ·rename_i hl;obtain⟨a,vs,rfl,j,rs⟩:=r;exact ι ⟨a,vs,ρ,bq.mono S.sub j,by rw[rs.length];exact hl,q H0 ps δ σ H Hi _ δ' vs Q e S rs k⟩
  cases e
 ·split at e
  ·rename_i hl;obtain⟨a,vs,rfl,j,rs⟩:=r;exact τ ⟨a,vs,ρ,Rd.mono S.sub j,by rw[rs.length];exact hl,q H0 ps δ σ H Hi _ δ' vs Q e S rs k⟩
  cases e
 exact nO e
noncomputable def EG:Dat->String
 | .aF=>"NoneType" | .bl _=>"bool" | .int _=>"int" | .str _=>"str" | .U _=>"tuple" | .L _=>"list" | .a8 _=>"dict" | .exc _=>"" | .ins _ _=>"" | .cV _=>"" | .adr _=>"" | .dM _=>"" | .fu _=>"" | .aX _ _=>""
noncomputable def vq(T c:String):Bool:=T==c||(T == "bool" && c == "int")
noncomputable def xw:List String:=["tuple","list","str","int","bool"]
def Pe:∀T∈["NoneType","bool","int","str","tuple","list","dict"],∀c∈xw,o4 [] (.type T) (.type c)=ac (vq T c):=by decide +kernel
def mX (h:T∈["NoneType","bool","int","str","tuple","list","dict"])(h':c∈xw):o4 K (.type T) (.type c)=ac (vq T c):=by rw[<-Pe T h c h'];rfl
noncomputable def isExc:Dat->Bool
 | .exc _=>true
 | .ins _ _=>true
 | .cV _=>true
 | .adr _=>true
 | .dM _=>true
 | .fu _=>true
 | .aX _ _=>true
 | _=>false
def qY(d:Dat)(T:String):Option Bool:=if isExc d=bv/\T∈xw then ac (vq (EG d) T) else am
def TZ(K:gW):List V->Hp->VK->Prop:=λxs H Q=>∃Hi d x T b,xs=[x,.ty T]/\aj Hi H/\Rep K Hi d x/\qY d T=ac b/\Q (.bl b) H
theorem Qg:bD X (.builtin "isinstance") (TZ X.K):=by
 intro D s σ H xs us Q I r h;obtain⟨Hi,d,x,T,b,rfl,E,k,e,q⟩:=h;obtain⟨u,c,rfl,m,F⟩:=r.two;subst F;delta qY at e;split at e
 case isFalse=>exact nO e
 case isTrue hh =>
  obtain rfl:=sO e;obtain⟨hx,A⟩:=hh;have j:∀tk,EP X D σ Q (.bool<|vq (EG d) T) {s with toks:=tk}:=λtk=>⟨.bl _,H,I.tok _,ρ,q⟩;cases d with
  | aF=>subst k;subst m;exact aa8 aeM I.d9 aao (mX ⋯ A) (λz=>nomatch z) j
  | bl y=>subst k;subst m;exact aa8 W.kitx_bool I.d9 aao (mX ⋯ A) (λz=>nomatch z) j
  | int i=>subst k;obtain⟨t,rfl⟩:=m;exact aa8 W.kitx_int I.d9 aao (mX ⋯ A) (λz=>nomatch z) j
  | str y=>subst k;obtain⟨t,rfl⟩:=m;exact aa8 W.kitx_str I.d9 aao (mX ⋯ A) (λz=>nomatch z) j
  | U ds=>obtain⟨p,vs,rfl,G,_⟩:=k;cases m;obtain⟨its,_,⟨o,B,J,_⟩,_⟩:=I.tuple<|bq.mono E G;exact aa8 W.kitx_tuple I.d9 ⟨o,B,J⟩ (mX ⋯ A) (λz=>nomatch z) j
  | L ds=>obtain⟨p,vs,rfl,G,_⟩:=k;cases m;obtain⟨z,its,n,_,B⟩:=(Rd.mono E G).ok I.aq;exact aa8 W.kitx_list I.d9 ⟨_,B,ρ⟩ (mX ⋯ A) (λz=>nomatch z) j
  | a8 L=>obtain⟨p,kvs,rfl,M,_⟩:=k;cases m;obtain⟨_,_,ws,_,o,es,ep,B,J,_⟩:=I.aq p _<|E _ _ M;exact aa8 W.kitx_dict I.d9 ⟨o,B,J.1⟩ (mX ⋯ A) (λz=>nomatch z) j
  | exc C=>contradiction
  | ins C fs=>contradiction
  | cV ns=>contradiction
  | adr p=>contradiction
  | dM l=>contradiction
  | fu L=>contradiction
  | aX fz L=>contradiction
def mJ(T:String)(f:DF):DF:=fun δ=>(f δ).bind λp=>(qY p.1 T).map λb=>(.bl b,p.2)
def yp (y:DD X e f)(m:Gl X "isinstance")(n:X.mg "isinstance"=am)(o:Gl X h)(s:X.mg h=am)(z:ZL h=ac (.type T))(A:h≠"__name__":=by decide)(hd:bA h:=by decide)(hs:bC X e [.Name h q]:=by rfl):DD X (.Call (.Name "isinstance" p) [e,.Name h q] [] pos) (mJ T f):=by obtain⟨t,B,C⟩:=y;refine⟨_,jO Qg m n (by decide +kernel) (bX B (bX (CH (v:=.ty T) o s z ρ A hd) dW ρ) hs) ⋯ ρ hs ρ,λH0 ps δ σ H Hi d δ' Q j S k=>?_⟩;obtain⟨c,δ1,D,j⟩:=oB j;obtain⟨b,E,j⟩:=oM j;obtain⟨rfl,rfl⟩:=sP j;exact C H0 ps δ σ H Hi c _ _ D S λv F l u G I=>⟨l,c,v,T,b,ρ,u.sub,I,E,k _ F l u G ρ⟩
def Lk(K:gW):List V->Hp->VK->Prop:=λxs H Q=>∃Hi C x c u b,xs=[x,c]/\RelV c u/\aj Hi H/\Rep K Hi (.exc C) x/\jk K C/\o4 K (.ref C) u=ac b/\Q (.bl b) H
theorem M'(m:PySem.Slot "ValueError" "__getattribute__" "BaseException.__getattribute__"):bD X (.builtin "isinstance") (Lk X.K):=by
 intro pins s σ H xs us Q I r h;obtain⟨Hi,C,x,c,u,b,rfl,j,n,⟨a,rfl,o⟩,k,e,q⟩:=h;obtain⟨xv,y,rfl,A,l⟩:=r.two;subst A;have B:y=u:=by
  cases c with
  | ref z=>subst l;subst j;rfl
  | ty z=>subst l;subst j;rfl
  | aF=>subst l;subst j;rfl
  | bl z=>subst l;subst j;rfl
  | _=>obtain⟨t,z⟩:=j;subst z;exact absurd e (by dsimp only[o4,W.kitCls];simp)
 subst B;obtain⟨D,_,_⟩:=(I.aq a _<|n _ _ o);exact aa8 (C7 k m) I.d9 D e (fun z=>nomatch z) fun tk=>⟨.bl _,H,I.tok _,ρ,q⟩
def pf(neg:Bool):R2:=λy x H Q=>∃a o,x=.ref a/\gJ H a y o/\Q (.bl (if neg then !o.isSome else o.isSome)) H
def xJ(c:X.A.units+1<vv):bc X (o5 .In) (pf false):=by intro pins s σ H x y v u Q I j k h;obtain⟨a,o,rfl,g,q⟩:=h;subst k;exact Pz c I g j λs' l=>⟨.bl _,H,l,ρ,q⟩
def Cc(c:X.A.units+1<vv):bc X (o5 .NotIn) (pf true):=by intro pins s σ H x y v u Q I j k h;obtain⟨a,o,rfl,g,q⟩:=h;subst k;exact Su c I g j λs' l=>⟨.bl _,H,l,ρ,q⟩
def MI:bD X (.type "dict") (λxs H Q=>∃a kvs,xs=[.ref a]/\Rd H a (.dK kvs)/\∀p,H p=am->Q (.ref p) (upd H p<|.dK kvs)):=by intro pins s σ H xs us Q I r h;obtain⟨a,kvs,rfl,c,q⟩:=h;obtain⟨u,rfl,j⟩:=r.one;subst j;exact IQ I c λp s' k l=>⟨.ref p,_,l,ρ,q p k⟩
noncomputable def ck(c:List (eT×Dat))(k:eT):Option Dat:=(c.find? λp=>bd<|p.1=k).map (·.2)
def ku(c:List (eT×Dat))(k:eT)(d:Dat):List (eT×Dat):=if (ck c k).isSome=bi then c.map (λp=>if p.1=k then (p.1,d) else p) else c++[(k,d)]
theorem bN.find:∀{c:List (eT×Dat)}{kvs:List (Key×V)}(k:eT),bN K H c kvs->(∀d,ck c k=ac d->∃v,fF kvs (pl k)=ac v/\Rep K H d v)/\(ck c k=am->fF kvs (pl k)=am)
 | [],_,k,h=>by rw[show _=[] from h];exact⟨λd z=>by simp[ck] at z,λ_=>rfl⟩
 | (j,d')::c,_,k,n=>by
  obtain⟨v,r,e,q,t⟩:=n;rw[e];obtain⟨a,b⟩:=bN.find k t;by_cases l:j=k
  ·subst l;have m:ck ((j,d')::c) j=ac d':=by simp[ck]
   rw[m,qC ρ];exact⟨λd z=>⟨v,ρ,by obtain rfl:=sO z;exact q⟩,λz=>by contradiction⟩
  have m:ck ((j,d')::c) k=ck c k:=by simp[ck,l]
  rw[m,qS (by simpa using l)];exact⟨a,b⟩
theorem bN.has (k:eT)(h:bN K H c kvs):(fF kvs<|pl k).isSome=(ck c k).isSome:=by
 obtain⟨a,b⟩:=h.find k;cases e:ck c k with
 | none=>rw[b e];rfl
 | some d=>obtain⟨v,j,_⟩:=a d e;rw[j];rfl
theorem bN.jj:∀{c:List (eT×Dat)}{kvs:List (Key×V)}(k:eT) {d:Dat}{v:V},bN K H c kvs->Rep K H d v->bN K H (c.map λp=>if p.1=k then (p.1,d) else p) (kvs.map λp=>if p.1=pl k then (p.1,v) else p)
 | [],_,k,_,_,h,_=>by simp only[show _=[] from h];exact ρ
 | (m,d')::c,_,k,d,v,n,j=>by
  obtain⟨w,r,e,q,t⟩:=n;rw[e,mA,mA];by_cases l:m=k
  ·subst l;rw[if_pos ρ,if_pos ρ];exact⟨v,_,ρ,j,bN.jj m t j⟩
  rw[if_neg l,if_neg (by simpa using l)];exact⟨w,_,ρ,q,bN.jj k t j⟩
theorem bN.snoc:∀{j:List (eT×Dat)}{kvs:List (Key×V)}(k:eT) {d:Dat}{v:V},bN K H j kvs->Rep K H d v->bN K H (j++[(k,d)]) (kvs++[(pl k,v)])
 | [],_,k,_,v,h,c=>by rw[show _=[] from h];exact⟨v,[],ρ,c,ρ⟩
 | (_,_)::_,_,k,_,_,l,c=>by obtain⟨w,r,e,q,t⟩:=l;exact⟨w,r++_,by rw[e];rfl,q,bN.snoc k t c⟩
def bN.put (k:eT)(h:bN K H c kvs)(j:Rep K H d v):bN K H (ku c k d) (putK kvs (pl k) v):=by
 delta ku putK;rw[u2,h.has k];split
 ·exact h.jj k j
 exact h.snoc k j
def cy:Dat->Dat->Option Dat
 | .a8 h,.str k=>ck h k
 | c,n=>qf c n
def pZ(f g:DF):DF:=fun δ=>(f δ).bind λp=>(g p.2).bind λq=>(cy p.1 q.1).map λd=>(d,q.2)
def mS(i:Nat)(g:DF):DF:=fun δ=>((δ[i]?).bind f').bind λ_=>(g δ).bind λq=>((q.2[i]?).bind f').bind λc=>(cy c q.1).map λd=>(d,q.2)
theorem ME (i:Nat)(R:X.A.units+1<vv)(C:X.N[i]?=ac x)(D:cc X.env.scope x)(U:DD X b g)(hs:kZ b)(hd:bA x:=by decide)(q:cG x:=by decide):DD X (.Subscript (.Name x O) b pos) (mS i g):=by
 obtain⟨tb,E,F⟩:=U;refine⟨_,PE.or (oO AI (eG C D hd q) E hs)<|uL R (eG C D hd q) E hs,λH0 ps δ σ H Hi d δ' Q e S k=>?_⟩;obtain⟨c0,V,e⟩:=oA e;obtain⟨n,δ2,G,e⟩:=oB e;obtain⟨c,I,e⟩:=oA e;dsimp only at e;cases m:cy c n with
 | none=>rw[m] at e;exact nO e
 | some d' =>
  rw[m] at e;cases e;obtain⟨J,a0,_⟩:=S.peek V;by_cases hd:∃L o,c=.a8 L/\n=.str o
  ·obtain⟨L,o,rfl,rfl⟩:=hd;refine τ ⟨J,a0,F H0 ps δ σ H Hi _ _ _ G S λy s h j t u=>?_⟩;obtain⟨W,l,z⟩:=j.peek I;rw[a0] at l;cases l;obtain⟨p,kvs,rfl,Y,Z⟩:=z;subst u;obtain⟨v,ev,B⟩:=(Z.find o).1 d m;refine⟨p,v,ρ,?_,k v s h j t B⟩;rw[<-ev];exact gJ.k (k:=pl o) Y
  have M:qf c n=ac d:=by delta cy at m;simp_all
  refine ι ⟨J,a0,F H0 ps δ σ H Hi _ _ _ G S λy s h j t u=>?_⟩;obtain⟨W,l,z⟩:=j.peek I;rw[a0] at l;cases l;exact DH z u M λv B=>k v s h j t B
def fx(neg:Bool):Dat->Dat->Option Res
 | .str k,.a8 c=>ac (.D<|.bl (if neg then !(ck c k).isSome else (ck c k).isSome))
 | .str k,.fu c=>ac (.D<|.bl (if neg then !(ck c k).isSome else (ck c k).isSome))
 | d,e=>vM neg d e
def xh:fW X (λx y H Q=>nK X.K neg x y H Q\/pf neg x y H Q) (fx neg):=by
 intro H0 ps δ σ H Hi x y d d' o Q e S h j k;delta fx at e;split at e
 ·cases e;rename_i c n;cases h;obtain⟨p,kvs,rfl,l,m⟩:=j;refine τ ⟨p,_,ρ,gJ.k (k:=pl c)<|S.sub _ _ l,?_⟩;rw[m.has c];exact k _ H Hi S (aj.refl _) ρ
 ·cases e;rename_i c n;cases h;obtain⟨p,ob,kvs,rfl,l,m⟩:=j;refine τ ⟨p,_,ρ,ι ⟨kvs,pl c,τ ⟨ob,S.sub _ _ l⟩,ρ,ρ⟩,?_⟩;rw[m.has c];exact k _ H Hi S (aj.refl _) ρ
 exact ι<|Ud H0 ps δ σ H Hi x y _ _ o Q e S h j k
def Gc(c:X.A.units+65<vv):bc X (o5 .In) (λx y H Q=>nK X.K false x y H Q\/pf false x y H Q):=bc.or (R1 c)<|xJ (by lia)
noncomputable def DL:List Dat->Option Res
 | [.a8 c]=>ac (.O<|.a8 c)
 | _=>am
def OE:CD X (λxs H Q=>∃a kvs,xs=[.ref a]/\Rd H a (.dK kvs)/\∀p,H p=am->Q (.ref p) (upd H p<|.dK kvs)) DL:=by
 intro H0 ps δ σ H Hi vs ds o Q e S r k;delta DL at e;split at e
 ·obtain rfl:=sO e;obtain⟨v,vr,rfl,⟨p,kvs,rfl,h,j⟩,l⟩:=r;subst l;refine⟨p,kvs,ρ,Rd.of<|S.sub _ _ h,λq c=>?_⟩;exact k (.ref q) _ Hi (S.made c) (aj.refl _) ⟨q,ρ,⟨kvs,aV,j,S.dg c⟩,(S.bL c).2,(S.bL c).1,S.dJ c⟩
 exact nO e
end
section
variable{X:Cx}{pos:z5}{e:hQ}{es:List hQ}
theorem HR (a):∀(n:Nat) (b:Array c),(zc n a).foldl (λx y=>x++y) b=b++(zc n a.toList).flatten.toArray
 | 0,b=>⋯
 | n+1,b=>by rw[aeq,aa',HR a n,aeq,List.flatten_cons,aeu];congr 1;apply Array.ext';simp
theorem wt{f g:Type}{R:List f->List g->Prop}(i:R [] [])(j:∀{a b c d},R a b->R c d->R (a++c) (b++d)){a:List f}{b:List g}(h:R a b):∀n,R (zc n a).flatten (zc n b).flatten
 | 0=>i
 | n+1=>j h<|wt i j h n
theorem L9 (p:aaz R a b)(h:aaz R c d):aaz R (a++c) (b++d):=by
 induction p with
 | nil=>exact h
 | cons r _ i=>exact .cons r i
def Av:R2:=λx y H Q=>∃l xs n,x=.ref l/\y=.int n/\Rd H l (.L xs)/\(0<=n/\n<=2/\xs.length<=1000)/\∀p,H p=am->Q (.ref p) (upd H p<|.L (zc n.toNat xs).flatten)
noncomputable def Gj(x:eT):It:=⟨λi _=>i<x.cps.size,λi H v a=>a=H/\∃c,x.cps[i]?=ac c/\v=.str ⟨#[c]⟩,λi _=>x.cps.size<=i⟩
theorem N9{P:lq}{w:qh}{K:gW}{D:hQ}(x:eT)(t:Tok)(it:eH):Turn P w K D (Gj x) [it] it (fun i h=>h.IsStrIter it "str_ascii_iterator" x t i) where
 mem:=⋯
 obj:=fun i h st b a=>by
  have e:b=it:=by simpa using a
  subst e;obtain⟨o,e,c,d⟩:=st;exact⟨o,e,fun v z=>by rw[d] at z;contradiction⟩
 keep:=fun i h h' st k=>by obtain⟨o,e,c,d⟩:=st;exact⟨o,k it ⋯ o e,c,d⟩
 item:=by intro X l hw m A i f s B H E I g st n;obtain⟨p,q,F,r,u,y⟩:=g it ⋯;have C:=me n;refine wpAny_pyNext_ascii_item st C fun h' j G=>?_;have J:Inv X f B H {s with heap:=h',toks:=s.toks+1}:=I.turned (fun b o a e=>(G.2 b a).trans e) p q r u y;obtain⟨o,e,c,d⟩:=id j;exact⟨_,ρ,oV e c d ρ ⟨.str ⟨#[x.cps[i]]⟩,H,J,⟨_,ρ⟩,⟨ρ,_,C,ρ⟩,j,fun b a=>(g b a).1⟩⟩
 done:=by intro X l hw m A i f s B H E I g st n;obtain⟨p,q,F,r,u,y⟩:=g it ⋯;exact wpAny_pyNext_ascii_end (I.ok.hd A) st (adP n) fun h' L=>⟨ρ,I.turned (fun b o a e=>L b o a e) p q r u y⟩
 self:=fun _ _ _ _ _ st h=>wpAny_pyIter_striter_ascii st h
def Ss(te:TE):TI:=λa H R=>te a H λv b=>∃x,v=.str x/\x.cps.all (·<128)=bi/\R (Gj x) b
theorem OP{f e:hQ}{te:TE}(g:PE X e te):PI X f e (Ss te):=by refine fun c s i H R I h=>aI (g c s i H _ I h) fun v a f=>?_;obtain⟨y,j,d,k,l⟩:=f;obtain⟨x,rfl,m,q⟩:=l;obtain⟨t,rfl⟩:=k;refine wpAny_pyIter_ascii m ⟨a.heap.objs.size,[a.heap.objs.size],_,_,j,ρ,d.kept fun b o e=>fA _ e,N9 x t _,⟨_,lD _ ρ,ρ,ρ⟩,fun b n=>?_,q⟩;rw[show b=a.heap.objs.size by simpa using n];exact d.mi (ft _)<|d.aq.fresh<|ft _
theorem Ci:∀{ys:List eT}{us:List dk},aJ (ys.map V.str) us->ab1 us ys
 | [],_,h=>by cases h;exact .nil
 | y::ys,_,h=>by
  cases h with
  | cons r t=>obtain⟨tk,rfl⟩:=r;exact .cons _ _<|Ci t
theorem zA:∀{bs:List Bool}{us:List dk},aJ (bs.map V.bl) us->us=bs.map P'
 | [],_,h=>by cases h;rfl
 | b::bs,_,h=>by
  cases h with
  | cons r t =>
   cases (r);rw[zA t];rfl
theorem QS(bs:List Bool):((hM bs.length).all λi=>(bs[i]?).getD true)=bs.all id:=by
 induction bs with
 | nil=>rfl
 | cons b r a=>simp only[gk,adU,adE,adW,adE,<-a];rfl
def Sa(g:X.calm=bi):bD X (.builtin "all") (λxs H Q=>∃(p:eH) (bs:List Bool),xs=[.ref p]/\Rd H p (.L<|bs.map V.bl)/\Q (.bl<|bs.all id) H):=by
 intro pins s σ H xs us Q I r h;obtain⟨p,bs,rfl,j,q⟩:=h;obtain⟨u,rfl,k⟩:=r.one;subst k;obtain⟨z,its,n,l,e⟩:=j.ok I.aq;have c:=zA l;subst c;have d:s.heap.IsList p (bs.map P').toArray:=⟨_,e,ρ,n,ρ⟩;have m:p<s.heap.objs.size:=gD e;refine call_all_walk (aas d ⟨s.heap.objs.size,[s.heap.objs.size,p],[s.heap.objs.size],(bs.map P').toArray.size,_,_,λi=>(bs[i]?).getD true,ρ,
  Walks.list (A:=X.A.in1) (I.ok.hd g) _ p (ia m) (bs.map P').toArray,⟨⟨_,lD _ ρ,ρ,ρ⟩,d.push _⟩,λi v s' Q' E' a f=>?_,λh' tk o=>?_⟩)
 ·have a:(bs.map P')[i]?=ac v:=by simpa using a
  rw[ez] at a;obtain⟨b,c,a⟩:=oM a;obtain rfl:=sO a;simp[c] at f;exact T' f
 have t:(hM (bs.map P').toArray.size).all (λi=>(bs[i]?).getD true)=bs.all id:=by rw[kq,ax];exact QS bs
 rw[t];refine⟨.bl _,H,?_,ρ,q⟩;exact I.kept λb x ex=>o b x (λhm=>by rw[kH.1 hm] at ex;exact zd _<|gD ex)<|fA _ ex
noncomputable def alt (f g:c->Option d):c->Option d:=λa=>match f a with
 | some b=>ac b
 | none=>g a
def yb (h:alt f g a=ac b):f a=ac b\/g a=ac b:=by delta alt at h;split at h;simp_all;exact τ h
theorem DE.alt (h:DE X e f)(h':DE X e g):DE X e (alt f g):=by obtain⟨t,p,q⟩:=h;obtain⟨t',j,l⟩:=h';exact⟨_,PE.or p j,λa b δ c H i d δ' Q e S k=>(yb e).elim (λe=>ι<|q a b δ c H i d δ' Q e S k) λe=>τ<|l a b δ c H i d δ' Q e S k⟩
theorem b8.alt{st:ZZ}{f g:SF}(h:b8 X st f)(h':b8 X st g):b8 X st (alt f g):=by obtain⟨t,p,q⟩:=h;obtain⟨t',i,j⟩:=h';exact⟨_,PS.or p i,λa b δ c H d o D e S k=>(yb e).elim (λe=>ι<|q a b δ c H d o D e S k) λe=>τ<|j a b δ c H d o D e S k⟩
theorem dy.alt (h:dy X a iter f)(h':dy X a iter g):dy X a iter (alt f g):=by obtain⟨t,p,q⟩:=h;obtain⟨t',j,l⟩:=h';exact⟨_,PI.or p j,λb c δ d H i items δ' R e S k=>(yb e).elim (λe=>ι<|q b c δ d H i items δ' R e S k) λe=>τ<|l b c δ d H i items δ' R e S k⟩
noncomputable def xT:Dat->Dat->Option Res
 | .L xs,.int n=>if 0<=n/\n<=2/\xs.length<=1000 then ac (.O<|.L (zc n.toNat xs).flatten) else am
 | _,_=>am
theorem Fy{K:gW}{H:Hp}:∀{a:List Dat}{b:List V}{c:List Dat}{d:List V},aA K H a b->aA K H c d->aA K H (a++c) (b++d)
 | [],_,_,_,h,h'=>by cases (h);exact h'
 | _::_,_,_,_,f,h'=>by obtain⟨v,r,e,p,q⟩:=f;subst e;exact⟨v,_,ρ,p,Fy q h'⟩
def K2:fW X Av xT:=by
 intro H0 ps δ σ H b x y d d' o Q e S c f k;delta xT at e;split at e
 ·split at e
  ·rename_i g;obtain rfl:=sO e;obtain⟨p,vs,rfl,h,rs⟩:=c;subst f;refine⟨p,vs,_,ρ,ρ,Rd.mono S.sub h,by rw[rs.length];exact g,λq a=>?_⟩;exact k (.ref q) _ b (S.made a) (aj.refl _) ⟨q,ρ,⟨_,aV,wt (R:=aA _ _) ρ Fy rs _,S.dg a⟩,(S.bL a).2,(S.bL a).1,S.dJ a⟩
  exact nO e
 exact nO e
def Rv (c:DD X a f)(d:DD X b g):DE X (.BinOp a .Mult b pos) (cO xT f g):=nE (by
  intro pins s σ H x y v u Q I b c h;obtain⟨l,xs,n,rfl,rfl,d,f,q⟩:=h;subst b;obtain⟨tk,rfl⟩:=c;obtain⟨z,its,k,r,e⟩:=d.ok I.aq;have hl:=r.length;have hsz:its.toArray.size*n.toNat<=sizeLine:=by exact px (Nat.mul_le_mul (hl ▸ f.2.2) (show n.toNat<=2 by lia)) ⋯
  refine wpAny_binaryOp_repeat_ref ⋯ ⟨_,e,ρ⟩ (λs'=>afv s' n tk) noFill_list_mul
   F.fills_int_mul afP repeat_list F.slot_int_index.lookup ?_
  refine acq afP (afv s n tk) F.entry_int_rmul (F.args_int_rmul_2 _ _) (int___rmul___int_list n tk l its.toArray k) ⟨e,ρ,⟨_,e,ρ⟩,?_⟩;refine acq F.slot_list_mul ⟨_,e,ρ⟩ F.entry_list_mul (F.args_list_mul_2 _ _)
   (AutoListH.list___mul___list_int_3 l its.toArray k n tk (by simp[agu];lia) (by rw[KX] at hsz;lia) (by simp only[agt];simpa using hsz)) ⟨e,?_⟩
  have g:(agF (λi j=>i++j) #[] (zc (if its.toArray.isEmpty=bi then 0 else n.toNat) its.toArray))=(zc n.toNat its).flatten.toArray:=by
   rw[HR];split
   ·rename_i h;have:its=[]:=by simpa using h
    subst this;simp
   simp
  rw[g];have a:=wt .nil L9 r n.toNat;refine⟨.ref _,_,I.zo a ?_,ρ,q _ I.fresh⟩;rwa[a.length,List.length_flatten,List.map_replicate,List.sum_replicate_nat,Nat.mul_comm]) K2 c d
noncomputable def kh(f:DF):IF:=fun δ=>(f δ).bind λp=>match p.1 with
 | .str x=>if x.cps.all (·<128)=bi then ac (x.cps.toList.map λc=>.str ⟨#[c]⟩,p.2) else am
 | _=>am
def SE (h:DD X e f):dy X l e (kh f):=by
 obtain⟨t,p,q⟩:=h;refine⟨_,OP p,λm n δ o H r items δ' R a S k=>?_⟩;obtain⟨c,δ1,s,a⟩:=oB a;dsimp only at a;split at a
 ·rename_i x;split at a
  ·rename_i u;obtain⟨rfl,rfl⟩:=sP a;refine q m n δ o H r _ _ _ s S λv w g z A B=>?_;subst B;refine⟨x,ρ,u,k _ w g z A λi H' sm=>⟨λd hd=>?_,λhl=>?_⟩⟩
   ·rw[ez,hH] at hd;obtain⟨c,j,hd⟩:=oM hd;obtain rfl:=sO hd;refine⟨(Cs.1 j).1,λv H2 y=>ι ?_⟩;obtain⟨C,c',b,D⟩:=y;rw[j] at b;obtain rfl:=sO b;exact⟨C,D⟩
   show x.cps.size<=i;simpa using hl
  exact nO a
 exact nO a
noncomputable def dq:List Dat->Option (List eT)
 | []=>ac []
 | .str x::r=>(dq r).map (x::·)
 | _::_=>am
theorem jU{K:gW}{H:Hp}:∀{ds:List Dat}{vs:List V}{ys:List eT},dq ds=ac ys->aA K H ds vs->vs=ys.map V.str
 | [],_,_,e,r=>by obtain rfl:=sO e;exact r
 | d::ds,_,_,e,a=>by
  obtain⟨v,vr,b,c,rs⟩:=a;cases d with
  | str x=>obtain⟨ys',f,e⟩:=oM e;obtain rfl:=sO e;simp only[b,jU f rs];subst c;rfl
  | _=>exact nO e
def rP(sep:eT)(f:DF):DF:=fun δ=>(f δ).bind λp=>match p.1 with
 | .L ds=>(dq ds).bind λys=>if sep.length<=16/\(ys.map (·.length)).sum+ys.length<=1048576 then ac (.str<|abU sep ys,p.2) else am
 | _=>am
def Lj (h:DD X e f)(r:∀{t:TA},PA X [e] t->PE X (.Call (.Attribute (.Constant (.str sep) j i) "join" g) [e] [] pos) (tR X.K "str" (λx vs H Q=>∃(sep:eT) (p:eH) (ys:List eT),x=.str sep/\vs=[.ref p]/\Rd H p (.L<|ys.map V.str)/\sep.length<=16/\(ys.map (·.length)).sum+ys.length<=1048576/\Q (.str<|abU sep ys) H) (tC<|.str sep) t))(hs:bC X e []:=by rfl):DD X (.Call (.Attribute (.Constant (.str sep) j i) "join" g) [e] [] pos) (rP sep f):=by
 obtain⟨t,p,q⟩:=h;refine⟨_,r<|bX p dW hs,λs u δ w H y d δ' Q b S k=>?_⟩;obtain⟨c,δ1,z,b⟩:=oB b;dsimp only at b;split at b
 ·obtain⟨ys,A,b⟩:=oA b;split at b
  ·rename_i l;obtain⟨rfl,rfl⟩:=sP b;refine⟨ρ,q s u δ w H y _ _ _ z S λv B m n C D=>?_⟩;obtain⟨a,vs,rfl,o,rs⟩:=D;rw[jU A rs] at o;exact⟨sep,a,ys,ρ,ρ,Rd.mono n.sub o,l.1,l.2,k _ B m n C ρ⟩
  exact nO b
 exact nO b
noncomputable def jN:List Dat->Option (List Bool)
 | []=>ac []
 | .bl x::r=>(jN r).map (x::·)
 | _::_=>am
theorem ye{K:gW}{H:Hp}:∀{ds:List Dat}{vs:List V}{ys:List Bool},jN ds=ac ys->aA K H ds vs->vs=ys.map V.bl
 | [],_,_,e,r=>by obtain rfl:=sO e;exact r
 | d::ds,_,_,e,a=>by
  obtain⟨v,vr,b,c,rs⟩:=a;cases d with
  | bl x=>obtain⟨ys',f,e⟩:=oM e;obtain rfl:=sO e;simp only[b,ye f rs];subst c;rfl
  | _=>exact nO e
def n5:List Dat->Option Res
 | [.L ds]=>(jN ds).map λbs=>.D (.bl<|bs.all id)
 | _=>am
def pI(i:Nat)(b f:DF):SF:=fun δ=>(f δ).bind λp=>((p.2[i]?).bind ownOf).bind λ_=>(b p.2).bind λq=>((q.2[i]?).bind ownOf).bind λs=>match s.2,q.1 with
 | .a8 a,.str k=>if a.length<eu then ac (.next<|q.2.set i<|kindAt s.1<|.a8<|ku a k p.1) else am
 | _,_=>am
theorem RP (i:Nat)(L:X.A.units+1<vv)(M:X.N[i]?=ac x)(O:cc X.env.scope x)(h:DD X e f)(P:DD X l u)(hd:bA x:=by decide)(w:cG x:=by decide)(hs:H9 e (ac<|.Subscript (.Name x s) l pt) pos.line X.env=pure false:=by rfl):b8 X (.Assign [.Subscript (.Name x s) l pt] e pos) (pI i u f):=by
 obtain⟨t,p,q⟩:=h;obtain⟨tk,Q,R⟩:=P;refine⟨_,Fd L (eG M O hd w) Q p hs,λz B δ m H T o D e S k=>?_⟩;obtain⟨d,δ1,U,e⟩:=oB e;obtain⟨b0,c0,V,e⟩:=oB e;obtain⟨n,δ2,W,e⟩:=oB e;dsimp only at e;cases g:(δ2[i]?).bind ownOf with
 | none=>rw[g] at e;exact nO e
 | some j =>
  obtain⟨io,c⟩:=j;simp only[g] at e;dsimp only[pR] at e;split at e
  ·rename_i ks C;split at e
   ·rename_i Y;obtain rfl:=sO e;refine q z B δ m H T d δ1 _ U S λv Z E F s1 r1=>?_;obtain⟨a,r,_⟩:=F.at<|kD V;refine⟨.ref a,r,R z B δ1 m Z E _ δ2 _ W F λy H2 G I j r2=>?_⟩;subst r2;obtain⟨b,J,ob⟩:=I.at<|kD g;rw[r] at J;cases J;obtain⟨kvs,h1,K,h3⟩:=ob;refine⟨a,_,ρ,kJ.k (k:=pl C) h1 (by rw[bN.length K];exact Y),?_⟩;exact k m _ G (I.write (kD g) r ⟨_,aV,bN.put C K<|Rep.mono j r1,h3⟩)<|s1.trans j
   exact nO e
  exact nO e
structure vo (X:Cx) (pre:List ZZ) (f:SF):Prop where
 ex:∀(rest:List ZZ) (u:TS),fm X rest u->∃t,fm X (pre++rest) t/\∀(H0:Hp×Hp) (ps:Nat->Option eH) (δ:DS) (σ:St) (H Hi:Hp) (o:Out) (D:Ends),f δ=ac o->SR X.K H0 ps δ σ H Hi->mF X H0 ps Hi {D with nx:=fun σ' H'=>u D σ' H'} o->t D σ H
def DV:vo X [] lE:=⟨λrest u h=>⟨u,h,λH0 ps δ a H b o D e S k=>by obtain rfl:=sO e;exact k a H b S<|aj.refl _⟩⟩
theorem EE{st:ZZ}{a:List ZZ}{f g:SF}(l:b8 X st f)(m:vo X a g):vo X (st::a) (gE f g):=by
 refine⟨λb u h=>?_⟩;obtain⟨t1,n,p⟩:=l;obtain⟨t2,q,s⟩:=m.ex b u h;refine⟨_,m9 n q,λc d δ t H v o D e S k=>?_⟩;obtain⟨o1,w,e⟩:=oA e;refine p c d δ t H v o1 _ w S ?_;cases o1 with
 | next δ1=>exact λi x j y s'=>s c d δ1 i x j o D e y (mF.mono s' k)
 | ret r δ1=>obtain rfl:=sO e;exact k
 | brk δ1=>obtain rfl:=sO e;exact k
 | cont δ1=>obtain rfl:=sO e;exact k
 | exc C δ1=>obtain rfl:=sO e;exact k
structure ba (P:lq) (w:qh) (K:gW) (mg:eT->Option dk) (base:pq) (x:eT) (k:Nat) (sp:Sp):Prop where
 is:∃(f:eH) (fd:hU) (pn:List eT),aS P w K mg base bb k f fd pn sp/\mg x=ac (.ref f)/\abA K (.ref f)=bi/\Binds K fd pn []
structure jg (P:lq) (w:qh) (K:gW) (mg:eT->Option dk) (base:pq) (x:eT) (k:Nat) (sp:Sp):Prop where
 is:∃(f:eH) (fd:hU) (pn:List eT),aS P w K mg base (dP P w) k f fd pn sp/\mg x=ac (.ref f)/\abA K (.ref f)=bi/\Binds K fd pn []
structure fP (K:gW) (mg:eT->Option dk) (x:eT) (d:Dat):Prop where
 is:∃v u,mg x=ac u/\RelV v u/\∀H,Rep K H d v
def ba.has (h:ba X.prog X.w X.K X.mg X.base x k sp)(a:Gl X x)(c:cb k X.A):zm X x sp:=by obtain⟨f,d,pn,F,m,kp,b⟩:=h.is;exact⟨a,bb,k,f,d,pn,F,c,m,kp,b,(λ_ _ _ _ _ _ _ h=>h.elim)⟩
def jg.has (h:jg X.prog X.w X.K X.mg X.base x k sp)(c:Gl X x)(d:cb k X.A)(a:X.ex=[]):IK X x sp:=by obtain⟨f,g,pn,F,m,kp,b⟩:=h.is;exact⟨c,a,k,f,g,pn,F,d,m,kp,b⟩
def Vc (h:fP X.K X.mg x d)(a:Gl X x)(hd:bA x):DD X (.Name x pos) (fC d):=RE ⟨a,h.is⟩ hd
def Nm (h:ba X.prog X.w X.K X.mg X.base x k (aG X.K fn))(c:Gl X x)(d:cb k X.A)(a:bA x)(f:bC X e es)(b:(Hz pos<|ma es X.env).any (·.1)=bv)(g:DA X (e::es) fa):DE X (.Call (.Name x p) (e::es) [] pos) (bV fn fa):=Q8 (h.has c d) g a f b
def Lr (h:ba X.prog X.w X.K X.mg X.base x k (dz X.K j fn))(c:Gl X x)(d:cb k X.A)(a:bA x)(f:bC X e es)(b:(Hz pos<|ma es X.env).any (·.1)=bv)(g:vi X (e::es) j i fa):DE X (.Call (.Name x p) (e::es) [] pos) (p7 fn i fa):=Qw (h.has c d) g a f b
def Tg (c:X.N.findIdx? (·==x)=ac i)(d:cc X.env.scope x)(f:Gl X "len")(hm:X.mg "len"=am)(hd:bA x)(a:cG x):DD X (.Call (.Name "len" p) [.Name x b] [] pos) (qO i):=TV i (dR c) d f hm hd a
def Tv (a:Gl X "int")(hm:X.mg "int"=am)(b:bC X e [])(c:DA X [e] fa):DE X (.Call (.Name "int" p) [e] [] pos) (bV oG fa):=vm TK M7 a hm (by decide +kernel) c ⋯ ρ b ρ
def NH (a:X.calm=bi)(b:Gl X "all")(hm:X.mg "all"=am)(c:bC X e [])(d:DA X [e] fa):DE X (.Call (.Name "all" p) [e] [] pos) (bV n5 fa):=hV (Sa a) (by
  intro H0 ps δ σ H c vs ds o Q e S r k;delta n5 at e;split at e
  ·obtain⟨bs,d,e⟩:=oM e;obtain rfl:=sO e;obtain⟨v,vr,rfl,⟨a,ws,rfl,b,rs⟩,f⟩:=r;subst f;rw[ye d rs] at b;exact⟨a,bs,ρ,Rd.mono S.sub b,k _ H c S (aj.refl _) ρ⟩
  exact nO e) b hm (by decide +kernel) d ⋯ ⋯ c ρ
def Kk (d:X.calm=bi)(f:Gl X "min")(hm:X.mg "min"=am)(g:bC X a [b])(c:(Hz pos<|ma [b] X.env).any (·.1)=bv)(h:DA X [a,b] fa):DE X (.Call (.Name "min" p) [a,b] [] pos) (bV Am fa):=hV (Q3 d) Kq f hm (by decide +kernel) h ⋯ ρ g c
def Uz (d:X.calm=bi)(f:Gl X "max")(hm:X.mg "max"=am)(g:bC X a [b])(c:(Hz pos<|ma [b] X.env).any (·.1)=bv)(h:DA X [a,b] fa):DE X (.Call (.Name "max" p) [a,b] [] pos) (bV uu fa):=hV (RD d) Qq f hm (by decide +kernel) h ⋯ ρ g c
theorem LJ (c:X.A.units+1<vv)(hs:kZ b)(d:DD X a f)(h:DD X b g):DD X (.Subscript a b pos) (pZ f g):=(λO R U hs=>by
  obtain⟨ta,E,F⟩:=R;obtain⟨tb,G,I⟩:=U;refine⟨_,PE.or (oO AI E G hs)<|uL O E G hs,λH0 ps δ σ H Hi d δ' Q e S k=>?_⟩;obtain⟨c,δ1,J,e⟩:=oB e;obtain⟨n,δ2,L,e⟩:=oB e;dsimp only at e;cases o:cy c n with
  | none=>rw[o] at e;exact nO e
  | some d' =>
   rw[o] at e;cases e;by_cases hd:∃M q,c=.a8 M/\n=.str q
   ·obtain⟨M,q,rfl,rfl⟩:=hd;refine τ (F H0 ps δ σ H Hi _ δ1 _ J S λx s h t u z=>?_);refine I H0 ps δ1 σ s h _ _ _ L t λy B j l m C=>?_;obtain⟨p,kvs,rfl,V,W⟩:=Rep.mono m z;subst C;obtain⟨v,Y,D⟩:=(W.find q).1 d o;refine⟨p,v,ρ,?_,k v B j l (u.trans m) D⟩;rw[<-Y];exact gJ.k (k:=pl q)<|l.sub _ _ V
   have N:qf c n=ac d:=by delta cy at o;simp_all
   refine ι (F H0 ps δ σ H Hi _ δ1 _ J S λx s h t u z=>?_);refine I H0 ps δ1 σ s h _ _ _ L t λy B j l m C=>?_
   exact DH ((Rep.mono m z).top l.sub) C N λv D=>k v B j l (u.trans m) D) c d h hs
def KZ (d:X.N.findIdx? (·==x)=ac i)(f:cc X.env.scope x)(h:X.A.units+1<vv)(hd:bA x)(a:cG x)(hs:kZ b)(j:DD X b g):DD X (.Subscript (.Name x c) b pos) (mS i g):=ME i h (dR d) f j hs hd a
def Rg (c:X.A.units+64<vv)(d:DD X a f)(h:DD X b g):DE X (.Compare a [.Eq] [b] pos) (cO (eF false) f g):=tY (C3 c) uk d h<|lK _
def Lw (c:X.A.units+64<vv)(d:DD X a f)(h:DD X b g):DE X (.Compare a [.NotEq] [b] pos) (cO (eF true) f g):=tY (E1 c) uk d h<|lK _
def LU (c:X.A.units+65<vv)(hm:wy .In b=bv)(d:DD X a f)(h:DD X b g):DE X (.Compare a [.In] [b] pos) (cO (fx false) f g):=tY (Gc c) xh d h hm
def TU (c:X.A.units+65<vv)(hm:wy .In b=bv)(d:DD X a f)(h:DD X b g):DT X (.Compare a [.In] [b] pos) (eM<|cO (fx false) f g):=mz (Gc c) xh d h hm
def MB (c:X.A.units+65<vv)(hm:wy .NotIn b=bv)(d:DD X a f)(h:DD X b g):DT X (.Compare a [.NotIn] [b] pos) (eM<|cO (fx true) f g):=mz ((λc=>bc.or (Nc c)<|Cc (by lia)) c) xh d h hm
def P8 (h:DD X a f):DD X (.UnaryOp .USub a pos) (fun δ=>(f δ).bind λp=>match p.1 with|.int i=>ac (.int<|-i,p.2)|_=>am):=by
 obtain⟨t,p,q⟩:=h;refine⟨_,Pk (Ms λ_ _ _ _ _ q=>neg_int q) p,λj l δ m H n d δ' Q b S k=>?_⟩;obtain⟨c,δ1,o,b⟩:=oB b;dsimp only at b;split at b
 ·obtain⟨rfl,rfl⟩:=sP b;refine q j l δ m H n _ _ _ o S λv r g s u w=>?_;subst w;exact⟨_,ρ,k _ r g s u ρ⟩
 exact nO b
noncomputable def gV(scope:aaf):List Str:=(scope.names.filter λp=>p.2 != .globalImplicit).map (·.1)
def oE(N:List eT)(scope:aaf):List (Option Nat):=(gV scope).map λx=>if scope.names.lookup x==some .free then N.findIdx? (·==x) else am
def Hs (hnd:N.Nodup)(hXN:X.N=N)(f:X.calm=bi)(B:jl X.env.scope scope)(d:gP X.N (gV scope) scope (oE N scope)=bi)(hs:∀x,xn iter X.env x=pure x)(h:dy X c iter fi)(i:∀(cl:List (eT×eH)) (C:eH) (a:eK) (H:Hp) (b:List eH),DG (cz X (gV scope) scope cl C a H b) c g)(j:∀(cl:List (eT×eH)) (C:eH) (a:eK) (H:Hp) (b:List eH),lP (cz X (gV scope) scope cl C a H b) ifs fc)(k:∀(cl:List (eT×eH)) (C:eH) (a:eK) (H:Hp) (b:List eH),DD (cz X (gV scope) scope cl C a H b) elt fe):DE X (.ListComp elt [⟨c,iter,ifs,0⟩] scope pos) (eV (oE N scope) am fi g fc fe):=Jw f B d h i j k hs
def Pb (h:N.Nodup)(j:X.N=N)(k:X.N.findIdx? (·==y)=ac i)(m:Loc X.env.scope y)(n:X.fn y=bi\/X.env.scope.names.lookup y=some .local)(l:H9 (.ListComp elt [⟨d,iter,ifs,0⟩] scope pos) (ac<|.Name y py) b.line X.env=pure true)(o:X.calm=bi)(B:jl X.env.scope scope)(f:gP X.N (gV scope) scope (oE N scope)=bi)(hs:∀x,xn iter X.env x=pure x)(p:dy X d iter fi)(q:∀(cl:List (eT×eH)) (C:eH) (a:eK) (H:Hp) (c:List eH),DG (cz X (gV scope) scope cl C a H c) d g)(r:∀(cl:List (eT×eH)) (C:eH) (a:eK) (H:Hp) (c:List eH),lP (cz X (gV scope) scope cl C a H c) ifs fc)(s:∀(cl:List (eT×eH)) (C:eH) (a:eK) (H:Hp) (c:List eH),DD (cz X (gV scope) scope cl C a H c) elt fe):b8 X (.Assign [.Name y py] (.ListComp elt [⟨d,iter,ifs,0⟩] scope pos) b) (i6 i<|eV (oE N scope) am fi g fc fe) :=
 Pw i (j ▸ h) (dR k) m n o B f p q r s l hs
def MH (a:X.N.Nodup)(b:X.N.findIdx? (·==x)=ac i)(c:Loc X.env.scope x)(d:X.fn x=bi\/X.env.scope.names.lookup x=some .local):DG X (.Name x py) (vR i):=(λi f g h j=>by
  refine⟨_,zq f g h j,λH0 ps δ σ H Hi d δ' v Q e S r k=>?_⟩
  exact k _<|S.put (r:=.D d) r e) i a (dR b) c d
def Py (k:X.N.findIdx? (·==x)=ac i)(l:cc X.env.scope x)(hd:bA x)(h:cG x)(d:Z' (.Name x b) "append" X.env (eval (.Name x b) X.env)=eval (.Name x b) X.env)(g:qz X pos e)(f:(a.endLine==pos.line)=bi)(hs:bC X e [])(j:H9 (.Call (.Attribute (.Name x b) "append" a) [e] [] pos) am c.line X.env=pure false)(m:DA X [e] fa) :
  b8 X (.Expr (.Call (.Attribute (.Name x b) "append" a) [e] [] pos) c) (mn<|kf i mH fa):=Bw (Sb i (dR k) l m hd h d g f hs) j
def NX (c:Z' (.Constant (.str sep) j b) "join" X.env (eval (.Constant (.str sep) j b) X.env)=eval (.Constant (.str sep) j b) X.env)(g:qz X pos e)(d:(a.endLine==pos.line)=bi)(hs:bC X e [])(h:DD X e f):DD X (.Call (.Attribute (.Constant (.str sep) j b) "join" a) [e] [] pos) (rP sep f) :=
 Lj h (λi=>uf PySem.F.plainAttrs_str PySem.F.slot_str_join PySem.F.type_str_join (by intro pins s σ H x vs v us Q I a b h;obtain⟨sep,p,ys,rfl,rfl,c,d,f,q⟩:=h;obtain⟨t,rfl⟩:=a;obtain⟨u,rfl,g⟩:=b.one;subst g;obtain⟨z,its,n,r,e⟩:=c.ok I.aq;exact join_listW ⟨_,e,ρ,n,ρ⟩ (Ci r) d f λt' k=>⟨.str _,H,I.tok k,⟨t',ρ⟩,q⟩) Ey i c g d hs ρ) hs
def Pg (c:X.calm=bi)(d:(wd es X.env).length=es.length)(b:(wd es X.env).findIdx? (·.1)=am)(h:nu X es a):DG X (.Tuple es k pos) (we es.length a):=Ri c h d b
def jo (h:cb k A):A.units+1<cLine:=by have:=h.un;lia
def rq (h:cb k A):A.units+64<cLine:=by have:=h.un;lia
def qH (h:cb k A):A.units+65<cLine:=by have:=h.un;lia
noncomputable def FI(sc scope:aaf):Bool:=scope.kind==.function&&scope.names.all (λy=>y.2 != .cell&&(y.2 != .local||scope.names.lookup y.1==some .local)&&(y.2 != .free||sc.names.lookup y.1==some .cell||sc.names.lookup y.1==some .free))
def o7 (h:FI b scope=bi):jl b scope:=by
 delta FI at h;simp only[hF] at h;have g:∀y∈scope.names,y.2≠.cell/\(y.2=.local->scope.names.lookup y.1=some .local)/\(y.2=.free->b.names.lookup y.1=some .cell\/b.names.lookup y.1=some .free):=λy a=>by
  have q:=hE.1 h.2 y a;simp at q;refine⟨q.1.1,λz=>?_,λz=>?_⟩
  ·rcases q.1.2 with w|w;simp_all;exact w
  rcases q.2 with (w|w)|w;simp_all
  ·exact ι w
  exact τ w
 exact⟨by simpa using h.1,λy a=>(g y a).1,λy a=>(g y a).2.1,λy a=>(g y a).2.2⟩
def OO (c:X.N.findIdx? (·==x)=ac i)(d:cc X.env.scope x)(hs:ma (.Name x a::es) X.env=(false,eval (.Name x a) X.env)::ma es X.env)(hd:bA x)(b:cG x)(h:DA X es g):vi X (.Name x a::es) 0 i g:=O' i (dR c) d h hs hd b
def Nb (hs:bC X e es)(a:DD X e f)(b:DA X es g):DA X (e::es) (fI f g):=LN a b hs
def Pt (hs:(wd (e::es) X.env).map (·.2)=aaQ e X.env::(wd es X.env).map (·.2))(b:DG X e g)(c:nu X es a):nu X (e::es) (A9 g a):=Kx b c hs
def QC (hs:ab6 [a] e pos.line X.env=pure false)(hw:ab7 [a] e X.env=pure am)(b:(wd [a] X.env).map (·.2)=[aaQ a X.env])(h:DD X e f)(c:DG X a g):b8 X (.Assign [a] e pos) (nY g f):=Nt h c hs hw b
def Ie (g:X.N.findIdx? (·==x)=ac i)(j:cc X.env.scope x)(k:X.A.units+1<vv)(hd:bA x)(d:cG x)(hs:H9 e (ac<|.Subscript (.Name x b) a pt) pos.line X.env=pure false)(h:DD X e f)(l:DD X a c):b8 X (.Assign [.Subscript (.Name x b) a pt] e pos) (pI i c f):=RP i k (dR g) j h l hd d hs
def Ly (b:acL (k7 X.prog X.w) X.A X.env X.xe)(c:X.calm=bi)(hs:∀x,xn iter X.env x=pure x)(d:dy X a iter fi)(f:DG X a g)(h:fJ X body fb):b8 X (.For a iter body [] pos) (pd fi g fb):=UW b c d f h hs
def KQ (c:Gl X "range")(hm:X.mg "range"=am)(hs:ma [a] X.env=[(false,eval a X.env)])(h:DA X [a] f):dy X b (.Call (.Name "range" p) [a] [] pos) (oD f):=SA c hm h hs
def Md{e:hQ}{f:DF}{l h:OF}{lo a:Option hQ}{b:z5}(c:DD X e f)(hl:DO X lo l)(hh:DO X a h):DE X (.Subscript e (.Slice lo a am b) pos) (kB f l h):=Qh c hl hh
def LM (c:∀b,adZ a X.env b=(do let v <-b;adi a.pos;aaj [v] (afw v)))(h:DD X a f):DT X a (oZ f):=Tr h c
noncomputable def iV:Dat->Dat->Option Res
 | .int i,.int j=>ac (.D<|.bl<|bd<|i<=j)
 | .str i,.str j=>ac (.D<|.bl<|!bd (j.cps.toList<i.cps.toList))
 | _,_=>am
def Fb:R2:=λx y H Q=>iK (λi j=>.bl<|bd<|i<=j) x y H Q\/(λx y H Q=>∃i j,x=.str i/\y=.str j/\Q (.bl<|!bd (j.cps.toList<i.cps.toList)) H) x y H Q
def sV:bc X (o5 .LtE) Fb:=bc.or (vp λ_ _ _ _ _ _ _ q=>le_int q) (by intro pins s σ H x y v u Q I a b h;obtain⟨i,j,rfl,rfl,q⟩:=h;obtain⟨t,rfl⟩:=a;obtain⟨t',rfl⟩:=b;exact PySem.P.le_str ⟨.bl _,H,I,ρ,q⟩)
def sS:fW X Fb iV:=by
 intro H0 ps δ σ H a x y d d' o Q e S b c k;delta iV at e;split at e
 ·cases e;subst b;subst c;exact ι ⟨_,_,ρ,ρ,k _ H a S (aj.refl _) ρ⟩
 ·obtain rfl:=sO e;subst b;subst c;exact τ ⟨_,_,ρ,ρ,k _ H a S (aj.refl _) ρ⟩
 exact nO e
noncomputable def kd(o1 o2:Dat->Dat->Option Res)(f g h:DF):DF:=fun δ=>(f δ).bind λx=>(g x.2).bind λy=>match o1 x.1 y.1 with
 | some (.D<|.bl true)=>(h y.2).bind λz=>(match o2 y.1 z.1 with|some (.D<|.bl b)=>ac (.bl b,z.2)|_=>am)
 | some (.D<|.bl false)=>ac (.bl false,y.2)
 | _=>am
def JZ (G:bc X (o5 t) E)(r:fW X E o1)(I:bc X (o5 u) F)(J:fW X F o2)(Y:DD X a f)(Z:DD X b g)(hc:DD X c h)(hm:acK [t,u] [b,c]=bv):DD X (.Compare a [t,u] [b,c] pos) (kd o1 o2 f g h):=by
 obtain⟨ta,pa,qa⟩:=Y;obtain⟨tb,pb,qb⟩:=Z;obtain⟨tc,pc,qc⟩:=hc;refine⟨_,Og G I pa pb pc hm,λj l δ m H Hi d δ' Q i S k=>?_⟩;obtain⟨x,δ1,e1,i⟩:=oB i;obtain⟨y,δ2,e2,i⟩:=oB i;refine qa j l δ m H Hi x δ1 _ e1 S λK H1 L S1 M N=>?_;refine qb j l δ1 m H1 L y δ2 _ e2 S1 λw O s P p A=>?_;split at i
 ·rename_i B;refine r j l δ2 m O s K w x y _ _ B P (Rep.mono p N) A λv C n D q o=>?_;subst o;refine⟨true,ρ,?_⟩;obtain⟨z,R,e3,i⟩:=oB i;refine qc j l δ2 m C n z R _ e3 D λzv H4 T S4 U rz=>?_;split at i
  ·rename_i b V;obtain⟨rfl,rfl⟩:=sP i;exact J j l _ m H4 T w zv y z _ Q V S4 (Rep.mono (q.trans U) A) rz λv H5 W S5 s5 o=>k v H5 W S5 ((((M.trans p).trans q).trans U).trans s5) o
  exact nO i
 ·rename_i B;obtain⟨rfl,rfl⟩:=sP i;refine r j l _ m O s K w x y _ _ B P (Rep.mono p N) A λv C n D q o=>?_;subst o;refine⟨false,ρ,?_⟩;rw[if_neg ⋯];exact k _ C n D ((M.trans p).trans q) ρ
 exact nO i
def Lq (hm:acK [.LtE,.LtE] [b,c]=bv)(d:DD X a f)(i:DD X b g)(j:DD X c h):DD X (.Compare a [.LtE,.LtE] [b,c] pos) (kd iV iV f g h):=JZ sV sS sV sS d i j hm
def KL (a:Gl X "isinstance")(b:X.mg "isinstance"=am)(c:Gl X "str")(d:X.mg "str"=am)(hs:bC X e [.Name "str" q])(g:DD X e f):DD X (.Call (.Name "isinstance" p) [e,.Name "str" q] [] pos) (mJ "str" f):=yp g a b c d (by decide +kernel) ⋯ ρ hs
def QR (a:Gl X "isinstance")(b:X.mg "isinstance"=am)(c:Gl X "tuple")(d:X.mg "tuple"=am)(hs:bC X e [.Name "tuple" q])(g:DD X e f):DD X (.Call (.Name "isinstance" p) [e,.Name "tuple" q] [] pos) (mJ "tuple" f):=yp g a b c d (by decide +kernel) ⋯ ρ hs
def Oy (a:Gl X "isinstance")(b:X.mg "isinstance"=am)(c:Gl X "list")(d:X.mg "list"=am)(hs:bC X e [.Name "list" q])(g:DD X e f):DD X (.Call (.Name "isinstance" p) [e,.Name "list" q] [] pos) (mJ "list" f):=yp g a b c d (by decide +kernel) ⋯ ρ hs
def qv(o1 o2:Dat->Dat->Option Res)(f g h:DF):BF:=fun δ=>(kd o1 o2 f g h δ).bind λp=>match p.1 with
 | .bl b=>ac (b,p.2)
 | _=>am
theorem Jj (hm:acK [.LtE,.LtE] [b,c]=bv)(d:DD X a f)(i:DD X b g)(j:DD X c h):DT X (.Compare a [.LtE,.LtE] [b,c] pos) (qv iV iV f g h):=(λI s J K Z hb hc hm=>by
  obtain⟨ta,pa,qa⟩:=Z;obtain⟨tb,pb,qb⟩:=hb;obtain⟨tc,pc,qc⟩:=hc;refine⟨_,M9 I J pa pb pc hm,λl m δ j H Hi d δ' Q n S k=>?_⟩;obtain⟨dd,δ0,i,n⟩:=oB n;dsimp only at n;cases dd with
  | bl b0 =>
   obtain⟨rfl,rfl⟩:=sP n;obtain⟨x,δ1,e1,i⟩:=oB i;obtain⟨y,δ2,e2,i⟩:=oB i;dsimp only at i;refine qa l m δ j H Hi x δ1 _ e1 S λL H1 M S1 N O=>?_;refine qb l m δ1 j H1 M y δ2 _ e2 S1 λC P t R q D=>?_;split at i
   ·rename_i E;refine s l m δ2 j P t L C x y _ _ E R (Rep.mono q O) D λv F o G r p=>?_;subst p;refine⟨true,ρ,?_⟩;obtain⟨z,T,e3,i⟩:=oB i;dsimp only at i;refine qc l m δ2 j F o z T _ e3 G λzv H4 U S4 V rz=>?_;split at i
    ·rename_i b W;cases i;exact K l m _ j H4 U C zv y z _ _ W S4 (Rep.mono (r.trans V) D) rz λv H5 Y S5 s5 p=>⟨_,p,k H5 Y S5<|(((N.trans q).trans r).trans V).trans s5⟩
    exact nO i
   ·rename_i E;cases i;refine s l m _ j P t L C x y _ _ E R (Rep.mono q O) D λv F o G r p=>?_;subst p;refine⟨false,ρ,?_⟩;rw[if_neg ⋯];exact⟨_,ρ,k F o G<|(N.trans q).trans r⟩
   exact nO i
  | _=>exact nO n) sV sS sV sS d i j hm
end
noncomputable def Ge:List eT->Bool
 | []=>true
 | x::r=>!(r.any (·==x))&&Ge r
theorem pV:∀{l:List eT},Ge l=bi->l.Nodup
 | [],_=>aap
 | x::r,h=>by have h:=n7.1 h;refine sk.2 ⟨λm=>?_,pV h.2⟩;have:r.any (·==x)=bi:=z8.2 ⟨x,m,⋯⟩;simp_all
section
open PySem.W
inductive Comes {α:Type}(lt:Nat->Nat->Bool) (ok:Nat->Nat->Prop):KasT α->α->Prop
 | ret (a:α):Comes lt ok (.ret a) a
 | ask {i j:Nat}{k:Bool->KasT α}{a:α}(h:ok i j) (r:Comes lt ok (k<|lt i j) a):Comes lt ok (.ask i j k) a
theorem Comes.bind (c:Comes lt ok t a)(q:Comes lt ok (f a) b):Comes lt ok (t.bind f) b:=by
 induction c with
 | ret a=>exact q
 | ask h _ g=>exact .ask h<|g q
section
variable{lt:Nat->Nat->Bool}{n:Nat}
structure Ord (lt:Nat->Nat->Bool) (n:Nat):Prop where
 trans:∀i j k,lt i j=bi->lt j k=bi->lt i k=bi
 total:∀i j,i<n->j<n->i≠j->lt i j=bi\/lt j i=bi
 kK:∀i,lt i i=bv
abbrev okN(n:Nat):Nat->Nat->Prop:=λi j=>i<n/\j<n/\i≠j
structure df (p:Array Nat) (n:Nat):Prop where
 size:p.size=n
 lt:∀i,i<n->p.getD i 0<n
 inj:∀i j,i<n->j<n->p.getD i 0=p.getD j 0->i=j
 pm:p.toList.Perm (hM n)
def uF{p q:Array Nat}{i j:Nat}(h:p[i]?=q[j]?):p.getD i 0=q.getD j 0:=by simp[h]
def df.ok (P:df p n)(a:i<n)(b:j<n)(h:i≠j):okN n (p.getD i 0) (p.getD j 0):=⟨P.lt i a,P.lt j b,λz=>h<|P.inj i j a b z⟩
noncomputable def fj(lt:Nat->Nat->Bool)(p:Array Nat)(m:Nat):Prop:=∀i j,i<j->j<m->lt (p.getD i 0) (p.getD j 0)=bi
def Down(lt:Nat->Nat->Bool)(p:Array Nat)(m:Nat):Prop:=∀i j,i<j->j<m->lt (p.getD j 0) (p.getD i 0)=bi
def fj.succ (O:Ord lt n)(P:df p n)(h:fj lt p m)(hm:m<n)(h1:1<=m)(hl:lt (p.getD m 0) (p.getD (m-1) 0)=bv):fj lt p (m+1):=by
 intro i j b hj;by_cases z:j<m
 ·exact h i j b z
 have z:j=m:=by lia
 subst z;have a:lt (p.getD (j-1) 0) (p.getD j 0)=bi:=by
  rcases O.total _ _ (P.lt j hm) (P.lt (j-1) ∅) (λz=>by have:=P.inj j (j-1) hm ∅ z;omega) with q|q
  ·rw[hl] at q;contradiction
  exact q
 by_cases c:i=j-1
 ·rwa[c]
 exact O.trans _ _ _ (h i (j-1) ∅ ∅) a
def Down.succ (O:Ord lt n)(h:Down lt p m)(h1:1<=m)(hl:lt (p.getD m 0) (p.getD (m-1) 0)=bi):Down lt p (m+1):=by
 intro i j a hj;by_cases z:j<m
 ·exact h i j a z
 have z:j=m:=by lia
 subst z;by_cases b:i=j-1
 ·rwa[b]
 exact O.trans _ _ _ hl<|h i (j-1) ∅ ∅
theorem wW (O:Ord lt n)(P:df p n):∀(f m:Nat),1<=m->m+f<=n->fj lt p m->∃r,Comes lt (okN n) (kas_asc p f m) r/\m<=r/\r<=m+f/\fj lt p r/\(r<m+f->lt (p.getD r 0) (p.getD (r-1) 0)=bi)
 | 0,m,i,j,g=>⟨m,.ret m,ft _,ft _,g,λh=>by lia⟩
 | f+1,m,i,j,g=>by
  have aq:okN n (p.getD m 0) (p.getD (m-1) 0):=P.ok ⋯ ⋯ ∅;cases hl:lt (p.getD m 0) (p.getD (m-1) 0) with
  | true=>refine⟨m,.ask aq ?_,ft _,⋯,g,λ_=>hl⟩;rw[hl];exact .ret m
  | false=>obtain⟨r,a,b,c,d,e⟩:=wW O P f (m+1) ⋯ ⋯ (g.succ O P ⋯ i hl);refine⟨r,.ask aq ?_,⋯,⋯,d,λh=>e ⋯⟩;rwa[hl]
theorem GL (O:Ord lt n)(P:df p n):∀(f m:Nat),1<=m->m+f<=n->Down lt p m->∃r,Comes lt (okN n) (kas_desc f p m 0) (p,r,0)/\m<=r/\r<=m+f/\Down lt p r
 | 0,m,g,h,e=>⟨m,.ret _,ft _,ft _,e⟩
 | f+1,m,g,h,e=>by
  have aq:okN n (p.getD m 0) (p.getD (m-1) 0):=P.ok ⋯ ⋯ ∅;cases hl:lt (p.getD m 0) (p.getD (m-1) 0) with
  | true=>obtain⟨r,a,b,c,d⟩:=GL O P f (m+1) ⋯ ⋯ (e.succ O g hl);refine⟨r,.ask aq ?_,⋯,⋯,d⟩;rwa[hl]
  | false =>
   refine⟨m,.ask aq ?_,ft _,⋯,e⟩;rw[hl];have i:lt (p.getD (m-1) 0) (p.getD m 0)=bi:=by
    rcases O.total _ _ aq.1 aq.2.1 aq.2.2 with q|q
    ·rw[hl] at q;contradiction
    exact q
   refine .ask ⟨aq.2.1,aq.1,λz=>aq.2.2 z.symm⟩ ?_;rw[i];exact .ret _
theorem df.perm{p q:Array Nat}(P:df p n)(d:q.Perm p)(h:q.size=p.size)(f:Nat->Nat)(a:∀i,i<n->f i<n/\q.getD i 0=p.getD (f i) 0)(g:∀i j,i<n->j<n->f i=f j->i=j):df q n:=by
 refine⟨h.trans P.size,λi hl=>?_,λi j b c e=>?_,?_⟩
 ·rw[(a i hl).2];exact P.lt _ (a i hl).1
 ·rw[(a i b).2,(a j c).2] at e;exact g i j b c<|P.inj _ _ (a i b).1 (a j c).1 e
 exact (ads.1 d).trans P.pm
def zY (hm:m<=p.size)(k):(adm p 0 m).getD k 0=if k<m then p.getD (m-1-k) 0 else p.getD k 0:=by have h:=getElem?_mirror_all (i:=0) hm k;unfold adm;split;simp_all;rename_i a;rw[if_neg (λz=>a z.2)] at h;exact uF h
def Sn (P:df p n)(hm:m<=n):df (adm p 0 m) n:=by
 refine P.perm (by unfold adm;exact mirror_perm _ _ _ _) (by simp[adm,mirror_size]) (λk=>if k<m then m-1-k else k) (λi a=>⟨by (try dsimp only);split<;>omega,?_⟩) λi j a hj e=>?_
 ·rw[zY (by rw[P.size];exact hm)]
  (try dsimp only)
  split<;>rfl
 grind
def Im (P:df p n)(hm:m<=n)(h:Down lt p m):fj lt (adm p 0 m) m:=by intro i j hij a;rw[zY (by rw[P.size];exact hm),zY (by rw[P.size];exact hm),if_pos ⋯,if_pos a];exact h _ _ ⋯ ⋯
theorem xA (O:Ord lt n)(P:df p n)(j:k<n)(e:fj lt p k):∀(f l r:Nat),l<=r->r<=k->r-l<=f->(∀i,i<l->lt (p.getD i 0) (p.getD k 0)=bi)->(∀i,r<=i->i<k->lt (p.getD k 0) (p.getD i 0)=bi) ->
  ∃m,Comes lt (okN n) (kas_place p k f l r) m/\m<=k/\(∀i,i<m->lt (p.getD i 0) (p.getD k 0)=bi)/\(∀i,m<=i->i<k->lt (p.getD k 0) (p.getD i 0)=bi)
 | 0,l,r,u,s,v,a,b=>⟨l,.ret l,by lia,a,λi o=>b i (by lia)⟩
 | f+1,l,r,u,s,v,a,b=>by
  dsimp only[kas_place];by_cases g:l ≥ r
  ·rw[if_pos g];exact⟨l,.ret l,by lia,a,λi o=>b i (by lia)⟩
  rw[if_neg g];have hm:(l+r)/2<r/\l<=(l+r)/2:=⋯;have aq:okN n (p.getD k 0) (p.getD ((l+r)/2) 0):=P.ok j ⋯ ∅;cases hl:lt (p.getD k 0) (p.getD ((l+r)/2) 0) with
  | true =>
   obtain⟨m,c,d⟩:=xA O P j e f l ((l+r)/2) hm.2 (by lia) ∅ a (λi o t=>by
    by_cases z:i=(l+r)/2
    ·rwa[z]
    exact O.trans _ _ _ hl<|e _ _ ⋯ t)
   refine⟨m,.ask aq ?_,d⟩;rwa[hl]
  | false =>
   have h:lt (p.getD ((l+r)/2) 0) (p.getD k 0)=bi:=by
    rcases O.total _ _ aq.1 aq.2.1 aq.2.2 with q|q
    ·rw[hl] at q;contradiction
    exact q
   obtain⟨m,c,d⟩:=xA O P j e f ((l+r)/2+1) r (by lia) s ∅ (λi o=>by
    by_cases z:i=(l+r)/2
    ·rwa[z]
    exact O.trans _ _ _ (e i ((l+r)/2) ⋯ (by lia)) h) b
   refine⟨m,.ask aq ?_,d⟩;rwa[hl]
def O0 (b:k<p.size)(hl:l<=k)(i):(bubble p k<|k-l).getD i 0=if i=l then p.getD k 0 else if l<i/\i<=k then p.getD (i-1) 0 else p.getD i 0:=by
 have h:=getElem?_bubble b (k-l) ⋯ i;have e:k-(k-l)=l:=⋯;rw[e] at h;by_cases z:i=l
 ·rw[if_pos z] at h ⊢;exact uF h
 rw[if_neg z] at h ⊢;by_cases a:l<i/\i<=k
 ·rw[if_pos a] at h ⊢;exact uF h
 rw[if_neg a] at h ⊢;exact uF h
theorem FU(O:Ord lt n):∀(f:Nat) (p:Array Nat) (k:Nat),df p n->k+f=n->fj lt p k->∃q,Comes lt (okN n) (kas_bin f p k) q/\df q n/\fj lt q n
 | 0,p,k,P,o,g=>⟨p,.ret p,P,by rw[<-o];exact g⟩
 | f+1,p,k,P,o,g=>by
  obtain⟨l,c,hl,a,b⟩:=xA O P (by lia) g k 0 k (pe _) (ft _) (by lia) (λi h=>by lia)<|λi h hik=>by omega
  have m:=O0 (p:=p) (k:=k) (l:=l) (by rw[P.size];omega) hl;have t:df (bubble p k<|k-l) n:=by
   refine P.perm (bubble_perm _ _ _) (bubble_size _ _ _) (λi=>if i=l then k else if l<i/\i<=k then i-1 else i) (λi h=>⟨by (try dsimp only);split<;>(try split)<;>omega,?_⟩) λi j h u e=>?_
   ·rw[m]
    (try dsimp only)
    split
    ·rfl
    split<;>rfl
   (try dsimp only at e)
   split at e<;>split at e<;>(try split at e)<;>(try split at e)<;>lia
  have r:fj lt (bubble p k<|k-l) (k+1):=by
   intro i j s u;simp only[m i,m j];split
   ·rw[if_neg ∅,if_pos ∅];exact b (j-1) (by lia) (by lia)
   split
   ·rw[if_neg ∅,if_pos ∅];exact g _ _ ∅ ∅
   split
   ·exact a i ∅
   split
   ·exact g _ _ (by lia) ∅
   exact g _ _ s (by lia)
  obtain⟨q,d,e⟩:=FU O f (bubble p k<|k-l) (k+1) t (by lia) r;exact⟨q,Comes.bind c d,e⟩
def Gz:df (ab2<|hM n) n:=by
 have g:∀i,i<n->(ab2<|hM n).getD i 0=i:=λi a=>by simp[a]
 refine⟨⋯,λi a=>by rw[g i a];exact a,λi j a b e=>by simp only[g i a,g j b] at e;exact e,⋯⟩
def K'(O:Ord lt n)(hn:1<=n):∃q,Comes lt (okN n) (af5 n) q/\df q n/\fj lt q n:=by
 have P:=Gz (n:=n);unfold af5;obtain⟨m,a,b,c,d,e⟩:=wW O P (n-1) 1 (ft _) ∅<|λi j l u=>by omega
 have h:∀(p:Array Nat) (m:Nat),df p n->1<=m->m<=n->fj lt p m->∃q,Comes lt (okN n) (if m<n then kas_bin (n-max m 1) p (max m 1) else .ret p) q/\df q n/\fj lt q n:=λp m P f g hu=>by split;simp_all [FU];exact⟨p,.ret p,P,by grind⟩
 by_cases k:m=n
 ·obtain⟨q,f,g⟩:=h _ m P b (by lia) d;refine⟨q,Comes.bind (a:=(m,ab2<|hM n)) (Comes.bind a ?_) f,g⟩;rw[if_pos (by simpa using k)];exact .ret _
 by_cases o:m>1
 ·obtain⟨q,f,g⟩:=h _ m P b (by lia) d;refine⟨q,Comes.bind (a:=(m,ab2<|hM n)) (Comes.bind a ?_) f,g⟩;rw[if_neg (by simpa using k),if_pos o];refine .ask (P.ok (by lia) ∅ ∅) ?_;rw[d 0 (m-1) ∅ ∅];exact .ret _
 have hm:m=1:=by lia
 subst hm;have hl:=e (by lia)
 obtain⟨r,v,b1,c1,w⟩:=GL O P (n-2) 2 (by lia) (by lia) (λi j l u=>by
  have f:i=0:=by lia
  have g:j=1:=by lia
  rw[f,g];exact hl)
 have s:=Sn (m:=r) P ∅;obtain⟨t,x,b2,c2,y,_⟩:=wW O s (n-r) r (by lia) (by lia)<|Im P ∅ w;obtain⟨q,f,g⟩:=h _ t s (by lia) (by lia) y;refine⟨q,Comes.bind (a:=(t,adm (ab2<|hM n) 0 r)) (Comes.bind a ?_) f,g⟩;rw[if_neg (by simpa using k),if_neg ∅];unfold kas_descPart;apply Comes.bind v;rw[if_neg ⋯];exact Comes.bind x<|.ret _
end
end
section
open PySem.W
theorem Comes.wp (e:∀i j,ok i j->∀C:Bool->eK->Prop,C (lt i j) s->b i j C s)(c:Comes lt ok t a)(q:Q a s):t.kasWp b Q s:=by
 induction c with
 | ret a=>exact q
 | ask h _ f=>exact e _ _ h _<|f q
end
noncomputable def fM(h:pq)(L:eH):Heap:={h with objs:=h.objs.extract 0 L}
def Lf (xs:Array a)(L b:Nat):(xs.extract 0 L)[b]?=if b<L then xs[b]? else am:=by grind
def GV(h)(L b):(fM h L).get? b=if b<L then h.get? b else am:=by delta fM Heap.get?;rw[Lf];by_cases a:b<L;simp_all;rw[if_neg a,if_neg a]
def Ap (e:(fM h L).get? b=ac o):b<L/\h.get? b=ac o:=by simp_all [GV]
section
variable{X:Cx}{pins:List (eH×C1)}{σ:St}{H:Hp}{s:eK}{pos:z5}{e:hQ}
def Inv.CY (I:Inv X pins σ H s)(a:s.heap.Ns X.env.locals m):Fr (fM s.heap X.env.locals) X.env.locals s.heap m :=
 ⟨a,λb o e=>(Ap e).2,by show (s.heap.objs.extract 0 X.env.locals).size<=_;simp[Nat.min_le_left]⟩
def Inv.JP (I:Inv X pins σ H s)(hl:∀(i:Nat) (x:eT) (v:V),X.N[i]?=ac x->σ[i]?=ac (ac v)->cc X.env.scope x->∃u,RelV v u/\Look X.env s.heap m x u)(t:h'.Ns X.env.locals m)(keep:∀b o,b≠X.env.locals->s.heap.get? b=ac o->h'.get? b=ac o):Inv X pins σ H {s with heap:=h',toks:=tk}:=by
 have gH:=I.gH;have f:∀b o,X.cR.heap.get? b=ac o->b≠X.env.locals:=λb o e=>ia<|lF (gD e) I.ok.above;have a:∀x c,X.env.cells.lookup x=ac c->∀v,s.heap.IsCell c v->h'.IsCell c v:=λx c e v ⟨o,ho,hd⟩=>⟨o,keep c o (gH x c e) ho,hd⟩;refine⟨I.ok,I.os,I.bare,⟨λb o e n g h=>keep b o (f b o e)<|I.base.keep b o e n g h,λb o e n g h=>?_,I.base.free,λb o e h=>?_,I.base.iz,I.base.gN,I.base.iu⟩,⟨m,t,λi x v w y A=>?_⟩,λx c e=>?_,I.free,I.eS,λp B=>?_,?_,I.len⟩
 ·obtain⟨sl,q⟩:=I.base.slot b o e n g h;exact⟨sl,keep b _ (f b o e) q⟩
 ·obtain⟨j,q⟩:=I.base.there b o e h;exact⟨j,keep b j (f b o e) q⟩
 ·obtain⟨u,r,l⟩:=hl i x v w y A;refine⟨u,r,?_⟩;rcases l with l|⟨k,c,e,z⟩
  ·exact ι l
  exact τ ⟨k,c,e,a x c e _ z⟩
 ·obtain⟨v,z⟩:=I.cell x c e;exact⟨v,a x c e v z⟩
 ·obtain⟨e,n,ne,nf,d⟩:=I.pin p B;exact⟨keep p.1 p.2 ne e,n,ne,nf,d⟩
 exact I.aq.tracked λb u g e=>keep b u (λz=>g<|z ▸ I.free) e
theorem yQ (F:Fr (fM h L) L h' m)(N:News (fM h L) L h' a)(sub:∀q∈nA (fM h L) h L,q∈a):∀b o,b≠L->h.get? b=ac o->h'.get? b=ac o:=λb o c e=>by
 by_cases hl:b<L
 ·exact F.keep b o<|(λhb e=>by simp_all [GV]) hl e
 have d:(fM h L).get? b=am:=by
  cases q:(fM h L).get? b with
  | none=>rfl
  | some u=>exact absurd (Ap q).1 hl
 exact (N _<|sub _<|yi c d e).1
def Uv{prog:lq}{w:qh}{A:pk}{E:dk->eK->Prop}{s:eK}{a:eH}{vs:List dk}{n:Nat}{P:Fin->eK->Prop}(ho:s.heap.get? a=ac (aaT "list" vs.toArray n))(p:vs.length<2)
 (h:∀h' c,h'.get? a=ac (aaT "list" vs.toArray c)->(∀b o,b≠a->s.heap.get? b=ac o->h'.get? b=ac o)->P (.done<|.ret .none) {s with heap:=h'}) :
  ka (k7 prog w) A (aa1.«list.sort» ⟨[.ref a],[]⟩) P E s:=by
 rw[list_sort_plain];have k:=gD ho;refine ey<|listItems_at ho ρ ?_;refine ey<|ag5 ho ρ ?_;obtain⟨j,i⟩:∃j,(s.heap.update a (aa0 λ_=>#[])).get? a=ac (aaT "list" #[] j) :=
  ⟨_,agA ho<|λ_=>#[]⟩
 refine ey<|seqEpoch_at i ρ<|ey<|wpAny_newTuple (ey<|aeh<|sj ?_) (by rw[KX];simp;omega);generalize l:(((s.heap.update a (aa0 λ_=>#[])).push (aaT "tuple" vs.toArray 0)).push (aaT "list" #[] 0))=g at *;have d:g.get? a=ac (aaT "list" #[] j):=by
  rw[<-l,aeQ _ _ _ (by rw[size_push',ac1];exact ia<|abJ k),
   aeQ _ _ _ (by rw[ac1];exact ia k)]
  exact i
 have kp:∀b o,b≠a->s.heap.get? b=ac o->g.get? b=ac o:=λb o f e=>by rw[<-l];refine fA _<|fA _ ?_;rw[aad _ _ (Ne.symm f)];exact e
 dsimp only;have m:vs.toArray.size<2:=by simpa using p
 rw[if_pos m,if_pos m];refine ey<|gi ?_;refine ey<|gi ?_;dsimp only;refine ey<|seqEpoch_at d ρ<|ey<|ag5 d ρ ?_ (hsz2:=by simp[afg,afS];rw[KX];omega);simp only[bne_self_eq_false,o3];refine gi ?_;have q:agJ (λx=>x.2) (afg<|afS general' (vs.toArray.zip vs.toArray) #[] 7 am)=vs.toArray:=by rw[List.zip_toArray,List.map_toArray,List.map_snd_zip<|ft _]
 rw[q];refine h _ _ (agA d<|λ_=>vs.toArray) λb o f e=>?_;rw[aad _ _ (Ne.symm f)];exact kp b o f e
def Inv.yO (I:Inv X pins σ H s)(hl:∀(i:Nat) (x:eT) (v:V),X.N[i]?=ac x->σ[i]?=ac (ac v)->cc X.env.scope x->∃u,RelV v u/\Look X.env s.heap m x u)(h:h'.Ns X.env.locals m)(keep:∀b o,b≠X.env.locals->s.heap.get? b=ac o->h'.get? b=ac o)(j:s.heap.get? D=am)(hex:∀b∈X.ex,∃o,s.heap.get? b=ac o)(a:cB X.prog X.w (upd H D o) h' D o):Inv X pins σ (upd H D o) {s with heap:=h',toks:=tk}:=by
 have J:Inv X pins σ H {s with heap:=h',toks:=tk}:=I.JP hl h keep;have hHD:=I.aq.dead j;have ne:∀b u,H b=ac u->b≠D:=by lia
 have k:X.env.locals≠D:=λz=>by obtain⟨_,⟨oL,_,_,hoL,_⟩,_⟩:=I.loc;simp_all
 refine⟨J.ok,J.os,J.bare,⟨J.base.keep,J.base.slot,λb ob e n f=>?_,J.base.there,λb xs e=>?_,λb ob u e=>?_,λb l e=>?_⟩,J.loc,J.cell,?_,λx c e=>?_,λp g=>?_,λb u e=>?_,J.len⟩
 ·have z:b≠D:=λz=>by obtain⟨o',q⟩:=I.base.there b ob e f;simp_all
  rw[au z];exact J.base.free b ob e n f
 ·have q:=J.base.iz b xs e;rwa[au (ne b _ q)]
 ·have q:=J.base.gN b ob u e;rwa[au (ne b _ q)]
 ·obtain⟨more,q⟩:=J.base.iu b l e;exact⟨more,by rw[au (ne b _ q)];exact q⟩
 ·rw[au k];exact J.free
 ·obtain⟨v,oc,ho,hd⟩:=I.cell x c e;rw[au (λz=>by simp_all)];exact J.eS x c e
 ·obtain⟨q,n,r,nf,d⟩:=J.pin p g;have q0:=(I.pin p g).1;exact⟨q,by rw[au (λz=>by simp_all)];exact n,r,nf,d⟩
 by_cases z:b=D
 ·subst z;rw[aV] at e;obtain rfl:=sO e;exact a
 rw[au z] at e;exact (J.aq b u e).gw (λc w' hc q=>q) (λc q=>by rw[au (ne c _ q)];exact q) λc xs q=>by rw[au (ne c _ q)];exact q
def eP{a:Type}{l:List a}{i:Nat}{d:a}(h:i<l.length):l.getD i d=l[i]:=by simp only[mu,bg h];rfl
noncomputable def my(fs:List eT)(i j:Nat):Bool:=bd<|(fs.getD i aaZ).cps.toList<(fs.getD j aaZ).cps.toList
def ly{a b:eT}(h:a.cps.toList=b.cps.toList):a=b:=by obtain⟨⟨a⟩⟩:=a;simp_all
def To (nd:fs.Nodup):Ord (my fs) fs.length where
 trans:=λi j k c a=>decide_eq_true<|acy (of_decide_eq_true c)<|of_decide_eq_true a
 total:=λi j d f b=>by
  delta my;rw[eP d,eP f];by_cases h:fs[i].cps.toList<fs[j].cps.toList
  ·exact ι<|decide_eq_true h
  refine τ (decide_eq_true ?_);by_cases a:fs[j].cps.toList<fs[i].cps.toList
  ·exact a
  exact absurd ((z7 nd).1 (ly<|aaX (ZX.1 a)<|ZX.1 h)) b
 kK:=λi=>decide_eq_false<|aaO _
def nC(K:gW)(H:Hp)(vs:List V)(fs:List eT):Prop:=vs.length=fs.length/\∀(i:Nat) (f:eT),fs[i]?=ac f->∃a b,vs[i]?=ac (.ref a)/\bq K H a b/\b[0]?=ac (.str f)
def Ordered(fs:List eT)(vs out:List V):Prop:=∃q:Array Nat,df q vs.length/\fj (my fs) q vs.length/\out=q.toList.map λi=>vs.getD i .aF
def uM(K:gW):List V->Hp->VK->Prop:=λxs H Q=>∃p vs fs,xs=[.ref p]/\Rd H p (.L vs)/\nC K H vs fs/\fs.Nodup/\vs.length<64/\∀out,Ordered fs vs out->∀l,H l=am->Q (.ref l) (upd H l<|.L out)
theorem Ha (r:aJ vs its):∀(l:List Nat),(∀i∈l,i<vs.length)->aJ (l.map λi=>vs.getD i .aF) (l.map λi=>its.getD i .none)
 | [],_=>.nil
 | i::l,h=>by
  have a:=h i eN;have hi':i<its.length:=by rw[<-r.length];exact a
  refine .cons ?_ (Ha r l λj b=>h j<|fk _ b);obtain⟨u,hu,ru⟩:=r.get<|bg a;simp_all
def rE (P:df q n):∀i∈q.toList,i<n:=λi b=>by
 obtain⟨k,c,e⟩:=oy b;have a:k<q.size:=by simpa using c
 have:=P.lt k (by rw[<-P.size];exact a);simp_all
theorem kat_tups (I:Inv X pins σ H s):∀{fs:List eT}{vs:List V}{its:List dk},nC X.K H vs fs->aJ vs its ->
  ∃c:List dk,ab8 s.heap its c/\c.length=fs.length/\(∀v∈c,∃x t,v=ZR x t)/\∀(i:Nat) (f:eT),fs[i]?=ac f->∃a o xs n t,its[i]?=ac (.ref a)/\s.heap.get? a=ac o/\o.data=.seq xs n/\xs[0]?=ac (ZR f t)
 | [],[],_,h,r=>by
  cases r;exact⟨[],.nil,ρ,λv j=>by simp at j,λi f e=>by simp at e⟩
 | [],_::_,_,h,_=>by simp[nC] at h
 | _::_,[],_,h,_=>by simp[nC] at h
 | f::fs,v::vs,_,h,r=>by
  cases r with
  | cons m rs =>
   obtain⟨a,ws,p,q,w⟩:=h.2 0 f ρ;obtain rfl:=sO p;subst m;have h':nC X.K H vs fs:=⟨by simpa using h.1,λi g e=>by
    obtain⟨b,us,k,l,y⟩:=h.2 (i+1) g<|e
    exact⟨b,us,by simpa using k,l,y⟩⟩
   obtain⟨c,k1,k2,k3,A⟩:=kat_tups I h' rs;obtain⟨its,B,⟨o,ho,C,n,hd⟩,_⟩:=I.tuple q;obtain⟨u,D,E⟩:=B.get w;obtain⟨t,rfl⟩:=E;have d:its.toArray[0]?=ac (ZR f t):=by simpa using D
   refine⟨ZR f t::c,.cons ho C hd d k1,by simp[k2],λv j=>?_,λi g e=>?_⟩
   ·rcases hO.1 j with z|z
    ·exact⟨f,t,z⟩
    exact k3 v z
   cases i with
   | zero=>simp at e;subst e;exact⟨a,o,_,n,t,ρ,ho,hd,d⟩
   | succ i=>obtain⟨b,F,xs,G,t',k,l⟩:=A i g<|e;exact⟨b,F,xs,G,t',by simpa using k,l⟩
theorem KatTups.keeps (k:∀b o xs n,o.data=.seq xs n->h.get? b=ac o->h'.get? b=ac o)(t:ab8 h vs fs):ab8 h' vs fs:=by
 induction vs generalizing fs with
 | nil =>
  cases fs with
  | nil=>exact t
  | cons _ _=>exact t.elim
 | cons _ _ c =>
  cases fs with
  | nil=>exact t.elim
  | cons _ _=>obtain⟨⟨a,o,xs,n,e,ho,d,hd,r⟩,t⟩:=t;exact⟨⟨a,o,xs,n,e,k _ _ _ _ hd ho,d,hd,r⟩,c t⟩
def tS(lt:Nat->Nat->Bool)(vs out:List V):Prop:=∃q:Array Nat,df q vs.length/\fj lt q vs.length/\out=q.toList.map λi=>vs.getD i .aF
theorem Ur(J:X.ex=[])(I:Inv X pins σ H s)(K:aJ vs its)(h2:2<=vs.length)(h64:vs.length<64)(O:Ord lt vs.length)(hT:(T==T)=bi)(t:∃a:List dk,ab8 s.heap its a/\a.length=vs.length/\∀v∈a,∀h:pq,afl (k7 X.prog X.w) h (typeOf v) T)(L:∀i j,i<vs.length->j<vs.length->i≠j->∀h':pq,(∀b o xs n,o.data=.seq xs n->s.heap.get? b=ac o->h'.get? b=ac o)->∀C:Bool->eK->Prop,C (lt i j) {s with heap:=h'}->ka (k7 X.prog X.w) X.A.in1.in1 (afF (tuples'<|T != .type "tuple") (its.getD i tm)<|its.getD j tm) C (λ_ _=>False) {s with heap:=h'})(q:∀out,tS lt vs out->∀l,H l=am->Q (.ref l) (upd H l<|.L out))(hn:s.heap.Ns X.env.locals m)(hl:∀(i:Nat) (x:eT) (v:V),X.N[i]?=ac x->σ[i]?=ac (ac v)->cc X.env.scope x->∃u,RelV v u/\Look X.env s.heap m x u)(M:∀p∈nA (fM s.heap X.env.locals) s.heap X.env.locals,p.1<D)(F:Fr (fM s.heap X.env.locals) X.env.locals h' m)(N:News (fM s.heap X.env.locals) X.env.locals h' ((D,aaT "list" #[] r)::nA (fM s.heap X.env.locals) s.heap X.env.locals))(hR:∀P,EP X pins σ Q (.ref D) P->R P) :
  ka (k7 X.prog X.w) X.A.in1.in1 (keyKind' its.toArray) (fun κ s'=>(af5 its.length).kasWp (W.kas_ask X.prog X.w X.A.in1.in1 κ its) (λp S=>W.KasFin (fM s.heap X.env.locals) X.env.locals m D r (p.toList.map λi=>its.getD i tm) R S) s') (λ_ _=>False) {s with heap:=h'}:=by
 have B:=K.length;obtain⟨oL,esL,epL,U,Y,_⟩:=id hn;obtain⟨a,t,kl,ks⟩:=t;have kp:=yQ F N λq E=>fk _ E;have d:∀b o xs n,o.data=.seq xs n->s.heap.get? b=ac o->h'.get? b=ac o:=λb o xs n hd ho=>kp b o (λz=>by rw[z,U] at ho;obtain rfl:=sO ho;rw[Y] at hd;contradiction) ho;refine W.kat_kind (KatTups.keeps d t) (by lia) (λv hv=>ks v hv _) hT ?_;obtain⟨Z,cq,G,uq⟩:=K' O (by lia);rw[<-B];refine cq.wp (λi j ok C hC=>L i j ok.1 ok.2.1 ok.2.2 h' d C hC) ?_;have f:s.heap.get? D=am:=by
  cases y:s.heap.get? D with
  | none=>rfl
  | some o=>have a1:=N (D,aaT "list" #[] r) eN;exact absurd (M _<|yi a1.2.1 a1.2.2 y)<|zd _
 refine W.KasFin.intro F N (.head λp hp=>ia<|M p hp) λVt c g k=>hR _ ?_;have Vu:=yQ g k λq E=>fk _ E;refine⟨.ref D,upd H D<|.L (Z.toList.map λi=>vs.getD i .aF),I.yO hl g.ns Vu f (λb hb=>by rw[J] at hb;simp at hb) ?_,ρ,q _ ⟨Z,G,uq,ρ⟩ D<|I.aq.dead f⟩;refine⟨?_,_,c,Ha K _<|rE G,(k _ eN).1⟩;rw[ax,nT,G.size,KX];lia
theorem R5{vs:List V}(h:vs.length<2):vs=(hM vs.length).toArray.toList.map λi=>vs.getD i .aF:=by
 cases vs with
 | nil=>rfl
 | cons v vs =>
  cases vs with
  | nil=>rfl
  | cons _ _=>simp at h;omega
theorem zl(t:X.ex=[])(I:Inv X pins σ H s)(Y:Rd H p (.L vs))(u:vs.length<64)(O:Ord lt vs.length)(Z:(T==T)=bi)(kt:∀its,aJ vs its->∃k:List dk,ab8 s.heap its k/\k.length=vs.length/\∀v∈k,∀h:pq,afl (k7 X.prog X.w) h (typeOf v) T)(B:∀its,aJ vs its->∀i j,i<vs.length->j<vs.length->i≠j->∀h':pq,(∀b o xs n,o.data=.seq xs n->s.heap.get? b=ac o->h'.get? b=ac o)->∀C:Bool->eK->Prop,C (lt i j) {s with heap:=h'}->ka (k7 X.prog X.w) X.A.in1.in1 (afF (tuples'<|T != .type "tuple") (its.getD i tm)<|its.getD j tm) C (λ_ _=>False) {s with heap:=h'})(q:∀out,tS lt vs out->∀l,H l=am->Q (.ref l) (upd H l<|.L out)):ka (k7 X.prog X.w) X.A (call (.builtin "sorted") [.ref p]) (EP X pins σ Q) X.xe s:=by
 obtain⟨z,its,n,d,e⟩:=Y.ok I.aq;have hlen:=d.length;have E:s.heap.IsList p its.toArray:=⟨_,e,ρ,n,ρ⟩;obtain⟨m,r,hl⟩:=I.loc;have F:=r;obtain⟨oL,G,J,f,K,_⟩:=F;by_cases h2:2<=its.length
 ·exact W.kat_sorted (I.CY r) D3 E h2 ∅ λD e1 h' F' N' L=>Ur t I d ∅ u O Z (kt its d) (B its d) q r hl L F' N' λ_ x=>x
 refine abv kind_sorted plain_sorted entry_sorted (args_sorted1 _) ?_;unfold aa1.«sorted»;refine ey (m:=checkCount "sorted" 1 1 _)<|gi<|ey<|collect_list E (ey<|aeh ?_ (by rw[KX];omega)) (by rw[KX];omega);generalize M:((s.heap.push<|aaT "list" #[] 0).update s.heap.objs.size (aa0 (· ++ its.toArray)))=g;have N:g.objs.size=s.heap.objs.size+1:=by rw[<-M,ac1,size_push']
 have P:∀b o,s.heap.get? b=ac o->(g.push<|aaT "list" its.toArray 0).get? b=ac o:=λb o q=>by have lt:=gD q;refine fA _ ?_;rw[<-M,aad _ _<|acW lt];exact fA _ q
 have R:(g.push<|aaT "list" its.toArray 0).get? g.objs.size=ac (aaT "list" its.toArray 0):=lD _ ρ;refine ey<|sj<|ZP ad5 ⟨_,R,ρ⟩ adL (Uv (s:={s with heap:=g.push (aaT "list" its.toArray 0)}) R ∅ λh' c hD kp=>⟨_,ρ,gi ⟨_,ρ,?_⟩⟩)<|ad6 _;have a:s.heap.get? g.objs.size=am:=by
  cases y:s.heap.get? g.objs.size with
  | none=>rfl
  | some o=>have:=gD y;rw[N] at this;exact absurd this<|agV.2<|aa9 _
 have S:∀b o,b≠X.env.locals->s.heap.get? b=ac o->h'.get? b=ac o:=λb o _ q=>kp b o (λz=>by rw[z,a] at q;exact nO q)<|P b o q;have U:h'.Ns X.env.locals m:=⟨oL,G,J,kp _ _ (λz=>by rw[z,a] at f;exact nO f)<|P _ _ f,K,by assumption⟩;have one:tS lt vs vs:=by refine⟨(hM vs.length).toArray,Gz,λi j hij hj=>by omega,?_⟩;exact R5 ∅
 refine⟨.ref g.objs.size,upd H g.objs.size<|.L vs,I.yO (tk:=s.toks) hl U S a (by simp_all) ⟨z,its,c,d,hD⟩,ρ,q vs one _<|I.aq.dead a⟩
theorem Ml(D:X.ex=[]):bD X (.builtin "sorted") (uM X.K):=by
 intro pins s σ H xs us Q I r h;obtain⟨p,vs,fs,rfl,N,c,nd,E,q⟩:=h;obtain⟨u,rfl,O⟩:=r.one;subst O;refine zl D (T:=.type "str") I N E (by rw[c.1];exact To nd) ρ (λits y=>?_) (λits y i j A B F h' n C P=>?_) q
 ·obtain⟨R,S,U,V,_⟩:=kat_tups I c y;refine⟨R,S,by rw[U];exact c.1.symm,λv Y h=>?_⟩;obtain⟨x,t,rfl⟩:=V v Y;exact acS ρ
 obtain⟨_,_,_,_,w⟩:=kat_tups I c y;rw[c.1] at A B;obtain⟨a,o,xs,n1,t1,Z,a2,G,d⟩:=w i _<|bg A;obtain⟨b,o',ys,n2,t2,b1,b2,J,f⟩:=w j _<|bg B;have ea:its.getD i tm=.ref a:=by rw[mu,Z];rfl
 have eb:its.getD j tm=.ref b:=by rw[mu,b1];rfl
 rw[ea,eb];apply af4 (n _ _ _ _ G a2) G (n _ _ _ _ J b2) J;obtain⟨g,k,ex⟩:∃g k,xs.toList=g::k:=by
  cases hx:xs.toList with
  | nil=>rw[<-hH,hx] at d;exact nO d
  | cons g k=>exact⟨g,k,ρ⟩
 obtain⟨l,m,L⟩:∃l m,ys.toList=l::m:=by
  cases hy:ys.toList with
  | nil=>rw[<-hH,hy] at f;exact nO f
  | cons l m=>exact⟨l,m,ρ⟩
 rw[<-hH,ex] at d;rw[<-hH,L] at f;obtain rfl:=sO d;obtain rfl:=sO f;simp only[ex,L];have M:fs[i]≠fs[j]:=λz=>F<|(z7 nd).1 z;refine afd<|abb ?_;simp[decide_eq_false M];refine af3<|oneLt_str ?_;have:my fs i j=bd (fs[i].cps.toList<fs[j].cps.toList):=by unfold my;rw[eP A,eP B]
 simp only[<-this];exact P
def qx(c:List eT):Prop:=c.Pairwise λa b=>¬(b.cps.toList<a.cps.toList)
def yh (k:ab1 vs h)(c:xs.Perm (pairsOf vs))(hs:SortedToK strKind xs (pairsOf vs).size) :
  ∃a,ab1 (xs.map (·.2)).toList a/\a.Perm h/\qx a:=by
 obtain⟨a,d,v,_⟩:=sorted_out_str k c hs;refine⟨a,d,v,?_⟩;have hsz:xs.size=(pairsOf vs).size:=c.size_eq;have f:∀p,p∈xs.toList->p.1=p.2/\p.1∈vs:=λp l=>mem_zip_self (by
  have hl:xs.toList.Perm (vs.zip vs):=by rw[<-pairsOf_toList];exact ads.1 c
  exact hl.mem_iff.1 l)
 have g:a.length=xs.size:=by rw[<-d.strs];simp
 have get:∀(i:Nat) (b:i<a.length),KK strKind xs i=a[i].cps.toList:=λi b=>by
  have n:i<xs.size:=by rw[<-g];exact b
  have w:=d.strs;have m:=f xs[i] ⋯;obtain⟨y,t,o⟩:=k.all _ m.2;have x:xs[i]=(ZR y t,xs[i].2):=by rw[<-o]
  rw[KK_str n x];have r:a[i]?=ac y:=by simp only[<-w,ez,hH,aes,me n];simp;rw[<-m.1,o];rfl
  rw[bg b] at r;obtain rfl:=sO r;rfl
 delta qx;rw[za];intro i j b z u;have q:=hs i j (ab9 u) (by simp_all);rw[get i b,get j z] at q;exact of_decide_eq_false q
def u3:List V->Hp->VK->Prop:=λxs H Q=>∃p kvs b,xs=[.ref p]/\Rd H p (.dK kvs)/\kvs.map (·.1)=b.map pl/\kvs.length<64/\∀a,a.Perm b->qx a->∀l,H l=am->Q (.ref l) (upd H l<|.L<|a.map V.str)
theorem xm (h:ab1 us ys):aJ (ys.map V.str) us:=by
 induction h with
 | nil=>exact .nil
 | cons y t _ a=>exact .cons ⟨t,ρ⟩ a
theorem CZ:∀{a:List eT}{vs:List dk},vs.length=a.length->(∀(j:Nat) (u:dk),vs[j]?=ac u->∃y,a[j]?=ac y/\j5 (pl y) u=bi)->ab1 vs a
 | [],[],_,_=>.nil
 | [],_::_,h,_=>by simp at h
 | _::_,[],h,_=>by simp at h
 | y::a,v::vs,h,k=>by
  obtain⟨y',b,c⟩:=k 0 v ρ;obtain rfl:=sO b;rcases jC c with⟨i,t,z,_⟩|⟨x,t,z,d⟩
  ·contradiction
  cases z;rw[d];exact .cons _ _ (CZ (by simpa using h) λj u e=>by simpa using k (j+1) u (e))
theorem OM(hex:X.ex=[])(U:X.calm=bi):bD X (.builtin "sorted") u3:=by
 intro pins s σ H xs us Q I r h;obtain⟨p,kvs,v,rfl,Y,G,h64,q⟩:=h;obtain⟨u,rfl,Z⟩:=r.one;subst Z;obtain⟨z,lo,J,i,dd⟩:=jT I.aq Y;obtain⟨ep,K⟩:=dd.dictAt;obtain⟨m,hn,hl⟩:=I.loc;have A:∀b∈X.ex,∃o,s.heap.get? b=ac o:=by simp_all
 have Fl:=I.CY hn;have Nl:News (fM s.heap X.env.locals) X.env.locals s.heap (nA (fM s.heap X.env.locals) s.heap X.env.locals):=D3;have hkl:=i.length;have L:=i.keys;have M:v.length=kvs.length:=by simpa using (congrArg List.length G).symm
 refine W.kdu_sorted (W.kdl_dict lo) (I.ok.hd U) Fl Nl K (by rw[KX];lia) λB h' tk vs N C O hvl hv=>?_;have D:ab1 vs v:=CZ (by simp_all) λj u e=>by
  obtain⟨k,x,e1,e2⟩:=hv j u e;have a:(J.map (·.1))[j]?=ac k:=by rw[ez,e1];rfl
  simp only[<-L,G,ez] at a;cases P:v[j]? with
  | none=>rw[P] at a;exact nO a
  | some y=>rw[P] at a;obtain rfl:=sO a;exact⟨y,ρ,e2⟩
 have E:=(C _ eN).1;have d:=(C _ eN).2;have g:vs.length<64:=by simp_all
 refine ZP ad5 ⟨_,E,ρ⟩ adL (agz aep E D.keysOf (λv₁ v₂ rest e=>aeU (by rw[<-e];exact D)) g λf a1 a2=>⟨_,ρ,?_⟩)<|ad6 _;obtain⟨l,b1,R,b3⟩:=yh D a1 a2;obtain⟨c,hD⟩:=ag3 E;have n:s.heap.get? B=am:=by
  cases y:s.heap.get? B with
  | none=>rfl
  | some o=>exact absurd (O _<|yi d.1 d.2 y)<|zd _
 have kp:=yQ N C λq hq=>fk _ hq;have t:∀b o,b≠B->h'.get? b=ac o->(sortedHeap h' B vs ((afg f).map (·.2))).get? b=ac o:=λb o F e=>(agT F<|gD e).trans e;have S:(sortedHeap h' B vs ((afg f).map (·.2))).Ns X.env.locals m:=by obtain⟨oL,es,T,ho,r⟩:=N.ns;exact⟨oL,es,T,t _ _ (λz=>d.1 z.symm) ho,r⟩
 refine⟨.ref B,upd H B<|.L<|l.map V.str,I.yO hl S (λb o F e=>t b o (by lia)<|kp b o F e) n A ⟨?_,_,c,xm b1,∅⟩,ρ,q l R b3 B<|I.aq.dead n⟩;simp only[ax,R.length_eq,M];exact z
theorem ou{f:Type}{R:f->f->Prop}(d:∀a b,R a b->R b a->a=b):∀{l c:List f},l.Perm c->l.Pairwise R->c.Pairwise R->l=c
 | [],c,p,_,_=>(List.Perm.eq_nil p.symm).symm
 | a::l,[],p,_,_=>by cases p.length_eq
 | a::l,b::c,p,h,h'=>by
  rw[aaE] at h h';have e:a=b:=by
   have g:=p.mem_iff.1 eN;have i:=p.mem_iff.2 eN;rcases hO.1 g with z|z
   ·exact z
   rcases hO.1 i with y|y
   ·exact y.symm
   exact d a b (h.1 b y)<|h'.1 a z
  subst e;rw[ou d (ack p) h.2 h'.2]
noncomputable def cY(a b:eT):Bool:=!bd (b.cps.toList<a.cps.toList)
def bj(a:List eT):List Str:=a.mergeSort cY
def mh:cY a b=bi ↔ ¬(b.cps.toList<a.cps.toList):=by unfold cY;simp
def ym(a b c)(d:cY a b=bi)(f:cY b c=bi):cY a c=bi:=by rw[mh] at *;grind
def zt(a b):(cY a b||cY b a)=bi:=by grind [cY]
def GD(a):qx (bj a):=by exact (Z6 (le:=cY) ym zt a).imp λh=>mh.1 h
def vj (p:c.Perm d)(h:qx c):c=bj d :=
 ou (λa b f g=>ly<|aaX (ZX.1 f)<|ZX.1 g) (p.trans (jn d cY).symm) h (GD d)
noncomputable def ml:Dat->Option eT
 | .U (.str x::_)=>ac x
 | _=>am
noncomputable def firstsD:List Dat->Option (List eT)
 | []=>ac []
 | d::r=>(ml d).bind λx=>(firstsD r).map (x::·)
def iW(d:Dat):Str:=(ml d).getD aaZ
def eZ(a b:Dat):Bool:=cY (iW a)<|iW b
def rf(ds:List Dat):List Dat:=ds.mergeSort eZ
theorem Ht:∀{ds:List Dat}{fs:List eT},firstsD ds=ac fs->fs=ds.map iW/\∀d∈ds,∃x,ml d=ac x
 | [],_,e=>by obtain rfl:=sO e;exact⟨ρ,λd h=>by simp at h⟩
 | d::r,_,e=>by
  have e:(ml d).bind (λx=>(firstsD r).map (x::·))=ac _:=e;cases b:ml d with
  | none=>rw[b] at e;exact nO e
  | some x =>
   rw[b] at e;cases a:firstsD r with
   | none=>rw[a] at e;exact nO e
   | some ys=>rw[a] at e;obtain rfl:=sO e;obtain⟨h1,h2⟩:=Ht a;simp_all [iW]
theorem Bk{K:gW}{H c:Hp}(s:aj c H):∀{ds:List Dat}{vs:List V}{fs:List eT},firstsD ds=ac fs->aA K c ds vs->nC K H vs fs
 | [],_,_,e,r=>by obtain rfl:=sO e;rw[show _=[] from r];exact⟨ρ,λi f e=>by simp at e⟩
 | d::ds,_,_,e,g=>by
  obtain⟨v,vr,k,l,rs⟩:=g;have e:(ml d).bind (λx=>(firstsD ds).map (x::·))=ac _:=e;cases a:ml d with
  | none=>rw[a] at e;exact nO e
  | some x =>
   rw[a] at e;cases b:firstsD ds with
   | none=>rw[b] at e;exact nO e
   | some ys =>
    rw[b] at e;obtain rfl:=sO e;obtain⟨m,h2⟩:=Bk s b rs;simp[k];refine⟨by simp[m],λi f h=>?_⟩;cases i with
    | zero =>
     simp at h;subst h;delta ml at a;split at a
     ·obtain rfl:=sO a;obtain⟨p,n,rfl,o,w1,wr,q,j,_⟩:=l;subst j;exact⟨p,n,ρ,bq.mono s o,by rw[q];rfl⟩
     exact nO a
    | succ i=>simp_all
theorem aA.pick{K:gW}{H:Hp}{ds:List Dat}{vs:List V}(r:aA K H ds vs):∀(l:List Nat),(∀i∈l,i<vs.length)->aA K H (l.map λi=>ds.getD i .aF) (l.map λi=>vs.getD i .aF)
 | [],_=>rfl
 | i::l,h=>by
  have b:=h i eN;have a:i<ds.length:=by rw[<-r.length];exact b
  obtain⟨v,c,d⟩:=r.get<|bg a;refine⟨vs.getD i .aF,_,ρ,?_,aA.pick r l λj f=>h j<|fk _ f⟩;simp only[mu,c,bg a];exact d
def xo{a:Type}(l:List a)(d:a):(hM l.length).map (λi=>l.getD i d)=l:=by apply ae6 ⋯;intro i h1 b;simp only[ZF,List.getElem_range,eP b]
def Vi (nd:(ds.map iW).Nodup)(P:df q ds.length)(U:fj (my<|ds.map iW) q ds.length):(q.toList.map λi=>ds.getD i .aF)=rf ds:=by
 have pm:(q.toList.map λi=>ds.getD i .aF).Perm ds:=by have:=P.pm.map<|λi=>ds.getD i .aF;rwa[xo] at this
 have l:∀i,i<ds.length->iW (ds.getD i .aF)=(ds.map iW).getD i aaZ:=λi c=>by rw[eP c,eP (by simpa using c)];simp
 have g:(q.toList.map λi=>ds.getD i .aF).Pairwise (λa b=>eZ a b=bi/\a∈ds/\b∈ds):=by
  rw[za];intro i j c d m;have n:i<ds.length:=by rw[<-P.size];simpa using c
  have f:j<ds.length:=by rw[<-P.size];simpa using d
  refine⟨?_,pm.mem_iff.1<|aat _,pm.mem_iff.1<|aat _⟩;have u:=U i j m f;have p:q.toList[i]'(by simpa using c)=q.getD i 0:=by simp only[p6,me (by simpa using c)];simp
  have r:q.toList[j]'(by simpa using d)=q.getD j 0:=by simp only[p6,me (by simpa using d)];simp
  simp only[ZF,p,r];unfold eZ;rw[l _ (P.lt i n),l _<|P.lt j f,mh];unfold my at u;exact λz=>aaO _<|acy (of_decide_eq_true u) z
 have qK:(rf ds).Pairwise (λa b=>eZ a b=bi/\a∈ds/\b∈ds):=by
  refine acI (λt v o=>⟨o,?_,?_⟩)<|Z6 (le:=eZ) (λa b c d f=>ym _ _ _ d f) (λa b=>zt _ _) ds
  ·exact (jn ds eZ).mem_iff.1 t
  exact (jn ds eZ).mem_iff.1 v
 refine ou (λa b k w=>?_) (pm.trans (jn ds eZ).symm) g qK;have e:=ly<|aaX (ZX.1<|mh.1 k.1)<|ZX.1<|mh.1 w.1;obtain⟨i,c,x⟩:=oy k.2.1;obtain⟨j,d,y⟩:=oy k.2.2;have A:(ds.map iW)[i]'(by simpa using c)=(ds.map iW)[j]'(by simpa using d):=by simp[x,y,e]
 have e3:=(z7 nd).1 A;simp_all
def nQ:List Dat->Option Res
 | [.a8 a]=>if a.length<64 then ac (.O (.L ((bj (a.map (·.1))).map .str))) else am
 | [.L ds]=>(firstsD ds).bind λfs=>if fs.Nodup/\ds.length<64 then ac (.O<|.L<|rf ds) else am
 | _=>am
theorem uZ{K:gW}{H:Hp}:∀{a:List (eT×Dat)}{kvs:List (Key×V)},bN K H a kvs->kvs.map (·.1)=(a.map (·.1)).map pl
 | [],_,h=>by rw[show _=[] from h];rfl
 | (k,d)::a,_,b=>by obtain⟨v,r,e,q,t⟩:=b;rw[e];simp[uZ t]
theorem lO{K:gW}{H:Hp}:∀(a:List eT),aA K H (a.map .str) (a.map V.str)
 | []=>rfl
 | x::r=>⟨.str x,_,ρ,ρ,lO r⟩
theorem Ez:CD X (λxs H Q=>uM X.K xs H Q\/u3 xs H Q) nQ:=by
 intro H0 ps δ σ H g vs ds o Q a S r k;delta nQ at a;split at a
 ·rename_i u;split at a
  ·rename_i b;obtain rfl:=sO a;obtain⟨v,w,rfl,⟨p,kvs,rfl,x,h⟩,f⟩:=r;subst f;refine τ ⟨p,kvs,u.map (·.1),ρ,Rd.of<|S.sub _ _ x,uZ h,by rw[bN.length h];exact b,λss' pm j l hl=>?_⟩;rw[vj pm j];exact k (.ref l) _ g (S.made hl) (aj.refl _) ⟨l,ρ,⟨_,aV,lO _,S.dg hl⟩,(S.bL hl).2,(S.bL hl).1,S.dJ hl⟩
  exact nO a
 ·rename_i m;cases d:firstsD m with
  | none=>rw[d] at a;exact nO a
  | some fs =>
   rw[d] at a;simp only[pR] at a;split at a
   ·rename_i b;obtain rfl:=sO a;obtain⟨v,w,rfl,⟨p,y,rfl,z,rs⟩,f⟩:=r;subst f;have c:=rs.length;refine ι ⟨p,y,fs,ρ,Rd.mono S.sub z,Bk S.sub d rs,b.1,by rw[c];exact b.2,λout h l hl=>?_⟩;obtain⟨q,P,U,A⟩:=h;obtain⟨n,_⟩:=Ht d;subst n;simp[c] at P U;have B:=Vi b.1 P U;subst A;have t:=aA.pick rs q.toList (λi C=>by rw[c];exact rE P i C);rw[B] at t;exact k (.ref l) _ g (S.made hl) (aj.refl _) ⟨l,ρ,⟨_,aV,t,S.dg hl⟩,(S.bL hl).2,(S.bL hl).1,S.dJ hl⟩
   exact nO a
 exact nO a
structure mG (x:eT):Prop where
 mark:True
def Dy (hl:mG x)(hnd:N.Nodup)(hXN:X.N=N)(hkb:(gV scope).findIdx? (·==x)=ac kb)(hj:N.findIdx? (·==x)=ac j)(f:X.calm=bi)(B:jl X.env.scope scope)(d:gP X.N (gV scope) scope (oE N scope)=bi)(hs:∀x,xn iter X.env x=pure x)(h:dy X c iter fi)(i:∀(cl:List (eT×eH)) (C:eH) (a:eK) (H:Hp) (b:List eH),DG (cz X (gV scope) scope cl C a H b) c g)(k:∀(cl:List (eT×eH)) (C:eH) (a:eK) (H:Hp) (b:List eH),lP (cz X (gV scope) scope cl C a H b) ifs fc)(l:∀(cl:List (eT×eH)) (C:eH) (a:eK) (H:Hp) (b:List eH),DD (cz X (gV scope) scope cl C a H b) elt fe):DE X (.ListComp elt [⟨c,iter,ifs,0⟩] scope pos) (eV (oE N scope) (ac (kb,j)) fi g fc fe):=Mg kb j f B d h i k l hs
end
noncomputable def iS:List Dat->List Dat->Bool
 | [],[]=>true
 | x::xs,y::ys=>dA x y&&iS xs ys
 | _,_=>false
def lY(i j):dA (.int i) (.int j)=bd (i=j):=by rfl
def jb(i j):dA (.str i) (.str j)=bd (i=j):=by rfl
theorem yx:∀xs ys:List Dat,afe (dj xs) (dj ys)=iS xs ys
 | [],[]=>by rfl
 | x::xs,[]=>by rfl
 | [],y::ys=>by rfl
 | x::xs,y::ys=>by simp only[dj,afe,yx xs ys];rfl
def zB(xs ys):dA (.U xs) (.U ys)=iS xs ys:=by show aab (.tuple<|dj xs) (.tuple<|dj ys)=_;simp only[aab,yx]
def pT(xs ys):dA (.L xs) (.L ys)=iS xs ys:=by show aab (.list<|dj xs) (.list<|dj ys)=_;simp only[aab,yx]
noncomputable def fg:Dat->Bool
 | .aF=>true
 | .bl _=>true
 | .int _=>true
 | .str x=>y1 x
 | _=>false
def n8:Dat->Bool
 | .U ds=>ds.all fg
 | .L ds=>ds.all fg
 | d=>fg d
def sZ (h:fg d=bi):jB d=bi/\(toPy d).canLay0=bi/\(toPy d).depth=0:=by
 cases d<;>first|cases h|skip
 ·exact⟨ρ,by rw[toPy,aam],by rfl⟩
 ·exact⟨ρ,by rw[toPy,aam],by rfl⟩
 ·exact⟨ρ,by rw[toPy,aam],by rfl⟩
 exact⟨ρ,by rw[toPy,aam];exact h,by rfl⟩
theorem wX{n:Nat}{p:Dat->Bool}(e:∀d,p d=bi->jB d=bi/\(toPy d).canLay0=bi/\(toPy d).depth<=n):∀{ds:List Dat},ds.all p=bi->jX ds=bi/\abt (dj ds)=bi/\ac0 (dj ds)<=n
 | [],_=>⟨ρ,by rw[dj,abt],by simp[dj,ac0]⟩
 | d::ds,h=>by
  simp only[adE,hF] at h;obtain⟨a,b,c⟩:=e d h.1;obtain⟨f,b',c'⟩:=wX e h.2;refine⟨?_,?_,?_⟩
  ·simp only[jX,a,f];rfl
  ·simp only[dj,abt,b,b'];rfl
  dsimp only[dj,ac0];lia
theorem AX (h:n8 d=bi):jB d=bi/\(toPy d).canLay0=bi/\(toPy d).depth<=1:=by
 have k:=@wX 0 fg λd h=>⟨(sZ h).1,(sZ h).2.1,age (sZ h).2.2⟩;have l:fg d=bi->jB d=bi/\(toPy d).canLay0=bi/\(toPy d).depth<=1:=by simp_all [sZ]
 cases d with
 | U ds=>obtain⟨a,b,c⟩:=k h;simp_all [jB,toPy,aam,PyData.depth]
 | L ds=>obtain⟨a,b,c⟩:=k h;simp_all [jB,toPy,aam,PyData.depth]
 | _=>exact l h
def l4 (h:n8 d=bi):bH d=bi:=by obtain⟨a,b,c⟩:=AX h;dsimp only[bH,adK];lia
def An (h:ds.all n8=bi):bH (.L ds)=bi:=by obtain⟨a,b,c⟩:=@wX 1 n8 (λd h=>AX h) ds h;dsimp only[bH,adK];simp only[jB,toPy,aam,PyData.depth,a,b];simp;lia
def lG:bH (.int i)=bi:=l4 ρ
def fT (h:y1 x=bi):bH (.str x)=bi:=l4 h
def D5 (h:ds.all fg=bi):bH (.U ds)=bi:=l4 h
theorem nR(d):∀ds:List Dat,inD d ds=ds.any λy=>dA y d
 | []=>by rfl
 | y::r=>by have:=nR d r;unfold inD at this ⊢;simp only[dj,aaD,this];rfl
noncomputable def after(g:SF):Out->Option Out
 | .next δ=>g δ
 | o=>ac o
noncomputable def pick (b:Bool)(x y:a):a:=if b=bi then x else y
section
variable{f g:DF}{e:EF}{c c':BF}{s s':SF}{a:AF}{δ δ1 δ2 δ3:DS}{d d':Dat}{ds:List Dat}{r:Res}{b b':Bool}{o o1:Out}{oo:Option Out}
def v_after{g:SF}:(gE s g δ)=(s δ).bind (after g):=by rfl
def ot{g:SF}(h:s δ=ac o1)(h':after g o1=oo):gE s g δ=oo:=by rw[v_after,h];exact h'
def oP{g:SF}(h:g δ=oo):after g (.next δ)=oo:=h
def QN{g:SF}{i:Res}{δ':DS}(h:r=i)(h':δ=δ'):after g (.ret r δ)=ac (.ret i δ'):=by rw[<-h,<-h'];rfl
def Ql:(Res.D d).val=d:=ρ
def xu(h:c δ=ac (b,δ1))(h':pick b (s δ1) (s' δ1)=oo):jm c s s' δ=oo:=by unfold jm;rw[h];exact h'
def um (j:b=bi)(h:x=z):pick b x y=z:=by subst j;exact h
def xW (j:b=bv)(h:y=z):pick b x y=z:=by subst j;exact h
def v_and(h:c δ=ac (b,δ1))(h':pick b (c' δ1) (ac (false,δ1))=ac (b',δ2)):j4 c c' δ=ac (b',δ2):=by unfold j4;rw[h];exact h'
def jD(h:c δ=ac (b,δ1))(h':c' δ1=ac (b',δ1)):j4 c c' δ=ac (b&&b',δ1):=by
 delta j4;rw[h];cases b
 ·rfl
 exact h'
def v_or(h:c δ=ac (b,δ1))(h':pick b (ac (true,δ1)) (c' δ1)=ac (b',δ2)):jL c c' δ=ac (b',δ2):=by unfold jL;rw[h];exact h'
def jZ(h:c δ=ac (b,δ1))(h':c' δ1=ac (b',δ1)):jL c c' δ=ac (b||b',δ1):=by
 delta jL;rw[h];cases b
 ·exact h'
 rfl
def jh(h:c δ=ac (b,δ1)):rN c δ=ac (!b,δ1):=by simp_all [rN]
def fY(h:f δ=ac (d,δ1))(h':qy d=ac b):oZ f δ=ac (b,δ1):=by simp_all [oZ]
def aE(h:e δ=ac (.D<|.bl b,δ1)):eM e δ=ac (b,δ1):=by unfold eM;rw[h];rfl
def pW(h:f δ=ac (.bl b,δ1))(h':g δ1=ac (.bl b',δ1)):jc f g δ=ac (.bl<|b&&b',δ1):=by
 delta jc;rw[h];cases b
 ·rfl
 exact h'
def A7(h:f δ=ac (.bl b,δ1))(h':g δ1=ac (.bl b',δ1)):o6 f g δ=ac (.bl (b||b'),δ1):=by
 delta o6;rw[h];cases b
 ·exact h'
 rfl
def v_res(h:f δ=ac (d,δ1)):qu f δ=ac (.D d,δ1):=by simp_all [qu]
def ag(h:e δ=ac (r,δ1))(h':r.val=d):fX e δ=ac (d,δ1):=by simp_all [fX]
def ak (h:f δ=ac (d,δ1))(h1:g δ1=ac (d',δ2))(h2:op d d'=ac r):cO op f g δ=ac (r,δ2):=by simp_all [cO]
def ML (h:f δ=ac (d,δ1))(h':qY d T=ac b):mJ T f δ=ac (.bl b,δ1):=by simp_all [mJ]
def aB (h:a δ=ac (ds,δ1))(h':fn ds=ac r):bV fn a δ=ac (r,δ1):=by simp_all [bV]
def dB (h0:(δ[i]?).bind ownOf=ac j)(h:a δ=ac (ds,δ1))(h1:(δ1[i]?).bind ownOf=ac t)(h2:fn t.2 ds=ac (r,d'))(h3:δ1.set i (kindAt t.1 d')=δ2):p7 fn i a δ=ac (r,δ2):=by simp_all [p7]
def ah:iy δ=ac ([],δ):=ρ
def aa(h:f δ=ac (d,δ1))(h':a δ1=ac (ds,δ2)):fI f a δ=ac (d::ds,δ2):=by simp_all [fI]
def bM(h:a δ=ac (ds,δ1))(h':ds.length<=eu):sv a δ=ac (.O<|.L ds,δ1):=by unfold sv;rw[h];exact if_pos h'
def cw(h:a δ=ac (ds,δ1))(h':ds.length<=eu):tW a δ=ac (.U ds,δ1):=by unfold tW;rw[h];exact if_pos h'
def ic{n c:Dat}(h:f δ=ac (c,δ1))(h1:g δ1=ac (n,δ2))(h2:cy c n=ac d):pZ f g δ=ac (d,δ2):=by simp_all [pZ]
def bu{i:Nat}{j n c:Dat}(h0:(δ[i]?).bind f'=ac j)(h1:g δ=ac (n,δ1))(h:(δ1[i]?).bind f'=ac c)(h2:cy c n=ac d):mS i g δ=ac (d,δ1):=by simp_all [mS]
def cu{i n:Nat}{c:Dat}(h0:(δ[i]?).bind f'=ac c)(h:bZ c=ac n):qO i δ=ac (.int n,δ):=by simp_all [qO]
def zX(h:e δ=ac (r,δ1)):nJ e δ=ac (.ret r δ1):=by simp_all [nJ]
def nM (h:e δ=ac (r,δ1))(h':j9 i r δ1=ac δ2):i6 i e δ=ac (.next δ2):=by simp_all [i6]
def AO{g:GF}(h:f δ=ac (d,δ1))(h':g d δ1=ac δ2):nY g f δ=ac (.next δ2):=by unfold nY;rw[h];show (g d δ1).map _=_;rw[h'];rfl
def rj(h:f δ=ac (d,δ1)):mn f δ=ac (.next δ1):=by simp_all [mn]
def gf (h:F δ=ac x):alt F G δ=ac x:=by unfold alt;rw[h]
def Fv{o1 o2:Dat->Dat->Option Res}(i:f δ=ac (x,δ1))(j:g δ1=ac (y,δ2))(k:o1 x y=ac (.D<|.bl b))(hh:h δ2=ac (z,δ2))(h2:o2 y z=ac (.D<|.bl b')):kd o1 o2 f g h δ=ac (.bl<|b&&b',δ2):=by
 unfold kd;simp only[i];show (g δ1).bind _=_;rw[j];simp only[pR,k];cases b
 ·rfl
 simp_all
def Rj{o1 o2:Dat->Dat->Option Res}(hh:kd o1 o2 f g h δ=ac (.bl b,δ1)):qv o1 o2 f g h δ=ac (b,δ1):=by unfold qv;rw[hh];rfl
def iY{C:Int->Int->Bool}{g:Int->Int->Dat}(h:C i j=bi):gu C g (.int i) (.int j)=ac (.D<|g i j):=if_pos h
def v_eq (h:bH x=bi)(h':bH y=bi):eF false x y=ac (.D<|.bl<|dA x y):=by unfold eF;rw[h,h'];rfl
def pC (h:bH x=bi)(h':bH y=bi):eF true x y=ac (.D<|.bl<|!dA x y):=by unfold eF;rw[h,h'];rfl
def DR (h:x.length+y.length<=eu):i5 (.str x) (.str y)=ac (.D<|.str<|x++y):=if_pos h
def kG (h:x.length+y.length<=eu):i5 (.L x) (.L y)=ac (.O<|.L<|x++y):=if_pos h
def CO (h:a δ=ac (ds,δ1))(h':ds.length<=eu):mx C a δ=ac (.exc C δ1):=by unfold mx;rw[h];exact if_pos h'
def Dg (h:f δ=ac (d,δ1))(h0:(δ1[i]?).bind ownOf=ac m)(h1:l δ1=ac (.str k,δ2))(h2:(δ2[i]?).bind ownOf=ac (b,.a8 j))(h3:j.length<eu)(h4:δ2.set i (kindAt b<|.a8<|ku j k d)=δ3):pI i l f δ=ac (.next δ3):=by simp_all [pI]
def rD (h:F δ=am)(h':G δ=ac x):alt F G δ=ac x:=by simp_all [alt]
def Ck (h:s (fK n ds)=ac (.ret r δ)):k9 n s ds=ac r:=by unfold k9;rw[h];rfl
def wY (h:s (ju n j i ds)=ac (.ret r δ))(h':δ[j]?=ac (.io k)):m7 n j s i ds=ac (r,k):=by simp_all [m7]
def vb (h:f δ=ac (d,δ1))(h0:(δ1[i]?).bind ownOf=ac m)(h1:l δ1=ac (.int k,δ2))(h2:(δ2[i]?).bind ownOf=ac (b,.L xs))(h3:fh xs.length k=ac j)(h4:δ2.set i (kindAt b<|.L<|xs.set j d)=δ3):ni i l f δ=ac (.next δ3):=by simp_all [ni]
def x5 (h:f δ=ac (d,δ1))(n:(δ1[i]?).bind ownOf=ac m)(p:j δ1=ac (.str k,δ2))(q:(δ2[i]?).bind ownOf=ac (b,.a8 l))(t:l.length<eu)(u:δ2.set i (kindAt b<|.a8<|ku l k d)=δ3):alt (ni i j f) (pI i j f) δ=ac (.next δ3):=by refine rD ?_<|Dg h n p q t u;simp_all [ni]
def qr:eF false (.int i) (.int j)=ac (.D<|.bl<|bd<|i=j):=by rw[v_eq lG lG,lY]
def mC (h:y1 i=bi)(h':y1 j=bi):eF false (.str i) (.str j)=ac (.D<|.bl<|bd<|i=j):=by rw[v_eq (fT h) (fT h'),jb]
theorem xQ{g:GF}{fc:BF}{fe:DF}(I:Nat->List Dat->DS->Prop):∀(xs:List Dat) (n:Nat) (i:List Dat) (δ:DS),I n i δ->i.length+xs.length<=eu ->
  (∀(k:Nat) (x:Dat),xs[k]?=ac x->∀i δ,I (n+k) i δ->∃δ1 b δ2,g x δ=ac δ1/\fc δ1=ac (b,δ2)/\((b=bv/\noOwn δ2=bi/\I (n+k+1) i δ2)\/∃d δ3,b=bi/\fe δ2=ac (d,δ3)/\noOwn δ3=bi/\I (n+k+1) (i++[d]) δ3)) ->
  ∃l δ',I (n+xs.length) l δ'/\compLoop g fc fe xs i δ=ac (l,δ')
 | [],n,i,δ,h,_,_=>⟨i,δ,h,ρ⟩
 | x::xs,n,i,δ,h,A,k=>by
  have u:∀(j:Nat) (y:Dat),xs[j]?=ac y->∀i δ,I (n+1+j) i δ->∃δ1 b δ2,g y δ=ac δ1/\fc δ1=ac (b,δ2)/\((b=bv/\noOwn δ2=bi/\I (n+1+j+1) i δ2)\/∃d δ3,b=bi/\fe δ2=ac (d,δ3)/\noOwn δ3=bi/\I (n+1+j+1) (i++[d]) δ3):=λj y B i δ C=>by have:=k (j+1) y B i δ (by rw[show n+(j+1)=n+1+j from by lia];exact C);rw[show n+(j+1)+1=n+1+j+1 from by lia] at this;exact this
  have v:n+(x::xs).length=n+1+xs.length:=by simp only[gk];lia
  obtain⟨δ1,b,δ2,w,z,D⟩:=k 0 x ρ i δ h;rcases D with⟨rfl,m,p⟩|⟨d,δ3,rfl,E,m,p⟩
  ·obtain⟨l,δ',q,t⟩:=xQ I xs (n+1) i δ2 p ∅ u;refine⟨l,δ',v ▸ q,?_⟩;show (g x δ).bind _=_;simp[w];rw[z];show (if noOwn δ2=bi then compLoop g fc fe xs i δ2 else am)=_;rw[if_pos m];exact t
  obtain⟨l,δ',q,t⟩:=xQ I xs (n+1) (i++[d]) δ3 p (by rw[gd];simp;omega) u;refine⟨l,δ',v ▸ q,?_⟩;show (g x δ).bind _=_;simp[w];rw[z];show (fe δ2).bind _=_;rw[E];show (if i.length<eu/\noOwn δ3=bi then _ else am)=_;rw[if_pos ⟨∅,m⟩];exact t
end
structure rB (K:gW) (mg:eT->Option dk) (x:eT) (C:eH):Prop where
 at_:mg x=ac (.ref C)
 is:∃(B newId initId:String) (bmB:List dk),aeR B newId initId bmB/\ac7 K C bmB newId=bi
section
variable{X:Cx}{pos:z5}{e:hQ}
def Li (h:rB X.K X.mg x C)(c:X.A.handled=am)(j:Gl X x)(k:DA X (e::b) fa)(d:bA x)(l:bC X e b)(f:(Hz a<|ma b X.env).any (·.1)=bv) :
  b8 X (.Raise (ac<|.Call (.Name x g) (e::b) [] a) am pos) (mx C fa):=by
 obtain⟨B,n,i,bm,F,m⟩:=h.is;exact JI F m c j h.at_ k d l f
def Ko (h:s (fK n ds)=ac (.ret r δ)):iG n s ds=ac (.ok r):=by unfold iG;rw[h];rfl
def TH (h:s (fK n ds)=ac (.exc C δ)):iG n s ds=ac (.exc C):=by unfold iG;rw[h];rfl
def U0 (h:s (fK n ds)=ac (.next δ)):iG n s ds=ac (.ok<|.D .aF):=by unfold iG;rw[h];rfl
end
def WS(s:SF)(δ:DS)(Q:Out->Prop):Prop:=∃o,s δ=ac o/\Q o
def AQ(g:SF)(Q:Out->Prop):Out->Prop
 | .next δ=>WS g δ Q
 | .ret r δ=>Q (.ret r δ)
 | .brk δ=>Q (.brk δ)
 | .cont δ=>Q (.cont δ)
 | .exc C δ=>Q<|.exc C δ
def WB(c:BF)(δ:DS)(Q:Bool->DS->Prop):Prop:=∃b δ1,c δ=ac (b,δ1)/\Q b δ1
section
variable{f g:DF}{e:EF}{c c':BF}{s s':SF}{a:AF}{δ δ1 δ2 δ3:DS}{d d':Dat}{ds:List Dat}{r:Res}{b b':Bool}{Q:Out->Prop}{P:lq}{w:qh}{K:gW}{mg:eT->Option dk}{base:pq}
def WS.mono (h:WS s δ Q)(k:∀o,Q o->i o):WS s δ i:=⟨h.choose,h.choose_spec.1,k _ h.choose_spec.2⟩
theorem af{g:SF}(h:WS s δ (AQ g Q)):WS (gE s g) δ Q:=by
 obtain⟨o,e,q⟩:=h;cases o with
 | next δ1=>obtain⟨o2,i,j⟩:=q;exact⟨o2,by rw[v_after,e];exact i,j⟩
 | ret r δ1=>exact⟨_,by rw[v_after,e];rfl,q⟩
 | brk δ1=>exact⟨_,by rw[v_after,e];rfl,q⟩
 | cont δ1=>exact⟨_,by rw[v_after,e];rfl,q⟩
 | exc C δ1=>exact⟨_,by rw[v_after,e];rfl,q⟩
def aw(q:Q (.next δ)):WS lE δ Q:=⟨_,ρ,q⟩
def ai{g:SF}(h:WS g δ Q):AQ g Q (.next δ):=h
def bO{g:SF}(h:Q (.ret r δ)):AQ g Q (.ret r δ):=h
def aD (h:e δ=ac (r,δ1))(h':j9 i r δ1=ac δ2)(q:Q (.next δ2)):WS (i6 i e) δ Q:=⟨_,nM h h',q⟩
def Ay{g:GF}(h:f δ=ac (d,δ1))(h':g d δ1=ac δ2)(q:Q (.next δ2)):WS (nY g f) δ Q:=⟨_,AO h h',q⟩
def aZ(h:e δ=ac (r,δ1))(q:Q (.ret r δ1)):WS (nJ e) δ Q:=⟨_,zX h,q⟩
def gO(h:f δ=ac (d,δ1))(q:Q (.next δ1)):WS (mn f) δ Q:=⟨_,rj h,q⟩
def xj(h:WB c δ λb δ1=>(b=bi->WS s δ1 Q)/\(b=bv->WS s' δ1 Q)):WS (jm c s s') δ Q:=by
 obtain⟨b,δ1,e,j,k⟩:=h;cases b
 ·obtain⟨o,i,q⟩:=k ρ;exact⟨o,xu e i,q⟩
 obtain⟨o,i,q⟩:=j ρ;exact⟨o,xu e i,q⟩
def bK(h:c δ=ac (b,δ1))(t:b=bi->WS s δ1 Q)(n:b=bv->WS s' δ1 Q):WS (jm c s s') δ Q:=xj ⟨b,δ1,h,t,n⟩
def u7{Q:Bool->DS->Prop}(h:c δ=ac (b,δ1))(q:Q b δ1):WB c δ Q:=⟨b,δ1,h,q⟩
def G0{Q:Bool->DS->Prop}(h:WB c δ λb δ1=>(b=bi->WB c' δ1 Q)/\(b=bv->Q false δ1)):WB (j4 c c') δ Q:=by
 obtain⟨b,δ1,e,i,j⟩:=h;cases b
 ·exact⟨false,δ1,v_and e ρ,j ρ⟩
 obtain⟨b',δ2,k,q⟩:=i ρ;exact⟨b',δ2,v_and e k,q⟩
def tG (h:a δ=ac (ds,δ1))(h':ds.length<=eu)(q:Q (.exc C δ1)):WS (mx C a) δ Q:=⟨_,CO h h',q⟩
def Ot(Q:Out->Prop):Out->Prop
 | .exc _ _=>False
 | .next δ=>Q (.next δ)
 | .ret r δ=>Q (.ret r δ)
 | .brk δ=>Q (.brk δ)
 | .cont δ=>Q<|.cont δ
theorem i9(h:WS s δ (Ot Q)):WS (tX s) δ Q:=by
 obtain⟨o,e,q⟩:=h;dsimp only[WS,tX];rw[e];cases o with
 | exc C δ1=>exact q.elim
 | _=>exact⟨_,ρ,q⟩
def tM(N:DS->Prop)(Q:Out->Prop):Out->Prop
 | .next δ=>N δ
 | .cont δ=>N δ
 | .brk δ=>Q (.next δ)
 | .ret r δ=>Q (.ret r δ)
 | .exc _ _=>False
theorem AS{g:GF}{fb:SF}{Q:Out->Prop}(I:Nat->DS->Prop):∀(xs:List Dat) (n:Nat) (δ:DS),I n δ->(∀(k:Nat) (x:Dat),xs[k]?=ac x->∀δ,I (n+k) δ->∃δ1,g x δ=ac δ1/\WS fb δ1 (tM (I<|n+k+1) Q)) ->
  (∀δ,I (n+xs.length) δ->Q (.next δ))->WS (forLoop g fb xs) δ Q
 | [],n,δ,h,_,i=>⟨_,ρ,i δ h⟩
 | x::xs,n,δ,h,k,i=>by
  obtain⟨δ1,m,o,p,q⟩:=k 0 x ρ δ h;have go:∀δ2,I (n+0+1) δ2->WS (forLoop g fb xs) δ2 Q:=fun δ2 t=>AS I xs (n+1) δ2 t (λj y u δ v=>by
   have:=k (j+1) y u δ (by rw[show n+(j+1)=n+1+j from by lia];exact v);rw[show n+(j+1)+1=n+1+j+1 from by lia] at this
   exact this)<|fun δ hd=>i δ (by simp only[gk,show n+(xs.length+1)=n+1+xs.length from by lia];exact hd)
  have hh:∀l,fb δ1=ac l->forLoop g fb (x::xs) δ=match l with
   | .next δ2=>forLoop g fb xs δ2
   | .cont δ2=>forLoop g fb xs δ2
   | .brk δ2=>ac (.next δ2)
   | .ret r δ2=>ac (.ret r δ2)
   | .exc _ _=>am:=λl z=>by
   show (g x δ).bind _=_;rw[m];show (fb δ1).bind _=_;rw[z];cases l<;>rfl
  have hh:=hh o p;delta WS;cases o with
  | next δ2=>rw[hh];exact go δ2 q
  | cont δ2=>rw[hh];exact go δ2 q
  | brk δ2=>rw[hh];exact⟨_,ρ,q⟩
  | ret r δ2=>rw[hh];exact⟨_,ρ,q⟩
  | exc C δ2=>exact q.elim
def cN{fi:IF}{g:GF}{fb:SF}(I:Nat->DS->Prop)(h:fi δ=ac (ds,δ1))(l:I 0 δ1)(st:∀(k:Nat) (x:Dat),ds[k]?=ac x->∀δ,I k δ->∃δ1,g x δ=ac δ1/\WS fb δ1 (tM (I<|k+1) Q))
 (i:∀δ,I ds.length δ->Q (.next δ)):WS (pd fi g fb) δ Q:=by
 have:=AS I ds 0 δ1 l (λk x m δ j=>by
  obtain⟨δ1,n,w⟩:=st k x m δ (by rw[ZE] at j;exact j)
  exact⟨δ1,n,by rw[ZE];exact w⟩)<|fun δ hd=>i δ (by rw[ZE] at hd;exact hd)
 obtain⟨o,e,q⟩:=this;exact⟨o,(λh h'=>by unfold pd;rw[h];exact h') h e,q⟩
def Le {P:iP->Prop}(h:WS s (fK n ds) λo=>(∃r δ,o=.ret r δ/\P (.ok r))\/(∃C δ,o=.exc C δ/\P (.exc C))\/∃δ,o=.next δ/\P (.ok<|.D .aF)):∃r,iG n s ds=ac r/\P r:=by
 obtain⟨o,e,h⟩:=h;rcases h with⟨r,δ,rfl,p⟩|⟨C,δ,rfl,p⟩|⟨δ,rfl,p⟩
 ·exact⟨_,Ko e,p⟩
 ·exact⟨_,TH e,p⟩
 exact⟨_,U0 e,p⟩
def DZ{caps:List (Option Nat)}{fi:IF}{g:GF}{fc:BF}{fe:DF}{out:List Dat}{i:DS}(h:fi δ=ac (ds,δ1))(hf:bB am caps δ1=δ2)(hl:compLoop g fc fe ds [] (cC caps δ2)=ac (out,i)):eV caps am fi g fc fe δ=ac (.O<|.L out,δ2):=by simp_all [eV]
def Je{caps:List (Option Nat)}{k j:Nat}{fi:IF}{g:GF}{fc:BF}{fe:DF}{out:List Dat}{i:DS}{l m:Dat}(h:fi δ=ac (ds,δ1))(hf:bB (ac (k,j)) caps δ1=δ2)(hc:caps[k]?=ac (ac j))(hj:δ2[j]?=ac (.io l))
 (hl:compLoop g fc fe ds [] ((cC caps δ2).set k (.io l))=ac (out,i))(hk:i[k]?=ac (.io m))(h3:δ2.set j (.io m)=δ3):eV caps (ac (k,j)) fi g fc fe δ=ac (.O<|.L out,δ3):=by
 simp_all [eV]
theorem Ho{g:GF}{fc:BF}{fe:DF}{l:DS}(put:Dat->DS)(keep:Dat->Bool)(val:Dat->Dat):∀(xs:List Dat) (h:List Dat) (δ:DS),h.length+xs.length<=eu ->
  (∀x∈xs,∀δ,(δ=l\/∃y,δ=put y)->g x δ=ac (put x))->(∀x∈xs,fc (put x)=ac (keep x,put x))->(∀x∈xs,keep x=bi->fe (put x)=ac (val x,put x))->(∀x∈xs,noOwn (put x)=bi)->(δ=l\/∃y,δ=put y) ->
  ∃δ',compLoop g fc fe xs h δ=ac (h++(xs.filter keep).map val,δ')
 | [],h,δ,_,_,_,_,_,_=>⟨δ,by simp[compLoop]⟩
 | x::xs,h,δ,u,n,o,p,q,hd=>by
  simp at u;have v:=n x (eN ..) δ hd;have z:=o x<|eN ..;have A:=q x<|eN ..;have j:=λk (t:k.length+xs.length<=eu)=>Ho put keep val xs k (put x) t (λy i=>n y<|fk _ i) (λy i=>o y<|fk _ i) (λy i=>p y<|fk _ i) (λy i=>q y<|fk _ i)<|τ ⟨x,ρ⟩;cases m:keep x with
  | false=>obtain⟨δ',e⟩:=j h ∅;simp_all [compLoop]
  | true=>obtain⟨δ',e⟩:=j (h++[val x]) (by rw[gd];simp;omega);refine⟨δ',?_⟩;show (g x δ).bind _=_;rw[v];show (fc<|put x).bind _=_;rw[z,m];show (fe<|put x).bind _=_;rw[p x (eN ..) m];show (if h.length<eu/\noOwn (put x)=bi then _ else am)=_;rw[if_pos ⟨∅,A⟩,e,Z8,m];simp
def WE(e:EF)(δ:DS)(Q:Res->DS->Prop):Prop:=∃r δ1,e δ=ac (r,δ1)/\Q r δ1
def WD(f:DF)(δ:DS)(Q:Dat->DS->Prop):Prop:=∃d δ1,f δ=ac (d,δ1)/\Q d δ1
def WA(a:AF)(δ:DS)(Q:List Dat->DS->Prop):Prop:=∃ds δ1,a δ=ac (ds,δ1)/\Q ds δ1
def Ul{Q:Res->DS->Prop}(h:e δ=ac (r,δ1))(q:Q r δ1):WE e δ Q:=⟨r,δ1,h,q⟩
def zM{Q:Dat->DS->Prop}(h:f δ=ac (d,δ1))(q:Q d δ1):WD f δ Q:=⟨d,δ1,h,q⟩
def J8{Q:Res->DS->Prop}(h:WD f δ λd δ1=>Q (.D d) δ1):WE (qu f) δ Q:=by obtain⟨d,δ1,i,q⟩:=h;exact⟨_,δ1,v_res i,q⟩
def R8{Q:Dat->DS->Prop}(h:WE e δ λr δ1=>Q r.val δ1):WD (fX e) δ Q:=by obtain⟨r,δ1,i,q⟩:=h;exact⟨_,δ1,ag i ρ,q⟩
def KW{Q:List Dat->DS->Prop}(q:Q [] δ):WA iy δ Q:=⟨_,_,ρ,q⟩
def Kd{Q:List Dat->DS->Prop}(h:WD f δ λd δ1=>WA a δ1 λds δ2=>Q (d::ds) δ2):WA (fI f a) δ Q:=by obtain⟨d,δ1,i,ds,δ2,j,q⟩:=h;exact⟨_,δ2,aa i j,q⟩
def QW {Q:Res->DS->Prop}(h:WA a δ λds δ1=>∃r,fn ds=ac r/\Q r δ1):WE (bV fn a) δ Q:=by obtain⟨ds,δ1,i,r,j,q⟩:=h;exact⟨r,δ1,aB i j,q⟩
def Jt (h:f δ=ac (.L ds,δ1))(i:dq ds=ac ys)(j:sep.length<=16/\(ys.map (·.length)).sum+ys.length<=1048576):rP sep f δ=ac (.str<|abU sep ys,δ1):=by delta rP;simp[h];simp only[i];exact if_pos j
def SH (h:WE e δ λr δ1=>∃δ2,j9 i r δ1=ac δ2/\Q (.next δ2)):WS (i6 i e) δ Q:=by obtain⟨r,δ1,j,δ2,k,q⟩:=h;exact⟨_,nM j k,q⟩
def AJ (h:WE e δ λr δ1=>Q<|.ret r δ1):WS (nJ e) δ Q:=by obtain⟨r,δ1,i,q⟩:=h;exact⟨_,zX i,q⟩
def LL{caps:List (Option Nat)}{kb j:Nat}{fi:IF}{g:GF}{fc:BF}{fe:DF}{xs:List Dat}{m:Dat}{Q:Res->DS->Prop}(I:Nat->List Dat->DS->Prop)(u:fi δ=ac (xs,δ1))(v:bB (ac (kb,j)) caps δ1=δ2)(y:caps[kb]?=ac (ac j))(z:δ2[j]?=ac (.io m))(A:I 0 [] ((cC caps δ2).set kb (.io m)))(B:xs.length<=eu)
 (st:∀(k:Nat) (x:Dat),xs[k]?=ac x->∀h δ,I k h δ->∃δ1,g x δ=ac δ1/\WB fc δ1 λb δ2=>(b=bv->noOwn δ2=bi/\I (k+1) h δ2)/\(b=bi->WD fe δ2 λd δ3=>noOwn δ3=bi/\I (k+1) (h++[d]) δ3))
 (n:∀h δ,I xs.length h δ->∃l,δ[kb]?=ac (.io l)/\Q (.O<|.L h) (δ2.set j<|.io l)):WE (eV caps (ac (kb,j)) fi g fc fe) δ Q:=by
 obtain⟨h,o,p,C⟩:=xQ I xs 0 [] _ A (by simpa using B) (λk x D h δ i=>by
  rw[ZE] at i ⊢;obtain⟨δ1,E,b,δ2,F,t,G⟩:=st k x D h δ i;refine⟨δ1,b,δ2,E,F,?_⟩;cases b
  ·exact ι ⟨ρ,(t ρ).1,(t ρ).2⟩
  obtain⟨d,δ3,H,J,L⟩:=G ρ;exact τ ⟨d,δ3,ρ,H,J,L⟩)
 rw[ZE] at p;obtain⟨l,i,q⟩:=n h o p;exact⟨_,_,Je u v y z C i ρ,q⟩
noncomputable def gq (n:Nat)(f:List h->Option i):List h->Option i:=λds=>if ds.length=n then f ds else am
def zx{i j:Type}{n:Nat}{f:List i->Option j}{ds:List i}(h:ds.length=n):gq n f ds=f ds:=if_pos h
def bW{x h:eT}{st:ZZ}{f:eH}{m:hU}{N j:List eT}{k n:Nat}{fb:SF}{Spec:aY->Prop}(F:a9 K x h st f m)(S:br N j (aK st))(hn:j.length=n)
 (o:∀(i:dk) (A:pk) (outer:List Env) (s:eK) (H:Hp) (E:XK),cb k (A.deeper<|aaJ h (aK st) s.heap.objs.size f i)->fJ (dQ bb P w K mg base N h (aK st) f i A outer s H E).iA (fV st) fb)
 (l:Spec (gq n<|k9 N.length fb)):∃fn,aS P w K mg base bb (k+1) f m j (aG K fn)/\Spec fn:=by
 refine⟨_,OZ F S ?_ o ?_,l⟩;simp_all [gq];simp[gq]
def nS{x h:eT}{st:ZZ}{f:eH}{o:hU}{N l:List eT}{k n j:Nat}{fb:SF}{Spec:cK->Prop}(F:a9 K x h st f o)(S:br N l (aK st))(hn:l.length=n+1)
 (p:∀(i:dk) (A:pk) (outer:List Env) (s:eK) (H:Hp) (E:XK),cb k (A.deeper<|aaJ h (aK st) s.heap.objs.size f i)->fJ (dQ bb P w K mg base N h (aK st) f i A outer s H E).iA (fV st) fb)
 (m:Spec (λc=>gq n<|m7 N.length j fb c)):∃fn,aS P w K mg base bb (k+1) f o l (dz K j fn)/\Spec fn:=by
 refine⟨_,M8 F S ?_ p ?_,m⟩;simp_all [gq];simp[gq]
def sR{x i:eT}{st:ZZ}{f:eH}{o:hU}{N l:List eT}{k n:Nat}{fb:SF}{Spec:fE->Prop}(F:a9 K x i st f o)(S:br N l (aK st))(p:l.length=n)
 (q:∀(j:dk) (A:pk) (outer:List Env) (s:eK) (H:Hp) (E:XK),cb k (A.deeper<|aaJ i (aK st) s.heap.objs.size f j)->fJ (dQ (dP P w) P w K mg base N i (aK st) f j A outer s H E) (fV st) fb)
 (m:Spec (gq n<|iG N.length fb)):∃fn,aS P w K mg base (dP P w) (k+1) f o l (gS K fn)/\Spec fn:=by
 refine⟨_,Vk F S ?_ q ?_,m⟩
 ·intro ds r h;unfold gq at h;split at h
  ·rename_i e;simp only[e,p]
  exact nO h
 intro ds r h;unfold gq at h;split at h
 ·exact h
 exact nO h
def oj {P:Res->Prop}(i:ds.length=m)(h:WS s (fK n ds) λo=>∃r δ,o=.ret r δ/\P r):∃r,gq m (k9 n s) ds=ac r/\P r:=by rw[zx i];exact (λh=>by obtain⟨o,e,r,δ,rfl,p⟩:=h;exact⟨r,Ck e,p⟩) h
def rX {P:Res->Dat->Prop}(l:ds.length=m)(h:WS s (ju n j k ds) λo=>∃r δ i,o=.ret r δ/\δ[j]?=ac (.io i)/\P r i):∃r i,gq m (m7 n j s k) ds=ac (r,i)/\P r i:=by rw[zx l];exact (λh=>by obtain⟨o,e,r,δ,i,rfl,h,p⟩:=h;exact⟨r,i,wY e h,p⟩) h
def wU {P:iP->Prop}(i:ds.length=m)(h:WS s (fK n ds) λo=>(∃r δ,o=.ret r δ/\P (.ok r))\/(∃C δ,o=.exc C δ/\P (.exc C))\/∃δ,o=.next δ/\P (.ok<|.D .aF)):∃r,gq m (iG n s) ds=ac r/\P r:=by rw[zx i];exact Le h
def cA (j:ds.length=m)(h:WS s (fK n ds) λo=>∃δ,o=.ret r δ):gq m (k9 n s) ds=ac r:=by obtain⟨i,e,z⟩:=oj j (h.mono λo ⟨δ,e⟩=>⟨r,δ,e,ρ⟩);rw[e,z]
def mZ{n m:Nat}{s:SF}{ds:List Dat}{a:iP}(j:ds.length=m)(h:WS s (fK n ds) λo=>(∃r δ,o=.ret r δ/\a=.ok r)\/(∃C δ,o=.exc C δ/\a=.exc C)):gq m (iG n s) ds=ac a:=by
 obtain⟨i,e,z⟩:=wU (P:=λi=>i=a) j (h.mono λo h=>by
  rcases h with⟨r,δ,e,rfl⟩|⟨C,δ,e,rfl⟩
  ·exact ι ⟨r,δ,e,ρ⟩
  exact τ<|ι ⟨C,δ,e,ρ⟩)
 rw[e,z]
def Sw{caps:List (Option Nat)}{fi:IF}{g:GF}{fc:BF}{fe:DF}{xs:List Dat}(put:Dat->DS)(keep:Dat->Bool)(val:Dat->Dat)(h:fi δ=ac (xs,δ1))(i:bB am caps δ1=δ2)(j:xs.length<=eu)
 (k:∀x∈xs,∀δ,(δ=cC caps δ2\/∃y,δ=put y)->g x δ=ac (put x))(l:∀x∈xs,fc (put x)=ac (keep x,put x))(m:∀x∈xs,keep x=bi->fe (put x)=ac (val x,put x))(n:∀x∈xs,noOwn (put x)=bi) :
  eV caps am fi g fc fe δ=ac (.O<|.L<|(xs.filter keep).map val,δ2):=by
 obtain⟨δ',e⟩:=Ho put keep val xs [] (cC caps δ2) (by simpa using j) k l m n<|ι ρ;exact DZ h i e
def NS (h:f δ=ac (.str x,δ1))(i:x.cps.all (·<128)=bi):alt (jG f) (kh f) δ=ac (x.cps.toList.map λc=>.str ⟨#[c]⟩,δ1):=by refine rD ?_<|(λh i=>by delta kh;rw[h];exact if_pos i) h i;delta jG;rw[h];rfl
def bU(h:f δ=ac (.L ds,δ1)):alt (jG f) (kh f) δ=ac (ds,δ1):=by apply gf;delta jG;rw[h];rfl
theorem tT (f):∀cs:List h,jN (cs.map λc=>.bl<|f c)=ac (cs.map f)
 | []=>rfl
 | c::cs=>by simp only[mA,jN,tT f cs];rfl
end
def gv (h:b=b'):∃δ',Out.ret (.D<|.bl b) δ=.ret (.D<|.bl b') δ':=⟨δ,by rw[h]⟩
def Lh (h:WD f δ λd δ1=>∃b,d=.bl b/\(b=bi->WD g δ1 Q)/\(b=bv->Q (.bl false) δ1)):WD (jc f g) δ Q:=by
 obtain⟨d,δ1,e,b,rfl,a,c⟩:=h;cases b
 ·exact⟨_,δ1,by unfold jc;rw[e];rfl,c rfl⟩
 obtain⟨d',δ2,i,q⟩:=a ρ;exact⟨d',δ2,by unfold jc;rw[e];exact i,q⟩
def j8 (h:a δ=ac ([.int n],δ1))(b:-(2 ^ 62)<=n/\n<2 ^ 62):oD a δ=ac (dF 0 n,δ1):=by delta oD;rw[h];exact if_pos b
structure Ob where
 l:Int
 b:Int
 r:Int
 t:Int
deriving DecidableEq
def Ob.ok(x:Ob):Prop:=x.l<x.r/\x.b<x.t
def Apart(x y:Ob):Prop:=x.r<=y.l\/y.r<=x.l\/x.t<=y.b\/y.t<=x.b
def Apart.symm (h:Apart x y):Apart y x:=by grind [Apart]
section
variable{α:Type}[DecidableEq α]
noncomputable abbrev MG(α):=List<|α×Ob
end
def Ff{a:Type}{os:List a}{j:Nat}{x:a}(e:os[j]?=ac x):os=os.take j++x::os.drop (j+1):=by obtain⟨h,e⟩:=bt.1 e;simp[<-e]
section
variable{bx:Ob}{os:List Ob}{x n m:Ob}{α:Type}{rooms walls:List α}{ring:α->List α}
def cx (l:List α)(n m:α):Prop:=∃i,l[i]?=ac n/\l[(i+1)%l.length]?=ac m
noncomputable def bQ (f:α->Nat):List α->Nat
 | []=>0
 | a::l=>f a+bQ f l
theorem vg (f):∀l b:List α,bQ f (l++b)=bQ f l+bQ f b
 | [],b=>by simp[bQ]
 | a::l,b=>by show f a+bQ f (l++b)=f a+bQ f l+bQ f b;rw[vg f l b];lia
theorem i7:∀{l:List α},(∀a∈l,f a=g a)->bQ f l=bQ g l
 | [],_=>rfl
 | a::l,h=>by show f a+bQ f l=g a+bQ g l;rw[h a ⋯,i7 λb c=>h b (by simp[c])]
theorem pF (f g):∀l:List α,bQ (λa=>f a+g a) l=bQ f l+bQ g l
 | []=>rfl
 | a::l=>by show f a+g a+bQ (λa=>f a+g a) l=f a+bQ f l+(g a+bQ g l);rw[pF f g l];lia
theorem DY (c):∀l:List α,bQ (λ_=>c) l=c*l.length
 | []=>rfl
 | a::l=>by show c+bQ (λ_=>c) l=c*(l.length+1);simp only[DY c l,Nat.mul_add];lia
theorem GB (p):∀l:List α,bQ (λa=>if p a=bi then 1 else 0) l=l.countP p
 | []=>rfl
 | a::l=>by show (if p a=bi then 1 else 0)+bQ (λa=>if p a=bi then 1 else 0) l=_;simp only[GB p l,wk];lia
theorem Nr (p:α->d->Bool)(l:List α)(c:List d):bQ (λa=>c.countP<|p a) l=bQ (λb=>l.countP λa=>p a b) c:=by
 induction l with
 | nil=>show 0=_;simp[show bQ (λb=>List.countP (λa=>p a b) []) c=bQ (λ_=>0) c from ρ,DY,Nat.zero_mul]
 | cons a l e=>show c.countP (p a)+bQ (λa=>c.countP<|p a) l=_;rw[e,<-GB,<-pF];refine i7 λb _=>?_;simp[wk];lia
theorem Oa (p q:α->Bool)(l:List α):l.countP p=(l.countP λa=>p a&&q a)+l.countP λa=>p a&&!q a:=by
 induction l with
 | nil=>rfl
 | cons a l b=>simp only[wk,b];cases p a<;>cases q a<;>simp<;>lia
noncomputable def gZ (l:List α):List (α×α):=l.zip<|l.drop 1++l.take 1
def Dc(l:List α)(h:i<l.length):(l.drop 1++l.take 1)[i]?=l[(i+1)%l.length]?:=by
 by_cases a:i+1<l.length
 ·rw[qt (by rw[y4];omega),acE,se a,ad']
 have e:i+1=l.length:=⋯;rw[ph (by rw[y4];omega),e,aaU,y4,show i-(l.length-1)=0 from by omega];simp
def IG(l:List α):(l.drop 1++l.take 1).length=l.length:=by simp;lia
theorem tI{l:List α}{n m:α}:(n,m)∈gZ l ↔ cx l n m:=by
 delta gZ cx;constructor
 ·intro h;obtain⟨i,b,e⟩:=oy h;have hl:i<l.length:=by grind
  have e:(l.zip<|l.drop 1++l.take 1)[i]?=ac (n,m):=by rw[bg b,e]
  rw[HT] at e;exact⟨i,e.1,by rw[<-Dc l hl];exact e.2⟩
 rintro⟨i,a,c⟩;have hl:=(bt.1 a).1;refine fB (i:=i) ?_;rw[HT];exact⟨a,by rw[Dc l hl];exact c⟩
def Dh(l:List α):(gZ l).map (·.1)=l:=by exact List.map_fst_zip (by rw[IG];exact ft _)
def G7(l:List α):(gZ l).length=l.length:=by have:=congrArg List.length<|Dh l;simp_all
structure Order {α:Type}(lt:α->α->Bool):Prop where
 kK:∀a,lt a a=bv
 tr:∀a b c,lt a b=bi->lt b c=bi->lt a c=bi
 fL:∀a b,a≠b->lt a b=bi\/lt b a=bi
theorem cx.mem{l:List α}{n m:α}(h:cx l n m):n∈l/\m∈l:=by obtain⟨i,a,b⟩:=h;exact⟨fB a,fB b⟩
def sx{l:List α}(nd:l.Nodup){i j:Nat}{a:α}(d:l[i]?=ac a)(e:l[j]?=ac a):i=j:=by
 obtain⟨b,e1⟩:=bt.1 d;obtain⟨c,e2⟩:=bt.1 e;rcases abI i j with h|h|h
 ·have:=za.1 nd i j b c h;simp_all
 ·exact h
 have:=za.1 nd j i c b h;simp_all
def corners(rooms:List α)(ring:α->List α):List (α×α×α):=rooms.flatMap λx=>(gZ<|ring x).map λp=>(x,p.1,p.2)
theorem Mp{x n m:α}:(x,n,m)∈corners rooms ring ↔ x∈rooms/\cx (ring x) n m:=by
 delta corners;rw[L1];constructor
 ·rintro⟨y,a,h⟩;obtain⟨p,b,e⟩:=ee.1 h;cases e;exact⟨a,tI.1 b⟩
 rintro⟨c,h⟩;exact⟨x,c,ee.2 ⟨(n,m),tI.2 h,ρ⟩⟩
end
section
variable{α:Type}[DecidableEq α]{rooms walls:List α}{ring:α->List α}{lt:α->α->Bool}
noncomputable def fy(rooms:List α)(a:α):Bool:=bd<|a∈rooms
theorem Order.v9(O:Order lt)(h:lt a b=bi):lt b a=bv:=by
 cases e:lt b a with
 | false=>rfl
 | true=>have:=O.tr a b a h e;rw[O.kK] at this;cases this
def HI{l d:List α}(nd:l.Nodup)(e:d.Nodup)(p:α->Bool):(l.countP λy=>bd (y∈d)&&p y)=d.countP λy=>bd (y∈l)&&p y:=by
 simp[vT];refine List.Perm.length_eq ((abo (y3 Ts nd)<|y3 Ts e).2 λy=>?_);simp;constructor
 ·rintro⟨a,b,c⟩;exact⟨b,a,c⟩
 simp_all
end
section
variable{bx:Ob}{os:List Ob}{x y n m p:Ob}
inductive Row {α:Type}(rooms:List α) (ring:α->List α) (wall:α):α->List α->Prop
 | stop {a:α}:a∉rooms->Row rooms ring wall a []
 | go {a p:α}{l:List α}:a∈rooms->cx (ring a) p wall->Row rooms ring wall p l->Row rooms ring wall a (a::l)
noncomputable def reach [DecidableEq a](rooms walls:List a)(ring:a->List a):Nat->List a
 | 0=>walls
 | k+1=>walls++rooms.filter λx=>(ring x).any λy=>bd<|y∈reach rooms walls ring k
end
section
variable{α:Type}[DecidableEq α]{rooms rooms' walls:List α}{w:Nat->α}{ring ring':α->List α}{lt:α->α->Bool}{wl f:α}
def rA(l a:List α):Prop:=∃A B,l=A++B/\a=B++A
theorem rA.perm{l a:List α}(h:rA l a):a.Perm l:=by obtain⟨A,B,rfl,rfl⟩:=h;exact aea
inductive Dp (rooms:List α) (ring:α->List α) (wl f:α):Nat->α->Prop
 | z {y:α}:cx (ring y) wl f->Dp rooms ring wl f 0 y
 | s {k:Nat}{y z:α}:cx (ring y) wl z->z∈rooms->Dp rooms ring wl f k z->Dp rooms ring wl f (k+1) y
theorem Dp.succ (h:Dp rooms ring wl f k y):∃z,cx (ring y) wl z:=by
 cases h with
 | z h=>exact⟨_,h⟩
 | s h _ _=>exact⟨_,h⟩
theorem Dp.uniq(j:f∉rooms)(fn:∀y∈rooms,∀z i,cx (ring y) wl z->cx (ring y) wl i->z=i)(h:Dp rooms ring wl f k y):∀{c},y∈rooms->Dp rooms ring wl f c y->k=c:=by
 induction h with
 | z a =>
  intro c g h';cases h' with
  | z b=>rfl
  | s b m d=>exact absurd (fn _ g _ _ a b ▸ m) j
 | @s k y z a m d l =>
  intro c g h';cases h' with
  | z b=>exact absurd (fn _ g _ _ b a ▸ m) j
  | @s c _ i b m' d'=>have e:=fn _ g _ _ a b;subst e;rw[l m d']
theorem rS:∀{l m:List α},l.Nodup->(∀x∈l,x∈m)->l.length<=m.length
 | [],_,_,_=>pe _
 | a::l,m,b,h=>by have d:=rS (l:=l) (m:=m.erase a) (sk.1 b).2 λx c=>(aa4 λz=>(sk.1 b).1 (by rw[<-z];exact c)).2 (h x<|fk _ c);rw[aaC (h a eN)] at d;have:=WG<|h a eN;simp;lia
theorem K8(q:f∉rooms)(fn:∀y∈rooms,∀z t,cx (ring y) wl z->cx (ring y) wl t->z=t)(x:∀y∈rooms,(∃z,cx (ring y) wl z)->∃p,cx (ring y) p wl/\(p∈rooms->cx (ring p) wl y)) :
  ∀(m n:Nat) (b:α) (c:List α),rooms.length<m+c.length->c.Nodup->(∀y∈c,y∈rooms/\∃k,k<n/\Dp rooms ring wl f k y)->(b∈rooms->Dp rooms ring wl f n b) ->
  ∃l,Row rooms ring wl b l/\l.Nodup/\∀y∈l,y∈rooms/\∃k,n<=k/\Dp rooms ring wl f k y:=by
 intro m;induction m with
 | zero=>intro n b c hl nd j _;have:=rS nd λy e=>(j y e).1;omega
 | succ m A =>
  intro n b c hl nd j B;by_cases g:b∈rooms
  ·have d:=B g;have u:b∉c:=λh=>by obtain⟨_,k,o,i⟩:=j b h;have:=d.uniq q fn g i;omega
   obtain⟨p,sp,C⟩:=x b g d.succ;obtain⟨l,r,ln,v⟩:=A (n+1) p (b::c) (by simp only[gk];omega) (sk.2 ⟨u,nd⟩) (λy e=>by
    rcases hO.1 e with rfl|e
    ·exact⟨g,n,aaw n,d⟩
    obtain⟨a,k,o,i⟩:=j y e;exact⟨a,k,∅,i⟩)<|λD=>.s (C D) g d
   refine⟨b::l,.go g sp r,sk.2 ⟨λh=>?_,ln⟩,λy e=>?_⟩
   ·obtain⟨_,k,o,i⟩:=v b h;have:=d.uniq q fn g i;omega
   rcases hO.1 e with rfl|e
   ·exact⟨g,n,ft n,d⟩
   obtain⟨a,k,o,i⟩:=v y e;exact⟨a,k,∅,i⟩
  exact⟨[],.stop g,aap,⋯⟩
end
section
noncomputable def top(i:Nat):Stmt:=PySem.Challenge.pw_roomtouch_k24_no_tintings.main.body.getD i<|.Pass ⟨0,0,0,0⟩
local macro_rules | `(tactic| walk_at "sc")=>`(tactic| exact⟨rfl,rfl,rfl,by decide +kernel,rfl,by decide +kernel,by decide +kernel⟩)
abbrev zf:Stmt:=top 15
def Eg:br ["wall"] ["wall"] (aK zf):=by walk_at "sc"
abbrev xI:Stmt:=top 16
def GW:br ["thing"] ["thing"] (aK xI):=by walk_at "sc"
abbrev vU:Stmt:=top 17
def CV:br ["thing"] ["thing"] (aK vU):=by walk_at "sc"
abbrev yR:Stmt:=top 18
def Fe:br ["room","ring","names"] ["room","ring","names"] (aK yR):=by walk_at "sc"
abbrev zH:Stmt:=top 19
def Ea:br ["web","rooms","names"] ["web"] (aK zH):=by walk_at "sc"
abbrev yK:Stmt:=top 20
def B':br ["rings","room","name"] ["rings"] (aK yK):=by walk_at "sc"
abbrev yV:Stmt:=top 21
def Ee:br ["rings","corners","room","ring","name","behind"] ["rings"] (aK yV):=by walk_at "sc"
abbrev Aj:Stmt:=top 22
def Fc:br ["corner","corners","room","name","behind"] ["corner","corners"] (aK Aj):=by walk_at "sc"
abbrev vC:Stmt:=top 23
def Fh:br ["rings","corners"] ["rings"] (aK vC):=by walk_at "sc"
abbrev wK:Stmt:=top 24
def Dm:br ["rings","wall","first","row","name","ring"] ["rings","wall","first"] (aK wK):=by walk_at "sc"
abbrev zL:Stmt:=top 25
def FG:br ["rings","wall","corners","firsts","tied"] ["rings","wall"] (aK zL):=by walk_at "sc"
abbrev zk:Stmt:=top 26
def Hh:br ["ring","names"] ["ring","names"] (aK zk):=by walk_at "sc"
abbrev wF:Stmt:=top 27
def D0:br ["rings","reached","turn"] ["rings"] (aK wF):=by walk_at "sc"
abbrev wA:Stmt:=top 28
def CC:br ["rings","ties","room","name"] ["rings"] (aK wA):=by walk_at "sc"
abbrev xS:Stmt:=top 29
def ER:br ["rings","threes","corner"] ["rings"] (aK xS):=by walk_at "sc"
abbrev xB:Stmt:=top 30
def Dk:br ["web","rings"] ["web"] (aK xB):=by walk_at "sc"
abbrev zZ:Stmt:=top 32
def FL:br ["room","name","side"] ["room","name","side"] (aK zZ):=by walk_at "sc"
abbrev yy:Stmt:=top 33
def F8:br ["sides","turns","side","behind"] ["sides"] (aK yy):=by walk_at "sc"
abbrev vX:Stmt:=top 34
def GC:br ["room","ring","rows","sides","name","told"] ["room","ring","rows"] (aK vX):=by walk_at "sc"
abbrev zj:Stmt:=top 35
def AB:br ["web","rows","rings"] ["web","rows"] (aK zj):=by walk_at "sc"
abbrev zK:Stmt:=top 37
def ON:br ["name"] ["name"] (aK zK):=by walk_at "sc"
abbrev yJ:Stmt:=top 38
def OL:br ["name"] ["name"] (aK yJ):=by walk_at "sc"
abbrev Ak:Stmt:=top 39
def Hm:br ["rooms","tinting","way","wishes","gaps","goes","one","other"] ["rooms","tinting","way","wishes"] (aK Ak):=by walk_at "sc"
abbrev vY:Stmt:=top 40
def DN:br ["gaps","numbers","one","other","gap","turn"] ["gaps"] (aK vY):=by walk_at "sc"
abbrev zp:Stmt:=top 41
def BJ:br ["web","tinting","sizes","widths","heights","room","width","height","rooms","across","upward"] ["web","tinting","sizes"] (aK zp):=by walk_at "sc"
abbrev wJ:Stmt:=top 42
def G3:br ["web","tinting"] ["web","tinting"] (aK wJ):=by walk_at "sc"
abbrev ze:Stmt:=top 44
def EH:br ["_law_cell","_law_k","_law_number"] ["_law_cell","_law_k"] (aK ze):=by walk_at "sc"
abbrev yw:Stmt:=top 45
def EA:br ["_law_script","_law_cells","_law_number","_law_k"] ["_law_script"] (aK yw):=by walk_at "sc"
abbrev yZ:Stmt:=top 46
def Fs:br ["_law_purse_here","_law_out_of","_law_drawn"] ["_law_purse_here","_law_out_of"] (aK yZ):=by walk_at "sc"
abbrev xg:Stmt:=top 47
def DM:br ["_law_purse_here","_law_many","_law_letters","_law_long","_law_stem","_law_at","_law_found","_law_k","_law_spots","_law_name"] ["_law_purse_here","_law_many"] (aK xg):=by walk_at "sc"
abbrev zT:Stmt:=top 48
def Hw:br ["_law_purse_here","_law_rows","_law_name","_law_at","_law_low","_law_room","_law_lines","_law_line","_law_lower","_law_upper"] ["_law_purse_here","_law_rows","_law_name"] (aK zT):=by walk_at "sc"
abbrev xH:Stmt:=top 49
def GK:br ["_law_purse_here","_law_most","_law_names_here","_law_rows","_law_count","_law_k","_law_wide"] ["_law_purse_here","_law_most"] (aK xH):=by walk_at "sc"
abbrev xZ:Stmt:=top 50
def Bp:br ["_law_one","_law_other","_law_low"] ["_law_one","_law_other","_law_low"] (aK xZ):=by walk_at "sc"
abbrev wg:Stmt:=top 51
def Dv:br ["_law_rows","_law_one","_law_low","_law_way_here","_law_found","_law_other","_law_near"] ["_law_rows","_law_one","_law_low","_law_way_here"] (aK wg):=by walk_at "sc"
abbrev zF:Stmt:=top 52
def E3:br ["_law_rows","_law_one","_law_above","_law_right","_law_beneath","_law_left"] ["_law_rows","_law_one"] (aK zF):=by walk_at "sc"
abbrev wM:Stmt:=top 53
def GY:br ["_law_rows"] ["_law_rows"] (aK wM):=by walk_at "sc"
abbrev yP:Stmt:=top 54
def Cf:br ["_law_purse_here","_law_web_here","_law_at","_law_found","_law_room","_law_row","_law_far"] ["_law_purse_here","_law_web_here"] (aK yP):=by walk_at "sc"
abbrev yf:Stmt:=top 55
def BY:br ["_law_row","_law_name"] ["_law_row","_law_name"] (aK yf):=by walk_at "sc"
abbrev yj:Stmt:=top 56
def Ef:br ["_law_one","_law_other","_law_shuts"] ["_law_one","_law_other"] (aK yj):=by walk_at "sc"
abbrev vV:Stmt:=top 57
def HG:br ["_law_web_here","_law_found","_law_room","_law_row"] ["_law_web_here"] (aK vV):=by walk_at "sc"
abbrev wH:Stmt:=top 58
def B9:br ["_law_rows","_law_corner","_law_room","_law_one","_law_other"] ["_law_rows","_law_corner"] (aK wH):=by walk_at "sc"
abbrev vJ:Stmt:=top 59
def Hf:br ["_law_rows","_law_shut","_law_here","_law_come","_law_ahead"] ["_law_rows","_law_shut"] (aK vJ):=by walk_at "sc"
abbrev yC:Stmt:=top 60
def Dn:br ["_law_rows","_law_found","_law_k","_law_room"] ["_law_rows"] (aK yC):=by walk_at "sc"
abbrev wZ:Stmt:=top 61
def BC:br ["_law_web_here","_law_rows","_law_shuts","_law_room","_law_row","_law_name","_law_corners_here","_law_ties","_law_threes"] ["_law_web_here"] (aK wZ):=by walk_at "sc"
abbrev xc:Stmt:=top 62
def Fm:br ["_law_web_here","_law_floor_here","_law_rows","_law_found","_law_room","_law_row","_law_name"] ["_law_web_here","_law_floor_here"] (aK xc):=by walk_at "sc"
abbrev y6:Stmt:=top 63
def E2:br ["_law_rows","_law_room","_law_name","_law_some"] ["_law_rows","_law_room","_law_name"] (aK y6):=by walk_at "sc"
abbrev zi:Stmt:=top 64
def Du:br ["_law_sides","_law_ways","_law_steps"] ["_law_sides"] (aK zi):=by walk_at "sc"
abbrev yU:Stmt:=top 65
def BA:br ["_law_web_here","_law_rows","_law_shuts","_law_many","_law_room","_law_row","_law_sides","_law_name","_law_side_here"] ["_law_web_here","_law_rows"] (aK yU):=by walk_at "sc"
abbrev vO:Stmt:=top 66
def Gk:br ["_law_way_here","_law_web_here","_law_rows","_law_caught_here","e"] ["_law_way_here","_law_web_here","_law_rows"] (aK vO):=by walk_at "sc"
abbrev x8:Stmt:=top 67
def HC:br ["_law_purse_here","_law_rows","_law_at","_law_word","_law_one","_law_other","_law_kind"] ["_law_purse_here","_law_rows"] (aK x8):=by walk_at "sc"
abbrev lI:Stmt:=top 68
def pH:br ["_law_purse_here","_law_web_here","_law_rows","_law_at","_law_kind"] ["_law_purse_here","_law_web_here"] (aK lI):=by walk_at "sc"
abbrev zC:Stmt:=top 69
def Gv:br ["_law_script","_law_purse_here","_law_floor_here","_law_web_here","_law_rows","_law_k","_law_bent_here","_law_some","_law_due"] ["_law_script"] (aK zC):=by walk_at "sc"
structure Txt (mg:eT->Option dk):Prop where
 len:mg "len"=am
 int:mg "int"=am
 uh:mg "isinstance"=am
 rM:mg "range"=am
 min:mg "min"=am
 max:mg "max"=am
 all:mg "all"=am
 dict:mg "dict"=am
 sorted:mg "sorted"=am
 tuple:mg "tuple"=am
 list:mg "list"=am
 str:mg "str"=am
 bool:mg "bool"=am
end
section
variable{P:lq}{w:qh}{A:pk}{E:dk->eK->Prop}{s:eK}
theorem AW {Q:dk->eK->Prop}{Fin:pq->Prop}(hl:s.heap.IsList l items)(O:∀(led:Bool) (R:adx->eK->Prop) (I:eH) (f:pq),f=((s.heap.push {cls:=.type "set",dict:=am,data:=.set #[] 0 (.fresh 0 0 led)}).push {cls:=.type "list_iterator",data:=.fields #[.ref l,.int 0 0]})->l≠I->s.heap.objs.size∉[I,l]->f.get? s.heap.objs.size=ac {cls:=.type "set",dict:=am,data:=.set #[] 0 (.fresh 0 0 led)}->f.IsList l items->(∃o,f.get? I=ac o/\o.cls=.type "list_iterator"/\o.data=.fields #[.ref l,.int 0 0]) ->
   (∀s',Moved [s.heap.objs.size,I] (λa b=>b=a) {s with heap:=f} s'->Fin s'.heap->R (.ok<|.ret .none) s')->abz (k7 P w) A.in1.in1 (.builtin "set.update.loop" ⟨[.ref s.heap.objs.size,.ref I],[]⟩) R {s with heap:=f})(h:∀(h':pq) (tk:Nat),Fin h'->(∀b o,b<s.heap.objs.size->s.heap.get? b=ac o->h'.get? b=ac o)->Q (.ref s.heap.objs.size) {s with heap:=h',toks:=tk}) :
  ka (k7 P w) A (call (.type "set") [.ref l]) Q E s:=by
 obtain⟨c,tl,hmro⟩:=YP.mro;have hmade:=PySem.F.called_set.made;have hsub:=YP.sub;refine aft<|codeAny_of_tree ?_;refine gi ⟨aex _ (by decide +kernel),Z2 PySem.F.entry_type_call ?_⟩;rw[Around.under_plain (weight_type_call_type "set" [.ref l] []) ρ];have h2:=YP.canCreate;have hct:=PySem.F.typeCall_set_1<|.ref l
 repeat (any_goals (first|assumption|wp_step))
 refine aby (code_set_new_1 (.ref l) (E:=E) (Q₁:=λobj g=>∃led:Bool,obj=.ref s.heap.objs.size/\g={s with heap:=s.heap.push {cls:=.type "set",dict:=am,data:=.set #[] 0 (.fresh 0 0 led)} }) λled=>⟨led,ρ,ρ⟩) λr g v=>?_;cases r with
 | error e=>exact v
 | ok S =>
  cases S with
  | ret obj =>
   obtain⟨led,rfl,rfl⟩:=v;have C:(s.heap.push {cls:=.type "set",dict:=am,data:=.set #[] 0 (.fresh 0 0 led)}).get? s.heap.objs.size=ac {cls:=.type "set",dict:=am,data:=.set #[] 0 (.fresh 0 0 led)}:=lD _ ρ;have T:Shared.TypeIs {s with heap:=s.heap.push {cls:=.type "set",dict:=am,data:=.set #[] 0 (.fresh 0 0 led)} } (.ref s.heap.objs.size) "set":=⟨_,C,ρ⟩;have hli:=YP.init.lookup;have hbi:=YP.init.bind<|.ref s.heap.objs.size
   repeat (any_goals (first|assumption|wp_step))
   refine aby (acF (R:=wants (λr i=>r=.none/\∃h' tk,i={s with heap:=h',toks:=tk} /\
     Fin h' /\
     (∀b o,b<s.heap.objs.size->s.heap.get? b=ac o->h'.get? b=ac o)) E) YP.init.plain PySem.F.entry_set_init<|check_set_init_1 T ?_) λx i d=>?_
   ·obtain⟨U,p,q,D,t⟩:=hl;obtain⟨ocls,m,odata,j⟩:=U;simp only at q t;subst q;subst t;have y:(s.heap.push {cls:=.type "set",dict:=am,data:=.set #[] 0 (.fresh 0 0 led)}).get? l=ac {cls:=.type "list",dict:=m,data:=.seq items D,slots:=j}:=fA _ p;have hsls:=PySem.F.sub_list_set;have hslf:=PySem.F.sub_list_frozenset;have hne:(adn "list" == adn "dict")=bv:=⋯
    have u:(s.heap.push {cls:=.type "set",dict:=am,data:=.set #[] 0 (.fresh 0 0 led)}).IsList l items:=⟨_,y,ρ,D,ρ⟩;unfold aa1.«set.__init__» noKeywords aff;generalize G:afx=PI
    wp_walk
    subst G;refine aas u<|ey<|wpAny_runValue ?_;have H:l<s.heap.objs.size:=gD p;have z:l≠(s.heap.push {cls:=.type "set",dict:=am,data:=.set #[] 0 (.fresh 0 0 led)}).objs.size:=by rw[acm];exact ia<|abJ H
    have J:s.heap.objs.size∉[(s.heap.push {cls:=.type "set",dict:=am,data:=.set #[] 0 (.fresh 0 0 led)}).objs.size,l]:=by simp_all [acW]
    have B:((s.heap.push {cls:=.type "set",dict:=am,data:=.set #[] 0 (.fresh 0 0 led)}).push {cls:=.type "list_iterator",data:=.fields #[.ref l,.int 0 0]}).get? s.heap.objs.size=ac {cls:=.type "set",dict:=am,data:=.set #[] 0 (.fresh 0 0 led)}:=fA _ C;refine O led _ _ _ ρ z J B (u.push _) ⟨_,lD _ ρ,ρ,ρ⟩ ?V;intro s' hm k;obtain⟨h',g',d',K,L⟩:=s';have W:g'=s.gens:=hm.gens;have X:d'=s.drawn:=hm.drawn;have Y:L=s.os:=hm.os;subst W;subst X;subst Y;show ka _ _ _ _ _ _;refine gi ?_;show ka _ _ (ret tm) _ _ _;refine gi ⟨ρ,h',K,ρ,k,λb o M e=>?_⟩;have hb1:b≠s.heap.objs.size:=ia M;have hb2:b≠(s.heap.push {cls:=.type "set",dict:=am,data:=.set #[] 0 (.fresh 0 0 led)}).objs.size:=by rw[acm];exact ia<|abJ M
    refine hm.heap b o ?_<|fA _<|fA _ e;simp_all
   cases x with
   | error e=>exact d
   | ok n =>
    cases n with
    | ret r =>
     obtain⟨rfl,h',tk,rfl,k,N⟩:=d
     repeat (any_goals (first|assumption|wp_step))
     exact h _ _ k N
    | _=>exact d.elim
  | _=>exact v.elim
end
section
open PySem.SetTable
noncomputable def gn(a:Nat)(p:abN):Probe:=if p.more>0 then {p with j:=p.j+1,more:=p.more-1} else {p with j:=(ado a p.i p.perturb).1,more:=aaI a (ado a p.i p.perturb).1-(ado a p.i p.perturb).1,i:=(ado a p.i p.perturb).1,perturb:=(ado a p.i p.perturb).2}
def EU(t:z9)(p:abN):t.advance p=gn t.mask p:=by rfl
noncomputable def aH(a:Nat)(p:abN):Nat->abN
 | 0=>p
 | n+1=>gn a<|aH a p n
theorem h9(a)(p)(n):∀m,aH a p (n+m)=aH a (aH a p n) m
 | 0=>rfl
 | m+1=>by show gn a (aH a p<|n+m)=gn a (aH a (aH a p n) m);rw[h9 a p n m]
theorem uz(a):∀(k:Nat) (p:abN),k<=p.more->aH a p k={p with j:=p.j+k,more:=p.more-k}
 | 0,p,_=>rfl
 | k+1,p,h=>by show gn a (aH a p k)=_;rw[uz a k p (by lia)];dsimp only[gn];rw[if_pos (by show p.more-k>0;lia)];rfl
def A4(a)(p):∃more,aH a p (p.more+1)={p with j:=(ado a p.i p.perturb).1,more:=more,i:=(ado a p.i p.perturb).1,perturb:=p.perturb/32}/\more<=9:=by
 refine⟨aaI a (ado a p.i p.perturb).1-(ado a p.i p.perturb).1,?_,?_⟩
 ·show gn a (aH a p p.more)=_;rw[uz a p.more p (ft _)];dsimp only[gn];rw[if_neg ⋯];rfl
 delta aaI;split<;>lia
theorem BW(a)(p)(h:p.more<=9):∀c,∃n,n<=10*c/\(aH a p n).more<=9/\(aH a p n).perturb=p.perturb/32 ^ c/\(c>0->(aH a p n).j=(aH a p n).i/\(aH a p n).i<=a)
 | 0=>⟨0,ft _,h,by simp only[agc,agE];rfl,λz=>absurd z<|zd _⟩
 | c+1=>by
  obtain⟨n,h1,h2,b,_⟩:=BW a p h c;obtain⟨more,e,hm⟩:=A4 a<|aH a p n;refine⟨n+((aH a p n).more+1),by lia,?_,?_,λ_=>?_⟩
  ·rw[h9,e];exact hm
  ·rw[h9,e];simp only[b,ad9,agd]
  rw[h9,e];exact⟨ρ,t9<|zR _<|abl _⟩
noncomputable def eW(a:Nat)(i:Nat):Nat->Nat
 | 0=>i
 | c+1=>(eW a i c*5+1)%(a+1)
theorem Az(a)(p)(h:p.more<=9)(b:p.perturb=0)(d:p.j=p.i):∀c,∃n,n<=10*c/\(aH a p n).more<=9/\(aH a p n).perturb=0/\(aH a p n).j=eW a p.i c/\(aH a p n).i=eW a p.i c
 | 0=>⟨0,ft _,h,b,d,ρ⟩
 | c+1=>by
  obtain⟨n,h1,h2,f,_,k⟩:=Az a p h b d c;obtain⟨more,e,hm⟩:=A4 a<|aH a p n;have g:(ado a (aH a p n).i (aH a p n).perturb).1=eW a p.i (c+1):=by rw[f,k];rfl
  refine⟨n+((aH a p n).more+1),by lia,?_,?_,?_,?_⟩
  ·rw[h9,e];exact hm
  ·rw[h9,e];rw[f]
  ·rw[h9,e];exact g
  rw[h9,e];exact g
def ie(a:Nat):Prop:=a=7\/a=31\/a=127
noncomputable def rT(a:Nat):Nat->Nat->List Nat
 | 0,_=>[]
 | c+1,i=>i::rT a c ((i*5+1)%(a+1))
theorem B4(a):∀(c i k:Nat),k<c->(rT a c i)[k]?=ac (eW a i k)
 | 0,_,_,h=>absurd h (Dl _)
 | c+1,i,0,_=>rfl
 | c+1,i,k+1,h=>by
  show (rT a c<|(i*5+1)%(a+1))[k]?=_;rw[B4 a c _ k (by lia)]
  congr 1;have:∀k,eW a ((i*5+1)%(a+1)) k=eW a i (k+1):=λk=>by
   induction k with
   | zero=>rfl
   | succ k ih=>simp_all [eW]
  exact this k
theorem uc(b i a):∀c,eW b i (a+c)=eW b (eW b i a) c
 | 0=>rfl
 | c+1=>by show (eW b i (a+c)*5+1)%(b+1)=(eW b (eW b i a) c*5+1)%(b+1);rw[uc b i a c]
theorem B8 (hm:ie a)(he:e<=a):∃c,c<=a/\eW a 0 c=e:=by
 have key:∀m∈[7,31,127],∀e:Fin (m+1),(rT m (m+1) 0).contains e.val=bi:=by decide +kernel
 have d:a∈[7,31,127]:=by rcases hm with rfl|rfl|rfl<;>simp
 have:=key a d ⟨e,by lia⟩;obtain⟨c,b,ec⟩:=oy<|List.contains_iff_mem.1 this;have hl:∀c i,(rT a c i).length=c:=λc=>by
  induction c with
  | zero=>exact λ_=>rfl
  | succ c f=>exact λi=>congrArg (·+1)<|f _
 rw[hl] at b;refine⟨c,by lia,?_⟩;have:=B4 a (a+1) 0 c b;simp_all
def A0 (hm:ie d)(g:i<=d)(j:e<=d):∃c,c<=d/\eW d i c=e:=by
 obtain⟨a,ha,k⟩:=B8 hm g;obtain⟨b,hb,l⟩:=B8 hm j;have f:eW d 0 (d+1)=0:=by rcases hm with rfl|rfl|rfl<;>decide +kernel
 by_cases h:a<=b;grind [uc,abi];refine⟨d+1-a+b,⋯,?_⟩;rw[<-k,<-uc,<-Nat.add_assoc,abi (by lia),uc,f];exact l
def cover (hm:ie a)(h:p.more<=9)(d:p.perturb<2 ^ 64)(f:e<=a):∃n,n<10*acg a/\(aH a p n).j=e:=by
 obtain⟨n,h1,g,i,l⟩:=BW a p h 13;have m:(aH a p n).perturb=0:=by rw[i];exact afh<|lF d ⋯
 obtain⟨b,o⟩:=l ⋯;obtain⟨c,hc,q⟩:=A0 hm o f;obtain⟨k,k1,_,_,r,_⟩:=Az a (aH a p n) g m b c;refine⟨n+k,by delta acg;lia,?_⟩;rw[h9,r,q]
def iJ(xs:Array Nat):Prop:=xs.toList.Pairwise (·<·)
def iJ.lt{xs:Array Nat}(h:iJ xs){a b x y:Nat}(c:a<b)(d:xs[a]?=ac x)(e:xs[b]?=ac y):x<y:=by rw[<-hH] at d e;obtain⟨f,rfl⟩:=bt.1 d;obtain⟨g,rfl⟩:=bt.1 e;exact za.1 h a b f g c
theorem wq (h:iJ xs)(j:Nat):∀(fuel lo a:Nat),a-lo<=fuel->lo<=a->a<=xs.size->(∀i x,i<lo->xs[i]?=ac x->x<j)->(∀i x,a<=i->xs[i]?=ac x->j<=x)->below.go xs j fuel lo a<=xs.size/\(∀i x,i<below.go xs j fuel lo a->xs[i]?=ac x->x<j)/\∀i x,below.go xs j fuel lo a<=i->xs[i]?=ac x->j<=x
 | 0,lo,a,g,k,b,c,d=>by
  have:lo=a:=by lia
  subst this;exact⟨b,c,d⟩
 | fuel+1,lo,a,g,k,b,c,d=>by
  unfold below.go;split
  ·dsimp only;have hm:(lo+a)/2<xs.size:=⋯;have e:=me hm;have l:xs.getD ((lo+a)/2) j=xs[(lo+a)/2]:=by rw[p6,e];rfl
   rw[l];split
   ·rename_i hl;refine wq h j fuel _ a ∅ ∅ b (λi x f ex=>?_) d;by_cases z:i=(lo+a)/2;simp_all;exact aav (h.lt ∅ ex e) hl
   refine wq h j fuel lo _ ∅ ∅ (by lia) c λi x f ex=>?_;by_cases z:i=(lo+a)/2;simp_all;have:=h.lt ∅ e ex;lia
  have:lo=a:=by lia
  subst this;exact⟨b,c,d⟩
def xY (h:iJ xs)(j:Nat):below xs j<=xs.size/\(∀i x,i<below xs j->xs[i]?=ac x->x<j)/\∀i x,below xs j<=i->xs[i]?=ac x->j<=x :=
 wq h j xs.size 0 xs.size ⋯ (pe _) (ft _) (λi x a=>absurd a<|Dl _) λi x a e=>by simp_all
def below_at (h:iJ xs)(e:xs[i]?=ac j):below xs j=i:=by
 obtain⟨b1,b,c⟩:=xY h j;rcases abI (below xs j) i with z|z|z
 ·have d:=aav z (Cs.1 e).1;have a:=me d;have:=h.lt z a e;have:=c _ _ (ft _) a;lia
 ·exact z
 cases zd _ (b i j z e)
def yX{t:z9}(h:iJ t.place){i j:Nat}(e:t.place[i]?=ac j):t.slot j=.live i:=by delta slot;dsimp only;rw[below_at h e,e];simp
def Af{t:z9}(hd:t.dummies=#[]){j:Nat}:(∃i,t.slot j=.live i/\t.place[i]?=ac j)\/(t.slot j=.empty/\∀i,below t.place j=i->t.place[i]?≠ac j):=by
 delta slot;dsimp only;split
 ·rename_i h;exact ι ⟨_,ρ,by simpa using h⟩
 right;simp[has];simp_all
def tD{t:z9}(h:iJ t.place)(hd:t.dummies=#[]){j:Nat}:t.slot j=.empty ↔ j∉t.place.toList:=by
 constructor
 ·intro e a;obtain⟨i,b,c⟩:=oy a;have:=yX h (by rw[<-hH,bg b,c]);simp_all
 intro a;rcases Af hd with⟨i,_,e⟩|⟨e,_⟩
 ·rw[<-hH] at e;exact absurd (fB e) a
 exact e
def Qz(xs:Array Nat)(p:Nat)(x:Nat):(ZU xs p x).toList=xs.toList.take p++x::xs.toList.drop p:=by rw[abm]
def iJ.insert (h:iJ xs)(l:j∉xs.toList):iJ (ZU xs (below xs j) j):=by
 obtain⟨b1,m,n⟩:=xY h j;delta iJ;rw[Qz,aee,aaE];have hA:∀x∈xs.toList.take (below xs j),x<j:=λx c=>by obtain⟨i,d,e⟩:=oy c;rw[l5] at d;rw[List.getElem_take] at e;exact m i x ⋯ (by rw[<-hH,bg ∅,e])
 have g:∀x∈xs.toList.drop (below xs j),j<x:=λx c=>by obtain⟨i,d,e⟩:=oy c;rw[y4] at d;rw[List.getElem_drop] at e;have:=n (below xs j+i) x ⋯ (by rw[<-hH,bg ∅,e]);have:x≠j:=λz=>l<|z ▸ acn c;lia
 refine⟨h.sublist<|aaM _ _,⟨g,h.sublist<|List.drop_sublist _ _⟩,λa k b f=>?_⟩;rcases hO.1 f with rfl|f
 ·exact hA a k
 exact aav (hA a k)<|g b f
structure Good (t:z9) (hs:Array Int):Prop where
 m:ie t.mask
 d:t.dummies=#[]
 sz:t.place.size=hs.size
 rise:iJ t.place
 le:∀j∈t.place.toList,j<=t.mask
 nf:t.place.size<=t.mask
 path:∀(i:Nat) (h:Int) (j:Nat),hs[i]?=ac h->t.place[i]?=ac j->∃n,(aH t.mask (t.probeStart h) n).j=j/\∀m,m<n->(aH t.mask (t.probeStart h) m).j∈t.place.toList
def DB(a)(p):(gn a p).dummy=p.dummy:=by delta gn;split<;>rfl
theorem Hu(a)(p):∀n,(aH a p n).dummy=p.dummy
 | 0=>rfl
 | n+1=>(DB a _).trans (Hu a p n)
def wB(a)(p)(n):aH a (gn a p) n=aH a p (n+1):=by rw[ad',h9];rfl
theorem Ca (nd:∀j,t.slot j≠.dummy):∀(fuel:Nat) (p:abN) (k:Nat),p.dummy=am->k<fuel->(t.slot (aH t.mask p k).j=.empty\/∃i,t.slot (aH t.mask p k).j=.live i/\hashAt i=h)->(∀m,m<k->∃i,t.slot (aH t.mask p m).j=.live i) ->
  ∃m,m<=k/\((m=k/\t.slot (aH t.mask p m).j=.empty/\probe.go t hashAt h fuel p=ac (.empty (aH t.mask p m).j am))\/∃i,t.slot (aH t.mask p m).j=.live i/\hashAt i=h/\probe.go t hashAt h fuel p=ac (.candidate (aH t.mask p m).j i (aH t.mask p<|m+1)))
 | 0,_,_,_,b,_,_=>absurd b (Dl _)
 | fuel+1,p,k,hd,b,a,hl=>by
  dsimp only[probe.go];cases e:t.slot p.j with
  | dummy=>cases nd _ e
  | empty =>
   cases k with
   | zero=>exact⟨0,ft _,ι ⟨ρ,e,by dsimp only;rw[hd];rfl⟩⟩
   | succ k=>obtain⟨i,z⟩:=hl 0<|abl _;rw[show (aH t.mask p 0)=p from ρ,e] at z;contradiction
  | live i =>
   dsimp only;by_cases hh:hashAt i=h
   ·refine⟨0,pe _,τ ⟨i,e,hh,?_⟩⟩;rw[if_pos (by simpa using hh),EU];rfl
   rw[if_neg (by simpa using hh),EU];cases k with
   | zero =>
    rcases a with a|⟨i',a,hh'⟩
    ·rw[show (aH t.mask p 0)=p from ρ,e] at a;contradiction
    rw[show (aH t.mask p 0)=p from ρ,e] at a;lia
   | succ k=>obtain⟨m,hm,r⟩:=Ca nd fuel (gn t.mask p) k (by rw[DB];exact hd) (by lia) (by rw[wB];exact a) (by simp_all [wB]);refine⟨m+1,∅,?_⟩;simp_all [wB]
def Good.As (g:Good t hs)(j:Nat):t.slot j≠.dummy:=λe=>by rcases Af g.d with⟨i,a,_⟩|⟨a,_⟩<;>rw[a] at e<;>contradiction
def A1(t:z9)(h:Int):(t.probeStart h).more<=9/\(t.probeStart h).perturb<2 ^ 64/\(t.probeStart h).dummy=am:=by
 refine⟨?_,?_,ρ⟩
 ·show aaI t.mask _-_<=9;delta aaI;split<;>lia
 show acT h<2 ^ 64;simp[acT,aag]
def Good.ends (g:Good t hs)(h:Int):∃n,n<10*acg t.mask/\t.slot (aH t.mask (t.probeStart h) n).j=.empty:=by
 have ex:∃e,e<=t.mask/\e∉t.place.toList:=by refine ZI λno=>?_;have sub:∀e∈hM (t.mask+1),e∈t.place.toList:=λe a=>ZI λz=>no ⟨e,t9<|nk.1 a,z⟩;have:=acw abR sub;rw[kL,nT] at this;have:=g.nf;lia
 obtain⟨e,a,b⟩:=ex;obtain⟨c,f,_⟩:=A1 t h;obtain⟨n,i,k⟩:=cover g.m c f a;exact⟨n,i,by rw[k];exact (tD g.rise g.d).2 b⟩
theorem Good.stop{t:z9}{hs:Array Int}(g:Good t hs)(h:Int)(is:Nat->Prop)(r:∀i,is i->hs[i]?=ac h) :
  ∃N,N<10*acg t.mask/\(∀m,m<N->∃i,t.slot (aH t.mask (t.probeStart h) m).j=.live i/\¬is i)/\((t.slot (aH t.mask (t.probeStart h) N).j=.empty/\∀i,¬is i)\/∃i,t.slot (aH t.mask (t.probeStart h) N).j=.live i/\is i):=by
 obtain⟨n,hn,s⟩:=g.ends h;have key:∀k,k<=n->(∀m,m<k->∃i,t.slot (aH t.mask (t.probeStart h) m).j=.live i/\¬is i)\/∃N,N<k/\(∀m,m<N->∃i,t.slot (aH t.mask (t.probeStart h) m).j=.live i/\¬is i)/\(t.slot (aH t.mask (t.probeStart h) N).j=.empty\/∃i,t.slot (aH t.mask (t.probeStart h) N).j=.live i/\is i):=λk=>by
  induction k with
  | zero=>exact λ_=>ι λm hm=>absurd hm (Dl _)
  | succ k u =>
   intro hk;rcases u (by lia) with a|⟨N,a,b⟩
   ·cases e:t.slot (aH t.mask (t.probeStart h) k).j with
    | dummy=>cases g.As _ e
    | empty=>exact τ ⟨k,aaw _,a,ι e⟩
    | live i =>
     by_cases z:is i
     ·exact τ ⟨k,aaw _,a,τ ⟨i,e,z⟩⟩
     refine ι λm hm=>?_;by_cases q:m=k;simp_all;exact a m (by lia)
   exact τ ⟨N,by lia,b⟩
 have f:∃N,N<=n/\(∀m,m<N->∃i,t.slot (aH t.mask (t.probeStart h) m).j=.live i/\¬is i)/\(t.slot (aH t.mask (t.probeStart h) N).j=.empty\/∃i,t.slot (aH t.mask (t.probeStart h) N).j=.live i/\is i):=by
  rcases key n (ft _) with a|⟨N,a,b⟩
  ·exact⟨n,ft _,a,ι s⟩
  exact⟨N,by lia,b⟩
 obtain⟨N,hN,a,b⟩:=f;refine⟨N,by lia,a,?_⟩;rcases b with b|b
 ·refine ι ⟨b,λi z=>?_⟩;have hh:=r i z;have l:i<t.place.size:=by rw[g.sz];exact (Cs.1 hh).1
  have c:=me l;obtain⟨o,p,v⟩:=g.path i h _ hh c;rcases abI o N with q|q|q
  ·obtain⟨i',w,ne⟩:=a o q;rw[p,yX g.rise c] at w;simp_all
  ·subst q;rw[p,yX g.rise c] at b;contradiction
  exact (tD g.rise g.d).1 b (v N q)
 exact τ b
def Ec (h:i<=a):i+(aaI a i-i)<=a:=by delta aaI;split<;>lia
def K3 (h:p.j+p.more<=a):(gn a p).j+(gn a p).more<=a:=by delta gn;split;lia;exact Ec<|t9<|zR _<|abl _
theorem Ds (h:p.j+p.more<=a):∀n,(aH a p n).j+(aH a p n).more<=a
 | 0=>h
 | n+1=>K3<|Ds h n
def FD(t:z9)(h:Int)(n:Nat):(aH t.mask (t.probeStart h) n).j<=t.mask:=by have:(t.probeStart h).j+(t.probeStart h).more<=t.mask:=Ec<|t9<|zR _<|abl _;have:=Ds this n;lia
def Bz (hp:p<=xs.size)(e:(ZU xs p x)[i]?=ac y):(i=p/\y=x)\/(i<p/\xs[i]?=ac y)\/(p<i/\xs[i-1]?=ac y):=by
 rw[<-hH,abm] at e;have hl:(xs.toList.take p).length=p:=by simp only[l5,nT];lia
 rcases abI i p with h|h|h
 ·rw[qt ∅,aeA,if_pos h] at e;exact τ<|ι ⟨h,by rw[<-hH];exact e⟩
 ·rw[ph ∅,hl,h,ad8] at e;exact ι ⟨h,(Option.some.inj e).symm⟩
 rw[ph ∅,hl,show i-p=(i-p-1)+1 by lia,adO,acE] at e;exact τ<|τ ⟨h,by rw[<-hH,show i-1=p+(i-p-1) by lia];exact e⟩
def zy:y∈(ZU xs p x).toList ↔ y=x\/y∈xs.toList:=by rw[(abH xs p x).mem_iff,aeD,hY,kH,or_comm]
def ug (xs:Array a)(p:Nat)(x:a):(ZU xs p x).size=xs.size+1:=by have:=(abH xs p x).length_eq;simpa using this
def xi{t:z9}(hd:t.dummies=#[])(j:Nat):t.put j=({t with place:=ZU t.place (below t.place j) j},below t.place j):=by simp_all [SetTable.put,has]
def Good.put (g:Good t hs)(x:t.slot (aH t.mask (t.probeStart h) N).j=.empty)(hl:∀m,m<N->∃i,t.slot (aH t.mask (t.probeStart h) m).j=.live i)(room:t.place.size+1<=t.mask) :
  Good (t.put (aH t.mask (t.probeStart h) N).j).1 (ZU hs (t.put (aH t.mask (t.probeStart h) N).j).2 h):=by
 have A:=(tD g.rise g.d).1 x;have o:=FD t h N;have p:∀m,m<N->(aH t.mask (t.probeStart h) m).j∈t.place.toList:=λm hm=>by obtain⟨i,e⟩:=hl m hm;exact ZI λz=>by rw[(tD g.rise g.d).2 z] at e;contradiction
 simp[xi g.d];obtain⟨s,_,_⟩:=xY g.rise (aH t.mask (t.probeStart h) N).j;generalize u:(aH t.mask (t.probeStart h) N).j=j at *;refine⟨g.m,g.d,?_,g.rise.insert A,λy B=>?_,?_,λi h' l C D=>?_⟩
 ·rw[ug,ug,g.sz]
 ·rcases zy.1 B with rfl|z
  ·exact o
  exact g.le y z
 ·rwa[ug]
 have v:below t.place j<=hs.size:=by rw[<-g.sz];exact s
 have k:∀i,hs[i]?=ac h'->t.place[i]?=ac l->∃n,(aH t.mask (t.probeStart h') n).j=l/\∀m,m<n->(aH t.mask (t.probeStart h') m).j∈(ZU t.place (below t.place j) j).toList:=λi a b=>by obtain⟨n,c,d⟩:=g.path i h' l a b;exact⟨n,c,λm hm=>zy.2<|τ<|d m hm⟩
 rcases Bz v C with⟨q,r⟩|⟨q,r⟩|⟨q,r⟩<;>rcases Bz s D with⟨w,f⟩|⟨w,f⟩|⟨w,f⟩<;>try lia
 ·rw[r,f];exact⟨N,u,λm hm=>zy.2<|τ<|p m hm⟩
 ·exact k i r f
 exact k (i-1) r f
def Good.fresh(fingerV movesV)(led):Good (SetTable.fresh fingerV movesV led) #[]:=⟨ι ρ,ρ,ρ,aa7,λj h=>(by cases h),pe _,λi h j e=>(by simp at e)⟩
noncomputable def lp(a:Nat)(s:Nat×Nat):Nat->Nat×Nat
 | 0=>s
 | c+1=>lp a (ado a s.1 s.2) c
noncomputable def jS(a:Nat)(s:Nat×Nat):Probe:={j:=s.1,more:=aaI a s.1-s.1,i:=s.1,perturb:=s.2,dummy:=am}
def Bo(a)(s):aH a (jS a s) (aaI a s.1-s.1+1)=jS a (ado a s.1 s.2):=by simp[gn,aH,jS,uz]
def Cg(a i):i<=aaI a i:=by delta aaI;split<;>lia
theorem CI:∀(fuel:Nat) (s:Nat×Nat) (j:Nat),aac a b fuel s.1 s.2=ac j->∃n,(aH a (jS a s) n).j=j/\(b.getD j<|ac 0).isNone=bi/\∀m,m<n->(b.getD (aH a (jS a s) m).j (ac 0)).isSome=bi
 | 0,_,_,h=>by exact nO h
 | fuel+1,s,j,h=>by
  unfold aac at h;have re:=Cg a s.1;have c:∀k,k<=aaI a s.1-s.1->(aH a (jS a s) k).j=s.1+k:=λk d=>by rw[uz a k (jS a s) d];rfl
  cases e:(hM<|aaI a s.1+1-s.1).find? λk=>(b.getD (s.1+k)<|ac 0).isNone with
  | some k=>rw[e] at h;have h:=Option.some.inj h;have d:=nk.1<|ZT e;refine⟨k,by grind,by rw[<-h];have:=aba e;exact this,λm hm=>?_⟩;rw[c m ∅];simp_all
  | none =>
   rw[e] at h;obtain⟨n,f,g,i⟩:=CI fuel (ado a s.1 s.2) j h;refine⟨aaI a s.1-s.1+1+n,by rw[h9,Bo];exact f,g,λm hm=>?_⟩;by_cases q:m<aaI a s.1-s.1+1
   ·rw[c m (by lia)];have:=L'.1 e m<|nk.2 ∅;cases ho:b.getD (s.1+m) (ac 0) with
    | none=>simp_all
    | some v=>rfl
   have l:m=aaI a s.1-s.1+1+(m-(aaI a s.1-s.1+1)):=⋯;rw[l,h9,Bo];exact i _ (by lia)
theorem u4(a):∀(c:Nat) (s:Nat×Nat),lp a s (c+1)=ado a (lp a s c).1 (lp a s c).2
 | 0,_=>rfl
 | c+1,s=>by show lp a (ado a s.1 s.2) (c+1)=_;rw[u4 a c];rfl
theorem Fo(a)(s):∀c,(lp a s c).2=s.2/32 ^ c
 | 0=>by simp only[agc,agE];rfl
 | c+1=>by rw[u4];show (lp a s c).2/32=_;simp only[Fo a s c,ad9,agd]
theorem RK (h:s.1<=a):∀c,(lp a s c).1<=a
 | 0=>h
 | c+1=>by rw[u4];exact t9<|zR _<|abl _
theorem FZ (h:s.2<2 ^ 64):∀c,(lp a s<|13+c).1=eW a (lp a s 13).1 c
 | 0=>rfl
 | c+1=>by
  show (lp a s<|13+c+1).1=_;rw[u4];show ((lp a s<|13+c).1*5+1+(lp a s<|13+c).2/32)%(a+1)=(eW a (lp a s 13).1 c*5+1)%(a+1);have z:(lp a s<|13+c).2=0:=by rw[Fo];refine afh<|lF h<|px (show 2 ^ 64<=32 ^ 13 by decide)<|Nat.pow_le_pow_right ⋯ ⋯
  rw[z,FZ h c]
def Jx (hm:ie a)(b:s.1<=a)(d:s.2<2 ^ 64)(f:e<=a):∃c,c<acg a/\(lp a s c).1=e:=by obtain⟨c,hc,g⟩:=A0 hm (RK b 13) f;exact⟨13+c,by delta acg;lia,by rw[FZ d];exact g⟩
theorem EO:∀(fuel:Nat) (s:Nat×Nat),aac a b fuel s.1 s.2=am->∀c,c<fuel->(b.getD (lp a s c).1 (ac 0)).isNone=bv
 | 0,_,_,_,d=>absurd d (Dl _)
 | fuel+1,s,h,c,d=>by
  unfold aac at h;have re:=Cg a s.1;cases e:(hM<|aaI a s.1+1-s.1).find? λk=>(b.getD (s.1+k)<|ac 0).isNone with
  | some k=>rw[e] at h;contradiction
  | none =>
   rw[e] at h;cases c with
   | zero=>have:=L'.1 e 0<|nk.2 ⋯;exact qo.2 this
   | succ c=>exact EO fuel (ado a s.1 s.2) h c (by lia)
theorem Ol{a:Nat}(hm:ie a){b:Array (Option Nat)}{s:Nat×Nat}(d:s.1<=a)(f:s.2<2 ^ 64){e:Nat}(g:e<=a)(h:(b.getD e<|ac 0).isNone=bi):∃j,aac a b (acg a) s.1 s.2=ac j:=by
 cases q:aac a b (acg a) s.1 s.2 with
 | some j=>exact⟨j,ρ⟩
 | none=>obtain⟨c,i,k⟩:=Jx hm d f g;have:=EO _ s q c i;rw[k,h] at this;contradiction
structure Laid (maskV:Nat) (hs:List Int) (owner:Array (Option Nat)) (k:Nat):Prop where
 sz:owner.size=maskV+1
 O:∀i,i<k->∃j:Nat,owner[j]?=ac (ac i)
 inj:∀j j' i:Nat,owner[j]?=ac (ac i)->owner[j']?=ac (ac i)->j=j'
 lt:∀j i:Nat,owner[j]?=ac (ac i)->i<k
 path:∀(i:Nat) (h:Int) (j:Nat),hs[i]?=ac h->owner[j]?=ac (ac i)->∃n,(aH maskV (jS maskV (acT h%(maskV+1),acT h)) n).j=j/\∀m,m<n->∃v,owner[(aH maskV (jS maskV (acT h%(maskV+1),acT h)) m).j]?=ac (ac v)
theorem Mq(h:Int):acT h<2 ^ 64:=(A1 (SetTable.fresh 0 0 true) h).2.1
def Cy(a)(h)(n):(aH a (jS a (acT h%(a+1),acT h)) n).j<=a:=FD {SetTable.fresh 0 0 true with mask:=a} h n
def getD_none{a:Array (Option Nat)}{j:Nat}(hj:j<a.size):(a.getD j<|ac 0).isNone=bi ↔ a[j]?=ac am:=by simp_all
def getD_some{a:Array (Option Nat)}{j:Nat}(b:j<a.size):(a.getD j<|ac 0).isSome=bi ↔ ∃v,a[j]?=ac (ac v):=by rw[p6,me b];cases h:a[j]<;>simp
theorem Laid.step (hm:ie c)(L:Laid c hs d k)(F:hs[k]?=ac h)(room:k<=c):∃j,aac c d (acg c) (acT h%(c+1)) (acT h)=ac j/\Laid c hs (d.setIfInBounds j<|ac k) (k+1):=by
 have ex:∃e,e<=c/\(d.getD e<|ac 0).isNone=bi:=by
  refine ZI λno=>?_
  have all:∀e,e<=c->∃v,d[e]?=ac (ac v):=λe o=>(getD_some (by rw[L.sz];omega)).1 (by
   cases q:d.getD e (ac 0) with
   | none=>exact absurd ⟨e,o,by rw[q];rfl⟩ no
   | some v=>rfl)
  let g:Nat->Nat:=λe=>((d[e]?).bind id).getD 0;have y:∀e,e<=c->d[e]?=ac (ac<|g e):=λe o=>by obtain⟨v,p⟩:=all e o;show d[e]?=ac (ac<|((d[e]?).bind id).getD 0);rw[p];rfl
  have nd:((hM<|c+1).map g).Nodup:=ox.2 (abR.imp_of_mem λ{a b} r G B e=>B<|L.inj a b (g a) (y a<|t9<|nk.1 r) (by rw[e];exact y b<|t9<|nk.1 G));have sub:∀v∈(hM<|c+1).map g,v∈hM k:=λv p=>by obtain⟨e,o,rfl⟩:=ee.1 p;exact nk.2<|L.lt e _<|y e<|t9<|nk.1 o
  have:=acw nd sub;rw[ax,kL,kL] at this;lia
 obtain⟨e,o,H⟩:=ex;have C:acT h%(c+1)<=c:=t9<|zR _<|abl _;obtain⟨j,D⟩:=Ol hm (s:=(acT h%(c+1),acT h)) C (Mq h) o H;obtain⟨n,E,I,J⟩:=CI _ (acT h%(c+1),acT h) j D;have hj:j<=c:=by rw[<-E];exact Cy c h n
 have x:j<d.size:=by rw[L.sz];lia
 have K:=(getD_none x).1 I;have t:∀a:Nat,(d.setIfInBounds j<|ac k)[a]?=if a=j then ac (ac k) else d[a]?:=λa=>by
  rw[Array.getElem?_setIfInBounds];by_cases q:j=a
  ·subst q;rw[if_pos ρ,if_pos ρ,if_pos x]
  rw[if_neg q,if_neg<|λz=>q z.symm]
 have keep:∀a v,d[a]?=ac (ac v)->(d.setIfInBounds j<|ac k)[a]?=ac (ac v):=λa v r=>by rw[t,if_neg (λz=>by rw[z,K] at r;cases r)];exact r
 refine⟨j,D,⟨by rw[Array.size_setIfInBounds];exact L.sz,λi C=>?_,λa b i l u=>?_,λa i l=>?_,λi h' a A w=>?_⟩⟩
 ·by_cases q:i=k
  ·subst q;exact⟨j,by rw[t,if_pos ρ]⟩
  obtain⟨a,r⟩:=L.O i (by lia);exact⟨a,keep a i r⟩
 ·rw[t] at l u;split at l<;>split at u
  ·lia
  ·cases l;have:=L.lt b k u;omega
  ·cases u;have:=L.lt a k l;omega
  exact L.inj a b i l u
 ·rw[t] at l;split at l
  ·cases l;lia
  have:=L.lt a i l;lia
 rw[t] at w;split at w
 ·cases w;rw[F] at A;obtain rfl:=sO A;rename_i q;subst q;refine⟨n,E,λm hm=>?_⟩;obtain⟨v,p⟩:=(getD_some (by rw[L.sz];have:=Cy c h m;lia)).1 (J m hm);exact⟨v,keep _ v p⟩
 obtain⟨M,N,O⟩:=L.path i h' a A w;refine⟨M,N,λm hm=>?_⟩;obtain⟨v,p⟩:=O m hm;exact⟨v,keep _ v p⟩
noncomputable def uR(a:Nat)(c:Option (Array (Option Nat)×Nat))(h:Int):Option (Array (Option Nat)×Nat):=do
 let (b,k) <-c;let j <-aac a b (acg a) (acT h%(a+1)) (acT h)
 pure (b.setIfInBounds j<|ac k,k+1)
theorem BR (hm:ie b)(f:hs.length<=b):∀(l pre:List Int) (a:Array (Option Nat)),hs=pre++l->Laid b hs a pre.length->∃c,l.foldl (uR b) (ac (a,pre.length))=ac (c,hs.length)/\Laid b hs c hs.length
 | [],pre,a,e,L=>by rw[wa] at e;subst e;exact⟨a,ρ,L⟩
 | h::l,pre,a,e,L=>by
  have g:hs[pre.length]?=ac h:=by rw[e,ph<|ft _,ad8];rfl
  have hl:pre.length<hs.length:=by simp_all
  obtain⟨j,ej,i⟩:=L.step hm g (by lia);obtain⟨c,k,d⟩:=BR hm f l (pre++[h]) (a.setIfInBounds j<|ac pre.length) (by rw[e,wm];rfl) (by rw[gd];exact i);refine⟨c,?_,d⟩;simp;have:uR b (ac (a,pre.length)) h=ac (a.setIfInBounds j<|ac pre.length,(pre++[h]).length):=by delta uR;simp_all
  rwa[this]
def SY (hm:ie a)(hs:Array Int)(hn:hs.size<=a):∃b,layClean a hs=ac b/\Laid a hs.toList b hs.size:=by
 have c:Laid a hs.toList (adb (a+1) am) 0:=by
  have no:∀j i:Nat,(adb (a+1) (am:Option Nat))[j]?≠ac (ac i):=by simp[Array.getElem?_replicate]
  exact⟨Array.size_replicate,λi d=>absurd d<|Dl _,λj j' i e=>absurd e<|no j i,λj i e=>absurd e<|no j i,λi h j _ e=>absurd e<|no j i⟩
 obtain⟨b,e,L⟩:=BR hm (hs:=hs.toList) ∅ hs.toList [] _ ρ c;refine⟨b,?_,L⟩;show (hs.foldl (uR a)<|ac (adb (a+1) am,0)).map (·.1)=_;simp_all
noncomputable def gX(a:Nat)(b:Array (Option Nat)):List (Nat×Nat):=(hM<|a+1).filterMap λj=>(b.getD j am).map (j,·)
theorem nc (L:Laid c hs b n):(j,i)∈gX c b ↔ b[j]?=ac (ac i):=by
 delta gX;rw[ZJ];have d:∀a,b.getD a am=(b[a]?).getD am:=λa=>p6 ..;constructor
 ·rintro⟨a,ha,e⟩;rw[d] at e;cases q:b[a]? with
  | none=>rw[q] at e;exact nO e
  | some o=>simp_all
 intro e;have f:=(Cs.1 e).1;exact⟨j,nk.2 (by rw[<-L.sz];exact f),by rw[d,e];rfl⟩
def BV(c)(d):((gX c d).map (·.1)).Pairwise (·<·):=by delta gX;rw[ox,List.pairwise_filterMap];refine List.pairwise_lt_range.imp λ{a b} e x f y g=>?_;obtain⟨u,_,rfl⟩:=gj.1 f;obtain⟨v,_,rfl⟩:=gj.1 g;exact e
def Qs (L:Laid c hs d n):((gX c d).map (·.2)).Perm (hM n):=by
 refine (abo ?_ abR).2 λi=>?_
 ·refine ox.2 ((ox.1<|BV c d).imp_of_mem λ{a b} g h hab e=>?_);obtain⟨k,f⟩:=a;obtain⟨l,m⟩:=b;subst e;have:=L.inj k l f ((nc L).1 g)<|(nc L).1 h;simp_all
 rw[ee,nk];constructor
 ·rintro⟨⟨j,v⟩,o,rfl⟩;exact L.lt j v<|(nc L).1 o
 intro p;obtain⟨j,q⟩:=L.O i p;exact⟨(j,i),(nc L).2 q,ρ⟩
theorem uB (xs:Array d):∀(l:List Nat),(∀i∈l,i<xs.size)->(l.filterMap λi=>xs[i]?).length=l.length/\∀k i:Nat,l[k]?=ac i->(l.filterMap λi=>xs[i]?)[k]?=xs[i]?
 | [],_=>⟨ρ,λk i e=>by exact nO e⟩
 | a::l,h=>by
  obtain⟨f,g⟩:=uB xs l λi j=>h i<|fk _ j;obtain⟨y,b⟩:∃y,xs[a]?=ac y:=⟨_,me<|h a eN⟩;have e:((a::l).filterMap λi=>xs[i]?)=y::l.filterMap λi=>xs[i]?:=by simp only[abf,b]
  rw[e];refine⟨by simp only[gk,gk,f],λk i c=>?_⟩;cases k with
  | zero=>cases (Option.some.inj c);exact b.symm
  | succ k=>exact g k i c
def Good.laid{b fingerV movesV:Nat}{led plain:Bool}(hm:ie b){hs:Array Int}(o:hs.size<=b):∃t order,SetTable.laid b fingerV movesV led plain hs=ac (t,order)/\t.mask=b/\t.led=led/\t.moves=movesV/\t.plain=plain/\order.toList.Perm (hM hs.size)/\Good t (order.filterMap λi=>hs[i]?):=by
 obtain⟨c,e,L⟩:=SY hm hs o;have pm:=Qs L;have rs:=BV b c;refine⟨{mask:=b,place:=((gX b c).map (·.1)).toArray,dummies:=#[],finger:=fingerV,led:=led,moves:=movesV,plain:=plain},((gX b c).map (·.2)).toArray,?_,ρ,ρ,ρ,ρ,pm,?_⟩
 ·delta SetTable.laid;rw[e];rfl
 have all:∀i∈(gX b c).map (·.2),i<hs.size:=λi p=>nk.1<|pm.mem_iff.1 p;obtain⟨m1,q⟩:=uB hs _ all;have r:(((gX b c).map (·.2)).toArray.filterMap λi=>hs[i]?).toList=((gX b c).map (·.2)).filterMap λi=>hs[i]?:=by rw[abX]
 have ll:(gX b c).length=hs.size:=by have:=pm.length_eq;simp_all
 have g:∀j v,c[j]?=ac (ac v)->j∈(gX b c).map (·.1):=λj v h=>ee.2 ⟨(j,v),(nc L).2 h,ρ⟩;refine⟨hm,ρ,?_,rs,λj f=>?_,?_,λi h j k d=>?_⟩;simp_all
 ·have f:=f;obtain⟨⟨a,v⟩,s,rfl⟩:=ee.1 f;have:=(Cs.1<|(nc L).1 s).1;rw[L.sz] at this;exact t9 this
 simp_all;have d:=d;rw[List.getElem?_toArray,ez] at d;obtain⟨⟨a,v⟩,l,rfl⟩:=gj.1 d;have w:=(nc L).1 (fB l);rw[<-hH,r,q i v (by rw[ez,l];rfl),<-hH] at k;obtain⟨n,x,y⟩:=L.path v h a k w;refine⟨n,x,λm hm=>?_⟩;obtain⟨u,z⟩:=y m hm;exact g _ u z
section
variable{prog:lq}{w:qh}{K:Type}[DecidableEq K]{knd:KeyKind prog w K}{A:pk}{E:dk->eK->Prop}{s:eK}
def N3(n)(h:acG v=bi):adl n v=pure false:=by
 cases v<;>first|(cases n<;>rfl)|contradiction
def FN (e:ro knd s.heap g a)(h:Q false s):ka (k7 prog w) A (adl 8<|.ref a) Q E s:=by
 have i:=e.typeIs;obtain⟨o,items,n,ho,_,hd,j⟩:=e;unfold adl;refine ey<|aeE i ?_;refine ey<|gi ?_;refine ey<|adY ho hd ?_;apply ey;rw[<-aet];refine afV _ (λb r s'=>r.1=am/\s'=s/\∀v∈b,acG v=bi) _ ?_ ?_ _ _ ⟨ρ,ρ,j.byValue⟩
 ·rintro v b r s' ⟨d,rfl,c⟩;rw[N3 _ (c v eN)];refine ey<|gi ?_;exact gi ⟨ρ,ρ,λu f=>c u<|fk _ f⟩
 rintro⟨r1,r2⟩ s' ⟨d,rfl,_⟩;subst d;exact gi h
def LP (j:ro knd s.heap k x)(m:∀y∈ys,∃a d,y=.ref a/\ro knd s.heap d a)(h:Q false s):ka (k7 prog w) A (afL (.ref x) ys) Q E s:=by
 apply ey;refine afV _ (λb r s'=>r.1=am/\s'=s/\∀y∈b,∃a d,y=.ref a/\ro knd s.heap d a) _ ?_ ?_ _ _ ⟨ρ,ρ,m⟩
 ·rintro v b r s' ⟨i,rfl,f⟩;obtain⟨a,d,rfl,g⟩:=f v eN;have c:∀y∈b,∃a d,y=.ref a/\ro knd s'.heap d a:=λu l=>f u (fk _ l);by_cases e:(x==a||(acG (.ref x)&&acG (.ref a)))=bi
  ·rw[if_pos e];exact gi ⟨ρ,ρ,c⟩
  rw[if_neg e];refine ey<|aeZ j ?_;refine ey<|aeZ g ?_;refine ey<|FN j ?_;refine ey<|FN g ?_;exact gi ⟨ρ,ρ,c⟩
 rintro⟨r1,r2⟩ s' ⟨i,rfl,_⟩;subst i;exact gi h
end
end
section
open PySem.SetTable
section
variable{prog:lq}{w:qh}{K:Type}[DecidableEq K]{knd:KeyKind prog w K}{A:pk}{E:dk->eK->Prop}{s:eK}
noncomputable def hA(a:Array (Int×dk))(i:Nat):Int:=(a[i]?.map (·.1)).getD 0
def qX(knd:KeyKind prog w K)(h:pq)(b:Array (Int×dk)):Prop:=∀(i:Nat) (e:Int×dk),b[i]?=ac e->∃a k,e=(nL knd k,rm a)/\ro knd h k a
def At(knd:KeyKind prog w K)(h:pq)(b:Array (Int×dk))(k:List K)(i:Nat):Prop:=∃a,b[i]?=ac (nL knd k,rm a)/\ro knd h k a
def Good.fits{t:z9}{a:Array (Int×dk)}(g:Good t (a.map (·.1))):t.fits a.size=bi:=by delta SetTable.fits aeN;simp only[g.sz,g.d,Z5];have:=g.nf;rw[g.sz,Z5] at this;simpa using this
def odd (h:ie m):(m%2==0)=bv:=by rcases h with rfl|rfl|rfl<;>rfl
theorem Jz (ho:s.heap.get? S=ac o)(hd:o.data=.set p ep t)(g:Good t (p.map (·.1)))(H:qX knd s.heap p)(M:ro knd s.heap k x)(P:A.units<vv)(hN:N<10*acg t.mask)(hl:∀m,m<N->∃i,t.slot (aH t.mask (t.probeStart<|nL knd k) m).j=.live i/\¬At knd s.heap p k i)(D:(t.slot (aH t.mask (t.probeStart<|nL knd k) N).j=.empty/\Q (.free (aH t.mask (t.probeStart<|nL knd k) N).j false) s)\/((∃i,t.slot (aH t.mask (t.probeStart<|nL knd k) N).j=.live i/\At knd s.heap p k i)/\Q (.there am) s)) :
  ∀(d n:Nat) (stand:Option abN) (b:Nat),N-n=d->n<=N->d<b->stand.getD (t.probeStart<|nL knd k)=aH t.mask (t.probeStart<|nL knd k) n->ka (k7 prog w) A (agX S (.ref x) (nL knd k) true b stand) Q E s:=by
 intro d;induction d using Nat.strongRecOn with
 | ind d R =>
  intro n stand b hdn I T hs;obtain⟨b,rfl⟩:∃f,b=f+1:=⟨b-1,by lia⟩;refine ey<|aar ho hd g.fits ?_;dsimp only;rw[show t.gaveWay=bv from odd g.m,hs];simp only[o3,if_false];have F:∀m,aH t.mask (aH t.mask (t.probeStart<|nL knd k) n) m=aH t.mask (t.probeStart<|nL knd k) (n+m):=λm=>(h9 ..).symm;have U:∀i,At knd s.heap p k i->hA p i=nL knd k:=λi ⟨a,e,_⟩=>by delta hA;rw[e];rfl
  have gm:=Ca g.As (10*acg t.mask) (aH t.mask (t.probeStart<|nL knd k) n) (N-n) (by rw[Hu];rfl) (by lia) (by
   rw[F,abi I];rcases D with⟨h,_⟩|⟨⟨i,h,ha⟩,_⟩
   ·exact ι h
   ·exact τ ⟨i,h,U i ha⟩) (λm hm=>by
   rw[F];obtain⟨i,h,_⟩:=hl (n+m) (by lia)
   exact⟨i,h⟩)
  obtain⟨m,hm,r⟩:=gm;rw[F,F] at r;have pr:∀f,f=hA p->t.probe f (nL knd k) (aH t.mask (t.probeStart<|nL knd k) n)=probe.go t (hA p) (nL knd k) (10*acg t.mask) (aH t.mask (t.probeStart<|nL knd k) n):=λf e=>by rw[e];rfl
  rw[pr _ ?T]
  case T=>rfl
  rcases r with⟨rfl,l,B⟩|⟨i,l,hh,B⟩
  ·simp[B];rw[abi I] at l ⊢;rcases D with⟨_,q⟩|⟨⟨i,h,_⟩,_⟩
   ·exact gi q
   rw[h] at l;contradiction
  rw[B];dsimp only;have V:∃J,t.place[i]?=ac J:=by
   rcases Af g.d with⟨W,C,O⟩|⟨C,_⟩
   ·rw[C] at l;cases l;exact⟨_,O⟩
   rw[C] at l;contradiction
  obtain⟨J,hJ⟩:=V;have hi:i<p.size:=by have:=(Cs.1 hJ).1;rwa[g.sz,Z5] at this
  obtain⟨e,u⟩:∃e,p[i]?=ac e:=⟨_,me hi⟩;obtain⟨a,G,rfl,v⟩:=H i e u;have L:G=k->Q (.there am) s:=λc=>by
   subst c;rcases D with⟨h,_⟩|⟨_,q⟩
   ·exfalso;by_cases z:n+m=N
    ·rw[z,h] at l;contradiction
    obtain⟨W,h',na⟩:=hl (n+m) (by lia);rw[h'] at l;cases l;exact na ⟨a,u,v⟩
   exact q
  have no:G≠k->n+m<N:=λc=>by
   refine ZI λz=>?_;have z:n+m=N:=by lia
   rw[z] at l;rcases D with⟨h,_⟩|⟨⟨W,h,a',X,Y⟩,_⟩
   ·rw[h] at l;cases l
   rw[h] at l;cases l;rw[u] at X;have ea:a=a':=by injection (congrArg afn<|Option.some.inj X)
   subst ea;exact c<|v.inj Y
  split
  ·refine ey<|LP M (λy hy=>?_) ?_
   ·obtain⟨C,h1,rfl⟩:=ee.1 hy;obtain⟨j1,h2,h3⟩:=oy (aa3.1 h1 |> Array.mem_filter.1 |>.1 |> aa3.2);obtain⟨a1,k1,O,Z⟩:=H j1 C (by rw[<-hH,bg h2,h3]);exact⟨a1,k1,by rw[O],Z⟩
   simp only[o3,if_false];rw[u];dsimp only;refine ey<|sj<|afs P v M ?_;refine ey<|aar ho hd g.fits ?_;by_cases c:G=k
   ·rw[decide_eq_true c];exact gi<|L c
   rw[decide_eq_false c];simp only[afr,o3,if_false];rw[show t.sameMemory t.moves t.mask=ac true by unfold adJ;simp];dsimp only;rw[if_pos ρ,l];dsimp only;rw[u];dsimp only;refine ey<|aeX ?_;exact R (N-(n+(m+1))) (by have:=no c;omega) (n+(m+1)) _ b ρ (by have:=no c;omega) (by have:=no c;omega) ρ
  rw[u];dsimp only;refine ey<|sj<|afs P v M ?_;refine ey (aar ho hd g.fits ?_);by_cases c:G=k
  ·rw[decide_eq_true c];exact gi<|L c
  rw[decide_eq_false c];simp only[afr,o3,if_false];rw[show t.sameMemory t.moves t.mask=ac true by unfold adJ;simp];dsimp only;rw[if_pos ρ,l];dsimp only;rw[u];dsimp only;refine ey<|aeX ?_;exact R (N-(n+(m+1))) (by have:=no c;omega) (n+(m+1)) _ b ρ (by have:=no c;omega) (by have:=no c;omega) ρ
end
end
section
open PySem.SetTable
section
variable{prog:lq}{w:qh}{K:Type}[DecidableEq K]{knd:KeyKind prog w K}{A:pk}{E:dk->eK->Prop}{s:eK}
def rH(knd:KeyKind prog w K)(k:List K):Prop:=∃k0 r,k=k0::r/\∀v,knd.is k0 v=bi->∃x t,v=ZR x t
theorem R0 (c:ro knd s.heap b a)(tx:rH knd b)(h:Q false s):ka (k7 prog w) A (hashByValue 8<|.ref a) Q E s:=by
 have f:=c.typeIs;obtain⟨o,items,n,ho,_,hd,d⟩:=c;obtain⟨k0,r,rfl,z⟩:=tx;refine ey<|agh f F.slot_tuple_hash.lookup ?_;refine ey<|adY ho hd ?_;apply ey;show ka _ _ (forIn items _ _) _ _ s;rw[<-aet];generalize items.toList=l at d;cases d with
 | cons e _=>obtain⟨x,t,rfl⟩:=z _ e;rw[aca];exact ey<|ey<|gi<|gi<|gi<|gi h
end
end
section
open PySem.SetTable
section
variable{prog:lq}{w:qh}{K:Type}[DecidableEq K]{knd:KeyKind prog w K}{A:pk}{E:dk->eK->Prop}{s:eK}
def nq (x:ro knd h k a)(ho:h.get? S=ac o)(hd:o.data=.set e ep t)(hs:aae S h h'):ro knd h' k a:=by
 obtain⟨f,items,n,b,g,c,i⟩:=x;have d:a≠S:=by lia
 exact⟨f,items,n,(hs.2 a d).trans b,g,c,i⟩
def gK(knd:KeyKind prog w K)(U:eH->Prop)(h:pq)(S:eH)(c:List (List K)):Prop:=∃o b ep t,h.get? S=ac o/\o.ExactSet/\o.data=.set b ep t/\Good t (b.map (·.1))/\qX knd h b/\(∀k,(∃i,At knd h b k i) ↔ k∈c)/\b.size=c.length/\t.place.size*5<t.mask*3/\(∀e∈b.toList,∃a,e.2=.ref a/\U a)/\(c≠[]->t.plain=bv)
def TX (a:Array b):(hM a.size).filterMap (λi=>a[i]?)=a.toList:=by
 apply abE;intro q;obtain⟨z1,c⟩:=uB a (hM a.size) λi d=>nk.1 d;by_cases e:q<a.size
 ·rw[c q q (Z4 e),hH]
 simp_all
def Jm (ho:s.heap.get? S=ac o)(hd:o.data=.set b ep t)(g:Good t (b.map (·.1)))(hm:ie (abG n-1))(c:b.size<=abG n-1)(d:abG n<=eu)(h:∀(es':Array (Int×dk)) (t':z9),es'.toList.Perm b.toList->Good t' (es'.map (·.1))->t'.mask=abG n-1->t'.plain=t.plain->Q () {s with heap:=s.heap.update S (abu es' t')}):ka (k7 prog w) A (agM S n) Q E s:=by
 refine ey<|aar ho hd g.fits ?_;dsimp only;rw[if_neg (agV.2 d)];obtain⟨t',order,e,f,e2,e3,j,pm,g'⟩:=Good.laid hm (hs:=b.map (·.1)) (by rw[Z5];exact c);rw[Z5] at pm;have all:∀i∈order.toList,i<b.size:=λi k=>nk.1<|pm.mem_iff.1 k;obtain⟨l,m2⟩:=uB b order.toList all;have m:t.relaid (b.map (·.1)) n=ac (t',order):=e;have hsz:(order.filterMap λi=>b[i]?).size=b.size:=by rw[<-nT,abX,l,pm.length_eq,kL]
 rw[m];refine ey<|wpAny_of_eq (a:=(order.filterMap λi=>b[i]?,t')) ?_ ?_
 ·apply if_neg;rw[hsz];simp
 refine afJ ho hd (h _ t' ?_ ?_ f j) (by rw[hsz];lia)
 ·rw[abX];have p:=pm.filterMap λi=>b[i]?;exact p.trans<|aef<|TX b
 simp_all [Array.map_filterMap]
end
end
section
open PySem.SetTable
section
variable{prog:lq}{w:qh}{K:Type}[DecidableEq K]{knd:KeyKind prog w K}{A:pk}{E:dk->eK->Prop}{s:eK}
theorem Good.plain (g:Good t hs)(p:Bool):Good {t with plain:=p} hs:=⟨g.m,g.d,g.sz,g.rise,g.le,g.nf,g.path⟩
def FY{h:pq}{S:eH}{o:C1}{a es':Array (Int×dk)}{ep:Nat}{t t':z9}(ho:h.get? S=ac o)(hd:o.data=.set a ep t):(h.update S<|abu es' t').get? S=ac {o with data:=.set es' (ep+1) t'}:=by have:=acb (abu es' t') ho (by rw[putSet_of es' t' hd];rfl);rwa[putSet_of es' t' hd] at this
def AD (g:qX knd h b):(∃i,At knd h b k i) ↔ ∃e∈b.toList,∃a,e.2=.ref a/\ro knd h k a:=by
 constructor
 ·rintro⟨i,a,e,d⟩;rw[<-hH] at e;exact⟨_,fB e,a,ρ,d⟩
 rintro⟨e,m,a,f,d⟩;obtain⟨i,n,o⟩:=oy m;have j:b[i]?=ac e:=by rw[<-hH,bg n,o]
 obtain⟨l,k',p,c⟩:=g i e j;subst p;have f:l=a:=by injection f
 subst f;obtain rfl:=d.inj c;exact⟨i,l,j,c⟩
def gK.of (ho:h.get? S=ac o)(C:o.ExactSet)(hd:o.data=.set f ep t)(g:qX knd h f)(r:∀k,(∃i,At knd h f k i) ↔ k∈q)(u:ro knd h k x)(F:f.size=q.length)(G:∀e∈f.toList,∃a,e.2=.ref a/\U a)(H:U x)(D:h'.get? S=ac {o with data:=.set es' p t'})(hs:aae S h h')(pm:es'.toList.Perm ((nL knd k,rm x)::f.toList))(g':Good t' (es'.map (·.1)))(nf:t'.place.size*5<t'.mask*3)(I:t'.plain=bv):gK knd U h' S (q++[k]):=by
 have l:qX knd h' es':=λi e c=>by
  rw[<-hH] at c;rcases hO.1 (pm.mem_iff.1<|fB c) with rfl|z
  ·exact⟨x,k,ρ,nq u ho hd hs⟩
  obtain⟨j,v,y⟩:=oy z;obtain⟨a,m,B,n⟩:=g j e (by rw[<-hH,bg v,y]);exact⟨a,m,B,nq n ho hd hs⟩
 refine⟨_,es',p,t',D,C,ρ,g',l,λm=>?_,?_,nf,λe c=>?_,λ_=>I⟩
 ·rw[AD l,hY,kH,<-r m,AD g];have back:∀{e:Int×dk}{a:eH},e∈f.toList->e.2=.ref a->ro knd h' m a->ro knd h m a:=λ{e a} c b d=>by
   obtain⟨j,v,y⟩:=oy c;obtain⟨J,k1,B,n⟩:=g j e (by rw[<-hH,bg v,y]);subst B;have b:J=a:=by injection b
   subst b;rw[d.inj (nq n ho hd hs)];exact n
  constructor
  ·rintro⟨e,c,a,b,d⟩;rcases hO.1 (pm.mem_iff.1 c) with rfl|z
   ·right;have b:x=a:=by injection b
    subst b;exact d.inj<|nq u ho hd hs
   exact ι ⟨e,z,a,b,back z b d⟩
  rintro (⟨e,c,a,b,d⟩|rfl)
  ·exact⟨e,pm.mem_iff.2<|fk _ c,a,b,nq d ho hd hs⟩
  exact⟨_,pm.mem_iff.2 eN,x,ρ,nq u ho hd hs⟩
 ·have:=pm.length_eq;simp at this;simp only[this,gd,F];rfl
 rcases hO.1 (pm.mem_iff.1 c) with rfl|z
 ·exact⟨x,ρ,H⟩
 exact G e z
end
end
section
open PySem.SetTable
section
variable{prog:lq}{w:qh}{K:Type}[DecidableEq K]{knd:KeyKind prog w K}{A:pk}{E:dk->eK->Prop}{s:eK}
def RQ (T:gK knd U s.heap S c)(D:ro knd s.heap k x)(hu:A.units<vv)(room:c.length<76)(V:U x)(tx:rH knd k)(h:∀b h',aae S s.heap h'->gK knd U h' S (if k∈c then c else c++[k])->Q b {s with heap:=h'}):ka (k7 prog w) A (setAddHashed S (.ref x)<|nL knd k) Q E s:=by
 have W:=T;obtain⟨o,f,ep,t,ho,I,hd,g,v,n,u,nf,X,hpl0⟩:=T;refine sj<|ey<|aar ho hd g.fits ?_;dsimp only;rw[show byScan (.ref x) f=bv from ρ];obtain⟨N,hN,hl,hq⟩:=g.stop (nL knd k) (At knd s.heap f k) (λi ⟨a,e,_⟩=>by rw[aes,e];rfl);have hN2:N<100000:=by
  have:acg t.mask<=142:=by delta acg;rcases g.m with e|e|e<;>rw[e]<;>decide
  lia
 refine ey<|Jz ho hd g v D hu hN hl ?_ (N-0) 0 am 100000 ρ (pe _) ∅ ρ;rcases hq with⟨F,no⟩|⟨i,F,Y⟩
 ·refine ι ⟨F,?_⟩;have P:k∉c:=λz=>by obtain⟨i,hi⟩:=(n k).2 z;exact no i hi
  rw[if_neg P] at h;refine ey<|aar ho hd g.fits ?_;have Z:t.place.size+1<=t.mask:=by lia
  have y:=g.put F (by simp_all) Z;have Vs:t.place.size=c.length:=by rw[g.sz,Z5,u]
  generalize (aH t.mask (t.probeStart<|nL knd k) N).j=j at *;rw[xi g.d] at y;rw[xi g.d];have em:∀p,(ZU f p (nL knd k,rm x)).map (·.1)=ZU (f.map (·.1)) p (nL knd k):=λp=>by apply Array.toList_inj.1;simp[abm]
  rw[<-em] at y;have q:=abH f (below t.place j) (nL knd k,rm x);rw[aeD] at q;have q:=q.trans<|abp _ _;have J:=ug f (below t.place j) (nL knd k,rm x);have B:∀l:z9,Good l ((ZU f (below t.place j) (nL knd k,rm x)).map (·.1))->l.mask=t.mask->l.plain=bv->ka (k7 prog w) A (do
    storeSet S (ZU f (below t.place j) (nL knd k,rm x)) l
    if (!false&&l.tooFull)=bi then do
     agM S (grown<|f.size+1)
     pure true
    else pure true) Q E s:=λl G em2 L=>by
   have p2:l.place.size=c.length+1:=by rw[G.sz,Z5,J,u]
   have sl:(ZU f (below t.place j) (nL knd k,rm x)).size<=sizeLine:=by rw[J,u];delta eu;lia
   generalize ZU f (below t.place j) (nL knd k,rm x)=r at *;have C:=FY (es':=r) (t':=l) ho hd;have H:=aaS s.heap S<|abu r l;refine ey<|afJ ho hd ?_ sl;have full:l.tooFull=bd ((c.length+1)*5 ≥ l.mask*3):=by delta SetTable.tooFull aeN;rw[G.d,p2];rfl
   split
   ·have R:(c.length+1)*5 ≥ t.mask*3:=by simp_all
    rw[Vs] at nf;obtain⟨hm,hz⟩:(ie (abG (grown<|f.size+1)-1)/\(c.length+1)*5<(abG (grown<|f.size+1)-1)*3)/\abG (grown<|f.size+1)<=sizeLine:=by
     rw[u];rcases g.m with e|e|e<;>rw[e] at nf R
     ·have:c.length=4:=by lia
      rw[this];exact⟨⟨τ<|ι ⋯,⋯⟩,by delta eu;decide⟩
     ·have:c.length=18:=by lia
      rw[this];exact⟨⟨τ<|τ ⋯,⋯⟩,by delta eu;decide⟩
     lia
    refine ey (Jm C ρ G hm.1 (by lia) hz λes' t' M g' Vt Vu=>gi ?_);have Vv:=FY (es':=es') (t':=t') C ρ;have O:=aaS (s.heap.update S<|abu r l) S<|abu es' t';refine h true _ (H.trans O)<|gK.of ho I hd v n D u X V Vv (H.trans O) (M.trans q) g' ?_<|Vu.trans L;have:t'.place.size=c.length+1:=by rw[g'.sz,Z5];have:=M.length_eq;simp_all
    rw[this,Vt];exact hm.2
   rename_i R;refine gi (h true _ H<|gK.of ho I hd v n D u X V C H q G ?_ L);simp_all
  split
  ·exact ey<|R0 D tx<|B _ (y.plain false) ρ ρ
  rename_i np;exact ey<|gi<|B _ y ρ<|Z9 _ ▸ np
 refine τ ⟨⟨i,F,Y⟩,?_⟩;have P:k∈c:=(n k).1 ⟨i,Y⟩;rw[if_pos P] at h;exact gi<|h false s.heap (Heap.SameBut.refl S s.heap) W
end
end
section
open PySem.SetTable
section
variable{prog:lq}{w:qh}{K:Type}[DecidableEq K]{knd:KeyKind prog w K}{A:pk}{R:adx->eK->Prop}{I:eH}{fp wr:List eH}{G:Array ach->Array ach->Prop}{n:Nat}{Pr:Nat->dk->Prop}{St:Nat->eK->Prop}
def gK.moved (x:gK knd U h S l)(hs:∀o,h.get? S=ac o->h'.get? S=ac o)(d:∀k a,ro knd h k a->ro knd h' k a):gK knd U h' S l:=by
 obtain⟨o,p,ep,t,ho,m,hd,g,c,f,r⟩:=x;refine⟨o,p,ep,t,hs o ho,m,hd,g,λi e s=>?_,λk=>?_,r⟩
 ·obtain⟨a,k,j,b⟩:=c i e s;exact⟨a,k,j,d _ _ b⟩
 rw[<-f k];constructor
 ·rintro⟨i,a,e,z⟩;obtain⟨u,k',j,b⟩:=c i _ e;have v:a=u:=by injection j with _ q;injection q
  subst v;obtain rfl:=z.inj<|d _ _ b;exact⟨i,a,e,b⟩
 rintro⟨i,a,e,z⟩;exact⟨i,a,e,d _ _ z⟩
noncomputable def iR(a:List (List K))(v:List K):List (List K):=if v∈a then a else a++[v]
def eX(val:Nat->List K)(i:Nat):List (List K):=((hM i).map val).foldl iR []
def uX(val:Nat->List K)(i:Nat):eX val (i+1)=iR (eX val i) (val i):=by delta eX;simp only[adg,hI,abD];rfl
theorem zJ(val:Nat->List K):∀i,(eX val i).length<=i
 | 0=>ft 0
 | i+1=>by
  have:=zJ val i;rw[uX];delta iR;split
  ·lia
  simp_all
theorem EZ(val:Nat->List K):∀{n:Nat},i<=n->(eX val i).length<=(eX val n).length
 | 0,h=>by rw[agD.1 h];exact ft _
 | n+1,h=>by
  rcases Nat.lt_or_eq_of_le h with h|rfl
  ·apply px<|EZ val<|t9 h;rw[uX];delta iR;split
   ·exact ft _
   simp
  exact ft _
theorem Ug(W:WalksS prog w A.in1 I fp wr G n Pr St)(S:eH)(u:S∉fp)(val:Nat->List K)(y:pq)(Q:∀i v,Pr i v->∃a,v=.ref a/\U a/\rH knd (val i)/\ro knd y (val i) a)(B:A.units+1<vv)(T:(eX val n).length<76)(V:∀i s,St i s->∀k a,ro knd s.heap k a->a∉wr) :
  ∀(k i:Nat) (s:eK),n-i=k->i<=n->St i s->(∀k a,ro knd y k a->ro knd s.heap k a)->gK knd U s.heap S (eX val i) ->
   (∀s',Moved (S::wr) G s s'->gK knd U s'.heap S (eX val n)->R (.ok<|.ret .none) s') ->
   abz (k7 prog w) A (.builtin "set.update.loop" ⟨[.ref S,.ref I],[]⟩) R s:=by
 have hw:S∉wr:=λh=>u<|W.sub _ h;have C:∀b∈wr,b∈S::wr:=λb z=>fk _ z;have D:∀i s s',St i s->Moved wr G s s'->∀k a,ro knd s.heap k a->ro knd s'.heap k a:=λi s s' st hm k a x=>by have:=V i s st k a x;obtain⟨o,items,m,ho,r⟩:=x;exact⟨o,items,m,hm.heap _ _ this ho,r⟩
 intro k;induction k with
 | zero =>
  intro i s X Y st c hs j;obtain rfl:i=n:=by lia
  apply Z2 LS;refine ey (W.done s _ _ st λs' hm=>?_);exact gi (j s' (hm.mono C)<|hs.moved (λo e=>hm.heap S _ hw e)<|D _ _ _ st hm)
 | succ k Z =>
  intro i s X Y st c hs j;have d:i<n:=⋯;apply Z2 LS;rw[ZS ti _];refine ey (W.item i s _ _ d st λv s' hP E hm=>?_);obtain⟨x,rfl,ux,tx,H⟩:=Q i v hP;have l:=D _ _ _ st hm;have J:=l _ _<|c _ _ H;have g:=hs.moved (λo e=>hm.heap S _ hw e) l;refine ey<|sj ?_;refine sj<|ey<|wpAny_pyHash_tuple (by simpa using B) J ?_;refine RQ g J (by simpa using B) (NN (EZ val<|ab9 d) T) ux tx λb h' f L=>?_;obtain⟨oS,es,ep,t,M,_,N,_⟩:=g;have O:gK knd U h' S (eX val<|i+1):=by rw[uX];exact L
  refine gi ⟨acZ ti _,Z (i+1) _ ⋯ d (W.frame _ s' _ _ E (aax _ _) λb z o e=>?_) (λk a z=>nq (l _ _<|c _ _ z) M N f) O λP p q=>?_⟩
  ·rwa[f.2 b (λh:b=S=>u<|h ▸ z)]
  refine j P (Moved.trans W.gtrans ((hm.mono C).then_heap (aax _ _) λb o z e=>?_) p) q;rwa[f.2 b (λh:b=S=>z<|h ▸ eN)]
end
end
section
open PySem.SetTable
section
variable{P:lq}{w:qh}{K:Type}[DecidableEq K]{knd:KeyKind P w K}{A:pk}{E:dk->eK->Prop}{s:eK}
def Pm (hh:A.handled=am)(hu:A.units+4<vv)(hl:s.heap.IsList l items)(u:∀i v,items[i]?=ac v->∃a,v=.ref a/\U a/\rH knd (val i)/\ro knd s.heap (val i) a)(y:(eX val items.size).length<76)(h:∀(h':pq) (tk:Nat),gK knd U h' s.heap.objs.size (eX val items.size)->(∀b o,b<s.heap.objs.size->s.heap.get? b=ac o->h'.get? b=ac o)->Q (.ref s.heap.objs.size) {s with heap:=h',toks:=tk}) :
  ka (k7 P w) A (call (.type "set") [.ref l]) Q E s:=by
 refine AW (A:=A) (items:=items) (Fin:=λh'=>gK knd U h' s.heap.objs.size<|eX val items.size) hl (λled R I B C f n g p q k=>?_) h;have t:A.in1.in1.in1.handled=am:=by simp[hh]
 have up:∀k a,ro knd s.heap k a->ro knd B k a:=λk a ⟨o,it,m,e,r⟩=>⟨o,it,m,by rw[C];exact fA _<|fA _ e,r⟩;refine Ug (knd:=knd) ((Walks.list t _ l f items).toS) s.heap.objs.size n val s.heap u (by simp;lia) y (λi s1 st k a x=>?D) (items.size-0) 0 _ ⋯ (pe _) ⟨q,p⟩ up ?F k
 case D=>obtain⟨oi,hoi,ri⟩:=st.1;obtain⟨o,it,m,e,c,d,_⟩:=x;grind
 exact⟨_,#[],0,_,g,⟨ρ,ρ,ρ⟩,ρ,(by rw[Array.map_empty];exact Good.fresh 0 0 led),λi e j=>by simp at j,λk=>⟨λ⟨i,a,e,_⟩=>by simp at e,λz=>by simp[eX] at z⟩,ρ,(by show 0*5<7*3;decide),λe j=>by simp at j,λz=>absurd ρ z⟩
end
end
section
variable{X:Cx}{pos:z5}{e:hQ}
theorem TQ(bs:List Bool):((hM bs.length).any λi=>(bs[i]?).getD false)=bs.any id:=by
 induction bs with
 | nil=>rfl
 | cons b r a=>simp only[gk,adU,ab5,aaD,<-a];rfl
def KI(g:X.calm=bi):bD X (.builtin "any") (λxs H Q=>∃(p:eH) (bs:List Bool),xs=[.ref p]/\Rd H p (.L<|bs.map V.bl)/\Q (.bl<|bs.any id) H):=by
 intro pins s σ H xs us Q I r h;obtain⟨p,bs,rfl,j,q⟩:=h;obtain⟨u,rfl,k⟩:=r.one;subst k;obtain⟨z,its,n,l,e⟩:=j.ok I.aq;have c:=zA l;subst c;have d:s.heap.IsList p (bs.map P').toArray:=⟨_,e,ρ,n,ρ⟩;have m:p<s.heap.objs.size:=gD e;refine call_any_walk (aas d ⟨s.heap.objs.size,[s.heap.objs.size,p],[s.heap.objs.size],(bs.map P').toArray.size,_,_,λi=>(bs[i]?).getD false,ρ,
  Walks.list (A:=X.A.in1) (I.ok.hd g) _ p (ia m) (bs.map P').toArray,⟨⟨_,lD _ ρ,ρ,ρ⟩,d.push _⟩,λi v s' Q' E' a f=>?_,λh' tk o=>?_⟩)
 ·have a:(bs.map P')[i]?=ac v:=by simpa using a
  rw[ez] at a;obtain⟨b,c,a⟩:=oM a;obtain rfl:=sO a;simp[c] at f;exact T' f
 have t:(hM (bs.map P').toArray.size).any (λi=>(bs[i]?).getD false)=bs.any id:=by simp[TQ]
 rw[t];refine⟨.bl _,H,?_,ρ,q⟩;exact I.kept λb x ex=>o b x (λhm=>by rw[kH.1 hm] at ex;exact zd _<|gD ex)<|fA _ ex
theorem ints_get:∀{ns:List Int}{its:List dk}{i:Nat}{v:dk},aJ (ns.map V.int) its->its[i]?=ac v->∃t,v=.int ((ns[i]?).getD 0) t
 | [],_,i,v,h,e=>by cases h;simp at e
 | n::ns,_,0,v,h,e=>by
  cases h with
  | cons r t=>obtain⟨tk,rfl⟩:=r;simp at e;exact⟨tk,e.symm⟩
 | n::ns,_,i+1,v,h,e=>by
  cases h with
  | cons r t=>have:=ints_get (i:=i) (v:=v) t (by simpa using e);simpa using this
theorem C6:∀{ns:List eT}{its:List dk}{i:Nat}{v:dk},aJ (ns.map V.str) its->its[i]?=ac v->∃t,v=.str ((ns[i]?).getD aaZ) t
 | [],_,i,v,h,e=>by cases h;simp at e
 | n::ns,_,0,v,h,e=>by
  cases h with
  | cons r t=>obtain⟨tk,rfl⟩:=r;simp at e;exact⟨tk,e.symm⟩
 | n::ns,_,i+1,v,h,e=>by
  cases h with
  | cons r t=>have:=C6 (i:=i) (v:=v) t (by simpa using e);simpa using this
noncomputable def iX(ns:List Int):Int:=(ns[argBest (λi j=>bd<|(ns[i]?).getD 0>(ns[j]?).getD 0) (ns.length-1)]?).getD 0
def MK{its:List dk}{s:eK}{p:eH}(c:p<s.heap.objs.size){o:C1}:∀b∈[s.heap.objs.size,p],b<(s.heap.push o).objs.size:=λb a=>by
 rw[acm];simp at a;rcases a with rfl|rfl
 ·exact aaw _
 exact abJ c
def IH(k:X.calm=bi):bD X (.builtin "max") (λxs H Q=>∃(p:eH) (ns:List Int),xs=[.ref p]/\Rd H p (.L<|ns.map V.int)/\ns≠[]/\Q (.int<|iX ns) H):=by
 intro pins s σ H xs us Q I r h;obtain⟨p,ns,rfl,l,d,q⟩:=h;obtain⟨u,rfl,m⟩:=r.one;subst m;obtain⟨z,its,n,a,e⟩:=l.ok I.aq;have f:s.heap.IsList p its.toArray:=⟨_,e,ρ,n,ρ⟩;have g:=gD e;have j:its.length=ns.length:=by have:=a.length;simpa using this.symm
 have h0:0<ns.length:=Z3.2 d;refine call_max_walk (aas f ⟨s.heap.objs.size,[s.heap.objs.size,p],[s.heap.objs.size],its.toArray.size,_,_,_,ρ,
  Walks.list (A:=X.A.in1) (I.ok.hd k) _ p (ia g) its.toArray,⟨⟨_,lD _ ρ,ρ,ρ⟩,f.push _⟩,MK (its:=its) g,by rw[kq];lia,CmpOf.ints_gt (λi=>(ns[i]?).getD 0) (λi v c=>ints_get a (by simpa using c)),λv h' tk c o=>?_⟩)
 obtain⟨t,rfl⟩:=ints_get a (show its[_]?=ac v by simpa using c);refine⟨.int<|iX ns,H,?_,⟨t,?_⟩,q⟩
 ·exact I.kept λb x ex=>o b x (λhm=>by rw[kH.1 hm] at ex;exact zd _<|gD ex)<|fA _ ex
 rw[j];rfl
noncomputable def kI:List Dat->Option (List Int)
 | []=>ac []
 | .int x::r=>(kI r).map (x::·)
 | _::_=>am
theorem xP{K:gW}{H:Hp}:∀{ds:List Dat}{vs:List V}{ys:List Int},kI ds=ac ys->aA K H ds vs->vs=ys.map V.int
 | [],_,_,e,r=>by obtain rfl:=sO e;exact r
 | d::ds,_,_,e,a=>by
  obtain⟨v,vr,b,c,rs⟩:=a;cases d with
  | int x=>obtain⟨ys',f,e⟩:=oM e;obtain rfl:=sO e;simp only[b,xP f rs];subst c;rfl
  | _=>exact nO e
def uv:List Dat->Option Res
 | [.L ds]=>(jN ds).map λbs=>.D (.bl<|bs.any id)
 | _=>am
def uV:List Dat->Option Res
 | [.L ds]=>(kI ds).bind λns=>if ns=[] then am else ac (.D<|.int<|iX ns)
 | _=>am
def LB (a:X.calm=bi)(b:Gl X "any")(hm:X.mg "any"=am)(c:bC X e [])(d:DA X [e] fa):DE X (.Call (.Name "any" p) [e] [] pos) (bV uv fa):=hV (KI a) (by
  intro H0 ps δ σ H c vs ds o Q e S r k;delta uv at e;split at e
  ·obtain⟨bs,d,e⟩:=oM e;obtain rfl:=sO e;obtain⟨v,vr,rfl,⟨a,ws,rfl,b,rs⟩,f⟩:=r;subst f;rw[ye d rs] at b;exact⟨a,bs,ρ,Rd.mono S.sub b,k _ H c S (aj.refl _) ρ⟩
  exact nO e) b hm (by decide +kernel) d ⋯ ρ c ρ
def Sq (a:X.calm=bi)(b:Gl X "max")(hm:X.mg "max"=am)(c:bC X e [])(d:DA X [e] fa):DE X (.Call (.Name "max" p) [e] [] pos) (bV uV fa):=hV (IH a) (by
  intro H0 ps δ σ H d vs ds o Q e S r k;delta uV at e;split at e
  ·obtain⟨ns,f,e⟩:=oA e;have e:=e;split at e
   ·exact nO e
   rename_i b;obtain rfl:=sO e;obtain⟨v,vr,rfl,⟨a,ws,rfl,c,rs⟩,g⟩:=r;subst g;rw[xP f rs] at c;exact⟨a,ns,ρ,Rd.mono S.sub c,b,k _ H d S (aj.refl _) ρ⟩
  exact nO e) b hm (by decide +kernel) d ⋯ ρ c ρ
noncomputable def ltI(fs:List Int)(i j:Nat):Bool:=bd<|fs.getD i 0<fs.getD j 0
def KH (nd:fs.Nodup):Ord (ltI fs) fs.length where
 trans:=λi j k c a=>decide_eq_true<|Int.lt_trans (of_decide_eq_true c)<|of_decide_eq_true a
 total:=λi j d f b=>by
  delta ltI;rw[eP d,eP f];by_cases h:fs[i]<fs[j]
  ·exact ι<|decide_eq_true h
  refine τ (decide_eq_true ?_);by_cases a:fs[j]<fs[i]
  ·exact a
  have e:fs[i]=fs[j]:=by lia
  exact absurd ((z7 nd).1 e) b
 kK:=λi=>decide_eq_false<|Int.lt_irrefl _
def o9(K:gW)(H:Hp)(vs:List V)(fs:List Int):Prop:=vs.length=fs.length/\∀(i:Nat) (f:Int),fs[i]?=ac f->∃a b,vs[i]?=ac (.ref a)/\bq K H a b/\b[0]?=ac (.int f)
def JN(fs:List Int)(vs out:List V):Prop:=∃q:Array Nat,df q vs.length/\fj (ltI fs) q vs.length/\out=q.toList.map λi=>vs.getD i .aF
def Bq(K:gW):List V->Hp->VK->Prop:=λxs H Q=>∃p vs fs,xs=[.ref p]/\Rd H p (.L vs)/\o9 K H vs fs/\fs.Nodup/\vs.length<64/\∀out,JN fs vs out->∀l,H l=am->Q (.ref l) (upd H l<|.L out)
theorem xN (I:Inv X j p H s):∀{fs:List Int}{vs:List V}{its:List dk},o9 X.K H vs fs->aJ vs its ->
  ∃c:List dk,ab8 s.heap its c/\c.length=fs.length/\(∀v∈c,∃x t,v=abh x t)/\∀(i:Nat) (f:Int),fs[i]?=ac f->∃a o xs n t,its[i]?=ac (.ref a)/\s.heap.get? a=ac o/\o.data=.seq xs n/\xs[0]?=ac (abh f t)
 | [],[],_,h,r=>by
  cases r;exact⟨[],.nil,ρ,λv k=>by simp at k,λi f e=>by simp at e⟩
 | [],_::_,_,h,_=>by simp[o9] at h
 | _::_,[],_,h,_=>by simp[o9] at h
 | f::fs,v::vs,_,h,r=>by
  cases r with
  | cons q rs =>
   obtain⟨a,ws,w,y,A⟩:=h.2 0 f ρ;obtain rfl:=sO w;subst q;have h':o9 X.K H vs fs:=⟨by simpa using h.1,λi g e=>by
    obtain⟨b,us,l,m,B⟩:=h.2 (i+1) g<|e
    exact⟨b,us,by simpa using l,m,B⟩⟩
   obtain⟨c,k1,k2,k3,C⟩:=xN I h' rs;obtain⟨its,D,⟨o,ho,E,n,hd⟩,_⟩:=I.tuple y;obtain⟨u,F,G⟩:=D.get A;obtain⟨t,rfl⟩:=G;have d:its.toArray[0]?=ac (abh f t):=by simpa using F
   refine⟨abh f t::c,.cons ho E hd d k1,by simp[k2],λv k=>?_,λi g e=>?_⟩
   ·rcases hO.1 k with z|z
    ·exact⟨f,t,z⟩
    exact k3 v z
   cases i with
   | zero=>simp at e;subst e;exact⟨a,o,_,n,t,ρ,ho,hd,d⟩
   | succ i=>obtain⟨b,J,xs,L,t',l,m⟩:=C i g<|e;exact⟨b,J,xs,L,t',by simpa using l,m⟩
theorem Na(D:X.ex=[]):bD X (.builtin "sorted") (Bq X.K):=by
 intro pins s σ H xs us Q I r h;obtain⟨p,vs,fs,rfl,N,c,nd,E,q⟩:=h;obtain⟨u,rfl,O⟩:=r.one;subst O;refine zl D (T:=.type "int") I N E (by rw[c.1];exact KH nd) ⋯ (λits y=>?_) (λits y i j A B F h' n C hC=>?_) q
 ·obtain⟨P,R,S,U,_⟩:=xN I c y;refine⟨P,R,by rw[S];exact c.1.symm,λv V h=>?_⟩;obtain⟨x,t,rfl⟩:=U v V;exact acS ρ
 obtain⟨_,_,_,_,w⟩:=xN I c y;rw[c.1] at A B;obtain⟨a,o,xs,n1,t1,Y,Z,G,d⟩:=w i _<|bg A;obtain⟨b,o',ys,n2,t2,b1,b2,J,f⟩:=w j _<|bg B;have ea:its.getD i tm=.ref a:=by rw[mu,Y];rfl
 have eb:its.getD j tm=.ref b:=by rw[mu,b1];rfl
 rw[ea,eb];apply af4 (n _ _ _ _ G Z) G (n _ _ _ _ J b2) J;obtain⟨g,k,ex⟩:∃g k,xs.toList=g::k:=by
  cases hx:xs.toList with
  | nil=>rw[<-hH,hx] at d;exact nO d
  | cons g k=>exact⟨g,k,ρ⟩
 obtain⟨l,m,L⟩:∃l m,ys.toList=l::m:=by
  cases hy:ys.toList with
  | nil=>rw[<-hH,hy] at f;exact nO f
  | cons l m=>exact⟨l,m,ρ⟩
 rw[<-hH,ex] at d;rw[<-hH,L] at f;obtain rfl:=sO d;obtain rfl:=sO f;simp only[ex,L];have M:fs[i]≠fs[j]:=λz=>F<|(z7 nd).1 z;refine afd<|afX ?_;simp[beq_eq_false_iff_ne.2 M];refine af3<|oneLt_int ?_;have:ltI fs i j=bd (fs[i]<fs[j]):=by unfold ltI;rw[eP A,eP B]
 simp_all
noncomputable def oU:Dat->Option Int
 | .U (.int x::_)=>ac x
 | _=>am
noncomputable def firstsI:List Dat->Option (List Int)
 | []=>ac []
 | d::r=>(oU d).bind λx=>(firstsI r).map (x::·)
def iM(d:Dat):Int:=(oU d).getD 0
def fQ(a b:Dat):Bool:=bd<|iM a<=iM b
def uo(ds:List Dat):List Dat:=ds.mergeSort fQ
theorem A5:∀{ds:List Dat}{fs:List Int},firstsI ds=ac fs->fs=ds.map iM/\∀d∈ds,∃x,oU d=ac x
 | [],_,e=>by obtain rfl:=sO e;exact⟨ρ,λd h=>by simp at h⟩
 | d::r,_,e=>by obtain⟨x,e1,e⟩:=oA e;obtain⟨ys,a,e⟩:=oM e;obtain rfl:=sO e;obtain⟨h1,h2⟩:=A5 a;simp_all [iM]
theorem ED{K:gW}{H b:Hp}(s:aj b H):∀{ds:List Dat}{vs:List V}{fs:List Int},firstsI ds=ac fs->aA K b ds vs->o9 K H vs fs
 | [],_,_,e,r=>by obtain rfl:=sO e;rw[show _=[] from r];exact⟨ρ,λi f e=>by simp at e⟩
 | d::ds,_,_,e,c=>by
  obtain⟨v,vr,j,k,rs⟩:=c;have e:=e;obtain⟨x,a,e⟩:=oA e;obtain⟨ys,l,e⟩:=oM e;obtain rfl:=sO e;obtain⟨m,h2⟩:=ED s l rs;simp[j];refine⟨by simp[m],λi f g=>?_⟩;cases i with
  | zero =>
   simp at g;subst g;delta oU at a;split at a
   ·obtain rfl:=sO a;obtain⟨p,n,rfl,o,w1,wr,q,h,_⟩:=k;subst h;exact⟨p,n,ρ,bq.mono s o,by rw[q];rfl⟩
   exact nO a
  | succ i=>simp_all
def NR (nd:(ds.map iM).Nodup)(P:df q ds.length)(U:fj (ltI<|ds.map iM) q ds.length):(q.toList.map λi=>ds.getD i .aF)=uo ds:=by
 have pm:(q.toList.map λi=>ds.getD i .aF).Perm ds:=by have:=P.pm.map<|λi=>ds.getD i .aF;rwa[xo] at this
 have l:∀i,i<ds.length->iM (ds.getD i .aF)=(ds.map iM).getD i 0:=λi c=>by rw[eP c,eP (by simpa using c)];simp
 have g:(q.toList.map λi=>ds.getD i .aF).Pairwise (λa b=>fQ a b=bi/\a∈ds/\b∈ds):=by
  rw[za];intro i j c d m;have n:i<ds.length:=by rw[<-P.size];simpa using c
  have f:j<ds.length:=by rw[<-P.size];simpa using d
  refine⟨?_,pm.mem_iff.1<|aat _,pm.mem_iff.1<|aat _⟩;have u:=U i j m f;have p:q.toList[i]'(by simpa using c)=q.getD i 0:=by simp only[p6,me (by simpa using c)];simp
  have r:q.toList[j]'(by simpa using d)=q.getD j 0:=by simp only[p6,me (by simpa using d)];simp
  simp only[ZF,p,r];unfold fQ;simp only[l _ (P.lt i n),l _<|P.lt j f];unfold ltI at u;exact decide_eq_true<|Int.le_of_lt<|of_decide_eq_true u
 have qK:(uo ds).Pairwise (λa b=>fQ a b=bi/\a∈ds/\b∈ds):=by
  refine acI (λs t o=>⟨o,?_,?_⟩) (Z6 (le:=fQ) (λa b c h1 h2=>by
    delta fQ at *;simp at *
    lia) (λa b=>by
      delta fQ
      lia) ds)
  ·exact (jn ds fQ).mem_iff.1 s
  exact (jn ds fQ).mem_iff.1 t
 refine ou (λa b k v=>?_) (pm.trans (jn ds fQ).symm) g qK;have e:=afp (of_decide_eq_true k.1)<|of_decide_eq_true v.1;obtain⟨i,c,w⟩:=oy k.2.1;obtain⟨j,d,x⟩:=oy k.2.2;have y:(ds.map iM)[i]'(by simpa using c)=(ds.map iM)[j]'(by simpa using d):=by simp[w,x,e]
 have e3:=(z7 nd).1 y;simp_all
def rC:List Dat->Option Res
 | [.L ds]=>(firstsI ds).bind λfs=>if fs.Nodup/\ds.length<64 then ac (.O<|.L<|uo ds) else am
 | _=>am
def wV (a:X.ex=[])(b:Gl X "sorted")(hm:X.mg "sorted"=am)(c:bC X e [])(d:DA X [e] fa):DE X (.Call (.Name "sorted" p) [e] [] pos) (bV rC fa) :=
 hV (Na a) (by
   intro H0 ps δ σ H h vs ds o Q a S r k;delta rC at a;split at a
   ·obtain⟨fs,d,a⟩:=oA a;split at a
    ·rename_i c;obtain rfl:=sO a;obtain⟨v,vr,rfl,⟨p,j,rfl,m,rs⟩,n⟩:=r;subst n;have b:=rs.length;refine⟨p,j,fs,ρ,Rd.mono S.sub m,ED S.sub d rs,c.1,by rw[b];exact c.2,λout h l hl=>?_⟩;obtain⟨q,P,U,s⟩:=h;obtain⟨f,_⟩:=A5 d;subst f;simp[b] at P U;have t:=NR c.1 P U;subst s;have g:=aA.pick rs q.toList (λi u=>by rw[b];exact rE P i u);rw[t] at g;exact k (.ref l) _ h (S.made hl) (aj.refl _) ⟨l,ρ,⟨_,aV,g,S.dg hl⟩,(S.bL hl).2,(S.bL hl).1,S.dJ hl⟩
    exact nO a
   exact nO a) b hm (by decide +kernel) d ⋯ rfl c rfl
def P6 (g:X.A.units+65<vv)(b:Z' o "index" X.env (eval o X.env)=eval o X.env)(d:qz X pos e)(c:(a.endLine==pos.line)=bi)(hs:bC X e [])(ho:DD X o f)(h:DA X [e] fa):DD X (.Call (.Attribute o "index" a) [e] [] pos) (sy f fa) :=
 Sl ho h (λi j=>uf abC aed PySem.F.type_list_index (JT g) i j b d c hs ρ)
noncomputable def RT:EF:=fun δ=>ac (.O<|.a8 [],δ)
def Mv:DE X (.Dict [] [] pos) RT:=by refine⟨_,Kf,λH0 ps δ σ H a r δ' Q b S k=>?_⟩;obtain⟨rfl,rfl⟩:=sP b;exact λl hl=>k (.ref l) _ a (S.made hl) (aj.refl _) ⟨l,ρ,⟨_,aV,ρ,S.dg hl⟩,(S.bL hl).2,(S.bL hl).1,S.dJ hl⟩
def GJ(d:eH)(o:C1)(kvs:List (Key×V)):It:=⟨λi H=>H d=ac (.bB o<|.dK kvs)/\i<kvs.length,λi H v a=>a=H/\∃k x,kvs[i]?=ac (k,x)/\v=kV k,λi H=>H d=ac (.bB o<|.dK kvs)/\kvs.length<=i⟩
def Oi (h:j5 k u=bi):RelV (kV k) u:=by
 rcases jC h with⟨i,t,rfl,rfl⟩|⟨x,t,rfl,rfl⟩
 ·exact⟨t,ρ⟩
 exact⟨t,ρ⟩
def MM{P:lq}{w:qh}{K:gW}{J:hQ}{d it:eH}{o:C1}{kvs:List (Key×V)}{vs:List (Key×dk)}{ep:Nat}(p:KV kvs vs)(hne:d≠it)(hA:∀h:pq,h.get? d=ac o->h.DictAt (cJ P w) d vs ep) :
  Turn P w K J (GJ d o kvs) [it] it (λi h=>h.IsKeyIter it d i vs.length ep) where
 mem:=⋯
 obj:=λi h st b a=>by
  have e:b=it:=by simpa using a
  subst e;obtain⟨o,e,c,d⟩:=st;exact⟨o,e,λv z=>by rw[d] at z;contradiction⟩
 keep:=λi h h' st k=>by obtain⟨o,e,c,d⟩:=st;exact⟨o,k it ⋯ o e,c,d⟩
 item:=by
  intro X q hw r F i f s G H E I j st t;subst q hw r;obtain⟨u,x,L,y,A,B⟩:=j it ⋯;obtain⟨hd,g⟩:=t;have C:=hA s.heap (I.aq d _ hd).1;have m:i<vs.length:=by rw[<-p.length];exact g
  have M:=bg m;refine wpAny_pyNext_dict_item st C M λkey h' D n N=>?_;have O:Inv X f G H {s with heap:=h',toks:=s.toks}:=I.turned (λb o a e=>(N.2 b a).trans e) u x y A B;obtain⟨o',e,c,dd⟩:=id n;have Q:kvs[i].1=vs[i].1:=by have:=congrArg (λl=>l[i]?) p.keys;simp only[ez,bg g,bg m] at this;exact Option.some.inj this
  exact⟨_,ρ,oV e c dd ρ ⟨kV kvs[i].1,H,O,by rw[Q];exact Oi D,⟨ρ,kvs[i].1,kvs[i].2,bg g,ρ⟩,n,λb a=>(j b a).1⟩⟩
 done:=by intro X q hw r F i f s G H E I j st t;subst q hw r;obtain⟨u,x,L,y,A,B⟩:=j it ⋯;obtain⟨hd,g⟩:=t;have C:=hA s.heap (I.aq d _ hd).1;exact wpAny_pyNext_dict_end (I.ok.hd F) st C (ZN (by rw[<-p.length];exact g)) λh' R=>⟨ρ,I.turned (λb o a e=>R b o a e) u x y A B⟩
 self:=λ_ _ _ _ _ st h=>ae9 st h
def Inv.bB (I:Inv X a g H s)(e:H d=ac (.dK kvs))(ho:s.heap.get? d=ac o):Inv X a g (upd H d<|.bB o<|.dK kvs) s:=by
  have f:∀b u,H b=ac u->u≠.dK kvs->b≠d:=by lia
  have un:Un X.fs [] H (upd H d<|.bB o<|.dK kvs) s.heap s.heap :=
    ⟨λb ob q _ _ _=>q,λb ob q _ _ _=>⟨ob.slots,q⟩,λb ob q n _=>by rw[au (λz=>by simp_all)];exact n,λb ob q _=>⟨ob,q⟩,
     λb xs q=>by rw[au (f b _ q ⋯)];exact q,λb ob u q=>by rw[au (f b _ q ⋯)];exact q,λb ps q=>⟨#[],by rw[au (f b _ q ⋯),q];simp⟩⟩
  have st:∀b u,cB X.prog X.w H s.heap b u->cB X.prog X.w (upd H d<|.bB o<|.dK kvs) s.heap b u:=λb u x =>
    x.gw (λc v _ q=>q) (λc q=>by rw[au (f c _ q ⋯)];exact q) λc xs q=>by rw[au (f c _ q ⋯)];exact q
  have aq:cp X.prog X.w (upd H d<|.bB o<|.dK kvs) s.heap:=λb u q=>by
    by_cases h:b=d
    · subst h;rw[aV] at q;obtain rfl:=sO q;exact⟨ho,st _ _<|I.aq _ _ e⟩
    rw[au h] at q;exact st _ _<|I.aq b u q
  exact I.un un aq
structure ik (x:eT):Prop where
 ok:True
def mY(i:Nat)(g:DF):DF:=fun δ=>match δ[i]? with
 | some (.D<|.fu a)=>(g δ).bind λp=>match p.1 with
  | .str k=>(ck a k).map λd=>(d,p.2)
  | _=>am
 | _=>am
def NK (hx:ik x)(m:X.N.findIdx? (·==x)=ac i)(q:cc X.env.scope x)(r:X.A.units+1<vv)(hd:bA x)(c:cG x)(hs:kZ b)(s:DD X b g):DD X (.Subscript (.Name x l) b pos) (mY i g):=by
 obtain⟨tb,t,u⟩:=s;refine⟨_,uL r (eG (dR m) q hd c) t hs,λw z δ B H C d δ' Q e S k=>?_⟩;unfold mY at e;split at e
 ·rename_i ks D;obtain⟨n,δ1,E,e⟩:=oB e;dsimp only at e;split at e
  ·rename_i f;obtain⟨d',F,e⟩:=oM e;cases e;obtain⟨v0,a0,p,o,kvs,rfl,G,I⟩:=S.D i _ D;refine⟨_,a0,u w z δ B H C _ _ _ E S λy J h j a K=>?_⟩;subst K;obtain⟨v,L,M⟩:=((I.mono a).find f).1 d F;refine⟨p,v,ρ,?_,k v J h j a M⟩;rw[<-L];exact ι ⟨kvs,pl f,τ ⟨o,j.sub _ _<|a _ _ G⟩,ρ,ρ⟩
  exact nO e
 exact nO e
end
def Rd.HH (h:Rd H a (.L xs))(h':Rd H a (.L ys)):xs=ys:=by rcases h with h|⟨o,h⟩<;>rcases h' with h'|⟨o',h'⟩<;>rw[h] at h'<;>cases h'<;>rfl
noncomputable def g9(a:List Key)(v:Key):List Key:=if a.any (λx=>bd<|x=v) then a else a++[v]
def dN(val:Nat->Key)(i:Nat):List Key:=((hM i).map val).foldl g9 []
def Em(val)(i):dN val (i+1)=g9 (dN val i) (val i):=by unfold dN;rw[adg,hI,abD];rfl
theorem uA(val):∀i,(dN val i).length<=i
 | 0=>ft _
 | i+1=>by
  have ih:=uA val i;rw[Em];unfold g9;split
  ·lia
  simp_all
def Vf(a)(v k):(g9 a v).any (λx=>bd<|x=k)=(a.any (λx=>bd<|x=k)||bd (k=v)):=by
 delta g9;by_cases h:a.any (λx=>bd<|x=v)=bi
 ·rw[if_pos h];by_cases e:k=v
  ·subst e;rw[h];simp
  simp[e]
 rw[if_neg h,List.any_append];by_cases e:k=v
 ·subst e;simp
 have:¬v=k:=λz=>e z.symm;simp[e,this]
def B3(a)(v):(g9 a v).length=if a.any (λx=>bd<|x=v) then a.length else a.length+1:=by delta g9;split<;>simp
section
variable{P:lq}{w:qh}{A:pk}{R:adx->eK->Prop}{I:eH}{fp wr:List eH}{G:Array ach->Array ach->Prop}{n:Nat}{Pr:Nat->dk->Prop}{St:Nat->eK->Prop}{E:dk->eK->Prop}{s:eK}{X:Cx}{pos apos:z5}
theorem Q6(W:WalksS P w A.in1 I fp wr G n Pr St)(S:eH)(q:S∉fp)(val:Nat->Key)(J:∀i v,Pr i v->j5 (val i) v=bi/\v.scannable=bi)(hb:n+1<afZ) :
  ∀(k i:Nat) (s:eK),n-i=k->i<=n->St i s->s.heap.SetOf (cJ P w) S (λa=>(dN val i).any λx=>bd<|x=a) (dN val i).length ->
   (∀s',Moved (S::wr) G s s'->s'.heap.SetOf (cJ P w) S (λa=>(dN val n).any λx=>bd<|x=a) (dN val n).length->R (.ok<|.ret .none) s') ->
   abz (k7 P w) A (.builtin "set.update.loop" ⟨[.ref S,.ref I],[]⟩) R s:=by
 have hw:S∉wr:=λh=>q<|W.sub _ h;have u:∀b∈wr,b∈S::wr:=λb z=>fk _ z;intro k;induction k with
 | zero =>
  intro i s K L st hs g;obtain rfl:i=n:=by lia
  apply Z2 LS;refine ey (W.done s _ _ st λs' hm=>?_);refine gi<|g s' (hm.mono u) ?_;obtain⟨o,j,ep,t,ho,r⟩:=hs;exact⟨o,j,ep,t,hm.heap S _ hw ho,r⟩
 | succ k M =>
  intro i s K L st hs g;have c:i<n:=⋯;apply Z2 LS;refine ey (W.item i s _ _ c st λv s' N y hm=>?_);obtain⟨d,B⟩:=J i v N;have C:s'.heap.SetOf (cJ P w) S (λa=>(dN val i).any λx=>bd<|x=a) (dN val i).length:=by obtain⟨o,j,ep,O,ho,r⟩:=hs;exact⟨o,j,ep,O,hm.heap S _ hw ho,r⟩
  refine ey<|sj ?_;unfold setAdd;refine sj<|ey<|(cJ P w).pyHash d ?_;have room:(dN val i).length+1<scanBound:=by have:=uA val i;lia
  refine wpAny_setAddHashed_of d B C room λh' f hS2=>?_;have D:h'.SetOf (cJ P w) S (λa=>(dN val<|i+1).any λx=>bd<|x=a) (dN val<|i+1).length:=by rw[Em,B3];have e:(λa=>(dN val i).any (λx=>bd<|x=a)||bd (a=val i))=λa=>(g9 (dN val i)<|val i).any λx=>bd (x=a):=funext λa=>(Vf _ _ _).symm;simp_all
  refine gi ⟨acZ ti _,M (i+1) _ ∅ c (W.frame _ s' _ _ y (aa9 _) λb z o e=>?_) D λH l p=>?_⟩
  ·rwa[f.2 b (λh:b=S=>q<|h ▸ z)]
  refine g H (Moved.trans W.gtrans ((hm.mono u).then_heap (aa9 _) λb o z e=>?_) l) p;rwa[f.2 b (λh:b=S=>z<|h ▸ eN)]
def Mu (hh:A.handled=am)(hl:s.heap.IsList l items)(p:∀i v,items[i]?=ac v->j5 (val i) v=bi/\v.scannable=bi)(q:items.size+1<afZ)(h:∀(h':pq) (tk:Nat),h'.SetOf (cJ P w) s.heap.objs.size (λa=>(dN val items.size).any λx=>bd<|x=a) (dN val items.size).length->(∀b o,b<s.heap.objs.size->s.heap.get? b=ac o->h'.get? b=ac o)->Q (.ref s.heap.objs.size) {s with heap:=h',toks:=tk}) :
  ka (k7 P w) A (call (.type "set") [.ref l]) Q E s:=by
 refine AW hl (λled R I h1 eh c f d g j k=>?_) h;have m:A.in1.in1.in1.handled=am:=by simp[hh]
 exact Q6 ((Walks.list m _ l c items).toS) s.heap.objs.size f val p q (items.size-0) 0 _ ⋯ (pe _) ⟨j,g⟩ ⟨_,#[],0,_,d,⟨ρ,ρ,ρ⟩,ρ,λe r=>by simp at r,λk=>by simp[dN],⋯,by rfl,rfl⟩ k
def yM(P:lq)(w:qh)(a:eH)(n:Nat):HO:=.ext λh=>n<4096/\∃S,h.SetOf (cJ P w) a S n
def jR(ys:List eT):Nat:=(dN (λi=>pl<|(ys[i]?).getD aaZ) ys.length).length
def JL(l:X.calm=bi):bD X (.type "set") (λxs H Q=>∃(p:eH) (ys:List eT),xs=[.ref p]/\Rd H p (.L<|ys.map V.str)/\ys.length<1000/\∀a,H a=am->Q (.ref a) (upd H a<|yM X.prog X.w a<|jR ys)):=by
 intro pins s σ H xs us Q I r h;obtain⟨p,ys,rfl,m,hz,q⟩:=h;obtain⟨u,rfl,x⟩:=r.one;subst x;obtain⟨z,its,n,d,e⟩:=m.ok I.aq;have y:s.heap.IsList p its.toArray:=⟨_,e,ρ,n,ρ⟩;have f:its.length=ys.length:=by have:=d.length;simpa using this.symm
 refine Mu (val:=λi=>pl<|(ys[i]?).getD aaZ) (I.ok.hd l) y (λi v B=>?_) (by rw[kq];unfold afZ;omega) λh' tk c C=>?_
 ·obtain⟨t,rfl⟩:=C6 d (show its[i]?=ac v by simpa using B);exact⟨Fn _ t,ρ⟩
 have hsz:its.toArray.size=ys.length:=by rw[kq];exact f
 rw[hsz] at c;refine⟨.ref s.heap.objs.size,upd H s.heap.objs.size<|yM X.prog X.w s.heap.objs.size<|jR ys,?_,ρ,q _<|I.aq.fresh (a:=s.heap.objs.size)<|ft _⟩;have hle:jR ys<=ys.length:=uA _ _;refine I.laid (λb o g=>C b o (gD g) g) (ft _) ⟨⟨by lia,_,c⟩,?_,λh1 h2 ⟨F,S,o,j,ep,t,ho,r⟩ k=>⟨F,S,o,j,ep,t,k o ho,r⟩⟩;obtain⟨o,j,ep,t,ho,_⟩:=c;exact⟨o,ho⟩
def KS:bD X (.builtin "len") (λxs H Q=>∃(a:eH) (n:Nat),xs=[.ref a]/\H a=ac (yM X.prog X.w a n)/\Q (.int n) H):=by intro pins s σ H xs us Q I r h;obtain⟨a,n,rfl,c,q⟩:=h;obtain⟨u,rfl,d⟩:=r.one;subst d;obtain⟨⟨hn,S,o,e,ep,t,ho,b,hd,hel,hmem,hb,f,hsz⟩,_,_⟩:=I.aq a _ c;subst hsz;exact call_len_set ho b hd f (by lia) ⟨.int e.size,H,I.tok _,⟨_,ρ⟩,q⟩
def rL(f:DF):DF:=fun δ=>(f δ).bind λp=>match p.1 with
 | .L ds=>(dq ds).bind λys=>if ys.length<1000 then ac (.int (jR ys:Nat),p.2) else am
 | _=>am
def Br (y:X.calm=bi)(z:Gl X "len")(hm:X.mg "len"=am)(m:Gl X "set")(o:X.mg "set"=am)(j:bC X e [])(q:ma [.Call (.Name "set" l) [e] [] i] X.env=(false,eval (.Call (.Name "set" l) [e] [] i) X.env)::ma [] X.env)(h:DD X e f):DD X (.Call (.Name "len" p) [.Call (.Name "set" l) [e] [] i] [] pos) (rL f):=by
 obtain⟨t,pt,B⟩:=h;refine⟨_,jO KS z hm abk (bX (rl (JL y) m o ρ (bX pt dW j) ⋯ ρ j ρ) dW q) ⋯ ρ q ρ,λC D δ F H J d δ' Q g S k=>?_⟩;obtain⟨c,δ1,K,g⟩:=oB g;dsimp only at g;split at g
 ·obtain⟨ys,L,g⟩:=oA g;split at g
  ·rename_i M;obtain⟨rfl,rfl⟩:=sP g;refine B C D δ F H J _ _ _ K S λv H1 r u N O=>?_;obtain⟨a,ws,rfl,x,rs⟩:=O;rw[jU L rs] at x;refine⟨a,ys,ρ,Rd.mono u.sub x,M,λb T=>⟨b,jR ys,ρ,aV,?_⟩⟩;exact k _ _ r (u.made T) N ρ
  exact nO g
 exact nO g
theorem DK (put:c->DS)(keep:c->Bool)(val:c->Dat):∀(xs:List c) (a:List Dat) (δ:DS),a.length+xs.length<=eu ->
  (∀x∈xs,∀δ,(δ=i\/∃y,δ=put y)->g (enc x) δ=ac (put x))->(∀x∈xs,fc (put x)=ac (keep x,put x))->(∀x∈xs,keep x=bi->fe (put x)=ac (val x,put x))->(∀x∈xs,noOwn (put x)=bi)->(δ=i\/∃y,δ=put y) ->
  ∃δ',compLoop g fc fe (xs.map enc) a δ=ac (a++(xs.filter keep).map val,δ')
 | [],a,δ,_,_,_,_,_,_=>⟨δ,by simp[compLoop]⟩
 | x::xs,a,δ,t,j,k,l,m,hd=>by
  simp at t;have o:=j x (eN ..) δ hd;have p:=k x<|eN ..;have q:=m x<|eN ..;have d:=λf (r:f.length+xs.length<=eu)=>DK put keep val xs f (put x) r (λy b=>j y<|fk _ b) (λy b=>k y<|fk _ b) (λy b=>l y<|fk _ b) (λy b=>m y<|fk _ b)<|τ ⟨x,ρ⟩;cases h:keep x with
  | false=>obtain⟨δ',e⟩:=d a ∅;refine⟨δ',?_⟩;show (g (enc x) δ).bind _=_;rw[o];show (fc<|put x).bind _=_;rw[p,h];show (if noOwn (put x)=bi then compLoop g fc fe (xs.map enc) a (put x) else am)=_;rw[if_pos q,e,Z8,h];simp
  | true=>obtain⟨δ',e⟩:=d (a++[val x]) (by rw[gd];simp;omega);refine⟨δ',?_⟩;show (g (enc x) δ).bind _=_;rw[o];show (fc<|put x).bind _=_;rw[p,h];show (fe<|put x).bind _=_;rw[l x (eN ..) h];show (if a.length<eu/\noOwn (put x)=bi then _ else am)=_;rw[if_pos ⟨∅,q⟩,e,Z8,h];simp
def fN{a:Type}{enc:a->Dat}{caps:List (Option Nat)}{fi:IF}{g:GF}{fc:BF}{fe:DF}{xs:List a}{δ δ1 δ2:DS}(put:a->DS)(keep:a->Bool)(val:a->Dat)(b:fi δ=ac (xs.map enc,δ1))(c:bB am caps δ1=δ2)(d:xs.length<=eu)
 (f:∀x∈xs,∀δ,(δ=cC caps δ2\/∃y,δ=put y)->g (enc x) δ=ac (put x))(h:∀x∈xs,fc (put x)=ac (keep x,put x))(i:∀x∈xs,keep x=bi->fe (put x)=ac (val x,put x))(j:∀x∈xs,noOwn (put x)=bi) :
  eV caps am fi g fc fe δ=ac (.O<|.L<|(xs.filter keep).map val,δ2):=by
 obtain⟨δ',e⟩:=DK put keep val xs [] (cC caps δ2) (by simpa using d) f h i j<|ι ρ;exact DZ b c e
def dX{a:Type}{enc:a->Dat}{caps:List (Option Nat)}{fi:IF}{g:GF}{fe:DF}{xs:List a}{δ δ1 δ2:DS}(put:a->DS)(val:a->Dat)(b:fi δ=ac (xs.map enc,δ1))(c:bB am caps δ1=δ2)(d:xs.length<=eu)
 (e:∀x∈xs,∀δ,(δ=cC caps δ2\/∃y,δ=put y)->g (enc x) δ=ac (put x))(f:∀x∈xs,fe (put x)=ac (val x,put x))(h:∀x∈xs,noOwn (put x)=bi) :
  eV caps am fi g (fun δ=>ac (true,δ)) fe δ=ac (.O<|.L<|xs.map val,δ2):=by
 have:=fN (enc:=enc) (caps:=caps) (fi:=fi) (g:=g) (fc:=fun δ=>ac (true,δ)) (fe:=fe) (xs:=xs) (δ:=δ) put (λ_=>true) val b c d e (λ_ _=>rfl) (λx i _=>f x i) h;rw[aer.2 (by intros;rfl)] at this;exact this
theorem wQ (f):∀cs:List a,kI (cs.map λc=>.int<|f c)=ac (cs.map f)
 | []=>rfl
 | c::cs=>by show (kI (cs.map λc=>.int<|f c)).map (f c::·)=_;rw[wQ f cs];rfl
theorem qJ (f):∀cs:List a,dq (cs.map λc=>.str<|f c)=ac (cs.map f)
 | []=>rfl
 | c::cs=>by show (dq (cs.map λc=>.str<|f c)).map (f c::·)=_;rw[qJ f cs];rfl
def AE{a:Type}(f:a->Bool)(cs:List a):n5 [.L (cs.map λc=>.bl<|f c)]=ac (.D<|.bl<|cs.all f):=by show (jN _).map _=_;rw[tT f];simp
def MU{a:Type}(f:a->Bool)(cs:List a):uv [.L (cs.map λc=>.bl<|f c)]=ac (.D<|.bl<|cs.any f):=by show (jN _).map _=_;rw[tT f];simp
def Kc (f)(h:cs≠[]):uV [.L (cs.map λc=>.int<|f c)]=ac (.D<|.int<|iX<|cs.map f):=by show (kI _).bind _=_;simp_all [wQ]
def yS{a:Type}{f:DF}{δ δ1:DS}{cs:List a}(g:a->eT)(h:f δ=ac (.L (cs.map λc=>.str<|g c),δ1))(hz:cs.length<1000):rL f δ=ac (.int (jR (cs.map g):Nat),δ1):=by simp_all [rL,qJ]
def B1(f g h:DF):DF:=fun δ=>(f δ).bind λp=>match p.1 with
 | .a8 a=>(g p.2).bind λq=>match q.1 with
  | .str k=>(h q.2).bind λr=>ac ((ck a k).getD r.1,r.2)
  | _=>am
 | _=>am
theorem LO (M:X.A.units+1<vv)(N:Z' o "get" X.env (eval o X.env)=eval o X.env)(O:((Hz pos<|ma [e,x] X.env).all (λx=>!x.1)&&(afb pos<|adB [] X.env).all (λx=>x.1.isSome)&&bd (([e,x]:List hQ).length+([]:List acM).length+(if ([]:List acM).isEmpty then 0 else 1)<30))=bi)(hl:(apos.endLine==pos.line)=bi)(T:Hz pos (ma [e,x] X.env)=[(false,eval e X.env),(false,eval x X.env)])(ho:DD X o f)(U:DD X e g)(V:DD X x h):DD X (.Call (.Attribute o "get" apos) [e,x] [] pos) (B1 f g h):=by
 obtain⟨t1,W,Y⟩:=ho;obtain⟨t2,Z,q2⟩:=U;obtain⟨t3,p3,q3⟩:=V;refine⟨_,L3 M W Z p3 ⟨N,O,hl,T⟩,λm q δ r H Hi d δ' Q i S k=>?_⟩;obtain⟨c,δ1,e1,i⟩:=oB i;dsimp only at i;cases c with
 | a8 y =>
  obtain⟨c,δ2,e2,i⟩:=oB i;dsimp only at i;cases c with
  | str j =>
   obtain⟨c,δ3,e3,i⟩:=oB i;obtain⟨rfl,rfl⟩:=sP i;refine Y m q δ r H Hi _ δ1 _ e1 S λv1 H1 z B s1 r1=>?_;obtain⟨p,kvs,rfl,C,rk⟩:=r1;refine⟨p,ρ,ι ⟨kvs,Rd.of<|B.sub _ _ C⟩,q2 m q δ1 r H1 z _ δ2 _ e2 B λv2 H2 D S2 t r2=>?_⟩;cases (r2);refine q3 m q δ2 r H2 D _ _ _ e3 S2 λv3 H3 l F u r3=>?_;have J:=bN.mono (t.trans u) rk;obtain⟨a,b⟩:=J.find j;refine⟨fF kvs<|pl j,gJ.k (k:=pl j)<|F.sub _ _<|u _ _<|t _ _ C,k _ H3 l F (s1.trans<|t.trans u) ?_⟩;cases L:ck y j with
   | none=>rw[b L];exact r3
   | some d0=>obtain⟨v,ev,rv⟩:=a d0 L;rw[ev];exact rv
  | _=>exact nO i
 | _=>exact nO i
theorem FO:∀(more a:List (Key×V)),((a++more).map (·.1)).Nodup->lM a more=a++more
 | [],a,_=>by show a=_;rw[wa]
 | p::r,a,h=>by
  have e:putK a p.1 p.2=a++[p]:=by
   delta putK;rw[if_neg];intro z;obtain⟨q,b,e⟩:=z8.1 z;have e:q.1=p.1:=by simpa using e
   rw[hI,zb] at h;exact h.2.2 q.1 (ee.2 ⟨q,b,ρ⟩) p.1 ⋯ e
  show lM (putK a p.1 p.2) r=_;simp only[e,FO r (a++[p]) (by rw[wm];exact h),wm];rfl
noncomputable def rQ:List Dat->Option Res
 | [.L ds]=>ac (.D<|.U ds)
 | _=>am
def Hg (a:Gl X "tuple")(hm:X.mg "tuple"=am)(b:bC X e [])(c:DA X [e] fa):DE X (.Call (.Name "tuple" p) [e] [] pos) (bV rQ fa):=vm Hc (by
  intro H0 ps δ σ H Hi vs ds o Q e S r k;delta rQ at e;split at e
  ·obtain rfl:=sO e;obtain⟨v,vr,rfl,⟨a,b,rfl,d,rs⟩,f⟩:=r;subst f;refine⟨a,b,ρ,ι ⟨ι<|Rd.mono S.sub d,λl hl=>?_⟩⟩;obtain⟨g,c⟩:=S.laid hl;exact k (.ref l) _ _ g c ⟨l,_,ρ,bq.of aV,aA.mono c rs⟩
  exact nO e) a hm (by decide +kernel) c ⋯ ρ b ρ
end
section
open Sem (wp)
def BQ:entryFor table "dict.update.loop"=ac aa1.«dict.update.loop»:=entryFor_of_tree (by kernel_rfl)
def uN:plainId "dict.update.loop"=bi:=by decide +kernel
def KN (f:s.heap.IsList a xs)(hd:∀o,s.heap.get? a=ac o->o.dict=am)(j:abL (.type "list") name=pure am)(l:(["__module__","__name__","__qualname__","__doc__","__annotations__"]:List eT).contains name=bv)(hA:A.handled=am)(h:∀h' tk,(∀b o,s.heap.get? b=ac o->h'.get? b=ac o)->Q am {s with heap:=h',toks:=tk})(hsz:name.length+100<=sizeLine:=by size_fits) :
  ka (k7 prog w) A (afa (.ref a) name) Q E s:=by
 obtain⟨o,f,p,k,i⟩:=f;have hd:=hd o f;obtain⟨c,a8,D,sl⟩:=o;subst p i hd;obtain⟨r,g,d,tk,os⟩:=s;have q:∀m,(⟨r,g,d,m,os⟩:eK).TypeIs (.ref a) "list":=λ_=>⟨_,f,ρ⟩;have f1:=sub_AttributeError;have f3:=ad3.lookup;have f4:=F.slot_list_getattribute.bind<|.ref a;have f5:=am_list_getattr_none;unfold afa getAttrBy? getAttrBy
 repeat (any_goals (first|assumption|exact q _|((with_reducible show ka _ _ (call (aaW "list.__getattribute__") _ _) _ _ _);refine acq ad3 (q _) am_entry_list_getattribute (F.args_list_getattribute_2 _ _) (meets_getattribute_miss_list a xs k sl name _ j l hsz) ⟨f,hA,λh' m e n=>?_⟩)|wp_step))
 obtain⟨t',u',he⟩:=n.there;show ka _ _ (afy _ _ _ _ _ _ _) _ _ _;unfold afy
 repeat (any_goals (first|assumption|wp_step))
 exact h _ _ n.of.keeps
section
variable{prog:lq}{w:qh}{K:Type}[DecidableEq K]{knd:KeyKind prog w K}{A:pk}{E:dk->eK->Prop}{s:eK}
def Jy (h:abx s.heap a #[k,v])(q:Q [k,v] s):ka (k7 prog w) A (ac3<|.ref a) Q E s:=by obtain⟨o,ho,b,n,hd⟩:=h;refine ey<|aeE (⟨o,ho,b⟩) ?_;refine ey<|adY ho hd ?_;exact gi q
structure zG (knd:KeyKind prog w K) (h:pq) (u:dk) (kv:K×dk) (a:eH) (k:dk):Prop where
 at_:u=.ref a
 U:abx h a #[k,kv.2]
 key:knd.is kv.1 k=bi
theorem Nh (hh:A.handled=am)(y:l≠I)(h:d≠I)(N:d≠l)(hl:more.length=items.size)(hz:more.length<=eu) :
  ∀(m i:Nat) (s:eK),items.size-i=m->i<=items.size->s.heap.IsListIter I l i->s.heap.IsList l items->s.heap.DictOf knd d (aeJ []<|more.take i) ->
   (∀(j:Nat) (u:dk) (x:K×dk),items[j]?=ac u->more[j]?=ac x->∃a k,zG knd s.heap u x a k/\a≠I/\a≠d) ->
   (∀h' tk,h'.DictOf knd d (aeJ [] more)->(∀b o,b≠I->b≠d->s.heap.get? b=ac o->h'.get? b=ac o)->R (.ok<|.ret .none) {s with heap:=h',toks:=tk}) ->
   ∀(n:Int) (t:Tok),abz (k7 prog w) A (.builtin "dict.update.loop" ⟨[.ref d,.ref I,.int n t,.none],[]⟩) R s:=by
 intro m;induction m with
 | zero=>intro i s hm Z st D hd F G n t;have O:i=items.size:=⋯;subst O;apply Z2 BQ;delta aa1.«dict.update.loop»;have W:=Walks.list (prog:=prog) (w:=w) (A:=A.in1) (by simp[hh]) I l y items;refine ey (W.done s _ _ ⟨st,D⟩ λh' tk k=>?_);refine ey<|gi ?_;rw[ab3 (by lia)] at hd;refine gi (G h' tk ?_ λb o f H e=>k b o (by simpa using f) e);obtain⟨o,J,ep,ho,r⟩:=hd;exact⟨o,J,ep,k d o (by simpa using h) ho,r⟩
 | succ m ih =>
  intro i s hm Z st D hd F G n t;have z:i<items.size:=⋯;apply Z2 BQ;delta aa1.«dict.update.loop»;have W:=Walks.list (prog:=prog) (w:=w) (A:=A.in1) (by simp[hh]) I l y items;refine ey (W.item i s _ _ z ⟨st,D⟩ λv f tk hv B k1=>?_);have C:more[i]?=ac more[i]:=bg ⋯;obtain⟨a,k,L,na,nd⟩:=F i v _ hv C;have ev:=L.at_;subst ev;have q:∀b o,b≠I->s.heap.get? b=ac o->f.get? b=ac o:=λb o g e=>k1 b o (by simpa using g) e;have P:f.DictOf knd d (aeJ []<|more.take i):=by obtain⟨o,J,ep,ho,r⟩:=hd;exact⟨o,J,ep,q d o h ho,r⟩
  have Q:abx f a #[k,more[i].2]:=by obtain⟨o,ho,r⟩:=L.U;exact⟨o,q a o na ho,r⟩
  have hsz:(aeJ []<|more.take i).length<=sizeLine:=by have:=merged_length_le ([]:List (K×dk))<|more.take i;simp at this;lia
  refine ey<|sj<|ey<|wpAny_tryCatch<|Jy Q ?_;refine sj (wpAny_dictSet_pairs L.key P λH S M=>?_);have k2:∀b o,b≠I->b≠d->s.heap.get? b=ac o->H.get? b=ac o:=λb o g c e=>(M.2 b c).trans (q b o g e);refine gi ⟨acZ uN _,ih (i+1) {s with heap:=H,toks:=tk+1} ⋯ z ?_ ?_ ?_ ?_ ?_ _ _⟩
  ·obtain⟨o,ho,r⟩:=B.1;exact⟨o,(M.2 I<|Ne.symm h).trans ho,r⟩
  ·obtain⟨o,ho,r⟩:=B.2;exact⟨o,(M.2 l<|Ne.symm N).trans ho,r⟩
  ·rwa[merged_take_succ _ _ _ _ C]
  ·intro j u x hu T;obtain⟨a,k,p,U,V⟩:=F j u x hu T;refine⟨a,k,⟨p.at_,?_,p.key⟩,U,V⟩;obtain⟨o,ho,r⟩:=p.U;exact⟨o,k2 a o U V ho,r⟩
  exact λh' X Y k'=>G h' X Y λb o g c e=>k' b o g c<|k2 b o g c e
def LY (hh:A.handled=am)(v:s.heap.IsList l items)(hd:∀o,s.heap.get? l=ac o->o.dict=am)(hl:more.length=items.size)(H:more.length<=eu)(I:∀(j:Nat) (u:dk) (m:K×dk),items[j]?=ac u->more[j]?=ac m->∃a k,zG knd s.heap u m a k)(h:∀h' tk,h'.DictOf knd s.heap.objs.size (aeJ [] more)->(∀b o,s.heap.get? b=ac o->h'.get? b=ac o)->Q (.ref s.heap.objs.size) {s with heap:=h',toks:=tk}) :
  ka (k7 prog w) A (call (.type "dict") [.ref l]) Q E s:=by
 apply callType_codes (Q₁:=λobj f=>obj=.ref s.heap.objs.size/\f={s with heap:=s.heap.push {cls:=.type "dict",data:=.dict #[]} }) F.kt_called_dict (F.kt_typeCall_dict_1 _) F.entry_dict_init<|kt_code_dict_new _ ⟨ρ,ρ⟩;rintro obj f ⟨rfl,rfl⟩;have c:(s.heap.push {cls:=.type "dict",data:=.dict #[]}).DictOf knd s.heap.objs.size []:=adR s.heap;have g:=v.push {cls:=.type "dict",data:=.dict #[]};have n:=let ⟨_,ho,_⟩:=v;gD ho
 have x:∀o,(s.heap.push {cls:=.type "dict",data:=.dict #[]}).get? l=ac o->o.dict=am:=λo e=>by obtain⟨o',ho,r⟩:=v;rw[fA _ ho] at e;obtain rfl:=sO e;exact hd _ ho
 refine⟨c.typeIs,F.args_dict_init_2 _ _,?_⟩;delta aa1.«dict.__init__»;apply ey;refine ey<|aeW c.typeIs ?_;apply gi;refine ey<|aeE g.typeIs ?_;refine ey<|KN g x (by rw[typeLookup_type,builtinLookup_eq_fast];kernel_rfl) (by decide +kernel) (by simp[hh]) (λi tk k1=>?_) (by decide +kernel);refine ey<|wpAny_rule ?_;have q:i.IsList l items:=by obtain⟨o,ho,r⟩:=g;exact⟨o,k1 _ _ ho,r⟩
 refine ey<|aas (s:={s with heap:=i,toks:=tk}) q ?_;have t:i.DictOf knd s.heap.objs.size []:=by obtain⟨o,y,ep,ho,r⟩:=c;exact⟨o,y,ep,k1 _ _ ho,r⟩
 have d:s.heap.objs.size<i.objs.size:=by obtain⟨o,y,ep,ho,r⟩:=t;exact gD ho
 have z:∀b o,s.heap.get? b=ac o->i.get? b=ac o:=λb o e=>k1 b o<|fA _ e;refine gi ⟨acZ uN _,?_⟩;refine Nh (knd:=knd) (by simp[hh]) (ia<|aav n d) (ia d) (acW n) hl H items.size 0 _ ⋯ (pe _) ⟨_,lD _ ρ,ρ,ρ⟩ (q.push _) ?_ ?_ ?_ _ _
 ·exact t.push _
 ·intro j u m J B;obtain⟨a,k,p⟩:=I j u m J B;have C:=let ⟨_,ho,_⟩:=p.U;gD ho
  refine⟨a,k,⟨p.at_,?_,p.key⟩,ia<|aav C d,ia C⟩;obtain⟨o,ho,r⟩:=p.U;exact⟨o,fA _<|z _ _ ho,r⟩
 intro h' D G L;refine⟨ρ,h h' D G λb o e=>L b o ?_ ?_<|fA _<|z _ _ e⟩
 ·exact ia<|aav (gD e) d
 exact ia<|gD e
end
end
section
variable{X:Cx}{pins:List (eH×C1)}{σ:St}{H:Hp}{s:eK}{pos:z5}
def nh(K:gW)(H:Hp)(r:V)(b:Key×V):Prop:=∃a,r=.ref a/\bq K H a [kV b.1,b.2]
theorem OS(I:Inv X pins σ H s)(c:aJ rows its)(b:aaz (nh X.K H) rows kvs):∃more:List (Key×dk),KV kvs more/\aaz (λu d=>∃a k,zG (cJ X.prog X.w) s.heap u d a k) its more:=by
 induction c generalizing kvs with
 | nil=>cases b;exact⟨[],.nil,.nil⟩
 | cons e _ f =>
  cases b with
  | cons g b =>
   obtain⟨more,h,i⟩:=f b;obtain⟨a,rfl,j⟩:=g;subst e;obtain⟨its',l,U,_⟩:=I.tuple j;cases l with
   | cons m n =>
    cases n with
    | cons o p =>
     cases p;rename_i k v;exact⟨(_,v)::more,.cons ⟨ρ,o⟩ h,.cons ⟨a,k,ρ,by simpa using U,mM m⟩ i⟩
theorem Bu (p:aaz F c d):∀(j:Nat) a b,c[j]?=ac a->d[j]?=ac b->F a b:=by
 induction p with
 | nil=>intro j a b h;simp at h
 | cons hf _ g =>
  intro j a b h h';cases j with
  | zero=>simp_all
  | succ j=>exact g j a b (by simpa using h) (by simpa using h')
theorem uj (p:aaz F a b):a.length=b.length:=by
 induction p with
 | nil=>rfl
 | cons _ _ e=>exact congrArg (·+1) e
def CM(K:gW):List V->Hp->VK->Prop:=λxs H Q=>∃p rows kvs,xs=[.ref p]/\Rd H p (.L rows)/\aaz (nh K H) rows kvs/\∀q,H q=am->Q (.ref q) (upd H q<|.dK<|lM [] kvs)
def OI(te:TE):TI:=fun σ H R=>te σ H λv a=>∃d o kvs,v=.ref d/\a d=ac (.bB o<|.dK kvs)/\R (GJ d o kvs) a
def MQ (l:PE X e te):PI X k e (OI te):=by refine λpins s σ H R I h=>aI (l pins s σ H _ I h) λv a g=>?_;obtain⟨y,H1,c,m,n⟩:=g;obtain⟨d,o,kvs,rfl,hd,q⟩:=n;subst m;obtain⟨ho,z,lo,vs,p,i⟩:=c.aq d _ hd;obtain⟨ep,D⟩:=i.dictAt;obtain⟨o',r,f,g⟩:=id D;rw[ho] at f;obtain rfl:=sO f;have hA:∀h:pq,h.get? d=ac o->h.DictAt (cJ X.prog X.w) d vs ep:=λh e=>⟨o,r,e,g⟩;refine wpAny_pyIter_dict lo D ⟨a.heap.objs.size,[a.heap.objs.size],_,_,_,ρ,c.kept λb o e=>fA _ e,MM p (ia<|gD ho) hA,⟨_,lD _ ρ,ρ,ρ⟩,λb t=>?_,q⟩;rw[show b=a.heap.objs.size by simpa using t];exact c.mi (ft _)<|c.aq.fresh<|ft _
noncomputable def jJ:List Dat->Option (List<|eT×Dat)
 | []=>ac []
 | .U [.str k,d]::r=>(jJ r).map λa=>(k,d)::a
 | _=>am
def qA:List Dat->Option Res
 | [.a8 a]=>ac (.O<|.a8 a)
 | [.L ds]=>(jJ ds).bind λa=>if (a.map (·.1)).Nodup then ac (.O<|.a8 a) else am
 | _=>am
theorem Cm{K:gW}{H:Hp}:∀{ds:List Dat}{vs:List V}{b:List (eT×Dat)},jJ ds=ac b->aA K H ds vs->∃kvs,bN K H b kvs/\aaz (nh K H) vs kvs
 | [],_,_,e,r=>by obtain rfl:=sO e;cases (r);exact⟨[],ρ,.nil⟩
 | d::ds,_,_,e,r=>by
  unfold jJ at e;split at e;simp_all
  ·rename_i k d' r' h;cases h;obtain⟨b,f,e⟩:=oM e;obtain rfl:=sO e;obtain⟨v,vr,rfl,⟨a,ws,rfl,g,rs⟩,i⟩:=r;obtain⟨kvs,j,l⟩:=Cm f i;obtain⟨v1,r1,rfl,m,c,r2,rfl,n,o⟩:=rs;subst m;cases (o);exact⟨(pl k,c)::kvs,⟨c,kvs,ρ,n,j⟩,.cons ⟨a,ρ,g⟩ l⟩
  exact nO e
def nh.mono{K:gW}{H b:Hp}(s:aj H b){vs:List V}{kvs:List (Key×V)}(h:aaz (nh K H) vs kvs):aaz (nh K b) vs kvs:=Paired.qP h λ_ _ ⟨a,e,q⟩=>⟨a,e,bq.mono s q⟩
def QV:CD X (λxs H Q=>(λxs H Q=>∃a kvs,xs=[.ref a]/\Rd H a (.dK kvs)/\∀p,H p=am->Q (.ref p) (upd H p<|.dK kvs)) xs H Q\/CM X.K xs H Q) qA:=by
 intro g i δ σ H c vs ds o Q e S r k;delta qA at e;split at e
 ·rename_i d;exact ι<|OE g i δ σ H c vs [.a8 d] o Q e S r k
 ·obtain⟨d,j,e⟩:=oA e;split at e
  ·rename_i nd;obtain rfl:=sO e;obtain⟨v,vr,rfl,⟨p,l,rfl,m,rs⟩,n⟩:=r;subst n;obtain⟨kvs,f,t⟩:=Cm j rs;have u:(kvs.map (·.1)).Nodup:=by rw[uZ f];exact ox.2 (nd.imp λh z=>h<|Sum.inr.inj z)
   refine τ ⟨p,l,kvs,ρ,Rd.mono S.sub m,nh.mono S.sub t,λq b=>?_⟩;simp[FO kvs [] (by simpa using u),List.nil_append];exact k (.ref q) _ c (S.made b) (aj.refl _) ⟨q,ρ,⟨kvs,aV,f,S.dg b⟩,(S.bL b).2,(S.bL b).1,S.dJ b⟩
  exact nO e
 exact nO e
def Tx (a:X.calm=bi)(b:Gl X "dict")(hm:X.mg "dict"=am)(c:bC X e [])(d:DA X [e] fa):DE X (.Call (.Name "dict" p) [e] [] pos) (bV qA fa):=vm (bD.or MI ((λf=>by
  intro pins s σ H xs us Q I r h;obtain⟨p,rows,kvs,rfl,g,c,q⟩:=h;obtain⟨u,rfl,i⟩:=r.one;subst i;obtain⟨z,its,n,k,d⟩:=g.ok I.aq;obtain⟨more,b,pm⟩:=OS I k c;have l:=uj pm;have e2:=uj b;have e3:=uj c;have m:(lM [] kvs).length<=sizeLine:=by have:=G' kvs [];simp at this;omega
  refine LY (I.ok.hd f) ⟨_,d,ρ,n,ρ⟩ (λo e=>by rw[d] at e;obtain rfl:=sO e;rfl) (by simp[l]) ∅ (λj u b t v=>Bu pm j u b (by simpa using t) v) λh' tk dd kp=>?_
  exact⟨.ref s.heap.objs.size,_,I.laid kp (ft _)<|y9 m (beq_eq_false_iff_ne.2<|Ne.symm<|ia I.u1) (b.merge .nil) dd,ρ,q _<|I.aq.fresh<|ft _⟩) a)) QV b hm (by decide +kernel) d ⋯ ρ c ρ
noncomputable def Gw(i:Nat):IF:=fun δ=>match δ[i]? with
 | some (.D<|.fu a)=>ac (a.map λk=>.str k.1,δ)
 | _=>am
theorem ID (hx:ik x)(t:X.N.findIdx? (·==x)=ac i)(u:cc X.env.scope x)(hd:bA x)(h:cG x):dy X q (.Name x r) (Gw i):=by
 refine⟨_,MQ<|eG (dR t) u hd h,λH0 ps δ σ H Hi items δ' R b S k=>?_⟩;unfold Gw at b;split at b
 ·rename_i l e;obtain⟨rfl,rfl⟩:=sP b;obtain⟨v,w,p,o,kvs,rfl,f,g⟩:=S.D i _ e;refine⟨_,w,p,o,kvs,ρ,S.sub _ _ f,k _ _ _ S (aj.refl _) λj H2 m=>⟨λd c=>?_,λhl=>⟨m _ _ f,?_⟩⟩⟩
  ·have z:j<l.length:=by have:=(bt.1 c).1;simpa using this
   refine⟨⟨m _ _ f,by rw[bN.length g];exact z⟩,λv H3 A=>ι ?_⟩;obtain⟨rfl,B,xx,C,rfl⟩:=A;refine⟨ρ,?_⟩;have a:(kvs.map (·.1))[j]?=ac B:=by rw[ez,C];rfl
   simp only[uZ g,ez] at a;rw[ez] at c;cases n:l[j]? with
   | none=>rw[n] at a;exact nO a
   | some y=>rw[n] at a c;obtain rfl:=sO a;obtain rfl:=sO c;rfl
  have hl':=bN.length g;simp_all
 exact nO b
end
section
open Sem (wp)
structure pG (h:pq) (d:eH) (es:Array abd) (ep:Nat):Prop where
 ok:∃o,h.get? d=ac o/\o.ExactDict/\o.data=.dict es ep
section
variable{prog:lq}{w:qh}{A:pk}{E:dk->eK->Prop}{s:eK}
def pG.ty (h:pG s.heap d c ep):s.TypeIs (.ref d) "dict":=let ⟨o,a,b,_⟩:=h.ok;⟨o,a,b.1⟩
def Lp (hd:(d==XP)=bv)(r:pG s.heap d a ep)(q:Q (.ref s.heap.objs.size) {s with heap:=s.heap.push {cls:=.type "dict_keyiterator",data:=.fields #[.ref d,.int 0 0,.int a.size 0,.int ep 0]} }):ka (k7 prog w) A (afx<|.ref d) Q E s:=by have ty:=r.ty;obtain⟨o,b,e2,c⟩:=r.ok;refine wpAny_pyIter_slot ty afE<|ZP afE ty F.entry_dict_iter ?z<|F.args_dict_iter_1 _;delta aa1.«dict.__iter__» agx;refine ey<|ey<|aeW ty ?B;refine (gi ?C);refine (show ka _ _ (ac' d >>= _) _ _ s from ?D);delta ac';rw[if_neg (by simp_all)];refine ey<|gi<|ey<|abZ b c<|ey<|adG b c<|ey<|abY<|gi ⟨_,ρ,"dict_keyiterator",_,⟨_,lD _ ρ,ρ⟩,T2.lookup,?G⟩;simpa[aeI] using q
def Tu (c:s.heap.IsKeyIter it d i a.size ep)(r:pG s.heap d a ep)(g:i<a.size)(q:∀h',h'.IsKeyIter it d (i+1) a.size ep->aae it s.heap h'->Q (ac a[i].key) {s with heap:=h'}):ka (k7 prog w) A (abM<|.ref it) Q E s:=by
 have ty:=c.typeIs;obtain⟨x,f,k,b⟩:=id c;obtain⟨o,h,e2,j⟩:=r.ok;have O:ab0 "dict_keyiterator"=bv:=ρ;refine ey<|agW<|acf ty T2<|ZP T2 ty adt ?z<|adp _;refine ey<|gi<|ey<|ey ?D
 first|refine ey (aai ty<|gi ?B)|refine ey<|aaK ty<|gi ?B
 refine ey<|agL f b ?G;refine (?H);refine ey<|gi<|ey<|abZ h j ?I;rw[if_neg ⋯];refine ey<|gi<|ey<|adG h j ?J;rw[if_neg ⋯];refine gi ?K;simp[me g];refine ey ?L
 first|refine ey (aai ty<|gi ?C)|refine ey<|aaK ty<|gi ?C
 refine ey<|aeY ty ?M;refine (show ka _ _ (setField (.ref it) 1 (aeI<|(i:Int)+1) >>= _) _ _ s from ey<|agK f b ⋯ ?N);have e:(s.heap.update it (afN (·.setIfInBounds 1 (aeI<|(i:Int)+1)))).IsKeyIter it d (i+1) a.size ep:=⟨_,acb _ f<|Obj.isFreed_of_fields<|aeO b _,(Obj.cls_mapFields ..).trans k,by rw[aeO b];simp[aeI]⟩;refine ey<|sj<|ey<|aeY e.typeIs ?O;exact (gi<|gi ⟨_,ρ,gi<|q _ e<|aaS ..⟩)
def MT (hh:A.handled=am)(c:s.heap.IsKeyIter it d i e.size ep)(r:pG s.heap d e ep)(f:e.size<=i)(q:∀h',Heap.ExtBut it s.heap h'->Q am {s with heap:=h'}):ka (k7 prog w) A (abM<|.ref it) Q E s:=by
 have ty:=c.typeIs;obtain⟨x,g,x2,h⟩:=id c;obtain⟨o,j,e2,k⟩:=r.ok;have O:ab0 "dict_keyiterator"=bv:=⋯;unfold abM;refine ey<|agW<|acf ty T2<|ZP T2 ty adt ?z<|adp _;refine ey<|gi<|ey<|ey ?D
 first|refine ey (aai ty<|gi ?B)|refine ey<|aaK ty<|gi ?B
 refine ey<|agL g h ?G;refine (show ka _ _ (if (rm d==tm)=bi then _ else _) _ _ s from ?H);refine ey<|gi<|ey<|abZ j k ?I;rw[if_neg ⋯];refine ey<|gi<|ey<|adG j k ?J;rw[if_neg ⋯];refine gi ?K;simp[adP f];refine ey ?L
 first|refine ey (aai ty<|gi ?C)|refine ey<|aaK ty<|gi ?C
 refine (show ka _ _ (setField (.ref it) 0 .none >>= _) _ _ s from ey<|agK g h ⋯ ?M);refine (ey ?N);refine ey<|abY (ey<|wpAny_of_eq (a:=tm) ρ<|abY ?O (by size_fits)) (by size_fits);dsimp only[raiseNew];refine ey<|wpAny_handled ?P;rw[show A.in1.handled=am from hh];refine ey<|gi<|wpAny_throw ?R;exact ey<|wpAny_isInstance ⟨_,lD _ ρ,ρ⟩ isSubtype_stop<|gi<|q _<|((aaS ..).extBut.push _).push _
def Jf (hd:(d==XP)=bv)(r:pG s.heap d a ep)(hz:(a.size:Int)<2 ^ 63)(q:∀t t',Q (.int a.size t) {s with toks:=t'}):ka (k7 prog w) A (call (.builtin "len") [.ref d]) Q E s:=by have ty:=r.ty;obtain⟨o,b,e2,c⟩:=r.ok;refine abv kind_len plain_len entry_len (args_len1 _) ?z;delta aa1.«len»;refine ey<|gi<|ey<|acf ty afQ<|ZP afQ ty F.entry_dict_len ?B<|F.args_dict_len_1 _;refine (show ka _ _ (dictSize d >>= _) _ _ s from ?C);refine ey<|ey<|abZ b c<|gi ?D;refine (ey<|wpAny_pendingCount_other hd<|wpAny_ret_mkInt ?G);refine ey<|sj<|gi<|ey<|wpAny_letGo ?H;refine (?I);refine (show ka _ _ (if ((a.size:Nat):Int) ≥ 2 ^ 63 then _ else _) _ _ _ from ?J);rw[if_neg (by lia)];exact ey<|wpAny_mkInt<|gi ⟨_,ρ,q _ _⟩
end
end
noncomputable def Ao(d:eH)(o:C1)(kvs:List (List Key×V))(bs:List eH):It:=⟨λi H=>H d=ac (.bB o<|.dT kvs)/\i<kvs.length,λi H v a=>a=H/\∃b,bs[i]?=ac b/\v=.ref b,λi H=>H d=ac (.bB o<|.dT kvs)/\kvs.length<=i⟩
def mU(H:Hp)(kvs:List (List Key×V))(bs:List eH):Prop:=aaz (λa b=>H b=ac (.U<|a.1.map kV)) kvs bs
def KeysIn(a:Array abd)(bs:List eH):Prop:=∀(i:Nat) (hi:i<a.size),∃b,bs[i]?=ac b/\a[i].key=.ref b
section
variable{P:lq}{w:qh}{H:Hp}{h:pq}{d:eH}{X:Cx}{K:gW}{pos:z5}{H0:Hp×Hp}{Hi:Hp}{ps:Nat->Option eH}{δ:DS}{σ:St}{prog:lq}{A:pk}{E:dk->eK->Prop}{s:eK}
theorem ue (x:cB P w H h d (.dT kvs)):∃a ep o bs,h.get? d=ac o/\o.ExactDict/\o.data=.dict a ep/\a.size=kvs.length/\mU H kvs bs/\KeysIn a bs:=by
 obtain⟨_,_,xs,b,o,a,ep,g,j,k,c,h5⟩:=x;have l:a.size=xs.length:=by simpa using congrArg List.length c
 have m:∀{kvs:List (List Key×V)}{xs:List (List Key×eH×dk)},aaz (λ(p:List Key×V) (q:List Key×eH×dk)=>p.1=q.1/\H q.2.1=ac (.U<|p.1.map kV)/\RelV p.2 q.2.2) kvs xs->mU H kvs (xs.map λx=>x.2.1):=λb=>by
  induction b with
  | nil=>exact .nil
  | cons h _ n=>exact .cons h.2.1 n
 refine⟨a,ep,o,xs.map λx=>x.2.1,g,j,k,by simp only[l,uj b],m b,λi r=>?_⟩;have e:xs[i]?=ac xs[i]:=bg ⋯;have f:a.toList[i]?=ac a[i]:=by simp[r]
 simp only[c,ez,e] at f;refine⟨xs[i].2.1,by rw[ez,e];rfl,?_⟩;rw[<-Option.some.inj f];rfl
def KJ (L:l.size=n)(hne:d≠it)(m:o.data=.dict l ep)(a:KeysIn l bs) :
  Turn P w K R (Ao d o kvs bs) [it] it (λi h=>h.IsKeyIter it d i n ep) where
 mem:=⋯
 obj:=λi h st b a=>by
  have e:b=it:=by simpa using a
  subst e;obtain⟨o,e,c,d⟩:=st;exact⟨o,e,λv z=>by rw[d] at z;contradiction⟩
 keep:=λi h h' st k=>by obtain⟨o,e,c,d⟩:=st;exact⟨o,k it ⋯ o e,c,d⟩
 item:=by
  intro X t hw u M i f s σ H E I p st x;subst t hw u L;obtain⟨y,B,S,C,D,F⟩:=p it ⋯;obtain⟨hd,T⟩:=x;obtain⟨ho,ok⟩:=I.aq d _ hd;obtain⟨es',N,O,Q,g,G,j,U,_,_⟩:=ue ok;rw[ho] at g;cases g;rw[m] at j;cases j;have q:i<l.size:=∅
  refine Tu st ⟨o,ho,G,m⟩ q λh' r Y=>?_;have Z:Inv X f σ H {s with heap:=h',toks:=s.toks}:=I.turned (λb o a e=>(Y.2 b a).trans e) y B C D F;obtain⟨b,tb,J⟩:=a i q;obtain⟨O,e,c,dd⟩:=id r;exact⟨_,ρ,oV e c dd ρ ⟨.ref b,H,Z,by rw[J];rfl,⟨ρ,b,tb,ρ⟩,r,λb a=>(p b a).1⟩⟩
 done:=by intro X t hw u M i f s σ H E I p st x;subst t hw u L;obtain⟨y,B,S,C,D,F⟩:=p it ⋯;obtain⟨hd,T⟩:=x;obtain⟨ho,ok⟩:=I.aq d _ hd;obtain⟨es',N,O,Q,g,G,j,U,_,_⟩:=ue ok;rw[ho] at g;cases g;rw[m] at j;cases j;exact MT (I.ok.hd M) st ⟨o,ho,G,m⟩ (by lia) λh' J=>⟨ρ,I.turned (λb o a e=>J b o a e) y B C D F⟩
 self:=λ_ _ _ _ _ st h=>ae9 st h
def Inv.Iw (I:Inv X a σ H s)(e:H d=ac (.dT kvs))(ho:s.heap.get? d=ac o):Inv X a σ (upd H d<|.bB o<|.dT kvs) s:=by
  have f:∀b u,H b=ac u->u≠.dT kvs->b≠d:=by lia
  have un:Un X.fs [] H (upd H d<|.bB o<|.dT kvs) s.heap s.heap :=
    ⟨λb ob q _ _ _=>q,λb ob q _ _ _=>⟨ob.slots,q⟩,λb ob q n _=>by rw[au (λz=>by simp_all)];exact n,λb ob q _=>⟨ob,q⟩,
     λb xs q=>by rw[au (f b _ q ⋯)];exact q,λb ob u q=>by rw[au (f b _ q ⋯)];exact q,λb ps q=>⟨#[],by rw[au (f b _ q ⋯),q];simp⟩⟩
  have st:∀b u,cB X.prog X.w H s.heap b u->cB X.prog X.w (upd H d<|.bB o<|.dT kvs) s.heap b u:=λb u x =>
    x.gw (λc v _ q=>q) (λc q=>by rw[au (f c _ q ⋯)];exact q) λc xs q=>by rw[au (f c _ q ⋯)];exact q
  have aq:cp X.prog X.w (upd H d<|.bB o<|.dT kvs) s.heap:=λb u q=>by
    by_cases g:b=d
    · subst g;rw[aV] at q;obtain rfl:=sO q;exact⟨ho,st _ _<|I.aq _ _ e⟩
    rw[au g] at q;exact st _ _<|I.aq b u q
  exact I.un un aq
def N2(te:TE):TI:=fun σ H R=>te σ H λv a=>∃d kvs,v=.ref d/\a d=ac (.dT kvs)/\∀o bs,mU a kvs bs->R (Ao d o kvs bs) (upd a d<|.bB o<|.dT kvs)
def CB (l:PE X e te):PI X k e (N2 te):=by refine λc s σ H R I h=>aI (l c s σ H _ I h) λv a f=>?_;obtain⟨y,H1,g,m,n⟩:=f;obtain⟨d,kvs,rfl,hd,q⟩:=n;subst m;have ok:=g.aq d _ hd;obtain⟨es,ep,o,bs,ho,p,i,g4,r,t⟩:=ue ok;have j:=gD ho;have f:=g.Iw hd ho;refine Lp ok.2.1 ⟨o,ho,p,i⟩ ⟨a.heap.objs.size,[a.heap.objs.size],_,_,_,ρ,f.kept λb o e=>fA _ e,KJ ρ (ia j) i t,⟨_,lD _ ρ,ρ,ρ⟩,λb u=>?_,q o bs r⟩;simp[show b=a.heap.objs.size by simpa using u];exact f.mi (ft _)<|f.aq.fresh<|ft _
def Eb:bD X (.builtin "len") (λxs H Q=>∃a kvs,xs=[V.ref a]/\Rd H a (.dT kvs)/\Q (.int kvs.length) H):=by intro pins s σ H xs us Q I r h;obtain⟨a,kvs,rfl,c,q⟩:=h;obtain⟨u,rfl,e⟩:=vals1 r;subst e;have ok:=zP I.aq c;have z:=ok.1;obtain⟨es,ep,o,bs,ho,f,g,b,g5,g6⟩:=ue ok;refine Jf ok.2.1 ⟨o,ho,f,g⟩ (by rw[b];simp only[KX] at z;lia) λt t'=>?_;rw[b];exact⟨.int kvs.length,H,I.tok _,⟨t,ρ⟩,q⟩
abbrev cT:=List<|List eT×Dat
noncomputable def cf(a:cT)(k:List eT):Option Dat:=(a.find? λp=>bd<|p.1=k).map (·.2)
def gy(a:cT)(k:List eT)(d:Dat):cT:=if (cf a k).isSome=bi then a.map (λp=>if p.1=k then (p.1,d) else p) else a++[(k,d)]
noncomputable def kT(k:List eT):List Key:=k.map pl
theorem Bc:kT a=kT b ↔ a=b:=by
 delta kT;constructor
 ·intro h;induction a generalizing b with
  | nil=>simp_all
  | cons x a c=>cases b with
   | nil=>contradiction
   | cons y b=>obtain⟨e,f⟩:=List.cons.inj h;rw[Sum.inr.inj e,c f]
 intro h;rw[h]
def qd(k):(kT k).map kV=k.map V.str:=by delta kT;rw[hG];rfl
theorem cj.length:∀{a:cT}{kvs:List (List Key×V)},cj K H a kvs->kvs.length=a.length
 | [],_,h=>by rw[show _=[] from h];rfl
 | (_,_)::_,_,b=>by obtain⟨v,r,e,q,t⟩:=b;simp only[e,gk,gk,cj.length t]
theorem cj.find:∀{c:cT}{kvs:List (List Key×V)}(k:List eT),cj K H c kvs->(∀d,cf c k=ac d->∃v,fF kvs (kT k)=ac v/\Rep K H d v)/\(cf c k=am->fF kvs (kT k)=am)
 | [],_,k,h=>by rw[show _=[] from h];exact⟨λd z=>by simp[cf] at z,λ_=>rfl⟩
 | (f,d')::c,_,k,j=>by
  obtain⟨v,r,e,q,t⟩:=j;rw[show _=(kT f,v)::r from e];obtain⟨a,b⟩:=cj.find k t;by_cases g:f=k
  ·subst g;have i:cf ((f,d')::c) f=ac d':=by simp[cf]
   rw[i,qC ρ];exact⟨λd z=>⟨v,ρ,by obtain rfl:=sO z;exact q⟩,λz=>by contradiction⟩
  have i:cf ((f,d')::c) k=cf c k:=by simp[cf,g]
  rw[i,qS<|λz=>g<|Bc.1 z];exact⟨a,b⟩
theorem cj.has (k:List eT)(h:cj K H c kvs):(fF kvs<|kT k).isSome=(cf c k).isSome:=by
 obtain⟨a,b⟩:=h.find k;cases e:cf c k with
 | none=>rw[b e];rfl
 | some d=>obtain⟨v,f,_⟩:=a d e;rw[f];rfl
theorem cj.jj:∀{a:cT}{kvs:List (List Key×V)}(k:List eT) {d:Dat}{v:V},cj K H a kvs->Rep K H d v->cj K H (a.map λp=>if p.1=k then (p.1,d) else p) (kvs.map λp=>if p.1=kT k then (p.1,v) else p)
 | [],_,k,_,_,h,_=>by simp only[show _=[] from h];exact ρ
 | (b,d')::a,_,k,d,v,g,c=>by
  obtain⟨w,r,e,q,t⟩:=g;rw[show _=(kT b,w)::r from e,mA,mA];by_cases f:b=k
  ·subst f;rw[if_pos ρ,if_pos ρ];exact⟨v,_,ρ,c,cj.jj b t c⟩
  rw[if_neg f,if_neg<|λz=>f<|Bc.1 z];exact⟨w,_,ρ,q,cj.jj k t c⟩
theorem cj.snoc:∀{b:cT}{kvs:List (List Key×V)}(k:List eT) {d:Dat}{v:V},cj K H b kvs->Rep K H d v->cj K H (b++[(k,d)]) (kvs++[(kT k,v)])
 | [],_,k,_,v,h,a=>by rw[show _=[] from h];exact⟨v,[],ρ,a,ρ⟩
 | (_,_)::_,_,k,_,_,c,a=>by obtain⟨w,r,e,q,t⟩:=c;exact⟨w,r++_,by rw[e];rfl,q,cj.snoc k t a⟩
def cj.put{a:cT}{kvs:List (List Key×V)}(k:List eT){d:Dat}{v:V}(h:cj K H a kvs)(b:Rep K H d v):cj K H (gy a k d) (putK kvs (kT k) v):=by
 delta gy putK;rw[u2,h.has k];split
 ·exact h.jj k b
 exact h.snoc k b
theorem GP:∀{a:cT}{kvs:List (List Key×V)},cj K H a kvs->kvs.map (·.1)=a.map λk=>kT k.1
 | [],_,h=>by rw[show _=[] from h];rfl
 | (_,_)::_,_,b=>by obtain⟨v,r,e,q,t⟩:=b;simp only[e,mA,mA,GP t];rfl
abbrev UF:=DS->Option (List eT×DS)
def iH(X:Cx)(e:hQ)(f:UF):Prop:=∃t,PE X e t/\∀(H0:Hp×Hp) (ps:Nat->Option eH) (δ:DS) (σ:St) (H Hi:Hp) (l:List eT) (δ':DS) (Q:VK),f δ=ac (l,δ')->SR X.K H0 ps δ σ H Hi ->
 (∀p b a,SR X.K H0 ps δ' σ b a->aj Hi a->a p=ac (.U<|(kT l).map kV)->Q (.ref p) b)->t σ H Q
def uT(f:AF):UF:=fun δ=>(f δ).bind λp=>if p.1.length<=eu then (dq p.1).map λl=>(l,p.2) else am
def xq(f:AF):UF:=fun δ=>(f δ).bind λp=>match p.1 with
 | [.L ds]=>(dq ds).map λl=>(l,p.2)
 | _=>am
def DX {c}(h:DA X a f):iH X (.Tuple a c pos) (uT f):=by
 obtain⟨t,p,q⟩:=h;refine⟨_,rh p,λH0 ps δ σ H Hi l δ' Q e S k=>?_⟩;obtain⟨ds,δ1,g,e⟩:=oB e;split at e
 ·rename_i i;obtain⟨l',j,e⟩:=oM e;obtain⟨rfl,rfl⟩:=sP e;refine q H0 ps δ σ H Hi ds _ _ g S λvs H1 Hi1 m n b=>⟨by rw[b.length];exact i,λp r=>?_⟩;obtain⟨u,v⟩:=m.laid r;apply k p _ _ u<|n.trans v;rw[aV,jU j b,qd]
 exact nO e
def MR (g:Gl X "tuple")(hm:X.mg "tuple"=am)(i:bC X e [])(j:DA X [e] fa):iH X (.Call (.Name "tuple" p) [e] [] pos) (xq fa):=by
 obtain⟨t,m,q⟩:=j;refine⟨_,rl Hc g hm (by decide +kernel) m ⋯ ρ i ρ,λH0 ps δ σ H Hi l δ' Q b S k=>?_⟩;obtain⟨ds,δ1,n,b⟩:=oB b;dsimp only at b;split at b
 ·obtain⟨l',r,b⟩:=oM b;obtain⟨rfl,rfl⟩:=sP b;refine q H0 ps δ σ H Hi _ _ _ n S λvs H1 Hi1 c u x=>?_;obtain⟨v,vr,rfl,⟨a,f,rfl,y,rs⟩,z⟩:=x;subst z;refine⟨a,f,ρ,ι ⟨ι<|Rd.mono c.sub y,λp B=>?_⟩⟩;obtain⟨C,D⟩:=c.laid B;apply k p _ _ C<|u.trans D;rw[aV,jU r rs,qd]
 exact nO b
noncomputable def Bv:EF:=fun δ=>ac (.O<|.aX false [],δ)
def lb(i:Nat)(b:UF)(f:DF):SF:=fun δ=>(f δ).bind λp=>((p.2[i]?).bind ownOf).bind λ_=>(b p.2).bind λq=>((q.2[i]?).bind ownOf).bind λs=>match s.2 with
 | .aX _ a=>if a.length<eu then ac (.next<|q.2.set i<|kindAt s.1<|.aX false<|gy a q.1 p.1) else am
 | _=>am
def C4 (i:Nat)(M:X.A.units+1<vv)(O:X.N[i]?=ac x)(Q:cc X.env.scope x)(h:DD X e f)(R:iH X g r)(hd:bA x:=by decide)(u:cG x:=by decide)(hs:H9 e (ac<|.Subscript (.Name x m) g pt) pos.line X.env=pure false:=by rfl):b8 X (.Assign [.Subscript (.Name x m) g pt] e pos) (lb i r f):=by
 obtain⟨t,p,q⟩:=h;obtain⟨tk,T,U⟩:=R;refine⟨_,Fd M (eG O Q hd u) T p hs,λH0 ps δ σ H Hi o D e S k=>?_⟩;obtain⟨d,δ1,V,e⟩:=oB e;obtain⟨b0,c0,W,e⟩:=oB e;obtain⟨n,δ2,Y,e⟩:=oB e;obtain⟨io,c,B,e⟩:=oB e;dsimp only at e;split at e
 ·split at e
  ·rename_i Z;obtain rfl:=sO e;refine q H0 ps δ σ H Hi d δ1 _ V S λv H1 C F s1 r1=>?_;obtain⟨a,j,_⟩:=F.at<|kD W;refine⟨.ref a,j,U H0 ps δ1 σ H1 C _ δ2 _ Y F λy H2 G l I r2=>?_⟩;obtain⟨b,J,ob⟩:=l.at<|kD B;rw[j] at J;cases J;obtain⟨z,kvs,h1,L,h3⟩:=ob;refine⟨a,_,ρ,kJ.t h1 (l.sub _ _ r2) (by rw[cj.length L];exact Z),?_⟩;exact k σ _ G (l.write (kD B) j ⟨ρ,_,aV,cj.put n L<|Rep.mono I r1,h3⟩)<|s1.trans I
  exact nO e
 exact nO e
theorem SR.share(S:SR K H0 ps δ σ H Hi)(e:H b=ac (.U vs)):∃f,SR K H0 ps δ σ H f/\aj Hi f/\f b=ac (.U vs)/\∀q u,f q=ac u->Hi q=ac u\/∃vs,u=.U vs:=by
 cases z:Hi b with
 | some u=>have:=S.sub _ _ z;rw[e] at this;obtain rfl:=sO this;exact⟨Hi,S,aj.refl _,z,λ_ _ h=>ι h⟩
 | none =>
  have j:aj Hi (upd Hi b<|.U vs):=dS z;have ne:∀{q:eH}{c:Dat},cH K H Hi q c->q≠b:=λh y=>by subst y;exact h.nt e
  refine⟨_,⟨DU S.sub e,S.keep,S.eY,λi d h=>?_,λi c h=>?_,λi c h=>?_,S.ne,S.len,λq u h=>?_⟩,j,aV,λq u h=>?_⟩
  ·obtain⟨v,a,r⟩:=S.D i d h;exact⟨v,a,Rep.mono j r⟩
  ·obtain⟨q,a,o,k,l⟩:=S.O i c h;exact⟨q,a,o.keeps ρ j (by rw[au (ne o)];exact o.some.2),k,l⟩
  ·obtain⟨q,a,o,k⟩:=S.io i c h;exact⟨q,a,o.keeps ρ j (by rw[au (ne o)];exact o.some.2),k⟩
  ·by_cases g:q=b
   ·subst g;rw[aV] at h;cases h;exact τ<|τ ⟨vs,ρ⟩
   rw[au g] at h;exact S.nw q u h
  by_cases g:q=b
  ·subst g;rw[aV] at h;obtain rfl:=sO h;exact τ ⟨vs,ρ⟩
  rw[au g] at h;exact ι h
theorem SR.Dr (k:mU H kvs bs):∀{Hi:Hp},SR K H0 ps δ σ H Hi->∃a,SR K H0 ps δ σ H a/\aj Hi a/\mU a kvs bs/\∀q u,a q=ac u->Hi q=ac u\/∃vs,u=.U vs:=by
 induction k with
 | nil=>exact λS=>⟨_,S,aj.refl _,.nil,λ_ _ h=>ι h⟩
 | cons h _ c=>intro Hi S;obtain⟨H1,f,g,i,j⟩:=S.share h;obtain⟨l,m,b,k2,n⟩:=c f;exact⟨l,m,g.trans b,.cons (b _ _ i) k2,λq u e=>(n q u e).elim (j q u) τ⟩
def SR.hold (S:SR K H0 ps δ σ H Hi)(e:δ[i]?=ac (.O c))(n:σ[i]?=ac (ac<|.ref p))(r:Rep K (upd Hi p o) d' (.ref p)):SR K H0 ps (δ.set i<|.D d') σ (upd H p o) (upd Hi p o)/\aj Hi (upd Hi p o):=by
 obtain⟨p',m,D,F,G⟩:=S.O i _ e;rw[n] at m;cases m;have x:=(bt.1 e).1;have l:aj Hi (upd Hi p o):=dS D.some.2;have back:∀{j:Nat}{s:Slot},(δ.set i<|.D d')[j]?=ac s->(∀d,s≠.D d)->j≠i/\δ[j]?=ac s:=λ{j s} h I=>by
  by_cases f:j=i
  ·subst f;rw[ql x] at h;obtain rfl:=sO h;cases I _ ρ
  rw[n3 (Ne.symm f)] at h;exact⟨f,h⟩
 refine⟨⟨xU S.sub,λb u J L=>?_,λq y=>?_,λj d h=>?_,λj c h=>?_,λj c h=>?_,λj k c c' q M N=>?_,by rw[yv];exact S.len,λq u eq=>?_⟩,l⟩
 ·rw[au (λz=>by simp_all)];exact S.keep b u J L
 ·have B:q≠p:=λz=>F (z ▸ y);rw[au B];exact S.eY q y
 ·by_cases f:j=i;simp_all;rw[n3 (Ne.symm f)] at h;obtain⟨v,a,b⟩:=S.D j d h;exact⟨v,a,b.mono l⟩
 ·obtain⟨f,h⟩:=back h (by intro d z;contradiction);obtain⟨q,a,b,t,O⟩:=S.O j c h;have g:q≠p:=λz=>f<|S.ne j i _ _ p (ι h) (ι e) (z ▸ a) n;exact⟨q,a,b.keeps (au g) l (by rw[au g];exact b.some.2),t,O⟩
 ·obtain⟨f,h⟩:=back h (by intro d z;contradiction);obtain⟨q,a,b,t⟩:=S.io j c h;have g:q≠p:=λz=>f<|S.ne j i _ _ p (τ h) (ι e) (z ▸ a) n;exact⟨q,a,b.keeps (au g) l (by rw[au g];exact b.some.2),t⟩
 ·have Q:=M.imp (λz=>(back z ⋯).2) λz=>(back z ⋯).2;have R:=N.imp (λz=>(back z ⋯).2) λz=>(back z ⋯).2;exact S.ne j k c c' q Q R
 by_cases C:q=p
 ·subst C;exact τ<|ι G
 rw[au C] at eq;exact S.nw q u eq
def SR.held (S:SR K H0 ps δ σ H Hi)(n:cH K H Hi p c)(r:¬gA ps p)(t:H0.1 p=am)(nd:∀(i:Nat) (c':Dat),(δ[i]?=ac (.O c')\/δ[i]?=ac (.io c'))->σ[i]?≠ac (ac<|.ref p)):SR K H0 ps δ σ (upd H p o) (upd Hi p o)/\aj Hi (upd Hi p o):=by
 have f:aj Hi (upd Hi p o):=dS n.some.2;refine⟨⟨xU S.sub,λb u x y=>?_,λq k=>?_,λj d h=>?_,λj c h=>?_,λj c h=>?_,S.ne,S.len,λq u eq=>?_⟩,f⟩
 ·rw[au (λz=>by simp_all)];exact S.keep b u x y
 ·have l:q≠p:=λz=>r (z ▸ k);rw[au l];exact S.eY q k
 ·obtain⟨v,a,b⟩:=S.D j d h;exact⟨v,a,b.mono f⟩
 ·obtain⟨q,a,b,g,B⟩:=S.O j c h;have e:q≠p:=λz=>nd j c (ι h) (z ▸ a);exact⟨q,a,b.keeps (au e) f (by rw[au e];exact b.some.2),g,B⟩
 ·obtain⟨q,a,b,g⟩:=S.io j c h;have e:q≠p:=λz=>nd j c (τ h) (z ▸ a);exact⟨q,a,b.keeps (au e) f (by rw[au e];exact b.some.2),g⟩
 by_cases m:q=p
 ·subst m;exact τ<|ι t
 rw[au m] at eq;exact S.nw q u eq
noncomputable def jM(a:cT):List Dat:=a.map λk=>.U<|k.1.map .str
theorem FV:∀l:List eT,aA K H (l.map .str) (l.map V.str)
 | []=>rfl
 | x::l=>⟨_,_,ρ,ρ,FV l⟩
def BK (f:Hi p=ac (.bB o<|.dT kvs))(g:cj K Hi a kvs)(kb:mU Hi kvs bs):JW K (Ao p o kvs bs) (jM a) Hi:=by
 intro j H2 i;have hl:=cj.length g;have lk:(jM a).length=a.length:=by unfold jM;rw[ax]
 refine⟨λd c=>⟨⟨i _ _ f,?_⟩,λv H3 n=>ι ?_⟩,λh=>⟨i _ _ f,?_⟩⟩
 ·have:=(bt.1 c).1;omega
 ·obtain⟨rfl,b,q,rfl⟩:=n;refine⟨ρ,?_⟩;have k:j<a.length:=by have:=(bt.1 c).1;omega
  have l:kvs[j]?=ac kvs[j]:=bg ∅;have m:=Bu kb j _ _ l q;have e:(kvs.map (·.1))[j]?=ac kvs[j].1:=by rw[ez,l];rfl
  simp only[GP g,ez,bg k] at e;have e:=Option.some.inj e;unfold jM at c;simp only[ez,bg k] at c;obtain rfl:=sO c;rw[<-e,qd] at m;exact⟨b,_,ρ,bq.of m,FV _⟩
 omega
def zE(i:Nat):IF:=fun δ=>match δ[i]? with
 | some (.O<|.aX _ a)=>ac (jM a,δ.set i<|.D<|.aX true a)
 | _=>am
def u9(f:EF):IF:=fun δ=>(f δ).bind λp=>match p.1 with
 | .O (.aX _ a)=>ac (jM a,p.2)
 | _=>am
def mq(neg:Bool)(i:Nat)(b:UF):EF:=fun δ=>(b δ).bind λq=>((q.2[i]?).bind f').bind λc=>match c with
 | .aX _ a=>ac (.D<|.bl (if neg then !(cf a q.1).isSome else (cf a q.1).isSome),q.2)
 | _=>am
theorem uO (t:Top K H Hi v (.aX a b)):∃p kvs,v=.ref p/\Rd H p (.dT kvs)/\cj K Hi b kvs:=by
 obtain⟨p,o,kvs,e,c,f⟩:=t;refine⟨p,kvs,e,?_,f⟩;cases a with
 | false=>exact ι c
 | true=>exact τ ⟨o,c⟩
def wL (n:∀(H0:Hp×Hp) (ps:Nat->Option eH) (δ:DS) (σ:St) (H Hi:Hp) (l:List eT) (δ':DS) (Q:VK),j δ=ac (l,δ')->SR X.K H0 ps δ σ H Hi->(∀p f a,SR X.K H0 ps δ' σ f a->aj Hi a->a p=ac (.U<|(kT l).map kV)->Q (.ref p) f)->tk σ H Q)(H0)(ps)(δ)(σ)(H Hi)(o)(δ')(Q)(e:mq neg i j δ=ac (o,δ'))(S:SR X.K H0 ps δ σ H Hi)(k:∀v f a,SR X.K H0 ps δ' σ f a->aj Hi a->RR X.K H0 ps δ' σ f a v o->Q v f):lZ (pf neg) tk (kP i) σ H Q:=by
 obtain⟨l,δ1,q,e⟩:=oB e;dsimp only at e;obtain⟨c,r,e⟩:=oA e;split at e
 ·obtain⟨rfl,rfl⟩:=sP e;refine n H0 ps δ σ H Hi _ _ _ q S λb u m g x y=>?_;obtain⟨v,z,t⟩:=g.peek r;obtain⟨p,kvs,rfl,B,C⟩:=uO t;refine⟨_,z,p,_,ρ,τ ⟨kvs,kT l,b,B,ρ,g.sub _ _ y,ρ⟩,?_⟩;rw[C.has l];exact k _ u m g x ρ
 exact nO e
def Pn (f:X.A.units+1<vv)(g:X.N.findIdx? (·==x)=ac i)(j:cc X.env.scope x)(hd:bA x)(e:cG x)(hm:wy .In (.Name x b)=bv)(k:iH X a c):DE X (.Compare a [.In] [.Name x b] pos) (mq false i c):=by obtain⟨t,p,q⟩:=k;exact⟨_,Ax (xJ f) p (eG (dR g) j hd e) hm,wL q⟩
def wc (q:∀(H0:Hp×Hp) (ps:Nat->Option eH) (δ:DS) (σ:St) (H Hi:Hp) (o:Res) (δ':DS) (Q:VK),f δ=ac (o,δ')->SR X.K H0 ps δ σ H Hi->(∀v e a,SR X.K H0 ps δ' σ e a->aj Hi a->RR X.K H0 ps δ' σ e a v o->Q v e)->t σ H Q)(H0)(ps)(δ)(σ)(H Hi)(c)(δ')(Q)(b:eM f δ=ac (c,δ'))(S:SR X.K H0 ps δ σ H Hi)(k:∀e a,SR X.K H0 ps δ' σ e a->aj Hi a->Q c e):zw t σ H Q:=by
 obtain⟨r,δ1,i,b⟩:=oB b;dsimp only at b;split at b
 ·obtain⟨rfl,rfl⟩:=sP b;refine q H0 ps δ σ H Hi _ _ _ i S λv j g l m n=>?_;exact⟨_,n,k j g l m⟩
 exact nO b
def LQ (f:X.A.units+1<vv)(g:X.N.findIdx? (·==x)=ac i)(j:cc X.env.scope x)(hd:bA x)(e:cG x)(hm:wy .In (.Name x b)=bv)(k:iH X a c):DT X (.Compare a [.In] [.Name x b] pos) (eM<|mq false i c):=by obtain⟨t,p,q⟩:=k;exact⟨_,pE (xJ f) p (eG (dR g) j hd e) hm,wc<|wL q⟩
def PK (f:X.A.units+1<vv)(g:X.N.findIdx? (·==x)=ac i)(j:cc X.env.scope x)(hd:bA x)(e:cG x)(hm:wy .NotIn (.Name x b)=bv)(k:iH X a c):DT X (.Compare a [.NotIn] [.Name x b] pos) (eM<|mq true i c):=by obtain⟨t,p,q⟩:=k;exact⟨_,pE (Cc f) p (eG (dR g) j hd e) hm,wc<|wL q⟩
def vx:List Dat->Option Res
 | [.aX _ a]=>ac (.D<|.int (a.length:Int))
 | ds=>wz ds
def K7:CD X (λxs H Q=>yE X.K xs H Q\/(λxs H Q=>∃a kvs,xs=[V.ref a]/\Rd H a (.dT kvs)/\Q (.int kvs.length) H) xs H Q) vx:=by
 intro H0 ps δ σ H Hi vs ds o Q e S r k;delta vx at e;split at e
 ·obtain rfl:=sO e;obtain⟨v,vr,rfl,b,c⟩:=r;subst c;obtain⟨p,kvs,rfl,f,g⟩:=uO<|b.top S.sub;refine τ ⟨p,kvs,ρ,f,?_⟩;apply k _ H Hi S<|aj.refl _;show V.int _=V.int _;rw[cj.length g]
 exact ι<|IC H0 ps δ σ H Hi vs ds o Q e S r k
def J5 (a:Gl X "len")(hm:X.mg "len"=am)(b:bC X e [])(c:DA X [e] fa):DE X (.Call (.Name "len" p) [e] [] pos) (bV vx fa):=hV (bD.or Dq Eb) K7 a hm abk c ⋯ ρ b ρ
def KC (j:X.N.findIdx? (·==x)=ac i)(k:cc X.env.scope x)(l:X.A.units+1<vv)(hd:bA x)(g:cG x)(hs:H9 e (ac<|.Subscript (.Name x b) a pt) pos.line X.env=pure false)(h:DD X e f)(m:iH X a c):b8 X (.Assign [.Subscript (.Name x b) a pt] e pos) (lb i c f):=C4 i l (dR j) k h m hd g hs
structure g8 (x:eT):Prop where
 ok:True
def JM (ht:g8 x)(b:X.N.Nodup)(c:X.N.findIdx? (·==x)=ac i)(e:Loc X.env.scope x)(f:X.fn x=bi\/X.env.scope.names.lookup x=some .local)(hs:H9 (.Dict [] [] p) (ac<|.Name x a) pos.line X.env=pure false):b8 X (.Assign [.Name x a] (.Dict [] [] p) pos) (i6 i Bv):=v7 b c e f hs (by
  refine⟨_,Pj,λH0 ps δ σ H Hi r δ' Q a S k=>?_⟩
  obtain⟨rfl,rfl⟩:=sP a;exact λl hl=>k (.ref l) _ Hi (S.made hl) (aj.refl _) ⟨l,ρ,⟨ρ,_,aV,ρ,S.dg hl⟩,(S.bL hl).2,(S.bL hl).1,S.dJ hl⟩)
def CP(a b:eH):It:=⟨λi H=>∃xs ys x y,Rd H a (.L xs)/\Rd H b (.L ys)/\xs[i]?=ac x/\ys[i]?=ac y,λi H v c=>∃p x y,H p=am/\v=.ref p/\c=upd H p (.U [x,y])/\(∀xs,Rd H a (.L xs)->xs[i]?=ac x)/\∀ys,Rd H b (.L ys)->ys[i]?=ac y,λi H=>∃xs ys,Rd H a (.L xs)/\Rd H b (.L ys)/\(xs.length<=i\/ys.length<=i)⟩
def Ta{P:lq}{w:qh}{K:gW}{elts:List hQ}{x1:Nat}{Vt:z5}{a b z TI TO j l:eH}(D:ZipApart z TI TO j l a b) :
  Turn P w K (.Tuple elts x1 Vt) (CP a b) [z,TI,TO,j,l] z (λi h=>IsZip h z TI TO .none/\IsPair h TI (.ref j) (.ref l)/\(∃u v,IsPair h TO u v)/\h.IsListIter j a i/\h.IsListIter l b i) where
 mem:=⋯
 obj:=λi h st c p=>by
  obtain⟨G,J,⟨u,v,M⟩,⟨o1,e1,c1,d1⟩,⟨o2,e2,c2,d2⟩⟩:=st;simp at p;rcases p with rfl|rfl|rfl|rfl|rfl
  ·exact⟨_,G,λv z=>by contradiction⟩
  ·exact⟨_,J,λv z=>by contradiction⟩
  ·exact⟨_,M,λv z=>by contradiction⟩
  ·exact⟨o1,e1,λv z=>by rw[d1] at z;contradiction⟩
  exact⟨o2,e2,λv z=>by rw[d2] at z;contradiction⟩
 keep:=λi h h' st k=>⟨k z ⋯ _ st.1,k TI ⋯ _ st.2.1,st.2.2.1.imp λu e=>e.imp λv q=>k TO ⋯ _ q,st.2.2.2.1.at λo q=>k j ⋯ o q,st.2.2.2.2.at λo q=>k l ⋯ o q⟩
 item:=by
  intro X hP hw hK f i N s σ H E I L st hg;obtain⟨G,J,⟨u0,v0,M⟩,V,Y⟩:=st;obtain⟨xs,ys,x,y,Z,Q,hx,hy⟩:=hg;obtain⟨_,its,n,rv,ea⟩:=Z.ok I.aq;obtain⟨_,its',n',R,S⟩:=Q.ok I.aq;obtain⟨u,hu,ru⟩:=rv.get hx;obtain⟨u',VF,VG⟩:=R.get hy;have t:=L z ⋯;have B:=L TO ⋯;have C:=L j ⋯;have F:=L l ⋯;have lt:∀{c:eH}{o:C1},s.heap.get? c=ac o->c≠s.heap.objs.size:=λe=>ia<|gD e;refine wpAny_pyNext_zip_item D G J M V Y ⟨_,ea,ρ,n,ρ⟩ ⟨_,S,ρ,n',ρ⟩ (by simpa using hu) (by simpa using VF) λh3 g1 g2 g3 g4 g5 g6 g7=>?_;refine⟨_,ρ,wpAny_letOwnedTupleGo_zip g1 λT f1 O=>?_⟩;have O:aae z h3 T:=O;have fr:=I.aq.fresh<|ft _;have fL:∀c o,c≠z->c≠TO->c≠j->c≠l->s.heap.get? c=ac o->T.get? c=ac o:=λc o k1 k2 k3 k4 q=>(O.2 c k1).trans (g7 c o k1 k2 k3 k4 q);have ht:=(O.2 _<|Ne.symm<|lt G).trans g5;have g:∀{c:eH},c∉[z,TO,j,l]->c≠z/\c≠TO/\c≠j/\c≠l:=λ{c} h=>⟨λe=>h (by simp[e]),λe=>h (by simp[e]),λe=>h (by simp[e]),λe=>h (by simp[e])⟩;have gr:∀c w,H c=ac w->c≠z/\c≠TO/\c≠j/\c≠l:=λc w q=>⟨dH q t.1,dH q B.1,dH q C.1,dH q F.1⟩;have U:∀c w,H c=ac w->c≠s.heap.objs.size:=λc w q=>dH q fr;refine⟨.ref s.heap.objs.size,upd H s.heap.objs.size<|.U [x,y],?_,ρ,⟨_,x,y,fr,ρ,ρ,λzs G=>by rw[G.HH Z];exact hx,λzs G=>by rw[G.HH Q];exact hy⟩,⟨f1,?_,⟨u,u',(O.2 _ D.TOz).trans g2⟩,?_,?_⟩,λc p=>?_⟩
  ·show Inv X N σ (upd H s.heap.objs.size<|.U [x,y]) {s with heap:=T,gens:=s.gens,drawn:=s.drawn,toks:=s.toks};refine Inv.step I (λb p=>?_) (λb o _ _ f q _=>fL b o (g f).1 (g f).2.1 (g f).2.2.1 (g f).2.2.2 q) (λb o _ _ f q _=>⟨o.slots,fL b o (g f).1 (g f).2.1 (g f).2.2.1 (g f).2.2.2 q⟩)
    (λb o f q n=>by rw[au (ia<|gD q)];exact n) (λb o f q=>⟨o,fL b o (g f).1 (g f).2.1 (g f).2.2.1 (g f).2.2.2 q⟩) (λb ys q=>by rw[au (U b _ q)];exact q) (λb ob w q=>by rw[au (U b _ q)];exact q)
    (λb ps q=>⟨#[],by rw[au (U b _ q),q];simp⟩) (λm hm=>?_) (λb w q=>?_) I.bare
   ·simp at p;rcases p with rfl|rfl|rfl|rfl
    ·exact⟨t.2.2.2.1,t.2.1,t.2.2.2.2.1,t.2.2.2.2.2⟩
    ·exact⟨B.2.2.2.1,B.2.1,B.2.2.2.2.1,B.2.2.2.2.2⟩
    ·exact⟨C.2.2.2.1,C.2.1,C.2.2.2.2.1,C.2.2.2.2.2⟩
    exact⟨F.2.2.2.1,F.2.1,F.2.2.2.2.1,F.2.2.2.2.2⟩
   ·obtain⟨o,es,ep,ho,r⟩:=hm;exact⟨o,es,ep,fL _ o (Ne.symm t.2.1) (Ne.symm B.2.1) (Ne.symm C.2.1) (Ne.symm F.2.1) ho,r⟩
   by_cases p:b=s.heap.objs.size
   ·subst p;rw[aV] at q;obtain rfl:=sO q;exact⟨by show 2<=eu;unfold eu;decide,[u,u'],.cons ru<|.cons VG .nil,_,ht,rfl,_,rfl⟩
   rw[au p] at q;refine (I.aq b w q).gw (λc v f r=>?_) (λc r=>by rw[au (U c _ r)];exact r) λc ys r=>by rw[au (U c _ r)];exact r
   rcases f with rfl|f
   ·exact fL c v (gr _ _ q).1 (gr _ _ q).2.1 (gr _ _ q).2.2.1 (gr _ _ q).2.2.2 r
   exact fL c v (gr _ _ f).1 (gr _ _ f).2.1 (gr _ _ f).2.2.1 (gr _ _ f).2.2.2 r
  ·exact fL TI _ D.TIz D.TITO D.TIi1 D.TIi2 J
  ·exact g3.at λo q=>(O.2 _ D.i1z).trans q
  ·exact g4.at λo q=>(O.2 _ D.i2z).trans q
  have VI:c≠s.heap.objs.size:=by
   obtain⟨o1,e1,_⟩:=V;obtain⟨o2,e2,_⟩:=Y;simp at p;rcases p with rfl|rfl|rfl|rfl|rfl
   ·exact lt G
   ·exact lt J
   ·exact lt M
   ·exact lt e1
   exact lt e2
  rw[au VI];exact (L c p).1
 done:=by
  intro X hP hw hK f i N s σ H E I L st hg;obtain⟨G,J,⟨u0,v0,M⟩,V,Y⟩:=st;obtain⟨xs,ys,Z,Q,hl⟩:=hg;obtain⟨_,its,n,rv,ea⟩:=Z.ok I.aq;obtain⟨_,its',n',R,S⟩:=Q.ok I.aq;have l1:=rv.length;have l2:=R.length;refine wpAny_pyNext_zip_end (I.ok.hd f) D G J M V Y ⟨_,ea,ρ,n,ρ⟩ ⟨_,S,ρ,n',ρ⟩ (hl.imp (λz=>by simp;lia) λz=>by simp;lia) λh' k=>?_;have t:=L z ⋯;have B:=L TO ⋯;have C:=L j ⋯;have F:=L l ⋯;have fL:∀c o,c≠z/\c≠TO/\c≠j/\c≠l->s.heap.get? c=ac o->h'.get? c=ac o:=λc o q e=>k c o q.1 q.2.1 q.2.2.1 q.2.2.2 e;have g:∀{c:eH},c∉[z,TO,j,l]->c≠z/\c≠TO/\c≠j/\c≠l:=λ{c} h=>⟨λe=>h (by simp[e]),λe=>h (by simp[e]),λe=>h (by simp[e]),λe=>h (by simp[e])⟩;have gr:∀c w,H c=ac w->c≠z/\c≠TO/\c≠j/\c≠l:=λc w q=>⟨dH q t.1,dH q B.1,dH q C.1,dH q F.1⟩;refine⟨ρ,?_⟩;show Inv X N σ H {s with heap:=h',gens:=s.gens,drawn:=s.drawn,toks:=s.toks};refine Inv.step I (λb p=>?_) (λb o _ _ f q _=>fL b o (g f) q) (λb o _ _ f q _=>⟨o.slots,fL b o (g f) q⟩)
   (λ_ _ _ _ n=>n) (λb o f q=>⟨o,fL b o (g f) q⟩) (λ_ _ q=>q) (λ_ _ _ q=>q) (λb ps q=>⟨#[],by rw[q];simp⟩) (λm hm=>?_) (λb w q=>?_) I.bare
  ·simp at p;rcases p with rfl|rfl|rfl|rfl
   ·exact⟨t.2.2.2.1,t.2.1,t.2.2.2.2.1,t.2.2.2.2.2⟩
   ·exact⟨B.2.2.2.1,B.2.1,B.2.2.2.2.1,B.2.2.2.2.2⟩
   ·exact⟨C.2.2.2.1,C.2.1,C.2.2.2.2.1,C.2.2.2.2.2⟩
   exact⟨F.2.2.2.1,F.2.1,F.2.2.2.2.1,F.2.2.2.2.2⟩
  ·obtain⟨o,es,ep,ho,r⟩:=hm;exact⟨o,es,ep,fL _ o ⟨Ne.symm t.2.1,Ne.symm B.2.1,Ne.symm C.2.1,Ne.symm F.2.1⟩ ho,r⟩
  refine (I.aq b w q).gw (λc v f r=>?_) (λc r=>r) λc ys r=>r;rcases f with rfl|f
  ·exact fL c v (gr _ _ q) r
  exact fL c v (gr _ _ f) r
 self:=λ_ _ _ _ _ st h=>afU st.1 h
def Ru:ZL "zip"=ac (.type "zip"):=by decide +kernel
def Km(e:TA):TI:=fun σ H R=>e σ H λvs c=>∃a b xs ys,vs=[.ref a,.ref b]/\Rd c a (.L xs)/\Rd c b (.L ys)/\R (CP a b) c
def Qy (y:Gl X "zip")(hm:X.mg "zip"=am)(z:PA X [a,b] l)(hs:bC X a [b])(m:(Hz pos<|ma [b] X.env).any (·.1)=bv):PI X (.Tuple elts x j) (.Call (.Name "zip" p) [a,b] [] pos) (Km l):=by
 refine λk s σ H R I h=>Call_<|nP I y hm Ru<|aaa (aI (z pos k s σ H _ I h) λus f e=>?_) hs m;obtain⟨vs,B,g,C,D⟩:=e;obtain⟨a,b,xs,ys,rfl,F,o,q⟩:=D;obtain⟨u,u',rfl,G,r⟩:=C.two;subst G;subst r;obtain⟨_,its,n,rv,e⟩:=F.ok g.aq;obtain⟨_,its',J,rv',t⟩:=o.ok g.aq;refine call_zip_2 ⟨_,e,ρ,n,ρ⟩ ⟨_,t,ρ,J,ρ⟩ λh' k1 k2 k3 L k5 k6 M=>afU k1 ?_;refine⟨_,[f.heap.objs.size+4,f.heap.objs.size+2,f.heap.objs.size+3,f.heap.objs.size,f.heap.objs.size+1],_,_,B,ρ,g.kept M,Ta<|zipApart_new (gD e)<|gD t,⟨k1,k2,⟨_,_,k3⟩,L,k5⟩,λc v=>?_,q⟩;have i:f.heap.objs.size<=c:=by
  simp at v;rcases v with rfl|rfl|rfl|rfl|rfl
  ·exact aax _ _
  ·exact aax _ _
  ·exact aax _ _
  ·exact ft _
  exact aax _ _
 exact g.mi i<|g.aq.fresh i
noncomputable def k8(a bs:List Dat):List Dat:=(a.zip bs).map λp=>.U [p.1,p.2]
def ui(fa:AF):IF:=fun δ=>(fa δ).bind λp=>match p.1 with
 | [.L a,.L bs]=>ac (k8 a bs,p.2)
 | _=>am
theorem RL{elts:List hQ}{O:Nat}{C p:z5}{a b:hQ}{fa:AF}(Q:Gl X "zip")(hm:X.mg "zip"=am)(hs:bC X a [b])(F:(Hz pos<|ma [b] X.env).any (·.1)=bv)(T:DA X [a,b] fa):dy X (.Tuple elts O C) (.Call (.Name "zip" p) [a,b] [] pos) (ui fa):=by
 obtain⟨t,U,q⟩:=T;refine⟨_,Qy Q hm U hs F,fun H0 ps δ σ H Hi items δ' R c S k=>?_⟩;obtain⟨e,δ1,V,c⟩:=oB c;dsimp only at c;split at c
 ·rename_i e bs;obtain⟨rfl,rfl⟩:=sP c;refine q H0 ps δ σ H Hi _ _ _ V S fun vs W G D Y Z=>?_;obtain⟨v,vr,rfl,⟨a',l,rfl,m,rs⟩,v',vr',rfl,⟨b',f,rfl,g,B⟩,rn⟩:=Z;subst rn;have hl:=rs.length;have hl':=B.length;have lz:(k8 e bs).length=min e.length bs.length:=by simp[k8]
  refine⟨a',b',l,f,ρ,Rd.mono D.sub m,Rd.mono D.sub g,k _ W G D Y fun i H2 j=>⟨fun d o=>?_,fun hle=>⟨l,f,Rd.mono j m,Rd.mono j g,?_⟩⟩⟩
  ·have hi:i<min e.length bs.length:=by rw[<-lz];exact (bt.1 o).1
   have I:i<e.length:=∅
   have J:i<bs.length:=∅
   have L:d=.U [e[i],bs[i]]:=by unfold k8 at o;rw[ez,(HT (z:=(e[i],bs[i]))).2 ⟨bg I,bg J⟩] at o;exact (Option.some.inj o).symm
   subst L;obtain⟨x,ex,rx⟩:=rs.get<|bg I;obtain⟨y,M,ry⟩:=B.get<|bg J;refine⟨⟨l,f,x,y,Rd.mono j m,Rd.mono j g,ex,M⟩,fun v H3 yl=>τ ?_⟩;obtain⟨p,x',y',hp,rfl,rfl,r,u⟩:=yl;have r:=r l<|Rd.mono j m;have u:=u f<|Rd.mono j g;rw[ex] at r;rw[M] at u;obtain rfl:=sO r;obtain rfl:=sO u;exact⟨p,_,hp,ρ,fun Hi' N n=>⟨p,_,ρ,bq.of aV,_,_,ρ,(rx.mono N).mono (dS n),_,_,ρ,(ry.mono N).mono (dS n),ρ⟩⟩
  lia
 exact nO c
theorem vh:∀{a:List eT}{us:List dk},aJ (a.map V.str) us->ab1 us a
 | [],_,h=>by cases h;exact .nil
 | x::a,_,h=>by
  cases h with
  | cons r t=>obtain⟨k,e⟩:=(r);subst e;exact .cons x k<|vh t
def uE:List V->Hp->VK->Prop:=λxs H Q=>∃p a,xs=[.ref p]/\Rd H p (.L<|a.map V.str)/\a.length<64/\∀l,H l=am->Q (.ref l) (upd H l<|.L<|(bj a).map V.str)
def Gp:bD X (.builtin "sorted") uE:=by
 intro pins s σ H xs us Q I r h;obtain⟨p,f,rfl,k,h64,q⟩:=h;obtain⟨u,rfl,m⟩:=r.one;subst m;obtain⟨z,its,n,g,e⟩:=k.ok I.aq;have b:=vh g;have hl:its.length<64:=by have:=g.length;simp_all
 refine sortedK aep ⟨_,e,ρ,n,ρ⟩ b.keysOf (λv₁ v₂ rest e=>aeU (by rw[<-e];exact b)) hl λi t hs=>?_;obtain⟨ss',j,v,x⟩:=yh b t hs;obtain⟨c,hD⟩:=sortedAll_at s.heap its ((afg i).map (·.2));rw[vj v x] at j;have y:((bj f).map V.str).length<=sizeLine:=by simp_all [bj]
 exact⟨.ref<|s.heap.objs.size+1,_,I.laid (o:=.L<|(bj f).map V.str) (λ_ _=>ag4) (aa9 _) ⟨y,_,c,xm j,∅⟩,ρ,q _<|I.aq.fresh<|aa9 _⟩
def xM:List Dat->Option Res
 | [.L ds]=>match dq ds with
  | some a=>if a.length<64 then ac (.O<|.L<|(bj a).map .str) else am
  | none=>nQ [.L ds]
 | ds=>nQ ds
theorem M3:CD X (fun xs H Q=>(fun xs H Q=>uM X.K xs H Q\/u3 xs H Q) xs H Q\/uE xs H Q) xM:=by
 intro H0 ps δ σ H Hi vs ds o Q a S r k;delta xM at a;split at a
 ·split at a
  ·rename_i b c;split at a
   ·rename_i e;obtain rfl:=sO a;obtain⟨v,vr,rfl,⟨p,ws,rfl,f,rs⟩,g⟩:=r;subst g;have i:=jU c rs;subst i;refine τ ⟨p,b,ρ,Rd.mono S.sub f,e,fun l hl=>?_⟩;exact k (.ref l) _ Hi (S.made hl) (aj.refl _) ⟨l,ρ,⟨_,aV,lO _,S.dg hl⟩,(S.bL hl).2,(S.bL hl).1,S.dJ hl⟩
   exact nO a
  exact ι<|Ez H0 ps δ σ H Hi vs _ o Q a S r k
 exact ι<|Ez H0 ps δ σ H Hi vs _ o Q a S r k
noncomputable def zr:List Dat->Option Res
 | [.L ds]=>ac (.O<|.L ds)
 | [.U ds]=>ac (.O<|.L ds)
 | _=>am
def QX (a:Gl X "list")(hm:X.mg "list"=am)(b:bC X e [])(c:DA X [e] fa):DE X (.Call (.Name "list" p) [e] [] pos) (bV zr fa):=vm Ce (by
  intro H0 ps δ σ H Hi vs ds o Q e S r k;delta zr at e;split at e
  ·cases e;obtain⟨v,g,rfl,⟨a,b,rfl,c,rs⟩,f⟩:=r;cases f;refine⟨a,b,ρ,ι<|ι<|Rd.mono S.sub c,λl hl=>?_⟩;exact k (.ref l) _ Hi (S.made hl) (aj.refl _) ⟨l,ρ,⟨_,aV,rs,S.dg hl⟩,(S.bL hl).2,(S.bL hl).1,S.dJ hl⟩
  ·cases e;obtain⟨v,g,rfl,⟨a,b,rfl,c,rs⟩,f⟩:=r;cases f;refine⟨a,b,ρ,τ<|bq.mono S.sub c,λl hl=>?_⟩;exact k (.ref l) _ Hi (S.made hl) (aj.refl _) ⟨l,ρ,⟨_,aV,rs,S.dg hl⟩,(S.bL hl).2,(S.bL hl).1,S.dJ hl⟩
  exact nO e) a hm (by decide +kernel) c ⋯ ρ b ρ
def Um (v:s.heap.get? a=ac o)(x:o.cls=.type "tuple")(y:o.data=.seq vs.toArray n)(i:ab1 vs l)(p:vs.length<64)(q:∀(f j:pq) (c:Nat) (g:List dk),(∀b ob,s.heap.get? b=ac ob->f.get? b=ac ob)->(∀b ob,f.get? b=ac ob->j.get? b=ac ob)->j.get? f.objs.size=ac (aaT "list" g.toArray c)->ab1 g (bj l)->Q (.ref f.objs.size) {s with heap:=j}):ka (k7 prog w) A (call (.builtin "sorted") [.ref a]) Q E s:=by refine abv kind_sorted plain_sorted entry_sorted (args_sorted1 _) ?z;delta aa1.«sorted»;refine ey<|gi<|ey<|wpAny_collect_seq a (τ ρ) v x y (λf k1=>?I) (by simp;rw[KX];omega);refine ey<|aeh ?J;have k:(f.push<|aaT "list" vs.toArray 0).get? f.objs.size=ac (aaT "list" vs.toArray 0):=lD _ ρ;refine ey<|sj<|ZP ad5 ⟨_,k,ρ⟩ adL (agz aep k i.keysOf (λv₁ v₂ rest e=>aeU (by rw[<-e];exact i)) p λr B C=>⟨_,ρ,?L⟩)<|ad6 _;obtain⟨ss',t,D,F⟩:=yh i B C;obtain⟨c,hD⟩:=ag3 k;rw[vj D F] at t;refine gi ⟨_,ρ,q f _ c _ k1 (λb ob e=>?M) ∅ t⟩;have G:=ia<|gD e;have u:(f.push<|aaT "list" vs.toArray 0).get? b=ac ob:=fA _ e;exact (agT G<|gD u).trans u
def yc(K:gW):List V->Hp->VK->Prop:=λxs H Q=>∃p a,xs=[.ref p]/\bq K H p (a.map V.str)/\a.length<64/\∀l,H l=am->Q (.ref l) (upd H l<|.L<|(bj a).map V.str)
def Ep:bD X (.builtin "sorted") (yc X.K):=by
 intro pins s σ H xs us Q I r h;obtain⟨p,b,rfl,i,h64,q⟩:=h;obtain⟨u,rfl,j⟩:=r.one;subst j;obtain⟨its,e,⟨o,k,l,n,m⟩,_⟩:=I.tuple i;have t:=vh e;have hl:its.length<64:=by have:=e.length;simp_all
 refine Um k l m t hl λf g2 c vs' k1 k2 v x=>?_;have g:=I.kept (t':=s.toks) k1;have y:((bj b).map V.str).length<=sizeLine:=by simp_all [bj]
 exact⟨.ref f.objs.size,_,g.laid (o:=.L<|(bj b).map V.str) k2 (ft _) ⟨y,_,c,xm x,v⟩,ρ,q _<|g.aq.fresh<|ft _⟩
def lL:List Dat->Option Res
 | [.U ds]=>(dq ds).bind λa=>if a.length<64 then ac (.O<|.L<|(bj a).map .str) else am
 | ds=>xM ds
theorem U1:CD X (fun xs H Q=>((fun xs H Q=>uM X.K xs H Q\/u3 xs H Q) xs H Q\/uE xs H Q)\/yc X.K xs H Q) lL:=by
 intro H0 ps δ σ H Hi vs ds o Q a S r k;delta lL at a;split at a
 ·obtain⟨b,c,a⟩:=oA a;split at a
  ·rename_i e;obtain rfl:=sO a;obtain⟨v,vr,rfl,⟨p,ws,rfl,f,rs⟩,g⟩:=r;subst g;have i:=jU c rs;subst i;refine τ ⟨p,b,ρ,bq.mono S.sub f,e,fun l hl=>?_⟩;exact k (.ref l) _ Hi (S.made hl) (aj.refl _) ⟨l,ρ,⟨_,aV,lO _,S.dg hl⟩,(S.bL hl).2,(S.bL hl).1,S.dJ hl⟩
  exact nO a
 exact ι<|M3 H0 ps δ σ H Hi vs _ o Q a S r k
def Ai (a:X.ex=[])(b:X.calm=bi)(c:Gl X "sorted")(hm:X.mg "sorted"=am)(f:bC X e [])(g:DA X [e] fa):DE X (.Call (.Name "sorted" p) [e] [] pos) (bV lL fa) :=
 hV (bD.or (bD.or (bD.or (Ml a)<|OM a b) Gp) Ep) U1 c hm (by decide +kernel) g ⋯ rfl f rfl
def Rw(te:TE):TE:=fun σ H Q=>te σ H λv a=>∃d kvs,v=.ref d/\a d=ac (.dK kvs)/\∀o,Q v<|upd a d<|.bB o<|.dK kvs
def MP (c:PE X e te):PE X e (Rw te):=by refine λa s σ H Q I h=>aI (c a s σ H _ I h) λv s1 e=>?_;obtain⟨y,H1,b,f,g⟩:=e;obtain⟨d,kvs,rfl,hd,q⟩:=g;obtain⟨z,lo,vs,kv,o,es,ep,ho,rest⟩:=b.aq d _ hd;exact⟨.ref d,_,b.bB hd ho,f,q o⟩
structure tH (x:eT):Prop where
 ok:True
noncomputable def pA(f:EF):EF:=fun δ=>(f δ).bind λp=>match p.1 with
 | .O (.a8 a)=>ac (.D<|.fu a,p.2)
 | _=>am
def SO (ht:tH x)(b:X.N.Nodup)(c:X.N.findIdx? (·==x)=ac i)(g:Loc X.env.scope x)(j:X.fn x=bi\/X.env.scope.names.lookup x=some .local)(hs:H9 e (ac<|.Name x a) pos.line X.env=pure false)(h:DE X e f):b8 X (.Assign [.Name x a] e pos) (i6 i<|pA f):=v7 b c g j hs ((λh=>by
  obtain⟨t,p,q⟩:=h;refine⟨_,MP p,λH0 ps δ σ H Hi r δ' Q a S k=>?_⟩;obtain⟨r1,δ1,g,a⟩:=oB a;dsimp only at a;split at a
  ·obtain⟨rfl,rfl⟩:=sP a;refine q H0 ps δ σ H Hi _ _ _ g S λv H1 Hi1 i j l=>?_;obtain⟨p,rfl,b,m,n,nd⟩:=l;obtain⟨kvs,u,x,np⟩:=id b;refine⟨p,kvs,ρ,u,λo=>?_⟩;obtain⟨y,c⟩:=i.held b m n nd;exact k _ _ _ y (j.trans c) ⟨p,o,kvs,ρ,aV,x.mono c⟩
  exact nO a) h)
noncomputable def pP:Dat->Dat->Option Res
 | .int i,.int j=>ac (.D<|.bl<|bd<|i<j)
 | .str x,.str y=>ac (.D<|.bl<|bd<|x.cps.toList<y.cps.toList)
 | _,_=>am
def Bn:fW X (λx y H Q=>(iK λi j=>.bl<|bd<|i<j) x y H Q\/(λx y H Q=>∃i j,x=.str i/\y=.str j/\Q (.bl<|bd<|i.cps.toList<j.cps.toList) H) x y H Q) pP:=by
 intro H0 ps δ σ H Hi x y d d' o Q e S a b k;delta pP at e;split at e
 ·cases e;subst a;subst b;exact ι ⟨_,_,ρ,ρ,k _ H Hi S (aj.refl _) ρ⟩
 ·obtain rfl:=sO e;subst a;subst b;exact τ ⟨_,_,ρ,ρ,k _ H Hi S (aj.refl _) ρ⟩
 exact nO e
def Mz (c:DD X a f)(e:DD X b g):DE X (.Compare a [.Lt] [b] pos) (cO pP f g):=tY (bc.or EX Dx) Bn c e<|lK _
def Qr (c:DD X a f)(e:DD X b g):DT X (.Compare a [.Lt] [b] pos) (eM<|cO pP f g):=mz (bc.or EX Dx) Bn c e<|lK _
end
section
open Sem (wp)
section
variable{prog:lq}{w:qh}{A:pk}{E:dk->eK->Prop}{β:Type}
theorem BN:∀(m k j:Nat),j<m->(∀i,k<=i->i<k+j->∀R:ForInStep β->eK->Prop,R (.yield b) s->ka (k7 prog w) A (f i b) R E s)->(∀R:ForInStep β->eK->Prop,R (.done r) s'->ka (k7 prog w) A (f (k+j) b) R E s)->Q r s' ->
  ka (k7 prog w) A (forIn (List.range' k m) b f) Q E s
 | 0,_,_,h,_,_,_=>absurd h (Dl _)
 | m+1,k,0,h,_,hd,q=>by exact ey (hd _<|gi q)
 | m+1,k,j+1,h,a,hd,q=>by rw[ae2,aca];refine ey<|a k (ft _) ⋯ _ ?_;exact BN m (k+1) j (by lia) (λi h1 h2=>a i (by lia) (by lia)) (by rw[show k+1+j=k+(j+1) from by lia];exact hd) q
end
section
variable{prog:lq}{w:qh}{A:pk}{E:dk->eK->Prop}{h:pq}{g:Array ach}{d:Drawn}{t:Nat}{os:OsState}
def Ln{l:eH}{its:Array dk}{n j:Nat}{x:eT}{tx:Tok}{a:List eT}{Q:Fin->eK->Prop}{o:C1}(hl:h.get? l=ac o)(f:o.cls=.type "tuple")(hd:o.data=.seq its n)(k:ab1 its.toList a)(p:a[j]?=ac x)(s:∀i,i<j->a[i]?≠ac x)
 (q:Q (.done<|.ret<|.int (j:Int) t) ⟨h,g,d,t+1,os⟩) :
  ka (k7 prog w) A (aa1.«tuple.index» ⟨[.ref l,.str x tx],[]⟩) Q E ⟨h,g,d,t,os⟩:=by
 obtain⟨cl,a8,D,sl⟩:=o;subst f hd;have len:a.length=its.size:=by rw[<-k.strs];simp
 have v:j<its.size:=by have:=(bt.1 p).1;omega
 have at_:∀i (b:i<its.size),∃y u,its[i]?=ac (ZR y u)/\a[i]?=ac y:=λi b=>by obtain⟨y,u,e⟩:=k.all its[i] ⋯;refine⟨y,u,by rw[me b,e],?_⟩;simp only[<-k.strs,ez,hH,me b,e];rfl
 unfold aa1.«tuple.index»;simp only[afk]
 repeat (any_goals (first|assumption|(with_reducible refine BN (r:=(ac<|.done<|.ret<|.int (j:Int) t,())) (s':=⟨h,g,d,t+1,os⟩) _ _ j ?B ?C ?D ?F)|wp_step))
 case B=>simp[afj];omega
 case C=>intro i _ b R r;obtain⟨y,u,m,c⟩:=at_ i (by lia);rw[m];refine ey<|abb ?_;rw[decide_eq_false (λz=>s i (by lia) (by simp only[c,z])),if_neg xr];exact gi r
 intro R r;rw[ZE];obtain⟨y,u,m,c⟩:=at_ j v;rw[p] at c;obtain rfl:=sO c;rw[m];refine ey<|abb ?_;rw[decide_eq_true ρ,if_pos ρ];refine ey ?_;unfold retInt;exact ey<|wpAny_mkInt<|gi<|gi r
end
end
section
variable{X:Cx}
def RB(K:gW):V->List V->Hp->VK->Prop:=λx vs H Q=>∃(p:eH) (a:List eT) (y:eT) (j:Nat),x=.ref p/\vs=[.str y]/\bq K H p (a.map V.str)/\a[j]?=ac y/\(∀i,i<j->a[i]?≠ac y)/\Q (.int (j:Int)) H
def Jq:pS X "tuple.index" (RB X.K):=by intro pins s σ H x vs v us Q I d e h;obtain⟨p,ss,y,j,rfl,rfl,f,g,i,q⟩:=h;subst d;obtain⟨u,rfl,k⟩:=e.one;obtain⟨t,rfl⟩:=(k);obtain⟨its,a,⟨o,b,c,n,l⟩,_⟩:=I.tuple f;refine ZP ad2 ⟨_,b,c⟩ F.entry_tuple_index ?_<|F.args_tuple_index_2 _ _;exact Ln b c l (vh a) g i ⟨_,ρ,.int (j:Int),H,I.tok _,⟨_,ρ⟩,q⟩
structure wO (K:gW) (mg:eT->Option dk) (x:eT) (ss:List eT):Prop where
 is:∃(p:eH) (o:C1) (its:Array dk) (n:Nat),mg x=ac (.ref p)/\K.lookup p=ac o/\o.cls=.type "tuple"/\o.dict=am/\o.data=.seq its n/\its.size<=eu/\aJ (ss.map V.str) its.toList
noncomputable def Hl(a:List eT)(fa:AF):DF:=fun δ=>(fa δ).bind λq=>match q.1 with
 | [.str y]=>if y∈a then ac (.int ((a.idxOf y:Nat):Int),q.2) else am
 | _=>am
theorem Fi{b:List eT}{y:eT}(h:y∈b):b[b.idxOf y]?=ac y/\∀i,i<b.idxOf y->b[i]?≠ac y:=by
 induction b with
 | nil=>contradiction
 | cons a r d =>
  by_cases e:a=y
  ·subst e;rw[List.idxOf_cons_self];exact⟨ρ,λi f=>absurd f<|Dl _⟩
  have h:y∈r:=by
   rcases hO.1 h with rfl|h
   ·exact absurd ρ e
   exact h
  have g:(a::r).idxOf y=r.idxOf y+1:=by
   have c:(a==y)=bv:=by
    cases c:a==y with
    | false=>rfl
    | true=>exact absurd (eq_of_beq c) e
   rw[List.idxOf_cons,c];rfl
  rw[g];refine⟨by simpa using (d h).1,λi f=>?_⟩;cases i with
  | zero=>simpa using e
  | succ i=>simpa using (d h).2 i (by lia)
def Qu (g:wO X.K X.mg x f)(A:Gl X x)(hd:bA x)(i:Z' (.Name x h) "index" X.env (eval (.Name x h) X.env)=eval (.Name x h) X.env)(l:qz X pos e)(j:(c.endLine==pos.line)=bi)(hs:bC X e [])(B:DA X [e] fa):DD X (.Call (.Attribute (.Name x h) "index" c) [e] [] pos) (Hl f fa):=by
 obtain⟨t,p,q⟩:=B;obtain⟨a,o,its,n,m,r,s,C,D,E,G⟩:=g.is;refine⟨_,uf PySem.F.plainAttrs_tuple ad2 PySem.F.type_tuple_index Jq (jP (v:=.ref a) A m ρ hd) p i l j hs ρ,λI J δ L H M d δ' Q b S k=>?_⟩;obtain⟨as,δ2,m,b⟩:=oB b;dsimp only at b;split at b
 ·split at b
  ·rename_i y u;obtain⟨rfl,rfl⟩:=sP b;refine⟨τ<|ι ⟨ρ,o,r,s,C⟩,q I J δ L H M _ _ _ m S λvs N w O P R=>?_⟩;obtain⟨z,yr,rfl,T,U⟩:=R;subst U;subst T;exact⟨a,f,y,f.idxOf y,ρ,ρ,τ ⟨o,its,n,r,s,D,E,G⟩,(Fi u).1,(Fi u).2,k _ N w O P ρ⟩
  exact nO b
 exact nO b
noncomputable def mo:Nat:=1000
def Uu (a:acL (k7 X.prog X.w) X.A X.env X.xe)(b:DT X c fc)(d:fJ X body fb):b8 X (.While c body [] pos) (gB fc fb mo):=Jo mo a b d
def IZ (ht:g8 x)(d:X.N.findIdx? (·==x)=ac i)(e:cc X.env.scope x)(hd:bA x)(a:cG x):dy X b (.Name x c) (zE i):=(λt u hd j=>by
  refine⟨_,CB<|eG (dR t) u hd j,λH0 ps δ σ H Hi items δ' R a S k=>?_⟩;unfold zE at a;split at a
  ·rename_i fz v e;obtain⟨rfl,rfl⟩:=sP a;obtain⟨p,c,⟨_,kvs,y,l,np⟩,nl,n0⟩:=S.O i _ e;refine⟨_,c,p,kvs,ρ,y,λo bs kb=>?_⟩;obtain⟨H1,m,f,k1,_⟩:=S.Dr kb;obtain⟨p',b,⟨_,kvs',hp',rk',n⟩,_⟩:=m.O i _ e;rw[c] at b;cases b;have g:=dS (o:=.bB o<|.dT kvs) n;obtain⟨B,C⟩:=m.hold (d':=.aX true v) e c ⟨p,o,kvs,ρ,aV,(l.mono f).mono g⟩;exact k _ _ _ B (f.trans C)<|BK aV ((l.mono f).mono g) (Paired.qP k1 λ_ _ z=>g _ _ z)
  exact nO a) d e hd a
theorem Jg (ht:g8 g)(h:DE X (.Call (.Name g p) a [] pos) f):dy X b (.Call (.Name g p) a [] pos) (u9 f):=(λh=>by
  obtain⟨t,x,q⟩:=h;refine⟨_,CB x,λH0 ps δ σ H Hi items δ' R a S k=>?_⟩;unfold u9 at a;obtain⟨r,δ1,B,a⟩:=oB a;dsimp only at a;split at a
  ·rename_i C D;obtain⟨rfl,rfl⟩:=sP a;refine q H0 ps δ σ H Hi _ _ _ B S λv F Hi1 G I J=>?_;obtain⟨p,rfl,i,L,M,nd⟩:=J;obtain⟨_,kvs,N,O,np⟩:=id i;refine⟨p,kvs,ρ,N,λo bs kb=>?_⟩;obtain⟨c,j,g,k2,Q⟩:=G.Dr kb;have b:c p=am:=by
    cases z:c p with
    | none=>rfl
    | some u=>rcases Q p u z with y|⟨ts,y⟩;simp_all;have t:=j.sub _ _ z;simp_all
   have l:=i.keeps ρ g b;have m:=dS (o:=.bB o<|.dT kvs) b;obtain⟨T,U⟩:=j.held l L M nd;exact k _ _ _ T ((I.trans g).trans U)<|BK aV ((O.mono g).mono m) (Paired.qP k2 λ_ _ z=>m _ _ z)
  exact nO a) h
end
section
variable{X:Cx}{e k:hQ}{te tk:TE}{p2 pos:z5}
def PV(K:gW):V->Hp->VK->Prop:=λx H Q=>∃a xs,x=.ref a/\cg K H a xs/\∀p,H p=am->Q (.ref p) (upd H p<|.L xs.reverse)
def Iv(K:gW)(te tk:TE):TE:=λa H Q=>te a H λx b=>tk a b λi c=>i=.int (-1)/\PV K x c Q
theorem aJ.rev (h:aJ xs vs):aJ xs.reverse vs.reverse:=by
 induction h with
 | nil=>exact .nil
 | cons a b c=>simp only[aak,aak];exact c.append<|.cons a .nil
def TM(m:PE X e te)(n:PE X k tk):PE X (.Subscript e (.Slice am am (ac k) p2) pos) (Iv X.K te tk):=by refine λc s f H Q I h=>ad7 (aI (m c s f H _ I h) λv p g=>?_);obtain⟨x,t,u,w,y⟩:=g;apply wpAny_Slice;refine gi<|gi ?_;refine aI (n c p f t _ u y) λvk d h=>?_;obtain⟨i,z,A,B,C⟩:=h;obtain⟨rfl,a,xs,rfl,D,q⟩:=C;subst w;obtain⟨tk,rfl⟩:=B;have g:Inv X c f z {d with heap:=d.heap.push {cls:=.type "slice",data:=.fields #[.none,.none,.int (-1) tk]} }:=A.kept (t':=d.toks) λb ob q=>fA _ q;obtain⟨its,r,j,l⟩:=g.list D;refine agS j.isList.typeIs adj.lookup ?_ (by with_unfolding_all rfl);refine aei j.isList (ade ..) .none .none (.int (-1) tk) ⋯ ?_ (by rw[kq,<-r.length];exact l);rw[W.krv_pick];refine⟨.ref _,_,g.laid (λb ob q=>fA _ q) (ft _) ?_,ρ,q _<|g.aq.fresh<|ft _⟩;exact⟨by rw[C0];exact l,_,0,aJ.rev r,lD _ ρ⟩
noncomputable def Q2:Dat->Option Res
 | .L ds=>ac (.O<|.L ds.reverse)
 | _=>am
def vn(f g:DF):EF:=fun δ=>(f δ).bind λp=>(g p.2).bind λq=>match q.1 with|.int i=>if i=-1 then (Q2 p.1).map λo=>(o,q.2) else am|_=>am
theorem aA.rev{K:gW}{H:Hp}:∀{ds:List Dat}{vs:List V},aA K H ds vs->aA K H ds.reverse vs.reverse
 | [],_,h=>by rw[show _=[] from h];exact ρ
 | _::_,_,a=>by obtain⟨v,r,e,q,t⟩:=a;simp only[e,aak,aak];exact aA.append (aA.rev t) ⟨v,[],ρ,q,ρ⟩
theorem Iq (w:DD X e f)(x:DD X k g):DE X (.Subscript e (.Slice am am (ac k) p2) pos) (vn f g):=by
 obtain⟨t,p,q⟩:=w;obtain⟨th,y,A⟩:=x;refine⟨_,TM p y,λj l δ m H B o δ' Q b S C=>?_⟩;obtain⟨d,δ1,D,b⟩:=oB b;dsimp only at b;obtain⟨a,δ2,E,b⟩:=oB b;dsimp only at b;split at b
 ·rename_i i;by_cases n:i=-1
  case neg=>rw[if_neg n] at b;exact nO b
  subst n;refine q j l δ m H B d δ1 _ D S λv F r G I J=>?_;refine A j l δ1 m F r _ δ2 _ E G λv2 H3 s c u K=>?_;subst K;have L:=Rep.mono u J;cases d with
  | L ds=>obtain⟨rfl,rfl⟩:=sP b;obtain⟨p,vs,rfl,M,rs⟩:=L;refine⟨ρ,p,vs,ρ,ι<|Rd.mono c.sub M,λz h=>?_⟩;exact C (.ref z) _ s (c.made h) (I.trans u) ⟨z,ρ,⟨_,aV,aA.rev rs,c.dg h⟩,(c.bL h).2,(c.bL h).1,c.dJ h⟩
  | _=>exact nO b
 exact nO b
def Ki (a:Gl X "abs")(hm:X.mg "abs"=am)(b:bC X e [])(c:DA X [e] fa):DE X (.Call (.Name "abs" p) [e] [] pos) (bV vf fa):=hV (by intro pins s σ H xs us Q I r h;obtain⟨i,rfl,q⟩:=h;obtain⟨u,rfl,t,rfl⟩:=vals1 r;exact call_abs_int λu tk=>⟨.int _,H,I.tok _,⟨_,ρ⟩,q⟩) Js a hm (by decide +kernel) c ⋯ ρ b ρ
def K9 (g:Gl X "range")(hm:X.mg "range"=am)(hs:ma [a,b] X.env=[(false,eval a X.env),(false,eval b X.env)])(c:ma [b] X.env=[(false,eval b X.env)])(h:DA X [a,b] f):dy X d (.Call (.Name "range" p) [a,b] [] pos) (qL f):=Va g hm h hs c
end
section
variable{X:Cx}{e:hQ}{pos apos:z5}{K:gW}{H Hi Hi1:Hp}
noncomputable def codes(x:List eT):List (List Nat):=x.map λa=>a.cps.toList
theorem A6:∀{a b:List eT},codes a=codes b->a=b
 | [],[],_=>rfl
 | [],_::_,h=>by contradiction
 | _::_,[],h=>by contradiction
 | x::a,y::b,h=>by have h:=List.cons.inj h;rw[ly h.1,A6 h.2]
def oJ(fs:List (List eT))(i j:Nat):Bool:=bd<|codes (fs.getD i [])<codes (fs.getD j [])
def AY (h:¬codes a<codes b)(h':¬codes b<codes a):a=b:=A6<|aaX (ZX.1 h')<|ZX.1 h
def UH (nd:fs.Nodup):Ord (oJ fs) fs.length where
 trans:=λi j k c a=>decide_eq_true<|acy (of_decide_eq_true c)<|of_decide_eq_true a
 total:=λi j d f b=>by
  delta oJ;rw[eP d,eP f];by_cases h:codes fs[i]<codes fs[j]
  ·exact ι<|decide_eq_true h
  refine τ (decide_eq_true ?_);by_cases a:codes fs[j]<codes fs[i]
  ·exact a
  exact absurd ((z7 nd).1 (AY h a)) b
 kK:=λi=>decide_eq_false<|aaO _
theorem CU:∀(xs ys:List eT) (us a:List dk) (i:Nat),aJ (xs.map V.str) us->aJ (ys.map V.str) a->Q (bd<|codes xs<codes ys) s->W.KatLex prog w A b (bd<|us.length<a.length) Q (us.zip a) i s
 | [],ys,us,a,i,d,c,q=>by
  cases d;have:bd (codes []<codes ys)=bd (([]:List dk).length<a.length):=by
   rw[<-c.length,ax];cases ys with
   | nil=>rfl
   | cons y ys=>rfl
  rw[this] at q;exact W.kat_nil q
 | x::xs,[],us,a,i,d,c,q=>by
  cases c;rw[show bd (codes (x::xs)<codes [])=bd (us.length<([]:List dk).length) from (decide_eq_false<|List.not_lt_nil _).trans (decide_eq_false<|Dl _).symm] at q;rw[List.zip_nil_right];exact W.kat_nil q
 | x::xs,y::ys,_,_,i,.cons f g,.cons j k,q=>by
  obtain⟨k1,rfl⟩:=f;obtain⟨k2,rfl⟩:=j;refine afd<|abb ?_;by_cases e:x=y
  ·subst e;rw[decide_eq_true ρ];apply W.kat_yes;rw[show bd ((ZR x k1::_).length<(ZR x k2::_).length)=bd (_<_) from decide_eq_decide.2 Nat.succ_lt_succ_iff];apply CU xs ys _ _ (i+1) g k;have:bd (codes (x::xs)<codes (x::ys))=bd (codes xs<codes ys):=decide_eq_decide.2 ⟨λh=>(ZO.1 h).elim (λz=>absurd z<|aaO _) λz=>z.2,λh=>ZO.2<|τ ⟨ρ,h⟩⟩;simp_all
  rw[decide_eq_false e];have:bd (codes (x::xs)<codes (y::ys))=bd (x.cps.toList<y.cps.toList):=decide_eq_decide.2 ⟨λh=>(ZO.1 h).elim id λz=>absurd (ly z.1) e,λh=>ZO.2<|ι h⟩;rw[this] at q;apply af3;cases b&&i==0 with
  | true=>exact oneLt_str q
  | false=>exact W.kat_one _ _<|lt_str q
def qQ(K:gW)(H:Hp)(vs:List V)(fs:List (List eT)):Prop:=vs.length=fs.length/\∀(i:Nat) (f:List eT),fs[i]?=ac f->f≠[]/\∃a,vs[i]?=ac (.ref a)/\bq K H a (f.map V.str)
def G6(K:gW):List V->Hp->VK->Prop:=λxs H Q=>∃p vs fs,xs=[.ref p]/\Rd H p (.L vs)/\qQ K H vs fs/\fs.Nodup/\vs.length<64/\∀out,tS (oJ fs) vs out->∀l,H l=am->Q (.ref l) (upd H l<|.L out)
theorem Kt (I:Inv X c d H s)(tx:qQ X.K H vs fs)(j:aJ vs its):∃b:List dk,ab8 s.heap its b/\b.length=vs.length/\∀v∈b,∀h:pq,afl (k7 X.prog X.w) h (typeOf v) (.type "str"):=by
 have k:nC X.K H vs (fs.map λf=>f.headD aaZ):=⟨by rw[ax];exact tx.1,λi f e=>by
  rw[ez] at e;obtain⟨g,l,rfl⟩:=gj.1 e;obtain⟨m,a,n,o⟩:=tx.2 i g l;refine⟨a,_,n,o,?_⟩;cases g with
  | nil=>cases m ρ
  | cons y g=>rfl⟩
 obtain⟨b,k1,k2,k3,_⟩:=kat_tups I k j;refine⟨b,k1,by rw[k2,ax];exact tx.1.symm,λv p h=>?_⟩;obtain⟨x,t,rfl⟩:=k3 v p;exact acS ρ
def Ke (I:Inv X f p H s)(tx:qQ X.K H vs fs)(l:aJ vs its)(i j:Nat)(g:i<vs.length)(h:j<vs.length)(_:i≠j)(h':pq)(c:∀b o xs n,o.data=.seq xs n->s.heap.get? b=ac o->h'.get? b=ac o)(C:Bool->eK->Prop)(k:C (oJ fs i j) {s with heap:=h'}):ka (k7 X.prog X.w) X.A.in1.in1 (afF (tuples'<|adn "str" != .type "tuple") (its.getD i tm)<|its.getD j tm) C (λ_ _=>False) {s with heap:=h'}:=by rw[tx.1] at g h;obtain⟨_,a,q,r⟩:=tx.2 i _<|bg g;obtain⟨_,b,t,u⟩:=tx.2 j _<|bg h;obtain⟨_,v,x⟩:=l.get q;obtain⟨_,y,z⟩:=l.get t;subst x;subst z;obtain⟨us,B,⟨o,ho,hc,n,hd⟩,_⟩:=I.tuple r;obtain⟨D,E,⟨o',m,hc',n',d⟩,_⟩:=I.tuple u;simp only[mu,v,y];apply af4 (c _ _ _ _ hd ho) hd (c _ _ _ _ d m) d;apply CU fs[i] fs[j] us D 0 B E;delta oJ at k;rw[eP g,eP h] at k;exact k
def TL(b:X.ex=[]):bD X (.builtin "sorted") (G6 X.K):=by intro pins s σ H xs us Q I r h;obtain⟨p,vs,fs,rfl,d,tx,nd,c,q⟩:=h;obtain⟨u,rfl,f⟩:=r.one;subst f;exact zl b I d c (by rw[tx.1];exact UH nd) ⋯ (λits a=>Kt I tx a) (λits a=>Ke I tx a) q
noncomputable def tupS(f:List eT):Dat:=.U<|f.map .str
noncomputable def iT:List Dat->Option (List<|List eT)
 | []=>ac []
 | .U ds::l=>(dq ds).bind λx=>if x.isEmpty then am else (iT l).map (x::·)
 | _=>am
def nX(a b:List eT):Bool:=!bd (codes b<codes a)
def jF(fs:List (List eT)):List (List eT):=fs.mergeSort nX
theorem uI{a b:List eT}:nX a b=bi ↔ ¬codes b<codes a:=by delta nX;rw[t8,decide_eq_false_iff_not]
def oz:List Dat->Option Res
 | [.L ds]=>(iT ds).bind λfs=>if fs.Nodup/\fs.length<64 then ac (.O<|.L<|(jF fs).map tupS) else am
 | _=>am
theorem wN{K:gW}{H Hi:Hp}(s:aj Hi H):∀{ds:List Dat}{vs:List V}{fs:List (List eT)},iT ds=ac fs->aA K Hi ds vs->qQ K H vs fs/\aA K Hi (fs.map tupS) vs
 | [],_,_,e,r=>by obtain rfl:=sO e;rw[show _=[] from r];exact⟨⟨ρ,fun i f e=>by simp at e⟩,ρ⟩
 | d::ds,_,_,e,b=>by
  obtain⟨v,h,j,k,rs⟩:=b;cases d with
  | U us =>
   obtain⟨x,l,e⟩:=oA e;split at e
   ·exact nO e
   rename_i m;obtain⟨ys,n,e⟩:=oM e;obtain rfl:=sO e;obtain⟨⟨o,p⟩,q⟩:=wN s n rs;obtain⟨a,ws,rfl,c,g⟩:=k;have t:=jU l g;subst t;rw[j];refine⟨⟨by simp only[gk,gk,o],fun i f e=>?_⟩,⟨.ref a,h,ρ,⟨a,_,ρ,c,lO _⟩,q⟩⟩;cases i with
   | zero =>
    cases (Option.some.inj e);exact⟨fun z=>m (by rw[z];rfl),a,ρ,bq.mono s c⟩
   | succ i=>exact p i f e
  | _=>exact nO e
def Ou (P:df q fs.length)(U:fj (oJ fs) q fs.length):(q.toList.map λi=>fs.getD i [])=jF fs:=by
 have pm:(q.toList.map λi=>fs.getD i []).Perm fs:=by have:=P.pm.map<|λi=>fs.getD i [];rwa[xo] at this
 apply ou (R:=λa b=>nX a b=bi) (λa b d f=>AY (uI.1 f)<|uI.1 d)<|pm.trans (jn fs nX).symm
 ·rw[za];intro i j hi m h;have l:j<fs.length:=by rw[<-P.size];simpa using m
  have u:=U i j h l;have g:∀k (hk:k<q.toList.length),q.toList[k]=q.getD k 0:=by simp_all
  simp only[ZF,g,g];exact uI.2 λz=>aaO _<|acy (of_decide_eq_true u) z
 refine Z6 (λa b c d f=>?_) (λa b=>?_) fs;grind [uI];grind [nX]
def vD (a:X.ex=[])(b:Gl X "sorted")(hm:X.mg "sorted"=am)(c:bC X e [])(d:DA X [e] fa):DE X (.Call (.Name "sorted" p) [e] [] pos) (bV oz fa) :=
 hV (TL a) (by
   intro H0 ps δ σ H Hi vs ds o Q a S r k;delta oz at a;split at a
   ·obtain⟨fs,h,a⟩:=oA a;split at a
    ·rename_i d;obtain rfl:=sO a;obtain⟨v,vr,rfl,⟨p,f,rfl,j,rs⟩,m⟩:=r;subst m;obtain⟨tx,rt⟩:=wN S.sub h rs;have c:=tx.1;refine⟨p,f,fs,ρ,Rd.mono S.sub j,tx,d.1,by rw[c];exact d.2,λout h l hl=>?_⟩;obtain⟨q,P,U,n⟩:=h;rw[c] at P U;have s:=Ou P U;subst n;have g:=aA.pick rt q.toList (λi b=>by rw[c];exact rE P i b);have em:(q.toList.map λi=>(fs.map tupS).getD i .aF)=(jF fs).map tupS:=by rw[<-s,hG];refine S' λi b=>?_;have b:=rE P i b;show _=tupS (fs.getD i []);rw[eP (by rw[ax];exact b),eP b,ZF]
     rw[em] at g;exact k (.ref l) _ Hi (S.made hl) (aj.refl _) ⟨l,ρ,⟨_,aV,g,S.dg hl⟩,(S.bL hl).2,(S.bL hl).1,S.dJ hl⟩
    exact nO a
   exact nO a) b hm (by decide +kernel) d ⋯ rfl c rfl
noncomputable def xp(a:eH)(n:Nat):HO:=.ext λh=>n<4096/\∃o b ep t,h.get? a=ac o/\o.ExactSet/\o.data=.set b ep t/\t.fits b.size=bi/\b.size=n
def eE(fs:List (List eT)):Nat:=(eX (λi=>(((fs[i]?).getD []).map pl:List Key)) fs.length).length
theorem M5(j:X.calm=bi)(hu:X.A.units+64<vv):bD X (.type "set") (λxs H Q=>∃(p:eH) (vs:List V) (fs:List (List eT)),xs=[.ref p]/\Rd H p (.L vs)/\qQ X.K H vs fs/\eE fs<76/\∀a,H a=am->Q (.ref a) (upd H a<|xp a<|eE fs)):=by
 intro pins s σ H xs us Q I r h;obtain⟨p,vs,fs,rfl,G,tx,J,q⟩:=h;obtain⟨u,rfl,L⟩:=r.one;subst L;obtain⟨z,its,n,y,e⟩:=G.ok I.aq;have M:s.heap.IsList p its.toArray:=⟨_,e,ρ,n,ρ⟩;have c:its.length=fs.length:=by rw[<-tx.1];exact y.length.symm
 refine Pm (knd:=cJ X.prog X.w) (U:=λ_=>True) (I.ok.hd j) (by lia) M (λi v f=>?_) (by rw[kq,c];exact J) λh' tk B N=>?_
 ·have f:its[i]?=ac v:=by simpa using f
  have d:i<fs.length:=by rw[<-c];exact (bt.1 f).1
  obtain⟨O,a,R,S⟩:=tx.2 i _<|bg d;obtain⟨_,C,T⟩:=y.get R;subst T;rw[f] at C;obtain rfl:=sO C;obtain⟨us,D,⟨o,ho,j,n,hd⟩,_⟩:=I.tuple S;refine⟨a,ρ,trivial,?_,o,us.toArray,n,ho,j,hd,?_⟩
  ·rw[bg d];cases W:fs[i] with
   | nil=>exact absurd W O
   | cons x r=>exact⟨_,_,ρ,λv Y=>by
     cases v<;>first|exact⟨_,_,ρ⟩|exact (xr Y).elim⟩
  have Z:(fs[i].map V.str)=((fs[i].map pl:List Key)).map kV:=by rw[hG];rfl
  rw[Z] at D;simpa[bg d] using w8 D
 have hsz:its.toArray.size=fs.length:=by rw[kq];exact c
 rw[hsz] at B;have fr:=I.aq.fresh (a:=s.heap.objs.size)<|ft _;refine⟨.ref s.heap.objs.size,upd H s.heap.objs.size<|xp s.heap.objs.size<|eE fs,?_,ρ,q _ fr⟩;obtain⟨o,l,ep,t,ho,E,hd,g,_,_,m,_⟩:=B;exact I.laid (λb o F=>N b o (gD F) F) (ft _) ⟨⟨by lia,o,l,ep,t,ho,E,hd,g.fits,m⟩,⟨o,ho⟩,λh1 h2 ⟨m,o,l,ep,t,ho,r⟩ k=>⟨m,o,l,ep,t,k o ho,r⟩⟩
def PZ:bD X (.builtin "len") (λxs H Q=>∃(a:eH) (n:Nat),xs=[.ref a]/\H a=ac (xp a n)/\Q (.int n) H):=by intro pins s σ H xs us Q I r h;obtain⟨a,n,rfl,c,q⟩:=h;obtain⟨u,rfl,d⟩:=r.one;subst d;obtain⟨⟨hn,o,f,ep,t,ho,b,hd,g,hsz⟩,_,_⟩:=I.aq a _ c;subst hsz;exact call_len_set ho b hd g (by lia) ⟨.int f.size,H,I.tok _,⟨_,ρ⟩,q⟩
def pz(f:DF):DF:=fun δ=>(f δ).bind λp=>match p.1 with
 | .L ds=>(iT ds).bind λfs=>if eE fs<76 then ac (.int (eE fs:Nat),p.2) else am
 | _=>am
def Ry (r:X.calm=bi)(s:X.A.units+64<vv)(u:Gl X "len")(hm:X.mg "len"=am)(n:Gl X "set")(o:X.mg "set"=am)(j:bC X e [])(q:ma [.Call (.Name "set" l) [e] [] i] X.env=(false,eval (.Call (.Name "set" l) [e] [] i) X.env)::ma [] X.env)(h:DD X e f):DD X (.Call (.Name "len" p) [.Call (.Name "set" l) [e] [] i] [] pos) (pz f):=by
 obtain⟨t,pt,w⟩:=h;refine⟨_,jO PZ u hm abk (bX (rl (M5 r s) n o (by decide +kernel) (bX pt dW j) ⋯ ρ j ρ) dW q) ⋯ ρ q ρ,λx y δ z H Hi d δ' Q g S k=>?_⟩;obtain⟨c,δ1,B,g⟩:=oB g;dsimp only at g;split at g
 ·obtain⟨fs,C,g⟩:=oA g;split at g
  ·rename_i D;obtain⟨rfl,rfl⟩:=sP g;refine w x y δ z H Hi _ _ _ B S λv H1 Hi1 m E F=>?_;obtain⟨a,G,rfl,I,rs⟩:=F;refine⟨a,G,fs,ρ,Rd.mono m.sub I,(wN m.sub C rs).1,D,λb J=>⟨b,eE fs,ρ,aV,?_⟩⟩;exact k _ _ Hi1 (m.made J) E ρ
  exact nO g
 exact nO g
theorem Co:∀{ns:List Int}{us:List dk},aJ (ns.map V.int) us->adT us ns
 | [],_,h=>by cases h;exact .nil
 | x::ns,_,h=>by
  cases h with
  | cons r t=>obtain⟨k,e⟩:=(r);subst e;exact .cons x k<|Co t
theorem CW:∀{us:List dk}{ns:List Int},adT us ns->aJ (ns.map V.int) us
 | _,_,.nil=>.nil
 | _,_,.cons x k t=>.cons ⟨k,ρ⟩<|CW t
theorem C5:∀(ns:List Int),aA K H (ns.map .int) (ns.map V.int)
 | []=>rfl
 | x::ns=>⟨_,_,ρ,ρ,C5 ns⟩
noncomputable def iE(ns:List Int):List Int:=ns.mergeSort λa b=>bd<|a<=b
def Dz (p:d.Perm ns)(h:d.Pairwise (· <= ·)):d=iE ns:=by refine ou (λa b f g=>afp f g) (p.trans (jn ns _).symm) h ?_;exact (Z6 (λa b c f g=>by simp at *;lia) (λa b=>by simp;lia) ns).imp λh=>of_decide_eq_true h
def D1:List V->Hp->VK->Prop:=λxs H Q=>∃p ns,xs=[.ref p]/\Rd H p (.L<|ns.map V.int)/\ns.length<64/\∀l,H l=am->Q (.ref l) (upd H l<|.L<|(iE ns).map V.int)
def SV:bD X (.builtin "sorted") D1:=by
 intro pins s σ H xs us Q I r h;obtain⟨p,b,rfl,g,h64,q⟩:=h;obtain⟨u,rfl,i⟩:=r.one;subst i;obtain⟨z,its,n,d,e⟩:=g.ok I.aq;have j:=Co d;have hl:its.length<64:=by have:=d.length;rw[ax] at this;lia
 refine sorted_ints ⟨_,e,ρ,n,ρ⟩ j hl λout ns' f k m=>?_;obtain⟨c,t⟩:=sortedAll_at s.heap its out;rw[Dz k m] at f;have v:((iE b).map V.int).length<=sizeLine:=by have w:(iE b).length=b.length:=(jn b _).length_eq;simp[KX];lia
 exact⟨.ref<|s.heap.objs.size+1,_,I.laid (o:=.L<|(iE b).map V.int) (λ_ _=>ag4) (aa9 _) ⟨v,_,c,CW f,by simp only[Array.toArray_toList];exact t⟩,ρ,q _<|I.aq.fresh<|aa9 _⟩
def qW:List Dat->Option Res
 | [.L ds]=>(kI ds).bind λns=>if ns.length<64 then ac (.O<|.L<|(iE ns).map .int) else am
 | _=>am
def Tj:CD X D1 qW:=by
 intro H0 ps δ σ H Hi vs ds o Q a S r k;delta qW at a;split at a
 ·obtain⟨ns,c,a⟩:=oA a;split at a
  ·rename_i d;obtain rfl:=sO a;obtain⟨v,vr,rfl,⟨p,ws,rfl,b,rs⟩,f⟩:=r;subst f;rw[xP c rs] at b;refine⟨p,ns,ρ,Rd.mono S.sub b,d,λl hl=>?_⟩;exact k (.ref l) _ Hi (S.made hl) (aj.refl _) ⟨l,ρ,⟨_,aV,C5 _,S.dg hl⟩,(S.bL hl).2,(S.bL hl).1,S.dJ hl⟩
  exact nO a
 exact nO a
def OU (a:Gl X "sorted")(hm:X.mg "sorted"=am)(b:bC X e [])(c:DA X [e] fa):DE X (.Call (.Name "sorted" p) [e] [] pos) (bV qW fa) :=
 hV SV Tj a hm (by decide +kernel) c ⋯ rfl b rfl
noncomputable def B5(fn:fE)(fa:AF):SF:=fun δ=>(fa δ).bind λp=>(fn p.1).bind λr=>match r with
 | .ok (.D _)=>ac (.next p.2)
 | .ok (.O _)=>am
 | .exc C=>ac<|.exc C p.2
theorem Rb (h:jg X.prog X.w X.K X.mg X.base g k (gS X.K fn))(y:Gl X g)(B:cb k X.A)(n:X.ex=[])(hs:H9 (.Call (.Name g p) (e::l) [] pos) am m.line X.env=pure false)(L:bA g)(U:bC X e l)(M:(Hz pos<|ma l X.env).any (·.1)=bv)(V:DA X (e::l) fa):b8 X (.Expr (.Call (.Name g p) (e::l) [] pos) m) (B5 fn fa):=by
 obtain⟨y,n,k,f,fd,pn,F,B,hm,W,Y⟩:=h.has y B n;obtain⟨t,Z,q⟩:=V;refine⟨_,qZ (p8 F B y hm W Y n Z L U M) hs,λN O δ u H Hi o D i S P=>?_⟩;obtain⟨ds,δ1,e1,i⟩:=oB i;obtain⟨r2,Q,i⟩:=oA i;refine q N O δ u H Hi ds _ _ e1 S λvs H1 Hi1 x R T=>?_;cases r2 with
 | ok r =>
  cases r with
  | D d=>obtain rfl:=sO i;refine⟨λ_ _ _=>False,⟨Hi1,ds,_,x.sub,T,Q,λv j b E s G I rc=>?_⟩,λ_ _ _ z=>z.elim⟩;obtain⟨J,rr⟩:=x.after E s G I rc;exact P u j b J (R.trans s)
  | O c=>exact nO i
 | exc C =>
  obtain rfl:=sO i;refine⟨λcls oa j=>cls=.ref C/\∃b,SR X.K N O δ1 u j b/\aj Hi b,⟨Hi1,ds,_,x.sub,T,Q,λa j b E s G I=>⟨ρ,b,?_,R.trans s⟩⟩,λcls a j ⟨z,b,J,s2⟩=>?_⟩
  ·exact (x.after (r:=.D .aF) E s G I ρ).1
  subst z;exact (P u j b J s2).2 a
theorem yo:∀{a:List eH}{us:List dk},aJ (a.map V.ref) us->us=a.map rm
 | [],us,h=>by cases h;rfl
 | C::a,us,h=>by
  cases h with
  | cons r h=>rw[yo h];obtain rfl:=r;rfl
theorem Tz:bD X (.builtin "isinstance") (fun xs H Q=>∃(C a p:eH) (c:List eH) (b:Bool),xs=[.ref a,.ref p]/\H p=ac (.U<|c.map V.ref)/\H a=ac (excAt a<|.ref C)/\jk X.K C/\aaH X.K (.ref C) (c.map rm)=ac b/\Q (.bl b) H):=by intro pins s σ H xs us Q I r h;obtain⟨C,a,p,c,b,rfl,d,f,k,e,q⟩:=h;obtain⟨xv,cv,rfl,g,i⟩:=r.two;subst g;subst i;obtain⟨j,_,_⟩:=(I.aq a _ f);obtain⟨_,its,l,o,m,t,n,u⟩:=(I.aq p _ d);obtain rfl:=yo l;obtain⟨c0,d0,da,sl⟩:=o;subst t;subst u;exact W.kia_tup (C7 k ac9.ga) I.d9 j m e (fun z=>nomatch z) fun tk=>⟨.bl _,H,I.tok _,ρ,q⟩
def yF:List Dat->Option Res
 | [.L ds]=>(dq ds).bind λa=>if a.length<64 then ac (.O<|.L<|(bj a).map .str) else am
 | _=>am
theorem KP{e:hQ}{fa:AF}{p:z5}(a:Gl X "sorted")(hm:X.mg "sorted"=am)(b:bC X e [])(c:DA X [e] fa):DE X (.Call (.Name "sorted" p) [e] [] pos) (bV yF fa) :=
 hV Gp (by
   intro H0 ps δ σ H Hi vs ds o Q a S r k;delta yF at a;split at a
   ·obtain⟨b,c,a⟩:=oA a;split at a
    ·rename_i d;obtain rfl:=sO a;obtain⟨v,vr,rfl,⟨p,ws,rfl,f,rs⟩,g⟩:=r;subst g;have h:=jU c rs;subst h;refine⟨p,b,ρ,Rd.mono S.sub f,d,fun l hl=>?_⟩;exact k (.ref l) _ Hi (S.made hl) (aj.refl _) ⟨l,ρ,⟨_,aV,lO _,S.dg hl⟩,(S.bL hl).2,(S.bL hl).1,S.dJ hl⟩
    exact nO a
   exact nO a) a hm (by decide +kernel) c ⋯ ⋯ b rfl
structure CA (x:eT):Prop where
 ok:True
def pU(i:Nat)(δ:DS):Option (List Dat):=((δ[i]?).bind f').bind λd=>match d with
 | .L xs=>ac xs
 | _=>am
def SR.seen (S:SR K b c δ a H Hi)(e:pU i δ=ac xs):∃v,a[i]?=ac (ac v)/\Rep K H (.L xs) v:=by
 obtain⟨d,f,e⟩:=oA e;obtain⟨v,g,t⟩:=S.peek f;split at e
 ·obtain rfl:=sO e;obtain⟨p,vs,rfl,h,rs⟩:=t;exact⟨_,g,p,vs,ρ,h,aA.mono S.sub rs⟩
 exact nO e
def w6:List Dat->Option Res
 | [.U ds]=>(dq ds).bind λa=>if a.length<64 then ac (.O<|.L<|(bj a).map .str) else am
 | _=>am
theorem Kp:CD X (yc X.K) w6:=by
 intro H0 ps δ σ H Hi vs ds o Q a S r k;delta w6 at a;split at a
 ·obtain⟨b,c,a⟩:=oA a;split at a
  ·rename_i d;obtain rfl:=sO a;obtain⟨v,vr,rfl,⟨p,ws,rfl,f,rs⟩,g⟩:=r;subst g;have h:=jU c rs;subst h;exact⟨p,b,ρ,bq.mono S.sub f,d,fun l hl=>k (.ref l) _ Hi (S.made hl) (aj.refl _) ⟨l,ρ,⟨_,aV,lO _,S.dg hl⟩,(S.bL hl).2,(S.bL hl).1,S.dJ hl⟩⟩
  exact nO a
 exact nO a
structure Gb (x:eT):Prop where
 ok:True
def Nf (ht:Gb x)(b:Gl X "sorted")(hm:X.mg "sorted"=am)(c:ma [.Name x a] X.env=(false,eval (.Name x a) X.env)::ma [] X.env)(d:DA X [.Name x a] fa):DE X (.Call (.Name "sorted" p) [.Name x a] [] pos) (bV w6 fa) :=
 hV Ep Kp b hm (by decide +kernel) d ⋯ rfl c rfl
noncomputable def oX(f:DF):UF:=fun δ=>(f δ).bind λq=>match q.1 with
 | .dM l=>ac (l,q.2)
 | _=>am
def NA (h:DD X e f):iH X e (oX f):=by
 obtain⟨t,p,q⟩:=h;refine⟨t,p,λc g δ i H Hi l δ' Q b S k=>?_⟩;obtain⟨d,δ1,j,b⟩:=oB b;dsimp only at b;split at b
 ·obtain⟨rfl,rfl⟩:=sP b;refine q c g δ i H Hi _ _ _ j S λv m Hi1 n o r=>?_;obtain⟨a,rfl,s⟩:=r;exact k a m Hi1 n o (by rw[qd];exact s)
 exact nO b
noncomputable def F5(a:UF):EF:=fun δ=>(a δ).map λq=>(.D<|.dM q.1,q.2)
def HU (h:iH X e c):DE X e (F5 c):=by obtain⟨t,p,q⟩:=h;refine⟨t,p,λd f δ g H Hi r δ' Q b S k=>?_⟩;obtain⟨z,i,b⟩:=oM b;obtain⟨rfl,rfl⟩:=sP b;exact q d f δ g H Hi _ _ _ i S λa j Hi1 l m n=>k _ j Hi1 l m ⟨a,ρ,by rw[<-qd];exact n⟩
def qm(i:Nat)(a:UF):DF:=fun δ=>((δ[i]?).bind f').bind λ_=>(a δ).bind λq=>((q.2[i]?).bind f').bind λc=>match c with
 | .aX _ b=>(cf b q.1).map λd=>(d,q.2)
 | _=>am
def Vg (q:X.N.findIdx? (·==x)=ac i)(r:cc X.env.scope x)(s:X.A.units+1<vv)(hd:bA x)(j:cG x)(hs:kZ b)(u:iH X b h):DD X (.Subscript (.Name x o) b pos) (qm i h):=by
 obtain⟨tb,w,z⟩:=u;refine⟨_,uL s (eG (dR q) r hd j) w hs,λB C δ D H Hi d δ' Q a S k=>?_⟩;obtain⟨c0,E,a⟩:=oA a;obtain⟨l,δ1,F,a⟩:=oB a;dsimp only at a;obtain⟨c,G,a⟩:=oA a;split at a
 ·obtain⟨d',I,a⟩:=oM a;obtain⟨rfl,rfl⟩:=sP a;obtain⟨v0,f,_⟩:=S.peek E;refine⟨_,f,z B C δ D H Hi _ _ _ F S λy J m g L ty=>?_⟩;obtain⟨v,n,t⟩:=g.peek G;rw[f] at n;obtain rfl:=Option.some.inj<|sO n;obtain⟨p,kvs,rfl,M,O⟩:=uO t;obtain⟨v,P,R⟩:=(O.find l).1 _ I;refine⟨p,v,ρ,?_,k v J m g L R⟩;rw[<-P];exact τ ⟨kvs,kT l,y,M,ρ,g.sub _ _ ty,ρ⟩
 exact nO a
def IS (ht:g8 x)(f:X.N.findIdx? (·==x)=ac i)(g:cc X.env.scope x)(h:X.A.units+1<vv)(hd:bA x)(c:cG x)(hs:kZ b)(j:iH X b a):DD X (.Subscript (.Name x d) b pos) (qm i a):=Vg f g h hd c hs j
def LV (ht:g8 x)(g:X.N.findIdx? (·==x)=ac i)(j:cc X.env.scope x)(k:X.A.units+1<vv)(hd:bA x)(d:cG x)(hs:H9 e (ac<|.Subscript (.Name x b) a pt) pos.line X.env=pure false)(h:DD X e f)(l:iH X a c):b8 X (.Assign [.Subscript (.Name x b) a pt] e pos) (lb i c f):=C4 i k (dR g) j h l hd d hs
noncomputable def GU(fn:fE)(fa:AF)(fb fe:SF):SF:=fun δ=>(fa δ).bind λp=>(fn p.1).bind λr=>match r with
 | .ok (.D<|.bl b)=>if b=bi then fe p.2 else fb p.2
 | .ok _=>am
 | .exc C=>ac<|.exc C p.2
theorem UJ{g:eT}{e:hQ}{n:List hQ}{a b:List ZZ}{fn:fE}{fa:AF}{fb fe:SF}{p V B:z5}{k:Nat}(h:jg X.prog X.w X.K X.mg X.base g k (gS X.K fn))(E:Gl X g)(G:cb k X.A)(l:X.ex=[])
 (O:bA g)(W:bC X e n)
 (P:(Hz pos<|ma n X.env).any (·.1)=bv)(Y:DA X (e::n) fa)(Z:fJ X a fb)(hc:fJ X b fe):b8 X (.If (.UnaryOp .Not (.Call (.Name g p) (e::n) [] pos) V) a b B) (GU fn fa fb fe):=by
 obtain⟨E,l,k,f,fd,pn,F,G,hm,hk,Q⟩:=h.has E G l;obtain⟨t,pa,q⟩:=Y;obtain⟨tb,pb,qb⟩:=Z;obtain⟨te,R,qe⟩:=hc;refine⟨_,qT (G8<|EK<|p8 F G E hm hk Q l pa O W P) pb R,λs u δ m H Hi o D d S I=>?_⟩;obtain⟨ds,δ1,e1,d⟩:=oB d;obtain⟨r2,T,d⟩:=oA d;refine q s u δ m H Hi ds _ _ e1 S λvs H1 Hi1 x J U=>?_;split at d
 ·rename_i b;refine⟨λ_ _ _=>False,⟨Hi1,ds,_,x.sub,U,T,λv i c L j M N rc=>?_⟩,λ_ _ _ z=>z.elim⟩;obtain⟨y,rr⟩:=x.after L j M N rc;refine⟨b,rr,?_⟩;cases b with
  | true=>exact qe s u δ1 m i c o D d y (I.mono<|J.trans j)
  | false=>exact qb s u δ1 m i c o D d y<|I.mono<|J.trans j
 ·exact nO d
 rename_i C;obtain rfl:=sO d;refine⟨λcls oa i=>cls=.ref C/\∃c,SR X.K s u δ1 m i c/\aj Hi c,⟨Hi1,ds,_,x.sub,U,T,λa i c L j M N=>⟨ρ,c,?_,J.trans j⟩⟩,λcls a i ⟨z,c,y,s2⟩=>?_⟩
 ·exact (x.after (r:=.D .aF) L j M N ρ).1
 subst z;exact (I m i c y s2).2 a
noncomputable def yH(fn:fE)(fa:AF):SF:=fun δ=>(fa δ).bind λp=>(fn p.1).bind λr=>match r with
 | .ok r=>ac (.ret r p.2)
 | .exc C=>ac<|.exc C p.2
theorem QY (h:jg X.prog X.w X.K X.mg X.base g k (gS X.K fn))(u:Gl X g)(x:cb k X.A)(i:X.ex=[])(I:bA g)(T:bC X e l)(J:(Hz pos<|ma l X.env).any (·.1)=bv)(U:DA X (e::l) fa):b8 X (.Return (ac<|.Call (.Name g p) (e::l) [] pos) s) (yH fn fa):=by
 obtain⟨u,i,k,f,fd,pn,F,x,hm,V,L⟩:=h.has u x i;obtain⟨t,W,q⟩:=U;refine⟨_,uJ<|p8 F x u hm V L i W I T J,λM N δ m H Hi o D c S O=>?_⟩;obtain⟨ds,δ1,Y,c⟩:=oB c;obtain⟨Z,P,c⟩:=oA c;refine q M N δ m H Hi ds _ _ Y S λvs H1 Hi1 n Q R=>?_;cases Z with
 | ok r=>obtain rfl:=sO c;refine⟨λ_ _ _=>False,⟨Hi1,ds,_,n.sub,R,P,λv d b y j B E rc=>?_⟩,λ_ _ _ z=>z.elim⟩;obtain⟨G,rr⟩:=n.after y j B E rc;exact O v m d b G (Q.trans j) rr
 | exc C =>
  obtain rfl:=sO c;refine⟨λcls oa d=>cls=.ref C/\∃b,SR X.K M N δ1 m d b/\aj Hi b,⟨Hi1,ds,_,n.sub,R,P,λa d b y j B E=>⟨ρ,b,?_,Q.trans j⟩⟩,λcls a d ⟨z,b,G,s2⟩=>?_⟩
  ·exact (n.after (r:=.D .aF) y j B E ρ).1
  subst z;exact (O m d b G s2).2 a
def qI(i:Nat)(f:DF):EF:=fun δ=>(f δ).bind λp=>(pU i p.2).bind λxs=>if (bH p.1&&bH (.L xs))=bi then ac (.D<|.bl<|!inD p.1 xs,p.2) else am
def Qm (ht:CA x)(m:X.A.units+65<vv)(n:X.N.findIdx? (·==x)=ac i)(r:cc X.env.scope x)(hd:bA x)(j:cG x)(hm:wy .NotIn (.Name x h)=bv)(s:DD X a f):DT X (.Compare a [.NotIn] [.Name x h] pos) (eM<|qI i f):=by
 obtain⟨t,p,q⟩:=s;refine⟨_,pE (HB m) p (eG (dR n) r hd j) hm,wc λw y δ z H Hi o δ' Q b S k=>?_⟩;obtain⟨d,δ1,B,b⟩:=oB b;obtain⟨xs,C,b⟩:=oA b;split at b
 ·rename_i c;have c:=n7.1 c;obtain⟨rfl,rfl⟩:=sP b;refine q w y δ z H Hi _ _ _ B S λv l Hi1 g D E=>?_;obtain⟨u,F,G⟩:=g.seen C;exact⟨u,F,l,_,_,_,ι ρ,aj.refl _,Rep.mono g.sub E,G,c.1,c.2,k _ l Hi1 g D ρ⟩
 exact nO b
structure GA (x:eT):Prop where
 ok:True
def Ky (ht:GA x)(j:X.calm=bi)(k:Gl X "len")(hm:X.mg "len"=am)(d:Gl X "set")(g:X.mg "set"=am)(i:ma [.Name x b] X.env=(false,eval (.Name x b) X.env)::ma [] X.env)(l:ma [.Call (.Name "set" c) [.Name x b] [] a] X.env=(false,eval (.Call (.Name "set" c) [.Name x b] [] a) X.env)::ma [] X.env)(h:DD X (.Name x b) f):DD X (.Call (.Name "len" p) [.Call (.Name "set" c) [.Name x b] [] a] [] pos) (rL f):=Br j k hm d g i l h
def Gm(i:Nat):DF:=fun δ=>((δ[i]?).bind f').bind λc=>match c with
 | .aX _ a=>ac (.int (a.length:Int),δ)
 | _=>am
def N6 (ht:g8 x)(h:X.N.findIdx? (·==x)=ac i)(j:cc X.env.scope x)(l:Gl X "len")(hm:X.mg "len"=am)(hd:bA x)(f:cG x):DD X (.Call (.Name "len" p) [.Name x g] [] pos) (Gm i):=by
 refine⟨_,jO Eb l hm abk<|bX (eG (dR h) j hd f) dW,λH0 ps δ σ H Hi d δ' Q b S k=>?_⟩;obtain⟨c,m,b⟩:=oA b;split at b
 ·obtain⟨rfl,rfl⟩:=sP b;obtain⟨v,n,t⟩:=S.peek m;obtain⟨a,kvs,rfl,o,q⟩:=uO t;refine⟨_,n,a,kvs,ρ,o,?_⟩;rw[q.length];exact k _ H Hi S (aj.refl _) ρ
 exact nO b
theorem Me:bD X (.builtin "isinstance") (fun xs H Q=>∃(y:V) (a:dk) (b:Bool),xs=[.aF,y]/\(∀u,RelV y u->u=a)/\o4 X.K (.type "NoneType") a=ac b/\Q (.bl b) H):=by intro pins s σ H xs us Q I r h;obtain⟨y,a,b,rfl,d,e,q⟩:=h;obtain⟨xv,c,rfl,f,g⟩:=r.two;subst f;have:=d c g;subst this;exact aa8 aeM I.d9 aao e (fun z=>nomatch z) fun tk=>⟨.bl _,H,I.tok _,ρ,q⟩
theorem Nu:bD X (.builtin "isinstance") (fun xs H Q=>∃(p:eH) (a:List eH) (b:Bool),xs=[.aF,.ref p]/\H p=ac (.U<|a.map V.ref)/\aaH X.K (.type "NoneType") (a.map rm)=ac b/\Q (.bl b) H):=by intro pins s σ H xs us Q I r h;obtain⟨p,a,b,rfl,c,e,q⟩:=h;obtain⟨xv,cv,rfl,d,f⟩:=r.two;subst d;subst f;obtain⟨_,its,g,o,i,j,n,k⟩:=(I.aq p _ c);obtain rfl:=yo g;obtain⟨c0,d0,da,sl⟩:=o;subst j;subst k;exact W.kia_tup aeM I.d9 aao i e (fun z=>nomatch z) fun tk=>⟨.bl _,H,I.tok _,ρ,q⟩
theorem BI:∀{ns:List eT}{vs:List V},aA K H (ns.map Dat.str) vs->vs=ns.map V.str
 | [],_,r=>r
 | x::ns,_,⟨v,r,rfl,q,t⟩=>by
  cases (q);rw[BI t];rfl
end
section
namespace Mq
open Lean
def wk(k:String):MacroM (TSyntax `tactic):=`(tactic|walk_at $(Syntax.mkStrLit k):str)
def tc(c:Char):MacroM (TSyntax `tactic):=match c with
|'='=>`(tactic|with_reducible assumption)
|'r'=>`(tactic|rfl)
|'a'=>`(tactic|assumption)
|'d'=>`(tactic|decide)
|'e'=>`(tactic|exact ρ)
|'f'=>`(tactic|exact fun _=>rfl)
|'g'=>`(tactic|exact fun _ _=>rfl)
|'h'=>`(tactic|exact jo (by assumption))
|'i'=>`(tactic|exact rq (by assumption))
|'j'=>`(tactic|exact qH (by assumption))
|'n'=>`(tactic|exact o7 (by rfl))
|'p'=>`(tactic|(intro _ _ _ _ _;walk_at "G"))
|'t'=>`(tactic|(intro _ _ _ _ _;walk_at "J"))
|'u'=>`(tactic|(intro _ _ _ _ _;walk_at "D"))
|'w'=>`(tactic|exact aec)
|'x'=>`(tactic|(simp[fg, *];done))
|'s'=>`(tactic|(simp[n8,fg, *];done))
|'q'=>`(tactic|(first | rfl | assumption | (simp[*];done)))
|'2'=>`(tactic|first | assumption | rfl | decide +kernel)
|'3'=>`(tactic|(first | assumption | (simp[eu];done)))
|'4'=>`(tactic|(simp[eu];done))
|'5'=>`(tactic|exact cb.hd (by assumption))
|c=>wk c.toString
def ru(s:String):MacroM (TSyntax `tactic):=do
 if s.front=='>' then return (← wk (s.drop 1).toString)
 if s.front=='.' then return (← tc s.back)
 let b:=s.front=='!';let p:=(if b then (s.drop 1).toString else s).splitOn " ";let f:=mkIdent p.head!.toName;let mut h:=#[];let mut t:=#[]
 for c in (p.getD 1 "").toList do
  if c=='_' then h:=h.push (← `(?_))
  else
   let n:=mkIdent<|← Macro.addMacroScope (.mkSimple s!"x{h.size}")
   h:=h.push<|← `(?$n:ident)
   t:=t.push<|← `(tactic|case $n:ident=>$(← tc c):tactic)
 let r← if b then `(tactic|with_reducible refine' $f $h*) else `(tactic|refine' $f $h*)
 t.foldlM (fun r x=>`(tactic|($r:tactic;$x:tactic))) r
def ra(s:String):MacroM (TSyntax `tactic):=do
 match s.splitOn "&" with
 |f::l=>
  let l←l.mapM ru
  match l.reverse with
  |[]=>ru s
  |x::l=>l.foldlM (fun y x=>`(tactic|(refine' $(mkIdent f.toName) ?m ?n;(case m=>$x:tactic);(case n=>$y:tactic)))) x
 |[]=>ru s
def fs(s:String):MacroM Syntax:=do
 let l←(s.splitOn "|").mapM ra
 return (← l.reverse.foldlM (fun y x=>`(tactic|first|$x:tactic|$y:tactic)) (← `(tactic|fail)))
def go(s:TSyntax `str)(t:String):MacroM Syntax:=do
 for e in t.splitOn "~" do
  if let [k,v]:=e.splitOn "@" then
   if k==s.getString then return ← fs v
 Macro.throwUnsupported
end Mq
local macro_rules | `(tactic| walk_at "r0")=>`(tactic| exact abQ rfl)
local macro_rules | `(tactic| walk_at "r1")=>`(tactic| exact abP<|abQ rfl)
local macro_rules | `(tactic| walk_at "r2")=>`(tactic| exact abP<|abP rfl)
local macro_rules | `(tactic| walk_at "r3")=>`(tactic| exact abP rfl)
local macro_rules | `(tactic| walk_at "r4")=>`(tactic| exact pV (by rfl))
local macro_rules | `(tactic| walk_at "r5")=>`(tactic| exact cb.mono (by assumption) ⋯)
local macro_rules | `(tactic|walk_at "h")=>`(tactic|(intros;cases ‹Txt _›;walk_at "S"))
local macro_rules | `(tactic| walk_at "r6")=>`(tactic| (simp[lY,jb,zB,pT,iS,nR, *];done))
local macro_rules | `(tactic| walk_at "r7")=>`(tactic| (simp[lY,jb,zB,pT,iS];omega))
local macro_rules | `(tactic| walk_at "r8")=>`(tactic| decide +kernel)
local macro_rules | `(tactic| walk_at "r9")=>`(tactic| repeat (first|(with_reducible refine' af ?_)|(with_reducible refine' ai ?_)|(with_reducible refine' bO ?_)|(with_reducible refine' i9 ?_)|((with_reducible refine' aD ?p ?q ?_);(case p=>walk_at "v");(case q=>exact rfl))|((with_reducible refine' Ay ?p ?q ?_);(case p=>walk_at "v");(case q=>exact rfl))|((with_reducible refine' gO ?p ?_);(case p=>walk_at "v"))|((with_reducible refine' aZ ?p ?_);(case p=>walk_at "v"))|((with_reducible refine' tG ?p ?q ?_);(case p=>walk_at "v");(case q=>simp[eu];done))|(with_reducible refine' aw ?_)|fail))
local macro_rules | `(tactic| walk_at "w")=>`(tactic| repeat (first|(with_reducible refine' af ?_)|(with_reducible refine' ai ?_)|(with_reducible refine' bO ?_)|(with_reducible refine' i9 ?_)|((with_reducible refine' aD ?p ?q ?_);(case p=>walk_at "v");(case q=>exact rfl))|((with_reducible refine' Ay ?p ?q ?_);(case p=>walk_at "v");(case q=>exact rfl))|((with_reducible refine' gO ?p ?_);(case p=>walk_at "v"))|((with_reducible refine' aZ ?p ?_);(case p=>walk_at "v"))|((with_reducible refine' tG ?p ?q ?_);(case p=>walk_at "v");(case q=>simp[eu];done))|(with_reducible refine' aw ?_)|fail))
local macro_rules | `(tactic| walk_at "r10")=>`(tactic| ((with_reducible refine' G0 ?_);walk_at "wb"))
local macro_rules | `(tactic| walk_at "wb")=>`(tactic| first|((with_reducible refine' u7 ?p ?_);(case p=>walk_at "v"))|((with_reducible refine' G0 ?_);walk_at "wb")|fail)
local macro_rules | `(tactic| walk_at "r11")=>`(tactic| ((with_reducible refine' xj ?_);walk_at "wb"))
local macro_rules | `(tactic| walk_at "wif")=>`(tactic| ((with_reducible refine' xj ?_);walk_at "wb"))
local macro_rules | `(tactic| walk_at "r12")=>`(tactic| (refine' EE ?a ?b;(case a=>walk_at "Y");(case b=>walk_at "dsk")))
local macro_rules | `(tactic| walk_at "r13")=>`(tactic| (refine' EE ?a ?b;(case a=>walk_at "Z");(case b=>walk_at "dskc")))
local macro_rules | `(tactic| walk_at $s:str)=>Mq.go s "V@>r0|>r1|>r2~L@>r0|>r3~F@>r0|>r3~N@.a|>r4~R@.a|>r5~A@US|Nb rDA~B@OO rVrddA~O@Jk|S7 D~G@MH NrLF|Pg rrrH~H@Q7|Pt rGH~I@KQ rarA|dy.alt&Oo D&SE D~J@UN|IV T~1@Vn aarD|Mh|Sv|S9|Om rVdd|Vc ard|KZ rVhddgD|LJ hgDD|Mf A|JJ D|Rz DD|Ub DD|P8 D|Lq rDDD|Tg rVradd|KL rararD|QR rararD|Oy rararD|NX rrrrD~D@>1|DE.dd 0~0@Vm aaRrD|MY DD|TB DD|DE.alt&M1 DD&Rv DD|NO DD|PN DD|LZ DD|Rg iDD|Lw iDD|LU jrDD|NY A|Md DOO|Dy aarrrrnrfIptu|Hs arrnrfIptu|Nm arRdrrA|Lr arRdrrB|Tv rarA|NH rrarA|Kk rrarrA|Uz rrarrA~E@>0|DD.de 1~W@QH T|OC T|Kl TW|U8 TW~T@U' iDD|Qn iDD|Nx DD|M0 DD|TU jrDD|MB jrDD|Jj rDDD|Oz T|DW.dt W|LM fD~M@UR rVdd|>E~Z@yY M|v7 NrLFrE|Pb arrLFrrnrfIptu|b8.alt&Qt rVddfrrrDD&Ie rVhddrDD|QC rrrDG|Py rVddrrrrrA|Ly wrfIGS|xV TSS~S@vc|tV ZS~P@.a|.r~c@lG|fT P|D5 x|l4 s|An s~y@.r|.a|>r6|>r7|>r8~o@.=|iY q|qr|mC 22|v_eq cc|pC cc|DR 3|kG 3|.e~z@.=|.e~k@um yv|xW yv~Q@!QN ee|!Vp|!oP v~m@!Ql|!Vo|.e~v@.=|!ah|!aa vv|!ot vQ|!xu vk|!zX v|!nM vz|!AO vz|!rj v|!v_and vk|!jD vv|!v_or vk|!jZ vv|!jh v|!fY vz|!aE v|!pW vv|!A7 vv|!v_res v|!ag vm|!ak vvo|!ML vz|!aB vz|!dB eveze|!bM v3|!cw v3|!ic vvz|!bu evez|!cu ez|!Rj v|!Fv vvovo|!x5 veve3e|!vb veveze|!gf v|!rD ev|!CO v4|!Dg veve3e|.e~Y@Li a5rAdrr|b8.calm Z|xV TXX~X@vc|tV YX~dsk@DV|>r12~dskc@DV|>r13"
section
variable{P:lq}{w:qh}{K:gW}{mg:eT->Option dk}{base:pq}
def intBits_le (h:i.natAbs<2 ^ n):tj i<=n:=by
 delta tj;split
 ·lia
 rename_i z;have:=(agC (by intro e;exact z (by simpa using e))).2 h;lia
def ub (h:j.natAbs<2 ^ 64):fR i j=bi:=by have:=intBits_le h;delta fR acu;rw[show bd (tj j>64)=bv from decide_eq_false (by lia)];simp
def sX (h:i.natAbs<2 ^ 64):fR i j=bi:=by have:=intBits_le h;delta fR acu;rw[show bd (tj i>64)=bv from decide_eq_false (by lia)];simp
end
structure bh (x:eT):Prop where
 ua:x.cps.all (·<128)=bi
 len:x.length<=99
def B2 (h:x.cps.all (·<128)=bi):y1 x=bi:=by delta y1;rw[acA] at h ⊢;intro c a;have:=h c a;lia
def bh.ok (h:bh x):y1 x=bi:=B2 h.ua
noncomputable def pD(p:Int×Int):Dat:=.L [.int p.1,.int p.2]
def Ih{m:Int}(h:m.natAbs<2 ^ 9000):m.natAbs.log2<9000:=by
 by_cases z:m.natAbs=0
 ·rw[z];decide
 exact (agC z).2 h
def kj(ds)(i):cy (.L ds) (.int i)=dc ds i:=ρ
noncomputable def gI(c:Nat):Bool:=bd (97<=c)&&bd (c<=122)
noncomputable def aP(x:eT):Bool:=bd (x="north")||bd (x="east")||bd (x="south")||bd (x="west")
def fU(x:eT):Bool:=bd (0<x.length)&&bd (x.length<9)&&x.cps.toList.all gI&&!aP x
def RG(c):((!bd (([c]:List Nat)<[97]))&&!bd (([122]:List Nat)<[c]))=gI c:=by
 delta gI;have e1:bd (([c]:List Nat)<[97])=bd (c<97):=by simp[ZO]
 have e2:bd (([122]:List Nat)<[c])=bd (122<c):=by simp[ZO]
 lia
def GR (h:bh x):x.length<=sizeLine:=px h.len (by simp[eu])
def E5{x:eT}(b:y1 x=bi){ys:List eT}(c:∀y∈ys,y1 y=bi)(neg:Bool):fx neg (.str x) (.L<|ys.map .str)=ac (.D<|.bl (if neg then !(ys.any λy=>bd<|y=x) else ys.any λy=>bd<|y=x)):=by
 have f:bH (.L<|ys.map .str)=bi:=l4 (by show (ys.map Dat.str).all fg=bi;rw[hE];intro d hd;obtain⟨y,a,rfl⟩:=ee.1 hd;exact c y a)
 show (if (bH (.str x)&&bH (.L<|ys.map .str))=bi then ac (Res.D<|.bl (if neg then !inD (.str x) (ys.map .str) else inD (.str x) (ys.map .str))) else am)=_;rw[fT b,f];have e:inD (.str x) (ys.map .str)=ys.any λy=>bd (y=x):=by rw[nR,ab5];rfl
 rw[e];rfl
def OY{x:eT}(b:y1 x=bi){ys:List eT}(c:∀y∈ys,y1 y=bi)(neg:Bool):fx neg (.str x) (.U<|ys.map .str)=ac (.D<|.bl (if neg then !(ys.any λy=>bd<|y=x) else ys.any λy=>bd<|y=x)):=by
 have f:bH (.U<|ys.map .str)=bi:=l4 (by show (ys.map Dat.str).all fg=bi;rw[hE];intro d hd;obtain⟨y,a,rfl⟩:=ee.1 hd;exact c y a)
 show (if (bH (.str x)&&bH (.U<|ys.map .str))=bi then ac (Res.D<|.bl (if neg then !inD (.str x) (ys.map .str) else inD (.str x) (ys.map .str))) else am)=_;rw[fT b,f];have e:inD (.str x) (ys.map .str)=ys.any λy=>bd (y=x):=by rw[nR,ab5];rfl
 rw[e];rfl
noncomputable def sf:List Str:=["north","east","south","west"]
def E6:∀y∈sf,y1 y=bi:=by decide +kernel
def yu(x):(sf.any λy=>bd<|y=x)=aP x:=by simp[sf,aP,eq_comm,Bool.or_assoc]
def Fu (a:y1 x=bi)(neg):fx neg (.str x) (.L [.str "north",.str "east",.str "south",.str "west"])=ac (.D<|.bl (if neg then !aP x else aP x)):=by have:=E5 a E6 neg;rwa[yu] at this
def kS (a:y1 x=bi)(neg):fx neg (.str x) (.U [.str "north",.str "east",.str "south",.str "west"])=ac (.D<|.bl (if neg then !aP x else aP x)):=by have:=OY a E6 neg;rwa[yu] at this
abbrev Fl:=MG eT
def aU(x:eT×Ob):Dat:=.U [.str x.1,.int x.2.l,.int x.2.b,.int x.2.r,.int x.2.t]
def bw(rs:Fl):Dat:=.L<|rs.map aU
section
variable{P:lq}{w:qh}{K:gW}{mg:eT->Option dk}{base:pq}
def Qk (h:0<=i)(h':i<26):cy (.str "abcdefghijklmnopqrstuvwxyz") (.int i)=ac (.str ⟨#[97+i.toNat]⟩):=by
 have key:∀j:Fin 26,(lT "abcdefghijklmnopqrstuvwxyz").cps.toList[j.val]?=ac (97+j.val):=by decide +kernel
 have e:=key ⟨i.toNat,by lia⟩;have a:=iO e;rw[Int.toNat_of_nonneg h] at a;show (if (lT "abcdefghijklmnopqrstuvwxyz").length<=eu then (dc (lT "abcdefghijklmnopqrstuvwxyz").cps.toList i).map (λc=>Dat.str ⟨#[c]⟩) else am)=_;rw[if_pos (by rw[show (lT "abcdefghijklmnopqrstuvwxyz").length=26 from by decide +kernel];simp[eu]),a];rfl
def vL{n:Int}{k:Nat}{x:Dat}(h:(dF 0 n)[k]?=ac x):(k:Int)<n/\x=.int k:=by have h1:=(bt.1 h).1;simp_all [dF]
def gg (h:(δ[i]?).bind ownOf=ac (false,.L xs))(a:fa δ=ac ([d],δ))(hl:xs.length<eu):kf i mH fa δ=ac (.aF,δ.set i<|.O<|.L<|xs++[d]):=by delta kf;rw[h];rw[a];show ((δ[i]?).bind ownOf).bind _=_;rw[h];show (if xs.length<eu then ac (Dat.aF,Dat.L<|xs++[d]) else am).map _=_;rw[if_pos hl];rfl
theorem join_one:∀cs:List Nat,(aen (lT "") (cs.map λc=>(⟨#[c]⟩:eT))).cps.toList=cs
 | []=>rfl
 | [c]=>rfl
 | c::d::r=>by
  have e:(lT "").cps=#[]:=by decide +kernel
  show ((⟨#[c]⟩:eT)++lT "" ++ aen (lT "") ((d::r).map λc=>(⟨#[c]⟩:eT))).cps.toList=_;simp only[aaR,e,aay,join_one (d::r)];simp
def QJ(cs):(abU (lT "") (cs.map λc=>(⟨#[c]⟩:eT))).cps.toList=cs:=by simp[abU,StrLaws.glued_eq_join,join_one]
theorem x6 (f):∀cs:List a,dq (cs.map λc=>.str<|f c)=ac (cs.map f)
 | []=>rfl
 | c::cs=>by simp only[mA,dq,x6 f cs];rfl
structure uS (c:Nat) (x:eT):Prop where
 fst:x.cps.toList[0]?=ac c
 ua:∀a∈x.cps.toList,gI a=bi
 len:x.cps.toList.length<=8
def R9{i:Int}(h:0<=i)(h':i<26):gI (97+i.toNat)=bi:=by delta gI;simp;lia
def uS.nm (h:uS c x)(hw:aP x=bv):fU x=bi:=by have b:=h.len;have a:=(bt.1 h.fst).1;have b:x.length<=8:=b;have a:0<x.length:=a;delta fU;simp only[hw,decide_eq_true a,decide_eq_true (by lia:x.length<9),hE.2 h.ua];rfl
theorem LR(x):aP (x++lT "x")=bv:=by
 cases e:aP (x++lT "x") with
 | false=>rfl
 | true =>
  have key:∀y∈sf,y.cps.toList.getLast?≠ac 120:=by decide +kernel
  have:(sf.any λy=>bd<|y=x++lT "x")=bi:=by rw[yu];exact e
  obtain⟨y,a,e⟩:=z8.1 this;have e:y=x++lT "x":=by simpa using e
  refine absurd ?_<|key y a;simp only[e,aaR,aay,show (lT "x").cps.toList=[120] from by decide +kernel];simp
end
local macro_rules | `(tactic| walk_at $s:str)=>Mq.go s "0@LB rrarA|Sq rrarA|DE.alt&Vr rrrarA&wV rrarA|Mv~1@Br rrararrD|P6 jrrrrDA|NK arVhddgD"
section
variable{P:lq}{w:qh}{K:gW}{mg:eT->Option dk}{base:pq}
def Ba (h:f δ=ac (.U ds,δ1)):alt (jG f) (kh f) δ=ac (ds,δ1):=by apply gf;delta jG;rw[h];rfl
def LI (h:ns≠[]):iX ns∈ns:=by have h0:=Z3.2 h;obtain⟨h1,_⟩:=argBest_gt (λi=>(ns[i]?).getD 0)<|ns.length-1;delta iX;rw[bg ∅];exact aat _
def MX (h:a∈ns):a<=iX ns:=by obtain⟨h1,b⟩:=argBest_gt (λi=>(ns[i]?).getD 0)<|ns.length-1;obtain⟨j,c,e⟩:=oy h;have:=b j (by lia);simp only[bg c,e] at this;exact this
def ne_int(i j):eF true (.int i) (.int j)=ac (.D<|.bl<|!bd (i=j)):=by rw[pC lG lG,lY]
def eq_int(i j):eF false (.int i) (.int j)=ac (.D<|.bl<|bd<|i=j):=by rw[v_eq lG lG,lY]
theorem oK{a:Type}(xs:List a)(k:Nat):cutD xs (ac (k:Int)) am=xs.drop k:=by simp[cutD,Ft,DJ,ab3]
theorem nH{a:Type}(xs:List a)(k:Nat):cutD xs am (ac (k:Int))=xs.take k:=by simp[cutD,Ft,DJ]
def lJ (h:f δ=ac (d,δ1))(a:g δ1=ac (.int i,δ2))(b:fD d (ac i) am=ac r):kB f (lA g) o8 δ=ac (r,δ2):=by delta kB;rw[h];simp;delta lA;rw[a];show (fD d (ac i) am).map _=_;rw[b];rfl
def ki (h:f δ=ac (d,δ1))(h1:g δ1=ac (.int i,δ2))(h2:fD d am (ac i)=ac r):kB f o8 (lA g) δ=ac (r,δ2):=by simp_all [kB,o8,lA]
noncomputable def ao(k:Nat):Str:=if k=0 then "north" else if k=1 then "east" else if k=2 then "south" else "west"
theorem tU{ns:List eT}(a:∀x∈ns,bh x){m:eT}(hm:bh m):kR (.str m) (ns.map .str)=ns.findIdx? (λx=>bd<|x=m):=by
 delta kR;induction ns with
 | nil=>rfl
 | cons x ns b=>show ((toPy<|.str x)::dj (ns.map .str)).findIdx? _=_;have ex:aab (toPy<|.str x) (toPy<|.str m)=bd (x=m):=jb x m;rw[aeB,aeB,ex,b λy c=>a y<|fk _ c]
def kU{ns:List eT}(a:∀x∈ns,bh x):bH (.L<|ns.map .str)=bi:=l4 (by show (ns.map Dat.str).all fg=bi;rw[hE];intro d hd;obtain⟨x,b,rfl⟩:=ee.1 hd;exact (a x b).ok)
def n4 (h:f δ=ac (.L ds,δ1))(h1:fa δ1=ac ([d],δ2))(c1:bH (.L ds)=bi)(c2:bH d=bi)(e:kR d ds=ac j):sy f fa δ=ac (.int (j:Int),δ2):=by delta sy;simp_all
noncomputable def pairD(x:eT×List eT):Dat:=.U [.str x.1,.L<|x.2.map .str]
def Fr(s:Slot):Prop:=s=.no\/∃d,s=.D d
noncomputable def js(l:List (Int×eT)):List (Int×eT):=l.mergeSort λa b=>bd<|a.1<=b.1
noncomputable def gh(p:Int×eT):Dat:=.U [.int p.1,.str p.2]
theorem QE(l:List (Int×eT)):firstsI (l.map gh)=ac (l.map (·.1)):=by
 induction l with
 | nil=>rfl
 | cons x l a=>rw[mA,firstsI,a];rfl
def Ip (c:(l.map (·.1)).Nodup)(d:l.length<64):rC [.L (l.map gh)]=ac (.O<|.L<|(js l).map gh):=by show (firstsI _).bind _=_;rw[QE];show (if _/\_ then _ else am)=_;rw[if_pos ⟨c,by rw[ax];exact d⟩];delta js uo;rw[<-aez (r:=λa b:Int×eT=>bd<|a.1<=b.1) (λa _ b _=>rfl)]
def AL(l):(js l).length=l.length:=(jn _ _).length_eq
def HM:p∈js l ↔ p∈l:=(jn _ _).mem_iff
def dE (h0:δ[i]?=ac (.D<|.fu a))(h:g δ=ac (.str k,δ1))(h':ck a k=ac d):mY i g δ=ac (d,δ1):=by simp_all [mY]
def ff(low:Nat)(x y:Ob):Bool:=if low=1 then bd (x.l<y.r)&&bd (y.l<x.r) else bd (x.b<y.t)&&bd (y.b<x.t)
def cP(k:Nat)(x y:Ob):Bool:=if k=0 then bd (y.b=x.t)&&ff 1 x y else if k=1 then bd (y.l=x.r)&&ff 2 x y else if k=2 then bd (y.t=x.b)&&ff 1 x y else bd (y.r=x.l)&&ff 2 x y
def uY (h:c δ=ac (b,δ1))(a:b=bi)(t:WS s δ1 Q):WS (jm c s s') δ Q:=bK h (λ_=>t)<|λz=>absurd (a.symm.trans z) ⋯
def tN (h:c δ=ac (b,δ1))(a:b=bv)(t:WS s' δ1 Q):WS (jm c s s') δ Q:=bK h (λz=>absurd (a.symm.trans z) ⋯)<|λ_=>t
theorem Ni(l:Fl):firstsD (l.map aU)=ac (l.map (·.1)):=by
 induction l with
 | nil=>rfl
 | cons x l a=>rw[mA,firstsD,a];rfl
def sd(rs:Fl):Fl:=rs.mergeSort λa b=>eZ (aU a)<|aU b
def Ph(rs)(f)(h:∀a∈rs,∀b∈rs,eZ (f a) (f b)=eZ (aU a) (aU b)):rf (rs.map f)=(sd rs).map f:=by delta rf sd;rw[<-aez (λa c b d=>(h a c b d).symm)]
end
theorem AG:∀(l d:List Key),d.Nodup->((l.foldl g9 d).length=d.length+l.length ↔ l.Nodup/\∀x∈l,x∉d)
 | [],d,_=>⋯
 | v::l,d,h=>by
  have le:∀(l d:List Key),(l.foldl g9 d).length<=d.length+l.length:=by
   intro l;induction l with
   | nil=>intro d;simp
   | cons a l f=>intro d;simp;have:=f<|g9 d a;have e:=B3 d a;split at e<;>lia
  simp only[aa',gk];by_cases g:v∈d
  ·have e:g9 d v=d:=if_pos (z8.2 ⟨v,g,⋯⟩);constructor
   ·intro z;have:=le l d;lia
   rintro⟨_,z⟩;cases z v (eN ..) g
  have e:g9 d v=d++[v]:=if_neg (by simp_all);have h':(d++[v]).Nodup:=by rw[zb];refine⟨h,⋯,?_⟩;grind
  have f:=AG l (d++[v]) h';simp only[gd,ZM] at f;rw[e,show d.length+(l.length+1)=d.length+1+l.length from by lia,f,sk];constructor
  ·rintro⟨a,b⟩;refine⟨⟨λz=>b v z ⋯,a⟩,?_⟩;simp_all
  rintro⟨⟨a,b⟩,c⟩;refine⟨b,λx hx z=>?_⟩;simp_all
def tZ(ys):jR ys=ys.length ↔ ys.Nodup:=by
 dsimp only[jR,dN];have e:(hM ys.length).map (λi=>(pl ((ys[i]?).getD aaZ):Key))=ys.map pl:=by
  apply ae6
  ·simp
  intro i h1 b;have:i<ys.length:=by simpa using b
  simp[this]
 rw[e];have:=AG (ys.map pl) [] aap;simp only[ax,aah,ZE] at this;rw[this];constructor
 ·rintro⟨a,_⟩;exact (ox.1 a).imp λh z=>h (by rw[z])
 intro a;exact⟨ox.2 (a.imp λh z=>h<|Sum.inr.inj z),λx _ z=>by cases z⟩
theorem Q5{b:Type}{R:b->b->Prop}{l:List b}(h:l.Pairwise R){x y:b}(d:x∈l)(a:y∈l):x=y\/R x y\/R y x:=by
 induction h with
 | nil=>cases d
 | cons e _ f =>
  rcases hO.1 d with rfl|c
  ·rcases hO.1 a with rfl|a
   ·exact ι ρ
   exact τ<|ι<|e y a
  rcases hO.1 a with rfl|a
  ·exact τ<|τ<|e x c
  exact f c a
section
variable{P:lq}{w:qh}{K:gW}{mg:eT->Option dk}{base:pq}
def qR (h:fU x=bi):bh x:=by delta fU at h;simp only[hF,decide_eq_true_eq] at h;obtain⟨⟨⟨h0,h1⟩,b⟩,_⟩:=h;refine⟨?_,by lia⟩;rw[acA];intro a c;have:=hE.1 b a<|aa3.2 c;unfold gI at this;lia
def Tq(a):cY a a=bi:=mh.2<|aaO _
def Dd (c:j<4)(d:k<4)(h:ao j=ao k):j=k:=by
 have key:∀a b:Fin 4,ao a.val=ao b.val->a=b:=by decide +kernel
 exact congrArg Fin.val<|key ⟨j,c⟩ ⟨k,d⟩ h
def r9(x y):cP 0 x y=bi ↔ y.b=x.t/\x.l<y.r/\y.l<x.r:=by simp[cP,ff]
def si(x y):cP 1 x y=bi ↔ y.l=x.r/\x.b<y.t/\y.b<x.t:=by simp[cP,ff]
def pX(x y):cP 2 x y=bi ↔ y.t=x.b/\x.l<y.r/\y.l<x.r:=by simp[cP,ff]
def pO(x y):cP 3 x y=bi ↔ y.r=x.l/\x.b<y.t/\y.b<x.t:=by simp[cP,ff]
variable{rs:Fl}
end
noncomputable def cn(web:List (eT×List eT))(n:eT):List Str:=((web.find? λp=>bd<|p.1=n).map (·.2)).getD []
noncomputable def jt(a b:eT):Bool:=!cY b a
theorem sY:Order jt where
 kK:=λa=>by unfold jt;rw[Tq];rfl
 tr:=λa b c d e=>by
  delta jt at *;simp only[t8] at *;cases h:cY c a with
  | false=>rfl
  | true=>have t:=zt b a;rw[d,O1] at t;rw[ym _ _ _ h t] at e;contradiction
 fL:=λa b h=>by
  delta jt;cases d:cY b a with
  | false=>exact ι ρ
  | true =>
   cases e:cY a b with
   | false=>exact τ ρ
   | true=>exact absurd ((λc d=>ly<|aaX (ZX.1<|mh.1 c)<|ZX.1<|mh.1 d) e d) h
theorem cE (nd:(web.map (·.1)).Nodup)(a:p∈web):cn web p.1=p.2:=by
 delta cn;cases e:web.find? λz=>bd (z.1=p.1) with
 | none=>have:=L'.1 e p a;simp at this
 | some z =>
  have b:=ZT e;have c:z.1=p.1:=by simpa using aba e
  have:z=p:=by
   rcases Q5 (ox.1 nd) b a with q|q|q
   ·exact q
   simp_all;exact absurd c.symm q
  rw[this];rfl
local macro_rules | `(tactic| walk_at $s:str)=>Mq.go s "U@DX A|MR rarA~1@Qu ardrrrrA~0@Pn hrVddrU|Tx rrarA|J5 rarA|Ai rrrarA|QX rarA|Mz DD~T@LQ hrVddrU|PK hrVddrU|Qr DD~I@RL rarrA|ID arVdd|IZ arVdd|Jg a0~Z@SO aNrLFrE|JM aNrLFr|KC rVhddrDU|Uu wTS"
section
variable{P:lq}{w:qh}{K:gW}{mg:eT->Option dk}{base:pq}
noncomputable abbrev ET:List Str:=["north","east","south","west"]
noncomputable abbrev kX:Dat:=.U [.str "north",.str "east",.str "south",.str "west"]
def ur(fn:aY):Prop:=∀k,k<4->fn [.str (ao k)]=ac (.D<|.str<|ao<|(k+1)%4)
def NF(T:Txt mg)(w1:fP K mg "WALLS" kX)(w2:wO K mg "WALLS" ET)(F:a9 K "follower" "follower" zf f a):∃fn,aS P w K mg base bb 1 f a ["wall"] (aG K fn)/\ur fn:=by
 refine' bW F Eg ρ ?C ?B
 case C=>walk_at "h"
 intro k hk;have:k=0\/k=1\/k=2\/k=3:=by lia
 rcases this with rfl|rfl|rfl|rfl<;>rfl
def Sk(ns:List eT)(k:Nat):fD (.L<|ns.map .str) (ac (k:Int)) am=ac (.O<|.L<|(ns.drop k).map .str):=by show ac (Res.O<|.L<|cutD (ns.map Dat.str) (ac (k:Int)) am)=_;rw[oK,aaB]
def NJ(ns:List eT)(k:Nat):fD (.L<|ns.map .str) am (ac (k:Int))=ac (.O<|.L<|(ns.take k).map .str):=by show ac (Res.O<|.L<|cutD (ns.map Dat.str) am<|ac (k:Int))=_;rw[nH,aaA]
def gz (h:c δ=ac (b,δ1))(hb:b=bv)(n:WS g δ1 Q):WS (gE (jm c s lE) g) δ Q :=
 af (bK h (by simp_all) λ_=>aw<|ai n)
def dU{ns:List eT}(a:∀x∈ns,bh x){m:eT}(hm:bh m)(neg:Bool):fx neg (.str m) (.L<|ns.map .str)=ac (.D<|.bl (if neg then !bd (m∈ns) else bd (m∈ns))):=by
 rw[E5 hm.ok (λy b=>(a y b).ok)];have:(ns.any λy=>bd<|y=m)=bd (m∈ns):=by rw[nF];simp
 rw[this]
def HL (a:bh x)(b:bh y):eF true (.str x) (.str y)=ac (.D<|.bl<|!bd (x=y)):=by rw[pC (fT a.ok) (fT b.ok),jb]
def aQ:List Str:=[ao 0,ao 1,ao 2,ao 3]
structure bI (web:List (eT×List eT)):Prop where
 bz:1<=web.length/\web.length<=8
 nm:∀p∈web,fU p.1=bi
 nd:(web.map (·.1)).Nodup
 rg:∀p∈web,3<=p.2.length/\p.2.Nodup/\∀n∈p.2,(n∈web.map (·.1)\/n∈aQ)/\n≠p.1
def dY:∀n∈aQ,bh n:=by intro n a;simp[aQ] at a;rcases a with rfl|rfl|rfl|rfl<;>exact⟨by decide +kernel,by decide +kernel⟩
def bI.txt (h:bI web)(a:n∈web.map (·.1)\/n∈aQ):bh n:=by
 rcases a with a|a
 ·obtain⟨p,b,rfl⟩:=ee.1 a;exact qR<|h.nm p b
 exact dY n a
theorem mR [DecidableEq b]:∀{l m:List b},l.Nodup->(∀x∈l,x∈m)->l.length<=m.length
 | [],_,_,_=>pe _
 | a::l,m,c,h=>by have d:=mR (l:=l) (m:=m.erase a) (sk.1 c).2 λx e=>(aa4 λz=>by simp_all).2 (h x<|fk _ e);rw[aaC (h a eN)] at d;have:=WG<|h a eN;simp;lia
def bI.len (h:bI web)(b:p∈web):p.2.length<=12:=by
 have a:=(h.rg p b);have:p.2.length<=(web.map (·.1)++aQ).length:=by exact mR a.2.1 λn c=>hY.2 (a.2.2 n c).1
 rw[gd,ax] at this;have:=h.bz;have:aQ.length=4:=ρ;lia
abbrev ay:=List<|eT×List eT
noncomputable def bS(web:ay):List (eT×Dat):=web.map λp=>(p.1,.L<|p.2.map .str)
def az(web:ay):Dat:=.fu<|bS web
def lS{c:Type}{l:List (eT×c)}(nd:(l.map (·.1)).Nodup){p q:eT×c}(f:p∈l)(g:q∈l)(e:p.1=q.1):p=q:=by obtain⟨i,d⟩:=aeb.1 f;obtain⟨j,b⟩:=aeb.1 g;cases sx nd (a:=p.1) (by rw[ez,d];rfl) (by rw[ez,b,e];rfl);rw[d] at b;exact Option.some.inj b
theorem dG (nd:(web.map (·.1)).Nodup)(a:p∈web):ck (bS web) p.1=ac (.L<|p.2.map .str):=by
 have e:(web.find? λq=>bd<|q.1=p.1)=ac p:=by
  cases e:web.find? λq=>bd (q.1=p.1) with
  | none=>exact absurd (L'.1 e p a) ⋯
  | some q=>have b:=ZT e;have c:=aba e;rw[lS nd b a (by simpa using c)]
 delta ck bS;rw[afo];show ((web.find? λq=>bd<|q.1=p.1).map _).map _=_;rw[e];rfl
def LC(web)(n):(ck (bS web) n).isSome=bd (n∈web.map (·.1)):=by delta ck bS;rw[nF];simp
def gQ(web)(n)(neg):fx neg (.str n) (az web)=ac (.D (.bl (if neg then !bd (n∈web.map (·.1)) else bd (n∈web.map (·.1))))):=by rw[<-LC];rfl
def cZ{a:Type}{l:List a}{k:Nat}{x:a}(h:l[k]?=ac x):l.take (k+1)=l.take k++[x]:=by rw[List.take_succ,h];rfl
def rF (h:c δ=ac (b,δ1))(hb:b=bi)(a:e δ1=ac (r,δ2))(q:Q (.ret r δ2)):WS (gE (jm c (gE (nJ e) lE) s') g) δ Q :=
 af (bK h (λ_=>af<|aZ a q) λz=>by simp_all)
structure Named (web:List (eT×List eT)):Prop where
 bz:1<=web.length/\web.length<=7
 nd:(web.map (·.1)).Nodup
 nm:∀p∈web,fU p.1=bi
 tx:∀p∈web,∀n∈p.2,bh n
 ln:∀p∈web,p.2.length<=50
def De(fn:aY):Prop:=∀x,fU x=bi->fn [.str x]=ac (.D<|.bl true)
def Tt(T:Txt mg)(m:fP K mg "WALLS" (.U [.str "north",.str "east",.str "south",.str "west"]))(o:fP K mg "LONGEST_NAME" (.int 8))(F:a9 K "is_name" "is_name" xI f k):∃fn,aS P w K mg base bb 1 f k ["thing"] (aG K fn)/\De fn:=by
 refine' bW F GW (n:=1) ρ ?C ?B
 case C=>have nd:=GW.nd;walk_at "h"
 clear T F m o;intro x nm;have tx:=qR nm;have a:=nm;unfold fU at a;simp only[hF,decide_eq_true_eq,t8] at a;obtain⟨⟨⟨n1,n2⟩,p⟩,hw⟩:=a;have iw:=kS tx.ok false;have i1:qY (.str x) "str"=ac true:=ρ;have hl:bZ (.str x)=ac x.length:=if_pos<|GR tx;refine' cA ρ ?w;show WS _ [.D (.str x)] _;walk_at "w";walk_at "wif";refine⟨λz=>(by rw[show aP x=bi from z] at hw;cases hw),λ_=>?_⟩;walk_at "w";walk_at "wif";refine⟨λl=>?_,λl=>?_⟩
 ·simp at l;omega
 walk_at "w";refine' AJ<|QW<|Kd<|R8<|Ul (Sw (λx=>[.no,.D x]) (λ_=>true) (λd=>match d with|.str y=>.bl (y.cps.toList.all gI)|_=>.aF) (NS ?i tx.ua) ρ ?z ?g ?c ?e ?n)<|KW ?q
 case i=>walk_at "v"
 case z=>rw[ax,nT];exact GR tx
 case g=>intro y j δ hd;rcases hd with rfl|⟨z,rfl⟩<;>rfl
 case c=>intro y j;rfl
 case e=>intro y j _;obtain⟨c,r,rfl⟩:=ee.1 j;show kd iV iV (fC<|.str "a") (cS 1) (fC<|.str "z") [.no,.D<|.str ⟨#[c]⟩]=ac (.bl<|([c]:List Nat).all gI,[.no,.D<|.str ⟨#[c]⟩]);have t:iV (.str "a") (.str ⟨#[c]⟩)=ac (.D<|.bl<|!bd (([c]:List Nat)<[97])):=ρ;have u:iV (.str ⟨#[c]⟩) (.str "z")=ac (.D<|.bl<|!bd (([122]:List Nat)<[c])):=ρ;have:=Fv (o1:=iV) (o2:=iV) (f:=fC<|.str "a") (g:=cS 1) (h:=fC<|.str "z") (δ:=[.no,.D<|.str ⟨#[c]⟩]) ρ ρ t ρ u;rw[this,RG];simp
 case n=>intro y j;rfl
 have e:((x.cps.toList.map λc=>Dat.str ⟨#[c]⟩).filter λ_=>true).map (λd=>match d with|.str y=>Dat.bl (y.cps.toList.all gI)|_=>Dat.aF)=x.cps.toList.map λc=>Dat.bl (gI c):=by rw[aer.2 (by intros;rfl),hG];apply S';intro c r;simp
 refine⟨.D<|.bl true,?_,_,ρ⟩;show n5 [.L _]=_;rw[e];show (jN _).map _=_;rw[tT];show ac (Res.D<|Dat.bl<|(x.cps.toList.map gI).all id)=_;rw[adW];exact congrArg (λb=>ac<|Res.D<|.bl b) p
def AN(fn:aY):Prop:=∀p:eT×List eT,fU p.1=bi->fn [pairD p]=ac (.D<|.bl true)
def Sj(T:Txt mg)(e:ba P w K mg base "is_name" 1 (aG K c))(g:De c)(F:a9 K "is_pair" "is_pair" vU f d):∃fn,aS P w K mg base bb 2 f d ["thing"] (aG K fn)/\AN fn:=by
 refine' bW F CV (n:=1) ρ ?C ?B
 case C=>have nd:=CV.nd;walk_at "h"
 clear T F e;intro p h;have i:=g p.1 h;refine' cA ρ ?w;show WS _ [.D (.U [.str p.1,.L<|p.2.map .str])] _;refine' gz ?a ρ ?b
 case a=>walk_at "v"
 exact af<|aZ (v_res<|pW (ag (aB (by rfl) i) ρ) (by rfl)) ⟨_,ρ⟩
def v_allB{a:Type}{enc:a->Dat}{caps:List (Option Nat)}{fi:IF}{g:GF}{fe:DF}{xs:List a}{δ δ1 δ2:DS}(put:a->DS)(B:a->Bool)(b:fi δ=ac (xs.map enc,δ1))(c:bB am caps δ1=δ2)(d:xs.length<=eu)
 (e:∀x∈xs,∀δ,(δ=cC caps δ2\/∃y,δ=put y)->g (enc x) δ=ac (put x))(f:∀x∈xs,fe (put x)=ac (.bl<|B x,put x))(h:∀x∈xs,noOwn (put x)=bi) :
  bV n5 (fI (fX<|eV caps am fi g (fun δ=>ac (true,δ)) fe) iy) δ=ac (.D<|.bl<|xs.all B,δ2) :=
 aB (aa (ag (dX put (λx=>.bl<|B x) b c d e f h) ρ) ah) (AE B xs)
noncomputable def oC(room:eT)(ring names:List eT):Bool:=bd (3<=ring.length)&&ring.all (λn=>bd (n∈names)&&!bd (n=room))&&decide ring.Nodup
def Cd(fn:aY):Prop:=∀(room:eT) (ring names:List eT),bh room->ring.length<100->(∀n∈ring,bh n)->(∀n∈names,bh n)->fn [.str room,.L<|ring.map .str,.L<|names.map .str]=ac (.D<|.bl<|oC room ring names)
theorem KY(T:Txt mg)(w3:fP K mg "FEWEST_NEIGHBOURS" (.int 3))(hs:mg "set"=am){f:eH}{b:hU}(F:a9 K "is_ring" "is_ring" yR f b):∃fn,aS P w K mg base bb 1 f b ["room","ring","names"] (aG K fn)/\Cd fn:=by
 refine' bW F Fe (n:=3) ρ ?D ?B
 case D=>have nd:=Fe.nd;walk_at "h"
 clear T F;intro room ring names g h2 c h;refine' cA ρ ?w;show WS _ [.D (.str room),.D<|.L<|ring.map .str,.D<|.L<|names.map .str] _;have sz:ring.length<=sizeLine:=∅
 have ln:bZ (.L<|ring.map .str)=ac ring.length:=by simp[bZ]
 unfold oC;by_cases d:3<=ring.length
 case neg =>
  rw[decide_eq_false d];refine' rF ?a ?C ρ ⟨_,ρ⟩
  case a=>walk_at "v"
  case C=>simp;omega
 rw[decide_eq_true d];refine' gz ?a ?C ?G
 case a=>walk_at "v"
 case C=>simp;omega
 refine af (bK (jh<|fY (ag (v_allB (enc:=.str) (xs:=ring) (fun n=>[.no,.D<|.str n,.D<|.L<|names.map .str,.D<|.str room]) (fun n=>bd (n∈names)&&!bd (n=room)) (bU ρ) ρ sz (fun y hy δ hd=>by rcases hd with rfl|⟨z,rfl⟩<;>rfl) (fun n e=>pW (ag (ak ρ ρ<|dU h (c n e) false) ρ)<|ag (ak ρ ρ<|HL (c n e) g) ρ)<|fun _ _=>rfl) ρ) ρ) (fun z=>af<|aZ ρ<|gv ?_) fun z=>aw<|ai<|af<|aZ (ak (yS (cs:=ring) (fun x=>x) ρ ∅) (cu ρ ρ) qr)<|gv ?_)
 ·rw[t8] at z;rw[z];rfl
 rw[aaG] at z;rw[z,aaN,ax,nF,decide_eq_true_iff,aa2,aa2,decide_eq_true_iff,<-tZ];omega
def Cr(fn:aY):Prop:=∀web,Named web->∃b,fn [.L (web.map pairD)]=ac (.D<|.bl b)/\(b=bi ↔ bI web)
def JE(T:Txt mg)(w1:fP K mg "WALLS" kX)(w3:fP K mg "MOST_ROOMS" (.int 8))(hs:mg "set"=am)(i:ba P w K mg base "is_pair" 2 (aG K c))(j:AN c)(k:ba P w K mg base "is_ring" 1 (aG K d))(l:Cd d)(F:a9 K "has_form" "has_form" zH f e):∃fn,aS P w K mg base bb 3 f e ["web"] (aG K fn)/\Cr fn:=by
 refine' bW F Ea (n:=1) ρ ?C ?B
 case C=>have nd:=Ea.nd;walk_at "h"
 clear T F i k;intro web h;have bz:=h.bz;have nt:∀n∈web.map (·.1)++aQ,bh n:=λn b=>by
  rcases hY.1 b with b|b
  ·obtain⟨q,m,rfl⟩:=ee.1 b;exact qR<|h.nm q m
  exact dY n b
 refine⟨web.all λp=>oC p.1 p.2 (web.map (·.1)++aQ),?_,?_⟩
 case refine_2 =>
  rw[hE];constructor
  ·refine λz=>⟨∅,h.nm,h.nd,λp a=>?_⟩;have:=z p a;unfold oC at this;simp only[hF,decide_eq_true_eq,hE,t8,decide_eq_false_iff_not,hY] at this;exact⟨this.1.1,this.2,this.1.2⟩
  intro z p a;have:=z.rg p a;unfold oC;simp only[hF,decide_eq_true_eq,hE,t8,decide_eq_false_iff_not,hY];exact⟨⟨this.1,this.2.2⟩,this.2.1⟩
 have sz:web.length<=sizeLine:=∅
 have ln:bZ (.L<|web.map pairD)=ac web.length:=by simp[bZ]
 refine' cA ρ ?w;show WS _ [.D (.L<|web.map pairD),.no,.no] _;refine' gz ?k1 ?k2 ?k3
 case k1=>walk_at "v"
 case k2=>simp;omega
 refine' gz (jh<|fY (ag (v_allB (enc:=pairD) (xs:=web) (λp=>[.no,.D<|pairD p]) (λ_=>true) (bU ρ) ρ sz (λy g δ hd=>by rcases hd with rfl|⟨z,rfl⟩<;>rfl) (λp a=>ag (aB (aa ρ ah)<|j p<|h.nm p a) ρ)<|λ_ _=>rfl) ρ) ρ) ⋯ ?_;refine' af (aD (δ2:=[.D (.L<|web.map pairD),.O (.L ((web.map (·.1)).map .str)),.no]) (dX (enc:=pairD) (xs:=web) (λp=>[.no,.D<|.str p.1,.D<|.L<|p.2.map .str]) (λp=>.str p.1) (bU ρ) ρ sz (λy g δ hd=>by rcases hd with rfl|⟨z,rfl⟩<;>rfl) (λ_ _=>rfl)<|λ_ _=>rfl) (by rw[hG];rfl)<|ai ?_);refine' gz (aE (ak (yS (cs:=web.map (·.1)) (λx=>x) ρ (by rw[ax];omega)) (cu ρ ρ)<|ne_int _ _)) ?D ?k5
 case D=>simp only[aaN,(tZ _).2 h.nd,ax];simp
 refine' af (aD (δ2:=[.D (.L<|web.map pairD),.D (.L ((web.map (·.1)).map .str)),.O (.L ((web.map (·.1)++aQ).map .str))]) (ak ρ (ag (aB (aa ρ ah) ρ) ρ)<|kG (by simp[eu];omega)) (by rw[hI];rfl)<|ai ?_);exact af (aZ (v_allB (enc:=pairD) (xs:=web) (λp=>[.no,.D<|.str p.1,.D<|.L<|p.2.map .str,.D (.L ((web.map (·.1)++aQ).map .str))]) (λp=>oC p.1 p.2 (web.map (·.1)++aQ)) (bU ρ) ρ sz (λy g δ hd=>by rcases hd with rfl|⟨z,rfl⟩<;>rfl) (λp a=>ag (aB (aa ρ<|aa ρ<|aa ρ ah)<|l p.1 p.2 _ (qR<|h.nm p a) (NN (h.ln p a) ⋯) (h.tx p a) nt) ρ)<|λ_ _=>rfl) ⟨_,ρ⟩)
def dC(web:ay):Prop:=∀p∈web,∀q∈web,q.1∈p.2->p.1∈q.2
instance (web:ay):Decidable (dC web):=by unfold dC;infer_instance
def FP(fn:aY):Prop:=∀web:ay,bI web->fn [az web]=ac (.D<|.bl<|bd<|dC web)
def UA(T:Txt mg)(F:a9 K "ties_are_shared" "ties_are_shared" yK f I):∃fn,aS P w K mg base bb 1 f I ["rings"] (aG K fn)/\FP fn:=by
 refine' bW F B' ρ ?B ?D
 case B=>have fz:ik "rings":=⟨trivial⟩;walk_at "h"
 intro web h;refine' cA ρ ?w;refine' af<|cN (λk δ=>∃t a,Fr t/\Fr a/\(∀p∈web.take k,∀q∈web,q.1∈p.2->p.1∈q.2)/\δ=[.D (az web),t,a]) ρ ⟨_,_,ι ρ,ι ρ,⋯,rfl⟩ ?st ?J
 case J=>rintro _ ⟨t,a,L,i,hs,rfl⟩;refine ai<|af<|aZ ρ<|gv ?_;rw[ax,show (bS web).length=web.length from by simp[bS],mv] at hs;exact (decide_eq_true hs).symm
 rintro k x o _ ⟨t,a,L,i,hs,rfl⟩;unfold bS at o;rw[hG,ez] at o;obtain⟨p,ep,rfl⟩:=gj.1 o;have G:=fB ep;refine⟨[.D (az web),.D<|.str p.1,a],by rcases L with rfl|⟨d,rfl⟩<;>rfl,?_⟩;refine af<|cN (λj δ=>∃a,Fr a/\(∀n∈p.2.take j,∀q∈web,q.1=n->p.1∈q.2)/\δ=[.D (az web),.D<|.str p.1,a]) (bU<|dE ρ ρ<|dG h.nd G) ⟨_,i,⋯,rfl⟩ ?_ ?_
 ·rintro j y M _ ⟨a,i,r,rfl⟩;rw[ez] at M;obtain⟨n,N,rfl⟩:=gj.1 M;have Q:=fB N;have O:=cZ N;refine⟨[.D (az web),.D<|.str p.1,.D<|.str n],by rcases i with rfl|⟨d,rfl⟩<;>rfl,?_⟩;by_cases u:n∈web.map (·.1)
  ·obtain⟨q,b,rfl⟩:=ee.1 u;have l:=gQ web q.1 false;rw[decide_eq_true u] at l;have v:=dU (λx o=>h.txt ((h.rg q b).2.2 x o).1) (h.txt<|ι<|ee.2 ⟨p,G,ρ⟩) true;by_cases B:p.1∈q.2
   ·rw[decide_eq_true B] at v;refine gz (v_and (aE<|ak ρ ρ l)<|um ρ<|aE<|ak ρ (dE ρ ρ<|dG h.nd b) v) ρ<|aw ⟨_,τ ⟨_,ρ⟩,?_,ρ⟩;rw[O];intro m hm C c e;rcases hY.1 hm with hm|hm
    ·exact r m hm C c e
    cases kH.1 hm;rw[lS h.nd c b e];exact B
   rw[decide_eq_false B] at v;refine rF (v_and (aE<|ak ρ ρ l)<|um ρ<|aE<|ak ρ (dE ρ ρ<|dG h.nd b) v) ρ ρ ?_;refine gv (decide_eq_false λz=>B<|z p G q b Q).symm
  have l:=gQ web n false;rw[decide_eq_false u] at l;refine gz (v_and (aE<|ak ρ ρ l)<|xW ρ ρ) ρ<|aw ⟨_,τ ⟨_,ρ⟩,?_,ρ⟩;rw[O];intro m hm C c e;rcases hY.1 hm with hm|hm
  ·exact r m hm C c e
  cases kH.1 hm;exact absurd (ee.2 ⟨C,c,e⟩) u
 rintro _ ⟨a,i,r,rfl⟩;rw[ax,mv] at r;refine ai<|aw ⟨_,_,τ ⟨_,ρ⟩,i,?_,ρ⟩;rw[cZ ep];intro R g q b hm;rcases hY.1 g with g|g
 ·exact hs R g q b hm
 cases kH.1 g;exact r _ hm q b ρ
noncomputable def dD(l:List (List eT))(k:List eT):List (List eT):=if k∈l then l else l++[k]
def dv(a:List (List eT)):List (List eT):=a.foldl dD []
noncomputable def bP(l:List (List eT)):cT:=l.map (·,.bl true)
def Ic(l)(k):gy (bP l) k (.bl true)=bP (dD l k):=by
 have e:(cf (bP l) k).isSome=bd (k∈l):=by dsimp only[cf,bP];rw[nF];simp
 delta gy dD;rw[e];by_cases h:k∈l
 ·rw[if_pos (by simpa using h),if_pos h];delta bP;rw[hG];refine S' λx _=>?_;show (if x=k then (x,Dat.bl true) else (x,Dat.bl true))=_;split<;>rfl
 rw[if_neg (by simpa using h),if_neg h];delta bP;simp only[hI];rfl
def GI(l)(k):dv (l++[k])=dD (dv l) k:=by delta dv;rw[abD];rfl
theorem D6(l):(dv l).length<=l.length:=by
 have:∀(l a:List (List eT)),(l.foldl dD a).length<=a.length+l.length:=by
  intro l;induction l with
  | nil=>intro a;exact ft _
  | cons k l b =>
   intro a;have h:=b<|dD a k;have:(dD a k).length<=a.length+1:=by unfold dD;split<;>simp
   simp;show (l.foldl dD<|dD a k).length<=_;lia
 have:=this l [];simp at this;exact this
theorem IA(l):(∀k,k∈dv l ↔ k∈l)/\(dv l).Nodup:=by
 have:∀(l b:List (List eT)),b.Nodup->(∀k,k∈l.foldl dD b ↔ k∈b\/k∈l)/\(l.foldl dD b).Nodup:=by
  intro l;induction l with
  | nil=>intro b h;exact⟨λk=>by simp,h⟩
  | cons a l g =>
   intro b h;have i:(dD b a).Nodup:=by
    delta dD;split
    ·exact h
    rename_i f;rw[zb];exact⟨h,⋯,λx j y m e=>f (by rw[kH.1 m] at e;rw[<-e];exact j)⟩
   obtain⟨c,d⟩:=g _ i;refine⟨λk=>?_,d⟩;show k∈l.foldl dD (dD b a) ↔ _;rw[c k];delta dD;split
   ·rename_i f;grind
   grind
 obtain⟨c,d⟩:=this l [] aap;exact⟨λk=>by rw[show dv l=l.foldl dD [] from ρ,c k];simp,d⟩
theorem IE:∀{l:List (List eT)},l.Nodup->dv l=l:=by
 have:∀(l b:List (List eT)),(b++l).Nodup->l.foldl dD b=b++l:=by
  intro l;induction l with
  | nil=>intro b h;simp
  | cons a l c=>intro b h;have d:a∉b:=λz=>(zb.1 h).2.2 a z a eN ρ;show l.foldl dD (dD b a)=_;rw[show dD b a=b++[a] from if_neg d,c _ (by rw[wm];exact h),wm];rfl
 intro l h;exact this l [] h
def AA (h:f δ=ac (.bl true,δ))(d:a δ=ac (k,δ))(b:(δ[i]?).bind ownOf=ac (false,.aX c<|bP l))(h3:l.length<1000):lb i a f δ=ac (.next<|δ.set i<|.O<|.aX false<|bP<|dD l k):=by delta lb;simp[h];simp[b];rw[d];show ((δ[i]?).bind ownOf).bind _=_;rw[b];show (if (bP l).length<eu then _ else am)=_;rw[if_pos (by unfold bP eu;rw[ax];lia),Ic];rfl
def aO(web:ay):List (List eT):=web.flatMap λp=>(gZ p.2).map λq=>[p.1,q.1,q.2]
def u6(fn:aY):Prop:=∀web:ay,bI web->fn [az web]=ac (.O<|.aX false<|bP<|aO web)
theorem xO (h:∀p∈web,p.2.length<=12):(aO web).length<=12*web.length:=by
 delta aO;induction web with
 | nil=>simp
 | cons p web a=>have h1:=a λq b=>h q<|fk _ b;have h2:=h p eN;simp only[aal,gd,ax,G7,gk];lia
def wG (nd:(web.map (·.1)).Nodup):aO web=(corners (web.map (·.1))<|cn web).map λc=>[c.1,c.2.1,c.2.2]:=by delta aO corners;rw[ae4,ae5];refine congrArg _ (S' λp a=>?_);simp only[cE nd a,hG];rfl
def Ii (h:bI web):(aO web).Nodup:=by
 refine List.pairwise_flatMap.2 ⟨λp c=>?_,?_⟩
 ·have nd:=(h.rg p c).2.1;rw[<-Dh p.2] at nd;refine ox.2 ((ox.1 nd).imp λ{a b} n e=>n ?_);simp only[ZK] at e;exact e.2.1
 refine (ox.1 h.nd).imp λ{a b} n x d y f e=>n ?_;obtain⟨_,_,rfl⟩:=ee.1 d;obtain⟨_,_,rfl⟩:=ee.1 f;simp at e;exact e.1
def Di (h:δ[i]?=ac (.D<|.L<|ns.map .str))(hz:ns.length<=100):ui (fI (cS i)<|fI (fX<|cO i5 (fX<|kB (cS i) (lA<|fC<|.int 1) o8)<|fX<|kB (cS i) o8<|lA<|fC<|.int 1) iy) δ=ac ((gZ ns).map λq=>.U [.str q.1,.str q.2],δ):=by
 have a:cS i δ=ac (.L<|ns.map .str,δ):=by unfold cS;rw[h]
 have b:=Sk ns 1;have c:=NJ ns 1;delta ui;rw[aa a (aa (ag (ak (ag (lJ a ρ b) ρ) (ag (ki a ρ c) ρ)<|kG (by unfold eu;simp;omega)) ρ) ah)];show ac (k8 (ns.map .str)<|(ns.drop 1).map .str++(ns.take 1).map .str,δ)=_;delta k8 gZ;rw[<-hI,afT,hG];rfl
theorem RM(T:Txt mg)(r:mg "zip"=am){f:eH}{u:hU}(F:a9 K "corners_of" "corners_of" yV f u):∃fn,aS P w K mg base bb 1 f u ["rings"] (aG K fn)/\u6 fn:=by
 refine' bW F Ee (n:=1) ρ ?J ?B
 case J=>have nd:=Ee.nd;have fz:ik "rings":=⟨trivial⟩;have tp:g8 "corners":=⟨trivial⟩;walk_at "h"
 clear T F r;intro web h;have hl:∀p∈web,p.2.length<=12:=fun p m=>h.len m;have bz:=h.bz;refine' cA ρ ?w;show WS _ [.D (az web),.no,.no,.no,.no,.no] _;refine' af<|aD (δ2:=[.D (az web),.O<|.aX false<|bP<|dv [],.no,.no,.no,.no]) ρ ρ<|ai ?_;refine' af<|cN (fun k δ=>∃o l c e,Fr o/\Fr l/\Fr c/\Fr e/\δ=[.D (az web),.O<|.aX false<|bP<|dv<|aO<|web.take k,o,l,c,e]) ρ ⟨_,_,_,_,ι ρ,ι ρ,ι ρ,ι ρ,ρ⟩ ?st ?C
 case C=>rintro _ ⟨o,l,c,e,v,z,g,i,rfl⟩;simp only[ax,show (bS web).length=web.length from ax ..,mv,IE<|Ii h];exact ai<|af<|aZ ρ ⟨_,ρ⟩
 rintro k x t _ ⟨o,l,c,e,v,z,g,i,rfl⟩;unfold bS at t;rw[hG,ez] at t;obtain⟨p,ep,rfl⟩:=gj.1 t;have m:=fB ep;have hlp:=hl p m;have hk:=(bt.1 ep).1;have r:=xO (web:=web.take k) fun q M=>hl q<|ZY M;rw[l5] at r;refine⟨[.D (az web),.O<|.aX false<|bP<|dv<|aO<|web.take k,.D<|.str p.1,l,c,e],by rcases v with rfl|⟨d,rfl⟩<;>rfl,?_⟩;refine' af<|aD (δ2:=[.D (az web),.O<|.aX false<|bP<|dv<|aO<|web.take k,.D<|.str p.1,.D<|.L<|p.2.map .str,c,e]) (v_res<|dE ρ ρ<|dG h.nd m) ?a<|ai ?b
 case a=>rcases z with rfl|⟨d,rfl⟩<;>rfl
 refine af<|cN (fun j δ=>∃c e,Fr c/\Fr e/\δ=[.D (az web),.O<|.aX false<|bP<|dv (aO (web.take k)++((gZ p.2).take j).map fun q=>[p.1,q.1,q.2]),.D<|.str p.1,.D<|.L<|p.2.map .str,c,e]) (Di ρ (by lia)) ⟨_,_,g,i,by simp only[adw,adV,wa]⟩ ?_ ?_
 ·rintro j y D _ ⟨c,e,g,i,rfl⟩;rw[ez] at D;obtain⟨q,eq,rfl⟩:=gj.1 D;generalize G:dv (aO (web.take k)++((gZ p.2).take j).map fun q=>[p.1,q.1,q.2])=L;have I:L.length<1000:=by rw[<-G];refine NN (D6 _) ?_;simp only[gd,ax,l5,G7];lia
  refine⟨[.D (az web),.O<|.aX false<|bP L,.D<|.str p.1,.D<|.L<|p.2.map .str,.D<|.str q.1,.D<|.str q.2],by rcases g with rfl|⟨d,rfl⟩<;>rcases i with rfl|⟨d,rfl⟩<;>rfl,?_⟩;refine af ⟨_,AA (k:=[p.1,q.1,q.2]) ρ ρ ρ I,ai<|aw ⟨.D<|.str q.1,.D<|.str q.2,τ ⟨_,ρ⟩,τ ⟨_,ρ⟩,?_⟩⟩;rw[cZ eq,hI,<-wm];show _=[_,Slot.O<|.aX false<|bP<|dv<|_++[_],_,_,_,_];rw[GI,G];rfl
 rintro _ ⟨c,e,g,i,rfl⟩;refine ai<|aw ⟨.D<|.str p.1,.D<|.L<|p.2.map .str,c,e,τ ⟨_,ρ⟩,τ ⟨_,ρ⟩,g,i,?_⟩;rw[cZ ep,show aO (web.take k++[p])=aO (web.take k)++(gZ p.2).map fun q=>[p.1,q.1,q.2] from by unfold aO;simp,ax,mv]
def QU(l)(k):(cf (bP l) k).isSome=bd (k∈l):=by delta cf bP;rw[nF];simp
def qw (h:a δ=ac (k,δ))(c:(δ[i]?).bind f'=ac (.aX b<|bP l)):mq neg i a δ=ac (.D<|.bl (if neg then !bd (k∈l) else bd (k∈l)),δ):=by delta mq;rw[h];show ((δ[i]?).bind f').bind _=_;rw[c,<-QU];rfl
def dZ(n):aP n=bi ↔ n∈aQ:=by simp[aP,aQ,ao,or_assoc]
def di (h:k<4):ao k∈aQ:=by
 have:k=0\/k=1\/k=2\/k=3:=by lia
 rcases this with rfl|rfl|rfl|rfl<;>simp[aQ]
def oI (h:n∈aQ):∃k,k<4/\n=ao k:=by
 simp[aQ] at h;rcases h with rfl|rfl|rfl|rfl
 ·exact⟨0,⋯,rfl⟩
 ·exact⟨1,⋯,rfl⟩
 ·exact⟨2,⋯,rfl⟩
 exact⟨3,⋯,rfl⟩
noncomputable def FJ(n:eT):Str:=if n="north" then "east" else if n="east" then "south" else if n="south" then "west" else "north"
def En (h:k<4):FJ (ao k)=ao ((k+1)%4):=by
 have:k=0\/k=1\/k=2\/k=3:=by lia
 rcases this with rfl|rfl|rfl|rfl<;>decide +kernel
def jv(cs:List (List eT))(x n m:eT):Bool:=if (aP n&&aP m)=bi then bd (m=FJ n) else (aP n||bd ([n,m,x]∈cs))&&(aP m||bd ([m,x,n]∈cs))
def il(cs:List (List eT)):List eT->Bool
 | [x,n,m]=>jv cs x n m
 | _=>true
def FE(fn:aY):Prop:=∀(cs:List (List eT)) (x n m:eT),bh x->bh n->bh m->fn [.U [.str x,.str n,.str m],.aX true<|bP cs]=ac (.D<|.bl<|jv cs x n m)
def Jr(T:Txt mg)(w1:fP K mg "WALLS" kX)(o:ba P w K mg base "follower" 1 (aG K d))(p:ur d)(F:a9 K "corner_closes" "corner_closes" Aj f j):∃fn,aS P w K mg base bb 2 f j ["corner","corners"] (aG K fn)/\FE fn:=by
 refine' bW F Fc ρ ?C ?B
 case C=>walk_at "h"
 intro cs x n m tx g i;refine' cA ρ ?w;refine' af<|aD ρ ρ<|ai<|af<|aD ρ ρ<|ai<|af<|aD ρ ρ<|ai ?_;refine af (bK (jD (aE<|ak ρ ρ<|kS g.ok false)<|aE<|ak ρ ρ<|kS i.ok false) (λh=>?_) λh=>aw<|ai ?_)
 ·have h:(aP n&&aP m)=bi:=h;have h':=h;simp[dZ] at h;obtain⟨k,l,rfl⟩:=oI h.1;have e:=p k l;refine af (aZ (ak ρ (ag (aB (aa ρ ah) e) ρ)<|mC i.ok (dY _<|di<|zR _ ⋯).ok)<|gv ?_);delta jv;rw[if_pos h',En l]
 have h:(aP n&&aP m)=bv:=h;have q:jv cs x n m=((aP n||bd ([n,m,x]∈cs))&&(aP m||bd ([m,x,n]∈cs))):=by unfold jv;rw[h];rfl
 rw[q];by_cases c:(aP n||bd ([n,m,x]∈cs))=bi
 ·refine' gz (jD (aE<|ak ρ ρ<|kS g.ok true)<|aE<|qw (k:=[n,m,x]) ρ ρ) ?a ?b
  case a=>revert c;cases aP n<;>cases bd ([n,m,x]∈cs)<;>decide
  case b=>refine af<|aZ (v_res<|A7 (ag (ak ρ ρ<|kS i.ok false) ρ)<|ag (qw ρ ρ) ρ)<|gv ?_;rw[c];rfl
 refine' rF (jD (aE<|ak ρ ρ<|kS g.ok true)<|aE<|qw (k:=[n,m,x]) ρ ρ) ?a ρ (gv ?b)
 case a=>revert c;cases aP n<;>cases bd ([n,m,x]∈cs)<;>decide
 case b=>rw[Z9] at c;rw[c];rfl
def Ct(fn:aY):Prop:=∀web:ay,bI web->fn [az web]=ac (.D<|.bl<|(aO web).all (il<|aO web))
def mf (h:bI web):[x,n,m]∈aO web ↔ x∈web.map (·.1)/\cx (cn web x) n m:=by
 rw[wG h.nd,<-Mp,ee];constructor
 ·rintro⟨⟨a,b,c⟩,d,e⟩;simp at e;simp only[<-e.1,<-e.2.1,<-e.2.2];exact d
 exact λd=>⟨_,d,ρ⟩
def vy (h:bI web)(c:x∈web.map (·.1))(a:z∈cn web x):bh z:=by obtain⟨p,b,rfl⟩:=ee.1 c;rw[cE h.nd b] at a;exact h.txt ((h.rg p b).2.2 z a).1
theorem Mn(T:Txt mg){i j:aY}(t:ba P w K mg base "corners_of" 1 (aG K i))(u:u6 i)(v:ba P w K mg base "corner_closes" 2 (aG K j))(C:FE j){f:eH}{o:hU}(F:a9 K "corners_close" "corners_close" vC f o):∃fn,aS P w K mg base bb 3 f o ["rings"] (aG K fn)/\Ct fn:=by
 refine' bW F Fh ρ ?D ?B
 case D=>have nd:=Fh.nd;have tp:g8 "corners":=⟨trivial⟩;walk_at "h"
 intro web h;have G:=u web h;have hl:=xO fun p I=>h.len I;have bz:=h.bz;refine' cA ρ ?w;refine' af<|aD (aB (aa ρ ah) G) ρ<|ai ?_;refine' af<|aZ (v_allB (xs:=aO web) (fun k=>[.no,.D<|.U<|k.map .str,.D<|.aX true<|bP<|aO web]) (il<|aO web) (δ1:=[.D (az web),.D<|.aX true<|bP<|aO web]) ?a ρ ?b ?c ?d ?e) ⟨_,ρ⟩
 case a=>show ac (jM<|bP<|aO web,_)=_;dsimp only[jM,bP];rw[hG];rfl
 case b=>unfold eu;lia
 case c=>intro y g δ hd;rcases hd with rfl|⟨z,rfl⟩<;>rfl
 case e=>intro y g;rfl
 intro y g;have l:=g;rw[wG h.nd] at l;obtain⟨⟨x,n,m⟩,_,rfl⟩:=ee.1 l;obtain⟨q,r⟩:=(mf h).1 g;have tx:∀z∈cn web x,bh z:=fun z J=>vy h q J;exact ag (aB (aa ρ<|aa ρ ah)<|C (aO web) x n m (h.txt<|ι q) (tx n r.mem.1)<|tx m r.mem.2) ρ
def tK (nd:l.Nodup)(h:cx l n z)(h':cx l n f):z=f:=by obtain⟨i,a,b⟩:=h;obtain⟨j,c,d⟩:=h';obtain⟨hi,g⟩:=bt.1 a;obtain⟨hj,k⟩:=bt.1 c;have e:=(z7 nd).1 (g.trans k.symm);subst e;rw[b] at d;exact Option.some.inj d
def Vb (h:n∈l):∃p,cx l p n:=by
 obtain⟨i,a,e⟩:=oy h;by_cases b:i=0
 ·subst b;refine⟨l[l.length-1],l.length-1,bg ∅,?_⟩;rw[show (l.length-1+1)%l.length=0 from by rw[show l.length-1+1=l.length from by omega,aaU],bg a,e]
 refine⟨l[i-1],i-1,bg ∅,?_⟩;rw[show (i-1+1)%l.length=i from by rw[show i-1+1=i from by omega,se a],bg a,e]
def bI.lu (h:bI web)(a:x∈web.map (·.1)):aP x=bv:=by obtain⟨p,b,rfl⟩:=ee.1 a;have:=h.nm p b;unfold fU at this;simp only[hF,t8] at this;exact this.2
theorem FF{web:ay}(h:bI web)(e:(aO web).all (il<|aO web)=bi){k:Nat}(hk:k<4){x:eT}(g:[x,ao k,ao<|(k+1)%4]∈aO web) :
  ∃l,Row (web.map (·.1)) (cn web) (ao k) x l/\l.Nodup/\∀y∈l,y∈web.map (·.1):=by
 have nr:∀y∈web.map (·.1),(cn web y).Nodup:=fun y c=>by obtain⟨p,d,rfl⟩:=ee.1 c;rw[cE h.nd d];exact (h.rg p d).2.1
 have i:∀j,j<4->ao j∉web.map (·.1):=fun j m hm=>by have:=h.lu hm;rw[(dZ _).2 (di m)] at this;cases this
 obtain⟨l,r,ln,n⟩:=K8 (i _<|zR _ ⋯) (fun y c z z' a b=>tK (nr y c) a b) (fun y c ⟨z,sz⟩=>by
  obtain⟨p,sp⟩:=Vb sz.mem.1;refine⟨p,sp,fun d=>?_⟩
  have hm:=(mf h).2 ⟨c,sp⟩;have:=hE.1 e _ hm;have:jv (aO web) y p (ao k)=bi:=this;unfold jv at this;rw[h.lu d] at this;simp only[afq,o3,if_false,O1,hF,decide_eq_true_eq] at this;exact ((mf h).1 this.1).2) ((web.map (·.1)).length+1) 0 x [] ⋯ aap ⋯<|fun _=>.z ((mf h).1 g).2
 exact⟨l,r,ln,fun y c=>(n y c).1⟩
def CN (nd:ns.Nodup)(s:cx ns p wl):∃j,ns.findIdx? (λx=>bd<|x=wl)=ac j/\cy (.L<|ns.map .str) (.int<|(j:Int)-1)=ac (.str p):=by
 obtain⟨i,a,b⟩:=s;have hi:=(bt.1 a).1;obtain⟨c,d⟩:=bt.1 b;refine⟨(i+1)%ns.length,ZQ.2 ⟨c,by simpa using d,λk hk=>?_⟩,?_⟩
 ·intro z;have:=sx nd (i:=k) (bt.2 ⟨by lia,by simpa using z⟩) b;lia
 simp only[kj];delta dc;have:fh (ns.map Dat.str).length (((i+1)%ns.length:Nat)-1:Int)=ac i:=by
  rw[ax];delta fh;by_cases hl:i+1<ns.length;simp_all [se];have:i+1=ns.length:=by lia
  rw[this,aaU,if_neg ∅,if_pos ∅]
  congr 1;omega
 simp only[this,pR,ez,a];rfl
def Ad (h:c δ=ac (false,δ1))(q:Q (.next δ1)):WS (gB c fb<|n+1) δ Q:=by refine⟨_,?_,q⟩;show (c δ).bind _=_;rw[h];rfl
def v8 (h:c δ=ac (true,δ1))(hb:fb δ1=ac (.next δ2))(q:WS (gB c fb n) δ2 Q):WS (gB c fb<|n+1) δ Q:=by obtain⟨o,e,q⟩:=q;refine⟨o,?_,q⟩;show (c δ).bind _=_;simp_all
theorem ND (D:List eT->eT->Slot->DS)(stop:∀d a t,a∉rooms->c (D d a t)=ac (false,D d a t))(go:∀d a p t,Fr t->a∈rooms->cx (ring a) p wl->d.length<500->c (D d a t)=ac (true,D d a t)/\∃t',Fr t'/\fb (D d a t)=ac (.next<|D (d++[a]) p t'))(r:Row rooms ring wl a l) :
  ∀(d:List eT) (t:Slot) (n:Nat),Fr t->l.length<n->d.length+l.length<500->(∀e t',Q<|.next<|D (d++l) e t')->WS (gB c fb n) (D d a t) Q:=by
 induction r with
 | @stop b h=>intro d t n g f _ q;obtain⟨n,rfl⟩:∃m,n=m+1:=⟨n-1,by simp at f;omega⟩;refine Ad (stop d _ t h) ?_;have:=q b t;rw[wa] at this;exact this
 | @go a p l h s _ j=>intro d t n g f hl q;simp at f hl;obtain⟨n,rfl⟩:∃m,n=m+1:=⟨n-1,∅⟩;obtain⟨k,t',o,u⟩:=go d a p t g h s ∅;refine v8 k u (j _ _ _ o (by lia) (by simp only[gd,ZM];omega) λe i=>?_);rw[wm];exact q e i
def Fk(fn:aY):Prop:=∀(web:ay) (wl a:eT) (l:List eT),bI web->bh wl->Row (web.map (·.1)) (cn web) wl a l->l.length<100->fn [az web,.str wl,.str a]=ac (.O<|.L<|l.map .str)
def Io(T:Txt mg)(F:a9 K "row_along" "row_along" wK f i):∃fn,aS P w K mg base bb 1 f i ["rings","wall","first"] (aG K fn)/\Fk fn:=by
 refine' bW F Dm ρ ?B ?C
 case B=>have fz:ik "rings":=⟨trivial⟩;walk_at "h"
 intro web wl a l h k r hl;refine' cA ρ ?w;refine' af<|aD (bM ah<|pe _) ρ<|ai<|af<|aD ρ ρ<|ai ?_;refine' af<|ND (λc b t=>[.D (az web),.D<|.str wl,.D<|.str a,.O<|.L<|c.map .str,.D<|.str b,t]) ?stop ?go r [] .no mo (ι ρ) ?n ?m ?q
 case n=>unfold mo;omega
 case m=>simp only[aah];omega
 case q=>exact λa' t'=>ai<|af<|aZ ρ ⟨_,ρ⟩
 case stop=>intro c b t B;have e:=gQ web b false;rw[decide_eq_false B] at e;exact aE<|ak ρ ρ e
 intro c b p t u B o ha;have e:=gQ web b false;rw[decide_eq_true B] at e;obtain⟨x,g,rfl⟩:=ee.1 B;rw[cE h.nd g] at o;have tr:∀z∈x.2,bh z:=λz v=>h.txt ((h.rg x g).2.2 z v).1;obtain⟨j,y,D⟩:=CN (h.rg x g).2.1 o;refine⟨aE<|ak ρ ρ e,.D<|.L<|x.2.map .str,τ ⟨_,ρ⟩,?_⟩;refine ot (rj<|gg ρ ρ (by unfold eu;rw[ax];omega))<|oP<|ot (nM (δ2:=[.D (az web),.D<|.str wl,.D<|.str a,.O<|.L<|(c++[x.1]).map .str,.D<|.str x.1,.D<|.L<|x.2.map .str]) (v_res<|dE ρ ρ<|dG h.nd g) ?_)<|oP<|ot (nM (v_res<|bu ρ (ag (ak (n4 ρ (aa ρ ah) (kU tr) (fT k.ok)<|(tU tr k).trans y) ρ<|iY ρ) ρ) ρ D) ρ)<|oP ρ;rw[hI];rcases u with rfl|⟨d,rfl⟩<;>rfl
def BP{web:ay}(nd:(web.map (·.1)).Nodup)(keep:eT×List eT->Bool):((web.filter keep).map (·.1)).Nodup:=y3 (agG _ Ts) nd
def xG (p:l.Perm a):bj l=bj a:=vj ((jn _ _).trans p)<|GD l
theorem yq (h:l.length<64):lL [.L (l.map .str)]=ac (.O<|.L<|(bj l).map .str):=by
 show (match dq (l.map .str) with
  | some a=>if a.length<64 then ac (Res.O<|.L<|(bj a).map .str) else am
  | none=>nQ [.L (l.map .str)])=_
 have:=qJ (λx:eT=>x) l;rw[aaN] at this;rw[this];exact if_pos h
theorem Gi {ring:eT->List eT}(nd:∀y∈rooms,(ring y).Nodup)(r:Row rooms ring wl a l):∀{b},Row rooms ring wl a b->l=b:=by
 induction r with
 | stop h =>
  intro b c;cases c with
  | stop _=>rfl
  | go h' _ _=>exact absurd h' h
 | @go a p l h s _ k =>
  intro b c;cases c with
  | stop h'=>exact absurd h h'
  | @go _ m b h' s' c =>
   have e:p=m:=by
    obtain⟨i,o,q⟩:=s;obtain⟨j,t,u⟩:=s';have n:=nd _ h;obtain⟨hi,v⟩:=bt.1 o;obtain⟨hj,x⟩:=bt.1 t;obtain⟨hi',d⟩:=bt.1 q;obtain⟨hj',f⟩:=bt.1 u;have e:=(z7 n).1 (d.trans f.symm);have:i=j:=by
     by_cases z:i+1=(ring a).length
     ·by_cases g:j+1=(ring a).length
      ·lia
      rw[z,aaU,se ∅] at e;lia
     by_cases g:j+1=(ring a).length
     ·rw[g,aaU,se (by lia)] at e;lia
     rw[se (by lia),se (by lia)] at e;lia
    subst this;exact v.symm.trans x
   subst e;rw[k c]
theorem CG:∀a b:List eT,iS (a.map Dat.str) (b.map Dat.str)=bd (a=b)
 | [],[]=>rfl
 | [],_::_=>by simp[iS]
 | _::_,[]=>by simp[iS]
 | x::a,y::b=>by show (dA (.str x) (.str y)&&iS (a.map Dat.str) (b.map Dat.str))=_;rw[jb,CG a b,nF];simp
def eQ(web:ay)(k:Nat):List Str:=(web.filter λp=>bd<|[p.1,ao k,ao<|(k+1)%4]∈aO web).map (·.1)
def ib(web:ay)(k:Nat):List Str:=(web.filter λp=>bd<|ao k∈p.2).map (·.1)
def kA(web:ay)(k:Nat):Prop:=∃x l,eQ web k=[x]/\Row (web.map (·.1)) (cn web) (ao k) x l/\l.Perm (ib web k)
def HK(fn:aY):Prop:=∀(web:ay) (k:Nat),k<4->bI web->(aO web).all (il<|aO web)=bi->∃b,fn [az web,.str<|ao k]=ac (.D<|.bl b)/\(b=bi ↔ kA web k)
def QQ(T:Txt mg)(V:ba P w K mg base "corners_of" 1 (aG K i))(v:u6 i)(W:ba P w K mg base "follower" 1 (aG K j))(X:ur j)(Y:ba P w K mg base "row_along" 1 (aG K m))(Z:Fk m)(F:a9 K "wall_has_row" "wall_has_row" zL f N):∃fn,aS P w K mg base bb 2 f N ["rings","wall"] (aG K fn)/\HK fn:=by
 refine' bW F FG (n:=2) ρ ?hb ?B
 case hb=>have nd:=FG.nd;have fz:ik "rings":=⟨trivial⟩;walk_at "h"
 clear T F V W Y;intro web k r h hc;have bz:=h.bz;have sz:web.length<=sizeLine:=by unfold eu;lia
 have O:bh (ao k):=dY _<|di r;have R:=X k r;have t:(bS web).map (λk=>Dat.str k.1)=web.map λp=>Dat.str p.1:=by unfold bS;rw[hG];rfl
 have fl:(eQ web k).length<=8:=by unfold eQ;rw[ax];exact px (qp ..) bz.2
 have tl8:(ib web k).length<=8:=by unfold ib;rw[ax];exact px (qp ..) bz.2
 have tr:∀p∈web,∀z∈p.2,bh z:=λp a z d=>h.txt ((h.rg p a).2.2 z d).1;have ev:∀(b:Bool) (Q:Out->Prop),True:=λ_ _=>trivial;by_cases c:∃x,eQ web k=[x]
 ·obtain⟨x,c⟩:=c;have hx:[x,ao k,ao<|(k+1)%4]∈aO web:=by
   have:x∈eQ web k:=by rw[c];simp
   unfold eQ at this;obtain⟨p,a,rfl⟩:=ee.1 this;exact of_decide_eq_true (iF.1 a).2
  obtain⟨l,u,r3,S⟩:=FF h hc r hx;have hll:l.length<=8:=px (mR r3 S) (by rw[ax];lia);refine⟨bd<|bj l=bj (ib web k),?_,?_⟩
  ·refine' cA ρ ?w
   case w =>
    show WS _ [.D (az web),.D<|.str<|ao k,.no,.no,.no] _;refine' af<|aD (aB (aa ρ ah)<|v web h) ρ<|ai ?_;show WS _ [.D (az web),.D<|.str<|ao k,.O<|.aX false<|bP<|aO web,.no,.no] _;refine' af<|aD (δ2:=[.D (az web),.D<|.str<|ao k,.D<|.aX false<|bP<|aO web,.O<|.L<|[x].map .str,.no]) (fN (enc:=λp:eT×List eT=>.str p.1) (xs:=web) (λp=>[.no,.D<|.str p.1,.D<|.aX false<|bP<|aO web,.D<|.str<|ao k]) (λp=>bd<|[p.1,ao k,ao<|(k+1)%4]∈aO web) (λp=>.str p.1) ?C ρ sz ?D ?G ?I ?J) ?L<|ai ?M
    case C=>show ac ((bS web).map λk=>Dat.str k.1,_)=_;rw[t]
    case D=>intro y g δ hd;rcases hd with rfl|⟨z,rfl⟩<;>rfl
    case G=>intro p a;refine aE<|qw (k:=[p.1,ao k,ao<|(k+1)%4]) ?_ ρ;unfold uT;rw[aa ρ (aa ρ<|aa (ag (aB (aa ρ ah) R) ρ) ah)];rfl
    case I=>intro p a _;rfl
    case J=>intro p a;rfl
    case L=>rw[<-c];unfold eQ;rw[hG];rfl
    case M =>
     refine' gz (aE<|ak (cu ρ ρ) ρ<|ne_int _ _) ρ ?zz;refine' af<|aD (δ2:=[.D (az web),.D<|.str<|ao k,.D<|.aX false<|bP<|aO web,.O<|.L<|[x].map .str,.O<|.L<|(ib web k).map .str]) (fN (enc:=λp:eT×List eT=>.str p.1) (xs:=web) (λp=>[.no,.D<|.str p.1,.D<|az web,.D<|.str<|ao k]) (λp=>bd<|ao k∈p.2) (λp=>.str p.1) ?b1 ρ sz ?b2 ?b3 ?b4 ?b5) ?b6<|ai ?b7
     case b1=>show ac ((bS web).map λk=>Dat.str k.1,_)=_;rw[t]
     case b2=>intro y g δ hd;rcases hd with rfl|⟨z,rfl⟩<;>rfl
     case b3=>intro p a;exact aE<|ak ρ (dE ρ ρ<|dG h.nd a)<|dU (tr p a) O false
     case b4=>intro p a _;rfl
     case b5=>intro p a;rfl
     case b6=>unfold ib;rw[hG];rfl
     have tl:∀z∈bj l,bh z:=λz d=>h.txt<|ι<|S z<|(jn _ _).mem_iff.1 d;have tt:∀z∈bj (ib web k),bh z:=λz d=>by have:=(jn _ _).mem_iff.1 d;unfold ib at this;obtain⟨p,a,rfl⟩:=ee.1 this;exact h.txt<|ι<|ee.2 ⟨p,(iF.1 a).1,ρ⟩
     refine af<|aZ (ak (ag (aB (aa (ag (aB (aa ρ<|aa ρ<|aa (bu ρ ρ ρ ρ) ah)<|Z web (ao k) x l h O u ∅) ρ) ah)<|yq ∅) ρ) (ag (aB (aa ρ ah)<|yq ∅) ρ)<|v_eq (kU tl)<|kU tt)<|gv ?_;show dA (.L _) (.L _)=_;rw[pT,CG]
  rw[decide_eq_true_iff];constructor
  ·intro e;exact⟨x,l,c,u,((jn _ _).symm.trans (by show (bj l).Perm _;rw[e];exact jn _ _))⟩
  rintro⟨x',l',o,r',p⟩;rw[c] at o;cases o;have e:=Gi (λy g=>by obtain⟨q,U,rfl⟩:=ee.1 g;rw[cE h.nd U];exact (h.rg q U).2.1) u r'
  rw[e];exact xG p
 refine⟨false,?_,λz=>(by cases z),λ⟨x,_,z,_⟩=>absurd ⟨x,z⟩ c⟩;refine' cA ρ ?w
 case w =>
  show WS _ [.D (az web),.D<|.str<|ao k,.no,.no,.no] _;refine' af<|aD (aB (aa ρ ah)<|v web h) ρ<|ai ?_;show WS _ [.D (az web),.D<|.str<|ao k,.O<|.aX false<|bP<|aO web,.no,.no] _;refine' af<|aD (δ2:=[.D (az web),.D<|.str<|ao k,.D<|.aX false<|bP<|aO web,.O<|.L<|(eQ web k).map .str,.no]) (fN (enc:=λp:eT×List eT=>.str p.1) (xs:=web) (λp=>[.no,.D<|.str p.1,.D<|.aX false<|bP<|aO web,.D<|.str<|ao k]) (λp=>bd<|[p.1,ao k,ao<|(k+1)%4]∈aO web) (λp=>.str p.1) ?C ρ sz ?D ?G ?I ?J) ?L<|ai ?M
  case C=>show ac ((bS web).map λk=>Dat.str k.1,_)=_;rw[t]
  case D=>intro y g δ hd;rcases hd with rfl|⟨z,rfl⟩<;>rfl
  case G=>intro p a;refine aE<|qw (k:=[p.1,ao k,ao<|(k+1)%4]) ?_ ρ;unfold uT;rw[aa ρ (aa ρ<|aa (ag (aB (aa ρ ah) R) ρ) ah)];rfl
  case I=>intro p a _;rfl
  case J=>intro p a;rfl
  case L=>unfold eQ;rw[hG];rfl
  case M=>refine' rF (aE<|ak (cu ρ ρ) ρ<|ne_int _ _) ?z1 ρ ⟨_,ρ⟩;have:(eQ web k).length≠1:=λz=>c<|ab4.1 z;simp only[ax];simp;omega
def Hx(fn:aY):Prop:=∀ring names:List eT,(∀n∈ring,bh n)->(∀n∈names,bh n)->ring.length<=100->fn [.L (ring.map .str),.L<|names.map .str]=ac (.D<|.bl (ring.any λy=>bd<|y∈names))
def U6(T:Txt mg)(h:mg "any"=am)(F:a9 K "has_one_of" "has_one_of" zk f e):∃fn,aS P w K mg base bb 1 f e ["ring","names"] (aG K fn)/\Hx fn:=by
 refine' bW F Hh ρ ?C ?B
 case C=>have nd:=Hh.nd;walk_at "h"
 intro ring names i j hl;refine' cA ρ ?w;refine' af<|aZ (aB (aa (ag (dX (λn=>[.no,.D<|.str n,.D<|.L<|names.map .str]) (λn=>.bl<|bd<|n∈names) (bU ρ) ρ ?a ?b ?c ?d) ρ) ah)<|MU (λn=>bd<|n∈names) ring) ⟨_,ρ⟩
 case a=>unfold eu;lia
 case b=>intro y hy δ hd;rcases hd with rfl|⟨z,rfl⟩<;>rfl
 case c=>intro n g;exact ag (ak ρ ρ<|dU j (i n g) false) ρ
 intro n g;rfl
def Kz(n:Nat):(dF 0 (n:Int)).length=n:=by simp[dF]
abbrev cM(web:ay):Nat->List Str:=reach (web.map (·.1)) aQ<|cn web
def FA (nd:(web.map (·.1)).Nodup)(k:Nat):cM web (k+1)=aQ++(web.filter λp=>p.2.any λy=>bd<|y∈cM web k).map (·.1):=by
 show aQ++(web.map (·.1)).filter _=_;rw[List.filter_map];congr 2;refine acO λp a=>?_
 show (cn web p.1).any _=_;rw[cE nd a]
theorem E4 (h:n∈cM web k):n∈web.map (·.1)\/n∈aQ:=by
 cases k with
 | zero=>exact τ h
 | succ k =>
  rcases hY.1 h with h|h
  ·exact τ h
  exact ι (iF.1 h).1
def C9(fn:aY):Prop:=∀web:ay,bI web->fn [az web]=ac (.D<|.bl (web.all λp=>bd<|p.1∈cM web web.length))
def QG(T:Txt mg)(w1:fP K mg "WALLS" kX)(o:ba P w K mg base "has_one_of" 1 (aG K g))(q:Hx g)(F:a9 K "all_reached" "all_reached" wF f j):∃fn,aS P w K mg base bb 2 f j ["rings"] (aG K fn)/\C9 fn:=by
 refine' bW F D0 ρ ?D ?B
 case D=>have nd:=D0.nd;have fz:ik "rings":=⟨trivial⟩;walk_at "h"
 intro web h;have bz:=h.bz;have sz:web.length<=sizeLine:=by unfold eu;lia
 have l:(bS web).map (λk=>Dat.str k.1)=web.map λp=>Dat.str p.1:=by unfold bS;rw[hG];rfl
 have t:(bS web).length=web.length:=ax ..;have tr:∀p∈web,∀z∈p.2,bh z:=λp a z i=>h.txt ((h.rg p a).2.2 z i).1;have b:∀k,∀z∈cM web k,bh z:=λk z i=>h.txt<|E4 i;refine' cA ρ ?w;refine' af<|aD ρ ρ<|ai ?_;refine' af<|cN (λk δ=>∃c,Fr c/\δ=[.D (az web),.O<|.L<|(cM web k).map .str,c]) (j8 (aa (cu ρ<|congrArg ac t) ah) ?r) ⟨_,ι ρ,ρ⟩ ?st ?C
 case r=>lia
 case st =>
  rintro k x u _ ⟨c,m,rfl⟩;have b:=b k;rw[FA h.nd];generalize cM web k=R at *;obtain⟨_,rfl⟩:=vL u;refine⟨[.D (az web),.O<|.L<|R.map .str,.D<|.int k],by rcases m with rfl|⟨d,rfl⟩<;>rfl,?_⟩;refine' af<|aD (ak (ag (aB (aa ρ ah) ρ) ρ) (ag (fN (λp=>[.no,.D<|.str p.1,.D<|.L<|R.map .str,.D<|az web]) (λp=>p.2.any λy=>bd<|y∈R) (λp=>.str p.1) ?G ρ sz ?I ?J ?L ?M) ρ)<|kG ?N) ?O<|ai<|aw ⟨_,τ ⟨_,ρ⟩,ρ⟩
  case G=>show ac ((bS web).map λk=>Dat.str k.1,_)=_;rw[l]
  case I=>intro y v δ hd;rcases hd with rfl|⟨z,rfl⟩<;>rfl
  case J=>intro p a;have:=h.len a;exact fY (ag (aB (aa (dE ρ ρ<|dG h.nd a)<|aa ρ ah)<|q p.2 R (tr p a) b (by lia)) ρ) ρ
  case L=>intro p a _;rfl
  case M=>intro p a;rfl
  case N=>have:=qp (λp:eT×List eT=>p.2.any λy=>bd<|y∈R) web;rw[ax];show 4+_<=eu;delta eu;lia
  rw[hI,hG];rfl
 rintro _ ⟨c,m,rfl⟩;rw[Kz];refine' ai<|af<|aZ (v_allB (λp=>[.no,.D<|.str p.1,.D<|.L<|(cM web web.length).map .str]) (λp=>bd<|p.1∈cM web web.length) ?Q ρ sz ?S ?U ?V) ⟨_,ρ⟩
 case Q=>show ac ((bS web).map λk=>Dat.str k.1,_)=_;rw[l]
 case S=>intro y v δ hd;rcases hd with rfl|⟨z,rfl⟩<;>rfl
 case V=>intro p a;rfl
 intro p a;have e:=dU (b web.length) (h.txt<|ι<|ee.2 ⟨p,a,ρ⟩) false;exact ag (ak ρ ρ e) ρ
def fZ(x n:eT):Bool:=aP n||jt x n
def dI(web:ay):Nat:=bQ (λp=>p.2.countP<|fZ p.1) web
def NP(a b):pP (.str a) (.str b)=ac (.D<|.bl<|jt a b):=by show ac (Res.D<|.bl<|bd<|a.cps.toList<b.cps.toList)=_;delta jt cY;simp
def Ac(fn:aY):Prop:=∀web:ay,bI web->∃r,fn [az web]=ac r/\∃ds,r=.O (.L ds)/\ds.length=dI web
theorem Od(T:Txt mg)(w1:fP K mg "WALLS" kX)(F:a9 K "ties_of" "ties_of" wA f q):∃fn,aS P w K mg base bb 1 f q ["rings"] (aG K fn)/\Ac fn:=by
 refine' bW F CC ρ ?C ?B
 case C=>have fz:ik "rings":=⟨trivial⟩;walk_at "h"
 intro web h;have bz:=h.bz;have tr:∀p∈web,∀z∈p.2,bh z:=λp e z u=>h.txt ((h.rg p e).2.2 z u).1;have v:∀k,k<=web.length->dI (web.take k)<=12*k:=by
  intro k;induction k with
  | zero=>intro _;exact ft _
  | succ k G=>intro I;obtain⟨p,ep⟩:∃p,web[k]?=ac p:=⟨web[k],bg (by lia)⟩;have h2:=h.len<|fB ep;have h3:=ace (p:=fZ p.1) (l:=p.2);unfold dI at *;simp only[cZ ep,vg];show _+(p.2.countP (fZ p.1)+0)<=_;lia
 refine' oj ρ ?w;refine' af<|aD (bM ah<|pe _) ρ<|ai ?_;refine' af<|cN (λk δ=>∃ds i a,Fr i/\Fr a/\ds.length=dI (web.take k)/\δ=[.D (az web),.O<|.L ds,i,a]) ρ ⟨[],_,_,ι ρ,ι ρ,ρ,ρ⟩ ?st ?D
 case D=>rintro _ ⟨ds,i,a,r,c,hd,rfl⟩;rw[ax,show (bS web).length=web.length from ax ..,mv] at hd;exact ai<|af<|aZ ρ ⟨_,_,ρ,ds,ρ,hd⟩
 rintro k x m _ ⟨ds,i,a,r,c,hd,rfl⟩;unfold bS at m;rw[hG,ez] at m;obtain⟨p,ep,rfl⟩:=gj.1 m;have e:=fB ep;have I:=(bt.1 ep).1;have hlp:=h.len e;have C:=v k (by lia);refine⟨[.D (az web),.O<|.L ds,.D<|.str p.1,a],by rcases r with rfl|⟨d,rfl⟩<;>rfl,?_⟩;refine af<|cN (λj δ=>∃b a,Fr a/\b.length=dI (web.take k)+(p.2.take j).countP (fZ p.1)/\δ=[.D (az web),.O<|.L b,.D<|.str p.1,a]) (bU<|dE ρ ρ<|dG h.nd e) ⟨ds,a,c,by rw[hd];simp,rfl⟩ ?_ ?_
 ·rintro j y t _ ⟨b,a,c,g,rfl⟩;rw[ez] at t;obtain⟨n,o,rfl⟩:=gj.1 t;have J:=fB o;have L:=ace (p:=fZ p.1) (l:=p.2.take j);simp at L;refine⟨[.D (az web),.O<|.L b,.D<|.str p.1,.D<|.str n],by rcases c with rfl|⟨d,rfl⟩<;>rfl,?_⟩;refine af (bK (jZ (aE<|ak ρ ρ<|kS (tr p e n J).ok false)<|aE<|ak ρ ρ<|NP _ _) (λz=>?_) λz=>aw<|ai<|aw ⟨b,_,τ ⟨_,ρ⟩,?_,ρ⟩)
  ·refine af ⟨_,rj<|gg ρ (aa (cw (aa ρ<|aa ρ ah) (by simp[eu])) ah) (by unfold eu;lia),ai<|aw<|ai<|aw ⟨b++[.U [.str p.1,.str n]],.D<|.str n,τ ⟨_,ρ⟩,?_,ρ⟩⟩;rw[cZ o,aaF,gd,g,acd,if_pos (show fZ p.1 n=bi from z)];simp;lia
  rw[cZ o,aaF,acd,if_neg (by rw[show fZ p.1 n=bv from z];simp)];exact g
 rintro _ ⟨b,a,c,g,rfl⟩;rw[ax,mv] at g;refine ai<|aw ⟨b,.D<|.str p.1,a,τ ⟨_,ρ⟩,c,?_,ρ⟩;simp only[g,cZ ep];delta dI;simp[vg];rfl
def G4(fn:aY):Prop:=∀web:ay,bI web->fn [az web]=ac (.O<|.aX false<|bP<|dv<|(aO web).map bj)
def Qc(T:Txt mg)(o:ba P w K mg base "corners_of" 1 (aG K e))(q:u6 e)(F:a9 K "threes_of" "threes_of" xS f g):∃fn,aS P w K mg base bb 2 f g ["rings"] (aG K fn)/\G4 fn:=by
 refine' bW F ER ρ ?D ?B
 case D=>have tp:g8 "threes":=⟨trivial⟩;have tp2:g8 "corners_of":=⟨trivial⟩;walk_at "h"
 intro web h;have bz:=h.bz;have hl:=xO λp r=>h.len r;refine' cA ρ ?w;refine' af<|aD ρ ρ<|ai ?_;refine' af<|cN (λk δ=>∃b,Fr b/\δ=[.D (az web),.O<|.aX false<|bP<|dv<|((aO web).take k).map bj,b]) ?a ⟨_,ι ρ,ρ⟩ ?st ?C
 case a=>delta u9;rw[aB (aa ρ ah) (q web h)];show ac (jM<|bP<|aO web,_)=_;dsimp only[jM,bP];rw[hG];rfl
 case C=>rintro _ ⟨b,i,rfl⟩;rw[ax,mv];exact ai<|af<|aZ ρ ⟨_,ρ⟩
 rintro k x j _ ⟨b,i,rfl⟩;rw[ez] at j;obtain⟨c,l,rfl⟩:=gj.1 j;rw[cZ l,hI];show ∃δ1,_/\WS _ δ1 (tM (fun δ=>∃b,Fr b/\δ=[.D (az web),.O<|.aX false<|bP<|dv<|((aO web).take k).map bj++[bj c],b]) _);rw[GI];have hc3:c.length=3:=by have:=fB l;rw[wG h.nd] at this;obtain⟨z,_,rfl⟩:=ee.1 this;rfl
 generalize t:dv (((aO web).take k).map bj)=L;have m:L.length<1000:=by rw[<-t];refine NN (D6 _) ?_;rw[ax,l5];lia
 refine⟨[.D (az web),.O<|.aX false<|bP L,.D<|.U<|c.map .str],by rcases i with rfl|⟨d,rfl⟩<;>rfl,?_⟩;refine af ⟨_,AA ρ ?_ ρ m,ai<|aw ⟨.D<|.U<|c.map .str,τ ⟨_,ρ⟩,ρ⟩⟩;have u:lL [.U (c.map .str)]=ac (.O<|.L<|(bj c).map .str):=by show (dq<|c.map .str).bind _=_;have:=qJ (λx:eT=>x) c;rw[aaN] at this;rw[this];exact if_pos (by lia)
 delta xq;rw[aa (ag (aB (aa ρ ah) u) ρ) ah];show (dq<|(bj c).map .str).map _=_;have:=qJ (λx:eT=>x)<|bj c;rw[aaN] at this;rw[this];rfl
theorem sG (g:b->c)(f:c->Nat):∀l:List b,bQ f (l.map g)=bQ (λa=>f<|g a) l
 | []=>rfl
 | a::l=>by show f (g a)+bQ f (l.map g)=f (g a)+_;rw[sG g f l]
def NM:bj l=bj a ↔ l.Perm a:=by
 constructor
 ·intro e;have b:=jn l cY;have c:=jn a cY;rw[show l.mergeSort cY=a.mergeSort cY from e] at b;exact b.symm.trans c
 exact xG
theorem vd (nd:(web.map (·.1)).Nodup):qA [.L (web.map pairD)]=ac (.O<|.a8<|bS web):=by
 have:∀l:ay,jJ (l.map pairD)=ac (bS l):=by
  intro l;induction l with
  | nil=>rfl
  | cons p l a=>show (jJ<|l.map pairD).map _=_;rw[a];rfl
 show (jJ<|web.map pairD).bind _=_;rw[this];apply if_pos;delta bS;rw[hG];exact nd
structure GoodW (web:ay):Prop where
 f:bI web
 sh:dC web
 cl:(aO web).all (il<|aO web)=bi
 row:∀k,k<4->kA web k
 qG:(web.all fun p=>bd<|p.1∈cM web web.length)=bi
 th:(dv<|(aO web).map bj).length+web.length=dI web+1
end
local macro_rules | `(tactic| walk_at "r14")=>`(tactic| (refine' Hs ?n ?x ?a ?b ?c ?d ?e ?f ?g ?h;(case x=>rfl);(case n=>exact pV (by rfl));(case a=>rfl);(case b=>exact o7 (by rfl));(case c=>rfl);(case d=>exact fun _=>rfl);(case e=>walk_at "I");(case f=>(intro _ _ _ _ _;walk_at "G"));(case g=>(intro _ _ _ _ _;walk_at "J"));(case h=>(intro _ _ _ _ _;walk_at "D"))))
local macro_rules | `(tactic| walk_at $s:str)=>Mq.go s "1@Vq C~0@Dy aarrrrnrfIptu|DE.alt&Ai rrrarA&wV rrarA&vD rrarA|Iq DD|Ki rarA|Hg rarA|>r14~Z@Bw Dr~I@K9 rarrA"
section
variable{P:lq}{w:qh}{K:gW}{mg:eT->Option dk}{base:pq}
def km(fn:cK):Prop:=∀(p:Int×Int) {m:Int},0<m->m<=100000000000000000000->∃v q,fn (pD p) [.int m]=ac (.D<|.int v,pD q)/\0<=v/\v<m
def M6(T:Txt mg)(F:a9 K "_law_draw" "_law_draw" yZ f c):∃fn,aS P w K mg base bb 1 f c ["_law_purse_here","_law_out_of"] (dz K 0 fn)/\km fn:=by
 refine' nS F Fs ρ ?C ?B
 case C=>have nd:=Fs.nd;have lk:mG "_law_purse_here":=⟨trivial⟩;walk_at "h"
 clear T F;rintro⟨a,b⟩ m h h';have hm:0<m/\m.natAbs.log2<9000:=⟨h,Ih ∅⟩;have hd:mj a m=bi:=by unfold mj;simpa using hm
 have hd':mj b m=bi:=by unfold mj;simpa using hm
 have hm':=hm.1;by_cases d:a=0
 ·subst d;refine'⟨b%m,(b/m,b),wY ?e ?k,abg _ ∅,aag _ h⟩
  case e=>walk_at "v"
  rfl
 refine'⟨a%m,(a/m,b),wY ?D ?k2,abg _ ∅,aag _ h⟩
 case D=>walk_at "v"
 rfl
def jY(c:Int):Prop:=tj c<=1048576
def JY (a:jY i)(b:jY j):fR i j=bi:=by delta jY at a b;delta fR adf;rw[show bd ((tj i:Int)+(tj j:Int)>bitsLine)=bv from decide_eq_false (by unfold bitsLine;omega)];simp
def EJ(fn:aY):Prop:=∀(c:Int) (k:Nat),jY c->k<64->∃v:Int,fn [.int c,.int k]=ac (.D<|.int v)
theorem U5(T:Txt mg){f:eH}{a:hU}(F:a9 K "_law_mixed" "_law_mixed" ze f a):∃fn,aS P w K mg base bb 1 f a ["_law_cell","_law_k"] (aG K fn)/\EJ fn:=by
 refine' bW F EH ρ ?C ?B
 case C=>walk_at "h"
 intro c k b hk;have d1:∀i,mj i 2147483629=bi:=fun i=>by rfl
 have m1:=JY b b;have m2:∀i,fR 3 i=bi:=fun i=>sX ⋯;have m4:∀i,fR i 48271=bi:=fun i=>ub ⋯;have m5:fR ((c*c+3*c+7919*k+1)*48271%2147483629) ((c*c+3*c+7919*k+1)*48271%2147483629)=bi:=ub ∅;refine'⟨_,Ck ?e⟩
 case e=>walk_at "v"
def HX(fn:aY):Prop:=∀ns:List Int,ns.length<=63->(∀n∈ns,jY n)->∃p,fn [.cV ns]=ac (.O<|pD p)
theorem IW(T:Txt mg)(B:mg "abs"=am){b:aY}(o:ba P w K mg base "_law_mixed" 1 (aG K b))(q:EJ b){f:eH}{i:hU}(F:a9 K "_law_purse" "_law_purse" yw f i):∃fn,aS P w K mg base bb 2 f i ["_law_script"] (aG K fn)/\HX fn:=by
 refine' bW F EA ρ ?B ?C
 case B=>walk_at "h"
 intro ns t B;refine' (oj (P:=fun r=>∃p,r=.O (pD p)) ρ ?w).elim fun r ⟨e,p,z⟩=>⟨p,z ▸ e⟩;have u:fD (.cV ns) am (ac 63)=ac (.O<|.L<|ns.map .int):=by show ac (Res.O<|.L<|(cutD ns am<|ac ((63:Nat):Int)).map Dat.int)=_;rw[nH,ab3 t]
 have y:i5 (.L<|ns.map .int) (.L [.int 0])=ac (.O<|.L<|(ns++[0]).map .int):=by rw[hI];exact if_pos (by rw[ax,ZM];unfold eu;omega)
 have I:bZ (.L<|(ns++[0]).map .int)=ac (ns.length+1):=by simp[bZ]
 refine' af<|aD (ak (ag (ki ρ ρ u) ρ) ρ y) ρ<|ai ?_;refine' af<|aD (v_res ρ) ρ<|ai ?_;have J:∀c∈ns++[0],jY c:=fun c L=>by
  rcases hY.1 L with h|h
  ·exact B c h
  rw[kH.1 h];delta jY;decide +kernel
 refine' af<|cN (fun k δ=>∃(n:Int) (a:Slot),Fr a/\δ=[.D (.cV ns),.O<|.L<|(ns++[0]).map .int,.D<|.int n,a]) (by rfl) ⟨1,.no,ι ρ,ρ⟩ ?st ?D
 case st =>
  rintro k x M _ ⟨n,a,j,rfl⟩;obtain⟨hk,rfl⟩:=vL M;refine⟨[.D (.cV ns),.O<|.L<|(ns++[0]).map .int,.D<|.int n,.D<|.int k],by rcases j with rfl|⟨d,rfl⟩<;>rfl,?_⟩;have hm:k%(ns.length+1)<(ns++[0]).length:=by rw[gd];exact zR _ ⋯
  obtain⟨v,N⟩:=q (ns++[0])[k%(ns.length+1)] k (J _<|aat hm) ∅;have l:cy (.L<|(ns++[0]).map .int) (.int ((k%(ns.length+1):Nat):Int))=ac (.int (ns++[0])[k%(ns.length+1)]):=by exact iO (by rw[ez,bg hm];rfl)
  have em:(k:Int)%((ns.length+1:Nat):Int)=((k%(ns.length+1):Nat):Int):=(Int.natCast_emod ..).symm;have O:bd (0<((ns.length+1:Nat):Int))=bi:=decide_eq_true ∅;have mk:fR n 2147483587=bi:=ub ⋯;refine' af<|aD (ak (ag (gf<|ak ρ ρ<|if_pos mk) ρ) (ag (aB (aa (bu ρ (ag (ak ρ (cu ρ I)<|if_pos O) ρ) ρ l)<|aa ρ ah) N) ρ) ρ) ρ<|ai<|aw ⟨_,_,τ ⟨_,ρ⟩,ρ⟩
 rintro _ ⟨n,a,j,rfl⟩;have Q:0<(ns++[0]).length:=⋯
 have m:cy (.L<|(ns++[0]).map .int) (.int 0)=ac (.int (ns++[0])[0]):=by exact iO (by rw[ez,bg Q];rfl)
 generalize (ns++[0])[0]=g at m;have ab:bV vf (fI (mS 1<|fun δ=>ac (.int 0,δ)) iy) [.D (.cV ns),.O<|.L<|(ns++[0]).map .int,.D<|.int n,a]=ac (.D<|.int (if g<0 then -g else g),[.D (.cV ns),.O<|.L<|(ns++[0]).map .int,.D<|.int n,a]):=aB (aa (bu ρ ρ ρ m) ah) ρ;refine' ai<|af<|bK (aE<|ak (ag ab ρ) (ag (ak ρ ρ ρ) ρ) ρ) ?G ?no
 case G=>intro _;exact af<|aZ (bM (aa (ag ab ρ)<|aa ρ ah) (show 2<=eu by simp[eu]))<|bO ⟨_,_,ρ,(_,_),ρ⟩
 intro _;exact aw<|ai<|af<|aZ ρ<|bO ⟨_,_,ρ,(_,_),ρ⟩
noncomputable def jz(st:List Int)(a k j:Nat):Nat:=97+((st.getD j 0+5*(k:Int)*(if j=a then 1 else 0))%26).toNat
def cF(st:List Int)(a k:Nat):Str:=⟨((hM st.length).map (jz st a k)).toArray⟩
def jK(x:eT):Str:=if aP x then x++lT "x" else x
def ig(st:List Int)(a m:Nat):List Str:=(hM m).map fun k=>jK<|cF st a k
theorem tz(st:List Int)(a k:Nat):(cF st a k).length=st.length:=by show ((hM st.length).map (jz st a k)).toArray.size=_;rw[kq,ax,kL]
theorem Dw(st:List Int)(a k:Nat):∀c∈(cF st a k).cps.toList,gI c=bi:=fun c h=>by obtain⟨j,_,rfl⟩:=ee.1 h;exact R9 (abg _ ⋯)<|aag _ ⋯
theorem Lc{st:List Int}(h0:0<st.length)(h7:st.length<=7)(a k:Nat):fU (jK<|cF st a k)=bi:=by
 have hl:=tz st a k;have hw:=Dw st a k;have fst:∀x:eT,0<x.length->∃c,x.cps.toList[0]?=ac c:=fun x g=>⟨_,bg (show 0<x.cps.toList.length by simp only[nT];exact g)⟩;delta jK;split
 ·have ex:(lT "x").cps.toList=[120]:=by decide +kernel
  have e:(cF st a k++lT "x").cps.toList=(cF st a k).cps.toList++[120]:=by simp only[aaR,aay,ex]
  have el:(cF st a k++lT "x").length=st.length+1:=by rw[<-hl];show (cF st a k++lT "x").cps.size=(cF st a k).cps.size+1;rw[<-nT,e,gd,nT];rfl
  obtain⟨c,d⟩:=fst (cF st a k++lT "x") ∅;refine uS.nm ⟨d,fun b f=>?_,?_⟩<|LR _
  ·rw[e] at f;rcases hY.1 f with z|z
   ·exact hw b z
   rw[kH.1 z];rfl
  show (cF st a k++lT "x").length<=8;omega
 rename_i h;obtain⟨c,d⟩:=fst (cF st a k) ∅;exact uS.nm ⟨d,hw,by rw[nT];show (cF st a k).length<=8;omega⟩ (by simpa using h)
theorem Bt{st:List Int}{a i j:Nat}(b:a<st.length)(hi:i<8)(hj:j<8)(h:cF st a i=cF st a j):i=j:=by
 have h:=congrArg (fun x:eT=>x.cps.toList[a]?) h;have e:∀k,(cF st a k).cps.toList[a]?=ac (jz st a k a):=fun k=>by show ((hM st.length).map (jz st a k))[a]?=_;rw[ez,Z4 b];rfl
 simp only[e] at h;have h:=Option.some.inj h;unfold jz at h;rw[if_pos ρ] at h;omega
theorem KG{st:List Int}{a i j:Nat}(b:a<st.length)(c:i<8)(d:j<8)(h:jK (cF st a i)=jK (cF st a j)):i=j:=by
 have l1:=tz st a i;have l2:=tz st a j;have eq:∀x y:eT,(x++lT "x").cps.toList=y.cps.toList->y.length=x.length+1:=fun x y h=>by have:=congrArg List.length h;simp[aaR] at this;exact this.symm
 unfold jK at h;split at h<;>split at h
 ·have h:=congrArg (fun x:eT=>x.cps.toList) h;simp only[aaR,aay] at h;exact Bt b c d<|ly<|List.append_cancel_right h
 grind;grind;exact Bt b c d h
theorem PQ{st:List Int}{a m:Nat}(c:a<st.length)(d:st.length<=7)(hm:m<=8):(ig st a m).length=m/\(∀x∈ig st a m,fU x=bi)/\(ig st a m).Nodup:=by
 refine⟨by simp[ig],fun x f=>?_,?_⟩
 ·obtain⟨k,_,rfl⟩:=ee.1 f;exact Lc (by lia) d a k
 refine ox.2 (abR.imp_of_mem fun {i j} g h b e=>?_);have:=nk.1 g;have:=nk.1 h;exact b<|KG c ∅ ∅ e
theorem zS{i j:Int}(h:fR i j=bi):gu fR (fun i j=>.int<|i*j) (.int i) (.int j)=ac (.D<|.int<|i*j):=if_pos h
theorem Ae(n:Nat):dF 0 (n:Int)=(hM n).map fun j:Nat=>.int (j:Int):=by simp[dF]
noncomputable def oH(st:List Int)(a k j:Nat):Int:=st.getD j 0+5*(k:Int)*(if j=a then 1 else 0)
theorem NQ(st:List Int)(a k:Nat):abU (lT "") ((hM st.length).map fun j=>(⟨#[jz st a k j]⟩:eT))=cF st a k:=by apply ly;have:=QJ<|(hM st.length).map (jz st a k);rwa[hG] at this
def Hd(t:Slot)(d:Dat):Prop:=t=.O d\/t=.D d
def HY(fn:cK):Prop:=∀p (m:Nat),m<=8->∃r b,fn (pD p) [.int m]=ac (r,b)/\∃(a:List eT) (c:Int×Int),r=.O (.L<|a.map .str)/\b=pD c/\a.length=m/\(∀x∈a,fU x=bi)/\a.Nodup
theorem Lm(T:Txt mg){fnD:cK}(p1:ba P w K mg base "_law_draw" 1 (dz K 0 fnD))(J:km fnD){f:eH}{O:hU}(F:a9 K "_law_names" "_law_names" xg f O):∃fn,aS P w K mg base bb 2 f O ["_law_purse_here","_law_many"] (dz K 0 fn)/\HY fn:=by
 refine' nS F DM ρ ?B ?L
 case B=>have nd:=DM.nd;have lk:mG "_law_purse_here":=⟨trivial⟩;walk_at "h"
 clear T F p1;intro p m hm;refine' rX ρ ?w;show WS _ [.io (pD p),.D<|.int m,.no,.no,.no,.no,.no,.no,.no,.no] _;obtain⟨M,q0,t0,a0,b0⟩:=J p (m:=7) ⋯ ⋯;refine' af<|aD (v_res ρ) ρ<|ai ?_;refine' af<|aD (ak ρ (ag (dB ρ (aa ρ ah) ρ t0 ρ) ρ) ρ) ρ<|ai ?_;refine' af<|SH ?_;refine' LL (fun k u δ=>∃(D:Int×Int) (G:Slot) (cs:List Int),δ=[.no,G,.io<|pD D]/\Fr G/\u=cs.map .int/\cs.length=k) (j8 ρ ∅) ρ ρ ρ ⟨_,_,[],ρ,ι ρ,ρ,ρ⟩ ?c7 ?c8 ?c9
 case c7=>unfold dF eu;rw[ax,kL];omega
 case c8=>rintro k1 x Q u δ ⟨D,G,cs,rfl,R,rfl,U⟩;refine⟨[.no,.D x,.io<|pD D],by rcases R with rfl|⟨d,rfl⟩<;>rfl,?_⟩;obtain⟨v1,v,t1,_,_⟩:=J D (m:=26) ⋯ ⋯;refine' u7 ρ ⟨fun h=>(by cases h),fun _=>zM (ag (dB ρ (aa ρ ah) ρ t1 ρ) ρ) ⟨ρ,v,_,cs++[v1],ρ,τ ⟨_,ρ⟩,by rw[hI];rfl,by rw[gd,U];rfl⟩⟩
 rintro u δ ⟨v,G,st,rfl,-,rfl,I⟩;have I:st.length=(1+M).toNat:=by rw[I];unfold dF;rw[ax,kL];omega
 obtain⟨v2,r,V,a2,b2⟩:=J v (m:=1+M) ∅ ∅;obtain⟨a,rfl⟩:=Rr a2;have ha:a<st.length:=∅
 have h7:st.length<=7:=∅
 have hL:(1+M)=(st.length:Int):=∅
 rw[hL] at V ⊢;refine⟨pD v,ρ,[.io (pD v),.D<|.int m,.D<|.str "abcdefghijklmnopqrstuvwxyz",.D<|.int st.length,.O<|.L<|st.map .int,.no,.no,.no,.no,.no],ρ,?_⟩;refine' ai<|af<|aD (dB ρ (aa ρ ah) ρ V ρ) ρ<|ai ?_;refine' af<|aD (bM ah<|pe _) ρ<|ai ?_;refine' af<|cN (fun k δ=>∃(q t n o:Slot),δ=[.io (pD r),.D<|.int m,.D<|.str "abcdefghijklmnopqrstuvwxyz",.D<|.int st.length,q,.D<|.int a,.O<|.L<|(ig st a k).map .str,t,n,o]/\Hd q (.L<|st.map .int)/\Fr t/\(Fr n\/∃d,n=.O d)/\Fr o) (j8 ρ ∅) ⟨_,_,_,_,ρ,ι ρ,ι ρ,ι<|ι ρ,ι ρ⟩ ?st ?W
 case W =>
  rintro _ ⟨q,t,n,o,rfl,-⟩;have e:(dF 0 (m:Int)).length=m:=by unfold dF;rw[ax,kL];omega
  rw[e];exact ai<|af<|aZ ρ<|bO ⟨_,_,_,ρ,ρ,ig st a m,r,ρ,ρ,PQ ha h7 hm⟩
 rintro k x Q _ ⟨q,t,n,o,rfl,h4,f7,f8,f9⟩;obtain⟨hk,rfl⟩:=vL Q;refine⟨[.io (pD r),.D<|.int m,.D<|.str "abcdefghijklmnopqrstuvwxyz",.D<|.int st.length,q,.D<|.int a,.O<|.L<|(ig st a k).map .str,.D<|.int k,n,o],by rcases f7 with rfl|⟨d,rfl⟩<;>rfl,?_⟩;have ln:((ig st a k).map Dat.str).length<sizeLine:=by unfold ig eu;rw[ax,ax,kL];omega
 have es:ig st a (k+1)=ig st a k++[jK (cF st a k)]:=by unfold ig;rw[adg,hI];rfl
 rw[es,hI];generalize (ig st a k).map Dat.str=b at *;refine' af<|aD (δ2:=[.io (pD r),.D<|.int m,.D<|.str "abcdefghijklmnopqrstuvwxyz",.D<|.int st.length,.D<|.L<|st.map .int,.D<|.int a,.O<|.L b,.D<|.int k,.O<|.L ((hM st.length).map fun j=>.int<|oH st a k j),o]) (dX (enc:=fun j:Nat=>.int (j:Int)) (xs:=hM st.length) (fun j=>[.no,.D<|.int j,.D<|.int a,.D<|.int k,.D<|.L<|st.map .int]) (fun j=>.int<|oH st a k j) ?d1 ?d2 ?d3 ?d4 ?d5 ?d6) ?d7<|ai ?d8
 case d1=>rw[<-Ae];exact j8 ρ ∅
 case d2=>rcases h4 with rfl|rfl<;>rfl
 case d3=>rw[kL];unfold eu;omega
 case d4=>rintro j _ δ (rfl|⟨y,rfl⟩)<;>rfl
 case d5 =>
  intro j z;have z:=nk.1 z;have ix:cy (.L<|st.map .int) (.int (j:Int))=ac (.int<|st.getD j 0):=by rw[kj];exact iO (by rw[ez,bg z,mu,bg z];rfl)
  have ei:oG [.bl (bd<|(j:Int)=(a:Int))]=ac (.D<|.int (if j=a then 1 else 0)):=by
   by_cases e:j=a
   ·rw[if_pos e,decide_eq_true ∅];rfl
   rw[if_neg e,decide_eq_false ∅];rfl
  have m5:fR 5 (k:Int)=bi:=sX ⋯;have m6:fR (5*(k:Int)) (if j=a then 1 else 0)=bi:=ub (by split<;>decide);exact ag (ak (bu ρ ρ ρ ix) (ag (gf<|ak (ag (gf<|ak ρ ρ<|zS m5) ρ) (ag (aB (aa (ag (ak ρ ρ<|eq_int _ _) ρ) ah) ei) ρ)<|zS m6) ρ) ρ) ρ
 case d6=>exact fun _ _=>rfl
 case d7=>rcases f8 with (rfl|⟨d,rfl⟩)|⟨d,rfl⟩<;>rfl
 have N:∀l:List Nat,(l.map fun j=>(⟨#[jz st a k j]⟩:eT).length).sum=l.length:=fun l=>by
  induction l with
  | nil=>rfl
  | cons c l ih=>rw[mA,List.sum_cons,ih,gk];exact ad' _ _
 have X:=Jt (sep:=lT "") (ag (dX (enc:=fun j:Nat=>Dat.int<|oH st a k j) (xs:=hM st.length) (fun j=>[.no,.D<|.int<|oH st a k j,.D<|.str "abcdefghijklmnopqrstuvwxyz"]) (fun j=>.str ⟨#[jz st a k j]⟩) (fi:=alt (jG<|cS 8)<|kh<|cS 8) (caps:=[am,am,ac 2]) (g:=vR 1) (fe:=mS 2<|fX<|cO (gu (fun _ j=>bd<|0<j) fun i j=>Dat.int<|i%j) (cS 1)<|fC<|.int 26) (δ:=[.io (pD r),.D<|.int m,.D<|.str "abcdefghijklmnopqrstuvwxyz",.D<|.int st.length,.D<|.L<|st.map .int,.D<|.int a,.O<|.L b,.D<|.int k,.O<|.L ((hM st.length).map fun j=>.int<|oH st a k j),o]) (bU ρ) ρ (by rw[kL];unfold eu;omega) (by rintro j _ δ (rfl|⟨y,rfl⟩)<;>rfl) (fun j z=>bu ρ (ag (ak ρ ρ ρ) ρ) ρ<|Qk (abg _ ⋯)<|aag _ ⋯)<|fun _ _=>rfl) ρ) (x6 (fun j=>(⟨#[jz st a k j]⟩:eT))<|hM st.length) ⟨by decide +kernel,by rw[hG,ax,kL];have:=N<|hM st.length;rw[kL] at this;show ((hM st.length).map fun j=>(⟨#[jz st a k j]⟩:eT).length).sum+_<=_;omega⟩;rw[NQ] at X;refine' af<|aD (v_res X) ?g1<|ai ?g2
 case g1=>rcases f9 with rfl|⟨d,rfl⟩<;>rfl
 have wl:=tz st a k;have tx:y1 (cF st a k)=bi:=B2 (by rw[acA];intro c hc;have:=Dw st a k c<|aa3.2 hc;unfold gI at this;rw[hF,decide_eq_true_eq,decide_eq_true_eq] at this;simp;omega)
 have iw:fx false (.str<|cF st a k) (.L [.str "north",.str "east",.str "south",.str "west"])=ac (.D<|.bl<|aP<|cF st a k):=Fu tx false;have Y:i5 (.str<|cF st a k) (.str<|lT "x")=ac (.D<|.str<|cF st a k++lT "x"):=DR (by rw[wl,show (lT "x").length=1 from by decide +kernel];unfold eu;omega);generalize (hM st.length).map (fun j=>Dat.int<|oH st a k j)=S;have C:∀y,y=jK (cF st a k)->∃q t n o,[.io (pD r),.D<|.int m,.D<|.str "abcdefghijklmnopqrstuvwxyz",.D<|.int st.length,.D<|.L<|st.map .int,.D<|.int a,.O<|.L<|b++[.str y],.D<|.int k,.D<|.L S,.D<|.str y]=[.io (pD r),.D<|.int m,.D<|.str "abcdefghijklmnopqrstuvwxyz",.D<|.int st.length,q,.D<|.int a,.O<|.L<|b++[jK (cF st a k)].map .str,t,n,o]/\Hd q (.L<|st.map .int)/\Fr t/\(Fr n\/∃d,n=.O d)/\Fr o:=fun y e=>e ▸ ⟨_,_,_,_,ρ,τ ρ,τ ⟨_,ρ⟩,ι<|τ ⟨_,ρ⟩,τ ⟨_,ρ⟩⟩;have nx:jK (cF st a k)=if aP (cF st a k) then cF st a k++lT "x" else cF st a k:=ρ;generalize cF st a k=x at *;refine' af<|bK (aE<|ak ρ (ag (bM (aa ρ<|aa ρ<|aa ρ<|aa ρ ah) (show 4<=eu by unfold eu;decide)) ρ) iw) ?Z ?no
 case Z=>intro B;rw[B] at nx;exact af<|aD (ak ρ ρ Y) ρ<|ai<|aw<|ai<|af<|gO (gg ρ ρ ln)<|ai<|aw<|C _ nx.symm
 intro B;rw[B] at nx;exact aw<|ai<|af<|gO (gg ρ ρ ln)<|ai<|aw<|C _ nx.symm
structure Gd (o:Ob) (rs:Fl):Prop where
 oW:∀x∈rs,o.l<=x.2.l/\x.2.l<x.2.r/\x.2.r<=o.r/\o.b<=x.2.b/\x.2.b<x.2.t/\x.2.t<=o.t
 ap:rs.Pairwise fun x y=>Apart x.2 y.2
theorem Gd.perm{o:Ob}{rs a:Fl}(g:Gd o rs)(p:a.Perm rs):Gd o a:=⟨fun x b=>g.oW x<|p.mem_iff.1 b,p.symm.pairwise g.ap fun {x y} h=>h.symm⟩
def Bd(o:Ob):Prop:=o.l=0/\o.b=0/\0<o.r/\o.r<=999/\0<o.t/\o.t<=999
theorem TC(v:Int)(ys:List Int):fx false (.int v) (.L<|ys.map .int)=ac (.D<|.bl<|bd<|v∈ys):=by
 have a:bH (.L<|ys.map .int)=bi:=l4 (by show (ys.map Dat.int).all fg=bi;rw[hE];intro d hd;obtain⟨y,_,rfl⟩:=ee.1 hd;rfl)
 show (if (bH (.int v)&&bH (.L<|ys.map .int))=bi then ac (Res.D<|.bl<|inD (.int v)<|ys.map .int) else am)=_;rw[lG,a];have e:inD (.int v) (ys.map .int)=bd (v∈ys):=by
  rw[nR,ab5,nF,z8,decide_eq_true_eq];constructor
  ·rintro⟨y,hy,e⟩;have e:=e;simp_all [lY]
  exact fun h=>⟨v,h,(lY v v).trans (decide_eq_true ρ)⟩
 rw[e];rfl
theorem GS{Q:Out->Prop}{Ls:List Int}{f:Bool->Int->DS}{c:BF}{fb:SF}(g:∀b v,c (f b v)=ac (bd<|v∈Ls,f false v))(i:∀v,fb (f false v)=ac (.next<|f false<|v+1)):∀(n:Nat) (b:Bool) (v:Int),(Ls.filter<|fun x=>bd<|v<=x).length<n->(∀a,v<=a->a∉Ls->Q (.next<|f false a))->WS (gB c fb n) (f b v) Q
 | 0,_,_,h,_=>absurd h (Dl _)
 | n+1,b,v,h,q=>by
  have e:=g b v;by_cases d:v∈Ls
  ·rw[decide_eq_true d] at e;refine v8 e (i v) (GS g i n false (v+1) ?_ fun a h1 j=>q a ∅ j);have k:Ls.filter (fun x=>bd<|v+1<=x)=(Ls.filter fun x=>bd<|v<=x).filter fun x=>bd (v+1<=x):=by
    rw[List.filter_filter];refine acO fun x _=>?_;by_cases h:v+1<=x
    ·rw[decide_eq_true h,decide_eq_true (by omega:v<=x)];rfl
    rw[decide_eq_false h];rfl
   have:=List.length_filter_lt_length_iff_exists (l:=Ls.filter fun x=>bd<|v<=x) (p:=fun x=>bd<|v+1<=x) |>.mpr ⟨v,iF.2 ⟨d,decide_eq_true<|agI v⟩,by simp;lia⟩;rw[k];omega
  rw[decide_eq_false d] at e;exact Ad e<|q v (agI v) d
def co(k:Nat)(o:Ob):Int:=if k=1 then o.l else if k=2 then o.b else if k=3 then o.r else o.t
def jI(k:Nat)(c:Int)(o:Ob):Ob:=if k=1 then ⟨o.l,o.b,c,o.t⟩ else ⟨o.l,o.b,o.r,c⟩
def lN(k:Nat)(c:Int)(o:Ob):Ob:=if k=1 then ⟨c,o.b,o.r,o.t⟩ else ⟨o.l,c,o.r,o.t⟩
theorem mD(x:eT×Ob){k:Nat}(a:k=1\/k=2\/k=3\/k=4):cy (aU x) (.int (k:Int))=ac (.int<|co k x.2):=by rcases a with rfl|rfl|rfl|rfl<;>rfl
def Gd.split (g:Gd o (x::L))(k:∀u,u=y\/u=z->x.2.l<=u.2.l/\u.2.l<u.2.r/\u.2.r<=x.2.r/\x.2.b<=u.2.b/\u.2.b<u.2.t/\u.2.t<=x.2.t)(a:Apart y.2 z.2):Gd o (y::z::L):=by
 obtain⟨i,p⟩:=g;obtain⟨e,f⟩:=aaE.1 p;have ix:=i x ⋯;have ky:=k y<|ι ρ;have kz:=k z<|τ ρ;have d:∀v∈L,Apart y.2 v.2/\Apart z.2 v.2:=λv c=>by have:=e v c;unfold Apart at this ⊢;omega
 refine⟨λv c=>?_,aaE.2 ⟨λv c=>?_,aaE.2 ⟨λv c=>(d v c).2,f⟩⟩⟩
 ·rcases hO.1 c with rfl|c
  ·omega
  rcases hO.1 c with rfl|c
  ·omega
  exact i v<|fk _ c
 rcases hO.1 c with rfl|c
 ·exact a
 exact (d v c).1
def Gd.cut (g:Gd o (A++x::B))(a:k=1\/k=2)(h1:co k x.2<c)(h2:c<co (k+2) x.2)(nm:eT):Gd o (A++[(x.1,jI k c x.2)]++B++[(nm,lN k c x.2)]):=by
 have g:=g.perm List.perm_middle.symm;have i:=g.oW x ⋯;refine (g.split (y:=(nm,lN k c x.2)) (z:=(x.1,jI k c x.2)) ?_ ?_).perm ?_
 ·rcases a with rfl|rfl<;>rintro u (rfl|rfl)<;>simp[lN,jI,co] at *<;>omega
 ·rcases a with rfl|rfl<;>simp[Apart,lN,jI]
 refine (abp _ _).trans (.cons _ ?_);rw[wm];exact List.perm_middle
def Fp(fn:cK):Prop:=∀(p:Int×Int) (rs:Fl) (nm:eT) (o:Ob),Bd o->Gd o rs->0<rs.length->rs.length<8->∃r b,fn (pD p) [bw rs,.str nm]=ac (r,b)/\∃(a:Fl) (c:Int×Int),r.val=bw a/\b=pD c/\Gd o a/\(a=rs\/(a.map (·.1)).Perm (nm::rs.map (·.1)))
def KR(T:Txt mg)(p1:ba P w K mg base "_law_draw" 1 (dz K 0 fnD))(C:km fnD)(F:a9 K "_law_cut" "_law_cut" zT f N):∃fn,aS P w K mg base bb 2 f N ["_law_purse_here","_law_rows","_law_name"] (dz K 0 fn)/\Fp fn:=by
 refine' nS F Hw ρ ?D ?G
 case D=>have nd:=Hw.nd;have lk:mG "_law_purse_here":=⟨trivial⟩;walk_at "h"
 clear T F p1;intro p rs nm o D g h0 h8;refine' rX ρ ?w;show WS _ [.io (pD p),.D<|bw rs,.D<|.str nm,.no,.no,.no,.no,.no,.no,.no] _;have ln:bZ (bw rs)=ac rs.length:=by simp[bw,bZ]
 obtain⟨v0,q0,t0,a0,b0⟩:=C p (m:=(rs.length:Int)) ∅ ⋯;obtain⟨at_,rfl⟩:=Rr a0;have O:at_<rs.length:=⋯;refine' af<|aD (dB ρ (aa (cu ρ ln) ah) ρ t0 ρ) ρ<|ai ?_;obtain⟨I,J,Q,R,b1⟩:=C q0 (m:=2) ⋯ ⋯;obtain⟨k,h,ek⟩:∃k:Nat,(k=1\/k=2)/\1+I=(k:Int):=⟨(1+I).toNat,∅,∅⟩;refine' af<|aD (ak ρ (ag (dB ρ (aa ρ ah) ρ Q ρ) ρ) (by show ac (Res.D<|.int<|1+I)=_;rw[ek])) ρ<|ai ?_;obtain⟨x,ex⟩:∃x,rs[at_]?=ac x:=⟨_,bg O⟩;have hx:=fB ex;have ir:cy (bw rs) (.int (at_:Int))=ac (aU x):=by show dc (rs.map aU) at_=_;exact iO (by rw[ez,ex];rfl)
 refine' af<|aD (v_res<|bu ρ ρ ρ ir) ρ<|ai ?_;have j:∀y,cy (aU y) (.int (k:Int))=ac (.int<|co k y.2):=λy=>mD y ∅;have n:∀y,cy (aU y) (.int<|(k:Int)+2)=ac (.int<|co (k+2) y.2):=λy=>mD y (k:=k+2) ∅;have bx:∀y∈rs,0<=co k y.2/\co k y.2<co (k+2) y.2/\co (k+2) y.2<=999:=λy hy=>by
  have:=g.oW y hy;unfold Bd at D;rcases h with rfl|rfl
  ·show 0<=y.2.l/\y.2.l<y.2.r/\y.2.r<=999;omega
  show 0<=y.2.b/\y.2.b<y.2.t/\y.2.t<=999;omega
 have hxb:=bx x hx;have gw:∀(q:Int×Int),∃(d:Fl) (p':Int×Int),(Res.D<|bw rs).val=bw d/\pD q=pD p'/\Gd o d/\(d=rs\/(d.map (·.1)).Perm (nm::rs.map (·.1))):=λq=>⟨rs,q,ρ,ρ,g,ι ρ⟩;refine' af<|bK (aE<|ak (ag (ak (bu ρ (ag (ak ρ ρ ρ) ρ) ρ<|n x) (bu ρ ρ ρ<|j x) ρ) ρ) ρ ρ) ?S ?no
 case S=>exact λ_=>af<|aZ ρ<|bO ⟨_,_,_,ρ,ρ,gw J⟩
 intro U;have U:¬co (k+2) x.2-co k x.2<2:=by simpa using U
 refine' aw<|ai ?_;have sz:rs.length<=sizeLine:=∅
 refine' af<|aD (δ2:=[.io (pD J),.D<|bw rs,.D<|.str nm,.D<|.int at_,.D<|.int k,.D<|aU x,.O<|.L<|(rs.map (λy=>co k y.2)++rs.map (λy=>co (k+2) y.2)).map .int,.no,.no,.no]) (ak (r:=.O<|.L<|(rs.map (λy=>co k y.2)++rs.map (λy=>co (k+2) y.2)).map .int) (ag (dX (enc:=aU) (xs:=rs) (λy=>[.no,.D<|aU y,.D<|.int k]) (λy=>.int<|co k y.2) (bU ρ) ρ sz (by rintro y _ δ (rfl|⟨z,rfl⟩)<;>rfl) (λy _=>bu ρ ρ ρ<|j y)<|λ_ _=>rfl) ρ) (ag (dX (enc:=aU) (xs:=rs) (λy=>[.no,.D<|aU y,.D<|.int k]) (λy=>.int<|co (k+2) y.2) (bU ρ) ρ sz (by rintro y _ δ (rfl|⟨z,rfl⟩)<;>rfl) (λy _=>bu ρ (ag (ak ρ ρ ρ) ρ) ρ<|n y)<|λ_ _=>rfl) ρ) ?V) ρ<|ai ?_
 case V=>rw[hI,hG,hG];exact if_pos (by rw[ax,ax];unfold eu;omega)
 generalize hL:rs.map (λy=>co k y.2)++rs.map (λy=>co (k+2) y.2)=Ls;have W:Ls.length<1000:=by rw[<-hL,gd,ax,ax];omega
 obtain⟨v2,u,X,Y,b2⟩:=C J (m:=co (k+2) x.2-co k x.2-1) ∅ ∅;refine' af<|aD (ak (ag (ak (bu ρ ρ ρ<|j x) ρ ρ) ρ) (ag (dB ρ (aa (ag (ak (ag (ak (bu ρ (ag (ak ρ ρ ρ) ρ) ρ<|n x) (bu ρ ρ ρ<|j x) ρ) ρ) ρ ρ) ρ) ah) ρ X ρ) ρ) ρ) ρ<|ai ?_;refine' af<|GS (Ls:=Ls) (f:=λb v=>[.io (pD u),.D<|bw rs,.D<|.str nm,.D<|.int at_,.D<|.int k,.D<|aU x,(if b then .O (.L<|Ls.map .int) else .D (.L<|Ls.map .int)),.D<|.int v,.no,.no]) ?w1 ?w2 mo true _ ?w3 ?w4
 case w1=>exact λb v=>by cases b<;>exact aE<|ak ρ ρ<|TC v Ls
 case w2=>exact λv=>rfl
 case w3=>exact NN (qp _ _) W
 intro c hc hcL;show AQ _ _ (.next [.io (pD u),.D<|bw rs,.D<|.str nm,.D<|.int at_,.D<|.int k,.D<|aU x,.D<|.L<|Ls.map .int,.D<|.int c,.no,.no]);refine' ai<|af<|bK (aE<|ak ρ (bu ρ (ag (ak ρ ρ ρ) ρ) ρ<|n x) ρ) ?y2 ?L
 case y2=>exact λ_=>af<|aZ ρ<|bO ⟨_,_,_,ρ,ρ,gw u⟩
 intro B;have B:¬co (k+2) x.2<=c:=by simpa using B
 refine' aw<|ai ?_;have n1:∀l:List Dat,l.length=5->fh l.length ((k:Int)+2)=ac (k+2):=λl hl=>by rw[hl];rcases h with rfl|rfl<;>rfl
 have L:∀l:List Dat,l.length=5->fh l.length (k:Int)=ac k:=λl hl=>by rw[hl];rcases h with rfl|rfl<;>rfl
 have n0:∀l:List Dat,l.length=5->fh l.length 0=ac 0:=λl hl=>by rw[hl];rfl
 obtain⟨ds,i⟩:∃ds,ds=[Dat.str x.1,.int x.2.l,.int x.2.b,.int x.2.r,.int x.2.t]:=⟨_,ρ⟩;have er:aU x=.U ds:=by rw[i];rfl
 have M:ds.length=5:=by rw[i];rfl
 have eL:Dat.U (ds.set (k+2)<|.int c)=aU (x.1,jI k c x.2):=by rw[i];rcases h with rfl|rfl<;>rfl
 have eU:Dat.U ((ds.set 0<|.str nm).set k (.int c))=aU (nm,lN k c x.2):=by rw[i];rcases h with rfl|rfl<;>rfl
 clear i;rw[er];refine' af<|aD (aB (aa ρ ah) ρ) ρ<|ai ?_;refine' af ⟨_,gf<|vb ρ ρ (ag (ak ρ ρ ρ) ρ) ρ (n1 ds M) ρ,ai ?_⟩;refine' af<|aD (aB (aa ρ ah) ρ) ρ<|ai ?_;refine' af ⟨_,gf<|vb ρ ρ ρ ρ (n0 ds M) ρ,ai ?_⟩;refine' af ⟨_,gf<|vb ρ ρ ρ ρ (L _ (by rw[yv];exact M)) ρ,ai ?_⟩;have Z:fD (bw rs) am (ac (at_:Int))=ac (.O<|.L<|(rs.take at_).map aU):=by show ac (Res.O<|.L<|cutD (rs.map aU) am<|ac (at_:Int))=_;rw[nH,aaA]
 have Vs:fD (bw rs) (ac<|(at_:Int)+1) am=ac (.O<|.L<|(rs.drop<|at_+1).map aU):=by show ac (Res.O<|.L<|cutD (rs.map aU) (ac ((at_+1:Nat):Int)) am)=_;rw[oK,aaB]
 have ad:∀(a b:Fl),a.length<=20->b.length<=20->i5 (.L<|a.map aU) (.L<|b.map aU)=ac (.O<|.L<|(a++b).map aU):=λa b h1 h2=>by rw[hI];exact if_pos (by rw[ax,ax];unfold eu;omega)
 have Q:(rs.take at_).length<=8:=by rw[l5];omega
 have X:(rs.drop<|at_+1).length<=8:=by rw[y4];omega
 have s1:1<=sizeLine:=∅
 have cL:rQ [.L (ds.set (k+2)<|.int c)]=ac (.D<|aU (x.1,jI k c x.2)):=by rw[<-eL];rfl
 have cU:rQ [.L ((ds.set 0<|.str nm).set k (.int c))]=ac (.D<|aU (nm,lN k c x.2)):=by rw[<-eU];rfl
 have R:=ad (rs.take at_) [(x.1,jI k c x.2)] ∅ ⋯;have Y:=ad (rs.take at_++[(x.1,jI k c x.2)]) (rs.drop<|at_+1) (by rw[gd];simp;omega) ∅;have a3:=ad (rs.take at_++[(x.1,jI k c x.2)]++rs.drop (at_+1)) [(nm,lN k c x.2)] (by rw[gd,gd];simp;omega) ⋯;generalize ds.set (k+2) (.int c)=dl at *;generalize (ds.set 0<|.str nm).set k (.int c)=du at *;refine' af<|aZ (ak (ag (ak (ag (ak (ag (ki ρ ρ Z) ρ) (ag (bM (aa (ag (aB (aa ρ ah) cL) ρ) ah) s1) ρ) R) ρ) (ag (lJ ρ (ag (ak ρ ρ ρ) ρ) Vs) ρ) Y) ρ) (ag (bM (aa (ag (aB (aa ρ ah) cU) ρ) ah) s1) ρ) a3)<|bO ⟨_,_,_,ρ,ρ,rs.take at_++[(x.1,jI k c x.2)]++rs.drop (at_+1)++[(nm,lN k c x.2)],u,ρ,ρ,?_,τ ?_⟩
 ·have e:=Ff ex;have g':=g;rw[e] at g';exact g'.cut h ∅ ∅ nm
 have e:=Ff ex;rw[hI];refine (abp nm _).trans (List.Perm.cons nm<|aef ?_)
 conv=>rhs;rw[e]
 simp
structure Drawn (rs:Fl):Prop where
 ne:rs≠[]
 bz:rs.length<=8
 nm:∀x∈rs,fU x.1=bi
 row:∀x∈rs,x.2.l<x.2.r/\x.2.b<x.2.t
 nd:(rs.map (·.1)).Nodup
 ap:rs.Pairwise fun x y=>Apart x.2 y.2
def Gd.drawn (g:Gd o rs)(a:rs≠[])(b:rs.length<=8)(c:∀x∈rs,fU x.1=bi)(nd:(rs.map (·.1)).Nodup):Drawn rs:=⟨a,b,c,λx d=>by have:=g.oW x d;omega,nd,g.ap⟩
def rG(W:Int)(o:Ob):Ob:=⟨W-o.r,o.b,W-o.l,o.t⟩
def Gd.IM (b:Bd o)(g:Gd o rs)(c:∀y∈rs,y.2.r<=W)(h2:W<=o.r):Gd o (rs.map λy=>(y.1,rG W y.2)):=by
 delta Bd at b;refine⟨λx d=>?_,ox.2 (g.ap.imp λ{x y} h=>?_)⟩
 ·obtain⟨y,a,rfl⟩:=ee.1 d;have:=g.oW y a;have:=c y a;dsimp only[rG];omega
 unfold Apart at h ⊢;dsimp only[rG];lia
def Gd.one (x:eT)(h:o.ok):Gd o [(x,o)]:=⟨by simp_all [Ob.ok],adM _ _⟩
def Of{a:AF}{δ δ1:DS}{lo n:Int}(h:a δ=ac ([.int lo,.int n],δ1))(b:-(2 ^ 62)<=lo/\lo<2 ^ 62/\-(2 ^ 62)<=n/\n<2 ^ 62):qL a δ=ac (dF lo n,δ1):=by delta qL;rw[h];exact if_pos b
def Tp{lo n:Int}{k:Nat}{x:Dat}(h:(dF lo n)[k]?=ac x):lo+(k:Int)<n/\x=.int (lo+k):=by have a:=(bt.1 h).1;unfold dF at a h;rw[ez] at h;rw[ax,kL] at a;rw[Z4 a] at h;simp at h;exact⟨⋯,h.symm⟩
theorem Kj (d:rs≠[])(nd:(rs.map (·.1)).Nodup)(h:rs.length<64):lL [bw rs]=ac (.O<|bw<|sd rs):=by
 have e:dq (rs.map aU)=am:=by
  cases rs with
  | nil=>cases d ρ
  | cons x l=>rfl
 show (match dq (rs.map aU) with
  | some c=>if c.length<64 then ac (Res.O<|.L<|(bj c).map .str) else am
  | none=>nQ [.L (rs.map aU)])=_
 rw[e];show (firstsD<|rs.map aU).bind _=_;rw[Ni];show (if _ then _ else _)=_;rw[if_pos ⟨nd,by rw[ax];exact h⟩,Ph rs aU λa _ b _=>rfl];rfl
def JV(rs):(sd rs).Perm rs:=jn _ _
def HW(fn:cK):Prop:=∀p (m:Nat),1<=m->m<=8->∃r a,fn (pD p) [.int m]=ac (r,a)/\∃(rs:Fl) (b:Int×Int),r=.O (bw rs)/\a=pD b/\Drawn rs/\rs.length<=m
theorem NG(T:Txt mg)(p1:ba P w K mg base "_law_draw" 1 (dz K 0 fnD))(V:km fnD)(p2:ba P w K mg base "_law_names" 2 (dz K 0 Vx))(s2:HY Vx)(p3:ba P w K mg base "_law_cut" 2 (dz K 0 Vy))(s3:Fp Vy)(F:a9 K "_law_floor" "_law_floor" xH f fd):∃fn,aS P w K mg base bb 3 f fd ["_law_purse_here","_law_most"] (dz K 0 fn)/\HW fn:=by
 refine' nS F GK ρ ?hb ?post
 case hb=>have nd:=GK.nd;have lk:mG "_law_purse_here":=⟨trivial⟩;walk_at "h"
 intro p m m1 m8;refine' rX ρ ?w;obtain⟨r,c1,e1,a,q1,rfl,rfl,hl,VP,Vz⟩:=s2 p m m8;have O:∀j:Nat,j<m->∃x,a[j]?=ac x/\cy (.L<|a.map .str) (.int (j:Int))=ac (.str x):=λj hj=>by
  have VA:j<a.length:=∅
  refine⟨a[j],bg VA,?_⟩;exact iO (by rw[ez,bg VA];rfl)
 refine' af<|aD (dB ρ (aa ρ ah) ρ e1 ρ) ρ<|ai ?_;obtain⟨D,w0,i0⟩:=O 0 (by lia);obtain⟨R,q2,t2,a2,b2⟩:=V q1 (m:=400) ⋯ ⋯;obtain⟨S,q3,B,a3,b3⟩:=V q2 (m:=400) ⋯ ⋯;have s1:1<=sizeLine:=∅
 have G:5<=sizeLine:=∅
 refine' af<|aD (bM (aa (cw (aa (bu ρ ρ ρ i0)<|aa ρ<|aa ρ<|aa (ag (ak ρ (ag (dB ρ (aa ρ ah) ρ t2 ρ) ρ) ρ) ρ)<|aa (ag (ak ρ (ag (dB ρ (aa ρ ah) ρ B ρ) ρ) ρ) ρ) ah) G) ah) s1) ρ<|ai ?_;obtain⟨c,q4,t4,a4,b4⟩:=V q3 (m:=(m:Int)) ∅ (by lia);refine' af<|aD (ak ρ (ag (dB ρ (aa ρ ah) ρ t4 ρ) ρ) ρ) ρ<|ai ?_;have tk:∀{j:Nat}{x:eT},a[j]?=ac x->a.take (j+1)=a.take j++[x]:=λ{j x} e=>cZ e;refine' af (WS.mono (Q:=λu=>∃(q:Int×Int) (rs:Fl) (o:Ob),u=.next [.io (pD q),.D<|.int m,.O<|.L<|a.map .str,.O<|bw rs,.D<|.int<|1+c,.no,.no]/\Bd o/\Gd o rs/\rs.map (·.1)=a.take rs.length/\1<=rs.length/\rs.length<=m) ?first ?I)
 case first =>
  have dflt:∀q,∃(X:Int×Int) (rs:Fl) (o:Ob),Out.next [.io (pD q),.D<|.int m,.O<|.L<|a.map .str,.O<|bw [(D,⟨0,0,600+R,600+S⟩)],.D<|.int<|1+c,.no,.no]=.next [.io (pD X),.D<|.int m,.O<|.L<|a.map .str,.O<|bw rs,.D<|.int<|1+c,.no,.no]/\Bd o/\Gd o rs/\rs.map (·.1)=a.take rs.length/\1<=rs.length/\rs.length<=m:=λq=>⟨q,_,⟨0,0,600+R,600+S⟩,ρ,⟨ρ,ρ,show 0<600+R by omega,show 600+R<=999 by omega,show 0<600+S by omega,show 600+S<=999 by omega⟩,Gd.one D ⟨show 0<600+R by omega,show 0<600+S by omega⟩,by have:=tk w0;rw[adw] at this;exact this.symm,ft _,m1⟩
  obtain⟨v5,q5,t,a5,b5⟩:=V q4 (m:=2) ⋯ ⋯;have g4:eM (cO (gu (λ_ _=>true) λi j=>Dat.bl<|bd<|j<i) (cS 4)<|fC<|.int 4) [.io (pD q4),.D<|.int m,.O<|.L<|a.map .str,.O<|bw [(D,⟨0,0,600+R,600+S⟩)],.D<|.int<|1+c,.no,.no]=ac (bd<|4<1+c,_):=aE<|ak ρ ρ ρ;refine' xj<|G0<|u7 g4 ⟨λh=>?_,λ_=>⟨nofun,λ_=>aw<|dflt q4⟩⟩;have h:4<1+c:=of_decide_eq_true h;refine' u7 (aE<|ak (ag (dB ρ (aa ρ ah) ρ t ρ) ρ) ρ<|eq_int _ _) ⟨λ_=>?_,λ_=>aw<|dflt q5⟩;obtain⟨x1,w1,i1⟩:=O 1 ∅;obtain⟨x2,w2,i2⟩:=O 2 ∅;obtain⟨x3,w3,i3⟩:=O 3 ∅;obtain⟨x4,w4,i4⟩:=O 4 ∅;have s3:3<=sizeLine:=∅
  have s2:2<=sizeLine:=∅
  refine' af<|aD (δ2:=[.io (pD q5),.D<|.int m,.O<|.L<|a.map .str,.O<|bw [(D,⟨0,0,200,100⟩),(x1,⟨200,0,300,200⟩),(x2,⟨100,200,300,300⟩)],.D<|.int<|1+c,.no,.no]) (bM (aa (cw (aa (bu ρ ρ ρ i0) ρ) G)<|aa (cw (aa (bu ρ ρ ρ i1) ρ) G)<|aa (cw (aa (bu ρ ρ ρ i2) ρ) G) ah) s3) ρ<|ai ?_;refine' af<|aD (δ2:=[.io (pD q5),.D<|.int m,.O<|.L<|a.map .str,.O<|bw [(D,⟨0,0,200,100⟩),(x1,⟨200,0,300,200⟩),(x2,⟨100,200,300,300⟩),(x3,⟨0,100,100,300⟩),(x4,⟨100,100,200,200⟩)],.D<|.int<|1+c,.no,.no]) (ak ρ (ag (bM (aa (cw (aa (bu ρ ρ ρ i3) ρ) G)<|aa (cw (aa (bu ρ ρ ρ i4) ρ) G) ah) s2) ρ) ρ) ρ<|ai<|aw ?_;refine⟨q5,_,⟨0,0,300,300⟩,ρ,⟨ρ,ρ,⋯,⋯,⋯,⋯⟩,(λa b c d e=>⟨⋯,by simp[Apart]⟩) D x1 x2 x3 x4,?_,⋯,by simp;omega⟩;show [D,x1,x2,x3,x4]=a.take 5;rw[tk w4,tk w3,tk w2,tk w1,tk w0];rfl
 case I =>
  rintro _ ⟨q,b,o,rfl,bo,g0,en,l1,lm⟩;refine' ai ?_;have ln:bZ (bw b)=ac b.length:=by simp[bw,bZ]
  refine' af (cN (λk δ=>∃(q:Int×Int) (rs:Fl) (B t:Slot),δ=[.io (pD q),.D<|.int m,.O<|.L<|a.map .str,B,.D<|.int<|1+c,t,.no]/\Hd B (bw rs)/\Fr t/\Gd o rs/\1<=rs.length/\rs.length<=b.length+k/\(rs.map (·.1)).Nodup/\∀y∈rs.map (·.1),y∈a.take (b.length+k)) (Of (aa (cu ρ ln)<|aa ρ ah) ⟨∅,∅,∅,∅⟩) ⟨q,b,_,_,ρ,ι ρ,ι ρ,g0,l1,ft _,by rw[en];exact y3 (aaM _ _) Vz,λy v=>by rw[en] at v;exact v⟩ ?st ?fin)
  case st =>
   rintro k x hx _ ⟨q,rs,B,t,rfl,h3,f5,g,Y,VB,Z,C⟩;obtain⟨hk,rfl⟩:=Tp hx;obtain⟨x,wx,ix⟩:=O (b.length+k) ∅;have ix:cy (.L<|a.map .str) (.int<|(b.length:Int)+k)=ac (.str x):=ix;refine⟨[.io (pD q),.D<|.int m,.O<|.L<|a.map .str,B,.D<|.int<|1+c,.D<|.int<|(b.length:Int)+k,.no],by rcases f5 with rfl|⟨d,rfl⟩<;>rfl,?_⟩;obtain⟨r,c1,ec,l,X,er,rfl,g',L⟩:=s3 q rs x o bo g Y ∅;have f3:cS 3 [.io (pD q),.D<|.int m,.O<|.L<|a.map .str,B,.D<|.int<|1+c,.D<|.int<|(b.length:Int)+k,.no]=ac (bw rs,[.io (pD q),.D<|.int m,.O<|.L<|a.map .str,.D<|bw rs,.D<|.int<|1+c,.D<|.int<|(b.length:Int)+k,.no]):=by rcases h3 with rfl|rfl<;>rfl
   have tw:=tk wx;have nx:x∉a.take (b.length+k):=λz=>by have:=y3 (aaM (b.length+k+1) a) Vz;rw[tw,aee] at this;exact this.2.2 x z x ⋯ ρ
   have key:∃n,j9 3 r [.io (pD X),.D<|.int m,.O<|.L<|a.map .str,.D<|bw rs,.D<|.int<|1+c,.D<|.int<|(b.length:Int)+k,.no]=ac [.io (pD X),.D<|.int m,.O<|.L<|a.map .str,n,.D<|.int<|1+c,.D<|.int<|(b.length:Int)+k,.no]/\Hd n (bw l):=by
    cases r with
    | D d=>exact⟨_,ρ,τ (by rw[<-er];rfl)⟩
    | O d=>exact⟨_,ρ,ι (by rw[<-er];rfl)⟩
   obtain⟨n,e3,Vs⟩:=key;refine' af<|aD (dB ρ (aa f3<|aa (bu ρ ρ ρ ix) ah) ρ ec ρ) e3<|ai<|aw ⟨X,l,n,_,ρ,Vs,τ ⟨_,ρ⟩,g',?_,?_,?_,?_⟩
   ·rcases L with rfl|J
    ·exact Y
    have:=J.length_eq;rw[ax,gk] at this;omega
   ·rcases L with rfl|J
    ·omega
    have:=J.length_eq;rw[ax,gk,ax] at this;omega
   ·rcases L with rfl|J
    ·exact Z
    exact J.nodup_iff.2<|sk.2 ⟨λz=>nx<|C x z,Z⟩
   intro y v;show y∈a.take (b.length+k+1);rw[tw,hY];rcases L with rfl|J
   ·exact ι<|C y v
   rcases hO.1 (J.mem_iff.1 v) with rfl|z
   ·exact τ ⋯
   exact ι<|C y z
  rintro _ ⟨q,rs,B,t,rfl,h3,f5,g,Y,VB,Z,C⟩;have hlen:(dF (b.length:Int)<|1+c).length<=8-b.length:=by unfold dF;rw[ax,kL];omega
  have hlen':(dF (b.length:Int)<|1+c).length<=m-b.length:=by unfold dF;rw[ax,kL];omega
  have VX:rs.length<=m:=∅
  have h8:rs.length<=8:=∅
  have VY:∀y∈rs.map (·.1),fU y=bi:=λy v=>VP y<|ZY<|C y v;clear C VB;obtain⟨v6,U,t6,a6,b6⟩:=V q (m:=2) ⋯ ⋯;refine' ai (af (WS.mono (Q:=λu=>∃(l:Fl) (n t6:Slot),u=.next [.io (pD U),.D<|.int m,.O<|.L<|a.map .str,n,.D<|.int<|1+c,t,t6]/\Hd n (bw l)/\Gd o l/\l.map (·.1)=rs.map (·.1)) (bK (aE<|ak (ag (dB ρ (aa ρ ah) ρ t6 ρ) ρ) ρ<|eq_int _ _) ?yes ?no) ?I))
  case no=>exact λ_=>aw ⟨rs,B,_,ρ,h3,g,ρ⟩
  case yes =>
   intro _;have sz:rs.length<=sizeLine:=∅
   have f3:alt (jG<|cS 3) (kh<|cS 3) [.io (pD U),.D<|.int m,.O<|.L<|a.map .str,B,.D<|.int<|1+c,t,.no]=ac (rs.map aU,[.io (pD U),.D<|.int m,.O<|.L<|a.map .str,.D<|bw rs,.D<|.int<|1+c,t,.no]):=bU (by rcases h3 with rfl|rfl<;>rfl);have ne:rs≠[]:=λe=>by rw[e] at Y;simp at Y
   have bm:=Kc (λy:eT×Ob=>y.2.r) ne;have w1:∀y∈rs,y.2.r<=iX (rs.map λy=>y.2.r):=λy v=>MX<|ee.2 ⟨y,v,ρ⟩;have w2:iX (rs.map λy=>y.2.r)<=o.r:=by obtain⟨y,v,e⟩:=ee.1<|LI (by simpa using ne);rw[<-e];exact (g.oW y v).2.2.1
   generalize iX (rs.map λy=>y.2.r)=W at *;refine' af<|aD (aB (aa (ag (dX (λy=>[.no,.D<|aU y]) (λy=>.int y.2.r) f3 ρ sz ?a1 (λy _=>bu ρ ρ ρ ρ)<|λ_ _=>rfl) ρ) ah) bm) ρ<|ai ?_
   case a1=>rintro y _ δ (rfl|⟨z,rfl⟩)<;>rfl
   refine' af<|aD (δ2:=[.io (pD U),.D<|.int m,.O<|.L<|a.map .str,.O<|bw (rs.map λy=>(y.1,rG W y.2)),.D<|.int<|1+c,t,.D<|.int W]) (dX (enc:=aU) (xs:=rs) (λy=>[.no,.D<|aU y,.D<|.int W]) (λy=>aU (y.1,rG W y.2)) (bU ρ) ρ sz ?a2 (λy _=>cw (aa (bu ρ ρ ρ ρ)<|aa (ag (ak ρ (bu ρ ρ ρ ρ) ρ) ρ)<|aa (bu ρ ρ ρ ρ)<|aa (ag (ak ρ (bu ρ ρ ρ ρ) ρ) ρ)<|aa (bu ρ ρ ρ ρ) ah) G)<|λ_ _=>rfl) ?a3<|ai<|aw ⟨_,_,_,ρ,ι ρ,g.IM bo w1 w2,?a4⟩
   case a2=>rintro y _ δ (rfl|⟨z,rfl⟩)<;>rfl
   case a3=>unfold bw;rw[hG];rfl
   rw[hG];rfl
  case I =>
   rintro _ ⟨l,n,VZ,rfl,Vs,g',M⟩;have N:l.length=rs.length:=by have:=congrArg List.length M;rw[ax,ax] at this;exact this
   have pm:=JV l;refine' ai<|af<|aZ (gf<|aB (aa (δ1:=[.io (pD U),.D<|.int m,.O<|.L<|a.map .str,.D<|bw l,.D<|.int<|1+c,t,VZ]) ?b1 ah)<|Kj (λe=>by rw[e] at N;simp at N;omega) (by rw[M];exact Z) ∅)<|bO ⟨_,_,_,ρ,ρ,sd l,U,ρ,ρ,(g'.perm pm).drawn (λe=>by have:=pm.length_eq;rw[e,N] at this;simp at this;omega) (by rw[pm.length_eq];omega) (λx hx=>VY _ (by rw[<-M];exact ee.2 ⟨x,pm.mem_iff.1 hx,ρ⟩)) ((pm.map _).nodup_iff.2 (by rw[M];exact Z)),by rw[pm.length_eq,N];exact VX⟩;rcases Vs with rfl|rfl<;>rfl
def GN(fn:aY):Prop:=∀(x y:eT×Ob) (k:Nat),k=1\/k=2->x.2.ok->y.2.ok->fn [aU x,aU y,.int (k:Int)]=ac (.D<|.bl<|ff k x.2 y.2)
def PJ (a:k=1\/k=2)(c:x.ok)(d:y.ok):bd ((if co k y>co k x then co k y else co k x)<(if co (k+2) y<co (k+2) x then co (k+2) y else co (k+2) x))=ff k x y:=by
 delta Ob.ok at c d;rw[nF,decide_eq_true_eq];rcases a with rfl|rfl
 ·show (if y.l>x.l then y.l else x.l)<(if y.r<x.r then y.r else x.r) ↔ (bd (x.l<y.r)&&bd (y.l<x.r))=bi;simp;split<;>split<;>omega
 show (if y.b>x.b then y.b else x.b)<(if y.t<x.t then y.t else x.t) ↔ (bd (x.b<y.t)&&bd (y.b<x.t))=bi;simp;split<;>split<;>omega
def Ti(T:Txt mg)(F:a9 K "_law_meets" "_law_meets" xZ f a):∃fn,aS P w K mg base bb 1 f a ["_law_one","_law_other","_law_low"] (aG K fn)/\GN fn:=by
 refine' bW F Bp ρ ?C ?B
 case C=>walk_at "h"
 intro x y k d e g;have b:∀y,cy (aU y) (.int (k:Int))=ac (.int<|co k y.2):=λy=>mD y (by lia);have c:∀y,cy (aU y) (.int<|(k:Int)+2)=ac (.int<|co (k+2) y.2):=λy=>mD y (k:=k+2) ∅;refine' cA ρ ?w;refine' af<|aZ (ak (ag (aB (aa (bu ρ ρ ρ<|b x)<|aa (bu ρ ρ ρ<|b y) ah) ρ) ρ) (ag (aB (aa (bu ρ (ag (ak ρ ρ ρ) ρ) ρ<|c x)<|aa (bu ρ (ag (ak ρ ρ ρ) ρ) ρ<|c y) ah) ρ) ρ) ?_)<|bO ⟨_,ρ⟩;rw[<-PJ d e g];rfl
noncomputable def cm(k:Nat):Nat:=if k=0\/k=2 then 2 else 1
noncomputable def j6(k:Nat):Int:=if k<2 then 1 else -1
def fS(rs:Fl)(x:Ob)(k:Nat):List (Int×eT):=(rs.filter λy=>cP k x y.2).map λy=>(co (3-cm k) y.2,y.1)
def tJ(k:Nat)(x y:Ob):Bool:=if k<2 then bd (co (cm k+2) x=co (cm k) y) else bd (co (cm k) x=co (cm k+2) y)
def Mm (a:k<4)(x y):cP k x y=(tJ k x y&&ff (3-cm k) x y):=by
 have a:k=0\/k=1\/k=2\/k=3:=⋯;rcases a with rfl|rfl|rfl|rfl
 ·show (bd (y.b=x.t)&&ff 1 x y)=(bd (x.t=y.b)&&ff 1 x y);rw[decide_eq_decide.2 (eq_comm )]
 ·show (bd (y.l=x.r)&&ff 2 x y)=(bd (x.r=y.l)&&ff 2 x y);rw[decide_eq_decide.2 (eq_comm )]
 ·show (bd (y.t=x.b)&&ff 1 x y)=(bd (x.b=y.t)&&ff 1 x y);rw[decide_eq_decide.2 (eq_comm )]
 show (bd (y.r=x.l)&&ff 2 x y)=(bd (x.l=y.r)&&ff 2 x y);rw[decide_eq_decide.2 (eq_comm )]
def FW(fn:aY):Prop:=∀(rs:Fl) (x:eT×Ob) (k:Nat),k<4->rs.length<64->x.2.ok->(∀y∈rs,y.2.ok)->((fS rs x.2 k).map (·.1)).Nodup->fn [bw rs,aU x,.int (cm k:Int),.int<|j6 k]=ac (.O (.L (((js<|fS rs x.2 k).map (·.2)).map .str)))
theorem RS (b:(l.map (·.1)).Nodup)(c:l.length<64)(a:fa δ=ac ([.L (l.map gh)],δ1)):alt (bV lL fa) (alt (bV rC fa)<|bV oz fa) δ=ac (.O<|.L<|(js l).map gh,δ1):=by
 cases l with
 | nil =>
  refine gf<|aB a ?_;have:js []=[]:=by unfold js;simp
  rw[this];apply (yq (l:=[]) ⋯).trans;simp[bj]
 | cons p l=>refine rD ?_<|gf<|aB a<|Ip b c;unfold bV;rw[a];rfl
def RU(T:Txt mg)(L:ba P w K mg base "_law_meets" 1 (aG K g))(M:GN g)(F:a9 K "_law_side" "_law_side" wg f o):∃fn,aS P w K mg base bb 2 f o ["_law_rows","_law_one","_law_low","_law_way_here"] (aG K fn)/\FW fn:=by
 refine' bW F Dv ρ ?N ?B
 case N=>walk_at "h"
 intro rs x k O Q R S U;refine' cA ρ ?w;have hl:cm k=1\/cm k=2:=by unfold cm;split<;>simp
 have q:∀y,cy (aU y) (.int (cm k:Int))=ac (.int<|co (cm k) y.2):=λy=>mD y ∅;have r:∀y,cy (aU y) (.int<|(cm k:Int)+2)=ac (.int<|co (cm k+2) y.2):=λy=>mD y (k:=cm k+2) ∅;have t:(3:Int)-(cm k:Int)=((3-cm k:Nat):Int):=∅
 have V:∀y,cy (aU y) (.int<|(3:Int)-(cm k:Int))=ac (.int<|co (3-cm k) y.2):=λy=>by rw[t];exact mD y (by lia)
 have W:oG [.bl (bd<|j6 k=1)]=ac (.D<|.int (if k<2 then 1 else 0)):=by
  delta j6;by_cases h:k<2
  ·rw[if_pos h,if_pos h];rfl
  rw[if_neg h,if_neg h];rfl
 refine' af<|aD (bM ah<|pe _) ρ<|ai ?_;have fs:∀j y,rs[j]?=ac y->(((rs.take<|j+1).filter λy=>cP k x.2 y.2).map λy:eT×Ob=>gh (co (3-cm k) y.2,y.1))=(((rs.take j).filter λy=>cP k x.2 y.2).map λy:eT×Ob=>gh (co (3-cm k) y.2,y.1))++(if cP k x.2 y.2 then [gh (co (3-cm k) y.2,y.1)] else []):=λj y e=>by
  rw[cZ e,aeC,hI];congr 1
  by_cases h:cP k x.2 y.2=bi
  ·rw[if_pos h,Z8,if_pos h];rfl
  rw[if_neg h,Z8,if_neg h];rfl
 refine' af<|cN (λj δ=>∃b a,Fr b/\Fr a/\δ=[.D (bw rs),.D<|aU x,.D<|.int<|cm k,.D<|.int<|j6 k,.O<|.L (((rs.take j).filter λy=>cP k x.2 y.2).map λy:eT×Ob=>gh (co (3-cm k) y.2,y.1)),b,a]) (bU ρ) ⟨_,_,ι ρ,ι ρ,ρ⟩ ?st ?C
 case st =>
  rintro j d hd _ ⟨b,a,u,v,rfl⟩;rw[ez] at hd;obtain⟨y,D,rfl⟩:=gj.1 hd;have X:=fB D;rw[fs j y D];have i:(((rs.take j).filter λy=>cP k x.2 y.2).map λy:eT×Ob=>gh (co (3-cm k) y.2,y.1)).length<sizeLine:=by rw[ax];refine NN (qp _ _) ?_;rw[l5];delta eu;omega
  generalize (((rs.take j).filter λy=>cP k x.2 y.2).map λy:eT×Ob=>gh (co (3-cm k) y.2,y.1))=c at *;refine⟨[.D (bw rs),.D<|aU x,.D<|.int<|cm k,.D<|.int<|j6 k,.O<|.L c,.D<|aU y,a],by rcases u with rfl|⟨d,rfl⟩<;>rfl,?_⟩;have pick:cy (.L [.bl (bd<|co (cm k) x.2=co (cm k+2) y.2),.bl<|bd<|co (cm k+2) x.2=co (cm k) y.2]) (.int (if k<2 then 1 else 0))=ac (.bl<|tJ k x.2 y.2):=by
   delta tJ;by_cases h:k<2
   ·rw[if_pos h,if_pos h];rfl
   rw[if_neg h,if_neg h];rfl
  have l:=Mm O x.2 y.2;have G:=M x y (3-cm k) (by lia) R<|S y X;rw[<-t] at G;have I:2<=sizeLine:=∅
  refine' af<|aD (v_res<|ic (ag (bM (aa (ag (ak (bu ρ ρ ρ<|q x) (bu ρ (ag (ak ρ ρ ρ) ρ) ρ<|r y)<|eq_int _ _) ρ)<|aa (ag (ak (bu ρ (ag (ak ρ ρ ρ) ρ) ρ<|r x) (bu ρ ρ ρ<|q y)<|eq_int _ _) ρ) ah) I) ρ) (ag (aB (aa (ag (ak ρ ρ<|eq_int _ _) ρ) ah) W) ρ) pick) ?Y<|ai ?Z
  case Y=>rcases v with rfl|⟨d,rfl⟩<;>rfl
  generalize tJ k x.2 y.2=m at *;have no:cP k x.2 y.2=bv->∃b a,Fr b/\Fr a/\[.D (bw rs),.D<|aU x,.D<|.int<|cm k,.D<|.int<|j6 k,.O<|.L c,.D<|aU y,.D<|.bl m]=[.D (bw rs),.D<|aU x,.D<|.int<|cm k,.D<|.int<|j6 k,.O<|.L<|c++if cP k x.2 y.2=bi then [gh (co (3-cm k) y.2,y.1)] else [],b,a]:=λh=>⟨_,_,τ ⟨_,ρ⟩,τ ⟨_,ρ⟩,by rw[h,if_neg ⋯,wa]⟩;refine' af<|bK (fY ρ ρ) (λh=>?_)<|λh=>aw<|ai<|aw<|no (by rw[l,h];rfl);refine' af<|bK (fY (ag (aB (aa ρ<|aa ρ<|aa (ag (ak ρ ρ ρ) ρ) ah) G) ρ) ρ) (λn=>?_)<|λn=>aw<|ai<|aw<|ai<|aw<|no (by rw[l,h,n];rfl);have e:cP k x.2 y.2=bi:=by rw[l,h,n];rfl
  refine' af<|gO (gg ρ (aa (cw (aa (bu ρ (ag (ak ρ ρ ρ) ρ) ρ<|V y)<|aa (bu ρ ρ ρ ρ) ah) I) ah) i)<|ai<|aw<|ai<|aw<|ai<|aw ⟨.D<|aU y,.D<|.bl m,τ ⟨aU y,ρ⟩,τ ⟨.bl m,ρ⟩,?_⟩;rw[if_pos e];rfl
 rintro _ ⟨b,a,u,v,rfl⟩;rw[ax,mv];have ep:((rs.filter λy=>cP k x.2 y.2).map λy:eT×Ob=>gh (co (3-cm k) y.2,y.1))=(fS rs x.2 k).map gh:=by unfold fS;rw[hG];rfl
 have J:(fS rs x.2 k).length<64:=by delta fS;rw[ax];exact NN (qp _ _) Q
 rw[ep];have e2:=RS (fa:=fI (cS 4) iy) (δ:=[.D (bw rs),.D<|aU x,.D<|.int<|cm k,.D<|.int<|j6 k,.O<|.L<|(fS rs x.2 k).map gh,b,a]) U J<|aa ρ ah;refine' ai<|af<|aZ (dX (λp=>[.no,.D<|.int p.1,.D<|.str p.2]) (λp=>.str p.2) (bU<|ag e2 ρ) ρ ?b3 ?b4 (λ_ _=>rfl)<|λ_ _=>rfl)<|bO ?b9
 case b3=>rw[AL];unfold eu;omega
 case b4=>rintro y _ δ (rfl|⟨z,rfl⟩)<;>rfl
 rw[hG];exact⟨_,ρ⟩
def bT(rs:Fl)(x:Ob)(k:Nat):List Str:=if (js<|fS rs x k).map (·.2)=[] then [ao k] else (js<|fS rs x k).map (·.2)
theorem uQ (h:f δ=ac (.L<|l.map .str,δ1))(b:g δ1=ac (.L [.str x],δ1)):o6 f g δ=ac (.L<|(if l=[] then [x] else l).map .str,δ1):=by
 delta o6;rw[h];cases l with
 | nil=>exact b
 | cons a l=>rfl
def BS (h:f δ=ac (.L ds,δ1))(a:g δ1=ac (.int<|-1,δ2)):vn f g δ=ac (.O<|.L ds.reverse,δ2):=by delta vn;rw[h];show (g δ1).bind _=_;rw[a];rfl
def sN(a b:List eT)(h1:a.length<=1000)(h2:b.length<=1000):i5 (.L<|a.map .str) (.L<|b.map .str)=ac (.O<|.L<|(a++b).map .str):=by rw[hI];exact if_pos (by rw[ax,ax];unfold eu;omega)
def Rh (x)(k)(h:rs.length<64):(bT rs x k).length<=100:=by
 delta bT;split
 ·simp
 rw[ax,AL];delta fS;rw[ax];exact px (qp _ _) (by lia)
def Fg(fn:aY):Prop:=∀(rs:Fl) (x:eT×Ob),rs.length<64->x.2.ok->(∀y∈rs,y.2.ok)->(∀k,k<4->((fS rs x.2 k).map (·.1)).Nodup)->fn [bw rs,aU x]=ac (.O<|.L<|(bT rs x.2 0++(bT rs x.2 1).reverse++(bT rs x.2 2).reverse++bT rs x.2 3).map .str)
def MA(T:Txt mg)(j:ba P w K mg base "_law_side" 2 (aG K b))(m:FW b)(F:a9 K "_law_neighbours" "_law_neighbours" zF f c):∃fn,aS P w K mg base bb 3 f c ["_law_rows","_law_one"] (aG K fn)/\Fg fn:=by
 refine' bW F E3 ρ ?I ?G
 case I=>walk_at "h"
 intro rs x d o p q;refine' cA ρ ?w;have e:=λk g=>m rs x k g d o p<|q k g;have l:=λk=>Rh (rs:=rs) x.2 k d;have a:1<=sizeLine:=by simp[eu]
 refine' af<|aD (v_res<|uQ (ag (aB ρ<|e 0 ⋯) ρ)<|ag (bM (aa ρ ah) a) ρ) ρ<|ai ?_;refine' af<|aD (v_res<|uQ (ag (aB (by rfl)<|e 1 ⋯) ρ)<|ag (bM (aa ρ ah) a) ρ) ρ<|ai ?_;refine' af<|aD (δ2:=[.D (bw rs),.D<|aU x,.D<|.L<|(bT rs x.2 0).map .str,.D<|.L<|(bT rs x.2 1).map .str,.D<|.L<|(bT rs x.2 2).map .str,.no]) (v_res<|uQ (ag (aB (by rfl)<|e 2 ⋯) ρ)<|ag (bM (aa ρ ah) a) ρ) ρ<|ai ?_;refine' af<|aD (δ2:=[.D (bw rs),.D<|aU x,.D<|.L<|(bT rs x.2 0).map .str,.D<|.L<|(bT rs x.2 1).map .str,.D<|.L<|(bT rs x.2 2).map .str,.D<|.L<|(bT rs x.2 3).map .str]) (v_res<|uQ (ag (aB (by rfl)<|e 3 ⋯) ρ)<|ag (bM (aa ρ ah) a) ρ) ρ<|ai ?_;have l0:=l 0;have l1:=l 1;have l2:=l 2;have l3:=l 3;generalize bT rs x.2 0=A at *;generalize bT rs x.2 1=B at *;generalize bT rs x.2 2=C at *;generalize bT rs x.2 3=D at *;have h:=sN A B.reverse ∅ (by rw[C0];omega);have i:=sN (A++B.reverse) C.reverse (by rw[gd,C0];omega) (by rw[C0];omega);have r:=sN (A++B.reverse++C.reverse) D (by rw[gd,gd,C0,C0];omega) ∅;rw[ae3] at h i;exact af<|aZ (ak (ag (ak (ag (ak ρ (ag (BS ρ ρ) ρ) h) ρ) (ag (BS ρ ρ) ρ) i) ρ) ρ r)<|bO ⟨_,ρ⟩
def G2(fn:aY):Prop:=∀(rs:Fl),rs.length<64->(∀y∈rs,y.2.ok)->(∀x∈rs,∀k,k<4->((fS rs x.2 k).map (·.1)).Nodup)->fn [bw rs]=ac (.O<|.L<|(rs.map λx=>(x.1,bT rs x.2 0++(bT rs x.2 1).reverse++(bT rs x.2 2).reverse++bT rs x.2 3)).map pairD)
def OK(T:Txt mg)(e:ba P w K mg base "_law_neighbours" 3 (aG K a))(g:Fg a)(F:a9 K "_law_web" "_law_web" wM f b):∃fn,aS P w K mg base bb 4 f b ["_law_rows"] (aG K fn)/\G2 fn:=by
 refine' bW F GY ρ ?C ?B
 case C=>walk_at "h"
 intro rs h c i;refine' cA ρ ?w;have sz:rs.length<=sizeLine:=by unfold eu;lia
 have j:2<=sizeLine:=∅
 refine' af<|aZ (dX (λy=>[.no,.D<|aU y,.D<|bw rs]) (λx=>pairD (x.1,bT rs x.2 0++(bT rs x.2 1).reverse++(bT rs x.2 2).reverse++bT rs x.2 3)) (bU ρ) ρ sz ?D (λy d=>cw (aa (bu ρ ρ ρ ρ)<|aa (ag (aB (aa ρ<|aa ρ ah)<|g rs y h (c y d) c<|i y d) ρ) ah) j)<|λ_ _=>rfl)<|bO ?G
 case D=>rintro y _ δ (rfl|⟨z,rfl⟩)<;>rfl
 rw[hG];exact⟨_,ρ⟩
def jE(web a:ay):Prop:=(a.map (·.1)).Perm (web.map (·.1))/\∀z∈a,∃p∈web,p.1=z.1/\rA p.2 z.2
def jE.ok (t:jE web j)(h:bI web)(sh:dC web):bI j/\dC j:=by
 have hl:=t.1.length_eq;rw[ax,ax] at hl;have bz:=h.bz;refine⟨⟨∅,λz f=>?_,t.1.nodup_iff.2 h.nd,λz f=>?_⟩,λz f y l g=>?_⟩
 ·obtain⟨p,i,e,_⟩:=t.2 z f;rw[<-e];exact h.nm p i
 ·obtain⟨p,i,e,d⟩:=t.2 z f;obtain⟨a,b,c⟩:=h.rg p i;rw[d.perm.length_eq,d.perm.nodup_iff,<-e];exact⟨a,b,λn g=>⟨(c n<|d.perm.mem_iff.1 g).1.imp t.1.mem_iff.2 id,(c n<|d.perm.mem_iff.1 g).2⟩⟩
 obtain⟨p,i,e,d⟩:=t.2 z f;obtain⟨q,m,o,k⟩:=t.2 y l;rw[<-e] at *;rw[<-o] at g;exact k.perm.mem_iff.2<|sh p i q m<|d.perm.mem_iff.1 g
def rO (h:n∈bT rs x k):n=ao k\/∃y∈rs,cP k x y.2=bi/\n=y.1:=by
 delta bT at h;split at h
 ·exact ι<|kH.1 h
 obtain⟨p,a,rfl⟩:=ee.1 h;obtain⟨y,b,rfl⟩:=ee.1<|HM.1 a;have:=iF.1 b;exact τ ⟨y,this.1,this.2,ρ⟩
def J0 (a:y∈rs)(h:cP k x y.2=bi):y.1∈bT rs x k:=by have m:y.1∈(js<|fS rs x k).map (·.2):=ee.2 ⟨_,HM.2<|ee.2 ⟨y,iF.2 ⟨a,h⟩,ρ⟩,ρ⟩;delta bT;rw[if_neg λe=>by rw[e] at m;cases m];exact m
def NZ(rs)(x)(k):bT rs x k≠[]:=by delta bT;split<;>simp_all
def pM(rs:Fl)(x:Ob):List Str:=bT rs x 0++(bT rs x 1).reverse++(bT rs x 2).reverse++bT rs x 3
def n9:n∈pM rs x ↔ ∃k,k<4/\n∈bT rs x k:=by
 delta pM;simp only[hY,ac4];constructor
 ·rintro (((h|h)|h)|h)
  ·exact⟨0,⋯,h⟩
  ·exact⟨1,⋯,h⟩
  ·exact⟨2,⋯,h⟩
  exact⟨3,⋯,h⟩
 rintro⟨k,a,h⟩;have a:k=0\/k=1\/k=2\/k=3:=∅
 rcases a with rfl|rfl|rfl|rfl<;>simp[h]
noncomputable def vw(rs:Fl)(n:eT):Ob:=((rs.find? λy=>bd<|y.1=n).map (·.2)).getD ⟨0,0,0,0⟩
def nU(x y:Ob):Nat:=if x.t=y.b then 0 else if x.r=y.l then 1 else if x.b=y.t then 2 else 3
def F7(n:eT):Nat:=if n=ao 0 then 0 else if n=ao 1 then 1 else if n=ao 2 then 2 else 3
def sU(rs:Fl)(x n:eT):Nat:=if aP n then F7 n else nU (vw rs x) (vw rs n)
theorem nN (nd:(rs.map (·.1)).Nodup)(a:y∈rs):vw rs y.1=y.2:=by
 delta vw;cases e:rs.find? λq=>bd (q.1=y.1) with
 | none=>exact absurd (L'.1 e y a) ⋯
 | some q=>have b:=ZT e;have c:=aba e;rw[lS nd b a (by simpa using c)];rfl
def EY (a:k<4):F7 (ao k)=k:=by
 have a:k=0\/k=1\/k=2\/k=3:=∅
 rcases a with rfl|rfl|rfl|rfl<;>decide +kernel
def FC (b:x.ok)(c:y.ok)(a:k<4)(h:cP k x y=bi):nU x y=k:=by
 have a:k=0\/k=1\/k=2\/k=3:=∅
 delta Ob.ok at b c;delta nU;rcases a with rfl|rfl|rfl|rfl
 ·rw[r9] at h;rw[if_pos (by lia)]
 ·rw[si] at h;rw[if_neg ∅,if_pos (by lia)]
 ·rw[pX] at h;rw[if_neg ∅,if_neg ∅,if_pos (by lia)]
 rw[pO] at h;rw[if_neg ∅,if_neg ∅,if_neg ∅]
def Ed (a:k<4)(h:cP k x y=bi):cP ((k+2)%4) y x=bi:=by
 have a:k=0\/k=1\/k=2\/k=3:=∅
 rcases a with rfl|rfl|rfl|rfl
 ·rw[r9] at h;rw[pX];omega
 ·rw[si] at h;rw[pO];omega
 ·rw[pX] at h;rw[r9];omega
 rw[pO] at h;rw[si];omega
def Drawn.sE (F:Drawn rs)(a:x∈rs):x.2.ok:=by have:=F.row x a;delta Ob.ok;omega
def Drawn.room (F:Drawn rs)(a:x∈rs):aP x.1=bv:=by
 have:=F.nm x a;unfold fU at this;simp only[hF,t8] at this
 first|exact this.1.1.1|exact this.1.1.2|exact this.1.2|exact this.2|exact this.1
def Drawn.xK (F:Drawn rs)(c:x∈rs)(a:k<4)(h:n∈bT rs x.2 k):sU rs x.1 n=k:=by
 delta sU;rcases rO h with rfl|⟨y,b,q,rfl⟩
 ·rw[if_pos ((dZ _).2 (di a)),EY a]
 rw[if_neg (by rw[F.room b];simp),nN F.nd c,nN F.nd b];exact FC (F.sE c) (F.sE b) a q
def Drawn.some (F:Drawn rs)(hx:x∈rs)(f:k<4):((fS rs x.2 k).map (·.1)).Nodup:=by
 delta fS;rw[hG];refine ox.2<|List.pairwise_filter.2 (F.ap.imp_of_mem λ{y z} g h ap c d e=>?_);have a:=F.row y g;have b:=F.row z h;unfold Apart at ap;have f:k=0\/k=1\/k=2\/k=3:=∅
 rcases f with rfl|rfl|rfl|rfl
 ·rw[r9] at c d;have e:y.2.l=z.2.l:=e;omega
 ·rw[si] at c d;have e:y.2.b=z.2.b:=e;omega
 ·rw[pX] at c d;have e:y.2.l=z.2.l:=e;omega
 rw[pO] at c d;have e:y.2.b=z.2.b:=e;omega
def Drawn.uW (F:Drawn rs)(x:Ob)(k:Nat):(bT rs x k).Nodup:=by
 delta bT;split
 ·exact adM _ _
 refine (((jn (fS rs x k) _).map _).nodup_iff).2 ?_;delta fS;rw[hG];exact F.nd.sublist<|Ts.map _
def wR{l c:List eT}{f:eT->Nat}{k:Nat}(h:l.Nodup)(h':c.Nodup)(a:∀n∈l,f n<k)(b:∀n∈c,f n=k):(l++c).Nodup :=
 zb.2 ⟨h,h',λn d m hm e=>by have:=a n d;have:=b m hm;subst e;omega⟩
def gx(rs:Fl):ay:=rs.map λy=>(y.1,pM rs y.2)
def Drawn.web (F:Drawn rs):bI (gx rs)/\dC (gx rs):=by
 have em:(gx rs).map (·.1)=rs.map (·.1):=hG;have lm:(gx rs).length=rs.length:=ax _;have ne:=Z3.2 F.ne;have bz:=F.bz;refine⟨⟨∅,λz d=>?_,by rw[em];exact F.nd,λz d=>?_⟩,λz d y g a=>?_⟩
 ·obtain⟨x,c,rfl⟩:=ee.1 d;exact F.nm x c
 ·obtain⟨x,c,rfl⟩:=ee.1 d;have s:=λk b n a=>F.xK c (k:=k) (n:=n) b a;have l:=λk=>Z3.2<|NZ rs x.2 k;refine⟨?_,?_,λn a=>?_⟩
  ·have:=l 0;have:=l 1;have:=l 2;simp only[pM,gd,C0];lia
  ·have h:=λn a=>s 1 ⋯ n (ac4.1 a);have i:=λn a=>s 2 ⋯ n<|ac4.1 a;refine wR (wR (wR (F.uW _ _) ((acN _).nodup_iff.2 (F.uW _ _)) ?_ h) ((acN _).nodup_iff.2 (F.uW _ _)) ?_ i) (F.uW _ _) ?_<|s 3 ⋯
   ·exact λn a=>by rw[s 0 ⋯ n a];decide
   ·exact λn a=>by
     rcases hY.1 a with a|a
     ·rw[s 0 ⋯ n a];decide
     rw[h n a];decide
   exact λn a=>by
    rcases hY.1 a with a|a
    ·rcases hY.1 a with a|a
     ·rw[s 0 ⋯ n a];decide
     rw[h n a];decide
    rw[i n a];decide
  obtain⟨k,b,a⟩:=n9.1 a;rcases rO a with rfl|⟨y,g,q,rfl⟩
  ·refine⟨τ<|di b,λe=>?_⟩;have:=F.room c;rw[<-show ao k=x.1 from e,(dZ _).2 (di b)] at this;cases this
  refine⟨ι (by rw[em];exact ee.2 ⟨y,g,ρ⟩),λe=>?_⟩;obtain rfl:=lS F.nd g c e;have o:=F.row y g;have b:k=0\/k=1\/k=2\/k=3:=∅
  rcases b with rfl|rfl|rfl|rfl
  ·rw[r9] at q;omega
  ·rw[si] at q;omega
  ·rw[pX] at q;omega
  rw[pO] at q;omega
 obtain⟨x,c,rfl⟩:=ee.1 d;obtain⟨y,h',rfl⟩:=ee.1 g;obtain⟨k,b,a⟩:=n9.1 a;rcases rO a with e|⟨v,j,q,e⟩
 ·have:=F.room h';rw[show y.1=ao k from e,(dZ _).2 (di b)] at this;cases this
 obtain rfl:=lS F.nd h' j e;exact n9.2 ⟨_,zR _ ⋯,J0 c<|Ed b q⟩
def EL(fn:cK):Prop:=∀p (web:ay),1<=web.length->web.length<=8->(∀z∈web,0<z.2.length/\z.2.length<=1000)->∃r a,fn (pD p) [.L (web.map pairD)]=ac (r,a)/\∃(b:ay) (c:Int×Int),r=.O (.L<|b.map pairD)/\a=pD c/\jE web b
def Vh(T:Txt mg)(J:ba P w K mg base "_law_draw" 1 (dz K 0 fnD))(t:km fnD)(F:a9 K "_law_turned_web" "_law_turned_web" yP f u):∃fn,aS P w K mg base bb 2 f u ["_law_purse_here","_law_web_here"] (dz K 0 fn)/\EL fn:=by
 refine' nS F Cf ρ ?M ?B
 case M=>intro cdv A outer s H E v;cases T;have lk:mG "_law_purse_here":=⟨trivial⟩;walk_at "S"
 intro p web h1 h8 v;refine' rX ρ ?w;have ln:bZ (.L<|web.map pairD)=ac web.length:=by simp[bZ]
 obtain⟨v0,x,N,a0,b0⟩:=t p (m:=(web.length:Int)) ∅ ∅;obtain⟨a,rfl⟩:=Rr a0;refine' af<|aD (dB ρ (aa (cu ρ ln) ah) ρ N ρ) ρ<|ai ?_;refine' af<|aD (bM ah<|pe _) ρ<|ai ?_;have C:fD (.L<|web.map pairD) (ac (a:Int)) am=ac (.O<|.L<|(web.drop a).map pairD):=by show ac (Res.O<|.L<|cutD (web.map pairD) (ac (a:Int)) am)=_;rw[oK,aaB]
 have D:fD (.L<|web.map pairD) am (ac (a:Int))=ac (.O<|.L<|(web.take a).map pairD):=by show ac (Res.O<|.L<|cutD (web.map pairD) am<|ac (a:Int))=_;rw[nH,aaA]
 have ad:i5 (.L<|(web.drop a).map pairD) (.L<|(web.take a).map pairD)=ac (.O<|.L<|(web.drop a++web.take a).map pairD):=by rw[hI];exact if_pos (by rw[ax,ax,y4,l5];unfold eu;omega)
 have pm:(web.drop a++web.take a).Perm web:=by refine List.perm_append_comm.trans ?_;rw[aaV]
 generalize hL:web.drop a++web.take a=L at *;have ll:=pm.length_eq;refine' af (cN (λk δ=>∃(q:Int×Int) (b:ay) (j l e:Slot),δ=[.io (pD q),.D<|.L<|web.map pairD,.D<|.int a,.O<|.L<|b.map pairD,j,l,e]/\Fr j/\Fr l/\Fr e/\b.map (·.1)=(L.take k).map (·.1)/\∀z∈b,∃p∈web,p.1=z.1/\rA p.2 z.2) (bU<|ag (ak (ag (lJ ρ ρ C) ρ) (ag (ki ρ ρ D) ρ) ad) ρ) ⟨x,[],_,_,_,ρ,ι ρ,ι ρ,ι ρ,ρ,λz g=>by cases g⟩ ?st ?G)
 case G=>rintro _ ⟨q,b,j,l,e,rfl,_,_,_,h,g⟩;rw[ax,mv] at h;exact ai<|af<|aZ ρ<|bO ⟨_,_,_,ρ,ρ,b,q,ρ,ρ,by rw[h];exact pm.map _,g⟩
 rintro k d hd _ ⟨q,b,j,l,e,rfl,O,Q,R,h,g⟩;rw[ez] at hd;obtain⟨z,o,rfl⟩:=gj.1 hd;have n:=pm.mem_iff.1<|fB o;have hk:=(bt.1 o).1;obtain⟨z1,z2⟩:=v z n;refine⟨[.io (pD q),.D<|.L<|web.map pairD,.D<|.int a,.O<|.L<|b.map pairD,.D<|.str z.1,.D<|.L<|z.2.map .str,e],by rcases O with rfl|⟨d,rfl⟩<;>rcases Q with rfl|⟨d,rfl⟩<;>rfl,?_⟩;have S:bZ (.L<|z.2.map .str)=ac z.2.length:=by simp[bZ]
 obtain⟨v1,U,V,W,I⟩:=t q (m:=(z.2.length:Int)) ∅ ∅;obtain⟨c,rfl⟩:=Rr W;refine' af<|aD (dB ρ (aa (cu ρ S) ah) ρ V ρ) ?I<|ai ?X
 case I=>rcases R with rfl|⟨d,rfl⟩<;>rfl
 have Y:fD (.L<|z.2.map .str) (ac (c:Int)) am=ac (.O<|.L<|(z.2.drop c).map .str):=by show ac (Res.O<|.L<|cutD (z.2.map Dat.str) (ac (c:Int)) am)=_;rw[oK,aaB]
 have Z:fD (.L<|z.2.map .str) am (ac (c:Int))=ac (.O<|.L<|(z.2.take c).map .str):=by show ac (Res.O<|.L<|cutD (z.2.map Dat.str) am<|ac (c:Int))=_;rw[nH,aaA]
 have r3:=sN (z.2.drop c) (z.2.take c) (by rw[y4];omega) (by rw[l5];omega);have lw:b.length=k:=by have:=congrArg List.length h;rw[ax,ax,l5] at this;lia
 have r:(b.map pairD).length<sizeLine:=by rw[ax];delta eu;lia
 have s2:2<=sizeLine:=∅
 refine' af<|gO (gg (d:=pairD (z.1,z.2.drop c++z.2.take c)) ρ (aa (cw (aa ρ<|aa (ag (ak (ag (lJ ρ ρ Y) ρ) (ag (ki ρ ρ Z) ρ) r3) ρ) ah) s2) ah) r)<|ai<|aw ⟨U,b++[(z.1,z.2.drop c++z.2.take c)],.D<|.str z.1,.D<|.L<|z.2.map .str,.D<|.int c,?_,τ ⟨.str z.1,ρ⟩,τ ⟨.L<|z.2.map .str,ρ⟩,τ ⟨.int c,ρ⟩,?_,?_⟩
 ·rw[hI];rfl
 ·rw[hI,cZ o,hI,h];rfl
 intro y i;rcases hY.1 i with i|i
 ·exact g y i
 rw[kH.1 i];exact⟨z,n,ρ,z.2.take c,z.2.drop c,(aaV c z.2).symm,ρ⟩
end
section
variable{α:Type}[DecidableEq α]
noncomputable def jH(u o x n:α)(k:Nat):α×α×α:=if k=0 then (u,x,n) else if k=1 then (o,x,n) else if k=2 then (u,n,x) else (o,n,x)
def O3{u o x n d f:α}{k j:Nat}(h:jH u o x n k=jH u o d f j):(x=d/\n=f)\/(x=f/\n=d):=by
 delta jH at h;have q:∀{a b c g b' c':α},(a,b,c)=(g,b',c')->b=b'/\c=c':=λe=>⟨(Prod.mk.inj (Prod.mk.inj e).2).1,(Prod.mk.inj (Prod.mk.inj e).2).2⟩
 repeat' split at h
 all_goals (have:=q h;first|exact ι this|exact τ this|exact τ ⟨this.2,this.1⟩|exact ι ⟨this.2,this.1⟩)
def JF:(jH u o x n k).1=u\/(jH u o x n k).1=o:=by
 delta jH;split
 ·exact ι ρ
 split
 ·exact τ ρ
 split
 ·exact ι ρ
 exact τ ρ
theorem uC [DecidableEq c]:∀{l m:List c},l.Nodup->(∀x∈l,x∈m)->m.length<=l.length->l.Perm m
 | [],m,_,_,h=>by rw[adN.1 (agD.1 h)]
 | a::l,m,nd,hs,h=>by have d:=hs a eN;have b:=sk.1 nd;have g:=uC b.2 (λx f=>(aa4 λ(e:x=a)=>b.1<|e ▸ f).2 (hs x<|fk _ f)) (by rw[aaC d];simp only[gk] at h;omega);exact (g.cons a).trans (List.perm_cons_erase d).symm
variable{rooms walls:List α}{ring:α->List α}{t:α->α->Bool}
noncomputable def jV(rooms:List α)(ring:α->List α)(t:α->α->Bool):List (α×α):=rooms.flatMap λx=>((ring x).filter (t x)).map λn=>(x,n)
def md:(x,n)∈jV rooms ring t ↔ x∈rooms/\n∈ring x/\t x n=bi:=by
 delta jV;simp only[L1,ee,iF,ae1];constructor
 ·rintro⟨a,c,b,⟨d,e⟩,rfl,rfl⟩;exact⟨c,d,e⟩
 rintro⟨c,d,e⟩;exact⟨x,c,n,⟨d,e⟩,ρ,ρ⟩
theorem G5:(jV rooms ring t).length=bQ (λx=>(ring x).countP (t x)) rooms:=by
 delta jV;induction rooms with
 | nil=>rfl
 | cons a l b=>simp only[aal,gd,b,ax,<-vT];rfl
theorem CL(jQ:rooms.Nodup)(nd:∀x∈rooms,(ring x).Nodup):(jV rooms ring t).Nodup:=by
 delta jV;induction rooms with
 | nil=>exact aa7
 | cons a l d =>
  have h:=sk.1 jQ;refine zb.2 ⟨?_,d h.2 λx b=>nd x<|fk _ b,?_⟩
  ·exact ox.2 ((y3 Ts<|nd a eN).imp λc e=>c (Prod.mk.inj e).2)
  intro p f q g e;subst e;obtain⟨n,_,rfl⟩:=ee.1 f;obtain⟨x,b,hm⟩:=L1.1 g;obtain⟨m,_,e⟩:=ee.1 hm;cases e;exact h.1 b
def Hj (jQ:rooms.Nodup)(nd:∀x∈rooms,(ring x).Nodup)(side:α->α->Nat)(c:∀x∈rooms,∀n∈rooms,n∈ring x->t x n=bi->t n x=bi->False):((jV rooms ring t).map λp=>jH u o p.1 p.2<|side p.1 p.2).Nodup:=by
 refine ox.2 ((CL jQ nd).imp_of_mem λ{p q} f g d e=>?_);obtain⟨x,n⟩:=p;obtain⟨x',n'⟩:=q;obtain⟨h,i,j⟩:=md.1 f;obtain⟨k,h5,l⟩:=md.1 g;rcases O3 e with⟨a,b⟩|⟨a,b⟩
 ·exact d<|adv a b
 simp_all
structure tE {α:Type}(rooms walls:List α) (ring:α->List α):Prop where
 jQ:rooms.Nodup
 yI:∀x∈rooms,x∉walls
 nd:∀x∈rooms,(ring x).Nodup
 kK:∀x∈rooms,x∉ring x
 sym:∀x∈rooms,∀y∈rooms,y∈ring x->x∈ring y
def Q0{u o:α}(C:tE rooms walls ring)(side:α->α->Nat){rows:List (α×α×α)}(a:∀x∈rooms,∀n∈rooms,n∈ring x->t x n=bi->t n x=bi->False)
 (c:∀x∈rooms,∀n∈ring x,jH u o x n (side x n)∈rows)(hl:rows.length=bQ (λx=>(ring x).countP (t x)) rooms) :
  rows.Nodup/\∀r∈rows,r.1=u\/r.1=o:=by
 have nd:=Hj (u:=u) (o:=o) C.jQ C.nd side a;have pm:=uC nd (λr b=>by obtain⟨⟨x,n⟩,d,rfl⟩:=ee.1 b;obtain⟨e,f,_⟩:=md.1 d;exact c x e n f) (by simp only[ax,G5,hl];exact ft _)
 refine⟨pm.nodup_iff.1 nd,λr b=>?_⟩;obtain⟨p,_,rfl⟩:=ee.1<|pm.mem_iff.2 b;exact JF
theorem tE.both(C:tE rooms walls ring){lt:α->α->Bool}(g:∀x∈rooms,∀n∈rooms,n∈ring x->lt x n=!lt n x) :
  2*bQ (λx=>(ring x).countP λy=>!fy rooms y||lt x y) rooms=bQ (λx=>(ring x).length+(ring x).countP λy=>!fy rooms y) rooms:=by
 have a:∀x∈rooms,((ring x).countP λy=>fy rooms y&&lt x y)=rooms.countP λy=>bd (y∈ring x)&&lt x y:=λx c=>HI (C.nd x c) C.jQ<|lt x;have b:∀x∈rooms,(ring x).countP (fy rooms)=rooms.countP λy=>bd (y∈ring x):=λx c=>by have:=HI (C.nd x c) C.jQ λ_=>true;simp at this;exact this
 have half:2*bQ (λx=>(ring x).countP λy=>fy rooms y&&lt x y) rooms=bQ (λx=>(ring x).countP (fy rooms)) rooms:=by
  simp only[i7 a,i7 b];have s:bQ (λx=>rooms.countP λy=>bd (y∈ring x)&&lt x y) rooms=bQ (λy=>rooms.countP λx=>bd (x∈ring y)&&lt x y) rooms:=by rw[Nr λx y=>bd (y∈ring x)&&lt x y];refine i7 λy d=>abF λx c=>?_;have:(y∈ring x) ↔ (x∈ring y):=⟨λh=>C.sym x c y d h,λh=>C.sym y d x c h⟩;simp only[hF,decide_eq_true_eq];rw[this]
  have t:bQ (λx=>rooms.countP λy=>bd<|y∈ring x) rooms=bQ (λx=>rooms.countP λy=>bd (y∈ring x)&&lt x y) rooms+bQ (λx=>rooms.countP λy=>bd (y∈ring x)&&lt y x) rooms:=by
   rw[<-pF];refine i7 λx c=>?_;simp only[Oa (λy=>bd<|y∈ring x) (λy=>lt x y)]
   congr 1;refine abF λy d=>?_
   simp only[hF,decide_eq_true_eq,t8];constructor
   ·rintro⟨e,f⟩;have:=g x c y d e;rw[f] at this;exact⟨e,by simpa using this.symm⟩
   rintro⟨e,f⟩;have:=g x c y d e;rw[f] at this;exact⟨e,by simpa using this⟩
  lia
 have j:∀x∈rooms,((ring x).countP λy=>!fy rooms y||lt x y)=((ring x).countP λy=>!fy rooms y)+(ring x).countP λy=>fy rooms y&&lt x y:=λx _=>by
  generalize ring x=l;induction l with
  | nil=>rfl
  | cons y l i=>simp only[wk,wk,i];cases fy rooms y<;>cases lt x y<;>simp<;>lia
 have k:∀x∈rooms,((ring x).length+(ring x).countP λy=>!fy rooms y)=((ring x).countP λy=>!fy rooms y)+((ring x).countP λy=>!fy rooms y)+(ring x).countP (fy rooms):=λx _=>by
  generalize ring x=l;induction l with
  | nil=>rfl
  | cons y l i=>simp only[wk,gk];cases fy rooms y<;>simp<;>lia
 simp only[i7 j,i7 k,pF,pF];lia
end
noncomputable def iB(l:List Nat):List (Nat×Nat):=l.zip<|l.drop 1++l.take 1
def fw(l:List Nat):List Nat:=(iB l).map λp=>(p.2+4-p.1)%4
def iC(l:List Nat):Bool:=(fw l).all (λs=>bd<|s<=1)&&bd ((fw l).countP (λs=>bd<|s=1)=4)
noncomputable def vQ(A:List Nat)(y:Nat):List (Nat×Nat):=A.zip<|A.drop 1++[y]
def FT:iB ((a::A)++(b::B))=vQ (a::A) b++vQ (b::B) a:=by show ((a::A)++(b::B)).zip ((A++(b::B))++[a])=_;rw[show (A++(b::B))++[a]=(A++[b])++(B++[a]) by simp];exact List.zip_append ⋯
theorem LH:(fw<|B++A).Perm (fw<|A++B):=by
 cases A with
 | nil=>simp
 | cons a A =>
  cases B with
  | nil=>simp
  | cons b B=>delta fw;rw[FT,FT];exact List.Perm.map _ aea
def JK (h:(fw l).Perm (fw m)):iC l=iC m:=by delta iC;rw[h.countP_eq];congr 1;rw[nF,hE,hE];exact⟨λk x a=>k x<|h.mem_iff.2 a,λk x a=>k x<|h.mem_iff.1 a⟩
def UB:iC (B++A)=iC (A++B):=JK LH
local macro_rules | `(tactic| walk_at $s:str)=>Mq.go s "1@Ry rirararrD~0@DE.alt&vD rrarA&OU rarA"
section
variable{P:lq}{w:qh}{K:gW}{mg:eT->Option dk}{base:pq}
abbrev bJ:=eT×eT×eT
noncomputable def ar(t:bJ):Dat:=.U [.str t.1,.str t.2.1,.str t.2.2]
def cD(x n:eT)(k:Nat):bJ:=jH "up" "on" x n k
def fG(t:bJ):Prop:=bh t.1/\bh t.2.1/\bh t.2.2
def kc:bh "up"/\bh "on":=⟨⟨by decide +kernel,by decide +kernel⟩,⟨by decide +kernel,by decide +kernel⟩⟩
def xf (a:bh x)(b:bh n)(k:Nat):fG (cD x n k):=by
 delta cD jH;split
 ·exact⟨kc.1,a,b⟩
 split
 ·exact⟨kc.2,a,b⟩
 split
 ·exact⟨kc.1,b,a⟩
 exact⟨kc.2,b,a⟩
def K6 (h:fG t):bH (ar t)=bi:=D5 (by simp[fg,h.1.ok,h.2.1.ok,h.2.2.ok])
def Ma{a:List bJ}(h:∀t∈a,fG t):bH (.L<|a.map ar)=bi:=An (by rw[hE];intro d hd;obtain⟨t,b,rfl⟩:=ee.1 hd;have:=h t b;show [Dat.str t.1,.str t.2.1,.str t.2.2].all fg=bi;simp[fg,this.1.ok,this.2.1.ok,this.2.2.ok])
def Hv(t u):dA (ar t) (ar u)=bd (t=u):=by obtain⟨a,b,c⟩:=t;obtain⟨d,b',c'⟩:=u;show (dA (.str a) (.str d)&&(dA (.str b) (.str b')&&(dA (.str c) (.str c')&&true)))=_;rw[jb,jb,jb,adF,nF];simp
def EM{a:List bJ}(h:∀t∈a,fG t){t:bJ}(b:fG t):fx false (ar t) (.L<|a.map ar)=ac (.D<|.bl<|bd<|t∈a):=by
 have e:inD (ar t) (a.map ar)=bd (t∈a):=by
  rw[nR,ab5,nF,z8,decide_eq_true_eq];constructor
  ·rintro⟨y,c,e⟩;have e:dA (ar y) (ar t)=bi:=e;rw[Hv,decide_eq_true_eq] at e;exact e ▸ c
  exact λhm=>⟨t,hm,by show dA (ar t) (ar t)=bi;rw[Hv];exact decide_eq_true ρ⟩
 show (if bH (ar t)&&bH (.L<|a.map ar) then ac (Res.D<|.bl<|inD (ar t)<|a.map ar) else am)=_;rw[K6 b,Ma h,e];rfl
def qU (a:j<4)(b:k<4)(h:ao j=ao k):j=k:=by
 have a:j=0\/j=1\/j=2\/j=3:=∅
 have b:k=0\/k=1\/k=2\/k=3:=∅
 rcases a with rfl|rfl|rfl|rfl<;>rcases b with rfl|rfl|rfl|rfl<;>first|rfl|exact absurd h (by decide +kernel)
def oQ (a:j<4)(b:k<4):eF false (.str<|ao j) (.str<|ao k)=ac (.D<|.bl<|bd<|j=k):=by rw[mC (dY _<|di a).ok (dY _<|di b).ok];have:bd (ao j=ao k)=bd (j=k):=decide_eq_decide.2 ⟨qU a b,λe=>by rw[e]⟩;rw[this]
def By(fn:aY):Prop:=∀(x n:eT) (k:Nat),k<4->fn [.str x,.str n,.str<|ao k]=ac (.D<|ar<|cD x n k)
def Up(T:Txt mg)(F:a9 K "row_of" "row_of" zZ f c):∃fn,aS P w K mg base bb 1 f c ["room","name","side"] (aG K fn)/\By fn:=by
 refine' bW F FL ρ ?C ?B
 case C=>walk_at "h"
 intro x n k b;have i:=oQ b (show 0<4 by decide);have j:=oQ b (show 1<4 by decide);have l:=oQ b (show 2<4 by decide);have a:3<=sizeLine:=∅
 refine' cA ρ ?w;refine af (bK (aE<|ak ρ ρ i) (λh=>?_) λd=>aw<|ai<|af (bK (aE<|ak ρ ρ j) (λh=>?_) λe=>aw<|ai<|af (bK (aE<|ak ρ ρ l) (λh=>?_) λg=>aw<|ai ?_)))
 ·cases of_decide_eq_true h;exact af<|aZ (v_res<|cw (aa ρ<|aa ρ<|aa ρ ah) a) ⟨_,ρ⟩
 ·cases of_decide_eq_true h;exact af<|aZ (v_res<|cw (aa ρ<|aa ρ<|aa ρ ah) a) ⟨_,ρ⟩
 ·cases of_decide_eq_true h;exact af<|aZ (v_res<|cw (aa ρ<|aa ρ<|aa ρ ah) a) ⟨_,ρ⟩
 have d:=of_decide_eq_false d;have e:=of_decide_eq_false e;have g:=of_decide_eq_false g;obtain rfl:k=3:=∅
 exact af<|aZ (v_res<|cw (aa ρ<|aa ρ<|aa ρ ah) a) ⟨_,ρ⟩
def AV(fn:aY):Prop:=∀a:List Nat,(∀k∈a,k<4)->a.length<=100->fn [.L ((a.map ao).map .str)]=ac (.D<|.bl<|iC a)
def T5(a):gZ (a.map ao)=(iB a).map λp=>(ao p.1,ao p.2):=by delta gZ iB;rw[<-aaB,<-aaA,<-hI,afT];rfl
def wo (h:p∈iB a):p.1∈a/\p.2∈a:=by
 have b:=ab' h;refine⟨b.1,?_⟩;rcases hY.1 b.2 with z|z
 ·exact acn z
 exact ZY z
theorem OT(T:Txt mg)(w1:fP K mg "WALLS" kX)(u:mg "zip"=am){t:aY}(Q:ba P w K mg base "follower" 1 (aG K t))(R:ur t){f:eH}{y:hU}(F:a9 K "goes_round" "goes_round" yy f y):∃fn,aS P w K mg base bb 2 f y ["sides"] (aG K fn)/\AV fn:=by
 refine' bW F F8 ρ ?S ?B
 case S=>have nd:=F8.nd;walk_at "h"
 clear T F Q u;intro a C u;refine' cA ρ ?w;show WS _ [.D (.L<|(a.map ao).map .str),.no,.no,.no] _;have G:=Di (i:=0) (ns:=a.map ao) (δ:=[.D (.L<|(a.map ao).map .str),.D<|.int 0,.no,.no]) ρ (by rw[ax];exact u);have em:((iB a).map fun p=>(ao p.1,ao p.2)).map (fun q:eT×eT=>Dat.U [.str q.1,.str q.2])=(iB a).map fun p=>Dat.U [.str (ao p.1),.str<|ao p.2]:=hG ..;rw[T5,em] at G;generalize hD:Dat.L ((a.map ao).map .str)=D at *;generalize I:iB a=b at *;have pm:∀p∈b,p.1<4/\p.2<4:=fun p k=>by subst I;exact⟨C _ (wo k).1,C _ (wo k).2⟩
 have l:iC a=((b.map fun p=>(p.2+4-p.1)%4).all (fun s=>bd<|s<=1)&&bd ((b.map fun p=>(p.2+4-p.1)%4).countP (fun s=>bd<|s=1)=4)):=by subst I;rfl
 refine' af<|aD (v_res ρ) ρ<|ai ?_;refine' af<|cN (fun j δ=>∃m n,Fr m/\Fr n/\(((b.take j).map fun p=>(p.2+4-p.1)%4).all fun s=>bd<|s<=1)=bi/\δ=[.D D,.D<|.int (((b.take j).map fun p=>(p.2+4-p.1)%4).countP (fun s=>bd<|s=1):Nat),m,n]) G ⟨_,_,ι ρ,ι ρ,ρ,ρ⟩ ?st ?J
 case st =>
  rintro j d hd _ ⟨m,n,L,M,o,rfl⟩;rw[ez] at hd;obtain⟨p,ep,rfl⟩:=gj.1 hd;have k:=fB ep;obtain⟨v,x⟩:=pm p k;have hm:(p.1+1)%4<4:=zR _ ⋯;generalize O:(((b.take j).map fun p=>(p.2+4-p.1)%4).countP (fun s=>bd<|s=1))=N at *;refine⟨[.D D,.D<|.int N,.D<|.str<|ao p.1,.D<|.str<|ao p.2],by rcases L with rfl|⟨d,rfl⟩<;>rcases M with rfl|⟨d,rfl⟩<;>rfl,?_⟩;have r:=cZ ep;refine af<|bK (aE<|ak ρ (ag (aB (aa ρ ah)<|R p.1 v) ρ)<|oQ x hm) (fun h=>?_)<|fun h=>?_
  ·have h:=of_decide_eq_true h;have g:(p.2+4-p.1)%4=1:=∅
   refine af<|aD (δ2:=[.D D,.D<|.int (N+1:Nat),.D<|.str<|ao p.1,.D<|.str<|ao p.2]) (ak ρ ρ ρ) ρ<|ai<|aw<|ai<|aw ⟨.D<|.str<|ao p.1,.D<|.str<|ao p.2,τ ⟨_,ρ⟩,τ ⟨_,ρ⟩,?_,?_⟩
   ·rw[r,hI,adh,o];simp[g]
   rw[r,hI,aaF,O];simp[g]
  have h:=of_decide_eq_false h;have ne:eF true (.str<|ao p.2) (.str<|ao p.1)=ac (.D<|.bl<|!bd (p.2=p.1)):=by rw[pC (fT (dY _<|di x).ok) (fT (dY _<|di v).ok),jb];have:bd (ao p.2=ao p.1)=bd (p.2=p.1):=decide_eq_decide.2 ⟨qU x v,fun e=>by rw[e]⟩;rw[this]
  refine af<|bK (aE<|ak ρ ρ ne) (fun c=>?_)<|fun c=>aw<|ai<|aw<|ai<|aw ⟨.D<|.str<|ao p.1,.D<|.str<|ao p.2,τ ⟨_,ρ⟩,τ ⟨_,ρ⟩,?_,?_⟩
  ·have c:¬p.2=p.1:=by simpa using c
   refine af<|aZ ρ<|bO ?_;have:iC a=bv:=by
    rw[l];have:¬((b.map fun p=>(p.2+4-p.1)%4).all (fun s=>bd<|s<=1))=bi:=fun z=>by rw[hE] at z;have:=of_decide_eq_true<|z _<|ee.2 ⟨p,k,ρ⟩;omega
    rw[qo.2 this];rfl
   rw[this];exact⟨_,ρ⟩
  ·have c:p.2=p.1:=by simpa using c
   have g:(p.2+4-p.1)%4=0:=∅
   rw[r,hI,adh,o];simp[g]
  have c:p.2=p.1:=by simpa using c
  have g:(p.2+4-p.1)%4=0:=∅
  rw[r,hI,aaF,O];simp[g]
 rintro _ ⟨m,n,L,M,o,rfl⟩;rw[ax,mv] at *;rw[o,aa2] at l;refine ai<|af<|aZ (ak ρ ρ qr)<|gv ?_;rw[l];refine decide_eq_decide.2 ?_;simp only[gk,aah];omega
def bR(rows:List bJ)(x n:eT):List Nat:=(hM 4).filter λk=>bd<|cD x n k∈rows
noncomputable def cX(l:List Nat):Dat:=.L (l.map λk:Nat=>.int (k:Int))
def qD (h:k∈bR rows x n):k<4:=nk.1 (iF.1 h).1
theorem IP:(bR rows x n).headD 0<4:=by
 cases e:bR rows x n with
 | nil=>exact (by decide:0<4)
 | cons a l=>exact qD (by rw[e];exact eN)
def Bx:(bR rows x n).length<=4:=px (qp _ _) ⋯
def BL(fn:aY):Prop:=∀(rows:List bJ) (x n:eT),(∀t∈rows,fG t)->bh x->bh n->fn [.L (rows.map ar),.str x,.str n]=ac (.O<|cX<|bR rows x n)
def TR(T:Txt mg)(F:a9 K "_law_way" "_law_way" y6 f c):∃fn,aS P w K mg base bb 1 f c ["_law_rows","_law_room","_law_name"] (aG K fn)/\BL fn:=by
 refine' bW F E2 ρ ?C ?B
 case C=>intro cdv A outer s H E d;cases T;walk_at "S"
 intro rows x n d g h;have a:3<=sizeLine:=∅
 have e:4<=sizeLine:=∅
 refine' cA ρ ?w;have i:∀k:Nat,k<4->cy (.L [ar (cD x n 0),ar<|cD x n 1,ar<|cD x n 2,ar<|cD x n 3]) (.int (k:Int))=ac (ar<|cD x n k):=λk b=>by
  have b:k=0\/k=1\/k=2\/k=3:=∅
  rcases b with rfl|rfl|rfl|rfl<;>rfl
 refine' af<|aD (δ2:=[.D (.L<|rows.map ar),.D<|.str x,.D<|.str n,.O<|.L [ar (cD x n 0),ar<|cD x n 1,ar<|cD x n 2,ar<|cD x n 3]]) (bM (aa (cw (aa ρ<|aa ρ<|aa ρ ah) a)<|aa (cw (aa ρ<|aa ρ<|aa ρ ah) a)<|aa (cw (aa ρ<|aa ρ<|aa ρ ah) a)<|aa (cw (aa ρ<|aa ρ<|aa ρ ah) a) ah) e) ρ<|ai ?_;generalize Dat.L [ar (cD x n 0),ar<|cD x n 1,ar<|cD x n 2,ar<|cD x n 3]=S at *;refine' af<|aZ (fN (enc:=λk:Nat=>.int (k:Int)) (xs:=hM 4) (λk=>[.no,.D<|.int k,.D<|.L<|rows.map ar,.D S]) (λk=>bd<|cD x n k∈rows) (λk:Nat=>.int (k:Int)) ?D ρ (by rw[kL];exact e) ?G ?I (λ_ _ _=>rfl)<|λ_ _=>rfl)<|bO ⟨_,ρ⟩
 case D=>exact j8 (n:=4) (aa ρ ah) ⟨⋯,⋯⟩
 case G=>rintro j _ δ (rfl|⟨y,rfl⟩)<;>rfl
 intro k b;exact aE<|ak (bu ρ ρ ρ<|i k<|nk.1 b) ρ<|EM d<|xf g h k
theorem Fw:∀l m:List Int,iS (l.map .int) (m.map .int)=bd (l=m)
 | [],[]=>rfl
 | [],_::_=>rfl
 | _::_,[]=>rfl
 | x::l,y::m=>by show (dA (.int x) (.int y)&&iS (l.map .int) (m.map .int))=_;rw[Fw l m,lY,nF];simp
theorem KO (b:ns.length<64)(a:fa δ=ac ([.L (ns.map .int)],δ1)):alt (bV oz fa) (bV qW fa) δ=ac (.O<|.L<|(iE ns).map .int,δ1):=by
 have c:qW [.L (ns.map .int)]=ac (.O<|.L<|(iE ns).map .int):=by show (kI<|ns.map .int).bind _=_;rw[wQ (λx=>x)];rw[aaN];exact if_pos b
 cases ns with
 | nil=>refine gf<|aB a ?_;rw[show iE []=[] by unfold iE;simp];show (if ([]:List (List eT)).Nodup/\0<64 then ac (Res.O<|.L<|(jF []).map tupS) else am)=_;rw[if_pos ⟨aa7,⋯⟩,show jF []=[] by unfold jF;simp];rfl
 | cons p l=>refine rD ?_<|aB a c;delta bV;rw[a];rfl
def My{l:List Nat}(hl:∀s∈l,s<4):bd (iE ((l.filter λs=>bd<|0<s).map λs:Nat=>(s:Int))=[1,1,1,1])=(l.all (λs=>bd<|s<=1)&&bd (l.countP (λs=>bd<|s=1)=4)):=by
 rw[nF,decide_eq_true_eq,hF,hE,decide_eq_true_eq];have pm:(iE ((l.filter λs=>bd<|0<s).map λs:Nat=>(s:Int))).Perm ((l.filter λs=>bd<|0<s).map λs:Nat=>(s:Int)):=jn _ _;have cnt:(∀s∈l,s<=1)->(l.filter λs=>bd<|0<s)=l.filter λs=>bd (s=1):=λh=>acO λs hs=>decide_eq_decide.2 (by have:=h s hs;omega);constructor
 ·intro e;rw[e] at pm;have a:∀s∈l,s<=1:=λs hs=>by
   by_cases b:0<s
   ·have:=pm.mem_iff.2<|ee.2 ⟨s,iF.2 ⟨hs,decide_eq_true b⟩,ρ⟩;simp at this;omega
   omega
  refine⟨λs hs=>decide_eq_true<|a s hs,?_⟩;rw[vT,<-cnt a];have:=pm.length_eq;rw[ax] at this;exact this.symm
 rintro⟨a,c⟩;have a:∀s∈l,s<=1:=λs hs=>of_decide_eq_true (a s hs);rw[cnt a];have e:(l.filter λs=>bd<|s=1)=zc 4 1:=List.eq_replicate_iff.2 ⟨by rw[<-vT];exact c,λs hs=>of_decide_eq_true (iF.1 hs).2⟩;rw[e];exact (Dz (List.Perm.refl _) ⋯).symm
def A8(fn:aY):Prop:=∀L:List (List Nat),(∀l∈L,l.length<=4/\∀k∈l,k<4)->0<L.length->L.length<=60->fn [.L (L.map cX)]=ac (.D<|.bl<|L.all (λl=>bd<|l.length=1)&&iC (L.map λl=>l.headD 0))
theorem UO(T:Txt mg)(F:a9 K "_law_round" "_law_round" zi f N):∃fn,aS P w K mg base bb 1 f N ["_law_sides"] (aG K fn)/\A8 fn:=by
 refine' bW F Du ρ ?hb ?G
 case hb=>have nd:=Du.nd;walk_at "h"
 intro L O Q R;have sz:L.length<=sizeLine:=by unfold eu;lia
 have ln:∀l∈L,bZ (cX l)=ac l.length:=λl _=>by simp[bZ,cX]
 refine' cA ρ ?w;refine' af<|bK (b:=bd<|0<(L.filter λl=>!bd (l.length=1)).length) (aE<|ak (ag (aB (aa (ag (fN (λl=>[.no,.D<|cX l]) (λl=>!bd (l.length=1)) cX (bU ρ) ρ sz ?a1 ?a2 (λ_ _ _=>rfl)<|λ_ _=>rfl) ρ) ah) ρ) ρ) ρ ?a3) ?S ?no
 case a1=>rintro j _ δ (rfl|⟨y,rfl⟩)<;>rfl
 case a2=>intro l hl;refine aE<|ak (cu ρ<|ln l hl) ρ ?_;rw[ne_int];have:bd ((l.length:Int)=1)=bd (l.length=1):=decide_eq_decide.2 (by lia);rw[this]
 case a3=>show ac (Res.D<|.bl<|bd<|(0:Int)<(((L.filter λl=>!bd (l.length=1)).map cX).length:Nat))=_;rw[ax];have:bd ((0:Int)<((L.filter λl=>!bd (l.length=1)).length:Nat))=bd (0<(L.filter λl=>!bd (l.length=1)).length):=decide_eq_decide.2 ∅;rw[this]
 case S =>
  intro h;have h:=of_decide_eq_true h;obtain⟨l,hl⟩:=aa6 h;obtain⟨h1,U⟩:=iF.1 hl;have:L.all (λl=>bd<|l.length=1)=bv:=by rw[qo];intro z;rw[hE] at z;have:=z l h1;rw[this] at U;cases U
  rw[this];exact af<|aZ ρ ⟨_,ρ⟩
 intro h;have h:=of_decide_eq_false h;have all1:∀l∈L,l.length=1:=λl hl=>by
  by_cases e:l.length=1
  ·exact e
  exact absurd (WG<|iF.2 ⟨hl,by simpa using e⟩) h
 have:L.all (λl=>bd<|l.length=1)=bi:=hE.2 λl hl=>decide_eq_true<|all1 l hl;rw[this,aa2];refine' aw<|ai<|af<|aD (δ2:=[.D (.L<|L.map cX),.O<|.L ((L.map λl=>l.headD 0).map λk:Nat=>.int (k:Int)),.no]) (dX (λl=>[.no,.D<|cX l]) (λl=>.int (l.headD 0:Nat)) (bU ρ) ρ sz ?b1 ?b2<|λ_ _=>rfl) ?b3<|ai ?b4
 case b1=>rintro j _ δ (rfl|⟨y,rfl⟩)<;>rfl
 case b2 =>
  intro l hl;refine bu ρ ρ ρ ?_;have:=all1 l hl
  match l,this with
  | [a],_=>rfl
 case b3=>rw[hG];rfl
 have V:∀k∈L.map λl=>l.headD 0,k<4:=λk o=>by
  obtain⟨l,hl,rfl⟩:=ee.1 o;have:=all1 l hl;have h4:=(O l hl).2
  match l,this with
  | [a],_=>exact h4 a eN
 have q:(L.map λl=>l.headD 0).length=L.length:=ax ..;generalize (L.map λl=>l.headD 0)=m at *;clear O ln this all1 h;rw[<-q] at Q R;clear q sz;obtain⟨c,z,rfl⟩:∃c z,m=c++[z]:=⟨m.dropLast,m.getLast<|Z3.1 Q,(List.dropLast_concat_getLast _).symm⟩;rw[<-UB ];have W:(c++[z]).length=c.length+1:=⋯
 have I:iB ([z]++c)=(z::c).zip (c++[z]):=ρ;generalize u:c++[z]=m at *;have sz:m.length<=sizeLine:=∅
 have step:∀k,k<m.length->∃a b:Nat,cy (.L (m.map λk:Nat=>.int (k:Int))) (.int (k:Int))=ac (.int (b:Int))/\cy (.L (m.map λk:Nat=>.int (k:Int))) (.int<|(k:Int)-1)=ac (.int (a:Int))/\(iB<|[z]++c)[k]?=ac (a,b):=λk o=>by
  have g:∀j,(X:j<m.length)->(m.map λk:Nat=>Dat.int (k:Int))[j]?=ac (.int (m[j]:Int)):=λj X=>by rw[ez,bg X];rfl
  have Y:k<(z::c).length:=by rw[gk,<-W];exact o
  refine⟨(z::c)[k],m[k],?_,?_,?_⟩
  ·rw[kj];exact iO<|g k o
  ·rw[kj];cases k with
   | zero=>subst u;show dc ((c++[z]).map λk:Nat=>Dat.int (k:Int)) (-1)=_;rw[hI];exact Vd _ _
   | succ k=>rw[show ((k+1:Nat):Int)-1=(k:Int) by omega];rw[iO (g k ∅)];subst u;rw[gk] at Y;simp only[List.getElem_cons_succ];rw[List.getElem_append_left ∅]
  rw[I,HT];exact⟨bg Y,bg o⟩
 have v:(iB<|[z]++c).length=m.length:=by rw[I,afi,gk,<-W];simp
 have C:(fw<|[z]++c).length=m.length:=by unfold fw;rw[ax];exact v
 have s4:∀s∈fw ([z]++c),s<4:=λs hs=>by obtain⟨p,_,rfl⟩:=ee.1 hs;exact zR _ ⋯
 have Z:∀p∈iB ([z]++c),p.1<4:=λp hp=>V _ (by have:=(wo hp).1;subst u;simp only[hY,kH] at this ⊢;exact this.symm)
 have D:iC ([z]++c)=_:=(My s4).symm;refine' af<|aD (δ2:=[.D (.L<|L.map cX),.D<|.L (m.map λk:Nat=>.int (k:Int)),.O<|.L ((hM m.length).map λk=>.int ((fw<|[z]++c).getD k 0:Nat))]) (dX (enc:=λk:Nat=>.int (k:Int)) (xs:=hM m.length) (λk=>[.no,.D<|.int k,.D<|.L (m.map λk:Nat=>.int (k:Int))]) (λk=>.int ((fw<|[z]++c).getD k 0:Nat)) ?c1 ?c6 ?c2 ?c3 ?c4<|λ_ _=>rfl) ?c7<|ai ?c5
 case c1=>rw[<-Ae];exact j8 (aa (cu ρ (by simp[bZ])) ah) ∅
 case c6=>rfl
 case c7=>rfl
 case c2=>rw[kL];exact sz
 case c3=>rintro j _ δ (rfl|⟨y,rfl⟩)<;>rfl
 case c4 =>
  intro k o;obtain⟨a,b,J,M,B⟩:=step k<|nk.1 o;have ha:=Z _<|fB B;refine ag (ak (r:=.D<|.int ((fw<|[z]++c).getD k 0:Nat)) (ag (ak (bu ρ ρ ρ J) (bu ρ (ag (ak ρ ρ ρ) ρ) ρ M) ρ) ρ) ρ ?_) ρ;have:(fw<|[z]++c).getD k 0=(b+4-a)%4:=by unfold fw;rw[mu,ez,B];rfl
  rw[this];have e:(((b+4-a)%4:Nat):Int)=((b:Int)-(a:Int))%4:=∅
  rw[e];rfl
 have el:((hM m.length).map λk=>Dat.int ((fw<|[z]++c).getD k 0:Nat))=(fw<|[z]++c).map λs:Nat=>.int (s:Int):=by
  refine abE λi=>?_;rw[ez,ez];by_cases hi:i<m.length
  ·rw[Z4 hi];show ac (Dat.int ((fw<|[z]++c).getD i 0:Nat))=_;rw[mu,bg (by rw[C];exact hi)];rfl
  rw[ZN (by rw[kL];omega),ZN (by rw[C];omega)];rfl
 rw[el,D];clear D el step Z v I;generalize fw ([z]++c)=st at *;have fl:((st.filter λs=>bd<|0<s).map λs:Nat=>(s:Int)).length<64:=by rw[ax];exact NN (qp _ _) ∅
 refine' af<|aZ (ak (ag (KO fl<|aa (ag (fN (λs=>[.no,.D<|.int (s:Nat)]) (λs=>bd<|0<s) (λs:Nat=>.int (s:Int)) (bU ρ) ρ ?J ?M ?B (λ_ _ _=>rfl)<|λ_ _=>rfl) ?e4) ah) ρ) (ag (bM (aa ρ<|aa ρ<|aa ρ<|aa ρ ah) (show 4<=eu by unfold eu;decide)) ρ) ?e5)<|bO ⟨_,ρ⟩
 case J=>unfold eu;omega
 case M=>rintro j _ δ (rfl|⟨y,rfl⟩)<;>rfl
 case B=>intro s hs;refine aE<|ak ρ ρ ?_;show ac (Res.D<|.bl<|bd<|(0:Int)<(s:Int))=_;have:bd ((0:Int)<(s:Int))=bd (0<s):=decide_eq_decide.2 ∅;rw[this]
 case e4=>rw[hG];rfl
 have cI:∀l:List Int,bH (.L<|l.map .int)=bi:=λl=>An (by rw[hE];intro d hd;obtain⟨t,ht,rfl⟩:=ee.1 hd;rfl)
 refine (v_eq (x:=.L<|(iE _).map .int) (y:=.L<|([1,1,1,1]:List Int).map .int) (cI _)<|cI _).trans ?_;rw[pT,Fw]
def iZ(rows:List bJ)(x n:eT):Bool:=bd ((bR rows x n).length=1)&&(!aP n||bd (ao ((bR rows x n).headD 0)=n))
def gY(rows:List bJ)(x:eT)(ring:List eT):Bool:=ring.all (iZ rows x)&&iC (ring.map λn=>(bR rows x n).headD 0)
def Hy(fn:aY):Prop:=∀(rows:List bJ) (x:eT) (ring:List eT),(∀t∈rows,fG t)->bh x->(∀n∈ring,bh n)->ring.length<=100->fn [.str x,.L<|ring.map .str,.L<|rows.map ar]=ac (.D<|.bl<|gY rows x ring)
theorem O9(T:Txt mg)(w1:fP K mg "WALLS" kX)(N:ba P w K mg base "row_of" 1 (aG K o))(O:By o)(Q:ba P w K mg base "goes_round" 2 (aG K p))(R:AV p)(F:a9 K "stands_round" "stands_round" vX f v):∃fn,aS P w K mg base bb 3 f v ["room","ring","rows"] (aG K fn)/\Hy fn:=by
 refine' bW F GC ρ ?S ?B
 case S=>intro cdv A outer s H E C;have nd:=GC.nd;cases T;walk_at "S"
 intro rows x ring C U V W;have X:4<=sizeLine:=∅
 have s1':1<=sizeLine:=∅
 refine' cA ρ ?w;refine' af<|aD (bM ah<|pe _) ρ<|ai ?_;refine' af<|cN (λj δ=>∃m i,Fr m/\(Fr i\/∃d,i=.O d)/\((ring.take j).all (iZ rows x))=bi/\δ=[.D (.str x),.D<|.L<|ring.map .str,.D<|.L<|rows.map ar,.O<|.L<|(((ring.take j).map λn=>(bR rows x n).headD 0).map ao).map .str,m,i]) (bU ρ) ⟨_,_,ι ρ,ι<|ι ρ,ρ,ρ⟩ ?st ?D
 case D =>
  rintro _ ⟨m,i,G,I,r,rfl⟩;rw[ax,mv] at *;have e:=R (ring.map λn=>(bR rows x n).headD 0) (λk g=>by obtain⟨n,_,rfl⟩:=ee.1 g;exact IP) (by rw[ax];exact W)
  refine ai<|af<|aZ (aB (aa ρ ah) e)<|gv ?_;delta gY;rw[r];rfl
 rintro j d hd _ ⟨m,i,G,I,r,rfl⟩;rw[ez] at hd;obtain⟨n,t,rfl⟩:=gj.1 hd;have hm:=fB t;have u:=V n hm;have J:=cZ t;have ln:((((ring.take j).map λn=>(bR rows x n).headD 0).map ao).map Dat.str).length<sizeLine:=by simp only[ax,l5];delta eu;lia
 have q:iZ rows x n=bv->gY rows x ring=bv:=λe=>by
  delta gY;have:ring.all (iZ rows x)=bv:=by rw[qo];intro z;rw[hE] at z;rw[z n hm] at e;cases e
  rw[this];rfl
 have ap:(((ring.take<|j+1).map λn=>(bR rows x n).headD 0).map ao).map Dat.str=((((ring.take j).map λn=>(bR rows x n).headD 0).map ao).map Dat.str)++[.str (ao<|(bR rows x n).headD 0)]:=by rw[J,hI,hI,hI];rfl
 rw[ap];generalize ((((ring.take j).map λn=>(bR rows x n).headD 0).map ao).map Dat.str)=L at *;refine⟨[.D (.str x),.D<|.L<|ring.map .str,.D<|.L<|rows.map ar,.O<|.L L,.D<|.str n,i],by rcases G with rfl|⟨d,rfl⟩<;>rfl,?_⟩;refine' af<|aD (fN (enc:=λk:Nat=>.str<|ao k) (λk=>[.no,.D<|.str<|ao k,.D<|.str n,.D<|.str x,.D<|.L<|rows.map ar]) (λk=>bd<|cD x n k∈rows) (λk:Nat=>.str<|ao k) ?Y ?Z (by rw[kL];exact X) ?c3 ?c4 (λ_ _ _=>rfl)<|λ_ _=>rfl) ?c5<|ai ?c6
 case Y=>exact Ba ρ
 case Z=>rfl
 case c3=>rintro j _ δ (rfl|⟨y,rfl⟩)<;>rfl
 case c4=>intro k g;exact aE<|ak (ag (aB (aa ρ<|aa ρ<|aa ρ ah)<|O x n k<|nk.1 g) ρ) ρ<|EM C<|xf U u k
 case c5=>rw[show (((hM 4).filter λk=>bd<|cD x n k∈rows).map λk:Nat=>Dat.str<|ao k)=((bR rows x n).map ao).map .str by rw[hG];rfl];rcases I with (rfl|⟨d,rfl⟩)|⟨d,rfl⟩<;>rfl
 have M:∀k∈bR rows x n,k<4:=λk g=>qD g;have l:iZ rows x n=(bd ((bR rows x n).length=1)&&(!aP n||bd (ao ((bR rows x n).headD 0)=n))):=ρ;generalize bR rows x n=a at *;have el:bZ (.L<|(a.map ao).map .str)=ac a.length:=by simp[bZ]
 refine' af<|bK (b:=!bd (a.length=1)) (aE<|ak (cu ρ el) ρ ?d1) ?d2 ?d3
 case d1=>rw[ne_int];have:bd ((a.length:Int)=1)=bd (a.length=1):=decide_eq_decide.2 (by lia);rw[this]
 case d2 =>
  intro h;have e1:bd (a.length=1)=bv:=by simpa using h
  rw[q (by rw[l,e1];rfl)];exact af<|aZ ρ<|bO ⟨_,ρ⟩
 intro h;have h1:a.length=1:=by simpa using h
 match a,h1 with
 | [k],_ =>
  have g:=M k eN;have tk:=dY _<|di g;have l:iZ rows x n=(!aP n||bd (ao k=n)):=l;have ne:=HL tk u;refine' aw<|ai<|af<|bK (jD (aE<|ak ρ ρ<|kS u.ok false)<|aE<|ak (bu ρ ρ ρ ρ) ρ ne) ?g1 ?g2
  case g1=>intro z;rw[q (by rw[l];generalize bd (ao k=n)=b at *;generalize aP n=c at *;cases b<;>cases c<;>first|rfl|cases z)];exact af<|aZ ρ<|bO ⟨_,ρ⟩
  intro z;have ok:iZ rows x n=bi:=by rw[l];generalize bd (ao k=n)=b at *;generalize aP n=c at *;cases b<;>cases c<;>first|rfl|cases z
  refine' aw<|ai<|af<|gO (gg ρ (aa (bu ρ ρ ρ ρ) ah) ln)<|ai<|aw ⟨.D<|.str n,.O<|.L [.str (ao k)],τ ⟨_,ρ⟩,τ ⟨_,ρ⟩,?_,ρ⟩;rw[J,adh,r];show (iZ rows x n&&true)=bi;rw[ok];rfl
def dO(web:ay)(rows:List bJ):Bool:=bd (rows.length=dI web)&&web.all λp=>gY rows p.1 p.2
def rZ (h:bI web)(r:eT):(cn web r).Nodup:=by
 by_cases b:r∈web.map (·.1)
 ·obtain⟨p,a,rfl⟩:=ee.1 b;rw[cE h.nd a];exact (h.rg p a).2.1
 have:cn web r=[]:=by delta cn;rw[L'.2 λp a=>by simpa using λe=>b<|ee.2 ⟨p,a,e⟩];rfl
 rw[this];exact .nil
def Hr (h:a≠b):jt a b=!jt b a:=by
 rcases sY.fL a b h with e|e
 ·rw[e,sY.v9 e];rfl
 rw[e,sY.v9 e];rfl
def lU (h:bI web)(sh:dC web):tE (web.map (·.1)) aQ (cn web):=by
 refine⟨h.nd,λx a hw=>?_,λx _=>rZ h x,λx a b=>?_,λx a y e b=>?_⟩
 ·have:=h.lu a;rw[(dZ x).2 hw] at this;cases this
 ·obtain⟨p,c,rfl⟩:=ee.1 a;rw[cE h.nd c] at b;exact ((h.rg p c).2.2 _ b).2 ρ
 obtain⟨p,c,rfl⟩:=ee.1 a;obtain⟨q,d,rfl⟩:=ee.1 e;rw[cE h.nd c] at b;rw[cE h.nd d];exact sh p c q d b
def D' (h:bI web)(hw:dC web)(b:p∈web)(c:n∈p.2):aP n=!fy (web.map (·.1)) n:=by
 have hm:=((h.rg p b).2.2 n c).1;by_cases a:n∈web.map (·.1)
 ·rw[show fy (web.map (·.1)) n=bi from decide_eq_true a];have:¬aP n=bi:=λz=>(lU h hw).yI n a ((dZ n).1 z);simpa using this
 rw[show fy (web.map (·.1)) n=bv from decide_eq_false a];exact (dZ n).2 (hm.resolve_left a)
def jf(web:ay):Nat:=bQ (λp=>p.2.length+p.2.countP aP) web
theorem EW{web:ay}(h:bI web)(hw:dC web){lt:eT->eT->Bool}(O:∀x∈web.map (·.1),∀n∈web.map (·.1),n∈cn web x->lt x n=!lt n x):2*bQ (fun p:eT×List eT=>p.2.countP fun n=>aP n||lt p.1 n) web=jf web:=by
 have e:=(lU h hw).both O;rw[sG,sG] at e;refine Eq.trans ?_<|e.trans ?_
 ·refine congrArg (2*·) (i7 fun p a=>?_);rw[cE h.nd a];exact abF fun n b=>by rw[D' h hw a b]
 refine i7 fun p a=>?_;rw[cE h.nd a];refine congrArg (p.2.length+·) (abF fun n b=>by rw[D' h hw a b])
theorem sJ{web:ay}(h:bI web)(hw:dC web):2*dI web=jf web:=EW h hw fun x a n hn hm=>Hr fun e=>(lU h hw).kK x a (e ▸ hm)
theorem xR{web:ay}(h:bI web)(hw:dC web):dI web<=60:=by
 have e:=sJ h hw;have b:∀p∈web,p.2.length+p.2.countP aP<=15:=fun p d=>by
  have a:=h.rg p d;have g:(p.1::p.2).length<=(web.map (·.1)++aQ).length:=mR (sk.2 ⟨fun z=>(a.2.2 _ z).2 ρ,a.2.1⟩) fun n c=>by
   rcases hO.1 c with rfl|c
   ·exact hY.2<|ι<|ee.2 ⟨p,d,ρ⟩
   exact hY.2 (a.2.2 n c).1
  have a2:=mR (y3 Ts a.2.1) fun n c=>(dZ n).1 (iF.1 c).2;simp at g;have:=h.bz;have:aQ.length=4:=ρ;rw[vT];lia
 have s:∀l:ay,(∀p∈l,p.2.length+p.2.countP aP<=15)->jf l<=15*l.length:=fun l=>by
  induction l with
  | nil=>exact fun _=>ft _
  | cons p l i=>intro f;have a:=f p eN;have h2:=i fun q j=>f q<|fk _ j;show (p.2.length+p.2.countP aP)+jf l<=_;simp;lia
 have:=s web b;have:=h.bz;lia
theorem Ro{web:ay}(h:bI web)(hw:dC web):0<dI web:=by
 have e:=sJ h hw;have bz:=h.bz
 match web,h with
 | p::l,h=>have:=(h.rg p eN).1;have:jf (p::l)=(p.2.length+p.2.countP aP)+jf l:=ρ;lia
theorem Ut (h:iZ rows x n=bi):∃k,k<4/\bR rows x n=[k]/\cD x n k∈rows:=by
 delta iZ at h;rw[hF,decide_eq_true_eq] at h
 match e:bR rows x n,h.1 with
 | [k],_ =>
  have a:k∈bR rows x n:=by rw[e];exact eN
  exact⟨k,qD a,ρ,of_decide_eq_true (iF.1 a).2⟩
def QL (h:bI web)(hw:dC web)(t:dO web rows=bi):rows.Nodup/\∀r∈rows,r.1="up"\/r.1="on":=by
 delta dO at t;rw[hF,decide_eq_true_eq,hE] at t;refine (Q0 (t:=fZ) (lU h hw) (λx n=>(bR rows x n).headD 0) (λx d n a _ f b=>?_) (λx d n a=>?_) ?_)
 ·have g:∀z∈web.map (·.1),aP z=bv:=λz i=>by rw[<-Z9,dZ];exact (lU h hw).yI z i
  unfold fZ at f b;rw[g n a,O1] at f;rw[g x d,O1] at b;rw[sY.v9 f] at b;cases b
 ·obtain⟨p,c,rfl⟩:=ee.1 d;rw[cE h.nd c] at a;have st:=t.2 p c;unfold gY at st;rw[hF,hE] at st;obtain⟨k,_,e,hm⟩:=Ut<|st.1 n a;rw[e];exact hm
 rw[t.1,sG];exact i7 λp c=>by rw[cE h.nd c]
theorem Jl [DecidableEq b](l:List (List b))(nd:l.Nodup):(eX (λi=>(l[i]?).getD []) l.length)=l:=by
 have:∀i,i<=l.length->eX (λi=>(l[i]?).getD []) i=l.take i:=λi=>by
  induction i with
  | zero=>intro _;rfl
  | succ i c =>
   intro hi;rw[uX,c ∅];have e:l[i]?=ac l[i]:=bg ∅;rw[cZ e,e];delta iR;rw[if_neg]
   ·rfl
   intro hm;obtain⟨j,hj,d⟩:=List.mem_take_iff_getElem.1 hm;have:=sx nd e (by rw[bg (show j<l.length by omega)];exact congrArg ac d);omega
 rw[this _ (ft _),mv]
noncomputable def gC(t:bJ):List Str:=[t.1,t.2.1,t.2.2]
theorem vP:∀rows:List bJ,iT (rows.map ar)=ac (rows.map gC)
 | []=>rfl
 | t::l=>by show (if ([t.1,t.2.1,t.2.2]:List eT).isEmpty then am else (iT<|l.map ar).map _)=_;rw[if_neg ⋯,vP l];rfl
def RO (h:gC t=gC u):t=u:=by obtain⟨a,b,c⟩:=t;obtain⟨a',b',c'⟩:=u;simp[gC] at h;rw[h.1,h.2.1,h.2.2]
def CS{rows:List bJ}(nd:rows.Nodup):(rows.map gC).Nodup:=ox.2 (nd.imp λh e=>h<|RO e)
theorem R4 (nd:fs.Nodup):eE fs=fs.length:=by
 unfold eE;have c:(fs.map λf=>(f.map pl:List Key)).Nodup:=ox.2 (nd.imp λh e=>h (by
  have:∀a b:List eT,(a.map pl:List Key)=b.map pl->a=b:=λa=>by
   induction a with
   | nil=>intro b e;cases b with
    | nil=>rfl
    | cons _ _=>cases e
   | cons x a d =>
    intro b e;cases b with
    | nil=>cases e
    | cons y b=>simp at e;rw[e.1,d b e.2]
  exact this _ _ e))
 have e:=Jl _ c;rw[ax] at e;have:(λi=>(((fs[i]?).getD []).map pl:List Key))=λi=>((fs.map λf=>(f.map pl:List Key))[i]?).getD []:=funext λi=>by rw[ez];cases fs[i]?<;>rfl
 rw[this,e,ax]
def RJ{f:DF}{δ δ1:DS}{rows:List bJ}(h:f δ=ac (.L<|rows.map ar,δ1))(nd:rows.Nodup)(hz:rows.length<=70):pz f δ=ac (.int (rows.length:Nat),δ1):=by delta pz;rw[h];show (iT<|rows.map ar).bind _=_;rw[vP];show (if eE (rows.map gC)<76 then ac (Dat.int (eE (rows.map gC):Nat),δ1) else am)=_;rw[R4 (CS nd),ax,if_pos (by lia)]
def Be(fn:aY):Prop:=∀(web:ay) (rows:List bJ),bI web->dC web->(∀t∈rows,fG t)->rows.length<=1000->fn [.L (web.map pairD),.L<|rows.map ar]=ac (.D<|.bl<|dO web rows)
theorem OJ(T:Txt mg)(hz:mg "zip"=am)(hs:mg "set"=am){U J:aY}(q1:ba P w K mg base "_law_way" 1 (aG K U))(s1:BL U)(q2:ba P w K mg base "_law_round" 1 (aG K J))(s2:A8 J){f:eH}{fd:hU}(F:a9 K "_law_good" "_law_good" yU f fd):∃fn,aS P w K mg base bb 2 f fd ["_law_web_here","_law_rows"] (aG K fn)/\Be fn:=by
 refine' bW F BA ρ ?L ?Z
 case L=>have nd:=BA.nd;walk_at "h"
 clear T F q1 q2 hz hs;intro web rows h hw hr hz;have bz:=h.bz;have s4:4<=sizeLine:=∅
 have tw:=xR h hw;have te:=sJ h hw;have Vz:∀p∈web,gY rows p.1 p.2=bv->dO web rows=bv:=fun p o e=>by unfold dO;rw[qo];intro z;rw[hF,hE] at z;rw[z.2 p o] at e;cases e
 refine' cA ρ ?w;show WS _ [.D (.L<|web.map pairD),.D<|.L<|rows.map ar,.no,.no,.no,.no,.no,.no,.no] _;have lr:bZ (.L<|rows.map ar)=ac rows.length:=by simp[bZ]
 refine' af<|aD (bM (aa ρ<|aa ρ<|aa ρ<|aa ρ ah) s4) ρ<|ai ?_;refine' af<|aD (δ2:=[.D (.L<|web.map pairD),.D<|.L<|rows.map ar,.O<|.L<|aQ.map .str,.D<|.int 0,.no,.no,.no,.no,.no]) (v_res ρ) ρ<|ai ?_;have iw:∀n,bh n->fx false (.str n) (.L<|aQ.map .str)=ac (.D<|.bl<|aP n):=fun n M=>Fu M.ok false;have cW:bH (.L<|aQ.map .str)=bi:=kU dY;have VA:∀k,k<4->kR (.str<|ao k) (aQ.map .str)=ac k:=fun k v=>by
  refine (tU dY<|dY _<|di v).trans ?_;have v:k=0\/k=1\/k=2\/k=3:=∅
  rcases v with rfl|rfl|rfl|rfl<;>decide +kernel
 generalize hW:Dat.L (aQ.map .str)=W at iw ⊢;refine' af<|cN (fun k δ=>∃i N O x r t,Hd i W/\Fr N/\Fr O/\(Fr x\/∃d,x=.O d)/\Fr r/\Fr t/\(∀p∈web.take k,gY rows p.1 p.2=bi)/\δ=[.D (.L<|web.map pairD),.D<|.L<|rows.map ar,i,.D<|.int (jf (web.take k):Nat),N,O,x,r,t]) (bU ρ) ⟨_,_,_,_,_,_,ι ρ,ι ρ,ι ρ,ι<|ι ρ,ι ρ,ι ρ,fun p o=>(by cases o),ρ⟩ ?st ?fin
 case fin =>
  rintro _ ⟨i,N,O,x,r,t,C,f4,f5,f6,D,G,ha,rfl⟩;rw[ax,mv] at *;have all:(web.all fun p=>gY rows p.1 p.2)=bi:=hE.2 fun p o=>ha p o;refine' ai<|af<|AJ<|J8<|Lh<|zM (ag (ak ρ (ag (gf<|ak ρ (cu ρ lr)<|zS<|sX ⋯) ρ) qr) ρ) ⟨_,ρ,?y,?n⟩
  case y =>
   intro z;have z:=of_decide_eq_true z;have hl:rows.length=dI web:=∅
   have Q:dO web rows=bi:=by unfold dO;rw[decide_eq_true hl,all];rfl
   obtain⟨nd,_⟩:=QL h hw Q;refine zM (ag (ak (RJ ρ nd ∅) (cu ρ lr) qr) ρ) ?_;rw[Q];exact gv<|decide_eq_true ρ
  intro z;have z:=of_decide_eq_false z;have hl:¬rows.length=dI web:=∅
  have Q:dO web rows=bv:=by unfold dO;rw[decide_eq_false hl];rfl
  rw[Q];exact⟨_,ρ⟩
 rintro k d hd _ ⟨i,N,O,x,r,t,C,f4,f5,f6,D,G,ha,rfl⟩;rw[ez] at hd;obtain⟨p,ep,rfl⟩:=gj.1 hd;have o:=fB ep;have v:=(bt.1 ep).1;have tx:bh p.1:=h.txt<|ι<|ee.2 ⟨p,o,ρ⟩;have tr:∀n∈p.2,bh n:=fun n c=>h.txt ((h.rg p o).2.2 n c).1;have hlp:=h.len o;have h3:=(h.rg p o).1;have et:=cZ ep;have bp:=Vz p o;generalize hA:jf (web.take k)=A;have eA:jf (web.take<|k+1)=A+(p.2.length+p.2.countP aP):=by rw[et,<-hA];unfold jf;rw[vg];rfl
 refine⟨[.D (.L<|web.map pairD),.D<|.L<|rows.map ar,i,.D<|.int A,.D<|.str p.1,.D<|.L<|p.2.map .str,x,r,t],by rcases f4 with rfl|⟨d,rfl⟩<;>rcases f5 with rfl|⟨d,rfl⟩<;>rfl,?_⟩;refine' af<|aD (dX (fun n=>[.no,.D<|.str n,.D<|.str p.1,.D<|.L<|rows.map ar]) (fun n=>cX<|bR rows p.1 n) (bU ρ) ρ ?c2 ?c3 ?c4<|fun _ _=>rfl) ?c5<|ai ?c6
 case c2=>unfold eu;omega
 case c3=>rintro n _ δ (rfl|⟨y,rfl⟩)<;>rfl
 case c4=>intro n c;exact ag (aB (aa ρ<|aa ρ<|aa ρ ah)<|s1 rows p.1 n hr tx<|tr n c) ρ
 case c5=>rcases f6 with (rfl|⟨d,rfl⟩)|⟨d,rfl⟩<;>rfl
 have R:=s2 (p.2.map<|bR rows p.1) (fun l hl=>by obtain⟨n,_,rfl⟩:=ee.1 hl;exact⟨Bx,fun k v=>qD v⟩) (by rw[ax];omega) (by rw[ax];omega)
 rw[hG,hG,adW] at R;have R:J [.L (p.2.map fun n=>cX<|bR rows p.1 n)]=ac (.D<|.bl<|(p.2.all fun n=>bd<|(bR rows p.1 n).length=1)&&iC (p.2.map fun n=>(bR rows p.1 n).headD 0)):=R;refine' af<|bK (jh<|fY (ag (aB (aa ρ ah) R) ρ) ρ) ?no ?yes
 case no =>
  intro z;rw[bp (by
   unfold gY;rw[qo];intro q;rw[hF,hE] at q;have:(p.2.all fun n=>bd<|(bR rows p.1 n).length=1)=bi:=hE.2 fun n c=>by have:=q.1 n c;unfold iZ at this;rw[hF] at this;exact this.1
   rw[this,q.2] at z;cases z)]
  exact af<|aZ ρ<|bO ⟨_,ρ⟩
 intro z;have z:((p.2.all fun n=>bd<|(bR rows p.1 n).length=1)&&iC (p.2.map fun n=>(bR rows p.1 n).headD 0))=bi:=by simpa using z
 rw[hF,hE] at z;obtain⟨S,z2⟩:=z;have S:∀n∈p.2,∃k,k<4/\bR rows p.1 n=[k]:=fun n c=>by
  have:=of_decide_eq_true<|S n c
  match e:bR rows p.1 n,this with
  | [k],_=>exact⟨k,qD (by rw[e];exact eN),ρ⟩
 have st:gY rows p.1 p.2=p.2.all fun n=>!aP n||bd (ao ((bR rows p.1 n).headD 0)=n):=by unfold gY;rw[z2,adF];rw[nF,hE,hE];refine forall_congr' fun n=>forall_congr' fun c=>?_;obtain⟨k,_,e⟩:=S n c;unfold iZ;rw[e];rfl
 have zz:k8 (p.2.map .str) (p.2.map fun n=>cX<|bR rows p.1 n)=p.2.map fun n=>.U [.str n,cX<|bR rows p.1 n]:=by unfold k8;rw[List.zip_map',hG];rfl
 refine' aw<|ai<|af<|cN (fun j δ=>∃i r t,Hd i W/\Fr r/\Fr t/\(∀n∈p.2.take j,(!aP n||bd (ao ((bR rows p.1 n).headD 0)=n))=bi)/\δ=[.D (.L<|web.map pairD),.D<|.L<|rows.map ar,i,.D<|.int (A+(j+(p.2.take j).countP aP):Nat),.D<|.str p.1,.D<|.L<|p.2.map .str,.D<|.L (p.2.map fun n=>cX<|bR rows p.1 n),r,t]) (ds:=p.2.map fun n=>.U [.str n,cX<|bR rows p.1 n]) ?e1 ⟨_,_,_,C,D,G,fun n c=>(by cases c),ρ⟩ ?e2 ?e3
 case e1=>rw[<-zz];rfl
 case e3 =>
  rintro _ ⟨i,r,t,C,D,G,L,rfl⟩;rw[ax,mv] at *;refine ai<|aw ⟨i,.D<|.str p.1,.D<|.L<|p.2.map .str,.D<|.L (p.2.map fun n=>cX<|bR rows p.1 n),r,t,C,τ ⟨_,ρ⟩,τ ⟨_,ρ⟩,ι<|τ ⟨_,ρ⟩,D,G,fun q I=>?_,by rw[eA]⟩;rw[et] at I;rcases hY.1 I with I|I
  ·exact ha q I
  rw[kH.1 I,st];exact hE.2 L
 rintro j d hd _ ⟨i,r,t,C,D,G,L,rfl⟩;rw[ez] at hd;obtain⟨n,en,rfl⟩:=gj.1 hd;have c:=fB en;have M:=tr n c;obtain⟨g,VH,ew⟩:=S n c;have V:=cZ en;generalize hB:A+(j+(p.2.take j).countP aP)=B;have eB:A+(j+1+(p.2.take<|j+1).countP aP)=B+1+(if aP n=bi then 1 else 0):=by rw[V,aaF,acd,<-hB];omega
 rw[eB];have X:(!aP n||bd (ao g=n))=bi->∀m∈p.2.take (j+1),(!aP m||bd (ao ((bR rows p.1 m).headD 0)=m))=bi:=fun q m hm=>by
  rw[V] at hm;rcases hY.1 hm with hm|hm
  ·exact L m hm
  rw[kH.1 hm,ew];exact q
 have bn:¬(!aP n||bd (ao g=n))=bi->dO web rows=bv:=fun q=>bp (by rw[st,qo];intro z;rw[hE] at z;have:=z n c;rw[ew] at this;exact q this)
 rw[ew];refine⟨[.D (.L<|web.map pairD),.D<|.L<|rows.map ar,i,.D<|.int B,.D<|.str p.1,.D<|.L<|p.2.map .str,.D<|.L (p.2.map fun n=>cX<|bR rows p.1 n),.D<|.str n,.D<|cX [g]],by rcases D with rfl|⟨d,rfl⟩<;>rcases G with rfl|⟨d,rfl⟩<;>rfl,?_⟩;generalize (Dat.L (p.2.map fun n=>cX<|bR rows p.1 n))=SS;have rW:cS 2 [.D (.L<|web.map pairD),.D<|.L<|rows.map ar,i,.D<|.int B,.D<|.str p.1,.D<|.L<|p.2.map .str,.D SS,.D<|.str n,.D<|cX [g]]=ac (W,[.D (.L<|web.map pairD),.D<|.L<|rows.map ar,.D W,.D<|.int B,.D<|.str p.1,.D<|.L<|p.2.map .str,.D SS,.D<|.str n,.D<|cX [g]]):=by rcases C with rfl|rfl<;>rfl
 by_cases a:aP n=bi
 ·obtain⟨k0,Y,rfl⟩:=oI<|(dZ n).1 a;rw[if_pos a];have u:=iw _ M;rw[a] at u;refine' af (bK (b:=!bd (k0=g)) (v_and (aE<|ak ρ rW u)<|um ρ<|aE<|ak (n4 (ds:=aQ.map .str) (δ1:=[.D (.L<|web.map pairD),.D<|.L<|rows.map ar,.D W,.D<|.int B,.D<|.str p.1,.D<|.L<|p.2.map .str,.D SS,.D<|.str<|ao k0,.D<|cX [g]]) (by rw[hW];rfl) (aa ρ ah) cW (fT M.ok)<|VA k0 Y) (bu (d:=.int g) ρ ρ ρ ρ) ?r1) ?r2 ?r3)
  case r1=>rw[ne_int];have:bd ((k0:Int)=(g:Int))=bd (k0=g):=decide_eq_decide.2 ∅;rw[this]
  case r2 =>
   intro z;have z:¬k0=g:=by simpa using z
   rw[bn (by rw[a];show ¬decide _=bi;rw[decide_eq_true_eq];exact fun e=>z (qU VH Y e).symm)]
   exact af<|aZ ρ<|bO ⟨_,ρ⟩
  intro z;have z:k0=g:=by simpa using z
  refine' aw<|ai<|af<|aD (ak (ag (ak ρ ρ ρ) ρ) (ag (aB (aa (ag (ak ρ ρ u) ρ) ah) ρ) ρ) ρ) ρ<|ai<|aw ⟨.D W,.D<|.str<|ao k0,.D<|cX [g],τ ρ,τ ⟨_,ρ⟩,τ ⟨_,ρ⟩,X ?_,ρ⟩;rw[a,z];simp
 have a:aP n=bv:=by simpa using a
 rw[if_neg (by rw[a];simp)];have u:=iw _ M;rw[a] at u;refine' af (bK (v_and (aE<|ak ρ rW u)<|xW ρ ρ) (fun z=>by cases z) fun _=>aw<|ai<|af<|aD (ak (ag (ak ρ ρ ρ) ρ) (ag (aB (aa (ag (ak ρ ρ u) ρ) ah) ρ) ρ) ρ) ρ<|ai<|aw ⟨.D W,.D<|.str n,.D<|cX [g],τ ρ,τ ⟨_,ρ⟩,τ ⟨_,ρ⟩,X ?_,ρ⟩);rw[a];rfl
def Drawn.near (F:Drawn rs)(b:jE (gx rs) a)(c:p∈a):∃x∈rs,p.1=x.1/\rA (pM rs x.2) p.2:=by obtain⟨q,d,e,f⟩:=b.2 p c;obtain⟨x,g,rfl⟩:=ee.1 d;exact⟨x,g,e.symm,f⟩
def Drawn.P7 (F:Drawn rs)(c:jE (gx rs) a)(d:p∈a)(f:n∈p.2):sU rs p.1 n<4:=by obtain⟨x,g,e,h⟩:=F.near c d;obtain⟨k,b,hs⟩:=n9.1<|h.perm.mem_iff.1 f;rw[e,F.xK g b hs];exact b
def Drawn.N4 (F:Drawn rs)(g:jE (gx rs) d)(i:p∈d)(j:q∈d)(l:q.1∈p.2):sU rs q.1 p.1=(sU rs p.1 q.1+2)%4:=by
 obtain⟨x,a,e,m⟩:=F.near g i;obtain⟨y,b,c,_⟩:=F.near g j;obtain⟨k,f,hs⟩:=n9.1<|m.perm.mem_iff.1 l;rw[e,c,F.xK a f<|c ▸ hs];rcases rO hs with z|⟨n,h,o,z⟩
 ·have:=F.room b;rw[<-c,z,(dZ _).2 (di f)] at this;cases this
 obtain rfl:n=y:=lS F.nd h b<|z.symm.trans c;delta sU;rw[if_neg (by rw[F.room a];simp),nN F.nd a,nN F.nd b];exact FC (F.sE b) (F.sE a) (zR _ ⋯)<|Ed f o
def eJ(rs:Fl)(x n:eT):Bool:=aP n||bd (sU rs x n<2)
def dh(rs:Fl)(a:ay):List bJ:=a.flatMap λp=>(p.2.filter<|eJ rs p.1).map λn=>cD p.1 n<|sU rs p.1 n
def LD:r∈dh rs d ↔ ∃p∈d,∃n∈p.2,eJ rs p.1 n=bi/\r=cD p.1 n (sU rs p.1 n):=by
 delta dh;simp only[L1,ee,iF];constructor
 ·rintro⟨p,a,n,⟨b,c⟩,rfl⟩;exact⟨p,a,n,b,c,ρ⟩
 rintro⟨p,a,n,b,c,rfl⟩;exact⟨p,a,n,⟨b,c⟩,ρ⟩
def Es (F:Drawn rs)(b:jE (gx rs) a)(c:p∈a)(e:q∈a)(d:q.1∈p.2):bd (sU rs p.1 q.1<2)=!bd (sU rs q.1 p.1<2):=by have h1:=F.P7 b c d;have h2:=F.N4 b c e d;rw[nF,t8,decide_eq_true_eq,decide_eq_false_iff_not];omega
theorem Gn{rs:Fl}(F:Drawn rs){a:ay}(b:jE (gx rs) a)(h:bI a)(hw:dC a):(dh rs a).length=dI a:=by
 have d:=EW h hw (lt:=fun x n=>bd<|sU rs x n<2) fun x e n f hm=>by obtain⟨p,c,rfl⟩:=ee.1 e;obtain⟨q,g,rfl⟩:=ee.1 f;rw[cE h.nd c] at hm;exact Es F b c g hm
 have i:=sJ h hw;have e3:(dh rs a).length=bQ (fun p:eT×List eT=>p.2.countP fun n=>aP n||bd (sU rs p.1 n<2)) a:=by
  delta dh;clear d i b h hw;induction a with
  | nil=>rfl
  | cons p l j=>simp only[aal,gd,j,ax,<-vT];rfl
 lia
def MN (h:bI a):dh rs a=(jV (a.map (·.1)) (cn a)<|eJ rs).map λp=>cD p.1 p.2 (sU rs p.1 p.2):=by delta dh jV;simp only[ae4,ae5];refine congrArg _ (S' λp b=>?_);simp only[cE h.nd b,hG];rfl
def Jh (F:Drawn rs)(i:jE (gx rs) a)(h:bI a)(hw:dC a):(dh rs a).Nodup:=by
 rw[MN h];refine Hj (lU h hw).jQ (lU h hw).nd _ λx d n e hm b c=>?_;obtain⟨p,f,rfl⟩:=ee.1 d;obtain⟨q,j,rfl⟩:=ee.1 e;rw[cE h.nd f] at hm;have g:∀z∈a.map (·.1),aP z=bv:=λz k=>by rw[<-Z9,dZ];exact (lU h hw).yI z k
 delta eJ at b c;rw[g _ e,O1] at b;rw[g _ d,O1] at c;rw[Es F i f j hm,c] at b;cases b
def mw(rs:Fl):List (eT×Dat):=rs.map λy=>(y.1,aU y)
theorem SM (nd:(rs.map (·.1)).Nodup):qA [.L (rs.map λy=>.U [.str y.1,aU y])]=ac (.O<|.a8<|mw rs):=by
 have:∀l:Fl,jJ (l.map λy=>.U [.str y.1,aU y])=ac (mw l):=by
  intro l;induction l with
  | nil=>rfl
  | cons p l a=>show (jJ (l.map λy=>.U [.str y.1,aU y])).map _=_;rw[a];rfl
 show (jJ (rs.map λy=>.U [.str y.1,aU y])).bind _=_;rw[this];refine if_pos ?_;delta mw;rw[hG];exact nd
theorem Ik (nd:(rs.map (·.1)).Nodup)(a:y∈rs):cy (.a8<|mw rs) (.str y.1)=ac (aU y):=by
 have e:(rs.find? λq=>bd<|q.1=y.1)=ac y:=by
  cases e:rs.find? λq=>bd (q.1=y.1) with
  | none=>exact absurd (L'.1 e y a) ⋯
  | some q=>have b:=ZT e;have c:=aba e;rw[lS nd b a (by simpa using c)]
 show ck (mw rs) y.1=_;delta ck mw;rw[afo];show ((rs.find? λq=>bd<|q.1=y.1).map _).map _=_;rw[e];rfl
noncomputable def zu:List eT->bJ
 | [a,b,c]=>(a,b,c)
 | _=>("up","up","up")
def Px(F):∃a:List bJ,(jF<|F.map gC).map tupS=a.map ar/\a.Perm F:=by
 have pm:(jF<|F.map gC).Perm (F.map gC):=jn _ _;refine⟨(jF<|F.map gC).map zu,?_,?_⟩
 ·rw[hG];refine S' λl hl=>?_;obtain⟨t,_,rfl⟩:=ee.1<|pm.mem_iff.1 hl;rfl
 have:=pm.map zu;rw[hG] at this;have e:F.map (zu ∘ gC)=F:=by refine (S' λt _=>?_).trans (agf F);rfl
 rw[e] at this;exact this
def FR (b:bh n)(c:i<4)(d:j<4):fx false (.str n) (.L [.str (ao i),.str<|ao j])=ac (.D<|.bl<|bd<|n=ao i\/n=ao j):=by
 refine (dU (ns:=[ao i,ao j]) (λy a=>by
  simp only[hO,L0,or_false] at a;rcases a with rfl|rfl
  ·exact dY _<|di c
  exact dY _<|di d) b false).trans ?_
 have:bd (n∈[ao i,ao j])=bd (n=ao i\/n=ao j):=decide_eq_decide.2 ⋯;rw[<-this];rfl
def Hq(fn:aY):Prop:=∀(rs:Fl) (a:ay),Drawn rs->jE (gx rs) a->bI a->dC a->∃r,fn [.L (a.map pairD),bw rs]=ac r/\∃b:List bJ,r=.O (.L<|b.map ar)/\b.Perm (dh rs a)
def Rq(T:Txt mg)(F:a9 K "_law_tinting" "_law_tinting" xc f Y):∃fn,aS P w K mg base bb 1 f Y ["_law_web_here","_law_floor_here"] (aG K fn)/\Hq fn:=by
 refine' bW F Fm ρ ?hb ?Q
 case hb=>have nd:=Fm.nd;walk_at "h"
 clear T F;intro rs a dr S h hw;have F:=dr;have bz:=h.bz;have f8:=F.bz;have c:2<=sizeLine:=by delta eu;decide
 have B:3<=sizeLine:=by delta eu;decide
 have sr:rs.length<=sizeLine:=by delta eu;lia
 have U:=Gn F S h hw;have Z:=xR h hw;refine' oj ρ ?w;show WS _ [.D (.L<|a.map pairD),.D<|bw rs,.no,.no,.no,.no,.no] _;refine' af<|aD (aB (aa (ag (dX (λy=>[.no,.D<|aU y]) (λy=>.U [.str y.1,aU y]) (bU ρ) ρ sr ?a1 ?G<|λ_ _=>rfl) ρ) ah)<|SM F.nd) ρ<|ai ?a3
 case a1=>rintro y _ δ (rfl|⟨z,rfl⟩)<;>rfl
 case G=>intro y I;exact cw (aa (bu ρ ρ ρ ρ)<|aa ρ ah) c
 have kg:=λy I=>Ik F.nd (y:=y) I;generalize Dat.a8 (mw rs)=D at *;generalize hW:Dat.L (a.map pairD)=W;generalize hR:bw rs=R;refine' af<|aD (bM ah<|pe _) ρ<|ai ?_;refine' af<|cN (λk δ=>∃L M g,Fr L/\Fr M/\Fr g/\δ=[.D W,.D R,.O D,.O<|.L<|(dh rs<|a.take k).map ar,L,M,g]) (by rw[<-hW];exact bU ρ) ⟨_,_,_,ι ρ,ι ρ,ι ρ,ρ⟩ ?st ?fin
 case fin =>
  rintro _ ⟨L,M,g,f4,f5,C,rfl⟩;rw[ax,mv];obtain⟨ts,e,pm⟩:=Px<|dh rs a;have e2:oz [.L ((dh rs a).map ar)]=ac (.O<|.L<|ts.map ar):=by show (iT<|(dh rs a).map ar).bind _=_;rw[vP];show (if ((dh rs a).map gC).Nodup/\((dh rs a).map gC).length<64 then ac (Res.O<|.L<|(jF<|(dh rs a).map gC).map tupS) else am)=_;rw[if_pos ⟨CS<|Jh F S h hw,by rw[ax];lia⟩,e]
  exact ai<|af<|aZ (gf<|aB (aa ρ ah) e2)<|bO ⟨_,_,ρ,ts,ρ,pm⟩
 rintro k d hd _ ⟨L,M,g,f4,f5,C,rfl⟩;rw[ez] at hd;obtain⟨p,ep,rfl⟩:=gj.1 hd;have hp:=fB ep;obtain⟨x,hx,e1,tu⟩:=F.near S hp;have V:=kg x hx;have tr:∀n∈p.2,bh n:=λn N=>h.txt ((h.rg p hp).2.2 n N).1;have et:dh rs (a.take<|k+1)=dh rs (a.take k)++(p.2.filter<|eJ rs p.1).map λn=>cD p.1 n (sU rs p.1 n):=by rw[cZ ep];delta dh;rw[abe];simp
 have pre:(dh rs<|a.take<|k+1).length<=60:=by
  refine px ?_<|U ▸ Z;have:dh rs a=dh rs (a.take<|k+1)++dh rs (a.drop<|k+1):=by delta dh;rw[<-abe,aaV]
  simp only[this,gd];lia
 rw[et,gd] at pre;rw[et];generalize dh rs (a.take k)=o at *;refine⟨[.D W,.D R,.O D,.O<|.L<|o.map ar,.D<|.str p.1,.D<|.L<|p.2.map .str,g],by rcases f4 with rfl|⟨d,rfl⟩<;>rcases f5 with rfl|⟨d,rfl⟩<;>rfl,?_⟩;refine' af<|cN (λj δ=>∃g,Fr g/\δ=[.D W,.D R,.O D,.O<|.L<|(o++((p.2.take j).filter (eJ rs p.1)).map λn=>cD p.1 n<|sU rs p.1 n).map ar,.D<|.str p.1,.D<|.L<|p.2.map .str,g]) (bU ρ) ⟨_,C,⋯⟩ ?st2 ?fin2
 case fin2=>rintro _ ⟨g,C,rfl⟩;rw[ax,mv];exact ai<|aw ⟨_,_,_,τ ⟨.str p.1,ρ⟩,τ ⟨.L<|p.2.map .str,ρ⟩,C,ρ⟩
 rintro j d hd _ ⟨g,C,rfl⟩;rw[ez] at hd;obtain⟨n,en,rfl⟩:=gj.1 hd;have N:=fB en;have tn:=tr n N;have ln:((o++((p.2.take j).filter (eJ rs p.1)).map λn=>cD p.1 n<|sU rs p.1 n).map ar).length<sizeLine:=by simp only[ax,gd];have:((p.2.take j).filter (eJ rs p.1)).length<=(p.2.filter<|eJ rs p.1).length:=(agH _<|aaM _ _).length_le;rw[ax] at *;delta eu;lia
 have step:(o++((p.2.take<|j+1).filter (eJ rs p.1)).map λn=>cD p.1 n<|sU rs p.1 n)=(o++((p.2.take j).filter (eJ rs p.1)).map λn=>cD p.1 n<|sU rs p.1 n)++(if eJ rs p.1 n=bi then [cD p.1 n (sU rs p.1 n)] else []):=by
  simp only[cZ en,aeC,hI,wm];congr 2
  by_cases q:eJ rs p.1 n=bi
  ·rw[if_pos q,Z8,if_pos q];rfl
  rw[if_neg q,Z8,if_neg q];rfl
 rw[step];generalize (o++((p.2.take j).filter (eJ rs p.1)).map λn=>cD p.1 n<|sU rs p.1 n)=G at *;refine⟨[.D W,.D R,.O D,.O<|.L<|G.map ar,.D<|.str p.1,.D<|.L<|p.2.map .str,.D<|.str n],by rcases C with rfl|⟨d,rfl⟩<;>rfl,?_⟩;have done:∀u:bJ,eJ rs p.1 n=bi->u=cD p.1 n (sU rs p.1 n)->∃g,Fr g/\[.D W,.D R,.O D,.O<|.L<|G.map ar++[ar u],.D<|.str p.1,.D<|.L<|p.2.map .str,.D<|.str n]=[.D W,.D R,.O D,.O<|.L<|(G++(if eJ rs p.1 n=bi then [cD p.1 n (sU rs p.1 n)] else [])).map ar,.D<|.str p.1,.D<|.L<|p.2.map .str,g]:=λu q e=>⟨_,τ ⟨.str n,ρ⟩,by rw[if_pos q,hI,e];rfl⟩;have r:=FR tn (show 0<4 by decide) (show 1<4 by decide);have J:=FR tn (show 2<4 by decide) (show 3<4 by decide);by_cases l:aP n=bi
 ·obtain⟨k0,m,rfl⟩:=oI<|(dZ n).1 l;have kp:eJ rs p.1 (ao k0)=bi:=by unfold eJ;rw[l];rfl
  have O:sU rs p.1 (ao k0)=k0:=by unfold sU;rw[if_pos l,EY m]
  rw[O] at done;have q1:=oQ m (show 1<4 by decide);have q3:=oQ m (show 3<4 by decide);have q:k0=0\/k0=1\/k0=2\/k0=3:=∅
  have dn:∀{i j:Nat},i<4->j<4->(bd<|ao k0=ao i\/ao k0=ao j)=bd (k0=i\/k0=j):=λX hj=>decide_eq_decide.2 ⟨λz=>z.imp (qU m X)<|qU m hj,λz=>z.imp (λe=>by rw[e])<|λe=>by rw[e]⟩;rw[dn ⋯ ⋯] at r J;clear dn;rcases q with rfl|rfl|rfl|rfl
  ·refine af<|uY (aE<|ak ρ (ag (bM (aa ρ<|aa ρ ah) c) ρ) r) ρ<|af<|gO (gg ρ (aa (cw (aa (ic (ag (bM (aa ρ<|aa ρ ah) c) ρ) (ag (aB (aa (ag (ak ρ ρ q1) ρ) ah) ρ) ρ) ρ)<|aa ρ<|aa ρ ah) B) ah) ln)<|ai<|aw<|ai<|aw<|done _ kp ρ
  ·refine af<|uY (aE<|ak ρ (ag (bM (aa ρ<|aa ρ ah) c) ρ) r) ρ<|af<|gO (gg ρ (aa (cw (aa (ic (ag (bM (aa ρ<|aa ρ ah) c) ρ) (ag (aB (aa (ag (ak ρ ρ q1) ρ) ah) ρ) ρ) ρ)<|aa ρ<|aa ρ ah) B) ah) ln)<|ai<|aw<|ai<|aw<|done _ kp ρ
  ·refine af<|tN (aE<|ak ρ (ag (bM (aa ρ<|aa ρ ah) c) ρ) r) ρ<|af<|uY (aE<|ak ρ (ag (bM (aa ρ<|aa ρ ah) c) ρ) J) ρ<|af<|gO (gg ρ (aa (cw (aa (ic (ag (bM (aa ρ<|aa ρ ah) c) ρ) (ag (aB (aa (ag (ak ρ ρ q3) ρ) ah) ρ) ρ) ρ)<|aa ρ<|aa ρ ah) B) ah) ln)<|ai<|aw<|ai<|aw<|ai<|aw<|done _ kp ρ
  refine af<|tN (aE<|ak ρ (ag (bM (aa ρ<|aa ρ ah) c) ρ) r) ρ<|af<|uY (aE<|ak ρ (ag (bM (aa ρ<|aa ρ ah) c) ρ) J) ρ<|af<|gO (gg ρ (aa (cw (aa (ic (ag (bM (aa ρ<|aa ρ ah) c) ρ) (ag (aB (aa (ag (ak ρ ρ q3) ρ) ah) ρ) ρ) ρ)<|aa ρ<|aa ρ ah) B) ah) ln)<|ai<|aw<|ai<|aw<|ai<|aw<|done _ kp ρ
 have nw:∀i,i<4->n≠ao i:=λi X e=>l ((dZ n).2 (e ▸ di X));have l:aP n=bv:=by simpa using l
 rw[decide_eq_false (λz=>z.elim (nw 0 ⋯)<|nw 1 ⋯)] at r;rw[decide_eq_false (λz=>z.elim (nw 2 ⋯)<|nw 3 ⋯)] at J;obtain⟨k0,m,hs⟩:=n9.1<|tu.perm.mem_iff.1 N;rcases rO hs with z|⟨y,I,sq,rfl⟩
 ·exact absurd z<|nw k0 m
 have O:sU rs p.1 y.1=nU x.2 y.2:=by unfold sU;rw[l,e1,nN F.nd hx,nN F.nd I];rfl
 have ke:eJ rs p.1 y.1=bd (nU x.2 y.2<2):=by unfold eJ;rw[l,O];rfl
 rw[O,ke] at done ⊢;have ky:=kg y I;rw[<-e1] at V;unfold nU at done ⊢;refine af<|tN (aE<|ak ρ (ag (bM (aa ρ<|aa ρ ah) c) ρ) r) ρ<|af<|tN (aE<|ak ρ (ag (bM (aa ρ<|aa ρ ah) c) ρ) J) ρ<|af<|bK (aE<|ak (ic (bu ρ ρ ρ V) ρ ρ) (ic (bu ρ ρ ρ ky) ρ ρ)<|eq_int _ _) (λz=>?_)<|λz=>?_
 ·have z:=of_decide_eq_true z;rw[if_pos z] at done ⊢;exact af<|gO (gg ρ (aa (cw (aa ρ<|aa ρ<|aa ρ ah) B) ah) ln)<|ai<|aw<|ai<|aw<|ai<|aw<|ai<|aw<|done _ ρ ρ
 have z:=of_decide_eq_false z;rw[if_neg z] at done ⊢;refine af<|bK (aE<|ak (ic (bu ρ ρ ρ V) ρ ρ) (ic (bu ρ ρ ρ ky) ρ ρ)<|eq_int _ _) (λv=>?_)<|λv=>?_
 ·have v:=of_decide_eq_true v;rw[if_pos v] at done ⊢;exact af<|gO (gg ρ (aa (cw (aa ρ<|aa ρ<|aa ρ ah) B) ah) ln)<|ai<|aw<|ai<|aw<|ai<|aw<|ai<|aw<|ai<|aw<|done _ ρ ρ
 have v:=of_decide_eq_false v;rw[if_neg v];have ng:¬bd ((if x.2.b=y.2.t then 2 else 3)<2)=bi:=by split<;>simp
 rw[if_neg ng,wa];exact aw<|ai<|aw<|ai<|aw<|ai<|aw<|ai<|aw ⟨_,τ ⟨.str y.1,ρ⟩,ρ⟩
end
local macro_rules | `(tactic| walk_at "Y")=>Mq.fs "xV TXX|Rb arRrrdrrA"
section
variable{P:lq}{w:qh}{K:gW}{mg:eT->Option dk}{base:pq}
def tP (h:c δ=ac (b,δ1))(d:b=bi)(e:a δ1=ac (ds,δ2))(f:ds.length<=eu)(q:Q (.exc C δ2)):WS (gE (jm c (gE (mx C a) lE) s') g) δ Q :=
 af (bK h (λ_=>af<|tG e f q) λz=>by rw[d] at z;cases z)
def lh (h:a δ=ac (ds,δ1))(e:fn ds=ac (.D<|.bl b)):rN (oZ<|fX<|bV fn a) δ=ac (!b,δ1):=jh<|fY (ag (aB h e) ρ) ρ
def Gr(exc:Nat->eH)(fn:fE):Prop:=∀web:ay,Named web->∃a,fn [.L (web.map pairD)]=ac a/\((GoodW web/\a=.ok (.D .aF))\/(¬GoodW web/\a=.exc (exc 0)))
def EI{web a:ay}(h:web.map pairD=a.map pairD):web=a:=by refine (abq λp q e=>?_).1 h;injection e with e;simp at e;exact adv e.1<|(abq λx y z=>by injection z).1 e.2
def N0(T:Txt mg)(x0:rB K mg "NoWeb" (exc 0))(w1:fP K mg "WALLS" kX)(X:ba P w K mg base "has_form" 3 (aG K v))(Y:Cr v)(Z:ba P w K mg base "ties_are_shared" 1 (aG K x))(O:FP x)(q3:ba P w K mg base "corners_close" 3 (aG K D))(Q:Ct D)(q4:ba P w K mg base "wall_has_row" 2 (aG K m))(s4:HK m)(q5:ba P w K mg base "all_reached" 2 (aG K G))(R:C9 G)(q6:ba P w K mg base "threes_of" 2 (aG K I))(s6:G4 I)(q7:ba P w K mg base "ties_of" 1 (aG K J))(s7:Ac J)(F:a9 K "must_web" "must_web" xB f S):∃fn,aS P w K mg base (dP P w) 4 f S ["web"] (gS K fn)/\Gr exc fn:=by
 refine' sR F Dk (n:=1) ρ ?hb ?M
 case hb=>intro cdv A outer s H E N;have nd:=Dk.nd;cases T;have hh:tH "rings":=⟨trivial⟩;walk_at "X"
 clear T F X Z q3 q4 q5 q6 q7;intro web ha;obtain⟨b1,U,L⟩:=Y web ha;refine' wU ρ ?w;show WS _ [.D (.L<|web.map pairD),.no] _;have d:1<=sizeLine:=∅
 by_cases h:bI web
 case neg=>exact tP (lh (aa ρ ah) U) (by rw[qo.2 λz=>h<|L.1 z];rfl) ρ d<|τ<|ι ⟨_,_,ρ,τ ⟨λg=>h g.f,ρ⟩⟩
 have kl:(bS web).length=web.length:=ax ..;obtain⟨_,e7,ds,rfl,hd⟩:=s7 web h;refine gz (lh (aa ρ ah) U) (by rw[L.2 h];rfl) ?_;refine' af<|i9<|aD (r:=.D<|az web) (δ1:=[.D (.L<|web.map pairD),.no]) (δ2:=[.D (.L<|web.map pairD),.D<|az web]) ?a ρ<|ai ?b
 case a=>unfold pA;rw[aB (aa ρ ah) (vd h.nd)];rfl
 have i:∀{C:eH}{δ:DS},C=exc 0->¬GoodW web->(∃r δ',Out.exc C δ=.ret r δ'/\((GoodW web/\iP.ok r=.ok (.D .aF))\/(¬GoodW web/\iP.ok r=.exc (exc 0))))\/(∃C' δ',Out.exc C δ=.exc C' δ'/\((GoodW web/\iP.exc C'=.ok (.D .aF))\/(¬GoodW web/\iP.exc C'=.exc (exc 0))))\/∃δ',Out.exc C δ=.next δ'/\((GoodW web/\iP.ok (.D .aF)=.ok (.D .aF))\/(¬GoodW web/\iP.ok (.D .aF)=.exc (exc 0))):=λe g=>τ<|ι ⟨_,_,ρ,τ ⟨g,by rw[e]⟩⟩;by_cases sh:dC web
 case neg=>exact tP (lh (aa ρ ah)<|O web h) (by rw[decide_eq_false sh];rfl) ρ d (i ρ λg=>sh g.sh)
 refine gz (lh (aa ρ ah)<|O web h) (by rw[decide_eq_true sh];rfl) ?_;by_cases cl:(aO web).all (il<|aO web)=bi
 case neg=>have V:=cl;rw[Z9] at cl;exact tP (lh (aa ρ ah)<|Q web h) (by rw[cl];rfl) ρ d (i ρ λg=>V g.cl)
 refine gz (lh (aa ρ ah)<|Q web h) (by rw[cl];rfl) ?_;have N:∀n∈aQ,∃b,m [az web,.str n]=ac (.D<|.bl b)/\∃k,k<4/\n=ao k/\(b=bi ↔ kA web k):=λn c=>by obtain⟨k,l,rfl⟩:=oI c;obtain⟨b,e,q⟩:=s4 web k l h cl;exact⟨b,e,k,l,ρ,q⟩
 have o:∃B:eT->Bool,∀n∈aQ,m [az web,.str n]=ac (.D<|.bl<|B n)/\∃k,k<4/\n=ao k/\(B n=bi ↔ kA web k):=by refine⟨λn=>if c:n∈aQ then (N n c).choose else false,λn c=>?_⟩;simp only[c,dite_true];exact (N n c).choose_spec
 obtain⟨B,o⟩:=o;refine' af (bK (jh<|fY (ag (v_allB (enc:=Dat.str) (xs:=aQ) (λn=>[.no,.D<|.str n,.D<|az web]) B (Ba ρ) ρ ?c1 ?c2 ?c3 ?c4) ρ) ρ) (λt=>af<|tG ρ d (i ρ λg=>?c6)) λt=>aw<|ai ?c5)
 case c1=>show 4<=eu;unfold eu;decide
 case c2=>intro y hy δ hd;rcases hd with rfl|⟨z,rfl⟩<;>rfl
 case c3=>intro n c;exact ag (aB (aa ρ<|aa ρ ah) (o n c).1) ρ
 case c4=>intro n c;rfl
 case c6=>rw[t8] at t;refine xr<|t.symm.trans (hE.2 λn c=>?_);obtain⟨k,l,rfl,q⟩:=(o n c).2;exact q.2<|g.row k l
 rw[aaG] at t;have row:∀k,k<4->kA web k:=λk l=>by obtain⟨j,hj,e,q⟩:=(o _<|di l).2;rw[Dd l hj e];exact q.1<|hE.1 t _<|di l
 show WS _ [.D (.L<|web.map pairD),.D<|az web] _;by_cases u:(web.all λp=>bd<|p.1∈cM web web.length)=bi
 case neg=>have W:=u;rw[Z9] at u;exact tP (lh (aa ρ ah)<|R web h) (by rw[u];rfl) ρ d (i ρ λg=>W g.qG)
 refine gz (lh (aa ρ ah)<|R web h) (by rw[u];rfl) ?_;have kt:(bP<|dv<|(aO web).map bj).length=(dv<|(aO web).map bj).length:=ax ..;refine' af (bK (aE<|ak (ag (aB (aa (ag (aB (aa ρ ah)<|s6 web h) ρ) ah) ρ) ρ) (ag (ak (r:=.D<|.int<|(ds.length:Int)-web.length+1) (ag (ak (ag (aB (aa (ag (aB (aa ρ ah) e7) ρ) ah) ρ) ρ) (cu ρ<|congrArg ac kl)<|iY ρ) ρ) ρ ρ) ρ)<|ne_int _ _) (λz=>af<|tG ρ d (i ρ λg=>?d1)) λz=>aw<|ai<|aw<|τ<|τ ⟨_,ρ,ι ⟨⟨h,sh,cl,row,u,?d2⟩,ρ⟩⟩)
 case d1=>rw[t8,decide_eq_false_iff_not] at z;have:=g.th;omega
 rw[aaG,decide_eq_true_eq] at z;omega
end
local macro_rules | `(tactic| walk_at "r15")=>`(tactic| (refine' LV ?t ?a ?b ?u ?c ?d ?s ?e ?k;(case t=>assumption);(case a=>rfl);(case b=>walk_at "V");(case u=>exact jo (by assumption));(case c=>decide);(case d=>decide);(case s=>rfl);(case e=>walk_at "D");(case k=>walk_at "duk")))
local macro_rules | `(tactic| walk_at "r16")=>`(tactic| (refine' IS ?t ?a ?b ?u ?c ?d ?s ?e;(case t=>assumption);(case a=>rfl);(case b=>walk_at "V");(case u=>exact jo (by assumption));(case c=>decide);(case d=>decide);(case s=>exact fun _ _=>rfl);(case e=>walk_at "duk")))
local macro_rules | `(tactic| walk_at $s:str)=>Mq.go s "0@Hg rarA|Nf ararA|DE.alt&Ai rrrarA&wV rrarA&vD rrarA|KP rarA~duk@DX A|NA D~Z@>r15~1@Ky arrararrD|N6 arVradd|>r16|LO hrrrrDDD~Y@UJ arRrdrrAXX|QY arRrdrrA~T@Qm ajrVddrD"
section
variable{P:lq}{w:qh}{K:gW}{mg:eT->Option dk}{base:pq}
def qj (h:c δ=ac (b,δ))(h':b=bi->c' δ=ac (b',δ)):j4 c c' δ=ac (b&&b',δ):=by
 delta j4;rw[h];cases b
 ·rfl
 exact h' ρ
def yT (h:c δ=ac (b,δ))(h':b=bv->c' δ=ac (b',δ)):jL c c' δ=ac (b||b',δ):=by
 delta jL;rw[h];cases b
 ·exact h' ρ
 rfl
def wD(fn:aY):Prop:=∀(l:List eT) (n m:eT),l.Nodup->(∀x∈l,bh x)->l.length<=100->cx l n m->fn [.L (l.map .str),.str n]=ac (.D<|.str m)
def LX (nd:ns.Nodup)(s:cx ns n m):∃j,ns.findIdx? (λx=>bd<|x=n)=ac j/\cy (.L<|ns.map .str) (.int<|((j:Int)+1)%(ns.length:Int))=ac (.str m):=by
 obtain⟨i,a,b⟩:=s;obtain⟨c,d⟩:=bt.1 a;obtain⟨hj,e2⟩:=bt.1 b;refine⟨i,ZQ.2 ⟨c,by simpa using d,λk hk=>?_⟩,?_⟩
 ·intro z;have:=sx nd (i:=k) (bt.2 ⟨by lia,by simpa using z⟩) a;lia
 rw[show ((i:Int)+1)%(ns.length:Int)=(((i+1)%ns.length:Nat):Int) by simp];exact iO (by rw[ez,b];rfl)
theorem Oh(T:Txt mg){f:eH}{b:hU}(F:a9 K "_law_next" "_law_next" yf f b):∃fn,aS P w K mg base bb 1 f b ["_law_row","_law_name"] (aG K fn)/\wD fn:=by
 refine' bW F BY ρ ?C ?B
 case C=>walk_at "h"
 intro l n m d a hl s;obtain⟨j,e,g⟩:=LX d s;have c:=a n s.mem.1;have h:0<(l.length:Int):=by have:=WG s.mem.1;lia
 refine' cA ρ ?w;exact af<|aZ (v_res<|bu ρ (ag (ak (ag (ak (n4 ρ (aa ρ ah) (kU a) (fT c.ok)<|(tU a c).trans e) ρ ρ) ρ) (cu ρ (by simp[bZ]))<|iY<|decide_eq_true h) ρ) ρ g) ⟨_,ρ⟩
def Aa(fn:aY):Prop:=∀(j:Nat) (b:eT),j<4->bh b->fn [.str (ao j),.str b]=ac (.D<|.bl<|bd<|b=ao ((j+1)%4))
def Iy(T:Txt mg)(F:a9 K "_law_shut_after" "_law_shut_after" yj f c):∃fn,aS P w K mg base bb 1 f c ["_law_one","_law_other"] (aG K fn)/\Aa fn:=by
 refine' bW F Ef ρ ?C ?B
 case C=>walk_at "h"
 intro j b a g;have h:4<=sizeLine:=∅
 have d:=dY _<|di a;have e:=dU dY d false;rw[decide_eq_true (di a)] at e;have i:kR (.str<|ao j) (aQ.map .str)=ac j:=by
  have a:j=0\/j=1\/j=2\/j=3:=∅
  rcases a with rfl|rfl|rfl|rfl<;>decide +kernel
 have k:cy (.L<|aQ.map .str) (.int<|((j:Int)+1)%4)=ac (.str<|ao<|(j+1)%4):=by
  have a:j=0\/j=1\/j=2\/j=3:=∅
  rcases a with rfl|rfl|rfl|rfl<;>rfl
 refine' cA ρ ?w;refine' af<|aD (bM (aa ρ<|aa ρ<|aa ρ<|aa ρ ah) h) ρ<|ai ?_;exact af<|aZ (v_res<|pW (ag (ak ρ ρ e) ρ)<|ag (ak ρ (bu ρ (ag (ak (ag (ak (n4 ρ (aa ρ ah) (kU dY) (fT d.ok) i) ρ ρ) ρ) ρ ρ) ρ) ρ k)<|mC g.ok (dY _<|di<|zR _ ⋯).ok) ρ)<|bO<|gv ρ
def zh (h:n∈l):∃m,cx l n m:=by obtain⟨i,a,e⟩:=oy h;exact⟨_,i,bt.2 ⟨a,e⟩,bg<|zR _ (by lia)⟩
theorem or3{g h i:BF}{δ:DS}{ring:List eT}{a b:eT}{B:Bool}(nd:ring.Nodup)(d:B=bi ↔ cx ring a b)(j:g δ=ac (!bd (a∈ring),δ))(k:h δ=ac (!bd (b∈ring),δ))(l:∀m,cx ring a m->i δ=ac (!bd (m=b),δ)):jL g (jL h i) δ=ac (!B,δ):=by
 by_cases c:a∈ring
 ·obtain⟨m,s⟩:=zh c;rw[yT j fun _=>yT k fun _=>l m s,decide_eq_true c];by_cases f:b∈ring
  ·rw[decide_eq_true f];have:B=bd (m=b):=by rw[nF,d,decide_eq_true_eq];exact⟨fun s'=>tK nd s s',fun e=>e ▸ s⟩
   rw[this];rfl
  have:B=bv:=qo.2 fun z=>f (d.1 z).mem.2;rw[decide_eq_false f,this];rfl
 have:B=bv:=qo.2 fun z=>c (d.1 z).mem.1;rw[yT (b':=false) j fun z=>(by rw[decide_eq_false c] at z;cases z),decide_eq_false c,this];rfl
def qq (h:f δ=ac (.bl b,δ))(h':b=bi->g δ=ac (.bl b',δ)):jc f g δ=ac (.bl<|b&&b',δ):=by
 cases b
 ·delta jc;rw[h];rfl
 exact pW h<|h' ρ
theorem Sg{h i j:DF}{δ:DS}{ring:List eT}{a b:eT}{B:Bool}(nd:ring.Nodup)(f:B=bi ↔ cx ring a b)(g:h δ=ac (.bl<|bd<|b∈ring,δ))(k:i δ=ac (.bl<|bd<|a∈ring,δ))(l:∀m,cx ring a m->j δ=ac (.bl<|bd<|m=b,δ)):jc h (jc i j) δ=ac (.bl B,δ):=by
 by_cases c:b∈ring
 ·by_cases d:a∈ring
  ·obtain⟨m,s⟩:=zh d;rw[qq g fun _=>qq k fun _=>l m s,decide_eq_true d,decide_eq_true c];have:B=bd (m=b):=by rw[nF,f,decide_eq_true_eq];exact⟨fun s'=>tK nd s s',fun e=>e ▸ s⟩
   rw[this];rfl
  have:B=bv:=qo.2 fun z=>d (f.1 z).mem.1;rw[qq g fun _=>qq (b':=false) k fun z=>(by rw[decide_eq_false d] at z;cases z),decide_eq_false d,decide_eq_true c,this];rfl
 have:B=bv:=qo.2 fun z=>c (f.1 z).mem.2;rw[qq (b':=false) g fun z=>(by rw[decide_eq_false c] at z;cases z),decide_eq_false c,this];rfl
def IT (c:fg (.str a)=bi)(d:fg (.str b)=bi):eF true (.str a) (.str b)=ac (.D<|.bl<|!bd (a=b)):=by rw[pC (fT c) (fT d),jb]
def Hb (h:bI web)(b:n∈web.map (·.1)\/n∈aQ):bd (n∈web.map (·.1))=!aP n:=by
 by_cases a:n∈web.map (·.1)
 ·rw[decide_eq_true a,h.lu a];rfl
 rw[decide_eq_false a,(dZ n).2 (b.resolve_left a)];rfl
def BU(fn:aY):Prop:=∀(web:ay) (x n m:eT),bI web->x∈web.map (·.1)->n∈cn web x->m∈cn web x->fn [az web,tupS [x,n,m]]=ac (.D<|.bl<|jv (aO web) x n m)
theorem Kg(T:Txt mg){v B:aY}(R:ba P w K mg base "_law_next" 1 (aG K v))(I:wD v)(S:ba P w K mg base "_law_shut_after" 1 (aG K B))(U:Aa B){f:eH}{J:hU}(F:a9 K "_law_fits" "_law_fits" wH f J):∃fn,aS P w K mg base bb 2 f J ["_law_rows","_law_corner"] (aG K fn)/\BU fn:=by
 refine' bW F B9 ρ ?V ?C
 case V=>have fz:ik "_law_rows":=⟨trivial⟩;walk_at "h"
 intro web x n m h l D hm;have L:=vy h l D;have M:=vy h l hm;have tx:=h.txt<|ι l;have W:n∈web.map (·.1)\/n∈aQ:=by obtain⟨p,r,rfl⟩:=ee.1 l;rw[cE h.nd r] at D;exact ((h.rg p r).2.2 n D).1
 have X:m∈web.map (·.1)\/m∈aQ:=by obtain⟨p,r,rfl⟩:=ee.1 l;rw[cE h.nd r] at hm;exact ((h.rg p r).2.2 m hm).1
 have e:=Hb h W;have g:=Hb h X;refine' cA ρ ?w;refine af ⟨.next [.D (az web),.D<|tupS [x,n,m],.D<|.str x,.D<|.str n,.D<|.str m],ρ,?_⟩;have ex:∀{q:eT×List eT},q∈web->∀{a b:eT},bd ([q.1,a,b]∈aO web)=bi ↔ cx q.2 a b:=fun {q} c {a b}=>by rw[decide_eq_true_eq,mf h,cE h.nd c];exact⟨fun z=>z.2,fun z=>⟨ee.2 ⟨q,c,ρ⟩,z⟩⟩
 have rt:∀{q:eT×List eT},q∈web->∀z∈q.2,bh z:=fun {q} c z d=>h.txt ((h.rg q c).2.2 z d).1;have N:∀{q:eT×List eT},q∈web->q.2.length<=100:=fun {q} c=>by have:=h.len c;lia
 refine af (bK (jD (aE<|ak ρ ρ<|gQ web n true)<|aE<|ak ρ ρ<|gQ web m true) (fun z=>?_) fun z=>aw<|ai ?_)
 ·have z:(!bd (n∈web.map (·.1))&&!bd (m∈web.map (·.1)))=bi:=z;rw[e,g,acP,acP] at z;have Y:=z;simp only[hF,dZ] at z;obtain⟨j,O,rfl⟩:=oI z.1;refine af<|aZ (aB (aa ρ<|aa ρ ah)<|U j m O M)<|bO<|bO<|gv ?_;unfold jv;rw[if_pos Y,En O]
 have z:(!bd (n∈web.map (·.1))&&!bd (m∈web.map (·.1)))=bv:=z;rw[e,g,acP,acP] at z;have Z:jv (aO web) x n m=((aP n||bd ([n,m,x]∈aO web))&&(aP m||bd ([m,x,n]∈aO web))):=by unfold jv;rw[z];rfl
 rw[Z];refine af (WS.mono (Q:=fun o=>((aP n||bd ([n,m,x]∈aO web))=bi/\o=.next [.D (az web),.D<|tupS [x,n,m],.D<|.str x,.D<|.str n,.D<|.str m])\/(aP n||bd ([n,m,x]∈aO web))=bv/\∃δ,o=.ret (.D<|.bl false) δ) ?_ fun o ho=>?_)
 ·refine bK (aE<|ak ρ ρ<|gQ web n false) (fun y=>?_) fun y=>?_
  ·have y:bd (n∈web.map (·.1))=bi:=y;rw[y] at e;obtain⟨q,c,rfl⟩:=ee.1<|of_decide_eq_true y;have i:aP q.1=bv:=by cases d:aP q.1<;>rw[d] at e<;>first|rfl|cases e
   rw[i,O1];have sub:mY 0 (cS 3) [.D (az web),.D<|tupS [x,q.1,m],.D<|.str x,.D<|.str q.1,.D<|.str m]=ac (.L<|q.2.map .str,[.D (az web),.D<|tupS [x,q.1,m],.D<|.str x,.D<|.str q.1,.D<|.str m]):=dE ρ ρ<|dG h.nd c;refine af (bK (or3 (h.rg q c).2.1 (ex c) (aE<|ak ρ sub<|dU (rt c) M true) (aE<|ak ρ sub<|dU (rt c) tx true) fun k t=>aE<|ak (ag (aB (aa sub<|aa ρ ah)<|I q.2 m k (h.rg q c).2.1 (rt c) (N c) t) ρ) ρ<|IT (rt c k t.mem.2).ok tx.ok) (fun u=>?_) fun u=>?_)
   ·exact af<|aZ ρ<|bO<|bO<|τ ⟨by simpa using u,_,rfl⟩
   exact aw<|ai<|aw<|ι ⟨by simpa using u,rfl⟩
  have y:bd (n∈web.map (·.1))=bv:=y;rw[y] at e;have i:aP n=bi:=by cases d:aP n<;>rw[d] at e<;>first|rfl|cases e
  exact aw<|ι ⟨by rw[i];rfl,rfl⟩
 rcases ho with⟨G,rfl⟩|⟨G,δ,rfl⟩
 ·refine ai ?_;rw[G,aa2];refine af (bK (aE<|ak ρ ρ<|gQ web m false) (fun y=>?_) fun y=>aw<|ai ?_)
  ·have y:bd (m∈web.map (·.1))=bi:=y;rw[y] at g;obtain⟨q,c,rfl⟩:=ee.1<|of_decide_eq_true y;have i:aP q.1=bv:=by cases d:aP q.1<;>rw[d] at g<;>first|rfl|cases g
   rw[i,O1];have sub:mY 0 (cS 4) [.D (az web),.D<|tupS [x,n,q.1],.D<|.str x,.D<|.str n,.D<|.str q.1]=ac (.L<|q.2.map .str,[.D (az web),.D<|tupS [x,n,q.1],.D<|.str x,.D<|.str n,.D<|.str q.1]):=dE ρ ρ<|dG h.nd c;exact af<|aZ (v_res (Sg (h.rg q c).2.1 (ex c) (ag (ak ρ sub<|dU (rt c) L false) ρ) (ag (ak ρ sub<|dU (rt c) tx false) ρ) fun k t=>ag (ak (ag (aB (aa sub<|aa ρ ah)<|I q.2 x k (h.rg q c).2.1 (rt c) (N c) t) ρ) ρ<|mC (rt c k t.mem.2).ok L.ok) ρ))<|bO<|bO ⟨_,ρ⟩
  have y:bd (m∈web.map (·.1))=bv:=y;rw[y] at g;have i:aP m=bi:=by cases d:aP m<;>rw[d] at g<;>first|rfl|cases g
  rw[i];exact af<|aZ ρ<|bO ⟨_,ρ⟩
 rw[G];exact bO ⟨_,ρ⟩
noncomputable def kn(l:List eT)(k:Nat):Str:=l.getD ((k+l.length-1)%l.length) ""
def bY(web:ay):List (List eT):=web.flatMap λp=>(hM p.2.length).map λk=>[p.1,kn p.2 k,p.2.getD k ""]
theorem K0{l:List eT}{k:Nat}(h:k<l.length):dc (l.map Dat.str) ((k:Int)-1)=ac (.str<|kn l k):=by
 have key:∀j,j<l.length->(l.map Dat.str)[j]?=ac (.str<|l.getD j ""):=λj a=>by rw[ez,bg a,mu,bg a];rfl
 have e:fh (l.map Dat.str).length ((k:Int)-1)=ac ((k+l.length-1)%l.length):=by
  delta fh;rw[ax];cases k with
  | zero =>
   rw[if_neg ∅,if_pos ∅,ZE,se ∅]
   congr 1;omega
  | succ k =>
   rw[if_pos ∅,if_pos ∅,show k+1+l.length-1=k+l.length by omega,acX,se ∅]
   congr 1;lia
 delta dc;rw[e];exact key _<|zR _ (by lia)
def E7(fn:aY):Prop:=∀web:ay,web.length<=50->(∀p∈web,p.2.length<=50)->fn [.L (web.map pairD)]=ac (.O<|.L<|(bY web).map tupS)
theorem xl:∀web:ay,(∀p∈web,p.2.length<=50)->(bY web).length<=web.length*50
 | [],_=>pe _
 | p::l,h=>by have h1:=h p eN;have:=xl l λq a=>h q<|fk _ a;have e:bY (p::l)=((hM p.2.length).map λk=>[p.1,kn p.2 k,p.2.getD k ""])++bY l:=ρ;rw[e,gd,ax,kL,gk,Nat.succ_mul];lia
def Gx (h:fa δ=ac ([.int n],δ1))(hn:n<=1000):oD fa δ=ac ((hM n).map λj:Nat=>.int (j:Int),δ1):=by rw[<-Ae];exact j8 h (by lia)
def Sr(T:Txt mg)(F:a9 K "_law_corners" "_law_corners" vV f g):∃fn,aS P w K mg base bb 1 f g ["_law_web_here"] (aG K fn)/\E7 fn:=by
 refine' bW F HG ρ ?D ?B
 case D=>walk_at "h"
 intro web h50 a;refine' cA ρ ?w;refine' af<|aD (bM ah<|pe _) ρ<|ai ?_;refine' af<|cN (λn δ=>∃c e,Fr c/\Fr e/\δ=[.D (.L<|web.map pairD),.O<|.L<|(bY<|web.take n).map tupS,c,e]) (bU ρ) ⟨_,_,ι ρ,ι ρ,ρ⟩ ?st ?C
 case C=>rintro _ ⟨c,e,_,_,rfl⟩;rw[ax,mv];exact ai<|af<|aZ ρ<|bO ⟨_,ρ⟩
 rintro n y h _ ⟨c,e,l,m,rfl⟩;rw[ez] at h;obtain⟨p,ep,rfl⟩:=gj.1 h;have o:=fB ep;have i:=xl (web.take n) λq r=>a q<|ZY r;have l2:=a p o;rw[l5] at i;have t:bY (web.take<|n+1)=bY (web.take n)++(hM p.2.length).map λk=>[p.1,kn p.2 k,p.2.getD k ""]:=by delta bY;rw[cZ ep,abe];simp
 rw[t,hI,hG];have hA:(bY<|web.take n).length<=2500:=px i ∅;generalize bY (web.take n)=A at *;have u:3<=sizeLine:=∅
 refine⟨[.D (.L<|web.map pairD),.O<|.L<|A.map tupS,.D<|.str p.1,.D<|.L<|p.2.map .str],by rcases l with rfl|⟨d,rfl⟩<;>rcases m with rfl|⟨d,rfl⟩<;>rfl,?_⟩;refine' af<|aD (ak ρ (ag (dX (xs:=hM p.2.length) (λk=>[.no,.D<|.int (k:Int),.D<|.str p.1,.D<|.L<|p.2.map .str]) (λk=>tupS [p.1,kn p.2 k,p.2.getD k ""]) (Gx (aa (cu ρ (by simp[bZ])) ah) ∅) ρ (by rw[kL];unfold eu;omega) ?G ?I<|λ_ _=>rfl) ρ)<|kG (by rw[ax,ax,kL];unfold eu;omega)) ρ<|ai<|aw ⟨_,_,τ ⟨_,ρ⟩,τ ⟨_,ρ⟩,ρ⟩
 case G=>rintro y _ δ (rfl|⟨z,rfl⟩)<;>rfl
 intro k b;have b:=nk.1 b;have v:dc (p.2.map Dat.str) (k:Int)=ac (.str<|p.2.getD k ""):=iO (by rw[ez,bg b,mu,bg b];rfl);exact cw (aa ρ<|aa (bu ρ (ag (ak ρ ρ ρ) ρ) ρ<|K0 b)<|aa (bu ρ ρ ρ v) ah) u
theorem Bs:cx l u v ↔ ∃k,k<l.length/\u=kn l k/\v=l.getD k "":=by
 have key:∀{j:Nat},j<l.length->l[j]?=ac (l.getD j ""):=λ{j} d=>by rw[bg d,mu,bg d];rfl
 constructor
 ·rintro⟨i,f,g⟩;have b:=(bt.1 f).1;have a:(i+1)%l.length<l.length:=zR _ ∅;refine⟨(i+1)%l.length,a,?_,?_⟩
  ·have e:((i+1)%l.length+l.length-1)%l.length=i:=by
    by_cases z:i+1=l.length
    ·rw[z,aaU,ZE,se ∅];omega
    rw[se (show i+1<l.length by omega),show i+1+l.length-1=i+l.length by omega,acX,se b]
   delta kn;rw[e];exact Option.some.inj<|f.symm.trans<|key b
  exact Option.some.inj<|g.symm.trans<|key a
 rintro⟨k,a,rfl,rfl⟩;have b:(k+l.length-1)%l.length<l.length:=zR _ ∅;refine⟨(k+l.length-1)%l.length,key b,?_⟩;have e:((k+l.length-1)%l.length+1)%l.length=k:=by
  cases k with
  | zero =>
   have c:(0+l.length-1)%l.length=l.length-1:=by rw[ZE,se ∅]
   rw[c,show l.length-1+1=l.length by omega,aaU]
  | succ k =>
   have c:(k+1+l.length-1)%l.length=k:=by rw[show k+1+l.length-1=k+l.length by omega,acX,se ∅]
   rw[c,se a]
 rw[e];exact key a
theorem rK{web:ay}{c:List eT}:c∈bY web ↔ c∈aO web:=by
 delta bY aO;rw[L1,L1];refine exists_congr fun p=>and_congr_right fun hp=>?_;rw[ee,ee];constructor
 ·rintro⟨k,a,rfl⟩;exact⟨(kn p.2 k,p.2.getD k ""),tI.2<|Bs.2 ⟨k,nk.1 a,ρ,ρ⟩,ρ⟩
 rintro⟨⟨u,v⟩,h,rfl⟩;obtain⟨k,a,rfl,rfl⟩:=Bs.1<|tI.1 h;exact⟨k,nk.2 a,ρ⟩
theorem SQ (D:List eT->eT->DS)(stop:∀d a,a∉rooms->d.length<500->c (D d a)=ac (false,D d a))(go:∀d a p,(∀x∈d,x∈rooms)->a∈rooms->a∉d->cx (ring a) p wl->d.length<500->c (D d a)=ac (true,D d a)/\fb (D d a)=ac (.next<|D (d++[a]) p))(r:Row rooms ring wl a l) :
  ∀(d:List eT) (n:Nat),(∀x∈d,x∈rooms)->(d++l).Nodup->l.length<n->d.length+l.length<500->(∀g,Q<|.next<|D (d++l) g)->WS (gB c fb n) (D d a) Q:=by
 induction r with
 | @stop b h=>intro d n _ _ i hl q;obtain⟨n,rfl⟩:∃m,n=m+1:=⟨n-1,by simp at i;omega⟩;refine Ad (stop d _ h<|hl) ?_;have:=q b;rw[wa] at this;exact this
 | @go a p l h s _ j =>
  intro d n f nd i hl q;simp at i hl;obtain⟨n,rfl⟩:∃m,n=m+1:=⟨n-1,∅⟩;have k:a∉d:=λz=>(zb.1 nd).2.2 a z a eN ρ;obtain⟨o,t⟩:=go d a p f h k s ∅;have e:d++[a]++l=d++a::l:=⋯
  refine v8 o t (j _ _ (λx u=>(hY.1 u).elim (f x) λz=>kH.1 z ▸ h) (by rw[e];exact nd) (by lia) (by simp only[gd,ZM];omega) λg=>?_);rw[e];exact q g
theorem Lo{rooms:List eT}{ring:eT->List eT}{wl a:eT}{l:List eT}(r:Row rooms ring wl a l):∀y∈l,wl∈ring y:=by
 induction r with
 | stop=>simp
 | go _ s _ c =>
  intro y b;rcases hO.1 b with rfl|b
  ·exact s.mem.2
  exact c y b
def Sx{i:Nat}{f:DF}{δ:DS}{ns:List eT}{m:eT}(a:∀x∈ns,bh x)(hm:bh m)(h:f δ=ac (.str m,δ))(b:pU i δ=ac (ns.map .str)):qI i f δ=ac (.D<|.bl<|!bd (m∈ns),δ):=by
 have e:(if (bH (.str m)&&bH (.L<|ns.map .str))=bi then ac (Res.D<|.bl<|!inD (.str m) (ns.map .str)) else am)=ac (.D<|.bl<|!bd (m∈ns)):=dU a hm true;delta qI;rw[h];show (pU i δ).bind _=_;rw[b];show (if (bH (.str m)&&bH (.L<|ns.map .str))=bi then ac (Res.D<|.bl<|!inD (.str m) (ns.map .str),δ) else am)=_;split at e
 ·rename_i c;rw[if_pos c,Option.some.inj e]
 cases e
def F9(fn:aY):Prop:=∀(web:ay) (k:Nat),k<4->bI web->(aO web).all (il<|aO web)=bi->∃b,fn [az web,.str<|ao k]=ac (.D<|.bl b)/\(b=bi ↔ kA web k)
theorem Mt(T:Txt mg){R S:aY}(q1:ba P w K mg base "_law_next" 1 (aG K R))(s1:wD R)(q2:ba P w K mg base "_law_shut_after" 1 (aG K S))(s2:Aa S){f:eH}{fd:hU}(F:a9 K "_law_in_row" "_law_in_row" vJ f fd):∃fn,aS P w K mg base bb 2 f fd ["_law_rows","_law_shut"] (aG K fn)/\F9 fn:=by
 refine' bW F Hf ρ ?hb ?W
 case hb=>have nd:=Hf.nd;have fz:ik "_law_rows":=⟨trivial⟩;have kz:CA "_law_come":=⟨trivial⟩;walk_at "h"
 intro web k O h hc;have bz:=h.bz;have sz:web.length<=sizeLine:=by unfold eu;lia
 have B:=dY _<|di O;have X:(bS web).map (fun k=>Dat.str k.1)=web.map fun p=>Dat.str p.1:=by unfold bS;rw[hG];rfl
 have fl:(eQ web k).length<=8:=by unfold eQ;rw[ax];exact px (qp ..) bz.2
 have tl8:(ib web k).length<=8:=by unfold ib;rw[ax];exact px (qp ..) bz.2
 have tr:∀p∈web,∀z∈p.2,bh z:=fun p d z hz=>h.txt ((h.rg p d).2.2 z hz).1;have hB:∀p∈web,∀{δ:DS}{G I:BF},G δ=ac (bd<|ao k∈p.2,δ)->(∀m,cx p.2 (ao k) m->I δ=ac (bd<|m=ao ((k+1)%4),δ))->j4 G I δ=ac (bd<|[p.1,ao k,ao<|(k+1)%4]∈aO web,δ):=fun p d δ G I h1 h2=>by
  have hr:p.1∈web.map (·.1):=ee.2 ⟨p,d,ρ⟩;have hi:[p.1,ao k,ao<|(k+1)%4]∈aO web ↔ cx p.2 (ao k) (ao<|(k+1)%4):=by rw[mf h,cE h.nd d];exact⟨fun z=>z.2,fun z=>⟨hr,z⟩⟩
  by_cases hw:ao k∈p.2
  ·obtain⟨m,o⟩:=zh hw;rw[qj h1 fun _=>h2 m o,decide_eq_true hw,aa2];have:bd (m=ao ((k+1)%4))=bd ([p.1,ao k,ao<|(k+1)%4]∈aO web):=decide_eq_decide.2 (hi.trans ⟨fun s=>tK (h.rg p d).2.1 o s,fun e=>e ▸ o⟩).symm;rw[this]
  rw[qj (b':=false) h1 fun z=>(by rw[decide_eq_false hw] at z;cases z),decide_eq_false hw,decide_eq_false fun z=>hw (hi.1 z).mem.1];rfl
 by_cases r:∃x,eQ web k=[x]
 ·obtain⟨x,r⟩:=r;have C:[x,ao k,ao<|(k+1)%4]∈aO web:=by
   have:x∈eQ web k:=by rw[r];simp
   unfold eQ at this;obtain⟨p,d,rfl⟩:=ee.1 this;exact of_decide_eq_true (iF.1 d).2
  obtain⟨l,Q,Y,r4⟩:=FF h hc O C;have U:l.length<=8:=px (mR Y r4) (by rw[ax];lia);have J:x∈web.map (·.1):=((mf h).1 C).1;obtain⟨i,v,rfl⟩:=ee.1 J;refine⟨bd<|l.length=(ib web k).length,?_,?_⟩
  ·refine' cA ρ ?w
   case w =>
    show WS _ [.D (az web),.D<|.str<|ao k,.no,.no,.no] _;refine' af<|aD (δ2:=[.D (az web),.D<|.str<|ao k,.O<|.L<|[i.1].map .str,.no,.no]) (fN (enc:=fun p:eT×List eT=>.str p.1) (xs:=web) (fun p=>[.no,.D<|.str p.1,.D<|az web,.D<|.str<|ao k]) (fun p=>bd<|[p.1,ao k,ao<|(k+1)%4]∈aO web) (fun p=>.str p.1) ?Z ρ sz ?a2 ?a3 ?a4 ?a5) ?a6<|ai ?a7
    case Z=>show ac ((bS web).map fun k=>Dat.str k.1,_)=_;rw[X]
    case a2=>intro y u δ hd;rcases hd with rfl|⟨z,rfl⟩<;>rfl
    case a3=>intro p d;exact hB p d (aE<|ak ρ (dE ρ ρ<|dG h.nd d)<|dU (tr p d) B false) fun m o=>fY (ag (aB (aa ρ<|aa (ag (aB (aa (dE ρ ρ<|dG h.nd d)<|aa ρ ah)<|s1 p.2 _ m (h.rg p d).2.1 (tr p d) (by have:=h.len d;omega) o) ρ) ah)<|s2 k m O<|tr p d m o.mem.2) ρ) ρ
    case a4=>intro p d _;rfl
    case a5=>intro p d;rfl
    case a6=>rw[<-r];unfold eQ;rw[hG];rfl
    case a7 =>
     refine' gz (aE<|ak (cu ρ ρ) ρ<|ne_int _ _) ρ ?zz;refine' af<|aD (bM (aa (bu ρ ρ ρ ρ) ah) (by show 1<=eu;unfold eu;decide)) ρ<|ai ?b1;obtain⟨p,D,rfl,sc,r'⟩:∃p D,l=i.1::D/\cx (cn web i.1) p (ao k)/\Row (web.map (·.1)) (cn web) (ao k) p D:=by
      cases Q with
      | stop z=>exact absurd J z
      | go _ a b=>exact⟨_,_,ρ,a,b⟩
     have pv:∀q∈web,∀{p:eT},cx (cn web q.1) p (ao k)->∃j,kR (.str<|ao k) (q.2.map .str)=ac j/\cy (.L<|q.2.map .str) (.int<|(j:Int)-1)=ac (.str p):=fun q g p s=>by rw[cE h.nd g] at s;obtain⟨j,L,M⟩:=CN (h.rg q g).2.1 s;exact⟨j,(tU (tr q g) B).trans L,M⟩
     obtain⟨j,L,M⟩:=pv i v sc;refine' af<|aD (v_res<|ic (dE ρ (bu ρ ρ ρ ρ)<|dG h.nd v) (ag (ak (n4 (dE ρ (bu ρ ρ ρ ρ)<|dG h.nd v) (aa ρ ah) (kU<|tr i v) (fT B.ok) L) ρ<|iY ρ) ρ) M) ρ<|ai ?_;refine af (SQ (fun t a=>[.D (az web),.D<|.str<|ao k,.O<|.L<|[i.1].map .str,.O<|.L<|t.map .str,.D<|.str a]) ?k1 ?k2 r' [i.1] mo (fun x C=>kH.1 C ▸ J) Y ?k3 ?k4 fun a'=>ai ?k5)
     case k1=>intro t a N _;have e:=gQ web a false;rw[decide_eq_false N] at e;exact qj (b':=false) (aE<|ak ρ ρ e) fun z=>by cases z
     case k2 =>
      intro t a p' hA N na s hl;have e:=gQ web a false;rw[decide_eq_true N] at e;obtain⟨q,g,rfl⟩:=ee.1 N;obtain⟨j,L,M⟩:=pv q g s;have tq:bh q.1:=h.txt<|ι N;refine⟨?_,?_⟩
      ·have:=qj (c:=eM<|cO (fx false) (cS 4)<|cS 0) (c':=eM<|qI 3<|cS 4) (δ:=[.D (az web),.D<|.str<|ao k,.O<|.L<|[i.1].map .str,.O<|.L<|t.map .str,.D<|.str q.1]) (aE<|ak ρ ρ e) fun _=>aE (Sx (fun x C=>h.txt<|ι<|hA x C) tq ρ ρ);rw[decide_eq_false na] at this;exact this
      refine ot (rj<|gg ρ ρ (by unfold eu;rw[ax];omega)) (oP<|ot (nM (δ2:=[.D (az web),.D<|.str<|ao k,.O<|.L<|[i.1].map .str,.O<|.L<|(t++[q.1]).map .str,.D<|.str p']) (v_res<|ic (dE ρ ρ<|dG h.nd g) (ag (ak (n4 (dE ρ ρ<|dG h.nd g) (aa ρ ah) (kU<|tr q g) (fT B.ok) L) ρ<|iY ρ) ρ) M) ?_)<|oP ρ);rw[hI];rfl
     case k3=>unfold mo;simp at U;omega
     case k4=>simp only[gk,aah] at U ⊢;omega
     show WS _ [.D (az web),.D<|.str<|ao k,.O<|.L<|[i.1].map .str,.O<|.L<|(i.1::D).map .str,.D<|.str a'] _;refine' af<|aZ (ak (cu (n:=(i.1::D).length) ρ (by simp[bZ])) (ag (aB (aa (ag (fN (enc:=fun p:eT×List eT=>.str p.1) (xs:=web) (fun p=>[.no,.D<|.str p.1,.D<|az web,.D<|.str<|ao k]) (fun p=>bd<|ao k∈p.2) (fun p=>.str p.1) ?G ρ sz ?I ?c3 ?c4 ?c5) ρ) ah) ρ) ρ)<|eq_int _ _)<|gv ?c6
     case G=>show ac ((bS web).map fun k=>Dat.str k.1,_)=_;rw[X]
     case I=>intro y u δ hd;rcases hd with rfl|⟨z,rfl⟩<;>rfl
     case c3=>intro p d;exact aE<|ak ρ (dE ρ ρ<|dG h.nd d)<|dU (tr p d) B false
     case c4=>intro p d _;rfl
     case c5=>intro p d;rfl
     refine decide_eq_decide.2 ?_;unfold ib;simp only[ax,gk];omega
  have VB:∀y∈l,y∈ib web k:=fun y u=>by obtain⟨q,g,rfl⟩:=ee.1<|r4 y u;refine ee.2 ⟨q,iF.2 ⟨g,decide_eq_true ?_⟩,ρ⟩;have:=Lo Q _ u;rw[cE h.nd g] at this;exact this
  rw[decide_eq_true_iff];constructor
  ·intro e;exact⟨i.1,l,r,Q,uC Y VB ∅⟩
  rintro⟨x',D,V,r',p⟩;rw[r] at V;cases V;rw[Gi (fun y u=>by obtain⟨q,g,rfl⟩:=ee.1 u;rw[cE h.nd g];exact (h.rg q g).2.1) Q r']
  exact p.length_eq
 refine⟨false,?_,fun z=>(by cases z),fun ⟨x,_,z,_⟩=>absurd ⟨x,z⟩ r⟩;refine' cA ρ ?w
 case w =>
  show WS _ [.D (az web),.D<|.str<|ao k,.no,.no,.no] _;refine' af<|aD (δ2:=[.D (az web),.D<|.str<|ao k,.O<|.L<|(eQ web k).map .str,.no,.no]) (fN (enc:=fun p:eT×List eT=>.str p.1) (xs:=web) (fun p=>[.no,.D<|.str p.1,.D<|az web,.D<|.str<|ao k]) (fun p=>bd<|[p.1,ao k,ao<|(k+1)%4]∈aO web) (fun p=>.str p.1) ?Z ρ sz ?a2 ?a3 ?a4 ?a5) ?a6<|ai ?a7
  case Z=>show ac ((bS web).map fun k=>Dat.str k.1,_)=_;rw[X]
  case a2=>intro y u δ hd;rcases hd with rfl|⟨z,rfl⟩<;>rfl
  case a3=>intro p d;exact hB p d (aE<|ak ρ (dE ρ ρ<|dG h.nd d)<|dU (tr p d) B false) fun m o=>fY (ag (aB (aa ρ<|aa (ag (aB (aa (dE ρ ρ<|dG h.nd d)<|aa ρ ah)<|s1 p.2 _ m (h.rg p d).2.1 (tr p d) (by have:=h.len d;omega) o) ρ) ah)<|s2 k m O<|tr p d m o.mem.2) ρ) ρ
  case a4=>intro p d _;rfl
  case a5=>intro p d;rfl
  case a6=>unfold eQ;rw[hG];rfl
  case a7=>refine' rF (aE<|ak (cu ρ ρ) ρ<|ne_int _ _) ?z1 ρ ⟨_,ρ⟩;have:(eQ web k).length≠1:=fun z=>r<|ab4.1 z;simp only[ax];simp;omega
def ij(web:ay)(F:List eT)(r:eT):List Str:=F++(cn web r).filter λn=>bd (n∈web.map (·.1))&&!bd (n∈F)
def roundF(web:ay)(F:List eT):List Str:=F.foldl (ij web) F
noncomputable def sM(web:ay):List Str:=(web.filter λp=>p.2.any λn=>!bd (n∈web.map (·.1))).map (·.1)
noncomputable def dw(web:ay):Nat->List eT
 | 0=>sM web
 | k+1=>roundF web<|dw web k
def CK (h:x∈F):x∈ij web F r:=z6 _ h
theorem yN:∀(L F:List eT),x∈F->x∈L.foldl (ij web) F
 | [],_,h=>h
 | _::L,_,h=>yN L _<|CK h
theorem fold_all {P:eT->Prop}(hs:∀r,P r->∀n∈cn web r,n∈web.map (·.1)->P n):∀(L F:List eT),(∀r∈L,P r)->(∀x∈F,P x)->∀x∈L.foldl (ij web) F,P x
 | [],_,_,h=>h
 | r::L,F,b,h=>fold_all hs L _ (λz c=>b z<|fk _ c) λx a=>by
  rcases hY.1 a with a|a
  ·exact h x a
  have:=iF.1 a;simp only[hF,decide_eq_true_eq] at this;exact hs r (b r eN) x this.1 this.2.1
theorem Ga (a:n∈cn web r)(b:n∈web.map (·.1)):∀(L F:List eT),r∈L->n∈L.foldl (ij web) F
 | z::L,F,h=>by
  rcases hO.1 h with rfl|h
  ·refine yN L _ ?_;by_cases c:n∈F
   ·exact CK c
   exact pL _<|iF.2 ⟨a,by rw[decide_eq_true b,decide_eq_false c];rfl⟩
  exact Ga a b L _ h
theorem uU (c:∀r,(cn web r).Nodup):∀(L F:List eT),F.Nodup->(L.foldl (ij web) F).Nodup
 | [],_,h=>h
 | r::L,F,h=>uU c L _ (zb.2 ⟨h,y3 Ts<|c r,λa d b f e=>by have:=iF.1 f;rw[<-e,decide_eq_true d] at this;simp at this⟩)
theorem zU{web:ay}{x:eT}{L F:List eT}(h:x∈L.foldl (ij web) F)(b:∀y∈F,y∈web.map (·.1)):x∈web.map (·.1):=by
 induction L generalizing F with
 | nil=>exact b x h
 | cons r L c =>
  refine c h λy a=>?_;rcases hY.1 a with a|a
  ·exact b y a
  have:=(iF.1 a).2;simp only[hF,decide_eq_true_eq] at this;exact this.1
theorem G9:∀{l:List d},(∀x∈l,p x=bi->q x=bi)->(∃x∈l,q x=bi/\p x=bv)->l.countP p<l.countP q
 | a::l,h,⟨x,b,e,f⟩=>by
  have le:=List.countP_mono_left λy c=>h y<|fk _ c;rw[wk,wk];rcases hO.1 b with rfl|b
  ·rw[e,f];simp;omega
  have:=G9 (λy c=>h y<|fk _ c) ⟨x,b,e,f⟩;have:=h a eN;split<;>split<;>first|omega|simp_all
def iI (nd:(web.map (·.1)).Nodup):x∈cM web (k+1) ↔ x∈aQ\/∃p∈web,p.1=x/\∃y∈p.2,y∈cM web k:=by rw[FA nd,hY,ee];refine or_congr_right ⟨λ⟨p,a,e⟩=>?_,λ⟨p,a,e,y,b,c⟩=>⟨p,iF.2 ⟨a,z8.2 ⟨y,b,decide_eq_true c⟩⟩,e⟩⟩;obtain⟨a,d⟩:=iF.1 a;obtain⟨y,b,c⟩:=z8.1 d;exact⟨p,a,e,y,b,of_decide_eq_true c⟩
theorem uw (nd:(web.map (·.1)).Nodup):∀(k:Nat) {x:eT},x∈cM web k->x∈cM web (k+1)
 | 0,x,h=>(iI nd).2 (ι h)
 | k+1,x,h=>(iI nd).2 (((iI nd).1 h).imp_right λ⟨p,a,e,y,b,c⟩=>⟨p,a,e,y,b,uw nd k c⟩)
theorem SI (h:bI web)(m:Nat)(a:x∈cM web m):x∈cM web web.length:=by
 have nd:=h.nd;have key:∀k,(∀m x,x∈cM web m->x∈cM web k)\/k<=(web.map (·.1)).countP λr=>bd (r∈cM web k):=by
  intro k;induction k with
  | zero=>exact τ (pe _)
  | succ k c =>
   rcases c with c|c
   ·exact ι λm x a=>uw nd k<|c m x a
   by_cases st:∀r∈web.map (·.1),r∈cM web (k+1)->r∈cM web k
   ·left;intro m;induction m with
    | zero=>exact λx a=>(iI nd).2 (ι a)
    | succ m i =>
     intro x a;refine (iI nd).2 (((iI nd).1 a).imp_right λ⟨p,g,e,y,d,f⟩=>⟨p,g,e,y,d,?_⟩);have f:=i y f;rcases ((h.rg p g).2.2 y d).1 with b|hw
     ·exact st y b f
     cases k with
     | zero=>exact hw
     | succ k=>exact (iI nd).2 (ι hw)
   right;obtain⟨r,z⟩:=Classical.not_forall.1 st;obtain⟨b,z⟩:=adX.1 z;obtain⟨j,l⟩:=adX.1 z;have:=G9 (q:=λr=>bd<|r∈cM web (k+1)) (λy _ d=>decide_eq_true<|uw nd k<|of_decide_eq_true d) ⟨r,b,decide_eq_true j,decide_eq_false l⟩;omega
 rcases key web.length with z|z
 ·exact z m x a
 have e:=Nat.le_antisymm ace (by rw[ax];exact z);have o:=List.countP_eq_length.1 e;rcases E4 a with b|hw
 ·exact of_decide_eq_true<|o x b
 obtain⟨n,s⟩:∃n,web.length=n+1:=⟨web.length-1,by have:=h.bz;omega⟩;rw[s];exact (iI nd).2 (ι hw)
theorem Mk (h:bI web)(sh:dC web):(dw web web.length).length=web.length ↔ (web.all λp=>bd<|p.1∈cM web web.length)=bi:=by
 have nd:=h.nd;have j:∀k,(dw web k).Nodup/\∀x∈dw web k,x∈web.map (·.1):=by
  intro k;induction k with
  | zero=>exact⟨BP nd _,λx b=>by obtain⟨p,a,rfl⟩:=ee.1 b;exact ee.2 ⟨p,(iF.1 a).1,ρ⟩⟩
  | succ k f=>exact⟨uU (rZ h) _ _ f.1,λx b=>zU b f.2⟩
 have o:∀{p q:eT×List eT},p∈web->q∈web->q.1∈p.2->p.1∈q.2:=λ{p q} a g=>sh p a q g;have t:∀k x,x∈dw web k->∃m,x∈cM web m:=by
  intro k;induction k with
  | zero=>intro x b;obtain⟨p,a,rfl⟩:=ee.1 b;obtain⟨a,z⟩:=iF.1 a;obtain⟨y,c,i⟩:=z8.1 z;exact⟨1,(iI nd).2 (τ ⟨p,a,ρ,y,c,((h.rg p a).2.2 y c).1.resolve_left (by simpa using i)⟩)⟩
  | succ k f =>
   refine fold_all (λr ⟨m,hm⟩ n l d=>?_) _ _ f f;obtain⟨q,g,rfl⟩:=ee.1 d;by_cases s:r∈web.map (·.1)
   ·obtain⟨p,a,rfl⟩:=ee.1 s;rw[cE nd a] at l;exact⟨m+1,(iI nd).2 (τ ⟨q,g,ρ,p.1,o a g l,hm⟩)⟩
   have:cn web r=[]:=by delta cn;rw[L'.2 λp a=>by simpa using λe=>s<|ee.2 ⟨p,a,e⟩];rfl
   rw[this] at l;cases l
 have first:∀k x,x∈sM web->x∈dw web k:=by
  intro k;induction k with
  | zero=>exact λx b=>b
  | succ k f=>exact λx b=>yN _ _<|f x b
 have nw:∀{y},y∈aQ->y∉web.map (·.1):=λ{y} hw d=>by have:=h.lu d;rw[(dZ y).2 hw] at this;cases this
 have u:∀p∈web,∀y∈p.2,y∈aQ->p.1∈sM web:=λp a y c hw=>ee.2 ⟨p,iF.2 ⟨a,z8.2 ⟨y,c,by rw[decide_eq_false (nw hw)];rfl⟩⟩,ρ⟩;have v:∀k x,x∈web.map (·.1)->x∈cM web (k+1)->x∈dw web k:=by
  intro k;induction k with
  | zero =>
   intro x b d;rcases (iI nd).1 d with hw|⟨p,a,rfl,y,c,i⟩
   ·exact absurd b<|nw hw
   exact u p a y c i
  | succ k f =>
   intro x b d;rcases (iI nd).1 d with hw|⟨p,a,rfl,y,c,i⟩
   ·exact absurd b<|nw hw
   rcases ((h.rg p a).2.2 y c).1 with d|hw
   ·obtain⟨q,g,rfl⟩:=ee.1 d;exact Ga (by rw[cE nd g];exact o a g c) b _ _<|f q.1 d i
   exact first _ _ (u p a y c hw)
 rw[hE];constructor
 ·intro e p a;obtain⟨m,hm⟩:=t web.length p.1 ((uC (j web.length).1 (j web.length).2 (by rw[ax];omega)).mem_iff.2 (ee.2 ⟨p,a,ρ⟩));exact decide_eq_true<|SI h m hm
 intro A;have B:=rS (j web.length).1 (j web.length).2;have C:=rS nd λx b=>by obtain⟨p,a,rfl⟩:=ee.1 b;exact v web.length p.1 b<|uw nd _<|of_decide_eq_true<|A p a
 rw[ax] at B C;lia
theorem Ov (h:bI web)(k:Nat):(dw web k).Nodup/\∀x∈dw web k,x∈web.map (·.1):=by
 induction k with
 | zero=>exact⟨BP h.nd _,λx a=>by obtain⟨p,c,rfl⟩:=ee.1 a;exact ee.2 ⟨p,(iF.1 c).1,ρ⟩⟩
 | succ k b=>exact⟨uU (rZ h) _ _ b.1,λx a=>zU a b.2⟩
def Dj(fn:aY):Prop:=∀web:ay,bI web->dC web->fn [az web]=ac (.D<|.bl (web.all λp=>bd<|p.1∈cM web web.length))
def UP(T:Txt mg)(F:a9 K "_law_come_to" "_law_come_to" yC f u):∃fn,aS P w K mg base bb 1 f u ["_law_rows"] (aG K fn)/\Dj fn:=by
 refine' bW F Dn (n:=1) ρ ?J ?B
 case J=>have nd:=Dn.nd;have fz:ik "_law_rows":=⟨trivial⟩;walk_at "h"
 clear T F;intro web h sh;have bz:=h.bz;have sz:web.length<=sizeLine:=by unfold eu;lia
 have L:(bS web).map (λk=>Dat.str k.1)=web.map λp=>Dat.str p.1:=by unfold bS;rw[hG];rfl
 refine' cA ρ ?w;show WS _ [.D (az web),.no,.no,.no] _;refine' af (aD (δ2:=[.D (az web),.O<|.L<|(dw web 0).map .str,.no,.no]) (fN (enc:=λp:eT×List eT=>.str p.1) (xs:=web) (λp=>[.no,.D<|.str p.1,.D<|az web]) (λp=>p.2.any λn=>!bd (n∈web.map (·.1))) (λp=>.str p.1) ?M ρ sz ?N ?O ?Q ?R) ?S<|ai ?U)
 case M=>show ac ((bS web).map λk=>Dat.str k.1,_)=_;rw[L]
 case N=>intro y o δ hd;rcases hd with rfl|⟨z,rfl⟩<;>rfl
 case O =>
  intro p j;refine' (aE (ak (ag (aB (aa (ag (fN (enc:=Dat.str) (xs:=p.2) (λn=>[.no,.D<|.str n,.D<|az web]) (λn=>!bd (n∈web.map (·.1))) Dat.str (bU<|dE ρ ρ<|dG h.nd j) ρ (by have:=h.len j;unfold eu;omega) ?V (λn e=>aE<|ak ρ ρ<|gQ web n true) (λn e _=>rfl) λn e=>rfl) ρ) ah) ρ) ρ) ρ<|iY ρ)).trans ?W
  case V=>intro y o δ hd;rcases hd with rfl|⟨z,rfl⟩<;>rfl
  congr 2;rw[nF];simp[List.length_pos_iff_exists_mem,bZ]
 case Q=>intro p j _;rfl
 case R=>intro p j;rfl
 case S=>unfold dw sM;rw[hG];rfl
 have ok:∀k,(dw web k).Nodup/\∀x∈dw web k,x∈web.map (·.1):=Ov h;refine' af<|cN (λn δ=>∃a l b,Hd a (.L<|(dw web n).map .str)/\Fr l/\Fr b/\δ=[.D (az web),a,l,b]) (Gx (n:=web.length) (aa (cu ρ<|congrArg ac<|ax ..) ah) ∅) ⟨_,_,_,ι ρ,ι ρ,ι ρ,ρ⟩ ?st ?C
 case C=>rintro _ ⟨a,l,b,c,_,_,rfl⟩;rw[ax,kL] at c;refine ai<|af<|aZ (ak (cu (n:=(dw web web.length).length) (by rcases c with rfl|rfl<;>rfl) (by simp[bZ])) (cu (n:=web.length) ρ<|congrArg ac<|ax ..)<|eq_int _ _)<|bO<|gv ?_;rw[nF,<-Mk h sh,decide_eq_true_eq];omega
 rintro n y o _ ⟨a,l,b,c,X,g,rfl⟩;refine⟨[.D (az web),a,.D y,b],by rcases X with rfl|⟨d,rfl⟩<;>rfl,?_⟩;refine' af<|cN (λm δ=>∃a b,Hd a (.L<|(((dw web n).take m).foldl (ij web) (dw web n)).map .str)/\Fr b/\δ=[.D (az web),a,.D y,b]) (bU<|ag (aB (aa (d:=.L<|(dw web n).map .str) (by rcases c with rfl|rfl<;>rfl) ah) ρ) ρ) ⟨_,_,τ ρ,g,ρ⟩ ?D ?fin2
 case fin2=>rintro _ ⟨a,b,c,g,rfl⟩;rw[ax,mv] at c;exact ai<|aw ⟨a,_,b,c,τ ⟨y,ρ⟩,g,ρ⟩
 rintro m z v _ ⟨a,b,c,g,rfl⟩;rw[ez] at v;obtain⟨r,G,rfl⟩:=gj.1 v;obtain⟨q,i,rfl⟩:=ee.1<|(ok n).2 r (fB G);have Y:=uU (rZ h) ((dw web n).take m) _ (ok n).1;have I:∀x∈((dw web n).take m).foldl (ij web) (dw web n),x∈web.map (·.1):=λx t=>zU t (ok n).2;have Z:=mR Y I;rw[ax] at Z;rw[cZ G,abD];show ∃δ1,_/\WS _ δ1 (tM (fun δ=>∃a b,Hd a (.L<|(ij web (((dw web n).take m).foldl (ij web) (dw web n)) q.1).map .str)/\Fr b/\δ=[.D (az web),a,.D y,b]) _);generalize ((dw web n).take m).foldl (ij web) (dw web n)=F at *;have tF:∀x∈F,bh x:=λx t=>h.txt<|ι<|I x t;refine⟨[.D (az web),a,.D y,.D<|.str q.1],by rcases g with rfl|⟨d,rfl⟩<;>rfl,?_⟩;refine' af (aD (ak (by rcases c with rfl|rfl<;>rfl) (ag (fN (λn=>[.no,.D<|.str n,.D<|.L<|F.map .str,.D<|az web]) (λn=>bd (n∈web.map (·.1))&&!bd (n∈F)) Dat.str (bU<|dE ρ ρ<|dG h.nd i) ρ (by have:=h.len i;unfold eu;omega) ?c2 ?c3 (λn e _=>rfl) λn e=>rfl) ρ)<|kG ?c4) ?c5<|ai<|aw ⟨_,_,ι ρ,τ ⟨_,ρ⟩,ρ⟩)
 case c2=>intro y o δ hd;rcases hd with rfl|⟨z,rfl⟩<;>rfl
 case c3=>intro n e;exact jD (aE<|ak ρ ρ<|gQ web n false)<|aE<|ak ρ ρ<|dU tF (h.txt ((h.rg q i).2.2 n e).1) true
 case c4=>have:=qp (λn=>bd (n∈web.map (·.1))&&!bd (n∈F)) q.2;have:=h.len i;rw[ax,ax];unfold eu;omega
 unfold ij;rw[cE h.nd i,hI];rfl
theorem HP [DecidableEq b]:∀(l a:List (List b)),a.Nodup->(l.foldl iR a).Nodup/\∀k,k∈l.foldl iR a ↔ k∈a\/k∈l
 | [],a,h=>⟨h,λk=>by simp⟩
 | x::l,a,h=>by
  have c:(iR a x).Nodup/\∀k,k∈iR a x ↔ k∈a\/k=x:=by
   delta iR;split
   ·rename_i hm;exact⟨h,λk=>⟨ι,λz=>z.elim id λe=>e ▸ hm⟩⟩
   rename_i hm;exact⟨zb.2 ⟨h,⋯,λy d z f e=>hm (by rw[<-kH.1 f,<-e];exact d)⟩,λk=>by simp⟩
  obtain⟨g,i⟩:=HP l (iR a x) c.1;refine⟨g,λk=>?_⟩;rw[aa',i k,c.2 k,hO,or_assoc]
def HJ{fs d:List (List eT)}(nd:d.Nodup)(h:∀k,k∈d ↔ k∈fs):eE fs=d.length:=by
 have inj:∀a b:List eT,(a.map pl:List Key)=b.map pl->a=b:=λa b e=>(abq (f:=(pl:eT->Key)) λ_ _ z=>Sum.inr.inj z).1 e;have e:(hM fs.length).map (λi=>(((fs[i]?).getD []).map pl:List Key))=fs.map λf=>f.map pl:=by
  apply abE;intro i;rw[ez,ez];by_cases c:i<fs.length
  ·simp[c]
  rw[ZN (by simpa using c),ZN (by simpa using c)];rfl
 delta eE eX;rw[e];obtain⟨l,m⟩:=HP (fs.map λf=>(f.map pl:List Key)) [] .nil;have p:(agF iR [] (fs.map λf=>(f.map pl:List Key))).Perm (d.map λf=>f.map pl):=by
  refine (abo l<|ox.2 (nd.imp λj z=>j<|inj _ _ z)).2 λk=>?_;rw[m k,ee,ee];constructor
  ·rintro (z|⟨f,g,rfl⟩)
   ·cases z
   exact⟨f,(h f).2 g,ρ⟩
  rintro⟨f,g,rfl⟩;exact τ ⟨f,(h f).1 g,ρ⟩
 rw[p.length_eq,ax]
def Df(fs):eE fs<=fs.length:=zJ _ _
def fH(web:ay):List (List eT):=web.flatMap λp=>p.2.map λn=>bj [p.1,n]
def qK (h:bj [a,b]=bj [c,d]):(a=c/\b=d)\/(a=d/\b=c):=by
 have p:=NM.1 h;have e:a=c\/a=d:=by simpa using p.mem_iff.1 eN
 rcases e with rfl|rfl
 ·exact ι ⟨ρ,by simpa using ada.1 (ack p)⟩
 exact τ ⟨ρ,by simpa using ada.1 (ack<|p.trans<|.swap _ _ _)⟩
def Rn (h:bI web)(sh:dC web):eE (fH web)=dI web:=by
 have nd:=h.nd;have nr:∀x∈web.map (·.1),(cn web x).Nodup:=λx _=>rZ h x;have lt:∀{a b:eT},a≠b->jt a b=!jt b a:=λ{a b}=>Hr;have s:∀{x n},x∈web.map (·.1)->n∈cn web x->(n∈web.map (·.1)\/n∈aQ)/\n≠x:=λ{x n} c d=>by obtain⟨p,g,rfl⟩:=ee.1 c;rw[cE nd g] at d;exact (h.rg p g).2.2 n d
 have u:∀{x n},x∈web.map (·.1)->n∈web.map (·.1)->fZ x n=bi->fZ n x=bi->x≠n->False:=λ{x n} c d v A ne=>by delta fZ at v A;rw[h.lu d,O1] at v;rw[h.lu c,O1,lt ne.symm,v] at A;cases A
 have e:(jV (web.map (·.1)) (cn web) fZ).length=dI web:=by rw[G5];rw[sG];exact i7 λp g=>by rw[cE nd g]
 rw[<-e,<-ax (f:=λp:eT×eT=>bj [p.1,p.2])];refine HJ (ox.2 ((CL nd nr).imp_of_mem λ{p q} g o B z=>?_)) λk=>?_
 ·obtain⟨x,n⟩:=p;obtain⟨y,m⟩:=q;obtain⟨c,d,D⟩:=md.1 g;obtain⟨E,hm,F⟩:=md.1 o;rcases qK z with⟨i,j⟩|⟨i,j⟩
  ·dsimp only at i j;exact B (by rw[i,j])
  dsimp only at i j;subst i;subst j;exact u c E D F (s c d).2.symm
 delta fH;rw[ee,L1];constructor
 ·rintro⟨⟨x,n⟩,g,rfl⟩;obtain⟨c,d,_⟩:=md.1 g;obtain⟨p,r,rfl⟩:=ee.1 c;rw[cE nd r] at d;exact⟨p,r,ee.2 ⟨n,d,ρ⟩⟩
 rintro⟨p,g,G⟩;obtain⟨n,d,rfl⟩:=ee.1 G;have c:p.1∈web.map (·.1):=ee.2 ⟨p,g,ρ⟩;have l:n∈cn web p.1:=by rw[cE nd g];exact d
 by_cases t:fZ p.1 n=bi
 ·exact⟨(p.1,n),md.2 ⟨c,l,t⟩,ρ⟩
 rw[Z9] at t;delta fZ at t;simp at t;have C:n∈web.map (·.1):=(s c l).1.resolve_right λz=>by rw[(dZ n).2 z] at t;cases t.1
 obtain⟨q,o,rfl⟩:=ee.1 C;refine⟨(q.1,p.1),md.2 ⟨C,by rw[cE nd o];exact sh p g q o d,?_⟩,xG<|.swap _ _ _⟩;delta fZ;rw[lt (s c l).2,t.2];simp
def TJ(web):eE ((bY web).map bj)=(dv<|(aO web).map bj).length:=by obtain⟨k1,k2⟩:=IA<|(aO web).map bj;refine HJ k2 λk=>?_;rw[k1,ee,ee];exact⟨λ⟨c,a,e⟩=>⟨c,rK.2 a,e⟩,λ⟨c,a,e⟩=>⟨c,rK.1 a,e⟩⟩
def Sf (h:bI web)(bz:web.length<=7):∀p∈web,p.2.length<=10:=λp a=>by
 have r:=h.rg p a;have c:p.1∈web.map (·.1):=ee.2 ⟨p,a,ρ⟩;have:=rS (m:=(web.map (·.1)).erase p.1++aQ) r.2.1 λn b=>by
  rcases (r.2.2 n b).1 with d|hw
  ·exact z6 _<|(aa4 (r.2.2 n b).2).2 d
  exact pL _ hw
 rw[gd,aaC c,ax] at this;have:aQ.length=4:=ρ;omega
theorem GO (h:∀p∈web,p.2.length<=10):(fH web).length<=10*web.length:=by
 delta fH;induction web with
 | nil=>simp
 | cons p l a=>have h1:=h p eN;have:=a λq b=>h q<|fk _ b;simp only[aal,gd,ax,gk];lia
theorem Ld (h:∀p∈web,p.2.length<=10):(bY web).length<=10*web.length:=by
 delta bY;induction web with
 | nil=>simp
 | cons p l a=>have h1:=h p eN;have:=a λq b=>h q<|fk _ b;simp only[aal,gd,ax,kL,gk];lia
theorem Cu:∀{fs:List (List eT)},(∀f∈fs,f≠[])->iT (fs.map tupS)=ac fs
 | [],_=>rfl
 | f::fs,h=>by
  have a:f.isEmpty=bv:=by
   cases f with
   | nil=>exact absurd ρ (h [] eN)
   | cons=>rfl
  show (dq<|f.map .str).bind _=_;rw[x6,aaN];show (if f.isEmpty=bi then am else (iT<|fs.map tupS).map (f::·))=_;rw[a,Cu λg b=>h g<|fk _ b];rfl
def CJ (h:f δ=ac (.L<|fs.map tupS,δ1))(a:∀f∈fs,f≠[])(b:eE fs<76):pz f δ=ac (.int (eE fs:Nat),δ1):=by delta pz;rw[h];show (iT<|fs.map tupS).bind _=_;rw[Cu a];exact if_pos b
def BM (h:l≠[]):bj l≠[]:=λe=>h<|adN.1 (by rw[<-(show (bj l).length=l.length from (jn l cY).length_eq),e];rfl)
structure S6 (web:ay) (p:eT×List eT):Prop where
 nw:p.1∉aQ
 l3:3<=p.2.length
 nd:p.2.Nodup
 ir:p.1∉p.2
 mm:∀n∈p.2,(n∈web.map (·.1)\/n∈aQ)/\∀q∈web,q.1=n->p.1∈q.2
def B0(fn:aY):Prop:=∀web:ay,Named web->∃b,fn [.L (web.map pairD)]=ac (.D<|.bl b)/\(b=bi ↔ GoodW web)
theorem K4(T:Txt mg)(hs:mg "set"=am){Vv Vw S Vx:aY}(q1:ba P w K mg base "_law_corners" 1 (aG K Vv))(s1:E7 Vv)(q2:ba P w K mg base "_law_fits" 2 (aG K Vw))(s2:BU Vw)(q3:ba P w K mg base "_law_in_row" 2 (aG K S))(s3:F9 S)(q4:ba P w K mg base "_law_come_to" 1 (aG K Vx))(s4:Dj Vx)
 {f:eH}{fd:hU}(F:a9 K "_law_is_web" "_law_is_web" wZ f fd):∃fn,aS P w K mg base bb 3 f fd ["_law_web_here"] (aG K fn)/\B0 fn:=by
 refine' bW F BC ρ ?X ?post
 case X=>intro cdv A outer s H E u;have nd:=BC.nd;cases T;have hh:tH "_law_rows":=⟨trivial⟩;have fz:ik "_law_rows":=⟨trivial⟩;have su:Gb "_law_corner":=⟨trivial⟩;have ls:GA "_law_row":=⟨trivial⟩;walk_at "S"
 intro web h;have bz:=h.bz;obtain⟨b,X⟩:∃b:Bool,b=bi ↔ GoodW web:=⟨@decide _<|Z0 _,@decide_eq_true_iff _<|Z0 _⟩;refine⟨b,?_,X⟩;have no:¬GoodW web->∀δ,∃δ',Out.ret (.D<|.bl false) δ=Out.ret (.D<|.bl b) δ':=fun z δ=>⟨δ,by rw[show b=bv from qo.2 fun y=>z<|X.1 y]⟩;have kl:(bS web).length=web.length:=ax ..;have w4:4<=sizeLine:=∅
 have tn:∀p∈web,bh p.1:=fun p t=>qR<|h.nm p t;have lw:bZ (.L<|web.map pairD)=ac web.length:=by simp[bZ]
 refine' cA ρ ?w;show WS _ [.D (.L<|web.map pairD),.no,.no,.no,.no,.no,.no,.no,.no] _;refine' af<|aD (r:=.D<|az web) (δ1:=[.D (.L<|web.map pairD),.no,.no,.no,.no,.no,.no,.no,.no]) (δ2:=[.D (.L<|web.map pairD),.D<|az web,.no,.no,.no,.no,.no,.no,.no]) ?a ρ<|ai ?b
 case a=>unfold pA;rw[aB (aa ρ ah) (vd h.nd)];rfl
 refine' gz (jZ (aE<|ak (cu ρ<|congrArg ac kl) (cu ρ lw) ρ)<|jZ (aE<|ak (cu ρ lw) ρ ρ)<|aE<|ak (cu ρ lw) ρ<|iY ρ) ?z ?c
 case z=>simp;omega
 refine' af<|aD (bM (aa ρ<|aa ρ<|aa ρ<|aa ρ ah) w4) ρ<|ai ?_;refine' af<|cN (fun n δ=>(∀p∈web.take n,S6 web p)/\∃Q C D l,Hd Q (.L<|aQ.map .str)/\Fr C/\Fr D/\Fr l/\δ=[.D (.L<|web.map pairD),.D<|az web,Q,C,D,l,.no,.no,.no]) (bU ρ) ⟨⋯,_,_,_,_,ι rfl,ι rfl,ι rfl,ι rfl,rfl⟩ ?st ?U
 case st =>
  rintro n y I _ ⟨G,Q,C,D,l,h2,M,N,J,rfl⟩;rw[ez] at I;obtain⟨p,ep,rfl⟩:=gj.1 I;have t:=fB ep;have lp:bZ (.L<|p.2.map .str)=ac p.2.length:=by simp[bZ]
  have ln:=h.ln p t;refine⟨[.D (.L<|web.map pairD),.D<|az web,Q,.D<|.str p.1,.D<|.L<|p.2.map .str,l,.no,.no,.no],by rcases M with rfl|⟨d,rfl⟩<;>rcases N with rfl|⟨d,rfl⟩<;>rfl,?_⟩;refine af (bK (jZ (aE<|ak ρ (by rcases h2 with rfl|rfl<;>rfl)<|dU dY (tn p t) false)<|jZ (aE<|ak (cu ρ lp) ρ ρ)<|jZ (aE<|ak (yS id ρ ∅) (cu ρ lp) ρ)<|aE<|ak ρ ρ<|dU (h.tx p t) (tn p t) false) (fun z=>?_) fun z=>aw<|ai ?_)
  ·refine af (aZ ρ<|bO<|no (fun g=>?_) _);have r:=g.f.rg p t;have d:=(tZ p.2).2 r.2.1;have nw:p.1∉aQ:=fun z=>by have:=g.f.lu<|ee.2 ⟨p,t,ρ⟩;rw[(dZ _).2 z] at this;cases this
   have ir:p.1∉p.2:=fun z=>(r.2.2 _ z).2 ρ;have r1:=r.1;simp[nw,ir,d] at z;omega
  have z:(bd (p.1∈aQ)||(bd ((p.2.length:Int)<3)||(bd ((jR (p.2.map id):Int)<(p.2.length:Int))||bd (p.1∈p.2))))=bv:=z
  simp only[acp,decide_eq_false_iff_not,agf] at z;obtain⟨z1,z2,z3,z4⟩:=z;have VE:p.2.Nodup:=(tZ p.2).1 (by have:jR p.2<=p.2.length:=uA _ _;omega)
  refine' af (cN (fun m δ=>(∀n∈p.2.take m,(n∈web.map (·.1)\/n∈aQ)/\∀q∈web,q.1=n->p.1∈q.2)/\∃l,Fr l/\δ=[.D (.L<|web.map pairD),.D<|az web,.D<|.L<|aQ.map .str,.D<|.str p.1,.D<|.L<|p.2.map .str,l,.no,.no,.no]) (bU ρ) ⟨⋯,l,J,rfl⟩ ?st2 ?fin2)
  case fin2 =>
   rintro _ ⟨ok,l,J,rfl⟩;rw[ax,mv] at ok;refine ai<|aw ⟨fun q o=>?_,_,_,_,_,τ ρ,τ ⟨_,ρ⟩,τ ⟨_,ρ⟩,J,ρ⟩;rw[cZ ep] at o;rcases hY.1 o with o|o
   ·exact G q o
   rw[kH.1 o];exact⟨z1,∅,VE,z4,ok⟩
  rintro m y I _ ⟨ok,l,J,rfl⟩;rw[ez] at I;obtain⟨n,en,rfl⟩:=gj.1 I;have i:=fB en;have tx:=h.tx p t n i;refine⟨[.D (.L<|web.map pairD),.D<|az web,.D<|.L<|aQ.map .str,.D<|.str p.1,.D<|.L<|p.2.map .str,.D<|.str n,.no,.no,.no],by rcases J with rfl|⟨d,rfl⟩<;>rfl,?_⟩;have e2:∃B:Bool,(n∈web.map (·.1)->eM (cO (fx true) (cS 3)<|mY 1<|cS 5) [.D (.L<|web.map pairD),.D<|az web,.D<|.L<|aQ.map .str,.D<|.str p.1,.D<|.L<|p.2.map .str,.D<|.str n,.no,.no,.no]=ac (B,[.D (.L<|web.map pairD),.D<|az web,.D<|.L<|aQ.map .str,.D<|.str p.1,.D<|.L<|p.2.map .str,.D<|.str n,.no,.no,.no]))/\(n∈web.map (·.1)->(B=bv ↔ ∀q∈web,q.1=n->p.1∈q.2)):=by
   by_cases u:n∈web.map (·.1)
   ·obtain⟨q,o,rfl⟩:=ee.1 u;refine⟨!bd (p.1∈q.2),fun _=>aE<|ak ρ (dE ρ ρ<|dG h.nd o)<|dU (h.tx q o) (tn p t) true,fun _=>?_⟩;simp only[aaG,decide_eq_true_eq];exact⟨fun a q' VG e=>by rw[lS h.nd VG o e];exact a,fun a=>a q o ρ⟩
   exact⟨false,fun z=>absurd z u,fun z=>absurd z u⟩
  obtain⟨B,e2,e3⟩:=e2;refine af (bK (jZ (jD (aE<|ak ρ ρ<|gQ web n true)<|aE<|ak ρ ρ<|dU dY tx true) (qj (aE<|ak ρ ρ<|gQ web n false) fun z=>e2<|of_decide_eq_true z)) (fun z=>?_) fun z=>aw<|ai<|aw ⟨fun n' L=>?_,_,τ ⟨_,ρ⟩,ρ⟩)
  ·refine af (aZ ρ<|bO<|no (fun g=>?_) _);have z:((!bd (n∈web.map (·.1))&&!bd (n∈aQ))||(bd (n∈web.map (·.1))&&B))=bi:=z;have hm:=((g.f.rg p t).2.2 n i).1;by_cases u:n∈web.map (·.1)
   ·have bf:=(e3 u).2 fun q o e=>g.sh p t q o (e ▸ i);rw[decide_eq_true u,bf] at z;cases z
   rw[decide_eq_false u,decide_eq_true<|hm.resolve_left u] at z;cases z
  have z:((!bd (n∈web.map (·.1))&&!bd (n∈aQ))||(bd (n∈web.map (·.1))&&B))=bv:=z;rw[cZ en] at L;rcases hY.1 L with L|L
  ·exact ok n' L
  rw[kH.1 L];by_cases u:n∈web.map (·.1)
  ·rw[decide_eq_true u] at z;exact⟨ι u,(e3 u).1 (by simpa using z)⟩
  rw[decide_eq_false u] at z;exact⟨τ (by simpa using z),fun q o e=>absurd (e ▸ ee.2 ⟨q,o,ρ⟩) u⟩
 rintro _ ⟨G,Q,C,D,l,h2,M,N,J,rfl⟩;rw[ax,mv] at G;have R:bI web:=⟨⟨bz.1,∅⟩,h.nm,h.nd,fun p t=>⟨(G p t).l3,(G p t).nd,fun n i=>⟨((G p t).mm n i).1,fun e=>(G p t).ir (e ▸ i)⟩⟩⟩;have hS:dC web:=fun p t q o i=>((G p t).mm q.1 i).2 q o ρ;clear G;refine ai ?_;refine' af<|aD (aB (aa ρ ah)<|s1 web ∅ h.ln) ρ<|ai ?_;have Vs:∀c∈bY web,∃x n m,c=[x,n,m]/\x∈web.map (·.1)/\n∈cn web x/\m∈cn web x:=fun c v=>by have V:=v;unfold bY at V;obtain⟨p,t,V⟩:=L1.1 V;obtain⟨k,_,rfl⟩:=ee.1 V;have:=(mf R).1 (rK.1 v);exact⟨_,_,_,ρ,this.1,this.2.mem.1,this.2.mem.2⟩
 have lC:(bY web).length<=2500:=px (xl web h.ln) ∅;refine' af (bK (δ1:=[.D (.L<|web.map pairD),.D<|az web,Q,C,D,l,.D<|.L<|(bY web).map tupS,.no,.no]) (aE<|ak (ag (aB (aa (ag (fN (enc:=tupS) (xs:=bY web) (fun c=>[.no,.D<|tupS c,.D<|az web]) (fun c=>!il (aO web) c) tupS (bU ρ) ?d1 ∅ ?d2 ?d3 (fun n i _=>rfl) fun n i=>rfl) ρ) ah) ρ) ρ) ρ<|iY ρ) (fun z=>?d5) fun z=>aw<|ai ?d6)
 case d1=>rcases h2 with rfl|rfl<;>rcases M with rfl|⟨d,rfl⟩<;>rcases N with rfl|⟨d,rfl⟩<;>rcases J with rfl|⟨d,rfl⟩<;>rfl
 case d2=>intro y I δ hd;rcases hd with rfl|⟨z,rfl⟩<;>rfl
 case d3=>intro c v;obtain⟨x,n,m,rfl,hx,i,hm⟩:=Vs c v;exact jh<|fY (ag (aB (aa ρ<|aa ρ ah)<|s2 web x n m R hx i hm) ρ) ρ
 case d5=>refine af<|aZ ρ<|bO<|no (fun g=>?_) _;have z:bd ((0:Int)<((((bY web).filter fun c=>!il (aO web) c).map tupS).length:Int))=bi:=z;rw[ax,decide_eq_true_eq] at z;obtain⟨c,v⟩:=aa6<|agg.1 z;obtain⟨v,hz⟩:=iF.1 v;rw[hE.1 g.cl c (rK.1 v)] at hz;cases hz
 have v:(aO web).all (il<|aO web)=bi:=hE.2 fun c v=>by
  have z:bd ((0:Int)<((((bY web).filter fun c=>!il (aO web) c).map tupS).length:Int))=bv:=z;rw[ax,decide_eq_false_iff_not] at z;cases o:il (aO web) c with
  | true=>rfl
  | false=>have:=WG<|iF (p:=fun c=>!il (aO web) c) |>.mpr ⟨rK.2 v,by rw[o];rfl⟩;omega
 have u:∀n∈aQ,∃b,S [az web,.str n]=ac (.D<|.bl b)/\∃k,k<4/\n=ao k/\(b=bi ↔ kA web k):=fun n i=>by obtain⟨k,O,rfl⟩:=oI i;obtain⟨b,e,q⟩:=s3 web k O R v;exact⟨b,e,k,O,ρ,q⟩
 have Y:∃B:eT->Bool,∀n∈aQ,S [az web,.str n]=ac (.D<|.bl<|B n)/\∃k,k<4/\n=ao k/\(B n=bi ↔ kA web k):=by refine⟨fun n=>if i:n∈aQ then (u n i).choose else false,fun n i=>?_⟩;simp only[i,dite_true];exact (u n i).choose_spec
 obtain⟨B,Y⟩:=Y;refine' af (bK (δ1:=[.D (.L<|web.map pairD),.D<|az web,.D<|.L<|aQ.map .str,C,D,l,.D<|.L<|(bY web).map tupS,.no,.no]) (jZ (aE<|ak (ag (aB (aa (ag (fN (enc:=Dat.str) (xs:=aQ) (fun n=>[.no,.D<|.str n,.D<|az web]) (fun n=>!B n) Dat.str (bU (δ1:=[.D (.L<|web.map pairD),.D<|az web,.D<|.L<|aQ.map .str,C,D,l,.D<|.L<|(bY web).map tupS,.no,.no]) (by rcases h2 with rfl|rfl<;>rfl)) ?e1 w4 ?e2 ?e3 (fun n i _=>rfl) fun n i=>rfl) ρ) ah) ρ) ρ) ρ<|iY ρ)<|jh<|fY (ag (aB (aa ρ ah)<|s4 web R hS) ρ) ρ) (fun z=>?e5) fun z=>aw<|ai ?e6)
 case e1=>rcases M with rfl|⟨d,rfl⟩<;>rcases N with rfl|⟨d,rfl⟩<;>rcases J with rfl|⟨d,rfl⟩<;>rfl
 case e2=>intro y I δ hd;rcases hd with rfl|⟨z,rfl⟩<;>rfl
 case e3=>intro n i;exact jh<|fY (ag (aB (aa ρ<|aa ρ ah) (Y n i).1) ρ) ρ
 case e5=>refine af<|aZ ρ<|bO<|no (fun g=>?_) _;have z:(bd ((0:Int)<(((aQ.filter fun n=>!B n).map Dat.str).length:Int))||!(web.all fun p=>bd<|p.1∈cM web web.length))=bi:=z;rw[g.qG,acz,Bool.or_false,ax,decide_eq_true_eq] at z;obtain⟨n,i⟩:=aa6<|agg.1 z;obtain⟨i,hz⟩:=iF.1 i;obtain⟨k,O,_,q⟩:=(Y n i).2;rw[q.2 (g.row k O)] at hz;cases hz
 have z:(bd ((0:Int)<(((aQ.filter fun n=>!B n).map Dat.str).length:Int))||!(web.all fun p=>bd<|p.1∈cM web web.length))=bv:=z;rw[acp,aaG,ax,decide_eq_false_iff_not] at z;have row:∀k,k<4->kA web k:=fun k O=>by
  obtain⟨j,hj,e,q⟩:=(Y _<|di O).2;rw[Dd O hj e];refine q.1 ?_;cases o:B (ao k) with
  | true=>rfl
  | false=>have:=WG<|iF (p:=fun n=>!B n) |>.mpr ⟨di O,by rw[o];rfl⟩;omega
 have qG:=z.2;have U:b=bd ((eE ((bY web).map bj):Int)=(eE (fH web):Int)-(web.length:Int)+1):=by
  rw[TJ,Rn R hS,nF,X,decide_eq_true_eq];constructor
  ·intro g;have:=g.th;omega
  intro e;exact⟨R,hS,v,row,qG,∅⟩
 clear Y u no row qG;rw[U];clear U X;have W:=Sf R bz.2;refine' af<|aD (bM ah<|pe _) ρ<|ai ?_;refine' af<|cN (fun n δ=>∃C D,Fr C/\Fr D/\δ=[.D (.L<|web.map pairD),.D<|az web,.D<|.L<|aQ.map .str,C,D,l,.D<|.L<|(bY web).map tupS,.O<|.L<|(fH<|web.take n).map tupS,.no]) (bU ρ) ⟨_,_,M,N,ρ⟩ ?g1 ?g2
 case g1 =>
  rintro n y I _ ⟨C,D,M,N,rfl⟩;rw[ez] at I;obtain⟨p,ep,rfl⟩:=gj.1 I;have t:=fB ep;have lp:=W p t;have l1:=GO (web:=web.take n) fun q o=>W q<|ZY o;rw[l5] at l1;refine⟨[.D (.L<|web.map pairD),.D<|az web,.D<|.L<|aQ.map .str,.D<|.str p.1,.D<|.L<|p.2.map .str,l,.D<|.L<|(bY web).map tupS,.O<|.L<|(fH<|web.take n).map tupS,.no],by rcases M with rfl|⟨d,rfl⟩<;>rcases N with rfl|⟨d,rfl⟩<;>rfl,?_⟩;have et:fH (web.take<|n+1)=fH (web.take n)++p.2.map fun n=>bj [p.1,n]:=by unfold fH;rw[cZ ep,abe];simp
  rw[et,hI,hG];generalize fH (web.take n)=A at *;refine' af<|aD (δ2:=[.D (.L<|web.map pairD),.D<|az web,.D<|.L<|aQ.map .str,.D<|.str p.1,.D<|.L<|p.2.map .str,l,.D<|.L<|(bY web).map tupS,.O<|.L (A.map tupS++p.2.map fun n=>tupS<|bj [p.1,n]),.no]) (ak (δ1:=[.D (.L<|web.map pairD),.D<|az web,.D<|.L<|aQ.map .str,.D<|.str p.1,.D<|.L<|p.2.map .str,l,.D<|.L<|(bY web).map tupS,.D<|.L<|A.map tupS,.no]) ρ (ag (dX (enc:=Dat.str) (xs:=p.2) (δ2:=[.D (.L<|web.map pairD),.D<|az web,.D<|.L<|aQ.map .str,.D<|.str p.1,.D<|.L<|p.2.map .str,l,.D<|.L<|(bY web).map tupS,.D<|.L<|A.map tupS,.no]) (fun n=>[.no,.D<|.str n,.D<|.str p.1]) (fun n=>tupS<|bj [p.1,n]) (bU ρ) ?i1 ∅ ?i2 ?i3<|fun _ _=>rfl) ρ)<|kG ?i4) ρ<|ai<|aw ⟨_,_,τ ⟨_,ρ⟩,τ ⟨_,ρ⟩,ρ⟩
  case i1=>rcases J with rfl|⟨d,rfl⟩<;>rfl
  case i2=>intro y I δ hd;rcases hd with rfl|⟨z,rfl⟩<;>rfl
  case i3=>intro n i;exact ag (aB (aa (ag (aB (aa (ag (bM (aa ρ<|aa ρ ah) (by show 2<=eu;unfold eu;decide)) ρ) ah) ρ) ρ) ah) ρ) ρ
  rw[ax,ax];unfold eu;omega
 rintro _ ⟨C,D,M,N,rfl⟩;rw[ax,mv];refine ai ?_;have t1:=GO W;have Q:=Ld W;refine' af<|aD (δ2:=[.D (.L<|web.map pairD),.D<|az web,.D<|.L<|aQ.map .str,C,D,l,.D<|.L<|(bY web).map tupS,.O<|.L<|(fH web).map tupS,.O<|.L ((bY web).map fun c=>tupS<|bj c)]) (dX (enc:=tupS) (xs:=bY web) (δ2:=[.D (.L<|web.map pairD),.D<|az web,.D<|.L<|aQ.map .str,C,D,l,.D<|.L<|(bY web).map tupS,.O<|.L<|(fH web).map tupS,.no]) (fun c=>[.no,.D<|tupS c]) (fun c=>tupS<|bj c) (bU ρ) ?j1 ∅ ?j2 ?j3<|fun _ _=>rfl) ρ<|ai ?_
 case j1=>rcases M with rfl|⟨d,rfl⟩<;>rcases N with rfl|⟨d,rfl⟩<;>rcases J with rfl|⟨d,rfl⟩<;>rfl
 case j2=>intro y I δ hd;rcases hd with rfl|⟨z,rfl⟩<;>rfl
 case j3=>intro c v;obtain⟨x,n,m,rfl,_⟩:=Vs c v;exact ag (aB (aa (ag (aB (aa ρ ah) ρ) ρ) ah) ρ) ρ
 refine af<|aZ (ak (CJ (fs:=(bY web).map bj) (δ1:=[.D (.L<|web.map pairD),.D<|az web,.D<|.L<|aQ.map .str,C,D,l,.D<|.L<|(bY web).map tupS,.O<|.L<|(fH web).map tupS,.D<|.L ((bY web).map fun c=>tupS<|bj c)]) (by rw[hG];rfl) ?_ ?_) (ag (ak (ag (ak (CJ (fs:=fH web) (δ1:=[.D (.L<|web.map pairD),.D<|az web,.D<|.L<|aQ.map .str,C,D,l,.D<|.L<|(bY web).map tupS,.D<|.L<|(fH web).map tupS,.D<|.L ((bY web).map fun c=>tupS<|bj c)]) ρ ?_ ?_) (cu ρ<|congrArg ac kl)<|iY ρ) ρ) ρ ρ) ρ)<|eq_int _ _)<|bO ⟨_,ρ⟩
 ·intro f Z;obtain⟨c,v,rfl⟩:=ee.1 Z;obtain⟨x,n,m,rfl,_⟩:=Vs c v;exact BM ⋯
 ·have:=Df<|(bY web).map bj;rw[ax] at this;omega
 ·intro f Z;unfold fH at Z;obtain⟨p,_,Z⟩:=L1.1 Z;obtain⟨n,_,rfl⟩:=ee.1 Z;exact BM ⋯
 have:=Df<|fH web;omega
def Ek(C:eH)(fn:fE):Prop:=∀(web:ay) (rows:List bJ),Named web->(∀t∈rows,fG t)->rows.length<=1000->(¬GoodW web->fn [.L (web.map pairD),.L<|rows.map ar]=ac (.exc C))/\(GoodW web->fn [.L (web.map pairD),.L<|rows.map ar]=ac (.ok<|.D<|.bl<|dO web rows))
def PD(T:Txt mg)(o:jg P w K mg base "must_web" 4 (gS K d))(q:Gr exc d)(t:ba P w K mg base "ties_of" 1 (aG K i))(u:Ac i)(v:ba P w K mg base "stands_round" 3 (aG K j))(x:Hy j)(F:a9 K "is_tinting" "is_tinting" zj f k):∃fn,aS P w K mg base (dP P w) 5 f k ["web","rows"] (gS K fn)/\Ek (exc 0) fn:=by
 refine' sR F AB ρ ?D ?B
 case D=>intro cdv A outer s H E l;cases T;have hl:tH "rings":=⟨trivial⟩;have fz:ik "rings":=⟨trivial⟩;walk_at "X"
 intro web rows G l hz;obtain⟨a,m,z⟩:=q _ G;refine⟨λI=>?_,λg=>?_⟩
 ·obtain⟨_,rfl⟩:=z.resolve_left λy=>I y.1;refine' mZ ρ ?w
  case w=>refine af ⟨.exc (exc 0) [.D (.L<|web.map pairD),.D<|.L<|rows.map ar,.no],?_,τ ⟨_,_,ρ,ρ⟩⟩;show (d [.L (web.map pairD)]).bind _=_;rw[m];rfl
 obtain⟨_,rfl⟩:=z.resolve_right λy=>y.1 g;have h:=g.f;have bz:=h.bz;obtain⟨_,J,ds,rfl,hd⟩:=u web h;have lr:bZ (.L<|rows.map ar)=ac rows.length:=by simp[bZ]
 refine' mZ ρ ?w
 case w =>
  refine af ⟨.next [.D (.L<|web.map pairD),.D<|.L<|rows.map ar,.no],?_,ai ?_⟩
  ·show (d [.L (web.map pairD)]).bind _=_;rw[m];rfl
  refine' af<|i9<|aD (r:=.D<|az web) (δ1:=[.D (.L<|web.map pairD),.D<|.L<|rows.map ar,.no]) ?a ρ<|ai ?b
  case a=>delta pA;rw[aB (aa ρ ah) (vd h.nd)];rfl
  refine' af<|bK (aE<|ak (cu ρ lr) (ag (aB (aa (ag (aB (aa ρ ah) J) ρ) ah) ρ) ρ) ?c) ?C ?no
  case c=>refine (ne_int _ _).trans ?_;have:bd ((rows.length:Int)=(ds.length:Int))=bd (rows.length=dI web):=decide_eq_decide.2 (by lia);rw[this]
  case C =>
   intro z;have z:bd (rows.length=dI web)=bv:=by simpa using z
   delta dO;rw[z];exact af<|i9<|aZ ρ<|ι ⟨_,_,ρ,ρ⟩
  intro z;have z:bd (rows.length=dI web)=bi:=by simpa using z
  delta dO;rw[z];refine' aw<|ai<|af<|i9<|aZ (aB (aa (ag (dX (enc:=λp:eT×List eT=>.str p.1) (λp=>[.no,.D<|.str p.1,.D<|az web,.D<|.L<|rows.map ar]) (λp=>.bl<|gY rows p.1 p.2) ?L ?M ?N ?O ?Q<|λ_ _=>rfl) ρ) ah)<|AE (λp:eT×List eT=>gY rows p.1 p.2) web)<|ι ⟨_,_,ρ,ρ⟩
  case L=>show ac ((bS web).map _,_)=_;unfold bS;rw[hG];rfl
  case M=>rfl
  case N=>unfold eu;omega
  case O=>rintro p _ δ (rfl|⟨y,rfl⟩)<;>rfl
  intro p e;exact ag (aB (aa ρ<|aa (dE ρ ρ<|dG h.nd e)<|aa ρ ah)<|x rows p.1 p.2 l (h.txt<|ι<|ee.2 ⟨p,e,ρ⟩) (λn R=>h.txt ((h.rg p e).2.2 n R).1) (by have:=h.len e;omega)) ρ
def oY(k:eT)(fn:aY):Prop:=∀x:eT,fn [.str x]=ac (.D<|.dM [x,k])
def MV (F:a9 K "low" "low" zK f a):∃fn,aS P w K mg base bb 1 f a ["name"] (aG K fn)/\oY "low" fn:=by
 refine' bW F ON ρ ?C ?B
 case C =>
  intro cdv A outer s H E hr;refine' tV (yY<|HU ?k1) vc
  case k1=>walk_at "U"
 intro x;exact cA ρ<|af<|aZ ρ ⟨_,ρ⟩
def LG (F:a9 K "high" "high" yJ f a):∃fn,aS P w K mg base bb 1 f a ["name"] (aG K fn)/\oY "high" fn:=by
 refine' bW F OL ρ ?C ?B
 case C =>
  intro cdv A outer s H E hr;refine' tV (yY<|HU ?k1) vc
  case k1=>walk_at "U"
 intro x;exact cA ρ<|af<|aZ ρ ⟨_,ρ⟩
abbrev lH:=List eT×List eT×Int
noncomputable def cQ(g:lH):Dat:=.U [.dM g.1,.dM g.2.1,.int g.2.2]
def mK(a:List (eT×Dat)):Prop:=∀k d,ck a k=ac d->∃i:Int,d=.int i
def wI(a:List (eT×Dat))(x:eT):Int:=match ck a x with
 | some (.int i)=>i
 | _=>1
theorem Qd (h:mK a)(x:eT):(ck a x).getD (.int 1)=.int (wI a x):=by
 delta wI;cases e:ck a x with
 | none=>rfl
 | some d=>obtain⟨i,rfl⟩:=h x d e;rfl
def sC(a:List (eT×Dat))(rooms:List eT):List lH:=rooms.map λx=>([x,"low"],[x,"high"],wI a x)
def Cz(fn:aY):Prop:=∀(rooms:List eT) (rows:List bJ) (way:eT) (b:List (eT×Dat)),(∀x∈rooms,bh x)->(∀t∈rows,fG t)->bh way->mK b->rooms.length<=50->rows.length<=1000 ->
 ∃r,fn [.L (rooms.map .str),.L<|rows.map ar,.str way,.a8 b]=ac r/\∃a:List lH,r=.O (.L<|a.map cQ)/\a.length<=3000/\∀x∈rooms,∃g∈a,g.1=[x,"low"]/\g.2.1=[x,"high"]
def Mo(T:Txt mg)(R:ba P w K mg base "low" 1 (aG K l))(S:oY "low" l)(U:ba P w K mg base "high" 1 (aG K m))(V:oY "high" m)(F:a9 K "gaps_along" "gaps_along" Ak f J):∃fn,aS P w K mg base bb 2 f J ["rooms","tinting","way","wishes"] (aG K fn)/\Cz fn:=by
 refine' bW F Hm ρ ?W ?D
 case W=>have nd:=Hm.nd;walk_at "h"
 clear T F R U;intro rooms rows way a tr X Y Z hl hz;refine' oj ρ ?w;show WS _ [.D (.L<|rooms.map .str),.D<|.L<|rows.map ar,.D<|.str way,.D<|.a8 a,.no,.no,.no,.no] _;have o:3<=sizeLine:=∅
 have p:∀(x:eT) {f:DF}{δ:DS},f δ=ac (.str x,δ)->fX (bV l<|fI f iy) δ=ac (.dM [x,"low"],δ):=λx f δ h=>ag (aB (aa h ah)<|S x) ρ;have r:∀(x:eT) {f:DF}{δ:DS},f δ=ac (.str x,δ)->fX (bV m<|fI f iy) δ=ac (.dM [x,"high"],δ):=λx f δ h=>ag (aB (aa h ah)<|V x) ρ;refine' af<|aD (δ2:=[.D (.L<|rooms.map .str),.D<|.L<|rows.map ar,.D<|.str way,.D<|.a8 a,.O<|.L<|(sC a rooms).map cQ,.no,.no,.no]) (dX (enc:=Dat.str) (xs:=rooms) (λx=>[.no,.D<|.str x,.D<|.a8 a]) (λx=>cQ ([x,"low"],[x,"high"],wI a x)) (bU ρ) ρ ∅ ?B ?a3<|λ_ _=>rfl) ?a4<|ai ?a5
 case B=>intro y G δ hd;rcases hd with rfl|⟨z,rfl⟩<;>rfl
 case a3=>intro x L;refine cw (aa (p x ρ)<|aa (r x ρ)<|aa ?_ ah) o;show ac ((ck a x).getD (.int 1),_)=_;rw[Qd Z]
 case a4=>unfold sC;rw[hG];rfl
 refine' af<|cN (λn δ=>∃(b:List lH) (i j k:Slot),b.length<=50+2*n/\(∀g∈sC a rooms,g∈b)/\Fr i/\Fr j/\Fr k/\δ=[.D (.L<|rooms.map .str),.D<|.L<|rows.map ar,.D<|.str way,.D<|.a8 a,.O<|.L<|b.map cQ,i,j,k]) (bU ρ) ⟨_,_,_,_,by unfold sC;rw[ax];omega,λ_ h=>h,ι ρ,ι ρ,ι ρ,ρ⟩ ?st ?M
 case M=>rintro _ ⟨b,i,j,k,N,v,_,_,_,rfl⟩;rw[ax] at N;refine ai<|af<|aZ ρ<|bO ⟨_,_,ρ,b,ρ,∅,λx L=>⟨_,v _<|ee.2 ⟨x,L,ρ⟩,ρ,ρ⟩⟩
 rintro n y G _ ⟨b,i,j,k,N,v,f5,f6,f7,rfl⟩;rw[ez] at G;obtain⟨t,O,rfl⟩:=gj.1 G;have ht:=fB O;have hn:=(bt.1 O).1;have ok:=X t ht;refine⟨[.D (.L<|rooms.map .str),.D<|.L<|rows.map ar,.D<|.str way,.D<|.a8 a,.O<|.L<|b.map cQ,.D<|.str t.1,.D<|.str t.2.1,.D<|.str t.2.2],by rcases f5 with rfl|⟨d,rfl⟩<;>rcases f6 with rfl|⟨d,rfl⟩<;>rcases f7 with rfl|⟨d,rfl⟩<;>rfl,?_⟩;have two:∀(c e:lH) {I B:AF}{Q:Out->Prop},I [.D (.L<|rooms.map .str),.D<|.L<|rows.map ar,.D<|.str way,.D<|.a8 a,.O<|.L<|b.map cQ,.D<|.str t.1,.D<|.str t.2.1,.D<|.str t.2.2]=ac ([cQ c],[.D (.L<|rooms.map .str),.D<|.L<|rows.map ar,.D<|.str way,.D<|.a8 a,.O<|.L<|b.map cQ,.D<|.str t.1,.D<|.str t.2.1,.D<|.str t.2.2]) ->
   B [.D (.L<|rooms.map .str),.D<|.L<|rows.map ar,.D<|.str way,.D<|.a8 a,.O<|.L<|b.map cQ++[cQ c],.D<|.str t.1,.D<|.str t.2.1,.D<|.str t.2.2]=ac ([cQ e],[.D (.L<|rooms.map .str),.D<|.L<|rows.map ar,.D<|.str way,.D<|.a8 a,.O<|.L<|b.map cQ++[cQ c],.D<|.str t.1,.D<|.str t.2.1,.D<|.str t.2.2]) ->
   Q (.next [.D (.L<|rooms.map .str),.D<|.L<|rows.map ar,.D<|.str way,.D<|.a8 a,.O<|.L<|(b++[c,e]).map cQ,.D<|.str t.1,.D<|.str t.2.1,.D<|.str t.2.2])->WS (gE (mn<|kf 4 mH I)<|gE (mn<|kf 4 mH B) lE) [.D (.L<|rooms.map .str),.D<|.L<|rows.map ar,.D<|.str way,.D<|.a8 a,.O<|.L<|b.map cQ,.D<|.str t.1,.D<|.str t.2.1,.D<|.str t.2.2] Q:=λc e I B Q e1 e2 q=>by
  refine af<|gO (gg ρ e1 (by rw[ax];unfold eu;omega))<|ai<|af<|gO (gg ρ e2 (by rw[gd,ax];unfold eu;simp;omega))<|ai<|aw ?_;have:(b++[c,e]).map cQ=b.map cQ++[cQ c]++[cQ e]:=⋯
  rw[this] at q;exact q
 have C:∀c e:lH,∃(u:List lH) (i j k:Slot),u.length<=50+2*(n+1)/\(∀g∈sC a rooms,g∈u)/\Fr i/\Fr j/\Fr k/\[.D (.L<|rooms.map .str),.D<|.L<|rows.map ar,.D<|.str way,.D<|.a8 a,.O<|.L<|(b++[c,e]).map cQ,.D<|.str t.1,.D<|.str t.2.1,.D<|.str t.2.2]=[.D (.L<|rooms.map .str),.D<|.L<|rows.map ar,.D<|.str way,.D<|.a8 a,.O<|.L<|u.map cQ,i,j,k]:=λc e=>⟨_,_,_,_,by simp;omega,λg hg=>z6 _<|v g hg,τ ⟨_,ρ⟩,τ ⟨_,ρ⟩,τ ⟨_,ρ⟩,ρ⟩;refine af (bK (aE<|ak ρ ρ<|mC ok.1.ok Y.ok) (λz=>?_) λz=>?_)
 ·exact two ([t.2.1,"high"],[t.2.2,"low"],0) ([t.2.2,"low"],[t.2.1,"high"],0) (aa (cw (aa (r t.2.1 ρ)<|aa (p t.2.2 ρ)<|aa ρ ah) o) ah) (aa (cw (aa (p t.2.2 ρ)<|aa (r t.2.1 ρ)<|aa ρ ah) o) ah)<|ai<|aw<|C _ _
 refine af (bK (jD (aE<|ak ρ ρ<|dU tr ok.2.1 false)<|aE<|ak ρ ρ<|dU tr ok.2.2 false) (λz=>?_) λz=>?_)
 ·exact two ([t.2.1,"low"],[t.2.2,"high"],1) ([t.2.2,"low"],[t.2.1,"high"],1) (aa (cw (aa (p t.2.1 ρ)<|aa (r t.2.2 ρ)<|aa ρ ah) o) ah) (aa (cw (aa (p t.2.2 ρ)<|aa (r t.2.1 ρ)<|aa ρ ah) o) ah)<|ai<|aw<|ai<|aw<|C _ _
 exact aw<|ai<|aw<|ai<|aw ⟨b,_,_,_,∅,v,τ ⟨_,ρ⟩,τ ⟨_,ρ⟩,τ ⟨_,ρ⟩,rfl⟩
theorem O6(b)(k a)(d):cf (b.map λp=>if p.1=k then (p.1,d) else p) a=if a=k then (cf b a).map λ_=>d else cf b a:=by
 delta cf;induction b with
 | nil=>simp
 | cons p b ih=>by_cases h:p.1=a<;>by_cases h':p.1=k<;>by_cases h2:a=k<;>simp_all
theorem Bi(b)(k a)(d):cf (gy b k d) a=if a=k then ac d else cf b a:=by
 delta gy;by_cases h:(cf b k).isSome=bi
 ·rw[if_pos h,O6];by_cases e:a=k
  ·subst e;cases hh:cf b a with
   | none=>rw[hh] at h;cases h
   | some x=>rfl
  rw[if_neg e,if_neg e]
 rw[if_neg h];have c:cf b k=am:=by simpa using h
 delta cf at c ⊢;rw[aeV];by_cases e:a=k
 ·subst e;have:(b.find? λp=>bd<|p.1=a)=am:=by simpa using c
  rw[this];simp
 rw[if_neg e];have:([(k,d)]:cT).find? (λp=>bd<|p.1=a)=am:=by simpa using λz:k=a=>e z.symm
 rw[this,Option.or_none]
def gG(a:cT)(k:List eT):Prop:=∃i:Int,cf a k=ac (.int i)
def gG.put (h:gG a b):gG (gy a k<|.int i) b:=by
 delta gG;rw[Bi];split
 ·exact⟨i,ρ⟩
 exact h
def Fz(a)(k)(i):gG (gy a k<|.int i) k:=⟨i,by rw[Bi,if_pos ρ]⟩
def Gs(a)(k)(d):(gy a k d).length<=a.length+1:=by delta gy;split<;>simp
def IL (h:gG a k)(d:Dat):(gy a k d).length=a.length:=by obtain⟨i,e⟩:=h;delta gy;rw[e];simp
def xy (e:f δ=ac (d,δ))(g:a δ=ac (k,δ))(c:(δ[i]?).bind ownOf=ac (false,.aX false b))(hl:b.length<eu):lb i a f δ=ac (.next<|δ.set i<|.O<|.aX false<|gy b k d):=by delta lb;rw[e];show ((δ[i]?).bind ownOf).bind _=_;rw[c];rw[g];show ((δ[i]?).bind ownOf).bind _=_;rw[c];exact if_pos hl
def n6 (c:(δ[i]?).bind f'=ac (.aX e b))(f:a δ=ac (k,δ))(g:cf b k=ac d):qm i a δ=ac (d,δ):=by delta qm;rw[c];rw[f];show ((δ[i]?).bind f').bind _=_;rw[c];show (cf b k).map _=_;rw[g];rfl
def D7(fn:aY):Prop:=∀a:List lH,a.length<=3000->∃r,fn [.L (a.map cQ)]=ac r/\∃b:cT,r=.O (.aX false b)/\∀g∈a,gG b g.1/\gG b g.2.1
def Kh(T:Txt mg)(F:a9 K "least_numbers" "least_numbers" vY f G):∃fn,aS P w K mg base bb 1 f G ["gaps"] (aG K fn)/\D7 fn:=by
 refine' bW F DN ρ ?N ?B
 case N=>have tu:g8 "numbers":=⟨trivial⟩;walk_at "h"
 intro o x;refine' oj ρ ?w;refine' af<|aD ρ ρ<|ai ?_;refine' af<|cN (λn δ=>∃(e:cT) (h k l:Slot),e.length<=2*n/\(∀g∈o.take n,gG e g.1/\gG e g.2.1)/\Fr h/\Fr k/\Fr l/\δ=[.D (.L<|o.map cQ),.O<|.aX false e,h,k,l,.no]) (bU ρ) ⟨[],_,_,_,pe _,⋯,ι rfl,ι rfl,ι rfl,rfl⟩ ?st ?I
 case st =>
  rintro n y C _ ⟨e,h,k,l,t,b,p,q,r,rfl⟩;rw[ez] at C;obtain⟨g,u,rfl⟩:=gj.1 C;have hn:=(bt.1 u).1;have l1:=Gs e g.1<|.int 0;have l2:=Gs (gy e g.1<|.int 0) g.2.1<|.int 0;refine⟨[.D (.L<|o.map cQ),.O<|.aX false e,.D<|.dM g.1,.D<|.dM g.2.1,.D<|.int g.2.2,.no],by rcases p with rfl|⟨d,rfl⟩<;>rcases q with rfl|⟨d,rfl⟩<;>rcases r with rfl|⟨d,rfl⟩<;>rfl,?_⟩;refine af ⟨_,xy ρ ρ ρ ∅,ai<|af ⟨_,xy ρ ρ ρ ∅,ai<|aw ⟨_,_,_,_,?_,λg' c=>?_,τ ⟨_,ρ⟩,τ ⟨_,ρ⟩,τ ⟨_,ρ⟩,ρ⟩⟩⟩
  ·lia
  rw[cZ u] at c;rcases hY.1 c with c|c
  ·exact⟨((b g' c).1.put).put,((b g' c).2.put).put⟩
  rw[kH.1 c];exact⟨(Fz _ _ _).put,Fz _ _ _⟩
 rintro _ ⟨e,h,k,l,t,b,p,q,r,rfl⟩;rw[ax] at t b;rw[mv] at b;refine ai ?_;refine' af<|cN (λn δ=>∃(a:cT) (h k l v:Slot),a.length<=6000/\(∀g∈o,gG a g.1/\gG a g.2.1)/\Fr h/\Fr k/\Fr l/\Fr v/\δ=[.D (.L<|o.map cQ),.O<|.aX false a,h,k,l,v]) (j8 (aa ρ ah) (by lia)) ⟨e,_,_,_,_,∅,b,p,q,r,ι rfl,rfl⟩ ?J ?fin2
 case fin2=>rintro _ ⟨a,h,k,l,v,_,b,_,_,_,_,rfl⟩;exact ai<|af<|aZ ρ<|bO ⟨_,_,ρ,a,ρ,b⟩
 rintro n y C _ ⟨e,h,k,l,v,t,b,p,q,r,O,rfl⟩;refine⟨[.D (.L<|o.map cQ),.O<|.aX false e,h,k,l,.D y],by rcases O with rfl|⟨d,rfl⟩<;>rfl,?_⟩;refine' af<|cN (λn δ=>∃(a:cT) (h k l:Slot),a.length<=6000/\(∀g∈o,gG a g.1/\gG a g.2.1)/\Fr h/\Fr k/\Fr l/\δ=[.D (.L<|o.map cQ),.O<|.aX false a,h,k,l,.D y]) (bU ρ) ⟨e,_,_,_,t,b,p,q,r,ρ⟩ ?L ?D
 case D=>rintro _ ⟨a,h,k,l,t,b,p,q,r,rfl⟩;exact ai<|aw ⟨a,_,_,_,_,t,b,p,q,r,τ ⟨_,ρ⟩,ρ⟩
 rintro m z x _ ⟨e,h,k,l,t,b,p,q,r,rfl⟩;rw[ez] at x;obtain⟨g,u,rfl⟩:=gj.1 x;have Q:=b g<|fB u;obtain⟨⟨i,R⟩,⟨j,M⟩⟩:=Q;refine⟨[.D (.L<|o.map cQ),.O<|.aX false e,.D<|.dM g.1,.D<|.dM g.2.1,.D<|.int g.2.2,.D y],by rcases p with rfl|⟨d,rfl⟩<;>rcases q with rfl|⟨d,rfl⟩<;>rcases r with rfl|⟨d,rfl⟩<;>rfl,?_⟩;refine af ⟨_,xy (ag (aB (aa (n6 ρ ρ M)<|aa (ag (ak (n6 ρ ρ R) ρ ρ) ρ) ah)<|ρ) ρ) ρ ρ ∅,ai<|aw ⟨_,_,_,_,?_,λg' c=>⟨(b g' c).1.put,(b g' c).2.put⟩,τ ⟨_,ρ⟩,τ ⟨_,ρ⟩,τ ⟨_,ρ⟩,ρ⟩⟩;rw[IL ⟨j,M⟩];exact t
abbrev Sz:=eT×Int×Int
noncomputable def iL(s:Sz):Dat:=.U [.str s.1,.int s.2.1,.int s.2.2]
theorem PR(b)(k a)(d):ck (b.map λp=>if p.1=k then (p.1,d) else p) a=if a=k then (ck b a).map λ_=>d else ck b a:=by
 delta ck;induction b with
 | nil=>simp
 | cons p b ih=>by_cases h:p.1=a<;>by_cases h':p.1=k<;>by_cases h2:a=k<;>simp_all
theorem Er (h:mK b)(k:eT)(i:Int):mK (ku b k<|.int i):=by
 intro a d e;delta ku at e;split at e
 ·rw[PR] at e;split at e
  ·cases hh:ck b a with
   | none=>rw[hh] at e;cases e
   | some x=>rw[hh] at e;exact⟨i,(Option.some.inj e).symm⟩
  exact h a d e
 delta ck at e;rw[aeV] at e;cases hh:b.find? λp=>bd (p.1=a) with
 | some x=>rw[hh] at e;refine h a d ?_;delta ck;rw[hh];exact e
 | none =>
  rw[hh] at e;by_cases z:k=a
  ·simp[z] at e;exact⟨i,e.symm⟩
  simp[z] at e
def GG(a)(k)(d):(ku a k d).length<=a.length+1:=by delta ku;split<;>simp
def BG (h:f δ=ac (.dM l,δ)):oX f δ=ac (l,δ):=by unfold oX;rw[h];rfl
def Cw:mK []:=λk d e=>by cases e
def xb(a b:eH)(fn:fE):Prop:=∀(web:ay) (rows:List bJ) (sz:List Sz),Named web->(∀t∈rows,fG t)->rows.length<=1000->sz.length<=50 ->
 (¬GoodW web->fn [.L (web.map pairD),.L<|rows.map ar,.L<|sz.map iL]=ac (.exc a))/\(GoodW web->dO web rows=bv->fn [.L (web.map pairD),.L<|rows.map ar,.L<|sz.map iL]=ac (.exc b)) /\
 (GoodW web->dO web rows=bi->∃r,fn [.L (web.map pairD),.L<|rows.map ar,.L<|sz.map iL]=ac (.ok r))
def NC(T:Txt mg)(x1:rB K mg "NoTinting" I)(q1:jg P w K mg base "is_tinting" 5 (gS K c))(s1:Ek G c)(q2:ba P w K mg base "gaps_along" 2 (aG K C))(Y:Cz C)(q3:ba P w K mg base "least_numbers" 1 (aG K D))(Z:D7 D)(q4:ba P w K mg base "low" 1 (aG K m))(s4:oY "low" m)(q5:ba P w K mg base "high" 1 (aG K o))(s5:oY "high" o)(F:a9 K "wished" "wished" zp f fd):∃fn,aS P w K mg base (dP P w) 6 f fd ["web","tinting","sizes"] (gS K fn)/\xb G I fn:=by
 refine' sR F BJ ρ ?J ?L
 case J=>intro cdv A outer s H E B;have nd:=BJ.nd;cases T;have tu:g8 "across":=⟨trivial⟩;have tu2:g8 "upward":=⟨trivial⟩;walk_at "X"
 clear T F q1 q2 q3 q4 q5;intro web rows sz hN B M hs;have N:=s1 web rows hN B M;refine⟨λng=>?_,λg t=>?_,λg t=>?_⟩
 ·refine' mZ ρ ?w
  case w=>refine af ⟨.exc G [.D (.L<|web.map pairD),.D<|.L<|rows.map ar,.D<|.L<|sz.map iL,.no,.no,.no,.no,.no,.no,.no,.no],?_,τ ⟨_,_,ρ,ρ⟩⟩;show (c [.L (web.map pairD),.L<|rows.map ar]).bind _=_;rw[N.1 ng];rfl
 ·refine' mZ ρ ?w
  case w=>refine af ⟨.exc I [.D (.L<|web.map pairD),.D<|.L<|rows.map ar,.D<|.L<|sz.map iL,.no,.no,.no,.no,.no,.no,.no,.no],?_,τ ⟨_,_,ρ,ρ⟩⟩;show (c [.L (web.map pairD),.L<|rows.map ar]).bind _=_;rw[N.2 g,t];rfl
 have h:=g.f;have bz:=h.bz;have kl:(bS web).length=web.length:=ax ..;refine (wU (P:=λa=>∃r,a=.ok r) ρ ?w).elim λa ⟨e,r,er⟩=>⟨r,er ▸ e⟩;refine af ⟨.next [.D (.L<|web.map pairD),.D<|.L<|rows.map ar,.D<|.L<|sz.map iL,.no,.no,.no,.no,.no,.no,.no,.no],?_,ai ?_⟩
 ·show (c [.L (web.map pairD),.L<|rows.map ar]).bind _=_;rw[N.2 g,t];rfl
 refine' af<|i9<|aD ρ ρ<|ai<|af<|i9<|aD ρ ρ<|ai ?_;show WS _ [.D (.L<|web.map pairD),.D<|.L<|rows.map ar,.D<|.L<|sz.map iL,.O<|.a8 [],.O<|.a8 [],.no,.no,.no,.no,.no,.no] _;refine' af<|i9<|cN (λn δ=>∃(a b:List (eT×Dat)) (p q u:Slot),mK a/\mK b/\a.length<=n/\b.length<=n/\Fr p/\Fr q/\Fr u/\δ=[.D (.L<|web.map pairD),.D<|.L<|rows.map ar,.D<|.L<|sz.map iL,.O<|.a8 a,.O<|.a8 b,p,q,u,.no,.no,.no]) (bU ρ) ⟨[],[],_,_,_,Cw,Cw,ft _,ft _,ι ρ,ι ρ,ι ρ,ρ⟩ ?st ?fin
 case st=>rintro n y O _ ⟨a,b,p,q,u,Q,R,h3,h4,S,U,V,rfl⟩;rw[ez] at O;obtain⟨s,es,rfl⟩:=gj.1 O;have hn:=(bt.1 es).1;have l1:=GG a s.1<|.int s.2.1;have l2:=GG b s.1<|.int s.2.2;refine⟨[.D (.L<|web.map pairD),.D<|.L<|rows.map ar,.D<|.L<|sz.map iL,.O<|.a8 a,.O<|.a8 b,.D<|.str s.1,.D<|.int s.2.1,.D<|.int s.2.2,.no,.no,.no],by rcases S with rfl|⟨d,rfl⟩<;>rcases U with rfl|⟨d,rfl⟩<;>rcases V with rfl|⟨d,rfl⟩<;>rfl,?_⟩;exact af ⟨_,x5 ρ ρ ρ ρ ∅ ρ,ai<|af ⟨_,x5 ρ ρ ρ ρ ∅ ρ,ai<|aw ⟨_,_,_,_,_,Er Q _ _,Er R _ _,∅,∅,τ ⟨_,ρ⟩,τ ⟨_,ρ⟩,τ ⟨_,ρ⟩,rfl⟩⟩⟩
 rintro _ ⟨a,b,p,q,u,Q,R,h3,h4,S,U,V,rfl⟩;rw[ax] at h3 h4;refine ai ?_;have ls:(bj (web.map (·.1))).length=web.length:=((jn _ cY).length_eq).trans (ax ..);have hk:(bS web).map (·.1)=web.map (·.1):=by unfold bS;rw[hG];rfl
 have so:lL [.a8 (bS web)]=ac (.O (.L ((bj (web.map (·.1))).map .str))):=by show (if (bS web).length<64 then ac (Res.O (.L ((bj ((bS web).map (·.1))).map .str))) else am)=_;rw[hk,if_pos ∅]
 have tr:∀x∈bj (web.map (·.1)),bh x:=λx k=>h.txt<|ι<|(jn _ cY).mem_iff.1 k;refine' af<|i9<|aD (gf<|aB (aa (ag (aB (aa ρ ah)<|vd h.nd) ρ) ah) so) ρ<|ai ?_;generalize bj (web.map (·.1))=rooms at *;obtain⟨_,e2,gs,rfl,lg,hg⟩:=Y rooms rows "on" a tr B kc.2 Q ∅ M;obtain⟨_,e3,l,rfl,ha⟩:=Z gs lg;obtain⟨_,e4,Vv,rfl,Vw,Vx⟩:=Y rooms rows "up" b tr B kc.1 R ∅ M;obtain⟨_,e5,kb,rfl,J⟩:=Z Vv Vw;refine' af<|i9<|aD (aB (aa (ag (aB (aa ρ<|aa ρ<|aa ρ<|aa ρ ah) e2) ρ) ah) e3) ρ<|ai ?_;refine' af<|i9<|aD (aB (aa (ag (aB (aa ρ<|aa ρ<|aa ρ<|aa ρ ah) e4) ρ) ah) e5) ρ<|ai ?_;have ga:∀x∈rooms,(∃d,cf l [x,"low"]=ac d)/\∃d,cf l [x,"high"]=ac d:=λx k=>by obtain⟨g,W,e,X⟩:=hg x k;obtain⟨⟨i,z⟩,⟨j,v⟩⟩:=ha g W;rw[e] at z;rw[X] at v;exact⟨⟨_,z⟩,⟨_,v⟩⟩
 have gb:∀x∈rooms,(∃d,cf kb [x,"low"]=ac d)/\∃d,cf kb [x,"high"]=ac d:=λx k=>by obtain⟨g,W,e,X⟩:=Vx x k;obtain⟨⟨i,z⟩,⟨j,v⟩⟩:=J g W;rw[e] at z;rw[X] at v;exact⟨⟨_,z⟩,⟨_,v⟩⟩
 refine' af<|i9<|aZ (dX (xs:=rooms) (δ2:=[.D (.L<|web.map pairD),.D<|.L<|rows.map ar,.D<|.L<|sz.map iL,.D<|.a8 a,.D<|.a8 b,p,q,u,.D<|.L<|rooms.map .str,.D<|.aX false l,.D<|.aX false kb]) (λx=>[.no,.D<|.str x,.D<|.aX false l,.D<|.aX false kb]) (λx=>.U [.str x,(cf l [x,"low"]).getD .aF,(cf kb [x,"low"]).getD .aF,(cf l [x,"high"]).getD .aF,(cf kb [x,"high"]).getD .aF]) (bU ρ) ?c1 ∅ ?c2 ?c3<|λ_ _=>rfl)<|ι ⟨_,_,ρ,_,ρ⟩
 case c1=>rcases S with rfl|⟨d,rfl⟩<;>rcases U with rfl|⟨d,rfl⟩<;>rcases V with rfl|⟨d,rfl⟩<;>rfl
 case c2=>intro y O δ hd;rcases hd with rfl|⟨z,rfl⟩<;>rfl
 intro x k;obtain⟨⟨d1,z1⟩,⟨d2,z2⟩⟩:=ga x k;obtain⟨⟨d3,z3⟩,⟨d4,z4⟩⟩:=gb x k;rw[z1,z2,z3,z4];have k4:∀{f:DF}{δ:DS},f δ=ac (.str x,δ)->oX (fX<|bV m<|fI f iy) δ=ac ([x,"low"],δ):=λh=>BG<|ag (aB (aa h ah)<|s4 x) ρ;have k5:∀{f:DF}{δ:DS},f δ=ac (.str x,δ)->oX (fX<|bV o<|fI f iy) δ=ac ([x,"high"],δ):=λh=>BG<|ag (aB (aa h ah)<|s5 x) ρ;exact cw (aa ρ<|aa (n6 ρ (k4 ρ) z1)<|aa (n6 ρ (k4 ρ) z3)<|aa (n6 ρ (k5 ρ) z2)<|aa (n6 ρ (k5 ρ) z4) ah) (by show 5<=eu;unfold eu;decide)
def Hn(a b:eH)(fn:fE):Prop:=∀(web:ay) (rows:List bJ),Named web->(∀t∈rows,fG t)->rows.length<=1000 ->
 (¬GoodW web->fn [.L (web.map pairD),.L<|rows.map ar]=ac (.exc a))/\(GoodW web->dO web rows=bv->fn [.L (web.map pairD),.L<|rows.map ar]=ac (.exc b)) /\
 (GoodW web->dO web rows=bi->∃r,fn [.L (web.map pairD),.L<|rows.map ar]=ac (.ok r))
theorem Pf (k:jg P w K mg base "wished" 6 (gS K b))(l:xb d h b)(F:a9 K "least_floor" "least_floor" wJ f i):∃fn,aS P w K mg base (dP P w) 7 f i ["web","tinting"] (gS K fn)/\Hn d h fn:=by
 refine' sR F G3 ρ ?D ?B
 case D=>intro cdv A outer s H E j;have nd:=G3.nd;walk_at "X"
 intro web rows m j n;have c:=l web rows [] m j n ⋯;have run:∀{a:iP},b [.L (web.map pairD),.L<|rows.map ar,.L []]=ac a->WS (gE (yH b<|fI (cS 0)<|fI (cS 1)<|fI (fX<|sv iy) iy) lE) [.D (.L<|web.map pairD),.D<|.L<|rows.map ar] λo=>(∃r δ,o=.ret r δ/\a=.ok r)\/∃C δ,o=.exc C δ/\a=.exc C:=λ{a} e=>by
  cases a with
  | ok r=>refine af ⟨.ret r [.D (.L<|web.map pairD),.D<|.L<|rows.map ar],?_,ι ⟨_,_,ρ,ρ⟩⟩;show (b [.L (web.map pairD),.L<|rows.map ar,.L []]).bind _=_;rw[e];rfl
  | exc C=>refine af ⟨.exc C [.D (.L<|web.map pairD),.D<|.L<|rows.map ar],?_,τ ⟨_,_,ρ,ρ⟩⟩;show (b [.L (web.map pairD),.L<|rows.map ar,.L []]).bind _=_;rw[e];rfl
 exact⟨λg=>mZ ρ<|run<|c.1 g,λg t=>mZ ρ<|run<|c.2.1 g t,λg t=>(c.2.2 g t).imp λr e=>mZ ρ<|run e⟩
def EB(ds:List Dat)(t:Int×ay×List bJ):Prop:=ds=[.int t.1,.L<|t.2.1.map pairD,.L<|t.2.2.map ar]/\Named t.2.1/\(∀r∈t.2.2,fG r)/\t.2.2.length<=1000
noncomputable def fq(web:ay)(rows:List bJ):List Bool:=@ite _ (GoodW web) (Z0 _) (if dO web rows=bi then [false,false,false] else [false,true,true]) [true,false,true]
noncomputable def nZ:aY:=λds=>@dite _ (∃t,EB ds t) (Z0 _) (λh=>ac<|.O<|.L<|(fq h.choose.2.1 h.choose.2.2).map .bl) λ_=>am
def KU{a b:List bJ}(h:a.map ar=b.map ar):a=b:=by refine (abq λx y e=>?_).1 h;injection e with e;simp at e;exact adv e.1<|adv e.2.1 e.2.2
def Bm (a:Named web)(b:∀r∈rows,fG r)(c:rows.length<=1000):nZ [.int i,.L<|web.map pairD,.L<|rows.map ar]=ac (.O<|.L<|(fq web rows).map .bl):=by have ex:∃t,EB [.int i,.L<|web.map pairD,.L<|rows.map ar] t:=⟨(i,web,rows),ρ,a,b,c⟩;delta nZ;rw[dif_pos ex];have:=ex.choose_spec.1;simp at this;rw[<-EI this.2.1,<-KU this.2.2]
def HV:dc (x::l) 0=ac x:=by delta dc fh;simp
theorem Si{X:Cx}{c:St}{cls:dk}{a:eH}{H:Hp}(h:H a=am->mB X c cls a H):mB X c cls a H:=fun b s I F=>h F.na b s I F
theorem Gu{c:Bool}{A B:Prop}(a:A)(b:B):if c=bi then A else B:=by cases c<;>assumption
def pB (h:n<=50:=by decide):n<=sizeLine:=px h (by unfold eu;decide)
theorem ite_no{A B:Prop}(b:B):if false=bi then A else B:=b
theorem UE{CT N T I J L M O S:eH}{VC VD:fE}(V6:mg "TouchError"=ac (.ref CT))(V7:ac6 K (.ref N) (.ref CT)=ac true)(V8:ac6 K (.ref T) (.ref CT)=ac true)(Vx:mg "isinstance"=am)(mW:mg "NoWeb"=ac (.ref N))(mT:mg "NoTinting"=ac (.ref T))(mV:mg "ValueError"=am)(kN:jk K N)(kT:jk K T)
 (m1:mg "NoCut"=ac (.ref I))(m2:mg "NoFloor"=ac (.ref J))(m3:mg "NoName"=ac (.ref L))(m4:mg "NoRoom"=ac (.ref M))(m5:mg "NoText"=ac (.ref O))(m6:mg "Twice"=ac (.ref S))
 (aN:aaH K (.ref N) [.ref I,.ref J,.ref L,.ref M,.ref O,.ref S]=ac false)(aT:aaH K (.ref T) [.ref I,.ref J,.ref L,.ref M,.ref O,.ref S]=ac false)(a0:aaH K (.type "NoneType") [.ref I,.ref J,.ref L,.ref M,.ref O,.ref S]=ac false)
 (V9:o4 K (.ref N) (.ref N)=ac true)(V':o4 K (.ref N) (.ref T)=ac false)(Wa:o4 K (.ref N) (.type "ValueError")=ac true)(Wb:o4 K (.ref T) (.ref N)=ac false)(Wc:o4 K (.ref T) (.ref T)=ac true)(Wd:o4 K (.ref T) (.type "ValueError")=ac true)
 (We:o4 K (.type "NoneType") (.ref N)=ac false)(Wf:o4 K (.type "NoneType") (.ref T)=ac false)(Wg:o4 K (.type "NoneType") (.type "ValueError")=ac false)
 (q1:jg P w K mg base "least_floor" 7 (gS K VC))(s1:Hn N T VC)(q2:jg P w K mg base "wished" 6 (gS K VD))(s2:xb N T VD)
 {f:eH}{fd:hU}(F:a9 K "_law_caught" "_law_caught" vO f fd):aS P w K mg base bb 8 f fd ["_law_way_here","_law_web_here","_law_rows"] (aG K nZ):=by
 obtain⟨f1,fd1,pn1,F1,Wi,Wj,Y⟩:=q1.is;obtain⟨f2,fd2,pn2,F2,Wk,Wl,Z⟩:=q2.is;have key:∀{ds r},nZ ds=ac r->∃i web rows,ds=[.int i,.L<|web.map pairD,.L<|rows.map ar]/\Named web/\(∀t∈rows,fG t)/\rows.length<=1000/\r=.O (.L<|(fq web rows).map .bl):=fun {ds r} e=>by
  unfold nZ at e;split at e
  ·rename_i h;obtain⟨a,b,c,d⟩:=h.choose_spec;exact⟨_,_,_,a,b,c,d,(Option.some.inj e).symm⟩
  cases e
 refine F.ok Gk (fun vs H Q E h=>?_)<|fun cdv A outer s H vs Q E hr h=>?_
 ·obtain⟨y,ds,r,sm,rp,e,_⟩:=h;obtain⟨i,web,rows,rfl,_⟩:=key e;rw[rp.length];rfl
 obtain⟨y,ds,r,sm,rp,e,kQ⟩:=h;obtain⟨i,web,rows,rfl,hN,ht,hz,rfl⟩:=key e;clear e;have nd:=Gk.nd;obtain⟨v0,vr,rfl,Wq,v1,vr,rfl,VR,v2,vr,rfl,Wr,rn⟩:=rp;cases rn;obtain rfl:v0=.int i:=Wq;have uh:∀{X:Cx},bD X (.builtin "isinstance") _:=fun {X}=>bD.or (M' ac9.ga) Me;refine⟨_,m9 (yt (i:=3) nd rfl (abQ rfl) Fx)<|m9 (Iz<|fun pn Ex=>mO<|qT (pE HE (pv 0) kM<|FX _ ⋯ ⋯) (mO<|qZ<|p8 F1 hr rfl Wi Wj Y rfl<|bX (pv 1)<|bX (pv 2) dW)<|mO<|qZ<|p8 F2 (hr.mono ⋯) rfl Wk Wl Z rfl<|bX (pv 1)<|bX (pv 2)<|bX (yG<|bX (rh<|bX (oO vS (oO vI (pv 1) kM<|fun _ _=>rfl) kM<|fun _ _=>rfl)<|bX kM<|bX kM dW) dW) dW)<|m9 (qT (EK<|jO (bD.or Tz Nu) rfl Vx (by decide +kernel)<|bX (pv 3)<|bX (rh<|bX (jP rfl m1 (v:=.ref I) rfl)<|bX (jP rfl m2 (v:=.ref J) rfl)<|bX (jP rfl m3 (v:=.ref L) rfl)<|bX (jP rfl m4 (v:=.ref M) rfl)<|bX (jP rfl m5 (v:=.ref O) rfl)<|bX (jP rfl m6 (v:=.ref S) rfl) dW) dW) (mO<|uJ Fx) vG)<|mO<|uJ<|yG<|bX (jO uh rfl Vx (by decide +kernel)<|bX (pv 3)<|bX (jP rfl mW (v:=.ref N) rfl) dW)<|bX (jO uh rfl Vx (by decide +kernel)<|bX (pv 3)<|bX (jP rfl mT (v:=.ref T) rfl) dW)<|bX (jO uh rfl Vx (by decide +kernel)<|bX (pv 3)<|bX (CH (v:=.ty "ValueError") (u:=.type "ValueError") rfl mV (by decide +kernel) rfl) dW) dW,?_⟩;have gx:∃x l W,web=(x,l)::W:=by
  have:=hN.bz;cases web with
  | nil=>simp at this
  | cons p W=>exact⟨p.1,p.2,W,rfl⟩
 have VE:aA K y [.L (web.map pairD),.L<|rows.map ar] [v1,v2]:=⟨_,_,rfl,VR,_,_,rfl,Wr,rfl⟩;have VS:∃x:eT,∀{R:V->Hp->Prop},(∀p,H p=am->∀q,upd H p (.U [.str x,.int 2,.int 3]) q=am->aj (upd (upd y p<|.U [.str x,.int 2,.int 3]) q<|.L [.ref p]) (upd (upd H p<|.U [.str x,.int 2,.int 3]) q<|.L [.ref p])->aA K (upd (upd y p<|.U [.str x,.int 2,.int 3]) q<|.L [.ref p]) [.L (web.map pairD),.L<|rows.map ar,.L<|[(x,2,3)].map iL] [v1,v2,.ref q]->aj H (upd (upd H p<|.U [.str x,.int 2,.int 3]) q<|.L [.ref p])->aj y (upd (upd y p<|.U [.str x,.int 2,.int 3]) q<|.L [.ref p])->(∀b o,eR (upd (upd y p<|.U [.str x,.int 2,.int 3]) q<|.L [.ref p]) (upd (upd H p<|.U [.str x,.int 2,.int 3]) q<|.L [.ref p]) b o->eR y H b o)->R (.ref q) (upd (upd H p<|.U [.str x,.int 2,.int 3]) q<|.L [.ref p])) ->
   Et (lV (y8<|lV (lZ (yz K) (lZ (Ag K) (kP 1)<|tC<|.int 0)<|tC<|.int 0)<|lV (tC<|.int 2)<|lV (tC<|.int 3) pQ) pQ) [ac (.int i),ac v1,ac v2,some .aF,am] H R:=by
  obtain⟨x,l,W,rfl⟩:=gx;have VX:=VE;obtain⟨a,vs,rfl,rd,u,_,rfl,⟨b,ws,rfl,sq,_,_,rfl,rx,_⟩,_⟩:=VR;cases (show _=V.str x from rx);refine⟨x,fun {R} k=>?_⟩;refine⟨_,rfl,a,_,0,_,rfl,rfl,ι<|Rd.mono sm rd,HV,b,_,0,_,rfl,rfl,bq.mono sm sq,HV,pB (n:=3),fun p D=>⟨pB (n:=1),fun q hq=>?_⟩⟩;have ip:y p=am:=by
   cases z:y p with
   | none=>rfl
   | some o=>rw[sm p o z] at D;cases D
  have VF:q≠p:=fun z=>by rw[z,aV] at hq;cases hq
  have Vy:H q=am:=by rw[au VF] at hq;exact hq
  have Ws:y q=am:=by
   cases z:y q with
   | none=>rfl
   | some o=>rw[sm q o z] at Vy;cases Vy
  have iq:upd y p (.U [.str x,.int 2,.int 3]) q=am:=by rw[au VF];exact Ws
  have sI:=(dS ip (o:=.U [.str x,.int 2,.int 3])).trans (dS iq (o:=.L [.ref p]));have gp:upd (upd y p<|.U [.str x,.int 2,.int 3]) q (.L [.ref p]) p=ac (.U [.str x,.int 2,.int 3]):=by rw[au VF.symm];exact aV
  refine k p D q hq (fun c o e=>?_) ?_ ((dS D).trans (dS hq)) sI fun c o z=>?_
  ·by_cases h1:c=q
   ·subst h1;rw[aV] at e ⊢;exact e
   rw[au h1] at e ⊢;by_cases h2:c=p
   ·subst h2;rw[aV] at e ⊢;exact e
   rw[au h2] at e ⊢;exact sm c o e
  ·obtain⟨_,_,e,r1,_,_,e',r2,_⟩:=aA.mono sI VX;cases e;cases e';exact⟨_,_,rfl,r1,_,_,rfl,r2,_,_,rfl,⟨q,_,rfl,ι aV,_,_,rfl,⟨p,_,rfl,ι<|ι gp,_,_,rfl,rfl,_,_,rfl,rfl,_,_,rfl,rfl,rfl⟩,rfl⟩,rfl⟩
  rcases z with z|z|z
  ·by_cases h1:c=q
   ·exact τ<|ι<|h1 ▸ Vy
   by_cases h2:c=p
   ·exact τ<|ι<|h2 ▸ D
   rw[au h1,au h2] at z;exact ι z
  ·by_cases h1:c=q
   ·exact τ<|ι<|h1 ▸ Vy
   by_cases h2:c=p
   ·exact τ<|ι<|h2 ▸ D
   rw[au h1,au h2] at z;exact τ<|ι z
  exact τ<|τ z
 have f1:=s1 web rows hN ht hz;have f2:=fun x=>s2 web rows [(x,2,3)] hN ht hz ⋯;by_cases out:GoodW web/\dO web rows=bi
 case neg =>
  obtain⟨C,Y,Z,eC,kC,aC,Wt,Wu,Wv,e1,e2,eL⟩:∃(C:eH) (Y Z:Bool),ac6 K (.ref C) (.ref CT)=ac true/\jk K C/\aaH K (.ref C) [.ref I,.ref J,.ref L,.ref M,.ref O,.ref S]=ac false/\o4 K (.ref C) (.ref N)=ac Y/\o4 K (.ref C) (.ref T)=ac Z/\o4 K (.ref C) (.type "ValueError")=ac true/\VC [.L (web.map pairD),.L<|rows.map ar]=ac (.exc C)/\(∀x,VD [.L (web.map pairD),.L<|rows.map ar,.L<|[(x,2,3)].map iL]=ac (.exc C))/\fq web rows=[Y,Z,true]:=by
   by_cases g:GoodW web
   ·have t:dO web rows=bv:=by simpa using fun z=>out ⟨g,z⟩
    exact⟨T,false,true,V8,kT,aT,Wb,Wc,Wd,f1.2.1 g t,fun x=>(f2 x).2.1 g t,by unfold fq;rw[if_pos g,t];rfl⟩
   exact⟨N,true,false,V7,kN,aN,V9,V',Wa,f1.1 g,fun x=>(f2 x).1 g,by unfold fq;rw[if_neg g]⟩
  rw[eL] at kQ;have Vw:∀{m j:Hp}{B:eH},m B=am->aj H m->aj y j->aj j m->(∀b o,j b=ac o->eR y H b o)->∀p,(upd m B<|excAt B<|.ref C) p=am->∀l,upd (upd m B<|excAt B<|.ref C) p (.U<|[I,J,L,M,O,S].map V.ref) l=am->Q (.ref l) (upd (upd (upd m B<|excAt B<|.ref C) p<|.U<|[I,J,L,M,O,S].map V.ref) l<|.L [.bl Y,.bl Z,.bl true]):=fun {m j B} Vz k1 k2 k3 U p D l hl=>by
   have st:=(dS Vz (o:=excAt B<|.ref C)).trans ((dS D (o:=.U<|[I,J,L,M,O,S].map V.ref)).trans (dS hl (o:=.L [.bl Y,.bl Z,.bl true])));have nl:m l=am:=by
    cases z:m l with
    | none=>rfl
    | some o=>rw[((dS Vz).trans (dS D)) l o z] at hl;cases hl
   have al:∀{G:Hp},aj G m->G l=am:=fun {G} sg=>by
    cases z:G l with
    | none=>rfl
    | some o=>rw[sg l o z] at nl;cases nl
   exact kQ _ _ j (k1.trans st) k2 (k3.trans st) U ⟨l,rfl,⟨_,aV,⟨_,_,rfl,rfl,_,_,rfl,rfl,_,_,rfl,rfl,rfl⟩,al k3⟩,al k1⟩
  intro V3;refine⟨_,rfl,rfl,_,rfl,Gu ?_ ?_⟩
  rotate_left
  obtain⟨x,hx⟩:=VS;refine⟨_,rfl,_,rfl,?_⟩;refine hx fun p D q hq VJ VL sH sI k=>?_;refine⟨fun cls B m=>∃j,cls=.ref C/\aj H m/\aj y j/\aj j m/\(∀b o,j b=ac o->eR y H b o),⟨_,_,.exc C,VJ,VL,e2 x,fun a m j k1 k2 k3 U=>⟨j,rfl,sH.trans k1,sI.trans k2,k3,fun b o e=>k b o<|U b o e⟩⟩,?_⟩
  rotate_left
  refine⟨_,rfl,_,rfl,fun cls B m=>∃j,cls=.ref C/\aj H m/\aj y j/\aj j m/\(∀b o,j b=ac o->eR y H b o),⟨y,_,.exc C,sm,VE,e1,fun a m j k1 k2 k3 U=>⟨j,rfl,k1,k2,k3,U⟩⟩,?_⟩
  all_goals
   rintro cls B m ⟨j,rfl,k1,k2,k3,U⟩;refine Si fun Vz=>?_;refine Ir (i:=4) (C:=CT) nd rfl rfl rfl rfl rfl rfl V6 eC (fun v=>mO<|yt (i:=3) nd rfl (abQ rfl)<|pv 4) ?_;refine⟨_,rfl,_,rfl,pB (n:=6),fun p D=>?_⟩;have Ww:p≠B:=fun z=>by rw[z,aV] at D;cases D
   have ae:upd (upd m B<|excAt B<|.ref C) p (.U<|[I,J,L,M,O,S].map V.ref) B=ac (excAt B<|.ref C):=by rw[au Ww.symm];exact aV
   refine ι ⟨C,B,p,[I,J,L,M,O,S],false,rfl,aV,ae,kC,aC,_,rfl,?_⟩;refine ite_no ?_;refine⟨_,rfl,ι ⟨_,C,.ref B,.ref N,.ref N,Y,rfl,rfl,aj.refl _,⟨B,rfl,ae⟩,kC,Wt,?_⟩⟩;refine⟨_,rfl,ι ⟨_,C,.ref B,.ref T,.ref T,Z,rfl,rfl,aj.refl _,⟨B,rfl,ae⟩,kC,Wu,?_⟩⟩;refine⟨_,rfl,ι ⟨_,C,.ref B,.ty "ValueError",.type "ValueError",true,rfl,rfl,aj.refl _,⟨B,rfl,ae⟩,kC,Wv,?_⟩⟩;exact⟨pB (n:=3),fun l hl=>Vw Vz k1 k2 k3 U p D l hl⟩
 obtain⟨r1,e1⟩:=f1.2.2 out.1 out.2;have e2:=fun x=>(f2 x).2.2 out.1 out.2;have eL:fq web rows=[false,false,false]:=by unfold fq;rw[if_pos out.1,if_pos out.2]
 rw[eL] at kQ;have Vw:∀{m j:Hp},aj H m->aj y j->aj j m->(∀b o,j b=ac o->eR y H b o)->∀p,m p=am->∀l,upd m p (.U<|[I,J,L,M,O,S].map V.ref) l=am->Q (.ref l) (upd (upd m p<|.U<|[I,J,L,M,O,S].map V.ref) l<|.L [.bl false,.bl false,.bl false]):=fun {m j} k1 k2 k3 U p D l hl=>by
  have st:=(dS D (o:=.U<|[I,J,L,M,O,S].map V.ref)).trans (dS hl (o:=.L [.bl false,.bl false,.bl false]));have nl:m l=am:=by
   cases z:m l with
   | none=>rfl
   | some o=>rw[(dS D) l o z] at hl;cases hl
  have al:∀{G:Hp},aj G m->G l=am:=fun {G} sg=>by
   cases z:G l with
   | none=>rfl
   | some o=>rw[sg l o z] at nl;cases nl
  exact kQ _ _ j (k1.trans st) k2 (k3.trans st) U ⟨l,rfl,⟨_,aV,⟨_,_,rfl,rfl,_,_,rfl,rfl,_,_,rfl,rfl,rfl⟩,al k3⟩,al k1⟩
 intro V3;refine⟨_,rfl,rfl,_,rfl,Gu ?_ ?_⟩
 rotate_left
 obtain⟨x,hx⟩:=VS;refine⟨_,rfl,_,rfl,?_⟩;refine hx fun p D q hq VJ VL sH sI k=>?_;obtain⟨r2,e2⟩:=e2 x;refine⟨fun _ _ _=>False,⟨_,_,.ok r2,VJ,VL,e2,fun v m j Wx Wy k3 Wz rc=>?_⟩,fun _ _ _ z=>z.elim⟩;have k1:=sH.trans Wx;have k2:=sI.trans Wy;have U:=fun b o e=>k b o<|Wz b o e
 rotate_left
 refine⟨_,rfl,_,rfl,fun _ _ _=>False,⟨y,_,.ok r1,sm,VE,e1,fun v m j k1 k2 k3 U rc=>?_⟩,fun _ _ _ z=>z.elim⟩
 all_goals
  refine⟨_,rfl,pB (n:=6),fun p D=>?_⟩;refine τ ⟨p,[I,J,L,M,O,S],false,rfl,aV,a0,_,rfl,?_⟩;refine ite_no ?_;refine⟨_,rfl,τ ⟨.ref N,.ref N,false,rfl,fun u h=>h,We,?_⟩⟩;refine⟨_,rfl,τ ⟨.ref T,.ref T,false,rfl,fun u h=>h,Wf,?_⟩⟩;refine⟨_,rfl,τ ⟨.ty "ValueError",.type "ValueError",false,rfl,fun u h=>h,Wg,?_⟩⟩;exact⟨pB (n:=3),fun l hl=>Vw k1 k2 k3 U p D l hl⟩
def jd(a:List bJ):Prop:=∀t∈a,fG t
noncomputable def oF(a:eT):Str:=if a="on" then "up" else "on"
def EV(fn:cK):Prop:=∀p (rows:List bJ),jd rows->0<rows.length->rows.length<=100->∃r b,fn (pD p) [.L (rows.map ar)]=ac (r,b)/\∃(a:List bJ) (c:Int×Int),r.val=.L (a.map ar)/\b=pD c/\jd a/\a.length<=200
theorem Sy(T:Txt mg){fnD:cK}(U:ba P w K mg base "_law_draw" 1 (dz K 0 fnD))(J:km fnD){f:eH}{L:hU}(F:a9 K "_law_bent" "_law_bent" x8 f L):∃fn,aS P w K mg base bb 2 f L ["_law_purse_here","_law_rows"] (dz K 0 fn)/\EV fn:=by
 refine' nS F HC ρ ?V ?B
 case V=>intro cdv A outer s H E d;have nd:=HC.nd;cases T;have lk:mG "_law_purse_here":=⟨trivial⟩;walk_at "S"
 clear T F U;intro p rows d h0 hz;have M:3<=sizeLine:=∅
 have q:1<=sizeLine:=∅
 have lr:bZ (.L<|rows.map ar)=ac rows.length:=by simp[bZ]
 refine' rX ρ ?w;show WS _ [.io (pD p),.D<|.L<|rows.map ar,.no,.no,.no,.no,.no] _;obtain⟨v0,N,W,a0,b0⟩:=J p (m:=(rows.length:Int)) ∅ ∅;obtain⟨a,rfl⟩:=Rr a0;have X:a<rows.length:=∅
 obtain⟨⟨b,x,n⟩,O⟩:∃t,rows[a]?=ac t:=⟨_,bg X⟩;obtain⟨o1,o2,Q⟩:=d _<|fB O;have Y:cy (.L<|rows.map ar) (.int (a:Int))=ac (ar (b,x,n)):=by rw[kj];exact iO (by rw[ez,O];rfl)
 obtain⟨v1,l,Z,a1,b1⟩:=J N (m:=5) ⋯ ⋯;refine' af<|aD (dB ρ (aa (cu ρ lr) ah) ρ W ρ) ρ<|ai ?_;refine' af<|Ay (δ2:=[.io (pD N),.D<|.L<|rows.map ar,.D<|.int a,.D<|.str b,.D<|.str x,.D<|.str n,.no]) (bu ρ ρ ρ Y) ρ<|ai ?_;refine' af<|aD (dB ρ (aa ρ ah) ρ Z ρ) ρ<|ai ?_;have sF:∀k:Nat,fD (.L<|rows.map ar) (ac (k:Int)) am=ac (.O<|.L<|(rows.drop k).map ar):=fun k=>by show ac (Res.O<|.L<|cutD (rows.map ar) (ac (k:Int)) am)=_;rw[oK,aaB]
 have y:∀k:Nat,fD (.L<|rows.map ar) am (ac (k:Int))=ac (.O<|.L<|(rows.take k).map ar):=fun k=>by show ac (Res.O<|.L<|cutD (rows.map ar) am<|ac (k:Int))=_;rw[nH,aaA]
 have ad:∀xs ys:List bJ,xs.length+ys.length<=1000->i5 (.L<|xs.map ar) (.L<|ys.map ar)=ac (.O<|.L<|(xs++ys).map ar):=fun xs ys h=>by rw[hI];exact kG (by rw[ax,ax];unfold eu;omega)
 have r:jd (rows.take a):=fun t c=>d t<|ZY c;have u:jd (rows.drop<|a+1):=fun t c=>d t<|acn c;have g:(rows.take a).length=a:=by rw[l5];omega
 have o:(rows.drop<|a+1).length=rows.length-(a+1):=y4;have i:∀{xs ys:List bJ},jd xs->jd ys->jd (xs++ys):=fun h1 h2 t c=>by
  rcases hY.1 c with z|z
  ·exact h1 t z
  exact h2 t z
 have R:∀{t:bJ},fG t->jd [t]:=fun h t c=>by rw[kH.1 c];exact h
 have S:((a:Int)+1)=((a+1:Nat):Int):=∅
 have j:fD (.L<|rows.map ar) (ac<|(a:Int)+1) am=ac (.O<|.L<|(rows.drop<|a+1).map ar):=by rw[S];exact sF<|a+1
 have v:∀t:bJ,fG t->((rows.take a++[t]).length+(rows.drop<|a+1).length<=1000/\(rows.take a).length+[t].length<=1000/\jd ((rows.take a++[t])++rows.drop (a+1))/\((rows.take a++[t])++rows.drop (a+1)).length<=200):=fun t c=>⟨by rw[gd,g,o];show a+1+_<=_;omega,by rw[g];show a+1<=_;omega,i (i r<|R c) u,by rw[gd,gd,g,o];show a+1+_<=_;omega⟩;have eo:=mC o1.ok kc.2.ok;have ei:oG [.bl (bd<|b="on")]=ac (.D<|.int (if b="on" then 1 else 0)):=by
  by_cases e:b="on"
  ·rw[if_pos e,decide_eq_true e];rfl
  rw[if_neg e,decide_eq_false e];rfl
 have iw:cy (.L [.str "on",.str "up"]) (.int (if b="on" then 1 else 0))=ac (.str<|oF b):=by
  unfold oF;by_cases e:b="on"
  ·rw[if_pos e,if_pos e];rfl
  rw[if_neg e,if_neg e];rfl
 have ow:bh (oF b):=by
  unfold oF;split
  ·exact kc.1
  exact kc.2
 refine af<|bK (aE<|ak ρ ρ<|eq_int _ _) (fun _=>?_)<|fun _=>aw<|ai ?_
 ·refine af<|aZ (ak (ag (ki ρ ρ<|y a) ρ) (ag (lJ ρ (ag (ak ρ ρ ρ) ρ) j) ρ)<|ad _ _ (by rw[g,o];omega))<|bO ⟨_,_,_,ρ,ρ,rows.take a++rows.drop (a+1),l,ρ,ρ,i r u,by rw[gd,g,o];omega⟩
 refine af<|bK (aE<|ak ρ ρ<|eq_int _ _) (fun _=>?_)<|fun _=>aw<|ai ?_
 ·obtain⟨C,D,G,I⟩:=v (b,n,x) ⟨o1,Q,o2⟩;exact af<|aZ (ak (ag (ak (ag (ki ρ ρ<|y a) ρ) (ag (bM (aa (cw (aa ρ<|aa ρ<|aa ρ ah) M) ah) q) ρ)<|ad _ [(b,n,x)] D) ρ) (ag (lJ ρ (ag (ak ρ ρ ρ) ρ) j) ρ)<|ad _ _ C)<|bO ⟨_,_,_,ρ,ρ,_,l,ρ,ρ,G,I⟩
 refine af<|bK (aE<|ak ρ ρ<|eq_int _ _) (fun _=>?_)<|fun _=>aw<|ai ?_
 ·obtain⟨C,D,G,I⟩:=v ((oF b),x,n) ⟨ow,o2,Q⟩;exact af<|aZ (ak (ag (ak (ag (ki ρ ρ<|y a) ρ) (ag (bM (aa (cw (aa (ic (ag (bM (aa ρ<|aa ρ ah) (show 2<=eu by unfold eu;decide)) ρ) (ag (aB (aa (ag (ak ρ ρ eo) ρ) ah) ei) ρ) iw)<|aa ρ<|aa ρ ah) M) ah) q) ρ)<|ad _ [((oF b),x,n)] D) ρ) (ag (lJ ρ (ag (ak ρ ρ ρ) ρ) j) ρ)<|ad _ _ C)<|bO ⟨_,_,_,ρ,ρ,_,l,ρ,ρ,G,I⟩
 exact af<|aZ ρ<|bO ⟨_,_,_,ρ,ρ,rows,l,ρ,ρ,d,∅⟩
def iU(i:Nat):Stmt:=(fV lI).getD i (.Pass ⟨0,0,0,0⟩)
abbrev BX(P:lq)(w:qh)(K:gW)(mg:eT->Option dk)(base:pq)(f:eH)(a:dk)(A:pk)(outer:List Env)(s:eK)(H:Hp)(E:XK):Cx:=(dQ bb P w K mg base ["_law_purse_here","_law_web_here","_law_rows","_law_at","_law_kind"] "_law_bent_web" (aK lI) f a A outer s H E).iA
def J':fV lI=iU 0::([iU 1,iU 2]++(iU 3::[iU 4,iU 5])):=ρ
abbrev UQ(K:gW):List V->Hp->VK->Prop:=λxs H Q=>∃p ys,xs=[.ref p]/\(cg K H p ys\/bq K H p ys)/\∀l,H l=am->Q (.ref l) (upd H l<|.L ys)
abbrev Eh(K:gW):TE:=p9 (eO [am,am,am]) (EN K<|kP 1) (FK K 2<|zN (mQ 1)<|zN (mQ 2) F6) vB<|y8<|lV (kP 1)<|lV (uG (UQ K)<|lV (kP 2) pQ) pQ
section
variable{f:eH}{cdv:dk}{A:pk}{outer:List Env}{s:eK}{H:Hp}{E:XK}
def Qa(T:Txt mg):PS (BX P w K mg base f cdv A outer s H E) (iU 0) (rY (Eh K)<|mQ 2):=by
 have nd:=pH.nd;cases T;refine AZ (NB:=[".0","_law_room","_law_row"]) nd ρ (by first|exact abQ ρ|exact abP ρ) ρ (o7 ρ) ρ (Fj<|pv 1) (λcl C s3 H fp=>⟨?_,C8,?_⟩) ρ (λ_=>rfl) (by first|exact abQ ρ|exact abP ρ)
 ·exact G1 ρ<|wj (zq (pV ρ) ρ (by first|exact abQ ρ|exact abP ρ))<|wj (zq (pV ρ) ρ (by first|exact abQ ρ|exact abP ρ)) Aw
 exact rh<|bX (pv 1)<|bX (rl Ce ρ ‹_› (by decide +kernel) (bX (pv 2) dW)) dW
end
structure vt (He H:Hp) (D:eH) (web:ay) (ts rs:List eH):Prop where
 lt:ts.length=web.length
 lr:rs.length=web.length
 at_:∀(j:Nat) t r p,ts[j]?=ac t->rs[j]?=ac r->web[j]?=ac p->H t=ac (.U [.str p.1,.ref r])/\H r=ac (.L<|p.2.map V.str)
 nd:rs.Nodup
 nr:∀r∈rs,He r=am/\r≠D
 nt:∀t∈ts,He t=am/\t≠D
def some_at{a:Type}{l:List a}{j:Nat}(h:j<l.length):∃x,l[j]?=ac x:=⟨_,bg h⟩
def vt.has (h:vt c H D web a rs)(d:r∈rs):∃xs,H r=ac (.L xs):=by obtain⟨j,b⟩:=aco d;have lj:=(bt.1 b).1;have l1:=h.lt;have l2:=h.lr;obtain⟨t,e⟩:=some_at (l:=a) (j:=j) ∅;obtain⟨p,f⟩:=some_at (l:=web) (j:=j) ∅;exact⟨_,(h.at_ j t r p e b f).2⟩
theorem UD (T:N[1]?=ac (ac<|.ref G))(B:cg K H G vs)(hl:vs.length=web.length)(bz:web.length<=8)(U:∀(j:Nat) p,web[j]?=ac p->∃a r,vs[j]?=ac (.ref a)/\bq K H a [.str p.1,.ref r]/\cg K H r (p.2.map V.str))(W:∀D c d rs,aj H c->H D=am->c D=ac (.L<|d.map V.ref)->vt H c D web d rs->Q (.ref D) c):Eh K N H Q:=by
 refine⟨_,T,G,ρ,⟨_,B⟩,λD I=>⟨λi m C c=>m=web.length-i/\i<=web.length/\C.length=3/\aj H c/\∃d rs,c D=ac (.L<|d.map V.ref)/\vt H c D (web.take i) d rs,⟨_,ρ,pe _,ρ,dS I,[],[],aV,⟨ρ,ρ,λj t r p e=>(by simp at e),aap,λr h=>(nomatch h),λr h=>(nomatch h)⟩⟩,?_⟩⟩;rintro i m C c ⟨rfl,hi,l3,f,d,rs,hd,nw⟩;have q:=cg.mono f B;have lt:=nw.lt;have lr:=nw.lr;simp at lt lr;by_cases E:i<web.length
 ·obtain⟨p,ep⟩:=some_at E;obtain⟨a,X,O,J,Y⟩:=U i p ep;refine τ ⟨⟨vs,_,q,O⟩,λx F y=>?_⟩;obtain⟨e,y⟩:=y;subst e;have:=y vs q;rw[O] at this;obtain rfl:=sO this;refine⟨a,_,ρ,bq.mono f J,ρ,_,_,ρ,_,_,ρ,ρ,?_⟩;delta vB;dsimp only;refine⟨_,by rw[n3 ⋯];exact ql ∅,_,ql (by rw[yv];omega),X,_,ρ,ι<|cg.mono f Y,λl v=>⟨by show 2<=eu;unfold eu;decide,λt g=>?_⟩⟩;have R:t≠l:=λz=>by rw[z,aV] at g;cases g
  rw[au R] at g;have L:D≠l:=λz=>by rw[z,v] at hd;exact nO hd
  have M:D≠t:=λz=>by rw[z,g] at hd;exact nO hd
  have ok:∀b o,F b=ac o->b≠D->upd (upd (upd F l<|.L<|p.2.map V.str) t<|.U [.str p.1,.ref l]) D (.L<|d.map V.ref++[.ref t]) b=ac o:=λb o e n=>by
   have Z:b≠t:=λz=>by rw[z,g] at e;exact nO e
   have b2:b≠l:=λz=>by rw[z,v] at e;exact nO e
   rw[au n,au Z,au b2];exact e
  have nl:H l=am:=by
   cases e:H l with
   | none=>rfl
   | some o=>have:=f l o e;rw[v] at this;exact nO this
  have nt:H t=am:=by
   cases e:H t with
   | none=>rfl
   | some o=>have:=f t o e;rw[g] at this;exact nO this
  refine⟨_,by rw[au M,au L];exact hd,by rw[ax];unfold eu;lia,web.length-(i+1),∅,rfl,E,by rw[yv,yv];exact l3,λb o e=>ok b o (f b o e) λz=>(by rw[z,I] at e;exact nO e),d++[t],rs++[l],by rw[aV,hI];rfl,?_⟩;rw[cZ ep];refine⟨by simp only[gd,gd,nw.lt];rfl,by simp only[gd,gd,nw.lr];rfl,λj u r p' k s A=>?_,?_,λr h=>?_,λr h=>?_⟩
  ·by_cases hj:j<i
   ·rw[qt (by lia)] at k s;rw[qt (by rw[l5];lia)] at A;obtain⟨h1,h2⟩:=nw.at_ j u r p' k s A;exact⟨ok _ _ h1 (nw.nt u<|fB k).2,ok _ _ h2 (nw.nr r<|fB s).2⟩
   have ji:j=i:=by have:=(bt.1 k).1;simp at this;lia
   subst ji;rw[ph (by lia),show j-d.length=0 by lia] at k;rw[ph (by lia),show j-rs.length=0 by lia] at s;rw[ph (by rw[l5];lia),l5,show j-min j web.length=0 by lia] at A;obtain rfl:=sO k;obtain rfl:=sO s;obtain rfl:=sO A;exact⟨by rw[au M.symm,aV],by rw[au L.symm,au R.symm,aV]⟩
  ·refine zb.2 ⟨nw.nd,⋯,λa J b hb e=>?_⟩;rw[kH.1 hb] at e;subst e;obtain⟨xs,S⟩:=nw.has J;rw[v] at S;exact nO S
  ·rcases hY.1 h with h|h
   ·exact nw.nr r h
   rw[kH.1 h];exact⟨nl,L.symm⟩
  rcases hY.1 h with h|h
  ·exact nw.nt r h
  rw[kH.1 h];exact⟨nt,M.symm⟩
 have ei:i=web.length:=by lia
 subst ei;rw[mv] at nw;exact ι ⟨⟨vs,q,by lia⟩,W D c d rs f I hd nw⟩
theorem tL:∀{ds:List Dat}{vs:List V},ds.length=vs.length->(∀(j:Nat) d v,ds[j]?=ac d->vs[j]?=ac v->Rep K H d v)->aA K H ds vs
 | [],[],_,_=>rfl
 | [],_::_,h,_=>by simp at h
 | _::_,[],h,_=>by simp at h
 | d::ds,v::vs,h,k=>⟨v,vs,ρ,k 0 d v ρ ρ,tL (by simpa using h) λj d v a b=>k (j+1) d v (a)<|b⟩
noncomputable def hX(web:ay)(rs:List eH):List Dat:=(web.zip rs).map λz=>.U [.str z.1.1,.adr z.2]
def FQ (h:rs.length=web.length):(hX web rs).length=web.length:=by delta hX;rw[ax,afi,h,Nat.min_self]
def J7{web:ay}{rs:List eH}{j:Nat}{p:eT×List eT}{r:eH}(a:web[j]?=ac p)(b:rs[j]?=ac r):(hX web rs)[j]?=ac (.U [.str p.1,.adr r]):=by have:(web.zip rs)[j]?=ac (p,r):=HT.2 ⟨a,b⟩;delta hX;rw[ez,this];rfl
def yA{web:ay}{rs:List eH}{j:Nat}{d:Dat}(e:(hX web rs)[j]?=ac d):∃p r,web[j]?=ac p/\rs[j]?=ac r/\d=.U [.str p.1,.adr r]:=by delta hX at e;rw[ez] at e;obtain⟨z,c,rfl⟩:=gj.1 e;obtain⟨a,b⟩:=HT.1 c;exact⟨_,_,a,b,ρ⟩
def qE:Rep K b (.U [.str n,.adr r]) v ↔ ∃t,v=.ref t/\bq K b t [.str n,.ref r]:=by
 constructor
 ·rintro⟨t,us,rfl,a,c,_,rfl,d,e,_,rfl,f,rfl⟩;cases (d);cases (f);exact⟨t,ρ,a⟩
 rintro⟨t,rfl,a⟩;exact⟨t,_,ρ,a,_,_,ρ,ρ,_,_,ρ,ρ,ρ⟩
def QM (c:bq K a t us)(h:∀o,a t=ac o->(∀xs,o≠.L xs)->(∀q xs,o≠.bB q (.L xs))->b t=ac o):bq K b t us:=by
 rcases c with d|k
 ·rcases d with e|⟨o,e⟩
  ·exact ι<|ι (h _ e (λ_ z=>by cases z) λ_ _ z=>by cases z)
  exact ι<|τ ⟨o,h _ e (λ_ z=>by cases z) λ_ _ z=>by cases z⟩
 exact τ k
noncomputable def dr(fnD:cK)(p:Int×Int)(m:Nat):Nat×(Int×Int):=Classical.epsilon λz=>fnD (pD p) [.int (m:Int)]=ac (.D<|.int (z.1:Int),pD z.2)/\z.1<m
def vE{fnD:cK}(c:km fnD)(p:Int×Int){m:Nat}(h:0<m)(h':m<=1000):fnD (pD p) [.int (m:Int)]=ac (.D<|.int ((dr fnD p m).1:Int),pD (dr fnD p m).2)/\(dr fnD p m).1<m:=by refine Classical.epsilon_spec (p:=λz:Nat×(Int×Int)=>fnD (pD p) [.int (m:Int)]=ac (.D<|.int (z.1:Int),pD z.2)/\z.1<m) ?_;obtain⟨v,q,e,a,b⟩:=c p (m:=(m:Int)) ∅ ∅;obtain⟨n,rfl⟩:=Rr a;exact⟨(n,q),e,∅⟩
def NL (h:c=bi)(a:A):if c=bi then A else B:=by rw[if_pos h];exact a
def TN (h:c=bv)(b:B):if c=bi then A else B:=by rw[h];exact b
def Nn (h:WS s δ λa=>a=o):s δ=ac o:=by obtain⟨_,e,rfl⟩:=h;exact e
section
variable{f:eH}{cdv:dk}{A:pk}{outer:List Env}{s:eK}{H:Hp}{E:XK}
def RY(T:Txt mg)(c:ba P w K mg base "_law_draw" 1 (dz K 0 fnD))(a:km fnD)(d:cb 1 (A.deeper<|aaJ "_law_bent_web" (aK lI) s.heap.objs.size f cdv)) :
  ∃b,vo (BX P w K mg base f cdv A outer s H E) [iU 1,iU 2] b/\∀(p:Int×Int) (W:Dat) (R:List Dat),0<R.length->R.length<=10 ->
   b [.io (pD p),.D W,.O<|.L R,.no,.no]=ac (.next [.io (pD (dr fnD (dr fnD p R.length).2 4).2),.D W,.O<|.L R,.D<|.int ((dr fnD p R.length).1:Int),.D<|.int ((dr fnD (dr fnD p R.length).2 4).1:Int)]):=by
 cases T;refine'⟨_,?B,?C⟩
 case B=>walk_at "dskc"
 intro p W R e h1;obtain⟨g,lt⟩:=vE a p e (by lia);obtain⟨h,_⟩:=vE a (dr fnD p R.length).2 (m:=4) ⋯ ⋯;refine Nn ?_;exact af<|aD (dB ρ (aa (cu ρ ρ) ah) ρ g ρ) ρ<|ai<|af<|aD (dB ρ (aa ρ ah) ρ h ρ) ρ<|ai<|aw ρ
def Us:∃t,PS (BX P w K mg base f cdv A outer s H E) (iU 3) t/\∀(D:Ends) (c:St) (d:Hp) (e:eH) (vs xs:List V) (a k:Int) (b r:eH) (n:eT),c[2]?=ac (ac<|.ref e)->c[3]?=ac (ac<|.int a)->c[4]?=ac (ac<|.int k)->cg K d e vs->dc vs a=ac (.ref b)->bq K d b [.str n,.ref r]->d r=ac (.L xs)->(k=0->D.nx c (upd d r<|.L xs.reverse))->(k≠0->D.nx c d)->t D c d:=by
 refine⟨_,qT (pE HE (pv 4) kM<|FX _ ⋯ ⋯) (mO<|qZ<|Qj abC adS PySem.F.type_list_reverse Qe (oO vS (oO vI (pv 2) (pv 3)<|λ_ _=>rfl) kM<|λ_ _=>rfl) ρ ρ) vG,?_⟩;intro D c d e vs xs a k b r n i j l m o p h q u;refine⟨_,l,ρ,_,ρ,?_⟩;by_cases g:k=0
 ·refine NL (by simp[g]) ?_;refine⟨_,i,_,j,e,vs,a,_,ρ,ρ,m,o,b,_,1,_,ρ,ρ,p,ρ,?_⟩;exact⟨ι ⟨ρ,xs,ι<|ι h⟩,r,xs,ρ,ρ,h,q g⟩
 exact TN (by simp[g])<|u g
def Sm(T:Txt mg)(e:cb 1 (A.deeper<|aaJ "_law_bent_web" (aK lI) s.heap.objs.size f cdv)) :
  ∃b,fJ (BX P w K mg base f cdv A outer s H E) [iU 4,iU 5] b/\∀(c:Dat) (d:Slot) (R:List Dat) (a k:Nat),a<R.length->R.length<=10 ->
   WS b [.io c,d,.O<|.L R,.D<|.int (a:Int),.D<|.int (k:Int)] λo=>∃Z,o=.ret (.O<|.L (if k=1/\1<R.length then R.take a++R.drop (a+1) else R)) Z/\Z[0]?=ac (.io c):=by
 cases T;refine'⟨_,?B,?C⟩
 case B=>walk_at "S"
 intro c d R a k ha hl;have g:bZ (.L R)=ac R.length:=ρ;refine af (bK (jD (aE<|ak ρ ρ<|eq_int _ _)<|aE<|ak (cu ρ g) ρ<|iY ρ) (λz=>?_) λz=>?_)
 ·rw[hF,decide_eq_true_eq,decide_eq_true_eq] at z;rw[if_pos ⟨∅,∅⟩];have h:fD (.L R) am (ac (a:Int))=ac (.O<|.L<|R.take a):=by show ac (Res.O<|.L<|cutD R am<|ac (a:Int))=_;rw[nH]
  have i:fD (.L R) (ac<|(a:Int)+1) am=ac (.O<|.L<|R.drop<|a+1):=by show ac (Res.O<|.L<|cutD R (ac ((a+1:Nat):Int)) am)=_;rw[oK]
  exact af<|aZ (ak (ag (ki ρ ρ h) ρ) (ag (lJ ρ (ag (ak ρ ρ ρ) ρ) i) ρ)<|kG (by rw[l5,y4];unfold eu;omega))<|bO<|bO ⟨_,ρ,ρ⟩
 have z:(bd ((k:Int)=1)&&bd ((1:Int)<(R.length:Int)))=bv:=z;rw[if_neg λy=>by
  rw[decide_eq_true (show (k:Int)=1 by omega),decide_eq_true (show (1:Int)<(R.length:Int) by omega)] at z
  cases z]
 exact aw<|ai<|af<|aZ ρ<|bO ⟨_,ρ,ρ⟩
end
def yn(c:Dat)(ds:List Dat)(t:(Int×Int)×ay):Prop:=c=pD t.1/\ds=[.L (t.2.map pairD)]/\1<=t.2.length/\t.2.length<=8
noncomputable def gU(a k:Nat)(web:ay):ay:=if k=0 then web.modify a λp=>(p.1,p.2.reverse) else web
def jx(a k:Nat)(web:ay):ay:=if k=1/\1<web.length then (gU a k web).eraseIdx a else gU a k web
noncomputable def xt(fnD:cK)(t:(Int×Int)×ay):Res×Dat:=(.O<|.L<|(jx (dr fnD t.1 t.2.length).1 (dr fnD (dr fnD t.1 t.2.length).2 4).1 t.2).map pairD,pD (dr fnD (dr fnD t.1 t.2.length).2 4).2)
noncomputable def mP(fnD:cK):cK:=λc ds=>@dite _ (∃t,yn c ds t) (Z0 _) (λh=>ac<|xt fnD h.choose) λ_=>am
def CF (e:mP fnD c ds=ac r):∃t,yn c ds t/\r=xt fnD t:=by
 delta mP at e;split at e
 ·rename_i h;cases e;exact⟨_,h.choose_spec,ρ⟩
 cases e
noncomputable def TF:Slot->Bool
 | .D _=>false
 | _=>true
noncomputable def SN:Slot->Bool
 | .O _=>false
 | _=>true
noncomputable def Lu:Slot->Bool
 | .io _=>false
 | _=>true
def Jn{a:Nat->Dat->Prop}:∀(i:Nat) d,([]:DS)[i]?=ac (.D d)->a i d:=λi d e=>by cases e
theorem Al{a:Nat->Dat->Prop}(h:TF x=bi)(t:∀(i:Nat) d,l[i]?=ac (.D d)->a (i+1) d):∀(i:Nat) d,(x::l)[i]?=ac (.D d)->a i d
 | 0,d,e=>by have e:=Option.some.inj e;rw[e] at h;cases h
 | i+1,d,e=>t i d e
theorem B7{a:Nat->Dat->Prop}(h:a 0 y)(t:∀(i:Nat) d,l[i]?=ac (.D d)->a (i+1) d):∀(i:Nat) d,(.D y::l:DS)[i]?=ac (.D d)->a i d
 | 0,d,e=>by
  cases e;exact h
 | i+1,d,e=>t i d e
def BE (h:(A++y::B)[i]?=ac x):(i=A.length/\x=y)\/x∈A++B:=by
 rw[List.getElem?_append] at h;split at h
 ·exact τ<|z6 _<|fB h
 rename_i hi;by_cases c:i-A.length=0
 ·rw[c] at h;exact ι ⟨∅,(Option.some.inj h).symm⟩
 obtain⟨n,a⟩:∃n,i-A.length=n+1:=⟨i-A.length-1,∅⟩;rw[a] at h;exact τ<|pL _<|fB h
def yk (b:(A++B).all SN=bi)(h:(A++.O d::B)[i]?=ac (.O c)):i=A.length/\c=d:=by
 rcases BE h with⟨a,e⟩|z
 ·cases e;exact⟨a,ρ⟩
 cases hE.1 b _ z
def vZ (b:(A++B).all Lu=bi)(h:(A++.io d::B)[i]?=ac (.io c)):i=A.length/\c=d:=by
 rcases BE h with⟨a,e⟩|z
 ·cases e;exact⟨a,ρ⟩
 cases hE.1 b _ z
def Rp{c:St}{a b p:eH}(n:a≠b)(f:c[0]?=ac (ac<|.ref a))(g:c[2]?=ac (ac<|.ref b)){i j:Nat}(h:i=2\/i=0)(k:j=2\/j=0)(d:c[i]?=ac (ac<|.ref p))(e:c[j]?=ac (ac<|.ref p)):i=j:=by
 rcases h with rfl|rfl<;>rcases k with rfl|rfl
 ·rfl
 ·rw[g] at d;rw[f] at e;cases d;cases e;exact absurd ρ n
 ·rw[f] at d;rw[g] at e;cases d;cases e;exact absurd ρ n
 rfl
def D4(a k)(web):(gU a k web).length=web.length:=by delta gU;split<;>simp
def A2{a:Hp}{L:List Dat}{W:ay}{vs:List V}(hl:L.length=W.length)(h:∀(j:Nat) d y,L[j]?=ac d->W[j]?=ac y->∃r,d=.U [.str y.1,.adr r]/\a r=ac (.L<|y.2.map V.str))(b:aA K a L vs):aA K a (W.map pairD) vs:=by have l2:=b.length;refine tL (by rw[ax];omega) λj d v c i=>?_;rw[ez] at c;obtain⟨y,e,rfl⟩:=gj.1 c;obtain⟨d,f⟩:=some_at (by rw[hl];exact (bt.1 e).1);obtain⟨r,rfl,k⟩:=h j d y f e;obtain⟨v',g,m⟩:=b.get f;rw[i] at g;cases g;obtain⟨t,rfl,n⟩:=qE.1 m;exact⟨t,_,ρ,n,_,_,ρ,ρ,_,_,ρ,⟨r,_,ρ,ι k,lO _⟩,ρ⟩
theorem U7(T:Txt mg){fnD:cK}(q1:ba P w K mg base "_law_draw" 1 (dz K 0 fnD))(sD:km fnD){f:eH}{fd:hU}(F:a9 K "_law_bent_web" "_law_bent_web" lI f fd):aS P w K mg base bb 2 f fd ["_law_purse_here","_law_web_here"] (dz K 0<|mP fnD):=by
 refine F.ok pH (fun vs H Q E h=>?_)<|fun cdv A outer s H vs Q E hr h=>?_
 ·obtain⟨G,L,c,ds,r,c',M,ej,oc,O,e,_⟩:=h;obtain⟨⟨p,web⟩,⟨rfl,rfl,_⟩,_⟩:=CF e;cases vs with
  | nil=>cases ej
  | cons v vr=>have O:aA K G [.L (web.map pairD)] vr:=O;rw[gk,O.length];rfl
 obtain⟨G,L,c,ds,r,c',M,ej,oc,O,e,kk⟩:=h;obtain⟨⟨p,web⟩,⟨rfl,rfl,h1,h8⟩,e0⟩:=CF e;dsimp only at h1 h8;have S0:=FH (N:=["_law_purse_here","_law_web_here","_law_rows","_law_at","_law_kind"]) M (by
  cases vs with
  | nil=>exact pe _
  | cons v vr=>have O:aA K G [.L (web.map pairD)] vr:=O;rw[gk,O.length];show 1+1<=5;decide) ej oc O
 have nd:=pH.nd;obtain⟨f1,d1,u⟩:=RY T q1 sD hr;obtain⟨t3,P3,s3⟩:=Us;obtain⟨f4,⟨t4,p4,q4⟩,e4⟩:=Sm T hr;obtain⟨t1,P1,Q1⟩:=d1.ex _ _<|m9 P3 p4;have P0:=m9 (Qa T) P1;rw[<-J'] at P0;refine⟨_,P0,?_⟩;clear P0 P1 P3 p4 d1 q1 T F;obtain⟨rfl,rfl⟩:r=.O (.L<|(jx (dr fnD p web.length).1 (dr fnD (dr fnD p web.length).2 4).1 web).map pairD)/\c'=pD (dr fnD (dr fnD p web.length).2 4).2:=Prod.mk.inj (show (r,c')=_ from e0);clear e e0;obtain⟨vW,zW,pw,ws,rfl,Wm,VL⟩:=S0.D 1 (.L<|web.map pairD) ρ;unfold AM rY;refine UD zW (ι<|Rd.mono M Wm) (by rw[VL.length,ax]) h8 (fun j y R=>?_) fun D Y J rs Vx hD hd nw=>?_
 ·obtain⟨v,ev,a,us,rfl,sq,v1,_,rfl,x1,v2,_,rfl,⟨r,zs,rfl,rd,rz⟩,rfl⟩:=VL.get (by rw[ez,R];rfl);cases (show v1=.str y.1 from x1);rw[BI rz] at rd;exact⟨a,r,ev,bq.mono M sq,ι<|Rd.mono M rd⟩
 have S:∀{b},H b=am->G b=am:=fun {b} e=>by
  cases e':G b with
  | none=>rfl
  | some o=>rw[M b o e'] at e;cases e
 have lr:=nw.lr;have lt:=nw.lt;have sI:aj G fun b=>if b∈J\/b∈rs then Y b else G b:=fun b o e=>by
  have x:¬(b∈J\/b∈rs):=fun z=>by have:H b=am:=z.elim (fun z=>(nw.nt b z).1) fun z=>(nw.nr b z).1;rw[S this] at e;cases e
  simp only[if_neg x,e]
 have Wp:aj (fun b=>if b∈J\/b∈rs then Y b else G b) Y:=fun b o e=>by
  dsimp only at e;by_cases x:b∈J\/b∈rs
  ·rw[if_pos x] at e;exact e
  rw[if_neg x] at e;exact Vx b o<|M b o e
 have rI:∀(j:Nat) r y,rs[j]?=ac r->web[j]?=ac y->(fun b=>if b∈J\/b∈rs then Y b else G b) r=ac (.L<|y.2.map V.str):=fun j r y u g=>by obtain⟨t,et⟩:=some_at (by rw[lt,<-lr];exact (bt.1 u).1);exact (if_pos<|τ<|fB u).trans (nw.at_ j t r y et u g).2
 have rR:aA K (fun b=>if b∈J\/b∈rs then Y b else G b) (hX web rs) (J.map V.ref):=by refine tL (by rw[FQ lr,ax,lt]) fun j d v u g=>?_;obtain⟨y,r,R,U,rfl⟩:=yA u;rw[ez] at g;obtain⟨t,et,rfl⟩:=gj.1 g;exact qE.2 ⟨t,ρ,ι<|ι<|(if_pos<|ι<|fB et).trans (nw.at_ j t r y et U R).1⟩
 have iD:(fun b=>if b∈J\/b∈rs then Y b else G b) D=am:=by have x:¬(D∈J\/D∈rs):=fun z=>z.elim (fun z=>(nw.nt D z).2 ρ) fun z=>(nw.nr D z).2 ρ;exact (if_neg x).trans (S hD)
 obtain⟨VM,VN⟩:=S0.after (v:=.ref D) (r:=.O<|.L<|hX web rs) Vx sI Wp (fun b o e=>by
  by_cases x:b∈J\/b∈rs
  ·exact τ<|ι (x.elim (fun z=>(nw.nt b z).1) fun z=>(nw.nr b z).1)
  rw[if_neg x] at e;exact ι e) ⟨D,ρ,⟨_,hd,rR,iD⟩,hD⟩
 have S1:=VM.put (i:=2) VN (δ':=[.io (pD p),.D<|.L<|web.map pairD,.O<|.L<|hX web rs,.no,.no]) ρ;clear VM VN rR;generalize (fun b=>if b∈J\/b∈rs then Y b else G b)=Hi1 at *;have jQ:=nw.nd;have V4:∀r∈rs,H r=am:=fun r hr=>(nw.nr r hr).1;clear nw Vx hd hD iD lt;have lR:=FQ lr;have Vy:=u p (.L<|web.map pairD) (hX web rs) ∅ ∅;rw[lR] at Vy;refine Q1 _ _ _ _ _ _ _ _ Vy S1 fun Vz H2 Vt I s2=>?_;obtain⟨_,la⟩:=vE sD p (m:=web.length) ∅ ∅;generalize (dr fnD p web.length).1=a at *;generalize dr fnD (dr fnD p web.length).2 4=kp at *;obtain⟨k,p2⟩:=kp;dsimp only at I kk;clear u Vy Q1 S1;have W:∀{b},gA (fun k=>if k=0 then ac L else am) b->b=L:=fun {b} ⟨k,z⟩=>by
  dsimp only at z;split at z
  ·cases z;rfl
  cases z
 have VO:aj G Vt:=sI.trans s2;obtain⟨D,z2,⟨vr,VP,VA,nD⟩,Ww,VQ⟩:=I.O 2 _ ρ;obtain⟨va,z3,xa⟩:=I.D 3 _ ρ;cases (show va=.int (a:Int) from xa);obtain⟨vk,z4,xk⟩:=I.D 4 _ ρ;cases (show vk=.int (k:Int) from xk);obtain⟨y,R⟩:=some_at la;obtain⟨r,U⟩:=some_at (l:=rs) (j:=a) ∅;obtain⟨v,ev,rv⟩:=VA.get<|J7 R U;obtain⟨b,rfl,sb⟩:=qE.1 rv;have r2:∀(j:Nat) r y,rs[j]?=ac r->web[j]?=ac y->Vt r=ac (.L<|y.2.map V.str):=fun j r y u g=>s2 _ _<|rI j r y u g;have VR:∀(H3 Vu:Hp) (t1:Slot),SR K (H,G) (fun k=>if k=0 then ac L else am) [.io (pD p2),t1,.O<|.L<|hX web rs,.D<|.int (a:Int),.D<|.int (k:Int)] Vz H3 Vu->aj G Vu->(∀(j:Nat) r C,rs[j]?=ac r->(gU a k web)[j]?=ac C->Vu r=ac (.L<|C.2.map V.str))->t4 {nx:=fun _ H'=>Q .aF H',rt:=Q} Vz H3:=fun H3 Vu t1 S3 Wz hw=>by
  obtain⟨o,eo,Z,rfl,hZ⟩:=e4 (pD p2) t1 (hX web rs) a k ∅ ∅;refine q4 _ _ _ _ _ _ _ _ eo S3 fun v σ8 H8 VS S8 s8 rr=>?_;obtain⟨pr,rfl,⟨WH,WI,X,i8⟩,_,WJ,_⟩:=rr;obtain⟨VB,_,WK,e8⟩:=S8.io 0 _ hZ;cases (show ac L=ac VB from e8);refine kk (.ref pr) H8 VS (fun b o e n=>S8.keep b o e fun h=>n<|W h) (Wz.trans s8) S8.sub (fun b o e=>S8.nw b o e) WK ⟨pr,ρ,⟨WH,WI,?_,i8⟩,WJ⟩;have lw:=D4 a k web;have one:∀(j:Nat) d C,(hX web rs)[j]?=ac d->(gU a k web)[j]?=ac C->∃r,d=.U [.str C.1,.adr r]/\VS r=ac (.L<|C.2.map V.str):=fun j d C u g=>by
   obtain⟨y0,r0,VC,VT,rfl⟩:=yA u;refine⟨r0,?_,s8 _ _<|hw j r0 C VT g⟩;have:C.1=y0.1:=by
    unfold gU at g;split at g
    ·rw[aa5,VC] at g;split at g<;>cases g<;>rfl
    rw[VC] at g;cases g;rfl
   rw[this]
  unfold jx;rw[lR] at X;split at X
  ·rename_i hc;rw[if_pos hc];rw[<-List.eraseIdx_eq_take_drop_succ] at X;refine A2 (by rw[aaq ∅,aaq ∅];omega) (fun j d C u g=>?_) X;rw[List.getElem?_eraseIdx] at u g;split at u
   ·rename_i hj;rw[if_pos hj] at g;exact one j d C u g
   rename_i hj;rw[if_neg hj] at g;exact one _ d C u g
  rename_i hc;rw[if_neg hc];exact A2 ∅ one X
 refine s3 _ Vz H2 D vr (y.2.map V.str) (a:Int) (k:Int) b r y.1 z2 z3 z4 (cg.of VP) (iO ev) (bq.mono I.sub sb) (I.sub _ _<|r2 a r y U R) (fun hk=>?_) fun hk=>?_
 ·have k0:k=0:=∅
  have mr:=fB U;have Vv:=V4 r mr;have VU:=r2 a r y U R;have VV:H L≠am:=by obtain⟨⟨o,e⟩,_⟩:=oc.some;rw[e];simp
  have VD:L≠r:=fun z=>VV<|z ▸ Vv;have VW:D≠r:=fun z=>by rw[z,VU] at nD;cases nD
  have WM:L≠D:=fun z=>VV<|z ▸ VQ;obtain⟨VB,z0,⟨WO,h0,WQ,i0⟩,WR⟩:=I.io 0 _ ρ;cases (show ac L=ac VB from WR)
  refine VR (upd H2 r<|.L (y.2.map V.str).reverse) (upd Vt r<|.L (y.2.map V.str).reverse) .no {
   sub:=fun b o e=>by
    by_cases x:b=r
    ·rw[x,aV] at e ⊢;exact e
    rw[au x] at e ⊢;exact I.sub b o e
   keep:=fun b o e n=>by
    have x:b≠r:=fun z=>by have e:H b=ac o:=e;rw[z,Vv] at e;cases e
    rw[au x];exact I.keep b o e n
   eY:=fun b h=>by have x:=W h;rw[au fun q=>VD<|x ▸ q];exact I.eY b h
   D:=Al ρ <| Al rfl <| Al rfl <| B7 ⟨_,z3,rfl⟩ <| B7 ⟨_,z4,rfl⟩ Jn
   O:=fun i c e=>by
    obtain⟨rfl,rfl⟩:=yk (A:=[_,_]) (B:=[_,_]) ρ e;refine⟨D,z2,⟨vr,by rw[au VW];exact VP,?_,by rw[au VW];exact nD⟩,Ww,VQ⟩;refine tL VA.length.symm fun j d v u g=>?_;obtain⟨y0,r0,VC,VT,rfl⟩:=yA u;obtain⟨v',VX,WT⟩:=VA.get u;rw[g] at VX;cases VX;obtain⟨t,rfl,sq⟩:=qE.1 WT;refine qE.2 ⟨t,ρ,QM sq fun o e n1 n2=>?_⟩;have ht:t≠r:=fun z=>by rw[z,VU] at e;cases e;exact n1 _ ρ
    rw[au ht];exact e
   io:=fun i c e=>by obtain⟨rfl,rfl⟩:=vZ (A:=[]) (B:=[_,_,_,_]) ρ e;exact⟨L,z0,⟨WO,by rw[au VD];exact h0,WQ,by rw[au VD];exact i0⟩,ρ⟩
   ne:=fun i j c c' b a1 a2 b1 b2=>Rp WM z0 z2 (a1.imp (fun e=>(yk (A:=[_,_]) (B:=[_,_]) ρ e).1) fun e=>(vZ (A:=[]) (B:=[_,_,_,_]) ρ e).1) (a2.imp (fun e=>(yk (A:=[_,_]) (B:=[_,_]) ρ e).1) fun e=>(vZ (A:=[]) (B:=[_,_,_,_]) ρ e).1) b1 b2
   len:=I.len
   nw:=fun b o e=>by
    by_cases x:b=r
    ·exact τ<|ι<|x ▸ Vv
    rw[au x] at e;exact I.nw b o e} (fun b o e=>?_) fun j r' C u g=>?_
  ·have x:b≠r:=fun z=>by have:=M b o e;rw[z,Vv] at this;cases this
   rw[au x];exact VO b o e
  unfold gU at g;rw[if_pos k0,aa5] at g;by_cases hj:r'=r
  ·subst hj;have:=sx jQ u U;subst this;rw[R] at g;simp at g;subst g;rw[aV,ae3]
  rw[au hj];have WU:¬a=j:=fun z=>hj (by rw[<-z,U] at u;cases u;rfl);exact r2 j r' C u (by simpa[WU] using g)
 refine VR H2 Vt _ I VO fun j r' C u g=>?_;unfold gU at g;rw[if_neg ∅] at g;exact r2 j r' C u g
def D2(fn:aY):Prop:=∀ns:List Int,ns.length<=63->(∀n∈ns,jY n)->fn [.cV ns]=ac (.D<|.bl true)
def N1 (h:pD p=pD c):p=c:=by injection h with h;injection h with b a;injection b with b;injection a with a;injection a with a;exact adv b a
def Tn (p)(d:1<=web.length)(e:web.length<=8):mP fnD (pD p) [.L (web.map pairD)]=ac (xt fnD (p,web)):=by have ex:∃t,yn (pD p) [.L (web.map pairD)] t:=⟨(p,web),ρ,ρ,d,e⟩;delta mP;rw[dif_pos ex];obtain⟨a,b,_⟩:=ex.choose_spec;generalize ex.choose=t at a b;obtain⟨p',web'⟩:=t;cases N1 a;injection b with c b2;injection c with c;cases EI c;rfl
theorem QA (h:bI web)(l7:web.length<=7)(a k:Nat):Named (jx a k web):=by
 have bz:=h.bz;have g:(gU a k web).map (·.1)=web.map (·.1):=by
  delta gU;split
  ·apply abE;intro j;rw[ez,ez,aa5];cases web[j]? with
   | none=>rfl
   | some y=>split<;>rfl
  rfl
 have f:∀p∈gU a k web,∃q∈web,p.1=q.1/\p.2.Perm q.2:=λp b=>by
  delta gU at b;split at b
  ·obtain⟨j,c⟩:=aco b;rw[aa5] at c;cases e:web[j]? with
   | none=>rw[e] at c;cases c
   | some y =>
    rw[e] at c;have c:=c;refine⟨y,fB e,?_⟩;rw[<-Option.some.inj c];split
    ·exact⟨ρ,acN _⟩
    exact⟨ρ,.refl _⟩
  exact⟨p,b,ρ,.refl _⟩
 have sub:∀p∈jx a k web,p∈gU a k web:=λp b=>by
  delta jx at b;split at b
  ·exact List.mem_of_mem_eraseIdx b
  exact b
 have lw:=D4 a k web;refine⟨?_,?_,λp b=>?_,λp b n i=>?_,λp b=>?_⟩
 ·delta jx;split
  ·rw[List.length_eraseIdx];split<;>omega
  omega
 ·have:((jx a k web).map (·.1)).Sublist (web.map (·.1)):=by
   rw[<-g];delta jx;split
   ·exact (List.eraseIdx_sublist _ _).map _
   exact .refl _
  exact h.nd.sublist this
 ·obtain⟨q,d,e,_⟩:=f p<|sub p b;rw[e];exact h.nm q d
 ·obtain⟨q,d,_,pm⟩:=f p<|sub p b;exact h.txt ((h.rg q d).2.2 n (pm.mem_iff.1 i)).1
 obtain⟨q,d,_,pm⟩:=f p<|sub p b;have:=h.len d;rw[pm.length_eq];lia
def LW (h:bI a)(pt:b.Perm (dh rs a)):jd b:=λt d=>by obtain⟨p,c,n,e,_,rfl⟩:=LD.1<|pt.mem_iff.1 d;exact xf (h.txt<|ι<|ee.2 ⟨p,c,ρ⟩) (h.txt ((h.rg p c).2.2 n e).1) _
def N5(a b c):eF true (.L<|[a,b,c].map .bl) (.L<|[a,b,c].map .bl)=ac (.D<|.bl false):=by
 have e:bH (.L<|[a,b,c].map .bl)=bi:=by cases a<;>cases b<;>cases c<;>decide
 cases a<;>cases b<;>cases c<;>rfl
def QP(web)(rows):∃a b c,fq web rows=[a,b,c]:=by
 delta fq;split
 ·split<;>exact⟨_,_,_,ρ⟩
 exact⟨_,_,_,ρ⟩
theorem NI(T:Txt mg){L M N O R:aY}{S U V fnD:cK}(q1:ba P w K mg base "_law_purse" 2 (aG K L))(s1:HX L)(q2:ba P w K mg base "_law_floor" 3 (dz K 0 S))(s2:HW S)(q3:ba P w K mg base "_law_web" 4 (aG K M))(s3:G2 M)
 (q4:ba P w K mg base "_law_turned_web" 2 (dz K 0 U))(s4:EL U)(q5:ba P w K mg base "_law_tinting" 1 (aG K N))(s5:Hq N)(q6:ba P w K mg base "_law_is_web" 3 (aG K O))(s6:B0 O)(q7:ba P w K mg base "_law_good" 2 (aG K R))(s7:Be R)(q8:ba P w K mg base "_law_bent" 2 (dz K 0 V))(s8:EV V)
 (q9:ba P w K mg base "_law_bent_web" 2 (dz K 0<|mP fnD))(Vv:ba P w K mg base "_law_caught" 8 (aG K nZ)){f:eH}{fd:hU}(F:a9 K "law" "law" zC f fd):∃fn,aS P w K mg base bb 9 f fd ["_law_script"] (aG K fn)/\D2 fn:=by
 refine' bW F Gv ρ ?Z ?post
 case Z=>have nd:=Gv.nd;walk_at "h"
 clear T F q1 q2 q3 q4 q5 q6 q7 q8 q9 Vv;intro ns Vx Z;obtain⟨p0,e1⟩:=s1 ns Vx Z;obtain⟨_,_,e2,rs,p2,rfl,rfl,d,l6⟩:=s2 p0 7 ⋯ ⋯;have F:=d;have f8:=F.bz;have e3:=s3 rs ∅ (fun y hy=>F.sE hy) fun x hx k hk=>F.some hx hk;obtain⟨t,X⟩:=d.web;have m:=t.bz;obtain⟨_,_,e4,e,p4,rfl,rfl,D⟩:=s4 p2 (gx rs) m.1 m.2 fun z hz=>by have a:=(t.rg z hz).1;have b:=t.len hz;lia
 obtain⟨h,sh⟩:=D.ok t X;have lw:e.length<=7:=by have:=D.1.length_eq;rw[ax,ax] at this;unfold gx at this;rw[ax] at this;lia
 obtain⟨_,e5,n,rfl,pt⟩:=s5 rs e d D h sh;have lt:n.length=dI e:=pt.length_eq.trans<|Gn d D h sh;have t60:=xR h sh;have t0:=Ro h sh;have tt:jd n:=LW h pt;clear f8 m t X;refine' cA ρ ?w;show WS _ [.D (.cV ns),.no,.no,.no,.no,.no,.no,.no,.no] _;have u:3<=sizeLine:=∅
 refine' af<|aD (aB (aa ρ ah) e1) ρ<|ai ?_;refine' af<|aD (dB ρ (aa ρ ah) ρ e2 ρ) ρ<|ai ?_;refine' af<|aD (dB ρ (aa (ag (aB (aa ρ ah) e3) ρ) ah) ρ e4 ρ) ρ<|ai ?_;refine' af<|aD (aB (aa ρ<|aa ρ ah) e5) ρ<|ai ?_;refine' af<|cN (fun j δ=>∃(i:Int×Int) (v G B l p:Slot),Hd v (.L<|n.map ar)/\Fr G/\Fr B/\Fr l/\Fr p/\δ=[.D (.cV ns),.O<|pD i,.D<|bw rs,.D<|.L<|e.map pairD,v,G,B,l,p]) (j8 (aa ρ ah) ∅) ⟨p4,_,_,_,_,_,ι ρ,ι ρ,ι ρ,ι ρ,ι ρ,ρ⟩ ?st ?fin
 case fin=>rintro _ ⟨i,v,G,B,l,p,_,_,_,_,_,rfl⟩;exact ai<|af<|aZ ρ ⟨_,ρ⟩
 rintro j y hy _ ⟨i,v,G,B,l,p,h4,f5,f6,f7,f8,rfl⟩;have em:=Tn (fnD:=fnD) i (web:=e) (by have:=h.bz;omega) ∅;have hN:=QA h lw (dr fnD i e.length).1 (dr fnD (dr fnD i e.length).2 4).1;have em:mP fnD (pD i) [.L (e.map pairD)]=ac (.O<|.L<|(jx (dr fnD i e.length).1 (dr fnD (dr fnD i e.length).2 4).1 e).map pairD,pD (dr fnD (dr fnD i e.length).2 4).2):=em;generalize jx (dr fnD i e.length).1 (dr fnD (dr fnD i e.length).2 4).1 e=W at *;generalize (dr fnD (dr fnD i e.length).2 4).2=p5 at *;obtain⟨r8,_,e8,us,I,er,rfl,C,l8⟩:=s8 p5 n tt ∅ ∅;obtain⟨b,e6,Y⟩:=s6 W hN;refine⟨[.D (.cV ns),.O<|pD i,.D<|bw rs,.D<|.L<|e.map pairD,v,.D y,B,l,p],by rcases f5 with rfl|⟨d,rfl⟩<;>rfl,?_⟩;refine' af<|aD (dB ρ (aa ρ ah) ρ em ρ) (by rcases f6 with rfl|⟨d,rfl⟩<;>rfl)<|ai ?_;have VD:∃r,Hd r (.L<|us.map ar)/\j9 7 r8 [.D (.cV ns),.O<|pD I,.D<|bw rs,.D<|.L<|e.map pairD,.D<|.L<|n.map ar,.D y,.O<|.L<|W.map pairD,l,p]=ac [.D (.cV ns),.O<|pD I,.D<|bw rs,.D<|.L<|e.map pairD,.D<|.L<|n.map ar,.D y,.O<|.L<|W.map pairD,r,p]:=by
  cases r8 with
  | O c=>cases (show c=_ from er);exact⟨_,ι ρ,by rcases f7 with rfl|⟨d,rfl⟩<;>rfl⟩
  | D c=>cases (show c=_ from er);exact⟨_,τ ρ,by rcases f7 with rfl|⟨d,rfl⟩<;>rfl⟩
 obtain⟨r,J,VE⟩:=VD;refine' af<|aD (dB ρ (aa (by rcases h4 with rfl|rfl<;>rfl) ah) ρ e8 ρ) VE<|ai ?_;refine' af<|aD (bM (aa ρ<|aa ρ<|aa ρ ah) u) (by rcases f8 with rfl|⟨d,rfl⟩<;>rfl)<|ai ?_;refine af (WS.mono (Q:=fun o=>∃l,Hd l (.L<|us.map ar)/\o=.next [.D (.cV ns),.O<|pD I,.D<|bw rs,.D<|.L<|e.map pairD,.D<|.L<|n.map ar,.D y,.D<|.L<|W.map pairD,l,.O<|.L<|(fq W us).map .bl]) ?_ fun o ho=>?_)
 ·refine bK (jh<|fY (ag (aB (aa ρ ah) e6) ρ) ρ) (fun z=>?_) fun z=>?_
  ·have ng:¬GoodW W:=fun g=>by rw[Y.2 g] at z;cases z
   have q:fq W us=[true,false,true]:=by unfold fq;rw[if_neg ng]
   rw[q];exact af<|aD (bM (aa ρ<|aa ρ<|aa ρ ah) u) ρ<|ai<|aw ⟨r,J,ρ⟩
  have g:GoodW W:=Y.1 (by simpa using z);have e7:=s7 W us g.f g.sh C ∅;refine af (bK (jh<|fY (ag (aB (aa ρ<|aa (by rcases J with rfl|rfl<;>rfl) ah) e7) ρ) ρ) (fun z=>?_) fun z=>?_)
  ·have tf:dO W us=bv:=by simpa using z
   have q:fq W us=[false,true,true]:=by unfold fq;rw[if_pos g,tf];rfl
   rw[q];exact af<|aD (bM (aa ρ<|aa ρ<|aa ρ ah) u) ρ<|ai<|aw<|ai<|aw ⟨_,τ ρ,ρ⟩
  have tf:dO W us=bi:=by simpa using z
  have q:fq W us=[false,false,false]:=by unfold fq;rw[if_pos g,tf];rfl
  rw[q];exact aw<|ai<|aw ⟨_,τ ρ,ρ⟩
 obtain⟨l,J,rfl⟩:=ho;refine ai ?_;have ne:eF true (.L<|(fq W us).map .bl) (.L<|(fq W us).map .bl)=ac (.D<|.bl false):=by obtain⟨a,b,c,q⟩:=QP W us;rw[q];exact N5 a b c
 refine af (bK (jZ (aE<|ak (ag (aB (aa ρ<|aa ρ<|aa (by rcases J with rfl|rfl<;>rfl) ah)<|Bm hN C ∅) ρ) ρ ne)<|aE<|ak (ag (aB (aa ρ<|aa ρ<|aa ρ ah)<|Bm hN C ∅) ρ) ρ ne) (fun z=>by cases z) fun _=>aw<|ai<|aw ⟨I,_,_,_,_,_,τ ρ,τ ⟨_,ρ⟩,τ ⟨_,ρ⟩,τ ⟨_,ρ⟩,τ ⟨_,ρ⟩,ρ⟩)
end
section
open W
section
variable{P:lq}{w:qh}{K:gW}{mg:eT->Option dk}{base:pq}
structure DI (K:gW) (x:eT) (s:ZZ) (f:eH):Prop where
 a:zI K kx x=ac (ac<|.ref f)
 l:∃fd,a9 K x x s f fd
 k:abA K (.ref f)=bi
def DI.ok{x:eT}{s:ZZ}{f:eH}{e:hU}{c:List eT}{k:Nat}{sp:Sp}{h:pq}(d:DI K x s f)(X:K.In h)(G:h.Ns kx mg)(F:a9 K x x s f e)(o:aS P w K mg base bb k f e c sp)(b:∀(kV g pm:dk) (j:Option eH) (i ct:dk) (us:List dk),us.length=c.length->ad0 (acR x x (mL s) (fV s) (aK s) .none kV g pm j i ct) ⟨us,[]⟩=pure (c.zip us)):ba P w K mg base x k sp:=⟨f,e,c,o,Z1 X G d.a,d.k,F.binds b⟩
def DI.go{h:pq}{x:eT}{s:ZZ}{f:eH}{a:List eT}{k:Nat}{e:Type}{Sp:e->Sp}{S:e->Prop}(X:K.In h)(G:h.Ns kx mg)(d:DI K x s f)(o:∀{c:hU},a9 K x x s f c->∃fn,aS P w K mg base bb k f c a (Sp fn)/\S fn)(b:∀(kV g pm:dk) (j:Option eH) (i ct:dk) (us:List dk),us.length=a.length->ad0 (acR x x (mL s) (fV s) (aK s) .none kV g pm j i ct) ⟨us,[]⟩=pure (a.zip us)):∃fn,ba P w K mg base x k (Sp fn)/\S fn:=by obtain⟨c,F⟩:=d.l;obtain⟨fn,q,r⟩:=o F;exact⟨fn,d.ok X G F q b,r⟩
def DI.oh{h:pq}{x:eT}{s:ZZ}{f:eH}{c:List eT}{k:Nat}{g:Type}{Sp:g->Sp}{S:g->Prop}(X:K.In h)(G:h.Ns kx mg)(d:DI K x s f)(o:∀{e:hU},a9 K x x s f e->∃fn,aS P w K mg base (dP P w) k f e c (Sp fn)/\S fn)(b:∀(kV i pm:dk) (m:Option eH) (j ct:dk) (us:List dk),us.length=c.length->ad0 (acR x x (mL s) (fV s) (aK s) .none kV i pm m j ct) ⟨us,[]⟩=pure (c.zip us)):∃fn,jg P w K mg base x k (Sp fn)/\S fn:=by obtain⟨e,F⟩:=d.l;obtain⟨fn,q,r⟩:=o F;exact⟨fn,⟨f,e,c,q,Z1 X G d.a,d.k,F.binds b⟩,r⟩
theorem HZ (h:acB K C v=ac b):(aem K C).isSome=bi:=by
 delta acB at h;cases e:aem K C with
 | none=>rw[e] at h;cases h
 | some c=>rfl
def Bj:∀{us:List b},us.length=1->∃a,us=[a]:=ab4.1
theorem DC (h:us.length=2):∃a b,us=[a,b]:=by
 cases us with
 | nil=>cases h
 | cons a r=>obtain⟨b,rfl⟩:=Bj<|Nat.succ.inj h;exact⟨a,b,ρ⟩
theorem Bb (h:us.length=3):∃a b c,us=[a,b,c]:=by
 cases us with
 | nil=>cases h
 | cons a r=>obtain⟨b,c,rfl⟩:=DC<|Nat.succ.inj h;exact⟨a,b,c,ρ⟩
theorem Lv (h:us.length=4):∃a b c d,us=[a,b,c,d]:=by
 cases us with
 | nil=>cases h
 | cons a r=>obtain⟨b,c,d,rfl⟩:=Bb<|Nat.succ.inj h;exact⟨a,b,c,d,ρ⟩
noncomputable def ud(K:gW):Sp:=λvs H Q _=>∃(a:eH) (ns:List Int),vs=[.ref a]/\cg K H a (ns.map V.int)/\ns.length<=63/\(∀n∈ns,jY n)/\∀b,Q (.bl true) b
def RI (s:D2 fn)(vs:List V)(H:Hp)(Q:VK)(E:XK)(h:ud K vs H Q E):aG K fn vs H Q E:=by obtain⟨a,ns,rfl,b,hl,c,k⟩:=h;refine⟨H,[.cV ns],_,aj.refl H,⟨.ref a,[],ρ,⟨a,ρ,b⟩,ρ⟩,s ns hl c,?_⟩;rintro v d Hi2 _ _ _ _ e;cases (e);exact k d
end
local macro_rules | `(tactic| walk_at "bn")=>`(tactic| (intro _ _ _ _ _ _ us hl;first | (obtain⟨_,e⟩:=Bj hl;subst e;rfl) | (obtain⟨_,_,e⟩:=DC hl;subst e;rfl) | (obtain⟨_,_,_,e⟩:=Bb hl;subst e;rfl) | (obtain⟨_,_,_,_,e⟩:=Lv hl;subst e;rfl)))
def all_mk{l:ae0}{w:qh}{K:gW}{h:pq}{mg:eT->Option dk}{fa VM VN VO VP VQ VR VS VT VU VV VW VX VY VZ V0 V1 V2 V3 V4 V5 V6 V7 V8 V9 V' Wa Wb Wc Wd We Wf Wg Wh Wi Wj Wk Wl Wm Wn Wo Wp Wq Wr Ws Wt Wu Wv Ww Wx Wy Wz WC CT b c o o1 o2 p q r:eH}{n:eH}{t1 t2 t3 t4 t5 t6 t7:Tok}{nW:Nat}{YZ:Array (Option dk)}(X:K.In h)(G:h.Ns kx mg)(Y0:mg "law"=ac (.ref fa))
 (WH:DI K "follower" zf VM)
 (WI:DI K "is_name" xI VN)
 (WJ:DI K "is_pair" vU VO)
 (WK:DI K "is_ring" yR VP)
 (WL:DI K "has_form" zH VQ)
 (WM:DI K "ties_are_shared" yK VR)
 (WN:DI K "corners_of" yV VS)
 (WO:DI K "corner_closes" Aj VT)
 (WQ:DI K "corners_close" vC VU)
 (WR:DI K "row_along" wK VV)
 (WT:DI K "wall_has_row" zL VW)
 (WU:DI K "has_one_of" zk VX)
 (WV:DI K "all_reached" wF VY)
 (WW:DI K "ties_of" wA VZ)
 (WX:DI K "threes_of" xS V0)
 (WY:DI K "must_web" xB V1)
 (WZ:DI K "row_of" zZ V2)
 (W0:DI K "goes_round" yy V3)
 (W1:DI K "stands_round" vX V4)
 (W2:DI K "is_tinting" zj V5)
 (W3:DI K "low" zK V6)
 (W4:DI K "high" yJ V7)
 (W5:DI K "gaps_along" Ak V8)
 (W6:DI K "least_numbers" vY V9)
 (W7:DI K "wished" zp V')
 (W8:DI K "least_floor" wJ Wa)
 (W9:DI K "_law_mixed" ze Wb)
 (W':DI K "_law_purse" yw Wc)
 (Xa:DI K "_law_draw" yZ Wd)
 (Xb:DI K "_law_names" xg We)
 (Xc:DI K "_law_cut" zT Wf)
 (Xd:DI K "_law_floor" xH Wg)
 (Xe:DI K "_law_meets" xZ Wh)
 (Xf:DI K "_law_side" wg Wi)
 (Xg:DI K "_law_neighbours" zF Wj)
 (Xh:DI K "_law_web" wM Wk)
 (Xi:DI K "_law_turned_web" yP Wl)
 (Xj:DI K "_law_next" yf Wm)
 (Xk:DI K "_law_shut_after" yj Wn)
 (Xl:DI K "_law_corners" vV Wo)
 (Xm:DI K "_law_fits" wH Wp)
 (Xn:DI K "_law_in_row" vJ Wq)
 (Xo:DI K "_law_come_to" yC Wr)
 (Xp:DI K "_law_is_web" wZ Ws)
 (Xq:DI K "_law_tinting" xc Wt)
 (Xr:DI K "_law_way" y6 Wu)
 (Xs:DI K "_law_round" zi Wv)
 (Xt:DI K "_law_good" yU Ww)
 (Xu:DI K "_law_caught" vO Wx)
 (Xv:DI K "_law_bent" x8 Wy)
 (Xw:DI K "_law_bent_web" lI Wz)
 (C:DI K "law" zC WC)
 (Vt:zI K kx "len"=ac am)
 (Vu:zI K kx "int"=ac am)
 (d:zI K kx "isinstance"=ac am)
 (A:zI K kx "range"=ac am)
 (Vv:zI K kx "min"=ac am)
 (Vw:zI K kx "max"=ac am)
 (Vx:zI K kx "all"=ac am)
 (D:zI K kx "dict"=ac am)
 (t:zI K kx "sorted"=ac am)
 (B:zI K kx "tuple"=ac am)
 (E:zI K kx "list"=ac am)
 (Vy:zI K kx "str"=ac am)
 (I:zI K kx "bool"=ac am)
 (Vz:zI K kx "any"=ac am)
 (VA:zI K kx "set"=ac am)
 (VB:zI K kx "abs"=ac am)
 (VC:zI K kx "sum"=ac am)
 (j:zI K kx "enumerate"=ac am)
 (VD:zI K kx "zip"=ac am)
 (aT:zI K kx "TouchError"=ac (ac<|.ref CT))
 (Y1:zI K kx "NoCut"=ac (ac<|.ref o))
 (w0:o4 K (.type "NoneType") (.ref o)=ac false)
 (Y2:zI K kx "NoFloor"=ac (ac<|.ref o1))
 (w1:o4 K (.type "NoneType") (.ref o1)=ac false)
 (Y3:zI K kx "NoName"=ac (ac<|.ref o2))
 (w2:o4 K (.type "NoneType") (.ref o2)=ac false)
 (Y4:zI K kx "NoRoom"=ac (ac<|.ref p))
 (w3:o4 K (.type "NoneType") (.ref p)=ac false)
 (Y5:zI K kx "NoText"=ac (ac<|.ref q))
 (w4:o4 K (.type "NoneType") (.ref q)=ac false)
 (Y6:zI K kx "Twice"=ac (ac<|.ref r))
 (w5:o4 K (.type "NoneType") (.ref r)=ac false)
 (VH:zI K kx "NoWeb"=ac (ac<|.ref b))
 (Y7:ac7 K b [.type "ValueError",.type "Exception",.type "BaseException",.type "object"] "ValueError.__new__"=bi)
 (Y8:ac6 K (.ref b) (.ref CT)=ac true)
 (Y9:abB K (.ref b) "__getattribute__"=ac (ac<|.builtin "BaseException.__getattribute__"))
 (Y':abB K (.ref b) "__getattr__"=ac am)
 (Za:abB K (.ref b) "__class__"=ac (ac<|.builtin "object.__class__"))
 (VI:acB K b (.type "BaseException")=ac true)
 (Zb:acB K b (.type "object")=ac true)
 (Zc:o4 K (.ref b) (.ref o)=ac false)
 (Zd:o4 K (.ref b) (.ref o1)=ac false)
 (Ze:o4 K (.ref b) (.ref o2)=ac false)
 (Zf:o4 K (.ref b) (.ref p)=ac false)
 (Zg:o4 K (.ref b) (.ref q)=ac false)
 (Zh:o4 K (.ref b) (.ref r)=ac false)
 (Zi:o4 K (.ref b) (.type "ValueError")=ac true)
 (Zj:o4 K (.type "NoneType") (.ref b)=ac false)
 (VJ:zI K kx "NoTinting"=ac (ac<|.ref c))
 (Zk:ac7 K c [.type "ValueError",.type "Exception",.type "BaseException",.type "object"] "ValueError.__new__"=bi)
 (Zl:ac6 K (.ref c) (.ref CT)=ac true)
 (Zm:abB K (.ref c) "__getattribute__"=ac (ac<|.builtin "BaseException.__getattribute__"))
 (Zn:abB K (.ref c) "__getattr__"=ac am)
 (Zo:abB K (.ref c) "__class__"=ac (ac<|.builtin "object.__class__"))
 (VL:acB K c (.type "BaseException")=ac true)
 (Zp:acB K c (.type "object")=ac true)
 (Zq:o4 K (.ref c) (.ref o)=ac false)
 (Zr:o4 K (.ref c) (.ref o1)=ac false)
 (Zs:o4 K (.ref c) (.ref o2)=ac false)
 (Zt:o4 K (.ref c) (.ref p)=ac false)
 (Zu:o4 K (.ref c) (.ref q)=ac false)
 (Zv:o4 K (.ref c) (.ref r)=ac false)
 (Zw:o4 K (.ref c) (.type "ValueError")=ac true)
 (Zx:o4 K (.type "NoneType") (.ref c)=ac false)
 (Zy:o4 K (.ref b) (.ref b)=ac true)
 (Zz:o4 K (.ref b) (.ref c)=ac false)
 (ZA:o4 K (.ref c) (.ref b)=ac false)
 (ZC:o4 K (.ref c) (.ref c)=ac true)
 (ZD:o4 K (.type "NoneType") (.type "ValueError")=ac false)
 (Xx:zI K kx "ValueError"=ac am)
 (aW:zI K kx "WALLS"=ac (ac<|.ref n))
 (lW:K.lookup n=ac ⟨.type "tuple",am,.seq #[.str "north" t1,.str "east" t2,.str "south" t3,.str "west" t4] nW,YZ⟩)
 (aM:zI K kx "MOST_ROOMS"=ac (ac<|.int 8 t5))
 (aL:zI K kx "LONGEST_NAME"=ac (ac<|.int 8 t6))
 (aR:zI K kx "FEWEST_NEIGHBOURS"=ac (ac<|.int 3 t7)) :
  ∃fd:hU,(∀(s:eK) (v:dk),aeS s fd ⟨[v],[]⟩ [("_law_script",v)])/\∀base:pq,K.In base->base.Ns kx mg->aS l.prog w K mg base bb 9 fa fd ["_law_script"] (ud K):=by
 have e:=Y0.symm.trans<|Z1 X G C.a;cases e;have T:Txt mg:=⟨r6 X G Vt,r6 X G Vu,r6 X G d,r6 X G A,r6 X G Vv,r6 X G Vw,r6 X G Vx,r6 X G D,r6 X G t,r6 X G B,r6 X G E,r6 X G Vy,r6 X G I⟩;obtain⟨VE,J⟩:=C.l;obtain⟨exc,q0⟩:∃exc:Nat->eH,exc 0=b:=⟨λ_=>b,ρ⟩;subst q0;have X0:rB K mg "NoWeb" (exc 0):=⟨Z1 X G VH,_,_,_,_,ac8,Y7⟩;have X1:rB K mg "NoTinting" c:=⟨Z1 X G VJ,_,_,_,_,ac8,Zk⟩;have kN:aaH K (.ref<|exc 0) [.ref o,.ref o1,.ref o2,.ref p,.ref q,.ref r]=ac false:=by simp only[aaH,Zc,Zd,Ze,Zf,Zg,Zh]
 have kT:aaH K (.ref c) [.ref o,.ref o1,.ref o2,.ref p,.ref q,.ref r]=ac false:=by simp only[aaH,Zq,Zr,Zs,Zt,Zu,Zv]
 have k0:aaH K (.type "NoneType") [.ref o,.ref o1,.ref o2,.ref p,.ref q,.ref r]=ac false:=by simp only[aaH,w0,w1,w2,w3,w4,w5]
 obtain⟨_,_,_,_,_,_,_,_,_,ZH,_,_⟩:=id J.ex;refine⟨VE,λs v=>by rw[ZH];exact .of_eq ρ,λbase _ _=>?_⟩;have go:=@DI.go l.prog w K mg base h;have oh:=@DI.oh l.prog w K mg base h;obtain⟨_,f,g⟩:=go X G Xa (M6 T) (by walk_at "bn");have k:fP K mg "WALLS" (.U [.str "north",.str "east",.str "south",.str "west"]):=⟨.ref n,_,Z1 X G aW,ρ,λH=>⟨n,[.str "north",.str "east",.str "south",.str "west"],ρ,τ ⟨_,_,_,lW,ρ,ρ,(by show 4<=eu;unfold eu;decide),.cons ⟨_,ρ⟩<|.cons ⟨_,ρ⟩<|.cons ⟨_,ρ⟩<|.cons ⟨_,ρ⟩ .nil⟩,⟨_,_,ρ,ρ,_,_,ρ,ρ,_,_,ρ,ρ,_,_,ρ,ρ,ρ⟩⟩⟩;have gM:fP K mg "MOST_ROOMS" (.int 8):=⟨.int 8,_,Z1 X G aM,⟨_,ρ⟩,λH=>rfl⟩;have gL:fP K mg "LONGEST_NAME" (.int 8):=⟨.int 8,_,Z1 X G aL,⟨_,ρ⟩,λH=>rfl⟩;have gT:wO K mg "WALLS" ET:=⟨n,_,_,_,Z1 X G aW,lW,ρ,ρ,ρ,(by show 4<=eu;unfold eu;decide),.cons ⟨_,ρ⟩<|.cons ⟨_,ρ⟩<|.cons ⟨_,ρ⟩<|.cons ⟨_,ρ⟩ .nil⟩;have gF:fP K mg "FEWEST_NEIGHBOURS" (.int 3):=⟨.int 3,_,Z1 X G aR,⟨_,ρ⟩,λH=>rfl⟩;have VF:=r6 X G Vz;have i:=r6 X G VA;have m:=r6 X G VD;have VG:=r6 X G VB;have h_sum:=r6 X G VC;have h_enumerate:=r6 X G j;obtain⟨_,Xy,Xz⟩:=go X G WI (Tt T k gL) (by walk_at "bn");obtain⟨_,u,x⟩:=go X G WH (NF T k gT) (by walk_at "bn");obtain⟨_,XA,XB⟩:=go X G WJ (Sj T Xy Xz) (by walk_at "bn");obtain⟨_,XC,XD⟩:=go X G WK (KY T gF i) (by walk_at "bn");obtain⟨_,XF,XG⟩:=go X G WL (JE T k gM i XA XB XC XD) (by walk_at "bn");obtain⟨_,XH,XI⟩:=go X G WM (UA T) (by walk_at "bn");obtain⟨_,y,z⟩:=go X G WN (RM T m) (by walk_at "bn");obtain⟨_,XJ,XM⟩:=go X G WO (Jr T k u x) (by walk_at "bn");obtain⟨_,XN,XO⟩:=go X G WQ (Mn T y z XJ XM) (by walk_at "bn");obtain⟨_,XQ,XR⟩:=go X G WR (Io T) (by walk_at "bn");obtain⟨_,XS,XT⟩:=go X G WT (QQ T y z u x XQ XR) (by walk_at "bn");obtain⟨_,XU,XW⟩:=go X G WU (U6 T VF) (by walk_at "bn");obtain⟨_,XX,XY⟩:=go X G WV (QG T k XU XW) (by walk_at "bn");obtain⟨_,L,M⟩:=go X G WW (Od T k) (by walk_at "bn");obtain⟨_,XZ,X2⟩:=go X G WX (Qc T y z) (by walk_at "bn");obtain⟨_,X3,X4⟩:=oh X G WY (N0 T X0 k XF XG XH XI XN XO XS XT XX XY XZ X2 L M) (by walk_at "bn");obtain⟨_,X5,X6⟩:=go X G WZ (Up T) (by walk_at "bn");obtain⟨_,X7,X8⟩:=go X G W0 (OT T k m u x) (by walk_at "bn");obtain⟨_,X9,X'⟩:=go X G W1 (O9 T k X5 X6 X7 X8) (by walk_at "bn");obtain⟨_,Ya,Yb⟩:=oh X G W2 (PD T X3 X4 L M X9 X') (by walk_at "bn");obtain⟨_,N,O⟩:=go X G W3 (MV ) (by walk_at "bn");obtain⟨_,Q,R⟩:=go X G W4 (LG ) (by walk_at "bn");obtain⟨_,Yc,Yd⟩:=go X G W5 (Mo T N O Q R) (by walk_at "bn");obtain⟨_,Ye,Yf⟩:=go X G W6 (Kh T) (by walk_at "bn");obtain⟨_,S,U⟩:=oh X G W7 (NC T X1 Ya Yb Yc Yd Ye Yf N O Q R) (by walk_at "bn");obtain⟨_,Yg,Yh⟩:=oh X G W8 (Pf S U) (by walk_at "bn");obtain⟨_,Yi,Yj⟩:=go X G W9 (U5 T) (by walk_at "bn");obtain⟨_,Yk,Yl⟩:=go X G W' (IW T VG Yi Yj) (by walk_at "bn");obtain⟨_,Ym,Yn⟩:=go X G Xb (Lm T f g) (by walk_at "bn");obtain⟨_,Yo,Yp⟩:=go X G Xc (KR T f g) (by walk_at "bn");obtain⟨_,Yq,Yr⟩:=go X G Xd (NG T f g Ym Yn Yo Yp) (by walk_at "bn");obtain⟨_,Ys,Yt⟩:=go X G Xe (Ti T) (by walk_at "bn");obtain⟨_,Yu,Yv⟩:=go X G Xf (RU T Ys Yt) (by walk_at "bn");obtain⟨_,Yw,Yx⟩:=go X G Xg (MA T Yu Yv) (by walk_at "bn");obtain⟨_,Yy,Yz⟩:=go X G Xh (OK T Yw Yx) (by walk_at "bn");obtain⟨_,YA,YB⟩:=go X G Xi (Vh T f g) (by walk_at "bn");obtain⟨_,V,Y⟩:=go X G Xj (Oh T) (by walk_at "bn");obtain⟨_,Z,Vs⟩:=go X G Xk (Iy T) (by walk_at "bn");obtain⟨_,YC,YD⟩:=go X G Xl (Sr T) (by walk_at "bn");obtain⟨_,YE,YF⟩:=go X G Xm (Kg T V Y Z Vs) (by walk_at "bn");obtain⟨_,YG,YH⟩:=go X G Xn (Mt T V Y Z Vs) (by walk_at "bn");obtain⟨_,YI,YJ⟩:=go X G Xo (UP T) (by walk_at "bn");obtain⟨_,YK,YL⟩:=go X G Xp (K4 T i YC YD YE YF YG YH YI YJ) (by walk_at "bn");obtain⟨_,YM,YN⟩:=go X G Xq (Rq T) (by walk_at "bn");obtain⟨_,YO,YQ⟩:=go X G Xr (TR T) (by walk_at "bn");obtain⟨_,YR,YS⟩:=go X G Xs (UO T) (by walk_at "bn");obtain⟨_,YT,YU⟩:=go X G Xt (OJ T m i YO YQ YR YS) (by walk_at "bn");obtain⟨_,YV,rfl⟩:=go X G Xu (λF=>⟨_,UE (Z1 X G aT) Y8 Zl (r6 X G d) (Z1 X G VH) (Z1 X G VJ) (r6 X G Xx) ⟨Y9,Y',Za,VI,Zb,HZ VI⟩ ⟨Zm,Zn,Zo,VL,Zp,HZ VL⟩ (Z1 X G Y1) (Z1 X G Y2) (Z1 X G Y3) (Z1 X G Y4) (Z1 X G Y5) (Z1 X G Y6) kN kT k0 Zy Zz Zi ZA ZC Zw Zj Zx ZD Yg Yh S U F,ρ⟩) (by walk_at "bn");obtain⟨_,YW,YX⟩:=go X G Xv (Sy T f g) (by walk_at "bn");obtain⟨_,YY,rfl⟩:=go X G Xw (λF=>⟨_,U7 T f g F,ρ⟩) (by walk_at "bn");obtain⟨fnL,oL,sL⟩:=NI (P:=l.prog) (w:=w) (base:=base) T Yk Yl Yq Yr Yy Yz YA YB YM YN YK YL YT YU YW YX YY YV J;exact oL.imp<|RI sL
def walk{l:ae0}{q:lq}{c:List eT}{x:(eT->Option dk)->pq->Prop}{i:qh->pq->Prop}{d:DefRec}{K:Params->gW}(y:l.most=ac 63)(j:d.params.defaults=[])
 (A:∀(w:qh) (h:pq),i w h->(K w.params).In h)
 (F:∀(w:qh) (mg:eT->Option dk) (fa:eH) (h:pq),(K w.params).In h->h.Ns kx mg->mg d.name=ac (.ref fa) ->
   ∃e:hU,(∀(s:eK) (u:dk),aeS s e ⟨[u],[]⟩ [("_law_script",u)])/\∀base:pq,(K w.params).In base->base.Ns kx mg->aS l.prog w (K w.params) mg base bb 9 fa e ["_law_script"] (ud<|K w.params)) :
  W.WalkO q c x i l.row.toRowW d [] (λf vs=>PySem.call f vs) :=
 by
 intro w s0 s1 mg mb G Y fa o pm cd doc dV kV ho hd hcd m p B args vals as C D hr E hx;cases Dflts.none m j;cases Dflts.noKw m;obtain⟨a,vs,ns,rfl,rfl,I,J,t⟩:=JO y C E;have v:=A w _ Y;obtain⟨e,L,M⟩:=F w mg fa _ v G.T.g p;have N:∀n∈ns,jY n:=λn hm=>PyData.bits_of_layable<|layableW_item (layW_cons D).1 (.int n) (ee.2 ⟨n,hm,ρ⟩);refine enter_call (aby (SD v G.T.g G.T.b G.T.builtins G.T.nolimit B I J (px t ⋯) ⟨ρ,⋯,⋯⟩ M L (λH _ O=>⟨a,ns,ρ,O,t,N,λ_=>rfl⟩) λ_ _ _ z=>z) λr s' P=>?_);obtain⟨rfl,Q,R,S⟩:=P;exact⟨ι ⟨.bool true,.bool true,[],ρ,λ_=>rfl,.bool true,O7 l _,λ_=>⟨aa7,λ_ hm=>nomatch hm⟩⟩,Q,R,S⟩
end
end
end L2
open PySem PySem.W PyProof.Rows
local macro_rules | `(tactic| walk_at "df") => `(tactic| (refine' ⟨_, L2.RH ?l ?c ?k⟩; (case l => k_is); (case c => k_is); (case k => k_is)))
local macro_rules | `(tactic| walk_at "di") => `(tactic| (refine' L2.DI.mk ?a ?b ?c; (case a => k_is); (case b => walk_at "df"); (case c => first | k_is | kit_is)))
namespace PySem.W.Fast
def tw2857610915315266100:=()
def tw9070342475272834074:=()
def tw5200028684333953727:=()
def tw12633517697023891065:=()
def tw3614931633285964194:=()
def tw3051970520677963392:=()
def tw8231559116958602371:=()
def tw2436937194404600101:=()
def tw14443317144842025000:=()
def tw10216545148217002391:=()
def tw5690258296897634988:=()
def tw9217846648255871685:=()
def tw5130892616594712458:=()
def tw6686993595598716856:=()
def tw119949799010021504:=()
def tw6295663832819998832:=()
def tw4340876857008962185:=()
def tw13380813640789150568:=()
def tw7543041387360913380:=()
def tw497469975335271290:=()
def tw12608491787875463268:=()
def tw3094717608569086356:=()
def tw18174638322764671353:=()
def tw12513713476377177766:=()
def tw5617926008418543633:=()
def tw17030545910615714458:=()
def tw17937705525109619366:=()
def tw14565678874155048991:=()
def tw8894564704602159035:=()
def tw4354678953191239186:=()
def tw7473746306655979005:=()
def tw8258984352735366339:=()
def tw11143537069172656369:=()
def tw506862977091216183:=()
def tw18350855931858941297:=()
def tw16602202098730187680:=()
def tw10181639215385834134:=()
def tw12797317901800013524:=()
def tw2067120697571998085:=()
def tw3943057205965076662:=()
def tw17620654083225605800:=()
def tw1133845637978220559:=()
def tw3498627068962037822:=()
def tw2218260987140119397:=()
def tw18342570242341331954:=()
def tw10846160995558845837:=()
def tw8008757397334438442:=()
def tw8230489320651356540:=()
def tw4992838219138536033:=()
def tw10677368732855459194:=()
def tw16571945031003438685:=()
def tw10085396289255194174:=()
def tw15210867225848917902:=()
def tw15754042237815296429:=()
def tw5290306233164438788:=()
def tw7882852887807107395:=()
def tw4129454173573401686:=()
def tw2140098329018946616:=()
def tw4303514016389394:=()
def tw6786592412373424550:=()
def tw13412321930556753877:=()
def tw5121312470538896424:=()
def tw13442510987081473689:=()
def tw12386333673366646186:=()
def tw5676718884639239229:=()
def tw4391447548011975529:=()
def tw14887532047257359312:=()
def tw2761067756037021501:=()
def tw8144360441062880465:=()
def tw5154488099239634071:=()
def tw6911257566942283151:=()
def tw10620293751432226863:=()
def tw9514243248855967496:=()
def tw7618796829227653618:=()
def tw14799982331634263969:=()
def tw7139141482787693637:=()
def tw5274534586773929017:=()
def tw5322845464734647864:=()
def tw10056009834728239940:=()
def tw11722885052958978590:=()
def tw7372232486006669636:=()
def tw7874763733813605592:=()
def tw4313982031738496172:=()
def tw9055770667301635706:=()
def tw5350275070048003032:=()
def tw8288460680073833036:=()
def tw1051501100401373741:=()
def tw9112528219358881676:=()
def tw14090453557768419384:=()
def tw13680802999605992888:=()
def tw12388957382992614287:=()
def tw9239898062126063377:=()
def tw3074933380384086535:=()
def tw16899830565798815034:=()
def tw5883529107330849967:=()
def tw13195816122091965962:=()
def tw17346809407117532893:=()
def tw3935231076139826767:=()
def tw18301670164424783469:=()
def tw8937220943423211331:=()
def tw11221894722522331907:=()
def tw478925267498722263:=()
def tw7017621852114354998:=()
def tw12066944052233336230:=()
def tw15565583155332213838:=()
def tw14556536385420310005:=()
def tw4909749133505600549:=()
def tw15350318471424382665:=()
def tw10111354086006775919:=()
def tw7736523293028716623:=()
def tw3122681515340544594:=()
def tw1483019197610742345:=()
def tw2241830430743293967:=()
def tw9244492217738843168:=()
def tw630635587891676423:=()
def tw15076818805813835695:=()
def tw18430624204516512414:=()
def tw11815335167085748295:=()
def tw2904053309991790111:=()
def tw6486066578730688708:=()
def tw16543380169615661333:=()
def tw8673240859519530486:=()
def tw2831694443298570921:=()
def tw7057271868122499847:=()
def tw6411298194710893687:=()
def tw1014813117390189219:=()
def tw12336882920690051972:=()
def tw5719924687186639036:=()
def tw12684557654449012041:=()
def tw9718212512049173122:=()
def tw5874513253882509853:=()
def tw4806666262291272261:=()
def tw12017263347749947998:=()
def tw9625746867761061049:=()
def tw2889682376104735607:=()
def tw6790279529917076247:=()
def tw1172354382542842754:=()
def tw4874718126065447561:=()
def tw415463826976132590:=()
def tw11908115802024284149:=()
def tw11553077194061432938:=()
def tw11959975439453383806:=()
def tw1104188011647192359:=()
def tw1704358179186935516:=()
def tw9202317136871848573:=()
def tw3502858440993445636:=()
def tw16878839252104476100:=()
def tw1120944502763639686:=()
def tw13932832848486000329:=()
def tw1694084212454057878:=()
def tw3360025145209449225:=()
def tw15416853113253348297:=()
def tw7006313985954413354:=()
def tw8770287333808435968:=()
def tw5919579391914844886:=()
def tw10875428826964225896:=()
def tw10362198824078734927:=()
def tw3269029446770736985:=()
def tw2560978391277525851:=()
def tw1816888963524111975:=()
def tw13867981526638024766:=()
def tw1396027582477640245:=()
def tw14373725338131165385:=()
def tw17126270449696131364:=()
def tw14320825783950786347:=()
def tw15060676048982985115:=()
def tw16657795311194173654:=()
def tw7789554097024060511:=()
def tw16928542108636206873:=()
def tw13348784959765136428:=()
def tw5518967895038827594:=()
def tw12298909855298094415:=()
def tw5534450163904396211:=()
def tw9241230461202173631:=()
def tw15110300674337472895:=()
def tw11990367345306692879:=()
def tw10162577661704649936:=()
def tw12980645604725203722:=()
def tw18043850478184186446:=()
def tw13886157898040013491:=()
def tw10570323751956179041:=()
def tw7744837982594216707:=()
def tw7390148867550736542:=()
def tw8774388840341957496:=()
def tw17962519312016699583:=()
def tw12493111782535553543:=()
def tw6676855917109219746:=()
def tw3876766684162252928:=()
def tw10386200409877692421:=()
def tw6239939810746095758:=()
def tw2454670842043431765:=()
def tw174129766814403101:=()
def tw17907222066790921238:=()
def tw8318514487528579277:=()
def tw595813560423209432:=()
def tw7560963174144163036:=()
def tw18322895115310904268:=()
def tw2332147502424288424:=()
def tw11415980951699728442:=()
def tw4577240713204675119:=()
def tw5231918842981043811:=()
def tw3085344270629124764:=()
def tw17697408123713505925:=()
def tw37240204926398824:=()
def tw3542840771426473035:=()
def tw11881106184843300057:=()
def tw13902390178103167484:=()
def tw16525528223621103750:=()
def tw517511419063644466:=()
def tw13316717973717331776:=()
def tw14365508794275175560:=()
def tw15018739770368072771:=()
def tw13270321669758325577:=()
def tw18094573979935454780:=()
def tw447726213362769642:=()
def tw6650399612631701490:=()
def tw1055279932049729410:=()
def tw5992526897567710398:=()
def tw10782359526596730854:=()
def tw18082166779452113183:=()
def tw6681630908676146651:=()
def tw7877865421359238447:=()
def tw4979664388396246819:=()
def tw2942933632541778115:=()
def tw11208426386128189038:=()
def tw12077093836865458086:=()
def tw991952105824891210:=()
def tw6282323042377450170:=()
def tw3874060248654097429:=()
def tw12350454314817651950:=()
def tw17622356034589053774:=()
def tw15733610346443301412:=()
def tw18441631680896887375:=()
def tw2060639066957078106:=()
def tw183513959118874801:=()
def tw1255461697424516389:=()
def tw13127667536761820849:=()
def tw4885177280857828797:=()
def tw26537197555191271:=()
def tw14498793737655065187:=()
def tw15966716147971398077:=()
def tw3208961378732642145:=()
def tw7839250775719041678:=()
def tw8146021753776903212:=()
def tw18231663435206053034:=()
def tw12146023828604229763:=()
def tw7537156570990057206:=()
def tw13893371455805504077:=()
def tw6283173883985292300:=()
def tw13731953780464766922:=()
def tw2780360498480288082:=()
def tw668845304225699641:=()
def tw17087158653126449960:=()
def tw16023083060383903966:=()
def tw13245121224263552059:=()
def tw17436554188005104694:=()
def tw14364396866228174975:=()
def tw8919096051908672553:=()
def tw2872936914596738369:=()
def tw4617804059367078578:=()
def tw5230051091763773424:=()
def tw11090470358748276295:=()
def tw5932705570251919625:=()
def tw12215807532262832937:=()
def tw1096034063760107242:=()
def tw2818726145195845659:=()
def tw6412323245663278778:=()
def tw3468187153495985624:=()
def tw8961100391926781489:=()
def tw18382681816262438854:=()
def tw4180413549460954348:=()
def tw17790063646681965314:=()
def tw1622567908232601583:=()
def tw10707837561128149191:=()
def tw8833944277118493364:=()
def tw4127822348397726225:=()
def tw2711096492069327357:=()
def tw2503271700085320410:=()
def tw3390002174642126610:=()
def tw3109766987638047258:=()
def tw1583531756379838992:=()
def tw10297754316247542882:=()
def tw9662441736116051829:=()
def tw7168280040071172516:=()
def tw2694381923113823811:=()
def tw4394888879138696780:=()
def tw6335826777128490808:=()
def tw1020404856433737301:=()
def tw236399612558313183:=()
def tw297618156470175764:=()
def tw3722158737113860206:=()
def tw11984801455817303412:=()
def tw505957293475719217:=()
def tw13872052591401860622:=()
def tw8165742354029908588:=()
def tw8272366111217620879:=()
def tw513005241816451931:=()
def tw12815902548032587283:=()
def tw3093354240677969248:=()
def tw1048100950996869911:=()
def tw7475109782416343336:=()
def tw7132896085022420089:=()
def tw18052497885953847450:=()
def tw2305833436649842446:=()
def tw18372815401291890722:=()
def tw7305736403477514311:=()
def tw13825771633996934594:=()
def tw2360647352251427470:=()
def tw17629095791224660716:=()
def tw880501691853934231:=()
def tw12475884374345863745:=()
def tw3107001857859738539:=()
def tw15480952071772017465:=()
def tw8042355767836006310:=()
def tw1424706824620101988:=()
def tw8731892524836740372:=()
def tw7018578694411387012:=()
def tw18216095990034290738:=()
def tw8191118672590868417:=()
def tw2864738465378914184:=()
def tw17365282301556930616:=()
def tw5157590181529554215:=()
def tw10814969285376244593:=()
def tw6387858528851261990:=()
def tw8998869849570735319:=()
def tw8283356513176060534:=()
def tw15125181697930307543:=()
def tw17171329277439348331:=()
def tw14525225652715638719:=()
def tw5900524400781101914:=()
def tw12193199298395721676:=()
def tw12537871827146801141:=()
def tw12595672030196422445:=()
def tw9775090779537129384:=()
def tw5115774275854774819:=()
def tw3664829355175567939:=()
def tw18243816220543954336:=()
def tw14102736939758914098:=()
def tw6155319989042157794:=()
def tw4666987329669249790:=()
def tw18181194225134724653:=()
def tw13829882590150248861:=()
def tw10592096051084679220:=()
def tw11279206973364376870:=()
def tw18322274298594567049:=()
def tw15702178479167522034:=()
def tw8344662182284088989:=()
def tw1265091400715006966:=()
def tw9051429378071089331:=()
def tw1922448353747792554:=()
def tw1559224974630518561:=()
def tw7561592768587438259:=()
def tw13475100486309625353:=()
def tw17811230177783250639:=()
def tw16321077287074317191:=()
def tw10743370852339019971:=()
def tw5522266318443601957:=()
def tw17167050815957557282:=()
def tw8194298253298829385:=()
def tw10355061979626915511:=()
def tw14800572997893610270:=()
def tw6902415858822242393:=()
def tw6285716271224252541:=()
def tw8449135695956331511:=()
def tw13654714050324305156:=()
def tw7914129148556541114:=()
def tw12151068222742462575:=()
def tw6447512060404332171:=()
def tw16537371161015090900:=()
def tw2851638148094322313:=()
def tw14706971905972743380:=()
def tw7426964441941320416:=()
def tw11530732910447731815:=()
def tw16145925994006474410:=()
def tw9872984452738175547:=()
def tw6300501278667418659:=()
def tw7678764547717453357:=()
def tw12079422600985501359:=()
def tw14085489696653825161:=()
def tw6370694727959948474:=()
def tw16207859542845805114:=()
def tw8513628627656222106:=()
def tw5433970592575671126:=()
def tw16826265946881106667:=()
def tw14130346510458960794:=()
def tw6207807288836355350:=()
def tw7673784126764788663:=()
def tw17506274350288303215:=()
def tw8269397964085535400:=()
def tw8752844461988757168:=()
def tw11693381896232991558:=()
def tw5030256530895707130:=()
def tw6861692217366215081:=()
def tw15020074138617081206:=()
def tw12324804552932655265:=()
def tw9484004813344450660:=()
def tw9852139144993253525:=()
def tw905998792339294515:=()
def tw17186965461798771267:=()
def tw6235141990552867260:=()
def tw12350618320194323476:=()
def tw3332890657890975998:=()
def tw17357095987525831872:=()
def tw512423820644430238:=()
def tw15565995436748436831:=()
def tw91842756897488740:=()
def tw1345183041010481568:=()
def tw2712023936921959838:=()
def tw16036207022555195398:=()
def tw14163717734268533721:=()
def tw5879658721165678666:=()
def tw14595162242760670275:=()
def tw3260080176928177831:=()
def tw9925909528310255715:=()
def tw8992463510638465464:=()
def tw17977439450638499498:=()
def tw15437029543574970018:=()
def tw15893564157915217855:=()
def tw7157552134707344529:=()
end PySem.W.Fast
set_option maxRecDepth 100000 in
set_option maxHeartbeats 0 in
theorem PySem.Challenge.cw_roomtouch_k24_no_tintings_holds : PySem.Challenge.rw_roomtouch_k24_no_tintings.Holds := by
  w_on; o_law; k_head; (case hw => w_witness2)
  k_fill
  refine L2.walk (l := PySem.Challenge.rw_roomtouch_k24_no_tintings) rfl rfl (fun w h Y => W.kIn_of Y) ?F
  case F =>
    intro w mg fa h b G a
    apply L2.all_mk b G a
    all_goals try first | k_is | kit_is | k_exc | kts_exm | walk_at "df" | walk_at "di"
