import PyProof.Rows.All
import Wide.All
import OpenK.AllK
import Wide.FinOn
import Lean
import PyProof.EqAt
import PyProof.EqKinds
import PyProof.TupleCall
import KE.KDictSum
import KE.KRevSl
import PyProof.DictWalks
import PyProof.EnumStmt
import PyProof.Rows.EnumRows
import PyProof.Rows.SetFrom
import PyProof.Rows.ZipGen
import PyProof.TupleOfSeq
import PyProof.ZipIter
import PySem.Challenge.RW_roomtouch_k21_floors_looked_at
set_option Elab.async false
set_option linter.all false
set_option compiler.extract_closed false
set_option genSizeOf false
set_option maxRecDepth 100000
set_option maxHeartbeats 4000000
local macro_rules | `(⋯)=>`(by first|decide|simp|omega|lia)
open Decidable renaming decide->am
open List renaming length_map->ab,mem_map->a8,getElem?_eq_getElem->bt,getElem?_eq_some_iff->cm,getElem?_map->c6,length_append->eu,mem_append->eH,mem_of_getElem?->eR,mem_cons->eW,mem_cons_self->fk,map_map->fm,map_append->ft,mem_cons_of_mem->f6,pairwise_map->gd,mergeSort_perm->gk,size_toArray->gs,range->gD,length_cons->gW,mem_filter->hB,not_mem_nil->hF,map_cons->hS,length_take->ib,all_eq_true->iN,nodup_append->iR,mem_range->iW,getElem?_append_right->ka,getElem_of_mem->kx,mem_singleton->kA,getElem?_append_left->k5,perm_ext_iff_of_nodup->lq,getD_eq_getElem?_getD->lD,countP_cons->lT,length_range->l5,getElem?_set_ne->mA,take_length->nk,length_pos_iff->oy,length_filter_le->pl,pairwise_iff_getElem->pq,mem_flatMap->pw,append_nil->px,countP_append->pz,filter_sublist->pB,nodup_cons->qh,countP_map->ql,append_assoc->qt,mem_append_right->r0,replicate->r4,getElem?_set_self->tm,length_drop->t9,pairwise_mergeSort->ub,countP_eq_length_filter->wm,filter_cons->wy,any_eq_true->xr,countP_congr->zc,map_eq_nil_iff->zd,map_congr_left->zI,length_reverse->zR,getElem_mem->z8,getElem_inj->z9,length_set->I1,countP_eq_zero->KX,mem_reverse->SH,getElem_map->Ts,pairwise_cons->T',cons_lt_cons_iff->XP,not_lt->Yj,lookup_cons->Yq,length_eq_zero_iff->Yr,map_mergeSort->Yz,length_nil->YH,map_drop->YI,take_append_drop->YL,perm_append_comm->YM,length_replicate->YN,pairwise_append->YU,nodup_nil->YV,mem_of_mem_take->YW,mem_of_mem_drop->YX,count_nil->YY,map_reverse->Y1,mem_of_find?_eq_some->Y7,getElem?_range->Y9,filterMap_cons->Y',map_take->Zf,any_cons->Zg,count_cons->Zh,mem_filterMap->Zi,find?_eq_none->Zj,findIdx?_eq_some_iff_getElem->Zn,lt_irrefl->Zr,length_singleton->ZA,le_antisymm->ZE,sum_append->ZM,range_succ->ZN,foldl_cons->ZO,find?_cons->ZP,map_id'->ZY,take_zero->Z8,getElem?_zip_eq_some->aaf,take_sublist->aaj,reverse_cons->aak,filter_congr->aal,count_append->aam,sum_cons->aar,all_cons->aas,pairwise_singleton->aaz,nodup_range->aaA,getElem?_replicate->aaB,toArray->aaI,take_of_length_le->aaJ,map_nil->aaK,forIn_cons->aaP,find?_some->aaQ,getElem?_toArray->aaU,countP_le_length->aaV,mem_map_of_mem->aa1,flatMap_append->aa2,filter_eq_self->aa3,lt_trans->aa7,zip_cons_cons->abc,getElem?_drop->abd,filter_append->abe,count_eq_zero->abf,reverse_perm->abu,pairwise_iff_forall_sublist->abv,flatMap_cons->abw,any_map->abx,any_eq_false->aby,singleton_perm_singleton->abS,of_mem_zip->abW,take_succ->acg,perm_append_singleton->ach,length_eraseIdx_of_lt->aci,Nodup->acj,exists_mem_of_ne_nil->acs,drop_eq_getElem_cons->acu,getElem?_take_of_lt->acx,eq_of_mem_replicate->acy,getElem?_cons_succ->acF,range_succ_eq_map->acI,pairwise_reverse->acR,mem_iff_getElem?->acS,getElem?_eq_none->acT,countP_singleton->acU,mem_erase_of_ne->ac0,mem_append_left->ac1,length_eraseIdx->ac2,countP->ac3,replicate_succ->adg,mem_mergeSort->adn,getElem?_take->ado,findIdx?_cons->adp,count_pos_iff->adq,foldl_append->adL,all_eq_false->adM,range'_succ->adU,map_snd_zip->adV,flatMap_def->adW,ext_getElem->adX,drop_length->adY,filter_map->aef,take_nil->aey,drop_nil->aez,sum_nil->aeQ,all_map->aeR,count->afs
open PySem renaming wpAny_bind->bg,Value->cn,sizeLine->cA,Shared->cW,Addr->dk,wpAny_pure->dr,Str->eS,wpAny->g8,Expr->hE,FuncData->hO,model->hQ,Program->hY,mainGlobals->kq,tupleKeyHash->k7,compareOp->me,starEach->mu,Heap->nL,World->nR,wpAny_holding->o3,IsTupleKey->ph,Around->pA,wpAny_newObj_type->rp,wpAny_call_entry->sj,SetTable->tu,foldedSetIterable->um,assignEach->u1,cLine->u2,wpAny_setState_of->v3,codeAny_builtin->y1,Pos->y4,sizeLine_eq->za,behindInMarks->z3,Obj->z5,swapsWith->HT,wpAny_callSpecial?_slot->L',wpAny_mono->Ye,sysModules->Yg,wpAny_truthy_bool->Ym,wpAny_pyIter_list->Yn,bootBuiltins->Yo,Builtin->Yx,wpAny_setField->YB,binaryOp->YC,Scope->YD,wpAny_typeNameOfWhole_keyiter->YJ,wpAny_passesOwn->YS,plainId_quiet->YT,holding->YZ,mem_of_lookup->Y2,pyNext->Za,backTo->Zb,Paired->Zc,rawInt->Zl,wpAny_typeNameOf_keyiter->Zo,attributeBase->Zp,Stmt->Zq,codeAny_mono->ZF,wpAny_eqBool_str->ZQ,assign->ZR,DictEntry->ZT,codeAny->ZV,sliceBounds->ZZ,wpAny_ite_split->Z9,wpAny_typeOf->aag,wpAny_seqItems->aau,tupleKind_room_in1->aav,wpAny_dictEntries->aaF,lastMarks->aaW,call_meets->aaX,shortFactorBits->aaY,letOwnedTupleGo->aaZ,wpAny_fieldsOf->abg,carriedByValue->abh,NameKind->abj,GenState->abk,getItem->abp,PassesOwn->abq,wpAny_setEntries_of->abB,wpAny_standAt->abI,wpAny_newList->abJ,wpAny_attempt->abK,wpAny_Call_Name_kw->abO,slot_list_getitem->abZ,relabel->ab0,ofAClassStatement->ab1,boot_len->ab2,wpAny_isInstance->acm,wpAny_askSetting->acn,tupleKind->aco,Result->acp,IsPart->acq,subscripted->acv,wpAny_updateSeq->acA,wpAny_specialOf->acB,wpAny_execs_nil->acC,wpAny_dictEpoch->acD,standAt->acG,typeLookup->acJ,CmpOp->acO,wpAny_getItem_list_slice->ac5,wpAny_comprehension_free->ac6,swapsWithSole->ac7,swappedStores->ac8,evalPart_none->ac9,bindL->adl,bindC->adm,valueAt->ads,setItem->adt,seqIndex_neg->adu,pyIter->adv,merged->adw,isTrue->adx,concat_meets->ady,callerA->adz,BindsTo->adE,wpAny_notOrdered_dict->adN,wpAny_isSame_ref_self->adO,wpAny_isOneOf_keyiter->adP,wpAny_eqIsQuiet_tuple->adQ,builtinLookup_eq_fast->adR,wpAny_pyIter_keyiter->ad0,wpAny_of_eq->ad1,wpAny_field->ad2,seqIndex_of->ad3,bindArgs->ad4,atKey->ad5,wpAny_load->aem,wpAny_eqBool_tuple->aen,wpAny_Name->aeo,typeIs_int->aep,getattributeRaised->aeq,checkCount->aer,builtinsNs->aes,wpAny_storeSet_of->aeC,wpAny_setEpoch_of->aeD,wpAny_pyIter_slot->aeE,wpAny_pyIter_enum->aeF,wpAny_assign_Name->aeG,searchCouldBeSeen->aeH,Keyword->aeJ,wpAny_pyIter_zip->aeS,wpAny_forIn_list->aeT,wpAny_eqBool_int->aeU,wpAny_Dict_empty->aeV,updateSeq->aeW,scanBound->aeX,pickOrder->aeZ,noFill_tuple_add->ae0,entryFor_of_tree->ae1,cellsFrom->ae2,typeLookup_type->afe,wpAny_runValue->afu,wpAny_newTuple->afv,setRelay->afx,raiseNew->afz,isSubtype_type->afB,isSubtype_stop->afC,firstArgMember->afD,entryFor->afE,bitsLine->afF,wpAny_handled->afO,setSearchFrom->afP,seq_tuple_add->afQ,evalPart_some->afR,call_list_seq->afS
open PySem.Heap renaming get?_push_of_some->ee,lt_size->fj,get?_push_size->gj,get?_update_other->ti,get?_update_self->ua,SameBut->Yi,size_push->Z7,size_update->abM,get?_none_of_le->acX,ExtBut->acY,get?_push_ne->adD
open Nat renaming le_refl->eK,ne_of_lt->hG,lt_of_lt_of_le->kH,le_trans->nE,zero_le->pe,le_of_lt_succ->qy,lt_irrefl->uz,not_lt_zero->z4,lt_of_le_of_lt->He,mod_eq_of_lt->Yt,mod_lt->YE,zero_add->Y3,lt_trans->Y4,lt_succ_self->Y5,le_add_right->Y6,succ_pos->Zu,ne_of_gt->Zv,lt_succ_of_lt->Zw,le_of_lt->Zx,le_of_eq->Zy,add_sub_cancel'->ZX,lt_trichotomy->aap,le_succ->aaq,succ_mul->aaN,mod_self->aaO,sub_self->abG,add_comm->abH,div_div_eq_div_mul->acQ,mul_le_mul_right->ade,le_zero->adf,min_le_right->aed,div_eq_of_lt->aee,min_eq_left->ael,mul_le_mul->aex,pow_zero->afb,pow_succ->afc,log2_lt->afp,div_one->afq,add_mod->afr,not_lt->afN
open Bool renaming true->bd,false->bi,and_eq_true->fv,false_eq_true->kB,and_eq_true_iff->ma,not_eq_true'->ow,eq_iff_iff->tz,not_eq_true->yv,and_false->Ys,not_eq_false'->YA,false_ne_true->Zk,true_and->ZI,not_true->aa8,and_comm->aa9,eq_false_iff->abz,or_eq_true->abY,false_and->ack,and_true->acz,and_eq_false_iff->acV,false_or->aeA
open PySem.W renaming Frag->f',mg_none_of->qz,nsIn->Yc,kia_one->aaL,KatTups->aaM,mg_of->aba,keepIn->abP,kas_rev->ab3,fnOf->ab4,methodObj->adA,OpenLaw->adS,kat_cons->ad6,cellsFrom_some->aet,kat_no->ae3,kat_lt->ae4,kas_sort->ae5,codeIn->ae6,Looks->afG
open Option renaming some->ac,none->al,map_eq_some_iff->gf,bind_some->md,map_some->u3,isSome_iff_exists->aae,isSome_map->abb
open Array renaming getElem?_toList->gi,length_toList->hI,getElem?_eq_getElem->ia,getD_eq_getD_getElem?->nS,getElem?_eq_some_iff->zb,size_map->Yp,toList_append->Y8,mem_toList_iff->ZJ,toList_filterMap->aaD,getElem?_eq_none->aaE,all_eq_true'->aa',toList_push->abo,replicate->abT,perm_iff_toList_perm->acb,getElem?_map->adi,forIn_toList->adj,append_assoc->adk,size_push->adZ,toList->aeB
open PySem.Str renaming ofString->hH,empty->YK,cps_append->Zt,join->ac'
open List.Pairwise renaming sublist->l4,imp_of_mem->YQ,nil->aaR
open PySem.Value renaming ref->nT,none->qe,bool->H9,str->Yd,type->Zz,int->ZW,isStrOf->aej,isInt->aeI
open PySem.SeqAt renaming canLay_of_shaped->qo,readOf->ZS,shaped->abi
open PyProof.Rows.F renaming plain_set_update_loop->qp,entry_set_update_loop->z7
open PySem.Builtin.Int renaming intBits->ro,intTooBig->aai
open Classical renaming byContradiction->sb
open PySem.Around renaming under_plainId->se
open PySem.PyData renaming strOk->sD,eqv->P',canLay0->Rr,canLayAll0->aaa,depthAll->abL,eqvAll->ad7
open PySem.Heap.SameBut renaming update->sW
open Sum renaming inr->uy,inl->abA
open Int renaming eq_ofNat_of_zero_le->y3,emod_lt_of_pos->YF,toNat_of_nonneg->Zd,emod_nonneg->ZU,neg_lt_neg_iff->aad,toNat_natCast->aat,sub_zero->aaS,not_lt->aaT,neg_inj->abX,le_antisymm->aca,toNat->aeg,ne_of_lt->afd,le_refl->aft
open PySem.Builtin.Str renaming occurrences->z6
open PySem.Obj renaming data_mapFields->C',mapSeq->Yl,isFreed_of_fields->ZD,mapFields->ZK,putSet->aab,cls_mapFields->abE
open PyProof.Rows renaming callWith_type1->Hz,slot_tuple_getitem->Yu,seqObj->YP,IsTup->ZH,kindOf->aac,room_in_shaped->aax,envOfC->aay,StrsAre->aaH,entry_list_sort->aa0,slot_list_sort->abl,args_list_sort->abm,AllBare->abt,Subscript_->acP,subscriptTail->ada,strKind_oneLt->adb,subscriptTail_builtinR->adF,plain_sorted->adG,keyKind_strs->adH,entry_sorted->adI,args_sorted1->adJ,kind_sorted->aeb,arrOf->aec,size_push'->aev,keyLt'->aew,IntsAre->aeO,list_sort_treeK->afm,get?_update_seq->afn,callWith_builtin1->afo,tail_any->afJ,sortedHeap_old->afK,slicePart_none->afL,sortedHeap_at->afW,listUpdate_at->afX
open PySem.F renaming slot_dict_keyiterator_next->L0,called_set->P2,plain_extend_loop->W0,plainAttrs_list->aah,entry_extend_loop->abV,args_tuple_add_2->ab7,args_dict_keyiterator_next_1->ab8,plain_list_iadd->acd,entry_tuple_add->ace,entry_dict_keyiterator_next->acf,slot_tuple_add->acr,slot_tuple_index->acK,slot_list_getattribute->acL,slot_list_extend->acM,slot_list_append->acN,slot_list_index->acZ,slot_dict_iter->aeu,slot_set_iter->aeK,slot_int_rmul->aeL,slot_dict_len->aeM
open PySem.SetTable renaming insertAt->Yh,runEnd->Zm,toList_insertAt->Z5,sizeAbove->aan,insertAt_perm->aao,Probe->aaw,bits->abD,leap->ab6,sameMemory->acE,fill->adB
open List.Nodup renaming length_le_of_subset->Yk
open PySem.SetTable.layClean renaming free->Yv
open False renaming elim->Yw
open Prod renaming ext_iff->Yy,snd->aek,ext->afY
open PySem.Builtin.Slice renaming slicePlaces->YG,sliceAdjust->ZG,sliceApplied->aa4,slicePartIndex->ae9,sliceFields->ae'
open PySem.Builtin.Tuple renaming tupleExact->YO,tupleItemsOf->ae8
open PySem.Builtin.List renaming listTooLong->YR,listLengthHint->aa5,listExtendWith->aa6,listSameRef->abr,listFitsIndex->afh
open PySem.Calls renaming call_function_entry->Y0,Name_function_global->ab9
open True renaming intro->ZC
open Option.some renaming injEq->ZL
open PySem.NameKind renaming free->Z6,cell->adC
open PySem.Txt renaming join->aaC
open PySem.Builtin.Dict_items renaming ownsTuple->aaG
open List.Perm renaming of_eq->abn,swap->adh
open PySem.W.Looks renaming of_pure->abC
open PySem.Builtin.Dict renaming updateFrom->abF,pairItems->abN,showsAll->abR,selfAndRest->afi,pendingCount->afj,dictSlotNone->afk,addKeywords->afl
open PySem.Setting renaming params->abQ
open PySem.Heap.IsSliceOf renaming new->abU
open PySem.Spec renaming same->ab5
open Prod.mk renaming injEq->ab'
open PySem.Heap.DictOf renaming new->acH
open PySem.PassesOwn renaming never->acW
open ForInStep renaming yield->ac4
open PyProof.Rows.IsTup renaming new->adK
open Or renaming inr->adT,inl->aeP
open PySem.Builtin.Frozenset renaming updateFrom->ad8,slot0->ad9,sizeOf->ad',addrOf->aea
open Std.Legacy.Range renaming size->aeh,forIn_eq_forIn_range'->aei
open PyProof.Rows.SortSt renaming mk'->aeN
open PySem.Data renaming fields->ae7
open PySem.Builtin.Range renaming rangeSize->afa
open PySem.W.WData renaming int->aff
open PySem.SeqAt.RcNeAt renaming lists_lengths->afg
open PySem.SeqAt.RcAt renaming lists_lengths->afT
open PySem.SeqAt.EqAt renaming str_int->afU,int_str->afV
open And renaming intro->afZ
open PySem PySem.Spec PyProof.Rows
noncomputable section
theorem ι{a b:Prop}(h:a):a\/b:=.inl h
theorem τ{a b:Prop}(h:b):a\/b:=.inr h
theorem ρ{a:Sort u}{b:a}:b=b:=rfl
namespace L2
def nO (h:al=ac a):P:=by cases h
def sO (h:ac a=ac c):a=c:=by cases h;rfl
def sP (h:ac (a,b)=ac (c,d)):a=c/\b=d:=by cases h;exact⟨ρ,ρ⟩
inductive OB {α β γ:Type}(o:Option (α×β)) (g:α×β->Option γ) (r:γ):Prop
 | mk (a:α) (b:β) (e:o=ac (a,b)) (h:g (a,b)=ac r)
inductive OA {α γ:Type}(o:Option α) (g:α->Option γ) (r:γ):Prop
 | mk (a:α) (e:o=ac a) (h:g a=ac r)
theorem oB (h:o.bind g=ac r):OB o g r:=by
 cases o with
 | none=>cases h
 | some p=>exact⟨p.1,p.2,ρ,h⟩
theorem oA (h:o.bind g=ac r):OA o g r:=by
 cases o with
 | none=>cases h
 | some p=>exact⟨p,ρ,h⟩
theorem oM (h:o.map g=ac r):OA o (λx=>ac<|g x) r:=by
 cases o with
 | none=>cases h
 | some p=>exact⟨p,ρ,h⟩
theorem oN (h:o.map g=ac r):OB o (λx=>ac<|g x) r:=by
 cases o with
 | none=>cases h
 | some p=>exact⟨p.1,p.2,ρ,h⟩
abbrev Key:=Sum Int eS
noncomputable def jA:Key->cn->Bool
 | .inl k,v=>aeI k v
 | .inr x,v=>aej x v
noncomputable def Iw(w:nR):Key->Int
 | .inl k=>hashInt k
 | .inr x=>hashStr w x
theorem iU:∀{k:Key}{v:cn},jA k v=bd->(∃i t,k=abA i/\v=ZW i t)\/(∃x t,k=uy x/\v=Yd x t)
 | .inl i,v,h=>by obtain⟨t,e⟩:=Value.isInt_shape h;exact ι ⟨i,t,ρ,e⟩
 | .inr x,v,h=>by obtain⟨t,e⟩:=Value.isStrOf_shape h;exact τ ⟨x,t,ρ,e⟩
def Us(i)(t):jA (.inl i) (.int i t)=bd:=by simp[jA,aeI]
def DR(x)(t):jA (.inr x) (.str x t)=bd:=by simp[jA,aej]
def Jx(a b):am ((abA a:Key)=abA b)=(a==b):=by grind
def J8(a b):am ((uy a:Key)=uy b)=am (a=b):=by simp
def J5(a)(b):am ((abA a:Key)=uy b)=bi:=decide_eq_false<|λq=>nomatch q
def Qn(a)(b):am ((uy a:Key)=abA b)=bi:=decide_eq_false<|λq=>nomatch q
def cJ(prog)(w):PySem.KeyKind prog w Key where
 is:=jA
 hash:=Iw w
 inj:=λv a b f d=>by
  rcases iU f with⟨i,t,rfl,rfl⟩|⟨x,t,rfl,rfl⟩
  ·rcases iU d with⟨j,u,rfl,e⟩|⟨y,u,rfl,e⟩;simp_all;simp_all
  rcases iU d with⟨j,u,rfl,e⟩|⟨y,u,rfl,e⟩;simp_all;simp_all
 byValue:=λk v h=>by rcases iU h with⟨i,t,rfl,rfl⟩|⟨x,t,rfl,rfl⟩<;>rfl
 pyHash:=λc h=>by
  rcases iU c with⟨i,t,rfl,rfl⟩|⟨x,t,rfl,rfl⟩
  ·exact wpAny_pyHash_int h
  exact wpAny_pyHash_str h
 eqBool:=λg c h=>by
  rcases iU g with⟨i,t,rfl,rfl⟩|⟨x,t,rfl,rfl⟩
  ·rcases iU c with⟨j,u,rfl,rfl⟩|⟨y,u,rfl,rfl⟩
   ·rw[Jx] at h;exact aeU h
   rw[J5] at h;exact afV i t y u _ _ _ _ h
  rcases iU c with⟨j,u,rfl,rfl⟩|⟨y,u,rfl,rfl⟩
  ·rw[Qn] at h;exact afU x t j u _ _ _ _ h
  rw[J8] at h;exact ZQ h
 «strs»:=λk x t v h=>by rcases iU h with⟨i,u,rfl,e⟩|⟨y,u,rfl,e⟩;simp_all;injection e with l _;subst l;cases v<;>rfl
inductive V where
 | aQ|bl (b:Bool)|int (i:Int)|str (x:eS)|rY (b:Array UInt8)|vK (b:UInt64)|ref (a:dk)|ty (n:String)
 deriving DecidableEq
def RelV:V->cn->Prop
 | .aQ,u=>u=qe
 | .bl b,u=>u=H9 b
 | .int i,u=>∃t,u=ZW i t
 | .str x,u=>∃t,u=Yd x t
 | .rY b,u=>∃t,u=Value.bytes b t
 | .vK b,u=>∃t,u=Value.float b t
 | .ref a,u=>u=nT a
 | .ty n,u=>u=Zz n
abbrev aJ:List V->List cn->Prop:=Zc RelV
def aJ.length (r:aJ xs us):xs.length=us.length:=Paired.length r
theorem aJ.get{xs:List V}{us:List cn}{i:Nat}{x:V}(h:aJ xs us)(e:xs[i]?=ac x):∃u,us[i]?=ac u/\RelV x u:=by
 induction h generalizing i with
 | nil=>simp at e
 | cons r _ a =>
  cases i with
  | zero=>simp at e;subst e;exact⟨_,ρ,r⟩
  | succ i=>exact a (i:=i) (by simpa using e)
theorem aJ.set (r:RelV x u):∀{xs:List V}{us:List cn}(i:Nat),aJ xs us->aJ (xs.set i x) (us.set i u)
 | _,_,_,.nil=>.nil
 | _,_,0,.cons _ t=>.cons r t
 | _,_,i+1,.cons q t=>.cons q<|aJ.set r i t
theorem aJ.append{xs ys:List V}{us a:List cn}(h:aJ xs us)(s:aJ ys a):aJ (xs++ys) (us++a):=by
 induction h with
 | nil=>exact s
 | cons r _ b=>exact .cons r b
theorem aJ.take:∀{xs:List V}{us:List cn}(n:Nat),aJ xs us->aJ (xs.take n) (us.take n)
 | _,_,0,_=>.nil
 | _,_,_+1,.nil=>.nil
 | _,_,n+1,.cons r t=>.cons r<|aJ.take n t
theorem aJ.drop:∀{xs:List V}{us:List cn}(n:Nat),aJ xs us->aJ (xs.drop n) (us.drop n)
 | _,_,0,r=>r
 | _,_,_+1,.nil=>.nil
 | _,_,n+1,.cons _ t=>aJ.drop n t
def jF:Option V->Option cn->Prop
 | some v,ac u=>RelV v u
 | none,al=>True
 | _,_=>False
def KV:List (a×V)->List (a×cn)->Prop:=Zc λ(p:a×V) (q:a×cn)=>p.1=q.1/\RelV p.2 q.2
noncomputable def kV:Key->V
 | .inl i=>.int i
 | .inr x=>.str x
inductive HO where
 /-- a list -/
 | L (xs:List V)
 /-- a tuple (never changes) -/
 | U (xs:List V)
 /-- a dict whose keys are ints and texts;one whose keys are tuples of ints and texts (the empty one is both) -/
 | dK (kvs:List (Key×V))|dT (kvs:List (List Key×V))
 /-- a set of ints: its members,its size -/
 | set (S:Int->Bool) (n:Nat)
 /-- an instance of the class at C,its dict at dx,its attributes -/
 | ins (C dx:dk) (fs:List (eS×V))
 /-- the dict of the instance at x -/
 | O (x:dk)
 /-- the dict of an exception -/
 | xd (fs:List (eS×V))
 /-- a bound method,f of x -/
 | met (f x:dk)
 /-- a range object lo,lo+1,.. below hi -/
 | sh (lo hi:Int)
 /-- a thing that is known to the object (the script;a dict while a loop walks it): read,never written while it is so -/
 | bq (o:z5) (u:HO)
 /-- a code object's table -/
 | lG (ps:Array cn)
 /-- any other thing,by what is true of its one object (a def of one's own: SetO a S n:=HO.ext fun h=>..) -/
 | ext (φ:nL->Prop)
abbrev Hp:=dk->Option HO
noncomputable def upd(H:Hp)(a:dk)(o:HO):Hp:=λb=>if b=a then ac o else H b
def bb:upd H a o a=ac o:=by unfold upd;rw[if_pos ρ]
def aA (h:b≠a):upd H a o b=H b:=by simp_all [upd]
def SS:upd (upd H a o) a u=upd H a u:=by funext b;simp_all [upd]
def U5{H:Hp}{a b:dk}{o u:HO}(h:H a=ac o)(h':H b=ac u)(d:o≠u):a≠b:=by grind
def cZ{H:Hp}{a b:dk}{o:HO}(h:H a=ac o)(h':H b=al):a≠b:=by lia
section
variable(P:hY)(w:nR)
def cF(H:Hp)(h:nL)(a:dk):HO->Prop
 | .L xs=>xs.length<=cA/\∃(its:List cn) (n:Nat),aJ xs its/\h.get? a=ac {cls:=.type "list",data:=.seq its.toArray n}
 | .U xs=>xs.length<=cA/\∃its:List cn,aJ xs its/\ZH h a its.toArray
 | .dK kvs=>kvs.length<=cA/\(a==Yg)=bi/\∃vs,KV kvs vs/\h.DictOf (cJ P w) a vs
 | .dT kvs=>kvs.length<=cA/\(a==Yg)=bi/\∃xs:List (List Key×dk×cn),
   Zc (λ(p:List Key×V) (q:List Key×dk×cn)=>p.1=q.1/\H q.2.1=ac (.U<|p.1.map kV)/\RelV p.2 q.2.2) kvs xs /\
   ∃o e ep,h.get? a=ac o/\o.ExactDict/\o.data=.dict e ep/\e.toList=xs.map (entryOfKey<|aco<|cJ P w)/\(xs.map (·.1)).Nodup
 | .set S n=>h.SetOf (intKind P w) a S n
 | .ins C c fs=>H c=ac (.O a)/\fs.length<=1000/\c≠a/\h.get? a=ac (W.instObj C c) /\
   ∃b,h.Ns1 c b/\(∀f,jF (fs.lookup f)<|b f)/\PySem.Within b (fs.map (·.1))
 | .O _=>∃o,h.get? a=ac o
 | .xd fs=>∃b,h.Ns1 a b/\∀f,jF (fs.lookup f) (b f)
 | .sh lo j=>∃t u v,h.get? a=ac {cls:=.type "range",data:=.fields #[.int lo t,.int j u,.int 1 v]}
 | .bq o u=>h.get? a=ac o/\cF H h a u
 | .lG k=>h.get? a=ac {cls:=.none,data:=.fields k}
 | .met f x=>h.get? a=ac (adA (.ref f)<|.ref x)
 | .ext d=>d h/\(∃o,h.get? a=ac o)/\∀g i:nL,d g->(∀o,g.get? a=ac o->i.get? a=ac o)->d i
def cb(H:Hp)(h:nL):Prop:=∀a o,H a=ac o->cF P w H h a o
end
section
variable{P:hY}{w:nR}{H H':Hp}{h h':nL}{a:dk}{o:HO}{x e:dk}{o':HO}
theorem cF.lt(x:cF P w H h a o):a<h.objs.size:=by
 cases o with
 | L xs=>obtain⟨_,_,_,_,e⟩:=x;exact fj e
 | U xs=>obtain⟨_,_,_,p⟩:=x;exact p.lt
 | dK kvs=>obtain⟨_,_,_,_,o,_,_,e,_⟩:=x;exact fj e
 | dT kvs=>obtain⟨_,_,_,_,o,_,_,e,_⟩:=x;exact fj e
 | set S n=>obtain⟨o,_,_,_,e,_⟩:=x;exact fj e
 | ins C dx fs=>obtain⟨_,_,_,e,_⟩:=x;exact fj e
 | O y=>obtain⟨_,e⟩:=x;exact fj e
 | xd fs=>obtain⟨_,⟨_,_,_,e,_⟩,_⟩:=x;exact fj e
 | sh lo hi=>obtain⟨_,_,_,e⟩:=x;exact fj e
 | bq ob u=>obtain⟨e,_⟩:=x;exact fj e
 | lG ps=>exact fj (x)
 | met f y=>exact fj (x)
 | ext φ=>obtain⟨_,⟨_,e⟩,_⟩:=x;exact fj e
theorem Paired.pT{c d:Type}{F G:c->d->Prop}{l₁:List c}{l₂:List d}(p:Zc F l₁ l₂)(f:∀a b,F a b->G a b):Zc G l₁ l₂:=by
 induction p with
 | nil=>exact .nil
 | cons r _ g=>exact .cons (f _ _ r) g
theorem cF.gp(x:cF P w H h a o)(k:∀b u,(b=a\/H b=ac (.O a))->h.get? b=ac u->h'.get? b=ac u)
 (s:∀b,H b=ac (.O a)->H' b=ac (.O a))(A:∀b xs,H b=ac (.U xs)->H' b=ac (.U xs)):cF P w H' h' a o:=by
 induction o with
 | L xs=>obtain⟨z,its,n,r,e⟩:=x;exact⟨z,its,n,r,k _ _ (ι ρ) e⟩
 | U xs=>obtain⟨z,its,r,g,e,c⟩:=x;exact⟨z,its,r,g,k _ _ (ι ρ) e,c⟩
 | dK kvs=>obtain⟨z,y,vs,r,g,i,ep,e,c⟩:=x;exact⟨z,y,vs,r,g,i,ep,k _ _ (ι ρ) e,c⟩
 | dT kvs=>obtain⟨z,y,xs,r,g,i,ep,e,c⟩:=x;exact⟨z,y,xs,Paired.pT r λp q z=>⟨z.1,A _ _ z.2.1,z.2.2⟩,g,i,ep,k _ _ (ι ρ) e,c⟩
 | set S n=>obtain⟨g,i,ep,t,e,c⟩:=x;exact⟨g,i,ep,t,k _ _ (ι ρ) e,c⟩
 | ins C dx fs=>obtain⟨d,z,ne,e,j,⟨l,i,ep,B,c⟩,r⟩:=x;exact⟨s _ d,z,ne,k _ _ (ι ρ) e,j,⟨l,i,ep,k _ _ (τ d) B,c⟩,r⟩
 | O y=>obtain⟨g,e⟩:=x;exact⟨g,k _ _ (ι ρ) e⟩
 | xd fs=>obtain⟨j,⟨l,i,ep,e,c⟩,r⟩:=x;exact⟨j,⟨l,i,ep,k _ _ (ι ρ) e,c⟩,r⟩
 | sh lo hi=>obtain⟨t,u,v,e⟩:=x;exact⟨t,u,v,k _ _ (ι ρ) e⟩
 | bq g u D=>obtain⟨e,q⟩:=x;exact⟨k _ _ (ι ρ) e,D q⟩
 | lG m=>have e:=x;exact k a _ (ι ρ) e
 | met f y=>have e:=x;exact k a _ (ι ρ) e
 | ext φ=>obtain⟨p,⟨o,e⟩,st⟩:=x;exact⟨st _ _ p λo q=>k _ _ (ι ρ) q,⟨o,k _ _ (ι ρ) e⟩,st⟩
def cb.lt(x:cb P w H h)(e:H a=ac o):a<h.objs.size:=(x a o e).lt
theorem cb.fresh(x:cb P w H h)(e:h.objs.size<=a):H a=al:=by
 cases q:H a with
 | none=>rfl
 | some u=>exact absurd (kH (x.lt q) e)<|uz _
def cb.kept(x:cb P w H h)(k:∀b u,h.get? b=ac u->h'.get? b=ac u):cb P w H h':=λa o e =>
 (x a o e).gp (λb u _ q=>k b u q) (λ_ q=>q) λ_ _ q=>q
def cb.laid(x:cb P w H h)(k:∀b u,h.get? b=ac u->h'.get? b=ac u)(i:h.objs.size<=a)(d:cF P w (upd H a o) h' a o):cb P w (upd H a o) h':=λb u e=>by
 have f:=x.fresh i;by_cases g:b=a
 ·subst g;rw[bb] at e;obtain rfl:=sO e;exact d
 rw[aA g] at e;exact (x b u e).gp (λc v _ q=>k c v q) (λc q=>by rw[aA (cZ q f)];exact q) λc xs q=>by rw[aA (cZ q f)];exact q
def Rd(H:Hp)(a:dk)(u:HO):Prop:=H a=ac u\/∃o,H a=ac (.bq o u)
def Rd.of (h:H a=ac u):Rd H a u:=ι h
theorem Rd.ok{P:hY}{w:nR}{H:Hp}{h:nL}{a:dk}{u:HO}(r:Rd H a u)(x:cb P w H h):cF P w H h a u:=by
 rcases r with r|⟨o,r⟩
 ·exact x a u r
 obtain⟨_,q⟩:=x a _ r;exact q
def qv:Option HO->Prop
 | some (.L _)=>True
 | some (.dK _)=>True
 | some (.dT _)=>True
 | some (.set _ _)=>True
 | some (.ins _ _ _)=>True
 | some (.ext _)=>True
 | _=>False
def cb.write(ok:cb P w H h)(f:qv (H x))(p:e=x\/H e=ac (.O x))(k:∀b u,b≠e->h.get? b=ac u->h'.get? b=ac u)(l:∃u,h'.get? e=ac u)
 (m:cF P w (upd H x o') h' x o'):cb P w (upd H x o') h':=λb u q=>by
 have g:∀c y,H c=ac (.O y)->c≠x:=λc y r z=>by subst z;rwa[r] at f
 have i:∀c xs,H c=ac (.U xs)->c≠x:=λc xs r z=>by subst z;rwa[r] at f
 by_cases j:b=x
 ·subst j;rw[bb] at q;obtain rfl:=sO q;exact m
 rw[aA j] at q;by_cases d:b=e
 ·have n:H b=ac (.O x):=by
   rcases p with z|z
   ·exact absurd (d.trans z) j
   rwa[d]
  rw[q] at n;obtain rfl:=sO n;obtain⟨v,s⟩:=l;exact⟨v,by rw[d];exact s⟩
 refine (ok b u q).gp (λc v hc r=>k c v ?_ r) (λc r=>by rw[aA (g c b r)];exact r) λc xs r=>by rw[aA (i c xs r)];exact r
 grind
end
structure Un (fs ex:List dk) (H H':Hp) (h h':nL):Prop where
 keep:∀b o,h.get? b=ac o->H b=al->b∉fs->b∉ex->h'.get? b=ac o
 slot:∀b o,h.get? b=ac o->H b=al->b∈fs->b∉ex->∃sl,h'.get? b=ac {o with slots:=sl}
 free:∀b o,h.get? b=ac o->H b=al->b∉ex->H' b=al
 there:∀b o,h.get? b=ac o->b∉ex->∃o',h'.get? b=ac o'
 jV:∀b xs,H b=ac (.U xs)->H' b=ac (.U xs)
 iM:∀b o u,H b=ac (.bq o u)->H' b=ac (.bq o u)
 jM:∀b ps,H b=ac (.lG ps)->∃more,H' b=ac (.lG<|ps++more)
section
variable{fs fs' ex ex':List dk}{H H1 H2:Hp}{h h1 h2 h':nL}{a x e:dk}{o:HO}
def Un.any(u:Un fs ex H H1 h h1)(q:h.get? b=ac c)(n:H b=al)(d:b∉ex):∃g,h1.get? b=ac {c with slots:=g}:=by
 by_cases f:b∈fs
 ·exact u.slot b c q n f d
 exact⟨c.slots,u.keep b c q n f d⟩
def Un.kept(k:∀b u,h.get? b=ac u->h'.get? b=ac u):Un fs ex H H h h' :=
 ⟨λb c q _ _ _=>k b c q,λb c q _ _ _=>⟨c.slots,k b c q⟩,λ_ _ _ n _=>n,λb c q _=>⟨c,k b c q⟩,λ_ _ q=>q,λ_ _ _ q=>q,λ_ ps q=>⟨#[],by rw[q];simp⟩⟩
def Un.refl:Un fs ex H H h h:=Un.kept λ_ _ q=>q
def Un.laid(k:∀b u,h.get? b=ac u->h'.get? b=ac u)(d:h.objs.size<=a)(c:H a=al):Un fs ex H (upd H a o) h h' where
 keep:=λb u q _ _ _=>k b u q
 slot:=λb u q _ _ _=>⟨u.slots,k b u q⟩
 free:=λb u q n _=>by rw[aA (hG<|kH (fj q) d)];exact n
 there:=λb u q _=>⟨u,k b u q⟩
 jV:=λb xs q=>by rw[aA (cZ q c)];exact q
 iM:=λb u xs q=>by rw[aA (cZ q c)];exact q
 jM:=λb ps q=>⟨#[],by rw[aA (cZ q c),q];simp⟩
def Un.write(d:qv (H x))(he:e=x\/H e=ac (.O x))(k:∀b u,b≠e->h.get? b=ac u->h'.get? b=ac u)(heo:∃u,h'.get? e=ac u):Un fs ex H (upd H x o) h h':=by
 have i:∀b,H b=al->b≠x:=λb n z=>by subst z;rwa[n] at d
 have f:∀b,H b=al->b≠e:=by lia
 have c:∀b u,H b=ac u->¬qv (ac u)->b≠x:=by lia
 refine⟨λb u q n _ _=>k b u (f b n) q,λb u q n _ _=>⟨u.slots,k b u (f b n) q⟩,λb u q n _=>by rw[aA (i b n)];exact n,λb u q _=>?_,
  λb xs q=>by rw[aA (c b _ q λz=>z)];exact q,λb u xs q=>by rw[aA (c b _ q λz=>z)];exact q,λb ps q=>⟨#[],by rw[aA (c b _ q λz=>z),q];simp⟩⟩
 by_cases g:b=e;simp_all;exact⟨u,k b u g q⟩
end
noncomputable def eC(h:nL)(H:Hp):List Addr:=(gD h.objs.size).filter λa=>(H a).isSome
def ki(h:nL)(H:Hp):Heap:=W.hideAll h<|eC h H
theorem Jw (e:(ki h H).get? b=ac o):h.get? b=ac o/\H b=al:=by
 have a:=W.of_hideAll (eC h H) e;refine⟨a,?_⟩;cases q:H b with
 | none=>rfl
 | some x=>simp_all [eC,ki,fj,W.hideAll_none]
noncomputable def km(g h:nL)(L:dk):List (dk×z5):=(gD h.objs.size).filterMap λa=>if a=L\/(g.get? a).isSome=bd then al else (h.get? a).map λo=>(a,o)
def vO (c:a≠L)(d:g.get? a=al)(b:h.get? a=ac o):(a,o)∈km g h L :=
 Zi.2 ⟨a,iW.2<|fj b,by simp[c,d,b]⟩
theorem HD{g h:nL}{L:dk}{p:dk×z5}(a:p∈km g h L):p.1≠L/\g.get? p.1=al/\h.get? p.1=ac p.2:=by
 obtain⟨b,_,e⟩:=Zi.1 a;split at e
 ·exact nO e
 cases q:h.get? b with
 | none=>simp_all
 | some u=>rw[q] at e;simp at e;subst e;simp_all
theorem zq{g h:nL}{L:dk}:News g L h (km g h L):=fun p d=>let ⟨a,b,c⟩:=HD d;⟨c,a,b⟩
structure Mod (K:f') (mg:eS->Option cn) (base:nL):Prop where
 yj:K.In base
 glob:base.Ns kq mg
 blt:∃mb,base.Ns aes mb/\∀x:eS,x≠"__name__"->mb x=Yo x
 nolimit:base.NoLimit
structure Cx where
 prog:hY
 w:nR
 K:f'
 mg:eS->Option cn
 base:nL
 A:pA
 N:List eS
 eP:cW
 su:Hp
 env:Env
 outer:List Env
 stack:List Env
 ex:List dk
 fn:eS->Bool
 calm:Bool
 pn:List (dk×z5)
 xe:cn->cW->Prop
noncomputable def iX(l:List Env):List Addr:=l.filterMap (·.frame)
abbrev bP(x:eS):Prop:=(x==("__debug__":eS))=bi
abbrev cY(x:eS):Prop:=(x==("__classdict__":eS))=bi
abbrev bA(X:Cx)(e:hE)(a:List hE):Prop:=mu (e::a) X.env=(false,eval e X.env)::mu a X.env
abbrev nI(X:Cx)(p:y4)(e:hE):Prop:=((Zb p<|mu [e] X.env).all (λx=>!x.1)&&(backToKw p<|keywordEach [] X.env).all (λx=>x.1.isSome)&&am ([e].length+([]:List aeJ).length+(if ([]:List aeJ).isEmpty then 0 else 1)<30))=bd
abbrev Cx.fs(X:Cx):List Addr:=iX X.outer
def cx(a:YD)(x:eS):Prop:=a.names.lookup x=some .local\/a.names.lookup x=some .cell\/a.names.lookup x=some .free
def Loc(a:YD)(x:eS):Prop:=a.names.lookup x=some .local\/a.names.lookup x=some .cell
def Look(env:Env)(h:nL)(m:eS->Option cn)(x:eS)(u:cn):Prop :=
 (env.kindOf x=some .local/\m x=ac u)\/((env.kindOf x=some .cell\/env.kindOf x=some .free)/\∃c,env.cells.lookup x=ac c/\h.IsCell c (ac u))
structure Cx.Ok (X:Cx):Prop where
 mod:Mod X.K X.mg X.base
 kind:X.env.scope.kind=.function
 glob:X.env.globals=kq
 blt:X.env.builtins=aes
 above:X.eP.heap.objs.size<=X.env.locals
 inj:∀x y c,X.env.cells.lookup x=ac c->X.env.cells.lookup y=ac c->x=y
 has:∀x,(X.env.kindOf x=some .cell\/X.env.kindOf x=some .free)->∃c,X.env.cells.lookup x=ac c
 qL:∀x c,X.fn x=bd->X.env.cells.lookup x=ac c->X.eP.heap.objs.size<=c
 hd:X.calm=bd->X.A.handled=al
 frames:X.A.frames=ac X.stack
 ud:X.stack=X.outer\/(X.stack=X.env::X.outer/\X.env.frame=ac X.env.locals)
 CZ:∀b∈X.ex,b≠X.env.locals/\∀x c,X.env.cells.lookup x=ac c->c≠b
 bs:∀b o,X.base.get? b=ac o->X.eP.heap.get? b=ac o/\X.su b=al
 la:X.base.objs.size<=X.eP.heap.objs.size
 rL:∀b o,X.base.get? b=ac o->b∉X.ex
 vg:∀b∈X.ex,b∉X.fs
 i8:X.eP.heap.FunFrames X.base X.outer
 nY:∀b∈X.fs,X.su b=al
structure Inv (X:Cx) (pins:List (dk×z5)) (σ:List (Option V)) (H:Hp) (s:cW):Prop where
 ok:X.Ok
 os:s.os=X.eP.os
 bare:abt s.gens
 base:Un X.fs X.ex X.su H X.eP.heap s.heap
 loc:∃m,s.heap.Ns X.env.locals m/\∀(i:Nat) (x:eS) (v:V),X.N[i]?=ac x->σ[i]?=ac (ac v)->cx X.env.scope x->∃u,RelV v u/\Look X.env s.heap m x u
 cell:∀x c,X.env.cells.lookup x=ac c->∃v,s.heap.IsCell c v
 free:H X.env.locals=al
 gY:∀x c,X.env.cells.lookup x=ac c->H c=al
 pin:∀p∈X.pn++pins,s.heap.get? p.1=ac p.2/\H p.1=al/\p.1≠X.env.locals/\p.1∉X.fs/\∀v,p.2.data≠.cell v
 au:cb X.prog X.w H s.heap
 len:σ.length=X.N.length
section
variable{X:Cx}{pins:List (dk×z5)}{σ:List (Option V)}{H H':Hp}{s:cW}{h':nL}
def Cx.Ok.PU(ok:X.Ok)(e:X.base.get? b=ac o):b∉X.fs:=λa=>by have:=(ok.i8.mem a).1;simp_all
def Inv.bs(I:Inv X pins σ H s):∀b o,X.base.get? b=ac o->s.heap.get? b=ac o/\H b=al:=λb o e =>
 ⟨I.base.keep b o (I.ok.bs b o e).1 (I.ok.bs b o e).2 (I.ok.PU e) (I.ok.rL b o e),I.base.free b o (I.ok.bs b o e).1 (I.ok.bs b o e).2 (I.ok.rL b o e)⟩
def Inv.bk(I:Inv X pins σ H s):∀b o,X.base.get? b=ac o->s.heap.get? b=ac o:=λb o e=>(I.bs b o e).1
def Inv.mod(I:Inv X pins σ H s):Mod X.K X.mg X.base:=I.ok.mod
def Inv.h9(I:Inv X pins σ H s):X.K.In s.heap:=I.ok.mod.yj.keeps I.bk
def Inv.lt(I:Inv X pins σ H s):X.env.locals<s.heap.objs.size:=let ⟨_,a,_⟩:=I.loc;a.lt
def Inv.sz(I:Inv X pins σ H s):X.eP.heap.objs.size<=s.heap.objs.size:=nE I.ok.above<|Zx I.lt
def Inv.Ni(I:Inv X pins σ H s)(h:s.heap.objs.size<=a):a∉X.fs:=λb=>by obtain⟨_,o,c,_⟩:=I.ok.i8.mem b;exact absurd (kH (fj c)<|nE I.sz h)<|uz _
def Inv.jQ(I:Inv X pins σ H s):∀x c,X.env.cells.lookup x=ac c->c≠X.env.locals:=λx c e z=>by obtain⟨v,o,ho,hd⟩:=I.cell x c e;obtain⟨m,⟨o',es,ep,ho',hd',_⟩,_⟩:=I.loc;simp_all
theorem Inv.i8(I:Inv X pins σ H s):s.heap.FunFrames X.base X.outer:=by
 have all:∀(l:List Env),(∀b∈iX l,b∈X.fs)->X.eP.heap.FunFrames X.base l->s.heap.FunFrames X.base l:=by
  intro l;induction l with
  | nil=>intro _ _;trivial
  | cons env r f=>intro hs hl;obtain⟨g,⟨L,o,a,h,i,hd⟩,j⟩:=hl;have c:=hs L (by unfold iX;rw[Y',a];exact fk);obtain⟨sl,e⟩:=I.base.slot L o i (I.ok.nY L c) c λz=>I.ok.vg L z c;exact⟨g,⟨L,_,a,h,e,hd⟩,f (λb d=>hs b (by unfold iX;rw[Y',a];exact f6 _ d)) j⟩
 exact all X.outer (λ_ d=>d) I.ok.i8
def Inv.stack(I:Inv X pins σ H s):s.heap.FunFrames X.base X.stack:=by
 rcases I.ok.ud with e|⟨e,a⟩
 ·rw[e];exact I.i8
 rw[e];obtain⟨m,b,_⟩:=I.loc;refine .cons (by rw[I.ok.kind];decide) a b ?_ I.i8;exact acX<|nE I.ok.la I.ok.above
def Inv.uv(I:Inv X pins σ H s):∀b∈iX X.stack,b∈X.env.locals::X.fs:=λb a=>by
 rcases I.ok.ud with e|⟨e,c⟩
 ·rw[e] at a;exact f6 _ a
 rw[e] at a;delta iX at a;simp only[Y',c] at a;exact a
def Inv.BB(I:Inv X pins σ H s):∀b∈iX X.stack,H b=al:=λb a=>by
 rcases eW.1 (I.uv b a) with e|a
 ·rw[e];exact I.free
 obtain⟨_,o,c,_⟩:=I.ok.i8.mem a;exact I.base.free b o c (I.ok.nY b a) λz=>I.ok.vg b z a
def Inv.step{g':Array abk}{t':Nat}{d':Drawn}{ch:List dk}(I:Inv X pins σ H s)
 (g:∀b∈ch,(b∈X.ex\/X.eP.heap.objs.size<=b)/\b≠X.env.locals/\(∀x c,X.env.cells.lookup x=ac c->c≠b)/\∀p∈X.pn++pins,p.1≠b)
 (keep:∀b o,b≠X.env.locals->b∉X.fs->b∉ch->s.heap.get? b=ac o->H b=al->h'.get? b=ac o)
 (slot:∀b o,b≠X.env.locals->b∈X.fs->b∉ch->s.heap.get? b=ac o->H b=al->∃F,h'.get? b=ac {o with slots:=F})(free:∀b o,b∉ch->s.heap.get? b=ac o->H b=al->H' b=al)
 (there:∀b o,b∉ch->s.heap.get? b=ac o->∃B,h'.get? b=ac B)
 (jV:∀b xs,H b=ac (.U xs)->H' b=ac (.U xs))(iM:∀b o u,H b=ac (.bq o u)->H' b=ac (.bq o u))(jM:∀b D,H b=ac (.lG D)->∃more,H' b=ac (.lG<|D++more))
 (ns:∀m,s.heap.Ns X.env.locals m->h'.Ns X.env.locals m)(au:cb X.prog X.w H' h')(L:abt g') :
  Inv X pins σ H' {s with heap:=h',gens:=g',drawn:=d',toks:=t'}:=by
 have E:∀b o,X.eP.heap.get? b=ac o->b≠X.env.locals:=λb o e=>hG<|kH (fj e) I.ok.above;have t:∀b o,X.eP.heap.get? b=ac o->b∉X.ex->b∉ch:=λb o e a j=>by
  rcases (g b j).1 with z|z
  ·exact a z
  exact absurd (kH (fj e) z)<|uz _
 have y:∀x c,X.env.cells.lookup x=ac c->∀v,s.heap.IsCell c v->h'.IsCell c v:=λx c e v ⟨o,A,hd⟩=>by
  have h:c∉ch:=λz=>(g c z).2.2.1 x c e ρ;by_cases G:c∈X.fs
  ·obtain⟨F,q⟩:=slot c o (I.jQ x c e) G h A<|I.gY x c e;exact⟨_,q,hd⟩
  exact⟨o,keep c o (I.jQ x c e) G h A<|I.gY x c e,hd⟩
 refine⟨I.ok,I.os,L,⟨λb o e n j a=>?_,λb o e n j a=>?_,λb o e n a=>?_,λb o e a=>?_,λb xs e=>jV b xs<|I.base.jV b xs e,λb o xs e=>iM b o xs<|I.base.iM b o xs e,λb D e=>?_⟩,?_,λx c e=>?_,?_,λx c e=>?_,λp J=>?_,au,I.len⟩
 ·exact keep b o (E b o e) j (t b o e a) (I.base.keep b o e n j a)<|I.base.free b o e n a
 ·obtain⟨F,f⟩:=I.base.slot b o e n j a;obtain⟨K,C⟩:=slot b _ (E b o e) j (t b o e a) f<|I.base.free b o e n a;exact⟨K,C⟩
 ·obtain⟨B,f⟩:=I.base.there b o e a;exact free b B (t b o e a) f<|I.base.free b o e n a
 ·obtain⟨B,f⟩:=I.base.there b o e a;exact there b B (t b o e a) f
 ·obtain⟨M,f⟩:=I.base.jM b D e;obtain⟨N,C⟩:=jM b _ f;exact⟨M++N,by rw[C,adk]⟩
 ·obtain⟨m,O,hl⟩:=I.loc;refine⟨m,ns m O,λi x v f C P=>?_⟩;obtain⟨u,r,l⟩:=hl i x v f C P;refine⟨u,r,?_⟩;rcases l with l|⟨k,c,e,z⟩
  ·exact ι l
  exact τ ⟨k,c,e,y x c e _ z⟩
 ·obtain⟨v,z⟩:=I.cell x c e;exact⟨v,y x c e v z⟩
 ·obtain⟨m,⟨o,_,_,A,_⟩,_⟩:=I.loc;exact free _ o (λz=>(g _ z).2.1 ρ) A I.free
 ·obtain⟨v,o,A,hd⟩:=I.cell x c e;exact free c o (λz=>(g c z).2.2.1 x c e ρ) A<|I.gY x c e
 obtain⟨e,n,ne,nf,d⟩:=I.pin p J;have h:p.1∉ch:=λz=>(g p.1 z).2.2.2 p J ρ;exact⟨keep p.1 p.2 ne nf h e n,free p.1 p.2 h e n,ne,nf,d⟩
def Inv.un (I:Inv X pins σ H s)(u:Un X.fs [] H H' s.heap h')(au:cb X.prog X.w H' h'):Inv X pins σ H' {s with heap:=h',toks:=t'}:=by
 obtain⟨m,⟨o,es,ep,d,r⟩,_⟩:=id I.loc;obtain⟨sl,g⟩:=u.any d I.free ⋯
 exact I.step (ch:=[]) (λ_ z=>nomatch z) (λb o _ c _ e n=>u.keep b o e n c ⋯) (λb o _ c _ e n=>u.slot b o e n c ⋯) (λb o _ e n=>u.free b o e n ⋯) (λb o _ e=>u.there b o e ⋯) u.jV u.iM u.jM (λm' h=>by obtain⟨o',es',f,a,i⟩:=h;rw[d] at a;obtain rfl:=sO a;exact⟨_,es',f,g,i⟩) au I.bare
def Inv.call (I:Inv X pins σ H s)(u:Un (iX X.stack) ch H H' s.heap h')(au:cb X.prog X.w H' h')(j:abt g')(d:∀b∈ch,(b∈X.ex\/X.eP.heap.objs.size<=b)/\b≠X.env.locals/\(∀x c,X.env.cells.lookup x=ac c->c≠b)/\∀p∈X.pn++pins,p.1≠b) :
  Inv X pins σ H' {s with heap:=h',gens:=g',drawn:=d',toks:=t'}:=by
 obtain⟨m,⟨o,es,ep,h,r⟩,_⟩:=id I.loc;obtain⟨sl,g⟩:=u.any h I.free λz=>(d _ z).2.1 ρ
 exact I.step d (λb o g k a e n=>u.keep b o e n (λz=>(eW.1<|I.uv b z).elim g k) a) (λb o _ _ a e n=>u.any e n a) (λb o a e n=>u.free b o e n a) (λb o a e=>u.there b o e a) u.jV u.iM u.jM (λm' l=>by obtain⟨o',es',i,f,q⟩:=l;rw[h] at f;obtain rfl:=sO f;exact⟨_,es',i,g,q⟩) au j
def Inv.turned (I:Inv X pins σ H s)(k:∀b o,b≠it->s.heap.get? b=ac o->h'.get? b=ac o)(hn:H it=al)(f:it≠X.env.locals)(g:it∈X.ex\/X.eP.heap.objs.size<=it)(h:∀x c,X.env.cells.lookup x=ac c->c≠it)(i:∀p∈X.pn++pins,p.1≠it):Inv X pins σ H {s with heap:=h',toks:=t'}:=by
 have d:∀b u,H b=ac u->b≠it:=by lia
 refine I.step (ch:=[it]) (λb j=>?_) (λb o _ _ a e _=>k b o (λz=>a (by simp[z])) e) (λb o _ _ a e _=>⟨o.slots,k b o (λz=>a (by simp[z])) e⟩) (λ_ _ _ _ n=>n)
  (λb o a e=>⟨o,k b o (λz=>a (by simp[z])) e⟩) (λ_ _ e=>e) (λ_ _ _ e=>e) (λb ps e=>⟨#[],by rw[e];simp⟩) (λm l=>?_) (λb u e=>?_) I.bare
 ·have e:b=it:=by simpa using j
  subst e;exact⟨g,f,h,i⟩
 ·obtain⟨o,t,ep,w,r⟩:=l;exact⟨o,t,ep,k _ o (Ne.symm f) w,r⟩
 refine (I.au b u e).gp (λc v a q=>k c v ?_ q) (λ_ q=>q) λ_ _ q=>q;rcases a with z|z
 ·rw[z];exact d b u e
 exact d c _ z
def Inv.tok(I:Inv X pins σ H s)(t:Nat):Inv X pins σ H {s with toks:=t}:=I.un Un.refl I.au
def Inv.kept (I:Inv X pins σ H s)(k:∀b u,s.heap.get? b=ac u->h'.get? b=ac u):Inv X pins σ H {s with heap:=h',toks:=t'}:=I.un (Un.kept k)<|I.au.kept k
def Inv.laid (I:Inv X pins σ H s)(k:∀b u,s.heap.get? b=ac u->h'.get? b=ac u)(c:s.heap.objs.size<=a)(d:cF X.prog X.w (upd H a o) h' a o) :
  Inv X pins σ (upd H a o) {s with heap:=h',toks:=t'}:=I.un (Un.laid k c<|I.au.fresh c)<|I.au.laid k c d
def Inv.write (I:Inv X pins σ H s)(c:qv (H x))(d:e=x\/H e=ac (.O x))(k:∀b u,b≠e->s.heap.get? b=ac u->h'.get? b=ac u)(a:∃u,h'.get? e=ac u)(f:cF X.prog X.w (upd H x o) h' x o):Inv X pins σ (upd H x o) {s with heap:=h',toks:=t'}:=I.un (Un.write c d k a)<|I.au.write c d k a f
def Inv.Dk (I:Inv X pins σ H s)(h:∀p∈a,s.heap.get? p.1=ac p.2/\H p.1=al/\p.1≠X.env.locals/\p.1∉X.fs/\∀v,p.2.data≠.cell v):Inv X a σ H s :=
 ⟨I.ok,I.os,I.bare,I.base,I.loc,I.cell,I.free,I.gY,λp b=>(eH.1 b).elim (λz=>I.pin p<|ac1 _ z) (h p),I.au,I.len⟩
def Cr{N:List eS}(c:N.Nodup){i j:Nat}{x:eS}(a:N[i]?=ac x)(b:N[j]?=ac x):i=j:=by obtain⟨h1,d⟩:=cm.1 a;obtain⟨h2,e⟩:=cm.1 b;exact (z9 c).1 (d.trans e.symm)
def AO (I:Inv X pins σ H s)(hN:X.N.Nodup)(G:X.N[i]?=ac x)(l:Loc X.env.scope x)(r:RelV v u)(h:∀s',Inv X pins (σ.set i<|ac v) H s'->(∃a,Yi a s.heap s'.heap/\(a=X.env.locals\/X.env.cells.lookup x=ac a))->Q () s')(hf:X.fn x=bd\/X.env.scope.names.lookup x=some .local:=by first|exact ι ρ|exact τ ρ|assumption):g8 M A (storeName X.env x u) Q E s:=by
 obtain⟨m,T,hl⟩:=id I.loc;have U:(X.env.scope.kind==.class||(X.env.scope.kind==.module&&X.env.locals != X.env.globals))=bi:=by rw[I.ok.kind];rfl
 have J:i<σ.length:=by rw[I.len];exact (cm.1 G).1
 have jQ:=I.jQ;have tracked:∀{a:dk}{h':nL},(∃o,s.heap.get? a=ac o/\H a=al)->Yi a s.heap h'->cb X.prog X.w H h':=λ{a h'} ha hs b ob e=>by
  obtain⟨_,_,F⟩:=ha;refine (I.au b ob e).gp (λc L g q=>(hs.2 c ?_).trans q) (λ_ q=>q) λ_ _ q=>q;rintro rfl;rcases g with rfl|g
  ·rw[F] at e;exact nO e
  rw[F] at g;exact nO g
 rcases l with B|B
 ·refine wpAny_storeName_local B T (λh' Va hs=>?_) U;obtain⟨oL,_,_,Vb,_⟩:=id T;refine h _ ⟨I.ok,I.os,I.bare,⟨λb o e n C l=>?_,λb o e n C l=>?_,I.base.free,λb o e l=>?_,I.base.jV,I.base.iM,I.base.jM⟩,⟨_,Va,λj y W f t Y=>?_⟩,λy c e=>?_,I.free,I.gY,λp Z=>?_,tracked ⟨oL,Vb,I.free⟩ hs,by simpa using I.len⟩ ⟨_,hs,ι ρ⟩
  ·exact (hs.2 b<|hG<|kH (fj e) I.ok.above).trans (I.base.keep b o e n C l)
  ·obtain⟨sl,f⟩:=I.base.slot b o e n C l;exact⟨sl,(hs.2 b<|hG<|kH (fj e) I.ok.above).trans f⟩
  ·obtain⟨o',f⟩:=I.base.there b o e l;exact⟨o',(hs.2 b<|hG<|kH (fj e) I.ok.above).trans f⟩
  ·by_cases D:j=i
   ·subst D;rw[G] at f;obtain rfl:=sO f;rw[tm J] at t;cases t;exact⟨u,r,ι ⟨B,⋯⟩⟩
   rw[mA (Ne.symm D)] at t;obtain⟨u',r',q⟩:=hl j y W f t Y;refine⟨u',r',?_⟩;rcases q with⟨k,e⟩|⟨k,c,e,z⟩
   ·refine ι ⟨k,?_⟩;have:y≠x:=λe=>D (Cr hN f<|e ▸ G);simp[this,e]
   exact τ ⟨k,c,e,z.sameBut hs<|jQ y c e⟩
  ·obtain⟨L,z⟩:=I.cell y c e;exact⟨L,z.sameBut hs<|jQ y c e⟩
  obtain⟨e,n,ne,nf,d⟩:=I.pin p Z;exact⟨(hs.2 p.1 ne).trans e,n,ne,nf,d⟩
 have K:X.fn x=bd:=by
  rcases hf with z|z
  ·exact z
  rw[z] at B;contradiction
 obtain⟨c,g⟩:=I.ok.has x<|ι B;obtain⟨L,z⟩:=I.cell x c g;refine wpAny_storeName_cell I.ok.kind B g z<|λh' P hs=>?_;obtain⟨oc,R,U9⟩:=id z;refine h {s with heap:=h'} ⟨I.ok,I.os,I.bare,⟨λb o e n C l=>?_,λb o e n C l=>?_,I.base.free,λb o e l=>?_,I.base.jV,I.base.iM,I.base.jM⟩,⟨m,T.sameBut hs<|Ne.symm<|jQ x c g,λj y W f t Y=>?_⟩,λy O e=>?_,I.free,I.gY,λp Z=>?_,tracked ⟨oc,R,I.gY x c g⟩ hs,by simpa using I.len⟩ ⟨c,hs,τ g⟩
 ·exact (hs.2 b<|hG<|kH (fj e)<|I.ok.qL x c K g).trans (I.base.keep b o e n C l)
 ·obtain⟨sl,f⟩:=I.base.slot b o e n C l;exact⟨sl,(hs.2 b<|hG<|kH (fj e)<|I.ok.qL x c K g).trans f⟩
 ·obtain⟨o',f⟩:=I.base.there b o e l;exact⟨o',(hs.2 b<|hG<|kH (fj e)<|I.ok.qL x c K g).trans f⟩
 ·by_cases D:j=i
  ·subst D;rw[G] at f;obtain rfl:=sO f;rw[tm J] at t;cases t;exact⟨u,r,τ ⟨ι B,c,g,P⟩⟩
  rw[mA (Ne.symm D)] at t;obtain⟨u',r',q⟩:=hl j y W f t Y;refine⟨u',r',?_⟩;rcases q with q|⟨k,O,e,z'⟩
  ·exact ι q
  refine τ ⟨k,O,e,z'.sameBut hs ?_⟩;rintro rfl;exact D<|Cr hN f<|I.ok.inj _ _ _ e g ▸ G
 ·by_cases S:O=c
  ·subst S;exact⟨_,P⟩
  obtain⟨w2,z2⟩:=I.cell y O e;exact⟨w2,z2.sameBut hs S⟩
 obtain⟨e,n,ne,nf,d⟩:=I.pin p Z;refine⟨(hs.2 p.1 ?_).trans e,n,ne,nf,d⟩;intro q;rw[q,R] at e;exact d L (by rw[<-(Option.some.inj e)];exact U9)
def EN (I:Inv X pins σ H s)(a:X.N.Nodup)(b:X.N[i]?=ac x)(c:Loc X.env.scope x)(r:RelV v u)(h:∀s',Inv X pins (σ.set i<|ac v) H s'->Q () s')(d:X.fn x=bd\/X.env.scope.names.lookup x=some .local:=by first|exact ι ρ|exact τ ρ|assumption):g8 M A (storeName X.env x u) Q E s :=
 AO I a b c r (λs' e _=>h s' e) d
def Inv.IP (I:Inv X pins σ H s)(d:s'.os=s.os)(u:Un (iX X.stack) ch H H' s.heap s'.heap)(au:cb X.prog X.w H' s'.heap)(f:abt s'.gens)(a:∀b∈ch,(b∈X.ex\/X.eP.heap.objs.size<=b)/\b≠X.env.locals/\(∀x c,X.env.cells.lookup x=ac c->c≠b)/\∀p∈X.pn++pins,p.1≠b):Inv X pins σ H' s':=by obtain⟨h',g',d',t',g⟩:=s';have e:=d;subst e;exact I.call u au f a
end
abbrev XK:=cn->Option dk->Hp->Prop
abbrev St:=List<|Option V
abbrev VK:=V->Hp->Prop
abbrev TE:=St->Hp->VK->Prop
noncomputable abbrev TT:=St->Hp->(Bool->Hp->Prop)->Prop
abbrev TA:=St->Hp->(List V->Hp->Prop)->Prop
structure Ends where
 nx:St->Hp->Prop
 rt:VK
 bk:St->Hp->Prop:=fun _ _=>False
 ct:St->Hp->Prop:=fun _ _=>False
abbrev TS:=Ends->St->Hp->Prop
inductive EP (X:Cx) (pins:List (dk×z5)) (σ:St) (Q:VK) (u:cn) (s':cW):Prop
 | mk (v) (H') (i:Inv X pins σ H' s') (r:RelV v u) (q:Q v H')
def TP(X:Cx)(a:List (dk×z5))(d:St)(Q:Bool->Hp->Prop)(b:Bool)(s':cW):Prop:=∃c,Inv X a d c s'/\Q b c
inductive AP (X:Cx) (pins:List (dk×z5)) (σ:St) (Q:List V->Hp->Prop) (us:List cn) (s':cW):Prop
 | mk (vs) (H') (i:Inv X pins σ H' s') (r:aJ vs us) (q:Q vs H')
def SP(X:Cx)(c:List (dk×z5))(D:Ends)(f:Flow)(s':cW):Prop :=
 match f with
 | .next=>∃a b,Inv X c a b s'/\D.nx a b
 | .brk=>∃a b,Inv X c a b s'/\D.bk a b
 | .cont=>∃a b,Inv X c a b s'/\D.ct a b
 | .ret u=>∃v a b,Inv X c a b s'/\RelV v u/\D.rt v b
def PE(X:Cx)(e:hE)(t:TE):Prop :=
 ∀(a:List (dk×z5)) (s:cW) (b:St) (H:Hp) (Q:VK),Inv X a b H s->t b H Q->g8 (hQ X.prog X.w) X.A (eval e X.env) (EP X a b Q) X.xe s
def PT(X:Cx)(e:hE)(t:TT):Prop :=
 ∀(a:List (dk×z5)) (s:cW) (b:St) (H:Hp) (Q:Bool->Hp->Prop),Inv X a b H s->t b H Q->g8 (hQ X.prog X.w) X.A (adx e X.env<|eval e X.env) (TP X a b Q) X.xe s
def PW(X:Cx)(e:hE)(t:TT):Prop :=
 ∀(whole:Sem cn) (a:List (dk×z5)) (s:cW) (b:St) (H:Hp) (Q:Bool->Hp->Prop),Inv X a b H s->t b H Q->g8 (hQ X.prog X.w) X.A (adx e X.env whole) (TP X a b Q) X.xe s
def PW.pt (h:PW X e t):PT X e t:=h _
def PA(X:Cx)(c:List hE)(t:TA):Prop :=
 ∀(pos:y4) (a:List (dk×z5)) (s:cW) (b:St) (H:Hp) (Q:List V->Hp->Prop),Inv X a b H s->t b H Q->g8 (hQ X.prog X.w) X.A (spliced<|Zb pos<|mu c X.env) (AP X a b Q) X.xe s
def PS(X:Cx)(st:Zq)(t:TS):Prop :=
 ∀(a:List (dk×z5)) (s:cW) (b:St) (H:Hp) (D:Ends),Inv X a b H s->t D b H->g8 (hQ X.prog X.w) X.A (exec st X.env) (SP X a D) X.xe s
def ic(X:Cx)(st:List Zq)(t:TS):Prop :=
 ∀(a:List (dk×z5)) (s:cW) (b:St) (H:Hp) (D:Ends),Inv X a b H s->t D b H->g8 (hQ X.prog X.w) X.A (execs st X.env) (SP X a D) X.xe s
def aH (h:g8 M A t Q E s)(d:∀a s,Q a s->c a s):g8 M A t c E s:=Ye h d λ_ _ x=>x
section
variable{X:Cx}
def xI(i:Nat):TE:=λa H Q=>∃v,a[i]?=ac (ac v)/\Q v H
def tC(v:V):TE:=λ_ H Q=>Q v H
def fH (k:X.N[i]?=ac x)(n:cx X.env.scope x)(hd:bP x:=by decide)(g:cY x:=by decide):PE X (.Name x pos) (xI i):=by
 intro f s o H Q I h;obtain⟨v,e,h⟩:=h;obtain⟨m,p,hl⟩:=I.loc;obtain⟨u,r,l⟩:=hl i x v k e n;have d:EP X f o Q u s:=⟨v,H,I,r,h⟩;rcases l with⟨a,q⟩|⟨a,c,j,b⟩
 ·exact aeo (wpAny_loadName_local I.ok.kind a p q d) hd
 rcases a with a|a
 ·exact aeo (wpAny_loadName_cell I.ok.kind a j b d) hd
 exact aeo (wpAny_loadName_free I.ok.kind a j b d g) hd
def T7{b j pos}:PE X (.Constant (.bool b) j pos) (tC<|.bl b):=λ_ _ _ H _ I h=>Constant_bool ⟨.bl b,H,I,ρ,h⟩
def CT{x j pos}:PE X (.Constant (.str x) j pos) (tC<|.str x):=λ_ _ _ H _ I h=>Calls.Constant_str ⟨.str x,H,I.tok _,⟨_,ρ⟩,h⟩
def Gl(X:Cx)(x:eS):Prop:=X.env.kindOf x=some .globalImplicit
def EZ (I:Inv X a b H s)(c:Gl X x)(d:X.mg x=ac u)(h:Q u s)(hd:bP x:=by decide):g8 (hQ X.prog X.w) X.A (eval (.Name x pos) X.env) Q E s :=
 ab9 I.ok.kind c (Calls.loadGlobal_global (by rw[I.ok.glob];exact I.mod.glob.keeps I.bk) d h) hd
def mM (I:Inv X a b H s)(c:Gl X x)(d:X.mg x=al)(e:Yo x=ac u)(h:Q u s)(f:x≠"__name__":=by decide)(hd:bP x:=by decide):g8 (hQ X.prog X.w) X.A (eval (.Name x pos) X.env) Q E s:=by obtain⟨mb,g,i⟩:=I.mod.blt;exact ab9 I.ok.kind c (Calls.loadGlobal_builtin (by rw[I.ok.glob];exact I.mod.glob.keeps I.bk) d (by rw[I.ok.blt];exact g.keeps I.bk) ((i x f).trans e) h) hd
def Dx (a:Gl X x)(b:X.mg x=ac u)(r:RelV v u)(hd:bP x:=by decide):PE X (.Name x pos) (tC v) :=
 λ_ _ _ H _ I h=>EZ I a b ⟨v,H,I,r,h⟩ hd
def QF (a:Gl X x)(b:X.mg x=al)(c:Yo x=ac u)(r:RelV v u)(d:x≠"__name__":=by decide)(hd:bP x:=by decide):PE X (.Name x pos) (tC v) :=
 λ_ _ _ H _ I h=>mM I a b c ⟨v,H,I,r,h⟩ d hd
variable{a b:hE}{ta tb:TE}{pos:y4}
variable{tA tB':TT}{rest:List hE}
def LW(t u:TT):TT:=λd H Q=>t d H λc e=>if c=bd then u d e Q else Q false e
def T8(t u:TT):TT:=λd H Q=>t d H λc e=>if c=bd then Q true e else u d e Q
def Kz(t:TT):TT:=λd H Q=>t d H λc e=>Q (!c) e
theorem Oh(f:PT X a tA):PW X (.BoolOp .And [a] pos) tA:=by
 refine λwh d s g H Q I h=>isTrue_and (aH (f d s g H Q I h) λc s1 e=>?_);cases c with
 | true=>exact isTrue_and_nil e
 | false=>exact e
theorem MZ(f:PT X a tA):PW X (.BoolOp .Or [a] pos) tA:=by
 refine λwh d s g H Q I h=>isTrue_or (aH (f d s g H Q I h) λc s1 e=>?_);cases c with
 | false=>exact isTrue_or_nil e
 | true=>exact e
theorem QV(j:PT X a tA)(k:PW X (.BoolOp .And (b::rest) pos) tB'):PW X (.BoolOp .And (a::b::rest) pos) (LW tA tB'):=by
 refine λl d s e H Q I h=>isTrue_and (aH (j d s e H _ I h) λc m q=>?_);obtain⟨f,g,i⟩:=q;cases c with
 | true=>exact k l d m e f Q g i
 | false=>exact⟨f,g,i⟩
theorem Hx(j:PT X a tA)(k:PW X (.BoolOp .Or (b::rest) pos) tB'):PW X (.BoolOp .Or (a::b::rest) pos) (T8 tA tB'):=by
 refine λl d s e H Q I h=>isTrue_or (aH (j d s e H _ I h) λc m q=>?_);obtain⟨f,g,i⟩:=q;cases c with
 | true=>exact⟨f,g,i⟩
 | false=>exact k l d m e f Q g i
def MC{op}(h:PE X a t):PE X (.BoolOp op [a] pos) t:=λc s d H Q I hw=>BoolOp_one<|h c s d H Q I hw
def RZ(t:TT)(ta tb:TE):TE:=λd H Q=>t d H λc e=>if c=bd then ta d e Q else tb d e Q
theorem Nq (l:PT X c tA)(m:PE X a ta)(n:PE X b tb):PE X (.IfExp c a b pos) (RZ tA ta tb):=by
 refine λe s f H Q I h=>wpAny_IfExp (aH (l e s f H _ I h) λd g q=>?_);obtain⟨i,j,k⟩:=q;cases d with
 | true=>exact m e g f i Q j k
 | false=>exact n e g f i Q j k
end
def cu(K:f')(H:Hp)(a:dk)(xs:List V):Prop :=
 Rd H a (.L xs) \/
  ∃(o:z5) (its:Array cn) (n:Nat),K.lookup a=ac o/\o.cls=.type "list"/\o.dict=al/\o.data=.seq its n/\its.size<=cA/\aJ xs its.toList
def ba(K:f')(H:Hp)(a:dk)(xs:List V):Prop :=
 Rd H a (.U xs) \/
  ∃(o:z5) (its:Array cn) (n:Nat),K.lookup a=ac o/\o.cls=.type "tuple"/\o.data=.seq its n/\its.size<=cA/\aJ xs its.toList
noncomputable def QK:cn->Option V
 | .none=>some .aQ
 | .bool b=>ac (.bl b)
 | .int i _=>ac (.int i)
 | .str x _=>ac (.str x)
 | .bytes b _=>ac (.rY b)
 | .float b _=>ac (.vK b)
 | .ref a=>ac (.ref a)
 | .type n=>ac (.ty n)
 | _=>al
theorem RelV.abs (r:RelV x u):QK u=ac x:=by
 cases x with
 | aQ=>subst r;rfl
 | bl _=>subst r;rfl
 | int _=>obtain⟨t,rfl⟩:=r;rfl
 | str _=>obtain⟨t,rfl⟩:=r;rfl
 | rY _=>obtain⟨t,rfl⟩:=r;rfl
 | vK _=>obtain⟨t,rfl⟩:=r;rfl
 | ref _=>subst r;rfl
 | ty _=>subst r;rfl
def RelV.inj (r:RelV x u)(q:RelV y u):x=y:=Option.some.inj<|r.abs.symm.trans q.abs
theorem aJ.inj (h:aJ xs us)(h':aJ ys us):xs=ys:=by
 induction h generalizing ys with
 | nil=>cases h';rfl
 | cons r t a =>
  cases h' with
  | cons b t'=>rw[r.inj b,a t']
section
variable{X:Cx}{pins:List (dk×z5)}{σ:St}{H:Hp}{s:cW}{a:dk}{xs ys:List V}{E:cn->cW->Prop}
def cu.of{K:f'}(h:H a=ac (.L xs)):cu K H a xs:=ι<|ι h
def ba.of{K:f'}(h:H a=ac (.U xs)):ba K H a xs:=ι<|ι h
def Inv.list(I:Inv X pins σ H s)(h:cu X.K H a xs):∃its:List cn,aJ xs its/\PlainL s.heap a its.toArray/\xs.length<=sizeLine:=by
 rcases h with h|⟨o,its,n,b,c,hd,hs,hz,r⟩
 ·obtain⟨z,its,n,r,e⟩:=h.ok I.au;exact⟨its,r,⟨_,n,e,ρ,ρ,ρ⟩,z⟩
 refine⟨its.toList,r,⟨o,n,I.h9 a o b,c,hd,by simpa using hs⟩,?_⟩;have e:=r.length;simp_all
def Inv.tuple(I:Inv X pins σ H s)(h:ba X.K H a xs):∃its:List cn,aJ xs its/\ZH s.heap a its.toArray/\xs.length<=sizeLine:=by
 rcases h with h|⟨o,its,n,b,c,hs,hz,r⟩
 ·obtain⟨z,its,r,p⟩:=h.ok I.au;exact⟨its,r,p,z⟩
 refine⟨its.toList,r,⟨o,I.h9 a o b,c,n,by simpa using hs⟩,?_⟩;have e:=r.length;simp_all
def Inv.Iq(I:Inv X pins σ H s)(h:cu X.K H a xs)(h':cu X.K H a ys):xs=ys:=by
 obtain⟨its,r,⟨o,n,e,_,_,d⟩,_⟩:=I.list h;obtain⟨its',c,⟨o',n',b,_,_,d'⟩,_⟩:=I.list h';rw[e] at b;obtain rfl:=sO b;rw[d] at d';injection d' with f _;have:its=its':=by simpa using congrArg aeB f
 subst this;exact r.inj c
def Inv.Sn(I:Inv X pins σ H s)(h:ba X.K H a xs)(h':ba X.K H a ys):xs=ys:=by
 obtain⟨its,r,⟨o,e,_,n,d⟩,_⟩:=I.tuple h;obtain⟨its',c,⟨o',b,_,n',d'⟩,_⟩:=I.tuple h';rw[e] at b;obtain rfl:=sO b;rw[d] at d';injection d' with f _;have:its=its':=by simpa using congrArg aeB f
 subst this;exact r.inj c
abbrev Cx.jx(X:Cx)(E:cn->cW->Prop):Cx:={X with xe:=E}
abbrev Cx.lC(X:Cx):Cx:=X.jx λ_ _=>False
def Cx.Ok.jx (ok:X.Ok)(E:cn->cW->Prop):(X.jx E).Ok :=
 ⟨ok.mod,ok.kind,ok.glob,ok.blt,ok.above,ok.inj,ok.has,ok.qL,ok.hd,ok.frames,ok.ud,ok.CZ,ok.bs,ok.la,ok.rL,ok.vg,ok.i8,ok.nY⟩
def Cx.Ok.kR (ok:(X.jx E).Ok):X.Ok :=
 ⟨ok.mod,ok.kind,ok.glob,ok.blt,ok.above,ok.inj,ok.has,ok.qL,ok.hd,ok.frames,ok.ud,ok.CZ,ok.bs,ok.la,ok.rL,ok.vg,ok.i8,ok.nY⟩
def Inv.jx(I:Inv X pins σ H s)(E:cn->cW->Prop):Inv (X.jx E) pins σ H s:=⟨I.ok.jx E,I.os,I.bare,I.base,I.loc,I.cell,I.free,I.gY,I.pin,I.au,I.len⟩
def Inv.kR(I:Inv (X.jx E) pins σ H s):Inv X pins σ H s:=⟨I.ok.kR,I.os,I.bare,I.base,I.loc,I.cell,I.free,I.gY,I.pin,I.au,I.len⟩
theorem SP.kR (h:SP (X.jx E) pins D f s'):SP X pins D f s':=by
 cases f with
 | next=>obtain⟨b,c,I,q⟩:=h;exact⟨b,c,I.kR,q⟩
 | brk=>obtain⟨b,c,I,q⟩:=h;exact⟨b,c,I.kR,q⟩
 | cont=>obtain⟨b,c,I,q⟩:=h;exact⟨b,c,I.kR,q⟩
 | ret u=>obtain⟨v,b,c,I,r,q⟩:=h;exact⟨v,b,c,I.kR,r,q⟩
def ic.lC{st:List Zq}{t:TS}(h:ic X.lC st t):ic X st t:=λpins s σ H D I hw =>
 Ye (h pins s σ H D (I.jx _) hw) (λ_ _ q=>q.kR) λ_ _ z=>Yw z
end
section
variable{X:Cx}{st:Zq}{rest:List Zq}{t u:TS}{e:hE}{te:TE}{pos:y4}
def JD:TS:=λD a H=>D.nx a H
def Sj(t u:TS):TS:=λD a H=>t {D with nx:=u D} a H
def KN:ic X [] JD:=λ_ _ a H _ I h=>acC ⟨a,H,I,h⟩
theorem Ld(c:PS X st t)(d:ic X rest u):ic X (st::rest) (Sj t u):=by
 refine λa s g H D I h=>wpAny_execs_cons (aH (c a s g H {D with nx:=u D} I h) λf i q=>?_);cases f with
 | next=>obtain⟨b,j,k,q⟩:=q;exact d a i b j D k q
 | ret v=>exact q
 | brk=>exact q
 | cont=>exact q
def Inv.quiet (I:Inv X a b H s):interactive X.env=bi:=by simp[interactive,I.ok.kind]
def Rn(te:TE):TS:=λD a H=>te a H λ_ b=>D.nx a b
def LI(c:PE X e te)(hs:HT e al pos.line X.env=pure false:=by rfl):PS X (.Expr e pos) (Rn te):=by exact λa s b H D I h=>wpAny_Expr_any (aH (c a s b H _ I h) λv s1 ⟨x,d,f,r1,g⟩=>⟨b,d,f,g⟩) I.quiet hs
def Nh(te:TE):TS:=λD a H=>te a H D.rt
def Hy(c:PE X e te):PS X (.Return (ac e) pos) (Nh te):=by exact λa s b H D I h=>wpAny_Return_some (aH (c a s b H _ I h) λv s1 ⟨x,d,f,g,i⟩=>⟨x,b,d,f,g,i⟩)
def UO(c:TT)(t u:TS):TS:=λD a H=>c a H λb d=>if b=bd then t D a d else u D a d
theorem Pt (m:PT X c tc)(n:ic X a t)(o:ic X b u):PS X (.If c a b pos) (UO tc t u):=by
 refine λf s g H D I h=>wpAny_If (aH (m f s g H _ I h) λd i e=>?_);obtain⟨j,k,l⟩:=e;cases d with
 | true=>exact n f i g j D k l
 | false=>exact o f i g j D k l
end
abbrev TG:=V->St->Hp->(St->Hp->Prop)->Prop
abbrev jf:=List V->St->Hp->(St->Hp->Prop)->Prop
def PG(X:Cx)(target:hE)(t:TG):Prop :=
 ∀(a:List (dk×z5)) (s:cW) (c:St) (H:Hp) (v:V) (u:cn) (Q:St->Hp->Prop),Inv X a c H s->RelV v u->t v c H Q ->
  g8 (hQ X.prog X.w) X.A (ZR target X.env u) (λ_ s'=>∃b d,Inv X a b d s'/\Q b d) X.xe s
def nK(X:Cx)(e:List hE)(t:jf):Prop :=
 ∀(a:List (dk×z5)) (s:cW) (c:St) (H:Hp) (vs:List V) (us:List cn) (Q:St->Hp->Prop),Inv X a c H s->aJ vs us->t vs c H Q ->
  g8 (hQ X.prog X.w) X.A (assignInOrder ((u1 e X.env).map (·.2)) us) (λ_ s'=>∃b d,Inv X a b d s'/\Q b d) X.xe s
abbrev Al:=V->V->V->Hp->(Hp->Prop)->Prop
def F6(X:Cx)(t:Al):Prop :=
 ∀(a:List (dk×z5)) (s:cW) (b:St) (H:Hp) (o i v:V) (c d u:cn) (Q:Hp->Prop),Inv X a b H s->RelV o c->RelV i d->RelV v u->t o i v H Q ->
  g8 (hQ X.prog X.w) X.A (adt c d u) (λ_ s'=>∃e,Inv X a b e s'/\Q e) X.xe s
section
variable{X:Cx}{pos:y4}
def uR(i:Nat):TG:=λv a H Q=>Q (a.set i<|ac v) H
def S9 (a:X.N.Nodup)(b:X.N[i]?=ac x)(c:Loc X.env.scope x)(d:X.fn x=bd\/X.env.scope.names.lookup x=some .local:=by first|exact ι ρ|exact τ ρ|assumption):PG X (.Name x pos) (uR i):=by exact λpins s σ H v u Q I r h=>aeG<|EN I a b c r (λs' e=>⟨_,H,e,h⟩) d
def Pu:jf:=λvs a H Q=>vs=[]/\Q a H
def Q1(t:TG)(u:jf):jf:=λvs b H Q=>∃v r,vs=v::r/\t v b H λa c=>u r a c Q
def OE:nK X [] Pu:=by intro pins s a H vs us Q I r h;obtain⟨e,h⟩:=h;subst e;cases r;exact assignInOrder_nil ⟨a,H,I,h⟩
theorem L7 (d:PG X e t)(f:nK X b u)(hs:(u1 (e::b) X.env).map (·.2)=ZR e X.env::(u1 b X.env).map (·.2):=by rfl):nK X (e::b) (Q1 t u):=by
 intro a s g H vs us Q I r h;obtain⟨v,vr,i,h⟩:=h;subst i;cases r with
 | cons r j=>rw[hs];refine assignInOrder_cons (aH (d a s g H _ _ _ I r h) λ_ k f=>?_);obtain⟨c,l,m,n⟩:=f;exact f a k c l _ _ Q m j n
def LM(K:f')(n:Nat)(t:jf):TG:=λv b H Q=>∃a xs,v=.ref a/\ba K H a xs/\xs.length=n/\t xs b H Q
def SG (j:X.calm=bd)(h:nK X d t)(l:(u1 d X.env).length=n:=by rfl)(f:(u1 d X.env).findIdx? (·.1)=al:=by rfl):PG X (.Tuple d k pos) (LM X.K n t):=by intro c s g H v u Q I r hw;obtain⟨a,xs,m,p,hl,hw⟩:=hw;subst m;subst r;obtain⟨its,i,q,hz⟩:=I.tuple p;refine assign_Tuple_tuple (I.ok.hd j) q (by simp[l,<-hl,i.length]) f λh' w=>?_;have x:=I.kept (t':=s.toks) λb o e=>w b o (hG<|fj e) e;exact h c _ g H xs _ Q x (i) hw
def Ke(to b:TE)(t:Al):TG:=λv a H Q=>to a H λo c=>b a c λi d=>t o i v d λe=>Q a e
def Sd (f:PE X o to)(g:PE X i e)(hs:F6 X t)(j:∀v,ZR (.Subscript o i pos) X.env v=(do
   let b <-YZ [v] (eval o X.env);let c <-YZ [v,b] (eval i X.env)
   acG pos
   YZ [v,b,c] (adt b c v)
   release [v,b,c] []):=by intro _;rfl):PG X (.Subscript o i pos) (Ke to e t):=by
 intro a s d H v u Q I r h;rw[j];refine bg<|o3 (aH (f a s d H _ I h) λb k g=>?_);obtain⟨x,l,m,n,p⟩:=g;refine bg<|o3 (aH (g a k d l _ m p) λc q h=>?_);obtain⟨y,w,z,A,B⟩:=h;refine bg<|abI<|bg<|o3 (aH (hs a q d w x y v b c u _ z n A r B) λ_ s3 h=>?_);obtain⟨C,D,E⟩:=h;exact wpAny_release ⟨d,C,D,E⟩
def vJ(te:TE)(g:TG):TS:=λD a H=>te a H λx b=>g x a b D.nx
def UX (d:PE X e te)(f:PG X a g)(hs:ac7 [a] e pos.line X.env=pure false:=by rfl)(hw:ac8 [a] e X.env=pure al:=by rfl)(i:(u1 [a] X.env).map (·.2)=[ZR a X.env]:=by rfl):PS X (.Assign [a] e pos) (vJ te g):=by refine λb s c H D I h=>wpAny_Assign_stores (aH (d b s c H _ I h) λv j g=>?_) hs hw;obtain⟨x,k,l,m,n⟩:=g;rw[i];exact aH (f b j c k x v _ l m n) λ_ s2 q=>q
def Lk (c:X.N.Nodup)(d:X.N[i]?=ac x)(f:Loc X.env.scope x)(g:PE X e te)(hs:HT e (ac<|.Name x a) pos.line X.env=pure false:=by rfl)(j:X.fn x=bd\/X.env.scope.names.lookup x=some .local:=by first|exact ι ρ|exact τ ρ|assumption) :
  PS X (.Assign [.Name x a] e pos) (vJ te<|uR i):=by
 refine λb s k H D I h=>wpAny_Assign_Name (aH (g b s k H _ I h) λv s1 f=>?_) hs;obtain⟨y,l,m,n,o⟩:=f;exact EN m c d f n (λs2 p=>⟨_,l,p,o⟩) j
def NL(c:TT)(h:TS):TS:=λD a H=>∃W:Nat->St->Hp->Prop,(∃m,W m a H)/\∀m a H,W m a H ->
 c a H λb e=>if b=bd then ∃N:St->Hp->Prop,(∀d f,N d f->∃g,g<m/\W g d f)/\h {D with nx:=N,ct:=N,bk:=D.nx} a e else D.nx a e
theorem NA (t:abq (hQ X.prog X.w) X.A X.env X.xe)(C:PT X c tc)(E:ic X body r):PS X (.While c body [] pos) (NL tc r):=by
 intro d s F H D I h;obtain⟨W,⟨G,J⟩,turn⟩:=h;refine wpAny_While<|codeAny_whileLoop (λn s'=>∃k u,Inv X d k u s'/\W n k u) ?_ G ⟨F,H,I,J⟩;rintro n K ⟨e,x,L,M⟩;refine YS t (aH (C d K e x _ L<|turn n e x M) λb O h=>?_);obtain⟨y,z,i⟩:=h;cases b with
 | true =>
  obtain⟨N,B,i⟩:=i;refine YS t (aH (E d O e y _ z i) λf s3 j=>?_);cases f with
  | next=>obtain⟨a,g,l,m⟩:=j;obtain⟨o,p,q⟩:=B a g m;exact⟨o,p,a,g,l,q⟩
  | cont=>obtain⟨a,g,l,m⟩:=j;obtain⟨o,p,q⟩:=B a g m;exact⟨o,p,a,g,l,q⟩
  | brk=>exact j
  | ret v=>exact j
 | false=>exact acC ⟨e,y,z,i⟩
end
structure It where
 go:Nat->Hp->Prop
 mB:Nat->Hp->V->Hp->Prop
 stop:Nat->Hp->Prop
def i9(X:Cx)(a:List (dk×z5))(H:Hp)(b:dk):Prop :=
 H b=al/\b≠X.env.locals/\b∉X.fs/\(b∈X.ex\/X.eP.heap.objs.size<=b)/\(∀x c,X.env.cells.lookup x=ac c->c≠b)/\∀p∈X.pn++a,p.1≠b
def Inv.ko (I:Inv X a g H s)(d:s.heap.objs.size<=b)(h:f b=al):i9 X a f b:=by
 refine⟨h,Zv<|kH I.lt d,I.Ni d,τ<|nE I.sz d,λx c e z=>?_,λp i z=>?_⟩
 ·obtain⟨v,q⟩:=I.cell x c e;exact absurd (kH q.lt (by rw[z];exact d))<|uz _
 exact absurd (kH (fj (I.pin p i).1) (by rw[z];exact d))<|uz _
structure Turn (P:hY) (w:nR) (K:f') (tg:hE) (J:It) (fp:List dk) (it:dk) (tn:Nat->nL->Prop):Prop where
 mem:it∈fp
 obj:∀i h,tn i h->∀b∈fp,∃o,h.get? b=ac o/\∀v,o.data≠.cell v
 keep:∀i h h',tn i h->(∀b∈fp,∀o,h.get? b=ac o->h'.get? b=ac o)->tn i h'
 item:∀(X:Cx),X.prog=P->X.w=w->X.K=K->X.calm=bd->∀(i:Nat) (pins:List (dk×z5)) (s:cW) (σ:St) (H:Hp) (E:cn->cW->Prop),Inv X pins σ H s->(∀b∈fp,i9 X pins H b)->tn i s.heap->J.go i H ->
  g8 (hQ P w) X.A (Za<|.ref it) (fun r s1=>∃u,r=ac u /\
   g8 (hQ P w) X.A (aaZ tg (.ref it) u) (fun _ s2=>∃x H',Inv X pins σ H' s2/\RelV x u/\J.mB i H x H'/\tn (i+1) s2.heap/\∀b∈fp,H' b=al) E s1) E s
 done:∀(X:Cx),X.prog=P->X.w=w->X.K=K->X.calm=bd->∀(i:Nat) (pins:List (dk×z5)) (s:cW) (σ:St) (H:Hp) (E:cn->cW->Prop),Inv X pins σ H s->(∀b∈fp,i9 X pins H b)->tn i s.heap->J.stop i H ->
  g8 (hQ P w) X.A (Za<|.ref it) (fun r s1=>r=al/\Inv X pins σ H s1) E s
 self:∀(A:pA) (i:Nat) (s:cW) (Q:cn->cW->Prop) (E:cn->cW->Prop),tn i s.heap->Q (.ref it) s->g8 (hQ P w) A (adv<|.ref it) Q E s
abbrev TI:=St->Hp->(It->Hp->Prop)->Prop
def Bi(X:Cx)(a:List (dk×z5))(h:St)(i:hE)(R:It->Hp->Prop)(d:cn)(e:cW):Prop :=
 ∃(it:dk) (f:List dk) (g:Nat->nL->Prop) (J:It) (c:Hp),d=.ref it/\Inv X a h c e/\Turn X.prog X.w X.K i J f it g/\g 0 e.heap/\(∀b∈f,i9 X a c b)/\R J c
def PI(X:Cx)(c iter:hE)(d:TI):Prop :=
 ∀(a:List (dk×z5)) (s:cW) (b:St) (H:Hp) (R:It->Hp->Prop),Inv X a b H s->d b H R ->
  g8 (hQ X.prog X.w) X.A (eval iter X.env) (λv e=>g8 (hQ X.prog X.w) X.A (adv v) (Bi X a b c R) X.xe e) X.xe s
theorem pM (c:s.heap.get? it=ac o)(d:o.cls=.type n)(hd:o.data=.fields vs)(e:["enumerate","zip","dict_itemiterator","dict_reverseitemiterator","odict_iterator","itertools.zip_longest","itertools.pairwise"].contains n=bi)(a:Q () s):g8 M A (aaZ b (.ref it) u) Q E s:=by
  cases b<;>first
    | exact dr a
    | (cases u<;>first
        | exact dr a
        | (refine bg (aem c ?_)
           rw[d,hd];show g8 M A (if (["enumerate","zip","dict_itemiterator","dict_reverseitemiterator","odict_iterator","itertools.zip_longest","itertools.pairwise"].contains n&&vs[0]?==ac (Zl _))=bd then _ else _) Q E s;rw[if_neg (by intro h;rw[e,ack] at h;contradiction)]
           exact dr a))
noncomputable def D9(K:f')(a:dk):It :=
 ⟨λi H=>∃xs x,cu K H a xs/\xs[i]?=ac x,λi H x b=>b=H/\∀xs,cu K H a xs->xs[i]?=ac x,λi H=>∃xs,cu K H a xs/\xs.length<=i⟩
noncomputable def BQ(K:f')(a:dk):It :=
 ⟨λi H=>∃xs x,ba K H a xs/\xs[i]?=ac x,λi H x b=>b=H/\∀xs,ba K H a xs->xs[i]?=ac x,λi H=>∃xs,ba K H a xs/\xs.length<=i⟩
noncomputable def oY(lo:Int)(n:Nat):It:=⟨λi _=>i<n,λi H x a=>a=H/\x=.int (lo+i),λi _=>n<=i⟩
def KP{P:hY}{w:nR}{K:f'}{L:hE}(a it:dk):Turn P w K L (D9 K a) [it] it (λi h=>h.IsListIter it a i) where
 mem:=by simp
 obj:=λi h st b f=>by
  have e:b=it:=by simpa using f
  subst e;obtain⟨o,e,c,d⟩:=st;exact⟨o,e,λv z=>by rw[d] at z;contradiction⟩
 keep:=λi h h' st k=>st.at λo e=>k it (by simp) o e
 item:=by intro X n hw q G i g s J H E I j st r;subst n hw q;obtain⟨xs,x,l,t⟩:=r;obtain⟨its,y,p,hz⟩:=I.list l;obtain⟨u,M,N⟩:=y.get t;obtain⟨A,B,O,C,D,F⟩:=j it (by simp);refine wpAny_pyNext_list_item st p.isList (by simpa using M) λh' m Q=>?_;have R:=I.turned (t':=s.toks) (λb o f e=>(Q.2 b f).trans e) A B C D F;obtain⟨o,e,c,d⟩:=id m;exact⟨u,ρ,pM e c d ρ ⟨x,H,R,N,⟨ρ,λys S=>by rw[I.Iq S l];exact t⟩,m,λb f=>(j b f).1⟩⟩
 done:=by intro X n hw q G i g s J H E I j st r;subst n hw q;obtain⟨xs,l,t⟩:=r;obtain⟨its,y,p,hz⟩:=I.list l;obtain⟨A,B,O,C,D,F⟩:=j it (by simp);have hl:=y.length;exact wpAny_pyNext_list_end (I.ok.hd G) st p.isList (by simp;omega) λh' T=>⟨ρ,I.turned (λb o f e=>T b o f e) A B C D F⟩
 self:=λ_ _ _ _ _ st h=>wpAny_pyIter_listiter st h
def Uo{P:hY}{w:nR}{K:f'}{G:hE}(a it:dk):Turn P w K G (BQ K a) [it] it (λi h=>h.IsTupleIter it a i) where
 mem:=⋯
 obj:=λi h st b f=>by
  have e:b=it:=by simpa using f
  subst e;obtain⟨o,e,c,d⟩:=st;exact⟨o,e,by lia⟩
 keep:=λi h h' st k=>st.at λo e=>k it ⋯ o e
 item:=by intro X n hw q D i g s F H E I j st r;subst n hw q;obtain⟨xs,x,l,t⟩:=r;obtain⟨its,v,p,hz⟩:=I.tuple l;obtain⟨u,J,L⟩:=v.get t;obtain⟨y,z,M,A,B,C⟩:=j it ⋯;refine wpAny_pyNext_tuple_item st (p) (by simpa using J) λh' m N=>?_;have O:=I.turned (t':=s.toks) (λb o f e=>(N.2 b f).trans e) y z A B C;obtain⟨o,e,c,d⟩:=id m;exact⟨u,ρ,pM e c d ρ ⟨x,H,O,L,⟨ρ,λys Q=>by rw[I.Sn Q l];exact t⟩,m,λb f=>(j b f).1⟩⟩
 done:=by intro X n hw q D i g s F H E I j st r;subst n hw q;obtain⟨xs,l,t⟩:=r;obtain⟨its,v,p,hz⟩:=I.tuple l;obtain⟨y,z,M,A,B,C⟩:=j it ⋯;have hl:=v.length;exact wpAny_pyNext_tuple_end (I.ok.hd D) st (p) (by simp;omega) λh' R=>⟨ρ,I.turned (λb o f e=>R b o f e) y z A B C⟩
 self:=λ_ _ _ _ _ st h=>wpAny_pyIter_tupleiter st h
def Tn{P:hY}{w:nR}{K:f'}{A:hE}(it:dk)(lo:Int)(n:Nat):Turn P w K A (oY lo n) [it] it (λi h=>IsRangeIter h it (lo+(i:Nat)*1) ((n:Int)-(i:Nat)) 1) where
 mem:=by simp
 obj:=λi h st b a=>by
  have e:b=it:=by simpa using a
  subst e;exact⟨_,st,λv z=>by have z':ae7 _=Data.cell v:=z;contradiction⟩
 keep:=λi h h' st k=>k it (by simp) _ st
 item:=by intro X g hw j l i c s y H E I d st m;subst g hw j;obtain⟨p,q,B,r,u,x⟩:=d it (by simp);have W:=Walks.range (prog:=X.prog) (w:=X.w) (I.ok.hd l) it lo 1 n;refine W.item i s _ _ m st λv h' tk C f D=>?_;obtain⟨t,rfl⟩:=C;have F:Inv X c y H {s with heap:=h',toks:=tk}:=I.turned (λb o a e=>D b o (by simpa using a) e) p q r u x;refine⟨_,ρ,pM f ρ ρ ρ ⟨.int<|lo+i,H,F,⟨t,?_⟩,⟨ρ,ρ⟩,f,λb a=>(d b a).1⟩⟩;rw[Int.mul_one]
 done:=by intro X g hw j l i c s y H E I d st m;obtain⟨p,q,B,r,u,x⟩:=d it (by simp);exact wpAny_pyNext_range_end (I.ok.hd l) st (by have:n<=i:=m;omega) λh' G=>⟨ρ,I.turned (λb o a e=>G b o a e) p q r u x⟩
 self:=λ_ _ _ _ _ st h=>wpAny_pyIter_rangeiter st h
section
variable{X:Cx}{tg:hE}
def UM(K:f')(c:TE):TI:=λd H R=>c d H λx b=>∃a,x=.ref a/\(∃xs,cu K b a xs)/\R (D9 K a) b
def UT(K:f')(c:TE):TI:=λd H R=>c d H λx b=>∃a,x=.ref a/\(∃xs,ba K b a xs)/\R (BQ K a) b
def TU (hl:PE X l g):PI X tg l (UM X.K g):=by
 refine λf s i H R I h=>aH (hl f s i H _ I h) λv c g=>?_;obtain⟨x,j,d,k,m⟩:=g;obtain⟨a,e,⟨xs,n⟩,q⟩:=m;subst e;subst k;obtain⟨its,rv,p,hz⟩:=d.list n;apply Yn p.isList;refine⟨c.heap.objs.size,[c.heap.objs.size],_,_,j,ρ,d.kept λb o e=>ee _ e,KP a _,⟨_,gj _ ρ,ρ,ρ⟩,λb r=>?_,q⟩;have e:b=c.heap.objs.size:=by simpa using r
 subst e;exact d.ko (eK _)<|d.au.fresh<|eK _
def Lm (hl:PE X l g):PI X tg l (UT X.K g):=by
 refine λf s i H R I h=>aH (hl f s i H _ I h) λv c g=>?_;obtain⟨x,j,d,k,m⟩:=g;obtain⟨a,e,⟨xs,n⟩,q⟩:=m;subst e;subst k;obtain⟨its,rv,p,hz⟩:=d.tuple n;apply wpAny_pyIter_tuple<|p;refine⟨c.heap.objs.size,[c.heap.objs.size],_,_,j,ρ,d.kept λb o e=>ee _ e,Uo a _,⟨_,gj _ ρ,ρ,ρ⟩,λb r=>?_,q⟩;have e:b=c.heap.objs.size:=by simpa using r
 subst e;exact d.ko (eK _)<|d.au.fresh<|eK _
def G8{c:List (dk×z5)}{d:St}{H:Hp}{s:cW}{R:It->Hp->Prop}{E:cn->cW->Prop}{lo a:Int}{t u v:Tok}{tk:Nat}(I:Inv X c d H s)(g:-(2 ^ 62)<=lo)(h:lo<2 ^ 62)(i:-(2 ^ 62)<=a)(j:a<2 ^ 62)
 (q:R (oY lo (a-lo).toNat) H):g8 (hQ X.prog X.w) X.A (adv<|.ref s.heap.objs.size) (Bi X c d tg R) E {s with heap:=s.heap.push {cls:=.type "range",data:=.fields #[.int lo t,.int a u,.int 1 v]},toks:=tk}:=by
 apply wpAny_pyIter_range (IsRange.new ..)<|small_one g h i j;have f:Inv X c d H {s with heap:=s.heap.push {cls:=.type "range",data:=.fields #[.int lo t,.int a u,.int 1 v]},toks:=tk}:=I.kept λb o e=>ee _ e
 refine⟨(s.heap.push {cls:=.type "range",data:=.fields #[.int lo t,.int a u,.int 1 v]}).objs.size,[(s.heap.push {cls:=.type "range",data:=.fields #[.int lo t,.int a u,.int 1 v]}).objs.size],_,_,H,ρ,
  f.kept λb o e=>ee _ e,Tn _ lo (a-lo).toNat,?_,λb k=>?_,q⟩
 ·have l:lo+((0:Nat):Int)*1=lo:=⋯;have m:(((a-lo).toNat:Nat):Int)-((0:Nat):Int)=afa lo a 1:=by grind [rangeSize_one]
  rw[l,m];exact gj _ ρ
 have e:b=(s.heap.push {cls:=.type "range",data:=.fields #[.int lo t,.int a u,.int 1 v]}).objs.size:=by simpa using k
 subst e;exact f.ko (eK _)<|f.au.fresh<|eK _
def Lb(a:TA):TI:=λb H R=>a b H λvs c=>∃j:Int,vs=[.int j]/\-(2 ^ 62)<=j/\j<2 ^ 62/\R (oY 0 j.toNat) c
def Og(a:TA):TI:=λb H R=>a b H λvs c=>∃i j:Int,vs=[.int i,.int j]/\(-(2 ^ 62)<=i/\i<2 ^ 62/\-(2 ^ 62)<=j/\j<2 ^ 62)/\R (oY i (j-i).toNat) c
theorem SA (f:Gl X "range")(g:X.mg "range"=al)(i:PA X [a] d)(hs:mu [a] X.env=[(false,eval a X.env)]:=by rfl):PI X tg (.Call (.Name "range" p) [a] [] pos) (Lb d):=by
 refine λb s k H R I h=>Call_<|mM I f g boot_range<|Hz (aH (i pos b s k H _ I h) λus s1 e=>?_) hs ρ;obtain⟨vs,H1,l,m,c⟩:=e;obtain⟨j,e,c,n,q⟩:=c;subst e;cases m with
 | cons r o =>
  cases o;obtain⟨t,rfl⟩:=r;exact call_range_1<|G8 l ⋯ ⋯ c n (by simpa using q)
theorem Il (l:Gl X "range")(m:X.mg "range"=al)(n:PA X [a,b] k)(hs:mu [a,b] X.env=[(false,eval a X.env),(false,eval b X.env)]:=by rfl)(c:mu [b] X.env=[(false,eval b X.env)]:=by rfl) :
  PI X tg (.Call (.Name "range" p) [a,b] [] pos) (Og k):=by
 refine λd s o H R I h=>Call_<|mM I l m boot_range<|Hz (aH (n pos d s o H _ I h) λus s1 g=>?_) (by rw[hs,c]) (by rw[c];rfl);obtain⟨vs,H1,u,v,f⟩:=g;obtain⟨i,j,e,⟨f,w,x,y⟩,q⟩:=f;subst e;cases v with
 | cons r g =>
  cases g with
  | cons z g =>
   cases g;obtain⟨t,rfl⟩:=r;obtain⟨t',rfl⟩:=z;exact call_range_2<|G8 u f w x y q
def N8(f:TI)(g:TG)(h:TS):TS:=λD a H=>f a H λJ j=>∃W:Nat->Nat->St->Hp->Prop,(∃m,W 0 m a j)/\∀i m a H,W i m a H ->
 (J.stop i H/\D.nx a H)\/(J.go i H/\∃N:St->Hp->Prop,(∀c b,N c b->∃d,d<m/\W (i+1) d c b)/\∀x b,J.mB i H x b->g x a b λe k=>h {D with nx:=N,ct:=N,bk:=D.nx} e k)
noncomputable def pQ(a:List dk)(h:nL):List (dk×z5):=a.filterMap λb=>(h.get? b).map λo=>(b,o)
def uG (c:b∈a)(e:h.get? b=ac o):(b,o)∈pQ a h:=Zi.2 ⟨b,c,by rw[e];rfl⟩
theorem KJ (c:p∈pQ a h):p.1∈a/\h.get? p.1=ac p.2:=by
 obtain⟨b,d,e⟩:=Zi.1 c;cases q:h.get? b with
 | none=>rw[q] at e;exact nO e
 | some o=>rw[q] at e;have f:=Option.some.inj e;subst f;exact⟨d,q⟩
def Inv.pinned (I:Inv X a f H s)(i:∀b∈c,i9 X a H b)(j:∀b∈c,∃o,s.heap.get? b=ac o/\∀v,o.data≠.cell v):Inv X (a++pQ c s.heap) f H s :=
 I.Dk λp k=>(eH.1 k).elim (λz=>I.pin p<|r0 _ z) λz=>by obtain⟨g,e⟩:=KJ z;obtain⟨l,m,n,_⟩:=i p.1 g;obtain⟨o,h,d⟩:=j p.1 g;rw[e] at h;obtain rfl:=sO h;exact⟨e,l,m,n,d⟩
def Inv.ug (I:Inv X (a++c) b H s):Inv X a b H s:=I.Dk λp d=>I.pin p<|r0 _<|ac1 _ d
theorem P7 (B:abq (hQ X.prog X.w) X.A X.env X.xe)(R:X.calm=bd)(hi:PI X tg iter P)(hg:PG X tg g)(j:ic X body Q)(hs:∀x,um iter X.env x=pure x:=by intro _;rfl):PS X (.For tg iter body [] pos) (N8 P g Q):=by
 refine λc s S H D I h=>wpAny_For (aH (hi c s S H _ I h) λv s1 h1=>aH h1 λitv s2 h2=>?_) hs;obtain⟨it,C,U,J,H2,e,I2,T,V,Y,W,⟨m0,w0⟩,turn⟩:=h2;subst e;have z:∀{p:Hp},(∀b∈C,p b=al)->∀b∈C,i9 X c p b:=λhn b j=>⟨hn b j,(Y b j).2⟩;refine codeAny_forLoop_any (λn s'=>∃i q p,Inv X c q p s'/\U i s'.heap/\(∀b∈C,p b=al)/\W i n q p) ?_ m0 ⟨0,S,H2,I2,V,λb j=>(Y b j).1,w0⟩;rintro n Z ⟨i,t,G,I3,K,L,w3⟩;rcases turn i n t G w3 with⟨stop,qn⟩|⟨go,N,hN,step⟩
 ·refine YS B (aH (T.done X ρ ρ ρ R i c Z t G X.xe I3 (z L) K stop) λr s4 h=>?_);obtain⟨M,I4⟩:=h;subst M;exact acC ⟨t,G,I4,qn⟩
 refine YS B (aH (T.item X ρ ρ ρ R i c Z t G X.xe I3 (z L) K go) λr s4 h=>?_);obtain⟨u,M,h4⟩:=h;subst M;refine YS B (aH h4 λ_ s5 ⟨x,H5,I5,r5,y5,E,U8⟩=>?_);refine YS B (aH (hg _ s5 t H5 x u _ (I5.pinned (z U8)<|T.obj _ _ E) r5<|step x H5 y5) λ_ s6 h=>?_);obtain⟨U',H6,I6,q6⟩:=h;refine YS B (aH (j _ s6 U' H6 _ I6 q6) λf O y=>?_);have again:∀{a:St}{k:Hp},Inv X (c++pQ C s5.heap) a k O->N a k->∃m,m<n/\∃i q p,Inv X c q p O/\U i O.heap/\(∀b∈C,p b=al)/\W i m q p:=λ{a k} l F=>by obtain⟨m',hm,w7⟩:=hN a k F;refine⟨m',hm,i+1,a,k,l.ug,T.keep _ _ _ E λb j o e=>(l.pin (b,o)<|r0 _<|r0 _<|uG j e).1,λb j=>?_,w7⟩;obtain⟨o,e,d⟩:=T.obj _ _ E b j;exact (l.pin (b,o)<|r0 _<|r0 _<|uG j e).2.1
 cases f with
 | next=>obtain⟨a,k,l,F⟩:=y;exact again l F
 | cont=>obtain⟨a,k,l,F⟩:=y;exact again l F
 | brk=>obtain⟨a,k,l,y⟩:=y;exact⟨a,k,l.ug,y⟩
 | ret v=>obtain⟨x7,a,k,l,r7,y⟩:=y;exact⟨x7,a,k,l.ug,r7,y⟩
end
abbrev R2:=V->V->Hp->VK->Prop
def aS(X:Cx)(f:cn->cn->Sem cn)(r:R2):Prop :=
 ∀(a:List (dk×z5)) (s:cW) (b:St) (H:Hp) (x y:V) (v u:cn) (Q:VK),Inv X a b H s->RelV x v->RelV y u->r x y H Q ->
  g8 (hQ X.prog X.w) X.A (f v u) (EP X a b Q) X.xe s
def xh(X:Cx)(f:cn->Sem cn)(r:V->Hp->VK->Prop):Prop :=
 ∀(a:List (dk×z5)) (s:cW) (b:St) (H:Hp) (x:V) (v:cn) (Q:VK),Inv X a b H s->RelV x v->r x H Q ->
  g8 (hQ X.prog X.w) X.A (f v) (EP X a b Q) X.xe s
def bM(X:Cx)(f:cn)(r:List V->Hp->VK->Prop):Prop :=
 ∀(a:List (dk×z5)) (s:cW) (b:St) (H:Hp) (xs:List V) (us:List cn) (Q:VK),Inv X a b H s->aJ xs us->r xs H Q ->
  g8 (hQ X.prog X.w) X.A (call f us) (EP X a b Q) X.xe s
def HV(X:Cx)(r:V->Hp->(Bool->Hp->Prop)->Prop):Prop :=
 ∀(a:List (dk×z5)) (s:cW) (b:St) (H:Hp) (x:V) (v:cn) (Q:Bool->Hp->Prop),Inv X a b H s->RelV x v->r x H Q ->
  g8 (hQ X.prog X.w) X.A (truthy v) (TP X a b Q) X.xe s
def pL(r:R2)(b c:TE):TE:=λa H Q=>b a H λx d=>c a d λy e=>r x y e Q
def TQ(r:V->Hp->VK->Prop)(a:TE):TE:=λb H Q=>a b H λx c=>r x c Q
def rI(C:Int->Int->Prop)(g:Int->Int->V):R2:=λx y H Q=>∃i j,x=.int i/\y=.int j/\C i j/\Q (g i j) H
def ig(g:Int->Int->V):R2:=λx y H Q=>∃i j,x=.int i/\y=.int j/\Q (g i j) H
def rU(g:Int->V):V->Hp->VK->Prop:=λx H Q=>∃i,x=.int i/\Q (g i) H
section
variable{X:Cx}{a b c:hE}{ta tb tc:TE}{pos:y4}
def xl(m:PE X a ta)(n:PE X b tb){R:V->V->Hp->Prop}(I:Inv X d e H s)(h:ta e H λx j=>tb e j λy g=>R x y g){Q:cn->cW->Prop}{f:cn->cn->Sem cn}(o:∀v u i x y g,Inv X d e g i->RelV x v->RelV y u->R x y g->g8 (hQ X.prog X.w) X.A (f v u) Q X.xe i) :
  g8 (hQ X.prog X.w) X.A (eval a X.env) (λv k=>g8 (hQ X.prog X.w) X.A (eval b X.env) (λu l=>g8 (hQ X.prog X.w) X.A (f v u) Q X.xe l) X.xe k) X.xe s:=by
 refine aH (m d s e H _ I h) λv p g=>?_;obtain⟨x,j,q,r,t⟩:=g;refine aH (n d p e j _ q t) λu i h=>?_;obtain⟨y,g,z,B,C⟩:=h;exact o v u i x y g z r B C
def ML (f:xh X (unaryOp op) r)(g:PE X a ta):PE X (.UnaryOp op a pos) (TQ r ta):=by exact λd s e H Q I h=>UnaryOp_ (aH (g d s e H _ I h) λv i ⟨x,j,k,l,m⟩=>f d i e j x v Q k l m)
def uK{f:cn->cn->Sem cn}{C:Int->Int->Prop}{g:Int->Int->Int}
 (rule:∀(i j:Int) (t u:Tok) (s:cW) (Q:cn->cW->Prop) (E:cn->cW->Prop),C i j->Q (.int (g i j) s.toks) {s with toks:=s.toks+1}->g8 (hQ X.prog X.w) X.A (f (.int i t)<|.int j u) Q E s) :
  aS X f (rI C λi j=>.int<|g i j):=by
 intro pins s σ H x y v u Q I d e h;obtain⟨i,j,rfl,rfl,k,q⟩:=h;obtain⟨t,rfl⟩:=d;obtain⟨t',rfl⟩:=e;exact rule i j t t' s _ _ k ⟨.int<|g i j,H,I.tok _,⟨_,ρ⟩,q⟩
def Er{f:cn->cn->Sem cn}{g:Int->Int->Int}
 (rule:∀(i j:Int) (t u:Tok) (s:cW) (Q:cn->cW->Prop) (E:cn->cW->Prop),Q (.int (g i j) s.toks) {s with toks:=s.toks+1}->g8 (hQ X.prog X.w) X.A (f (.int i t)<|.int j u) Q E s) :
  aS X f (ig λi j=>.int<|g i j):=by
 intro pins s σ H x y v u Q I d e h;obtain⟨i,j,rfl,rfl,q⟩:=h;obtain⟨t,rfl⟩:=d;obtain⟨t',rfl⟩:=e;exact rule i j t t' s _ _ ⟨.int<|g i j,H,I.tok _,⟨_,ρ⟩,q⟩
def vy{f:cn->cn->Sem cn}{g:Int->Int->Bool}
 (rule:∀(i j:Int) (t u:Tok) (s:cW) (Q:cn->cW->Prop) (E:cn->cW->Prop),Q (.bool<|g i j) s->g8 (hQ X.prog X.w) X.A (f (.int i t)<|.int j u) Q E s) :
  aS X f (ig λi j=>.bl<|g i j):=by
 intro pins s σ H x y v u Q I d e h;obtain⟨i,j,rfl,rfl,q⟩:=h;obtain⟨t,rfl⟩:=d;obtain⟨t',rfl⟩:=e;exact rule i j t t' s _ _ ⟨.bl<|g i j,H,I,ρ,q⟩
def Mj(i j:Int):Prop:=0<=j/\j<=1000000/\i.natAbs<2 ^ 64
def NJ:aS X (YC .Mod) (rI (λ_ j=>0<j) λi j=>.int<|i%j):=uK λi j _ _ _ _ _ d q=>by exact mod_int' (by lia) (by rw[Int.fmod_eq_emod_of_nonneg i (by lia)];exact q)
def RY:aS X (YC .Pow) (rI Mj λi j=>.int<|i ^ j.toNat):=uK λ_ _ _ _ _ _ _ d q=>pow_int_small d.1 d.2.1 d.2.2 q
def JX{f:cn->Sem cn}{g:Int->Int}
 (rule:∀(i:Int) (t:Tok) (s:cW) (Q:cn->cW->Prop) (E:cn->cW->Prop),Q (.int (g i) s.toks) {s with toks:=s.toks+1}->g8 (hQ X.prog X.w) X.A (f<|.int i t) Q E s) :
  xh X f (rU λi=>.int<|g i):=by
 intro pins s σ H x v Q I d h;obtain⟨i,rfl,q⟩:=h;obtain⟨t,rfl⟩:=d;exact rule i t s _ _ ⟨.int<|g i,H,I.tok _,⟨_,ρ⟩,q⟩
def tG (I:Inv X d f H s)(q:Q (.bl k) H)(e:k=g):EP X d f Q (.bool g) s:=by subst e;exact⟨.bl k,H,I,ρ,q⟩
def xk:aS X (me .Lt) (ig λi j=>.bl<|am<|i<j):=vy λ_ _ _ _ _ _ _ q=>lt_int q
def BP:aS X (me .Gt) (ig λi j=>.bl<|am<|j<i):=vy λ_ _ _ _ _ _ _ q=>gt_int q
def A0:aS X (me .Lt) (λx y H Q=>∃i j,x=.str i/\y=.str j/\Q (.bl<|am<|i.cps.toList<j.cps.toList) H):=by intro pins s σ H x y v u Q I d e h;obtain⟨i,j,rfl,rfl,q⟩:=h;obtain⟨t,rfl⟩:=d;obtain⟨t',rfl⟩:=e;exact lt_str<|tG I q ρ
def IL:aS X (me .In) (λx y H Q=>∃i j,x=.str i/\y=.str j/\Q (.bl<|!(z6 j i 0 j.length 1).isEmpty) H):=by intro pins s σ H x y v u Q I d e h;obtain⟨i,j,rfl,rfl,q⟩:=h;obtain⟨t,rfl⟩:=d;obtain⟨t',rfl⟩:=e;exact in_str<|tG I q ρ
def aS.or (h:aS X f r)(h':aS X f e):aS X f (λx y H Q=>r x y H Q\/e x y H Q):=by
 intro d s g H x y v u Q I i j q;rcases q with q|q
 ·exact h d s g H x y v u Q I i j q
 exact h' d s g H x y v u Q I i j q
def iY(b)(h:op≠.In:=by decide)(h2:op≠.NotIn:=by decide):z3 op b=bi:=by
 have d:(op==CmpOp.In)=bi:=by simp_all
 have e:(op==CmpOp.NotIn)=bi:=by simp_all
 cases b<;>simp[z3,d,e]
def Gj (e:aS X (me op) r)(f:PE X a ta)(g:PE X b tb)(i:z3 op b=bi):PE X (.Compare a [op] [b] pos) (pL r ta tb):=by exact λd s j H Q I h=>wpAny_Compare1 (xl f g I h λv u k x y l m n o q=>e d k j l x y v u Q m n o q) i
def ya(t:TE):TT:=λd H Q=>t d H λx e=>∃k,x=.bl k/\Q k e
def Ab (g:aS X (me op) r)(i:PE X a ta)(j:PE X b tb)(l:z3 op b=bi):PT X (.Compare a [op] [b] pos) (ya<|pL r ta tb):=by
 intro d s f H Q I h;refine wpAny_isTrue_Compare1 (aH (i d s f H _ I h) λv m ⟨x,n,o,p,q⟩=>aH (j d m f n _ o q) λu t ⟨y,w,A,B,C⟩ =>
  aH (g d t f w x y v u _ A p B C) λc s3 ⟨z,D,E,F,k,e,G⟩=>?_) l
 subst e;subst F;exact Ym ⟨D,E,G⟩
def zG(r f:R2)(ta tb tc:TE):TE:=λd H Q=>ta d H λx g=>tb d g λy h=>r x y h λz e=>∃k,z=.bl k /\
 (if k=bd then tc d e λi j=>f y i j Q else Q (.bl false) e)
theorem Hw (q:aS X (me op) r)(l:aS X (me g) j)(t:PE X a ta)(w:PE X b tb)(A:PE X c tc)(B:aaW [op,g] [b,c]=bi:=by with_unfolding_all rfl):PE X (.Compare a [op,g] [b,c] pos) (zG r j ta tb tc):=by
 intro f s i H Q I h;refine Compare_chain (aH (t f s i H _ I h) λv C ⟨x,D,E,F,G⟩=>chain_link (aH (w f C i D _ E G) λu J ⟨y,K,L,m,M⟩ =>
  aH (q f J i K x y v u _ L F m M) λd N ⟨z,n,o,O,k,e,p⟩=>?_)) B
 subst e;subst O;apply Ym;cases k with
 | false=>exact ite_ff ⟨.bl false,n,o,ρ,p⟩
 | true=>exact ite_tt<|chain_last (aH (A f N i n _ o p) λP R ⟨S,T,U,V,W⟩=>l f R i T y S u P Q U m V W)
theorem Su (q:aS X (me op) r)(l:aS X (me g) j)(t:PE X a ta)(w:PE X b tb)(A:PE X c tc)(B:aaW [op,g] [b,c]=bi:=by with_unfolding_all rfl):PT X (.Compare a [op,g] [b,c] pos) (ya<|zG r j ta tb tc):=by
 intro f s i H Q I h;refine isTrue_chain (aH (t f s i H _ I h) λv C ⟨x,D,E,F,G⟩=>test_link (aH (w f C i D _ E G) λu J ⟨y,K,L,m,M⟩ =>
  aH (q f J i K x y v u _ L F m M) λd N ⟨z,n,o,O,k,e,p⟩=>?_)) B
 subst e;subst O;apply Ym;cases k with
 | false=>obtain⟨k',P,R⟩:=p;cases P;exact ite_ff ⟨n,o,R⟩
 | true=>refine ite_tt<|test_last (aH (A f N i n _ o p) λS T ⟨U,V,W,Y,Z⟩=>aH (l f T i V y U u S _ W m Y Z) λd' s5 ⟨z2,H5,I5,r5,k2,e2,q5⟩=>?_);subst e2;subst r5;exact Ym ⟨H5,I5,q5⟩
def pJ(K:f')(x:V)(H:Hp)(k:Bool):Prop :=
 match x with
 | .aQ=>k=bi
 | .bl b=>k=b
 | .int i=>k=(i != 0)
 | .str y=>y.length<=cA/\k=((y.length:Int) != 0)
 | .rY y=>y.size<=cA/\k=((y.size:Int) != 0)
 | .ref p=>(∃xs,cu K H p xs/\k=!xs.isEmpty)\/(∃xs,ba K H p xs/\k=!xs.isEmpty)\/∃kvs,H p=ac (.dK kvs)/\k=!kvs.isEmpty
 | _=>False
def Se (r:KV kvs vs):(!vs.isEmpty)=!kvs.isEmpty:=by
 cases r<;>rfl
def Cn (r:aJ xs its):(!its.toArray.isEmpty)=!xs.isEmpty:=by
 cases r<;>simp
def mh:(cA:Nat)<2 ^ 63:=by rw[za];decide
theorem uw:HV X (λx H Q=>∃k,pJ X.K x H k/\Q k H):=by
 intro pins s σ H x v Q I f h;obtain⟨k,e,q⟩:=h;have hs:=za;cases x with
 | aQ=>subst f;have d:=e;subst d;exact truthy_none ⟨H,I,q⟩
 | bl b=>subst f;have d:=e;subst d;exact Ym ⟨H,I,q⟩
 | int i=>obtain⟨t,rfl⟩:=f;have d:=e;subst d;exact PySem.P.truthy_int ⟨H,I,q⟩
 | str y=>obtain⟨t,rfl⟩:=f;obtain⟨n,d⟩:y.length<=cA/\k=((y.length:Int) != 0):=e;subst d;exact PySem.P.truthy_str (by omega) ⟨H,I.tok _,q⟩
 | rY y=>obtain⟨t,rfl⟩:=f;obtain⟨n,d⟩:y.size<=cA/\k=((y.size:Int) != 0):=e;subst d;exact W.truthy_bytes (by lia) ⟨H,I.tok _,q⟩
 | ref p =>
  subst f;have d:=e;rcases d with⟨xs,g,d⟩|⟨xs,g,d⟩|⟨kvs,g,d⟩
  ·subst d;obtain⟨its,r,l,hz⟩:=I.list g;have j:=r.length;exact wpAny_truthy_list l.isList (by simp only[gs];omega) ⟨H,I.tok _,by rw[Cn r];exact q⟩
  ·subst d;obtain⟨its,r,l,hz⟩:=I.tuple g;have j:=r.length;exact truthy_tuple l (by simp only[gs];omega) ⟨H,I.tok _,by rw[Cn r];exact q⟩
  subst d;obtain⟨hz,o,vs,r,m⟩:kvs.length<=cA/\(p==Yg)=bi/\∃vs,KV kvs vs/\s.heap.DictOf (cJ X.prog X.w) p vs:=I.au p _ g;have j:=Paired.length r;exact wpAny_truthy_dict o m (by omega) ⟨H,I.tok _,by rw[Se r];exact q⟩
 | _=>exact (e).elim
def Pj(g:PE X a ta)(i:∀whole,adx a X.env whole=(do let v <-whole;acG a.pos;YZ [v] (truthy v))) :
  PT X a (λe H Q=>ta e H λx f=>∃k,pJ X.K x f k/\Q k f):=by
 exact λd s e H Q I h=>isTrue_plain (aH (g d s e H _ I h) λv j ⟨x,l,m,n,o⟩=>uw d j e l x v Q m n o)<|i _
def JU:aS X (YC .Add) (λx y H Q=>∃i j,x=.str i/\y=.str j/\i.length+j.length<=cA/\Q (.str<|i++j) H):=by intro pins s σ H x y v u Q I d e h;obtain⟨i,j,rfl,rfl,hz,q⟩:=h;obtain⟨t,rfl⟩:=d;obtain⟨t',rfl⟩:=e;exact add_str (λt' tk=>⟨.str<|i++j,H,I.tok _,⟨_,ρ⟩,q⟩) hz
theorem vals1 (r:aJ [x] us):∃u,us=[u]/\RelV x u:=by
 cases r with
 | cons d e=>cases e;exact⟨_,ρ,d⟩
theorem vals2 (r:aJ [x,y] us):∃u d,us=[u,d]/\RelV x u/\RelV y d:=by
 cases r with
 | cons e f =>
  cases f with
  | cons g h=>cases h;exact⟨_,_,ρ,e,g⟩
def HL(e:X.calm=bd):bM X (.builtin "max") (λxs H Q=>∃i j,xs=[.int i,.int j]/\Q (.int (if j>i then j else i)) H):=by
 intro pins s σ H xs us Q I r h;obtain⟨i,j,rfl,q⟩:=h;obtain⟨u,w',rfl,⟨t,rfl⟩,⟨t',rfl⟩⟩:=vals2 r;refine max_two_ints (I.ok.hd e) λh' tk k=>⟨_,H,I.kept k,?_,q⟩;by_cases d:j>i
 ·rw[if_pos d,if_pos d];exact⟨_,ρ⟩
 rw[if_neg d,if_neg d];exact⟨_,ρ⟩
def RI(e:X.calm=bd):bM X (.builtin "min") (λxs H Q=>∃i j,xs=[.int i,.int j]/\Q (.int (if j<i then j else i)) H):=by
 intro pins s σ H xs us Q I r h;obtain⟨i,j,rfl,q⟩:=h;obtain⟨u,w',rfl,⟨t,rfl⟩,⟨t',rfl⟩⟩:=vals2 r;refine min_two_ints (I.ok.hd e) λh' tk k=>⟨_,H,I.kept k,?_,q⟩;by_cases d:j<i
 ·rw[if_pos d,if_pos d];exact⟨_,ρ⟩
 rw[if_neg d,if_neg d];exact⟨_,ρ⟩
def JF:bM X (.type "int") (λxs H Q=>(∃i,xs=[.int i]/\Q (.int i) H)\/∃k,xs=[.bl k]/\Q (.int (if k then 1 else 0)) H):=by
 intro pins s σ H xs us Q I r h;rcases h with⟨i,rfl,q⟩|⟨k,rfl,q⟩
 ·obtain⟨u,rfl,t,rfl⟩:=vals1 r;exact call_int_int ⟨.int i,H,I,⟨_,ρ⟩,q⟩
 obtain⟨u,rfl,d⟩:=vals1 r;subst d;exact call_int_bool ⟨.int (if k then 1 else 0),H,I.tok _,⟨_,ρ⟩,q⟩
end
theorem jF.some_of (r:jF (ac v) o):∃u,o=ac u/\RelV v u:=by
 cases o with
 | none=>exact (r).elim
 | some u=>exact⟨u,ρ,r⟩
structure df (k:Nat) (A:pA):Prop where
 hd:A.handled=al
 dp:A.depth+3*k+5<recursionLimit
 un:A.units+16*k+200<u2
def df.mono (r:df k A)(h:j<=k):df j A:=⟨r.hd,by have:=r.dp;omega,by have:=r.un;omega⟩
def df.deeper (r:df (k+1) A)(env:Env):df k (A.deeper env) :=
 ⟨r.hd,by have:=r.dp;show A.depth+1+3*k+5<_;omega,by have:=r.un;show A.units+3+16*k+200<_;omega⟩
def df.depth (r:df k A):A.depth<recursionLimit:=by have:=r.dp;omega
def Jp:TA:=λ_ H Q=>Q [] H
def Kv(b:TE)(tr:TA):TA:=λa H Q=>b a H λx c=>tr a c λxs d=>Q (x::xs) d
section
variable{X:Cx}{e:hE}{es:List hE}{te:TE}{t:TA}{pos:y4}
def kZ:PA X [] Jp:=λ_ _ _ _ H Q I h=>Calls.spliced_nil ⟨[],H,I,.nil,h⟩
def jR(c:PE X e te)(d:PA X es t)(hs:bA X e es:=by rfl):PA X (e::es) (Kv te t):=by intro pos a s b H Q I h;rw[hs];refine Calls.spliced_cons (aH (c a s b H _ I h) λu f e=>?_);obtain⟨x,g,i,j,k⟩:=e;exact aH (d pos a f b g _ i k) λus s2 ⟨xs,l,m,n,o⟩=>⟨x::xs,l,m,.cons j n,o⟩
def L4(t:TA):TE:=λb H Q=>t b H λxs a=>xs.length<=cA/\∀p,a p=al->Q (.ref p) (upd a p<|.U xs)
def PV(t:TA):TE:=λb H Q=>t b H λxs a=>xs.length<=cA/\∀p,a p=al->Q (.ref p) (upd a p<|.L xs)
def C8{g}(h:PA X es t):PE X (.Tuple es g pos) (L4 t):=by refine λc s i H Q I j=>wpAny_Tuple_spliced (aH (h pos c s i H _ I j) λus a ⟨xs,d,f,r,z,q⟩=>⟨by rw[<-r.length];exact z,?_⟩);refine⟨.ref a.heap.objs.size,upd d a.heap.objs.size<|.U xs,f.laid (λb u e=>ee _ e) (eK _) ?_,ρ,q _<|f.au.fresh<|eK _⟩;exact⟨z,us,r,⟨_,gj _ ρ,ρ,_,ρ⟩⟩
def Lu(h:PA X es t):PE X (.List es pos) (PV t):=by refine λc s g H Q I i=>wpAny_List_spliced (aH (h pos c s g H _ I i) λus a ⟨xs,d,f,r,z,q⟩=>⟨by rw[<-r.length];exact z,?_⟩);refine⟨.ref a.heap.objs.size,upd d a.heap.objs.size<|.L xs,f.laid (λb u e=>ee _ e) (eK _) ?_,ρ,q _<|f.au.fresh<|eK _⟩;exact⟨z,us,0,r,gj _ ρ⟩
end
abbrev Sp:=List V->Hp->VK->XK->Prop
abbrev iZ:=List Env->Hp->cW->XK->cn->cW->Prop
structure uF (P:hY) (w:nR) (K:f') (mg:eS->Option cn) (base:nL) (A:pA) (outer:List Env) (s:cW) (H:Hp):Prop where
 frames:A.frames=ac outer
 mod:Mod K mg base
 bs:∀b o,base.get? b=ac o->s.heap.get? b=ac o/\H b=al
 la:base.objs.size<=s.heap.objs.size
 i8:s.heap.FunFrames base outer
 nY:∀b∈iX outer,H b=al
 au:cb P w H s.heap
 bare:abt s.gens
def CE(outer:List Env)(P:hY)(w:nR)(H:Hp)(s:cW)(Q:VK)(u:cn)(s':cW):Prop :=
 ∃v a,s'.os=s.os/\abt s'.gens/\Un (iX outer) [] H a s.heap s'.heap/\cb P w a s'.heap/\RelV v u/\Q v a
def CR(CX:iZ)(outer:List Env)(P:hY)(w:nR)(H:Hp)(s:cW)(Q:VK)(E:XK)(r:acp)(s':cW):Prop :=
 match r with
 | .ok (.ret u)=>CE outer P w H s Q u s'
 | .ok _=>False
 | .error e=>CX outer H s E e s'
structure a9 (P:hY) (w:nR) (K:f') (mg:eS->Option cn) (base:nL) (CX:iZ) (k:Nat) (f:dk) (fd:hO) (ps:List eS) (sp:Sp):Prop where
 len:∀vs H Q E,sp vs H Q E->vs.length=ps.length
 run:∀(A:pA) (outer:List Env) (s:cW) (H:Hp) (args:Args) (us:List cn) (vs:List V) (Q:VK) (E:XK),df k A->uF P w K mg base A outer s H->adE s fd args (ps.zip us)->aJ vs us->sp vs H Q E ->
  ZV (hQ P w) A (.call (.ref f) args) (CR CX outer P w H s Q E) s
def a9.imp{P:hY}{w:nR}{K:f'}{mg:eS->Option cn}{base:nL}{CX:iZ}{k:Nat}{f:dk}{b:hO}{c:List eS}{sp a:Sp}(F:a9 P w K mg base CX k f b c sp)
 (h:∀vs H Q E,a vs H Q E->sp vs H Q E):a9 P w K mg base CX k f b c a :=
 ⟨λvs H Q E q=>F.len vs H Q E<|h _ _ _ _ q,λA outer s H args us vs Q E d e g i hs=>F.run A outer s H args us vs Q E d e g i<|h _ _ _ _ hs⟩
section
variable{X:Cx}{pins:List (dk×z5)}{σ:St}{H:Hp}{s s':cW}
def Inv.Ou(I:Inv X pins σ H s):uF X.prog X.w X.K X.mg X.base X.A X.stack s H :=
 ⟨I.ok.frames,I.ok.mod,I.bs,nE I.ok.la I.sz,I.stack,I.BB,I.au,I.bare⟩
def Inv.after (I:Inv X pins σ H s)(h:CE X.stack X.prog X.w H s Q u s'):EP X pins σ Q u s':=by obtain⟨v,c,os,bare,un,au,r,q⟩:=h;obtain⟨hh,g,d,t,a⟩:=s';obtain rfl:a=s.os:=os;exact⟨v,c,I.call un au bare (λb z=>absurd z ⋯),r,q⟩
end
def Ki(sp:Sp)(a:List V)(E:XK)(t:TA):TE:=λb H Q=>t b H λvs c=>sp (vs++a) c Q E
def Binds(K:f')(b:hO)(a:List eS)(ds:List cn):Prop :=
 ∀(s:cW) (us:List cn),K.In s.heap->(us++ds).length=a.length->adE s b ⟨us,[]⟩ (a.zip<|us++ds)
def Binds.all{K:f'}{b:hO}{a:List eS}(h:∀us:List cn,us.length=a.length->ad4 b ⟨us,[]⟩=pure (a.zip us)):Binds K b a []:=λs us _ hl=>by rw[px] at hl ⊢;exact .of_eq<|h us hl
def uu(CX:iZ)(X:Cx)(E:XK):Prop:=∀(a:List (dk×z5)) (b:St) (H:Hp) (s:cW) (e:cn) (s':cW),Inv X a b H s->CX X.stack H s E e s'->X.xe e s'
section
variable{X:Cx}{CX:iZ}{k:Nat}{f C:dk}{fd:hO}{ps:List eS}{sp:Sp}{dvs:List V}{ds:List cn}{E:XK}{x m:eS}{p pos apos:y4}{e o:hE}{es:List hE}{ta:TE}{t:TA}
theorem T6 (F:a9 X.prog X.w X.K X.mg X.base CX k f fd ps sp)(g:df k X.A)(i:Binds X.K fd ps ds)(hd:aJ dvs ds)(j:uu CX X E)(I:Inv X a c H s)(r:aJ vs us)(h:sp (vs++dvs) H Q E):g8 (hQ X.prog X.w) X.A (call (.ref f) us) (EP X a c Q) X.xe s:=by
 have d:=r.append hd;have hl:(us++ds).length=ps.length:=by rw[<-d.length];exact F.len _ _ _ _ h
 refine wpAny_call (ZF (F.run X.A X.stack s H ⟨us,[]⟩ (us++ds) (vs++dvs) Q E g I.Ou (i s us I.h9 hl) d h) λr s' b=>?_);cases r with
 | error e=>exact j a c H s e s' I b
 | ok fl =>
  cases fl with
  | ret u=>exact I.after b
  | next=>exact Yw b
  | brk=>exact Yw b
  | cont=>exact Yw b
def CI(F:a9 X.prog X.w X.K X.mg X.base CX k f fd ps sp)(g:df k X.A)(i:Gl X x)(j:X.mg x=ac (.ref f))(l:abP X.K (.ref f)=bd)(n:Binds X.K fd ps ds)(hd:aJ dvs ds)(u:uu CX X E)
 (v:PA X (e::es) t)(b:bP x:=by decide)(y:bA X e es:=by rfl)(c:(Zb pos<|mu es X.env).any (·.1)=bi:=by rfl) :
  PE X (.Call (.Name x p) (e::es) [] pos) (Ki sp dvs E t):=by
 refine λa s z H Q I h=>abO<|EZ I i j ?_ b;refine W.callWith_K I.ok.mod.yj l (aH (v pos a s z H _ I h) λus s1 ⟨vs,H1,d,r,q⟩=>⟨d.h9,?_⟩) y c;exact T6 F g n hd u d r q
end
structure bp (N P:List eS) (sc:YD):Prop where
 kind:sc.kind=.function
 co:sc.isCoroutine=bi
 gen:sc.isGenerator=bi
 nd:N.Nodup
 pre:N.take P.length=P
 par:∀x∈P,sc.names.lookup x=some .local\/sc.names.lookup x=some .cell
 NH:∀y∈sc.names,y.2≠.free
theorem Ds{aac:eS->Option abj}:∀{binds:List (eS×cn)}{m:eS->Option cn},(∀v,(x,v)∉binds)->adl aac binds m x=m x
 | [],_,_=>rfl
 | (n,v)::r,m,h=>by
  dsimp only[adl];rw[Ds λw hw=>h w<|f6 _ hw];split
  ·have:x≠n:=by rintro rfl;exact h v fk
   simp[this]
  rfl
theorem D7{aac:eS->Option abj}:∀{binds:List (eS×cn)}{m:eS->Option cn},(∀v,(x,v)∉binds)->adm aac binds m x=m x
 | [],_,_=>rfl
 | (n,v)::r,m,h=>by
  dsimp only[adm];rw[D7 λw hw=>h w<|f6 _ hw];split
  ·rfl
  have:x≠n:=by rintro rfl;exact h v fk
  simp[this]
theorem Bx{aac:eS->Option abj}:∀{P:List eS}{vs:List cn}{i:Nat}{m:eS->Option cn},P.Nodup->P[i]?=ac x->vs[i]?=ac v->aac x=some .local ->
  adl aac (P.zip vs) m x=ac v
 | [],_,_,_,_,h,_,_=>by simp at h
 | _::_,[],_,_,_,_,h,_=>by simp at h
 | p::P,w::vs,0,m,nd,a,b,c=>by simp at a b;subst a;subst b;show adl aac ((p,w)::P.zip vs) m p=_;dsimp only[adl];rw[Ds λv d=>(qh.1 nd).1 (abW d).1,if_pos c];simp
 | p::P,w::vs,i+1,m,nd,a,b,c=>by unfold adl;exact Bx (qh.1 nd).2 (a) (b) c
theorem Dj{aac:eS->Option abj}:∀{P:List eS}{vs:List cn}{i:Nat}{m:eS->Option cn},P.Nodup->P[i]?=ac x->vs[i]?=ac v->aac x≠some .local ->
  adm aac (P.zip vs) m x=ac v
 | [],_,_,_,_,h,_,_=>by simp at h
 | _::_,[],_,_,_,_,h,_=>by simp at h
 | p::P,w::vs,0,m,nd,a,b,c=>by simp at a b;subst a;subst b;show adm aac ((p,w)::P.zip vs) m p=_;dsimp only[adm];rw[D7 λv d=>(qh.1 nd).1 (abW d).1,if_neg c];simp
 | p::P,w::vs,i+1,m,nd,a,b,c=>by unfold adm;exact Dj (qh.1 nd).2 (a) (b) c
noncomputable def start(N:List eS)(vs:List V):St:=vs.map ac++r4 (N.length-vs.length) al
noncomputable def jP(CX:iZ)(P:hY)(w:nR)(K:f')(mg:eS->Option cn)(base:nL)(N:List eS)(a:eS)(scope:YD)(f:dk)(b:cn)(A:pA)(outer:List Env)(s:cW)(H:Hp)(E:XK):Cx where
 prog:=P
 w:=w
 K:=K
 mg:=mg
 base:=base
 A:=A.deeper<|aay a scope s.heap.objs.size f b
 N:=N
 eP:=s
 su:=H
 env:=aay a scope s.heap.objs.size f b
 outer:=outer
 stack:=aay a scope s.heap.objs.size f b::outer
 ex:=[]
 calm:=true
 fn:=λ_=>true
 pn:=[]
 xe:=λe s'=>g8 (hQ P w) (A.deeper<|aay a scope s.heap.objs.size f b) (leaving (aay a scope s.heap.objs.size f b) e) (λ_ c=>CX outer H s E e c) (λd c=>CX outer H s E d c) s'
def CM{a:YD}{n:Nat}{x:eS}(h:a.names.lookup x=some .cell):∃c,(ae2 n a.names []).lookup x=ac c:=by exact aae.1<|aet a.names n []<|ι h
theorem K7{CX:iZ}{P:hY}{w:nR}{K:f'}{mg:eS->Option cn}{base:nL}{N g:List eS}{d:eS}{scope:YD}{f:dk}{o:cn}{A:pA}{outer:List Env}{s D:cW}{H:Hp}{E:XK}{us:List cn}{vs:List V}
 (S:bp N g scope)(hd:A.handled=al)(a:uF P w K mg base A outer s H)(hl:vs.length=g.length)(r:aJ vs us)
 (x:InCallC s s.heap.objs.size (adl (aay d scope s.heap.objs.size f o).kindOf (g.zip us) fun _=>al) (ae2 (s.heap.objs.size+1) scope.names []) (adm (aay d scope s.heap.objs.size f o).kindOf (g.zip us) fun _=>al) D) :
  Inv (jP CX P w K mg base N d scope f o A outer s H E) [] (start N vs) H D:=by
 have hpl:g.length<=N.length:=by have:=congrArg List.length S.pre;grind
 obtain⟨t,tk,rfl,F⟩:=x.done;have l:∀b:dk,b∉(jP CX P w K mg base N d scope f o A outer s H E).ex:=fun b z=>absurd (show b∈([]:List dk) from z) ⋯
 refine⟨⟨a.mod,S.kind,ρ,ρ,eK _,fun y z c t C=>?_,fun y j=>?_,fun y c _ h=>?_,fun _=>hd,Around.frames_deeper a.frames,τ ⟨ρ,ρ⟩,fun b z=>absurd z<|l b,a.bs,a.la,fun b _ _=>l b,fun b z=>absurd z<|l b,a.i8,a.nY⟩,
  ρ,a.bare,Un.kept F,⟨_,x.toInCall.ns,fun i y v t C h3=>?_⟩,fun y c h=>⟨_,x.cell y c h⟩,a.au.fresh<|eK _,fun y c h=>?_,fun p m=>absurd (show p∈([]:List (dk×z5)) from m) ⋯,a.au.kept F,?_⟩
 ·exact name_of_addr x.apart (Y2 t)<|Y2 C
 ·have j:=j;rcases j with j|j
  ·exact CM j
  exact absurd ρ<|S.NH _<|Y2 j
 ·exact Zx<|x.above y c<|Y2 h
 ·have G:i<vs.length:=by
   unfold start at C;by_cases G:i<vs.length
   ·exact G
   simp_all [ka,aaB]
  have J:vs[i]?=ac v:=by simp_all [start,k5]
  obtain⟨u,I,L⟩:=r.get J;have m:g[i]?=ac y:=by rwa[<-S.pre,acx (by omega)]
  have B:g.Nodup:=by rw[<-S.pre];exact S.nd.sublist<|aaj _ _
  refine⟨u,L,?_⟩;rcases S.par y (eR m) with k|k
  ·exact ι ⟨k,Bx B m I k⟩
  obtain⟨c,e⟩:=CM k;refine τ ⟨ι k,c,e,?_⟩;have q:=x.cell y c e;rw[Dj B m I (by show scope.names.lookup y≠_;rw[k];decide)] at q;exact q
 ·exact a.au.fresh<|Zx<|x.above y c<|Y2 h
 unfold start;show _=N.length;simp_all
theorem Uc{CX:iZ}{P:hY}{w:nR}{K:f'}{mg:eS->Option cn}{base:nL}{k:Nat}{f:dk}{name a:eS}{d:Arguments}{body:List Zq}{scope:YD}{F kV p pm c ct U:cn}{G X:Option dk}
 {L:Array (Option cn)}{N j:List eS}{sp:Sp}(lk:K.lookup f=ac ⟨U,X,.func<|ab4 name a d body scope F kV p pm G c ct,L⟩)(M:ae6 K c a=bd)(S:bp N j scope)
 (len:∀vs H Q E,sp vs H Q E->vs.length=j.length)
 (l:∀(A:pA) (outer:List Env) (s:cW) (H:Hp) (vs:List V) (Q:VK) (E:XK),df k (A.deeper<|aay a scope s.heap.objs.size f c)->sp vs H Q E ->
   ∃t,ic (jP CX P w K mg base N a scope f c A outer s H E) body t/\t {nx:=λ_ g=>Q .aQ g,rt:=Q} (start N vs) H) :
  a9 P w K mg base CX (k+1) f (ab4 name a d body scope F kV p pm G c ct) j sp:=by
 refine⟨len,λA outer s H args us vs Q E C i Y r z=>?_⟩;have hl:=len _ _ _ _ z;have O:=i.mod.yj.keeps λb o e=>(i.bs b o e).1;have R:=i.mod.nolimit.keeps λb o e=>(i.bs b o e).1;have m:∀y∈j.zip us,scope.names.lookup y.1=some .local\/(scope.names.lookup y.1=some .cell/\((ae2 (s.heap.objs.size+1) scope.names []).lookup y.1).isSome=bd):=λ⟨n,v⟩ Z=>by
  rcases S.par n (abW Z).1 with q|q
  ·exact ι q
  exact τ ⟨q,aet _ _ _<|ι q⟩
 refine codeAny_call_function C.depth (O _ _ lk) ρ S.co S.gen ρ (W.codeRec_of O M)<|Y _ _ _ _ ?_;refine wpAny_newFunctionEnv_cells S.kind m λenv he T x=>?_;subst he;refine⟨R.keeps x.toInCall.keep,codeAny_func ?_⟩;obtain⟨t,ht,hq⟩:=l A outer s H vs Q E (C.deeper _) z;have I:Inv (jP CX P w K mg base N a scope f c A outer s H E) [] (start N vs) H T:=K7 S C.hd i hl r x;refine Ye (ht [] T (start N vs) H _ I hq) (λfl s' hs=>?_) λe s' hs=>hs;have B:∀{h:St}{g:Hp}{v:V}{u:cn},Inv (jP CX P w K mg base N a scope f c A outer s H E) [] h g s'->RelV v u->Q v g->CE outer P w H s Q u s' :=
  λ{h g v u} J D q=>⟨v,g,J.os,J.bare,J.base,J.au,D,q⟩
 cases fl with
 | ret u=>obtain⟨v,h,g,J,D,q⟩:=hs;exact B J D q
 | next=>obtain⟨h,g,J,q⟩:=hs;exact B (v:=V.aQ) J ρ q
 | brk=>obtain⟨_,_,_,q⟩:=hs;exact Yw q
 | cont=>obtain⟨_,_,_,q⟩:=hs;exact Yw q
section
variable{X:Cx}{x:eS}{p pos:y4}{e:hE}{es:List hE}{t:TA}{id T:String}{r:List V->Hp->VK->Prop}
def xQ(r:List V->Hp->VK->Prop)(t:TA):TE:=λa H Q=>t a H λvs b=>r vs b Q
def rV(f:bM X (.builtin id) r)(g:Gl X x)(i:X.mg x=al)(j:Yo x=ac (.builtin id))(k:PA X (e::es) t)(l:x≠"__name__":=by decide)(b:bP x:=by decide)
 (m:bA X e es:=by rfl)(c:(Zb pos<|mu es X.env).any (·.1)=bi:=by rfl):PE X (.Call (.Name x p) (e::es) [] pos) (xQ r t):=by
 refine λa s d H Q I h=>abO<|mM I g i j ?_ l b;exact afo (aH (k pos a s d H _ I h) λus n ⟨vs,o,q,u,v⟩=>f a n d o vs us Q q u v) m c
def vh(f:bM X (.type T) r)(g:Gl X x)(i:X.mg x=al)(j:Yo x=ac (.type T))(k:PA X (e::es) t)(l:x≠"__name__":=by decide)(b:bP x:=by decide)
 (m:bA X e es:=by rfl)(c:(Zb pos<|mu es X.env).any (·.1)=bi:=by rfl):PE X (.Call (.Name x p) (e::es) [] pos) (xQ r t):=by
 refine λa s d H Q I h=>abO<|mM I g i j ?_ l b;exact Hz (aH (k pos a s d H _ I h) λus n ⟨vs,o,q,u,v⟩=>f a n d o vs us Q q u v) m c
end
section
open PySem.SeqAt
open PySem.AutoSeq1 (wpAny_loadPart')
open PySem.MeetsSeq PySem.MeetsSeq2 PySem.MeetsSeq3
end
section
variable{prog:hY}{w:nR}{A:pA}{E:cn->cW->Prop}{s:cW}{X:Cx}{e:hE}{te:TE}{lo hi:Option hE}{tl th:TO}{pos p2:y4}
def Rx (o:ZH s.heap t vs.toArray)(p:ZH s.heap b a.toArray)(j:vs≠[])(q:a=[]->Q (.ref t) s)(r:a≠[]->Q (.ref s.heap.objs.size) {s with heap:=s.heap.push {cls:=.type "tuple",data:=.seq (vs++a).toArray} })(hsz:vs.length+a.length<=cA):g8 (hQ prog w) A (YC .Add (.ref t)<|.ref b) Q E s:=by
 obtain⟨⟨cls,dd,data,k⟩,d,l,n,hd⟩:=id o;obtain⟨⟨cls2,f,data2,g⟩,c,h,m,i⟩:=id p;simp only at l hd h i;subst l hd h i;have e:vs.toArray++a.toArray=(vs++a).toArray:=⋯;by_cases hw:a=[]
 ·exact ady ⟨_,d,ρ⟩ ⟨_,c,ρ⟩ ae0 afQ acr ace (ab7 _ _)
   (tuple_addW1 t b vs.toArray a.toArray n m dd f k g (by simpa using j) (by simp[hw])) ⟨d,c,q hw⟩
 refine ady ⟨_,d,ρ⟩ ⟨_,c,ρ⟩ ae0 afQ acr ace (ab7 _ _)
  (tuple_addW2 t b vs.toArray a.toArray n m dd f k g (by simpa using j) (by simpa using hw) (by omega)) ⟨d,c,?_⟩
 rw[e];exact r hw
noncomputable def bh(n d:Nat):Option Int->Nat
 | none=>d
 | some v=>if v<0 then (v+(n:Int)).toNat else min v.toNat n
def CW(n d):bh n d al=d:=ρ
def uh(n d k:Nat):bh n d (ac (k:Int))=min k n:=by rfl
theorem PX(n d)(hd:d<=n)(o):bh n d o<=n:=by
 cases o with
 | none=>exact hd
 | some v=>show (if v<0 then (v+(n:Int)).toNat else min v.toNat n)<=n;by_cases a:v<0;lia;rw[if_neg a];exact aed _ _
def Bj(v:Int)(n d:Nat):(if v<0 then max (v+(n:Int)) 0 else min v (n:Int))=((bh n d (ac v):Nat):Int):=by show (if v<0 then max (v+(n:Int)) 0 else min v (n:Int))=(((if v<0 then (v+(n:Int)).toNat else min v.toNat n):Nat):Int);grind
theorem Qz(lo hi:Option Int)(n:Nat):ZG lo hi 1 (n:Int)=(((bh n 0 lo:Nat):Int),((bh n n hi:Nat):Int)):=by
 apply afY
 ·cases lo with
  | none=>rfl
  | some v=>exact Bj v n 0
 cases hi with
 | none=>rfl
 | some v=>exact Bj v n n
def Qb(i j:Nat):YG (i:Int) (j:Int) 1=j-i:=by delta YG;grind
theorem Bo (p:acq v o)(h:Q o s):g8 (hQ prog w) A (ae9 v) Q E s:=by
 cases p with
 | none=>exact afL h
 | int i t=>exact slicePart_int h
def Nt{f:dk}{c d:cn}{lo hi:Option Int}{n:Nat}{Q:Int×Int×Nat->cW->Prop}(hs:s.heap.IsSliceOf f c d .none)(g:acq c lo)(i:acq d hi)
 (h:Q (((bh n 0 lo:Nat):Int),1,bh n n hi-bh n 0 lo) s):g8 (hQ prog w) A (aa4 (.ref f)<|pure (n:Int)) Q E s:=by
 obtain⟨os,a,hcs,b⟩:=id hs;refine bg<|bg<|ad2 a b (x:=c) ρ<|bg<|ad2 a b (x:=d) ρ<|bg<|ad2 a b ρ<|dr ?_;refine bg<|afL ?_;show g8 _ _ (if ((1:Int)==0)=bd then _ else _) _ _ s;refine bg<|Bo g<|bg<|Bo i<|bg<|dr ?_;show g8 _ _ (match ZG lo hi 1 (n:Int) with|(lo,hi)=>pure (lo,(1:Int),YG lo hi 1)) _ _ s;rw[Qz lo hi n];show g8 _ _ (pure (((bh n 0 lo:Nat):Int),(1:Int),YG ((bh n 0 lo:Nat):Int) ((bh n n hi:Nat):Int) 1)) _ _ s;rw[Qb];exact dr h
def IV(xs:Array cn)(i k:Nat):((gD k).filterMap λ(m:Nat)=>xs[((i:Int)+(m:Int)*1).toNat]?).toArray=((xs.toList.drop i).take k).toArray:=by
 have e:(λ(m:Nat)=>xs[((i:Int)+(m:Int)*1).toNat]?)=λm=>xs[i+m]?:=by
  funext m;have:((i:Int)+(m:Int)*1).toNat=i+m:=by omega
  rw[this]
 rw[e];have:=pick_run xs i k;have a:((λx=>xs[x]?) ∘ λx=>i+x)=λm=>xs[i+m]?:=ρ;simp_all
theorem Ua{t c:dk}{items:Array cn}{d f:cn}{lo hi:Option Int}{Q:cn->cW->Prop}(b:ZH s.heap t items)(hs:s.heap.IsSliceOf c d f .none)(l:acq d lo)(n:acq f hi)
 (hw:¬(bh items.size 0 lo=0/\bh items.size items.size hi=items.size))
 (h:Q (.ref s.heap.objs.size) {s with heap:=s.heap.push {cls:=.type "tuple",data:=.seq ((items.toList.drop<|bh items.size 0 lo).take (bh items.size items.size hi-bh items.size 0 lo)).toArray} })
 (hsz:items.size<=cA):g8 (hQ prog w) A (abp (.ref t)<|.ref c) Q E s:=by
 have a:sizeOk (.seq ((items.toList.drop<|bh items.size 0 lo).take (bh items.size items.size hi-bh items.size 0 lo)).toArray):=by show ((items.toList.drop<|bh items.size 0 lo).take (bh items.size items.size hi-bh items.size 0 lo)).toArray.size<=cA;simp;omega
 obtain⟨os,g,i,hds⟩:=id hs;have j:s.TypeIs (.ref c) "slice":=⟨os,g,i⟩;unfold abp;try with_reducible refine o3 ?_
 first|refine bg (dr ?_)|skip
 refine bg<|wpAny_sequenceKey b.typeIs ⋯ ?_
 refine bg (L' b.typeIs Yu
  (sj Yu b.typeIs entry_tuple_getitem ?_<|args_tuple_getitem _ _))
 show g8 _ _ (ae8 (.ref t) >>= _) _ _ s;refine bg<|tupleItemsOf_ b ?_;refine bg<|aag j ?_;rw[if_pos ⋯];refine bg<|Nt hs l n ?_;have k:¬((((bh items.size 0 lo:Nat):Int)==0&&(1:Int)==1&&(bh items.size items.size hi-bh items.size 0 lo)==items.size)=bd):=by simp_all
 show g8 _ _ (if (((bh items.size 0 lo:Nat):Int)==0&&(1:Int)==1&&(bh items.size items.size hi-bh items.size 0 lo)==items.size)=bd then _ else _) _ _ s;rw[if_neg k,IV]
 first
  | exact bg (rp (dr ⟨_,ρ,dr h⟩) a)
  | exact bg (rp (bg<|dr<|dr ⟨_,ρ,dr h⟩) a)
  | exact bg (bg<|rp (dr<|dr ⟨_,ρ,dr h⟩) a)
  | exact bg<|bg<|rp (dr ⟨_,ρ,dr h⟩) a
abbrev TO:=St->Hp->(Option Int->Hp->Prop)->Prop
def PO(X:Cx)(e:Option hE)(t:TO):Prop :=
 ∀(a:List (dk×z5)) (s:cW) (b:St) (H:Hp) (Q:Option Int->Hp->Prop),Inv X a b H s->t b H Q ->
  g8 (hQ X.prog X.w) X.A (evalPart e X.env) (λu s'=>∃o c,Inv X a b c s'/\acq u o/\Q o c) X.xe s
def O0:TO:=λ_ H Q=>Q al H
def QA(t:TE):TO:=λa H Q=>t a H λx b=>∃i,x=.int i/\Q (ac i) b
theorem Sy:PO X al O0:=by exact fun pins s σ H Q I h=>dr ⟨al,H,I,.none,h⟩
def Rf(h:PE X e te):PO X (ac e) (QA te):=by refine λa s b H Q I hw=>aH (h a s b H _ I hw) λu s1 e=>?_;obtain⟨x,c,d,f,g⟩:=e;obtain⟨i,rfl,q⟩:=g;obtain⟨t,rfl⟩:=f;exact⟨ac i,c,d,.int i t,q⟩
def lJ(X:Cx)(r:V->Option Int->Option Int->Hp->VK->Prop):Prop :=
 ∀(a:List (dk×z5)) (s:cW) (b:St) (H:Hp) (x:V) (v c d:cn) (lo hi:Option Int) (f:dk) (Q:VK),Inv X a b H s->RelV x v->s.heap.IsSliceOf f c d .none->acq c lo->acq d hi->r x lo hi H Q ->
  ∃T id,acJ (.type T) "__getitem__"=pure (ac<|.builtin id)/\s.TypeIs v T/\g8 (hQ X.prog X.w) X.A (abp v<|.ref f) (EP X a b Q) X.xe s
def lJ.or (h:lJ X r)(h':lJ X b):lJ X (λx lo hi H Q=>r x lo hi H Q\/b x lo hi H Q):=by
 intro a s c H x v d f lo hi g Q I i hs j k q;rcases q with q|q
 ·exact h a s c H x v d f lo hi g Q I i hs j k q
 exact h' a s c H x v d f lo hi g Q I i hs j k q
def OP(r:V->Option Int->Option Int->Hp->VK->Prop)(te:TE)(tl th:TO):TE:=λa H Q=>te a H λx b=>tl a b λl c=>th a c λu d=>r x l u d Q
def K' (j:lJ X r)(k:PE X e te)(hl:PO X lo tl)(m:PO X hi th):PE X (.Subscript e (.Slice lo hi al p2) pos) (OP r te tl th):=by refine λa s d H Q I h=>acP (aH (k a s d H _ I h) λv n g=>?_);obtain⟨x,o,p,t,y⟩:=g;refine wpAny_Slice (aH (hl a n d o _ p y) λf z ⟨l,B,C,D,F⟩=>aH (m a z d B _ C F) λg c h=>?_);obtain⟨u,i,G,J,K⟩:=h;apply dr;have L:Inv X a d i {c with heap:=c.heap.push {cls:=.type "slice",data:=.fields #[f,g,.none]} }:=G.kept (t':=c.toks) λb ob q=>ee _ q;obtain⟨T,id,M,N,O⟩:=j a {c with heap:=c.heap.push {cls:=.type "slice",data:=.fields #[f,g,.none]} } d i x v f g l u c.heap.objs.size Q L t (abU ..) D J K;exact afJ N M O (by with_unfolding_all rfl)
def jh(xs:List V)(lo hi:Option Int):List V:=(xs.drop<|bh xs.length 0 lo).take (bh xs.length xs.length hi-bh xs.length 0 lo)
def EW(xs)(lo hi):(jh xs lo hi).length<=xs.length:=by delta jh;rw[ib,t9];lia
def MK(K:f'):V->Option Int->Option Int->Hp->VK->Prop:=λx lo hi H Q=>∃a xs,x=.ref a/\ba K H a xs /\
 ¬(bh xs.length 0 lo=0/\bh xs.length xs.length hi=xs.length)/\∀p,H p=al->Q (.ref p) (upd H p<|.U<|jh xs lo hi)
def RG:lJ X (MK X.K):=by
 intro pins s σ H x v vl vu lo hi sl Q I f hs g i h;obtain⟨a,xs,rfl,j,hw,q⟩:=h;subst f;obtain⟨its,r,d,hz⟩:=I.tuple j;have c:its.toArray.size=xs.length:=by rw[gs];exact r.length.symm
 refine⟨"tuple",_,Yu.lookup,d.typeIs,?_⟩;refine Ua d hs g i (by rw[c];exact hw) ?_ (by rw[c];exact hz);rw[c];refine⟨.ref s.heap.objs.size,_,I.laid (λb ob q=>ee _ q) (eK _) ?_,ρ,q _<|I.au.fresh<|eK _⟩;exact⟨nE (EW xs lo hi) hz,_,(r.drop<|bh xs.length 0 lo).take (bh xs.length xs.length hi-bh xs.length 0 lo),adK _ _⟩
def AN(K:f'):R2:=λx y H Q=>∃a b xs ys,x=.ref a/\y=.ref b/\ba K H a xs/\ba K H b ys/\xs≠[]/\xs.length+ys.length<=cA /\
 (ys=[]->Q (.ref a) H)/\(ys≠[]->∀p,H p=al->Q (.ref p) (upd H p<|.U<|xs++ys))
theorem aJ.x9 (r:aJ xs us):us=[] ↔ xs=[]:=by
 cases r with
 | nil=>simp
 | cons _ _=>simp
def Nc:aS X (YC .Add) (AN X.K):=by intro pins s σ H x y v u Q I f g h;obtain⟨a,b,xs,ys,rfl,rfl,i,j,k,hz,l,m⟩:=h;subst f;subst g;obtain⟨its,d,n,_⟩:=I.tuple i;obtain⟨its2,c,p2,_⟩:=I.tuple j;refine Rx n p2 (λz=>k<|d.x9.1 z) (λz=>⟨.ref a,H,I,ρ,l<|c.x9.1 z⟩) (λz=>?_) (by rw[<-d.length,<-c.length];exact hz);refine⟨.ref s.heap.objs.size,_,I.laid (λb ob q=>ee _ q) (eK _) ?_,ρ,m (λw=>z<|c.x9.2 w) _<|I.au.fresh<|eK _⟩;exact⟨by rw[eu];exact hz,_,d.append c,adK _ _⟩
end
noncomputable def gv(n:Nat)(i:Int):Option Nat:=if 0<=i then (if i<n then ac i.toNat else al) else if -(n:Int)<=i then ac (i+n).toNat else al
def fI (xs:List a)(i:Int):Option a:=(gv xs.length i).bind λj=>xs[j]?
def Ek (h:gv n i=ac j):seqIndex? i n=ac j/\j<n/\-(n:Int)<=i/\i<n:=by
 delta gv at h;by_cases h0:0<=i
 ·rw[if_pos h0] at h;by_cases a:i<n
  ·rw[if_pos a] at h;have e:=Option.some.inj h;exact⟨by rw[ad3 h0 a,e],by omega,by omega,a⟩
  rw[if_neg a] at h;exact nO h
 rw[if_neg h0] at h;by_cases a:-(n:Int)<=i
 ·rw[if_pos a] at h;have e:=Option.some.inj h;exact⟨by rw[adu (by omega) a,e],by omega,a,by omega⟩
 rw[if_neg a] at h;exact nO h
theorem wZ{a:Type}{xs:List a}{i:Int}{v:a}(h:fI xs i=ac v):∃j,seqIndex? i xs.length=ac j/\xs[j]?=ac v/\j<xs.length/\-(xs.length:Int)<=i/\i<xs.length:=by
 delta fI at h;cases e:gv xs.length i with
 | none=>rw[e] at h;exact nO h
 | some j=>rw[e] at h;obtain⟨b,c,d,f⟩:=Ek e;exact⟨j,b,h,c,d,f⟩
def kJ{a:Type}{xs:List a}{j:Nat}{v:a}(h:xs[j]?=ac v):fI xs (j:Int)=ac v:=by have hj:=(cm.1 h).1;simp_all [gv,fI]
def oC(b:hE):Prop:=∀o i,acv b false o i=operate [o,i] (abp o i)
def kI(X:Cx)(r:R2):Prop :=
 ∀(value slice:hE) (a:List (dk×z5)) (s:cW) (b:St) (H:Hp) (x y:V) (v u:cn) (Q:VK),Inv X a b H s->RelV x v->RelV y u->r x y H Q ->
  acv slice false v u=operate [v,u] (abp v u)->g8 (hQ X.prog X.w) X.A (ada value slice v u) (EP X a b Q) X.xe s
def uC(X:Cx)(id:String)(r:V->List V->Hp->VK->Prop):Prop :=
 ∀(a:List (dk×z5)) (s:cW) (b:St) (H:Hp) (x:V) (xs:List V) (v:cn) (us:List cn) (Q:VK),Inv X a b H s->RelV x v->aJ xs us->r x xs H Q ->
  g8 (hQ X.prog X.w) X.A (call (.builtin id) (v::us)) (EP X a b Q) X.xe s
section
variable{X:Cx}{a b:hE}{ta tb:TE}{pos:y4}
def kI.or (h:kI X r)(h':kI X d):kI X (λx y H Q=>r x y H Q\/d x y H Q):=by
 intro value slice c s e H x y v u Q I f g q hs;rcases q with q|q
 ·exact h value slice c s e H x y v u Q I f g q hs
 exact h' value slice c s e H x y v u Q I f g q hs
def Gi (d:kI X r)(e:PE X a ta)(f:PE X b tb)(hs:oC b):PE X (.Subscript a b pos) (pL r ta tb):=by exact λc s g H Q I h=>acP (xl e f I h λv u i x y j k l m q=>d a b c i g j x y v u Q k l m q<|hs _ _)
def G9(K:f'):R2:=λx y H Q=>∃p xs i v,x=.ref p/\y=.int i/\cu K H p xs/\fI xs i=ac v/\Q v H
def Gu(K:f'):R2:=λx y H Q=>∃p xs i v,x=.ref p/\y=.int i/\ba K H p xs/\fI xs i=ac v/\Q v H
def DZ:R2:=λx y H Q=>∃z i c,x=.str z/\y=.int i/\z.length<=cA/\fI z.cps.toList i=ac c/\Q (.str ⟨#[c]⟩) H
def Ih:kI X (G9 X.K):=by
 intro value slice c s k H x y v u Q I n o h hs;obtain⟨p,xs,i,z,rfl,rfl,A,B,q⟩:=h;subst n;obtain⟨t,rfl⟩:=o;obtain⟨its,r,f,hz⟩:=I.list A;obtain⟨j,d,C,h3,D,E⟩:=wZ B;obtain⟨w,l,m⟩:=r.get C;have hl:=r.length;have hn:=mh;have e:EP X c k Q w s:=⟨z,H,I,m,q⟩;by_cases h0:0<=i
 ·have g:i.toNat=j:=by rw[ad3 h0 E] at d;exact Option.some.inj d
  exact item_listR f.isList h0 (by omega) (by rw[g];simpa using l) e hs
 have g:(i+(its.toArray.size:Int)).toNat=j:=by rw[adu ⋯ D] at d;rw[gs,<-hl];exact Option.some.inj d
 exact adF f.isList.typeIs abZ.lookup
  (wpAny_getItem_list_neg f.isList ⋯ (by rw[gs]<;>omega) (by lia) (by rw[g];simpa using l) ⟨ρ,e⟩) hs
def Qd:kI X (Gu X.K):=by
 intro value slice c s d H x y v u Q I k l h hs;obtain⟨p,xs,i,z,rfl,rfl,m,n,q⟩:=h;subst k;obtain⟨t,rfl⟩:=l;obtain⟨its,r,e,hz⟩:=I.tuple m;obtain⟨j,o,A,h3,h4,h5⟩:=wZ n;obtain⟨w,B,f⟩:=r.get A;have hl:=r.length;have hn:=mh;have g:EP X c d Q w s:=⟨z,H,I,f,q⟩;exact adF e.typeIs Yu.lookup
  (getItem_tuple e (by lia) (by lia) (by rw[gs,<-hl];exact o) (by simpa using B) ⟨ρ,g⟩) hs
def Gc(K:f'):R2:=λx y H Q=>G9 K x y H Q\/Gu K x y H Q\/DZ x y H Q
def Dd:kI X (Gc X.K):=Ih.or (Qd.or (by
  intro value slice pins s σ H x y v u Q I e f h hs;obtain⟨z,i,c,rfl,rfl,hz,g,q⟩:=h;obtain⟨t,rfl⟩:=e;obtain⟨t',rfl⟩:=f;obtain⟨j,d,k,h3,l,m⟩:=wZ g;have hl:z.cps.toList.length=z.length:=by simp[Str.length]
  rw[hl] at d l m;have hn:=mh;exact afJ (typeIs_str s z t) slot_str_getitem.lookup (getItem_str (by lia) (by rw[d];simpa using k) ⟨.str ⟨#[c]⟩,H,I.tok _,⟨_,ρ⟩,q⟩) hs))
def Uw(its:List cn)(n j:Nat)(u:cn):Yl (·.setIfInBounds j u) {cls:=.type "list",data:=.seq its.toArray n}={cls:=.type "list",data:=.seq (its.set j u).toArray n}:=by simp[Yl]
def Inv.L (I:Inv X c d H s)(h:H p=ac (.L xs)) :
  ∃(its:List cn) (n:Nat),aJ xs its/\s.heap.get? p=ac {cls:=.type "list",data:=.seq its.toArray n}/\xs.length<=sizeLine:=by
 obtain⟨z,its,n,r,e⟩:=I.au p _ h;exact⟨its,n,r,e,z⟩
def Inv.Mq{c:List (dk×z5)}{g:St}{H:Hp}{s:cW}{p:dk}{xs ys:List V}{its its':List cn}{n d:Nat}{f:z5->z5}(I:Inv X c g H s)(h:H p=ac (.L xs))
 (j:s.heap.get? p=ac {cls:=.type "list",data:=.seq its.toArray n})(i:f {cls:=.type "list",data:=.seq its.toArray n}={cls:=.type "list",data:=.seq its'.toArray d})(r:aJ ys its')(hz:ys.length<=cA)(t:Nat) :
  Inv X c g (upd H p<|.L ys) {s with heap:=s.heap.update p f,toks:=t}:=by
 have e:(s.heap.update p f).get? p=ac {cls:=.type "list",data:=.seq its'.toArray d}:=by rw[ua f j (by rw[i]<;>rfl),i]
 apply I.write (by rw[h];trivial) (ι ρ) (λb u k q=>(ti _ _<|Ne.symm k).trans q) ⟨_,e⟩;exact⟨hz,its',d,r,e⟩
def QU:V->V->V->Hp->(Hp->Prop)->Prop:=λo i v H Q=>∃p xs k j,o=.ref p/\i=.int k/\H p=ac (.L xs)/\gv xs.length k=ac j/\Q (upd H p<|.L<|xs.set j v)
def set_list:F6 X QU:=by
 intro d s m H o i v ov iv u Q I w x y h;obtain⟨p,xs,k,j,rfl,rfl,g,z,q⟩:=h;subst w;obtain⟨t,rfl⟩:=x;obtain⟨its,n,r,e,hz⟩:=I.L g;obtain⟨c,h2,A,B⟩:=Ek z;have hl:=r.length;have hn:=mh;have l:Inv X d m (upd H p<|.L<|xs.set j v) {s with heap:=s.heap.update p (Yl (·.setIfInBounds j u))} :=
  I.Mq g e (Uw its n j u) (r.set y j) (by rw[I1];exact hz) s.toks
 by_cases h0:0<=k
 ·have f:k.toNat=j:=by rw[ad3 h0 B] at c;exact Option.some.inj c
  exact W.ki_setAt e h0 (by lia) (by simp_all) (by rw[f];exact⟨_,l,q⟩)
 have f:(k+(its.toArray.size:Int)).toNat=j:=by rw[adu (by omega) A] at c;rw[gs,<-hl];exact Option.some.inj c
 exact W.ki_setBack e (by omega) (by simp_all) (by lia) (by rw[f];exact⟨_,l,q⟩)
theorem Ut(lo c)(n):(ZZ lo c al n).1=((bh n 0 lo:Nat):Int)/\(ZZ lo c al n).2.1=((bh n n c:Nat):Int)/\(ZZ lo c al n).2.2=1:=by
 refine⟨?_,?_,ρ⟩
 ·cases lo with
  | none=>simp[ZZ,bh]
  | some i=>simp only[ZZ,bh,Option.getD_none,if_true];grind
 cases c with
 | none=>simp[ZZ,bh]
 | some i=>simp only[ZZ,bh,Option.getD_none,if_true];grind
def HH(its:List cn)(lo c:Option Int):slicePick its.toArray lo c al=((its.drop<|bh its.length 0 lo).take (bh its.length its.length c-bh its.length 0 lo)).toArray:=by obtain⟨d,e,f⟩:=Ut lo c its.toArray.size;delta slicePick;simp only[d,e,f];simp only[sliceRange_one,pick_run]<;>rfl
def IW(K:f'):V->Option Int->Option Int->Hp->VK->Prop:=λx lo c H Q=>∃a xs,x=.ref a/\cu K H a xs/\∀p,H p=al->Q (.ref p) (upd H p<|.L<|jh xs lo c)
def QI:lJ X (IW X.K):=by intro pins s σ H x v vl vu lo c sl Q I f hs g i h;obtain⟨a,xs,rfl,j,q⟩:=h;subst f;obtain⟨its,r,e,hz⟩:=I.list j;have d:=r.length;refine⟨"list",_,abZ.lookup,e.isList.typeIs,?_⟩;refine ac5 e.isList hs g i .none ⋯ ?_ (by rw[gs]<;>omega);rw[HH,<-d];refine⟨.ref s.heap.objs.size,_,I.laid (λb ob q=>ee _ q) (eK _) ?_,ρ,q _<|I.au.fresh<|eK _⟩;exact⟨nE (EW xs lo c) hz,_,0,(r.drop<|bh xs.length 0 lo).take (bh xs.length xs.length c-bh xs.length 0 lo),gj _ ρ⟩
def NG:aS X (me .NotIn) (λx y H Q=>∃i j,x=.str i/\y=.str j/\Q (.bl<|!(!(z6 j i 0 j.length 1).isEmpty)) H):=by intro pins s σ H x y v u Q I c d h;obtain⟨i,j,rfl,rfl,q⟩:=h;obtain⟨t,rfl⟩:=c;obtain⟨t',rfl⟩:=d;exact notIn_str ⟨.bl _,H,I,ρ,q⟩
def Mi:bM X (.builtin "len") (λxs H Q=>∃p ys,xs=[.ref p]/\(cu X.K H p ys\/ba X.K H p ys)/\Q (.int ys.length) H):=by
 intro pins s σ H xs us Q I r h;obtain⟨p,ys,rfl,d,q⟩:=h;obtain⟨u,rfl,g⟩:=vals1 r;subst g;have hn:=mh;rcases d with d|d
 ·obtain⟨its,e,f,hz⟩:=I.list d;have c:=e.length;exact Calls.call_len_list f.isList (by grind) ⟨.int ys.length,H,I.tok _,⟨s.toks+1,by rw[gs,c]⟩,q⟩
 obtain⟨its,e,f,hz⟩:=I.tuple d;have c:=e.length;exact len_tuple f (by grind) ⟨.int ys.length,H,I.tok _,⟨s.toks+1,by rw[gs,c]⟩,q⟩
def Ss:bM X (.builtin "len") (λxs H Q=>∃z,xs=[.str z]/\z.length<=cA/\Q (.int z.length) H):=by intro pins s σ H xs us Q I r h;obtain⟨z,rfl,hz,q⟩:=h;obtain⟨u,rfl,t,rfl⟩:=vals1 r;have hn:=mh;exact len_str (by lia) ⟨.int z.length,H,I.tok _,⟨_,ρ⟩,q⟩
def bM.or (h:bM X f r)(h':bM X f d):bM X f (λxs H Q=>r xs H Q\/d xs H Q):=by
 intro c s e H xs us Q I rs q;rcases q with q|q
 ·exact h c s e H xs us Q I rs q
 exact h' c s e H xs us Q I rs q
def Sr:bM X (.type "list") (λxs H Q=>∃p ys,xs=[.ref p]/\(cu X.K H p ys\/ba X.K H p ys)/\∀l,H l=al->Q (.ref l) (upd H l<|.L ys)):=by
 intro i s x H xs us Q I r h;obtain⟨p,ys,rfl,f,q⟩:=h;obtain⟨u,rfl,y⟩:=vals1 r;subst y;have g:∀(its:List cn),aJ ys its->ys.length<=cA->∀(h':nL) (c:Nat),(∀b v,s.heap.get? b=ac v->h'.get? b=ac v) ->
   h'.get? s.heap.objs.size=ac {cls:=.type "list",dict:=al,data:=.seq its.toArray c,slots:=#[]}->EP X i x Q (.ref s.heap.objs.size) {s with heap:=h'}:=λits d hz h' c kp e =>
  ⟨.ref s.heap.objs.size,_,I.laid kp (eK _) (show cF X.prog X.w _ h' _ (.L ys) from ⟨hz,its,c,d,e⟩),ρ,q _<|I.au.fresh<|eK _⟩
 rcases f with f|f
 ·obtain⟨its,d,j,hz⟩:=I.list f;have k:=d.length;obtain⟨o,m,t,n,hd⟩:=j.isList;exact afS p (ι ρ) m t hd (λh' c kp e=>g its d hz h' c kp e) (by simp_all)
 obtain⟨its,d,j,hz⟩:=I.tuple f;have k:=d.length;obtain⟨o,m,t,n,hd⟩:=j;exact afS p (τ ρ) m t hd (λh' c kp e=>g its d hz h' c kp e) (by simp_all)
def G5:bM X (.type "tuple") (λxs H Q=>∃p ys,xs=[.ref p]/\((cu X.K H p ys/\∀l,H l=al->Q (.ref l) (upd H l<|.U ys))\/(ba X.K H p ys/\Q (.ref p) H))):=by
 intro c s i H xs us Q I r h;obtain⟨p,ys,rfl,h⟩:=h;obtain⟨u,rfl,k⟩:=vals1 r;subst k;rcases h with⟨d,q⟩|⟨d,q⟩
 ·obtain⟨its,f,g,hz⟩:=I.list d;have hlen:=f.length;refine call_tuple_list g.isList (λh' kp=>?_) (by simp_all);have j:=I.kept (t':=s.toks) kp;have m:Inv X c i (upd H h'.objs.size<|.U ys) {s with heap:=h'.push {cls:=.type "tuple",data:=.seq its.toArray} } :=
   j.laid (λb o e=>ee _ e) (eK _) (⟨hz,its,f,adK _ _⟩)
  exact⟨.ref h'.objs.size,_,m,ρ,q _<|j.au.fresh<|eK _⟩
 obtain⟨its,f,g,hz⟩:=I.tuple d;exact call_tuple_same g ⟨.ref p,H,I,ρ,q⟩
def GH(K:f')(T:String)(x:V)(H:Hp):Prop:=match x with
 | .str _=>T="str"
 | .int _=>T="int"
 | .ref p=>(T="list"/\∃xs,cu K H p xs)\/(T="tuple"/\∃o,K.lookup p=ac o/\o.cls=.type "tuple"/\o.dict=al) \/
   (T="dict"/\((∃kvs,H p=ac (.dK kvs))\/∃kvs,H p=ac (.dT kvs)))\/(T="set"/\∃S n,H p=ac (.set S n))
 | _=>False
theorem J0 (I:Inv X f k H s)(r:RelV x v)(ty:GH X.K T x H) :
  s.TypeIs v T/\∀a,v=.ref a->∃h,s.heap.get? a=ac h/\h.dict=al:=by
 cases x with
 | str z=>obtain⟨t,rfl⟩:=r;cases (ty);simp[typeIs_str]
 | int i=>obtain⟨t,rfl⟩:=r;cases (ty);simp[aep]
 | ref p =>
  subst r;rcases ty with⟨rfl,xs,l⟩|⟨rfl,o,d,m,hd⟩|⟨rfl,d⟩|⟨rfl,S,n,d⟩
  ·obtain⟨its,_,j,_⟩:=I.list l;refine⟨j.isList.typeIs,λa e=>?_⟩;cases e;obtain⟨o,n,e,c,hd,_⟩:=j;exact⟨o,e,hd⟩
  ·refine⟨⟨o,I.h9 p o d,m⟩,λa e=>?_⟩;cases e;exact⟨o,I.h9 _ o d,hd⟩
  ·have z:∃o,s.heap.get? p=ac o/\o.ExactDict:=by
    rcases d with⟨kvs,d⟩|⟨kvs,d⟩
    ·obtain⟨_,_,_,_,o,_,_,e,ex,_⟩:=I.au p _ d;exact⟨o,e,ex⟩
    obtain⟨_,_,_,_,o,_,_,e,ex,_⟩:=I.au p _ d;exact⟨o,e,ex⟩
   obtain⟨o,e,ex⟩:=z;refine⟨⟨o,e,ex.1⟩,λa g=>?_⟩;cases g;exact⟨o,e,ex.2.1⟩
  obtain⟨o,_,_,_,e,ex,_⟩:=I.au p _ d;refine⟨⟨o,e,ex.1⟩,λa g=>?_⟩;cases g;exact⟨o,e,ex.2.1⟩
 | _=>exact Yw ty
def vi(K:f')(T:String)(r:V->List V->Hp->VK->Prop)(to:TE)(t:TA):TE:=λc H Q=>to c H λx d=>GH K T x d/\t c d λxs e=>r x xs e Q
variable{o e:hE}{es:List hE}{to:TE}{t:TA}{name:eS}{apos cpos:y4}{T id:String}{r:V->List V->Hp->VK->Prop}
def rZ(n:PlainAttrs T)(slot:Slot T name id)(k:typeOf (.builtin id)=pure (.type "method_descriptor"))(p:uC X id r)(q:PE X o to)(u:PA X (e::es) t)
 (f:Zp o name X.env (eval o X.env)=eval o X.env:=by rfl)
 (i:((Zb cpos<|mu (e::es) X.env).all (λx=>!x.1)&&(backToKw cpos<|keywordEach [] X.env).all (λx=>x.1.isSome)
   && am ((e::es).length+([]:List aeJ).length+(if ([]:List aeJ).isEmpty then 0 else 1)<30))=bd:=by rfl)
 (g:(apos.endLine==cpos.line)=bd:=by rfl)(hs:bA X e es:=by rfl)(d:(Zb cpos<|mu es X.env).any (·.1)=bi:=by rfl) :
  PE X (.Call (.Attribute o name apos) (e::es) [] cpos) (vi X.K T r to t):=by
 refine λc s j H Q I h=>wpAny_Call_method_late f i g ρ (aH (q c s j H _ I h) λv w e=>?_);obtain⟨x,y,l,m,ty,z⟩:=e;obtain⟨A,B⟩:=J0 l m ty;refine⟨T,id,n,slot,k,A,B,?_⟩;have hA:=u cpos c w j y _ l z;rw[hs] at hA ⊢;refine Calls.callWith_builtin (by show (false||(Zb cpos<|mu es X.env).any (·.1))=bi;rw[d]<;>rfl)<|Calls.evalArgs_plain ?_;exact aH hA λus C ⟨vs,D,E,F,G⟩=>p c C j D x vs v us Q E m F G
end
def BG(X:Cx)(id:String)(r:V->List V->Hp->VK->Prop):Prop :=
 ∀(a:List (dk×z5)) (s:cW) (b:St) (H:Hp) (x:V) (xs:List V) (v:cn) (us:List cn) (Q:VK),Inv X a b H s->RelV x v->aJ xs us->r x xs H Q ->
  g8 (hQ X.prog X.w) X.A (call (.builtin id) (v::us)) (EP X a b Q) X.xe s
theorem aJ.one (h:aJ [x] us):∃u,us=[u]/\RelV x u:=by
 cases h with
 | cons r t=>cases t;exact⟨_,ρ,r⟩
theorem aJ.two (h:aJ [x,y] us):∃u v,us=[u,v]/\RelV x u/\RelV y v:=by
 cases h with
 | cons r t=>obtain⟨v,e,q⟩:=aJ.one t;exact⟨_,v,by rw[e],r,q⟩
section
variable{X:Cx}{pins:List (dk×z5)}{σ:St}{H:Hp}{s:cW}{l b:dk}{xs ys zs:List V}{prog:hY}{w:nR}{A:pA}{E:cn->cW->Prop}
def Inv.E2{its its':List cn}{n:Nat}{f:Array cn->Array cn}{t':Nat}(I:Inv X pins σ H s)(a:H l=ac (.L xs))
 (e:s.heap.get? l=ac {cls:=.type "list",data:=.seq its.toArray n})(c:f its.toArray=its'.toArray)(d:aJ ys its')(hz:ys.length<=cA) :
  Inv X pins σ (upd H l<|.L ys) {s with heap:=s.heap.update l<|Yl f,toks:=t'}:=by
 have q:=PySem.IsL.update e f;rw[c] at q;apply I.write (by rw[a];exact trivial) (ι ρ) (λb' u g h=>(ti s.heap (Yl f)<|Ne.symm g).trans h) ⟨_,q⟩;exact⟨hz,its',_,d,q⟩
def Inv.vd (I:Inv X pins σ H s)(a:aJ ys its)(hz:ys.length<=cA) :
  Inv X pins σ (upd H s.heap.objs.size<|.L ys) {s with heap:=s.heap.push {cls:=.type "list",data:=.seq its.toArray},toks:=t'} :=
 I.laid (λ_ _ q=>ee _ q) (eK _) ⟨hz,its,0,a,gj _ ρ⟩
def Inv.fresh(I:Inv X pins σ H s):H s.heap.objs.size=al:=I.au.fresh<|eK _
def Inv.Cm(I:Inv X pins σ H s)(a:H l=ac (.L xs)):xs.length<=cA/\∃(its:List cn) (n:Nat),aJ xs its/\xs.length=its.length/\s.heap.get? l=ac {cls:=.type "list",data:=.seq its.toArray n}:=by obtain⟨z,its,n,r,e⟩:=I.au l _ a;exact⟨z,its,n,r,r.length,e⟩
def Ur (h:n<=cA):YR n=bi:=by simp_all [YR]
def BX:V->List V->Hp->VK->Prop:=λx vs H Q=>∃l xs y,x=.ref l/\vs=[y]/\H l=ac (.L xs)/\xs.length<cA/\Q .aQ (upd H l<|.L<|xs++[y])
def FN:BG X "list.append" BX:=by intro pins s σ H x vs v us Q I c d h;obtain⟨l,xs,y,rfl,rfl,a,hz,q⟩:=h;subst c;obtain⟨u,rfl,f⟩:=d.one;obtain⟨z,its,n,r,hl,e⟩:=I.Cm a;refine aaX acN ⟨_,e,ρ⟩ F.entry_list_append (F.args_list_append_2 _ _) (PySem.list_append l its.toArray n u (by rw[gs];omega)) ⟨e,?_⟩;refine⟨.aQ,_,I.E2 a e ⋯ (r.append<|.cons f .nil) ?_,ρ,q⟩;rw[eu,ZA];omega
set_option maxRecDepth 100000 in
end
section
variable{κ:Type}[DecidableEq κ]
noncomputable def fM(kvs:List (κ×V))(k:κ):Option V:=(kvs.find? λa=>am<|a.1=k).map (·.2)
noncomputable def putK(kvs:List (κ×V))(k:κ)(v:V):List (κ×V) :=
 if (kvs.any λa=>am<|a.1=k)=bd then kvs.map (λa=>if a.1=k then (a.1,v) else a) else kvs++[(k,v)]
def p5{p:κ×V}{r:List (κ×V)}{k:κ}(e:p.1=k):fM (p::r) k=ac p.2:=by simp[fM,ZP,e]
def qF{p:κ×V}{r:List (κ×V)}{k:κ}(e:¬p.1=k):fM (p::r) k=fM r k:=by simp[fM,ZP,e]
theorem sC(k):∀kvs:List (κ×V),(kvs.any λa=>am<|a.1=k)=(fM kvs k).isSome
 | []=>rfl
 | p::r=>by
  simp;by_cases e:p.1=k
  ·simp only[p5 e,decide_eq_true e,Bool.true_or,Option.isSome_some]
  simp only[qF e,decide_eq_false e];exact sC k r
theorem zH(kvs:List (κ×V))(k:κ)(v:V):(putK kvs k v).length<=kvs.length+1:=by
 unfold putK;split
 ·simp only[ab];lia
 simp
theorem jF.rh (r:jF o u):o.isSome=u.isSome:=by
 cases o with
 | none=>cases u with
  | none=>rfl
  | some _=>exact (r).elim
 | some _=>cases u with
  | none=>exact (r).elim
  | some _=>rfl
theorem KV.val{kvs:List (κ×V)}{vs:List (κ×cn)}(r:KV kvs vs)(k:κ):jF (fM kvs k) (ads vs k):=by
 unfold KV at r;induction r with
 | nil=>exact ZC
 | @cons p q ps a h t ih =>
  obtain⟨c,d⟩:=h;by_cases e:p.1=k
  ·have f:=c.symm.trans e;have b:ads (q::a) k=ac q.2:=by simp[ads,ZP,f]
   rwa[p5 e,b]
  simp_all [ads,qF]
theorem KV.any (r:KV kvs vs)(k:κ):(kvs.any λa=>am<|a.1=k)=vs.any λa=>am (a.1=k):=by
 induction r with
 | nil=>rfl
 | cons h t b=>rw[Zg,Zg,b,h.1]
theorem KV.js (r:KV kvs vs)(k:κ)(c:RelV y u) :
  KV (kvs.map λa=>if a.1=k then (a.1,y) else a) (vs.map λa=>if a.1=k then (a.1,u) else a):=by
 unfold KV at r ⊢;induction r with
 | nil=>exact .nil
 | @cons p q ps qs h t d =>
  rw[hS,hS];refine .cons ?_ d;obtain⟨b,h2⟩:=h;by_cases e:p.1=k
  ·rw[if_pos e,if_pos<|b.symm.trans e];exact⟨b,c⟩
  simp_all
def KV.put (r:KV kvs vs)(k:κ)(a:RelV y u):KV (putK kvs k y) (stored vs k u):=by
 delta putK stored;rw[r.any k];by_cases e:(vs.any λb=>am<|b.1=k)=bd
 ·rw[if_pos e,if_pos e];exact r.js k a
 rw[if_neg e,if_neg e];exact Paired.snoc r ⟨ρ,a⟩
theorem KV.keys{kvs:List (κ×V)}{vs:List (κ×cn)}(r:KV kvs vs):kvs.map (·.1)=vs.map (·.1):=by
 induction r with
 | nil=>rfl
 | cons h t a=>rw[hS,hS,a,h.1]
def KV.length (r:KV kvs vs):kvs.length=vs.length:=Paired.length r
end
theorem oU (r:RelV (kV k) u):(cJ P w).is k u=bd:=by
 cases k with
 | inl i=>obtain⟨t,e⟩:=(r);subst e;exact (λprog w i t=>Us i t) P w i t
 | inr x=>obtain⟨t,e⟩:=(r);subst e;exact (λprog w x t=>DR x t) P w x t
theorem wX:∀{a:List Key}{us:List cn},aJ (a.map kV) us->ItemsAre (cJ P w) a us
 | [],_,r=>by rw[aaK] at r;cases r;exact .nil
 | k::a,_,r=>by
  cases r with
  | cons h t=>exact .cons (oU h)<|wX t
abbrev KT(H:Hp):List (List Key×V)->List (List Key×dk×cn)->Prop:=Zc λp q=>p.1=q.1/\H q.2.1=ac (.U<|p.1.map kV)/\RelV p.2 q.2.2
theorem KT.val{H:Hp}{kvs:List (List Key×V)}{xs:List (List Key×dk×cn)}(r:KT H kvs xs)(k:List Key):jF (fM kvs k) ((ad5 xs k).map (·.2)):=by
 induction r with
 | nil=>exact ZC
 | @cons p q ps a h t ih =>
  obtain⟨c,_,d⟩:=h;by_cases e:p.1=k
  ·have f:=c.symm.trans e;have b:ad5 (q::a) k=ac q.2:=by simp[ad5,ZP,f]
   rwa[p5 e,b]
  simp_all [ad5,qF]
theorem KT.js (r:KT H kvs xs)(k:List Key)(d:RelV y u) :
  KT H (kvs.map λb=>if b.1=k then (b.1,y) else b) (xs.map<|putAt k u):=by
 induction r with
 | nil=>exact .nil
 | @cons p q ps qs h t f =>
  simp;refine .cons ?_ f;obtain⟨a,c,g⟩:=h;delta putAt;by_cases e:p.1=k
  ·rw[if_pos e,if_pos<|a.symm.trans e];exact⟨a,c,d⟩
  rw[if_neg e,if_neg<|λz=>e<|a.trans z];exact⟨a,c,g⟩
def KT.put (r:KT H kvs xs)(k:List Key)(c:H b=ac (.U<|k.map kV))(a:RelV y u) :
  KT H (putK kvs k y) (storedH xs k b u):=by
 have e:(kvs.any λd=>am<|d.1=k)=(ad5 xs k).isSome:=by rw[sC,(r.val k).rh,abb]
 delta putK storedH;rw[e];by_cases q:(ad5 xs k).isSome=bd
 ·rw[if_pos q,if_pos q];exact r.js k a
 rw[if_neg q,if_neg q];exact Paired.snoc r ⟨ρ,c,a⟩
def KT.keeps (r:KT H kvs xs)(c:∀b ys,H b=ac (.U ys)->a b=ac (.U ys)):KT a kvs xs :=
 Paired.pT r λ_ _ z=>⟨z.1,c _ _ z.2.1,z.2.2⟩
section
variable{P:hY}{w:nR}{H:Hp}{h:nL}{a:dk}{X:Cx}{pins:List (dk×z5)}{σ:St}{s:cW}{y v:V}{u r:cn}{o:Option V}{A:pA}{E:cn->cW->Prop}
def yb{u:HO}(ok:cb P w H h)(e:Rd H a u):cF P w H h a u:=e.ok ok
def lg (ok:cb P w H h)(e:Rd H a (.dK kvs)):kvs.length<=cA/\(a==Yg)=bi/\∃vs,KV kvs vs/\h.DictOf (cJ P w) a vs :=
 show cF P w H h a (.dK kvs) from yb ok e
def qw (ok:cb P w H h)(e:H a=ac (.U<|b.map kV)):(aco<|cJ P w).is h b a:=by obtain⟨_,its,r,o,c,d,n,f⟩:=(ok a _ e);exact⟨o,its.toArray,n,c,d,f,by simpa using wX r⟩
theorem sA (ok:cb P w H h)(e:Rd H a (.dT kvs)):kvs.length<=cA/\(a==Yg)=bi /\
  ∃xs,KT H kvs xs/\h.DictOfH (aco<|cJ P w) a xs:=by
 obtain⟨z,y,xs,r,o,c,ep,d,f,g,i,j⟩:=(yb ok e);refine⟨z,y,xs,r,o,c,ep,d,f,g,i,λx b=>?_,j⟩;have all:∀{l:List (List Key×V)}{m:List (List Key×dk×cn)},KT H l m->∀x∈m,(aco<|cJ P w).is h x.1 x.2.1:=by
  intro l m q;induction q with
  | nil=>simp
  | @cons p q ps qs hq t k =>
   intro x b;rcases eW.1 b with e|b
   ·exact qw ok (by simp_all)
   exact k x b
 exact all r x b
def jj(H:Hp)(a:dk)(y:V)(r:Option V):Prop :=
 (∃kvs k,Rd H a (.dK kvs)/\y=kV k/\r=fM kvs k)\/∃kvs k b,Rd H a (.dT kvs)/\y=.ref b/\H b=ac (.U<|k.map kV)/\r=fM kvs k
def lj(H:Hp)(a:dk)(y v:V)(c:Hp):Prop :=
 (∃kvs k,H a=ac (.dK kvs)/\y=kV k/\kvs.length<cA/\c=upd H a (.dK<|putK kvs k v)) \/
 ∃kvs k b,H a=ac (.dT kvs)/\y=.ref b/\H b=ac (.U<|k.map kV)/\kvs.length<cA/\c=upd H a (.dT<|putK kvs k v)
theorem jj.k{H:Hp}{a:dk}{kvs:List (Key×V)}{k:Key}(e:H a=ac (.dK kvs)):jj H a (kV k) (fM kvs k):=ι ⟨kvs,k,ι e,ρ,ρ⟩
theorem lj.k{H:Hp}{a:dk}{kvs:List (Key×V)}{k:Key}{v:V}(e:H a=ac (.dK kvs))(hl:kvs.length<cA):lj H a (kV k) v (upd H a<|.dK<|putK kvs k v):=ι ⟨kvs,k,e,ρ,hl,ρ⟩
def lj.t{H:Hp}{a b:dk}{kvs:List (List Key×V)}{k:List Key}{v:V}(e:H a=ac (.dT kvs))(c:H b=ac (.U<|k.map kV))(hl:kvs.length<cA) :
  lj H a (.ref b) v (upd H a<|.dT<|putK kvs k v):=τ ⟨kvs,k,b,e,ρ,c,hl,ρ⟩
def Inv.sR(I:Inv X pins σ H s):Yg<s.heap.objs.size:=by exact Y4 (by decide)<|(I.mod.glob.keeps I.bk).lt
def HA (n:A.units+1<u2)(I:Inv X pins σ H s)(g:jj H a y (ac v))(j:RelV y u)(h:∀c s',Inv X pins σ H s'->RelV v c->Q c s') :
  g8 (hQ X.prog X.w) A (abp (.ref a) u) Q E s:=by
 rcases g with⟨kvs,k,e,i,l⟩|⟨kvs,k,b,e,i,q,l⟩
 ·subst i;obtain⟨z,hd,vs,d,dd⟩:=lg I.au e;obtain⟨c,hw,f⟩:=jF.some_of (by rw[l];exact d.val k);exact wpAny_getItem_of (oU j) dd.mapOf hw<|h c _ (I.tok _) f
 subst i;cases (j);obtain⟨z,hd,xs,d,dd⟩:=sA I.au e;obtain⟨c,hw,f⟩:=jF.some_of (by rw[l];exact d.val k);obtain⟨p,t,m⟩:=gf.1 hw;apply wpAny_getItem_heap (aav n) (qw I.au q) dd t;simp[m];exact h c _ (I.tok _) f
def JA (i:A.units+1<u2)(I:Inv X pins σ H s)(g:jj H a y o)(f:RelV y u)(h:∀s',Inv X pins σ H s'->Q (.bool o.isSome) s') :
  g8 (hQ X.prog X.w) A (me .In u<|.ref a) Q E s:=by
 rcases g with⟨kvs,k,e,d,l⟩|⟨kvs,k,b,e,d,j,l⟩
 ·subst d;obtain⟨z,hd,vs,c,dd⟩:=lg I.au e;apply wpAny_in_of (oU f) hd dd.mapOf;rw[<-(c.val k).rh,<-l];exact h _<|I.tok _
 subst d;cases (f);obtain⟨z,hd,xs,c,dd⟩:=sA I.au e;apply wpAny_in_heap (aav i) (qw I.au j) hd dd;have q:=(c.val k).rh;rw[abb] at q;simp only[<-q,<-l];exact h _<|I.tok _
def Ox (i:A.units+1<u2)(I:Inv X pins σ H s)(g:jj H a y o)(f:RelV y u)(h:∀s',Inv X pins σ H s'->Q (.bool<|!o.isSome) s') :
  g8 (hQ X.prog X.w) A (me .NotIn u<|.ref a) Q E s:=by
 rcases g with⟨kvs,k,e,d,l⟩|⟨kvs,k,b,e,d,j,l⟩
 ·subst d;obtain⟨z,hd,vs,c,dd⟩:=lg I.au e;apply wpAny_notIn_of (oU f) hd dd.mapOf;rw[<-(c.val k).rh,<-l];exact h _<|I.tok _
 subst d;cases (f);obtain⟨z,hd,xs,c,dd⟩:=sA I.au e;apply wpAny_notIn_heap (aav i) (qw I.au j) hd dd;have q:=(c.val k).rh;rw[abb] at q;simp only[<-q,<-l];exact h _<|I.tok _
def Bu (I:Inv X pins σ H s)(f:qv (H a))(hs:Yi a s.heap h')(g:∃q,h'.get? a=ac q)(d:cF X.prog X.w (upd H a c) h' a c) :
  Inv X pins σ (upd H a c) {s with heap:=h',toks:=t'} :=
 I.write f (ι ρ) (λb q i z=>(hs.2 b i).trans z) g d
def xC (z:kvs.length<=cA)(hd:(a==Yg)=bi)(b:KV kvs vs)(dd:h'.DictOf (cJ P w) a vs) :
  cF P w c h' a (.dK kvs):=⟨z,hd,vs,b,dd⟩
def M6 (B:A.units+1<u2)(I:Inv X pins σ H s)(g:lj H a y v n)(p:RelV y u)(t:RelV v r)(h:∀s',Inv X pins σ n s'->Q () s') :
  g8 (hQ X.prog X.w) A (adt (.ref a) u r) Q E s:=by
 rcases g with⟨kvs,k,e,j,l,m⟩|⟨kvs,k,b,e,j,x,l,m⟩
 ·subst j m;obtain⟨z,hd,vs,d,dd⟩:=(λok e=>lg ok<|ι e) I.au e;have hz:vs.length<=sizeLine:=by rw[<-d.length];exact z
  have hl:(putK kvs k v).length<=sizeLine:=by grind [zH]
  refine wpAny_setItem_pairs (hsz:=hz) (oU p) dd λh' f hs=>h _ ?_;have C:∃q,h'.get? a=ac q:=let ⟨q,_,_,i,_⟩:=f;⟨q,i⟩
  exact Bu I (by rw[e];exact ZC) hs C<|xC hl hd (d.put k t) f
 subst j m;cases (p);obtain⟨z,hd,xs,d,dd⟩:=(λok e=>sA ok<|ι e) I.au e;have hz:xs.length<=sizeLine:=by rw[<-Paired.length d];exact z
 have hl:(putK kvs k v).length<=sizeLine:=by grind [zH]
 refine wpAny_setItem_heap (hsz:=hz) (aav B) (qw I.au x) dd λh' f hs=>h _ ?_;obtain⟨q,D,ep,i,F,G,J,_,K⟩:=f;refine Bu I (by rw[e];exact ZC) hs ⟨q,i⟩ ⟨hl,hd,_,(d.put k x t).keeps λc ys L=>?_,q,D,ep,i,F,G,J,K⟩;rw[aA (by lia)];exact L
end
section
variable{X:Cx}{pins:List (dk×z5)}{σ:St}{H:Hp}{s:cW}{a:dk}{kvs:List (Key×V)}{k:Key}{u:cn}{A:pA}{E:cn->cW->Prop}
def JK (I:Inv X pins σ H s)(e:Rd H a (.dK kvs))(h:∀t s',Inv X pins σ H s'->Q (.int kvs.length t) s'):g8 (hQ X.prog X.w) A (call (.builtin "len") [.ref a]) Q E s:=by obtain⟨z,hd,vs,b,dd⟩:=lg I.au e;apply call_len_dict hd dd (by rw[<-b.length];rw[za] at z;omega);rw[<-b.length];exact h _ _<|I.tok _
end
def D1(i:hE):Prop:=∀a b,acv i false a b=operate [a,b] (abp a b)
theorem KA{prog:hY}{w:nR}{A:pA}{E:cn->cW->Prop}{s:cW}{env:Env}{value slice:hE}{pos:y4}{T id:String}{Q:cn->cW->Prop}
 (hl:acJ (.type T) "__getitem__"=pure (ac<|.builtin id))(hs:D1 slice)
 (h:g8 (hQ prog w) A (eval value env) (λo c=>g8 (hQ prog w) A (eval slice env) (λi a=>a.TypeIs o T/\g8 (hQ prog w) A (abp o i) Q E a) E c) E s) :
  g8 (hQ prog w) A (eval (.Subscript value slice pos) env) Q E s:=by
 refine acP (Ye h (λo c f=>Ye f (λi a b=>?_) λ_ _ x=>x) λ_ _ x=>x);obtain⟨j,b⟩:=b;apply bg;refine bg<|acB j hl ?_;have d:g8 (hQ prog w) A (acv slice false o i) (λr e=>g8 (hQ prog w) A (letTemporaryGo value o r >>= λ_=>pure r) Q E e) E a:=by rw[hs o i];exact wpAny_operating (Ye b (λr e g=>bg<|wpAny_letTemporaryGo<|dr g) λ_ _ x=>x)
 first
  | exact dr (bg d)
  | exact bg (dr<|bg d)
  | exact bg d
def SM(d ty:TE):TE:=λb H Q=>d b H λx e=>ty b e λy c=>∃a v,x=.ref a/\jj c a y (ac v)/\Q v c
def RE(d ty e:TE):TS:=λD b H=>e b H λv f=>d b f λx g=>ty b g λy h=>∃a c,x=.ref a/\lj h a y v c/\D.nx b c
section
variable{X:Cx}{o i e value:hE}{pos pos' tpos:y4}{td ty tv:TE}{pins:List (dk×z5)}{σ:St}{H:Hp}{s:cW}{a:dk}{kvs:List (Key×V)}{A:pA}{E:cn->cW->Prop}
def xZ(d:X.A.units+1<u2)(f:PE X o td)(j:PE X i ty)(hs:D1 i):PE X (.Subscript o i pos) (SM td ty):=by
 refine λpins s σ H Q I h=>KA PySem.F.slot_dict_getitem.lookup hs (aH (f pins s σ H _ I h) λu k ⟨x,l,m,n,p⟩=>aH (j pins k σ l _ m p) λiv s2 e=>?_);obtain⟨y,q,b,r,a,v,ex,g,t⟩:=e
 subst ex;obtain rfl:u=nT a:=n;exact⟨(λI g=>by
   rcases g with⟨kvs,k,e,_,_⟩|⟨kvs,k,b,e,_,_,_⟩
   ·obtain⟨_,_,vs,_,dd⟩:=lg I.au e;exact dd.typeIs
   obtain⟨_,_,xs,_,dd⟩:=sA I.au e;exact dd.typeIs) b g,HA d b g r λw' s3 w c=>⟨v,q,w,c,t⟩⟩
def Az(b:X.A.units+1<u2)(c:PE X o td)(d:PE X i ty)(f:PE X value tv)(hs:HT value (ac<|.Subscript o i pos') pos.line X.env=pure false) :
  PS X (.Assign [.Subscript o i pos'] value pos) (RE td ty tv):=by
 refine λpins s σ H D I h=>wpAny_Assign_Subscript (aH (f pins s σ H _ I h) λr j ⟨v,k,l,m,n⟩=>aH (c pins j σ k _ l n) λu p ⟨x,q,t,w,z⟩=>aH (d pins p σ q _ t z) λiv s3 e=>?_) hs;obtain⟨y,H3,B,C,a,F,ex,g,G⟩:=e;subst ex;obtain rfl:u=nT a:=w;exact M6 b B g C m λs4 J=>⟨σ,F,J,G⟩
def Tp (h:nL)(b:Yg<h.objs.size):cF P w H (h.push {cls:=.type "dict",data:=.dict #[]}) h.objs.size (.dK []) :=
 ⟨pe _,beq_eq_false_iff_ne.2<|Ne.symm<|hG b,[],.nil,acH h⟩
def QR:TE:=λ_ H Q=>∀p,H p=al->Q (.ref p) (upd H p<|.dK [])
def MH:TE:=λ_ H Q=>∀p,H p=al->Q (.ref p) (upd H p<|.dT [])
def JI:PE X (.Dict [] [] pos) QR:=λpins s σ H Q I h =>
 aeV ⟨.ref s.heap.objs.size,_,I.laid (a:=s.heap.objs.size) (o:=.dK []) (t':=s.toks) (λ_ _ q=>ee _ q) (eK _)<|Tp s.heap I.sR,ρ,h _<|I.au.fresh<|eK _⟩
def OW:PE X (.Dict [] [] pos) MH:=λpins s σ H Q I h =>
 aeV ⟨.ref s.heap.objs.size,_,I.laid (λ_ _ q=>ee _ q) (eK _) ((λh b=>
   ⟨pe _,beq_eq_false_iff_ne.2<|Ne.symm<|hG b,[],.nil,_,#[],0,gj _ ρ,⟨ρ,ρ,ρ⟩,ρ,ρ,YV⟩) s.heap I.sR),ρ,h _<|I.au.fresh<|eK _⟩
def lA(kvs more:List (Key×V)):List (Key×V):=more.foldl (λb c=>putK b c.1 c.2) kvs
theorem KV.merge:∀{more:List (Key×V)}{rs:List (Key×cn)}{kvs:List (Key×V)}{vs:List (Key×cn)},KV more rs->KV kvs vs->KV (lA kvs more) (adw vs rs):=by
 intro more rs kvs vs r;induction r generalizing kvs vs with
 | nil=>exact fun q=>q
 | @cons p q ps qs h t b =>
  intro c;have e:KV (putK kvs p.1 p.2) (stored vs q.1 q.2):=by rw[<-h.1];exact c.put p.1 h.2
  exact b e
theorem FF:∀(more kvs:List (Key×V)),(lA kvs more).length<=kvs.length+more.length
 | [],kvs=>by show kvs.length<=kvs.length+0;omega
 | p::r,kvs=>by have h1:=FF r<|putK kvs p.1 p.2;have h2:=zH kvs p.1 p.2;grind [lA]
def QE (I:Inv X pins σ H s)(e:Rd H a (.dK kvs))(h:∀p s',H p=al->Inv X pins σ (upd H p<|.dK kvs) s'->Q (.ref p) s'):g8 (hQ X.prog X.w) A (call (.type "dict") [.ref a]) Q E s:=by obtain⟨z,hd,vs,c,dd⟩:=lg I.au e;refine kt_call_dict hd dd (by rw[<-c.length];exact z) λh' d hs=>?_;refine h _ _ (I.au.fresh<|eK _)<|I.laid (λb q f=>?_) (eK _)<|xC z (beq_eq_false_iff_ne.2<|Ne.symm<|hG I.sR) c d;exact (hs.2 b<|hG<|fj f).trans (ee _ f)
end
section
open PySem.W PySem.Calls
theorem Pq:∀(ns:List Int) (vs:List cn),WellAll P h vs (ns.map aff)->aeO vs ns:=by
 intro ns;induction ns with
 | nil=>intro vs w;cases w;exact .nil
 | cons n ns c =>
  intro vs w;cases w with
  | cons a b =>
   cases a;exact .cons _ _<|c _ b
theorem Jg{l:adS}{n:Nat}(k:l.most=ac n){P:Params}{h:nL}{args:List WData}{b:List cn}
 (c:l.row.toRowW.claim.pre args=bd)(i:WellAll P h b args) :
  ∃a vs ns,b=[nT a]/\args=[WData.list (ns.map aff)]/\h.get? a=ac {cls:=.type "list",data:=.seq vs.toArray}/\aeO vs ns/\ns.length<=n:=by
 have fD:WShape.hasAll [] args [.list .int]=bd:=(pre_splitW c).1;have j:l.pre.holds [] {args:=args}=bd:=(pre_splitW c).2;obtain⟨d,r,rfl,m,o⟩:=hasAllW_cons fD;obtain rfl:=hasAllW_nil o;obtain⟨xs,rfl,p⟩:=hasW_list m;obtain⟨ns,rfl⟩:=items_int p;have f:ns.length<=n:=by
  have e:(WTm.not<|.lt (.lit<|.int (n:Int))<|.len<|.arg 0).holds [] {args:=[.list (ns.map .int)]}=bd:=by have e:=(holds_andW j).1;rwa[k] at e
  have h5:=condW_of e<|w_not<|w_lt w_lit<|w_len_list<|w_arg ρ;simp_all
 cases i with
 | cons q s =>
  cases s;cases q with
  | list t g=>exact⟨_,_,ns,ρ,ρ,t,Pq ns _ g,f⟩
def OG(l:adS)(args:List WData):l.row.toRowW.claim.post args (.bool true) args=bd :=
 postW_of
  rfl
  (w_eq_bool (w_res ρ) w_lit) rfl
end
theorem Ro{vs:List cn}{ns:List Int}(h:aeO vs ns):aJ (ns.map V.int) vs:=by
 induction h with
 | nil=>exact .nil
 | cons n t _ a=>exact .cons ⟨t,ρ⟩ a
def GZ(H:Hp):Prop:=∀b,H b=al\/∃o xs,H b=ac (.bq o<|.L xs)
theorem S8{P:hY}{w:nR}{K:f'}{mg y:eS->Option cn}{CX:iZ}{k:Nat}{fa a:dk}{I:hO}{x:eS}{sp:Sp}{c:cW}{vs:List cn}{ns:List Int}
 (J:K.In c.heap)(p:c.heap.Ns kq mg)(f:c.heap.Ns aes y)(L:∀x:eS,x≠"__name__"->y x=Yo x)(A:c.heap.NoLimit)(U:c.gens=#[])
 (B:c.heap.get? a=ac {cls:=.type "list",data:=.seq vs.toArray})(M:aeO vs ns)(hl:ns.length<=cA)(X:df k adz)
 (F:∀base:nL,K.In base->base.Ns kq mg->a9 P w K mg base CX k fa I [x] sp)(l:∀(s:cW) (u:cn),adE s I ⟨[u],[]⟩ [(x,u)])
 (N:∀H:Hp,GZ H->cu K H a (ns.map V.int)->sp [.ref a] H (λv _=>v=.bl true) λ_ _ _=>False)
 (O:∀H e s',CX [] H c (λ_ _ _=>False) e s'->False) :
  ZV (hQ P w) adz (.call (.ref fa) ⟨[.ref a],[]⟩) (λr s'=>r=.ok (.ret<|.bool true)/\OldK c.heap s'.heap/\s'.os=c.os/\abt s'.gens) c:=by
 have Q:=Ro M;have C:=M.length;have j:∀H:Hp,GZ H->cu K H a (ns.map V.int)->cb P w H c.heap->(∀b,H b≠al->b=a)->(H a≠al->K.lookup a=al) ->
   ZV (hQ P w) adz (.call (.ref fa) ⟨[.ref a],[]⟩) (λr s'=>r=.ok (.ret<|.bool true)/\OldK c.heap s'.heap/\s'.os=c.os/\abt s'.gens) c:=by
  intro H R Y au hA hK;have g:∀{b:dk}{o:z5},c.heap.get? b=ac o->H b=al->(ki c.heap H).get? b=ac o:=λe n=>(λe n=>
    W.hideAll_get _ e λa=>by
     have q:=(hB.1 a).2
     simp_all) e n
  have S:∀{b:dk}{o:z5}{D:Array ZT}{ep:Nat},c.heap.get? b=ac o->o.data=.dict D ep->H b=al:=by grind
  have i:∀{b:dk}{m:eS->Option cn},c.heap.Ns b m->(ki c.heap H).Ns b m:=λ{b m} ⟨o,D,ep,e,d,r⟩=>⟨o,D,ep,g e<|S e d,d,r⟩
  have t:K.In (ki c.heap H):=λb o e=>g (J b o e) (by grind)
  have Z:Mod K mg (ki c.heap H):=⟨t,i p,⟨y,i f,L⟩,let ⟨mc,h1,h2⟩:=A;⟨mc,i h1,h2⟩⟩;have e0:uF P w K mg (ki c.heap H) adz [] c H:=⟨ρ,Z,λb o e=>Jw e,Zy<|(λh H=>W.hideAll_size _ _) _ _,trivial,λb f=>absurd (show b∈([]:List dk) from f) (by simp),au,.of_eq U⟩;refine ZF ((F _ t<|i p).run adz [] c H ⟨[.ref a],[]⟩ [.ref a] [.ref a] _ _ X e0 (l c<|.ref a) (.cons ρ .nil) (N H R Y)) λr s' h=>?_;cases r with
  | error e=>exact (O H e s' h).elim
  | ok fl =>
   cases fl with
   | next=>exact Yw h
   | brk=>exact Yw h
   | cont=>exact Yw h
   | ret u =>
    obtain⟨v,H',os,bare,un,E,r',q⟩:=h;have q':=q;subst q';obtain rfl:u=H9 true:=r';refine⟨ρ,OldK.of_keep λb o e=>?_,os,bare⟩;cases q:H b with
    | none=>exact un.keep b o e q (by intro z;exact absurd (show b∈([]:List dk) from z) ⋯) ⋯
    | some u =>
     rcases R b with z|⟨ob,xs,z⟩
     ·rw[q] at z;contradiction
     obtain⟨T,_⟩:=au b _ z;obtain⟨e2,_⟩:=E b _<|un.iM b ob _ z;rw[e] at T;obtain rfl:=sO T;exact e2
 cases G:K.lookup a with
 | some o=>have e:=J a o G;rw[B] at e;obtain rfl:=sO e;refine j (λ_=>al) (λ_=>ι ρ) (τ ⟨_,vs.toArray,_,G,ρ,ρ,ρ,by rw[gs,C];exact hl,by simpa using Q⟩) (λb u z=>by simp_all) (λb z=>absurd ρ z) λz=>absurd ρ z
 | none =>
  refine j (λb=>if b=a then ac (.bq {cls:=.type "list",data:=.seq vs.toArray} (.L<|ns.map V.int)) else al) (λb=>?_) (ι<|τ ⟨{cls:=.type "list",data:=.seq vs.toArray},if_pos ρ⟩) (λb u z=>?_) (λb z=>?_) λ_=>G
  ·by_cases f:b=a
   ·exact τ ⟨_,_,if_pos f⟩
   exact ι<|if_neg f
  ·by_cases f:b=a
   ·obtain rfl:=sO<|(if_pos f).symm.trans z;subst f;exact⟨B,by rw[ab];exact hl,vs,_,Q,B⟩
   simp_all
  by_cases f:b=a
  ·exact f
  cases z (if_neg f)
noncomputable def oQ(s:Zq):Arguments:=match s with
 | .FunctionDef _ a _ _ _ _ _ _ _ _=>a
 | _=>{posonlyargs:=[],args:=[],vararg:=al,kwonlyargs:=[],kw_defaults:=[],kwarg:=al,defaults:=[]}
noncomputable def jc(s:Zq):List Stmt:=match s with
 | .FunctionDef _ _ b _ _ _ _ _ _ _=>b
 | _=>[]
noncomputable def aV(s:Zq):Scope:=match s with
 | .FunctionDef _ _ _ _ _ _ a _ _ _=>a
 | _=>{kind:=.function,names:=[],isGenerator:=false,isCoroutine:=false}
abbrev aZ:iZ:=λ_ _ _ _ _ _=>False
abbrev E0:XK:=λ_ _ _=>False
structure bc (K:f') (x qual:eS) (st:Zq) (f:dk) (fd:hO):Prop where
 ex:∃(oc:cn) (od:Option dk) (kV doc pm:cn) (an:Option dk) (cdv ct:cn) (osl:Array (Option cn)),
  fd=ab4 x qual (oQ st) (jc st) (aV st) .none kV doc pm an cdv ct/\K.lookup f=ac ⟨oc,od,.func fd,osl⟩/\ae6 K cdv qual=bd
 kp:abP K (.ref f)=bd
section
variable{P:hY}{w:nR}{K:f'}{mg:eS->Option cn}{base:nL}{Ar:pA}{X:Cx}{pins:List (dk×z5)}{σ:St}{H:Hp}{s:cW}{NB:List eS}{scope:YD}{s₂:cW}{E:cn->cW->Prop}
theorem bc.ok{x a:eS}{st:Zq}{f:dk}{e:hO}{N d:List eS}{k:Nat}{sp:Sp}(F:bc K x a st f e)(S:bp N d (aV st))(len:∀vs H Q E,sp vs H Q E->vs.length=d.length)
 (c:∀(b:cn) (A:pA) (outer:List Env) (s:cW) (H:Hp) (vs:List V) (Q:VK) (E:XK),df k (A.deeper<|aay a (aV st) s.heap.objs.size f b)->sp vs H Q E ->
   ∃t,ic (jP aZ P w K mg base N a (aV st) f b A outer s H E).lC (jc st) t/\t {nx:=fun _ j=>Q .aQ j,rt:=Q} (start N vs) H):a9 P w K mg base aZ (k+1) f e d sp:=by
 obtain⟨oc,od,kV,doc,pm,an,b,ct,osl,rfl,lk,g⟩:=F.ex;refine Uc lk g S len fun A outer s H vs Q E l i=>?_;obtain⟨t,h,q⟩:=c b A outer s H vs Q E l i;exact⟨t,h.lC,q⟩
def bc.binds{x a:eS}{st:Zq}{f:dk}{g:hO}{d:List eS}(F:bc K x a st f g)
 (h:∀(kV b pm:cn) (e:Option dk) (c ct:cn) (us:List cn),us.length=d.length->ad4 (ab4 x a (oQ st) (jc st) (aV st) .none kV b pm e c ct) ⟨us,[]⟩=pure (d.zip us)):Binds K g d []:=by
 obtain⟨oc,od,kV,b,pm,e,c,ct,osl,rfl,lk,hcd⟩:=F.ex;exact .all<|h kV b pm e c ct
def T3{x a:eS}{st:Zq}{f:dk}{h:cn}{i g:Option dk}{e:Array (Option cn)}{kV d pm b ct:cn}(l:K.lookup f=ac ⟨h,i,.func<|ab4 x a (oQ st) (jc st) (aV st) .none kV d pm g b ct,e⟩)
 (c:ae6 K b a=bd)(k:abP K (.ref f)=bd):bc K x a st f (ab4 x a (oQ st) (jc st) (aV st) .none kV d pm g b ct):=⟨⟨h,i,kV,d,pm,g,b,ct,e,ρ,l,c⟩,k⟩
def aj(H a:Hp):Prop:=∀b o,H b=ac o->a b=ac o
def aj.refl(H):aj H H:=λ_ _ h=>h
def aj.trans (a:aj H d)(b:aj d e):aj H e:=λc o h=>b c o<|a c o h
noncomputable abbrev BC(ifs:List hE)(env:Env):Sem Bool:=forIn ifs true λt ok =>
 if ok=bd then (adx t env<|eval t env) >>= λb=>pure (.yield b)
 else pure (.yield ok)
abbrev nC:cn->cW->Prop:=λ_ _=>False
theorem Th (W:Nat->cW->Prop)(turn:∀n c,W n c->g8 (hQ P w) Ar (Za b) (λd g=>match d with
   | none=>k (.ok .next) g
   | some u=>g8 (hQ P w) Ar (aaZ e b u)
     (λ_ o=>g8 (hQ P w) Ar (ZR e env u)
      (λ_ p=>g8 (hQ P w) Ar (BC ifs env)
       (λok h=>if ok=bd then g8 (hQ P w) Ar (eval elt env)
         (λy q=>g8 (hQ P w) Ar (call (.builtin "list.append") [a,y]) (λ_ r=>∃m,m<n/\W m r) nC q) nC h
        else ∃m,m<n/\W m h) nC p) nC o) nC g) nC c)(t:Nat)(B:W t l):ZV (hQ P w) Ar (.compLoop (.ListComp elt [⟨e,f,ifs,0⟩] i j) 0 b a env) k l:=by
 refine codeAny_loop ρ W (λn c hw=>?_) t B;apply wpAny_noted;rw[compTurn_list];refine bg<|abI<|bg (Ye (turn n c hw) (λd g v=>?_) λ_ _ z=>z.elim);cases d with
 | none=>exact dr v
 | some u =>
  refine bg (Ye v (λ_ o C=>?_) λ_ _ z=>z.elim);refine bg (Ye C (λ_ p D=>?_) λ_ _ z=>z.elim);refine bg (Ye D (λok h A=>?_) λ_ _ z=>z.elim);cases ok with
  | false=>exact dr (afZ ρ A)
  | true=>refine bg<|bg (Ye A (λy q F=>?_) λ_ _ z=>z.elim);refine bg (Ye F (λ_ r G=>?_) λ_ _ z=>z.elim);exact dr<|dr<|afZ ρ G
theorem xP(env):∀(names:List (eS×abj)) (cs:List (eS×dk)),(∀y∈names,y.2=.free->∃c,env.cells.lookup y.1=ac c) ->
  (∀x c,cs.lookup x=ac c->env.cells.lookup x=ac c) ->
  ∃d:List (eS×dk),(forIn names cs (λ(x:eS×abj) (r:List (eS×dk))=>if (x.2==Z6)=bd then (do let a <-cellOf env x.1;pure (ac4 ((x.1,a)::r))) else pure (ac4 r)):Sem (List<|eS×dk))=pure d /\
   (∀x c,d.lookup x=ac c->env.cells.lookup x=ac c)/\(∀x,(cs.lookup x).isSome=bd->(d.lookup x).isSome=bd)/\∀y∈names,y.2=.free->(d.lookup y.1).isSome=bd
 | [],cs,_,g=>⟨cs,⋯,g,λ_ h=>h,λ_ h=>by simp at h⟩
 | (n,k)::r,cs,m,g=>by
  have o:∀y∈r,y.2=.free->∃c,env.cells.lookup y.1=ac c:=λy b=>m y<|f6 _ b;by_cases u:k=.free
  ·subst u;obtain⟨c,v⟩:=m (n,.free) fk ρ;have p:∀x q,((n,c)::cs).lookup x=ac q->env.cells.lookup x=ac q:=by grind
   obtain⟨d,t,i,e,j⟩:=xP env r ((n,c)::cs) o p;refine⟨d,?_,i,λx z=>e x ?_,λy b l=>?_⟩
   ·rw[aaP];have f:cellOf env n=pure c:=by unfold cellOf;rw[v]
    simp only[if_true,f,pure_bind];exact t
   ·rw[Yq];cases x==n<;>simp[z]
   rcases eW.1 b with rfl|b
   ·exact e _ (by simp[Yq])
   exact j y b l
  obtain⟨d,t,i,e,j⟩:=xP env r cs o g;refine⟨d,?_,i,e,λy b l=>?_⟩;simp_all;rcases eW.1 b with rfl|b;simp_all;exact j y b l
def E7 (h:∀y∈scope.names,y.2=.free->∃c,env.cells.lookup y.1=ac c) :
  ∃a,closureFor scope env=pure a/\(∀x c,a.lookup x=ac c->env.cells.lookup x=ac c)/\∀y∈scope.names,y.2=.free->(a.lookup y.1).isSome=bd:=by
 obtain⟨a,b,d,_,f⟩:=xP env scope.names [] h<|λ_ _ e=>by simp at e
 refine⟨a,?_,d,f⟩;dsimp only[closureFor];simp only[<-b];simp only[bind_pure]
theorem pU [BEq a][LawfulBEq a]:∀{l:List (a×b)}{x:a}{k:b},l.lookup x=ac k->(x,k)∈l
 | [],_,_,h=>by simp at h
 | (n,k')::r,x,k,h=>by
  rw[Yq] at h;cases c:x==n with
  | true=>simp_all
  | false=>rw[c] at h;exact f6 _<|pU h
theorem y8(env:Env):∀(names:List (eS×abj)) (x:eS),
  (names.map λ(n,k)=>if (k==Z6&&env.scope.kind==.function&&env.kindOf n==some .cell) then (n,adC) else (n,k)).lookup x =
   (names.lookup x).map λk=>if (k==Z6&&env.scope.kind==.function&&env.kindOf x==some .cell) then adC else k
 | [],_=>rfl
 | (n,k)::r,x=>by
  rw[hS];cases b:x==n with
  | true =>
   have e:x=n:=by simpa using b
   subst e;by_cases a:(k==Z6&&env.scope.kind==.function&&env.kindOf x==some .cell)=bd
   ·simp only[a,if_true,Yq,beq_self_eq_true,u3]
   simp only[a,if_false,Yq,beq_self_eq_true,u3,kB]
  | false =>
   have c:=y8 env r x;by_cases a:(k==Z6&&env.scope.kind==.function&&env.kindOf n==some .cell)=bd
   ·simp only[a,if_true,Yq,b];exact c
   simp only[a,if_false,Yq,b,kB];exact c
def Qo (h:scope.names.lookup x=some .free):(ab0 scope env).names.lookup x=some .cell\/(ab0 scope env).names.lookup x=some .free:=by
 delta ab0;simp only[y8,h];simp only[u3];split
 ·exact ι ρ
 exact τ ρ
theorem KW (a:∀y∈scope.names,y.2≠.cell)(h:(ab0 scope env).names.lookup x=some .cell\/(ab0 scope env).names.lookup x=some .free):scope.names.lookup x=some .free:=by
 unfold ab0 at h;rw[y8] at h;cases e:scope.names.lookup x with
 | none=>simp_all
 | some k=>have hm:=a _<|pU e;grind
def cg(X:Cx)(NB:List eS)(scope:YD)(b:List (eS×dk))(C:dk)(a:cW)(H:Hp)(c:List dk):Cx :=
 {X with N:=NB,eP:=a,su:=H,env:=compEnvC scope b C X.env,outer:=X.stack,ex:=c,fn:=λ_=>false,pn:=[],xe:=λ_ _=>False}
noncomputable def fB(caps:List (Option Nat))(σ:St):St:=caps.map λo=>o.bind λj=>(σ[j]?).join
noncomputable def gJ(N NB:List eS)(a:YD)(caps:List (Option Nat)):Bool :=
 caps.length==NB.length&&(gD caps.length).all λi=>match caps[i]? with
  | some (ac j)=>(match NB[i]?,N[j]? with|some x,ac y=>x==y&&a.names.lookup x==some .free|_,_=>false)
  | _=>true
def Kn (h:gJ N NB a caps=bd):(fB caps σ).length=NB.length:=by delta gJ at h;rw[fv] at h;simp[fB];simpa using h.1
theorem N6{N NB:List eS}{b:YD}{σ:St}{caps:List (Option Nat)}{i:Nat}{x:eS}{v:V}(h:gJ N NB b caps=bd)(f:NB[i]?=ac x)(a:(fB caps σ)[i]?=ac (ac v)) :
  b.names.lookup x=some .free/\∃j:Nat,N[j]?=ac x/\σ[j]?=ac (ac v)/\caps[i]?=ac (ac j):=by
 unfold gJ at h;rw[fv] at h;unfold fB at a;rw[c6] at a;cases e:caps[i]? with
 | none=>rw[e] at a;exact nO a
 | some o =>
  rw[e] at a;cases o with
  | none=>cases a
  | some j =>
   have c:=(cm.1 e).1;have q:=iN.1 h.2 i<|iW.2 c;rw[e] at q;dsimp only at q;rw[f] at q;cases d:N[j]? with
   | none=>simp_all
   | some y =>
    rw[d] at q;simp only[fv] at q;have g:x=y:=by simpa using q.1
    subst g;refine⟨by simpa using q.2,j,d,?_,rfl⟩;simp at a;cases k:σ[j]? with
    | none=>rw[k] at a;exact nO a
    | some z=>simp_all
structure i7 (sc:YD) (scope:YD):Prop where
 kind:scope.kind=.function
 Gx:∀y∈scope.names,y.2≠.cell
 loc:∀y∈scope.names,y.2=.local->scope.names.lookup y.1=some .local
 free:∀y∈scope.names,y.2=.free->sc.names.lookup y.1=some .cell\/sc.names.lookup y.1=some .free
def Mr (I:Inv X pins σ H s)(S:i7 X.env.scope scope)(f:gJ X.N NB scope caps=bd)(a:∀x c,B.lookup x=ac c->X.env.cells.lookup x=ac c)(t:∀y∈scope.names,y.2=.free->(B.lookup y.1).isSome=bd)(Q:d.Ns s.heap.objs.size λ_=>al)(keep:∀b o,s.heap.get? b=ac o->d.get? b=ac o)(g:∀b∈O,i9 X pins H b/\b<s.heap.objs.size) :
  Inv (cg X NB scope B s.heap.objs.size s H O) [] (fB caps σ) H {s with heap:=d,toks:=tk}:=by
 have hC:X.env.locals<s.heap.objs.size:=I.lt;refine⟨⟨I.ok.mod,?_,I.ok.glob,I.ok.blt,eK _,λx y c C D=>?_,λx V=>?_,λx c h=>?_,I.ok.hd,I.ok.frames,ι ρ,λb n=>?_,λb o e=>?_,nE I.ok.la I.sz,λb o e n=>?_,λb n W=>?_,I.stack,I.BB⟩,
  ρ,I.bare,Un.kept keep,⟨_,Q,λi x v C D h3=>?_⟩,λx c h=>?_,I.au.fresh<|eK _,λx c h=>?_,λp Y=>absurd (show p∈([]:List (dk×z5)) from Y) ⋯,I.au.kept keep,Kn f⟩
 ·exact S.kind
 ·exact I.ok.inj x y c (a x c C)<|a y c D
 ·have q:=KW S.Gx V;exact aae.1<|t _ (pU q) ρ
 ·exact absurd h (by show ¬(false=bd);simp)
 ·obtain⟨⟨R,F,G,J,L,T⟩,lt⟩:=g b n;exact⟨hG lt,λx c e=>L x c<|a x c e⟩
 ·exact I.bs b o e
 ·obtain⟨⟨R,F,G,J,L,T⟩,lt⟩:=g b n;rcases J with z|z
  ·exact I.ok.rL b o e z
  exact absurd (kH (kH (fj e) I.ok.la) z)<|uz _
 ·obtain⟨⟨R,F,G,J,L,T⟩,lt⟩:=g b n;rcases eW.1 (I.uv b W) with z|z
  ·exact F z
  exact G z
 ·obtain⟨q,j,Z,e2,_⟩:=N6 f C D;obtain⟨m,hn,hl⟩:=I.loc;have hk:=S.free _ (pU q) ρ;have hv:cx X.env.scope x:=τ hk;obtain⟨u,r,l⟩:=hl j x v Z e2 hv;refine⟨u,r,τ ⟨Qo q,?_⟩⟩;obtain⟨c,U⟩:=aae.1<|t _ (pU q) ρ;refine⟨c,U,?_⟩;rcases l with⟨k,_⟩|⟨_,c',A,z⟩
  ·have k:X.env.scope.names.lookup x=some .local:=k;simp_all
  rw[a x c U] at A;obtain rfl:=sO A;obtain⟨o,M,hd⟩:=z;exact⟨o,keep c o M,hd⟩
 ·obtain⟨v,o,M,hd⟩:=I.cell x c<|a x c h;exact⟨v,o,keep c o M,hd⟩
 exact I.gY x c<|a x c h
def PF(X:Cx)(ifs:List hE)(t:TT):Prop :=
 ∀(pins:List (dk×z5)) (s:cW) (σ:St) (H:Hp) (Q:Bool->Hp->Prop),Inv X pins σ H s->t σ H Q ->
  g8 (hQ X.prog X.w) X.A (BC ifs X.env) (TP X pins σ Q) X.xe s
def Nu:TT:=λ_ H Q=>Q true H
def Qk:PF X [] Nu:=λ_ _ _ H _ I h=>wpAny_tests_nil ⟨H,I,h⟩
def Je (h:PT X c t):PF X [c] t:=λpins s σ H Q I a=>wpAny_tests_one<|h pins s σ H Q I a
def uV(caps:St->St)(l:TI)(g:TG)(tc:TT)(te:TE):TE:=fun σ H Q=>l σ H λJ h=>∀D,h D=al->∃W:Nat->Nat->St->Hp->Prop,
 (∃m,W 0 m (caps σ)<|upd h D<|.L [])/\∀i m e c,W i m e c ->
  (J.stop i c/\Q (.ref D) c)\/(J.go i c/\∀x f,J.mB i c x f->g x e f λa n=>tc a n λb j =>
   if b=bd then te a j λy k=>∃ys,k D=ac (.L ys)/\ys.length<cA/\∃d,d<m/\W (i+1) d a (upd k D<|.L<|ys++[y])
   else ∃d,d<m/\W (i+1) d a j)
theorem EM{caps:List (Option Nat)}{elt iter tg:hE}{ifs:List hE}{pos:y4}{it:dk}{f:List dk}{Y:Nat->nL->Prop}{J:It}{j:Hp}{g:TG}{tc:TT}{te:TE}{k:List (eS×dk)}{Q:VK}{RR:cn->dk->acp->cW->Prop}
 (I2:Inv X pins σ j s₂)(T:Turn X.prog X.w X.K tg J f it Y)(Vh:Y 0 s₂.heap)(f2:∀b∈f,i9 X pins j b)(hc:X.calm=bd)(S:i7 X.env.scope scope)(Vr:gJ X.N NB scope caps=bd)
 (Vi:∀x c,k.lookup x=ac c->X.env.cells.lookup x=ac c)(VC:∀y∈scope.names,y.2=.free->(k.lookup y.1).isSome=bd)
 (h:∀(k:List (eS×dk)) (C:dk) (a:cW) (H:Hp) (f:List dk),PG (cg X NB scope k C a H f) tg g/\PF (cg X NB scope k C a H f) ifs tc/\PE (cg X NB scope k C a H f) elt te)
 (hW:∀D,j D=al->∃W:Nat->Nat->St->Hp->Prop,(∃m,W 0 m (fB caps σ)<|upd j D<|.L [])/\∀i m I l,W i m I l ->
   (J.stop i l/\Q (.ref D) l)\/(J.go i l/\∀x Vj,J.mB i l x Vj->g x I Vj λR j=>tc R j λb H3 =>
    if b=bd then te R H3 λy H4=>∃ys,H4 D=ac (.L ys)/\ys.length<cA/\∃G,G<m/\W (i+1) G R (upd H4 D<|.L<|ys++[y])
    else ∃G,G<m/\W (i+1) G R H3))
 (VF:∀D C l s' m,Inv X pins σ l s'->s'.heap.Ns C m->i9 X pins l C->Q (.ref D) l->RR (.ref D) C (.ok .next) s') :
  g8 (hQ X.prog X.w) X.A (newList []) (λVk a=>g8 (hQ X.prog X.w) X.A (newFunctionEnv scope X.env.globals k [] X.env.qual none .none<|ac X.env) (λU7 M =>
   ZV (hQ X.prog X.w) X.A (.compStart (.ListComp elt [⟨tg,iter,ifs,0⟩] scope pos) 0 (.ref it) Vk {U7 with scope:=ab0 scope X.env}) (RR Vk U7.locals) M) E a) E s₂:=by
 refine rp<|wpAny_newFunctionEnv S.Gx (by intro y hy;simp at hy) (λt B F=>?_) S.kind;have I3:Inv X pins σ (upd j s₂.heap.objs.size<|.L []) {s₂ with heap:=s₂.heap.push {cls:=.type "list",data:=.seq ([]:List cn).toArray},toks:=s₂.toks} :=
  I2.vd .nil (pe _)
 obtain⟨W,⟨m0,w0⟩,hW⟩:=hW s₂.heap.objs.size I2.fresh;generalize U8:({s₂ with heap:=s₂.heap.push {cls:=.type "list",data:=.seq ([]:List cn).toArray},toks:=s₂.toks}:cW)=a at I3;have U9:=congrArg (·.heap) U8;have et3:=congrArg (·.toks) U8;have hsz:s₂.heap.objs.size<a.heap.objs.size:=by rw[<-U9,Z7];exact Y5 _
 (try rw[U9] at B F)
 have keep:∀b o,a.heap.get? b=ac o->t.get? b=ac o:=λb o e=>F.extBut b o (hG<|fj e)<|ee _ e;have VG:∀b o,s₂.heap.get? b=ac o->a.heap.get? b=ac o:=λb o e=>by rw[<-U9];exact ee _ e
 have U:∀b∈f,i9 X pins (upd j s₂.heap.objs.size<|.L []) b/\b<a.heap.objs.size:=λb h=>by obtain⟨o,e,_⟩:=T.obj _ _ Vh b h;have lt:=fj e;exact⟨⟨by rw[aA (hG lt)];exact (f2 b h).1,(f2 b h).2⟩,Y4 lt hsz⟩
 have VH:=T.keep _ _ _ Vh λb _ o e=>keep b o<|VG b o e;have VI:=B;have IB:Inv (cg X NB scope k a.heap.objs.size a (upd j s₂.heap.objs.size<|.L []) f) [] (fB caps σ) (upd j s₂.heap.objs.size<|.L []) {a with heap:=t,toks:=a.toks+([]:List (eS×cn)).length} :=
  Mr I3 S Vr Vi VC VI keep U
 have qJ:Y 0 ({a with heap:=t,toks:=a.toks+([]:List (eS×cn)).length}:cW).heap:=VH;generalize ({a with heap:=t,toks:=a.toks+([]:List (eS×cn)).length}:cW)=M at IB qJ ⊢;have U':∀{l:Hp},(∀b∈f,l b=al)->∀b∈f,i9 (cg X NB scope k a.heap.objs.size a (upd j s₂.heap.objs.size<|.L []) f) [] l b:=λhn b h=>by
  obtain⟨⟨f0,f1,Vl,f3,f4,f5⟩,lt⟩:=U b h;refine⟨hn b h,hG lt,λhm=>?_,ι h,λx c e=>f4 x c<|Vi x c e,λp hp=>absurd (show p∈([]:List (dk×z5)) from hp) ⋯⟩;rcases eW.1 (I2.uv b hm) with z|z
  ·exact f1 z
  exact Vl z
 obtain⟨bG,bF,bE⟩:=h k a.heap.objs.size a (upd j s₂.heap.objs.size<|.L []) f;have Vb:ZV (hQ X.prog X.w) X.A (.compLoop (.ListComp elt [⟨tg,iter,ifs,0⟩] scope pos) 0 (.ref it) (.ref s₂.heap.objs.size)<|compEnvC scope k a.heap.objs.size X.env) (RR (.ref s₂.heap.objs.size) a.heap.objs.size) M:=by
  refine Th (λn s'=>∃i I l,Inv (cg X NB scope k a.heap.objs.size a (upd j s₂.heap.objs.size<|.L []) f) [] I l s'/\Y i s'.heap/\(∀b∈f,l b=al)/\W i n I l) ?_ m0
   ⟨0,_,_,IB,qJ,λb h=>(U b h).1.1,w0⟩
  rintro n s5 ⟨i,V,H5,I5,Vm,Vn,w5⟩;rcases hW i n V H5 w5 with⟨stop,q⟩|⟨go,step⟩
  ·refine aH (T.done (cg X NB scope k a.heap.objs.size a (upd j s₂.heap.objs.size<|.L []) f) ρ ρ ρ hc i [] s5 V H5 (λ_ _=>False) I5 (U' Vn) Vm stop) λr s6 h=>?_;obtain⟨hr,Z⟩:=h;subst hr;obtain⟨m,hn,_⟩:=Z.loc;refine VF _ _ H5 s6 m ?_ hn (I3.ko (eK _) Z.free) q;refine I3.IP Z.os Z.base Z.au Z.bare λb h=>?_;obtain⟨⟨f0,f1,Vl,f3,f4,f5⟩,lt⟩:=U b h;exact⟨f3,f1,f4,f5⟩
  refine aH (T.item (cg X NB scope k a.heap.objs.size a (upd j s₂.heap.objs.size<|.L []) f) ρ ρ ρ hc i [] s5 V H5 (λ_ _=>False) I5 (U' Vn) Vm go) λr s6 h=>?_;obtain⟨u,hr,h6⟩:=h;subst hr;refine aH h6 λ_ s7 h=>?_;obtain⟨x,H7,I7,r7,y7,Vc,VS⟩:=h;have VT:=I7.pinned (U' VS)<|T.obj _ _ Vc;have back:∀{Vd:St}{O:Hp}{s9:cW},Inv (cg X NB scope k a.heap.objs.size a (upd j s₂.heap.objs.size<|.L []) f) ([]++pQ f s7.heap) Vd O s9 ->
    Inv (cg X NB scope k a.heap.objs.size a (upd j s₂.heap.objs.size<|.L []) f) [] Vd O s9/\Y (i+1) s9.heap/\∀b∈f,O b=al:=λ{Vd O s9} I9=>by
   refine⟨I9.ug,T.keep _ _ _ Vc λb h o e=>(I9.pin (b,o)<|r0 _<|r0 _<|uG h e).1,λb h=>?_⟩;obtain⟨o,e,d⟩:=T.obj _ _ Vc b h;exact (I9.pin (b,o)<|r0 _<|r0 _<|uG h e).2.1
  refine aH (bG _ s7 V H7 x u _ VT r7<|step x H7 y7) λ_ s8 h=>?_;obtain⟨L,H8,I8,q8⟩:=h;refine aH (bF _ s8 L H8 _ I8 q8) λok s9 h=>?_;obtain⟨O,I9,q9⟩:=h;cases ok with
  | false=>obtain⟨G,hm,w9⟩:=q9;obtain⟨a1,a2,a3⟩:=back I9;exact⟨G,hm,i+1,L,O,a1,a2,a3,w9⟩
  | true=>refine aH (bE _ s9 L O _ I9 q9) λv VV h=>?_;obtain⟨y,Vo,VW,VX,ys,hD,hz,G,hm,VY⟩:=h;refine aH (FN _ VV L Vo (.ref s₂.heap.objs.size) [y] (.ref s₂.heap.objs.size) [v] (λ_ Vp=>Vp=upd Vo s₂.heap.objs.size (.L<|ys++[y])) VW ρ (.cons VX .nil) ⟨_,ys,y,ρ,ρ,hD,hz,ρ⟩) λ_ s11 h=>?_;obtain⟨_,Vp,VZ,_,V0⟩:=h;subst V0;obtain⟨a1,a2,a3⟩:=back VZ;exact⟨G,hm,i+1,L,_,a1,a2,a3,VY⟩
 exact codeAny_compStart_list Vb<|T.self _ 0 _ _ _ qJ Vb
end
section
variable{X:Cx}{NB:List eS}{caps:List (Option Nat)}{scope:YD}{elt iter tg:hE}{ifs:List hE}{pos:y4}{wi:TI}{g:TG}{tc:TT}{te:TE}{P:hY}{w:nR}{H:Hp}{h h':nL}{a:dk}{o:HO}{pins:List (dk×z5)}{σ:St}{s:cW}{K:f'}{H':Hp}{H0:Hp×Hp}{Hi:Hp}{ps:Nat->Option dk}{Z:DS}
def Ct(B:X.calm=bd)(S:i7 X.env.scope scope)(j:gJ X.N NB scope caps=bd)(E:PI X tg iter wi)
 (k:∀(d:List (eS×dk)) (C:dk) (c:cW) (H:Hp) (f:List dk),PG (cg X NB scope d C c H f) tg g/\PF (cg X NB scope d C c H f) ifs tc/\PE (cg X NB scope d C c H f) elt te)
 (hs:∀x,um iter X.env x=pure x:=by intro _;rfl):PE X (.ListComp elt [⟨tg,iter,ifs,0⟩] scope pos) (uV (fB caps) wi g tc te):=by
 intro pins s σ H Q I h;obtain⟨d,i,r,t⟩:=E7<|λy F l=>I.ok.has y.1<|S.free y F l;refine ac6 ρ hs i S.kind S.loc (aH (E pins s σ H _ I h) λxv s₁ n=>aH n λitv s₂ p=>?_);obtain⟨it,f,tn,J,H2,rfl,G,T,u,L,M⟩:=p;apply EM G T u L B S j r t k M;intro D C H' s' m O R l q;refine⟨m,R,λh' z=>⟨.ref D,H',?_,ρ,q⟩⟩;obtain⟨U,V,f2',W,Y,f5⟩:=l;exact O.turned (λb o k e=>(z.2 b k).trans e) U V W Y f5
def UN (hN:X.N.Nodup)(F:X.N[i]?=ac y)(n:Loc X.env.scope y)(hc:X.calm=bd)(S:i7 X.env.scope scope)(p:gJ X.N NB scope caps=bd)(hi:PI X tg iter wi)(r:∀(j:List (eS×dk)) (C:dk) (c:cW) (H:Hp) (k:List dk),PG (cg X NB scope j C c H k) tg g/\PF (cg X NB scope j C c H k) ifs tc/\PE (cg X NB scope j C c H k) elt te)(G:HT (.ListComp elt [⟨tg,iter,ifs,0⟩] scope pos) (ac<|.Name y py) d.line X.env=pure true)(hs:∀x,um iter X.env x=pure x:=by intro _;rfl)(t:X.fn y=bd\/X.env.scope.names.lookup y=some .local:=by first|exact ι ρ|exact τ ρ|assumption) :
  PS X (.Assign [.Name y py] (.ListComp elt [⟨tg,iter,ifs,0⟩] scope pos) d) (vJ (uV (fB caps) wi g tc te)<|uR i):=by
 intro pins s σ H D I h;obtain⟨j,l,L,M⟩:=E7<|λy n t=>I.ok.has y.1<|S.free y n t;rw[exec_Assign_Name_used _ _ _ _ G];refine bg<|abI<|bg ?_;show g8 _ X.A (do let _ <-comprehension (.ListComp elt [⟨tg,iter,ifs,0⟩] scope pos) scope X.env _ (newList []) false (eval iter X.env) (ac<|ZR (.Name y py) X.env)) _ _ s;refine bg (Ye (ac6 ρ hs l S.kind S.loc (aH (hi pins s σ H _ I h) λxv s₁ u=>aH u λitv s₂ B=>?_)) (λ_ s' hq=>dr<|dr hq) λ_ _ e=>e);obtain⟨it,k,tn,J,H2,rfl,I2,T,O,f2,hW⟩:=B;apply EM (Q:=λx H1=>uR i x σ H1 D.nx) I2 T O f2 hc S p L M r hW;intro U C H' s' m I' hn V q;obtain⟨f0,W,f2',f3,Y,f5⟩:=V;refine aeG<|AO (v:=.ref U) I' hN F n ρ (λbe U6 f=>?_) t;obtain⟨a,f,ha⟩:=f;have U7:C≠a:=by
  rintro rfl;rcases ha with z|z
  ·exact W z
  exact Y _ _ z ρ
 refine⟨m,hn.sameBut f U7,λh' E=>?_⟩;exact⟨_,H',U6.turned (λb o r e=>(E.2 b r).trans e) f0 W f3 Y f5,q⟩
theorem cF.alive(x:cF P w H h a o):∃u,h.get? a=ac u:=by
 cases o with
 | L xs=>obtain⟨z,its,n,r,e⟩:=x;exact⟨_,e⟩
 | U xs=>obtain⟨z,its,r,b,e,c⟩:=x;exact⟨_,e⟩
 | dK kvs=>obtain⟨z,y,vs,r,b,i,ep,e,c⟩:=x;exact⟨_,e⟩
 | dT kvs=>obtain⟨z,y,xs,r,b,i,ep,e,c⟩:=x;exact⟨_,e⟩
 | set S n=>obtain⟨b,i,ep,t,e,c⟩:=x;exact⟨_,e⟩
 | ins C dx fs=>obtain⟨d,z,ne,e,j,_⟩:=x;exact⟨_,e⟩
 | O y=>exact x
 | xd fs=>obtain⟨j,⟨od,i,ep,e,c⟩,r⟩:=x;exact⟨_,e⟩
 | sh lo hi=>obtain⟨t,u,v,e⟩:=x;exact⟨_,e⟩
 | bq b u=>obtain⟨e,q⟩:=x;exact⟨_,e⟩
 | lG ps=>exact⟨_,x⟩
 | met f y=>exact⟨_,x⟩
 | ext φ=>obtain⟨p,e,st⟩:=x;exact e
def cb.tracked(x:cb P w H h)(k:∀b u,H b≠al->h.get? b=ac u->h'.get? b=ac u):cb P w H h':=λc d e =>
 (x c d e).gp (λb u f q=>k b u (by
  rcases f with z|z
  ·rw[z,e];simp
  rw[z];simp) q) (λ_ q=>q) λ_ _ q=>q
theorem cb.dead(x:cb P w H h)(e:h.get? a=al):H a=al:=by
 cases q:H a with
 | none=>rfl
 | some u=>obtain⟨v,z⟩:=(x a u q).alive;rw[e] at z;exact nO z
structure Flt (av:List dk) (H:Hp) (h₀:nL) (a:dk) (cls fl:cn) (h:nL):Prop where
 ex:∃(a0:cn) (T:dk) (oe oT:z5) (vs ts:Array cn),h.get? a=ac oe/\oe.cls=cls/\oe.data=.fields vs/\vs[0]?=ac a0/\vs[1]?=ac (.ref T)/\T≠a/\h.get? T=ac oT/\oT.data=.fields ts/\ts[3]?=ac fl/\H T=al/\h₀.get? T=al/\T∉av
 na:H a=al
 nw:h₀.get? a=al
 nv:a∉av
abbrev Sw(X:Cx)(pins:List (dk×z5)):List Addr:=(X.pn++pins).map (·.1)
def Uk(X:Cx)(σ:St)(b:cn)(a:dk)(H:Hp):Prop:=∀(pins:List (dk×z5)) (s:cW),Inv X pins σ H s->Flt (Sw X pins) H X.eP.heap a b .none s.heap->X.xe (.ref a) s
def QX(X:Cx)(σ:St)(C:dk)(H:Hp):Prop:=∀(pins:List (dk×z5)) (s:cW) (h':nL) (a:dk) (vs:List cn),Inv X pins σ H s->Heap.MadeExcOf s.heap h' a (.ref C) vs->X.xe (.ref a) {s with heap:=h'}
def Mf(a:dk)(cls:cn)(h:nL):Prop:=∃o vs,h.get? a=ac o/\o.cls=cls/\o.data=.fields vs
noncomputable def excAt(a:dk)(b:cn):HO:=.ext<|Mf a b
inductive Dat where
 | aQ|bl (b:Bool)|int (i:Int)|str (x:eS)
 | U (xs:List Dat)|L (xs:List Dat)|bC (ks:List (eS×Dat))
 | exc (C:dk)
 | ins (C:dk×dk) (fs:List (eS×Dat))
 | cv (ns:List Int)
 | adr (p:dk)
 /-- a dict that is gone through: its object stays as it is -/
 | dn (ks:List (eS×Dat))
 /-- a dict whose keys are tuples of texts;fz: gone through,its object stays as it is -/
 | bj (fz:Bool) (ks:List (List eS×Dat))
mutual
/-- the value v is the datum d,over the heap H (and the module's own objects) -/
def Rep(K:f')(H:Hp):Dat->V->Prop
 | .aQ,v=>v=.aQ
 | .bl b,v=>v=.bl b
 | .int i,v=>v=.int i
 | .str x,v=>v=.str x
 | .U ds,v=>∃p vs,v=.ref p/\ba K H p vs/\ay K H ds vs
 | .L ds,v=>∃p vs,v=.ref p/\Rd H p (.L vs)/\ay K H ds vs
 | .bC c,v=>∃p kvs,v=.ref p/\H p=ac (.dK kvs)/\bJ K H c kvs
 | .exc C,v=>∃p,v=.ref p/\H p=ac (excAt p<|.ref C)
 | .ins C fs,v=>∃p e vs,v=.ref p/\H p=ac (.ins C.1 e vs)/\nz K H fs vs/\p=C.2
 | .cv ns,v=>∃p,v=.ref p/\cu K H p (ns.map V.int)
 | .adr p,v=>v=.ref p
 | .dn c,v=>∃p o kvs,v=.ref p/\H p=ac (.bq o<|.dK kvs)/\bJ K H c kvs
 | .bj f c,v=>∃p o kvs,v=.ref p/\H p=ac (if f then .bq o (.dT kvs) else .dT kvs)/\bX K H c kvs
def ay(K:f')(H:Hp):List Dat->List V->Prop
 | [],vs=>vs=[]
 | d::ds,vs=>∃v r,vs=v::r/\Rep K H d v/\ay K H ds r
def bJ(K:f')(H:Hp):List (eS×Dat)->List (Key×V)->Prop
 | [],kvs=>kvs=[]
 | (k,d)::c,kvs=>∃v r,kvs=(uy k,v)::r/\Rep K H d v/\bJ K H c r
def bX(K:f')(H:Hp):List (List eS×Dat)->List (List Key×V)->Prop
 | [],kvs=>kvs=[]
 | (k,d)::c,kvs=>∃v r,kvs=(k.map uy,v)::r/\Rep K H d v/\bX K H c r
def nz(K:f')(H:Hp):List (eS×Dat)->List (eS×V)->Prop
 | [],kvs=>kvs=[]
 | (k,d)::c,kvs=>∃v r,kvs=(k,v)::r/\Rep K H d v/\nz K H c r
end
def ba.mono (s:aj H H')(h:ba K H p vs):ba K H' p vs:=by
 rcases h with (h|⟨o,h⟩)|h
 ·exact ι<|ι<|s _ _ h
 ·exact ι<|τ ⟨o,s _ _ h⟩
 exact τ h
def cu.mono (s:aj H H')(h:cu K H p vs):cu K H' p vs:=by
 rcases h with (h|⟨o,h⟩)|h
 ·exact ι<|ι<|s _ _ h
 ·exact ι<|τ ⟨o,s _ _ h⟩
 exact τ h
def Rd.mono (s:aj H H')(h:Rd H p u):Rd H' p u:=by
 rcases h with h|⟨o,h⟩
 ·exact ι<|s _ _ h
 exact τ ⟨o,s _ _ h⟩
mutual
theorem Rep.mono(s:aj H H'):∀{d:Dat}{v:V},Rep K H d v->Rep K H' d v
 | .aQ,_,h=>h
 | .bl _,_,h=>h
 | .int _,_,h=>h
 | .str _,_,h=>h
 | .U _,_,h=>by obtain⟨p,vs,e,q,r⟩:=h;exact⟨p,vs,e,ba.mono s q,ay.mono s r⟩
 | .L _,_,h=>by obtain⟨p,vs,e,q,r⟩:=h;exact⟨p,vs,e,Rd.mono s q,ay.mono s r⟩
 | .bC _,_,h=>by obtain⟨p,kvs,e,q,r⟩:=h;exact⟨p,kvs,e,s _ _ q,bJ.mono s r⟩
 | .exc _,_,h=>by obtain⟨p,e,q⟩:=h;exact⟨p,e,s _ _ q⟩
 | .ins _ _,_,h=>by obtain⟨p,c,vs,e,q,r,z⟩:=h;exact⟨p,c,vs,e,s _ _ q,nz.mono s r,z⟩
 | .cv _,_,h=>by obtain⟨p,e,q⟩:=h;exact⟨p,e,cu.mono s q⟩
 | .adr _,_,h=>h
 | .dn _,_,h=>by obtain⟨p,o,kvs,e,q,r⟩:=h;exact⟨p,o,kvs,e,s _ _ q,bJ.mono s r⟩
 | .bj _ _,_,h=>by obtain⟨p,o,kvs,e,q,r⟩:=h;exact⟨p,o,kvs,e,s _ _ q,bX.mono s r⟩
theorem ay.mono(s:aj H H'):∀{ds:List Dat}{vs:List V},ay K H ds vs->ay K H' ds vs
 | [],_,h=>h
 | _::_,_,h=>by obtain⟨v,r,e,q,t⟩:=h;exact⟨v,r,e,Rep.mono s q,ay.mono s t⟩
theorem bJ.mono(s:aj H H'):∀{b:List (eS×Dat)}{kvs:List (Key×V)},bJ K H b kvs->bJ K H' b kvs
 | [],_,h=>h
 | (_,_)::_,_,h=>by obtain⟨v,r,e,q,t⟩:=h;exact⟨v,r,e,Rep.mono s q,bJ.mono s t⟩
theorem bX.mono(s:aj H H'):∀{b:List (List eS×Dat)}{kvs:List (List Key×V)},bX K H b kvs->bX K H' b kvs
 | [],_,h=>h
 | (_,_)::_,_,h=>by obtain⟨v,r,e,q,t⟩:=h;exact⟨v,r,e,Rep.mono s q,bX.mono s t⟩
theorem nz.mono(s:aj H H'):∀{b:List (eS×Dat)}{kvs:List (eS×V)},nz K H b kvs->nz K H' b kvs
 | [],_,h=>h
 | (_,_)::_,_,h=>by obtain⟨v,r,e,q,t⟩:=h;exact⟨v,r,e,Rep.mono s q,nz.mono s t⟩
end
theorem ay.length:∀{ds:List Dat}{vs:List V},ay K H ds vs->vs.length=ds.length
 | [],_,h=>by rw[show _=[] from h];rfl
 | _::_,_,⟨v,r,e,q,t⟩=>by rw[e,gW,gW,ay.length t]
theorem ay.append:∀{ds b:List Dat}{vs c:List V},ay K H ds vs->ay K H b c->ay K H (ds++b) (vs++c)
 | [],_,_,_,h,h'=>by rw[show _=[] from h];exact h'
 | _::_,_,_,_,⟨v,r,e,q,t⟩,h'=>⟨v,r++_,by rw[e];rfl,q,ay.append t h'⟩
theorem ay.get{ds:List Dat}{vs:List V}{i:Nat}{d:Dat}(h:ay K H ds vs)(e:ds[i]?=ac d):∃v,vs[i]?=ac v/\Rep K H d v:=by
 induction ds generalizing vs i with
 | nil=>simp at e
 | cons _ _ b =>
  obtain⟨v,r,rfl,q,t⟩:=h;cases i with
  | zero=>simp at e;subst e;exact⟨v,ρ,q⟩
  | succ i=>exact b (vs:=r) (i:=i) t (by simpa using e)
theorem ay.set{ds:List Dat}{vs:List V}{d:Dat}{v:V}(i:Nat)(h:ay K H ds vs)(q:Rep K H d v):ay K H (ds.set i d) (vs.set i v):=by
 induction ds generalizing vs i with
 | nil=>rw[show vs=[] from h];exact ρ
 | cons _ _ b =>
  obtain⟨v,r,rfl,p,t⟩:=h;cases i with
  | zero=>exact⟨_,r,ρ,q,t⟩
  | succ i=>exact⟨v,_,ρ,p,b i t⟩
inductive Slot where
 /-- nothing,data,a list or dict that this frame owns (its content),one that the caller owns and lends -/
 | no|D (d:Dat)|O (d:Dat)|io (d:Dat)
abbrev DS:=List Slot
inductive Res where
 | D (d:Dat)|O (d:Dat)
noncomputable def Res.val:Res->Dat
 | .D d=>d
 | .O d=>d
def cE(K:f')(H Hi:Hp)(p:dk):Dat->Prop
 | .L ds=>∃vs,H p=ac (.L vs)/\ay K Hi ds vs/\Hi p=al
 | .bC b=>∃kvs,H p=ac (.dK kvs)/\bJ K Hi b kvs/\Hi p=al
 | .bj c b=>c=bi/\∃kvs,H p=ac (.dT kvs)/\bX K Hi b kvs/\Hi p=al
 | _=>False
def jD(Hi H:Hp)(p:dk)(o:HO):Prop:=Hi p=ac o\/H p=al\/∃vs,o=.U vs
def gN(ps:Nat->Option dk)(p:dk):Prop:=∃i,ps i=ac p
structure SR (K:f') (H0:Hp×Hp) (ps:Nat->Option dk) (Z:DS) (σ:St) (H Hi:Hp):Prop where
 sub:aj Hi H
 keep:∀b o,H0.1 b=ac o->¬gN ps b->H b=ac o
 fJ:∀p,gN ps p->H p≠al
 D:∀(i:Nat) (d:Dat),Z[i]?=ac (.D d)->∃v,σ[i]?=ac (ac v)/\Rep K Hi d v
 O:∀(i:Nat) (c:Dat),Z[i]?=ac (.O c)->∃p,σ[i]?=ac (ac<|.ref p)/\cE K H Hi p c/\¬gN ps p/\H0.1 p=al
 io:∀(i:Nat) (c:Dat),Z[i]?=ac (.io c)->∃p,σ[i]?=ac (ac<|.ref p)/\cE K H Hi p c/\ps i=ac p
 ne:∀(i j:Nat) (c c':Dat) (p:dk),(Z[i]?=ac (.O c)\/Z[i]?=ac (.io c))->(Z[j]?=ac (.O c')\/Z[j]?=ac (.io c'))->σ[i]?=ac (ac<|.ref p)->σ[j]?=ac (ac<|.ref p)->i=j
 len:Z.length=σ.length
 nw:∀p o,Hi p=ac o->jD H0.2 H0.1 p o
def RR(K:f')(H0:Hp×Hp)(ps:Nat->Option dk)(Z:DS)(σ:St)(H Hi:Hp)(v:V):Res->Prop
 | .D d=>Rep K Hi d v
 | .O c=>∃p,v=.ref p/\cE K H Hi p c/\¬gN ps p/\H0.1 p=al/\∀(i:Nat) (b:Dat),(Z[i]?=ac (.O b)\/Z[i]?=ac (.io b))->σ[i]?≠ac (ac<|.ref p)
theorem cE.some (h:cE K H Hi p c):(∃o,H p=ac o)/\Hi p=al:=by
 cases c with
 | L ds=>obtain⟨vs,e,_,n⟩:=h;exact⟨⟨_,e⟩,n⟩
 | bC b=>obtain⟨vs,e,_,n⟩:=h;exact⟨⟨_,e⟩,n⟩
 | bj fz b=>obtain⟨_,vs,e,_,n⟩:=h;exact⟨⟨_,e⟩,n⟩
 | _=>exact h.elim
theorem cE.nt (h:cE K H Hi p c)(e:H p=Option.some (.U vs)):False:=by
 cases c with
 | L ds=>obtain⟨vs,q,_⟩:=h;simp_all
 | bC b=>obtain⟨vs,q,_⟩:=h;simp_all
 | bj fz b=>obtain⟨_,vs,q,_⟩:=h;simp_all
 | _=>exact h.elim
theorem cE.keeps (h:cE K H Hi p c)(e:H' p=H p)(s:aj Hi b)(n:b p=al):cE K H' b p c:=by
 cases c with
 | L ds=>obtain⟨vs,q,r,_⟩:=h;exact⟨vs,e.trans q,ay.mono s r,n⟩
 | bC d=>obtain⟨vs,q,r,_⟩:=h;exact⟨vs,e.trans q,bJ.mono s r,n⟩
 | bj fz d=>obtain⟨z,vs,q,r,_⟩:=h;exact⟨z,vs,e.trans q,bX.mono s r,n⟩
 | _=>exact h.elim
def jY (h:H p=al):aj H (upd H p o):=λb u e=>by rwa[aA (cZ e h)]
def yk (s:aj Hi H):aj (upd Hi p o) (upd H p o):=λb u e=>by
 by_cases c:b=p
 ·subst c;rw[bb] at e ⊢;exact e
 rw[aA c] at e ⊢;exact s b u e
def C7 (s:aj Hi H)(h:H p=ac o):aj (upd Hi p o) H:=λb u e=>by
 by_cases c:b=p
 ·subst c;rw[bb] at e;exact h.trans e
 rw[aA c] at e;exact s b u e
def sV (s:aj Hi H)(h:Hi p=al):aj Hi (upd H p o):=λb u e=>by rw[aA (cZ e h)];exact s b u e
theorem SR.cX(S:SR K H0 ps Z σ H Hi)(h:H p=al):Hi p=al:=by
 cases e:Hi p with
 | none=>rfl
 | some o=>rw[S.sub _ _ e] at h;contradiction
theorem SR.bz(S:SR K H0 ps Z σ H Hi)(h:H p=al):H0.1 p=al/\¬gN ps p:=by
 have b:¬gN ps p:=λm=>S.fJ p m h;refine⟨?_,b⟩;cases e:H0.1 p with
 | none=>rfl
 | some o=>rw[S.keep _ _ e b] at h;contradiction
def SR.laid(S:SR K H0 ps Z σ H Hi)(h:H p=al):SR K H0 ps Z σ (upd H p o) (upd Hi p o)/\aj Hi (upd Hi p o):=by
 have sm:aj Hi (upd Hi p o):=jY<|S.cX h;have ne:∀{q:dk}{c:Dat},cE K H Hi q c->q≠p:=λf=>cZ f.some.1.choose_spec h;refine⟨⟨yk S.sub,λb u e n=>?_,λq m=>?_,λi d e=>?_,λi c e=>?_,λi c e=>?_,S.ne,S.len,λq u e=>?_⟩,sm⟩
 ·rw[aA (cZ (S.keep b u e n) h)];exact S.keep b u e n
 ·by_cases f:q=p;simp_all [bb];rw[aA f];exact S.fJ q m
 ·obtain⟨v,a,b⟩:=S.D i d e;exact⟨v,a,Rep.mono sm b⟩
 ·obtain⟨q,a,b,j,l⟩:=S.O i c e;exact⟨q,a,b.keeps (aA<|ne b) sm (by rw[aA (ne b)];exact b.some.2),j,l⟩
 ·obtain⟨q,a,b,j⟩:=S.io i c e;exact⟨q,a,b.keeps (aA<|ne b) sm (by rw[aA (ne b)];exact b.some.2),j⟩
 by_cases f:q=p
 ·subst f;exact τ<|ι (S.bz h).1
 rw[aA f] at e;exact S.nw q u e
def SR.made(S:SR K H0 ps Z σ H Hi)(h:H p=al):SR K H0 ps Z σ (upd H p o) Hi:=by
 have j:=S.cX h;have ne:∀{q:dk}{c:Dat},cE K H Hi q c->q≠p:=λd=>cZ d.some.1.choose_spec h;refine⟨sV S.sub j,λb u e n=>?_,λq m=>?_,S.D,λi c e=>?_,λi c e=>?_,S.ne,S.len,S.nw⟩
 ·rw[aA (cZ (S.keep b u e n) h)];exact S.keep b u e n
 ·by_cases d:q=p;simp_all [bb];rw[aA d];exact S.fJ q m
 ·obtain⟨q,a,b,f,k⟩:=S.O i c e;exact⟨q,a,b.keeps (aA<|ne b) (aj.refl _) b.some.2,f,k⟩
 obtain⟨q,a,b,f⟩:=S.io i c e;exact⟨q,a,b.keeps (aA<|ne b) (aj.refl _) b.some.2,f⟩
def SR.dA(S:SR K H0 ps Z σ H Hi)(h:H p=al):∀(i:Nat) (c:Dat),(Z[i]?=ac (.O c)\/Z[i]?=ac (.io c))->σ[i]?≠ac (ac<|.ref p):=by
 rintro i c (e|e) z
 ·obtain⟨q,a,b,_⟩:=S.O i c e;rw[a] at z;cases z;rw[b.some.1.choose_spec] at h;cases h
 obtain⟨q,a,b,_⟩:=S.io i c e;rw[a] at z;cases z;rw[b.some.1.choose_spec] at h;cases h
theorem SR.freeze(S:SR K H0 ps Z σ H Hi)(h:RR K H0 ps Z σ H Hi v r):∃f,SR K H0 ps Z σ H f/\aj Hi f/\Rep K f r.val v:=by
 cases r with
 | D d=>exact⟨Hi,S,aj.refl _,h⟩
 | O c =>
  obtain⟨p,rfl,l,np,y,nd⟩:=h;have go:∀o,H p=ac o->(∃f,f=upd Hi p o/\SR K H0 ps Z σ H f/\aj Hi f):=λo e=>by
   have sm:aj Hi (upd Hi p o):=jY l.some.2;refine⟨_,ρ,⟨C7 S.sub e,S.keep,S.fJ,λi d j=>?_,λi m j=>?_,λi m j=>?_,S.ne,S.len,λq u j=>?_⟩,sm⟩
   ·obtain⟨v,a,b⟩:=S.D i d j;exact⟨v,a,Rep.mono sm b⟩
   ·obtain⟨q,a,b,x,B⟩:=S.O i m j;have k:q≠p:=λz=>nd i m (ι j) (by rw[a,z]);exact⟨q,a,b.keeps ρ sm (by rw[aA k];exact b.some.2),x,B⟩
   ·obtain⟨q,a,b,x⟩:=S.io i m j;have k:q≠p:=λz=>nd i m (τ j) (by rw[a,z]);exact⟨q,a,b.keeps ρ sm (by rw[aA k];exact b.some.2),x⟩
   by_cases k:q=p
   ·subst k;exact τ<|ι y
   rw[aA k] at j;exact S.nw q u j
  cases c with
  | L ds=>obtain⟨vs,e,r,n⟩:=l;obtain⟨f,rfl,t,sm⟩:=go _ e;exact⟨_,t,sm,p,vs,ρ,Rd.of bb,ay.mono sm r⟩
  | bC C=>obtain⟨vs,e,r,n⟩:=l;obtain⟨f,rfl,t,sm⟩:=go _ e;exact⟨_,t,sm,p,vs,ρ,bb,bJ.mono sm r⟩
  | bj fz C=>obtain⟨rfl,vs,e,r,n⟩:=l;obtain⟨f,rfl,t,sm⟩:=go _ e;exact⟨_,t,sm,p,{cls:=.none,data:=.fields #[]},vs,ρ,bb,bX.mono sm r⟩
  | _=>exact l.elim
end
abbrev EF:=DS->Option (Res×DS)
abbrev DF:=DS->Option (Dat×DS)
abbrev BF:=DS->Option (Bool×DS)
abbrev AF:=DS->Option (List Dat×DS)
def Te(K:f')(c:Hp×Hp)(d:Nat->Option dk)(e:St)(g:Hp)(Q:VK)(r:Res)(f:DS):Prop:=∀v b a,SR K c d f e b a->aj g a->RR K c d f e b a v r->Q v b
def R0(K:f')(c:Hp×Hp)(e:Nat->Option dk)(f:St)(g:Hp)(Q:VK)(d:Dat)(h:DS):Prop:=∀v b a,SR K c e h f b a->aj g a->Rep K a d v->Q v b
def vR(K:f')(c:Hp×Hp)(d:Nat->Option dk)(e:St)(f:Hp)(Q:Hp->Prop)(g:DS):Prop:=∀b a,SR K c d g e b a->aj f a->Q b
def HC(K:f')(c:Hp×Hp)(d:Nat->Option dk)(e:St)(f:Hp)(Q:List V->Hp->Prop)(ds:List Dat)(g:DS):Prop:=∀vs b a,SR K c d g e b a->aj f a->ay K a ds vs->Q vs b
def HX(X:Cx)(f:EF)(t:TE):Prop:=∀(b:Hp×Hp) (c:Nat->Option dk) (Z:DS) (a:St) (H d:Hp) (r:Res) (e:DS) (Q:VK),f Z=ac (r,e)->SR X.K b c Z a H d ->
 Te X.K b c a d Q r e->t a H Q
inductive DE (X:Cx) (e:hE) (f:EF):Prop
 | mk (t:TE) (p:PE X e t) (q:HX X f t)
def Li(X:Cx)(f:DF)(t:TE):Prop:=∀(b:Hp×Hp) (c:Nat->Option dk) (Z:DS) (a:St) (H e:Hp) (d:Dat) (g:DS) (Q:VK),f Z=ac (d,g)->SR X.K b c Z a H e ->
 R0 X.K b c a e Q d g->t a H Q
inductive DD (X:Cx) (e:hE) (f:DF):Prop
 | mk (t:TE) (p:PE X e t) (q:Li X f t)
def Lh(X:Cx)(f:BF)(t:TT):Prop:=∀(c:Hp×Hp) (d:Nat->Option dk) (Z:DS) (a:St) (H e:Hp) (b:Bool) (g:DS) (Q:Bool->Hp->Prop),f Z=ac (b,g)->SR X.K c d Z a H e ->
 vR X.K c d a e (Q b) g->t a H Q
inductive DT (X:Cx) (e:hE) (f:BF):Prop
 | mk (t:TT) (p:PT X e t) (q:Lh X f t)
def Tx(X:Cx)(f:BF)(t:TT):Prop:=∀(c:Hp×Hp) (d:Nat->Option dk) (Z:DS) (a:St) (H e:Hp) (b:Bool) (g:DS) (Q:Bool->Hp->Prop),f Z=ac (b,g)->SR X.K c d Z a H e ->
 vR X.K c d a e (Q b) g->t a H Q
inductive DW (X:Cx) (e:hE) (f:BF):Prop
 | mk (t:TT) (p:PW X e t) (q:Tx X f t)
def JY(X:Cx)(f:AF)(t:TA):Prop:=∀(b:Hp×Hp) (c:Nat->Option dk) (Z:DS) (a:St) (H d:Hp) (ds:List Dat) (e:DS) (Q:List V->Hp->Prop),f Z=ac (ds,e)->SR X.K b c Z a H d ->
 HC X.K b c a d Q ds e->t a H Q
inductive DA (X:Cx) (es:List hE) (f:AF):Prop
 | mk (t:TA) (p:PA X es t) (q:JY X f t)
def fu(f:EF):DF:=λZ=>(f Z).map λp=>(p.1.val,p.2)
noncomputable def rC(f:DF):EF:=λZ=>(f Z).map λp=>(.D p.1,p.2)
section
variable{X:Cx}{e a b c:hE}{pos:y4}{K:f'}{H0:Hp×Hp}{H Hi:Hp}{ps:Nat->Option dk}{Z Z':DS}{σ:St}{i:Nat}{r:Res}{v:V}
def DW.dt (h:DW X e f):DT X e f:=let ⟨t,p,q⟩:=h;⟨t,p.pt,q⟩
def DE.dd (h:DE X e f):DD X e (fu f):=by obtain⟨t,p,q⟩:=h;refine⟨t,p,λH0 ps Z σ H Hi d Z' Q g S k=>?_⟩;obtain⟨r,Z1,m,g⟩:=oN g;obtain⟨rfl,rfl⟩:=sP g;refine q H0 ps Z σ H Hi r Z1 Q m S λv n Hi' o s' s=>?_;obtain⟨j,u,w,l⟩:=o.freeze s;exact k v n j u (s'.trans w) l
def DD.de (h:DD X e f):DE X e (rC f):=by obtain⟨t,p,q⟩:=h;refine⟨t,p,λH0 ps Z σ H Hi r Z' Q g S k=>?_⟩;obtain⟨d,Z1,m,g⟩:=oN g;obtain⟨rfl,rfl⟩:=sP g;exact q H0 ps Z σ H Hi d Z1 Q m S λv n j o s' l=>k v n j o s' l
noncomputable def fC(d:Dat):DF:=λZ=>ac (d,Z)
def qM (h:PE X e (tC v))(r:∀H,Rep X.K H d v):DD X e (fC d) :=
 ⟨_,h,λH0 ps Z σ H Hi d' Z' Q f S k=>by obtain⟨rfl,rfl⟩:=sP f;exact k v H Hi S (aj.refl _)<|r _⟩
def Ra{i j}:DD X (.Constant (.int i) j pos) (fC<|.int i):=qM (λ_ _ _ H _ I h=>wpAny_Constant_int ⟨.int i,H,I.tok _,⟨_,ρ⟩,h⟩) λ_=>rfl
def zg{i j}:DD X (.Constant (.bool i) j pos) (fC<|.bl i):=qM T7 λ_=>rfl
def Lj{j}:DD X (.Constant .none j pos) (fC .aQ):=qM (λ_ _ _ H _ I h=>Constant_none ⟨.aQ,H,I,ρ,h⟩) λ_=>rfl
def Ii{x j}:DD X (.Constant (.str x) j pos) (fC<|.str x):=qM CT λ_=>rfl
structure Glob (X:Cx) (x:eS) (d:Dat):Prop where
 gl:Gl X x
 is:∃v u,X.mg x=ac u/\RelV v u/\∀H,Rep X.K H d v
def LA (h:Glob X x d)(hd:bP x:=by decide):DD X (.Name x pos) (fC d):=by obtain⟨v,u,f,g,j⟩:=h.is;exact qM (Dx h.gl f g hd) j
noncomputable def cI(i:Nat):DF:=λZ=>match Z[i]? with
 | some (.D d)=>ac (d,Z)
 | some (.O c)=>ac (c,Z.set i<|.D c)
 | _=>al
def SR.CF{K:f'}{H0:Hp×Hp}{H Hi:Hp}{ps:Nat->Option dk}{Z:DS}{σ:St}{i:Nat}{c:Dat}(S:SR K H0 ps Z σ H Hi)(e:Z[i]?=ac (.O c)) :
  ∃l v,σ[i]?=ac (ac v)/\SR K H0 ps (Z.set i<|.D c) σ H l/\aj Hi l/\Rep K l c v:=by
 obtain⟨p,u,B,C,D⟩:=S.O i c e;have o:=(cm.1 e).1;have E:SR K H0 ps (Z.set i .no) σ H Hi:=by
  have get:∀{j:Nat}{s:Slot},(Z.set i .no)[j]?=ac s->s≠.no->j≠i/\Z[j]?=ac s:=λ{j s} h A=>by by_cases g:j=i;simp_all;rw[mA (Ne.symm g)] at h;exact⟨g,h⟩
  refine⟨S.sub,S.keep,S.fJ,λj d h=>S.D j d (get h ⋯).2,λj f h=>S.O j f (get h ⋯).2,λj f h=>S.io j f (get h ⋯).2,λj k f n q x y=>?_,by rw[I1];exact S.len,S.nw⟩;exact S.ne j k f n q (x.imp (λz=>(get z ⋯).2) λz=>(get z ⋯).2) (y.imp (λz=>(get z ⋯).2) λz=>(get z ⋯).2)
 have r:RR K H0 ps (Z.set i .no) σ H Hi (.ref p) (.O c):=by
  refine⟨p,ρ,B,C,D,λj f h z=>?_⟩;have g:j≠i:=λw=>by simp_all
  rw[mA (Ne.symm g)] at h;exact g<|S.ne j i f c p h (ι e) z u
 obtain⟨l,m,F,t⟩:=E.freeze r;refine⟨l,.ref p,u,⟨m.sub,m.keep,m.fJ,λj d h=>?_,λj f h=>?_,λj f h=>?_,λj k f n q x y G I=>?_,by rw[I1];exact S.len,m.nw⟩,F,t⟩
 ·by_cases g:j=i
  ·subst g;rw[tm o] at h;cases h;exact⟨_,u,t⟩
  rw[mA (Ne.symm g)] at h;exact m.D j d (by rw[mA (Ne.symm g)];exact h)
 all_goals
  have back:∀{j:Nat}{s:Slot},(Z.set i<|.D c)[j]?=ac s->(∀d,s≠.D d)->(Z.set i .no)[j]?=ac s:=λ{j s} h A=>by
   by_cases g:j=i
   ·subst g;rw[tm o] at h;obtain rfl:=sO h;exact absurd ρ<|A c
   rw[mA (Ne.symm g)] at h ⊢;exact h
 ·exact m.O j f<|back h (by intro d;simp)
 ·exact m.io j f<|back h (by intro d;simp)
 exact m.ne j k f n q (x.imp (λz=>back z (by intro d;simp)) λz=>back z (by intro d;simp)) (y.imp (λz=>back z (by intro d;simp)) λz=>back z (by intro d;simp)) G I
def Jy (i:Nat)(m:X.N[i]?=ac x)(n:cx X.env.scope x)(hd:bP x:=by decide)(j:cY x:=by decide):DD X (.Name x pos) (cI i):=by
 refine⟨_,fH m n hd j,λH0 ps Z σ H Hi d Z' Q f S k=>?_⟩;unfold cI at f;split at f
 ·rename_i d0 g;cases f;obtain⟨v,h,r⟩:=S.D i d g;exact⟨v,h,k v H Hi S (aj.refl _) r⟩
 ·rename_i c0 g;obtain⟨rfl,rfl⟩:=sP f;obtain⟨l,v,h,o,s',r⟩:=S.CF g;exact⟨v,h,k v H l o s' r⟩
 exact nO f
noncomputable def xN(i:Nat):EF:=λZ=>match Z[i]? with
 | some (.D d)=>ac (.D d,Z)
 | some (.O c)=>ac (.O c,Z.set i .no)
 | _=>al
def Ny (i:Nat)(u:X.N[i]?=ac x)(w:cx X.env.scope x)(hd:bP x:=by decide)(n:cY x:=by decide):DE X (.Name x pos) (xN i):=by
 refine⟨_,fH u w hd n,λH0 ps Z σ H Hi r Z' Q g S k=>?_⟩;unfold xN at g;split at g
 ·rename_i y l;obtain⟨rfl,rfl⟩:=sP g;obtain⟨v,m,r⟩:=S.D i y l;exact⟨v,m,k v H Hi S (aj.refl _) r⟩
 ·rename_i c0 l;obtain⟨rfl,rfl⟩:=sP g;obtain⟨p,m,A,B,C⟩:=S.O i c0 l;have hlt:=(cm.1 l).1;have get:∀{j:Nat}{s:Slot},(Z.set i .no)[j]?=ac s->s≠.no->j≠i/\Z[j]?=ac s:=λ{j s} h hn=>by by_cases o:j=i;simp_all;rw[mA (Ne.symm o)] at h;exact⟨o,h⟩
  refine⟨.ref p,m,k (.ref p) H Hi ⟨S.sub,S.keep,S.fJ,λj d h=>S.D j d (get h ⋯).2,λj f h=>S.O j f (get h ⋯).2,λj f h=>S.io j f (get h ⋯).2,λj k f t q D E=>?_,by rw[I1];exact S.len,S.nw⟩ (aj.refl _) ⟨p,ρ,A,B,C,λj f h z=>?_⟩⟩
  ·exact S.ne j k f t q (D.imp (λz=>(get z ⋯).2) λz=>(get z ⋯).2) (E.imp (λz=>(get z ⋯).2) λz=>(get z ⋯).2)
  have h':j≠i/\(Z[j]?=ac (.O f)\/Z[j]?=ac (.io f)):=by
   rcases h with h|h
   ·exact⟨(get h ⋯).1,ι (get h ⋯).2⟩
   exact⟨(get h ⋯).1,τ (get h ⋯).2⟩
  exact h'.1<|S.ne j i f c0 p h'.2 (ι l) z m
 exact nO g
noncomputable def bW(op:Dat->Dat->Option Res)(f g:DF):EF:=λZ=>(f Z).bind λp=>(g p.2).bind λq=>(op p.1 q.1).map λr=>(r,q.2)
def eG(X:Cx)(r:R2)(op:Dat->Dat->Option Res):Prop:=∀(H0:Hp×Hp) (ps:Nat->Option dk) (Z:DS) (σ:St) (H Hi:Hp) (x y:V) (d d':Dat) (o:Res) (Q:VK),op d d'=ac o->SR X.K H0 ps Z σ H Hi->Rep X.K Hi d x->Rep X.K Hi d' y ->
 (∀v g f,SR X.K H0 ps Z σ g f->aj Hi f->RR X.K H0 ps Z σ g f v o->Q v g)->r x y H Q
def vG{r:R2}{op:Dat->Dat->Option Res}{f g:DF}{m n:TE}(u:eG X r op)
 (w:∀(H0:Hp×Hp) (ps:Nat->Option dk) (Z:DS) (σ:St) (H Hi:Hp) (d:Dat) (Z':DS) (Q:VK),f Z=ac (d,Z')->SR X.K H0 ps Z σ H Hi->(∀v j h,SR X.K H0 ps Z' σ j h->aj Hi h->Rep X.K h d v->Q v j)->m σ H Q)
 (z:∀(H0:Hp×Hp) (ps:Nat->Option dk) (Z:DS) (σ:St) (H Hi:Hp) (d:Dat) (Z':DS) (Q:VK),g Z=ac (d,Z')->SR X.K H0 ps Z σ H Hi->(∀v j h,SR X.K H0 ps Z' σ j h->aj Hi h->Rep X.K h d v->Q v j)->n σ H Q)
 (H0:Hp×Hp)(ps:Nat->Option dk)(Z:DS)(σ:St)(H Hi:Hp)(o:Res)(Z':DS)(Q:VK)(l:bW op f g Z=ac (o,Z'))(S:SR X.K H0 ps Z σ H Hi)
 (k:∀v j h,SR X.K H0 ps Z' σ j h->aj Hi h->RR X.K H0 ps Z' σ j h v o->Q v j):pL r m n σ H Q:=by
 obtain⟨d,Z1,A,l⟩:=oB l;obtain⟨d',Z2,B,l⟩:=oB l;obtain⟨o',C,l⟩:=oM l;obtain⟨rfl,rfl⟩:=sP l;refine w H0 ps Z σ H Hi d Z1 _ A S λx D p E F G=>?_;refine z H0 ps Z1 σ D p d' _ _ B E λy I q J s L=>?_;exact u H0 ps _ σ I q x y d d' _ Q C J (Rep.mono s G) L λv M t N O P=>k v M t N ((F.trans s).trans O) P
def mU{op:Operator}{r:R2}{d:Dat->Dat->Option Res}{f g:DF}(h:aS X (YC op) r)(j:eG X r d)(k:DD X a f)(l:DD X b g):DE X (.BinOp a op b pos) (bW d f g):=by obtain⟨ta,m,n⟩:=k;obtain⟨tb,o,p⟩:=l;exact⟨_,(λe f g=>by exact λd s i H Q I h=>wpAny_BinOp (xl f g I h λv u j x y k l m n q=>e d j i k x y v u Q l m n q)) h m o,vG j n p⟩
def pN{op:acO}{r:R2}{d:Dat->Dat->Option Res}{f g:DF}(h:aS X (me op) r)(j:eG X r d)(k:DD X a f)(l:DD X b g)(m:z3 op b=bi):DE X (.Compare a [op] [b] pos) (bW d f g):=by obtain⟨ta,n,o⟩:=k;obtain⟨tb,p,q⟩:=l;exact⟨_,Gj h n p m,vG j o q⟩
def Dn:R2:=λx y H Q=>∃l b xs zs,x=.ref l/\y=.ref b/\Rd H l (.L xs)/\Rd H b (.L zs)/\xs.length+zs.length<=cA/\∀p,H p=al->Q (.ref p) (upd H p<|.L<|xs++zs)
def GC(K:f'):R2:=λx y H Q=>∃l b xs zs,x=.ref l/\y=.ref b/\cu K H l xs/\Rd H b (.L zs)/\xs.length+zs.length<=cA/\∀p,H p=al->Q (.ref p) (upd H p<|.L<|xs++zs)
def NU(i j:Int):Prop:=0<j/\j.natAbs.log2<9000
def OT:aS X (YC .FloorDiv) (rI NU λi j=>.int<|i/j):=uK λi j _ _ _ _ _ d q=>by have h1:=d.1;exact floordiv_int (by lia) (by rw[Int.fdiv_eq_ediv_of_nonneg i (by lia)];exact q)<|ι<|PyProof.noPylong_of_log2 d.2
theorem ay.ints:∀(ns:List Int),ay K H (ns.map Dat.int) (ns.map V.int)
 | []=>rfl
 | n::ns=>⟨_,_,ρ,ρ,ay.ints ns⟩
noncomputable def fq:Dat->Dat->Option Res
 | .int i,.int j=>ac (.D<|.int<|i+j)
 | .str x,.str y=>if x.length+y.length<=cA then ac (.D<|.str<|x++y) else al
 | .L xs,.L ys=>if xs.length+ys.length<=cA then ac (.O<|.L<|xs++ys) else al
 | .cv xs,.L ys=>if xs.length+ys.length<=cA then ac (.O<|.L<|xs.map Dat.int++ys) else al
 | .U (x::xs),.U (y::ys)=>if (x::xs).length+(y::ys).length<=cA then ac (.D<|.U<|(x::xs)++(y::ys)) else al
 | _,_=>al
def Ck(K:f'):R2:=λx y H Q=>ig (λi j=>.int<|i+j) x y H Q\/(λx y H Q=>(λx y H Q=>∃i j,x=.str i/\y=.str j/\i.length+j.length<=cA/\Q (.str<|i++j) H) x y H Q\/(λx y H Q=>Dn x y H Q\/(λx y H Q=>GC K x y H Q\/AN K x y H Q) x y H Q) x y H Q) x y H Q
def UB:aS X (YC .Add) (Ck X.K):=aS.or (Er λ_ _ _ _ _ _ _ q=>add_int q) (aS.or JU (aS.or (by
  intro pins s σ H x y v u Q I g j h;obtain⟨l,b,xs,zs,rfl,rfl,k,m,hz,q⟩:=h;subst g;subst j;obtain⟨z,its,n,r,e⟩:=k.ok I.au;obtain⟨z2,d,n2,f,o⟩:=m.ok I.au;have hl:=r.length;have hl2:=f.length;refine PySem.P.add_list e o ?_ (by rw[gs,gs];lia);have p:its.toArray++d.toArray=(its++d).toArray:=⋯
  rw[p];exact⟨.ref _,_,I.vd (r.append f) (by rw[eu];omega),ρ,q _ I.fresh⟩) (aS.or (by
    intro pins s σ H x y v u Q I m o h;obtain⟨l,b,xs,zs,rfl,rfl,p,t,hz,q⟩:=h;subst m;subst o;obtain⟨its,r,⟨⟨cls,dd,data,w⟩,n,f,g,hd,hs⟩,z⟩:=I.list p;subst g hd hs;obtain⟨z2,d,A,j,k⟩:=t.ok I.au;have hl:=r.length;have hl2:=j.length;refine ady ⟨_,f,ρ⟩ ⟨_,k,ρ⟩ noFill_list_add seq_list_add PySem.F.slot_list_add PySem.F.entry_list_add (PySem.F.args_list_add_2 _ _) (list_addW l b its.toArray d.toArray n A al al w #[] (by rw[gs,gs];lia)) ⟨f,k,?_⟩;have B:its.toArray++d.toArray=(its++d).toArray:=⋯
    rw[B];exact⟨.ref _,_,I.vd (r.append j) (by rw[eu];omega),ρ,q _ I.fresh⟩) Nc)))
def MY:eG X (Ck X.K) fq:=by
 intro H0 ps Z σ H Hi x y d d' o Q e S j l k;delta fq at e;split at e
 ·obtain rfl:=sO e;subst j;subst l;exact ι ⟨_,_,ρ,ρ,k _ H Hi S (aj.refl _) ρ⟩
 ·split at e
  ·rename_i hz;obtain rfl:=sO e;subst j;subst l;exact τ<|ι ⟨_,_,ρ,ρ,hz,k _ H Hi S (aj.refl _) ρ⟩
  exact nO e
 ·split at e
  ·rename_i hz;obtain rfl:=sO e;obtain⟨p,vs,rfl,m,n⟩:=j;obtain⟨s,h,rfl,t,g⟩:=l;refine τ (τ<|ι ⟨p,s,vs,h,ρ,ρ,Rd.mono S.sub m,Rd.mono S.sub t,by rw[n.length,g.length];exact hz,λq f=>?_⟩);exact k (.ref q) _ Hi (S.made f) (aj.refl _) ⟨q,ρ,⟨_,bb,ay.append n g,S.cX f⟩,(S.bz f).2,(S.bz f).1,S.dA f⟩
  exact nO e
 ·split at e
  ·rename_i hz;obtain rfl:=sO e;obtain⟨p,rfl,m⟩:=j;obtain⟨s,h,rfl,t,g⟩:=l;refine τ (τ<|τ<|ι ⟨p,s,_,h,ρ,ρ,cu.mono S.sub m,Rd.mono S.sub t,by rw[ab,g.length];exact hz,λq f=>?_⟩);exact k (.ref q) _ Hi (S.made f) (aj.refl _) ⟨q,ρ,⟨_,bb,ay.append (ay.ints _) g,S.cX f⟩,(S.bz f).2,(S.bz f).1,S.dA f⟩
  exact nO e
 ·split at e
  ·rename_i hz;obtain rfl:=sO e;obtain⟨p,vs,rfl,m,n⟩:=j;obtain⟨s,h,rfl,t,g⟩:=l;have u:=n.length;have w:=g.length;refine τ<|τ<|τ<|τ ⟨p,s,vs,h,ρ,ρ,ba.mono S.sub m,ba.mono S.sub t,λz=>?_,by rw[u,w];exact hz,λz=>?_,λ_ q f=>?_⟩
   ·rw[z] at u;contradiction
   ·rw[z] at w;contradiction
   obtain⟨A,s'⟩:=S.laid f;exact k (.ref q) _ _ A s' ⟨q,_,ρ,ba.of bb,ay.mono s'<|ay.append n g⟩
  exact nO e
 exact nO e
noncomputable def fw(C:Int->Int->Bool)(g:Int->Int->Dat):Dat->Dat->Option Res
 | .int i,.int j=>if C i j=bd then ac (.D<|g i j) else al
 | _,_=>al
def uc (h:∀i j,C i j=bd->f i j)(l:∀i j K H,Rep K H (g i j)<|g' i j):eG X (rI f g') (fw C g):=by
 intro H0 ps Z σ H Hi x y d d' o Q e S m n k;delta fw at e;split at e
 ·split at e
  ·rename_i p;obtain rfl:=sO e;subst m;subst n;exact⟨_,_,ρ,ρ,h _ _ p,k _ H Hi S (aj.refl _)<|l _ _ _ _⟩
  exact nO e
 exact nO e
def qT (f:∀i j K H,Rep K H (g i j)<|g' i j):eG X (ig g') (fw (λ_ _=>true) g):=by
 intro H0 ps Z σ H Hi x y d d' o Q e S h l k;delta fw at e;split at e
 ·split at e
  ·obtain rfl:=sO e;subst h;subst l;exact⟨_,_,ρ,ρ,k _ H Hi S (aj.refl _)<|f _ _ _ _⟩
  contradiction
 exact nO e
noncomputable def kE:Res->Slot
 | .D d=>.D d
 | .O c=>.O c
def lR(i:Nat)(r:Res)(Z:DS):Option DS:=match Z[i]? with
 | none=>al
 | some (.io _)=>al
 | some _=>ac<|Z.set i<|kE r
theorem SR.put(S:SR K H0 ps Z σ H Hi)(w:RR K H0 ps Z σ H Hi v r)(e:lR i r Z=ac Z'):SR K H0 ps Z' (σ.set i<|ac v) H Hi:=by
 delta lR at e;cases x:Z[i]? with
 | none=>rw[x] at e;exact nO e
 | some s =>
  have t:=(cm.1 x).1;have C:i<σ.length:=by rw[<-S.len];exact t
  have G:Z'=Z.set i (kE r)/\∀c,s≠.io c:=by rw[x] at e;cases s<;>first|(exact nO e;done)|(exact⟨(Option.some.inj e).symm,by intro c;simp⟩)
  obtain⟨rfl,_⟩:=G;have other:∀{j:Nat}{s':Slot},j≠i->(Z.set i<|kE r)[j]?=ac s'->Z[j]?=ac s':=λ{j s'} f h=>by rwa[mA (Ne.symm f)] at h
  have ab5:∀{s':Slot},(Z.set i<|kE r)[i]?=ac s'->s'=kE r:=λ{s'} h=>by rw[tm t] at h;exact (Option.some.inj h).symm
  have g:∀{j:Nat},j≠i->(σ.set i<|ac v)[j]?=σ[j]?:=λ{j} f=>mA<|Ne.symm f;have y:(σ.set i<|ac v)[i]?=ac (ac v):=tm C;refine⟨S.sub,S.keep,S.fJ,λj d h=>?_,λj c h=>?_,λj c h=>?_,λj k c m p A B n o=>?_,by simp only[I1,I1];exact S.len,S.nw⟩
  ·by_cases f:j=i
   ·subst f;have q:=ab5 h;cases r with
    | D d'=>cases q;exact⟨v,y,w⟩
    | O c=>contradiction
   rw[g f];exact S.D j d<|other f h
  ·by_cases f:j=i
   ·subst f;have q:=ab5 h;cases r with
    | D d'=>cases q
    | O c =>
     cases q;obtain⟨p,rfl,D,E,F,_⟩:=w;exact⟨p,y,D,E,F⟩
   rw[g f];exact S.O j c<|other f h
  ·by_cases f:j=i
   ·subst f;have q:=ab5 h;cases r<;>contradiction
   rw[g f];exact S.io j c<|other f h
  have back:∀{j:Nat}{c:Dat},((Z.set i<|kE r)[j]?=ac (.O c)\/(Z.set i<|kE r)[j]?=ac (.io c))->j≠i->(Z[j]?=ac (.O c)\/Z[j]?=ac (.io c)):=λh f=>h.imp (other f) (other f);have u:∀{c:Dat}{p:dk},((Z.set i<|kE r)[i]?=ac (.O c)\/(Z.set i<|kE r)[i]?=ac (.io c))->(σ.set i<|ac v)[i]?=ac (ac<|.ref p)->∀(k:Nat) (m:Dat),(Z[k]?=ac (.O m)\/Z[k]?=ac (.io m))->σ[k]?≠ac (ac<|.ref p):=λ{c p} h z=>by
   rw[y] at z;cases r with
   | D d'=>rcases h with h|h<;>cases ab5 h
   | O c0=>obtain⟨p',I,D,E,F,nd⟩:=w;subst I;cases z;exact nd
  by_cases f:j=i
  ·by_cases l:k=i
   ·simp only[f,l]
   subst f;rw[g l] at o;exact absurd o<|u A n k m<|back B l
  by_cases l:k=i
  ·subst l;rw[g f] at n;exact absurd n<|u B o j c<|back A f
  rw[g f] at n;rw[g l] at o;exact S.ne j k c m p (back A f) (back B l) n o
abbrev GF:=Dat->DS->Option DS
def P4(X:Cx)(g:GF)(t:TG):Prop:=∀(H0:Hp×Hp) (ps:Nat->Option dk) (Z:DS) (σ:St) (H Hi:Hp) (d:Dat) (Z':DS) (v:V) (Q:St->Hp->Prop),g d Z=ac Z'->SR X.K H0 ps Z σ H Hi->Rep X.K Hi d v ->
 (∀f,SR X.K H0 ps Z' f H Hi->Q f H)->t v σ H Q
inductive DG (X:Cx) (tg:hE) (g:GF):Prop
 | mk (t:TG) (p:PG X tg t) (q:P4 X g t)
def O2(X:Cx)(g:List Dat->DS->Option DS)(t:jf):Prop:=∀(H0:Hp×Hp) (ps:Nat->Option dk) (Z:DS) (σ:St) (H Hi:Hp) (ds:List Dat) (Z':DS) (vs:List V) (Q:St->Hp->Prop),g ds Z=ac Z'->SR X.K H0 ps Z σ H Hi->ay X.K Hi ds vs ->
 (∀d,SR X.K H0 ps Z' d H Hi->Q d H)->t vs σ H Q
inductive mZ (X:Cx) (tgs:List hE) (g:List Dat->DS->Option DS):Prop
 | mk (t:jf) (p:nK X tgs t) (q:O2 X g t)
def zC(i:Nat):GF:=λd Z=>lR i (.D d) Z
noncomputable def R6:List Dat->DS->Option DS
 | [],Z=>ac Z
 | _,_=>al
noncomputable def Av(g:GF)(f:List Dat->DS->Option DS):List Dat->DS->Option DS
 | d::ds,Z=>(g d Z).bind (f ds)
 | [],_=>al
theorem Nk:mZ X [] R6:=by
 refine⟨_,OE,λH0 ps Z σ H Hi ds Z' vs Q e S r k=>?_⟩;cases ds with
 | nil=>obtain rfl:=sO e;exact⟨r,k σ S⟩
 | cons _ _=>exact nO e
theorem LJ (m:DG X e g)(n:mZ X f h)(hs:(u1 (e::f) X.env).map (·.2)=ZR e X.env::(u1 f X.env).map (·.2):=by rfl):mZ X (e::f) (Av g h):=by
 obtain⟨t1,o,p⟩:=m;obtain⟨t2,q,s⟩:=n;refine⟨_,L7 o q hs,λH0 ps Z σ H Hi ds Z' vs Q e S r k=>?_⟩;cases ds with
 | nil=>exact nO e
 | cons d ds=>obtain⟨v,j,rfl,t,u⟩:=r;obtain⟨Z1,w,e⟩:=oA e;exact⟨v,j,ρ,p H0 ps Z σ H Hi d Z1 v _ w S t λl x=>s H0 ps Z1 l H Hi ds Z' j Q e x u k⟩
inductive Out where
 | next (Z:DS)|ret (r:Res) (Z:DS)|brk (Z:DS)|cont (Z:DS)|exc (C:dk) (Z:DS)
def XE(X:Cx)(C:dk)(σ:St)(H:Hp):Prop:=QX X σ C H/\∀a,Uk X σ (.ref C) a H
abbrev SF:=DS->Option Out
def rH(X:Cx)(H0:Hp×Hp)(ps:Nat->Option dk)(Hi:Hp)(D:Ends):Out->Prop
 | .next Z=>∀f g d,SR X.K H0 ps Z f g d->aj Hi d->D.nx f g
 | .ret r Z=>∀v f g d,SR X.K H0 ps Z f g d->aj Hi d->RR X.K H0 ps Z f g d v r->D.rt v g
 | .brk Z=>∀f g d,SR X.K H0 ps Z f g d->aj Hi d->D.bk f g
 | .cont Z=>∀f g d,SR X.K H0 ps Z f g d->aj Hi d->D.ct f g
 | .exc C Z=>∀f g d,SR X.K H0 ps Z f g d->aj Hi d->XE X C f g
theorem rH.mono (s:aj Hi k)(h:rH X H0 ps Hi D o):rH X H0 ps k D o:=by
 cases o with
 | next Z=>exact λd g f S j=>h d g f S (s.trans j)
 | ret r Z=>exact λv d g f S j=>h v d g f S (s.trans j)
 | brk Z=>exact λd g f S j=>h d g f S (s.trans j)
 | cont Z=>exact λd g f S j=>h d g f S (s.trans j)
 | exc C Z=>exact λd g f S j=>h d g f S<|s.trans j
def Mw(X:Cx)(f:SF)(t:TS):Prop:=∀(H0:Hp×Hp) (ps:Nat->Option dk) (Z:DS) (σ:St) (H Hi:Hp) (o:Out) (D:Ends),f Z=ac o->SR X.K H0 ps Z σ H Hi->rH X H0 ps Hi D o->t D σ H
inductive cK (X:Cx) (st:Zq) (f:SF):Prop
 | mk (t:TS) (p:PS X st t) (q:Mw X f t)
def NO(X:Cx)(f:SF)(t:TS):Prop:=∀(H0:Hp×Hp) (ps:Nat->Option dk) (Z:DS) (σ:St) (H Hi:Hp) (o:Out) (D:Ends),f Z=ac o->SR X.K H0 ps Z σ H Hi->rH X H0 ps Hi D o->t D σ H
inductive ij (X:Cx) (st:List Zq) (f:SF):Prop
 | mk (t:TS) (p:ic X st t) (q:NO X f t)
noncomputable def kP:SF:=λZ=>ac<|.next Z
noncomputable def iH(f g:SF):SF:=λZ=>(f Z).bind λo=>match o with
 | .next Z1=>g Z1
 | o=>ac o
noncomputable def lS(f:DF):SF:=λZ=>(f Z).map λp=>.next p.2
noncomputable def lh(f:EF):SF:=λZ=>(f Z).map λp=>.ret p.1 p.2
noncomputable def ky(c:BF)(f g:SF):SF:=λZ=>(c Z).bind λp=>if p.1=bd then f p.2 else g p.2
def iE(i:Nat)(f:EF):SF:=λZ=>(f Z).bind λp=>(lR i p.1 p.2).map .next
def EO:ij X [] kP:=⟨_,KN,λH0 ps Z σ H Hi o D e S k=>by obtain rfl:=sO e;exact k σ H Hi S<|aj.refl _⟩
theorem GO{st:Zq}{d:List Zq}{f g:SF}(l:cK X st f)(m:ij X d g):ij X (st::d) (iH f g):=by
 obtain⟨t1,n,p⟩:=l;obtain⟨t2,q,s⟩:=m;refine⟨_,Ld n q,λH0 ps Z σ H Hi o D e S k=>?_⟩;obtain⟨o1,t,e⟩:=oA e;apply p H0 ps Z σ H Hi o1 _ t S;cases o1 with
 | next Z1=>exact λh u j w s'=>s H0 ps Z1 h u j o D e w (k.mono s')
 | ret r Z1=>obtain rfl:=sO e;exact k
 | brk Z1=>obtain rfl:=sO e;exact k
 | cont Z1=>obtain rfl:=sO e;exact k
 | exc C Z1=>obtain rfl:=sO e;exact k
def yy (h:DD X e f)(hs:HT e al pos.line X.env=pure false:=by rfl):cK X (.Expr e pos) (lS f):=by obtain⟨t,p,q⟩:=h;refine⟨_,LI p hs,λH0 ps Z σ H Hi o D e S k=>?_⟩;obtain⟨d,Z1,j,e⟩:=oN e;obtain rfl:=sO e;exact q H0 ps Z σ H Hi d Z1 _ j S λv l g m s' _=>k σ l g m s'
def Qm (h:DE X e f):cK X (.Return (ac e) pos) (lh f):=by obtain⟨t,p,q⟩:=h;refine⟨_,Hy p,λH0 ps Z σ H Hi o D e S k=>?_⟩;obtain⟨r,Z1,g,e⟩:=oN e;obtain rfl:=sO e;exact q H0 ps Z σ H Hi r Z1 _ g S λv j d l s' m=>k v σ j d l s' m
theorem Gv{c:hE}{a b:List Zq}{fc:BF}{fa fb:SF}(h:DT X c fc)(j:ij X a fa)(l:ij X b fb):cK X (.If c a b pos) (ky fc fa fb):=by
 obtain⟨tc,m,n⟩:=h;obtain⟨ta,p,q⟩:=j;obtain⟨tb,s,t⟩:=l;refine⟨_,Pt m p s,λH0 ps Z σ H Hi o D e S k=>?_⟩;obtain⟨b,Z1,u,e⟩:=oB e;refine n H0 ps Z σ H Hi b Z1 _ u S λf d g s'=>?_;cases b with
 | true=>exact q H0 ps Z1 σ f d o D e g (k.mono s')
 | false=>exact t H0 ps Z1 σ f d o D e g<|k.mono s'
end
def JW(K:f')(J:It)(items:List Dat)(e:Hp):Prop:=∀(i:Nat) (a:Hp),aj e a ->
 (∀d,items[i]?=ac d->J.go i a/\∀x b,J.mB i a x b->(b=a/\Rep K e d x)\/∃p o,a p=al/\b=upd a p o/\∀c,aj e c->c p=al->Rep K (upd c p o) d x) /\
 (items.length<=i->J.stop i a)
def JW.mono{K:f'}{J:It}{items:List Dat}{g f:Hp}(h:JW K J items g)(s:aj g f):JW K J items f:=λi m s'=>by
 obtain⟨j,q⟩:=h i m<|s.trans s';refine⟨λd e=>⟨(j d e).1,λx k y=>?_⟩,q⟩;rcases (j d e).2 x k y with⟨a,b⟩|⟨p,o,a,b,c⟩
 ·exact ι ⟨a,Rep.mono s b⟩
 exact τ ⟨p,o,a,b,λl r n=>c l (s.trans r) n⟩
abbrev IF:=DS->Option (List Dat×DS)
def Kl(X:Cx)(f:IF)(i:TI):Prop:=∀(c:Hp×Hp) (d:Nat->Option dk) (Z:DS) (b:St) (H e:Hp) (items:List Dat) (g:DS) (R:It->Hp->Prop),f Z=ac (items,g)->SR X.K c d Z b H e ->
 (∀J h a,SR X.K c d g b h a->aj e a->JW X.K J items a->R J h)->i b H R
inductive dh (X:Cx) (tg iter:hE) (f:IF):Prop
 | mk (wi:TI) (p:PI X tg iter wi) (q:Kl X f wi)
noncomputable def Ht:Dat->Option (List Dat)
 | .L ds=>ac ds
 | .U ds=>ac ds
 | _=>al
def jU(f:DF):IF:=λZ=>(f Z).bind λp=>(Ht p.1).map λds=>(ds,p.2)
noncomputable def dJ(lo n:Int):List Dat:=(gD (n-lo).toNat).map λk:Nat=>.int<|lo+(k:Int)
noncomputable def rM(f:AF):IF:=λZ=>(f Z).bind λp=>match p.1 with
 | [.int n]=>if -(2 ^ 62)<=n/\n<2 ^ 62 then ac (dJ 0 n,p.2) else al
 | _=>al
noncomputable def qN(f:AF):IF:=λZ=>(f Z).bind λp=>match p.1 with
 | [.int lo,.int n]=>if -(2 ^ 62)<=lo/\lo<2 ^ 62/\-(2 ^ 62)<=n/\n<2 ^ 62 then ac (dJ lo n,p.2) else al
 | _=>al
section
variable{X:Cx}{tg:hE}
def PI.or (e:PI X tg iter c)(f:PI X tg iter d):PI X tg iter (λa H R=>c a H R\/d a H R):=λb s a H R I h=>h.elim (e b s a H R I)<|f b s a H R I
theorem Ju (h:DD X e f):dh X tg e (jU f):=by
 obtain⟨t,p,q⟩:=h;refine⟨_,PI.or (TU p)<|Lm p,λs u Z w H z items Z' R c S k=>?_⟩;unfold jU at c;obtain⟨d,Z1,A,c⟩:=oB c;dsimp only at c;cases d with
 | L ds =>
  cases c;refine ι (q s u Z w H z _ _ _ A S λv m j l s' r=>?_);obtain⟨a,vs,rfl,b,rs⟩:=r;refine⟨a,ρ,⟨vs,ι<|Rd.mono l.sub b⟩,k _ m j l s' λi B g=>⟨λd e=>?_,λhl=>⟨vs,ι<|Rd.mono g b,by rw[rs.length];exact hl⟩⟩⟩;obtain⟨x,ex,C⟩:=rs.get e;refine⟨⟨vs,x,ι<|Rd.mono g b,ex⟩,λy D n=>ι ?_⟩;obtain⟨rfl,o⟩:=n;have:=o vs<|ι<|Rd.mono g b;simp_all
 | U ds =>
  cases c;refine τ (q s u Z w H z _ _ _ A S λv m j l s' r=>?_);obtain⟨a,vs,rfl,b,rs⟩:=r;refine⟨a,ρ,⟨vs,ba.mono l.sub b⟩,k _ m j l s' λi B g=>⟨λd e=>?_,λhl=>⟨vs,ba.mono g b,by rw[rs.length];exact hl⟩⟩⟩;obtain⟨x,ex,C⟩:=rs.get e;refine⟨⟨vs,x,ba.mono g b,ex⟩,λy D n=>ι ?_⟩;obtain⟨rfl,o⟩:=n;have:=o vs<|ba.mono g b;simp_all
 | _=>exact nO c
theorem E5{K:f'}{lo n:Int}{b:Hp}:JW K (oY lo (n-lo).toNat) (dJ lo n) b:=λi H' _=>by
 refine⟨λd e=>?_,λhl=>?_⟩
 ·unfold dJ at e;rw[c6] at e;have a:i<(n-lo).toNat:=by
   cases q:(gD (n-lo).toNat)[i]? with
   | none=>rw[q] at e;exact nO e
   | some j=>simpa using (cm.1 q).1
  rw[Y9 a] at e;obtain rfl:=sO e;exact⟨a,λx H'' y=>ι ⟨y.1,y.2⟩⟩
 unfold dJ at hl;rw[ab,l5] at hl;exact hl
def SQ (e:Gl X "range")(g:X.mg "range"=al)(h:DA X [a] f)(hs:mu [a] X.env=[(false,eval a X.env)]:=by rfl):dh X tg (.Call (.Name "range" p) [a] [] pos) (rM f):=by
 obtain⟨t,i,q⟩:=h;refine⟨_,SA e g i hs,λj l Z m H o items Z' R b S k=>?_⟩;obtain⟨ds,Z1,s,b⟩:=oB b;dsimp only at b;refine q j l Z m H o ds Z1 _ s S λvs u c w s' r=>?_;split at b
 ·split at b
  ·rename_i n d;obtain⟨rfl,rfl⟩:=sP b;obtain⟨v,r1,rfl,x,y⟩:=r;subst x;subst y;refine⟨n,ρ,d.1,d.2,?_⟩;have:=k (oY 0 (n-0).toNat) u c w s' E5;rwa [aaS] at this
  exact nO b
 exact nO b
def Pp (i:Gl X "range")(j:X.mg "range"=al)(h:DA X [a,b] f)(hs:mu [a,b] X.env=[(false,eval a X.env),(false,eval b X.env)]:=by rfl)(d:mu [b] X.env=[(false,eval b X.env)]:=by rfl) :
  dh X tg (.Call (.Name "range" p) [a,b] [] pos) (qN f):=by
 obtain⟨t,l,q⟩:=h;refine⟨_,Il i j l hs d,λm o Z s H u items Z' R c S k=>?_⟩;obtain⟨ds,Z1,x,c⟩:=oB c;dsimp only at c;refine q m o Z s H u ds Z1 _ x S λvs y e z s' r=>?_;split at c
 ·split at c
  ·rename_i lo n A;obtain⟨rfl,rfl⟩:=sP c;obtain⟨v,r1,rfl,B,w,r2,rfl,g,C⟩:=r;subst B;subst g;subst C;exact⟨lo,n,ρ,A,k _ y e z s' E5⟩
  exact nO c
 exact nO c
end
noncomputable def forLoop(g:GF)(fb:SF):List Dat->SF
 | [],Z=>ac (.next Z)
 | x::xs,Z=>(g x Z).bind λZ1=>(fb Z1).bind λo=>match o with
  | .next Z2=>forLoop g fb xs Z2
  | .cont Z2=>forLoop g fb xs Z2
  | .brk Z2=>ac (.next Z2)
  | .ret r Z2=>ac (.ret r Z2)
  | .exc _ _=>al
def pO(fi:IF)(g:GF)(fb:SF):SF:=λZ=>(fi Z).bind λp=>forLoop g fb p.1 p.2
section
variable{X:Cx}{pos:y4}{P:hY}{w:nR}{K:f'}{mg:eS->Option cn}{base:nL}{H0:Hp×Hp}{ps:Nat->Option dk}{σ:St}{psB:Nat->Option dk}{a b:hE}{ta tb:TE}{rest:List hE}{pins:List (dk×z5)}{H Hi:Hp}{s:cW}{Z:DS}{i:Nat}{io:Bool}{c c':Dat}{p:dk}{apos:y4}
theorem HQ (hp:abq (hQ X.prog X.w) X.A X.env X.xe)(hc:X.calm=bd)(T:dh X Q iter fi)(hg:DG X Q g)(hb:ij X body fb)(hs:∀x,um iter X.env x=pure x:=by intro _;rfl):cK X (.For Q iter body [] pos) (pO fi g fb):=by
 obtain⟨wi,pi,qi⟩:=T;obtain⟨tg',pg,qg⟩:=hg;obtain⟨tb,pb,qb⟩:=hb;refine⟨_,P7 hp hc pi pg pb hs,λH0 ps Z σ H Hi o D e S k=>?_⟩;obtain⟨items,Z1,e1,e⟩:=oB e;refine qi H0 ps Z σ H Hi items Z1 _ e1 S λJ H1 z S1 R jw=>?_
 refine⟨λi m l O=>m=items.length-i/\i<=items.length/\∃G h,SR X.K H0 ps G l O h/\aj z h/\forLoop g fb (items.drop i) G=ac o,
  ⟨items.length,⋯,pe _,Z1,z,S1,aj.refl _,by simpa using e⟩,?_⟩
 rintro i m l O ⟨rfl,T,G,h,I,s',f⟩;have L:=jw i O<|s'.trans I.sub;by_cases M:i<items.length
 ·have U:=bt M;rw[acu M] at f;obtain⟨Z2,e2,f⟩:=oA f;obtain⟨V,e3,f⟩:=oA f;refine τ ⟨(L.1 _ U).1,λB W=>∃Z3 E,SR X.K H0 ps Z3 B W E/\aj z E/\forLoop g fb (items.drop<|i+1) Z3=ac o,λB W ⟨Z3,E,S3,s3,f3⟩=>⟨items.length-(i+1),⋯,ρ,M,Z3,E,S3,s3,f3⟩,λx F y=>?_⟩;obtain⟨d,Y,be,rx⟩:∃d,SR X.K H0 ps G l F d/\aj h d/\Rep X.K d items[i] x:=by
   rcases (L.1 _ U).2 x F y with⟨rfl,r⟩|⟨p,ob,n,rfl,r⟩
   ·exact⟨h,I,aj.refl _,Rep.mono s' r⟩
   obtain⟨a,b⟩:=I.laid n;exact⟨_,a,b,r h s'<|I.cX n⟩
  refine qg H0 ps G l F d _ Z2 x _ e2 Y rx λB S2=>?_;apply qb H0 ps Z2 B F d V _ e3 S2;have sm:=s'.trans be;cases V with
  | next Z3=>exact λq N j t u=>⟨Z3,j,t,sm.trans u,f⟩
  | cont Z3=>exact λq N j t u=>⟨Z3,j,t,sm.trans u,f⟩
  | brk Z3=>obtain rfl:=sO f;exact λq N j t u=>k q N j t ((R.trans sm).trans u)
  | ret r Z3=>obtain rfl:=sO f;exact λv q N j t u rr=>k v q N j t ((R.trans sm).trans u) rr
  | exc C Z3=>exact nO f
 have ei:i=items.length:=by lia
 subst ei;rw[adY] at f;obtain rfl:=sO f;exact ι ⟨L.2<|eK _,k l O h I<|R.trans s'⟩
noncomputable def gG(c:BF)(fb:SF):Nat->SF
 | 0,_=>al
 | n+1,Z=>(c Z).bind λp=>if p.1=bd then (fb p.2).bind (λo=>match o with
   | .next Z2=>gG c fb n Z2
   | .cont Z2=>gG c fb n Z2
   | .brk Z2=>ac (.next Z2)
   | .ret r Z2=>ac (.ret r Z2)
   | .exc _ _=>al) else ac (.next p.2)
theorem M0{c:hE}{body:List Zq}{fc:BF}{fb:SF}(n:Nat)(L:abq (hQ X.prog X.w) X.A X.env X.xe)(M:DT X c fc)(N:ij X body fb):cK X (.While c body [] pos) (gG fc fb n):=by
 obtain⟨tc,O,Q⟩:=M;obtain⟨tb,R,T⟩:=N;refine⟨_,NA L O R,λH0 ps Z σ H Hi o D e S k=>?_⟩;refine⟨λm g B=>∃y q,SR X.K H0 ps y g B q/\aj Hi q/\gG fc fb m y=ac o,⟨n,Z,Hi,S,aj.refl _,e⟩,?_⟩;rintro m g B ⟨y,q,U,s',d⟩;cases m with
 | zero=>exact nO d
 | succ m =>
  obtain⟨b,Z1,V,d⟩:=oB d;refine Q H0 ps y g B q b Z1 _ V U λE u F G=>?_;cases b with
  | false=>obtain rfl:=sO d;exact k g E u F (s'.trans G)
  | true =>
   have d:((fb Z1).bind λo=>match o with
    | .next Z2=>gG fc fb m Z2
    | .cont Z2=>gG fc fb m Z2
    | .brk Z2=>ac (.next Z2)
    | .ret r Z2=>ac (.ret r Z2)
    | .exc _ _=>al)=ac o:=d
   refine⟨λz I=>∃Z3 t,SR X.K H0 ps Z3 z I t/\aj Hi t/\gG fc fb m Z3=ac o,λz I ⟨Z3,t,W,Y,f3⟩=>⟨m,Y5 _,Z3,t,W,Y,f3⟩,?_⟩;obtain⟨J,e3,d⟩:=oA d;apply T H0 ps Z1 g E u J _ e3 F;have sm:=s'.trans G;cases J with
   | next Z3=>exact λh x f j l=>⟨Z3,f,j,sm.trans l,d⟩
   | cont Z3=>exact λh x f j l=>⟨Z3,f,j,sm.trans l,d⟩
   | brk Z3=>obtain rfl:=sO d;exact λh x f j l=>k h x f j (sm.trans l)
   | ret r Z3=>obtain rfl:=sO d;exact λv h x f j l rr=>k v h x f j (sm.trans l) rr
   | exc C Z3=>exact nO d
noncomputable def gg:AF:=λZ=>ac ([],Z)
noncomputable def dQ(f:DF)(g:AF):AF:=λZ=>(f Z).bind λp=>(g p.2).map λq=>(p.1::q.1,q.2)
noncomputable def oG(f:AF):EF:=λZ=>(f Z).bind λp=>if p.1.length<=cA then ac (.O<|.L p.1,p.2) else al
noncomputable def vt(f:AF):DF:=λZ=>(f Z).bind λp=>if p.1.length<=cA then ac (.U p.1,p.2) else al
def Kx:DA X [] gg:=⟨_,kZ,λH0 ps Z σ H Hi ds Z' Q e S k=>by obtain⟨rfl,rfl⟩:=sP e;exact k [] H Hi S (aj.refl _) ρ⟩
def Uv (o:DD X e f)(q:DA X h g)(hs:bA X e h:=by rfl):DA X (e::h) (dQ f g):=by obtain⟨t1,r,t⟩:=o;obtain⟨t2,u,x⟩:=q;refine⟨_,jR r u hs,λH0 ps Z σ H Hi ds Z' Q e S k=>?_⟩;obtain⟨d,Z1,y,e⟩:=oB e;obtain⟨j,Z2,z,e⟩:=oN e;obtain⟨rfl,rfl⟩:=sP e;refine t H0 ps Z σ H Hi d Z1 _ y S λv A l B C D=>?_;exact x H0 ps Z1 σ A l j _ _ z B λvs E m F n G=>k (v::vs) E m F (C.trans n) ⟨v,vs,ρ,Rep.mono n D,G⟩
def Jz (h:DA X j f):DE X (.List j pos) (oG f):=by
 obtain⟨t,p,q⟩:=h;refine⟨_,Lu p,λH0 ps Z σ H Hi r Z' Q e S k=>?_⟩;obtain⟨ds,Z1,n,e⟩:=oB e;split at e
 ·rename_i hz;obtain⟨rfl,rfl⟩:=sP e;refine q H0 ps Z σ H Hi ds _ _ n S λvs H1 l d o m=>⟨by rw[m.length];exact hz,λp g=>?_⟩;exact k (.ref p) _ l (d.made g) o ⟨p,ρ,⟨_,bb,m,d.cX g⟩,(d.bz g).2,(d.bz g).1,d.dA g⟩
 exact nO e
def NT {m}(h:DA X g f):DD X (.Tuple g m pos) (vt f):=by
 obtain⟨t,p,q⟩:=h;refine⟨_,C8 p,λH0 ps Z σ H Hi d Z' Q e S k=>?_⟩;obtain⟨ds,Z1,n,e⟩:=oB e;split at e
 ·rename_i hz;obtain⟨rfl,rfl⟩:=sP e;refine q H0 ps Z σ H Hi ds _ _ n S λvs H1 Hi1 r u j=>⟨by rw[j.length];exact hz,λp v=>?_⟩;obtain⟨x,l⟩:=r.laid v;exact k (.ref p) _ _ x (u.trans l) ⟨p,vs,ρ,ba.of bb,ay.mono l j⟩
 exact nO e
abbrev aN:=List Dat->Option Res
def RC(K:f')(H f e:Hp)(v:V):Res->Prop
 | .D d=>Rep K e d v
 | .O c=>∃p,v=.ref p/\cE K f e p c/\H p=al
def aD(K:f')(fn:aN):Sp:=λvs H Q _=>∃Hi ds r,aj Hi H/\ay K Hi ds vs/\fn ds=ac r /\
 ∀v e d,aj H e->aj Hi d->aj d e->(∀p o,d p=ac o->jD Hi H p o)->RC K H e d v r->Q v e
abbrev dG:=Dat->List Dat->Option (Res×Dat)
def eJ(K:f')(j:Nat)(fn:dG):Sp:=λvs H Q _=>∃Hi p c ds r c',aj Hi H/\vs[j]?=ac (.ref p)/\cE K H Hi p c/\ay K Hi ds (vs.eraseIdx j)/\fn c ds=ac (r,c') /\
 ∀v e d,(∀b o,H b=ac o->b≠p->e b=ac o)->aj Hi d->aj d e->(∀p o,d p=ac o->jD Hi H p o)->cE K e d p c'->RC K H e d v r->Q v e
theorem SR.after (S:SR K H0 ps Z σ H Hi)(s:aj H g)(k:aj Hi f)(m:aj f g)(nw:∀p o,f p=ac o->jD Hi H p o)(t:RC K H g f v r):SR K H0 ps Z σ g f/\RR K H0 ps Z σ g f v r:=by
 have O:∀{q:dk}{c:Dat},cE K H Hi q c->cE K g f q c:=λ{q c} h=>by
  obtain⟨⟨o,e⟩,n⟩:=h.some;apply h.keeps ((s q o e).trans e.symm) k;cases z:f q with
  | none=>rfl
  | some u=>rcases nw q u z with w|w|⟨vs,w⟩;simp_all;simp_all;subst w;have:=m _ _ z;rw[s q o e] at this;obtain rfl:=sO this;exact (h.nt e).elim
 refine⟨⟨m,λb o e n=>s b o<|S.keep b o e n,λp l z=>?_,λi d e=>?_,λi c e=>?_,λi c e=>?_,S.ne,S.len,λp o e=>?_⟩,?_⟩
 ·cases e:H p with
  | none=>exact S.fJ p l e
  | some o=>rw[s p o e] at z;contradiction
 ·obtain⟨w,a,b⟩:=S.D i d e;exact⟨w,a,Rep.mono k b⟩
 ·obtain⟨q,a,b,j,x⟩:=S.O i c e;exact⟨q,a,O b,j,x⟩
 ·obtain⟨q,a,b,j⟩:=S.io i c e;exact⟨q,a,O b,j⟩
 ·rcases nw p o e with z|z|z
  ·exact S.nw p o z
  ·exact τ<|ι (S.bz z).1
  exact τ<|τ z
 cases r with
 | D d=>exact t
 | O c=>obtain⟨p,e,o,n⟩:=t;exact⟨p,e,o,(S.bz n).2,(S.bz n).1,S.dA n⟩
noncomputable def bO(fn:aN)(fa:AF):EF:=λZ=>(fa Z).bind λp=>(fn p.1).map λr=>(r,p.2)
structure xM (X:Cx) (x:eS) (sp:Sp):Prop where
 gl:Gl X x
 is:∃(CX:iZ) (k:Nat) (f:dk) (fd:hO) (pn:List eS),a9 X.prog X.w X.K X.mg X.base CX k f fd pn sp/\df k X.A/\X.mg x=ac (.ref f)/\abP X.K (.ref f)=bd/\Binds X.K fd pn []/\uu CX X E0
def Iv{x:eS}{e:hE}{g:List hE}{fn:aN}{fa:AF}{p:y4}(h:xM X x (aD X.K fn))(y:DA X (e::g) fa)(j:bP x:=by decide)
 (z:bA X e g:=by rfl)(l:(Zb pos<|mu g X.env).any (·.1)=bi:=by rfl):DE X (.Call (.Name x p) (e::g) [] pos) (bO fn fa):=by
 obtain⟨A,CX,k,f,fd,pn,F,B,C,D,E,G⟩:=h;obtain⟨t,I,q⟩:=y;refine⟨_,CI F B A C D E .nil G I j z l,λH0 ps Z σ H Hi r Z' Q d S k=>?_⟩;obtain⟨ds,Z1,J,d⟩:=oB d;obtain⟨r2,L,d⟩:=oM d;obtain⟨rfl,rfl⟩:=sP d;refine q H0 ps Z σ H Hi ds _ _ J S λvs H1 m n M N=>?_;refine⟨m,ds,_,n.sub,by rw[px];exact N,L,λv O o R u T U V=>?_⟩;obtain⟨W,Y⟩:=n.after R u T U V;exact k v O o W (M.trans u) Y
noncomputable def gV(n:Nat)(ds:List Dat):DS:=ds.map Slot.D++r4 (n-ds.length) .no
def iu(n:Nat)(f:SF):aN:=λds=>(f<|gV n ds).bind λo=>match o with
 | .next _=>ac (.D .aQ)
 | .ret r _=>ac r
 | _=>al
theorem L9{K:f'}{N:List eS}{vs:List V}{ds:List Dat}{H Hi:Hp}(s:aj Hi H)(r:ay K Hi ds vs):SR K (H,Hi) (fun _=>al) (gV N.length ds) (start N vs) H Hi:=by
 have hl:=r.length;have f:∀{i:Nat}{s:Slot},(gV N.length ds)[i]?=ac s->(∃d,s=.D d/\ds[i]?=ac d)\/s=.no:=fun {i s} h=>by
  unfold gV at h;by_cases m:i<ds.length
  ·rw[k5 (by simpa using m),c6] at h;simp_all
  rw[ka (by simpa using m)] at h;rw[aaB] at h;split at h
  ·obtain rfl:=sO h;exact τ ρ
  exact nO h
 refine⟨s,fun b o e _=>e,fun p l=>?_,fun i d e=>?_,fun i c e=>?_,fun i c e=>?_,fun i j c c' p k h2=>?_,?_,fun p o e=>ι e⟩
 ·obtain⟨_,z⟩:=l;exact nO z
 ·rcases f e with⟨d',g,h⟩|g
  ·cases g;obtain⟨v,a,b⟩:=r.get h;refine⟨v,?_,b⟩;unfold start;rw[k5 (by simpa using (cm.1 a).1),c6,a];rfl
  contradiction
 ·rcases f e with⟨d',g,h⟩|g<;>contradiction
 ·rcases f e with⟨d',g,h⟩|g<;>contradiction
 ·rcases k with k|k<;>(rcases f k with⟨d',g,h⟩|g<;>contradiction)
 simp_all [gV,start]
theorem FY{x u:eS}{st:Zq}{f:dk}{D:hO}{N ps:List eS}{k:Nat}{fn:aN}{fb:SF}(F:bc K x u st f D)(S:bp N ps (aV st))(B:∀ds r,fn ds=ac r->ds.length=ps.length)
 (J:∀(y:cn) (A:pA) (outer:List Env) (s:cW) (H:Hp) (E:XK),df k (A.deeper<|aay u (aV st) s.heap.objs.size f y)->ij (jP aZ P w K mg base N u (aV st) f y A outer s H E).lC (jc st) fb)
 (L:∀ds r,fn ds=ac r->iu N.length fb ds=ac r):a9 P w K mg base aZ (k+1) f D ps (aD K fn):=by
 refine F.ok S (λvs H Q E h=>?_)<|λy A outer s H vs Q E M h=>?_
 ·obtain⟨Hi,ds,r,s,rs,e,_⟩:=h;rw[rs.length];exact B ds r e
 obtain⟨Hi,ds,r,sm,rs,e,G⟩:=h;obtain⟨t,p,q⟩:=J y A outer s H E M;refine⟨t,p,?_⟩;have l:=L ds r e;obtain⟨o,O,l⟩:=oA l;have nw:∀{Z:DS}{m:St}{n g:Hp},SR K (H,Hi) (λ_=>al) Z m n g->∀p o,g p=ac o->jD Hi H p o:=λj p o e=>j.nw p o e;have kp:∀{Z:DS}{m:St}{n g:Hp},SR K (H,Hi) (λ_=>al) Z m n g->aj H n:=λj b o e=>j.keep b o e<|λ⟨_,z⟩=>by exact nO z
 apply q (H,Hi) (λ_=>al) (gV N.length ds) (start N vs) H Hi o _ O<|L9 sm rs;cases o with
 | next Z=>obtain rfl:=sO l;exact λm n g j s'=>G .aQ n g (kp j) s' j.sub (nw j) ρ
 | ret r' Z =>
  cases l;refine λv m n g j s' I=>G v n g (kp j) s' j.sub (nw j) ?_;cases r with
  | D d=>exact I
  | O c=>obtain⟨p,R,o,np,T,_⟩:=I;exact⟨p,R,o,T⟩
 | brk Z=>exact nO l
 | cont Z=>exact nO l
 | exc C Z=>exact nO l
def lV(K:f')(f:DF):TE:=fun σ H Q=>∃H0 ps Z Hi d g,f Z=ac (d,g)/\SR K H0 ps Z σ H Hi/\∀v h e,SR K H0 ps g σ h e->aj Hi e->Rep K e d v->Q v h
def lB(K:f')(f:BF):TT:=fun σ H Q=>∃H0 ps Z Hi d g,f Z=ac (d,g)/\SR K H0 ps Z σ H Hi/\∀h e,SR K H0 ps g σ h e->aj Hi e->Q d h
def kU(K:f')(g:GF):TG:=λv σ H Q=>∃H0 ps Z Hi d f,g d Z=ac f/\SR K H0 ps Z σ H Hi/\Rep K Hi d v/\∀e,SR K H0 ps f e H Hi->Q e H
def DD.mG (h:DD X e f):PE X e (lV X.K f):=by obtain⟨t,p,q⟩:=h;rintro pins s σ H Q I ⟨H0,ps,Z,Hi,d,g,j,S,k⟩;exact p pins s σ H Q I<|q H0 ps Z σ H Hi d g Q j S k
def DG.mG (h:DG X e g):PG X e (kU X.K g):=by obtain⟨t,p,q⟩:=h;rintro pins s σ H v u Q I r ⟨H0,ps,Z,Hi,d,f,j,S,l,k⟩;exact p pins s σ H v u Q I r<|q H0 ps Z σ H Hi d f v Q j S l k
def lU(X:Cx)(ifs:List hE)(f:BF):Prop:=PF X ifs<|lB X.K f
def Ma:lU X [] (λZ=>ac (true,Z)):=by rintro pins s σ H Q I ⟨H0,ps,Z,Hi,d,Z',e,S,k⟩;obtain⟨rfl,rfl⟩:=sP e;exact Qk pins s σ H Q I<|k H Hi S<|aj.refl _
def QM{X:Cx}{c:hE}{f:BF}(h:DT X c f):lU X [c] f:=by obtain⟨t,p,q⟩:=h;rintro pins s σ H Q I ⟨H0,ps,Z,Hi,d,e,g,S,k⟩;exact Je p pins s σ H Q I<|q H0 ps Z σ H Hi d e Q g S k
noncomputable def noOwn(Z:DS):Bool:=Z.all λs=>match s with|.O _=>false|_=>true
def El (h:noOwn Z=bd):Z[i]?≠ac (.O c):=λe=>by have:=iN.1 h _<|eR e;contradiction
noncomputable def bq(d:Option (Nat×Nat)):List (Option Nat)->DS->DS
 | [],Z=>Z
 | o::r,Z=>bq d r (match o with
  | some j=>if d.map aek=ac j then Z else (match Z[j]? with|some (.O c)=>Z.set j (.D c)|_=>Z)
  | none=>Z)
noncomputable def cp(caps:List (Option Nat))(Z:DS):DS:=caps.map λo=>match o with
 | some j=>(match Z[j]? with|some (.D d)=>.D d|_=>.no)
 | none=>.no
noncomputable def compLoop(g:GF)(fc:BF)(fe:DF):List Dat->List Dat->DS->Option (List Dat×DS)
 | [],d,Z=>ac (d,Z)
 | x::xs,d,Z=>(g x Z).bind λZ1=>(fc Z1).bind λp=>if p.1=bd then (fe p.2).bind λq=>if d.length<cA/\noOwn q.2=bd then compLoop g fc fe xs (d++[q.1]) q.2 else al
   else if noOwn p.2=bd then compLoop g fc fe xs d p.2 else al
def d9(caps:List (Option Nat))(d:Option (Nat×Nat))(fi:IF)(g:GF)(fc:BF)(fe:DF):EF:=λZ=>(fi Z).bind λp =>
 let Z1:=bq d caps p.2
 match d with
 | none=>(compLoop g fc fe p.1 []<|cp caps Z1).map λq=>(.O<|.L q.1,Z1)
 | some (k,j)=>if caps[k]?=ac (ac j) then (match Z1[j]? with
  | some (.O c)=>(compLoop g fc fe p.1 []<|(cp caps Z1).set k (.io c)).bind λq=>(match q.2[k]? with|some (.io c')=>ac (.O<|.L q.1,Z1.set j<|.O c')|_=>al)
  | some (.io c)=>(compLoop g fc fe p.1 []<|(cp caps Z1).set k (.io c)).bind λq=>(match q.2[k]? with|some (.io c')=>ac (.O<|.L q.1,Z1.set j<|.io c')|_=>al)
  | _=>al) else al
theorem nV(d):∀(caps:List (Option Nat)) {Z:DS}{H Hi:Hp},SR K H0 ps Z σ H Hi->∃f,SR K H0 ps (bq d caps Z) σ H f/\aj Hi f
 | [],_,_,Hi,S=>⟨Hi,S,aj.refl _⟩
 | none::r,_,_,_,S=>nV d r S
 | some j::r,Z,H,Hi,S=>by
  unfold bq;dsimp only;by_cases hl:d.map aek=ac j
  ·rw[if_pos hl];exact nV d r S
  rw[if_neg hl];split
  ·rename_i c e;obtain⟨Hi1,v,_,h,k,_⟩:=S.CF e;obtain⟨g,l,m⟩:=nV d r h;exact⟨g,l,k.trans m⟩
  exact nV d r S
def SR.rebase (S:SR K H0 ps Z σ H Hi)(n:noOwn Z=bd):SR K (H,Hi) ps Z σ H Hi :=
 ⟨S.sub,λb o e _=>e,S.fJ,S.D,λi c e=>absurd e<|El n,S.io,S.ne,S.len,λp o e=>ι e⟩
theorem C2{caps:List (Option Nat)}{Z:DS}{k:Nat}{d:Dat}(h:(cp caps Z)[k]?=ac (.D d)):∃j:Nat,caps[k]?=ac (ac j)/\Z[j]?=ac (.D d):=by
 unfold cp at h;rw[c6] at h;cases e:caps[k]? with
 | none=>rw[e] at h;exact nO h
 | some o =>
  rw[e] at h;cases o with
  | none=>cases h
  | some j=>refine⟨j,ρ,?_⟩;simp at h;split at h;simp_all;contradiction
theorem my{caps:List (Option Nat)}{Z:DS}{k:Nat}{c:Dat}:(cp caps Z)[k]?≠ac (.O c)/\(cp caps Z)[k]?≠ac (.io c):=by
 delta cp;rw[c6];cases e:caps[k]? with
 | none=>simp
 | some o =>
  cases o with
  | none=>simp
  | some j =>
   simp only[u3];constructor
   all_goals
    intro z;have z:=Option.some.inj z;split at z<;>contradiction
def yA{caps:List (Option Nat)}{k j:Nat}{v:V}(h:caps[k]?=ac (ac j))(e:σ[j]?=ac (ac v)):(fB caps σ)[k]?=ac (ac v):=by simp_all [fB]
def Qe (S:SR K H0 ps Z σ H Hi):SR K (H,Hi) (λ_=>al) (cp caps Z) (fB caps σ) H Hi:=by
 refine⟨S.sub,λb o e _=>e,λp l=>?_,λk d e=>?_,λk c e=>absurd e my.1,λk c e=>absurd e my.2,λk k' c c' p h=>?_,?_,λp o e=>ι e⟩
 ·obtain⟨_,z⟩:=l;exact nO z
 ·obtain⟨j,f,g⟩:=C2 e;obtain⟨v,a,b⟩:=S.D j d g;exact⟨v,yA f a,b⟩
 ·rcases h with h|h
  ·exact absurd h my.1
  exact absurd h my.2
 simp[cp,fB]
theorem E6 {Qf:Hp->Prop}(S0:SR K (A,j) psB R U6 A j)(n0:noOwn R=bd)(T:A D=al)(jw:JW K J items j)(ef:compLoop g fc fe items [] R=ac (L,Ze))(Vj:∀k f d vs,SR K (f,d) psB Ze k f d->aj j d->(∀b o,A b=ac o->¬gN psB b->f b=ac o)->(∀p o,d p=ac o->jD j A p o)->f D=ac (.L vs)->ay K d L vs->d D=al->Qf f) :
  ∃W:Nat->Nat->St->Hp->Prop,(∃m,W 0 m U6<|upd A D<|.L [])/\∀i m k f,W i m k f->(J.stop i f/\Qf f)\/(J.go i f/\∀x C,J.mB i f x C->kU K g x k C λE H2=>lB K fc E H2 λb H3 =>
   if b=bd then lV K fe E H3 λy F=>∃ys,F D=ac (.L ys)/\ys.length<cA/\∃M,M<m/\W (i+1) M E (upd F D<|.L<|ys++[y])
   else ∃M,M<m/\W (i+1) M E H3):=by
 have nl:¬gN psB D:=λl=>S0.fJ D l T;have U7:=S0.cX T;have N:∀{Z:DS}{σ:St}{H Hi:Hp}{H0:Hp×Hp}(vs:List V),SR K H0 psB Z σ H Hi->noOwn Z=bd->Hi D=al->SR K (upd H D<|.L vs,Hi) psB Z σ (upd H D<|.L vs) Hi:=λ{Z σ H Hi H0} vs S n hd=>by
  refine⟨sV S.sub hd,λb o e _=>e,λp l=>?_,S.D,λi c e=>absurd e<|El n,λi c e=>?_,S.ne,S.len,λp o e=>ι e⟩
  ·have hp:p≠D:=λz=>nl (by rw[<-z];exact l);rw[aA hp];exact S.fJ p l
  obtain⟨q,a,b,c1⟩:=S.io i c e;have hq:q≠D:=λz=>nl (by rw[<-z];exact⟨i,c1⟩);exact⟨q,a,b.keeps (aA hq) (aj.refl _) b.some.2,c1⟩
 refine⟨λi m k f=>m=items.length-i/\i<=items.length/\∃Z d G vs,SR K (f,d) psB Z k f d/\noOwn Z=bd/\aj j d/\(∀b o,A b=ac o->¬gN psB b->f b=ac o)/\(∀p o,d p=ac o->jD j A p o) /\
   f D=ac (.L vs)/\ay K d G vs/\d D=al/\compLoop g fc fe (items.drop i) G Z=ac (L,Ze),
  ⟨items.length,⋯,pe _,R,j,[],[],N [] S0 n0 U7,n0,aj.refl _,λb o e _=>by rw[aA (cZ e T)];exact e,λp o e=>ι e,bb,ρ,U7,by simpa using ef⟩,?_⟩
 rintro i m k f ⟨rfl,hi,Z,d,G,vs,S,n,sm,kb,nb,U,Y,hd,h⟩;have O:=jw i f<|sm.trans S.sub;have base:∀{p:dk},f p=al->A p=al:=λ{p} z=>by
  cases e:A p with
  | none=>rfl
  | some o =>
   by_cases l:gN psB p
   ·exact absurd z<|S.fJ p l
   rw[kb p o e l] at z;contradiction
 by_cases I:i<items.length
 ·have eg:=bt I;rw[acu I] at h;obtain⟨Z1,e2,h⟩:=oA h;obtain⟨b,Z2,e3,h⟩:=oB h;dsimp only at h;refine τ ⟨(O.1 _ eg).1,λx C y=>?_⟩;obtain⟨t,Vn,Q,rx⟩:∃t,SR K (f,d) psB Z k C t/\aj d t/\Rep K t items[i] x:=by
   rcases (O.1 _ eg).2 x C y with⟨rfl,r⟩|⟨p,ob,nn,rfl,r⟩
   ·exact⟨d,S,aj.refl _,Rep.mono sm r⟩
   obtain⟨a,b⟩:=S.laid nn;exact⟨_,a,b,r d sm<|S.cX nn⟩
  refine⟨(f,d),psB,Z,t,_,Z1,e2,Vn,rx,λE S2=>?_⟩;refine⟨(f,d),psB,Z1,t,b,Z2,e3,S2,λH3 U8 S3 s3=>?_⟩;have kp:∀{Z4:DS}{U9:St}{F u:Hp},SR K (f,d) psB Z4 U9 F u->F D=ac (.L vs)/\u D=al/\(∀b o,A b=ac o->¬gN psB b->F b=ac o)/\(∀p o,u p=ac o->jD j A p o):=λ{Z4 U9 F u} B=>by
   refine⟨B.keep D _ U nl,?_,λb o e l=>B.keep b o (kb b o e l) l,λp o e=>?_⟩
   ·cases z:u D with
    | none=>rfl
    | some o =>
     rcases B.nw D o z with w|w|⟨ts,w⟩
     ·have w:d D=ac o:=w;rw[hd] at w;exact nO w
     ·have w:f D=al:=w;rw[U] at w;contradiction
     subst w;have t1:=B.sub _ _ z;rw[B.keep D _ U nl] at t1;cases t1
   rcases B.nw p o e with w|w|w
   ·exact nb p o w
   ·exact τ<|ι<|base w
   exact τ<|τ w
  cases b with
  | false =>
   simp only[kB,if_false] at h;split at h
   ·rename_i n2;obtain⟨a1,a2,a3,a4⟩:=kp S3;exact⟨items.length-(i+1),⋯,ρ,I,Z2,U8,G,vs,S3.rebase n2,n2,(sm.trans Q).trans s3,a3,a4,a1,ay.mono (Q.trans s3) Y,a2,h⟩
   exact nO h
  | true =>
   obtain⟨yd,Z3,e4,h⟩:=oB h;split at h
   ·rename_i hz;refine⟨(f,d),psB,Z2,U8,yd,Z3,e4,S3,λv F u B s4 ry=>?_⟩;obtain⟨a1,a2,a3,a4⟩:=kp B;have sa:=(Q.trans s3).trans s4;refine⟨vs,a1,by rw[Y.length];exact hz.1,items.length-(i+1),⋯,ρ,I,Z3,u,G++[yd],vs++[v],N _ B hz.2 a2,hz.2,sm.trans sa,λb o e l=>?_,a4,bb,ay.append (ay.mono sa Y) ⟨v,[],ρ,ry,ρ⟩,a2,h⟩;rw[aA (cZ e T)];exact a3 b o e l
   exact nO h
 have ei:i=items.length:=by lia
 subst ei;rw[adY] at h;cases h;exact ι ⟨O.2<|eK _,Vj k f d vs S sm kb nb U Y hd⟩
theorem Bf:noOwn (cp caps Z)=bd:=by
 delta noOwn;rw[iN];intro s hs;obtain⟨k,d⟩:=List.getElem?_of_mem hs;cases s with
 | O c=>exact absurd d my.1
 | _=>rfl
def Ei (y:∀(H0:Hp×Hp) (ps:Nat->Option dk) (Z:DS) (σ:St) (H Hi:Hp) (items:List Dat) (j:DS) (R:It->Hp->Prop),fi Z=ac (items,j)->SR X.K H0 ps Z σ H Hi->(∀J m h,SR X.K H0 ps j σ m h->aj Hi h->JW X.K J items h->R J m)->n σ H R)(H0)(ps)(Z)(σ)(H Hi)(r)(j)(Q)(f:d9 caps al fi g fc fe Z=ac (r,j))(S:SR X.K H0 ps Z σ H Hi)(k:∀v l d,SR X.K H0 ps j σ l d->aj Hi d->RR X.K H0 ps j σ l d v r->Q v l):uV (fB caps) n (kU X.K g) (lB X.K fc) (lV X.K fe) σ H Q:=by
 obtain⟨items,Z1,A,f⟩:=oB f;dsimp only at f;obtain⟨q,Ze,B,f⟩:=oN f;obtain⟨rfl,rfl⟩:=sP f;refine y H0 ps Z σ H Hi items Z1 _ A S λJ m h C E F=>?_;intro D t;obtain⟨Hi2,u,x⟩:=nV al caps C;refine E6 (Qe u) Bf t (F.mono x) B fun σ' l d vs G sm kb I L M hd=>?_;have N:aj m l:=λb o e=>kb b o e<|λ⟨_,z⟩=>by exact nO z
 obtain⟨O,T⟩:=u.after (r:=.O<|.L q) N sm G.sub I ⟨D,ρ,⟨vs,L,M,hd⟩,t⟩;exact k (.ref D) l d O ((E.trans x).trans sm) T
def HY (k:X.calm=bd)(B:i7 X.env.scope scope)(j:gJ X.N NB scope caps=bd)(l:dh X h iter fi)(m:∀(e:List (eS×dk)) (C:dk) (d:cW) (H:Hp) (f:List dk),DG (cg X NB scope e C d H f) h g)(n:∀(e:List (eS×dk)) (C:dk) (d:cW) (H:Hp) (f:List dk),lU (cg X NB scope e C d H f) ifs fc)(o:∀(e:List (eS×dk)) (C:dk) (d:cW) (H:Hp) (f:List dk),DD (cg X NB scope e C d H f) elt fe)(hs:∀x,um iter X.env x=pure x:=by intro _;rfl) :
  DE X (.ListComp elt [⟨h,iter,ifs,0⟩] scope pos) (d9 caps al fi g fc fe):=by
 obtain⟨wi,q,r⟩:=l;exact⟨_,Ct (tc:=lB X.K fc) k B j q (λe C d H f=>⟨(m e C d H f).mG,n e C d H f,(o e C d H f).mG⟩) hs,Ei r⟩
def UP (i:Nat)(u:X.N.Nodup)(n:X.N[i]?=ac y)(z:Loc X.env.scope y)(A:X.fn y=bd\/X.env.scope.names.lookup y=some .local)(E:X.calm=bd)(B:i7 X.env.scope scope)(m:gJ X.N NB scope caps=bd)(F:dh X l iter fi)(G:∀(f:List (eS×dk)) (C:dk) (d:cW) (H:Hp) (h:List dk),DG (cg X NB scope f C d H h) l g)(I:∀(f:List (eS×dk)) (C:dk) (d:cW) (H:Hp) (h:List dk),lU (cg X NB scope f C d H h) ifs fc)(J:∀(f:List (eS×dk)) (C:dk) (d:cW) (H:Hp) (h:List dk),DD (cg X NB scope f C d H h) elt fe)(q:HT (.ListComp elt [⟨l,iter,ifs,0⟩] scope pos) (ac<|.Name y py) j.line X.env=pure true)(hs:∀x,um iter X.env x=pure x:=by intro _;rfl) :
  cK X (.Assign [.Name y py] (.ListComp elt [⟨l,iter,ifs,0⟩] scope pos) j) (iE i<|d9 caps al fi g fc fe):=by
 obtain⟨wi,L,M⟩:=F;refine⟨_,UN (g:=kU X.K g) (tc:=lB X.K fc) (te:=lV X.K fe) u n z E B m L (λf C d H h=>⟨(G f C d H h).mG,I f C d H h,(J f C d H h).mG⟩) q hs A,λH0 ps Z σ H Hi o D e S k=>?_⟩;obtain⟨r,Z1,O,e⟩:=oB e;obtain⟨Z2,Q,e⟩:=oM e;obtain rfl:=sO e;exact Ei M H0 ps Z σ H Hi r Z1 _ O S λv R t T s' U=>k _ R t (T.put U Q) s'
def QB(K:f')(ta tb:TE):TE:=fun σ H Q=>ta σ H λx d=>∃c,pJ K x d c/\if c=bd then Q x d else tb σ d Q
def Iu(K:f')(ta tb:TE):TE:=fun σ H Q=>ta σ H λx d=>∃c,pJ K x d c/\if c=bd then tb σ d Q else Q x d
theorem TV(k:PE X a ta)(l:PE X (.BoolOp .Or (b::rest) pos) tb):PE X (.BoolOp .Or (a::b::rest) pos) (QB X.K ta tb):=by
 refine λpins s σ H Q I h=>BoolOp_or (aH (k pins s σ H _ I h) λv m q=>?_);obtain⟨x,e,n,f,c,tc,g⟩:=q;refine aH (uw pins m σ e x v (λc' d=>c'=c/\d=e) n f ⟨c,tc,ρ,ρ⟩) λc' o h=>?_;obtain⟨d,j,q,r⟩:=h;subst q r;cases c' with
 | false=>exact l pins o σ d Q j g
 | true=>exact⟨x,d,j,f,g⟩
theorem P1(k:PE X a ta)(l:PE X (.BoolOp .And (b::rest) pos) tb):PE X (.BoolOp .And (a::b::rest) pos) (Iu X.K ta tb):=by
 refine λpins s σ H Q I h=>BoolOp_and (aH (k pins s σ H _ I h) λv m q=>?_);obtain⟨x,e,n,f,c,tc,g⟩:=q;refine aH (uw pins m σ e x v (λc' d=>c'=c/\d=e) n f ⟨c,tc,ρ,ρ⟩) λc' o h=>?_;obtain⟨d,j,q,r⟩:=h;subst q r;cases c' with
 | true=>exact l pins o σ d Q j g
 | false=>exact⟨x,d,j,f,g⟩
def SY(K:f')(ta:TE):TE:=fun σ H Q=>ta σ H λx d=>∃c,pJ K x d c/\Q (.bl<|!c) d
def Hr(f:PE X a ta):PE X (.UnaryOp .Not a pos) (SY X.K ta):=by refine λpins s σ H Q I h=>UnaryOp_ (aH (f pins s σ H _ I h) λv g q=>?_);obtain⟨x,e,j,k,c,tc,l⟩:=q;refine not_of (aH (uw pins g σ e x v (λc' d=>c'=c/\d=e) j k ⟨c,tc,ρ,ρ⟩) λc' s2 h=>?_);obtain⟨d,m,n,o⟩:=h;subst n o;exact⟨.bl<|!c',d,m,ρ,l⟩
noncomputable def mf:Dat->Option Bool
 | .aQ=>ac false
 | .bl b=>ac b
 | .int i=>ac (i != 0)
 | .str x=>if x.length<=cA then ac ((x.length:Int) != 0) else al
 | .L ds=>ac (!ds.isEmpty)
 | .U ds=>ac (!ds.isEmpty)
 | .bC d=>ac (!d.isEmpty)
 | .exc _=>al
 | .ins _ _=>al
 | .cv _=>al
 | .adr _=>al
 | .dn _=>al
 | .bj _ _=>al
def xi{d e:Type}{xs:List d}{ys:List e}(h:xs.length=ys.length):xs.isEmpty=ys.isEmpty:=by
 cases xs<;>cases ys<;>first|rfl|(simp at h)
theorem bJ.length:∀{d:List (eS×Dat)}{kvs:List (Key×V)},bJ K H d kvs->kvs.length=d.length
 | [],_,h=>by rw[show _=[] from h];rfl
 | (_,_)::_,_,f=>by obtain⟨v,r,e,q,t⟩:=f;simp only[e,gW,gW,bJ.length t]
theorem uZ{K:f'}{H Hi:Hp}{d:Dat}{v:V}{c:Bool}(s:aj Hi H)(r:Rep K Hi d v)(e:mf d=ac c):pJ K v H c:=by
 cases d with
 | aQ=>subst r;obtain rfl:=sO e;exact ρ
 | bl b=>subst r;obtain rfl:=sO e;exact ρ
 | int i=>subst r;obtain rfl:=sO e;exact ρ
 | str x =>
  subst r;have e:(if x.length<=cA then ac ((x.length:Int) != 0) else al)=ac c:=e;split at e
  ·rename_i hz;obtain rfl:=sO e;exact⟨hz,ρ⟩
  exact nO e
 | L ds=>obtain⟨p,vs,rfl,q,rs⟩:=r;cases e;exact ι ⟨vs,ι<|Rd.mono s q,by rw[xi rs.length]⟩
 | U ds=>obtain⟨p,vs,rfl,q,rs⟩:=r;cases e;exact τ (ι ⟨vs,ba.mono s q,by rw[xi rs.length]⟩)
 | bC f=>obtain⟨p,vs,rfl,q,rs⟩:=r;obtain rfl:=sO e;exact τ (τ ⟨vs,s _ _ q,by rw[xi (bJ.length rs)]⟩)
 | exc C=>exact nO e
 | ins C fs=>exact nO e
 | cv ns=>exact nO e
 | adr p=>exact nO e
 | dn f=>exact nO e
 | bj fz f=>exact nO e
def mI(f:DF):BF:=λZ=>(f Z).bind λp=>(mf p.1).map λc=>(c,p.2)
noncomputable def fx(f:EF):BF:=λZ=>(f Z).bind λp=>match p.1 with
 | .D (.bl b)=>ac (b,p.2)
 | _=>al
noncomputable def oX(f:BF):BF:=λZ=>(f Z).map λp=>(!p.1,p.2)
noncomputable def mX(f g:BF):BF:=λZ=>(f Z).bind λp=>if p.1=bd then g p.2 else ac (false,p.2)
noncomputable def pd(f g:BF):BF:=λZ=>(f Z).bind λp=>if p.1=bd then ac (true,p.2) else g p.2
def yI(f:DF):DF:=λZ=>(f Z).bind λp=>(mf p.1).map λc=>(.bl<|!c,p.2)
def lx(f g:DF):DF:=λZ=>(f Z).bind λp=>(mf p.1).bind λc=>if c=bd then g p.2 else ac p
def og(f g:DF):DF:=λZ=>(f Z).bind λp=>(mf p.1).bind λc=>if c=bd then ac p else g p.2
def Ue (h:DD X a f)(l:∀whole,adx a X.env whole=(do let v <-whole;acG a.pos;YZ [v] (truthy v))):DT X a (mI f):=by obtain⟨t,p,q⟩:=h;refine⟨_,Pj p l,λH0 ps Z σ H Hi c Z' Q e S k=>?_⟩;obtain⟨d,Z1,m,e⟩:=oB e;obtain⟨c',n,e⟩:=oM e;obtain⟨rfl,rfl⟩:=sP e;exact q H0 ps Z σ H Hi d _ _ m S λv o g j s' r=>⟨_,uZ j.sub r n,k o g j s'⟩
def lH (j:aS X (me op) r)(l:eG X r d)(m:DD X a f)(n:DD X b g)(o:z3 op b=bi):DT X (.Compare a [op] [b] pos) (fx<|bW d f g):=by
 obtain⟨ta,q,t⟩:=m;obtain⟨tb,u,x⟩:=n;refine⟨_,Ab j q u o,λH0 ps Z σ H Hi c Z' Q e S k=>?_⟩;obtain⟨rs,Z1,y,e⟩:=oB e;dsimp only at e;split at e
 ·obtain⟨rfl,rfl⟩:=sP e;exact vG l t x H0 ps Z σ H Hi _ _ _ y S λv z h A s' B=>⟨_,B,k z h A s'⟩
 exact nO e
def TM (h:DT X a f):DT X (.UnaryOp .Not a pos) (oX f):=by obtain⟨t,p,q⟩:=h;refine⟨_,(λe=>by exact λd s f H Q I h=>isTrue_not<|e d s f H (λc g=>Q (!c) g) I h) p,λH0 ps Z σ H Hi c Z' Q e S k=>?_⟩;obtain⟨d,Z1,j,e⟩:=oN e;obtain⟨rfl,rfl⟩:=sP e;exact q H0 ps Z σ H Hi d _ _ j S λl g m s'=>k l g m s'
def Pn (h:DT X a f):DW X (.BoolOp .And [a] pos) f:=let ⟨t,p,q⟩:=h;⟨t,Oh p,q⟩
def OU (h:DT X a f):DW X (.BoolOp .Or [a] pos) f:=let ⟨t,p,q⟩:=h;⟨t,MZ p,q⟩
theorem QC (o:DT X a f)(q:DW X (.BoolOp .And (b::rest) pos) g):DW X (.BoolOp .And (a::b::rest) pos) (mX f g):=by
 obtain⟨t1,r,t⟩:=o;obtain⟨t2,u,v⟩:=q;refine⟨_,QV r u,λH0 ps Z σ H Hi c j Q e S k=>?_⟩;obtain⟨d,Z1,x,e⟩:=oB e;refine t H0 ps Z σ H Hi d Z1 _ x S λl h m s'=>?_;cases d with
 | true=>exact v H0 ps Z1 σ l h c j Q e m λy n z A=>k y n z (s'.trans A)
 | false=>obtain⟨rfl,rfl⟩:=sP e;exact k l h m s'
theorem Qw (o:DT X a f)(q:DW X (.BoolOp .Or (b::rest) pos) g):DW X (.BoolOp .Or (a::b::rest) pos) (pd f g):=by
 obtain⟨t1,r,t⟩:=o;obtain⟨t2,u,v⟩:=q;refine⟨_,Hx r u,λH0 ps Z σ H Hi c j Q e S k=>?_⟩;obtain⟨d,Z1,x,e⟩:=oB e;refine t H0 ps Z σ H Hi d Z1 _ x S λl h m s'=>?_;cases d with
 | false=>exact v H0 ps Z1 σ l h c j Q e m λy n z A=>k y n z (s'.trans A)
 | true=>obtain⟨rfl,rfl⟩:=sP e;exact k l h m s'
def TC (h:DD X a f):DD X (.UnaryOp .Not a pos) (yI f):=by obtain⟨t,p,q⟩:=h;refine⟨_,Hr p,λH0 ps Z σ H Hi c Z' Q e S k=>?_⟩;unfold yI at e;obtain⟨d,Z1,l,e⟩:=oB e;obtain⟨c',m,e⟩:=oM e;obtain⟨rfl,rfl⟩:=sP e;exact q H0 ps Z σ H Hi d _ _ l S λv n g j s' r=>⟨_,uZ j.sub r m,k _ n g j s' ρ⟩
def MQ{op}(h:DD X a f):DD X (.BoolOp op [a] pos) f:=let ⟨t,p,q⟩:=h;⟨t,MC p,q⟩
theorem TL (o:DD X a f)(q:DD X (.BoolOp .And (b::rest) pos) g):DD X (.BoolOp .And (a::b::rest) pos) (lx f g):=by
 obtain⟨t1,t,u⟩:=o;obtain⟨t2,x,y⟩:=q;refine⟨_,P1 t x,λH0 ps Z σ H Hi c l Q e S k=>?_⟩;obtain⟨d,Z1,z,e⟩:=oB e;obtain⟨c',A,e⟩:=oA e;refine u H0 ps Z σ H Hi d Z1 _ z S λv m h j s' r=>⟨c',uZ j.sub r A,?_⟩;cases c' with
 | true=>exact y H0 ps Z1 σ m h c l Q e j λB C n D E F=>k B C n D (s'.trans E) F
 | false=>obtain⟨rfl,rfl⟩:=sP e;exact k v m h j s' r
theorem PB (o:DD X a f)(q:DD X (.BoolOp .Or (b::rest) pos) g):DD X (.BoolOp .Or (a::b::rest) pos) (og f g):=by
 obtain⟨t1,t,u⟩:=o;obtain⟨t2,x,y⟩:=q;refine⟨_,TV t x,λH0 ps Z σ H Hi c l Q e S k=>?_⟩;obtain⟨d,Z1,z,e⟩:=oB e;obtain⟨c',A,e⟩:=oA e;refine u H0 ps Z σ H Hi d Z1 _ z S λv m h j s' r=>⟨c',uZ j.sub r A,?_⟩;cases c' with
 | false=>exact y H0 ps Z1 σ m h c l Q e j λB C n D E F=>k B C n D (s'.trans E) F
 | true=>obtain⟨rfl,rfl⟩:=sP e;exact k v m h j s' r
mutual
noncomputable def toPy:Dat->PyData
 | .aQ=>.none
 | .bl b=>.bool b
 | .int i=>.int i
 | .str x=>.str x
 | .U xs=>.tuple (di xs)
 | .L xs=>.list (di xs)
 | .bC _=>.dict []
 | .exc _=>.none
 | .ins _ _=>.none
 | .cv _=>.none
 | .adr _=>.none
 | .dn _=>.none
 | .bj _ _=>.none
noncomputable def di:List Dat->List PyData
 | []=>[]
 | d::r=>toPy d::di r
end
mutual
/-- no dict within -/
noncomputable def gA:Dat->Bool
 | .U xs=>jL xs
 | .L xs=>jL xs
 | .bC _=>false
 | .exc _=>false
 | .ins _ _=>false
 | .cv _=>false
 | .adr _=>false
 | .dn _=>false
 | .bj _ _=>false
 | _=>true
noncomputable def jL:List Dat->Bool
 | []=>true
 | d::r=>gA d&&jL r
end
mutual
theorem jt(I:Inv X pins σ H s)(sm:aj Hi H):∀{d:Dat}{v:V}{u:cn},gA d=bd->Rep X.K Hi d v->RelV v u->∃as,Reads s.heap u (toPy d) as
 | .aQ,_,_,_,r,q=>by
  cases r
  cases q
  exact⟨_,.none⟩
 | .bl b,_,_,_,r,q=>by
  cases r
  cases q
  exact⟨_,.bool b⟩
 | .int i,_,_,_,r,q=>by
  cases r
  obtain⟨t,rfl⟩:=q
  exact⟨_,.int i t⟩
 | .str x,_,_,_,r,q=>by
  cases r
  obtain⟨t,rfl⟩:=q
  exact⟨_,.str x t⟩
 | .U ds,_,_,p,r,q=>by
  obtain⟨a,vs,rfl,f,rs⟩:=r
  cases q
  obtain⟨its,g,⟨o,e,j,n,k⟩,_⟩:=I.tuple<|ba.mono sm f
  obtain⟨as,h⟩:=sI I sm (show jL ds=bd from p) rs g
  exact⟨_,.tuple e j k (by simpa using h)⟩
 | .L ds,_,_,p,r,q=>by
  obtain⟨a,vs,rfl,f,rs⟩:=r
  cases q
  obtain⟨z,its,n,g,e⟩:=(Rd.mono sm f).ok I.au
  obtain⟨as,h⟩:=sI I sm (show jL ds=bd from p) rs g
  exact⟨_,.list e rfl rfl (by simpa using h)⟩
 | .bC _,_,_,p,_,_=>by cases p
 | .exc _,_,_,p,_,_=>by cases p
 | .ins _ _,_,_,p,_,_=>by cases p
 | .cv _,_,_,p,_,_=>by cases p
 | .adr _,_,_,p,_,_=>by cases p
 | .dn _,_,_,p,_,_=>by cases p
 | .bj _ _,_,_,p,_,_=>by cases p
theorem sI(I:Inv X pins σ H s)(sm:aj Hi H):∀{ds:List Dat}{vs:List V}{us:List cn},jL ds=bd->ay X.K Hi ds vs->aJ vs us->∃as,ReadsAll s.heap us (di ds) as
 | [],_,_,_,r,q=>by
  cases (show _=[] from r)
  cases q
  exact⟨_,.nil⟩
 | d::ds,_,_,p,r,q=>by
  obtain⟨v,vr,rfl,l,m⟩:=r
  cases q with
  | cons y A =>
   have p:=ma.1 (show (gA d&&jL ds)=bd from p)
   obtain⟨as,e⟩:=jt I sm p.1 l y
   obtain⟨bs,j⟩:=sI I sm p.2 m A
   exact⟨_,.cons e j⟩
end
def bQ(d:Dat):Bool:=gA d&&abi (toPy d)
def bV(d e:Dat):Bool:=P' (toPy d)<|toPy e
noncomputable def Fg(neg:Bool):Dat->Dat->Option Res
 | .L (_::_),.L []=>ac (.D<|.bl neg)
 | _,_=>al
def dg(neg:Bool):Dat->Dat->Option Res:=λd e=>if bQ d&&bQ e then ac (.D<|.bl (if neg then !bV d e else bV d e)) else Fg neg d e
def zK(K:f')(neg:Bool):R2:=λx y H Q=>∃Hi d e,aj Hi H/\Rep K Hi d x/\Rep K Hi e y/\bQ d=bd/\bQ e=bd/\Q (.bl (if neg then !bV d e else bV d e)) H
def wg(neg:Bool):R2:=λx y H Q=>∃l b z zs,x=.ref l/\y=.ref b/\Rd H l (.L (z::zs))/\Rd H b (.L [])/\Q (.bl neg) H
def yg(K:f')(neg:Bool):R2:=λx y H Q=>zK K neg x y H Q\/wg neg x y H Q
def Bv{pins:List (dk×z5)}{σ:St}{H:Hp}{s:cW}(I:Inv X pins σ H s){l b:dk}{z:V}{zs:List V}(h:Rd H l (.L (z::zs)))(j:Rd H b (.L [])):∃f g:Array cn,s.heap.IsList l f/\s.heap.IsList b g/\(f.size != g.size)=bd:=by obtain⟨z1,its,n,r,e⟩:=h.ok I.au;obtain⟨z2,d,k,m,o⟩:=j.ok I.au;have t:=m.length;refine⟨its.toArray,d.toArray,⟨_,e,ρ,n,ρ⟩,⟨_,o,ρ,k,ρ⟩,?_⟩;simp only[gs,<-r.length,<-t];rfl
def FD(d:X.A.units+64<u2):aS X (me .Eq) (yg X.K false):=aS.or ((λj=>by intro pins s σ H x y v u Q I k l h;obtain⟨Hi,d,e,sm,m,n,f,g,q⟩:=h;have f:=ma.1 f;have g:=ma.1 g;obtain⟨as,o⟩:=jt I sm f.1 m k;obtain⟨bs,r⟩:=jt I sm g.1 n l;exact eq_dataH o r f.2 g.2 j ⟨.bl<|bV d e,H,I,ρ,q⟩) d)<|(λhu=>by intro pins s σ H x y v u Q I d e h;obtain⟨l,b,z,zs,rfl,rfl,f,g,q⟩:=h;subst d;subst e;obtain⟨i1,i2,a,c,j⟩:=Bv I f g;exact afT a c j (by lia) _ _ _ _ ⟨.bl false,H,I,ρ,q⟩) d
def B'(d:X.A.units+64<u2):aS X (me .NotEq) (yg X.K true):=aS.or ((λj=>by intro pins s σ H x y v u Q I k l h;obtain⟨Hi,d,e,sm,m,n,f,g,q⟩:=h;have f:=ma.1 f;have g:=ma.1 g;obtain⟨as,o⟩:=jt I sm f.1 m k;obtain⟨bs,r⟩:=jt I sm g.1 n l;exact ne_dataH o r f.2 g.2 j ⟨.bl<|!bV d e,H,I,ρ,q⟩) d)<|(λhu=>by intro pins s σ H x y v u Q I d e h;obtain⟨l,b,z,zs,rfl,rfl,f,g,q⟩:=h;subst d;subst e;obtain⟨i1,i2,a,c,j⟩:=Bv I f g;exact afg a c j (by lia) _ _ _ _ ⟨.bl true,H,I,ρ,q⟩) d
def tD:eG X (yg X.K neg) (dg neg):=by
 intro H0 ps Z σ H Hi x y d d' o Q e S g h k;delta dg at e;split at e
 ·rename_i f;have f:=ma.1 f;obtain rfl:=sO e;exact ι ⟨Hi,d,d',S.sub,g,h,f.1,f.2,k _ H Hi S (aj.refl _) ρ⟩
 delta Fg at e;split at e
 ·obtain rfl:=sO e;obtain⟨p,vs,rfl,j,l⟩:=g;obtain⟨m,n,rfl,q,r⟩:=h;obtain⟨z,zs,rfl,_,_⟩:=l;cases (r);exact τ ⟨p,m,z,zs,ρ,ρ,Rd.mono S.sub j,Rd.mono S.sub q,k _ H Hi S (aj.refl _) ρ⟩
 exact nO e
def inD(d:Dat)(ds:List Dat):Bool:=(di ds).any λy=>P' y<|toPy d
def wB(neg:Bool):Dat->Dat->Option Res
 | d,.L ds=>if bQ d&&bQ (.L ds) then ac (.D<|.bl (if neg then !inD d ds else inD d ds)) else al
 | d,.U ds=>if bQ d&&bQ (.U ds) then ac (.D<|.bl (if neg then !inD d ds else inD d ds)) else al
 | .str x,.str y=>ac (.D<|.bl (if neg then !(!(z6 y x 0 y.length 1).isEmpty) else !(z6 y x 0 y.length 1).isEmpty))
 | _,_=>al
def vH(K:f')(neg:Bool):R2:=λx y H Q=>∃Hi d ds c,(c=.L ds\/c=.U ds)/\aj Hi H/\Rep K Hi d x/\Rep K Hi c y/\bQ d=bd/\bQ c=bd/\Q (.bl (if neg then !inD d ds else inD d ds)) H
def oh(K:f')(neg:Bool):R2:=λx y H Q=>vH K neg x y H Q\/(λx y H Q=>∃i j,x=.str i/\y=.str j/\Q (.bl (if neg then !(!(z6 j i 0 j.length 1).isEmpty) else !(z6 j i 0 j.length 1).isEmpty)) H) x y H Q
theorem Rz(d:X.A.units+65<u2):aS X (me .In) (oh X.K false):=aS.or ((fun g=>by
  intro pins s σ H x y v u Q I l m h;obtain⟨Hi,d,ds,c,n,sm,o,r,e,f,q⟩:=h;have e:=ma.1 e;have f:=ma.1 f;obtain⟨as,j⟩:=jt I sm e.1 o l;obtain⟨bs,k⟩:=jt I sm f.1 r m;rcases n with rfl|rfl
  ·exact SeqAt.in_list_reads k j (qo f.2) (qo e.2) (aax e.2 g) ⟨.bl<|inD d ds,H,I,ρ,q⟩
  exact SeqAt.in_tuple_reads k j (qo f.2) (qo e.2) (aax e.2 g) ⟨.bl<|inD d ds,H,I,ρ,q⟩) d) IL
theorem LU(d:X.A.units+65<u2):aS X (me .NotIn) (oh X.K true):=aS.or ((fun g=>by
  intro pins s σ H x y v u Q I l m h;obtain⟨Hi,d,ds,c,n,sm,o,r,e,f,q⟩:=h;have e:=ma.1 e;have f:=ma.1 f;obtain⟨as,j⟩:=jt I sm e.1 o l;obtain⟨bs,k⟩:=jt I sm f.1 r m;rcases n with rfl|rfl
  ·exact SeqAt.notIn_list_reads k j (qo f.2) (qo e.2) (aax e.2 g) ⟨.bl<|!inD d ds,H,I,ρ,q⟩
  exact SeqAt.notIn_tuple_reads k j (qo f.2) (qo e.2) (aax e.2 g) ⟨.bl<|!inD d ds,H,I,ρ,q⟩) d) NG
def Q5:eG X (oh X.K neg) (wB neg):=by
 intro H0 ps Z σ H Hi x y d d' o Q e S g h k;delta wB at e;split at e
 ·split at e
  ·rename_i f;have f:=ma.1 f;cases e;exact ι ⟨Hi,d,_,_,ι ρ,S.sub,g,h,f.1,f.2,k _ H Hi S (aj.refl _) ρ⟩
  exact nO e
 ·split at e
  ·rename_i f;have f:=ma.1 f;cases e;exact ι ⟨Hi,d,_,_,τ ρ,S.sub,g,h,f.1,f.2,k _ H Hi S (aj.refl _) ρ⟩
  exact nO e
 ·obtain rfl:=sO e;subst g;subst h;exact τ ⟨_,_,ρ,ρ,k _ H Hi S (aj.refl _) ρ⟩
 exact nO e
noncomputable def kindAt(io:Bool)(c:Dat):Slot:=if io then .io c else .O c
noncomputable def ownOf:Slot->Option (Bool×Dat)
 | .O c=>ac (false,c)
 | .io c=>ac (true,c)
 | _=>al
def tE{s:Slot}{b:Bool}{c:Dat}(h:ownOf s=ac (b,c)):s=kindAt b c:=by
 cases s<;>cases h<;>rfl
theorem SR.at(S:SR K H0 ps Z σ H Hi)(e:Z[i]?=ac (kindAt io c)):∃p,σ[i]?=ac (ac<|.ref p)/\cE K H Hi p c:=by
 cases io with
 | false=>obtain⟨p,a,b,_⟩:=S.O i c e;exact⟨p,a,b⟩
 | true=>obtain⟨p,a,b,_⟩:=S.io i c e;exact⟨p,a,b⟩
theorem SR.write (S:SR K H0 ps Z σ H Hi)(e:Z[i]?=ac (kindAt io c))(ep:σ[i]?=ac (ac<|.ref p))(t:cE K (upd H p o) Hi p c'):SR K H0 ps (Z.set i<|kindAt io c') σ (upd H p o) Hi:=by
 have x:=(cm.1 e).1;have y:Z[i]?=ac (.O c)\/Z[i]?=ac (.io c):=by
  cases io with
  | false=>exact ι e
  | true=>exact τ e
 have A:¬gN ps p->H0.1 p=al:=λnl=>by
  cases io with
  | false=>obtain⟨q,a,b,g,r⟩:=S.O i c e;rw[ep] at a;cases a;exact r
  | true=>obtain⟨q,a,b,g⟩:=S.io i c e;rw[ep] at a;cases a;exact absurd ⟨i,g⟩ nl
 have other:∀{j:Nat}{s:Slot},j≠i->(Z.set i<|kindAt io c')[j]?=ac s->Z[j]?=ac s:=λ{j s} f h=>by rw[mA (Ne.symm f)] at h;exact h
 have ab5:∀{s:Slot},(Z.set i<|kindAt io c')[i]?=ac s->s=kindAt io c':=λ{s} h=>by rw[tm x] at h;exact (Option.some.inj h).symm
 have ne:∀{j:Nat}{d:Dat}{q:dk},j≠i->(Z[j]?=ac (.O d)\/Z[j]?=ac (.io d))->σ[j]?=ac (ac<|.ref q)->q≠p:=λ{j d q} f h a z=>by subst z;exact f<|S.ne j i d c q h y a ep
 refine⟨sV S.sub t.some.2,λb u v n=>?_,λq l=>?_,λj d h=>?_,λj d h=>?_,λj d h=>?_,λj k d d' q B C D E=>?_,by rw[I1];exact S.len,S.nw⟩
 ·have F:b≠p:=λz=>by subst z;rw[A n] at v;exact nO v
  rw[aA F];exact S.keep b u v n
 ·by_cases m:q=p
  ·subst m;rw[bb];simp
  rw[aA m];exact S.fJ q l
 ·have f:j≠i:=λz=>by subst z;have:=ab5 h;cases io<;>contradiction
  exact S.D j d<|other f h
 ·by_cases f:j=i
  ·subst f;have:=ab5 h;cases io with
   | false =>
    cases this;obtain⟨q,a,b,g,r⟩:=S.O j c e;rw[ep] at a;cases a;exact⟨p,ep,t,g,r⟩
   | true=>cases this
  obtain⟨q,a,b,g,r⟩:=S.O j d<|other f h;have m:=ne f (ι<|other f h) a;exact⟨q,a,b.keeps (aA m) (aj.refl _) b.some.2,g,r⟩
 ·by_cases f:j=i
  ·subst f;have:=ab5 h;cases io with
   | true =>
    cases this;obtain⟨q,a,b,g⟩:=S.io j c e;rw[ep] at a;cases a;exact⟨p,ep,t,g⟩
   | false=>contradiction
  obtain⟨q,a,b,g⟩:=S.io j d<|other f h;have m:=ne f (τ<|other f h) a;exact⟨q,a,b.keeps (aA m) (aj.refl _) b.some.2,g⟩
 have back:∀{j:Nat}{d:Dat},((Z.set i<|kindAt io c')[j]?=ac (.O d)\/(Z.set i<|kindAt io c')[j]?=ac (.io d))->∃d',Z[j]?=ac (.O d')\/Z[j]?=ac (.io d'):=λ{j d} h=>by
  by_cases f:j=i
  ·subst f;exact⟨c,y⟩
  exact⟨d,h.imp (other f)<|other f⟩
 obtain⟨G,I⟩:=back B;obtain⟨J,L⟩:=back C;exact S.ne j k G J q I L D E
def MD(K:f')(T:String)(r:V->List V->Hp->VK->Prop)(e:Dat->List Dat->Option (Dat×Dat)):Prop:=∀(H Hi:Hp) (p:dk) (c:Dat) (ds:List Dat) (vs:List V) (d c':Dat) (Q:VK),e c ds=ac (d,c')->aj Hi H->cE K H Hi p c->ay K Hi ds vs ->
 (∀v o,cE K (upd H p o) Hi p c'->Rep K Hi d v->Q v (upd H p o))->r (.ref p) vs H Q
noncomputable def Kw:Dat->Bool
 | .L _=>true
 | _=>false
def hV(i:Nat)(d:Dat->List Dat->Option (Dat×Dat))(fa:AF):DF:=λZ=>((Z[i]?).bind ownOf).bind λs=>if Kw s.2=bd then (fa Z).bind λp=>((p.2[i]?).bind ownOf).bind λt=>(d t.2 p.1).map λq=>(q.1,p.2.set i<|kindAt t.1 q.2) else al
theorem Ko (h:hV i j fa Z=ac (d,k)) :
  ∃io c ds Z1 e f c',Z[i]?=ac (kindAt io<|.L c)/\fa Z=ac (ds,Z1)/\Z1[i]?=ac (kindAt e f)/\j f ds=ac (d,c')/\k=Z1.set i (kindAt e c'):=by
 delta hV at h;cases l:Z[i]? with
 | none=>rw[l] at h;exact nO h
 | some s =>
  rw[l] at h;obtain⟨io,c,n,h⟩:=oB h;dsimp only at h;split at h
  ·cases m:fa Z with
   | none=>rw[m] at h;exact nO h
   | some p =>
    obtain⟨ds,Z1⟩:=p;rw[m] at h;simp at h;cases g:Z1[i]? with
    | none=>rw[g] at h;exact nO h
    | some s1 =>
     rw[g] at h;obtain⟨e,f,o,h⟩:=oB h;obtain⟨d',c',q,h⟩:=oN h;dsimp only at h;obtain⟨rfl,rfl⟩:=sP h;cases c with
     | L c=>exact⟨io,c,ds,Z1,e,f,c',by rw[tE n],rfl,by rw[g,tE o],q,rfl⟩
     | _=>contradiction
  exact nO h
def FV (i:Nat)(hN:X.N[i]?=ac x)(hv:cx X.env.scope x)(A:∀{t:TA},PA X (e::f) t->PE X (.Call (.Attribute (.Name x l) m apos) (e::f) [] pos) (vi X.K "list" r (xI i) t))(B:MD X.K "list" r n)(C:DA X (e::f) fa):DD X (.Call (.Attribute (.Name x l) m apos) (e::f) [] pos) (hV i n fa):=by obtain⟨t,p,q⟩:=C;refine⟨_,A p,λH0 ps Z σ H Hi d Z' Q D S k=>?_⟩;obtain⟨io,c,ds,Z1,io',E,c',F,G,u,I,rfl⟩:=Ko D;obtain⟨a,h,J⟩:=S.at F;obtain⟨y,h0,_,_⟩:=J;refine⟨.ref a,h,ι ⟨ρ,y,cu.of h0⟩,?_⟩;refine q H0 ps Z σ H Hi ds Z1 _ G S λvs L g j M O=>?_;obtain⟨b,z,R⟩:=j.at u;rw[h] at z;cases z;exact B L g a E ds vs d c' Q I j.sub R O λv o o1 T=>k v _ g (j.write u h o1) M T
noncomputable def mw:Dat->List Dat->Option (Dat×Dat)
 | .L xs,[d]=>if xs.length<cA then ac (.aQ,.L<|xs++[d]) else al
 | _,_=>al
def JL (i:Nat)(k:X.N[i]?=ac x)(l:cx X.env.scope x)(n:DA X [e] fa)(hd:bP x:=by decide)(m:cY x:=by decide)(f:Zp (.Name x d) "append" X.env (eval (.Name x d) X.env)=eval (.Name x d) X.env:=by rfl)(j:nI X pos e:=by rfl)(g:(apos.endLine==pos.line)=bd:=by rfl)(hs:bA X e []:=by rfl):DD X (.Call (.Attribute (.Name x d) "append" apos) [e] [] pos) (hV i mw fa) :=
 FV i k l (λh=>rZ aah acN PySem.F.type_list_append FN (fH k l hd m) h f j g hs ρ) (by
   intro H Hi p c ds vs d c' Q e sm g r k;delta mw at e;split at e
   ·split at e
    ·rename_i hz;obtain⟨rfl,rfl⟩:=sP e;obtain⟨h,j,f,l⟩:=g;obtain⟨v,vr,rfl,m,n⟩:=r;subst n;exact⟨p,h,v,ρ,ρ,j,by rw[f.length];exact hz,k .aQ _ ⟨_,bb,ay.append f ⟨v,[],ρ,m,ρ⟩,l⟩ ρ⟩
    exact nO e
   exact nO e) n
end
def CD(X:Cx)(r:List V->Hp->VK->Prop)(g:List Dat->Option Res):Prop:=∀(b:Hp×Hp) (c:Nat->Option dk) (Z:DS) (d:St) (H e:Hp) (vs:List V) (ds:List Dat) (o:Res) (Q:VK),g ds=ac o->SR X.K b c Z d H e->ay X.K e ds vs ->
 (∀v f a,SR X.K b c Z d f a->aj e a->RR X.K b c Z d f a v o->Q v f)->r vs H Q
section
variable{X:Cx}{pos p:y4}{x:eS}{id T:String}{r:List V->Hp->VK->Prop}{fo:List Dat->Option Res}{e:hE}{es:List hE}{fa:AF}{K:f'}{H0:Hp×Hp}{ps:Nat->Option dk}{Z:DS}{σ:St}{H Hi:Hp}{i:Nat}{d:Dat}{v:V}{a b:hE}{P:hY}{w:nR}{mg:eS->Option cn}{base:nL}{f g:DF}{p2:y4}
def F4 (s:CD X r fo)(q:∀(H0:Hp×Hp) (ps:Nat->Option dk) (Z:DS) (σ:St) (H Hi:Hp) (ds:List Dat) (h:DS) (Q:List V->Hp->Prop),fa Z=ac (ds,h)->SR X.K H0 ps Z σ H Hi->(∀vs j c,SR X.K H0 ps h σ j c->aj Hi c->ay X.K c ds vs->Q vs j)->t σ H Q)(H0:Hp×Hp)(ps:Nat->Option dk)(Z:DS)(σ:St)(H Hi:Hp)(o:Res)(h:DS)(Q:VK)(l:bO fo fa Z=ac (o,h))(S:SR X.K H0 ps Z σ H Hi)(k:∀v j c,SR X.K H0 ps h σ j c->aj Hi c->RR X.K H0 ps h σ j c v o->Q v j):xQ r t σ H Q:=by obtain⟨ds,Z1,u,l⟩:=oB l;obtain⟨r2,y,l⟩:=oM l;obtain⟨rfl,rfl⟩:=sP l;refine q H0 ps Z σ H Hi ds _ _ u S λvs z m A B C=>?_;exact s H0 ps _ σ z m vs ds _ Q y A C λv D n E F G=>k v D n E (B.trans F) G
def gB(j:bM X (.builtin id) r)(k:CD X r fo)(l:Gl X x)(m:X.mg x=al)(n:Yo x=ac (.builtin id))(o:DA X (e::es) fa)(s:x≠"__name__":=by decide)(c:bP x:=by decide)
 (u:bA X e es:=by rfl)(h:(Zb pos<|mu es X.env).any (·.1)=bi:=by rfl):DE X (.Call (.Name x p) (e::es) [] pos) (bO fo fa):=by
 obtain⟨t,y,q⟩:=o;exact⟨_,rV j l m n y s c u h,F4 k q⟩
def sJ(j:bM X (.type T) r)(k:CD X r fo)(l:Gl X x)(m:X.mg x=al)(n:Yo x=ac (.type T))(o:DA X (e::es) fa)(s:x≠"__name__":=by decide)(c:bP x:=by decide)
 (u:bA X e es:=by rfl)(h:(Zb pos<|mu es X.env).any (·.1)=bi:=by rfl):DE X (.Call (.Name x p) (e::es) [] pos) (bO fo fa):=by
 obtain⟨t,y,q⟩:=o;exact⟨_,vh j l m n y s c u h,F4 k q⟩
noncomputable def uB:List Dat->Option Res
 | [.int i]=>ac (.D<|.int (if i<0 then -i else i))
 | _=>al
def PD:CD X (λxs H Q=>∃i,xs=[.int i]/\Q (.int (if i<0 then -i else i)) H) uB:=by
 intro H0 ps Z σ H Hi vs ds o Q e S r k;delta uB at e;split at e
 ·obtain rfl:=sO e;obtain⟨v,vr,rfl,c,h⟩:=r;subst c;subst h;exact⟨_,ρ,k _ H Hi S (aj.refl _) ρ⟩
 exact nO e
noncomputable def nG:List Dat->Option Res
 | [.int i]=>ac (.D<|.int i)
 | [.bl b]=>ac (.D<|.int (if b then 1 else 0))
 | _=>al
def Tf:CD X (λxs H Q=>(∃i,xs=[.int i]/\Q (.int i) H)\/∃k,xs=[.bl k]/\Q (.int (if k then 1 else 0)) H) nG:=by
 intro H0 ps Z σ H Hi vs ds o Q e S r k;delta nG at e;split at e
 ·cases e;obtain⟨v,j,rfl,c,h⟩:=r;cases c;subst h;exact ι ⟨_,ρ,k _ H Hi S (aj.refl _) ρ⟩
 ·cases e;obtain⟨v,j,rfl,c,h⟩:=r;subst c;subst h;exact τ ⟨_,ρ,k _ H Hi S (aj.refl _) ρ⟩
 exact nO e
noncomputable def vT:List Dat->Option Res
 | [.int i,.int j]=>ac (.D<|.int (if j<i then j else i))
 | _=>al
noncomputable def xV:List Dat->Option Res
 | [.int i,.int j]=>ac (.D<|.int (if j>i then j else i))
 | _=>al
def Ug:CD X (λxs H Q=>∃i j,xs=[.int i,.int j]/\Q (.int (if j<i then j else i)) H) vT:=by
 intro H0 ps Z σ H Hi vs ds o Q e S r k;delta vT at e;split at e
 ·obtain rfl:=sO e;obtain⟨v,vr,rfl,h,w,wr,rfl,c,l⟩:=r;subst h;subst c;subst l;exact⟨_,_,ρ,k _ H Hi S (aj.refl _) ρ⟩
 exact nO e
def Qr:CD X (λxs H Q=>∃i j,xs=[.int i,.int j]/\Q (.int (if j>i then j else i)) H) xV:=by
 intro H0 ps Z σ H Hi vs ds o Q e S r k;delta xV at e;split at e
 ·obtain rfl:=sO e;obtain⟨v,vr,rfl,h,w,wr,rfl,c,l⟩:=r;subst h;subst c;subst l;exact⟨_,_,ρ,k _ H Hi S (aj.refl _) ρ⟩
 exact nO e
noncomputable def dD:Dat->Option Nat
 | .L ds=>ac ds.length
 | .U ds=>ac ds.length
 | .bC c=>ac c.length
 | .dn c=>ac c.length
 | .str x=>if x.length<=cA then ac x.length else al
 | _=>al
def zO:List Dat->Option Res
 | [d]=>(dD d).map λn:Nat=>.D (.int (n:Int))
 | _=>al
def xG(K:f'):List V->Hp->VK->Prop:=λxs H Q=>(∃p ys,xs=[.ref p]/\(cu K H p ys\/ba K H p ys)/\Q (.int ys.length) H)\/(λxs H Q=>(λxs H Q=>(∃z,xs=[.str z]/\z.length<=cA/\Q (.int z.length) H)) xs H Q\/(λxs H Q=>∃a kvs,xs=[.ref a]/\Rd H a (.dK kvs)/\Q (.int kvs.length) H) xs H Q) xs H Q
def Cs:bM X (.builtin "len") (xG X.K):=bM.or Mi<|bM.or Ss (by intro pins s σ H xs us Q I r h;obtain⟨a,kvs,rfl,c,q⟩:=h;obtain⟨u,rfl,j⟩:=vals1 r;subst j;exact JK I c λt s' k=>⟨.int kvs.length,H,k,⟨t,ρ⟩,q⟩)
theorem Qq:CD X (xG X.K) zO:=by
 intro H0 ps Z σ H Hi vs ds o Q e S r k;delta zO at e;split at e
 ·rename_i d;obtain⟨v,vr,rfl,h,j⟩:=r;subst j;cases d with
  | L ds =>
   cases e;obtain⟨p,c,rfl,q,rs⟩:=h;refine ι ⟨p,c,ρ,ι<|ι<|Rd.mono S.sub q,k _ H Hi S (aj.refl _) ?_⟩;show V.int _=V.int _;rw[rs.length]
  | U ds =>
   cases e;obtain⟨p,c,rfl,q,rs⟩:=h;refine ι ⟨p,c,ρ,τ<|ba.mono S.sub q,k _ H Hi S (aj.refl _) ?_⟩;show V.int _=V.int _;rw[rs.length]
  | str x =>
   subst h;have e:(if x.length<=cA then ac x.length else al).map (λn:Nat=>Res.D<|.int n)=ac o:=e;split at e
   ·rename_i hz;obtain rfl:=sO e;exact τ<|ι ⟨x,ρ,hz,k _ H Hi S (aj.refl _) ρ⟩
   exact nO e
  | bC l =>
   cases e;obtain⟨p,c,rfl,q,rs⟩:=h;refine τ<|τ ⟨p,c,ρ,Rd.of<|S.sub _ _ q,k _ H Hi S (aj.refl _) ?_⟩;show V.int _=V.int _;rw[bJ.length rs]
  | dn l =>
   cases e;obtain⟨p,m,c,rfl,q,rs⟩:=h;refine τ<|τ ⟨p,c,ρ,τ ⟨m,S.sub _ _ q⟩,k _ H Hi S (aj.refl _) ?_⟩;show V.int _=V.int _;rw[bJ.length rs]
  | _=>exact nO e
 exact nO e
def rP:Dat->Dat->Option Dat
 | .L ds,.int i=>fI ds i
 | .U ds,.int i=>fI ds i
 | .str x,.int i=>if x.length<=cA then (fI x.cps.toList i).map λc=>.str ⟨#[c]⟩ else al
 | _,_=>al
noncomputable def jC:Slot->Option Dat
 | .D d=>ac d
 | .O d=>ac d
 | .io d=>ac d
 | .no=>al
def Top(K:f')(H Hi:Hp)(v:V):Dat->Prop
 | .L ds=>∃p vs,v=.ref p/\Rd H p (.L vs)/\ay K Hi ds vs
 | .U ds=>∃p vs,v=.ref p/\ba K H p vs/\ay K Hi ds vs
 | .bC c=>∃p kvs,v=.ref p/\H p=ac (.dK kvs)/\bJ K Hi c kvs
 | .bj h c=>∃p o kvs,v=.ref p/\H p=ac (if h then .bq o (.dT kvs) else .dT kvs)/\bX K Hi c kvs
 | d=>Rep K Hi d v
theorem Rep.top(r:Rep K Hi d v)(s:aj Hi H):Top K H Hi v d:=by
 cases d with
 | L ds=>obtain⟨p,vs,a,b,c⟩:=r;exact⟨p,vs,a,Rd.mono s b,c⟩
 | U ds=>obtain⟨p,vs,a,b,c⟩:=r;exact⟨p,vs,a,ba.mono s b,c⟩
 | bC ds=>obtain⟨p,vs,a,b,c⟩:=r;exact⟨p,vs,a,s _ _ b,c⟩
 | bj fz ds=>obtain⟨p,o,vs,a,b,c⟩:=r;exact⟨p,o,vs,a,s _ _ b,c⟩
 | _=>exact r
theorem cE.top{p:dk}(h:cE K H Hi p d):Top K H Hi (.ref p) d:=by
 cases d with
 | L ds=>obtain⟨vs,a,b,_⟩:=h;exact⟨p,vs,ρ,Rd.of a,b⟩
 | bC c=>obtain⟨vs,a,b,_⟩:=h;exact⟨p,vs,ρ,a,b⟩
 | bj fz c=>obtain⟨rfl,vs,a,b,_⟩:=h;exact⟨p,{cls:=.none,data:=.fields #[]},vs,ρ,a,b⟩
 | _=>exact h.elim
theorem SR.peek(S:SR K H0 ps Z σ H Hi)(e:(Z[i]?).bind jC=ac d):∃v,σ[i]?=ac (ac v)/\Top K H Hi v d:=by
 obtain⟨s,c,e⟩:=oA e;cases s with
 | no=>exact nO e
 | D d'=>cases e;obtain⟨v,a,b⟩:=S.D i d c;exact⟨v,a,b.top S.sub⟩
 | O d'=>cases e;obtain⟨p,a,b,_⟩:=S.O i d c;exact⟨_,a,b.top⟩
 | io d'=>cases e;obtain⟨p,a,b,_⟩:=S.io i d c;exact⟨_,a,b.top⟩
theorem G1 (r:ay K Hi ds vs)(e:fI ds k=ac d):∃v,fI vs k=ac v/\Rep K Hi d v:=by
 delta fI at e ⊢;rw[r.length];cases q:gv ds.length k with
 | none=>rw[q] at e;exact nO e
 | some j=>rw[q] at e;exact r.get e
def CC{x y:V}{a b:Dat}{Q:VK}(t:Top K H Hi x a)(j:Rep K Hi b y)(e:rP a b=ac d)(k:∀v,Rep K Hi d v->Q v H):Gc K x y H Q:=by
 delta rP at e;split at e
 ·obtain⟨p,vs,rfl,l,rs⟩:=t;cases j;obtain⟨v,h,m⟩:=G1 rs e;exact ι ⟨p,vs,_,v,ρ,ρ,ι l,h,k v m⟩
 ·obtain⟨p,vs,rfl,l,rs⟩:=t;cases j;obtain⟨v,h,m⟩:=G1 rs e;exact τ<|ι ⟨p,vs,_,v,ρ,ρ,l,h,k v m⟩
 ·split at e
  ·rename_i hz;subst t;subst j;obtain⟨c,h,e⟩:=oM e;obtain rfl:=sO e;exact τ<|τ ⟨_,_,c,ρ,ρ,hz,h,k _ ρ⟩
  exact nO e
 exact nO e
def pW(i:Nat):DF:=λZ=>((Z[i]?).bind jC).bind λc=>(dD c).map λn:Nat=>(.int (n:Int),Z)
theorem RA (i:Nat)(u:X.N[i]?=ac x)(y:cx X.env.scope x)(A:Gl X "len")(B:X.mg "len"=al)(hd:bP x:=by decide)(o:cY x:=by decide) :
  DD X (.Call (.Name "len" s) [.Name x q] [] pos) (pW i):=by
 refine⟨_,rV Cs A B ab2<|jR (fH u y hd o) kZ ρ,λH0 ps Z σ H Hi d Z' Q e S k=>?_⟩;obtain⟨c,C,e⟩:=oA e;cases h:dD c with
 | none=>rw[h] at e;exact nO e
 | some n =>
  rw[h] at e;obtain⟨rfl,rfl⟩:=sP e;obtain⟨v,a,t⟩:=S.peek C;refine⟨v,a,?_⟩;have j:∀m:Nat,m=n->Q (.int (m:Int)) H:=λm em=>k _ H Hi S (aj.refl _) (by rw[em];rfl);cases c with
  | L ds=>obtain⟨p,vs,rfl,l,rs⟩:=t;cases h;exact ι ⟨p,vs,ρ,ι<|ι l,j _ rs.length⟩
  | U ds=>obtain⟨p,vs,rfl,l,rs⟩:=t;cases h;exact ι ⟨p,vs,ρ,τ l,j _ rs.length⟩
  | bC D=>obtain⟨p,vs,rfl,l,rs⟩:=t;cases h;exact τ (τ ⟨p,vs,ρ,Rd.of l,j _<|bJ.length rs⟩)
  | dn D=>obtain⟨p,E,vs,rfl,l,rs⟩:=t;obtain rfl:=sO h;exact τ (τ ⟨p,vs,ρ,τ ⟨E,S.sub _ _ l⟩,j _<|bJ.length rs⟩)
  | str z =>
   subst t;have h:(if z.length<=cA then ac z.length else al)=ac n:=h;split at h
   ·rename_i hz;obtain rfl:=sO h;exact τ<|ι ⟨z,ρ,hz,j _ ρ⟩
   exact nO h
  | _=>exact nO h
def lb(i:Nat)(c f:DF):SF:=λZ=>(f Z).bind λp=>((p.2[i]?).bind ownOf).bind λ_=>(c p.2).bind λq=>match q.1 with
 | .int k=>((q.2[i]?).bind ownOf).bind λs=>(match s.2 with
  | .L xs=>(gv xs.length k).map λj=>.next (q.2.set i<|kindAt s.1<|.L<|xs.set j p.1)
  | _=>al)
 | _=>al
theorem OI (i:Nat)(W:X.N[i]?=ac x)(Y:cx X.env.scope x)(h:DD X e f)(hk:DD X l G)(hd:bP x:=by decide)(I:cY x:=by decide)(ha:∀v,ZR (.Subscript (.Name x m) l pt) X.env v=(do
   let u <-YZ [v] (eval (.Name x m) X.env);let B <-YZ [v,u] (eval l X.env)
   acG pt
   YZ [v,u,B] (adt u B v)
   release [v,u,B] []):=by intro _;rfl)(hs:ac7 [.Subscript (.Name x m) l pt] e pos.line X.env=pure false:=by rfl)(hw:ac8 [.Subscript (.Name x m) l pt] e X.env=pure al:=by rfl)(C:(u1 [.Subscript (.Name x m) l pt] X.env).map (·.2)=[ZR (.Subscript (.Name x m) l pt) X.env]:=by rfl):cK X (.Assign [.Subscript (.Name x m) l pt] e pos) (lb i G f):=by
 obtain⟨t,p,q⟩:=h;obtain⟨tk,pk,qk⟩:=hk;refine⟨_,UX p (Sd (fH W Y hd I) pk set_list ha) hs hw C,λH0 ps Z σ H Hi o D e S k=>?_⟩;obtain⟨d,Z1,e1,e⟩:=oB e;obtain⟨s0,e2,e⟩:=oA e;obtain⟨n,Z2,e3,e⟩:=oB e;dsimp only at e;split at e
 ·rename_i kk;obtain⟨io,c,J,e⟩:=oB e;dsimp only at e;cases c with
  | L xs =>
   obtain⟨j,e5,e⟩:=oM e;obtain rfl:=sO e;have E:∀{A:DS}{b:Bool}{c:Dat},(A[i]?).bind ownOf=ac (b,c)->A[i]?=ac (kindAt b c):=λ{A b c} h=>by
    cases z:A[i]? with
    | none=>rw[z] at h;exact nO h
    | some s=>rw[z] at h;rw[tE h]
   refine q H0 ps Z σ H Hi d Z1 _ e1 S λv H1 L M s1 r1=>?_;obtain⟨a,F,_⟩:=M.at<|E e2;refine⟨.ref a,F,qk H0 ps Z1 σ H1 L _ Z2 _ e3 M λy H2 O Q R r2=>?_⟩;subst r2;obtain⟨b,U,ob⟩:=Q.at<|E J;rw[F] at U;cases U;obtain⟨vs,C,V,h3⟩:=ob;refine⟨a,vs,kk,j,ρ,ρ,C,by rw[V.length];exact e5,?_⟩;exact k σ _ O (Q.write (E J) F ⟨_,bb,ay.set j V<|Rep.mono R r1,h3⟩) (s1.trans R)
  | _=>exact nO e
 exact nO e
def JS(X:Cx)(j:Nat)(i:Nat)(f:AF)(t:TA):Prop:=∀(H0:Hp×Hp) (ps:Nat->Option dk) (Z:DS) (σ:St) (H Hi:Hp) (ds:List Dat) (h:DS) (w:V) (Q:List V->Hp->Prop),f Z=ac (ds,h)->SR X.K H0 ps Z σ H Hi->σ[i]?=ac (ac w) ->
 (∀vs k c,SR X.K H0 ps h σ k c->aj Hi c->vs[j]?=ac w->ay X.K c ds (vs.eraseIdx j)->Q vs k)->t σ H Q
inductive tX (X:Cx) (es:List hE) (j i:Nat) (f:AF):Prop
 | mk (t:TA) (p:PA X es t) (q:JS X j i f t)
def IZ{x:eS}{c:y4}{es:List hE}{g:AF}(i:Nat)(m:X.N[i]?=ac x)(n:cx X.env.scope x)(h:DA X es g)(hs:mu (.Name x c::es) X.env=(false,eval (.Name x c) X.env)::mu es X.env:=by rfl)
 (hd:bP x:=by decide)(j:cY x:=by decide):tX X (.Name x c::es) 0 i g:=by
 obtain⟨t,p,q⟩:=h;refine⟨_,jR (fH m n hd j) p hs,λH0 ps Z σ H Hi ds o w Q e S s k=>⟨w,s,?_⟩⟩;exact q H0 ps Z σ H Hi ds o _ e S λvs u l y s' r=>k (w::vs) u l y s' ρ r
theorem SR.AU{K:f'}{H0:Hp×Hp}{ps:Nat->Option dk}{Z:DS}{σ:St}{H Hi l k:Hp}{v:V}{r:Res}{i:Nat}{io:Bool}{c t:Dat}{p:dk}(S:SR K H0 ps Z σ H Hi)(e:Z[i]?=ac (kindAt io c))(ep:σ[i]?=ac (ac<|.ref p))
 (s:∀b o,H b=ac o->b≠p->l b=ac o)(R:aj Hi k)(U:aj k l)(nw:∀p o,k p=ac o->jD Hi H p o)(F:cE K l k p t)(u:RC K H l k v r) :
  SR K H0 ps (Z.set i<|kindAt io t) σ l k/\RR K H0 ps (Z.set i<|kindAt io t) σ l k v r:=by
 obtain⟨q,eq,Y⟩:=S.at e;rw[ep] at eq;cases eq;obtain⟨⟨n,C⟩,hn⟩:=Y.some;obtain⟨⟨B,G⟩,I⟩:=F.some;have sH:aj H (upd l p n):=λb o D=>by
  by_cases z:b=p
  ·subst z;rw[bb];rw[C] at D;exact D
  rw[aA z];exact s b o D z
 have J:aj k (upd l p n):=sV U I;have L:RC K H (upd l p n) k v r:=by
  cases r with
  | D d=>exact u
  | O c0 =>
   obtain⟨y,E,A,m⟩:=u;have M:y≠p:=λz=>by subst z;rw[C] at m;contradiction
   exact⟨y,E,A.keeps (aA M) (aj.refl _) A.some.2,m⟩
 obtain⟨S1,rr⟩:=S.after sH R J nw L;have N:upd (upd l p n) p B=l:=by
  rw[SS];funext b;by_cases z:b=p
  ·subst z;rw[bb,G]
  rw[aA z]
 have O:=S1.write e ep (by rw[N];exact F);simp[N] at O;refine⟨O,?_⟩;cases r with
 | D d=>exact u
 | O c0 =>
  obtain⟨y,E,A,m⟩:=u;refine⟨y,E,A,(S.bz m).2,(S.bz m).1,λj d h z=>?_⟩;by_cases Q:j=i
  ·subst Q;rw[ep] at z;cases z;rw[C] at m;contradiction
  rw[mA (Ne.symm Q)] at h;exact S.dA m j d h z
def o5(fn:dG)(i:Nat)(fa:AF):EF:=λZ=>((Z[i]?).bind ownOf).bind λ_=>(fa Z).bind λp=>((p.2[i]?).bind ownOf).bind λs=>(fn s.2 p.1).map λq=>(q.1,p.2.set i<|kindAt s.1 q.2)
theorem kn{Z:DS}{i:Nat}{b:Bool}{c:Dat}(h:(Z[i]?).bind ownOf=ac (b,c)):Z[i]?=ac (kindAt b c):=by
 cases z:Z[i]? with
 | none=>rw[z] at h;exact nO h
 | some s=>rw[z] at h;rw[tE h]
def Pl (h:xM X x (eJ X.K j fn))(C:tX X (e::es) j i fa)(o:bP x:=by decide)(D:bA X e es:=by rfl)(s:(Zb pos<|mu es X.env).any (·.1)=bi:=by rfl):DE X (.Call (.Name x p) (e::es) [] pos) (o5 fn i fa):=by obtain⟨E,CX,k,f,fd,pn,F,G,I,J,L,M⟩:=h;obtain⟨t,N,q⟩:=C;refine⟨_,CI F G E I J L .nil M N o D s,λH0 ps Z σ H Hi r Z' Q l S k=>?_⟩;obtain⟨b0,c0,O,l⟩:=oB l;obtain⟨ds,Z1,R,l⟩:=oB l;obtain⟨io,c,u,l⟩:=oB l;obtain⟨r',U,V,l⟩:=oN l;dsimp only at l;obtain⟨rfl,rfl⟩:=sP l;obtain⟨a,m,_⟩:=S.at<|kn O;refine q H0 ps Z σ H Hi ds Z1 _ _ R S m λvs H1 y n W Y r1=>?_;obtain⟨b,z,ob⟩:=n.at<|kn u;rw[m] at z;cases z;refine⟨y,a,c,ds,_,U,n.sub,by rw[px];exact Y,ob,by rw[px];exact r1,V,λv H2 A a1 B a3 a4 oc rc=>?_⟩;obtain⟨S2,rr⟩:=n.AU (kn u) m a1 B a3 a4 oc rc;exact k v H2 A S2 (W.trans B) rr
noncomputable def iO(n j:Nat)(c:Dat)(ds:List Dat):DS:=(ds.map Slot.D).take j++.io c::(ds.map Slot.D).drop j++r4 (n-ds.length-1) .no
def nj(n j:Nat)(f:SF):dG:=λc ds=>(f<|iO n j c ds).bind λo=>match o with
 | .next Z=>(match Z[j]? with|some (.io h)=>ac (.D .aQ,h)|_=>al)
 | .ret r Z=>(match Z[j]? with|some (.io h)=>ac (r,h)|_=>al)
 | _=>al
theorem yR (hj:j<=ds.length)(h:(iO n j c ds)[k]?=ac s) :
  (k<j/\∃d,ds[k]?=ac d/\s=.D d)\/(k=j/\s=.io c)\/(j<k/\∃d,ds[k-1]?=ac d/\s=.D d)\/s=.no:=by
 delta iO at h;have l:((ds.map Slot.D).take j).length=j:=by rw[ib,ab];lia
 by_cases o:k<j
 ·rw[qt,k5 (by simp only[l];exact o),acx o,c6] at h;cases e:ds[k]? with
  | none=>rw[e] at h;exact nO h
  | some d=>simp_all
 rw[qt,ka (by rw[l];lia),l] at h;by_cases q:k=j
 ·subst q;rw[abG] at h;obtain rfl:=sO h;exact τ<|ι ⟨ρ,ρ⟩
 have t:j<k:=by lia
 obtain⟨m,u⟩:∃m,k-j=m+1:=⟨k-j-1,by lia⟩;simp[u] at h;by_cases y:m<((ds.map Slot.D).drop j).length
 ·rw[k5 y,abd,c6] at h;have z:j+m=k-1:=by lia
  rw[z] at h;cases e:ds[k-1]? with
  | none=>rw[e] at h;exact nO h
  | some d=>rw[e] at h;obtain rfl:=sO h;exact τ<|τ<|ι ⟨t,d,ρ,ρ⟩
 rw[ka (by lia),aaB] at h;simp_all
theorem O7{K:f'}{N:List eS}{vs:List V}{ds:List Dat}{H Hi:Hp}{j:Nat}{p:dk}{c:Dat}(s:aj Hi H)(hl:vs.length<=N.length)(A:vs[j]?=ac (.ref p))(B:cE K H Hi p c)(r:ay K Hi ds (vs.eraseIdx j)) :
  SR K (H,Hi) (fun k=>if k=j then ac p else al) (iO N.length j c ds) (start N vs) H Hi:=by
 have D:=(cm.1 A).1;have hd:=r.length;rw[aci D] at hd;have n:j<=ds.length:=⋯;have st:∀{k:Nat}{v:V},vs[k]?=ac v->(start N vs)[k]?=ac (ac v):=fun {k v} e=>by unfold start;rw[k5 (by simpa using (cm.1 e).1),c6,e];rfl
 have m:∀{k:Nat}{d:Dat},(iO N.length j c ds)[k]?≠ac (.O d):=fun {k d} h=>by rcases yR n h with⟨_,_,_,e⟩|⟨_,e⟩|⟨_,_,_,e⟩|e<;>contradiction
 have t:∀{k:Nat}{d:Dat},(iO N.length j c ds)[k]?=ac (.io d)->k=j/\d=c:=fun {k d} h=>by
  rcases yR n h with⟨_,_,_,e⟩|⟨a,e⟩|⟨_,_,_,e⟩|e
  ·contradiction
  simp_all
  ·contradiction
  contradiction
 refine⟨s,fun b o e _=>e,fun q l=>?_,fun k d e=>?_,fun k d e=>absurd e m,fun k d e=>?_,fun k E d d' q F G z1 z2=>?_,?_,fun q o e=>ι e⟩
 ·obtain⟨k,z⟩:=l;dsimp only at z;split at z
  ·obtain rfl:=sO z;obtain⟨⟨o,e⟩,_⟩:=B.some;rw[e];simp
  exact nO z
 ·rcases yR n e with⟨C,d',y,u⟩|⟨_,u⟩|⟨C,d',y,u⟩|u
  ·cases u;obtain⟨v,a,b⟩:=r.get y;rw[List.getElem?_eraseIdx_of_lt C] at a;exact⟨v,st a,b⟩
  ·contradiction
  ·cases u;obtain⟨v,a,b⟩:=r.get y;rw[List.getElem?_eraseIdx_of_ge (by lia)] at a;have:k-1+1=k:=by lia
   rw[this] at a;exact⟨v,st a,b⟩
  contradiction
 ·obtain⟨rfl,rfl⟩:=t e;exact⟨p,st A,B,⋯⟩
 ·have I:k=j:=by
   rcases F with h|h
   ·cases m h
   exact (t h).1
  have J:E=j:=by
   rcases G with h|h
   ·cases m h
   exact (t h).1
  simp only[I,J]
 grind [iO,start]
theorem LO{x y:eS}{st:Zq}{f:dk}{Y:hO}{N ps:List eS}{k j:Nat}{fn:dG}{fb:SF}(F:bc K x y st f Y)(S:bp N ps (aV st))(O:∀c ds r,fn c ds=ac r->ds.length+1=ps.length)
 (hb:∀(B:cn) (A:pA) (outer:List Env) (s:cW) (H:Hp) (E:XK),df k (A.deeper<|aay y (aV st) s.heap.objs.size f B)->ij (jP aZ P w K mg base N y (aV st) f B A outer s H E).lC (jc st) fb)
 (hf:∀c ds r,fn c ds=ac r->nj N.length j fb c ds=ac r):a9 P w K mg base aZ (k+1) f Y ps (eJ K j fn):=by
 have L:∀{vs:List V}{H Hi:Hp}{p:dk}{c:Dat}{ds:List Dat}{r:Res×Dat},vs[j]?=ac (V.ref p)->ay K Hi ds (vs.eraseIdx j)->fn c ds=ac r->vs.length=ps.length:=fun {vs H Hi p c ds r} G rs e=>by have hj:=(cm.1 G).1;have:=rs.length;rw[aci hj] at this;have:=O c ds r e;lia
 have hpl:ps.length<=N.length:=by have:=congrArg List.length S.pre;rw[ib] at this;lia
 refine F.ok S (fun vs H Q E h=>?_)<|fun B A outer s H vs Q E hr h=>?_
 ·obtain⟨Hi,p,c,ds,r,c',sm,G,oc,rs,e,_⟩:=h;exact L (H:=H) G rs e
 obtain⟨Hi,p,c,ds,r,c',sm,G,oc,rs,e,kk⟩:=h;obtain⟨t,pp,q⟩:=hb B A outer s H E hr;refine⟨t,pp,?_⟩;have l:=hf c ds (r,c') e;unfold nj at l;have hv:=L (H:=H) G rs e;obtain⟨o,e1,l⟩:=oA l;have M:∀{Z:DS}{D:St}{u m:Hp}{I:Dat},SR K (H,Hi) (fun k=>if k=j then ac p else al) Z D u m->Z[j]?=ac (.io I) ->
   (∀b o,H b=ac o->b≠p->u b=ac o)/\(∀p o,m p=ac o->jD Hi H p o)/\cE K u m p I:=fun {Z D u m I} n J=>by
  refine⟨fun b o eb hb=>n.keep b o eb fun ⟨k,z⟩=>?_,fun p o e=>n.nw p o e,?_⟩;simp_all;obtain⟨p',a,b,c2⟩:=n.io j I J;simp_all
 apply q (H,Hi) _ (iO N.length j c ds) (start N vs) H Hi o _ e1<|O7 sm (by omega) G oc rs;cases o with
 | next Z =>
  refine fun D u m n s'=>?_;simp only at l;split at l
  ·rename_i I J;cases l;obtain⟨R,U,W⟩:=M n J;exact kk .aQ u m R s' n.sub U W ρ
  exact nO l
 | ret r' Z =>
  refine fun v D u m n s' rr=>?_;simp only at l;split at l
  ·rename_i I J;cases l;obtain⟨R,U,W⟩:=M n J;apply kk v u m R s' n.sub U W;cases r with
   | D d=>exact rr
   | O c0=>obtain⟨p0,e',o,np,n0,_⟩:=rr;exact⟨p0,e',o,n0⟩
  exact nO l
 | brk Z=>exact nO l
 | cont Z=>exact nO l
 | exc C Z=>exact nO l
def eA{N:List eS}{x:eS}{i:Nat}(h:N.findIdx? (·==x)=ac i):N[i]?=ac x:=by obtain⟨c,j,_⟩:=Zn.1 h;simp_all
noncomputable def dP(i j:Int):Bool:=!(am (ro i>aaY)&&am (ro j>aaY)&&aai (ro i+ro j))
noncomputable def lQ(_ j:Int):Bool:=am (0<j)&&am (j.natAbs.log2<9000)
noncomputable def Ey(i j:Int):Bool:=am (0<=j)&&am (j<=1000000)&&am (i.natAbs<2 ^ 64)
def SD(c:DD X a f)(h:DD X b g):DE X (.BinOp a .Add b pos) (bW fq f g):=mU UB MY c h
def MS(c:DD X a f)(h:DD X b g):DE X (.BinOp a .Sub b pos) (bW (fw (λ_ _=>true) λi j=>.int<|i-j) f g):=mU (Er λ_ _ _ _ _ _ _ q=>sub_int q) (qT λ_ _ _ _=>rfl) c h
def PR(c:DD X a f)(k:DD X b g):DE X (.BinOp a .Mult b pos) (bW (fw dP λi j=>.int<|i*j) f g) :=
 mU (uK λ_ _ _ _ _ _ _ c q=>mul_int q c) (uc (λi j h=>by unfold dP at h;unfold IntMulOk;intro z;rw[z] at h;contradiction) λ_ _ _ _=>rfl) c k
def TY(c:DD X a f)(k:DD X b g):DE X (.BinOp a .FloorDiv b pos) (bW (fw lQ λi j=>.int<|i/j) f g) :=
 mU OT (uc (λi j h=>by unfold lQ at h;rw[fv] at h;exact⟨of_decide_eq_true h.1,of_decide_eq_true h.2⟩) λ_ _ _ _=>rfl) c k
def Qc(c:DD X a f)(k:DD X b g):DE X (.BinOp a .Mod b pos) (bW (fw (λ_ j=>am<|0<j) λi j=>.int<|i%j) f g) :=
 mU NJ (uc (λi j h=>of_decide_eq_true h) λ_ _ _ _=>rfl) c k
def Lv(c:DD X a f)(k:DD X b g):DE X (.BinOp a .Pow b pos) (bW (fw Ey λi j=>.int<|i ^ j.toNat) f g) :=
 mU RY (uc (λi j h=>by unfold Ey at h;rw[fv,fv] at h;exact⟨of_decide_eq_true h.1.1,of_decide_eq_true h.1.2,of_decide_eq_true h.2⟩) λ_ _ _ _=>rfl) c k
def MX(c:X.A.units+64<u2)(h:DD X a f)(j:DD X b g):DT X (.Compare a [.Eq] [b] pos) (fx<|bW (dg false) f g):=lH (FD c) tD h j<|iY _
def Qa(c:X.A.units+64<u2)(h:DD X a f)(j:DD X b g):DT X (.Compare a [.NotEq] [b] pos) (fx<|bW (dg true) f g):=lH (B' c) tD h j<|iY _
def Sq(c:DD X a f)(h:DD X b g):DT X (.Compare a [.Gt] [b] pos) (fx<|bW (fw (λ_ _=>true) λi j=>.bl<|am<|j<i) f g):=lH BP (qT λ_ _ _ _=>rfl) c h<|iY _
def Qi(c:DD X a f)(h:DD X b g):DT X (.Compare a [.GtE] [b] pos) (fx<|bW (fw (λ_ _=>true) λi j=>.bl<|am<|j<=i) f g):=lH (vy λ_ _ _ _ _ _ _ q=>ge_int q) (qT λ_ _ _ _=>rfl) c h<|iY _
def Mb (h:X.N.findIdx? (·==x)=ac i)(j:cx X.env.scope x)(hd:bP x)(c:cY x):DD X (.Name x pos) (cI i):=Jy i (eA h) j hd c
def Qu (h:X.N.findIdx? (·==x)=ac i)(j:cx X.env.scope x)(hd:bP x)(c:cY x):DE X (.Name x pos) (xN i):=Ny i (eA h) j hd c
def wj{x:eS}{e:hE}{f:EF}{c:y4}{i:Nat}(j:X.N.Nodup)(k:X.N.findIdx? (·==x)=ac i)(l:Loc X.env.scope x)(m:X.fn x=bd\/X.env.scope.names.lookup x=some .local)
 (hs:HT e (ac<|.Name x c) pos.line X.env=pure false)(h:DE X e f):cK X (.Assign [.Name x c] e pos) (iE i f):=(λi j l m n h hs=>by
   obtain⟨t,p,q⟩:=h;refine⟨_,Lk j l m p hs n,λH0 ps Z σ H Hi o D e S k=>?_⟩
   obtain⟨r,Z1,s,e⟩:=oB e;obtain⟨Z2,u,e⟩:=oM e;obtain rfl:=sO e;exact q H0 ps Z σ H Hi r Z1 _ s S λv w g y s' z=>k _ w g (y.put z u) s') i j (eA k) l m h hs
def Qj (o:X.N.findIdx? (·==x)=ac i)(q:cx X.env.scope x)(hd:bP x)(n:cY x)(s:∀v,ZR (.Subscript (.Name x j) c pt) X.env v=(do
   let k <-YZ [v] (eval (.Name x j) X.env);let l <-YZ [v,k] (eval c X.env)
   acG pt
   YZ [v,k,l] (adt k l v)
   release [v,k,l] []))(hs:ac7 [.Subscript (.Name x j) c pt] e pos.line X.env=pure false)(hw:ac8 [.Subscript (.Name x j) c pt] e X.env=pure al)(t:(u1 [.Subscript (.Name x j) c pt] X.env).map (·.2)=[ZR (.Subscript (.Name x j) c pt) X.env])(h:DD X e f)(u:DD X c m):cK X (.Assign [.Subscript (.Name x j) c pt] e pos) (lb i m f):=OI i (eA o) q h u hd n s hs hw t
abbrev OF:=DS->Option (Option Int×DS)
def Qh(X:Cx)(f:OF)(t:TO):Prop:=∀(H0:Hp×Hp) (ps:Nat->Option dk) (Z:DS) (σ:St) (H Hi:Hp) (o:Option Int) (c:DS) (Q:Option Int->Hp->Prop),f Z=ac (o,c)->SR X.K H0 ps Z σ H Hi->vR X.K H0 ps σ Hi (Q o) c->t σ H Q
inductive DO (X:Cx) (e:Option hE) (f:OF):Prop
 | mk (t:TO) (p:PO X e t) (q:Qh X f t)
noncomputable def pI:OF:=λZ=>ac (al,Z)
noncomputable def iT(f:DF):OF:=λZ=>(f Z).bind λp=>match p.1 with
 | .int i=>ac (ac i,p.2)
 | _=>al
def cutD (xs:List c)(lo h:Option Int):List c:=(xs.drop<|bh xs.length 0 lo).take (bh xs.length xs.length h-bh xs.length 0 lo)
def eX:Dat->Option Int->Option Int->Option Res
 | .L ds,lo,c=>ac (.O<|.L<|cutD ds lo c)
 | .cv ns,lo,c=>ac (.O<|.L<|(cutD ns lo c).map Dat.int)
 | .U ds,lo,c=>if bh ds.length 0 lo=0/\bh ds.length ds.length c=ds.length then al else ac (.D<|.U<|cutD ds lo c)
 | _,_,_=>al
def iS(f:DF)(l h:OF):EF:=λZ=>(f Z).bind λp=>(l p.2).bind λq=>(h q.2).bind λr=>(eX p.1 q.1 r.1).map λo=>(o,r.2)
def Jk(ns)(lo c):jh (ns.map V.int) lo c=(cutD ns lo c).map V.int:=by delta jh cutD;rw[ab,Zf,YI]
theorem ay.take:∀{ds:List Dat}{vs:List V}(n:Nat),ay K H ds vs->ay K H (ds.take n) (vs.take n)
 | [],_,n,h=>by simp only[show _=[] from h,aey,aey];exact ρ
 | _::_,_,0,c=>by obtain⟨v,r,e,q,t⟩:=c;rw[e];exact ρ
 | _::_,_,n+1,c=>by obtain⟨v,r,e,q,t⟩:=c;exact⟨v,r.take n,by rw[e];rfl,q,ay.take n t⟩
theorem ay.drop:∀{ds:List Dat}{vs:List V}(n:Nat),ay K H ds vs->ay K H (ds.drop n) (vs.drop n)
 | [],_,n,h=>by simp only[show _=[] from h,aez,aez];exact ρ
 | _::_,_,0,h=>h
 | _::_,_,n+1,c=>by obtain⟨v,r,e,q,t⟩:=c;rw[e];exact ay.drop n t
def ay.cut (lo c:Option Int)(r:ay K H ds vs):ay K H (cutD ds lo c) (jh vs lo c):=by delta cutD jh;rw[r.length];exact ay.take _<|ay.drop _ r
def KL:DO X al pI:=⟨_,Sy,λH0 ps Z σ H Hi o Z' Q e S k=>by obtain⟨rfl,rfl⟩:=sP e;exact k H Hi S<|aj.refl _⟩
def Ov (h:DD X e f):DO X (ac e) (iT f):=by
 obtain⟨t,p,q⟩:=h;refine⟨_,Rf p,λH0 ps Z σ H Hi o Z' Q e S k=>?_⟩;obtain⟨d,Z1,j,e⟩:=oB e;dsimp only at e;split at e
 ·obtain⟨rfl,rfl⟩:=sP e;exact q H0 ps Z σ H Hi _ _ _ j S λv l c m s' r=>⟨_,r,k l c m s'⟩
 exact nO e
theorem O4{f:DF}{l h:OF}{lo D:Option hE}(I:DD X e f)(hl:DO X lo l)(hh:DO X D h):DE X (.Subscript e (.Slice lo D al p2) pos) (iS f l h):=by
 obtain⟨t,p,q⟩:=I;obtain⟨tl,J,L⟩:=hl;obtain⟨th,M,N⟩:=hh;refine⟨_,K' (lJ.or QI RG) p J M,λH0 ps Z σ H Hi o Z' Q j S k=>?_⟩;obtain⟨d,Z1,O,j⟩:=oB j;cases A:l Z1 with
 | none=>rw[A] at j;exact nO j
 | some lp =>
  obtain⟨a,Z2⟩:=lp;rw[A] at j;simp at j;obtain⟨b,Z3,R,j⟩:=oB j;dsimp only at j;obtain⟨o',m,j⟩:=oM j;cases j;refine q H0 ps Z σ H Hi d Z1 _ O S λv U E V B W=>?_;refine L H0 ps Z1 σ U E a Z2 _ A V λY F S2 s=>?_;refine N H0 ps Z2 σ Y F b _ _ R S2 λH3 y c u=>?_;have C:=Rep.mono (s.trans u) W;cases d with
  | L ds =>
   cases sO m;obtain⟨p,vs,rfl,n,rs⟩:=C;refine ι ⟨p,vs,ρ,ι<|Rd.mono c.sub n,λz hz=>?_⟩;exact k (.ref z) _ y (c.made hz) ((B.trans s).trans u) ⟨z,ρ,⟨_,bb,ay.cut a b rs,c.cX hz⟩,(c.bz hz).2,(c.bz hz).1,c.dA hz⟩
  | cv ns=>obtain rfl:=sO m;obtain⟨p,rfl,n⟩:=C;refine ι ⟨p,_,ρ,cu.mono c.sub n,λz hz=>?_⟩;exact k (.ref z) _ y (c.made hz) ((B.trans s).trans u) ⟨z,ρ,⟨_,bb,by rw[Jk];exact ay.ints _,c.cX hz⟩,(c.bz hz).2,(c.bz hz).1,c.dA hz⟩
  | U ds =>
   have m:(if bh ds.length 0 a=0/\bh ds.length ds.length b=ds.length then al else ac (Res.D<|.U<|cutD ds a b))=ac o:=m;split at m
   ·exact nO m
   rename_i hn;obtain rfl:=sO m;obtain⟨p,vs,rfl,n,rs⟩:=C;refine τ ⟨p,vs,ρ,ba.mono c.sub n,by rw[rs.length];exact hn,λz hz=>?_⟩;obtain⟨S4,G⟩:=c.laid hz;exact k (.ref z) _ _ S4 (((B.trans s).trans u).trans G) ⟨z,_,ρ,ba.of bb,ay.mono G<|ay.cut a b rs⟩
  | _=>exact nO m
noncomputable def sk(k:Nat)(p:dk):Nat->Option Addr:=λm=>if m=k then ac p else al
def vP{k:Nat}{p b:dk}(h:gN (sk k p) b):b=p:=by obtain⟨m,z⟩:=h;unfold sk at z;simp_all
def NZ{caps:List (Option Nat)}{Z:DS}{H Hi:Hp}{k j:Nat}{p:dk}{c:Dat}(S:SR K H0 ps Z σ H Hi)(u:caps[k]?=ac (ac j))(ep:σ[j]?=ac (ac<|.ref p))(y:cE K H Hi p c) :
  SR K (H,Hi) (sk k p) ((cp caps Z).set k (.io c)) (fB caps σ) H Hi:=by
 have A:k<(cp caps Z).length:=by delta cp;rw[ab];exact (cm.1 u).1
 have other:∀{m:Nat}{s:Slot},m≠k->((cp caps Z).set k (.io c))[m]?=ac s->(cp caps Z)[m]?=ac s:=λ{m s} n h=>by rwa[mA (Ne.symm n)] at h
 have ab5:∀{s:Slot},((cp caps Z).set k (.io c))[k]?=ac s->s=.io c:=λ{s} h=>by rw[tm A] at h;exact (Option.some.inj h).symm
 have t:∀{m:Nat}{d:Dat},(((cp caps Z).set k (.io c))[m]?=ac (.O d)\/((cp caps Z).set k (.io c))[m]?=ac (.io d))->m=k:=λ{m d} h=>by
  by_cases n:m=k
  ·exact n
  rcases h with h|h
  ·exact absurd (other n h) my.1
  exact absurd (other n h) my.2
 refine⟨S.sub,λb o e _=>e,λq l=>?_,λm d e=>?_,λm d e=>?_,λm d e=>?_,λm m' d d' q B C _ _=>(t B).trans (t C).symm,?_,λq o e=>ι e⟩
 ·rw[vP l];obtain⟨⟨o,e⟩,_⟩:=y.some;rw[e];simp
 ·have n:m≠k:=λz=>by subst z;cases ab5 e
  obtain⟨D,E,F⟩:=C2<|other n e;obtain⟨v,a,b⟩:=S.D D d F;exact⟨v,yA E a,b⟩
 ·have n:=t<|ι e;subst n;cases ab5 e
 ·have n:=t<|τ e;subst n;cases ab5 e;exact⟨p,yA u ep,y,by unfold sk;rw[if_pos ρ]⟩
 simp[cp,fB]
theorem Me{caps:List (Option Nat)}{kb j:Nat}{U:TI}{fi:IF}{g:GF}{fc:BF}{fe:DF}
 (qi:∀(H0:Hp×Hp) (ps:Nat->Option dk) (Z:DS) (σ:St) (H Hi:Hp) (items:List Dat) (A:DS) (R:It->Hp->Prop),fi Z=ac (items,A)->SR X.K H0 ps Z σ H Hi->(∀J M C,SR X.K H0 ps A σ M C->aj Hi C->JW X.K J items C->R J M)->U σ H R)
 (H0:Hp×Hp)(ps:Nat->Option dk)(Z:DS)(σ:St)(H Hi:Hp)(r:Res)(A:DS)(Q:VK)(h:d9 caps (ac (kb,j)) fi g fc fe Z=ac (r,A))(S:SR X.K H0 ps Z σ H Hi)
 (k:∀v s u,SR X.K H0 ps A σ s u->aj Hi u->RR X.K H0 ps A σ s u v r->Q v s):uV (fB caps) U (kU X.K g) (lB X.K fc) (lV X.K fe) σ H Q:=by
 obtain⟨items,Z1,e1,h⟩:=oB h;dsimp only at h;split at h
 ·rename_i ek;refine qi H0 ps Z σ H Hi items Z1 _ e1 S λJ M C S1 s1 jw=>?_;intro D V;obtain⟨Hi2,O,Y⟩:=nV (ac (kb,j)) caps S1;have go:∀(io:Bool) (c:Dat),(bq (ac (kb,j)) caps Z1)[j]?=ac (kindAt io c)->∀(n:List Dat) (B:DS) (z:Dat),compLoop g fc fe items [] ((cp caps<|bq (ac (kb,j)) caps Z1).set kb (.io c))=ac (n,B)->B[kb]?=ac (.io z) ->
    r=.O (.L n)->A=(bq (ac (kb,j)) caps Z1).set j (kindAt io z) ->
    ∃W:Nat->Nat->St->Hp->Prop,(∃m,W 0 m (fB caps σ)<|upd M D<|.L [])/\∀i m G s,W i m G s->(J.stop i s/\Q (.ref D) s)\/(J.go i s/\∀x N,J.mB i s x N->kU X.K g x G N λE H2=>lB X.K fc E H2 λb H3 =>
     if b=bd then lV X.K fe E H3 λy H4=>∃ys,H4 D=ac (.L ys)/\ys.length<cA/\∃I,I<m/\W (i+1) I E (upd H4 D<|.L<|ys++[y])
     else ∃I,I<m/\W (i+1) I E H3):=by
   intro io c F n B z t L er ed;subst er;subst ed;obtain⟨p,ep,op⟩:=O.at F;refine E6 (NZ O ek ep op) (by
     delta noOwn;rw[iN];intro s hs;rcases List.mem_or_eq_of_mem_set hs with h|h
     ·exact iN.1 (Bf) s h
     rw[h]) V (jw.mono Y) t λG s u vs S' sm U8 nb eD ra hd=>?_
   obtain⟨q,_,oq,eq⟩:=S'.io kb z L;have hq:=vP ⟨kb,eq⟩;subst hq;obtain⟨S3,rr⟩:=O.AU (r:=.O<|.L n) F ep (λb o e hb=>U8 b o e λl=>hb<|vP l) sm S'.sub nb oq ⟨D,ρ,⟨vs,eD,ra,hd⟩,V⟩;exact k (.ref D) s u S3 ((s1.trans Y).trans sm) rr
  split at h
  ·rename_i c F;cases t:compLoop g fc fe items [] ((cp caps<|bq (ac (kb,j)) caps Z1).set kb (.io c)) with
   | none=>rw[t] at h;exact nO h
   | some q =>
    obtain⟨n,B⟩:=q;rw[t] at h;simp at h;split at h
    ·rename_i z L;cases h;exact go false c F n B z t L ρ ρ
    cases h
  ·rename_i c F;cases t:compLoop g fc fe items [] ((cp caps<|bq (ac (kb,j)) caps Z1).set kb (.io c)) with
   | none=>rw[t] at h;exact nO h
   | some q =>
    obtain⟨n,B⟩:=q;rw[t] at h;simp at h;split at h
    ·rename_i z L;cases h;exact go true c F n B z t L ρ ρ
    cases h
  exact nO h
 exact nO h
def Mh{NB:List eS}{caps:List (Option Nat)}{scope:YD}{elt iter l:hE}{ifs:List hE}{fi:IF}{g:GF}{fc:BF}{fe:DF}(kb j:Nat)(n:X.calm=bd)(B:i7 X.env.scope scope)(m:gJ X.N NB scope caps=bd)(o:dh X l iter fi)
 (q:∀(h:List (eS×dk)) (C:dk) (c:cW) (H:Hp) (k:List dk),DG (cg X NB scope h C c H k) l g)(s:∀(h:List (eS×dk)) (C:dk) (c:cW) (H:Hp) (k:List dk),lU (cg X NB scope h C c H k) ifs fc)
 (t:∀(h:List (eS×dk)) (C:dk) (c:cW) (H:Hp) (k:List dk),DD (cg X NB scope h C c H k) elt fe)(hs:∀x,um iter X.env x=pure x:=by intro _;rfl) :
  DE X (.ListComp elt [⟨l,iter,ifs,0⟩] scope pos) (d9 caps (ac (kb,j)) fi g fc fe):=by
 obtain⟨wi,u,y⟩:=o;exact⟨_,Ct (tc:=lB X.K fc) n B m u (λh C c H k=>⟨(q h C c H k).mG,s h C c H k,(t h C c H k).mG⟩) hs,Me y⟩
end
def pZ(d:Dat)(ds:List Dat):Option Nat:=(di ds).findIdx? λy=>P' y<|toPy d
def Gb(K:f'):V->List V->Hp->VK->Prop:=λx vs H Q=>∃a ds d y p b j,x=.ref p/\vs=[y]/\aj a H/\Rd H p (.L b)/\ay K a ds b/\Rep K a d y/\bQ (.L ds)=bd/\bQ d=bd/\pZ d ds=ac j/\Q (.int (j:Int)) H
section
variable{X:Cx}
def Km(B:X.A.units+65<u2):uC X "list.index" (Gb X.K):=by
 intro pins s σ H x vs v us Q I C D h;obtain⟨Hi,ds,d,y,p,ws,j,rfl,rfl,sm,E,rs,G,c,b,J,q⟩:=h;subst C;obtain⟨u,rfl,L⟩:=D.one;obtain⟨z,its,n,f,e⟩:=E.ok I.au;have c:=ma.1 c;have b:=ma.1 b;obtain⟨as,i⟩:=sI I sm (c.1) rs f;obtain⟨bs,M⟩:=jt I sm b.1 G L;have k:=qo c.2;have N:=qo b.2;have l:=SeqAt.readsAll_map _ _ _ k i;obtain⟨hj,hit,o⟩:=Zn.1 J;have hl:its.length=(di ds).length:=by simp only[<-l,ab]
 have get:∀(m:Nat) (h:m<its.toArray.size),ZS s.heap its.toArray[m]=(di ds)[m]'(by simp_all):=λm h=>by
  have a:(its.map<|ZS s.heap)[m]?=ac (ZS s.heap its.toArray[m]):=by
   rw[c6];have:its[m]?=ac its.toArray[m]:=by simp
   rw[this];rfl
  rw[l] at a;rw[bt (by rw[<-hl];simpa using h)] at a;exact (Option.some.inj a).symm
 have g:j<its.toArray.size:=by simp_all
 have hz:=f.length;have l63:=mh;refine aaX acZ ⟨_,e,ρ⟩ F.entry_list_index (F.args_list_index_2 _ _)
  (SeqAt.list_indexAt p its.toArray n al #[] u (λw=>P' (ZS s.heap w)<|toPy d) j g ?_ ?_ λm r t=>?_) ⟨e,SeqAt.items_eqAt (by simpa using i) M k N<|aax b.2 B,?_⟩
 lia
 ·rwa[get j g]
 ·rw[get m r];exact abz.2<|o m t
 exact⟨.int (j:Int),H,I.tok _,⟨_,ρ⟩,q⟩
def rA(f:DF)(fa:AF):DF:=λZ=>(f Z).bind λp=>(fa p.2).bind λq=>match p.1,q.1 with
 | .L ds,[d]=>if bQ (.L ds)&&bQ d then (pZ d ds).map λj:Nat=>(.int (j:Int),q.2) else al
 | _,_=>al
theorem NP (C:DD X o f)(D:DA X [e] fa)(E:∀{to:TE}{t:TA},PE X o to->PA X [e] t->PE X (.Call (.Attribute o "index" g) [e] [] pos) (vi X.K "list" (Gb X.K) to t)):DD X (.Call (.Attribute o "index" g) [e] [] pos) (rA f fa):=by
 obtain⟨to,F,G⟩:=C;obtain⟨t,p,q⟩:=D;refine⟨_,E F p,λr s Z u H I d Z' Q b S k=>?_⟩;obtain⟨c,Z1,J,b⟩:=oB b;cases l:fa Z1 with
 | none=>rw[l] at b;exact nO b
 | some ap =>
  obtain⟨as,Z2⟩:=ap;rw[l] at b;dsimp only[md] at b;split at b
  ·rename_i ds x;split at b
   ·rename_i h;have h:=ma.1 h;obtain⟨j,L,b⟩:=oM b;obtain⟨rfl,rfl⟩:=sP b;refine G r s Z u H I _ Z1 _ J S λv M w z N O=>?_;obtain⟨a,A,rfl,B,rs⟩:=O;refine⟨ι ⟨ρ,A,ι<|Rd.mono z.sub B⟩,q r s Z1 u M w _ _ _ l z λvs P i m n R=>?_⟩;obtain⟨y,yr,rfl,T,U⟩:=R;subst U;exact⟨i,ds,x,y,a,A,j,ρ,ρ,m.sub,Rd.mono m.sub<|Rd.mono n B,ay.mono n rs,T,h.1,h.2,L,k _ P i m (N.trans n) ρ⟩
   exact nO b
  exact nO b
end
def PE.or (h:PE X e t)(h':PE X e u):PE X e (λa H Q=>t a H Q\/u a H Q):=λb s a H Q I q=>q.elim (h b s a H Q I)<|h' b s a H Q I
def PS.or (h:PS X e t)(h':PS X e u):PS X e (λD a H=>t D a H\/u D a H):=λb s a H D I q=>q.elim (h b s a H D I)<|h' b s a H D I
def PG.or (h:PG X e t)(h':PG X e u):PG X e (λv a H Q=>t v a H Q\/u v a H Q):=λb s a H v z Q I r q=>q.elim (h b s a H v z Q I r)<|h' b s a H v z Q I r
def PN(n:Nat)(t:jf):TG:=λv b H Q=>∃a xs,v=.ref a/\Rd H a (.L xs)/\xs.length=n/\t xs b H Q
section
variable{X:Cx}{pos:y4}{K:f'}{H:Hp}{a b e:hE}{es:List hE}
def JR (i:X.calm=bd)(h:nK X es t)(j:(u1 es X.env).length=n:=by rfl)(d:(u1 es X.env).findIdx? (·.1)=al:=by rfl):PG X (.Tuple es k pos) (PN n t):=by intro c s f H v u Q I r hw;obtain⟨a,xs,l,p,hl,hw⟩:=hw;subst l;subst r;obtain⟨z,its,m,g,e⟩:=p.ok I.au;have q:s.heap.IsList a its.toArray:=⟨_,e,ρ,m,ρ⟩;refine bg<|abI ?_;delta unpack;rw[show (u1 es X.env).length=its.toArray.size by simp[j,<-hl,g.length],d];refine bg<|o3 (W.kun_itemsOf (I.ok.hd i) q λh' w=>?_);have x:=I.kept (t':=s.toks) λb o e=>w b o (hG<|fj e) e;exact h c _ f H xs _ Q x (g) hw
noncomputable def wM(n:Nat)(c:List Dat->DS->Option DS):GF
 | .U ds,Z=>if ds.length=n then c ds Z else al
 | .L ds,Z=>if ds.length=n then c ds Z else al
 | _,_=>al
def SO (i:X.calm=bd)(h:mZ X es g)(j:(u1 es X.env).length=n:=by rfl)(c:(u1 es X.env).findIdx? (·.1)=al:=by rfl):DG X (.Tuple es k pos) (wM n g):=by
 obtain⟨t,p,q⟩:=h;refine⟨_,PG.or (SG i p j c)<|JR i p j c,λl m Z o H s d u v Q e S r k=>?_⟩;unfold wM at e;split at e
 ·split at e
  ·rename_i hl;obtain⟨a,vs,rfl,f,rs⟩:=r;exact ι ⟨a,vs,ρ,ba.mono S.sub f,by rw[rs.length];exact hl,q l m Z o H s _ u vs Q e S rs k⟩
  cases e
 ·split at e
  ·rename_i hl;obtain⟨a,vs,rfl,f,rs⟩:=r;exact τ ⟨a,vs,ρ,Rd.mono S.sub f,by rw[rs.length];exact hl,q l m Z o H s _ u vs Q e S rs k⟩
  cases e
 exact nO e
noncomputable def EB:Dat->String
 | .aQ=>"NoneType" | .bl _=>"bool" | .int _=>"int" | .str _=>"str" | .U _=>"tuple" | .L _=>"list" | .bC _=>"dict" | .exc _=>"" | .ins _ _=>"" | .cv _=>"" | .adr _=>"" | .dn _=>"" | .bj _ _=>""
noncomputable def tq(T c:String):Bool:=T==c||(T == "bool" && c == "int")
noncomputable def wb:List String:=["tuple","list","str","int","bool"]
def Ln:∀T∈["NoneType","bool","int","str","tuple","list","dict"],∀c∈wb,W.kitOne [] (.type T) (.type c)=ac (tq T c):=by decide +kernel
def mq (h:T∈["NoneType","bool","int","str","tuple","list","dict"])(h':c∈wb):W.kitOne K (.type T) (.type c)=ac (tq T c):=by rw[<-Ln T h c h'];rfl
noncomputable def isExc:Dat->Bool
 | .exc _=>true
 | .ins _ _=>true
 | .cv _=>true
 | .adr _=>true
 | .dn _=>true
 | .bj _ _=>true
 | _=>false
def kh(d:Dat)(T:String):Option Bool:=if isExc d=bi/\T∈wb then ac (tq (EB d) T) else al
def QG(K:f'):List V->Hp->VK->Prop:=λxs H Q=>∃c d x T b,xs=[x,.ty T]/\aj c H/\Rep K c d x/\kh d T=ac b/\Q (.bl b) H
theorem R3:bM X (.builtin "isinstance") (QG X.K):=by
 intro m s D H xs us Q I r h;obtain⟨Hi,d,x,T,b,rfl,sm,g,e,q⟩:=h;obtain⟨u,c,rfl,j,v⟩:=r.two;subst v;delta kh at e;split at e
 case isFalse=>exact nO e
 case isTrue hh =>
  obtain rfl:=sO e;obtain⟨hx,k⟩:=hh;have f:∀tk,EP X m D Q (.bool<|tq (EB d) T) {s with toks:=tk}:=λtk=>⟨.bl _,H,I.tok _,ρ,q⟩;cases d with
  | aQ=>subst g;subst j;exact aaL W.kitx_none I.h9 ZC (mq ⋯ k) (λz=>nomatch z) f
  | bl y=>subst g;subst j;exact aaL W.kitx_bool I.h9 ZC (mq ⋯ k) (λz=>nomatch z) f
  | int i=>subst g;obtain⟨t,rfl⟩:=j;exact aaL W.kitx_int I.h9 ZC (mq ⋯ k) (λz=>nomatch z) f
  | str y=>subst g;obtain⟨t,rfl⟩:=j;exact aaL W.kitx_str I.h9 ZC (mq ⋯ k) (λz=>nomatch z) f
  | U ds=>obtain⟨p,vs,rfl,w,_⟩:=g;cases j;obtain⟨its,_,⟨o,l,A,_⟩,_⟩:=I.tuple<|ba.mono sm w;exact aaL W.kitx_tuple I.h9 ⟨o,l,A⟩ (mq ⋯ k) (λz=>nomatch z) f
  | L ds=>obtain⟨p,vs,rfl,w,_⟩:=g;cases j;obtain⟨z,its,n,_,l⟩:=(Rd.mono sm w).ok I.au;exact aaL W.kitx_list I.h9 ⟨_,l,ρ⟩ (mq ⋯ k) (λz=>nomatch z) f
  | bC B=>obtain⟨p,kvs,rfl,E,_⟩:=g;cases j;obtain⟨_,_,ws,_,o,es,ep,l,A,_⟩:=I.au p _<|sm _ _ E;exact aaL W.kitx_dict I.h9 ⟨o,l,A.1⟩ (mq ⋯ k) (λz=>nomatch z) f
  | exc C=>contradiction
  | ins C fs=>contradiction
  | cv ns=>contradiction
  | adr p=>contradiction
  | dn B=>contradiction
  | bj fz B=>contradiction
def jK(T:String)(f:DF):DF:=λZ=>(f Z).bind λp=>(kh p.1 T).map λb=>(.bl b,p.2)
def qI (r:DD X e f)(j:Gl X "isinstance")(l:X.mg "isinstance"=al)(m:Gl X g)(n:X.mg g=al)(s:Yo g=ac (.type T))(u:g≠"__name__":=by decide)(hd:bP g:=by decide)(hs:bA X e [.Name g q]:=by rfl):DD X (.Call (.Name "isinstance" p) [e,.Name g q] [] pos) (jK T f):=by obtain⟨t,w,x⟩:=r;refine⟨_,rV R3 j l (by decide +kernel) (jR w (jR (QF (v:=.ty T) m n s ρ u hd) kZ ρ) hs) ⋯ ρ hs ρ,λy z Z A H B d Z' Q h S k=>?_⟩;obtain⟨c,Z1,C,h⟩:=oB h;obtain⟨b,D,h⟩:=oM h;obtain⟨rfl,rfl⟩:=sP h;exact x y z Z A H B c _ _ C S λv E i o F G=>⟨i,c,v,T,b,ρ,o.sub,G,D,k _ E i o F ρ⟩
def nP(neg:Bool):R2:=λy x H Q=>∃a o,x=.ref a/\jj H a y o/\Q (.bl (if neg then !o.isSome else o.isSome)) H
def ye(c:X.A.units+1<u2):aS X (me .In) (nP false):=by intro pins s σ H x y v u Q I d f h;obtain⟨a,o,rfl,g,q⟩:=h;subst f;exact JA c I g d λs' i=>⟨.bl _,H,i,ρ,q⟩
def AD(c:X.A.units+1<u2):aS X (me .NotIn) (nP true):=by intro pins s σ H x y v u Q I d f h;obtain⟨a,o,rfl,g,q⟩:=h;subst f;exact Ox c I g d λs' i=>⟨.bl _,H,i,ρ,q⟩
def Jr:bM X (.type "dict") (λxs H Q=>∃a kvs,xs=[.ref a]/\Rd H a (.dK kvs)/\∀p,H p=al->Q (.ref p) (upd H p<|.dK kvs)):=by intro pins s σ H xs us Q I r h;obtain⟨a,kvs,rfl,c,q⟩:=h;obtain⟨u,rfl,d⟩:=r.one;subst d;exact QE I c λp s' f g=>⟨.ref p,_,g,ρ,q p f⟩
noncomputable def cP(c:List (eS×Dat))(k:eS):Option Dat:=(c.find? λp=>am<|p.1=k).map (·.2)
def kD(c:List (eS×Dat))(k:eS)(d:Dat):List (eS×Dat):=if (cP c k).isSome=bd then c.map (λp=>if p.1=k then (p.1,d) else p) else c++[(k,d)]
theorem bJ.find:∀{c:List (eS×Dat)}{kvs:List (Key×V)}(k:eS),bJ K H c kvs->(∀d,cP c k=ac d->∃v,fM kvs (uy k)=ac v/\Rep K H d v)/\(cP c k=al->fM kvs (uy k)=al)
 | [],_,k,h=>by rw[show _=[] from h];exact⟨λd z=>by simp[cP] at z,λ_=>rfl⟩
 | (f,d')::c,_,k,j=>by
  obtain⟨v,r,e,q,t⟩:=j;rw[e];obtain⟨a,b⟩:=bJ.find k t;by_cases g:f=k
  ·subst g;have i:cP ((f,d')::c) f=ac d':=by simp[cP]
   rw[i,p5 ρ];exact⟨λd z=>⟨v,ρ,by obtain rfl:=sO z;exact q⟩,λz=>by contradiction⟩
  have i:cP ((f,d')::c) k=cP c k:=by simp[cP,g]
  rw[i,qF (by simpa using g)];exact⟨a,b⟩
theorem bJ.has (k:eS)(h:bJ K H c kvs):(fM kvs<|uy k).isSome=(cP c k).isSome:=by
 obtain⟨a,b⟩:=h.find k;cases e:cP c k with
 | none=>rw[b e];rfl
 | some d=>obtain⟨v,f,_⟩:=a d e;rw[f];rfl
theorem bJ.js:∀{c:List (eS×Dat)}{kvs:List (Key×V)}(k:eS) {d:Dat}{v:V},bJ K H c kvs->Rep K H d v->bJ K H (c.map λp=>if p.1=k then (p.1,d) else p) (kvs.map λp=>if p.1=uy k then (p.1,v) else p)
 | [],_,k,_,_,h,_=>by simp only[show _=[] from h];exact ρ
 | (i,d')::c,_,k,d,v,j,f=>by
  obtain⟨w,r,e,q,t⟩:=j;rw[e,hS,hS];by_cases g:i=k
  ·subst g;rw[if_pos ρ,if_pos ρ];exact⟨v,_,ρ,f,bJ.js i t f⟩
  rw[if_neg g,if_neg (by simpa using g)];exact⟨w,_,ρ,q,bJ.js k t f⟩
theorem bJ.snoc:∀{f:List (eS×Dat)}{kvs:List (Key×V)}(k:eS) {d:Dat}{v:V},bJ K H f kvs->Rep K H d v->bJ K H (f++[(k,d)]) (kvs++[(uy k,v)])
 | [],_,k,_,v,h,c=>by rw[show _=[] from h];exact⟨v,[],ρ,c,ρ⟩
 | (_,_)::_,_,k,_,_,g,c=>by obtain⟨w,r,e,q,t⟩:=g;exact⟨w,r++_,by rw[e];rfl,q,bJ.snoc k t c⟩
def bJ.put (k:eS)(h:bJ K H c kvs)(f:Rep K H d v):bJ K H (kD c k d) (putK kvs (uy k) v):=by
 delta kD putK;rw[sC,h.has k];split
 ·exact h.js k f
 exact h.snoc k f
def cC:Dat->Dat->Option Dat
 | .bC d,.str k=>cP d k
 | c,n=>rP c n
def r9(f g:DF):DF:=λZ=>(f Z).bind λp=>(g p.2).bind λq=>(cC p.1 q.1).map λd=>(d,q.2)
def l9(i:Nat)(g:DF):DF:=λZ=>((Z[i]?).bind jC).bind λ_=>(g Z).bind λq=>((q.2[i]?).bind jC).bind λc=>(cC c q.1).map λd=>(d,q.2)
theorem LZ (i:Nat)(T:X.A.units+1<u2)(z:X.N[i]?=ac x)(B:cx X.env.scope x)(U:DD X b g)(hs:oC b)(hd:bP x:=by decide)(q:cY x:=by decide):DD X (.Subscript (.Name x R) b pos) (l9 i g):=by
 obtain⟨tb,C,D⟩:=U;refine⟨_,PE.or (Gi Dd (fH z B hd q) C hs)<|xZ T (fH z B hd q) C hs,λE F Z G H I d Z' Q e S k=>?_⟩;unfold l9 at e;obtain⟨c0,V,e⟩:=oA e;obtain⟨n,Z2,J,e⟩:=oB e;obtain⟨c,L,e⟩:=oA e;dsimp only at e;cases l:cC c n with
 | none=>rw[l] at e;exact nO e
 | some d' =>
  rw[l] at e;cases e;obtain⟨M,m,_⟩:=S.peek V;by_cases hd:∃O o,c=.bC O/\n=.str o
  ·obtain⟨O,o,rfl,rfl⟩:=hd;refine τ ⟨M,m,D E F Z G H I _ _ _ J S λy r f h s t=>?_⟩;obtain⟨W,j,u⟩:=h.peek L;rw[m] at j;cases j;obtain⟨p,kvs,rfl,Y,rk⟩:=u;subst t;obtain⟨v,ev,w⟩:=(rk.find o).1 d l;refine⟨p,v,ρ,?_,k v r f h s w⟩;rw[<-ev];exact jj.k (k:=uy o) Y
  have P:rP c n=ac d:=by unfold cC at l;simp_all
  refine ι ⟨M,m,D E F Z G H I _ _ _ J S λy r f h s t=>?_⟩;obtain⟨W,j,u⟩:=h.peek L;rw[m] at j;cases j;exact CC u t P λv w=>k v r f h s w
def gS(neg:Bool):Dat->Dat->Option Res
 | .str k,.bC c=>ac (.D<|.bl (if neg then !(cP c k).isSome else (cP c k).isSome))
 | .str k,.dn c=>ac (.D<|.bl (if neg then !(cP c k).isSome else (cP c k).isSome))
 | d,e=>wB neg d e
def x5:eG X (λx y H Q=>oh X.K neg x y H Q\/nP neg x y H Q) (gS neg):=by
 intro l m Z n H f x y d d' o Q e S g h k;delta gS at e;split at e
 ·cases e;rename_i c q;cases g;obtain⟨p,kvs,rfl,i,j⟩:=h;refine τ ⟨p,_,ρ,jj.k (k:=uy c)<|S.sub _ _ i,?_⟩;rw[j.has c];exact k _ H f S (aj.refl _) ρ
 ·cases e;rename_i c q;cases g;obtain⟨p,r,kvs,rfl,i,j⟩:=h;refine τ ⟨p,_,ρ,ι ⟨kvs,uy c,τ ⟨r,S.sub _ _ i⟩,ρ,ρ⟩,?_⟩;rw[j.has c];exact k _ H f S (aj.refl _) ρ
 exact ι<|Q5 l m Z n H f x y _ _ o Q e S g h k
theorem As(c:X.A.units+65<u2):aS X (me .In) (fun x y H Q=>oh X.K false x y H Q\/nP false x y H Q):=aS.or (Rz c)<|ye (by lia)
noncomputable def FE:List Dat->Option Res
 | [.bC c]=>ac (.O<|.bC c)
 | _=>al
def Ka:CD X (λxs H Q=>∃a kvs,xs=[.ref a]/\Rd H a (.dK kvs)/\∀p,H p=al->Q (.ref p) (upd H p<|.dK kvs)) FE:=by
 intro H0 ps Z σ H d vs ds o Q e S r k;delta FE at e;split at e
 ·obtain rfl:=sO e;obtain⟨v,vr,rfl,⟨p,kvs,rfl,f,g⟩,h⟩:=r;subst h;refine⟨p,kvs,ρ,Rd.of<|S.sub _ _ f,λq c=>?_⟩;exact k (.ref q) _ d (S.made c) (aj.refl _) ⟨q,ρ,⟨kvs,bb,g,S.cX c⟩,(S.bz c).2,(S.bz c).1,S.dA c⟩
 exact nO e
theorem B1 (a):∀(n:Nat) (b:Array c),(r4 n a).foldl (λx y=>x++y) b=b++(r4 n a.toList).flatten.toArray
 | 0,b=>⋯
 | n+1,b=>by rw[adg,ZO,B1 a n,adg,List.flatten_cons,adk];congr 1;apply Array.ext';simp
theorem wu{f g:Type}{R:List f->List g->Prop}(h0:R [] [])(i:∀{a b c d},R a b->R c d->R (a++c) (b++d)){a:List f}{b:List g}(h:R a b):∀n,R (r4 n a).flatten (r4 n b).flatten
 | 0=>h0
 | n+1=>i h<|wu h0 i h n
theorem NI{f g:Type}{R:f->g->Prop}{a:List f}{b:List g}{c:List f}{d:List g}(p:Zc R a b)(h:Zc R c d):Zc R (a++c) (b++d):=by
 induction p with
 | nil=>exact h
 | cons r _ i=>exact .cons r i
def AZ:R2:=λx y H Q=>∃l xs n,x=.ref l/\y=.int n/\Rd H l (.L xs)/\(0<=n/\n<=2/\xs.length<=1000)/\∀p,H p=al->Q (.ref p) (upd H p<|.L (r4 n.toNat xs).flatten)
noncomputable def GG(x:eS):It:=⟨λi _=>i<x.cps.size,λi H v d=>d=H/\∃c,x.cps[i]?=ac c/\v=.str ⟨#[c]⟩,λi _=>x.cps.size<=i⟩
def MA (x)(t)(it):Turn P w K F (GG x) [it] it (λi h=>h.IsStrIter it "str_ascii_iterator" x t i) where
 mem:=by simp
 obj:=λi h st b f=>by
  have e:b=it:=by simpa using f
  subst e;obtain⟨o,e,c,d⟩:=st;exact⟨o,e,λv z=>by rw[d] at z;contradiction⟩
 keep:=λi h h' st k=>by obtain⟨o,e,c,d⟩:=st;exact⟨o,k it (by simp) o e,c,d⟩
 item:=by intro X m hw n B i g s C H E I j st p;obtain⟨q,r,G,u,y,A⟩:=j it (by simp);have D:=ia p;refine wpAny_pyNext_ascii_item st D λh' l J=>?_;have L:Inv X g C H {s with heap:=h',toks:=s.toks+1}:=I.turned (λb o f e=>(J.2 b f).trans e) q r u y A;obtain⟨o,e,c,d⟩:=id l;exact⟨_,ρ,pM e c d ρ ⟨.str ⟨#[x.cps[i]]⟩,H,L,⟨_,ρ⟩,⟨ρ,_,D,ρ⟩,l,λb f=>(j b f).1⟩⟩
 done:=by intro X m hw n B i g s C H E I j st p;obtain⟨q,r,G,u,y,A⟩:=j it (by simp);exact wpAny_pyNext_ascii_end (I.ok.hd B) st (aaE p) λh' M=>⟨ρ,I.turned (λb o f e=>M b o f e) q r u y A⟩
 self:=λ_ _ _ _ _ st h=>wpAny_pyIter_striter_ascii st h
def OS(te:TE):TI:=λc H R=>te c H λv d=>∃x,v=.str x/\x.cps.all (·<128)=bd/\R (GG x) d
def Im (i:PE X e te):PI X g e (OS te):=by refine λd s j H R I h=>aH (i d s j H _ I h) λv c g=>?_;obtain⟨y,k,f,l,m⟩:=g;obtain⟨x,rfl,n,q⟩:=m;obtain⟨t,rfl⟩:=l;refine wpAny_pyIter_ascii n ⟨c.heap.objs.size,[c.heap.objs.size],_,_,k,ρ,f.kept λb o e=>ee _ e,MA x t _,⟨_,gj _ ρ,ρ,ρ⟩,λb p=>?_,q⟩;rw[show b=c.heap.objs.size by simpa using p];exact f.ko (eK _)<|f.au.fresh<|eK _
theorem C1:∀{ys:List eS}{us:List cn},aJ (ys.map V.str) us->aaH us ys
 | [],_,h=>by cases h;exact .nil
 | y::ys,_,h=>by
  cases h with
  | cons r t=>obtain⟨tk,rfl⟩:=r;exact .cons _ _<|C1 t
theorem zl:∀{bs:List Bool}{us:List cn},aJ (bs.map V.bl) us->us=bs.map H9
 | [],_,h=>by cases h;rfl
 | b::bs,_,h=>by
  cases h with
  | cons r t =>
   cases (r);rw[zl t];rfl
theorem Ig(bs:List Bool):((gD bs.length).all λi=>(bs[i]?).getD true)=bs.all id:=by
 induction bs with
 | nil=>rfl
 | cons b r c=>simp only[gW,acI,aas,aeR,aas,<-c];rfl
def Ta(j:X.calm=bd):bM X (.builtin "all") (λxs H Q=>∃(p:dk) (bs:List Bool),xs=[.ref p]/\Rd H p (.L<|bs.map V.bl)/\Q (.bl<|bs.all id) H):=by
 intro pins s σ H xs us Q I r h;obtain⟨p,bs,rfl,k,q⟩:=h;obtain⟨u,rfl,l⟩:=r.one;subst l;obtain⟨z,its,n,m,e⟩:=k.ok I.au;have d:=zl m;subst d;have f:s.heap.IsList p (bs.map H9).toArray:=⟨_,e,ρ,n,ρ⟩;have o:p<s.heap.objs.size:=fj e;refine call_all_walk (Yn f ⟨s.heap.objs.size,[s.heap.objs.size,p],[s.heap.objs.size],(bs.map H9).toArray.size,_,_,λi=>(bs[i]?).getD true,ρ,
  Walks.list (A:=X.A.in1) (I.ok.hd j) _ p (hG o) (bs.map H9).toArray,⟨⟨_,gj _ ρ,ρ,ρ⟩,f.push _⟩,λi v s' Q' E' c g=>?_,λh' tk t=>?_⟩)
 ·have c:(bs.map H9)[i]?=ac v:=by simpa using c
  rw[c6] at c;obtain⟨b,d,c⟩:=oM c;obtain rfl:=sO c;simp only[d,Option.getD_some] at g;exact Ym g
 have w:(gD (bs.map H9).toArray.size).all (λi=>(bs[i]?).getD true)=bs.all id:=by rw[gs,ab];exact Ig bs
 rw[w];refine⟨.bl _,H,?_,ρ,q⟩;exact I.kept (t':=tk) λb x ex=>t b x (λy=>by rw[kA.1 y] at ex;exact uz _<|fj ex)<|ee _ ex
noncomputable def alt (f g:c->Option d):c->Option d:=λa=>match f a with
 | some b=>ac b
 | none=>g a
theorem xg{c d:Type}{f g:c->Option d}{a:c}{b:d}(h:alt f g a=ac b):f a=ac b\/g a=ac b:=by unfold alt at h;split at h;simp_all;exact τ h
theorem DE.alt{e:hE}{f g:EF}(h:DE X e f)(h':DE X e g):DE X e (alt f g):=by obtain⟨t,p,q⟩:=h;obtain⟨t',n,o⟩:=h';exact⟨_,PE.or p n,fun c i Z j H l d m Q e S k=>(xg e).elim (fun e=>ι<|q c i Z j H l d m Q e S k) fun e=>τ<|o c i Z j H l d m Q e S k⟩
theorem cK.alt{st:Zq}{f g:SF}(h:cK X st f)(h':cK X st g):cK X st (alt f g):=by obtain⟨t,p,q⟩:=h;obtain⟨t',l,m⟩:=h';exact⟨_,PS.or p l,fun c d Z i H j o D e S k=>(xg e).elim (fun e=>ι<|q c d Z i H j o D e S k) fun e=>τ<|m c d Z i H j o D e S k⟩
theorem dh.alt{c iter:hE}{f g:IF}(h:dh X c iter f)(h':dh X c iter g):dh X c iter (alt f g):=by obtain⟨t,p,q⟩:=h;obtain⟨t',n,o⟩:=h';exact⟨_,PI.or p n,fun d i Z j H l items m R e S k=>(xg e).elim (fun e=>ι<|q d i Z j H l items m R e S k) fun e=>τ<|o d i Z j H l items m R e S k⟩
noncomputable def sQ:Dat->Dat->Option Res
 | .L xs,.int n=>if 0<=n/\n<=2/\xs.length<=1000 then ac (.O<|.L (r4 n.toNat xs).flatten) else al
 | _,_=>al
theorem Dh:∀{a:List Dat}{b:List V}{c:List Dat}{d:List V},ay K H a b->ay K H c d->ay K H (a++c) (b++d)
 | [],_,_,_,h,h'=>by cases (h);exact h'
 | _::_,_,_,_,f,h'=>by obtain⟨v,r,e,p,q⟩:=f;subst e;exact⟨v,_,ρ,p,Dh q h'⟩
def PZ:eG X AZ sQ:=by
 intro H0 ps Z σ H f x y d d' o Q e S g h k;delta sQ at e;split at e
 ·split at e
  ·rename_i i;obtain rfl:=sO e;obtain⟨p,vs,rfl,j,rs⟩:=g;subst h;refine⟨p,vs,_,ρ,ρ,Rd.mono S.sub j,by rw[rs.length];exact i,λq c=>?_⟩;exact k (.ref q) _ f (S.made c) (aj.refl _) ⟨q,ρ,⟨_,bb,wu (R:=ay _ _) ρ Dh rs _,S.cX c⟩,(S.bz c).2,(S.bz c).1,S.dA c⟩
  exact nO e
 exact nO e
def R' (c:DD X a f)(d:DD X b g):DE X (.BinOp a .Mult b pos) (bW sQ f g):=mU (by
  intro pins s σ H x y v u Q I d f h;obtain⟨l,xs,n,rfl,rfl,g,i,q⟩:=h;subst d;obtain⟨tk,rfl⟩:=f;obtain⟨z,its,k,r,e⟩:=g.ok I.au;have hl:=r.length;have hsz:its.toArray.size*n.toNat<=sizeLine:=by exact nE (aex (hl ▸ i.2.2) (show n.toNat<=2 by lia)) ⋯
  refine wpAny_binaryOp_repeat_ref ⋯ ⟨_,e,ρ⟩ (λs'=>aep s' n tk) noFill_list_mul
   F.fills_int_mul aeL repeat_list F.slot_int_index.lookup ?_
  refine aaX aeL (aep s n tk) F.entry_int_rmul (F.args_int_rmul_2 _ _) (int___rmul___int_list n tk l its.toArray k) ⟨e,ρ,⟨_,e,ρ⟩,?_⟩;refine aaX F.slot_list_mul ⟨_,e,ρ⟩ F.entry_list_mul (F.args_list_mul_2 _ _)
   (AutoListH.list___mul___list_int_3 l its.toArray k n tk (by simp[afh];lia) (by rw[za] at hsz;lia) (by simp only[YR];simpa using hsz)) ⟨e,?_⟩
  have j:(List.foldl (λm o=>m++o) #[] (r4 (if its.toArray.isEmpty=bd then 0 else n.toNat) its.toArray))=(r4 n.toNat its).flatten.toArray:=by
   rw[B1];split
   ·rename_i h;have:its=[]:=by simpa using h
    subst this;simp
   simp
  rw[j];have c:=wu .nil NI r n.toNat;refine⟨.ref _,_,I.vd c ?_,ρ,q _ I.fresh⟩;rwa[c.length,List.length_flatten,List.map_replicate,List.sum_replicate_nat,Nat.mul_comm]) PZ c d
noncomputable def kj(f:DF):IF:=λZ=>(f Z).bind λp=>match p.1 with
 | .str x=>if x.cps.all (·<128)=bd then ac (x.cps.toList.map λc=>.str ⟨#[c]⟩,p.2) else al
 | _=>al
def Jd (h:DD X e f):dh X n e (kj f):=by
 obtain⟨t,p,q⟩:=h;refine⟨_,Im p,λo r Z s H u items Z' R g S k=>?_⟩;obtain⟨c,Z1,w,g⟩:=oB g;dsimp only at g;split at g
 ·rename_i x;split at g
  ·rename_i z;obtain⟨rfl,rfl⟩:=sP g;refine q o r Z s H u _ _ _ w S λv A l B C D=>?_;subst D;refine⟨x,ρ,z,k _ A l B C λi H' sm=>⟨λd hd=>?_,λhl=>?_⟩⟩
   ·rw[c6,gi] at hd;obtain⟨c,m,hd⟩:=oM hd;obtain rfl:=sO hd;refine⟨(zb.1 m).1,λv H2 y=>ι ?_⟩;obtain⟨E,c',j,F⟩:=y;rw[m] at j;obtain rfl:=sO j;exact⟨E,F⟩
   show x.cps.size<=i;simpa using hl
  exact nO g
 exact nO g
noncomputable def dF:List Dat->Option (List eS)
 | []=>ac []
 | .str x::r=>(dF r).map (x::·)
 | _::_=>al
theorem kz:∀{ds:List Dat}{vs:List V}{ys:List eS},dF ds=ac ys->ay K H ds vs->vs=ys.map V.str
 | [],_,_,e,r=>by obtain rfl:=sO e;exact r
 | d::ds,_,_,e,c=>by
  obtain⟨v,vr,f,g,rs⟩:=c;cases d with
  | str x=>obtain⟨ys',h,e⟩:=oM e;obtain rfl:=sO e;simp only[f,kz h rs];subst g;rfl
  | _=>exact nO e
def r8(sep:eS)(f:DF):DF:=λZ=>(f Z).bind λp=>match p.1 with
 | .L ds=>(dF ds).bind λys=>if sep.length<=16/\(ys.map (·.length)).sum+ys.length<=1048576 then ac (.str<|aaC sep ys,p.2) else al
 | _=>al
def T9 (h:DD X e f)(r:∀{t:TA},PA X [e] t->PE X (.Call (.Attribute (.Constant (.str sep) j l) "join" i) [e] [] pos) (vi X.K "str" (λx vs H Q=>∃(sep:eS) (p:dk) (ys:List eS),x=.str sep/\vs=[.ref p]/\Rd H p (.L<|ys.map V.str)/\sep.length<=16/\(ys.map (·.length)).sum+ys.length<=1048576/\Q (.str<|aaC sep ys) H) (tC<|.str sep) t))(hs:bA X e []:=by rfl):DD X (.Call (.Attribute (.Constant (.str sep) j l) "join" i) [e] [] pos) (r8 sep f):=by
 obtain⟨t,p,q⟩:=h;refine⟨_,r<|jR p kZ hs,λs u Z w H y d Z' Q g S k=>?_⟩;obtain⟨c,Z1,z,g⟩:=oB g;dsimp only at g;split at g
 ·obtain⟨ys,A,g⟩:=oA g;split at g
  ·rename_i hz;obtain⟨rfl,rfl⟩:=sP g;refine⟨ρ,q s u Z w H y _ _ _ z S λv B m n C D=>?_⟩;obtain⟨a,vs,rfl,o,rs⟩:=D;rw[kz A rs] at o;exact⟨sep,a,ys,ρ,ρ,Rd.mono n.sub o,hz.1,hz.2,k _ B m n C ρ⟩
  exact nO g
 exact nO g
noncomputable def je:List Dat->Option (List Bool)
 | []=>ac []
 | .bl x::r=>(je r).map (x::·)
 | _::_=>al
theorem vZ:∀{ds:List Dat}{vs:List V}{ys:List Bool},je ds=ac ys->ay K H ds vs->vs=ys.map V.bl
 | [],_,_,e,r=>by obtain rfl:=sO e;exact r
 | d::ds,_,_,e,c=>by
  obtain⟨v,vr,f,g,rs⟩:=c;cases d with
  | bl x=>obtain⟨ys',h,e⟩:=oM e;obtain rfl:=sO e;simp only[f,vZ h rs];subst g;rfl
  | _=>exact nO e
def ny:List Dat->Option Res
 | [.L ds]=>(je ds).map λbs=>.D (.bl<|bs.all id)
 | _=>al
def mz(i:Nat)(d f:DF):SF:=λZ=>(f Z).bind λp=>((p.2[i]?).bind ownOf).bind λ_=>(d p.2).bind λq=>((q.2[i]?).bind ownOf).bind λs=>match s.2,q.1 with
 | .bC c,.str k=>if c.length<cA then ac (.next<|q.2.set i<|kindAt s.1<|.bC<|kD c k p.1) else al
 | _,_=>al
theorem IM (i:Nat)(M:X.A.units+1<u2)(O:X.N[i]?=ac x)(P:cx X.env.scope x)(h:DD X e f)(Q:DD X l u)(hd:bP x:=by decide)(w:cY x:=by decide)(hs:HT e (ac<|.Subscript (.Name x s) l pt) pos.line X.env=pure false:=by rfl):cK X (.Assign [.Subscript (.Name x s) l pt] e pos) (mz i u f):=by
 obtain⟨t,p,q⟩:=h;obtain⟨tk,R,T⟩:=Q;refine⟨_,Az M (fH O P hd w) R p hs,λz B Z m H U o D e S k=>?_⟩;obtain⟨d,Z1,V,e⟩:=oB e;obtain⟨b0,c0,W,e⟩:=oB e;obtain⟨n,Z2,Y,e⟩:=oB e;dsimp only at e;cases g:(Z2[i]?).bind ownOf with
 | none=>rw[g] at e;exact nO e
 | some j =>
  obtain⟨io,c⟩:=j;simp only[g] at e;dsimp only[md] at e;split at e
  ·rename_i ks C;split at e
   ·rename_i hz;obtain rfl:=sO e;refine q z B Z m H U d Z1 _ V S λv H1 E F s1 r1=>?_;obtain⟨a,r,_⟩:=F.at<|kn W;refine⟨.ref a,r,T z B Z1 m H1 E _ Z2 _ Y F λy H2 G I j r2=>?_⟩;subst r2;obtain⟨b,J,ob⟩:=I.at<|kn g;rw[r] at J;cases J;obtain⟨kvs,h1,L,h3⟩:=ob;refine⟨a,_,ρ,lj.k (k:=uy C) h1 (by rw[bJ.length L];exact hz),?_⟩;exact k m _ G (I.write (kn g) r ⟨_,bb,bJ.put C L<|Rep.mono j r1,h3⟩)<|s1.trans j
   exact nO e
  exact nO e
structure aY (P:hY) (w:nR) (K:f') (mg:eS->Option cn) (base:nL) (x:eS) (k:Nat) (sp:Sp):Prop where
 is:∃(f:dk) (fd:hO) (pn:List eS),a9 P w K mg base aZ k f fd pn sp/\mg x=ac (.ref f)/\abP K (.ref f)=bd/\Binds K fd pn []
structure fg (K:f') (mg:eS->Option cn) (x:eS) (d:Dat):Prop where
 is:∃v u,mg x=ac u/\RelV v u/\∀H,Rep K H d v
def aY.has (h:aY X.prog X.w X.K X.mg X.base x k sp)(c:Gl X x)(d:df k X.A):xM X x sp:=by obtain⟨f,g,pn,F,m,kp,b⟩:=h.is;exact⟨c,aZ,k,f,g,pn,F,d,m,kp,b,(λ_ _ _ _ _ _ _ h=>h.elim)⟩
def HN (h:fg X.K X.mg x d)(c:Gl X x)(hd:bP x):DD X (.Name x pos) (fC d):=LA ⟨c,h.is⟩ hd
def Oo (h:aY X.prog X.w X.K X.mg X.base x k (aD X.K fn))(f:Gl X x)(g:df k X.A)(c:bP x)(i:bA X e es)(d:(Zb pos<|mu es X.env).any (·.1)=bi)(j:DA X (e::es) fa):DE X (.Call (.Name x p) (e::es) [] pos) (bO fn fa):=Iv (h.has f g) j c i d
def Sf (h:aY X.prog X.w X.K X.mg X.base x k (eJ X.K j fn))(f:Gl X x)(g:df k X.A)(c:bP x)(l:bA X e es)(d:(Zb pos<|mu es X.env).any (·.1)=bi)(m:tX X (e::es) j i fa):DE X (.Call (.Name x p) (e::es) [] pos) (o5 fn i fa):=Pl (h.has f g) m c l d
def RX (f:X.N.findIdx? (·==x)=ac i)(g:cx X.env.scope x)(h:Gl X "len")(j:X.mg "len"=al)(hd:bP x)(c:cY x):DD X (.Call (.Name "len" p) [.Name x d] [] pos) (pW i):=RA i (eA f) g h j hd c
def Lr (c:Gl X "int")(d:X.mg "int"=al)(f:bA X e [])(g:DA X [e] fa):DE X (.Call (.Name "int" p) [e] [] pos) (bO nG fa):=sJ JF Tf c d (by decide +kernel) g ⋯ ρ f ρ
def NC (c:X.calm=bd)(d:Gl X "all")(f:X.mg "all"=al)(g:bA X e [])(h:DA X [e] fa):DE X (.Call (.Name "all" p) [e] [] pos) (bO ny fa):=gB (Ta c) (by
  intro H0 ps Z σ H d vs ds o Q e S r k;unfold ny at e;split at e
  ·rename_i ds';obtain⟨bs,f,e⟩:=oM e;obtain rfl:=sO e;obtain⟨v,vr,rfl,⟨a,ws,rfl,c,rs⟩,g⟩:=r;subst g;rw[vZ f rs] at c;exact⟨a,bs,ρ,Rd.mono S.sub c,k _ H d S (aj.refl _) ρ⟩
  exact nO e) d f (by decide +kernel) h ⋯ ⋯ g ρ
def Sh (d:X.calm=bd)(f:Gl X "min")(g:X.mg "min"=al)(h:bA X a [b])(c:(Zb pos<|mu [b] X.env).any (·.1)=bi)(i:DA X [a,b] fa):DE X (.Call (.Name "min" p) [a,b] [] pos) (bO vT fa):=gB (RI d) Ug f g (by decide +kernel) i ⋯ ρ h c
def Mt (d:X.calm=bd)(f:Gl X "max")(g:X.mg "max"=al)(h:bA X a [b])(c:(Zb pos<|mu [b] X.env).any (·.1)=bi)(i:DA X [a,b] fa):DE X (.Call (.Name "max" p) [a,b] [] pos) (bO xV fa):=gB (HL d) Qr f g (by decide +kernel) i ⋯ ρ h c
theorem Kb (c:X.A.units+1<u2)(hs:oC b)(d:DD X a f)(h:DD X b g):DD X (.Subscript a b pos) (r9 f g):=(λP R T hs=>by
  obtain⟨ta,E,F⟩:=R;obtain⟨tb,G,I⟩:=T;refine⟨_,PE.or (Gi Dd E G hs)<|xZ P E G hs,λm o Z q H J d Z' Q e S k=>?_⟩;unfold r9 at e;obtain⟨c,Z1,L,e⟩:=oB e;obtain⟨n,Z2,M,e⟩:=oB e;dsimp only at e;cases r:cC c n with
  | none=>rw[r] at e;exact nO e
  | some d' =>
   rw[r] at e;cases e;by_cases hd:∃N s,c=.bC N/\n=.str s
   ·obtain⟨N,s,rfl,rfl⟩:=hd;refine τ (F m o Z q H J _ Z1 _ L S λx t h u w z=>?_);refine I m o Z1 q t h _ _ _ M u λy B i j l C=>?_;obtain⟨p,kvs,rfl,U,V⟩:=Rep.mono l z;subst C;obtain⟨v,W,D⟩:=(V.find s).1 d r;refine⟨p,v,ρ,?_,k v B i j (w.trans l) D⟩;rw[<-W];exact jj.k (k:=uy s)<|j.sub _ _ U
   have O:rP c n=ac d:=by unfold cC at r;simp_all
   refine ι (F m o Z q H J _ Z1 _ L S λx t h u w z=>?_);refine I m o Z1 q t h _ _ _ M u λy B i j l C=>?_
   exact CC ((Rep.mono l z).top j.sub) C O λv D=>k v B i j (w.trans l) D) c d h hs
def Kf (f:X.N.findIdx? (·==x)=ac i)(h:cx X.env.scope x)(j:X.A.units+1<u2)(hd:bP x)(c:cY x)(hs:oC b)(k:DD X b g):DD X (.Subscript (.Name x d) b pos) (l9 i g):=LZ i j (eA f) h k hs hd c
def Rp (c:X.A.units+64<u2)(d:DD X a f)(h:DD X b g):DE X (.Compare a [.Eq] [b] pos) (bW (dg false) f g):=pN (FD c) tD d h<|iY _
def Nd (c:X.A.units+64<u2)(d:DD X a f)(h:DD X b g):DE X (.Compare a [.NotEq] [b] pos) (bW (dg true) f g):=pN (B' c) tD d h<|iY _
def HI (c:DD X a f)(d:DD X b g):DE X (.Compare a [.Gt] [b] pos) (bW (fw (λ_ _=>true) λi j=>.bl<|am<|j<i) f g):=pN BP (qT λ_ _ _ _=>rfl) c d<|iY _
def Ip (c:X.A.units+65<u2)(d:z3 .In b=bi)(h:DD X a f)(i:DD X b g):DE X (.Compare a [.In] [b] pos) (bW (gS false) f g):=pN (As c) x5 h i d
def HK (c:X.A.units+65<u2)(d:z3 .In b=bi)(h:DD X a f)(i:DD X b g):DT X (.Compare a [.In] [b] pos) (fx<|bW (gS false) f g):=lH (As c) x5 h i d
theorem Ol{a b:hE}{f g:DF}(c:X.A.units+65<u2)(d:z3 .NotIn b=bi)(h:DD X a f)(i:DD X b g):DT X (.Compare a [.NotIn] [b] pos) (fx<|bW (gS true) f g):=lH ((fun c=>aS.or (LU c)<|AD (by lia)) c) x5 h i d
def Kc (h:DD X a f):DD X (.UnaryOp .USub a pos) (λZ=>(f Z).bind λp=>match p.1 with|.int i=>ac (.int<|-i,p.2)|_=>al):=by
 obtain⟨t,p,q⟩:=h;refine⟨_,ML (JX λ_ _ _ _ _ q=>neg_int q) p,λl m Z n H o d Z' Q g S k=>?_⟩;obtain⟨c,Z1,r,g⟩:=oB g;dsimp only at g;split at g
 ·obtain⟨rfl,rfl⟩:=sP g;refine q l m Z n H o _ _ _ r S λv s j u w x=>?_;subst x;exact⟨_,ρ,k _ s j u w ρ⟩
 exact nO g
noncomputable def gE(scope:YD):List Str:=(scope.names.filter λp=>p.2 != .globalImplicit).map (·.1)
def pK(N:List eS)(scope:YD):List (Option Nat):=(gE scope).map λx=>if scope.names.lookup x==some .free then N.findIdx? (·==x) else al
def CO (hnd:N.Nodup)(hXN:X.N=N)(j:X.calm=bd)(B:i7 X.env.scope scope)(i:gJ X.N (gE scope) scope (pK N scope)=bd)(hs:∀x,um iter X.env x=pure x)(k:dh X h iter fi)(l:∀(d:List (eS×dk)) (C:dk) (c:cW) (H:Hp) (f:List dk),DG (cg X (gE scope) scope d C c H f) h g)(m:∀(d:List (eS×dk)) (C:dk) (c:cW) (H:Hp) (f:List dk),lU (cg X (gE scope) scope d C c H f) ifs fc)(n:∀(d:List (eS×dk)) (C:dk) (c:cW) (H:Hp) (f:List dk),DD (cg X (gE scope) scope d C c H f) elt fe):DE X (.ListComp elt [⟨h,iter,ifs,0⟩] scope pos) (d9 (pK N scope) al fi g fc fe):=HY j B i k l m n hs
def Nz (l:N.Nodup)(m:X.N=N)(n:X.N.findIdx? (·==y)=ac i)(p:Loc X.env.scope y)(q:X.fn y=bd\/X.env.scope.names.lookup y=some .local)(o:HT (.ListComp elt [⟨j,iter,ifs,0⟩] scope pos) (ac<|.Name y py) d.line X.env=pure true)(r:X.calm=bd)(B:i7 X.env.scope scope)(k:gJ X.N (gE scope) scope (pK N scope)=bd)(hs:∀x,um iter X.env x=pure x)(s:dh X j iter fi)(t:∀(f:List (eS×dk)) (C:dk) (c:cW) (H:Hp) (h:List dk),DG (cg X (gE scope) scope f C c H h) j g)(u:∀(f:List (eS×dk)) (C:dk) (c:cW) (H:Hp) (h:List dk),lU (cg X (gE scope) scope f C c H h) ifs fc)(v:∀(f:List (eS×dk)) (C:dk) (c:cW) (H:Hp) (h:List dk),DD (cg X (gE scope) scope f C c H h) elt fe):cK X (.Assign [.Name y py] (.ListComp elt [⟨j,iter,ifs,0⟩] scope pos) d) (iE i<|d9 (pK N scope) al fi g fc fe) :=
 UP i (m ▸ l) (eA n) p q r B k s t u v o hs
def Rt (c:X.N.Nodup)(d:X.N.findIdx? (·==x)=ac i)(f:Loc X.env.scope x)(g:X.fn x=bd\/X.env.scope.names.lookup x=some .local):DG X (.Name x py) (zC i):=(λi f g h j=>by
  refine⟨_,S9 f g h j,λH0 ps Z σ H Hi d Z' v Q e S r k=>?_⟩
  exact k _<|S.put (r:=.D d) r e) i c (eA d) f g
def Ir (m:X.N.findIdx? (·==x)=ac i)(n:cx X.env.scope x)(hd:bP x)(k:cY x)(g:Zp (.Name x d) "append" X.env (eval (.Name x d) X.env)=eval (.Name x d) X.env)(j:nI X pos e)(h:(c.endLine==pos.line)=bd)(hs:bA X e [])(l:HT (.Call (.Attribute (.Name x d) "append" c) [e] [] pos) al f.line X.env=pure false)(o:DA X [e] fa) :
  cK X (.Expr (.Call (.Attribute (.Name x d) "append" c) [e] [] pos) f) (lS<|hV i mw fa):=yy (JL i (eA m) n o hd k g j h hs) l
def O6 (g:Zp (.Constant (.str sep) j d) "join" X.env (eval (.Constant (.str sep) j d) X.env)=eval (.Constant (.str sep) j d) X.env)(k:nI X pos e)(i:(c.endLine==pos.line)=bd)(hs:bA X e [])(h:DD X e f):DD X (.Call (.Attribute (.Constant (.str sep) j d) "join" c) [e] [] pos) (r8 sep f) :=
 T9 h (λl=>rZ PySem.F.plainAttrs_str PySem.F.slot_str_join PySem.F.type_str_join (by intro pins s σ H x vs v us Q I c d h;obtain⟨sep,p,ys,rfl,rfl,f,g,i,q⟩:=h;obtain⟨t,rfl⟩:=c;obtain⟨u,rfl,j⟩:=d.one;subst j;obtain⟨z,its,n,r,e⟩:=f.ok I.au;exact join_listW ⟨_,e,ρ,n,ρ⟩ (C1 r) g i λt' k=>⟨.str _,H,I.tok k,⟨t',ρ⟩,q⟩) CT l g k i hs ρ) hs
def NN (f:X.calm=bd)(g:(u1 es X.env).length=es.length)(d:(u1 es X.env).findIdx? (·.1)=al)(h:mZ X es c):DG X (.Tuple es k pos) (wM es.length c):=SO f h g d
def lE (h:df k A):A.units+1<cLine:=by have:=h.un;lia
def sy (h:df k A):A.units+64<cLine:=by have:=h.un;lia
def uD (h:df k A):A.units+65<cLine:=by have:=h.un;lia
noncomputable def Hg(sc scope:YD):Bool:=scope.kind==.function&&scope.names.all (λy=>y.2 != .cell&&(y.2 != .local||scope.names.lookup y.1==some .local)&&(y.2 != .free||sc.names.lookup y.1==some .cell||sc.names.lookup y.1==some .free))
def si (h:Hg d scope=bd):i7 d scope:=by
 delta Hg at h;simp only[fv] at h;have g:∀y∈scope.names,y.2≠.cell/\(y.2=.local->scope.names.lookup y.1=some .local)/\(y.2=.free->d.names.lookup y.1=some .cell\/d.names.lookup y.1=some .free):=λy c=>by
  have q:=iN.1 h.2 y c;simp at q;refine⟨q.1.1,λz=>?_,λz=>?_⟩
  ·rcases q.1.2 with w|w;simp_all;exact w
  rcases q.2 with (w|w)|w;simp_all
  ·exact ι w
  exact τ w
 exact⟨by simpa using h.1,λy c=>(g y c).1,λy c=>(g y c).2.1,λy c=>(g y c).2.2⟩
def JB (f:X.N.findIdx? (·==x)=ac i)(j:cx X.env.scope x)(hs:mu (.Name x c::es) X.env=(false,eval (.Name x c) X.env)::mu es X.env)(hd:bP x)(d:cY x)(h:DA X es g):tX X (.Name x c::es) 0 i g:=IZ i (eA f) j h hs hd d
def Tw (hs:bA X e es)(c:DD X e f)(d:DA X es g):DA X (e::es) (dQ f g):=Uv c d hs
def QP (hs:(u1 (e::es) X.env).map (·.2)=ZR e X.env::(u1 es X.env).map (·.2))(d:DG X e g)(f:mZ X es c):mZ X (e::es) (Av g c):=LJ d f hs
def Si (k:X.N.findIdx? (·==x)=ac i)(l:cx X.env.scope x)(m:X.A.units+1<u2)(hd:bP x)(j:cY x)(hs:HT e (ac<|.Subscript (.Name x d) c pt) pos.line X.env=pure false)(h:DD X e f)(n:DD X c g):cK X (.Assign [.Subscript (.Name x d) c pt] e pos) (mz i g f):=IM i m (eA k) l h n hd j hs
def Tz (d:abq (hQ X.prog X.w) X.A X.env X.xe)(f:X.calm=bd)(hs:∀x,um iter X.env x=pure x)(h:dh X c iter fi)(i:DG X c g)(j:ij X body fb):cK X (.For c iter body [] pos) (pO fi g fb):=HQ d f h i j hs
def IC (d:Gl X "range")(g:X.mg "range"=al)(hs:mu [a] X.env=[(false,eval a X.env)])(h:DA X [a] f):dh X c (.Call (.Name "range" p) [a] [] pos) (rM f):=SQ d g h hs
def Jf{e:hE}{f:DF}{l h:OF}{lo c:Option hE}{d:y4}(g:DD X e f)(hl:DO X lo l)(hh:DO X c h):DE X (.Subscript e (.Slice lo c al d) pos) (iS f l h):=O4 g hl hh
def Rl (c:∀whole,adx a X.env whole=(do let v <-whole;acG a.pos;YZ [v] (truthy v)))(h:DD X a f):DT X a (mI f):=Ue h c
noncomputable def g9:Dat->Dat->Option Res
 | .int i,.int j=>ac (.D<|.bl<|am<|i<=j)
 | .str i,.str j=>ac (.D<|.bl<|!am (j.cps.toList<i.cps.toList))
 | _,_=>al
def Dl:R2:=λx y H Q=>ig (λi j=>.bl<|am<|i<=j) x y H Q\/(λx y H Q=>∃i j,x=.str i/\y=.str j/\Q (.bl<|!am (j.cps.toList<i.cps.toList)) H) x y H Q
def qD:aS X (me .LtE) Dl:=aS.or (vy λ_ _ _ _ _ _ _ q=>le_int q) (by intro pins s σ H x y v u Q I c d h;obtain⟨i,j,rfl,rfl,q⟩:=h;obtain⟨t,rfl⟩:=c;obtain⟨t',rfl⟩:=d;exact PySem.P.le_str ⟨.bl _,H,I,ρ,q⟩)
def pY:eG X Dl g9:=by
 intro H0 ps Z σ H c x y d d' o Q e S f g k;delta g9 at e;split at e
 ·cases e;subst f;subst g;exact ι ⟨_,_,ρ,ρ,k _ H c S (aj.refl _) ρ⟩
 ·obtain rfl:=sO e;subst f;subst g;exact τ ⟨_,_,ρ,ρ,k _ H c S (aj.refl _) ρ⟩
 exact nO e
abbrev C4:Dat->Dat->Option Res:=fw (λ_ _=>true) λi j=>.bl<|am<|i<j
noncomputable def j7(o1 o2:Dat->Dat->Option Res)(f g h:DF):DF:=λZ=>(f Z).bind λx=>(g x.2).bind λy=>match o1 x.1 y.1 with
 | some (.D<|.bl true)=>(h y.2).bind λz=>(match o2 y.1 z.1 with|some (.D<|.bl b)=>ac (.bl b,z.2)|_=>al)
 | some (.D<|.bl false)=>ac (.bl false,y.2)
 | _=>al
def GL (G:aS X (me t) E)(r:eG X E o1)(I:aS X (me u) F)(J:eG X F o2)(Y:DD X a f)(hb:DD X b g)(hc:DD X c h)(hm:aaW [t,u] [b,c]=bi):DD X (.Compare a [t,u] [b,c] pos) (j7 o1 o2 f g h):=by
 obtain⟨ta,pa,qa⟩:=Y;obtain⟨tb,pb,qb⟩:=hb;obtain⟨tc,pc,qc⟩:=hc;refine⟨_,Hw G I pa pb pc hm,λj l Z m H Hi d Z' Q i S k=>?_⟩;obtain⟨x,Z1,e1,i⟩:=oB i;obtain⟨y,Z2,e2,i⟩:=oB i;refine qa j l Z m H Hi x Z1 _ e1 S λL H1 M S1 N O=>?_;refine qb j l Z1 m H1 M y Z2 _ e2 S1 λw P s R p A=>?_;split at i
 ·rename_i B;refine r j l Z2 m P s L w x y _ _ B R (Rep.mono p O) A λv C n D q o=>?_;subst o;refine⟨true,ρ,?_⟩;obtain⟨z,Z3,e3,i⟩:=oB i;refine qc j l Z2 m C n z Z3 _ e3 D λzv H4 T S4 U rz=>?_;split at i
  ·rename_i b V;obtain⟨rfl,rfl⟩:=sP i;exact J j l _ m H4 T w zv y z _ Q V S4 (Rep.mono (q.trans U) A) rz λv H5 W S5 s5 o=>k v H5 W S5 ((((N.trans p).trans q).trans U).trans s5) o
  exact nO i
 ·rename_i B;obtain⟨rfl,rfl⟩:=sP i;refine r j l _ m P s L w x y _ _ B R (Rep.mono p O) A λv C n D q o=>?_;subst o;refine⟨false,ρ,?_⟩;rw[if_neg ⋯];exact k _ C n D ((N.trans p).trans q) ρ
 exact nO i
def Ul (d:aaW [.LtE,.LtE] [b,c]=bi)(i:DD X a f)(j:DD X b g)(k:DD X c h):DD X (.Compare a [.LtE,.LtE] [b,c] pos) (j7 g9 g9 f g h):=GL qD pY qD pY i j k d
def SI (c:Gl X "isinstance")(d:X.mg "isinstance"=al)(g:Gl X "int")(h:X.mg "int"=al)(hs:bA X e [.Name "int" q])(i:DD X e f):DD X (.Call (.Name "isinstance" p) [e,.Name "int" q] [] pos) (jK "int" f):=qI i c d g h (by decide +kernel) ⋯ ⋯ hs
def Sv (c:Gl X "isinstance")(d:X.mg "isinstance"=al)(g:Gl X "bool")(h:X.mg "bool"=al)(hs:bA X e [.Name "bool" q])(i:DD X e f):DD X (.Call (.Name "isinstance" p) [e,.Name "bool" q] [] pos) (jK "bool" f):=qI i c d g h (by decide +kernel) ⋯ ρ hs
def M2 (c:Gl X "isinstance")(d:X.mg "isinstance"=al)(g:Gl X "str")(h:X.mg "str"=al)(hs:bA X e [.Name "str" q])(i:DD X e f):DD X (.Call (.Name "isinstance" p) [e,.Name "str" q] [] pos) (jK "str" f):=qI i c d g h (by decide +kernel) ⋯ ρ hs
def Nf (c:Gl X "isinstance")(d:X.mg "isinstance"=al)(g:Gl X "tuple")(h:X.mg "tuple"=al)(hs:bA X e [.Name "tuple" q])(i:DD X e f):DD X (.Call (.Name "isinstance" p) [e,.Name "tuple" q] [] pos) (jK "tuple" f):=qI i c d g h (by decide +kernel) ⋯ ρ hs
def RJ (c:Gl X "isinstance")(d:X.mg "isinstance"=al)(g:Gl X "list")(h:X.mg "list"=al)(hs:bA X e [.Name "list" q])(i:DD X e f):DD X (.Call (.Name "isinstance" p) [e,.Name "list" q] [] pos) (jK "list" f):=qI i c d g h (by decide +kernel) ⋯ ρ hs
def pX(o1 o2:Dat->Dat->Option Res)(f g h:DF):BF:=λZ=>(j7 o1 o2 f g h Z).bind λp=>match p.1 with
 | .bl b=>ac (b,p.2)
 | _=>al
theorem II (d:aaW [.LtE,.LtE] [b,c]=bi)(i:DD X a f)(j:DD X b g)(k:DD X c h):DT X (.Compare a [.LtE,.LtE] [b,c] pos) (pX g9 g9 f g h):=(λI s J L ha hb hc hm=>by
  obtain⟨ta,pa,qa⟩:=ha;obtain⟨tb,pb,qb⟩:=hb;obtain⟨tc,pc,qc⟩:=hc;refine⟨_,Su I J pa pb pc hm,λl m Z j H Hi d Z' Q n S k=>?_⟩;obtain⟨dd,Z0,i,n⟩:=oB n;dsimp only at n;cases dd with
  | bl b0 =>
   obtain⟨rfl,rfl⟩:=sP n;obtain⟨x,Z1,e1,i⟩:=oB i;obtain⟨y,Z2,e2,i⟩:=oB i;dsimp only at i;refine qa l m Z j H Hi x Z1 _ e1 S λM H1 N S1 O P=>?_;refine qb l m Z1 j H1 N y Z2 _ e2 S1 λC R t T q D=>?_;split at i
   ·rename_i E;refine s l m Z2 j R t M C x y _ _ E T (Rep.mono q P) D λv F o G r p=>?_;subst p;refine⟨true,ρ,?_⟩;obtain⟨z,Z3,e3,i⟩:=oB i;dsimp only at i;refine qc l m Z2 j F o z Z3 _ e3 G λzv H4 U S4 V rz=>?_;split at i
    ·rename_i b W;cases i;exact L l m _ j H4 U C zv y z _ _ W S4 (Rep.mono (r.trans V) D) rz λv H5 Y S5 s5 p=>⟨_,p,k H5 Y S5<|(((O.trans q).trans r).trans V).trans s5⟩
    exact nO i
   ·rename_i E;cases i;refine s l m _ j R t M C x y _ _ E T (Rep.mono q P) D λv F o G r p=>?_;subst p;refine⟨false,ρ,?_⟩;rw[if_neg ⋯];exact⟨_,ρ,k F o G<|(O.trans q).trans r⟩
   exact nO i
  | _=>exact nO n) qD pY qD pY i j k d
end
noncomputable def CH:List eS->Bool
 | []=>true
 | x::r=>!(r.any (·==x))&&CH r
theorem xR:∀{l:List eS},CH l=bd->l.Nodup
 | [],_=>YV
 | x::r,h=>by have h:=ma.1 h;refine qh.2 ⟨λm=>?_,xR h.2⟩;have:r.any (·==x)=bd:=xr.2 ⟨x,m,by simp⟩;simp_all
section
open PySem.W
inductive Comes {α:Type}(lt:Nat->Nat->Bool) (ok:Nat->Nat->Prop):KasT α->α->Prop
 | ret (a:α):Comes lt ok (.ret a) a
 | ask {i j:Nat}{k:Bool->KasT α}{a:α}(h:ok i j) (r:Comes lt ok (k<|lt i j) a):Comes lt ok (.ask i j k) a
theorem Comes.bind{d e:Type}{lt:Nat->Nat->Bool}{ok:Nat->Nat->Prop}{f:d->KasT e}{b:e}{t:KasT d}{a:d}(c:Comes lt ok t a)(q:Comes lt ok (f a) b):Comes lt ok (t.bind f) b:=by
 induction c with
 | ret a=>exact q
 | ask h _ g=>exact .ask h<|g q
section
variable{lt:Nat->Nat->Bool}{n:Nat}
structure Ord (lt:Nat->Nat->Bool) (n:Nat):Prop where
 trans:∀i j k,lt i j=bd->lt j k=bd->lt i k=bd
 total:∀i j,i<n->j<n->i≠j->lt i j=bd\/lt j i=bd
 gh:∀i,lt i i=bi
abbrev okN(n:Nat):Nat->Nat->Prop:=λi j=>i<n/\j<n/\i≠j
structure da (p:Array Nat) (n:Nat):Prop where
 size:p.size=n
 lt:∀i,i<n->p.getD i 0<n
 inj:∀i j,i<n->j<n->p.getD i 0=p.getD j 0->i=j
 pm:p.toList.Perm (gD n)
def tV{p q:Array Nat}{i j:Nat}(h:p[i]?=q[j]?):p.getD i 0=q.getD j 0:=by simp[h]
theorem da.ok{p:Array Nat}(P:da p n){i j:Nat}(a:i<n)(b:j<n)(h:i≠j):okN n (p.getD i 0) (p.getD j 0):=⟨P.lt i a,P.lt j b,fun z=>h<|P.inj i j a b z⟩
noncomputable def eZ(lt:Nat->Nat->Bool)(p:Array Nat)(m:Nat):Prop:=∀i j,i<j->j<m->lt (p.getD i 0) (p.getD j 0)=bd
def Down(lt:Nat->Nat->Bool)(p:Array Nat)(m:Nat):Prop:=∀i j,i<j->j<m->lt (p.getD j 0) (p.getD i 0)=bd
def eZ.succ (O:Ord lt n)(P:da p n)(h:eZ lt p m)(b:m<n)(h1:1<=m)(hl:lt (p.getD m 0) (p.getD (m-1) 0)=bi):eZ lt p (m+1):=by
 intro i j c hj;by_cases z:j<m
 ·exact h i j c z
 have z:j=m:=by lia
 subst z;have a:lt (p.getD (j-1) 0) (p.getD j 0)=bd:=by
  rcases O.total _ _ (P.lt j b) (P.lt (j-1) (by omega)) (λz=>by have:=P.inj j (j-1) b (by omega) z;omega) with q|q
  ·rw[hl] at q;contradiction
  exact q
 by_cases d:i=j-1
 ·rwa[d]
 exact O.trans _ _ _ (h i (j-1) (by omega) (by omega)) a
def Down.succ (O:Ord lt n)(h:Down lt p m)(h1:1<=m)(hl:lt (p.getD m 0) (p.getD (m-1) 0)=bd):Down lt p (m+1):=by
 intro i j a hj;by_cases z:j<m
 ·exact h i j a z
 have z:j=m:=by lia
 subst z;by_cases b:i=j-1
 ·rwa[b]
 exact O.trans _ _ _ hl<|h i (j-1) (by omega) (by omega)
theorem zD (O:Ord lt n)(P:da p n):∀(f m:Nat),1<=m->m+f<=n->eZ lt p m->∃r,Comes lt (okN n) (kas_asc p f m) r/\m<=r/\r<=m+f/\eZ lt p r/\(r<m+f->lt (p.getD r 0) (p.getD (r-1) 0)=bd)
 | 0,m,i,j,g=>⟨m,.ret m,eK _,eK _,g,λh=>by lia⟩
 | f+1,m,i,j,g=>by
  have au:okN n (p.getD m 0) (p.getD (m-1) 0):=P.ok ⋯ ⋯ (by omega);cases hl:lt (p.getD m 0) (p.getD (m-1) 0) with
  | true=>refine⟨m,.ask au ?_,eK _,⋯,g,λ_=>hl⟩;rw[hl];exact .ret m
  | false=>obtain⟨r,a,b,c,d,e⟩:=zD O P f (m+1) ⋯ ⋯ (g.succ O P ⋯ i hl);refine⟨r,.ask au ?_,⋯,⋯,d,λh=>e ⋯⟩;rwa[hl]
theorem F2 (O:Ord lt n)(P:da p n):∀(f m:Nat),1<=m->m+f<=n->Down lt p m->∃r,Comes lt (okN n) (kas_desc f p m 0) (p,r,0)/\m<=r/\r<=m+f/\Down lt p r
 | 0,m,g,h,e=>⟨m,.ret _,eK _,eK _,e⟩
 | f+1,m,g,h,e=>by
  have au:okN n (p.getD m 0) (p.getD (m-1) 0):=P.ok ⋯ ⋯ (by omega);cases hl:lt (p.getD m 0) (p.getD (m-1) 0) with
  | true=>obtain⟨r,a,b,c,d⟩:=F2 O P f (m+1) ⋯ ⋯ (e.succ O g hl);refine⟨r,.ask au ?_,⋯,⋯,d⟩;rwa[hl]
  | false =>
   refine⟨m,.ask au ?_,eK _,⋯,e⟩;rw[hl];have i:lt (p.getD (m-1) 0) (p.getD m 0)=bd:=by
    rcases O.total _ _ au.1 au.2.1 au.2.2 with q|q
    ·rw[hl] at q;contradiction
    exact q
   refine .ask ⟨au.2.1,au.1,λz=>au.2.2 z.symm⟩ ?_;rw[i];exact .ret _
theorem da.perm{p q:Array Nat}(P:da p n)(d:q.Perm p)(h:q.size=p.size)(f:Nat->Nat)(a:∀i,i<n->f i<n/\q.getD i 0=p.getD (f i) 0)(g:∀i j,i<n->j<n->f i=f j->i=j):da q n:=by
 refine⟨h.trans P.size,λi hl=>?_,λi j b c e=>?_,?_⟩
 ·rw[(a i hl).2];exact P.lt _ (a i hl).1
 ·rw[(a i b).2,(a j c).2] at e;exact g i j b c<|P.inj _ _ (a i b).1 (a j c).1 e
 exact (acb.1 d).trans P.pm
def wD (a:m<=p.size)(k):(ab3 p 0 m).getD k 0=if k<m then p.getD (m-1-k) 0 else p.getD k 0:=by have h:=getElem?_mirror_all (i:=0) a k;unfold ab3;split;simp_all;rename_i b;rw[if_neg (λz=>b z.2)] at h;exact tV h
def HW (P:da p n)(a:m<=n):da (ab3 p 0 m) n:=by
 refine P.perm (by unfold ab3;exact mirror_perm _ _ _ _) (by simp[ab3,mirror_size]) (λk=>if k<m then m-1-k else k) (λi b=>⟨by (try dsimp only);split<;>omega,?_⟩) λi j b hj e=>?_
 ·rw[wD (by rw[P.size];exact a)]
  (try dsimp only)
  split<;>rfl
 grind
def RB (P:da p n)(a:m<=n)(h:Down lt p m):eZ lt (ab3 p 0 m) m:=by intro i j hij b;rw[wD (by rw[P.size];exact a),wD (by rw[P.size];exact a),if_pos ⋯,if_pos b];exact h _ _ ⋯ ⋯
theorem vQ (O:Ord lt n)(P:da p n)(j:k<n)(e:eZ lt p k):∀(f l r:Nat),l<=r->r<=k->r-l<=f->(∀i,i<l->lt (p.getD i 0) (p.getD k 0)=bd)->(∀i,r<=i->i<k->lt (p.getD k 0) (p.getD i 0)=bd) ->
  ∃m,Comes lt (okN n) (kas_place p k f l r) m/\m<=k/\(∀i,i<m->lt (p.getD i 0) (p.getD k 0)=bd)/\(∀i,m<=i->i<k->lt (p.getD k 0) (p.getD i 0)=bd)
 | 0,l,r,u,s,v,a,b=>⟨l,.ret l,by lia,a,λi o=>b i (by lia)⟩
 | f+1,l,r,u,s,v,a,b=>by
  dsimp only[kas_place];by_cases g:l ≥ r
  ·rw[if_pos g];exact⟨l,.ret l,by lia,a,λi o=>b i (by lia)⟩
  rw[if_neg g];have w:(l+r)/2<r/\l<=(l+r)/2:=⋯;have au:okN n (p.getD k 0) (p.getD ((l+r)/2) 0):=P.ok j ⋯ (by omega);cases hl:lt (p.getD k 0) (p.getD ((l+r)/2) 0) with
  | true =>
   obtain⟨m,c,d⟩:=vQ O P j e f l ((l+r)/2) w.2 (by lia) (by omega) a (λi o t=>by
    by_cases z:i=(l+r)/2
    ·rwa[z]
    exact O.trans _ _ _ hl<|e _ _ ⋯ t)
   refine⟨m,.ask au ?_,d⟩;rwa[hl]
  | false =>
   have h:lt (p.getD ((l+r)/2) 0) (p.getD k 0)=bd:=by
    rcases O.total _ _ au.1 au.2.1 au.2.2 with q|q
    ·rw[hl] at q;contradiction
    exact q
   obtain⟨m,c,d⟩:=vQ O P j e f ((l+r)/2+1) r (by lia) s (by omega) (λi o=>by
    by_cases z:i=(l+r)/2
    ·rwa[z]
    exact O.trans _ _ _ (e i ((l+r)/2) ⋯ (by lia)) h) b
   refine⟨m,.ask au ?_,d⟩;rwa[hl]
def Rw (b:k<p.size)(hl:l<=k)(i):(bubble p k<|k-l).getD i 0=if i=l then p.getD k 0 else if l<i/\i<=k then p.getD (i-1) 0 else p.getD i 0:=by
 have h:=getElem?_bubble b (k-l) ⋯ i;have e:k-(k-l)=l:=⋯;rw[e] at h;by_cases z:i=l
 ·rw[if_pos z] at h ⊢;exact tV h
 rw[if_neg z] at h ⊢;by_cases a:l<i/\i<=k
 ·rw[if_pos a] at h ⊢;exact tV h
 rw[if_neg a] at h ⊢;exact tV h
theorem GU(O:Ord lt n):∀(f:Nat) (p:Array Nat) (k:Nat),da p n->k+f=n->eZ lt p k->∃q,Comes lt (okN n) (kas_bin f p k) q/\da q n/\eZ lt q n
 | 0,p,k,P,o,g=>⟨p,.ret p,P,by rw[<-o];exact g⟩
 | f+1,p,k,P,o,g=>by
  obtain⟨l,c,hl,a,b⟩:=vQ O P (by lia) g k 0 k (pe _) (eK _) (by lia) (λi h=>by lia)<|λi h hik=>by omega
  have m:=Rw (p:=p) (k:=k) (l:=l) (by rw[P.size];omega) hl;have t:da (bubble p k<|k-l) n:=by
   refine P.perm (bubble_perm _ _ _) (bubble_size _ _ _) (λi=>if i=l then k else if l<i/\i<=k then i-1 else i) (λi h=>⟨by (try dsimp only);split<;>(try split)<;>omega,?_⟩) λi j h u e=>?_
   ·rw[m]
    (try dsimp only)
    split
    ·rfl
    split<;>rfl
   (try dsimp only at e)
   split at e<;>split at e<;>(try split at e)<;>(try split at e)<;>lia
  have r:eZ lt (bubble p k<|k-l) (k+1):=by
   intro i j s u;simp only[m i,m j];split
   ·rw[if_neg (by omega),if_pos (by omega)];exact b (j-1) (by lia) (by lia)
   split
   ·rw[if_neg (by omega),if_pos (by omega)];exact g _ _ (by omega) (by omega)
   split
   ·exact a i (by omega)
   split
   ·exact g _ _ (by lia) (by omega)
   exact g _ _ s (by lia)
  obtain⟨q,d,e⟩:=GU O f (bubble p k<|k-l) (k+1) t (by lia) r;exact⟨q,Comes.bind c d,e⟩
def BO:da (aaI<|gD n) n:=by
 have g:∀i,i<n->(aaI<|gD n).getD i 0=i:=λi a=>by simp[a]
 refine⟨⋯,λi a=>by rw[g i a];exact a,λi j a b e=>by simp only[g i a,g j b] at e;exact e,⋯⟩
def OZ(O:Ord lt n)(hn:1<=n):∃q,Comes lt (okN n) (ae5 n) q/\da q n/\eZ lt q n:=by
 have P:=BO (n:=n);unfold ae5;obtain⟨m,a,b,c,d,e⟩:=zD O P (n-1) 1 (eK _) (by omega)<|λi j l u=>by omega
 have h:∀(p:Array Nat) (m:Nat),da p n->1<=m->m<=n->eZ lt p m->∃q,Comes lt (okN n) (if m<n then kas_bin (n-max m 1) p (max m 1) else .ret p) q/\da q n/\eZ lt q n:=λp m P f g hu=>by split;simp_all [GU];exact⟨p,.ret p,P,by grind⟩
 by_cases k:m=n
 ·obtain⟨q,f,g⟩:=h _ m P b (by lia) d;refine⟨q,Comes.bind (a:=(m,aaI<|gD n)) (Comes.bind a ?_) f,g⟩;rw[if_pos (by simpa using k)];exact .ret _
 by_cases o:m>1
 ·obtain⟨q,f,g⟩:=h _ m P b (by lia) d;refine⟨q,Comes.bind (a:=(m,aaI<|gD n)) (Comes.bind a ?_) f,g⟩;rw[if_neg (by simpa using k),if_pos o];refine .ask (P.ok (by lia) (by omega) (by omega)) ?_;rw[d 0 (m-1) (by omega) (by omega)];exact .ret _
 have v:m=1:=by lia
 subst v;have hl:=e (by lia)
 obtain⟨r,w,b1,c1,x⟩:=F2 O P (n-2) 2 (by lia) (by lia) (λi j l u=>by
  have f:i=0:=by lia
  have g:j=1:=by lia
  rw[f,g];exact hl)
 have s:=HW (m:=r) P (by omega);obtain⟨t,y,b2,c2,z,_⟩:=zD O s (n-r) r (by lia) (by lia)<|RB P (by omega) x;obtain⟨q,f,g⟩:=h _ t s (by lia) (by lia) z;refine⟨q,Comes.bind (a:=(t,ab3 (aaI<|gD n) 0 r)) (Comes.bind a ?_) f,g⟩;rw[if_neg (by simpa using k),if_neg (by omega)];unfold kas_descPart;apply Comes.bind w;rw[if_neg ⋯];exact Comes.bind y<|.ret _
end
end
section
open PySem.W
theorem Comes.wp (e:∀i j,ok i j->∀C:Bool->cW->Prop,C (lt i j) s->b i j C s)(c:Comes lt ok t a)(q:Q a s):t.kasWp b Q s:=by
 induction c with
 | ret a=>exact q
 | ask h _ f=>exact e _ _ h _<|f q
end
noncomputable def eB(h:nL)(L:dk):Heap:={h with objs:=h.objs.extract 0 L}
def Nv (xs:Array a)(L b:Nat):(xs.extract 0 L)[b]?=if b<L then xs[b]? else al:=by grind
def DN(h)(L b):(eB h L).get? b=if b<L then h.get? b else al:=by delta eB Heap.get?;rw[Nv];by_cases a:b<L;simp_all;rw[if_neg a,if_neg a]
def Co (e:(eB h L).get? b=ac o):b<L/\h.get? b=ac o:=by simp_all [DN]
section
variable{X:Cx}{pins:List (dk×z5)}{σ:St}{H:Hp}{s:cW}{pos:y4}{e:hE}
def Inv.xS (I:Inv X pins σ H s)(a:s.heap.Ns X.env.locals m):Fr (eB s.heap X.env.locals) X.env.locals s.heap m :=
 ⟨a,λb o e=>(Co e).2,by show (s.heap.objs.extract 0 X.env.locals).size<=_;simp[Nat.min_le_left]⟩
def Inv.Hf (I:Inv X pins σ H s)(hl:∀(i:Nat) (x:eS) (v:V),X.N[i]?=ac x->σ[i]?=ac (ac v)->cx X.env.scope x->∃u,RelV v u/\Look X.env s.heap m x u)(t:h'.Ns X.env.locals m)(keep:∀b o,b≠X.env.locals->s.heap.get? b=ac o->h'.get? b=ac o):Inv X pins σ H {s with heap:=h',toks:=tk}:=by
 have jQ:=I.jQ;have f:∀b o,X.eP.heap.get? b=ac o->b≠X.env.locals:=λb o e=>hG<|kH (fj e) I.ok.above;have a:∀x c,X.env.cells.lookup x=ac c->∀v,s.heap.IsCell c v->h'.IsCell c v:=λx c e v ⟨o,w,hd⟩=>⟨o,keep c o (jQ x c e) w,hd⟩;refine⟨I.ok,I.os,I.bare,⟨λb o e n g h=>keep b o (f b o e)<|I.base.keep b o e n g h,λb o e n g h=>?_,I.base.free,λb o e h=>?_,I.base.jV,I.base.iM,I.base.jM⟩,⟨m,t,λi x v y A B=>?_⟩,λx c e=>?_,I.free,I.gY,λp C=>?_,?_,I.len⟩
 ·obtain⟨D,q⟩:=I.base.slot b o e n g h;exact⟨D,keep b _ (f b o e) q⟩
 ·obtain⟨j,q⟩:=I.base.there b o e h;exact⟨j,keep b j (f b o e) q⟩
 ·obtain⟨u,r,l⟩:=hl i x v y A B;refine⟨u,r,?_⟩;rcases l with l|⟨k,c,e,z⟩
  ·exact ι l
  exact τ ⟨k,c,e,a x c e _ z⟩
 ·obtain⟨v,z⟩:=I.cell x c e;exact⟨v,a x c e v z⟩
 ·obtain⟨e,n,ne,nf,d⟩:=I.pin p C;exact⟨keep p.1 p.2 ne e,n,ne,nf,d⟩
 exact I.au.tracked λb u g e=>keep b u (λz=>g<|z ▸ I.free) e
theorem Af (F:Fr (eB h L) L h' m)(N:News (eB h L) L h' a)(sub:∀q∈km (eB h L) h L,q∈a):∀b o,b≠L->h.get? b=ac o->h'.get? b=ac o:=λb o c e=>by
 by_cases hl:b<L
 ·exact F.keep b o<|(λhb e=>by simp_all [DN]) hl e
 have d:(eB h L).get? b=al:=by
  cases q:(eB h L).get? b with
  | none=>rfl
  | some u=>exact absurd (Co q).1 hl
 exact (N _<|sub _<|vO c d e).1
def IT{prog:hY}{w:nR}{A:pA}{E:cn->cW->Prop}{s:cW}{a:dk}{vs:List cn}{n:Nat}{P:Fin->cW->Prop}(f:s.heap.get? a=ac (YP "list" vs.toArray n))(p:vs.length<2)
 (h:∀h' c,h'.get? a=ac (YP "list" vs.toArray c)->(∀b o,b≠a->s.heap.get? b=ac o->h'.get? b=ac o)->P (.done<|.ret .none) {s with heap:=h'}) :
  g8 (hQ prog w) A (Yx.«list.sort» ⟨[.ref a],[]⟩) P E s:=by
 rw[list_sort_plain];have l:=fj f;refine bg<|listItems_at f ρ ?_;refine bg<|afX f ρ ?_;obtain⟨k,j⟩:∃k,(s.heap.update a (Yl λ_=>#[])).get? a=ac (YP "list" #[] k) :=
  ⟨_,afn f<|λ_=>#[]⟩
 refine bg<|seqEpoch_at j ρ<|bg<|afv (bg<|abJ<|o3 ?_) (by rw[za];simp;omega);generalize m:(((s.heap.update a (Yl λ_=>#[])).push (YP "tuple" vs.toArray 0)).push (YP "list" #[] 0))=g at *;have d:g.get? a=ac (YP "list" #[] k):=by
  rw[<-m,adD _ _ _ (by rw[aev,abM];exact hG<|Zw l),
   adD _ _ _ (by rw[abM];exact hG l)]
  exact j
 have kp:∀b o,b≠a->s.heap.get? b=ac o->g.get? b=ac o:=λb o i e=>by rw[<-m];refine ee _<|ee _ ?_;rw[ti _ _ (Ne.symm i)];exact e
 dsimp only;have hz:vs.toArray.size<2:=by simpa using p
 rw[if_pos hz,if_pos hz];refine bg<|dr ?_;refine bg<|dr ?_;dsimp only;refine bg<|seqEpoch_at d ρ<|bg<|afX d ρ ?_ (hsz2:=by simp[aec,aeN];rw[za];omega);simp only[bne_self_eq_false,kB];refine dr ?_;have q:Array.map (λx=>x.2) (aec<|aeN general' (vs.toArray.zip vs.toArray) #[] 7 al)=vs.toArray:=by rw[List.zip_toArray,List.map_toArray,adV<|eK _]
 rw[q];refine h _ _ (afn d<|λ_=>vs.toArray) λb o i e=>?_;rw[ti _ _ (Ne.symm i)];exact kp b o i e
def Inv.yS (I:Inv X pins σ H s)(hl:∀(i:Nat) (x:eS) (v:V),X.N[i]?=ac x->σ[i]?=ac (ac v)->cx X.env.scope x->∃u,RelV v u/\Look X.env s.heap m x u)(j:h'.Ns X.env.locals m)(keep:∀b o,b≠X.env.locals->s.heap.get? b=ac o->h'.get? b=ac o)(k:s.heap.get? D=al)(hex:∀b∈X.ex,∃o,s.heap.get? b=ac o)(f:cF X.prog X.w (upd H D o) h' D o):Inv X pins σ (upd H D o) {s with heap:=h',toks:=tk}:=by
 have J:Inv X pins σ H {s with heap:=h',toks:=tk}:=I.Hf hl j keep;have hHD:=I.au.dead k;have ne:∀b u,H b=ac u->b≠D:=by lia
 have l:X.env.locals≠D:=λz=>by obtain⟨_,⟨oL,_,_,hoL,_⟩,_⟩:=I.loc;simp_all
 refine⟨J.ok,J.os,J.bare,⟨J.base.keep,J.base.slot,λb a e n g=>?_,J.base.there,λb xs e=>?_,λb a u e=>?_,λb r e=>?_⟩,J.loc,J.cell,?_,λx c e=>?_,λp h=>?_,λb u e=>?_,J.len⟩
 ·have z:b≠D:=λz=>by obtain⟨o',q⟩:=I.base.there b a e g;simp_all
  rw[aA z];exact J.base.free b a e n g
 ·have q:=J.base.jV b xs e;rwa[aA (ne b _ q)]
 ·have q:=J.base.iM b a u e;rwa[aA (ne b _ q)]
 ·obtain⟨more,q⟩:=J.base.jM b r e;exact⟨more,by rw[aA (ne b _ q)];exact q⟩
 ·rw[aA l];exact J.free
 ·obtain⟨v,oc,ho,hd⟩:=I.cell x c e;rw[aA (λz=>by simp_all)];exact J.gY x c e
 ·obtain⟨q,n,nl,nf,d⟩:=J.pin p h;have q0:=(I.pin p h).1;exact⟨q,by rw[aA (λz=>by simp_all)];exact n,nl,nf,d⟩
 by_cases z:b=D
 ·subst z;rw[bb] at e;obtain rfl:=sO e;exact f
 rw[aA z] at e;exact (J.au b u e).gp (λc w' hc q=>q) (λc q=>by rw[aA (ne c _ q)];exact q) λc xs q=>by rw[aA (ne c _ q)];exact q
def fh{a:Type}{l:List a}{i:Nat}{d:a}(h:i<l.length):l.getD i d=l[i]:=by simp only[lD,bt h];rfl
noncomputable def mK(fs:List eS)(i j:Nat):Bool:=am<|(fs.getD i YK).cps.toList<(fs.getD j YK).cps.toList
def kW{a b:eS}(h:a.cps.toList=b.cps.toList):a=b:=by obtain⟨⟨a⟩⟩:=a;simp_all
def Ot (nd:fs.Nodup):Ord (mK fs) fs.length where
 trans:=λi j k c a=>decide_eq_true<|aa7 (of_decide_eq_true c)<|of_decide_eq_true a
 total:=λi j d f b=>by
  delta mK;rw[fh d,fh f];by_cases h:fs[i].cps.toList<fs[j].cps.toList
  ·exact ι<|decide_eq_true h
  refine τ (decide_eq_true ?_);by_cases a:fs[j].cps.toList<fs[i].cps.toList
  ·exact a
  exact absurd ((z9 nd).1 (kW<|ZE (Yj.1 a)<|Yj.1 h)) b
 gh:=λi=>decide_eq_false<|Zr _
def ml(K:f')(H:Hp)(vs:List V)(fs:List eS):Prop:=vs.length=fs.length/\∀(i:Nat) (f:eS),fs[i]?=ac f->∃a b,vs[i]?=ac (.ref a)/\ba K H a b/\b[0]?=ac (.str f)
def Ordered(fs:List eS)(vs out:List V):Prop:=∃q:Array Nat,da q vs.length/\eZ (mK fs) q vs.length/\out=q.toList.map λi=>vs.getD i .aQ
def uY(K:f'):List V->Hp->VK->Prop:=λxs H Q=>∃p vs fs,xs=[.ref p]/\Rd H p (.L vs)/\ml K H vs fs/\fs.Nodup/\vs.length<64/\∀out,Ordered fs vs out->∀l,H l=al->Q (.ref l) (upd H l<|.L out)
theorem F0 (r:aJ vs its):∀(l:List Nat),(∀i∈l,i<vs.length)->aJ (l.map λi=>vs.getD i .aQ) (l.map λi=>its.getD i .none)
 | [],_=>.nil
 | i::l,h=>by
  have a:=h i fk;have hi':i<its.length:=by rw[<-r.length];exact a
  refine .cons ?_ (F0 r l λj b=>h j<|f6 _ b);obtain⟨u,hu,ru⟩:=r.get<|bt a;simp_all
def mC (P:da q n):∀i∈q.toList,i<n:=λi b=>by
 obtain⟨k,c,e⟩:=kx b;have a:k<q.size:=by simpa using c
 have:=P.lt k (by rw[<-P.size];exact a);simp_all
theorem kat_tups (I:Inv X pins σ H s):∀{fs:List eS}{vs:List V}{its:List cn},ml X.K H vs fs->aJ vs its ->
  ∃c:List cn,aaM s.heap its c/\c.length=fs.length/\(∀v∈c,∃x t,v=Yd x t)/\∀(i:Nat) (f:eS),fs[i]?=ac f->∃a o xs n t,its[i]?=ac (.ref a)/\s.heap.get? a=ac o/\o.data=.seq xs n/\xs[0]?=ac (Yd f t)
 | [],[],_,h,r=>by
  cases r;exact⟨[],.nil,ρ,λv j=>by simp at j,λi f e=>by simp at e⟩
 | [],_::_,_,h,_=>by simp[ml] at h
 | _::_,[],_,h,_=>by simp[ml] at h
 | f::fs,v::vs,_,h,r=>by
  cases r with
  | cons p rs =>
   obtain⟨a,ws,q,w,y⟩:=h.2 0 f ρ;obtain rfl:=sO q;subst p;have h':ml X.K H vs fs:=⟨by simpa using h.1,λi g e=>by
    obtain⟨b,us,k,l,A⟩:=h.2 (i+1) g<|e
    exact⟨b,us,by simpa using k,l,A⟩⟩
   obtain⟨c,B,C,D,E⟩:=kat_tups I h' rs;obtain⟨its,F,⟨o,m,G,n,hd⟩,_⟩:=I.tuple w;obtain⟨u,J,L⟩:=F.get y;obtain⟨t,rfl⟩:=L;have d:its.toArray[0]?=ac (Yd f t):=by simpa using J
   refine⟨Yd f t::c,.cons m G hd d B,by simp[C],λv j=>?_,λi g e=>?_⟩
   ·rcases eW.1 j with z|z
    ·exact⟨f,t,z⟩
    exact D v z
   cases i with
   | zero=>simp at e;subst e;exact⟨a,o,_,n,t,ρ,m,hd,d⟩
   | succ i=>obtain⟨b,M,xs,N,t',k,l⟩:=E i g<|e;exact⟨b,M,xs,N,t',by simpa using k,l⟩
theorem KatTups.keeps{h h':nL}(k:∀b o xs n,o.data=.seq xs n->h.get? b=ac o->h'.get? b=ac o){vs fs:List cn}(t:aaM h vs fs):aaM h' vs fs:=by
 induction vs generalizing fs with
 | nil =>
  cases fs with
  | nil=>exact t
  | cons _ _=>exact t.elim
 | cons _ _ c =>
  cases fs with
  | nil=>exact t.elim
  | cons _ _=>obtain⟨⟨a,o,xs,n,e,d,f,hd,r⟩,t⟩:=t;exact⟨⟨a,o,xs,n,e,k _ _ _ _ hd d,f,hd,r⟩,c t⟩
def rN(lt:Nat->Nat->Bool)(vs out:List V):Prop:=∃q:Array Nat,da q vs.length/\eZ lt q vs.length/\out=q.toList.map λi=>vs.getD i .aQ
theorem Ca(K:X.ex=[])(I:Inv X pins σ H s)(L:aJ vs its)(h2:2<=vs.length)(h64:vs.length<64)(O:Ord lt vs.length)(hT:(T==T)=bd)(t:∃a:List cn,aaM s.heap its a/\a.length=vs.length/\∀v∈a,∀h:nL,afG (hQ X.prog X.w) h (typeOf v) T)(M:∀i j,i<vs.length->j<vs.length->i≠j->∀h':nL,(∀b o xs n,o.data=.seq xs n->s.heap.get? b=ac o->h'.get? b=ac o)->∀C:Bool->cW->Prop,C (lt i j) {s with heap:=h'}->g8 (hQ X.prog X.w) X.A.in1.in1 (aew (tuples'<|T != .type "tuple") (its.getD i qe)<|its.getD j qe) C (λ_ _=>False) {s with heap:=h'})(q:∀out,rN lt vs out->∀l,H l=al->Q (.ref l) (upd H l<|.L out))(hn:s.heap.Ns X.env.locals m)(hl:∀(i:Nat) (x:eS) (v:V),X.N[i]?=ac x->σ[i]?=ac (ac v)->cx X.env.scope x->∃u,RelV v u/\Look X.env s.heap m x u)(P:∀p∈km (eB s.heap X.env.locals) s.heap X.env.locals,p.1<D)(F:Fr (eB s.heap X.env.locals) X.env.locals h' m)(N:News (eB s.heap X.env.locals) X.env.locals h' ((D,YP "list" #[] r)::km (eB s.heap X.env.locals) s.heap X.env.locals))(hR:∀S,EP X pins σ Q (.ref D) S->R S) :
  g8 (hQ X.prog X.w) X.A.in1.in1 (keyKind' its.toArray) (fun κ s'=>(ae5 its.length).kasWp (W.kas_ask X.prog X.w X.A.in1.in1 κ its) (λp U=>W.KasFin (eB s.heap X.env.locals) X.env.locals m D r (p.toList.map λi=>its.getD i qe) R U) s') (λ_ _=>False) {s with heap:=h'}:=by
 have B:=L.length;obtain⟨oL,esL,epL,Y,Z,_⟩:=id hn;obtain⟨a,t,kl,ks⟩:=t;have kp:=Af F N λq E=>f6 _ E;have d:∀b o xs n,o.data=.seq xs n->s.heap.get? b=ac o->h'.get? b=ac o:=λb o xs n hd G=>kp b o (λz=>by rw[z,Y] at G;obtain rfl:=sO G;rw[Z] at hd;contradiction) G;refine W.kat_kind (KatTups.keeps d t) (by lia) (λv hv=>ks v hv _) hT ?_;obtain⟨qa,cq,J,uq⟩:=OZ O (by lia);rw[<-B];refine cq.wp (λi j ok C hC=>M i j ok.1 ok.2.1 ok.2.2 h' d C hC) ?_;have f:s.heap.get? D=al:=by
  cases y:s.heap.get? D with
  | none=>rfl
  | some o=>have a1:=N (D,YP "list" #[] r) fk;exact absurd (P _<|vO a1.2.1 a1.2.2 y)<|uz _
 refine W.KasFin.intro F N (.head λp hp=>hG<|P p hp) λU7 c g k=>hR _ ?_;have U8:=Af g k λq E=>f6 _ E;refine⟨.ref D,upd H D<|.L (qa.toList.map λi=>vs.getD i .aQ),I.yS hl g.ns U8 f (λb hb=>by rw[K] at hb;simp at hb) ?_,ρ,q _ ⟨qa,J,uq,ρ⟩ D<|I.au.dead f⟩;refine⟨?_,_,c,F0 L _<|mC J,(k _ fk).1⟩;rw[ab,hI,J.size,za];lia
theorem QZ{vs:List V}(h:vs.length<2):vs=(gD vs.length).toArray.toList.map fun i=>vs.getD i .aQ:=by
 cases vs with
 | nil=>rfl
 | cons v vs =>
  cases vs with
  | nil=>rfl
  | cons _ _=>simp at h;omega
theorem yT(t:X.ex=[])(I:Inv X pins σ H s)(Y:Rd H p (.L vs))(u:vs.length<64)(O:Ord lt vs.length)(Z:(T==T)=bd)(kt:∀its,aJ vs its->∃k:List cn,aaM s.heap its k/\k.length=vs.length/\∀v∈k,∀h:nL,afG (hQ X.prog X.w) h (typeOf v) T)(B:∀its,aJ vs its->∀i j,i<vs.length->j<vs.length->i≠j->∀h':nL,(∀b o xs n,o.data=.seq xs n->s.heap.get? b=ac o->h'.get? b=ac o)->∀C:Bool->cW->Prop,C (lt i j) {s with heap:=h'}->g8 (hQ X.prog X.w) X.A.in1.in1 (aew (tuples'<|T != .type "tuple") (its.getD i qe)<|its.getD j qe) C (λ_ _=>False) {s with heap:=h'})(q:∀out,rN lt vs out->∀l,H l=al->Q (.ref l) (upd H l<|.L out)):g8 (hQ X.prog X.w) X.A (call (.builtin "sorted") [.ref p]) (EP X pins σ Q) X.xe s:=by
 obtain⟨z,its,n,d,e⟩:=Y.ok I.au;have hlen:=d.length;have E:s.heap.IsList p its.toArray:=⟨_,e,ρ,n,ρ⟩;obtain⟨m,r,hl⟩:=I.loc;have F:=r;obtain⟨oL,G,J,f,K,_⟩:=F;by_cases h2:2<=its.length
 ·exact W.kat_sorted (I.xS r) zq E h2 (by omega) λD e1 h' F' N' L=>Ca t I d (by omega) u O Z (kt its d) (B its d) q r hl L F' N' λ_ x=>x
 refine Y0 aeb adG adI (adJ _) ?_;unfold Yx.«sorted»;refine bg (m:=aer "sorted" 1 1 _)<|dr<|bg<|collect_list E (bg<|abJ ?_ (by rw[za];omega)) (by rw[za];omega);generalize M:((s.heap.push<|YP "list" #[] 0).update s.heap.objs.size (Yl (· ++ its.toArray)))=g;have N:g.objs.size=s.heap.objs.size+1:=by rw[<-M,abM,aev]
 have P:∀b o,s.heap.get? b=ac o->(g.push<|YP "list" its.toArray 0).get? b=ac o:=λb o q=>by have lt:=fj q;refine ee _ ?_;rw[<-M,ti _ _<|Zv lt];exact ee _ q
 have R:(g.push<|YP "list" its.toArray 0).get? g.objs.size=ac (YP "list" its.toArray 0):=gj _ ρ;refine bg<|o3<|sj abl ⟨_,R,ρ⟩ aa0 (IT (s:={s with heap:=g.push (YP "list" its.toArray 0)}) R (by omega) λh' c hD kp=>⟨_,ρ,dr ⟨_,ρ,?_⟩⟩)<|abm _;have a:s.heap.get? g.objs.size=al:=by
  cases y:s.heap.get? g.objs.size with
  | none=>rfl
  | some o=>have:=fj y;rw[N] at this;exact absurd this<|afN.2<|aaq _
 have S:∀b o,b≠X.env.locals->s.heap.get? b=ac o->h'.get? b=ac o:=λb o _ q=>kp b o (λz=>by rw[z,a] at q;exact nO q)<|P b o q;have U:h'.Ns X.env.locals m:=⟨oL,G,J,kp _ _ (λz=>by rw[z,a] at f;exact nO f)<|P _ _ f,K,by assumption⟩;have one:rN lt vs vs:=by refine⟨(gD vs.length).toArray,BO,λi j hij hj=>by omega,?_⟩;exact QZ (by omega)
 refine⟨.ref g.objs.size,upd H g.objs.size<|.L vs,I.yS (tk:=s.toks) hl U S a (by simp_all) ⟨z,its,c,d,hD⟩,ρ,q vs one _<|I.au.dead a⟩
theorem Dm(D:X.ex=[]):bM X (.builtin "sorted") (uY X.K):=by
 intro pins s σ H xs us Q I r h;obtain⟨p,vs,fs,rfl,N,c,nd,E,q⟩:=h;obtain⟨u,rfl,O⟩:=r.one;subst O;refine yT D (T:=.type "str") I N E (by rw[c.1];exact Ot nd) ρ (λits y=>?_) (λits y i j A B F h' n C P=>?_) q
 ·obtain⟨R,S,U,V,_⟩:=kat_tups I c y;refine⟨R,S,by rw[U];exact c.1.symm,λv Y h=>?_⟩;obtain⟨x,t,rfl⟩:=V v Y;exact abC ρ
 obtain⟨_,_,_,_,w⟩:=kat_tups I c y;rw[c.1] at A B;obtain⟨a,o,xs,n1,t1,Z,a2,G,d⟩:=w i _<|bt A;obtain⟨b,o',ys,n2,t2,b1,b2,J,f⟩:=w j _<|bt B;have ea:its.getD i qe=.ref a:=by rw[lD,Z];rfl
 have eb:its.getD j qe=.ref b:=by rw[lD,b1];rfl
 rw[ea,eb];apply ae4 (n _ _ _ _ G a2) G (n _ _ _ _ J b2) J;obtain⟨g,k,ex⟩:∃g k,xs.toList=g::k:=by
  cases hx:xs.toList with
  | nil=>rw[<-gi,hx] at d;exact nO d
  | cons g k=>exact⟨g,k,ρ⟩
 obtain⟨l,m,L⟩:∃l m,ys.toList=l::m:=by
  cases hy:ys.toList with
  | nil=>rw[<-gi,hy] at f;exact nO f
  | cons l m=>exact⟨l,m,ρ⟩
 rw[<-gi,ex] at d;rw[<-gi,L] at f;obtain rfl:=sO d;obtain rfl:=sO f;simp only[ex,L];have M:fs[i]≠fs[j]:=λz=>F<|(z9 nd).1 z;refine ad6<|ZQ ?_;simp[decide_eq_false M];refine ae3<|oneLt_str ?_;have:mK fs i j=am (fs[i].cps.toList<fs[j].cps.toList):=by unfold mK;rw[fh A,fh B]
 simp only[<-this];exact P
def sr(c:List eS):Prop:=c.Pairwise λa b=>¬(b.cps.toList<a.cps.toList)
def wA (k:aaH vs h)(c:xs.Perm (pairsOf vs))(hs:SortedToK strKind xs (pairsOf vs).size) :
  ∃a,aaH (xs.map (·.2)).toList a/\a.Perm h/\sr a:=by
 obtain⟨a,d,v,_⟩:=sorted_out_str k c hs;refine⟨a,d,v,?_⟩;have hsz:xs.size=(pairsOf vs).size:=c.size_eq;have f:∀p,p∈xs.toList->p.1=p.2/\p.1∈vs:=λp l=>mem_zip_self (by
  have hl:xs.toList.Perm (vs.zip vs):=by rw[<-pairsOf_toList];exact acb.1 c
  exact hl.mem_iff.1 l)
 have g:a.length=xs.size:=by rw[<-d.strs];simp
 have get:∀(i:Nat) (b:i<a.length),KK strKind xs i=a[i].cps.toList:=λi b=>by
  have n:i<xs.size:=by rw[<-g];exact b
  have w:=d.strs;have m:=f xs[i] ⋯;obtain⟨y,t,o⟩:=k.all _ m.2;have x:xs[i]=(Yd y t,xs[i].2):=by rw[<-o]
  rw[KK_str n x];have r:a[i]?=ac y:=by simp only[<-w,c6,gi,adi,ia n];simp;rw[<-m.1,o];rfl
  rw[bt b] at r;obtain rfl:=sO r;rfl
 delta sr;rw[pq];intro i j b z u;have q:=hs i j (Zx u) (by simp_all);rw[get i b,get j z] at q;exact of_decide_eq_false q
def qr:List V->Hp->VK->Prop:=λxs H Q=>∃p kvs b,xs=[.ref p]/\Rd H p (.dK kvs)/\kvs.map (·.1)=b.map uy/\kvs.length<64/\∀a,a.Perm b->sr a->∀l,H l=al->Q (.ref l) (upd H l<|.L<|a.map V.str)
theorem Ai{us:List cn}{ys:List eS}(h:aaH us ys):aJ (ys.map V.str) us:=by
 induction h with
 | nil=>exact .nil
 | cons y t _ a=>exact .cons ⟨t,ρ⟩ a
theorem B8:∀{a:List eS}{vs:List cn},vs.length=a.length->(∀(j:Nat) (u:cn),vs[j]?=ac u->∃y,a[j]?=ac y/\jA (uy y) u=bd)->aaH vs a
 | [],[],_,_=>.nil
 | [],_::_,h,_=>by simp at h
 | _::_,[],h,_=>by simp at h
 | y::a,v::vs,h,k=>by
  obtain⟨y',b,c⟩:=k 0 v ρ;obtain rfl:=sO b;rcases iU c with⟨i,t,z,_⟩|⟨x,t,z,d⟩
  ·contradiction
  cases z;rw[d];exact .cons _ _ (B8 (by simpa using h) λj u e=>by simpa using k (j+1) u (e))
theorem wI(hex:X.ex=[])(U:X.calm=bd):bM X (.builtin "sorted") qr:=by
 intro pins s σ H xs us Q I r h;obtain⟨p,kvs,v,rfl,Y,G,h64,q⟩:=h;obtain⟨u,rfl,Z⟩:=r.one;subst Z;obtain⟨z,lo,J,i,dd⟩:=lg I.au Y;obtain⟨ep,K⟩:=dd.dictAt;obtain⟨m,hn,hl⟩:=I.loc;have A:∀b∈X.ex,∃o,s.heap.get? b=ac o:=by simp_all
 have Fl:=I.xS hn;have Nl:News (eB s.heap X.env.locals) X.env.locals s.heap (km (eB s.heap X.env.locals) s.heap X.env.locals):=zq;have hkl:=i.length;have L:=i.keys;have M:v.length=kvs.length:=by simpa using (congrArg List.length G).symm
 refine W.kdu_sorted (W.kdl_dict lo) (I.ok.hd U) Fl Nl K (by rw[za];lia) λB h' tk vs N C O hvl hv=>?_;have D:aaH vs v:=B8 (by simp_all) λj u e=>by
  obtain⟨k,x,e1,e2⟩:=hv j u e;have a:(J.map (·.1))[j]?=ac k:=by rw[c6,e1];rfl
  simp only[<-L,G,c6] at a;cases P:v[j]? with
  | none=>rw[P] at a;exact nO a
  | some y=>rw[P] at a;obtain rfl:=sO a;exact⟨y,ρ,e2⟩
 have E:=(C _ fk).1;have d:=(C _ fk).2;have g:vs.length<64:=by simp_all
 refine sj abl ⟨_,E,ρ⟩ aa0 (afm adb E D.keysOf (λv₁ v₂ rest e=>adH (by rw[<-e];exact D)) g λf a1 a2=>⟨_,ρ,?_⟩)<|abm _;obtain⟨l,b1,R,b3⟩:=wA D a1 a2;obtain⟨c,hD⟩:=afW E;have n:s.heap.get? B=al:=by
  cases y:s.heap.get? B with
  | none=>rfl
  | some o=>exact absurd (O _<|vO d.1 d.2 y)<|uz _
 have kp:=Af N C λq hq=>f6 _ hq;have t:∀b o,b≠B->h'.get? b=ac o->(sortedHeap h' B vs ((aec f).map (·.2))).get? b=ac o:=λb o F e=>(afK F<|fj e).trans e;have S:(sortedHeap h' B vs ((aec f).map (·.2))).Ns X.env.locals m:=by obtain⟨oL,es,T,ho,r⟩:=N.ns;exact⟨oL,es,T,t _ _ (λz=>d.1 z.symm) ho,r⟩
 refine⟨.ref B,upd H B<|.L<|l.map V.str,I.yS hl S (λb o F e=>t b o (by lia)<|kp b o F e) n A ⟨?_,_,c,Ai b1,by omega⟩,ρ,q l R b3 B<|I.au.dead n⟩;simp only[ab,R.length_eq,M];exact z
theorem nr{f:Type}{R:f->f->Prop}(d:∀a b,R a b->R b a->a=b):∀{l c:List f},l.Perm c->l.Pairwise R->c.Pairwise R->l=c
 | [],c,p,_,_=>(List.Perm.eq_nil p.symm).symm
 | a::l,[],p,_,_=>by cases p.length_eq
 | a::l,b::c,p,h,h'=>by
  rw[T'] at h h';have e:a=b:=by
   have g:=p.mem_iff.1 fk;have i:=p.mem_iff.2 fk;rcases eW.1 g with z|z
   ·exact z
   rcases eW.1 i with y|y
   ·exact y.symm
   exact d a b (h.1 b y)<|h'.1 a z
  subst e;rw[nr d (List.Perm.cons_inv p) h.2 h'.2]
noncomputable def cM(a b:eS):Bool:=!am (b.cps.toList<a.cps.toList)
def aB(a:List eS):List Str:=a.mergeSort cM
def kS:cM a b=bd ↔ ¬(b.cps.toList<a.cps.toList):=by unfold cM;simp
def yH(a b c)(d:cM a b=bd)(f:cM b c=bd):cM a c=bd:=by rw[kS] at *;grind
def vU(a b):(cM a b||cM b a)=bd:=by grind [cM]
def EG(a):sr (aB a):=by exact (ub (le:=cM) yH vU a).imp λh=>kS.1 h
def qU (p:c.Perm d)(h:sr c):c=aB d :=
 nr (λa b f g=>kW<|ZE (Yj.1 f)<|Yj.1 g) (p.trans (gk d cM).symm) h (EG d)
noncomputable def lF:Dat->Option eS
 | .U (.str x::_)=>ac x
 | _=>al
noncomputable def firstsD:List Dat->Option (List eS)
 | []=>ac []
 | d::r=>(lF d).bind λx=>(firstsD r).map (x::·)
def iC(d:Dat):Str:=(lF d).getD YK
def ff(a b:Dat):Bool:=cM (iC a)<|iC b
def mF(ds:List Dat):List Dat:=ds.mergeSort ff
theorem FJ:∀{ds:List Dat}{fs:List eS},firstsD ds=ac fs->fs=ds.map iC/\∀d∈ds,∃x,lF d=ac x
 | [],_,e=>by obtain rfl:=sO e;exact⟨ρ,λd h=>by simp at h⟩
 | d::r,_,e=>by
  have e:(lF d).bind (λx=>(firstsD r).map (x::·))=ac _:=e;cases b:lF d with
  | none=>rw[b] at e;exact nO e
  | some x =>
   rw[b] at e;cases a:firstsD r with
   | none=>rw[a] at e;exact nO e
   | some ys=>rw[a] at e;obtain rfl:=sO e;obtain⟨h1,h2⟩:=FJ a;simp_all [iC]
theorem B0{K:f'}{H c:Hp}(s:aj c H):∀{ds:List Dat}{vs:List V}{fs:List eS},firstsD ds=ac fs->ay K c ds vs->ml K H vs fs
 | [],_,_,e,r=>by obtain rfl:=sO e;rw[show _=[] from r];exact⟨ρ,λi f e=>by simp at e⟩
 | d::ds,_,_,e,g=>by
  obtain⟨v,vr,k,l,rs⟩:=g;have e:(lF d).bind (λx=>(firstsD ds).map (x::·))=ac _:=e;cases a:lF d with
  | none=>rw[a] at e;exact nO e
  | some x =>
   rw[a] at e;simp only[md] at e;cases b:firstsD ds with
   | none=>rw[b] at e;exact nO e
   | some ys =>
    rw[b] at e;obtain rfl:=sO e;obtain⟨m,h2⟩:=B0 s b rs;simp only[k];refine⟨by simp[m],λi f h=>?_⟩;cases i with
    | zero =>
     simp at h;subst h;unfold lF at a;split at a
     ·obtain rfl:=sO a;obtain⟨p,n,rfl,o,w1,wr,q,j,_⟩:=l;subst j;exact⟨p,n,ρ,ba.mono s o,by rw[q];rfl⟩
     exact nO a
    | succ i=>simp_all
theorem ay.pick{K:f'}{H:Hp}{ds:List Dat}{vs:List V}(r:ay K H ds vs):∀(l:List Nat),(∀i∈l,i<vs.length)->ay K H (l.map λi=>ds.getD i .aQ) (l.map λi=>vs.getD i .aQ)
 | [],_=>rfl
 | i::l,h=>by
  have b:=h i fk;have a:i<ds.length:=by rw[<-r.length];exact b
  obtain⟨v,c,d⟩:=r.get<|bt a;refine⟨vs.getD i .aQ,_,ρ,?_,ay.pick r l λj f=>h j<|f6 _ f⟩;simp only[lD,c,bt a];exact d
def yN{a:Type}(l:List a)(d:a):(gD l.length).map (λi=>l.getD i d)=l:=by apply adX ⋯;intro i h1 b;simp only[Ts,List.getElem_range,fh b]
def K4 (nd:(ds.map iC).Nodup)(P:da q ds.length)(U:eZ (mK<|ds.map iC) q ds.length):(q.toList.map λi=>ds.getD i .aQ)=mF ds:=by
 have pm:(q.toList.map λi=>ds.getD i .aQ).Perm ds:=by have:=P.pm.map<|λi=>ds.getD i .aQ;rwa[yN] at this
 have m:∀i,i<ds.length->iC (ds.getD i .aQ)=(ds.map iC).getD i YK:=λi c=>by rw[fh c,fh (by simpa using c)];simp
 have g:(q.toList.map λi=>ds.getD i .aQ).Pairwise (λa b=>ff a b=bd/\a∈ds/\b∈ds):=by
  rw[pq];intro i j c d n;have o:i<ds.length:=by rw[<-P.size];simpa using c
  have f:j<ds.length:=by rw[<-P.size];simpa using d
  refine⟨?_,pm.mem_iff.1<|z8 _,pm.mem_iff.1<|z8 _⟩;have u:=U i j n f;have r:q.toList[i]'(by simpa using c)=q.getD i 0:=by simp only[nS,ia (by simpa using c)];simp
  have t:q.toList[j]'(by simpa using d)=q.getD j 0:=by simp only[nS,ia (by simpa using d)];simp
  simp only[Ts,r,t];unfold ff;rw[m _ (P.lt i o),m _<|P.lt j f,kS];unfold mK at u;exact λz=>Zr _<|aa7 (of_decide_eq_true u) z
 have k:(mF ds).Pairwise (λa b=>ff a b=bd/\a∈ds/\b∈ds):=by
  refine YQ (λv w p=>⟨p,?_,?_⟩)<|ub (le:=ff) (λa b c d f=>yH _ _ _ d f) (λa b=>vU _ _) ds
  ·exact (gk ds ff).mem_iff.1 v
  exact (gk ds ff).mem_iff.1 w
 refine nr (λa b l x=>?_) (pm.trans (gk ds ff).symm) g k;have e:=kW<|ZE (Yj.1<|kS.1 l.1)<|Yj.1<|kS.1 x.1;obtain⟨i,c,y⟩:=kx l.2.1;obtain⟨j,d,A⟩:=kx l.2.2;have B:(ds.map iC)[i]'(by simpa using c)=(ds.map iC)[j]'(by simpa using d):=by simp[y,A,e]
 have e3:=(z9 nd).1 B;simp_all
def ju:List Dat->Option Res
 | [.bC a]=>if a.length<64 then ac (.O (.L ((aB (a.map (·.1))).map .str))) else al
 | [.L ds]=>(firstsD ds).bind λfs=>if fs.Nodup/\ds.length<64 then ac (.O<|.L<|mF ds) else al
 | _=>al
theorem qB{K:f'}{H:Hp}:∀{a:List (eS×Dat)}{kvs:List (Key×V)},bJ K H a kvs->kvs.map (·.1)=(a.map (·.1)).map uy
 | [],_,h=>by rw[show _=[] from h];rfl
 | (k,d)::a,_,b=>by obtain⟨v,r,e,q,t⟩:=b;rw[e];simp[qB t]
theorem lI{K:f'}{H:Hp}:∀(a:List eS),ay K H (a.map .str) (a.map V.str)
 | []=>rfl
 | x::r=>⟨.str x,_,ρ,ρ,lI r⟩
theorem wL:CD X (λxs H Q=>uY X.K xs H Q\/qr xs H Q) ju:=by
 intro H0 ps Z σ H f vs ds o Q a S r k;delta ju at a;split at a
 ·rename_i t;split at a
  ·rename_i hz;obtain rfl:=sO a;obtain⟨v,u,rfl,⟨p,kvs,rfl,w,g⟩,d⟩:=r;subst d;refine τ ⟨p,kvs,t.map (·.1),ρ,Rd.of<|S.sub _ _ w,qB g,by rw[bJ.length g];exact hz,λss' pm h l hl=>?_⟩;rw[qU pm h];exact k (.ref l) _ f (S.made hl) (aj.refl _) ⟨l,ρ,⟨_,bb,lI _,S.cX hl⟩,(S.bz hl).2,(S.bz hl).1,S.dA hl⟩
  exact nO a
 ·rename_i j;cases c:firstsD j with
  | none=>rw[c] at a;exact nO a
  | some fs =>
   rw[c] at a;simp only[md] at a;split at a
   ·rename_i hz;obtain rfl:=sO a;obtain⟨v,u,rfl,⟨p,x,rfl,y,rs⟩,d⟩:=r;subst d;have b:=rs.length;refine ι ⟨p,x,fs,ρ,Rd.mono S.sub y,B0 S.sub c rs,hz.1,by rw[b];exact hz.2,λout h l hl=>?_⟩;obtain⟨q,P,U,z⟩:=h;obtain⟨m,_⟩:=FJ c;subst m;simp[b] at P U;have A:=K4 hz.1 P U;subst z;have n:=ay.pick rs q.toList (λi B=>by rw[b];exact mC P i B);rw[A] at n;exact k (.ref l) _ f (S.made hl) (aj.refl _) ⟨l,ρ,⟨_,bb,n,S.cX hl⟩,(S.bz hl).2,(S.bz hl).1,S.dA hl⟩
   exact nO a
 exact nO a
def Dr (a:X.ex=[])(b:X.calm=bd)(c:Gl X "sorted")(d:X.mg "sorted"=al)(f:bA X e [])(g:DA X [e] fa):DE X (.Call (.Name "sorted" p) [e] [] pos) (bO ju fa) :=
 gB (bM.or (Dm a)<|wI a b) wL c d (by decide +kernel) g ⋯ ⋯ f rfl
structure kN (x:eS):Prop where
 mark:True
def CP (hl:kN x)(hnd:N.Nodup)(hXN:X.N=N)(hkb:(gE scope).findIdx? (·==x)=ac kb)(hj:N.findIdx? (·==x)=ac j)(h:X.calm=bd)(B:i7 X.env.scope scope)(f:gJ X.N (gE scope) scope (pK N scope)=bd)(hs:∀x,um iter X.env x=pure x)(i:dh X d iter fi)(k:∀(b:List (eS×dk)) (C:dk) (a:cW) (H:Hp) (c:List dk),DG (cg X (gE scope) scope b C a H c) d g)(l:∀(b:List (eS×dk)) (C:dk) (a:cW) (H:Hp) (c:List dk),lU (cg X (gE scope) scope b C a H c) ifs fc)(m:∀(b:List (eS×dk)) (C:dk) (a:cW) (H:Hp) (c:List dk),DD (cg X (gE scope) scope b C a H c) elt fe):DE X (.ListComp elt [⟨d,iter,ifs,0⟩] scope pos) (d9 (pK N scope) (ac (kb,j)) fi g fc fe):=Mh kb j h B f i k l m hs
end
noncomputable def eI:List Dat->List Dat->Bool
 | [],[]=>true
 | x::xs,y::ys=>bV x y&&eI xs ys
 | _,_=>false
def iG(i j):bV (.int i) (.int j)=am (i=j):=by rfl
def jB(i j):bV (.str i) (.str j)=am (i=j):=by rfl
theorem zJ:∀xs ys:List Dat,ad7 (di xs) (di ys)=eI xs ys
 | [],[]=>by rfl
 | x::xs,[]=>by rfl
 | [],y::ys=>by rfl
 | x::xs,y::ys=>by simp only[di,ad7,zJ xs ys];rfl
def oV(xs ys):bV (.U xs) (.U ys)=eI xs ys:=by show P' (.tuple<|di xs) (.tuple<|di ys)=_;simp only[P',zJ]
def kG(xs ys):bV (.L xs) (.L ys)=eI xs ys:=by show P' (.list<|di xs) (.list<|di ys)=_;simp only[P',zJ]
noncomputable def eM:Dat->Bool
 | .aQ=>true
 | .bl _=>true
 | .int _=>true
 | .str x=>sD x
 | _=>false
def jo:Dat->Bool
 | .U ds=>ds.all eM
 | .L ds=>ds.all eM
 | d=>eM d
def tU (h:eM d=bd):gA d=bd/\(toPy d).canLay0=bd/\(toPy d).depth=0:=by
 cases d<;>first|cases h|skip
 ·exact⟨ρ,by rw[toPy,Rr],by rfl⟩
 ·exact⟨ρ,by rw[toPy,Rr],by rfl⟩
 ·exact⟨ρ,by rw[toPy,Rr],by rfl⟩
 exact⟨ρ,by rw[toPy,Rr];exact h,by rfl⟩
theorem qq{n:Nat}{p:Dat->Bool}(e:∀d,p d=bd->gA d=bd/\(toPy d).canLay0=bd/\(toPy d).depth<=n):∀{ds:List Dat},ds.all p=bd->jL ds=bd/\aaa (di ds)=bd/\abL (di ds)<=n
 | [],_=>⟨ρ,by rw[di,aaa],by simp[di,abL]⟩
 | d::ds,h=>by
  simp only[aas,fv] at h;obtain⟨a,b,c⟩:=e d h.1;obtain⟨f,b',c'⟩:=qq e h.2;refine⟨?_,?_,?_⟩
  ·simp only[jL,a,f];rfl
  ·simp only[di,aaa,b,b'];rfl
  dsimp only[di,abL];lia
theorem xb (h:jo d=bd):gA d=bd/\(toPy d).canLay0=bd/\(toPy d).depth<=1:=by
 have k:=@qq 0 eM λd h=>⟨(tU h).1,(tU h).2.1,Zy (tU h).2.2⟩;have l:eM d=bd->gA d=bd/\(toPy d).canLay0=bd/\(toPy d).depth<=1:=by simp_all [tU]
 cases d with
 | U ds=>obtain⟨a,b,c⟩:=k h;simp_all [gA,toPy,Rr,PyData.depth]
 | L ds=>obtain⟨a,b,c⟩:=k h;simp_all [gA,toPy,Rr,PyData.depth]
 | _=>exact l h
def iJ (h:jo d=bd):bQ d=bd:=by obtain⟨a,b,c⟩:=xb h;dsimp only[bQ,abi];lia
def zZ (h:ds.all jo=bd):bQ (.L ds)=bd:=by obtain⟨a,b,c⟩:=@qq 1 jo (λd h=>xb h) ds h;dsimp only[bQ,abi];simp only[gA,toPy,Rr,PyData.depth,a,b];simp;lia
def lO:bQ (.int i)=bd:=iJ ρ
def lX (h:sD x=bd):bQ (.str x)=bd:=iJ h
def DM (h:ds.all eM=bd):bQ (.U ds)=bd:=iJ h
theorem p9(d):∀ds:List Dat,inD d ds=ds.any λy=>bV y d
 | []=>by rfl
 | y::r=>by have:=p9 d r;unfold inD at this ⊢;simp only[di,Zg,this];rfl
noncomputable def after(g:SF):Out->Option Out
 | .next Z=>g Z
 | o=>ac o
noncomputable def pick (b:Bool)(x y:a):a:=if b=bd then x else y
section
variable{f g:DF}{e:EF}{c c':BF}{s s':SF}{a:AF}{Z Z1 Z2 Z3:DS}{d d':Dat}{ds:List Dat}{r:Res}{b b':Bool}{o o1:Out}{oo:Option Out}{Q:Out->Prop}{P:hY}{w:nR}{K:f'}{mg:eS->Option cn}{base:nL}
def v_after{g:SF}:(iH s g Z)=(s Z).bind (after g):=by rfl
def vv{g:SF}(h:s Z=ac o1)(h':after g o1=oo):iH s g Z=oo:=by rw[v_after,h];exact h'
def uf{g:SF}(h:g Z=oo):after g (.next Z)=oo:=h
def T5{g:SF}{i:Res}{j:DS}(h:r=i)(h':Z=j):after g (.ret r Z)=ac (.ret i j):=by rw[<-h,<-h'];rfl
def Oz:(Res.D d).val=d:=ρ
def xH(h:c Z=ac (b,Z1))(h':pick b (s Z1) (s' Z1)=oo):ky c s s' Z=oo:=by unfold ky;rw[h];exact h'
def GI (j:b=bd)(h:x=z):pick b x y=z:=by subst j;exact h
def zV (j:b=bi)(h:y=z):pick b x y=z:=by subst j;exact h
def v_and(h:c Z=ac (b,Z1))(h':pick b (c' Z1) (ac (false,Z1))=ac (b',Z2)):mX c c' Z=ac (b',Z2):=by unfold mX;rw[h];exact h'
def oE(h:c Z=ac (b,Z1))(h':c' Z1=ac (b',Z1)):mX c c' Z=ac (b&&b',Z1):=by
 delta mX;rw[h];cases b
 ·rfl
 exact h'
def v_or(h:c Z=ac (b,Z1))(h':pick b (ac (true,Z1)) (c' Z1)=ac (b',Z2)):pd c c' Z=ac (b',Z2):=by unfold pd;rw[h];exact h'
def qC(h:c Z=ac (b,Z1))(h':c' Z1=ac (b',Z1)):pd c c' Z=ac (b||b',Z1):=by
 delta pd;rw[h];cases b
 ·exact h'
 rfl
def j3(h:c Z=ac (b,Z1)):oX c Z=ac (!b,Z1):=by simp_all [oX]
def fQ(h:f Z=ac (d,Z1))(h':mf d=ac b):mI f Z=ac (b,Z1):=by simp_all [mI]
def bK(h:e Z=ac (.D<|.bl b,Z1)):fx e Z=ac (b,Z1):=by unfold fx;rw[h];rfl
def rS(h:f Z=ac (.bl b,Z1))(h':g Z1=ac (.bl b',Z1)):lx f g Z=ac (.bl<|b&&b',Z1):=by
 delta lx;rw[h];cases b
 ·rfl
 exact h'
def EA(h:f Z=ac (.bl b,Z1))(h':g Z1=ac (.bl b',Z1)):og f g Z=ac (.bl (b||b'),Z1):=by
 delta og;rw[h];cases b
 ·exact h'
 rfl
def v_res(h:f Z=ac (d,Z1)):rC f Z=ac (.D d,Z1):=by simp_all [rC]
def ag(h:e Z=ac (r,Z1))(h':r.val=d):fu e Z=ac (d,Z1):=by simp_all [fu]
def aw (h:f Z=ac (d,Z1))(h1:g Z1=ac (d',Z2))(h2:op d d'=ac r):bW op f g Z=ac (r,Z2):=by simp_all [bW]
def xX (h:f Z=ac (d,Z1))(h':kh d T=ac b):jK T f Z=ac (.bl b,Z1):=by simp_all [jK]
def az (h:a Z=ac (ds,Z1))(h':fn ds=ac r):bO fn a Z=ac (r,Z1):=by simp_all [bO]
def dz (h0:(Z[i]?).bind ownOf=ac j)(h:a Z=ac (ds,Z1))(h1:(Z1[i]?).bind ownOf=ac t)(h2:fn t.2 ds=ac (r,d'))(h3:Z1.set i (kindAt t.1 d')=Z2):o5 fn i a Z=ac (r,Z2):=by simp_all [o5]
def ao:gg Z=ac ([],Z):=ρ
def ae(h:f Z=ac (d,Z1))(h':a Z1=ac (ds,Z2)):dQ f a Z=ac (d::ds,Z2):=by simp_all [dQ]
def cR(h:a Z=ac (ds,Z1))(h':ds.length<=cA):oG a Z=ac (.O<|.L ds,Z1):=by unfold oG;rw[h];exact if_pos h'
def eV(h:a Z=ac (ds,Z1))(h':ds.length<=cA):vt a Z=ac (.U ds,Z1):=by unfold vt;rw[h];exact if_pos h'
def zT{n c:Dat}(h:f Z=ac (c,Z1))(h1:g Z1=ac (n,Z2))(h2:cC c n=ac d):r9 f g Z=ac (d,Z2):=by simp_all [r9]
def aI{i:Nat}{c0 n c:Dat}(h0:(Z[i]?).bind jC=ac c0)(h1:g Z=ac (n,Z1))(h:(Z1[i]?).bind jC=ac c)(h2:cC c n=ac d):l9 i g Z=ac (d,Z1):=by simp_all [l9]
def gq{i n:Nat}{c:Dat}(h0:(Z[i]?).bind jC=ac c)(h:dD c=ac n):pW i Z=ac (.int n,Z):=by simp_all [pW]
def zi(h:e Z=ac (r,Z1)):lh e Z=ac (.ret r Z1):=by simp_all [lh]
def rT (h:e Z=ac (r,Z1))(h':lR i r Z1=ac Z2):iE i e Z=ac (.next Z2):=by simp_all [iE]
def tj(h:f Z=ac (d,Z1)):lS f Z=ac (.next Z1):=by simp_all [lS]
def dM (h:F Z=ac x):alt F G Z=ac x:=by unfold alt;rw[h]
def D3{o1 o2:Dat->Dat->Option Res}(i:f Z=ac (x,Z1))(j:g Z1=ac (y,Z2))(k:o1 x y=ac (.D<|.bl b))(hh:h Z2=ac (z,Z2))(h2:o2 y z=ac (.D<|.bl b')):j7 o1 o2 f g h Z=ac (.bl<|b&&b',Z2):=by
 unfold j7;simp only[i];show (g Z1).bind _=_;rw[j];simp only[md,k];cases b
 ·rfl
 simp_all
def Tj{o1 o2:Dat->Dat->Option Res}(hh:j7 o1 o2 f g h Z=ac (.bl b,Z1)):pX o1 o2 f g h Z=ac (b,Z1):=by unfold pX;rw[hh];rfl
def jX{C:Int->Int->Bool}{g:Int->Int->Dat}(h:C i j=bd):fw C g (.int i) (.int j)=ac (.D<|g i j):=if_pos h
def v_eq (h:bQ x=bd)(h':bQ y=bd):dg false x y=ac (.D<|.bl<|bV x y):=by unfold dg;rw[h,h'];rfl
def rE (h:bQ x=bd)(h':bQ y=bd):dg true x y=ac (.D<|.bl<|!bV x y):=by unfold dg;rw[h,h'];rfl
def Fy (h:x.length+y.length<=cA):fq (.str x) (.str y)=ac (.D<|.str<|x++y):=if_pos h
def nX (h:x.length+y.length<=cA):fq (.L x) (.L y)=ac (.O<|.L<|x++y):=if_pos h
def Ge (h:f Z=ac (d,Z1))(h0:(Z1[i]?).bind ownOf=ac m)(h1:l Z1=ac (.str k,Z2))(h2:(Z2[i]?).bind ownOf=ac (b,.bC j))(h3:j.length<cA)(h4:Z2.set i (kindAt b<|.bC<|kD j k d)=Z3):mz i l f Z=ac (.next Z3):=by simp_all [mz]
def ot (h:F Z=al)(h':G Z=ac x):alt F G Z=ac x:=by simp_all [alt]
def xj (h:s (gV n ds)=ac (.ret r Z)):iu n s ds=ac r:=by unfold iu;rw[h];rfl
def zB (h:s (iO n j c0 ds)=ac (.ret r Z))(h':Z[j]?=ac (.io i)):nj n j s c0 ds=ac (r,i):=by simp_all [nj]
def qV (h:f Z=ac (d,Z1))(h0:(Z1[i]?).bind ownOf=ac m)(h1:l Z1=ac (.int k,Z2))(h2:(Z2[i]?).bind ownOf=ac (b,.L xs))(h3:gv xs.length k=ac j)(h4:Z2.set i (kindAt b<|.L<|xs.set j d)=Z3):lb i l f Z=ac (.next Z3):=by simp_all [lb]
def Bc (h:f Z=ac (d,Z1))(h0:(Z1[i]?).bind ownOf=ac m)(n:j Z1=ac (.str k,Z2))(p:(Z2[i]?).bind ownOf=ac (b,.bC l))(q:l.length<cA)(t:Z2.set i (kindAt b<|.bC<|kD l k d)=Z3):alt (lb i j f) (mz i j f) Z=ac (.next Z3):=by refine ot ?_<|Ge h h0 n p q t;simp_all [lb]
def Hk:dg false (.int i) (.int j)=ac (.D<|.bl<|am<|i=j):=by rw[v_eq lO lO,iG]
def yU (h:sD i=bd)(h':sD j=bd):dg false (.str i) (.str j)=ac (.D<|.bl<|am<|i=j):=by rw[v_eq (lX h) (lX h'),jB]
theorem yh{g:GF}{fc:BF}{fe:DF}(I:Nat->List Dat->DS->Prop):∀(xs:List Dat) (n:Nat) (i:List Dat) (Z:DS),I n i Z->i.length+xs.length<=cA ->
  (∀(k:Nat) (x:Dat),xs[k]?=ac x->∀i Z,I (n+k) i Z->∃Z1 b Z2,g x Z=ac Z1/\fc Z1=ac (b,Z2)/\((b=bi/\noOwn Z2=bd/\I (n+k+1) i Z2)\/∃d Z3,b=bd/\fe Z2=ac (d,Z3)/\noOwn Z3=bd/\I (n+k+1) (i++[d]) Z3)) ->
  ∃l m,I (n+xs.length) l m/\compLoop g fc fe xs i Z=ac (l,m)
 | [],n,i,Z,h,_,_=>⟨i,Z,h,ρ⟩
 | x::xs,n,i,Z,h,hz,k=>by
  have v:∀(j:Nat) (y:Dat),xs[j]?=ac y->∀i Z,I (n+1+j) i Z->∃Z1 b Z2,g y Z=ac Z1/\fc Z1=ac (b,Z2)/\((b=bi/\noOwn Z2=bd/\I (n+1+j+1) i Z2)\/∃d Z3,b=bd/\fe Z2=ac (d,Z3)/\noOwn Z3=bd/\I (n+1+j+1) (i++[d]) Z3):=λj y C i Z D=>by have:=k (j+1) y C i Z (by rw[show n+(j+1)=n+1+j from by lia];exact D);rw[show n+(j+1)+1=n+1+j+1 from by lia] at this;exact this
  have z:n+(x::xs).length=n+1+xs.length:=by simp only[gW];lia
  obtain⟨Z1,b,Z2,A,B,E⟩:=k 0 x ρ i Z h;rcases E with⟨rfl,p,q⟩|⟨d,Z3,rfl,F,p,q⟩
  ·obtain⟨l,m,t,u⟩:=yh I xs (n+1) i Z2 q (by omega) v;refine⟨l,m,z ▸ t,?_⟩;show (g x Z).bind _=_;simp[A];rw[B];show (if noOwn Z2=bd then compLoop g fc fe xs i Z2 else al)=_;rw[if_pos p];exact u
  obtain⟨l,m,t,u⟩:=yh I xs (n+1) (i++[d]) Z3 q (by rw[eu];simp;omega) v;refine⟨l,m,z ▸ t,?_⟩;show (g x Z).bind _=_;simp[A];rw[B];show (fe Z2).bind _=_;rw[F];show (if i.length<cA/\noOwn Z3=bd then _ else al)=_;rw[if_pos ⟨by omega,p⟩];exact u
def WS(s:SF)(Z:DS)(Q:Out->Prop):Prop:=∃o,s Z=ac o/\Q o
def AQ(g:SF)(Q:Out->Prop):Out->Prop
 | .next Z=>WS g Z Q
 | .ret r Z=>Q (.ret r Z)
 | .brk Z=>Q (.brk Z)
 | .cont Z=>Q (.cont Z)
 | .exc C Z=>Q<|.exc C Z
def WB(c:BF)(Z:DS)(Q:Bool->DS->Prop):Prop:=∃b Z1,c Z=ac (b,Z1)/\Q b Z1
def WS.mono (h:WS s Z Q)(k:∀o,Q o->i o):WS s Z i:=⟨h.choose,h.choose_spec.1,k _ h.choose_spec.2⟩
def KD (h:s Z=ac o)(q:Q o):WS s Z Q:=⟨o,h,q⟩
theorem ah{g:SF}(h:WS s Z (AQ g Q)):WS (iH s g) Z Q:=by
 obtain⟨o,e,q⟩:=h;cases o with
 | next Z1=>obtain⟨o2,i,j⟩:=q;exact⟨o2,by rw[v_after,e];exact i,j⟩
 | ret r Z1=>exact⟨_,by rw[v_after,e];rfl,q⟩
 | brk Z1=>exact⟨_,by rw[v_after,e];rfl,q⟩
 | cont Z1=>exact⟨_,by rw[v_after,e];rfl,q⟩
 | exc C Z1=>exact⟨_,by rw[v_after,e];rfl,q⟩
def aU(q:Q (.next Z)):WS kP Z Q:=⟨_,ρ,q⟩
def aq{g:SF}(h:WS g Z Q):AQ g Q (.next Z):=h
def cN{g:SF}(h:Q (.ret r Z)):AQ g Q (.ret r Z):=h
def aG (h:e Z=ac (r,Z1))(h':lR i r Z1=ac Z2)(q:Q (.next Z2)):WS (iE i e) Z Q:=⟨_,rT h h',q⟩
def bH(h:e Z=ac (r,Z1))(q:Q (.ret r Z1)):WS (lh e) Z Q:=⟨_,zi h,q⟩
def jS(h:f Z=ac (d,Z1))(q:Q (.next Z1)):WS (lS f) Z Q:=⟨_,tj h,q⟩
def mV(h:WB c Z λb Z1=>(b=bd->WS s Z1 Q)/\(b=bi->WS s' Z1 Q)):WS (ky c s s') Z Q:=by
 obtain⟨b,Z1,e,j,k⟩:=h;cases b
 ·obtain⟨o,i,q⟩:=k ρ;exact⟨o,xH e i,q⟩
 obtain⟨o,i,q⟩:=j ρ;exact⟨o,xH e i,q⟩
def dm(h:c Z=ac (b,Z1))(t:b=bd->WS s Z1 Q)(n:b=bi->WS s' Z1 Q):WS (ky c s s') Z Q:=mV ⟨b,Z1,h,t,n⟩
def vc{Q:Bool->DS->Prop}(h:c Z=ac (b,Z1))(q:Q b Z1):WB c Z Q:=⟨b,Z1,h,q⟩
def F3{Q:Bool->DS->Prop}(h:WB c Z λb Z1=>(b=bd->WB c' Z1 Q)/\(b=bi->Q false Z1)):WB (mX c c') Z Q:=by
 obtain⟨b,Z1,e,i,j⟩:=h;cases b
 ·exact⟨false,Z1,v_and e ρ,j ρ⟩
 obtain⟨b',Z2,k,q⟩:=i ρ;exact⟨b',Z2,v_and e k,q⟩
def Am{Q:Bool->DS->Prop}(h:WB c Z λb Z1=>Q (!b) Z1):WB (oX c) Z Q:=by obtain⟨b,Z1,e,q⟩:=h;exact⟨!b,Z1,j3 e,q⟩
def vW(N:DS->Prop)(Q:Out->Prop):Out->Prop
 | .next Z=>N Z
 | .cont Z=>N Z
 | .brk Z=>Q (.next Z)
 | .ret r Z=>Q (.ret r Z)
 | .exc _ _=>False
theorem Hl{g:GF}{fb:SF}{Q:Out->Prop}(I:Nat->DS->Prop):∀(xs:List Dat) (n:Nat) (Z:DS),I n Z->(∀(k:Nat) (x:Dat),xs[k]?=ac x->∀Z,I (n+k) Z->∃Z1,g x Z=ac Z1/\WS fb Z1 (vW (I<|n+k+1) Q)) ->
  (∀Z,I (n+xs.length) Z->Q (.next Z))->WS (forLoop g fb xs) Z Q
 | [],n,Z,h,_,i=>⟨_,ρ,i Z h⟩
 | x::xs,n,Z,h,k,i=>by
  obtain⟨Z1,l,o,m,q⟩:=k 0 x ρ Z h;have go:∀Z2,I (n+0+1) Z2->WS (forLoop g fb xs) Z2 Q:=λZ2 p=>Hl I xs (n+1) Z2 p (λj y t Z u=>by
   have:=k (j+1) y t Z (by rw[show n+(j+1)=n+1+j from by lia];exact u);rw[show n+(j+1)+1=n+1+j+1 from by lia] at this
   exact this)<|λZ hd=>i Z (by simp only[gW,show n+(xs.length+1)=n+1+xs.length from by lia];exact hd)
  have hh:∀oo,fb Z1=ac oo->forLoop g fb (x::xs) Z=match oo with
   | .next Z2=>forLoop g fb xs Z2
   | .cont Z2=>forLoop g fb xs Z2
   | .brk Z2=>ac (.next Z2)
   | .ret r Z2=>ac (.ret r Z2)
   | .exc _ _=>al:=λoo v=>by
   show (g x Z).bind _=_;rw[l];show (fb Z1).bind _=_;rw[v];cases oo<;>rfl
  have hh:=hh o m;delta WS;cases o with
  | next Z2=>rw[hh];exact go Z2 q
  | cont Z2=>rw[hh];exact go Z2 q
  | brk Z2=>rw[hh];exact⟨_,ρ,q⟩
  | ret r Z2=>rw[hh];exact⟨_,ρ,q⟩
  | exc C Z2=>exact q.elim
def dB{fi:IF}{g:GF}{fb:SF}(I:Nat->DS->Prop)(h:fi Z=ac (ds,Z1))(h0:I 0 Z1)(st:∀(k:Nat) (x:Dat),ds[k]?=ac x->∀Z,I k Z->∃Z1,g x Z=ac Z1/\WS fb Z1 (vW (I<|k+1) Q))
 (i:∀Z,I ds.length Z->Q (.next Z)):WS (pO fi g fb) Z Q:=by
 have:=Hl I ds 0 Z1 h0 (λk x l Z j=>by
  obtain⟨Z1,m,w⟩:=st k x l Z (by rw[Y3] at j;exact j)
  exact⟨Z1,m,by rw[Y3];exact w⟩)<|λZ hd=>i Z (by rw[Y3] at hd;exact hd)
 obtain⟨o,e,q⟩:=this;exact⟨o,(λh h'=>by unfold pO;rw[h];exact h') h e,q⟩
def GV{caps:List (Option Nat)}{fi:IF}{g:GF}{fc:BF}{fe:DF}{out:List Dat}{i:DS}(h:fi Z=ac (ds,Z1))(hf:bq al caps Z1=Z2)(hl:compLoop g fc fe ds [] (cp caps Z2)=ac (out,i)):d9 caps al fi g fc fe Z=ac (.O<|.L out,Z2):=by simp_all [d9]
def Tc{caps:List (Option Nat)}{k j:Nat}{fi:IF}{g:GF}{fc:BF}{fe:DF}{out:List Dat}{i:DS}{c0 l:Dat}(h:fi Z=ac (ds,Z1))(hf:bq (ac (k,j)) caps Z1=Z2)(hc:caps[k]?=ac (ac j))(hj:Z2[j]?=ac (.io c0))
 (hl:compLoop g fc fe ds [] ((cp caps Z2).set k (.io c0))=ac (out,i))(hk:i[k]?=ac (.io l))(h3:Z2.set j (.io l)=Z3):d9 caps (ac (k,j)) fi g fc fe Z=ac (.O<|.L out,Z3):=by
 simp_all [d9]
theorem BW{g:GF}{fc:BF}{fe:DF}{n:DS}(put:Dat->DS)(keep:Dat->Bool)(val:Dat->Dat):∀(xs:List Dat) (h:List Dat) (Z:DS),h.length+xs.length<=cA ->
  (∀x∈xs,∀Z,(Z=n\/∃y,Z=put y)->g x Z=ac (put x))->(∀x∈xs,fc (put x)=ac (keep x,put x))->(∀x∈xs,keep x=bd->fe (put x)=ac (val x,put x))->(∀x∈xs,noOwn (put x)=bd)->(Z=n\/∃y,Z=put y) ->
  ∃l,compLoop g fc fe xs h Z=ac (h++(xs.filter keep).map val,l)
 | [],h,Z,_,_,_,_,_,_=>⟨Z,by simp[compLoop]⟩
 | x::xs,h,Z,hz,p,q,t,u,hd=>by
  simp at hz;have z:=p x (fk ..) Z hd;have A:=q x<|fk ..;have B:=u x<|fk ..;have j:=λk (v:k.length+xs.length<=cA)=>BW put keep val xs k (put x) v (λy i=>p y<|f6 _ i) (λy i=>q y<|f6 _ i) (λy i=>t y<|f6 _ i) (λy i=>u y<|f6 _ i)<|τ ⟨x,ρ⟩;cases m:keep x with
  | false=>obtain⟨l,e⟩:=j h (by omega);simp_all [compLoop]
  | true=>obtain⟨l,e⟩:=j (h++[val x]) (by rw[eu];simp;omega);refine⟨l,?_⟩;show (g x Z).bind _=_;rw[z];show (fc<|put x).bind _=_;rw[A,m];show (fe<|put x).bind _=_;rw[t x (fk ..) m];show (if h.length<cA/\noOwn (put x)=bd then _ else al)=_;rw[if_pos ⟨by omega,B⟩,e,wy,m];simp
def WE(e:EF)(Z:DS)(Q:Res->DS->Prop):Prop:=∃r Z1,e Z=ac (r,Z1)/\Q r Z1
def WD(f:DF)(Z:DS)(Q:Dat->DS->Prop):Prop:=∃d Z1,f Z=ac (d,Z1)/\Q d Z1
def WA(a:AF)(Z:DS)(Q:List Dat->DS->Prop):Prop:=∃ds Z1,a Z=ac (ds,Z1)/\Q ds Z1
def gK{Q:Res->DS->Prop}(h:e Z=ac (r,Z1))(q:Q r Z1):WE e Z Q:=⟨r,Z1,h,q⟩
def Ms{Q:Dat->DS->Prop}(h:f Z=ac (d,Z1))(q:Q d Z1):WD f Z Q:=⟨d,Z1,h,q⟩
def lL{Q:Dat->DS->Prop}(h:WE e Z λr Z1=>Q r.val Z1):WD (fu e) Z Q:=by obtain⟨r,Z1,i,q⟩:=h;exact⟨_,Z1,ag i ρ,q⟩
def rl{Q:List Dat->DS->Prop}(q:Q [] Z):WA gg Z Q:=⟨_,_,ρ,q⟩
def rf{Q:List Dat->DS->Prop}(h:WD f Z λd Z1=>WA a Z1 λds Z2=>Q (d::ds) Z2):WA (dQ f a) Z Q:=by obtain⟨d,Z1,i,ds,Z2,j,q⟩:=h;exact⟨_,Z2,ae i j,q⟩
def qG {Q:Res->DS->Prop}(h:WA a Z λds Z1=>∃r,fn ds=ac r/\Q r Z1):WE (bO fn a) Z Q:=by obtain⟨ds,Z1,i,r,j,q⟩:=h;exact⟨r,Z1,az i j,q⟩
def RH (h:f Z=ac (.L ds,Z1))(i:dF ds=ac ys)(j:sep.length<=16/\(ys.map (·.length)).sum+ys.length<=1048576):r8 sep f Z=ac (.str<|aaC sep ys,Z1):=by delta r8;simp[h];simp only[i];exact if_pos j
def Ah{Q:Bool->DS->Prop}(h:WE e Z λr Z1=>∃b,r=.D (.bl b)/\Q b Z1):WB (fx e) Z Q:=by obtain⟨r,Z1,i,b,rfl,q⟩:=h;exact⟨b,Z1,bK i,q⟩
def yq{Q:Bool->DS->Prop}(h:WD f Z λd Z1=>∃b,mf d=ac b/\Q b Z1):WB (mI f) Z Q:=by obtain⟨d,Z1,i,b,j,q⟩:=h;exact⟨b,Z1,fQ i j,q⟩
def PC (h:WE e Z λr Z1=>∃Z2,lR i r Z1=ac Z2/\Q (.next Z2)):WS (iE i e) Z Q:=by obtain⟨r,Z1,j,Z2,k,q⟩:=h;exact⟨_,rT j k,q⟩
def ou (h:WE e Z λr Z1=>Q<|.ret r Z1):WS (lh e) Z Q:=by obtain⟨r,Z1,i,q⟩:=h;exact⟨_,zi i,q⟩
def QJ{caps:List (Option Nat)}{kb j:Nat}{fi:IF}{g:GF}{fc:BF}{fe:DF}{xs:List Dat}{c0:Dat}{Q:Res->DS->Prop}(I:Nat->List Dat->DS->Prop)(t:fi Z=ac (xs,Z1))(u:bq (ac (kb,j)) caps Z1=Z2)(v:caps[kb]?=ac (ac j))(y:Z2[j]?=ac (.io c0))(h0:I 0 [] ((cp caps Z2).set kb (.io c0)))(hz:xs.length<=cA)
 (st:∀(k:Nat) (x:Dat),xs[k]?=ac x->∀h Z,I k h Z->∃Z1,g x Z=ac Z1/\WB fc Z1 λb Z2=>(b=bi->noOwn Z2=bd/\I (k+1) h Z2)/\(b=bd->WD fe Z2 λd Z3=>noOwn Z3=bd/\I (k+1) (h++[d]) Z3))
 (m:∀h Z,I xs.length h Z->∃l,Z[kb]?=ac (.io l)/\Q (.O<|.L h) (Z2.set j<|.io l)):WE (d9 caps (ac (kb,j)) fi g fc fe) Z Q:=by
 obtain⟨h,z,n,A⟩:=yh I xs 0 [] _ h0 (by simpa using hz) (λk x B h Z i=>by
  rw[Y3] at i ⊢;obtain⟨Z1,C,b,Z2,D,p,E⟩:=st k x B h Z i;refine⟨Z1,b,Z2,C,D,?_⟩;cases b
  ·exact ι ⟨ρ,(p ρ).1,(p ρ).2⟩
  obtain⟨d,Z3,F,G,H⟩:=E ρ;exact τ ⟨d,Z3,ρ,F,G,H⟩)
 rw[Y3] at n;obtain⟨l,i,q⟩:=m h z n;exact⟨_,_,Tc t u v y A i ρ,q⟩
noncomputable def iK (n:Nat)(f:List h->Option i):List h->Option i:=λds=>if ds.length=n then f ds else al
def BM{i j:Type}{n:Nat}{f:List i->Option j}{ds:List i}(h:ds.length=n):iK n f ds=f ds:=if_pos h
def bT{x h:eS}{st:Zq}{f:dk}{m:hO}{N j:List eS}{k n:Nat}{fb:SF}{Spec:aN->Prop}(F:bc K x h st f m)(S:bp N j (aV st))(hn:j.length=n)
 (p:∀(i:cn) (A:pA) (outer:List Env) (s:cW) (H:Hp) (E:XK),df k (A.deeper<|aay h (aV st) s.heap.objs.size f i)->ij (jP aZ P w K mg base N h (aV st) f i A outer s H E).lC (jc st) fb)
 (l:Spec (iK n<|iu N.length fb)):∃fn,a9 P w K mg base aZ (k+1) f m j (aD K fn)/\Spec fn:=by
 refine⟨_,FY F S ?_ p ?_,l⟩;simp_all [iK];simp[iK]
def oW{x h:eS}{st:Zq}{f:dk}{p:hO}{N l:List eS}{k n j:Nat}{fb:SF}{Spec:dG->Prop}(F:bc K x h st f p)(S:bp N l (aV st))(hn:l.length=n+1)
 (q:∀(i:cn) (A:pA) (outer:List Env) (s:cW) (H:Hp) (E:XK),df k (A.deeper<|aay h (aV st) s.heap.objs.size f i)->ij (jP aZ P w K mg base N h (aV st) f i A outer s H E).lC (jc st) fb)
 (m:Spec (λc=>iK n<|nj N.length j fb c)):∃fn,a9 P w K mg base aZ (k+1) f p l (eJ K j fn)/\Spec fn:=by
 refine⟨_,LO F S ?_ q ?_,m⟩;simp_all [iK];simp[iK]
def xJ {P:Res->Prop}(i:ds.length=m)(h:WS s (gV n ds) λo=>∃r Z,o=.ret r Z/\P r):∃r,iK m (iu n s) ds=ac r/\P r:=by rw[BM i];exact (λh=>by obtain⟨o,e,r,Z,rfl,p⟩:=h;exact⟨r,xj e,p⟩) h
def qY {P:Res->Dat->Prop}(k:ds.length=m)(h:WS s (iO n j c0 ds) λo=>∃r Z i,o=.ret r Z/\Z[j]?=ac (.io i)/\P r i):∃r i,iK m (nj n j s c0) ds=ac (r,i)/\P r i:=by rw[BM k];exact (λh=>by obtain⟨o,e,r,Z,i,rfl,h,p⟩:=h;exact⟨r,i,zB e h,p⟩) h
def ck (j:ds.length=m)(h:WS s (gV n ds) λo=>∃Z,o=.ret r Z):iK m (iu n s) ds=ac r:=by obtain⟨i,e,z⟩:=xJ j (h.mono λo ⟨Z,e⟩=>⟨r,Z,e,ρ⟩);rw[e,z]
def zQ{caps:List (Option Nat)}{fi:IF}{g:GF}{fc:BF}{fe:DF}{xs:List Dat}(put:Dat->DS)(keep:Dat->Bool)(val:Dat->Dat)(h:fi Z=ac (xs,Z1))(i:bq al caps Z1=Z2)(hz:xs.length<=cA)
 (j:∀x∈xs,∀Z,(Z=cp caps Z2\/∃y,Z=put y)->g x Z=ac (put x))(k:∀x∈xs,fc (put x)=ac (keep x,put x))(l:∀x∈xs,keep x=bd->fe (put x)=ac (val x,put x))(m:∀x∈xs,noOwn (put x)=bd) :
  d9 caps al fi g fc fe Z=ac (.O<|.L<|(xs.filter keep).map val,Z2):=by
 obtain⟨Z',e⟩:=BW put keep val xs [] (cp caps Z2) (by simpa using hz) j k l m<|ι ρ;exact GV h i e
def Lf (h:f Z=ac (.str x,Z1))(i:x.cps.all (·<128)=bd):alt (jU f) (kj f) Z=ac (x.cps.toList.map λc=>.str ⟨#[c]⟩,Z1):=by refine ot ?_<|(λh i=>by delta kj;rw[h];exact if_pos i) h i;delta jU;rw[h];rfl
def bB(h:f Z=ac (.L ds,Z1)):alt (jU f) (kj f) Z=ac (ds,Z1):=by apply dM;delta jU;rw[h];rfl
theorem r6 (f):∀cs:List h,je (cs.map λc=>.bl<|f c)=ac (cs.map f)
 | []=>rfl
 | c::cs=>by simp only[hS,je,r6 f cs];rfl
end
def fX (h:b=b'):∃a,Out.ret (.D<|.bl b) Z=.ret (.D<|.bl b') a:=⟨Z,by rw[h]⟩
def xT (h:(sD x&&sD y&&(am (x=y)==b))=bd):dg false (.str x) (.str y)=ac (.D<|.bl b):=by simp_all [yU]
def Np(a):bV (.bl a) (.bl a)=bd:=by show P' (.bool a) (.bool a)=bd;simp only[P'];simp
def u5 (h:a Z=ac ([.int n],Z1))(b:-(2 ^ 62)<=n/\n<2 ^ 62):rM a Z=ac (dJ 0 n,Z1):=by delta rM;rw[h];exact if_pos b
structure Ob where
 l:Int
 b:Int
 r:Int
 t:Int
deriving DecidableEq
def Ob.ok(x:Ob):Prop:=x.l<x.r/\x.b<x.t
def Ob.area(x:Ob):Int:=(x.r-x.l)*(x.t-x.b)
def Apart(x y:Ob):Prop:=x.r<=y.l\/y.r<=x.l\/x.t<=y.b\/y.t<=x.b
noncomputable def pC(i j:Int):Int:=if j<i then j else i
noncomputable def imax(i j:Int):Int:=if j>i then j else i
def Apart.symm (h:Apart x y):Apart y x:=by grind [Apart]
section
variable{α:Type}[DecidableEq α]
noncomputable abbrev Q4(α):=List<|α×Ob
end
noncomputable def sm:Nat->(Nat->Nat)->Nat
 | 0,_=>0
 | n+1,f=>sm n f+f n
theorem Eb(f g):∀n,sm n (λi=>f i+g i)=sm n f+sm n g
 | 0=>rfl
 | n+1=>by show sm n (λi=>f i+g i)+(f n+g n)=_;rw[Eb f g n];show _=(sm n f+f n)+(sm n g+g n);lia
theorem zE:∀{n},(∀i,i<n->f i<=g i)->sm n f<=sm n g
 | 0,_=>eK _
 | n+1,h=>Nat.add_le_add (zE λi hi=>h i (by lia))<|h n ⋯
theorem yO:∀{n},(∀i,i<n->f i<=g i)->∀k,k<n->f k<g k->sm n f<sm n g
 | 0,_,k,a,_=>by lia
 | n+1,h,k,a,hl=>by
  show sm n f+f n<sm n g+g n;by_cases e:k=n
  ·subst e;have:=zE (n:=k) λi b=>h i (by lia);lia
  have:=yO (n:=n) (λi b=>h i (by lia)) k (by lia) hl;have:=h n ⋯;lia
theorem xU(c):∀n,sm n (λ_=>c)=n*c
 | 0=>by simp[sm]
 | n+1=>by show sm n _+c=_;simp only[xU c n,aaN]
def A1:∀n,sm n (λ_=>0)=0:=λn=>by rw[xU];simp
theorem DQ(a b c)(h:a<=b):∀n,b<=n->sm n (λi=>if a<=i/\i<b then c else 0)=(b-a)*c:=by
 have f:∀n,n<=a->sm n (λi=>if a<=i/\i<b then c else 0)=0:=λn=>by
  induction n with
  | zero=>intro _;rfl
  | succ n d=>intro g;show sm n _+(if a<=n/\n<b then c else 0)=0;rw[d (by omega),if_neg (by omega)]
 have mid:∀n,a<=n->n<=b->sm n (λi=>if a<=i/\i<b then c else 0)=(n-a)*c:=λn=>by
  induction n with
  | zero=>simp[sm]
  | succ n d =>
   intro h1 h2;show sm n _+(if a<=n/\n<b then c else 0)=_;by_cases e:a=n+1
   ·rw[f n (by omega),if_neg (by omega),e];simp
   rw[d (by lia) (by lia),if_pos (by lia),show n+1-a=(n-a)+1 by lia,aaN]
 intro n;induction n with
 | zero=>intro g;simp_all
 | succ n d=>intro g;by_cases e:b=n+1;simp_all;show sm n _+(if a<=n/\n<b then c else 0)=_;rw[d (by lia),if_neg (by lia),Nat.add_zero]
def jg(o:Ob)(x y:Nat):Bool:=am (o.l<=(x:Int))&&am ((x:Int)<o.r)&&am (o.b<=(y:Int))&&am ((y:Int)<o.t)
theorem qA{o:Ob}{x y:Nat}:jg o x y=bd ↔ o.l<=(x:Int)/\(x:Int)<o.r/\o.b<=(y:Int)/\(y:Int)<o.t:=by delta jg;simp;constructor;simp_all;simp_all
def j5(os:List Ob)(x y:Nat):Nat:=os.countP λo=>jg o x y
def gZ(W H:Nat)(f:Nat->Nat->Nat):Nat:=sm W λx=>sm H λy=>f x y
def Tv(W H)(f g):gZ W H (λx y=>f x y+g x y)=gZ W H f+gZ W H g:=by simp[gZ,Eb]
def Lx{W H:Nat}{o:Ob}(h1:0<=o.l)(h2:o.l<o.r)(h3:o.r<=W)(h4:0<=o.b)(h5:o.b<o.t)(h6:o.t<=H):(gZ W H (λx y=>if jg o x y=bd then 1 else 0):Int)=o.area:=by
 have e:∀x:Nat,sm H (λy=>if jg o x y=bd then 1 else 0)=if o.l.toNat<=x/\x<o.r.toNat then o.t.toNat-o.b.toNat else 0:=λx=>by
  by_cases a:o.l.toNat<=x/\x<o.r.toNat
  ·rw[if_pos a];have c:(λy=>if jg o x y=bd then 1 else 0)=λy=>if o.b.toNat<=y/\y<o.t.toNat then 1 else 0:=by simp_all [qA]
   rw[c,DQ _ _ _ (by lia) H (by lia),Nat.mul_one]
  rw[if_neg a];have c:(λy=>if jg o x y=bd then 1 else 0)=λ_=>0:=by funext y;rw[if_neg (λz=>a (by have:=qA.1 z;omega))]
  rw[c,A1]
 dsimp only[gZ];rw[show (λx=>sm H<|λy=>if jg o x y=bd then 1 else 0)=λx=>if o.l.toNat<=x/\x<o.r.toNat then o.t.toNat-o.b.toNat else 0 from funext e,DQ _ _ _ (by lia) W (by lia)];simp;congr 1<;>lia
structure Within (W H:Nat) (o:Ob):Prop where
 l:0<=o.l
 w:o.l<o.r
 r:o.r<=W
 b:0<=o.b
 h:o.b<o.t
 t:o.t<=H
theorem Eu:∀{os:List Ob},(∀o∈os,Within W H o)->(gZ W H (j5 os):Int)=(os.map Ob.area).sum
 | [],_=>by have:j5 []=λ_ _=>0:=ρ;simp_all [gZ,A1]
 | o::os,h=>by
  have e:j5 (o::os)=λx y=>(if jg o x y=bd then 1 else 0)+j5 os x y:=by funext x y;unfold j5;simp[lT];lia
  have a:=h o (by simp);rw[e,Tv,Int.natCast_add,Lx a.l a.w a.r a.b a.h a.t,Eu λp c=>h p (by simp[c])];simp
theorem EK{os:List Ob}(ap:os.Pairwise Apart)(x y:Nat):j5 os x y<=1:=by
 delta j5;induction os with
 | nil=>simp
 | cons o os b =>
  rw[T'] at ap;rw[lT];by_cases h:jg o x y=bd
  ·rw[if_pos h];have:os.countP (λo=>jg o x y)=0:=by rw[KX];intro p c d;have a:=ap.1 p c;have:=qA.1 h;have:=qA.1 d;unfold Apart at a;omega
   lia
  rw[if_neg h];exact b ap.2
def filled{W H:Nat}{os:List Ob}(a:∀o∈os,Within W H o)(ap:os.Pairwise Apart)(ar:(os.map Ob.area).sum=(W:Int)*H){x y:Int}(hx:0<=x)(hx':x<W)(hy:0<=y)(hy':y<H) :
  ∃o∈os,o.l<=x/\x<o.r/\o.b<=y/\y<o.t:=by
 refine sb λno=>?_;have e0:j5 os x.toNat y.toNat=0:=by grind [j5,qA]
 have g:=Eu a;have lt:gZ W H (j5 os)<gZ W H (λ_ _=>1):=by refine yO (λi _=>zE λj _=>EK ap i j) x.toNat (by lia)<|yO (λj _=>EK ap _ j) y.toNat (by lia) ?_;simp_all
 have one:gZ W H (λ_ _=>1)=W*H:=by simp[gZ,xU]
 lia
theorem pR{a:Type}{q:a->Bool}{R:a->a->Prop}(h:∀x y,q x=bd->q y=bd->¬R x y):∀{l:List a},l.Pairwise R->l.countP q<=1
 | [],_=>⋯
 | x::l,p=>by
  rw[T'] at p;rw[lT];by_cases b:q x=bd
  ·rw[if_pos b];have:l.countP q=0:=by rw[KX];exact fun y c d=>h x y b d<|p.1 y c
   lia
  rw[if_neg b];exact pR h p.2
def cT(o:Ob):List (Int×Int):=[(o.l,o.b),(o.l,o.t),(o.r,o.b),(o.r,o.t)]
def dc(os:List Ob):List (Int×Int):=os.flatMap cT
theorem Sa{os:List Ob}(ok:∀o∈os,o.ok)(ap:os.Pairwise Apart)(p:Int×Int):(dc os).count p<=4:=by
 have a:os.Pairwise λx y=>Apart x y/\x.ok/\y.ok:=by refine YQ (λc d h=>⟨h,ok _ c,ok _ d⟩) ap
 have c1:os.countP (λo=>am<|(o.l,o.b)=p)<=1:=pR (R:=λx y=>Apart x y/\x.ok/\y.ok) (by grind [Apart,Ob.ok]) a;have c2:os.countP (λo=>am<|(o.l,o.t)=p)<=1:=pR (R:=λx y=>Apart x y/\x.ok/\y.ok) (by grind [Apart,Ob.ok]) a;have c3:os.countP (λo=>am<|(o.r,o.b)=p)<=1:=pR (R:=λx y=>Apart x y/\x.ok/\y.ok) (by grind [Apart,Ob.ok]) a;have c4:os.countP (λo=>am<|(o.r,o.t)=p)<=1:=pR (R:=λx y=>Apart x y/\x.ok/\y.ok) (by grind [Apart,Ob.ok]) a;have cj:∀l:List Ob,(dc l).count p=l.countP (λo=>am<|(o.l,o.b)=p)+l.countP (λo=>am<|(o.l,o.t)=p)+l.countP (λo=>am<|(o.r,o.b)=p)+l.countP (λo=>am<|(o.r,o.t)=p):=λl=>by
  induction l with
  | nil=>rfl
  | cons o l f =>
   have e:(dc (o::l)).count p=(cT o).count p+(dc l).count p:=by simp[dc]
   simp only[e,f,lT,lT,lT];unfold cT;simp[Zh];lia
 rw[cj];lia
structure Cuts (o:Ob) (os:List Ob):Prop where
 aO:∀x∈os,o.l<=x.l/\x.l<x.r/\x.r<=o.r/\o.b<=x.b/\x.b<x.t/\x.t<=o.t
 ap:os.Pairwise Apart
 ar:(os.map Ob.area).sum=o.area
theorem Cuts.one{o:Ob}(h:o.ok):Cuts o [o]:=⟨by simp_all [Ob.ok],aaz _ _,⋯⟩
def wY{a:Type}{os:List a}{j:Nat}{x:a}(e:os[j]?=ac x):os=os.take j++x::os.drop (j+1):=by obtain⟨h,e⟩:=cm.1 e;simp[<-e]
def Cuts.IY{o x:Ob}{os c:List Ob}{j:Nat}(h:Cuts o os)(e:os[j]?=ac x)(h':Cuts x c):Cuts o (os.take j++c++os.drop (j+1)):=by
 have l:=wY e;generalize os.take j=A at *;generalize os.drop (j+1)=B at *;subst l;obtain⟨f,i,m⟩:=h;obtain⟨g,n,p⟩:=h';rw[YU,T'] at i;obtain⟨q,⟨k,r⟩,d⟩:=i;refine⟨λy b=>?_,?_,?_⟩
 ·rcases eH.1 b with b|b
  ·rcases eH.1 b with b|b
   ·exact f y (by simp[b])
   have:=f x (by simp);have:=g y b;omega
  exact f y (by simp[b])
 ·rw[YU,YU];refine⟨⟨q,n,λy b z hz=>?_⟩,r,λy b z hz=>?_⟩
  ·have a:=d y b x (by simp);have:=g z hz;unfold Apart at *;omega
  rcases eH.1 b with b|b
  ·exact d y b z (by simp[hz])
  have a:=k z hz;have:=g y b;unfold Apart at *;omega
 simp only[ft,ft,ZM,ZM,p,<-m,ft,hS,ZM,aar];lia
def Cuts.up (h:o.ok)(h1:o.b<a)(h2:a<o.t):Cuts o [⟨o.l,o.b,o.r,a⟩,⟨o.l,a,o.r,o.t⟩]:=by
 delta Ob.ok at h;refine⟨λx c=>?_,?_,?_⟩
 ·simp at c;rcases c with rfl|rfl<;>dsimp only<;>lia
 ·simp[Apart]
 simp[Ob.area];grind
def Cuts.on (h:o.ok)(h1:o.l<a)(h2:a<o.r):Cuts o [⟨o.l,o.b,a,o.t⟩,⟨a,o.b,o.r,o.t⟩]:=by
 delta Ob.ok at h;refine⟨λx c=>?_,?_,?_⟩
 ·simp at c;rcases c with rfl|rfl<;>dsimp only<;>lia
 ·simp[Apart]
 simp[Ob.area];grind
theorem Cuts.Ux:Cuts ⟨0,0,300,300⟩ [⟨0,0,200,100⟩,⟨200,0,300,200⟩,⟨100,200,300,300⟩,⟨0,100,100,300⟩,⟨100,100,200,200⟩]:=by refine⟨by decide,?_,by decide⟩;delta Apart;decide
theorem Lq{l a:List Int}(p:l.Perm a):l.sum=a.sum:=by
 induction p with
 | nil=>rfl
 | cons x _ ih=>simp_all
 | swap x y l=>simp only[aar];lia
 | trans _ _ i1 i2=>simp_all
theorem Cuts.perm{o:Ob}{os b:List Ob}(h:Cuts o os)(p:b.Perm os):Cuts o b :=
 ⟨λx c=>h.aO x<|p.mem_iff.1 c,p.symm.pairwise h.ap λ{x y} a=>by grind [Apart],by rw[Lq (p.map Ob.area)];exact h.ar⟩
def ak(o:Ob):Ob:=⟨-o.t,o.l,-o.b,o.r⟩
noncomputable def aa:Nat->Ob->Ob
 | 0,o=>o
 | k+1,o=>ak<|aa k o
structure aC (bx:Ob) (os:List Ob):Prop where
 aO:∀o∈os,bx.l<=o.l/\o.l<o.r/\o.r<=bx.r/\bx.b<=o.b/\o.b<o.t/\o.t<=bx.t
 ap:∀x∈os,∀y∈os,x=y\/Apart x y
 hit:∀p q,bx.l<=p->p<bx.r->bx.b<=q->q<bx.t->∃o∈os,o.l<=p/\p<o.r/\o.b<=q/\q<o.t
 four:∀x∈os,∀n∈os,∀m∈os,∀z∈os,¬(n.r=x.r/\n.b=x.t/\m.l=x.r/\m.t=x.t/\z.l=x.r/\z.b=x.t)
def wN(a:Ob):Ob:=⟨a.l,a.t,a.r,a.t+1⟩
def wE(a:Ob):Ob:=⟨a.r,a.b,a.r+1,a.t⟩
def wS(a:Ob):Ob:=⟨a.l,a.b-1,a.r,a.b⟩
def wW(a:Ob):Ob:=⟨a.l-1,a.b,a.l,a.t⟩
noncomputable def walls(a:Ob):List Ob:=[wN a,wE a,wS a,wW a]
def TZ (h:ak x=ak y):x=y:=by
 cases x;simp_all [ak]
theorem iD:∀(k:Nat) {x y:Ob},aa k x=aa k y->x=y
 | 0,_,_,h=>h
 | k+1,_,_,h=>iD k<|TZ h
def aC.turn{k:Ob}{os:List Ob}(T:aC k os):aC (ak k) (os.map ak) where
 aO:=λo g=>by obtain⟨x,f,rfl⟩:=a8.1 g;have:=T.aO x f;simp_all [ak]
 ap:=λa i b j=>by
  obtain⟨x,f,rfl⟩:=a8.1 i;obtain⟨y,s,rfl⟩:=a8.1 j;rcases T.ap x f y s with e|e
  ·exact ι (by rw[e])
  right;unfold Apart at *;simp only[ak];lia
 hit:=λp q t u l r=>by simp[ak] at t u l r;obtain⟨o,g,k1,k2,k3,k4⟩:=T.hit q (-p-1) l r (by lia) (by lia);refine⟨ak o,a8.2 ⟨o,g,ρ⟩,?_⟩;simp[ak];lia
 four:=λa i b j c v d hd h=>by obtain⟨x,f,rfl⟩:=a8.1 i;obtain⟨n,w,rfl⟩:=a8.1 j;obtain⟨m,A,rfl⟩:=a8.1 v;obtain⟨z,hz,rfl⟩:=a8.1 hd;simp[ak] at h;exact T.four m A x f z hz n w (by lia)
def Up(x y:Ob):Prop:=y.b=x.t/\x.l<y.r/\y.l<x.r
instance {x y:Ob}:Decidable (Up x y):=by unfold Up;infer_instance
section
variable{bx:Ob}{os:List Ob}{x y z n m m':Ob}{α:Type}
def kf(a:m∈walls bx)(i:bx.l<=x.l/\x.l<x.r/\x.r<=bx.r/\bx.b<=x.b/\x.b<x.t/\x.t<=bx.t)(u:Up x m):m=wN bx/\x.t=bx.t:=by
 obtain⟨d,i2,e,i4,i5,i6⟩:=i;obtain⟨c,f,g⟩:=u;simp[walls] at a;rcases a with rfl|rfl|rfl|rfl
 ·exact⟨ρ,c.symm⟩
 ·exact absurd g<|aaT.2 e
 ·exact absurd (show bx.b-1=x.t from c) (by lia)
 exact absurd f<|aaT.2 d
def mE(a:m∈walls bx)(i:bx.l<=x.l/\x.l<x.r/\x.r<=bx.r/\bx.b<=x.b/\x.b<x.t/\x.t<=bx.t)(u:Up (ak x) (ak m)):m=wE bx/\x.r=bx.r:=by
 obtain⟨i1,i2,i3,d,i5,e⟩:=i;obtain⟨c,f,g⟩:=u;simp[walls] at a;rcases a with rfl|rfl|rfl|rfl
 ·exact absurd (aad.1<|f)<|aaT.2 e
 ·exact⟨ρ,c.symm⟩
 ·exact absurd (aad.1<|g)<|aaT.2 d
 exact absurd (show bx.l-1=x.r from c) (by lia)
def aC.cover(T:aC bx os)(c:x∈os)(d:x.t<bx.t)(h1:x.l<=p)(h2:p<x.r):∃y∈os,Up x y/\y.l<=p/\p<y.r:=by
 have ix:=T.aO x c;obtain⟨y,b,e,f,k3,k4⟩:=T.hit p x.t (by omega) (by omega) (by lia) d;refine⟨y,b,?_,e,f⟩;delta Up;rcases T.ap x c y b with rfl|a
 ·lia
 delta Apart at a;lia
def aC.next(T:aC bx os)(d:x∈os)(e:x.t<bx.t)(b:y∈os)(u:Up x y)(h:y.r<x.r):∃z∈os,Up x z/\z.l=y.r:=by
 delta Up at u;obtain⟨z,hz,c,k1,k2⟩:=T.cover d e (by lia) h;refine⟨z,hz,c,?_⟩;have iy:=T.aO y b;have iz:=T.aO z hz;delta Up at c;rcases T.ap y b z hz with rfl|a
 ·lia
 delta Apart at a;omega
def aC.prev(T:aC bx os)(d:x∈os)(e:x.t<bx.t)(b:y∈os)(u:Up x y)(h:x.l<y.l):∃z∈os,Up x z/\z.r=y.l:=by
 unfold Up at u;obtain⟨z,hz,c,k1,k2⟩:=T.cover d e (p:=y.l-1) (by lia) (by lia);refine⟨z,hz,c,?_⟩;have iy:=T.aO y b;have iz:=T.aO z hz;unfold Up at c;rcases T.ap y b z hz with rfl|a
 ·lia
 grind [Apart]
def aC.tee(T:aC bx os)(d:x∈os)(b:n∈os)(c:m∈os)(un:Up x n)(en:x.r<=n.r)(e:Up (ak x) (ak m))(em:x.t<=m.t):(x.r<n.r/\m.t=x.t)\/(n.r=x.r/\x.t<m.t):=by
 have jn:=T.aO n b;have jm:=T.aO m c;delta Up at un e;simp only[ak] at e;have f:Apart n m:=by
  rcases T.ap n b m c with rfl|a
  ·omega
  exact a
 delta Apart at f;by_cases g:n.r=x.r
 ·by_cases h:m.t=x.t
  ·exfalso;obtain⟨z,hz,k1,k2,k3,k4⟩:=T.hit x.r x.t ⋯ (by lia) (by lia) (by lia);have i:Apart n z:=by
    rcases T.ap n b z hz with rfl|a
    ·lia
    exact a
   have j:Apart m z:=by
    rcases T.ap m c z hz with rfl|a
    ·lia
    exact a
   delta Apart at i j;exact T.four x d n b m c z hz ⟨g,un.1,by lia,h,by lia,by lia⟩
  lia
 lia
def nq(x n m:Ob):Prop:=(Up x n/\Up x m/\n.r=m.l)\/(Up x n/\x.r<=n.r/\Up (ak x) (ak m)/\x.t<=m.t)
def cB(x n m:Ob):Prop:=∃k,k<4/\nq (aa k x) (aa k n) (aa k m)
def oP(o):ak (ak<|ak<|ak o)=o:=by simp[ak]
theorem cB.up (h:cB (ak x) (ak n) (ak m)):cB x n m:=by
 obtain⟨k,hk,h⟩:=h;have e:∀(k:Nat) (o:Ob),aa k (ak o)=aa (k+1) o:=λk o=>by
  induction k with
  | zero=>rfl
  | succ k ih=>simp_all [aa]
 simp[e] at h;by_cases a:k=3
 ·subst a;refine⟨0,⋯,?_⟩;simp_all [aa,oP]
 exact⟨k+1,by lia,h⟩
def aC.NF(T:aC bx os)(p:x∈os)(h:nq x n m)(c:n∈os\/n∈walls bx)(hm:m∈os\/m∈walls bx):(n∈os->cB n m x)/\(m∈os->cB m x n):=by
 have i:=T.aO x p;have no:∀{o:Ob},o∈os->o∈walls bx->False:=λ{o} h h'=>by have:=T.aO o h;simp[walls] at h';rcases h' with rfl|rfl|rfl|rfl<;>dsimp only[wN,wE,wS,wW] at this<;>omega
 rcases h with⟨un,d,e⟩|⟨un,q,d,em⟩
 ·have f:n∈os:=c.resolve_right λh=>by obtain⟨rfl,_⟩:=kf h i un;have:=d.2.2;dsimp only[wN] at e;omega
  have g:m∈os:=hm.resolve_right λh=>by obtain⟨rfl,_⟩:=kf h i d;have:=un.2.1;dsimp only[wN] at e;omega
  have r:=T.aO n f;have s:=T.aO m g;obtain⟨u,v,w⟩:=un;obtain⟨j,k,l⟩:=d;refine⟨λ_=>⟨1,⋯,τ ?_⟩,λ_=>⟨2,⋯,τ ?_⟩⟩
  ·dsimp only[aa,ak,Up];lia
  dsimp only[aa,ak,Up];lia
 rcases c with c|c<;>rcases hm with hm|hm
 ·have r:=T.aO n c;have s:=T.aO m hm;have t:=T.tee p c hm un q d em;obtain⟨u,v,w⟩:=un;obtain⟨j,k,l⟩:=d;dsimp only[ak] at j k l;rcases t with⟨a,b⟩|⟨a,b⟩
  ·refine⟨λ_=>⟨2,⋯,ι ?_⟩,λ_=>⟨3,⋯,τ ?_⟩⟩
   ·dsimp only[aa,ak,Up];lia
   dsimp only[aa,ak,Up];lia
  refine⟨λ_=>⟨1,⋯,τ ?_⟩,λ_=>⟨3,⋯,ι ?_⟩⟩
  ·dsimp only[aa,ak,Up];lia
  dsimp only[aa,ak,Up];lia
 ·have r:=T.aO n c;obtain⟨rfl,A⟩:=mE hm i d;obtain⟨u,v,w⟩:=un;refine⟨λ_=>⟨1,⋯,τ ?_⟩,λg=>(no g hm).elim⟩;dsimp only[aa,ak,Up,wE] at em ⊢;grind
 ·have s:=T.aO m hm;obtain⟨rfl,A⟩:=kf c i un;obtain⟨j,k,l⟩:=d;refine⟨λf=>(no f c).elim,λ_=>⟨3,⋯,τ ?_⟩⟩;dsimp only[aa,ak,Up,wN] at q j k l ⊢;grind
 exact⟨λf=>(no f c).elim,λg=>(no g hm).elim⟩
def kL (h1:x.l=y.l)(h2:x.b=y.b)(h3:x.r=y.r)(h4:x.t=y.t):x=y:=by
 cases x;simp_all
def Q3 (h:o∈walls bx):ak o∈walls (ak bx):=by
 have h:o=wN bx\/o=wE bx\/o=wS bx\/o=wW bx:=by simpa[walls] using h
 rcases h with rfl|rfl|rfl|rfl
 ·rw[show ak (wN bx)=wW (ak bx) from kL (by simp only[ak,wN,wW]<;>lia) (by rfl) (by rfl) (by rfl)];simp[walls]
 simp[ak,wE,wN,walls]
 ·rw[show ak (wS bx)=wE (ak bx) from kL (by rfl) (by rfl) (by simp only[ak,wS,wE]<;>lia) (by rfl)];simp[walls]
 simp[ak,wW,wS,walls]
theorem aC.turns (T:aC bx os):∀k,aC (aa k bx) (os.map<|aa k)
 | 0=>by show aC bx (os.map λo=>o);rwa[ZY]
 | k+1=>by have:=(T.turns k).turn;rwa[fm] at this
theorem tY (h:o∈walls bx):∀k,aa k o∈walls (aa k bx)
 | 0=>h
 | k+1=>Q3<|tY h k
theorem cB.ups:∀(k:Nat) {x n m:Ob},cB (aa k x) (aa k n) (aa k m)->cB x n m
 | 0,_,_,_,h=>h
 | k+1,_,_,_,h=>cB.ups k<|cB.up h
def aC.close(T:aC bx os)(d:x∈os)(h:cB x n m)(e:n∈os\/n∈walls bx)(f:m∈os\/m∈walls bx):(n∈os->cB n m x)/\(m∈os->cB m x n):=by obtain⟨k,hk,h⟩:=h;have c:∀{o:Ob},o∈os->aa k o∈os.map (aa k):=λ{o} h=>a8.2 ⟨o,h,ρ⟩;have up:∀{o:Ob},(o∈os\/o∈walls bx)->(aa k o∈os.map (aa k)\/aa k o∈walls (aa k bx)):=λ{o} h=>h.imp c<|λh=>tY h k;obtain⟨a,b⟩:=(T.turns k).NF (c d) h (up e) (up f);exact⟨λz=>cB.ups k<|a<|c z,λz=>cB.ups k<|b<|c z⟩
def Nb(bx:Ob)(os:List Ob)(o:Ob):Prop:=o∈os\/o∈walls bx
theorem Nb.ok(T:aC bx os)(a:bx.ok)(h:Nb bx os n):n.l<n.r/\n.b<n.t:=by
 delta Ob.ok at a;rcases h with h|h
 ·have:=T.aO n h;lia
 have h:n=wN bx\/n=wE bx\/n=wS bx\/n=wW bx:=by simpa[walls] using h
 rcases h with rfl|rfl|rfl|rfl<;>simp only[wN,wE,wS,wW]<;>lia
def Nb.ap(T:aC bx os)(a:bx.ok)(h:Nb bx os n)(h':Nb bx os m):n=m\/Apart n m:=by
 have wl:∀{o:Ob},o∈walls bx->o=wN bx\/o=wE bx\/o=wS bx\/o=wW bx:=λ{o} h=>by simpa[walls] using h
 delta Apart;delta Ob.ok at a;rcases h with h|h<;>rcases h' with h'|h'
 ·exact T.ap n h m h'
 ·have i:=T.aO n h;right;rcases wl h' with rfl|rfl|rfl|rfl<;>simp only[wN,wE,wS,wW]<;>omega
 ·have i:=T.aO m h';right;rcases wl h with rfl|rfl|rfl|rfl<;>simp only[wN,wE,wS,wW]<;>omega
 rcases wl h with rfl|rfl|rfl|rfl<;>rcases wl h' with rfl|rfl|rfl|rfl<;>first|exact ι ρ|(right;simp only[wN,wE,wS,wW];omega)
def KR(hx:x.l<x.r/\x.b<x.t)(om:m.l<m.r/\m.b<m.t)(om':m'.l<m'.r/\m'.b<m'.t)(ap:m=m'\/Apart m m')(h:nq x n m)(h':nq x n m'):m=m':=by
 rcases ap with e|a
 ·exact e
 delta nq Up Apart at *;simp[ak] at *;omega
def Cf (hk:k<4)(hj:j<4)(ox:x.l<x.r/\x.b<x.t)(on:n.l<n.r/\n.b<n.t)(h:Up (aa k x) (aa k n))(h':Up (aa j x) (aa j n)):k=j:=by
 have a:k=0\/k=1\/k=2\/k=3:=by lia
 have c:j=0\/j=1\/j=2\/j=3:=by lia
 delta Up at *;rcases a with rfl|rfl|rfl|rfl<;>rcases c with rfl|rfl|rfl|rfl<;>first|rfl|(exfalso;simp only[aa,ak] at *;lia)
theorem D6(k)(h:n=m\/Apart n m):aa k n=aa k m\/Apart (aa k n) (aa k m):=by
 rcases h with h|h
 ·exact ι (by rw[h])
 right;induction k with
 | zero=>exact h
 | succ k ih=>show Apart (ak<|aa k n) (ak<|aa k m);unfold Apart at *;simp only[ak];lia
theorem mY(k)(h:n.l<n.r/\n.b<n.t):(aa k n).l<(aa k n).r/\(aa k n).b<(aa k n).t:=by
 induction k with
 | zero=>exact h
 | succ k ih=>simp_all [ak,aa]
def nq.up (h:nq x n m):Up x n:=by rcases h with⟨h,_⟩|⟨h,_⟩<;>exact h
def aC.IE(T:aC bx os)(a:bx.ok)(f:x∈os)(g:Nb bx os n)(d:Nb bx os m)(c:Nb bx os m')(h:cB x n m)(h':cB x n m'):m=m':=by obtain⟨k,i,h⟩:=h;obtain⟨j,o,h'⟩:=h';have e:=Nb.ok T a<|ι f;have:=Cf i o e (Nb.ok T a g) h.up h'.up;subst this;exact iD k<|KR (mY k e) (mY k<|Nb.ok T a d) (mY k<|Nb.ok T a c) (D6 k<|Nb.ap T a d c) h h'
def bN(N:List Ob)(x:Ob)(k:Nat):List Ob:=(N.filter λy=>am<|Up (aa k x)<|aa k y).mergeSort λa b=>am<|(aa k a).l<=(aa k b).l
def br(N:List Ob)(x:Ob):List Ob:=bN N x 0++bN N x 1++bN N x 2++bN N x 3
def gC:y∈bN N x k ↔ y∈N/\Up (aa k x) (aa k y):=by simp[bN]
def Mo{N:List Ob}{x:Ob}{k:Nat}{i j:Nat}{a b:Ob}(hij:i<=j)(f:(bN N x k)[i]?=ac a)(g:(bN N x k)[j]?=ac b):(aa k a).l<=(aa k b).l:=by by_cases e:i=j;simp_all;have:=ub (le:=λa b=>am<|(aa k a).l<=(aa k b).l) (by lia) (by lia) (N.filter λy=>am<|Up (aa k x)<|aa k y);obtain⟨h,c⟩:=cm.1 f;obtain⟨o,d⟩:=cm.1 g;have:=pq.1 this i j h o (by lia);rw[decide_eq_true_eq] at this;rwa[<-c,<-d]
def aC.OQ(T:aC bx os)(J:bx.ok)(v:x∈os)(w:∀y,y∈l ↔ Nb bx os y/\Up x y)(nd:l.Nodup)(hs:∀(i j:Nat) a b,i<=j->l[i]?=ac a->l[j]?=ac b->a.l<=b.l) :
  l≠[]/\(∀(i:Nat) a b,l[i]?=ac a->l[i+1]?=ac b->a.r=b.l)/\(∀a,l[0]?=ac a->a.l<=x.l)/\(∀a,l[l.length-1]?=ac a->x.r<=a.r):=by
 have ix:=T.aO x v;have wl:∀{o:Ob},o∈walls bx->o=wN bx\/o=wE bx\/o=wS bx\/o=wW bx:=λ{o} h=>by simpa[walls] using h
 by_cases B:x.t<bx.t
 ·have room:∀y∈l,y∈os/\Up x y:=λy A=>by
   obtain⟨f,d⟩:=(w y).1 A;refine⟨?_,d⟩;rcases f with h|h
   ·exact h
   exfalso;delta Up at d;rcases wl h with rfl|rfl|rfl|rfl<;>simp only[wN,wE,wS,wW] at d<;>omega
  have at_:∀{z:Ob},z∈os->Up x z->∃j,l[j]?=ac z:=λ{z} hz q=>by obtain⟨j,g,e⟩:=kx<|(w z).2 ⟨ι hz,q⟩;exact⟨j,by rw[bt g,e]⟩
  refine⟨?_,?_,?_,?_⟩
  ·obtain⟨y,A,K,_⟩:=T.cover v B (p:=x.l) (by lia) (by omega);exact λz=>by have:=(w y).2 ⟨ι A,K⟩;rw[z] at this;cases this
  ·intro i a b c s;obtain⟨k,u⟩:=room a<|eR c;obtain⟨E,F⟩:=room b<|eR s;have L:=T.aO a k;have jb:=T.aO b E;have G:a≠b:=λe=>by subst e;have f:=(cm.1 c);have d:=(cm.1 s);obtain⟨f,C⟩:=f;obtain⟨d,D⟩:=d;have:=pq.1 nd i (i+1) f d (by lia);simp only[C,D] at this;exact this ρ
   have sab:=hs i (i+1) a b (by lia) c s;have ap:=(T.ap a k b E).resolve_left G;have hle:a.r<=b.l:=by unfold Apart at ap;delta Up at u F;omega
   obtain⟨z,hz,q,H⟩:=T.next v B k u (by unfold Up at F;omega);obtain⟨j,g⟩:=at_ hz q;by_cases I:j<=i
   ·have:=hs j i z a I g c;omega
   have:=hs (i+1) j b z (by lia) s g;lia
  ·intro a c;obtain⟨k,u⟩:=room a<|eR c;refine sb λh=>?_;obtain⟨z,hz,q,H⟩:=T.prev v B k u (by lia);obtain⟨j,g⟩:=at_ hz q;have:=hs 0 j a z (by lia) c g;have jz:=T.aO z hz;omega
  intro a c;obtain⟨k,u⟩:=room a<|eR c;refine sb λh=>?_;obtain⟨z,hz,q,H⟩:=T.next v B k u (by lia);obtain⟨j,g⟩:=at_ hz q;have hjl:=(cm.1 g).1;have:=hs j (l.length-1) z a (by omega) g c;have L:=T.aO a k;omega
 have only:∀y∈l,y=wN bx:=λy A=>by
  obtain⟨f,d⟩:=(w y).1 A;delta Up at d;rcases f with h|h
  ·have:=T.aO y h;omega
  rcases wl h with rfl|rfl|rfl|rfl
  ·rfl
  all_goals exfalso;simp only[wE,wS,wW] at d;lia
 have there:wN bx∈l:=(w _).2 ⟨τ (by simp[walls]),by delta Up wN;dsimp only;omega⟩;refine⟨λz=>(by rw[z] at there;cases there),?_,?_,?_⟩
 ·intro i a b c s;exfalso;have M:=only a<|eR c;have N:=only b<|eR s;obtain⟨f,C⟩:=cm.1 c;obtain⟨d,D⟩:=cm.1 s;have:=pq.1 nd i (i+1) f d (by lia);simp only[C,D,M,N] at this;exact this ρ
 ·intro a c;rw[only a (eR c)];simp only[wN];omega
 intro a c;rw[only a (eR c)];simp only[wN];omega
theorem qu(k):Nb (aa k bx) (os.map<|aa k) (aa k y) ↔ Nb bx os y:=by
 have wl:∀k y,aa k y∈walls (aa k bx)->y∈walls bx:=λk=>by
  induction k with
  | zero=>exact λy h=>h
  | succ k j =>
   refine λy h=>j y ?_;have h:ak (aa k y)∈walls (ak<|aa k bx):=h;generalize aa k y=a at h;generalize aa k bx=c at h;have h:ak a=wN (ak c)\/ak a=wE (ak c)\/ak a=wS (ak c)\/ak a=wW (ak c):=by simpa[walls] using h
   have:a=wE c\/a=wS c\/a=wW c\/a=wN c:=by
    rcases h with h|h|h|h
    ·left;have d:=congrArg Ob.l h;have f:=congrArg Ob.b h;have g:=congrArg Ob.r h;have i:=congrArg Ob.t h;simp only[ak,wN] at d f g i;exact kL (by simp only[wE];omega) (by simp_all [wE]) (by simp only[wE];omega) (by simp_all [wE])
    ·right;left;have d:=congrArg Ob.l h;have f:=congrArg Ob.b h;have g:=congrArg Ob.r h;have i:=congrArg Ob.t h;simp only[ak,wE] at d f g i;exact kL (by simp only[wS];omega) (by simp only[wS];lia) (by simp only[wS];omega) (by simp_all [wS])
    ·right;right;left;have d:=congrArg Ob.l h;have f:=congrArg Ob.b h;have g:=congrArg Ob.r h;have i:=congrArg Ob.t h;simp only[ak,wS] at d f g i;exact kL (by simp only[wW];omega) (by simp_all [wW]) (by simp only[wW];omega) (by simp_all [wW])
    right;right;right;have d:=congrArg Ob.l h;have f:=congrArg Ob.b h;have g:=congrArg Ob.r h;have i:=congrArg Ob.t h;simp only[ak,wW] at d f g i;exact kL (by simp only[wN];omega) (by simp_all [wN]) (by simp only[wN];omega) (by grind [wN])
   grind [walls]
 constructor
 ·rintro (h|h)
  ·obtain⟨z,hz,e⟩:=a8.1 h;rw[<-iD k e];exact ι hz
  exact τ<|wl k y h
 rintro (h|h)
 ·exact ι<|a8.2 ⟨y,h,ρ⟩
 exact τ<|tY h k
def lu(k:Nat)(h:bx.ok):(aa k bx).ok:=mY k h
def xc(k)(hk:k<4)(o):∃y,aa k y=o:=by
 have a:=oP;have b:k=0\/k=1\/k=2\/k=3:=by lia
 rcases b with rfl|rfl|rfl|rfl
 ·exact⟨o,ρ⟩
 ·exact⟨ak<|ak<|ak o,a o⟩
 ·exact⟨ak<|ak o,a o⟩
 exact⟨ak o,a o⟩
def aC.chain(T:aC bx os)(s:bx.ok)(t:x∈os)(nd:(os++walls bx).Nodup)(u:k<4):bN (os++walls bx) x k≠[]/\(∀(i:Nat) a b,(bN (os++walls bx) x k)[i]?=ac a->(bN (os++walls bx) x k)[i+1]?=ac b->(aa k a).r=(aa k b).l) /\
  (∀a,(bN (os++walls bx) x k)[0]?=ac a->(aa k a).l<=(aa k x).l)/\(∀a,(bN (os++walls bx) x k)[(bN (os++walls bx) x k).length-1]?=ac a->(aa k x).r<=(aa k a).r):=by
 have v:(bN (os++walls bx) x k).Nodup:=(gk _ _).nodup_iff.2 (l4 pB nd);have key:=(T.turns k).OQ (lu k s) (a8.2 ⟨x,t,ρ⟩) (λy=>by
  obtain⟨z,rfl⟩:=xc k u y;rw[qu,a8];constructor
  ·rintro⟨w,hw,e⟩;rw[iD k e] at hw;obtain⟨f,g⟩:=gC.1 hw;exact⟨eH.1 f,g⟩
  ·rintro⟨f,g⟩;exact⟨z,gC.2 ⟨eH.2 f,g⟩,ρ⟩) (gd.2 (v.imp λh e=>h<|iD k e)) (λi j a b o c d=>by
  rw[c6] at c d;obtain⟨a',p,rfl⟩:=gf.1 c;obtain⟨b',q,rfl⟩:=gf.1 d;exact Mo o p q)
 obtain⟨A,B,C,D⟩:=key;refine⟨λz=>A (by rw[z];rfl),λi a b c d=>B i _ _ (by rw[c6,c];rfl) (by rw[c6,d];rfl),λa c=>C _ (by rw[c6,c];rfl),λa c=>D _ (by simp_all)⟩
def qS (R:α->α->Prop)(l:List α):Prop:=∀(i:Nat) a b,l[i]?=ac a->l[i+1]?=ac b->R a b
def zN (hA:qS R A)(f:qS R B)(h:∀a b,A[A.length-1]?=ac a->B[0]?=ac b->R a b):qS R (A++B):=by
 intro i a b c d;by_cases g:i+1<A.length
 ·rw[k5 (by lia)] at c;rw[k5 g] at d;exact hA i a b c d
 by_cases j:i<A.length
 ·have e:i=A.length-1:=⋯;rw[k5 j,e] at c;rw[ka (by omega),show i+1-A.length=0 from by omega] at d;exact h a b c d
 rw[ka (by omega)] at c d;exact f (i-A.length) a b c (by grind)
def wV (a:B≠[]):(A++B)[(A++B).length-1]?=B[B.length-1]?:=by
 have:=oy.2 a;rw[ka (by rw[eu];omega),eu]
 congr 1
 lia
def ID (hA:A≠[]):(A++B)[0]?=A[0]?:=by rw[k5 (oy.2 hA)]
def aC.tR(T:aC bx os)(f:bx.ok)(g:x∈os)(nd:(os++walls bx).Nodup)(c:k<4):qS (cB x) (bN (os++walls bx) x k):=by intro i a b d e;refine⟨k,c,ι ⟨(gC.1<|eR d).2,(gC.1<|eR e).2,(T.chain f g nd c).2.1 i a b d e⟩⟩
def aC.tP(T:aC bx os)(d:bx.ok)(e:x∈os)(nd:(os++walls bx).Nodup)(f:k<4)(i:j<4)(c:∀o,aa j o=ak (aa k o))(g:(bN (os++walls bx) x k)[(bN (os++walls bx) x k).length-1]?=ac a)(h:(bN (os++walls bx) x j)[0]?=ac b):cB x a b:=by
 refine⟨k,f,τ ⟨(gC.1<|eR g).2,(T.chain d e nd f).2.2.2 a g,?_,?_⟩⟩
 ·simp[<-c];exact (gC.1<|eR h).2
 have:=(T.chain d e nd i).2.2.1 b h;simp_all [ak]
def aC.xt(T:aC bx os)(c:bx.ok)(d:x∈os)(nd:(os++walls bx).Nodup)(f:(br (os++walls bx) x)[i]?=ac a)(g:(br (os++walls bx) x)[(i+1)%(br (os++walls bx) x).length]?=ac b):cB x a b:=by
 have t:=(T.chain c d nd (k:=0) ⋯).1;have u:=(T.chain c d nd (k:=1) ⋯).1;have v:=(T.chain c d nd (k:=2) ⋯).1;have w:=(T.chain c d nd (k:=3) ⋯).1;have l:∀a b,(bN (os++walls bx) x 0)[(bN (os++walls bx) x 0).length-1]?=ac a->(bN (os++walls bx) x 1)[0]?=ac b->cB x a b:=λa b=>T.tP c d nd ⋯ ⋯ λo=>rfl;have p:∀a b,(bN (os++walls bx) x 1)[(bN (os++walls bx) x 1).length-1]?=ac a->(bN (os++walls bx) x 2)[0]?=ac b->cB x a b:=λa b=>T.tP c d nd ⋯ ⋯ λo=>rfl;have q:∀a b,(bN (os++walls bx) x 2)[(bN (os++walls bx) x 2).length-1]?=ac a->(bN (os++walls bx) x 3)[0]?=ac b->cB x a b:=λa b=>T.tP c d nd ⋯ ⋯ λo=>rfl;have r:∀a b,(bN (os++walls bx) x 3)[(bN (os++walls bx) x 3).length-1]?=ac a->(bN (os++walls bx) x 0)[0]?=ac b->cB x a b:=λa b=>T.tP c d nd (k:=3) (j:=0) ⋯ ⋯ λo=>(oP o).symm;have s:qS (cB x) (br (os++walls bx) x):=by
  refine zN (zN (zN (T.tR c d nd ⋯) (T.tR c d nd ⋯) l) (T.tR c d nd ⋯) λa b f g=>?_) (T.tR c d nd ⋯) λa b f g=>?_
  ·rw[wV u] at f;exact p a b f g
  rw[wV v] at f;exact q a b f g
 have hi:=(cm.1 f).1;by_cases h:i+1<(br (os++walls bx) x).length
 ·rw[Yt h] at g;exact s i a b f g
 have e:i+1=(br (os++walls bx) x).length:=by lia
 rw[e,aaO] at g;have B:i=(br (os++walls bx) x).length-1:=by lia
 rw[B] at f;apply r a b
 ·rw[<-(wV (A:=bN (os++walls bx) x 0++bN (os++walls bx) x 1++bN (os++walls bx) x 2) w)];exact f
 have C:(br (os++walls bx) x)[0]?=(bN (os++walls bx) x 0)[0]?:=by delta br;rw[qt,qt,ID t]
 rwa[<-C]
def iI:y∈br N x ↔ y∈N/\∃k,k<4/\Up (aa k x) (aa k y):=by
 delta br;simp only[eH,gC,gC,gC,gC];constructor
 ·rintro (((h|h)|h)|h)
  ·exact⟨h.1,0,⋯,h.2⟩
  ·exact⟨h.1,1,⋯,h.2⟩
  ·exact⟨h.1,2,⋯,h.2⟩
  exact⟨h.1,3,⋯,h.2⟩
 rintro⟨h,k,hk,u⟩;have a:k=0\/k=1\/k=2\/k=3:=by lia
 rcases a with rfl|rfl|rfl|rfl
 ·exact ι<|ι<|ι ⟨h,u⟩
 ·exact ι<|ι<|τ ⟨h,u⟩
 ·exact ι<|τ ⟨h,u⟩
 exact τ ⟨h,u⟩
def aC.pS(T:aC bx os)(g:bx.ok)(i:x∈os)(nd:(os++walls bx).Nodup):(br (os++walls bx) x).Nodup:=by
 have f:∀k,(bN (os++walls bx) x k).Nodup:=λk=>(gk _ _).nodup_iff.2 (l4 pB nd);have o:=Nb.ok T g<|ι i;have gr:∀{j k:Nat},j<4->k<4->j≠k->∀a∈bN (os++walls bx) x j,∀b∈bN (os++walls bx) x k,a≠b:=λ{j k} p q h a c b d e=>by subst e;obtain⟨s,u⟩:=gC.1 c;obtain⟨h2,v⟩:=gC.1 d;exact h<|Cf p q o (Nb.ok T g<|eH.1 s) u v
 delta br;rw[iR,iR,iR];refine⟨⟨⟨f 0,f 1,gr ⋯ ⋯ ⋯⟩,f 2,λa c b d=>?_⟩,f 3,λa c b d=>?_⟩
 ·rcases eH.1 c with c|c
  ·exact gr ⋯ ⋯ ⋯ a c b d
  exact gr ⋯ ⋯ ⋯ a c b d
 rcases eH.1 c with c|c
 ·rcases eH.1 c with c|c
  ·exact gr ⋯ ⋯ ⋯ a c b d
  exact gr ⋯ ⋯ ⋯ a c b d
 exact gr ⋯ ⋯ ⋯ a c b d
def bL (l:List α)(n m:α):Prop:=∃i,l[i]?=ac n/\l[(i+1)%l.length]?=ac m
def aC.eE(T:aC bx os)(b:bx.ok)(c:x∈os)(nd:(os++walls bx).Nodup)(d:Nb bx os n)(l:Nb bx os m):bL (br (os++walls bx) x) n m ↔ cB x n m:=by
 constructor
 ·rintro⟨i,o,p⟩;exact T.xt b c nd o p
 intro h;have q:n∈br (os++walls bx) x:=by obtain⟨k,r,f⟩:=h;exact iI.2 ⟨eH.2 d,k,r,f.up⟩
 obtain⟨i,s,e⟩:=kx q;have e:(br (os++walls bx) x)[i]?=ac n:=by rw[bt s,e]
 have g:(i+1)%(br (os++walls bx) x).length<(br (os++walls bx) x).length:=YE _ (by lia);have a:=bt g;generalize (br (os++walls bx) x)[(i+1)%(br (os++walls bx) x).length]=m' at a;have j:=eH.1 (iI.1<|eR a).1;have:=T.IE b c d l j h<|T.xt b c nd e a;subst this;exact⟨i,e,a⟩
def aC.D'(T:aC bx os)(d:bx.ok)(c:x∈os)(nd:(os++walls bx).Nodup)(h:bL (br (os++walls bx) x) n m):(n∈os->bL (br (os++walls bx) n) m x)/\(m∈os->bL (br (os++walls bx) m) x n):=by
 have e:Nb bx os n:=by obtain⟨i,f,_⟩:=h;exact eH.1 (iI.1<|eR f).1
 have g:Nb bx os m:=by obtain⟨i,_,f⟩:=h;exact eH.1 (iI.1<|eR f).1
 obtain⟨a,b⟩:=T.close c ((T.eE d c nd e g).1 h) e g;exact⟨λz=>(T.eE d z nd g<|ι c).2 (a z),λz=>(T.eE d z nd (ι c) e).2 (b z)⟩
noncomputable def aF (f:α->Nat):List α->Nat
 | []=>0
 | a::l=>f a+aF f l
theorem sN (f):∀l b:List α,aF f (l++b)=aF f l+aF f b
 | [],b=>by simp[aF]
 | a::l,b=>by show f a+aF f (l++b)=f a+aF f l+aF f b;rw[sN f l b];lia
theorem dq:∀{l:List α},(∀a∈l,f a=g a)->aF f l=aF g l
 | [],_=>rfl
 | a::l,h=>by show f a+aF f l=g a+aF g l;rw[h a ⋯,dq λb c=>h b (by simp[c])]
theorem jH (f g):∀l:List α,aF (λa=>f a+g a) l=aF f l+aF g l
 | []=>rfl
 | a::l=>by show f a+g a+aF (λa=>f a+g a) l=f a+aF f l+(g a+aF g l);rw[jH f g l];lia
theorem sv (c):∀l:List α,aF (λ_=>c) l=c*l.length
 | []=>rfl
 | a::l=>by show c+aF (λ_=>c) l=c*(l.length+1);simp only[sv c l,Nat.mul_add];lia
theorem yx (p):∀l:List α,aF (λa=>if p a=bd then 1 else 0) l=l.countP p
 | []=>rfl
 | a::l=>by show (if p a=bd then 1 else 0)+aF (λa=>if p a=bd then 1 else 0) l=_;simp only[yx p l,lT];lia
theorem vx (p:α->d->Bool)(l:List α)(c:List d):aF (λa=>c.countP<|p a) l=aF (λb=>l.countP λa=>p a b) c:=by
 induction l with
 | nil=>show 0=_;simp[show aF (λb=>ac3 (λa=>p a b) []) c=aF (λ_=>0) c from ρ,sv,Nat.zero_mul]
 | cons a l e=>show c.countP (p a)+aF (λa=>c.countP<|p a) l=_;rw[e,<-yx,<-jH];refine dq λb _=>?_;simp[lT];lia
theorem il (p q:α->Bool)(l:List α):l.countP p=(l.countP λa=>p a&&q a)+l.countP λa=>p a&&!q a:=by
 induction l with
 | nil=>rfl
 | cons a l b=>simp only[lT,b];cases p a<;>cases q a<;>simp<;>lia
theorem oD{α:Type}{p:α->Bool}{l:List α}(nd:l.Nodup)(ex:∃a∈l,p a=bd)(un:∀a∈l,∀b∈l,p a=bd->p b=bd->a=b):l.countP p=1:=by
 induction l with
 | nil=>simp_all
 | cons c l i =>
  rw[qh] at nd;rw[lT];by_cases e:p c=bd
  ·rw[if_pos e];have:l.countP p=0:=by rw[KX];intro b f h;have:=un c ⋯ b (by simp[f]) e h;subst this;exact nd.1 f
   lia
  rw[if_neg e];obtain⟨a,d,g⟩:=ex;rcases eW.1 d with rfl|d
  ·cases e g
  rw[i nd.2 ⟨a,d,g⟩ λa d b f=>un a (by simp[d]) b (by simp[f])]
def aC.zS(T:aC bx os)(d:bx.ok)(hz:Nb bx os z)(f:x∈os)(u:Up z x)(h1:z.l<=p)(h2:p<z.r):∃y∈os,Up z y/\y.l<=p/\p<y.r:=by
 have ix:=T.aO x f;have oz:=Nb.ok T d hz;have wl:∀{o:Ob},o∈walls bx->o=wN bx\/o=wE bx\/o=wS bx\/o=wW bx:=λ{o} h=>by simpa[walls] using h
 have hb:bx.l<=z.l/\z.r<=bx.r/\bx.b<=z.t/\z.t<bx.t:=by
  delta Up at u;rcases hz with h|h
  ·have:=T.aO z h;omega
  rcases wl h with rfl|rfl|rfl|rfl<;>simp only[wN,wE,wS,wW] at u ⊢<;>omega
 obtain⟨y,c,g,i,k3,k4⟩:=T.hit p z.t (by omega) (by omega) (by omega) (by omega);refine⟨y,c,?_,g,i⟩;delta Up;rcases Nb.ap T d hz (ι c) with e|a
 ·subst e;lia
 delta Apart at a;lia
def aC.firsts(T:aC bx os)(e:bx.ok)(nd:os.Nodup)(hz:Nb bx os z):(os.countP λx=>am (Up z x)&&am (z.l<x.l))=os.countP λx=>am (Up z x)&&am (x.r<z.r):=by
 by_cases h:∃x∈os,Up z x
 ·obtain⟨x,k,u⟩:=h;have s:=Nb.ok T e hz;have c1:=il (λx=>am<|Up z x) (λx=>am<|z.l<x.l) os;have c2:=il (λx=>am<|Up z x) (λx=>am<|x.r<z.r) os;have f1:(os.countP λa=>am (Up z a)&&!am (z.l<a.l))=1:=by
   apply oD nd
   ·obtain⟨y,f,g,t,v⟩:=T.zS e hz k u ⋯ s.1;exact⟨y,f,by simp[g];omega⟩
   intro a c b d i j;simp at i j;have w:=T.aO a c;have A:=T.aO b d;refine (T.ap a c b d).resolve_right λq=>?_;grind [Apart,Up]
  have f2:(os.countP λa=>am (Up z a)&&!am (a.r<z.r))=1:=by
   apply oD nd
   ·obtain⟨y,f,g,t,v⟩:=T.zS e hz k u (p:=z.r-1) (by lia) (by lia);exact⟨y,f,by simp[g];lia⟩
   intro a c b d i j;simp at i j;have w:=T.aO a c;have A:=T.aO b d;refine (T.ap a c b d).resolve_right λq=>?_;grind [Apart,Up]
  simp_all
 have o:∀q:Ob->Bool,(os.countP λx=>am (Up z x)&&q x)=0:=by simp_all
 simp[o]
def aC.K3(T:aC bx os)(f:bx.ok)(A:x∈os){N:List Ob}(c:∀y,y∈N ↔ Nb bx os y)(nd:N.Nodup) :
  (N.countP λz=>am (Up x z)&&am (x.r<z.r))+(N.countP λz=>am (Up (ak x)<|ak z)&&am ((ak z).l<(ak x).l))+(if x.t=bx.t/\x.r=bx.r then 1 else 0)=1:=by
 have i:=T.aO x A;have wl:∀{o:Ob},o∈walls bx->o=wN bx\/o=wE bx\/o=wS bx\/o=wW bx:=λ{o} h=>by simpa[walls] using h
 have O:wN bx∈N:=(c _).2 (τ (by simp[walls]));have P:wE bx∈N:=(c _).2 (τ (by simp[walls]));have R:∀a∈N,∀b∈N,(am (Up x a)&&am (x.r<a.r))=bd->(am (Up x b)&&am (x.r<b.r))=bd->a=b:=λa e b k d j=>by simp at d j;have F:=Nb.ok T f<|(c a).1 e;have G:=Nb.ok T f<|(c b).1 k;refine (Nb.ap T f ((c a).1 e)<|(c b).1 k).resolve_right λq=>?_;unfold Apart at q;delta Up at d j;omega
 have S:∀a∈N,∀b∈N,(am (Up (ak x)<|ak a)&&am ((ak a).l<(ak x).l))=bd->(am (Up (ak x)<|ak b)&&am ((ak b).l<(ak x).l))=bd->a=b:=λa e b k d j=>by simp at d j;have F:=Nb.ok T f<|(c a).1 e;have G:=Nb.ok T f<|(c b).1 k;refine (Nb.ap T f ((c a).1 e)<|(c b).1 k).resolve_right λq=>?_;unfold Apart at q;delta Up at d j;simp only[ak] at d j;omega
 obtain⟨n,B,un,Z⟩:∃n∈N,Up x n/\x.r<=n.r:=by
  by_cases U:x.t<bx.t
  ·obtain⟨y,H,I,V,k2⟩:=T.cover A U (p:=x.r-1) ⋯ (by lia);exact⟨y,(c y).2 (ι H),I,by lia⟩
  exact⟨wN bx,O,by delta Up wN;dsimp only;omega,by simp only[wN];omega⟩
 obtain⟨m,C,g,em⟩:∃m∈N,Up (ak x) (ak m)/\x.t<=m.t:=by
  by_cases U:x.r<bx.r
  ·obtain⟨y',W,I,V,k2⟩:=T.turn.cover (a8.2 ⟨x,A,ρ⟩) (by simp only[ak];omega) (p:=(ak x).l) ⋯ (by simp only[ak];omega);obtain⟨y,H,rfl⟩:=a8.1 W;exact⟨y,(c y).2 (ι H),I,by simp only[ak] at V;lia⟩
  exact⟨wE bx,P,by unfold Up;simp only[ak,wE];omega,by simp only[wE];omega⟩
 have X:∀{q:Ob->Bool},(∃a∈N,q a=bd)->(∀a∈N,∀b∈N,q a=bd->q b=bd->a=b)->N.countP q=1:=λex un=>oD nd ex un;have c0:∀{q:Ob->Bool},(∀a∈N,q a≠true)->N.countP q=0:=λh=>KX.2 h;have D:∀a∈N,(am (Up x a)&&am (x.r<a.r))=bd->a=n:=λa e d=>by simp at d;have F:=Nb.ok T f<|(c a).1 e;have G:=Nb.ok T f<|(c n).1 B;refine (Nb.ap T f ((c a).1 e)<|(c n).1 B).resolve_right λq=>?_;unfold Apart at q;delta Up at d un;omega
 have E:∀a∈N,(am (Up (ak x)<|ak a)&&am ((ak a).l<(ak x).l))=bd->a=m:=λa e d=>by simp at d;have F:=Nb.ok T f<|(c a).1 e;have G:=Nb.ok T f<|(c m).1 C;refine (Nb.ap T f ((c a).1 e)<|(c m).1 C).resolve_right λq=>?_;unfold Apart at q;delta Up at d g;simp only[ak] at d g;omega
 have s:x.r<n.r->(N.countP λz=>am (Up x z)&&am (x.r<z.r))=1:=λh=>X ⟨n,B,by simp[un,h]⟩ R;have u:¬x.r<n.r->(N.countP λz=>am (Up x z)&&am (x.r<z.r))=0:=λh=>c0 λa e d=>by have:=D a e d;subst this;simp only[fv,decide_eq_true_eq] at d;exact h d.2
 have v:x.t<m.t->(N.countP λz=>am (Up (ak x)<|ak z)&&am ((ak z).l<(ak x).l))=1:=λh=>X ⟨m,C,by simp only[fv,decide_eq_true_eq];exact⟨g,by simp only[ak];omega⟩⟩ S;have w:¬x.t<m.t->(N.countP λz=>am (Up (ak x)<|ak z)&&am ((ak z).l<(ak x).l))=0:=λh=>c0 λa e d=>by have:=E a e d;subst this;simp only[fv,decide_eq_true_eq] at d;have:=d.2;simp only[ak] at this;lia
 rcases (c n).1 B with J|wn<;>rcases (c m).1 C with K|Y
 ·have jn:=T.aO n J;have jm:=T.aO m K;rw[if_neg (by unfold Up at un;omega)];rcases T.tee A J K un Z g em with⟨a,b⟩|⟨a,b⟩
  ·rw[s a,w (by lia)]
  rw[u (by lia),v b]
 ·have jn:=T.aO n J;obtain⟨rfl,L⟩:=mE Y i g;have M:=un.1;rw[u (by omega),v (by have:=g.2.1;dsimp only[ak,wE] at this ⊢;omega),if_neg (by omega)]
 ·have jm:=T.aO m K;obtain⟨rfl,L⟩:=kf wn i un;have M:m.l=x.r:=g.1;rw[s (by have:=un.2.2;dsimp only[wN] at this ⊢;omega),w (by omega),if_neg (by omega)]
 obtain⟨rfl,M⟩:=kf wn i un;obtain⟨rfl,L⟩:=mE Y i g;rw[u (by dsimp only[wN];omega),w (by dsimp only[wE];omega),if_pos ⟨M,L⟩]
def nf(k:Nat)(z x:Ob):Bool:=am (Up (aa k z)<|aa k x)&&am ((aa k z).l<(aa k x).l)
def nl(k:Nat)(z x:Ob):Bool:=am (Up (aa k z)<|aa k x)&&am ((aa k x).r<(aa k z).r)
def on(k:Nat)(z x:Ob):Bool:=am<|Up (aa k z)<|aa k x
def we(z x):Up z x ↔ Up (ak<|ak x) (ak<|ak z):=by delta Up;simp[ak];lia
noncomputable def ex(k:Nat)(x z:Ob):Bool:=am (Up (aa k x)<|aa k z)&&am ((aa k x).r<(aa k z).r)
def st(k:Nat)(x z:Ob):Bool:=am (Up (aa k x)<|aa k z)&&am ((aa k z).l<(aa k x).l)
def Oe(z x):nf 0 z x=ex 2 x z:=by
 delta nf ex;simp[show am (Up (aa 0 z)<|aa 0 x)=am (Up (aa 2 x)<|aa 2 z) from decide_eq_decide.2<|we z x]
 congr 1;apply decide_eq_decide.2;simp[aa,ak]
def M'(z x):nl 0 z x=st 2 x z:=by
 delta nl st;simp[show am (Up (aa 0 z)<|aa 0 x)=am (Up (aa 2 x)<|aa 2 z) from decide_eq_decide.2<|we z x]
 congr 1;apply decide_eq_decide.2;simp[aa,ak]
def yu(k)(o):aa (k+4) o=aa k o:=oP<|aa k o
theorem ng(j):∀(k:Nat) (o:Ob),aa (j+k) o=aa k (aa j o)
 | 0,_=>rfl
 | k+1,o=>by show ak (aa (j+k) o)=ak (aa k<|aa j o);rw[ng j k o]
def LL(k)(z x):nf k z x=ex (k+2) x z:=by have:=Oe (aa k z)<|aa k x;assumption
def N5(k)(z x):nl k z x=st (k+2) x z:=by have:=M' (aa k z)<|aa k x;assumption
def qJ(k)(x z):st (k+4) x z=st k x z:=by simp[st,yu]
def vw(k:Nat){l:List Ob}(h:l.Nodup):(l.map<|aa k).Nodup:=gd.2 (h.imp λa e=>a<|iD k e)
def aC.Pa(T:aC bx os)(a:bx.ok)(nd:os.Nodup)(hz:Nb bx os z)(k:Nat):os.countP (nf k z)=os.countP (nl k z):=by have:=(T.turns k).firsts (lu k a) (vw k nd) ((qu k).2 hz);simp at this;exact this
def aC.corner(T:aC bx os)(a:bx.ok)(b:x∈os)(nd:(os++walls bx).Nodup)(c:k<4) :
  (os++walls bx).countP (λz=>am (Up (aa k x)<|aa k z)&&am ((aa k x).r<(aa k z).r))+(os++walls bx).countP (λz=>am (Up (aa (k+1) x)<|aa (k+1) z)&&am ((aa (k+1) z).l<(aa (k+1) x).l))+(if (aa k x).t=(aa k bx).t/\(aa k x).r=(aa k bx).r then 1 else 0)=1:=by
 have:=(T.turns k).K3 (lu k a) (a8.2 ⟨x,b,ρ⟩) (λy=>by
  obtain⟨z,rfl⟩:=xc k c y;rw[qu,a8];constructor
  ·rintro⟨w,hw,e⟩;simp only[iD k e] at hw;exact eH.1 hw
  exact λh=>⟨z,eH.2 h,ρ⟩) (vw k nd)
 simp only[ql] at this;exact this
def aC.outer(T:aC bx os)(i:bx.ok)(nd:os.Nodup)(k:Nat):aF (λx=>if (aa k x).t=(aa k bx).t/\(aa k x).r=(aa k bx).r then 1 else 0) os=1:=by
 have c:=T.turns k;have f:=lu k i;have e:aF (λx=>if (aa k x).t=(aa k bx).t/\(aa k x).r=(aa k bx).r then 1 else 0) os=os.countP λx=>am ((aa k x).t=(aa k bx).t/\(aa k x).r=(aa k bx).r):=by grind [yx]
 rw[e];unfold Ob.ok at f;apply oD nd
 ·obtain⟨o,g,k1,k2,k3,k4⟩:=c.hit ((aa k bx).r-1) ((aa k bx).t-1) (by lia) (by lia) (by lia) (by lia);obtain⟨a,d,rfl⟩:=a8.1 g;have:=c.aO _ g;exact⟨a,d,by rw[decide_eq_true_eq];lia⟩
 intro a d b h j l;have ja:=c.aO _<|a8.2 ⟨a,d,ρ⟩;have jb:=c.aO _<|a8.2 ⟨b,h,ρ⟩;refine iD k ((c.ap _ (a8.2 ⟨a,d,ρ⟩) _<|a8.2 ⟨b,h,ρ⟩).resolve_right λq=>?_);grind [Apart]
noncomputable def bY(f:Nat->Nat):Nat:=f 0+f 1+f 2+f 3
def yZ (f:Nat->α->Nat)(l:List α):aF (λa=>bY λk=>f k a) l=bY λk=>aF (f k) l:=by simp[bY,jH]
def aC.pairs(T:aC bx os)(h:bx.ok)(nd:(os++walls bx).Nodup):2*aF (λz=>bY λk=>os.countP<|nf k z) (os++walls bx)+4=4*os.length:=by
 have e:=(iR.1 nd).1;have b:∀k,aF (λz=>os.countP<|nf k z) (os++walls bx)=aF (λx=>(os++walls bx).countP (ex (k+2) x)) os:=by simp[vx,LL]
 have d:∀k,aF (λz=>os.countP<|nf k z) (os++walls bx)=aF (λx=>(os++walls bx).countP (st (k+2) x)) os:=λk=>by rw[dq (g:=λz=>os.countP<|nl k z) λz hz=>T.Pa h e (eH.1 hz) k,vx];simp[N5]
 have j:∀k x,(os++walls bx).countP (ex (k+4) x)=(os++walls bx).countP (ex k x):=λk x=>by congr 1;funext z;exact (λk x z=>by simp[ex,yu]) k x z
 have i:∀k x,(os++walls bx).countP (st (k+4) x)=(os++walls bx).countP (st k x):=λk x=>by congr 1;funext z;exact qJ k x z
 have c:∀k,k<4->aF (λx=>(os++walls bx).countP (ex k x)) os+aF (λx=>(os++walls bx).countP (st (k+1) x)) os+1=os.length:=λk o=>by have a:=dq (l:=os) (f:=λx=>(os++walls bx).countP (ex k x)+(os++walls bx).countP (st (k+1) x)+(if (aa k x).t=(aa k bx).t/\(aa k x).r=(aa k bx).r then 1 else 0)) (g:=λ_=>1) λx p=>T.corner h p nd o;simpa only[jH,jH,sv,T.outer h e k,Nat.one_mul] using a
 have c1:=c 1 (by decide);have q:=c 3 (by decide);have a1:=b 1;have s:=b 2;have u:=b 3;have b0:=d 0;have v:=d 2;have w:=d 3;rw[dq λx _=>j 0 x] at s;rw[dq (g:=λx=>(os++walls bx).countP (ex 1 x)) λx _=>j 1 x] at u;rw[dq (g:=λx=>(os++walls bx).countP (st 0 x)) λx _=>i 0 x] at v;rw[dq (g:=λx=>(os++walls bx).countP (st 0 x)) λx _=>i 0 x] at q;rw[yZ];grind [bY]
def aC.LB(T:aC bx os)(c:bx.ok)(nd:os.Nodup)(hz:Nb bx os z)(h:∃x∈os,Up z x):(os.countP λx=>am<|Up z x)=(os.countP λx=>am (Up z x)&&am (z.l<x.l))+1:=by
 obtain⟨x,i,u⟩:=h;have j:=Nb.ok T c hz;rw[il (λx=>am<|Up z x) (λx=>am<|z.l<x.l) os]
 congr 1;apply oD nd
 ·obtain⟨y,k,o,k1,k2⟩:=T.zS c hz i u ⋯ j.1;exact⟨y,k,by simp[o];omega⟩
 intro a d b e f g;simp at f g;have ja:=T.aO a d;have jb:=T.aO b e;refine (T.ap a d b e).resolve_right λq=>?_;unfold Apart at q;delta Up at f g;omega
def aC.Oi(T:aC bx os)(a:bx.ok)(nd:os.Nodup)(hz:Nb bx os z)(k:Nat)(h:∃x∈os,on k z x=bd):os.countP (on k z)=os.countP (nf k z)+1:=by
 have:=(T.turns k).LB (lu k a) (vw k nd) ((qu k).2 hz) (by obtain⟨x,b,u⟩:=h;exact⟨aa k x,a8.2 ⟨x,b,ρ⟩,of_decide_eq_true u⟩)
 simp at this;exact this
def UL (h:∀x∈os,on k z x=bi):os.countP (on k z)=0/\os.countP (nf k z)=0:=by constructor;simp_all;rw[KX];intro x hx e;have:nf k z x=(on k z x&&am ((aa k z).l<(aa k x).l)):=ρ;simp_all
def aC.QW(T:aC bx os)(p:bx.ok)(nd:os.Nodup)(hz:z∈walls bx):bY (λk=>os.countP<|on k z)=bY (λk=>os.countP<|nf k z)+1:=by
 have wl:z=wN bx\/z=wE bx\/z=wS bx\/z=wW bx:=by simpa[walls] using hz
 have q:=p;unfold Ob.ok at q;obtain⟨a,d,a1,a2,a3,a4⟩:=T.hit bx.l bx.b (by lia) (by lia) (by lia) (by lia);obtain⟨b,e,b1,b2,b3,b4⟩:=T.hit (bx.r-1) (bx.t-1) (by lia) (by lia) (by lia) (by lia);have ja:=T.aO a d;have jb:=T.aO b e;have no:∀k,(∀x,(bx.l<=x.l/\x.l<x.r/\x.r<=bx.r/\bx.b<=x.b/\x.b<x.t/\x.t<=bx.t)->¬Up (aa k z) (aa k x))->os.countP (on k z)=0/\os.countP (nf k z)=0:=λk h=>UL λx f=>decide_eq_false<|h x<|T.aO x f;have c:∀k,(∃x∈os,Up (aa k z)<|aa k x)->os.countP (on k z)=os.countP (nf k z)+1:=λk ⟨x,f,u⟩=>T.Oi p nd (τ hz) k ⟨x,f,decide_eq_true u⟩;delta bY;dsimp only;rcases wl with rfl|rfl|rfl|rfl
 ·have h0:=no 0 (λx i u=>by simp only[aa,ak,Up,wN] at u;omega);have g:=no 1 (λx i u=>by simp only[aa,ak,Up,wN] at u;omega);have j:=no 3 (λx i u=>by simp only[aa,ak,Up,wN] at u;omega);have o:=c 2 ⟨b,e,by simp only[aa,ak,Up,wN];omega⟩;lia
 ·have h0:=no 0 (λx i u=>by simp only[aa,ak,Up,wE] at u;omega);have g:=no 1 (λx i u=>by simp only[aa,ak,Up,wE] at u;omega);have o:=no 2 (λx i u=>by simp only[aa,ak,Up,wE] at u;omega);have j:=c 3 ⟨b,e,by simp only[aa,ak,Up,wE];omega⟩;lia
 ·have g:=no 1 (λx i u=>by simp only[aa,ak,Up,wS] at u;omega);have o:=no 2 (λx i u=>by simp only[aa,ak,Up,wS] at u;omega);have j:=no 3 (λx i u=>by simp only[aa,ak,Up,wS] at u;omega);have h0:=c 0 ⟨a,d,by simp only[aa,ak,Up,wS];omega⟩;lia
 have h0:=no 0 (λx i u=>by simp only[aa,ak,Up,wW] at u;omega);have o:=no 2 (λx i u=>by simp only[aa,ak,Up,wW] at u;omega);have j:=no 3 (λx i u=>by simp only[aa,ak,Up,wW] at u;omega);have g:=c 1 ⟨a,d,by simp only[aa,ak,Up,wW];omega⟩;lia
def aC.uo(T:aC bx os)(c:bx.ok)(f:x∈os)(nd:(os++walls bx).Nodup)(s:k<4):(os++walls bx).countP (on k x)=os.countP (nf k x)+1:=by
 obtain⟨ne,_,u,_⟩:=T.chain c f nd s;have sp:=il (on k x) (λz=>am<|(aa k x).l<(aa k z).l)<|os++walls bx;have v:((os++walls bx).countP λa=>on k x a&&!am ((aa k x).l<(aa k a).l))=1:=by
  apply oD nd
  ·obtain⟨a,d⟩:∃a,(bN (os++walls bx) x k)[0]?=ac a:=⟨_,bt<|oy.2 ne⟩;have A:=gC.1<|eR d;have:=u a d;refine⟨a,A.1,?_⟩;simp_all [on]
  intro a d b g h j;unfold on at h j;simp at h j;have oa:=mY k<|Nb.ok T c<|eH.1 d;have ob:=mY k<|Nb.ok T c<|eH.1 g;refine iD k ((D6 k<|Nb.ap T c (eH.1 d)<|eH.1 g).resolve_right λq=>?_);grind [Apart,Up]
 have B:((os++walls bx).countP λa=>on k x a&&am ((aa k x).l<(aa k a).l))=os.countP (nf k x):=by
  rw[pz];have:((walls bx).countP λa=>on k x a&&am ((aa k x).l<(aa k a).l))=0:=by
   rw[KX];intro w hw e;unfold on at e;simp at e;have i:=(T.turns k).aO _ (a8.2 ⟨x,f,ρ⟩);have o:=tY hw k;have p:=lu k c;have o:aa k w=wN (aa k bx)\/aa k w=wE (aa k bx)\/aa k w=wS (aa k bx)\/aa k w=wW (aa k bx):=by simp_all [walls]
   unfold Up at e;rcases o with q|q|q|q<;>rw[q] at e<;>simp only[wN,wE,wS,wW] at e<;>omega
  rw[this];rfl
 simp only[sp,v,B]
def Cp(z x)(k):on k z x=on (k+2) x z:=by exact decide_eq_decide.2<|we _ _
def Ce(k)(z x):on (k+4) z x=on k z x:=by simp[on,yu]
def J'(l:List Ob)(x:Ob):bY (λk=>l.countP λz=>on k z x)=bY λk=>l.countP (on k x):=by
 have e:∀k,(l.countP λz=>on k z x)=l.countP (on (k+2) x):=λk=>by congr 1;funext z;exact Cp z x k
 have f:∀k,l.countP (on (k+4) x)=l.countP (on k x):=λk=>by congr 1;funext z;exact Ce k x z
 grind [bY]
def aC.ties(T:aC bx os)(a:bx.ok)(nd:(os++walls bx).Nodup):aF (λx=>bY λk=>os.countP<|on k x) os+2*aF (λx=>bY λk=>(walls bx).countP (on k x)) os=6*os.length+2:=by
 have c:=(iR.1 nd).1;have p:=T.pairs a nd;rw[sN] at p;have w1:aF (λz=>bY λk=>os.countP<|on k z) (walls bx)=aF (λz=>bY λk=>os.countP<|nf k z) (walls bx)+4:=by simp only[dq (g:=λz=>(bY λk=>os.countP<|nf k z)+1) λz hz=>T.QW a c hz,jH];rfl
 have w2:aF (λz=>bY λk=>os.countP<|on k z) (walls bx)=aF (λx=>bY λk=>(walls bx).countP (on k x)) os:=by rw[yZ];have:∀k,aF (λz=>os.countP<|on k z) (walls bx)=aF (λx=>(walls bx).countP λz=>on k z x) os:=λk=>vx _ _ _;rw[show (bY λk=>aF (λz=>os.countP<|on k z)<|walls bx)=bY λk=>aF (λx=>(walls bx).countP λz=>on k z x) os from congrArg bY (funext this),<-yZ];exact dq λx _=>J' _ x
 have r1:aF (λx=>bY λk=>(os++walls bx).countP (on k x)) os=aF (λx=>bY λk=>os.countP<|nf k x) os+4*os.length:=by
  rw[dq (g:=λx=>(bY λk=>os.countP<|nf k x)+4) λx b=>by
   delta bY;simp only[T.uo a b nd (k:=0) ⋯,T.uo a b nd (k:=1) ⋯,T.uo a b nd (k:=2) ⋯,T.uo a b nd (k:=3) ⋯]
   lia,jH,sv]
 have r2:aF (λx=>bY λk=>(os++walls bx).countP (on k x)) os=aF (λx=>bY λk=>os.countP<|on k x) os+aF (λx=>bY λk=>(walls bx).countP (on k x)) os:=by rw[<-jH];refine dq λx _=>?_;delta bY;simp;lia
 lia
noncomputable def fV (l:List α):List (α×α):=l.zip<|l.drop 1++l.take 1
def Ft(l:List α)(h:i<l.length):(l.drop 1++l.take 1)[i]?=l[(i+1)%l.length]?:=by
 by_cases a:i+1<l.length
 ·rw[k5 (by rw[t9];omega),abd,Yt a,abH]
 have e:i+1=l.length:=⋯;rw[ka (by rw[t9];omega),e,aaO,t9,show i-(l.length-1)=0 from by omega];simp
def Ba(l:List α):(l.drop 1++l.take 1).length=l.length:=by simp;lia
theorem FL{l:List α}{n m:α}:(n,m)∈fV l ↔ bL l n m:=by
 delta fV bL;constructor
 ·intro h;obtain⟨i,b,e⟩:=kx h;have hl:i<l.length:=by grind
  have e:(l.zip<|l.drop 1++l.take 1)[i]?=ac (n,m):=by rw[bt b,e]
  rw[aaf] at e;exact⟨i,e.1,by rw[<-Ft l hl];exact e.2⟩
 rintro⟨i,a,c⟩;have hl:=(cm.1 a).1;refine eR (i:=i) ?_;rw[aaf];exact⟨a,by rw[Ft l hl];exact c⟩
def xF(l:List α):(fV l).map (·.1)=l:=by exact List.map_fst_zip (by rw[Ba];exact eK _)
def Oa(l:List α):(fV l).map (·.2)=l.drop 1++l.take 1:=by exact adV (by rw[Ba];exact eK _)
def E8(l:List α):(fV l).length=l.length:=by have:=congrArg List.length<|xF l;simp_all
def Nm(l:List α):(l.drop 1++l.take 1).Perm l:=List.perm_append_comm.trans (by rw[YL])
end
structure gU {α:Type}(rooms walls:List α) (ring:α->List α):Prop where
 jO:rooms.Nodup
 gr:∀x∈rooms,x∉walls
 nd:∀x∈rooms,(ring x).Nodup
 len:∀x∈rooms,3<=(ring x).length
 mem:∀x∈rooms,∀y∈ring x,y∈rooms\/y∈walls
 gh:∀x∈rooms,x∉ring x
 sym:∀x∈rooms,∀y∈rooms,y∈ring x->x∈ring y
 kd:∀x∈rooms,∀n m,bL (ring x) n m->n∈rooms->bL (ring n) m x
 kM:∀x∈rooms,∀n m,bL (ring x) n m->m∈rooms->bL (ring m) x n
structure Order {α:Type}(lt:α->α->Bool):Prop where
 gh:∀a,lt a a=bi
 tr:∀a b c,lt a b=bd->lt b c=bd->lt a c=bd
 cj:∀a b,a≠b->lt a b=bd\/lt b a=bd
section
variable{α:Type}{rooms walls:List α}{ring:α->List α}
def bL.mem (h:bL l n m):n∈l/\m∈l:=by obtain⟨i,a,b⟩:=h;exact⟨eR a,eR b⟩
def qX{l:List α}(nd:l.Nodup){i j:Nat}{a:α}(d:l[i]?=ac a)(e:l[j]?=ac a):i=j:=by
 obtain⟨b,e1⟩:=cm.1 d;obtain⟨c,e2⟩:=cm.1 e;rcases aap i j with h|h|h
 ·have:=pq.1 nd i j b c h;simp_all
 ·exact h
 have:=pq.1 nd j i c b h;simp_all
def bL.ne (nd:l.Nodup)(hl:3<=l.length)(h:bL l n m):n≠m:=by
 rintro rfl;obtain⟨i,a,b⟩:=h;have hi:=(cm.1 a).1;have:=qX nd a b;by_cases c:i+1<l.length
 ·rw[Yt c] at this;lia
 rw[show i+1=l.length from by lia,aaO] at this;lia
def bL.asymm (nd:l.Nodup)(hl:3<=l.length)(h:bL l n m)(h':bL l m n):False:=by
 obtain⟨i,b,e⟩:=h;obtain⟨j,c,f⟩:=h';have g:=(cm.1 b).1;have k:=(cm.1 c).1;have o:=qX nd c e;have p:=qX nd b f;have d:∀a,a<l.length->(a+1)%l.length=if a+1=l.length then 0 else a+1:=λa ha=>by
  split
  ·rename_i h;rw[h,aaO]
  exact Yt (by lia)
 rw[d i g] at o;rw[d j k] at p;lia
def corners(rooms:List α)(ring:α->List α):List (α×α×α):=rooms.flatMap λx=>(fV<|ring x).map λp=>(x,p.1,p.2)
theorem fL{x n m:α}:(x,n,m)∈corners rooms ring ↔ x∈rooms/\bL (ring x) n m:=by
 delta corners;rw[pw];constructor
 ·rintro⟨y,a,h⟩;obtain⟨p,b,e⟩:=a8.1 h;cases e;exact⟨a,FL.1 b⟩
 rintro⟨c,h⟩;exact⟨x,c,a8.2 ⟨(n,m),FL.2 h,ρ⟩⟩
theorem Ac (f:a->List c)(p:c->Bool):∀l:List a,(l.flatMap f).countP p=aF (λb=>(f b).countP p) l
 | []=>rfl
 | b::l=>by simp[Ac f p l];rfl
theorem lP(C:gU rooms walls ring):(corners rooms ring).Nodup:=by
 have key:∀l:List α,l.Nodup->(∀x∈l,(ring x).Nodup)->(corners l ring).Nodup:=by
  intro l;induction l with
  | nil=>exact λ_ _=>YV
  | cons a l f =>
   intro c d;rw[qh] at c;have e:corners (a::l) ring=((fV<|ring a).map λp=>(a,p.1,p.2))++corners l ring:=by rfl
   rw[e,iR];refine⟨?_,f c.2 λx g=>d x (by simp[g]),?_⟩
   ·have h:(fV<|ring a).Nodup:=by have:=d a (by simp);rw[<-xF (ring a)] at this;exact (gd.1 this).imp λb e=>b (by rw[e])
    refine gd.2 (h.imp λb e=>b ?_);simp_all
   grind [fL]
 exact key rooms C.jO C.nd
def count_map{c:Type}{l d:List c}(nd:l.Nodup)(f:d.Nodup){g:c->c}(inj:∀a∈l,∀b∈l,g a=g b->a=b)(h:∀b,b∈d ↔ ∃a∈l,g a=b)(p:c->Bool):d.countP p=l.countP λa=>p (g a):=by
 have pm:d.Perm (l.map g):=(lq f<|gd.2 (nd.imp_of_mem λj k i e=>i<|inj _ j _ k e)).2 λb=>by rw[h b,a8]
 rw[pm.countP_eq,ql];rfl
end
section
variable{α:Type}[DecidableEq α]{rooms walls:List α}{ring:α->List α}{lt:α->α->Bool}
noncomputable def ax(rooms:List α)(a:α):Bool:=am<|a∈rooms
def canon(rooms:List α)(lt:α->α->Bool)(c:α×α×α):Bool:=(!ax rooms c.2.1||lt c.1 c.2.1)&&(!ax rooms c.2.2||lt c.1 c.2.2)
noncomputable def g3(c:α×α×α):α×α×α:=(c.2.1,c.2.2,c.1)
def Aa (h:g3 a=g3 b):a=b:=by grind [g3]
theorem D4:∀{l:List f},(∀a∈l,(p a=bd/\q a=bi/\s a=bi)\/(p a=bi/\q a=bd/\s a=bi)\/(p a=bi/\q a=bi/\s a=bd))->l.countP p+l.countP q+l.countP s=l.length
 | [],_=>rfl
 | a::l,h=>by have:=D4 (l:=l) λb g=>h b (by simp[g]);simp[lT];rcases h a ⋯ with⟨c,d,e⟩|⟨c,d,e⟩|⟨c,d,e⟩<;>rw[c,d,e]<;>simp<;>lia
theorem AB:∀{l:List c},(∀a∈l,(p a=bd/\q a=bi)\/(p a=bi/\q a=bd))->l.countP p+l.countP q=l.length
 | [],_=>rfl
 | a::l,h=>by have:=AB (l:=l) λb f=>h b (by simp[f]);simp[lT];rcases h a ⋯ with⟨d,e⟩|⟨d,e⟩<;>rw[d,e]<;>simp<;>lia
theorem Order.jy(O:Order lt)(h:lt a b=bd):lt b a=bi:=by
 cases e:lt b a with
 | false=>rfl
 | true=>have:=O.tr a b a h e;rw[O.gh] at this;cases this
def gU.apart(C:gU rooms walls ring)(a:x∈rooms)(h:bL (ring x) n m):x≠n/\x≠m/\n≠m:=by have:=h.mem;exact⟨λe=>C.gh x a<|e ▸ this.1,λe=>C.gh x a<|e ▸ this.2,h.ne (C.nd x a)<|C.len x a⟩
def oj (p q:b->Bool)(l:List b):(l.filter p).countP q=l.countP λa=>p a&&q a:=by simp[List.countP_filter,aa9]
def gU.least(C:gU rooms walls ring)(O:Order lt):3*(corners rooms ring).countP (canon rooms lt)=aF (λx=>(ring x).countP (ax rooms)) rooms+2*aF (λx=>(ring x).countP λy=>!ax rooms y) rooms+(corners rooms ring).countP λc=>!ax rooms c.2.1&&!ax rooms c.2.2:=by
 have o:=lP C;generalize r:corners rooms ring=cs at *;have mem:∀{x n m:α},(x,n,m)∈cs ↔ x∈rooms/\bL (ring x) n m:=λ{x n m}=>by rw[<-r];exact fL
 have J:∀p:α->Bool,(cs.countP λc=>p c.2.1)=aF (λx=>(ring x).countP p) rooms:=λp=>by rw[<-r];delta corners;rw[Ac];refine dq λx _=>?_;rw[ql];have:=congrArg (ac3 p)<|xF<|ring x;rwa[ql] at this
 have E:∀p:α->Bool,(cs.countP λc=>p c.2.2)=aF (λx=>(ring x).countP p) rooms:=λp=>by rw[<-r];delta corners;rw[Ac];refine dq λx _=>?_;rw[ql];have:=congrArg (ac3 p)<|Oa<|ring x;simp only[ql,(Nm<|ring x).countP_eq] at this;exact this
 have K:=il (λc:α×α×α=>ax rooms c.2.1) (λc=>ax rooms c.2.2) cs;have G:=il (λc:α×α×α=>!ax rooms c.2.2) (λc=>ax rooms c.2.1) cs;rw[J (ax rooms)] at K;rw[E (λy=>!ax rooms y)] at G;have L:(cs.countP λc=>ax rooms c.2.2&&ax rooms c.2.1)=cs.countP λc=>ax rooms c.2.1&&ax rooms c.2.2:=by congr 1;funext c;exact aa9 _ _
 have M:(cs.countP λc=>!ax rooms c.2.2&&ax rooms c.2.1)=cs.countP λc=>ax rooms c.2.1&&!ax rooms c.2.2:=by congr 1;funext c;exact aa9 _ _
 have N:(cs.countP λc=>!ax rooms c.2.2&&!ax rooms c.2.1)=cs.countP λc=>!ax rooms c.2.1&&!ax rooms c.2.2:=by congr 1;funext c;exact aa9 _ _
 simp only[M,N] at G;have k1:=il (canon rooms lt) (λc=>ax rooms c.2.1) cs;have P:=il (λc=>canon rooms lt c&&ax rooms c.2.1) (λc=>ax rooms c.2.2) cs;have Q:=il (λc=>canon rooms lt c&&!ax rooms c.2.1) (λc=>ax rooms c.2.2) cs;have R:(cs.countP λa=>canon rooms lt a&&ax rooms a.2.1&&ax rooms a.2.2)=cs.countP λa=>(ax rooms a.2.1&&ax rooms a.2.2)&&(lt a.1 a.2.1&&lt a.1 a.2.2):=by congr 1;funext c;delta canon;cases ax rooms c.2.1<;>cases ax rooms c.2.2<;>simp
 have S:(cs.countP λa=>canon rooms lt a&&ax rooms a.2.1&&!ax rooms a.2.2)=cs.countP λa=>(ax rooms a.2.1&&!ax rooms a.2.2)&&lt a.1 a.2.1:=by congr 1;funext c;delta canon;cases ax rooms c.2.1<;>cases ax rooms c.2.2<;>simp
 have T:(cs.countP λa=>canon rooms lt a&&!ax rooms a.2.1&&ax rooms a.2.2)=cs.countP λa=>(!ax rooms a.2.1&&ax rooms a.2.2)&&lt a.1 a.2.2:=by congr 1;funext c;delta canon;cases ax rooms c.2.1<;>cases ax rooms c.2.2<;>simp
 have U:(cs.countP λa=>canon rooms lt a&&!ax rooms a.2.1&&!ax rooms a.2.2)=cs.countP λa=>!ax rooms a.2.1&&!ax rooms a.2.2:=by congr 1;funext c;delta canon;cases ax rooms c.2.1<;>cases ax rooms c.2.2<;>simp
 simp only[R,S] at P;simp only[T,U] at Q;have S3:3*(cs.countP λa=>(ax rooms a.2.1&&ax rooms a.2.2)&&(lt a.1 a.2.1&&lt a.1 a.2.2))=cs.countP λc=>ax rooms c.2.1&&ax rooms c.2.2:=by
  have j:(cs.filter λc=>ax rooms c.2.1&&ax rooms c.2.2).Nodup:=l4 pB o;have k:∀{x n m:α},(x,n,m)∈cs.filter (λc=>ax rooms c.2.1&&ax rooms c.2.2) ↔ (x∈rooms/\bL (ring x) n m)/\n∈rooms/\m∈rooms:=λ{x n m}=>by rw[hB,mem];dsimp only[ax];simp
  have t:∀b,b∈cs.filter (λc=>ax rooms c.2.1&&ax rooms c.2.2) ↔ ∃a∈cs.filter (λc=>ax rooms c.2.1&&ax rooms c.2.2),g3 a=b:=by
   rintro⟨x,n,m⟩;constructor
   ·intro h;obtain⟨⟨d,s⟩,f,g⟩:=k.1 h;exact⟨(m,x,n),k.2 ⟨⟨g,C.kM x d n m s g⟩,d,f⟩,ρ⟩
   rintro⟨⟨V,W,X⟩,h,e⟩;cases e;obtain⟨⟨d,s⟩,f,g⟩:=k.1 h;exact k.2 ⟨⟨f,C.kd _ d _ _ s f⟩,g,d⟩
  have u:=count_map j j (λa _ b _ h=>Aa h) t λa=>lt a.1 a.2.1&&lt a.1 a.2.2;have Y:=count_map j j (λa _ b _ h=>Aa h) t λa=>lt (g3 a).1 (g3 a).2.1&&lt (g3 a).1 (g3 a).2.2
  have A:=D4 (p:=λa=>lt a.1 a.2.1&&lt a.1 a.2.2) (q:=λa=>lt (g3 a).1 (g3 a).2.1&&lt (g3 a).1 (g3 a).2.2) (s:=λa=>lt (g3<|g3 a).1 (g3<|g3 a).2.1&&lt (g3<|g3 a).1 (g3<|g3 a).2.2) (by
   rintro⟨x,n,m⟩ h;obtain⟨⟨d,s⟩,f,g⟩:=k.1 h;obtain⟨B,Z,d3⟩:=C.apart d s;show ((lt x n&&lt x m)=bd/\(lt n m&&lt n x)=bi/\(lt m x&&lt m n)=bi)\/((lt x n&&lt x m)=bi/\(lt n m&&lt n x)=bd/\(lt m x&&lt m n)=bi)\/((lt x n&&lt x m)=bi/\(lt n m&&lt n x)=bi/\(lt m x&&lt m n)=bd);rcases O.cj x n B with i|i<;>rcases O.cj x m Z with v|v<;>rcases O.cj n m d3 with w|w<;>have q1:=O.jy i<;>have H:=O.jy v<;>have I:=O.jy w<;>simp[i,v,w,q1,H,I]
   ·have:=O.tr x n m i w;rw[H] at this;cases this
   have:=O.tr n x m i v;rw[I] at this;cases this)
  simp only[<-Y,<-u] at A;rw[<-wm] at A;rw[oj] at A;lia
 have S2:(cs.countP λa=>(ax rooms a.2.1&&!ax rooms a.2.2)&&lt a.1 a.2.1)+(cs.countP λa=>(!ax rooms a.2.1&&ax rooms a.2.2)&&lt a.1 a.2.2)=cs.countP λc=>ax rooms c.2.1&&!ax rooms c.2.2:=by
  have j:(cs.filter λc=>ax rooms c.2.1&&!ax rooms c.2.2).Nodup:=l4 pB o;have D:(cs.filter λc=>!ax rooms c.2.1&&ax rooms c.2.2).Nodup:=l4 pB o;have k:∀{x n m:α},(x,n,m)∈cs.filter (λc=>ax rooms c.2.1&&!ax rooms c.2.2) ↔ (x∈rooms/\bL (ring x) n m)/\n∈rooms/\m∉rooms:=λ{x n m}=>by rw[hB,mem];dsimp only[ax];simp
  have z:∀{x n m:α},(x,n,m)∈cs.filter (λc=>!ax rooms c.2.1&&ax rooms c.2.2) ↔ (x∈rooms/\bL (ring x) n m)/\n∉rooms/\m∈rooms:=λ{x n m}=>by rw[hB,mem];dsimp only[ax];simp
  have t:∀b,b∈cs.filter (λc=>!ax rooms c.2.1&&ax rooms c.2.2) ↔ ∃a∈cs.filter (λc=>ax rooms c.2.1&&!ax rooms c.2.2),g3 a=b:=by
   rintro⟨x,n,m⟩;constructor
   ·intro h;obtain⟨⟨d,s⟩,f,g⟩:=z.1 h;exact⟨(m,x,n),k.2 ⟨⟨g,C.kM x d n m s g⟩,d,f⟩,ρ⟩
   rintro⟨⟨V,W,X⟩,h,e⟩;cases e;obtain⟨⟨d,s⟩,f,g⟩:=k.1 h;exact z.2 ⟨⟨f,C.kd _ d _ _ s f⟩,g,d⟩
  have u:=count_map j D (λa _ b _ h=>Aa h) t λa=>lt a.1 a.2.2;simp[oj] at u;rw[u,<-oj,<-oj,wm (l:=cs)];apply AB;rintro⟨x,n,m⟩ h;obtain⟨⟨d,s⟩,f,g⟩:=k.1 h;obtain⟨B,_,_⟩:=C.apart d s;show (lt x n=bd/\lt n x=bi)\/(lt x n=bi/\lt n x=bd);rcases O.cj x n B with i|i
  ·exact ι ⟨i,O.jy i⟩
  exact τ ⟨O.jy i,i⟩
 lia
def jr:canon rooms lt (x,n,m)=bd ↔ (n∈rooms->lt x n=bd)/\(m∈rooms->lt x m=bd):=by dsimp only[canon,ax];by_cases a:n∈rooms<;>by_cases b:m∈rooms<;>simp[a,b]
def SV (h:[a,b].Perm [c,d]):(a=c/\b=d)\/(a=d/\b=c):=by
 have e:a=c\/a=d:=by simpa using h.mem_iff.1 (show a∈[a,b] by simp)
 rcases e with rfl|rfl
 ·simp_all
 exact τ ⟨ρ,by simpa using (h.trans<|adh _ _ _).cons_inv⟩
def gU.threes(C:gU rooms walls ring)(O:Order lt){E:Type}{key:α×α×α->E}(F:∀c∈corners rooms ring,∀b∈corners rooms ring,key c=key b ↔ [c.1,c.2.1,c.2.2].Perm [b.1,b.2.1,b.2.2]){D:List E}(nd:D.Nodup)(S:∀k,k∈D ↔ ∃c∈corners rooms ring,key c=k) :
  D.length=(corners rooms ring).countP (canon rooms lt):=by
 have G:=lP C;have inj:∀c∈(corners rooms ring).filter (canon rooms lt),∀b∈(corners rooms ring).filter (canon rooms lt),key c=key b->c=b:=by
  rintro⟨x,n,m⟩ h ⟨j,A,B⟩ h' e;obtain⟨d,hl⟩:=hB.1 h;obtain⟨w,H⟩:=hB.1 h';have p:=(F _ d _ w).1 e;obtain⟨g,s⟩:=fL.1 d;obtain⟨l,s'⟩:=fL.1 w;obtain⟨I,J⟩:=jr.1 hl;obtain⟨K,L⟩:=jr.1 H;have ex:x=j:=by
   have T:x=j\/x=A\/x=B:=by simpa using p.mem_iff.1 (show x∈[x,n,m] by simp)
   have M:j=x\/j=n\/j=m:=by simpa using p.mem_iff.2 (show j∈[j,A,B] by simp)
   rcases T with h|h|h
   ·exact h
   ·have q:=K<|h ▸ g;rw[<-h] at q;rcases M with k|k|k
    ·exact k.symm
    ·have:=I<|k ▸ l;rw[<-k,O.jy q] at this;contradiction
    have:=J<|k ▸ l;rw[<-k,O.jy q] at this;contradiction
   have q:=L<|h ▸ g;rw[<-h] at q;rcases M with k|k|k
   ·exact k.symm
   ·have:=I<|k ▸ l;rw[<-k,O.jy q] at this;contradiction
   have:=J<|k ▸ l;rw[<-k,O.jy q] at this;contradiction
  subst ex;rcases SV (show [n,m].Perm [A,B] from p.cons_inv) with⟨rfl,rfl⟩|⟨rfl,rfl⟩
  ·rfl
  exact (s.asymm (C.nd x g) (C.len x g) s').elim
 have pm:D.Perm (((corners rooms ring).filter (canon rooms lt)).map key):=(lq nd<|gd.2 ((l4 pB G).imp_of_mem λU V N e=>N<|inj _ U _ V e)).2 λk=>by
  rw[S k,a8];constructor
  ·rintro⟨⟨x,n,m⟩,d,rfl⟩;obtain⟨g,s⟩:=fL.1 d;obtain⟨P,Q,W⟩:=C.apart g s;have put:∀b,b∈corners rooms ring->canon rooms lt b=bd->[b.1,b.2.1,b.2.2].Perm [x,n,m]->∃a∈(corners rooms ring).filter (canon rooms lt),key a=key (x,n,m):=λb R X Y=>⟨b,hB.2 ⟨R,X⟩,(F _ R _ d).2 Y⟩;have pn:=YM (l₁:=[n,m]) (l₂:=[x]);have r:=YM (l₁:=[m]) (l₂:=[x,n]);have y:n∈rooms->(n,m,x)∈corners rooms ring:=λh=>fL.2 ⟨h,C.kd x g n m s h⟩;have t:m∈rooms->(m,x,n)∈corners rooms ring:=λh=>fL.2 ⟨h,C.kM x g n m s h⟩;by_cases u:n∈rooms<;>by_cases o:m∈rooms
   ·rcases O.cj x n P with f|f
    ·rcases O.cj x m Q with i|i
     ·exact put _ d (jr.2 ⟨λ_=>f,λ_=>i⟩)<|List.Perm.refl _
     exact put _ (t o) (jr.2 ⟨λ_=>i,λ_=>O.tr m x n i f⟩) r
    rcases O.cj n m W with v|v
    ·exact put _ (y u) (jr.2 ⟨λ_=>v,λ_=>f⟩) pn
    exact put _ (t o) (jr.2 ⟨λ_=>O.tr m n x v f,λ_=>v⟩) r
   ·rcases O.cj x n P with f|f
    ·exact put _ d (jr.2 ⟨λ_=>f,λz=>absurd z o⟩)<|List.Perm.refl _
    exact put _ (y u) (jr.2 ⟨λz=>absurd z o,λ_=>f⟩) pn
   ·rcases O.cj x m Q with i|i
    ·exact put _ d (jr.2 ⟨λz=>absurd z u,λ_=>i⟩)<|List.Perm.refl _
    exact put _ (t o) (jr.2 ⟨λ_=>i,λz=>absurd z u⟩) r
   exact put _ d (jr.2 ⟨λz=>absurd z u,λz=>absurd z o⟩)<|List.Perm.refl _
  rintro⟨c,d,rfl⟩;exact⟨c,(hB.1 d).1,ρ⟩
 rw[pm.length_eq,ab,wm]
end
section
variable{bx:Ob}{os:List Ob}{x n m:Ob}
def aC.closed(T:aC bx os)(b:bx.ok)(nd:(os++walls bx).Nodup):gU os (walls bx) (br<|os++walls bx) where
 jO:=(iR.1 nd).1
 gr:=λx a hw=>(iR.1 nd).2.2 x a x hw ρ
 nd:=λx a=>T.pS b a nd
 len:=λx a=>by have n1:=oy.2 (T.chain b a nd (k:=1) (by decide)).1;have n2:=oy.2 (T.chain b a nd (k:=2) (by decide)).1;have n3:=oy.2 (T.chain b a nd (k:=3) (by decide)).1;unfold br;simp only[eu,eu];lia
 mem:=λx a y d=>eH.1 (iI.1 d).1
 gh:=λx a h=>by obtain⟨_,k,f,u⟩:=iI.1 h;have ox:=mY k<|Nb.ok T b<|ι a;simp_all [Up]
 sym:=λx a y d h=>by
  obtain⟨_,k,f,u⟩:=iI.1 h;have e:=Cp x y k;have c:on (k+2) y x=bd:=by rw[<-e];exact decide_eq_true u
  refine iI.2 ⟨eH.2<|ι a,?_⟩;by_cases g:k+2<4
  ·exact⟨k+2,g,of_decide_eq_true c⟩
  have i:on (k+2) y x=on (k-2) y x:=by rw[show k+2=(k-2)+4 from by omega];exact Ce _ _ _
  rw[i] at c;exact⟨k-2,⋯,of_decide_eq_true c⟩
 kd:=λx a n m s j=>(T.D' b a nd s).1 j
 kM:=λx a n m s l=>(T.D' b a nd s).2 l
def F7(N)(x)(p):(br N x).countP p=bY λk=>N.countP λz=>on k x z&&p z:=by
 have e:∀k,(bN N x k).countP p=N.countP λz=>on k x z&&p z:=λk=>by delta bN;simp only[(gk _ _).countP_eq,oj];rfl
 dsimp only[br,bY];simp only[pz,e,e,e,e]
def aC.Fd(T:aC bx os)(hp:bx.ok)(nd:(os++walls bx).Nodup)(x:Ob):(br (os++walls bx) x).countP (ax os)=bY (λk=>os.countP<|on k x)/\((br (os++walls bx) x).countP λy=>!ax os y)=bY λk=>(walls bx).countP (on k x):=by
 have gr:∀w∈walls bx,w∉os:=λw hw c=>(iR.1 nd).2.2 w c w hw ρ;have a:∀k,((os++walls bx).countP λz=>on k x z&&ax os z)=os.countP (on k x):=λk=>by
  rw[pz];have d:(os.countP λz=>on k x z&&ax os z)=os.countP (on k x):=zc λz hz=>by simp_all [ax]
  have e2:((walls bx).countP λz=>on k x z&&ax os z)=0:=by rw[KX];intro w hw e;rw[fv] at e;exact gr w hw<|of_decide_eq_true e.2
  lia
 have b:∀k,((os++walls bx).countP λz=>on k x z&&!ax os z)=(walls bx).countP (on k x):=λk=>by
  have d:((walls bx).countP λz=>on k x z&&!ax os z)=(walls bx).countP (on k x):=by simp_all [ax,zc]
  simp_all [ax]
 simp only[F7];exact⟨congrArg bY (funext a),congrArg bY<|funext b⟩
def aC.sums(T:aC bx os)(a:bx.ok)(nd:(os++walls bx).Nodup):aF (λx=>(br (os++walls bx) x).countP (ax os)) os+2*aF (λx=>(br (os++walls bx) x).countP λy=>!ax os y) os=6*os.length+2:=by rw[dq (g:=λx=>bY λk=>os.countP<|on k x) λx _=>(T.Fd a nd x).1,dq (g:=λx=>bY λk=>(walls bx).countP (on k x)) λx _=>(T.Fd a nd x).2];exact T.ties a nd
def tf(a:m∈walls bx)(i:bx.l<=x.l/\x.l<x.r/\x.r<=bx.r/\bx.b<=x.b/\x.b<x.t/\x.t<=bx.t)(u:Up (ak<|ak x) (ak<|ak m)):m=wS bx/\x.b=bx.b:=by
 obtain⟨d,i2,e,i4,i5,i6⟩:=i;obtain⟨c,f,g⟩:=u;simp[walls] at a;rcases a with rfl|rfl|rfl|rfl
 ·exact absurd (abX.1 (show -(bx.t+1)=-x.b from c)) (by lia)
 ·exact absurd (aad.1<|f)<|aaT.2 e
 ·exact⟨ρ,(abX.1<|c).symm⟩
 exact absurd (aad.1<|g)<|aaT.2 d
def tQ(a:m∈walls bx)(i:bx.l<=x.l/\x.l<x.r/\x.r<=bx.r/\bx.b<=x.b/\x.b<x.t/\x.t<=bx.t)(u:Up (ak<|ak<|ak x) (ak<|ak<|ak m)):m=wW bx/\x.l=bx.l:=by
 obtain⟨i1,i2,i3,i4,i5,i6⟩:=i;obtain⟨c,d,e⟩:=u;dsimp only[ak] at c d e;simp[walls] at a;rcases a with rfl|rfl|rfl|rfl<;>dsimp only[wN,wE,wS,wW] at c d e
 ·omega
 ·omega
 ·omega
 simp_all
def aC.jW(T:aC bx os)(u:bx.ok)(v:x∈os)(i:n∈walls bx)(j:m∈walls bx):cB x n m ↔ (n=wN bx/\m=wE bx/\x.t=bx.t/\x.r=bx.r)\/(n=wE bx/\m=wS bx/\x.r=bx.r/\x.b=bx.b)\/(n=wS bx/\m=wW bx/\x.b=bx.b/\x.l=bx.l)\/(n=wW bx/\m=wN bx/\x.l=bx.l/\x.t=bx.t):=by
 have h:=T.aO x v;have ⟨s,w⟩:=u;constructor
 ·rintro⟨k,hk,f⟩;have y:k=0\/k=1\/k=2\/k=3:=⋯;rcases y with rfl|rfl|rfl|rfl
  ·rcases f with⟨un,g,e⟩|⟨un,o,g,em⟩
   ·rw[(kf i h un).1,(kf j h g).1] at e;exact absurd (e)<|Int.ne_of_gt s
   obtain⟨a,b⟩:=kf i h un;obtain⟨c,d⟩:=mE j h g;exact ι ⟨a,c,b,d⟩
  ·rcases f with⟨un,g,e⟩|⟨un,o,g,em⟩
   ·rw[(mE i h un).1,(mE j h g).1] at e;exact absurd (abX.1<|e)<|afd w
   obtain⟨a,b⟩:=mE i h un;obtain⟨c,d⟩:=tf j h g;exact τ<|ι ⟨a,c,b,d⟩
  ·rcases f with⟨un,g,e⟩|⟨un,o,g,em⟩
   ·rw[(tf i h un).1,(tf j h g).1] at e;exact absurd (abX.1<|e)<|afd s
   obtain⟨a,b⟩:=tf i h un;obtain⟨c,d⟩:=tQ j h g;exact τ<|τ<|ι ⟨a,c,b,d⟩
  rcases f with⟨un,g,e⟩|⟨un,o,g,em⟩
  ·rw[(tQ i h un).1,(tQ j h g).1] at e;dsimp only[aa,ak,wW] at e;lia
  obtain⟨a,b⟩:=tQ i h un;have g:Up (ak<|ak<|ak<|ak x) (ak<|ak<|ak<|ak m):=g;rw[oP,oP] at g;obtain⟨c,d⟩:=kf j h g;exact τ<|τ<|τ ⟨a,c,b,d⟩
 rintro (⟨rfl,rfl,p,q⟩|⟨rfl,rfl,p,q⟩|⟨rfl,rfl,p,q⟩|⟨rfl,rfl,p,q⟩)
 ·exact⟨0,⋯,τ (by dsimp only[Up,aa,ak,wN,wE];omega)⟩
 ·exact⟨1,⋯,τ (by dsimp only[Up,aa,ak,wS,wE];omega)⟩
 ·exact⟨2,⋯,τ (by dsimp only[Up,aa,ak,wS,wW];omega)⟩
 exact⟨3,⋯,τ (by dsimp only[Up,aa,ak,wN,wW];omega)⟩
end
section
variable{α:Type}[DecidableEq α]{rooms walls:List α}{ring:α->List α}{lt:α->α->Bool}
def BY{l d:List α}(nd:l.Nodup)(e:d.Nodup)(p:α->Bool):(l.countP λy=>am (y∈d)&&p y)=d.countP λy=>am (y∈l)&&p y:=by
 simp[wm];refine List.Perm.length_eq ((lq (l4 pB nd)<|l4 pB e).2 λy=>?_);simp;constructor
 ·rintro⟨a,b,c⟩;exact⟨b,a,c⟩
 simp_all
def gU.half(C:gU rooms walls ring)(O:Order lt):2*aF (λx=>(ring x).countP λy=>ax rooms y&&lt x y) rooms=aF (λx=>(ring x).countP (ax rooms)) rooms:=by
 have a:∀x∈rooms,((ring x).countP λy=>ax rooms y&&lt x y)=rooms.countP λy=>am (y∈ring x)&&lt x y:=λx c=>BY (C.nd x c) C.jO<|lt x;have b:∀x∈rooms,(ring x).countP (ax rooms)=rooms.countP λy=>am (y∈ring x):=λx c=>by have:=BY (C.nd x c) C.jO λ_=>true;simp only[acz] at this;exact this
 rw[dq a,dq b];have s:aF (λx=>rooms.countP λy=>am (y∈ring x)&&lt x y) rooms=aF (λy=>rooms.countP λx=>am (x∈ring y)&&lt x y) rooms:=by rw[vx λx y=>am (y∈ring x)&&lt x y];refine dq λy f=>zc λx c=>?_;have:(y∈ring x) ↔ (x∈ring y):=⟨λh=>C.sym x c y f h,λh=>C.sym y f x c h⟩;simp_all
 have t:aF (λx=>rooms.countP λy=>am<|y∈ring x) rooms=aF (λx=>rooms.countP λy=>am (y∈ring x)&&lt x y) rooms+aF (λx=>rooms.countP λy=>am (y∈ring x)&&lt y x) rooms:=by
  rw[<-jH];refine dq λx c=>?_;simp only[il (λy=>am<|y∈ring x) (λy=>lt x y)]
  congr 1;refine zc λy f=>?_
  simp only[fv,decide_eq_true_eq,ow];constructor
  ·rintro⟨d,g⟩;refine⟨d,?_⟩;have ne:x≠y:=λe=>C.gh x c (e ▸ d);rcases O.cj x y ne with h|h;simp_all;exact h
  rintro⟨d,g⟩;exact⟨d,O.jy g⟩
 lia
end
section
variable{bx:Ob}{os:List Ob}{lt:Ob->Ob->Bool}{x y n m p w:Ob}
def aC.lY(T:aC bx os){p q:Int}(e:bx.l<=p)(f:p<bx.r)(g:bx.b<=q)(i:q<bx.t){P:Ob->Prop}(j:∀o,(bx.l<=o.l/\o.l<o.r/\o.r<=bx.r/\bx.b<=o.b/\o.b<o.t/\o.t<=bx.t)->(P o ↔ o.l<=p/\p<o.r/\o.b<=q/\q<o.t)):∃x∈os,∀y∈os,P y ↔ y=x:=by
 obtain⟨x,c,k⟩:=T.hit p q e f g i;refine⟨x,c,λy d=>?_⟩;rw[j y (T.aO y d)];constructor
 ·refine λh=>(T.ap y d x c).resolve_right λa=>?_;grind [Apart]
 rintro rfl;exact k
def aC.JO(T:aC bx os)(d:bx.ok)(nd:(os++walls bx).Nodup):((corners os<|br<|os++walls bx).countP λc=>!ax os c.2.1&&!ax os c.2.2)=4:=by
 have C:=T.closed d nd;have G:=d;unfold Ob.ok at G;obtain⟨L,h0,H⟩:=T.lY (p:=bx.r-1) (q:=bx.t-1) (P:=λx=>x.t=bx.t/\x.r=bx.r) (by lia) (by lia) (by lia) (by lia)<|λo i=>⋯;obtain⟨M,A,I⟩:=T.lY (p:=bx.r-1) (q:=bx.b) (P:=λx=>x.r=bx.r/\x.b=bx.b) (by lia) (by lia) (by lia) ⋯ (λo i=>⋯);obtain⟨N,B,J⟩:=T.lY (p:=bx.l) (q:=bx.b) (P:=λx=>x.b=bx.b/\x.l=bx.l) (by lia) ⋯ (by lia) ⋯ (λo i=>⋯);obtain⟨O,D,K⟩:=T.lY (p:=bx.l) (q:=bx.t-1) (P:=λx=>x.l=bx.l/\x.t=bx.t) (by lia) ⋯ (by lia) (by lia) (λo i=>⋯);rw[wm];have Q:wN bx≠wE bx:=λe=>by have:=congrArg Ob.t e;simp only[wN,wE] at this;omega
 have R:wN bx≠wS bx:=λe=>by have:=congrArg Ob.b e;simp only[wN,wS] at this;omega
 have S:wN bx≠wW bx:=λe=>by have:=congrArg Ob.t e;simp only[wN,wW] at this;omega
 have U:wE bx≠wS bx:=λe=>by have:=congrArg Ob.b e;simp only[wE,wS] at this;omega
 have V:wE bx≠wW bx:=λe=>by have:=congrArg Ob.l e;simp only[wE,wW] at this;omega
 have W:wS bx≠wW bx:=λe=>by have:=congrArg Ob.b e;simp only[wS,wW] at this;omega
 have pm:((corners os<|br<|os++walls bx).filter λc=>!ax os c.2.1&&!ax os c.2.2).Perm [(L,wN bx,wE bx),(M,wE bx,wS bx),(N,wS bx,wW bx),(O,wW bx,wN bx)]:=by
  refine (lq (l4 pB<|lP C) ?_).2 ?_
  ·simp only[qh,eW,hF,or_false,ab',not_or,not_and];refine⟨⟨λ_ h=>absurd h Q,λ_ h=>absurd h R,λ_ h=>absurd h S⟩,⟨λ_ h=>absurd h U,λ_ h=>absurd h V⟩,λ_ h=>absurd h W,not_false,YV⟩
  rintro⟨x,n,m⟩;have g:∀{o:Ob},o∈walls bx->o∉os:=λ{o} hw X=>(iR.1 nd).2.2 o X o hw ρ;rw[hB,fL];simp only[ax,fv,ow,decide_eq_false_iff_not,eW,hF,or_false,ab'];constructor
  ·rintro⟨⟨j,s⟩,Y,Z⟩;have E:n∈walls bx:=(C.mem x j n s.mem.1).resolve_left Y;have F:m∈walls bx:=(C.mem x j m s.mem.2).resolve_left Z;have f:=(T.jW d j E F).1 ((T.eE d j nd (τ E)<|τ F).1 s);rcases f with⟨a,b,c⟩|⟨a,b,c⟩|⟨a,b,c⟩|⟨a,b,c⟩
   ·exact ι ⟨(H x j).1 c,a,b⟩
   ·exact τ<|ι ⟨(I x j).1 c,a,b⟩
   ·exact τ<|τ<|ι ⟨(J x j).1 c,a,b⟩
   exact τ<|τ<|τ ⟨(K x j).1 c,a,b⟩
  have k:wN bx∈walls bx:=by simp[walls]
  have u:wE bx∈walls bx:=by simp[walls]
  have v:wS bx∈walls bx:=by simp[walls]
  have z:wW bx∈walls bx:=by simp[walls]
  rintro (⟨rfl,rfl,rfl⟩|⟨rfl,rfl,rfl⟩|⟨rfl,rfl,rfl⟩|⟨rfl,rfl,rfl⟩)
  ·exact⟨⟨h0,(T.eE d h0 nd (τ k)<|τ u).2 ((T.jW d h0 k u).2 (ι ⟨ρ,ρ,(H _ h0).2 ρ⟩))⟩,g k,g u⟩
  ·exact⟨⟨A,(T.eE d A nd (τ u)<|τ v).2 ((T.jW d A u v).2 (τ<|ι ⟨ρ,ρ,(I _ A).2 ρ⟩))⟩,g u,g v⟩
  ·exact⟨⟨B,(T.eE d B nd (τ v)<|τ z).2 ((T.jW d B v z).2 (τ<|τ<|ι ⟨ρ,ρ,(J _ B).2 ρ⟩))⟩,g v,g z⟩
  exact⟨⟨D,(T.eE d D nd (τ z)<|τ k).2 ((T.jW d D z k).2 (τ<|τ<|τ ⟨ρ,ρ,(K _ D).2 ρ⟩))⟩,g z,g k⟩
 rw[pm.length_eq];rfl
inductive Row {α:Type}(rooms:List α) (ring:α->List α) (wall:α):α->List α->Prop
 | stop {a:α}:a∉rooms->Row rooms ring wall a []
 | go {a p:α}{l:List α}:a∈rooms->bL (ring a) p wall->Row rooms ring wall p l->Row rooms ring wall a (a::l)
def aC.before(T:aC bx os)(f:bx.ok)(c:x∈os)(nd:(os++walls bx).Nodup)(ht:x.t=bx.t):∃p,Nb bx os p/\cB x p (wN bx)/\((p∈os/\p.t=bx.t/\p.r=x.l)\/(p=wW bx/\x.l=bx.l)):=by
 have ix:=T.aO x c;have d:=f;unfold Ob.ok at d;by_cases h:x.l=bx.l
 ·refine⟨wW bx,τ (by simp[walls]),⟨3,⋯,τ ?_⟩,τ ⟨ρ,h⟩⟩;simp_all [Up,aa,ak,wN,wW]
 -- the room to the left,at the top
 obtain⟨o,b,k1,k2,k3,k4⟩:=T.hit (x.l-1) (x.t-1) (by lia) (by omega) (by omega) (by lia);have io:=T.aO o b;have ap:Apart o x:=by
  rcases T.ap o b x c with e|a
  ·lia
  exact a
 unfold Apart at ap;refine⟨o,ι b,⟨3,⋯,τ ?_⟩,⋯⟩;simp only[Up,aa,ak,wN];lia
theorem aC.HP(T:aC bx os)(j:bx.ok)(nd:(os++walls bx).Nodup):∀(k:Nat) (x:Ob),x∈os->x.t=bx.t->(x.l-bx.l).toNat<=k->∃l,Row os (br<|os++walls bx) (wN bx) x l/\l.Nodup/\∀y,y∈l ↔ y∈os/\y.t=bx.t/\y.r<=x.r:=by
 intro k;induction k with
 | zero =>
  intro x d u C;have D:=T.aO x d;obtain⟨p,i,f,h⟩:=T.before j d nd u;have v:Nb bx os (wN bx):=τ (by simp[walls]);have s:=(T.eE j d nd i v).2 f;rcases h with⟨g,o,A⟩|⟨g,o⟩
  ·have:=T.aO p g;omega
  subst g;refine⟨[x],.go d s (.stop λz=>(iR.1 nd).2.2 _ z _ (by simp[walls]) ρ),aaz _ _,λy=>?_⟩;rw[kA];constructor;simp_all;rintro⟨B,A,h4⟩;have E:=T.aO y B;refine (T.ap y B x d).resolve_right λa=>?_;grind [Apart]
 | succ k F =>
  intro x d u C;have D:=T.aO x d;obtain⟨p,i,f,h⟩:=T.before j d nd u;have v:Nb bx os (wN bx):=τ (by simp[walls]);have s:=(T.eE j d nd i v).2 f;rcases h with⟨g,o,A⟩|⟨g,o⟩
  ·have ip:=T.aO p g;obtain⟨l,r,n,e⟩:=F p g o (by omega);refine⟨x::l,.go d s r,qh.2 ⟨λz=>?_,n⟩,λy=>?_⟩
   ·have:=((e x).1 z).2.2;omega
   rw[eW,e y];constructor;lia;rintro⟨a,b,c⟩;have E:=T.aO y a;rcases T.ap y a x d with e|q
   ·exact ι e
   grind [Apart]
  simp_all
noncomputable def reach [DecidableEq a](rooms walls:List a)(ring:a->List a):Nat->List a
 | 0=>walls
 | k+1=>walls++rooms.filter λx=>(ring x).any λy=>am<|y∈reach rooms walls ring k
theorem aC.reached(T:aC bx os)(d:bx.ok)(nd:(os++walls bx).Nodup):∀(k:Nat) (x:Ob),x∈os->(os.countP λy=>am<|x.t<y.t)<k->x∈reach os (walls bx) (br<|os++walls bx) k:=by
 intro k;induction k with
 | zero=>simp
 | succ k e =>
  intro x b h;obtain⟨ne,_⟩:=T.chain d b nd (k:=0) ⋯;obtain⟨y,f⟩:=acs _ ne;obtain⟨c,u⟩:=gC.1 f;have g:=iI.2 ⟨c,0,by decide,u⟩;refine eH.2<|τ<|hB.2 ⟨b,xr.2 ⟨y,g,decide_eq_true ?_⟩⟩;rcases eH.1 c with a|hw
  ·refine e y a<|kH ?_<|qy h;have iy:=T.aO y a;have hxy:x.t<y.t:=by have u:Up x y:=u;simp_all [Up]
   have sp:=il (λz:Ob=>am<|x.t<z.t) (λz=>am<|y.t<z.t) os;have e1:(os.countP λz=>am (x.t<z.t)&&am (y.t<z.t))=os.countP λz=>am (y.t<z.t):=zc λz _=>by lia
   have e2:0<os.countP λz=>am (x.t<z.t)&&!am (y.t<z.t):=List.countP_pos_iff.2 ⟨y,a,by simp;omega⟩;omega
  cases k with
  | zero=>exact hw
  | succ k=>exact eH.2<|ι hw
def aC.all_reached(T:aC bx os)(b:bx.ok)(nd:(os++walls bx).Nodup)(a:x∈os):x∈reach os (walls bx) (br<|os++walls bx) os.length:=by apply T.reached b nd os.length x a;have c:=aaV (p:=λy:Ob=>am<|x.t<y.t) (l:=os);refine Nat.lt_of_le_of_ne c λe=>?_;have:=List.countP_eq_length.1 e x a;simp at this
inductive jT (bx:Ob) (os:List Ob) (w:Ob):Ob->List Ob->Prop
 | stop {a:Ob}:a∉os->jT bx os w a []
 | go {a p:Ob}{l:List Ob}:a∈os->Nb bx os p->cB a p w->jT bx os w p l->jT bx os w a (a::l)
theorem Row.toF(T:aC bx os)(b:bx.ok)(nd:(os++walls bx).Nodup)(h:Row os (br<|os++walls bx) w a l):jT bx os w a l:=by
 induction h with
 | stop h=>exact .stop h
 | @go a p l h s _ c=>refine .go h (eH.1 (iI.1 s.mem.1).1) ?_ c;obtain⟨i,d,e⟩:=s;exact T.xt b h nd d e
theorem jT.Ks(T:aC bx os)(b:bx.ok)(nd:(os++walls bx).Nodup)(hw:Nb bx os w)(h:jT bx os w a l):Row os (br<|os++walls bx) w a l:=by
 induction h with
 | stop h=>exact .stop h
 | @go a p l h c f _ d=>exact .go h ((T.eE b h nd c hw).2 f) d
theorem jT.back(k)(i:k<4)(h:jT (aa k bx) (os.map<|aa k) (aa k w) (aa k a) l):∃c,l=c.map (aa k)/\jT bx os w a c:=by
 generalize d:aa k a=j at h;induction h generalizing a with
 | stop h=>subst d;exact⟨[],ρ,.stop λz=>h<|a8.2 ⟨a,z,ρ⟩⟩
 | @go j o l h q f _ s=>subst d;obtain⟨p,rfl⟩:=xc k i o;obtain⟨c,e,r⟩:=s ρ;obtain⟨b,g,t⟩:=a8.1 h;rw[iD k t] at g;refine⟨a::c,by rw[e];rfl,.go g ((qu k).1 q) (cB.ups k f) r⟩
def wall(bx:Ob)(k:Nat):Ob:=if k=0 then wN bx else if k=1 then wE bx else if k=2 then wS bx else wW bx
def gI(bx)(k):wall bx k∈walls bx:=by
 delta wall;split
 ·simp[walls]
 split
 ·simp[walls]
 split<;>simp[walls]
def BN (hk:k<4):aa k (wall bx k)=wN (aa k bx):=by
 have a:k=0\/k=1\/k=2\/k=3:=by lia
 rcases a with rfl|rfl|rfl|rfl
 ·rfl
 rfl
 ·have e:wall bx 2=wS bx:=ρ;rw[e];exact kL (by rfl) (by rfl) (by rfl) (by simp only[aa,ak,wN,wS];lia)
 have e:wall bx 3=wW bx:=ρ;rw[e];exact kL (by rfl) (by rfl) (by rfl) (by simp only[aa,ak,wN,wW]<;>lia)
def pG(bx:Ob)(k:Nat)(x:Ob):Prop:=(aa k x).t=(aa k bx).t
def aC.Mx(nd:(os++walls bx).Nodup)(T:aC bx os)(g:bx.ok)(k:Nat):(os.map (aa k)++walls (aa k bx)).Nodup:=by
 rw[iR] at nd ⊢;refine⟨vw k nd.1,?_,?_⟩
 ·have d:=lu k g;unfold Ob.ok at d;generalize aa k bx=c at d;simp only[walls,qh,eW,hF,or_false,not_or];refine⟨⟨λe=>?_,λe=>?_,λe=>?_⟩,⟨λe=>?_,λe=>?_⟩,λe=>?_,not_false,YV⟩
  ·have:=congrArg Ob.t e;simp only[wN,wE] at this;omega
  ·have:=congrArg Ob.b e;simp only[wN,wS] at this;omega
  ·have:=congrArg Ob.t e;simp only[wN,wW] at this;omega
  ·have:=congrArg Ob.b e;simp only[wE,wS] at this;omega
  ·have:=congrArg Ob.l e;simp only[wE,wW] at this;omega
  have:=congrArg Ob.b e;simp only[wS,wW] at this;lia
 intro a h b f e;subst e;have i:=(T.turns k).aO a h;have f:a=wN (aa k bx)\/a=wE (aa k bx)\/a=wS (aa k bx)\/a=wW (aa k bx):=by simpa[walls] using f
 rcases f with rfl|rfl|rfl|rfl<;>simp only[wN,wE,wS,wW] at i<;>omega
def aC.row(T:aC bx os)(j:bx.ok)(nd:(os++walls bx).Nodup)(s:k<4)(u:x∈os)(v:pG bx k x)(h2:(aa k x).r=(aa k bx).r):∃l,Row os (br<|os++walls bx) (wall bx k) x l/\l.Nodup/\∀y,y∈l ↔ y∈os/\pG bx k y:=by
 have o:=T.turns k;have g:=lu k j;have h:=aC.Mx nd T j k;obtain⟨l,r,n,e⟩:=o.HP g h _ (aa k x) (a8.2 ⟨x,u,ρ⟩) v<|eK _;have f:=Row.toF o g h r;rw[<-BN s] at f;obtain⟨A,rfl,B⟩:=jT.back k s f;refine⟨A,B.Ks T j nd<|τ<|gI bx k,(gd.1 n).imp λt e=>t (by rw[e]),λy=>?_⟩;constructor
 ·intro d;obtain⟨a,b,c⟩:=(e<|aa k y).1 (a8.2 ⟨y,d,ρ⟩);obtain⟨z,hz,q⟩:=a8.1 a;rw[iD k q] at hz;exact⟨hz,b⟩
 rintro⟨d,hw⟩;have i:=o.aO _<|a8.2 ⟨y,d,ρ⟩;obtain⟨z,hz,q⟩:=a8.1 ((e<|aa k y).2 ⟨a8.2 ⟨y,d,ρ⟩,hw,⋯⟩);rwa[iD k q] at hz
def aC.tied(T:aC bx os)(f:bx.ok)(b:y∈os)(c:k<4):wall bx k∈br (os++walls bx) y ↔ pG bx k y:=by
 have i:=T.aO y b;rw[iI];delta pG;have g:k=0\/k=1\/k=2\/k=3:=by lia
 constructor
 ·rintro⟨_,j,hj,u⟩;have a:j=0\/j=1\/j=2\/j=3:=by lia
  delta Up at u;rcases g with rfl|rfl|rfl|rfl
  ·have e:wall bx 0=wN bx:=ρ;rw[e] at u;rcases a with rfl|rfl|rfl|rfl<;>simp only[aa,ak,wN] at u ⊢<;>omega
  ·have e:wall bx 1=wE bx:=ρ;rw[e] at u;rcases a with rfl|rfl|rfl|rfl<;>simp only[aa,ak,wE] at u ⊢<;>omega
  ·have e:wall bx 2=wS bx:=ρ;rw[e] at u;rcases a with rfl|rfl|rfl|rfl<;>simp only[aa,ak,wS] at u ⊢<;>omega
  have e:wall bx 3=wW bx:=ρ;rw[e] at u;rcases a with rfl|rfl|rfl|rfl<;>simp only[aa,ak,wW] at u ⊢<;>omega
 intro h;refine⟨eH.2<|τ<|gI bx k,k,c,?_⟩;rw[BN c];have i':=(T.turns k).aO _ (a8.2 ⟨y,b,ρ⟩);dsimp only[Up,wN];lia
def aC.first(T:aC bx os)(c:bx.ok)(nd:(os++walls bx).Nodup)(hk:k<4):∃x∈os,pG bx k x/\(aa k x).r=(aa k bx).r/\∀y∈os,bL (br (os++walls bx) y) (wall bx k) (wall bx<|(k+1)%4) ↔ y=x:=by
 have g:=c;unfold Ob.ok at g;have key:∀y∈os,∀P:Prop,(cB y (wall bx k) (wall bx<|(k+1)%4) ↔ P)->(bL (br (os++walls bx) y) (wall bx k) (wall bx<|(k+1)%4) ↔ P):=λy a P h=>by rwa[T.eE c a nd (τ<|gI bx k) (τ<|gI bx _)]
 have J:wN bx≠wE bx:=λe=>by have:=congrArg Ob.t e;grind [wN,wE]
 have K:wN bx≠wS bx:=λe=>by have:=congrArg Ob.b e;simp only[wN,wS] at this;omega
 have nW:wN bx≠wW bx:=λe=>by have:=congrArg Ob.t e;simp only[wN,wW] at this;lia
 have j:wE bx≠wS bx:=λe=>by have:=congrArg Ob.b e;simp only[wE,wS] at this;lia
 have L:wE bx≠wW bx:=λe=>by have:=congrArg Ob.l e;simp only[wE,wW] at this;omega
 have M:wS bx≠wW bx:=λe=>by have:=congrArg Ob.b e;simp only[wS,wW] at this;lia
 have s:wN bx∈walls bx:=by simp[walls]
 have u:wE bx∈walls bx:=by simp[walls]
 have v:wS bx∈walls bx:=by simp[walls]
 have z:wW bx∈walls bx:=by simp[walls]
 unfold pG;have N:k=0\/k=1\/k=2\/k=3:=by lia
 rcases N with rfl|rfl|rfl|rfl
 ·obtain⟨A,h0,B⟩:=T.lY (p:=bx.r-1) (q:=bx.t-1) (P:=λx=>x.t=bx.t/\x.r=bx.r) (by lia) (by lia) (by lia) (by lia) (λo i=>⋯);have q:=(B A h0).2 ρ;refine⟨A,h0,by simp only[aa];lia,by simp only[aa];lia,λy a=>key y a _<|(T.jW c a s u).trans ⟨λh=>?_,λh=>ι ⟨ρ,ρ,(B y a).2 h⟩⟩⟩;simp_all
 ·obtain⟨C,D,d⟩:=T.lY (p:=bx.r-1) (q:=bx.b) (P:=λx=>x.r=bx.r/\x.b=bx.b) (by lia) (by lia) (by lia) (by omega) (λo i=>⋯);have q:=(d C D).2 ρ;refine⟨C,D,by simp only[aa,ak];lia,by simp only[aa,ak];lia,λy a=>key y a _<|(T.jW c a u v).trans ⟨λh=>?_,λh=>τ<|ι ⟨ρ,ρ,(d y a).2 h⟩⟩⟩;rcases h with⟨h,_⟩|⟨_,_,h⟩|⟨h,_⟩|⟨h,_⟩
  ·cases J h.symm
  ·exact (d y a).1 h
  ·cases j h
  cases L h
 ·obtain⟨E,F,f⟩:=T.lY (p:=bx.l) (q:=bx.b) (P:=λx=>x.b=bx.b/\x.l=bx.l) (by lia) (by omega) (by lia) (by omega) (λo i=>⋯);have q:=(f E F).2 ρ;refine⟨E,F,by simp only[aa,ak];lia,by simp only[aa,ak];lia,λy a=>key y a _<|(T.jW c a v z).trans ⟨λh=>?_,λh=>τ<|τ<|ι ⟨ρ,ρ,(f y a).2 h⟩⟩⟩;rcases h with⟨h,_⟩|⟨h,_⟩|⟨_,_,h⟩|⟨h,_⟩
  ·cases K h.symm
  ·cases j h.symm
  ·exact (f y a).1 h
  cases M h
 obtain⟨G,H,I⟩:=T.lY (p:=bx.l) (q:=bx.t-1) (P:=λx=>x.l=bx.l/\x.t=bx.t) (by lia) (by omega) (by lia) (by omega) (λo i=>by omega);have q:=(I G H).2 ρ;refine⟨G,H,by simp only[aa,ak];lia,by simp only[aa,ak];lia,λy a=>key y a _<|(T.jW c a z s).trans ⟨λh=>?_,λh=>τ<|τ<|τ ⟨ρ,ρ,(I y a).2 h⟩⟩⟩;simp_all
end
structure oK {α:Type} [DecidableEq α] (rooms:List α) (w:Nat->α) (ring:α->List α) (lt:α->α->Bool):Prop where
 C:gU rooms [w 0,w 1,w 2,w 3] ring
 HF:[w 0,w 1,w 2,w 3].Nodup
 ww:∀x∈rooms,∀j k,j<4->k<4->bL (ring x) (w j) (w k)->k=(j+1)%4
 row:∀k,k<4->∃x∈rooms,(∀y∈rooms,bL (ring y) (w k) (w<|(k+1)%4) ↔ y=x)/\∃l,Row rooms ring (w k) x l/\l.Nodup/\∀y,y∈l ↔ y∈rooms/\w k∈ring y
 all:∀x∈rooms,x∈reach rooms [w 0,w 1,w 2,w 3] ring rooms.length
 F8:(corners rooms ring).countP (canon rooms lt)+rooms.length=aF (fun x=>(ring x).countP fun y=>!ax rooms y) rooms+aF (fun x=>(ring x).countP fun y=>ax rooms y&&lt x y) rooms+1
section
variable{α:Type}[DecidableEq α]{rooms rooms' walls:List α}{w:Nat->α}{ring ring':α->List α}{lt:α->α->Bool}
def hX(l a:List α):Prop:=∃A B,l=A++B/\a=B++A
theorem hX.perm{l a:List α}(h:hX l a):a.Perm l:=by obtain⟨A,B,rfl,rfl⟩:=h;exact YM
def hX.symm (h:hX l a):hX a l:=by obtain⟨A,B,rfl,rfl⟩:=h;exact⟨B,A,ρ,ρ⟩
def hX.succ (h:hX l b)(s:bL l n m):bL b n m:=by
 obtain⟨A,B,rfl,rfl⟩:=h;obtain⟨i,c,a⟩:=s;have d:=(cm.1 c).1;rw[eu] at d a;unfold bL;rw[eu];have get:∀j,j<A.length+B.length->(B++A)[(j+B.length)%(B.length+A.length)]?=(A++B)[j]?:=λj f=>by
  by_cases hA:j<A.length
  ·rw[Yt (by omega),ka ⋯,k5 hA]
   congr 1;omega
  have e:(j+B.length)%(B.length+A.length)=j-A.length:=by rw[show j+B.length=(j-A.length)+(B.length+A.length) from by omega,Nat.add_mod_right,Yt (by omega)]
  rw[e,k5 (by omega),ka (by omega)]
 refine⟨(i+B.length)%(B.length+A.length),by rw[get i d];exact c,?_⟩;have f:(i+1)%(A.length+B.length)<A.length+B.length:=YE _ (by omega);rw[<-get _ f] at a;simp[<-a];congr 1;have g:((i+B.length)%(B.length+A.length)+1)%(B.length+A.length)=(i+B.length+1)%(B.length+A.length):=by rw[afr,Nat.mod_mod,<-afr]
 have k:((i+1)%(A.length+B.length)+B.length)%(B.length+A.length)=(i+1+B.length)%(B.length+A.length):=by simp[abH]
 simp[k];congr 1
 lia
def hX.eE (h:hX l a):bL a n m ↔ bL l n m:=⟨h.symm.succ,h.succ⟩
theorem Cd (p:l.Perm b):aF f l=aF f b:=by
 induction p with
 | nil=>rfl
 | cons x _ c=>show f x+_=f x+_;rw[c]
 | swap x y l=>show f y+(f x+aF f l)=f x+(f y+aF f l);lia
 | trans _ _ d e=>rw[d,e]
def Ri(p:rooms'.Perm rooms)(a:α):ax rooms' a=ax rooms a:=by exact decide_eq_decide.2 p.mem_iff
theorem oK.turn(h:oK rooms w ring lt)(p:rooms'.Perm rooms)(t:∀x∈rooms,hX (ring x)<|ring' x):oK rooms' w ring' lt:=by
 have mem:∀{x:α},x∈rooms' ↔ x∈rooms:=λ{x}=>p.mem_iff
 have v:gU rooms' [w 0,w 1,w 2,w 3] ring':={
  jO:=p.nodup_iff.2 h.C.jO
  gr:=λx d=>h.C.gr x<|mem.1 d
  nd:=λx d=>(t x<|mem.1 d).perm.nodup_iff.2 (h.C.nd x<|mem.1 d)
  len:=λx d=>by rw[(t x<|mem.1 d).perm.length_eq];exact h.C.len x<|mem.1 d
  mem:=λx d y f=>(h.C.mem x (mem.1 d) y<|(t x<|mem.1 d).perm.mem_iff.1 f).imp mem.2 id
  gh:=λx d f=>h.C.gh x (mem.1 d)<|(t x<|mem.1 d).perm.mem_iff.1 f
  sym:=λx d y f A=>(t y<|mem.1 f).perm.mem_iff.2 (h.C.sym x (mem.1 d) y (mem.1 f)<|(t x<|mem.1 d).perm.mem_iff.1 A)
  kd:=λx d n m s g=>(t n<|mem.1 g).succ (h.C.kd x (mem.1 d) n m ((t x<|mem.1 d).eE.1 s)<|mem.1 g)
  kM:=λx d n m s B=>(t m<|mem.1 B).succ (h.C.kM x (mem.1 d) n m ((t x<|mem.1 d).eE.1 s)<|mem.1 B)}
 have row:∀{wl a:α}{l:List α},Row rooms ring wl a l->Row rooms' ring' wl a l:=λ{wl a l} r=>by
  induction r with
  | stop g=>exact .stop λz=>g (mem.1 z)
  | go D s _ o=>exact .go (mem.2 D) ((t _ D).succ s) o
 have E:∀k x,x∈reach rooms [w 0,w 1,w 2,w 3] ring k->x∈reach rooms' [w 0,w 1,w 2,w 3] ring' k:=by
  intro k;induction k with
  | zero=>exact λx d=>d
  | succ k o =>
   intro x d;rcases eH.1 d with d|d
   ·exact eH.2<|ι d
   obtain⟨i,F⟩:=hB.1 d;obtain⟨y,f,e⟩:=xr.1 F;refine eH.2<|τ<|hB.2 ⟨mem.2 i,xr.2 ⟨y,(t x i).perm.mem_iff.2 f,?_⟩⟩;exact decide_eq_true<|o y<|of_decide_eq_true e
 refine⟨v,h.HF,λx d j k G q s=>h.ww x (mem.1 d) j k G q<|(t x<|mem.1 d).eE.1 s,λk q=>?_,λx d=>?_,?_⟩
 ·obtain⟨x,d,i,l,r,n,e⟩:=h.row k q;refine⟨x,mem.2 d,λy f=>?_,l,row r,n,λy=>?_⟩
  ·rw[(t y<|mem.1 f).eE];exact i y<|mem.1 f
  rw[e y];constructor
  ·rintro⟨a,b⟩;exact⟨mem.2 a,(t y a).perm.mem_iff.2 b⟩
  rintro⟨a,b⟩;exact⟨mem.1 a,(t y<|mem.1 a).perm.mem_iff.1 b⟩
 ·rw[p.length_eq];exact E _ x<|h.all x<|mem.1 d
 have u:ax rooms'=ax rooms:=funext<|Ri p;have H:canon rooms' lt=canon rooms lt:=by unfold canon;rw[u]
 have c:(corners rooms' ring').countP (canon rooms' lt)=(corners rooms ring).countP (canon rooms lt):=by
  rw[H];refine List.Perm.countP_eq _<|(lq (lP v)<|lP h.C).2 ?_;rintro⟨x,n,m⟩;rw[fL,fL,mem];constructor
  ·rintro⟨a,b⟩;exact⟨a,(t x a).eE.1 b⟩
  rintro⟨a,b⟩;exact⟨a,(t x a).eE.2 b⟩
 have I:aF (λx=>(ring' x).countP λy=>!ax rooms' y) rooms'=aF (λx=>(ring x).countP λy=>!ax rooms y) rooms:=by rw[Cd p,u];exact dq λx d=>(t x d).perm.countP_eq _
 have J:aF (λx=>(ring' x).countP λy=>ax rooms' y&&lt x y) rooms'=aF (λx=>(ring x).countP λy=>ax rooms y&&lt x y) rooms:=by rw[Cd p,u];exact dq λx d=>(t x d).perm.countP_eq _
 simp only[c,I,J,p.length_eq];exact h.F8
end
section
variable{α β:Type}[DecidableEq α][DecidableEq β]
def bL.map (ν:α->β)(h:bL l n m):bL (l.map ν) (ν n) (ν m):=by obtain⟨i,a,h2⟩:=h;exact⟨i,by rw[c6,a];rfl,by simp_all⟩
def bL.of_map (h:bL (l.map ν) a b):∃n m,a=ν n/\b=ν m/\bL l n m:=by obtain⟨i,d,c⟩:=h;rw[c6] at d c;rw[ab] at c;obtain⟨n,e,rfl⟩:=gf.1 d;obtain⟨m,f,rfl⟩:=gf.1 c;exact⟨n,m,ρ,ρ,i,e,f⟩
end
section
variable{bx:Ob}{os:List Ob}{β:Type}[DecidableEq β]{ν:Ob->β}{ring':β->List β}{lt:β->β->Bool}
def kg(a:bx.ok)(hj:j<4)(hk:k<4)(h:wall bx j=wall bx k):j=k:=by
 delta Ob.ok at a;have c:j=0\/j=1\/j=2\/j=3:=by lia
 have d:k=0\/k=1\/k=2\/k=3:=by lia
 have e:wall bx 0=wN bx:=ρ;have f:wall bx 1=wE bx:=ρ;have g:wall bx 2=wS bx:=ρ;have i:wall bx 3=wW bx:=ρ;have m:=congrArg Ob.l h;have n:=congrArg Ob.b h;have o:=congrArg Ob.r h;have p:=congrArg Ob.t h;rcases c with rfl|rfl|rfl|rfl<;>rcases d with rfl|rfl|rfl|rfl<;>first|rfl|(exfalso;simp only[e,f,g,i,wN,wE,wS,wW] at m n o p;lia)
theorem aC.yi(T:aC bx os)(v:bx.ok)(nd:(os++walls bx).Nodup)(inj:∀a∈os++walls bx,∀b∈os++walls bx,ν a=ν b->a=b)(B:∀x∈os,ring' (ν x)=(br (os++walls bx) x).map ν)(O:Order lt):oK (os.map ν) (λk=>ν<|wall bx k) ring' lt:=by
 have C:=T.closed v nd;have A:∀{a:Ob},a∈os->a∈os++walls bx:=λh=>eH.2<|ι h;have F:∀{a:Ob},a∈walls bx->a∈os++walls bx:=λh=>eH.2<|τ h;have t:∀{x y:Ob},y∈br (os++walls bx) x->y∈os++walls bx:=λh=>(iI.1 h).1;have inR:∀{y:Ob},y∈os++walls bx->ν y∈os.map ν->y∈os:=λ{y} i h=>by obtain⟨z,hz,e⟩:=a8.1 h;rwa[<-inj z (A hz) y i e]
 have E:∀{x n m:Ob},x∈os->n∈os++walls bx->m∈os++walls bx->(bL (ring'<|ν x) (ν n) (ν m) ↔ bL (br (os++walls bx) x) n m):=λ{x n m} d I M=>by
  rw[B x d];constructor
  ·intro h;obtain⟨S,U,V,W,s⟩:=h.of_map;simp only[inj n I S (t s.mem.1) V,inj m M U (t s.mem.2) W];exact s
  exact λs=>s.map ν
 have N:gU (os.map ν) ((walls bx).map ν) ring':={
  jO:=gd.2 (C.jO.imp_of_mem λo u D e=>D<|inj _ (A o) _ (A u) e)
  gr:=λa o hw=>by obtain⟨x,d,rfl⟩:=a8.1 o;obtain⟨y,i,e⟩:=a8.1 hw;have:=inj y (F i) x (A d) e;subst this;exact C.gr y d i
  nd:=λa o=>by obtain⟨x,d,rfl⟩:=a8.1 o;rw[B x d];exact gd.2 ((C.nd x d).imp_of_mem λo u D e=>D<|inj _ (t o) _ (t u) e)
  len:=λa o=>by obtain⟨x,d,rfl⟩:=a8.1 o;rw[B x d,ab];exact C.len x d
  mem:=λa o b u=>by obtain⟨x,d,rfl⟩:=a8.1 o;rw[B x d] at u;obtain⟨y,i,rfl⟩:=a8.1 u;exact (C.mem x d y i).imp (λh=>a8.2 ⟨y,h,ρ⟩) (λh=>a8.2 ⟨y,h,ρ⟩)
  gh:=λa o u=>by obtain⟨x,d,rfl⟩:=a8.1 o;rw[B x d] at u;obtain⟨y,i,e⟩:=a8.1 u;have:=inj y (t i) x (A d) e;subst this;exact C.gh y d i
  sym:=λa o b u h=>by obtain⟨x,d,rfl⟩:=a8.1 o;obtain⟨y,i,rfl⟩:=a8.1 u;rw[B x d] at h;obtain⟨z,hz,e⟩:=a8.1 h;have:=inj z (t hz) y (A i) e;subst this;rw[B z i];exact a8.2 ⟨x,C.sym x d z i hz,ρ⟩
  kd:=λa o b c s u=>by obtain⟨x,d,rfl⟩:=a8.1 o;have s':=s;rw[B x d] at s';obtain⟨n,m,rfl,rfl,G⟩:=s'.of_map;have I:=inR (t G.mem.1) u;exact (E I (t G.mem.2)<|A d).2 (C.kd x d n m G I)
  kM:=λa o b c s hc=>by obtain⟨x,d,rfl⟩:=a8.1 o;have s':=s;rw[B x d] at s';obtain⟨n,m,rfl,rfl,G⟩:=s'.of_map;have M:=inR (t G.mem.2) hc;exact (E M (A d)<|t G.mem.1).2 (C.kM x d n m G M)}
 have row:∀{w a:Ob}{l:List Ob},w∈walls bx->a∈os++walls bx->Row os (br<|os++walls bx) w a l->Row (os.map ν) ring' (ν w) (ν a) (l.map ν):=λ{w a l} hw o r=>by
  induction r with
  | stop I=>exact .stop λz=>I (inR o z)
  | @go a p l h s _ J=>exact .go (a8.2 ⟨a,h,ρ⟩) ((E h (t s.mem.1)<|F hw).2 s)<|J<|t s.mem.1
 have X:∀k x,x∈os++walls bx->x∈reach os (walls bx) (br<|os++walls bx) k->ν x∈reach (os.map ν) ((walls bx).map ν) ring' k:=by
  intro k;induction k with
  | zero=>exact λx _ d=>a8.2 ⟨x,d,ρ⟩
  | succ k J =>
   intro x hN d;rcases eH.1 d with d|d
   ·exact eH.2<|ι<|a8.2 ⟨x,d,ρ⟩
   obtain⟨P,K⟩:=hB.1 d;obtain⟨y,i,e⟩:=xr.1 K;refine eH.2<|τ<|hB.2 ⟨a8.2 ⟨x,P,ρ⟩,xr.2 ⟨ν y,?_,?_⟩⟩
   ·rw[B x P];exact a8.2 ⟨y,i,ρ⟩
   exact decide_eq_true<|J y (t i)<|of_decide_eq_true e
 have Q:∀{y:Ob},y∈os++walls bx->ax (os.map ν) (ν y)=ax os y:=λ{y} i=>by refine decide_eq_decide.2 ⟨inR i,λh=>a8.2 ⟨y,h,ρ⟩⟩
 have L:∀(f:β->Nat) (g:Ob->Nat),(∀x∈os,f (ν x)=g x)->aF f (os.map ν)=aF g os:=λf g h=>by
  have:∀l:List Ob,(∀x∈l,f (ν x)=g x)->aF f (l.map ν)=aF g l:=by
   intro l;induction l with
   | nil=>intro _;rfl
   | cons a l J=>intro h;show f (ν a)+aF f (l.map ν)=g a+aF g l;simp only[h a ⋯,J λx d=>h x (by simp[d])]
  exact this os h
 have Y:aF (λx=>(ring' x).countP (ax<|os.map ν)) (os.map ν)=aF (λx=>(br (os++walls bx) x).countP (ax os)) os:=L _ _ λx d=>by rw[B x d,ql];exact zc λy i=>by show ax (os.map ν) (ν y)=bd ↔ _;rw[Q (t i)]
 have Z:aF (λx=>(ring' x).countP λy=>!ax (os.map ν) y) (os.map ν)=aF (λx=>(br (os++walls bx) x).countP λy=>!ax os y) os:=L _ _ λx d=>by rw[B x d,ql];exact zc λy i=>by show (!ax (os.map ν) (ν y))=bd ↔ _;rw[Q (t i)]
 have a3:((corners (os.map ν) ring').countP λc=>!ax (os.map ν) c.2.1&&!ax (os.map ν) c.2.2)=4:=by
  rw[<-T.JO v nd];have pm:(corners (os.map ν) ring').Perm ((corners os<|br<|os++walls bx).map λc=>(ν c.1,ν c.2.1,ν c.2.2)):=by
   refine (lq (lP N)<|gd.2<|(lP C).imp_of_mem ?_).2 ?_
   ·rintro⟨x,n,m⟩ ⟨x',S,U⟩ h h' D e;obtain⟨d,s⟩:=fL.1 h;obtain⟨be,s'⟩:=fL.1 h';simp at e;exact D (by simp only[inj x (A d) x' (A be) e.1,inj n (t s.mem.1) S (t s'.mem.1) e.2.1,inj m (t s.mem.2) U (t s'.mem.2) e.2.2])
   rintro⟨a,b,c⟩;rw[fL];constructor
   ·rintro⟨o,s⟩;obtain⟨x,d,rfl⟩:=a8.1 o;rw[B x d] at s;obtain⟨n,m,rfl,rfl,G⟩:=s.of_map;exact a8.2 ⟨(x,n,m),fL.2 ⟨d,G⟩,ρ⟩
   intro h;obtain⟨⟨x,n,m⟩,K,e⟩:=a8.1 h;cases e;obtain⟨d,s⟩:=fL.1 K;exact⟨a8.2 ⟨x,d,ρ⟩,(E d (t s.mem.1)<|t s.mem.2).2 s⟩
  rw[pm.countP_eq,ql];apply zc;rintro⟨x,n,m⟩ h;obtain⟨d,s⟩:=fL.1 h;show (!ax (os.map ν) (ν n)&&!ax (os.map ν) (ν m))=bd ↔ _;rw[Q (t s.mem.1),Q<|t s.mem.2]
 have b1:=N.least O;have b2:=N.half O;have b3:=T.sums v nd;refine⟨N,?_,?_,?_,?_,?_⟩
 ·exact gd.2 ((iR.1 nd).2.1.imp_of_mem λo u D e=>D<|inj _ (F o) _ (F u) e)
 ·intro a o j k R H s;obtain⟨x,d,rfl⟩:=a8.1 o;have f:=(T.jW v d (gI bx j)<|gI bx k).1 ((T.eE v d nd (τ<|gI bx j)<|τ<|gI bx k).1 ((E d (F<|gI bx j)<|F<|gI bx k).1 s));have e0:wN bx=wall bx 0:=ρ;have V:wE bx=wall bx 1:=ρ;have W:wS bx=wall bx 2:=ρ;have e3:wW bx=wall bx 3:=ρ;rw[e0,V,W,e3] at f;rcases f with⟨p,q,_⟩|⟨p,q,_⟩|⟨p,q,_⟩|⟨p,q,_⟩
  ·rw[kg v R ⋯ p,kg v H ⋯ q]
  ·rw[kg v R ⋯ p,kg v H ⋯ q]
  ·rw[kg v R ⋯ p,kg v H ⋯ q]
  rw[kg v R ⋯ p,kg v H ⋯ q]
 ·intro k H;obtain⟨x,d,P,K,h3⟩:=T.first v nd H;obtain⟨l,r,n,e⟩:=T.row v nd H d P K;refine⟨ν x,a8.2 ⟨x,d,ρ⟩,λb u=>?_,l.map ν,row (gI bx k) (A d) r,gd.2 (n.imp_of_mem λo u D e'=>D<|inj _ (A ((e _).1 o).1) _ (A ((e _).1 u).1) e'),λb=>?_⟩
  ·obtain⟨y,i,rfl⟩:=a8.1 u;rw[E i (F<|gI bx k) (F<|gI bx _),h3 y i];exact⟨λh=>by rw[h],λh=>inj y (A i) x (A d) h⟩
  rw[a8];constructor
  ·rintro⟨y,i,rfl⟩;obtain⟨p,q⟩:=(e y).1 i;refine⟨a8.2 ⟨y,p,ρ⟩,?_⟩;rw[B y p];exact a8.2 ⟨_,(T.tied v p H).2 q,ρ⟩
  rintro⟨p,q⟩;obtain⟨y,i,rfl⟩:=a8.1 p;rw[B y i] at q;obtain⟨z,hz,ez⟩:=a8.1 q;have:=inj z (t hz) _ (F<|gI bx k) ez;subst this;exact⟨y,(e y).2 ⟨i,(T.tied v i H).1 hz⟩,ρ⟩
 ·intro a o;obtain⟨x,d,rfl⟩:=a8.1 o;rw[ab];exact X _ x (A d)<|T.all_reached v nd d
 rw[Y,Z,a3] at b1;rw[Y] at b2;rw[Z,ab];lia
end
def eY(os:List Ob):Prop:=∀p,(dc os).count p<=3
def O5(a b):dc (a++b)=dc a++dc b:=by exact aa2
theorem eY.perm{a b:List Ob}(h:eY a)(p:b.Perm a):eY b:=λq=>by have:(dc b).Perm (dc a):=p.flatMap_right _;rw[this.count_eq];exact h q
def eY.one(o)(h:o.ok):eY [o]:=λq=>by have e:dc [o]=cT o:=px _;rw[e];delta Ob.ok at h;simp only[cT,Zh,YY];split<;>split<;>split<;>split<;>lia
def eY.cut (h:eY (A++o::B))(k:∀p,(cT x).count p+(cT y).count p=(cT o).count p\/((dc (A++o::B)).count p=0/\(cT x).count p+(cT y).count p<=3)):eY (A++[x]++B++[y]):=λp=>by have h:=h p;have k:=k p;have e:∀l:List Ob,∀o,dc (o::l)=cT o++dc l:=λl o=>rfl;simp only[O5,aam,e,show dc []=[] from ρ,YY] at *;lia
def eY.HZ (h:eY (A++o::B))(ok:o.ok)(f:∀z∈A++o::B,z.l≠c/\z.r≠c):eY (A++[⟨o.l,o.b,c,o.t⟩]++B++[⟨c,o.b,o.r,o.t⟩]):=by
 refine h.cut λp=>?_;by_cases e:p.1=c
 ·right;refine⟨abf.2 λa=>?_,?_⟩
  ·obtain⟨z,hz,a⟩:=pw.1 a;have:=f z hz;simp only[cT,eW,Yy] at a;grind
  have:=f o ⋯;delta Ob.ok at ok;simp only[cT,Zh,YY,beq_iff_eq,Yy];grind
 left;simp only[cT,Zh,YY,beq_iff_eq];grind
def eY.OV (h:eY (A++o::B))(ok:o.ok)(f:∀z∈A++o::B,z.b≠c/\z.t≠c):eY (A++[⟨o.l,o.b,o.r,c⟩]++B++[⟨o.l,c,o.r,o.t⟩]):=by
 refine h.cut λp=>?_;by_cases e:p.2=c
 ·right;refine⟨abf.2 λa=>?_,?_⟩
  ·obtain⟨z,hz,a⟩:=pw.1 a;have:=f z hz;simp only[cT,eW,Yy] at a;grind
  have:=f o ⋯;delta Ob.ok at ok;simp only[cT,Zh,YY,beq_iff_eq];grind
 left;simp only[cT,Zh,YY,beq_iff_eq];grind
theorem eY.vM{os:List Ob}(W:Int)(h:eY os):eY (os.map λo=>⟨W-o.r,o.b,W-o.l,o.t⟩):=λp=>by
 have c:∀l:List (Int×Int),(l.map λq=>(W-q.1,q.2)).count p=l.count (W-p.1,p.2):=λl=>by rw[afs,ql,afs];refine zc λq _=>?_;show ((W-q.1,q.2)==p)=bd ↔ _;rw[beq_iff_eq,beq_iff_eq,Yy,Yy];exact and_congr (show W-q.1=p.1 ↔ q.1=W-p.1 by omega)<|Iff.refl _
 have e:(dc (os.map λo=>⟨W-o.r,o.b,W-o.l,o.t⟩)).count p=(dc os).count (W-p.1,p.2):=by
  rw[<-c];clear h;induction os with
  | nil=>rfl
  | cons o os a=>show (cT _++dc _).count p=((cT o++dc os).map _).count p;rw[ft,aam,aam,a];exact congrArg (·+_)<|(YM (l₁:=[(W-o.r,o.b),(W-o.r,o.t)]) (l₂:=[(W-o.l,o.b),(W-o.l,o.t)])).count_eq p
 rw[e];exact h _
section
noncomputable def top(i:Nat):Stmt:=PySem.Challenge.pw_roomtouch_k21_floors_looked_at.main.body.getD i<|.Pass ⟨0,0,0,0⟩
local macro_rules | `(tactic| walk_at "sc")=>`(tactic| exact⟨rfl,rfl,rfl,by decide +kernel,rfl,by decide +kernel,by decide +kernel⟩)
abbrev xo:Stmt:=top 8
def BI:bp ["wall"] ["wall"] (aV xo):=by walk_at "sc"
abbrev xn:Stmt:=top 9
def C6:bp ["thing"] ["thing"] (aV xn):=by walk_at "sc"
abbrev wR:Stmt:=top 10
def A2:bp ["thing"] ["thing"] (aV wR):=by walk_at "sc"
abbrev wH:Stmt:=top 11
def Bg:bp ["room","ring","names"] ["room","ring","names"] (aV wH):=by walk_at "sc"
abbrev yM:Stmt:=top 12
def EY:bp ["web","rooms","names"] ["web"] (aV yM):=by walk_at "sc"
abbrev yD:Stmt:=top 13
def A8:bp ["rings","room","name"] ["rings"] (aV yD):=by walk_at "sc"
abbrev wK:Stmt:=top 14
def Ga:bp ["rings","corners","room","ring","name","behind"] ["rings"] (aV wK):=by walk_at "sc"
abbrev y6:Stmt:=top 15
def Gn:bp ["corner","corners","room","name","behind"] ["corner","corners"] (aV y6):=by walk_at "sc"
abbrev zF:Stmt:=top 16
def Ff:bp ["rings","corners"] ["rings"] (aV zF):=by walk_at "sc"
abbrev zk:Stmt:=top 17
def ED:bp ["rings","wall","first","row","name","ring"] ["rings","wall","first"] (aV zk):=by walk_at "sc"
abbrev yz:Stmt:=top 18
def GN:bp ["rings","wall","corners","firsts","tied"] ["rings","wall"] (aV yz):=by walk_at "sc"
abbrev yF:Stmt:=top 19
def Ez:bp ["ring","names"] ["ring","names"] (aV yF):=by walk_at "sc"
abbrev wG:Stmt:=top 20
def Dc:bp ["rings","reached","turn"] ["rings"] (aV wG):=by walk_at "sc"
abbrev Ak:Stmt:=top 21
def Fv:bp ["rings","ties","room","name"] ["rings"] (aV Ak):=by walk_at "sc"
abbrev yJ:Stmt:=top 22
def AS:bp ["rings","threes","corner"] ["rings"] (aV yJ):=by walk_at "sc"
abbrev yo:Stmt:=top 23
def FQ:bp ["web","rings"] ["web"] (aV yo):=by walk_at "sc"
abbrev zW:Stmt:=top 26
def G4:bp ["thing"] ["thing"] (aV zW):=by walk_at "sc"
abbrev zr:Stmt:=top 27
def Dy:bp ["thing"] ["thing"] (aV zr):=by walk_at "sc"
abbrev Ae:Stmt:=top 28
def CQ:bp ["row"] ["row"] (aV Ae):=by walk_at "sc"
abbrev xE:Stmt:=top 29
def FU:bp ["row","other"] ["row","other"] (aV xE):=by walk_at "sc"
abbrev zA:Stmt:=top 30
def Ha:bp ["row","other"] ["row","other"] (aV zA):=by walk_at "sc"
abbrev vE:Stmt:=top 31
def A3:bp ["row","rows"] ["row","rows"] (aV vE):=by walk_at "sc"
abbrev xf:Stmt:=top 32
def AV:bp ["rows","whole"] ["rows"] (aV xf):=by walk_at "sc"
abbrev wz:Stmt:=top 33
def GR:bp ["floor","right","top"] ["floor"] (aV wz):=by walk_at "sc"
abbrev yw:Stmt:=top 34
def G3:bp ["row","other","width","height"] ["row","other"] (aV yw):=by walk_at "sc"
abbrev wq:Stmt:=top 35
def Gf:bp ["side","other"] ["side","other"] (aV wq):=by walk_at "sc"
abbrev vV:Stmt:=top 36
def C5:bp ["row","rows","found","side","there"] ["row","rows"] (aV vV):=by walk_at "sc"
abbrev zY:Stmt:=top 37
def AE:bp ["floor","rows","found","row"] ["floor"] (aV zY):=by walk_at "sc"
abbrev y9:Stmt:=top 38
def A6:bp ["touched"] ["touched"] (aV y9):=by walk_at "sc"
abbrev v7:Stmt:=top 40
def Ej:bp ["web","rows","rings","touched"] ["web","rows"] (aV v7):=by walk_at "sc"
abbrev yY:Stmt:=top 42
def FI:bp ["_law_cell","_law_k","_law_number"] ["_law_cell","_law_k"] (aV yY):=by walk_at "sc"
abbrev yW:Stmt:=top 43
def AL:bp ["_law_script","_law_cells","_law_number","_law_k"] ["_law_script"] (aV yW):=by walk_at "sc"
abbrev yV:Stmt:=top 44
def Fu:bp ["_law_purse_here","_law_out_of","_law_drawn"] ["_law_purse_here","_law_out_of"] (aV yV):=by walk_at "sc"
abbrev y0:Stmt:=top 45
def Ci:bp ["_law_purse_here","_law_many","_law_letters","_law_long","_law_stem","_law_at","_law_found","_law_k","_law_spots","_law_name"] ["_law_purse_here","_law_many"] (aV y0):=by walk_at "sc"
abbrev yL:Stmt:=top 46
def GA:bp ["_law_purse_here","_law_rows","_law_name","_law_at","_law_low","_law_room","_law_lines","_law_line","_law_lower","_law_upper"] ["_law_purse_here","_law_rows","_law_name"] (aV yL):=by walk_at "sc"
abbrev xa:Stmt:=top 47
def CV:bp ["_law_purse_here","_law_most","_law_names_here","_law_rows","_law_count","_law_k","_law_wide"] ["_law_purse_here","_law_most"] (aV xa):=by walk_at "sc"
abbrev yC:Stmt:=top 48
def Eh:bp ["_law_one","_law_other","_law_low"] ["_law_one","_law_other","_law_low"] (aV yC):=by walk_at "sc"
abbrev ze:Stmt:=top 49
def Ap:bp ["_law_rows","_law_one","_law_low","_law_way","_law_found","_law_other","_law_near"] ["_law_rows","_law_one","_law_low","_law_way"] (aV ze):=by walk_at "sc"
abbrev zu:Stmt:=top 50
def Eg:bp ["_law_rows","_law_one","_law_above","_law_right_here","_law_beneath","_law_left"] ["_law_rows","_law_one"] (aV zu):=by walk_at "sc"
abbrev zf:Stmt:=top 51
def GW:bp ["_law_rows"] ["_law_rows"] (aV zf):=by walk_at "sc"
abbrev wF:Stmt:=top 52
def A4:bp ["_law_purse_here","_law_web_here","_law_at","_law_found","_law_room","_law_row","_law_far"] ["_law_purse_here","_law_web_here"] (aV wF):=by walk_at "sc"
abbrev xy:Stmt:=top 53
def B3:bp ["_law_web_here","_law_found","_law_room","_law_row"] ["_law_web_here"] (aV xy):=by walk_at "sc"
abbrev wU:Stmt:=top 54
def Es:bp ["_law_rows","_law_wide","_law_high","_law_found","_law_one","_law_shuts","_law_line","_law_far","_law_name","_law_other","_law_up"] ["_law_rows"] (aV wU):=by walk_at "sc"
abbrev vF:Stmt:=top 55
def Bt:bp ["_law_web_here","_law_rows","_law_area","_law_one","_law_other"] ["_law_web_here","_law_rows"] (aV vF):=by walk_at "sc"
abbrev wd:Stmt:=top 56
def G6:bp ["_law_rows","_law_low","_law_line","_law_by","_law_found","_law_one","_law_new","_law_k"] ["_law_rows","_law_low","_law_line","_law_by"] (aV wd):=by walk_at "sc"
abbrev zy:Stmt:=top 57
def Fh:bp ["_law_purse_here","_law_rows","_law_at","_law_one","_law_low","_law_by","_law_kind","_law_other","_law_last","_law_high"] ["_law_purse_here","_law_rows"] (aV zy):=by walk_at "sc"
abbrev Aj:Stmt:=top 58
def Fw:bp ["_law_web_here","_law_rows","_law_handed","_law_kept","_law_found","_law_due"] ["_law_web_here","_law_rows"] (aV Aj):=by walk_at "sc"
abbrev yE:Stmt:=top 59
def EE:bp ["_law_script","_law_purse_here","_law_floor_here","_law_web_here","_law_k"] ["_law_script"] (aV yE):=by walk_at "sc"
structure Txt (mg:eS->Option cn):Prop where
 len:mg "len"=al
 int:mg "int"=al
 U2:mg "isinstance"=al
 sh:mg "range"=al
 min:mg "min"=al
 max:mg "max"=al
 all:mg "all"=al
 dict:mg "dict"=al
 sorted:mg "sorted"=al
 tuple:mg "tuple"=al
 list:mg "list"=al
 str:mg "str"=al
 bool:mg "bool"=al
end
section
variable{P:hY}{w:nR}{A:pA}{E:cn->cW->Prop}{s:cW}{X:Cx}{pos:y4}{e:hE}
theorem G2 {Q:cn->cW->Prop}{Fin:nL->Prop}(hl:s.heap.IsList l items)(O:∀(led:Bool) (R:acp->cW->Prop) (I:dk) (f:nL),f=((s.heap.push {cls:=.type "set",dict:=al,data:=.set #[] 0 (.fresh 0 0 led)}).push {cls:=.type "list_iterator",data:=.fields #[.ref l,.int 0 0]})->l≠I->s.heap.objs.size∉[I,l]->f.get? s.heap.objs.size=ac {cls:=.type "set",dict:=al,data:=.set #[] 0 (.fresh 0 0 led)}->f.IsList l items->(∃o,f.get? I=ac o/\o.cls=.type "list_iterator"/\o.data=.fields #[.ref l,.int 0 0]) ->
   (∀s',Moved [s.heap.objs.size,I] (λa b=>b=a) {s with heap:=f} s'->Fin s'.heap->R (.ok<|.ret .none) s')->ZV (hQ P w) A.in1.in1 (.builtin "set.update.loop" ⟨[.ref s.heap.objs.size,.ref I],[]⟩) R {s with heap:=f})(h:∀(h':nL) (tk:Nat),Fin h'->(∀b o,b<s.heap.objs.size->s.heap.get? b=ac o->h'.get? b=ac o)->Q (.ref s.heap.objs.size) {s with heap:=h',toks:=tk}) :
  g8 (hQ P w) A (call (.type "set") [.ref l]) Q E s:=by
 obtain⟨c,tl,hmro⟩:=P2.mro;have hmade:=PySem.F.called_set.made;have hsub:=P2.sub;refine wpAny_call<|codeAny_of_tree ?_;show g8 _ _ (callAny (.type "set") _) _ _ _;refine dr ⟨Code.quiet_builtin _ (by decide +kernel),y1 PySem.F.entry_type_call ?_⟩;rw[Around.under_plain (weight_type_call_type "set" [.ref l] []) ρ];have f:=P2.notType;have h2:=P2.canCreate;have hct:=PySem.F.typeCall_set_1<|.ref l
 repeat (any_goals (first|assumption|wp_step))
 refine ZF (code_set_new_1 (.ref l) (E:=E) (Q₁:=λobj g=>∃led:Bool,obj=.ref s.heap.objs.size/\g={s with heap:=s.heap.push {cls:=.type "set",dict:=al,data:=.set #[] 0 (.fresh 0 0 led)} }) λled=>⟨led,ρ,ρ⟩) λr g x=>?_;cases r with
 | error e=>exact x
 | ok fl =>
  cases fl with
  | ret obj =>
   obtain⟨led,rfl,rfl⟩:=x;have D:(s.heap.push {cls:=.type "set",dict:=al,data:=.set #[] 0 (.fresh 0 0 led)}).get? s.heap.objs.size=ac {cls:=.type "set",dict:=al,data:=.set #[] 0 (.fresh 0 0 led)}:=gj _ ρ;have S:Shared.TypeIs {s with heap:=s.heap.push {cls:=.type "set",dict:=al,data:=.set #[] 0 (.fresh 0 0 led)} } (.ref s.heap.objs.size) "set":=⟨_,D,ρ⟩;have hli:=P2.init.lookup;have hbi:=P2.init.bind<|.ref s.heap.objs.size
   repeat (any_goals (first|assumption|wp_step))
   refine ZF (codeAny_call_builtin (R:=wants (λr i=>r=.none/\∃h' tk,i={s with heap:=h',toks:=tk} /\
     Fin h' /\
     (∀b o,b<s.heap.objs.size->s.heap.get? b=ac o->h'.get? b=ac o)) E) P2.init.plain PySem.F.entry_set_init<|check_set_init_1 S ?_) λy i d=>?_
   ·obtain⟨T,q,t,nl,u⟩:=hl;obtain⟨ocls,m,odata,j⟩:=T;simp only at t u;subst t;subst u;have z:(s.heap.push {cls:=.type "set",dict:=al,data:=.set #[] 0 (.fresh 0 0 led)}).get? l=ac {cls:=.type "list",dict:=m,data:=.seq items nl,slots:=j}:=ee _ q;have hsls:=PySem.F.sub_list_set;have hslf:=PySem.F.sub_list_frozenset;have hne:(Zz "list" == Zz "dict")=bi:=by decide
    have v:(s.heap.push {cls:=.type "set",dict:=al,data:=.set #[] 0 (.fresh 0 0 led)}).IsList l items:=⟨_,z,ρ,nl,ρ⟩;unfold Yx.«set.__init__» noKeywords ad8;generalize G:adv=PI
    wp_walk
    subst G;refine Yn v<|bg<|afu ?_;have H:l<s.heap.objs.size:=fj q;have B:l≠(s.heap.push {cls:=.type "set",dict:=al,data:=.set #[] 0 (.fresh 0 0 led)}).objs.size:=by rw[Z7];exact hG<|Zw H
    have J:s.heap.objs.size∉[(s.heap.push {cls:=.type "set",dict:=al,data:=.set #[] 0 (.fresh 0 0 led)}).objs.size,l]:=by simp_all [Zv]
    have C:((s.heap.push {cls:=.type "set",dict:=al,data:=.set #[] 0 (.fresh 0 0 led)}).push {cls:=.type "list_iterator",data:=.fields #[.ref l,.int 0 0]}).get? s.heap.objs.size=ac {cls:=.type "set",dict:=al,data:=.set #[] 0 (.fresh 0 0 led)}:=ee _ D;refine O led _ _ _ ρ B J C (v.push _) ⟨_,gj _ ρ,ρ,ρ⟩ ?U;intro s' n k;obtain⟨h',g',d',K,L⟩:=s';have V:g'=s.gens:=n.gens;have W:d'=s.drawn:=n.drawn;have Y:L=s.os:=n.os;subst V;subst W;subst Y;show g8 _ _ _ _ _ _;refine dr ?_;show g8 _ _ (ret qe) _ _ _;refine dr ⟨ρ,h',K,ρ,k,λb o M e=>?_⟩;have hb1:b≠s.heap.objs.size:=hG M;have hb2:b≠(s.heap.push {cls:=.type "set",dict:=al,data:=.set #[] 0 (.fresh 0 0 led)}).objs.size:=by rw[Z7];exact hG<|Zw M
    refine n.heap b o ?_<|ee _<|ee _ e;simp_all
   cases y with
   | error e=>exact d
   | ok p =>
    cases p with
    | ret r =>
     obtain⟨rfl,h',tk,rfl,k,N⟩:=d
     repeat (any_goals (first|assumption|wp_step))
     exact h _ _ k N
    | _=>exact d.elim
  | _=>exact x.elim
theorem Rm(bs:List Bool):((gD bs.length).any λi=>(bs[i]?).getD false)=bs.any id:=by
 induction bs with
 | nil=>rfl
 | cons b r a=>simp only[gW,acI,abx,Zg,<-a];rfl
def Ie(g:X.calm=bd):bM X (.builtin "any") (λxs H Q=>∃(p:dk) (bs:List Bool),xs=[.ref p]/\Rd H p (.L<|bs.map V.bl)/\Q (.bl<|bs.any id) H):=by
 intro pins s σ H xs us Q I r h;obtain⟨p,bs,rfl,j,q⟩:=h;obtain⟨u,rfl,k⟩:=r.one;subst k;obtain⟨z,its,n,l,e⟩:=j.ok I.au;have c:=zl l;subst c;have d:s.heap.IsList p (bs.map H9).toArray:=⟨_,e,ρ,n,ρ⟩;have m:p<s.heap.objs.size:=fj e;refine call_any_walk (Yn d ⟨s.heap.objs.size,[s.heap.objs.size,p],[s.heap.objs.size],(bs.map H9).toArray.size,_,_,λi=>(bs[i]?).getD false,ρ,
  Walks.list (A:=X.A.in1) (I.ok.hd g) _ p (hG m) (bs.map H9).toArray,⟨⟨_,gj _ ρ,ρ,ρ⟩,d.push _⟩,λi v s' Q' E' a f=>?_,λh' tk o=>?_⟩)
 ·have a:(bs.map H9)[i]?=ac v:=by simpa using a
  rw[c6] at a;obtain⟨b,c,a⟩:=oM a;obtain rfl:=sO a;simp[c] at f;exact Ym f
 have t:(gD (bs.map H9).toArray.size).any (λi=>(bs[i]?).getD false)=bs.any id:=by simp[Rm]
 rw[t];refine⟨.bl _,H,?_,ρ,q⟩;exact I.kept λb x ex=>o b x (λy=>by rw[kA.1 y] at ex;exact uz _<|fj ex)<|ee _ ex
theorem ints_get:∀{ns:List Int}{its:List cn}{i:Nat}{v:cn},aJ (ns.map V.int) its->its[i]?=ac v->∃t,v=.int ((ns[i]?).getD 0) t
 | [],_,i,v,h,e=>by cases h;simp at e
 | n::ns,_,0,v,h,e=>by
  cases h with
  | cons r t=>obtain⟨tk,rfl⟩:=r;simp at e;exact⟨tk,e.symm⟩
 | n::ns,_,i+1,v,h,e=>by
  cases h with
  | cons r t=>have:=ints_get (i:=i) (v:=v) t (by simpa using e);simpa using this
theorem Gy:∀{ns:List eS}{its:List cn}{i:Nat}{v:cn},aJ (ns.map V.str) its->its[i]?=ac v->∃t,v=.str ((ns[i]?).getD YK) t
 | [],_,i,v,h,e=>by cases h;simp at e
 | n::ns,_,0,v,h,e=>by
  cases h with
  | cons r t=>obtain⟨tk,rfl⟩:=r;simp at e;exact⟨tk,e.symm⟩
 | n::ns,_,i+1,v,h,e=>by
  cases h with
  | cons r t=>have:=Gy (i:=i) (v:=v) t (by simpa using e);simpa using this
theorem Bz(ns:List Int):∀k,k<=ns.length->preSum (λi=>(ns[i]?).getD 0) k=(ns.take k).sum
 | 0,_=>by simp[preSum]
 | k+1,h=>by
  show preSum _ k+_=_;simp only[Bz ns k (by omega),acg,ZM]
  congr 1;have:k<ns.length:=by omega
  simp[bt this]
def UQ(k:X.calm=bd):bM X (.builtin "sum") (λxs H Q=>∃(p:dk) (ns:List Int),xs=[.ref p]/\Rd H p (.L<|ns.map V.int)/\Q (.int ns.sum) H):=by
 intro pins s σ H xs us Q I r h;obtain⟨p,ns,rfl,l,q⟩:=h;obtain⟨u,rfl,m⟩:=r.one;subst m;obtain⟨z,its,n,c,e⟩:=l.ok I.au;have d:s.heap.IsList p its.toArray:=⟨_,e,ρ,n,ρ⟩;have f:=fj e;have g:its.length=ns.length:=by have:=c.length;simpa using this.symm
 refine call_sum_walkAnyS (Yn d ⟨s.heap.objs.size,[s.heap.objs.size,p],[s.heap.objs.size],_,its.toArray.size,_,_,λi=>(ns[i]?).getD 0,ρ,
  (Walks.list (A:=X.A.in1) (I.ok.hd k) _ p (hG f) its.toArray).toS,⟨⟨_,gj _ ρ,ρ,ρ⟩,d.push _⟩,λb j=>?_,λi v o=>ints_get c (by simpa using o),λs' t' a=>?_⟩)
 ·rw[Z7];simp at j;rcases j with rfl|rfl
  ·exact Y5 _
  exact Zw f
 simp only[show its.toArray.size=ns.length from by simpa using g,Bz ns _<|eK _,nk];obtain⟨t,h2,h3,h4,h5⟩:=a;have y:s'={s with heap:=s'.heap,toks:=s'.toks}:=by
  cases s';simp_all
 rw[y];refine⟨.int _,H,?_,⟨_,ρ⟩,q⟩;exact I.kept λb x ex=>t b x (λa=>by rw[kA.1 a] at ex;exact uz _<|fj ex)<|ee _ ex
noncomputable def fA(ns:List Int):Int:=(ns[argBest (λi j=>am<|(ns[i]?).getD 0>(ns[j]?).getD 0) (ns.length-1)]?).getD 0
noncomputable def MP(ns:List eS):Str:=(ns[argBest (λi j=>am<|((ns[i]?).getD YK).cps.toList<((ns[j]?).getD YK).cps.toList) (ns.length-1)]?).getD YK
theorem Mv{its:List cn}{s:cW}{p:dk}(c:p<s.heap.objs.size){o:z5}:∀b∈[s.heap.objs.size,p],b<(s.heap.push o).objs.size:=fun b a=>by
 rw[Z7];simp at a;rcases a with rfl|rfl
 ·exact Y5 _
 exact Zw c
theorem K2(k:X.calm=bd):bM X (.builtin "max") (fun xs H Q=>∃(p:dk) (ns:List Int),xs=[.ref p]/\Rd H p (.L<|ns.map V.int)/\ns≠[]/\Q (.int<|fA ns) H):=by
 intro pins s σ H xs us Q I r h;obtain⟨p,ns,rfl,l,d,q⟩:=h;obtain⟨u,rfl,m⟩:=r.one;subst m;obtain⟨z,its,n,a,e⟩:=l.ok I.au;have f:s.heap.IsList p its.toArray:=⟨_,e,ρ,n,ρ⟩;have g:=fj e;have j:its.length=ns.length:=by have:=a.length;simpa using this.symm
 have h0:0<ns.length:=oy.2 d;refine call_max_walk (Yn f ⟨s.heap.objs.size,[s.heap.objs.size,p],[s.heap.objs.size],its.toArray.size,_,_,_,ρ,
  Walks.list (A:=X.A.in1) (I.ok.hd k) _ p (hG g) its.toArray,⟨⟨_,gj _ ρ,ρ,ρ⟩,f.push _⟩,Mv (its:=its) g,by rw[gs];lia,CmpOf.ints_gt (fun i=>(ns[i]?).getD 0) (fun i v c=>ints_get a (by simpa using c)),fun v h' tk c o=>?_⟩)
 obtain⟨t,rfl⟩:=ints_get a (show its[_]?=ac v by simpa using c);refine⟨.int<|fA ns,H,?_,⟨t,?_⟩,q⟩
 ·exact I.kept fun b x ex=>o b x (fun y=>by rw[kA.1 y] at ex;exact uz _<|fj ex)<|ee _ ex
 rw[j];rfl
noncomputable def kF:List Dat->Option (List Int)
 | []=>ac []
 | .int x::r=>(kF r).map (x::·)
 | _::_=>al
theorem zt{K:f'}{H:Hp}:∀{ds:List Dat}{vs:List V}{ys:List Int},kF ds=ac ys->ay K H ds vs->vs=ys.map V.int
 | [],_,_,e,r=>by obtain rfl:=sO e;exact r
 | d::ds,_,_,e,a=>by
  obtain⟨v,vr,b,c,rs⟩:=a;cases d with
  | int x=>obtain⟨ys',f,e⟩:=oM e;obtain rfl:=sO e;simp only[b,zt f rs];subst c;rfl
  | _=>exact nO e
def rD:List Dat->Option Res
 | [.L ds]=>(je ds).map λbs=>.D (.bl<|bs.any id)
 | _=>al
def uS:List Dat->Option Res
 | [.L ds]=>(kF ds).map λns=>.D (.int ns.sum)
 | _=>al
def ui:List Dat->Option Res
 | [.L ds]=>(kF ds).bind λns=>if ns=[] then al else ac (.D<|.int<|fA ns)
 | _=>al
def LV (a:X.calm=bd)(b:Gl X "any")(c:X.mg "any"=al)(d:bA X e [])(f:DA X [e] fa):DE X (.Call (.Name "any" p) [e] [] pos) (bO rD fa):=gB (Ie a) (by
  intro H0 ps Z σ H c vs ds o Q e S r k;delta rD at e;split at e
  ·obtain⟨bs,d,e⟩:=oM e;obtain rfl:=sO e;obtain⟨v,vr,rfl,⟨a,ws,rfl,b,rs⟩,f⟩:=r;subst f;rw[vZ d rs] at b;exact⟨a,bs,ρ,Rd.mono S.sub b,k _ H c S (aj.refl _) ρ⟩
  exact nO e) b c (by decide +kernel) f ⋯ ρ d ρ
def Ru (a:X.calm=bd)(b:Gl X "sum")(c:X.mg "sum"=al)(d:bA X e [])(f:DA X [e] fa):DE X (.Call (.Name "sum" p) [e] [] pos) (bO uS fa):=gB (UQ a) (by
  intro H0 ps Z σ H c vs ds o Q e S r k;unfold uS at e;split at e
  ·rename_i ds';obtain⟨ns,d,e⟩:=oM e;obtain rfl:=sO e;obtain⟨v,vr,rfl,⟨a,ws,rfl,b,rs⟩,f⟩:=r;subst f;rw[zt d rs] at b;exact⟨a,ns,ρ,Rd.mono S.sub b,k _ H c S (aj.refl _) ρ⟩
  exact nO e) b c (by decide +kernel) f ⋯ ⋯ d ρ
def O1 (a:X.calm=bd)(b:Gl X "max")(c:X.mg "max"=al)(d:bA X e [])(f:DA X [e] fa):DE X (.Call (.Name "max" p) [e] [] pos) (bO ui fa):=gB (K2 a) (by
  intro H0 ps Z σ H d vs ds o Q e S r k;delta ui at e;split at e
  ·obtain⟨ns,f,e⟩:=oA e;have e:=e;split at e
   ·exact nO e
   rename_i b;obtain rfl:=sO e;obtain⟨v,vr,rfl,⟨a,ws,rfl,c,rs⟩,g⟩:=r;subst g;rw[zt f rs] at c;exact⟨a,ns,ρ,Rd.mono S.sub c,b,k _ H d S (aj.refl _) ρ⟩
  exact nO e) b c (by decide +kernel) f ⋯ ρ d ρ
noncomputable def ltI(fs:List Int)(i j:Nat):Bool:=am<|fs.getD i 0<fs.getD j 0
def LX (nd:fs.Nodup):Ord (ltI fs) fs.length where
 trans:=λi j k c a=>decide_eq_true<|Int.lt_trans (of_decide_eq_true c)<|of_decide_eq_true a
 total:=λi j d f b=>by
  delta ltI;rw[fh d,fh f];by_cases h:fs[i]<fs[j]
  ·exact ι<|decide_eq_true h
  refine τ (decide_eq_true ?_);by_cases a:fs[j]<fs[i]
  ·exact a
  have e:fs[i]=fs[j]:=by lia
  exact absurd ((z9 nd).1 e) b
 gh:=λi=>decide_eq_false<|Int.lt_irrefl _
def oH(K:f')(H:Hp)(vs:List V)(fs:List Int):Prop:=vs.length=fs.length/\∀(i:Nat) (f:Int),fs[i]?=ac f->∃a b,vs[i]?=ac (.ref a)/\ba K H a b/\b[0]?=ac (.int f)
def IG(fs:List Int)(vs out:List V):Prop:=∃q:Array Nat,da q vs.length/\eZ (ltI fs) q vs.length/\out=q.toList.map λi=>vs.getD i .aQ
def Ax(K:f'):List V->Hp->VK->Prop:=λxs H Q=>∃p vs fs,xs=[.ref p]/\Rd H p (.L vs)/\oH K H vs fs/\fs.Nodup/\vs.length<64/\∀out,IG fs vs out->∀l,H l=al->Q (.ref l) (upd H l<|.L out)
theorem vD (I:Inv X j q H s):∀{fs:List Int}{vs:List V}{its:List cn},oH X.K H vs fs->aJ vs its ->
  ∃c:List cn,aaM s.heap its c/\c.length=fs.length/\(∀v∈c,∃x t,v=ZW x t)/\∀(i:Nat) (f:Int),fs[i]?=ac f->∃a o xs n t,its[i]?=ac (.ref a)/\s.heap.get? a=ac o/\o.data=.seq xs n/\xs[0]?=ac (ZW f t)
 | [],[],_,h,r=>by
  cases r;exact⟨[],.nil,ρ,λv k=>by simp at k,λi f e=>by simp at e⟩
 | [],_::_,_,h,_=>by simp[oH] at h
 | _::_,[],_,h,_=>by simp[oH] at h
 | f::fs,v::vs,_,h,r=>by
  cases r with
  | cons y rs =>
   obtain⟨a,ws,B,C,D⟩:=h.2 0 f ρ;obtain rfl:=sO B;subst y;have h':oH X.K H vs fs:=⟨by simpa using h.1,λi g e=>by
    obtain⟨b,us,l,m,F⟩:=h.2 (i+1) g (by simpa using e)
    exact⟨b,us,by simpa using l,m,F⟩⟩
   obtain⟨c,G,J,L,M⟩:=vD I h' rs;obtain⟨its,N,⟨o,p,O,n,hd⟩,_⟩:=I.tuple C;obtain⟨u,Q,R⟩:=N.get D;obtain⟨t,rfl⟩:=R;have d:its.toArray[0]?=ac (ZW f t):=by simpa using Q
   refine⟨ZW f t::c,.cons p O hd d G,by simp[J],λv k=>?_,λi g e=>?_⟩
   ·rcases eW.1 k with z|z
    ·exact⟨f,t,z⟩
    exact L v z
   cases i with
   | zero=>simp at e;subst e;exact⟨a,o,_,n,t,ρ,p,hd,d⟩
   | succ i=>obtain⟨b,S,xs,T,t',l,m⟩:=M i g (by simpa using e);exact⟨b,S,xs,T,t',by simpa using l,m⟩
theorem ME(G:X.ex=[]):bM X (.builtin "sorted") (Ax X.K):=by
 intro pins s σ H xs us Q I r h;obtain⟨p,vs,fs,rfl,S,c,nd,J,q⟩:=h;obtain⟨u,rfl,U⟩:=r.one;subst U;refine yT G (T:=.type "int") I S J (by rw[c.1];exact LX nd) ⋯ (λits B=>?_) (λits B i j D F L h' n C hC=>?_) q
 ·obtain⟨V,Y,Z,ks,_⟩:=vD I c B;refine⟨V,Y,by rw[Z];exact c.1.symm,λv hv h=>?_⟩;obtain⟨x,t,rfl⟩:=ks v hv;exact abC ρ
 obtain⟨_,_,_,_,y⟩:=vD I c B;rw[c.1] at D F;obtain⟨a,o,xs,n1,t1,a1,a2,M,d⟩:=y i _<|bt D;obtain⟨b,o',ys,n2,t2,b1,b2,N,f⟩:=y j _<|bt F;have ea:its.getD i qe=.ref a:=by rw[lD,a1];rfl
 have eb:its.getD j qe=.ref b:=by rw[lD,b1];rfl
 rw[ea,eb];apply ae4 (n _ _ _ _ M a2) M (n _ _ _ _ N b2) N;obtain⟨g,k,ex⟩:∃g k,xs.toList=g::k:=by
  cases hx:xs.toList with
  | nil=>rw[<-gi,hx] at d;exact nO d
  | cons g k=>exact⟨g,k,ρ⟩
 obtain⟨l,m,O⟩:∃l m,ys.toList=l::m:=by
  cases hy:ys.toList with
  | nil=>rw[<-gi,hy] at f;exact nO f
  | cons l m=>exact⟨l,m,ρ⟩
 rw[<-gi,ex] at d;rw[<-gi,O] at f;obtain rfl:=sO d;obtain rfl:=sO f;simp only[ex,O];have R:fs[i]≠fs[j]:=λz=>L<|(z9 nd).1 z;refine ad6<|aeU ?_;simp[beq_eq_false_iff_ne.2 R];refine ae3<|oneLt_int ?_;have:ltI fs i j=am (fs[i]<fs[j]):=by unfold ltI;rw[fh D,fh F]
 simp_all
noncomputable def pF:Dat->Option Int
 | .U (.int x::_)=>ac x
 | _=>al
noncomputable def firstsI:List Dat->Option (List Int)
 | []=>ac []
 | d::r=>(pF d).bind λx=>(firstsI r).map (x::·)
def iL(d:Dat):Int:=(pF d).getD 0
def fO(a b:Dat):Bool:=am<|iL a<=iL b
def uH(ds:List Dat):List Dat:=ds.mergeSort fO
theorem Ee:∀{ds:List Dat}{fs:List Int},firstsI ds=ac fs->fs=ds.map iL/\∀d∈ds,∃x,pF d=ac x
 | [],_,e=>by obtain rfl:=sO e;exact⟨ρ,λd h=>by simp at h⟩
 | d::r,_,e=>by obtain⟨x,e1,e⟩:=oA e;obtain⟨ys,a,e⟩:=oM e;obtain rfl:=sO e;obtain⟨h1,h2⟩:=Ee a;simp_all [iL]
theorem Fs{K:f'}{H b:Hp}(s:aj b H):∀{ds:List Dat}{vs:List V}{fs:List Int},firstsI ds=ac fs->ay K b ds vs->oH K H vs fs
 | [],_,_,e,r=>by obtain rfl:=sO e;rw[show _=[] from r];exact⟨ρ,λi f e=>by simp at e⟩
 | d::ds,_,_,e,c=>by
  obtain⟨v,vr,j,k,rs⟩:=c;have e:(pF d).bind (λx=>(firstsI ds).map (x::·))=ac _:=e;obtain⟨x,a,e⟩:=oA e;obtain⟨ys,l,e⟩:=oM e;obtain rfl:=sO e;obtain⟨m,h2⟩:=Fs s l rs;simp only[j];refine⟨by simp[m],λi f g=>?_⟩;cases i with
  | zero =>
   simp at g;subst g;unfold pF at a;split at a
   ·obtain rfl:=sO a;obtain⟨p,n,rfl,o,w1,wr,q,h,_⟩:=k;subst h;exact⟨p,n,ρ,ba.mono s o,by rw[q];rfl⟩
   exact nO a
  | succ i=>simp_all
def P9 (nd:(ds.map iL).Nodup)(P:da q ds.length)(U:eZ (ltI<|ds.map iL) q ds.length):(q.toList.map λi=>ds.getD i .aQ)=uH ds:=by
 have pm:(q.toList.map λi=>ds.getD i .aQ).Perm ds:=by have:=P.pm.map<|λi=>ds.getD i .aQ;rwa[yN] at this
 have m:∀i,i<ds.length->iL (ds.getD i .aQ)=(ds.map iL).getD i 0:=λi c=>by rw[fh c,fh (by simpa using c)];simp
 have g:(q.toList.map λi=>ds.getD i .aQ).Pairwise (λa b=>fO a b=bd/\a∈ds/\b∈ds):=by
  rw[pq];intro i j c d n;have o:i<ds.length:=by rw[<-P.size];simpa using c
  have f:j<ds.length:=by rw[<-P.size];simpa using d
  refine⟨?_,pm.mem_iff.1<|z8 _,pm.mem_iff.1<|z8 _⟩;have u:=U i j n f;have r:q.toList[i]'(by simpa using c)=q.getD i 0:=by simp only[nS,ia (by simpa using c)];simp
  have t:q.toList[j]'(by simpa using d)=q.getD j 0:=by simp only[nS,ia (by simpa using d)];simp
  simp only[Ts,r,t];unfold fO;simp only[m _ (P.lt i o),m _<|P.lt j f];unfold ltI at u;exact decide_eq_true<|Int.le_of_lt<|of_decide_eq_true u
 have k:(uH ds).Pairwise (λa b=>fO a b=bd/\a∈ds/\b∈ds):=by
  refine YQ (λv x p=>⟨p,?_,?_⟩) (ub (le:=fO) (λa b c h1 h2=>by
    delta fO at *;simp at *
    lia) (λa b=>by
      unfold fO
      lia) ds)
  ·exact (gk ds fO).mem_iff.1 v
  exact (gk ds fO).mem_iff.1 x
 refine nr (λa b l y=>?_) (pm.trans (gk ds fO).symm) g k;have e:=aca (of_decide_eq_true l.1)<|of_decide_eq_true y.1;obtain⟨i,c,z⟩:=kx l.2.1;obtain⟨j,d,B⟩:=kx l.2.2;have C:(ds.map iL)[i]'(by simpa using c)=(ds.map iL)[j]'(by simpa using d):=by simp[z,B,e]
 have e3:=(z9 nd).1 C;simp_all
def oF:List Dat->Option Res
 | [.L ds]=>(firstsI ds).bind λfs=>if fs.Nodup/\ds.length<64 then ac (.O<|.L<|uH ds) else al
 | _=>al
def zx (a:X.ex=[])(b:Gl X "sorted")(c:X.mg "sorted"=al)(d:bA X e [])(f:DA X [e] fa):DE X (.Call (.Name "sorted" p) [e] [] pos) (bO oF fa) :=
 gB (ME a) (by
   intro H0 ps Z σ H g vs ds o Q a S r k;delta oF at a;split at a
   ·obtain⟨fs,c,a⟩:=oA a;split at a
    ·rename_i hz;obtain rfl:=sO a;obtain⟨v,vr,rfl,⟨p,h,rfl,j,rs⟩,m⟩:=r;subst m;have b:=rs.length;refine⟨p,h,fs,ρ,Rd.mono S.sub j,Fs S.sub c rs,hz.1,by rw[b];exact hz.2,λout g l hl=>?_⟩;obtain⟨q,P,U,n⟩:=g;obtain⟨d,_⟩:=Ee c;subst d;simp[b] at P U;have t:=P9 hz.1 P U;subst n;have f:=ay.pick rs q.toList (λi u=>by rw[b];exact mC P i u);rw[t] at f;exact k (.ref l) _ g (S.made hl) (aj.refl _) ⟨l,ρ,⟨_,bb,f,S.cX hl⟩,(S.bz hl).2,(S.bz hl).1,S.dA hl⟩
    exact nO a
   exact nO a) b c (by decide +kernel) f ⋯ rfl d rfl
end
section
variable{X:Cx}
def LH (g:X.A.units+65<u2)(b:Zp o "index" X.env (eval o X.env)=eval o X.env)(d:nI X pos e)(c:(a.endLine==pos.line)=bd)(hs:bA X e [])(h:DD X o f)(i:DA X [e] fa):DD X (.Call (.Attribute o "index" a) [e] [] pos) (rA f fa) :=
 NP h i (λj k=>rZ aah acZ PySem.F.type_list_index (Km g) j k b d c hs ρ)
def ET:V->List V->Hp->VK->Prop:=λx vs H Q=>∃l b xs zs,x=.ref l/\vs=[.ref b]/\H l=ac (.L xs)/\Rd H b (.L zs)/\xs.length+zs.length<=cA/\Q .aQ (upd H l<|.L<|xs++zs)
noncomputable def uj:Dat->List Dat->Option (Dat×Dat)
 | .L xs,[.L zs]=>if xs.length+zs.length<=cA then ac (.aQ,.L<|xs++zs) else al
 | _,_=>al
def QD{K:f'}:MD K "list" ET uj:=by
 intro H Hi p c ds vs d c' Q e sm g r k;unfold uj at e;split at e
 ·split at e
  ·rename_i hz;obtain⟨rfl,rfl⟩:=sP e;obtain⟨h,i,a,j⟩:=g;obtain⟨v,vr,rfl,⟨b,us,rfl,l,f⟩,m⟩:=r;subst m;exact⟨p,b,h,us,ρ,ρ,i,Rd.mono sm l,by rw[a.length,f.length];exact hz,k .aQ _ ⟨_,bb,ay.append a f,j⟩ ρ⟩
  exact nO e
 exact nO e
def Um (j:X.N.findIdx? (·==x)=ac i)(k:cx X.env.scope x)(hd:bP x)(l:cY x)(d:Zp (.Name x b) "extend" X.env (eval (.Name x b) X.env)=eval (.Name x b) X.env)(g:nI X pos e)(f:(a.endLine==pos.line)=bd)(hs:bA X e [])(m:HT (.Call (.Attribute (.Name x b) "extend" a) [e] [] pos) al c.line X.env=pure false)(n:DA X [e] fa) :
  cK X (.Expr (.Call (.Attribute (.Name x b) "extend" a) [e] [] pos) c) (lS<|hV i uj fa) :=
 yy (FV i (eA j) k (λh=>rZ aah acM PySem.F.type_list_extend (by
   intro pins s σ H x vs v us Q I g i h;obtain⟨l,b,xs,zs,rfl,rfl,d,j,hz,q⟩:=h;subst g;obtain⟨u,rfl,k⟩:=i.one;subst k;obtain⟨z,its,n,r,hl,e⟩:=I.Cm d;obtain⟨z2,a,m,f,o⟩:=j.ok I.au;have l2:=f.length;have hsz:its.toArray.size+a.toArray.size<=sizeLine:=by rw[gs,gs];lia
   have c:¬(!its.toArray.isEmpty&&YR (its.toArray.size+a.toArray.size))=bd:=by rw[Ur hsz,Ys];exact Zk
   refine aaX acM ⟨_,e,ρ⟩ F.entry_list_extend (F.args_list_extend_2 _ _)
    (AutoSeq1.list_extend_list_list_0 l its.toArray n b a.toArray m c (by rw[gs];lia) (by lia)) ⟨e,o,?_⟩
   refine⟨.aQ,_,I.E2 (its':=its++a) d e ⋯ (r.append f) ?_,ρ,q⟩
   rw[eu];omega) (fH (eA j) k hd l) h d g f hs ρ) QD n) m
noncomputable def qE(c:BF)(f g:EF):EF:=λZ=>(c Z).bind λp=>if p.1=bd then f p.2 else g p.2
theorem HR (x:DT X c fc)(y:DE X a f)(z:DE X b g):DE X (.IfExp c a b pos) (qE fc f g):=by
 obtain⟨tc,A,B⟩:=x;obtain⟨ta,C,D⟩:=y;obtain⟨tb,E,F⟩:=z;refine⟨_,Nq A C E,λi j Z l H G r q Q d S k=>?_⟩;unfold qE at d;obtain⟨s,Z1,I,d⟩:=oB d;dsimp only at d;refine B i j Z l H G s Z1 _ I S λt h u w=>?_;cases s with
 | true=>rw[if_pos ρ] at d ⊢;exact D i j Z1 l t h r q Q d u λv m e n o p=>k v m e n (w.trans o) p
 | false=>rw[if_neg ⋯] at d ⊢;exact F i j Z1 l t h r q Q d u λv m e n o p=>k v m e n (w.trans o) p
noncomputable def Bk:EF:=λZ=>ac (.O<|.bC [],Z)
def IU:DE X (.Dict [] [] pos) Bk:=by refine⟨_,JI,λH0 ps Z σ H a r Z' Q b S k=>?_⟩;obtain⟨rfl,rfl⟩:=sP b;exact λl hl=>k (.ref l) _ a (S.made hl) (aj.refl _) ⟨l,ρ,⟨_,bb,ρ,S.cX hl⟩,(S.bz hl).2,(S.bz hl).1,S.dA hl⟩
def Dp(d:dk)(o:z5)(kvs:List (Key×V)):It:=⟨λi H=>H d=ac (.bq o<|.dK kvs)/\i<kvs.length,λi H v a=>a=H/\∃k x,kvs[i]?=ac (k,x)/\v=kV k,λi H=>H d=ac (.bq o<|.dK kvs)/\kvs.length<=i⟩
def Tu (h:jA k u=bd):RelV (kV k) u:=by
 rcases iU h with⟨i,t,rfl,rfl⟩|⟨x,t,rfl,rfl⟩
 ·exact⟨t,ρ⟩
 exact⟨t,ρ⟩
def PK{P:hY}{w:nR}{K:f'}{J:hE}{d it:dk}{o:z5}{kvs:List (Key×V)}{vs:List (Key×cn)}{ep:Nat}(p:KV kvs vs)(hne:d≠it)(hA:∀h:nL,h.get? d=ac o->h.DictAt (cJ P w) d vs ep) :
  Turn P w K J (Dp d o kvs) [it] it (λi h=>h.IsKeyIter it d i vs.length ep) where
 mem:=by simp
 obj:=λi h st b a=>by
  have e:b=it:=by simpa using a
  subst e;obtain⟨o,e,c,d⟩:=st;exact⟨o,e,λv z=>by rw[d] at z;contradiction⟩
 keep:=λi h h' st k=>by obtain⟨o,e,c,d⟩:=st;exact⟨o,k it (by simp) o e,c,d⟩
 item:=by
  intro X q hw r F i f s G H E I j st t;subst q hw r;obtain⟨u,x,L,y,A,B⟩:=j it (by simp);obtain⟨hd,g⟩:=t;have C:=hA s.heap (I.au d _ hd).1;have m:i<vs.length:=by rw[<-p.length];exact g
  have M:=bt m;refine wpAny_pyNext_dict_item st C M λkey h' D n N=>?_;have O:Inv X f G H {s with heap:=h',toks:=s.toks}:=I.turned (λb o a e=>(N.2 b a).trans e) u x y A B;obtain⟨o',e,c,dd⟩:=id n;have Q:kvs[i].1=vs[i].1:=by have:=congrArg (λl=>l[i]?) p.keys;simp only[c6,bt g,bt m] at this;exact Option.some.inj this
  exact⟨_,ρ,pM e c dd ρ ⟨kV kvs[i].1,H,O,by rw[Q];exact Tu D,⟨ρ,kvs[i].1,kvs[i].2,bt g,ρ⟩,n,λb a=>(j b a).1⟩⟩
 done:=by intro X q hw r F i f s G H E I j st t;subst q hw r;obtain⟨u,x,L,y,A,B⟩:=j it (by simp);obtain⟨hd,g⟩:=t;have C:=hA s.heap (I.au d _ hd).1;exact wpAny_pyNext_dict_end (I.ok.hd F) st C (acT (by rw[<-p.length];exact g)) λh' R=>⟨ρ,I.turned (λb o a e=>R b o a e) u x y A B⟩
 self:=λ_ _ _ _ _ st h=>ad0 st h
def Inv.bq (I:Inv X f h H s)(e:H d=ac (.dK kvs))(j:s.heap.get? d=ac o):Inv X f h (upd H d<|.bq o<|.dK kvs) s:=by
  have g:∀b u,H b=ac u->u≠.dK kvs->b≠d:=by lia
  have un:Un X.fs [] H (upd H d<|.bq o<|.dK kvs) s.heap s.heap :=
    ⟨λb a q _ _ _=>q,λb a q _ _ _=>⟨a.slots,q⟩,λb a q n _=>by rw[aA (λz=>by simp_all)];exact n,λb a q _=>⟨a,q⟩,
     λb xs q=>by rw[aA (g b _ q ⋯)];exact q,λb a u q=>by rw[aA (g b _ q ⋯)];exact q,λb ps q=>⟨#[],by rw[aA (g b _ q ⋯),q];simp⟩⟩
  have st:∀b u,cF X.prog X.w H s.heap b u->cF X.prog X.w (upd H d<|.bq o<|.dK kvs) s.heap b u:=λb u x =>
    x.gp (λc v _ q=>q) (λc q=>by rw[aA (g c _ q ⋯)];exact q) λc xs q=>by rw[aA (g c _ q ⋯)];exact q
  have au:cb X.prog X.w (upd H d<|.bq o<|.dK kvs) s.heap:=λb u q=>by
    by_cases i:b=d
    · subst i;rw[bb] at q;obtain rfl:=sO q;exact⟨j,st _ _<|I.au _ _ e⟩
    rw[aA i] at q;exact st _ _<|I.au b u q
  exact I.un un au
end
structure j2 (x:eS):Prop where
 ok:True
section
variable{X:Cx}{pos:y4}
def tB(i:Nat)(g:DF):DF:=λZ=>match Z[i]? with
 | some (.D<|.dn a)=>(g Z).bind λp=>match p.1 with
  | .str k=>(cP a k).map λd=>(d,p.2)
  | _=>al
 | _=>al
def KI (hx:j2 x)(m:X.N.findIdx? (·==x)=ac i)(q:cx X.env.scope x)(r:X.A.units+1<u2)(hd:bP x)(c:cY x)(hs:oC b)(s:DD X b g):DD X (.Subscript (.Name x l) b pos) (tB i g):=by
 obtain⟨tb,t,u⟩:=s;refine⟨_,xZ r (fH (eA m) q hd c) t hs,λw z Z B H C d Z' Q e S k=>?_⟩;unfold tB at e;split at e
 ·rename_i ks D;obtain⟨n,Z1,E,e⟩:=oB e;dsimp only at e;split at e
  ·rename_i f;obtain⟨d',F,e⟩:=oM e;cases e;obtain⟨v0,G,p,o,kvs,rfl,I,J⟩:=S.D i _ D;refine⟨_,G,u w z Z B H C _ _ _ E S λy K h j a L=>?_⟩;subst L;obtain⟨v,M,O⟩:=((J.mono a).find f).1 d F;refine⟨p,v,ρ,?_,k v K h j a O⟩;rw[<-M];exact ι ⟨kvs,uy f,τ ⟨o,j.sub _ _<|a _ _ I⟩,ρ,ρ⟩
  exact nO e
 exact nO e
end
def Rd.zL (h:Rd H a (.L xs))(h':Rd H a (.L ys)):xs=ys:=by rcases h with h|⟨o,h⟩<;>rcases h' with h'|⟨o',h'⟩<;>rw[h] at h'<;>cases h'<;>rfl
def Fo(a:dk):It:=⟨λi H=>∃xs x,Rd H a (.L xs)/\xs[i]?=ac x,λi H v b=>∃p x,H p=al/\v=.ref p/\b=upd H p (.U [.int (i:Int),x])/\∀xs,Rd H a (.L xs)->xs[i]?=ac x,λi H=>∃xs,Rd H a (.L xs)/\xs.length<=i⟩
def OM{P:hY}{w:nR}{K:f'}{elts:List hE}{x1:Nat}{L:y4}{a e it:dk}(J:e≠it) :
  Turn P w K (.Tuple elts x1 L) (Fo a) [e,it] e (λi h=>(∃l,IsEnum h e it (i:Int) l)/\h.IsListIter it a i) where
 mem:=by simp
 obj:=λi h st b g=>by
  obtain⟨⟨l,j⟩,o,eo,c,d⟩:=st;simp only[eW,hF,or_false] at g;rcases g with rfl|rfl
  ·exact⟨_,j,λv z=>by contradiction⟩
  exact⟨o,eo,λv z=>by rw[d] at z;contradiction⟩
 keep:=λi h h' st k=>⟨st.1.imp λl j=>k e (by simp) _ j,st.2.at λo q=>k it (by simp) o q⟩
 item:=by
  intro X M hw N f i B s V H E I C st O;subst M hw N;obtain⟨⟨l,j⟩,hit⟩:=st;obtain⟨xs,x,G,Y⟩:=O;obtain⟨z,its,n,Q,R⟩:=G.ok I.au;have S:s.heap.IsList a its.toArray:=⟨_,R,ρ,n,ρ⟩;obtain⟨u,hu,ru⟩:=Q.get Y;have A:=C e (by simp);have p:=C it (by simp);have elt:e<s.heap.objs.size:=fj j;obtain⟨oi,Z,_,_⟩:=id hit;have T:it<s.heap.objs.size:=fj Z;refine wpAny_pyNext_enum_item j hit S (x:=u) (by simpa using hu) J λh1 be U U6 hz1 U7=>?_;refine⟨_,ρ,wpAny_letOwnedTupleGo_enum be λD U8 y=>?_⟩;have y:Yi e h1 D:=y;have fr:H s.heap.objs.size=al:=I.au.fresh<|eK _;have cj:∀b o,b≠e->b≠it->s.heap.get? b=ac o->D.get? b=ac o:=λb o h h' q=>y.extBut b o h<|U7 b o h h' q;have U':D.get? s.heap.objs.size=ac {cls:=.type "tuple",data:=.seq #[.int i s.toks,u]}:=(y.2 _<|Zv elt).trans U6;have t:∀{b:dk},b∉[e,it]->b≠e/\b≠it:=λ{b} h=>⟨λz=>h (by simp[z]),λz=>h (by simp[z])⟩;have eC:∀b u,H b=ac u->b≠e/\b≠it:=λb u q=>⟨cZ q A.1,cZ q p.1⟩;have F:∀b u,H b=ac u->b≠s.heap.objs.size:=λb u q=>cZ q fr;refine⟨.ref s.heap.objs.size,upd H s.heap.objs.size<|.U [.int (i:Int),x],?_,ρ,⟨_,x,fr,ρ,ρ,λys hy=>by rw[hy.zL G];exact Y⟩,⟨⟨u,?_⟩,(U.extBut y.extBut<|Ne.symm J)⟩,λb g=>?_⟩
  ·show Inv X B V (upd H s.heap.objs.size<|.U [.int (i:Int),x]) {s with heap:=D,gens:=s.gens,drawn:=s.drawn,toks:=s.toks+1};refine Inv.step (s:=s) (H:=H) (h':=D) I (g':=s.gens) (d':=s.drawn) (t':=s.toks+1) (ch:=[e,it]) (λb g=>?_) (λb o _ _ f q _=>cj b o (t f).1 (t f).2 q) (λb o _ _ f q _=>⟨o.slots,cj b o (t f).1 (t f).2 q⟩)
    (λb o f q n=>by rw[aA (hG<|fj q)];exact n) (λb o f q=>⟨o,cj b o (t f).1 (t f).2 q⟩) (λb ys q=>by rw[aA (F b _ q)];exact q) (λb ob w q=>by rw[aA (F b _ q)];exact q)
    (λb ps q=>⟨#[],by rw[aA (F b _ q),q];simp⟩) (λm hm=>?_) (λb w q=>?_) I.bare
   ·simp only[eW,hF,or_false] at g;rcases g with rfl|rfl
    ·exact⟨A.2.2.2.1,A.2.1,A.2.2.2.2.1,A.2.2.2.2.2⟩
    exact⟨p.2.2.2.1,p.2.1,p.2.2.2.2.1,p.2.2.2.2.2⟩
   ·obtain⟨o,es,ep,ho,r⟩:=hm;exact⟨o,es,ep,cj _ o (Ne.symm A.2.1) (Ne.symm p.2.1) ho,r⟩
   by_cases g:b=s.heap.objs.size
   ·subst g;rw[bb] at q;obtain rfl:=sO q;exact⟨by show 2<=cA;unfold cA;decide,[.int i s.toks,u],.cons ⟨_,ρ⟩<|.cons ru .nil,_,U',rfl,_,rfl⟩
   rw[aA g] at q;refine (I.au b w q).gp (λc v f r=>?_) (λc r=>by rw[aA (F c _ r)];exact r) λc ys r=>by rw[aA (F c _ r)];exact r
   rcases f with rfl|f
   ·exact cj c v (eC _ _ q).1 (eC _ _ q).2 r
   exact cj c v (eC _ _ f).1 (eC _ _ f).2 r
  ·have:((i+1:Nat):Int)=(i:Int)+1:=by push_cast;rfl
   rw[this];exact U8
  have Va:b<s.heap.objs.size:=by
   simp only[eW,hF,or_false] at g;rcases g with rfl|rfl
   ·exact elt
   exact T
  rw[aA (hG Va)];exact (C b g).1
 done:=by intro X M hw N f i B s V H E I C st O;subst M hw N;obtain⟨⟨l,j⟩,hit⟩:=st;obtain⟨xs,G,hl⟩:=O;obtain⟨z,its,n,Q,R⟩:=G.ok I.au;have S:s.heap.IsList a its.toArray:=⟨_,R,ρ,n,ρ⟩;obtain⟨f0,f1,f2,f3,f4,f5⟩:=C it (by simp);have hll:=Q.length;exact wpAny_pyNext_enum_end (I.ok.hd f) j hit S (by simp;lia) λh' eb=>⟨ρ,I.turned (t':=s.toks) (λb o g e=>eb b o g e) f0 f1 f3 f4 f5⟩
 self:=λ_ _ _ _ _ st h=>by obtain⟨⟨l,j⟩,_⟩:=st;exact aeF j h
section
variable{X:Cx}
def JE(c:TA):TI:=λd H R=>c d H λvs b=>∃a xs,vs=[.ref a]/\Rd b a (.L xs)/\R (Fo a) b
def JZ (o:Gl X "enumerate")(r:X.mg "enumerate"=al)(t:PA X [a] j)(hs:mu [a] X.env=[(false,eval a X.env)]:=by rfl):PI X (.Tuple elts m g) (.Call (.Name "enumerate" p) [a] [] pos) (JE j):=by
 refine λi s v H R I h=>Call_<|mM I o r boot_enumerate<|Hz (aH (t pos i s v H _ I h) λus c g=>?_) hs ρ;obtain⟨vs,w,d,x,y⟩:=g;obtain⟨a,xs,rfl,A,q⟩:=y;obtain⟨u,rfl,B⟩:=x.one;subst B;obtain⟨z,its,n,rv,e⟩:=A.ok d.au;refine call_enumerate_1 e λh' k hit hsz C=>aeF k ?_;refine⟨_,[c.heap.objs.size+1,c.heap.objs.size],_,_,w,ρ,d.kept (t':=c.toks) C,OM (show c.heap.objs.size+1≠c.heap.objs.size from Nat.succ_ne_self _),⟨⟨_,k⟩,hit⟩,λb l=>?_,q⟩;have f:c.heap.objs.size<=b:=by
  simp only[eW,hF,or_false] at l;rcases l with rfl|rfl
  ·exact aaq _
  exact eK _
 exact d.ko f<|d.au.fresh f
end
noncomputable def sS(ds:List Dat):List Dat:=(gD ds.length).map λi:Nat=>.U [.int (i:Int),ds.getD i .aQ]
def tF(fa:AF):IF:=λZ=>(fa Z).bind λp=>match p.1 with
 | [.L ds]=>ac (sS ds,p.2)
 | _=>al
section
variable{X:Cx}{pos:y4}{P:hY}{w:nR}{A:pA}{R:acp->cW->Prop}{I:dk}{fp wr:List dk}{G:Array abk->Array abk->Prop}{n:Nat}{Pr:Nat->cn->Prop}{St:Nat->cW->Prop}{E:cn->cW->Prop}{s:cW}{apos:y4}
def Iz (u:Gl X "enumerate")(z:X.mg "enumerate"=al)(hs:mu [a] X.env=[(false,eval a X.env)])(B:DA X [a] fa):dh X (.Tuple elts r g) (.Call (.Name "enumerate" p) [a] [] pos) (tF fa):=by
 obtain⟨t,C,q⟩:=B;refine⟨_,JZ u z C hs,λD F Z J H K items Z' R b S k=>?_⟩;unfold tF at b;obtain⟨as,Z1,L,b⟩:=oB b;dsimp only at b;split at b
 ·rename_i ds;obtain⟨rfl,rfl⟩:=sP b;refine q D F Z J H K _ _ _ L S λvs M j l N O=>?_;obtain⟨v,vr,rfl,⟨Q,c,rfl,e,rs⟩,T⟩:=O;subst T;have hl:=rs.length;refine⟨Q,c,ρ,Rd.mono l.sub e,k _ M j l N λi H2 h=>⟨λd f=>?_,λhle=>⟨c,Rd.mono h e,?_⟩⟩⟩
  ·have m:i<ds.length:=by have:=(cm.1 f).1;simp_all [sS]
   have o:d=.U [.int (i:Int),ds[i]]:=by unfold sS at f;simp only[c6,Y9 m] at f;simp at f;simp_all
   subst o;obtain⟨x,ex,U⟩:=rs.get<|bt m;refine⟨⟨c,x,Rd.mono h e,ex⟩,λy H3 V=>τ ?_⟩;obtain⟨p,x',W,rfl,rfl,Y⟩:=V;have:=Y c<|Rd.mono h e;rw[ex] at this;obtain rfl:=sO this;refine⟨p,_,W,ρ,λHi' s3 n=>⟨p,_,ρ,ba.of bb,_,_,ρ,ρ,_,_,ρ,(U.mono s3).mono (jY n),ρ⟩⟩
  simp_all [sS]
 exact nO b
noncomputable def gO(a:List Key)(v:Key):List Key:=if a.any (λx=>am<|x=v) then a else a++[v]
def dO(val:Nat->Key)(i:Nat):List Key:=((gD i).map val).foldl gO []
def Cy(val)(i):dO val (i+1)=gO (dO val i) (val i):=by unfold dO;rw[ZN,ft,adL];rfl
theorem xA(val):∀i,(dO val i).length<=i
 | 0=>eK _
 | i+1=>by
  have ih:=xA val i;rw[Cy];unfold gO;split
  ·lia
  simp_all
def Lw(a)(v k):(gO a v).any (λx=>am<|x=k)=(a.any (λx=>am<|x=k)||am (k=v)):=by
 delta gO;by_cases h:a.any (λx=>am<|x=v)=bd
 ·rw[if_pos h];by_cases e:k=v
  ·subst e;rw[h];simp
  simp[e]
 rw[if_neg h,List.any_append];by_cases e:k=v
 ·subst e;simp
 have:¬v=k:=λz=>e z.symm;simp[e,this]
def Gq(a)(v):(gO a v).length=if a.any (λx=>am<|x=v) then a.length else a.length+1:=by delta gO;split<;>simp
theorem Hq(W:WalksS P w A.in1 I fp wr G n Pr St)(S:dk)(y:S∉fp)(val:Nat->Key)(L:∀i v,Pr i v->jA (val i) v=bd/\v.scannable=bd)(hb:n+1<aeX) :
  ∀(k i:Nat) (s:cW),n-i=k->i<=n->St i s->s.heap.SetOf (cJ P w) S (λa=>(dO val i).any λx=>am<|x=a) (dO val i).length ->
   (∀s',Moved (S::wr) G s s'->s'.heap.SetOf (cJ P w) S (λa=>(dO val n).any λx=>am<|x=a) (dO val n).length->R (.ok<|.ret .none) s') ->
   ZV (hQ P w) A (.builtin "set.update.loop" ⟨[.ref S,.ref I],[]⟩) R s:=by
 have hw:S∉wr:=λh=>y<|W.sub _ h;have B:∀b∈wr,b∈S::wr:=λb z=>f6 _ z;intro k;induction k with
 | zero =>
  intro i s M N st hs j;obtain rfl:i=n:=by lia
  apply y1 z7;refine bg (W.done s _ _ st λs' c=>?_);refine dr<|j s' (c.mono B) ?_;obtain⟨o,l,ep,t,p,r⟩:=hs;exact⟨o,l,ep,t,c.heap S _ hw p,r⟩
 | succ k O =>
  intro i s M N st hs j;have d:i<n:=⋯;apply y1 z7;refine bg (W.item i s _ _ d st λv s' Q C c=>?_);obtain⟨f,D⟩:=L i v Q;have H:s'.heap.SetOf (cJ P w) S (λa=>(dO val i).any λx=>am<|x=a) (dO val i).length:=by obtain⟨o,l,ep,T,p,r⟩:=hs;exact⟨o,l,ep,T,c.heap S _ hw p,r⟩
  refine bg<|o3 ?_;unfold setAdd;refine o3<|bg<|(cJ P w).pyHash f ?_;have room:(dO val i).length+1<scanBound:=by have:=xA val i;lia
  refine wpAny_setAddHashed_of f D H room λh' g hS2=>?_;have J:h'.SetOf (cJ P w) S (λa=>(dO val<|i+1).any λx=>am<|x=a) (dO val<|i+1).length:=by rw[Cy,Gq];have e:(λa=>(dO val i).any (λx=>am<|x=a)||am (a=val i))=λa=>(gO (dO val i)<|val i).any λx=>am (x=a):=funext λa=>(Lw _ _ _).symm;simp_all
  refine dr ⟨YT qp _,O (i+1) _ (by omega) d (W.frame _ s' _ _ C (aaq _) λb z o e=>?_) J λK q u=>?_⟩
  ·rwa[g.2 b (λh:b=S=>y<|h ▸ z)]
  refine j K (Moved.trans W.gtrans ((c.mono B).then_heap (aaq _) λb o z e=>?_) q) u;rwa[g.2 b (λh:b=S=>z<|h ▸ fk)]
def NR (hh:A.handled=al)(hl:s.heap.IsList l items)(m:∀i v,items[i]?=ac v->jA (val i) v=bd/\v.scannable=bd)(p:items.size+1<aeX)(h:∀(h':nL) (tk:Nat),h'.SetOf (cJ P w) s.heap.objs.size (λa=>(dO val items.size).any λx=>am<|x=a) (dO val items.size).length->(∀b o,b<s.heap.objs.size->s.heap.get? b=ac o->h'.get? b=ac o)->Q (.ref s.heap.objs.size) {s with heap:=h',toks:=tk}) :
  g8 (hQ P w) A (call (.type "set") [.ref l]) Q E s:=by
 refine G2 hl (λled R I h1 eh c f d g hit k=>?_) h;have j:A.in1.in1.in1.handled=al:=by simp[hh]
 exact Hq ((Walks.list j _ l c items).toS) s.heap.objs.size f val m p (items.size-0) 0 _ ⋯ (pe _) ⟨hit,g⟩ ⟨_,#[],0,_,d,⟨ρ,ρ,ρ⟩,ρ,λe q=>by simp at q,λk=>by simp[dO],⋯,by rfl,rfl⟩ k
def wJ(P:hY)(w:nR)(a:dk)(n:Nat):HO:=.ext λh=>n<4096/\∃S,h.SetOf (cJ P w) a S n
def jl(ys:List eS):Nat:=(dO (λi=>uy<|(ys[i]?).getD YK) ys.length).length
def Rg(m:X.calm=bd):bM X (.type "set") (λxs H Q=>∃(p:dk) (ys:List eS),xs=[.ref p]/\Rd H p (.L<|ys.map V.str)/\ys.length<1000/\∀a,H a=al->Q (.ref a) (upd H a<|wJ X.prog X.w a<|jl ys)):=by
 intro pins s σ H xs us Q I r h;obtain⟨p,ys,rfl,x,hz,q⟩:=h;obtain⟨u,rfl,y⟩:=r.one;subst y;obtain⟨z,its,n,f,e⟩:=x.ok I.au;have B:s.heap.IsList p its.toArray:=⟨_,e,ρ,n,ρ⟩;have g:its.length=ys.length:=by have:=f.length;simpa using this.symm
 refine NR (val:=λi=>uy<|(ys[i]?).getD YK) (I.ok.hd m) B (λi v C=>?_) (by rw[gs];unfold aeX;omega) λh' tk c D=>?_
 ·obtain⟨t,rfl⟩:=Gy f (show its[i]?=ac v by simpa using C);exact⟨DR _ t,ρ⟩
 have hsz:its.toArray.size=ys.length:=by rw[gs];exact g
 rw[hsz] at c;refine⟨.ref s.heap.objs.size,upd H s.heap.objs.size<|wJ X.prog X.w s.heap.objs.size<|jl ys,?_,ρ,q _<|I.au.fresh (a:=s.heap.objs.size)<|eK _⟩;have hle:jl ys<=ys.length:=xA _ _;refine I.laid (λb o j=>D b o (fj j) j) (eK _) ⟨⟨by lia,_,c⟩,?_,λh1 h2 ⟨J,S,o,l,ep,t,d,r⟩ k=>⟨J,S,o,l,ep,t,k o d,r⟩⟩;obtain⟨o,l,ep,t,d,_⟩:=c;exact⟨o,d⟩
def LC:bM X (.builtin "len") (λxs H Q=>∃(a:dk) (n:Nat),xs=[.ref a]/\H a=ac (wJ X.prog X.w a n)/\Q (.int n) H):=by intro pins s σ H xs us Q I r h;obtain⟨a,n,rfl,c,q⟩:=h;obtain⟨u,rfl,d⟩:=r.one;subst d;obtain⟨⟨hn,S,o,e,ep,t,f,b,hd,hel,hmem,hb,g,hsz⟩,_,_⟩:=I.au a _ c;subst hsz;exact call_len_set f b hd g (by lia) ⟨.int e.size,H,I.tok _,⟨_,ρ⟩,q⟩
def uk(f:DF):DF:=λZ=>(f Z).bind λp=>match p.1 with
 | .L ds=>(dF ds).bind λys=>if ys.length<1000 then ac (.int (jl ys:Nat),p.2) else al
 | _=>al
def Jq (y:X.calm=bd)(z:Gl X "len")(B:X.mg "len"=al)(m:Gl X "set")(o:X.mg "set"=al)(j:bA X e [])(q:mu [.Call (.Name "set" l) [e] [] i] X.env=(false,eval (.Call (.Name "set" l) [e] [] i) X.env)::mu [] X.env)(h:DD X e f):DD X (.Call (.Name "len" p) [.Call (.Name "set" l) [e] [] i] [] pos) (uk f):=by
 obtain⟨t,pt,C⟩:=h;refine⟨_,rV LC z B ab2 (jR (vh (Rg y) m o ρ (jR pt kZ j) ⋯ ρ j ρ) kZ q) ⋯ ρ q ρ,λD F Z J H K d Z' Q g S k=>?_⟩;obtain⟨c,Z1,L,g⟩:=oB g;dsimp only at g;split at g
 ·obtain⟨ys,M,g⟩:=oA g;split at g
  ·rename_i hz;obtain⟨rfl,rfl⟩:=sP g;refine C D F Z J H K _ _ _ L S λv H1 r u N O=>?_;obtain⟨a,ws,rfl,x,rs⟩:=O;rw[kz M rs] at x;refine⟨a,ys,ρ,Rd.mono u.sub x,hz,λb T=>⟨b,jl ys,ρ,bb,?_⟩⟩;exact k _ _ r (u.made T) N ρ
  exact nO g
 exact nO g
def Py (d:aaW [.LtE,.Lt] [b,c]=bi)(e:DD X a f)(i:DD X b g)(j:DD X c h):DD X (.Compare a [.LtE,.Lt] [b,c] pos) (j7 g9 C4 f g h):=GL qD pY xk (qT λ_ _ _ _=>rfl) e i j d
structure wQ (mg:eS->Option cn):Prop where
 any:mg "any"=al
 sum:mg "sum"=al
 set:mg "set"=al
 enum:mg "enumerate"=al
theorem G7 (put:c->DS)(keep:c->Bool)(val:c->Dat):∀(xs:List c) (a:List Dat) (Z:DS),a.length+xs.length<=cA ->
  (∀x∈xs,∀Z,(Z=j\/∃y,Z=put y)->g (enc x) Z=ac (put x))->(∀x∈xs,fc (put x)=ac (keep x,put x))->(∀x∈xs,keep x=bd->fe (put x)=ac (val x,put x))->(∀x∈xs,noOwn (put x)=bd)->(Z=j\/∃y,Z=put y) ->
  ∃d,compLoop g fc fe (xs.map enc) a Z=ac (a++(xs.filter keep).map val,d)
 | [],a,Z,_,_,_,_,_,_=>⟨Z,by simp[compLoop]⟩
 | x::xs,a,Z,hz,k,l,m,o,hd=>by
  simp at hz;have p:=k x (fk ..) Z hd;have q:=l x<|fk ..;have r:=o x<|fk ..;have f:=λh (t:h.length+xs.length<=cA)=>G7 put keep val xs h (put x) t (λy b=>k y<|f6 _ b) (λy b=>l y<|f6 _ b) (λy b=>m y<|f6 _ b) (λy b=>o y<|f6 _ b)<|τ ⟨x,ρ⟩;cases i:keep x with
  | false=>obtain⟨d,e⟩:=f a (by omega);refine⟨d,?_⟩;show (g (enc x) Z).bind _=_;rw[p];show (fc<|put x).bind _=_;rw[q,i];show (if noOwn (put x)=bd then compLoop g fc fe (xs.map enc) a (put x) else al)=_;rw[if_pos r,e,wy,i];simp
  | true=>obtain⟨d,e⟩:=f (a++[val x]) (by rw[eu];simp;omega);refine⟨d,?_⟩;show (g (enc x) Z).bind _=_;rw[p];show (fc<|put x).bind _=_;rw[q,i];show (fe<|put x).bind _=_;rw[m x (fk ..) i];show (if a.length<cA/\noOwn (put x)=bd then _ else al)=_;rw[if_pos ⟨by omega,r⟩,e,wy,i];simp
def rG{a:Type}{enc:a->Dat}{caps:List (Option Nat)}{fi:IF}{g:GF}{fc:BF}{fe:DF}{xs:List a}{Z Z1 Z2:DS}(put:a->DS)(keep:a->Bool)(val:a->Dat)(b:fi Z=ac (xs.map enc,Z1))(c:bq al caps Z1=Z2)(hz:xs.length<=cA)
 (d:∀x∈xs,∀Z,(Z=cp caps Z2\/∃y,Z=put y)->g (enc x) Z=ac (put x))(f:∀x∈xs,fc (put x)=ac (keep x,put x))(h:∀x∈xs,keep x=bd->fe (put x)=ac (val x,put x))(i:∀x∈xs,noOwn (put x)=bd) :
  d9 caps al fi g fc fe Z=ac (.O<|.L<|(xs.filter keep).map val,Z2):=by
 obtain⟨Z',e⟩:=G7 put keep val xs [] (cp caps Z2) (by simpa using hz) d f h i<|ι ρ;exact GV b c e
def cc{a:Type}{enc:a->Dat}{caps:List (Option Nat)}{fi:IF}{g:GF}{fe:DF}{xs:List a}{Z Z1 Z2:DS}(put:a->DS)(val:a->Dat)(b:fi Z=ac (xs.map enc,Z1))(c:bq al caps Z1=Z2)(hz:xs.length<=cA)
 (d:∀x∈xs,∀Z,(Z=cp caps Z2\/∃y,Z=put y)->g (enc x) Z=ac (put x))(e:∀x∈xs,fe (put x)=ac (val x,put x))(f:∀x∈xs,noOwn (put x)=bd) :
  d9 caps al fi g (λZ=>ac (true,Z)) fe Z=ac (.O<|.L<|xs.map val,Z2):=by
 have:=rG (enc:=enc) (caps:=caps) (fi:=fi) (g:=g) (fc:=λZ=>ac (true,Z)) (fe:=fe) (xs:=xs) (Z:=Z) put (λ_=>true) val b c hz d (λ_ _=>rfl) (λx h _=>e x h) f;rw[aa3.2 (by intros;rfl)] at this;exact this
theorem zm (f):∀cs:List a,kF (cs.map λc=>.int<|f c)=ac (cs.map f)
 | []=>rfl
 | c::cs=>by show (kF (cs.map λc=>.int<|f c)).map (f c::·)=_;rw[zm f cs];rfl
theorem mi (f):∀cs:List a,dF (cs.map λc=>.str<|f c)=ac (cs.map f)
 | []=>rfl
 | c::cs=>by show (dF (cs.map λc=>.str<|f c)).map (f c::·)=_;rw[mi f cs];rfl
def zh{a:Type}(f:a->Bool)(cs:List a):ny [.L (cs.map λc=>.bl<|f c)]=ac (.D<|.bl<|cs.all f):=by show (je _).map _=_;rw[r6 f];simp
def Gk{a:Type}(f:a->Bool)(cs:List a):rD [.L (cs.map λc=>.bl<|f c)]=ac (.D<|.bl<|cs.any f):=by show (je _).map _=_;rw[r6 f];simp
def Jj (f:a->Int)(cs:List a):uS [.L (cs.map λc=>.int<|f c)]=ac (.D<|.int (cs.map f).sum):=by show (kF _).map _=_;rw[zm f];rfl
def jZ (f)(h:cs≠[]):ui [.L (cs.map λc=>.int<|f c)]=ac (.D<|.int<|fA<|cs.map f):=by show (kF _).bind _=_;simp_all [zm]
def vN{a:Type}{f:DF}{Z Z1:DS}{cs:List a}(g:a->eS)(h:f Z=ac (.L (cs.map λc=>.str<|g c),Z1))(hz:cs.length<1000):uk f Z=ac (.int (jl (cs.map g):Nat),Z1):=by simp_all [uk,mi]
def NX (h:fa Z=ac ([.L ds],Z1)):tF fa Z=ac ((gD ds.length).map λi:Nat=>Dat.U [.int (i:Int),ds.getD i .aQ],Z1):=by unfold tF;rw[h];rfl
theorem A7:∀(more a:List (Key×V)),((a++more).map (·.1)).Nodup->lA a more=a++more
 | [],a,_=>by show a=_;rw[px]
 | p::r,a,h=>by
  have e:putK a p.1 p.2=a++[p]:=by
   delta putK;rw[if_neg];intro z;obtain⟨q,b,e⟩:=xr.1 z;have e:q.1=p.1:=by simpa using e
   rw[ft,iR] at h;exact h.2.2 q.1 (a8.2 ⟨q,b,ρ⟩) p.1 (by simp) e
  show lA (putK a p.1 p.2) r=_;simp only[e,A7 r (a++[p]) (by rw[qt];exact h),qt];rfl
noncomputable def ku:List Dat->Option Res
 | [.L ds]=>ac (.D<|.U ds)
 | _=>al
def UC (a:Gl X "tuple")(b:X.mg "tuple"=al)(c:bA X e [])(d:DA X [e] fa):DE X (.Call (.Name "tuple" p) [e] [] pos) (bO ku fa):=sJ G5 (by
  intro H0 ps Z σ H Hi vs ds o Q e S r k;delta ku at e;split at e
  ·obtain rfl:=sO e;obtain⟨v,vr,rfl,⟨a,b,rfl,d,rs⟩,f⟩:=r;subst f;refine⟨a,b,ρ,ι ⟨ι<|Rd.mono S.sub d,λl hl=>?_⟩⟩;obtain⟨g,c⟩:=S.laid hl;exact k (.ref l) _ _ g c ⟨l,_,ρ,ba.of bb,ay.mono c rs⟩
  exact nO e) a b (by decide +kernel) d ⋯ ρ c ρ
end
section
open Sem (wp)
def Cb:afE table "dict.update.loop"=ac Yx.«dict.update.loop»:=ae1 (by kernel_rfl)
def uI:plainId "dict.update.loop"=bd:=by decide +kernel
def RD (f:s.heap.IsList a xs)(hd:∀o,s.heap.get? a=ac o->o.dict=al)(j:acJ (.type "list") name=pure al)(l:(["__module__","__name__","__qualname__","__doc__","__annotations__"]:List eS).contains name=bi)(hA:A.handled=al)(h:∀h' tk,(∀b o,s.heap.get? b=ac o->h'.get? b=ac o)->Q al {s with heap:=h',toks:=tk})(hsz:name.length+100<=sizeLine:=by size_fits) :
  g8 (hQ prog w) A (getAttr? (.ref a) name) Q E s:=by
 obtain⟨o,f,p,k,i⟩:=f;have hd:=hd o f;obtain⟨c,bC,D,r⟩:=o;subst p i hd;obtain⟨t,g,d,tk,os⟩:=s;have q:∀m,(⟨t,g,d,m,os⟩:cW).TypeIs (.ref a) "list":=λ_=>⟨_,f,ρ⟩;have f1:=sub_AttributeError;have f3:=acL.lookup;have f4:=F.slot_list_getattribute.bind<|.ref a;have f5:=am_list_getattr_none;unfold getAttr? getAttrBy? getAttrBy
 repeat (any_goals (first|assumption|exact q _|((with_reducible show g8 _ _ (call (Value.builtin "list.__getattribute__") _ _) _ _ _);refine aaX acL (q _) am_entry_list_getattribute (F.args_list_getattribute_2 _ _) (meets_getattribute_miss_list a xs k r name _ j l hsz) ⟨f,hA,λh' m e n=>?_⟩)|wp_step))
 obtain⟨t',u',he⟩:=n.there;show g8 _ _ (aeq _ _ _ _ _ _ _) _ _ _;unfold aeq
 repeat (any_goals (first|assumption|wp_step))
 exact h _ _ n.of.keeps
section
variable{prog:hY}{w:nR}{K:Type}[DecidableEq K]{knd:KeyKind prog w K}{A:pA}{E:cn->cW->Prop}{s:cW}
def L8 (h:ZH s.heap a #[k,v])(q:Q [k,v] s):g8 (hQ prog w) A (abN<|.ref a) Q E s:=by obtain⟨o,b,c,n,hd⟩:=h;refine bg<|aag (⟨o,b,c⟩) ?_;refine bg<|aau b hd ?_;exact dr q
structure yf (knd:KeyKind prog w K) (h:nL) (u:cn) (kv:K×cn) (a:dk) (k:cn):Prop where
 at_:u=.ref a
 U:ZH h a #[k,kv.2]
 key:knd.is kv.1 k=bd
theorem Qy (hh:A.handled=al)(z:l≠I)(q:d≠I)(O:d≠l)(hl:more.length=items.size)(hz:more.length<=cA) :
  ∀(m i:Nat) (s:cW),items.size-i=m->i<=items.size->s.heap.IsListIter I l i->s.heap.IsList l items->s.heap.DictOf knd d (adw []<|more.take i) ->
   (∀(j:Nat) (u:cn) (y:K×cn),items[j]?=ac u->more[j]?=ac y->∃a k,yf knd s.heap u y a k/\a≠I/\a≠d) ->
   (∀h' tk,h'.DictOf knd d (adw [] more)->(∀b o,b≠I->b≠d->s.heap.get? b=ac o->h'.get? b=ac o)->R (.ok<|.ret .none) {s with heap:=h',toks:=tk}) ->
   ∀(n:Int) (t:Tok),ZV (hQ prog w) A (.builtin "dict.update.loop" ⟨[.ref d,.ref I,.int n t,.none],[]⟩) R s:=by
 intro m;induction m with
 | zero=>intro i s hm hi st F hd G H n t;have P:i=items.size:=⋯;subst P;apply y1 Cb;delta Yx.«dict.update.loop»;have W:=Walks.list (prog:=prog) (w:=w) (A:=A.in1) (by simp[hh]) I l z items;refine bg (W.done s _ _ ⟨st,F⟩ λh' tk k=>?_);refine bg<|dr ?_;rw[aaJ (by lia)] at hd;refine dr (H h' tk ?_ λb o g J e=>k b o (by simpa using g) e);obtain⟨o,L,ep,c,r⟩:=hd;exact⟨o,L,ep,k d o (by simpa using q) c,r⟩
 | succ m ih =>
  intro i s hm hi st F hd G H n t;have B:i<items.size:=⋯;apply y1 Cb;delta Yx.«dict.update.loop»;have W:=Walks.list (prog:=prog) (w:=w) (A:=A.in1) (by simp[hh]) I l z items;refine bg (W.item i s _ _ B ⟨st,F⟩ λv g tk hv C k1=>?_);have D:more[i]?=ac more[i]:=bt ⋯;obtain⟨a,k,M,na,nd⟩:=G i v _ hv D;have ev:=M.at_;subst ev;have x:∀b o,b≠I->s.heap.get? b=ac o->g.get? b=ac o:=λb o h e=>k1 b o (by simpa using h) e;have Q:g.DictOf knd d (adw []<|more.take i):=by obtain⟨o,L,ep,c,r⟩:=hd;exact⟨o,L,ep,x d o q c,r⟩
  have S:ZH g a #[k,more[i].2]:=by obtain⟨o,c,r⟩:=M.U;exact⟨o,x a o na c,r⟩
  have hsz:(adw []<|more.take i).length<=sizeLine:=by have:=merged_length_le ([]:List (K×cn))<|more.take i;simp at this;lia
  refine bg<|o3<|bg<|wpAny_tryCatch<|L8 S ?_;refine o3 (wpAny_dictSet_pairs M.key Q λJ T N=>?_);have U:∀b o,b≠I->b≠d->s.heap.get? b=ac o->J.get? b=ac o:=λb o h f e=>(N.2 b f).trans (x b o h e);refine dr ⟨YT uI _,ih (i+1) {s with heap:=J,toks:=tk+1} ⋯ B ?_ ?_ ?_ ?_ ?_ _ _⟩
  ·obtain⟨o,c,r⟩:=C.1;exact⟨o,(N.2 I<|Ne.symm q).trans c,r⟩
  ·obtain⟨o,c,r⟩:=C.2;exact⟨o,(N.2 l<|Ne.symm O).trans c,r⟩
  ·rwa[merged_take_succ _ _ _ _ D]
  ·intro j u y hu V;obtain⟨a,k,p,X,Y⟩:=G j u y hu V;refine⟨a,k,⟨p.at_,?_,p.key⟩,X,Y⟩;obtain⟨o,c,r⟩:=p.U;exact⟨o,U a o X Y c,r⟩
  exact λh' Z be k'=>H h' Z be λb o h f e=>k' b o h f<|U b o h f e
def Na (hh:A.handled=al)(x:s.heap.IsList l items)(hd:∀o,s.heap.get? l=ac o->o.dict=al)(hl:more.length=items.size)(hz:more.length<=cA)(J:∀(j:Nat) (u:cn) (n:K×cn),items[j]?=ac u->more[j]?=ac n->∃a k,yf knd s.heap u n a k)(h:∀h' tk,h'.DictOf knd s.heap.objs.size (adw [] more)->(∀b o,s.heap.get? b=ac o->h'.get? b=ac o)->Q (.ref s.heap.objs.size) {s with heap:=h',toks:=tk}) :
  g8 (hQ prog w) A (call (.type "dict") [.ref l]) Q E s:=by
 apply callType_codes (Q₁:=λobj g=>obj=.ref s.heap.objs.size/\g={s with heap:=s.heap.push {cls:=.type "dict",data:=.dict #[]} }) F.kt_called_dict (F.kt_typeCall_dict_1 _) F.entry_dict_init<|kt_code_dict_new _ ⟨ρ,ρ⟩;rintro obj g ⟨rfl,rfl⟩;have d:(s.heap.push {cls:=.type "dict",data:=.dict #[]}).DictOf knd s.heap.objs.size []:=acH s.heap;have i:=x.push {cls:=.type "dict",data:=.dict #[]};have q:=let ⟨_,c,_⟩:=x;fj c
 have z:∀o,(s.heap.push {cls:=.type "dict",data:=.dict #[]}).get? l=ac o->o.dict=al:=λo e=>by obtain⟨o',c,r⟩:=x;rw[ee _ c] at e;obtain rfl:=sO e;exact hd _ c
 refine⟨d.typeIs,F.args_dict_init_2 _ _,?_⟩;delta Yx.«dict.__init__»;apply bg;refine bg<|adN d.typeIs ?_;apply dr;refine bg<|aag i.typeIs ?_;refine bg<|RD i z (by rw[afe,adR];kernel_rfl) (by decide +kernel) (by simp[hh]) (λm tk y=>?_) (by decide +kernel);refine bg<|wpAny_rule ?_;have t:m.IsList l items:=by obtain⟨o,c,r⟩:=i;exact⟨o,y _ _ c,r⟩
 refine bg<|Yn (s:={s with heap:=m,toks:=tk}) t ?_;have v:m.DictOf knd s.heap.objs.size []:=by obtain⟨o,B,ep,c,r⟩:=d;exact⟨o,B,ep,y _ _ c,r⟩
 have f:s.heap.objs.size<m.objs.size:=by obtain⟨o,B,ep,c,r⟩:=v;exact fj c
 have C:∀b o,s.heap.get? b=ac o->m.get? b=ac o:=λb o e=>y b o<|ee _ e;refine dr ⟨YT uI _,?_⟩;refine Qy (knd:=knd) (by simp[hh]) (hG<|Y4 q f) (hG f) (Zv q) hl hz items.size 0 _ ⋯ (pe _) ⟨_,gj _ ρ,ρ,ρ⟩ (t.push _) ?_ ?_ ?_ _ _
 ·exact v.push _
 ·intro j u n L D;obtain⟨a,k,p⟩:=J j u n L D;have G:=let ⟨_,c,_⟩:=p.U;fj c
  refine⟨a,k,⟨p.at_,?_,p.key⟩,hG<|Y4 G f,hG G⟩;obtain⟨o,c,r⟩:=p.U;exact⟨o,ee _<|C _ _ c,r⟩
 intro h' H I M;refine⟨ρ,h h' H I λb o e=>M b o ?_ ?_<|ee _<|C _ _ e⟩
 ·exact hG<|Y4 (fj e) f
 exact hG<|fj e
end
end
section
variable{X:Cx}{pins:List (dk×z5)}{σ:St}{H:Hp}{s:cW}{pos:y4}
def mN(K:f')(H:Hp)(r:V)(b:Key×V):Prop:=∃a,r=.ref a/\ba K H a [kV b.1,b.2]
theorem KS(I:Inv X pins σ H s){rows:List V}{its:List cn}{kvs:List (Key×V)}(c:aJ rows its)(b:Zc (mN X.K H) rows kvs):∃more:List (Key×cn),KV kvs more/\Zc (fun u d=>∃a k,yf (cJ X.prog X.w) s.heap u d a k) its more:=by
 induction c generalizing kvs with
 | nil=>cases b;exact⟨[],.nil,.nil⟩
 | cons e _ f =>
  cases b with
  | cons g b =>
   obtain⟨more,h,i⟩:=f b;obtain⟨a,rfl,j⟩:=g;subst e;obtain⟨its',l,U,_⟩:=I.tuple j;cases l with
   | cons m n =>
    cases n with
    | cons o p =>
     cases p;rename_i k v;exact⟨(_,v)::more,.cons ⟨ρ,o⟩ h,.cons ⟨a,k,ρ,by simpa using U,oU m⟩ i⟩
theorem Ao{c d:Type}{F:c->d->Prop}{l₁:List c}{l₂:List d}(p:Zc F l₁ l₂):∀(j:Nat) a b,l₁[j]?=ac a->l₂[j]?=ac b->F a b:=by
 induction p with
 | nil=>intro j a b h;simp at h
 | cons hf _ e =>
  intro j a b h h';cases j with
  | zero=>simp_all
  | succ j=>exact e j a b (by simpa using h) (by simpa using h')
theorem sF{a b:Type}{F:a->b->Prop}{l₁:List a}{l₂:List b}(p:Zc F l₁ l₂):l₁.length=l₂.length:=by
 induction p with
 | nil=>rfl
 | cons _ _ c=>exact congrArg (·+1) c
def Ep(K:f'):List V->Hp->VK->Prop:=λxs H Q=>∃p rows kvs,xs=[.ref p]/\Rd H p (.L rows)/\Zc (mN K H) rows kvs/\∀q,H q=al->Q (.ref q) (upd H q<|.dK<|lA [] kvs)
def Jv(te:TE):TI:=fun σ H R=>te σ H λv a=>∃d o kvs,v=.ref d/\a d=ac (.bq o<|.dK kvs)/\R (Dp d o kvs) a
def SW (m:PE X e te):PI X l e (Jv te):=by refine λpins s σ H R I h=>aH (m pins s σ H _ I h) λv a g=>?_;obtain⟨y,H1,c,n,p⟩:=g;obtain⟨d,o,kvs,rfl,hd,q⟩:=p;subst n;obtain⟨i,z,lo,vs,r,j⟩:=c.au d _ hd;obtain⟨ep,D⟩:=j.dictAt;obtain⟨o',t,f,g⟩:=id D;rw[i] at f;obtain rfl:=sO f;have hA:∀h:nL,h.get? d=ac o->h.DictAt (cJ X.prog X.w) d vs ep:=λh e=>⟨o,t,e,g⟩;refine wpAny_pyIter_dict lo D ⟨a.heap.objs.size,[a.heap.objs.size],_,_,_,ρ,c.kept λb o e=>ee _ e,PK r (hG<|fj i) hA,⟨_,gj _ ρ,ρ,ρ⟩,λb u=>?_,q⟩;rw[show b=a.heap.objs.size by simpa using u];exact c.ko (eK _)<|c.au.fresh<|eK _
noncomputable def mn:List Dat->Option (List<|eS×Dat)
 | []=>ac []
 | .U [.str k,d]::r=>(mn r).map λa=>(k,d)::a
 | _=>al
def uW:List Dat->Option Res
 | [.bC a]=>ac (.O<|.bC a)
 | [.L ds]=>(mn ds).bind λa=>if (a.map (·.1)).Nodup then ac (.O<|.bC a) else al
 | _=>al
theorem Gp{K:f'}{H:Hp}:∀{ds:List Dat}{vs:List V}{b:List (eS×Dat)},mn ds=ac b->ay K H ds vs->∃kvs,bJ K H b kvs/\Zc (mN K H) vs kvs
 | [],_,_,e,r=>by obtain rfl:=sO e;cases (r);exact⟨[],ρ,.nil⟩
 | d::ds,_,_,e,r=>by
  unfold mn at e;split at e;simp_all
  ·rename_i k d' r' h;cases h;obtain⟨b,f,e⟩:=oM e;obtain rfl:=sO e;obtain⟨v,vr,rfl,⟨a,ws,rfl,g,rs⟩,i⟩:=r;obtain⟨kvs,j,l⟩:=Gp f i;obtain⟨v1,r1,rfl,m,c,r2,rfl,n,o⟩:=rs;subst m;cases (o);exact⟨(uy k,c)::kvs,⟨c,kvs,ρ,n,j⟩,.cons ⟨a,ρ,g⟩ l⟩
  exact nO e
def mN.mono{K:f'}{H b:Hp}(s:aj H b){vs:List V}{kvs:List (Key×V)}(h:Zc (mN K H) vs kvs):Zc (mN K b) vs kvs:=Paired.pT h λ_ _ ⟨a,e,q⟩=>⟨a,e,ba.mono s q⟩
def JM:CD X (λxs H Q=>(λxs H Q=>∃a kvs,xs=[.ref a]/\Rd H a (.dK kvs)/\∀p,H p=al->Q (.ref p) (upd H p<|.dK kvs)) xs H Q\/Ep X.K xs H Q) uW:=by
 intro g i Z σ H c vs ds o Q e S r k;delta uW at e;split at e
 ·rename_i d;exact ι<|Ka g i Z σ H c vs [.bC d] o Q e S r k
 ·obtain⟨d,j,e⟩:=oA e;split at e
  ·rename_i nd;obtain rfl:=sO e;obtain⟨v,vr,rfl,⟨p,l,rfl,m,rs⟩,n⟩:=r;subst n;obtain⟨kvs,f,t⟩:=Gp j rs;have u:(kvs.map (·.1)).Nodup:=by rw[qB f];exact gd.2 (nd.imp λh z=>h<|Sum.inr.inj z)
   refine τ ⟨p,l,kvs,ρ,Rd.mono S.sub m,mN.mono S.sub t,λq b=>?_⟩;simp[A7 kvs [] (by simpa using u),List.nil_append];exact k (.ref q) _ c (S.made b) (aj.refl _) ⟨q,ρ,⟨kvs,bb,f,S.cX b⟩,(S.bz b).2,(S.bz b).1,S.dA b⟩
  exact nO e
 exact nO e
def Mg (a:X.calm=bd)(b:Gl X "dict")(c:X.mg "dict"=al)(d:bA X e [])(f:DA X [e] fa):DE X (.Call (.Name "dict" p) [e] [] pos) (bO uW fa):=sJ (bM.or Jr ((λf=>by
  intro pins s σ H xs us Q I r h;obtain⟨p,rows,kvs,rfl,g,c,q⟩:=h;obtain⟨u,rfl,i⟩:=r.one;subst i;obtain⟨z,its,n,k,d⟩:=g.ok I.au;obtain⟨more,b,pm⟩:=KS I k c;have l:=sF pm;have e2:=sF b;have e3:=sF c;have hz:(lA [] kvs).length<=sizeLine:=by have:=FF kvs [];simp at this;omega
  refine Na (I.ok.hd f) ⟨_,d,ρ,n,ρ⟩ (λo e=>by rw[d] at e;obtain rfl:=sO e;rfl) (by simp[l]) (by omega) (λj u b m t=>Ao pm j u b (by simpa using m) t) λh' tk dd kp=>?_
  exact⟨.ref s.heap.objs.size,_,I.laid kp (eK _)<|xC hz (beq_eq_false_iff_ne.2<|Ne.symm<|hG I.sR) (b.merge .nil) dd,ρ,q _<|I.au.fresh<|eK _⟩) a)) JM b c (by decide +kernel) f ⋯ ρ d ρ
noncomputable def CS(i:Nat):IF:=λZ=>match Z[i]? with
 | some (.D<|.dn a)=>ac (a.map λk=>.str k.1,Z)
 | _=>al
theorem Qp (hx:j2 x)(t:X.N.findIdx? (·==x)=ac i)(u:cx X.env.scope x)(hd:bP x)(h:cY x):dh X q (.Name x r) (CS i):=by
 refine⟨_,SW<|fH (eA t) u hd h,λH0 ps Z σ H Hi items Z' R b S k=>?_⟩;unfold CS at b;split at b
 ·rename_i l e;obtain⟨rfl,rfl⟩:=sP b;obtain⟨v,w,p,o,kvs,rfl,f,g⟩:=S.D i _ e;refine⟨_,w,p,o,kvs,ρ,S.sub _ _ f,k _ _ _ S (aj.refl _) λj H2 m=>⟨λd c=>?_,λhl=>⟨m _ _ f,?_⟩⟩⟩
  ·have z:j<l.length:=by have:=(cm.1 c).1;simpa using this
   refine⟨⟨m _ _ f,by rw[bJ.length g];exact z⟩,λv H3 A=>ι ?_⟩;obtain⟨rfl,B,xx,C,rfl⟩:=A;refine⟨ρ,?_⟩;have a:(kvs.map (·.1))[j]?=ac B:=by rw[c6,C];rfl
   simp only[qB g,c6] at a;rw[c6] at c;cases n:l[j]? with
   | none=>rw[n] at a;exact nO a
   | some y=>rw[n] at a c;obtain rfl:=sO a;obtain rfl:=sO c;rfl
  have hl':=bJ.length g;simp_all
 exact nO b
end
section
open Sem (wp)
structure nQ (h:nL) (d:dk) (es:Array ZT) (ep:Nat):Prop where
 ok:∃o,h.get? d=ac o/\o.ExactDict/\o.data=.dict es ep
section
variable{prog:hY}{w:nR}{A:pA}{E:cn->cW->Prop}{s:cW}
def nQ.ty (h:nQ s.heap d c ep):s.TypeIs (.ref d) "dict":=let ⟨o,a,b,_⟩:=h.ok;⟨o,a,b.1⟩
theorem LD{d:dk}{a:Array ZT}{ep:Nat}{Q:cn->cW->Prop}(hd:(d==Yg)=bi)(r:nQ s.heap d a ep)
 (q:Q (.ref s.heap.objs.size) {s with heap:=s.heap.push {cls:=.type "dict_keyiterator",data:=.fields #[.ref d,.int 0 0,.int a.size 0,.int ep 0]} }):g8 (hQ prog w) A (adv<|.ref d) Q E s:=by
 have ty:=r.ty;obtain⟨o,b,e2,c⟩:=r.ok;refine aeE ty aeu<|sj aeu ty F.entry_dict_iter ?z<|F.args_dict_iter_1 _;delta Yx.«dict.__iter__» afk;refine bg<|bg<|adN ty ?B;refine (dr ?C);refine (show g8 _ _ (abR d >>= _) _ _ s from ?D);delta abR;rw[if_neg (by simp_all)];refine bg<|dr<|bg<|aaF b c<|bg<|acD b c<|bg<|rp<|dr ⟨_,ρ,"dict_keyiterator",_,⟨_,gj _ ρ,ρ⟩,L0.lookup,?G⟩;simpa[Zl] using q
def Pb (hit:s.heap.IsKeyIter it d i a.size ep)(r:nQ s.heap d a ep)(f:i<a.size)(q:∀h',h'.IsKeyIter it d (i+1) a.size ep->Yi it s.heap h'->Q (ac a[i].key) {s with heap:=h'}):g8 (hQ prog w) A (Za<|.ref it) Q E s:=by
 have ty:=hit.typeIs;obtain⟨x,e,j,b⟩:=id hit;obtain⟨o,g,e2,h⟩:=r.ok;have O:aaG "dict_keyiterator"=bi:=ρ;refine bg<|abK<|L' ty L0<|sj L0 ty acf ?z<|ab8 _;refine bg<|dr<|bg<|bg ?D
 first|refine bg (YJ ty<|dr ?B)|refine bg<|Zo ty<|dr ?B
 refine bg<|abg e b ?G;refine (?H);refine bg<|dr<|bg<|aaF g h ?I;rw[if_neg ⋯];refine bg<|dr<|bg<|acD g h ?J;rw[if_neg ⋯];refine dr ?K;simp[ia f];refine bg ?L
 first|refine bg (YJ ty<|dr ?C)|refine bg<|Zo ty<|dr ?C
 refine bg<|adP ty ?M;refine (show g8 _ _ (setField (.ref it) 1 (Zl<|(i:Int)+1) >>= _) _ _ s from bg<|YB e b (by simp) ?N);have c:(s.heap.update it (ZK (·.setIfInBounds 1 (Zl<|(i:Int)+1)))).IsKeyIter it d (i+1) a.size ep:=⟨_,ua _ e<|ZD<|C' b _,(abE ..).trans j,by rw[C' b];simp[Zl]⟩;refine bg<|o3<|bg<|adP c.typeIs ?O;exact (dr<|dr ⟨_,ρ,dr<|q _ c<|sW ..⟩)
def M7 (hh:A.handled=al)(hit:s.heap.IsKeyIter it d i c.size ep)(r:nQ s.heap d c ep)(e:c.size<=i)(q:∀h',acY it s.heap h'->Q al {s with heap:=h'}):g8 (hQ prog w) A (Za<|.ref it) Q E s:=by
 have ty:=hit.typeIs;obtain⟨x,f,x2,g⟩:=id hit;obtain⟨o,h,e2,j⟩:=r.ok;have O:aaG "dict_keyiterator"=bi:=⋯;unfold Za;refine bg<|abK<|L' ty L0<|sj L0 ty acf ?z<|ab8 _;refine bg<|dr<|bg<|bg ?D
 first|refine bg (YJ ty<|dr ?B)|refine bg<|Zo ty<|dr ?B
 refine bg<|abg f g ?G;refine (show g8 _ _ (if (nT d==qe)=bd then _ else _) _ _ s from ?H);refine bg<|dr<|bg<|aaF h j ?I;rw[if_neg ⋯];refine bg<|dr<|bg<|acD h j ?J;rw[if_neg ⋯];refine dr ?K;simp[aaE e];refine bg ?L
 first|refine bg (YJ ty<|dr ?C)|refine bg<|Zo ty<|dr ?C
 refine (show g8 _ _ (setField (.ref it) 0 .none >>= _) _ _ s from bg<|YB f g (by simp) ?M);refine (bg ?N);refine bg<|rp (bg<|ad1 (a:=qe) ρ<|rp ?O (by size_fits)) (by size_fits);dsimp only[afz];refine bg<|afO ?P;rw[show A.in1.handled=al from hh];refine bg<|dr<|wpAny_throw ?R;exact bg<|acm ⟨_,gj _ ρ,ρ⟩ afC<|dr<|q _<|((sW ..).extBut.push _).push _
def Tr (hd:(d==Yg)=bi)(r:nQ s.heap d a ep)(hz:(a.size:Int)<2 ^ 63)(q:∀t t',Q (.int a.size t) {s with toks:=t'}):g8 (hQ prog w) A (call (.builtin "len") [.ref d]) Q E s:=by have ty:=r.ty;obtain⟨o,b,e2,c⟩:=r.ok;refine Y0 kind_len plain_len entry_len (args_len1 _) ?z;delta Yx.«len»;refine bg<|dr<|bg<|L' ty aeM<|sj aeM ty F.entry_dict_len ?B<|F.args_dict_len_1 _;refine (show g8 _ _ (dictSize d >>= _) _ _ s from ?C);refine bg<|bg<|aaF b c<|dr ?D;refine (bg<|wpAny_pendingCount_other hd<|wpAny_ret_mkInt ?G);refine bg<|o3<|dr<|bg<|wpAny_letGo ?H;refine (?I);refine (show g8 _ _ (if ((a.size:Nat):Int) ≥ 2 ^ 63 then _ else _) _ _ _ from ?J);rw[if_neg (by lia)];exact bg<|wpAny_mkInt<|dr ⟨_,ρ,q _ _⟩
end
end
noncomputable def xu(d:dk)(o:z5)(kvs:List (List Key×V))(bs:List dk):It:=⟨λi H=>H d=ac (.bq o<|.dT kvs)/\i<kvs.length,λi H v a=>a=H/\∃b,bs[i]?=ac b/\v=.ref b,λi H=>H d=ac (.bq o<|.dT kvs)/\kvs.length<=i⟩
def mj(H:Hp)(kvs:List (List Key×V))(bs:List dk):Prop:=Zc (λa b=>H b=ac (.U<|a.1.map kV)) kvs bs
def KeysIn(a:Array ZT)(bs:List dk):Prop:=∀(i:Nat) (hi:i<a.size),∃b,bs[i]?=ac b/\a[i].key=.ref b
section
variable{P:hY}{w:nR}{H:Hp}{h:nL}{d:dk}{X:Cx}{K:f'}{pos:y4}{H0:Hp×Hp}{Hi:Hp}{ps:Nat->Option dk}{Z:DS}{σ:St}
theorem uT (x:cF P w H h d (.dT kvs)):∃a ep o bs,h.get? d=ac o/\o.ExactDict/\o.data=.dict a ep/\a.size=kvs.length/\mj H kvs bs/\KeysIn a bs:=by
 obtain⟨_,_,xs,b,o,a,ep,g,j,k,c,h5⟩:=x;have l:a.size=xs.length:=by simpa using congrArg List.length c
 have m:∀{kvs:List (List Key×V)}{xs:List (List Key×dk×cn)},Zc (λ(p:List Key×V) (q:List Key×dk×cn)=>p.1=q.1/\H q.2.1=ac (.U<|p.1.map kV)/\RelV p.2 q.2.2) kvs xs->mj H kvs (xs.map λx=>x.2.1):=λb=>by
  induction b with
  | nil=>exact .nil
  | cons h _ n=>exact .cons h.2.1 n
 refine⟨a,ep,o,xs.map λx=>x.2.1,g,j,k,by simp only[l,sF b],m b,λi r=>?_⟩;have e:xs[i]?=ac xs[i]:=bt ⋯;have f:a.toList[i]?=ac a[i]:=by simp[r]
 simp only[c,c6,e] at f;refine⟨xs[i].2.1,by rw[c6,e];rfl,?_⟩;rw[<-Option.some.inj f];rfl
def TR (J:l.size=n)(hne:d≠it)(m:o.data=.dict l ep)(a:KeysIn l bs) :
  Turn P w K Q (xu d o kvs bs) [it] it (λi h=>h.IsKeyIter it d i n ep) where
 mem:=by simp
 obj:=λi h st b a=>by
  have e:b=it:=by simpa using a
  subst e;obtain⟨o,e,c,d⟩:=st;exact⟨o,e,λv z=>by rw[d] at z;contradiction⟩
 keep:=λi h h' st k=>by obtain⟨o,e,c,d⟩:=st;exact⟨o,k it (by simp) o e,c,d⟩
 item:=by
  intro X t hw u L i f s σ H E I p st x;subst t hw u J;obtain⟨y,A,R,B,C,D⟩:=p it (by simp);obtain⟨hd,S⟩:=x;obtain⟨g,ok⟩:=I.au d _ hd;obtain⟨es',M,N,O,j,F,g3,T,_,_⟩:=uT ok;rw[g] at j;cases j;rw[m] at g3;cases g3;have q:i<l.size:=by omega
  refine Pb st ⟨o,g,F,m⟩ q λh' r U=>?_;have Y:Inv X f σ H {s with heap:=h',toks:=s.toks}:=I.turned (λb o a e=>(U.2 b a).trans e) y A B C D;obtain⟨b,tb,G⟩:=a i q;obtain⟨N,e,c,dd⟩:=id r;exact⟨_,ρ,pM e c dd ρ ⟨.ref b,H,Y,by rw[G];rfl,⟨ρ,b,tb,ρ⟩,r,λb a=>(p b a).1⟩⟩
 done:=by intro X t hw u L i f s σ H E I p st x;subst t hw u J;obtain⟨y,A,R,B,C,D⟩:=p it (by simp);obtain⟨hd,S⟩:=x;obtain⟨g,ok⟩:=I.au d _ hd;obtain⟨es',M,N,O,j,F,g3,T,_,_⟩:=uT ok;rw[g] at j;cases j;rw[m] at g3;cases g3;exact M7 (I.ok.hd L) st ⟨o,g,F,m⟩ (by lia) λh' G=>⟨ρ,I.turned (λb o a e=>G b o a e) y A B C D⟩
 self:=λ_ _ _ _ _ st h=>ad0 st h
def Inv.P6 (I:Inv X f σ H s)(e:H d=ac (.dT kvs))(j:s.heap.get? d=ac o):Inv X f σ (upd H d<|.bq o<|.dT kvs) s:=by
  have g:∀b u,H b=ac u->u≠.dT kvs->b≠d:=by lia
  have un:Un X.fs [] H (upd H d<|.bq o<|.dT kvs) s.heap s.heap :=
    ⟨λb a q _ _ _=>q,λb a q _ _ _=>⟨a.slots,q⟩,λb a q n _=>by rw[aA (λz=>by simp_all)];exact n,λb a q _=>⟨a,q⟩,
     λb xs q=>by rw[aA (g b _ q ⋯)];exact q,λb a u q=>by rw[aA (g b _ q ⋯)];exact q,λb ps q=>⟨#[],by rw[aA (g b _ q ⋯),q];simp⟩⟩
  have st:∀b u,cF X.prog X.w H s.heap b u->cF X.prog X.w (upd H d<|.bq o<|.dT kvs) s.heap b u:=λb u x =>
    x.gp (λc v _ q=>q) (λc q=>by rw[aA (g c _ q ⋯)];exact q) λc xs q=>by rw[aA (g c _ q ⋯)];exact q
  have au:cb X.prog X.w (upd H d<|.bq o<|.dT kvs) s.heap:=λb u q=>by
    by_cases i:b=d
    · subst i;rw[bb] at q;obtain rfl:=sO q;exact⟨j,st _ _<|I.au _ _ e⟩
    rw[aA i] at q;exact st _ _<|I.au b u q
  exact I.un un au
def K0(te:TE):TI:=fun σ H R=>te σ H λv a=>∃d kvs,v=.ref d/\a d=ac (.dT kvs)/\∀o bs,mj a kvs bs->R (xu d o kvs bs) (upd a d<|.bq o<|.dT kvs)
def EH (l:PE X e te):PI X k e (K0 te):=by refine λc s σ H R I h=>aH (l c s σ H _ I h) λv a g=>?_;obtain⟨y,H1,i,m,n⟩:=g;obtain⟨d,kvs,rfl,hd,q⟩:=n;subst m;have ok:=i.au d _ hd;obtain⟨es,ep,o,bs,f,p,g3,g4,r,t⟩:=uT ok;have j:=fj f;have g:=i.P6 hd f;refine LD ok.2.1 ⟨o,f,p,g3⟩ ⟨a.heap.objs.size,[a.heap.objs.size],_,_,_,ρ,g.kept λb o e=>ee _ e,TR ρ (hG j) g3 t,⟨_,gj _ ρ,ρ,ρ⟩,λb u=>?_,q o bs r⟩;simp[show b=a.heap.objs.size by simpa using u];exact g.ko (eK _)<|g.au.fresh<|eK _
abbrev gz:=List<|List eS×Dat
noncomputable def fK(a:gz)(k:List eS):Option Dat:=(a.find? λp=>am<|p.1=k).map (·.2)
def rK(a:gz)(k:List eS)(d:Dat):gz:=if (fK a k).isSome=bd then a.map (λp=>if p.1=k then (p.1,d) else p) else a++[(k,d)]
noncomputable def kT(k:List eS):List Key:=k.map uy
theorem BJ:kT a=kT b ↔ a=b:=by
 delta kT;constructor
 ·intro h;induction a generalizing b with
  | nil=>simp_all
  | cons x a c=>cases b with
   | nil=>contradiction
   | cons y b=>obtain⟨e,f⟩:=List.cons.inj h;rw[Sum.inr.inj e,c f]
 intro h;rw[h]
def xK(k):(kT k).map kV=k.map V.str:=by delta kT;rw[fm];rfl
theorem bX.length:∀{a:gz}{kvs:List (List Key×V)},bX K H a kvs->kvs.length=a.length
 | [],_,h=>by rw[show _=[] from h];rfl
 | (_,_)::_,_,b=>by obtain⟨v,r,e,q,t⟩:=b;simp only[e,gW,gW,bX.length t]
theorem bX.find:∀{c:gz}{kvs:List (List Key×V)}(k:List eS),bX K H c kvs->(∀d,fK c k=ac d->∃v,fM kvs (kT k)=ac v/\Rep K H d v)/\(fK c k=al->fM kvs (kT k)=al)
 | [],_,k,h=>by rw[show _=[] from h];exact⟨λd z=>by simp[fK] at z,λ_=>rfl⟩
 | (f,d')::c,_,k,j=>by
  obtain⟨v,r,e,q,t⟩:=j;rw[show _=(kT f,v)::r from e];obtain⟨a,b⟩:=bX.find k t;by_cases g:f=k
  ·subst g;have i:fK ((f,d')::c) f=ac d':=by simp[fK]
   rw[i,p5 ρ];exact⟨λd z=>⟨v,ρ,by obtain rfl:=sO z;exact q⟩,λz=>by contradiction⟩
  have i:fK ((f,d')::c) k=fK c k:=by simp[fK,g]
  rw[i,qF<|λz=>g<|BJ.1 z];exact⟨a,b⟩
theorem bX.has (k:List eS)(h:bX K H c kvs):(fM kvs<|kT k).isSome=(fK c k).isSome:=by
 obtain⟨a,b⟩:=h.find k;cases e:fK c k with
 | none=>rw[b e];rfl
 | some d=>obtain⟨v,f,_⟩:=a d e;rw[f];rfl
theorem bX.js:∀{a:gz}{kvs:List (List Key×V)}(k:List eS) {d:Dat}{v:V},bX K H a kvs->Rep K H d v->bX K H (a.map λp=>if p.1=k then (p.1,d) else p) (kvs.map λp=>if p.1=kT k then (p.1,v) else p)
 | [],_,k,_,_,h,_=>by simp only[show _=[] from h];exact ρ
 | (b,d')::a,_,k,d,v,g,c=>by
  obtain⟨w,r,e,q,t⟩:=g;rw[show _=(kT b,w)::r from e,hS,hS];by_cases f:b=k
  ·subst f;rw[if_pos ρ,if_pos ρ];exact⟨v,_,ρ,c,bX.js b t c⟩
  rw[if_neg f,if_neg<|λz=>f<|BJ.1 z];exact⟨w,_,ρ,q,bX.js k t c⟩
theorem bX.snoc:∀{b:gz}{kvs:List (List Key×V)}(k:List eS) {d:Dat}{v:V},bX K H b kvs->Rep K H d v->bX K H (b++[(k,d)]) (kvs++[(kT k,v)])
 | [],_,k,_,v,h,a=>by rw[show _=[] from h];exact⟨v,[],ρ,a,ρ⟩
 | (_,_)::_,_,k,_,_,c,a=>by obtain⟨w,r,e,q,t⟩:=c;exact⟨w,r++_,by rw[e];rfl,q,bX.snoc k t a⟩
def bX.put{a:gz}{kvs:List (List Key×V)}(k:List eS){d:Dat}{v:V}(h:bX K H a kvs)(b:Rep K H d v):bX K H (rK a k d) (putK kvs (kT k) v):=by
 delta rK putK;rw[sC,h.has k];split
 ·exact h.js k b
 exact h.snoc k b
theorem Dz:∀{a:gz}{kvs:List (List Key×V)},bX K H a kvs->kvs.map (·.1)=a.map λk=>kT k.1
 | [],_,h=>by rw[show _=[] from h];rfl
 | (_,_)::_,_,b=>by obtain⟨v,r,e,q,t⟩:=b;simp only[e,hS,hS,Dz t];rfl
abbrev UF:=DS->Option (List eS×DS)
def mr(X:Cx)(e:hE)(f:UF):Prop:=∃t,PE X e t/\∀(H0:Hp×Hp) (ps:Nat->Option dk) (Z:DS) (σ:St) (H Hi:Hp) (l:List eS) (b:DS) (Q:VK),f Z=ac (l,b)->SR X.K H0 ps Z σ H Hi ->
 (∀p c a,SR X.K H0 ps b σ c a->aj Hi a->a p=ac (.U<|(kT l).map kV)->Q (.ref p) c)->t σ H Q
def zP(f:AF):UF:=λZ=>(f Z).bind λp=>if p.1.length<=cA then (dF p.1).map λl=>(l,p.2) else al
def xp(f:AF):UF:=λZ=>(f Z).bind λp=>match p.1 with
 | [.L ds]=>(dF ds).map λl=>(l,p.2)
 | _=>al
def QT {c}(h:DA X a f):mr X (.Tuple a c pos) (zP f):=by
 obtain⟨t,p,q⟩:=h;refine⟨_,C8 p,λH0 ps Z σ H Hi l Z' Q e S k=>?_⟩;obtain⟨ds,Z1,g,e⟩:=oB e;split at e
 ·rename_i hz;obtain⟨l',i,e⟩:=oM e;obtain⟨rfl,rfl⟩:=sP e;refine q H0 ps Z σ H Hi ds _ _ g S λvs H1 Hi1 j m b=>⟨by rw[b.length];exact hz,λp n=>?_⟩;obtain⟨r,s⟩:=j.laid n;apply k p _ _ r<|m.trans s;rw[bb,kz i b,xK]
 exact nO e
def KH (g:Gl X "tuple")(i:X.mg "tuple"=al)(j:bA X e [])(m:DA X [e] fa):mr X (.Call (.Name "tuple" p) [e] [] pos) (xp fa):=by
 obtain⟨t,n,q⟩:=m;refine⟨_,vh G5 g i (by decide +kernel) n ⋯ ρ j ρ,λH0 ps Z σ H Hi l Z' Q b S k=>?_⟩;obtain⟨ds,Z1,r,b⟩:=oB b;dsimp only at b;split at b
 ·obtain⟨l',s,b⟩:=oM b;obtain⟨rfl,rfl⟩:=sP b;refine q H0 ps Z σ H Hi _ _ _ r S λvs H1 Hi1 c u x=>?_;obtain⟨v,vr,rfl,⟨a,f,rfl,y,rs⟩,z⟩:=x;subst z;refine⟨a,f,ρ,ι ⟨ι<|Rd.mono c.sub y,λp A=>?_⟩⟩;obtain⟨B,C⟩:=c.laid A;apply k p _ _ B<|u.trans C;rw[bb,kz s rs,xK]
 exact nO b
noncomputable def Gr:EF:=λZ=>ac (.O<|.bj false [],Z)
def qO(i:Nat)(b:UF)(f:DF):SF:=λZ=>(f Z).bind λp=>((p.2[i]?).bind ownOf).bind λ_=>(b p.2).bind λq=>((q.2[i]?).bind ownOf).bind λs=>match s.2 with
 | .bj _ a=>if a.length<cA then ac (.next<|q.2.set i<|kindAt s.1<|.bj false<|rK a q.1 p.1) else al
 | _=>al
def RO (i:Nat)(J:X.A.units+1<u2)(L:X.N[i]?=ac x)(M:cx X.env.scope x)(h:DD X e f)(O:mr X g r)(hd:bP x:=by decide)(s:cY x:=by decide)(hs:HT e (ac<|.Subscript (.Name x m) g pt) pos.line X.env=pure false:=by rfl):cK X (.Assign [.Subscript (.Name x m) g pt] e pos) (qO i r f):=by
 obtain⟨t,p,q⟩:=h;obtain⟨tk,Q,R⟩:=O;refine⟨_,Az J (fH L M hd s) Q p hs,λH0 ps Z σ H Hi o D e S k=>?_⟩;obtain⟨d,Z1,T,e⟩:=oB e;obtain⟨b0,c0,U,e⟩:=oB e;obtain⟨n,Z2,V,e⟩:=oB e;obtain⟨io,c,u,e⟩:=oB e;dsimp only at e;split at e
 ·split at e
  ·rename_i hz;obtain rfl:=sO e;refine q H0 ps Z σ H Hi d Z1 _ T S λv W B C Y r1=>?_;obtain⟨a,j,_⟩:=C.at<|kn U;refine⟨.ref a,j,R H0 ps Z1 σ W B _ Z2 _ V C λy H2 E l F r2=>?_⟩;obtain⟨b,G,ob⟩:=l.at<|kn u;rw[j] at G;cases G;obtain⟨z,kvs,h1,I,h3⟩:=ob;refine⟨a,_,ρ,lj.t h1 (l.sub _ _ r2) (by rw[bX.length I];exact hz),?_⟩;exact k σ _ E (l.write (kn u) j ⟨ρ,_,bb,bX.put n I<|Rep.mono F r1,h3⟩)<|Y.trans F
  exact nO e
 exact nO e
theorem SR.share(S:SR K H0 ps Z σ H Hi)(e:H b=ac (.U vs)):∃f,SR K H0 ps Z σ H f/\aj Hi f/\f b=ac (.U vs)/\∀q u,f q=ac u->Hi q=ac u\/∃vs,u=.U vs:=by
 cases z:Hi b with
 | some u=>have:=S.sub _ _ z;rw[e] at this;obtain rfl:=sO this;exact⟨Hi,S,aj.refl _,z,λ_ _ h=>ι h⟩
 | none =>
  have sm:aj Hi (upd Hi b<|.U vs):=jY z;have ne:∀{q:dk}{c:Dat},cE K H Hi q c->q≠b:=λh y=>by subst y;exact h.nt e
  refine⟨_,⟨C7 S.sub e,S.keep,S.fJ,λi d h=>?_,λi c h=>?_,λi c h=>?_,S.ne,S.len,λq u h=>?_⟩,sm,bb,λq u h=>?_⟩
  ·obtain⟨v,a,r⟩:=S.D i d h;exact⟨v,a,Rep.mono sm r⟩
  ·obtain⟨q,a,o,j,k⟩:=S.O i c h;exact⟨q,a,o.keeps ρ sm (by rw[aA (ne o)];exact o.some.2),j,k⟩
  ·obtain⟨q,a,o,j⟩:=S.io i c h;exact⟨q,a,o.keeps ρ sm (by rw[aA (ne o)];exact o.some.2),j⟩
  ·by_cases g:q=b
   ·subst g;rw[bb] at h;cases h;exact τ<|τ ⟨vs,ρ⟩
   rw[aA g] at h;exact S.nw q u h
  by_cases g:q=b
  ·subst g;rw[bb] at h;obtain rfl:=sO h;exact τ ⟨vs,ρ⟩
  rw[aA g] at h;exact ι h
theorem SR.Aq (k:mj H kvs bs):∀{Hi:Hp},SR K H0 ps Z σ H Hi->∃a,SR K H0 ps Z σ H a/\aj Hi a/\mj a kvs bs/\∀q u,a q=ac u->Hi q=ac u\/∃vs,u=.U vs:=by
 induction k with
 | nil=>exact λS=>⟨_,S,aj.refl _,.nil,λ_ _ h=>ι h⟩
 | cons h _ c=>intro Hi S;obtain⟨H1,f,g,i,j⟩:=S.share h;obtain⟨l,m,b,n,o⟩:=c f;exact⟨l,m,g.trans b,.cons (b _ _ i) n,λq u e=>(o q u e).elim (j q u) τ⟩
def SR.hold (S:SR K H0 ps Z σ H Hi)(e:Z[i]?=ac (.O c))(m:σ[i]?=ac (ac<|.ref p))(r:Rep K (upd Hi p o) d' (.ref p)):SR K H0 ps (Z.set i<|.D d') σ (upd H p o) (upd Hi p o)/\aj Hi (upd Hi p o):=by
 obtain⟨p',l,B,nl,C⟩:=S.O i _ e;rw[m] at l;cases l;have t:=(cm.1 e).1;have sm:aj Hi (upd Hi p o):=jY B.some.2;have back:∀{j:Nat}{s:Slot},(Z.set i<|.D d')[j]?=ac s->(∀d,s≠.D d)->j≠i/\Z[j]?=ac s:=λ{j s} h D=>by
  by_cases f:j=i
  ·subst f;rw[tm t] at h;obtain rfl:=sO h;cases D _ ρ
  rw[mA (Ne.symm f)] at h;exact⟨f,h⟩
 refine⟨⟨yk S.sub,λb u E F=>?_,λq x=>?_,λj d h=>?_,λj c h=>?_,λj c h=>?_,λj k c G q I J=>?_,by rw[I1];exact S.len,λq u eq=>?_⟩,sm⟩
 ·rw[aA (λz=>by simp_all)];exact S.keep b u E F
 ·have y:q≠p:=λz=>nl (z ▸ x);rw[aA y];exact S.fJ q x
 ·by_cases f:j=i;simp_all;rw[mA (Ne.symm f)] at h;obtain⟨v,a,b⟩:=S.D j d h;exact⟨v,a,b.mono sm⟩
 ·obtain⟨f,h⟩:=back h (by intro d z;contradiction);obtain⟨q,a,b,n,L⟩:=S.O j c h;have g:q≠p:=λz=>f<|S.ne j i _ _ p (ι h) (ι e) (z ▸ a) m;exact⟨q,a,b.keeps (aA g) sm (by rw[aA g];exact b.some.2),n,L⟩
 ·obtain⟨f,h⟩:=back h (by intro d z;contradiction);obtain⟨q,a,b,n⟩:=S.io j c h;have g:q≠p:=λz=>f<|S.ne j i _ _ p (τ h) (ι e) (z ▸ a) m;exact⟨q,a,b.keeps (aA g) sm (by rw[aA g];exact b.some.2),n⟩
 ·have M:=I.imp (λz=>(back z ⋯).2) λz=>(back z ⋯).2;have N:=J.imp (λz=>(back z (by simp)).2) λz=>(back z (by simp)).2;exact S.ne j k c G q M N
 by_cases A:q=p
 ·subst A;exact τ<|ι C
 rw[aA A] at eq;exact S.nw q u eq
def SR.held (S:SR K H0 ps Z σ H Hi)(n:cE K H Hi p c)(nl:¬gN ps p)(r:H0.1 p=al)(nd:∀(i:Nat) (g:Dat),(Z[i]?=ac (.O g)\/Z[i]?=ac (.io g))->σ[i]?≠ac (ac<|.ref p)):SR K H0 ps Z σ (upd H p o) (upd Hi p o)/\aj Hi (upd Hi p o):=by
 have sm:aj Hi (upd Hi p o):=jY n.some.2;refine⟨⟨yk S.sub,λb u s t=>?_,λq k=>?_,λj d h=>?_,λj c h=>?_,λj c h=>?_,S.ne,S.len,λq u eq=>?_⟩,sm⟩
 ·rw[aA (λz=>by simp_all)];exact S.keep b u s t
 ·have l:q≠p:=λz=>nl (z ▸ k);rw[aA l];exact S.fJ q k
 ·obtain⟨v,a,b⟩:=S.D j d h;exact⟨v,a,b.mono sm⟩
 ·obtain⟨q,a,b,f,x⟩:=S.O j c h;have e:q≠p:=λz=>nd j c (ι h) (z ▸ a);exact⟨q,a,b.keeps (aA e) sm (by rw[aA e];exact b.some.2),f,x⟩
 ·obtain⟨q,a,b,f⟩:=S.io j c h;have e:q≠p:=λz=>nd j c (τ h) (z ▸ a);exact⟨q,a,b.keeps (aA e) sm (by rw[aA e];exact b.some.2),f⟩
 by_cases m:q=p
 ·subst m;exact τ<|ι r
 rw[aA m] at eq;exact S.nw q u eq
noncomputable def jE(a:gz):List Dat:=a.map λk=>.U<|k.1.map .str
theorem BL:∀l:List eS,ay K H (l.map .str) (l.map V.str)
 | []=>rfl
 | x::l=>⟨_,_,ρ,ρ,BL l⟩
def C3 (f:Hi p=ac (.bq o<|.dT kvs))(g:bX K Hi a kvs)(kb:mj Hi kvs bs):JW K (xu p o kvs bs) (jE a) Hi:=by
 intro j H2 i;have hl:=bX.length g;have lk:(jE a).length=a.length:=by unfold jE;rw[ab]
 refine⟨λd c=>⟨⟨i _ _ f,?_⟩,λv H3 n=>ι ?_⟩,λh=>⟨i _ _ f,?_⟩⟩
 ·have:=(cm.1 c).1;omega
 ·obtain⟨rfl,b,q,rfl⟩:=n;refine⟨ρ,?_⟩;have k:j<a.length:=by have:=(cm.1 c).1;omega
  have l:kvs[j]?=ac kvs[j]:=bt (by omega);have m:=Ao kb j _ _ l q;have e:(kvs.map (·.1))[j]?=ac kvs[j].1:=by rw[c6,l];rfl
  simp only[Dz g,c6,bt k] at e;have e:=Option.some.inj e;unfold jE at c;simp only[c6,bt k] at c;obtain rfl:=sO c;rw[<-e,xK] at m;exact⟨b,_,ρ,ba.of m,BL _⟩
 omega
def zo(i:Nat):IF:=λZ=>match Z[i]? with
 | some (.O<|.bj _ a)=>ac (jE a,Z.set i<|.D<|.bj true a)
 | _=>al
def sE(f:EF):IF:=λZ=>(f Z).bind λp=>match p.1 with
 | .O (.bj _ a)=>ac (jE a,p.2)
 | _=>al
def mL(neg:Bool)(i:Nat)(b:UF):EF:=λZ=>(b Z).bind λq=>((q.2[i]?).bind jC).bind λc=>match c with
 | .bj _ a=>ac (.D<|.bl (if neg then !(fK a q.1).isSome else (fK a q.1).isSome),q.2)
 | _=>al
theorem DB (t:Top K H Hi v (.bj a b)):∃p kvs,v=.ref p/\Rd H p (.dT kvs)/\bX K Hi b kvs:=by
 obtain⟨p,o,kvs,e,c,f⟩:=t;refine⟨p,kvs,e,?_,f⟩;cases a with
 | false=>exact ι c
 | true=>exact τ ⟨o,c⟩
def zp (q:∀(H0:Hp×Hp) (ps:Nat->Option dk) (Z:DS) (σ:St) (H Hi:Hp) (l:List eS) (f:DS) (Q:VK),m Z=ac (l,f)->SR X.K H0 ps Z σ H Hi->(∀p g a,SR X.K H0 ps f σ g a->aj Hi a->a p=ac (.U<|(kT l).map kV)->Q (.ref p) g)->tk σ H Q)(H0)(ps)(Z)(σ)(H Hi)(o)(f)(Q)(e:mL neg i m Z=ac (o,f))(S:SR X.K H0 ps Z σ H Hi)(k:∀v g a,SR X.K H0 ps f σ g a->aj Hi a->RR X.K H0 ps f σ g a v o->Q v g):pL (nP neg) tk (xI i) σ H Q:=by
 obtain⟨l,Z1,r,e⟩:=oB e;dsimp only at e;obtain⟨c,s,e⟩:=oA e;split at e
 ·obtain⟨rfl,rfl⟩:=sP e;refine q H0 ps Z σ H Hi _ _ _ r S λb u n j x y=>?_;obtain⟨v,z,t⟩:=j.peek s;obtain⟨p,kvs,rfl,A,B⟩:=DB t;refine⟨_,z,p,_,ρ,τ ⟨kvs,kT l,b,A,ρ,j.sub _ _ y,ρ⟩,?_⟩;rw[B.has l];exact k _ u n j x ρ
 exact nO e
def Mz (f:X.A.units+1<u2)(g:X.N.findIdx? (·==x)=ac i)(j:cx X.env.scope x)(hd:bP x)(e:cY x)(k:z3 .In (.Name x b)=bi)(l:mr X a c):DE X (.Compare a [.In] [.Name x b] pos) (mL false i c):=by obtain⟨t,p,q⟩:=l;exact⟨_,Gj (ye f) p (fH (eA g) j hd e) k,zp q⟩
def CB (q:∀(H0:Hp×Hp) (ps:Nat->Option dk) (Z:DS) (σ:St) (H Hi:Hp) (o:Res) (e:DS) (Q:VK),f Z=ac (o,e)->SR X.K H0 ps Z σ H Hi->(∀v g a,SR X.K H0 ps e σ g a->aj Hi a->RR X.K H0 ps e σ g a v o->Q v g)->t σ H Q)(H0)(ps)(Z)(σ)(H Hi)(c)(e)(Q)(b:fx f Z=ac (c,e))(S:SR X.K H0 ps Z σ H Hi)(k:∀g a,SR X.K H0 ps e σ g a->aj Hi a->Q c g):ya t σ H Q:=by
 obtain⟨r,Z1,j,b⟩:=oB b;dsimp only at b;split at b
 ·obtain⟨rfl,rfl⟩:=sP b;refine q H0 ps Z σ H Hi _ _ _ j S λv l i m n p=>?_;exact⟨_,p,k l i m n⟩
 exact nO b
def HB (f:X.A.units+1<u2)(g:X.N.findIdx? (·==x)=ac i)(j:cx X.env.scope x)(hd:bP x)(e:cY x)(k:z3 .In (.Name x b)=bi)(l:mr X a c):DT X (.Compare a [.In] [.Name x b] pos) (fx<|mL false i c):=by obtain⟨t,p,q⟩:=l;exact⟨_,Ab (ye f) p (fH (eA g) j hd e) k,CB<|zp q⟩
def IK (f:X.A.units+1<u2)(g:X.N.findIdx? (·==x)=ac i)(j:cx X.env.scope x)(hd:bP x)(e:cY x)(k:z3 .NotIn (.Name x b)=bi)(l:mr X a c):DT X (.Compare a [.NotIn] [.Name x b] pos) (fx<|mL true i c):=by obtain⟨t,p,q⟩:=l;exact⟨_,Ab (AD f) p (fH (eA g) j hd e) k,CB<|zp q⟩
def yt:List Dat->Option Res
 | [.bj _ a]=>ac (.D<|.int (a.length:Int))
 | ds=>zO ds
def Qv:CD X (λxs H Q=>xG X.K xs H Q\/(λxs H Q=>∃a kvs,xs=[V.ref a]/\Rd H a (.dT kvs)/\Q (.int kvs.length) H) xs H Q) yt:=by
 intro H0 ps Z σ H Hi vs ds o Q e S r k;delta yt at e;split at e
 ·obtain rfl:=sO e;obtain⟨v,vr,rfl,b,c⟩:=r;subst c;obtain⟨p,kvs,rfl,f,g⟩:=DB<|b.top S.sub;refine τ ⟨p,kvs,ρ,f,?_⟩;apply k _ H Hi S<|aj.refl _;show V.int _=V.int _;rw[bX.length g]
 exact ι<|Qq H0 ps Z σ H Hi vs ds o Q e S r k
def RF (a:Gl X "len")(b:X.mg "len"=al)(c:bA X e [])(f:DA X [e] fa):DE X (.Call (.Name "len" p) [e] [] pos) (bO yt fa):=gB (bM.or Cs (by
  intro pins s σ H xs us Q I r h;obtain⟨a,kvs,rfl,c,q⟩:=h;obtain⟨u,rfl,e⟩:=vals1 r;subst e;have ok:=yb I.au c;have z:=ok.1;obtain⟨es,ep,o,bs,f,g,g3,b,g5,g6⟩:=uT ok;refine Tr ok.2.1 ⟨o,f,g,g3⟩ (by rw[b];simp only[za] at z;lia) λt t'=>?_
  rw[b];exact⟨.int kvs.length,H,I.tok _,⟨t,ρ⟩,q⟩)) Qv a b ab2 f ⋯ ρ c ρ
def Kp (j:X.N.findIdx? (·==x)=ac i)(k:cx X.env.scope x)(l:X.A.units+1<u2)(hd:bP x)(g:cY x)(hs:HT e (ac<|.Subscript (.Name x b) a pt) pos.line X.env=pure false)(h:DD X e f)(m:mr X a c):cK X (.Assign [.Subscript (.Name x b) a pt] e pos) (qO i c f):=RO i l (eA j) k h m hd g hs
structure mR (x:eS):Prop where
 ok:True
def Mu (ht:mR x)(b:X.N.Nodup)(c:X.N.findIdx? (·==x)=ac i)(e:Loc X.env.scope x)(f:X.fn x=bd\/X.env.scope.names.lookup x=some .local)(hs:HT (.Dict [] [] p) (ac<|.Name x a) pos.line X.env=pure false):cK X (.Assign [.Name x a] (.Dict [] [] p) pos) (iE i Gr):=wj b c e f hs (by
  refine⟨_,OW,λH0 ps Z σ H Hi r Z' Q a S k=>?_⟩
  obtain⟨rfl,rfl⟩:=sP a;exact λl hl=>k (.ref l) _ Hi (S.made hl) (aj.refl _) ⟨l,ρ,⟨ρ,_,bb,ρ,S.cX hl⟩,(S.bz hl).2,(S.bz hl).1,S.dA hl⟩)
end
def Bs(a b:dk):It:=⟨λi H=>∃xs ys x y,Rd H a (.L xs)/\Rd H b (.L ys)/\xs[i]?=ac x/\ys[i]?=ac y,λi H v c=>∃p x y,H p=al/\v=.ref p/\c=upd H p (.U [x,y])/\(∀xs,Rd H a (.L xs)->xs[i]?=ac x)/\∀ys,Rd H b (.L ys)->ys[i]?=ac y,λi H=>∃xs ys,Rd H a (.L xs)/\Rd H b (.L ys)/\(xs.length<=i\/ys.length<=i)⟩
def Q9{P:hY}{w:nR}{K:f'}{elts:List hE}{x1:Nat}{Y:y4}{a b z TI TO g j:dk}(D:ZipApart z TI TO g j a b) :
  Turn P w K (.Tuple elts x1 Y) (Bs a b) [z,TI,TO,g,j] z (λi h=>IsZip h z TI TO .none/\IsPair h TI (.ref g) (.ref j)/\(∃u v,IsPair h TO u v)/\h.IsListIter g a i/\h.IsListIter j b i) where
 mem:=by simp
 obj:=λi h st c l=>by
  obtain⟨hz,C,⟨u,v,G⟩,⟨o1,Z,c1,d1⟩,⟨o2,e2,c2,d2⟩⟩:=st;simp at l;rcases l with rfl|rfl|rfl|rfl|rfl
  ·exact⟨_,hz,λv z=>by contradiction⟩
  ·exact⟨_,C,λv z=>by contradiction⟩
  ·exact⟨_,G,λv z=>by contradiction⟩
  ·exact⟨o1,Z,λv z=>by rw[d1] at z;contradiction⟩
  exact⟨o2,e2,λv z=>by rw[d2] at z;contradiction⟩
 keep:=λi h h' st k=>⟨k z (by simp) _ st.1,k TI (by simp) _ st.2.1,st.2.2.1.imp λu e=>e.imp λv q=>k TO (by simp) _ q,st.2.2.2.1.at λo q=>k g (by simp) o q,st.2.2.2.2.at λo q=>k j (by simp) o q⟩
 item:=by
  intro X hP hw hK d i J s σ H E I F st hg;obtain⟨hz,C,⟨u0,v0,G⟩,S,T⟩:=st;obtain⟨xs,ys,x,y,U,M,hx,hy⟩:=hg;obtain⟨_,its,n,rv,ea⟩:=U.ok I.au;obtain⟨_,its',n',N,O⟩:=M.ok I.au;obtain⟨u,hu,ru⟩:=rv.get hx;obtain⟨V,Vh,Vi⟩:=N.get hy;have p:=F z (by simp);have t:=F TO (by simp);have A:=F g (by simp);have B:=F j (by simp);have lt:∀{c:dk}{o:z5},s.heap.get? c=ac o->c≠s.heap.objs.size:=λe=>hG<|fj e;refine wpAny_pyNext_zip_item D hz C G S T ⟨_,ea,ρ,n,ρ⟩ ⟨_,O,ρ,n',ρ⟩ (by simpa using hu) (by simpa using Vh) λh3 g1 g2 g3 g4 g5 g6 g7=>?_;refine⟨_,ρ,wpAny_letOwnedTupleGo_zip g1 λQ f1 L=>?_⟩;have L:Yi z h3 Q:=L;have fr:=I.au.fresh<|eK _;have cj:∀c o,c≠z->c≠TO->c≠g->c≠j->s.heap.get? c=ac o->Q.get? c=ac o:=λc o k1 k2 k3 k4 q=>(L.2 c k1).trans (g7 c o k1 k2 k3 k4 q);have ht:=(L.2 _<|Ne.symm<|lt hz).trans g5;have f:∀{c:dk},c∉[z,TO,g,j]->c≠z/\c≠TO/\c≠g/\c≠j:=λ{c} h=>⟨λe=>h (by simp[e]),λe=>h (by simp[e]),λe=>h (by simp[e]),λe=>h (by simp[e])⟩;have eC:∀c w,H c=ac w->c≠z/\c≠TO/\c≠g/\c≠j:=λc w q=>⟨cZ q p.1,cZ q t.1,cZ q A.1,cZ q B.1⟩;have R:∀c w,H c=ac w->c≠s.heap.objs.size:=λc w q=>cZ q fr;refine⟨.ref s.heap.objs.size,upd H s.heap.objs.size<|.U [x,y],?_,ρ,⟨_,x,y,fr,ρ,ρ,λzs hz=>by rw[hz.zL U];exact hx,λzs hz=>by rw[hz.zL M];exact hy⟩,⟨f1,?_,⟨u,V,(L.2 _ D.TOz).trans g2⟩,?_,?_⟩,λc l=>?_⟩
  ·show Inv X J σ (upd H s.heap.objs.size<|.U [x,y]) {s with heap:=Q,gens:=s.gens,drawn:=s.drawn,toks:=s.toks};refine Inv.step I (λb l=>?_) (λb o _ _ d q _=>cj b o (f d).1 (f d).2.1 (f d).2.2.1 (f d).2.2.2 q) (λb o _ _ d q _=>⟨o.slots,cj b o (f d).1 (f d).2.1 (f d).2.2.1 (f d).2.2.2 q⟩)
    (λb o d q n=>by rw[aA (hG<|fj q)];exact n) (λb o d q=>⟨o,cj b o (f d).1 (f d).2.1 (f d).2.2.1 (f d).2.2.2 q⟩) (λb ys q=>by rw[aA (R b _ q)];exact q) (λb ob w q=>by rw[aA (R b _ q)];exact q)
    (λb ps q=>⟨#[],by rw[aA (R b _ q),q];simp⟩) (λm hm=>?_) (λb w q=>?_) I.bare
   ·simp at l;rcases l with rfl|rfl|rfl|rfl
    ·exact⟨p.2.2.2.1,p.2.1,p.2.2.2.2.1,p.2.2.2.2.2⟩
    ·exact⟨t.2.2.2.1,t.2.1,t.2.2.2.2.1,t.2.2.2.2.2⟩
    ·exact⟨A.2.2.2.1,A.2.1,A.2.2.2.2.1,A.2.2.2.2.2⟩
    exact⟨B.2.2.2.1,B.2.1,B.2.2.2.2.1,B.2.2.2.2.2⟩
   ·obtain⟨o,es,ep,ho,r⟩:=hm;exact⟨o,es,ep,cj _ o (Ne.symm p.2.1) (Ne.symm t.2.1) (Ne.symm A.2.1) (Ne.symm B.2.1) ho,r⟩
   by_cases l:b=s.heap.objs.size
   ·subst l;rw[bb] at q;obtain rfl:=sO q;exact⟨by show 2<=cA;unfold cA;decide,[u,V],.cons ru<|.cons Vi .nil,_,ht,rfl,_,rfl⟩
   rw[aA l] at q;refine (I.au b w q).gp (λc v d r=>?_) (λc r=>by rw[aA (R c _ r)];exact r) λc ys r=>by rw[aA (R c _ r)];exact r
   rcases d with rfl|d
   ·exact cj c v (eC _ _ q).1 (eC _ _ q).2.1 (eC _ _ q).2.2.1 (eC _ _ q).2.2.2 r
   exact cj c v (eC _ _ d).1 (eC _ _ d).2.1 (eC _ _ d).2.2.1 (eC _ _ d).2.2.2 r
  ·exact cj TI _ D.TIz D.TITO D.TIi1 D.TIi2 C
  ·exact g3.at λo q=>(L.2 _ D.i1z).trans q
  ·exact g4.at λo q=>(L.2 _ D.i2z).trans q
  have Vl:c≠s.heap.objs.size:=by
   obtain⟨o1,Z,_⟩:=S;obtain⟨o2,e2,_⟩:=T;simp at l;rcases l with rfl|rfl|rfl|rfl|rfl
   ·exact lt hz
   ·exact lt C
   ·exact lt G
   ·exact lt Z
   exact lt e2
  rw[aA Vl];exact (F c l).1
 done:=by
  intro X hP hw hK d i J s σ H E I F st hg;obtain⟨hz,C,⟨u0,v0,G⟩,S,T⟩:=st;obtain⟨xs,ys,U,M,hl⟩:=hg;obtain⟨_,its,n,rv,ea⟩:=U.ok I.au;obtain⟨_,its',n',N,O⟩:=M.ok I.au;have l1:=rv.length;have l2:=N.length;refine wpAny_pyNext_zip_end (I.ok.hd d) D hz C G S T ⟨_,ea,ρ,n,ρ⟩ ⟨_,O,ρ,n',ρ⟩ (hl.imp (λz=>by simp;lia) λz=>by simp;lia) λh' k=>?_;have p:=F z (by simp);have t:=F TO (by simp);have A:=F g (by simp);have B:=F j (by simp);have cj:∀c o,c≠z/\c≠TO/\c≠g/\c≠j->s.heap.get? c=ac o->h'.get? c=ac o:=λc o q e=>k c o q.1 q.2.1 q.2.2.1 q.2.2.2 e;have f:∀{c:dk},c∉[z,TO,g,j]->c≠z/\c≠TO/\c≠g/\c≠j:=λ{c} h=>⟨λe=>h (by simp[e]),λe=>h (by simp[e]),λe=>h (by simp[e]),λe=>h (by simp[e])⟩;have eC:∀c w,H c=ac w->c≠z/\c≠TO/\c≠g/\c≠j:=λc w q=>⟨cZ q p.1,cZ q t.1,cZ q A.1,cZ q B.1⟩;refine⟨ρ,?_⟩;show Inv X J σ H {s with heap:=h',gens:=s.gens,drawn:=s.drawn,toks:=s.toks};refine Inv.step I (λb l=>?_) (λb o _ _ d q _=>cj b o (f d) q) (λb o _ _ d q _=>⟨o.slots,cj b o (f d) q⟩)
   (λ_ _ _ _ n=>n) (λb o d q=>⟨o,cj b o (f d) q⟩) (λ_ _ q=>q) (λ_ _ _ q=>q) (λb ps q=>⟨#[],by rw[q];simp⟩) (λm hm=>?_) (λb w q=>?_) I.bare
  ·simp at l;rcases l with rfl|rfl|rfl|rfl
   ·exact⟨p.2.2.2.1,p.2.1,p.2.2.2.2.1,p.2.2.2.2.2⟩
   ·exact⟨t.2.2.2.1,t.2.1,t.2.2.2.2.1,t.2.2.2.2.2⟩
   ·exact⟨A.2.2.2.1,A.2.1,A.2.2.2.2.1,A.2.2.2.2.2⟩
   exact⟨B.2.2.2.1,B.2.1,B.2.2.2.2.1,B.2.2.2.2.2⟩
  ·obtain⟨o,es,ep,ho,r⟩:=hm;exact⟨o,es,ep,cj _ o ⟨Ne.symm p.2.1,Ne.symm t.2.1,Ne.symm A.2.1,Ne.symm B.2.1⟩ ho,r⟩
  refine (I.au b w q).gp (λc v d r=>?_) (λc r=>r) λc ys r=>r;rcases d with rfl|d
  ·exact cj c v (eC _ _ q) r
  exact cj c v (eC _ _ d) r
 self:=λ_ _ _ _ _ st h=>aeS st.1 h
section
variable{X:Cx}
def L1:Yo "zip"=ac (.type "zip"):=by decide +kernel
def NV(d:TA):TI:=λe H R=>d e H λvs c=>∃a b xs ys,vs=[.ref a,.ref b]/\Rd c a (.L xs)/\Rd c b (.L ys)/\R (Bs a b) c
def Ho (x:Gl X "zip")(y:X.mg "zip"=al)(z:PA X [a,b] k)(hs:bA X a [b])(l:(Zb pos<|mu [b] X.env).any (·.1)=bi):PI X (.Tuple elts w i) (.Call (.Name "zip" p) [a,b] [] pos) (NV k):=by
 refine λj s A H R I h=>Call_<|mM I x y L1<|Hz (aH (z pos j s A H _ I h) λus d g=>?_) hs l;obtain⟨vs,B,f,C,D⟩:=g;obtain⟨a,b,xs,ys,rfl,E,m,q⟩:=D;obtain⟨u,u',rfl,F,o⟩:=C.two;subst F;subst o;obtain⟨_,its,n,rv,e⟩:=E.ok f.au;obtain⟨_,its',G,rv',r⟩:=m.ok f.au;refine call_zip_2 ⟨_,e,ρ,n,ρ⟩ ⟨_,r,ρ,G,ρ⟩ λh' t J K L M k6 N=>aeS t ?_;refine⟨_,[d.heap.objs.size+4,d.heap.objs.size+2,d.heap.objs.size+3,d.heap.objs.size,d.heap.objs.size+1],_,_,B,ρ,f.kept N,Q9<|zipApart_new (fj e)<|fj r,⟨t,J,⟨_,_,K⟩,L,M⟩,λc v=>?_,q⟩;have g:d.heap.objs.size<=c:=by
  simp at v;rcases v with rfl|rfl|rfl|rfl|rfl
  ·exact Y6 _ _
  ·exact Y6 _ _
  ·exact Y6 _ _
  ·exact eK _
  exact Y6 _ _
 exact f.ko g<|f.au.fresh g
end
noncomputable def pj(as bs:List Dat):List Dat:=(as.zip bs).map λp=>.U [p.1,p.2]
def u4(fa:AF):IF:=λZ=>(fa Z).bind λp=>match p.1 with
 | [.L as,.L bs]=>ac (pj as bs,p.2)
 | _=>al
section
variable{X:Cx}{pos:y4}{prog:hY}{w:nR}{A:pA}{E:cn->cW->Prop}{s:cW}
def Uu (M:Gl X "zip")(N:X.mg "zip"=al)(hs:bA X a [b])(C:(Zb pos<|mu [b] X.env).any (·.1)=bi)(O:DA X [a,b] fa):dh X (.Tuple elts L u) (.Call (.Name "zip" p) [a,b] [] pos) (u4 fa):=by
 obtain⟨t,P,q⟩:=O;refine⟨_,Ho M N P hs C,λQ T Z U H V items Z' R c S k=>?_⟩;unfold u4 at c;obtain⟨as,Z1,W,c⟩:=oB c;dsimp only at c;split at c
 ·rename_i as bs;obtain⟨rfl,rfl⟩:=sP c;refine q Q T Z U H V _ _ _ W S λvs Y D B s1 r1=>?_;obtain⟨v,vr,rfl,⟨a',h,rfl,j,rs⟩,v',vr',rfl,⟨b',e,rfl,f,r⟩,rn⟩:=r1;subst rn;have hl:=rs.length;have hl':=r.length;have lz:(pj as bs).length=min as.length bs.length:=by simp[pj]
  refine⟨a',b',h,e,ρ,Rd.mono B.sub j,Rd.mono B.sub f,k _ Y D B s1 λi H2 g=>⟨λd l=>?_,λhle=>⟨h,e,Rd.mono g j,Rd.mono g f,?_⟩⟩⟩
  ·have hi:i<min as.length bs.length:=by rw[<-lz];exact (cm.1 l).1
   have F:i<as.length:=by omega
   have G:i<bs.length:=by omega
   have I:d=.U [as[i],bs[i]]:=by unfold pj at l;rw[c6,(aaf (z:=(as[i],bs[i]))).2 ⟨bt F,bt G⟩] at l;exact (Option.some.inj l).symm
   subst I;obtain⟨x,ex,rx⟩:=rs.get<|bt F;obtain⟨y,J,ry⟩:=r.get<|bt G;refine⟨⟨h,e,x,y,Rd.mono g j,Rd.mono g f,ex,J⟩,λv H3 yl=>τ ?_⟩;obtain⟨p,x',y',hp,rfl,rfl,m,o⟩:=yl;have m:=m h<|Rd.mono g j;have o:=o e<|Rd.mono g f;rw[ex] at m;rw[J] at o;obtain rfl:=sO m;obtain rfl:=sO o;exact⟨p,_,hp,ρ,λHi' K n=>⟨p,_,ρ,ba.of bb,_,_,ρ,(rx.mono K).mono (jY n),_,_,ρ,(ry.mono K).mono (jY n),ρ⟩⟩
  lia
 exact nO c
theorem uU:∀{a:List eS}{us:List cn},aJ (a.map V.str) us->aaH us a
 | [],_,h=>by cases h;exact .nil
 | x::a,_,h=>by
  cases h with
  | cons r t=>obtain⟨k,e⟩:=(r);subst e;exact .cons x k<|uU t
def vq:List V->Hp->VK->Prop:=λxs H Q=>∃p a,xs=[.ref p]/\Rd H p (.L<|a.map V.str)/\a.length<64/\∀l,H l=al->Q (.ref l) (upd H l<|.L<|(aB a).map V.str)
def BD:bM X (.builtin "sorted") vq:=by
 intro pins s σ H xs us Q I r h;obtain⟨p,d,rfl,j,h64,q⟩:=h;obtain⟨u,rfl,k⟩:=r.one;subst k;obtain⟨z,its,n,f,e⟩:=j.ok I.au;have b:=uU f;have hl:its.length<64:=by have:=f.length;simp_all
 refine sortedK adb ⟨_,e,ρ,n,ρ⟩ b.keysOf (λv₁ v₂ rest e=>adH (by rw[<-e];exact b)) hl λg m hs=>?_;obtain⟨ss',i,t,v⟩:=wA b m hs;obtain⟨c,hD⟩:=sortedAll_at s.heap its ((aec g).map (·.2));rw[qU t v] at i;have hz:((aB d).map V.str).length<=sizeLine:=by simp_all [aB]
 exact⟨.ref<|s.heap.objs.size+1,_,I.laid (o:=.L<|(aB d).map V.str) (λ_ _=>sortedAll_old) (aaq _) ⟨hz,_,c,Ai i,by omega⟩,ρ,q _<|I.au.fresh<|aaq _⟩
def vI:List Dat->Option Res
 | [.L ds]=>match dF ds with
  | some a=>if a.length<64 then ac (.O<|.L<|(aB a).map .str) else al
  | none=>ju [.L ds]
 | ds=>ju ds
def Ib:CD X (λxs H Q=>(λxs H Q=>uY X.K xs H Q\/qr xs H Q) xs H Q\/vq xs H Q) vI:=by
 intro c d Z e H b vs ds o Q a S r k;delta vI at a;split at a
 ·split at a
  ·rename_i f g;split at a
   ·rename_i hz;obtain rfl:=sO a;obtain⟨v,vr,rfl,⟨p,ws,rfl,h,rs⟩,i⟩:=r;subst i;have j:=kz g rs;subst j;refine τ ⟨p,f,ρ,Rd.mono S.sub h,hz,λl hl=>?_⟩;exact k (.ref l) _ b (S.made hl) (aj.refl _) ⟨l,ρ,⟨_,bb,lI _,S.cX hl⟩,(S.bz hl).2,(S.bz hl).1,S.dA hl⟩
   exact nO a
  exact ι<|wL c d Z e H b vs _ o Q a S r k
 exact ι<|wL c d Z e H b vs _ o Q a S r k
noncomputable def yQ:List Dat->Option Res
 | [.L ds]=>ac (.O<|.L ds)
 | [.U ds]=>ac (.O<|.L ds)
 | _=>al
def Rv (a:Gl X "list")(b:X.mg "list"=al)(c:bA X e [])(d:DA X [e] fa):DE X (.Call (.Name "list" p) [e] [] pos) (bO yQ fa):=sJ Sr (by
  intro H0 ps Z σ H f vs ds o Q e S r k;delta yQ at e;split at e
  ·cases e;obtain⟨v,g,rfl,⟨a,b,rfl,c,rs⟩,d⟩:=r;cases d;refine⟨a,b,ρ,ι<|ι<|Rd.mono S.sub c,λl hl=>?_⟩;exact k (.ref l) _ f (S.made hl) (aj.refl _) ⟨l,ρ,⟨_,bb,rs,S.cX hl⟩,(S.bz hl).2,(S.bz hl).1,S.dA hl⟩
  ·cases e;obtain⟨v,g,rfl,⟨a,b,rfl,c,rs⟩,d⟩:=r;cases d;refine⟨a,b,ρ,τ<|ba.mono S.sub c,λl hl=>?_⟩;exact k (.ref l) _ f (S.made hl) (aj.refl _) ⟨l,ρ,⟨_,bb,rs,S.cX hl⟩,(S.bz hl).2,(S.bz hl).1,S.dA hl⟩
  exact nO e) a b (by decide +kernel) d ⋯ ρ c ρ
def SN (u:s.heap.get? a=ac o)(v:o.cls=.type "tuple")(x:o.data=.seq vs.toArray n)(h:aaH vs k)(l:vs.length<64)(q:∀(d i:nL) (c:Nat) (g:List cn),(∀b f,s.heap.get? b=ac f->d.get? b=ac f)->(∀b f,d.get? b=ac f->i.get? b=ac f)->i.get? d.objs.size=ac (YP "list" g.toArray c)->aaH g (aB k)->Q (.ref d.objs.size) {s with heap:=i}):g8 (hQ prog w) A (call (.builtin "sorted") [.ref a]) Q E s:=by refine Y0 aeb adG adI (adJ _) ?z;delta Yx.«sorted»;refine bg<|dr<|bg<|wpAny_collect_seq a (τ ρ) u v x (λd y=>?H) (by simp;rw[za];omega);refine bg<|abJ ?I;have j:(d.push<|YP "list" vs.toArray 0).get? d.objs.size=ac (YP "list" vs.toArray 0):=gj _ ρ;refine bg<|o3<|sj abl ⟨_,j,ρ⟩ aa0 (afm adb j h.keysOf (λv₁ v₂ rest e=>adH (by rw[<-e];exact h)) l λp B C=>⟨_,ρ,?J⟩)<|abm _;obtain⟨ss',r,D,F⟩:=wA h B C;obtain⟨c,hD⟩:=afW j;rw[qU D F] at r;refine dr ⟨_,ρ,q d _ c _ y (λb f e=>?K) (by omega) r⟩;have G:=hG<|fj e;have t:(d.push<|YP "list" vs.toArray 0).get? b=ac f:=ee _ e;exact (afK G<|fj t).trans t
def B2(K:f'):List V->Hp->VK->Prop:=λxs H Q=>∃p a,xs=[.ref p]/\ba K H p (a.map V.str)/\a.length<64/\∀l,H l=al->Q (.ref l) (upd H l<|.L<|(aB a).map V.str)
def jv:List Dat->Option Res
 | [.U ds]=>(dF ds).bind λa=>if a.length<64 then ac (.O<|.L<|(aB a).map .str) else al
 | ds=>vI ds
def Sg:CD X (λxs H Q=>((λxs H Q=>uY X.K xs H Q\/qr xs H Q) xs H Q\/vq xs H Q)\/B2 X.K xs H Q) jv:=by
 intro c d Z e H b vs ds o Q a S r k;delta jv at a;split at a
 ·obtain⟨f,g,a⟩:=oA a;split at a
  ·rename_i hz;obtain rfl:=sO a;obtain⟨v,vr,rfl,⟨p,ws,rfl,h,rs⟩,i⟩:=r;subst i;have j:=kz g rs;subst j;refine τ ⟨p,f,ρ,ba.mono S.sub h,hz,λl hl=>?_⟩;exact k (.ref l) _ b (S.made hl) (aj.refl _) ⟨l,ρ,⟨_,bb,lI _,S.cX hl⟩,(S.bz hl).2,(S.bz hl).1,S.dA hl⟩
  exact nO a
 exact ι<|Ib c d Z e H b vs _ o Q a S r k
def wk (a:X.ex=[])(b:X.calm=bd)(c:Gl X "sorted")(d:X.mg "sorted"=al)(f:bA X e [])(g:DA X [e] fa):DE X (.Call (.Name "sorted" p) [e] [] pos) (bO jv fa) :=
 gB (bM.or (bM.or (bM.or (Dm a)<|wI a b) BD) (by
   intro pins s σ H xs us Q I r h;obtain⟨p,b,rfl,g,h64,q⟩:=h;obtain⟨u,rfl,i⟩:=r.one;subst i;obtain⟨its,d,⟨o,j,k,n,l⟩,_⟩:=I.tuple g;have m:=uU d;have hl:its.length<64:=by have:=d.length;simp_all
   refine SN j k l m hl λe g2 c vs' t v x y=>?_;have f:=I.kept (t':=s.toks) t;have hz:((aB b).map V.str).length<=sizeLine:=by simp_all [aB]
   exact⟨.ref e.objs.size,_,f.laid (o:=.L<|(aB b).map V.str) v (eK _) ⟨hz,_,c,Ai y,x⟩,ρ,q _<|f.au.fresh<|eK _⟩)) Sg c d (by decide +kernel) g ⋯ rfl f rfl
def Oq(te:TE):TE:=λb H Q=>te b H λv a=>∃d kvs,v=.ref d/\a d=ac (.dK kvs)/\∀o,Q v<|upd a d<|.bq o<|.dK kvs
def SX (c:PE X e te):PE X e (Oq te):=by refine λa s f H Q I h=>aH (c a s f H _ I h) λv s1 e=>?_;obtain⟨y,H1,b,g,i⟩:=e;obtain⟨d,kvs,rfl,hd,q⟩:=i;obtain⟨z,lo,vs,kv,o,es,ep,j,rest⟩:=b.au d _ hd;exact⟨.ref d,_,b.bq hd j,g,q o⟩
structure sX (x:eS):Prop where
 ok:True
noncomputable def nM(f:EF):EF:=λZ=>(f Z).bind λp=>match p.1 with
 | .O (.bC a)=>ac (.D<|.dn a,p.2)
 | _=>al
def Sz (ht:sX x)(b:X.N.Nodup)(c:X.N.findIdx? (·==x)=ac i)(d:Loc X.env.scope x)(g:X.fn x=bd\/X.env.scope.names.lookup x=some .local)(hs:HT e (ac<|.Name x a) pos.line X.env=pure false)(h:DE X e f):cK X (.Assign [.Name x a] e pos) (iE i<|nM f):=wj b c d g hs ((λh=>by
  obtain⟨t,p,q⟩:=h;refine⟨_,SX p,λd g Z i H j r Z' Q a S k=>?_⟩;obtain⟨r1,Z1,l,a⟩:=oB a;dsimp only at a;split at a
  ·obtain⟨rfl,rfl⟩:=sP a;refine q d g Z i H j _ _ _ l S λv H1 Hi1 m n u=>?_;obtain⟨p,rfl,b,nl,x,nd⟩:=u;obtain⟨kvs,y,z,np⟩:=id b;refine⟨p,kvs,ρ,y,λo=>?_⟩;obtain⟨B,c⟩:=m.held b nl x nd;exact k _ _ _ B (n.trans c) ⟨p,o,kvs,ρ,bb,z.mono c⟩
  exact nO a) h)
noncomputable def rX:Dat->Dat->Option Res
 | .int i,.int j=>ac (.D<|.bl<|am<|i<j)
 | .str x,.str y=>ac (.D<|.bl<|am<|x.cps.toList<y.cps.toList)
 | _,_=>al
def C9:eG X (λx y H Q=>(ig λi j=>.bl<|am<|i<j) x y H Q\/(λx y H Q=>∃i j,x=.str i/\y=.str j/\Q (.bl<|am<|i.cps.toList<j.cps.toList) H) x y H Q) rX:=by
 intro H0 ps Z σ H a x y d d' o Q e S b c k;delta rX at e;split at e
 ·cases e;subst b;subst c;exact ι ⟨_,_,ρ,ρ,k _ H a S (aj.refl _) ρ⟩
 ·obtain rfl:=sO e;subst b;subst c;exact τ ⟨_,_,ρ,ρ,k _ H a S (aj.refl _) ρ⟩
 exact nO e
def N7 (c:DD X a f)(d:DD X b g):DE X (.Compare a [.Lt] [b] pos) (bW rX f g):=pN (aS.or xk A0) C9 c d<|iY _
def Ti (c:DD X a f)(d:DD X b g):DT X (.Compare a [.Lt] [b] pos) (fx<|bW rX f g):=lH (aS.or xk A0) C9 c d<|iY _
end
section
open Sem (wp)
section
variable{prog:hY}{w:nR}{A:pA}{E:cn->cW->Prop}{β:Type}
theorem En:∀(m k j:Nat),j<m->(∀i,k<=i->i<k+j->∀R:ForInStep β->cW->Prop,R (.yield b) s->g8 (hQ prog w) A (f i b) R E s)->(∀R:ForInStep β->cW->Prop,R (.done r) s'->g8 (hQ prog w) A (f (k+j) b) R E s)->Q r s' ->
  g8 (hQ prog w) A (forIn (List.range' k m) b f) Q E s
 | 0,_,_,h,_,_,_=>absurd h (z4 _)
 | m+1,k,0,h,_,hd,q=>by exact bg (hd _<|dr q)
 | m+1,k,j+1,h,a,hd,q=>by rw[adU,aaP];refine bg<|a k (eK _) ⋯ _ ?_;exact En m (k+1) j (by lia) (λi h1 h2=>a i (by lia) (by lia)) (by rw[show k+1+j=k+(j+1) from by lia];exact hd) q
end
section
variable{prog:hY}{w:nR}{A:pA}{E:cn->cW->Prop}{h:nL}{g:Array abk}{d:Drawn}{t:Nat}{os:OsState}
def Jl{l:dk}{its:Array cn}{n j:Nat}{x:eS}{tx:Tok}{a:List eS}{Q:Fin->cW->Prop}{o:z5}(hl:h.get? l=ac o)(f:o.cls=.type "tuple")(hd:o.data=.seq its n)(k:aaH its.toList a)(p:a[j]?=ac x)(s:∀i,i<j->a[i]?≠ac x)
 (q:Q (.done<|.ret<|.int (j:Int) t) ⟨h,g,d,t+1,os⟩) :
  g8 (hQ prog w) A (Yx.«tuple.index» ⟨[.ref l,.str x tx],[]⟩) Q E ⟨h,g,d,t,os⟩:=by
 obtain⟨cl,bC,D,sl⟩:=o;subst f hd;have len:a.length=its.size:=by rw[<-k.strs];simp
 have v:j<its.size:=by have:=(cm.1 p).1;omega
 have at_:∀i (b:i<its.size),∃y u,its[i]?=ac (Yd y u)/\a[i]?=ac y:=λi b=>by obtain⟨y,u,e⟩:=k.all its[i] (by simp);refine⟨y,u,by rw[ia b,e],?_⟩;simp only[<-k.strs,c6,gi,ia b,e];rfl
 unfold Yx.«tuple.index»;simp only[aei]
 repeat (any_goals (first|assumption|(with_reducible refine En (r:=(ac<|.done<|.ret<|.int (j:Int) t,())) (s':=⟨h,g,d,t+1,os⟩) _ _ j ?B ?C ?D ?F)|wp_step))
 case B=>simp[aeh];omega
 case C=>intro i _ b R r;obtain⟨y,u,m,c⟩:=at_ i (by lia);rw[m];refine bg<|ZQ ?_;rw[decide_eq_false (λz=>s i (by lia) (by simp only[c,z])),if_neg Zk];exact dr r
 intro R r;rw[Y3];obtain⟨y,u,m,c⟩:=at_ j v;rw[p] at c;obtain rfl:=sO c;rw[m];refine bg<|ZQ ?_;rw[decide_eq_true ρ,if_pos ρ];refine bg ?_;unfold retInt;exact bg<|wpAny_mkInt<|dr<|dr r
end
end
section
variable{X:Cx}
def J3(K:f'):V->List V->Hp->VK->Prop:=λx vs H Q=>∃(p:dk) (a:List eS) (y:eS) (j:Nat),x=.ref p/\vs=[.str y]/\ba K H p (a.map V.str)/\a[j]?=ac y/\(∀i,i<j->a[i]?≠ac y)/\Q (.int (j:Int)) H
def P5:uC X "tuple.index" (J3 X.K):=by intro pins s σ H x vs v us Q I d e h;obtain⟨p,ss,y,j,rfl,rfl,f,g,i,q⟩:=h;subst d;obtain⟨u,rfl,k⟩:=e.one;obtain⟨t,rfl⟩:=(k);obtain⟨its,a,⟨o,b,c,n,l⟩,_⟩:=I.tuple f;refine sj acK ⟨_,b,c⟩ F.entry_tuple_index ?_<|F.args_tuple_index_2 _ _;exact Jl b c l (uU a) g i ⟨_,ρ,.int (j:Int),H,I.tok _,⟨_,ρ⟩,q⟩
structure yn (K:f') (mg:eS->Option cn) (x:eS) (ss:List eS):Prop where
 is:∃(p:dk) (o:z5) (its:Array cn) (n:Nat),mg x=ac (.ref p)/\K.lookup p=ac o/\o.cls=.type "tuple"/\o.dict=al/\o.data=.seq its n/\its.size<=cA/\aJ (ss.map V.str) its.toList
noncomputable def FZ(a:List eS)(fa:AF):DF:=λZ=>(fa Z).bind λq=>match q.1 with
 | [.str y]=>if y∈a then ac (.int ((a.idxOf y:Nat):Int),q.2) else al
 | _=>al
theorem FC{b:List eS}{y:eS}(h:y∈b):b[b.idxOf y]?=ac y/\∀i,i<b.idxOf y->b[i]?≠ac y:=by
 induction b with
 | nil=>contradiction
 | cons a r d =>
  by_cases e:a=y
  ·subst e;rw[List.idxOf_cons_self];exact⟨ρ,λi f=>absurd f<|z4 _⟩
  have h:y∈r:=by
   rcases eW.1 h with rfl|h
   ·exact absurd ρ e
   exact h
  have g:(a::r).idxOf y=r.idxOf y+1:=by
   have c:(a==y)=bi:=by
    cases c:a==y with
    | false=>rfl
    | true=>exact absurd (eq_of_beq c) e
   rw[List.idxOf_cons,c];rfl
  rw[g];refine⟨by simpa using (d h).1,λi f=>?_⟩;cases i with
  | zero=>simpa using e
  | succ i=>simpa using (d h).2 i (by lia)
def MR (g:yn X.K X.mg x f)(A:Gl X x)(hd:bP x)(i:Zp (.Name x h) "index" X.env (eval (.Name x h) X.env)=eval (.Name x h) X.env)(l:nI X pos e)(j:(c.endLine==pos.line)=bd)(hs:bA X e [])(B:DA X [e] fa):DD X (.Call (.Attribute (.Name x h) "index" c) [e] [] pos) (FZ f fa):=by
 obtain⟨t,p,q⟩:=B;obtain⟨a,o,its,n,m,r,s,C,D,E,G⟩:=g.is;refine⟨_,rZ PySem.F.plainAttrs_tuple acK PySem.F.type_tuple_index P5 (Dx (v:=.ref a) A m ρ hd) p i l j hs ρ,λI J Z L H M d Z' Q b S k=>?_⟩;obtain⟨as,Z2,m,b⟩:=oB b;dsimp only at b;split at b
 ·split at b
  ·rename_i y u;obtain⟨rfl,rfl⟩:=sP b;refine⟨τ<|ι ⟨ρ,o,r,s,C⟩,q I J Z L H M _ _ _ m S λvs N w O P R=>?_⟩;obtain⟨z,yr,rfl,T,U⟩:=R;subst U;subst T;exact⟨a,f,y,f.idxOf y,ρ,ρ,τ ⟨o,its,n,r,s,D,E,G⟩,(FC u).1,(FC u).2,k _ N w O P ρ⟩
  exact nO b
 exact nO b
noncomputable def qZ:Nat:=1000
def Uj (a:abq (hQ X.prog X.w) X.A X.env X.xe)(b:DT X c fc)(d:ij X body fb):cK X (.While c body [] pos) (gG fc fb qZ):=M0 qZ a b d
def Le:cK X (.Raise e c p) (λ_=>al):=⟨λ_ _ _=>False,λ_ _ _ _ _ _ h=>Yw h,λ_ _ _ _ _ _ _ _ e=>by cases e⟩
def OH (ht:mR x)(d:X.N.findIdx? (·==x)=ac i)(e:cx X.env.scope x)(hd:bP x)(a:cY x):dh X b (.Name x c) (zo i):=(λr s hd g=>by
  refine⟨_,EH<|fH (eA r) s hd g,λH0 ps Z σ H Hi items Z' R a S k=>?_⟩;unfold zo at a;split at a
  ·rename_i fz t e;obtain⟨rfl,rfl⟩:=sP a;obtain⟨p,c,⟨_,kvs,u,j,np⟩,nl,n0⟩:=S.O i _ e;refine⟨_,c,p,kvs,ρ,u,λo bs kb=>?_⟩;obtain⟨H1,l,f,v,_⟩:=S.Aq kb;obtain⟨p',b,⟨_,kvs',hp',rk',m⟩,_⟩:=l.O i _ e;rw[c] at b;cases b;have sm:=jY (o:=.bq o<|.dT kvs) m;obtain⟨y,A⟩:=l.hold (d':=.bj true t) e c ⟨p,o,kvs,ρ,bb,(j.mono f).mono sm⟩;exact k _ _ _ y (f.trans A)<|C3 bb ((j.mono f).mono sm) (Paired.pT v λ_ _ z=>sm _ _ z)
  exact nO a) d e hd a
theorem LN (ht:mR g)(h:DE X (.Call (.Name g p) a [] pos) f):dh X b (.Call (.Name g p) a [] pos) (sE f):=(λh=>by
  obtain⟨t,n,q⟩:=h;refine⟨_,EH n,λH0 ps Z σ H Hi items Z' R a S k=>?_⟩;unfold sE at a;obtain⟨r,Z1,s,a⟩:=oB a;dsimp only at a;split at a
  ·rename_i x A;obtain⟨rfl,rfl⟩:=sP a;refine q H0 ps Z σ H Hi _ _ _ s S λv B Hi1 C D E=>?_;obtain⟨p,rfl,i,nl,F,nd⟩:=E;obtain⟨_,kvs,G,I,np⟩:=id i;refine⟨p,kvs,ρ,G,λo bs kb=>?_⟩;obtain⟨c,j,g,J,L⟩:=C.Aq kb;have b:c p=al:=by
    cases z:c p with
    | none=>rfl
    | some u=>rcases L p u z with y|⟨ts,y⟩;simp_all;have t:=j.sub _ _ z;simp_all
   have l:=i.keeps ρ g b;have sm:=jY (o:=.bq o<|.dT kvs) b;obtain⟨M,N⟩:=j.held l nl F nd;exact k _ _ _ M ((D.trans g).trans N)<|C3 bb ((I.mono g).mono sm) (Paired.pT J λ_ _ z=>sm _ _ z)
  exact nO a) h
end
section
variable{X:Cx}{e k:hE}{te tk:TE}{p2 pos:y4}
def Po(K:f'):V->Hp->VK->Prop:=λx H Q=>∃a xs,x=.ref a/\cu K H a xs/\∀p,H p=al->Q (.ref p) (upd H p<|.L xs.reverse)
def Pz(K:f')(te tk:TE):TE:=λa H Q=>te a H λx b=>tk a b λi c=>i=.int (-1)/\Po K x c Q
theorem aJ.rev (h:aJ xs vs):aJ xs.reverse vs.reverse:=by
 induction h with
 | nil=>exact .nil
 | cons a b c=>simp only[aak,aak];exact c.append<|.cons a .nil
def N4(l:PE X e te)(m:PE X k tk):PE X (.Subscript e (.Slice al al (ac k) p2) pos) (Pz X.K te tk):=by refine λc s f H Q I h=>acP (aH (l c s f H _ I h) λv n g=>?_);obtain⟨x,p,t,u,w⟩:=g;apply wpAny_Slice;refine dr<|dr ?_;refine aH (m c n f p _ t w) λvk d h=>?_;obtain⟨i,y,z,A,B⟩:=h;obtain⟨rfl,a,xs,rfl,C,q⟩:=B;subst u;obtain⟨tk,rfl⟩:=A;have g:Inv X c f y {d with heap:=d.heap.push {cls:=.type "slice",data:=.fields #[.none,.none,.int (-1) tk]} }:=z.kept (t':=d.toks) λb D q=>ee _ q;obtain⟨its,r,j,hz⟩:=g.list C;refine afJ j.isList.typeIs abZ.lookup ?_ (by with_unfolding_all rfl);refine ac5 j.isList (abU ..) .none .none (.int (-1) tk) ⋯ ?_ (by rw[gs,<-r.length];exact hz);rw[W.krv_pick];refine⟨.ref _,_,g.laid (λb D q=>ee _ q) (eK _) ?_,ρ,q _<|g.au.fresh<|eK _⟩;exact⟨by rw[zR];exact hz,_,0,aJ.rev r,gj _ ρ⟩
noncomputable def Ph:Dat->Option Res
 | .L ds=>ac (.O<|.L ds.reverse)
 | _=>al
def u7(f g:DF):EF:=λZ=>(f Z).bind λp=>(g p.2).bind λq=>match q.1 with|.int i=>if i=-1 then (Ph p.1).map λo=>(o,q.2) else al|_=>al
theorem ay.rev{K:f'}{H:Hp}:∀{ds:List Dat}{vs:List V},ay K H ds vs->ay K H ds.reverse vs.reverse
 | [],_,h=>by rw[show _=[] from h];exact ρ
 | _::_,_,a=>by obtain⟨v,r,e,q,t⟩:=a;simp only[e,aak,aak];exact ay.append (ay.rev t) ⟨v,[],ρ,q,ρ⟩
theorem Ql (u:DD X e f)(w:DD X k g):DE X (.Subscript e (.Slice al al (ac k) p2) pos) (u7 f g):=by
 obtain⟨t,p,q⟩:=u;obtain⟨th,x,y⟩:=w;refine⟨_,N4 p x,λh j Z l H A o Z' Q b S B=>?_⟩;obtain⟨d,Z1,C,b⟩:=oB b;dsimp only at b;obtain⟨a,Z2,D,b⟩:=oB b;dsimp only at b;split at b
 ·rename_i i;by_cases m:i=-1
  case neg=>rw[if_neg m] at b;exact nO b
  subst m;refine q h j Z l H A d Z1 _ C S λv E n F G I=>?_;refine y h j Z1 l E n _ Z2 _ D F λv2 H3 r c s J=>?_;subst J;have K:=Rep.mono s I;cases d with
  | L ds=>obtain⟨rfl,rfl⟩:=sP b;obtain⟨p,vs,rfl,L,rs⟩:=K;refine⟨ρ,p,vs,ρ,ι<|Rd.mono c.sub L,λz hz=>?_⟩;exact B (.ref z) _ r (c.made hz) (G.trans s) ⟨z,ρ,⟨_,bb,ay.rev rs,c.cX hz⟩,(c.bz hz).2,(c.bz hz).1,c.dA hz⟩
  | _=>exact nO b
 exact nO b
def Kt (a:Gl X "abs")(b:X.mg "abs"=al)(c:bA X e [])(d:DA X [e] fa):DE X (.Call (.Name "abs" p) [e] [] pos) (bO uB fa):=gB (by intro pins s σ H xs us Q I r h;obtain⟨i,rfl,q⟩:=h;obtain⟨u,rfl,t,rfl⟩:=vals1 r;exact call_abs_int λu tk=>⟨.int _,H,I.tok _,⟨_,ρ⟩,q⟩) PD a b (by decide +kernel) d ⋯ ρ c ρ
def Hv (g:Gl X "range")(i:X.mg "range"=al)(hs:mu [a,b] X.env=[(false,eval a X.env),(false,eval b X.env)])(c:mu [b] X.env=[(false,eval b X.env)])(h:DA X [a,b] f):dh X d (.Call (.Name "range" p) [a,b] [] pos) (qN f):=Pp g i h hs c
def Lz:aS X (me .IsNot) (λx y H Q=>∃a b,x=.bl a/\y=.bl b/\Q (.bl<|!(a==b)) H):=by intro pins s σ H x y v u Q I c d h;obtain⟨a,b,rfl,rfl,q⟩:=h;subst c;subst d;exact wpAny_isNot_plain ρ<|tG I q (by cases a<;>cases b<;>rfl)
noncomputable def nN(neg:Bool):Dat->Dat->Option Res
 | .bl a,.bl b=>ac (.D<|.bl (if neg then !(a==b) else a==b))
 | _,_=>al
def Nr:eG X (λx y H Q=>∃a b,x=.bl a/\y=.bl b/\Q (.bl<|a==b) H) (nN false):=by
 intro H0 ps Z σ H c x y d d' o Q e S f g k;delta nN at e;split at e
 ·obtain rfl:=sO e;subst f;subst g;exact⟨_,_,ρ,ρ,k _ H c S (aj.refl _) ρ⟩
 exact nO e
def UH:eG X (λx y H Q=>∃a b,x=.bl a/\y=.bl b/\Q (.bl<|!(a==b)) H) (nN true):=by
 intro H0 ps Z σ H c x y d d' o Q e S f g k;delta nN at e;split at e
 ·obtain rfl:=sO e;subst f;subst g;exact⟨_,_,ρ,ρ,k _ H c S (aj.refl _) ρ⟩
 exact nO e
def RS (c:DD X a f)(d:DD X b g):DE X (.Compare a [.Is] [b] pos) (bW (nN false) f g):=pN (by intro pins s σ H x y v u Q I c d h;obtain⟨a,b,rfl,rfl,q⟩:=h;subst c;subst d;exact wpAny_is_plain ρ<|tG I q (by cases a<;>cases b<;>rfl)) Nr c d<|iY _
def PY (c:DD X a f)(d:DD X b g):DT X (.Compare a [.IsNot] [b] pos) (fx<|bW (nN true) f g):=lH Lz UH c d<|iY _
end
section
variable{X:Cx}{e:hE}{pos:y4}
noncomputable def codes(x:List eS):List (List Nat):=x.map λa=>a.cps.toList
theorem B4:∀{a b:List eS},codes a=codes b->a=b
 | [],[],_=>rfl
 | [],_::_,h=>by contradiction
 | _::_,[],h=>by contradiction
 | x::a,y::b,h=>by have h:=List.cons.inj h;rw[kW h.1,B4 h.2]
def mP(fs:List (List eS))(i j:Nat):Bool:=am<|codes (fs.getD i [])<codes (fs.getD j [])
def x8 (h:¬codes a<codes b)(h':¬codes b<codes a):a=b:=B4<|ZE (Yj.1 h')<|Yj.1 h
def GD (nd:fs.Nodup):Ord (mP fs) fs.length where
 trans:=λi j k c a=>decide_eq_true<|aa7 (of_decide_eq_true c)<|of_decide_eq_true a
 total:=λi j d f b=>by
  delta mP;rw[fh d,fh f];by_cases h:codes fs[i]<codes fs[j]
  ·exact ι<|decide_eq_true h
  refine τ (decide_eq_true ?_);by_cases a:codes fs[j]<codes fs[i]
  ·exact a
  exact absurd ((z9 nd).1 (x8 h a)) b
 gh:=λi=>decide_eq_false<|Zr _
theorem Ec:∀(xs ys:List eS) (us a:List cn) (i:Nat),aJ (xs.map V.str) us->aJ (ys.map V.str) a->Q (am<|codes xs<codes ys) s->W.KatLex prog w A b (am<|us.length<a.length) Q (us.zip a) i s
 | [],ys,us,a,i,d,c,q=>by
  cases d;have:am (codes []<codes ys)=am (([]:List cn).length<a.length):=by
   rw[<-c.length,ab];cases ys with
   | nil=>rfl
   | cons y ys=>rfl
  rw[this] at q;exact W.kat_nil q
 | x::xs,[],us,a,i,d,c,q=>by
  cases c;rw[show am (codes (x::xs)<codes [])=am (us.length<([]:List cn).length) from (decide_eq_false<|List.not_lt_nil _).trans (decide_eq_false<|z4 _).symm] at q;rw[List.zip_nil_right];exact W.kat_nil q
 | x::xs,y::ys,_,_,i,.cons f g,.cons j k,q=>by
  obtain⟨l,rfl⟩:=f;obtain⟨m,rfl⟩:=j;refine ad6<|ZQ ?_;by_cases e:x=y
  ·subst e;rw[decide_eq_true ρ];apply W.kat_yes;rw[show am ((Yd x l::_).length<(Yd x m::_).length)=am (_<_) from decide_eq_decide.2 Nat.succ_lt_succ_iff];apply Ec xs ys _ _ (i+1) g k;have:am (codes (x::xs)<codes (x::ys))=am (codes xs<codes ys):=decide_eq_decide.2 ⟨λh=>(XP.1 h).elim (λz=>absurd z<|Zr _) λz=>z.2,λh=>XP.2<|τ ⟨ρ,h⟩⟩;simp_all
  rw[decide_eq_false e];have:am (codes (x::xs)<codes (y::ys))=am (x.cps.toList<y.cps.toList):=decide_eq_decide.2 ⟨λh=>(XP.1 h).elim id λz=>absurd (kW z.1) e,λh=>XP.2<|ι h⟩;rw[this] at q;apply ae3;cases b&&i==0 with
  | true=>exact oneLt_str q
  | false=>exact W.kat_one _ _<|lt_str q
def ni(K:f')(H:Hp)(vs:List V)(fs:List (List eS)):Prop:=vs.length=fs.length/\∀(i:Nat) (f:List eS),fs[i]?=ac f->f≠[]/\∃a,vs[i]?=ac (.ref a)/\ba K H a (f.map V.str)
def D5(K:f'):List V->Hp->VK->Prop:=λxs H Q=>∃p vs fs,xs=[.ref p]/\Rd H p (.L vs)/\ni K H vs fs/\fs.Nodup/\vs.length<64/\∀out,rN (mP fs) vs out->∀l,H l=al->Q (.ref l) (upd H l<|.L out)
theorem Dt (I:Inv X c d H s)(tx:ni X.K H vs fs)(j:aJ vs its):∃b:List cn,aaM s.heap its b/\b.length=vs.length/\∀v∈b,∀h:nL,afG (hQ X.prog X.w) h (typeOf v) (.type "str"):=by
 have k:ml X.K H vs (fs.map λf=>f.headD YK):=⟨by rw[ab];exact tx.1,λi f e=>by
  rw[c6] at e;obtain⟨g,l,rfl⟩:=gf.1 e;obtain⟨h0,a,m,n⟩:=tx.2 i g l;refine⟨a,_,m,n,?_⟩;cases g with
  | nil=>cases h0 ρ
  | cons y g=>rfl⟩
 obtain⟨b,o,p,q,_⟩:=kat_tups I k j;refine⟨b,o,by rw[p,ab];exact tx.1.symm,λv r h=>?_⟩;obtain⟨x,t,rfl⟩:=q v r;exact abC ρ
def B7 (I:Inv X f p H s)(tx:ni X.K H vs fs)(l:aJ vs its)(i j:Nat)(g:i<vs.length)(h:j<vs.length)(_:i≠j)(h':nL)(c:∀b o xs n,o.data=.seq xs n->s.heap.get? b=ac o->h'.get? b=ac o)(C:Bool->cW->Prop)(k:C (mP fs i j) {s with heap:=h'}):g8 (hQ X.prog X.w) X.A.in1.in1 (aew (tuples'<|Zz "str" != .type "tuple") (its.getD i qe)<|its.getD j qe) C (λ_ _=>False) {s with heap:=h'}:=by rw[tx.1] at g h;obtain⟨_,a,q,r⟩:=tx.2 i _<|bt g;obtain⟨_,b,t,u⟩:=tx.2 j _<|bt h;obtain⟨_,v,x⟩:=l.get q;obtain⟨_,y,z⟩:=l.get t;subst x;subst z;obtain⟨us,B,⟨o,D,hc,n,hd⟩,_⟩:=I.tuple r;obtain⟨E,F,⟨o',m,hc',n',d⟩,_⟩:=I.tuple u;simp only[lD,v,y];apply ae4 (c _ _ _ _ hd D) hd (c _ _ _ _ d m) d;apply Ec fs[i] fs[j] us E 0 B F;delta mP at k;rw[fh g,fh h] at k;exact k
def Tg(b:X.ex=[]):bM X (.builtin "sorted") (D5 X.K):=by intro pins s σ H xs us Q I r h;obtain⟨p,vs,fs,rfl,d,tx,nd,c,q⟩:=h;obtain⟨u,rfl,f⟩:=r.one;subst f;exact yT b I d c (by rw[tx.1];exact GD nd) ⋯ (λits a=>Dt I tx a) (λits a=>B7 I tx a) q
noncomputable def tupS(f:List eS):Dat:=.U<|f.map .str
noncomputable def kc:List Dat->Option (List<|List eS)
 | []=>ac []
 | .U ds::l=>(dF ds).bind λx=>if x.isEmpty then al else (kc l).map (x::·)
 | _=>al
def ji(a b:List eS):Bool:=!am (codes b<codes a)
def fT(fs:List (List eS)):List (List eS):=fs.mergeSort ji
theorem nh{a b:List eS}:ji a b=bd ↔ ¬codes b<codes a:=by delta ji;rw[ow,decide_eq_false_iff_not]
def oO:List Dat->Option Res
 | [.L ds]=>(kc ds).bind λfs=>if fs.Nodup/\fs.length<64 then ac (.O<|.L<|(fT fs).map tupS) else al
 | _=>al
theorem ue{K:f'}{H b:Hp}(s:aj b H):∀{ds:List Dat}{vs:List V}{fs:List (List eS)},kc ds=ac fs->ay K b ds vs->ni K H vs fs/\ay K b (fs.map tupS) vs
 | [],_,_,e,r=>by obtain rfl:=sO e;rw[show _=[] from r];exact⟨⟨ρ,λi f e=>by simp at e⟩,ρ⟩
 | d::ds,_,_,e,c=>by
  obtain⟨v,j,k,l,rs⟩:=c;cases d with
  | U us =>
   obtain⟨x,m,e⟩:=oA e;split at e
   ·exact nO e
   rename_i n;obtain⟨ys,o,e⟩:=oM e;obtain rfl:=sO e;obtain⟨⟨p,q⟩,t⟩:=ue s o rs;obtain⟨a,ws,rfl,g,h⟩:=l;have u:=kz m h;subst u;rw[k];refine⟨⟨by simp only[gW,gW,p],λi f e=>?_⟩,⟨.ref a,j,ρ,⟨a,_,ρ,g,lI _⟩,t⟩⟩;cases i with
   | zero =>
    cases (Option.some.inj e);exact⟨λz=>n (by rw[z];rfl),a,ρ,ba.mono s g⟩
   | succ i=>exact q i f e
  | _=>exact nO e
def A' (P:da q fs.length)(U:eZ (mP fs) q fs.length):(q.toList.map λi=>fs.getD i [])=fT fs:=by
 have pm:(q.toList.map λi=>fs.getD i []).Perm fs:=by have:=P.pm.map<|λi=>fs.getD i [];rwa[yN] at this
 apply nr (R:=λa b=>ji a b=bd) (λa b d f=>x8 (nh.1 f)<|nh.1 d)<|pm.trans (gk fs ji).symm
 ·rw[pq];intro i j hi m h;have l:j<fs.length:=by rw[<-P.size];simpa using m
  have u:=U i j h l;have g:∀k (hk:k<q.toList.length),q.toList[k]=q.getD k 0:=by simp_all
  simp only[Ts,g,g];exact nh.2 λz=>Zr _<|aa7 (of_decide_eq_true u) z
 refine ub (λa b c d f=>?_) (λa b=>?_) fs;grind [nh];grind [ji]
def tZ (a:X.ex=[])(b:Gl X "sorted")(c:X.mg "sorted"=al)(d:bA X e [])(f:DA X [e] fa):DE X (.Call (.Name "sorted" p) [e] [] pos) (bO oO fa) :=
 gB (Tg a) (by
   intro H0 ps Z σ H g vs ds o Q a S r k;delta oO at a;split at a
   ·obtain⟨fs,h,a⟩:=oA a;split at a
    ·rename_i hz;obtain rfl:=sO a;obtain⟨v,vr,rfl,⟨p,d,rfl,j,rs⟩,m⟩:=r;subst m;obtain⟨tx,rt⟩:=ue S.sub h rs;have c:=tx.1;refine⟨p,d,fs,ρ,Rd.mono S.sub j,tx,hz.1,by rw[c];exact hz.2,λout h l hl=>?_⟩;obtain⟨q,P,U,n⟩:=h;rw[c] at P U;have s:=A' P U;subst n;have f:=ay.pick rt q.toList (λi b=>by rw[c];exact mC P i b);have em:(q.toList.map λi=>(fs.map tupS).getD i .aQ)=(fT fs).map tupS:=by rw[<-s,fm];refine zI λi b=>?_;have b:=mC P i b;show _=tupS (fs.getD i []);rw[fh (by rw[ab];exact b),fh b,Ts]
     rw[em] at f;exact k (.ref l) _ g (S.made hl) (aj.refl _) ⟨l,ρ,⟨_,bb,f,S.cX hl⟩,(S.bz hl).2,(S.bz hl).1,S.dA hl⟩
    exact nO a
   exact nO a) b c (by decide +kernel) f ⋯ rfl d rfl
end
section
open PySem.SetTable
noncomputable def fU(a:Nat)(p:aaw):Probe:=if p.more>0 then {p with j:=p.j+1,more:=p.more-1} else {p with j:=(ab6 a p.i p.perturb).1,more:=Zm a (ab6 a p.i p.perturb).1-(ab6 a p.i p.perturb).1,i:=(ab6 a p.i p.perturb).1,perturb:=(ab6 a p.i p.perturb).2}
def AY(t:tu)(p:aaw):t.advance p=fU t.mask p:=by rfl
noncomputable def aE(a:Nat)(p:aaw):Nat->aaw
 | 0=>p
 | n+1=>fU a<|aE a p n
theorem hZ(a)(p)(n):∀m,aE a p (n+m)=aE a (aE a p n) m
 | 0=>rfl
 | m+1=>by show fU a (aE a p<|n+m)=fU a (aE a (aE a p n) m);rw[hZ a p n m]
theorem tS(a):∀(k:Nat) (p:aaw),k<=p.more->aE a p k={p with j:=p.j+k,more:=p.more-k}
 | 0,p,_=>rfl
 | k+1,p,h=>by show fU a (aE a p k)=_;rw[tS a k p (by lia)];dsimp only[fU];rw[if_pos (by show p.more-k>0;lia)];rfl
def Dq(a)(p):∃more,aE a p (p.more+1)={p with j:=(ab6 a p.i p.perturb).1,more:=more,i:=(ab6 a p.i p.perturb).1,perturb:=p.perturb/32}/\more<=9:=by
 refine⟨Zm a (ab6 a p.i p.perturb).1-(ab6 a p.i p.perturb).1,?_,?_⟩
 ·show fU a (aE a p p.more)=_;rw[tS a p.more p (eK _)];dsimp only[fU];rw[if_neg ⋯];rfl
 delta Zm;split<;>lia
theorem Ea(a)(p)(h:p.more<=9):∀c,∃n,n<=10*c/\(aE a p n).more<=9/\(aE a p n).perturb=p.perturb/32 ^ c/\(c>0->(aE a p n).j=(aE a p n).i/\(aE a p n).i<=a)
 | 0=>⟨0,eK _,h,by simp only[afb,afq];rfl,λz=>absurd z<|uz _⟩
 | c+1=>by
  obtain⟨n,h1,h2,b,_⟩:=Ea a p h c;obtain⟨more,e,d⟩:=Dq a<|aE a p n;refine⟨n+((aE a p n).more+1),by lia,?_,?_,λ_=>?_⟩
  ·rw[hZ,e];exact d
  ·rw[hZ,e];simp only[b,acQ,afc]
  rw[hZ,e];exact⟨ρ,qy<|YE _<|Zu _⟩
noncomputable def eQ(a:Nat)(i:Nat):Nat->Nat
 | 0=>i
 | c+1=>(eQ a i c*5+1)%(a+1)
theorem A9(a)(p)(h:p.more<=9)(b:p.perturb=0)(d:p.j=p.i):∀c,∃n,n<=10*c/\(aE a p n).more<=9/\(aE a p n).perturb=0/\(aE a p n).j=eQ a p.i c/\(aE a p n).i=eQ a p.i c
 | 0=>⟨0,eK _,h,b,d,ρ⟩
 | c+1=>by
  obtain⟨n,h1,h2,f,_,k⟩:=A9 a p h b d c;obtain⟨more,e,l⟩:=Dq a<|aE a p n;have g:(ab6 a (aE a p n).i (aE a p n).perturb).1=eQ a p.i (c+1):=by rw[f,k];rfl
  refine⟨n+((aE a p n).more+1),by lia,?_,?_,?_,?_⟩
  ·rw[hZ,e];exact l
  ·rw[hZ,e];rw[f]
  ·rw[hZ,e];exact g
  rw[hZ,e];exact g
def gX(a:Nat):Prop:=a=7\/a=31\/a=127
noncomputable def qR(a:Nat):Nat->Nat->List Nat
 | 0,_=>[]
 | c+1,i=>i::qR a c ((i*5+1)%(a+1))
theorem Fc(a):∀(c i k:Nat),k<c->(qR a c i)[k]?=ac (eQ a i k)
 | 0,_,_,h=>absurd h (z4 _)
 | c+1,i,0,_=>rfl
 | c+1,i,k+1,h=>by
  show (qR a c<|(i*5+1)%(a+1))[k]?=_;rw[Fc a c _ k (by lia)]
  congr 1;have:∀k,eQ a ((i*5+1)%(a+1)) k=eQ a i (k+1):=λk=>by
   induction k with
   | zero=>rfl
   | succ k ih=>simp_all [eQ]
  exact this k
theorem tW(b i a):∀c,eQ b i (a+c)=eQ b (eQ b i a) c
 | 0=>rfl
 | c+1=>by show (eQ b i (a+c)*5+1)%(b+1)=(eQ b (eQ b i a) c*5+1)%(b+1);rw[tW b i a c]
theorem Dg (d:gX a)(he:e<=a):∃c,c<=a/\eQ a 0 c=e:=by
 have key:∀m∈[7,31,127],∀e:Fin (m+1),(qR m (m+1) 0).contains e.val=bd:=by decide +kernel
 have f:a∈[7,31,127]:=by rcases d with rfl|rfl|rfl<;>simp
 have:=key a f ⟨e,by lia⟩;obtain⟨c,b,ec⟩:=kx<|List.contains_iff_mem.1 this;have hl:∀c i,(qR a c i).length=c:=λc=>by
  induction c with
  | zero=>exact λ_=>rfl
  | succ c g=>exact λi=>congrArg (·+1)<|g _
 rw[hl] at b;refine⟨c,by lia,?_⟩;have:=Fc a (a+1) 0 c b;simp_all
def AH (f:gX d)(j:i<=d)(k:e<=d):∃c,c<=d/\eQ d i c=e:=by
 obtain⟨a,ha,l⟩:=Dg f j;obtain⟨b,hb,m⟩:=Dg f k;have g:eQ d 0 (d+1)=0:=by rcases f with rfl|rfl|rfl<;>decide +kernel
 by_cases h:a<=b;grind [tW,ZX];refine⟨d+1-a+b,⋯,?_⟩;rw[<-l,<-tW,<-Nat.add_assoc,ZX (by lia),tW,g];exact m
def cover (d:gX a)(h:p.more<=9)(f:p.perturb<2 ^ 64)(g:e<=a):∃n,n<10*turns a/\(aE a p n).j=e:=by
 obtain⟨n,h1,i,l,m⟩:=Ea a p h 13;have hz:(aE a p n).perturb=0:=by rw[l];exact aee<|kH f ⋯
 obtain⟨b,o⟩:=m ⋯;obtain⟨c,hc,q⟩:=AH d o g;obtain⟨k,k1,_,_,r,_⟩:=A9 a (aE a p n) i hz b c;refine⟨n+k,by delta turns;lia,?_⟩;rw[hZ,r,q]
def iB(xs:Array Nat):Prop:=xs.toList.Pairwise (·<·)
def iB.lt{xs:Array Nat}(h:iB xs){a b x y:Nat}(c:a<b)(d:xs[a]?=ac x)(e:xs[b]?=ac y):x<y:=by rw[<-gi] at d e;obtain⟨f,rfl⟩:=cm.1 d;obtain⟨g,rfl⟩:=cm.1 e;exact pq.1 h a b f g c
theorem xB (h:iB xs)(j:Nat):∀(fuel lo a:Nat),a-lo<=fuel->lo<=a->a<=xs.size->(∀i x,i<lo->xs[i]?=ac x->x<j)->(∀i x,a<=i->xs[i]?=ac x->j<=x)->below.go xs j fuel lo a<=xs.size/\(∀i x,i<below.go xs j fuel lo a->xs[i]?=ac x->x<j)/\∀i x,below.go xs j fuel lo a<=i->xs[i]?=ac x->j<=x
 | 0,lo,a,g,k,b,c,d=>by
  have:lo=a:=by lia
  subst this;exact⟨b,c,d⟩
 | fuel+1,lo,a,g,k,b,c,d=>by
  unfold below.go;split
  ·dsimp only;have l:(lo+a)/2<xs.size:=⋯;have e:=ia l;have m:xs.getD ((lo+a)/2) j=xs[(lo+a)/2]:=by rw[nS,e];rfl
   rw[m];split
   ·rename_i hl;refine xB h j fuel _ a (by omega) (by omega) b (λi x f ex=>?_) d;by_cases z:i=(lo+a)/2;simp_all;exact Y4 (h.lt (by omega) ex e) hl
   refine xB h j fuel lo _ (by omega) (by omega) (by lia) c λi x f ex=>?_;by_cases z:i=(lo+a)/2;simp_all;have:=h.lt (by omega) e ex;lia
  have:lo=a:=by lia
  subst this;exact⟨b,c,d⟩
def xw (h:iB xs)(j:Nat):below xs j<=xs.size/\(∀i x,i<below xs j->xs[i]?=ac x->x<j)/\∀i x,below xs j<=i->xs[i]?=ac x->j<=x :=
 xB h j xs.size 0 xs.size ⋯ (pe _) (eK _) (λi x a=>absurd a<|z4 _) λi x a e=>by simp_all
def below_at (h:iB xs)(e:xs[i]?=ac j):below xs j=i:=by
 obtain⟨b1,b,c⟩:=xw h j;rcases aap (below xs j) i with z|z|z
 ·have d:=Y4 z (zb.1 e).1;have a:=ia d;have:=h.lt z a e;have:=c _ _ (eK _) a;lia
 ·exact z
 cases uz _ (b i j z e)
def xW{t:tu}(h:iB t.place){i j:Nat}(e:t.place[i]?=ac j):t.slot j=.live i:=by delta slot;dsimp only;rw[below_at h e,e];simp
theorem Ag{t:tu}(hd:t.dummies=#[]){j:Nat}:(∃i,t.slot j=.live i/\t.place[i]?=ac j)\/(t.slot j=.empty/\∀i,below t.place j=i->t.place[i]?≠ac j):=by
 delta slot;dsimp only;split
 ·rename_i h;exact ι ⟨_,ρ,by simpa using h⟩
 right;simp[has];simp_all
def ur{t:tu}(h:iB t.place)(hd:t.dummies=#[]){j:Nat}:t.slot j=.empty ↔ j∉t.place.toList:=by
 constructor
 ·intro e a;obtain⟨i,b,c⟩:=kx a;have:=xW h (by rw[<-gi,bt b,c]);simp_all
 intro a;rcases Ag hd with⟨i,_,e⟩|⟨e,_⟩
 ·rw[<-gi] at e;exact absurd (eR e) a
 exact e
def Sm(xs:Array Nat)(p:Nat)(x:Nat):(Yh xs p x).toList=xs.toList.take p++x::xs.toList.drop p:=by rw[Z5]
def iB.insert (h:iB xs)(l:j∉xs.toList):iB (Yh xs (below xs j) j):=by
 obtain⟨b1,m,n⟩:=xw h j;delta iB;rw[Sm,YU,T'];have hA:∀x∈xs.toList.take (below xs j),x<j:=λx c=>by obtain⟨i,d,e⟩:=kx c;rw[ib] at d;rw[List.getElem_take] at e;exact m i x ⋯ (by rw[<-gi,bt (by omega),e])
 have g:∀x∈xs.toList.drop (below xs j),j<x:=λx c=>by obtain⟨i,d,e⟩:=kx c;rw[t9] at d;rw[List.getElem_drop] at e;have:=n (below xs j+i) x ⋯ (by rw[<-gi,bt (by omega),e]);have:x≠j:=λz=>l<|z ▸ YX c;lia
 refine⟨h.sublist<|aaj _ _,⟨g,h.sublist<|List.drop_sublist _ _⟩,λa k b f=>?_⟩;rcases eW.1 f with rfl|f
 ·exact hA a k
 exact Y4 (hA a k)<|g b f
structure Good (t:tu) (hs:Array Int):Prop where
 m:gX t.mask
 d:t.dummies=#[]
 sz:t.place.size=hs.size
 rise:iB t.place
 le:∀j∈t.place.toList,j<=t.mask
 nf:t.place.size<=t.mask
 path:∀(i:Nat) (h:Int) (j:Nat),hs[i]?=ac h->t.place[i]?=ac j->∃n,(aE t.mask (t.probeStart h) n).j=j/\∀m,m<n->(aE t.mask (t.probeStart h) m).j∈t.place.toList
def CA(a)(p):(fU a p).dummy=p.dummy:=by delta fU;split<;>rfl
theorem BK(a)(p):∀n,(aE a p n).dummy=p.dummy
 | 0=>rfl
 | n+1=>(CA a _).trans (BK a p n)
def Ad(a)(p)(n):aE a (fU a p) n=aE a p (n+1):=by rw[abH,hZ];rfl
theorem Cu{t:tu}{hashAt:Nat->Int}{h:Int}(nd:∀j,t.slot j≠.dummy):∀(fuel:Nat) (p:aaw) (k:Nat),p.dummy=al->k<fuel->(t.slot (aE t.mask p k).j=.empty\/∃i,t.slot (aE t.mask p k).j=.live i/\hashAt i=h)->(∀m,m<k->∃i,t.slot (aE t.mask p m).j=.live i) ->
  ∃m,m<=k/\((m=k/\t.slot (aE t.mask p m).j=.empty/\probe.go t hashAt h fuel p=ac (.empty (aE t.mask p m).j al))\/∃i,t.slot (aE t.mask p m).j=.live i/\hashAt i=h/\probe.go t hashAt h fuel p=ac (.candidate (aE t.mask p m).j i (aE t.mask p<|m+1)))
 | 0,_,_,_,b,_,_=>absurd b (z4 _)
 | fuel+1,p,k,hd,b,a,hl=>by
  dsimp only[probe.go];cases e:t.slot p.j with
  | dummy=>cases nd _ e
  | empty =>
   cases k with
   | zero=>exact⟨0,eK _,ι ⟨ρ,e,by dsimp only;rw[hd];rfl⟩⟩
   | succ k=>obtain⟨i,z⟩:=hl 0<|Zu _;rw[show (aE t.mask p 0)=p from ρ,e] at z;contradiction
  | live i =>
   dsimp only;by_cases hh:hashAt i=h
   ·refine⟨0,pe _,τ ⟨i,e,hh,?_⟩⟩;rw[if_pos (by simpa using hh),AY];rfl
   rw[if_neg (by simpa using hh),AY];cases k with
   | zero =>
    rcases a with a|⟨i',a,hh'⟩
    ·rw[show (aE t.mask p 0)=p from ρ,e] at a;contradiction
    rw[show (aE t.mask p 0)=p from ρ,e] at a;lia
   | succ k=>obtain⟨m,hm,r⟩:=Cu nd fuel (fU t.mask p) k (by rw[CA];exact hd) (by lia) (by rw[Ad];exact a) (by simp_all [Ad]);refine⟨m+1,by omega,?_⟩;simp_all [Ad]
def Good.FH (g:Good t hs)(j:Nat):t.slot j≠.dummy:=λe=>by rcases Ag g.d with⟨i,a,_⟩|⟨a,_⟩<;>rw[a] at e<;>contradiction
def FP(t:tu)(h:Int):(t.probeStart h).more<=9/\(t.probeStart h).perturb<2 ^ 64/\(t.probeStart h).dummy=al:=by
 refine⟨?_,?_,ρ⟩
 ·show Zm t.mask _-_<=9;delta Zm;split<;>lia
 show abD h<2 ^ 64;simp[abD,YF]
def Good.ends (g:Good t hs)(h:Int):∃n,n<10*turns t.mask/\t.slot (aE t.mask (t.probeStart h) n).j=.empty:=by
 have ex:∃e,e<=t.mask/\e∉t.place.toList:=by refine sb λno=>?_;have sub:∀e∈gD (t.mask+1),e∈t.place.toList:=λe a=>sb λz=>no ⟨e,qy<|iW.1 a,z⟩;have:=Yk aaA sub;rw[l5,hI] at this;have:=g.nf;lia
 obtain⟨e,a,b⟩:=ex;obtain⟨c,f,_⟩:=FP t h;obtain⟨n,i,k⟩:=cover g.m c f a;exact⟨n,i,by rw[k];exact (ur g.rise g.d).2 b⟩
theorem Good.stop{t:tu}{hs:Array Int}(g:Good t hs)(h:Int)(is:Nat->Prop)(s:∀i,is i->hs[i]?=ac h) :
  ∃N,N<10*turns t.mask/\(∀m,m<N->∃i,t.slot (aE t.mask (t.probeStart h) m).j=.live i/\¬is i)/\((t.slot (aE t.mask (t.probeStart h) N).j=.empty/\∀i,¬is i)\/∃i,t.slot (aE t.mask (t.probeStart h) N).j=.live i/\is i):=by
 obtain⟨n,hn,u⟩:=g.ends h;have key:∀k,k<=n->(∀m,m<k->∃i,t.slot (aE t.mask (t.probeStart h) m).j=.live i/\¬is i)\/∃N,N<k/\(∀m,m<N->∃i,t.slot (aE t.mask (t.probeStart h) m).j=.live i/\¬is i)/\(t.slot (aE t.mask (t.probeStart h) N).j=.empty\/∃i,t.slot (aE t.mask (t.probeStart h) N).j=.live i/\is i):=λk=>by
  induction k with
  | zero=>exact λ_=>ι λm f=>absurd f (z4 _)
  | succ k v =>
   intro hk;rcases v (by lia) with a|⟨N,a,b⟩
   ·cases e:t.slot (aE t.mask (t.probeStart h) k).j with
    | dummy=>cases g.FH _ e
    | empty=>exact τ ⟨k,Y5 _,a,ι e⟩
    | live i =>
     by_cases z:is i
     ·exact τ ⟨k,Y5 _,a,τ ⟨i,e,z⟩⟩
     refine ι λm f=>?_;by_cases q:m=k;simp_all;exact a m (by lia)
   exact τ ⟨N,by lia,b⟩
 have l:∃N,N<=n/\(∀m,m<N->∃i,t.slot (aE t.mask (t.probeStart h) m).j=.live i/\¬is i)/\(t.slot (aE t.mask (t.probeStart h) N).j=.empty\/∃i,t.slot (aE t.mask (t.probeStart h) N).j=.live i/\is i):=by
  rcases key n (eK _) with a|⟨N,a,b⟩
  ·exact⟨n,eK _,a,ι u⟩
  exact⟨N,by lia,b⟩
 obtain⟨N,hN,a,b⟩:=l;refine⟨N,by lia,a,?_⟩;rcases b with b|b
 ·refine ι ⟨b,λi z=>?_⟩;have hh:=s i z;have o:i<t.place.size:=by rw[g.sz];exact (zb.1 hh).1
  have c:=ia o;obtain⟨p,r,w⟩:=g.path i h _ hh c;rcases aap p N with q|q|q
  ·obtain⟨i',x,ne⟩:=a p q;rw[r,xW g.rise c] at x;simp_all
  ·subst q;rw[r,xW g.rise c] at b;contradiction
  exact (ur g.rise g.d).1 b (w N q)
 exact τ b
def G0 (h:i<=a):i+(Zm a i-i)<=a:=by delta Zm;split<;>lia
def QO (h:p.j+p.more<=a):(fU a p).j+(fU a p).more<=a:=by delta fU;split;lia;exact G0<|qy<|YE _<|Zu _
theorem Di (h:p.j+p.more<=a):∀n,(aE a p n).j+(aE a p n).more<=a
 | 0=>h
 | n+1=>QO<|Di h n
def AG(t:tu)(h:Int)(n:Nat):(aE t.mask (t.probeStart h) n).j<=t.mask:=by have:(t.probeStart h).j+(t.probeStart h).more<=t.mask:=G0<|qy<|YE _<|Zu _;have:=Di this n;lia
def By (hp:p<=xs.size)(e:(Yh xs p x)[i]?=ac y):(i=p/\y=x)\/(i<p/\xs[i]?=ac y)\/(p<i/\xs[i-1]?=ac y):=by
 rw[<-gi,Z5] at e;have hl:(xs.toList.take p).length=p:=by simp only[ib,hI];lia
 rcases aap i p with h|h|h
 ·rw[k5 (by omega),ado,if_pos h] at e;exact τ<|ι ⟨h,by rw[<-gi];exact e⟩
 ·rw[ka (by omega),hl,h,abG] at e;exact ι ⟨h,(Option.some.inj e).symm⟩
 rw[ka (by omega),hl,show i-p=(i-p-1)+1 by lia,acF,abd] at e;exact τ<|τ ⟨h,by rw[<-gi,show i-1=p+(i-p-1) by lia];exact e⟩
def xO:y∈(Yh xs p x).toList ↔ y=x\/y∈xs.toList:=by rw[(aao xs p x).mem_iff,abo,eH,kA,or_comm]
def sY (xs:Array a)(p:Nat)(x:a):(Yh xs p x).size=xs.size+1:=by have:=(aao xs p x).length_eq;simpa using this
def wt{t:tu}(hd:t.dummies=#[])(j:Nat):t.put j=({t with place:=Yh t.place (below t.place j) j},below t.place j):=by simp_all [SetTable.put,has]
def Good.put (g:Good t hs)(A:t.slot (aE t.mask (t.probeStart h) N).j=.empty)(hl:∀m,m<N->∃i,t.slot (aE t.mask (t.probeStart h) m).j=.live i)(room:t.place.size+1<=t.mask) :
  Good (t.put (aE t.mask (t.probeStart h) N).j).1 (Yh hs (t.put (aE t.mask (t.probeStart h) N).j).2 h):=by
 have B:=(ur g.rise g.d).1 A;have p:=AG t h N;have s:∀m,m<N->(aE t.mask (t.probeStart h) m).j∈t.place.toList:=λm f=>by obtain⟨i,e⟩:=hl m f;exact sb λz=>by rw[(ur g.rise g.d).2 z] at e;contradiction
 simp[wt g.d];obtain⟨u,_,_⟩:=xw g.rise (aE t.mask (t.probeStart h) N).j;generalize v:(aE t.mask (t.probeStart h) N).j=j at *;refine⟨g.m,g.d,?_,g.rise.insert B,λy C=>?_,?_,λi h' o D E=>?_⟩
 ·rw[sY,sY,g.sz]
 ·rcases xO.1 C with rfl|z
  ·exact p
  exact g.le y z
 ·rwa[sY]
 have w:below t.place j<=hs.size:=by rw[<-g.sz];exact u
 have l:∀i,hs[i]?=ac h'->t.place[i]?=ac o->∃n,(aE t.mask (t.probeStart h') n).j=o/\∀m,m<n->(aE t.mask (t.probeStart h') m).j∈(Yh t.place (below t.place j) j).toList:=λi a b=>by obtain⟨n,c,d⟩:=g.path i h' o a b;exact⟨n,c,λm f=>xO.2<|τ<|d m f⟩
 rcases By w D with⟨q,r⟩|⟨q,r⟩|⟨q,r⟩<;>rcases By u E with⟨x,k⟩|⟨x,k⟩|⟨x,k⟩<;>try lia
 ·rw[r,k];exact⟨N,v,λm f=>xO.2<|τ<|s m f⟩
 ·exact l i r k
 exact l (i-1) r k
def Good.fresh(fingerV movesV)(led):Good (SetTable.fresh fingerV movesV led) #[]:=⟨ι ρ,ρ,ρ,aaR,λj h=>(by cases h),pe _,λi h j e=>(by simp at e)⟩
noncomputable def lp(a:Nat)(s:Nat×Nat):Nat->Nat×Nat
 | 0=>s
 | c+1=>lp a (ab6 a s.1 s.2) c
noncomputable def j0(a:Nat)(s:Nat×Nat):Probe:={j:=s.1,more:=Zm a s.1-s.1,i:=s.1,perturb:=s.2,dummy:=al}
def Gs(a)(s):aE a (j0 a s) (Zm a s.1-s.1+1)=j0 a (ab6 a s.1 s.2):=by simp[fU,aE,j0,tS]
def Cv(a i):i<=Zm a i:=by delta Zm;split<;>lia
theorem CJ:∀(fuel:Nat) (s:Nat×Nat) (j:Nat),Yv a owner fuel s.1 s.2=ac j->∃n,(aE a (j0 a s) n).j=j/\(owner.getD j<|ac 0).isNone=bd/\∀m,m<n->(owner.getD (aE a (j0 a s) m).j (ac 0)).isSome=bd
 | 0,_,_,h=>by exact nO h
 | fuel+1,s,j,h=>by
  unfold Yv at h;have re:=Cv a s.1;have b:∀k,k<=Zm a s.1-s.1->(aE a (j0 a s) k).j=s.1+k:=λk c=>by rw[tS a k (j0 a s) c];rfl
  cases e:(gD<|Zm a s.1+1-s.1).find? λk=>(owner.getD (s.1+k)<|ac 0).isNone with
  | some k=>rw[e] at h;have h:=Option.some.inj h;have c:=iW.1<|Y7 e;refine⟨k,by grind,by rw[<-h];have:=aaQ e;exact this,λm d=>?_⟩;rw[b m (by omega)];simp_all
  | none =>
   rw[e] at h;obtain⟨n,f,g,i⟩:=CJ fuel (ab6 a s.1 s.2) j h;refine⟨Zm a s.1-s.1+1+n,by rw[hZ,Gs];exact f,g,λm d=>?_⟩;by_cases q:m<Zm a s.1-s.1+1
   ·rw[b m (by lia)];have:=Zj.1 e m<|iW.2 (by omega);cases ho:owner.getD (s.1+m) (ac 0) with
    | none=>simp_all
    | some v=>rfl
   have l:m=Zm a s.1-s.1+1+(m-(Zm a s.1-s.1+1)):=⋯;rw[l,hZ,Gs];exact i _ (by lia)
theorem vA(a):∀(c:Nat) (s:Nat×Nat),lp a s (c+1)=ab6 a (lp a s c).1 (lp a s c).2
 | 0,_=>rfl
 | c+1,s=>by show lp a (ab6 a s.1 s.2) (c+1)=_;rw[vA a c];rfl
theorem Ed(a)(s):∀c,(lp a s c).2=s.2/32 ^ c
 | 0=>by simp only[afb,afq];rfl
 | c+1=>by rw[vA];show (lp a s c).2/32=_;simp only[Ed a s c,acQ,afc]
theorem QS (h:s.1<=a):∀c,(lp a s c).1<=a
 | 0=>h
 | c+1=>by rw[vA];exact qy<|YE _<|Zu _
theorem Be (h:s.2<2 ^ 64):∀c,(lp a s<|13+c).1=eQ a (lp a s 13).1 c
 | 0=>rfl
 | c+1=>by
  show (lp a s<|13+c+1).1=_;rw[vA];show ((lp a s<|13+c).1*5+1+(lp a s<|13+c).2/32)%(a+1)=(eQ a (lp a s 13).1 c*5+1)%(a+1);have z:(lp a s<|13+c).2=0:=by rw[Ed];refine aee<|kH h<|nE (show 2 ^ 64<=32 ^ 13 by decide)<|Nat.pow_le_pow_right ⋯ ⋯
  rw[z,Be h c]
def TJ (b:gX a)(d:s.1<=a)(f:s.2<2 ^ 64)(g:e<=a):∃c,c<turns a/\(lp a s c).1=e:=by obtain⟨c,hc,h⟩:=AH b (QS d 13) g;exact⟨13+c,by delta turns;lia,by rw[Be f];exact h⟩
theorem C0:∀(fuel:Nat) (s:Nat×Nat),Yv a owner fuel s.1 s.2=al->∀c,c<fuel->(owner.getD (lp a s c).1 (ac 0)).isNone=bi
 | 0,_,_,_,b=>absurd b (z4 _)
 | fuel+1,s,h,c,b=>by
  unfold Yv at h;have re:=Cv a s.1;cases e:(gD<|Zm a s.1+1-s.1).find? λk=>(owner.getD (s.1+k)<|ac 0).isNone with
  | some k=>rw[e] at h;contradiction
  | none =>
   rw[e] at h;cases c with
   | zero=>have:=Zj.1 e 0<|iW.2 ⋯;exact abz.2 this
   | succ c=>exact C0 fuel (ab6 a s.1 s.2) h c (by lia)
theorem Ry{a:Nat}(b:gX a){owner:Array (Option Nat)}{s:Nat×Nat}(d:s.1<=a)(f:s.2<2 ^ 64){e:Nat}(g:e<=a)(h:(owner.getD e<|ac 0).isNone=bd):∃j,Yv a owner (turns a) s.1 s.2=ac j:=by
 cases q:Yv a owner (turns a) s.1 s.2 with
 | some j=>exact⟨j,ρ⟩
 | none=>obtain⟨c,i,k⟩:=TJ b d f g;have:=C0 _ s q c i;rw[k,h] at this;contradiction
structure Laid (maskV:Nat) (hs:List Int) (owner:Array (Option Nat)) (k:Nat):Prop where
 sz:owner.size=maskV+1
 O:∀i,i<k->∃j:Nat,owner[j]?=ac (ac i)
 inj:∀j j' i:Nat,owner[j]?=ac (ac i)->owner[j']?=ac (ac i)->j=j'
 lt:∀j i:Nat,owner[j]?=ac (ac i)->i<k
 path:∀(i:Nat) (h:Int) (j:Nat),hs[i]?=ac h->owner[j]?=ac (ac i)->∃n,(aE maskV (j0 maskV (abD h%(maskV+1),abD h)) n).j=j/\∀m,m<n->∃v,owner[(aE maskV (j0 maskV (abD h%(maskV+1),abD h)) m).j]?=ac (ac v)
def Fn(a)(h)(n):(aE a (j0 a (abD h%(a+1),abD h)) n).j<=a:=AG {SetTable.fresh 0 0 true with mask:=a} h n
def getD_none{owner:Array (Option Nat)}{j:Nat}(hj:j<owner.size):(owner.getD j<|ac 0).isNone=bd ↔ owner[j]?=ac al:=by simp_all
def getD_some{owner:Array (Option Nat)}{j:Nat}(a:j<owner.size):(owner.getD j<|ac 0).isSome=bd ↔ ∃v,owner[j]?=ac (ac v):=by rw[nS,ia a];cases h:owner[j]<;>simp
theorem Laid.step (r:gX c)(L:Laid c hs owner k)(F:hs[k]?=ac h)(room:k<=c):∃j,Yv c owner (turns c) (abD h%(c+1)) (abD h)=ac j/\Laid c hs (owner.setIfInBounds j<|ac k) (k+1):=by
 have ex:∃e,e<=c/\(owner.getD e<|ac 0).isNone=bd:=by
  refine sb λno=>?_
  have all:∀e,e<=c->∃v,owner[e]?=ac (ac v):=λe l=>(getD_some (by rw[L.sz];omega)).1 (by
   cases q:owner.getD e (ac 0) with
   | none=>exact absurd ⟨e,l,by rw[q];rfl⟩ no
   | some v=>rfl)
  let g:Nat->Nat:=λe=>((owner[e]?).bind id).getD 0;have y:∀e,e<=c->owner[e]?=ac (ac<|g e):=λe l=>by obtain⟨v,o⟩:=all e l;show owner[e]?=ac (ac<|((owner[e]?).bind id).getD 0);rw[o];rfl
  have nd:((gD<|c+1).map g).Nodup:=gd.2 (aaA.imp_of_mem λ{a b} p G B e=>B<|L.inj a b (g a) (y a<|qy<|iW.1 p) (by rw[e];exact y b<|qy<|iW.1 G));have sub:∀v∈(gD<|c+1).map g,v∈gD k:=λv o=>by obtain⟨e,l,rfl⟩:=a8.1 o;exact iW.2<|L.lt e _<|y e<|qy<|iW.1 l
  have:=Yk nd sub;rw[ab,l5,l5] at this;lia
 obtain⟨e,l,H⟩:=ex;have C:abD h%(c+1)<=c:=qy<|YE _<|Zu _;obtain⟨j,D⟩:=Ry r (s:=(abD h%(c+1),abD h)) C ((λh=>(FP (SetTable.fresh 0 0 true) h).2.1) h) l H;obtain⟨n,E,I,J⟩:=CJ _ (abD h%(c+1),abD h) j D;have hj:j<=c:=by rw[<-E];exact Fn c h n
 have x:j<owner.size:=by rw[L.sz];lia
 have K:=(getD_none x).1 I;have t:∀a:Nat,(owner.setIfInBounds j<|ac k)[a]?=if a=j then ac (ac k) else owner[a]?:=λa=>by
  rw[Array.getElem?_setIfInBounds];by_cases q:j=a
  ·subst q;rw[if_pos ρ,if_pos ρ,if_pos x]
  rw[if_neg q,if_neg<|λz=>q z.symm]
 have keep:∀a v,owner[a]?=ac (ac v)->(owner.setIfInBounds j<|ac k)[a]?=ac (ac v):=λa v p=>by rw[t,if_neg (λz=>by rw[z,K] at p;cases p)];exact p
 refine⟨j,D,⟨by rw[Array.size_setIfInBounds];exact L.sz,λi C=>?_,λa b i d u=>?_,λa i d=>?_,λi h' a A w=>?_⟩⟩
 ·by_cases q:i=k
  ·subst q;exact⟨j,by rw[t,if_pos ρ]⟩
  obtain⟨a,p⟩:=L.O i (by lia);exact⟨a,keep a i p⟩
 ·rw[t] at d u;split at d<;>split at u
  ·lia
  ·cases d;have:=L.lt b k u;omega
  ·cases u;have:=L.lt a k d;omega
  exact L.inj a b i d u
 ·rw[t] at d;split at d
  ·cases d;lia
  have:=L.lt a i d;lia
 rw[t] at w;split at w
 ·cases w;rw[F] at A;obtain rfl:=sO A;rename_i q;subst q;refine⟨n,E,λm r=>?_⟩;obtain⟨v,o⟩:=(getD_some (by rw[L.sz];have:=Fn c h m;lia)).1 (J m r);exact⟨v,keep _ v o⟩
 obtain⟨M,N,O⟩:=L.path i h' a A w;refine⟨M,N,λm r=>?_⟩;obtain⟨v,o⟩:=O m r;exact⟨v,keep _ v o⟩
noncomputable def uJ(a:Nat)(b:Option (Array (Option Nat)×Nat))(h:Int):Option (Array (Option Nat)×Nat):=do
 let (owner,k) <-b;let j <-Yv a owner (turns a) (abD h%(a+1)) (abD h)
 pure (owner.setIfInBounds j<|ac k,k+1)
theorem Ew (c:gX a)(f:hs.length<=a):∀(l pre:List Int) (owner:Array (Option Nat)),hs=pre++l->Laid a hs owner pre.length->∃b,l.foldl (uJ a) (ac (owner,pre.length))=ac (b,hs.length)/\Laid a hs b hs.length
 | [],pre,owner,e,L=>by rw[px] at e;subst e;exact⟨owner,ρ,L⟩
 | h::l,pre,owner,e,L=>by
  have g:hs[pre.length]?=ac h:=by rw[e,ka<|eK _,abG];rfl
  have hl:pre.length<hs.length:=by simp_all
  obtain⟨j,ej,i⟩:=L.step c g (by lia);obtain⟨b,k,d⟩:=Ew c f l (pre++[h]) (owner.setIfInBounds j<|ac pre.length) (by rw[e,qt];rfl) (by rw[eu];exact i);refine⟨b,?_,d⟩;simp;have:uJ a (ac (owner,pre.length)) h=ac (owner.setIfInBounds j<|ac pre.length,(pre++[h]).length):=by delta uJ;simp_all
  rwa[this]
def TN (b:gX a)(hs:Array Int)(hn:hs.size<=a):∃owner,layClean a hs=ac owner/\Laid a hs.toList owner hs.size:=by
 have c:Laid a hs.toList (abT (a+1) al) 0:=by
  have no:∀j i:Nat,(abT (a+1) (al:Option Nat))[j]?≠ac (ac i):=by simp[Array.getElem?_replicate]
  exact⟨Array.size_replicate,λi d=>absurd d<|z4 _,λj j' i e=>absurd e<|no j i,λj i e=>absurd e<|no j i,λi h j _ e=>absurd e<|no j i⟩
 obtain⟨owner,e,L⟩:=Ew b (hs:=hs.toList) (by omega) hs.toList [] _ ρ c;refine⟨owner,?_,L⟩;show (hs.foldl (uJ a)<|ac (abT (a+1) al,0)).map (·.1)=_;simp_all
noncomputable def gH(a:Nat)(owner:Array (Option Nat)):List (Nat×Nat):=(gD<|a+1).filterMap λj=>(owner.getD j al).map (j,·)
theorem mT (L:Laid b hs owner n):(j,i)∈gH b owner ↔ owner[j]?=ac (ac i):=by
 delta gH;rw[Zi];have c:∀a,owner.getD a al=(owner[a]?).getD al:=λa=>nS ..;constructor
 ·rintro⟨a,ha,e⟩;rw[c] at e;cases q:owner[a]? with
  | none=>rw[q] at e;exact nO e
  | some o=>simp_all
 intro e;have d:=(zb.1 e).1;exact⟨j,iW.2 (by rw[<-L.sz];exact d),by rw[c,e];rfl⟩
def FA(c)(owner):((gH c owner).map (·.1)).Pairwise (·<·):=by delta gH;rw[gd,List.pairwise_filterMap];refine List.pairwise_lt_range.imp λ{a b} d x e y f=>?_;obtain⟨u,_,rfl⟩:=gf.1 e;obtain⟨v,_,rfl⟩:=gf.1 f;exact d
def Ia (L:Laid c hs owner n):((gH c owner).map (·.2)).Perm (gD n):=by
 refine (lq ?_ aaA).2 λi=>?_
 ·refine gd.2 ((gd.1<|FA c owner).imp_of_mem λ{a b} f g hab e=>?_);obtain⟨h,d⟩:=a;obtain⟨k,l⟩:=b;subst e;have:=L.inj h k d ((mT L).1 f)<|(mT L).1 g;simp_all
 rw[a8,iW];constructor
 ·rintro⟨⟨j,v⟩,m,rfl⟩;exact L.lt j v<|(mT L).1 m
 intro o;obtain⟨j,p⟩:=L.O i o;exact⟨(j,i),(mT L).2 p,ρ⟩
theorem u6 (xs:Array d):∀(l:List Nat),(∀i∈l,i<xs.size)->(l.filterMap λi=>xs[i]?).length=l.length/\∀k i:Nat,l[k]?=ac i->(l.filterMap λi=>xs[i]?)[k]?=xs[i]?
 | [],_=>⟨ρ,λk i e=>by exact nO e⟩
 | a::l,h=>by
  obtain⟨f,g⟩:=u6 xs l λi j=>h i<|f6 _ j;obtain⟨y,b⟩:∃y,xs[a]?=ac y:=⟨_,ia<|h a fk⟩;have e:((a::l).filterMap λi=>xs[i]?)=y::l.filterMap λi=>xs[i]?:=by simp only[Y',b]
  rw[e];refine⟨by simp only[gW,gW,f],λk i c=>?_⟩;cases k with
  | zero=>cases (Option.some.inj c);exact b.symm
  | succ k=>exact g k i c
def Good.laid{b fingerV movesV:Nat}{led plain:Bool}(c:gX b){hs:Array Int}(o:hs.size<=b):∃t order,SetTable.laid b fingerV movesV led plain hs=ac (t,order)/\t.mask=b/\t.led=led/\t.moves=movesV/\t.plain=plain/\order.toList.Perm (gD hs.size)/\Good t (order.filterMap λi=>hs[i]?):=by
 obtain⟨owner,e,L⟩:=TN c hs o;have pm:=Ia L;have rs:=FA b owner;refine⟨{mask:=b,place:=((gH b owner).map (·.1)).toArray,dummies:=#[],finger:=fingerV,led:=led,moves:=movesV,plain:=plain},((gH b owner).map (·.2)).toArray,?_,ρ,ρ,ρ,ρ,pm,?_⟩
 ·delta SetTable.laid;rw[e];rfl
 have all:∀i∈(gH b owner).map (·.2),i<hs.size:=λi p=>iW.1<|pm.mem_iff.1 p;obtain⟨m1,q⟩:=u6 hs _ all;have r:(((gH b owner).map (·.2)).toArray.filterMap λi=>hs[i]?).toList=((gH b owner).map (·.2)).filterMap λi=>hs[i]?:=by rw[aaD]
 have ll:(gH b owner).length=hs.size:=by have:=pm.length_eq;simp_all
 have g:∀j v,owner[j]?=ac (ac v)->j∈(gH b owner).map (·.1):=λj v h=>a8.2 ⟨(j,v),(mT L).2 h,ρ⟩;refine⟨c,ρ,?_,rs,λj f=>?_,?_,λi h j k d=>?_⟩;simp_all
 ·have f:=f;obtain⟨⟨a,v⟩,s,rfl⟩:=a8.1 f;have:=(zb.1<|(mT L).1 s).1;rw[L.sz] at this;exact qy this
 simp_all;have d:=d;rw[aaU,c6] at d;obtain⟨⟨a,v⟩,l,rfl⟩:=gf.1 d;have w:=(mT L).1 (eR l);rw[<-gi,r,q i v (by rw[c6,l];rfl),<-gi] at k;obtain⟨n,x,y⟩:=L.path v h a k w;refine⟨n,x,λm c=>?_⟩;obtain⟨u,z⟩:=y m c;exact g _ u z
section
variable{prog:hY}{w:nR}{K:Type}[DecidableEq K]{knd:KeyKind prog w K}{A:pA}{E:cn->cW->Prop}{s:cW}
def Ll(n)(h:abh v=bd):ab1 n v=pure false:=by
 cases v<;>first|(cases n<;>rfl)|contradiction
def DJ (e:ph knd s.heap g a)(h:Q false s):g8 (hQ prog w) A (ab1 8<|.ref a) Q E s:=by
 have i:=e.typeIs;obtain⟨o,items,n,j,_,hd,k⟩:=e;unfold ab1;refine bg<|aag i ?_;refine bg<|dr ?_;refine bg<|aau j hd ?_;apply bg;rw[<-adj];refine aeT _ (λb r s'=>r.1=al/\s'=s/\∀v∈b,abh v=bd) _ ?_ ?_ _ _ ⟨ρ,ρ,k.byValue⟩
 ·rintro v b r s' ⟨d,rfl,c⟩;rw[Ll _ (c v fk)];refine bg<|dr ?_;exact dr ⟨ρ,ρ,λu f=>c u<|f6 _ f⟩
 rintro⟨r1,r2⟩ s' ⟨d,rfl,_⟩;subst d;exact dr h
def Lg (j:ph knd s.heap k x)(m:∀y∈ys,∃a d,y=.ref a/\ph knd s.heap d a)(h:Q false s):g8 (hQ prog w) A (aeH (.ref x) ys) Q E s:=by
 apply bg;refine aeT _ (λb r s'=>r.1=al/\s'=s/\∀y∈b,∃a d,y=.ref a/\ph knd s.heap d a) _ ?_ ?_ _ _ ⟨ρ,ρ,m⟩
 ·rintro v b r s' ⟨i,rfl,f⟩;obtain⟨a,d,rfl,g⟩:=f v fk;have c:∀y∈b,∃a d,y=.ref a/\ph knd s'.heap d a:=λu l=>f u (f6 _ l);by_cases e:(x==a||(abh (.ref x)&&abh (.ref a)))=bd
  ·rw[if_pos e];exact dr ⟨ρ,ρ,c⟩
  rw[if_neg e];refine bg<|adQ j ?_;refine bg<|adQ g ?_;refine bg<|DJ j ?_;refine bg<|DJ g ?_;exact dr ⟨ρ,ρ,c⟩
 rintro⟨r1,r2⟩ s' ⟨i,rfl,_⟩;subst i;exact dr h
end
end
section
open PySem.SetTable
section
variable{prog:hY}{w:nR}{K:Type}[DecidableEq K]{knd:KeyKind prog w K}{A:pA}{E:cn->cW->Prop}{s:cW}
noncomputable def hA(a:Array (Int×cn))(i:Nat):Int:=(a[i]?.map (·.1)).getD 0
def rJ(knd:KeyKind prog w K)(h:nL)(b:Array (Int×cn)):Prop:=∀(i:Nat) (e:Int×cn),b[i]?=ac e->∃a k,e=(k7 knd k,nT a)/\ph knd h k a
def At(knd:KeyKind prog w K)(h:nL)(b:Array (Int×cn))(k:List K)(i:Nat):Prop:=∃a,b[i]?=ac (k7 knd k,nT a)/\ph knd h k a
def Good.fits{t:tu}{a:Array (Int×cn)}(g:Good t (a.map (·.1))):t.fits a.size=bd:=by delta SetTable.fits adB;simp only[g.sz,g.d,Yp];have:=g.nf;rw[g.sz,Yp] at this;simpa using this
def odd (h:gX m):(m%2==0)=bi:=by rcases h with rfl|rfl|rfl<;>rfl
theorem O3 (M:s.heap.get? S=ac o)(hd:o.data=.set p ep t)(g:Good t (p.map (·.1)))(H:rJ knd s.heap p)(O:ph knd s.heap k x)(R:A.units<u2)(hN:N<10*turns t.mask)(hl:∀m,m<N->∃i,t.slot (aE t.mask (t.probeStart<|k7 knd k) m).j=.live i/\¬At knd s.heap p k i)(D:(t.slot (aE t.mask (t.probeStart<|k7 knd k) N).j=.empty/\Q (.free (aE t.mask (t.probeStart<|k7 knd k) N).j false) s)\/((∃i,t.slot (aE t.mask (t.probeStart<|k7 knd k) N).j=.live i/\At knd s.heap p k i)/\Q (.there al) s)) :
  ∀(d n:Nat) (stand:Option aaw) (b:Nat),N-n=d->n<=N->d<b->stand.getD (t.probeStart<|k7 knd k)=aE t.mask (t.probeStart<|k7 knd k) n->g8 (hQ prog w) A (afP S (.ref x) (k7 knd k) true b stand) Q E s:=by
 intro d;induction d using Nat.strongRecOn with
 | ind d T =>
  intro n stand b hdn I U hs;obtain⟨b,rfl⟩:∃f,b=f+1:=⟨b-1,by lia⟩;refine bg<|v3 M hd g.fits ?_;dsimp only;rw[show t.gaveWay=bi from odd g.m,hs];simp only[kB,if_false];have F:∀m,aE t.mask (aE t.mask (t.probeStart<|k7 knd k) n) m=aE t.mask (t.probeStart<|k7 knd k) (n+m):=λm=>(hZ ..).symm;have V:∀i,At knd s.heap p k i->hA p i=k7 knd k:=λi ⟨a,e,_⟩=>by delta hA;rw[e];rfl
  have gm:=Cu g.FH (10*turns t.mask) (aE t.mask (t.probeStart<|k7 knd k) n) (N-n) (by rw[BK];rfl) (by lia) (by
   rw[F,ZX I];rcases D with⟨h,_⟩|⟨⟨i,h,ha⟩,_⟩
   ·exact ι h
   ·exact τ ⟨i,h,V i ha⟩) (λm hm=>by
   rw[F];obtain⟨i,h,_⟩:=hl (n+m) (by lia)
   exact⟨i,h⟩)
  obtain⟨m,hm,r⟩:=gm;rw[F,F] at r;have pr:∀f,f=hA p->t.probe f (k7 knd k) (aE t.mask (t.probeStart<|k7 knd k) n)=probe.go t (hA p) (k7 knd k) (10*turns t.mask) (aE t.mask (t.probeStart<|k7 knd k) n):=λf e=>by rw[e];rfl
  rw[pr _ ?U]
  case U=>rfl
  rcases r with⟨rfl,l,B⟩|⟨i,l,hh,B⟩
  ·simp[B];rw[ZX I] at l ⊢;rcases D with⟨_,q⟩|⟨⟨i,h,_⟩,_⟩
   ·exact dr q
   rw[h] at l;contradiction
  rw[B];dsimp only;have W:∃J,t.place[i]?=ac J:=by
   rcases Ag g.d with⟨X,C,P⟩|⟨C,_⟩
   ·rw[C] at l;cases l;exact⟨_,P⟩
   rw[C] at l;contradiction
  obtain⟨J,hJ⟩:=W;have hi:i<p.size:=by have:=(zb.1 hJ).1;rwa[g.sz,Yp] at this
  obtain⟨e,u⟩:∃e,p[i]?=ac e:=⟨_,ia hi⟩;obtain⟨a,G,rfl,v⟩:=H i e u;have L:G=k->Q (.there al) s:=λc=>by
   subst c;rcases D with⟨h,_⟩|⟨_,q⟩
   ·exfalso;by_cases z:n+m=N
    ·rw[z,h] at l;contradiction
    obtain⟨X,h',na⟩:=hl (n+m) (by lia);rw[h'] at l;cases l;exact na ⟨a,u,v⟩
   exact q
  have no:G≠k->n+m<N:=λc=>by
   refine sb λz=>?_;have z:n+m=N:=by lia
   rw[z] at l;rcases D with⟨h,_⟩|⟨⟨X,h,a',Y,Z⟩,_⟩
   ·rw[h] at l;cases l
   rw[h] at l;cases l;rw[u] at Y;have ea:a=a':=by injection (congrArg aek<|Option.some.inj Y)
   subst ea;exact c<|v.inj Z
  split
  ·refine bg<|Lg O (λy hy=>?_) ?_
   ·obtain⟨C,h1,rfl⟩:=a8.1 hy;obtain⟨j1,h2,h3⟩:=kx (ZJ.1 h1 |> Array.mem_filter.1 |>.1 |> ZJ.2);obtain⟨a1,k1,P,be⟩:=H j1 C (by rw[<-gi,bt h2,h3]);exact⟨a1,k1,by rw[P],be⟩
   simp only[kB,if_false];rw[u];dsimp only;refine bg<|o3<|aen R v O ?_;refine bg<|v3 M hd g.fits ?_;by_cases c:G=k
   ·rw[decide_eq_true c];exact dr<|L c
   rw[decide_eq_false c];simp only[Ys,kB,if_false];rw[show t.sameMemory t.moves t.mask=ac true by unfold acE;simp];dsimp only;rw[if_pos ρ,l];dsimp only;rw[u];dsimp only;refine bg<|adO ?_;exact T (N-(n+(m+1))) (by have:=no c;omega) (n+(m+1)) _ b ρ (by have:=no c;omega) (by have:=no c;omega) ρ
  rw[u];dsimp only;refine bg<|o3<|aen R v O ?_;refine bg (v3 M hd g.fits ?_);by_cases c:G=k
  ·rw[decide_eq_true c];exact dr<|L c
  rw[decide_eq_false c];simp only[Ys,kB,if_false];rw[show t.sameMemory t.moves t.mask=ac true by unfold acE;simp];dsimp only;rw[if_pos ρ,l];dsimp only;rw[u];dsimp only;refine bg<|adO ?_;exact T (N-(n+(m+1))) (by have:=no c;omega) (n+(m+1)) _ b ρ (by have:=no c;omega) (by have:=no c;omega) ρ
end
end
section
open PySem.SetTable
section
variable{prog:hY}{w:nR}{K:Type}[DecidableEq K]{knd:KeyKind prog w K}{A:pA}{E:cn->cW->Prop}{s:cW}
def rB(knd:KeyKind prog w K)(k:List K):Prop:=∃a r,k=a::r/\∀v,knd.is a v=bd->∃x t,v=Yd x t
theorem PH (c:ph knd s.heap b a)(tx:rB knd b)(h:Q false s):g8 (hQ prog w) A (hashByValue 8<|.ref a) Q E s:=by
 have f:=c.typeIs;obtain⟨o,items,n,g,_,hd,d⟩:=c;obtain⟨k0,r,rfl,z⟩:=tx;refine bg<|acB f F.slot_tuple_hash.lookup ?_;refine bg<|aau g hd ?_;apply bg;show g8 _ _ (forIn items _ _) _ _ s;rw[<-adj];generalize items.toList=l at d;cases d with
 | cons e _=>obtain⟨x,t,rfl⟩:=z _ e;rw[aaP];exact bg<|bg<|dr<|dr<|dr<|dr h
end
end
section
open PySem.SetTable
section
variable{prog:hY}{w:nR}{K:Type}[DecidableEq K]{knd:KeyKind prog w K}{A:pA}{E:cn->cW->Prop}{s:cW}
def nA (x:ph knd h k a)(ho:h.get? S=ac o)(hd:o.data=.set e ep t)(hs:Yi S h h'):ph knd h' k a:=by
 obtain⟨f,items,n,b,g,c,i⟩:=x;have d:a≠S:=by lia
 exact⟨f,items,n,(hs.2 a d).trans b,g,c,i⟩
def gy(knd:KeyKind prog w K)(U:dk->Prop)(h:nL)(S:dk)(c:List (List K)):Prop:=∃o b ep t,h.get? S=ac o/\o.ExactSet/\o.data=.set b ep t/\Good t (b.map (·.1))/\rJ knd h b/\(∀k,(∃i,At knd h b k i) ↔ k∈c)/\b.size=c.length/\t.place.size*5<t.mask*3/\(∀e∈b.toList,∃a,e.2=.ref a/\U a)/\(c≠[]->t.plain=bi)
def A5 (a:Array b):(gD a.size).filterMap (λi=>a[i]?)=a.toList:=by
 apply List.ext_getElem?;intro q;obtain⟨z1,c⟩:=u6 a (gD a.size) λi d=>iW.1 d;by_cases e:q<a.size
 ·rw[c q q (Y9 e),gi]
 simp_all
def My (c:s.heap.get? S=ac o)(hd:o.data=.set b ep t)(g:Good t (b.map (·.1)))(d:gX (aan n-1))(f:b.size<=aan n-1)(hz:aan n<=cA)(h:∀(es':Array (Int×cn)) (t':tu),es'.toList.Perm b.toList->Good t' (es'.map (·.1))->t'.mask=aan n-1->t'.plain=t.plain->Q () {s with heap:=s.heap.update S (aab es' t')}):g8 (hQ prog w) A (afx S n) Q E s:=by
 refine bg<|v3 c hd g.fits ?_;dsimp only;rw[if_neg (afN.2 hz)];obtain⟨t',order,e,j,e2,e3,k,pm,g'⟩:=Good.laid d (hs:=b.map (·.1)) (by rw[Yp];exact f);rw[Yp] at pm;have all:∀i∈order.toList,i<b.size:=λi l=>iW.1<|pm.mem_iff.1 l;obtain⟨m,m2⟩:=u6 b order.toList all;have p:t.relaid (b.map (·.1)) n=ac (t',order):=e;have hsz:(order.filterMap λi=>b[i]?).size=b.size:=by rw[<-hI,aaD,m,pm.length_eq,l5]
 rw[p];refine bg<|ad1 (a:=(order.filterMap λi=>b[i]?,t')) ?_ ?_
 ·apply if_neg;rw[hsz];simp
 refine aeC c hd (h _ t' ?_ ?_ j k) (by rw[hsz];lia)
 ·rw[aaD];have q:=pm.filterMap λi=>b[i]?;exact q.trans<|abn<|A5 b
 simp_all [Array.map_filterMap]
end
end
section
open PySem.SetTable
section
variable{prog:hY}{w:nR}{K:Type}[DecidableEq K]{knd:KeyKind prog w K}{A:pA}{E:cn->cW->Prop}{s:cW}
theorem Good.plain (g:Good t hs)(p:Bool):Good {t with plain:=p} hs:=⟨g.m,g.d,g.sz,g.rise,g.le,g.nf,g.path⟩
def Dw{h:nL}{S:dk}{o:z5}{a es':Array (Int×cn)}{ep:Nat}{t t':tu}(b:h.get? S=ac o)(hd:o.data=.set a ep t):(h.update S<|aab es' t').get? S=ac {o with data:=.set es' (ep+1) t'}:=by have:=ua (aab es' t') b (by rw[putSet_of es' t' hd];rfl);rwa[putSet_of es' t' hd] at this
def Bh (g:rJ knd h b):(∃i,At knd h b k i) ↔ ∃e∈b.toList,∃a,e.2=.ref a/\ph knd h k a:=by
 constructor
 ·rintro⟨i,a,e,d⟩;rw[<-gi] at e;exact⟨_,eR e,a,ρ,d⟩
 rintro⟨e,m,a,f,d⟩;obtain⟨i,n,o⟩:=kx m;have j:b[i]?=ac e:=by rw[<-gi,bt n,o]
 obtain⟨l,k',p,c⟩:=g i e j;subst p;have f:l=a:=by injection f
 subst f;obtain rfl:=d.inj c;exact⟨i,l,j,c⟩
def gy.of (g:h.get? S=ac o)(D:o.ExactSet)(hd:o.data=.set f ep t)(l:rJ knd h f)(u:∀k,(∃i,At knd h f k i) ↔ k∈r)(v:ph knd h k x)(G:f.size=r.length)(H:∀e∈f.toList,∃a,e.2=.ref a/\U a)(I:U x)(F:h'.get? S=ac {o with data:=.set es' q t'})(hs:Yi S h h')(pm:es'.toList.Perm ((k7 knd k,nT x)::f.toList))(g':Good t' (es'.map (·.1)))(nf:t'.place.size*5<t'.mask*3)(J:t'.plain=bi):gy knd U h' S (r++[k]):=by
 have m:rJ knd h' es':=λi e c=>by
  rw[<-gi] at c;rcases eW.1 (pm.mem_iff.1<|eR c) with rfl|z
  ·exact⟨x,k,ρ,nA v g hd hs⟩
  obtain⟨j,y,B⟩:=kx z;obtain⟨a,n,C,p⟩:=l j e (by rw[<-gi,bt y,B]);exact⟨a,n,C,nA p g hd hs⟩
 refine⟨_,es',q,t',F,D,ρ,g',m,λn=>?_,?_,nf,λe c=>?_,λ_=>J⟩
 ·rw[Bh m,eH,kA,<-u n,Bh l];have back:∀{e:Int×cn}{a:dk},e∈f.toList->e.2=.ref a->ph knd h' n a->ph knd h n a:=λ{e a} c b d=>by
   obtain⟨j,y,B⟩:=kx c;obtain⟨L,k1,C,p⟩:=l j e (by rw[<-gi,bt y,B]);subst C;have b:L=a:=by injection b
   subst b;rw[d.inj (nA p g hd hs)];exact p
  constructor
  ·rintro⟨e,c,a,b,d⟩;rcases eW.1 (pm.mem_iff.1 c) with rfl|z
   ·right;have b:x=a:=by injection b
    subst b;exact d.inj<|nA v g hd hs
   exact ι ⟨e,z,a,b,back z b d⟩
  rintro (⟨e,c,a,b,d⟩|rfl)
  ·exact⟨e,pm.mem_iff.2<|f6 _ c,a,b,nA d g hd hs⟩
  exact⟨_,pm.mem_iff.2 fk,x,ρ,nA v g hd hs⟩
 ·have:=pm.length_eq;simp at this;simp only[this,eu,G];rfl
 rcases eW.1 (pm.mem_iff.1 c) with rfl|z
 ·exact⟨x,ρ,I⟩
 exact H e z
end
end
section
open PySem.SetTable
section
variable{prog:hY}{w:nR}{K:Type}[DecidableEq K]{knd:KeyKind prog w K}{A:pA}{E:cn->cW->Prop}{s:cW}
def M1 (V:gy knd U s.heap S c)(F:ph knd s.heap k x)(hu:A.units<u2)(room:c.length<70)(W:U x)(tx:rB knd k)(h:∀b h',Yi S s.heap h'->gy knd U h' S (if k∈c then c else c++[k])->Q b {s with heap:=h'}):g8 (hQ prog w) A (setAddHashed S (.ref x)<|k7 knd k) Q E s:=by
 have X:=V;obtain⟨o,f,ep,t,r,J,hd,g,y,n,v,nf,Y,hpl0⟩:=V;refine o3<|bg<|v3 r hd g.fits ?_;dsimp only;rw[show byScan (.ref x) f=bi from ρ];obtain⟨N,hN,hl,hq⟩:=g.stop (k7 knd k) (At knd s.heap f k) (λi ⟨a,e,_⟩=>by rw[adi,e];rfl);have hN2:N<100000:=by
  have:turns t.mask<=142:=by delta turns;rcases g.m with e|e|e<;>rw[e]<;>decide
  lia
 refine bg<|O3 r hd g y F hu hN hl ?_ (N-0) 0 al 100000 ρ (pe _) (by omega) ρ;rcases hq with⟨G,no⟩|⟨i,G,Z⟩
 ·refine ι ⟨G,?_⟩;have R:k∉c:=λz=>by obtain⟨i,hi⟩:=(n k).2 z;exact no i hi
  rw[if_neg R] at h;refine bg<|v3 r hd g.fits ?_;have be:t.place.size+1<=t.mask:=by lia
  have B:=g.put G (by simp_all) be;have U6:t.place.size=c.length:=by rw[g.sz,Yp,v]
  generalize (aE t.mask (t.probeStart<|k7 knd k) N).j=j at *;rw[wt g.d] at B;rw[wt g.d];have em:∀p,(Yh f p (k7 knd k,nT x)).map (·.1)=Yh (f.map (·.1)) p (k7 knd k):=λp=>by apply Array.toList_inj.1;simp[Z5]
  rw[<-em] at B;have q:=aao f (below t.place j) (k7 knd k,nT x);rw[abo] at q;have q:=q.trans<|ach _ _;have L:=sY f (below t.place j) (k7 knd k,nT x);have C:∀l:tu,Good l ((Yh f (below t.place j) (k7 knd k,nT x)).map (·.1))->l.mask=t.mask->l.plain=bi->g8 (hQ prog w) A (do
    storeSet S (Yh f (below t.place j) (k7 knd k,nT x)) l
    if (!false&&l.tooFull)=bd then do
     afx S (grown<|f.size+1)
     pure true
    else pure true) Q E s:=λl H em2 M=>by
   have p2:l.place.size=c.length+1:=by rw[H.sz,Yp,L,v]
   have sl:(Yh f (below t.place j) (k7 knd k,nT x)).size<=sizeLine:=by rw[L,v];delta cA;lia
   generalize Yh f (below t.place j) (k7 knd k,nT x)=u at *;have D:=Dw (es':=u) (t':=l) r hd;have I:=sW s.heap S<|aab u l;refine bg<|aeC r hd ?_ sl;have full:l.tooFull=am ((c.length+1)*5 ≥ l.mask*3):=by delta SetTable.tooFull adB;rw[H.d,p2];rfl
   split
   ·have T:(c.length+1)*5 ≥ t.mask*3:=by simp_all
    rw[U6] at nf;obtain⟨hm,hz⟩:(gX (aan (grown<|f.size+1)-1)/\(c.length+1)*5<(aan (grown<|f.size+1)-1)*3)/\aan (grown<|f.size+1)<=sizeLine:=by
     rw[v];rcases g.m with e|e|e<;>rw[e] at nf T
     ·have:c.length=4:=by lia
      rw[this];exact⟨⟨τ<|ι ⋯,⋯⟩,by delta cA;decide⟩
     ·have:c.length=18:=by lia
      rw[this];exact⟨⟨τ<|τ ⋯,⋯⟩,by delta cA;decide⟩
     lia
    refine bg (My D ρ H hm.1 (by lia) hz λes' t' O g' U8 U9=>dr ?_);have U':=Dw (es':=es') (t':=t') D ρ;have P:=sW (s.heap.update S<|aab u l) S<|aab es' t';refine h true _ (I.trans P)<|gy.of r J hd y n F v Y W U' (I.trans P) (O.trans q) g' ?_<|U9.trans M;have:t'.place.size=c.length+1:=by rw[g'.sz,Yp];have:=O.length_eq;simp_all
    rw[this,U8];exact hm.2
   rename_i T;refine dr (h true _ I<|gy.of r J hd y n F v Y W D I q H ?_ M);simp_all
  split
  ·exact bg<|PH F tx<|C _ (B.plain false) ρ ρ
  rename_i np;exact bg<|dr<|C _ B ρ<|yv _ ▸ np
 refine τ ⟨⟨i,G,Z⟩,?_⟩;have R:k∈c:=(n k).1 ⟨i,Z⟩;rw[if_pos R] at h;exact dr<|h false s.heap (Heap.SameBut.refl S s.heap) X
end
end
section
open PySem.SetTable
section
variable{prog:hY}{w:nR}{K:Type}[DecidableEq K]{knd:KeyKind prog w K}{A:pA}{R:acp->cW->Prop}{I:dk}{fp wr:List dk}{G:Array abk->Array abk->Prop}{n:Nat}{Pr:Nat->cn->Prop}{St:Nat->cW->Prop}
def gy.moved (x:gy knd U h S l)(hs:∀o,h.get? S=ac o->h'.get? S=ac o)(d:∀k a,ph knd h k a->ph knd h' k a):gy knd U h' S l:=by
 obtain⟨o,p,ep,t,s,m,hd,g,c,f,r⟩:=x;refine⟨o,p,ep,t,hs o s,m,hd,g,λi e u=>?_,λk=>?_,r⟩
 ·obtain⟨a,k,j,b⟩:=c i e u;exact⟨a,k,j,d _ _ b⟩
 rw[<-f k];constructor
 ·rintro⟨i,a,e,z⟩;obtain⟨v,k',j,b⟩:=c i _ e;have y:a=v:=by injection j with _ q;injection q
  subst y;obtain rfl:=z.inj<|d _ _ b;exact⟨i,a,e,b⟩
 rintro⟨i,a,e,z⟩;exact⟨i,a,e,d _ _ z⟩
noncomputable def jG(a:List (List K))(v:List K):List (List K):=if v∈a then a else a++[v]
def fW(val:Nat->List K)(i:Nat):List (List K):=((gD i).map val).foldl jG []
def Au(val:Nat->List K)(i:Nat):fW val (i+1)=jG (fW val i) (val i):=by delta fW;simp only[ZN,ft,adL];rfl
theorem FG(val:Nat->List K):∀{n:Nat},i<=n->(fW val i).length<=(fW val n).length
 | 0,h=>by rw[adf.1 h];exact eK _
 | n+1,h=>by
  rcases Nat.lt_or_eq_of_le h with h|rfl
  ·apply nE<|FG val<|qy h;rw[Au];delta jG;split
   ·exact eK _
   simp
  exact eK _
theorem QL(W:WalksS prog w A.in1 I fp wr G n Pr St)(S:dk)(y:S∉fp)(val:Nat->List K)(h0:nL)(P:∀i v,Pr i v->∃a,v=.ref a/\U a/\rB knd (val i)/\ph knd h0 (val i) a)(B:A.units+1<u2)(Q:(fW val n).length<70)(T:∀i s,St i s->∀k a,ph knd s.heap k a->a∉wr) :
  ∀(k i:Nat) (s:cW),n-i=k->i<=n->St i s->(∀k a,ph knd h0 k a->ph knd s.heap k a)->gy knd U s.heap S (fW val i) ->
   (∀s',Moved (S::wr) G s s'->gy knd U s'.heap S (fW val n)->R (.ok<|.ret .none) s') ->
   ZV (hQ prog w) A (.builtin "set.update.loop" ⟨[.ref S,.ref I],[]⟩) R s:=by
 have hw:S∉wr:=λh=>y<|W.sub _ h;have C:∀b∈wr,b∈S::wr:=λb z=>f6 _ z;have mv:∀i s s',St i s->Moved wr G s s'->∀k a,ph knd s.heap k a->ph knd s'.heap k a:=λi s s' st c k a x=>by have:=T i s st k a x;obtain⟨o,items,m,V,r⟩:=x;exact⟨o,items,m,c.heap _ _ this V,r⟩
 intro k;induction k with
 | zero =>
  intro i s X Y st d hs l;obtain rfl:i=n:=by lia
  apply y1 z7;refine bg (W.done s _ _ st λs' c=>?_);exact dr (l s' (c.mono C)<|hs.moved (λo e=>c.heap S _ hw e)<|mv _ _ _ st c)
 | succ k Z =>
  intro i s X Y st d hs l;have f:i<n:=⋯;apply y1 z7;rw[se qp _];refine bg (W.item i s _ _ f st λv s' hP D c=>?_);obtain⟨x,rfl,ux,tx,E⟩:=P i v hP;have p:=mv _ _ _ st c;have H:=p _ _<|d _ _ E;have j:=hs.moved (λo e=>c.heap S _ hw e) p;refine bg<|o3 ?_;refine o3<|bg<|wpAny_pyHash_tuple (by simpa using B) H ?_;refine M1 j H (by simpa using B) (He (FG val<|Zx f) Q) ux tx λb h' g J=>?_;obtain⟨oS,es,ep,t,L,_,M,_⟩:=j;have N:gy knd U h' S (fW val<|i+1):=by rw[Au];exact J
  refine dr ⟨YT qp _,Z (i+1) _ ⋯ f (W.frame _ s' _ _ D (Y6 _ _) λb z o e=>?_) (λk a z=>nA (p _ _<|d _ _ z) L M g) N λO q u=>?_⟩
  ·rwa[g.2 b (λh:b=S=>y<|h ▸ z)]
  refine l O (Moved.trans W.gtrans ((c.mono C).then_heap (Y6 _ _) λb o z e=>?_) q) u;rwa[g.2 b (λh:b=S=>z<|h ▸ fk)]
end
end
section
open PySem.SetTable
section
variable{P:hY}{w:nR}{K:Type}[DecidableEq K]{knd:KeyKind P w K}{A:pA}{E:cn->cW->Prop}{s:cW}
def LG (hh:A.handled=al)(hu:A.units+4<u2)(hl:s.heap.IsList l items)(t:∀i v,items[i]?=ac v->∃a,v=.ref a/\U a/\rB knd (val i)/\ph knd s.heap (val i) a)(u:(fW val items.size).length<70)(h:∀(h':nL) (tk:Nat),gy knd U h' s.heap.objs.size (fW val items.size)->(∀b o,b<s.heap.objs.size->s.heap.get? b=ac o->h'.get? b=ac o)->Q (.ref s.heap.objs.size) {s with heap:=h',toks:=tk}) :
  g8 (hQ P w) A (call (.type "set") [.ref l]) Q E s:=by
 refine G2 (A:=A) (items:=items) (Fin:=λh'=>gy knd U h' s.heap.objs.size<|fW val items.size) hl (λled R I y B f n g p hit k=>?_) h;have q:A.in1.in1.in1.handled=al:=by simp[hh]
 have up:∀k a,ph knd s.heap k a->ph knd y k a:=λk a ⟨o,it,m,e,r⟩=>⟨o,it,m,by rw[B];exact ee _<|ee _ e,r⟩;refine QL (knd:=knd) ((Walks.list q _ l f items).toS) s.heap.objs.size n val s.heap t (by simp;lia) u (λi s1 st k a x=>?C) (items.size-0) 0 _ ⋯ (pe _) ⟨hit,p⟩ up ?D k
 case C=>obtain⟨oi,hoi,ri⟩:=st.1;obtain⟨o,it,m,e,c,d,_⟩:=x;grind
 exact⟨_,#[],0,_,g,⟨ρ,ρ,ρ⟩,ρ,(by rw[Array.map_empty];exact Good.fresh 0 0 led),λi e j=>by simp at j,λk=>⟨λ⟨i,a,e,_⟩=>by simp at e,λz=>by simp[fW] at z⟩,ρ,(by show 0*5<7*3;decide),λe j=>by simp at j,λz=>absurd ρ z⟩
end
end
section
open PySem.SetTable
def nH:PySem.Slot "set_iterator" "__next__" "set_iterator.__next__" :=
 .of (owner:="set_iterator") (n:="__next__") (by rw[afe,adR];kernel_rfl) (by decide +kernel) (by decide +kernel) (by decide +kernel) (by first|exact ι (by decide +kernel)|exact τ (by decide +kernel)) (by rw[afB];kernel_rfl)
def Fe:afE table "set_iterator.__next__"=ac Yx.«set_iterator.__next__»:=ae1 (by kernel_rfl)
def QH:Manifest.owners.lookup (String.ofList ['r','o','t','a','r','e','t','i','_','t','e','s'].reverse)=ac Manifest.sig_set_iterator:=by kernel_rfl
def FR(a):argsOk "set_iterator.__next__" ⟨[a],[]⟩:=by delta argsOk;kernel_rfl
def JG:afE table "set.__iter__"=ac Yx.«frozenset.__iter__»:=entryFor_alias (id':="frozenset.__iter__") (by kernel_rfl) ρ (by decide +kernel) (by kernel_rfl)
theorem vS:∀{l:List a}{i:Nat}(h:i<l.length),(l[i]::l.eraseIdx i).Perm l
 | x::l,0,h=>.refl _
 | x::l,i+1,h=>(adh _ _ _).trans ((vS<|Nat.lt_of_succ_lt_succ h).cons x)
section
variable{prog:hY}{w:nR}{A:pA}{E:cn->cW->Prop}{s:cW}
def wp_choose (b:n≠0)(h:∀i d,i<n->Q i {s with drawn:=d}):g8 (hQ prog w) A (choose a n) Q E s:=fun Γ p _=>⟨b,h _ _<|YE _<|Nat.pos_of_ne_zero b⟩
theorem Oc (n):∀(xs:List b) (s:cW) {Q:List b->cW->Prop},xs.length<=n->(∀ys d,ys.Perm xs->Q ys {s with drawn:=d})->g8 (hQ prog w) A (drawOrder n xs) Q E s:=by
 induction n with
 | zero=>exact λxs s Q hl h=>dr (h [] s.drawn (by rw[Yr.1 (adf.1 hl)]))
 | succ n c =>
  intro xs s Q hl h;cases xs with
  | nil=>exact dr (h [] s.drawn .nil)
  | cons x xs=>refine bg (wp_choose (Nat.succ_ne_zero _) λi d a=>?_);rw[bt a];refine bg (c _ _ (by rw[ac2,if_pos a];exact Nat.le_of_succ_le_succ hl) λys d' pm=>dr<|h _ d'<|(pm.cons _).trans (vS a))
theorem EJ (next):∀(n k:Nat) (xs:List a) (out:Array a),xs.length<=n->(pickOrder.go next n k xs out).toList.Perm (out.toList++xs)
 | 0,k,[],out,_=>by rw[px];exact .refl _
 | n+1,k,[],out,_=>by rw[px];exact .refl _
 | n+1,k,x::xs,out,hl=>by have b:next k%(x::xs).length<(x::xs).length:=YE _<|Zu _;unfold pickOrder.go;rw[bt b];apply (EJ next n _ _ _ (by simp_all [ac2])).trans;rw[abo,qt];exact (vS b).append_left _
def lK(h:nL)(I S:dk)(f:cn)(i n ep:Nat):Prop:=∃o,h.get? I=ac o/\o.cls=.type "set_iterator"/\o.data=.fields #[f,.int i 0,.ref S,.int n 0,.int ep 0]
def Way(w:nR)(h:nL)(S:dk)(a:Array (Int×cn))(ep:Nat)(vs:List cn)(f:cn):Prop :=
 (w.params.followText "set-order"=bd/\f=.int 0 0/\vs=(aeZ (w.params.setOrder S ep) a).toList.map (·.2)) \/
 (∃T o n,∃b:List Nat,f=.ref T/\h.get? T=ac o/\o.data=.seq (b.map λi:Nat=>Zl i).toArray n/\b.map (λp=>(a[p]?).map (·.2))=vs.map ac)
def lK.ty (x:lK s.heap I S f i n ep):s.TypeIs (.ref I) "set_iterator":=let ⟨o,a,b,_⟩:=x;⟨o,a,b⟩
def F1 (b:s.heap.get? S=ac o)(hd:o.data=.set a ep t)(c:t.fits a.size=bd)(d:w.params.followText "set-order"=bd)(q:Q (((aeZ (w.params.setOrder S ep) a)[i]?).map λe=>(e.2,0)) s):g8 (hQ prog w) A (setNext S 0 i ep) Q E s:=by have ask:∀{Q:Bool->cW->Prop},Q true s->g8 (hQ prog w) A setsByText Q E s:=λq=>bg<|acn<|dr (by rw[show (abQ ⟨(hQ prog w).prog,(hQ prog w).w.params⟩).followText "set-order"=bd from d];exact q);refine bg<|v3 b hd c ?_;refine bg<|ask ?_;rw[if_pos ρ,if_neg (by simp)];refine bg ?_;refine bg<|v3 b hd c<|bg<|ask ?_;exact bg<|acn<|dr<|dr q
def MB (hit:lK s.heap I S f i a.size ep)(p:s.heap.get? S=ac o)(hd:o.data=.set a ep t)(r:t.fits a.size=bd)(G:Way w s.heap S a ep vs f)(g:vs[i]?=ac v)(q:∀h',lK h' I S f (i+1) a.size ep->Yi I s.heap h'->Q (ac v) {s with heap:=h'}):g8 (hQ prog w) A (Za<|.ref I) Q E s:=by
 have ty:=hit.ty;obtain⟨x,c,y,b⟩:=id hit;refine bg<|abK<|L' ty nH<|sj nH ty Fe ?z<|FR _;delta Yx.«set_iterator.__next__»;refine bg<|dr<|bg<|abg c b ?_;dsimp only;refine bg<|abB p hd r ?_;rw[if_neg ⋯];have nx:∀{h:nL}{u:z5},h.get? I=ac u->u.cls=.type "set_iterator"->u.data=.fields #[f,.int i 0,.ref S,.int a.size 0,.int ep 0]->lK (h.update I (ZK (·.setIfInBounds 1 (Zl<|(i:Int)+1)))) I S f (i+1) a.size ep:=λd H B=>⟨_,ua _ d<|ZD<|C' B _,(abE ..).trans H,by rw[C' B];simp[Zl]⟩;rcases G with⟨J,rfl,rfl⟩|⟨T,oT,n,j,rfl,K,C,k⟩
 ·refine bg<|F1 p hd r J ?_;rw[c6,gi] at g;obtain⟨e,d,rfl⟩:=gf.1 g;simp[d];refine bg (YB c b ⋯ ?_);have D:=ua (ZK (·.setIfInBounds 0 (Zl ((0:Nat):Int)))) c<|ZD<|C' b _;have F:=(C' b (·.setIfInBounds 0 (Zl ((0:Nat):Int)))).trans (show _=ae7 #[ZW 0 0,.int i 0,.ref S,.int a.size 0,.int ep 0] from by simp[Zl]);have M:=nx D ((abE ..).trans y) F;refine bg (YB D F (by simp) (dr ⟨_,ρ,dr (q _ M ((sW s.heap I (ZK (·.setIfInBounds 0 (Zl ((0:Nat):Int))))).trans (sW ..)))⟩))
 have l:i<j.length:=by have:=congrArg List.length k;rw[ab,ab] at this;rw[this];exact (cm.1 g).1
 have N:(a[j[i]]?).map (·.2)=ac v:=by simpa[c6,bt l,g] using congrArg (·[i]?) k
 obtain⟨e,d,rfl⟩:=gf.1 N;refine bg<|aau K C ?_;dsimp only;rw[show aeg (i:Int)=i from ρ,aaU,c6,bt l];apply bg;refine bg<|v3 p hd r ?_;dsimp only;rw[if_neg ⋯,show aeg (j[i]:Int)=j[i] from ρ,d];exact dr<|bg<|YB c b ⋯ (dr ⟨_,ρ,dr<|q _ (nx c y b)<|sW ..⟩)
def OY (hh:A.handled=al)(hit:lK s.heap I S f c.size c.size ep)(j:s.heap.get? S=ac o)(hd:o.data=.set c ep t)(k:t.fits c.size=bd)(u:Way w s.heap S c ep vs f)(i:vs.length=c.size)(q:∀h',acY I s.heap h'->Q al {s with heap:=h'}):g8 (hQ prog w) A (Za<|.ref I) Q E s:=by
 have ty:=hit.ty;obtain⟨x,g,x2,d⟩:=id hit;have stop:∀(h:nL) (R:Fin->cW->Prop),acY I s.heap h->g8 (hQ prog w) A.in1 (newExc (.type "StopIteration") [] >>= λe=>afz e) R (λe s'=>g8 (hQ prog w) A (isInstance e (.type "StopIteration") >>= λb=>if b=bd then pure al else throw e) Q E s') {s with heap:=h}:=λh R v=>by refine bg<|bg<|rp (bg<|ad1 (a:=qe) ρ<|rp ?B (by size_fits)) (by size_fits);dsimp only[afz];refine bg<|afO ?G;rw[show A.in1.handled=al from hh];refine bg<|dr<|wpAny_throw ?H;exact bg<|acm ⟨_,gj _ ρ,ρ⟩ afC<|dr<|q _<|(v.push _).push _
 unfold Za;refine bg<|abK<|L' ty nH<|sj nH ty Fe ?z<|FR _;delta Yx.«set_iterator.__next__»;refine bg<|dr<|bg<|abg g d ?_;dsimp only;refine bg<|abB j hd k ?_;rw[if_neg ⋯];rcases u with⟨y,rfl,rfl⟩|⟨T,oT,n,C,rfl,D,l,p⟩
 ·refine bg<|F1 j hd k y ?_;rw[ab,hI] at i;simp[aaE (Zy i)];exact bg<|YB g d ⋯ (stop _ _ (sW ..).extBut)
 have r:C.length=c.size:=by have:=congrArg List.length p;rwa[ab,ab,i] at this
 refine bg<|aau D l ?_;dsimp only;rw[show aeg (c.size:Int)=c.size from ρ,aaU,c6,acT<|Zy r];refine bg<|YB g d ⋯ ?_;have F:=ua (ZK (·.setIfInBounds 0 (Zl 0))) g<|ZD<|C' d _;have B:=C' d (·.setIfInBounds 0 (Zl 0));exact bg<|YB F B ⋯ (stop _ _ ((sW ..).trans (sW ..)).extBut)
theorem Ly (g:s.heap.get? S=ac o)(m:o.ExactSet)(hd:o.data=.set a ep t)(j:t.fits a.size=bd)(n:1<a.size)(hz:a.size<=cA)(k:t.plain=bi)(q:∀I h' d f vs,s.heap.objs.size<=I->(∀b o,s.heap.get? b=ac o->h'.get? b=ac o)->lK h' I S f 0 a.size ep->Way w h' S a ep vs f->vs.Perm (a.toList.map (·.2))->(∀T,f=.ref T->s.heap.objs.size<=T/\T≠I)->Q (.ref I) {s with heap:=h',drawn:=d}):g8 (hQ prog w) A (adv<|.ref S) Q E s:=by
 have ty:s.TypeIs (.ref S) "set":=⟨o,g,m.1⟩;refine aeE ty aeK<|sj aeK ty JG ?z<|F.args_set_iter_1 _;delta Yx.«frozenset.__iter__» ad9 slotArgs;simp only[List.isEmpty_nil,aa8,kB,↓reduceIte,bind_assoc,YH];refine bg<|dr ?_;try dsimp only
 refine bg<|dr ?_;refine bg<|bg<|abB g hd j<|dr ?_;refine bg<|bg<|v3 g hd j<|bg<|bg<|acn<|dr<|dr ?_;by_cases h:w.params.followText "set-order"=bd
 ·rw[show (abQ ⟨(hQ prog w).prog,(hQ prog w).w.params⟩).followText "set-order"=bd from h];refine Z9 (λz=>by simp_all) λ_=>?_;refine bg<|dr<|bg<|aeD g hd j<|bg<|rp<|dr ⟨_,ρ,"set_iterator",_,⟨_,gj _ ρ,ρ⟩,nH.lookup,?_⟩;refine q _ _ s.drawn (.int 0 0) ((aeZ (w.params.setOrder S ep) a).toList.map (·.2)) (eK _) (λb o e=>ee _ e) ⟨_,gj _ ρ,ρ,by simp[Zl]⟩ (ι ⟨h,ρ,ρ⟩) ?_ λT e=>nomatch e
  have:=EJ (w.params.setOrder S ep) a.size 0 a.toList #[] (Zy hI);exact this.map _
 have h:=abz.2 h;rw[show (abQ ⟨(hQ prog w).prog,(hQ prog w).w.params⟩).followText "set-order"=bi from h];refine Z9 (λ_=>?_) λz=>absurd (show (!false&&(!t.plain&&am (a.size>1)))=bd from by rw[k];simpa using n) z;refine bg (Oc _ _ _ (Zy l5) λc d pm=>?_);have hl:c.length=a.size:=by rw[pm.length_eq,l5]
 refine bg<|afv ?_ (by simp_all);have l:∀b o,s.heap.get? b=ac o->(s.heap.push {cls:=.type "tuple",data:=.seq (c.map λi:Nat=>Zl i).toArray}).get? b=ac o:=λb o e=>ee _ e;refine bg<|aeD (l _ _ g) hd j<|bg<|rp<|dr ⟨_,ρ,"set_iterator",_,⟨_,gj _ ρ,ρ⟩,nH.lookup,?_⟩;have all:∀p∈c,p<a.size:=λp k=>iW.1<|pm.mem_iff.1 k;refine q _ _ d (.ref s.heap.objs.size) (c.filterMap λp=>(a[p]?).map (·.2)) ⋯ (λb o e=>ee _<|l b o e) ⟨_,gj _ ρ,ρ,by simp[Zl]⟩ (τ ⟨_,_,_,c,ρ,ee _<|gj _ ρ,ρ,?_⟩) ?_ λT e=>by simp_all
 ·clear pm hl l;induction c with
  | nil=>rfl
  | cons p c r=>rw[hS,r λx u=>all x<|f6 _ u,Y',ia<|all p fk];rfl
 refine (pm.filterMap _).trans (abn ?_);rw[<-A5 a,List.map_filterMap]
end
end
section
open PyProof.V PySem.SetTable PySem.W PySem.Calls
section
variable{prog:hY}{w:nR}{A:pA}{E:cn->cW->Prop}{s:cW}
def Way.at (x:Way w h S a ep vs f)(k:∀T,f=.ref T->∀o,h.get? T=ac o->h'.get? T=ac o):Way w h' S a ep vs f:=by
 rcases x with x|⟨T,o,n,b,e,c,r⟩
 ·exact ι x
 exact τ ⟨T,o,n,b,e,k T e o c,r⟩
def R8 (d:s.TypeIs (.ref r) "set")(h:Q false s):g8 (hQ prog w) A (aa5<|.ref r) Q E s:=by
 refine bg<|acB d PySem.F.slot_set_len.lookup ?_;generalize c:("set.__len__":String)=e
 wp_delta
 subst c;refine bg<|acm (b:=true) d (by rw[afB];kernel_rfl) ?_;refine Z9 (λa=>absurd a ⋯)<|λ_=>?_;refine Z9 (λ_=>?_)<|λa=>absurd (by decide +kernel) a;refine bg<|aag d ?_;exact dr h
theorem Rk (hh:A.handled=al)(B:vs.length=a.size)(hz:a.size<=cA)(C:Way w h0 S a ep vs f)(G:h0.get? S=ac o)(hd:o.data=.set a ep t)(H:t.fits a.size=bd)(p:S≠D)(r:S≠I)(d:D≠I)(j:∀T,f=.ref T->T≠D/\T≠I) :
  ∀(k i:Nat) (s:cW) (c:Nat),a.size-i=k->i<=a.size->(∀b o,b≠D->b≠I->h0.get? b=ac o->s.heap.get? b=ac o)->lK s.heap I S f i a.size ep->s.heap.get? D=ac {cls:=.type "list",dict:=al,data:=.seq (vs.take i).toArray c,slots:=#[]} ->
   (∀h' N,(∀b o,b≠D->b≠I->h0.get? b=ac o->h'.get? b=ac o)->h'.get? D=ac {cls:=.type "list",dict:=al,data:=.seq vs.toArray N,slots:=#[]}->R (.ok<|.ret n) {s with heap:=h'}) ->
   ZV (hQ prog w) A (.builtin "list.extend.loop" ⟨[.ref D,.ref I,n],[]⟩) R s:=by
 intro k;induction k with
 | zero =>
  intro i s c O P kp it l z;obtain rfl:i=a.size:=by lia
  apply y1 abV;refine bg (OY hh it (kp _ _ p r G) hd H (C.at λT e o q=>kp _ _ (j T e).1 (j T e).2 q) B λh' J=>?_);rw[<-B,nk] at l;exact dr (z h' c (λb o m g e=>J b o g<|kp b o m g e)<|J _ _ d l)
 | succ k Q =>
  intro i s c O P kp it l z;have v:i<vs.length:=by lia
  apply y1 abV;refine bg (MB it (kp _ _ p r G) hd H (C.at λT e o q=>kp _ _ (j T e).1 (j T e).2 q) (bt v) λh' K L=>?_);have x:=(L.2 _ d).trans l;have sz:(vs.take i).toArray.size=i:=by rw[gs,ib];lia
  obtain⟨h,y⟩:∃h,(h'.update D (Yl (·.push vs[i]))).get? D=ac {cls:=.type "list",dict:=al,data:=.seq (vs.take<|i+1).toArray h,slots:=#[]}:=⟨_,by
   rw[show (vs.take<|i+1).toArray=(vs.take i).toArray.push vs[i] from by rw[<-List.take_append_getElem v,List.push_toArray]]
   exact ua (Yl (·.push vs[i])) x ρ⟩
  refine bg<|acA x ρ (dr ⟨YT W0 _,Q (i+1) _ h (by lia) (by lia) (λb o m g e=>?_) ?_ y λU h V M=>?_⟩) (by rw[sz];lia) (by show ((vs.take i).toArray.push vs[i]).size<=cA+1;rw[adZ,sz];lia)
  ·exact (ti _ _<|Ne.symm m).trans ((L.2 b g).trans (kp b o m g e))
  ·obtain⟨u,W,X⟩:=K;exact⟨u,(ti _ _ d).trans W,X⟩
  exact z U h V M
def Jc (hh:A.handled=al)(z:s.heap.get? S=ac o)(j:o.ExactSet)(hd:o.data=.set g ep t)(B:t.fits g.size=bd)(O:1<g.size)(hz:g.size<=cA)(P:t.plain=bi)(q:∀h' d vs,(∀b o,s.heap.get? b=ac o->h'.get? b=ac o)->vs.Perm (g.toList.map (·.2))->Q vs {s with heap:=h',drawn:=d}):g8 (hQ prog w) A (collect<|.ref S) Q E s:=by
 refine bg<|afu<|y1 entry_proto_collect' ?_;show g8 _ A.in1 (newList [] >>= λl=>again<|.builtin "list.__iadd__" ⟨[l,.ref S],[]⟩) _ _ s;refine bg<|rp ?_;refine dr ⟨YT acd _,y1 entry_list_iadd' ?_⟩;have C:=fj z;have R:(s.heap.push {cls:=.type "list",data:=.seq ([]:List cn).toArray}).get? s.heap.objs.size=ac {cls:=.type "list",data:=.seq #[]}:=gj _ ρ;have k:(s.heap.push {cls:=.type "list",data:=.seq ([]:List cn).toArray}).get? S=ac o:=ee _ z;have U:∀b o,s.heap.get? b=ac o->(s.heap.push {cls:=.type "list",data:=.seq ([]:List cn).toArray}).get? b=ac o:=λb o e=>ee _ e;have sz:(s.heap.push {cls:=.type "list",data:=.seq ([]:List cn).toArray}).objs.size=s.heap.objs.size+1:=aev ..;generalize s.heap.push {cls:=.type "list",data:=.seq ([]:List cn).toArray}=D at *;show g8 _ A.in1 (aa6 (.ref s.heap.objs.size) (.ref S)<|.ref s.heap.objs.size) _ _ _;refine bg<|aag ⟨o,k,j.1⟩ ?_;have y:=Zv C;have V:abr (.ref s.heap.objs.size) (.ref S)=bi:=by simp[abr,y]
 simp[V];refine bg (Ly k j hd B O hz P λI h' d f vs G kp it W pm H=>?_);have J:=kp _ _ k;have X:vs.length=g.size:=by rw[pm.length_eq,ab,hI]
 have K:∀T,f=.ref T->T≠s.heap.objs.size/\T≠I:=λT e=>⟨by have q:D.objs.size<=T:=(H T e).1;lia,(H T e).2⟩;have key:∀(hA:nL) (c:Nat),(∀b o,b≠s.heap.objs.size->h'.get? b=ac o->hA.get? b=ac o)->hA.get? s.heap.objs.size=ac {cls:=.type "list",dict:=al,data:=.seq #[] c,slots:=#[]}->ZV (hQ prog w) A (.builtin "list.extend.loop" ⟨[.ref s.heap.objs.size,.ref I,.ref s.heap.objs.size],[]⟩) (λr s'=>∃h m,r=.ok (.ret<|.ref s.heap.objs.size)/\s'={s with heap:=h,drawn:=d}/\(∀b o,s.heap.get? b=ac o->h.get? b=ac o)/\h.get? s.heap.objs.size=ac {cls:=.type "list",dict:=al,data:=.seq vs.toArray m,slots:=#[]}) {s with heap:=hA,drawn:=d}:=λhA c L M=>by obtain⟨u,Y,Z⟩:=it;refine Rk (I:=I) hh X hz W J hd B y.symm (by lia) (by lia) K g.size 0 _ c ⋯ (pe _) (λb o b1 b2 e=>L b o b1 e) ⟨u,L _ _ (by lia) Y,Z⟩ M λh m n a=>⟨h,m,ρ,ρ,λb o e=>?_,a⟩;have:=fj e;exact n b o (by lia) (by lia)<|kp b o<|U b o e
 have p:=kp _ _ R;refine bg<|o3<|R8 ⟨o,J,j.1⟩ ?_;refine Z9 (λ_=>?_)<|λ_=>dr ⟨YT W0 _,ZF (key h' 0 (λb o _ e=>e) p) λr s' x=>?_⟩
 ·refine bg<|wpAny_rule ?_;apply bg;show g8 _ _ (aeW s.heap.objs.size (·.push .none) >>= λ_=>aeW s.heap.objs.size (·.pop)) _ _ _;refine bg<|acA p ρ ?_;have i:=ua (Yl (·.push qe)) p ρ;apply acA (hz:=by seq_fits) i ρ;refine dr ⟨YT W0 _,ZF (key _ _ (λb o N e=>(ti _ _<|Ne.symm N).trans ((ti _ _<|Ne.symm N).trans e)) (ua (Yl (·.pop)) i ρ)) λr s' x=>?_⟩;obtain⟨h,m,rfl,rfl,n,a⟩:=x;show g8 _ A (load s.heap.objs.size >>= _) _ _ _;exact bg<|aem a<|dr<|q _ d vs n pm
 obtain⟨h,m,rfl,rfl,n,a⟩:=x;show g8 _ A (load s.heap.objs.size >>= _) _ _ _;exact bg<|aem a<|dr<|q _ d vs n pm
end
end
section
variable{X:Cx}{pos:y4}
def uO:List Dat->Option Res
 | [.L ds]=>(dF ds).bind λa=>if a.length<64 then ac (.O<|.L<|(aB a).map .str) else al
 | _=>al
def Rq (a:Gl X "sorted")(b:X.mg "sorted"=al)(c:bA X e [])(d:DA X [e] fa):DE X (.Call (.Name "sorted" p) [e] [] pos) (bO uO fa) :=
 gB BD (by
   intro H0 ps Z σ H b vs ds o Q a S r k;delta uO at a;split at a
   ·obtain⟨c,d,a⟩:=oA a;split at a
    ·rename_i hz;obtain rfl:=sO a;obtain⟨v,vr,rfl,⟨p,ws,rfl,e,rs⟩,f⟩:=r;subst f;have g:=kz d rs;subst g;refine⟨p,c,ρ,Rd.mono S.sub e,hz,λl hl=>?_⟩;exact k (.ref l) _ b (S.made hl) (aj.refl _) ⟨l,ρ,⟨_,bb,lI _,S.cX hl⟩,(S.bz hl).2,(S.bz hl).1,S.dA hl⟩
    exact nO a
   exact nO a) a b (by decide +kernel) d ⋯ ⋯ c rfl
def qj:List Dat->Option Res
 | [.dn a]=>if a.length<64 then ac (.O (.L ((aB (a.map (·.1))).map .str))) else al
 | _=>al
structure wo (x:eS):Prop where
 mark:True
theorem JT{x:eS}{fa:AF}{p a:y4}(ht:wo x)(b:X.ex=[])(c:X.calm=bd)(d:Gl X "sorted")(e:X.mg "sorted"=al)(f:mu [.Name x a] X.env=(false,eval (.Name x a) X.env)::mu [] X.env)(g:DA X [.Name x a] fa):DE X (.Call (.Name "sorted" p) [.Name x a] [] pos) (bO qj fa):=(fun a b c d f g=>
  gB (wI a b) (by
    intro H0 ps Z σ H d vs ds o Q a S r k;delta qj at a;split at a
    ·rename_i e;split at a
     ·rename_i hz;obtain rfl:=sO a;obtain⟨v,vr,rfl,⟨p,f,kvs,rfl,g,b⟩,h⟩:=r;subst h;refine⟨p,kvs,e.map (·.1),ρ,τ ⟨f,S.sub _ _ g⟩,qB b,by rw[bJ.length b];exact hz,fun ss' pm c l hl=>?_⟩;rw[qU pm c];exact k (.ref l) _ d (S.made hl) (aj.refl _) ⟨l,ρ,⟨_,bb,lI _,S.cX hl⟩,(S.bz hl).2,(S.bz hl).1,S.dA hl⟩
     exact nO a
    exact nO a) c d (by decide +kernel) g ⋯ ⋯ f ρ) b c d e f g
structure CG (x:eS):Prop where
 mark:True
def Jb (ht:CG x)(b:X.ex=[])(c:Gl X "sorted")(d:X.mg "sorted"=al)(e:mu [.Name x a] X.env=(false,eval (.Name x a) X.env)::mu [] X.env)(f:DA X [.Name x a] fa):DE X (.Call (.Name "sorted" p) [.Name x a] [] pos) (bO oO fa):=tZ b c d e f
end
theorem EU [DecidableEq c]:∀{l m:List c},l.Nodup->(∀x∈l,x∈m)->m.length<=l.length->l.Perm m
 | [],m,_,_,h=>by rw[Yr.1 (adf.1 h)]
 | a::l,m,nd,hs,h=>by have f:=hs a fk;have b:=qh.1 nd;have g:=EU b.2 (λx d=>(ac0 λ(e:x=a)=>b.1<|e ▸ d).2 (hs x<|f6 _ d)) (by simp_all);exact (g.cons a).trans (List.perm_cons_erase f).symm
section
variable{K:Type}[DecidableEq K]
theorem qH:∀(l a:List (List K)),a.Nodup->(l.foldl jG a).Nodup/\∀k,k∈l.foldl jG a ↔ k∈a\/k∈l
 | [],a,nd=>⟨nd,λk=>⋯⟩
 | x::l,a,nd=>by
  have h:(jG a x).Nodup/\∀k,k∈jG a x ↔ k∈a\/k=x:=by unfold jG;split;simp_all;exact⟨iR.2 ⟨nd,⋯,λp hp q hq e=>by simp_all⟩,λk=>⋯⟩
  obtain⟨h1,h2⟩:=qH l (jG a x) h.1;simp_all [or_assoc]
end
section
variable{X:Cx}{pins:List (dk×z5)}{σ:St}{H:Hp}{s:cW}{pos:y4}
def Zs(K:f')(H:Hp)(zs:List (dk×List eS)):Prop:=∀z∈zs,z.2≠[]/\ba K H z.1 (z.2.map V.str)
def Zs.txt{K:f'}{zs:List (dk×List eS)}(h:Zs K H zs):ni K H (zs.map (V.ref ·.1)) (zs.map (·.2)) :=
 ⟨by rw[ab,ab],λi f e=>by rw[c6] at e;obtain⟨z,a,rfl⟩:=gf.1 e;obtain⟨h0,b⟩:=h z<|eR a;exact⟨h0,z.1,by rw[c6,a];rfl,b⟩⟩
def tL(vs:List V)(fs:List (List eS))(zs:List (dk×List eS)):Prop:=∀z∈zs,∃i:Nat,fs[i]?=ac z.2/\vs[i]?=ac (V.ref z.1)
theorem tL.zs{K:f'}{vs:List V}{fs:List (List eS)}{zs:List (dk×List eS)}(h:tL vs fs zs)(t:ni K H vs fs):Zs K H zs:=λz hz=>by obtain⟨i,b,e2⟩:=h z hz;obtain⟨h0,a,e3,sq⟩:=t.2 i _ b;simp_all
theorem BV:∀l:List cn,(∀e∈l,∃a,e=.ref a/\∃(i:Nat) (f:List eS),fs[i]?=ac f/\vs[i]?=ac (V.ref a))->∃zs:List (dk×List eS),l=zs.map (nT ·.1)/\tL vs fs zs
 | [],_=>⟨[],ρ,λz hz=>by simp at hz⟩
 | e::l,h=>by
  obtain⟨a,rfl,i,f,b,c⟩:=h e fk;obtain⟨zs,rfl,t⟩:=BV l λe d=>h e<|f6 _ d;refine⟨(a,f)::zs,ρ,λz hz=>?_⟩;rcases eW.1 hz with rfl|hz
  ·exact⟨i,b,c⟩
  exact t z hz
noncomputable def fY(f:List eS):List Key:=f.map uy
def Mc (h:fY f=fY g):f=g:=(List.map_inj_right λa b e=>by injection e).1 h
def AA(I:Inv X pins σ H s)(c:ba X.K H a (f.map V.str)):ph (cJ X.prog X.w) s.heap (fY f) a:=by
 obtain⟨us,b,⟨o,d,e,n,hd⟩,_⟩:=I.tuple c;refine⟨o,us.toArray,n,d,e,hd,?_⟩;have g:(f.map V.str)=(fY f).map kV:=by unfold fY;rw[fm];rfl
 rw[g] at b;exact wX b
def dW(fs:List (List eS)):List (List eS):=fs.foldl jG []
def wO(fs):(dW fs).Nodup:=(qH fs [] .nil).1
def mm:k∈dW fs ↔ k∈fs:=by exact ((qH fs [] .nil).2 k).trans ⋯
def JH(fs):(fW (λi=>fY<|(fs[i]?).getD []) fs.length).length<=(dW fs).length:=by
 obtain⟨nd,mem⟩:=qH ((gD fs.length).map λi=>fY<|(fs[i]?).getD []) [] .nil;rw[<-ab (f:=fY) (as:=dW fs)];refine nd.length_le_of_subset λk b=>?_;rcases (mem k).1 b with z|z
 ·simp at z
 obtain⟨j,a,rfl⟩:=a8.1 z;have a:=iW.1 a;rw[bt a];exact aa1<|mm.2<|z8 a
noncomputable def tI(a:dk)(zs:List (dk×List eS)):HO:=.ext λh=>∃o b ep t,h.get? a=ac o/\o.ExactSet/\o.data=.set b ep t/\t.fits b.size=bd/\(zs≠[]->t.plain=bi)/\b.toList.map (·.2)=zs.map (nT ·.1)
theorem RK(hc:X.calm=bd)(hu:X.A.units+64<u2):bM X (.type "set") (λxs H Q=>∃(p:dk) (vs:List V) (fs:List (List eS)),xs=[.ref p]/\Rd H p (.L vs)/\ni X.K H vs fs/\(dW fs).length<70 /\
  ∀S zs,H S=al->tL vs fs zs->(zs.map (·.2)).Nodup->(∀g,g∈zs.map (·.2) ↔ g∈fs)->Q (.ref S) (upd H S<|tI S zs)):=by
 intro pins s σ H xs us Q I r h;obtain⟨p,vs,fs,rfl,rd,tx,hz,q⟩:=h;obtain⟨u,rfl,ru⟩:=r.one;subst ru;obtain⟨z,its,n,L,e⟩:=rd.ok I.au;have hL:s.heap.IsList p its.toArray:=⟨_,e,ρ,n,ρ⟩;have l:its.length=fs.length:=by rw[<-tx.1];exact L.length.symm
 refine LG (knd:=cJ X.prog X.w) (U:=λa=>∃(i:Nat) (f:List eS),fs[i]?=ac f/\vs[i]?=ac (V.ref a)) (I.ok.hd hc) (by lia) hL (λi v D=>?_) (by rw[show its.toArray.size=fs.length from List.size_toArray.trans l];exact He (JH fs) hz) λh' tk M hk=>?_
 ·have D:its[i]?=ac v:=by simpa using D
  have B:i<fs.length:=by rw[<-l];exact (cm.1 D).1
  obtain⟨h0,a,d,sa⟩:=tx.2 i _<|bt B;obtain⟨_,N,r1⟩:=L.get d;subst r1;rw[D] at N;obtain rfl:=sO N;rw[bt B];refine⟨a,ρ,⟨i,_,bt B,d⟩,?_,AA I sa⟩;cases F:fs[i] with
  | nil=>cases h0 F
  | cons x r=>exact⟨_,_,ρ,λv hv=>by
    cases v<;>first|exact⟨_,_,ρ⟩|exact (Zk hv).elim⟩
 rw[show its.toArray.size=fs.length from List.size_toArray.trans l] at M;obtain⟨nd,mem⟩:=qH ((gD fs.length).map λi=>fY<|(fs[i]?).getD []) [] .nil;have kp:∀b o,s.heap.get? b=ac o->h'.get? b=ac o:=λb o O=>hk b o (fj O) O
 obtain⟨o,G,ep,t,R,T,hd,g,els,J,hn,nf,hU,hp⟩:=M;obtain⟨zs,d,sub⟩:=BV (G.toList.map (·.2)) (λe he=>by obtain⟨e',W,rfl⟩:=a8.1 he;exact hU e' W)
 have ta:=sub.zs tx;have Y:G.size=zs.length:=by rw[<-ab,<-d,ab,hI]
 have E:∀f∈fs,f∈zs.map (·.2):=λf F=>by
  obtain⟨j,c,ej⟩:=kx F;have hm:fY f∈fW (λi=>fY<|(fs[i]?).getD []) fs.length:=(mem _).2 (τ<|a8.2 ⟨j,iW.2 c,by rw[bt c,ej];rfl⟩);obtain⟨i,a,ei,C⟩:=(J _).2 hm;have Z:=congrArg (·[i]?) d;simp[ei] at Z;obtain⟨z,hz,e3⟩:=gf.1 Z.symm;have hz:=eR hz;have e4:z.1=a:=by injection e3
  obtain⟨o',it,m,g1,g2⟩:=AA I (ta z hz).2;rw[e4] at g1;rw[Mc (C.inj ⟨o',it,m,kp _ _ g1,g2⟩)];exact aa1 hz
 have U6:(zs.map (·.2)).Nodup:=by
  have pm:=EU nd (λk C=>by
   rcases (mem k).1 C with z|z
   ·simp at z
   obtain⟨j,c,rfl⟩:=a8.1 z;have c:=iW.1 c;rw[bt c];exact aa1<|E _<|z8 c) (by rw[ab,ab,<-Y];exact Zy hn)
  exact List.Pairwise.of_map fY (λa b h e=>h<|congrArg fY e)<|pm.nodup_iff.1 nd
 refine⟨.ref s.heap.objs.size,upd H s.heap.objs.size<|tI s.heap.objs.size zs,?_,ρ,q _ _ (I.au.fresh (a:=s.heap.objs.size)<|eK _) sub U6 λg=>⟨λhg=>?_,E g⟩⟩
 ·exact I.laid kp (eK _) ⟨⟨o,G,ep,t,R,T,hd,g.fits,λz=>hp λy=>by simp_all,d⟩,⟨o,R⟩,by simp_all⟩
 obtain⟨z,hz,rfl⟩:=a8.1 hg;obtain⟨i,e,_⟩:=sub z hz;exact eR e
theorem Inv.drawn(I:Inv X pins σ H s)(d:Drawn):Inv X pins σ H {s with drawn:=d}:=⟨I.ok,I.os,I.bare,I.base,I.loc,I.cell,I.free,I.gY,I.pin,I.au,I.len⟩
theorem Gw:∀(l:List c) (m:List b),l.Perm (m.map f)->∃k:List b,l=k.map f/\k.Perm m
 | [],m,h=>⟨[],ρ,by rw[zd.1 h.nil_eq.symm]⟩
 | x::l,m,h=>by obtain⟨a,d,e⟩:=a8.1<|h.mem_iff.1 fk;obtain⟨s,t,rfl⟩:=List.append_of_mem d;have p:((s++a::t).map f).Perm (f a::(s++t).map f):=List.perm_middle.map f;rw[e] at p;obtain⟨k,rfl,g⟩:=Gw l (s++t) (h.trans p).cons_inv;exact⟨a::k,by rw[hS,e],(g.cons a).trans List.perm_middle.symm⟩
theorem tN:∀ys:List (dk×List eS),aJ (ys.map (V.ref ·.1)) (ys.map (nT ·.1))
 | []=>.nil
 | y::ys=>.cons ρ<|tN ys
def JJ(F:X.calm=bd)(k:X.ex=[]):bM X (.builtin "sorted") (λxs H Q=>∃S zs,xs=[.ref S]/\H S=ac (tI S zs)/\Zs X.K H zs/\(zs.map (·.2)).Nodup/\2<=zs.length/\zs.length<64 /\
  ∀ys:List (dk×List eS),ys.Perm zs->∀out,rN (mP (ys.map (·.2))) (ys.map (V.ref ·.1)) out->∀l,H l=al->Q (.ref l) (upd H l<|.L out)):=by
 intro pins s σ H xs us Q I r h;obtain⟨S,zs,rfl,G,n,nd,v,g64,q⟩:=h;obtain⟨u,rfl,L⟩:=r.one;subst L;obtain⟨⟨o,M,ep,t,N,P,hd,R,c,j⟩,_,_⟩:=I.au S _ G;have les:M.size=zs.length:=by rw[<-ab,<-j,ab,hI]
 refine Y0 aeb adG adI (adJ _) ?_;delta Yx.«sorted»;refine bg<|dr ?_;refine bg (Jc (I.ok.hd F) N P hd R (by lia) (by rw[za];lia) (c λz=>by rw[z] at v;simp at v) λa d its kp pm=>?_);rw[j] at pm;obtain⟨ys,rfl,py⟩:=Gw its zs pm;have ty:Zs X.K H ys:=λz hz=>n z<|py.mem_iff.1 hz;have nd:=(py.map _).nodup_iff.2 nd;have yl:=py.length_eq;have q:=q ys py;have J:Inv X pins σ H {s with heap:=a,drawn:=d}:=by obtain⟨m,⟨U,w,y,B,r⟩,hl⟩:=I.loc;exact (I.Hf hl ⟨U,w,y,kp _ _ B,r⟩ λb o _ e=>kp b o e).drawn d
 have tx:=ty.txt;have g:(ys.map (V.ref ·.1)).length=ys.length:=ab _;have i:(ys.map (nT ·.1)).length=ys.length:=ab _;have O:=GD nd;rw[ab,<-g] at O;obtain⟨m,C,hl⟩:=J.loc;have Fl:=J.xS C;have D:News (eB a X.env.locals) X.env.locals a (km (eB a X.env.locals) a X.env.locals):=zq;refine bg<|abJ ?_ (by rw[i,za];lia);have E:(a.push (YP "list" (ys.map (nT ·.1)).toArray 0)).get? a.objs.size=ac (YP "list" (ys.map (nT ·.1)).toArray 0):=gj _ ρ;have keep:∀b o,a.get? b=ac o->(a.push (YP "list" (ys.map (nT ·.1)).toArray 0)).get? b=ac o:=λb o e=>ee _ e;have lt:∀p∈km (eB a X.env.locals) a X.env.locals,p.1<a.objs.size:=λp c=>fj (D p c).1;refine bg<|o3<|sj abl ⟨_,E,ρ⟩ aa0 ?body<|abm _;refine W.kat_list_sort (Fl.kept keep) (D.grown keep) E (Zv Fl.ns.lt) (acX<|nE Fl.above<|Zx Fl.ns.lt) (λp c=>hG<|lt p c) (by rw[i];lia) (by rw[i];lia) λe1 h' Y Z=>?_;exact Ca k J (tN ys) (by rw[g];lia) (by rw[g];lia) O (by decide) (Dt J tx<|tN ys) (B7 J tx<|tN ys) q C hl lt Y Z λ_ x=>⟨_,ρ,dr ⟨_,ρ,x⟩⟩
def DP(fs):(fT fs).Pairwise λa b=>ji a b=bd:=by refine ub (λa b c h1 h2=>?_) (λa b=>?_) fs;grind [nh];grind [ji]
def GP (h:a.Perm b):fT a=fT b :=
 nr (λa b c d=>x8 (nh.1 d)<|nh.1 c) ((gk a ji).trans (h.trans (gk b ji).symm)) (DP a) (DP b)
theorem AI{K:f'}{H:Hp}:∀ys:List (dk×List eS),(∀z∈ys,ba K H z.1<|z.2.map V.str)->ay K H (ys.map λz=>tupS z.2) (ys.map (V.ref ·.1))
 | [],_=>rfl
 | y::ys,h=>⟨_,_,ρ,⟨y.1,_,ρ,h y fk,lI _⟩,AI ys λz hz=>h z<|f6 _ hz⟩
def DX(f:DF):EF:=λZ=>(f Z).bind λp=>match p.1 with
 | .L ds=>(kc ds).bind λfs=>if 2<=(dW fs).length/\(dW fs).length<64 then ac (.O<|.L<|(fT<|dW fs).map tupS,p.2) else al
 | _=>al
def Pd (C:X.calm=bd)(D:X.ex=[])(N:X.A.units+64<u2)(O:Gl X "sorted")(R:X.mg "sorted"=al)(E:Gl X "set")(F:X.mg "set"=al)(w:bA X e [])(G:mu [.Call (.Name "set" x) [e] [] m] X.env=(false,eval (.Call (.Name "set" x) [e] [] m) X.env)::mu [] X.env)(h:DD X e f):DE X (.Call (.Name "sorted" p) [.Call (.Name "set" x) [e] [] m] [] pos) (DX f):=by
 obtain⟨t,pt,T⟩:=h;refine⟨_,rV (JJ C D) O R (by decide +kernel) (jR (vh (RK C N) E F ρ (jR pt kZ w) ⋯ ⋯ w ρ) kZ G) ⋯ ⋯ G ρ,λW Y Z σ H Hi d Z' Q j S k=>?_⟩;unfold DX at j;obtain⟨c,Z1,e1,j⟩:=oB j;dsimp only at j;split at j
 ·obtain⟨fs,I,j⟩:=oA j;split at j
  ·obtain⟨rfl,rfl⟩:=sP j;refine T W Y Z σ H Hi _ _ _ e1 S λv H1 J y s1 r1=>?_;obtain⟨a,ws,rfl,rd,rs⟩:=r1;refine⟨a,ws,fs,ρ,Rd.mono y.sub rd,(ue y.sub I rs).1,by lia,λb zs hb ta nd mem=>?_⟩;have K:=(lq nd<|wO fs).2 λg=>by rw[mem g,mm]
   have lz:zs.length=(dW fs).length:=by rw[<-K.length_eq,ab]
   have r:=y.made (o:=tI b zs) hb;have B:=ta.zs (ue (aj.refl _) I rs).1;refine⟨b,zs,ρ,bb,λz n=>⟨(B z n).1,ba.mono r.sub (B z n).2⟩,nd,by lia,by lia,λys py out h l hl=>?_⟩;obtain⟨q,P,U,eo⟩:=h;have lv:(ys.map (V.ref ·.1)).length=ys.length:=ab _;have lf:(ys.map (·.2)).length=ys.length:=ab _;have L:=A' (fs:=ys.map (·.2)) (by rw[lf,<-lv];exact P) (by simp_all);rw[GP ((py.map _).trans K)] at L;subst eo;have M:=ay.pick (AI ys λz n=>(B z<|py.mem_iff.1 n).2) q.toList<|λi u=>mC P i u;have em:(q.toList.map λi=>(ys.map λz=>tupS z.2).getD i .aQ)=(fT<|dW fs).map tupS:=by rw[<-L,fm];refine zI λi u=>?_;have u:=mC P i u;simp_all
   rw[em] at M;exact k (.ref l) _ J (r.made hl) s1 ⟨l,ρ,⟨_,bb,M,r.cX hl⟩,(r.bz hl).2,(r.bz hl).1,r.dA hl⟩
  exact nO j
 exact nO j
end
section
namespace Mq
open Lean
def wk(k:String):MacroM (TSyntax `tactic):=`(tactic|walk_at $(Syntax.mkStrLit k):str)
def tc(c:Char):MacroM (TSyntax `tactic):=match c with
|'='=>`(tactic|with_reducible assumption)
|'r'=>`(tactic|rfl)
|'a'=>`(tactic|assumption)
|'d'=>`(tactic|decide)
|'e'=>`(tactic|exact ρ)
|'f'=>`(tactic|exact fun _=>rfl)
|'g'=>`(tactic|exact fun _ _=>rfl)
|'h'=>`(tactic|exact lE (by assumption))
|'i'=>`(tactic|exact sy (by assumption))
|'j'=>`(tactic|exact uD (by assumption))
|'n'=>`(tactic|exact si (by rfl))
|'p'=>`(tactic|(intro _ _ _ _ _;walk_at "G"))
|'t'=>`(tactic|(intro _ _ _ _ _;walk_at "J"))
|'u'=>`(tactic|(intro _ _ _ _ _;walk_at "D"))
|'w'=>`(tactic|exact acW)
|'x'=>`(tactic|(simp[eM, *];done))
|'s'=>`(tactic|(simp[jo,eM, *];done))
|'q'=>`(tactic|(first | rfl | assumption | (simp[*];done)))
|'2'=>`(tactic|first | assumption | rfl | decide +kernel)
|'3'=>`(tactic|(first | assumption | (simp[cA];done)))
|'4'=>`(tactic|exact zg)
|c=>wk c.toString
def ru(s:String):MacroM (TSyntax `tactic):=do
 if s.front=='>' then return (← wk (s.drop 1).toString)
 if s.front=='.' then return (← tc s.back)
 let b:=s.front=='!';let p:=(if b then (s.drop 1).toString else s).splitOn " ";let f:=mkIdent p.head!.toName;let mut h:=#[];let mut t:=#[]
 for c in (p.getD 1 "").toList do
  if c=='_' then h:=h.push (← `(?_))
  else
   let n:=mkIdent<|← Macro.addMacroScope (.mkSimple s!"x{h.size}")
   h:=h.push<|← `(?$n:ident)
   t:=t.push<|← `(tactic|case $n:ident=>$(← tc c):tactic)
 let r← if b then `(tactic|with_reducible refine' $f $h*) else `(tactic|refine' $f $h*)
 t.foldlM (fun r x=>`(tactic|($r:tactic;$x:tactic))) r
def ra(s:String):MacroM (TSyntax `tactic):=do
 match s.splitOn "&" with
 |f::l=>
  let l←l.mapM ru
  match l.reverse with
  |[]=>ru s
  |x::l=>l.foldlM (fun y x=>`(tactic|(refine' $(mkIdent f.toName) ?m ?n;(case m=>$x:tactic);(case n=>$y:tactic)))) x
 |[]=>ru s
def fs(s:String):MacroM Syntax:=do
 let l←(s.splitOn "|").mapM ra
 return (← l.reverse.foldlM (fun y x=>`(tactic|first|$x:tactic|$y:tactic)) (← `(tactic|fail)))
end Mq
local macro_rules | `(tactic| walk_at "r0")=>`(tactic| exact aeP rfl)
local macro_rules | `(tactic| walk_at "r1")=>`(tactic| exact adT<|aeP rfl)
local macro_rules | `(tactic| walk_at "r2")=>`(tactic| exact adT<|adT rfl)
local macro_rules | `(tactic| walk_at "V")=>Mq.fs ">r0|>r1|>r2"
local macro_rules | `(tactic| walk_at "r3")=>`(tactic| exact adT rfl)
local macro_rules | `(tactic| walk_at "L")=>Mq.fs ">r0|>r3"
local macro_rules | `(tactic| walk_at "F")=>Mq.fs ">r0|>r3"
local macro_rules | `(tactic| walk_at "r4")=>`(tactic| exact xR (by rfl))
local macro_rules | `(tactic| walk_at "N")=>Mq.fs ".a|>r4"
local macro_rules | `(tactic| walk_at "r5")=>`(tactic| exact df.mono (by assumption) (by decide))
local macro_rules | `(tactic| walk_at "R")=>Mq.fs ".a|>r5"
local macro_rules | `(tactic| walk_at "A")=>Mq.fs "Kx|Tw rDA"
local macro_rules | `(tactic| walk_at "B")=>Mq.fs "JB rVrddA"
local macro_rules | `(tactic| walk_at "O")=>Mq.fs "KL|Ov D"
local macro_rules | `(tactic| walk_at "G")=>Mq.fs "Rt NrLF|NN rrrH"
local macro_rules | `(tactic| walk_at "H")=>Mq.fs "Nk|QP rGH"
local macro_rules | `(tactic| walk_at "I")=>Mq.fs "IC rarA|dh.alt&Ju D&Jd D"
local macro_rules | `(tactic| walk_at "J")=>Mq.fs "Ma|QM T"
local macro_rules | `(tactic| walk_at "1")=>Mq.fs "Ra|Ii|zg|Lj|Mb rVdd|HN ard|Kf rVhddgD|Kb hgDD|NT A|TC D|MQ D|TL DD|PB DD|Kc D|Ul rDDD|RX rVradd|SI rararD|Sv rararD|M2 rararD|Nf rararD|RJ rararD|O6 rrrrD"
local macro_rules | `(tactic| walk_at "D")=>Mq.fs ">1|DE.dd 0"
local macro_rules | `(tactic| walk_at "0")=>Mq.fs "SD DD|MS DD|DE.alt&PR DD&R' DD|TY DD|Qc DD|Lv DD|Rp iDD|Nd iDD|HI DD|Ip jrDD|Jz A|Jf DOO|CP aarrrrnrfIptu|CO arrnrfIptu|Oo arRdrrA|Sf arRdrrB|Dr rrrarA|Lr rarA|NC rrarA|Sh rrarrA|Mt rrarrA"
local macro_rules | `(tactic| walk_at "E")=>Mq.fs ">0|DD.de 1"
local macro_rules | `(tactic| walk_at "W")=>Mq.fs "Pn T|OU T|QC TW|Qw TW"
local macro_rules | `(tactic| walk_at "T")=>Mq.fs "MX iDD|Qa iDD|Sq DD|Qi DD|HK jrDD|Ol jrDD|II rDDD|TM T|DW.dt W|Rl fD"
local macro_rules | `(tactic| walk_at "M")=>Mq.fs "Qu rVdd|>E"
local macro_rules | `(tactic| walk_at "Z")=>Mq.fs "Qm M|wj NrLFrE|Nz arrLFrrnrfIptu|cK.alt&Qj rVddfrrrDD&Si rVhddrDD|Ir rVddrrrrrA|Tz wrfIGS|Gv TSS"
local macro_rules | `(tactic| walk_at "S")=>Mq.fs "EO|GO ZS"
local macro_rules | `(tactic|walk_at "h")=>`(tactic|(intros;cases ‹Txt _›;walk_at "S"))
local macro_rules | `(tactic| walk_at "P")=>Mq.fs ".a|.r"
local macro_rules | `(tactic| walk_at "c")=>Mq.fs "lO|lX P|DM x|iJ s|zZ s"
local macro_rules | `(tactic| walk_at "r6")=>`(tactic| (simp[iG,jB,oV,kG,eI,p9, *];done))
local macro_rules | `(tactic| walk_at "r7")=>`(tactic| (simp[iG,jB,oV,kG,eI];omega))
local macro_rules | `(tactic| walk_at "r8")=>`(tactic| decide +kernel)
local macro_rules | `(tactic| walk_at "y")=>Mq.fs ".r|.a|>r6|>r7|>r8"
local macro_rules | `(tactic| walk_at "r9")=>`(tactic| exact xT (b:=true) (by decide +kernel))
local macro_rules | `(tactic| walk_at "r10")=>`(tactic| exact xT (b:=false) (by decide +kernel))
local macro_rules | `(tactic| walk_at "o")=>Mq.fs ".=|jX q|Hk|>r9|>r10|yU 22|v_eq cc|rE cc|Fy 3|nX 3|.e"
local macro_rules | `(tactic| walk_at "z")=>Mq.fs ".=|.e"
local macro_rules | `(tactic| walk_at "k")=>Mq.fs "GI yv|zV yv"
local macro_rules | `(tactic| walk_at "Q")=>Mq.fs "!T5 ee|!U1|!uf v"
local macro_rules | `(tactic| walk_at "m")=>Mq.fs "!Oz|!UZ|.e"
local macro_rules | `(tactic| walk_at "v")=>Mq.fs ".=|!ao|!ae vv|!vv vQ|!xH vk|!zi v|!rT vz|!tj v|!v_and vk|!oE vv|!v_or vk|!qC vv|!j3 v|!fQ vz|!bK v|!rS vv|!EA vv|!v_res v|!ag vm|!aw vvo|!xX vz|!az vz|!dz eveze|!cR v3|!eV v3|!zT vvz|!aI evez|!gq ez|!Tj v|!D3 vvovo|!Bc veve3e|!qV veveze|!dM v|!ot ev|!Ge veve3e|.e"
local macro_rules | `(tactic| walk_at "Y")=>Mq.fs "cK.calm Z|Gv TXX"
local macro_rules | `(tactic| walk_at "X")=>Mq.fs "EO|GO YX"
local macro_rules | `(tactic| walk_at "r11")=>`(tactic| repeat (first|(with_reducible refine' ah ?_)|(with_reducible refine' aq ?_)|(with_reducible refine' cN ?_)|((with_reducible refine' aG ?p ?q ?_);(case p=>walk_at "v");(case q=>exact rfl))|((with_reducible refine' jS ?p ?_);(case p=>walk_at "v"))|((with_reducible refine' bH ?p ?_);(case p=>walk_at "v"))|(with_reducible refine' aU ?_)|fail))
local macro_rules | `(tactic| walk_at "w")=>`(tactic| repeat (first|(with_reducible refine' ah ?_)|(with_reducible refine' aq ?_)|(with_reducible refine' cN ?_)|((with_reducible refine' aG ?p ?q ?_);(case p=>walk_at "v");(case q=>exact rfl))|((with_reducible refine' jS ?p ?_);(case p=>walk_at "v"))|((with_reducible refine' bH ?p ?_);(case p=>walk_at "v"))|(with_reducible refine' aU ?_)|fail))
local macro_rules | `(tactic| walk_at "r12")=>`(tactic| ((with_reducible refine' F3 ?_);walk_at "wb"))
local macro_rules | `(tactic| walk_at "r13")=>`(tactic| ((with_reducible refine' Am ?_);walk_at "wb"))
local macro_rules | `(tactic| walk_at "wb")=>`(tactic| first|((with_reducible refine' vc ?p ?_);(case p=>walk_at "v"))|((with_reducible refine' F3 ?_);walk_at "wb")|((with_reducible refine' Am ?_);walk_at "wb")|fail)
local macro_rules | `(tactic| walk_at "r14")=>`(tactic| ((with_reducible refine' mV ?_);walk_at "wb"))
local macro_rules | `(tactic| walk_at "wif")=>`(tactic| ((with_reducible refine' mV ?_);walk_at "wb"))
local macro_rules | `(tactic| walk_at "1")=>Mq.fs "UY aarD"
local macro_rules | `(tactic| walk_at "0")=>Mq.fs "U3 aaRrD"
section
variable{P:hY}{w:nR}{K:f'}{mg:eS->Option cn}{base:nL}
noncomputable def ER(fn:aN):Prop:=∀(n:Dat) (x y r t:Int),dP (r-x) (t-y)=bd->fn [.U [n,.int x,.int y,.int r,.int t]]=ac (.D<|.int<|(r-x)*(t-y))
def MU(T:Txt mg)(F:bc K "area" "area" Ae f a):∃fn,a9 P w K mg base aZ 1 f a ["row"] (aD K fn)/\ER fn:=by
 refine' bT F CQ (n:=1) ρ ?C ?B
 case C=>have nd:=CQ.nd;walk_at "h"
 clear T F;intro n x y r t h;refine' xj ?e
 case e=>walk_at "v"
def tH:aN
 | [d]=>(kh d "int").bind λa=>(kh d "bool").map λb=>.D (.bl<|a&&!b)
 | _=>al
def intBits_le (h:i.natAbs<2 ^ n):ro i<=n:=by
 delta ro;split
 ·lia
 rename_i z;have:=(afp (by intro e;exact z (by simpa using e))).2 h;lia
def uL (h:j.natAbs<2 ^ 64):dP i j=bd:=by have:=intBits_le h;delta dP aaY;rw[show am (ro j>64)=bi from decide_eq_false (by lia)];simp
def qQ (h:i.natAbs<2 ^ 64):dP i j=bd:=by have:=intBits_le h;delta dP aaY;rw[show am (ro i>64)=bi from decide_eq_false (by lia)];simp
def uP (a:i.natAbs<2 ^ 100)(b:j.natAbs<2 ^ 100):dP i j=bd:=by have h1:=intBits_le a;have h2:=intBits_le b;grind [dP,aai,afF]
end
structure aT (x:eS):Prop where
 tK:x.cps.all (·<128)=bd
 len:x.length<=99
def E4 (h:x.cps.all (·<128)=bd):sD x=bd:=by delta sD;rw[aa'] at h ⊢;intro c a;have:=h c a;lia
theorem aT.ok{x:eS}(h:aT x):sD x=bd:=E4 h.tK
noncomputable def pD(p:Int×Int):Dat:=.L [.int p.1,.int p.2]
def RM{m:Int}(h:m.natAbs<2 ^ 9000):m.natAbs.log2<9000:=by
 by_cases z:m.natAbs=0
 ·rw[z];decide
 exact (afp z).2 h
def k8(ds)(i):cC (.L ds) (.int i)=fI ds i:=ρ
noncomputable def gP(c:Nat):Bool:=am (97<=c)&&am (c<=122)
noncomputable def dR(x:eS):Bool:=am (x="north")||am (x="east")||am (x="south")||am (x="west")
def dX(x:eS):Bool:=am (0<x.length)&&am (x.length<9)&&x.cps.toList.all gP&&!dR x
def Od(c):((!am (([c]:List Nat)<[97]))&&!am (([122]:List Nat)<[c]))=gP c:=by
 unfold gP;have e1:am (([c]:List Nat)<[97])=am (c<97):=by simp[XP]
 have e2:am (([122]:List Nat)<[c])=am (122<c):=by simp[XP]
 lia
def DU (h:aT x):x.length<=sizeLine:=nE h.len (by simp[cA])
def Gm{x:eS}(b:sD x=bd){ys:List eS}(c:∀y∈ys,sD y=bd)(neg:Bool):gS neg (.str x) (.L<|ys.map .str)=ac (.D<|.bl (if neg then !(ys.any λy=>am<|y=x) else ys.any λy=>am<|y=x)):=by
 have f:bQ (.L<|ys.map .str)=bd:=iJ (by show (ys.map Dat.str).all eM=bd;rw[iN];intro d hd;obtain⟨y,a,rfl⟩:=a8.1 hd;exact c y a)
 show (if (bQ (.str x)&&bQ (.L<|ys.map .str))=bd then ac (Res.D<|.bl (if neg then !inD (.str x) (ys.map .str) else inD (.str x) (ys.map .str))) else al)=_;rw[lX b,f];have e:inD (.str x) (ys.map .str)=ys.any λy=>am (y=x):=by rw[p9,abx];rfl
 rw[e];rfl
def N1{x:eS}(b:sD x=bd){ys:List eS}(c:∀y∈ys,sD y=bd)(neg:Bool):gS neg (.str x) (.U<|ys.map .str)=ac (.D<|.bl (if neg then !(ys.any λy=>am<|y=x) else ys.any λy=>am<|y=x)):=by
 have f:bQ (.U<|ys.map .str)=bd:=iJ (by show (ys.map Dat.str).all eM=bd;rw[iN];intro d hd;obtain⟨y,a,rfl⟩:=a8.1 hd;exact c y a)
 show (if (bQ (.str x)&&bQ (.U<|ys.map .str))=bd then ac (Res.D<|.bl (if neg then !inD (.str x) (ys.map .str) else inD (.str x) (ys.map .str))) else al)=_;rw[lX b,f];have e:inD (.str x) (ys.map .str)=ys.any λy=>am (y=x):=by rw[p9,abx];rfl
 rw[e];rfl
noncomputable def qW:List Str:=["north","east","south","west"]
def CN:∀y∈qW,sD y=bd:=by decide +kernel
def ym(x):(qW.any λy=>am<|y=x)=dR x:=by simp[qW,dR,eq_comm,Bool.or_assoc]
def NY (a:sD x=bd)(neg):gS neg (.str x) (.L [.str "north",.str "east",.str "south",.str "west"])=ac (.D<|.bl (if neg then !dR x else dR x)):=by have:=Gm a CN neg;rwa[ym] at this
def pf (a:sD x=bd)(neg):gS neg (.str x) (.U [.str "north",.str "east",.str "south",.str "west"])=ac (.D<|.bl (if neg then !dR x else dR x)):=by have:=N1 a CN neg;rwa[ym] at this
section
variable{P:hY}{w:nR}{K:f'}{mg:eS->Option cn}{base:nL}
def w6(fn:aN):Prop:=∀x,aT x->fn [.str x]=ac (.D<|.bl<|dX x)
theorem HG(T:Txt mg)(l:fg K mg "WALLS" (.U [.str "north",.str "east",.str "south",.str "west"]))(m:fg K mg "LONGEST_NAME" (.int 8)){f:dk}{b:hO}(F:bc K "is_name" "is_name" xn f b):∃fn,a9 P w K mg base aZ 1 f b ["thing"] (aD K fn)/\w6 fn:=by
 refine' bT F C6 ρ ?C ?B
 case C=>have nd:=C6.nd;walk_at "h"
 intro x tx;have iw:=pf tx.ok false;have hl:dD (.str x)=ac x.length:=if_pos<|DU tx;refine' ck ρ ?w
 case w =>
  walk_at "w";walk_at "wif";refine⟨fun hw=>?_,fun hw=>?_⟩
  ·have hw:dR x=bd:=hw;walk_at "w";refine fX ?_;delta dX;rw[hw];simp
  have hw:dR x=bi:=hw;walk_at "w";walk_at "wif";refine⟨fun hz=>?_,fun hz=>?_⟩
  ·walk_at "w";refine fX ?_;unfold dX;simp at hz;simp;intro j k;omega
  walk_at "w";refine' ou<|qG<|rf<|lL<|gK (zQ (fun x=>[.no,.D x]) (fun _=>true) (fun d=>match d with|.str y=>.bl (y.cps.toList.all gP)|_=>.aQ) (Lf ?i tx.tK) ρ ?z ?g ?c ?e ?n)<|rl ?q
  case i=>walk_at "v"
  case z=>rw[ab,hI];exact DU tx
  case g=>intro y a Z hd;rcases hd with rfl|⟨z,rfl⟩<;>rfl
  case c=>intro y a;rfl
  case e=>intro y a _;obtain⟨c,o,rfl⟩:=a8.1 a;show j7 g9 g9 (fC<|.str "a") (cI 1) (fC<|.str "z") [.no,.D<|.str ⟨#[c]⟩]=ac (.bl<|([c]:List Nat).all gP,[.no,.D<|.str ⟨#[c]⟩]);have p:g9 (.str "a") (.str ⟨#[c]⟩)=ac (.D<|.bl<|!am (([c]:List Nat)<[97])):=ρ;have r:g9 (.str ⟨#[c]⟩) (.str "z")=ac (.D<|.bl<|!am (([122]:List Nat)<[c])):=ρ;have:=D3 (o1:=g9) (o2:=g9) (f:=fC<|.str "a") (g:=cI 1) (h:=fC<|.str "z") (Z:=[.no,.D<|.str ⟨#[c]⟩]) ρ ρ p ρ r;rw[this,Od];simp
  case n=>intro y a;rfl
  have e:((x.cps.toList.map fun c=>Dat.str ⟨#[c]⟩).filter fun _=>true).map (fun d=>match d with|.str y=>Dat.bl (y.cps.toList.all gP)|_=>Dat.aQ)=x.cps.toList.map fun c=>Dat.bl (gP c):=by rw[aa3.2 (by intros;rfl),fm];apply zI;intro c o;simp
  refine⟨.D<|.bl<|dX x,?_,_,ρ⟩;show ny [.L _]=_;rw[e];show (je _).map _=_;rw[r6];simp at hz;have j:am (0<x.length)=bd:=by simp;omega
  have k:am (x.length<9)=bd:=by simp;omega
  simp[dX,hw,j,k,aeR,Function.comp]
theorem E3{c:BF}{e:EF}{s' g:SF}{Z Z1 Z2:DS}{b:Bool}{r:Res}{Q:Out->Prop}(h:c Z=ac (b,Z1))(hb:b=bd)(a:e Z1=ac (r,Z2))(q:Q (.ret r Z2)):WS (iH (ky c (iH (lh e) kP) s') g) Z Q :=
 ah (dm h (fun _=>ah<|bH a q) fun z=>by simp_all)
end
abbrev Fl:=Q4 eS
def af(x:eS×Ob):Dat:=.U [.str x.1,.int x.2.l,.int x.2.b,.int x.2.r,.int x.2.t]
def ai(rs:Fl):Dat:=.L<|rs.map af
section
variable{P:hY}{w:nR}{K:f'}{mg:eS->Option cn}{base:nL}
theorem OD{i:Int}(h:0<=i)(h':i<26):cC (.str "abcdefghijklmnopqrstuvwxyz") (.int i)=ac (.str ⟨#[97+i.toNat]⟩):=by
 have key:∀j:Fin 26,(hH "abcdefghijklmnopqrstuvwxyz").cps.toList[j.val]?=ac (97+j.val):=by decide +kernel
 have e:=key ⟨i.toNat,by lia⟩;have a:=kJ e;rw[Zd h] at a;show (if (hH "abcdefghijklmnopqrstuvwxyz").length<=cA then (fI (hH "abcdefghijklmnopqrstuvwxyz").cps.toList i).map (fun c=>Dat.str ⟨#[c]⟩) else al)=_;rw[if_pos (by rw[show (hH "abcdefghijklmnopqrstuvwxyz").length=26 from by decide +kernel];simp[cA]),a];rfl
theorem tM{n:Int}{k:Nat}{x:Dat}(h:(dJ 0 n)[k]?=ac x):(k:Int)<n/\x=.int k:=by have h1:=(cm.1 h).1;simp_all [dJ]
theorem ly{i:Nat}{Z:DS}{xs:List Dat}{d:Dat}{fa:AF}(h:(Z[i]?).bind ownOf=ac (false,.L xs))(a:fa Z=ac ([d],Z))(hl:xs.length<cA):hV i mw fa Z=ac (.aQ,Z.set i<|.O<|.L<|xs++[d]):=by delta hV;rw[h];rw[a];show ((Z[i]?).bind ownOf).bind _=_;rw[h];show (if xs.length<cA then ac (Dat.aQ,Dat.L<|xs++[d]) else al).map _=_;rw[if_pos hl];rfl
theorem join_one:∀cs:List Nat,(ac' (hH "") (cs.map fun c=>(⟨#[c]⟩:eS))).cps.toList=cs
 | []=>rfl
 | [c]=>rfl
 | c::d::r=>by
  have e:(hH "").cps=#[]:=by decide +kernel
  show ((⟨#[c]⟩:eS)++hH "" ++ ac' (hH "") ((d::r).map fun c=>(⟨#[c]⟩:eS))).cps.toList=_;simp only[Zt,e,Y8,join_one (d::r)];simp
theorem T1(cs:List Nat):(aaC (hH "") (cs.map fun c=>(⟨#[c]⟩:eS))).cps.toList=cs:=by simp[aaC,StrLaws.glued_eq_join,join_one]
theorem E9{a:Type}(f:a->eS):∀cs:List a,dF (cs.map fun c=>.str<|f c)=ac (cs.map f)
 | []=>rfl
 | c::cs=>by simp only[hS,dF,E9 f cs];rfl
structure uQ (c:Nat) (x:eS):Prop where
 fst:x.cps.toList[0]?=ac c
 tK:∀a∈x.cps.toList,gP a=bd
 len:x.cps.toList.length<=8
theorem To{i:Int}(h:0<=i)(h':i<26):gP (97+i.toNat)=bd:=by delta gP;simp;lia
theorem uQ.nm{c:Nat}{x:eS}(h:uQ c x)(hw:dR x=bi):dX x=bd:=by have b:=h.len;have a:=(cm.1 h.fst).1;have b:x.length<=8:=b;have a:0<x.length:=a;delta dX;simp only[hw,decide_eq_true a,decide_eq_true (by lia:x.length<9),iN.2 h.tK];rfl
theorem Ij(x:eS):dR (x++hH "x")=bi:=by
 cases e:dR (x++hH "x") with
 | false=>rfl
 | true =>
  have key:∀y∈qW,y.cps.toList.getLast?≠ac 120:=by decide +kernel
  have:(qW.any fun y=>am<|y=x++hH "x")=bd:=by rw[ym];exact e
  obtain⟨y,a,e⟩:=xr.1 this;have e:y=x++hH "x":=by simpa using e
  refine absurd ?_<|key y a;simp only[e,Zt,Y8,show (hH "x").cps.toList=[120] from by decide +kernel];simp
end
local macro_rules | `(tactic| walk_at "0")=>Mq.fs "LV rrarA|Ru rrarA|O1 rrarA|DE.alt&Dr rrrarA&zx rrarA|HR TEE|IU"
local macro_rules | `(tactic| walk_at "1")=>Mq.fs "Jq rrararrD|Py rDDD|LH jrrrrDA|KI arVhddgD"
local macro_rules | `(tactic| walk_at "I")=>Mq.fs "Iz rarA"
local macro_rules | `(tactic| walk_at "Z")=>Mq.fs "Um rVddrrrrrA"
section
variable{P:hY}{w:nR}{K:f'}{mg:eS->Option cn}{base:nL}
theorem vp{f:DF}{Z Z1:DS}{ds:List Dat}(h:f Z=ac (.U ds,Z1)):alt (jU f) (kj f) Z=ac (ds,Z1):=by apply dM;delta jU;rw[h];rfl
def ls(x:eS×Ob):Bool:=dX x.1&&(am (0<=x.2.l)&&am (x.2.l<x.2.r))&&(am (0<=x.2.b)&&am (x.2.b<x.2.t))
def DK(fn:aN):Prop:=∀x:eS×Ob,aT x.1->fn [af x]=ac (.D<|.bl<|ls x)
theorem PQ(T:Txt mg)(w1:fg K mg "ROW_LENGTH" (.int 5)){c:aN}(e:aY P w K mg base "is_name" 1 (aD K c))(g:w6 c)(i:aY P w K mg base "is_whole" 1 (aD K tH)){f:dk}{d:hO}(F:bc K "is_row" "is_row" zr f d):∃fn,a9 P w K mg base aZ 2 f d ["thing"] (aD K fn)/\DK fn:=by
 refine' bT F Dy ρ ?C ?B
 case C=>have nd:=Dy.nd;walk_at "h"
 intro x tx;have en:=g x.1 tx;obtain⟨n,l,b,r,t⟩:=x;refine' ck ρ ?w
 case w =>
  walk_at "w";walk_at "wif";refine⟨fun h=>?_,fun h=>?_⟩
  ·walk_at "w";apply fX;delta ls;rw[ow] at h;rw[h];rfl
  walk_at "w";refine' mV<|Am<|yq<|lL<|qG<|rf<|lL<|gK (zQ (xs:=[.int l,.int b,.int r,.int t]) (fun x=>[.no,.D x]) (fun _=>true) (fun _=>.bl true) (vp ρ) ρ ?D ?G ?I ?J ?L) ?M
  case D=>show 4<=cA;unfold cA;decide
  case G=>intro y a Z hd;rcases hd with rfl|⟨z,rfl⟩<;>rfl
  case I=>intro y a;rfl
  case J=>intro y a _;simp at a;rcases a with rfl|rfl|rfl|rfl<;>rfl
  case L=>intro y a;rfl
  refine rl ⟨.D<|.bl true,ρ,true,ρ,fun z=>(by cases z),fun _=>?_⟩;walk_at "w";apply fX;delta ls;rw[YA] at h;rw[h];rfl
def fZ(x y:Ob):Int:=pC x.r y.r-imax x.l y.l
def fD(x y:Ob):Int:=pC x.t y.t-imax x.b y.b
def o8(g:Ob->Ob->Int)(fn:aN):Prop:=∀x y:eS×Ob,fn [af x,af y]=ac (.D<|.int<|g x.2 y.2)
theorem O9(T:Txt mg){f:dk}{a:hO}(F:bc K "width_shared" "width_shared" xE f a):∃fn,a9 P w K mg base aZ 1 f a ["row","other"] (aD K fn)/\o8 fZ fn:=by
 refine' bT F FU ρ ?C ?B
 case C=>walk_at "h"
 intro x y;refine' ck ρ ?w;dsimp only[af];walk_at "w";exact⟨_,ρ⟩
theorem Q0(T:Txt mg){f:dk}{a:hO}(F:bc K "height_shared" "height_shared" zA f a):∃fn,a9 P w K mg base aZ 1 f a ["row","other"] (aD K fn)/\o8 fD fn:=by
 refine' bT F Ha ρ ?C ?B
 case C=>walk_at "h"
 intro x y;refine' ck ρ ?w;dsimp only[af];walk_at "w";exact⟨_,ρ⟩
noncomputable def AW:Dat->Ob
 | .U [_,.int l,.int b,.int r,.int t]=>⟨l,b,r,t⟩
 | _=>⟨0,0,0,0⟩
def gQ(x y:Ob):Bool:=am (0<fZ x y)&&am (0<fD x y)
def Bm(fn:aN):Prop:=∀(x:eS×Ob) (rs:Fl),rs.length<=1000->fn [af x,ai rs]=ac (.D<|.bl (rs.any fun y=>gQ x.2 y.2))
theorem IX(T:Txt mg)(g:wQ mg){a b:aN}(i:aY P w K mg base "width_shared" 1 (aD K a))(j:o8 fZ a)(k:aY P w K mg base "height_shared" 1 (aD K b))(l:o8 fD b){f:dk}{h:hO}(F:bc K "lies_over" "lies_over" vE f h):∃fn,a9 P w K mg base aZ 2 f h ["row","rows"] (aD K fn)/\Bm fn:=by
 refine' bT F A3 ρ ?C ?B
 case C=>have nd:=A3.nd;cases g;walk_at "h"
 intro x rs hz;refine' ck ρ ?w;refine' ah<|ou<|qG<|rf<|lL<|gK (zQ (fun y=>[.no,.D y,.D<|af x]) (fun _=>true) (fun d=>.bl<|gQ x.2<|AW d) (bB ρ) ρ ?D ?G ?I ?J ?L) ?M
 case D=>rw[ab];unfold cA;omega
 case G=>intro y e Z hd;rcases hd with rfl|⟨z,rfl⟩<;>rfl
 case I=>intro y e;rfl
 case J=>intro d hd _;obtain⟨y,e,rfl⟩:=a8.1 hd;have e1:=j x y;have e2:=l x y;show _=ac (Dat.bl<|am (0<fZ x.2 y.2)&&am (0<fD x.2 y.2),_);walk_at "v"
 case L=>intro y e;rfl
 have ep:((((rs.map af).filter fun _=>true).map fun d=>Dat.bl<|gQ x.2<|AW d))=(rs.map fun y=>gQ x.2 y.2).map Dat.bl:=by rw[aa3.2 (by intros;rfl),fm,fm];rfl
 refine rl ⟨.D<|.bl (rs.any fun y=>gQ x.2 y.2),?_,⟨_,ρ⟩⟩;rw[ep];show (je<|(rs.map fun y=>gQ x.2 y.2).map Dat.bl).map _=_;rw[show (rs.map fun y=>gQ x.2 y.2).map Dat.bl=(rs.map fun y=>gQ x.2 y.2).map (fun c=>Dat.bl<|id c) from ρ,r6 id];simp
def nB (h:ns≠[]):fA ns∈ns:=by have h0:=oy.2 h;obtain⟨h1,_⟩:=argBest_gt (λi=>(ns[i]?).getD 0)<|ns.length-1;delta fA;rw[bt (by omega)];exact z8 _
def uE (h:a∈ns):a<=fA ns:=by obtain⟨h1,b⟩:=argBest_gt (λi=>(ns[i]?).getD 0)<|ns.length-1;obtain⟨j,c,e⟩:=kx h;have:=b j (by lia);simp only[bt c,e] at this;exact this
def ne_int(i j):dg true (.int i) (.int j)=ac (.D<|.bl<|!am (i=j)):=by rw[rE lO lO,iG]
def eq_int(i j):dg false (.int i) (.int j)=ac (.D<|.bl<|am<|i=j):=by rw[v_eq lO lO,iG]
def nF (xs:List a)(k:Nat):cutD xs (ac (k:Int)) al=xs.drop k:=by simp[cutD,uh,CW,aaJ]
def nZ (xs:List a)(k:Nat):cutD xs al (ac (k:Int))=xs.take k:=by simp[cutD,uh,CW]
def iV (h:f Z=ac (d,Z1))(a:g Z1=ac (.int i,Z2))(b:eX d (ac i) al=ac r):iS f (iT g) pI Z=ac (r,Z2):=by delta iS;rw[h];simp;delta iT;rw[a];show (eX d (ac i) al).map _=_;rw[b];rfl
def mH (h:f Z=ac (d,Z1))(h1:g Z1=ac (.int i,Z2))(h2:eX d al (ac i)=ac r):iS f pI (iT g) Z=ac (r,Z2):=by simp_all [iS,pI,iT]
structure iA (rs:Fl):Prop where
 tx:∀x∈rs,aT x.1
 nu:∀x∈rs,(-(2 ^ 95)<x.2.l/\x.2.l<2 ^ 95)/\(-(2 ^ 95)<x.2.b/\x.2.b<2 ^ 95)/\(-(2 ^ 95)<x.2.r/\x.2.r<2 ^ 95)/\(-(2 ^ 95)<x.2.t/\x.2.t<2 ^ 95)
 bI:rs.length<=50
def bu(rs:Fl):Int:=fA (rs.map λx=>x.2.r)
def bw(rs:Fl):Int:=fA (rs.map λx=>x.2.t)
def fR(rs:Fl):Int:=(rs.map λx=>x.2.area).sum
def j6(rs:Fl):Bool:=am (1<=rs.length)&&am (rs.length<=8)&&rs.all ls&&am (jl (rs.map (·.1))=rs.length)&&!((gD rs.length).any λi=>(rs.drop<|i+1).any λy=>gQ (rs.getD i ("",⟨0,0,0,0⟩)).2 y.2)&&am (fR rs=bu rs*bw rs)
def FO(fn:aN):Prop:=∀rs:Fl,iA rs->fn [ai rs]=ac (.D<|.bl<|j6 rs)
def UJ(T:Txt mg)(p:wQ mg)(w1:fg K mg "MOST_ROOMS" (.int 8))(u:aY P w K mg base "is_row" 2 (aD K k))(v:DK k)(I:aY P w K mg base "lies_over" 2 (aD K l))(J:Bm l)(L:aY P w K mg base "area" 1 (aD K m))(M:ER m)(F:bc K "is_any_floor" "is_any_floor" xf f q):∃fn,a9 P w K mg base aZ 3 f q ["rows"] (aD K fn)/\FO fn:=by
 refine' bT F AV (n:=1) ρ ?N ?B
 case N=>have nd:=AV.nd;cases p;walk_at "h"
 clear T p F u I L;intro rs ok;refine' ck ρ ?w;show WS _ [.D (ai rs),.no] _;have O:dD (ai rs)=ac rs.length:=by simp[ai,dD]
 walk_at "w";walk_at "wif";refine⟨λh=>?_,λh=>?_⟩
 ·walk_at "w";refine fX ?_;grind [j6]
 have hl:(am (1<=rs.length)&&am (rs.length<=8))=bd:=by rw[YA] at h;rw[<-h];congr 1<;>exact decide_eq_decide.2 (by omega)
 have o:1<=rs.length/\rs.length<=8:=by simpa using hl
 have c:rs≠[]:=λz=>by rw[z] at o;simp at o
 have sz:rs.length<=sizeLine:=by unfold cA;omega
 walk_at "w";refine' mV<|Am<|yq<|lL<|qG<|rf<|lL<|gK (cc (enc:=af) (xs:=rs) (λx=>[.no,.D<|af x]) (λx=>.bl<|ls x) (bB ρ) ρ sz ?Q ?R ?S) ?U
 case Q=>intro y b Z hd;rcases hd with rfl|⟨z,rfl⟩<;>rfl
 case R=>intro y b;have e:=v y<|ok.tx y b;walk_at "v"
 case S=>intro y b;rfl
 refine rl ⟨_,zh ls rs,_,ρ,λz=>?_,λz=>?_⟩
 ·walk_at "w";refine fX ?_;unfold j6;rw[ow] at z;rw[hl,z];rfl
 rw[YA] at z;walk_at "w";show WS _ [.D (ai rs),.no] _;refine' mV<|Ah<|gK (aw (vN (λx:eS×Ob=>x.1) (ag (cc (enc:=af) (xs:=rs) (λx=>[.no,.D<|af x]) (λx=>.str x.1) (bB ρ) ρ sz ?V ?W ?X) ρ) ?Y) (gq ρ O)<|ne_int _ _) ⟨_,ρ,λg=>?t1,λg=>?t2⟩
 case V=>intro y b Z hd;rcases hd with rfl|⟨z,rfl⟩<;>rfl
 case W=>intro y b;rfl
 case X=>intro y b;rfl
 case Y=>omega
 case t1 =>
  walk_at "w";refine fX ?_;unfold j6;have:am (jl (rs.map (·.1))=rs.length)=bi:=by simp only[ow,decide_eq_false_iff_not] at g;exact decide_eq_false<|λz=>g (by rw[z])
  rw[hl,z,this];rfl
 have hd:am (jl (rs.map (·.1))=rs.length)=bd:=by simp only[YA,decide_eq_true_eq] at g;exact decide_eq_true (by omega)
 walk_at "w";show WS _ [.D (ai rs),.no] _;refine' mV<|yq<|lL<|qG<|rf<|lL<|gK (cc (enc:=λi:Nat=>Dat.U [.int (i:Int),(rs.map af).getD i .aQ]) (xs:=gD (rs.map af).length) (λi=>[.no,.D<|.int (i:Int),.D<|(rs.map af).getD i .aQ,.D<|ai rs]) (λi=>.bl ((rs.drop<|i+1).any λy=>gQ (rs.getD i ("",⟨0,0,0,0⟩)).2 y.2)) (NX ρ) ρ ?p3 ?p4 ?p6 ?p7) ?p8
 case p3=>rw[l5,ab];exact sz
 case p4=>intro y b Z hd;rcases hd with rfl|⟨z,rfl⟩<;>rfl
 case p6 =>
  intro i j;have j:i<rs.length:=by rw[iW,ab] at j;exact j
  have e0:(rs.map af).getD i .aQ=af (rs.getD i ("",⟨0,0,0,0⟩)):=by rw[lD,c6,lD,bt j];rfl
  have e:=J (rs.getD i ("",⟨0,0,0,0⟩)) (rs.drop<|i+1) (by rw[t9];omega);have es:eX (ai rs) (ac<|(i:Int)+1) al=ac (.O<|ai<|rs.drop<|i+1):=by show ac (Res.O<|.L<|cutD (rs.map af) (ac<|(i:Int)+1) al)=_;rw[show ((i:Int)+1)=((i+1:Nat):Int) from by push_cast;rfl,nF,<-YI];rfl
  rw[e0];refine ag (az (ae ρ<|ae (ag (iV ρ (ag (aw ρ ρ ρ) ρ) es) ρ) ao) e) ρ
 case p7=>intro y b;rfl
 refine rl ⟨_,Gk _ _,_,ρ,λd=>?_,λd=>?_⟩
 ·walk_at "w";refine fX ?_;unfold j6;rw[ab] at d;rw[hl,z,hd,d];rfl
 rw[ab] at d;walk_at "w";show WS _ [.D (ai rs),.no] _;refine' aG (dM<|aw (ag (az (ae (ag (cc (enc:=af) (xs:=rs) (λx=>[.no,.D<|af x]) (λx=>.int x.2.r) (bB ρ) ρ sz ?m4 ?m6 ?m7) ρ) ao)<|jZ (λx:eS×Ob=>x.2.r) c) ρ) (ag (az (ae (ag (cc (enc:=af) (xs:=rs) (λx=>[.no,.D<|af x]) (λx=>.int x.2.t) (bB ρ) ρ sz ?n4 ?n6 ?n7) ρ) ao)<|jZ (λx:eS×Ob=>x.2.t) c) ρ)<|jX ?D) ρ<|aq ?C
 case m4=>intro y b Z hd;rcases hd with rfl|⟨z,rfl⟩<;>rfl
 case m6=>intro y b;rfl
 case m7=>intro y b;rfl
 case n4=>intro y b Z hd;rcases hd with rfl|⟨z,rfl⟩<;>rfl
 case n6=>intro y b;rfl
 case n7=>intro y b;rfl
 case D =>
  obtain⟨x,hx,ex⟩:=a8.1<|nB (ns:=rs.map λx=>x.2.r) (by simpa using c);obtain⟨y,b,ey⟩:=a8.1<|nB (ns:=rs.map λx=>x.2.t) (by simpa using c);have a1:=(ok.nu x hx).2.2.1;have a2:=(ok.nu y b).2.2.2;refine uP ?_ ?_
  ·rw[<-ex];omega
  rw[<-ey];omega
 show WS _ [.D (ai rs),.D<|.int<|bu rs*bw rs] _;refine' ah<|ou<|gK (aw (ag (az (ae (ag (cc (enc:=af) (xs:=rs) (λx=>[.no,.D<|af x]) (λx=>.int x.2.area) (bB ρ) ρ sz ?o4 ?o6 ?o7) ρ) ao)<|Jj (λx:eS×Ob=>x.2.area) rs) ρ) ρ<|eq_int _ _) ?G
 case o4=>intro y b Z hd;rcases hd with rfl|⟨z,rfl⟩<;>rfl
 case o6=>intro y b;have a:=ok.nu y b;exact ag (az (ae ρ ao)<|M _ _ _ _ _<|uP (by omega) (by omega)) ρ
 case o7=>intro y b;rfl
 refine fX ?_;unfold j6;rw[hl,z,hd,d];rfl
theorem Ex (h:WB c Z λb Z1=>(b=bd->WE f Z1 Q)/\(b=bi->WE g Z1 Q)):WE (qE c f g) Z Q:=by
 obtain⟨b,Z1,e,d,i⟩:=h;cases b with
 | true=>obtain⟨r,Z2,a,q⟩:=d ρ;exact⟨r,Z2,by unfold qE;rw[e];exact a,q⟩
 | false=>obtain⟨r,Z2,a,q⟩:=i ρ;exact⟨r,Z2,by unfold qE;rw[e];exact a,q⟩
def qx (h:d=d'):∃a,Out.ret (.D d) Z=.ret (.D d') a:=⟨Z,by rw[h]⟩
noncomputable def aK(k:Nat):Str:=if k=0 then "north" else if k=1 then "east" else if k=2 then "south" else "west"
def fN(x y:Ob):Option Nat:=if 0<fZ x y/\fD x y=0 then (if y.b=x.t then ac 0 else ac 2) else if fZ x y=0/\0<fD x y then (if y.l=x.r then ac 1 else ac 3) else al
def GQ:Option Nat->Dat
 | some k=>.str (aK k)
 | none=>.aQ
def Du(fn:aN):Prop:=∀x y:eS×Ob,fn [af x,af y]=ac (.D<|GQ<|fN x.2 y.2)
def Lp(T:Txt mg)(g:aY P w K mg base "width_shared" 1 (aD K c))(i:o8 fZ c)(j:aY P w K mg base "height_shared" 1 (aD K d))(k:o8 fD d)(F:bc K "side_touched" "side_touched" yw f e):∃fn,a9 P w K mg base aZ 2 f e ["row","other"] (aD K fn)/\Du fn:=by
 refine' bT F G3 ρ ?C ?B
 case C=>walk_at "h"
 intro x y;have e1:=i x y;have e2:=k x y;refine' ck ρ ?w
 case w =>
  walk_at "w";walk_at "wif";refine⟨λh=>?_,λh=>?_⟩
  ·have hh:0<fZ x.2 y.2/\fD x.2 y.2=0:=by simpa using h
   refine' ah<|ou<|Ex<|Ah<|gK (aw ρ ρ<|eq_int y.2.b x.2.t) ⟨_,ρ,λz=>?D,λz=>?G⟩
   case D=>refine' gK ρ<|qx ?_;delta fN;rw[if_pos hh,if_pos<|of_decide_eq_true z];rfl
   refine' gK ρ<|qx ?_;delta fN;rw[if_pos hh,if_neg<|of_decide_eq_false z];rfl
  have hh:¬(0<fZ x.2 y.2/\fD x.2 y.2=0):=by simpa using h
  walk_at "w";walk_at "wif";refine⟨λh=>?_,λh=>?_⟩
  ·have a:fZ x.2 y.2=0/\0<fD x.2 y.2:=by simpa using h
   refine' ah<|ou<|Ex<|Ah<|gK (aw ρ ρ<|eq_int y.2.l x.2.r) ⟨_,ρ,λz=>?I,λz=>?J⟩
   case I=>refine' gK ρ<|qx ?_;delta fN;rw[if_neg hh,if_pos a,if_pos<|of_decide_eq_true z];rfl
   refine' gK ρ<|qx ?_;delta fN;rw[if_neg hh,if_pos a,if_neg<|of_decide_eq_false z];rfl
  have a:¬(fZ x.2 y.2=0/\0<fD x.2 y.2):=by simpa using h
  walk_at "w";apply qx;delta fN;rw[if_neg hh,if_neg a];rfl
def cz(k:Nat)(y:Ob):Int:=if k=0 then y.l else if k=1 then -y.b else if k=2 then -y.l else y.b
def Em(fn:aN):Prop:=∀(k:Nat) (y:eS×Ob),k<4->fn [.str (aK k),af y]=ac (.D<|.int<|cz k y.2)
def NK(T:Txt mg)(F:bc K "place_clockwise" "place_clockwise" wq f a):∃fn,a9 P w K mg base aZ 1 f a ["side","other"] (aD K fn)/\Em fn:=by
 refine' bT F Gf ρ ?C ?B
 case C=>walk_at "h"
 intro k y hk;refine' ck ρ ?w;have:k=0\/k=1\/k=2\/k=3:=⋯;rcases this with rfl|rfl|rfl|rfl
 ·show WS _ [.D (.str "north"),.D<|af y] _;walk_at "w";walk_at "wif";refine⟨λ_=>?_,λh=>(by cases h)⟩;walk_at "w";exact⟨_,ρ⟩
 ·show WS _ [.D (.str "east"),.D<|af y] _;walk_at "w";walk_at "wif";refine⟨λh=>(by cases h),λ_=>?_⟩;walk_at "w";walk_at "wif";refine⟨λ_=>?_,λh=>(by cases h)⟩;walk_at "w";exact⟨_,ρ⟩
 ·show WS _ [.D (.str "south"),.D<|af y] _;walk_at "w";walk_at "wif";refine⟨λh=>(by cases h),λ_=>?_⟩;walk_at "w";walk_at "wif";refine⟨λh=>(by cases h),λ_=>?_⟩;walk_at "w";walk_at "wif";refine⟨λ_=>?_,λh=>(by cases h)⟩;walk_at "w";exact⟨_,ρ⟩
 show WS _ [.D (.str "west"),.D<|af y] _;walk_at "w";walk_at "wif";refine⟨λh=>(by cases h),λ_=>?_⟩;walk_at "w";walk_at "wif";refine⟨λh=>(by cases h),λ_=>?_⟩;walk_at "w";walk_at "wif";refine⟨λh=>(by cases h),λ_=>?_⟩;walk_at "w";exact⟨_,ρ⟩
def Hj(fn:aN):Prop:=∀l:List (eS×eS),l.length<=1000->fn [.L (l.map λx=>.U [.str x.1,.str x.2])]=ac (.O<|.L (l.map λx=>.str x.2))
def QY(T:Txt mg)(F:bc K "names_of" "names_of" y9 f a):∃fn,a9 P w K mg base aZ 1 f a ["touched"] (aD K fn)/\Hj fn:=by
 refine' bT F A6 ρ ?C ?B
 case C=>have nd:=A6.nd;walk_at "h"
 intro l hz;refine' ck ρ ?w;refine' ah<|ou<|gK (cc (λx=>[.no,.D<|.str x.1,.D<|.str x.2]) (λx=>.str x.2) (bB ρ) ρ ?D ?G ?I ?J) ⟨_,ρ⟩
 case D=>unfold cA;omega
 case G=>intro y b Z hd;rcases hd with rfl|⟨z,rfl⟩<;>rfl
 case I=>intro y b;rfl
 intro y b;rfl
def mJ(ns:List eS):List Str:=match ns.findIdx? (λx=>am<|x=MP ns) with
 | some i=>ns.drop i++ns.take i
 | none=>ns
theorem PM{ns:List eS}(a:∀x∈ns,aT x){m:eS}(hm:aT m):pZ (.str m) (ns.map .str)=ns.findIdx? (λx=>am<|x=m):=by
 delta pZ;induction ns with
 | nil=>rfl
 | cons x ns b=>show ((toPy<|.str x)::di (ns.map .str)).findIdx? _=_;have ex:P' (toPy<|.str x) (toPy<|.str m)=am (x=m):=jB x m;rw[adp,adp,ex,b λy c=>a y<|f6 _ c]
def n8{ns:List eS}(a:∀x∈ns,aT x):bQ (.L<|ns.map .str)=bd:=iJ (by show (ns.map Dat.str).all eM=bd;rw[iN];intro d hd;obtain⟨x,b,rfl⟩:=a8.1 hd;exact (a x b).ok)
def T4 (h:f Z=ac (.L ds,Z1))(h1:fa Z1=ac ([d],Z2))(c1:bQ (.L ds)=bd)(c2:bQ d=bd)(e:pZ d ds=ac j):rA f fa Z=ac (.int (j:Int),Z2):=by unfold rA;simp_all
noncomputable def pairD(x:eS×List eS):Dat:=.U [.str x.1,.L<|x.2.map .str]
def dZ(rs:Fl):Fl:=[("north",⟨0,bw rs,bu rs,bw rs+1⟩),("east",⟨bu rs,0,bu rs+1,bw rs⟩),("south",⟨0,-1,bu rs,0⟩),("west",⟨-1,0,0,bw rs⟩)]
def CY(fn:aN):Prop:=∀rs:Fl,rs≠[]->rs.length<=1000->fn [ai rs]=ac (.O<|ai<|dZ rs)
def TK(T:Txt mg)(F:bc K "wall_rows" "wall_rows" wz f c):∃fn,a9 P w K mg base aZ 1 f c ["floor"] (aD K fn)/\CY fn:=by
 refine' bT F GR ρ ?C ?B
 case C=>have nd:=GR.nd;walk_at "h"
 intro rs b hz;have sz:rs.length<=sizeLine:=by unfold cA;lia
 refine' ck ρ ?w;refine' ah<|aG (az (ae (ag (cc (λx=>[.no,.D<|af x]) (λx=>.int x.2.r) (bB ρ) ρ sz ?D ?G ?I) ρ) ao)<|jZ (λx:eS×Ob=>x.2.r) b) ρ<|aq<|ah<|aG (az (ae (ag (cc (λx=>[.no,.D<|af x]) (λx=>.int x.2.t) (bB ρ) ρ sz ?J ?L ?M) ρ) ao)<|jZ (λx:eS×Ob=>x.2.t) b) ρ<|aq ?_
 case D=>intro y a Z hd;rcases hd with rfl|⟨z,rfl⟩<;>rfl
 case G=>intro y a;rfl
 case I=>intro y a;rfl
 case J=>intro y a Z hd;rcases hd with rfl|⟨z,rfl⟩<;>rfl
 case L=>intro y a;rfl
 case M=>intro y a;rfl
 walk_at "w";exact⟨_,ρ⟩
def Fr(s:Slot):Prop:=s=.no\/∃d,s=.D d
def cQ(x:Ob)(rs:Fl)(k:Nat):List (Int×eS):=(rs.filter λy=>am<|fN x y.2=ac k).map λy=>(cz k y.2,y.1)
noncomputable def cD(l:List (Int×eS)):List (Int×eS):=l.mergeSort λa b=>am<|a.1<=b.1
noncomputable def cG(p:Int×eS):Dat:=.U [.int p.1,.str p.2]
theorem SK(l:List (Int×eS)):firstsI (l.map cG)=ac (l.map (·.1)):=by
 induction l with
 | nil=>rfl
 | cons x l a=>rw[hS,firstsI,a];rfl
def GY (c:(l.map (·.1)).Nodup)(hz:l.length<64):oF [.L (l.map cG)]=ac (.O<|.L<|(cD l).map cG):=by show (firstsI _).bind _=_;rw[SK];show (if _/\_ then _ else al)=_;rw[if_pos ⟨c,by rw[ab];exact hz⟩];delta cD uH;rw[<-Yz (r:=λa b:Int×eS=>am<|a.1<=b.1) (λa _ b _=>rfl)]
theorem Rc (h:l≠[]):ju [.L (l.map cG)]=al:=by
 cases l with
 | nil=>cases h ρ
 | cons x l=>rfl
def Qg (b:(l.map (·.1)).Nodup)(hz:l.length<64)(a:fa Z=ac ([.L (l.map cG)],Z1)):alt (bO ju fa) (bO oF fa) Z=ac (.O<|.L<|(cD l).map cG,Z1):=by
 by_cases h:l=[]
 ·subst h;refine dM<|az a ?_;have:cD []=[]:=by unfold cD;simp
  rw[this];show (if ([]:List eS).Nodup/\([]:List Dat).length<64 then ac (Res.O<|.L<|mF []) else al)=_;simp[mF]
 refine ot ?_<|az a<|GY b hz;unfold bO;rw[a];show (ju [.L (l.map cG)]).map _=al;rw[Rc h];rfl
theorem HE (a:k<4)(c:∀j,o=ac j->j<4):dg false (GQ o) (.str<|aK k)=ac (.D<|.bl<|am<|o=ac k):=by
 have a:k=0\/k=1\/k=2\/k=3:=⋯;cases o with
 | none=>rw[v_eq (iJ ρ) (iJ (by rcases a with rfl|rfl|rfl|rfl<;>decide +kernel))];rfl
 | some j=>have b:=c j ρ;have b:j=0\/j=1\/j=2\/j=3:=⋯;rcases a with rfl|rfl|rfl|rfl<;>rcases b with rfl|rfl|rfl|rfl<;>exact xT (by decide +kernel)
def dE(x:Ob)(rs:Fl)(n:Nat):List (eS×eS):=(gD n).flatMap λk=>(cD<|cQ x rs k).map λp=>(aK k,p.2)
noncomputable def iF(x:eS×eS):Dat:=.U [.str x.1,.str x.2]
def xY(x)(rs)(n):dE x rs (n+1)=dE x rs n++(cD<|cQ x rs n).map λp=>(aK n,p.2):=by simp[dE,ZN]
def mO(l):(cD l).length=l.length:=(gk _ _).length_eq
theorem Aw(x)(rs)(n):(dE x rs n).length<=n*rs.length:=by
 induction n with
 | zero=>simp[dE]
 | succ n ih =>
  rw[xY,eu,ab,mO,aaN];have:(cQ x rs n).length<=rs.length:=by delta cQ;rw[ab];exact pl _ _
  lia
def TX (h:(Z[i]?).bind ownOf=ac (false,.L xs))(a:fa Z=ac ([.L zs],Z1))(b:(Z1[i]?).bind ownOf=ac (false,.L xs))(hl:xs.length+zs.length<=cA):hV i uj fa Z=ac (.aQ,Z1.set i<|.O<|.L<|xs++zs):=by delta hV;rw[h];rw[a];dsimp only[md];rw[b];show (if xs.length+zs.length<=cA then _ else al).map _=_;rw[if_pos hl];rfl
def FW(fn:aN):Prop:=∀(x:eS×Ob) (rs:Fl),rs.length<64->(∀k,k<4->((cQ x.2 rs k).map (·.1)).Nodup)->fn [af x,ai rs]=ac (.O<|.L<|(dE x.2 rs 4).map iF)
theorem LS(T:Txt mg)(w1:fg K mg "WALLS" (.U [.str "north",.str "east",.str "south",.str "west"]))(t:aY P w K mg base "place_clockwise" 1 (aD K g))(u:Em g)(v:aY P w K mg base "side_touched" 2 (aD K i))(D:Du i)(F:bc K "touching" "touching" vV f m):∃fn,a9 P w K mg base aZ 3 f m ["row","rows"] (aD K fn)/\FW fn:=by
 refine' bT F C5 ρ ?G ?B
 case G=>have nd:=C5.nd;walk_at "h"
 intro x rs hz I;have sz:rs.length<=sizeLine:=by unfold cA;lia
 refine' ck ρ ?w
 case w =>
  walk_at "w";have J:∀(k:Nat) (y:Dat),[Dat.str (hH "north"),.str<|hH "east",.str<|hH "south",.str<|hH "west"][k]?=ac y->k<4/\y=.str (aK k):=λk y h=>by
   match k,h with
   | 0,h=>cases h;exact⟨by decide,rfl⟩
   | 1,h=>cases h;exact⟨by decide,rfl⟩
   | 2,h=>cases h;exact⟨by decide,rfl⟩
   | 3,h=>cases h;exact⟨by decide,rfl⟩
  refine' dB (λk Z=>∃c b,Fr c/\Fr b/\Z=[.D (af x),.D<|ai rs,.O<|.L<|(dE x.2 rs k).map iF,c,b]) (vp ρ) ?h0 ?st ?C
  case h0=>exact⟨.no,.no,ι ρ,ι ρ,ρ⟩
  case st =>
   rintro k y a Z ⟨c,b,o,q,rfl⟩;obtain⟨l,rfl⟩:=J k y a;refine⟨[.D (af x),.D<|ai rs,.O<|.L<|(dE x.2 rs k).map iF,.D<|.str<|aK k,b],by rcases o with rfl|⟨d,rfl⟩<;>rfl,?_⟩;have ep:((rs.filter λy=>am<|fN x.2 y.2=ac k).map λy:eS×Ob=>cG (cz k y.2,y.1))=(cQ x.2 rs k).map cG:=by unfold cQ;rw[fm];rfl
   have r:(cQ x.2 rs k).length<64:=by delta cQ;rw[ab];exact He (pl _ _) hz
   have hl4:=Aw x.2 rs k;have hk4:k*rs.length<=4*rs.length:=ade _ (by omega);refine' ah<|aG (rG (λy=>[.no,.D<|af y,.D<|af x,.D<|.str<|aK k]) (λy=>am<|fN x.2 y.2=ac k) (λy=>cG (cz k y.2,y.1)) (bB ρ) ?L sz ?M ?N ?O ?Q) ?R<|aq ?_
   case L=>exact ρ
   case M=>intro y a Z hd;rcases hd with rfl|⟨z,rfl⟩<;>rfl
   case N =>
    intro y a;have e:=D x y;exact bK (aw (ag (az (ae ρ<|ae ρ ao) e) ρ) ρ (HE l λj S=>(λh=>by
      delta fN at h;split at h
      ·split at h<;>cases h<;>decide
      split at h
      ·split at h<;>cases h<;>decide
      cases h) S))
   case O=>intro y a _;have e:=u k y l;exact eV (ae (ag (az (ae ρ<|ae ρ ao) e) ρ)<|ae ρ ao) (by simp[cA])
   case Q=>intro y a;rfl
   case R=>rw[ep];rcases q with rfl|⟨d,rfl⟩<;>rfl
   have U:=Qg (fa:=dQ (cI 4) gg) (Z:=[.D (af x),.D<|ai rs,.O<|.L<|(dE x.2 rs k).map iF,.D<|.str<|aK k,.O<|.L<|(cQ x.2 rs k).map cG]) (I k l) r<|ae ρ ao;refine' ah<|jS (TX ?V (ae (ag (cc (Z2:=[.D (af x),.D<|ai rs,.O<|.L<|(dE x.2 rs k).map iF,.D<|.str<|aK k,.D<|.L<|(cQ x.2 rs k).map cG]) (λp=>[.no,.D<|.int p.1,.D<|.str p.2,.D<|.str<|aK k]) (λp=>iF (aK k,p.2)) (bB<|ag U ρ) ?W ?X ?Y ?b6 ?b7) ?c3) ao) ?c2 ?b8)<|aq<|aU ?b9
   case V=>exact ρ
   case c2=>exact ρ
   case c3=>exact ρ
   case W=>exact ρ
   case X=>rw[mO];unfold cA;omega
   case Y=>intro y a Z hd;rcases hd with rfl|⟨z,rfl⟩<;>rfl
   case b6=>intro y a;rfl
   case b7=>intro y a;rfl
   case b8=>rw[ab,ab,mO];delta cA;lia
   refine⟨.D<|.str<|aK k,.D<|.L<|(cQ x.2 rs k).map cG,τ ⟨_,ρ⟩,τ ⟨_,ρ⟩,?_⟩;rw[xY,ft,fm];rfl
  rintro Z ⟨c,b,o,q,rfl⟩;walk_at "w";exact⟨_,ρ⟩
def dy(rs a:Fl):List (eS×Dat):=rs.map λx=>(x.1,Dat.L<|(dE x.2 a 4).map iF)
theorem Mk:∀{a:List (eS×Dat)}{k:eS}{d:Dat},cP a k=ac d->k∈a.map (·.1)
 | [],k,d,h=>by cases h
 | (b,d')::a,k,d,h=>by
  by_cases e:b=k
  ·simp[e]
  have h':cP a k=ac d:=by simp_all [cP]
  have:=Mk h';grind
theorem Mn{a:List (eS×Dat)}{k:eS}{d:Dat}(h:k∉a.map (·.1)):kD a k d=a++[(k,d)]:=by simp_all [kD,cP]
def EI(fn:aN):Prop:=∀rs:Fl,rs≠[]->rs.length<=50->(rs.map (·.1)).Nodup->(∀x∈rs,∀k,k<4->((cQ x.2 (rs++dZ rs) k).map (·.1)).Nodup)->fn [ai rs]=ac (.O<|.bC<|dy rs<|rs++dZ rs)
theorem Jn(T:Txt mg)(z:aY P w K mg base "wall_rows" 1 (aD K h))(D:CY h)(G:aY P w K mg base "touching" 3 (aD K i))(I:FW i)(F:bc K "all_touching" "all_touching" zY f m):∃fn,a9 P w K mg base aZ 4 f m ["floor"] (aD K fn)/\EI fn:=by
 refine' bT F AE ρ ?J ?B
 case J=>walk_at "h"
 intro rs p hz L q;have M:=D rs p (by lia);refine' ck ρ ?w;obtain⟨a,l⟩:∃a,a=rs++dZ rs:=⟨_,ρ⟩;rw[<-l] at q ⊢;have r:a.length<64:=by rw[l,eu];show rs.length+4<64;lia
 have N:fq (ai rs) (ai<|dZ rs)=ac (.O<|ai a):=by grind [fq,cA,ai]
 refine' ah<|aG (aw ρ (ag (az (ae ρ ao) M) ρ) N) ρ<|aq<|ah<|aG ρ ρ<|aq<|ah ?_;refine' dB (λk Z=>∃b g,(b=.O (ai a)\/b=.D (ai a))/\Fr g/\Z=[.D (ai rs),b,.O<|.bC<|dy (rs.take k) a,g]) (bB ρ) ?h0 ?st ?C
 case h0=>exact⟨_,.no,ι ρ,ι ρ,ρ⟩
 case st =>
  rintro k y c Z ⟨b,g,t,u,rfl⟩;rw[c6] at c;cases ex:rs[k]? with
  | none=>simp_all
  | some x =>
   rw[ex] at c;cases c;have O:=(cm.1 ex).1;have Q:=eR ex;have R:=I x a r<|q x Q;refine⟨[.D (ai rs),b,.O<|.bC<|dy (rs.take k) a,.D<|af x],by rcases u with rfl|⟨d,rfl⟩<;>rfl,?_⟩;have nx:x.1∉(dy (rs.take k) a).map (·.1):=by
    unfold dy;rw[fm];intro S;obtain⟨y,c,ey⟩:=a8.1 S;obtain⟨j,U,ej⟩:=kx c;rw[ib] at U;have V:(rs.map (·.1))[j]'(by rw[ab];omega)=(rs.map (·.1))[k]'(by rw[ab];exact O):=by simp_all
    have:=(z9 L).1 V;omega
   have W:kD (dy (rs.take k) a) x.1 (.L<|(dE x.2 a 4).map iF)=dy (rs.take<|k+1) a:=by rw[Mn nx,acg,ex];unfold dy;rw[ft];rfl
   have v:(dy (rs.take k) a).length<sizeLine:=by grind [dy,cA]
   refine' ah<|KD (o:=.next [.D (ai rs),.D<|ai a,.O<|.bC<|dy (rs.take<|k+1) a,.D<|af x]) (Bc (Z1:=[.D (ai rs),.D<|ai a,.O<|.bC<|dy (rs.take k) a,.D<|af x]) (ag (az (ae ρ<|ae ?X ao) R) ρ) ρ ?Y ?i3 v ?i4)<|aq<|aU ?i5
   case X=>rcases t with rfl|rfl<;>rfl
   case Y=>exact ρ
   case i3=>exact ρ
   case i4=>show List.set _ 2 (Slot.O<|.bC<|kD (dy (rs.take k) a) x.1<|.L<|(dE x.2 a 4).map iF)=_;rw[W];rfl
   exact⟨_,_,τ ρ,τ ⟨_,ρ⟩,ρ⟩
 rintro Z ⟨b,g,t,u,rfl⟩;rw[ab,nk];walk_at "w";exact⟨_,ρ⟩
def mW(rs:Fl):List (Int×Int):=dc (rs.map (·.2))
structure Ja (rs:Fl):Prop where
 ne:rs≠[]
 nd:(rs.map (·.1)).Nodup
 bI:rs.length<=8
 cnt:∀p∈mW rs,(mW rs).count p<=4
 th:∀x∈rs,∀k,k<4->((cQ x.2 (rs++dZ rs) k).map (·.1)).Nodup
 ring:∀x∈rs,dE x.2 (rs++dZ rs) 4≠[]
def fP(rs:Fl)(x:eS×Ob):List Str:=(dE x.2 (rs++dZ rs) 4).map (·.2)
def yK:p∈cD l ↔ p∈l:=(gk _ _).mem_iff
def BE (ok:iA rs):∀y∈fP rs x,aT y:=by
 intro y c;unfold fP dE at c;obtain⟨z,hz,rfl⟩:=a8.1 c;obtain⟨k,hk,hz⟩:=pw.1 hz;obtain⟨p,b,rfl⟩:=a8.1 hz;have b:=yK.1 b;unfold cQ at b;obtain⟨r,a,rfl⟩:=a8.1 b;have a:=(hB.1 a).1;rcases eH.1 a with a|a
 ·exact ok.tx r a
 have:∀z∈dZ rs,aT z.1:=by
  intro z hz;unfold dZ at hz;simp only[eW,hF,or_false] at hz;have d:aT "north":=⟨by decide +kernel,by decide +kernel⟩;have e:aT "east":=⟨by decide +kernel,by decide +kernel⟩;have f:aT "south":=⟨by decide +kernel,by decide +kernel⟩;have g:aT "west":=⟨by decide +kernel,by decide +kernel⟩;rcases hz with rfl|rfl|rfl|rfl
  ·exact d
  ·exact e
  ·exact f
  exact g
 exact this r a
theorem NW (b:(rs.map (·.1)).Nodup)(a:x∈rs):cP (dy rs W) x.1=ac (.L<|(dE x.2 W 4).map iF):=by
 unfold dy cP;induction rs with
 | nil=>cases a
 | cons y rs c =>
  rw[hS,qh] at b;rw[hS,ZP];rcases eW.1 a with rfl|a
  ·simp
  have:¬y.1=x.1:=λz=>b.1 (by rw[z];exact a8.2 ⟨x,a,ρ⟩);rw[show am (y.1=x.1)=bi from decide_eq_false this];exact c b.2 a
def kC (h0:Z[i]?=ac (.D<|.dn a))(h:g Z=ac (.str k,Z1))(h':cP a k=ac d):tB i g Z=ac (d,Z1):=by simp_all [tB]
def dS(a:Nat)(x y:Ob):Bool:=if a=1 then am (x.l<y.r)&&am (y.l<x.r) else am (x.b<y.t)&&am (y.b<x.t)
def bZ(k:Nat)(x y:Ob):Bool:=if k=0 then am (y.b=x.t)&&dS 1 x y else if k=1 then am (y.l=x.r)&&dS 2 x y else if k=2 then am (y.t=x.b)&&dS 1 x y else am (y.r=x.l)&&dS 2 x y
def fS(rs:Fl)(x:Ob)(k:Nat):List (Int×eS):=(rs.filter λy=>bZ k x y.2).map λy=>(cz k y.2,y.1)
def dv(rs:Fl)(x:Ob)(k:Nat):List Str:=if fS rs x k=[] then [aK k] else (cD<|fS rs x k).map (·.2)
def dU(rs:Fl)(x:Ob)(n:Nat):List Str:=(gD n).flatMap λk=>dv rs x k
def pv(rs)(x)(n):dU rs x (n+1)=dU rs x n++dv rs x n:=by simp[dU,ZN]
def Rj(rs)(x)(k):dv rs x k≠[]:=by
 delta dv;split
 ·simp
 rename_i h;intro z;have z:=congrArg List.length z;rw[ab,mO] at z;exact h<|Yr.1 z
theorem Uq(rs:Fl)(x:Ob):dU rs x 4≠[]:=by rw[pv];exact fun z=>Rj _ _ _ (List.append_eq_nil_iff.1 z).2
def ve(rs:Fl)(x:Ob):Prop:=∀k,k<4->((fS rs x k).map (·.1)).Nodup
theorem Pm(l:Fl):firstsD (l.map af)=ac (l.map (·.1)):=by
 induction l with
 | nil=>rfl
 | cons x l a=>rw[hS,firstsD,a];rfl
def rQ(rs:Fl):Fl:=rs.mergeSort λa b=>ff (af a)<|af b
def LP(rs)(f)(h:∀a∈rs,∀b∈rs,ff (f a) (f b)=ff (af a) (af b)):mF (rs.map f)=(rQ rs).map f:=by delta mF rQ;rw[<-Yz (λa c b d=>(h a c b d).symm)]
def sf(rs:Fl):Bool:=am (∃p∈mW rs,3<(mW rs).count p)
end
theorem DL:∀(l d:List Key),d.Nodup->((l.foldl gO d).length=d.length+l.length ↔ l.Nodup/\∀x∈l,x∉d)
 | [],d,_=>⋯
 | v::l,d,h=>by
  have le:∀(l d:List Key),(l.foldl gO d).length<=d.length+l.length:=by
   intro l;induction l with
   | nil=>intro d;simp
   | cons a l f=>intro d;simp;have:=f<|gO d a;have e:=Gq d a;split at e<;>lia
  simp only[ZO,gW];by_cases g:v∈d
  ·have e:gO d v=d:=if_pos (xr.2 ⟨v,g,by simp⟩);constructor
   ·intro z;have:=le l d;lia
   rintro⟨_,z⟩;cases z v (fk ..) g
  have e:gO d v=d++[v]:=if_neg (by simp_all);have h':(d++[v]).Nodup:=by rw[iR];refine⟨h,⋯,?_⟩;grind
  have f:=DL l (d++[v]) h';simp only[eu,ZA] at f;rw[e,show d.length+(l.length+1)=d.length+1+l.length from by lia,f,qh];constructor
  ·rintro⟨a,b⟩;refine⟨⟨λz=>b v z ⋯,a⟩,?_⟩;simp_all
  rintro⟨⟨a,b⟩,c⟩;refine⟨b,λx hx z=>?_⟩;simp_all
def vm(ys):jl ys=ys.length ↔ ys.Nodup:=by
 dsimp only[jl,dO];have e:(gD ys.length).map (λi=>(uy ((ys[i]?).getD YK):Key))=ys.map uy:=by
  apply adX
  ·simp
  intro i h1 b;have:i<ys.length:=by simpa using b
  simp[this]
 rw[e];have:=DL (ys.map uy) [] YV;simp only[ab,YH,Y3] at this;rw[this];constructor
 ·rintro⟨a,_⟩;exact (gd.1 a).imp λh z=>h (by rw[z])
 intro a;exact⟨gd.2 (a.imp λh z=>h<|Sum.inr.inj z),λx _ z=>by cases z⟩
theorem Ef:∀{l:List c},(∀i x,l[i]?=ac x->∀y∈l.drop (i+1),R x y) ↔ l.Pairwise R
 | []=>⋯
 | a::l=>by
  rw[T',<-Ef];constructor
  ·intro h;exact⟨λy b=>h 0 a ρ y b,λi x e y b=>h (i+1) x e y b⟩
  rintro⟨d,f⟩ i x e y b;cases i with
  | zero=>cases e;exact d y b
  | succ i=>exact f i x e y b
structure aP (rs:Fl):Prop where
 ne:rs≠[]
 bI:rs.length<=8
 nm:∀x∈rs,dX x.1=bd
 row:∀x∈rs,0<=x.2.l/\x.2.l<x.2.r/\0<=x.2.b/\x.2.b<x.2.t
 nd:(rs.map (·.1)).Nodup
 ap:rs.Pairwise fun x y=>Apart x.2 y.2
 ar:fR rs=bu rs*bw rs
def GX (a:x.ok)(b:y.ok):gQ x y=bi ↔ Apart x y:=by delta gQ fZ fD pC imax Apart;unfold Ob.ok at a b;rw[acV,decide_eq_false_iff_not,decide_eq_false_iff_not];constructor;omega;lia
def EC(x):ls x=bd ↔ dX x.1=bd/\0<=x.2.l/\x.2.l<x.2.r/\0<=x.2.b/\x.2.b<x.2.t:=by unfold ls;lia
def vC(rs):j6 rs=bd ↔ aP rs:=by
 have m:(∀x∈rs,x.2.ok)->(((gD rs.length).any λi=>(rs.drop<|i+1).any λy=>gQ (rs.getD i ("",⟨0,0,0,0⟩)).2 y.2)=bi ↔ rs.Pairwise λx y=>Apart x.2 y.2):=by
  intro ok;rw[<-Ef,aby];constructor
  ·intro h i x e y k;have j:=(cm.1 e).1;have:=h i<|iW.2 j;rw[yv,aby] at this;have:=this y k;rw[yv,lD,e] at this;exact (GX (ok x<|eR e)<|ok y<|YX k).1 this
  intro h i j;have j:=iW.1 j;rw[yv,aby];intro y k;have e:rs[i]?=ac rs[i]:=bt j;rw[yv,lD,e];exact (GX (ok _<|z8 j)<|ok y<|YX k).2 (h i _ e y k)
 unfold j6;simp only[fv,decide_eq_true_eq,ow,iN];constructor
 ·rintro⟨⟨⟨⟨⟨a,b⟩,c⟩,d⟩,e⟩,f⟩;have l:∀x∈rs,_:=λx g=>(EC x).1 (c x g);refine⟨λz=>by rw[z] at a;simp at a,b,λx g=>(l x g).1,λx g=>(l x g).2,?_,(m λx g=>⟨(l x g).2.2.1,(l x g).2.2.2.2⟩).1 e,f⟩;rw[<-vm,d,ab]
 intro F;refine⟨⟨⟨⟨⟨oy.2 F.ne,F.bI⟩,λx g=>(EC x).2 ⟨F.nm x g,F.row x g⟩⟩,?_⟩,(m λx g=>⟨(F.row x g).2.1,(F.row x g).2.2.2⟩).2 F.ap⟩,F.ar⟩;rw[(vm _).2 F.nd,ab]
theorem Et{a b c d:Int}(h1:a<b)(h2:c<d):(0<pC b d-imax a c ↔ a<d/\c<b)/\(pC b d-imax a c=0 ↔ c=b\/d=a)/\(c=b->d≠a):=by unfold pC imax;refine⟨?_,?_,?_⟩<;>omega
theorem TB{p h w q c d:Prop}[Decidable p][Decidable h][Decidable w][Decidable q][Decidable c][Decidable d]{k:Nat}(n:p->¬w):(if p/\h then (if c then ac 0 else ac 2) else if w/\q then (if d then ac 1 else ac 3) else al)=ac k ↔ (p/\h/\if c then 0=k else 2=k)\/(w/\q/\if d then 1=k else 3=k):=by
 by_cases A:p/\h
 ·rw[if_pos A];split<;>simp[A,n A.1]
 rw[if_neg A];by_cases B:w/\q
 ·rw[if_pos B];split<;>simp[B,show ¬p from fun a=>n a B.1]
 rw[if_neg B];exact⟨nofun,fun h=>h.elim (fun h=>absurd ⟨h.1,h.2.1⟩ A) fun h=>absurd ⟨h.1,h.2.1⟩ B⟩
theorem qm{x y:Ob}(c:x.ok)(d:y.ok){k:Nat}(e:k<4):(fN x y=ac k) ↔ bZ k x y=bd:=by
 obtain⟨f,g,n1⟩:(0<fZ x y ↔ x.l<y.r/\y.l<x.r)/\(fZ x y=0 ↔ y.l=x.r\/y.r=x.l)/\(y.l=x.r->y.r≠x.l):=Et c.1 d.1;obtain⟨h,i,n2⟩:(0<fD x y ↔ x.b<y.t/\y.b<x.t)/\(fD x y=0 ↔ y.b=x.t\/y.t=x.b)/\(y.b=x.t->y.t≠x.b):=Et c.2 d.2;have e:k=0\/k=1\/k=2\/k=3:=by lia
 unfold fN bZ dS;rw[TB (fun a b=>by rw[b] at a;cases a),f,h,g,i];clear f h g i c d;rcases e with rfl|rfl|rfl|rfl<;>by_cases y.b=x.t<;>by_cases y.l=x.r<;>simp_all [and_comm]
def aP.kX (F:aP rs)(a:x∈rs):x.2.r<=bu rs/\x.2.t<=bw rs:=⟨uE<|a8.2 ⟨x,a,ρ⟩,uE<|a8.2 ⟨x,a,ρ⟩⟩
theorem aP.ok{rs:Fl}(F:aP rs){x:eS×Ob}(a:x∈rs):x.2.ok:=⟨(F.row x a).2.1,(F.row x a).2.2.2⟩
def aP.hit (F:aP rs)(f:0<=p)(h2:p<bu rs)(g:0<=q)(h4:q<bw rs):∃y∈rs,y.2.l<=p/\p<y.2.r/\y.2.b<=q/\q<y.2.t:=by
 obtain⟨o,d,e⟩:=filled (W:=(bu rs).toNat) (H:=(bw rs).toNat) (λo d=>by
  obtain⟨x,c,rfl⟩:=a8.1 d;have a:=F.row x c;have b:=F.kX c;exact⟨a.1,a.2.1,by omega,a.2.2.1,a.2.2.2,by omega⟩) (gd.2 F.ap) (by
  rw[fm];have:=F.ar;unfold fR at this;rw[show (Ob.area ∘ λx:eS×Ob=>x.2)=λx=>x.2.area from ρ,this,Zd (by lia),Zd (by lia)]) f (by lia) g (by lia)
 obtain⟨x,c,rfl⟩:=a8.1 d;exact⟨x,c,e⟩
theorem jq{b:Type}{R:b->b->Prop}{l:List b}(h:l.Pairwise R){x y:b}(d:x∈l)(a:y∈l):x=y\/R x y\/R y x:=by
 induction h with
 | nil=>cases d
 | cons e _ f =>
  rcases eW.1 d with rfl|c
  ·rcases eW.1 a with rfl|a
   ·exact ι ρ
   exact τ<|ι<|e y a
  rcases eW.1 a with rfl|a
  ·exact τ<|τ<|e x c
  exact f c a
def fG(rs:Fl)(x:Ob)(k:Nat):Prop:=if k=0 then x.t=bw rs else if k=1 then x.r=bu rs else if k=2 then x.b=0 else x.l=0
instance (rs:Fl) (x:Ob) (k:Nat):Decidable (fG rs x k):=by unfold fG;infer_instance
theorem aP.inner{rs:Fl}(F:aP rs){x:eS×Ob}(f:x∈rs){k:Nat}(g:k<4)(h:¬fG rs x.2 k):fS rs x.2 k≠[]:=by
 have a:=F.row x f;have b:=F.kX f;have key:∃y∈rs,bZ k x.2 y.2=bd:=by
  have g:k=0\/k=1\/k=2\/k=3:=by lia
  rcases g with rfl|rfl|rfl|rfl
  ·have h:¬x.2.t=bw rs:=h;obtain⟨y,d,e⟩:=F.hit (p:=x.2.l) (q:=x.2.t) (by omega) (by omega) (by omega) (by lia);refine⟨y,d,?_⟩;have c:y.2.b=x.2.t:=by
    rcases jq F.ap f d with rfl|z|z
    ·omega
    grind [Apart];grind [Apart]
   show (am (y.2.b=x.2.t)&&(am (x.2.l<y.2.r)&&am (y.2.l<x.2.r)))=bd;lia
  ·have h:¬x.2.r=bu rs:=h;obtain⟨y,d,e⟩:=F.hit (p:=x.2.r) (q:=x.2.b) (by omega) (by lia) (by omega) (by omega);refine⟨y,d,?_⟩;have c:y.2.l=x.2.r:=by
    rcases jq F.ap f d with rfl|z|z
    ·omega
    grind [Apart];grind [Apart]
   show (am (y.2.l=x.2.r)&&(am (x.2.b<y.2.t)&&am (y.2.b<x.2.t)))=bd;lia
  ·have h:¬x.2.b=0:=h;obtain⟨y,d,e⟩:=F.hit (p:=x.2.l) (q:=x.2.b-1) (by omega) (by omega) (by lia) (by omega);refine⟨y,d,?_⟩;have c:y.2.t=x.2.b:=by
    rcases jq F.ap f d with rfl|z|z
    ·omega
    grind [Apart];grind [Apart]
   show (am (y.2.t=x.2.b)&&(am (x.2.l<y.2.r)&&am (y.2.l<x.2.r)))=bd;lia
  have h:¬x.2.l=0:=h;obtain⟨y,d,e⟩:=F.hit (p:=x.2.l-1) (q:=x.2.b) (by lia) (by omega) (by omega) (by omega);refine⟨y,d,?_⟩;have c:y.2.r=x.2.l:=by
   rcases jq F.ap f d with rfl|z|z
   ·omega
   grind [Apart];grind [Apart]
  show (am (y.2.r=x.2.l)&&(am (x.2.b<y.2.t)&&am (y.2.b<x.2.t)))=bd;lia
 simp_all [fS]
def aP.outer (F:aP rs)(hx:x∈rs)(c:k<4)(h:fG rs x.2 k):fS rs x.2 k=[]:=by
 unfold fS;rw[zd,List.filter_eq_nil_iff];intro y d z;have a:=F.row y d;have b:=F.kX d;have c:k=0\/k=1\/k=2\/k=3:=by lia
 rcases c with rfl|rfl|rfl|rfl
 ·have h:x.2.t=bw rs:=h;have z:(am (y.2.b=x.2.t)&&_)=bd:=z;lia
 ·have h:x.2.r=bu rs:=h;have z:(am (y.2.l=x.2.r)&&_)=bd:=z;lia
 ·have h:x.2.b=0:=h;have z:(am (y.2.t=x.2.b)&&_)=bd:=z;lia
 have h:x.2.l=0:=h;have z:(am (y.2.r=x.2.l)&&_)=bd:=z;lia
def aP.nodup (F:aP rs)(x:Ob)(f:k<4):((fS rs x k).map (·.1)).Nodup:=by
 unfold fS;rw[fm];apply gd.2;have h:rs.Pairwise λy z=>bZ k x y.2=bd->bZ k x z.2=bd->cz k y.2≠cz k z.2:=by
  refine YQ (λ{y z} g hz ap c d e=>?_) F.ap;have a:=F.row y g;have b:=F.row z hz;unfold Apart at ap;have f:k=0\/k=1\/k=2\/k=3:=by lia
  rcases f with rfl|rfl|rfl|rfl
  ·have c:(am (y.2.b=x.t)&&_)=bd:=c;have d:(am (z.2.b=x.t)&&_)=bd:=d;have e:y.2.l=z.2.l:=e;lia
  ·have c:(am (y.2.l=x.r)&&_)=bd:=c;have d:(am (z.2.l=x.r)&&_)=bd:=d;have e:- y.2.b=- z.2.b:=e;lia
  ·have c:(am (y.2.t=x.b)&&_)=bd:=c;have d:(am (z.2.t=x.b)&&_)=bd:=d;have e:- y.2.l=- z.2.l:=e;lia
  have c:(am (y.2.r=x.l)&&_)=bd:=c;have d:(am (z.2.r=x.l)&&_)=bd:=d;have e:y.2.b=z.2.b:=e;lia
 grind
def aP.pos (F:aP rs):0<bu rs/\0<bw rs:=by obtain⟨x,c⟩:=acs rs F.ne;have a:=F.row x c;have b:=F.kX c;lia
def ke(rs:Fl)(k:Nat):Ob:=if k=0 then ⟨0,bw rs,bu rs,bw rs+1⟩ else if k=1 then ⟨bu rs,0,bu rs+1,bw rs⟩ else if k=2 then ⟨0,-1,bu rs,0⟩ else ⟨-1,0,0,bw rs⟩
def J7 (F:aP rs)(v:x∈rs)(d:k<4):cQ x.2 (dZ rs) k=if fG rs x.2 k then [(cz k<|ke rs k,aK k)] else []:=by
 have a:=F.row x v;have b:=F.kX v;have p:=F.pos;have key:∀j,j<4->(am (fN x.2 (ke rs j)=ac k)=(am (j=k)&&am (fG rs x.2 k))):=by
  intro j f;rw[tz,fv,decide_eq_true_eq,decide_eq_true_eq,decide_eq_true_eq];have ok:(ke rs j).ok:=by
   have f:j=0\/j=1\/j=2\/j=3:=by lia
   rcases f with rfl|rfl|rfl|rfl
   ·exact⟨show (0:Int)<bu rs by omega,show bw rs<bw rs+1 by lia⟩
   ·exact⟨show bu rs<bu rs+1 by lia,show (0:Int)<bw rs by omega⟩
   ·exact⟨show (0:Int)<bu rs by omega,show (-1:Int)<0 by omega⟩
   exact⟨show (-1:Int)<0 by omega,show (0:Int)<bw rs by omega⟩
  rw[qm (F.ok v) ok d];have f:j=0\/j=1\/j=2\/j=3:=by lia
  have d:k=0\/k=1\/k=2\/k=3:=by lia
  have m:x.2.l<bu rs/\0<x.2.r/\x.2.b<bw rs/\0<x.2.t:=by omega
  have n:¬0=x.2.t/\¬-1=x.2.t/\¬0=x.2.r/\¬-1=x.2.r:=by omega
  have s:¬bw rs=x.2.b/\¬bw rs+1=x.2.b/\¬bu rs=x.2.l/\¬bu rs+1=x.2.l:=by omega
  clear a b p;have no:∀{c:Prop} [Decidable c] {o:Bool}{A B:Prop},¬c->¬A->((decide c&&o)=bd ↔ A/\B):=λh g=>by simp[h,g]
  have u:∀{a b:Int}{p q A:Prop} [Decidable p] [Decidable q],p->q->A->((am (a=b)&&(decide p&&decide q))=bd ↔ A/\b=a):=λh g i=>by simp[h,g,i,eq_comm]
  rcases f with rfl|rfl|rfl|rfl<;>rcases d with rfl|rfl|rfl|rfl<;>first|exact u m.1 m.2.1 ρ|exact u m.2.2.1 m.2.2.2 ρ|exact no n.1 nofun|exact no n.2.1 nofun|exact no n.2.2.1 nofun|exact no n.2.2.2 nofun|exact no s.1 nofun|exact no s.2.1 nofun|exact no s.2.2.1 nofun|exact no s.2.2.2 nofun
 have z:(dZ rs).filter (λy=>am<|fN x.2 y.2=ac k)=if fG rs x.2 k then [(aK k,ke rs k)] else []:=by
  have e:dZ rs=[(aK 0,ke rs 0),(aK 1,ke rs 1),(aK 2,ke rs 2),(aK 3,ke rs 3)]:=ρ;rw[e];simp only[wy,List.filter_nil,key 0 (by decide),key 1 (by decide),key 2 (by decide),key 3 (by decide)];have d:k=0\/k=1\/k=2\/k=3:=by lia
  by_cases w:fG rs x.2 k
  ·simp only[decide_eq_true w,if_pos w];rcases d with rfl|rfl|rfl|rfl<;>rfl
  simp_all
 unfold cQ;rw[z];split<;>rfl
def BH (F:aP rs)(a:x∈rs)(b:k<4):cQ x.2 (rs++dZ rs) k=if fG rs x.2 k then [(cz k<|ke rs k,aK k)] else fS rs x.2 k:=by
 have c:cQ x.2 (rs++dZ rs) k=cQ x.2 rs k++cQ x.2 (dZ rs) k:=by simp[cQ]
 have d:cQ x.2 rs k=fS rs x.2 k:=by
  unfold cQ fS;congr 1;refine aal λy e=>?_
  rw[tz,decide_eq_true_eq];exact qm (F.ok a) (F.ok e) b
 simp only[c,d,J7 F a b];by_cases h:fG rs x.2 k
 ·rw[if_pos h,if_pos h,F.outer a b h];rfl
 simp_all
def BZ (F:aP rs)(a:x∈rs)(b:k<4):(cD<|cQ x.2 (rs++dZ rs) k).map (·.2)=dv rs x.2 k:=by
 rw[BH F a b];delta dv;by_cases h:fG rs x.2 k
 ·rw[if_pos h,if_pos<|F.outer a b h];delta cD;simp
 rw[if_neg h,if_neg<|F.inner a b h]
theorem rF (F:aP rs)(a:x∈rs):fP rs x=dU rs x.2 4:=by
 have:∀n,n<=4->(dE x.2 (rs++dZ rs) n).map (·.2)=dU rs x.2 n:=by
  intro n;induction n with
  | zero=>intro _;rfl
  | succ n b=>intro h;simp only[xY,pv,ft,b ⋯,<-BZ F a (show n<4 by omega),fm];rfl
 exact this 4<|eK _
theorem aP.O'{rs:Fl}(F:aP rs):Ja rs:=by
 refine⟨F.ne,F.nd,F.bI,?_,?_,?_⟩
 ·refine fun p _=>Sa ?_ (gd.2 F.ap) p;intro o c;obtain⟨x,a,rfl⟩:=a8.1 c;exact F.ok a
 ·intro x a k b;rw[BH F a b];split
  ·simp
  exact F.nodup x.2 b
 intro x a z;have:=rF F a;unfold fP at this;rw[z] at this;exact Uq rs x.2 this.symm
def aP.some (F:aP rs)(x:Ob):ve rs x:=λ_ a=>F.nodup x a
section
variable{P:hY}{w:nR}{K:f'}{mg:eS->Option cn}{base:nL}
def M9(o:Ob):Dat:=.U [.int o.l,.int o.b,.int o.r,.int o.t]
def sg (h:dX x=bd):aT x:=by unfold dX at h;simp only[fv,decide_eq_true_eq] at h;obtain⟨⟨⟨h0,h1⟩,b⟩,_⟩:=h;refine⟨?_,by lia⟩;rw[aa'];intro a c;have:=iN.1 b a<|ZJ.2 c;unfold gP at this;lia
def zw (h:∀x∈rs,x<=W)(hw:W∈rs):fA rs=W:=by have h1:=uE hw;have h2:=h _<|nB (λz=>by rw[z] at hw;cases hw);lia
def wa(x)(o):fq (.U [.str x]) (M9 o)=ac (.D<|af (x,o)):=by rfl
theorem RL{rs:Fl}:eI (rs.map af) (rs.map af)=bd:=by
 induction rs with
 | nil=>rfl
 | cons x rs a=>show (bV (af x) (af x)&&eI (rs.map af) (rs.map af))=bd;rw[a,acz];show bV (.U _) (.U _)=bd;rw[oV];show (bV (.str x.1) (.str x.1)&&(bV (.int x.2.l) (.int x.2.l)&&(bV (.int x.2.b) (.int x.2.b)&&(bV (.int x.2.r) (.int x.2.r)&&(bV (.int x.2.t) (.int x.2.t)&&true)))))=bd;simp[jB,iG]
def B9 (h:∀x∈rs,aT x.1):bQ (ai rs)=bd:=zZ (by rw[iN];intro d hd;obtain⟨p,a,rfl⟩:=a8.1 hd;show [Dat.str p.1,.int p.2.l,.int p.2.b,.int p.2.r,.int p.2.t].all eM=bd;simp[eM,(h p a).ok])
def Ml(a):cM a a=bd:=kS.2<|Zr _
def Qx(l):∃A B,l=A++B/\mJ l=B++A:=by
 delta mJ;split
 ·rename_i i _;exact⟨l.take i,l.drop i,(YL i l).symm,ρ⟩
 exact⟨[],l,ρ,⋯⟩
def j8(k:Nat)(a b:eS×Ob):Bool:=am<|cz k a.2<=cz k b.2
def mS(rs:Fl)(x:Ob)(k:Nat):Fl:=rs.filter λy=>bZ k x y.2
def D0(rs)(x)(k):dv rs x k=if mS rs x k=[] then [aK k] else ((mS rs x k).mergeSort (j8 k)).map (·.1):=by have e:((mS rs x k).map λy=>(cz k y.2,y.1)).mergeSort (λa b=>am<|a.1<=b.1)=((mS rs x k).mergeSort (j8 k)).map λy=>(cz k y.2,y.1)  :=(Yz (r:=j8 k) (s:=λa b:Int×eS=>am<|a.1<=b.1) (f:=λy:eS×Ob=>(cz k y.2,y.1)) λa _ b _=>rfl).symm;show (if (mS rs x k).map (λy=>(cz k y.2,y.1))=[] then _ else (((mS rs x k).map λy=>(cz k y.2,y.1)).mergeSort (λa b=>am<|a.1<=b.1)).map (·.2))=_;rw[e,fm];simp;rfl
def zj(rs)(x):dU rs x 4=dv rs x 0++dv rs x 1++dv rs x 2++dv rs x 3:=by simp only[pv,pv,pv];rfl
def BR (h:n∈dv rs x k):n=aK k\/∃y∈rs,bZ k x y.2=bd/\n=y.1:=by
 rw[D0] at h;split at h
 ·exact ι<|kA.1 h
 obtain⟨y,a,rfl⟩:=a8.1 h;have:=hB.1<|adn.1 a;exact τ ⟨y,this.1,this.2,ρ⟩
def aP.kr (F:aP rs)(c:y∈rs)(hz:z∈rs)(e:y.1=z.1):y=z:=by
 have:rs.Pairwise λa b=>a.1≠b.1:=gd.1 F.nd;rcases jq this c hz with h|h|h
 ·exact h
 simp_all;exact absurd e.symm h
theorem rb(k:Nat):dX (aK k)=bi:=by
 delta aK;split
 ·decide +kernel
 split
 ·decide +kernel
 split<;>decide +kernel
def Bq (c:j<4)(d:k<4)(h:aK j=aK k):j=k:=by
 have key:∀a b:Fin 4,aK a.val=aK b.val->a=b:=by decide +kernel
 exact congrArg Fin.val<|key ⟨j,c⟩ ⟨k,d⟩ h
def aP.vB (F:aP rs)(x:Ob)(k:Nat):(dv rs x k).Nodup:=by
 rw[D0];split
 ·exact aaz _ _
 apply ((gk (mS rs x k)<|j8 k).map (·.1)).nodup_iff.2;exact l4 (List.filter_sublist.map _) F.nd
def aP.oI (F:aP rs)(h:x∈rs)(i:j<4)(l:k<4)(d:j≠k)(n:a∈dv rs x.2 j)(o:b∈dv rs x.2 k):a≠b:=by
 intro e;subst e;rcases BR n with f|⟨y,c,p,f⟩<;>rcases BR o with g|⟨z,hz,q,g⟩
 ·exact d<|Bq i l<|f.symm.trans g
 ·have:=F.nm z hz;simp_all [rb]
 ·have:=F.nm y c;grind [rb]
 have:=F.kr c hz<|f.symm.trans g;subst this;have m:=(qm (F.ok h) (F.ok c) l).2 q;rw[(qm (F.ok h) (F.ok c) i).2 p] at m;exact d<|Option.some.inj m
def aP.pS (F:aP rs)(e:x∈rs):(dU rs x.2 4).Nodup:=by
 rw[zj,iR,iR,iR];refine⟨⟨⟨F.vB _ _,F.vB _ _,λa c b d=>F.oI e ⋯ ⋯ ⋯ c d⟩,F.vB _ _,λa c b d=>?_⟩,F.vB _ _,λa c b d=>?_⟩
 ·rcases eH.1 c with c|c
  ·exact F.oI e ⋯ ⋯ ⋯ c d
  exact F.oI e ⋯ ⋯ ⋯ c d
 rcases eH.1 c with c|c
 ·rcases eH.1 c with c|c
  ·exact F.oI e ⋯ ⋯ ⋯ c d
  exact F.oI e ⋯ ⋯ ⋯ c d
 exact F.oI e ⋯ ⋯ ⋯ c d
variable{rs:Fl}
def Px (h:(Z[i]?).bind ownOf=ac (false,.L xs))(a:fa Z=ac ([d],Z1))(b:(Z1[i]?).bind ownOf=ac (false,.L xs))(hl:xs.length<cA):hV i mw fa Z=ac (.aQ,Z1.set i<|.O<|.L<|xs++[d]):=by unfold hV;rw[h];show (fa Z).bind _=_;rw[a];show ((Z1[i]?).bind ownOf).bind _=_;rw[b];show (if xs.length<cA then ac (Dat.aQ,Dat.L<|xs++[d]) else al).map _=_;rw[if_pos hl];rfl
end
def cS(rs:Fl):Ob:=⟨0,0,bu rs,bw rs⟩
def allR(rs:Fl):Fl:=rs++dZ rs
def E1(rs):dZ rs=[(aK 0,wall (cS rs) 0),(aK 1,wall (cS rs) 1),(aK 2,wall (cS rs) 2),(aK 3,wall (cS rs) 3)]:=ρ
def u9(rs):(allR rs).map (·.2)=rs.map (·.2)++walls (cS rs):=by delta allR;rw[ft,E1];rfl
def D2 (F:aP rs):(cS rs).ok:=⟨F.pos.1,F.pos.2⟩
def Ay (a:k<4):Up (aa k x) (aa k y) ↔ bZ k x y=bd:=by
 have a:k=0\/k=1\/k=2\/k=3:=by lia
 rcases a with rfl|rfl|rfl|rfl<;>simp[Up,aa,ak,bZ,dS]<;>lia
theorem GS(p):∀(rs:Fl),(rs.filter λy=>am<|p∈cT y.2).length<=(mW rs).count p
 | []=>eK _
 | y::rs=>by
  have ih:=GS p rs;have e:mW (y::rs)=cT y.2++mW rs:=ρ;simp[e];by_cases h:p∈cT y.2
  ·rw[List.filter_cons_of_pos (by simpa using h),gW];have:=adq.2 h;lia
  rw[List.filter_cons_of_neg (by simpa using h)];lia
def aP.Ub (F:aP rs)(k:sf rs=bi):aC (cS rs) (rs.map (·.2)) where
 aO:=λo s=>by obtain⟨x,c,rfl⟩:=a8.1 s;have a:=F.row x c;have b:=F.kX c;exact⟨a.1,a.2.1,b.1,a.2.2.1,a.2.2.2,b.2⟩
 ap:=λa u b v=>by
  obtain⟨x,c,rfl⟩:=a8.1 u;obtain⟨y,d,rfl⟩:=a8.1 v;rcases jq F.ap c d with e|e|e
  ·exact ι (by rw[e])
  ·exact τ e
  exact τ e.symm
 hit:=λp q w A B C=>by obtain⟨y,d,h⟩:=F.hit w A B C;exact⟨y.2,a8.2 ⟨y,d,ρ⟩,h⟩
 four:=λx c n D m l z hz h=>by
  obtain⟨x,f,rfl⟩:=a8.1 c;obtain⟨n,g,rfl⟩:=a8.1 D;obtain⟨m,i,rfl⟩:=a8.1 l;obtain⟨z,j,rfl⟩:=a8.1 hz;have rn:=F.row n g;have rm:=F.row m i;have rz:=F.row z j;delta sf at k;rw[decide_eq_false_iff_not] at k;obtain⟨E,G,H,I,J,K⟩:=h;have key:=GS (x.2.r,x.2.t) rs;have L:[x,n,m,z].length<=(rs.filter λy=>am<|(x.2.r,x.2.t)∈cT y.2).length:=by
   refine Yk ?_ ?_
   ·have M:x≠n:=λe=>by subst e;lia
    have N:x≠m:=λe=>by subst e;omega
    have O:x≠z:=λe=>by subst e;omega
    have P:n≠m:=λe=>by subst e;omega
    have Q:n≠z:=λe=>by subst e;omega
    have R:m≠z:=λe=>by subst e;lia
    simp[M,N,O,P,Q,R]
   intro y d;rw[hB,decide_eq_true_eq];simp at d;rcases d with rfl|rfl|rfl|rfl
   ·exact⟨f,by simp[cT]⟩
   ·exact⟨g,by simp[cT,E,G]⟩
   ·exact⟨i,by simp[cT,H,I]⟩
   exact⟨j,by simp[cT,J,K]⟩
  simp only[gW,YH] at L;exact k ⟨(x.2.r,x.2.t),adq.1 (by omega),by omega⟩
def aP.BS (F:aP rs):((allR rs).map (·.2)).Nodup:=by
 rw[u9,iR];refine⟨?_,?_,?_⟩
 ·refine gd.2 (F.ap.imp_of_mem λ{x y} c hy h e=>?_);have a:=F.row x c;grind [Apart]
 ·have i:∀{j k:Nat},j<4->k<4->j≠k->wall (cS rs) j≠wall (cS rs) k:=λg m d e=>d (kg (D2 F) g m e);have e:walls (cS rs)=[wall (cS rs) 0,wall (cS rs) 1,wall (cS rs) 2,wall (cS rs) 3]:=ρ;simp_all
 intro a n b f e;subst e;obtain⟨x,c,rfl⟩:=a8.1 n;have r:=F.row x c;have b:=F.kX c;simp[walls] at f;rcases f with h|h|h|h<;>(have o:=congrArg Ob.l h;have p:=congrArg Ob.b h;have q:=congrArg Ob.r h;have s:=congrArg Ob.t h;dsimp only[wN,wE,wS,wW,cS] at o p q s;omega)
def l8:y∈allR rs ↔ y∈rs\/∃k,k<4/\y=(aK k,wall (cS rs) k):=by
 delta allR;rw[eH,E1];apply or_congr Iff.rfl;constructor
 ·intro h;simp at h;rcases h with h|h|h|h
  ·exact⟨0,⋯,h⟩
  ·exact⟨1,⋯,h⟩
  ·exact⟨2,⋯,h⟩
  exact⟨3,⋯,h⟩
 rintro⟨k,a,rfl⟩;have a:k=0\/k=1\/k=2\/k=3:=by lia
 grind
def aP.N9 (F:aP rs)(a:y∈allR rs)(hz:z∈allR rs)(e:y.1=z.1):y=z:=by
 rcases l8.1 a with a|⟨j,b,rfl⟩<;>rcases l8.1 hz with hz|⟨k,c,rfl⟩
 ·exact F.kr a hz e
 ·have:=F.nm y a;simp_all [rb]
 ·have:=F.nm z hz;rw[<-e,rb] at this;contradiction
 have:=Bq b c e;subst this;rfl
def mo(rs:Fl)(o:Ob):Str:=(((allR rs).find? λy=>am<|y.2=o).map (·.1)).getD ""
theorem aP.mD (F:aP rs)(b:y∈allR rs):mo rs y.2=y.1:=by
 delta mo;cases e:(allR rs).find? λz=>am (z.2=y.2) with
 | none=>have:=Zj.1 e y b;simp at this
 | some z =>
  have c:=Y7 e;have a:=aaQ e;have a:z.2=y.2:=by simpa using a
  have nd:=F.BS;have:z=y:=by
   rcases jq (gd.1 nd) c b with q|q|q
   ·exact q
   simp_all;exact absurd a.symm q
  rw[this];rfl
def aP.vX (F:aP rs)(b:y∈allR rs):y.2.ok:=by
 have hp:=F.pos;rcases l8.1 b with h|⟨j,a,rfl⟩
 ·exact F.ok h
 have a:j=0\/j=1\/j=2\/j=3:=by lia
 rcases a with rfl|rfl|rfl|rfl
 ·exact⟨show (0:Int)<bu rs by omega,show bw rs<bw rs+1 by lia⟩
 ·exact⟨show bu rs<bu rs+1 by lia,show (0:Int)<bw rs by omega⟩
 ·exact⟨show (0:Int)<bu rs by omega,show (-1:Int)<0 by omega⟩
 exact⟨show (-1:Int)<0 by omega,show (0:Int)<bw rs by omega⟩
def aP.GK (F:aP rs)(a:y∈rs)(c:k<4):Apart y.2 (wall (cS rs) k):=by
 have r:=F.row y a;have b:=F.kX a;have c:k=0\/k=1\/k=2\/k=3:=by lia
 rcases c with rfl|rfl|rfl|rfl<;>simp[Apart,wall,wN,wE,wS,wW,cS]<;>omega
def aP.UA (F:aP rs)(c:y∈allR rs)(hz:z∈allR rs):y=z\/Apart y.2 z.2:=by
 have hp:=F.pos;rcases l8.1 c with h|⟨j,a,rfl⟩<;>rcases l8.1 hz with h'|⟨k,b,rfl⟩
 ·rcases jq F.ap h h' with e|e|e
  ·exact ι e
  ·exact τ e
  exact τ e.symm
 ·exact τ<|F.GK h b
 ·exact τ (F.GK h' a).symm
 have b:k=0\/k=1\/k=2\/k=3:=by lia
 have a:j=0\/j=1\/j=2\/j=3:=by lia
 rcases a with rfl|rfl|rfl|rfl<;>rcases b with rfl|rfl|rfl|rfl<;>first|exact ι ρ|(right;simp[Apart,wall,wN,wE,wS,wW,cS];done)|(right;simp[Apart,wall,wN,wE,wS,wW,cS];omega)
def aP.tJ (F:aP rs)(m:x∈rs)(d:k<4):dv rs x.2 k=(bN ((allR rs).map (·.2)) x.2 k).map (mo rs):=by
 have j:=BZ F m d;have o:(allR rs).filter (λy=>am<|fN x.2 y.2=Option.some k)=(allR rs).filter λy=>am (Up (aa k x.2)<|aa k y.2):=aal λy c=>decide_eq_decide.2<|(qm (F.ok m) (F.vX c) d).trans (Ay d).symm;have g:∀y∈(allR rs).filter (λy=>am<|Up (aa k x.2)<|aa k y.2),y∈allR rs/\bZ k x.2 y.2=bd:=λy c=>by obtain⟨p,q⟩:=hB.1 c;exact⟨p,(Ay d).1 (of_decide_eq_true q)⟩
 change ((((allR rs).filter λy=>am<|fN x.2 y.2=Option.some k).map λy=>(cz k y.2,y.1)).mergeSort λa b=>am<|a.1<=b.1).map (·.2)=_ at j;rw[o] at j;rw[<-j];unfold bN;have t:((allR rs).map (·.2)).filter (λy=>am<|Up (aa k x.2)<|aa k y)=((allR rs).filter λy=>am<|Up (aa k x.2)<|aa k y.2).map (·.2):=aef;rw[t];generalize hL:(allR rs).filter (λy=>am<|Up (aa k x.2)<|aa k y.2)=L at g;have n:∀a∈allR rs,∀b∈allR rs,bZ k x.2 a.2=bd->bZ k x.2 b.2=bd->(cz k a.2<=cz k b.2 ↔ (aa k a.2).l<=(aa k b.2).l):=λa h b i qa qb=>by
  rcases F.UA h i with e|e;simp_all;have o1:=F.vX h;have o2:=F.vX i;unfold Apart at e;unfold Ob.ok at o1 o2;have d:k=0\/k=1\/k=2\/k=3:=by lia
  rcases d with rfl|rfl|rfl|rfl<;>simp[cz,bZ,dS,aa,ak] at *<;>omega
 have u:(L.map λy=>(cz k y.2,y.1)).mergeSort (λa b=>am<|a.1<=b.1)=(L.mergeSort<|j8 k).map λy=>(cz k y.2,y.1):=(Yz (r:=j8 k) (s:=λa b:Int×eS=>am<|a.1<=b.1) (f:=λy:eS×Ob=>(cz k y.2,y.1)) λa _ b _=>rfl).symm
 have v:(L.map (·.2)).mergeSort (λa b=>am<|(aa k a).l<=(aa k b).l)=(L.mergeSort<|j8 k).map (·.2):=(Yz λa h b i=>by unfold j8;exact decide_eq_decide.2<|n a (g a h).1 b (g b i).1 (g a h).2 (g b i).2).symm
 simp only[u,v,fm];refine zI λy c=>?_;exact (F.mD<|(g y<|adn.1 c).1).symm
def aP.Qt (F:aP rs)(a:x∈rs):dU rs x.2 4=(br (rs.map (·.2)++walls (cS rs)) x.2).map (mo rs):=by rw[zj,F.tJ a ⋯,F.tJ a ⋯,F.tJ a ⋯,F.tJ a ⋯,u9];delta br;simp only[ft]
noncomputable def dI(web:List (eS×List eS))(n:eS):List Str:=((web.find? λp=>am<|p.1=n).map (·.2)).getD []
noncomputable def jk(a b:eS):Bool:=!cM b a
theorem Df:Order jk where
 gh:=λa=>by unfold jk;rw[Ml];rfl
 tr:=λa b c d e=>by
  delta jk at *;simp only[ow] at *;cases h:cM c a with
  | false=>rfl
  | true=>have t:=vU b a;rw[d,aeA] at t;rw[yH _ _ _ h t] at e;contradiction
 cj:=λa b h=>by
  delta jk;cases d:cM b a with
  | false=>exact ι ρ
  | true =>
   cases e:cM a b with
   | false=>exact τ ρ
   | true=>exact absurd ((λc d=>kW<|ZE (Yj.1<|kS.1 c)<|Yj.1<|kS.1 d) e d) h
theorem eF (nd:(web.map (·.1)).Nodup)(a:p∈web):dI web p.1=p.2:=by
 delta dI;cases e:web.find? λz=>am (z.1=p.1) with
 | none=>have:=Zj.1 e p a;simp at this
 | some z =>
  have b:=Y7 e;have c:z.1=p.1:=by simpa using aaQ e
  have:z=p:=by
   rcases jq (gd.1 nd) b a with q|q|q
   ·exact q
   simp_all;exact absurd c.symm q
  rw[this];rfl
def DH(l):hX l (mJ l):=by obtain⟨A,B,a,b⟩:=Qx l;exact⟨A,B,a,b⟩
def fF(web:List (eS×List eS)):Prop:=oK (web.map (·.1)) aK (dI web) jk
def aP.yi (F:aP rs)(m:sf rs=bi)(g:web.Perm (rs.map λy=>(y.1,mJ<|dU rs y.2 4))):fF web:=by
 have T:=F.Ub m;have nd:=F.BS;rw[u9] at nd;have d:∀{x:eS×Ob},x∈rs->x∈allR rs:=λh=>l8.2<|ι h;have o:(rs.map (·.2)).map (mo rs)=rs.map (·.1):=by rw[fm];exact zI λx c=>F.mD<|d c
 have q:(λk=>mo rs<|wall (cS rs) k)=aK:=by
  funext k;by_cases r:k<4
  ·exact F.mD<|l8.2<|τ ⟨k,r,ρ⟩
  have s:wall (cS rs) k=wall (cS rs) 3:=by rw[wall,if_neg (by omega),if_neg (by omega),if_neg (by omega)];rfl
  have t:aK k=aK 3:=by delta aK;rw[if_neg (by omega),if_neg (by omega),if_neg (by omega)];rfl
  simp only[s,t];exact F.mD<|l8.2<|τ ⟨3,⋯,ρ⟩
 have i:∀{a:Ob},a∈rs.map (·.2)++walls (cS rs)->∃y∈allR rs,y.2=a:=λ{a} h=>by rw[<-u9] at h;exact a8.1 h
 have j:=T.yi (ν:=mo rs) (D2 F) nd (λa f b u e=>by
  obtain⟨y,l,rfl⟩:=i f;obtain⟨z,hz,rfl⟩:=i u;simp only[F.mD l,F.mD hz] at e;rw[F.N9 l hz e]) (λa f=>by
  obtain⟨x,c,rfl⟩:=a8.1 f;simp only[F.mD (d c),<-F.Qt c];exact eF (p:=(x.1,dU rs x.2 4)) (by rw[fm];exact F.nd)<|a8.2 ⟨x,c,ρ⟩) Df
 rw[o,q] at j;have pn:(web.map (·.1)).Perm (rs.map (·.1)):=by have:=g.map (·.1);rwa[fm] at this
 refine j.turn pn λn v=>?_;obtain⟨x,c,rfl⟩:=a8.1 v;simp only[eF (web:=rs.map λy=>(y.1,dU rs y.2 4)) (p:=(x.1,dU rs x.2 4)) (by rw[fm];exact F.nd) (a8.2 ⟨x,c,ρ⟩),eF (p:=(x.1,mJ<|dU rs x.2 4)) (pn.nodup_iff.2 F.nd)<|g.mem_iff.2<|a8.2 ⟨x,c,ρ⟩];exact DH _
local macro_rules | `(tactic| walk_at "U")=>Mq.fs "QT A|KH rarA"
local macro_rules | `(tactic| walk_at "1")=>Mq.fs "MR ardrrrrA"
local macro_rules | `(tactic| walk_at "0")=>Mq.fs "Mz hrVddrU|Mg rrarA|RF rarA|wk rrrarA|Rv rarA|N7 DD"
local macro_rules | `(tactic| walk_at "T")=>Mq.fs "HB hrVddrU|IK hrVddrU|Ti DD"
local macro_rules | `(tactic| walk_at "I")=>Mq.fs "Uu rarrA|Qp arVdd|OH arVdd|LN a0"
local macro_rules | `(tactic| walk_at "Z")=>Mq.fs "Sz aNrLFrE|Mu aNrLFr|Kp rVhddrDU|Uj wTS|Le"
section
variable{P:hY}{w:nR}{K:f'}{mg:eS->Option cn}{base:nL}
noncomputable abbrev DV:List Str:=["north","east","south","west"]
noncomputable abbrev o9:Dat:=.U [.str "north",.str "east",.str "south",.str "west"]
def yp(fn:aN):Prop:=∀k,k<4->fn [.str (aK k)]=ac (.D<|.str<|aK<|(k+1)%4)
def So(T:Txt mg)(w1:fg K mg "WALLS" o9)(w2:yn K mg "WALLS" DV)(F:bc K "follower" "follower" xo f a):∃fn,a9 P w K mg base aZ 1 f a ["wall"] (aD K fn)/\yp fn:=by
 refine' bT F BI ρ ?C ?B
 case C=>walk_at "h"
 intro k hk;have:k=0\/k=1\/k=2\/k=3:=by lia
 rcases this with rfl|rfl|rfl|rfl<;>rfl
def Jm(ns:List eS)(k:Nat):eX (.L<|ns.map .str) (ac (k:Int)) al=ac (.O<|.L<|(ns.drop k).map .str):=by show ac (Res.O<|.L<|cutD (ns.map Dat.str) (ac (k:Int)) al)=_;rw[nF,YI]
def Q6(ns:List eS)(k:Nat):eX (.L<|ns.map .str) al (ac (k:Int))=ac (.O<|.L<|(ns.take k).map .str):=by show ac (Res.O<|.L<|cutD (ns.map Dat.str) al<|ac (k:Int))=_;rw[nZ,Zf]
def eO (h:c Z=ac (b,Z1))(hb:b=bi)(n:WS g Z1 Q):WS (iH (ky c s kP) g) Z Q :=
 ah (dm h (by simp_all) λ_=>aU<|aq n)
def Gg(fn:aN):Prop:=∀p:eS×List eS,dX p.1=bd->aT p.1->fn [pairD p]=ac (.D<|.bl true)
def S6(T:Txt mg)(g:aY P w K mg base "is_name" 1 (aD K c))(i:w6 c)(F:bc K "is_pair" "is_pair" wR f d):∃fn,a9 P w K mg base aZ 2 f d ["thing"] (aD K fn)/\Gg fn:=by
 refine' bT F A2 ρ ?C ?B
 case C=>walk_at "h"
 intro p h j;have e:=i p.1 j;rw[h] at e;refine' ck ρ ?w;refine' eO ?a ρ ?b
 case a=>walk_at "v"
 exact ah<|bH (v_res<|rS (ag (az ρ e) ρ) (by rfl)) ⟨_,ρ⟩
def J4(room:eS)(ring names:List eS):Prop:=3<=ring.length/\ring.length<100/\(∀n∈ring,n∈names/\n≠room)/\ring.Nodup/\aT room/\(∀n∈ring,aT n)/\∀n∈names,aT n
def ES(fn:aN):Prop:=∀(room:eS) (ring names:List eS),J4 room ring names->fn [.str room,.L<|ring.map .str,.L<|names.map .str]=ac (.D<|.bl true)
def rO{ns:List eS}(a:∀x∈ns,aT x){m:eS}(b:aT m)(neg:Bool):gS neg (.str m) (.L<|ns.map .str)=ac (.D<|.bl (if neg then !am (m∈ns) else am (m∈ns))):=by
 rw[Gm b.ok (λy c=>(a y c).ok)];have:(ns.any λy=>am<|y=m)=am (m∈ns):=by rw[tz];simp
 rw[this]
def RP (a:aT x)(b:aT y):dg true (.str x) (.str y)=ac (.D<|.bl<|!am (x=y)):=by rw[rE (lX a.ok) (lX b.ok),jB]
def pE{a:Type}{enc:a->Dat}{caps:List (Option Nat)}{fi:IF}{g:GF}{fe:DF}{xs:List a}{Z Z1 Z2:DS}(put:a->DS)(b:fi Z=ac (xs.map enc,Z1))(c:bq al caps Z1=Z2)(hz:xs.length<=cA)
 (d:∀x∈xs,∀Z,(Z=cp caps Z2\/∃y,Z=put y)->g (enc x) Z=ac (put x))(e:∀x∈xs,fe (put x)=ac (.bl true,put x))(f:∀x∈xs,noOwn (put x)=bd) :
  bO ny (dQ (fu<|d9 caps al fi g (λZ=>ac (true,Z)) fe) gg) Z=ac (.D<|.bl true,Z2):=by
 apply az<|ae (ag (cc put (λ_=>.bl true) b c hz d e f) ρ) ao;have:=zh (λ_:a=>true) xs;rw[show xs.all (λ_=>true)=bd from by simp] at this;exact this
theorem ON(T:Txt mg)(w3:fg K mg "FEWEST_NEIGHBOURS" (.int 3))(hs:mg "set"=al){f:dk}{d:hO}(F:bc K "is_ring" "is_ring" wH f d):∃fn,a9 P w K mg base aZ 1 f d ["room","ring","names"] (aD K fn)/\ES fn:=by
 refine' bT F Bg ρ ?C ?B
 case C=>have nd:=Bg.nd;walk_at "h"
 rintro room ring names ⟨h1,h2,e,j,k,g,l⟩;refine' ck ρ ?w;have sz:ring.length<=sizeLine:=by unfold cA;lia
 refine' eO ?a ?D ?L
 case a=>walk_at "v"
 case D=>simp;omega
 refine' eO (j3<|fQ (ag (pE (fun n=>[.no,.D<|.str n,.D<|.L<|names.map .str,.D<|.str room]) (bB ρ) ρ sz ?G ?I ?J) ρ) ρ) ρ ?b
 case G=>intro y hy Z hd;rcases hd with rfl|⟨z,rfl⟩<;>rfl
 case I=>intro n c;have h:=rO l (g n c) false;have i:=RP (g n c) k;rw[decide_eq_true (e n c).1] at h;rw[decide_eq_false (e n c).2] at i;exact rS (ag (aw ρ ρ h) ρ)<|ag (aw ρ ρ i) ρ
 case J=>intro n c;rfl
 refine ah<|bH (aw (vN (fun x=>x) ρ (by omega)) (gq ρ ρ) Hk)<|fX ?_;rw[ZY,(vm ring).2 j,ab];exact decide_eq_true ρ
def cy:List Str:=[aK 0,aK 1,aK 2,aK 3]
structure cV (web:List (eS×List eS)):Prop where
 bI:1<=web.length/\web.length<=8
 nm:∀p∈web,dX p.1=bd
 nd:(web.map (·.1)).Nodup
 rg:∀p∈web,3<=p.2.length/\p.2.Nodup/\∀n∈p.2,(n∈web.map (·.1)\/n∈cy)/\n≠p.1
def Cj(fn:aN):Prop:=∀web:List (eS×List eS),cV web->fn [.L (web.map pairD)]=ac (.D<|.bl true)
theorem w8:∀n∈cy,aT n:=by intro n a;simp[cy] at a;rcases a with rfl|rfl|rfl|rfl<;>exact⟨by decide +kernel,by decide +kernel⟩
theorem cV.txt{web:List (eS×List eS)}(h:cV web){n:eS}(a:n∈web.map (·.1)\/n∈cy):aT n:=by
 rcases a with a|a
 ·obtain⟨p,b,rfl⟩:=a8.1 a;exact sg<|h.nm p b
 exact w8 n a
theorem vo{b:Type}[DecidableEq b]:∀{l m:List b},l.Nodup->(∀x∈l,x∈m)->l.length<=m.length
 | [],_,_,_=>pe _
 | a::l,m,c,h=>by have d:=vo (l:=l) (m:=m.erase a) (qh.1 c).2 fun x e=>(ac0 fun z=>by simp_all).2 (h x<|f6 _ e);rw[List.length_erase_of_mem (h a fk)] at d;have:=List.length_pos_of_mem<|h a fk;simp;lia
theorem cV.len{web:List (eS×List eS)}(h:cV web){p:eS×List eS}(b:p∈web):p.2.length<=12:=by
 have a:=(h.rg p b);have:p.2.length<=(web.map (·.1)++cy).length:=by exact vo a.2.1 fun n c=>eH.2 (a.2.2 n c).1
 rw[eu,ab] at this;have:=h.bI;have:cy.length=4:=ρ;lia
theorem M3(T:Txt mg)(w1:fg K mg "WALLS" o9)(w3:fg K mg "MOST_ROOMS" (.int 8))(hs:mg "set"=al){e g:aN}(k:aY P w K mg base "is_pair" 2 (aD K e))(l:Gg e)(m:aY P w K mg base "is_ring" 1 (aD K g))(o:ES g){f:dk}{i:hO}(F:bc K "has_form" "has_form" yM f i):∃fn,a9 P w K mg base aZ 3 f i ["web"] (aD K fn)/\Cj fn:=by
 refine' bT F EY ρ ?C ?B
 case C=>have nd:=EY.nd;walk_at "h"
 intro web h;refine' ck ρ ?w;have hl:=h.bI;have sz:web.length<=sizeLine:=by unfold cA;lia
 refine' eO ?a ?a2 ?a3
 case a=>walk_at "v"
 grind;refine' eO (j3<|fQ (ag (pE (enc:=pairD) (xs:=web) (fun p=>[.no,.D<|pairD p]) (bB ρ) ρ sz ?D ?G ?I) ρ) ρ) ρ ?b
 case D=>intro y j Z hd;rcases hd with rfl|⟨z,rfl⟩<;>rfl
 case G=>intro p c;have:=l p (h.nm p c)<|sg<|h.nm p c;walk_at "v"
 case I=>intro n d;rfl
 show WS _ [.D (.L<|web.map pairD),.no,.no] _;refine' ah (aG (Z2:=[.D (.L<|web.map pairD),.O (.L ((web.map (·.1)).map .str)),.no]) (cc (enc:=pairD) (xs:=web) (fun p=>[.no,.D<|.str p.1,.D<|.L<|p.2.map .str]) (fun p=>.str p.1) (bB ρ) ρ sz ?J ?L ?M) ?N<|aq ?O)
 case J=>intro y j Z hd;rcases hd with rfl|⟨z,rfl⟩<;>rfl
 case L=>intro p c;rfl
 case M=>intro p c;rfl
 case N=>rw[fm];rfl
 refine' eO (bK (aw (vN (cs:=web.map (·.1)) (fun x=>x) ρ ?d1) (gq ρ ρ)<|ne_int _ _)) ?Q ?R;grind
 case Q=>simp only[ZY,(vm _).2 h.nd,ab];simp
 refine' ah (aG (Z2:=[.D (.L<|web.map pairD),.D (.L ((web.map (·.1)).map .str)),.O (.L ((web.map (·.1)++cy).map .str))]) (aw ρ (ag (az (ae ρ ao) ρ) ρ)<|nX ?S) ?U<|aq ?V)
 case S=>simp[cA];lia
 case U=>rw[ft];rfl
 refine' ah (bH (pE (enc:=pairD) (xs:=web) (fun p=>[.no,.D<|.str p.1,.D<|.L<|p.2.map .str,.D (.L ((web.map (·.1)++cy).map .str))]) (bB ρ) ρ sz ?W ?X ?Y) ⟨_,ρ⟩)
 case W=>intro y j Z hd;rcases hd with rfl|⟨z,rfl⟩<;>rfl
 case Y=>intro p c;rfl
 intro p c;have r:=h.rg p c;have:=o p.1 p.2 (web.map (·.1)++cy) ⟨r.1,by have:=h.len c;lia,fun n d=>⟨eH.2 (r.2.2 n d).1,(r.2.2 n d).2⟩,r.2.1,sg<|h.nm p c,fun n d=>h.txt (r.2.2 n d).1,fun n d=>h.txt<|eH.1 d⟩;walk_at "v"
abbrev bD:=List<|eS×List eS
noncomputable def cO(web:bD):List (eS×Dat):=web.map fun p=>(p.1,.L<|p.2.map .str)
def bf(web:bD):Dat:=.dn<|cO web
theorem Ng{c:Type}{l:List (eS×c)}(nd:(l.map (·.1)).Nodup){p q:eS×c}(f:p∈l)(g:q∈l)(e:p.1=q.1):p=q:=by obtain⟨i,d⟩:=acS.1 f;obtain⟨j,b⟩:=acS.1 g;cases qX nd (a:=p.1) (by rw[c6,d];rfl) (by rw[c6,b,e];rfl);rw[d] at b;exact Option.some.inj b
theorem lN{web:bD}(nd:(web.map (·.1)).Nodup){p:eS×List eS}(a:p∈web):cP (cO web) p.1=ac (.L<|p.2.map .str):=by
 have e:(web.find? fun q=>am<|q.1=p.1)=ac p:=by
  cases e:web.find? fun q=>am (q.1=p.1) with
  | none=>exact absurd (Zj.1 e p a) (by simp)
  | some q=>have b:=Y7 e;have c:=aaQ e;rw[Ng nd b a (by simpa using c)]
 delta cP cO;rw[List.find?_map];show ((web.find? fun q=>am<|q.1=p.1).map _).map _=_;rw[e];rfl
theorem Hu(web:bD)(n:eS):(cP (cO web) n).isSome=am (n∈web.map (·.1)):=by delta cP cO;rw[tz];simp
theorem uA(web:bD)(n:eS)(neg:Bool):gS neg (.str n) (bf web)=ac (.D (.bl (if neg then !am (n∈web.map (·.1)) else am (n∈web.map (·.1))))):=by rw[<-Hu];rfl
theorem fy{a:Type}{l:List a}{k:Nat}{x:a}(h:l[k]?=ac x):l.take (k+1)=l.take k++[x]:=by rw[acg,h];rfl
def Fb(fn:aN):Prop:=∀web:bD,cV web->(∀p∈web,∀q∈web,q.1∈p.2->p.1∈q.2)->fn [bf web]=ac (.D<|.bl true)
theorem MN(T:Txt mg){f:dk}{o:hO}(F:bc K "ties_are_shared" "ties_are_shared" yD f o):∃fn,a9 P w K mg base aZ 1 f o ["rings"] (aD K fn)/\Fb fn:=by
 refine' bT F A8 ρ ?D ?B
 case D=>have fz:j2 "rings":=⟨trivial⟩;walk_at "h"
 intro web h hs;refine' ck ρ ?w;refine' ah<|dB (fun _ Z=>∃g a,Fr g/\Fr a/\Z=[.D (bf web),g,a]) ρ ⟨_,_,ι ρ,ι ρ,ρ⟩ ?st ?C
 case C=>rintro _ ⟨g,a,r,b,rfl⟩;exact aq<|ah<|bH ρ ⟨_,ρ⟩
 rintro k x c _ ⟨g,a,r,b,rfl⟩;unfold cO at c;rw[fm,c6] at c;obtain⟨p,ep,rfl⟩:=gf.1 c;have i:=eR ep;refine⟨[.D (bf web),.D<|.str p.1,a],by rcases r with rfl|⟨d,rfl⟩<;>rfl,?_⟩;refine ah<|dB (fun _ Z=>∃a,Fr a/\Z=[.D (bf web),.D<|.str p.1,a]) (bB<|kC ρ ρ<|lN h.nd i) ⟨_,b,ρ⟩ ?_ ?_
 ·rintro j y t _ ⟨a,b,rfl⟩;rw[c6] at t;obtain⟨n,v,rfl⟩:=gf.1 t;have z:=eR v;refine⟨[.D (bf web),.D<|.str p.1,.D<|.str n],by rcases b with rfl|⟨d,rfl⟩<;>rfl,?_⟩;by_cases l:n∈web.map (·.1)
  ·obtain⟨q,m,rfl⟩:=a8.1 l;have e:=uA web q.1 false;rw[decide_eq_true l] at e;have u:=rO (fun x c=>h.txt ((h.rg q m).2.2 x c).1) (h.txt<|ι<|a8.2 ⟨p,i,ρ⟩) true;rw[decide_eq_true (hs p i q m z)] at u;exact eO (v_and (bK<|aw ρ ρ e)<|GI ρ<|bK<|aw ρ (kC ρ ρ<|lN h.nd m) u) ρ<|aU ⟨_,τ ⟨_,ρ⟩,ρ⟩
  have e:=uA web n false;rw[decide_eq_false l] at e;exact eO (v_and (bK<|aw ρ ρ e)<|zV ρ ρ) ρ<|aU ⟨_,τ ⟨_,ρ⟩,ρ⟩
 rintro _ ⟨a,b,rfl⟩;exact aq<|aU ⟨_,_,τ ⟨_,ρ⟩,b,ρ⟩
noncomputable def dY(l:List (List eS))(k:List eS):List (List eS):=if k∈l then l else l++[k]
def dN(a:List (List eS)):List (List eS):=a.foldl dY []
noncomputable def bS(l:List (List eS)):gz:=l.map (·,.bl true)
theorem OO(l:List (List eS))(k:List eS):rK (bS l) k (.bl true)=bS (dY l k):=by
 have e:(fK (bS l) k).isSome=am (k∈l):=by dsimp only[fK,bS];rw[tz];simp
 unfold rK dY;rw[e];by_cases h:k∈l;simp_all [bS];simp_all [bS]
theorem Cc(l:List (List eS))(k:List eS):dN (l++[k])=dY (dN l) k:=by simp[dN]
theorem Bp(l:List (List eS)):(dN l).length<=l.length:=by
 have:∀(l a:List (List eS)),(l.foldl dY a).length<=a.length+l.length:=by
  intro l;induction l with
  | nil=>intro a;exact eK _
  | cons k l b =>
   intro a;have h:=b<|dY a k;have:(dY a k).length<=a.length+1:=by unfold dY;split<;>simp
   simp;show (l.foldl dY<|dY a k).length<=_;lia
 have:=this l [];simp at this;exact this
theorem Jo(l:List (List eS)):(∀k,k∈dN l ↔ k∈l)/\(dN l).Nodup:=by
 have:∀(l b:List (List eS)),b.Nodup->(∀k,k∈l.foldl dY b ↔ k∈b\/k∈l)/\(l.foldl dY b).Nodup:=by
  intro l;induction l with
  | nil=>intro b h;exact⟨fun k=>by simp,h⟩
  | cons a l f =>
   intro b h;have g:(dY b a).Nodup:=by
    delta dY;split
    ·exact h
    rename_i ha;rw[iR];exact⟨h,by simp,fun x hx y hy e=>by simp_all⟩
   obtain⟨c,d⟩:=f _ g;refine⟨fun k=>?_,d⟩;show k∈l.foldl dY (dY b a) ↔ _;rw[c k];delta dY;split;grind;grind
 obtain⟨c,d⟩:=this l [] YV;exact⟨fun k=>by rw[show dN l=l.foldl dY [] from ρ,c k];simp,d⟩
theorem RT:∀{l:List (List eS)},l.Nodup->dN l=l:=by
 have:∀(l b:List (List eS)),(b++l).Nodup->l.foldl dY b=b++l:=by
  intro l;induction l with
  | nil=>intro b h;simp
  | cons a l ih=>intro b h;have ha:a∉b:=fun z=>(iR.1 h).2.2 a z a fk ρ;simp_all [dY]
 intro l h;exact this l [] h
theorem Fz{i:Nat}{a:UF}{f:DF}{Z:DS}{l:List (List eS)}{c:Bool}{k:List eS}(h:f Z=ac (.bl true,Z))(d:a Z=ac (k,Z))(b:(Z[i]?).bind ownOf=ac (false,.bj c<|bS l))(h3:l.length<1000):qO i a f Z=ac (.next<|Z.set i<|.O<|.bj false<|bS<|dY l k):=by delta qO;simp[h];simp[b];rw[d];show ((Z[i]?).bind ownOf).bind _=_;rw[b];show (if (bS l).length<cA then _ else al)=_;rw[if_pos (by unfold bS cA;rw[ab];lia),OO];rfl
def cf(web:bD):List (List eS):=web.flatMap fun p=>(fV p.2).map fun q=>[p.1,q.1,q.2]
def uN(fn:aN):Prop:=∀web:bD,cV web->fF web->fn [bf web]=ac (.O<|.bj false<|bS<|cf web)
theorem zX{web:bD}(h:∀p∈web,p.2.length<=12):(cf web).length<=12*web.length:=by
 delta cf;induction web with
 | nil=>simp
 | cons p web a=>have h1:=a fun q b=>h q<|f6 _ b;have h2:=h p fk;simp only[abw,eu,ab,E8,gW];lia
theorem rq{web:bD}(nd:(web.map (·.1)).Nodup):cf web=(corners (web.map (·.1))<|dI web).map fun c=>[c.1,c.2.1,c.2.2]:=by delta cf corners;rw[List.map_flatMap,List.flatMap_map];refine congrArg _ (zI fun p a=>?_);simp only[eF nd a,fm];rfl
theorem Jh{web:bD}(h:cV web)(hw:fF web):(cf web).Nodup:=by rw[rq h.nd];refine gd.2<|List.Pairwise.imp (fun {a b} n e=>n ?_)<|lP hw.C;lia
theorem Qs{i:Nat}{Z:DS}{ns:List eS}(h:Z[i]?=ac (.D<|.L<|ns.map .str))(hz:ns.length<=100):u4 (dQ (cI i)<|dQ (fu<|bW fq (fu<|iS (cI i) (iT<|fC<|.int 1) pI)<|fu<|iS (cI i) pI<|iT<|fC<|.int 1) gg) Z=ac ((fV ns).map fun q=>.U [.str q.1,.str q.2],Z):=by
 have a:cI i Z=ac (.L<|ns.map .str,Z):=by unfold cI;rw[h]
 have b:=Jm ns 1;have c:=Q6 ns 1;delta u4;rw[ae a (ae (ag (aw (ag (iV a ρ b) ρ) (ag (mH a ρ c) ρ)<|nX (by unfold cA;simp;omega)) ρ) ao)];show ac (pj (ns.map .str)<|(ns.drop 1).map .str++(ns.take 1).map .str,Z)=_;delta pj fV;rw[<-ft,List.zip_map,fm];rfl
theorem KQ(T:Txt mg)(hz:mg "zip"=al){f:dk}{t:hO}(F:bc K "corners_of" "corners_of" wK f t):∃fn,a9 P w K mg base aZ 1 f t ["rings"] (aD K fn)/\uN fn:=by
 refine' bT F Ga ρ ?I ?B
 case I=>have fz:j2 "rings":=⟨trivial⟩;have tp:mR "corners":=⟨trivial⟩;walk_at "h"
 intro web h hw;have hl:∀p∈web,p.2.length<=12:=fun p m=>h.len m;have bI:=h.bI;refine' ck ρ ?w;refine' ah<|aG ρ ρ<|aq ?_;refine' ah<|dB (fun k Z=>∃o l c e,Fr o/\Fr l/\Fr c/\Fr e/\Z=[.D (bf web),.O<|.bj false<|bS<|dN<|cf<|web.take k,o,l,c,e]) ρ ⟨_,_,_,_,ι ρ,ι ρ,ι ρ,ι ρ,ρ⟩ ?st ?C
 case C=>rintro _ ⟨o,l,c,e,u,v,g,i,rfl⟩;simp only[ab,show (cO web).length=web.length from ab ..,nk,RT<|Jh h hw];exact aq<|ah<|bH ρ ⟨_,ρ⟩
 rintro k x r _ ⟨o,l,c,e,u,v,g,i,rfl⟩;unfold cO at r;rw[fm,c6] at r;obtain⟨p,ep,rfl⟩:=gf.1 r;have m:=eR ep;have hlp:=hl p m;have hk:=(cm.1 ep).1;have hz:=zX (web:=web.take k) fun q J=>hl q<|YW J;rw[ib] at hz;refine⟨[.D (bf web),.O<|.bj false<|bS<|dN<|cf<|web.take k,.D<|.str p.1,l,c,e],by rcases u with rfl|⟨d,rfl⟩<;>rfl,?_⟩;refine' ah<|aG (Z2:=[.D (bf web),.O<|.bj false<|bS<|dN<|cf<|web.take k,.D<|.str p.1,.D<|.L<|p.2.map .str,c,e]) (v_res<|kC ρ ρ<|lN h.nd m) ?a<|aq ?b
 case a=>rcases v with rfl|⟨d,rfl⟩<;>rfl
 refine ah<|dB (fun j Z=>∃c e,Fr c/\Fr e/\Z=[.D (bf web),.O<|.bj false<|bS<|dN (cf (web.take k)++((fV p.2).take j).map fun q=>[p.1,q.1,q.2]),.D<|.str p.1,.D<|.L<|p.2.map .str,c,e]) (Qs ρ (by lia)) ⟨_,_,g,i,by simp only[Z8,aaK,px]⟩ ?_ ?_
 ·rintro j y z _ ⟨c,e,g,i,rfl⟩;rw[c6] at z;obtain⟨q,eq,rfl⟩:=gf.1 z;generalize D:dN (cf (web.take k)++((fV p.2).take j).map fun q=>[p.1,q.1,q.2])=L;have G:L.length<1000:=by rw[<-D];refine He (Bp _) ?_;simp only[eu,ab,ib,E8];lia
  refine⟨[.D (bf web),.O<|.bj false<|bS L,.D<|.str p.1,.D<|.L<|p.2.map .str,.D<|.str q.1,.D<|.str q.2],by rcases g with rfl|⟨d,rfl⟩<;>rcases i with rfl|⟨d,rfl⟩<;>rfl,?_⟩;refine ah ⟨_,Fz (k:=[p.1,q.1,q.2]) ρ ρ ρ G,aq<|aU ⟨.D<|.str q.1,.D<|.str q.2,τ ⟨_,ρ⟩,τ ⟨_,ρ⟩,?_⟩⟩;rw[fy eq,ft,<-qt];show _=[_,Slot.O<|.bj false<|bS<|dN<|_++[_],_,_,_,_];rw[Cc,D];rfl
 rintro _ ⟨c,e,g,i,rfl⟩;refine aq<|aU ⟨.D<|.str p.1,.D<|.L<|p.2.map .str,c,e,τ ⟨_,ρ⟩,τ ⟨_,ρ⟩,g,i,?_⟩;rw[fy ep,show cf (web.take k++[p])=cf (web.take k)++(fV p.2).map fun q=>[p.1,q.1,q.2] from by unfold cf;simp,ab,nk]
theorem MJ(l:List (List eS))(k:List eS):(fK (bS l) k).isSome=am (k∈l):=by delta fK bS;rw[tz];simp
theorem wC{neg b:Bool}{i:Nat}{a:UF}{Z:DS}{k:List eS}{l:List (List eS)}(h:a Z=ac (k,Z))(c:(Z[i]?).bind jC=ac (.bj b<|bS l)):mL neg i a Z=ac (.D<|.bl (if neg then !am (k∈l) else am (k∈l)),Z):=by delta mL;rw[h];show ((Z[i]?).bind jC).bind _=_;rw[c,<-MJ];rfl
theorem pV(n:eS):dR n=bd ↔ n∈cy:=by simp[dR,cy,aK,or_assoc]
theorem vY{k:Nat}(h:k<4):aK k∈cy:=by grind [cy]
theorem v9{n:eS}(h:n∈cy):∃k,k<4/\n=aK k:=by
 simp[cy] at h;rcases h with rfl|rfl|rfl|rfl
 ·exact⟨0,by decide,rfl⟩
 ·exact⟨1,by decide,rfl⟩
 ·exact⟨2,by decide,rfl⟩
 exact⟨3,by decide,rfl⟩
def Fx(fn:aN):Prop:=∀(cs:List (List eS)) (x n m:eS),aT x->aT n->aT m->(∀k,k<4->n=aK k->m∈cy->m=aK ((k+1)%4))->(n∉cy->[n,m,x]∈cs)->(m∉cy->[m,x,n]∈cs)->fn [.U [.str x,.str n,.str m],.bj true<|bS cs]=ac (.D<|.bl true)
theorem Ky(T:Txt mg)(w1:fg K mg "WALLS" o9){c:aN}(p:aY P w K mg base "follower" 1 (aD K c))(q:yp c){f:dk}{g:hO}(F:bc K "corner_closes" "corner_closes" y6 f g):∃fn,a9 P w K mg base aZ 2 f g ["corner","corners"] (aD K fn)/\Fx fn:=by
 refine' bT F Gn ρ ?C ?B
 case C=>walk_at "h"
 intro cs x n m tx i d r t u;refine' ck ρ ?w;refine' ah<|aG ρ ρ<|aq<|ah<|aG ρ ρ<|aq<|ah<|aG ρ ρ<|aq ?_;refine ah (dm (oE (bK<|aw ρ ρ<|pf i.ok false)<|bK<|aw ρ ρ<|pf d.ok false) (fun h=>?_) fun h=>aU<|aq ?_)
 ·simp[pV] at h;obtain⟨k,j,rfl⟩:=v9 h.1;have e:=q k j;refine ah (bH (aw ρ (ag (az (ae ρ ao) e) ρ)<|yU d.ok (w8 _<|vY<|YE _ (by decide)).ok)<|fX ?_);exact decide_eq_true<|r k j ρ h.2
 refine' eO (oE (bK<|aw ρ ρ<|pf i.ok true)<|bK<|wC ρ ρ) ?a ?b
 case a =>
  by_cases l:n∈cy
  ·rw[(pV n).2 l];rfl
  rw[decide_eq_true (t l)];simp
 refine ah<|bH (v_res<|EA (ag (aw ρ ρ<|pf d.ok false) ρ)<|ag (wC ρ ρ) ρ)<|fX ?_;by_cases o:m∈cy
 ·rw[(pV m).2 o];rfl
 rw[decide_eq_true (u o)];simp
def B5(fn:aN):Prop:=∀web:bD,cV web->fF web->fn [bf web]=ac (.D<|.bl true)
theorem qP{web:bD}(h:cV web){x n m:eS}:[x,n,m]∈cf web ↔ x∈web.map (·.1)/\bL (dI web x) n m:=by
 rw[rq h.nd,<-fL,a8];constructor
 ·rintro⟨⟨a,b,c⟩,d,e⟩;simp_all
 exact fun d=>⟨_,d,ρ⟩
theorem OK(T:Txt mg){r t:aN}(D:aY P w K mg base "corners_of" 1 (aD K r))(G:uN r)(I:aY P w K mg base "corner_closes" 2 (aD K t))(J:Fx t){f:dk}{v:hO}(F:bc K "corners_close" "corners_close" zF f v):∃fn,a9 P w K mg base aZ 3 f v ["rings"] (aD K fn)/\B5 fn:=by
 refine' bT F Ff ρ ?L ?B
 case L=>have nd:=Ff.nd;have tp:mR "corners":=⟨trivial⟩;walk_at "h"
 intro web h hw;have M:=G web h hw;have hl:=zX fun p N=>h.len N;have bI:=h.bI;refine' ck ρ ?w;refine' ah<|aG (az (ae ρ ao) M) ρ<|aq ?_;refine' ah<|bH (pE (xs:=cf web) (fun k=>[.no,.D<|.U<|k.map .str,.D<|.bj true<|bS<|cf web]) (Z1:=[.D (bf web),.D<|.bj true<|bS<|cf web]) ?a ρ ?b ?c ?d ?e) ⟨_,ρ⟩
 case a=>show ac (jE<|bS<|cf web,_)=_;dsimp only[jE,bS];rw[fm];rfl
 case b=>unfold cA;lia
 case c=>intro y o Z hd;rcases hd with rfl|⟨z,rfl⟩<;>rfl
 case e=>intro y o;rfl
 intro y o;have u:=o;rw[rq h.nd] at u;obtain⟨⟨x,n,m⟩,_,rfl⟩:=a8.1 u;obtain⟨g,i⟩:=(qP h).1 o;have tx:∀z∈dI web x,aT z:=fun z hz=>h.txt<|hw.C.mem x g z hz
 have:=J (cf web) x n m (h.txt<|ι g) (tx n i.mem.1) (tx m i.mem.2) (fun k O Q l=>by
  obtain⟨j,R,rfl⟩:=v9 l;rw[hw.ww x g k j O R (by rw[<-Q];exact i)]) (fun q=>by
  have q:=(hw.C.mem x g n i.mem.1).resolve_right q;exact (qP h).2 ⟨q,hw.C.kd x g n m i q⟩) (fun l=>by
  have l:=(hw.C.mem x g m i.mem.2).resolve_right l;exact (qP h).2 ⟨l,hw.C.kM x g n m i l⟩)
 exact ag (az (ae ρ<|ae ρ ao) this) ρ
theorem OC{ns:List eS}(nd:ns.Nodup){p wl:eS}(s:bL ns p wl):∃j,ns.findIdx? (fun x=>am<|x=wl)=ac j/\cC (.L<|ns.map .str) (.int<|(j:Int)-1)=ac (.str p):=by
 obtain⟨i,a,b⟩:=s;have hi:=(cm.1 a).1;obtain⟨c,d⟩:=cm.1 b;refine⟨(i+1)%ns.length,Zn.2 ⟨c,by simpa using d,fun k hk=>?_⟩,?_⟩
 ·intro z;have:=qX nd (i:=k) (cm.2 ⟨by lia,by simpa using z⟩) b;lia
 simp only[k8];unfold fI;have:gv (ns.map Dat.str).length (((i+1)%ns.length:Nat)-1:Int)=ac i:=by
  rw[ab];unfold gv;by_cases hl:i+1<ns.length;simp_all [Yt];have:i+1=ns.length:=by lia
  rw[this,aaO,if_neg (by omega),if_pos (by omega)]
  congr 1;omega
 simp only[this,md,c6,a];rfl
theorem GB{c:BF}{fb:SF}{Z Z1:DS}{Q:Out->Prop}{n:Nat}(h:c Z=ac (false,Z1))(q:Q (.next Z1)):WS (gG c fb<|n+1) Z Q:=by refine⟨_,?_,q⟩;show (c Z).bind _=_;rw[h];rfl
def Fj (h:c Z=ac (true,Z1))(hb:fb Z1=ac (.next Z2))(q:WS (gG c fb n) Z2 Q):WS (gG c fb<|n+1) Z Q:=by obtain⟨o,e,q⟩:=q;refine⟨o,?_,q⟩;show (c Z).bind _=_;simp_all
theorem Pg (D:List eS->eS->Slot->DS)(stop:∀d a t,a∉rooms->c (D d a t)=ac (false,D d a t))(go:∀d a p t,Fr t->a∈rooms->bL (ring a) p wl->d.length<500->c (D d a t)=ac (true,D d a t)/\∃t',Fr t'/\fb (D d a t)=ac (.next<|D (d++[a]) p t'))(r:Row rooms ring wl a l) :
  ∀(d:List eS) (t:Slot) (n:Nat),Fr t->l.length<n->d.length+l.length<500->(∀e t',Q<|.next<|D (d++l) e t')->WS (gG c fb n) (D d a t) Q:=by
 induction r with
 | @stop b h=>intro d t n g f _ q;obtain⟨n,rfl⟩:∃m,n=m+1:=⟨n-1,by simp at f;omega⟩;refine GB (stop d _ t h) ?_;have:=q b t;rw[px] at this;exact this
 | @go a p l h s _ j=>intro d t n g f hl q;simp at f hl;obtain⟨n,rfl⟩:∃m,n=m+1:=⟨n-1,by omega⟩;obtain⟨k,t',o,u⟩:=go d a p t g h s (by omega);refine Fj k u (j _ _ _ o (by lia) (by simp only[eu,ZA];omega) λe i=>?_);rw[qt];exact q e i
def AK(fn:aN):Prop:=∀(web:bD) (wl a:eS) (l:List eS),cV web->aT wl->Row (web.map (·.1)) (dI web) wl a l->l.length<100->fn [bf web,.str wl,.str a]=ac (.O<|.L<|l.map .str)
def Uh(T:Txt mg)(F:bc K "row_along" "row_along" zk f i):∃fn,a9 P w K mg base aZ 1 f i ["rings","wall","first"] (aD K fn)/\AK fn:=by
 refine' bT F ED ρ ?B ?C
 case B=>have fz:j2 "rings":=⟨trivial⟩;walk_at "h"
 intro web wl a l h k r hl;refine' ck ρ ?w;refine' ah<|aG (cR ao<|pe _) ρ<|aq<|ah<|aG ρ ρ<|aq ?_;refine' ah<|Pg (λc b t=>[.D (bf web),.D<|.str wl,.D<|.str a,.O<|.L<|c.map .str,.D<|.str b,t]) ?stop ?go r [] .no qZ (ι ρ) ?n ?m ?q
 case n=>unfold qZ;omega
 case m=>simp only[YH];omega
 case q=>exact λa' t'=>aq<|ah<|bH ρ ⟨_,ρ⟩
 case stop=>intro c b t B;have e:=uA web b false;rw[decide_eq_false B] at e;exact bK<|aw ρ ρ e
 intro c b p t u B o ha;have e:=uA web b false;rw[decide_eq_true B] at e;obtain⟨x,g,rfl⟩:=a8.1 B;rw[eF h.nd g] at o;have tr:∀z∈x.2,aT z:=λz hz=>h.txt ((h.rg x g).2.2 z hz).1;obtain⟨j,v,y⟩:=OC (h.rg x g).2.1 o;refine⟨bK<|aw ρ ρ e,.D<|.L<|x.2.map .str,τ ⟨_,ρ⟩,?_⟩;refine vv (tj<|ly ρ ρ (by unfold cA;rw[ab];omega))<|uf<|vv (rT (Z2:=[.D (bf web),.D<|.str wl,.D<|.str a,.O<|.L<|(c++[x.1]).map .str,.D<|.str x.1,.D<|.L<|x.2.map .str]) (v_res<|kC ρ ρ<|lN h.nd g) ?_)<|uf<|vv (rT (v_res<|aI ρ (ag (aw (T4 ρ (ae ρ ao) (n8 tr) (lX k.ok)<|(PM tr k).trans v) ρ<|jX ρ) ρ) ρ y) ρ)<|uf ρ;rw[ft];rcases u with rfl|⟨d,rfl⟩<;>rfl
def Hb{web:bD}(nd:(web.map (·.1)).Nodup)(keep:eS×List eS->Bool):((web.filter keep).map (·.1)).Nodup:=l4 (List.Sublist.map _ pB) nd
def yc (p:l.Perm a):aB l=aB a:=qU ((gk _ _).trans p)<|EG l
theorem qK (h:l.length<64):jv [.L (l.map .str)]=ac (.O<|.L<|(aB l).map .str):=by
 show (match dF (l.map .str) with
  | some a=>if a.length<64 then ac (Res.O<|.L<|(aB a).map .str) else al
  | none=>ju [.L (l.map .str)])=_
 have:=mi (λx:eS=>x) l;rw[ZY] at this;rw[this];exact if_pos h
theorem v8:∀l:List eS,eI (l.map Dat.str) (l.map Dat.str)=bd
 | []=>rfl
 | x::l=>by show (bV (.str x) (.str x)&&eI (l.map Dat.str) (l.map Dat.str))=bd;rw[v8 l,jB];simp
def Cg(fn:aN):Prop:=∀(web:bD) (k:Nat),k<4->cV web->fF web->fn [bf web,.str<|aK k]=ac (.D<|.bl true)
def Ji(T:Txt mg)(G:aY P w K mg base "corners_of" 1 (aD K d))(I:uN d)(J:aY P w K mg base "follower" 1 (aD K e))(L:yp e)(M:aY P w K mg base "row_along" 1 (aD K g))(N:AK g)(F:bc K "wall_has_row" "wall_has_row" yz f q):∃fn,a9 P w K mg base aZ 2 f q ["rings","wall"] (aD K fn)/\Cg fn:=by
 refine' bT F GN ρ ?B ?C
 case B=>have nd:=GN.nd;have fz:j2 "rings":=⟨trivial⟩;walk_at "h"
 intro web k i h hw;obtain⟨x,j,r,l,O,t,m⟩:=hw.row k i;have bI:=h.bI;have sz:web.length<=sizeLine:=by unfold cA;lia
 have u:=w8 _<|vY i;have Q:=L k i;have hll:l.length<=8:=nE (vo t λy o=>((m y).1 o).1) (by rw[ab];lia);have v:(cO web).map (λk=>Dat.str k.1)=web.map λp=>Dat.str p.1:=by unfold cO;rw[fm];rfl
 have R:(web.filter λp=>am<|[p.1,aK k,aK<|(k+1)%4]∈cf web).map (·.1)=[x]:=by
  refine List.perm_singleton.1 ((lq (Hb h.nd _) (by simp)).2 λa=>?_);rw[a8,kA];constructor
  ·rintro⟨p,b,rfl⟩;rw[hB,decide_eq_true_eq,qP h] at b;exact (r p.1 b.2.1).1 b.2.2
  rintro rfl;obtain⟨p,b,rfl⟩:=a8.1 j;exact⟨p,hB.2 ⟨b,decide_eq_true<|(qP h).2 ⟨j,(r _ j).2 ρ⟩⟩,ρ⟩
 have c:l.Perm ((web.filter λp=>am<|aK k∈p.2).map (·.1)):=by
  refine (lq t<|Hb h.nd _).2 λa=>?_;rw[m];constructor
  ·rintro⟨S,B⟩;rw[a8];obtain⟨p,b,rfl⟩:=a8.1 S;rw[eF h.nd b] at B;exact⟨p,hB.2 ⟨b,decide_eq_true B⟩,ρ⟩
  intro B;obtain⟨p,b,rfl⟩:=a8.1 B;rw[hB,decide_eq_true_eq] at b;exact⟨a8.2 ⟨p,b.1,ρ⟩,by rw[eF h.nd b.1];exact b.2⟩
 refine' ck ρ ?w;show WS _ [.D (bf web),.D<|.str<|aK k,.no,.no,.no] _;refine' ah<|aG (az (ae ρ ao)<|I web h hw) ρ<|aq ?_;show WS _ [.D (bf web),.D<|.str<|aK k,.O<|.bj false<|bS<|cf web,.no,.no] _;refine' ah<|aG (Z2:=[.D (bf web),.D<|.str<|aK k,.D<|.bj false<|bS<|cf web,.O<|.L<|[x].map .str,.no]) (rG (enc:=λp:eS×List eS=>.str p.1) (xs:=web) (λp=>[.no,.D<|.str p.1,.D<|.bj false<|bS<|cf web,.D<|.str<|aK k]) (λp=>am<|[p.1,aK k,aK<|(k+1)%4]∈cf web) (λp=>.str p.1) ?U ρ sz ?V ?W ?X ?Y) ?a6<|aq ?a7
 case U=>show ac ((cO web).map λk=>Dat.str k.1,_)=_;rw[v]
 case V=>intro y o Z hd;rcases hd with rfl|⟨z,rfl⟩<;>rfl
 case W=>intro p b;refine bK<|wC (k:=[p.1,aK k,aK<|(k+1)%4]) ?_ ρ;unfold zP;rw[ae ρ (ae ρ<|ae (ag (az (ae ρ ao) Q) ρ) ao)];rfl
 case X=>intro p b _;rfl
 case Y=>intro p b;rfl
 case a6=>rw[<-R,fm];rfl
 refine' eO (bK<|aw (gq ρ ρ) ρ<|ne_int _ _) ρ ?zz;have tr:∀p∈web,∀z∈p.2,aT z:=λp b z hz=>h.txt ((h.rg p b).2.2 z hz).1;generalize hT:(web.filter λp=>am<|aK k∈p.2).map (·.1)=td at c;have htl:=c.length_eq;refine' ah<|aG (Z2:=[.D (bf web),.D<|.str<|aK k,.D<|.bj false<|bS<|cf web,.O<|.L<|[x].map .str,.O<|.L<|td.map .str]) (rG (enc:=λp:eS×List eS=>.str p.1) (xs:=web) (λp=>[.no,.D<|.str p.1,.D<|bf web,.D<|.str<|aK k]) (λp=>am<|aK k∈p.2) (λp=>.str p.1) ?b1 ρ sz ?b2 ?b3 ?b4 ?b5) ?b6<|aq ?b7
 case b1=>show ac ((cO web).map λk=>Dat.str k.1,_)=_;rw[v]
 case b2=>intro y o Z hd;rcases hd with rfl|⟨z,rfl⟩<;>rfl
 case b3=>intro p b;exact bK<|aw ρ (kC ρ ρ<|lN h.nd b)<|rO (tr p b) u false
 case b4=>intro p b _;rfl
 case b5=>intro p b;rfl
 case b6=>rw[<-hT,fm];rfl
 have tl:∀z∈aB l,aT z:=λz hz=>h.txt<|ι ((m z).1 ((gk _ _).mem_iff.1 hz)).1;have D:=n8 tl;refine ah<|bH (aw (ag (az (ae (ag (az (ae ρ<|ae ρ<|ae (aI ρ ρ ρ ρ) ao)<|N web (aK k) x l h u O (by omega)) ρ) ao)<|qK (by omega)) ρ) (ag (az (ae ρ ao)<|qK (by omega)) ρ)<|v_eq D (by rw[<-yc c];exact D))<|fX ?_;rw[<-yc c];show bV (.L _) (.L _)=bd;rw[kG,v8]
def Eo(fn:aN):Prop:=∀ring names:List eS,(∀n∈ring,aT n)->(∀n∈names,aT n)->ring.length<=100->fn [.L (ring.map .str),.L<|names.map .str]=ac (.D<|.bl (ring.any λy=>am<|y∈names))
def JN(T:Txt mg)(h:mg "any"=al)(F:bc K "has_one_of" "has_one_of" yF f e):∃fn,a9 P w K mg base aZ 1 f e ["ring","names"] (aD K fn)/\Eo fn:=by
 refine' bT F Ez ρ ?C ?B
 case C=>have nd:=Ez.nd;walk_at "h"
 intro ring names i j hl;refine' ck ρ ?w;refine' ah<|bH (az (ae (ag (cc (λn=>[.no,.D<|.str n,.D<|.L<|names.map .str]) (λn=>.bl<|am<|n∈names) (bB ρ) ρ ?a ?b ?c ?d) ρ) ao)<|Gk (λn=>am<|n∈names) ring) ⟨_,ρ⟩
 case a=>unfold cA;lia
 case b=>intro y hy Z hd;rcases hd with rfl|⟨z,rfl⟩<;>rfl
 case c=>intro n g;exact ag (aw ρ ρ<|rO j (i n g) false) ρ
 intro n g;rfl
def LF(n:Nat):(dJ 0 (n:Int)).length=n:=by simp[dJ]
abbrev kQ(web:bD):Nat->List Str:=reach (web.map (·.1)) cy<|dI web
def Q2 (nd:(web.map (·.1)).Nodup)(k:Nat):kQ web (k+1)=cy++(web.filter λp=>p.2.any λy=>am<|y∈kQ web k).map (·.1):=by
 show cy++(web.map (·.1)).filter _=_;rw[aef];congr 2;refine aal λp a=>?_
 show (dI web p.1).any _=_;rw[eF nd a]
def EX(fn:aN):Prop:=∀web:bD,cV web->fF web->fn [bf web]=ac (.D<|.bl true)
theorem ND(T:Txt mg)(w1:fg K mg "WALLS" o9)(m:aY P w K mg base "has_one_of" 1 (aD K g))(o:Eo g)(F:bc K "all_reached" "all_reached" wG f i):∃fn,a9 P w K mg base aZ 2 f i ["rings"] (aD K fn)/\EX fn:=by
 refine' bT F Dc ρ ?D ?B
 case D=>have nd:=Dc.nd;have fz:j2 "rings":=⟨trivial⟩;walk_at "h"
 intro web h hw;have bI:=h.bI;have sz:web.length<=sizeLine:=by unfold cA;lia
 have j:(cO web).map (λk=>Dat.str k.1)=web.map λp=>Dat.str p.1:=by unfold cO;rw[fm];rfl
 have q:(cO web).length=web.length:=ab ..;have tr:∀p∈web,∀z∈p.2,aT z:=λp a z hz=>h.txt ((h.rg p a).2.2 z hz).1
 have b:∀k,∀z∈kQ web k,aT z:=λk z hz=>h.txt ((λh=>by
   cases k with
   | zero=>exact τ h
   | succ k =>
    rcases eH.1 h with h|h
    ·exact τ h
    exact ι (hB.1 h).1) hz)
 refine' ck ρ ?w;refine' ah<|aG ρ ρ<|aq ?_;refine' ah<|dB (λk Z=>∃c,Fr c/\Z=[.D (bf web),.O<|.L<|(kQ web k).map .str,c]) (u5 (ae (gq ρ<|congrArg ac q) ao) ?r) ⟨_,ι ρ,ρ⟩ ?st ?C
 case r=>lia
 case st =>
  rintro k x t _ ⟨c,l,rfl⟩;have b:=b k;rw[Q2 h.nd];generalize kQ web k=R at *;obtain⟨_,rfl⟩:=tM t;refine⟨[.D (bf web),.O<|.L<|R.map .str,.D<|.int k],by rcases l with rfl|⟨d,rfl⟩<;>rfl,?_⟩;refine' ah<|aG (aw (ag (az (ae ρ ao) ρ) ρ) (ag (rG (λp=>[.no,.D<|.str p.1,.D<|.L<|R.map .str,.D<|bf web]) (λp=>p.2.any λy=>am<|y∈R) (λp=>.str p.1) ?G ρ sz ?I ?J ?L ?M) ρ)<|nX ?N) ?O<|aq<|aU ⟨_,τ ⟨_,ρ⟩,ρ⟩
  case G=>show ac ((cO web).map λk=>Dat.str k.1,_)=_;rw[j]
  case I=>intro y u Z hd;rcases hd with rfl|⟨z,rfl⟩<;>rfl
  case J=>intro p a;have:=h.len a;exact fQ (ag (az (ae (kC ρ ρ<|lN h.nd a)<|ae ρ ao)<|o p.2 R (tr p a) b (by lia)) ρ) ρ
  case L=>intro p a _;rfl
  case M=>intro p a;rfl
  case N=>have:=pl (λp:eS×List eS=>p.2.any λy=>am<|y∈R) web;rw[ab];show 4+_<=cA;delta cA;lia
  rw[ft,fm];rfl
 rintro _ ⟨c,l,rfl⟩;rw[LF];refine' aq<|ah<|bH (pE (λp=>[.no,.D<|.str p.1,.D<|.L<|(kQ web web.length).map .str]) ?Q ρ sz ?S ?U ?V) ⟨_,ρ⟩
 case Q=>show ac ((cO web).map λk=>Dat.str k.1,_)=_;rw[j]
 case S=>intro y u Z hd;rcases hd with rfl|⟨z,rfl⟩<;>rfl
 case V=>intro p a;rfl
 intro p a;have:p.1∈kQ web web.length:=by have:=hw.all p.1<|a8.2 ⟨p,a,ρ⟩;rw[ab] at this;exact this
 have e:=rO (b web.length) (h.txt<|ι<|a8.2 ⟨p,a,ρ⟩) false;rw[decide_eq_true this] at e;exact ag (aw ρ ρ e) ρ
def iP(x n:eS):Bool:=dR n||jk x n
def kK(web:bD):Nat:=aF (λp=>p.2.countP<|iP p.1) web
def IJ(a b):rX (.str a) (.str b)=ac (.D<|.bl<|jk a b):=by show ac (Res.D<|.bl<|am<|a.cps.toList<b.cps.toList)=_;simp[jk,cM]
def Cz(fn:aN):Prop:=∀web:bD,cV web->∃r,fn [bf web]=ac r/\∃ds,r=.O (.L ds)/\ds.length=kK web
theorem OJ(T:Txt mg)(w1:fg K mg "WALLS" o9)(F:bc K "ties_of" "ties_of" Ak f q):∃fn,a9 P w K mg base aZ 1 f q ["rings"] (aD K fn)/\Cz fn:=by
 refine' bT F Fv ρ ?C ?B
 case C=>have fz:j2 "rings":=⟨trivial⟩;walk_at "h"
 intro web h;have bI:=h.bI;have tr:∀p∈web,∀z∈p.2,aT z:=λp e z hz=>h.txt ((h.rg p e).2.2 z hz).1;have u:∀k,k<=web.length->kK (web.take k)<=12*k:=by
  intro k;induction k with
  | zero=>intro _;exact eK _
  | succ k v=>intro G;obtain⟨p,ep⟩:∃p,web[k]?=ac p:=⟨web[k],bt (by lia)⟩;have h2:=h.len<|eR ep;have h3:=aaV (p:=iP p.1) (l:=p.2);unfold kK at *;simp only[fy ep,sN];show _+(p.2.countP (iP p.1)+0)<=_;lia
 refine' xJ ρ ?w;refine' ah<|aG (cR ao<|pe _) ρ<|aq ?_;refine' ah<|dB (λk Z=>∃ds i a,Fr i/\Fr a/\ds.length=kK (web.take k)/\Z=[.D (bf web),.O<|.L ds,i,a]) ρ ⟨[],_,_,ι ρ,ι ρ,ρ,ρ⟩ ?st ?D
 case D=>rintro _ ⟨ds,i,a,r,c,hd,rfl⟩;rw[ab,show (cO web).length=web.length from ab ..,nk] at hd;exact aq<|ah<|bH ρ ⟨_,_,ρ,ds,ρ,hd⟩
 rintro k x m _ ⟨ds,i,a,r,c,hd,rfl⟩;unfold cO at m;rw[fm,c6] at m;obtain⟨p,ep,rfl⟩:=gf.1 m;have e:=eR ep;have G:=(cm.1 ep).1;have hlp:=h.len e;have C:=u k (by lia);refine⟨[.D (bf web),.O<|.L ds,.D<|.str p.1,a],by rcases r with rfl|⟨d,rfl⟩<;>rfl,?_⟩;refine ah<|dB (λj Z=>∃b a,Fr a/\b.length=kK (web.take k)+(p.2.take j).countP (iP p.1)/\Z=[.D (bf web),.O<|.L b,.D<|.str p.1,a]) (bB<|kC ρ ρ<|lN h.nd e) ⟨ds,a,c,by rw[hd];simp,rfl⟩ ?_ ?_
 ·rintro j y t _ ⟨b,a,c,g,rfl⟩;rw[c6] at t;obtain⟨n,o,rfl⟩:=gf.1 t;have I:=eR o;have J:=aaV (p:=iP p.1) (l:=p.2.take j);simp at J;refine⟨[.D (bf web),.O<|.L b,.D<|.str p.1,.D<|.str n],by rcases c with rfl|⟨d,rfl⟩<;>rfl,?_⟩;refine ah (dm (qC (bK<|aw ρ ρ<|pf (tr p e n I).ok false)<|bK<|aw ρ ρ<|IJ _ _) (λz=>?_) λz=>aU<|aq<|aU ⟨b,_,τ ⟨_,ρ⟩,?_,ρ⟩)
  ·refine ah ⟨_,tj<|ly ρ (ae (eV (ae ρ<|ae ρ ao) (by simp[cA])) ao) (by unfold cA;lia),aq<|aU<|aq<|aU ⟨b++[.U [.str p.1,.str n]],.D<|.str n,τ ⟨_,ρ⟩,?_,ρ⟩⟩;rw[fy o,pz,eu,g,acU,if_pos (show iP p.1 n=bd from z)];simp;lia
  rw[fy o,pz,acU,if_neg (by rw[show iP p.1 n=bi from z];simp)];exact g
 rintro _ ⟨b,a,c,g,rfl⟩;rw[ab,nk] at g;refine aq<|aU ⟨b,.D<|.str p.1,a,τ ⟨_,ρ⟩,c,?_,ρ⟩;simp only[g,fy ep];delta kK;simp[sN];rfl
def AX(fn:aN):Prop:=∀web:bD,cV web->fF web->fn [bf web]=ac (.O<|.bj false<|bS<|dN<|(cf web).map aB)
def HS(T:Txt mg)(o:aY P w K mg base "corners_of" 1 (aD K e))(q:uN e)(F:bc K "threes_of" "threes_of" yJ f g):∃fn,a9 P w K mg base aZ 2 f g ["rings"] (aD K fn)/\AX fn:=by
 refine' bT F AS ρ ?D ?B
 case D=>have tp:mR "threes":=⟨trivial⟩;have tp2:mR "corners_of":=⟨trivial⟩;walk_at "h"
 intro web h hw;have bI:=h.bI;have hl:=zX λp r=>h.len r;refine' ck ρ ?w;refine' ah<|aG ρ ρ<|aq ?_;refine' ah<|dB (λk Z=>∃b,Fr b/\Z=[.D (bf web),.O<|.bj false<|bS<|dN<|((cf web).take k).map aB,b]) ?a ⟨_,ι ρ,ρ⟩ ?st ?C
 case a=>unfold sE;rw[az (ae ρ ao) (q web h hw)];show ac (jE<|bS<|cf web,_)=_;dsimp only[jE,bS];rw[fm];rfl
 case C=>rintro _ ⟨b,i,rfl⟩;rw[ab,nk];exact aq<|ah<|bH ρ ⟨_,ρ⟩
 rintro k x j _ ⟨b,i,rfl⟩;rw[c6] at j;obtain⟨c,l,rfl⟩:=gf.1 j;rw[fy l,ft];show ∃Z1,_/\WS _ Z1 (vW (λZ=>∃b,Fr b/\Z=[.D (bf web),.O<|.bj false<|bS<|dN<|((cf web).take k).map aB++[aB c],b]) _);rw[Cc];have hc3:c.length=3:=by have:=eR l;rw[rq h.nd] at this;obtain⟨z,_,rfl⟩:=a8.1 this;rfl
 generalize t:dN (((cf web).take k).map aB)=L;have m:L.length<1000:=by rw[<-t];apply He<|Bp _;rw[ab,ib];lia
 refine⟨[.D (bf web),.O<|.bj false<|bS L,.D<|.U<|c.map .str],by rcases i with rfl|⟨d,rfl⟩<;>rfl,?_⟩;refine ah ⟨_,Fz ρ ?_ ρ m,aq<|aU ⟨.D<|.U<|c.map .str,τ ⟨_,ρ⟩,ρ⟩⟩;have u:jv [.U (c.map .str)]=ac (.O<|.L<|(aB c).map .str):=by show (dF<|c.map .str).bind _=_;have:=mi (λx:eS=>x) c;simp_all
 unfold xp;rw[ae (ag (az (ae ρ ao) u) ρ) ao];show (dF<|(aB c).map .str).map _=_;have:=mi (λx:eS=>x)<|aB c;simp_all
def JQ (a:ds.length=m)(h:WS s (gV n ds) λo=>∃Z,o=.next Z):iK m (iu n s) ds=ac (.D .aQ):=by obtain⟨o,e,Z,rfl⟩:=h;delta iK;rw[if_pos a];exact (λh=>by unfold iu;rw[h];rfl) e
theorem vL (g:b->c)(f:c->Nat):∀l:List b,aF f (l.map g)=aF (λa=>f<|g a) l
 | []=>rfl
 | a::l=>by show f (g a)+aF f (l.map g)=f (g a)+_;rw[vL g f l]
def kY:aB l=aB a ↔ l.Perm a:=by
 constructor
 ·intro e;have b:=gk l cM;have c:=gk a cM;rw[show l.mergeSort cM=a.mergeSort cM from e] at b;exact b.symm.trans c
 exact yc
theorem I0 (h:cV web)(hw:fF web):(dN<|(cf web).map aB).length+web.length=kK web+1:=by
 obtain⟨f,g⟩:=Jo<|(cf web).map aB;have j:=hw.C.threes Df (λc _ c' _=>kY) g (λk=>by rw[f,rq h.nd,fm,a8];rfl)
 have m:=hw.F8;rw[<-j,ab,vL,vL] at m;have e3:aF (λp:eS×List eS=>(dI web p.1).countP λy=>!ax (web.map (·.1)) y) web+aF (λp:eS×List eS=>(dI web p.1).countP λy=>ax (web.map (·.1)) y&&jk p.1 y) web=kK web:=by
  unfold kK;rw[<-jH];refine dq λp n=>?_;rw[eF h.nd n];have o:∀y∈p.2,(y∈web.map (·.1)\/y∈cy):=λy a=>((h.rg p n).2.2 y a).1;have hd:=λy a=>hw.C.gr y a;generalize p.2=l at *;induction l with
  | nil=>rfl
  | cons y l q =>
   have i:=q<|λz hz=>o z<|f6 _ hz;simp only[lT,lT];have a:=o y fk;by_cases b:y∈web.map (·.1)
   ·have d:ax (web.map (·.1)) y=bd:=decide_eq_true b;have e:dR y=bi:=by rw[<-yv,pV];exact hd y b
    rw[show iP p.1 y=jk p.1 y from by unfold iP;rw[e];rfl,d,<-i];lia
   have d:ax (web.map (·.1)) y=bi:=decide_eq_false b;have e:=(pV y).2 (a.resolve_left b);rw[show iP p.1 y=bd from by unfold iP;rw[e];rfl,d,<-i];lia
 lia
theorem AM (nd:(web.map (·.1)).Nodup):uW [.L (web.map pairD)]=ac (.O<|.bC<|cO web):=by
 have:∀l:bD,mn (l.map pairD)=ac (cO l):=by
  intro l;induction l with
  | nil=>rfl
  | cons p l a=>show (mn<|l.map pairD).map _=_;rw[a];rfl
 show (mn<|web.map pairD).bind _=_;rw[this];apply if_pos;delta cO;rw[fm];exact nd
def Bw(fn:aN):Prop:=∀web:bD,cV web->fF web->fn [.L (web.map pairD)]=ac (.D .aQ)
def vb (h:a Z=ac (ds,Z1))(e:fn ds=ac (.D<|.bl true)):oX (mI<|fu<|bO fn a) Z=ac (false,Z1):=j3<|fQ (ag (az h e) ρ) ρ
def Sb(T:Txt mg)(w1:fg K mg "WALLS" o9)(x:aY P w K mg base "has_form" 3 (aD K c))(D:Cj c)(G:aY P w K mg base "ties_are_shared" 1 (aD K d))(I:Fb d)(J:aY P w K mg base "corners_close" 3 (aD K e))(L:B5 e)(M:aY P w K mg base "wall_has_row" 2 (aD K g))(N:Cg g)(O:aY P w K mg base "all_reached" 2 (aD K i))(Q:EX i)(R:aY P w K mg base "threes_of" 2 (aD K j))(S:AX j)(U:aY P w K mg base "ties_of" 1 (aD K l))(V:Cz l)(F:bc K "must_web" "must_web" yo f m):∃fn,a9 P w K mg base aZ 4 f m ["web"] (aD K fn)/\Bw fn:=by
 refine' bT F FQ ρ ?W ?B
 case W=>have nd:=FQ.nd;have hl:sX "rings":=⟨trivial⟩;walk_at "h"
 intro web h hw;have X:(cO web).length=web.length:=ab ..;obtain⟨_,Y,ds,rfl,hd⟩:=V web h;refine' JQ ρ ?w;apply eO (vb (ae ρ ao)<|D web h) ρ;refine' ah<|aG (r:=.D<|bf web) (Z1:=[.D (.L<|web.map pairD),.no]) ?a ρ<|aq ?b
 case a=>unfold nM;rw[az (ae ρ ao) (AM h.nd)];rfl
 refine eO (vb (ae ρ ao) (I web h λp o q t z=>?_)) ρ ?_
 ·have u:=hw.C.sym p.1 (a8.2 ⟨p,o,ρ⟩) q.1<|a8.2 ⟨q,t,ρ⟩;rw[eF h.nd o,eF h.nd t] at u;exact u z
 refine eO (vb (ae ρ ao)<|L web h hw) ρ ?_;refine' eO (j3<|fQ (ag (pE (enc:=Dat.str) (xs:=cy) (λn=>[.no,.D<|.str n,.D<|bf web]) (vp ρ) ρ ?c1 ?c2 ?c3 ?c4) ρ) ρ) ρ ?c5
 case c1=>show 4<=cA;unfold cA;lia
 case c2=>intro y hy Z hd;rcases hd with rfl|⟨z,rfl⟩<;>rfl
 case c3=>intro n v;obtain⟨k,hk,rfl⟩:=v9 v;exact ag (az (ae ρ<|ae ρ ao)<|N web k hk h hw) ρ
 case c4=>intro n v;rfl
 show WS _ [.D (.L<|web.map pairD),.D<|bf web] _;refine eO (vb (ae ρ ao)<|Q web h hw) ρ ?_;refine' eO (bK<|aw (ag (az (ae (ag (az (ae ρ ao)<|S web h hw) ρ) ao) ρ) ρ) (ag (aw (r:=.D<|.int<|(ds.length:Int)-web.length+1) (ag (aw (ag (az (ae (ag (az (ae ρ ao) Y) ρ) ao) ρ) ρ) (gq ρ<|congrArg ac X)<|jX ρ) ρ) ρ ρ) ρ)<|ne_int _ _) ?d2<|aU ⟨_,ρ⟩;grind [bS,I0]
end
local macro_rules | `(tactic| walk_at "1")=>Mq.fs "U4 C"
local macro_rules | `(tactic| walk_at "r15")=>`(tactic| (refine' CO ?n ?x ?a ?b ?c ?d ?e ?f ?g ?h;(case x=>rfl);(case n=>exact xR (by rfl));(case a=>rfl);(case b=>exact si (by rfl));(case c=>rfl);(case d=>exact fun _=>rfl);(case e=>walk_at "I");(case f=>(intro _ _ _ _ _;walk_at "G"));(case g=>(intro _ _ _ _ _;walk_at "J"));(case h=>(intro _ _ _ _ _;walk_at "D"))))
local macro_rules | `(tactic| walk_at "0")=>Mq.fs ">r15"
local macro_rules | `(tactic| walk_at "Z")=>Mq.fs "yy Dr"
local macro_rules | `(tactic| walk_at "0")=>Mq.fs "CP aarrrrnrfIptu|DE.alt&wk rrrarA&zx rrarA&tZ rrarA|Ql DD|RS D4|Kt rarA|UC rarA"
local macro_rules | `(tactic| walk_at "I")=>Mq.fs "Hv rarrA"
local macro_rules | `(tactic| walk_at "T")=>Mq.fs "PY D4"
section
variable{P:hY}{w:nR}{K:f'}{mg:eS->Option cn}{base:nL}
noncomputable def nJ(fn:dG):Prop:=∀(p:Int×Int) {m:Int},0<m->m<10000->∃v q,fn (pD p) [.int m]=ac (.D<|.int v,pD q)/\0<=v/\v<m
def Tb(T:Txt mg)(F:bc K "_law_draw" "_law_draw" yV f d):∃fn,a9 P w K mg base aZ 1 f d ["_law_purse_here","_law_out_of"] (eJ K 0 fn)/\nJ fn:=by
 refine' oW (j:=0) F Fu (n:=1) ρ ?C ?B
 case C=>have nd:=Fu.nd;have lk:kN "_law_purse_here":=⟨trivial⟩;walk_at "h"
 clear T F;rintro⟨a,b⟩ m h h';have c:0<m/\m.natAbs.log2<9000:=⟨h,RM (by omega)⟩;have hd:lQ a m=bd:=by unfold lQ;simpa using c
 have hd':lQ b m=bd:=by unfold lQ;simpa using c
 have hm':=c.1;by_cases g:a=0
 ·subst g;refine'⟨b%m,(b/m,b),zB ?e ?k,ZU _ (by omega),YF _ h⟩
  case e=>walk_at "v"
  rfl
 refine'⟨a%m,(a/m,b),zB ?D ?G,ZU _ (by omega),YF _ h⟩
 case D=>walk_at "v"
 rfl
def jN(c:Int):Prop:=ro c<=1048576
def UD (a:jN i)(b:jN j):dP i j=bd:=by delta jN at a b;delta dP aai;rw[show am ((ro i:Int)+(ro j:Int)>afF)=bi from decide_eq_false (by unfold afF;omega)];simp
def G'(fn:aN):Prop:=∀(c:Int) (k:Nat),jN c->k<64->∃v:Int,fn [.int c,.int k]=ac (.D<|.int v)
theorem OL(T:Txt mg){f:dk}{a:hO}(F:bc K "_law_mixed" "_law_mixed" yY f a):∃fn,a9 P w K mg base aZ 1 f a ["_law_cell","_law_k"] (aD K fn)/\G' fn:=by
 refine' bT F FI ρ ?C ?B
 case C=>walk_at "h"
 intro c k b hk;have d1:∀i,lQ i 2147483629=bd:=fun i=>by rfl
 have m1:=UD b b;have m2:∀i,dP 3 i=bd:=fun i=>qQ ⋯;have m4:∀i,dP i 48271=bd:=fun i=>uL (by decide);have m5:dP ((c*c+3*c+7919*k+1)*48271%2147483629) ((c*c+3*c+7919*k+1)*48271%2147483629)=bd:=uL (by omega);refine'⟨_,xj ?e⟩
 case e=>walk_at "v"
def FK(fn:aN):Prop:=∀ns:List Int,ns.length<=63->(∀n∈ns,jN n)->∃p,fn [.cv ns]=ac (.O<|pD p)
theorem Rh(T:Txt mg)(B:mg "abs"=al){b:aN}(t:aY P w K mg base "_law_mixed" 1 (aD K b))(u:G' b){f:dk}{g:hO}(F:bc K "_law_purse" "_law_purse" yW f g):∃fn,a9 P w K mg base aZ 2 f g ["_law_script"] (aD K fn)/\FK fn:=by
 refine' bT F AL ρ ?B ?C
 case B=>walk_at "h"
 intro ns y B;refine' (xJ (P:=fun r=>∃p,r=.O (pD p)) ρ ?w).elim fun r ⟨e,p,z⟩=>⟨p,z ▸ e⟩;have I:eX (.cv ns) al (ac 63)=ac (.O<|.L<|ns.map .int):=by show ac (Res.O<|.L<|(cutD ns al<|ac ((63:Nat):Int)).map Dat.int)=_;rw[nZ,aaJ y]
 have J:fq (.L<|ns.map .int) (.L [.int 0])=ac (.O<|.L<|(ns++[0]).map .int):=by rw[ft];exact if_pos (by rw[ab,ZA];unfold cA;omega)
 have L:dD (.L<|(ns++[0]).map .int)=ac (ns.length+1):=by simp[dD]
 refine' ah<|aG (aw (ag (mH ρ ρ I) ρ) ρ J) ρ<|aq ?_;refine' ah<|aG (v_res ρ) ρ<|aq ?_;have M:∀c∈ns++[0],jN c:=fun c N=>by
  rcases eH.1 N with h|h
  ·exact B c h
  rw[kA.1 h];unfold jN;decide +kernel
 refine' ah<|dB (fun k Z=>∃(n:Int) (a:Slot),Fr a/\Z=[.D (.cv ns),.O<|.L<|(ns++[0]).map .int,.D<|.int n,a]) (by rfl) ⟨1,.no,ι ρ,ρ⟩ ?st ?D
 case st =>
  rintro k x O _ ⟨n,a,i,rfl⟩;obtain⟨hk,rfl⟩:=tM O;refine⟨[.D (.cv ns),.O<|.L<|(ns++[0]).map .int,.D<|.int n,.D<|.int k],by rcases i with rfl|⟨d,rfl⟩<;>rfl,?_⟩;have l:k%(ns.length+1)<(ns++[0]).length:=by rw[eu];exact YE _ ⋯
  obtain⟨v,Q⟩:=u (ns++[0])[k%(ns.length+1)] k (M _<|z8 l) (by omega);have m:cC (.L<|(ns++[0]).map .int) (.int ((k%(ns.length+1):Nat):Int))=ac (.int (ns++[0])[k%(ns.length+1)]):=by exact kJ (by rw[c6,bt l];rfl)
  have em:(k:Int)%((ns.length+1:Nat):Int)=((k%(ns.length+1):Nat):Int):=(Int.natCast_emod ..).symm;rw[<-em] at m;have R:am (0<((ns.length+1:Nat):Int))=bd:=decide_eq_true (by omega);have mk:dP n 2147483587=bd:=uL (by decide);refine' ah<|aG (Z2:=[.D (.cv ns),.O<|.L<|(ns++[0]).map .int,.D<|.int<|n*2147483587+v,.D<|.int k]) (aw (ag (dM<|aw ρ ρ<|if_pos mk) ρ) (ag (az (ae (aI ρ (ag (aw ρ (gq ρ L)<|if_pos R) ρ) ρ m)<|ae ρ ao) Q) ρ) ρ) ρ<|aq<|aU ⟨_,_,τ ⟨_,ρ⟩,ρ⟩
 rintro _ ⟨n,a,i,rfl⟩;have h0:0<(ns++[0]).length:=by simp
 have o:cC (.L<|(ns++[0]).map .int) (.int 0)=ac (.int (ns++[0])[0]):=by rw[k8];exact kJ (j:=0) (by rw[c6,bt h0];rfl)
 generalize (ns++[0])[0]=c0 at o;have q:bO uB (dQ (l9 1<|fun Z=>ac (.int 0,Z)) gg) [.D (.cv ns),.O<|.L<|(ns++[0]).map .int,.D<|.int n,a]=ac (.D<|.int (if c0<0 then -c0 else c0),[.D (.cv ns),.O<|.L<|(ns++[0]).map .int,.D<|.int n,a]):=az (ae (aI ρ ρ ρ o) ao) ρ;refine' aq<|ah<|dm (bK<|aw (r:=.D<|.bl<|am<|(10:Int) ^ (18:Int).toNat<=if c0<0 then -c0 else c0) (ag q ρ) (ag (aw ρ ρ ρ) ρ) ρ) ?G ?no
 case G=>intro _;exact ah<|bH (cR (ae (ag q ρ)<|ae ρ ao) (show 2<=cA by simp[cA]))<|cN ⟨_,_,ρ,(_,_),ρ⟩
 intro _;exact aU<|aq<|ah<|bH (by rfl)<|cN ⟨_,_,ρ,(_,_),ρ⟩
noncomputable def jd(st:List Int)(a k j:Nat):Nat:=97+((st.getD j 0+5*(k:Int)*(if j=a then 1 else 0))%26).toNat
def cw(st:List Int)(a k:Nat):Str:=⟨((gD st.length).map (jd st a k)).toArray⟩
def j4(x:eS):Str:=if dR x then x++hH "x" else x
def ie(st:List Int)(a m:Nat):List Str:=(gD m).map fun k=>j4<|cw st a k
theorem tT(st:List Int)(a k:Nat):(cw st a k).length=st.length:=by show ((gD st.length).map (jd st a k)).toArray.size=_;rw[gs,ab,l5]
theorem Cq(st:List Int)(a k:Nat):∀c∈(cw st a k).cps.toList,gP c=bd:=fun c h=>by obtain⟨j,_,rfl⟩:=a8.1 h;exact To (ZU _ ⋯)<|YF _ ⋯
theorem SE{st:List Int}(h0:0<st.length)(h7:st.length<=7)(a k:Nat):dX (j4<|cw st a k)=bd:=by
 have hl:=tT st a k;have hw:=Cq st a k;have fst:∀x:eS,0<x.length->∃c,x.cps.toList[0]?=ac c:=fun x g=>⟨_,bt (show 0<x.cps.toList.length by simp only[hI];exact g)⟩;delta j4;split
 ·have ex:(hH "x").cps.toList=[120]:=by decide +kernel
  have e:(cw st a k++hH "x").cps.toList=(cw st a k).cps.toList++[120]:=by simp only[Zt,Y8,ex]
  have el:(cw st a k++hH "x").length=st.length+1:=by rw[<-hl];show (cw st a k++hH "x").cps.size=(cw st a k).cps.size+1;rw[<-hI,e,eu,hI];rfl
  obtain⟨c,d⟩:=fst (cw st a k++hH "x") (by omega);refine uQ.nm ⟨d,fun b f=>?_,?_⟩<|Ij _
  ·rw[e] at f;rcases eH.1 f with z|z
   ·exact hw b z
   rw[kA.1 z];rfl
  show (cw st a k++hH "x").length<=8;omega
 rename_i h;obtain⟨c,d⟩:=fst (cw st a k) (by omega);exact uQ.nm ⟨d,hw,by rw[hI];show (cw st a k).length<=8;omega⟩ (by simpa using h)
theorem F9{st:List Int}{a i j:Nat}(b:a<st.length)(hi:i<8)(hj:j<8)(h:cw st a i=cw st a j):i=j:=by
 have h:=congrArg (fun x:eS=>x.cps.toList[a]?) h;have e:∀k,(cw st a k).cps.toList[a]?=ac (jd st a k a):=fun k=>by show ((gD st.length).map (jd st a k))[a]?=_;rw[c6,Y9 b];rfl
 simp only[e] at h;have h:=Option.some.inj h;unfold jd at h;rw[if_pos ρ] at h;omega
theorem kr{st:List Int}{a i j:Nat}(b:a<st.length)(c:i<8)(d:j<8)(h:j4 (cw st a i)=j4 (cw st a j)):i=j:=by
 have l1:=tT st a i;have l2:=tT st a j;have eq:∀x y:eS,(x++hH "x").cps.toList=y.cps.toList->y.length=x.length+1:=fun x y h=>by have:=congrArg List.length h;simp[Zt] at this;exact this.symm
 unfold j4 at h;split at h<;>split at h
 ·have h:=congrArg (fun x:eS=>x.cps.toList) h;simp only[Zt,Y8] at h;exact F9 b c d<|kW<|List.append_cancel_right h
 grind;grind;exact F9 b c d h
theorem MT{st:List Int}{a m:Nat}(c:a<st.length)(d:st.length<=7)(hm:m<=8):(ie st a m).length=m/\(∀x∈ie st a m,dX x=bd)/\(ie st a m).Nodup:=by
 refine⟨by simp[ie],fun x f=>?_,?_⟩
 ·obtain⟨k,_,rfl⟩:=a8.1 f;exact SE (by lia) d a k
 refine gd.2 (aaA.imp_of_mem fun {i j} g h b e=>?_);have:=iW.1 g;have:=iW.1 h;exact b<|kr c (by omega) (by omega) e
theorem sG{i j:Int}(h:dP i j=bd):fw dP (fun i j=>.int<|i*j) (.int i) (.int j)=ac (.D<|.int<|i*j):=if_pos h
theorem JC(n:Nat):dJ 0 (n:Int)=(gD n).map fun j:Nat=>.int (j:Int):=by simp[dJ]
noncomputable def mQ(st:List Int)(a k j:Nat):Int:=st.getD j 0+5*(k:Int)*(if j=a then 1 else 0)
theorem S7(st:List Int)(a k:Nat):aaC (hH "") ((gD st.length).map fun j=>(⟨#[jd st a k j]⟩:eS))=cw st a k:=by apply kW;have:=T1<|(gD st.length).map (jd st a k);rwa[fm] at this
def Hd(t:Slot)(d:Dat):Prop:=t=.O d\/t=.D d
def DY(fn:dG):Prop:=∀p (m:Nat),m<=8->∃r b,fn (pD p) [.int m]=ac (r,b)/\∃(a:List eS) (c:Int×Int),r=.O (.L<|a.map .str)/\b=pD c/\a.length=m/\(∀x∈a,dX x=bd)/\a.Nodup
theorem Ic(T:Txt mg){L:dG}(p1:aY P w K mg base "_law_draw" 1 (eJ K 0 L))(N:nJ L){f:dk}{R:hO}(F:bc K "_law_names" "_law_names" y0 f R):∃fn,a9 P w K mg base aZ 2 f R ["_law_purse_here","_law_many"] (eJ K 0 fn)/\DY fn:=by
 refine' oW F Ci ρ ?B ?O
 case B=>have nd:=Ci.nd;have lk:kN "_law_purse_here":=⟨trivial⟩;walk_at "h"
 intro p m hm;refine' qY ρ ?w;obtain⟨v,U,t0,a0,b0⟩:=N p (m:=7) (by decide) (by decide);refine' ah<|aG (v_res ρ) ρ<|aq ?_;refine' ah<|aG (aw ρ (ag (dz ρ (ae ρ ao) ρ t0 ρ) ρ) ρ) ρ<|aq ?_;refine' ah<|PC ?_;refine' QJ (fun k z Z=>∃(I:Int×Int) (J:Slot) (cs:List Int),Z=[.no,J,.io<|pD I]/\Fr J/\z=cs.map .int/\cs.length=k) (u5 ρ (by omega)) ρ ρ ρ ⟨_,_,[],ρ,ι ρ,ρ,ρ⟩ ?c7 ?c8 ?c9
 case c7=>unfold dJ cA;rw[ab,l5];omega
 case c8=>rintro k1 x V z Z ⟨I,J,cs,rfl,W,rfl,X⟩;refine⟨[.no,.D x,.io<|pD I],by rcases W with rfl|⟨d,rfl⟩<;>rfl,?_⟩;obtain⟨v1,C,t1,_,_⟩:=N I (m:=26) (by decide) (by decide);refine' vc ρ ⟨fun h=>(by cases h),fun _=>Ms (ag (dz ρ (ae ρ ao) ρ t1 ρ) ρ) ⟨ρ,C,_,cs++[v1],ρ,τ ⟨_,ρ⟩,by rw[ft];rfl,by rw[eu,X];rfl⟩⟩
 rintro z Z ⟨C,J,st,rfl,-,rfl,M⟩;have M:st.length=(1+v).toNat:=by rw[M];delta dJ;rw[ab,l5];lia
 obtain⟨v2,o,Y,a2,b2⟩:=N C (m:=1+v) (by omega) (by omega);obtain⟨a,rfl⟩:=y3 a2;have ha:a<st.length:=by omega
 have h7:st.length<=7:=by omega
 have hL:(1+v)=(st.length:Int):=by omega
 rw[hL] at Y ⊢;refine⟨pD C,ρ,[.io (pD C),.D<|.int m,.D<|.str "abcdefghijklmnopqrstuvwxyz",.D<|.int st.length,.O<|.L<|st.map .int,.no,.no,.no,.no,.no],ρ,?_⟩;refine' aq<|ah<|aG (Z2:=[.io (pD o),.D<|.int m,.D<|.str "abcdefghijklmnopqrstuvwxyz",.D<|.int st.length,.O<|.L<|st.map .int,.D<|.int a,.no,.no,.no,.no]) (dz ρ (ae ρ ao) ρ Y ρ) ρ<|aq ?_;refine' ah<|aG (Z2:=[.io (pD o),.D<|.int m,.D<|.str "abcdefghijklmnopqrstuvwxyz",.D<|.int st.length,.O<|.L<|st.map .int,.D<|.int a,.O<|.L [],.no,.no,.no]) (cR ao<|pe _) ρ<|aq ?_;refine' ah<|dB (fun k Z=>∃(t u q r:Slot),Z=[.io (pD o),.D<|.int m,.D<|.str "abcdefghijklmnopqrstuvwxyz",.D<|.int st.length,t,.D<|.int a,.O<|.L<|(ie st a k).map .str,u,q,r]/\Hd t (.L<|st.map .int)/\Fr u/\(Fr q\/∃d,q=.O d)/\Fr r) (u5 ρ (by omega)) ⟨_,_,_,_,ρ,ι ρ,ι ρ,ι<|ι ρ,ι ρ⟩ ?st ?fin
 case fin =>
  rintro _ ⟨t,u,q,r,rfl,-⟩;have e:(dJ 0 (m:Int)).length=m:=by unfold dJ;rw[ab,l5];omega
  rw[e];exact aq<|ah<|bH ρ<|cN ⟨_,_,_,ρ,ρ,ie st a m,o,ρ,ρ,MT ha h7 hm⟩
 rintro k x V _ ⟨t,u,q,r,rfl,h4,f7,f8,f9⟩;obtain⟨hk,rfl⟩:=tM V;refine⟨[.io (pD o),.D<|.int m,.D<|.str "abcdefghijklmnopqrstuvwxyz",.D<|.int st.length,t,.D<|.int a,.O<|.L<|(ie st a k).map .str,.D<|.int k,q,r],by rcases f7 with rfl|⟨d,rfl⟩<;>rfl,?_⟩;have ln:((ie st a k).map Dat.str).length<sizeLine:=by unfold ie cA;rw[ab,ab,l5];omega
 have es:ie st a (k+1)=ie st a k++[j4 (cw st a k)]:=by unfold ie;rw[ZN,ft];rfl
 rw[es,ft];generalize (ie st a k).map Dat.str=found at *;refine' ah<|aG (Z2:=[.io (pD o),.D<|.int m,.D<|.str "abcdefghijklmnopqrstuvwxyz",.D<|.int st.length,.D<|.L<|st.map .int,.D<|.int a,.O<|.L found,.D<|.int k,.O<|.L ((gD st.length).map fun j=>.int<|mQ st a k j),r]) (cc (enc:=fun j:Nat=>.int (j:Int)) (xs:=gD st.length) (fun j=>[.no,.D<|.int j,.D<|.int a,.D<|.int k,.D<|.L<|st.map .int]) (fun j=>.int<|mQ st a k j) ?d1 ?d2 ?d3 ?d4 ?d5 ?d6) ?d7<|aq ?d8
 case d1=>rw[<-JC];exact u5 ρ (by omega)
 case d2=>rcases h4 with rfl|rfl<;>rfl
 case d3=>rw[l5];unfold cA;omega
 case d4=>rintro j _ Z (rfl|⟨y,rfl⟩)<;>rfl
 case d5 =>
  intro j D;have D:=iW.1 D;have ix:cC (.L<|st.map .int) (.int (j:Int))=ac (.int<|st.getD j 0):=by rw[k8];exact kJ (by rw[c6,bt D,lD,bt D];rfl)
  have ei:nG [.bl (am<|(j:Int)=(a:Int))]=ac (.D<|.int (if j=a then 1 else 0)):=by
   by_cases e:j=a
   ·rw[if_pos e,decide_eq_true (by omega)];rfl
   rw[if_neg e,decide_eq_false (by omega)];rfl
  have m5:dP 5 (k:Int)=bd:=qQ (by decide);have m6:dP (5*(k:Int)) (if j=a then 1 else 0)=bd:=uL (by split<;>decide);exact ag (aw (aI ρ ρ ρ ix) (ag (dM<|aw (ag (dM<|aw ρ ρ<|sG m5) ρ) (ag (az (ae (ag (aw ρ ρ<|eq_int _ _) ρ) ao) ei) ρ)<|sG m6) ρ) ρ) ρ
 case d6=>exact fun _ _=>rfl
 case d7=>rcases f8 with (rfl|⟨d,rfl⟩)|⟨d,rfl⟩<;>rfl
 have Q:∀l:List Nat,(l.map fun j=>(⟨#[jd st a k j]⟩:eS).length).sum=l.length:=fun l=>by
  induction l with
  | nil=>rfl
  | cons c l ih=>rw[hS,aar,ih,gW];exact abH _ _
 have ej:=RH (sep:=hH "") (ag (cc (enc:=fun j:Nat=>Dat.int<|mQ st a k j) (xs:=gD st.length) (fun j=>[.no,.D<|.int<|mQ st a k j,.D<|.str "abcdefghijklmnopqrstuvwxyz"]) (fun j=>.str ⟨#[jd st a k j]⟩) (fi:=alt (jU<|cI 8)<|kj<|cI 8) (caps:=[al,al,ac 2]) (g:=zC 1) (fe:=l9 2<|fu<|bW (fw (fun _ j=>am<|0<j) fun i j=>Dat.int<|i%j) (cI 1)<|fC<|.int 26) (Z:=[.io (pD o),.D<|.int m,.D<|.str "abcdefghijklmnopqrstuvwxyz",.D<|.int st.length,.D<|.L<|st.map .int,.D<|.int a,.O<|.L found,.D<|.int k,.O<|.L ((gD st.length).map fun j=>.int<|mQ st a k j),r]) (bB ρ) ρ (by rw[l5];unfold cA;omega) (by rintro j _ Z (rfl|⟨y,rfl⟩)<;>rfl) (fun j D=>aI ρ (ag (aw ρ ρ ρ) ρ) ρ<|OD (ZU _ (by decide))<|YF _ (by decide))<|fun _ _=>rfl) ρ) (E9 (fun j=>(⟨#[jd st a k j]⟩:eS))<|gD st.length) ⟨by decide +kernel,by rw[fm,ab,l5];have:=Q<|gD st.length;rw[l5] at this;show ((gD st.length).map fun j=>(⟨#[jd st a k j]⟩:eS).length).sum+_<=_;omega⟩;rw[S7] at ej;refine' ah<|aG (Z2:=[.io (pD o),.D<|.int m,.D<|.str "abcdefghijklmnopqrstuvwxyz",.D<|.int st.length,.D<|.L<|st.map .int,.D<|.int a,.O<|.L found,.D<|.int k,.D<|.L ((gD st.length).map fun j=>.int<|mQ st a k j),.D<|.str<|cw st a k]) (v_res ej) ?g1<|aq ?g2
 case g1=>rcases f9 with rfl|⟨d,rfl⟩<;>rfl
 have wl:=tT st a k;have tx:sD (cw st a k)=bd:=E4 (by rw[aa'];intro c hc;have:=Cq st a k c<|ZJ.2 hc;unfold gP at this;rw[fv,decide_eq_true_eq,decide_eq_true_eq] at this;simp;omega)
 have iw:gS false (.str<|cw st a k) (.L [.str "north",.str "east",.str "south",.str "west"])=ac (.D<|.bl<|dR<|cw st a k):=NY tx false;have U7:fq (.str<|cw st a k) (.str<|hH "x")=ac (.D<|.str<|cw st a k++hH "x"):=Fy (by rw[wl,show (hH "x").length=1 from by decide +kernel];unfold cA;omega);generalize (gD st.length).map (fun j=>Dat.int<|mQ st a k j)=S;have G:∀y,y=j4 (cw st a k)->∃t u q r,[.io (pD o),.D<|.int m,.D<|.str "abcdefghijklmnopqrstuvwxyz",.D<|.int st.length,.D<|.L<|st.map .int,.D<|.int a,.O<|.L<|found++[.str y],.D<|.int k,.D<|.L S,.D<|.str y]=[.io (pD o),.D<|.int m,.D<|.str "abcdefghijklmnopqrstuvwxyz",.D<|.int st.length,t,.D<|.int a,.O<|.L<|found++[j4 (cw st a k)].map .str,u,q,r]/\Hd t (.L<|st.map .int)/\Fr u/\(Fr q\/∃d,q=.O d)/\Fr r:=fun y e=>e ▸ ⟨_,_,_,_,ρ,τ ρ,τ ⟨_,ρ⟩,ι<|τ ⟨_,ρ⟩,τ ⟨_,ρ⟩⟩;have nx:j4 (cw st a k)=if dR (cw st a k) then cw st a k++hH "x" else cw st a k:=ρ;generalize cw st a k=x at *;refine' ah<|dm (b:=dR x) (bK<|aw ρ (ag (cR (ae ρ<|ae ρ<|ae ρ<|ae ρ ao) (show 4<=cA by unfold cA;decide)) ρ) iw) ?yes ?no
 case yes=>intro B;rw[B] at nx;exact ah<|aG (aw ρ ρ U7) ρ<|aq<|aU<|aq<|ah<|jS (ly ρ ρ ln)<|aq<|aU<|G _ nx.symm
 intro B;rw[B] at nx;exact aU<|aq<|ah<|jS (ly ρ ρ ln)<|aq<|aU<|G _ nx.symm
structure Gd (o:Ob) (rs:Fl):Prop where
 c:Cuts o (rs.map (·.2))
 f:eY (rs.map (·.2))
def Bd(o:Ob):Prop:=o.l=0/\o.b=0/\0<o.r/\o.r<=999/\0<o.t/\o.t<=999
theorem UI(v:Int)(ys:List Int):gS false (.int v) (.L<|ys.map .int)=ac (.D<|.bl<|am<|v∈ys):=by
 have a:bQ (.L<|ys.map .int)=bd:=iJ (by show (ys.map Dat.int).all eM=bd;rw[iN];intro d hd;obtain⟨y,_,rfl⟩:=a8.1 hd;rfl)
 show (if (bQ (.int v)&&bQ (.L<|ys.map .int))=bd then ac (Res.D<|.bl<|inD (.int v)<|ys.map .int) else al)=_;rw[lO,a];have e:inD (.int v) (ys.map .int)=am (v∈ys):=by
  rw[p9,abx,tz,xr,decide_eq_true_eq];constructor
  ·rintro⟨y,hy,e⟩;have e:=e;simp_all [iG]
  exact fun h=>⟨v,h,(iG v v).trans (decide_eq_true ρ)⟩
 rw[e];rfl
theorem AJ{Q:Out->Prop}{Ls:List Int}{f:Bool->Int->DS}{c:BF}{fb:SF}(g:∀b v,c (f b v)=ac (am<|v∈Ls,f false v))(i:∀v,fb (f false v)=ac (.next<|f false<|v+1)):∀(n:Nat) (b:Bool) (v:Int),(Ls.filter<|fun x=>am<|v<=x).length<n->(∀a,v<=a->a∉Ls->Q (.next<|f false a))->WS (gG c fb n) (f b v) Q
 | 0,_,_,h,_=>absurd h (z4 _)
 | n+1,b,v,h,q=>by
  have e:=g b v;by_cases d:v∈Ls
  ·rw[decide_eq_true d] at e;refine Fj e (i v) (AJ g i n false (v+1) ?_ fun a h1 j=>q a (by omega) j);have k:Ls.filter (fun x=>am<|v+1<=x)=(Ls.filter fun x=>am<|v<=x).filter fun x=>am (v+1<=x):=by
    rw[List.filter_filter];refine aal fun x _=>?_;by_cases h:v+1<=x
    ·rw[decide_eq_true h,decide_eq_true (by omega:v<=x)];rfl
    rw[decide_eq_false h];rfl
   have:=List.length_filter_lt_length_iff_exists (l:=Ls.filter fun x=>am<|v<=x) (p:=fun x=>am<|v+1<=x) |>.mpr ⟨v,hB.2 ⟨d,decide_eq_true<|aft v⟩,by simp;lia⟩;rw[k];omega
  rw[decide_eq_false d] at e;exact GB e<|q v (aft v) d
def co(k:Nat)(o:Ob):Int:=if k=1 then o.l else if k=2 then o.b else if k=3 then o.r else o.t
def l7(k:Nat)(c:Int)(o:Ob):Ob:=if k=1 then ⟨o.l,o.b,c,o.t⟩ else ⟨o.l,o.b,o.r,c⟩
def pH(k:Nat)(c:Int)(o:Ob):Ob:=if k=1 then ⟨c,o.b,o.r,o.t⟩ else ⟨o.l,c,o.r,o.t⟩
theorem j9(x:eS×Ob){k:Nat}(a:k=1\/k=2\/k=3\/k=4):cC (af x) (.int (k:Int))=ac (.int<|co k x.2):=by rcases a with rfl|rfl|rfl|rfl<;>rfl
theorem Gd.cut{o:Ob}{A B:Fl}{x:eS×Ob}(g:Gd o (A++x::B)){k:Nat}(j:k=1\/k=2){c:Int}(l:co k x.2<c)(m:c<co (k+2) x.2)(e:∀y∈A++x::B,co k y.2≠c/\co (k+2) y.2≠c)(nm:eS):Gd o (A++[(x.1,l7 k c x.2)]++B++[(nm,pH k c x.2)]):=by
 obtain⟨f,i⟩:=g;rw[ft,hS] at f i;have ok:x.2.ok:=by have:=f.aO x.2 (by simp);exact⟨this.2.1,this.2.2.2.2.1⟩
 have ex:(A.map (·.2)++x.2::B.map (·.2))[A.length]?=ac x.2:=by rw[ka (by simp),ab,abG];rfl
 have sp:∀d,Cuts x.2 d->Cuts o (A.map (·.2)++d++B.map (·.2)):=fun d h=>by have:=f.IY ex h;simp_all [List.drop_append,List.drop_of_length_le]
 have pm:∀a b:Ob,(A.map (·.2)++[a]++B.map (·.2)++[b]).Perm (A.map (·.2)++[a,b]++B.map (·.2)):=by simp[List.Perm.append_left]
 constructor
 ·rw[ft,ft,ft];refine (sp [l7 k c x.2,pH k c x.2] ?_).perm (pm _ _);rcases j with rfl|rfl
  ·exact Cuts.on ok l m
  exact Cuts.up ok l m
 rw[ft,ft,ft];have e:∀z∈A.map (·.2)++x.2::B.map (·.2),co k z≠c/\co (k+2) z≠c:=fun z hz=>by rw[<-hS,<-ft] at hz;obtain⟨y,n,rfl⟩:=a8.1 hz;exact e y n
 rcases j with rfl|rfl
 ·exact i.HZ ok e
 exact i.OV ok e
def CL(fn:dG):Prop:=∀(p:Int×Int) (rs:Fl) (nm:eS) (o:Ob),Bd o->Gd o rs->0<rs.length->rs.length<8->∃r b,fn (pD p) [ai rs,.str nm]=ac (r,b)/\∃(a:Fl) (c:Int×Int),r.val=ai a/\b=pD c/\Gd o a/\(a=rs\/(a.map (·.1)).Perm (nm::rs.map (·.1)))
theorem L3(T:Txt mg){J:dG}(p1:aY P w K mg base "_law_draw" 1 (eJ K 0 J))(M:nJ J){f:dk}{U:hO}(F:bc K "_law_cut" "_law_cut" yL f U):∃fn,a9 P w K mg base aZ 2 f U ["_law_purse_here","_law_rows","_law_name"] (eJ K 0 fn)/\CL fn:=by
 refine' oW F GA ρ ?N ?O
 case N=>have lk:kN "_law_purse_here":=⟨trivial⟩;walk_at "h"
 intro p rs nm o N g h0 h8;refine' qY ρ ?w;have ln:dD (ai rs)=ac rs.length:=by simp[ai,dD]
 obtain⟨v0,V,t0,a0,b0⟩:=M p (m:=(rs.length:Int)) (by omega) ⋯;obtain⟨at_,rfl⟩:=y3 a0;have W:at_<rs.length:=⋯;refine' ah<|aG (dz ρ (ae (gq ρ ln) ao) ρ t0 ρ) ρ<|aq ?_;obtain⟨Q,u,X,Y,b1⟩:=M V (m:=2) ⋯ (by decide);obtain⟨k,i,ek⟩:∃k:Nat,(k=1\/k=2)/\1+Q=(k:Int):=⟨(1+Q).toNat,by omega,by omega⟩;refine' ah<|aG (aw ρ (ag (dz ρ (ae ρ ao) ρ X ρ) ρ) (by show ac (Res.D<|.int<|1+Q)=_;rw[ek])) ρ<|aq ?_;obtain⟨x,ex⟩:∃x,rs[at_]?=ac x:=⟨_,bt W⟩;have hx:=eR ex;have ir:cC (ai rs) (.int (at_:Int))=ac (af x):=by show fI (rs.map af) at_=_;exact kJ (by rw[c6,ex];rfl)
 refine' ah<|aG (Z2:=[.io (pD u),.D<|ai rs,.D<|.str nm,.D<|.int at_,.D<|.int k,.D<|af x,.no,.no,.no,.no]) (v_res<|aI ρ ρ ρ ir) ρ<|aq ?_;have G:∀y,cC (af y) (.int (k:Int))=ac (.int<|co k y.2):=fun y=>j9 y (by omega);have I:∀y,cC (af y) (.int<|(k:Int)+2)=ac (.int<|co (k+2) y.2):=fun y=>j9 y (k:=k+2) (by omega);have bx:∀y∈rs,0<=co k y.2/\co k y.2<co (k+2) y.2/\co (k+2) y.2<=999:=fun y B=>by
  have:=g.c.aO y.2<|a8.2 ⟨y,B,ρ⟩;unfold Bd at N;rcases i with rfl|rfl
  ·show 0<=y.2.l/\y.2.l<y.2.r/\y.2.r<=999;omega
  show 0<=y.2.b/\y.2.b<y.2.t/\y.2.t<=999;omega
 have hxb:=bx x hx;have gp:∀(q:Int×Int),∃(h:Fl) (p':Int×Int),(Res.D<|ai rs).val=ai h/\pD q=pD p'/\Gd o h/\(h=rs\/(h.map (·.1)).Perm (nm::rs.map (·.1))):=fun q=>⟨rs,q,ρ,ρ,g,ι ρ⟩;refine' ah<|dm (bK<|aw (r:=.D<|.bl<|am<|co (k+2) x.2-co k x.2<2) (ag (aw (aI ρ (ag (aw ρ ρ ρ) ρ) ρ<|I x) (aI ρ ρ ρ<|G x) ρ) ρ) ρ ρ) ?yes ?no
 case yes=>exact fun _=>ah<|bH ρ<|cN ⟨_,_,_,ρ,ρ,gp u⟩
 intro hn;have hn:¬co (k+2) x.2-co k x.2<2:=by simpa using hn
 refine' aU<|aq ?_;have sz:rs.length<=sizeLine:=by unfold cA;omega
 refine' ah<|aG (Z2:=[.io (pD u),.D<|ai rs,.D<|.str nm,.D<|.int at_,.D<|.int k,.D<|af x,.O<|.L<|(rs.map (fun y=>co k y.2)++rs.map (fun y=>co (k+2) y.2)).map .int,.no,.no,.no]) (aw (r:=.O<|.L<|(rs.map (fun y=>co k y.2)++rs.map (fun y=>co (k+2) y.2)).map .int) (ag (cc (enc:=af) (xs:=rs) (fun y=>[.no,.D<|af y,.D<|.int k]) (fun y=>.int<|co k y.2) (bB ρ) ρ sz (by rintro y _ Z (rfl|⟨z,rfl⟩)<;>rfl) (fun y _=>aI ρ ρ ρ<|G y)<|fun _ _=>rfl) ρ) (ag (cc (enc:=af) (xs:=rs) (fun y=>[.no,.D<|af y,.D<|.int k]) (fun y=>.int<|co (k+2) y.2) (bB ρ) ρ sz (by rintro y _ Z (rfl|⟨z,rfl⟩)<;>rfl) (fun y _=>aI ρ (ag (aw ρ ρ ρ) ρ) ρ<|I y)<|fun _ _=>rfl) ρ) ?add) ρ<|aq ?_
 case add=>rw[ft,fm,fm];exact if_pos (by rw[ab,ab];unfold cA;omega)
 generalize hL:rs.map (fun y=>co k y.2)++rs.map (fun y=>co (k+2) y.2)=Ls;have U7:Ls.length<1000:=by rw[<-hL,eu,ab,ab];omega
 obtain⟨v2,d,t2,a2,b2⟩:=M u (m:=co (k+2) x.2-co k x.2-1) (by omega) (by omega);refine' ah<|aG (Z2:=[.io (pD d),.D<|ai rs,.D<|.str nm,.D<|.int at_,.D<|.int k,.D<|af x,.O<|.L<|Ls.map .int,.D<|.int<|co k x.2+1+v2,.no,.no]) (aw (ag (aw (aI ρ ρ ρ<|G x) ρ ρ) ρ) (ag (dz ρ (ae (ag (aw (ag (aw (aI ρ (ag (aw ρ ρ ρ) ρ) ρ<|I x) (aI ρ ρ ρ<|G x) ρ) ρ) ρ ρ) ρ) ao) ρ t2 ρ) ρ) ρ) ρ<|aq ?_;refine' ah<|AJ (Ls:=Ls) (f:=fun b v=>[.io (pD d),.D<|ai rs,.D<|.str nm,.D<|.int at_,.D<|.int k,.D<|af x,(if b then .O (.L<|Ls.map .int) else .D (.L<|Ls.map .int)),.D<|.int v,.no,.no]) ?w1 ?w2 qZ true _ ?w3 ?w4
 case w1=>exact fun b v=>by cases b<;>exact bK<|aw ρ ρ<|UI v Ls
 case w2=>exact fun v=>rfl
 case w3=>exact He (pl _ _) U7
 intro c hc C;show AQ _ _ (.next [.io (pD d),.D<|ai rs,.D<|.str nm,.D<|.int at_,.D<|.int k,.D<|af x,.D<|.L<|Ls.map .int,.D<|.int c,.no,.no]);refine' aq<|ah<|dm (bK<|aw (r:=.D<|.bl<|am<|co (k+2) x.2<=c) ρ (aI ρ (ag (aw ρ ρ ρ) ρ) ρ<|I x) ρ) ?y2 ?R
 case y2=>exact fun _=>ah<|bH ρ<|cN ⟨_,_,_,ρ,ρ,gp d⟩
 intro L;have L:¬co (k+2) x.2<=c:=by simpa using L
 refine' aU<|aq ?_;have n1:∀l:List Dat,l.length=5->gv l.length ((k:Int)+2)=ac (k+2):=fun l hl=>by rw[hl];rcases i with rfl|rfl<;>rfl
 have R:∀l:List Dat,l.length=5->gv l.length (k:Int)=ac k:=fun l hl=>by rw[hl];rcases i with rfl|rfl<;>rfl
 have n0:∀l:List Dat,l.length=5->gv l.length 0=ac 0:=fun l hl=>by rw[hl];rfl
 obtain⟨ds,D⟩:∃ds,ds=[Dat.str x.1,.int x.2.l,.int x.2.b,.int x.2.r,.int x.2.t]:=⟨_,ρ⟩;have er:af x=.U ds:=by rw[D];rfl
 have S:ds.length=5:=by rw[D];rfl
 have eL:Dat.U (ds.set (k+2)<|.int c)=af (x.1,l7 k c x.2):=by rw[D];rcases i with rfl|rfl<;>rfl
 have eU:Dat.U ((ds.set 0<|.str nm).set k (.int c))=af (nm,pH k c x.2):=by rw[D];rcases i with rfl|rfl<;>rfl
 clear D;rw[er];refine' ah<|aG (Z2:=[.io (pD d),.D<|ai rs,.D<|.str nm,.D<|.int at_,.D<|.int k,.D<|.U ds,.D<|.L<|Ls.map .int,.D<|.int c,.O<|.L ds,.no]) (az (ae ρ ao) ρ) ρ<|aq ?_;refine' ah ⟨_,dM<|qV (Z3:=[.io (pD d),.D<|ai rs,.D<|.str nm,.D<|.int at_,.D<|.int k,.D<|.U ds,.D<|.L<|Ls.map .int,.D<|.int c,.O<|.L<|ds.set (k+2)<|.int c,.no]) ρ ρ (ag (aw ρ ρ ρ) ρ) ρ (n1 ds S) ρ,aq ?_⟩;refine' ah<|aG (Z2:=[.io (pD d),.D<|ai rs,.D<|.str nm,.D<|.int at_,.D<|.int k,.D<|.U ds,.D<|.L<|Ls.map .int,.D<|.int c,.O<|.L<|ds.set (k+2)<|.int c,.O<|.L ds]) (az (ae ρ ao) ρ) ρ<|aq ?_;refine' ah ⟨_,dM<|qV (Z3:=[.io (pD d),.D<|ai rs,.D<|.str nm,.D<|.int at_,.D<|.int k,.D<|.U ds,.D<|.L<|Ls.map .int,.D<|.int c,.O<|.L<|ds.set (k+2)<|.int c,.O<|.L<|ds.set 0<|.str nm]) ρ ρ ρ ρ (n0 ds S) ρ,aq ?_⟩;refine' ah ⟨_,dM<|qV (Z3:=[.io (pD d),.D<|ai rs,.D<|.str nm,.D<|.int at_,.D<|.int k,.D<|.U ds,.D<|.L<|Ls.map .int,.D<|.int c,.O<|.L<|ds.set (k+2)<|.int c,.O<|.L<|(ds.set 0<|.str nm).set k (.int c)]) ρ ρ ρ ρ (R _ (by rw[I1];exact S)) ρ,aq ?_⟩;have U':eX (ai rs) al (ac (at_:Int))=ac (.O<|.L<|(rs.take at_).map af):=by show ac (Res.O<|.L<|cutD (rs.map af) al<|ac (at_:Int))=_;rw[nZ,Zf]
 have Va:eX (ai rs) (ac<|(at_:Int)+1) al=ac (.O<|.L<|(rs.drop<|at_+1).map af):=by show ac (Res.O<|.L<|cutD (rs.map af) (ac ((at_+1:Nat):Int)) al)=_;rw[nF,YI]
 have ad:∀(a b:Fl),a.length<=20->b.length<=20->fq (.L<|a.map af) (.L<|b.map af)=ac (.O<|.L<|(a++b).map af):=fun a b h1 h2=>by rw[ft];exact if_pos (by rw[ab,ab];unfold cA;omega)
 have X:(rs.take at_).length<=8:=by rw[ib];omega
 have t2:(rs.drop<|at_+1).length<=8:=by rw[t9];omega
 have s1:1<=sizeLine:=by unfold cA;decide
 have cL:ku [.L (ds.set (k+2)<|.int c)]=ac (.D<|af (x.1,l7 k c x.2)):=by rw[<-eL];rfl
 have cU:ku [.L ((ds.set 0<|.str nm).set k (.int c))]=ac (.D<|af (nm,pH k c x.2)):=by rw[<-eU];rfl
 have Y:=ad (rs.take at_) [(x.1,l7 k c x.2)] (by omega) (by simp);have a2:=ad (rs.take at_++[(x.1,l7 k c x.2)]) (rs.drop<|at_+1) (by rw[eu];simp;omega) (by omega);have a3:=ad (rs.take at_++[(x.1,l7 k c x.2)]++rs.drop (at_+1)) [(nm,pH k c x.2)] (by rw[eu,eu];simp;omega) (by simp);generalize ds.set (k+2) (.int c)=dl at *;generalize (ds.set 0<|.str nm).set k (.int c)=du at *;refine' ah<|bH (aw (ag (aw (ag (aw (ag (mH ρ ρ U') ρ) (ag (cR (ae (ag (az (ae ρ ao) cL) ρ) ao) s1) ρ) Y) ρ) (ag (iV ρ (ag (aw ρ ρ ρ) ρ) Va) ρ) a2) ρ) (ag (cR (ae (ag (az (ae ρ ao) cU) ρ) ao) s1) ρ) a3)<|cN ⟨_,_,_,ρ,ρ,rs.take at_++[(x.1,l7 k c x.2)]++rs.drop (at_+1)++[(nm,pH k c x.2)],d,ρ,ρ,?_,τ ?_⟩
 ·have e:=wY ex;have g':=g;rw[e] at g';refine g'.cut i (by omega) (by omega) (fun y B=>?_) nm;rw[<-e] at B;rw[<-hL] at C;exact⟨fun z=>C<|eH.2<|ι<|a8.2 ⟨y,B,z⟩,fun z=>C<|eH.2<|τ<|a8.2 ⟨y,B,z⟩⟩
 have e:=wY ex;rw[ft];refine (ach nm _).trans (List.Perm.cons nm<|abn ?_)
 conv=>rhs;rw[e]
 simp
theorem Gd.top{o:Ob}{rs:Fl}(b:Bd o)(g:Gd o rs):∃z∈rs,z.2.r=o.r/\z.2.t=o.t:=by
 unfold Bd at b;obtain⟨y,a,k1,k2,k3,k4⟩:=filled (W:=o.r.toNat) (H:=o.t.toNat) (x:=o.r-1) (y:=o.t-1) (fun p d=>by
  have:=g.c.aO p d;exact⟨⋯,⋯,by omega,⋯,⋯,by omega⟩) g.c.ap (by
  rw[g.c.ar];delta Ob.area;rw[b.1,b.2.1,aaS,aaS,Zd (by omega),Zd (by omega)]) (by omega) (by omega) (by omega) (by omega)
 have:=g.c.aO y a;grind
theorem Gd.m9{o:Ob}{rs:Fl}(b:Bd o)(g:Gd o rs):bu rs=o.r/\bw rs=o.t:=by
 obtain⟨z,hz,e,f⟩:=g.top b;have i:=fun x a=>g.c.aO x a;constructor
 ·refine zw (fun x a=>?_) (a8.2 ⟨z,hz,e⟩);obtain⟨y,d,rfl⟩:=a8.1 a;exact (i _<|a8.2 ⟨y,d,ρ⟩).2.2.1
 refine zw (fun x a=>?_) (a8.2 ⟨z,hz,f⟩);obtain⟨y,d,rfl⟩:=a8.1 a;exact (i _<|a8.2 ⟨y,d,ρ⟩).2.2.2.2.2
structure Drawn (rs:Fl):Prop where
 fl:aP rs
 mt:sf rs=bi
 ok:iA rs
 sm:∀x∈rs,x.2.r<=999/\x.2.t<=999
theorem Gd.drawn{o:Ob}{rs:Fl}(b:Bd o)(g:Gd o rs)(j:rs.length<=8)(d:∀x∈rs,dX x.1=bd)(nd:(rs.map (·.1)).Nodup):Drawn rs:=by
 obtain⟨k,m⟩:=g.m9 b;obtain⟨z,hz,_⟩:=g.top b;have i:∀x∈rs,o.l<=x.2.l/\x.2.l<x.2.r/\x.2.r<=o.r/\o.b<=x.2.b/\x.2.b<x.2.t/\x.2.t<=o.t:=fun x a=>g.c.aO x.2<|a8.2 ⟨x,a,ρ⟩;have b':=b;unfold Bd at b';refine⟨⟨fun e=>(by rw[e] at hz;cases hz),j,d,fun x a=>?_,nd,gd.1 g.c.ap,?_⟩,?_,⟨fun x a=>sg<|d x a,fun x a=>?_,by lia⟩,fun x a=>?_⟩
 ·have:=i x a;omega
 ·have:=g.c.ar;rw[fm] at this;delta fR;simp only[k,m,show (fun x:eS×Ob=>x.2.area)=(Ob.area ∘ fun x:eS×Ob=>x.2) from ρ,this];delta Ob.area;simp only[b.1,b.2.1,aaS]
 ·delta sf;rw[decide_eq_false_iff_not];rintro⟨p,_,h⟩;exact absurd (g.f p)<|Nat.not_le.2 h
 ·have:=i x a;omega
 have:=i x a;omega
def nc(W:Int)(o:Ob):Ob:=⟨W-o.r,o.b,W-o.l,o.t⟩
theorem Gd.vM{o:Ob}{rs:Fl}(b:Bd o)(g:Gd o rs):Gd o (rs.map fun y=>(y.1,nc o.r y.2)):=by
 have e:(rs.map fun y=>(y.1,nc o.r y.2)).map (·.2)=(rs.map (·.2)).map (nc o.r):=by rw[fm,fm];rfl
 delta Bd at b;constructor
 ·rw[e];refine⟨fun x a=>?_,?_,?_⟩
  ·obtain⟨y,d,rfl⟩:=a8.1 a;have:=g.c.aO y d;dsimp only[nc];omega
  ·refine gd.2 (g.c.ap.imp fun {x y} h=>?_);unfold Apart at h ⊢;dsimp only[nc];lia
  rw[fm,<-g.c.ar];congr 1;refine zI fun x _=>?_
  show (o.r-x.l-(o.r-x.r))*(x.t-x.b)=(x.r-x.l)*(x.t-x.b);congr 1
  lia
 rw[e];exact g.f.vM o.r
def Gd.one (x:eS)(h:o.ok):Gd o [(x,o)]:=⟨Cuts.one h,eY.one o h⟩
theorem Gd.perm{o:Ob}{rs a:Fl}(g:Gd o rs)(p:a.Perm rs):Gd o a:=⟨g.c.perm<|p.map _,g.f.perm<|p.map _⟩
def N3{a:AF}{Z Z1:DS}{lo n:Int}(h:a Z=ac ([.int lo,.int n],Z1))(b:-(2 ^ 62)<=lo/\lo<2 ^ 62/\-(2 ^ 62)<=n/\n<2 ^ 62):qN a Z=ac (dJ lo n,Z1):=by delta qN;rw[h];exact if_pos b
def Nw{lo n:Int}{k:Nat}{x:Dat}(h:(dJ lo n)[k]?=ac x):lo+(k:Int)<n/\x=.int (lo+k):=by have a:=(cm.1 h).1;unfold dJ at a h;rw[c6] at h;rw[ab,l5] at a;rw[Y9 a] at h;simp at h;exact⟨⋯,h.symm⟩
theorem Pe (h0:rs≠[])(nd:(rs.map (·.1)).Nodup)(h:rs.length<64):jv [ai rs]=ac (.O<|ai<|rQ rs):=by
 have d:dF (rs.map af)=al:=by
  cases rs with
  | nil=>cases h0 ρ
  | cons x l=>rfl
 show (match dF (rs.map af) with
  | some c=>if c.length<64 then ac (Res.O<|.L<|(aB c).map .str) else al
  | none=>ju [.L (rs.map af)])=_
 rw[d];show (firstsD<|rs.map af).bind _=_;rw[Pm];show (if _ then _ else _)=_;rw[if_pos ⟨nd,by rw[ab];exact h⟩,LP rs af λa _ b _=>rfl];rfl
def IQ(rs):(rQ rs).Perm rs:=gk _ _
def FX(fn:dG):Prop:=∀p (m:Nat),1<=m->m<=8->∃r a,fn (pD p) [.int m]=ac (r,a)/\∃(rs:Fl) (b:Int×Int),r=.O (ai rs)/\a=pD b/\Drawn rs
theorem Uy(T:Txt mg)(p1:aY P w K mg base "_law_draw" 1 (eJ K 0 Vb))(V:nJ Vb)(p2:aY P w K mg base "_law_names" 2 (eJ K 0 Vc))(s2:DY Vc)(p3:aY P w K mg base "_law_cut" 2 (eJ K 0 Vd))(s3:CL Vd)(F:bc K "_law_floor" "_law_floor" xa f fd):∃fn,a9 P w K mg base aZ 3 f fd ["_law_purse_here","_law_most"] (eJ K 0 fn)/\FX fn:=by
 refine' oW F CV ρ ?hb ?post
 case hb=>have nd:=CV.nd;have lk:kN "_law_purse_here":=⟨trivial⟩;walk_at "h"
 intro p m m1 m8;refine' qY ρ ?w;obtain⟨r,c1,e1,a,q1,rfl,rfl,hl,Vs,Ve⟩:=s2 p m m8;have U:∀j:Nat,j<m->∃x,a[j]?=ac x/\cC (.L<|a.map .str) (.int (j:Int))=ac (.str x):=λj hj=>by have Vf:j<a.length:=⋯;refine⟨a[j],bt Vf,?_⟩;exact kJ (by rw[c6,bt Vf];rfl)
 refine' ah<|aG (dz ρ (ae ρ ao) ρ e1 ρ) ρ<|aq ?_;obtain⟨D,w0,i0⟩:=U 0 (by lia);obtain⟨G,q2,t2,a2,b2⟩:=V q1 (m:=400) ⋯ ⋯;obtain⟨I,q3,B,a3,b3⟩:=V q2 (m:=400) ⋯ ⋯;have s1:1<=sizeLine:=by unfold cA;decide
 have J:5<=sizeLine:=by unfold cA;decide
 refine' ah<|aG (cR (ae (eV (ae (aI ρ ρ ρ i0)<|ae ρ<|ae ρ<|ae (ag (aw ρ (ag (dz ρ (ae ρ ao) ρ t2 ρ) ρ) ρ) ρ)<|ae (ag (aw ρ (ag (dz ρ (ae ρ ao) ρ B ρ) ρ) ρ) ρ) ao) J) ao) s1) ρ<|aq ?_;obtain⟨c,q4,t4,a4,b4⟩:=V q3 (m:=(m:Int)) (by omega) (by omega);refine' ah<|aG (aw ρ (ag (dz ρ (ae ρ ao) ρ t4 ρ) ρ) ρ) ρ<|aq ?_;have tk:∀{j:Nat}{x:eS},a[j]?=ac x->a.take (j+1)=a.take j++[x]:=λ{j x} e=>fy e;refine' ah (WS.mono (Q:=λu=>∃(q:Int×Int) (rs:Fl) (o:Ob),u=.next [.io (pD q),.D<|.int m,.O<|.L<|a.map .str,.O<|ai rs,.D<|.int<|1+c,.no,.no]/\Bd o/\Gd o rs/\rs.map (·.1)=a.take rs.length/\1<=rs.length/\rs.length<=m) ?first ?L)
 case first =>
  have dflt:∀q,∃(W:Int×Int) (rs:Fl) (o:Ob),Out.next [.io (pD q),.D<|.int m,.O<|.L<|a.map .str,.O<|ai [(D,⟨0,0,600+G,600+I⟩)],.D<|.int<|1+c,.no,.no]=.next [.io (pD W),.D<|.int m,.O<|.L<|a.map .str,.O<|ai rs,.D<|.int<|1+c,.no,.no]/\Bd o/\Gd o rs/\rs.map (·.1)=a.take rs.length/\1<=rs.length/\rs.length<=m:=λq=>⟨q,_,⟨0,0,600+G,600+I⟩,ρ,⟨ρ,ρ,show 0<600+G by omega,show 600+G<=999 by omega,show 0<600+I by omega,show 600+I<=999 by omega⟩,Gd.one D ⟨show 0<600+G by omega,show 0<600+I by omega⟩,by have:=tk w0;rw[Z8] at this;exact this.symm,eK _,m1⟩
  obtain⟨v5,q5,v,a5,b5⟩:=V q4 (m:=2) (by decide) (by decide);have g4:fx (bW (fw (λ_ _=>true) λi j=>Dat.bl<|am<|j<i) (cI 4)<|fC<|.int 4) [.io (pD q4),.D<|.int m,.O<|.L<|a.map .str,.O<|ai [(D,⟨0,0,600+G,600+I⟩)],.D<|.int<|1+c,.no,.no]=ac (am<|4<1+c,_):=bK<|aw ρ ρ ρ;refine' mV<|F3<|vc g4 ⟨λh=>?_,λ_=>⟨nofun,λ_=>aU<|dflt q4⟩⟩;have h:4<1+c:=of_decide_eq_true h;refine' vc (bK<|aw (ag (dz ρ (ae ρ ao) ρ v ρ) ρ) ρ<|eq_int _ _) ⟨λ_=>?_,λ_=>aU<|dflt q5⟩;obtain⟨x1,w1,i1⟩:=U 1 (by omega);obtain⟨x2,w2,i2⟩:=U 2 (by omega);obtain⟨x3,w3,i3⟩:=U 3 (by omega);obtain⟨x4,w4,i4⟩:=U 4 (by omega);have s3:3<=sizeLine:=by unfold cA;decide
  have s2:2<=sizeLine:=by unfold cA;decide
  refine' ah<|aG (Z2:=[.io (pD q5),.D<|.int m,.O<|.L<|a.map .str,.O<|ai [(D,⟨0,0,200,100⟩),(x1,⟨200,0,300,200⟩),(x2,⟨100,200,300,300⟩)],.D<|.int<|1+c,.no,.no]) (cR (ae (eV (ae (aI ρ ρ ρ i0) ρ) J)<|ae (eV (ae (aI ρ ρ ρ i1) ρ) J)<|ae (eV (ae (aI ρ ρ ρ i2) ρ) J) ao) s3) ρ<|aq ?_;refine' ah<|aG (Z2:=[.io (pD q5),.D<|.int m,.O<|.L<|a.map .str,.O<|ai [(D,⟨0,0,200,100⟩),(x1,⟨200,0,300,200⟩),(x2,⟨100,200,300,300⟩),(x3,⟨0,100,100,300⟩),(x4,⟨100,100,200,200⟩)],.D<|.int<|1+c,.no,.no]) (aw ρ (ag (cR (ae (eV (ae (aI ρ ρ ρ i3) ρ) J)<|ae (eV (ae (aI ρ ρ ρ i4) ρ) J) ao) s2) ρ) ρ) ρ<|aq<|aU ?_;refine⟨q5,_,⟨0,0,300,300⟩,ρ,⟨ρ,ρ,by decide,by decide,by decide,by decide⟩,(λa b c d e=>by
    refine⟨Cuts.Ux,λp=>?_⟩;have key:∀q∈dc [⟨0,0,200,100⟩,⟨200,0,300,200⟩,⟨100,200,300,300⟩,⟨0,100,100,300⟩,⟨100,100,200,200⟩],(dc [⟨0,0,200,100⟩,⟨200,0,300,200⟩,⟨100,200,300,300⟩,⟨0,100,100,300⟩,⟨100,100,200,200⟩]).count q<=3:=by decide +kernel
    by_cases h:p∈dc [⟨0,0,200,100⟩,⟨200,0,300,200⟩,⟨100,200,300,300⟩,⟨0,100,100,300⟩,⟨100,100,200,200⟩]
    ·exact key p h
    show (dc [⟨0,0,200,100⟩,⟨200,0,300,200⟩,⟨100,200,300,300⟩,⟨0,100,100,300⟩,⟨100,100,200,200⟩]).count p<=3;rw[abf.2 h]
    lia) D x1 x2 x3 x4,?_,by simp,by simp;omega⟩
  show [D,x1,x2,x3,x4]=a.take 5;rw[tk w4,tk w3,tk w2,tk w1,tk w0];rfl
 case L =>
  rintro _ ⟨q,b,o,rfl,bo,g0,en,l1,lm⟩;refine' aq ?_;have ln:dD (ai b)=ac b.length:=by simp[ai,dD]
  refine' ah (dB (λk Z=>∃(q:Int×Int) (rs:Fl) (B v:Slot),Z=[.io (pD q),.D<|.int m,.O<|.L<|a.map .str,B,.D<|.int<|1+c,v,.no]/\Hd B (ai rs)/\Fr v/\Gd o rs/\1<=rs.length/\rs.length<=b.length+k/\(rs.map (·.1)).Nodup/\∀y∈rs.map (·.1),y∈a.take (b.length+k)) (N3 (ae (gq ρ ln)<|ae ρ ao) ⟨by omega,by omega,by omega,by omega⟩) ⟨q,b,_,_,ρ,ι ρ,ι ρ,g0,l1,eK _,by rw[en];exact l4 (aaj _ _) Ve,λy M=>by rw[en] at M;exact M⟩ ?st ?fin)
  case st =>
   rintro k x hx _ ⟨q,rs,B,v,rfl,h3,f5,g,X,Vg,Y,C⟩;obtain⟨hk,rfl⟩:=Nw hx;obtain⟨x,wx,ix⟩:=U (b.length+k) (by omega);have ix:cC (.L<|a.map .str) (.int<|(b.length:Int)+k)=ac (.str x):=ix;refine⟨[.io (pD q),.D<|.int m,.O<|.L<|a.map .str,B,.D<|.int<|1+c,.D<|.int<|(b.length:Int)+k,.no],by rcases f5 with rfl|⟨d,rfl⟩<;>rfl,?_⟩;obtain⟨r,c1,ec,l,W,er,rfl,g',R⟩:=s3 q rs x o bo g X (by omega);have f3:cI 3 [.io (pD q),.D<|.int m,.O<|.L<|a.map .str,B,.D<|.int<|1+c,.D<|.int<|(b.length:Int)+k,.no]=ac (ai rs,[.io (pD q),.D<|.int m,.O<|.L<|a.map .str,.D<|ai rs,.D<|.int<|1+c,.D<|.int<|(b.length:Int)+k,.no]):=by rcases h3 with rfl|rfl<;>rfl
   have tw:=tk wx;have nx:x∉a.take (b.length+k):=λz=>by have:=l4 (aaj (b.length+k+1) a) Ve;rw[tw,YU] at this;exact this.2.2 x z x (by simp) ρ
   have key:∃t,lR 3 r [.io (pD W),.D<|.int m,.O<|.L<|a.map .str,.D<|ai rs,.D<|.int<|1+c,.D<|.int<|(b.length:Int)+k,.no]=ac [.io (pD W),.D<|.int m,.O<|.L<|a.map .str,t,.D<|.int<|1+c,.D<|.int<|(b.length:Int)+k,.no]/\Hd t (ai l):=by
    cases r with
    | D d=>exact⟨_,ρ,τ (by rw[<-er];rfl)⟩
    | O d=>exact⟨_,ρ,ι (by rw[<-er];rfl)⟩
   obtain⟨t,e3,be⟩:=key;refine' ah<|aG (dz ρ (ae f3<|ae (aI ρ ρ ρ ix) ao) ρ ec ρ) e3<|aq<|aU ⟨W,l,t,_,ρ,be,τ ⟨_,ρ⟩,g',?_,?_,?_,?_⟩
   ·rcases R with rfl|N
    ·exact X
    have:=N.length_eq;rw[ab,gW] at this;omega
   ·rcases R with rfl|N
    ·omega
    have:=N.length_eq;rw[ab,gW,ab] at this;omega
   ·rcases R with rfl|N
    ·exact Y
    exact N.nodup_iff.2<|qh.2 ⟨λz=>nx<|C x z,Y⟩
   intro y M;show y∈a.take (b.length+k+1);rw[tw,eH];rcases R with rfl|N
   ·exact ι<|C y M
   rcases eW.1 (N.mem_iff.1 M) with rfl|z
   ·exact τ (by simp)
   exact ι<|C y z
  rintro _ ⟨q,rs,B,v,rfl,h3,f5,g,X,Vg,Y,C⟩;have hlen:(dJ (b.length:Int)<|1+c).length<=8-b.length:=by unfold dJ;rw[ab,l5];omega
  have h8:rs.length<=8:=by omega
  have VA:∀y∈rs.map (·.1),dX y=bd:=λy M=>Vs y<|YW<|C y M;clear C Vg;obtain⟨v6,O,t6,a6,b6⟩:=V q (m:=2) (by decide) (by decide);refine' aq (ah (WS.mono (Q:=λu=>∃(l:Fl) (t t6:Slot),u=.next [.io (pD O),.D<|.int m,.O<|.L<|a.map .str,t,.D<|.int<|1+c,v,t6]/\Hd t (ai l)/\Gd o l/\l.map (·.1)=rs.map (·.1)) (dm (bK<|aw (ag (dz ρ (ae ρ ao) ρ t6 ρ) ρ) ρ<|eq_int _ _) ?yes ?no) ?L))
  case no=>exact λ_=>aU ⟨rs,B,_,ρ,h3,g,ρ⟩
  case yes =>
   intro _;have sz:rs.length<=sizeLine:=by unfold cA;omega
   have f3:alt (jU<|cI 3) (kj<|cI 3) [.io (pD O),.D<|.int m,.O<|.L<|a.map .str,B,.D<|.int<|1+c,v,.no]=ac (rs.map af,[.io (pD O),.D<|.int m,.O<|.L<|a.map .str,.D<|ai rs,.D<|.int<|1+c,v,.no]):=bB (by rcases h3 with rfl|rfl<;>rfl);have mx:fA (rs.map λy=>y.2.r)=o.r:=(g.m9 bo).1;have bm:=jZ (λy:eS×Ob=>y.2.r) (cs:=rs) (λe=>by rw[e] at X;simp at X);rw[mx] at bm;refine' ah<|aG (Z2:=[.io (pD O),.D<|.int m,.O<|.L<|a.map .str,.D<|ai rs,.D<|.int<|1+c,v,.D<|.int o.r]) (az (ae (ag (cc (enc:=af) (xs:=rs) (λy=>[.no,.D<|af y]) (λy=>.int y.2.r) f3 ρ sz ?a1 (λy _=>aI ρ ρ ρ ρ)<|λ_ _=>rfl) ρ) ao) bm) ρ<|aq ?_
   case a1=>rintro y _ Z (rfl|⟨z,rfl⟩)<;>rfl
   refine' ah<|aG (Z2:=[.io (pD O),.D<|.int m,.O<|.L<|a.map .str,.O<|ai (rs.map λy=>(y.1,nc o.r y.2)),.D<|.int<|1+c,v,.D<|.int o.r]) (cc (enc:=af) (xs:=rs) (λy=>[.no,.D<|af y,.D<|.int o.r]) (λy=>af (y.1,nc o.r y.2)) (bB ρ) ρ sz ?a2 (λy _=>eV (ae (aI ρ ρ ρ ρ)<|ae (ag (aw ρ (aI ρ ρ ρ ρ) ρ) ρ)<|ae (aI ρ ρ ρ ρ)<|ae (ag (aw ρ (aI ρ ρ ρ ρ) ρ) ρ)<|ae (aI ρ ρ ρ ρ) ao) J)<|λ_ _=>rfl) ?a3<|aq<|aU ⟨_,_,_,ρ,ι ρ,g.vM bo,?a4⟩
   case a2=>rintro y _ Z (rfl|⟨z,rfl⟩)<;>rfl
   case a3=>unfold ai;rw[fm];rfl
   rw[fm];rfl
  case L =>
   rintro _ ⟨l,t,VC,rfl,be,g',S⟩;have Vh:l.length=rs.length:=by have:=congrArg List.length S;rw[ab,ab] at this;exact this
   have pm:=IQ l;refine' aq<|ah<|bH (dM<|az (ae (Z1:=[.io (pD O),.D<|.int m,.O<|.L<|a.map .str,.D<|ai l,.D<|.int<|1+c,v,VC]) ?b1 ao)<|Pe (λe=>by rw[e] at Vh;simp at Vh;omega) (by rw[S];exact Y) (by omega))<|cN ⟨_,_,_,ρ,ρ,rQ l,O,ρ,ρ,(g'.perm pm).drawn bo (by rw[pm.length_eq];omega) (λx hx=>VA _ (by rw[<-S];exact a8.2 ⟨x,pm.mem_iff.1 hx,ρ⟩)) ((pm.map _).nodup_iff.2 (by rw[S];exact Y))⟩;rcases be with rfl|rfl<;>rfl
def Fk(fn:aN):Prop:=∀(x y:eS×Ob) (k:Nat),k=1\/k=2->x.2.ok->y.2.ok->fn [af x,af y,.int (k:Int)]=ac (.D<|.bl<|dS k x.2 y.2)
def rj (a:k=1\/k=2)(c:x.ok)(d:y.ok):am ((if co k y>co k x then co k y else co k x)<(if co (k+2) y<co (k+2) x then co (k+2) y else co (k+2) x))=dS k x y:=by
 delta Ob.ok at c d;rw[tz,decide_eq_true_eq];rcases a with rfl|rfl
 ·show (if y.l>x.l then y.l else x.l)<(if y.r<x.r then y.r else x.r) ↔ (am (x.l<y.r)&&am (y.l<x.r))=bd;simp;split<;>split<;>omega
 show (if y.b>x.b then y.b else x.b)<(if y.t<x.t then y.t else x.t) ↔ (am (x.b<y.t)&&am (y.b<x.t))=bd;simp;split<;>split<;>omega
noncomputable def bR(k:Nat):Nat:=if k=0\/k=2 then 2 else 1
noncomputable def iQ(k:Nat):Int:=if k<2 then 1 else -1
def gn(rs:Fl)(x:Ob)(k:Nat):List (Int×eS):=(rs.filter λy=>bZ k x y.2).map λy=>(co (3-bR k) y.2,y.1)
def rW(k:Nat)(x y:Ob):Bool:=if k<2 then am (co (bR k+2) x=co (bR k) y) else am (co (bR k) x=co (bR k+2) y)
def Ui (c:k<4)(x y):bZ k x y=(rW k x y&&dS (3-bR k) x y):=by
 have c:k=0\/k=1\/k=2\/k=3:=⋯;rcases c with rfl|rfl|rfl|rfl
 ·show (am (y.b=x.t)&&dS 1 x y)=(am (x.t=y.b)&&dS 1 x y);rw[decide_eq_decide.2 (eq_comm)]
 ·show (am (y.l=x.r)&&dS 2 x y)=(am (x.r=y.l)&&dS 2 x y);rw[decide_eq_decide.2 (eq_comm)]
 ·show (am (y.t=x.b)&&dS 1 x y)=(am (x.b=y.t)&&dS 1 x y);rw[decide_eq_decide.2 (eq_comm)]
 show (am (y.r=x.l)&&dS 2 x y)=(am (x.l=y.r)&&dS 2 x y);rw[decide_eq_decide.2 (eq_comm)]
def Gh(fn:aN):Prop:=∀(rs:Fl) (x:eS×Ob) (k:Nat),k<4->rs.length<64->x.2.ok->(∀y∈rs,y.2.ok)->((gn rs x.2 k).map (·.1)).Nodup->fn [ai rs,af x,.int (bR k:Int),.int<|iQ k]=ac (.O (.L (((cD<|gn rs x.2 k).map (·.2)).map .str)))
theorem Om (b:(l.map (·.1)).Nodup)(hz:l.length<64)(a:fa Z=ac ([.L (l.map cG)],Z1)):alt (bO jv fa) (alt (bO oF fa)<|bO oO fa) Z=ac (.O<|.L<|(cD l).map cG,Z1):=by
 cases l with
 | nil =>
  refine dM<|az a ?_;have:cD []=[]:=by unfold cD;simp
  rw[this];apply (qK (l:=[]) (by decide)).trans;simp[aB]
 | cons p l=>refine ot ?_<|dM<|az a<|GY b hz;unfold bO;rw[a];rfl
def MI(T:Txt mg)(N:aY P w K mg base "_law_meets" 1 (aD K l))(O:Fk l)(F:bc K "_law_side" "_law_side" ze f r):∃fn,a9 P w K mg base aZ 2 f r ["_law_rows","_law_one","_law_low","_law_way"] (aD K fn)/\Gh fn:=by
 refine' bT F Ap ρ ?Q ?B
 case Q=>walk_at "h"
 intro rs x k R hz S U V;refine' ck ρ ?w;have hl:bR k=1\/bR k=2:=by unfold bR;split<;>simp
 have t:∀y,cC (af y) (.int (bR k:Int))=ac (.int<|co (bR k) y.2):=λy=>j9 y (by omega);have u:∀y,cC (af y) (.int<|(bR k:Int)+2)=ac (.int<|co (bR k+2) y.2):=λy=>j9 y (k:=bR k+2) (by omega);have v:(3:Int)-(bR k:Int)=((3-bR k:Nat):Int):=by omega
 have W:∀y,cC (af y) (.int<|(3:Int)-(bR k:Int))=ac (.int<|co (3-bR k) y.2):=λy=>by rw[v];exact j9 y (by lia)
 have X:nG [.bl (am<|iQ k=1)]=ac (.D<|.int (if k<2 then 1 else 0)):=by
  delta iQ;by_cases h:k<2
  ·rw[if_pos h,if_pos h];rfl
  rw[if_neg h,if_neg h];rfl
 refine' ah<|aG (cR ao<|pe _) ρ<|aq ?_;have fs:∀j y,rs[j]?=ac y->(((rs.take<|j+1).filter λy=>bZ k x.2 y.2).map λy:eS×Ob=>cG (co (3-bR k) y.2,y.1))=(((rs.take j).filter λy=>bZ k x.2 y.2).map λy:eS×Ob=>cG (co (3-bR k) y.2,y.1))++(if bZ k x.2 y.2 then [cG (co (3-bR k) y.2,y.1)] else []):=λj y e=>by
  rw[fy e,abe,ft];congr 1
  by_cases h:bZ k x.2 y.2=bd
  ·rw[if_pos h,wy,if_pos h];rfl
  rw[if_neg h,wy,if_neg h];rfl
 refine' ah<|dB (λj Z=>∃c a,Fr c/\Fr a/\Z=[.D (ai rs),.D<|af x,.D<|.int<|bR k,.D<|.int<|iQ k,.O<|.L (((rs.take j).filter λy=>bZ k x.2 y.2).map λy:eS×Ob=>cG (co (3-bR k) y.2,y.1)),c,a]) (bB ρ) ⟨_,_,ι ρ,ι ρ,ρ⟩ ?st ?C
 case st =>
  rintro j d hd _ ⟨c,a,D,G,rfl⟩;rw[c6] at hd;obtain⟨y,I,rfl⟩:=gf.1 hd;have Y:=eR I;rw[fs j y I];have m:(((rs.take j).filter λy=>bZ k x.2 y.2).map λy:eS×Ob=>cG (co (3-bR k) y.2,y.1)).length<sizeLine:=by rw[ab];refine He (pl _ _) ?_;rw[ib];delta cA;omega
  generalize (((rs.take j).filter λy=>bZ k x.2 y.2).map λy:eS×Ob=>cG (co (3-bR k) y.2,y.1))=g at *;refine⟨[.D (ai rs),.D<|af x,.D<|.int<|bR k,.D<|.int<|iQ k,.O<|.L g,.D<|af y,a],by rcases D with rfl|⟨d,rfl⟩<;>rfl,?_⟩;have pick:cC (.L [.bl (am<|co (bR k) x.2=co (bR k+2) y.2),.bl<|am<|co (bR k+2) x.2=co (bR k) y.2]) (.int (if k<2 then 1 else 0))=ac (.bl<|rW k x.2 y.2):=by
   delta rW;by_cases h:k<2
   ·rw[if_pos h,if_pos h];rfl
   rw[if_neg h,if_neg h];rfl
  have o:=Ui R x.2 y.2;have J:=O x y (3-bR k) (by omega) S<|U y Y;rw[<-v] at J;have L:2<=sizeLine:=by unfold cA;decide
  refine' ah<|aG (Z2:=[.D (ai rs),.D<|af x,.D<|.int<|bR k,.D<|.int<|iQ k,.O<|.L g,.D<|af y,.D<|.bl<|rW k x.2 y.2]) (v_res<|zT (ag (cR (ae (ag (aw (aI ρ ρ ρ<|t x) (aI ρ (ag (aw ρ ρ ρ) ρ) ρ<|u y)<|eq_int _ _) ρ)<|ae (ag (aw (aI ρ (ag (aw ρ ρ ρ) ρ) ρ<|u x) (aI ρ ρ ρ<|t y)<|eq_int _ _) ρ) ao) L) ρ) (ag (az (ae (ag (aw ρ ρ<|eq_int _ _) ρ) ao) X) ρ) pick) ?b1<|aq ?b2
  case b1=>rcases G with rfl|⟨d,rfl⟩<;>rfl
  generalize rW k x.2 y.2=i at *;have no:bZ k x.2 y.2=bi->∃c a,Fr c/\Fr a/\[.D (ai rs),.D<|af x,.D<|.int<|bR k,.D<|.int<|iQ k,.O<|.L g,.D<|af y,.D<|.bl i]=[.D (ai rs),.D<|af x,.D<|.int<|bR k,.D<|.int<|iQ k,.O<|.L<|g++if bZ k x.2 y.2=bd then [cG (co (3-bR k) y.2,y.1)] else [],c,a]:=λh=>⟨_,_,τ ⟨_,ρ⟩,τ ⟨_,ρ⟩,by rw[h,if_neg (by simp),px]⟩;refine' ah<|dm (b:=i) (fQ ρ ρ) (λh=>?_)<|λh=>aU<|aq<|aU<|no (by rw[o,h];rfl);refine' ah<|dm (b:=dS (3-bR k) x.2 y.2) (fQ (ag (az (ae ρ<|ae ρ<|ae (ag (aw ρ ρ ρ) ρ) ao) J) ρ) ρ) (λq=>?_)<|λq=>aU<|aq<|aU<|aq<|aU<|no (by rw[o,h,q];rfl);have e:bZ k x.2 y.2=bd:=by rw[o,h,q];rfl
  refine' ah<|jS (ly (d:=cG (co (3-bR k) y.2,y.1)) ρ (ae (eV (ae (aI ρ (ag (aw ρ ρ ρ) ρ) ρ<|W y)<|ae (aI ρ ρ ρ ρ) ao) L) ao) m)<|aq<|aU<|aq<|aU<|aq<|aU ⟨.D<|af y,.D<|.bl i,τ ⟨af y,ρ⟩,τ ⟨.bl i,ρ⟩,?_⟩;rw[if_pos e];rfl
 rintro _ ⟨c,a,D,G,rfl⟩;rw[ab,nk];have ep:((rs.filter λy=>bZ k x.2 y.2).map λy:eS×Ob=>cG (co (3-bR k) y.2,y.1))=(gn rs x.2 k).map cG:=by unfold gn;rw[fm];rfl
 have M:(gn rs x.2 k).length<64:=by unfold gn;rw[ab];exact He (pl _ _) hz
 rw[ep];have e2:=Om (fa:=dQ (cI 4) gg) (Z:=[.D (ai rs),.D<|af x,.D<|.int<|bR k,.D<|.int<|iQ k,.O<|.L<|(gn rs x.2 k).map cG,c,a]) V M<|ae ρ ao;refine' aq<|ah<|bH (cc (enc:=cG) (xs:=cD<|gn rs x.2 k) (λp=>[.no,.D<|.int p.1,.D<|.str p.2]) (λp=>.str p.2) (bB<|ag e2 ρ) ρ ?b3 ?b4 (λ_ _=>rfl)<|λ_ _=>rfl)<|cN ?b9
 case b3=>rw[mO];unfold cA;omega
 case b4=>rintro y _ Z (rfl|⟨z,rfl⟩)<;>rfl
 rw[fm];exact⟨_,ρ⟩
def bU(rs:Fl)(x:Ob)(k:Nat):List Str:=if (cD<|gn rs x k).map (·.2)=[] then [aK k] else (cD<|gn rs x k).map (·.2)
theorem vn (h:f Z=ac (.L<|l.map .str,Z1))(b:g Z1=ac (.L [.str x],Z1)):og f g Z=ac (.L<|(if l=[] then [x] else l).map .str,Z1):=by
 delta og;rw[h];cases l with
 | nil=>exact b
 | cons a l=>rfl
def zM (h:f Z=ac (.L ds,Z1))(a:g Z1=ac (.int<|-1,Z2)):u7 f g Z=ac (.O<|.L ds.reverse,Z2):=by delta u7;rw[h];show (g Z1).bind _=_;rw[a];rfl
def sZ(a b:List eS)(h1:a.length<=1000)(h2:b.length<=1000):fq (.L<|a.map .str) (.L<|b.map .str)=ac (.O<|.L<|(a++b).map .str):=by rw[ft];exact if_pos (by rw[ab,ab];unfold cA;omega)
def La (x)(k)(h:rs.length<64):(bU rs x k).length<=100:=by
 delta bU;split
 ·simp
 rw[ab,mO];delta gn;rw[ab];exact nE (pl _ _) (by lia)
def EV(fn:aN):Prop:=∀(rs:Fl) (x:eS×Ob),rs.length<64->x.2.ok->(∀y∈rs,y.2.ok)->(∀k,k<4->((gn rs x.2 k).map (·.1)).Nodup)->fn [ai rs,af x]=ac (.O<|.L<|(bU rs x.2 0++(bU rs x.2 1).reverse++(bU rs x.2 2).reverse++bU rs x.2 3).map .str)
def LR(T:Txt mg)(i:aY P w K mg base "_law_side" 2 (aD K b))(j:Gh b)(F:bc K "_law_neighbours" "_law_neighbours" zu f c):∃fn,a9 P w K mg base aZ 3 f c ["_law_rows","_law_one"] (aD K fn)/\EV fn:=by
 refine' bT F Eg ρ ?I ?G
 case I=>walk_at "h"
 intro rs x hz m o p;refine' ck ρ ?w;have e:=λk d=>j rs x k d hz m o<|p k d;have l:=λk=>La (rs:=rs) x.2 k hz;have a:1<=sizeLine:=by simp[cA]
 refine' ah<|aG (v_res<|vn (ag (az ρ<|e 0 ⋯) ρ)<|ag (cR (ae ρ ao) a) ρ) ρ<|aq ?_;refine' ah<|aG (v_res<|vn (ag (az (by rfl)<|e 1 (by decide)) ρ)<|ag (cR (ae ρ ao) a) ρ) ρ<|aq ?_;refine' ah<|aG (Z2:=[.D (ai rs),.D<|af x,.D<|.L<|(bU rs x.2 0).map .str,.D<|.L<|(bU rs x.2 1).map .str,.D<|.L<|(bU rs x.2 2).map .str,.no]) (v_res<|vn (ag (az (by rfl)<|e 2 (by decide)) ρ)<|ag (cR (ae ρ ao) a) ρ) ρ<|aq ?_;refine' ah<|aG (Z2:=[.D (ai rs),.D<|af x,.D<|.L<|(bU rs x.2 0).map .str,.D<|.L<|(bU rs x.2 1).map .str,.D<|.L<|(bU rs x.2 2).map .str,.D<|.L<|(bU rs x.2 3).map .str]) (v_res<|vn (ag (az (by rfl)<|e 3 (by decide)) ρ)<|ag (cR (ae ρ ao) a) ρ) ρ<|aq ?_;have l0:=l 0;have l1:=l 1;have l2:=l 2;have l3:=l 3;generalize bU rs x.2 0=A at *;generalize bU rs x.2 1=B at *;generalize bU rs x.2 2=C at *;generalize bU rs x.2 3=D at *;have g:=sZ A B.reverse (by omega) (by rw[zR];omega);have h:=sZ (A++B.reverse) C.reverse (by rw[eu,zR];omega) (by rw[zR];omega);have q:=sZ (A++B.reverse++C.reverse) D (by rw[eu,eu,zR,zR];omega) (by omega);rw[Y1] at g h;exact ah<|bH (aw (ag (aw (ag (aw ρ (ag (zM ρ ρ) ρ) g) ρ) (ag (zM ρ ρ) ρ) h) ρ) ρ q)<|cN ⟨_,ρ⟩
def DC(fn:aN):Prop:=∀(rs:Fl),rs.length<64->(∀y∈rs,y.2.ok)->(∀x∈rs,∀k,k<4->((gn rs x.2 k).map (·.1)).Nodup)->fn [ai rs]=ac (.O<|.L<|(rs.map λx=>(x.1,bU rs x.2 0++(bU rs x.2 1).reverse++(bU rs x.2 2).reverse++bU rs x.2 3)).map pairD)
def Kg(T:Txt mg)(e:aY P w K mg base "_law_neighbours" 3 (aD K a))(g:EV a)(F:bc K "_law_web" "_law_web" zf f b):∃fn,a9 P w K mg base aZ 4 f b ["_law_rows"] (aD K fn)/\DC fn:=by
 refine' bT F GW ρ ?C ?B
 case C=>walk_at "h"
 intro rs hz c h;refine' ck ρ ?w;have sz:rs.length<=sizeLine:=by unfold cA;lia
 have i:2<=sizeLine:=by unfold cA;decide
 refine' ah<|bH (cc (λy=>[.no,.D<|af y,.D<|ai rs]) (λx=>pairD (x.1,bU rs x.2 0++(bU rs x.2 1).reverse++(bU rs x.2 2).reverse++bU rs x.2 3)) (bB ρ) ρ sz ?D (λy d=>eV (ae (aI ρ ρ ρ ρ)<|ae (ag (az (ae ρ<|ae ρ ao)<|g rs y hz (c y d) c<|h y d) ρ) ao) i)<|λ_ _=>rfl)<|cN ?G
 case D=>rintro y _ Z (rfl|⟨z,rfl⟩)<;>rfl
 rw[fm];exact⟨_,ρ⟩
def Hm (hw:fF web)(bI:1<=web.length/\web.length<=8)(nm:∀p∈web,dX p.1=bd):cV web:=by refine⟨bI,nm,hw.C.jO,λp b=>?_⟩;have a:p.1∈web.map (·.1):=a8.2 ⟨p,b,ρ⟩;have c:=hw.C.len p.1 a;have d:=hw.C.nd p.1 a;have f:=hw.C.mem p.1 a;have g:=hw.C.gh p.1 a;rw[eF hw.C.jO b] at c d f g;exact⟨c,d,λn h=>⟨f n h,λz=>g<|z ▸ h⟩⟩
def qf(web a:bD):Prop:=(a.map (·.1)).Perm (web.map (·.1))/\∀z∈a,∃p∈web,p.1=z.1/\hX p.2 z.2
theorem qf.ok{web a:bD}(t:qf web a)(h:cV web)(hw:fF web):cV a/\fF a:=by
 have nd:=t.1.nodup_iff.2 h.nd;have c:fF a:=oK.turn hw t.1 fun x d=>by obtain⟨z,hz,rfl⟩:=a8.1<|t.1.mem_iff.2 d;obtain⟨p,b,e,f⟩:=t.2 z hz;rwa[eF nd hz,<-e,eF h.nd b]
 have hl:=t.1.length_eq;rw[ab,ab] at hl;have bI:=h.bI;refine⟨Hm c (by lia) fun z hz=>?_,c⟩;obtain⟨p,b,e,_⟩:=t.2 z hz;rw[<-e];exact h.nm p b
def Fm(L:Fl)(g:Ob->Int):(cD (L.map λy=>(g y.2,y.1))).map (·.2)=(L.mergeSort λa b=>am<|g a.2<=g b.2).map (·.1):=by delta cD;rw[<-Yz (f:=λy:eS×Ob=>(g y.2,y.1)) (λa _ b _=>rfl),fm];rfl
def Oy{L:Fl}{g:Ob->Int}(nd:(L.map λy=>g y.2).Nodup):(L.mergeSort λa b=>am<|-g a.2 <= -g b.2)=(L.mergeSort λa b=>am<|g a.2<=g b.2).reverse:=by
 have i:=gk L λa b=>am<|-g a.2 <= -g b.2;have j:=gk L λa b=>am<|g a.2<=g b.2;have m:=ub (le:=λa b:eS×Ob=>am<|-g a.2 <= -g b.2) (λa b c d f=>by simp at *;omega) (λa b=>by simp;omega) L;have n:=ub (le:=λa b:eS×Ob=>am<|g a.2<=g b.2) (λa b c d f=>by simp at *;omega) (λa b=>by simp;omega) L;refine nr (R:=λa b=>g b.2<=g a.2/\a∈L/\b∈L) (λa b d f=>?_) (i.trans<|j.symm.trans (abu _).symm) ?_ ?_
 ·rcases jq (gd.1 nd) d.2.1 d.2.2 with e|e|e
  ·exact e
  ·exact absurd (aca f.1 d.1) e
  exact absurd (aca d.1 f.1) e
 ·refine m.imp_of_mem λ{a b} k l h=>⟨?_,i.mem_iff.1 k,i.mem_iff.1 l⟩;lia
 rw[acR];exact n.imp_of_mem λ{a b} k l h=>⟨of_decide_eq_true h,j.mem_iff.1 l,j.mem_iff.1 k⟩
def Fp (d:k<4)(f:ve rs x):((gn rs x k).map (·.1)).Nodup/\(if k=0\/k=3 then bU rs x k else (bU rs x k).reverse)=dv rs x k:=by
 have nd:=f k d;unfold fS at nd;rw[fm] at nd;delta bU dv gn fS;generalize (rs.filter λy=>bZ k x y.2)=L at *;have em:∀g:Ob->Int,(cD (L.map λy=>(g y.2,y.1))).map (·.2)=[] ↔ (L.map λy:eS×Ob=>(cz k y.2,y.1))=[]:=λg=>by rw[zd,zd,<-Yr,mO,ab,Yr]
 have d:k=0\/k=3\/k=1\/k=2:=by omega
 have ab5:∀{g:Ob->Int},(∀y,cz k y=g y)->((L.map λy=>(g y.2,y.1)).map (·.1)).Nodup/\(if (cD (L.map λy=>(g y.2,y.1))).map (·.2)=[] then [aK k] else (cD (L.map λy=>(g y.2,y.1))).map (·.2))=(if (L.map λy:eS×Ob=>(cz k y.2,y.1))=[] then [aK k] else (cD (L.map λy:eS×Ob=>(cz k y.2,y.1))).map (·.2)):=λ{g} e=>by simp_all
 have back:∀{g:Ob->Int},(∀y,cz k y=-g y)->((L.map λy=>(g y.2,y.1)).map (·.1)).Nodup/\(if (cD (L.map λy=>(g y.2,y.1))).map (·.2)=[] then [aK k] else (cD (L.map λy=>(g y.2,y.1))).map (·.2)).reverse=(if (L.map λy:eS×Ob=>(cz k y.2,y.1))=[] then [aK k] else (cD (L.map λy:eS×Ob=>(cz k y.2,y.1))).map (·.2)):=λ{g} e=>by have e:cz k=λy=>-g y:=funext e;have c:(L.map λy=>g y.2).Nodup:=gd.2 ((gd.1 nd).imp λ{a b} h z=>by simp_all);refine⟨by rw[fm];exact c,?_⟩;by_cases h:L=[];simp_all;rw[if_neg (λz=>h (by simpa using (em _).1 z)),if_neg (by simpa using h),Fm,Fm,e,Oy c,Y1]
 rcases d with rfl|rfl|rfl|rfl
 ·exact ab5 λy=>rfl
 ·exact ab5 λy=>rfl
 ·exact back λy=>rfl
 exact back λy=>rfl
def R1 (a:ve rs x):bU rs x 0++(bU rs x 1).reverse++(bU rs x 2).reverse++bU rs x 3=dU rs x 4:=by have h:=λk b=>(Fp (k:=k) b a).2;rw[zj,<-h 0 ⋯,<-h 1 ⋯,<-h 2 ⋯,<-h 3 ⋯];rfl
def l6(rs:Fl):bD:=rs.map λy=>(y.1,dU rs y.2 4)
def Drawn.web (d:Drawn rs):cV (l6 rs)/\fF (l6 rs):=by
 have hw:=d.fl.yi d.mt<|List.Perm.refl _;have b:cV (rs.map λy=>(y.1,mJ<|dU rs y.2 4)):=Hm hw ⟨by rw[ab];exact oy.2 d.fl.ne,by rw[ab];exact d.fl.bI⟩ λz hz=>by obtain⟨y,a,rfl⟩:=a8.1 hz;exact d.fl.nm y a
 refine qf.ok ⟨by unfold l6;rw[fm,fm];exact List.Perm.refl _,λz hz=>?_⟩ b hw;obtain⟨y,a,rfl⟩:=a8.1 hz;exact⟨_,a8.2 ⟨y,a,ρ⟩,ρ,(DH _).symm⟩
def D8(fn:dG):Prop:=∀p (web:bD),1<=web.length->web.length<=8->(∀z∈web,0<z.2.length/\z.2.length<=1000)->∃r a,fn (pD p) [.L (web.map pairD)]=ac (r,a)/\∃(b:bD) (c:Int×Int),r=.O (.L<|b.map pairD)/\a=pD c/\qf web b
def R5(T:Txt mg)(O:aY P w K mg base "_law_draw" 1 (eJ K 0 o))(x:nJ o)(F:bc K "_law_turned_web" "_law_turned_web" wF f C):∃fn,a9 P w K mg base aZ 2 f C ["_law_purse_here","_law_web_here"] (eJ K 0 fn)/\D8 fn:=by
 refine' oW F A4 ρ ?Q ?B
 case Q=>intro cdv A outer s H E D;cases T;have lk:kN "_law_purse_here":=⟨trivial⟩;walk_at "S"
 intro p web h1 h8 D;refine' qY ρ ?w;have R:dD (.L<|web.map pairD)=ac web.length:=by simp[dD]
 obtain⟨v0,t,S,U,b0⟩:=x p (m:=(web.length:Int)) (by omega) ⋯;obtain⟨a,rfl⟩:=y3 U;refine' ah<|aG (dz ρ (ae (gq ρ R) ao) ρ S ρ) ρ<|aq ?_;refine' ah<|aG (cR ao<|pe _) ρ<|aq ?_;have G:eX (.L<|web.map pairD) (ac (a:Int)) al=ac (.O<|.L<|(web.drop a).map pairD):=by show ac (Res.O<|.L<|cutD (web.map pairD) (ac (a:Int)) al)=_;rw[nF,YI]
 have I:eX (.L<|web.map pairD) al (ac (a:Int))=ac (.O<|.L<|(web.take a).map pairD):=by show ac (Res.O<|.L<|cutD (web.map pairD) al<|ac (a:Int))=_;rw[nZ,Zf]
 have ad:fq (.L<|(web.drop a).map pairD) (.L<|(web.take a).map pairD)=ac (.O<|.L<|(web.drop a++web.take a).map pairD):=by rw[ft];exact if_pos (by rw[ab,ab,t9,ib];unfold cA;omega)
 have pm:(web.drop a++web.take a).Perm web:=by apply List.perm_append_comm.trans;rw[YL]
 generalize hL:web.drop a++web.take a=L at *;have ll:=pm.length_eq;refine' ah (dB (λk Z=>∃(q:Int×Int) (b:bD) (i l e:Slot),Z=[.io (pD q),.D<|.L<|web.map pairD,.D<|.int a,.O<|.L<|b.map pairD,i,l,e]/\Fr i/\Fr l/\Fr e/\b.map (·.1)=(L.take k).map (·.1)/\∀z∈b,∃p∈web,p.1=z.1/\hX p.2 z.2) (bB<|ag (aw (ag (iV ρ ρ G) ρ) (ag (mH ρ ρ I) ρ) ad) ρ) ⟨t,[],_,_,_,ρ,ι ρ,ι ρ,ι ρ,ρ,λz hz=>by cases hz⟩ ?st ?J)
 case J=>rintro _ ⟨q,b,i,l,e,rfl,_,_,_,g,hz⟩;rw[ab,nk] at g;exact aq<|ah<|bH ρ<|cN ⟨_,_,_,ρ,ρ,b,q,ρ,ρ,by rw[g];exact pm.map _,hz⟩
 rintro k d hd _ ⟨q,b,i,l,e,rfl,V,W,X,g,hz⟩;rw[c6] at hd;obtain⟨z,u,rfl⟩:=gf.1 hd;have r:=pm.mem_iff.1<|eR u;have hk:=(cm.1 u).1;obtain⟨z1,z2⟩:=D z r;refine⟨[.io (pD q),.D<|.L<|web.map pairD,.D<|.int a,.O<|.L<|b.map pairD,.D<|.str z.1,.D<|.L<|z.2.map .str,e],by rcases V with rfl|⟨d,rfl⟩<;>rcases W with rfl|⟨d,rfl⟩<;>rfl,?_⟩;have Y:dD (.L<|z.2.map .str)=ac z.2.length:=by simp[dD]
 obtain⟨v1,M,t1,a1,N⟩:=x q (m:=(z.2.length:Int)) (by omega) ⋯;obtain⟨c,rfl⟩:=y3 a1;refine' ah<|aG (dz ρ (ae (gq ρ Y) ao) ρ t1 ρ) ?N<|aq ?b2
 case N=>rcases X with rfl|⟨d,rfl⟩<;>rfl
 have r1:eX (.L<|z.2.map .str) (ac (c:Int)) al=ac (.O<|.L<|(z.2.drop c).map .str):=by show ac (Res.O<|.L<|cutD (z.2.map Dat.str) (ac (c:Int)) al)=_;rw[nF,YI]
 have r2:eX (.L<|z.2.map .str) al (ac (c:Int))=ac (.O<|.L<|(z.2.take c).map .str):=by show ac (Res.O<|.L<|cutD (z.2.map Dat.str) al<|ac (c:Int))=_;rw[nZ,Zf]
 have r3:=sZ (z.2.drop c) (z.2.take c) (by rw[t9];omega) (by rw[ib];omega);have lw:b.length=k:=by have:=congrArg List.length g;rw[ab,ab,ib] at this;lia
 have v:(b.map pairD).length<sizeLine:=by rw[ab];delta cA;lia
 have s2:2<=sizeLine:=by unfold cA;decide
 refine' ah<|jS (ly (d:=pairD (z.1,z.2.drop c++z.2.take c)) ρ (ae (eV (ae ρ<|ae (ag (aw (ag (iV ρ ρ r1) ρ) (ag (mH ρ ρ r2) ρ) r3) ρ) ao) s2) ao) v)<|aq<|aU ⟨M,b++[(z.1,z.2.drop c++z.2.take c)],.D<|.str z.1,.D<|.L<|z.2.map .str,.D<|.int c,?_,τ ⟨.str z.1,ρ⟩,τ ⟨.L<|z.2.map .str,ρ⟩,τ ⟨.int c,ρ⟩,?_,?_⟩
 ·rw[ft];rfl
 ·rw[ft,fy u,ft,g];rfl
 intro y h;rcases eH.1 h with h|h
 ·exact hz y h
 rw[kA.1 h];exact⟨z,r,ρ,z.2.take c,z.2.drop c,(YL c z.2).symm,ρ⟩
end
local macro_rules | `(tactic| walk_at "0")=>Mq.fs "DE.alt&tZ rrarA&U0 rarA"
local macro_rules | `(tactic| walk_at "0")=>Mq.fs "DE.alt&wk rrrarA&zx rrarA&tZ rrarA|Rq rarA"
local macro_rules | `(tactic| walk_at "0")=>Mq.fs "JT arrrarA"
local macro_rules | `(tactic| walk_at "0")=>Mq.fs "Jb arrarA"
section
variable{P:hY}{w:nR}{K:f'}{mg:eS->Option cn}{base:nL}
theorem uX:∀a b:List eS,eI (a.map Dat.str) (b.map Dat.str)=am (a=b)
 | [],[]=>rfl
 | [],_::_=>by simp[eI]
 | _::_,[]=>by simp[eI]
 | x::a,y::b=>by show (bV (.str x) (.str y)&&eI (a.map Dat.str) (b.map Dat.str))=_;rw[jB,uX a b,tz];simp
def yP{a b:List eS}(c:∀x∈a,aT x)(d:∀x∈b,aT x):dg true (.L<|a.map .str) (.L<|b.map .str)=ac (.D<|.bl<|!am (a=b)):=by rw[rE (n8 c) (n8 d),kG,uX]
def K5{a b:List eS}(c:∀x∈a,aT x)(d:∀x∈b,aT x):dg false (.L<|a.map .str) (.L<|b.map .str)=ac (.D<|.bl<|am<|a=b):=by rw[v_eq (n8 c) (n8 d),kG,uX]
def jJ:x∈aB l ↔ x∈l:=(gk l cM).mem_iff
def v_allB{a:Type}{enc:a->Dat}{caps:List (Option Nat)}{fi:IF}{g:GF}{fe:DF}{xs:List a}{Z Z1 Z2:DS}(put:a->DS)(B:a->Bool)(b:fi Z=ac (xs.map enc,Z1))(c:bq al caps Z1=Z2)(hz:xs.length<=cA)
 (d:∀x∈xs,∀Z,(Z=cp caps Z2\/∃y,Z=put y)->g (enc x) Z=ac (put x))(e:∀x∈xs,fe (put x)=ac (.bl<|B x,put x))(f:∀x∈xs,noOwn (put x)=bd) :
  bO ny (dQ (fu<|d9 caps al fi g (λZ=>ac (true,Z)) fe) gg) Z=ac (.D<|.bl<|xs.all B,Z2) :=
 az (ae (ag (cc put (λx=>.bl<|B x) b c hz d e f) ρ) ao) (zh B xs)
def vj (e:a.map (·.1)=l)(h:a.length<64):qj [.dn a]=ac (.O<|.L<|(aB l).map .str):=by rw[<-e];exact if_pos h
def Hc (h:l.length<64):uO [.L (l.map .str)]=ac (.O<|.L<|(aB l).map .str):=by have:=mi (λx:eS=>x) l;rw[ZY] at this;show (dF<|l.map .str).bind _=_;rw[this];exact if_pos h
def iq(rs:Fl):bD:=rs.map λx=>(x.1,fP rs x)
def gw(web:bD)(rs:Fl):Bool:=j6 rs&&am (aB (web.map (·.1))=aB (rs.map (·.1)))&&web.all λp=>am<|aB p.2=aB (dI (iq rs) p.1)
def yX(fn:aN):Prop:=∀(web:bD) (rs:Fl),cV web->fF web->iA rs->fn [.L (web.map pairD),ai rs]=ac (.D<|.bl<|gw web rs)
def Js(T:Txt mg)(R:aY P w K mg base "must_web" 4 (aD K o))(S:Bw o)(U:aY P w K mg base "is_any_floor" 3 (aD K q))(V:FO q)(X:aY P w K mg base "all_touching" 4 (aD K t))(Y:EI t)(q4:aY P w K mg base "names_of" 1 (aD K u))(s4:Hj u)(F:bc K "is_floor" "is_floor" v7 f v):∃fn,a9 P w K mg base aZ 5 f v ["web","rows"] (aD K fn)/\yX fn:=by
 refine' bT F Ej ρ ?hb ?D
 case hb=>intro cdv A outer s H E I;cases T;have hl:sX "rings":=⟨trivial⟩;have fz:j2 "rings":=⟨trivial⟩;have fz2:j2 "touched":=⟨trivial⟩;have so1:wo "rings":=⟨trivial⟩;have so2:wo "touched":=⟨trivial⟩;have hl2:sX "touched":=⟨trivial⟩;walk_at "S"
 intro web rs h hw ok;have G:=S web h hw;have B:=V rs ok;have bI:=h.bI;refine' ck ρ ?w;refine' ah<|jS (ag (az (ae ρ ao) G) ρ)<|aq ?_;by_cases e:j6 rs=bd
 case neg=>rw[yv] at e;refine E3 (j3<|fQ (ag (az (ae ρ ao) B) ρ) ρ) (by rw[e];rfl) ρ<|fX ?_;delta gw;rw[e];rfl
 refine eO (j3<|fQ (ag (az (ae ρ ao) B) ρ) ρ) (by rw[e];rfl) ?_;have fl:=((vC rs).1 e).O';have C:=Y rs fl.ne ok.bI fl.nd fl.th;obtain⟨W,l⟩:∃W,W=rs++dZ rs:=⟨_,ρ⟩;rw[<-l] at C;refine' ah<|aG (r:=.D<|bf web) (Z1:=[.D (.L<|web.map pairD),.D<|ai rs,.no,.no]) ?a ρ<|aq ?b
 case a=>unfold nM;rw[az (ae ρ ao) (AM h.nd)];rfl
 refine' ah<|aG (r:=.D<|.dn<|dy rs W) (Z1:=[.D (.L<|web.map pairD),.D<|ai rs,.D<|bf web,.no]) (Z2:=[.D (.L<|web.map pairD),.D<|ai rs,.D<|bf web,.D<|.dn<|dy rs W]) ?c ρ<|aq ?d
 case c=>unfold nM;rw[az (ae ρ ao) C];rfl
 have J:(cO web).map (·.1)=web.map (·.1):=by unfold cO;rw[fm];rfl
 have L:(dy rs W).map (·.1)=rs.map (·.1):=by unfold dy;rw[fm];rfl
 have M:(cO web).length<64:=by unfold cO;rw[ab];omega
 have N:(dy rs W).length<64:=by unfold dy;rw[ab];have:=fl.bI;omega
 have O:∀x∈aB (web.map (·.1)),aT x:=λx g=>h.txt<|ι<|jJ.1 g;have tr:∀x∈aB (rs.map (·.1)),aT x:=λx g=>by obtain⟨y,i,rfl⟩:=a8.1<|jJ.1 g;exact ok.tx y i
 by_cases j:aB (web.map (·.1))=aB (rs.map (·.1))
 case neg=>refine E3 (bK<|aw (ag (az (ae ρ ao)<|vj J M) ρ) (ag (az (ae ρ ao)<|vj L N) ρ)<|yP O tr) (by rw[decide_eq_false j];rfl) ρ<|fX ?_;unfold gw;rw[decide_eq_false j,Ys,ack]
 refine eO (bK<|aw (ag (az (ae ρ ao)<|vj J M) ρ) (ag (az (ae ρ ao)<|vj L N) ρ)<|yP O tr) (by rw[decide_eq_true j];rfl) ?_;show WS _ [.D (.L<|web.map pairD),.D<|ai rs,.D<|bf web,.D<|.dn<|dy rs W] _;refine' ah<|bH (v_allB (enc:=λp:eS×List eS=>Dat.str p.1) (xs:=web) (λp=>[.no,.D<|.str p.1,.D<|bf web,.D<|.dn<|dy rs W]) (λp=>am<|aB p.2=aB (dI (iq rs) p.1)) ?G ρ ?B ?C ?e4<|λ_ _=>rfl)<|cN<|fX ?e5
 case G=>show ac ((cO web).map (λk=>Dat.str k.1),_)=_;unfold cO;rw[fm];rfl
 case B=>unfold cA;omega
 case C=>rintro y _ Z (rfl|⟨z,rfl⟩)<;>rfl
 case e5=>unfold gw;rw[e,decide_eq_true j];rfl
 intro p m;have I:p.1∈rs.map (·.1):=jJ.1<|j ▸ jJ.2 (a8.2 ⟨p,m,ρ⟩);obtain⟨x,g,ex⟩:=a8.1 I;have hl:=h.len m;have el:(dE x.2 W 4).length<=48:=by
  have:=Aw x.2 W 4;have h4:W.length=rs.length+4:=by rw[l,eu];rfl
  have:=fl.bI;omega
 have eg:cP (dy rs W) p.1=ac (.L<|(dE x.2 W 4).map iF):=by rw[<-ex];exact NW fl.nd g
 have Q:=s4 (dE x.2 W 4) (by omega);have er:(dE x.2 W 4).map (λx=>Dat.str x.2)=(fP rs x).map .str:=by unfold fP;rw[fm,<-l];rfl
 rw[er] at Q;have eN:dI (iq rs) p.1=fP rs x:=by rw[<-ex];exact eF (p:=(x.1,fP rs x)) (by unfold iq;rw[fm];exact fl.nd)<|a8.2 ⟨x,g,ρ⟩
 rw[eN];have lr:(fP rs x).length<64:=by unfold fP;rw[ab,<-l];omega
 exact ag (aw (ag (az (ae (kC ρ ρ<|lN h.nd m) ao)<|Hc (by omega)) ρ) (ag (az (ae (ag (az (ae (kC ρ ρ eg) ao) Q) ρ) ao)<|Hc lr) ρ) (K5 (λy i=>h.txt ((h.rg p m).2.2 y (jJ.1 i)).1) λy i=>BE ok y<|jJ.1 i)) ρ
noncomputable def gx(a d c:Int):Int:=if c=a then a+d else c
def gb(k:Nat)(a d:Int)(o:Ob):Ob:=if k=1 then ⟨gx a d o.l,o.b,gx a d o.r,o.t⟩ else ⟨o.l,gx a d o.b,o.r,gx a d o.t⟩
def Fi(fn:aN):Prop:=∀(rs:Fl) (k:Nat) (a d:Int),k=1\/k=2->rs.length<=1000->fn [ai rs,.int k,.int a,.int d]=ac (.O<|ai (rs.map λx=>(x.1,gb k a d x.2)))
theorem Kj(T:Txt mg)(F:bc K "_law_moved" "_law_moved" wd f L):∃fn,a9 P w K mg base aZ 1 f L ["_law_rows","_law_low","_law_line","_law_by"] (aD K fn)/\Fi fn:=by
 refine' bT F G6 ρ ?M ?C
 case M=>walk_at "h"
 intro rs k a d N hl;refine' ck ρ ?w;have O:2<=sizeLine:=by unfold cA;decide
 refine' ah<|aG (cR ao<|pe _) ρ<|aq ?_;refine' ah<|dB (λn Z=>∃v q g,Fr v/\(q=.no\/∃e,q=.D e)/\Fr g/\Z=[.D (ai rs),.D<|.int k,.D<|.int a,.D<|.int d,.O<|.L<|((rs.take n).map λx=>(x.1,gb k a d x.2)).map af,v,q,g]) (bB ρ) ⟨_,_,_,ι ρ,ι ρ,ι ρ,ρ⟩ ?st ?B
 case B=>rintro _ ⟨v,q,g,_,_,_,rfl⟩;rw[ab,nk];exact aq<|ah<|bH ρ<|cN ⟨_,ρ⟩
 rintro n y i _ ⟨v,q,g,Q,R,m,rfl⟩;rw[c6] at i;obtain⟨x,ex,rfl⟩:=gf.1 i;have G:(((rs.take n).map λx=>(x.1,gb k a d x.2)).map af).length<sizeLine:=by rw[ab,ab,ib];delta cA;omega
 have S:((rs.take<|n+1).map λx=>(x.1,gb k a d x.2)).map af=((rs.take n).map λx=>(x.1,gb k a d x.2)).map af++[af (x.1,gb k a d x.2)]:=by rw[fy ex,ft,ft];rfl
 rw[S];generalize ((rs.take n).map λx=>(x.1,gb k a d x.2)).map af=h at *;refine⟨[.D (ai rs),.D<|.int k,.D<|.int a,.D<|.int d,.O<|.L h,.D<|af x,q,g],by rcases Q with rfl|⟨d,rfl⟩<;>rfl,?_⟩;refine' ah<|aG (az (ae ρ ao) ρ) ?U<|aq ?V
 case U=>rcases R with rfl|⟨d,rfl⟩<;>rfl
 have step:∀(ds:List Dat) (j:Nat) (c:Int),ds[j]?=ac (.int c)->ds.length=5->WS (iH (ky (fx<|bW (dg false) (l9 6<|cI 7)<|cI 2) (iH (alt (lb 6 (cI 7)<|fu<|bW fq (cI 2)<|cI 3)<|mz 6 (cI 7)<|fu<|bW fq (cI 2)<|cI 3) kP) kP) kP) [.D (ai rs),.D<|.int k,.D<|.int a,.D<|.int d,.O<|.L h,.D<|af x,.O<|.L ds,.D<|.int j] λo=>o=.next [.D (ai rs),.D<|.int k,.D<|.int a,.D<|.int d,.O<|.L h,.D<|af x,.O<|.L<|ds.set j<|.int<|gx a d c,.D<|.int j]:=λds j c I J=>by
  have z:=(cm.1 I).1;have W:cC (.L ds) (.int (j:Int))=ac (.int c):=by exact kJ I
  refine ah (dm (bK<|aw (aI ρ ρ ρ W) ρ<|eq_int _ _) (λp=>?_) λp=>aU<|aq<|aU ?_)
  ·have p:=of_decide_eq_true p;refine ah ⟨_,dM<|qV (Z3:=[.D (ai rs),.D<|.int k,.D<|.int a,.D<|.int d,.O<|.L h,.D<|af x,.O<|.L<|ds.set j<|.int<|a+d,.D<|.int j]) (ag (aw ρ ρ ρ) ρ) ρ ρ ρ ?_ ρ,aq<|aU<|aq<|aU ?_⟩
   ·delta gv;rw[if_pos (by lia)];simpa using z
   rw[show gx a d c=a+d from if_pos p]
  have p:=of_decide_eq_false p;have e:ds.set j (.int c)=ds:=by have:=List.set_getElem_self (as:=ds) z;rwa[(cm.1 I).2] at this
  rw[show gx a d c=c from if_neg p,e]
 have B:∀{D:List Dat}{g:Slot},ku [.L D]=ac (.D<|af (x.1,gb k a d x.2))->Fr g->WS (iH (lS<|hV 4 mw<|dQ (fu<|bO ku<|dQ (cI 6) gg) gg) kP) [.D (ai rs),.D<|.int k,.D<|.int a,.D<|.int d,.O<|.L h,.D<|af x,.O<|.L D,g] λo=>o=.next [.D (ai rs),.D<|.int k,.D<|.int a,.D<|.int d,.O<|.L<|h++[af (x.1,gb k a d x.2)],.D<|af x,.D<|.L D,g]:=λ{D g} X m=>ah<|jS (Px (d:=af (x.1,gb k a d x.2)) (Z1:=[.D (ai rs),.D<|.int k,.D<|.int a,.D<|.int d,.O<|.L h,.D<|af x,.D<|.L D,g]) ρ (ae (ag (az (ae ρ ao) X) ρ) ao) ρ G)<|aq<|aU ρ;obtain⟨D,J,h0,⟨c0,Y,e1⟩,⟨c1,e2,e3⟩,eT⟩:∃D:Nat->List Dat,(∀j,(D j).length=5)/\D 0=[.str x.1,.int x.2.l,.int x.2.b,.int x.2.r,.int x.2.t]/\(∃c,(D 0)[k]?=ac (.int c)/\D 1=(D 0).set k (.int<|gx a d c))/\(∃c,(D 1)[k+2]?=ac (.int c)/\D 2=(D 1).set (k+2) (.int<|gx a d c))/\ku [.L (D 2)]=ac (.D<|af (x.1,gb k a d x.2)):=by
  rcases N with rfl|rfl
  ·exact⟨λj=>[.str x.1,.int (if 1<=j then gx a d x.2.l else x.2.l),.int x.2.b,.int (if 2<=j then gx a d x.2.r else x.2.r),.int x.2.t],λ_=>rfl,ρ,⟨x.2.l,ρ,ρ⟩,⟨x.2.r,ρ,ρ⟩,ρ⟩
  exact⟨λj=>[.str x.1,.int x.2.l,.int (if 1<=j then gx a d x.2.b else x.2.b),.int x.2.r,.int (if 2<=j then gx a d x.2.t else x.2.t)],λ_=>rfl,ρ,⟨x.2.b,ρ,ρ⟩,⟨x.2.t,ρ,ρ⟩,ρ⟩
 rw[<-h0];refine' ah<|dB (ds:=[.int k,.int<|k+2]) (λj Z=>∃g,Fr g/\Z=[.D (ai rs),.D<|.int k,.D<|.int a,.D<|.int d,.O<|.L h,.D<|af x,.O<|.L<|D j,g]) (bB<|ag (cR (ds:=[.int k,.int<|(k:Int)+2]) (ae ρ<|ae (ag (aw (r:=.D<|.int<|(k:Int)+2) ρ ρ ρ) ρ) ao) O) ρ) ⟨_,m,ρ⟩ ?s1 ?f1
 case f1=>rintro _ ⟨g,m,rfl⟩;exact aq ((B eT m).mono λo u=>by subst u;exact⟨_,_,_,τ ⟨_,ρ⟩,τ ⟨_,ρ⟩,m,ρ⟩)
 rintro j y i _ ⟨g,m,rfl⟩
 match j,i with
 | 0,i =>
  cases i;exact⟨[.D (ai rs),.D<|.int k,.D<|.int a,.D<|.int d,.O<|.L h,.D<|af x,.O<|.L<|D 0,.D<|.int k],by rcases m with rfl|⟨d,rfl⟩<;>rfl,(step (D 0) k c0 Y<|J 0).mono λo u=>by subst u;exact⟨_,τ ⟨_,ρ⟩,by rw[e1]⟩⟩
 | 1,i =>
  cases i;exact⟨[.D (ai rs),.D<|.int k,.D<|.int a,.D<|.int d,.O<|.L h,.D<|af x,.O<|.L<|D 1,.D<|.int<|k+2],by rcases m with rfl|⟨d,rfl⟩<;>rfl,(step (D 1) (k+2) c1 e2<|J 1).mono λo u=>by subst u;exact⟨_,τ ⟨_,ρ⟩,by rw[e3]⟩⟩
 | _+2,i=>simp at i
def gu(k:Nat)(x y:Ob):Bool:=am<|(if co k y>co k x then co k y else co k x)<(if co (k+2) y<co (k+2) x then co (k+2) y else co (k+2) x)
def pP(fn:aN):Prop:=∀(x y:eS×Ob) (k:Nat),k=1\/k=2->fn [af x,af y,.int (k:Int)]=ac (.D<|.bl<|gu k x.2 y.2)
theorem pP.ok{fn:aN}(h:pP fn):Fk fn:=fun x y k a b c=>by rw[h x y k a];delta gu;rw[rj a b c]
def MV(T:Txt mg)(F:bc K "_law_meets" "_law_meets" yC f a):∃fn,a9 P w K mg base aZ 1 f a ["_law_one","_law_other","_law_low"] (aD K fn)/\pP fn:=by
 refine' bT F Eh ρ ?C ?B
 case C=>walk_at "h"
 intro x y k hk;have b:∀y,cC (af y) (.int (k:Int))=ac (.int<|co k y.2):=λy=>j9 y (by lia);have c:∀y,cC (af y) (.int<|(k:Int)+2)=ac (.int<|co (k+2) y.2):=λy=>j9 y (k:=k+2) (by omega);refine' ck ρ ?w;exact ah<|bH (aw (ag (az (ae (aI ρ ρ ρ<|b x)<|ae (aI ρ ρ ρ<|b y) ao) ρ) ρ) (ag (az (ae (aI ρ (ag (aw ρ ρ ρ) ρ) ρ<|c x)<|ae (aI ρ (ag (aw ρ ρ ρ) ρ) ρ<|c y) ao) ρ) ρ) ρ)<|cN ⟨_,ρ⟩
def dw(rs:Fl)(x:Ob):List (Int×Int×eS):=[(x.t,bw rs,"north"),(x.r,bu rs,"east"),(x.b,0,"south"),(x.l,0,"west")]
def ik(x y:Ob):Bool:=(am (x.t=y.b)&&gu 1 x y)||(am (x.r=y.l)&&gu 2 x y)
def dH(rs:Fl)(x:eS×Ob)(l:List (Int×Int×eS)):List (List eS):=(l.filter λs=>am<|s.1=s.2.1).map λs=>aB [x.1,s.2.2]
def fE(x:eS×Ob)(l:Fl):List (List eS):=(l.filter λy=>ik x.2 y.2).map λy=>aB [x.1,y.1]
def dj(rs l:Fl):List (List eS):=l.flatMap λx=>dH rs x (dw rs x.2)++fE x rs
def x6(fn:aN):Prop:=∀rs:Fl,rs≠[]->rs.length<=50->(∀x∈rs,aT x.1)->(dj rs rs).Nodup->(dj rs rs).length<64->fn [ai rs]=ac (.O<|.L<|(fT<|dj rs rs).map tupS)
def Hh (c:f Z=ac (.str a,Z))(d:g Z=ac (.str b,Z)):bO ku (dQ (fu<|alt (bO jv<|dQ (fu<|oG<|dQ f<|dQ g gg) gg) h) gg) Z=ac (.D<|tupS<|aB [a,b],Z) :=
 az (ae (ag (dM<|az (ae (ag (cR (ae c<|ae d ao) (by simp[cA])) ρ) ao) ρ) ρ) ao) rfl
def Ku{rs:Fl}{x:eS×Ob}{l:List (Int×Int×eS)}{j:Nat}{s:Int×Int×eS}(h:l[j]?=ac s):dH rs x (l.take<|j+1)=dH rs x (l.take j)++if s.1=s.2.1 then [aB [x.1,s.2.2]] else []:=by
 delta dH;rw[fy h,abe,ft];congr 1
 by_cases e:s.1=s.2.1
 ·rw[if_pos e,wy,if_pos<|decide_eq_true e];rfl
 rw[if_neg e,wy,if_neg (by simpa using e)];rfl
def J6{x:eS×Ob}{l:Fl}{j:Nat}{y:eS×Ob}(h:l[j]?=ac y):fE x (l.take<|j+1)=fE x (l.take j)++if ik x.2 y.2=bd then [aB [x.1,y.1]] else []:=by
 delta fE;rw[fy h,abe,ft];congr 1
 by_cases e:ik x.2 y.2=bd
 ·rw[if_pos e,wy,if_pos e];rfl
 rw[if_neg e,wy,if_neg e];rfl
theorem An(rs):∀l:Fl,(dj rs l).length<=l.length*(4+rs.length)
 | []=>pe _
 | x::l=>by
  have e:dj rs (x::l)=(dH rs x (dw rs x.2)++fE x rs)++dj rs l:=ρ;have h1:(dH rs x<|dw rs x.2).length<=4:=by delta dH;rw[ab];exact pl _ _
  have h2:(fE x rs).length<=rs.length:=by delta fE;rw[ab];exact pl _ _
  have:=An rs l;rw[e,eu,eu,gW,aaN];lia
theorem yG:∀{fs:List (List eS)},(∀f∈fs,f≠[])->kc (fs.map tupS)=ac fs
 | [],_=>rfl
 | f::fs,h=>by
  have e:=mi (λx:eS=>x) f;have i:=yG λg a=>h g<|f6 _ a;have hf:f.isEmpty=bi:=by simp_all
  simp_all [kc,tupS]
def IS:∀f∈dj rs l,f≠[]:=λf c e=>by
 subst e;obtain⟨x,_,d⟩:=pw.1 c;have key:∀a b:eS,aB [a,b]≠[]:=λa b z=>by have:=(gk [a,b] cM).length_eq;rw[show [a,b].mergeSort cM=[] from z] at this;cases this
 rcases eH.1 d with h|h
 ·obtain⟨s,_,e⟩:=a8.1 h;exact key _ _ e
 obtain⟨s,_,e⟩:=a8.1 h;exact key _ _ e
def UG(T:Txt mg)(R:aY P w K mg base "_law_meets" 1 (aD K G))(C:pP G)(F:bc K "_law_touches" "_law_touches" wU f L):∃fn,a9 P w K mg base aZ 2 f L ["_law_rows"] (aD K fn)/\x6 fn:=by
 refine' bT F Es ρ ?S ?I
 case S=>have sx:CG "_law_found":=⟨trivial⟩;walk_at "h"
 intro rs ne h50 tx nd M;have sz:rs.length<=sizeLine:=by unfold cA;lia
 have U:=jZ (λy:eS×Ob=>y.2.r) ne;have V:=jZ (λy:eS×Ob=>y.2.t) ne;have s3:3<=sizeLine:=by unfold cA;decide
 have s4:4<=sizeLine:=by unfold cA;decide
 refine' ck ρ ?w;refine' ah<|aG (az (ae (ag (cc (enc:=af) (xs:=rs) (λy=>[.no,.D<|af y]) (λy=>.int y.2.r) (bB ρ) ρ sz ?X (λy _=>aI ρ ρ ρ ρ)<|λ_ _=>rfl) ρ) ao) U) ρ<|aq ?_
 case X=>rintro y _ Z (rfl|⟨z,rfl⟩)<;>rfl
 refine' ah<|aG (Z2:=[.D (ai rs),.D<|.int<|bu rs,.D<|.int<|bw rs,.no,.no,.no,.no,.no,.no,.no,.no]) (az (ae (ag (cc (enc:=af) (xs:=rs) (λy=>[.no,.D<|af y]) (λy=>.int y.2.t) (bB ρ) ρ sz ?Y (λy _=>aI ρ ρ ρ ρ)<|λ_ _=>rfl) ρ) ao) V) ρ<|aq ?_
 case Y=>rintro y _ Z (rfl|⟨z,rfl⟩)<;>rfl
 refine' ah<|aG (Z2:=[.D (ai rs),.D<|.int<|bu rs,.D<|.int<|bw rs,.O<|.L [],.no,.no,.no,.no,.no,.no,.no]) (cR ao<|pe _) ρ<|aq ?_;refine' ah<|dB (λn Z=>∃D o c e g i a,Fr D/\Fr o/\Fr c/\Fr e/\Fr g/\Fr i/\Fr a/\Z=[.D (ai rs),.D<|.int<|bu rs,.D<|.int<|bw rs,.O<|.L<|(dj rs<|rs.take n).map tupS,D,o,c,e,g,i,a]) (bB ρ) ⟨_,_,_,_,_,_,_,ι ρ,ι ρ,ι ρ,ι ρ,ι ρ,ι ρ,ι ρ,ρ⟩ ?st ?N
 case N =>
  rintro _ ⟨D,o,c,e,g,i,a,_,_,_,_,_,_,_,rfl⟩;rw[ab,nk];have bx:oO [.L ((dj rs rs).map tupS)]=ac (.O<|.L<|(fT<|dj rs rs).map tupS):=by show (kc<|(dj rs rs).map tupS).bind _=_;rw[yG IS];exact if_pos ⟨nd,M⟩
  exact aq<|ah<|bH (az (ae ρ ao) bx)<|cN ⟨_,ρ⟩
 rintro n y k _ ⟨D,o,c,e,g,i,a,f4,f5,p,q,u,v,l,rfl⟩;rw[c6] at k;obtain⟨x,ex,rfl⟩:=gf.1 k;have hx:=eR ex;have hn:=(cm.1 ex).1;have O:=An rs<|rs.take n;rw[ib] at O;have et:dj rs (rs.take<|n+1)=dj rs (rs.take n)++(dH rs x (dw rs x.2)++fE x rs):=by unfold dj;rw[fy ex,aa2];simp
 rw[et];have hA:(dj rs<|rs.take n).length<=50*54:=nE O<|aex ⋯ ⋯;generalize dj rs (rs.take n)=A at *;refine⟨[.D (ai rs),.D<|.int<|bu rs,.D<|.int<|bw rs,.O<|.L<|A.map tupS,.D<|af x,o,c,e,g,i,a],by rcases f4 with rfl|⟨d,rfl⟩<;>rfl,?_⟩;refine' ah<|aG (Z2:=[.D (ai rs),.D<|.int<|bu rs,.D<|.int<|bw rs,.O<|.L<|A.map tupS,.D<|af x,.O<|.L ((dw rs x.2).map λs=>.U [.int s.1,.int s.2.1,.str s.2.2]),c,e,g,i,a]) ρ ?c1<|aq ?c2
 case c1=>rcases f5 with rfl|⟨d,rfl⟩<;>rfl
 refine' ah<|dB (λj Z=>∃c e g,Fr c/\Fr e/\Fr g/\Z=[.D (ai rs),.D<|.int<|bu rs,.D<|.int<|bw rs,.O<|.L<|(A++dH rs x ((dw rs x.2).take j)).map tupS,.D<|af x,.D<|.L ((dw rs x.2).map λs=>.U [.int s.1,.int s.2.1,.str s.2.2]),c,e,g,i,a]) (bB ρ) ⟨_,_,_,p,q,u,by rw[Z8,show dH rs x []=[] from ρ,px];rfl⟩ ?C ?f1
 case C =>
  rintro j y k _ ⟨c,e,g,p,q,u,rfl⟩;rw[c6] at k;obtain⟨s,es,rfl⟩:=gf.1 k;rw[Ku es];have hj:(dH rs x<|(dw rs x.2).take j).length<=4:=by unfold dH;rw[ab];refine nE (pl _ _) ?_;rw[ib];exact aed _ _
  generalize dH rs x ((dw rs x.2).take j)=B at *;have m:((A++B).map tupS).length<sizeLine:=by rw[ab,eu];unfold cA;omega
  refine⟨[.D (ai rs),.D<|.int<|bu rs,.D<|.int<|bw rs,.O<|.L<|(A++B).map tupS,.D<|af x,.D<|.L ((dw rs x.2).map λs=>.U [.int s.1,.int s.2.1,.str s.2.2]),.D<|.int s.1,.D<|.int s.2.1,.D<|.str s.2.2,i,a],by rcases p with rfl|⟨d,rfl⟩<;>rcases q with rfl|⟨d,rfl⟩<;>rcases u with rfl|⟨d,rfl⟩<;>rfl,?_⟩;refine ah (dm (bK<|aw ρ ρ<|eq_int _ _) (λh=>?_) λh=>aU<|aq<|aU ⟨_,_,_,τ ⟨_,ρ⟩,τ ⟨_,ρ⟩,τ ⟨_,ρ⟩,by rw[if_neg (of_decide_eq_false h),px]⟩);refine ah<|jS (ly (d:=tupS<|aB [x.1,s.2.2]) ρ (ae (ag (Hh (aI ρ ρ ρ ρ) ρ) ρ) ao) m)<|aq<|aU<|aq<|aU ⟨.D<|.int s.1,.D<|.int s.2.1,.D<|.str s.2.2,τ ⟨_,ρ⟩,τ ⟨_,ρ⟩,τ ⟨_,ρ⟩,?_⟩;rw[if_pos (of_decide_eq_true h),<-qt,ft (l₁:=A++B)];rfl
 rintro _ ⟨c,e,g,p,q,u,rfl⟩;rw[ab,nk];have hw4:(dH rs x<|dw rs x.2).length<=4:=by unfold dH;rw[ab];exact pl _ _
 rw[<-qt];have hW:(A++dH rs x (dw rs x.2)).length<=3000:=by rw[eu];omega
 generalize A++dH rs x (dw rs x.2)=W at *;generalize Dat.L ((dw rs x.2).map λs=>.U [.int s.1,.int s.2.1,.str s.2.2])=J at *;refine' aq<|ah<|dB (λj Z=>∃i a,Fr i/\Fr a/\Z=[.D (ai rs),.D<|.int<|bu rs,.D<|.int<|bw rs,.O<|.L<|(W++fE x (rs.take j)).map tupS,.D<|af x,.D J,c,e,g,i,a]) (bB ρ) ⟨_,_,v,l,by rw[Z8,show fE x []=[] from ρ,px]⟩ ?s2 ?f2
 case f2=>rintro _ ⟨i,a,v,l,rfl⟩;rw[ab,nk];exact aq<|aU ⟨_,_,_,_,_,_,_,τ ⟨_,ρ⟩,τ ⟨_,ρ⟩,p,q,u,v,l,ρ⟩
 rintro j y k _ ⟨i,a,v,l,rfl⟩;rw[c6] at k;obtain⟨y,Q,rfl⟩:=gf.1 k;have hjn:=(cm.1 Q).1;rw[J6 Q];have hj:(fE x<|rs.take j).length<=50:=by unfold fE;rw[ab];refine nE (pl _ _) ?_;rw[ib];omega
 generalize fE x (rs.take j)=B at *;have m:((W++B).map tupS).length<sizeLine:=by rw[ab,eu];unfold cA;omega
 have m1:=C x y 1<|ι ρ;have m2:=C x y 2<|τ ρ;refine⟨[.D (ai rs),.D<|.int<|bu rs,.D<|.int<|bw rs,.O<|.L<|(W++B).map tupS,.D<|af x,.D J,c,e,g,.D<|af y,a],by rcases v with rfl|⟨d,rfl⟩<;>rfl,?_⟩;refine' ah<|aG (Z2:=[.D (ai rs),.D<|.int<|bu rs,.D<|.int<|bw rs,.O<|.L<|(W++B).map tupS,.D<|af x,.D J,c,e,g,.D<|af y,.D<|.bl<|am (x.2.t=y.2.b)&&gu 1 x.2 y.2]) (v_res<|rS (ag (aw (aI ρ ρ ρ ρ) (aI ρ ρ ρ ρ)<|eq_int _ _) ρ)<|ag (az (ae ρ<|ae ρ<|ae ρ ao) m1) ρ) ?g1<|aq ?g2
 case g1=>rcases l with rfl|⟨d,rfl⟩<;>rfl
 refine ah (dm (b:=ik x.2 y.2) (qC (fQ ρ ρ)<|oE (bK<|aw (aI ρ ρ ρ ρ) (aI ρ ρ ρ ρ)<|eq_int _ _)<|fQ (ag (az (ae ρ<|ae ρ<|ae ρ ao) m2) ρ) ρ) (λh=>?_) λh=>aU<|aq<|aU ⟨_,_,τ ⟨_,ρ⟩,τ ⟨_,ρ⟩,by rw[h,if_neg Zk,px]⟩);refine ah<|jS (ly (d:=tupS<|aB [x.1,y.1]) ρ (ae (ag (Hh (aI ρ ρ ρ ρ)<|aI ρ ρ ρ ρ) ρ) ao) m)<|aq<|aU<|aq<|aU ⟨.D<|af y,.D<|.bl<|am (x.2.t=y.2.b)&&gu 1 x.2 y.2,τ ⟨_,ρ⟩,τ ⟨_,ρ⟩,?_⟩;rw[h,if_pos ρ,<-qt,ft (l₁:=W++B)];rfl
def BA (h:aT x.1):bQ (af x)=bd:=DM (by show [Dat.str x.1,.int x.2.l,.int x.2.b,.int x.2.r,.int x.2.t].all eM=bd;simp[eM,h.ok])
def KY (a:aT x.1)(c:aT y.1):dg true (af x) (af y)=ac (.D<|.bl<|!am (x=y)):=by
 rw[rE (BA a) (BA c)];have e:bV (af x) (af y)=am (x=y):=by
  show bV (.U _) (.U _)=_;show (bV (.str x.1) (.str y.1)&&(bV (.int x.2.l) (.int y.2.l)&&(bV (.int x.2.b) (.int y.2.b)&&(bV (.int x.2.r) (.int y.2.r)&&(bV (.int x.2.t) (.int y.2.t)&&true)))))=_;rw[jB,iG,iG,iG,iG,tz];simp;constructor
  ·rintro⟨h0,d,f,g,h⟩;exact afY h0<|kL d f g h
  rintro rfl;exact⟨ρ,ρ,ρ,ρ,ρ⟩
 rw[e]
def rR(x:Ob):Bool:=am (0<=x.l)&&am (0<=x.b)&&am (x.l<x.r)&&am (x.b<x.t)
def nU(x y:eS×Ob):Bool:=!am (x=y)&&(gu 1 x.2 y.2&&gu 2 x.2 y.2)
def jI(rs:Fl)(x:eS×Ob):Bool:=rR x.2&&rs.all λy=>!nU x y
def k9(web:bD)(rs:Fl):Bool:=am (aB (rs.map (·.1))=aB (web.map (·.1)))&&rs.all (jI rs)&&am (fR rs=bu rs*bw rs)
def yB(c d fn:aN):Prop:=∀(web:bD) (rs:Fl) (R:Bool),rs≠[]->web.length<=50->(∀p∈web,aT p.1)->iA rs->(k9 web rs=bi->R=bi)->(k9 web rs=bd->∃a b,c [ai rs]=ac (.O<|.L a)/\d [.L (web.map pairD)]=ac (.O<|.L b)/\dg false (.L a) (.L b)=ac (.D<|.bl R))->fn [.L (web.map pairD),ai rs]=ac (.D<|.bl R)
def OR{rs:Fl}{n:Nat}{x:eS×Ob}(h:rs[n]?=ac x):fR (rs.take<|n+1)=fR (rs.take n)+(x.2.r-x.2.l)*(x.2.t-x.2.b):=by delta fR;rw[fy h,ft,ZM];simp[Ob.area]
def JP(T:Txt mg)(q1:aY P w K mg base "_law_meets" 1 (aD K B))(S:pP B)(q2:aY P w K mg base "_law_touches" 2 (aD K C))(q3:aY P w K mg base "_law_ties" 1 (aD K D))(F:bc K "_law_is_floor" "_law_is_floor" vF f U):∃fn,a9 P w K mg base aZ 3 f U ["_law_web_here","_law_rows"] (aD K fn)/\yB C D fn:=by
 refine' bT F Bt ρ ?hb ?I
 case hb=>walk_at "h"
 intro web rs R ne hw tw ok J hT;have sz:rs.length<=sizeLine:=by have:=ok.bI;delta cA;lia
 have sw:web.length<=sizeLine:=by unfold cA;lia
 have bI:=ok.bI;have V:jv [.L (rs.map λy=>Dat.str y.1)]=ac (.O (.L ((aB (rs.map (·.1))).map .str))):=by have:=qK (l:=rs.map (·.1)) (by rw[ab];omega);rw[fm] at this;exact this
 have W:jv [.L (web.map λy=>Dat.str y.1)]=ac (.O (.L ((aB (web.map (·.1))).map .str))):=by have:=qK (l:=web.map (·.1)) (by rw[ab];omega);rw[fm] at this;exact this
 have b1:=jZ (λy:eS×Ob=>y.2.r) ne;have b2:=jZ (λy:eS×Ob=>y.2.t) ne;have t1:∀x∈aB (rs.map (·.1)),aT x:=λx g=>by obtain⟨y,c,rfl⟩:=a8.1<|jJ.1 g;exact ok.tx y c
 have t2:∀x∈aB (web.map (·.1)),aT x:=λx g=>by obtain⟨y,c,rfl⟩:=a8.1<|jJ.1 g;exact tw y c
 refine' ck ρ ?w;show WS _ [.D (.L<|web.map pairD),.D<|ai rs,.no,.no,.no] _;refine' ah<|dm (bK<|aw (ag (dM<|az (ae (ag (cc (enc:=af) (xs:=rs) (λy=>[.no,.D<|af y]) (λy=>.str y.1) (bB ρ) ρ sz ?X (λy _=>aI ρ ρ ρ ρ)<|λ_ _=>rfl) ρ) ao) V) ρ) (ag (dM<|az (ae (ag (cc (enc:=pairD) (xs:=web) (λy=>[.no,.D<|.str y.1,.D<|.L<|y.2.map .str]) (λy=>.str y.1) (bB ρ) ρ sw ?Y (λy _=>rfl)<|λ_ _=>rfl) ρ) ao) W) ρ)<|yP t1 t2) ?yes ?no
 case X=>rintro y _ Z (rfl|⟨z,rfl⟩)<;>rfl
 case Y=>rintro y _ Z (rfl|⟨z,rfl⟩)<;>rfl
 case yes =>
  intro h;have L:¬aB (rs.map (·.1))=aB (web.map (·.1)):=by simpa using h
  have e:R=bi:=J (by unfold k9;rw[decide_eq_false L];rfl);subst e;exact ah<|bH ρ ⟨_,ρ⟩
 intro h;have L:aB (rs.map (·.1))=aB (web.map (·.1)):=by simpa using h
 refine' aU<|aq<|ah<|aG (Z2:=[.D (.L<|web.map pairD),.D<|ai rs,.D<|.int 0,.no,.no]) ρ ρ<|aq ?_;have G:∀x∈rs,jI rs x=bi->R=bi:=λx g z=>J (by unfold k9;rw[adM.2 ⟨x,g,by rw[z];decide⟩,Ys,ack])
 refine' ah<|dB (λn Z=>∃o i,Fr o/\Fr i/\(∀x∈rs.take n,jI rs x=bd)/\Z=[.D (.L<|web.map pairD),.D<|ai rs,.D<|.int<|fR<|rs.take n,o,i]) (bB ρ) ⟨_,_,ι ρ,ι ρ,by simp,rfl⟩ ?st ?fin
 case fin =>
  rintro _ ⟨o,i,_,_,p,rfl⟩;rw[ab,nk] at p;rw[ab,nk];have be:dP (fA (rs.map λy=>y.2.r)) (fA (rs.map λy=>y.2.t))=bd:=by
   obtain⟨x,g,ex⟩:=a8.1<|nB (ns:=rs.map λx=>x.2.r) (by simpa using ne);obtain⟨y,c,q⟩:=a8.1<|nB (ns:=rs.map λx=>x.2.t) (by simpa using ne);have X:=(ok.nu x g).2.2.1;have Y:=(ok.nu y c).2.2.2;refine uP ?_ ?_
   ·rw[<-ex];omega
   rw[<-q];omega
  have M:rs.all (jI rs)=bd:=iN.2 p;refine' aq<|ah<|dm (bK<|aw ρ (ag (dM<|aw (ag (az (ae (ag (cc (enc:=af) (xs:=rs) (λy=>[.no,.D<|af y]) (λy=>.int y.2.r) (bB ρ) ρ sz ?p1 (λy _=>aI ρ ρ ρ ρ)<|λ_ _=>rfl) ρ) ao) b1) ρ) (ag (az (ae (ag (cc (enc:=af) (xs:=rs) (λy=>[.no,.D<|af y]) (λy=>.int y.2.t) (bB ρ) ρ sz ?p2 (λy _=>aI ρ ρ ρ ρ)<|λ_ _=>rfl) ρ) ao) b2) ρ)<|jX be) ρ)<|ne_int _ _) ?N ?no3
  case p1=>rintro y _ Z (rfl|⟨z,rfl⟩)<;>rfl
  case p2=>rintro y _ Z (rfl|⟨z,rfl⟩)<;>rfl
  case N =>
   intro h;have O:¬fR rs=bu rs*bw rs:=by rw[ow,decide_eq_false_iff_not] at h;exact h
   have e:R=bi:=J (by unfold k9;rw[decide_eq_false O,Ys]);subst e;exact ah<|bH ρ ⟨_,ρ⟩
  intro h;have O:fR rs=bu rs*bw rs:=by rw[YA,decide_eq_true_eq] at h;exact h
  obtain⟨a,b,e2,e3,e4⟩:=hT (by unfold k9;rw[decide_eq_true L,M,decide_eq_true O];rfl);exact aU<|aq<|ah<|bH (aw (ag (az (ae ρ ao) e2) ρ) (ag (az (ae ρ ao) e3) ρ) e4)<|cN ⟨_,ρ⟩
 rintro n y c _ ⟨o,i,f3,m,p,rfl⟩;rw[c6] at c;obtain⟨x,ex,rfl⟩:=gf.1 c;have g:=eR ex;have nu:=ok.nu x g;refine⟨[.D (.L<|web.map pairD),.D<|ai rs,.D<|.int<|fR<|rs.take n,.D<|af x,i],by rcases f3 with rfl|⟨d,rfl⟩<;>rfl,?_⟩;have eg:(am ((if x.2.b<x.2.l then x.2.b else x.2.l)<0)||(am (x.2.r<=x.2.l)||am (x.2.t<=x.2.b)))=!rR x.2:=by unfold rR;rw[tz];simp only[abY,decide_eq_true_eq,ow,acV,decide_eq_false_iff_not];split<;>omega
 refine' ah<|dm (qC (b:=am<|(if x.2.b<x.2.l then x.2.b else x.2.l)<0) (b':=am (x.2.r<=x.2.l)||am (x.2.t<=x.2.b)) ?h1 ?h2) ?Q ?no2
 case h1=>exact bK<|aw (ag (az (ae (aI ρ ρ ρ ρ)<|ae (aI ρ ρ ρ ρ) ao) ρ) ρ) ρ ρ
 case h2=>exact qC (bK<|aw (aI ρ ρ ρ ρ) (aI ρ ρ ρ ρ)<|jX ρ)<|bK<|aw (aI ρ ρ ρ ρ) (aI ρ ρ ρ ρ)<|jX ρ
 case Q=>intro h;rw[eg,ow] at h;have e:R=bi:=G x g (by unfold jI;rw[h];rfl);subst e;exact ah<|bH ρ ⟨_,ρ⟩
 intro h;rw[eg,YA] at h;refine' aU<|aq<|ah<|aG (Z2:=[.D (.L<|web.map pairD),.D<|ai rs,.D<|.int<|fR<|rs.take<|n+1,.D<|af x,i]) (aw (r:=.D<|.int<|fR<|rs.take<|n+1) ρ (ag (dM<|aw (ag (aw (aI ρ ρ ρ ρ) (aI ρ ρ ρ ρ)<|jX ρ) ρ) (ag (aw (aI ρ ρ ρ ρ) (aI ρ ρ ρ ρ)<|jX ρ) ρ)<|jX ?m0) ρ) ?m1) ρ<|aq ?_
 case m0=>exact uP (by omega) (by omega)
 case m1=>rw[OR ex];rfl
 refine' ah<|dB (λj Z=>∃i,Fr i/\(∀y∈rs.take j,nU x y=bi)/\Z=[.D (.L<|web.map pairD),.D<|ai rs,.D<|.int<|fR<|rs.take<|n+1,.D<|af x,i]) (bB ρ) ⟨_,m,by simp,rfl⟩ ?s2 ?f2
 case f2 =>
  rintro _ ⟨i,m,v,rfl⟩;rw[ab,nk] at v;refine aq<|aU ⟨_,_,τ ⟨_,ρ⟩,m,λz hz=>?_,ρ⟩;rw[fy ex] at hz;rcases eH.1 hz with hz|hz
  ·exact p z hz
  rw[kA.1 hz];unfold jI;rw[h,ZI,iN];intro y c;rw[v y c];rfl
 rintro j y c _ ⟨i,m,v,rfl⟩;rw[c6] at c;obtain⟨y,q,rfl⟩:=gf.1 c;have c:=eR q;refine⟨[.D (.L<|web.map pairD),.D<|ai rs,.D<|.int<|fR<|rs.take<|n+1,.D<|af x,.D<|af y],by rcases m with rfl|⟨d,rfl⟩<;>rfl,?_⟩;refine ah (dm (oE (bK<|aw ρ ρ<|KY (ok.tx x g)<|ok.tx y c)<|oE (fQ (ag (az (ae ρ<|ae ρ<|ae ρ ao)<|S x y 1<|ι ρ) ρ) ρ)<|fQ (ag (az (ae ρ<|ae ρ<|ae ρ ao)<|S x y 2<|τ ρ) ρ) ρ) (λz=>?_) λz=>aU<|aq<|aU ⟨_,τ ⟨_,ρ⟩,λu k=>?_,ρ⟩)
 ·have z:nU x y=bd:=z;have e:R=bi:=G x g (by unfold jI;rw[adM.2 ⟨y,c,by rw[z];decide⟩,Ys])
  subst e;exact ah<|bH ρ ⟨_,ρ⟩
 have z:nU x y=bi:=z;rw[fy q] at k;rcases eH.1 k with k|k
 ·exact v u k
 rw[kA.1 k];exact z
theorem CK:∀l:List (eS×List eS),eI (l.map pairD) (l.map pairD)=bd
 | []=>rfl
 | p::l=>by show (bV (pairD p) (pairD p)&&eI (l.map pairD) (l.map pairD))=bd;simp[CK l];show bV (.U _) (.U _)=bd;show (bV (.str p.1) (.str p.1)&&(bV (.L<|p.2.map .str) (.L<|p.2.map .str)&&true))=bd;simp[kG,v8,jB]
def zU:Dat->Bool
 | .U ds=>ds.all jo
 | _=>false
theorem IH{l:List (eS×List eS)}(h:∀p∈l,aT p.1/\∀n∈p.2,aT n):bQ (.L<|l.map pairD)=bd:=by
 have key:(l.map pairD).all zU=bd:=by
  rw[iN];intro d hd;obtain⟨p,e,rfl⟩:=a8.1 hd;obtain⟨f,g⟩:=h p e;show [Dat.str p.1,.L<|p.2.map .str].all jo=bd;have i:jo (.str p.1)=bd:=f.ok;have j:jo (.L<|p.2.map .str)=bd:=by show (p.2.map Dat.str).all eM=bd;rw[iN];intro d hd;obtain⟨n,k,rfl⟩:=a8.1 hd;exact (g n k).ok
  simp only[aas,i,j];rfl
 obtain⟨a,b,c⟩:=@qq 2 zU (λd h=>(λh=>by
   cases d with
   | U ds=>obtain⟨a,b,c⟩:=@qq 1 jo (λd h=>xb h) ds h;simp_all [gA,toPy,Rr,PyData.depth]
   | _=>cases h) h) _ key
 dsimp only[bQ,abi];simp only[gA,toPy,Rr,PyData.depth,a,b];simp;lia
def oJ (h:f Z=ac (.bl true,Z1))(h':g Z1=ac (d,Z2)):lx f g Z=ac (d,Z2):=by delta lx;rw[h];exact h'
def De(a fn:aN):Prop:=∀(web:bD) (rs:Fl),cV web->fF web->iA rs->(rs≠[]->a [.L (web.map pairD),ai rs]=ac (.D<|.bl<|gw web rs))->fn [.L (web.map pairD),ai rs]=ac (.D<|.bl true)
def Ow(T:Txt mg)(G:aY P w K mg base "is_floor" 5 (aD K d))(I:yX d)(J:aY P w K mg base "_law_is_floor" 3 (aD K e))(F:bc K "_law_right" "_law_right" Aj f k):∃fn,a9 P w K mg base aZ 6 f k ["_law_web_here","_law_rows"] (aD K fn)/\De e fn:=by
 refine' bT F Fw ρ ?L ?B
 case L=>have nd:=Fw.nd;walk_at "h"
 intro web rs h hw ok M;have N:=I web rs h hw ok;have bI:=h.bI;have m:dD (ai rs)=ac rs.length:=by simp[dD,ai]
 have o:=IH (l:=web) λp q=>⟨sg<|h.nm p q,λn a=>h.txt ((h.rg p q).2.2 n a).1⟩;have t:dg false (.L<|web.map pairD) (.L<|web.map pairD)=ac (.D<|.bl true):=by rw[v_eq o o,kG,CK]
 have u:dg false (ai rs) (ai rs)=ac (.D<|.bl true):=by rw[v_eq (B9 ok.tx) (B9 ok.tx)];show ac (Res.D<|.bl<|bV (.L<|rs.map af)<|.L<|rs.map af)=_;rw[kG,RL]
 have v:∀b:Bool,dg false (.bl b) (.bl b)=ac (.D<|.bl true):=λb=>by rw[v_eq (iJ ρ) (iJ ρ),Np]
 refine' ck ρ ?w;refine' ah<|aG (az (ae ρ ao) ρ) ρ<|aq ?_;refine' ah<|aG (cc (λp=>[.no,.D<|.str p.1,.D<|.L<|p.2.map .str]) (λp=>pairD p) (bB ρ) ρ (by unfold cA;omega) ?O (λp _=>by rfl)<|λ_ _=>rfl) ρ<|aq ?_
 case O=>rintro y _ Z (rfl|⟨z,rfl⟩)<;>rfl
 have C:rs=[]->gw web rs=bi:=λz=>by subst z;rfl
 generalize gw web rs=R at *;refine' ah<|aG (Z2:=[.D (.L<|web.map pairD),.D<|ai rs,.D<|ai rs,.O<|.L<|web.map pairD,.D<|.bl R,.no]) (az (ae ρ<|ae ρ ao) N) ρ<|aq ?_;have D:∀c:Bool,am ((0:Int)<rs.length)=c->fw (λ_ _=>true) (λi j=>Dat.bl<|am<|j<i) (.int rs.length) (.int 0)=ac (.D<|.bl c):=λc Q=>by show ac (Res.D<|.bl<|am<|(0:Int)<rs.length)=_;rw[Q]
 by_cases a:rs=[]
 ·have g:=D false (decide_eq_false (by rw[a];decide));have S:=C a;refine' ah<|aG (Z2:=[.D (.L<|web.map pairD),.D<|ai rs,.D<|ai rs,.O<|.L<|web.map pairD,.D<|.bl R,.D<|.bl R]) (r:=.D<|.bl R) (Z1:=[.D (.L<|web.map pairD),.D<|ai rs,.D<|ai rs,.O<|.L<|web.map pairD,.D<|.bl R,.no]) (v_res ?x) ρ<|aq<|ah<|bH (v_res<|oJ (xX ρ ρ)<|oJ (ag (aw ρ ρ<|v R) ρ)<|oJ (ag (aw ρ ρ u) ρ)<|ag (aw ρ ρ t) ρ)<|cN ⟨_,ρ⟩;unfold lx;rw[ag (aw (r:=.D<|.bl false) (gq ρ m) ρ g) ρ,S];rfl
 have g:=D true (decide_eq_true (by have:=oy.2 a;omega));exact ah<|aG (Z2:=[.D (.L<|web.map pairD),.D<|ai rs,.D<|ai rs,.O<|.L<|web.map pairD,.D<|.bl R,.D<|.bl R]) (v_res<|rS (b:=true) (ag (aw (gq ρ m) ρ g) ρ)<|ag (az (ae ρ<|ae ρ ao)<|M a) ρ) ρ<|aq<|ah<|bH (v_res<|oJ (xX ρ ρ)<|oJ (ag (aw ρ ρ<|v R) ρ)<|oJ (ag (aw ρ ρ u) ρ)<|ag (aw ρ ρ t) ρ)<|cN ⟨_,ρ⟩
end
local macro_rules | `(tactic| walk_at "0")=>Mq.fs "Pd rrirararrD"
section
variable{P:hY}{w:nR}{K:f'}{mg:eS->Option cn}{base:nL}
def P8(a b):aB [a,b]≠[]:=λz=>by have:=(gk [a,b] cM).length_eq;rw[show [a,b].mergeSort cM=[] from z] at this;cases this
def cH(web:bD):List (List eS):=web.flatMap λp=>p.2.map λn=>aB [p.1,n]
def xm(fn:aN):Prop:=∀web:bD,web.length<=50->(∀p∈web,p.2.length<=50)->2<=(dW<|cH web).length->(dW<|cH web).length<64->fn [.L (web.map pairD)]=ac (.O<|.L<|(fT<|dW<|cH web).map tupS)
def US:∀f∈cH web,f≠[]:=λf a e=>by subst e;obtain⟨p,_,b⟩:=pw.1 a;obtain⟨n,_,e⟩:=a8.1 b;exact P8 _ _ e
theorem Bl:∀web:bD,(∀p∈web,p.2.length<=50)->(cH web).length<=web.length*50
 | [],_=>pe _
 | p::l,h=>by have h1:=h p fk;have:=Bl l λq a=>h q<|f6 _ a;have e:cH (p::l)=(p.2.map λn=>aB [p.1,n])++cH l:=ρ;rw[e,eu,ab,gW,aaN];lia
def Hs(T:Txt mg)(hset:mg "set"=al)(F:bc K "_law_ties" "_law_ties" xy f e):∃fn,a9 P w K mg base aZ 1 f e ["_law_web_here"] (aD K fn)/\xm fn:=by
 refine' bT F B3 ρ ?D ?B
 case D=>walk_at "h"
 intro web h50 a j g;refine' ck ρ ?w;refine' ah<|aG (cR ao<|pe _) ρ<|aq ?_;refine' ah<|dB (λn Z=>∃b c,Fr b/\Fr c/\Z=[.D (.L<|web.map pairD),.O<|.L<|(cH<|web.take n).map tupS,b,c]) (bB ρ) ⟨_,_,ι ρ,ι ρ,ρ⟩ ?st ?C
 case C=>rintro _ ⟨b,c,_,_,rfl⟩;rw[ab,nk];refine' aq<|ah<|bH ?x<|cN ⟨_,ρ⟩;show (kc<|(cH web).map tupS).bind _=_;rw[yG US];exact if_pos ⟨j,g⟩
 rintro n y h _ ⟨b,c,k,l,rfl⟩;rw[c6] at h;obtain⟨p,ep,rfl⟩:=gf.1 h;have m:=eR ep;have i:=Bl (web.take n) λq o=>a q<|YW o;have l2:=a p m;rw[ib] at i;have t:cH (web.take<|n+1)=cH (web.take n)++p.2.map λn=>aB [p.1,n]:=by unfold cH;rw[fy ep,aa2];simp
 rw[t,ft,fm];have hA:(cH<|web.take n).length<=2500:=nE i (by omega);generalize cH (web.take n)=A at *;refine⟨[.D (.L<|web.map pairD),.O<|.L<|A.map tupS,.D<|.str p.1,.D<|.L<|p.2.map .str],by rcases k with rfl|⟨d,rfl⟩<;>rcases l with rfl|⟨d,rfl⟩<;>rfl,?_⟩;refine' ah<|aG (aw ρ (ag (cc (λn=>[.no,.D<|.str n,.D<|.str p.1]) (λn=>tupS<|aB [p.1,n]) (bB ρ) ρ (by unfold cA;omega) ?G (λn _=>by rfl)<|λ_ _=>rfl) ρ)<|nX (by rw[ab,ab];unfold cA;omega)) ρ<|aq<|aU ⟨_,_,τ ⟨_,ρ⟩,τ ⟨_,ρ⟩,ρ⟩;rintro y _ Z (rfl|⟨z,rfl⟩)<;>rfl
def kO:aB [a,b]=aB [c,d] ↔ (a=c/\b=d)\/(a=d/\b=c):=by
 rw[kY];constructor
 ·intro p;have e:=p.mem_iff.1 fk;rcases eW.1 e with rfl|e
  ·exact ι ⟨ρ,abS.1 p.cons_inv⟩
  obtain rfl:=kA.1 e;exact τ ⟨ρ,abS.1 (p.trans<|.swap _ _ _).cons_inv⟩
 rintro (⟨rfl,rfl⟩|⟨rfl,rfl⟩)
 ·exact .refl _
 exact .swap _ _ _
def BU(a b):aB [a,b]=aB [b,a]:=kO.2<|τ ⟨ρ,ρ⟩
noncomputable def oR:List eS->List (List eS)
 | []=>[]
 | a::l=>(l.map λb=>aB [a,b])++oR l
theorem CU:∀l:List eS,2*(oR l).length+l.length=l.length*l.length
 | []=>rfl
 | a::l=>by have:=CU l;grind [oR]
theorem Dv:∀{l:List eS}{x y:eS},x∈l->y∈l->x≠y->aB [x,y]∈oR l
 | a::l,x,y,f,c,d=>by
  rw[oR,eH];rcases eW.1 f with rfl|e
  ·rcases eW.1 c with rfl|b
   ·cases d ρ
   exact ι<|a8.2 ⟨y,b,ρ⟩
  rcases eW.1 c with rfl|b
  ·exact ι<|a8.2 ⟨x,e,BU _ _⟩
  exact τ<|Dv e b d
theorem Gz{rooms:List eS}{l:List (List eS)}(g:rooms.length<=8)(nd:l.Nodup)(h:∀f∈l,∃a∈rooms,∃b,((b∈rooms/\a≠b)\/b∈cy)/\f=aB [a,b]):l.length<64:=by
 have key:l.length<=(oR rooms++rooms.flatMap λa=>cy.map λb=>aB [a,b]).length:=vo nd λf i=>by
  obtain⟨a,d,b,c,rfl⟩:=h f i;rw[eH];rcases c with⟨c,j⟩|c
  ·exact ι<|Dv d c j
  exact τ<|pw.2 ⟨a,d,a8.2 ⟨b,c,ρ⟩⟩
 have e:∀l:List eS,(l.flatMap λa=>cy.map λb=>aB [a,b]).length=4*l.length:=λl=>by
  induction l with
  | nil=>rfl
  | cons a l k=>rw[abw,eu,k,ab,gW];show 4+_=_;omega
 rw[eu,e] at key;have p:=CU rooms;have q:=ade rooms.length g;omega
def nD (c:x.ok)(d:y.ok):ik x y=bd ↔ bZ 0 x y=bd\/bZ 1 x y=bd:=by delta ik gu;rw[rj (ι ρ) c d,rj (τ ρ) c d];show _ ↔ (am (y.b=x.t)&&dS 1 x y)=bd\/(am (y.l=x.r)&&dS 2 x y)=bd;simp;rw[eq_comm,eq_comm (a:=y.l)]
def vz:bZ 2 x y=bZ 0 y x/\bZ 3 x y=bZ 1 y x:=by show (am (y.t=x.b)&&(am (x.l<y.r)&&am (y.l<x.r)))=(am (x.b=y.t)&&(am (y.l<x.r)&&am (x.l<y.r)))/\(am (y.r=x.l)&&(am (x.b<y.t)&&am (y.b<x.t)))=(am (x.l=y.r)&&(am (y.b<x.t)&&am (x.b<y.t)));lia
def aP.n9 (F:aP rs)(b:x∈rs)(c:k<4):n∈dv rs x.2 k ↔ (fG rs x.2 k/\n=aK k)\/∃y∈rs,bZ k x.2 y.2=bd/\n=y.1:=by
 constructor
 ·intro h;unfold dv at h;split at h
  ·rename_i e;exact ι ⟨Decidable.byContradiction λz=>F.inner b c z e,kA.1 h⟩
  obtain⟨p,f,rfl⟩:=a8.1 h;obtain⟨y,a,rfl⟩:=a8.1<|yK.1 f;have:=hB.1 a;exact τ ⟨y,this.1,this.2,ρ⟩
 rintro (⟨g,rfl⟩|⟨y,a,i,rfl⟩)
 ·delta dv;rw[if_pos (F.outer b c g)];exact kA.2 ρ
 have d:(cz k y.2,y.1)∈fS rs x.2 k:=a8.2 ⟨y,hB.2 ⟨a,i⟩,ρ⟩;delta dv;rw[if_neg (List.ne_nil_of_mem d)];exact a8.2 ⟨_,yK.2 d,ρ⟩
def aP.lZ (F:aP rs)(c:x∈rs):n∈fP rs x ↔ (∃k,k<4/\fG rs x.2 k/\n=aK k)\/∃y∈rs,(ik x.2 y.2=bd\/ik y.2 x.2=bd)/\n=y.1:=by
 rw[rF F c];constructor
 ·intro h;obtain⟨k,d,h⟩:=pw.1 h;have d:=iW.1 d;rcases (F.n9 c d).1 h with⟨a,b⟩|⟨y,f,g,e⟩
  ·exact ι ⟨k,d,a,b⟩
  refine τ ⟨y,f,?_,e⟩;rw[nD (F.ok c) (F.ok f),nD (F.ok f)<|F.ok c];have d:k=0\/k=1\/k=2\/k=3:=⋯;rcases d with rfl|rfl|rfl|rfl
  ·exact ι<|ι g
  ·exact ι<|τ g
  ·exact τ<|ι<|vz.1 ▸ g
  exact τ<|τ<|vz.2 ▸ g
 have go:∀k,k<4->n∈dv rs x.2 k->n∈dU rs x.2 4:=λk d h=>pw.2 ⟨k,iW.2 d,h⟩;rintro (⟨k,d,a,b⟩|⟨y,f,h,e⟩)
 ·exact go k d<|(F.n9 c d).2 (ι ⟨a,b⟩)
 rw[nD (F.ok c) (F.ok f),nD (F.ok f)<|F.ok c] at h;rcases h with (h|h)|h|h
 ·exact go 0 ⋯ ((F.n9 c ⋯).2 (τ ⟨y,f,h,e⟩))
 ·exact go 1 ⋯ ((F.n9 c ⋯).2 (τ ⟨y,f,h,e⟩))
 ·exact go 2 ⋯ ((F.n9 c ⋯).2 (τ ⟨y,f,vz.1.symm ▸ h,e⟩))
 exact go 3 ⋯ ((F.n9 c ⋯).2 (τ ⟨y,f,vz.2.symm ▸ h,e⟩))
def vf:f∈dH rs x (dw rs x.2) ↔ ∃k,k<4/\fG rs x.2 k/\f=aB [x.1,aK k]:=by
 delta dH;rw[a8];constructor
 ·rintro⟨s,hs,rfl⟩;obtain⟨hs,a⟩:=hB.1 hs;have a:=of_decide_eq_true a;simp[dw] at hs;rcases hs with rfl|rfl|rfl|rfl
  ·exact⟨0,⋯,a,ρ⟩
  ·exact⟨1,⋯,a,ρ⟩
  ·exact⟨2,⋯,a,ρ⟩
  exact⟨3,⋯,a,ρ⟩
 rintro⟨k,c,a,rfl⟩;have c:k=0\/k=1\/k=2\/k=3:=⋯;rcases c with rfl|rfl|rfl|rfl
 ·exact⟨(x.2.t,bw rs,"north"),hB.2 ⟨by simp[dw],decide_eq_true a⟩,ρ⟩
 ·exact⟨(x.2.r,bu rs,"east"),hB.2 ⟨by simp[dw],decide_eq_true a⟩,ρ⟩
 ·exact⟨(x.2.b,0,"south"),hB.2 ⟨by simp[dw],decide_eq_true a⟩,ρ⟩
 exact⟨(x.2.l,0,"west"),hB.2 ⟨by simp[dw],decide_eq_true a⟩,ρ⟩
def qd:f∈fE x rs ↔ ∃y∈rs,ik x.2 y.2=bd/\f=aB [x.1,y.1]:=by
 delta fE;rw[a8];constructor
 ·rintro⟨y,a,rfl⟩;exact⟨y,(hB.1 a).1,(hB.1 a).2,ρ⟩
 rintro⟨y,a,h,rfl⟩;exact⟨y,hB.2 ⟨a,h⟩,ρ⟩
def oZ:f∈cH (iq rs) ↔ ∃x∈rs,∃n∈fP rs x,f=aB [x.1,n]:=by
 delta cH iq;rw[pw];constructor
 ·rintro⟨p,c,h⟩;obtain⟨x,a,rfl⟩:=a8.1 c;obtain⟨n,b,rfl⟩:=a8.1 h;exact⟨x,a,n,b,ρ⟩
 rintro⟨x,a,n,b,rfl⟩;exact⟨_,a8.2 ⟨x,a,ρ⟩,a8.2 ⟨n,b,ρ⟩⟩
def aP.va (F:aP rs):f∈dj rs rs ↔ f∈cH (iq rs):=by
 rw[oZ];delta dj;rw[pw];constructor
 ·rintro⟨x,a,h⟩;rcases eH.1 h with h|h
  ·obtain⟨k,d,e,rfl⟩:=vf.1 h;exact⟨x,a,_,(F.lZ a).2 (ι ⟨k,d,e,ρ⟩),ρ⟩
  obtain⟨y,c,b,rfl⟩:=qd.1 h;exact⟨x,a,_,(F.lZ a).2 (τ ⟨y,c,ι b,ρ⟩),ρ⟩
 rintro⟨x,a,n,g,rfl⟩;rcases (F.lZ a).1 g with⟨k,d,e,rfl⟩|⟨y,c,b|b,rfl⟩
 ·exact⟨x,a,eH.2<|ι<|vf.2 ⟨k,d,e,ρ⟩⟩
 ·exact⟨x,a,eH.2<|τ<|qd.2 ⟨y,c,b,ρ⟩⟩
 exact⟨y,c,eH.2<|τ<|qd.2 ⟨x,a,b,BU _ _⟩⟩
def wc (c:x.ok)(d:y.ok)(h:ik x y=bd):ik y x=bi:=by
 rw[<-yv];intro e;rw[nD c d] at h;rw[nD d c] at e;delta Ob.ok at c d;have f:∀a b:Ob,bZ 0 a b=bd ↔ b.b=a.t/\a.l<b.r/\b.l<a.r:=λa b=>by show (am (b.b=a.t)&&(am (a.l<b.r)&&am (b.l<a.r)))=bd ↔ _;simp
 have g:∀a b:Ob,bZ 1 a b=bd ↔ b.l=a.r/\a.b<b.t/\b.b<a.t:=λa b=>by show (am (b.l=a.r)&&(am (a.b<b.t)&&am (b.b<a.t)))=bd ↔ _;simp
 rw[f,g] at h e;omega
def aP.sd (F:aP rs)(a:y∈rs)(k:Nat):aK k≠y.1:=λe=>by have:=F.nm y a;grind [rb]
def aP.L6 (F:aP rs):(dj rs rs).Nodup:=by
 delta dj acj;rw[List.pairwise_flatMap];refine⟨λx q=>?_,?_⟩
 ·show (dH rs x (dw rs x.2)++fE x rs).Nodup;rw[iR];refine⟨?_,?_,λa d b i e=>?_⟩
  ·delta dH;rw[acj,gd];refine l4 pB (?_:(dw rs x.2).Pairwise _);have key:∀a b:eS,a≠b->∀c,aB [c,a]≠aB [c,b]:=λa b n c e=>by
    rcases kO.1 e with⟨_,h⟩|⟨j,l⟩
    ·exact n h
    exact n<|l.trans j
   delta dw;simp only[T',eW,hF,or_false,aaR,and_true,forall_eq_or_imp,forall_eq];refine⟨⟨key _ _ (by decide +kernel) _,key _ _ (by decide +kernel) _,key _ _ (by decide +kernel) _⟩,⟨key _ _ (by decide +kernel) _,key _ _ (by decide +kernel) _⟩,key _ _ (by decide +kernel) _,λa h=>nomatch h⟩
  ·delta fE;rw[acj,gd];refine l4 pB ((gd.1 F.nd).imp λ{a b} n e=>?_);rcases kO.1 e with⟨_,h⟩|⟨j,l⟩
   ·exact n h
   exact n<|l.trans j
  obtain⟨k,_,_,rfl⟩:=vf.1 d;obtain⟨y,o,_,rfl⟩:=qd.1 i;rcases kO.1 e with⟨_,h⟩|⟨_,h⟩
  ·exact F.sd o k h
  exact F.sd q k h
 have r:rs.Pairwise λa b=>a∈rs/\b∈rs/\a.1≠b.1:=by have:=gd.1 F.nd;rw[abv] at this ⊢;exact λ{a b} s=>⟨s.subset (by simp),s.subset (by simp),this s⟩
 refine r.imp λ{a b} h f t g u e=>?_;obtain⟨d,i,n⟩:=h;subst e;have A:∀c∈rs,∀{f},f∈dH rs c (dw rs c.2)++fE c rs->∃m,f=aB [c.1,m]/\((∃k,m=aK k)\/∃y∈rs,m=y.1/\ik c.2 y.2=bd):=λc hc f h=>by
  rcases eH.1 h with h|h
  ·obtain⟨k,_,_,rfl⟩:=vf.1 h;exact⟨_,ρ,ι ⟨k,ρ⟩⟩
  obtain⟨y,o,v,rfl⟩:=qd.1 h;exact⟨_,ρ,τ ⟨y,o,ρ,v⟩⟩
 obtain⟨m,rfl,j⟩:=A a d t;obtain⟨m',e,l⟩:=A b i u;rcases kO.1 e with⟨h,_⟩|⟨h,h'⟩
 ·exact n h
 subst h h';rcases j with⟨k,z⟩|⟨y,o,B,ty⟩
 ·exact F.sd i k z.symm
 rcases l with⟨k,z⟩|⟨z,hz,C,p⟩
 ·exact F.sd d k z.symm
 have D:=F.kr i o B;have E:=F.kr d hz C;subst D E;rw[wc (F.ok d) (F.ok i) ty] at p;cases p
theorem Hn:∀a b:List (List eS),eI (a.map tupS) (b.map tupS)=am (a=b)
 | [],[]=>rfl
 | [],_::_=>by simp[eI]
 | _::_,[]=>by simp[eI]
 | x::a,y::b=>by show (bV (.U<|x.map .str) (.U<|y.map .str)&&eI (a.map tupS) (b.map tupS))=_;rw[oV,uX,Hn a b,tz];simp
def L5{a b:List (List eS)}(c:∀f∈a,∀x∈f,aT x)(e:∀f∈b,∀x∈f,aT x):dg false (.L<|a.map tupS) (.L<|b.map tupS)=ac (.D<|.bl<|am<|a=b):=by
 have key:∀{l:List (List eS)},(∀f∈l,∀x∈f,aT x)->bQ (.L<|l.map tupS)=bd:=λ{l} h=>zZ (by rw[iN];intro d hd;obtain⟨f,g,rfl⟩:=a8.1 hd;show (f.map Dat.str).all eM=bd;rw[iN];intro d hd;obtain⟨x,i,rfl⟩:=a8.1 hd;exact (h f g x i).ok)
 rw[v_eq (key c) (key e),kG,Hn]
def Bb (a:x.ok)(c:y.ok):(gu 1 x y&&gu 2 x y)=bi ↔ Apart x y:=by delta gu;rw[rj (ι ρ) a c,rj (τ ρ) a c];show ((am (x.l<y.r)&&am (y.l<x.r))&&(am (x.b<y.t)&&am (y.b<x.t)))=bi ↔ _;delta Apart;rw[<-yv];simp only[fv,decide_eq_true_eq];omega
def Br:rR x=bd ↔ 0<=x.l/\x.l<x.r/\0<=x.b/\x.b<x.t:=by delta rR;simp;omega
def EL (h:cV web)(ne:rs≠[]):k9 web rs=bd ↔ aP rs/\aB (rs.map (·.1))=aB (web.map (·.1)):=by
 unfold k9;rw[fv,fv,decide_eq_true_eq,decide_eq_true_eq,iN];constructor
 ·rintro⟨⟨d,f⟩,i⟩;have pm:=kY.1 d;have nd:=pm.nodup_iff.2 h.nd;have row:∀x∈rs,0<=x.2.l/\x.2.l<x.2.r/\0<=x.2.b/\x.2.b<x.2.t:=λx a=>by have:=f x a;unfold jI at this;rw[fv] at this;exact Br.1 this.1
  refine⟨⟨ne,?_,λx a=>?_,row,nd,?_,i⟩,d⟩
  ·have:=pm.length_eq;rw[ab,ab] at this;have:=h.bI;lia
  ·obtain⟨p,j,e⟩:=a8.1<|pm.mem_iff.1<|a8.2 ⟨x,a,ρ⟩;rw[<-e];exact h.nm p j
  have g:=gd.1 nd;rw[abv] at g ⊢;intro x y s;have a:x∈rs:=s.subset (by simp);have c:y∈rs:=s.subset (by simp);have e:=f x a;unfold jI at e;rw[fv,iN] at e;have e:=e.2 y c;unfold nU at e;rw[decide_eq_false λz:x=y=>g s<|z ▸ ρ] at e;have e:(gu 1 x.2 y.2&&gu 2 x.2 y.2)=bi:=by simpa only[Bool.not_false,ZI,ow] using e
  exact (Bb ⟨(row x a).2.1,(row x a).2.2.2⟩ ⟨(row y c).2.1,(row y c).2.2.2⟩).1 e
 rintro⟨F,d⟩;refine⟨⟨d,λx a=>?_⟩,F.ar⟩;unfold jI;rw[fv,iN];refine⟨Br.2<|F.row x a,λy c=>?_⟩;unfold nU;by_cases e:x=y
 ·rw[decide_eq_true e];rfl
 have:Apart x.2 y.2:=by
  rcases jq F.ap a c with z|z|z
  ·cases e z
  ·exact z
  grind [Apart]
 rw[(Bb (F.ok a)<|F.ok c).2 this,Ys];rfl
def aP.UE (F:aP rs)(a:x∈rs)(d:n∈fP rs x):((n∈rs.map (·.1)/\x.1≠n)\/n∈cy):=by
 rcases (F.lZ a).1 d with⟨k,f,_,rfl⟩|⟨y,c,b,rfl⟩
 ·exact τ<|vY f
 refine ι ⟨a8.2 ⟨y,c,ρ⟩,λe=>?_⟩;have:=F.kr a c e;subst this;rcases b with b|b
 ·have:=wc (F.ok a) (F.ok a) b;simp_all
 have:=wc (F.ok a) (F.ok a) b;simp_all
def xq (nd:(rs.map (·.1)).Nodup)(a:x∈rs):dI (iq rs) x.1=fP rs x:=eF (p:=(x.1,fP rs x)) (by unfold iq;rw[fm];exact nd)<|a8.2 ⟨x,a,ρ⟩
def UW (h:cV web)(hw:fF web)(F:aP rs)(c:aB (rs.map (·.1))=aB (web.map (·.1))):(∀f,f∈cH (iq rs) ↔ f∈cH web) ↔ ∀p∈web,aB p.2=aB (dI (iq rs) p.1):=by
 have pm:=kY.1 c;have j:∀{f},f∈cH web ↔ ∃p∈web,∃n∈p.2,f=aB [p.1,n]:=λ{f}=>by unfold cH;rw[pw];exact⟨λ⟨p,a,h⟩=>by obtain⟨n,c,rfl⟩:=a8.1 h;exact⟨p,a,n,c,ρ⟩,λ⟨p,a,n,c,e⟩=>⟨p,a,a8.2 ⟨n,c,e.symm⟩⟩⟩
 have of:∀p∈web,∃x∈rs,x.1=p.1:=λp a=>by obtain⟨x,b,e⟩:=a8.1<|pm.mem_iff.2<|a8.2 ⟨p,a,ρ⟩;exact⟨x,b,e⟩
 have s:(∀p∈web,aB p.2=aB (dI (iq rs) p.1)) ↔ ∀p∈web,∀x∈rs,x.1=p.1->∀n,n∈p.2 ↔ n∈fP rs x:=by
  constructor
  ·intro H p a x b e n;have:=kY.1<|H p a;rw[<-e,xq F.nd b] at this;exact this.mem_iff
  intro H p a;obtain⟨x,b,e⟩:=of p a;rw[<-e,xq F.nd b,kY];exact (lq (h.rg p a).2.1 (by rw[rF F b];exact F.pS b)).2 (H p a x b e)
 rw[s];constructor
 ·intro H p a x b e n;constructor
  ·intro c;obtain⟨y,l,m,g,o⟩:=oZ.1 ((H _).2 (j.2 ⟨p,a,n,c,ρ⟩));rcases kO.1 o with⟨d,i⟩|⟨d,i⟩
   ·have:=F.kr b l (e.trans d);simp_all
   have:m=x.1:=d.symm.trans e.symm;rw[this] at g;rw[i];rcases (F.lZ l).1 g with⟨k,_,_,z⟩|⟨z,hz,t,A⟩
   ·exact absurd z.symm<|F.sd b k
   have:=F.kr b hz A;subst this;exact (F.lZ b).2 (τ ⟨y,l,t.symm,ρ⟩)
  intro c;obtain⟨q,r,m,g,o⟩:=j.1 ((H _).1 (oZ.2 ⟨x,b,n,c,ρ⟩));rcases kO.1 o with⟨d,i⟩|⟨d,i⟩
  ·have:dI web p.1=dI web q.1:=by rw[<-e,d]
   rw[eF h.nd a,eF h.nd r] at this;simp_all
  have u:p.1∈web.map (·.1):=a8.2 ⟨p,a,ρ⟩;have v:q.1∈web.map (·.1):=a8.2 ⟨q,r,ρ⟩;have g:p.1∈dI web q.1:=by rw[eF h.nd r,<-e,d];exact g
  have:=hw.C.sym q.1 v p.1 u g;rwa[eF h.nd a,<-i] at this
 intro H f;rw[oZ,j];constructor
 ·rintro⟨x,b,n,c,rfl⟩;obtain⟨p,a,e⟩:=a8.1<|pm.mem_iff.1<|a8.2 ⟨x,b,ρ⟩;exact⟨p,a,n,(H p a x b e.symm n).2 c,by rw[e]⟩
 rintro⟨p,a,n,c,rfl⟩;obtain⟨x,b,e⟩:=of p a;exact⟨x,b,n,(H p a x b e n).1 c,by rw[e]⟩
theorem HM (q:x6 j)(t:xm k)(s:yB j k fn)(h:cV web)(hw:fF web)(ok:iA rs)(ne:rs≠[]):fn [.L (web.map pairD),ai rs]=ac (.D<|.bl<|gw web rs):=by
 have bI:=h.bI;refine s web rs (gw web rs) ne (by lia) (λp g=>h.txt<|ι<|a8.2 ⟨p,g,ρ⟩) ok (λz=>?_) λz=>?_
 ·rw[<-yv] at z ⊢;intro y;delta gw at y;rw[fv,fv,decide_eq_true_eq] at y;exact z<|(EL h ne).2 ⟨(vC rs).1 y.1.1,y.1.2.symm⟩
 obtain⟨F,i⟩:=(EL h ne).1 z;have nt:=F.L6;have lt:(dj rs rs).length<64:=Gz (rooms:=rs.map (·.1)) (by rw[ab];exact F.bI) nt λf c=>by obtain⟨x,d,n,i,rfl⟩:=oZ.1<|F.va.1 c;exact⟨x.1,a8.2 ⟨x,d,ρ⟩,n,F.UE d i,ρ⟩
 have ld:(dW<|cH web).length<64:=Gz (rooms:=web.map (·.1)) (by rw[ab];exact bI.2) (wO _) λf c=>by obtain⟨p,g,c⟩:=pw.1<|mm.1 c;obtain⟨n,i,rfl⟩:=a8.1 c;have:=(h.rg p g).2.2 n i;exact⟨p.1,a8.2 ⟨p,g,ρ⟩,n,this.1.elim (λz=>ι ⟨z,λe=>this.2 e.symm⟩) τ,ρ⟩
 have u:2<=(dW<|cH web).length:=by
  obtain⟨p,g⟩:∃p,p∈web:=by
   cases web with
   | nil=>simp at bI
   | cons p l=>exact⟨p,fk⟩
  have r:=h.rg p g;apply nE<|Nat.le_of_succ_le r.1;rw[<-ab];refine Yk ?_ λf c=>mm.2<|pw.2 ⟨p,g,c⟩;rw[acj,gd];refine List.Pairwise.imp (λ{a b} n e=>?_) r.2.1;rcases kO.1 e with⟨_,z⟩|⟨v,A⟩
  ·exact n z
  exact n<|A.trans v
 have m:∀p∈web,p.2.length<=50:=λp g=>nE (h.len g) ⋯;refine⟨_,_,q rs ne (nE F.bI ⋯) ok.tx nt lt,t web (by lia) m u ld,?_⟩;rw[L5]
 ·have e:am (fT (dj rs rs)=fT (dW<|cH web))=gw web rs:=by
   delta gw;rw[(vC rs).2 F,decide_eq_true i.symm,ZI,ZI,tz,decide_eq_true_eq,iN];simp only[decide_eq_true_eq];rw[<-UW h hw F i];constructor
   ·intro e f;rw[<-F.va,<-mm (fs:=cH web)];have o:(fT<|dj rs rs).Perm (dj rs rs):=gk _ _;have B:(fT<|dW<|cH web).Perm (dW<|cH web):=gk _ _;rw[e] at o;exact (o.symm.trans B).mem_iff
   exact λe=>GP ((lq nt<|wO _).2 λf=>by rw[F.va,e f,mm])
  rw[e]
 ·intro f c x d;have c:=(gk _ _).mem_iff.1 c;obtain⟨y,C,n,i,rfl⟩:=oZ.1<|F.va.1 c;have d:=jJ.1 d;rcases eW.1 d with rfl|d
  ·exact ok.tx y C
  rw[kA.1 d];exact BE ok n i
 intro f c x d;have c:=(gk _ _).mem_iff.1 c;obtain⟨p,g,c⟩:=pw.1<|mm.1 c;obtain⟨n,i,rfl⟩:=a8.1 c;have d:=jJ.1 d;rcases eW.1 d with rfl|d
 ·exact h.txt<|ι<|a8.2 ⟨p,g,ρ⟩
 rw[kA.1 d];exact h.txt ((h.rg p g).2.2 n i).1
def dC(o:Ob):Prop:=(-4000<=o.l/\o.l<=4000)/\(-4000<=o.b/\o.b<=4000)/\(-4000<=o.r/\o.r<=4000)/\(-4000<=o.t/\o.t<=4000)
def Bn(o:Ob):Prop:=(0<=o.l/\o.l<=999)/\(0<=o.b/\o.b<=999)/\(0<=o.r/\o.r<=999)/\(0<=o.t/\o.t<=999)
theorem Bn.sm{o:Ob}(h:Bn o):dC o:=by unfold Bn at h;unfold dC;omega
theorem Bn.mv{o:Ob}(h:Bn o){k:Nat}{c d:Int}(hd:-300<=d/\d<=300):dC (gb k c d o):=by unfold Bn at h;unfold gb gx dC;split<;>dsimp only<;>split<;>split<;>omega
theorem Bn.on{o:Ob}(h:Bn o):dC ⟨o.l+1,o.b,o.r+1,o.t⟩:=by grind [Bn,dC]
theorem Bn.over{o p:Ob}(h:Bn o)(g:Bn p):dC ⟨o.l,p.t-o.t,o.r,p.t-o.b⟩:=by unfold Bn at h g;unfold dC;dsimp only;omega
theorem Bn.turn{o:Ob}(h:Bn o):dC ⟨o.b,o.l,o.t,o.r⟩:=by unfold Bn at h;unfold dC;dsimp only;omega
theorem Bn.two{o:Ob}(h:Bn o):dC ⟨2*o.l,2*o.b,2*o.r,2*o.t⟩:=by grind [Bn,dC]
def uM (h:∀x∈a,aT x.1/\dC x.2)(hl:a.length<=50):iA a:=⟨λx b=>(h x b).1,λx b=>by have:=(h x b).2;unfold dC at this;omega,hl⟩
def RV (h:f Z=ac (d,Z1))(h1:g Z1=ac (d',Z2))(h2:op d d'=al):bW op f g Z=al:=by simp_all [bW]
def Fq (a:f Z=ac (.L xs,Z1))(b:g Z1=ac (.int (n:Int),Z2))(c:xs.length<=1000)(hn:n<=2):alt (bW (fw dP λi j=>.int<|i*j) f g) (bW sQ f g) Z=ac (.O<|.L (r4 n xs).flatten,Z2) :=
 ot (RV a b ρ) (aw a b<|if_pos ⟨⋯,⋯,c⟩)
theorem rep1 (f:a->b)(x:a):∀n:Nat,(r4 n [f x]).flatten=(r4 n x).map f
 | 0=>rfl
 | n+1=>⋯
def K8{b:Type}{xs:List b}{a:Nat}(h:a<xs.length):cutD xs (ac 1) (ac (a:Int))=(xs.drop 1).take (a-1):=by delta cutD;rw[show (1:Int)=((1:Nat):Int) from ρ,uh,uh,ael<|Zx h,ael (show 1<=xs.length by omega)]
def NM (hf:f Z=ac (d,Z1))(h1:g Z1=ac (.int i,Z2))(h2:h Z2=ac (.int j,Z3))(h3:eX d (ac i) (ac j)=ac r):iS f (iT g) (iT h) Z=ac (r,Z3):=by simp_all [iS,iT]
def xD(x):eX (af x) (ac 1) al=ac (.D<|.U [.int x.2.l,.int x.2.b,.int x.2.r,.int x.2.t]):=ρ
def FT(fn:dG):Prop:=∀p (rs:Fl),Drawn rs->∃r a,fn (pD p) [ai rs]=ac (r,a)/\∃(b:Fl) (c:Int×Int),r=.O (ai b)/\a=pD c/\iA b
theorem SJ(T:Txt mg){O:dG}(p1:aY P w K mg base "_law_draw" 1 (eJ K 0 O))(Q:nJ O){X:aN}(V:aY P w K mg base "_law_moved" 1 (aD K X))(s2:Fi X){f:dk}{fd:hO}(F:bc K "_law_bent" "_law_bent" zy f fd):∃fn,a9 P w K mg base aZ 2 f fd ["_law_purse_here","_law_rows"] (eJ K 0 fn)/\FT fn:=by
 refine' oW (j:=0) F Fh (n:=1) ρ ?hb ?post
 case hb=>have nd:=Fh.nd;have lk:kN "_law_purse_here":=⟨trivial⟩;walk_at "h"
 clear T F p1 V;intro p rs R;have h8:=R.fl.bI;have ne:=R.fl.ne;have hp:0<rs.length:=oy.2 ne;have q:1<=sizeLine:=by unfold cA;decide
 have s5:5<=sizeLine:=by unfold cA;decide
 have s6:6<=sizeLine:=by unfold cA;decide
 have G:rs.length<=sizeLine:=by unfold cA;omega
 have lr:dD (ai rs)=ac rs.length:=by simp[dD,ai]
 have C:∀x∈rs,aT x.1/\Bn x.2:=λx v=>⟨R.ok.tx x v,by have:=R.fl.row x v;have:=R.sm x v;unfold Bn;omega⟩;have sm:∀x∈rs,aT x.1/\dC x.2:=λx v=>⟨(C x v).1,(C x v).2.sm⟩;refine' qY ρ ?w;show WS _ [.io (pD p),.D<|ai rs,.no,.no,.no,.no,.no,.no,.no,.no] _;obtain⟨v0,q0,t0,a0,b0⟩:=Q p (m:=(rs.length:Int)) (by omega) ⋯;obtain⟨a,rfl⟩:=y3 a0;have ha:a<rs.length:=⋯;obtain⟨x,ex⟩:∃x,rs[a]?=ac x:=⟨_,bt ha⟩;have v:=eR ex;have ix:cC (ai rs) (.int (a:Int))=ac (af x):=by show cC (.L<|rs.map af) _=_;rw[k8];exact kJ (by rw[c6,ex];rfl)
 refine' ah<|aG (Z2:=[.io (pD q0),.D<|ai rs,.D<|.int a,.no,.no,.no,.no,.no,.no,.no]) (dz ρ (ae (gq ρ lr) ao) ρ t0 ρ) ρ<|aq ?_;refine' ah<|aG (Z2:=[.io (pD q0),.D<|ai rs,.D<|.int a,.D<|af x,.no,.no,.no,.no,.no,.no]) (v_res<|aI ρ ρ ρ ix) ρ<|aq ?_;obtain⟨v1,q1,t1,a1,b1⟩:=Q q0 (m:=2) (by decide) (by decide);obtain⟨k,hk,ek⟩:∃k:Nat,(k=1\/k=2)/\1+v1=(k:Int):=by obtain⟨u,rfl⟩:=y3 a1;exact⟨1+u,by omega,by omega⟩
 refine' ah<|aG (Z2:=[.io (pD q1),.D<|ai rs,.D<|.int a,.D<|af x,.D<|.int k,.no,.no,.no,.no,.no]) (aw ρ (ag (dz ρ (ae ρ ao) ρ t1 ρ) ρ) (show fq (.int 1) (.int v1)=ac (.D<|.int k) from by rw[<-ek];rfl)) ρ<|aq ?_;obtain⟨I,V,t2,a2,b2⟩:=Q q1 (m:=6) (by decide) (by decide);obtain⟨d,hd,ed⟩:∃d:Int,(-300<=d/\d<=300)/\cC (.L [.int 1,.int<|-1,.int 5,.int<|-40,.int 300,.int<|-300]) (.int I)=ac (.int d):=by
  have:I=0\/I=1\/I=2\/I=3\/I=4\/I=5:=by omega
  rcases this with rfl|rfl|rfl|rfl|rfl|rfl<;>exact⟨_,by decide,rfl⟩
 refine' ah<|aG (Z2:=[.io (pD V),.D<|ai rs,.D<|.int a,.D<|af x,.D<|.int k,.D<|.int d,.no,.no,.no,.no]) (v_res<|zT (ag (cR (ae ρ<|ae ρ<|ae ρ<|ae ρ<|ae ρ<|ae ρ ao) s6) ρ) (ag (dz ρ (ae ρ ao) ρ t2 ρ) ρ) ed) ρ<|aq ?_;obtain⟨D,o,t3,a3,b3⟩:=Q V (m:=9) (by decide) (by decide);refine' ah<|aG (Z2:=[.io (pD o),.D<|ai rs,.D<|.int a,.D<|af x,.D<|.int k,.D<|.int d,.D<|.int D,.no,.no,.no]) (dz ρ (ae ρ ao) ρ t3 ρ) ρ<|aq ?_;clear t0 t1 t2 t3 ix;have S:eX (ai rs) (ac<|(a:Int)+1) al=ac (.O<|.L<|(rs.drop<|a+1).map af):=by rw[show (a:Int)+1=((a+1:Nat):Int) from by omega];show ac (Res.O<|.L<|cutD (rs.map af) _ al)=_;rw[nF,YI]
 have sT:eX (ai rs) al (ac (a:Int))=ac (.O<|.L<|(rs.take a).map af):=by show ac (Res.O<|.L<|cutD (rs.map af) al _)=_;rw[nZ,Zf]
 have ad:∀xs ys:Fl,xs.length+ys.length<=1000->fq (.L<|xs.map af) (.L<|ys.map af)=ac (.O<|.L<|(xs++ys).map af):=λxs ys h=>by rw[ft];exact nX (by rw[ab,ab];unfold cA;omega)
 have Y:∀y∈rs.take a,aT y.1/\dC y.2:=λy i=>sm y<|YW i;have U:∀y∈rs.drop (a+1),aT y.1/\dC y.2:=λy i=>sm y<|YX i;have N:(rs.take a).length=a:=by rw[ib];omega
 have J:(rs.drop<|a+1).length=rs.length-(a+1):=t9;have B:∀{xs ys:Fl},(∀y∈xs,aT y.1/\dC y.2)->(∀y∈ys,aT y.1/\dC y.2)->∀y∈xs++ys,aT y.1/\dC y.2:=λh1 h2 y i=>by
  rcases eH.1 i with z|z
  ·exact h1 y z
  exact h2 y z
 have be:∀{z:eS×Ob},aT z.1/\dC z.2->∀y∈[z],aT y.1/\dC y.2:=λh y i=>by rw[kA.1 i];exact h
 have mv:∀(c:Int) (y:eS×Ob),y∈rs->aT y.1/\dC (gb k c d y.2):=λc y i=>⟨(C y i).1,(C y i).2.mv hd⟩
 have all:∀g:eS×Ob->Ob,(∀y∈rs,dC<|g y)->iA (rs.map λy=>(y.1,g y)):=λg hg=>uM (λy i=>by obtain⟨z,hz,rfl⟩:=a8.1 i;exact⟨(C z hz).1,hg z hz⟩) (by rw[ab];omega)
 have L:∀g:eS×Ob->Ob,Dat.L (rs.map λy=>af (y.1,g y))=ai (rs.map λy=>(y.1,g y)):=λg=>by unfold ai;rw[fm];rfl
 refine ah<|dm (bK<|aw ρ ρ<|eq_int _ _) (λ_=>?_)<|λn0=>aU<|aq ?_
 ·have e:=s2 [x] k (co k x.2) d hk (by show 1<=1000;decide);refine ah<|bH (aw (ag (aw (ag (mH ρ ρ sT) ρ) (ag (az (ae (ag (cR (ae ρ ao) q) ρ)<|ae ρ<|ae (aI ρ ρ ρ<|j9 x (by omega))<|ae ρ ao) e) ρ)<|ad (rs.take a) [(x.1,gb k (co k x.2) d x.2)] (by rw[N];show a+1<=_;omega)) ρ) (ag (iV ρ (ag (aw ρ ρ ρ) ρ) S) ρ)<|ad _ _ (by rw[eu,N,J];show a+1+_<=_;omega))<|cN ⟨_,_,_,ρ,ρ,_,o,ρ,ρ,uM (B (B Y<|be<|mv _ x v) U) ?_⟩;rw[eu,eu,N,J];show a+1+_<=_;omega
 refine ah<|dm (bK<|aw ρ ρ ρ) (λW=>?_)<|λW=>aU<|aq ?_
 ·have W:=of_decide_eq_true W;have n0:=of_decide_eq_false n0;obtain⟨j,hj,ej⟩:∃j:Nat,(j=1\/j=2\/j=3\/j=4)/\(k:Int)+2*(D-1)=(j:Int):=by
   have:D=1\/D=2:=by omega
   rcases this with rfl|rfl
   ·exact⟨k,by omega,by omega⟩
   exact⟨k+2,by omega,by omega⟩
  have e:=s2 rs k (co j x.2) d hk (by omega);refine ah<|bH (az (ae ρ<|ae ρ<|ae (aI ρ (ag (aw ρ (ag (dM<|aw ρ (ag (aw ρ ρ ρ) ρ)<|sG<|qQ (by decide)) ρ) (show fq (.int k) (.int<|2*(D-1))=ac (.D<|.int j) from by rw[<-ej];rfl)) ρ) ρ<|j9 x hj)<|ae ρ ao) e)<|cN ⟨_,_,_,ρ,ρ,_,o,ρ,ρ,all (λy=>gb k (co j x.2) d y.2) λy i=>(mv _ y i).2⟩
 refine ah<|dm (bK<|aw ρ ρ<|eq_int _ _) (λ_=>?_)<|λn3=>aU<|aq ?_
 ·obtain⟨v4,q4,t4,a4,b4⟩:=Q o (m:=3) (by decide) (by decide);obtain⟨m,rfl⟩:=y3 a4;have hm:m<=2:=by omega
  have ev:=Fq (f:=fu<|oG<|dQ (cI 3) gg) (g:=fu<|o5 O 0<|dQ (fC<|.int 3) gg) (Z:=[.io (pD o),.D<|ai rs,.D<|.int a,.D<|af x,.D<|.int k,.D<|.int d,.D<|.int D,.no,.no,.no]) (xs:=[af x]) (n:=m) (ag (cR (ae ρ ao) q) ρ) (ag (dz ρ (ae ρ ao) ρ t4 ρ) ρ) (by show 1<=1000;decide) hm;rw[rep1 af] at ev;refine ah<|bH (aw (ag (aw (ag (mH ρ ρ sT) ρ) (ag (iV ρ (ag (aw ρ ρ ρ) ρ) S) ρ)<|ad _ _ (by rw[N,J];omega)) ρ) (ag ev ρ)<|ad _ _ (by rw[eu,N,J,YN];omega))<|cN ⟨_,_,_,ρ,ρ,_,q4,ρ,ρ,uM (B (B Y U) λy i=>?_) ?_⟩
  ·rw[acy i];exact sm x v
  rw[eu,eu,N,J,YN];omega
 obtain⟨y,l,rfl⟩:∃y l,rs=y::l:=by
  cases rs with
  | nil=>exact absurd ρ ne
  | cons y l=>exact⟨y,l,ρ⟩
 have i:y∈y::l:=fk;refine ah<|dm (bK<|aw ρ ρ<|eq_int _ _) (λ_=>?_)<|λn4=>aU<|aq ?_
 ·refine' ah (aG (Z2:=[.io (pD o),.D<|ai (y::l),.D<|.int a,.D<|af x,.D<|.int k,.D<|.int d,.D<|.int D,.D<|af y,.no,.no]) (v_res<|aI ρ ρ ρ (show cC (.L<|(y::l).map af) (.int ((0:Nat):Int))=ac (af y) from by rw[k8];exact kJ ρ)) ρ<|aq ?_);obtain⟨m,hm,em⟩:∃m:Nat,m<=2/\nG [.bl (am<|(0:Int)<a)]=ac (.D<|.int (m:Int)):=by
   by_cases z:(0:Int)<a
   ·rw[decide_eq_true z];exact⟨1,by decide,rfl⟩
   rw[decide_eq_false z];exact⟨0,by decide,rfl⟩
  refine' ah<|aG (Z2:=[.io (pD o),.D<|ai (y::l),.D<|.int a,.D<|af x,.D<|.int k,.D<|.int d,.D<|.int D,.D<|af y,.O<|.L (r4 m [af (y.1,x.2)]).flatten,.no]) (Fq (xs:=[af (y.1,x.2)]) (n:=m) (ag (cR (ae (ag (aw (eV (ae (aI ρ ρ ρ ρ) ao) q) (ag (iV ρ ρ<|xD x) ρ)<|wa y.1 x.2) ρ) ao) q) ρ) (ag (az (ae (ag (aw ρ ρ ρ) ρ) ao) em) ρ) (by show 1<=1000;decide) hm) ρ<|aq ?_;rw[rep1 af];have sM:eX (ai (y::l)) (ac 1) (ac (a:Int))=ac (.O<|.L<|(((y::l).drop 1).take (a-1)).map af):=by show ac (Res.O<|.L<|cutD ((y::l).map af) _ _)=_;rw[K8 (by rw[ab];exact ha),Zf,YI]
  have lM:(((y::l).drop 1).take (a-1)).length<=8:=nE (List.length_take_le _ _) (by omega);refine ah<|bH (aw (ag (aw (ag (aw (ag (cR (ae (ag (aw (eV (ae (aI ρ ρ ρ ρ) ao) q) (ag (iV ρ ρ<|xD y) ρ)<|wa x.1 y.2) ρ) ao) q) ρ) (ag (NM ρ ρ ρ sM) ρ)<|ad [(x.1,y.2)] _ (by show 1+_<=_;omega)) ρ) ρ<|ad _ _ ?l1) ρ) (ag (iV ρ (ag (aw ρ ρ ρ) ρ) S) ρ)<|ad _ _ ?l2)<|cN ⟨_,_,_,ρ,ρ,_,o,ρ,ρ,uM (B (B (B (be ⟨(sm x v).1,(sm y i).2⟩) λz hz=>sm z<|YX<|YW hz) λz hz=>?o1) U) ?W⟩
  ·rw[eu,YN];show 1+_+_<=_;omega
  ·rw[eu,eu,YN,J];show 1+_+_+_<=_;omega
  ·rw[acy hz];exact⟨(sm y i).1,(sm x v).2⟩
  rw[eu,eu,eu,YN,J];show 1+_+_+_<=_;omega
 generalize hrs:y::l=rs at *;refine ah<|dm (bK<|aw ρ ρ<|eq_int _ _) (λ_=>?_)<|λn5=>aU<|aq ?_
 ·refine ah (bH (cc (enc:=af) (xs:=rs) (λz=>[.no,.D<|af z]) (λz=>af (z.1,⟨z.2.l+1,z.2.b,z.2.r+1,z.2.t⟩)) (bB ρ) ρ G ?g1 (λz _=>eV (ae (aI ρ ρ ρ ρ)<|ae (ag (aw (aI ρ ρ ρ ρ) ρ ρ) ρ)<|ae (aI ρ ρ ρ ρ)<|ae (ag (aw (aI ρ ρ ρ ρ) ρ ρ) ρ)<|ae (aI ρ ρ ρ ρ) ao) s5)<|λ_ _=>rfl)<|cN ⟨_,_,_,ρ,ρ,_,o,by rw[L λz=>⟨z.2.l+1,z.2.b,z.2.r+1,z.2.t⟩],rfl,all _ λz hz=>(C z hz).2.on⟩);rintro y _ Z (rfl|⟨z,rfl⟩)<;>rfl
 refine ah<|dm (bK<|aw ρ ρ<|eq_int _ _) (λ_=>?_)<|λn6=>aU<|aq ?_
 ·have hM:=nB (ns:=rs.map λz=>z.2.t) (λz=>ne<|zd.1 z);obtain⟨z0,Vn,e0⟩:=a8.1 hM;have b0:=(C z0 Vn).2;have bm:=jZ (λz:eS×Ob=>z.2.t) ne;generalize fA (rs.map λz=>z.2.t)=M at *;refine' ah<|aG (Z2:=[.io (pD o),.D<|ai rs,.D<|.int a,.D<|af x,.D<|.int k,.D<|.int d,.D<|.int D,.no,.no,.D<|.int M]) (az (ae (ag (cc (enc:=af) (xs:=rs) (λz=>[.no,.D<|af z]) (λz=>.int z.2.t) (bB ρ) ρ G ?g2 (λz _=>aI ρ ρ ρ ρ)<|λ_ _=>rfl) ρ) ao) bm) ρ<|aq ?_
  case g2=>rintro y _ Z (rfl|⟨z,rfl⟩)<;>rfl
  refine ah<|bH (cc (enc:=af) (xs:=rs) (λz=>[.no,.D<|af z,.D<|.int M]) (λz=>af (z.1,⟨z.2.l,M-z.2.t,z.2.r,M-z.2.b⟩)) (bB ρ) ρ G ?g3 (λz _=>eV (ae (aI ρ ρ ρ ρ)<|ae (aI ρ ρ ρ ρ)<|ae (ag (aw ρ (aI ρ ρ ρ ρ) ρ) ρ)<|ae (aI ρ ρ ρ ρ)<|ae (ag (aw ρ (aI ρ ρ ρ ρ) ρ) ρ) ao) s5)<|λ_ _=>rfl)<|cN ⟨_,_,_,ρ,ρ,_,o,by rw[L λz=>⟨z.2.l,M-z.2.t,z.2.r,M-z.2.b⟩],rfl,all _ λz hz=>e0 ▸ (C z hz).2.over b0⟩;rintro y _ Z (rfl|⟨z,rfl⟩)<;>rfl
 refine ah<|dm (bK<|aw ρ ρ<|eq_int _ _) (λ_=>?_)<|λn7=>aU<|aq ?_
 ·refine ah (bH (cc (enc:=af) (xs:=rs) (λz=>[.no,.D<|af z]) (λz=>af (z.1,⟨z.2.b,z.2.l,z.2.t,z.2.r⟩)) (bB ρ) ρ G ?g4 (λz _=>eV (ae (aI ρ ρ ρ ρ)<|ae (aI ρ ρ ρ ρ)<|ae (aI ρ ρ ρ ρ)<|ae (aI ρ ρ ρ ρ)<|ae (aI ρ ρ ρ ρ) ao) s5)<|λ_ _=>rfl)<|cN ⟨_,_,_,ρ,ρ,_,o,by rw[L λz=>⟨z.2.b,z.2.l,z.2.t,z.2.r⟩],rfl,all _ λz hz=>(C z hz).2.turn⟩);rintro y _ Z (rfl|⟨z,rfl⟩)<;>rfl
 refine ah<|bH (cc (enc:=af) (xs:=rs) (λz=>[.no,.D<|af z]) (λz=>af (z.1,⟨2*z.2.l,2*z.2.b,2*z.2.r,2*z.2.t⟩)) (bB ρ) ρ G ?g5 (λz hz=>ag (aw (eV (ae (aI ρ ρ ρ ρ) ao) q) (ag (az (ae (ag (cc (enc:=Dat.int) (xs:=[z.2.l,z.2.b,z.2.r,z.2.t]) (λn=>[.no,.D<|.int n]) (λn=>.int<|2*n) (vp<|ag (iV ρ ρ<|xD z) ρ) ρ (by show 4<=cA;unfold cA;decide) ?g6 (λn _=>ag (dM<|aw ρ ρ<|sG<|qQ (by decide)) ρ)<|λ_ _=>rfl) ρ) ao) ρ) ρ)<|wa z.1 ⟨2*z.2.l,2*z.2.b,2*z.2.r,2*z.2.t⟩) ρ)<|λ_ _=>rfl)<|cN ⟨_,_,_,ρ,ρ,_,o,by rw[L λz=>⟨2*z.2.l,2*z.2.b,2*z.2.r,2*z.2.t⟩],rfl,all _ λz hz=>(C z hz).2.two⟩
 ·rintro y _ Z (rfl|⟨z,rfl⟩)<;>rfl
 rintro y _ Z (rfl|⟨z,rfl⟩)<;>rfl
def AR(fn:aN):Prop:=∀ns:List Int,ns.length<=63->(∀n∈ns,jN n)->fn [.cv ns]=ac (.D<|.bl true)
def B6 (h:l≠[]):fA l.reverse=fA l:=zw (λx a=>uE<|SH.1 a)<|SH.2<|nB h
def aP.m9 (F:aP rs):bu rs.reverse=bu rs/\bw rs.reverse=bw rs:=by delta bu bw;rw[Y1,Y1];exact⟨B6 λz=>F.ne<|zd.1 z,B6 λz=>F.ne<|zd.1 z⟩
def aP.rev (F:aP rs):aP rs.reverse where
 ne:=λz=>F.ne<|List.reverse_eq_nil_iff.1 z
 bI:=by rw[zR];exact F.bI
 nm:=λx a=>F.nm x<|SH.1 a
 row:=λx a=>F.row x<|SH.1 a
 nd:=by rw[Y1];exact (abu _).nodup_iff.2 F.nd
 ap:=acR.2 (F.ap.imp λh=>by grind [Apart])
 ar:=by rw[F.m9.1,F.m9.2,<-F.ar];simp[fR]
def Io (F:aP rs)(t:qf (l6 rs) c):gw c rs.reverse=bd:=by
 have d:(l6 rs).map (·.1)=rs.map (·.1):=by unfold l6;rw[fm];rfl
 have pn:=t.1;rw[d] at pn;unfold gw;rw[(vC _).2 F.rev,decide_eq_true<|kY.2<|pn.trans (by rw[Y1];exact (abu _).symm),ZI,ZI,iN];intro p f;obtain⟨q,g,e,h⟩:=t.2 p f;obtain⟨x,b,rfl⟩:=a8.1 g;have a:=SH.2 b;rw[<-e,xq F.rev.nd a,decide_eq_true_eq,kY];obtain⟨A,B,e1,e2⟩:=h;have i:p.2.Perm (dU rs x.2 4):=by simp_all [YM]
 refine i.trans ((lq (F.pS b) (by rw[rF F.rev a];exact F.rev.pS a)).2 λn=>?_);rw[<-rF F b,F.lZ b,F.rev.lZ a];have j:∀k,fG rs.reverse x.2 k ↔ fG rs x.2 k:=λk=>by unfold fG;rw[F.m9.1,F.m9.2]
 simp only[j,SH]
def Nj(T:Txt mg)(q1:aY P w K mg base "_law_purse" 2 (aD K o))(s1:FK o)(l:aY P w K mg base "_law_floor" 3 (eJ K 0 B))(s2:FX B)(q3:aY P w K mg base "_law_web" 4 (aD K p))(s3:DC p)(q4:aY P w K mg base "_law_turned_web" 2 (eJ K 0 C))(s4:D8 C)(q6:aY P w K mg base "is_floor" 5 (aD K r))(M:yX r)(sT:x6 u)(sU:xm v)(s8:yB u v t)(q7:aY P w K mg base "_law_right" 6 (aD K i))(s7:De t i)(q9:aY P w K mg base "_law_bent" 2 (eJ K 0 D))(s9:FT D)(F:bc K "law" "law" yE f N):∃fn,a9 P w K mg base aZ 7 f N ["_law_script"] (aD K fn)/\AR fn:=by
 refine' bT F EE ρ ?I ?J
 case I=>have lk:kN "_law_purse_here":=⟨trivial⟩;walk_at "h"
 intro ns O I;obtain⟨Q,e1⟩:=s1 ns O I;obtain⟨_,_,e2,rs,R,rfl,rfl,e⟩:=s2 Q 8 ⋯ ⋯;have S:∀x∈rs,ve rs x.2:=λx _=>e.fl.some x.2;have f8:=e.fl.bI;have U:=s3 rs (by lia) (λy hy=>e.fl.ok hy) λx c k V=>(Fp V<|S x c).1;have ew:(rs.map λx=>(x.1,bU rs x.2 0++(bU rs x.2 1).reverse++(bU rs x.2 2).reverse++bU rs x.2 3))=l6 rs:=zI λx c=>by rw[R1 (S x c)]
 rw[ew] at U;obtain⟨h0,W⟩:=e.web;have j:=h0.bI;obtain⟨_,_,e4,g,L,rfl,rfl,X⟩:=s4 R (l6 rs) j.1 j.2 λz hz=>by have a:=(h0.rg z hz).1;have b:=h0.len hz;omega
 obtain⟨h,hw⟩:=X.ok h0 W;have Y:iA rs.reverse:=⟨λx c=>e.ok.tx x<|SH.1 c,λx c=>e.ok.nu x<|SH.1 c,by rw[zR];exact e.ok.bI⟩;have e6:=M g rs.reverse h hw Y;rw[Io e.fl X] at e6;have G:=M g [] h hw ⟨λx c=>(nomatch c),λx c=>(nomatch c),by decide⟩;rw[show gw g []=bi from ρ] at G;have rt:∀us:Fl,iA us->i [.L (g.map pairD),ai us]=ac (.D<|.bl true):=λus ok=>s7 g us h hw ok λne=>HM sT sU s8 h hw ok ne;have e7:=rt rs e.ok;refine' ck ρ ?w;show WS _ [.D (.cv ns),.no,.no,.no,.no] _;refine' ah<|aG (Z2:=[.D (.cv ns),.O<|pD Q,.no,.no,.no]) (az (ae ρ ao) e1) ρ<|aq ?_;refine' ah<|aG (Z2:=[.D (.cv ns),.O<|pD R,.O<|ai rs,.no,.no]) (dz ρ (ae ρ ao) ρ e2 ρ) ρ<|aq ?_;refine' ah<|aG (Z2:=[.D (.cv ns),.O<|pD L,.D<|ai rs,.O<|.L<|g.map pairD,.no]) (dz ρ (ae (ag (az (ae ρ ao) U) ρ) ao) ρ e4 ρ) ρ<|aq ?_;have er:ac (Res.O<|.L (rs.map af).reverse)=ac (.O<|ai rs.reverse):=by simp[ai]
 refine' eO (Z1:=[.D (.cv ns),.O<|pD L,.D<|ai rs,.D<|.L<|g.map pairD,.no]) (v_or (bK<|aw (ag (az (ae ρ<|ae (ag (zM ρ ρ)<|congrArg Res.val<|Option.some.inj er) ao) e6) ρ) ρ ρ)<|zV ρ<|j3<|fQ (ag (az (ae ρ<|ae ρ ao) e7) ρ) ρ) ρ ?_;refine' ah<|dB (λk Z=>∃(q:Int×Int) (m:Slot),Fr m/\Z=[.D (.cv ns),.O<|pD q,.D<|ai rs,.D<|.L<|g.map pairD,m]) (by rfl) ⟨L,.no,ι ρ,ρ⟩ ?st ?fin
 case fin=>rintro _ ⟨q,m,_,rfl⟩;exact aq<|ah<|bH (aw (ag (az (by rfl) G) ρ) ρ ρ)<|cN ⟨_,ρ⟩
 rintro k x c _ ⟨q,m,f5,rfl⟩;obtain⟨V,rfl⟩:=tM (n:=12) c;refine⟨[.D (.cv ns),.O<|pD q,.D<|ai rs,.D<|.L<|g.map pairD,.D<|.int k],by rcases f5 with rfl|⟨d,rfl⟩<;>rfl,?_⟩;obtain⟨_,_,e9,us,l,rfl,rfl,hU⟩:=s9 q rs e;have e8:=rt us hU;refine' eO (Z1:=[.D (.cv ns),.O<|pD l,.D<|ai rs,.D<|.L<|g.map pairD,.D<|.int k]) (j3<|fQ (ag (az (ae ρ<|ae (ag (dz ρ (ae ρ ao) ρ e9 ρ) ρ) ao) e8) ρ) ρ) ρ ?_;exact aU ⟨l,.D<|.int k,τ ⟨_,ρ⟩,ρ⟩
theorem RW(T:Txt mg)(F:bc K "is_whole" "is_whole" zW f c):a9 P w K mg base aZ 1 f c ["thing"] (aD K tH):=by
 refine' FY F G4 ?B ?C ?D
 case B =>
  intro ds r h;unfold tH at h;split at h
  ·rfl
  cases h
 case C=>walk_at "h"
 intro ds r h;unfold tH at h;split at h
 ·rename_i d;cases e:kh d "int" with
  | none=>simp_all
  | some a =>
   cases g:kh d "bool" with
   | none=>simp_all
   | some b=>rw[e,g] at h;cases h;cases a<;>simp[iu,gV,iH,lh,rC,lx,jK,cI,mf,yI,e,g]
 cases h
end
section
open W
section
variable{P:hY}{w:nR}{K:f'}{mg:eS->Option cn}{base:nL}
structure DI (K:f') (x:eS) (s:Zq) (f:dk):Prop where
 a:Yc K kq x=ac (ac<|.ref f)
 l:∃fd,bc K x x s f fd
 k:abP K (.ref f)=bd
theorem DI.ok{x:eS}{s:Zq}{f:dk}{e:hO}{c:List eS}{k:Nat}{sp:Sp}{h:nL}(d:DI K x s f)(X:K.In h)(G:h.Ns kq mg)(F:bc K x x s f e)(o:a9 P w K mg base aZ k f e c sp)(b:∀(kV g pm:cn) (j:Option dk) (i ct:cn) (us:List cn),us.length=c.length->ad4 (ab4 x x (oQ s) (jc s) (aV s) .none kV g pm j i ct) ⟨us,[]⟩=pure (c.zip us)):aY P w K mg base x k sp:=⟨f,e,c,o,aba X G d.a,d.k,F.binds b⟩
def DI.go{h:nL}{x:eS}{s:Zq}{f:dk}{a:List eS}{k:Nat}{e:Type}{Sp:e->Sp}{S:e->Prop}(X:K.In h)(G:h.Ns kq mg)(d:DI K x s f)(o:∀{c:hO},bc K x x s f c->∃fn,a9 P w K mg base aZ k f c a (Sp fn)/\S fn)(b:∀(kV g pm:cn) (j:Option dk) (i ct:cn) (us:List cn),us.length=a.length->ad4 (ab4 x x (oQ s) (jc s) (aV s) .none kV g pm j i ct) ⟨us,[]⟩=pure (a.zip us)):∃fn,aY P w K mg base x k (Sp fn)/\S fn:=by obtain⟨c,F⟩:=d.l;obtain⟨fn,q,r⟩:=o F;exact⟨fn,d.ok X G F q b,r⟩
def F5:∀{us:List b},us.length=1->∃a,us=[a]:=List.length_eq_one_iff.1
theorem Cw (h:us.length=2):∃a b,us=[a,b]:=by
 cases us with
 | nil=>cases h
 | cons a r=>obtain⟨b,rfl⟩:=F5<|Nat.succ.inj h;exact⟨a,b,ρ⟩
theorem GJ (h:us.length=3):∃a b c,us=[a,b,c]:=by
 cases us with
 | nil=>cases h
 | cons a r=>obtain⟨b,c,rfl⟩:=Cw<|Nat.succ.inj h;exact⟨a,b,c,ρ⟩
theorem QN (h:us.length=4):∃a b c d,us=[a,b,c,d]:=by
 cases us with
 | nil=>cases h
 | cons a r=>obtain⟨b,c,d,rfl⟩:=GJ<|Nat.succ.inj h;exact⟨a,b,c,d,ρ⟩
noncomputable def tO(K:f'):Sp:=λvs H Q _=>∃(a:dk) (ns:List Int),vs=[.ref a]/\cu K H a (ns.map V.int)/\ns.length<=63/\(∀n∈ns,jN n)/\∀b,Q (.bl true) b
def Kk (s:AR fn)(vs:List V)(H:Hp)(Q:VK)(E:XK)(h:tO K vs H Q E):aD K fn vs H Q E:=by obtain⟨a,ns,rfl,b,hl,c,k⟩:=h;refine⟨H,[.cv ns],_,aj.refl H,⟨.ref a,[],ρ,⟨a,ρ,b⟩,ρ⟩,s ns hl c,?_⟩;rintro v d Hi2 _ _ _ _ e;cases (e);exact k d
end
local macro_rules | `(tactic| walk_at "bn")=>`(tactic| (intro _ _ _ _ _ _ us hl;first | (obtain⟨_,e⟩:=F5 hl;subst e;rfl) | (obtain⟨_,_,e⟩:=Cw hl;subst e;rfl) | (obtain⟨_,_,_,e⟩:=GJ hl;subst e;rfl) | (obtain⟨_,_,_,_,e⟩:=QN hl;subst e;rfl)))
def all_mk{l:adS}{w:nR}{K:f'}{h:nL}{mg:eS->Option cn}{fa Vd Ve Vf Vg Vh Vi Vj Vk Vl Vm Vn Vo Vp Vq Vr Vs Vt Vu Vv Vw Vx Vy Vz VA VB VC VD VE VF VG VH VI VJ VL VM VN VO VP VQ VR VS VT VU VV VW VX VY VZ:dk}{j:dk}{t1 t2 t3 t4 t5 t6 t7 t8:Tok}{nW:Nat}{Ya:Array (Option cn)}(X:K.In h)(G:h.Ns kq mg)(Yb:mg "law"=ac (.ref fa))
 (V0:DI K "follower" xo Vd)
 (V1:DI K "is_name" xn Ve)
 (V2:DI K "is_pair" wR Vf)
 (V3:DI K "is_ring" wH Vg)
 (V4:DI K "has_form" yM Vh)
 (V5:DI K "ties_are_shared" yD Vi)
 (V6:DI K "corners_of" wK Vj)
 (V7:DI K "corner_closes" y6 Vk)
 (V8:DI K "corners_close" zF Vl)
 (V9:DI K "row_along" zk Vm)
 (V':DI K "wall_has_row" yz Vn)
 (Wa:DI K "has_one_of" yF Vo)
 (Wb:DI K "all_reached" wG Vp)
 (Wc:DI K "ties_of" Ak Vq)
 (Wd:DI K "threes_of" yJ Vr)
 (We:DI K "must_web" yo Vs)
 (Wf:DI K "is_whole" zW Vt)
 (Wg:DI K "is_row" zr Vu)
 (Wh:DI K "area" Ae Vv)
 (Wi:DI K "width_shared" xE Vw)
 (Wj:DI K "height_shared" zA Vx)
 (Wk:DI K "lies_over" vE Vy)
 (Wl:DI K "is_any_floor" xf Vz)
 (Wm:DI K "wall_rows" wz VA)
 (Wn:DI K "side_touched" yw VB)
 (Wo:DI K "place_clockwise" wq VC)
 (Wp:DI K "touching" vV VD)
 (Wq:DI K "all_touching" zY VE)
 (Wr:DI K "names_of" y9 VF)
 (Ws:DI K "is_floor" v7 VG)
 (Wt:DI K "_law_mixed" yY VH)
 (Wu:DI K "_law_purse" yW VI)
 (Wv:DI K "_law_draw" yV VJ)
 (Ww:DI K "_law_names" y0 VL)
 (Wx:DI K "_law_cut" yL VM)
 (Wy:DI K "_law_floor" xa VN)
 (Wz:DI K "_law_meets" yC VO)
 (WC:DI K "_law_side" ze VP)
 (WG:DI K "_law_neighbours" zu VQ)
 (WH:DI K "_law_web" zf VR)
 (WI:DI K "_law_turned_web" wF VS)
 (WJ:DI K "_law_ties" xy VT)
 (WK:DI K "_law_touches" wU VU)
 (WL:DI K "_law_is_floor" vF VV)
 (WM:DI K "_law_moved" wd VW)
 (WN:DI K "_law_bent" zy VX)
 (WO:DI K "_law_right" Aj VY)
 (x:DI K "law" yE VZ)
 (R:Yc K kq "len"=ac al)
 (S:Yc K kq "int"=ac al)
 (c:Yc K kq "isinstance"=ac al)
 (t:Yc K kq "range"=ac al)
 (U:Yc K kq "min"=ac al)
 (V:Yc K kq "max"=ac al)
 (Y:Yc K kq "all"=ac al)
 (y:Yc K kq "dict"=ac al)
 (m:Yc K kq "sorted"=ac al)
 (u:Yc K kq "tuple"=ac al)
 (z:Yc K kq "list"=ac al)
 (Z:Yc K kq "str"=ac al)
 (A:Yc K kq "bool"=ac al)
 (be:Yc K kq "any"=ac al)
 (U6:Yc K kq "set"=ac al)
 (U7:Yc K kq "abs"=ac al)
 (U8:Yc K kq "sum"=ac al)
 (g:Yc K kq "enumerate"=ac al)
 (U9:Yc K kq "zip"=ac al)
 (aW:Yc K kq "WALLS"=ac (ac<|.ref j))
 (lW:K.lookup j=ac ⟨.type "tuple",al,.seq #[.str "north" t1,.str "east" t2,.str "south" t3,.str "west" t4] nW,Ya⟩)
 (aM:Yc K kq "MOST_ROOMS"=ac (ac<|.int 8 t5))
 (aL:Yc K kq "LONGEST_NAME"=ac (ac<|.int 8 t6))
 (aR:Yc K kq "FEWEST_NEIGHBOURS"=ac (ac<|.int 3 t7))
 (aX:Yc K kq "ROW_LENGTH"=ac (ac<|.int 5 t8)) :
  ∃fd:hO,(∀(s:cW) (v:cn),adE s fd ⟨[v],[]⟩ [("_law_script",v)])/\∀base:nL,K.In base->base.Ns kq mg->a9 l.prog w K mg base aZ 7 fa fd ["_law_script"] (tO K):=by
 have e:=Yb.symm.trans<|aba X G x.a;cases e;have T:Txt mg:=⟨qz X G R,qz X G S,qz X G c,qz X G t,qz X G U,qz X G V,qz X G Y,qz X G y,qz X G m,qz X G u,qz X G z,qz X G Z,qz X G A⟩;obtain⟨U',B⟩:=x.l;obtain⟨_,_,_,_,_,_,_,_,_,Yf,_,_⟩:=id B.ex;refine⟨U',λs v=>by rw[Yf];exact .of_eq ρ,λbase _ _=>?_⟩;have go:=@DI.go l.prog w K mg base h;obtain⟨_,d,f⟩:=go X G Wv (Tb T) (by walk_at "bn");have k:fg K mg "WALLS" (.U [.str "north",.str "east",.str "south",.str "west"]):=⟨.ref j,_,aba X G aW,ρ,λH=>⟨j,[.str "north",.str "east",.str "south",.str "west"],ρ,τ ⟨_,_,_,lW,ρ,ρ,(by show 4<=cA;unfold cA;decide),.cons ⟨_,ρ⟩<|.cons ⟨_,ρ⟩<|.cons ⟨_,ρ⟩<|.cons ⟨_,ρ⟩ .nil⟩,⟨_,_,ρ,ρ,_,_,ρ,ρ,_,_,ρ,ρ,_,_,ρ,ρ,ρ⟩⟩⟩;have gM:fg K mg "MOST_ROOMS" (.int 8):=⟨.int 8,_,aba X G aM,⟨_,ρ⟩,λH=>rfl⟩;have gL:fg K mg "LONGEST_NAME" (.int 8):=⟨.int 8,_,aba X G aL,⟨_,ρ⟩,λH=>rfl⟩;have gT:yn K mg "WALLS" DV:=⟨j,_,_,_,aba X G aW,lW,ρ,ρ,ρ,(by show 4<=cA;unfold cA;decide),.cons ⟨_,ρ⟩<|.cons ⟨_,ρ⟩<|.cons ⟨_,ρ⟩<|.cons ⟨_,ρ⟩ .nil⟩;have gF:fg K mg "FEWEST_NEIGHBOURS" (.int 3):=⟨.int 3,_,aba X G aR,⟨_,ρ⟩,λH=>rfl⟩;have gR:fg K mg "ROW_LENGTH" (.int 5):=⟨.int 5,_,aba X G aX,⟨_,ρ⟩,λH=>rfl⟩;have r:=qz X G be;have b:=qz X G U6;have Va:=qz X G U9;have Vb:=qz X G U7;have i:=qz X G g;have T2:wQ mg:=⟨r,qz X G U8,b,i⟩;obtain⟨_,C,D⟩:=go X G V1 (HG T k gL) (by walk_at "bn");obtain⟨_,E,I⟩:=go X G V0 (So T k gT) (by walk_at "bn");obtain⟨_,WQ,WR⟩:=go X G V2 (S6 T C D) (by walk_at "bn");obtain⟨_,WT,WU⟩:=go X G V3 (ON T gF b) (by walk_at "bn");obtain⟨_,WV,WW⟩:=go X G V4 (M3 T k gM b WQ WR WT WU) (by walk_at "bn");obtain⟨_,WX,WY⟩:=go X G V5 (MN T) (by walk_at "bn");obtain⟨_,n,o⟩:=go X G V6 (KQ T Va) (by walk_at "bn");obtain⟨_,WZ,W1⟩:=go X G V7 (Ky T k E I) (by walk_at "bn");obtain⟨_,W2,W3⟩:=go X G V8 (OK T n o WZ W1) (by walk_at "bn");obtain⟨_,W4,W5⟩:=go X G V9 (Uh T) (by walk_at "bn");obtain⟨_,W6,W7⟩:=go X G V' (Ji T n o E I W4 W5) (by walk_at "bn");obtain⟨_,W8,W9⟩:=go X G Wa (JN T r) (by walk_at "bn");obtain⟨_,W',Xa⟩:=go X G Wb (ND T k W8 W9) (by walk_at "bn");obtain⟨_,Xb,Xc⟩:=go X G Wc (OJ T k) (by walk_at "bn");obtain⟨_,Xd,Xe⟩:=go X G Wd (HS T n o) (by walk_at "bn");obtain⟨_,Xf,Xg⟩:=go X G We (Sb T k WV WW WX WY W2 W3 W6 W7 W' Xa Xd Xe Xb Xc) (by walk_at "bn");obtain⟨_,Xh,rfl⟩:=go X G Wf (λF=>⟨_,RW T F,ρ⟩) (by walk_at "bn");obtain⟨_,Xi,Xj⟩:=go X G Wh (MU T) (by walk_at "bn");obtain⟨_,Xk,Xl⟩:=go X G Wg (PQ T gR C D Xh) (by walk_at "bn");obtain⟨_,J,L⟩:=go X G Wi (O9 T) (by walk_at "bn");obtain⟨_,M,N⟩:=go X G Wj (Q0 T) (by walk_at "bn");obtain⟨_,Xm,Xn⟩:=go X G Wk (IX T T2 J L M N) (by walk_at "bn");obtain⟨_,Xo,Xp⟩:=go X G Wl (UJ T T2 gM Xk Xl Xm Xn Xi Xj) (by walk_at "bn");obtain⟨_,Xq,Xr⟩:=go X G Wm (TK T) (by walk_at "bn");obtain⟨_,Xs,Xt⟩:=go X G Wn (Lp T J L M N) (by walk_at "bn");obtain⟨_,Xu,Xv⟩:=go X G Wo (NK T) (by walk_at "bn");obtain⟨_,Xw,Xx⟩:=go X G Wp (LS T k Xu Xv Xs Xt) (by walk_at "bn");obtain⟨_,Xy,Xz⟩:=go X G Wq (Jn T Xq Xr Xw Xx) (by walk_at "bn");obtain⟨_,XA,XB⟩:=go X G Wr (QY T) (by walk_at "bn");obtain⟨_,O,Q⟩:=go X G Ws (Js T Xf Xg Xo Xp Xy Xz XA XB) (by walk_at "bn");obtain⟨_,XC,XD⟩:=go X G Wt (OL T) (by walk_at "bn");obtain⟨_,XF,XG⟩:=go X G Wu (Rh T Vb XC XD) (by walk_at "bn");obtain⟨_,XH,XI⟩:=go X G Ww (Ic T d f) (by walk_at "bn");obtain⟨_,XJ,XM⟩:=go X G Wx (L3 T d f) (by walk_at "bn");obtain⟨_,XN,XO⟩:=go X G Wy (Uy T d f XH XI XJ XM) (by walk_at "bn");obtain⟨_,p,q⟩:=go X G Wz (MV T) (by walk_at "bn");obtain⟨_,XQ,XR⟩:=go X G WC (MI T p q.ok) (by walk_at "bn");obtain⟨_,XS,XT⟩:=go X G WG (LR T XQ XR) (by walk_at "bn");obtain⟨_,XU,XW⟩:=go X G WH (Kg T XS XT) (by walk_at "bn");obtain⟨_,XX,XY⟩:=go X G WI (R5 T d f) (by walk_at "bn");obtain⟨_,XZ,X0⟩:=go X G WJ (Hs T b) (by walk_at "bn");obtain⟨_,X1,X2⟩:=go X G WK (UG T p q) (by walk_at "bn");obtain⟨_,X3,X4⟩:=go X G WL (JP T p q X1 XZ) (by walk_at "bn");obtain⟨_,X5,X6⟩:=go X G WM (Kj T) (by walk_at "bn");obtain⟨_,X7,X8⟩:=go X G WN (SJ T d f X5 X6) (by walk_at "bn");obtain⟨_,X9,X'⟩:=go X G WO (Ow T O Q X3) (by walk_at "bn");obtain⟨fnL,oL,sL⟩:=Nj (P:=l.prog) (w:=w) (base:=base) T XF XG XN XO XU XW XX XY O Q X2 X0 X4 X9 X' X7 X8 B;exact oL.imp<|Kk sL
def walk{l:adS}{q:hY}{c:List eS}{y:(eS->Option cn)->nL->Prop}{j:nR->nL->Prop}{d:DefRec}{K:Params->f'}(A:l.most=ac 63)(m:d.params.defaults=[])
 (B:∀(w:nR) (h:nL),j w h->(K w.params).In h)
 (F:∀(w:nR) (mg:eS->Option cn) (fa:dk) (h:nL),(K w.params).In h->h.Ns kq mg->mg d.name=ac (.ref fa) ->
   ∃e:hO,(∀(s:cW) (u:cn),adE s e ⟨[u],[]⟩ [("_law_script",u)])/\∀base:nL,(K w.params).In base->base.Ns kq mg->a9 l.prog w (K w.params) mg base aZ 7 fa e ["_law_script"] (tO<|K w.params)) :
  W.WalkO q c y j l.row.toRowW d [] (λf vs=>PySem.call f vs) :=
 by
 intro w s0 s1 mg mb G Y fa o pm cd doc dV kV ho hd hcd p t C args vals as D E hr I hx;cases Dflts.none p m;cases Dflts.noKw p;obtain⟨a,vs,ns,rfl,rfl,J,L,v⟩:=Jg A D I;have x:=B w _ Y;obtain⟨e,M,N⟩:=F w mg fa _ x G.T.g t;have O:∀n∈ns,jN n:=λn i=>PyData.bits_of_layable<|layableW_item (layW_cons E).1 (.int n) (a8.2 ⟨n,i,ρ⟩);refine enter_call (ZF (S8 x G.T.g G.T.b G.T.builtins G.T.nolimit C J L (nE v ⋯) ⟨ρ,⋯,⋯⟩ N M (λH _ P=>⟨a,ns,ρ,P,v,O,λ_=>rfl⟩) λ_ _ _ z=>z) λr s' Q=>?_);obtain⟨rfl,R,S,U⟩:=Q;exact⟨ι ⟨.bool true,.bool true,[],ρ,λ_=>rfl,.bool true,OG l _,λ_=>⟨aaR,λ_ i=>nomatch i⟩⟩,R,S,U⟩
end
end
end L2
open PySem PySem.W PyProof.Rows
local macro_rules | `(tactic| walk_at "df") => `(tactic| (refine' ⟨_, L2.T3 ?l ?c ?k⟩; (case l => k_is); (case c => k_is); (case k => k_is)))
local macro_rules | `(tactic| walk_at "di") => `(tactic| (refine' L2.DI.mk ?a ?b ?c; (case a => k_is); (case b => walk_at "df"); (case c => first | k_is | kit_is)))
namespace PySem.W.Fast
def tw4072731417726909254:=()
def tw987336900357578554:=()
def tw4622519555081895563:=()
def tw16288868642424345868:=()
def tw14988963705069495574:=()
def tw6642781946735098062:=()
def tw11526115468880416503:=()
def tw7883395262746583026:=()
def tw9746681119281802947:=()
def tw2708749278817984152:=()
def tw4839248776855644085:=()
def tw17033730523413813828:=()
def tw16871076997457651097:=()
def tw14416784753754207782:=()
def tw12771015277727276470:=()
def tw7289888964027267505:=()
def tw15130231608529471831:=()
def tw10509884626600551088:=()
def tw8726574875129048953:=()
def tw6687657855928150511:=()
def tw16603227575758029099:=()
def tw10329794320037166950:=()
def tw12235856337742555553:=()
def tw8182623802159493093:=()
def tw11416813790653323638:=()
def tw4723036150284603737:=()
def tw14251577874489113378:=()
def tw10444343958007524731:=()
def tw18071095333173879757:=()
def tw17769982288655597395:=()
def tw10062289211119676569:=()
def tw829132988147443783:=()
def tw16557390243091814254:=()
def tw478247028913809226:=()
def tw9764959884481491387:=()
def tw15129033881911480197:=()
def tw7103105734252057366:=()
def tw9325574956992163677:=()
def tw9745715587842747201:=()
def tw13839782552550793578:=()
def tw7215667835456046014:=()
def tw2403747987956444058:=()
def tw1248399717589224403:=()
def tw15675049562972461052:=()
def tw6701223625652162514:=()
def tw14708471126229469182:=()
def tw16312511612728483771:=()
def tw14715178220686782650:=()
def tw6756137333009502104:=()
def tw5491104867248048850:=()
def tw1163399673897450605:=()
def tw3127526227762834625:=()
def tw11416291068762204733:=()
def tw12764624713742711947:=()
def tw12513299124982411785:=()
def tw16681572294226032355:=()
def tw1205647169443552808:=()
def tw15045199710859524807:=()
def tw15336131545111811836:=()
def tw4099449977248207365:=()
def tw8889821685964678410:=()
def tw6541293689354579670:=()
def tw16705758611208379072:=()
def tw8117444607531654543:=()
def tw10123300157396510217:=()
def tw11255925067987558989:=()
def tw8321122125303635625:=()
def tw3374680528754783328:=()
def tw10843206606132428333:=()
def tw18078302533727017666:=()
def tw16733843949965101255:=()
def tw1998782879588050056:=()
def tw15328904505091279163:=()
def tw13015595484952988449:=()
def tw12346220480606695605:=()
def tw10679501758406315139:=()
def tw10019072169018097988:=()
def tw14947190982691728897:=()
def tw13764072383310618235:=()
def tw17878097688117400780:=()
def tw2394411860077259427:=()
def tw2354836844486068882:=()
def tw11890251639503758451:=()
def tw12709593271133678216:=()
def tw674324394632925875:=()
def tw12206648317379401248:=()
def tw1131353084707261656:=()
def tw10442945514513150815:=()
def tw5840661611327233146:=()
def tw16014925473816153587:=()
def tw5891047960077565122:=()
def tw15185594703637913489:=()
def tw1681621102503526522:=()
def tw3202421673471170057:=()
def tw14408204013805342062:=()
def tw6021677394180897234:=()
def tw12485291771656845348:=()
def tw17150417728818708347:=()
def tw3710093546733967208:=()
def tw16300522915169725615:=()
def tw16282674153321683595:=()
def tw9532508562943822400:=()
def tw17524535379965454043:=()
def tw11177490832284549410:=()
def tw14719443028760356359:=()
def tw3286868106725721522:=()
def tw3793823819440030850:=()
def tw15414224487398110545:=()
def tw15648778168708716243:=()
def tw3307212696879669484:=()
def tw6154807786518856397:=()
def tw15554624849616063350:=()
def tw9862553699504942193:=()
def tw2749698294884210692:=()
def tw6758956914541172318:=()
def tw13226116175876876288:=()
def tw13344750219531760645:=()
def tw15086783394329116147:=()
def tw10650540384095569266:=()
def tw3422046580657417392:=()
def tw2686906729947852003:=()
def tw12352851826023957229:=()
def tw15004213740883325525:=()
def tw10002714565530037803:=()
def tw10324040012643165085:=()
def tw5219523961628736215:=()
def tw3835461959656642314:=()
def tw3667932863774035476:=()
def tw9069522628009866403:=()
def tw6658097517701013181:=()
def tw13754308122102579079:=()
def tw7852790782903488115:=()
def tw17639117320287310890:=()
def tw1535257857889804282:=()
def tw16516328179345745607:=()
def tw2948943668779617446:=()
def tw15558901024122982777:=()
def tw17366731892639883044:=()
def tw15384081634539580681:=()
def tw4667887778776570107:=()
def tw7845736471880005313:=()
def tw19180792186550525:=()
def tw7418435445244398813:=()
def tw5682258852274927216:=()
def tw7750544322089936179:=()
def tw3283929307455213914:=()
def tw13095336507569666385:=()
def tw9918474979303185207:=()
def tw1334273395929302774:=()
def tw14000015024715784066:=()
def tw15425428610913097548:=()
def tw12225584181375282647:=()
def tw1475714889469968890:=()
def tw12433527930824954189:=()
def tw2443313576522613966:=()
def tw5033230762676907422:=()
def tw7645318114738189742:=()
def tw10874374989029999263:=()
def tw8386637293826267356:=()
def tw11144168769944876666:=()
def tw5388626916119105247:=()
def tw4044196419650144656:=()
def tw4688980682977590906:=()
def tw12966248095990769912:=()
def tw17989152366027807463:=()
def tw9592167324658274956:=()
def tw7357944636086220613:=()
def tw17412323108990939458:=()
def tw2495244082871750851:=()
def tw14665472336541920967:=()
def tw4511527108397980688:=()
def tw6433326543975199767:=()
def tw7951748834384543529:=()
def tw15916253328646737370:=()
def tw16760182546870977581:=()
def tw4656651913723448234:=()
def tw3856918053237087178:=()
def tw13736209504922165870:=()
def tw7092875457820773162:=()
def tw13560514589616144250:=()
def tw14107619505714798905:=()
def tw10592012521064514609:=()
def tw4622260814844382521:=()
def tw10155942716236857206:=()
def tw2945295541841822791:=()
def tw6328334443497473034:=()
def tw7155101606491986316:=()
def tw18294649807140072429:=()
def tw5908994324642724649:=()
def tw12130072392397653856:=()
def tw7937628845163398144:=()
def tw6451694726239962927:=()
def tw14018861222457092850:=()
def tw17059569736269284142:=()
def tw5944353263180975540:=()
def tw17076226760224576579:=()
def tw15900334413892199895:=()
def tw2111007618227498758:=()
def tw17094799837079833987:=()
def tw4336835919567685077:=()
def tw2391155582142835645:=()
def tw7899215864975290694:=()
def tw16694308227796464700:=()
def tw11648480073398128307:=()
def tw970294368736420580:=()
def tw14831018543406079933:=()
def tw8809474865033699238:=()
def tw1697733874059682176:=()
def tw7118286233409046176:=()
def tw9949465114132714411:=()
def tw5435319350322481708:=()
def tw4247810080944458438:=()
def tw14341010789079635454:=()
def tw10834054825706775058:=()
def tw16487364936184094008:=()
def tw3384459468555013652:=()
def tw14860596377779551621:=()
def tw5322749862290780389:=()
def tw17734733374534345441:=()
def tw2697577673702990472:=()
def tw6114041599785595627:=()
def tw1056529134050300010:=()
def tw5702454905577832866:=()
def tw6094570399776523001:=()
def tw13299200732408261062:=()
def tw14174968725362829987:=()
def tw14777396504304343958:=()
def tw8920854542159225566:=()
def tw12524930214425631803:=()
def tw5947210046356344850:=()
def tw10845259224438284457:=()
def tw1124008360548329832:=()
def tw13168758030998353798:=()
def tw16776576334655655653:=()
def tw9624578298872271926:=()
def tw17979026154119935963:=()
def tw3809564222433457319:=()
def tw8922689409835664096:=()
def tw17609372117445386762:=()
def tw7810249234626119559:=()
def tw6322468282495750394:=()
def tw1290608089698153982:=()
def tw12939090769826211758:=()
def tw9810097145815144280:=()
def tw17862255524454464660:=()
def tw2253152794520573366:=()
def tw9250990368396259949:=()
def tw15009354358741096212:=()
def tw10925714520486486973:=()
def tw15543539012412147944:=()
def tw11102550086535655969:=()
def tw13661740602766786186:=()
def tw12929854229470572835:=()
def tw15741791741209540427:=()
def tw13746159126539840574:=()
def tw13011958474546433900:=()
def tw6578676435492197293:=()
def tw6273087022652299877:=()
def tw15080316599145501988:=()
def tw11287526954574100320:=()
def tw9933287754067082521:=()
def tw7602269973816638617:=()
def tw10206362023480436944:=()
def tw17222846895611902946:=()
def tw17538714153803493944:=()
def tw14383176986248691428:=()
def tw18061429600451129593:=()
def tw5890816198700582060:=()
def tw103855899140072200:=()
def tw16236530154338967502:=()
def tw9458178038245272419:=()
def tw12133425135730254772:=()
def tw17797186639460852964:=()
def tw1414821944994981345:=()
def tw13819204559287382466:=()
def tw11211663118232884742:=()
def tw13249563029855393448:=()
def tw11308005810569366554:=()
def tw11624942850443310253:=()
def tw10292712747598176984:=()
def tw9413129446659056645:=()
def tw12673909314979265986:=()
def tw1372775257331865979:=()
def tw11317449865992671472:=()
def tw4944576324691627595:=()
def tw13073520264964567513:=()
def tw4205390746603881043:=()
def tw14948999527829407045:=()
def tw5465904835030241482:=()
def tw8230223838631121522:=()
def tw13458402698230208091:=()
def tw13201059138597236073:=()
end PySem.W.Fast
set_option maxRecDepth 100000 in
set_option maxHeartbeats 0 in
theorem PySem.Challenge.cw_roomtouch_k21_floors_looked_at_holds : PySem.Challenge.rw_roomtouch_k21_floors_looked_at.Holds := by
  w_on; o_law; k_head; (case hw => w_witness2)
  k_fill
  refine L2.walk (l := PySem.Challenge.rw_roomtouch_k21_floors_looked_at) rfl rfl (fun w h Y => W.kIn_of Y) ?F
  case F =>
    intro w mg fa h b G a
    refine' L2.all_mk b G a ?_ ?_ ?_ ?_ ?_ ?_ ?_ ?_ ?_ ?_ ?_ ?_ ?_ ?_ ?_ ?_ ?_ ?_ ?_ ?_ ?_ ?_ ?_ ?_ ?_ ?_ ?_ ?_ ?_ ?_ ?_ ?_ ?_ ?_ ?_ ?_ ?_ ?_ ?_ ?_ ?_ ?_ ?_ ?_ ?_ ?_ ?_ ?_ ?_ ?_ ?_ ?_ ?_ ?_ ?_ ?_ ?_ ?_ ?_ ?_ ?_ ?_ ?_ ?_ ?_ ?_ ?_ ?_ ?_ ?_ ?_ ?_ ?_
    all_goals try first | k_is | kit_is | k_exc | kts_exm | walk_at "df" | walk_at "di"
