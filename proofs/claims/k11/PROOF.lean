import PyProof.Rows.All
import Wide.All
import OpenK.AllK
import Wide.FinOn
import Lean
import PyProof.EqAt
import PyProof.EqKinds
import PyProof.TupleCall
import KE.KRevSl
import PyProof.DictWalks
import PyProof.EnumStmt
import PyProof.Rows.EnumRows
import PyProof.Rows.SetFrom
import PyProof.Rows.ZipGen
import PyProof.TupleOfSeq
import PyProof.ZipIter
import PySem.Challenge.RW_roomtouch_k11_tintings_looked_at
set_option Elab.async false
set_option linter.all false
set_option compiler.extract_closed false
set_option maxRecDepth 100000
set_option maxHeartbeats 4000000
open List renaming length_map->ab,mem_map->bg,getElem?_eq_getElem->cm,getElem?_eq_some_iff->cn,getElem?_map->cR,length_append->eH,mem_append->eK,mem_of_getElem?->eS,map_append->eW,mem_cons_self->fm,size_toArray->ft,length_cons->fv,mem_cons->f',map_map->gd,mem_cons_of_mem->gf,pairwise_map->gs,mem_filter->hF,all_eq_true->hG,range->hI,not_mem_nil->hO,replicate->ia,mergeSort_perm->ib,map_cons->ka,mem_singleton->kq,length_range->kH,getElem?_append_right->lz,getElem?_append_left->l4,length_take->mv,mem_range->mA,nodup_append->nk,countP_cons->nL,getElem_of_mem->nR,getD_eq_getElem?_getD->n4,countP_eq_length_filter->n6,countP_append->n7,getElem?_set_ne->oy,getElem?_set_self->o3,append_assoc->pe,nodup_cons->pA,pairwise_iff_getElem->qe,map_congr_left->ql,length_pos_iff->qo,perm_ext_iff_of_nodup->ri,filter_sublist->rp,take_length->r4,length_drop->se,mem_append_right->tm,countP_map->t9,countP_congr->ub,any_eq_true->u2,countP_eq_zero->v3,pairwise_mergeSort->wm,append_nil->yv,getElem?_range->zd,mem_of_find?_eq_some->z0,length_filter_le->z3,filter_cons->z7,length_set->H9,replicate_succ->L0,length_reverse->L',lookup_cons->T2,getElem_map->T',getElem_inj->Vb,find?_eq_none->Vc,take_append_drop->Vf,length_singleton->Vg,cons_lt_cons_iff->Vh,length_nil->Vm,not_lt->Vn,map_take->Vo,map_drop->Vp,lt_irrefl->Vu,map_mergeSort->VD,sum_cons->VJ,any_cons->VL,getElem?_eq_none->VO,flatMap_cons->VQ,filter_congr->VR,pairwise_append->VV,nodup_nil->VW,mem_of_mem_take->VX,count_nil->VY,mem_flatMap->V5,getElem_mem->V6,getElem?_zip_eq_some->Wb,map_eq_nil_iff->We,lt_trans->Wh,find?_some->Wi,find?_cons->Wj,count_cons->Wk,pairwise_cons->Wl,mem_filterMap->Wm,length_eq_zero_iff->Wo,findIdx?_eq_some_iff_getElem->Wp,take_sublist->Wu,map_id'->Wv,count_append->Ww,perm_append_comm->WH,le_antisymm->WJ,mem_of_mem_drop->WW,flatMap_append->W2,filterMap_cons->W3,toArray->W8,map_nil->W9,zip_cons_cons->Xc,perm_append_singleton->Xd,reverse_cons->Xm,all_cons->Xs,pairwise_singleton->Xy,nodup_range->Xz,getElem?_replicate->XA,take_of_length_le->XM,drop_of_length_le->XN,any_map->XO,range_succ->XW,of_mem_zip->XX,forIn_cons->XY,length_replicate->X1,countP_singleton->X2,countP_le_length->X3,mem_mergeSort->Yh,getElem?_drop->Yi,filter_append->Yj,count_eq_zero->Yk,foldl_append->Ys,map_reverse->YE,flatMap_def->YF,sum_append->YO,length_zip->YP,foldl_cons->YQ,all_append->YR,take_zero->Y',length_eraseIdx_of_lt->Za,exists_mem_of_ne_nil->Zi,drop_eq_getElem_cons->Zj,take_nil->Zm,length_erase_of_mem->Zn,getElem?_take_of_lt->Zo,getElem?_cons_succ->Zt,sum_nil->Zw,range_succ_eq_map->Zx,length_pos_of_mem->Zy,filter_eq_nil_iff->Zz,all_map->ZA,mem_iff_getElem?->ZO,eq_replicate_iff->ZP,mem_erase_of_ne->ZS,mem_append_left->ZT,countP->ZU,filter_eq_self->aac,getElem?_take->aag,findIdx?_cons->aah,count_pos_iff->aai,reverse_perm->aaB,ext_getElem?->aaC,range'_succ->aaK,map_snd_zip->aaL,map_flatMap->aaM,flatMap_map->aaN,ext_getElem->aaO,drop_length->aaP,cons_append->aaQ,zip_append->aa0,nil_append->aa1,filter_map->aa2,find?_map->aa8,drop_zero->aa9,drop_nil->abi,zip_map->aby
open PySem renaming wpAny_bind->bt,Value->cA,sizeLine->dk,Shared->ee,Addr->eu,wpAny_pure->eR,Str->fk,Expr->hY,wpAny->iN,FuncData->lq,Program->lT,model->ma,tupleKeyHash->mu,mainGlobals->nE,compareOp->n5,starEach->ph,World->px,IsTupleKey->qp,Heap->qt,wpAny_holding->q0,Around->r0,assignEach->u1,foldedSetIterable->wy,cLine->y3,SetTable->zc,behindInMarks->zI,sizeLine_eq->z4,Pos->z8,wpAny_call_entry->z9,bootBuiltins->C',Obj->KX,wpAny_newObj_type->O1,swapsWith->P2,wpAny_mono->P',wpAny_truthy_bool->Vr,sysModules->Vv,binaryOp->VE,Scope->VF,wpAny_typeNameOfWhole_keyiter->VM,wpAny_passesOwn->VT,codeAny_builtin->VU,wpAny_setState_of->VZ,wpAny_pyIter_list->V0,holding->V1,mem_of_lookup->V7,backTo->Wf,wpAny_typeNameOf_keyiter->Ws,Stmt->Wt,assign->Wx,wpAny_callSpecial?_slot->WG,carriedByValue->WK,Paired->WL,wpAny_eqBool_str->WZ,DictEntry->W1,attributeBase->W4,Builtin->W6,sliceBounds->W',tupleKind_room_in1->Xu,pyNext->Xv,wpAny_dictEntries->XG,codeAny->XH,swapsWithSole->XQ,swappedStores->XR,boot_len->X5,codeAny_mono->X7,shortFactorBits->X8,letOwnedTupleGo->X9,NameKind->Ym,GenState->Yn,lastMarks->Yo,getItem->Yp,PassesOwn->Yq,wpAny_standAt->Yz,plainId_quiet->YA,wpAny_Call_Name_kw->YG,call_meets->YH,wpAny_typeOf->YT,valueAt->YU,slot_list_getitem->YV,relabel->YW,ofAClassStatement->YX,wpAny_forIn_list->Zd,tupleKind->Zf,IsPart->Zg,subscripted->Zk,Env->Zl,wpAny_execs_nil->Zp,wpAny_dictEpoch->Zq,standAt->Zu,wpAny_seqItems->ZC,typeLookup->ZD,atKey->ZE,Result->ZF,CmpOp->ZJ,wpAny_newList->ZX,wpAny_getItem_list_slice->ZY,wpAny_comprehension_free->ZZ,evalPart_none->Z5,bindL->aae,bindC->aaf,setItem->aal,seqIndex_neg->aam,rawInt->aan,merged->aao,isTrue->aap,concat_meets->aaq,callerA->aar,BindsTo->aax,wpAny_notOrdered_dict->aaE,wpAny_isSame_ref_self->aaF,wpAny_isOneOf_keyiter->aaG,wpAny_eqIsQuiet_tuple->aaH,wpAny_pyIter_keyiter->aaR,wpAny_field->aaS,seqIndex_of->aaT,hashByValue->aaU,bindArgs->aaV,wpAny_eqBool_tuple->aba,wpAny_Name->abb,typeIs_int->abc,pyIter->abd,getattributeRaised->abe,builtinsNs->abf,wpAny_storeSet_of->abl,wpAny_assign_Name->abm,searchCouldBeSeen->abn,Keyword->abq,wpAny_pyIter_zip->abz,wpAny_eqBool_int->abA,scanBound->abB,noFill_tuple_add->abD,cellsFrom->abE,wpAny_specialOf->abR,wpAny_setField->ab7,wpAny_fieldsOf->ab8,setRelay->ab',firstArgMember->acb,wpAny_attempt->acn,setSearchFrom->aco,seq_tuple_add->acp,evalPart_some->acq,call_list_seq->acr
open Bool renaming and_eq_true->ey,false_eq_true->lD,and_eq_true_iff->nS,eq_iff_iff->pB,not_eq_true'->um,eq_false_iff->HT,false_or->WR,and_true->WT,or_eq_true->WY,not_eq_true->XB,true_and->Yb,not_true->Yc,and_comm->Yd,false_and->Zb,and_false->Zc,false_ne_true->aaj,or_false->abj
open Nat renaming le_refl->eT,ne_of_lt->iW,lt_of_lt_of_le->l5,zero_le->qh,le_of_lt_succ->uy,le_trans->wd,lt_irrefl->za,not_lt_zero->zR,zero_add->SS,mod_lt->Vd,mod_eq_of_lt->Vx,lt_of_le_of_lt->VG,lt_trans->V9,lt_succ_self->V',le_add_right->Wa,succ_pos->WC,le_succ->WX,add_sub_cancel'->W7,lt_trichotomy->Xp,lt_succ_of_lt->Xq,sub_self->XT,mod_self->XU,ne_of_gt->Yw,le_of_lt->Yx,add_comm->Yy,add_mod->YN,div_div_eq_div_mul->ZN,pow_le_pow_right->aaa,mul_one->aab,div_eq_of_lt->aaZ,reduceAdd->abw,add_assoc->abx,succ_mul->abM,pow_zero->abN,pow_succ->abO,le_of_eq->abP,mod_mod->ab3,log2_lt->ab4,div_one->ab5,not_lt->acm
open PySem.Heap renaming get?_push_of_some->fj,lt_size->gi,get?_push_size->k5,get?_update_other->VC,SameBut->V3,size_push->Xb,get?_update_self->X0,size_update->YC,get?_push_ne->aaw
open PySem.W renaming Frag->gj,mg_none_of->uz,nsIn->VA,kia_one->XS,mg_of->YI,keepIn->YJ,kas_rev->YY,fnOf->YZ,KatTups->Y0,methodObj->aas,OpenLaw->aaI,kat_cons->aaW,cellsFrom_some->abg,kat_no->abF,kat_lt->abG,codeIn->abH
open Array renaming getElem?_toList->gW,length_toList->hQ,getElem?_eq_getElem->iR,getD_eq_getD_getElem?->me,getElem?_eq_some_iff->xr,size_map->Vt,toList_append->Wd,toArray_toList->WU,mem_toList_iff->WV,toList_filterMap->XD,getElem?_eq_none->XF,replicate->XP,getElem?_map->Ye,all_eq_true'->Yf,perm_iff_toList_perm->Y6,forIn_toList->aad,toList_push->aak,toList_map->aaD,toList->abk
open Option renaming map_eq_some_iff->hH,bind_some->k7,map_some->y4,isSome_iff_exists->Xl,isSome_map->Yg
open PySem.Str renaming ofString->k0,empty->VN,cps_append->Wy,join->Z7
open List.Pairwise renaming sublist->oi,imp_of_mem->VS,nil->Wc
open Sum renaming inr->ro,inl->Yt
open PySem.SeqAt renaming canLay_of_shaped->sj,readOf->W0,shaped->Yl
open PyProof.Rows.F renaming plain_set_update_loop->sW,entry_set_update_loop->z6
open PySem.Builtin.Int renaming intBits->ti,intTooBig->YM
open PySem.Value renaming ref->t8,none->u3,bool->Hz,str->Vs,int->W5,type->Z6,isStrOf->aa5,isInt->abo
open Classical renaming byContradiction->ua
open PySem.PyData renaming strOk->y1,eqv->zb,canLay0->Ts,canLayAll0->Xe,eqvAll->Xk,depthAll->YB
open PySem.Builtin.Str renaming occurrences->z5
open Int renaming eq_ofNat_of_zero_le->I1,neg_lt_neg->Vy,emod_lt_of_pos->VH,toNat_of_nonneg->Wg,emod_nonneg->Wn,le_refl->Wr,sub_zero->Xa,neg_lt_neg_iff->Xi,toNat_natCast->Xt,not_lt->XZ,le_antisymm->X4,neg_inj->YS,natCast_mul->aa',ne_of_lt->abQ
open PySem.F renaming slot_dict_keyiterator_next->N',called_set->Rr,args_tuple_add_2->Y3,args_dict_keyiterator_next_1->Y4,plainAttrs_list->Y7,entry_tuple_add->Y8,entry_dict_keyiterator_next->Y9,slot_tuple_add->Zh,slot_tuple_index->ZG,slot_list_getattribute->ZH,slot_list_append->ZI,slot_list_index->ZR,slot_dict_iter->abh,slot_int_rmul->abr,slot_dict_len->abt
open PySem.SetTable.layClean renaming free->Vi
open PySem.NameKind renaming free->Vj,cell->aav
open PySem.Around renaming under_plainId->Vk
open PySem.SetTable renaming insertAt->Vl,runEnd->Vq,toList_insertAt->V2,Probe->Xj,sizeAbove->Xn,insertAt_perm->Xo,bits->X',leap->Y2,sameMemory->Zr,fill->aat
open PyProof.Rows renaming callWith_type1->Vw,slot_tuple_getitem->Vz,seqObj->WO,IsTup->WQ,kindOf->Xh,room_in_shaped->Xw,envOfC->Xx,StrsAre->XJ,AllBare->Yr,entry_list_sort->Zs,IntsAre->Zv,slot_list_sort->ZK,args_list_sort->ZL,Subscript_->ZM,subscriptTail->Z8,strKind_oneLt->Z9,subscriptTail_builtinR->aay,keyKind_strs->aaz,arrOf->aaY,list_sort_treeK->ab0,get?_update_seq->ab1,callWith_builtin1->ab2,tail_any->ach,sortedHeap_old->aci,slicePart_none->acj,sortedHeap_at->acw,sortedAll_old->acx,listUpdate_at->acy
open False renaming elim->VB
open PySem.Builtin.Slice renaming slicePlaces->VI,sliceAdjust->WN,sliceApplied->Ya,slicePartIndex->abJ,sliceFields->abK
open PySem.Builtin.Tuple renaming tupleExact->VP,tupleItemsOf->abI
open Prod renaming ext_iff->V4,snd->aa6,ext->aa7
open Prod.mk renaming injEq->V8
open List.Nodup renaming length_le_of_subset->Wq
open PySem.Heap.SameBut renaming update->Wz
open True renaming intro->WI
open PySem.Obj renaming mapSeq->WM,putSet->Xf,data_mapFields->aau,mapFields->abp
open PySem.Calls renaming call_function_entry->Xg,Name_function_global->Y5
open List.cons renaming injEq->Xr
open PySem.Txt renaming join->XC
open PySem.Builtin.Dict_items renaming ownsTuple->XI
open Option.some renaming injEq->X6
open PySem.W.Looks renaming of_pure->Yu
open PySem.Builtin.Dict renaming updateFrom->Yv,pairItems->YD,showsAll->YK,selfAndRest->abW,pendingCount->abX,dictSlotNone->abY,addKeywords->abZ
open PySem.Heap.IsSliceOf renaming new->YL
open PySem.Spec renaming same->Y1
open PySem.PassesOwn renaming never->ZQ
open List.Perm renaming of_eq->ZV
open ForInStep renaming yield->ZW
open PyProof.Rows.IsTup renaming new->aaA
open Or renaming inr->aaJ,inl->abv
open PySem.Builtin.Frozenset renaming updateFrom->aaX
open Std.Legacy.Range renaming size->aa3,forIn_eq_forIn_range'->aa4
open PyProof.Rows.SortSt renaming mk'->abu
open PySem.Builtin.Range renaming rangeSize->abL
open PySem.W.WData renaming int->abS
open PySem.SeqAt.RcNeAt renaming lists_lengths->abT
open PySem.Builtin.List renaming listTooLong->abU,listFitsIndex->abV
open List.Sublist renaming filter->ab6
open PySem.Heap.DictOf renaming new->acg
open PySem.SeqAt.RcAt renaming lists_lengths->acs
open PySem.SeqAt.EqAt renaming str_int->acu,int_str->acv
open And renaming intro->acz
open PySem PySem.Spec PyProof.Rows
noncomputable section
namespace L2
def nO (h:none=some a):P:=by cases h
def sO (h:some a=some c):a=c:=by cases h;rfl
def sP (h:some (a,b)=some (c,d)):a=c/\b=d:=by cases h;exact⟨rfl,rfl⟩
inductive OB {α β γ:Type}(o:Option (α×β)) (g:α×β->Option γ) (r:γ):Prop
 | mk (a:α) (b:β) (e:o=some (a,b)) (h:g (a,b)=some r)
inductive OA {α γ:Type}(o:Option α) (g:α->Option γ) (r:γ):Prop
 | mk (a:α) (e:o=some a) (h:g a=some r)
theorem oB (h:o.bind g=some r):OB o g r:=by
 cases o with
 | none=>cases h
 | some p=>exact⟨p.1,p.2,rfl,h⟩
theorem oA (h:o.bind g=some r):OA o g r:=by
 cases o with
 | none=>cases h
 | some p=>exact⟨p,rfl,h⟩
theorem oM (h:o.map g=some r):OA o (λx=>some (g x)) r:=by
 cases o with
 | none=>cases h
 | some p=>exact⟨p,rfl,h⟩
theorem oN (h:o.map g=some r):OB o (λx=>some (g x)) r:=by
 cases o with
 | none=>cases h
 | some p=>exact⟨p.1,p.2,rfl,h⟩
abbrev Key:=Sum Int fk
noncomputable def jB:Key->cA->Bool
 | .inl k,v=>abo k v
 | .inr x,v=>aa5 x v
noncomputable def LC(w:px):Key->Int
 | .inl k=>hashInt k
 | .inr x=>hashStr w x
theorem jl:∀{k:Key}{v:cA},jB k v=true->(∃i t,k=Yt i/\v=W5 i t)\/(∃x t,k=ro x/\v=Vs x t)
 | .inl i,v,h=>by
  obtain⟨t,e⟩:=Value.isInt_shape h;exact .inl ⟨i,t,rfl,e⟩
 | .inr x,v,h=>by
  obtain⟨t,e⟩:=Value.isStrOf_shape h;exact .inr ⟨x,t,rfl,e⟩
def Kw(i)(t):jB (.inl i) (.int i t)=true:=by simp[jB,abo]
def E1(x)(t):jB (.inr x) (.str x t)=true:=by simp[jB,aa5]
def KZ(a b):decide ((Yt a:Key)=Yt b)=(a==b):=by
 grind
def Kr(a b):decide ((ro a:Key)=ro b)=decide (a=b):=by
 simp
def Jk(a)(b):decide ((Yt a:Key)=ro b)=false:=decide_eq_false (λq=>nomatch q)
def Jl(a)(b):decide ((ro a:Key)=Yt b)=false:=decide_eq_false (λq=>nomatch q)
def cP(prog)(w):PySem.KeyKind prog w Key where
 is:=jB
 hash:=LC w
 inj:=λv a b g f=>by
  rcases jl g with⟨i,t,rfl,rfl⟩|⟨x,t,rfl,rfl⟩
  ·rcases jl f with⟨j,u,rfl,e⟩|⟨y,u,rfl,e⟩
   ·injection e with c _;rw[c]
   ·exact nomatch e
  ·rcases jl f with⟨j,u,rfl,e⟩|⟨y,u,rfl,e⟩
   ·exact nomatch e
   ·injection e with c _;rw[c]
 byValue:=λk v h=>by
  rcases jl h with⟨i,t,rfl,rfl⟩|⟨x,t,rfl,rfl⟩<;>rfl
 pyHash:=λd h=>by
  rcases jl d with⟨i,t,rfl,rfl⟩|⟨x,t,rfl,rfl⟩
  ·exact wpAny_pyHash_int h
  ·exact wpAny_pyHash_str h
 eqBool:=λl d h=>by
  rcases jl l with⟨i,t,rfl,rfl⟩|⟨x,t,rfl,rfl⟩
  ·rcases jl d with⟨j,u,rfl,rfl⟩|⟨y,u,rfl,rfl⟩
   ·rw[KZ] at h;exact abA h
   ·rw[Jk] at h;exact acv i t y u _ _ _ _ h
  ·rcases jl d with⟨j,u,rfl,rfl⟩|⟨y,u,rfl,rfl⟩
   ·rw[Jl] at h;exact acu x t j u _ _ _ _ h
   ·rw[Kr] at h;exact WZ h
 «strs»:=λk x t v h=>by
  rcases jl h with⟨i,u,rfl,e⟩|⟨y,u,rfl,e⟩
  ·exact nomatch e
  ·injection e with c _
   subst c;cases v<;>rfl
def NV(prog)(w)(i)(t):(cP prog w).is (.inl i) (.int i t)=true:=Kw i t
def Ni(prog)(w)(x)(t):(cP prog w).is (.inr x) (.str x t)=true:=E1 x t
inductive V where
 | bj|bl (b:Bool)|int (i:Int)|str (x:fk)|pV (b:Array UInt8)|xw (b:UInt64)|ref (a:eu)|ty (n:String)
 deriving DecidableEq
def RelV:V->cA->Prop
 | .bj,u=>u=u3
 | .bl b,u=>u=Hz b
 | .int i,u=>∃t,u=W5 i t
 | .str x,u=>∃t,u=Vs x t
 | .pV b,u=>∃t,u=Value.bytes b t
 | .xw b,u=>∃t,u=Value.float b t
 | .ref a,u=>u=t8 a
 | .ty n,u=>u=Z6 n
abbrev aH:List V->List cA->Prop:=WL RelV
def aH.length (r:aH xs us):xs.length=us.length:=Paired.length r
theorem aH.get:∀{xs:List V}{us:List cA}{i:Nat}{x:V},aH xs us->xs[i]?=some x->∃u,us[i]?=some u/\RelV x u
 | _,_,_,_,.nil,e=>by simp at e
 | _,_,0,_,.cons r _,e=>by simp at e;subst e;exact⟨_,rfl,r⟩
 | _,_,i+1,x,.cons _ t,e=>by
  obtain⟨u,a,b⟩:=aH.get t (e)
  exact⟨u,by simpa using a,b⟩
theorem aH.set (r:RelV x u):∀{xs:List V}{us:List cA}(i:Nat),aH xs us->aH (xs.set i x) (us.set i u)
 | _,_,_,.nil=>.nil
 | _,_,0,.cons _ t=>.cons r t
 | _,_,i+1,.cons q t=>.cons q (aH.set r i t)
theorem aH.append:∀{xs ys:List V}{us a:List cA},aH xs us->aH ys a->aH (xs++ys) (us++a)
 | _,_,_,_,.nil,s=>s
 | _,_,_,_,.cons r t,s=>.cons r (aH.append t s)
theorem aH.take:∀{xs:List V}{us:List cA}(n:Nat),aH xs us->aH (xs.take n) (us.take n)
 | _,_,0,_=>.nil
 | _,_,_+1,.nil=>.nil
 | _,_,n+1,.cons r t=>.cons r (aH.take n t)
theorem aH.drop:∀{xs:List V}{us:List cA}(n:Nat),aH xs us->aH (xs.drop n) (us.drop n)
 | _,_,0,r=>r
 | _,_,_+1,.nil=>.nil
 | _,_,n+1,.cons _ t=>aH.drop n t
def jN:Option V->Option cA->Prop
 | some v,some u=>RelV v u
 | none,none=>True
 | _,_=>False
def KV:List (a×V)->List (a×cA)->Prop:=WL λ(p:a×V) (q:a×cA)=>p.1=q.1/\RelV p.2 q.2
noncomputable def kV:Key->V
 | .inl i=>.int i
 | .inr x=>.str x
inductive HO where
 /-- a list -/
 | lst (xs:List V)
 /-- a tuple (never changes) -/
 | tup (xs:List V)
 /-- a dict whose keys are ints and texts;one whose keys are tuples of ints and texts (the empty one is both) -/
 | dK (kvs:List (Key×V))|dT (kvs:List (List Key×V))
 /-- a set of ints: its members,its size -/
 | set (S:Int->Bool) (n:Nat)
 /-- an instance of the class at C,its dict at dx,its attributes -/
 | ins (C dx:eu) (fs:List (fk×V))
 /-- the dict of the instance at x -/
 | own (x:eu)
 /-- the dict of an exception -/
 | xd (fs:List (fk×V))
 /-- a bound method,f of x -/
 | met (f x:eu)
 /-- a range object lo,lo+1,.. below hi -/
 | oR (lo hi:Int)
 /-- a thing that is known to the object (the script;a dict while a loop walks it): read,never written while it is so -/
 | bu (o:KX) (u:HO)
 /-- a code object's table -/
 | kO (ps:Array cA)
 /-- any other thing,by what is true of its one object (a def of one's own: SetO a S n:=HO.ext λh=>..) -/
 | ext (φ:qt->Prop)
abbrev Hp:=eu->Option HO
noncomputable def upd(H:Hp)(a:eu)(o:HO):Hp:=λb=>if b=a then some o else H b
def ba:upd H a o a=some o:=by unfold upd;rw[if_pos rfl]
def aC (h:b≠a):upd H a o b=H b:=by unfold upd;rw[if_neg h]
def OW:upd (upd H a o) a u=upd H a u:=by
 funext b;delta upd;split<;>rfl
def MS{H:Hp}{a b:eu}{o u:HO}(h:H a=some o)(h':H b=some u)(d:o≠u):a≠b:=by
 grind
def dC{H:Hp}{a b:eu}{o:HO}(h:H a=some o)(h':H b=none):a≠b:=by
 intro e;subst e;rw[h] at h';contradiction
section
variable(P:lT)(w:px)
def cO(H:Hp)(h:qt)(a:eu):HO->Prop
 | .lst xs=>xs.length<=dk/\∃(its:List cA) (n:Nat),aH xs its/\h.get? a=some {cls:=.type "list",data:=.seq its.toArray n}
 | .tup xs=>xs.length<=dk/\∃its:List cA,aH xs its/\WQ h a its.toArray
 | .dK kvs=>kvs.length<=dk/\(a==Vv)=false/\∃vs,KV kvs vs/\h.DictOf (cP P w) a vs
 | .dT kvs=>kvs.length<=dk/\(a==Vv)=false/\∃xs:List (List Key×eu×cA),
   WL (λ(p:List Key×V) (q:List Key×eu×cA)=>p.1=q.1/\H q.2.1=some (.tup (p.1.map kV))/\RelV p.2 q.2.2) kvs xs /\
   ∃o e ep,h.get? a=some o/\o.ExactDict/\o.data=.dict e ep/\e.toList=xs.map (entryOfKey (Zf (cP P w)))/\(xs.map (·.1)).Nodup
 | .set S n=>h.SetOf (intKind P w) a S n
 | .ins C c fs=>H c=some (.own a)/\fs.length<=1000/\c≠a/\h.get? a=some (W.instObj C c) /\
   ∃b,h.Ns1 c b/\(∀f,jN (fs.lookup f) (b f))/\PySem.Within b (fs.map (·.1))
 | .own _=>∃o,h.get? a=some o
 | .xd fs=>∃b,h.Ns1 a b/\∀f,jN (fs.lookup f) (b f)
 | .oR lo j=>∃t u v,h.get? a=some {cls:=.type "range",data:=.fields #[.int lo t,.int j u,.int 1 v]}
 | .bu o u=>h.get? a=some o/\cO H h a u
 | .kO k=>h.get? a=some {cls:=.none,data:=.fields k}
 | .met f x=>h.get? a=some (aas (.ref f) (.ref x))
 | .ext d=>d h/\(∃o,h.get? a=some o)/\∀g i:qt,d g->(∀o,g.get? a=some o->i.get? a=some o)->d i
def cc(H:Hp)(h:qt):Prop:=∀a o,H a=some o->cO P w H h a o
end
section
variable{P:lT}{w:px}{H H':Hp}{h h':qt}{a:eu}{o:HO}{x e:eu}{o':HO}
theorem cO.lt(x:cO P w H h a o):a<h.objs.size:=by
 cases o with
 | lst xs=>obtain⟨_,_,_,_,e⟩:=x;exact gi e
 | tup xs=>obtain⟨_,_,_,p⟩:=x;exact p.lt
 | dK kvs=>obtain⟨_,_,_,_,o,_,_,e,_⟩:=x;exact gi e
 | dT kvs=>obtain⟨_,_,_,_,o,_,_,e,_⟩:=x;exact gi e
 | set S n=>obtain⟨o,_,_,_,e,_⟩:=x;exact gi e
 | ins C dx fs=>obtain⟨_,_,_,e,_⟩:=x;exact gi e
 | own y=>obtain⟨_,e⟩:=x;exact gi e
 | xd fs=>obtain⟨_,⟨_,_,_,e,_⟩,_⟩:=x;exact gi e
 | oR lo hi=>obtain⟨_,_,_,e⟩:=x;exact gi e
 | bu ob u=>obtain⟨e,_⟩:=x;exact gi e
 | kO ps=>exact gi (x)
 | met f y=>exact gi (x)
 | ext φ=>obtain⟨_,⟨_,e⟩,_⟩:=x;exact gi e
theorem Paired.nB:∀{l₁:List c}{l₂:List d},WL F l₁ l₂->(∀a b,F a b->G a b)->WL G l₁ l₂
 | _,_,.nil,_=>.nil
 | _,_,.cons r t,f=>.cons (f _ _ r) (Paired.nB t f)
theorem cO.gO(x:cO P w H h a o)(k:∀b u,(b=a\/H b=some (.own a))->h.get? b=some u->h'.get? b=some u)
 (s:∀b,H b=some (.own a)->H' b=some (.own a))(A:∀b xs,H b=some (.tup xs)->H' b=some (.tup xs)):cO P w H' h' a o:=by
 induction o with
 | lst xs=>obtain⟨z,its,n,r,e⟩:=x;exact⟨z,its,n,r,k _ _ (.inl rfl) e⟩
 | tup xs=>obtain⟨z,its,r,g,e,c⟩:=x;exact⟨z,its,r,g,k _ _ (.inl rfl) e,c⟩
 | dK kvs=>obtain⟨z,y,vs,r,g,i,ep,e,c⟩:=x;exact⟨z,y,vs,r,g,i,ep,k _ _ (.inl rfl) e,c⟩
 | dT kvs =>
  obtain⟨z,y,xs,r,g,i,ep,e,c⟩:=x;exact⟨z,y,xs,Paired.nB r λp q z=>⟨z.1,A _ _ z.2.1,z.2.2⟩,g,i,ep,k _ _ (.inl rfl) e,c⟩
 | set S n=>obtain⟨g,i,ep,t,e,c⟩:=x;exact⟨g,i,ep,t,k _ _ (.inl rfl) e,c⟩
 | ins C dx fs =>
  obtain⟨d,z,ne,e,j,⟨l,i,ep,B,c⟩,r⟩:=x;exact⟨s _ d,z,ne,k _ _ (.inl rfl) e,j,⟨l,i,ep,k _ _ (.inr d) B,c⟩,r⟩
 | own y=>obtain⟨g,e⟩:=x;exact⟨g,k _ _ (.inl rfl) e⟩
 | xd fs=>obtain⟨j,⟨l,i,ep,e,c⟩,r⟩:=x;exact⟨j,⟨l,i,ep,k _ _ (.inl rfl) e,c⟩,r⟩
 | oR lo hi=>obtain⟨t,u,v,e⟩:=x;exact⟨t,u,v,k _ _ (.inl rfl) e⟩
 | bu g u D=>obtain⟨e,q⟩:=x;exact⟨k _ _ (.inl rfl) e,D q⟩
 | kO m =>
  have e:=x;exact k a _ (.inl rfl) e
 | met f y =>
  have e:=x;exact k a _ (.inl rfl) e
 | ext φ=>obtain⟨p,⟨o,e⟩,st⟩:=x;exact⟨st _ _ p λo q=>k _ _ (.inl rfl) q,⟨o,k _ _ (.inl rfl) e⟩,st⟩
def cc.lt(x:cc P w H h)(e:H a=some o):a<h.objs.size:=(x a o e).lt
theorem cc.fresh(x:cc P w H h)(e:h.objs.size<=a):H a=none:=by
 cases q:H a with
 | none=>rfl
 | some u=>exact absurd (l5 (x.lt q) e) (za _)
def cc.kept(x:cc P w H h)(k:∀b u,h.get? b=some u->h'.get? b=some u):cc P w H h':=λa o e =>
 (x a o e).gO (λb u _ q=>k b u q) (λ_ q=>q) λ_ _ q=>q
def cc.laid(x:cc P w H h)(k:∀b u,h.get? b=some u->h'.get? b=some u)(i:h.objs.size<=a)(d:cO P w (upd H a o) h' a o):cc P w (upd H a o) h':=λb u e=>by
 have f:=x.fresh i
 by_cases g:b=a
 ·subst g;rw[ba] at e;obtain rfl:=sO e;exact d
 ·rw[aC g] at e;exact (x b u e).gO (λc v _ q=>k c v q) (λc q=>by rw[aC (dC q f)];exact q) λc xs q=>by rw[aC (dC q f)];exact q
def Rd(H:Hp)(a:eu)(u:HO):Prop:=H a=some u\/∃o,H a=some (.bu o u)
def Rd.of (h:H a=some u):Rd H a u:=.inl h
def Rd.ok (r:Rd H a u)(x:cc P w H h):cO P w H h a u:=by
 rcases r with r|⟨o,r⟩
 ·exact x a u r
 ·obtain⟨_,q⟩:=x a _ r;exact q
def o9:Option HO->Prop
 | some (.lst _)=>True
 | some (.dK _)=>True
 | some (.dT _)=>True
 | some (.set _ _)=>True
 | some (.ins _ _ _)=>True
 | some (.ext _)=>True
 | _=>False
def cc.write(ok:cc P w H h)(g:o9 (H x))(m:e=x\/H e=some (.own x))(k:∀b u,b≠e->h.get? b=some u->h'.get? b=some u)(n:∃u,h'.get? e=some u)
 (p:cO P w (upd H x o') h' x o'):cc P w (upd H x o') h':=λb u q=>by
 have f:∀c y,H c=some (.own y)->c≠x:=λc y r z=>by subst z;rw[r] at g;exact g
 have l:∀c xs,H c=some (.tup xs)->c≠x:=λc xs r z=>by subst z;rw[r] at g;exact g
 by_cases i:b=x
 ·subst i;rw[ba] at q;obtain rfl:=sO q;exact p
 ·rw[aC i] at q
  by_cases d:b=e
  ·have s:H b=some (.own x):=by
    rcases m with z|z
    ·exact absurd (d.trans z) i
    ·rw[d];exact z
   rw[q] at s;obtain rfl:=sO s;obtain⟨v,t⟩:=n;exact⟨v,by rw[d];exact t⟩
  ·refine (ok b u q).gO (λc v j r=>k c v ?_ r) (λc r=>by rw[aC (f c b r)];exact r) λc xs r=>by rw[aC (l c xs r)];exact r
   rcases j with rfl|j
   ·exact d
   ·rintro rfl
    rcases m with z|z
    ·exact f c b j z
    ·rw[j] at z;cases z;exact i rfl
end
structure Un (fs ex:List eu) (H H':Hp) (h h':qt):Prop where
 keep:∀b o,h.get? b=some o->H b=none->b∉fs->b∉ex->h'.get? b=some o
 slot:∀b o,h.get? b=some o->H b=none->b∈fs->b∉ex->∃sl,h'.get? b=some {o with slots:=sl}
 free:∀b o,h.get? b=some o->H b=none->b∉ex->H' b=none
 there:∀b o,h.get? b=some o->b∉ex->∃o',h'.get? b=some o'
 jO:∀b xs,H b=some (.tup xs)->H' b=some (.tup xs)
 jr:∀b o u,H b=some (.bu o u)->H' b=some (.bu o u)
 jY:∀b ps,H b=some (.kO ps)->∃more,H' b=some (.kO (ps++more))
section
variable{fs fs' ex ex':List eu}{H H1 H2:Hp}{h h1 h2 h':qt}{a x e:eu}{o:HO}
def Un.any(u:Un fs ex H H1 h h1)(q:h.get? b=some c)(n:H b=none)(d:b∉ex):∃g,h1.get? b=some {c with slots:=g}:=by
 by_cases f:b∈fs
 ·exact u.slot b c q n f d
 ·exact⟨c.slots,u.keep b c q n f d⟩
def Un.kept(k:∀b u,h.get? b=some u->h'.get? b=some u):Un fs ex H H h h' :=
 ⟨λb c q _ _ _=>k b c q,λb c q _ _ _=>⟨c.slots,k b c q⟩,λ_ _ _ n _=>n,λb c q _=>⟨c,k b c q⟩,λ_ _ q=>q,λ_ _ _ q=>q,λ_ ps q=>⟨#[],by rw[q];simp⟩⟩
def Un.refl:Un fs ex H H h h:=Un.kept λ_ _ q=>q
def Un.laid(k:∀b u,h.get? b=some u->h'.get? b=some u)(d:h.objs.size<=a)(c:H a=none):Un fs ex H (upd H a o) h h' where
 keep:=λb u q _ _ _=>k b u q
 slot:=λb u q _ _ _=>⟨u.slots,k b u q⟩
 free:=λb u q n _=>by rw[aC (iW (l5 (gi q) d))];exact n
 there:=λb u q _=>⟨u,k b u q⟩
 jO:=λb xs q=>by rw[aC (dC q c)];exact q
 jr:=λb u xs q=>by rw[aC (dC q c)];exact q
 jY:=λb ps q=>⟨#[],by rw[aC (dC q c),q];simp⟩
def Un.write(c:o9 (H x))(l:e=x\/H e=some (.own x))(k:∀b u,b≠e->h.get? b=some u->h'.get? b=some u)(g:∃u,h'.get? e=some u):Un fs ex H (upd H x o) h h':=by
 have i:∀b,H b=none->b≠x:=λb n z=>by subst z;rw[n] at c;exact c
 have j:∀b,H b=none->b≠e:=λb n z=>by
  subst z
  rcases l with r|r
  ·exact i b n r
  ·rw[n] at r;exact nO r
 have f:∀b u,H b=some u->¬o9 (some u)->b≠x:=λb u q nm z=>by subst z;rw[q] at c;exact nm c
 refine⟨λb u q n _ _=>k b u (j b n) q,λb u q n _ _=>⟨u.slots,k b u (j b n) q⟩,λb u q n _=>by rw[aC (i b n)];exact n,λb u q _=>?_,
  λb xs q=>by rw[aC (f b _ q λz=>z)];exact q,λb u xs q=>by rw[aC (f b _ q λz=>z)];exact q,λb ps q=>⟨#[],by rw[aC (f b _ q λz=>z),q];simp⟩⟩
 by_cases d:b=e
 ·subst d;exact g
 ·exact⟨u,k b u d q⟩
end
noncomputable def fU(h:qt)(H:Hp):List Addr:=(hI h.objs.size).filter λa=>(H a).isSome
def ku(h:qt)(H:Hp):Heap:=W.hideAll h (fU h H)
def GH(h)(H):(ku h H).objs.size=h.objs.size:=W.hideAll_size _ _
def IQ (e:h.get? b=some o)(n:H b=none):(ku h H).get? b=some o :=
 W.hideAll_get _ e λa=>by
  have q:=(hF.mp a).2;rw[n] at q;simp at q
theorem HX (e:(ku h H).get? b=some o):h.get? b=some o/\H b=none:=by
 have a:=W.of_hideAll (fU h H) e;refine⟨a,?_⟩;cases q:H b with
 | none=>rfl
 | some x =>
  have c:b∈fU h H:=hF.mpr ⟨mA.mpr (gi a),by simp[q]⟩
  have z:(ku h H).get? b=none:=W.hideAll_none (fU h H) c;rw[z] at e;exact nO e
noncomputable def mT(g h:qt)(L:eu):List (eu×KX):=(hI h.objs.size).filterMap λa=>if a=L\/(g.get? a).isSome=true then none else (h.get? a).map λo=>(a,o)
def xH (c:a≠L)(d:g.get? a=none)(b:h.get? a=some o):(a,o)∈mT g h L :=
 Wm.mpr ⟨a,mA.mpr (gi b),by simp[c,d,b]⟩
theorem KH (c:p∈mT g h L):p.1≠L/\g.get? p.1=none/\h.get? p.1=some p.2:=by
 obtain⟨b,_,e⟩:=Wm.mp c;split at e
 ·exact nO e
 ·rename_i a;cases q:h.get? b with
  | none=>rw[q] at e;simp at e
  | some u =>
   rw[q] at e;simp at e;subst e;refine⟨λz=>a (.inl z),?_,q⟩
   cases r:g.get? b with
   | none=>rfl
   | some v=>exact (a (.inr (by simp[r]))).elim
def Fu:News g L h (mT g h L):=λp d=>let ⟨a,b,c⟩:=KH d;⟨c,a,b⟩
structure Mod (K:gj) (mg:fk->Option cA) (base:qt):Prop where
 xh:K.In base
 glob:base.Ns nE mg
 blt:∃mb,base.Ns abf mb/\∀x:fk,x≠"__name__"->mb x=C' x
 nolimit:base.NoLimit
structure Cx where
 prog:lT
 w:px
 K:gj
 mg:fk->Option cA
 base:qt
 A:r0
 N:List fk
 dQ:ee
 qx:Hp
 env:Zl
 outer:List Zl
 stack:List Zl
 ex:List eu
 fn:fk->Bool
 calm:Bool
 pn:List (eu×KX)
 xe:cA->ee->Prop
noncomputable def i7(l:List Zl):List Addr:=l.filterMap (·.frame)
abbrev bO(x:fk):Prop:=(x==("__debug__":fk))=false
abbrev dh(x:fk):Prop:=(x==("__classdict__":fk))=false
abbrev bK(X:Cx)(e:hY)(a:List hY):Prop:=ph (e::a) X.env=(false,eval e X.env)::ph a X.env
abbrev pj(X:Cx)(p:z8)(e:hY):Prop:=((Wf p (ph [e] X.env)).all (λx=>!x.1)&&(backToKw p (keywordEach [] X.env)).all (λx=>x.1.isSome)&&decide ([e].length+([]:List abq).length+(if ([]:List abq).isEmpty then 0 else 1)<30))=true
abbrev Cx.fs(X:Cx):List Addr:=i7 X.outer
def cC(a:VF)(x:fk):Prop:=a.names.lookup x=some .local\/a.names.lookup x=some .cell\/a.names.lookup x=some .free
def Loc(a:VF)(x:fk):Prop:=a.names.lookup x=some .local\/a.names.lookup x=some .cell
def Look(env:Zl)(h:qt)(m:fk->Option cA)(x:fk)(u:cA):Prop :=
 (env.kindOf x=some .local/\m x=some u)\/((env.kindOf x=some .cell\/env.kindOf x=some .free)/\∃c,env.cells.lookup x=some c/\h.IsCell c (some u))
structure Cx.Ok (X:Cx):Prop where
 mod:Mod X.K X.mg X.base
 kind:X.env.scope.kind=.function
 glob:X.env.globals=nE
 blt:X.env.builtins=abf
 above:X.dQ.heap.objs.size<=X.env.locals
 inj:∀x y c,X.env.cells.lookup x=some c->X.env.cells.lookup y=some c->x=y
 has:∀x,(X.env.kindOf x=some .cell\/X.env.kindOf x=some .free)->∃c,X.env.cells.lookup x=some c
 pH:∀x c,X.fn x=true->X.env.cells.lookup x=some c->X.dQ.heap.objs.size<=c
 hd:X.calm=true->X.A.handled=none
 frames:X.A.frames=some X.stack
 sI:X.stack=X.outer\/(X.stack=X.env::X.outer/\X.env.frame=some X.env.locals)
 Ex:∀b∈X.ex,b≠X.env.locals/\∀x c,X.env.cells.lookup x=some c->c≠b
 bs:∀b o,X.base.get? b=some o->X.dQ.heap.get? b=some o/\X.qx b=none
 ls:X.base.objs.size<=X.dQ.heap.objs.size
 qJ:∀b o,X.base.get? b=some o->b∉X.ex
 rh:∀b∈X.ex,b∉X.fs
 iS:X.dQ.heap.FunFrames X.base X.outer
 nq:∀b∈X.fs,X.qx b=none
structure Inv (X:Cx) (pins:List (eu×KX)) (σ:List (Option V)) (H:Hp) (s:ee):Prop where
 ok:X.Ok
 os:s.os=X.dQ.os
 bare:Yr s.gens
 base:Un X.fs X.ex X.qx H X.dQ.heap s.heap
 loc:∃m,s.heap.Ns X.env.locals m/\∀(i:Nat) (x:fk) (v:V),X.N[i]?=some x->σ[i]?=some (some v)->cC X.env.scope x->∃u,RelV v u/\Look X.env s.heap m x u
 cell:∀x c,X.env.cells.lookup x=some c->∃v,s.heap.IsCell c v
 free:H X.env.locals=none
 il:∀x c,X.env.cells.lookup x=some c->H c=none
 pin:∀p∈X.pn++pins,s.heap.get? p.1=some p.2/\H p.1=none/\p.1≠X.env.locals/\p.1∉X.fs/\∀v,p.2.data≠.cell v
 aw:cc X.prog X.w H s.heap
 len:σ.length=X.N.length
section
variable{X:Cx}{pins:List (eu×KX)}{σ:List (Option V)}{H H':Hp}{s:ee}{h':qt}
def Cx.Ok.Nc(ok:X.Ok)(e:X.base.get? b=some o):b∉X.fs:=λa=>by
 have:=(ok.iS.mem a).1;rw[e] at this;contradiction
def Inv.bs(I:Inv X pins σ H s):∀b o,X.base.get? b=some o->s.heap.get? b=some o/\H b=none:=λb o e =>
 ⟨I.base.keep b o (I.ok.bs b o e).1 (I.ok.bs b o e).2 (I.ok.Nc e) (I.ok.qJ b o e),I.base.free b o (I.ok.bs b o e).1 (I.ok.bs b o e).2 (I.ok.qJ b o e)⟩
def Inv.bk(I:Inv X pins σ H s):∀b o,X.base.get? b=some o->s.heap.get? b=some o:=λb o e=>(I.bs b o e).1
def Inv.mod(I:Inv X pins σ H s):Mod X.K X.mg X.base:=I.ok.mod
def Inv.gX(I:Inv X pins σ H s):X.K.In s.heap:=I.ok.mod.xh.keeps I.bk
def Inv.lt(I:Inv X pins σ H s):X.env.locals<s.heap.objs.size:=let ⟨_,a,_⟩:=I.loc;a.lt
def Inv.sz(I:Inv X pins σ H s):X.dQ.heap.objs.size<=s.heap.objs.size:=wd I.ok.above (Yx I.lt)
def Inv.FX(I:Inv X pins σ H s)(h:s.heap.objs.size<=a):a∉X.fs:=λb=>by
 obtain⟨_,o,c,_⟩:=I.ok.iS.mem b;exact absurd (l5 (gi c) (wd I.sz h)) (za _)
def Inv.jx(I:Inv X pins σ H s):∀x c,X.env.cells.lookup x=some c->c≠X.env.locals:=λx c e z=>by
 obtain⟨v,o,a,hd⟩:=I.cell x c e;obtain⟨m,⟨o',es,ep,b,d,_⟩,_⟩:=I.loc;rw[z,b] at a;obtain rfl:=sO a;rw[d] at hd;contradiction
theorem Inv.iS(I:Inv X pins σ H s):s.heap.FunFrames X.base X.outer:=by
 have all:∀(l:List Zl),(∀b∈i7 l,b∈X.fs)->X.dQ.heap.FunFrames X.base l->s.heap.FunFrames X.base l:=by
  intro l;induction l with
  | nil=>intro _ _;trivial
  | cons env r f =>
   intro hs hl;obtain⟨g,⟨L,o,a,h,i,hd⟩,j⟩:=hl;have c:=hs L (by unfold i7;rw[W3,a];exact fm)
   obtain⟨sl,e⟩:=I.base.slot L o i (I.ok.nq L c) c λz=>I.ok.rh L z c
   exact⟨g,⟨L,_,a,h,e,hd⟩,f (λb d=>hs b (by unfold i7;rw[W3,a];exact gf _ d)) j⟩
 exact all X.outer (λ_ d=>d) I.ok.iS
def Inv.stack(I:Inv X pins σ H s):s.heap.FunFrames X.base X.stack:=by
 rcases I.ok.sI with e|⟨e,a⟩
 ·rw[e];exact I.iS
 ·rw[e];obtain⟨m,b,_⟩:=I.loc;refine .cons (by rw[I.ok.kind];decide) a b ?_ I.iS
  exact Heap.get?_none_of_le (wd I.ok.ls I.ok.above)
def Inv.ug(I:Inv X pins σ H s):∀b∈i7 X.stack,b∈X.env.locals::X.fs:=λb a=>by
 rcases I.ok.sI with e|⟨e,c⟩
 ·rw[e] at a;exact gf _ a
 ·rw[e] at a;delta i7 at a;simp only[W3,c] at a;exact a
def Inv.Br(I:Inv X pins σ H s):∀b∈i7 X.stack,H b=none:=λb a=>by
 rcases f'.mp (I.ug b a) with e|a
 ·rw[e];exact I.free
 ·obtain⟨_,o,c,_⟩:=I.ok.iS.mem a;exact I.base.free b o c (I.ok.nq b a) λz=>I.ok.rh b z a
def Inv.step{g':Array Yn}{t':Nat}{d':Drawn}{ch:List eu}(I:Inv X pins σ H s)
 (g:∀b∈ch,(b∈X.ex\/X.dQ.heap.objs.size<=b)/\b≠X.env.locals/\(∀x c,X.env.cells.lookup x=some c->c≠b)/\∀p∈X.pn++pins,p.1≠b)
 (keep:∀b o,b≠X.env.locals->b∉X.fs->b∉ch->s.heap.get? b=some o->H b=none->h'.get? b=some o)
 (slot:∀b o,b≠X.env.locals->b∈X.fs->b∉ch->s.heap.get? b=some o->H b=none->∃F,h'.get? b=some {o with slots:=F})(free:∀b o,b∉ch->s.heap.get? b=some o->H b=none->H' b=none)
 (there:∀b o,b∉ch->s.heap.get? b=some o->∃B,h'.get? b=some B)
 (jO:∀b xs,H b=some (.tup xs)->H' b=some (.tup xs))(jr:∀b o u,H b=some (.bu o u)->H' b=some (.bu o u))(jY:∀b D,H b=some (.kO D)->∃more,H' b=some (.kO (D++more)))
 (ns:∀m,s.heap.Ns X.env.locals m->h'.Ns X.env.locals m)(aw:cc X.prog X.w H' h')(L:Yr g') :
  Inv X pins σ H' {s with heap:=h',gens:=g',drawn:=d',toks:=t'}:=by
 have E:∀b o,X.dQ.heap.get? b=some o->b≠X.env.locals:=λb o e=>iW (l5 (gi e) I.ok.above)
 have t:∀b o,X.dQ.heap.get? b=some o->b∉X.ex->b∉ch:=λb o e a j=>by
  rcases (g b j).1 with z|z
  ·exact a z
  ·exact absurd (l5 (gi e) z) (za _)
 have y:∀x c,X.env.cells.lookup x=some c->∀v,s.heap.IsCell c v->h'.IsCell c v:=λx c e v ⟨o,A,hd⟩=>by
  have h:c∉ch:=λz=>(g c z).2.2.1 x c e rfl
  by_cases G:c∈X.fs
  ·obtain⟨F,q⟩:=slot c o (I.jx x c e) G h A (I.il x c e);exact⟨_,q,hd⟩
  ·exact⟨o,keep c o (I.jx x c e) G h A (I.il x c e),hd⟩
 refine⟨I.ok,I.os,L,⟨λb o e n j a=>?_,λb o e n j a=>?_,λb o e n a=>?_,λb o e a=>?_,λb xs e=>jO b xs (I.base.jO b xs e),λb o xs e=>jr b o xs (I.base.jr b o xs e),λb D e=>?_⟩,?_,λx c e=>?_,?_,λx c e=>?_,λp J=>?_,aw,I.len⟩
 ·exact keep b o (E b o e) j (t b o e a) (I.base.keep b o e n j a) (I.base.free b o e n a)
 ·obtain⟨F,f⟩:=I.base.slot b o e n j a;obtain⟨K,C⟩:=slot b _ (E b o e) j (t b o e a) f (I.base.free b o e n a);exact⟨K,C⟩
 ·obtain⟨B,f⟩:=I.base.there b o e a;exact free b B (t b o e a) f (I.base.free b o e n a)
 ·obtain⟨B,f⟩:=I.base.there b o e a;exact there b B (t b o e a) f
 ·obtain⟨M,f⟩:=I.base.jY b D e;obtain⟨N,C⟩:=jY b _ f;exact⟨M++N,by rw[C,Array.append_assoc]⟩
 ·obtain⟨m,O,hl⟩:=I.loc;refine⟨m,ns m O,λi x v f C P=>?_⟩
  obtain⟨u,r,l⟩:=hl i x v f C P;refine⟨u,r,?_⟩
  rcases l with l|⟨k,c,e,z⟩
  ·exact .inl l
  ·exact .inr ⟨k,c,e,y x c e _ z⟩
 ·obtain⟨v,z⟩:=I.cell x c e;exact⟨v,y x c e v z⟩
 ·obtain⟨m,⟨o,_,_,A,_⟩,_⟩:=I.loc;exact free _ o (λz=>(g _ z).2.1 rfl) A I.free
 ·obtain⟨v,o,A,hd⟩:=I.cell x c e;exact free c o (λz=>(g c z).2.2.1 x c e rfl) A (I.il x c e)
 ·obtain⟨e,n,ne,nf,d⟩:=I.pin p J;have h:p.1∉ch:=λz=>(g p.1 z).2.2.2 p J rfl
  exact⟨keep p.1 p.2 ne nf h e n,free p.1 p.2 h e n,ne,nf,d⟩
def Inv.un (I:Inv X pins σ H s)(u:Un X.fs [] H H' s.heap h')(aw:cc X.prog X.w H' h'):Inv X pins σ H' {s with heap:=h',toks:=t'}:=by
 obtain⟨m,⟨o,es,ep,d,r⟩,_⟩:=id I.loc;obtain⟨sl,g⟩:=u.any d I.free (by simp)
 exact I.step (ch:=[]) (λ_ z=>nomatch z) (λb o _ c _ e n=>u.keep b o e n c (by simp)) (λb o _ c _ e n=>u.slot b o e n c (by simp)) (λb o _ e n=>u.free b o e n (by simp)) (λb o _ e=>u.there b o e (by simp)) u.jO u.jr u.jY (λm' h=>by
  obtain⟨o',es',f,a,i⟩:=h;rw[d] at a;obtain rfl:=sO a;exact⟨_,es',f,g,i⟩) aw I.bare
def Inv.call (I:Inv X pins σ H s)(u:Un (i7 X.stack) ch H H' s.heap h')(aw:cc X.prog X.w H' h')(j:Yr g')(d:∀b∈ch,(b∈X.ex\/X.dQ.heap.objs.size<=b)/\b≠X.env.locals/\(∀x c,X.env.cells.lookup x=some c->c≠b)/\∀p∈X.pn++pins,p.1≠b) :
  Inv X pins σ H' {s with heap:=h',gens:=g',drawn:=d',toks:=t'}:=by
 obtain⟨m,⟨o,es,ep,h,r⟩,_⟩:=id I.loc;obtain⟨sl,g⟩:=u.any h I.free λz=>(d _ z).2.1 rfl
 exact I.step d (λb o g k a e n=>u.keep b o e n (λz=>(f'.mp (I.ug b z)).elim g k) a) (λb o _ _ a e n=>u.any e n a) (λb o a e n=>u.free b o e n a) (λb o a e=>u.there b o e a) u.jO u.jr u.jY (λm' l=>by
  obtain⟨o',es',i,f,q⟩:=l;rw[h] at f;obtain rfl:=sO f;exact⟨_,es',i,g,q⟩) aw j
def Inv.turned (I:Inv X pins σ H s)(k:∀b o,b≠it->s.heap.get? b=some o->h'.get? b=some o)(g:H it=none)(f:it≠X.env.locals)(h:it∈X.ex\/X.dQ.heap.objs.size<=it)(i:∀x c,X.env.cells.lookup x=some c->c≠it)(j:∀p∈X.pn++pins,p.1≠it):Inv X pins σ H {s with heap:=h',toks:=t'}:=by
 have d:∀b u,H b=some u->b≠it:=λb u e z=>by rw[z,g] at e;exact nO e
 refine I.step (ch:=[it]) (λb l=>?_) (λb o _ _ a e _=>k b o (λz=>a (by simp[z])) e) (λb o _ _ a e _=>⟨o.slots,k b o (λz=>a (by simp[z])) e⟩) (λ_ _ _ _ n=>n)
  (λb o a e=>⟨o,k b o (λz=>a (by simp[z])) e⟩) (λ_ _ e=>e) (λ_ _ _ e=>e) (λb ps e=>⟨#[],by rw[e];simp⟩) (λm t=>?_) (λb u e=>?_) I.bare
 ·have e:b=it:=by simpa using l
  subst e;exact⟨h,f,i,j⟩
 ·obtain⟨o,w,ep,y,r⟩:=t;exact⟨o,w,ep,k _ o (Ne.symm f) y,r⟩
 ·refine (I.aw b u e).gO (λc v a q=>k c v ?_ q) (λ_ q=>q) λ_ _ q=>q
  rcases a with z|z
  ·rw[z];exact d b u e
  ·exact d c _ z
def Inv.tok(I:Inv X pins σ H s)(t:Nat):Inv X pins σ H {s with toks:=t}:=I.un Un.refl I.aw
def Inv.kept (I:Inv X pins σ H s)(k:∀b u,s.heap.get? b=some u->h'.get? b=some u):Inv X pins σ H {s with heap:=h',toks:=t'}:=I.un (Un.kept k) (I.aw.kept k)
def Inv.laid (I:Inv X pins σ H s)(k:∀b u,s.heap.get? b=some u->h'.get? b=some u)(c:s.heap.objs.size<=a)(d:cO X.prog X.w (upd H a o) h' a o) :
  Inv X pins σ (upd H a o) {s with heap:=h',toks:=t'}:=I.un (Un.laid k c (I.aw.fresh c)) (I.aw.laid k c d)
def Inv.write (I:Inv X pins σ H s)(c:o9 (H x))(d:e=x\/H e=some (.own x))(k:∀b u,b≠e->s.heap.get? b=some u->h'.get? b=some u)(a:∃u,h'.get? e=some u)(f:cO X.prog X.w (upd H x o) h' x o):Inv X pins σ (upd H x o) {s with heap:=h',toks:=t'}:=I.un (Un.write c d k a) (I.aw.write c d k a f)
def Inv.zp (I:Inv X pins σ H s)(h:∀p∈a,s.heap.get? p.1=some p.2/\H p.1=none/\p.1≠X.env.locals/\p.1∉X.fs/\∀v,p.2.data≠.cell v):Inv X a σ H s :=
 ⟨I.ok,I.os,I.bare,I.base,I.loc,I.cell,I.free,I.il,λp b=>(eK.mp b).elim (λz=>I.pin p (ZT _ z)) (h p),I.aw,I.len⟩
def Al{N:List fk}(c:N.Nodup){i j:Nat}{x:fk}(a:N[i]?=some x)(b:N[j]?=some x):i=j:=by
 obtain⟨h1,d⟩:=cn.mp a;obtain⟨h2,e⟩:=cn.mp b;exact (Vb c).mp (d.trans e.symm)
def CY (I:Inv X pins σ H s)(hN:X.N.Nodup)(G:X.N[i]?=some x)(l:Loc X.env.scope x)(r:RelV v u)(h:∀s',Inv X pins (σ.set i (some v)) H s'->(∃a,V3 a s.heap s'.heap/\(a=X.env.locals\/X.env.cells.lookup x=some a))->Q () s')(hf:X.fn x=true\/X.env.scope.names.lookup x=some .local:=by first|exact .inl rfl|exact .inr rfl|assumption):iN M A (storeName X.env x u) Q E s:=by
 obtain⟨m,T,hl⟩:=id I.loc;have U:(X.env.scope.kind==.class||(X.env.scope.kind==.module&&X.env.locals != X.env.globals))=false:=by rw[I.ok.kind];rfl
 have J:i<σ.length:=by rw[I.len];exact (cn.mp G).1
 have jx:=I.jx;have tracked:∀{a:eu}{h':qt},(∃o,s.heap.get? a=some o/\H a=none)->V3 a s.heap h'->cc X.prog X.w H h':=λ{a h'} ha hs b ob e=>by
  obtain⟨_,_,F⟩:=ha;refine (I.aw b ob e).gO (λc L g q=>(hs.2 c ?_).trans q) (λ_ q=>q) λ_ _ q=>q
  rintro rfl
  rcases g with rfl|g
  ·rw[F] at e;exact nO e
  ·rw[F] at g;exact nO g
 rcases l with B|B
 ·refine wpAny_storeName_local B T (λh' Sm hs=>?_) U
  obtain⟨oL,_,_,Sn,_⟩:=id T;refine h _ ⟨I.ok,I.os,I.bare,⟨λb o e n C l=>?_,λb o e n C l=>?_,I.base.free,λb o e l=>?_,I.base.jO,I.base.jr,I.base.jY⟩,⟨_,Sm,λj y W f t Y=>?_⟩,λy c e=>?_,I.free,I.il,λp Z=>?_,tracked ⟨oL,Sn,I.free⟩ hs,by simpa using I.len⟩ ⟨_,hs,.inl rfl⟩
  ·exact (hs.2 b (iW (l5 (gi e) I.ok.above))).trans (I.base.keep b o e n C l)
  ·obtain⟨sl,f⟩:=I.base.slot b o e n C l;exact⟨sl,(hs.2 b (iW (l5 (gi e) I.ok.above))).trans f⟩
  ·obtain⟨o',f⟩:=I.base.there b o e l;exact⟨o',(hs.2 b (iW (l5 (gi e) I.ok.above))).trans f⟩
  ·by_cases D:j=i
   ·subst D;rw[G] at f;obtain rfl:=sO f;rw[o3 J] at t;cases t;exact⟨u,r,.inl ⟨B,by simp⟩⟩
   ·rw[oy (Ne.symm D)] at t;obtain⟨u',r',q⟩:=hl j y W f t Y;refine⟨u',r',?_⟩
    rcases q with⟨k,e⟩|⟨k,c,e,z⟩
    ·refine .inl ⟨k,?_⟩;have:y≠x:=λe=>D (Al hN f (e ▸ G))
     simp[this,e]
    ·exact .inr ⟨k,c,e,z.sameBut hs (jx y c e)⟩
  ·obtain⟨L,z⟩:=I.cell y c e;exact⟨L,z.sameBut hs (jx y c e)⟩
  ·obtain⟨e,n,ne,nf,d⟩:=I.pin p Z;exact⟨(hs.2 p.1 ne).trans e,n,ne,nf,d⟩
 ·have K:X.fn x=true:=by
   rcases hf with z|z
   ·exact z
   ·rw[z] at B;contradiction
  obtain⟨c,g⟩:=I.ok.has x (.inl B);obtain⟨L,z⟩:=I.cell x c g;refine wpAny_storeName_cell I.ok.kind B g z (λh' P hs=>?_)
  obtain⟨oc,R,Sk⟩:=id z;refine h {s with heap:=h'} ⟨I.ok,I.os,I.bare,⟨λb o e n C l=>?_,λb o e n C l=>?_,I.base.free,λb o e l=>?_,I.base.jO,I.base.jr,I.base.jY⟩,⟨m,T.sameBut hs (Ne.symm (jx x c g)),λj y W f t Y=>?_⟩,λy O e=>?_,I.free,I.il,λp Z=>?_,tracked ⟨oc,R,I.il x c g⟩ hs,by simpa using I.len⟩ ⟨c,hs,.inr g⟩
  ·exact (hs.2 b (iW (l5 (gi e) (I.ok.pH x c K g)))).trans (I.base.keep b o e n C l)
  ·obtain⟨sl,f⟩:=I.base.slot b o e n C l;exact⟨sl,(hs.2 b (iW (l5 (gi e) (I.ok.pH x c K g)))).trans f⟩
  ·obtain⟨o',f⟩:=I.base.there b o e l;exact⟨o',(hs.2 b (iW (l5 (gi e) (I.ok.pH x c K g)))).trans f⟩
  ·by_cases D:j=i
   ·subst D;rw[G] at f;obtain rfl:=sO f;rw[o3 J] at t;cases t;exact⟨u,r,.inr ⟨.inl B,c,g,P⟩⟩
   ·rw[oy (Ne.symm D)] at t;obtain⟨u',r',q⟩:=hl j y W f t Y;refine⟨u',r',?_⟩
    rcases q with q|⟨k,O,e,z'⟩
    ·exact .inl q
    ·refine .inr ⟨k,O,e,z'.sameBut hs ?_⟩;rintro rfl;exact D (Al hN f (I.ok.inj _ _ _ e g ▸ G))
  ·by_cases S:O=c
   ·subst S;exact⟨_,P⟩
   ·obtain⟨w2,z2⟩:=I.cell y O e;exact⟨w2,z2.sameBut hs S⟩
  ·obtain⟨e,n,ne,nf,d⟩:=I.pin p Z;refine⟨(hs.2 p.1 ?_).trans e,n,ne,nf,d⟩;intro q;rw[q,R] at e;have q':=Option.some.inj e;exact d L (by rw[<-q'];exact Sk)
def Dv (I:Inv X pins σ H s)(a:X.N.Nodup)(b:X.N[i]?=some x)(c:Loc X.env.scope x)(r:RelV v u)(h:∀s',Inv X pins (σ.set i (some v)) H s'->Q () s')(d:X.fn x=true\/X.env.scope.names.lookup x=some .local:=by first|exact .inl rfl|exact .inr rfl|assumption):iN M A (storeName X.env x u) Q E s :=
 CY I a b c r (λs' e _=>h s' e) d
def Inv.FW (I:Inv X pins σ H s)(d:s'.os=s.os)(u:Un (i7 X.stack) ch H H' s.heap s'.heap)(aw:cc X.prog X.w H' s'.heap)(f:Yr s'.gens)(a:∀b∈ch,(b∈X.ex\/X.dQ.heap.objs.size<=b)/\b≠X.env.locals/\(∀x c,X.env.cells.lookup x=some c->c≠b)/\∀p∈X.pn++pins,p.1≠b):Inv X pins σ H' s':=by
 obtain⟨h',g',d',t',g⟩:=s';have e:=d;subst e;exact I.call u aw f a
end
abbrev XK:=cA->Option eu->Hp->Prop
abbrev St:=List (Option V)
abbrev VK:=V->Hp->Prop
abbrev TE:=St->Hp->VK->Prop
noncomputable abbrev TT:=St->Hp->(Bool->Hp->Prop)->Prop
abbrev TA:=St->Hp->(List V->Hp->Prop)->Prop
structure Ends where
 nx:St->Hp->Prop
 rt:VK
 bk:St->Hp->Prop:=λ_ _=>False
 ct:St->Hp->Prop:=λ_ _=>False
abbrev TS:=Ends->St->Hp->Prop
inductive EP (X:Cx) (pins:List (eu×KX)) (σ:St) (Q:VK) (u:cA) (s':ee):Prop
 | mk (v) (H') (i:Inv X pins σ H' s') (r:RelV v u) (q:Q v H')
def TP(X:Cx)(a:List (eu×KX))(d:St)(Q:Bool->Hp->Prop)(b:Bool)(s':ee):Prop:=∃c,Inv X a d c s'/\Q b c
inductive AP (X:Cx) (pins:List (eu×KX)) (σ:St) (Q:List V->Hp->Prop) (us:List cA) (s':ee):Prop
 | mk (vs) (H') (i:Inv X pins σ H' s') (r:aH vs us) (q:Q vs H')
def SP(X:Cx)(c:List (eu×KX))(D:Ends)(f:Flow)(s':ee):Prop :=
 match f with
 | .next=>∃a b,Inv X c a b s'/\D.nx a b
 | .brk=>∃a b,Inv X c a b s'/\D.bk a b
 | .cont=>∃a b,Inv X c a b s'/\D.ct a b
 | .ret u=>∃v a b,Inv X c a b s'/\RelV v u/\D.rt v b
def PE(X:Cx)(e:hY)(t:TE):Prop :=
 ∀(a:List (eu×KX)) (s:ee) (b:St) (H:Hp) (Q:VK),Inv X a b H s->t b H Q->iN (ma X.prog X.w) X.A (eval e X.env) (EP X a b Q) X.xe s
def PT(X:Cx)(e:hY)(t:TT):Prop :=
 ∀(a:List (eu×KX)) (s:ee) (b:St) (H:Hp) (Q:Bool->Hp->Prop),Inv X a b H s->t b H Q->iN (ma X.prog X.w) X.A (aap e X.env (eval e X.env)) (TP X a b Q) X.xe s
def PW(X:Cx)(e:hY)(t:TT):Prop :=
 ∀(b:Sem cA) (a:List (eu×KX)) (s:ee) (c:St) (H:Hp) (Q:Bool->Hp->Prop),Inv X a c H s->t c H Q->iN (ma X.prog X.w) X.A (aap e X.env b) (TP X a c Q) X.xe s
def PW.pt (h:PW X e t):PT X e t:=h _
def PA(X:Cx)(c:List hY)(t:TA):Prop :=
 ∀(pos:z8) (a:List (eu×KX)) (s:ee) (b:St) (H:Hp) (Q:List V->Hp->Prop),Inv X a b H s->t b H Q->iN (ma X.prog X.w) X.A (spliced (Wf pos (ph c X.env))) (AP X a b Q) X.xe s
def PS(X:Cx)(st:Wt)(t:TS):Prop :=
 ∀(a:List (eu×KX)) (s:ee) (b:St) (H:Hp) (D:Ends),Inv X a b H s->t D b H->iN (ma X.prog X.w) X.A (exec st X.env) (SP X a D) X.xe s
def gZ(X:Cx)(st:List Wt)(t:TS):Prop :=
 ∀(a:List (eu×KX)) (s:ee) (b:St) (H:Hp) (D:Ends),Inv X a b H s->t D b H->iN (ma X.prog X.w) X.A (execs st X.env) (SP X a D) X.xe s
def aG (h:iN M A t Q E s)(d:∀a s,Q a s->c a s):iN M A t c E s:=P' h d λ_ _ x=>x
section
variable{X:Cx}
def yK(i:Nat):TE:=λa H Q=>∃v,a[i]?=some (some v)/\Q v H
def tC(v:V):TE:=λ_ H Q=>Q v H
def fT (k:X.N[i]?=some x)(n:cC X.env.scope x)(hd:bO x:=by decide)(g:dh x:=by decide):PE X (.Name x pos) (yK i):=by
 intro f s o H Q I h;obtain⟨v,e,h⟩:=h;obtain⟨m,p,hl⟩:=I.loc;obtain⟨u,r,l⟩:=hl i x v k e n;have d:EP X f o Q u s:=⟨v,H,I,r,h⟩
 rcases l with⟨a,q⟩|⟨a,c,j,b⟩
 ·exact abb (wpAny_loadName_local I.ok.kind a p q d) hd
 ·rcases a with a|a
  ·exact abb (wpAny_loadName_cell I.ok.kind a j b d) hd
  ·exact abb (wpAny_loadName_free I.ok.kind a j b d g) hd
def NZ{i j pos}:PE X (.Constant (.int i) j pos) (tC (.int i)):=λ_ _ _ H _ I h=>wpAny_Constant_int ⟨.int i,H,I.tok _,⟨_,rfl⟩,h⟩
def R1{b j pos}:PE X (.Constant (.bool b) j pos) (tC (.bl b)):=λ_ _ _ H _ I h=>Constant_bool ⟨.bl b,H,I,rfl,h⟩
def Fi{x j pos}:PE X (.Constant (.str x) j pos) (tC (.str x)):=λ_ _ _ H _ I h=>Calls.Constant_str ⟨.str x,H,I.tok _,⟨_,rfl⟩,h⟩
def Gl(X:Cx)(x:fk):Prop:=X.env.kindOf x=some .globalImplicit
def Bh (I:Inv X a b H s)(c:Gl X x)(d:X.mg x=some u)(h:Q u s)(hd:bO x:=by decide):iN (ma X.prog X.w) X.A (eval (.Name x pos) X.env) Q E s :=
 Y5 I.ok.kind c (Calls.loadGlobal_global (by rw[I.ok.glob];exact I.mod.glob.keeps I.bk) d h) hd
def oh (I:Inv X a b H s)(c:Gl X x)(d:X.mg x=none)(e:C' x=some u)(h:Q u s)(f:x≠"__name__":=by decide)(hd:bO x:=by decide):iN (ma X.prog X.w) X.A (eval (.Name x pos) X.env) Q E s:=by
 obtain⟨mb,g,i⟩:=I.mod.blt;exact Y5 I.ok.kind c (Calls.loadGlobal_builtin (by rw[I.ok.glob];exact I.mod.glob.keeps I.bk) d (by rw[I.ok.blt];exact g.keeps I.bk) ((i x f).trans e) h) hd
def zX (a:Gl X x)(b:X.mg x=some u)(r:RelV v u)(hd:bO x:=by decide):PE X (.Name x pos) (tC v) :=
 λ_ _ _ H _ I h=>Bh I a b ⟨v,H,I,r,h⟩ hd
def P5 (a:Gl X x)(b:X.mg x=none)(c:C' x=some u)(r:RelV v u)(d:x≠"__name__":=by decide)(hd:bO x:=by decide):PE X (.Name x pos) (tC v) :=
 λ_ _ _ H _ I h=>oh I a b c ⟨v,H,I,r,h⟩ d hd
variable{a b:hY}{ta tb:TE}{pos:z8}
variable{tA tB':TT}{rest:List hY}
def Mt(t u:TT):TT:=λd H Q=>t d H λc e=>if c=true then u d e Q else Q false e
def RQ(t u:TT):TT:=λd H Q=>t d H λc e=>if c=true then Q true e else u d e Q
def Gg(t:TT):TT:=λd H Q=>t d H λc e=>Q (!c) e
theorem My(f:PT X a tA):PW X (.BoolOp .And [a] pos) tA:=by
 intro wh d s g H Q I h;refine isTrue_and (aG (f d s g H Q I h) λc s1 e=>?_)
 cases c with
 | true=>exact isTrue_and_nil e
 | false=>exact e
theorem JS(f:PT X a tA):PW X (.BoolOp .Or [a] pos) tA:=by
 intro wh d s g H Q I h;refine isTrue_or (aG (f d s g H Q I h) λc s1 e=>?_)
 cases c with
 | false=>exact isTrue_or_nil e
 | true=>exact e
theorem Jz(j:PT X a tA)(k:PW X (.BoolOp .And (b::rest) pos) tB'):PW X (.BoolOp .And (a::b::rest) pos) (Mt tA tB'):=by
 intro l d s e H Q I h;refine isTrue_and (aG (j d s e H _ I h) λc m ⟨f,g,i⟩=>?_)
 cases c with
 | true=>exact k l d m e f Q g i
 | false=>exact⟨f,g,i⟩
theorem Qy(j:PT X a tA)(k:PW X (.BoolOp .Or (b::rest) pos) tB'):PW X (.BoolOp .Or (a::b::rest) pos) (RQ tA tB'):=by
 intro l d s e H Q I h;refine isTrue_or (aG (j d s e H _ I h) λc m ⟨f,g,i⟩=>?_)
 cases c with
 | true=>exact⟨f,g,i⟩
 | false=>exact k l d m e f Q g i
def Qx(e:PT X a tA):PT X (.UnaryOp .Not a pos) (Gg tA):=by
 intro d s f H Q I h;exact isTrue_not (e d s f H (λc g=>Q (!c) g) I h)
def RJ{op}(h:PE X a t):PE X (.BoolOp op [a] pos) t:=λc s d H Q I hw=>BoolOp_one (h c s d H Q I hw)
end
def cw(K:gj)(H:Hp)(a:eu)(xs:List V):Prop :=
 Rd H a (.lst xs) \/
  ∃(o:KX) (its:Array cA) (n:Nat),K.lookup a=some o/\o.cls=.type "list"/\o.dict=none/\o.data=.seq its n/\its.size<=dk/\aH xs its.toList
def aX(K:gj)(H:Hp)(a:eu)(xs:List V):Prop :=
 Rd H a (.tup xs) \/
  ∃(o:KX) (its:Array cA) (n:Nat),K.lookup a=some o/\o.cls=.type "tuple"/\o.data=.seq its n/\its.size<=dk/\aH xs its.toList
noncomputable def Ji:cA->Option V
 | .none=>some .bj
 | .bool b=>some (.bl b)
 | .int i _=>some (.int i)
 | .str x _=>some (.str x)
 | .bytes b _=>some (.pV b)
 | .float b _=>some (.xw b)
 | .ref a=>some (.ref a)
 | .type n=>some (.ty n)
 | _=>none
theorem RelV.abs (r:RelV x u):Ji u=some x:=by
 cases x with
 | bj=>subst r;rfl
 | bl _=>subst r;rfl
 | int _=>obtain⟨t,rfl⟩:=r;rfl
 | str _=>obtain⟨t,rfl⟩:=r;rfl
 | pV _=>obtain⟨t,rfl⟩:=r;rfl
 | xw _=>obtain⟨t,rfl⟩:=r;rfl
 | ref _=>subst r;rfl
 | ty _=>subst r;rfl
def RelV.inj (r:RelV x u)(q:RelV y u):x=y:=Option.some.inj (r.abs.symm.trans q.abs)
theorem aH.inj (h:aH xs us)(h':aH ys us):xs=ys:=by
 induction h generalizing ys with
 | nil=>cases h';rfl
 | cons r t a =>
  cases h' with
  | cons b t'=>rw[r.inj b,a t']
section
variable{X:Cx}{pins:List (eu×KX)}{σ:St}{H:Hp}{s:ee}{a:eu}{xs ys:List V}{E:cA->ee->Prop}
def cw.of{K:gj}(h:H a=some (.lst xs)):cw K H a xs:=.inl (.inl h)
def aX.of{K:gj}(h:H a=some (.tup xs)):aX K H a xs:=.inl (.inl h)
def Inv.list(I:Inv X pins σ H s)(h:cw X.K H a xs):∃its:List cA,aH xs its/\PlainL s.heap a its.toArray/\xs.length<=sizeLine:=by
 rcases h with h|⟨o,its,n,b,c,hd,hs,hz,r⟩
 ·obtain⟨z,its,n,r,e⟩:=h.ok I.aw;exact⟨its,r,⟨_,n,e,rfl,rfl,rfl⟩,z⟩
 ·refine⟨its.toList,r,⟨o,n,I.gX a o b,c,hd,by simpa using hs⟩,?_⟩
  have e:=r.length;simp at e;lia
def Inv.tuple(I:Inv X pins σ H s)(h:aX X.K H a xs):∃its:List cA,aH xs its/\WQ s.heap a its.toArray/\xs.length<=sizeLine:=by
 rcases h with h|⟨o,its,n,b,c,hs,hz,r⟩
 ·obtain⟨z,its,r,p⟩:=h.ok I.aw;exact⟨its,r,p,z⟩
 ·refine⟨its.toList,r,⟨o,I.gX a o b,c,n,by simpa using hs⟩,?_⟩
  have e:=r.length;simp at e;lia
def Inv.P1(I:Inv X pins σ H s)(h:cw X.K H a xs)(h':cw X.K H a ys):xs=ys:=by
 obtain⟨its,r,⟨o,n,e,_,_,d⟩,_⟩:=I.list h;obtain⟨its',c,⟨o',n',b,_,_,d'⟩,_⟩:=I.list h';rw[e] at b;obtain rfl:=sO b;rw[d] at d';injection d' with f _
 have:its=its':=by simpa using congrArg abk f
 subst this;exact r.inj c
def Inv.GI(I:Inv X pins σ H s)(h:aX X.K H a xs)(h':aX X.K H a ys):xs=ys:=by
 obtain⟨its,r,⟨o,e,_,n,d⟩,_⟩:=I.tuple h;obtain⟨its',c,⟨o',b,_,n',d'⟩,_⟩:=I.tuple h';rw[e] at b;obtain rfl:=sO b;rw[d] at d';injection d' with f _
 have:its=its':=by simpa using congrArg abk f
 subst this;exact r.inj c
abbrev Cx.jC(X:Cx)(E:cA->ee->Prop):Cx:={X with xe:=E}
abbrev Cx.k9(X:Cx):Cx:=X.jC λ_ _=>False
def Cx.Ok.jC (ok:X.Ok)(E:cA->ee->Prop):(X.jC E).Ok :=
 ⟨ok.mod,ok.kind,ok.glob,ok.blt,ok.above,ok.inj,ok.has,ok.pH,ok.hd,ok.frames,ok.sI,ok.Ex,ok.bs,ok.ls,ok.qJ,ok.rh,ok.iS,ok.nq⟩
def Cx.Ok.kL (ok:(X.jC E).Ok):X.Ok :=
 ⟨ok.mod,ok.kind,ok.glob,ok.blt,ok.above,ok.inj,ok.has,ok.pH,ok.hd,ok.frames,ok.sI,ok.Ex,ok.bs,ok.ls,ok.qJ,ok.rh,ok.iS,ok.nq⟩
def Inv.jC(I:Inv X pins σ H s)(E:cA->ee->Prop):Inv (X.jC E) pins σ H s:=⟨I.ok.jC E,I.os,I.bare,I.base,I.loc,I.cell,I.free,I.il,I.pin,I.aw,I.len⟩
def Inv.kL(I:Inv (X.jC E) pins σ H s):Inv X pins σ H s:=⟨I.ok.kL,I.os,I.bare,I.base,I.loc,I.cell,I.free,I.il,I.pin,I.aw,I.len⟩
theorem SP.kL (h:SP (X.jC E) pins D f s'):SP X pins D f s':=by
 cases f with
 | next=>obtain⟨b,c,I,q⟩:=h;exact⟨b,c,I.kL,q⟩
 | brk=>obtain⟨b,c,I,q⟩:=h;exact⟨b,c,I.kL,q⟩
 | cont=>obtain⟨b,c,I,q⟩:=h;exact⟨b,c,I.kL,q⟩
 | ret u=>obtain⟨v,b,c,I,r,q⟩:=h;exact⟨v,b,c,I.kL,r,q⟩
def gZ.k9{st:List Wt}{t:TS}(h:gZ X.k9 st t):gZ X st t:=λpins s σ H D I hw =>
 P' (h pins s σ H D (I.jC _) hw) (λ_ _ q=>q.kL) λ_ _ z=>VB z
end
section
variable{X:Cx}{st:Wt}{rest:List Wt}{t u:TS}{e:hY}{te:TE}{pos:z8}
def RO:TS:=λD a H=>D.nx a H
def QM(t u:TS):TS:=λD a H=>t {D with nx:=u D} a H
def NJ:gZ X [] RO:=λ_ _ a H _ I h=>Zp ⟨a,H,I,h⟩
theorem IH(c:PS X st t)(d:gZ X rest u):gZ X (st::rest) (QM t u):=by
 intro a s g H D I h;refine wpAny_execs_cons (aG (c a s g H {D with nx:=u D} I h) λf i q=>?_)
 cases f with
 | next =>
  obtain⟨b,j,k,q⟩:=q;exact d a i b j D k q
 | ret v=>exact q
 | brk=>exact q
 | cont=>exact q
def Inv.quiet (I:Inv X a b H s):interactive X.env=false:=by simp[interactive,I.ok.kind]
def Rq(te:TE):TS:=λD a H=>te a H λ_ b=>D.nx a b
def JH(c:PE X e te)(hs:P2 e none pos.line X.env=pure false:=by rfl):PS X (.Expr e pos) (Rq te):=by
 intro a s b H D I h;exact wpAny_Expr_any (aG (c a s b H _ I h) λv s1 ⟨x,d,f,r1,g⟩=>⟨b,d,f,g⟩) I.quiet hs
def Kd(te:TE):TS:=λD a H=>te a H D.rt
def Fz(c:PE X e te):PS X (.Return (some e) pos) (Kd te):=by
 intro a s b H D I h;exact wpAny_Return_some (aG (c a s b H _ I h) λv s1 ⟨x,d,f,g,i⟩=>⟨x,b,d,f,g,i⟩)
def J5(c:TT)(t u:TS):TS:=λD a H=>c a H λb d=>if b=true then t D a d else u D a d
theorem ND (m:PT X c tc)(n:gZ X a t)(o:gZ X b u):PS X (.If c a b pos) (J5 tc t u):=by
 intro f s g H D I h;refine wpAny_If (aG (m f s g H _ I h) λd i ⟨j,k,l⟩=>?_)
 cases d with
 | true=>exact n f i g j D k l
 | false=>exact o f i g j D k l
end
abbrev TG:=V->St->Hp->(St->Hp->Prop)->Prop
abbrev ju:=List V->St->Hp->(St->Hp->Prop)->Prop
def PG(X:Cx)(target:hY)(t:TG):Prop :=
 ∀(a:List (eu×KX)) (s:ee) (c:St) (H:Hp) (v:V) (u:cA) (Q:St->Hp->Prop),Inv X a c H s->RelV v u->t v c H Q ->
  iN (ma X.prog X.w) X.A (Wx target X.env u) (λ_ s'=>∃b d,Inv X a b d s'/\Q b d) X.xe s
def nA(X:Cx)(ts:List hY)(t:ju):Prop :=
 ∀(a:List (eu×KX)) (s:ee) (c:St) (H:Hp) (vs:List V) (us:List cA) (Q:St->Hp->Prop),Inv X a c H s->aH vs us->t vs c H Q ->
  iN (ma X.prog X.w) X.A (assignInOrder ((u1 ts X.env).map (·.2)) us) (λ_ s'=>∃b d,Inv X a b d s'/\Q b d) X.xe s
abbrev vC:=V->V->V->Hp->(Hp->Prop)->Prop
def Dl(X:Cx)(t:vC):Prop :=
 ∀(a:List (eu×KX)) (s:ee) (b:St) (H:Hp) (o i v:V) (c d u:cA) (Q:Hp->Prop),Inv X a b H s->RelV o c->RelV i d->RelV v u->t o i v H Q ->
  iN (ma X.prog X.w) X.A (aal c d u) (λ_ s'=>∃e,Inv X a b e s'/\Q e) X.xe s
section
variable{X:Cx}{pos:z8}
def rA(i:Nat):TG:=λv a H Q=>Q (a.set i (some v)) H
def RS (a:X.N.Nodup)(b:X.N[i]?=some x)(c:Loc X.env.scope x)(d:X.fn x=true\/X.env.scope.names.lookup x=some .local:=by first|exact .inl rfl|exact .inr rfl|assumption):PG X (.Name x pos) (rA i):=by
 intro pins s σ H v u Q I r h;exact abm (Dv I a b c r (λs' e=>⟨_,H,e,h⟩) d)
def HA:ju:=λvs a H Q=>vs=[]/\Q a H
def Kf(t:TG)(u:ju):ju:=λvs b H Q=>∃v r,vs=v::r/\t v b H λa c=>u r a c Q
def IP:nA X [] HA:=by
 intro pins s a H vs us Q I r h;obtain⟨e,h⟩:=h;subst e;cases r;exact assignInOrder_nil ⟨a,H,I,h⟩
theorem HY (d:PG X e t)(f:nA X b u)(hs:(u1 (e::b) X.env).map (·.2)=Wx e X.env::(u1 b X.env).map (·.2):=by rfl):nA X (e::b) (Kf t u):=by
 intro a s g H vs us Q I r h;obtain⟨v,vr,i,h⟩:=h;subst i;cases r with
 | cons r j =>
  rw[hs];refine assignInOrder_cons (aG (d a s g H _ _ _ I r h) λ_ k ⟨c,l,m,n⟩=>?_)
  exact f a k c l _ _ Q m j n
def OM(K:gj)(n:Nat)(t:ju):TG:=λv b H Q=>∃a xs,v=.ref a/\aX K H a xs/\xs.length=n/\t xs b H Q
def Nw (j:X.calm=true)(h:nA X d t)(l:(u1 d X.env).length=n:=by rfl)(f:(u1 d X.env).findIdx? (·.1)=none:=by rfl):PG X (.Tuple d k pos) (OM X.K n t):=by
 intro c s g H v u Q I r hw;obtain⟨a,xs,m,p,hl,hw⟩:=hw;subst m;subst r;obtain⟨its,i,q,hz⟩:=I.tuple p;refine assign_Tuple_tuple (I.ok.hd j) q (by simp[l,<-hl,i.length]) f λh' w=>?_
 have x:=I.kept (t':=s.toks) λb o e=>w b o (iW (gi e)) e
 exact h c _ g H xs _ Q x (i) hw
def Jd(to b:TE)(t:vC):TG:=λv a H Q=>to a H λo c=>b a c λi d=>t o i v d λe=>Q a e
def Pc (f:PE X o to)(g:PE X i e)(hs:Dl X t)(j:∀v,Wx (.Subscript o i pos) X.env v=(do
   let b <-V1 [v] (eval o X.env)
   let c <-V1 [v,b] (eval i X.env)
   Zu pos
   V1 [v,b,c] (aal b c v)
   release [v,b,c] []):=by intro _;rfl):PG X (.Subscript o i pos) (Jd to e t):=by
 intro a s d H v u Q I r h;rw[j];refine bt (q0 (aG (f a s d H _ I h) λb k ⟨x,l,m,n,p⟩=>?_))
 refine bt (q0 (aG (g a k d l _ m p) λc q ⟨y,w,z,A,B⟩=>?_))
 refine bt (Yz (bt (q0 (aG (hs a q d w x y v b c u _ z n A r B) λ_ s3 ⟨C,D,E⟩=>?_))))
 exact wpAny_release ⟨d,C,D,E⟩
def w6(te:TE)(g:TG):TS:=λD a H=>te a H λx b=>g x a b D.nx
def zK (d:PE X e te)(f:PG X a g)(hs:XQ [a] e pos.line X.env=pure false:=by rfl)(hw:XR [a] e X.env=pure none:=by rfl)(i:(u1 [a] X.env).map (·.2)=[Wx a X.env]:=by rfl):PS X (.Assign [a] e pos) (w6 te g):=by
 intro b s c H D I h;refine wpAny_Assign_stores (aG (d b s c H _ I h) λv j ⟨x,k,l,m,n⟩=>?_) hs hw
 rw[i];exact aG (f b j c k x v _ l m n) λ_ s2 q=>q
def Lk (c:X.N.Nodup)(d:X.N[i]?=some x)(f:Loc X.env.scope x)(g:PE X e te)(hs:P2 e (some (.Name x a)) pos.line X.env=pure false:=by rfl)(j:X.fn x=true\/X.env.scope.names.lookup x=some .local:=by first|exact .inl rfl|exact .inr rfl|assumption) :
  PS X (.Assign [.Name x a] e pos) (w6 te (rA i)):=by
 intro b s k H D I h;refine wpAny_Assign_Name (aG (g b s k H _ I h) λv s1 ⟨y,l,m,n,o⟩=>?_) hs
 exact Dv m c d f n (λs2 p=>⟨_,l,p,o⟩) j
def QB(c:TT)(h:TS):TS:=λD a H=>∃W:Nat->St->Hp->Prop,(∃m,W m a H)/\∀m a H,W m a H ->
 c a H λb e=>if b=true then ∃N:St->Hp->Prop,(∀d f,N d f->∃g,g<m/\W g d f)/\h {D with nx:=N,ct:=N,bk:=D.nx} a e else D.nx a e
theorem Kb (t:Yq (ma X.prog X.w) X.A X.env X.xe)(C:PT X c tc)(E:gZ X body r):PS X (.While c body [] pos) (QB tc r):=by
 intro d s F H D I h;obtain⟨W,⟨G,J⟩,turn⟩:=h;refine wpAny_While (codeAny_whileLoop (λn s'=>∃k u,Inv X d k u s'/\W n k u) ?_ G ⟨F,H,I,J⟩)
 rintro n K ⟨e,x,L,M⟩;refine VT t (aG (C d K e x _ L (turn n e x M)) λb O ⟨y,z,i⟩=>?_)
 cases b with
 | true =>
  obtain⟨N,B,i⟩:=i;refine VT t (aG (E d O e y _ z i) λf s3 j=>?_)
  cases f with
  | next =>
   obtain⟨a,g,l,m⟩:=j;obtain⟨o,p,q⟩:=B a g m;exact⟨o,p,a,g,l,q⟩
  | cont =>
   obtain⟨a,g,l,m⟩:=j;obtain⟨o,p,q⟩:=B a g m;exact⟨o,p,a,g,l,q⟩
  | brk=>exact j
  | ret v=>exact j
 | false =>
  exact Zp ⟨e,y,z,i⟩
end
structure It where
 go:Nat->Hp->Prop
 ml:Nat->Hp->V->Hp->Prop
 stop:Nat->Hp->Prop
def jd(X:Cx)(a:List (eu×KX))(H:Hp)(b:eu):Prop :=
 H b=none/\b≠X.env.locals/\b∉X.fs/\(b∈X.ex\/X.dQ.heap.objs.size<=b)/\(∀x c,X.env.cells.lookup x=some c->c≠b)/\∀p∈X.pn++a,p.1≠b
def Inv.kG (I:Inv X a g H s)(d:s.heap.objs.size<=b)(h:f b=none):jd X a f b:=by
 refine⟨h,Yw (l5 I.lt d),I.FX d,.inr (wd I.sz d),λx c e z=>?_,λp i z=>?_⟩
 ·obtain⟨v,q⟩:=I.cell x c e;exact absurd (l5 q.lt (by rw[z];exact d)) (za _)
 ·exact absurd (l5 (gi (I.pin p i).1) (by rw[z];exact d)) (za _)
structure Turn (P:lT) (w:px) (K:gj) (tg:hY) (J:It) (fp:List eu) (it:eu) (tn:Nat->qt->Prop):Prop where
 mem:it∈fp
 obj:∀i h,tn i h->∀b∈fp,∃o,h.get? b=some o/\∀v,o.data≠.cell v
 keep:∀i h h',tn i h->(∀b∈fp,∀o,h.get? b=some o->h'.get? b=some o)->tn i h'
 item:∀(X:Cx),X.prog=P->X.w=w->X.K=K->X.calm=true->∀(i:Nat) (pins:List (eu×KX)) (s:ee) (σ:St) (H:Hp) (E:cA->ee->Prop),Inv X pins σ H s->(∀b∈fp,jd X pins H b)->tn i s.heap->J.go i H ->
  iN (ma P w) X.A (Xv (.ref it)) (λr s1=>∃u,r=some u /\
   iN (ma P w) X.A (X9 tg (.ref it) u) (λ_ s2=>∃x H',Inv X pins σ H' s2/\RelV x u/\J.ml i H x H'/\tn (i+1) s2.heap/\∀b∈fp,H' b=none) E s1) E s
 done:∀(X:Cx),X.prog=P->X.w=w->X.K=K->X.calm=true->∀(i:Nat) (pins:List (eu×KX)) (s:ee) (σ:St) (H:Hp) (E:cA->ee->Prop),Inv X pins σ H s->(∀b∈fp,jd X pins H b)->tn i s.heap->J.stop i H ->
  iN (ma P w) X.A (Xv (.ref it)) (λr s1=>r=none/\Inv X pins σ H s1) E s
 self:∀(A:r0) (i:Nat) (s:ee) (Q:cA->ee->Prop) (E:cA->ee->Prop),tn i s.heap->Q (.ref it) s->iN (ma P w) A (abd (.ref it)) Q E s
abbrev TI:=St->Hp->(It->Hp->Prop)->Prop
def A3(X:Cx)(a:List (eu×KX))(h:St)(i:hY)(R:It->Hp->Prop)(d:cA)(e:ee):Prop :=
 ∃(it:eu) (f:List eu) (g:Nat->qt->Prop) (J:It) (c:Hp),d=.ref it/\Inv X a h c e/\Turn X.prog X.w X.K i J f it g/\g 0 e.heap/\(∀b∈f,jd X a c b)/\R J c
def PI(X:Cx)(c iter:hY)(d:TI):Prop :=
 ∀(a:List (eu×KX)) (s:ee) (b:St) (H:Hp) (R:It->Hp->Prop),Inv X a b H s->d b H R ->
  iN (ma X.prog X.w) X.A (eval iter X.env) (λv e=>iN (ma X.prog X.w) X.A (abd v) (A3 X a b c R) X.xe e) X.xe s
theorem nj (c:s.heap.get? it=some o)(d:o.cls=.type n)(hd:o.data=.fields vs)(e:["enumerate","zip","dict_itemiterator","dict_reverseitemiterator","odict_iterator","itertools.zip_longest","itertools.pairwise"].contains n=false)(a:Q () s):iN M A (X9 b (.ref it) u) Q E s:=by
  cases b<;>first
    | exact eR a
    | (cases u<;>first
        | exact eR a
        | (refine bt (wpAny_load c ?_)
           rw[d,hd];show iN M A (if (["enumerate","zip","dict_itemiterator","dict_reverseitemiterator","odict_iterator","itertools.zip_longest","itertools.pairwise"].contains n&&vs[0]?==some (aan _))=true then _ else _) Q E s
           rw[if_neg (by intro h;rw[e,Zb] at h;contradiction)]
           exact eR a))
noncomputable def zw(K:gj)(a:eu):It :=
 ⟨λi H=>∃xs x,cw K H a xs/\xs[i]?=some x,λi H x b=>b=H/\∀xs,cw K H a xs->xs[i]?=some x,λi H=>∃xs,cw K H a xs/\xs.length<=i⟩
noncomputable def ES(K:gj)(a:eu):It :=
 ⟨λi H=>∃xs x,aX K H a xs/\xs[i]?=some x,λi H x b=>b=H/\∀xs,aX K H a xs->xs[i]?=some x,λi H=>∃xs,aX K H a xs/\xs.length<=i⟩
noncomputable def oK(lo:Int)(n:Nat):It:=⟨λi _=>i<n,λi H x a=>a=H/\x=.int (lo+i),λi _=>n<=i⟩
def Oo{P:lT}{w:px}{K:gj}{L:hY}(a it:eu):Turn P w K L (zw K a) [it] it (λi h=>h.IsListIter it a i) where
 mem:=by simp
 obj:=λi h st b f=>by
  have e:b=it:=by simpa using f
  subst e;obtain⟨o,e,c,d⟩:=st;exact⟨o,e,λv z=>by rw[d] at z;contradiction⟩
 keep:=λi h h' st k=>st.at λo e=>k it (by simp) o e
 item:=by
  intro X n hw q G i g s J H E I j st r;subst n hw q;obtain⟨xs,x,l,t⟩:=r;obtain⟨its,y,p,M⟩:=I.list l;obtain⟨u,N,O⟩:=y.get t;obtain⟨A,B,Q,C,D,F⟩:=j it (by simp)
  refine wpAny_pyNext_list_item st p.isList (by simpa using N) λh' m R=>?_
  have S:=I.turned (t':=s.toks) (λb o f e=>(R.2 b f).trans e) A B C D F
  obtain⟨o,e,c,d⟩:=id m;exact⟨u,rfl,nj e c d rfl ⟨x,H,S,O,⟨rfl,λys T=>by rw[I.P1 T l];exact t⟩,m,λb f=>(j b f).1⟩⟩
 done:=by
  intro X n hw q G i g s J H E I j st r;subst n hw q;obtain⟨xs,l,t⟩:=r;obtain⟨its,y,p,M⟩:=I.list l;obtain⟨A,B,Q,C,D,F⟩:=j it (by simp)
  have hl:=y.length;exact wpAny_pyNext_list_end (I.ok.hd G) st p.isList (by simp;omega) λh' U=>⟨rfl,I.turned (λb o f e=>U b o f e) A B C D F⟩
 self:=λ_ _ _ _ _ st h=>wpAny_pyIter_listiter st h
def N1{P:lT}{w:px}{K:gj}{L:hY}(a it:eu):Turn P w K L (ES K a) [it] it (λi h=>h.IsTupleIter it a i) where
 mem:=by simp
 obj:=λi h st b f=>by
  have e:b=it:=by simpa using f
  subst e;obtain⟨o,e,c,d⟩:=st;exact⟨o,e,λv z=>by rw[d] at z;contradiction⟩
 keep:=λi h h' st k=>st.at λo e=>k it (by simp) o e
 item:=by
  intro X n hw q G i g s J H E I j st r;subst n hw q;obtain⟨xs,x,l,t⟩:=r;obtain⟨its,y,p,M⟩:=I.tuple l;obtain⟨u,N,O⟩:=y.get t;obtain⟨A,B,Q,C,D,F⟩:=j it (by simp)
  refine wpAny_pyNext_tuple_item st (p) (by simpa using N) λh' m R=>?_
  have S:=I.turned (t':=s.toks) (λb o f e=>(R.2 b f).trans e) A B C D F
  obtain⟨o,e,c,d⟩:=id m;exact⟨u,rfl,nj e c d rfl ⟨x,H,S,O,⟨rfl,λys T=>by rw[I.GI T l];exact t⟩,m,λb f=>(j b f).1⟩⟩
 done:=by
  intro X n hw q G i g s J H E I j st r;subst n hw q;obtain⟨xs,l,t⟩:=r;obtain⟨its,y,p,M⟩:=I.tuple l;obtain⟨A,B,Q,C,D,F⟩:=j it (by simp)
  have hl:=y.length;exact wpAny_pyNext_tuple_end (I.ok.hd G) st (p) (by simp;omega) λh' U=>⟨rfl,I.turned (λb o f e=>U b o f e) A B C D F⟩
 self:=λ_ _ _ _ _ st h=>wpAny_pyIter_tupleiter st h
def Pl{P:lT}{w:px}{K:gj}{A:hY}(it:eu)(lo:Int)(n:Nat):Turn P w K A (oK lo n) [it] it (λi h=>IsRangeIter h it (lo+(i:Nat)*1) ((n:Int)-(i:Nat)) 1) where
 mem:=by simp
 obj:=λi h st b a=>by
  have e:b=it:=by simpa using a
  subst e;exact⟨_,st,λv z=>by
   have z':Data.fields _=Data.cell v:=z;contradiction⟩
 keep:=λi h h' st k=>k it (by simp) _ st
 item:=by
  intro X g hw j l i c s y H E I d st m;subst g hw j;obtain⟨p,q,B,r,u,x⟩:=d it (by simp)
  have W:=Walks.range (prog:=X.prog) (w:=X.w) (I.ok.hd l) it lo 1 n;refine W.item i s _ _ m st λv h' tk C f D=>?_
  obtain⟨t,rfl⟩:=C;have F:Inv X c y H {s with heap:=h',toks:=tk}:=I.turned (λb o a e=>D b o (by simpa using a) e) p q r u x
  refine⟨_,rfl,nj f rfl rfl rfl ⟨.int (lo+i),H,F,⟨t,?_⟩,⟨rfl,rfl⟩,f,λb a=>(d b a).1⟩⟩
  rw[Int.mul_one]
 done:=by
  intro X g hw j l i c s y H E I d st m;obtain⟨p,q,B,r,u,x⟩:=d it (by simp)
  exact wpAny_pyNext_range_end (I.ok.hd l) st (by have:n<=i:=m;omega) λh' G=>⟨rfl,I.turned (λb o a e=>G b o a e) p q r u x⟩
 self:=λ_ _ _ _ _ st h=>wpAny_pyIter_rangeiter st h
section
variable{X:Cx}{tg:hY}
def Gw(K:gj)(c:TE):TI:=λd H R=>c d H λx b=>∃a,x=.ref a/\(∃xs,cw K b a xs)/\R (zw K a) b
def Pu(K:gj)(c:TE):TI:=λd H R=>c d H λx b=>∃a,x=.ref a/\(∃xs,aX K b a xs)/\R (ES K a) b
def NP (hl:PE X l g):PI X tg l (Gw X.K g):=by
 intro f s i H R I h;refine aG (hl f s i H _ I h) λv c ⟨x,j,d,k,m⟩=>?_
 obtain⟨a,e,⟨xs,n⟩,q⟩:=m;subst e;subst k;obtain⟨its,rv,p,hz⟩:=d.list n;refine V0 p.isList ?_;refine⟨c.heap.objs.size,[c.heap.objs.size],_,_,j,rfl,d.kept λb o e=>fj _ e,Oo a _,⟨_,k5 _ rfl,rfl,rfl⟩,λb r=>?_,q⟩
 have e:b=c.heap.objs.size:=by simpa using r
 subst e;exact d.kG (eT _) (d.aw.fresh (eT _))
def Mf (hl:PE X l g):PI X tg l (Pu X.K g):=by
 intro f s i H R I h;refine aG (hl f s i H _ I h) λv c ⟨x,j,d,k,m⟩=>?_
 obtain⟨a,e,⟨xs,n⟩,q⟩:=m;subst e;subst k;obtain⟨its,rv,p,hz⟩:=d.tuple n;refine wpAny_pyIter_tuple (p) ?_
 refine⟨c.heap.objs.size,[c.heap.objs.size],_,_,j,rfl,d.kept λb o e=>fj _ e,N1 a _,⟨_,k5 _ rfl,rfl,rfl⟩,λb r=>?_,q⟩
 have e:b=c.heap.objs.size:=by simpa using r
 subst e;exact d.kG (eT _) (d.aw.fresh (eT _))
def zB{c:List (eu×KX)}{d:St}{H:Hp}{s:ee}{R:It->Hp->Prop}{E:cA->ee->Prop}{lo a:Int}{t u v:Tok}{tk:Nat}(I:Inv X c d H s)(g:-(2 ^ 62)<=lo)(h:lo<2 ^ 62)(i:-(2 ^ 62)<=a)(j:a<2 ^ 62)
 (q:R (oK lo (a-lo).toNat) H):iN (ma X.prog X.w) X.A (abd (.ref s.heap.objs.size)) (A3 X c d tg R) E {s with heap:=s.heap.push {cls:=.type "range",data:=.fields #[.int lo t,.int a u,.int 1 v]},toks:=tk}:=by
 refine wpAny_pyIter_range (IsRange.new ..) (small_one g h i j) ?_;have f:Inv X c d H {s with heap:=s.heap.push {cls:=.type "range",data:=.fields #[.int lo t,.int a u,.int 1 v]},toks:=tk}:=I.kept λb o e=>fj _ e
 refine⟨(s.heap.push {cls:=.type "range",data:=.fields #[.int lo t,.int a u,.int 1 v]}).objs.size,[(s.heap.push {cls:=.type "range",data:=.fields #[.int lo t,.int a u,.int 1 v]}).objs.size],_,_,H,rfl,
  f.kept λb o e=>fj _ e,Pl _ lo (a-lo).toNat,?_,λb k=>?_,q⟩
 ·have l:lo+((0:Nat):Int)*1=lo:=by simp
  have m:(((a-lo).toNat:Nat):Int)-((0:Nat):Int)=abL lo a 1:=by rw[rangeSize_one];split<;>omega
  rw[l,m];exact k5 _ rfl
 ·have e:b=(s.heap.push {cls:=.type "range",data:=.fields #[.int lo t,.int a u,.int 1 v]}).objs.size:=by simpa using k
  subst e;exact f.kG (eT _) (f.aw.fresh (eT _))
def P0(a:TA):TI:=λb H R=>a b H λvs c=>∃j:Int,vs=[.int j]/\-(2 ^ 62)<=j/\j<2 ^ 62/\R (oK 0 j.toNat) c
def NL(a:TA):TI:=λb H R=>a b H λvs c=>∃i j:Int,vs=[.int i,.int j]/\(-(2 ^ 62)<=i/\i<2 ^ 62/\-(2 ^ 62)<=j/\j<2 ^ 62)/\R (oK i (j-i).toNat) c
theorem Nt (f:Gl X "range")(g:X.mg "range"=none)(i:PA X [a] d)(hs:ph [a] X.env=[(false,eval a X.env)]:=by rfl):PI X tg (.Call (.Name "range" p) [a] [] pos) (P0 d):=by
 intro b s k H R I h;refine Call_ (oh I f g boot_range (Vw (aG (i pos b s k H _ I h) λus s1 ⟨vs,H1,l,m,c⟩=>?_) hs rfl))
 obtain⟨j,e,c,n,q⟩:=c;subst e;cases m with
 | cons r o =>
  cases o;obtain⟨t,rfl⟩:=r;exact call_range_1 (zB l (by lia) (by lia) c n (by simpa using q))
theorem FO (l:Gl X "range")(m:X.mg "range"=none)(n:PA X [a,b] k)(hs:ph [a,b] X.env=[(false,eval a X.env),(false,eval b X.env)]:=by rfl)(c:ph [b] X.env=[(false,eval b X.env)]:=by rfl) :
  PI X tg (.Call (.Name "range" p) [a,b] [] pos) (NL k):=by
 intro d s o H R I h;refine Call_ (oh I l m boot_range (Vw (aG (n pos d s o H _ I h) λus s1 ⟨vs,H1,u,v,f⟩=>?_) (by rw[hs,c]) (by rw[c];rfl)))
 obtain⟨i,j,e,⟨f,w,x,y⟩,q⟩:=f;subst e;cases v with
 | cons r g =>
  cases g with
  | cons z g =>
   cases g;obtain⟨t,rfl⟩:=r;obtain⟨t',rfl⟩:=z;exact call_range_2 (zB u f w x y q)
def Pf(f:TI)(g:TG)(h:TS):TS:=λD a H=>f a H λJ j=>∃W:Nat->Nat->St->Hp->Prop,(∃m,W 0 m a j)/\∀i m a H,W i m a H ->
 (J.stop i H/\D.nx a H)\/(J.go i H/\∃N:St->Hp->Prop,(∀c b,N c b->∃d,d<m/\W (i+1) d c b)/\∀x b,J.ml i H x b->g x a b λe k=>h {D with nx:=N,ct:=N,bk:=D.nx} e k)
noncomputable def pG(a:List eu)(h:qt):List (eu×KX):=a.filterMap λb=>(h.get? b).map λo=>(b,o)
def tZ (c:b∈a)(e:h.get? b=some o):(b,o)∈pG a h:=Wm.mpr ⟨b,c,by rw[e];rfl⟩
theorem Jv (c:p∈pG a h):p.1∈a/\h.get? p.1=some p.2:=by
 obtain⟨b,d,e⟩:=Wm.mp c;cases q:h.get? b with
 | none=>rw[q] at e;exact nO e
 | some o =>
  rw[q] at e;have f:=Option.some.inj e;subst f;exact⟨d,q⟩
def Inv.pinned (I:Inv X a f H s)(i:∀b∈c,jd X a H b)(j:∀b∈c,∃o,s.heap.get? b=some o/\∀v,o.data≠.cell v):Inv X (a++pG c s.heap) f H s :=
 I.zp λp k=>(eK.mp k).elim (λz=>I.pin p (tm _ z)) λz=>by
  obtain⟨g,e⟩:=Jv z;obtain⟨l,m,n,_⟩:=i p.1 g;obtain⟨o,h,d⟩:=j p.1 g;rw[e] at h;obtain rfl:=sO h;exact⟨e,l,m,n,d⟩
def Inv.ui (I:Inv X (a++c) b H s):Inv X a b H s:=I.zp λp d=>I.pin p (tm _ (ZT _ d))
theorem Hu (B:Yq (ma X.prog X.w) X.A X.env X.xe)(R:X.calm=true)(hi:PI X tg iter P)(hg:PG X tg g)(j:gZ X body Q)(hs:∀x,wy iter X.env x=pure x:=by intro _;rfl):PS X (.For tg iter body [] pos) (Pf P g Q):=by
 intro c s S H D I h;refine wpAny_For (aG (hi c s S H _ I h) λv s1 h1=>aG h1 λitv s2 h2=>?_) hs
 obtain⟨it,C,U,J,H2,e,I2,T,V,Y,W,⟨m0,w0⟩,turn⟩:=h2;subst e;have z:∀{p:Hp},(∀b∈C,p b=none)->∀b∈C,jd X c p b:=λhn b j=>⟨hn b j,(Y b j).2⟩
 refine codeAny_forLoop_any (λn s'=>∃i q p,Inv X c q p s'/\U i s'.heap/\(∀b∈C,p b=none)/\W i n q p) ?_ m0 ⟨0,S,H2,I2,V,λb j=>(Y b j).1,w0⟩
 rintro n Z ⟨i,t,G,I3,K,L,w3⟩
 rcases turn i n t G w3 with⟨stop,qn⟩|⟨go,N,hN,step⟩
 ·refine VT B (aG (T.done X rfl rfl rfl R i c Z t G X.xe I3 (z L) K stop) λr s4 ⟨M,I4⟩=>?_)
  subst M;exact Zp ⟨t,G,I4,qn⟩
 ·refine VT B (aG (T.item X rfl rfl rfl R i c Z t G X.xe I3 (z L) K go) λr s4 ⟨u,M,h4⟩=>?_)
  subst M;refine VT B (aG h4 λ_ s5 ⟨x,H5,I5,r5,y5,E,Sj⟩=>?_)
  have Sk:=I5.pinned (z Sj) (T.obj _ _ E);refine VT B (aG (hg _ s5 t H5 x u _ Sk r5 (step x H5 y5)) λ_ s6 ⟨Sl,H6,I6,q6⟩=>?_)
  refine VT B (aG (j _ s6 Sl H6 _ I6 q6) λf O y=>?_)
  have again:∀{a:St}{k:Hp},Inv X (c++pG C s5.heap) a k O->N a k->∃m,m<n/\∃i q p,Inv X c q p O/\U i O.heap/\(∀b∈C,p b=none)/\W i m q p:=λ{a k} l F=>by
   obtain⟨m',hm,w7⟩:=hN a k F;refine⟨m',hm,i+1,a,k,l.ui,T.keep _ _ _ E λb j o e=>(l.pin (b,o) (tm _ (tm _ (tZ j e)))).1,λb j=>?_,w7⟩
   obtain⟨o,e,d⟩:=T.obj _ _ E b j;exact (l.pin (b,o) (tm _ (tm _ (tZ j e)))).2.1
  cases f with
  | next=>obtain⟨a,k,l,F⟩:=y;exact again l F
  | cont=>obtain⟨a,k,l,F⟩:=y;exact again l F
  | brk=>obtain⟨a,k,l,y⟩:=y;exact⟨a,k,l.ui,y⟩
  | ret v=>obtain⟨x7,a,k,l,r7,y⟩:=y;exact⟨x7,a,k,l.ui,r7,y⟩
end
abbrev R2:=V->V->Hp->VK->Prop
def aO(X:Cx)(f:cA->cA->Sem cA)(r:R2):Prop :=
 ∀(a:List (eu×KX)) (s:ee) (b:St) (H:Hp) (x y:V) (v u:cA) (Q:VK),Inv X a b H s->RelV x v->RelV y u->r x y H Q ->
  iN (ma X.prog X.w) X.A (f v u) (EP X a b Q) X.xe s
def vW(X:Cx)(f:cA->Sem cA)(r:V->Hp->VK->Prop):Prop :=
 ∀(a:List (eu×KX)) (s:ee) (b:St) (H:Hp) (x:V) (v:cA) (Q:VK),Inv X a b H s->RelV x v->r x H Q ->
  iN (ma X.prog X.w) X.A (f v) (EP X a b Q) X.xe s
def bN(X:Cx)(f:cA)(r:List V->Hp->VK->Prop):Prop :=
 ∀(a:List (eu×KX)) (s:ee) (b:St) (H:Hp) (xs:List V) (us:List cA) (Q:VK),Inv X a b H s->aH xs us->r xs H Q ->
  iN (ma X.prog X.w) X.A (call f us) (EP X a b Q) X.xe s
def LN(X:Cx)(r:V->Hp->(Bool->Hp->Prop)->Prop):Prop :=
 ∀(a:List (eu×KX)) (s:ee) (b:St) (H:Hp) (x:V) (v:cA) (Q:Bool->Hp->Prop),Inv X a b H s->RelV x v->r x H Q ->
  iN (ma X.prog X.w) X.A (truthy v) (TP X a b Q) X.xe s
def nM(r:R2)(b c:TE):TE:=λa H Q=>b a H λx d=>c a d λy e=>r x y e Q
def Gh(r:V->Hp->VK->Prop)(a:TE):TE:=λb H Q=>a b H λx c=>r x c Q
def rI(C:Int->Int->Prop)(g:Int->Int->V):R2:=λx y H Q=>∃i j,x=.int i/\y=.int j/\C i j/\Q (g i j) H
def iD(g:Int->Int->V):R2:=λx y H Q=>∃i j,x=.int i/\y=.int j/\Q (g i j) H
def rU(g:Int->V):V->Hp->VK->Prop:=λx H Q=>∃i,x=.int i/\Q (g i) H
section
variable{X:Cx}{a b c:hY}{ta tb tc:TE}{pos:z8}
def yy(m:PE X a ta)(n:PE X b tb){R:V->V->Hp->Prop}(I:Inv X d e H s)(h:ta e H λx j=>tb e j λy g=>R x y g){Q:cA->ee->Prop}{f:cA->cA->Sem cA}(o:∀v u i x y g,Inv X d e g i->RelV x v->RelV y u->R x y g->iN (ma X.prog X.w) X.A (f v u) Q X.xe i) :
  iN (ma X.prog X.w) X.A (eval a X.env) (λv k=>iN (ma X.prog X.w) X.A (eval b X.env) (λu l=>iN (ma X.prog X.w) X.A (f v u) Q X.xe l) X.xe k) X.xe s:=by
 refine aG (m d s e H _ I h) λv p ⟨x,j,q,r,t⟩=>?_
 refine aG (n d p e j _ q t) λu i ⟨y,g,z,B,C⟩=>?_
 exact o v u i x y g z r B C
def Mo (e:aO X (VE op) r)(f:PE X a ta)(g:PE X b tb):PE X (.BinOp a op b pos) (nM r ta tb):=by
 intro d s i H Q I h;exact wpAny_BinOp (yy f g I h λv u j x y k l m n q=>e d j i k x y v u Q l m n q)
def Hb (f:vW X (unaryOp op) r)(g:PE X a ta):PE X (.UnaryOp op a pos) (Gh r ta):=by
 intro d s e H Q I h;exact UnaryOp_ (aG (g d s e H _ I h) λv i ⟨x,j,k,l,m⟩=>f d i e j x v Q k l m)
def qW{f:cA->cA->Sem cA}{C:Int->Int->Prop}{g:Int->Int->Int}
 (rule:∀(i j:Int) (t u:Tok) (s:ee) (Q:cA->ee->Prop) (E:cA->ee->Prop),C i j->Q (.int (g i j) s.toks) {s with toks:=s.toks+1}->iN (ma X.prog X.w) X.A (f (.int i t) (.int j u)) Q E s) :
  aO X f (rI C λi j=>.int (g i j)):=by
 intro pins s σ H x y v u Q I d e h;obtain⟨i,j,rfl,rfl,k,q⟩:=h;obtain⟨t,rfl⟩:=d;obtain⟨t',rfl⟩:=e;exact rule i j t t' s _ _ k ⟨.int (g i j),H,I.tok _,⟨_,rfl⟩,q⟩
def zC{f:cA->cA->Sem cA}{g:Int->Int->Int}
 (rule:∀(i j:Int) (t u:Tok) (s:ee) (Q:cA->ee->Prop) (E:cA->ee->Prop),Q (.int (g i j) s.toks) {s with toks:=s.toks+1}->iN (ma X.prog X.w) X.A (f (.int i t) (.int j u)) Q E s) :
  aO X f (iD λi j=>.int (g i j)):=by
 intro pins s σ H x y v u Q I d e h;obtain⟨i,j,rfl,rfl,q⟩:=h;obtain⟨t,rfl⟩:=d;obtain⟨t',rfl⟩:=e;exact rule i j t t' s _ _ ⟨.int (g i j),H,I.tok _,⟨_,rfl⟩,q⟩
def sf{f:cA->cA->Sem cA}{g:Int->Int->Bool}
 (rule:∀(i j:Int) (t u:Tok) (s:ee) (Q:cA->ee->Prop) (E:cA->ee->Prop),Q (.bool (g i j)) s->iN (ma X.prog X.w) X.A (f (.int i t) (.int j u)) Q E s) :
  aO X f (iD λi j=>.bl (g i j)):=by
 intro pins s σ H x y v u Q I d e h;obtain⟨i,j,rfl,rfl,q⟩:=h;obtain⟨t,rfl⟩:=d;obtain⟨t',rfl⟩:=e;exact rule i j t t' s _ _ ⟨.bl (g i j),H,I,rfl,q⟩
def Ho(i j:Int):Prop:=0<=j/\j<=1000000/\i.natAbs<2 ^ 64
def L9:aO X (VE .Add) (iD λi j=>.int (i+j)):=zC λ_ _ _ _ _ _ _ q=>add_int q
def FZ:aO X (VE .Sub) (iD λi j=>.int (i-j)):=zC λ_ _ _ _ _ _ _ q=>sub_int q
def Nm:aO X (VE .Mod) (rI (λ_ j=>0<j) λi j=>.int (i%j)):=qW λi j _ _ _ _ _ d q=>by
 exact mod_int' (by lia) (by rw[Int.fmod_eq_emod_of_nonneg i (by lia)];exact q)
def JA:aO X (VE .Pow) (rI Ho λi j=>.int (i ^ j.toNat)):=qW λ_ _ _ _ _ _ _ d q=>pow_int_small d.1 d.2.1 d.2.2 q
def IY{f:cA->Sem cA}{g:Int->Int}
 (rule:∀(i:Int) (t:Tok) (s:ee) (Q:cA->ee->Prop) (E:cA->ee->Prop),Q (.int (g i) s.toks) {s with toks:=s.toks+1}->iN (ma X.prog X.w) X.A (f (.int i t)) Q E s) :
  vW X f (rU λi=>.int (g i)):=by
 intro pins s σ H x v Q I d h;obtain⟨i,rfl,q⟩:=h;obtain⟨t,rfl⟩:=d;exact rule i t s _ _ ⟨.int (g i),H,I.tok _,⟨_,rfl⟩,q⟩
def Ip:vW X (unaryOp .USub) (rU λi=>.int (-i)):=IY λ_ _ _ _ _ q=>neg_int q
def tO (I:Inv X d f H s)(q:Q (.bl k) H)(e:k=g):EP X d f Q (.bool g) s:=by
 subst e;exact⟨.bl k,H,I,rfl,q⟩
def DJ:aO X (n5 .Lt) (iD λi j=>.bl (decide (i<j))):=sf λ_ _ _ _ _ _ _ q=>lt_int q
def Ro:aO X (n5 .LtE) (iD λi j=>.bl (decide (i<=j))):=sf λ_ _ _ _ _ _ _ q=>le_int q
def FF:aO X (n5 .Gt) (iD λi j=>.bl (decide (j<i))):=sf λ_ _ _ _ _ _ _ q=>gt_int q
def Jc:aO X (n5 .GtE) (iD λi j=>.bl (decide (j<=i))):=sf λ_ _ _ _ _ _ _ q=>ge_int q
def yW:aO X (n5 .Lt) (λx y H Q=>∃i j,x=.str i/\y=.str j/\Q (.bl (decide (i.cps.toList<j.cps.toList))) H):=by
 intro pins s σ H x y v u Q I d e h;obtain⟨i,j,rfl,rfl,q⟩:=h;obtain⟨t,rfl⟩:=d;obtain⟨t',rfl⟩:=e;exact lt_str (tO I q rfl)
def Ih:aO X (n5 .In) (λx y H Q=>∃i j,x=.str i/\y=.str j/\Q (.bl (!(z5 j i 0 j.length 1).isEmpty)) H):=by
 intro pins s σ H x y v u Q I d e h;obtain⟨i,j,rfl,rfl,q⟩:=h;obtain⟨t,rfl⟩:=d;obtain⟨t',rfl⟩:=e;exact in_str (tO I q rfl)
def aO.or (h:aO X f r)(h':aO X f e):aO X f (λx y H Q=>r x y H Q\/e x y H Q):=by
 intro d s g H x y v u Q I i j q
 rcases q with q|q
 ·exact h d s g H x y v u Q I i j q
 ·exact h' d s g H x y v u Q I i j q
def jR(b)(h:op≠.In:=by decide)(d:op≠.NotIn:=by decide):zI op b=false:=by
 have e:(op==CmpOp.In)=false:=by cases op<;>first|rfl|exact absurd rfl h
 have f:(op==CmpOp.NotIn)=false:=by cases op<;>first|rfl|exact absurd rfl d
 cases b<;>simp[zI,e,f]
def Co (e:aO X (n5 op) r)(f:PE X a ta)(g:PE X b tb)(i:zI op b=false):PE X (.Compare a [op] [b] pos) (nM r ta tb):=by
 intro d s j H Q I h;exact wpAny_Compare1 (yy f g I h λv u k x y l m n o q=>e d k j l x y v u Q m n o q) i
def xu(t:TE):TT:=λd H Q=>t d H λx e=>∃k,x=.bl k/\Q k e
def yG (g:aO X (n5 op) r)(i:PE X a ta)(j:PE X b tb)(l:zI op b=false):PT X (.Compare a [op] [b] pos) (xu (nM r ta tb)):=by
 intro d s f H Q I h;refine wpAny_isTrue_Compare1 (aG (i d s f H _ I h) λv m ⟨x,n,o,p,q⟩=>aG (j d m f n _ o q) λu t ⟨y,w,A,B,C⟩ =>
  aG (g d t f w x y v u _ A p B C) λc s3 ⟨z,D,E,F,k,e,G⟩=>?_) l
 subst e;subst F;exact Vr ⟨D,E,G⟩
def uu(r f:R2)(ta tb tc:TE):TE:=λd H Q=>ta d H λx g=>tb d g λy h=>r x y h λz e=>∃k,z=.bl k /\
 (if k=true then tc d e λi j=>f y i j Q else Q (.bl false) e)
theorem PR (q:aO X (n5 op) r)(l:aO X (n5 g) j)(t:PE X a ta)(w:PE X b tb)(A:PE X c tc)(B:Yo [op,g] [b,c]=false:=by with_unfolding_all rfl):PE X (.Compare a [op,g] [b,c] pos) (uu r j ta tb tc):=by
 intro f s i H Q I h;refine Compare_chain (aG (t f s i H _ I h) λv C ⟨x,D,E,F,G⟩=>chain_link (aG (w f C i D _ E G) λu J ⟨y,K,L,m,M⟩ =>
  aG (q f J i K x y v u _ L F m M) λd N ⟨z,n,o,O,k,e,p⟩=>?_)) B
 subst e;subst O;refine Vr ?_;cases k with
 | false=>exact ite_ff ⟨.bl false,n,o,rfl,p⟩
 | true=>exact ite_tt (chain_last (aG (A f N i n _ o p) λP R ⟨S,T,U,V,W⟩=>l f R i T y S u P Q U m V W))
theorem Rm (q:aO X (n5 op) r)(l:aO X (n5 g) j)(t:PE X a ta)(w:PE X b tb)(A:PE X c tc)(B:Yo [op,g] [b,c]=false:=by with_unfolding_all rfl):PT X (.Compare a [op,g] [b,c] pos) (xu (uu r j ta tb tc)):=by
 intro f s i H Q I h;refine isTrue_chain (aG (t f s i H _ I h) λv C ⟨x,D,E,F,G⟩=>test_link (aG (w f C i D _ E G) λu J ⟨y,K,L,m,M⟩ =>
  aG (q f J i K x y v u _ L F m M) λd N ⟨z,n,o,O,k,e,p⟩=>?_)) B
 subst e;subst O;refine Vr ?_;cases k with
 | false =>
  obtain⟨k',P,R⟩:=p;cases P;exact ite_ff ⟨n,o,R⟩
 | true =>
  refine ite_tt (test_last (aG (A f N i n _ o p) λS T ⟨U,V,W,Y,Z⟩=>aG (l f T i V y U u S _ W m Y Z) λd' s5 ⟨z2,H5,I5,r5,k2,e2,q5⟩=>?_))
  subst e2;subst r5;exact Vr ⟨H5,I5,q5⟩
def qH(K:gj)(x:V)(H:Hp)(k:Bool):Prop :=
 match x with
 | .bj=>k=false
 | .bl b=>k=b
 | .int i=>k=(i != 0)
 | .str y=>y.length<=dk/\k=((y.length:Int) != 0)
 | .pV y=>y.size<=dk/\k=((y.size:Int) != 0)
 | .ref p=>(∃xs,cw K H p xs/\k=!xs.isEmpty)\/(∃xs,aX K H p xs/\k=!xs.isEmpty)\/∃kvs,H p=some (.dK kvs)/\k=!kvs.isEmpty
 | _=>False
def Lm (r:KV kvs vs):(!vs.isEmpty)=!kvs.isEmpty:=by
 cases r<;>rfl
def Eu (r:aH xs its):(!its.toArray.isEmpty)=!xs.isEmpty:=by
 cases r<;>simp
def kR:(dk:Nat)<2 ^ 63:=by rw[z4];decide
theorem uT:LN X (λx H Q=>∃k,qH X.K x H k/\Q k H):=by
 intro pins s σ H x v Q I f h;obtain⟨k,e,q⟩:=h;have hs:=z4;cases x with
 | bj =>
  subst f;have d:=e;subst d;exact truthy_none ⟨H,I,q⟩
 | bl b =>
  subst f;have d:=e;subst d;exact Vr ⟨H,I,q⟩
 | int i =>
  obtain⟨t,rfl⟩:=f;have d:=e;subst d;exact PySem.P.truthy_int ⟨H,I,q⟩
 | str y =>
  obtain⟨t,rfl⟩:=f;obtain⟨o,d⟩:y.length<=dk/\k=((y.length:Int) != 0):=e;subst d;exact PySem.P.truthy_str (by omega) ⟨H,I.tok _,q⟩
 | pV y =>
  obtain⟨t,rfl⟩:=f;obtain⟨o,d⟩:y.size<=dk/\k=((y.size:Int) != 0):=e;subst d;exact W.truthy_bytes (by lia) ⟨H,I.tok _,q⟩
 | ref p =>
  subst f;have d:=e
  rcases d with⟨xs,g,d⟩|⟨xs,g,d⟩|⟨kvs,g,d⟩
  ·subst d;obtain⟨its,r,l,n⟩:=I.list g;have j:=r.length;exact wpAny_truthy_list l.isList (by simp only[ft];omega) ⟨H,I.tok _,by rw[Eu r];exact q⟩
  ·subst d;obtain⟨its,r,l,n⟩:=I.tuple g;have j:=r.length;exact truthy_tuple l (by simp only[ft];omega) ⟨H,I.tok _,by rw[Eu r];exact q⟩
  ·subst d;obtain⟨n,u,vs,r,m⟩:kvs.length<=dk/\(p==Vv)=false/\∃vs,KV kvs vs/\s.heap.DictOf (cP X.prog X.w) p vs:=I.aw p _ g;have j:=Paired.length r;exact wpAny_truthy_dict u m (by omega) ⟨H,I.tok _,by rw[Lm r];exact q⟩
 | _=>exact (e).elim
def IA(i:PE X a ta)(j:∀d,aap a X.env d=(do let v <-d;Zu a.pos;V1 [v] (truthy v))) :
  PT X a (λf H Q=>ta f H λx g=>∃k,qH X.K x g k/\Q k g):=by
 intro e s f H Q I h;exact isTrue_plain (aG (i e s f H _ I h) λv l ⟨x,m,n,o,p⟩=>uT e l f m x v Q n o p) (j _)
def O5:aO X (VE .Add) (λx y H Q=>∃i j,x=.str i/\y=.str j/\i.length+j.length<=dk/\Q (.str (i++j)) H):=by
 intro pins s σ H x y v u Q I d e h;obtain⟨i,j,rfl,rfl,f,q⟩:=h;obtain⟨t,rfl⟩:=d;obtain⟨t',rfl⟩:=e;exact add_str (λt' tk=>⟨.str (i++j),H,I.tok _,⟨_,rfl⟩,q⟩) f
theorem vals1 (r:aH [x] us):∃u,us=[u]/\RelV x u:=by
 cases r with
 | cons d e=>cases e;exact⟨_,rfl,d⟩
theorem vals2 (r:aH [x,y] us):∃u d,us=[u,d]/\RelV x u/\RelV y d:=by
 cases r with
 | cons e f =>
  cases f with
  | cons g h=>cases h;exact⟨_,_,rfl,e,g⟩
def Qb(e:X.calm=true):bN X (.builtin "max") (λxs H Q=>∃i j,xs=[.int i,.int j]/\Q (.int (if j>i then j else i)) H):=by
 intro pins s σ H xs us Q I r h;obtain⟨i,j,rfl,q⟩:=h;obtain⟨u,w',rfl,⟨t,rfl⟩,⟨t',rfl⟩⟩:=vals2 r;refine max_two_ints (I.ok.hd e) λh' tk k=>⟨_,H,I.kept k,?_,q⟩
 by_cases d:j>i
 ·rw[if_pos d,if_pos d];exact⟨_,rfl⟩
 ·rw[if_neg d,if_neg d];exact⟨_,rfl⟩
def Ph(e:X.calm=true):bN X (.builtin "min") (λxs H Q=>∃i j,xs=[.int i,.int j]/\Q (.int (if j<i then j else i)) H):=by
 intro pins s σ H xs us Q I r h;obtain⟨i,j,rfl,q⟩:=h;obtain⟨u,w',rfl,⟨t,rfl⟩,⟨t',rfl⟩⟩:=vals2 r;refine min_two_ints (I.ok.hd e) λh' tk k=>⟨_,H,I.kept k,?_,q⟩
 by_cases d:j<i
 ·rw[if_pos d,if_pos d];exact⟨_,rfl⟩
 ·rw[if_neg d,if_neg d];exact⟨_,rfl⟩
def Gb:bN X (.type "int") (λxs H Q=>(∃i,xs=[.int i]/\Q (.int i) H)\/∃k,xs=[.bl k]/\Q (.int (if k then 1 else 0)) H):=by
 intro pins s σ H xs us Q I r h
 rcases h with⟨i,rfl,q⟩|⟨k,rfl,q⟩
 ·obtain⟨u,rfl,t,rfl⟩:=vals1 r;exact call_int_int ⟨.int i,H,I,⟨_,rfl⟩,q⟩
 ·obtain⟨u,rfl,d⟩:=vals1 r;subst d;exact call_int_bool ⟨.int (if k then 1 else 0),H,I.tok _,⟨_,rfl⟩,q⟩
end
theorem jN.some_of (r:jN (some v) o):∃u,o=some u/\RelV v u:=by
 cases o with
 | none=>exact (r).elim
 | some u=>exact⟨u,rfl,r⟩
structure cZ (k:Nat) (A:r0):Prop where
 hd:A.handled=none
 dp:A.depth+3*k+5<recursionLimit
 un:A.units+16*k+200<y3
def cZ.mono (r:cZ k A)(h:j<=k):cZ j A:=⟨r.hd,by have:=r.dp;omega,by have:=r.un;omega⟩
def cZ.deeper (r:cZ (k+1) A)(env:Zl):cZ k (A.deeper env) :=
 ⟨r.hd,by have:=r.dp;show A.depth+1+3*k+5<_;omega,by have:=r.un;show A.units+3+16*k+200<_;omega⟩
def cZ.depth (r:cZ k A):A.depth<recursionLimit:=by have:=r.dp;omega
def Ic:TA:=λ_ H Q=>Q [] H
def LM(b:TE)(tr:TA):TA:=λa H Q=>b a H λx c=>tr a c λxs d=>Q (x::xs) d
section
variable{X:Cx}{e:hY}{es:List hY}{te:TE}{t:TA}{pos:z8}
def lj:PA X [] Ic:=λ_ _ _ _ H Q I h=>Calls.spliced_nil ⟨[],H,I,.nil,h⟩
def jD(c:PE X e te)(d:PA X es t)(hs:bK X e es:=by rfl):PA X (e::es) (LM te t):=by
 intro pos a s b H Q I h;rw[hs];refine Calls.spliced_cons (aG (c a s b H _ I h) λu f ⟨x,g,i,j,k⟩=>?_)
 exact aG (d pos a f b g _ i k) λus s2 ⟨xs,l,m,n,o⟩=>⟨x::xs,l,m,.cons j n,o⟩
def J2(t:TA):TE:=λb H Q=>t b H λxs a=>xs.length<=dk/\∀p,a p=none->Q (.ref p) (upd a p (.tup xs))
def Iu(t:TA):TE:=λb H Q=>t b H λxs a=>xs.length<=dk/\∀p,a p=none->Q (.ref p) (upd a p (.lst xs))
def BL{g}(h:PA X es t):PE X (.Tuple es g pos) (J2 t):=by
 intro c s i H Q I j;refine wpAny_Tuple_spliced (aG (h pos c s i H _ I j) λus a ⟨xs,d,f,r,z,q⟩=>⟨by rw[<-r.length];exact z,?_⟩)
 have k:=f.aw.fresh (eT _);refine⟨.ref a.heap.objs.size,upd d a.heap.objs.size (.tup xs),f.laid (λb u e=>fj _ e) (eT _) ?_,rfl,q _ k⟩
 exact⟨z,us,r,⟨_,k5 _ rfl,rfl,_,rfl⟩⟩
def G3(h:PA X es t):PE X (.List es pos) (Iu t):=by
 intro c s g H Q I i;refine wpAny_List_spliced (aG (h pos c s g H _ I i) λus a ⟨xs,d,f,r,z,q⟩=>⟨by rw[<-r.length];exact z,?_⟩)
 have j:=f.aw.fresh (eT _);refine⟨.ref a.heap.objs.size,upd d a.heap.objs.size (.lst xs),f.laid (λb u e=>fj _ e) (eT _) ?_,rfl,q _ j⟩
 exact⟨z,us,0,r,k5 _ rfl⟩
end
abbrev Sp:=List V->Hp->VK->XK->Prop
abbrev jq:=List Zl->Hp->ee->XK->cA->ee->Prop
structure rM (P:lT) (w:px) (K:gj) (mg:fk->Option cA) (base:qt) (A:r0) (outer:List Zl) (s:ee) (H:Hp):Prop where
 frames:A.frames=some outer
 mod:Mod K mg base
 bs:∀b o,base.get? b=some o->s.heap.get? b=some o/\H b=none
 ls:base.objs.size<=s.heap.objs.size
 iS:s.heap.FunFrames base outer
 nq:∀b∈i7 outer,H b=none
 aw:cc P w H s.heap
 bare:Yr s.gens
def CE(outer:List Zl)(P:lT)(w:px)(H:Hp)(s:ee)(Q:VK)(u:cA)(s':ee):Prop :=
 ∃v a,s'.os=s.os/\Yr s'.gens/\Un (i7 outer) [] H a s.heap s'.heap/\cc P w a s'.heap/\RelV v u/\Q v a
def CR(CX:jq)(outer:List Zl)(P:lT)(w:px)(H:Hp)(s:ee)(Q:VK)(E:XK)(r:ZF)(s':ee):Prop :=
 match r with
 | .ok (.ret u)=>CE outer P w H s Q u s'
 | .ok _=>False
 | .error e=>CX outer H s E e s'
structure bb (P:lT) (w:px) (K:gj) (mg:fk->Option cA) (base:qt) (CX:jq) (k:Nat) (f:eu) (fd:lq) (ps:List fk) (sp:Sp):Prop where
 len:∀vs H Q E,sp vs H Q E->vs.length=ps.length
 run:∀(A:r0) (outer:List Zl) (s:ee) (H:Hp) (args:Args) (us:List cA) (vs:List V) (Q:VK) (E:XK),cZ k A->rM P w K mg base A outer s H->aax s fd args (ps.zip us)->aH vs us->sp vs H Q E ->
  XH (ma P w) A (.call (.ref f) args) (CR CX outer P w H s Q E) s
def bb.imp{P:lT}{w:px}{K:gj}{mg:fk->Option cA}{base:qt}{CX:jq}{k:Nat}{f:eu}{b:lq}{c:List fk}{sp a:Sp}(F:bb P w K mg base CX k f b c sp)
 (h:∀vs H Q E,a vs H Q E->sp vs H Q E):bb P w K mg base CX k f b c a :=
 ⟨λvs H Q E q=>F.len vs H Q E (h _ _ _ _ q),λA outer s H args us vs Q E d e g i hs=>F.run A outer s H args us vs Q E d e g i (h _ _ _ _ hs)⟩
section
variable{X:Cx}{pins:List (eu×KX)}{σ:St}{H:Hp}{s s':ee}
def Inv.F0(I:Inv X pins σ H s):rM X.prog X.w X.K X.mg X.base X.A X.stack s H :=
 ⟨I.ok.frames,I.ok.mod,I.bs,wd I.ok.ls I.sz,I.stack,I.Br,I.aw,I.bare⟩
def Inv.after (I:Inv X pins σ H s)(h:CE X.stack X.prog X.w H s Q u s'):EP X pins σ Q u s':=by
 obtain⟨v,c,os,bare,un,aw,r,q⟩:=h;obtain⟨hh,g,d,t,a⟩:=s';obtain rfl:a=s.os:=os;exact⟨v,c,I.call un aw bare (λb z=>absurd z (by simp)),r,q⟩
end
def Ml(sp:Sp)(a:List V)(E:XK)(t:TA):TE:=λb H Q=>t b H λvs c=>sp (vs++a) c Q E
def Binds(K:gj)(b:lq)(a:List fk)(ds:List cA):Prop :=
 ∀(s:ee) (us:List cA),K.In s.heap->(us++ds).length=a.length->aax s b ⟨us,[]⟩ (a.zip (us++ds))
def Binds.all{K:gj}{b:lq}{a:List fk}(h:∀us:List cA,us.length=a.length->aaV b ⟨us,[]⟩=pure (a.zip us)):Binds K b a []:=λs us _ hl=>by
 rw[yv] at hl ⊢;exact .of_eq (h us hl)
def sM(CX:jq)(X:Cx)(E:XK):Prop:=∀(a:List (eu×KX)) (b:St) (H:Hp) (s:ee) (e:cA) (s':ee),Inv X a b H s->CX X.stack H s E e s'->X.xe e s'
section
variable{X:Cx}{CX:jq}{k:Nat}{f C:eu}{fd:lq}{ps:List fk}{sp:Sp}{dvs:List V}{ds:List cA}{E:XK}{x m:fk}{p pos apos:z8}{e o:hY}{es:List hY}{ta:TE}{t:TA}
theorem Ki (F:bb X.prog X.w X.K X.mg X.base CX k f fd ps sp)(g:cZ k X.A)(i:Binds X.K fd ps ds)(hd:aH dvs ds)(j:sM CX X E)(I:Inv X a c H s)(r:aH vs us)(h:sp (vs++dvs) H Q E):iN (ma X.prog X.w) X.A (call (.ref f) us) (EP X a c Q) X.xe s:=by
 have d:=r.append hd;have hl:(us++ds).length=ps.length:=by rw[<-d.length];exact F.len _ _ _ _ h
 refine wpAny_call (X7 (F.run X.A X.stack s H ⟨us,[]⟩ (us++ds) (vs++dvs) Q E g I.F0 (i s us I.gX hl) d h) λr s' b=>?_)
 cases r with
 | error e=>exact j a c H s e s' I b
 | ok fl =>
  cases fl with
  | ret u=>exact I.after b
  | next=>exact VB b
  | brk=>exact VB b
  | cont=>exact VB b
def En(F:bb X.prog X.w X.K X.mg X.base CX k f fd ps sp)(g:cZ k X.A)(i:Gl X x)(j:X.mg x=some (.ref f))(l:YJ X.K (.ref f)=true)(n:Binds X.K fd ps ds)(hd:aH dvs ds)(u:sM CX X E)
 (v:PA X (e::es) t)(b:bO x:=by decide)(y:bK X e es:=by rfl)(c:(Wf pos (ph es X.env)).any (·.1)=false:=by rfl) :
  PE X (.Call (.Name x p) (e::es) [] pos) (Ml sp dvs E t):=by
 intro a s z H Q I h;refine YG (Bh I i j ?_ b);refine W.callWith_K I.ok.mod.xh l (aG (v pos a s z H _ I h) λus s1 ⟨vs,H1,d,r,q⟩=>⟨d.gX,?_⟩) y c
 exact Ki F g n hd u d r q
end
structure bH (N P:List fk) (sc:VF):Prop where
 kind:sc.kind=.function
 co:sc.isCoroutine=false
 gen:sc.isGenerator=false
 nd:N.Nodup
 pre:N.take P.length=P
 par:∀x∈P,sc.names.lookup x=some .local\/sc.names.lookup x=some .cell
 G8:∀y∈sc.names,y.2≠.free
theorem AD{Xh:fk->Option Ym}:∀{binds:List (fk×cA)}{m:fk->Option cA},(∀v,(x,v)∉binds)->aae Xh binds m x=m x
 | [],_,_=>rfl
 | (n,v)::r,m,h=>by
  dsimp only[aae];rw[AD λw hw=>h w (gf _ hw)]
  split
  ·have:x≠n:=by rintro rfl;exact h v fm
   simp[this]
  ·rfl
theorem E7{Xh:fk->Option Ym}:∀{binds:List (fk×cA)}{m:fk->Option cA},(∀v,(x,v)∉binds)->aaf Xh binds m x=m x
 | [],_,_=>rfl
 | (n,v)::r,m,h=>by
  dsimp only[aaf];rw[E7 λw hw=>h w (gf _ hw)]
  split
  ·rfl
  ·have:x≠n:=by rintro rfl;exact h v fm
   simp[this]
theorem AJ{Xh:fk->Option Ym}:∀{P:List fk}{vs:List cA}{i:Nat}{m:fk->Option cA},P.Nodup->P[i]?=some x->vs[i]?=some v->Xh x=some .local ->
  aae Xh (P.zip vs) m x=some v
 | [],_,_,_,_,h,_,_=>by simp at h
 | _::_,[],_,_,_,_,h,_=>by simp at h
 | p::P,w::vs,0,m,nd,a,b,c=>by
  simp at a b;subst a;subst b;show aae Xh ((p,w)::P.zip vs) m p=_;dsimp only[aae];rw[AD λv d=>(pA.mp nd).1 (XX d).1,if_pos c]
  simp
 | p::P,w::vs,i+1,m,nd,a,b,c=>by
  unfold aae;exact AJ (pA.mp nd).2 (a) (b) c
theorem yR{Xh:fk->Option Ym}:∀{P:List fk}{vs:List cA}{i:Nat}{m:fk->Option cA},P.Nodup->P[i]?=some x->vs[i]?=some v->Xh x≠some .local ->
  aaf Xh (P.zip vs) m x=some v
 | [],_,_,_,_,h,_,_=>by simp at h
 | _::_,[],_,_,_,_,h,_=>by simp at h
 | p::P,w::vs,0,m,nd,a,b,c=>by
  simp at a b;subst a;subst b;show aaf Xh ((p,w)::P.zip vs) m p=_;dsimp only[aaf];rw[E7 λv d=>(pA.mp nd).1 (XX d).1,if_neg c]
  simp
 | p::P,w::vs,i+1,m,nd,a,b,c=>by
  unfold aaf;exact yR (pA.mp nd).2 (a) (b) c
noncomputable def start(N:List fk)(vs:List V):St:=vs.map some++ia (N.length-vs.length) none
noncomputable def jI(CX:jq)(P:lT)(w:px)(K:gj)(mg:fk->Option cA)(base:qt)(N:List fk)(a:fk)(scope:VF)(f:eu)(b:cA)(A:r0)(outer:List Zl)(s:ee)(H:Hp)(E:XK):Cx where
 prog:=P
 w:=w
 K:=K
 mg:=mg
 base:=base
 A:=A.deeper (Xx a scope s.heap.objs.size f b)
 N:=N
 dQ:=s
 qx:=H
 env:=Xx a scope s.heap.objs.size f b
 outer:=outer
 stack:=Xx a scope s.heap.objs.size f b::outer
 ex:=[]
 calm:=true
 fn:=λ_=>true
 pn:=[]
 xe:=λe s'=>iN (ma P w) (A.deeper (Xx a scope s.heap.objs.size f b)) (leaving (Xx a scope s.heap.objs.size f b) e) (λ_ c=>CX outer H s E e c) (λd c=>CX outer H s E d c) s'
def D0{a:VF}{n:Nat}{x:fk}(h:a.names.lookup x=some .cell):∃c,(abE n a.names []).lookup x=some c:=by
 have q:=abg a.names n [] (.inl h);exact Xl.mp q
theorem MH{CX:jq}{P:lT}{w:px}{K:gj}{mg:fk->Option cA}{base:qt}{N l:List fk}{j:fk}{scope:VF}{f:eu}{B:cA}{A:r0}{outer:List Zl}{s G:ee}{H:Hp}{E:XK}{us:List cA}{vs:List V}
 (S:bH N l scope)(hd:A.handled=none)(g:rM P w K mg base A outer s H)(hl:vs.length=l.length)(r:aH vs us)
 (x:InCallC s s.heap.objs.size (aae (Xx j scope s.heap.objs.size f B).kindOf (l.zip us) λ_=>none) (abE (s.heap.objs.size+1) scope.names []) (aaf (Xx j scope s.heap.objs.size f B).kindOf (l.zip us) λ_=>none) G) :
  Inv (jI CX P w K mg base N j scope f B A outer s H E) [] (start N vs) H G:=by
 have hpl:l.length<=N.length:=by have:=congrArg List.length S.pre;rw[mv] at this;lia
 obtain⟨C,tk,rfl,I⟩:=x.done;have o:∀b:eu,b∉(jI CX P w K mg base N j scope f B A outer s H E).ex:=λb z=>absurd (show b∈([]:List eu) from z) (by simp)
 refine⟨⟨g.mod,S.kind,rfl,rfl,eT _,λy z c C d=>?_,λy m=>?_,λy c _ h=>?_,λ_=>hd,Around.frames_deeper g.frames,.inr ⟨rfl,rfl⟩,λb z=>absurd z (o b),g.bs,g.ls,λb _ _=>o b,λb z=>absurd z (o b),g.iS,g.nq⟩,
  rfl,g.bare,Un.kept I,⟨_,x.toInCall.ns,λi y v C d h3=>?_⟩,λy c h=>⟨_,x.cell y c h⟩,g.aw.fresh (eT _),λy c h=>?_,λp t=>absurd (show p∈([]:List (eu×KX)) from t) (by simp),g.aw.kept I,?_⟩
 ·exact name_of_addr x.apart (V7 C) (V7 d)
 ·have m:=m
  rcases m with m|m
  ·exact D0 m
  ·exact absurd rfl (S.G8 _ (V7 m))
 ·exact Yx (x.above y c (V7 h))
 ·have D:i<vs.length:=by
   unfold start at d
   by_cases D:i<vs.length
   ·exact D
   ·rw[lz (by simpa using D)] at d
    rw[XA] at d;split at d<;>cases d
  have L:vs[i]?=some v:=by
   unfold start at d;rw[l4 (by simpa using D),cR] at d
   cases e:vs[i]? with
   | none=>rw[e] at d;exact nO d
   | some a=>rw[e] at d;cases d;rfl
  obtain⟨u,J,M⟩:=r.get L;have t:l[i]?=some y:=by
   rw[<-S.pre,Zo (by omega)];exact C
  have F:l.Nodup:=by rw[<-S.pre];exact S.nd.sublist (Wu _ _)
  refine⟨u,M,?_⟩
  rcases S.par y (eS t) with k|k
  ·exact .inl ⟨k,AJ F t J k⟩
  ·obtain⟨c,e⟩:=D0 k;refine .inr ⟨.inl k,c,e,?_⟩;have q:=x.cell y c e;rw[yR F t J (by show scope.names.lookup y≠_;rw[k];decide)] at q
   exact q
 ·exact g.aw.fresh (Yx (x.above y c (V7 h)))
 ·delta start;show _=N.length;rw[eH,ab,X1];lia
theorem Je{CX:jq}{P:lT}{w:px}{K:gj}{mg:fk->Option cA}{base:qt}{k:Nat}{f:eu}{name a:fk}{d:Arguments}{body:List Wt}{scope:VF}{F kV p pm c ct U:cA}{G X:Option eu}
 {L:Array (Option cA)}{N j:List fk}{sp:Sp}(lk:K.lookup f=some ⟨U,X,.func (YZ name a d body scope F kV p pm G c ct),L⟩)(M:abH K c a=true)(S:bH N j scope)
 (len:∀vs H Q E,sp vs H Q E->vs.length=j.length)
 (l:∀(A:r0) (outer:List Zl) (s:ee) (H:Hp) (vs:List V) (Q:VK) (E:XK),cZ k (A.deeper (Xx a scope s.heap.objs.size f c))->sp vs H Q E ->
   ∃t,gZ (jI CX P w K mg base N a scope f c A outer s H E) body t/\t {nx:=λ_ g=>Q .bj g,rt:=Q} (start N vs) H) :
  bb P w K mg base CX (k+1) f (YZ name a d body scope F kV p pm G c ct) j sp:=by
 refine⟨len,λA outer s H args us vs Q E C i Y r z=>?_⟩
 have hl:=len _ _ _ _ z;have O:=i.mod.xh.keeps λb o e=>(i.bs b o e).1
 have R:=i.mod.nolimit.keeps λb o e=>(i.bs b o e).1
 have m:∀y∈j.zip us,scope.names.lookup y.1=some .local\/(scope.names.lookup y.1=some .cell/\((abE (s.heap.objs.size+1) scope.names []).lookup y.1).isSome=true):=λ⟨n,v⟩ Z=>by
  rcases S.par n (XX Z).1 with q|q
  ·exact .inl q
  ·exact .inr ⟨q,abg _ _ _ (.inl q)⟩
 refine codeAny_call_function C.depth (O _ _ lk) rfl S.co S.gen rfl (W.codeRec_of O M) (Y _ _ _ _ ?_);refine wpAny_newFunctionEnv_cells S.kind m λenv he T x=>?_
 subst he;refine⟨R.keeps x.toInCall.keep,codeAny_func ?_⟩;obtain⟨t,ht,hq⟩:=l A outer s H vs Q E (C.deeper _) z;have I:Inv (jI CX P w K mg base N a scope f c A outer s H E) [] (start N vs) H T:=MH S C.hd i hl r x;refine P' (ht [] T (start N vs) H _ I hq) (λfl s' hs=>?_) λe s' hs=>hs
 have B:∀{h:St}{g:Hp}{v:V}{u:cA},Inv (jI CX P w K mg base N a scope f c A outer s H E) [] h g s'->RelV v u->Q v g->CE outer P w H s Q u s' :=
  λ{h g v u} J D q=>⟨v,g,J.os,J.bare,J.base,J.aw,D,q⟩
 cases fl with
 | ret u =>
  obtain⟨v,h,g,J,D,q⟩:=hs;exact B J D q
 | next =>
  obtain⟨h,g,J,q⟩:=hs;exact B (v:=V.bj) J rfl q
 | brk =>
  obtain⟨_,_,_,q⟩:=hs;exact VB q
 | cont =>
  obtain⟨_,_,_,q⟩:=hs;exact VB q
section
variable{X:Cx}{x:fk}{p pos:z8}{e:hY}{es:List hY}{t:TA}{id T:String}{r:List V->Hp->VK->Prop}
def wC(r:List V->Hp->VK->Prop)(t:TA):TE:=λa H Q=>t a H λvs b=>r vs b Q
def oW(f:bN X (.builtin id) r)(g:Gl X x)(i:X.mg x=none)(j:C' x=some (.builtin id))(k:PA X (e::es) t)(l:x≠"__name__":=by decide)(b:bO x:=by decide)
 (m:bK X e es:=by rfl)(c:(Wf pos (ph es X.env)).any (·.1)=false:=by rfl):PE X (.Call (.Name x p) (e::es) [] pos) (wC r t):=by
 intro a s d H Q I h;refine YG (oh I g i j ?_ l b);exact ab2 (aG (k pos a s d H _ I h) λus n ⟨vs,o,q,u,v⟩=>f a n d o vs us Q q u v) m c
def tf(f:bN X (.type T) r)(g:Gl X x)(i:X.mg x=none)(j:C' x=some (.type T))(k:PA X (e::es) t)(l:x≠"__name__":=by decide)(b:bO x:=by decide)
 (m:bK X e es:=by rfl)(c:(Wf pos (ph es X.env)).any (·.1)=false:=by rfl):PE X (.Call (.Name x p) (e::es) [] pos) (wC r t):=by
 intro a s d H Q I h;refine YG (oh I g i j ?_ l b);exact Vw (aG (k pos a s d H _ I h) λus n ⟨vs,o,q,u,v⟩=>f a n d o vs us Q q u v) m c
end
section
open PySem.SeqAt
open PySem.AutoSeq1 (wpAny_loadPart')
open PySem.MeetsSeq PySem.MeetsSeq2 PySem.MeetsSeq3
end
section
variable{prog:lT}{w:px}{A:r0}{E:cA->ee->Prop}{s:ee}{X:Cx}{e:hY}{te:TE}{lo hi:Option hY}{tl th:TO}{pos p2:z8}
def Pz (o:WQ s.heap t vs.toArray)(p:WQ s.heap b a.toArray)(j:vs≠[])(q:a=[]->Q (.ref t) s)(r:a≠[]->Q (.ref s.heap.objs.size) {s with heap:=s.heap.push {cls:=.type "tuple",data:=.seq (vs++a).toArray} })(hsz:vs.length+a.length<=dk):iN (ma prog w) A (VE .Add (.ref t) (.ref b)) Q E s:=by
 obtain⟨⟨cls,dd,data,k⟩,d,l,n,hd⟩:=id o;obtain⟨⟨cls2,f,data2,g⟩,c,h,m,i⟩:=id p;subst l hd h i;have e:vs.toArray++a.toArray=(vs++a).toArray:=by simp
 by_cases hw:a=[]
 ·exact aaq ⟨_,d,rfl⟩ ⟨_,c,rfl⟩ abD acp Zh Y8 (Y3 _ _)
   (tuple_addW1 t b vs.toArray a.toArray n m dd f k g (by simpa using j) (by simp[hw])) ⟨d,c,q hw⟩
 ·refine aaq ⟨_,d,rfl⟩ ⟨_,c,rfl⟩ abD acp Zh Y8 (Y3 _ _)
   (tuple_addW2 t b vs.toArray a.toArray n m dd f k g (by simpa using j) (by simpa using hw) (by rw[ft,ft];exact hsz)) ⟨d,c,?_⟩
  rw[e];exact r hw
noncomputable def aU(n d:Nat):Option Int->Nat
 | none=>d
 | some v=>if v<0 then (v+(n:Int)).toNat else min v.toNat n
def Ai(n d):aU n d none=d:=rfl
def BQ(n d k:Nat):aU n d (some (k:Int))=min k n:=by
 rfl
theorem Rh(n d)(hd:d<=n)(o):aU n d o<=n:=by
 cases o with
 | none=>exact hd
 | some v =>
  show (if v<0 then (v+(n:Int)).toNat else min v.toNat n)<=n
  by_cases a:v<0
  ·rw[if_pos a];lia
  ·rw[if_neg a];exact Nat.min_le_right _ _
def Ew(v:Int)(n d:Nat):(if v<0 then max (v+(n:Int)) 0 else min v (n:Int))=((aU n d (some v):Nat):Int):=by
 show (if v<0 then max (v+(n:Int)) 0 else min v (n:Int))=(((if v<0 then (v+(n:Int)).toNat else min v.toNat n):Nat):Int)
 grind
theorem LV(lo hi:Option Int)(n:Nat):WN lo hi 1 (n:Int)=(((aU n 0 lo:Nat):Int),((aU n n hi:Nat):Int)):=by
 refine aa7 ?_ ?_
 ·cases lo with
  | none=>rfl
  | some v=>exact Ew v n 0
 ·cases hi with
  | none=>rfl
  | some v=>exact Ew v n n
def IM(i j:Nat):VI (i:Int) (j:Int) 1=j-i:=by
 delta VI;grind
theorem A' (p:Zg v o)(h:Q o s):iN (ma prog w) A (abJ v) Q E s:=by
 cases p with
 | none=>exact acj h
 | int i t=>exact slicePart_int h
def RZ{f:eu}{c d:cA}{lo hi:Option Int}{n:Nat}{Q:Int×Int×Nat->ee->Prop}(hs:s.heap.IsSliceOf f c d .none)(g:Zg c lo)(i:Zg d hi)
 (h:Q (((aU n 0 lo:Nat):Int),1,aU n n hi-aU n 0 lo) s):iN (ma prog w) A (Ya (.ref f) (pure (n:Int))) Q E s:=by
 obtain⟨os,a,hcs,b⟩:=id hs;refine bt (bt (aaS a b (x:=c) rfl (bt (aaS a b (x:=d) rfl (bt (aaS a b rfl (eR ?_)))))));refine bt (acj ?_);show iN _ _ (if ((1:Int)==0)=true then _ else _) _ _ s
 refine bt (A' g (bt (A' i (bt (eR ?_)))));show iN _ _ (match WN lo hi 1 (n:Int) with|(lo,hi)=>pure (lo,(1:Int),VI lo hi 1)) _ _ s
 rw[LV lo hi n];show iN _ _ (pure (((aU n 0 lo:Nat):Int),(1:Int),VI ((aU n 0 lo:Nat):Int) ((aU n n hi:Nat):Int) 1)) _ _ s;rw[IM];exact eR h
def Qu(xs:Array cA)(i k:Nat):((hI k).filterMap λ(m:Nat)=>xs[((i:Int)+(m:Int)*1).toNat]?).toArray=((xs.toList.drop i).take k).toArray:=by
 have e:(λ(m:Nat)=>xs[((i:Int)+(m:Int)*1).toNat]?)=λm=>xs[i+m]?:=by
  funext m;have:((i:Int)+(m:Int)*1).toNat=i+m:=by omega
  rw[this]
 rw[e];have:=pick_run xs i k;have a:((λx=>xs[x]?) ∘ λx=>i+x)=λm=>xs[i+m]?:=rfl
 simp_all
theorem HM{t c:eu}{items:Array cA}{d f:cA}{lo hi:Option Int}{Q:cA->ee->Prop}(b:WQ s.heap t items)(hs:s.heap.IsSliceOf c d f .none)(l:Zg d lo)(n:Zg f hi)
 (hw:¬(aU items.size 0 lo=0/\aU items.size items.size hi=items.size))
 (h:Q (.ref s.heap.objs.size) {s with heap:=s.heap.push {cls:=.type "tuple",data:=.seq ((items.toList.drop (aU items.size 0 lo)).take (aU items.size items.size hi-aU items.size 0 lo)).toArray} })
 (hsz:items.size<=dk):iN (ma prog w) A (Yp (.ref t) (.ref c)) Q E s:=by
 have a:sizeOk (.seq ((items.toList.drop (aU items.size 0 lo)).take (aU items.size items.size hi-aU items.size 0 lo)).toArray):=by
  show ((items.toList.drop (aU items.size 0 lo)).take (aU items.size items.size hi-aU items.size 0 lo)).toArray.size<=dk;simp;omega
 obtain⟨os,g,i,hds⟩:=id hs;have j:s.TypeIs (.ref c) "slice":=⟨os,g,i⟩;delta Yp;try with_reducible refine q0 ?_
 first|refine bt (eR ?_)|skip
 refine bt (wpAny_sequenceKey b.typeIs rfl ?_)
 refine bt (WG b.typeIs Vz
  (z9 Vz b.typeIs entry_tuple_getitem ?_ (args_tuple_getitem _ _)))
 show iN _ _ (abI (.ref t) >>= _) _ _ s;refine bt (tupleItemsOf_ b ?_);refine bt (YT j ?_);rw[if_pos (by decide)]
 refine bt (RZ hs l n ?_);have k:¬((((aU items.size 0 lo:Nat):Int)==0&&(1:Int)==1&&(aU items.size items.size hi-aU items.size 0 lo)==items.size)=true):=by
  intro q;rw[ey,ey] at q;have q1:=eq_of_beq q.1.1;have q2:=eq_of_beq q.2;exact hw ⟨by omega,by omega⟩
 show iN _ _ (if (((aU items.size 0 lo:Nat):Int)==0&&(1:Int)==1&&(aU items.size items.size hi-aU items.size 0 lo)==items.size)=true then _ else _) _ _ s
 rw[if_neg k,Qu]
 first
  | exact bt (O1 (eR ⟨_,rfl,eR h⟩) a)
  | exact bt (O1 (bt (eR (eR ⟨_,rfl,eR h⟩))) a)
  | exact bt (bt (O1 (eR (eR ⟨_,rfl,eR h⟩)) a))
  | exact bt (bt (O1 (eR ⟨_,rfl,eR h⟩) a))
abbrev TO:=St->Hp->(Option Int->Hp->Prop)->Prop
def PO(X:Cx)(e:Option hY)(t:TO):Prop :=
 ∀(a:List (eu×KX)) (s:ee) (b:St) (H:Hp) (Q:Option Int->Hp->Prop),Inv X a b H s->t b H Q ->
  iN (ma X.prog X.w) X.A (evalPart e X.env) (λu s'=>∃o c,Inv X a b c s'/\Zg u o/\Q o c) X.xe s
def Io:TO:=λ_ H Q=>Q none H
def L6(t:TE):TO:=λa H Q=>t a H λx b=>∃i,x=.int i/\Q (some i) b
def Fv:PO X none Io:=by
 intro pins s σ H Q I h;exact eR ⟨none,H,I,.none,h⟩
def QP(h:PE X e te):PO X (some e) (L6 te):=by
 intro a s b H Q I hw;refine aG (h a s b H _ I hw) λu s1 ⟨x,c,d,f,g⟩=>?_
 obtain⟨i,rfl,q⟩:=g;obtain⟨t,rfl⟩:=f;exact⟨some i,c,d,.int i t,q⟩
def lM(X:Cx)(r:V->Option Int->Option Int->Hp->VK->Prop):Prop :=
 ∀(a:List (eu×KX)) (s:ee) (b:St) (H:Hp) (x:V) (v c d:cA) (lo hi:Option Int) (f:eu) (Q:VK),Inv X a b H s->RelV x v->s.heap.IsSliceOf f c d .none->Zg c lo->Zg d hi->r x lo hi H Q ->
  ∃T id,ZD (.type T) "__getitem__"=pure (some (.builtin id))/\s.TypeIs v T/\iN (ma X.prog X.w) X.A (Yp v (.ref f)) (EP X a b Q) X.xe s
def lM.or (h:lM X r)(h':lM X b):lM X (λx lo hi H Q=>r x lo hi H Q\/b x lo hi H Q):=by
 intro a s c H x v d f lo hi g Q I i hs j k q
 rcases q with q|q
 ·exact h a s c H x v d f lo hi g Q I i hs j k q
 ·exact h' a s c H x v d f lo hi g Q I i hs j k q
def GN(r:V->Option Int->Option Int->Hp->VK->Prop)(te:TE)(tl th:TO):TE:=λa H Q=>te a H λx b=>tl a b λl c=>th a c λu d=>r x l u d Q
def J0 (j:lM X r)(k:PE X e te)(hl:PO X lo tl)(m:PO X hi th):PE X (.Subscript e (.Slice lo hi none p2) pos) (GN r te tl th):=by
 intro a s d H Q I h;refine ZM (aG (k a s d H _ I h) λv n ⟨x,o,p,t,y⟩=>?_)
 refine wpAny_Slice (aG (hl a n d o _ p y) λf z ⟨l,B,C,D,F⟩=>aG (m a z d B _ C F) λg c ⟨u,i,G,J,K⟩=>?_)
 refine eR ?_;have L:Inv X a d i {c with heap:=c.heap.push {cls:=.type "slice",data:=.fields #[f,g,.none]} }:=G.kept (t':=c.toks) λb ob q=>fj _ q
 obtain⟨T,id,M,N,O⟩:=j a {c with heap:=c.heap.push {cls:=.type "slice",data:=.fields #[f,g,.none]} } d i x v f g l u c.heap.objs.size Q L t (YL ..) D J K
 exact ach N M O (by with_unfolding_all rfl)
def i8(xs:List V)(lo hi:Option Int):List V:=(xs.drop (aU xs.length 0 lo)).take (aU xs.length xs.length hi-aU xs.length 0 lo)
def EA(xs)(lo hi):(i8 xs lo hi).length<=xs.length:=by
 delta i8;rw[mv,se];lia
def Jt(K:gj):V->Option Int->Option Int->Hp->VK->Prop:=λx lo hi H Q=>∃a xs,x=.ref a/\aX K H a xs /\
 ¬(aU xs.length 0 lo=0/\aU xs.length xs.length hi=xs.length)/\∀p,H p=none->Q (.ref p) (upd H p (.tup (i8 xs lo hi)))
def OV:lM X (Jt X.K):=by
 intro pins s σ H x v vl vu lo hi sl Q I g hs i j h;obtain⟨a,xs,rfl,k,hw,q⟩:=h;subst g;obtain⟨its,r,d,f⟩:=I.tuple k;have c:its.toArray.size=xs.length:=by rw[ft];exact r.length.symm
 refine⟨"tuple",_,Vz.lookup,d.typeIs,?_⟩;refine HM d hs i j (by rw[c];exact hw) ?_ (by rw[c];exact f)
 rw[c];refine⟨.ref s.heap.objs.size,_,I.laid (λb ob q=>fj _ q) (eT _) ?_,rfl,q _ (I.aw.fresh (eT _))⟩
 exact⟨wd (EA xs lo hi) f,_,(r.drop (aU xs.length 0 lo)).take (aU xs.length xs.length hi-aU xs.length 0 lo),aaA _ _⟩
def AV(K:gj):R2:=λx y H Q=>∃a b xs ys,x=.ref a/\y=.ref b/\aX K H a xs/\aX K H b ys/\xs≠[]/\xs.length+ys.length<=dk /\
 (ys=[]->Q (.ref a) H)/\(ys≠[]->∀p,H p=none->Q (.ref p) (upd H p (.tup (xs++ys))))
theorem aH.vg (r:aH xs us):us=[] ↔ xs=[]:=by
 cases r with
 | nil=>simp
 | cons _ _=>simp
def Og:aO X (VE .Add) (AV X.K):=by
 intro pins s σ H x y v u Q I g i h;obtain⟨a,b,xs,ys,rfl,rfl,j,k,l,f,m,n⟩:=h;subst g;subst i;obtain⟨its,d,p,_⟩:=I.tuple j;obtain⟨its2,c,p2,_⟩:=I.tuple k;refine Pz p p2 (λz=>l (d.vg.mp z)) (λz=>⟨.ref a,H,I,rfl,m (c.vg.mp z)⟩) (λz=>?_) (by rw[<-d.length,<-c.length];exact f)
 refine⟨.ref s.heap.objs.size,_,I.laid (λb ob q=>fj _ q) (eT _) ?_,rfl,n (λw=>z (c.vg.mpr w)) _ (I.aw.fresh (eT _))⟩
 exact⟨by rw[eH];exact f,_,d.append c,aaA _ _⟩
end
noncomputable def ff(n:Nat)(i:Int):Option Nat:=if 0<=i then (if i<n then some i.toNat else none) else if -(n:Int)<=i then some (i+n).toNat else none
def dU (xs:List a)(i:Int):Option a:=(ff xs.length i).bind λj=>xs[j]?
def EH (h:ff n i=some j):seqIndex? i n=some j/\j<n/\-(n:Int)<=i/\i<n:=by
 delta ff at h
 by_cases b:0<=i
 ·rw[if_pos b] at h
  by_cases a:i<n
  ·rw[if_pos a] at h;have e:=Option.some.inj h;exact⟨by rw[aaT b a,e],by omega,by omega,a⟩
  ·rw[if_neg a] at h;exact nO h
 ·rw[if_neg b] at h
  by_cases a:-(n:Int)<=i
  ·rw[if_pos a] at h;have e:=Option.some.inj h;exact⟨by rw[aam (by omega) a,e],by omega,a,by omega⟩
  ·rw[if_neg a] at h;exact nO h
theorem u9{a:Type}{xs:List a}{i:Int}{v:a}(h:dU xs i=some v):∃j,seqIndex? i xs.length=some j/\xs[j]?=some v/\j<xs.length/\-(xs.length:Int)<=i/\i<xs.length:=by
 delta dU at h;cases e:ff xs.length i with
 | none=>rw[e] at h;exact nO h
 | some j =>
  rw[e] at h;obtain⟨b,c,d,f⟩:=EH e;exact⟨j,b,h,c,d,f⟩
def kj{a:Type}{xs:List a}{j:Nat}{v:a}(h:xs[j]?=some v):dU xs (j:Int)=some v:=by
 have hj:=(cn.mp h).1;have e:ff xs.length (j:Int)=some j:=by
  delta ff;rw[if_pos (by omega),if_pos (by omega)];simp
 delta dU;rw[e];exact h
def MO (xs:List a)(v:a):dU (xs++[v]) (-1)=some v:=by
 have hl:(xs++[v]).length=xs.length+1:=by simp
 have e:ff (xs++[v]).length (-1)=some xs.length:=by
  delta ff;rw[hl,if_neg (by decide),if_pos (by lia)]
  congr 1;lia
 delta dU;simp only[e];simp
def nh(b:hY):Prop:=∀o i,Zk b false o i=operate [o,i] (Yp o i)
def j3(X:Cx)(r:R2):Prop :=
 ∀(value slice:hY) (a:List (eu×KX)) (s:ee) (b:St) (H:Hp) (x y:V) (v u:cA) (Q:VK),Inv X a b H s->RelV x v->RelV y u->r x y H Q ->
  Zk slice false v u=operate [v,u] (Yp v u)->iN (ma X.prog X.w) X.A (Z8 value slice v u) (EP X a b Q) X.xe s
def rG(X:Cx)(id:String)(r:V->List V->Hp->VK->Prop):Prop :=
 ∀(a:List (eu×KX)) (s:ee) (b:St) (H:Hp) (x:V) (xs:List V) (v:cA) (us:List cA) (Q:VK),Inv X a b H s->RelV x v->aH xs us->r x xs H Q ->
  iN (ma X.prog X.w) X.A (call (.builtin id) (v::us)) (EP X a b Q) X.xe s
section
variable{X:Cx}{a b:hY}{ta tb:TE}{pos:z8}
def j3.or (h:j3 X r)(h':j3 X d):j3 X (λx y H Q=>r x y H Q\/d x y H Q):=by
 intro value slice c s e H x y v u Q I f g q hs
 rcases q with q|q
 ·exact h value slice c s e H x y v u Q I f g q hs
 ·exact h' value slice c s e H x y v u Q I f g q hs
def zx (d:j3 X r)(e:PE X a ta)(f:PE X b tb)(hs:nh b):PE X (.Subscript a b pos) (nM r ta tb):=by
 intro c s g H Q I h;exact ZM (yy e f I h λv u i x y j k l m q=>d a b c i g j x y v u Q k l m q (hs _ _))
def Ee(K:gj):R2:=λx y H Q=>∃p xs i v,x=.ref p/\y=.int i/\cw K H p xs/\dU xs i=some v/\Q v H
def Ck(K:gj):R2:=λx y H Q=>∃p xs i v,x=.ref p/\y=.int i/\aX K H p xs/\dU xs i=some v/\Q v H
def Dw:R2:=λx y H Q=>∃z i c,x=.str z/\y=.int i/\z.length<=dk/\dU z.cps.toList i=some c/\Q (.str ⟨#[c]⟩) H
def Mj:j3 X (Ee X.K):=by
 intro value slice c s k H x y v u Q I o A h hs;obtain⟨p,xs,i,z,rfl,rfl,B,C,q⟩:=h;subst o;obtain⟨t,rfl⟩:=A;obtain⟨its,r,f,hz⟩:=I.list B;obtain⟨j,d,D,h3,E,F⟩:=u9 C;obtain⟨w,l,m⟩:=r.get D;have hl:=r.length;have hn:=kR;have e:EP X c k Q w s:=⟨z,H,I,m,q⟩
 by_cases n:0<=i
 ·have g:i.toNat=j:=by
   rw[aaT n F] at d;exact Option.some.inj d
  exact item_listR f.isList n (by omega) (by rw[g];simpa using l) e hs
 ·have g:(i+(its.toArray.size:Int)).toNat=j:=by
   rw[aam (by omega) E] at d
   rw[ft,<-hl];exact Option.some.inj d
  exact aay f.isList.typeIs YV.lookup
   (wpAny_getItem_list_neg f.isList (by omega) (by rw[ft]<;>omega) (by lia) (by rw[g];simpa using l) ⟨rfl,e⟩) hs
def HB:j3 X (Ck X.K):=by
 intro value slice c s d H x y v u Q I k l h hs;obtain⟨p,xs,i,z,rfl,rfl,m,n,q⟩:=h;subst k;obtain⟨t,rfl⟩:=l;obtain⟨its,r,e,hz⟩:=I.tuple m;obtain⟨j,o,A,h3,h4,h5⟩:=u9 n;obtain⟨w,B,f⟩:=r.get A;have hl:=r.length;have hn:=kR;have g:EP X c d Q w s:=⟨z,H,I,f,q⟩;exact aay e.typeIs Vz.lookup
  (getItem_tuple e (by lia) (by lia) (by rw[ft,<-hl];exact o) (by simpa using B) ⟨rfl,g⟩) hs
def L4:j3 X Dw:=by
 intro value slice pins s σ H x y v u Q I e f h hs;obtain⟨z,i,c,rfl,rfl,hz,g,q⟩:=h;obtain⟨t,rfl⟩:=e;obtain⟨t',rfl⟩:=f;obtain⟨j,d,k,h3,l,m⟩:=u9 g;have hl:z.cps.toList.length=z.length:=by simp[Str.length]
 rw[hl] at d l m;have hn:=kR;exact ach (typeIs_str s z t) slot_str_getitem.lookup (getItem_str (by
  have n:decide (i < -(2 ^ 63:Int))=false:=decide_eq_false (by omega)
  have o:decide (i ≥ 2 ^ 63)=false:=decide_eq_false (by omega)
  rw[n,o,abj]) (by rw[d];simpa using k) ⟨.str ⟨#[c]⟩,H,I.tok _,⟨_,rfl⟩,q⟩) hs
def Ft(K:gj):R2:=λx y H Q=>Ee K x y H Q\/Ck K x y H Q\/Dw x y H Q
def Ea:j3 X (Ft X.K):=Mj.or (HB.or L4)
def Px(its:List cA)(n j:Nat)(u:cA):WM (·.setIfInBounds j u) {cls:=.type "list",data:=.seq its.toArray n}={cls:=.type "list",data:=.seq (its.set j u).toArray n}:=by
 simp[WM]
def Inv.lst (I:Inv X c d H s)(h:H p=some (.lst xs)) :
  ∃(its:List cA) (n:Nat),aH xs its/\s.heap.get? p=some {cls:=.type "list",data:=.seq its.toArray n}/\xs.length<=sizeLine:=by
 obtain⟨z,its,n,r,e⟩:=I.aw p _ h;exact⟨its,n,r,e,z⟩
def Inv.HP{c:List (eu×KX)}{g:St}{H:Hp}{s:ee}{p:eu}{xs ys:List V}{its its':List cA}{n d:Nat}{f:KX->KX}(I:Inv X c g H s)(h:H p=some (.lst xs))
 (j:s.heap.get? p=some {cls:=.type "list",data:=.seq its.toArray n})(i:f {cls:=.type "list",data:=.seq its.toArray n}={cls:=.type "list",data:=.seq its'.toArray d})(r:aH ys its')(k:ys.length<=dk)(t:Nat) :
  Inv X c g (upd H p (.lst ys)) {s with heap:=s.heap.update p f,toks:=t}:=by
 have e:(s.heap.update p f).get? p=some {cls:=.type "list",data:=.seq its'.toArray d}:=by
  rw[X0 f j (by rw[i]<;>rfl),i]
 refine I.write (by rw[h];trivial) (.inl rfl) (λb u l q=>(VC _ _ (Ne.symm l)).trans q) ⟨_,e⟩ ?_
 exact⟨k,its',d,r,e⟩
def F1:V->V->V->Hp->(Hp->Prop)->Prop:=λo i v H Q=>∃p xs k j,o=.ref p/\i=.int k/\H p=some (.lst xs)/\ff xs.length k=some j/\Q (upd H p (.lst (xs.set j v)))
def set_list:Dl X F1:=by
 intro d s y H o i v ov iv u Q I z A B h;obtain⟨p,xs,k,j,rfl,rfl,g,C,q⟩:=h;subst z;obtain⟨t,rfl⟩:=A;obtain⟨its,n,r,e,D⟩:=I.lst g;obtain⟨c,h2,l,m⟩:=EH C;have hl:=r.length;have hn:=kR;have w:Inv X d y (upd H p (.lst (xs.set j v))) {s with heap:=s.heap.update p (WM (·.setIfInBounds j u))} :=
  I.HP g e (Px its n j u) (r.set B j) (by rw[H9];exact D) s.toks
 by_cases x:0<=k
 ·have f:k.toNat=j:=by
   rw[aaT x m] at c;exact Option.some.inj c
  exact W.ki_setAt e x (by lia) (by rw[ft,<-hl];exact m) (by rw[f];exact⟨_,w,q⟩)
 ·have f:(k+(its.toArray.size:Int)).toNat=j:=by
   rw[aam (by omega) l] at c
   rw[ft,<-hl];exact Option.some.inj c
  exact W.ki_setBack e (by omega) (by rw[ft,<-hl];exact l) (by lia) (by rw[f];exact⟨_,w,q⟩)
theorem RL(lo c)(n):(W' lo c none n).1=((aU n 0 lo:Nat):Int)/\(W' lo c none n).2.1=((aU n n c:Nat):Int)/\(W' lo c none n).2.2=1:=by
 refine⟨?_,?_,rfl⟩
 ·cases lo with
  | none=>simp[W',aU]
  | some i =>
   simp only[W',aU,Option.getD_none,show (1:Int)>0 by decide,if_true]
   by_cases h:i<0
   ·simp only[h,if_true]<;>omega
   ·simp[h]<;>omega
 ·cases c with
  | none=>simp[W',aU]
  | some i =>
   simp only[W',aU,Option.getD_none,show (1:Int)>0 by decide,if_true]
   by_cases h:i<0
   ·simp only[h,if_true]<;>omega
   ·simp[h]<;>omega
def MM(its:List cA)(lo c:Option Int):slicePick its.toArray lo c none=((its.drop (aU its.length 0 lo)).take (aU its.length its.length c-aU its.length 0 lo)).toArray:=by
 obtain⟨d,e,f⟩:=RL lo c its.toArray.size;delta slicePick;simp only[d,e,f];simp only[sliceRange_one,pick_run]<;>rfl
def R5(K:gj):V->Option Int->Option Int->Hp->VK->Prop:=λx lo c H Q=>∃a xs,x=.ref a/\cw K H a xs/\∀p,H p=none->Q (.ref p) (upd H p (.lst (i8 xs lo c)))
def QA:lM X (R5 X.K):=by
 intro pins s σ H x v vl vu lo c sl Q I f hs g i h;obtain⟨a,xs,rfl,j,q⟩:=h;subst f;obtain⟨its,r,e,k⟩:=I.list j;have d:=r.length;refine⟨"list",_,YV.lookup,e.isList.typeIs,?_⟩;refine ZY e.isList hs g i .none (by simp) ?_ (by rw[ft]<;>omega)
 rw[MM,<-d];refine⟨.ref s.heap.objs.size,_,I.laid (λb ob q=>fj _ q) (eT _) ?_,rfl,q _ (I.aw.fresh (eT _))⟩
 exact⟨wd (EA xs lo c) k,_,0,(r.drop (aU xs.length 0 lo)).take (aU xs.length xs.length c-aU xs.length 0 lo),k5 _ rfl⟩
def Nx:aO X (n5 .NotIn) (λx y H Q=>∃i j,x=.str i/\y=.str j/\Q (.bl (!(!(z5 j i 0 j.length 1).isEmpty))) H):=by
 intro pins s σ H x y v u Q I c d h;obtain⟨i,j,rfl,rfl,q⟩:=h;obtain⟨t,rfl⟩:=c;obtain⟨t',rfl⟩:=d;exact notIn_str ⟨.bl _,H,I,rfl,q⟩
def J3:bN X (.builtin "len") (λxs H Q=>∃p ys,xs=[.ref p]/\(cw X.K H p ys\/aX X.K H p ys)/\Q (.int ys.length) H):=by
 intro pins s σ H xs us Q I r h;obtain⟨p,ys,rfl,d,q⟩:=h;obtain⟨u,rfl,g⟩:=vals1 r;subst g;have hn:=kR
 rcases d with d|d
 ·obtain⟨its,e,f,i⟩:=I.list d;have c:=e.length;exact Calls.call_len_list f.isList (by simp only[ft]<;>omega) ⟨.int ys.length,H,I.tok _,⟨s.toks+1,by rw[ft,c]⟩,q⟩
 ·obtain⟨its,e,f,i⟩:=I.tuple d;have c:=e.length;exact len_tuple f (by simp only[ft]<;>omega) ⟨.int ys.length,H,I.tok _,⟨s.toks+1,by rw[ft,c]⟩,q⟩
def NT:bN X (.builtin "len") (λxs H Q=>∃z,xs=[.str z]/\z.length<=dk/\Q (.int z.length) H):=by
 intro pins s σ H xs us Q I r h;obtain⟨z,rfl,hz,q⟩:=h;obtain⟨u,rfl,t,rfl⟩:=vals1 r;have hn:=kR;exact len_str (by lia) ⟨.int z.length,H,I.tok _,⟨_,rfl⟩,q⟩
def bN.or (h:bN X f r)(h':bN X f d):bN X f (λxs H Q=>r xs H Q\/d xs H Q):=by
 intro c s e H xs us Q I rs q
 rcases q with q|q
 ·exact h c s e H xs us Q I rs q
 ·exact h' c s e H xs us Q I rs q
def Pm:bN X (.type "list") (λxs H Q=>∃p ys,xs=[.ref p]/\(cw X.K H p ys\/aX X.K H p ys)/\∀l,H l=none->Q (.ref l) (upd H l (.lst ys))):=by
 intro j s y H xs us Q I r h;obtain⟨p,ys,rfl,f,q⟩:=h;obtain⟨u,rfl,z⟩:=vals1 r;subst z;have i:∀(its:List cA),aH ys its->ys.length<=dk->∀(h':qt) (c:Nat),(∀b x,s.heap.get? b=some x->h'.get? b=some x) ->
   h'.get? s.heap.objs.size=some {cls:=.type "list",dict:=none,data:=.seq its.toArray c,slots:=#[]}->EP X j y Q (.ref s.heap.objs.size) {s with heap:=h'}:=λits d g h' c kp e =>
  ⟨.ref s.heap.objs.size,_,I.laid kp (eT _) (show cO X.prog X.w _ h' _ (.lst ys) from ⟨g,its,c,d,e⟩),rfl,q _ (I.aw.fresh (eT _))⟩
 rcases f with f|f
 ·obtain⟨its,d,k,g⟩:=I.list f;have m:=d.length;obtain⟨o,t,v,n,hd⟩:=k.isList;exact acr p (.inl rfl) t v hd (λh' c kp e=>i its d g h' c kp e) (by simp only[ft]<;>omega)
 ·obtain⟨its,d,k,g⟩:=I.tuple f;have m:=d.length;obtain⟨o,t,v,n,hd⟩:=k;exact acr p (.inr rfl) t v hd (λh' c kp e=>i its d g h' c kp e) (by simp only[ft]<;>omega)
def zq:bN X (.type "tuple") (λxs H Q=>∃p ys,xs=[.ref p]/\((cw X.K H p ys/\∀l,H l=none->Q (.ref l) (upd H l (.tup ys)))\/(aX X.K H p ys/\Q (.ref p) H))):=by
 intro c s i H xs us Q I r h;obtain⟨p,ys,rfl,h⟩:=h;obtain⟨u,rfl,m⟩:=vals1 r;subst m
 rcases h with⟨d,q⟩|⟨d,q⟩
 ·obtain⟨its,f,g,j⟩:=I.list d;have hlen:=f.length;refine call_tuple_list g.isList (λh' kp=>?_) (by simp only[ft]<;>omega)
  have k:=I.kept (t':=s.toks) kp
  have n:Inv X c i (upd H h'.objs.size (.tup ys)) {s with heap:=h'.push {cls:=.type "tuple",data:=.seq its.toArray} } :=
   k.laid (λb o e=>fj _ e) (eT _) (⟨j,its,f,aaA _ _⟩)
  exact⟨.ref h'.objs.size,_,n,rfl,q _ (k.aw.fresh (eT _))⟩
 ·obtain⟨its,f,g,j⟩:=I.tuple d;exact call_tuple_same g ⟨.ref p,H,I,rfl,q⟩
def CG(K:gj)(T:String)(x:V)(H:Hp):Prop:=match x with
 | .str _=>T="str"
 | .int _=>T="int"
 | .ref p=>(T="list"/\∃xs,cw K H p xs)\/(T="tuple"/\∃o,K.lookup p=some o/\o.cls=.type "tuple"/\o.dict=none) \/
   (T="dict"/\((∃kvs,H p=some (.dK kvs))\/∃kvs,H p=some (.dT kvs)))\/(T="set"/\∃S n,H p=some (.set S n))
 | _=>False
theorem Q2 (I:Inv X f k H s)(r:RelV x v)(ty:CG X.K T x H) :
  s.TypeIs v T/\∀a,v=.ref a->∃h,s.heap.get? a=some h/\h.dict=none:=by
 cases x with
 | str z =>
  obtain⟨t,rfl⟩:=r;cases (ty)
  exact⟨typeIs_str s z t,λ_ e=>nomatch e⟩
 | int i =>
  obtain⟨t,rfl⟩:=r;cases (ty)
  exact⟨abc s i t,λ_ e=>nomatch e⟩
 | ref p =>
  subst r
  rcases ty with⟨rfl,xs,l⟩|⟨rfl,o,d,m,hd⟩|⟨rfl,d⟩|⟨rfl,S,n,d⟩
  ·obtain⟨its,_,j,_⟩:=I.list l;refine⟨j.isList.typeIs,λa e=>?_⟩
   cases e;obtain⟨o,n,e,c,hd,_⟩:=j;exact⟨o,e,hd⟩
  ·refine⟨⟨o,I.gX p o d,m⟩,λa e=>?_⟩
   cases e;exact⟨o,I.gX _ o d,hd⟩
  ·have z:∃o,s.heap.get? p=some o/\o.ExactDict:=by
    rcases d with⟨kvs,d⟩|⟨kvs,d⟩
    ·obtain⟨_,_,_,_,o,_,_,e,ex,_⟩:=I.aw p _ d;exact⟨o,e,ex⟩
    ·obtain⟨_,_,_,_,o,_,_,e,ex,_⟩:=I.aw p _ d;exact⟨o,e,ex⟩
   obtain⟨o,e,ex⟩:=z;refine⟨⟨o,e,ex.1⟩,λa g=>?_⟩
   cases g;exact⟨o,e,ex.2.1⟩
  ·obtain⟨o,_,_,_,e,ex,_⟩:=I.aw p _ d;refine⟨⟨o,e,ex.1⟩,λa g=>?_⟩
   cases g;exact⟨o,e,ex.2.1⟩
 | _=>exact VB ty
def tL(K:gj)(T:String)(r:V->List V->Hp->VK->Prop)(to:TE)(t:TA):TE:=λc H Q=>to c H λx d=>CG K T x d/\t c d λxs e=>r x xs e Q
variable{o e:hY}{es:List hY}{to:TE}{t:TA}{name:fk}{apos cpos:z8}{T id:String}{r:V->List V->Hp->VK->Prop}
def tK(n:PlainAttrs T)(slot:Slot T name id)(k:typeOf (.builtin id)=pure (.type "method_descriptor"))(p:rG X id r)(q:PE X o to)(u:PA X (e::es) t)
 (f:W4 o name X.env (eval o X.env)=eval o X.env:=by rfl)
 (i:((Wf cpos (ph (e::es) X.env)).all (λx=>!x.1)&&(backToKw cpos (keywordEach [] X.env)).all (λx=>x.1.isSome)
   && decide ((e::es).length+([]:List abq).length+(if ([]:List abq).isEmpty then 0 else 1)<30))=true:=by rfl)
 (g:(apos.endLine==cpos.line)=true:=by rfl)(hs:bK X e es:=by rfl)(d:(Wf cpos (ph es X.env)).any (·.1)=false:=by rfl) :
  PE X (.Call (.Attribute o name apos) (e::es) [] cpos) (tL X.K T r to t):=by
 intro c s j H Q I h;refine wpAny_Call_method_late f i g rfl (aG (q c s j H _ I h) λv w ⟨x,y,l,m,ty,z⟩=>?_)
 obtain⟨A,B⟩:=Q2 l m ty;refine⟨T,id,n,slot,k,A,B,?_⟩;have hA:=u cpos c w j y _ l z;rw[hs] at hA ⊢;refine Calls.callWith_builtin (by show (false||(Wf cpos (ph es X.env)).any (·.1))=false;rw[d]<;>rfl) (Calls.evalArgs_plain ?_)
 exact aG hA λus C ⟨vs,D,E,F,G⟩=>p c C j D x vs v us Q E m F G
end
def N6(X:Cx)(id:String)(r:V->List V->Hp->VK->Prop):Prop :=
 ∀(a:List (eu×KX)) (s:ee) (b:St) (H:Hp) (x:V) (xs:List V) (v:cA) (us:List cA) (Q:VK),Inv X a b H s->RelV x v->aH xs us->r x xs H Q ->
  iN (ma X.prog X.w) X.A (call (.builtin id) (v::us)) (EP X a b Q) X.xe s
theorem aH.one (h:aH [x] us):∃u,us=[u]/\RelV x u:=by
 cases h with
 | cons r t=>cases t;exact⟨_,rfl,r⟩
theorem aH.two (h:aH [x,y] us):∃u v,us=[u,v]/\RelV x u/\RelV y v:=by
 cases h with
 | cons r t =>
  obtain⟨v,e,q⟩:=aH.one t;exact⟨_,v,by rw[e],r,q⟩
section
variable{X:Cx}{pins:List (eu×KX)}{σ:St}{H:Hp}{s:ee}{l b:eu}{xs ys zs:List V}{prog:lT}{w:px}{A:r0}{E:cA->ee->Prop}
def Inv.Gv{its its':List cA}{n:Nat}{f:Array cA->Array cA}{t':Nat}(I:Inv X pins σ H s)(a:H l=some (.lst xs))
 (e:s.heap.get? l=some {cls:=.type "list",data:=.seq its.toArray n})(c:f its.toArray=its'.toArray)(d:aH ys its')(g:ys.length<=dk) :
  Inv X pins σ (upd H l (.lst ys)) {s with heap:=s.heap.update l (WM f),toks:=t'}:=by
 have q:=PySem.IsL.update e f;rw[c] at q;refine I.write (by rw[a];exact trivial) (.inl rfl) (λb' u h i=>(VC s.heap (WM f) (Ne.symm h)).trans i) ⟨_,q⟩ ?_
 exact⟨g,its',_,d,q⟩
def Inv.su (I:Inv X pins σ H s)(a:aH ys its)(c:ys.length<=dk) :
  Inv X pins σ (upd H s.heap.objs.size (.lst ys)) {s with heap:=s.heap.push {cls:=.type "list",data:=.seq its.toArray},toks:=t'} :=
 I.laid (λ_ _ q=>fj _ q) (eT _) ⟨c,its,0,a,k5 _ rfl⟩
def Inv.fresh(I:Inv X pins σ H s):H s.heap.objs.size=none:=I.aw.fresh (eT _)
def Inv.Oe(I:Inv X pins σ H s)(a:H l=some (.lst xs)):xs.length<=dk/\∃(its:List cA) (n:Nat),aH xs its/\xs.length=its.length/\s.heap.get? l=some {cls:=.type "list",data:=.seq its.toArray n}:=by
 obtain⟨z,its,n,r,e⟩:=I.aw l _ a;exact⟨z,its,n,r,r.length,e⟩
def D8:V->List V->Hp->VK->Prop:=λx vs H Q=>∃l xs y,x=.ref l/\vs=[y]/\H l=some (.lst xs)/\xs.length<dk/\Q .bj (upd H l (.lst (xs++[y])))
def EX:N6 X "list.append" D8:=by
 intro pins s σ H x vs v us Q I c d h;obtain⟨l,xs,y,rfl,rfl,a,hz,q⟩:=h;subst c;obtain⟨u,rfl,f⟩:=d.one;obtain⟨z,its,n,r,hl,e⟩:=I.Oe a;refine YH ZI ⟨_,e,rfl⟩ F.entry_list_append (F.args_list_append_2 _ _) (PySem.list_append l its.toArray n u (by rw[ft];omega)) ⟨e,?_⟩
 refine⟨.bj,_,I.Gv a e (by simp) (r.append (.cons f .nil)) ?_,rfl,q⟩
 rw[eH,Vg];omega
set_option maxRecDepth 100000 in
end
section
variable{κ:Type}[DecidableEq κ]
noncomputable def fJ(kvs:List (κ×V))(k:κ):Option V:=(kvs.find? λa=>decide (a.1=k)).map (·.2)
noncomputable def putK(kvs:List (κ×V))(k:κ)(v:V):List (κ×V) :=
 if (kvs.any λa=>decide (a.1=k))=true then kvs.map (λa=>if a.1=k then (a.1,v) else a) else kvs++[(k,v)]
def oY{p:κ×V}{r:List (κ×V)}{k:κ}(e:p.1=k):fJ (p::r) k=some p.2:=by simp[fJ,Wj,e]
def qw{p:κ×V}{r:List (κ×V)}{k:κ}(e:¬p.1=k):fJ (p::r) k=fJ r k:=by simp[fJ,Wj,e]
theorem tT(k):∀kvs:List (κ×V),(kvs.any λa=>decide (a.1=k))=(fJ kvs k).isSome
 | []=>rfl
 | p::r=>by
  simp
  by_cases e:p.1=k
  ·simp only[oY e,decide_eq_true e,Bool.true_or,Option.isSome_some]
  ·simp only[qw e,decide_eq_false e];exact tT k r
def xW(kvs:List (κ×V))(k:κ)(v:V):(putK kvs k v).length<=kvs.length+1:=by
 delta putK;split
 ·rw[ab];lia
 ·simp only[eH,fv,Vm];lia
theorem jN.qm (r:jN o u):o.isSome=u.isSome:=by
 cases o with
 | none=>cases u with
  | none=>rfl
  | some _=>exact (r).elim
 | some _=>cases u with
  | none=>exact (r).elim
  | some _=>rfl
theorem KV.val (r:KV kvs vs)(k:κ):jN (fJ kvs k) (YU vs k):=by
 induction r with
 | nil=>exact WI
 | @cons p q ps a h t f =>
  obtain⟨d,g⟩:=h
  by_cases e:p.1=k
  ·have c:=d.symm.trans e;have b:YU (q::a) k=some q.2:=by simp[YU,Wj,c]
   rw[oY e,b];exact g
  ·have c:¬q.1=k:=λz=>e (d.trans z)
   have b:YU (q::a) k=YU a k:=by simp[YU,Wj,c]
   rw[qw e,b];exact f
theorem KV.any (r:KV kvs vs)(k:κ):(kvs.any λa=>decide (a.1=k))=vs.any λa=>decide (a.1=k):=by
 induction r with
 | nil=>rfl
 | cons h t b=>rw[VL,VL,b,h.1]
theorem KV.jj (r:KV kvs vs)(k:κ)(c:RelV y u) :
  KV (kvs.map λa=>if a.1=k then (a.1,y) else a) (vs.map λa=>if a.1=k then (a.1,u) else a):=by
 induction r with
 | nil=>exact .nil
 | @cons p q ps qs h t d =>
  simp;refine .cons ?_ d;obtain⟨b,f⟩:=h
  by_cases e:p.1=k
  ·rw[if_pos e,if_pos (b.symm.trans e)];exact⟨b,c⟩
  ·simp_all
def KV.put (r:KV kvs vs)(k:κ)(a:RelV y u):KV (putK kvs k y) (stored vs k u):=by
 delta putK stored;rw[r.any k]
 by_cases e:(vs.any λb=>decide (b.1=k))=true
 ·rw[if_pos e,if_pos e];exact r.jj k a
 ·rw[if_neg e,if_neg e];exact Paired.snoc r ⟨rfl,a⟩
theorem KV.keys{kvs:List (κ×V)}{vs:List (κ×cA)}(r:KV kvs vs):kvs.map (·.1)=vs.map (·.1):=by
 induction r with
 | nil=>rfl
 | cons h t a=>rw[ka,ka,a,h.1]
def KV.length (r:KV kvs vs):kvs.length=vs.length:=Paired.length r
end
theorem mS (r:RelV (kV k) u):(cP P w).is k u=true:=by
 cases k with
 | inl i=>obtain⟨t,e⟩:=(r);subst e;exact NV P w i t
 | inr x=>obtain⟨t,e⟩:=(r);subst e;exact Ni P w x t
theorem xa:∀{a:List Key}{us:List cA},aH (a.map kV) us->ItemsAre (cP P w) a us
 | [],_,r=>by rw[W9] at r;cases r;exact .nil
 | k::a,_,r=>by
  cases r with
  | cons h t=>exact .cons (mS h) (xa t)
abbrev KT(H:Hp):List (List Key×V)->List (List Key×eu×cA)->Prop:=WL λp q=>p.1=q.1/\H q.2.1=some (.tup (p.1.map kV))/\RelV p.2 q.2.2
theorem KT.val (r:KT H kvs xs)(k:List Key):jN (fJ kvs k) ((ZE xs k).map (·.2)):=by
 induction r with
 | nil=>exact WI
 | @cons p q ps a h t f =>
  obtain⟨d,_,g⟩:=h
  by_cases e:p.1=k
  ·have c:=d.symm.trans e;have b:ZE (q::a) k=some q.2:=by simp[ZE,Wj,c]
   rw[oY e,b];exact g
  ·have c:¬q.1=k:=λz=>e (d.trans z)
   have b:ZE (q::a) k=ZE a k:=by simp[ZE,Wj,c]
   rw[qw e,b];exact f
theorem KT.jj (r:KT H kvs xs)(k:List Key)(d:RelV y u) :
  KT H (kvs.map λb=>if b.1=k then (b.1,y) else b) (xs.map (putAt k u)):=by
 induction r with
 | nil=>exact .nil
 | @cons p q ps qs h t f =>
  simp;refine .cons ?_ f;obtain⟨a,c,g⟩:=h;delta putAt
  by_cases e:p.1=k
  ·rw[if_pos e,if_pos (a.symm.trans e)];exact⟨a,c,d⟩
  ·rw[if_neg e,if_neg (λz=>e (a.trans z))];exact⟨a,c,g⟩
def KT.put (r:KT H kvs xs)(k:List Key)(c:H b=some (.tup (k.map kV)))(a:RelV y u) :
  KT H (putK kvs k y) (storedH xs k b u):=by
 have e:(kvs.any λd=>decide (d.1=k))=(ZE xs k).isSome:=by
  rw[tT,(r.val k).qm,Yg]
 delta putK storedH;rw[e]
 by_cases q:(ZE xs k).isSome=true
 ·rw[if_pos q,if_pos q];exact r.jj k a
 ·rw[if_neg q,if_neg q];exact Paired.snoc r ⟨rfl,c,a⟩
def KT.keeps (r:KT H kvs xs)(c:∀b ys,H b=some (.tup ys)->a b=some (.tup ys)):KT a kvs xs :=
 Paired.nB r λ_ _ z=>⟨z.1,c _ _ z.2.1,z.2.2⟩
section
variable{P:lT}{w:px}{H:Hp}{h:qt}{a:eu}{X:Cx}{pins:List (eu×KX)}{σ:St}{s:ee}{y v:V}{u r:cA}{o:Option V}{A:r0}{E:cA->ee->Prop}
def xD{u:HO}(ok:cc P w H h)(e:Rd H a u):cO P w H h a u:=e.ok ok
def kK (ok:cc P w H h)(e:Rd H a (.dK kvs)):kvs.length<=dk/\(a==Vv)=false/\∃vs,KV kvs vs/\h.DictOf (cP P w) a vs :=
 show cO P w H h a (.dK kvs) from xD ok e
def NY (ok:cc P w H h)(e:H a=some (.dK kvs)):kvs.length<=dk/\(a==Vv)=false/\∃vs,KV kvs vs/\h.DictOf (cP P w) a vs:=kK ok (.inl e)
def p5 (ok:cc P w H h)(e:H a=some (.tup (b.map kV))):(Zf (cP P w)).is h b a:=by
 obtain⟨_,its,r,o,c,d,n,f⟩:=(ok a _ e)
 exact⟨o,its.toArray,n,c,d,f,by simpa using xa r⟩
theorem pI (ok:cc P w H h)(e:Rd H a (.dT kvs)):kvs.length<=dk/\(a==Vv)=false /\
  ∃xs,KT H kvs xs/\h.DictOfH (Zf (cP P w)) a xs:=by
 obtain⟨z,y,xs,r,o,d,ep,f,g,i,j,k⟩:=(xD ok e)
 refine⟨z,y,xs,r,o,d,ep,f,g,i,j,λx b=>?_,k⟩
 have all:∀{l:List (List Key×V)}{m:List (List Key×eu×cA)},KT H l m->∀x∈m,(Zf (cP P w)).is h x.1 x.2.1:=by
  intro l m q;induction q with
  | nil=>intro x b;exact nomatch b
  | @cons p q ps qs c t n =>
   intro x b
   rcases f'.mp b with e|b
   ·subst e;exact p5 ok (by rw[<-c.1];exact c.2.1)
   ·exact n x b
 exact all r x b
def JY (ok:cc P w H h)(e:H a=some (.dT kvs)):kvs.length<=dk/\(a==Vv)=false /\
  ∃xs,KT H kvs xs/\h.DictOfH (Zf (cP P w)) a xs:=pI ok (.inl e)
def i9(H:Hp)(a:eu)(y:V)(r:Option V):Prop :=
 (∃kvs k,Rd H a (.dK kvs)/\y=kV k/\r=fJ kvs k)\/∃kvs k b,Rd H a (.dT kvs)/\y=.ref b/\H b=some (.tup (k.map kV))/\r=fJ kvs k
def kC(H:Hp)(a:eu)(y v:V)(c:Hp):Prop :=
 (∃kvs k,H a=some (.dK kvs)/\y=kV k/\kvs.length<dk/\c=upd H a (.dK (putK kvs k v))) \/
 ∃kvs k b,H a=some (.dT kvs)/\y=.ref b/\H b=some (.tup (k.map kV))/\kvs.length<dk/\c=upd H a (.dT (putK kvs k v))
theorem i9.k{H:Hp}{a:eu}{kvs:List (Key×V)}{k:Key}(e:H a=some (.dK kvs)):i9 H a (kV k) (fJ kvs k):=.inl ⟨kvs,k,.inl e,rfl,rfl⟩
theorem kC.k{H:Hp}{a:eu}{kvs:List (Key×V)}{k:Key}{v:V}(e:H a=some (.dK kvs))(hl:kvs.length<dk):kC H a (kV k) v (upd H a (.dK (putK kvs k v))):=.inl ⟨kvs,k,e,rfl,hl,rfl⟩
def kC.t{H:Hp}{a b:eu}{kvs:List (List Key×V)}{k:List Key}{v:V}(e:H a=some (.dT kvs))(c:H b=some (.tup (k.map kV)))(hl:kvs.length<dk) :
  kC H a (.ref b) v (upd H a (.dT (putK kvs k v))):=.inr ⟨kvs,k,b,e,rfl,c,hl,rfl⟩
def Inv.vv(I:Inv X pins σ H s):Vv<s.heap.objs.size:=by
 have h:=(I.mod.glob.keeps I.bk).lt;exact V9 (by decide) h
def Lq (n:A.units+1<y3)(I:Inv X pins σ H s)(g:i9 H a y (some v))(j:RelV y u)(h:∀c s',Inv X pins σ H s'->RelV v c->Q c s') :
  iN (ma X.prog X.w) A (Yp (.ref a) u) Q E s:=by
 rcases g with⟨kvs,k,e,i,l⟩|⟨kvs,k,b,e,i,q,l⟩
 ·subst i;obtain⟨z,hd,vs,d,dd⟩:=kK I.aw e;obtain⟨c,hw,f⟩:=jN.some_of (by rw[l];exact d.val k)
  exact wpAny_getItem_of (mS j) dd.mapOf hw (h c _ (I.tok _) f)
 ·subst i;cases (j)
  obtain⟨z,hd,xs,d,dd⟩:=pI I.aw e;obtain⟨c,hw,f⟩:=jN.some_of (by rw[l];exact d.val k)
  obtain⟨p,t,m⟩:=hH.mp hw;refine wpAny_getItem_heap (Xu n) (p5 I.aw q) dd t ?_;simp[m];exact h c _ (I.tok _) f
def Kl (i:A.units+1<y3)(I:Inv X pins σ H s)(g:i9 H a y o)(f:RelV y u)(h:∀s',Inv X pins σ H s'->Q (.bool o.isSome) s') :
  iN (ma X.prog X.w) A (n5 .In u (.ref a)) Q E s:=by
 rcases g with⟨kvs,k,e,d,l⟩|⟨kvs,k,b,e,d,j,l⟩
 ·subst d;obtain⟨z,hd,vs,c,dd⟩:=kK I.aw e;refine wpAny_in_of (mS f) hd dd.mapOf ?_;rw[<-(c.val k).qm,<-l];exact h _ (I.tok _)
 ·subst d;cases (f)
  obtain⟨z,hd,xs,c,dd⟩:=pI I.aw e;refine wpAny_in_heap (Xu i) (p5 I.aw j) hd dd ?_;have q:=(c.val k).qm;rw[Yg] at q;simp only[<-q,<-l];exact h _ (I.tok _)
def NA (i:A.units+1<y3)(I:Inv X pins σ H s)(g:i9 H a y o)(f:RelV y u)(h:∀s',Inv X pins σ H s'->Q (.bool (!o.isSome)) s') :
  iN (ma X.prog X.w) A (n5 .NotIn u (.ref a)) Q E s:=by
 rcases g with⟨kvs,k,e,d,l⟩|⟨kvs,k,b,e,d,j,l⟩
 ·subst d;obtain⟨z,hd,vs,c,dd⟩:=kK I.aw e;refine wpAny_notIn_of (mS f) hd dd.mapOf ?_;rw[<-(c.val k).qm,<-l];exact h _ (I.tok _)
 ·subst d;cases (f)
  obtain⟨z,hd,xs,c,dd⟩:=pI I.aw e;refine wpAny_notIn_heap (Xu i) (p5 I.aw j) hd dd ?_;have q:=(c.val k).qm;rw[Yg] at q;simp only[<-q,<-l];exact h _ (I.tok _)
def Fe (I:Inv X pins σ H s)(f:o9 (H a))(hs:V3 a s.heap h')(g:∃q,h'.get? a=some q)(d:cO X.prog X.w (upd H a c) h' a c) :
  Inv X pins σ (upd H a c) {s with heap:=h',toks:=t'} :=
 I.write f (.inl rfl) (λb q i z=>(hs.2 b i).trans z) g d
def xA (z:kvs.length<=dk)(hd:(a==Vv)=false)(b:KV kvs vs)(dd:h'.DictOf (cP P w) a vs) :
  cO P w c h' a (.dK kvs):=⟨z,hd,vs,b,dd⟩
def GO (D:A.units+1<y3)(I:Inv X pins σ H s)(g:kC H a y v p)(t:RelV y u)(x:RelV v r)(h:∀s',Inv X pins σ p s'->Q () s') :
  iN (ma X.prog X.w) A (aal (.ref a) u r) Q E s:=by
 rcases g with⟨kvs,k,e,j,l,m⟩|⟨kvs,k,b,e,j,B,l,m⟩
 ·subst j m;obtain⟨z,hd,vs,d,dd⟩:=NY I.aw e;have n:vs.length<=sizeLine:=by rw[<-d.length];exact z
  have hl:(putK kvs k v).length<=sizeLine:=by have:=xW kvs k v;lia
  refine wpAny_setItem_pairs (mS t) dd λh' f hs=>h _ ?_
  have F:∃q,h'.get? a=some q:=let ⟨q,_,_,i,_⟩:=f;⟨q,i⟩
  exact Fe I (by rw[e];exact WI) hs F (xA hl hd (d.put k x) f)
 ·subst j m;cases (t)
  obtain⟨z,hd,xs,d,dd⟩:=JY I.aw e;have n:xs.length<=sizeLine:=by rw[<-Paired.length d];exact z
  have hl:(putK kvs k v).length<=sizeLine:=by have:=xW kvs k v;lia
  refine wpAny_setItem_heap (Xu D) (p5 I.aw B) dd λh' f hs=>h _ ?_
  obtain⟨q,G,ep,i,J,K,L,_,M⟩:=f;refine Fe I (by rw[e];exact WI) hs ⟨q,i⟩ ⟨hl,hd,_,(d.put k B x).keeps λc ys C=>?_,q,G,ep,i,J,K,L,M⟩
  rw[aC (MS C e (λz=>nomatch z))]
  exact C
end
section
variable{X:Cx}{pins:List (eu×KX)}{σ:St}{H:Hp}{s:ee}{a:eu}{kvs:List (Key×V)}{k:Key}{u:cA}{A:r0}{E:cA->ee->Prop}
def Ql (I:Inv X pins σ H s)(e:Rd H a (.dK kvs))(h:∀t s',Inv X pins σ H s'->Q (.int kvs.length t) s'):iN (ma X.prog X.w) A (call (.builtin "len") [.ref a]) Q E s:=by
 obtain⟨z,hd,vs,b,dd⟩:=kK I.aw e;refine call_len_dict hd dd (by rw[<-b.length];rw[z4] at z;omega) ?_
 rw[<-b.length];exact h _ _ (I.tok _)
end
def Cu(i:hY):Prop:=∀a b,Zk i false a b=operate [a,b] (Yp a b)
theorem HR{prog:lT}{w:px}{A:r0}{E:cA->ee->Prop}{s:ee}{env:Zl}{value slice:hY}{pos:z8}{T id:String}{Q:cA->ee->Prop}
 (hl:ZD (.type T) "__getitem__"=pure (some (.builtin id)))(hs:Cu slice)
 (h:iN (ma prog w) A (eval value env) (λo c=>iN (ma prog w) A (eval slice env) (λi a=>a.TypeIs o T/\iN (ma prog w) A (Yp o i) Q E a) E c) E s) :
  iN (ma prog w) A (eval (.Subscript value slice pos) env) Q E s:=by
 refine ZM (P' h (λo c f=>P' f (λi a b=>?_) λ_ _ x=>x) λ_ _ x=>x)
 obtain⟨j,b⟩:=b;refine bt ?_;refine bt (abR j hl ?_);have d:iN (ma prog w) A (Zk slice false o i) (λr e=>iN (ma prog w) A (letTemporaryGo value o r >>= λ_=>pure r) Q E e) E a:=by
  rw[hs o i];exact wpAny_operating (P' b (λr e g=>bt (wpAny_letTemporaryGo (eR g))) λ_ _ x=>x)
 first
  | exact eR (bt d)
  | exact bt (eR (bt d))
  | exact bt d
def Li (I:Inv X c d H s)(g:i9 H a y o):s.TypeIs (.ref a) "dict":=by
 rcases g with⟨kvs,k,e,_,_⟩|⟨kvs,k,b,e,_,_,_⟩
 ·obtain⟨_,_,vs,_,dd⟩:=kK I.aw e;exact dd.typeIs
 ·obtain⟨_,_,xs,_,dd⟩:=pI I.aw e;exact dd.typeIs
def PJ(d ty:TE):TE:=λb H Q=>d b H λx e=>ty b e λy c=>∃a v,x=.ref a/\i9 c a y (some v)/\Q v c
def ME(d ty e:TE):TS:=λD b H=>e b H λv f=>d b f λx g=>ty b g λy h=>∃a c,x=.ref a/\kC h a y v c/\D.nx b c
section
variable{X:Cx}{o i e value:hY}{pos pos' tpos:z8}{td ty tv:TE}{pins:List (eu×KX)}{σ:St}{H:Hp}{s:ee}{a:eu}{kvs:List (Key×V)}{A:r0}{E:cA->ee->Prop}
def yA(d:X.A.units+1<y3)(f:PE X o td)(j:PE X i ty)(hs:Cu i):PE X (.Subscript o i pos) (PJ td ty):=by
 intro pins s σ H Q I h;refine HR PySem.F.slot_dict_getitem.lookup hs (aG (f pins s σ H _ I h) λu k ⟨x,l,m,n,p⟩=>aG (j pins k σ l _ m p) λiv s2 ⟨y,q,b,r,a,v,ex,g,t⟩=>?_)
 subst ex;obtain rfl:u=t8 a:=n;exact⟨Li b g,Lq d b g r λw' s3 w c=>⟨v,q,w,c,t⟩⟩
def CM(b:X.A.units+1<y3)(c:PE X o td)(d:PE X i ty)(f:PE X value tv)(hs:P2 value (some (.Subscript o i pos')) pos.line X.env=pure false) :
  PS X (.Assign [.Subscript o i pos'] value pos) (ME td ty tv):=by
 intro pins s σ H D I h;refine wpAny_Assign_Subscript (aG (f pins s σ H _ I h) λr j ⟨v,k,l,m,n⟩=>aG (c pins j σ k _ l n) λu p ⟨x,q,t,w,z⟩=>aG (d pins p σ q _ t z) λiv s3 ⟨y,H3,B,C,a,F,ex,g,G⟩=>?_) hs
 subst ex;obtain rfl:u=t8 a:=w;exact GO b B g C m λs4 J=>⟨σ,F,J,G⟩
def G5 (h:qt)(b:Vv<h.objs.size):cO P w H (h.push {cls:=.type "dict",data:=.dict #[]}) h.objs.size (.dT []) :=
 ⟨qh _,beq_eq_false_iff_ne.mpr (Ne.symm (iW b)),[],.nil,_,#[],0,k5 _ rfl,⟨rfl,rfl,rfl⟩,rfl,rfl,VW⟩
def Jx:TE:=λ_ H Q=>∀p,H p=none->Q (.ref p) (upd H p (.dT []))
def IE:PE X (.Dict [] [] pos) Jx:=λpins s σ H Q I h =>
 wpAny_Dict_empty ⟨.ref s.heap.objs.size,_,I.laid (λ_ _ q=>fj _ q) (eT _) (G5 s.heap I.vv),rfl,h _ (I.aw.fresh (eT _))⟩
def lC(kvs more:List (Key×V)):List (Key×V):=more.foldl (λb c=>putK b c.1 c.2) kvs
theorem KV.merge:∀{more:List (Key×V)}{rs:List (Key×cA)}{kvs:List (Key×V)}{vs:List (Key×cA)},KV more rs->KV kvs vs->KV (lC kvs more) (aao vs rs):=by
 intro more rs kvs vs r;induction r generalizing kvs vs with
 | nil=>intro q;exact q
 | @cons p q ps qs h t b =>
  intro c;have e:KV (putK kvs p.1 p.2) (stored vs q.1 q.2):=by
   have:=c.put p.1 h.2;rw[<-h.1];exact this
  exact b e
theorem Ao:∀(more kvs:List (Key×V)),(lC kvs more).length<=kvs.length+more.length
 | [],kvs=>by show kvs.length<=kvs.length+0;omega
 | p::r,kvs=>by
  have h1:=Ao r (putK kvs p.1 p.2);have h2:=xW kvs p.1 p.2;show (lC (putK kvs p.1 p.2) r).length<=_;simp;lia
def Rf (I:Inv X pins σ H s)(e:Rd H a (.dK kvs))(h:∀p s',H p=none->Inv X pins σ (upd H p (.dK kvs)) s'->Q (.ref p) s'):iN (ma X.prog X.w) A (call (.type "dict") [.ref a]) Q E s:=by
 obtain⟨z,hd,vs,c,dd⟩:=kK I.aw e;refine kt_call_dict hd dd (by rw[<-c.length];exact z) λh' d hs=>?_
 refine h _ _ (I.aw.fresh (eT _)) (I.laid (λb q f=>?_) (eT _) (xA z (beq_eq_false_iff_ne.mpr (Ne.symm (iW I.vv))) c d))
 exact (hs.2 b (iW (gi f))).trans (fj _ f)
end
section
open PySem.W PySem.Calls
theorem P8:∀(ns:List Int) (vs:List cA),WellAll P h vs (ns.map abS)->Zv vs ns:=by
 intro ns;induction ns with
 | nil =>
  intro vs w;cases w;exact .nil
 | cons n ns c =>
  intro vs w;cases w with
  | cons a b =>
   cases a;exact .cons _ _ (c _ b)
theorem Ja{l:aaI}{n:Nat}(m:l.most=some n){P:Params}{h:qt}{args:List WData}{b:List cA}
 (c:l.row.toRowW.claim.pre args=true)(j:WellAll P h b args) :
  ∃a vs ns,b=[t8 a]/\args=[WData.list (ns.map abS)]/\h.get? a=some {cls:=.type "list",data:=.seq vs.toArray}/\Zv vs ns/\ns.length<=n:=by
 have kX:=(pre_splitW c).1;have k:=(pre_splitW c).2;obtain⟨d,r,rfl,o,p⟩:=hasAllW_cons kX;obtain rfl:=hasAllW_nil p;obtain⟨xs,rfl,s⟩:=hasW_list o;obtain⟨ns,rfl⟩:=items_int s;have g:ns.length<=n:=by
  have e:(WTm.not (.lt (.lit (.int (n:Int))) (.len (.arg 0)))).holds [] {args:=[.list (ns.map .int)]}=true:=by
   have e:=(holds_andW k).1;rw[m] at e;exact e
  have f:=condW_of e (w_not (w_lt w_lit (w_len_list (w_arg rfl))));refine Nat.le_of_not_lt λq=>?_
  first
   | (rw[decide_eq_true t] at f;exact absurd f rfl)
   | (simp at f;omega)
 cases j with
 | cons u v =>
  cases v;cases u with
  | list w i=>exact⟨_,_,ns,rfl,rfl,w,P8 ns _ i,g⟩
def Pa(l:aaI)(args:List WData):l.row.toRowW.claim.post args (.bool true) args=true :=
 postW_of
  (show WShape.has [] (.bool true) .bool=true by first|rfl|decide|simp[WShape.has,WShape.arms,WShape.armsAll])
  (w_eq_bool (w_res rfl) w_lit) rfl
end
theorem BU:∀{vs:List cA}{ns:List Int},Zv vs ns->aH (ns.map V.int) vs
 | _,_,.nil=>.nil
 | _,_,.cons n t h=>.cons ⟨t,rfl⟩ (BU h)
def EE(H:Hp):Prop:=∀b,H b=none\/∃o xs,H b=some (.bu o (.lst xs))
theorem Kz{P:lT}{w:px}{K:gj}{mg C:fk->Option cA}{CX:jq}{k:Nat}{fa a:eu}{L:lq}{x:fk}{sp:Sp}{c:ee}{vs:List cA}{ns:List Int}
 (M:K.In c.heap)(A:c.heap.Ns nE mg)(f:c.heap.Ns abf C)(N:∀x:fk,x≠"__name__"->C x=C' x)(D:c.heap.NoLimit)(Y:c.gens=#[])
 (t:c.heap.get? a=some {cls:=.type "list",data:=.seq vs.toArray})(O:Zv vs ns)(hl:ns.length<=dk)(Z:cZ k aar)
 (F:∀base:qt,K.In base->base.Ns nE mg->bb P w K mg base CX k fa L [x] sp)(y:∀(s:ee) (u:cA),aax s L ⟨[u],[]⟩ [(x,u)])
 (Q:∀H:Hp,EE H->cw K H a (ns.map V.int)->sp [.ref a] H (λv _=>v=.bl true) λ_ _ _=>False)
 (R:∀H e s',CX [] H c (λ_ _ _=>False) e s'->False) :
  XH (ma P w) aar (.call (.ref fa) ⟨[.ref a],[]⟩) (λr s'=>r=.ok (.ret (.bool true))/\OldK c.heap s'.heap/\s'.os=c.os/\Yr s'.gens) c:=by
 have S:=BU O;have E:=O.length;have j:∀H:Hp,EE H->cw K H a (ns.map V.int)->cc P w H c.heap->(∀b,H b≠none->b=a)->(H a≠none->K.lookup a=none) ->
   XH (ma P w) aar (.call (.ref fa) ⟨[.ref a],[]⟩) (λr s'=>r=.ok (.ret (.bool true))/\OldK c.heap s'.heap/\s'.os=c.os/\Yr s'.gens) c:=by
  intro H T hS aw hA hK;have g:∀{b:eu}{o:KX},c.heap.get? b=some o->H b=none->(ku c.heap H).get? b=some o:=λe n=>IQ e n
  have U:∀{b:eu}{o:KX}{l:Array W1}{ep:Nat},c.heap.get? b=some o->o.data=.dict l ep->H b=none:=λ{b o l ep} e d=>by
   cases q:H b with
   | none=>rfl
   | some u =>
    have G:=hA b (by rw[q];simp)
    subst G;rw[t] at e;obtain rfl:=sO e;contradiction
  have i:∀{b:eu}{m:fk->Option cA},c.heap.Ns b m->(ku c.heap H).Ns b m:=λ{b m} ⟨o,l,ep,e,d,r⟩=>⟨o,l,ep,g e (U e d),d,r⟩
  have B:K.In (ku c.heap H):=λb o e=>g (M b o e) (by
   cases q:H b with
   | none=>rfl
   | some u =>
    have G:=hA b (by rw[q];simp)
    subst G;rw[hK (by rw[q];simp)] at e;exact nO e)
  have hM:Mod K mg (ku c.heap H):=⟨B,i A,⟨C,i f,N⟩,let ⟨mc,h1,h2⟩:=D;⟨mc,i h1,h2⟩⟩
  have e0:rM P w K mg (ku c.heap H) aar [] c H:=⟨rfl,hM,λb o e=>HX e,abP (GH _ _),trivial,λb f=>absurd (show b∈([]:List eu) from f) (by simp),aw,.of_eq Y⟩
  refine X7 ((F _ B (i A)).run aar [] c H ⟨[.ref a],[]⟩ [.ref a] [.ref a] _ _ Z e0 (y c (.ref a)) (.cons rfl .nil) (Q H T hS)) λr s' h=>?_
  cases r with
  | error e=>exact (R H e s' h).elim
  | ok fl =>
   cases fl with
   | next=>exact VB h
   | brk=>exact VB h
   | cont=>exact VB h
   | ret u =>
    obtain⟨v,H',os,bare,un,I,r',q⟩:=h;have q':=q;subst q';obtain rfl:u=Hz true:=r';refine⟨rfl,OldK.of_keep λb o e=>?_,os,bare⟩
    cases q:H b with
    | none=>exact un.keep b o e q (by intro z;exact absurd (show b∈([]:List eu) from z) (by simp)) (by simp)
    | some u =>
     rcases T b with z|⟨ob,xs,z⟩
     ·rw[q] at z;contradiction
     ·have z2:=un.jr b ob _ z;obtain⟨X,_⟩:=aw b _ z;obtain⟨e2,_⟩:=I b _ z2;rw[e] at X;obtain rfl:=sO X;exact e2
 cases J:K.lookup a with
 | some o =>
  have e:=M a o J;rw[t] at e;obtain rfl:=sO e;refine j (λ_=>none) (λ_=>.inl rfl) (.inr ⟨_,vs.toArray,_,J,rfl,rfl,rfl,by rw[ft,E];exact hl,by simpa using S⟩) (λb u z=>by have p:(none:Option HO)=some u:=z;exact nO p) (λb z=>absurd rfl z) λz=>absurd rfl z
 | none =>
  refine j (λb=>if b=a then some (.bu {cls:=.type "list",data:=.seq vs.toArray} (.lst (ns.map V.int))) else none) (λb=>?_) (.inl (.inr ⟨{cls:=.type "list",data:=.seq vs.toArray},if_pos rfl⟩)) (λb u z=>?_) (λb z=>?_) λ_=>J
  ·by_cases f:b=a
   ·exact .inr ⟨_,_,if_pos f⟩
   ·exact .inl (if_neg f)
  ·by_cases f:b=a
   ·have p:=(if_pos f).symm.trans z;obtain rfl:=sO p;subst f;exact⟨t,by rw[ab];exact hl,vs,_,S,t⟩
   ·have p:=(if_neg f).symm.trans z;exact nO p
  ·by_cases f:b=a
   ·exact f
   ·exact absurd (if_neg f) z
noncomputable def oH(s:Wt):Arguments:=match s with
 | .FunctionDef _ a _ _ _ _ _ _ _ _=>a
 | _=>{posonlyargs:=[],args:=[],vararg:=none,kwonlyargs:=[],kw_defaults:=[],kwarg:=none,defaults:=[]}
noncomputable def jg(s:Wt):List Stmt:=match s with
 | .FunctionDef _ _ b _ _ _ _ _ _ _=>b
 | _=>[]
noncomputable def aV(s:Wt):Scope:=match s with
 | .FunctionDef _ _ _ _ _ _ a _ _ _=>a
 | _=>{kind:=.function,names:=[],isGenerator:=false,isCoroutine:=false}
abbrev a8:jq:=λ_ _ _ _ _ _=>False
abbrev E0:XK:=λ_ _ _=>False
def Ot:sM a8 X E0:=λ_ _ _ _ _ _ _ h=>h.elim
structure bw (K:gj) (x qual:fk) (st:Wt) (f:eu) (fd:lq):Prop where
 ex:∃(oc:cA) (od:Option eu) (kV doc pm:cA) (an:Option eu) (cdv ct:cA) (osl:Array (Option cA)),
  fd=YZ x qual (oH st) (jg st) (aV st) .none kV doc pm an cdv ct/\K.lookup f=some ⟨oc,od,.func fd,osl⟩/\abH K cdv qual=true
 kp:YJ K (.ref f)=true
section
variable{P:lT}{w:px}{K:gj}{mg:fk->Option cA}{base:qt}{Ar:r0}{X:Cx}{pins:List (eu×KX)}{σ:St}{H:Hp}{s:ee}{NB:List fk}{scope:VF}{s₂:ee}{E:cA->ee->Prop}
def bw.ok{x a:fk}{st:Wt}{f:eu}{e:lq}{N d:List fk}{k:Nat}{sp:Sp}(F:bw K x a st f e)(S:bH N d (aV st))(len:∀vs H Q E,sp vs H Q E->vs.length=d.length)
 (c:∀(b:cA) (A:r0) (outer:List Zl) (s:ee) (H:Hp) (vs:List V) (Q:VK) (E:XK),cZ k (A.deeper (Xx a (aV st) s.heap.objs.size f b))->sp vs H Q E ->
   ∃t,gZ (jI a8 P w K mg base N a (aV st) f b A outer s H E).k9 (jg st) t/\t {nx:=λ_ j=>Q .bj j,rt:=Q} (start N vs) H):bb P w K mg base a8 (k+1) f e d sp:=by
 obtain⟨oc,od,kV,doc,pm,an,b,ct,osl,rfl,lk,g⟩:=F.ex;refine Je lk g S len λA outer s H vs Q E l i=>?_
 obtain⟨t,h,q⟩:=c b A outer s H vs Q E l i;exact⟨t,h.k9,q⟩
def bw.binds{x a:fk}{st:Wt}{f:eu}{g:lq}{d:List fk}(F:bw K x a st f g)
 (h:∀(kV b pm:cA) (e:Option eu) (c ct:cA) (us:List cA),us.length=d.length->aaV (YZ x a (oH st) (jg st) (aV st) .none kV b pm e c ct) ⟨us,[]⟩=pure (d.zip us)):Binds K g d []:=by
 obtain⟨oc,od,kV,b,pm,e,c,ct,osl,rfl,lk,hcd⟩:=F.ex;exact .all (h kV b pm e c ct)
def Qa{x a:fk}{st:Wt}{f:eu}{h:cA}{i g:Option eu}{e:Array (Option cA)}{kV d pm b ct:cA}(l:K.lookup f=some ⟨h,i,.func (YZ x a (oH st) (jg st) (aV st) .none kV d pm g b ct),e⟩)
 (c:abH K b a=true)(k:YJ K (.ref f)=true):bw K x a st f (YZ x a (oH st) (jg st) (aV st) .none kV d pm g b ct):=⟨⟨h,i,kV,d,pm,g,b,ct,e,rfl,l,c⟩,k⟩
def aj(H a:Hp):Prop:=∀b o,H b=some o->a b=some o
def aj.refl(H):aj H H:=λ_ _ h=>h
def aj.trans (a:aj H d)(b:aj d e):aj H e:=λc o h=>b c o (a c o h)
noncomputable abbrev EL(ifs:List hY)(env:Zl):Sem Bool:=forIn ifs true λt ok =>
 if ok=true then (aap t env (eval t env)) >>= λb=>pure (.yield b)
 else pure (.yield ok)
abbrev oE:cA->ee->Prop:=λ_ _=>False
theorem Ms (W:Nat->ee->Prop)(turn:∀n c,W n c->iN (ma P w) Ar (Xv b) (λd g=>match d with
   | none=>k (.ok .next) g
   | some u=>iN (ma P w) Ar (X9 e b u)
     (λ_ o=>iN (ma P w) Ar (Wx e env u)
      (λ_ p=>iN (ma P w) Ar (EL ifs env)
       (λok h=>if ok=true then iN (ma P w) Ar (eval elt env)
         (λy q=>iN (ma P w) Ar (call (.builtin "list.append") [a,y]) (λ_ r=>∃m,m<n/\W m r) oE q) oE h
        else ∃m,m<n/\W m h) oE p) oE o) oE g) oE c)(t:Nat)(B:W t l):XH (ma P w) Ar (.compLoop (.ListComp elt [⟨e,f,ifs,0⟩] i j) 0 b a env) k l:=by
 refine codeAny_loop rfl W (λn c hw=>?_) t B
 refine wpAny_noted ?_;rw[compTurn_list];refine bt (Yz (bt (P' (turn n c hw) (λd g v=>?_) λ_ _ z=>z.elim)))
 cases d with
 | none=>exact eR v
 | some u =>
  refine bt (P' v (λ_ o C=>?_) λ_ _ z=>z.elim)
  refine bt (P' C (λ_ p D=>?_) λ_ _ z=>z.elim)
  refine bt (P' D (λok h A=>?_) λ_ _ z=>z.elim)
  cases ok with
  | false=>exact eR (acz rfl A)
  | true =>
   refine bt (bt (P' A (λy q F=>?_) λ_ _ z=>z.elim))
   refine bt (P' F (λ_ r G=>?_) λ_ _ z=>z.elim)
   exact eR (eR (acz rfl G))
theorem vF(env):∀(names:List (fk×Ym)) (cs:List (fk×eu)),(∀y∈names,y.2=.free->∃c,env.cells.lookup y.1=some c) ->
  (∀x c,cs.lookup x=some c->env.cells.lookup x=some c) ->
  ∃d:List (fk×eu),(forIn names cs (λ(x:fk×Ym) (r:List (fk×eu))=>if (x.2==Vj)=true then (do let a <-cellOf env x.1;pure (ZW ((x.1,a)::r))) else pure (ZW r)):Sem (List (fk×eu)))=pure d /\
   (∀x c,d.lookup x=some c->env.cells.lookup x=some c)/\(∀x,(cs.lookup x).isSome=true->(d.lookup x).isSome=true)/\∀y∈names,y.2=.free->(d.lookup y.1).isSome=true
 | [],cs,_,g=>⟨cs,by simp,g,λ_ h=>h,λ_ h=>by simp at h⟩
 | (n,k)::r,cs,u,g=>by
  have v:∀y∈r,y.2=.free->∃c,env.cells.lookup y.1=some c:=λy b=>u y (gf _ b)
  by_cases o:k=.free
  ·subst o;obtain⟨c,z⟩:=u (n,.free) fm rfl;have A:∀x i,((n,c)::cs).lookup x=some i->env.cells.lookup x=some i:=λx i e=>by
    rw[T2] at e;cases f:x==n with
    | true =>
     rw[f] at e;have:x=n:=by simpa using f
     subst this;simp only[z,e]
    | false =>
     rw[f] at e;exact g x i e
   obtain⟨d,p,q,j,t⟩:=vF env r ((n,c)::cs) v A;refine⟨d,?_,q,λx f=>j x ?_,λy b l=>?_⟩
   ·rw[XY];have m:cellOf env n=pure c:=by unfold cellOf;rw[z]
    simp only[if_true,m];exact p
   ·rw[T2];cases x==n<;>simp[f]
   ·rcases f'.mp b with rfl|b
    ·exact j _ (by simp[T2])
    ·exact t y b l
  ·obtain⟨d,p,q,j,t⟩:=vF env r cs v g;refine⟨d,?_,q,j,λy b l=>?_⟩
   ·rw[XY];have:(k==Vj)=false:=by simpa using o
    simp only[this,lD];exact p
   ·rcases f'.mp b with rfl|b
    ·exact absurd l o
    ·exact t y b l
def E5 (h:∀y∈scope.names,y.2=.free->∃c,env.cells.lookup y.1=some c) :
  ∃a,closureFor scope env=pure a/\(∀x c,a.lookup x=some c->env.cells.lookup x=some c)/\∀y∈scope.names,y.2=.free->(a.lookup y.1).isSome=true:=by
 obtain⟨a,b,d,_,f⟩:=vF env scope.names [] h (λ_ _ e=>by simp at e)
 refine⟨a,?_,d,f⟩;dsimp only[closureFor];simp only[<-b];simp only[bind_pure]
theorem qz [BEq a][LawfulBEq a]:∀{l:List (a×c)}{x:a}{k:c},l.lookup x=some k->(x,k)∈l
 | [],_,_,h=>by simp at h
 | (n,k')::r,x,k,h=>by
  rw[T2] at h;cases b:x==n with
  | true =>
   rw[b] at h;have:x=n:=by simpa using b
   subst this;simp at h;subst h;exact fm
  | false =>
   rw[b] at h;exact gf _ (qz h)
theorem yu(env:Zl):∀(names:List (fk×Ym)) (x:fk),
  (names.map λ(n,k)=>if (k==Vj&&env.scope.kind==.function&&env.kindOf n==some .cell) then (n,aav) else (n,k)).lookup x =
   (names.lookup x).map λk=>if (k==Vj&&env.scope.kind==.function&&env.kindOf x==some .cell) then aav else k
 | [],_=>rfl
 | (n,k)::r,x=>by
  rw[ka];cases b:x==n with
  | true =>
   have e:x=n:=by simpa using b
   subst e
   by_cases a:(k==Vj&&env.scope.kind==.function&&env.kindOf x==some .cell)=true
   ·simp only[a,if_true,T2,beq_self_eq_true,y4]
   ·simp only[a,if_false,T2,beq_self_eq_true,y4,lD]
  | false =>
   have c:=yu env r x
   by_cases a:(k==Vj&&env.scope.kind==.function&&env.kindOf n==some .cell)=true
   ·simp only[a,if_true,T2,b];exact c
   ·simp only[a,if_false,T2,b,lD];exact c
def JZ (h:scope.names.lookup x=some .free):(YW scope env).names.lookup x=some .cell\/(YW scope env).names.lookup x=some .free:=by
 delta YW;simp only[yu,h];simp only[y4];split
 ·exact .inl rfl
 ·exact .inr rfl
theorem JT (c:∀y∈scope.names,y.2≠.cell)(h:(YW scope env).names.lookup x=some .cell\/(YW scope env).names.lookup x=some .free):scope.names.lookup x=some .free:=by
 delta YW at h;rw[yu] at h;cases e:scope.names.lookup x with
 | none=>simp only[e] at h;simp at h
 | some k =>
  simp only[e] at h;have d:=c _ (qz e);simp only[y4] at h
  by_cases a:(k==Vj)=true
  ·rw[show k=Vj by simpa using a]
  ·grind
def cp(X:Cx)(NB:List fk)(scope:VF)(b:List (fk×eu))(C:eu)(a:ee)(H:Hp)(c:List eu):Cx :=
 {X with N:=NB,dQ:=a,qx:=H,env:=compEnvC scope b C X.env,outer:=X.stack,ex:=c,fn:=λ_=>false,pn:=[],xe:=λ_ _=>False}
noncomputable def eP(caps:List (Option Nat))(σ:St):St:=caps.map λo=>o.bind λj=>(σ[j]?).join
noncomputable def gG(N NB:List fk)(a:VF)(caps:List (Option Nat)):Bool :=
 caps.length==NB.length&&(hI caps.length).all λi=>match caps[i]? with
  | some (some j)=>(match NB[i]?,N[j]? with|some x,some y=>x==y&&a.names.lookup x==some .free|_,_=>false)
  | _=>true
def Gk (h:gG N NB a caps=true):(eP caps σ).length=NB.length:=by
 delta gG at h;rw[ey] at h;simp[eP];simpa using h.1
theorem K'{N NB:List fk}{c:VF}{σ:St}{caps:List (Option Nat)}{i:Nat}{x:fk}{v:V}(h:gG N NB c caps=true)(g:NB[i]?=some x)(a:(eP caps σ)[i]?=some (some v)) :
  c.names.lookup x=some .free/\∃j:Nat,N[j]?=some x/\σ[j]?=some (some v)/\caps[i]?=some (some j):=by
 delta gG at h;rw[ey] at h;delta eP at a;rw[cR] at a;cases e:caps[i]? with
 | none=>rw[e] at a;exact nO a
 | some o =>
  rw[e] at a;cases o with
  | none=>cases a
  | some j =>
   have d:=(cn.mp e).1;have q:=hG.mp h.2 i (mA.mpr d);rw[e] at q;dsimp only at q;rw[g] at q;cases b:N[j]? with
   | none=>rw[b] at q;contradiction
   | some y =>
    rw[b] at q;simp only[ey] at q;have k:x=y:=by simpa using q.1
    subst k;refine⟨by simpa using q.2,j,b,?_,rfl⟩
    simp at a;cases f:σ[j]? with
    | none=>rw[f] at a;exact nO a
    | some z =>
     rw[f] at a;have a:z=some v:=a;rw[a]
structure je (sc:VF) (scope:VF):Prop where
 kind:scope.kind=.function
 DY:∀y∈scope.names,y.2≠.cell
 loc:∀y∈scope.names,y.2=.local->scope.names.lookup y.1=some .local
 free:∀y∈scope.names,y.2=.free->sc.names.lookup y.1=some .cell\/sc.names.lookup y.1=some .free
def QC (I:Inv X pins σ H s)(S:je X.env.scope scope)(f:gG X.N NB scope caps=true)(a:∀x c,B.lookup x=some c->X.env.cells.lookup x=some c)(t:∀y∈scope.names,y.2=.free->(B.lookup y.1).isSome=true)(R:d.Ns s.heap.objs.size λ_=>none)(keep:∀b o,s.heap.get? b=some o->d.get? b=some o)(g:∀b∈Q,jd X pins H b/\b<s.heap.objs.size) :
  Inv (cp X NB scope B s.heap.objs.size s H Q) [] (eP caps σ) H {s with heap:=d,toks:=tk}:=by
 have hC:X.env.locals<s.heap.objs.size:=I.lt;refine⟨⟨I.ok.mod,?_,I.ok.glob,I.ok.blt,eT _,λx y c C D=>?_,λx W=>?_,λx c h=>?_,I.ok.hd,I.ok.frames,.inl rfl,λb n=>?_,λb o e=>?_,wd I.ok.ls I.sz,λb o e n=>?_,λb n Y=>?_,I.stack,I.Br⟩,
  rfl,I.bare,Un.kept keep,⟨_,R,λi x v C D h3=>?_⟩,λx c h=>?_,I.aw.fresh (eT _),λx c h=>?_,λp Z=>absurd (show p∈([]:List (eu×KX)) from Z) (by simp),I.aw.kept keep,Gk f⟩
 ·exact S.kind
 ·exact I.ok.inj x y c (a x c C) (a y c D)
 ·have q:=JT S.DY W;exact Xl.mp (t _ (qz q) rfl)
 ·exact absurd h (by show ¬(false=true);simp)
 ·obtain⟨⟨T,F,G,J,L,U⟩,lt⟩:=g b n;exact⟨iW lt,λx c e=>L x c (a x c e)⟩
 ·exact I.bs b o e
 ·obtain⟨⟨T,F,G,J,L,U⟩,lt⟩:=g b n
  rcases J with z|z
  ·exact I.ok.qJ b o e z
  ·exact absurd (l5 (l5 (gi e) I.ok.ls) z) (za _)
 ·obtain⟨⟨T,F,G,J,L,U⟩,lt⟩:=g b n
  rcases f'.mp (I.ug b Y) with z|z
  ·exact F z
  ·exact G z
 ·obtain⟨q,j,e1,e2,_⟩:=K' f C D;obtain⟨m,hn,hl⟩:=I.loc;have M:=S.free _ (qz q) rfl;have hv:cC X.env.scope x:=.inr M;obtain⟨u,r,l⟩:=hl j x v e1 e2 hv;refine⟨u,r,.inr ⟨JZ q,?_⟩⟩;obtain⟨c,V⟩:=Xl.mp (t _ (qz q) rfl);refine⟨c,V,?_⟩
  rcases l with⟨k,_⟩|⟨_,c',A,z⟩
  ·have k:X.env.scope.names.lookup x=some .local:=k;rw[k] at M
   rcases M with z|z<;>contradiction
  ·rw[a x c V] at A;obtain rfl:=sO A;obtain⟨o,O,hd⟩:=z;exact⟨o,keep c o O,hd⟩
 ·obtain⟨v,o,O,hd⟩:=I.cell x c (a x c h);exact⟨v,o,keep c o O,hd⟩
 ·exact I.il x c (a x c h)
def PF(X:Cx)(ifs:List hY)(t:TT):Prop :=
 ∀(pins:List (eu×KX)) (s:ee) (σ:St) (H:Hp) (Q:Bool->Hp->Prop),Inv X pins σ H s->t σ H Q ->
  iN (ma X.prog X.w) X.A (EL ifs X.env) (TP X pins σ Q) X.xe s
def Ge:TT:=λ_ H Q=>Q true H
def F4:PF X [] Ge:=λ_ _ _ H _ I h=>wpAny_tests_nil ⟨H,I,h⟩
def Rw (h:PT X c t):PF X [c] t:=λpins s σ H Q I a=>wpAny_tests_one (h pins s σ H Q I a)
def rE(caps:St->St)(l:TI)(g:TG)(tc:TT)(te:TE):TE:=fun σ H Q=>l σ H λJ h=>∀D,h D=none->∃W:Nat->Nat->St->Hp->Prop,
 (∃m,W 0 m (caps σ) (upd h D (.lst [])))/\∀i m e c,W i m e c ->
  (J.stop i c/\Q (.ref D) c)\/(J.go i c/\∀x f,J.ml i c x f->g x e f λa n=>tc a n λb j =>
   if b=true then te a j λy k=>∃ys,k D=some (.lst ys)/\ys.length<dk/\∃d,d<m/\W (i+1) d a (upd k D (.lst (ys++[y])))
   else ∃d,d<m/\W (i+1) d a j)
theorem Av{caps:List (Option Nat)}{elt iter tg:hY}{ifs:List hY}{pos:z8}{it:eu}{f:List eu}{Y:Nat->qt->Prop}{J:It}{j:Hp}{g:TG}{tc:TT}{te:TE}{k:List (fk×eu)}{Q:VK}{RR:cA->eu->ZF->ee->Prop}
 (I2:Inv X pins σ j s₂)(T:Turn X.prog X.w X.K tg J f it Y)(Sv:Y 0 s₂.heap)(f2:∀b∈f,jd X pins j b)(hc:X.calm=true)(S:je X.env.scope scope)(SI:gG X.N NB scope caps=true)
 (Sw:∀x c,k.lookup x=some c->X.env.cells.lookup x=some c)(SY:∀y∈scope.names,y.2=.free->(k.lookup y.1).isSome=true)
 (h:∀(k:List (fk×eu)) (C:eu) (a:ee) (H:Hp) (f:List eu),PG (cp X NB scope k C a H f) tg g/\PF (cp X NB scope k C a H f) ifs tc/\PE (cp X NB scope k C a H f) elt te)
 (hW:∀D,j D=none->∃W:Nat->Nat->St->Hp->Prop,(∃m,W 0 m (eP caps σ) (upd j D (.lst [])))/\∀i m I l,W i m I l ->
   (J.stop i l/\Q (.ref D) l)\/(J.go i l/\∀x Sx,J.ml i l x Sx->g x I Sx λR j=>tc R j λb H3 =>
    if b=true then te R H3 λy H4=>∃ys,H4 D=some (.lst ys)/\ys.length<dk/\∃G,G<m/\W (i+1) G R (upd H4 D (.lst (ys++[y])))
    else ∃G,G<m/\W (i+1) G R H3))
 (S8:∀D C l s' m,Inv X pins σ l s'->s'.heap.Ns C m->jd X pins l C->Q (.ref D) l->RR (.ref D) C (.ok .next) s') :
  iN (ma X.prog X.w) X.A (newList []) (λSy a=>iN (ma X.prog X.w) X.A (newFunctionEnv scope X.env.globals k [] X.env.qual none .none (some X.env)) (λSi M =>
   XH (ma X.prog X.w) X.A (.compStart (.ListComp elt [⟨tg,iter,ifs,0⟩] scope pos) 0 (.ref it) Sy {Si with scope:=YW scope X.env}) (RR Sy Si.locals) M) E a) E s₂:=by
 refine O1 (wpAny_newFunctionEnv S.DY (by intro y hy;simp at hy) (λt B F=>?_) S.kind)
 have I3:Inv X pins σ (upd j s₂.heap.objs.size (.lst [])) {s₂ with heap:=s₂.heap.push {cls:=.type "list",data:=.seq ([]:List cA).toArray},toks:=s₂.toks} :=
  I2.su .nil (qh _)
 obtain⟨W,⟨m0,w0⟩,hW⟩:=hW s₂.heap.objs.size I2.fresh;generalize Sj:({s₂ with heap:=s₂.heap.push {cls:=.type "list",data:=.seq ([]:List cA).toArray},toks:=s₂.toks}:ee)=a at I3
 have Sk:=congrArg (·.heap) Sj;have et3:=congrArg (·.toks) Sj
 have hsz:s₂.heap.objs.size<a.heap.objs.size:=by rw[<-Sk,Xb];exact V' _
 (try rw[Sk] at B F)
 have keep:∀b o,a.heap.get? b=some o->t.get? b=some o:=λb o e=>F.extBut b o (iW (gi e)) (fj _ e)
 have S9:∀b o,s₂.heap.get? b=some o->a.heap.get? b=some o:=λb o e=>by rw[<-Sk];exact fj _ e
 have U:∀b∈f,jd X pins (upd j s₂.heap.objs.size (.lst [])) b/\b<a.heap.objs.size:=λb h=>by
  obtain⟨o,e,_⟩:=T.obj _ _ Sv b h;have lt:=gi e;exact⟨⟨by rw[aC (iW lt)];exact (f2 b h).1,(f2 b h).2⟩,V9 lt hsz⟩
 have Ta:=T.keep _ _ _ Sv λb _ o e=>keep b o (S9 b o e)
 have Tb:=B
 have IB:Inv (cp X NB scope k a.heap.objs.size a (upd j s₂.heap.objs.size (.lst [])) f) [] (eP caps σ) (upd j s₂.heap.objs.size (.lst [])) {a with heap:=t,toks:=a.toks+([]:List (fk×cA)).length} :=
  QC I3 S SI Sw SY Tb keep U
 have pd:Y 0 ({a with heap:=t,toks:=a.toks+([]:List (fk×cA)).length}:ee).heap:=Ta
 generalize ({a with heap:=t,toks:=a.toks+([]:List (fk×cA)).length}:ee)=M at IB pd ⊢
 have Sl:∀{l:Hp},(∀b∈f,l b=none)->∀b∈f,jd (cp X NB scope k a.heap.objs.size a (upd j s₂.heap.objs.size (.lst [])) f) [] l b:=λhn b h=>by
  obtain⟨⟨f0,f1,Sz,f3,f4,f5⟩,lt⟩:=U b h;refine⟨hn b h,iW lt,λhm=>?_,.inl h,λx c e=>f4 x c (Sw x c e),λp hp=>absurd (show p∈([]:List (eu×KX)) from hp) (by simp)⟩
  rcases f'.mp (I2.ug b hm) with z|z
  ·exact f1 z
  ·exact Sz z
 obtain⟨bG,bF,bE⟩:=h k a.heap.objs.size a (upd j s₂.heap.objs.size (.lst [])) f;have Sn:XH (ma X.prog X.w) X.A (.compLoop (.ListComp elt [⟨tg,iter,ifs,0⟩] scope pos) 0 (.ref it) (.ref s₂.heap.objs.size) (compEnvC scope k a.heap.objs.size X.env)) (RR (.ref s₂.heap.objs.size) a.heap.objs.size) M:=by
  refine Ms (λn s'=>∃i I l,Inv (cp X NB scope k a.heap.objs.size a (upd j s₂.heap.objs.size (.lst [])) f) [] I l s'/\Y i s'.heap/\(∀b∈f,l b=none)/\W i n I l) ?_ m0
   ⟨0,_,_,IB,pd,λb h=>(U b h).1.1,w0⟩
  rintro n s5 ⟨i,V,H5,I5,SA,SD,w5⟩
  rcases hW i n V H5 w5 with⟨stop,q⟩|⟨go,step⟩
  ·refine aG (T.done (cp X NB scope k a.heap.objs.size a (upd j s₂.heap.objs.size (.lst [])) f) rfl rfl rfl hc i [] s5 V H5 (λ_ _=>False) I5 (Sl SD) SA stop) λr s6 ⟨hr,Z⟩=>?_
   subst hr;obtain⟨m,hn,_⟩:=Z.loc;refine S8 _ _ H5 s6 m ?_ hn (I3.kG (eT _) Z.free) q;refine I3.FW Z.os Z.base Z.aw Z.bare λb h=>?_
   obtain⟨⟨f0,f1,Sz,f3,f4,f5⟩,lt⟩:=U b h;exact⟨f3,f1,f4,f5⟩
  ·refine aG (T.item (cp X NB scope k a.heap.objs.size a (upd j s₂.heap.objs.size (.lst [])) f) rfl rfl rfl hc i [] s5 V H5 (λ_ _=>False) I5 (Sl SD) SA go) λr s6 ⟨u,hr,h6⟩=>?_
   subst hr;refine aG h6 λ_ s7 ⟨x,H7,I7,r7,y7,So,Tn⟩=>?_
   have To:=I7.pinned (Sl Tn) (T.obj _ _ So);have back:∀{Sq:St}{O:Hp}{s9:ee},Inv (cp X NB scope k a.heap.objs.size a (upd j s₂.heap.objs.size (.lst [])) f) ([]++pG f s7.heap) Sq O s9 ->
     Inv (cp X NB scope k a.heap.objs.size a (upd j s₂.heap.objs.size (.lst [])) f) [] Sq O s9/\Y (i+1) s9.heap/\∀b∈f,O b=none:=λ{Sq O s9} I9=>by
    refine⟨I9.ui,T.keep _ _ _ So λb h o e=>(I9.pin (b,o) (tm _ (tm _ (tZ h e)))).1,λb h=>?_⟩
    obtain⟨o,e,d⟩:=T.obj _ _ So b h;exact (I9.pin (b,o) (tm _ (tm _ (tZ h e)))).2.1
   refine aG (bG _ s7 V H7 x u _ To r7 (step x H7 y7)) λ_ s8 ⟨L,H8,I8,q8⟩=>?_
   refine aG (bF _ s8 L H8 _ I8 q8) λok s9 ⟨O,I9,q9⟩=>?_
   cases ok with
   | false =>
    obtain⟨G,hm,w9⟩:=q9;obtain⟨a1,a2,a3⟩:=back I9;exact⟨G,hm,i+1,L,O,a1,a2,a3,w9⟩
   | true =>
    refine aG (bE _ s9 L O _ I9 q9) λv Tq ⟨y,SE,Tr,Tt,ys,hD,hz,G,hm,Tu⟩=>?_
    refine aG (EX _ Tq L SE (.ref s₂.heap.objs.size) [y] (.ref s₂.heap.objs.size) [v] (λ_ SG=>SG=upd SE s₂.heap.objs.size (.lst (ys++[y]))) Tr rfl (.cons Tt .nil) ⟨_,ys,y,rfl,rfl,hD,hz,rfl⟩) λ_ s11 ⟨_,SG,Tv,_,Tw⟩=>?_
    subst Tw;obtain⟨a1,a2,a3⟩:=back Tv;exact⟨G,hm,i+1,L,_,a1,a2,a3,Tu⟩
 exact codeAny_compStart_list Sn (T.self _ 0 _ _ _ pd Sn)
end
section
variable{X:Cx}{NB:List fk}{caps:List (Option Nat)}{scope:VF}{elt iter tg:hY}{ifs:List hY}{pos:z8}{wi:TI}{g:TG}{tc:TT}{te:TE}{P:lT}{w:px}{H:Hp}{h h':qt}{a:eu}{o:HO}{pins:List (eu×KX)}{σ:St}{s:ee}{K:gj}{H':Hp}{H0:Hp×Hp}{Hi:Hp}{ps:Nat->Option eu}{Z:DS}
def Ey(B:X.calm=true)(S:je X.env.scope scope)(j:gG X.N NB scope caps=true)(E:PI X tg iter wi)
 (k:∀(d:List (fk×eu)) (C:eu) (c:ee) (H:Hp) (f:List eu),PG (cp X NB scope d C c H f) tg g/\PF (cp X NB scope d C c H f) ifs tc/\PE (cp X NB scope d C c H f) elt te)
 (hs:∀x,wy iter X.env x=pure x:=by intro _;rfl):PE X (.ListComp elt [⟨tg,iter,ifs,0⟩] scope pos) (rE (eP caps) wi g tc te):=by
 intro pins s σ H Q I h;obtain⟨d,i,r,t⟩:=E5 (λy F l=>I.ok.has y.1 (S.free y F l))
 refine ZZ rfl hs i S.kind S.loc (aG (E pins s σ H _ I h) λxv s₁ n=>aG n λitv s₂ p=>?_)
 obtain⟨it,f,tn,J,H2,rfl,G,T,u,L,M⟩:=p;refine Av G T u L B S j r t k M ?_
 intro D C H' s' m O R l q;refine⟨m,R,λh' z=>⟨.ref D,H',?_,rfl,q⟩⟩
 obtain⟨U,V,f2',W,Y,f5⟩:=l;exact O.turned (λb o k e=>(z.2 b k).trans e) U V W Y f5
def OJ (hN:X.N.Nodup)(F:X.N[i]?=some y)(n:Loc X.env.scope y)(hc:X.calm=true)(S:je X.env.scope scope)(p:gG X.N NB scope caps=true)(hi:PI X tg iter wi)(r:∀(j:List (fk×eu)) (C:eu) (c:ee) (H:Hp) (k:List eu),PG (cp X NB scope j C c H k) tg g/\PF (cp X NB scope j C c H k) ifs tc/\PE (cp X NB scope j C c H k) elt te)(G:P2 (.ListComp elt [⟨tg,iter,ifs,0⟩] scope pos) (some (.Name y py)) d.line X.env=pure true)(hs:∀x,wy iter X.env x=pure x:=by intro _;rfl)(t:X.fn y=true\/X.env.scope.names.lookup y=some .local:=by first|exact .inl rfl|exact .inr rfl|assumption) :
  PS X (.Assign [.Name y py] (.ListComp elt [⟨tg,iter,ifs,0⟩] scope pos) d) (w6 (rE (eP caps) wi g tc te) (rA i)):=by
 intro pins s σ H D I h;obtain⟨j,l,L,M⟩:=E5 (λy n t=>I.ok.has y.1 (S.free y n t))
 rw[exec_Assign_Name_used _ _ _ _ G];refine bt (Yz (bt ?_));show iN _ X.A (do let _ <-comprehension (.ListComp elt [⟨tg,iter,ifs,0⟩] scope pos) scope X.env _ (newList []) false (eval iter X.env) (some (Wx (.Name y py) X.env))) _ _ s
 refine bt (P' (ZZ rfl hs l S.kind S.loc (aG (hi pins s σ H _ I h) λxv s₁ u=>aG u λitv s₂ B=>?_)) (λ_ s' hq=>eR (eR hq)) λ_ _ e=>e)
 obtain⟨it,k,tn,J,H2,rfl,I2,T,O,f2,hW⟩:=B;refine Av (Q:=λx H1=>rA i x σ H1 D.nx) I2 T O f2 hc S p L M r hW ?_
 intro U C H' s' m I' hn V q;obtain⟨f0,W,f2',f3,Y,f5⟩:=V;refine abm (CY (v:=.ref U) I' hN F n rfl (λbe Sh f=>?_) t)
 obtain⟨a,f,ha⟩:=f;have Si:C≠a:=by
  rintro rfl
  rcases ha with z|z
  ·exact W z
  ·exact Y _ _ z rfl
 refine⟨m,hn.sameBut f Si,λh' E=>?_⟩
 exact⟨_,H',Sh.turned (λb o r e=>(E.2 b r).trans e) f0 W f3 Y f5,q⟩
theorem cO.alive(x:cO P w H h a o):∃u,h.get? a=some u:=by
 cases o with
 | lst xs=>obtain⟨z,its,n,r,e⟩:=x;exact⟨_,e⟩
 | tup xs=>obtain⟨z,its,r,b,e,c⟩:=x;exact⟨_,e⟩
 | dK kvs=>obtain⟨z,y,vs,r,b,i,ep,e,c⟩:=x;exact⟨_,e⟩
 | dT kvs=>obtain⟨z,y,xs,r,b,i,ep,e,c⟩:=x;exact⟨_,e⟩
 | set S n=>obtain⟨b,i,ep,t,e,c⟩:=x;exact⟨_,e⟩
 | ins C dx fs=>obtain⟨d,z,ne,e,j,_⟩:=x;exact⟨_,e⟩
 | own y=>exact x
 | xd fs=>obtain⟨j,⟨od,i,ep,e,c⟩,r⟩:=x;exact⟨_,e⟩
 | oR lo hi=>obtain⟨t,u,v,e⟩:=x;exact⟨_,e⟩
 | bu b u=>obtain⟨e,q⟩:=x;exact⟨_,e⟩
 | kO ps=>exact⟨_,x⟩
 | met f y=>exact⟨_,x⟩
 | ext φ=>obtain⟨p,e,st⟩:=x;exact e
def cc.tracked(x:cc P w H h)(k:∀b u,H b≠none->h.get? b=some u->h'.get? b=some u):cc P w H h':=λc d e =>
 (x c d e).gO (λb u f q=>k b u (by
  rcases f with z|z
  ·rw[z,e];simp
  ·rw[z];simp) q) (λ_ q=>q) λ_ _ q=>q
theorem cc.dead(x:cc P w H h)(e:h.get? a=none):H a=none:=by
 cases q:H a with
 | none=>rfl
 | some u=>obtain⟨v,z⟩:=(x a u q).alive;rw[e] at z;exact nO z
structure Flt (av:List eu) (H:Hp) (h₀:qt) (a:eu) (cls fl:cA) (h:qt):Prop where
 ex:∃(a0:cA) (T:eu) (oe oT:KX) (vs ts:Array cA),h.get? a=some oe/\oe.cls=cls/\oe.data=.fields vs/\vs[0]?=some a0/\vs[1]?=some (.ref T)/\T≠a/\h.get? T=some oT/\oT.data=.fields ts/\ts[3]?=some fl/\H T=none/\h₀.get? T=none/\T∉av
 na:H a=none
 nw:h₀.get? a=none
 nv:a∉av
abbrev Om(X:Cx)(pins:List (eu×KX)):List Addr:=(X.pn++pins).map (·.1)
def Jh(X:Cx)(σ:St)(b:cA)(a:eu)(H:Hp):Prop:=∀(pins:List (eu×KX)) (s:ee),Inv X pins σ H s->Flt (Om X pins) H X.dQ.heap a b .none s.heap->X.xe (.ref a) s
def G9(X:Cx)(σ:St)(C:eu)(H:Hp):Prop:=∀(pins:List (eu×KX)) (s:ee) (h':qt) (a:eu) (vs:List cA),Inv X pins σ H s->Heap.MadeExcOf s.heap h' a (.ref C) vs->X.xe (.ref a) {s with heap:=h'}
def Q1(a:eu)(cls:cA)(h:qt):Prop:=∃o vs,h.get? a=some o/\o.cls=cls/\o.data=.fields vs
noncomputable def excAt(a:eu)(b:cA):HO:=.ext (Q1 a b)
inductive Dat where
 | bj|bl (b:Bool)|int (i:Int)|str (x:fk)
 | tup (xs:List Dat)|lst (xs:List Dat)|bP (ks:List (fk×Dat))
 | exc (C:eu)
 | ins (C:eu×eu) (fs:List (fk×Dat))
 | cj (ns:List Int)
 | adr (p:eu)
 /-- a dict that is gone through: its object stays as it is -/
 | dR (ks:List (fk×Dat))
 /-- a dict whose keys are tuples of texts;fz: gone through,its object stays as it is -/
 | bf (fz:Bool) (ks:List (List fk×Dat))
mutual
/-- the value v is the datum d,over the heap H (and the module's own objects) -/
def Rep(K:gj)(H:Hp):Dat->V->Prop
 | .bj,v=>v=.bj
 | .bl b,v=>v=.bl b
 | .int i,v=>v=.int i
 | .str x,v=>v=.str x
 | .tup ds,v=>∃p vs,v=.ref p/\aX K H p vs/\az K H ds vs
 | .lst ds,v=>∃p vs,v=.ref p/\Rd H p (.lst vs)/\az K H ds vs
 | .bP c,v=>∃p kvs,v=.ref p/\H p=some (.dK kvs)/\bI K H c kvs
 | .exc C,v=>∃p,v=.ref p/\H p=some (excAt p (.ref C))
 | .ins C fs,v=>∃p e vs,v=.ref p/\H p=some (.ins C.1 e vs)/\mj K H fs vs/\p=C.2
 | .cj ns,v=>∃p,v=.ref p/\cw K H p (ns.map V.int)
 | .adr p,v=>v=.ref p
 | .dR c,v=>∃p o kvs,v=.ref p/\H p=some (.bu o (.dK kvs))/\bI K H c kvs
 | .bf f c,v=>∃p o kvs,v=.ref p/\H p=some (if f then .bu o (.dT kvs) else .dT kvs)/\bX K H c kvs
def az(K:gj)(H:Hp):List Dat->List V->Prop
 | [],vs=>vs=[]
 | d::ds,vs=>∃v r,vs=v::r/\Rep K H d v/\az K H ds r
def bI(K:gj)(H:Hp):List (fk×Dat)->List (Key×V)->Prop
 | [],kvs=>kvs=[]
 | (k,d)::c,kvs=>∃v r,kvs=(ro k,v)::r/\Rep K H d v/\bI K H c r
def bX(K:gj)(H:Hp):List (List fk×Dat)->List (List Key×V)->Prop
 | [],kvs=>kvs=[]
 | (k,d)::c,kvs=>∃v r,kvs=(k.map ro,v)::r/\Rep K H d v/\bX K H c r
def mj(K:gj)(H:Hp):List (fk×Dat)->List (fk×V)->Prop
 | [],kvs=>kvs=[]
 | (k,d)::c,kvs=>∃v r,kvs=(k,v)::r/\Rep K H d v/\mj K H c r
end
def aX.mono (s:aj H H')(h:aX K H p vs):aX K H' p vs:=by
 rcases h with (h|⟨o,h⟩)|h
 ·exact .inl (.inl (s _ _ h))
 ·exact .inl (.inr ⟨o,s _ _ h⟩)
 ·exact .inr h
def cw.mono (s:aj H H')(h:cw K H p vs):cw K H' p vs:=by
 rcases h with (h|⟨o,h⟩)|h
 ·exact .inl (.inl (s _ _ h))
 ·exact .inl (.inr ⟨o,s _ _ h⟩)
 ·exact .inr h
def Rd.mono (s:aj H H')(h:Rd H p u):Rd H' p u:=by
 rcases h with h|⟨o,h⟩
 ·exact .inl (s _ _ h)
 ·exact .inr ⟨o,s _ _ h⟩
mutual
theorem Rep.mono(s:aj H H'):∀{d:Dat}{v:V},Rep K H d v->Rep K H' d v
 | .bj,_,h=>h
 | .bl _,_,h=>h
 | .int _,_,h=>h
 | .str _,_,h=>h
 | .tup _,_,⟨p,vs,e,q,r⟩=>⟨p,vs,e,aX.mono s q,az.mono s r⟩
 | .lst _,_,⟨p,vs,e,q,r⟩=>⟨p,vs,e,Rd.mono s q,az.mono s r⟩
 | .bP _,_,⟨p,kvs,e,q,r⟩=>⟨p,kvs,e,s _ _ q,bI.mono s r⟩
 | .exc _,_,⟨p,e,q⟩=>⟨p,e,s _ _ q⟩
 | .ins _ _,_,⟨p,c,vs,e,q,r,z⟩=>⟨p,c,vs,e,s _ _ q,mj.mono s r,z⟩
 | .cj _,_,⟨p,e,q⟩=>⟨p,e,cw.mono s q⟩
 | .adr _,_,h=>h
 | .dR _,_,⟨p,o,kvs,e,q,r⟩=>⟨p,o,kvs,e,s _ _ q,bI.mono s r⟩
 | .bf _ _,_,⟨p,o,kvs,e,q,r⟩=>⟨p,o,kvs,e,s _ _ q,bX.mono s r⟩
theorem az.mono(s:aj H H'):∀{ds:List Dat}{vs:List V},az K H ds vs->az K H' ds vs
 | [],_,h=>h
 | _::_,_,⟨v,r,e,q,t⟩=>⟨v,r,e,Rep.mono s q,az.mono s t⟩
theorem bI.mono(s:aj H H'):∀{b:List (fk×Dat)}{kvs:List (Key×V)},bI K H b kvs->bI K H' b kvs
 | [],_,h=>h
 | (_,_)::_,_,⟨v,r,e,q,t⟩=>⟨v,r,e,Rep.mono s q,bI.mono s t⟩
theorem bX.mono(s:aj H H'):∀{b:List (List fk×Dat)}{kvs:List (List Key×V)},bX K H b kvs->bX K H' b kvs
 | [],_,h=>h
 | (_,_)::_,_,⟨v,r,e,q,t⟩=>⟨v,r,e,Rep.mono s q,bX.mono s t⟩
theorem mj.mono(s:aj H H'):∀{b:List (fk×Dat)}{kvs:List (fk×V)},mj K H b kvs->mj K H' b kvs
 | [],_,h=>h
 | (_,_)::_,_,⟨v,r,e,q,t⟩=>⟨v,r,e,Rep.mono s q,mj.mono s t⟩
end
theorem az.length:∀{ds:List Dat}{vs:List V},az K H ds vs->vs.length=ds.length
 | [],_,h=>by rw[show _=[] from h];rfl
 | _::_,_,⟨v,r,e,q,t⟩=>by rw[e,fv,fv,az.length t]
theorem az.append:∀{ds b:List Dat}{vs c:List V},az K H ds vs->az K H b c->az K H (ds++b) (vs++c)
 | [],_,_,_,h,h'=>by rw[show _=[] from h];exact h'
 | _::_,_,_,_,⟨v,r,e,q,t⟩,h'=>⟨v,r++_,by rw[e];rfl,q,az.append t h'⟩
theorem az.get:∀{ds:List Dat}{vs:List V}{i:Nat}{d:Dat},az K H ds vs->ds[i]?=some d->∃v,vs[i]?=some v/\Rep K H d v
 | [],_,_,_,_,e=>by simp at e
 | _::_,_,0,_,⟨v,r,e,q,t⟩,h=>by
  simp at h;subst h;exact⟨v,by rw[e];rfl,q⟩
 | _::_,_,i+1,d,⟨v,r,e,q,t⟩,h=>by
  obtain⟨w,a,b⟩:=az.get t (h)
  exact⟨w,by rw[e];simpa using a,b⟩
theorem az.set:∀{ds:List Dat}{vs:List V}{d:Dat}{v:V}(i:Nat),az K H ds vs->Rep K H d v->az K H (ds.set i d) (vs.set i v)
 | [],_,_,_,_,h,_=>by rw[show _=[] from h];exact rfl
 | _::_,_,_,_,0,⟨v,r,e,q,t⟩,h=>⟨_,r,by rw[e];rfl,h,t⟩
 | _::_,_,_,_,i+1,⟨v,r,e,q,t⟩,h=>⟨v,r.set i _,by rw[e];rfl,q,az.set i t h⟩
inductive Slot where
 /-- nothing,data,a list or dict that this frame owns (its content),one that the caller owns and lends -/
 | no|dat (d:Dat)|own (d:Dat)|io (d:Dat)
abbrev DS:=List Slot
inductive Res where
 | dat (d:Dat)|own (d:Dat)
noncomputable def Res.val:Res->Dat
 | .dat d=>d
 | .own d=>d
def cB(K:gj)(H Hi:Hp)(p:eu):Dat->Prop
 | .lst ds=>∃vs,H p=some (.lst vs)/\az K Hi ds vs/\Hi p=none
 | .bP b=>∃kvs,H p=some (.dK kvs)/\bI K Hi b kvs/\Hi p=none
 | .bf c b=>c=false/\∃kvs,H p=some (.dT kvs)/\bX K Hi b kvs/\Hi p=none
 | _=>False
def jE(Hi H:Hp)(p:eu)(o:HO):Prop:=Hi p=some o\/H p=none\/∃vs,o=.tup vs
def gE(ps:Nat->Option eu)(p:eu):Prop:=∃i,ps i=some p
structure SR (K:gj) (H0:Hp×Hp) (ps:Nat->Option eu) (Z:DS) (σ:St) (H Hi:Hp):Prop where
 sub:aj Hi H
 keep:∀b o,H0.1 b=some o->¬gE ps b->H b=some o
 fx:∀p,gE ps p->H p≠none
 dat:∀(i:Nat) (d:Dat),Z[i]?=some (.dat d)->∃v,σ[i]?=some (some v)/\Rep K Hi d v
 own:∀(i:Nat) (c:Dat),Z[i]?=some (.own c)->∃p,σ[i]?=some (some (.ref p))/\cB K H Hi p c/\¬gE ps p/\H0.1 p=none
 io:∀(i:Nat) (c:Dat),Z[i]?=some (.io c)->∃p,σ[i]?=some (some (.ref p))/\cB K H Hi p c/\ps i=some p
 ne:∀(i j:Nat) (c c':Dat) (p:eu),(Z[i]?=some (.own c)\/Z[i]?=some (.io c))->(Z[j]?=some (.own c')\/Z[j]?=some (.io c'))->σ[i]?=some (some (.ref p))->σ[j]?=some (some (.ref p))->i=j
 len:Z.length=σ.length
 nw:∀p o,Hi p=some o->jE H0.2 H0.1 p o
def RR(K:gj)(H0:Hp×Hp)(ps:Nat->Option eu)(Z:DS)(σ:St)(H Hi:Hp)(v:V):Res->Prop
 | .dat d=>Rep K Hi d v
 | .own c=>∃p,v=.ref p/\cB K H Hi p c/\¬gE ps p/\H0.1 p=none/\∀(i:Nat) (b:Dat),(Z[i]?=some (.own b)\/Z[i]?=some (.io b))->σ[i]?≠some (some (.ref p))
theorem cB.some (h:cB K H Hi p c):(∃o,H p=some o)/\Hi p=none:=by
 cases c with
 | lst ds=>obtain⟨vs,e,_,n⟩:=h;exact⟨⟨_,e⟩,n⟩
 | bP b=>obtain⟨vs,e,_,n⟩:=h;exact⟨⟨_,e⟩,n⟩
 | bf fz b=>obtain⟨_,vs,e,_,n⟩:=h;exact⟨⟨_,e⟩,n⟩
 | _=>exact h.elim
theorem cB.nt (h:cB K H Hi p c)(e:H p=Option.some (.tup vs)):False:=by
 cases c with
 | lst ds=>obtain⟨vs,q,_⟩:=h;rw[q] at e;cases e
 | bP b=>obtain⟨vs,q,_⟩:=h;rw[q] at e;cases e
 | bf fz b=>obtain⟨_,vs,q,_⟩:=h;rw[q] at e;cases e
 | _=>exact h.elim
theorem cB.keeps (h:cB K H Hi p c)(e:H' p=H p)(s:aj Hi b)(n:b p=none):cB K H' b p c:=by
 cases c with
 | lst ds=>obtain⟨vs,q,r,_⟩:=h;exact⟨vs,e.trans q,az.mono s r,n⟩
 | bP d=>obtain⟨vs,q,r,_⟩:=h;exact⟨vs,e.trans q,bI.mono s r,n⟩
 | bf fz d=>obtain⟨z,vs,q,r,_⟩:=h;exact⟨z,vs,e.trans q,bX.mono s r,n⟩
 | _=>exact h.elim
def j9 (h:H p=none):aj H (upd H p o):=λb u e=>by
 rw[aC (dC e h)];exact e
def wA (s:aj Hi H):aj (upd Hi p o) (upd H p o):=λb u e=>by
 by_cases c:b=p
 ·subst c;rw[ba] at e ⊢;exact e
 ·rw[aC c] at e ⊢;exact s b u e
def Cv (s:aj Hi H)(h:H p=some o):aj (upd Hi p o) H:=λb u e=>by
 by_cases c:b=p
 ·subst c;rw[ba] at e;exact h.trans e
 ·rw[aC c] at e;exact s b u e
def rV (s:aj Hi H)(h:Hi p=none):aj Hi (upd H p o):=λb u e=>by
 rw[aC (dC e h)];exact s b u e
theorem SR.dw(S:SR K H0 ps Z σ H Hi)(h:H p=none):Hi p=none:=by
 cases e:Hi p with
 | none=>rfl
 | some o=>rw[S.sub _ _ e] at h;contradiction
theorem SR.bJ(S:SR K H0 ps Z σ H Hi)(h:H p=none):H0.1 p=none/\¬gE ps p:=by
 have b:¬gE ps p:=λm=>S.fx p m h
 refine⟨?_,b⟩;cases e:H0.1 p with
 | none=>rfl
 | some o=>rw[S.keep _ _ e b] at h;contradiction
def SR.laid(S:SR K H0 ps Z σ H Hi)(h:H p=none):SR K H0 ps Z σ (upd H p o) (upd Hi p o)/\aj Hi (upd Hi p o):=by
 have k:=S.dw h;have sm:aj Hi (upd Hi p o):=j9 k;have ne:∀{q:eu}{c:Dat},cB K H Hi q c->q≠p:=λf=>dC f.some.1.choose_spec h
 refine⟨⟨wA S.sub,λb u e n=>?_,λq m=>?_,λi d e=>?_,λi c e=>?_,λi c e=>?_,S.ne,S.len,λq u e=>?_⟩,sm⟩
 ·rw[aC (dC (S.keep b u e n) h)];exact S.keep b u e n
 ·by_cases f:q=p
  ·subst f;rw[ba];simp
  ·rw[aC f];exact S.fx q m
 ·obtain⟨v,a,b⟩:=S.dat i d e;exact⟨v,a,Rep.mono sm b⟩
 ·obtain⟨q,a,b,j,l⟩:=S.own i c e;exact⟨q,a,b.keeps (aC (ne b)) sm (by rw[aC (ne b)];exact b.some.2),j,l⟩
 ·obtain⟨q,a,b,j⟩:=S.io i c e;exact⟨q,a,b.keeps (aC (ne b)) sm (by rw[aC (ne b)];exact b.some.2),j⟩
 ·by_cases f:q=p
  ·subst f;exact .inr (.inl (S.bJ h).1)
  ·rw[aC f] at e;exact S.nw q u e
def SR.made(S:SR K H0 ps Z σ H Hi)(h:H p=none):SR K H0 ps Z σ (upd H p o) Hi:=by
 have j:=S.dw h;have ne:∀{q:eu}{c:Dat},cB K H Hi q c->q≠p:=λd=>dC d.some.1.choose_spec h
 refine⟨rV S.sub j,λb u e n=>?_,λq m=>?_,S.dat,λi c e=>?_,λi c e=>?_,S.ne,S.len,S.nw⟩
 ·rw[aC (dC (S.keep b u e n) h)];exact S.keep b u e n
 ·by_cases d:q=p
  ·subst d;rw[ba];simp
  ·rw[aC d];exact S.fx q m
 ·obtain⟨q,a,b,f,k⟩:=S.own i c e;exact⟨q,a,b.keeps (aC (ne b)) (aj.refl _) b.some.2,f,k⟩
 ·obtain⟨q,a,b,f⟩:=S.io i c e;exact⟨q,a,b.keeps (aC (ne b)) (aj.refl _) b.some.2,f⟩
def SR.dP(S:SR K H0 ps Z σ H Hi)(h:H p=none):∀(i:Nat) (c:Dat),(Z[i]?=some (.own c)\/Z[i]?=some (.io c))->σ[i]?≠some (some (.ref p)):=by
 rintro i c (e|e) z
 ·obtain⟨q,a,b,_⟩:=S.own i c e;rw[a] at z;cases z;rw[b.some.1.choose_spec] at h;cases h
 ·obtain⟨q,a,b,_⟩:=S.io i c e;rw[a] at z;cases z;rw[b.some.1.choose_spec] at h;cases h
theorem SR.freeze(S:SR K H0 ps Z σ H Hi)(h:RR K H0 ps Z σ H Hi v r):∃f,SR K H0 ps Z σ H f/\aj Hi f/\Rep K f r.val v:=by
 cases r with
 | dat d=>exact⟨Hi,S,aj.refl _,h⟩
 | own c =>
  obtain⟨p,rfl,l,np,y,nd⟩:=h;have go:∀o,H p=some o->(∃f,f=upd Hi p o/\SR K H0 ps Z σ H f/\aj Hi f):=λo e=>by
   have A:=l.some.2;have sm:aj Hi (upd Hi p o):=j9 A;refine⟨_,rfl,⟨Cv S.sub e,S.keep,S.fx,λi d j=>?_,λi m j=>?_,λi m j=>?_,S.ne,S.len,λq u j=>?_⟩,sm⟩
   ·obtain⟨v,a,b⟩:=S.dat i d j;exact⟨v,a,Rep.mono sm b⟩
   ·obtain⟨q,a,b,x,B⟩:=S.own i m j;have k:q≠p:=λz=>nd i m (.inl j) (by rw[a,z])
    exact⟨q,a,b.keeps rfl sm (by rw[aC k];exact b.some.2),x,B⟩
   ·obtain⟨q,a,b,x⟩:=S.io i m j;have k:q≠p:=λz=>nd i m (.inr j) (by rw[a,z])
    exact⟨q,a,b.keeps rfl sm (by rw[aC k];exact b.some.2),x⟩
   ·by_cases k:q=p
    ·subst k;exact .inr (.inl y)
    ·rw[aC k] at j;exact S.nw q u j
  cases c with
  | lst ds =>
   obtain⟨vs,e,r,n⟩:=l;obtain⟨f,rfl,t,sm⟩:=go _ e;exact⟨_,t,sm,p,vs,rfl,Rd.of ba,az.mono sm r⟩
  | bP C =>
   obtain⟨vs,e,r,n⟩:=l;obtain⟨f,rfl,t,sm⟩:=go _ e;exact⟨_,t,sm,p,vs,rfl,ba,bI.mono sm r⟩
  | bf fz C =>
   obtain⟨rfl,vs,e,r,n⟩:=l;obtain⟨f,rfl,t,sm⟩:=go _ e;exact⟨_,t,sm,p,{cls:=.none,data:=.fields #[]},vs,rfl,ba,bX.mono sm r⟩
  | _=>exact l.elim
end
abbrev EF:=DS->Option (Res×DS)
abbrev DF:=DS->Option (Dat×DS)
abbrev BF:=DS->Option (Bool×DS)
abbrev AF:=DS->Option (List Dat×DS)
def QO(K:gj)(c:Hp×Hp)(d:Nat->Option eu)(e:St)(g:Hp)(Q:VK)(r:Res)(f:DS):Prop:=∀v b a,SR K c d f e b a->aj g a->RR K c d f e b a v r->Q v b
def P4(K:gj)(c:Hp×Hp)(e:Nat->Option eu)(f:St)(g:Hp)(Q:VK)(d:Dat)(h:DS):Prop:=∀v b a,SR K c e h f b a->aj g a->Rep K a d v->Q v b
def xk(K:gj)(c:Hp×Hp)(d:Nat->Option eu)(e:St)(f:Hp)(Q:Hp->Prop)(g:DS):Prop:=∀b a,SR K c d g e b a->aj f a->Q b
def Gn(K:gj)(c:Hp×Hp)(d:Nat->Option eu)(e:St)(f:Hp)(Q:List V->Hp->Prop)(ds:List Dat)(g:DS):Prop:=∀vs b a,SR K c d g e b a->aj f a->az K a ds vs->Q vs b
def LJ(X:Cx)(f:EF)(t:TE):Prop:=∀(b:Hp×Hp) (c:Nat->Option eu) (Z:DS) (a:St) (H d:Hp) (r:Res) (e:DS) (Q:VK),f Z=some (r,e)->SR X.K b c Z a H d ->
 QO X.K b c a d Q r e->t a H Q
inductive DE (X:Cx) (e:hY) (f:EF):Prop
 | mk (t:TE) (p:PE X e t) (q:LJ X f t)
def IS(X:Cx)(f:DF)(t:TE):Prop:=∀(b:Hp×Hp) (c:Nat->Option eu) (Z:DS) (a:St) (H e:Hp) (d:Dat) (g:DS) (Q:VK),f Z=some (d,g)->SR X.K b c Z a H e ->
 P4 X.K b c a e Q d g->t a H Q
inductive DD (X:Cx) (e:hY) (f:DF):Prop
 | mk (t:TE) (p:PE X e t) (q:IS X f t)
def FH(X:Cx)(f:BF)(t:TT):Prop:=∀(c:Hp×Hp) (d:Nat->Option eu) (Z:DS) (a:St) (H e:Hp) (b:Bool) (g:DS) (Q:Bool->Hp->Prop),f Z=some (b,g)->SR X.K c d Z a H e ->
 xk X.K c d a e (Q b) g->t a H Q
inductive DT (X:Cx) (e:hY) (f:BF):Prop
 | mk (t:TT) (p:PT X e t) (q:FH X f t)
def Pj(X:Cx)(f:BF)(t:TT):Prop:=∀(c:Hp×Hp) (d:Nat->Option eu) (Z:DS) (a:St) (H e:Hp) (b:Bool) (g:DS) (Q:Bool->Hp->Prop),f Z=some (b,g)->SR X.K c d Z a H e ->
 xk X.K c d a e (Q b) g->t a H Q
inductive DW (X:Cx) (e:hY) (f:BF):Prop
 | mk (t:TT) (p:PW X e t) (q:Pj X f t)
def ID(X:Cx)(f:AF)(t:TA):Prop:=∀(b:Hp×Hp) (c:Nat->Option eu) (Z:DS) (a:St) (H d:Hp) (ds:List Dat) (e:DS) (Q:List V->Hp->Prop),f Z=some (ds,e)->SR X.K b c Z a H d ->
 Gn X.K b c a d Q ds e->t a H Q
inductive DA (X:Cx) (es:List hY) (f:AF):Prop
 | mk (t:TA) (p:PA X es t) (q:ID X f t)
def jf(f:EF):DF:=λZ=>(f Z).map λp=>(p.1.val,p.2)
noncomputable def pT(f:DF):EF:=λZ=>(f Z).map λp=>(.dat p.1,p.2)
section
variable{X:Cx}{e a b c:hY}{pos:z8}{K:gj}{H0:Hp×Hp}{H Hi:Hp}{ps:Nat->Option eu}{Z Z':DS}{σ:St}{i:Nat}{r:Res}{v:V}
def DW.dt (h:DW X e f):DT X e f:=let ⟨t,p,q⟩:=h;⟨t,p.pt,q⟩
def DE.dd (h:DE X e f):DD X e (jf f):=by
 obtain⟨t,p,q⟩:=h;refine⟨t,p,λH0 ps Z σ H Hi d Z' Q g S k=>?_⟩
 obtain⟨r,Z1,m,g⟩:=oN g;obtain⟨rfl,rfl⟩:=sP g;refine q H0 ps Z σ H Hi r Z1 Q m S λv n Hi' o s' s=>?_
 obtain⟨j,u,w,l⟩:=o.freeze s;exact k v n j u (s'.trans w) l
def DD.de (h:DD X e f):DE X e (pT f):=by
 obtain⟨t,p,q⟩:=h;refine⟨t,p,λH0 ps Z σ H Hi r Z' Q g S k=>?_⟩
 obtain⟨d,Z1,m,g⟩:=oN g;obtain⟨rfl,rfl⟩:=sP g;exact q H0 ps Z σ H Hi d Z1 Q m S λv n j o s' l=>k v n j o s' l
noncomputable def fC(d:Dat):DF:=λZ=>some (d,Z)
def tM (h:PE X e (tC v))(r:∀H,Rep X.K H d v):DD X e (fC d) :=
 ⟨_,h,λH0 ps Z σ H Hi d' Z' Q f S k=>by obtain⟨rfl,rfl⟩:=sP f;exact k v H Hi S (aj.refl _) (r _)⟩
def Oq{i j}:DD X (.Constant (.int i) j pos) (fC (.int i)):=tM NZ λ_=>rfl
def yP{i j}:DD X (.Constant (.bool i) j pos) (fC (.bl i)):=tM R1 λ_=>rfl
def Q4{x j}:DD X (.Constant (.str x) j pos) (fC (.str x)):=tM Fi λ_=>rfl
structure Glob (X:Cx) (x:fk) (d:Dat):Prop where
 gl:Gl X x
 is:∃v u,X.mg x=some u/\RelV v u/\∀H,Rep X.K H d v
def Mq (h:Glob X x d)(hd:bO x:=by decide):DD X (.Name x pos) (fC d):=by
 obtain⟨v,u,f,g,j⟩:=h.is;exact tM (zX h.gl f g hd) j
noncomputable def eC(i:Nat):DF:=λZ=>match Z[i]? with
 | some (.dat d)=>some (d,Z)
 | some (.own c)=>some (c,Z.set i (.dat c))
 | _=>none
def SR.yZ{K:gj}{H0:Hp×Hp}{H Hi:Hp}{ps:Nat->Option eu}{Z:DS}{σ:St}{i:Nat}{c:Dat}(S:SR K H0 ps Z σ H Hi)(e:Z[i]?=some (.own c)) :
  ∃l v,σ[i]?=some (some v)/\SR K H0 ps (Z.set i (.dat c)) σ H l/\aj Hi l/\Rep K l c v:=by
 obtain⟨p,u,B,C,D⟩:=S.own i c e;have n:=(cn.mp e).1;have E:SR K H0 ps (Z.set i .no) σ H Hi:=by
  have get:∀{j:Nat}{s:Slot},(Z.set i .no)[j]?=some s->s≠.no->j≠i/\Z[j]?=some s:=λ{j s} h x=>by
   by_cases f:j=i
   ·subst f;rw[o3 n] at h;obtain rfl:=sO h;exact absurd rfl x
   ·rw[oy (Ne.symm f)] at h;exact⟨f,h⟩
  refine⟨S.sub,S.keep,S.fx,λj d h=>S.dat j d (get h (by simp)).2,λj g h=>S.own j g (get h (by simp)).2,λj g h=>S.io j g (get h (by simp)).2,λj k g o q y A=>?_,by rw[H9];exact S.len,S.nw⟩
  exact S.ne j k g o q (y.imp (λz=>(get z (by simp)).2) λz=>(get z (by simp)).2) (A.imp (λz=>(get z (by simp)).2) λz=>(get z (by simp)).2)
 have r:RR K H0 ps (Z.set i .no) σ H Hi (.ref p) (.own c):=by
  refine⟨p,rfl,B,C,D,λj g h z=>?_⟩
  have f:j≠i:=λw=>by
   subst w;rw[o3 n] at h
   rcases h with h|h<;>cases h
  rw[oy (Ne.symm f)] at h;exact f (S.ne j i g c p h (.inl e) z u)
 obtain⟨l,m,F,t⟩:=E.freeze r;refine⟨l,.ref p,u,⟨m.sub,m.keep,m.fx,λj d h=>?_,λj g h=>?_,λj g h=>?_,λj k g o q y A G I=>?_,by rw[H9];exact S.len,m.nw⟩,F,t⟩
 ·by_cases f:j=i
  ·subst f;rw[o3 n] at h;cases h;exact⟨_,u,t⟩
  ·rw[oy (Ne.symm f)] at h;exact m.dat j d (by rw[oy (Ne.symm f)];exact h)
 all_goals
  have back:∀{j:Nat}{s:Slot},(Z.set i (.dat c))[j]?=some s->(∀d,s≠.dat d)->(Z.set i .no)[j]?=some s:=λ{j s} h x=>by
   by_cases f:j=i
   ·subst f;rw[o3 n] at h;obtain rfl:=sO h;exact absurd rfl (x c)
   ·rw[oy (Ne.symm f)] at h ⊢;exact h
 ·exact m.own j g (back h (by intro d;simp))
 ·exact m.io j g (back h (by intro d;simp))
 ·exact m.ne j k g o q (y.imp (λz=>back z (by intro d;simp)) λz=>back z (by intro d;simp)) (A.imp (λz=>back z (by intro d;simp)) λz=>back z (by intro d;simp)) G I
def G2 (i:Nat)(m:X.N[i]?=some x)(n:cC X.env.scope x)(hd:bO x:=by decide)(j:dh x:=by decide):DD X (.Name x pos) (eC i):=by
 refine⟨_,fT m n hd j,λH0 ps Z σ H Hi d Z' Q f S k=>?_⟩
 unfold eC at f;split at f
 ·rename_i d0 g;cases f;obtain⟨v,h,r⟩:=S.dat i d g;exact⟨v,h,k v H Hi S (aj.refl _) r⟩
 ·rename_i c0 g;obtain⟨rfl,rfl⟩:=sP f;obtain⟨l,v,h,o,s',r⟩:=S.yZ g;exact⟨v,h,k v H l o s' r⟩
 ·exact nO f
noncomputable def v8(i:Nat):EF:=λZ=>match Z[i]? with
 | some (.dat d)=>some (.dat d,Z)
 | some (.own c)=>some (.own c,Z.set i .no)
 | _=>none
def HH (i:Nat)(w:X.N[i]?=some x)(y:cC X.env.scope x)(hd:bO x:=by decide)(o:dh x:=by decide):DE X (.Name x pos) (v8 i):=by
 refine⟨_,fT w y hd o,λH0 ps Z σ H Hi r Z' Q g S k=>?_⟩
 unfold v8 at g;split at g
 ·rename_i A l;obtain⟨rfl,rfl⟩:=sP g;obtain⟨v,m,r⟩:=S.dat i A l;exact⟨v,m,k v H Hi S (aj.refl _) r⟩
 ·rename_i c0 l;obtain⟨rfl,rfl⟩:=sP g;obtain⟨p,m,B,C,D⟩:=S.own i c0 l;have t:=(cn.mp l).1;have get:∀{j:Nat}{s:Slot},(Z.set i .no)[j]?=some s->s≠.no->j≠i/\Z[j]?=some s:=λ{j s} h E=>by
   by_cases n:j=i
   ·subst n;rw[o3 t] at h;obtain rfl:=sO h;exact absurd rfl E
   ·rw[oy (Ne.symm n)] at h;exact⟨n,h⟩
  refine⟨.ref p,m,k (.ref p) H Hi ⟨S.sub,S.keep,S.fx,λj d h=>S.dat j d (get h (by simp)).2,λj f h=>S.own j f (get h (by simp)).2,λj f h=>S.io j f (get h (by simp)).2,λj k f u q F G=>?_,by rw[H9];exact S.len,S.nw⟩ (aj.refl _) ⟨p,rfl,B,C,D,λj f h z=>?_⟩⟩
  ·exact S.ne j k f u q (F.imp (λz=>(get z (by simp)).2) λz=>(get z (by simp)).2) (G.imp (λz=>(get z (by simp)).2) λz=>(get z (by simp)).2)
  ·have h':j≠i/\(Z[j]?=some (.own f)\/Z[j]?=some (.io f)):=by
    rcases h with h|h
    ·exact⟨(get h (by simp)).1,.inl (get h (by simp)).2⟩
    ·exact⟨(get h (by simp)).1,.inr (get h (by simp)).2⟩
   exact h'.1 (S.ne j i f c0 p h'.2 (.inl l) z m)
 ·exact nO g
noncomputable def cK(op:Dat->Dat->Option Res)(f g:DF):EF:=λZ=>(f Z).bind λp=>(g p.2).bind λq=>(op p.1 q.1).map λr=>(r,q.2)
def eF(X:Cx)(r:R2)(op:Dat->Dat->Option Res):Prop:=∀(H0:Hp×Hp) (ps:Nat->Option eu) (Z:DS) (σ:St) (H Hi:Hp) (x y:V) (d d':Dat) (o:Res) (Q:VK),op d d'=some o->SR X.K H0 ps Z σ H Hi->Rep X.K Hi d x->Rep X.K Hi d' y ->
 (∀v g f,SR X.K H0 ps Z σ g f->aj Hi f->RR X.K H0 ps Z σ g f v o->Q v g)->r x y H Q
def x5{r:R2}{op:Dat->Dat->Option Res}{f g:DF}{m n:TE}(u:eF X r op)
 (w:∀(H0:Hp×Hp) (ps:Nat->Option eu) (Z:DS) (σ:St) (H Hi:Hp) (d:Dat) (Z':DS) (Q:VK),f Z=some (d,Z')->SR X.K H0 ps Z σ H Hi->(∀v j h,SR X.K H0 ps Z' σ j h->aj Hi h->Rep X.K h d v->Q v j)->m σ H Q)
 (z:∀(H0:Hp×Hp) (ps:Nat->Option eu) (Z:DS) (σ:St) (H Hi:Hp) (d:Dat) (Z':DS) (Q:VK),g Z=some (d,Z')->SR X.K H0 ps Z σ H Hi->(∀v j h,SR X.K H0 ps Z' σ j h->aj Hi h->Rep X.K h d v->Q v j)->n σ H Q)
 (H0:Hp×Hp)(ps:Nat->Option eu)(Z:DS)(σ:St)(H Hi:Hp)(o:Res)(Z':DS)(Q:VK)(l:cK op f g Z=some (o,Z'))(S:SR X.K H0 ps Z σ H Hi)
 (k:∀v j h,SR X.K H0 ps Z' σ j h->aj Hi h->RR X.K H0 ps Z' σ j h v o->Q v j):nM r m n σ H Q:=by
 obtain⟨d,Z1,A,l⟩:=oB l;obtain⟨d',Z2,B,l⟩:=oB l;obtain⟨o',C,l⟩:=oM l;obtain⟨rfl,rfl⟩:=sP l;refine w H0 ps Z σ H Hi d Z1 _ A S λx D p E F G=>?_
 refine z H0 ps Z1 σ D p d' _ _ B E λy I q J s L=>?_
 exact u H0 ps _ σ I q x y d d' _ Q C J (Rep.mono s G) L λv M t N O P=>k v M t N ((F.trans s).trans O) P
def mB{op:Operator}{r:R2}{d:Dat->Dat->Option Res}{f g:DF}(h:aO X (VE op) r)(j:eF X r d)(k:DD X a f)(l:DD X b g):DE X (.BinOp a op b pos) (cK d f g):=by
 obtain⟨ta,m,n⟩:=k;obtain⟨tb,o,p⟩:=l;exact⟨_,Mo h m o,x5 j n p⟩
def pv{op:ZJ}{r:R2}{d:Dat->Dat->Option Res}{f g:DF}(h:aO X (n5 op) r)(j:eF X r d)(k:DD X a f)(l:DD X b g)(m:zI op b=false):DE X (.Compare a [op] [b] pos) (cK d f g):=by
 obtain⟨ta,n,o⟩:=k;obtain⟨tb,p,q⟩:=l;exact⟨_,Co h n p m,x5 j o q⟩
def Au:R2:=λx y H Q=>∃l b xs d,x=.ref l/\y=.ref b/\Rd H l (.lst xs)/\Rd H b (.lst d)/\xs.length+d.length<=dk/\∀p,H p=none->Q (.ref p) (upd H p (.lst (xs++d)))
def Rn:aO X (VE .Add) Au:=by
 intro pins s σ H x y v u Q I g j h;obtain⟨l,b,xs,zs,rfl,rfl,k,m,hz,q⟩:=h;subst g;subst j;obtain⟨z,its,n,r,e⟩:=k.ok I.aw;obtain⟨z2,d,n2,f,o⟩:=m.ok I.aw;have hl:=r.length;have hl2:=f.length;refine PySem.P.add_list e o ?_ (by rw[ft,ft];lia)
 have p:its.toArray++d.toArray=(its++d).toArray:=by simp
 rw[p];exact⟨.ref _,_,I.su (r.append f) (by rw[eH];omega),rfl,q _ I.fresh⟩
def Dk(K:gj):R2:=λx y H Q=>∃l b xs d,x=.ref l/\y=.ref b/\cw K H l xs/\Rd H b (.lst d)/\xs.length+d.length<=dk/\∀p,H p=none->Q (.ref p) (upd H p (.lst (xs++d)))
def Jf:aO X (VE .Add) (Dk X.K):=by
 intro pins s σ H x y v u Q I m o h;obtain⟨l,b,xs,zs,rfl,rfl,p,t,hz,q⟩:=h;subst m;subst o;obtain⟨its,r,⟨⟨cls,dd,data,w⟩,n,f,g,hd,hs⟩,z⟩:=I.list p;subst g hd hs;obtain⟨z2,d,A,j,k⟩:=t.ok I.aw;have hl:=r.length;have hl2:=j.length;refine aaq ⟨_,f,rfl⟩ ⟨_,k,rfl⟩ noFill_list_add seq_list_add PySem.F.slot_list_add PySem.F.entry_list_add (PySem.F.args_list_add_2 _ _) (list_addW l b its.toArray d.toArray n A none none w #[] (by rw[ft,ft];lia)) ⟨f,k,?_⟩
 have B:its.toArray++d.toArray=(its++d).toArray:=by simp
 rw[B];exact⟨.ref _,_,I.su (r.append j) (by rw[eH];omega),rfl,q _ I.fresh⟩
def Hg(i j:Int):Prop:=0<j/\j.natAbs.log2<9000
def M1:aO X (VE .FloorDiv) (rI Hg λi j=>.int (i/j)):=qW λi j _ _ _ _ _ d q=>by
 have h1:=d.1;exact floordiv_int (by lia) (by rw[Int.fdiv_eq_ediv_of_nonneg i (by lia)];exact q) (.inl (PyProof.noPylong_of_log2 d.2))
theorem az.ints:∀(ns:List Int),az K H (ns.map Dat.int) (ns.map V.int)
 | []=>rfl
 | n::ns=>⟨_,_,rfl,rfl,az.ints ns⟩
noncomputable def g8:Dat->Dat->Option Res
 | .int i,.int j=>some (.dat (.int (i+j)))
 | .str x,.str y=>if x.length+y.length<=dk then some (.dat (.str (x++y))) else none
 | .lst xs,.lst ys=>if xs.length+ys.length<=dk then some (.own (.lst (xs++ys))) else none
 | .cj xs,.lst ys=>if xs.length+ys.length<=dk then some (.own (.lst (xs.map Dat.int++ys))) else none
 | .tup (x::xs),.tup (y::ys)=>if (x::xs).length+(y::ys).length<=dk then some (.dat (.tup ((x::xs)++(y::ys)))) else none
 | _,_=>none
def Bp(K:gj):R2:=λx y H Q=>iD (λi j=>.int (i+j)) x y H Q\/(λx y H Q=>(λx y H Q=>∃i j,x=.str i/\y=.str j/\i.length+j.length<=dk/\Q (.str (i++j)) H) x y H Q\/(λx y H Q=>Au x y H Q\/(λx y H Q=>Dk K x y H Q\/AV K x y H Q) x y H Q) x y H Q) x y H Q
def Pn:aO X (VE .Add) (Bp X.K):=aO.or L9 (aO.or O5 (aO.or Rn (aO.or Jf Og)))
def Jy:eF X (Bp X.K) g8:=by
 intro H0 ps Z σ H Hi x y d d' o Q e S l m k;delta g8 at e;split at e
 ·obtain rfl:=sO e;subst l;subst m;exact .inl ⟨_,_,rfl,rfl,k _ H Hi S (aj.refl _) rfl⟩
 ·split at e
  ·rename_i h;obtain rfl:=sO e;subst l;subst m;exact .inr (.inl ⟨_,_,rfl,rfl,h,k _ H Hi S (aj.refl _) rfl⟩)
  ·exact nO e
 ·split at e
  ·rename_i h;obtain rfl:=sO e;obtain⟨p,vs,rfl,n,s⟩:=l;obtain⟨t,j,rfl,u,g⟩:=m;refine .inr (.inr (.inl ⟨p,t,vs,j,rfl,rfl,Rd.mono S.sub n,Rd.mono S.sub u,by rw[s.length,g.length];exact h,λq f=>?_⟩))
   exact k (.ref q) _ Hi (S.made f) (aj.refl _) ⟨q,rfl,⟨_,ba,az.append s g,S.dw f⟩,(S.bJ f).2,(S.bJ f).1,S.dP f⟩
  ·exact nO e
 ·split at e
  ·rename_i h;obtain rfl:=sO e;obtain⟨p,rfl,n⟩:=l;obtain⟨t,j,rfl,u,g⟩:=m;refine .inr (.inr (.inr (.inl ⟨p,t,_,j,rfl,rfl,cw.mono S.sub n,Rd.mono S.sub u,by rw[ab,g.length];exact h,λq f=>?_⟩)))
   exact k (.ref q) _ Hi (S.made f) (aj.refl _) ⟨q,rfl,⟨_,ba,az.append (az.ints _) g,S.dw f⟩,(S.bJ f).2,(S.bJ f).1,S.dP f⟩
  ·exact nO e
 ·split at e
  ·rename_i h;obtain rfl:=sO e;obtain⟨p,vs,rfl,n,s⟩:=l;obtain⟨t,j,rfl,u,g⟩:=m;have w:=s.length;have A:=g.length;refine .inr (.inr (.inr (.inr ⟨p,t,vs,j,rfl,rfl,aX.mono S.sub n,aX.mono S.sub u,λz=>?_,by rw[w,A];exact h,λz=>?_,λ_ q f=>?_⟩)))
   ·rw[z] at w;contradiction
   ·rw[z] at A;contradiction
   ·obtain⟨B,s'⟩:=S.laid f;exact k (.ref q) _ _ B s' ⟨q,_,rfl,aX.of ba,az.mono s' (az.append s g)⟩
  ·exact nO e
 ·exact nO e
noncomputable def fZ(C:Int->Int->Bool)(g:Int->Int->Dat):Dat->Dat->Option Res
 | .int i,.int j=>if C i j=true then some (.dat (g i j)) else none
 | _,_=>none
def rC (h:∀i j,C i j=true->f i j)(l:∀i j K H,Rep K H (g i j) (g' i j)):eF X (rI f g') (fZ C g):=by
 intro H0 ps Z σ H Hi x y d d' o Q e S m n k;delta fZ at e;split at e
 ·split at e
  ·rename_i p;obtain rfl:=sO e;subst m;subst n;exact⟨_,_,rfl,rfl,h _ _ p,k _ H Hi S (aj.refl _) (l _ _ _ _)⟩
  ·exact nO e
 ·exact nO e
def xT (f:∀i j K H,Rep K H (g i j) (g' i j)):eF X (iD g') (fZ (λ_ _=>true) g):=by
 intro H0 ps Z σ H Hi x y d d' o Q e S h l k;delta fZ at e;split at e
 ·split at e
  ·obtain rfl:=sO e;subst h;subst l;exact⟨_,_,rfl,rfl,k _ H Hi S (aj.refl _) (f _ _ _ _)⟩
  ·contradiction
 ·exact nO e
noncomputable def ko:Res->Slot
 | .dat d=>.dat d
 | .own c=>.own c
def j4(i:Nat)(r:Res)(Z:DS):Option DS:=match Z[i]? with
 | none=>none
 | some (.io _)=>none
 | some _=>some (Z.set i (ko r))
theorem SR.put(S:SR K H0 ps Z σ H Hi)(x:RR K H0 ps Z σ H Hi v r)(e:j4 i r Z=some Z'):SR K H0 ps Z' (σ.set i (some v)) H Hi:=by
 delta j4 at e;cases y:Z[i]? with
 | none=>rw[y] at e;exact nO e
 | some s =>
  have u:=(cn.mp y).1;have D:i<σ.length:=by rw[<-S.len];exact u
  have I:Z'=Z.set i (ko r)/\∀c,s≠.io c:=by
   rw[y] at e;cases s<;>first|(exact nO e;done)|(exact⟨(Option.some.inj e).symm,by intro c;simp⟩)
  obtain⟨rfl,_⟩:=I;have g:∀{j:Nat}{s':Slot},j≠i->(Z.set i (ko r))[j]?=some s'->Z[j]?=some s':=λ{j s'} f h=>by
   rw[oy (Ne.symm f)] at h;exact h
  have Y1:∀{s':Slot},(Z.set i (ko r))[i]?=some s'->s'=ko r:=λ{s'} h=>by
   rw[o3 u] at h;exact (Option.some.inj h).symm
  have l:∀{j:Nat},j≠i->(σ.set i (some v))[j]?=σ[j]?:=λ{j} f=>oy (Ne.symm f)
  have A:(σ.set i (some v))[i]?=some (some v):=o3 D;refine⟨S.sub,S.keep,S.fx,λj d h=>?_,λj c h=>?_,λj c h=>?_,λj k c n p B C o t=>?_,by simp only[H9,H9];exact S.len,S.nw⟩
  ·by_cases f:j=i
   ·subst f;have q:=Y1 h;cases r with
    | dat d'=>cases q;exact⟨v,A,x⟩
    | own c=>contradiction
   ·rw[l f];exact S.dat j d (g f h)
  ·by_cases f:j=i
   ·subst f;have q:=Y1 h;cases r with
    | dat d'=>cases q
    | own c =>
     cases q;obtain⟨p,rfl,E,F,G,_⟩:=x;exact⟨p,A,E,F,G⟩
   ·rw[l f];exact S.own j c (g f h)
  ·by_cases f:j=i
   ·subst f;have q:=Y1 h;cases r<;>contradiction
   ·rw[l f];exact S.io j c (g f h)
  ·have back:∀{j:Nat}{c:Dat},((Z.set i (ko r))[j]?=some (.own c)\/(Z.set i (ko r))[j]?=some (.io c))->j≠i->(Z[j]?=some (.own c)\/Z[j]?=some (.io c)):=λh f=>h.imp (g f) (g f)
   have w:∀{c:Dat}{p:eu},((Z.set i (ko r))[i]?=some (.own c)\/(Z.set i (ko r))[i]?=some (.io c))->(σ.set i (some v))[i]?=some (some (.ref p))->∀(k:Nat) (n:Dat),(Z[k]?=some (.own n)\/Z[k]?=some (.io n))->σ[k]?≠some (some (.ref p)):=λ{c p} h z=>by
    rw[A] at z;cases r with
    | dat d'=>rcases h with h|h<;>cases Y1 h
    | own c0 =>
     obtain⟨p',J,E,F,G,nd⟩:=x;subst J;cases z;exact nd
   by_cases f:j=i
   ·by_cases m:k=i
    ·simp only[f,m]
    ·subst f;rw[l m] at t;exact absurd t (w B o k n (back C m))
   ·by_cases m:k=i
    ·subst m;rw[l f] at o;exact absurd o (w C t j c (back B f))
    ·rw[l f] at o;rw[l m] at t;exact S.ne j k c n p (back B f) (back C m) o t
abbrev GF:=Dat->DS->Option DS
def KC(X:Cx)(g:GF)(t:TG):Prop:=∀(H0:Hp×Hp) (ps:Nat->Option eu) (Z:DS) (σ:St) (H Hi:Hp) (d:Dat) (Z':DS) (v:V) (Q:St->Hp->Prop),g d Z=some Z'->SR X.K H0 ps Z σ H Hi->Rep X.K Hi d v ->
 (∀f,SR X.K H0 ps Z' f H Hi->Q f H)->t v σ H Q
inductive DG (X:Cx) (tg:hY) (g:GF):Prop
 | mk (t:TG) (p:PG X tg t) (q:KC X g t)
def Ox(X:Cx)(g:List Dat->DS->Option DS)(t:ju):Prop:=∀(H0:Hp×Hp) (ps:Nat->Option eu) (Z:DS) (σ:St) (H Hi:Hp) (ds:List Dat) (Z':DS) (vs:List V) (Q:St->Hp->Prop),g ds Z=some Z'->SR X.K H0 ps Z σ H Hi->az X.K Hi ds vs ->
 (∀d,SR X.K H0 ps Z' d H Hi->Q d H)->t vs σ H Q
inductive mG (X:Cx) (tgs:List hY) (g:List Dat->DS->Option DS):Prop
 | mk (t:ju) (p:nA X tgs t) (q:Ox X g t)
def ya(i:Nat):GF:=λd Z=>j4 i (.dat d) Z
noncomputable def NW:List Dat->DS->Option DS
 | [],Z=>some Z
 | _,_=>none
noncomputable def BS(g:GF)(f:List Dat->DS->Option DS):List Dat->DS->Option DS
 | d::ds,Z=>(g d Z).bind (f ds)
 | [],_=>none
def K9 (i:Nat)(f:X.N.Nodup)(g:X.N[i]?=some x)(h:Loc X.env.scope x)(j:X.fn x=true\/X.env.scope.names.lookup x=some .local):DG X (.Name x pos) (ya i):=by
 refine⟨_,RS f g h j,λH0 ps Z σ H Hi d Z' v Q e S r k=>?_⟩
 exact k _ (S.put (r:=.dat d) r e)
theorem OL:mG X [] NW:=by
 refine⟨_,IP,λH0 ps Z σ H Hi ds Z' vs Q e S r k=>?_⟩
 cases ds with
 | nil=>obtain rfl:=sO e;exact⟨r,k σ S⟩
 | cons _ _=>exact nO e
theorem RF (m:DG X e g)(n:mG X f h)(hs:(u1 (e::f) X.env).map (·.2)=Wx e X.env::(u1 f X.env).map (·.2):=by rfl):mG X (e::f) (BS g h):=by
 obtain⟨t1,o,p⟩:=m;obtain⟨t2,q,s⟩:=n;refine⟨_,HY o q hs,λH0 ps Z σ H Hi ds Z' vs Q e S r k=>?_⟩
 cases ds with
 | nil=>exact nO e
 | cons d ds =>
  obtain⟨v,j,rfl,t,u⟩:=r;obtain⟨Z1,w,e⟩:=oA e;exact⟨v,j,rfl,p H0 ps Z σ H Hi d Z1 v _ w S t λl x=>s H0 ps Z1 l H Hi ds Z' j Q e x u k⟩
inductive Out where
 | next (Z:DS)|ret (r:Res) (Z:DS)|brk (Z:DS)|cont (Z:DS)|exc (C:eu) (Z:DS)
def XE(X:Cx)(C:eu)(σ:St)(H:Hp):Prop:=G9 X σ C H/\∀a,Jh X σ (.ref C) a H
abbrev SF:=DS->Option Out
def pZ(X:Cx)(H0:Hp×Hp)(ps:Nat->Option eu)(Hi:Hp)(D:Ends):Out->Prop
 | .next Z=>∀f g d,SR X.K H0 ps Z f g d->aj Hi d->D.nx f g
 | .ret r Z=>∀v f g d,SR X.K H0 ps Z f g d->aj Hi d->RR X.K H0 ps Z f g d v r->D.rt v g
 | .brk Z=>∀f g d,SR X.K H0 ps Z f g d->aj Hi d->D.bk f g
 | .cont Z=>∀f g d,SR X.K H0 ps Z f g d->aj Hi d->D.ct f g
 | .exc C Z=>∀f g d,SR X.K H0 ps Z f g d->aj Hi d->XE X C f g
theorem pZ.mono (s:aj Hi k)(h:pZ X H0 ps Hi D o):pZ X H0 ps k D o:=by
 cases o with
 | next Z=>exact λd g f S j=>h d g f S (s.trans j)
 | ret r Z=>exact λv d g f S j=>h v d g f S (s.trans j)
 | brk Z=>exact λd g f S j=>h d g f S (s.trans j)
 | cont Z=>exact λd g f S j=>h d g f S (s.trans j)
 | exc C Z=>exact λd g f S j=>h d g f S (s.trans j)
def RK(X:Cx)(f:SF)(t:TS):Prop:=∀(H0:Hp×Hp) (ps:Nat->Option eu) (Z:DS) (σ:St) (H Hi:Hp) (o:Out) (D:Ends),f Z=some o->SR X.K H0 ps Z σ H Hi->pZ X H0 ps Hi D o->t D σ H
inductive cM (X:Cx) (st:Wt) (f:SF):Prop
 | mk (t:TS) (p:PS X st t) (q:RK X f t)
def JD(X:Cx)(f:SF)(t:TS):Prop:=∀(H0:Hp×Hp) (ps:Nat->Option eu) (Z:DS) (σ:St) (H Hi:Hp) (o:Out) (D:Ends),f Z=some o->SR X.K H0 ps Z σ H Hi->pZ X H0 ps Hi D o->t D σ H
inductive gQ (X:Cx) (st:List Wt) (f:SF):Prop
 | mk (t:TS) (p:gZ X st t) (q:JD X f t)
noncomputable def uF:SF:=λZ=>some (.next Z)
noncomputable def lS(f g:SF):SF:=λZ=>(f Z).bind λo=>match o with
 | .next Z1=>g Z1
 | o=>some o
noncomputable def nT(f:DF):SF:=λZ=>(f Z).map λp=>.next p.2
noncomputable def nK(f:EF):SF:=λZ=>(f Z).map λp=>.ret p.1 p.2
noncomputable def j5(c:BF)(f g:SF):SF:=λZ=>(c Z).bind λp=>if p.1=true then f p.2 else g p.2
def iI(i:Nat)(f:EF):SF:=λZ=>(f Z).bind λp=>(j4 i p.1 p.2).map .next
noncomputable def nQ(g:GF)(f:DF):SF:=λZ=>(f Z).bind λp=>(g p.1 p.2).map .next
def EZ:gQ X [] uF:=⟨_,NJ,λH0 ps Z σ H Hi o D e S k=>by obtain rfl:=sO e;exact k σ H Hi S (aj.refl _)⟩
theorem C9{st:Wt}{d:List Wt}{f g:SF}(l:cM X st f)(m:gQ X d g):gQ X (st::d) (lS f g):=by
 obtain⟨t1,n,p⟩:=l;obtain⟨t2,q,s⟩:=m;refine⟨_,IH n q,λH0 ps Z σ H Hi o D e S k=>?_⟩
 obtain⟨o1,t,e⟩:=oA e;refine p H0 ps Z σ H Hi o1 _ t S ?_;cases o1 with
 | next Z1=>exact λh u j w s'=>s H0 ps Z1 h u j o D e w (k.mono s')
 | ret r Z1=>obtain rfl:=sO e;exact k
 | brk Z1=>obtain rfl:=sO e;exact k
 | cont Z1=>obtain rfl:=sO e;exact k
 | exc C Z1=>obtain rfl:=sO e;exact k
def Bx (h:DD X e f)(hs:P2 e none pos.line X.env=pure false:=by rfl):cM X (.Expr e pos) (nT f):=by
 obtain⟨t,p,q⟩:=h;refine⟨_,JH p hs,λH0 ps Z σ H Hi o D e S k=>?_⟩
 obtain⟨d,Z1,j,e⟩:=oN e;obtain rfl:=sO e;exact q H0 ps Z σ H Hi d Z1 _ j S λv l g m s' _=>k σ l g m s'
def OZ (h:DE X e f):cM X (.Return (some e) pos) (nK f):=by
 obtain⟨t,p,q⟩:=h;refine⟨_,Fz p,λH0 ps Z σ H Hi o D e S k=>?_⟩
 obtain⟨r,Z1,g,e⟩:=oN e;obtain rfl:=sO e;exact q H0 ps Z σ H Hi r Z1 _ g S λv j d l s' m=>k v σ j d l s' m
theorem AM{c:hY}{a b:List Wt}{fc:BF}{fa fb:SF}(h:DT X c fc)(j:gQ X a fa)(l:gQ X b fb):cM X (.If c a b pos) (j5 fc fa fb):=by
 obtain⟨tc,m,n⟩:=h;obtain⟨ta,p,q⟩:=j;obtain⟨tb,s,t⟩:=l;refine⟨_,ND m p s,λH0 ps Z σ H Hi o D e S k=>?_⟩
 obtain⟨b,Z1,u,e⟩:=oB e;refine n H0 ps Z σ H Hi b Z1 _ u S λf d g s'=>?_
 cases b with
 | true=>exact q H0 ps Z1 σ f d o D e g (k.mono s')
 | false=>exact t H0 ps Z1 σ f d o D e g (k.mono s')
def MN (i:Nat)(j:X.N.Nodup)(l:X.N[i]?=some x)(m:Loc X.env.scope x)(n:X.fn x=true\/X.env.scope.names.lookup x=some .local)(h:DE X e f)(hs:P2 e (some (.Name x d)) pos.line X.env=pure false):cM X (.Assign [.Name x d] e pos) (iI i f):=by
 obtain⟨t,p,q⟩:=h;refine⟨_,Lk j l m p hs n,λH0 ps Z σ H Hi o D e S k=>?_⟩
 obtain⟨r,Z1,s,e⟩:=oB e;obtain⟨Z2,u,e⟩:=oM e;obtain rfl:=sO e;exact q H0 ps Z σ H Hi r Z1 _ s S λv w g y s' z=>k _ w g (y.put z u) s'
def Ma (h:DD X e f)(u:DG X j g)(hs:XQ [j] e pos.line X.env=pure false:=by rfl)(hw:XR [j] e X.env=pure none:=by rfl)(w:(u1 [j] X.env).map (·.2)=[Wx j X.env]:=by rfl):cM X (.Assign [j] e pos) (nQ g f):=by
 obtain⟨t,p,q⟩:=h;obtain⟨tg',m,x⟩:=u;refine⟨_,zK p m hs hw w,λH0 ps Z σ H Hi o D e S k=>?_⟩
 obtain⟨d,Z1,y,e⟩:=oB e;obtain⟨Z2,z,e⟩:=oM e;obtain rfl:=sO e;exact q H0 ps Z σ H Hi d Z1 _ y S λv n l A s' B=>x H0 ps Z1 σ n l d _ v _ z A B λs C=>k s n l C s'
end
def JW(K:gj)(J:It)(items:List Dat)(e:Hp):Prop:=∀(i:Nat) (a:Hp),aj e a ->
 (∀d,items[i]?=some d->J.go i a/\∀x b,J.ml i a x b->(b=a/\Rep K e d x)\/∃p o,a p=none/\b=upd a p o/\∀c,aj e c->c p=none->Rep K (upd c p o) d x) /\
 (items.length<=i->J.stop i a)
def JW.mono{K:gj}{J:It}{items:List Dat}{g f:Hp}(h:JW K J items g)(s:aj g f):JW K J items f:=λi m s'=>by
 obtain⟨j,q⟩:=h i m (s.trans s');refine⟨λd e=>⟨(j d e).1,λx k y=>?_⟩,q⟩
 rcases (j d e).2 x k y with⟨a,b⟩|⟨p,o,a,b,c⟩
 ·exact .inl ⟨a,Rep.mono s b⟩
 ·exact .inr ⟨p,o,a,b,λl r n=>c l (s.trans r) n⟩
abbrev IF:=DS->Option (List Dat×DS)
def Np(X:Cx)(f:IF)(i:TI):Prop:=∀(c:Hp×Hp) (d:Nat->Option eu) (Z:DS) (b:St) (H e:Hp) (items:List Dat) (g:DS) (R:It->Hp->Prop),f Z=some (items,g)->SR X.K c d Z b H e ->
 (∀J h a,SR X.K c d g b h a->aj e a->JW X.K J items a->R J h)->i b H R
inductive dv (X:Cx) (tg iter:hY) (f:IF):Prop
 | mk (wi:TI) (p:PI X tg iter wi) (q:Np X f wi)
noncomputable def NM:Dat->Option (List Dat)
 | .lst ds=>some ds
 | .tup ds=>some ds
 | _=>none
def jJ(f:DF):IF:=λZ=>(f Z).bind λp=>(NM p.1).map λds=>(ds,p.2)
noncomputable def dH(lo n:Int):List Dat:=(hI (n-lo).toNat).map λk:Nat=>.int (lo+(k:Int))
noncomputable def qK(f:AF):IF:=λZ=>(f Z).bind λp=>match p.1 with
 | [.int n]=>if -(2 ^ 62)<=n/\n<2 ^ 62 then some (dH 0 n,p.2) else none
 | _=>none
noncomputable def qB(f:AF):IF:=λZ=>(f Z).bind λp=>match p.1 with
 | [.int lo,.int n]=>if -(2 ^ 62)<=lo/\lo<2 ^ 62/\-(2 ^ 62)<=n/\n<2 ^ 62 then some (dH lo n,p.2) else none
 | _=>none
section
variable{X:Cx}{tg:hY}
def PI.or (e:PI X tg iter c)(f:PI X tg iter d):PI X tg iter (λa H R=>c a H R\/d a H R):=λb s a H R I h=>h.elim (e b s a H R I) (f b s a H R I)
theorem RE (h:DD X e f):dv X tg e (jJ f):=by
 obtain⟨t,p,q⟩:=h;refine⟨_,PI.or (NP p) (Mf p),λu w Z z H A items Z' R c S k=>?_⟩
 obtain⟨d,Z1,B,c⟩:=oB c;dsimp only at c;cases d with
 | lst ds =>
  cases c;refine .inl (q u w Z z H A _ _ _ B S λv m j l s' r=>?_)
  obtain⟨a,vs,rfl,b,rs⟩:=r;refine⟨a,rfl,⟨vs,.inl (Rd.mono l.sub b)⟩,k _ m j l s' λi C g=>⟨λd e=>?_,λhl=>⟨vs,.inl (Rd.mono g b),by rw[rs.length];exact hl⟩⟩⟩
  obtain⟨x,ex,n⟩:=rs.get e;refine⟨⟨vs,x,.inl (Rd.mono g b),ex⟩,λy D o=>.inl ?_⟩
  obtain⟨rfl,s⟩:=o;have:=s vs (.inl (Rd.mono g b));rw[ex] at this;cases this;exact⟨rfl,n⟩
 | tup ds =>
  cases c;refine .inr (q u w Z z H A _ _ _ B S λv m j l s' r=>?_)
  obtain⟨a,vs,rfl,b,rs⟩:=r;refine⟨a,rfl,⟨vs,aX.mono l.sub b⟩,k _ m j l s' λi C g=>⟨λd e=>?_,λhl=>⟨vs,aX.mono g b,by rw[rs.length];exact hl⟩⟩⟩
  obtain⟨x,ex,n⟩:=rs.get e;refine⟨⟨vs,x,aX.mono g b,ex⟩,λy D o=>.inl ?_⟩
  obtain⟨rfl,s⟩:=o;have:=s vs (aX.mono g b);rw[ex] at this;cases this;exact⟨rfl,n⟩
 | _=>exact nO c
theorem zy{K:gj}{lo n:Int}{b:Hp}:JW K (oK lo (n-lo).toNat) (dH lo n) b:=λi H' _=>by
 refine⟨λd e=>?_,λhl=>?_⟩
 ·unfold dH at e;rw[cR] at e;have a:i<(n-lo).toNat:=by
   cases q:(hI (n-lo).toNat)[i]? with
   | none=>rw[q] at e;exact nO e
   | some j=>simpa using (cn.mp q).1
  rw[zd a] at e;obtain rfl:=sO e;exact⟨a,λx H'' y=>.inl ⟨y.1,y.2⟩⟩
 ·unfold dH at hl;rw[ab,kH] at hl;exact hl
def QG (e:Gl X "range")(g:X.mg "range"=none)(h:DA X [a] f)(hs:ph [a] X.env=[(false,eval a X.env)]:=by rfl):dv X tg (.Call (.Name "range" p) [a] [] pos) (qK f):=by
 obtain⟨t,i,q⟩:=h;refine⟨_,Nt e g i hs,λj l Z m H o items Z' R b S k=>?_⟩
 obtain⟨ds,Z1,s,b⟩:=oB b;dsimp only at b;refine q j l Z m H o ds Z1 _ s S λvs u c w s' r=>?_
 split at b
 ·split at b
  ·rename_i n d;obtain⟨rfl,rfl⟩:=sP b;obtain⟨v,r1,rfl,x,y⟩:=r;subst x;subst y;refine⟨n,rfl,d.1,d.2,?_⟩;have:=k (oK 0 (n-0).toNat) u c w s' zy
   rwa [Xa] at this
  ·exact nO b
 ·exact nO b
def Fy (i:Gl X "range")(j:X.mg "range"=none)(h:DA X [a,b] f)(hs:ph [a,b] X.env=[(false,eval a X.env),(false,eval b X.env)]:=by rfl)(d:ph [b] X.env=[(false,eval b X.env)]:=by rfl) :
  dv X tg (.Call (.Name "range" p) [a,b] [] pos) (qB f):=by
 obtain⟨t,l,q⟩:=h;refine⟨_,FO i j l hs d,λm o Z s H u items Z' R c S k=>?_⟩
 obtain⟨ds,Z1,x,c⟩:=oB c;dsimp only at c;refine q m o Z s H u ds Z1 _ x S λvs y e z s' r=>?_
 split at c
 ·split at c
  ·rename_i lo n A;obtain⟨rfl,rfl⟩:=sP c;obtain⟨v,r1,rfl,B,w,r2,rfl,g,C⟩:=r;subst B;subst g;subst C;exact⟨lo,n,rfl,A,k _ y e z s' zy⟩
  ·exact nO c
 ·exact nO c
end
noncomputable def forLoop(g:GF)(fb:SF):List Dat->SF
 | [],Z=>some (.next Z)
 | x::xs,Z=>(g x Z).bind λZ1=>(fb Z1).bind λo=>match o with
  | .next Z2=>forLoop g fb xs Z2
  | .cont Z2=>forLoop g fb xs Z2
  | .brk Z2=>some (.next Z2)
  | .ret r Z2=>some (.ret r Z2)
  | .exc _ _=>none
def nU(fi:IF)(g:GF)(fb:SF):SF:=λZ=>(fi Z).bind λp=>forLoop g fb p.1 p.2
section
variable{X:Cx}{pos:z8}{P:lT}{w:px}{K:gj}{mg:fk->Option cA}{base:qt}{H0:Hp×Hp}{ps:Nat->Option eu}{σ:St}{psB:Nat->Option eu}{a b:hY}{ta tb:TE}{rest:List hY}{pins:List (eu×KX)}{H Hi:Hp}{s:ee}{Z:DS}{i:Nat}{io:Bool}{c c':Dat}{p:eu}{apos:z8}
theorem FD (hp:Yq (ma X.prog X.w) X.A X.env X.xe)(hc:X.calm=true)(T:dv X Q iter fi)(hg:DG X Q g)(hb:gQ X body fb)(hs:∀x,wy iter X.env x=pure x:=by intro _;rfl):cM X (.For Q iter body [] pos) (nU fi g fb):=by
 obtain⟨wi,pi,qi⟩:=T;obtain⟨tg',pg,qg⟩:=hg;obtain⟨tb,pb,qb⟩:=hb;refine⟨_,Hu hp hc pi pg pb hs,λH0 ps Z σ H Hi o D e S k=>?_⟩
 obtain⟨items,Z1,e1,e⟩:=oB e;refine qi H0 ps Z σ H Hi items Z1 _ e1 S λJ H1 z S1 R jw=>?_
 refine⟨λi m l O=>m=items.length-i/\i<=items.length/\∃G h,SR X.K H0 ps G l O h/\aj z h/\forLoop g fb (items.drop i) G=some o,
  ⟨items.length,by simp,qh _,Z1,z,S1,aj.refl _,by simpa using e⟩,?_⟩
 rintro i m l O ⟨rfl,T,G,h,I,s',f⟩;have L:=jw i O (s'.trans I.sub)
 by_cases M:i<items.length
 ·have ed:=Zj M;have U:=cm M;rw[ed] at f;obtain⟨Z2,e2,f⟩:=oA f;obtain⟨V,e3,f⟩:=oA f;refine .inr ⟨(L.1 _ U).1,λB W=>∃Z3 E,SR X.K H0 ps Z3 B W E/\aj z E/\forLoop g fb (items.drop (i+1)) Z3=some o,λB W ⟨Z3,E,S3,s3,f3⟩=>⟨items.length-(i+1),by omega,rfl,M,Z3,E,S3,s3,f3⟩,λx F y=>?_⟩
  obtain⟨d,Y,be,rx⟩:∃d,SR X.K H0 ps G l F d/\aj h d/\Rep X.K d items[i] x:=by
   rcases (L.1 _ U).2 x F y with⟨rfl,r⟩|⟨p,ob,n,rfl,r⟩
   ·exact⟨h,I,aj.refl _,Rep.mono s' r⟩
   ·obtain⟨a,b⟩:=I.laid n;exact⟨_,a,b,r h s' (I.dw n)⟩
  refine qg H0 ps G l F d _ Z2 x _ e2 Y rx λB S2=>?_
  refine qb H0 ps Z2 B F d V _ e3 S2 ?_;have sm:=s'.trans be;cases V with
  | next Z3=>exact λq N j t u=>⟨Z3,j,t,sm.trans u,f⟩
  | cont Z3=>exact λq N j t u=>⟨Z3,j,t,sm.trans u,f⟩
  | brk Z3=>obtain rfl:=sO f;exact λq N j t u=>k q N j t ((R.trans sm).trans u)
  | ret r Z3=>obtain rfl:=sO f;exact λv q N j t u rr=>k v q N j t ((R.trans sm).trans u) rr
  | exc C Z3=>exact nO f
 ·have ei:i=items.length:=by lia
  subst ei;rw[aaP] at f;obtain rfl:=sO f;exact .inl ⟨L.2 (eT _),k l O h I (R.trans s')⟩
noncomputable def gy(c:BF)(fb:SF):Nat->SF
 | 0,_=>none
 | n+1,Z=>(c Z).bind λp=>if p.1=true then (fb p.2).bind (λo=>match o with
   | .next Z2=>gy c fb n Z2
   | .cont Z2=>gy c fb n Z2
   | .brk Z2=>some (.next Z2)
   | .ret r Z2=>some (.ret r Z2)
   | .exc _ _=>none) else some (.next p.2)
theorem FE{c:hY}{body:List Wt}{fc:BF}{fb:SF}(n:Nat)(L:Yq (ma X.prog X.w) X.A X.env X.xe)(M:DT X c fc)(N:gQ X body fb):cM X (.While c body [] pos) (gy fc fb n):=by
 obtain⟨tc,O,Q⟩:=M;obtain⟨tb,R,T⟩:=N;refine⟨_,Kb L O R,λH0 ps Z σ H Hi o D e S k=>?_⟩
 refine⟨λm g B=>∃y q,SR X.K H0 ps y g B q/\aj Hi q/\gy fc fb m y=some o,⟨n,Z,Hi,S,aj.refl _,e⟩,?_⟩
 rintro m g B ⟨y,q,U,s',d⟩;cases m with
 | zero=>exact nO d
 | succ m =>
  obtain⟨b,Z1,V,d⟩:=oB d;refine Q H0 ps y g B q b Z1 _ V U λE u F G=>?_
  cases b with
  | false =>
   obtain rfl:=sO d;exact k g E u F (s'.trans G)
  | true =>
   have d:((fb Z1).bind λo=>match o with
    | .next Z2=>gy fc fb m Z2
    | .cont Z2=>gy fc fb m Z2
    | .brk Z2=>some (.next Z2)
    | .ret r Z2=>some (.ret r Z2)
    | .exc _ _=>none)=some o:=d
   refine⟨λz I=>∃Z3 t,SR X.K H0 ps Z3 z I t/\aj Hi t/\gy fc fb m Z3=some o,λz I ⟨Z3,t,W,Y,f3⟩=>⟨m,V' _,Z3,t,W,Y,f3⟩,?_⟩
   obtain⟨J,e3,d⟩:=oA d;refine T H0 ps Z1 g E u J _ e3 F ?_;have sm:=s'.trans G;cases J with
   | next Z3=>exact λh x f j l=>⟨Z3,f,j,sm.trans l,d⟩
   | cont Z3=>exact λh x f j l=>⟨Z3,f,j,sm.trans l,d⟩
   | brk Z3=>obtain rfl:=sO d;exact λh x f j l=>k h x f j (sm.trans l)
   | ret r Z3=>obtain rfl:=sO d;exact λv h x f j l rr=>k v h x f j (sm.trans l) rr
   | exc C Z3=>exact nO d
noncomputable def mC:AF:=λZ=>some ([],Z)
noncomputable def iY(f:DF)(g:AF):AF:=λZ=>(f Z).bind λp=>(g p.2).map λq=>(p.1::q.1,q.2)
noncomputable def qY(f:AF):EF:=λZ=>(f Z).bind λp=>if p.1.length<=dk then some (.own (.lst p.1),p.2) else none
noncomputable def rY(f:AF):DF:=λZ=>(f Z).bind λp=>if p.1.length<=dk then some (.tup p.1,p.2) else none
def OD:DA X [] mC:=⟨_,lj,λH0 ps Z σ H Hi ds Z' Q e S k=>by obtain⟨rfl,rfl⟩:=sP e;exact k [] H Hi S (aj.refl _) rfl⟩
def Oj (o:DD X e f)(q:DA X h g)(hs:bK X e h:=by rfl):DA X (e::h) (iY f g):=by
 obtain⟨t1,r,t⟩:=o;obtain⟨t2,u,x⟩:=q;refine⟨_,jD r u hs,λH0 ps Z σ H Hi ds Z' Q e S k=>?_⟩
 obtain⟨d,Z1,y,e⟩:=oB e;obtain⟨j,Z2,z,e⟩:=oN e;obtain⟨rfl,rfl⟩:=sP e;refine t H0 ps Z σ H Hi d Z1 _ y S λv A l B C D=>?_
 exact x H0 ps Z1 σ A l j _ _ z B λvs E m F n G=>k (v::vs) E m F (C.trans n) ⟨v,vs,rfl,Rep.mono n D,G⟩
def HL (h:DA X j f):DE X (.List j pos) (qY f):=by
 obtain⟨t,p,q⟩:=h;refine⟨_,G3 p,λH0 ps Z σ H Hi r Z' Q e S k=>?_⟩
 obtain⟨ds,Z1,n,e⟩:=oB e;split at e
 ·rename_i o;obtain⟨rfl,rfl⟩:=sP e;refine q H0 ps Z σ H Hi ds _ _ n S λvs H1 l d u m=>⟨by rw[m.length];exact o,λp g=>?_⟩
  exact k (.ref p) _ l (d.made g) u ⟨p,rfl,⟨_,ba,m,d.dw g⟩,(d.bJ g).2,(d.bJ g).1,d.dP g⟩
 ·exact nO e
def Im {m}(h:DA X g f):DD X (.Tuple g m pos) (rY f):=by
 obtain⟨t,p,q⟩:=h;refine⟨_,BL p,λH0 ps Z σ H Hi d Z' Q e S k=>?_⟩
 obtain⟨ds,Z1,n,e⟩:=oB e;split at e
 ·rename_i r;obtain⟨rfl,rfl⟩:=sP e;refine q H0 ps Z σ H Hi ds _ _ n S λvs H1 Hi1 u v j=>⟨by rw[j.length];exact r,λp x=>?_⟩
  obtain⟨y,l⟩:=u.laid x;exact k (.ref p) _ _ y (v.trans l) ⟨p,vs,rfl,aX.of ba,az.mono l j⟩
 ·exact nO e
abbrev aS:=List Dat->Option Res
def RC(K:gj)(H f e:Hp)(v:V):Res->Prop
 | .dat d=>Rep K e d v
 | .own c=>∃p,v=.ref p/\cB K f e p c/\H p=none
def aN(K:gj)(fn:aS):Sp:=λvs H Q _=>∃Hi ds r,aj Hi H/\az K Hi ds vs/\fn ds=some r /\
 ∀v e d,aj H e->aj Hi d->aj d e->(∀p o,d p=some o->jE Hi H p o)->RC K H e d v r->Q v e
abbrev fN:=Dat->List Dat->Option (Res×Dat)
def dM(K:gj)(j:Nat)(fn:fN):Sp:=λvs H Q _=>∃Hi p c ds r c',aj Hi H/\vs[j]?=some (.ref p)/\cB K H Hi p c/\az K Hi ds (vs.eraseIdx j)/\fn c ds=some (r,c') /\
 ∀v e d,(∀b o,H b=some o->b≠p->e b=some o)->aj Hi d->aj d e->(∀p o,d p=some o->jE Hi H p o)->cB K e d p c'->RC K H e d v r->Q v e
theorem SR.after (S:SR K H0 ps Z σ H Hi)(s:aj H g)(k:aj Hi f)(m:aj f g)(nw:∀p o,f p=some o->jE Hi H p o)(t:RC K H g f v r):SR K H0 ps Z σ g f/\RR K H0 ps Z σ g f v r:=by
 have own:∀{q:eu}{c:Dat},cB K H Hi q c->cB K g f q c:=λ{q c} h=>by
  obtain⟨⟨o,e⟩,n⟩:=h.some;refine h.keeps ((s q o e).trans e.symm) k ?_;cases z:f q with
  | none=>rfl
  | some u =>
   rcases nw q u z with w|w|⟨vs,w⟩
   ·rw[n] at w;exact nO w
   ·rw[e] at w;contradiction
   ·subst w;have:=m _ _ z;rw[s q o e] at this;obtain rfl:=sO this;exact (h.nt e).elim
 refine⟨⟨m,λb o e n=>s b o (S.keep b o e n),λp l z=>?_,λi d e=>?_,λi c e=>?_,λi c e=>?_,S.ne,S.len,λp o e=>?_⟩,?_⟩
 ·cases e:H p with
  | none=>exact S.fx p l e
  | some o=>rw[s p o e] at z;contradiction
 ·obtain⟨w,a,b⟩:=S.dat i d e;exact⟨w,a,Rep.mono k b⟩
 ·obtain⟨q,a,b,j,x⟩:=S.own i c e;exact⟨q,a,own b,j,x⟩
 ·obtain⟨q,a,b,j⟩:=S.io i c e;exact⟨q,a,own b,j⟩
 ·rcases nw p o e with z|z|z
  ·exact S.nw p o z
  ·exact .inr (.inl (S.bJ z).1)
  ·exact .inr (.inr z)
 ·cases r with
  | dat d=>exact t
  | own c =>
   obtain⟨p,e,o,n⟩:=t;exact⟨p,e,o,(S.bJ n).2,(S.bJ n).1,S.dP n⟩
noncomputable def cg(fn:aS)(fa:AF):EF:=λZ=>(fa Z).bind λp=>(fn p.1).map λr=>(r,p.2)
structure vM (X:Cx) (x:fk) (sp:Sp):Prop where
 gl:Gl X x
 is:∃(CX:jq) (k:Nat) (f:eu) (fd:lq) (pn:List fk),bb X.prog X.w X.K X.mg X.base CX k f fd pn sp/\cZ k X.A/\X.mg x=some (.ref f)/\YJ X.K (.ref f)=true/\Binds X.K fd pn []/\sM CX X E0
def La{x:fk}{e:hY}{g:List hY}{fn:aS}{fa:AF}{p:z8}(h:vM X x (aN X.K fn))(y:DA X (e::g) fa)(j:bO x:=by decide)
 (z:bK X e g:=by rfl)(l:(Wf pos (ph g X.env)).any (·.1)=false:=by rfl):DE X (.Call (.Name x p) (e::g) [] pos) (cg fn fa):=by
 obtain⟨A,CX,k,f,fd,pn,F,B,C,D,E,G⟩:=h;obtain⟨t,I,q⟩:=y;refine⟨_,En F B A C D E .nil G I j z l,λH0 ps Z σ H Hi r Z' Q d S k=>?_⟩
 obtain⟨ds,Z1,J,d⟩:=oB d;obtain⟨r2,L,d⟩:=oM d;obtain⟨rfl,rfl⟩:=sP d;refine q H0 ps Z σ H Hi ds _ _ J S λvs H1 m n M N=>?_
 refine⟨m,ds,_,n.sub,by rw[yv];exact N,L,λv O o R u T U V=>?_⟩
 obtain⟨W,Y⟩:=n.after R u T U V;exact k v O o W (M.trans u) Y
noncomputable def iF(n:Nat)(ds:List Dat):DS:=ds.map Slot.dat++ia (n-ds.length) .no
def iO(n:Nat)(f:SF):aS:=λds=>(f (iF n ds)).bind λo=>match o with
 | .next _=>some (.dat .bj)
 | .ret r _=>some r
 | _=>none
theorem PQ (s:aj Hi H)(r:az K Hi ds vs):SR K (H,Hi) (λ_=>none) (iF N.length ds) (start N vs) H Hi:=by
 have hl:=r.length;have f:∀{i:Nat}{s:Slot},(iF N.length ds)[i]?=some s->(∃d,s=.dat d/\ds[i]?=some d)\/s=.no:=λ{i s} h=>by
  delta iF at h
  by_cases m:i<ds.length
  ·rw[l4 (by simpa using m),cR] at h
   cases e:ds[i]? with
   | none=>rw[e] at h;exact nO h
   | some d=>rw[e] at h;obtain rfl:=sO h;exact .inl ⟨d,rfl,rfl⟩
  ·rw[lz (by simpa using m)] at h
   rw[XA] at h;split at h
   ·obtain rfl:=sO h;exact .inr rfl
   ·exact nO h
 refine⟨s,λb o e _=>e,λp l=>?_,λi d e=>?_,λi c e=>?_,λi c e=>?_,λi j c c' p k h2=>?_,?_,λp o e=>.inl e⟩
 ·obtain⟨_,z⟩:=l;exact nO z
 ·rcases f e with⟨d',g,h⟩|g
  ·cases g;obtain⟨v,a,b⟩:=r.get h;refine⟨v,?_,b⟩;unfold start;rw[l4 (by simpa using (cn.mp a).1),cR,a]
   rfl
  ·contradiction
 ·rcases f e with⟨d',g,h⟩|g<;>contradiction
 ·rcases f e with⟨d',g,h⟩|g<;>contradiction
 ·rcases k with k|k<;>(rcases f k with⟨d',g,h⟩|g<;>contradiction)
 ·delta iF start;simp
  lia
theorem Mc{x u:fk}{st:Wt}{f:eu}{D:lq}{N ps:List fk}{k:Nat}{fn:aS}{fb:SF}(F:bw K x u st f D)(S:bH N ps (aV st))(B:∀ds r,fn ds=some r->ds.length=ps.length)
 (J:∀(y:cA) (A:r0) (outer:List Zl) (s:ee) (H:Hp) (E:XK),cZ k (A.deeper (Xx u (aV st) s.heap.objs.size f y))->gQ (jI a8 P w K mg base N u (aV st) f y A outer s H E).k9 (jg st) fb)
 (L:∀ds r,fn ds=some r->iO N.length fb ds=some r):bb P w K mg base a8 (k+1) f D ps (aN K fn):=by
 refine F.ok S (λvs H Q E h=>?_) (λy A outer s H vs Q E M h=>?_)
 ·obtain⟨Hi,ds,r,s,rs,e,_⟩:=h;rw[rs.length];exact B ds r e
 ·obtain⟨Hi,ds,r,sm,rs,e,G⟩:=h;obtain⟨t,p,q⟩:=J y A outer s H E M;refine⟨t,p,?_⟩;have l:=L ds r e;obtain⟨o,O,l⟩:=oA l;have nw:∀{Z:DS}{m:St}{n g:Hp},SR K (H,Hi) (λ_=>none) Z m n g->∀p o,g p=some o->jE Hi H p o:=λj p o e=>j.nw p o e
  have kp:∀{Z:DS}{m:St}{n g:Hp},SR K (H,Hi) (λ_=>none) Z m n g->aj H n:=λj b o e=>j.keep b o e (λ⟨_,z⟩=>by exact nO z)
  refine q (H,Hi) (λ_=>none) (iF N.length ds) (start N vs) H Hi o _ O (PQ sm rs) ?_
  cases o with
  | next Z =>
   obtain rfl:=sO l;exact λm n g j s'=>G .bj n g (kp j) s' j.sub (nw j) rfl
  | ret r' Z =>
   cases l;refine λv m n g j s' I=>G v n g (kp j) s' j.sub (nw j) ?_
   cases r with
   | dat d=>exact I
   | own c =>
    obtain⟨p,R,o,np,T,_⟩:=I;exact⟨p,R,o,T⟩
  | brk Z=>exact nO l
  | cont Z=>exact nO l
  | exc C Z=>exact nO l
def kQ(K:gj)(f:DF):TE:=fun σ H Q=>∃H0 ps Z Hi d g,f Z=some (d,g)/\SR K H0 ps Z σ H Hi/\∀v h e,SR K H0 ps g σ h e->aj Hi e->Rep K e d v->Q v h
def lb(K:gj)(f:BF):TT:=fun σ H Q=>∃H0 ps Z Hi d g,f Z=some (d,g)/\SR K H0 ps Z σ H Hi/\∀h e,SR K H0 ps g σ h e->aj Hi e->Q d h
def kW(K:gj)(g:GF):TG:=λv σ H Q=>∃H0 ps Z Hi d f,g d Z=some f/\SR K H0 ps Z σ H Hi/\Rep K Hi d v/\∀e,SR K H0 ps f e H Hi->Q e H
def DD.lQ (h:DD X e f):PE X e (kQ X.K f):=by
 obtain⟨t,p,q⟩:=h;rintro pins s σ H Q I ⟨H0,ps,Z,Hi,d,g,j,S,k⟩;exact p pins s σ H Q I (q H0 ps Z σ H Hi d g Q j S k)
def DG.lQ (h:DG X e g):PG X e (kW X.K g):=by
 obtain⟨t,p,q⟩:=h;rintro pins s σ H v u Q I r ⟨H0,ps,Z,Hi,d,f,j,S,l,k⟩;exact p pins s σ H v u Q I r (q H0 ps Z σ H Hi d f v Q j S l k)
def kY(X:Cx)(ifs:List hY)(f:BF):Prop:=PF X ifs (lb X.K f)
def Lj:kY X [] (λZ=>some (true,Z)):=by
 rintro pins s σ H Q I ⟨H0,ps,Z,Hi,d,Z',e,S,k⟩;obtain⟨rfl,rfl⟩:=sP e;exact F4 pins s σ H Q I (k H Hi S (aj.refl _))
def Mn{X:Cx}{c:hY}{f:BF}(h:DT X c f):kY X [c] f:=by
 obtain⟨t,p,q⟩:=h;rintro pins s σ H Q I ⟨H0,ps,Z,Hi,d,e,g,S,k⟩;exact Rw p pins s σ H Q I (q H0 ps Z σ H Hi d e Q g S k)
noncomputable def noOwn(Z:DS):Bool:=Z.all λs=>match s with|.own _=>false|_=>true
def Ay (h:noOwn Z=true):Z[i]?≠some (.own c):=λe=>by
 have:=hG.mp h _ (eS e);contradiction
noncomputable def bu(d:Option (Nat×Nat)):List (Option Nat)->DS->DS
 | [],Z=>Z
 | o::r,Z=>bu d r (match o with
  | some j=>if d.map aa6=some j then Z else (match Z[j]? with|some (.own c)=>Z.set j (.dat c)|_=>Z)
  | none=>Z)
noncomputable def cv(caps:List (Option Nat))(Z:DS):DS:=caps.map λo=>match o with
 | some j=>(match Z[j]? with|some (.dat d)=>.dat d|_=>.no)
 | none=>.no
noncomputable def compLoop(g:GF)(fc:BF)(fe:DF):List Dat->List Dat->DS->Option (List Dat×DS)
 | [],d,Z=>some (d,Z)
 | x::xs,d,Z=>(g x Z).bind λZ1=>(fc Z1).bind λp=>if p.1=true then (fe p.2).bind λq=>if d.length<dk/\noOwn q.2=true then compLoop g fc fe xs (d++[q.1]) q.2 else none
   else if noOwn p.2=true then compLoop g fc fe xs d p.2 else none
def eN(caps:List (Option Nat))(d:Option (Nat×Nat))(fi:IF)(g:GF)(fc:BF)(fe:DF):EF:=λZ=>(fi Z).bind λp =>
 let Z1:=bu d caps p.2
 match d with
 | none=>(compLoop g fc fe p.1 [] (cv caps Z1)).map λq=>(.own (.lst q.1),Z1)
 | some (k,j)=>if caps[k]?=some (some j) then (match Z1[j]? with
  | some (.own c)=>(compLoop g fc fe p.1 [] ((cv caps Z1).set k (.io c))).bind λq=>(match q.2[k]? with|some (.io c')=>some (.own (.lst q.1),Z1.set j (.own c'))|_=>none)
  | some (.io c)=>(compLoop g fc fe p.1 [] ((cv caps Z1).set k (.io c))).bind λq=>(match q.2[k]? with|some (.io c')=>some (.own (.lst q.1),Z1.set j (.io c'))|_=>none)
  | _=>none) else none
theorem ni(d):∀(caps:List (Option Nat)) {Z:DS}{H Hi:Hp},SR K H0 ps Z σ H Hi->∃f,SR K H0 ps (bu d caps Z) σ H f/\aj Hi f
 | [],_,_,Hi,S=>⟨Hi,S,aj.refl _⟩
 | none::r,_,_,_,S=>ni d r S
 | some j::r,Z,H,Hi,S=>by
  unfold bu;dsimp only
  by_cases hl:d.map aa6=some j
  ·rw[if_pos hl];exact ni d r S
  ·rw[if_neg hl];split
   ·rename_i c e;obtain⟨Hi1,v,_,h,k,_⟩:=S.yZ e;obtain⟨g,l,m⟩:=ni d r h;exact⟨g,l,k.trans m⟩
   ·exact ni d r S
def SR.rebase (S:SR K H0 ps Z σ H Hi)(n:noOwn Z=true):SR K (H,Hi) ps Z σ H Hi :=
 ⟨S.sub,λb o e _=>e,S.fx,S.dat,λi c e=>absurd e (Ay n),S.io,S.ne,S.len,λp o e=>.inl e⟩
theorem CI{caps:List (Option Nat)}{Z:DS}{k:Nat}{d:Dat}(h:(cv caps Z)[k]?=some (.dat d)):∃j:Nat,caps[k]?=some (some j)/\Z[j]?=some (.dat d):=by
 delta cv at h;rw[cR] at h;cases e:caps[k]? with
 | none=>rw[e] at h;exact nO h
 | some o =>
  rw[e] at h;cases o with
  | none=>cases h
  | some j =>
   refine⟨j,rfl,?_⟩;simp at h;split at h
   ·rename_i d' f;cases h;exact f
   ·contradiction
theorem lY{caps:List (Option Nat)}{Z:DS}{k:Nat}{c:Dat}:(cv caps Z)[k]?≠some (.own c)/\(cv caps Z)[k]?≠some (.io c):=by
 delta cv;rw[cR];cases e:caps[k]? with
 | none=>simp
 | some o =>
  cases o with
  | none=>simp
  | some j =>
   simp only[y4];constructor
   all_goals
    intro z;have z:=Option.some.inj z;split at z<;>contradiction
def yM{caps:List (Option Nat)}{k j:Nat}{v:V}(h:caps[k]?=some (some j))(e:σ[j]?=some (some v)):(eP caps σ)[k]?=some (some v):=by
 delta eP;simp_all
def HZ (S:SR K H0 ps Z σ H Hi):SR K (H,Hi) (λ_=>none) (cv caps Z) (eP caps σ) H Hi:=by
 refine⟨S.sub,λb o e _=>e,λp l=>?_,λk d e=>?_,λk c e=>absurd e lY.1,λk c e=>absurd e lY.2,λk k' c c' p h=>?_,?_,λp o e=>.inl e⟩
 ·obtain⟨_,z⟩:=l;exact nO z
 ·obtain⟨j,f,g⟩:=CI e;obtain⟨v,a,b⟩:=S.dat j d g;exact⟨v,yM f a,b⟩
 ·rcases h with h|h
  ·exact absurd h lY.1
  ·exact absurd h lY.2
 ·simp[cv,eP]
theorem De {Qf:Hp->Prop}(S0:SR K (A,j) psB R Sh A j)(n0:noOwn R=true)(T:A D=none)(jw:JW K J items j)(ef:compLoop g fc fe items [] R=some (L,Ze))(Sy:∀k f d vs,SR K (f,d) psB Ze k f d->aj j d->(∀b o,A b=some o->¬gE psB b->f b=some o)->(∀p o,d p=some o->jE j A p o)->f D=some (.lst vs)->az K d L vs->d D=none->Qf f) :
  ∃W:Nat->Nat->St->Hp->Prop,(∃m,W 0 m Sh (upd A D (.lst [])))/\∀i m k f,W i m k f->(J.stop i f/\Qf f)\/(J.go i f/\∀x C,J.ml i f x C->kW K g x k C λE H2=>lb K fc E H2 λb H3 =>
   if b=true then kQ K fe E H3 λy F=>∃ys,F D=some (.lst ys)/\ys.length<dk/\∃M,M<m/\W (i+1) M E (upd F D (.lst (ys++[y])))
   else ∃M,M<m/\W (i+1) M E H3):=by
 have nl:¬gE psB D:=λl=>S0.fx D l T
 have Si:=S0.dw T;have N:∀{Z:DS}{σ:St}{H Hi:Hp}{H0:Hp×Hp}(vs:List V),SR K H0 psB Z σ H Hi->noOwn Z=true->Hi D=none->SR K (upd H D (.lst vs),Hi) psB Z σ (upd H D (.lst vs)) Hi:=λ{Z σ H Hi H0} vs S n hd=>by
  refine⟨rV S.sub hd,λb o e _=>e,λp l=>?_,S.dat,λi c e=>absurd e (Ay n),λi c e=>?_,S.ne,S.len,λp o e=>.inl e⟩
  ·have hp:p≠D:=λz=>nl (by rw[<-z];exact l)
   rw[aC hp];exact S.fx p l
  ·obtain⟨q,a,b,c1⟩:=S.io i c e;have hq:q≠D:=λz=>nl (by rw[<-z];exact⟨i,c1⟩)
   exact⟨q,a,b.keeps (aC hq) (aj.refl _) b.some.2,c1⟩
 refine⟨λi m k f=>m=items.length-i/\i<=items.length/\∃Z d G vs,SR K (f,d) psB Z k f d/\noOwn Z=true/\aj j d/\(∀b o,A b=some o->¬gE psB b->f b=some o)/\(∀p o,d p=some o->jE j A p o) /\
   f D=some (.lst vs)/\az K d G vs/\d D=none/\compLoop g fc fe (items.drop i) G Z=some (L,Ze),
  ⟨items.length,by simp,qh _,R,j,[],[],N [] S0 n0 Si,n0,aj.refl _,λb o e _=>by rw[aC (dC e T)];exact e,λp o e=>.inl e,ba,rfl,Si,by simpa using ef⟩,?_⟩
 rintro i m k f ⟨rfl,hi,Z,d,G,vs,S,n,sm,kb,nb,U,Y,hd,h⟩;have O:=jw i f (sm.trans S.sub);have base:∀{p:eu},f p=none->A p=none:=λ{p} z=>by
  cases e:A p with
  | none=>rfl
  | some o =>
   by_cases l:gE psB p
   ·exact absurd z (S.fx p l)
   ·rw[kb p o e l] at z;contradiction
 by_cases I:i<items.length
 ·have ed:=Zj I;have eg:=cm I;rw[ed] at h;obtain⟨Z1,e2,h⟩:=oA h;obtain⟨b,Z2,e3,h⟩:=oB h;dsimp only at h;refine .inr ⟨(O.1 _ eg).1,λx C y=>?_⟩
  obtain⟨t,SE,Q,rx⟩:∃t,SR K (f,d) psB Z k C t/\aj d t/\Rep K t items[i] x:=by
   rcases (O.1 _ eg).2 x C y with⟨rfl,r⟩|⟨p,ob,nn,rfl,r⟩
   ·exact⟨d,S,aj.refl _,Rep.mono sm r⟩
   ·obtain⟨a,b⟩:=S.laid nn;exact⟨_,a,b,r d sm (S.dw nn)⟩
  refine⟨(f,d),psB,Z,t,_,Z1,e2,SE,rx,λE S2=>?_⟩
  refine⟨(f,d),psB,Z1,t,b,Z2,e3,S2,λH3 Sj S3 s3=>?_⟩
  have kp:∀{Z4:DS}{Sk:St}{F u:Hp},SR K (f,d) psB Z4 Sk F u->F D=some (.lst vs)/\u D=none/\(∀b o,A b=some o->¬gE psB b->F b=some o)/\(∀p o,u p=some o->jE j A p o):=λ{Z4 Sk F u} B=>by
   refine⟨B.keep D _ U nl,?_,λb o e l=>B.keep b o (kb b o e l) l,λp o e=>?_⟩
   ·cases z:u D with
    | none=>rfl
    | some o =>
     rcases B.nw D o z with w|w|⟨ts,w⟩
     ·have w:d D=some o:=w;rw[hd] at w;exact nO w
     ·have w:f D=none:=w;rw[U] at w;contradiction
     ·subst w;have t1:=B.sub _ _ z;rw[B.keep D _ U nl] at t1;cases t1
   ·rcases B.nw p o e with w|w|w
    ·exact nb p o w
    ·exact .inr (.inl (base w))
    ·exact .inr (.inr w)
  cases b with
  | false =>
   simp only[lD,if_false] at h;split at h
   ·rename_i n2;obtain⟨a1,a2,a3,a4⟩:=kp S3;exact⟨items.length-(i+1),by omega,rfl,I,Z2,Sj,G,vs,S3.rebase n2,n2,(sm.trans Q).trans s3,a3,a4,a1,az.mono (Q.trans s3) Y,a2,h⟩
   ·exact nO h
  | true =>
   obtain⟨yd,Z3,e4,h⟩:=oB h;split at h
   ·rename_i hz;refine⟨(f,d),psB,Z2,Sj,yd,Z3,e4,S3,λv F u B s4 ry=>?_⟩
    obtain⟨a1,a2,a3,a4⟩:=kp B;have sa:=(Q.trans s3).trans s4;refine⟨vs,a1,by rw[Y.length];exact hz.1,items.length-(i+1),by omega,rfl,I,Z3,u,G++[yd],vs++[v],N _ B hz.2 a2,hz.2,sm.trans sa,λb o e l=>?_,a4,ba,az.append (az.mono sa Y) ⟨v,[],rfl,ry,rfl⟩,a2,h⟩
    rw[aC (dC e T)];exact a3 b o e l
   ·exact nO h
 ·have ei:i=items.length:=by lia
  subst ei;rw[aaP] at h;cases h;exact .inl ⟨O.2 (eT _),Sy k f d vs S sm kb nb U Y hd⟩
theorem yS:noOwn (cv caps Z)=true:=by
 delta noOwn;rw[hG];intro s hs;obtain⟨k,d⟩:=List.getElem?_of_mem hs;cases s with
 | own c=>exact absurd d lY.1
 | _=>rfl
def zF (y:∀(H0:Hp×Hp) (ps:Nat->Option eu) (Z:DS) (σ:St) (H Hi:Hp) (items:List Dat) (j:DS) (R:It->Hp->Prop),fi Z=some (items,j)->SR X.K H0 ps Z σ H Hi->(∀J m h,SR X.K H0 ps j σ m h->aj Hi h->JW X.K J items h->R J m)->n σ H R)(H0)(ps)(Z)(σ)(H Hi)(r)(j)(Q)(f:eN caps none fi g fc fe Z=some (r,j))(S:SR X.K H0 ps Z σ H Hi)(k:∀v l d,SR X.K H0 ps j σ l d->aj Hi d->RR X.K H0 ps j σ l d v r->Q v l):rE (eP caps) n (kW X.K g) (lb X.K fc) (kQ X.K fe) σ H Q:=by
 obtain⟨items,Z1,A,f⟩:=oB f;dsimp only at f;obtain⟨q,Ze,B,f⟩:=oN f;obtain⟨rfl,rfl⟩:=sP f;refine y H0 ps Z σ H Hi items Z1 _ A S λJ m h C E F=>?_
 intro D t;obtain⟨Hi2,u,x⟩:=ni none caps C;refine De (HZ u) yS t (F.mono x) B fun σ' l d vs G sm kb I L M hd=>?_
 have N:aj m l:=λb o e=>kb b o e (λ⟨_,z⟩=>by exact nO z)
 obtain⟨O,T⟩:=u.after (r:=.own (.lst q)) N sm G.sub I ⟨D,rfl,⟨vs,L,M,hd⟩,t⟩;exact k (.ref D) l d O ((E.trans x).trans sm) T
def HE (k:X.calm=true)(B:je X.env.scope scope)(j:gG X.N NB scope caps=true)(l:dv X h iter fi)(m:∀(e:List (fk×eu)) (C:eu) (d:ee) (H:Hp) (f:List eu),DG (cp X NB scope e C d H f) h g)(n:∀(e:List (fk×eu)) (C:eu) (d:ee) (H:Hp) (f:List eu),kY (cp X NB scope e C d H f) ifs fc)(o:∀(e:List (fk×eu)) (C:eu) (d:ee) (H:Hp) (f:List eu),DD (cp X NB scope e C d H f) elt fe)(hs:∀x,wy iter X.env x=pure x:=by intro _;rfl) :
  DE X (.ListComp elt [⟨h,iter,ifs,0⟩] scope pos) (eN caps none fi g fc fe):=by
 obtain⟨wi,q,r⟩:=l;exact⟨_,Ey (tc:=lb X.K fc) k B j q (λe C d H f=>⟨(m e C d H f).lQ,n e C d H f,(o e C d H f).lQ⟩) hs,zF r⟩
def MW (i:Nat)(u:X.N.Nodup)(n:X.N[i]?=some y)(z:Loc X.env.scope y)(A:X.fn y=true\/X.env.scope.names.lookup y=some .local)(E:X.calm=true)(B:je X.env.scope scope)(m:gG X.N NB scope caps=true)(F:dv X l iter fi)(G:∀(f:List (fk×eu)) (C:eu) (d:ee) (H:Hp) (h:List eu),DG (cp X NB scope f C d H h) l g)(I:∀(f:List (fk×eu)) (C:eu) (d:ee) (H:Hp) (h:List eu),kY (cp X NB scope f C d H h) ifs fc)(J:∀(f:List (fk×eu)) (C:eu) (d:ee) (H:Hp) (h:List eu),DD (cp X NB scope f C d H h) elt fe)(q:P2 (.ListComp elt [⟨l,iter,ifs,0⟩] scope pos) (some (.Name y py)) j.line X.env=pure true)(hs:∀x,wy iter X.env x=pure x:=by intro _;rfl) :
  cM X (.Assign [.Name y py] (.ListComp elt [⟨l,iter,ifs,0⟩] scope pos) j) (iI i (eN caps none fi g fc fe)):=by
 obtain⟨wi,L,M⟩:=F;refine⟨_,OJ (g:=kW X.K g) (tc:=lb X.K fc) (te:=kQ X.K fe) u n z E B m L (λf C d H h=>⟨(G f C d H h).lQ,I f C d H h,(J f C d H h).lQ⟩) q hs A,λH0 ps Z σ H Hi o D e S k=>?_⟩
 obtain⟨r,Z1,O,e⟩:=oB e;obtain⟨Z2,Q,e⟩:=oM e;obtain rfl:=sO e;exact zF M H0 ps Z σ H Hi r Z1 _ O S λv R t T s' U=>k _ R t (T.put U Q) s'
def Le(K:gj)(ta tb:TE):TE:=fun σ H Q=>ta σ H λx d=>∃c,qH K x d c/\if c=true then Q x d else tb σ d Q
def GU(K:gj)(ta tb:TE):TE:=fun σ H Q=>ta σ H λx d=>∃c,qH K x d c/\if c=true then tb σ d Q else Q x d
theorem N4(k:PE X a ta)(l:PE X (.BoolOp .Or (b::rest) pos) tb):PE X (.BoolOp .Or (a::b::rest) pos) (Le X.K ta tb):=by
 intro pins s σ H Q I h;refine BoolOp_or (aG (k pins s σ H _ I h) λv m ⟨x,e,n,f,c,tc,g⟩=>?_)
 refine aG (uT pins m σ e x v (λc' d=>c'=c/\d=e) n f ⟨c,tc,rfl,rfl⟩) λc' o ⟨d,j,q,r⟩=>?_
 subst q r;cases c' with
 | false=>exact l pins o σ d Q j g
 | true=>exact⟨x,d,j,f,g⟩
theorem HI(k:PE X a ta)(l:PE X (.BoolOp .And (b::rest) pos) tb):PE X (.BoolOp .And (a::b::rest) pos) (GU X.K ta tb):=by
 intro pins s σ H Q I h;refine BoolOp_and (aG (k pins s σ H _ I h) λv m ⟨x,e,n,f,c,tc,g⟩=>?_)
 refine aG (uT pins m σ e x v (λc' d=>c'=c/\d=e) n f ⟨c,tc,rfl,rfl⟩) λc' o ⟨d,j,q,r⟩=>?_
 subst q r;cases c' with
 | true=>exact l pins o σ d Q j g
 | false=>exact⟨x,d,j,f,g⟩
noncomputable def nY:Dat->Option Bool
 | .bj=>some false
 | .bl b=>some b
 | .int i=>some (i != 0)
 | .str x=>if x.length<=dk then some ((x.length:Int) != 0) else none
 | .lst ds=>some (!ds.isEmpty)
 | .tup ds=>some (!ds.isEmpty)
 | .bP d=>some (!d.isEmpty)
 | .exc _=>none
 | .ins _ _=>none
 | .cj _=>none
 | .adr _=>none
 | .dR _=>none
 | .bf _ _=>none
def ym{d e:Type}{xs:List d}{ys:List e}(h:xs.length=ys.length):xs.isEmpty=ys.isEmpty:=by
 cases xs<;>cases ys<;>first|rfl|(simp at h)
theorem bI.length:∀{d:List (fk×Dat)}{kvs:List (Key×V)},bI K H d kvs->kvs.length=d.length
 | [],_,h=>by rw[show _=[] from h];rfl
 | (_,_)::_,_,⟨v,r,e,q,t⟩=>by simp only[e,fv,fv,bI.length t]
theorem yb{K:gj}{H Hi:Hp}{d:Dat}{v:V}{c:Bool}(s:aj Hi H)(r:Rep K Hi d v)(e:nY d=some c):qH K v H c:=by
 cases d with
 | bj=>subst r;obtain rfl:=sO e;exact rfl
 | bl b=>subst r;obtain rfl:=sO e;exact rfl
 | int i=>subst r;obtain rfl:=sO e;exact rfl
 | str x =>
  subst r;have e:(if x.length<=dk then some ((x.length:Int) != 0) else none)=some c:=e
  split at e
  ·rename_i g;obtain rfl:=sO e;exact⟨g,rfl⟩
  ·exact nO e
 | lst ds =>
  obtain⟨p,vs,rfl,q,rs⟩:=r;cases e;exact .inl ⟨vs,.inl (Rd.mono s q),by rw[ym rs.length]⟩
 | tup ds =>
  obtain⟨p,vs,rfl,q,rs⟩:=r;cases e;exact .inr (.inl ⟨vs,aX.mono s q,by rw[ym rs.length]⟩)
 | bP f =>
  obtain⟨p,vs,rfl,q,rs⟩:=r;obtain rfl:=sO e;exact .inr (.inr ⟨vs,s _ _ q,by rw[ym (bI.length rs)]⟩)
 | exc C=>exact nO e
 | ins C fs=>exact nO e
 | cj ns=>exact nO e
 | adr p=>exact nO e
 | dR f=>exact nO e
 | bf fz f=>exact nO e
def mU(f:DF):BF:=λZ=>(f Z).bind λp=>(nY p.1).map λc=>(c,p.2)
noncomputable def fE(f:EF):BF:=λZ=>(f Z).bind λp=>match p.1 with
 | .dat (.bl b)=>some (b,p.2)
 | _=>none
noncomputable def pM(f:BF):BF:=λZ=>(f Z).map λp=>(!p.1,p.2)
noncomputable def lX(f g:BF):BF:=λZ=>(f Z).bind λp=>if p.1=true then g p.2 else some (false,p.2)
noncomputable def oD(f g:BF):BF:=λZ=>(f Z).bind λp=>if p.1=true then some (true,p.2) else g p.2
def j6(f g:DF):DF:=λZ=>(f Z).bind λp=>(nY p.1).bind λc=>if c=true then g p.2 else some p
def nF(f g:DF):DF:=λZ=>(f Z).bind λp=>(nY p.1).bind λc=>if c=true then some p else g p.2
def Jo (h:DD X a f)(m:∀g,aap a X.env g=(do let v <-g;Zu a.pos;V1 [v] (truthy v))):DT X a (mU f):=by
 obtain⟨t,p,q⟩:=h;refine⟨_,IA p m,λH0 ps Z σ H Hi c Z' Q e S k=>?_⟩
 obtain⟨d,Z1,n,e⟩:=oB e;obtain⟨c',o,e⟩:=oM e;obtain⟨rfl,rfl⟩:=sP e;exact q H0 ps Z σ H Hi d _ _ n S λv u j l s' r=>⟨_,yb l.sub r o,k u j l s'⟩
def lL (j:aO X (n5 op) r)(l:eF X r d)(m:DD X a f)(n:DD X b g)(o:zI op b=false):DT X (.Compare a [op] [b] pos) (fE (cK d f g)):=by
 obtain⟨ta,q,t⟩:=m;obtain⟨tb,u,x⟩:=n;refine⟨_,yG j q u o,λH0 ps Z σ H Hi c Z' Q e S k=>?_⟩
 obtain⟨rs,Z1,y,e⟩:=oB e;dsimp only at e;split at e
 ·obtain⟨rfl,rfl⟩:=sP e;exact x5 l t x H0 ps Z σ H Hi _ _ _ y S λv z h A s' B=>⟨_,B,k z h A s'⟩
 ·exact nO e
def Ov (h:DT X a f):DT X (.UnaryOp .Not a pos) (pM f):=by
 obtain⟨t,p,q⟩:=h;refine⟨_,Qx p,λH0 ps Z σ H Hi c Z' Q e S k=>?_⟩
 obtain⟨d,Z1,j,e⟩:=oN e;obtain⟨rfl,rfl⟩:=sP e;exact q H0 ps Z σ H Hi d _ _ j S λl g m s'=>k l g m s'
def IT (h:DT X a f):DW X (.BoolOp .And [a] pos) f:=let ⟨t,p,q⟩:=h;⟨t,My p,q⟩
def Lv (h:DT X a f):DW X (.BoolOp .Or [a] pos) f:=let ⟨t,p,q⟩:=h;⟨t,JS p,q⟩
theorem R3 (o:DT X a f)(q:DW X (.BoolOp .And (b::rest) pos) g):DW X (.BoolOp .And (a::b::rest) pos) (lX f g):=by
 obtain⟨t1,r,t⟩:=o;obtain⟨t2,u,v⟩:=q;refine⟨_,Jz r u,λH0 ps Z σ H Hi c j Q e S k=>?_⟩
 obtain⟨d,Z1,x,e⟩:=oB e;refine t H0 ps Z σ H Hi d Z1 _ x S λl h m s'=>?_
 cases d with
 | true=>exact v H0 ps Z1 σ l h c j Q e m λy n z A=>k y n z (s'.trans A)
 | false =>
  obtain⟨rfl,rfl⟩:=sP e;exact k l h m s'
theorem IU (o:DT X a f)(q:DW X (.BoolOp .Or (b::rest) pos) g):DW X (.BoolOp .Or (a::b::rest) pos) (oD f g):=by
 obtain⟨t1,r,t⟩:=o;obtain⟨t2,u,v⟩:=q;refine⟨_,Qy r u,λH0 ps Z σ H Hi c j Q e S k=>?_⟩
 obtain⟨d,Z1,x,e⟩:=oB e;refine t H0 ps Z σ H Hi d Z1 _ x S λl h m s'=>?_
 cases d with
 | false=>exact v H0 ps Z1 σ l h c j Q e m λy n z A=>k y n z (s'.trans A)
 | true =>
  obtain⟨rfl,rfl⟩:=sP e;exact k l h m s'
def MC{op}(h:DD X a f):DD X (.BoolOp op [a] pos) f:=let ⟨t,p,q⟩:=h;⟨t,RJ p,q⟩
theorem GP (o:DD X a f)(q:DD X (.BoolOp .And (b::rest) pos) g):DD X (.BoolOp .And (a::b::rest) pos) (j6 f g):=by
 obtain⟨t1,t,u⟩:=o;obtain⟨t2,x,y⟩:=q;refine⟨_,HI t x,λH0 ps Z σ H Hi c l Q e S k=>?_⟩
 obtain⟨d,Z1,z,e⟩:=oB e;obtain⟨c',A,e⟩:=oA e;refine u H0 ps Z σ H Hi d Z1 _ z S λv m h j s' r=>⟨c',yb j.sub r A,?_⟩
 cases c' with
 | true=>exact y H0 ps Z1 σ m h c l Q e j λB C n D E F=>k B C n D (s'.trans E) F
 | false =>
  obtain⟨rfl,rfl⟩:=sP e;exact k v m h j s' r
theorem Nz (o:DD X a f)(q:DD X (.BoolOp .Or (b::rest) pos) g):DD X (.BoolOp .Or (a::b::rest) pos) (nF f g):=by
 obtain⟨t1,t,u⟩:=o;obtain⟨t2,x,y⟩:=q;refine⟨_,N4 t x,λH0 ps Z σ H Hi c l Q e S k=>?_⟩
 obtain⟨d,Z1,z,e⟩:=oB e;obtain⟨c',A,e⟩:=oA e;refine u H0 ps Z σ H Hi d Z1 _ z S λv m h j s' r=>⟨c',yb j.sub r A,?_⟩
 cases c' with
 | false=>exact y H0 ps Z1 σ m h c l Q e j λB C n D E F=>k B C n D (s'.trans E) F
 | true =>
  obtain⟨rfl,rfl⟩:=sP e;exact k v m h j s' r
mutual
noncomputable def toPy:Dat->PyData
 | .bj=>.none
 | .bl b=>.bool b
 | .int i=>.int i
 | .str x=>.str x
 | .tup xs=>.tuple (cD xs)
 | .lst xs=>.list (cD xs)
 | .bP _=>.dict []
 | .exc _=>.none
 | .ins _ _=>.none
 | .cj _=>.none
 | .adr _=>.none
 | .dR _=>.none
 | .bf _ _=>.none
noncomputable def cD:List Dat->List PyData
 | []=>[]
 | d::r=>toPy d::cD r
end
mutual
/-- no dict within -/
noncomputable def gA:Dat->Bool
 | .tup xs=>jW xs
 | .lst xs=>jW xs
 | .bP _=>false
 | .exc _=>false
 | .ins _ _=>false
 | .cj _=>false
 | .adr _=>false
 | .dR _=>false
 | .bf _ _=>false
 | _=>true
noncomputable def jW:List Dat->Bool
 | []=>true
 | d::r=>gA d&&jW r
end
mutual
theorem jL(I:Inv X pins σ H s)(sm:aj Hi H):∀{d:Dat}{v:V}{u:cA},gA d=true->Rep X.K Hi d v->RelV v u->∃e,Reads s.heap u (toPy d) e
 | .bj,_,_,_,r,q=>by
  cases r
  cases q
  exact⟨_,.none⟩
 | .bl b,_,_,_,r,q=>by
  cases r
  cases q
  exact⟨_,.bool b⟩
 | .int i,_,_,_,r,q=>by
  cases r
  obtain⟨t,rfl⟩:=q
  exact⟨_,.int i t⟩
 | .str x,_,_,_,r,q=>by
  cases r
  obtain⟨t,rfl⟩:=q
  exact⟨_,.str x t⟩
 | .tup ds,_,_,p,r,q=>by
  obtain⟨a,vs,rfl,g,rs⟩:=r
  cases q
  obtain⟨its,j,⟨o,f,k,n,l⟩,_⟩:=I.tuple (aX.mono sm g)
  obtain⟨e,h⟩:=tS I sm (show jW ds=true from p) rs j
  exact⟨_,.tuple f k l (by simpa using h)⟩
 | .lst ds,_,_,p,r,q=>by
  obtain⟨a,vs,rfl,g,rs⟩:=r
  cases q
  obtain⟨z,its,n,j,f⟩:=(Rd.mono sm g).ok I.aw
  obtain⟨e,h⟩:=tS I sm (show jW ds=true from p) rs j
  exact⟨_,.list f rfl rfl (by simpa using h)⟩
 | .bP _,_,_,p,_,_=>by cases p
 | .exc _,_,_,p,_,_=>by cases p
 | .ins _ _,_,_,p,_,_=>by cases p
 | .cj _,_,_,p,_,_=>by cases p
 | .adr _,_,_,p,_,_=>by cases p
 | .dR _,_,_,p,_,_=>by cases p
 | .bf _ _,_,_,p,_,_=>by cases p
theorem tS(I:Inv X pins σ H s)(sm:aj Hi H):∀{ds:List Dat}{vs:List V}{us:List cA},jW ds=true->az X.K Hi ds vs->aH vs us->∃e,ReadsAll s.heap us (cD ds) e
 | [],_,_,_,r,q=>by
  cases (show _=[] from r)
  cases q
  exact⟨_,.nil⟩
 | d::ds,_,_,p,r,q=>by
  obtain⟨v,vr,rfl,m,y⟩:=r
  cases q with
  | cons A B =>
   have p:=nS.mp (show (gA d&&jW ds)=true from p)
   obtain⟨e,f⟩:=jL I sm p.1 m A
   obtain⟨bs,k⟩:=tS I sm p.2 y B
   exact⟨_,.cons f k⟩
end
def bD(d:Dat):Bool:=gA d&&Yl (toPy d)
def cJ(d e:Dat):Bool:=zb (toPy d) (toPy e)
noncomputable def EJ(neg:Bool):Dat->Dat->Option Res
 | .lst (_::_),.lst []=>some (.dat (.bl neg))
 | _,_=>none
def dX(neg:Bool):Dat->Dat->Option Res:=λd e=>if bD d&&bD e then some (.dat (.bl (if neg then !cJ d e else cJ d e))) else EJ neg d e
def vy(K:gj)(neg:Bool):R2:=λx y H Q=>∃Hi d e,aj Hi H/\Rep K Hi d x/\Rep K Hi e y/\bD d=true/\bD e=true/\Q (.bl (if neg then !cJ d e else cJ d e)) H
def yB(neg:Bool):R2:=λx y H Q=>∃l b z d,x=.ref l/\y=.ref b/\Rd H l (.lst (z::d))/\Rd H b (.lst [])/\Q (.bl neg) H
def xg(K:gj)(neg:Bool):R2:=λx y H Q=>vy K neg x y H Q\/yB neg x y H Q
def He(j:X.A.units+64<y3):aO X (n5 .Eq) (vy X.K false):=by
 intro pins s σ H x y v u Q I k l h;obtain⟨Hi,d,e,sm,m,n,f,g,q⟩:=h;have f:=nS.mp f;have g:=nS.mp g;obtain⟨as,o⟩:=jL I sm f.1 m k;obtain⟨bs,r⟩:=jL I sm g.1 n l;exact eq_dataH o r f.2 g.2 j ⟨.bl (cJ d e),H,I,rfl,q⟩
def GK(j:X.A.units+64<y3):aO X (n5 .NotEq) (vy X.K true):=by
 intro pins s σ H x y v u Q I k l h;obtain⟨Hi,d,e,sm,m,n,f,g,q⟩:=h;have f:=nS.mp f;have g:=nS.mp g;obtain⟨as,o⟩:=jL I sm f.1 m k;obtain⟨bs,r⟩:=jL I sm g.1 n l;exact ne_dataH o r f.2 g.2 j ⟨.bl (!cJ d e),H,I,rfl,q⟩
def B6{pins:List (eu×KX)}{σ:St}{H:Hp}{s:ee}(I:Inv X pins σ H s){l b:eu}{z:V}{h:List V}(j:Rd H l (.lst (z::h)))(k:Rd H b (.lst [])):∃f g:Array cA,s.heap.IsList l f/\s.heap.IsList b g/\(f.size != g.size)=true:=by
 obtain⟨z1,its,n,r,e⟩:=j.ok I.aw;obtain⟨z2,d,m,o,q⟩:=k.ok I.aw;have t:=r.length;have u:=o.length;refine⟨its.toArray,d.toArray,⟨_,e,rfl,n,rfl⟩,⟨_,q,rfl,m,rfl⟩,?_⟩;simp only[ft,<-t,<-u];rfl
def M'(hu:X.A.units+64<y3):aO X (n5 .Eq) (yB false):=by
 intro pins s σ H x y v u Q I d e h;obtain⟨l,b,z,zs,rfl,rfl,f,g,q⟩:=h;subst d;subst e;obtain⟨i1,i2,a,c,j⟩:=B6 I f g;exact acs a c j (by lia) _ _ _ _ ⟨.bl false,H,I,rfl,q⟩
def Q9(hu:X.A.units+64<y3):aO X (n5 .NotEq) (yB true):=by
 intro pins s σ H x y v u Q I d e h;obtain⟨l,b,z,zs,rfl,rfl,f,g,q⟩:=h;subst d;subst e;obtain⟨i1,i2,a,c,j⟩:=B6 I f g;exact abT a c j (by lia) _ _ _ _ ⟨.bl true,H,I,rfl,q⟩
def Ae(d:X.A.units+64<y3):aO X (n5 .Eq) (xg X.K false):=aO.or (He d) (M' d)
def DP(d:X.A.units+64<y3):aO X (n5 .NotEq) (xg X.K true):=aO.or (GK d) (Q9 d)
def rP:eF X (xg X.K neg) (dX neg):=by
 intro H0 ps Z σ H Hi x y d d' o Q e S g h k;delta dX at e;split at e
 ·rename_i f;have f:=nS.mp f;obtain rfl:=sO e;exact .inl ⟨Hi,d,d',S.sub,g,h,f.1,f.2,k _ H Hi S (aj.refl _) rfl⟩
 ·delta EJ at e;split at e
  ·obtain rfl:=sO e;obtain⟨p,vs,rfl,j,l⟩:=g;obtain⟨m,n,rfl,q,r⟩:=h;obtain⟨z,t,rfl,_,_⟩:=l;cases (r)
   exact .inr ⟨p,m,z,t,rfl,rfl,Rd.mono S.sub j,Rd.mono S.sub q,k _ H Hi S (aj.refl _) rfl⟩
  ·exact nO e
def inD(d:Dat)(ds:List Dat):Bool:=(cD ds).any λy=>zb y (toPy d)
def uC(neg:Bool):Dat->Dat->Option Res
 | d,.lst ds=>if bD d&&bD (.lst ds) then some (.dat (.bl (if neg then !inD d ds else inD d ds))) else none
 | d,.tup ds=>if bD d&&bD (.tup ds) then some (.dat (.bl (if neg then !inD d ds else inD d ds))) else none
 | .str x,.str y=>some (.dat (.bl (if neg then !(!(z5 y x 0 y.length 1).isEmpty) else !(z5 y x 0 y.length 1).isEmpty)))
 | _,_=>none
def wg(K:gj)(neg:Bool):R2:=λx y H Q=>∃Hi d ds c,(c=.lst ds\/c=.tup ds)/\aj Hi H/\Rep K Hi d x/\Rep K Hi c y/\bD d=true/\bD c=true/\Q (.bl (if neg then !inD d ds else inD d ds)) H
def m7(K:gj)(neg:Bool):R2:=λx y H Q=>wg K neg x y H Q\/(λx y H Q=>∃i j,x=.str i/\y=.str j/\Q (.bl (if neg then !(!(z5 j i 0 j.length 1).isEmpty) else !(z5 j i 0 j.length 1).isEmpty)) H) x y H Q
def Rz(g:X.A.units+65<y3):aO X (n5 .In) (wg X.K false):=by
 intro pins s σ H x y v u Q I l m h;obtain⟨Hi,d,ds,c,n,sm,o,r,e,f,q⟩:=h;have e:=nS.mp e;have f:=nS.mp f;obtain⟨as,j⟩:=jL I sm e.1 o l;obtain⟨bs,k⟩:=jL I sm f.1 r m
 rcases n with rfl|rfl
 ·exact SeqAt.in_list_reads k j (sj f.2) (sj e.2) (Xw e.2 g) ⟨.bl (inD d ds),H,I,rfl,q⟩
 ·exact SeqAt.in_tuple_reads k j (sj f.2) (sj e.2) (Xw e.2 g) ⟨.bl (inD d ds),H,I,rfl,q⟩
def JX(g:X.A.units+65<y3):aO X (n5 .NotIn) (wg X.K true):=by
 intro pins s σ H x y v u Q I l m h;obtain⟨Hi,d,ds,c,n,sm,o,r,e,f,q⟩:=h;have e:=nS.mp e;have f:=nS.mp f;obtain⟨as,j⟩:=jL I sm e.1 o l;obtain⟨bs,k⟩:=jL I sm f.1 r m
 rcases n with rfl|rfl
 ·exact SeqAt.notIn_list_reads k j (sj f.2) (sj e.2) (Xw e.2 g) ⟨.bl (!inD d ds),H,I,rfl,q⟩
 ·exact SeqAt.notIn_tuple_reads k j (sj f.2) (sj e.2) (Xw e.2 g) ⟨.bl (!inD d ds),H,I,rfl,q⟩
def MZ(d:X.A.units+65<y3):aO X (n5 .In) (m7 X.K false):=aO.or (Rz d) Ih
def PU(d:X.A.units+65<y3):aO X (n5 .NotIn) (m7 X.K true):=aO.or (JX d) Nx
def Nv:eF X (m7 X.K neg) (uC neg):=by
 intro H0 ps Z σ H Hi x y d d' o Q e S g h k;delta uC at e;split at e
 ·split at e
  ·rename_i f;have f:=nS.mp f;cases e;exact .inl ⟨Hi,d,_,_,.inl rfl,S.sub,g,h,f.1,f.2,k _ H Hi S (aj.refl _) rfl⟩
  ·exact nO e
 ·split at e
  ·rename_i f;have f:=nS.mp f;cases e;exact .inl ⟨Hi,d,_,_,.inr rfl,S.sub,g,h,f.1,f.2,k _ H Hi S (aj.refl _) rfl⟩
  ·exact nO e
 ·obtain rfl:=sO e;subst g;subst h;exact .inr ⟨_,_,rfl,rfl,k _ H Hi S (aj.refl _) rfl⟩
 ·exact nO e
noncomputable def kindAt(io:Bool)(c:Dat):Slot:=if io then .io c else .own c
noncomputable def ownOf:Slot->Option (Bool×Dat)
 | .own c=>some (false,c)
 | .io c=>some (true,c)
 | _=>none
def sg{s:Slot}{b:Bool}{c:Dat}(h:ownOf s=some (b,c)):s=kindAt b c:=by
 cases s<;>cases h<;>rfl
theorem SR.at(S:SR K H0 ps Z σ H Hi)(e:Z[i]?=some (kindAt io c)):∃p,σ[i]?=some (some (.ref p))/\cB K H Hi p c:=by
 cases io with
 | false=>obtain⟨p,a,b,_⟩:=S.own i c e;exact⟨p,a,b⟩
 | true=>obtain⟨p,a,b,_⟩:=S.io i c e;exact⟨p,a,b⟩
theorem SR.write (S:SR K H0 ps Z σ H Hi)(e:Z[i]?=some (kindAt io c))(ep:σ[i]?=some (some (.ref p)))(v:cB K (upd H p o) Hi p c'):SR K H0 ps (Z.set i (kindAt io c')) σ (upd H p o) Hi:=by
 have y:=(cn.mp e).1;have A:Z[i]?=some (.own c)\/Z[i]?=some (.io c):=by
  cases io with
  | false=>exact .inl e
  | true=>exact .inr e
 have B:¬gE ps p->H0.1 p=none:=λnl=>by
  cases io with
  | false =>
   obtain⟨q,a,b,m,t⟩:=S.own i c e;rw[ep] at a;cases a;exact t
  | true =>
   obtain⟨q,a,b,m⟩:=S.io i c e;rw[ep] at a;cases a;exact absurd ⟨i,m⟩ nl
 have f:∀{j:Nat}{s:Slot},j≠i->(Z.set i (kindAt io c'))[j]?=some s->Z[j]?=some s:=λ{j s} g h=>by
  rw[oy (Ne.symm g)] at h;exact h
 have Y1:∀{s:Slot},(Z.set i (kindAt io c'))[i]?=some s->s=kindAt io c':=λ{s} h=>by
  rw[o3 y] at h;exact (Option.some.inj h).symm
 have ne:∀{j:Nat}{d:Dat}{q:eu},j≠i->(Z[j]?=some (.own d)\/Z[j]?=some (.io d))->σ[j]?=some (some (.ref q))->q≠p:=λ{j d q} g h a z=>by
  subst z;exact g (S.ne j i d c q h A a ep)
 refine⟨rV S.sub v.some.2,λb u x n=>?_,λq l=>?_,λj d h=>?_,λj d h=>?_,λj d h=>?_,λj k d d' q C D E F=>?_,by rw[H9];exact S.len,S.nw⟩
 ·have G:b≠p:=λz=>by
   subst z;rw[B n] at x;exact nO x
  rw[aC G];exact S.keep b u x n
 ·by_cases r:q=p
  ·subst r;rw[ba];simp
  ·rw[aC r];exact S.fx q l
 ·have g:j≠i:=λz=>by
   subst z;have:=Y1 h;cases io<;>contradiction
  exact S.dat j d (f g h)
 ·by_cases g:j=i
  ·subst g;have:=Y1 h;cases io with
   | false =>
    cases this;obtain⟨q,a,b,m,t⟩:=S.own j c e;rw[ep] at a;cases a;exact⟨p,ep,v,m,t⟩
   | true=>cases this
  ·obtain⟨q,a,b,m,t⟩:=S.own j d (f g h);have r:=ne g (.inl (f g h)) a;exact⟨q,a,b.keeps (aC r) (aj.refl _) b.some.2,m,t⟩
 ·by_cases g:j=i
  ·subst g;have:=Y1 h;cases io with
   | true =>
    cases this;obtain⟨q,a,b,m⟩:=S.io j c e;rw[ep] at a;cases a;exact⟨p,ep,v,m⟩
   | false=>contradiction
  ·obtain⟨q,a,b,m⟩:=S.io j d (f g h);have r:=ne g (.inr (f g h)) a;exact⟨q,a,b.keeps (aC r) (aj.refl _) b.some.2,m⟩
 ·have back:∀{j:Nat}{d:Dat},((Z.set i (kindAt io c'))[j]?=some (.own d)\/(Z.set i (kindAt io c'))[j]?=some (.io d))->∃d',Z[j]?=some (.own d')\/Z[j]?=some (.io d'):=λ{j d} h=>by
   by_cases g:j=i
   ·subst g;exact⟨c,A⟩
   ·exact⟨d,h.imp (f g) (f g)⟩
  obtain⟨I,J⟩:=back C;obtain⟨L,M⟩:=back D;exact S.ne j k I L q J M E F
def MD(K:gj)(T:String)(r:V->List V->Hp->VK->Prop)(e:Dat->List Dat->Option (Dat×Dat)):Prop:=∀(H Hi:Hp) (p:eu) (c:Dat) (ds:List Dat) (vs:List V) (d c':Dat) (Q:VK),e c ds=some (d,c')->aj Hi H->cB K H Hi p c->az K Hi ds vs ->
 (∀v o,cB K (upd H p o) Hi p c'->Rep K Hi d v->Q v (upd H p o))->r (.ref p) vs H Q
noncomputable def G6:Dat->Bool
 | .lst _=>true
 | _=>false
def mi(i:Nat)(d:Dat->List Dat->Option (Dat×Dat))(fa:AF):DF:=λZ=>((Z[i]?).bind ownOf).bind λs=>if G6 s.2=true then (fa Z).bind λp=>((p.2[i]?).bind ownOf).bind λt=>(d t.2 p.1).map λq=>(q.1,p.2.set i (kindAt t.1 q.2)) else none
theorem Rt (h:mi i j fa Z=some (d,k)) :
  ∃io c ds Z1 e f c',Z[i]?=some (kindAt io (.lst c))/\fa Z=some (ds,Z1)/\Z1[i]?=some (kindAt e f)/\j f ds=some (d,c')/\k=Z1.set i (kindAt e c'):=by
 delta mi at h;cases l:Z[i]? with
 | none=>rw[l] at h;exact nO h
 | some s =>
  rw[l] at h;obtain⟨io,c,n,h⟩:=oB h;dsimp only at h;split at h
  ·cases m:fa Z with
   | none=>rw[m] at h;exact nO h
   | some p =>
    obtain⟨ds,Z1⟩:=p;rw[m] at h;simp at h;cases g:Z1[i]? with
    | none=>rw[g] at h;exact nO h
    | some s1 =>
     rw[g] at h;obtain⟨e,f,o,h⟩:=oB h;obtain⟨d',c',q,h⟩:=oN h;dsimp only at h;obtain⟨rfl,rfl⟩:=sP h;cases c with
     | lst c=>exact⟨io,c,ds,Z1,e,f,c',by rw[sg n],rfl,by rw[g,sg o],q,rfl⟩
     | _=>contradiction
  ·exact nO h
def Ia (i:Nat)(hN:X.N[i]?=some x)(hv:cC X.env.scope x)(A:∀{t:TA},PA X (e::f) t->PE X (.Call (.Attribute (.Name x l) m apos) (e::f) [] pos) (tL X.K "list" r (yK i) t))(B:MD X.K "list" r n)(C:DA X (e::f) fa):DD X (.Call (.Attribute (.Name x l) m apos) (e::f) [] pos) (mi i n fa):=by
 obtain⟨t,p,q⟩:=C;refine⟨_,A p,λH0 ps Z σ H Hi d Z' Q D S k=>?_⟩
 obtain⟨io,c,ds,Z1,io',E,c',F,G,u,I,rfl⟩:=Rt D;obtain⟨a,h,J⟩:=S.at F;obtain⟨y,L,_,_⟩:=J;refine⟨.ref a,h,.inl ⟨rfl,y,cw.of L⟩,?_⟩;refine q H0 ps Z σ H Hi ds Z1 _ G S λvs M g j O R=>?_
 obtain⟨b,z,T⟩:=j.at u;rw[h] at z;cases z;exact B M g a E ds vs d c' Q I j.sub T R λv o o1 U=>k v _ g (j.write u h o1) O U
noncomputable def o8:Dat->List Dat->Option (Dat×Dat)
 | .lst xs,[d]=>if xs.length<dk then some (.bj,.lst (xs++[d])) else none
 | _,_=>none
def Qw:MD K "list" D8 o8:=by
 intro H Hi p c ds vs d c' Q e sm g r k;delta o8 at e;split at e
 ·split at e
  ·rename_i h;obtain⟨rfl,rfl⟩:=sP e;obtain⟨j,l,f,m⟩:=g;obtain⟨v,vr,rfl,n,o⟩:=r;subst o;exact⟨p,j,v,rfl,rfl,l,by rw[f.length];exact h,k .bj _ ⟨_,ba,az.append f ⟨v,[],rfl,n,rfl⟩,m⟩ rfl⟩
  ·exact nO e
 ·exact nO e
def PM (i:Nat)(k:X.N[i]?=some x)(l:cC X.env.scope x)(n:DA X [e] fa)(hd:bO x:=by decide)(m:dh x:=by decide)(f:W4 (.Name x d) "append" X.env (eval (.Name x d) X.env)=eval (.Name x d) X.env:=by rfl)(j:pj X pos e:=by rfl)(g:(apos.endLine==pos.line)=true:=by rfl)(hs:bK X e []:=by rfl):DD X (.Call (.Attribute (.Name x d) "append" apos) [e] [] pos) (mi i o8 fa) :=
 Ia i k l (λh=>tK Y7 ZI PySem.F.type_list_append EX (fT k l hd m) h f j g hs rfl) Qw n
end
def CD(X:Cx)(r:List V->Hp->VK->Prop)(g:List Dat->Option Res):Prop:=∀(b:Hp×Hp) (c:Nat->Option eu) (Z:DS) (d:St) (H e:Hp) (vs:List V) (ds:List Dat) (o:Res) (Q:VK),g ds=some o->SR X.K b c Z d H e->az X.K e ds vs ->
 (∀v f a,SR X.K b c Z d f a->aj e a->RR X.K b c Z d f a v o->Q v f)->r vs H Q
section
variable{X:Cx}{pos p:z8}{x:fk}{id T:String}{r:List V->Hp->VK->Prop}{fo:List Dat->Option Res}{e:hY}{es:List hY}{fa:AF}{K:gj}{H0:Hp×Hp}{ps:Nat->Option eu}{Z:DS}{σ:St}{H Hi:Hp}{i:Nat}{d:Dat}{v:V}{a b:hY}{P:lT}{w:px}{mg:fk->Option cA}{base:qt}{f g:DF}{p2:z8}
def A2 (s:CD X r fo)(q:∀(H0:Hp×Hp) (ps:Nat->Option eu) (Z:DS) (σ:St) (H Hi:Hp) (ds:List Dat) (h:DS) (Q:List V->Hp->Prop),fa Z=some (ds,h)->SR X.K H0 ps Z σ H Hi->(∀vs j c,SR X.K H0 ps h σ j c->aj Hi c->az X.K c ds vs->Q vs j)->t σ H Q)(H0:Hp×Hp)(ps:Nat->Option eu)(Z:DS)(σ:St)(H Hi:Hp)(o:Res)(h:DS)(Q:VK)(l:cg fo fa Z=some (o,h))(S:SR X.K H0 ps Z σ H Hi)(k:∀v j c,SR X.K H0 ps h σ j c->aj Hi c->RR X.K H0 ps h σ j c v o->Q v j):wC r t σ H Q:=by
 obtain⟨ds,Z1,u,l⟩:=oB l;obtain⟨r2,y,l⟩:=oM l;obtain⟨rfl,rfl⟩:=sP l;refine q H0 ps Z σ H Hi ds _ _ u S λvs z m A B C=>?_
 exact s H0 ps _ σ z m vs ds _ Q y A C λv D n E F G=>k v D n E (B.trans F) G
def iT(j:bN X (.builtin id) r)(k:CD X r fo)(l:Gl X x)(m:X.mg x=none)(n:C' x=some (.builtin id))(o:DA X (e::es) fa)(s:x≠"__name__":=by decide)(c:bO x:=by decide)
 (u:bK X e es:=by rfl)(h:(Wf pos (ph es X.env)).any (·.1)=false:=by rfl):DE X (.Call (.Name x p) (e::es) [] pos) (cg fo fa):=by
 obtain⟨t,y,q⟩:=o;exact⟨_,oW j l m n y s c u h,A2 k q⟩
def tI(j:bN X (.type T) r)(k:CD X r fo)(l:Gl X x)(m:X.mg x=none)(n:C' x=some (.type T))(o:DA X (e::es) fa)(s:x≠"__name__":=by decide)(c:bO x:=by decide)
 (u:bK X e es:=by rfl)(h:(Wf pos (ph es X.env)).any (·.1)=false:=by rfl):DE X (.Call (.Name x p) (e::es) [] pos) (cg fo fa):=by
 obtain⟨t,y,q⟩:=o;exact⟨_,tf j l m n y s c u h,A2 k q⟩
noncomputable def qX:List Dat->Option Res
 | [.int i]=>some (.dat (.int (if i<0 then -i else i)))
 | _=>none
def K2:CD X (λxs H Q=>∃i,xs=[.int i]/\Q (.int (if i<0 then -i else i)) H) qX:=by
 intro H0 ps Z σ H Hi vs ds o Q e S r k;delta qX at e;split at e
 ·obtain rfl:=sO e;obtain⟨v,vr,rfl,c,h⟩:=r;subst c;subst h;exact⟨_,rfl,k _ H Hi S (aj.refl _) rfl⟩
 ·exact nO e
noncomputable def l8:List Dat->Option Res
 | [.int i]=>some (.dat (.int i))
 | [.bl b]=>some (.dat (.int (if b then 1 else 0)))
 | _=>none
def Qp:CD X (λxs H Q=>(∃i,xs=[.int i]/\Q (.int i) H)\/∃k,xs=[.bl k]/\Q (.int (if k then 1 else 0)) H) l8:=by
 intro H0 ps Z σ H Hi vs ds o Q e S r k;delta l8 at e;split at e
 ·cases e;obtain⟨v,j,rfl,c,h⟩:=r;cases c;subst h;exact .inl ⟨_,rfl,k _ H Hi S (aj.refl _) rfl⟩
 ·cases e;obtain⟨v,j,rfl,c,h⟩:=r;subst c;subst h;exact .inr ⟨_,rfl,k _ H Hi S (aj.refl _) rfl⟩
 ·exact nO e
noncomputable def uA:List Dat->Option Res
 | [.int i,.int j]=>some (.dat (.int (if j<i then j else i)))
 | _=>none
noncomputable def vU:List Dat->Option Res
 | [.int i,.int j]=>some (.dat (.int (if j>i then j else i)))
 | _=>none
def QQ:CD X (λxs H Q=>∃i j,xs=[.int i,.int j]/\Q (.int (if j<i then j else i)) H) uA:=by
 intro H0 ps Z σ H Hi vs ds o Q e S r k;delta uA at e;split at e
 ·obtain rfl:=sO e;obtain⟨v,vr,rfl,h,w,wr,rfl,c,l⟩:=r;subst h;subst c;subst l;exact⟨_,_,rfl,k _ H Hi S (aj.refl _) rfl⟩
 ·exact nO e
def Ke:CD X (λxs H Q=>∃i j,xs=[.int i,.int j]/\Q (.int (if j>i then j else i)) H) vU:=by
 intro H0 ps Z σ H Hi vs ds o Q e S r k;delta vU at e;split at e
 ·obtain rfl:=sO e;obtain⟨v,vr,rfl,h,w,wr,rfl,c,l⟩:=r;subst h;subst c;subst l;exact⟨_,_,rfl,k _ H Hi S (aj.refl _) rfl⟩
 ·exact nO e
noncomputable def cH:Dat->Option Nat
 | .lst ds=>some ds.length
 | .tup ds=>some ds.length
 | .bP c=>some c.length
 | .dR c=>some c.length
 | .str x=>if x.length<=dk then some x.length else none
 | _=>none
def yw:List Dat->Option Res
 | [d]=>(cH d).map λn:Nat=>.dat (.int (n:Int))
 | _=>none
def yc(K:gj):List V->Hp->VK->Prop:=λxs H Q=>(∃p ys,xs=[.ref p]/\(cw K H p ys\/aX K H p ys)/\Q (.int ys.length) H)\/(λxs H Q=>(λxs H Q=>(∃z,xs=[.str z]/\z.length<=dk/\Q (.int z.length) H)) xs H Q\/(λxs H Q=>∃a kvs,xs=[.ref a]/\Rd H a (.dK kvs)/\Q (.int kvs.length) H) xs H Q) xs H Q
def MI:bN X (.builtin "len") (λxs H Q=>∃a kvs,xs=[V.ref a]/\Rd H a (.dK kvs)/\Q (.int kvs.length) H):=by
 intro pins s σ H xs us Q I r h;obtain⟨a,kvs,rfl,c,q⟩:=h;obtain⟨u,rfl,j⟩:=vals1 r;subst j;exact Ql I c λt s' k=>⟨.int kvs.length,H,k,⟨t,rfl⟩,q⟩
def Ec:bN X (.builtin "len") (yc X.K):=bN.or J3 (bN.or NT MI)
theorem N9:CD X (yc X.K) yw:=by
 intro H0 ps Z σ H Hi vs ds o Q e S r k;delta yw at e;split at e
 ·rename_i d;obtain⟨v,vr,rfl,h,j⟩:=r;subst j;cases d with
  | lst ds =>
   cases e;obtain⟨p,c,rfl,q,rs⟩:=h;refine .inl ⟨p,c,rfl,.inl (.inl (Rd.mono S.sub q)),k _ H Hi S (aj.refl _) ?_⟩;show V.int _=V.int _;rw[rs.length]
  | tup ds =>
   cases e;obtain⟨p,c,rfl,q,rs⟩:=h;refine .inl ⟨p,c,rfl,.inr (aX.mono S.sub q),k _ H Hi S (aj.refl _) ?_⟩;show V.int _=V.int _;rw[rs.length]
  | str x =>
   subst h;have e:(if x.length<=dk then some x.length else none).map (λn:Nat=>Res.dat (.int n))=some o:=e
   split at e
   ·rename_i l;obtain rfl:=sO e;exact .inr (.inl ⟨x,rfl,l,k _ H Hi S (aj.refl _) rfl⟩)
   ·exact nO e
  | bP m =>
   cases e;obtain⟨p,c,rfl,q,rs⟩:=h;refine .inr (.inr ⟨p,c,rfl,Rd.of (S.sub _ _ q),k _ H Hi S (aj.refl _) ?_⟩);show V.int _=V.int _;rw[bI.length rs]
  | dR m =>
   cases e;obtain⟨p,s,c,rfl,q,rs⟩:=h;refine .inr (.inr ⟨p,c,rfl,.inr ⟨s,S.sub _ _ q⟩,k _ H Hi S (aj.refl _) ?_⟩);show V.int _=V.int _;rw[bI.length rs]
  | _=>exact nO e
 ·exact nO e
def qQ:Dat->Dat->Option Dat
 | .lst ds,.int i=>dU ds i
 | .tup ds,.int i=>dU ds i
 | .str x,.int i=>if x.length<=dk then (dU x.cps.toList i).map λc=>.str ⟨#[c]⟩ else none
 | _,_=>none
noncomputable def iU:Slot->Option Dat
 | .dat d=>some d
 | .own d=>some d
 | .io d=>some d
 | .no=>none
def Top(K:gj)(H Hi:Hp)(v:V):Dat->Prop
 | .lst ds=>∃p vs,v=.ref p/\Rd H p (.lst vs)/\az K Hi ds vs
 | .tup ds=>∃p vs,v=.ref p/\aX K H p vs/\az K Hi ds vs
 | .bP c=>∃p kvs,v=.ref p/\H p=some (.dK kvs)/\bI K Hi c kvs
 | .bf h c=>∃p o kvs,v=.ref p/\H p=some (if h then .bu o (.dT kvs) else .dT kvs)/\bX K Hi c kvs
 | d=>Rep K Hi d v
theorem Rep.top(r:Rep K Hi d v)(s:aj Hi H):Top K H Hi v d:=by
 cases d with
 | lst ds=>obtain⟨p,vs,a,b,c⟩:=r;exact⟨p,vs,a,Rd.mono s b,c⟩
 | tup ds=>obtain⟨p,vs,a,b,c⟩:=r;exact⟨p,vs,a,aX.mono s b,c⟩
 | bP ds=>obtain⟨p,vs,a,b,c⟩:=r;exact⟨p,vs,a,s _ _ b,c⟩
 | bf fz ds=>obtain⟨p,o,vs,a,b,c⟩:=r;exact⟨p,o,vs,a,s _ _ b,c⟩
 | _=>exact r
theorem cB.top{p:eu}(h:cB K H Hi p d):Top K H Hi (.ref p) d:=by
 cases d with
 | lst ds=>obtain⟨vs,a,b,_⟩:=h;exact⟨p,vs,rfl,Rd.of a,b⟩
 | bP c=>obtain⟨vs,a,b,_⟩:=h;exact⟨p,vs,rfl,a,b⟩
 | bf fz c=>obtain⟨rfl,vs,a,b,_⟩:=h;exact⟨p,{cls:=.none,data:=.fields #[]},vs,rfl,a,b⟩
 | _=>exact h.elim
theorem SR.peek(S:SR K H0 ps Z σ H Hi)(e:(Z[i]?).bind iU=some d):∃v,σ[i]?=some (some v)/\Top K H Hi v d:=by
 obtain⟨s,c,e⟩:=oA e;cases s with
 | no=>exact nO e
 | dat d'=>cases e;obtain⟨v,a,b⟩:=S.dat i d c;exact⟨v,a,b.top S.sub⟩
 | own d'=>cases e;obtain⟨p,a,b,_⟩:=S.own i d c;exact⟨_,a,b.top⟩
 | io d'=>cases e;obtain⟨p,a,b,_⟩:=S.io i d c;exact⟨_,a,b.top⟩
theorem El (r:az K Hi ds vs)(e:dU ds k=some d):∃v,dU vs k=some v/\Rep K Hi d v:=by
 delta dU at e ⊢;rw[r.length];cases q:ff ds.length k with
 | none=>rw[q] at e;exact nO e
 | some j =>
  rw[q] at e;exact r.get e
def Df{x y:V}{a b:Dat}{Q:VK}(t:Top K H Hi x a)(j:Rep K Hi b y)(e:qQ a b=some d)(k:∀v,Rep K Hi d v->Q v H):Ft K x y H Q:=by
 delta qQ at e;split at e
 ·obtain⟨p,vs,rfl,l,rs⟩:=t;cases j;obtain⟨v,h,m⟩:=El rs e;exact .inl ⟨p,vs,_,v,rfl,rfl,.inl l,h,k v m⟩
 ·obtain⟨p,vs,rfl,l,rs⟩:=t;cases j;obtain⟨v,h,m⟩:=El rs e;exact .inr (.inl ⟨p,vs,_,v,rfl,rfl,l,h,k v m⟩)
 ·split at e
  ·rename_i n;subst t;subst j;obtain⟨c,h,e⟩:=oM e;obtain rfl:=sO e;exact .inr (.inr ⟨_,_,c,rfl,rfl,n,h,k _ rfl⟩)
  ·exact nO e
 ·exact nO e
def qR(i:Nat):DF:=λZ=>((Z[i]?).bind iU).bind λc=>(cH c).map λn:Nat=>(.int (n:Int),Z)
theorem N8 (i:Nat)(u:X.N[i]?=some x)(y:cC X.env.scope x)(A:Gl X "len")(B:X.mg "len"=none)(hd:bO x:=by decide)(o:dh x:=by decide) :
  DD X (.Call (.Name "len" s) [.Name x q] [] pos) (qR i):=by
 refine⟨_,oW Ec A B X5 (jD (fT u y hd o) lj rfl),λH0 ps Z σ H Hi d Z' Q e S k=>?_⟩
 obtain⟨c,C,e⟩:=oA e;cases h:cH c with
 | none=>rw[h] at e;exact nO e
 | some n =>
  rw[h] at e;obtain⟨rfl,rfl⟩:=sP e;obtain⟨v,a,t⟩:=S.peek C;refine⟨v,a,?_⟩;have j:∀m:Nat,m=n->Q (.int (m:Int)) H:=λm em=>k _ H Hi S (aj.refl _) (by rw[em];rfl)
  cases c with
  | lst ds =>
   obtain⟨p,vs,rfl,l,rs⟩:=t;cases h;exact .inl ⟨p,vs,rfl,.inl (.inl l),j _ rs.length⟩
  | tup ds =>
   obtain⟨p,vs,rfl,l,rs⟩:=t;cases h;exact .inl ⟨p,vs,rfl,.inr l,j _ rs.length⟩
  | bP D =>
   obtain⟨p,vs,rfl,l,rs⟩:=t;cases h;exact .inr (.inr ⟨p,vs,rfl,Rd.of l,j _ (bI.length rs)⟩)
  | dR D =>
   obtain⟨p,E,vs,rfl,l,rs⟩:=t;obtain rfl:=sO h;exact .inr (.inr ⟨p,vs,rfl,.inr ⟨E,S.sub _ _ l⟩,j _ (bI.length rs)⟩)
  | str z =>
   subst t;have h:(if z.length<=dk then some z.length else none)=some n:=h
   split at h
   ·rename_i F;obtain rfl:=sO h;exact .inr (.inl ⟨z,rfl,F,j _ rfl⟩)
   ·exact nO h
  | _=>exact nO h
def pS(i:Nat)(c f:DF):SF:=λZ=>(f Z).bind λp=>((p.2[i]?).bind ownOf).bind λ_=>(c p.2).bind λq=>match q.1 with
 | .int k=>((q.2[i]?).bind ownOf).bind λs=>(match s.2 with
  | .lst xs=>(ff xs.length k).map λj=>.next (q.2.set i (kindAt s.1 (.lst (xs.set j p.1))))
  | _=>none)
 | _=>none
theorem L5 (i:Nat)(W:X.N[i]?=some x)(Y:cC X.env.scope x)(h:DD X e f)(hk:DD X l G)(hd:bO x:=by decide)(I:dh x:=by decide)(ha:∀v,Wx (.Subscript (.Name x m) l pt) X.env v=(do
   let u <-V1 [v] (eval (.Name x m) X.env)
   let B <-V1 [v,u] (eval l X.env)
   Zu pt
   V1 [v,u,B] (aal u B v)
   release [v,u,B] []):=by intro _;rfl)(hs:XQ [.Subscript (.Name x m) l pt] e pos.line X.env=pure false:=by rfl)(hw:XR [.Subscript (.Name x m) l pt] e X.env=pure none:=by rfl)(C:(u1 [.Subscript (.Name x m) l pt] X.env).map (·.2)=[Wx (.Subscript (.Name x m) l pt) X.env]:=by rfl):cM X (.Assign [.Subscript (.Name x m) l pt] e pos) (pS i G f):=by
 obtain⟨t,p,q⟩:=h;obtain⟨tk,pk,qk⟩:=hk;refine⟨_,zK p (Pc (fT W Y hd I) pk set_list ha) hs hw C,λH0 ps Z σ H Hi o D e S k=>?_⟩
 obtain⟨d,Z1,e1,e⟩:=oB e;obtain⟨s0,e2,e⟩:=oA e;obtain⟨n,Z2,e3,e⟩:=oB e;dsimp only at e;split at e
 ·rename_i kk;obtain⟨io,c,J,e⟩:=oB e;dsimp only at e;cases c with
  | lst xs =>
   obtain⟨j,e5,e⟩:=oM e;obtain rfl:=sO e;have E:∀{A:DS}{b:Bool}{c:Dat},(A[i]?).bind ownOf=some (b,c)->A[i]?=some (kindAt b c):=λ{A b c} h=>by
    cases z:A[i]? with
    | none=>rw[z] at h;exact nO h
    | some s=>rw[z] at h;rw[sg h]
   refine q H0 ps Z σ H Hi d Z1 _ e1 S λv H1 L M s1 r1=>?_
   obtain⟨a,F,_⟩:=M.at (E e2);refine⟨.ref a,F,qk H0 ps Z1 σ H1 L _ Z2 _ e3 M λy H2 O Q R r2=>?_⟩
   subst r2;obtain⟨b,U,ob⟩:=Q.at (E J);rw[F] at U;cases U;obtain⟨vs,C,V,h3⟩:=ob;refine⟨a,vs,kk,j,rfl,rfl,C,by rw[V.length];exact e5,?_⟩
   exact k σ _ O (Q.write (E J) F ⟨_,ba,az.set j V (Rep.mono R r1),h3⟩) (s1.trans R)
  | _=>exact nO e
 ·exact nO e
def Kj(X:Cx)(j:Nat)(i:Nat)(f:AF)(t:TA):Prop:=∀(H0:Hp×Hp) (ps:Nat->Option eu) (Z:DS) (σ:St) (H Hi:Hp) (ds:List Dat) (h:DS) (w:V) (Q:List V->Hp->Prop),f Z=some (ds,h)->SR X.K H0 ps Z σ H Hi->σ[i]?=some (some w) ->
 (∀vs k c,SR X.K H0 ps h σ k c->aj Hi c->vs[j]?=some w->az X.K c ds (vs.eraseIdx j)->Q vs k)->t σ H Q
inductive sV (X:Cx) (es:List hY) (j i:Nat) (f:AF):Prop
 | mk (t:TA) (p:PA X es t) (q:Kj X j i f t)
def Mi{x:fk}{c:z8}{es:List hY}{g:AF}(i:Nat)(m:X.N[i]?=some x)(n:cC X.env.scope x)(h:DA X es g)(hs:ph (.Name x c::es) X.env=(false,eval (.Name x c) X.env)::ph es X.env:=by rfl)
 (hd:bO x:=by decide)(j:dh x:=by decide):sV X (.Name x c::es) 0 i g:=by
 obtain⟨t,p,q⟩:=h;refine⟨_,jD (fT m n hd j) p hs,λH0 ps Z σ H Hi ds o w Q e S s k=>⟨w,s,?_⟩⟩
 exact q H0 ps Z σ H Hi ds o _ e S λvs u l y s' r=>k (w::vs) u l y s' rfl r
theorem SR.Dz{K:gj}{H0:Hp×Hp}{ps:Nat->Option eu}{Z:DS}{σ:St}{H Hi l k:Hp}{v:V}{r:Res}{i:Nat}{io:Bool}{c t:Dat}{p:eu}(S:SR K H0 ps Z σ H Hi)(e:Z[i]?=some (kindAt io c))(ep:σ[i]?=some (some (.ref p)))
 (s:∀b o,H b=some o->b≠p->l b=some o)(R:aj Hi k)(U:aj k l)(nw:∀p o,k p=some o->jE Hi H p o)(F:cB K l k p t)(u:RC K H l k v r) :
  SR K H0 ps (Z.set i (kindAt io t)) σ l k/\RR K H0 ps (Z.set i (kindAt io t)) σ l k v r:=by
 obtain⟨q,eq,Y⟩:=S.at e;rw[ep] at eq;cases eq;obtain⟨⟨n,C⟩,hn⟩:=Y.some;obtain⟨⟨B,G⟩,I⟩:=F.some;have sH:aj H (upd l p n):=λb o D=>by
  by_cases z:b=p
  ·subst z;rw[ba];rw[C] at D;exact D
  ·rw[aC z];exact s b o D z
 have J:aj k (upd l p n):=rV U I;have L:RC K H (upd l p n) k v r:=by
  cases r with
  | dat d=>exact u
  | own c0 =>
   obtain⟨y,E,A,m⟩:=u;have M:y≠p:=λz=>by
    subst z;rw[C] at m;contradiction
   exact⟨y,E,A.keeps (aC M) (aj.refl _) A.some.2,m⟩
 obtain⟨S1,rr⟩:=S.after sH R J nw L;have N:upd (upd l p n) p B=l:=by
  rw[OW];funext b
  by_cases z:b=p
  ·subst z;rw[ba,G]
  ·rw[aC z]
 have O:=S1.write e ep (by rw[N];exact F)
 simp[N] at O;refine⟨O,?_⟩;cases r with
 | dat d=>exact u
 | own c0 =>
  obtain⟨y,E,A,m⟩:=u;refine⟨y,E,A,(S.bJ m).2,(S.bJ m).1,λj d h z=>?_⟩
  by_cases Q:j=i
  ·subst Q;rw[ep] at z;cases z;rw[C] at m;contradiction
  ·rw[oy (Ne.symm Q)] at h;exact S.dP m j d h z
def pW(fn:fN)(i:Nat)(fa:AF):EF:=λZ=>((Z[i]?).bind ownOf).bind λ_=>(fa Z).bind λp=>((p.2[i]?).bind ownOf).bind λs=>(fn s.2 p.1).map λq=>(q.1,p.2.set i (kindAt s.1 q.2))
theorem kd{Z:DS}{i:Nat}{b:Bool}{c:Dat}(h:(Z[i]?).bind ownOf=some (b,c)):Z[i]?=some (kindAt b c):=by
 cases z:Z[i]? with
 | none=>rw[z] at h;exact nO h
 | some s=>rw[z] at h;rw[sg h]
def IJ (h:vM X x (dM X.K j fn))(C:sV X (e::es) j i fa)(o:bO x:=by decide)(D:bK X e es:=by rfl)(s:(Wf pos (ph es X.env)).any (·.1)=false:=by rfl):DE X (.Call (.Name x p) (e::es) [] pos) (pW fn i fa):=by
 obtain⟨E,CX,k,f,fd,pn,F,G,I,J,L,M⟩:=h;obtain⟨t,N,q⟩:=C;refine⟨_,En F G E I J L .nil M N o D s,λH0 ps Z σ H Hi r Z' Q l S k=>?_⟩
 obtain⟨b0,c0,O,l⟩:=oB l;obtain⟨ds,Z1,R,l⟩:=oB l;obtain⟨io,c,u,l⟩:=oB l;obtain⟨r',U,V,l⟩:=oN l;dsimp only at l;obtain⟨rfl,rfl⟩:=sP l;obtain⟨a,m,_⟩:=S.at (kd O);refine q H0 ps Z σ H Hi ds Z1 _ _ R S m λvs H1 y n W Y r1=>?_
 obtain⟨b,z,ob⟩:=n.at (kd u);rw[m] at z;cases z;refine⟨y,a,c,ds,_,U,n.sub,by rw[yv];exact Y,ob,by rw[yv];exact r1,V,λv H2 A a1 B a3 a4 oc rc=>?_⟩
 obtain⟨S2,rr⟩:=n.Dz (kd u) m a1 B a3 a4 oc rc;exact k v H2 A S2 (W.trans B) rr
noncomputable def jk(n j:Nat)(c:Dat)(ds:List Dat):DS:=(ds.map Slot.dat).take j++.io c::(ds.map Slot.dat).drop j++ia (n-ds.length-1) .no
def lV(n j:Nat)(f:SF):fN:=λc ds=>(f (jk n j c ds)).bind λo=>match o with
 | .next Z=>(match Z[j]? with|some (.io h)=>some (.dat .bj,h)|_=>none)
 | .ret r Z=>(match Z[j]? with|some (.io h)=>some (r,h)|_=>none)
 | _=>none
theorem uS (hj:j<=ds.length)(h:(jk n j c ds)[k]?=some s) :
  (k<j/\∃d,ds[k]?=some d/\s=.dat d)\/(k=j/\s=.io c)\/(j<k/\∃d,ds[k-1]?=some d/\s=.dat d)\/s=.no:=by
 delta jk at h;have l:((ds.map Slot.dat).take j).length=j:=by rw[mv,ab];lia
 by_cases o:k<j
 ·rw[pe,l4 (by simp only[l];exact o),Zo o,cR] at h
  cases e:ds[k]? with
  | none=>rw[e] at h;exact nO h
  | some d=>rw[e] at h;obtain rfl:=sO h;exact .inl ⟨o,d,rfl,rfl⟩
 ·rw[pe,lz (by rw[l];lia),l] at h
  by_cases q:k=j
  ·subst q;rw[XT] at h;obtain rfl:=sO h;exact .inr (.inl ⟨rfl,rfl⟩)
  ·have t:j<k:=by lia
   obtain⟨m,u⟩:∃m,k-j=m+1:=⟨k-j-1,by lia⟩
   simp[u] at h
   by_cases y:m<((ds.map Slot.dat).drop j).length
   ·rw[l4 y,Yi,cR] at h;have z:j+m=k-1:=by lia
    rw[z] at h;cases e:ds[k-1]? with
    | none=>rw[e] at h;exact nO h
    | some d=>rw[e] at h;obtain rfl:=sO h;exact .inr (.inr (.inl ⟨t,d,rfl,rfl⟩))
   ·rw[lz (by lia),XA] at h
    split at h
    ·obtain rfl:=sO h;exact .inr (.inr (.inr rfl))
    ·exact nO h
theorem OT{K:gj}{N:List fk}{vs:List V}{ds:List Dat}{H Hi:Hp}{j:Nat}{p:eu}{c:Dat}(s:aj Hi H)(hl:vs.length<=N.length)(A:vs[j]?=some (.ref p))(B:cB K H Hi p c)(r:az K Hi ds (vs.eraseIdx j)) :
  SR K (H,Hi) (fun k=>if k=j then some p else none) (jk N.length j c ds) (start N vs) H Hi:=by
 have D:=(cn.mp A).1;have hd:=r.length;rw[Za D] at hd;have n:j<=ds.length:=by omega
 have st:∀{k:Nat}{v:V},vs[k]?=some v->(start N vs)[k]?=some (some v):=fun {k v} e=>by
  delta start;rw[l4 (by simpa using (cn.mp e).1),cR,e]
  rfl
 have m:∀{k:Nat}{d:Dat},(jk N.length j c ds)[k]?≠some (.own d):=fun {k d} h=>by
  rcases uS n h with⟨_,_,_,e⟩|⟨_,e⟩|⟨_,_,_,e⟩|e<;>contradiction
 have t:∀{k:Nat}{d:Dat},(jk N.length j c ds)[k]?=some (.io d)->k=j/\d=c:=fun {k d} h=>by
  rcases uS n h with⟨_,_,_,e⟩|⟨a,e⟩|⟨_,_,_,e⟩|e
  ·contradiction
  ·cases e;exact⟨a,rfl⟩
  ·contradiction
  ·contradiction
 refine⟨s,fun b o e _=>e,fun q l=>?_,fun k d e=>?_,fun k d e=>absurd e m,fun k d e=>?_,fun k E d d' q F G z1 z2=>?_,?_,fun q o e=>.inl e⟩
 ·obtain⟨k,z⟩:=l;dsimp only at z;split at z
  ·obtain rfl:=sO z;obtain⟨⟨o,e⟩,_⟩:=B.some;rw[e];simp
  ·exact nO z
 ·rcases uS n e with⟨C,d',y,u⟩|⟨_,u⟩|⟨C,d',y,u⟩|u
  ·cases u;obtain⟨v,a,b⟩:=r.get y;rw[List.getElem?_eraseIdx_of_lt C] at a;exact⟨v,st a,b⟩
  ·contradiction
  ·cases u;obtain⟨v,a,b⟩:=r.get y;rw[List.getElem?_eraseIdx_of_ge (by lia)] at a
   have:k-1+1=k:=by lia
   rw[this] at a;exact⟨v,st a,b⟩
  ·contradiction
 ·obtain⟨rfl,rfl⟩:=t e;exact⟨p,st A,B,by simp⟩
 ·have I:k=j:=by
   rcases F with h|h
   ·exact absurd h m
   ·exact (t h).1
  have J:E=j:=by
   rcases G with h|h
   ·exact absurd h m
   ·exact (t h).1
  simp only[I,J]
 ·delta jk start;simp
  lia
theorem Er{x y:fk}{st:Wt}{f:eu}{fd:lq}{N ps:List fk}{k j:Nat}{fn:fN}{fb:SF}(F:bw K x y st f fd)(S:bH N ps (aV st))(O:∀c ds r,fn c ds=some r->ds.length+1=ps.length)
 (R:∀(B:cA) (A:r0) (outer:List Zl) (s:ee) (H:Hp) (E:XK),cZ k (A.deeper (Xx y (aV st) s.heap.objs.size f B))->gQ (jI a8 P w K mg base N y (aV st) f B A outer s H E).k9 (jg st) fb)
 (hf:∀c ds r,fn c ds=some r->lV N.length j fb c ds=some r):bb P w K mg base a8 (k+1) f fd ps (dM K j fn):=by
 have L:∀{vs:List V}{H Hi:Hp}{p:eu}{c:Dat}{ds:List Dat}{r:Res×Dat},vs[j]?=some (V.ref p)->az K Hi ds (vs.eraseIdx j)->fn c ds=some r->vs.length=ps.length:=fun {vs H Hi p c ds r} G rs e=>by
  have hj:=(cn.mp G).1;have:=rs.length;rw[Za hj] at this;have:=O c ds r e
  lia
 have hpl:ps.length<=N.length:=by have:=congrArg List.length S.pre;rw[mv] at this;lia
 refine F.ok S (fun vs H Q E h=>?_) (fun B A outer s H vs Q E hr h=>?_)
 ·obtain⟨Hi,p,c,ds,r,c',sm,G,oc,rs,e,_⟩:=h;exact L (H:=H) G rs e
 ·obtain⟨Hi,p,c,ds,r,c',sm,G,oc,rs,e,kk⟩:=h;obtain⟨t,pp,q⟩:=R B A outer s H E hr;refine⟨t,pp,?_⟩;have l:=hf c ds (r,c') e;unfold lV at l;have hv:=L (H:=H) G rs e;obtain⟨o,e1,l⟩:=oA l;have M:∀{Z:DS}{D:St}{u m:Hp}{I:Dat},SR K (H,Hi) (fun k=>if k=j then some p else none) Z D u m->Z[j]?=some (.io I) ->
    (∀b o,H b=some o->b≠p->u b=some o)/\(∀p o,m p=some o->jE Hi H p o)/\cB K u m p I:=fun {Z D u m I} n J=>by
   refine⟨fun b o eb R=>n.keep b o eb fun ⟨k,z⟩=>?_,fun p o e=>n.nw p o e,?_⟩
   ·dsimp only at z;split at z
    ·obtain rfl:=sO z;exact R rfl
    ·exact nO z
   ·obtain⟨p',a,b,U⟩:=n.io j I J
    (try dsimp only at U)
    rw[if_pos rfl] at U;obtain rfl:=sO U;exact b
  refine q (H,Hi) _ (jk N.length j c ds) (start N vs) H Hi o _ e1 (OT sm (by omega) G oc rs) ?_
  cases o with
  | next Z =>
   refine fun D u m n s'=>?_
   simp only at l;split at l
   ·rename_i I J;cases l;obtain⟨W,Y,a3⟩:=M n J;exact kk .bj u m W s' n.sub Y a3 rfl
   ·exact nO l
  | ret r' Z =>
   refine fun v D u m n s' rr=>?_
   simp only at l;split at l
   ·rename_i I J;cases l;obtain⟨W,Y,a3⟩:=M n J;refine kk v u m W s' n.sub Y a3 ?_;cases r with
    | dat d=>exact rr
    | own c0 =>
     obtain⟨p0,e',o,np,n0,_⟩:=rr;exact⟨p0,e',o,n0⟩
   ·exact nO l
  | brk Z=>exact nO l
  | cont Z=>exact nO l
  | exc C Z=>exact nO l
def LD:aO X (VE .Mult) (rI IntMulOk λi j=>.int (i*j)):=qW λ_ _ _ _ _ _ _ c q=>mul_int q c
def fg{N:List fk}{x:fk}{i:Nat}(h:N.findIdx? (·==x)=some i):N[i]?=some x:=by
 obtain⟨c,j,_⟩:=Wp.mp h;simp_all
noncomputable def fA(i j:Int):Bool:=!(decide (ti i>X8)&&decide (ti j>X8)&&YM (ti i+ti j))
noncomputable def jS(_ j:Int):Bool:=decide (0<j)&&decide (j.natAbs.log2<9000)
noncomputable def Dj(i j:Int):Bool:=decide (0<=j)&&decide (j<=1000000)&&decide (i.natAbs<2 ^ 64)
def Ju(c:DD X a f)(h:DD X b g):DE X (.BinOp a .Add b pos) (cK g8 f g):=mB Pn Jy c h
def FQ(c:DD X a f)(h:DD X b g):DE X (.BinOp a .Sub b pos) (cK (fZ (λ_ _=>true) λi j=>.int (i-j)) f g):=mB FZ (xT λ_ _ _ _=>rfl) c h
def ML(c:DD X a f)(k:DD X b g):DE X (.BinOp a .Mult b pos) (cK (fZ fA λi j=>.int (i*j)) f g) :=
 mB LD (rC (λi j h=>by unfold fA at h;unfold IntMulOk;intro z;rw[z] at h;contradiction) λ_ _ _ _=>rfl) c k
def Oy(c:DD X a f)(k:DD X b g):DE X (.BinOp a .FloorDiv b pos) (cK (fZ jS λi j=>.int (i/j)) f g) :=
 mB M1 (rC (λi j h=>by unfold jS at h;rw[ey] at h;exact⟨of_decide_eq_true h.1,of_decide_eq_true h.2⟩) λ_ _ _ _=>rfl) c k
def PZ(c:DD X a f)(k:DD X b g):DE X (.BinOp a .Mod b pos) (cK (fZ (λ_ j=>decide (0<j)) λi j=>.int (i%j)) f g) :=
 mB Nm (rC (λi j h=>of_decide_eq_true h) λ_ _ _ _=>rfl) c k
def QD(c:DD X a f)(k:DD X b g):DE X (.BinOp a .Pow b pos) (cK (fZ Dj λi j=>.int (i ^ j.toNat)) f g) :=
 mB JA (rC (λi j h=>by unfold Dj at h;rw[ey,ey] at h;exact⟨of_decide_eq_true h.1.1,of_decide_eq_true h.1.2,of_decide_eq_true h.2⟩) λ_ _ _ _=>rfl) c k
def MK(c:X.A.units+64<y3)(h:DD X a f)(j:DD X b g):DT X (.Compare a [.Eq] [b] pos) (fE (cK (dX false) f g)):=lL (Ae c) rP h j (jR _)
def HD(c:X.A.units+64<y3)(h:DD X a f)(j:DD X b g):DT X (.Compare a [.NotEq] [b] pos) (fE (cK (dX true) f g)):=lL (DP c) rP h j (jR _)
def J4(c:DD X a f)(h:DD X b g):DT X (.Compare a [.Gt] [b] pos) (fE (cK (fZ (λ_ _=>true) λi j=>.bl (decide (j<i))) f g)):=lL FF (xT λ_ _ _ _=>rfl) c h (jR _)
def Kg(c:DD X a f)(h:DD X b g):DT X (.Compare a [.GtE] [b] pos) (fE (cK (fZ (λ_ _=>true) λi j=>.bl (decide (j<=i))) f g)):=lL Jc (xT λ_ _ _ _=>rfl) c h (jR _)
def Iv (h:X.N.findIdx? (·==x)=some i)(j:cC X.env.scope x)(hd:bO x)(c:dh x):DD X (.Name x pos) (eC i):=G2 i (fg h) j hd c
def Kh (h:X.N.findIdx? (·==x)=some i)(j:cC X.env.scope x)(hd:bO x)(c:dh x):DE X (.Name x pos) (v8 i):=HH i (fg h) j hd c
def wB{x:fk}{e:hY}{f:EF}{c:z8}{i:Nat}(j:X.N.Nodup)(k:X.N.findIdx? (·==x)=some i)(l:Loc X.env.scope x)(m:X.fn x=true\/X.env.scope.names.lookup x=some .local)
 (hs:P2 e (some (.Name x c)) pos.line X.env=pure false)(h:DE X e f):cM X (.Assign [.Name x c] e pos) (iI i f):=MN i j (fg k) l m h hs
def HN (o:X.N.findIdx? (·==x)=some i)(q:cC X.env.scope x)(hd:bO x)(n:dh x)(s:∀v,Wx (.Subscript (.Name x j) c pt) X.env v=(do
   let k <-V1 [v] (eval (.Name x j) X.env)
   let l <-V1 [v,k] (eval c X.env)
   Zu pt
   V1 [v,k,l] (aal k l v)
   release [v,k,l] []))(hs:XQ [.Subscript (.Name x j) c pt] e pos.line X.env=pure false)(hw:XR [.Subscript (.Name x j) c pt] e X.env=pure none)(t:(u1 [.Subscript (.Name x j) c pt] X.env).map (·.2)=[Wx (.Subscript (.Name x j) c pt) X.env])(h:DD X e f)(u:DD X c m):cM X (.Assign [.Subscript (.Name x j) c pt] e pos) (pS i m f):=L5 i (fg o) q h u hd n s hs hw t
abbrev OF:=DS->Option (Option Int×DS)
def J1(X:Cx)(f:OF)(t:TO):Prop:=∀(H0:Hp×Hp) (ps:Nat->Option eu) (Z:DS) (σ:St) (H Hi:Hp) (o:Option Int) (c:DS) (Q:Option Int->Hp->Prop),f Z=some (o,c)->SR X.K H0 ps Z σ H Hi->xk X.K H0 ps σ Hi (Q o) c->t σ H Q
inductive DO (X:Cx) (e:Option hY) (f:OF):Prop
 | mk (t:TO) (p:PO X e t) (q:J1 X f t)
noncomputable def nN:OF:=λZ=>some (none,Z)
noncomputable def lx(f:DF):OF:=λZ=>(f Z).bind λp=>match p.1 with
 | .int i=>some (some i,p.2)
 | _=>none
def cutD (xs:List c)(lo h:Option Int):List c:=(xs.drop (aU xs.length 0 lo)).take (aU xs.length xs.length h-aU xs.length 0 lo)
def eI:Dat->Option Int->Option Int->Option Res
 | .lst ds,lo,c=>some (.own (.lst (cutD ds lo c)))
 | .cj ns,lo,c=>some (.own (.lst ((cutD ns lo c).map Dat.int)))
 | .tup ds,lo,c=>if aU ds.length 0 lo=0/\aU ds.length ds.length c=ds.length then none else some (.dat (.tup (cutD ds lo c)))
 | _,_,_=>none
def kf(f:DF)(l h:OF):EF:=λZ=>(f Z).bind λp=>(l p.2).bind λq=>(h q.2).bind λr=>(eI p.1 q.1 r.1).map λo=>(o,r.2)
def Ko(ns)(lo c):i8 (ns.map V.int) lo c=(cutD ns lo c).map V.int:=by
 delta i8 cutD;rw[ab,Vo,Vp]
theorem az.take:∀{ds:List Dat}{vs:List V}(n:Nat),az K H ds vs->az K H (ds.take n) (vs.take n)
 | [],_,n,h=>by simp only[show _=[] from h,Zm,Zm];exact rfl
 | _::_,_,0,⟨v,r,e,q,t⟩=>by rw[e];exact rfl
 | _::_,_,n+1,⟨v,r,e,q,t⟩=>⟨v,r.take n,by rw[e];rfl,q,az.take n t⟩
theorem az.drop:∀{ds:List Dat}{vs:List V}(n:Nat),az K H ds vs->az K H (ds.drop n) (vs.drop n)
 | [],_,n,h=>by simp only[show _=[] from h,abi,abi];exact rfl
 | _::_,_,0,h=>h
 | _::_,_,n+1,⟨v,r,e,q,t⟩=>by rw[e];exact az.drop n t
def az.cut (lo c:Option Int)(r:az K H ds vs):az K H (cutD ds lo c) (i8 vs lo c):=by
 delta cutD i8;rw[r.length];exact az.take _ (az.drop _ r)
def JC:DO X none nN:=⟨_,Fv,λH0 ps Z σ H Hi o Z' Q e S k=>by obtain⟨rfl,rfl⟩:=sP e;exact k H Hi S (aj.refl _)⟩
def Oz (h:DD X e f):DO X (some e) (lx f):=by
 obtain⟨t,p,q⟩:=h;refine⟨_,QP p,λH0 ps Z σ H Hi o Z' Q e S k=>?_⟩
 obtain⟨d,Z1,j,e⟩:=oB e;dsimp only at e;split at e
 ·obtain⟨rfl,rfl⟩:=sP e;exact q H0 ps Z σ H Hi _ _ _ j S λv l c m s' r=>⟨_,r,k l c m s'⟩
 ·exact nO e
theorem LF{f:DF}{l h:OF}{lo E:Option hY}(J:DD X e f)(hl:DO X lo l)(hh:DO X E h):DE X (.Subscript e (.Slice lo E none p2) pos) (kf f l h):=by
 obtain⟨t,p,q⟩:=J;obtain⟨tl,L,M⟩:=hl;obtain⟨th,N,O⟩:=hh;refine⟨_,J0 (lM.or QA OV) p L N,λH0 ps Z σ H Hi o Z' Q j S k=>?_⟩
 obtain⟨d,Z1,R,j⟩:=oB j;cases B:l Z1 with
 | none=>rw[B] at j;exact nO j
 | some lp =>
  obtain⟨a,Z2⟩:=lp;rw[B] at j;simp at j;obtain⟨b,Z3,U,j⟩:=oB j;dsimp only at j;obtain⟨o',n,j⟩:=oM j;cases j;refine q H0 ps Z σ H Hi d Z1 _ R S λv V F W C Y=>?_
  refine M H0 ps Z1 σ V F a Z2 _ B W λH2 G S2 u=>?_
  refine O H0 ps Z2 σ H2 G b _ _ U S2 λH3 A c y=>?_
  have D:=Rep.mono (u.trans y) Y;cases d with
  | lst ds =>
   obtain rfl:=sO n;obtain⟨p,vs,rfl,s,rs⟩:=D;refine .inl ⟨p,vs,rfl,.inl (Rd.mono c.sub s),λz m=>?_⟩
   exact k (.ref z) _ A (c.made m) ((C.trans u).trans y) ⟨z,rfl,⟨_,ba,az.cut a b rs,c.dw m⟩,(c.bJ m).2,(c.bJ m).1,c.dP m⟩
  | cj ns =>
   obtain rfl:=sO n;obtain⟨p,rfl,s⟩:=D;refine .inl ⟨p,_,rfl,cw.mono c.sub s,λz m=>?_⟩
   exact k (.ref z) _ A (c.made m) ((C.trans u).trans y) ⟨z,rfl,⟨_,ba,by rw[Ko];exact az.ints _,c.dw m⟩,(c.bJ m).2,(c.bJ m).1,c.dP m⟩
  | tup ds =>
   have n:(if aU ds.length 0 a=0/\aU ds.length ds.length b=ds.length then none else some (Res.dat (.tup (cutD ds a b))))=some o:=n
   split at n
   ·exact nO n
   ·rename_i hn;obtain rfl:=sO n;obtain⟨p,vs,rfl,s,rs⟩:=D;refine .inr ⟨p,vs,rfl,aX.mono c.sub s,by rw[rs.length];exact hn,λz m=>?_⟩
    obtain⟨S4,I⟩:=c.laid m;exact k (.ref z) _ _ S4 (((C.trans u).trans y).trans I) ⟨z,_,rfl,aX.of ba,az.mono I (az.cut a b rs)⟩
  | _=>exact nO n
noncomputable def pU(k:Nat)(p:eu):Nat->Option Addr:=λm=>if m=k then some p else none
def wJ{k:Nat}{p b:eu}(h:gE (pU k p) b):b=p:=by
 obtain⟨m,z⟩:=h;delta pU at z;split at z
 ·obtain rfl:=sO z;rfl
 ·exact nO z
def O'{caps:List (Option Nat)}{Z:DS}{H Hi:Hp}{k j:Nat}{p:eu}{c:Dat}(S:SR K H0 ps Z σ H Hi)(y:caps[k]?=some (some j))(ep:σ[j]?=some (some (.ref p)))(A:cB K H Hi p c) :
  SR K (H,Hi) (pU k p) ((cv caps Z).set k (.io c)) (eP caps σ) H Hi:=by
 have B:k<(cv caps Z).length:=by
  delta cv;rw[ab];exact (cn.mp y).1
 have t:∀{m:Nat}{s:Slot},m≠k->((cv caps Z).set k (.io c))[m]?=some s->(cv caps Z)[m]?=some s:=λ{m s} n h=>by
  rw[oy (Ne.symm n)] at h;exact h
 have Y1:∀{s:Slot},((cv caps Z).set k (.io c))[k]?=some s->s=.io c:=λ{s} h=>by
  rw[o3 B] at h;exact (Option.some.inj h).symm
 have u:∀{m:Nat}{d:Dat},(((cv caps Z).set k (.io c))[m]?=some (.own d)\/((cv caps Z).set k (.io c))[m]?=some (.io d))->m=k:=λ{m d} h=>by
  by_cases n:m=k
  ·exact n
  ·rcases h with h|h
   ·exact absurd (t n h) lY.1
   ·exact absurd (t n h) lY.2
 refine⟨S.sub,λb o e _=>e,λq l=>?_,λm d e=>?_,λm d e=>?_,λm d e=>?_,λm m' d d' q C D _ _=>(u C).trans (u D).symm,?_,λq o e=>.inl e⟩
 ·rw[wJ l];obtain⟨⟨o,e⟩,_⟩:=A.some;rw[e];simp
 ·have n:m≠k:=λz=>by subst z;cases Y1 e
  obtain⟨E,F,G⟩:=CI (t n e);obtain⟨v,a,b⟩:=S.dat E d G;exact⟨v,yM F a,b⟩
 ·have n:=u (.inl e);subst n;cases Y1 e
 ·have n:=u (.inr e);subst n;cases Y1 e;exact⟨p,yM y ep,A,by unfold pU;rw[if_pos rfl]⟩
 ·simp[cv,eP]
def MJ:noOwn ((cv caps Z).set k (.io c))=true:=by
 delta noOwn;rw[hG];intro s hs
 rcases List.mem_or_eq_of_mem_set hs with h|h
 ·exact hG.mp (yS) s h
 ·rw[h]
theorem Gp{caps:List (Option Nat)}{kb j:Nat}{U:TI}{fi:IF}{g:GF}{fc:BF}{fe:DF}
 (qi:∀(H0:Hp×Hp) (ps:Nat->Option eu) (Z:DS) (σ:St) (H Hi:Hp) (items:List Dat) (A:DS) (R:It->Hp->Prop),fi Z=some (items,A)->SR X.K H0 ps Z σ H Hi->(∀J M C,SR X.K H0 ps A σ M C->aj Hi C->JW X.K J items C->R J M)->U σ H R)
 (H0:Hp×Hp)(ps:Nat->Option eu)(Z:DS)(σ:St)(H Hi:Hp)(r:Res)(A:DS)(Q:VK)(h:eN caps (some (kb,j)) fi g fc fe Z=some (r,A))(S:SR X.K H0 ps Z σ H Hi)
 (k:∀v s u,SR X.K H0 ps A σ s u->aj Hi u->RR X.K H0 ps A σ s u v r->Q v s):rE (eP caps) U (kW X.K g) (lb X.K fc) (kQ X.K fe) σ H Q:=by
 obtain⟨items,Z1,e1,h⟩:=oB h;dsimp only at h;split at h
 ·rename_i ek;refine qi H0 ps Z σ H Hi items Z1 _ e1 S λJ M C S1 s1 jw=>?_
  intro D V;obtain⟨Hi2,O,Y⟩:=ni (some (kb,j)) caps S1;have go:∀(io:Bool) (c:Dat),(bu (some (kb,j)) caps Z1)[j]?=some (kindAt io c)->∀(n:List Dat) (B:DS) (z:Dat),compLoop g fc fe items [] ((cv caps (bu (some (kb,j)) caps Z1)).set kb (.io c))=some (n,B)->B[kb]?=some (.io z) ->
    r=.own (.lst n)->A=(bu (some (kb,j)) caps Z1).set j (kindAt io z) ->
    ∃W:Nat->Nat->St->Hp->Prop,(∃m,W 0 m (eP caps σ) (upd M D (.lst [])))/\∀i m G s,W i m G s->(J.stop i s/\Q (.ref D) s)\/(J.go i s/\∀x N,J.ml i s x N->kW X.K g x G N λE H2=>lb X.K fc E H2 λb H3 =>
     if b=true then kQ X.K fe E H3 λy H4=>∃ys,H4 D=some (.lst ys)/\ys.length<dk/\∃I,I<m/\W (i+1) I E (upd H4 D (.lst (ys++[y])))
     else ∃I,I<m/\W (i+1) I E H3):=by
   intro io c F n B z t L er ed;subst er;subst ed;obtain⟨p,ep,op⟩:=O.at F;refine De (O' O ek ep op) MJ V (jw.mono Y) t λG s u vs S' sm Sj nb eD ra hd=>?_
   obtain⟨q,_,oq,eq⟩:=S'.io kb z L;have hq:=wJ ⟨kb,eq⟩;subst hq;obtain⟨S3,rr⟩:=O.Dz (r:=.own (.lst n)) F ep (λb o e hb=>Sj b o e λl=>hb (wJ l)) sm S'.sub nb oq ⟨D,rfl,⟨vs,eD,ra,hd⟩,V⟩
   exact k (.ref D) s u S3 ((s1.trans Y).trans sm) rr
  split at h
  ·rename_i c F;cases t:compLoop g fc fe items [] ((cv caps (bu (some (kb,j)) caps Z1)).set kb (.io c)) with
   | none=>rw[t] at h;exact nO h
   | some q =>
    obtain⟨n,B⟩:=q;rw[t] at h;simp at h;split at h
    ·rename_i z L;cases h;exact go false c F n B z t L rfl rfl
    ·cases h
  ·rename_i c F;cases t:compLoop g fc fe items [] ((cv caps (bu (some (kb,j)) caps Z1)).set kb (.io c)) with
   | none=>rw[t] at h;exact nO h
   | some q =>
    obtain⟨n,B⟩:=q;rw[t] at h;simp at h;split at h
    ·rename_i z L;cases h;exact go true c F n B z t L rfl rfl
    ·cases h
  ·exact nO h
 ·exact nO h
def RA{NB:List fk}{caps:List (Option Nat)}{scope:VF}{elt iter l:hY}{ifs:List hY}{fi:IF}{g:GF}{fc:BF}{fe:DF}(kb j:Nat)(n:X.calm=true)(B:je X.env.scope scope)(m:gG X.N NB scope caps=true)(o:dv X l iter fi)
 (q:∀(h:List (fk×eu)) (C:eu) (c:ee) (H:Hp) (k:List eu),DG (cp X NB scope h C c H k) l g)(s:∀(h:List (fk×eu)) (C:eu) (c:ee) (H:Hp) (k:List eu),kY (cp X NB scope h C c H k) ifs fc)
 (t:∀(h:List (fk×eu)) (C:eu) (c:ee) (H:Hp) (k:List eu),DD (cp X NB scope h C c H k) elt fe)(hs:∀x,wy iter X.env x=pure x:=by intro _;rfl) :
  DE X (.ListComp elt [⟨l,iter,ifs,0⟩] scope pos) (eN caps (some (kb,j)) fi g fc fe):=by
 obtain⟨wi,u,y⟩:=o;exact⟨_,Ey (tc:=lb X.K fc) n B m u (λh C c H k=>⟨(q h C c H k).lQ,s h C c H k,(t h C c H k).lQ⟩) hs,Gp y⟩
end
def nD(d:Dat)(ds:List Dat):Option Nat:=(cD ds).findIdx? λy=>zb y (toPy d)
def Eh(K:gj):V->List V->Hp->VK->Prop:=λx vs H Q=>∃a ds d y p b j,x=.ref p/\vs=[y]/\aj a H/\Rd H p (.lst b)/\az K a ds b/\Rep K a d y/\bD (.lst ds)=true/\bD d=true/\nD d ds=some j/\Q (.int (j:Int)) H
section
variable{X:Cx}
def K0(B:X.A.units+65<y3):rG X "list.index" (Eh X.K):=by
 intro pins s σ H x vs v us Q I C D h;obtain⟨Hi,ds,d,y,p,ws,j,rfl,rfl,sm,E,rs,G,f,b,J,q⟩:=h;subst C;obtain⟨u,rfl,L⟩:=D.one;obtain⟨z,its,n,g,e⟩:=E.ok I.aw;have f:=nS.mp f;have b:=nS.mp b;obtain⟨as,i⟩:=tS I sm (show jW ds=true from f.1) rs g
 obtain⟨bs,M⟩:=jL I sm b.1 G L;have k:Xe (cD ds)=true:=sj f.2;have N:(toPy d).canLay0=true:=sj b.2;have l:=SeqAt.readsAll_map _ _ _ k i;obtain⟨O,hit,o⟩:=Wp.mp J;have hl:its.length=(cD ds).length:=by simp only[<-l,ab]
 have get:∀(m:Nat) (h:m<its.toArray.size),W0 s.heap its.toArray[m]=(cD ds)[m]'(by rw[<-hl];simpa using h):=λm h=>by
  have a:(its.map (W0 s.heap))[m]?=some (W0 s.heap its.toArray[m]):=by
   rw[cR];have:its[m]?=some its.toArray[m]:=by
    rw[cm (by simpa using h)]
    simp
   rw[this];rfl
  rw[l] at a;rw[cm (by rw[<-hl];simpa using h)] at a
  exact (Option.some.inj a).symm
 have c:j<its.toArray.size:=by
  simp only[ft,hl];exact O
 have hz:=g.length;have l63:=kR;refine YH ZR ⟨_,e,rfl⟩ F.entry_list_index (F.args_list_index_2 _ _)
  (SeqAt.list_indexAt p its.toArray n none #[] u (λw=>zb (W0 s.heap w) (toPy d)) j c ?_ ?_ λm r t=>?_) ⟨e,SeqAt.items_eqAt (by simpa using i) M k N (Xw b.2 B),?_⟩
 ·rw[ft] at c
  lia
 ·show zb (W0 s.heap its.toArray[j]) (toPy d)=true;rw[get j c];exact hit
 ·show zb (W0 s.heap its.toArray[m]) (toPy d)=false;rw[get m r];exact HT.mpr (o m t)
 ·exact⟨.int (j:Int),H,I.tok _,⟨_,rfl⟩,q⟩
def qE(f:DF)(fa:AF):DF:=λZ=>(f Z).bind λp=>(fa p.2).bind λq=>match p.1,q.1 with
 | .lst ds,[d]=>if bD (.lst ds)&&bD d then (nD d ds).map λj:Nat=>(.int (j:Int),q.2) else none
 | _,_=>none
theorem HK (C:DD X o f)(D:DA X [e] fa)(E:∀{to:TE}{t:TA},PE X o to->PA X [e] t->PE X (.Call (.Attribute o "index" g) [e] [] pos) (tL X.K "list" (Eh X.K) to t)):DD X (.Call (.Attribute o "index" g) [e] [] pos) (qE f fa):=by
 obtain⟨to,F,G⟩:=C;obtain⟨t,p,q⟩:=D;refine⟨_,E F p,λr s Z u H I d Z' Q b S k=>?_⟩
 obtain⟨c,Z1,J,b⟩:=oB b;cases l:fa Z1 with
 | none=>rw[l] at b;exact nO b
 | some ap =>
  obtain⟨as,Z2⟩:=ap;rw[l] at b;dsimp only[k7] at b;split at b
  ·rename_i ds x;split at b
   ·rename_i h;have h:=nS.mp h;obtain⟨j,L,b⟩:=oM b;obtain⟨rfl,rfl⟩:=sP b;refine G r s Z u H I _ Z1 _ J S λv M w z N O=>?_
    obtain⟨a,A,rfl,B,rs⟩:=O;refine⟨.inl ⟨rfl,A,.inl (Rd.mono z.sub B)⟩,q r s Z1 u M w _ _ _ l z λvs P i m n R=>?_⟩
    obtain⟨y,yr,rfl,T,U⟩:=R;subst U;exact⟨i,ds,x,y,a,A,j,rfl,rfl,m.sub,Rd.mono m.sub (Rd.mono n B),az.mono n rs,T,h.1,h.2,L,k _ P i m (N.trans n) rfl⟩
   ·exact nO b
  ·exact nO b
end
def PE.or (h:PE X e t)(h':PE X e u):PE X e (λa H Q=>t a H Q\/u a H Q):=λb s a H Q I q=>q.elim (h b s a H Q I) (h' b s a H Q I)
def PS.or (h:PS X e t)(h':PS X e u):PS X e (λD a H=>t D a H\/u D a H):=λb s a H D I q=>q.elim (h b s a H D I) (h' b s a H D I)
def PG.or (h:PG X e t)(h':PG X e u):PG X e (λv a H Q=>t v a H Q\/u v a H Q):=λb s a H v z Q I r q=>q.elim (h b s a H v z Q I r) (h' b s a H v z Q I r)
def F6(n:Nat)(t:ju):TG:=λv b H Q=>∃a xs,v=.ref a/\Rd H a (.lst xs)/\xs.length=n/\t xs b H Q
section
variable{X:Cx}{pos:z8}{K:gj}{H:Hp}{a b e:hY}{es:List hY}
def JP (i:X.calm=true)(h:nA X es t)(j:(u1 es X.env).length=n:=by rfl)(d:(u1 es X.env).findIdx? (·.1)=none:=by rfl):PG X (.Tuple es k pos) (F6 n t):=by
 intro c s f H v u Q I r hw;obtain⟨a,xs,l,p,hl,hw⟩:=hw;subst l;subst r;obtain⟨z,its,m,g,e⟩:=p.ok I.aw;have q:s.heap.IsList a its.toArray:=⟨_,e,rfl,m,rfl⟩;refine bt (Yz ?_);delta unpack;rw[show (u1 es X.env).length=its.toArray.size by simp[j,<-hl,g.length],d]
 refine bt (q0 (W.kun_itemsOf (I.ok.hd i) q λh' w=>?_))
 have x:=I.kept (t':=s.toks) λb o e=>w b o (iW (gi e)) e
 exact h c _ f H xs _ Q x (g) hw
noncomputable def vV(n:Nat)(c:List Dat->DS->Option DS):GF
 | .tup ds,Z=>if ds.length=n then c ds Z else none
 | .lst ds,Z=>if ds.length=n then c ds Z else none
 | _,_=>none
def Gj (i:X.calm=true)(h:mG X es g)(j:(u1 es X.env).length=n:=by rfl)(c:(u1 es X.env).findIdx? (·.1)=none:=by rfl):DG X (.Tuple es k pos) (vV n g):=by
 obtain⟨t,p,q⟩:=h;refine⟨_,PG.or (Nw i p j c) (JP i p j c),λl m Z o H s d u v Q e S r k=>?_⟩
 unfold vV at e;split at e
 ·split at e
  ·rename_i hl;obtain⟨a,vs,rfl,f,rs⟩:=r;exact .inl ⟨a,vs,rfl,aX.mono S.sub f,by rw[rs.length];exact hl,q l m Z o H s _ u vs Q e S rs k⟩
  ·cases e
 ·split at e
  ·rename_i hl;obtain⟨a,vs,rfl,f,rs⟩:=r;exact .inr ⟨a,vs,rfl,Rd.mono S.sub f,by rw[rs.length];exact hl,q l m Z o H s _ u vs Q e S rs k⟩
  ·cases e
 ·exact nO e
noncomputable def Es:Dat->String
 | .bj=>"NoneType" | .bl _=>"bool" | .int _=>"int" | .str _=>"str" | .tup _=>"tuple" | .lst _=>"list" | .bP _=>"dict" | .exc _=>"" | .ins _ _=>"" | .cj _=>"" | .adr _=>"" | .dR _=>"" | .bf _ _=>""
noncomputable def tR(T c:String):Bool:=T==c||(T == "bool" && c == "int")
noncomputable def yz:List String:=["tuple","list","str","int","bool"]
def GC:∀T∈["NoneType","bool","int","str","tuple","list","dict"],∀c∈yz,W.kitOne [] (.type T) (.type c)=some (tR T c):=by decide +kernel
def mE (h:T∈["NoneType","bool","int","str","tuple","list","dict"])(h':c∈yz):W.kitOne K (.type T) (.type c)=some (tR T c):=by
 rw[<-GC T h c h'];rfl
noncomputable def isExc:Dat->Bool
 | .exc _=>true
 | .ins _ _=>true
 | .cj _=>true
 | .adr _=>true
 | .dR _=>true
 | .bf _ _=>true
 | _=>false
def mN(d:Dat)(T:String):Option Bool:=if isExc d=false/\T∈yz then some (tR (Es d) T) else none
def OP(K:gj):List V->Hp->VK->Prop:=λxs H Q=>∃c d x T b,xs=[x,.ty T]/\aj c H/\Rep K c d x/\mN d T=some b/\Q (.bl b) H
theorem RW:bN X (.builtin "isinstance") (OP X.K):=by
 intro m s D H xs us Q I r h;obtain⟨Hi,d,x,T,b,rfl,sm,g,e,q⟩:=h;obtain⟨u,c,rfl,j,v⟩:=r.two;subst v;delta mN at e;split at e
 case isFalse=>exact nO e
 case isTrue hh =>
  obtain rfl:=sO e;obtain⟨hx,k⟩:=hh;have f:∀tk,EP X m D Q (.bool (tR (Es d) T)) {s with toks:=tk}:=λtk=>⟨.bl _,H,I.tok _,rfl,q⟩
  cases d with
  | bj=>subst g;subst j;exact XS W.kitx_none I.gX WI (mE (by decide) k) (λz=>nomatch z) f
  | bl y=>subst g;subst j;exact XS W.kitx_bool I.gX WI (mE (by decide) k) (λz=>nomatch z) f
  | int i=>subst g;obtain⟨t,rfl⟩:=j;exact XS W.kitx_int I.gX WI (mE (by decide) k) (λz=>nomatch z) f
  | str y=>subst g;obtain⟨t,rfl⟩:=j;exact XS W.kitx_str I.gX WI (mE (by decide) k) (λz=>nomatch z) f
  | tup ds =>
   obtain⟨p,vs,rfl,w,_⟩:=g;cases j;obtain⟨its,_,⟨o,l,A,_⟩,_⟩:=I.tuple (aX.mono sm w);exact XS W.kitx_tuple I.gX ⟨o,l,A⟩ (mE (by decide) k) (λz=>nomatch z) f
  | lst ds =>
   obtain⟨p,vs,rfl,w,_⟩:=g;cases j;obtain⟨z,its,n,_,l⟩:=(Rd.mono sm w).ok I.aw;exact XS W.kitx_list I.gX ⟨_,l,rfl⟩ (mE (by decide) k) (λz=>nomatch z) f
  | bP B =>
   obtain⟨p,kvs,rfl,E,_⟩:=g;cases j;obtain⟨_,_,ws,_,o,es,ep,l,A,_⟩:=I.aw p _ (sm _ _ E);exact XS W.kitx_dict I.gX ⟨o,l,A.1⟩ (mE (by decide) k) (λz=>nomatch z) f
  | exc C=>contradiction
  | ins C fs=>contradiction
  | cj ns=>contradiction
  | adr p=>contradiction
  | dR B=>contradiction
  | bf fz B=>contradiction
def la(T:String)(f:DF):DF:=λZ=>(f Z).bind λp=>(mN p.1 T).map λb=>(.bl b,p.2)
def sx (r:DD X e f)(j:Gl X "isinstance")(l:X.mg "isinstance"=none)(m:Gl X g)(n:X.mg g=none)(s:C' g=some (.type T))(u:g≠"__name__":=by decide)(hd:bO g:=by decide)(hs:bK X e [.Name g q]:=by rfl):DD X (.Call (.Name "isinstance" p) [e,.Name g q] [] pos) (la T f):=by
 obtain⟨t,w,x⟩:=r;refine⟨_,oW RW j l (by decide +kernel) (jD w (jD (P5 (v:=.ty T) m n s rfl u hd) lj rfl) hs) (by decide) rfl hs rfl,λy z Z A H B d Z' Q h S k=>?_⟩
 obtain⟨c,Z1,C,h⟩:=oB h;obtain⟨b,D,h⟩:=oM h;obtain⟨rfl,rfl⟩:=sP h;exact x y z Z A H B c _ _ C S λv E i o F G=>⟨i,c,v,T,b,rfl,o.sub,G,D,k _ E i o F rfl⟩
def oO(neg:Bool):R2:=λy x H Q=>∃a o,x=.ref a/\i9 H a y o/\Q (.bl (if neg then !o.isSome else o.isSome)) H
def yJ(c:X.A.units+1<y3):aO X (n5 .In) (oO false):=by
 intro pins s σ H x y v u Q I d f h;obtain⟨a,o,rfl,g,q⟩:=h;subst f;exact Kl c I g d λs' i=>⟨.bl _,H,i,rfl,q⟩
def Af(c:X.A.units+1<y3):aO X (n5 .NotIn) (oO true):=by
 intro pins s σ H x y v u Q I d f h;obtain⟨a,o,rfl,g,q⟩:=h;subst f;exact NA c I g d λs' i=>⟨.bl _,H,i,rfl,q⟩
def Pw:bN X (.type "dict") (λxs H Q=>∃a kvs,xs=[.ref a]/\Rd H a (.dK kvs)/\∀p,H p=none->Q (.ref p) (upd H p (.dK kvs))):=by
 intro pins s σ H xs us Q I r h;obtain⟨a,kvs,rfl,c,q⟩:=h;obtain⟨u,rfl,d⟩:=r.one;subst d;exact Rf I c λp s' f g=>⟨.ref p,_,g,rfl,q p f⟩
noncomputable def dq(c:List (fk×Dat))(k:fk):Option Dat:=(c.find? λp=>decide (p.1=k)).map (·.2)
def vp(c:List (fk×Dat))(k:fk)(d:Dat):List (fk×Dat):=if (dq c k).isSome=true then c.map (λp=>if p.1=k then (p.1,d) else p) else c++[(k,d)]
theorem bI.find:∀{c:List (fk×Dat)}{kvs:List (Key×V)}(k:fk),bI K H c kvs->(∀d,dq c k=some d->∃v,fJ kvs (ro k)=some v/\Rep K H d v)/\(dq c k=none->fJ kvs (ro k)=none)
 | [],_,k,h=>by
  rw[show _=[] from h]
  exact⟨λd z=>by simp[dq] at z,λ_=>rfl⟩
 | (f,d')::c,_,k,⟨v,r,e,q,t⟩=>by
  rw[e];obtain⟨a,b⟩:=bI.find k t
  by_cases g:f=k
  ·subst g;have i:dq ((f,d')::c) f=some d':=by simp[dq]
   rw[i,oY rfl];exact⟨λd z=>⟨v,rfl,by obtain rfl:=sO z;exact q⟩,λz=>by contradiction⟩
  ·have i:dq ((f,d')::c) k=dq c k:=by simp[dq,g]
   rw[i,qw (by simpa using g)]
   exact⟨a,b⟩
theorem bI.has (k:fk)(h:bI K H c kvs):(fJ kvs (ro k)).isSome=(dq c k).isSome:=by
 obtain⟨a,b⟩:=h.find k;cases e:dq c k with
 | none=>rw[b e];rfl
 | some d=>obtain⟨v,f,_⟩:=a d e;rw[f];rfl
theorem bI.jj:∀{c:List (fk×Dat)}{kvs:List (Key×V)}(k:fk) {d:Dat}{v:V},bI K H c kvs->Rep K H d v->bI K H (c.map λp=>if p.1=k then (p.1,d) else p) (kvs.map λp=>if p.1=ro k then (p.1,v) else p)
 | [],_,k,_,_,h,_=>by simp only[show _=[] from h];exact rfl
 | (i,d')::c,_,k,d,v,⟨w,r,e,q,t⟩,f=>by
  rw[e,ka,ka]
  by_cases g:i=k
  ·subst g;rw[if_pos rfl,if_pos rfl];exact⟨v,_,rfl,f,bI.jj i t f⟩
  ·rw[if_neg g,if_neg (by simpa using g)]
   exact⟨w,_,rfl,q,bI.jj k t f⟩
theorem bI.snoc:∀{f:List (fk×Dat)}{kvs:List (Key×V)}(k:fk) {d:Dat}{v:V},bI K H f kvs->Rep K H d v->bI K H (f++[(k,d)]) (kvs++[(ro k,v)])
 | [],_,k,_,v,h,c=>by rw[show _=[] from h];exact⟨v,[],rfl,c,rfl⟩
 | (_,_)::_,_,k,_,_,⟨w,r,e,q,t⟩,c=>⟨w,r++_,by rw[e];rfl,q,bI.snoc k t c⟩
def bI.put (k:fk)(h:bI K H c kvs)(f:Rep K H d v):bI K H (vp c k d) (putK kvs (ro k) v):=by
 delta vp putK;rw[tT,h.has k];split
 ·exact h.jj k f
 ·exact h.snoc k f
def cf:Dat->Dat->Option Dat
 | .bP d,.str k=>dq d k
 | c,n=>qQ c n
def pJ(f g:DF):DF:=λZ=>(f Z).bind λp=>(g p.2).bind λq=>(cf p.1 q.1).map λd=>(d,q.2)
def mo(i:Nat)(g:DF):DF:=λZ=>((Z[i]?).bind iU).bind λ_=>(g Z).bind λq=>((q.2[i]?).bind iU).bind λc=>(cf c q.1).map λd=>(d,q.2)
theorem MA (P:X.A.units+1<y3)(R:DD X a f)(T:DD X b g)(hs:nh b):DD X (.Subscript a b pos) (pJ f g):=by
 obtain⟨ta,F,G⟩:=R;obtain⟨tb,I,J⟩:=T;refine⟨_,PE.or (zx Ea F I hs) (yA P F I hs),λq r Z s H L d Z' Q e S k=>?_⟩
 obtain⟨c,Z1,M,e⟩:=oB e;obtain⟨n,Z2,N,e⟩:=oB e;dsimp only at e;cases h:cf c n with
 | none=>rw[h] at e;exact nO e
 | some d' =>
  rw[h] at e;cases e
  by_cases hd:∃t i,c=.bP t/\n=.str i
  ·obtain⟨t,i,rfl,rfl⟩:=hd;refine .inr (G q r Z s H L _ Z1 _ M S λx u j w z B=>?_)
   refine J q r Z1 s u j _ _ _ N w λy C l m o D=>?_
   obtain⟨p,kvs,rfl,U,V⟩:=Rep.mono o B;subst D;obtain⟨v,W,E⟩:=(V.find i).1 d h;refine⟨p,v,rfl,?_,k v C l m (z.trans o) E⟩;rw[<-W];exact i9.k (k:=ro i) (m.sub _ _ U)
  ·have O:qQ c n=some d:=by
    delta cf at h;split at h
    ·rename_i t i;exact absurd ⟨t,i,rfl,rfl⟩ hd
    ·exact h
   refine .inl (G q r Z s H L _ Z1 _ M S λx u j w z B=>?_)
   refine J q r Z1 s u j _ _ _ N w λy C l m o D=>?_
   exact Df ((Rep.mono o B).top m.sub) D O λv E=>k v C l m (z.trans o) E
theorem Ky (i:Nat)(T:X.A.units+1<y3)(B:X.N[i]?=some x)(C:cC X.env.scope x)(U:DD X b g)(hs:nh b)(hd:bO x:=by decide)(r:dh x:=by decide):DD X (.Subscript (.Name x R) b pos) (mo i g):=by
 obtain⟨tb,D,E⟩:=U;refine⟨_,PE.or (zx Ea (fT B C hd r) D hs) (yA T (fT B C hd r) D hs),λF G Z I H J d Z' Q e S k=>?_⟩
 obtain⟨c0,V,e⟩:=oA e;obtain⟨n,Z2,L,e⟩:=oB e;obtain⟨c,M,e⟩:=oA e;dsimp only at e;cases f:cf c n with
 | none=>rw[f] at e;exact nO e
 | some d' =>
  rw[f] at e;cases e;obtain⟨O,o,_⟩:=S.peek V
  by_cases hd:∃q h,c=.bP q/\n=.str h
  ·obtain⟨q,h,rfl,rfl⟩:=hd;refine .inr ⟨O,o,E F G Z I H J _ _ _ L S λy s j l t u=>?_⟩
   obtain⟨W,m,w⟩:=l.peek M;rw[o] at m;cases m;obtain⟨p,kvs,rfl,Y,rk⟩:=w;subst u;obtain⟨v,ev,z⟩:=(rk.find h).1 d f;refine⟨p,v,rfl,?_,k v s j l t z⟩;rw[<-ev];exact i9.k (k:=ro h) Y
  ·have P:qQ c n=some d:=by
    delta cf at f;split at f
    ·rename_i q h;exact absurd ⟨q,h,rfl,rfl⟩ hd
    ·exact f
   refine .inl ⟨O,o,E F G Z I H J _ _ _ L S λy s j l t u=>?_⟩
   obtain⟨W,m,w⟩:=l.peek M;rw[o] at m;cases m;exact Df w u P λv z=>k v s j l t z
def fu(neg:Bool):Dat->Dat->Option Res
 | .str k,.bP c=>some (.dat (.bl (if neg then !(dq c k).isSome else (dq c k).isSome)))
 | .str k,.dR c=>some (.dat (.bl (if neg then !(dq c k).isSome else (dq c k).isSome)))
 | d,e=>uC neg d e
def yn:eF X (λx y H Q=>m7 X.K neg x y H Q\/oO neg x y H Q) (fu neg):=by
 intro l m Z n H f x y d d' o Q e S g h k;delta fu at e;split at e
 ·cases e;rename_i c q;cases g;obtain⟨p,kvs,rfl,i,j⟩:=h;refine .inr ⟨p,_,rfl,i9.k (k:=ro c) (S.sub _ _ i),?_⟩;rw[j.has c];exact k _ H f S (aj.refl _) rfl
 ·cases e;rename_i c q;cases g;obtain⟨p,r,kvs,rfl,i,j⟩:=h;refine .inr ⟨p,_,rfl,.inl ⟨kvs,ro c,.inr ⟨r,S.sub _ _ i⟩,rfl,rfl⟩,?_⟩;rw[j.has c];exact k _ H f S (aj.refl _) rfl
 ·exact .inl (Nv l m Z n H f x y _ _ o Q e S g h k)
def zD(c:X.A.units+65<y3):aO X (n5 .In) (λx y H Q=>m7 X.K false x y H Q\/oO false x y H Q):=aO.or (MZ c) (yJ (by lia))
def MG(c:X.A.units+65<y3):aO X (n5 .NotIn) (λx y H Q=>m7 X.K true x y H Q\/oO true x y H Q):=aO.or (PU c) (Af (by lia))
noncomputable def An:List Dat->Option Res
 | [.bP c]=>some (.own (.bP c))
 | _=>none
def MF:CD X (λxs H Q=>∃a kvs,xs=[.ref a]/\Rd H a (.dK kvs)/\∀p,H p=none->Q (.ref p) (upd H p (.dK kvs))) An:=by
 intro H0 ps Z σ H d vs ds o Q e S r k;delta An at e;split at e
 ·obtain rfl:=sO e;obtain⟨v,vr,rfl,⟨p,kvs,rfl,f,g⟩,h⟩:=r;subst h;refine⟨p,kvs,rfl,Rd.of (S.sub _ _ f),λq c=>?_⟩
  exact k (.ref q) _ d (S.made c) (aj.refl _) ⟨q,rfl,⟨kvs,ba,g,S.dw c⟩,(S.bJ c).2,(S.bJ c).1,S.dP c⟩
 ·exact nO e
def Kc:aO X (VE .Mult) (λx y H Q=>∃l xs n,x=.ref l/\y=.int n/\Rd H l (.lst xs)/\(n=0\/n=1)/\∀p,H p=none->Q (.ref p) (upd H p (.lst (if n=0 then [] else xs)))):=by
 intro pins s σ H x y v u Q I d f h;obtain⟨l,xs,n,rfl,rfl,g,c,q⟩:=h;subst d;obtain⟨tk,rfl⟩:=f;obtain⟨z,its,k,r,e⟩:=g.ok I.aw;have hz:=r.length;have hsz:its.toArray.size*n.toNat<=sizeLine:=by
  rcases c with rfl|rfl
  ·simp
  ·simp;lia
 refine wpAny_binaryOp_repeat_ref rfl ⟨_,e,rfl⟩ (λs'=>abc s' n tk) noFill_list_mul
  F.fills_int_mul abr repeat_list F.slot_int_index.lookup ?_
 refine YH abr (abc s n tk) F.entry_int_rmul (F.args_int_rmul_2 _ _) (int___rmul___int_list n tk l its.toArray k) ⟨e,rfl,⟨_,e,rfl⟩,?_⟩;refine YH F.slot_list_mul ⟨_,e,rfl⟩ F.entry_list_mul (F.args_list_mul_2 _ _)
  (AutoListH.list___mul___list_int_3 l its.toArray k n tk (by simp[abV];lia) (by rw[z4] at hsz;lia) (by simp only[abU];simpa using hsz)) ⟨e,?_⟩
 have i:(List.foldl (λj m=>j++m) #[] (ia (if its.toArray.isEmpty=true then 0 else n.toNat) its.toArray))=(if n=0 then [] else its).toArray:=by
  rcases c with rfl|rfl
  ·split<;>simp
  ·split
   ·rename_i h;have:its=[]:=by simpa using h
    subst this;simp
   ·simp
 rw[i];refine⟨.ref _,_,I.su ?_ ?_,rfl,q _ I.fresh⟩
 ·rcases c with rfl|rfl
  ·exact .nil
  ·exact r
 ·rcases c with rfl|rfl
  ·exact qh _
  ·simpa using z
noncomputable def zE(x:fk):It:=⟨λi _=>i<x.cps.size,λi H v d=>d=H/\∃c,x.cps[i]?=some c/\v=.str ⟨#[c]⟩,λi _=>x.cps.size<=i⟩
def Nf (x)(t)(it):Turn P w K F (zE x) [it] it (λi h=>h.IsStrIter it "str_ascii_iterator" x t i) where
 mem:=by simp
 obj:=λi h st b f=>by
  have e:b=it:=by simpa using f
  subst e;obtain⟨o,e,c,d⟩:=st;exact⟨o,e,λv z=>by rw[d] at z;contradiction⟩
 keep:=λi h h' st k=>by
  obtain⟨o,e,c,d⟩:=st;exact⟨o,k it (by simp) o e,c,d⟩
 item:=by
  intro X m hw n B i g s C H E I j st p;obtain⟨q,r,G,u,y,A⟩:=j it (by simp)
  have D:=iR p;refine wpAny_pyNext_ascii_item st D λh' l J=>?_
  have L:Inv X g C H {s with heap:=h',toks:=s.toks+1}:=I.turned (λb o f e=>(J.2 b f).trans e) q r u y A
  obtain⟨o,e,c,d⟩:=id l;exact⟨_,rfl,nj e c d rfl ⟨.str ⟨#[x.cps[i]]⟩,H,L,⟨_,rfl⟩,⟨rfl,_,D,rfl⟩,l,λb f=>(j b f).1⟩⟩
 done:=by
  intro X m hw n B i g s C H E I j st p;obtain⟨q,r,G,u,y,A⟩:=j it (by simp)
  exact wpAny_pyNext_ascii_end (I.ok.hd B) st (XF p) λh' M=>⟨rfl,I.turned (λb o f e=>M b o f e) q r u y A⟩
 self:=λ_ _ _ _ _ st h=>wpAny_pyIter_striter_ascii st h
def JQ(te:TE):TI:=λc H R=>te c H λv d=>∃x,v=.str x/\x.cps.all (·<128)=true/\R (zE x) d
def Qq (i:PE X e te):PI X g e (JQ te):=by
 intro d s j H R I h;refine aG (i d s j H _ I h) λv c ⟨y,k,f,l,m⟩=>?_
 obtain⟨x,rfl,n,q⟩:=m;obtain⟨t,rfl⟩:=l;refine wpAny_pyIter_ascii n ⟨c.heap.objs.size,[c.heap.objs.size],_,_,k,rfl,f.kept λb o e=>fj _ e,Nf x t _,⟨_,k5 _ rfl,rfl,rfl⟩,λb p=>?_,q⟩
 rw[show b=c.heap.objs.size by simpa using p]
 exact f.kG (eT _) (f.aw.fresh (eT _))
theorem zt:∀{ys:List fk}{us:List cA},aH (ys.map V.str) us->XJ us ys
 | [],_,h=>by cases h;exact .nil
 | y::ys,_,h=>by
  cases h with
  | cons r t =>
   obtain⟨tk,rfl⟩:=r;exact .cons _ _ (zt t)
def OR:rG X "str.join" (λx vs H Q=>∃(sep:fk) (p:eu) (ys:List fk),x=.str sep/\vs=[.ref p]/\Rd H p (.lst (ys.map V.str))/\sep.length<=16/\(ys.map (·.length)).sum+ys.length<=1048576/\Q (.str (XC sep ys)) H):=by
 intro pins s σ H x vs v us Q I c d h;obtain⟨sep,p,ys,rfl,rfl,f,g,i,q⟩:=h;obtain⟨t,rfl⟩:=c;obtain⟨u,rfl,j⟩:=d.one;subst j;obtain⟨z,its,n,r,e⟩:=f.ok I.aw;exact join_listW ⟨_,e,rfl,n,rfl⟩ (zt r) g i λt' k=>⟨.str _,H,I.tok k,⟨t',rfl⟩,q⟩
theorem xN:∀{bs:List Bool}{us:List cA},aH (bs.map V.bl) us->us=bs.map Hz
 | [],_,h=>by cases h;rfl
 | b::bs,_,h=>by
  cases h with
  | cons r t =>
   cases (r)
   rw[xN t];rfl
theorem NK(bs:List Bool):((hI bs.length).all λi=>(bs[i]?).getD true)=bs.all id:=by
 induction bs with
 | nil=>rfl
 | cons b r c =>
  simp only[fv,Zx,Xs,ZA,Xs,<-c];rfl
def F8(j:X.calm=true):bN X (.builtin "all") (λxs H Q=>∃(p:eu) (bs:List Bool),xs=[.ref p]/\Rd H p (.lst (bs.map V.bl))/\Q (.bl (bs.all id)) H):=by
 intro pins s σ H xs us Q I r h;obtain⟨p,bs,rfl,k,q⟩:=h;obtain⟨u,rfl,l⟩:=r.one;subst l;obtain⟨z,its,n,m,e⟩:=k.ok I.aw;have d:=xN m;subst d;have f:s.heap.IsList p (bs.map Hz).toArray:=⟨_,e,rfl,n,rfl⟩;have o:p<s.heap.objs.size:=gi e;refine call_all_walk (V0 f ⟨s.heap.objs.size,[s.heap.objs.size,p],[s.heap.objs.size],(bs.map Hz).toArray.size,_,_,λi=>(bs[i]?).getD true,rfl,
  Walks.list (A:=X.A.in1) (I.ok.hd j) _ p (iW o) (bs.map Hz).toArray,⟨⟨_,k5 _ rfl,rfl,rfl⟩,f.push _⟩,λi v s' Q' E' c g=>?_,λh' tk t=>?_⟩)
 ·have c:(bs.map Hz)[i]?=some v:=by simpa using c
  rw[cR] at c;obtain⟨b,d,c⟩:=oM c;obtain rfl:=sO c;simp only[d,Option.getD_some] at g;exact Vr g
 ·have w:(hI (bs.map Hz).toArray.size).all (λi=>(bs[i]?).getD true)=bs.all id:=by
   rw[ft,ab];exact NK bs
  rw[w];refine⟨.bl _,H,?_,rfl,q⟩;exact I.kept (t':=tk) λb x ex=>t b x (λy=>by rw[kq.mp y] at ex;exact za _ (gi ex)) (fj _ ex)
noncomputable def alt (f g:c->Option d):c->Option d:=λa=>match f a with
 | some b=>some b
 | none=>g a
theorem ux{c d:Type}{f g:c->Option d}{a:c}{b:d}(h:alt f g a=some b):f a=some b\/g a=some b:=by
 delta alt at h;split at h
 ·rename_i e;obtain rfl:=sO h;exact .inl e
 ·exact .inr h
theorem DE.alt{e:hY}{f g:EF}(h:DE X e f)(h':DE X e g):DE X e (alt f g):=by
 obtain⟨t,p,q⟩:=h;obtain⟨t',n,o⟩:=h';exact⟨_,PE.or p n,fun c i Z j H l d m Q e S k=>(ux e).elim (fun e=>.inl (q c i Z j H l d m Q e S k)) fun e=>.inr (o c i Z j H l d m Q e S k)⟩
theorem cM.alt{st:Wt}{f g:SF}(h:cM X st f)(h':cM X st g):cM X st (alt f g):=by
 obtain⟨t,p,q⟩:=h;obtain⟨t',l,m⟩:=h';exact⟨_,PS.or p l,fun c d Z i H j o D e S k=>(ux e).elim (fun e=>.inl (q c d Z i H j o D e S k)) fun e=>.inr (m c d Z i H j o D e S k)⟩
theorem dv.alt{c iter:hY}{f g:IF}(h:dv X c iter f)(h':dv X c iter g):dv X c iter (alt f g):=by
 obtain⟨t,p,q⟩:=h;obtain⟨t',n,o⟩:=h';exact⟨_,PI.or p n,fun d i Z j H l items m R e S k=>(ux e).elim (fun e=>.inl (q d i Z j H l items m R e S k)) fun e=>.inr (o d i Z j H l items m R e S k)⟩
noncomputable def xo:Dat->Dat->Option Res
 | .lst xs,.int n=>if n=0\/n=1 then some (.own (.lst (if n=0 then [] else xs))) else none
 | _,_=>none
def QU:eF X (λx y H Q=>∃l xs n,x=.ref l/\y=.int n/\Rd H l (.lst xs)/\(n=0\/n=1)/\∀p,H p=none->Q (.ref p) (upd H p (.lst (if n=0 then [] else xs)))) xo:=by
 intro H0 ps Z σ H f x y d d' o Q e S g h k;delta xo at e;split at e
 ·split at e
  ·rename_i i;obtain rfl:=sO e;obtain⟨p,vs,rfl,j,rs⟩:=g;subst h;refine⟨p,vs,_,rfl,rfl,Rd.mono S.sub j,i,λq c=>?_⟩
   refine k (.ref q) _ f (S.made c) (aj.refl _) ⟨q,rfl,⟨_,ba,?_,S.dw c⟩,(S.bJ c).2,(S.bJ c).1,S.dP c⟩;split
   ·exact rfl
   ·exact rs
  ·exact nO e
 ·exact nO e
def HW (c:DD X a f)(d:DD X b g):DE X (.BinOp a .Mult b pos) (cK xo f g):=mB Kc QU c d
noncomputable def kn(f:DF):IF:=λZ=>(f Z).bind λp=>match p.1 with
 | .str x=>if x.cps.all (·<128)=true then some (x.cps.toList.map λc=>.str ⟨#[c]⟩,p.2) else none
 | _=>none
def J6 (h:DD X e f):dv X n e (kn f):=by
 obtain⟨t,p,q⟩:=h;refine⟨_,Qq p,λo r Z s H u items Z' R g S k=>?_⟩
 obtain⟨c,Z1,w,g⟩:=oB g;dsimp only at g;split at g
 ·rename_i x;split at g
  ·rename_i z;obtain⟨rfl,rfl⟩:=sP g;refine q o r Z s H u _ _ _ w S λv A l B C D=>?_
   subst D;refine⟨x,rfl,z,k _ A l B C λi H' sm=>⟨λd hd=>?_,λhl=>?_⟩⟩
   ·rw[cR,gW] at hd;obtain⟨c,m,hd⟩:=oM hd;obtain rfl:=sO hd;refine⟨(xr.mp m).1,λv H2 y=>.inl ?_⟩
    obtain⟨E,c',j,F⟩:=y;rw[m] at j;obtain rfl:=sO j;exact⟨E,F⟩
   ·show x.cps.size<=i;simpa using hl
  ·exact nO g
 ·exact nO g
noncomputable def dB:List Dat->Option (List fk)
 | []=>some []
 | .str x::r=>(dB r).map (x::·)
 | _::_=>none
theorem k8:∀{ds:List Dat}{vs:List V}{ys:List fk},dB ds=some ys->az K H ds vs->vs=ys.map V.str
 | [],_,_,e,r=>by obtain rfl:=sO e;exact r
 | d::ds,_,_,e,⟨v,vr,c,f,rs⟩=>by
  cases d with
  | str x =>
   obtain⟨ys',g,e⟩:=oM e;obtain rfl:=sO e;simp only[c,k8 g rs];subst f;rfl
  | _=>exact nO e
def qC(sep:fk)(f:DF):DF:=λZ=>(f Z).bind λp=>match p.1 with
 | .lst ds=>(dB ds).bind λys=>if sep.length<=16/\(ys.map (·.length)).sum+ys.length<=1048576 then some (.str (XC sep ys),p.2) else none
 | _=>none
def MT (h:DD X e f)(s:∀{t:TA},PA X [e] t->PE X (.Call (.Attribute (.Constant (.str sep) j l) "join" i) [e] [] pos) (tL X.K "str" (λx vs H Q=>∃(sep:fk) (p:eu) (ys:List fk),x=.str sep/\vs=[.ref p]/\Rd H p (.lst (ys.map V.str))/\sep.length<=16/\(ys.map (·.length)).sum+ys.length<=1048576/\Q (.str (XC sep ys)) H) (tC (.str sep)) t))(hs:bK X e []:=by rfl):DD X (.Call (.Attribute (.Constant (.str sep) j l) "join" i) [e] [] pos) (qC sep f):=by
 obtain⟨t,p,q⟩:=h;refine⟨_,s (jD p lj hs),λu w Z y H z d Z' Q g S k=>?_⟩
 obtain⟨c,Z1,A,g⟩:=oB g;dsimp only at g;split at g
 ·obtain⟨ys,B,g⟩:=oA g;split at g
  ·rename_i m;obtain⟨rfl,rfl⟩:=sP g;refine⟨rfl,q u w Z y H z _ _ _ A S λv C n o D E=>?_⟩
   obtain⟨a,vs,rfl,r,rs⟩:=E;rw[k8 B rs] at r;exact⟨sep,a,ys,rfl,rfl,Rd.mono o.sub r,m.1,m.2,k _ C n o D rfl⟩
  ·exact nO g
 ·exact nO g
noncomputable def jM:List Dat->Option (List Bool)
 | []=>some []
 | .bl x::r=>(jM r).map (x::·)
 | _::_=>none
theorem yh:∀{ds:List Dat}{vs:List V}{ys:List Bool},jM ds=some ys->az K H ds vs->vs=ys.map V.bl
 | [],_,_,e,r=>by obtain rfl:=sO e;exact r
 | d::ds,_,_,e,⟨v,vr,c,f,rs⟩=>by
  cases d with
  | bl x =>
   obtain⟨ys',g,e⟩:=oM e;obtain rfl:=sO e;simp only[c,yh g rs];subst f;rfl
  | _=>exact nO e
def oJ:List Dat->Option Res
 | [.lst ds]=>(jM ds).map λbs=>.dat (.bl (bs.all id))
 | _=>none
def Qj:CD X (λxs H Q=>∃(p:eu) (bs:List Bool),xs=[.ref p]/\Rd H p (.lst (bs.map V.bl))/\Q (.bl (bs.all id)) H) oJ:=by
 intro H0 ps Z σ H d vs ds o Q e S r k;unfold oJ at e;split at e
 ·rename_i ds';obtain⟨bs,f,e⟩:=oM e;obtain rfl:=sO e;obtain⟨v,vr,rfl,⟨a,ws,rfl,c,rs⟩,g⟩:=r;subst g;rw[yh f rs] at c;exact⟨a,bs,rfl,Rd.mono S.sub c,k _ H d S (aj.refl _) rfl⟩
 ·exact nO e
def uH(i:Nat)(d f:DF):SF:=λZ=>(f Z).bind λp=>((p.2[i]?).bind ownOf).bind λ_=>(d p.2).bind λq=>((q.2[i]?).bind ownOf).bind λs=>match s.2,q.1 with
 | .bP c,.str k=>if c.length<dk then some (.next (q.2.set i (kindAt s.1 (.bP (vp c k p.1))))) else none
 | _,_=>none
theorem Hq (i:Nat)(M:X.A.units+1<y3)(O:X.N[i]?=some x)(P:cC X.env.scope x)(h:DD X e f)(Q:DD X l u)(hd:bO x:=by decide)(w:dh x:=by decide)(hs:P2 e (some (.Subscript (.Name x s) l pt)) pos.line X.env=pure false:=by rfl):cM X (.Assign [.Subscript (.Name x s) l pt] e pos) (uH i u f):=by
 obtain⟨t,p,q⟩:=h;obtain⟨tk,R,T⟩:=Q;refine⟨_,CM M (fT O P hd w) R p hs,λz B Z m H U o D e S k=>?_⟩
 obtain⟨d,Z1,V,e⟩:=oB e;obtain⟨b0,c0,W,e⟩:=oB e;obtain⟨n,Z2,Y,e⟩:=oB e;dsimp only at e;cases g:(Z2[i]?).bind ownOf with
 | none=>rw[g] at e;exact nO e
 | some j =>
  obtain⟨io,c⟩:=j;simp only[g] at e;dsimp only[k7] at e;split at e
  ·rename_i ks C;split at e
   ·rename_i hz;obtain rfl:=sO e;refine q z B Z m H U d Z1 _ V S λv H1 E F s1 r1=>?_
    obtain⟨a,r,_⟩:=F.at (kd W);refine⟨.ref a,r,T z B Z1 m H1 E _ Z2 _ Y F λy H2 G I j r2=>?_⟩
    subst r2;obtain⟨b,J,ob⟩:=I.at (kd g);rw[r] at J;cases J;obtain⟨kvs,h1,L,h3⟩:=ob;refine⟨a,_,rfl,kC.k (k:=ro C) h1 (by rw[bI.length L];exact hz),?_⟩
    exact k m _ G (I.write (kd g) r ⟨_,ba,bI.put C L (Rep.mono j r1),h3⟩) (s1.trans j)
   ·exact nO e
  ·exact nO e
structure bq (P:lT) (w:px) (K:gj) (mg:fk->Option cA) (base:qt) (x:fk) (k:Nat) (sp:Sp):Prop where
 is:∃(f:eu) (fd:lq) (pn:List fk),bb P w K mg base a8 k f fd pn sp/\mg x=some (.ref f)/\YJ K (.ref f)=true/\Binds K fd pn []
structure fG (K:gj) (mg:fk->Option cA) (x:fk) (d:Dat):Prop where
 is:∃v u,mg x=some u/\RelV v u/\∀H,Rep K H d v
def bq.has (h:bq X.prog X.w X.K X.mg X.base x k sp)(c:Gl X x)(d:cZ k X.A):vM X x sp:=by
 obtain⟨f,g,pn,F,m,kp,b⟩:=h.is;exact⟨c,a8,k,f,g,pn,F,d,m,kp,b,Ot⟩
def Ir (h:fG X.K X.mg x d)(c:Gl X x)(hd:bO x):DD X (.Name x pos) (fC d):=Mq ⟨c,h.is⟩ hd
def OQ (h:bq X.prog X.w X.K X.mg X.base x k (aN X.K fn))(f:Gl X x)(g:cZ k X.A)(c:bO x)(i:bK X e es)(d:(Wf pos (ph es X.env)).any (·.1)=false)(j:DA X (e::es) fa):DE X (.Call (.Name x p) (e::es) [] pos) (cg fn fa):=La (h.has f g) j c i d
def Mk (h:bq X.prog X.w X.K X.mg X.base x k (dM X.K j fn))(f:Gl X x)(g:cZ k X.A)(c:bO x)(l:bK X e es)(d:(Wf pos (ph es X.env)).any (·.1)=false)(m:sV X (e::es) j i fa):DE X (.Call (.Name x p) (e::es) [] pos) (pW fn i fa):=IJ (h.has f g) m c l d
def Iw (f:X.N.findIdx? (·==x)=some i)(g:cC X.env.scope x)(h:Gl X "len")(j:X.mg "len"=none)(hd:bO x)(c:dh x):DD X (.Call (.Name "len" p) [.Name x d] [] pos) (qR i):=N8 i (fg f) g h j hd c
def Jq (c:Gl X "int")(d:X.mg "int"=none)(f:bK X e [])(g:DA X [e] fa):DE X (.Call (.Name "int" p) [e] [] pos) (cg l8 fa):=tI Gb Qp c d (by decide +kernel) g (by decide) rfl f rfl
theorem Kt{fa:AF}{p:z8}(c:X.calm=true)(d:Gl X "all")(f:X.mg "all"=none)(g:bK X e [])(h:DA X [e] fa):DE X (.Call (.Name "all" p) [e] [] pos) (cg oJ fa):=iT (F8 c) Qj d f (by decide +kernel) h (by decide) (by decide) g rfl
def Lg (d:X.calm=true)(f:Gl X "min")(g:X.mg "min"=none)(h:bK X a [b])(c:(Wf pos (ph [b] X.env)).any (·.1)=false)(i:DA X [a,b] fa):DE X (.Call (.Name "min" p) [a,b] [] pos) (cg uA fa):=iT (Ph d) QQ f g (by decide +kernel) i (by decide) rfl h c
def K6 (d:X.calm=true)(f:Gl X "max")(g:X.mg "max"=none)(h:bK X a [b])(c:(Wf pos (ph [b] X.env)).any (·.1)=false)(i:DA X [a,b] fa):DE X (.Call (.Name "max" p) [a,b] [] pos) (cg vU fa):=iT (Qb d) Ke f g (by decide +kernel) i (by decide) rfl h c
def IG (c:X.A.units+1<y3)(hs:nh b)(d:DD X a f)(h:DD X b g):DD X (.Subscript a b pos) (pJ f g):=MA c d h hs
def Mg (f:X.N.findIdx? (·==x)=some i)(h:cC X.env.scope x)(j:X.A.units+1<y3)(hd:bO x)(c:dh x)(hs:nh b)(k:DD X b g):DD X (.Subscript (.Name x d) b pos) (mo i g):=Ky i j (fg f) h k hs hd c
def FI (c:X.A.units+64<y3)(d:DD X a f)(h:DD X b g):DE X (.Compare a [.Eq] [b] pos) (cK (dX false) f g):=pv (Ae c) rP d h (jR _)
def Lw (c:X.A.units+64<y3)(d:DD X a f)(h:DD X b g):DE X (.Compare a [.NotEq] [b] pos) (cK (dX true) f g):=pv (DP c) rP d h (jR _)
def Rg (c:X.A.units+65<y3)(d:zI .In b=false)(h:DD X a f)(i:DD X b g):DE X (.Compare a [.In] [b] pos) (cK (fu false) f g):=pv (zD c) yn h i d
def QK (c:X.A.units+65<y3)(d:zI .In b=false)(h:DD X a f)(i:DD X b g):DT X (.Compare a [.In] [b] pos) (fE (cK (fu false) f g)):=lL (zD c) yn h i d
def FY (c:X.A.units+65<y3)(d:zI .NotIn b=false)(h:DD X a f)(i:DD X b g):DT X (.Compare a [.NotIn] [b] pos) (fE (cK (fu true) f g)):=lL (MG c) yn h i d
def FV (h:DD X a f):DD X (.UnaryOp .USub a pos) (λZ=>(f Z).bind λp=>match p.1 with|.int i=>some (.int (-i),p.2)|_=>none):=by
 obtain⟨t,p,q⟩:=h;refine⟨_,Hb Ip p,λl m Z n H o d Z' Q g S k=>?_⟩
 obtain⟨c,Z1,r,g⟩:=oB g;dsimp only at g;split at g
 ·obtain⟨rfl,rfl⟩:=sP g;refine q l m Z n H o _ _ _ r S λv s j u w x=>?_
  subst x;exact⟨_,rfl,k _ s j u w rfl⟩
 ·exact nO g
noncomputable def gH(scope:VF):List Str:=(scope.names.filter λp=>p.2 != .globalImplicit).map (·.1)
def mQ(N:List fk)(scope:VF):List (Option Nat):=(gH scope).map λx=>if scope.names.lookup x==some .free then N.findIdx? (·==x) else none
def yT (hnd:N.Nodup)(hXN:X.N=N)(j:X.calm=true)(B:je X.env.scope scope)(i:gG X.N (gH scope) scope (mQ N scope)=true)(hs:∀x,wy iter X.env x=pure x)(k:dv X h iter fi)(l:∀(d:List (fk×eu)) (C:eu) (c:ee) (H:Hp) (f:List eu),DG (cp X (gH scope) scope d C c H f) h g)(m:∀(d:List (fk×eu)) (C:eu) (c:ee) (H:Hp) (f:List eu),kY (cp X (gH scope) scope d C c H f) ifs fc)(n:∀(d:List (fk×eu)) (C:eu) (c:ee) (H:Hp) (f:List eu),DD (cp X (gH scope) scope d C c H f) elt fe):DE X (.ListComp elt [⟨h,iter,ifs,0⟩] scope pos) (eN (mQ N scope) none fi g fc fe):=HE j B i k l m n hs
def PN (l:N.Nodup)(m:X.N=N)(n:X.N.findIdx? (·==y)=some i)(p:Loc X.env.scope y)(q:X.fn y=true\/X.env.scope.names.lookup y=some .local)(o:P2 (.ListComp elt [⟨j,iter,ifs,0⟩] scope pos) (some (.Name y py)) d.line X.env=pure true)(r:X.calm=true)(B:je X.env.scope scope)(k:gG X.N (gH scope) scope (mQ N scope)=true)(hs:∀x,wy iter X.env x=pure x)(s:dv X j iter fi)(t:∀(f:List (fk×eu)) (C:eu) (c:ee) (H:Hp) (h:List eu),DG (cp X (gH scope) scope f C c H h) j g)(u:∀(f:List (fk×eu)) (C:eu) (c:ee) (H:Hp) (h:List eu),kY (cp X (gH scope) scope f C c H h) ifs fc)(v:∀(f:List (fk×eu)) (C:eu) (c:ee) (H:Hp) (h:List eu),DD (cp X (gH scope) scope f C c H h) elt fe):cM X (.Assign [.Name y py] (.ListComp elt [⟨j,iter,ifs,0⟩] scope pos) d) (iI i (eN (mQ N scope) none fi g fc fe)) :=
 MW i (m ▸ l) (fg n) p q r B k s t u v o hs
def G1 (c:X.N.Nodup)(d:X.N.findIdx? (·==x)=some i)(f:Loc X.env.scope x)(g:X.fn x=true\/X.env.scope.names.lookup x=some .local):DG X (.Name x py) (ya i):=K9 i c (fg d) f g
def IV (m:X.N.findIdx? (·==x)=some i)(n:cC X.env.scope x)(hd:bO x)(k:dh x)(g:W4 (.Name x d) "append" X.env (eval (.Name x d) X.env)=eval (.Name x d) X.env)(j:pj X pos e)(h:(c.endLine==pos.line)=true)(hs:bK X e [])(l:P2 (.Call (.Attribute (.Name x d) "append" c) [e] [] pos) none f.line X.env=pure false)(o:DA X [e] fa) :
  cM X (.Expr (.Call (.Attribute (.Name x d) "append" c) [e] [] pos) f) (nT (mi i o8 fa)):=Bx (PM i (fg m) n o hd k g j h hs) l
def RD (g:W4 (.Constant (.str sep) j d) "join" X.env (eval (.Constant (.str sep) j d) X.env)=eval (.Constant (.str sep) j d) X.env)(k:pj X pos e)(i:(c.endLine==pos.line)=true)(hs:bK X e [])(h:DD X e f):DD X (.Call (.Attribute (.Constant (.str sep) j d) "join" c) [e] [] pos) (qC sep f) :=
 MT h (λl=>tK PySem.F.plainAttrs_str PySem.F.slot_str_join PySem.F.type_str_join OR Fi l g k i hs rfl) hs
def MV (f:X.calm=true)(g:(u1 es X.env).length=es.length)(d:(u1 es X.env).findIdx? (·.1)=none)(h:mG X es c):DG X (.Tuple es k pos) (vV es.length c):=Gj f h g d
def kU (h:cZ k A):A.units+1<cLine:=by have:=h.un;lia
def pE (h:cZ k A):A.units+64<cLine:=by have:=h.un;lia
def tU (h:cZ k A):A.units+65<cLine:=by have:=h.un;lia
noncomputable def C6(sc scope:VF):Bool:=scope.kind==.function&&scope.names.all (λy=>y.2 != .cell&&(y.2 != .local||scope.names.lookup y.1==some .local)&&(y.2 != .free||sc.names.lookup y.1==some .cell||sc.names.lookup y.1==some .free))
def qG (h:C6 d scope=true):je d scope:=by
 delta C6 at h;simp only[ey] at h;have g:∀y∈scope.names,y.2≠.cell/\(y.2=.local->scope.names.lookup y.1=some .local)/\(y.2=.free->d.names.lookup y.1=some .cell\/d.names.lookup y.1=some .free):=λy c=>by
  have q:=hG.mp h.2 y c;simp at q;refine⟨q.1.1,λz=>?_,λz=>?_⟩
  ·rcases q.1.2 with w|w
   ·exact absurd z w
   ·exact w
  ·grind
 exact⟨by simpa using h.1,λy c=>(g y c).1,λy c=>(g y c).2.1,λy c=>(g y c).2.2⟩
def G4 (f:X.N.findIdx? (·==x)=some i)(j:cC X.env.scope x)(hs:ph (.Name x c::es) X.env=(false,eval (.Name x c) X.env)::ph es X.env)(hd:bO x)(d:dh x)(h:DA X es g):sV X (.Name x c::es) 0 i g:=Mi i (fg f) j h hs hd d
def Ly (hs:bK X e es)(c:DD X e f)(d:DA X es g):DA X (e::es) (iY f g):=Oj c d hs
def Q7 (hs:(u1 (e::es) X.env).map (·.2)=Wx e X.env::(u1 es X.env).map (·.2))(d:DG X e g)(f:mG X es c):mG X (e::es) (BS g c):=RF d f hs
def HV (hs:XQ [c] e pos.line X.env=pure false)(hw:XR [c] e X.env=pure none)(d:(u1 [c] X.env).map (·.2)=[Wx c X.env])(h:DD X e f)(i:DG X c g):cM X (.Assign [c] e pos) (nQ g f):=Ma h i hs hw d
def O0 (k:X.N.findIdx? (·==x)=some i)(l:cC X.env.scope x)(m:X.A.units+1<y3)(hd:bO x)(j:dh x)(hs:P2 e (some (.Subscript (.Name x d) c pt)) pos.line X.env=pure false)(h:DD X e f)(n:DD X c g):cM X (.Assign [.Subscript (.Name x d) c pt] e pos) (uH i g f):=Hq i m (fg k) l h n hd j hs
def LX (d:Yq (ma X.prog X.w) X.A X.env X.xe)(f:X.calm=true)(hs:∀x,wy iter X.env x=pure x)(h:dv X c iter fi)(i:DG X c g)(j:gQ X body fb):cM X (.For c iter body [] pos) (nU fi g fb):=FD d f h i j hs
def HG (d:Gl X "range")(g:X.mg "range"=none)(hs:ph [a] X.env=[(false,eval a X.env)])(h:DA X [a] f):dv X c (.Call (.Name "range" p) [a] [] pos) (qK f):=QG d g h hs
def Gz{e:hY}{f:DF}{l h:OF}{lo c:Option hY}{d:z8}(g:DD X e f)(hl:DO X lo l)(hh:DO X c h):DE X (.Subscript e (.Slice lo c none d) pos) (kf f l h):=LF g hl hh
def JL (d:∀c,aap a X.env c=(do let v <-c;Zu a.pos;V1 [v] (truthy v)))(h:DD X a f):DT X a (mU f):=Jo h d
def Oc:aO X (n5 .LtE) (λx y H Q=>∃i j,x=.str i/\y=.str j/\Q (.bl (!decide (j.cps.toList<i.cps.toList))) H):=by
 intro pins s σ H x y v u Q I c d h;obtain⟨i,j,rfl,rfl,q⟩:=h;obtain⟨t,rfl⟩:=c;obtain⟨t',rfl⟩:=d;exact PySem.P.le_str ⟨.bl _,H,I,rfl,q⟩
noncomputable def iH:Dat->Dat->Option Res
 | .int i,.int j=>some (.dat (.bl (decide (i<=j))))
 | .str i,.str j=>some (.dat (.bl (!decide (j.cps.toList<i.cps.toList))))
 | _,_=>none
def zY:R2:=λx y H Q=>iD (λi j=>.bl (decide (i<=j))) x y H Q\/(λx y H Q=>∃i j,x=.str i/\y=.str j/\Q (.bl (!decide (j.cps.toList<i.cps.toList))) H) x y H Q
def rO:aO X (n5 .LtE) zY:=aO.or Ro Oc
def sd:eF X zY iH:=by
 intro H0 ps Z σ H c x y d d' o Q e S f g k;delta iH at e;split at e
 ·cases e;subst f;subst g;exact .inl ⟨_,_,rfl,rfl,k _ H c S (aj.refl _) rfl⟩
 ·obtain rfl:=sO e;subst f;subst g;exact .inr ⟨_,_,rfl,rfl,k _ H c S (aj.refl _) rfl⟩
 ·exact nO e
noncomputable def kr(o1 o2:Dat->Dat->Option Res)(f g h:DF):DF:=λZ=>(f Z).bind λx=>(g x.2).bind λy=>match o1 x.1 y.1 with
 | some (.dat (.bl true))=>(h y.2).bind λz=>(match o2 y.1 z.1 with|some (.dat (.bl b))=>some (.bl b,z.2)|_=>none)
 | some (.dat (.bl false))=>some (.bl false,y.2)
 | _=>none
def Pt (G:aO X (n5 t) E)(r:eF X E o1)(I:aO X (n5 u) F)(J:eF X F o2)(Y:DD X a f)(hb:DD X b g)(hc:DD X c h)(hm:Yo [t,u] [b,c]=false):DD X (.Compare a [t,u] [b,c] pos) (kr o1 o2 f g h):=by
 obtain⟨ta,pa,qa⟩:=Y;obtain⟨tb,pb,qb⟩:=hb;obtain⟨tc,pc,qc⟩:=hc;refine⟨_,PR G I pa pb pc hm,λj l Z m H Hi d Z' Q i S k=>?_⟩
 obtain⟨x,Z1,e1,i⟩:=oB i;obtain⟨y,Z2,e2,i⟩:=oB i;refine qa j l Z m H Hi x Z1 _ e1 S λL H1 M S1 N O=>?_
 refine qb j l Z1 m H1 M y Z2 _ e2 S1 λw P s R p A=>?_
 split at i
 ·rename_i B;refine r j l Z2 m P s L w x y _ _ B R (Rep.mono p O) A λv C n D q o=>?_
  subst o;refine⟨true,rfl,?_⟩;obtain⟨z,Z3,e3,i⟩:=oB i;refine qc j l Z2 m C n z Z3 _ e3 D λzv H4 T S4 U rz=>?_
  split at i
  ·rename_i b V;obtain⟨rfl,rfl⟩:=sP i;exact J j l _ m H4 T w zv y z _ Q V S4 (Rep.mono (q.trans U) A) rz λv H5 W S5 s5 o=>k v H5 W S5 ((((N.trans p).trans q).trans U).trans s5) o
  ·exact nO i
 ·rename_i B;obtain⟨rfl,rfl⟩:=sP i;refine r j l _ m P s L w x y _ _ B R (Rep.mono p O) A λv C n D q o=>?_
  subst o;refine⟨false,rfl,?_⟩;rw[if_neg (by simp)]
  exact k _ C n D ((N.trans p).trans q) rfl
 ·exact nO i
def JV (d:Yo [.LtE,.LtE] [b,c]=false)(i:DD X a f)(j:DD X b g)(k:DD X c h):DD X (.Compare a [.LtE,.LtE] [b,c] pos) (kr iH iH f g h):=Pt rO sd rO sd i j k d
def Qe (c:Gl X "isinstance")(d:X.mg "isinstance"=none)(g:Gl X "bool")(h:X.mg "bool"=none)(hs:bK X e [.Name "bool" q])(i:DD X e f):DD X (.Call (.Name "isinstance" p) [e,.Name "bool" q] [] pos) (la "bool" f):=sx i c d g h (by decide +kernel) (by decide) rfl hs
def Jb (c:Gl X "isinstance")(d:X.mg "isinstance"=none)(g:Gl X "str")(h:X.mg "str"=none)(hs:bK X e [.Name "str" q])(i:DD X e f):DD X (.Call (.Name "isinstance" p) [e,.Name "str" q] [] pos) (la "str" f):=sx i c d g h (by decide +kernel) (by decide) rfl hs
def HQ (c:Gl X "isinstance")(d:X.mg "isinstance"=none)(g:Gl X "tuple")(h:X.mg "tuple"=none)(hs:bK X e [.Name "tuple" q])(i:DD X e f):DD X (.Call (.Name "isinstance" p) [e,.Name "tuple" q] [] pos) (la "tuple" f):=sx i c d g h (by decide +kernel) (by decide) rfl hs
def RY (c:Gl X "isinstance")(d:X.mg "isinstance"=none)(g:Gl X "list")(h:X.mg "list"=none)(hs:bK X e [.Name "list" q])(i:DD X e f):DD X (.Call (.Name "isinstance" p) [e,.Name "list" q] [] pos) (la "list" f):=sx i c d g h (by decide +kernel) (by decide) rfl hs
def pP(o1 o2:Dat->Dat->Option Res)(f g h:DF):BF:=λZ=>(kr o1 o2 f g h Z).bind λp=>match p.1 with
 | .bl b=>some (b,p.2)
 | _=>none
theorem Nj (I:aO X (n5 u) A)(s:eF X A o1)(J:aO X (n5 w) B)(L:eF X B o2)(ha:DD X a f)(hb:DD X b g)(hc:DD X c h)(hm:Yo [u,w] [b,c]=false):DT X (.Compare a [u,w] [b,c] pos) (pP o1 o2 f g h):=by
 obtain⟨ta,pa,qa⟩:=ha;obtain⟨tb,pb,qb⟩:=hb;obtain⟨tc,pc,qc⟩:=hc;refine⟨_,Rm I J pa pb pc hm,λl m Z j H Hi d Z' Q n S k=>?_⟩
 obtain⟨dd,Z0,i,n⟩:=oB n;dsimp only at n;cases dd with
 | bl b0 =>
  obtain⟨rfl,rfl⟩:=sP n;obtain⟨x,Z1,e1,i⟩:=oB i;obtain⟨y,Z2,e2,i⟩:=oB i;dsimp only at i;refine qa l m Z j H Hi x Z1 _ e1 S λM H1 N S1 O P=>?_
  refine qb l m Z1 j H1 N y Z2 _ e2 S1 λC R t T q D=>?_
  split at i
  ·rename_i E;refine s l m Z2 j R t M C x y _ _ E T (Rep.mono q P) D λv F o G r p=>?_
   subst p;refine⟨true,rfl,?_⟩;obtain⟨z,Z3,e3,i⟩:=oB i;dsimp only at i;refine qc l m Z2 j F o z Z3 _ e3 G λzv H4 U S4 V rz=>?_
   split at i
   ·rename_i b W;cases i;exact L l m _ j H4 U C zv y z _ _ W S4 (Rep.mono (r.trans V) D) rz λv H5 Y S5 s5 p=>⟨_,p,k H5 Y S5 ((((O.trans q).trans r).trans V).trans s5)⟩
   ·exact nO i
  ·rename_i E;cases i;refine s l m _ j R t M C x y _ _ E T (Rep.mono q P) D λv F o G r p=>?_
   subst p;refine⟨false,rfl,?_⟩;rw[if_neg (by simp)]
   exact⟨_,rfl,k F o G ((O.trans q).trans r)⟩
  ·exact nO i
 | _=>exact nO n
def JF (d:Yo [.LtE,.LtE] [b,c]=false)(i:DD X a f)(j:DD X b g)(k:DD X c h):DT X (.Compare a [.LtE,.LtE] [b,c] pos) (pP iH iH f g h):=Nj rO sd rO sd i j k d
end
noncomputable def Bf:List fk->Bool
 | []=>true
 | x::r=>!(r.any (·==x))&&Bf r
theorem u6:∀{l:List fk},Bf l=true->l.Nodup
 | [],_=>VW
 | x::r,h=>by
  have h:=nS.mp h;refine pA.mpr ⟨λm=>?_,u6 h.2⟩
  have:r.any (·==x)=true:=u2.mpr ⟨x,m,by simp⟩
  rw[this] at h;cases h.1
section
open PySem.W
inductive Comes {α:Type}(lt:Nat->Nat->Bool) (ok:Nat->Nat->Prop):KasT α->α->Prop
 | ret (a:α):Comes lt ok (.ret a) a
 | ask {i j:Nat}{k:Bool->KasT α}{a:α}(h:ok i j) (r:Comes lt ok (k (lt i j)) a):Comes lt ok (.ask i j k) a
theorem Comes.bind:∀{t:KasT c}{a:c},Comes lt ok t a->Comes lt ok (f a) b->Comes lt ok (t.bind f) b
 | _,_,.ret a,h=>h
 | _,_,.ask h r,q=>.ask h (r.bind q)
section
variable{lt:Nat->Nat->Bool}{n:Nat}
structure Ord (lt:Nat->Nat->Bool) (n:Nat):Prop where
 trans:∀i j k,lt i j=true->lt j k=true->lt i k=true
 total:∀i j,i<n->j<n->i≠j->lt i j=true\/lt j i=true
 fB:∀i,lt i i=false
abbrev okN(n:Nat):Nat->Nat->Prop:=λi j=>i<n/\j<n/\i≠j
structure cY (p:Array Nat) (n:Nat):Prop where
 size:p.size=n
 lt:∀i,i<n->p.getD i 0<n
 inj:∀i j,i<n->j<n->p.getD i 0=p.getD j 0->i=j
 pm:p.toList.Perm (hI n)
def qF{p q:Array Nat}{i j:Nat}(h:p[i]?=q[j]?):p.getD i 0=q.getD j 0:=by
 simp[h]
def cY.ok (P:cY p n)(a:i<n)(b:j<n)(h:i≠j):okN n (p.getD i 0) (p.getD j 0):=⟨P.lt i a,P.lt j b,λz=>h (P.inj i j a b z)⟩
noncomputable def eE(lt:Nat->Nat->Bool)(p:Array Nat)(m:Nat):Prop:=∀i j,i<j->j<m->lt (p.getD i 0) (p.getD j 0)=true
def Down(lt:Nat->Nat->Bool)(p:Array Nat)(m:Nat):Prop:=∀i j,i<j->j<m->lt (p.getD j 0) (p.getD i 0)=true
def eE.succ (O:Ord lt n)(P:cY p n)(h:eE lt p m)(b:m<n)(h1:1<=m)(hl:lt (p.getD m 0) (p.getD (m-1) 0)=false):eE lt p (m+1):=by
 intro i j c hj
 by_cases z:j<m
 ·exact h i j c z
 ·have z:j=m:=by lia
  subst z;have a:lt (p.getD (j-1) 0) (p.getD j 0)=true:=by
   rcases O.total _ _ (P.lt j b) (P.lt (j-1) (by omega)) (λz=>by have:=P.inj j (j-1) b (by omega) z;omega) with q|q
   ·rw[hl] at q;contradiction
   ·exact q
  by_cases d:i=j-1
  ·rw[d];exact a
  ·exact O.trans _ _ _ (h i (j-1) (by omega) (by omega)) a
def Down.succ (O:Ord lt n)(h:Down lt p m)(h1:1<=m)(hl:lt (p.getD m 0) (p.getD (m-1) 0)=true):Down lt p (m+1):=by
 intro i j a hj
 by_cases z:j<m
 ·exact h i j a z
 ·have z:j=m:=by lia
  subst z
  by_cases b:i=j-1
  ·rw[b];exact hl
  ·exact O.trans _ _ _ hl (h i (j-1) (by omega) (by omega))
theorem wk (O:Ord lt n)(P:cY p n):∀(f m:Nat),1<=m->m+f<=n->eE lt p m->∃r,Comes lt (okN n) (kas_asc p f m) r/\m<=r/\r<=m+f/\eE lt p r/\(r<m+f->lt (p.getD r 0) (p.getD (r-1) 0)=true)
 | 0,m,i,j,g=>⟨m,.ret m,eT _,eT _,g,λh=>by lia⟩
 | f+1,m,i,j,g=>by
  have aw:okN n (p.getD m 0) (p.getD (m-1) 0):=P.ok (by omega) (by omega) (by omega)
  cases hl:lt (p.getD m 0) (p.getD (m-1) 0) with
  | true =>
   refine⟨m,.ask aw ?_,eT _,by lia,g,λ_=>hl⟩
   rw[hl];exact .ret m
  | false =>
   obtain⟨r,a,b,c,d,e⟩:=wk O P f (m+1) (by lia) (by omega) (g.succ O P (by omega) i hl)
   refine⟨r,.ask aw ?_,by omega,by omega,d,λh=>e (by omega)⟩
   rw[hl];exact a
theorem ED (O:Ord lt n)(P:cY p n):∀(f m:Nat),1<=m->m+f<=n->Down lt p m->∃r,Comes lt (okN n) (kas_desc f p m 0) (p,r,0)/\m<=r/\r<=m+f/\Down lt p r
 | 0,m,g,h,e=>⟨m,.ret _,eT _,eT _,e⟩
 | f+1,m,g,h,e=>by
  have aw:okN n (p.getD m 0) (p.getD (m-1) 0):=P.ok (by omega) (by omega) (by omega)
  cases hl:lt (p.getD m 0) (p.getD (m-1) 0) with
  | true =>
   obtain⟨r,a,b,c,d⟩:=ED O P f (m+1) (by lia) (by omega) (e.succ O g hl)
   refine⟨r,.ask aw ?_,by omega,by omega,d⟩
   rw[hl];exact a
  | false =>
   refine⟨m,.ask aw ?_,eT _,by lia,e⟩
   rw[hl];have i:lt (p.getD (m-1) 0) (p.getD m 0)=true:=by
    rcases O.total _ _ aw.1 aw.2.1 aw.2.2 with q|q
    ·rw[hl] at q;contradiction
    ·exact q
   refine .ask ⟨aw.2.1,aw.1,λz=>aw.2.2 z.symm⟩ ?_
   rw[i];exact .ret _
theorem cY.perm{p q:Array Nat}(P:cY p n)(d:q.Perm p)(h:q.size=p.size)(f:Nat->Nat)(a:∀i,i<n->f i<n/\q.getD i 0=p.getD (f i) 0)(g:∀i j,i<n->j<n->f i=f j->i=j):cY q n:=by
 refine⟨h.trans P.size,λi hl=>?_,λi j b c e=>?_,?_⟩
 ·rw[(a i hl).2];exact P.lt _ (a i hl).1
 ·rw[(a i b).2,(a j c).2] at e;exact g i j b c (P.inj _ _ (a i b).1 (a j c).1 e)
 ·exact (Y6.mp d).trans P.pm
def uw (b:m<=p.size)(k):(YY p 0 m).getD k 0=if k<m then p.getD (m-1-k) 0 else p.getD k 0:=by
 have h:=getElem?_mirror_all (i:=0) b k;delta YY;split
 ·simp_all
 ·rename_i a;rw[if_neg (λz=>a z.2)] at h
  exact qF h
def LH (P:cY p n)(a:m<=n):cY (YY p 0 m) n:=by
 refine P.perm (by unfold YY;exact mirror_perm _ _ _ _) (by unfold YY;rw[mirror_size]) (λk=>if k<m then m-1-k else k) (λi b=>⟨by (try dsimp only);split<;>omega,?_⟩) λi j b hj e=>?_
 ·rw[uw (by rw[P.size];exact a)]
  (try dsimp only)
  split<;>rfl
 ·(try dsimp only at e)
  split at e<;>split at e<;>omega
def Lf (P:cY p n)(a:m<=n)(h:Down lt p m):eE lt (YY p 0 m) m:=by
 intro i j hij b;rw[uw (by rw[P.size];exact a),uw (by rw[P.size];exact a),if_pos (by omega),if_pos b]
 exact h _ _ (by omega) (by omega)
theorem wq (O:Ord lt n)(P:cY p n)(j:k<n)(e:eE lt p k):∀(f l r:Nat),l<=r->r<=k->r-l<=f->(∀i,i<l->lt (p.getD i 0) (p.getD k 0)=true)->(∀i,r<=i->i<k->lt (p.getD k 0) (p.getD i 0)=true) ->
  ∃m,Comes lt (okN n) (kas_place p k f l r) m/\m<=k/\(∀i,i<m->lt (p.getD i 0) (p.getD k 0)=true)/\(∀i,m<=i->i<k->lt (p.getD k 0) (p.getD i 0)=true)
 | 0,l,r,u,s,v,a,b=>⟨l,.ret l,by lia,a,λi o=>b i (by lia)⟩
 | f+1,l,r,u,s,v,a,b=>by
  dsimp only[kas_place]
  by_cases g:l ≥ r
  ·rw[if_pos g];exact⟨l,.ret l,by lia,a,λi o=>b i (by lia)⟩
  ·rw[if_neg g];have w:(l+r)/2<r/\l<=(l+r)/2:=by omega
   have aw:okN n (p.getD k 0) (p.getD ((l+r)/2) 0):=P.ok j (by omega) (by omega)
   cases hl:lt (p.getD k 0) (p.getD ((l+r)/2) 0) with
   | true =>
    obtain⟨m,c,d⟩:=wq O P j e f l ((l+r)/2) w.2 (by lia) (by omega) a (λi o t=>by
     by_cases z:i=(l+r)/2
     ·rw[z];exact hl
     ·exact O.trans _ _ _ hl (e _ _ (by omega) t))
    refine⟨m,.ask aw ?_,d⟩;rw[hl];exact c
   | false =>
    have h:lt (p.getD ((l+r)/2) 0) (p.getD k 0)=true:=by
     rcases O.total _ _ aw.1 aw.2.1 aw.2.2 with q|q
     ·rw[hl] at q;contradiction
     ·exact q
    obtain⟨m,c,d⟩:=wq O P j e f ((l+r)/2+1) r (by lia) s (by omega) (λi o=>by
     by_cases z:i=(l+r)/2
     ·rw[z];exact h
     ·exact O.trans _ _ _ (e i ((l+r)/2) (by omega) (by lia)) h) b
    refine⟨m,.ask aw ?_,d⟩;rw[hl];exact c
def Gf (b:k<p.size)(hl:l<=k)(i):(bubble p k (k-l)).getD i 0=if i=l then p.getD k 0 else if l<i/\i<=k then p.getD (i-1) 0 else p.getD i 0:=by
 have h:=getElem?_bubble b (k-l) (by omega) i
 have e:k-(k-l)=l:=by omega
 rw[e] at h
 by_cases z:i=l
 ·rw[if_pos z] at h ⊢;exact qF h
 ·rw[if_neg z] at h ⊢
  by_cases a:l<i/\i<=k
  ·rw[if_pos a] at h ⊢;exact qF h
  ·rw[if_neg a] at h ⊢;exact qF h
theorem A7(O:Ord lt n):∀(f:Nat) (p:Array Nat) (k:Nat),cY p n->k+f=n->eE lt p k->∃q,Comes lt (okN n) (kas_bin f p k) q/\cY q n/\eE lt q n
 | 0,p,k,P,o,g=>⟨p,.ret p,P,by rw[<-o];exact g⟩
 | f+1,p,k,P,o,g=>by
  obtain⟨l,c,hl,a,b⟩:=wq O P (by lia) g k 0 k (qh _) (eT _) (by lia) (λi h=>by lia) (λi h hik=>by omega)
  have m:=Gf (p:=p) (k:=k) (l:=l) (by rw[P.size];omega) hl
  have t:cY (bubble p k (k-l)) n:=by
   refine P.perm (bubble_perm _ _ _) (bubble_size _ _ _) (λi=>if i=l then k else if l<i/\i<=k then i-1 else i) (λi h=>⟨by (try dsimp only);split<;>(try split)<;>omega,?_⟩) λi j h u e=>?_
   ·rw[m]
    (try dsimp only)
    split
    ·rfl
    ·split<;>rfl
   ·(try dsimp only at e)
    split at e<;>split at e<;>(try split at e)<;>(try split at e)<;>lia
  have r:eE lt (bubble p k (k-l)) (k+1):=by
   intro i j s u;simp only[m i,m j];split
   ·rw[if_neg (by omega),if_pos (by omega)]
    exact b (j-1) (by lia) (by lia)
   ·split
    ·rw[if_neg (by omega),if_pos (by omega)]
     exact g _ _ (by omega) (by omega)
    ·split
     ·exact a i (by omega)
     ·split
      ·exact g _ _ (by lia) (by omega)
      ·exact g _ _ s (by lia)
  obtain⟨q,d,e⟩:=A7 O f (bubble p k (k-l)) (k+1) t (by lia) r
  exact⟨q,Comes.bind c d,e⟩
def BC:cY (W8 (hI n)) n:=by
 have g:∀i,i<n->(W8 (hI n)).getD i 0=i:=λi a=>by
  simp[a]
 refine⟨by simp,λi a=>by rw[g i a];exact a,λi j a b e=>by simp only[g i a,g j b] at e;exact e,by simp⟩
def L3(O:Ord lt n)(hn:1<=n):∃q,Comes lt (okN n) (kas_sort n) q/\cY q n/\eE lt q n:=by
 have P:=BC (n:=n);obtain⟨m,a,b,c,d,e⟩:=wk O P (n-1) 1 (eT _) (by omega) (λi j l v=>by omega)
 have h:∀(p:Array Nat) (m:Nat),cY p n->1<=m->m<=n->eE lt p m->∃q,Comes lt (okN n) (if m<n then kas_bin (n-max m 1) p (max m 1) else .ret p) q/\cY q n/\eE lt q n:=λp m P f g o=>by
  have e:max m 1=m:=by lia
  split
  ·rw[e];exact A7 O (n-m) p m P (by lia) o
  ·exact⟨p,.ret p,P,by rw[<-(show m=n from by lia)];exact o⟩
 by_cases k:m=n
 ·obtain⟨q,f,g⟩:=h _ m P b (by lia) d
  refine⟨q,Comes.bind (a:=(m,W8 (hI n))) (Comes.bind a ?_) f,g⟩;rw[if_pos (by simpa using k)]
  exact .ret _
 ·by_cases s:m>1
  ·obtain⟨q,f,g⟩:=h _ m P b (by lia) d
   refine⟨q,Comes.bind (a:=(m,W8 (hI n))) (Comes.bind a ?_) f,g⟩;rw[if_neg (by simpa using k),if_pos s]
   refine .ask (P.ok (by lia) (by omega) (by omega)) ?_
   rw[d 0 (m-1) (by omega) (by omega)]
   exact .ret _
  ·have w:m=1:=by lia
   subst w;have hl:=e (by lia)
   obtain⟨r,x,b1,c1,y⟩:=ED O P (n-2) 2 (by lia) (by lia) (λi j l v=>by
    have f:i=0:=by lia
    have g:j=1:=by lia
    rw[f,g];exact hl)
   have t:=LH (m:=r) P (by omega)
   obtain⟨u,z,b2,c2,A,_⟩:=wk O t (n-r) r (by lia) (by lia) (Lf P (by omega) y)
   obtain⟨q,f,g⟩:=h _ u t (by lia) (by lia) A
   refine⟨q,Comes.bind (a:=(u,YY (W8 (hI n)) 0 r)) (Comes.bind a ?_) f,g⟩;rw[if_neg (by simpa using k),if_neg (by omega)]
   refine Comes.bind x ?_;rw[if_neg (by simp)]
   exact Comes.bind z (.ret _)
end
end
section
open PySem.W
theorem Comes.wp (d:∀i j,ok i j->∀C:Bool->ee->Prop,C (lt i j) s->b i j C s) :
  ∀{t:KasT c}{a:c},Comes lt ok t a->Q a s->t.kasWp b Q s
 | _,_,.ret a,q=>q
 | _,_,.ask h r,q=>d _ _ h _ (r.wp d q)
end
noncomputable def gJ(h:qt)(L:eu):Heap:={h with objs:=h.objs.extract 0 L}
def NS (xs:Array a)(L b:Nat):(xs.extract 0 L)[b]?=if b<L then xs[b]? else none:=by
 grind
def BR(h)(L b):(gJ h L).get? b=if b<L then h.get? b else none:=by
 delta gJ Heap.get?;rw[NS]
 by_cases a:b<L
 ·rw[if_pos a,if_pos a]
 ·rw[if_neg a,if_neg a]
def DV (e:(gJ h L).get? b=some o):b<L/\h.get? b=some o:=by
 rw[BR] at e;split at e
 ·rename_i a;exact⟨a,e⟩
 ·exact nO e
def LO (a:b<L)(e:h.get? b=some o):(gJ h L).get? b=some o:=by
 rw[BR,if_pos a];exact e
section
variable{X:Cx}{pins:List (eu×KX)}{σ:St}{H:Hp}{s:ee}{pos:z8}{e:hY}
def Inv.zG (I:Inv X pins σ H s)(a:s.heap.Ns X.env.locals m):Fr (gJ s.heap X.env.locals) X.env.locals s.heap m :=
 ⟨a,λb o e=>(DV e).2,by show (s.heap.objs.extract 0 X.env.locals).size<=_;rw[Array.size_extract];exact wd (Nat.sub_le _ _) (Nat.min_le_left _ _)⟩
def Inv.M5 (I:Inv X pins σ H s)(hl:∀(i:Nat) (x:fk) (v:V),X.N[i]?=some x->σ[i]?=some (some v)->cC X.env.scope x->∃u,RelV v u/\Look X.env s.heap m x u)(t:h'.Ns X.env.locals m)(keep:∀b o,b≠X.env.locals->s.heap.get? b=some o->h'.get? b=some o):Inv X pins σ H {s with heap:=h',toks:=tk}:=by
 have jx:=I.jx;have f:∀b o,X.dQ.heap.get? b=some o->b≠X.env.locals:=λb o e=>iW (l5 (gi e) I.ok.above)
 have a:∀x c,X.env.cells.lookup x=some c->∀v,s.heap.IsCell c v->h'.IsCell c v:=λx c e v ⟨o,w,hd⟩=>⟨o,keep c o (jx x c e) w,hd⟩
 refine⟨I.ok,I.os,I.bare,⟨λb o e n g h=>keep b o (f b o e) (I.base.keep b o e n g h),λb o e n g h=>?_,I.base.free,λb o e h=>?_,I.base.jO,I.base.jr,I.base.jY⟩,⟨m,t,λi x v y A B=>?_⟩,λx c e=>?_,I.free,I.il,λp C=>?_,?_,I.len⟩
 ·obtain⟨D,q⟩:=I.base.slot b o e n g h;exact⟨D,keep b _ (f b o e) q⟩
 ·obtain⟨j,q⟩:=I.base.there b o e h;exact⟨j,keep b j (f b o e) q⟩
 ·obtain⟨u,r,l⟩:=hl i x v y A B;refine⟨u,r,?_⟩
  rcases l with l|⟨k,c,e,z⟩
  ·exact .inl l
  ·exact .inr ⟨k,c,e,a x c e _ z⟩
 ·obtain⟨v,z⟩:=I.cell x c e;exact⟨v,a x c e v z⟩
 ·obtain⟨e,n,ne,nf,d⟩:=I.pin p C;exact⟨keep p.1 p.2 ne e,n,ne,nf,d⟩
 ·exact I.aw.tracked λb u g e=>keep b u (λz=>g (z ▸ I.free)) e
theorem yg (F:Fr (gJ h L) L h' m)(N:News (gJ h L) L h' a)(sub:∀q∈mT (gJ h L) h L,q∈a):∀b o,b≠L->h.get? b=some o->h'.get? b=some o:=λb o c e=>by
 by_cases hl:b<L
 ·exact F.keep b o (LO hl e)
 ·have d:(gJ h L).get? b=none:=by
   cases q:(gJ h L).get? b with
   | none=>rfl
   | some u=>exact absurd (DV q).1 hl
  exact (N _ (sub _ (xH c d e))).1
def Hh{prog:lT}{w:px}{A:r0}{E:cA->ee->Prop}{s:ee}{a:eu}{vs:List cA}{n:Nat}{P:Fin->ee->Prop}(f:s.heap.get? a=some (WO "list" vs.toArray n))(q:vs.length<2)
 (h:∀h' c,h'.get? a=some (WO "list" vs.toArray c)->(∀b o,b≠a->s.heap.get? b=some o->h'.get? b=some o)->P (.done (.ret .none)) {s with heap:=h'}) :
  iN (ma prog w) A (W6.«list.sort» ⟨[.ref a],[]⟩) P E s:=by
 rw[list_sort_plain];have l:=gi f;refine bt (listItems_at f rfl ?_);refine bt (acy f rfl ?_);obtain⟨k,j⟩:∃k,(s.heap.update a (WM λ_=>#[])).get? a=some (WO "list" #[] k) :=
  ⟨_,ab1 f (λ_=>#[])⟩
 refine bt (seqEpoch_at j rfl (bt (wpAny_newTuple (bt (ZX (q0 ?_))) (by rw[z4];simp;omega))))
 generalize m:(((s.heap.update a (WM λ_=>#[])).push (WO "tuple" vs.toArray 0)).push (WO "list" #[] 0))=g at *
 have d:g.get? a=some (WO "list" #[] k):=by
  rw[<-m,aaw _ _ _ (by rw[size_push',YC];exact iW (Xq l)),
   aaw _ _ _ (by rw[YC];exact iW l)]
  exact j
 have kp:∀b o,b≠a->s.heap.get? b=some o->g.get? b=some o:=λb o i e=>by
  rw[<-m];refine fj _ (fj _ ?_);rw[VC _ _ (Ne.symm i)];exact e
 dsimp only;have p:vs.toArray.size<2:=by simpa using q
 rw[if_pos p,if_pos p];refine bt (eR ?_);refine bt (eR ?_);dsimp only;refine bt (seqEpoch_at d rfl (bt (acy d rfl ?_ (hsz2:=by simp[aaY,abu];rw[z4];omega))))
 simp only[bne_self_eq_false,lD];refine eR ?_;have r:Array.map (λx=>x.2) (aaY (abu general' (vs.toArray.zip vs.toArray) #[] 7 none))=vs.toArray:=by
  rw[List.zip_toArray,List.map_toArray,aaL (eT _)]
 rw[r];refine h _ _ (ab1 d (λ_=>vs.toArray)) λb o i e=>?_
 rw[VC _ _ (Ne.symm i)];exact kp b o i e
def Inv.wX (I:Inv X pins σ H s)(hl:∀(i:Nat) (x:fk) (v:V),X.N[i]?=some x->σ[i]?=some (some v)->cC X.env.scope x->∃u,RelV v u/\Look X.env s.heap m x u)(y:h'.Ns X.env.locals m)(keep:∀b o,b≠X.env.locals->s.heap.get? b=some o->h'.get? b=some o)(a:s.heap.get? D=none)(hex:∀b∈X.ex,∃o,s.heap.get? b=some o)(h:cO X.prog X.w (upd H D o) h' D o):Inv X pins σ (upd H D o) {s with heap:=h',toks:=tk}:=by
 have J:Inv X pins σ H {s with heap:=h',toks:=tk}:=I.M5 hl y keep
 have j:=I.aw.dead a;have ne:∀b u,H b=some u->b≠D:=λb u q z=>by rw[z,j] at q;exact nO q
 have A:X.env.locals≠D:=λz=>by
  obtain⟨_,⟨oL,_,_,g,_⟩,_⟩:=I.loc;rw[z,a] at g;exact nO g
 refine⟨J.ok,J.os,J.bare,⟨J.base.keep,J.base.slot,λb f e n k=>?_,J.base.there,λb xs e=>?_,λb f u e=>?_,λb B e=>?_⟩,J.loc,J.cell,?_,λx c e=>?_,λp l=>?_,λb u e=>?_,J.len⟩
 ·have z:b≠D:=λz=>by
   obtain⟨o',q⟩:=I.base.there b f e k;rw[z,a] at q;exact nO q
  rw[aC z];exact J.base.free b f e n k
 ·have q:=J.base.jO b xs e;rw[aC (ne b _ q)];exact q
 ·have q:=J.base.jr b f u e;rw[aC (ne b _ q)];exact q
 ·obtain⟨more,q⟩:=J.base.jY b B e;exact⟨more,by rw[aC (ne b _ q)];exact q⟩
 ·rw[aC A];exact J.free
 ·obtain⟨v,oc,r,hd⟩:=I.cell x c e;rw[aC (λz=>by rw[z,a] at r;exact nO r)]
  exact J.il x c e
 ·obtain⟨q,n,nl,nf,d⟩:=J.pin p l;have t:=(I.pin p l).1;exact⟨q,by rw[aC (λz=>by rw[z,a] at t;exact nO t)];exact n,nl,nf,d⟩
 ·by_cases z:b=D
  ·subst z;rw[ba] at e;obtain rfl:=sO e;exact h
  ·rw[aC z] at e;exact (J.aw b u e).gO (λc w' hc q=>q) (λc q=>by rw[aC (ne c _ q)];exact q) λc xs q=>by rw[aC (ne c _ q)];exact q
def dN{a:Type}{l:List a}{i:Nat}{d:a}(h:i<l.length):l.getD i d=l[i]:=by
 simp only[n4,cm h];rfl
noncomputable def md(fs:List fk)(i j:Nat):Bool:=decide ((fs.getD i VN).cps.toList<(fs.getD j VN).cps.toList)
def lK{a b:fk}(h:a.cps.toList=b.cps.toList):a=b:=by
 obtain⟨⟨a⟩⟩:=a;simp_all
def GD (nd:fs.Nodup):Ord (md fs) fs.length where
 trans:=λi j k c a=>decide_eq_true (Wh (of_decide_eq_true c) (of_decide_eq_true a))
 total:=λi j d f b=>by
  delta md;rw[dN d,dN f]
  by_cases h:fs[i].cps.toList<fs[j].cps.toList
  ·exact .inl (decide_eq_true h)
  ·refine .inr (decide_eq_true ?_)
   by_cases a:fs[j].cps.toList<fs[i].cps.toList
   ·exact a
   ·have e:=lK (WJ (Vn.mp a) (Vn.mp h));exact absurd ((Vb nd).mp e) b
 fB:=λi=>decide_eq_false (Vu _)
def lO(K:gj)(H:Hp)(vs:List V)(fs:List fk):Prop:=vs.length=fs.length/\∀(i:Nat) (f:fk),fs[i]?=some f->∃a b,vs[i]?=some (.ref a)/\aX K H a b/\b[0]?=some (.str f)
def Ordered(fs:List fk)(vs out:List V):Prop:=∃q:Array Nat,cY q vs.length/\eE (md fs) q vs.length/\out=q.toList.map λi=>vs.getD i .bj
def sQ(K:gj):List V->Hp->VK->Prop:=λxs H Q=>∃p vs fs,xs=[.ref p]/\Rd H p (.lst vs)/\lO K H vs fs/\fs.Nodup/\vs.length<64/\∀out,Ordered fs vs out->∀l,H l=none->Q (.ref l) (upd H l (.lst out))
theorem Ej (r:aH vs its):∀(l:List Nat),(∀i∈l,i<vs.length)->aH (l.map λi=>vs.getD i .bj) (l.map λi=>its.getD i .none)
 | [],_=>.nil
 | i::l,h=>by
  have b:=h i fm;have a:i<its.length:=by rw[<-r.length];exact b
  refine .cons ?_ (Ej r l λj d=>h j (gf _ d))
  obtain⟨u,c,f⟩:=r.get (cm b);simp only[dN b,dN a];rw[cm a] at c;obtain rfl:=sO c;exact f
def pY (P:cY q n):∀i∈q.toList,i<n:=λi b=>by
 obtain⟨k,c,e⟩:=nR b;have a:k<q.size:=by simpa using c
 have:=P.lt k (by rw[<-P.size];exact a)
 rw[me,iR a] at this;have d:q[k]=i:=by simpa using e
 rw[<-d];exact this
theorem kat_tups (I:Inv X pins σ H s):∀{fs:List fk}{vs:List V}{its:List cA},lO X.K H vs fs->aH vs its ->
  ∃c:List cA,Y0 s.heap its c/\c.length=fs.length/\(∀v∈c,∃x t,v=Vs x t)/\∀(i:Nat) (f:fk),fs[i]?=some f->∃a o xs n t,its[i]?=some (.ref a)/\s.heap.get? a=some o/\o.data=.seq xs n/\xs[0]?=some (Vs f t)
 | [],[],_,h,r=>by
  cases r;exact⟨[],.nil,rfl,λv j=>by simp at j,λi f e=>by simp at e⟩
 | [],_::_,_,h,_=>by simp[lO] at h
 | _::_,[],_,h,_=>by simp[lO] at h
 | f::fs,v::vs,_,h,r=>by
  cases r with
  | cons p rs =>
   obtain⟨a,ws,q,w,y⟩:=h.2 0 f rfl;obtain rfl:=sO q;subst p;have h':lO X.K H vs fs:=⟨by simpa using h.1,λi g e=>by
    obtain⟨b,us,k,l,A⟩:=h.2 (i+1) g (e)
    exact⟨b,us,by simpa using k,l,A⟩⟩
   obtain⟨c,B,C,D,E⟩:=kat_tups I h' rs;obtain⟨its,F,⟨o,m,G,n,hd⟩,_⟩:=I.tuple w;obtain⟨u,J,L⟩:=F.get y;obtain⟨t,rfl⟩:=L;have d:its.toArray[0]?=some (Vs f t):=by simpa using J
   refine⟨Vs f t::c,.cons m G hd d B,by simp[C],λv j=>?_,λi g e=>?_⟩
   ·rcases f'.mp j with z|z
    ·exact⟨f,t,z⟩
    ·exact D v z
   ·cases i with
    | zero =>
     simp at e;subst e;exact⟨a,o,_,n,t,rfl,m,hd,d⟩
    | succ i =>
     obtain⟨b,M,xs,N,t',k,l⟩:=E i g (e)
     exact⟨b,M,xs,N,t',by simpa using k,l⟩
theorem KatTups.keeps (k:∀b o xs n,o.data=.seq xs n->h.get? b=some o->h'.get? b=some o):∀{vs fs:List cA},Y0 h vs fs->Y0 h' vs fs
 | [],[],t=>t
 | [],_::_,t=>t.elim
 | _::_,[],t=>t.elim
 | _::_,_::_,⟨⟨a,o,xs,n,e,c,d,hd,r⟩,t⟩=>⟨⟨a,o,xs,n,e,k _ _ _ _ hd c,d,hd,r⟩,KatTups.keeps k t⟩
def uZ(lt:Nat->Nat->Bool)(vs out:List V):Prop:=∃q:Array Nat,cY q vs.length/\eE lt q vs.length/\out=q.toList.map λi=>vs.getD i .bj
theorem u4(U:X.ex=[])(I:Inv X pins σ H s)(rd:Rd H p (.lst vs))(h64:vs.length<64)(O:Ord lt vs.length)(hT:(T==T)=true)(M:∀its,aH vs its->∃x:List cA,Y0 s.heap its x/\x.length=vs.length/\∀v∈x,∀h:qt,W.Looks (ma X.prog X.w) h (typeOf v) T)(Y:∀its,aH vs its->∀i j,i<vs.length->j<vs.length->i≠j->∀h':qt,(∀b o xs n,o.data=.seq xs n->s.heap.get? b=some o->h'.get? b=some o)->∀C:Bool->ee->Prop,C (lt i j) {s with heap:=h'}->iN (ma X.prog X.w) X.A.in1.in1 (keyLt' (tuples' (T != .type "tuple")) (its.getD i u3) (its.getD j u3)) C (λ_ _=>False) {s with heap:=h'})(q:∀out,uZ lt vs out->∀l,H l=none->Q (.ref l) (upd H l (.lst out))):iN (ma X.prog X.w) X.A (call (.builtin "sorted") [.ref p]) (EP X pins σ Q) X.xe s:=by
 obtain⟨z,its,n,k,e⟩:=rd.ok I.aw;have a:=k.length;have Z:s.heap.IsList p its.toArray:=⟨_,e,rfl,n,rfl⟩;obtain⟨m,hn,hl⟩:=I.loc;have Sh:=hn;obtain⟨oL,Si,Sj,f,E,_⟩:=Sh;have r:∀b∈X.ex,∃o,s.heap.get? b=some o:=λb hb=>by rw[U] at hb;simp at hb
 by_cases h2:2<=its.length
 ·obtain⟨x,M,kl,ks⟩:=M its k;have Fl:=I.zG hn;have Nl:News (gJ s.heap X.env.locals) X.env.locals s.heap (mT (gJ s.heap X.env.locals) s.heap X.env.locals):=Fu;refine W.kat_sorted Fl Nl Z h2 (by omega) λD e1 h' F' N F=>?_
  have kp:=yg F' N λq P=>gf _ P
  have G:∀b o xs n,o.data=.seq xs n->s.heap.get? b=some o->h'.get? b=some o:=λb o xs n hd R=>kp b o (λz=>by rw[z,f] at R;obtain rfl:=sO R;rw[E] at hd;contradiction) R
  have Sn:=KatTups.keeps G M;refine W.kat_kind Sn (by rw[kl,a];omega) (λv hv=>ks v hv _) hT ?_
  ·have So:=a.symm;obtain⟨B,cq,pq,uq⟩:=L3 O (by omega)
   rw[So];refine cq.wp (λi j ok C hC=>Y its k i j ok.1 ok.2.1 ok.2.2 h' G C hC) ?_
   ·have d:s.heap.get? D=none:=by
     cases y:s.heap.get? D with
     | none=>rfl
     | some o =>
      have a1:=N (D,WO "list" #[] e1) fm;exact absurd (F _ (xH a1.2.1 a1.2.2 y)) (za _)
    refine W.KasFin.intro F' N (.head λp hp=>iW (F p hp)) λJ c K L=>?_
    have t:=yg K L λq P=>gf _ P
    have S:=(L _ fm).1
    have u:=pq;refine⟨.ref D,upd H D (.lst (B.toList.map λi=>vs.getD i .bj)),I.wX hl K.ns t d r ?_,rfl,q _ ⟨B,u,uq,rfl⟩ D (I.aw.dead d)⟩
    refine⟨?_,_,c,Ej k _ (pY u),S⟩;rw[ab,hQ,u.size];exact z
 ·refine Xg kind_sorted plain_sorted entry_sorted (args_sorted1 _) ?_;delta W6.«sorted»
  refine bt (eR (bt (collect_list Z (bt (ZX ?_ (by rw[z4];omega))) (by rw[z4];omega))))
  generalize hg:((s.heap.push (WO "list" #[] 0)).update s.heap.objs.size (WM (· ++ its.toArray)))=g;have Ss:g.objs.size=s.heap.objs.size+1:=by rw[<-hg,YC,size_push']
  have gk:∀b o,s.heap.get? b=some o->(g.push (WO "list" its.toArray 0)).get? b=some o:=λb o q=>by
   have lt:=gi q;refine fj _ ?_;rw[<-hg,VC _ _ (Yw lt)];exact fj _ q
  have gD:(g.push (WO "list" its.toArray 0)).get? g.objs.size=some (WO "list" its.toArray 0):=k5 _ rfl;refine bt (q0 (z9 ZK ⟨_,gD,rfl⟩ Zs (Hh gD (by lia) λh' c S kp=>⟨_,rfl,eR ⟨_,rfl,?_⟩⟩) (ZL _)))
  have d:s.heap.get? g.objs.size=none:=by
   cases y:s.heap.get? g.objs.size with
   | none=>rfl
   | some o =>
    have:=gi y;rw[Ss] at this;exact absurd this (acm.mpr (WX _))
  have t:∀b o,b≠X.env.locals->s.heap.get? b=some o->h'.get? b=some o:=λb o _ q=>kp b o (λz=>by rw[z,d] at q;exact nO q) (gk b o q)
  have Sw:h'.Ns X.env.locals m:=⟨oL,Si,Sj,kp _ _ (λz=>by rw[z,d] at f;exact nO f) (gk _ _ f),E,by assumption⟩
  have one:uZ lt vs vs:=by
   refine⟨(hI vs.length).toArray,BC,λi j hij hj=>by omega,?_⟩
   match vs,a with
   | [],_=>rfl
   | [v],_=>rfl
   | _::_::_,a=>exact absurd h2 (by simp at a;omega)
  refine⟨.ref g.objs.size,upd H g.objs.size (.lst vs),I.wX hl Sw t d r ⟨z,its,c,k,S⟩,rfl,q vs one _ (I.aw.dead d)⟩
theorem Jp(D:X.ex=[]):bN X (.builtin "sorted") (sQ X.K):=by
 intro pins s σ H xs us Q I r h;obtain⟨p,vs,fs,rfl,N,c,nd,E,q⟩:=h;obtain⟨u,rfl,O⟩:=r.one;subst O;refine u4 D (T:=.type "str") I N E (by rw[c.1];exact GD nd) rfl (λits y=>?_) (λits y i j A B F h' n C P=>?_) q
 ·obtain⟨R,S,U,V,_⟩:=kat_tups I c y;refine⟨R,S,by rw[U];exact c.1.symm,λv Y h=>?_⟩
  obtain⟨x,t,rfl⟩:=V v Y;exact Yu rfl
 ·obtain⟨_,_,_,_,w⟩:=kat_tups I c y;rw[c.1] at A B;obtain⟨a,o,xs,n1,t1,Z,a2,G,d⟩:=w i _ (cm A);obtain⟨b,o',ys,n2,t2,b1,b2,J,f⟩:=w j _ (cm B);have ea:its.getD i u3=.ref a:=by rw[n4,Z];rfl
  have eb:its.getD j u3=.ref b:=by rw[n4,b1];rfl
  rw[ea,eb];refine abG (n _ _ _ _ G a2) G (n _ _ _ _ J b2) J ?_;obtain⟨g,k,ex⟩:∃g k,xs.toList=g::k:=by
   cases hx:xs.toList with
   | nil =>
    rw[<-gW,hx] at d;exact nO d
   | cons g k=>exact⟨g,k,rfl⟩
  obtain⟨l,m,L⟩:∃l m,ys.toList=l::m:=by
   cases hy:ys.toList with
   | nil =>
    rw[<-gW,hy] at f;exact nO f
   | cons l m=>exact⟨l,m,rfl⟩
  rw[<-gW,ex] at d;rw[<-gW,L] at f;obtain rfl:=sO d;obtain rfl:=sO f;simp only[ex,L];have M:fs[i]≠fs[j]:=λz=>F ((Vb nd).mp z)
  refine aaW (WZ ?_);simp[decide_eq_false M];refine abF (oneLt_str ?_);have:md fs i j=decide (fs[i].cps.toList<fs[j].cps.toList):=by unfold md;rw[dN A,dN B]
  simp only[<-this];exact P
def qj(c:List fk):Prop:=c.Pairwise λa b=>¬(b.cps.toList<a.cps.toList)
def uJ (k:XJ vs h)(d:xs.Perm (pairsOf vs))(hs:SortedToK strKind xs (pairsOf vs).size) :
  ∃a,XJ (xs.map (·.2)).toList a/\a.Perm h/\qj a:=by
 obtain⟨a,f,w,_⟩:=sorted_out_str k d hs;refine⟨a,f,w,?_⟩;have hsz:xs.size=(pairsOf vs).size:=d.size_eq;have g:∀p,p∈xs.toList->p.1=p.2/\p.1∈vs:=λp l=>mem_zip_self (by
  have hl:xs.toList.Perm (vs.zip vs):=by rw[<-pairsOf_toList];exact Y6.mp d
  exact hl.mem_iff.mp l)
 have b:a.length=xs.size:=by
  have:=f.strs;rw[<-this];simp
 have get:∀(i:Nat) (c:i<a.length),KK strKind xs i=a[i].cps.toList:=λi c=>by
  have n:i<xs.size:=by rw[<-b];exact c
  have x:=f.strs;have m:=g xs[i] (by simp)
  obtain⟨y,t,o⟩:=k.all _ m.2;have z:xs[i]=(Vs y t,xs[i].2):=by rw[<-o]
  rw[KK_str n z];have r:a[i]?=some y:=by
   simp only[<-x,cR,gW,Ye,iR n];simp;rw[<-m.1,o];rfl
  rw[cm c] at r;obtain rfl:=sO r;rfl
 delta qj;rw[qe];intro i j c u v;have q:=hs i j (Yx v) (by simp only[<-hsz,<-b];exact u)
 rw[get i c,get j u] at q;exact of_decide_eq_false q
def rZ:List V->Hp->VK->Prop:=λxs H Q=>∃p kvs b,xs=[.ref p]/\Rd H p (.dK kvs)/\kvs.map (·.1)=b.map ro/\kvs.length<64/\∀a,a.Perm b->qj a->∀l,H l=none->Q (.ref l) (upd H l (.lst (a.map V.str)))
theorem sv:∀{us:List cA}{ys:List fk},XJ us ys->aH (ys.map V.str) us
 | _,_,.nil=>.nil
 | _,_,.cons y t r=>.cons ⟨t,rfl⟩ (sv r)
theorem Ff:∀{a:List fk}{vs:List cA},vs.length=a.length->(∀(j:Nat) (u:cA),vs[j]?=some u->∃y,a[j]?=some y/\jB (ro y) u=true)->XJ vs a
 | [],[],_,_=>.nil
 | [],_::_,h,_=>by simp at h
 | _::_,[],h,_=>by simp at h
 | y::a,v::vs,h,k=>by
  obtain⟨y',b,c⟩:=k 0 v rfl;obtain rfl:=sO b
  rcases jl c with⟨i,t,z,_⟩|⟨x,t,z,d⟩
  ·contradiction
  ·cases z;rw[d];exact .cons _ _ (Ff (by simpa using h) λj u e=>by simpa using k (j+1) u (e))
theorem FP(L:X.ex=[])(hc:X.calm=true):bN X (.builtin "sorted") rZ:=by
 intro pins s σ H xs us Q I r h;obtain⟨p,kvs,E,rfl,rd,M,N,q⟩:=h;obtain⟨u,rfl,ru⟩:=r.one;subst ru;obtain⟨z,lo,O,n,dd⟩:=kK I.aw rd;obtain⟨ep,P⟩:=dd.dictAt;obtain⟨m,hn,hl⟩:=I.loc;have F:∀b∈X.ex,∃o,s.heap.get? b=some o:=λb a=>by rw[L] at a;simp at a
 have Fl:=I.zG hn;have Nl:News (gJ s.heap X.env.locals) X.env.locals s.heap (mT (gJ s.heap X.env.locals) s.heap X.env.locals):=Fu;have t:=n.length;have R:=n.keys;have v:E.length=kvs.length:=by
  have:=congrArg List.length M;simpa using this.symm
 refine W.kdu_sorted (W.kdl_dict lo) (I.ok.hd hc) Fl Nl P (by rw[z4];lia) λB h' tk vs S G T A hv=>?_
 have J:XJ vs E:=Ff (by simp only[A,v,t]) λj u e=>by
  obtain⟨k,x,e1,e2⟩:=hv j u e;have d:(O.map (·.1))[j]?=some k:=by rw[cR,e1];rfl
  simp only[<-R,M,cR] at d;cases U:E[j]? with
  | none=>rw[U] at d;exact nO d
  | some y =>
   rw[U] at d;obtain rfl:=sO d;exact⟨y,rfl,e2⟩
 have K:=(G _ fm).1;have f:=(G _ fm).2;have l:vs.length<64:=by simp only[A,<-t];exact N
 refine z9 ZK ⟨_,K,rfl⟩ Zs (ab0 Z9 K J.keysOf (λv₁ v₂ rest e=>aaz (by rw[<-e];exact J)) l λg a1 a2=>⟨_,rfl,?_⟩) (ZL _)
 obtain⟨C,b1,Y,b3⟩:=uJ J a1 a2;obtain⟨c,hD⟩:=acw (out:=(aaY g).map (·.2)) K;have i:s.heap.get? B=none:=by
  cases y:s.heap.get? B with
  | none=>rfl
  | some o=>exact absurd (T _ (xH f.1 f.2 y)) (za _)
 have kp:=yg S G λq hq=>gf _ hq
 have D:∀b o,b≠B->h'.get? b=some o->(sortedHeap h' B vs ((aaY g).map (·.2))).get? b=some o:=λb o a e=>(aci a (gi e)).trans e
 have Z:(sortedHeap h' B vs ((aaY g).map (·.2))).Ns X.env.locals m:=by
  obtain⟨oL,es,be,ho,r⟩:=S.ns;exact⟨oL,es,be,D _ _ (λz=>f.1 z.symm) ho,r⟩
 refine⟨.ref B,upd H B (.lst (C.map V.str)),I.wX hl Z (λb o a e=>D b o (λz=>by simp only[z,i] at e;exact nO e) (kp b o a e)) i F ⟨?_,_,c,sv b1,by simp only[hD,WU]⟩,rfl,q C Y b3 B (I.aw.dead i)⟩
 simp only[ab,Y.length_eq,v];exact z
theorem mK{f:Type}{R:f->f->Prop}(d:∀a b,R a b->R b a->a=b):∀{l c:List f},l.Perm c->l.Pairwise R->c.Pairwise R->l=c
 | [],c,p,_,_=>(List.Perm.eq_nil p.symm).symm
 | a::l,[],p,_,_=>by cases p.length_eq
 | a::l,b::c,p,h,h'=>by
  rw[Wl] at h h';have e:a=b:=by
   have g:=p.mem_iff.mp fm;have i:=p.mem_iff.mpr fm
   rcases f'.mp g with z|z
   ·exact z
   ·rcases f'.mp i with y|y
    ·exact y.symm
    ·exact d a b (h.1 b y) (h'.1 a z)
  subst e;rw[mK d (List.Perm.cons_inv p) h.2 h'.2]
noncomputable def df(a b:fk):Bool:=!decide (b.cps.toList<a.cps.toList)
def bW(a:List fk):List Str:=a.mergeSort df
def lA:df a b=true ↔ ¬(b.cps.toList<a.cps.toList):=by unfold df;simp
def vt(a b c)(d:df a b=true)(f:df b c=true):df a c=true:=by
 rw[lA] at *;grind
def xV(a b):(df a b||df b a)=true:=by
 delta df
 grind
def ET(a):qj (bW a):=by
 have:=wm (le:=df) vt xV a;exact this.imp λh=>lA.mp h
def tN (p:c.Perm d)(h:qj c):c=bW d :=
 mK (λa b f g=>lK (WJ (Vn.mp f) (Vn.mp g))) (p.trans (ib d df).symm) h (ET d)
noncomputable def lu:Dat->Option fk
 | .tup (.str x::_)=>some x
 | _=>none
noncomputable def firstsD:List Dat->Option (List fk)
 | []=>some []
 | d::r=>(lu d).bind λx=>(firstsD r).map (x::·)
def iA(d:Dat):Str:=(lu d).getD VN
def dZ(a b:Dat):Bool:=df (iA a) (iA b)
def pF(ds:List Dat):List Dat:=ds.mergeSort dZ
theorem DQ:∀{ds:List Dat}{fs:List fk},firstsD ds=some fs->fs=ds.map iA/\∀d∈ds,∃x,lu d=some x
 | [],_,e=>by obtain rfl:=sO e;exact⟨rfl,λd h=>by simp at h⟩
 | d::r,_,e=>by
  have e:(lu d).bind (λx=>(firstsD r).map (x::·))=some _:=e
  cases a:lu d with
  | none=>rw[a] at e;exact nO e
  | some x =>
   rw[a] at e;cases b:firstsD r with
   | none=>rw[b] at e;exact nO e
   | some ys =>
    rw[b] at e;obtain rfl:=sO e;obtain⟨c,f⟩:=DQ b;refine⟨by simp[iA,a,c],λd' hd=>?_⟩
    rcases f'.mp hd with z|z
    ·exact⟨x,by simp only[z,a]⟩
    ·exact f d' z
theorem CL{K:gj}{H j:Hp}(s:aj j H):∀{ds:List Dat}{vs:List V}{fs:List fk},firstsD ds=some fs->az K j ds vs->lO K H vs fs
 | [],_,_,e,r=>by
  obtain rfl:=sO e;rw[show _=[] from r]
  exact⟨rfl,λi f e=>by simp at e⟩
 | d::ds,_,_,e,⟨v,vr,l,m,rs⟩=>by
  have e:(lu d).bind (λx=>(firstsD ds).map (x::·))=some _:=e
  cases b:lu d with
  | none=>rw[b] at e;exact nO e
  | some x =>
   rw[b] at e;cases c:firstsD ds with
   | none=>rw[c] at e;exact nO e
   | some ys =>
    rw[c] at e;obtain rfl:=sO e;obtain⟨n,o⟩:=CL s c rs;simp[l];refine⟨by simp[n],λi f g=>?_⟩
    cases i with
    | zero =>
     simp at g;subst g;delta lu at b;split at b
     ·obtain rfl:=sO b;obtain⟨p,h,rfl,q,w1,wr,t,k,_⟩:=m;subst k;exact⟨p,h,rfl,aX.mono s q,by rw[t];rfl⟩
     ·exact nO b
    | succ i =>
     obtain⟨a,h,u,w⟩:=o i f (g)
     exact⟨a,h,by simpa using u,w⟩
theorem az.pick{K:gj}{H:Hp}{ds:List Dat}{vs:List V}(r:az K H ds vs):∀(l:List Nat),(∀i∈l,i<vs.length)->az K H (l.map λi=>ds.getD i .bj) (l.map λi=>vs.getD i .bj)
 | [],_=>rfl
 | i::l,h=>by
  have b:=h i fm;have a:i<ds.length:=by rw[<-r.length];exact b
  obtain⟨v,c,d⟩:=r.get (cm a);refine⟨vs.getD i .bj,_,rfl,?_,az.pick r l λj f=>h j (gf _ f)⟩
  simp only[n4,c,cm a];exact d
def Lu(a b c)(d:dZ a b=true)(f:dZ b c=true):dZ a c=true:=vt _ _ _ d f
def Md(a b):(dZ a b||dZ b a)=true:=xV _ _
def wa{a:Type}(l:List a)(d:a):(hI l.length).map (λi=>l.getD i d)=l:=by
 apply aaO (by simp)
 intro i h1 b;simp only[T',List.getElem_range,dN b]
def Hr (nd:(ds.map iA).Nodup)(P:cY q ds.length)(U:eE (md (ds.map iA)) q ds.length):(q.toList.map λi=>ds.getD i .bj)=pF ds:=by
 have pm:(q.toList.map λi=>ds.getD i .bj).Perm ds:=by
  have:=P.pm.map (λi=>ds.getD i .bj)
  rw[wa] at this;exact this
 have m:∀i,i<ds.length->iA (ds.getD i .bj)=(ds.map iA).getD i VN:=λi c=>by
  rw[dN c,dN (by simpa using c)]
  simp
 have g:(q.toList.map λi=>ds.getD i .bj).Pairwise (λa b=>dZ a b=true/\a∈ds/\b∈ds):=by
  rw[qe];intro i j c d n;have o:i<ds.length:=by rw[<-P.size];simpa using c
  have f:j<ds.length:=by rw[<-P.size];simpa using d
  refine⟨?_,pm.mem_iff.mp (V6 _),pm.mem_iff.mp (V6 _)⟩;have u:=U i j n f;have v:q.toList[i]'(by simpa using c)=q.getD i 0:=by
   simp only[me,iR (by simpa using c)]
   simp
  have w:q.toList[j]'(by simpa using d)=q.getD j 0:=by
   simp only[me,iR (by simpa using d)]
   simp
  simp only[T',v,w];delta dZ;rw[m _ (P.lt i o),m _ (P.lt j f),lA];have u:=of_decide_eq_true u;exact λz=>Vu _ (Wh u z)
 have k:(pF ds).Pairwise (λa b=>dZ a b=true/\a∈ds/\b∈ds):=by
  have h:=wm (le:=dZ) Lu Md ds;refine VS (λx y p=>⟨p,?_,?_⟩) h
  ·exact (ib ds dZ).mem_iff.mp x
  ·exact (ib ds dZ).mem_iff.mp y
 refine mK (λa b l A=>?_) (pm.trans (ib ds dZ).symm) g k
 have e:=lK (WJ (Vn.mp (lA.mp l.1)) (Vn.mp (lA.mp A.1)));obtain⟨i,c,r⟩:=nR l.2.1;obtain⟨j,d,t⟩:=nR l.2.2;have B:(ds.map iA)[i]'(by simpa using c)=(ds.map iA)[j]'(by simpa using d):=by simp[r,t,e]
 have C:=(Vb nd).mp B;subst C;simp only[<-r,t]
def m9:List Dat->Option Res
 | [.bP a]=>if a.length<64 then some (.own (.lst ((bW (a.map (·.1))).map .str))) else none
 | [.lst ds]=>(firstsD ds).bind λfs=>if fs.Nodup/\ds.length<64 then some (.own (.lst (pF ds))) else none
 | _=>none
theorem tq{K:gj}{H:Hp}:∀{a:List (fk×Dat)}{kvs:List (Key×V)},bI K H a kvs->kvs.map (·.1)=(a.map (·.1)).map ro
 | [],_,h=>by rw[show _=[] from h];rfl
 | (k,d)::a,_,⟨v,r,e,q,t⟩=>by rw[e];simp[tq t]
theorem qq{K:gj}{H:Hp}:∀(a:List fk),az K H (a.map .str) (a.map V.str)
 | []=>rfl
 | x::r=>⟨.str x,_,rfl,rfl,qq r⟩
theorem y8:CD X (λxs H Q=>sQ X.K xs H Q\/rZ xs H Q) m9:=by
 intro H0 ps Z σ H g vs ds o Q a S r k;delta m9 at a;split at a
 ·rename_i u;split at a
  ·rename_i b;obtain rfl:=sO a;obtain⟨v,w,rfl,⟨p,kvs,rfl,x,h⟩,f⟩:=r;subst f;refine .inr ⟨p,kvs,u.map (·.1),rfl,Rd.of (S.sub _ _ x),tq h,by rw[bI.length h];exact b,λss' pm j l hl=>?_⟩
   rw[tN pm j];exact k (.ref l) _ g (S.made hl) (aj.refl _) ⟨l,rfl,⟨_,ba,qq _,S.dw hl⟩,(S.bJ hl).2,(S.bJ hl).1,S.dP hl⟩
  ·exact nO a
 ·rename_i m;cases d:firstsD m with
  | none=>rw[d] at a;exact nO a
  | some fs =>
   rw[d] at a;simp only[k7] at a;split at a
   ·rename_i b;obtain rfl:=sO a;obtain⟨v,w,rfl,⟨p,y,rfl,z,rs⟩,f⟩:=r;subst f;have c:=rs.length;refine .inl ⟨p,y,fs,rfl,Rd.mono S.sub z,CL S.sub d rs,b.1,by rw[c];exact b.2,λout ⟨q,P,U,A⟩ l hl=>?_⟩
    obtain⟨n,_⟩:=DQ d;subst n;simp[c] at P U;have B:=Hr b.1 P U;subst A;have t:=az.pick rs q.toList (λi C=>by rw[c];exact pY P i C)
    rw[B] at t;exact k (.ref l) _ g (S.made hl) (aj.refl _) ⟨l,rfl,⟨_,ba,t,S.dw hl⟩,(S.bJ hl).2,(S.bJ hl).1,S.dP hl⟩
   ·exact nO a
 ·exact nO a
structure lI (x:fk):Prop where
 mark:True
def Dg (hl:lI x)(hnd:N.Nodup)(hXN:X.N=N)(hkb:(gH scope).findIdx? (·==x)=some kb)(hj:N.findIdx? (·==x)=some j)(h:X.calm=true)(B:je X.env.scope scope)(f:gG X.N (gH scope) scope (mQ N scope)=true)(hs:∀x,wy iter X.env x=pure x)(i:dv X d iter fi)(k:∀(b:List (fk×eu)) (C:eu) (a:ee) (H:Hp) (c:List eu),DG (cp X (gH scope) scope b C a H c) d g)(l:∀(b:List (fk×eu)) (C:eu) (a:ee) (H:Hp) (c:List eu),kY (cp X (gH scope) scope b C a H c) ifs fc)(m:∀(b:List (fk×eu)) (C:eu) (a:ee) (H:Hp) (c:List eu),DD (cp X (gH scope) scope b C a H c) elt fe):DE X (.ListComp elt [⟨d,iter,ifs,0⟩] scope pos) (eN (mQ N scope) (some (kb,j)) fi g fc fe):=RA kb j h B f i k l m hs
end
noncomputable def gx:List Dat->List Dat->Bool
 | [],[]=>true
 | x::xs,y::ys=>cJ x y&&gx xs ys
 | _,_=>false
def kI(i j):cJ (.int i) (.int j)=decide (i=j):=by
 rfl
def gY(i j):cJ (.str i) (.str j)=decide (i=j):=by
 rfl
theorem yO:∀xs ys:List Dat,Xk (cD xs) (cD ys)=gx xs ys
 | [],[]=>by simp only[cD,Xk];rfl
 | x::xs,[]=>by simp only[cD,cD,Xk];rfl
 | [],y::ys=>by simp only[cD,cD,Xk];rfl
 | x::xs,y::ys=>by
  simp only[cD,Xk,yO xs ys];rfl
def uc(xs ys):cJ (.tup xs) (.tup ys)=gx xs ys:=by
 show zb (.tuple (cD xs)) (.tuple (cD ys))=_;simp only[zb,yO]
def l9(xs ys):cJ (.lst xs) (.lst ys)=gx xs ys:=by
 show zb (.list (cD xs)) (.list (cD ys))=_;simp only[zb,yO]
noncomputable def fh:Dat->Bool
 | .bj=>true
 | .bl _=>true
 | .int _=>true
 | .str x=>y1 x
 | _=>false
def iZ:Dat->Bool
 | .tup ds=>ds.all fh
 | .lst ds=>ds.all fh
 | d=>fh d
def oI (h:fh d=true):gA d=true/\(toPy d).canLay0=true/\(toPy d).depth=0:=by
 cases d<;>first|cases h|skip
 ·exact⟨rfl,by rw[toPy,Ts],by rw[toPy,PyData.depth]<;>intros<;>simp⟩
 ·exact⟨rfl,by rw[toPy,Ts],by rw[toPy,PyData.depth]<;>intros<;>simp⟩
 ·exact⟨rfl,by rw[toPy,Ts],by rw[toPy,PyData.depth]<;>intros<;>simp⟩
 ·exact⟨rfl,by rw[toPy,Ts];exact h,by rw[toPy,PyData.depth]<;>intros<;>simp⟩
theorem pf{n:Nat}{p:Dat->Bool}(e:∀d,p d=true->gA d=true/\(toPy d).canLay0=true/\(toPy d).depth<=n):∀{ds:List Dat},ds.all p=true->jW ds=true/\Xe (cD ds)=true/\YB (cD ds)<=n
 | [],_=>⟨rfl,by rw[cD,Xe],by simp only[cD,YB];lia⟩
 | d::ds,h=>by
  simp only[Xs,ey] at h;obtain⟨a,b,c⟩:=e d h.1;obtain⟨f,g,c'⟩:=pf e h.2;refine⟨?_,?_,?_⟩
  ·simp only[jW,a,f];rfl
  ·simp only[cD,Xe,b,g];rfl
  ·dsimp only[cD,YB];lia
theorem wz (h:iZ d=true):gA d=true/\(toPy d).canLay0=true/\(toPy d).depth<=1:=by
 have k:=@pf 0 fh λd h=>⟨(oI h).1,(oI h).2.1,abP (oI h).2.2⟩
 have l:fh d=true->gA d=true/\(toPy d).canLay0=true/\(toPy d).depth<=1:=λh=>⟨(oI h).1,(oI h).2.1,by rw[(oI h).2.2];omega⟩
 cases d with
 | tup ds =>
  obtain⟨a,b,c⟩:=k h;exact⟨by simp only[gA];exact a,by simp only[toPy,Ts];exact b,by simp only[toPy,PyData.depth];omega⟩
 | lst ds =>
  obtain⟨a,b,c⟩:=k h;exact⟨by simp only[gA];exact a,by simp only[toPy,Ts];exact b,by simp only[toPy,PyData.depth];omega⟩
 | _=>exact l h
def jA (h:iZ d=true):bD d=true:=by
 obtain⟨a,b,c⟩:=wz h;dsimp only[bD,Yl];grind
def yo (h:ds.all iZ=true):bD (.lst ds)=true:=by
 obtain⟨a,b,c⟩:=@pf 1 iZ (λd h=>wz h) ds h
 dsimp only[bD,Yl];simp only[gA,toPy,Ts,PyData.depth,a,b];simp
 lia
def kF:bD (.int i)=true:=jA rfl
def iP (h:y1 x=true):bD (.str x)=true:=jA h
def D' (h:ds.all fh=true):bD (.tup ds)=true:=jA h
theorem nJ(d):∀ds:List Dat,inD d ds=ds.any λy=>cJ y d
 | []=>by unfold inD;simp only[cD];rfl
 | y::r=>by
  have:=nJ d r;unfold inD at this ⊢;simp only[cD,VL,this];rfl
noncomputable def after(g:SF):Out->Option Out
 | .next Z=>g Z
 | o=>some o
noncomputable def pick (b:Bool)(x y:a):a:=if b=true then x else y
section
variable{f g:DF}{e:EF}{c c':BF}{s s':SF}{a:AF}{Z Z1 Z2 Z3:DS}{d d':Dat}{ds:List Dat}{r:Res}{b b':Bool}{o o1:Out}{oo:Option Out}{Q:Out->Prop}{P:lT}{w:px}{K:gj}{mg:fk->Option cA}{base:qt}
def v_after{g:SF}:(lS s g Z)=(s Z).bind (after g):=by
 rfl
def tH{g:SF}(h:s Z=some o1)(h':after g o1=oo):lS s g Z=oo:=by rw[v_after,h];exact h'
def tP{g:SF}(h:g Z=oo):after g (.next Z)=oo:=h
def GS{g:SF}{i:Res}{j:DS}(h:r=i)(h':Z=j):after g (.ret r Z)=some (.ret i j):=by rw[<-h,<-h'];rfl
def L8:(Res.dat d).val=d:=rfl
def xJ(h:c Z=some (b,Z1))(h':pick b (s Z1) (s' Z1)=oo):j5 c s s' Z=oo:=by unfold j5;rw[h];exact h'
def xC (j:b=true)(h:x=z):pick b x y=z:=by subst j;exact h
def sS (j:b=false)(h:y=z):pick b x y=z:=by subst j;exact h
def v_and(h:c Z=some (b,Z1))(h':pick b (c' Z1) (some (false,Z1))=some (b',Z2)):lX c c' Z=some (b',Z2):=by unfold lX;rw[h];exact h'
def oG(h:c Z=some (b,Z1))(h':c' Z1=some (b',Z1)):lX c c' Z=some (b&&b',Z1):=by
 delta lX;rw[h];cases b
 ·rfl
 ·exact h'
def v_or(h:c Z=some (b,Z1))(h':pick b (some (true,Z1)) (c' Z1)=some (b',Z2)):oD c c' Z=some (b',Z2):=by unfold oD;rw[h];exact h'
def vJ(h:c Z=some (b,Z1))(h':c' Z1=some (b',Z1)):oD c c' Z=some (b||b',Z1):=by
 delta oD;rw[h];cases b
 ·exact h'
 ·rfl
def kS(h:c Z=some (b,Z1)):pM c Z=some (!b,Z1):=by unfold pM;rw[h];rfl
def iE(h:f Z=some (d,Z1))(h':nY d=some b):mU f Z=some (b,Z1):=by unfold mU;rw[h];show (nY d).map _=_;rw[h'];rfl
def aP(h:e Z=some (.dat (.bl b),Z1)):fE e Z=some (b,Z1):=by unfold fE;rw[h];rfl
def uW(h:f Z=some (.bl b,Z1))(h':g Z1=some (.bl b',Z1)):j6 f g Z=some (.bl (b&&b'),Z1):=by
 delta j6;rw[h];cases b
 ·rfl
 ·exact h'
def D7(h:f Z=some (.bl b,Z1))(h':g Z1=some (.bl b',Z1)):nF f g Z=some (.bl (b||b'),Z1):=by
 delta nF;rw[h];cases b
 ·exact h'
 ·rfl
def v_res(h:f Z=some (d,Z1)):pT f Z=some (.dat d,Z1):=by unfold pT;rw[h];rfl
def af(h:e Z=some (r,Z1))(h':r.val=d):jf e Z=some (d,Z1):=by unfold jf;rw[h,<-h'];rfl
def ao (h:f Z=some (d,Z1))(i:g Z1=some (d',Z2))(j:op d d'=some r):cK op f g Z=some (r,Z2):=by
 delta cK;simp_all
def rj (h:f Z=some (d,Z1))(h':mN d T=some b):la T f Z=some (.bl b,Z1):=by unfold la;rw[h];show (mN d T).map _=_;rw[h'];rfl
def aF (h:a Z=some (ds,Z1))(h':fn ds=some r):cg fn a Z=some (r,Z1):=by unfold cg;rw[h];show (fn ds).map _=_;rw[h'];rfl
def dI (k:(Z[i]?).bind ownOf=some j)(h:a Z=some (ds,Z1))(l:(Z1[i]?).bind ownOf=some t)(m:fn t.2 ds=some (r,d'))(n:Z1.set i (kindAt t.1 d')=Z2):pW fn i a Z=some (r,Z2):=by
 delta pW;simp_all
def ai:mC Z=some ([],Z):=rfl
def aa(h:f Z=some (d,Z1))(h':a Z1=some (ds,Z2)):iY f a Z=some (d::ds,Z2):=by unfold iY;rw[h];show (a Z1).map _=_;rw[h'];rfl
def bA(h:a Z=some (ds,Z1))(h':ds.length<=dk):qY a Z=some (.own (.lst ds),Z1):=by unfold qY;rw[h];exact if_pos h'
def cu(h:a Z=some (ds,Z1))(h':ds.length<=dk):rY a Z=some (.tup ds,Z1):=by unfold rY;rw[h];exact if_pos h'
def iG{n c:Dat}(h:f Z=some (c,Z1))(i:g Z1=some (n,Z2))(j:cf c n=some d):pJ f g Z=some (d,Z2):=by
 delta pJ;grind
def a9{i:Nat}{c0 n c:Dat}(j:(Z[i]?).bind iU=some c0)(k:g Z=some (n,Z1))(h:(Z1[i]?).bind iU=some c)(l:cf c n=some d):mo i g Z=some (d,Z1):=by
 delta mo;simp_all
def eJ{i n:Nat}{c:Dat}(j:(Z[i]?).bind iU=some c)(h:cH c=some n):qR i Z=some (.int n,Z):=by unfold qR;rw[j];show (cH c).map _=_;rw[h];rfl
def uR(h:e Z=some (r,Z1)):nK e Z=some (.ret r Z1):=by unfold nK;rw[h];rfl
def qD (h:e Z=some (r,Z1))(h':j4 i r Z1=some Z2):iI i e Z=some (.next Z2):=by unfold iI;rw[h];show (j4 i r Z1).map _=_;rw[h'];rfl
def E8{g:GF}(h:f Z=some (d,Z1))(h':g d Z1=some Z2):nQ g f Z=some (.next Z2):=by unfold nQ;rw[h];show (g d Z1).map _=_;rw[h'];rfl
def sY(h:f Z=some (d,Z1)):nT f Z=some (.next Z1):=by unfold nT;rw[h];rfl
def gg (h:F Z=some x):alt F G Z=some x:=by unfold alt;rw[h]
def zV{o1 o2:Dat->Dat->Option Res}(i:f Z=some (x,Z1))(j:g Z1=some (y,Z2))(k:o1 x y=some (.dat (.bl b)))(hh:h Z2=some (z,Z2))(l:o2 y z=some (.dat (.bl b'))):kr o1 o2 f g h Z=some (.bl (b&&b'),Z2):=by
 delta kr;simp[i];rw[j];simp[k];cases b
 ·rfl
 ·simp_all
def O2{o1 o2:Dat->Dat->Option Res}(hh:kr o1 o2 f g h Z=some (.bl b,Z1)):pP o1 o2 f g h Z=some (b,Z1):=by unfold pP;rw[hh];rfl
def vN{C:Int->Int->Bool}{g:Int->Int->Dat}(h:C i j=true):fZ C g (.int i) (.int j)=some (.dat (g i j)):=if_pos h
def v_eq (h:bD x=true)(h':bD y=true):dX false x y=some (.dat (.bl (cJ x y))):=by unfold dX;rw[h,h'];rfl
def rR (h:bD x=true)(h':bD y=true):dX true x y=some (.dat (.bl (!cJ x y))):=by unfold dX;rw[h,h'];rfl
def Dy (h:x.length+y.length<=dk):g8 (.str x) (.str y)=some (.dat (.str (x++y))):=if_pos h
def nP (h:x.length+y.length<=dk):g8 (.lst x) (.lst y)=some (.own (.lst (x++y))):=if_pos h
def tz (h:F Z=none)(h':G Z=some x):alt F G Z=some x:=by unfold alt;rw[h];exact h'
def JI{fi:IF}{g:GF}(h:fi Z=some (ds,Z1))(h':forLoop g s ds Z1=oo):nU fi g s Z=oo:=by unfold nU;rw[h];exact h'
def Aj (h:s (iF n ds)=some (.ret r Z)):iO n s ds=some r:=by unfold iO;rw[h];rfl
def FN (h:s (iF n ds)=some (.next Z)):iO n s ds=some (.dat .bj):=by unfold iO;rw[h];rfl
def uG (h:s (jk n j c0 ds)=some (.ret r Z))(h':Z[j]?=some (.io i)):lV n j s c0 ds=some (r,i):=by
 delta lV;simp[h];simp[h']
def tX (h:f Z=some (d,Z1))(n:(Z1[i]?).bind ownOf=some m)(p:l Z1=some (.int k,Z2))(q:(Z2[i]?).bind ownOf=some (b,.lst xs))(t:ff xs.length k=some j)(u:Z2.set i (kindAt b (.lst (xs.set j d)))=Z3):pS i l f Z=some (.next Z3):=by
 delta pS;grind
def oC:dX false (.int i) (.int j)=some (.dat (.bl (decide (i=j)))):=by rw[v_eq kF kF,kI]
def oX (h:y1 i=true)(h':y1 j=true):dX false (.str i) (.str j)=some (.dat (.bl (decide (i=j)))):=by rw[v_eq (iP h) (iP h'),gY]
theorem vc{g:GF}{fc:BF}{fe:DF}(I:Nat->List Dat->DS->Prop):∀(xs:List Dat) (n:Nat) (i:List Dat) (Z:DS),I n i Z->i.length+xs.length<=dk ->
  (∀(k:Nat) (x:Dat),xs[k]?=some x->∀i Z,I (n+k) i Z->∃Z1 b Z2,g x Z=some Z1/\fc Z1=some (b,Z2)/\((b=false/\noOwn Z2=true/\I (n+k+1) i Z2)\/∃d Z3,b=true/\fe Z2=some (d,Z3)/\noOwn Z3=true/\I (n+k+1) (i++[d]) Z3)) ->
  ∃l m,I (n+xs.length) l m/\compLoop g fc fe xs i Z=some (l,m)
 | [],n,i,Z,h,_,_=>⟨i,Z,h,rfl⟩
 | x::xs,n,i,Z,h,C,k=>by
  have v:∀(j:Nat) (y:Dat),xs[j]?=some y->∀i Z,I (n+1+j) i Z->∃Z1 b Z2,g y Z=some Z1/\fc Z1=some (b,Z2)/\((b=false/\noOwn Z2=true/\I (n+1+j+1) i Z2)\/∃d Z3,b=true/\fe Z2=some (d,Z3)/\noOwn Z3=true/\I (n+1+j+1) (i++[d]) Z3):=λj y D i Z E=>by
   have:=k (j+1) y D i Z (by rw[show n+(j+1)=n+1+j from by lia];exact E)
   rw[show n+(j+1)+1=n+1+j+1 from by lia] at this
   exact this
  have z:n+(x::xs).length=n+1+xs.length:=by simp only[fv];lia
  obtain⟨Z1,b,Z2,A,B,F⟩:=k 0 x rfl i Z h
  rcases F with⟨rfl,p,q⟩|⟨d,Z3,rfl,G,p,q⟩
  ·obtain⟨l,m,t,u⟩:=vc I xs (n+1) i Z2 q (by omega) v
   refine⟨l,m,z ▸ t,?_⟩;show (g x Z).bind _=_;simp[A];rw[B];show (if noOwn Z2=true then compLoop g fc fe xs i Z2 else none)=_
   rw[if_pos p];exact u
  ·obtain⟨l,m,t,u⟩:=vc I xs (n+1) (i++[d]) Z3 q (by rw[eH];simp;omega) v
   refine⟨l,m,z ▸ t,?_⟩;show (g x Z).bind _=_;simp[A];rw[B];show (fe Z2).bind _=_;rw[G];show (if i.length<dk/\noOwn Z3=true then _ else none)=_
   rw[if_pos ⟨by omega,p⟩]
   exact u
def WS(s:SF)(Z:DS)(Q:Out->Prop):Prop:=∃o,s Z=some o/\Q o
def AQ(g:SF)(Q:Out->Prop):Out->Prop
 | .next Z=>WS g Z Q
 | .ret r Z=>Q (.ret r Z)
 | .brk Z=>Q (.brk Z)
 | .cont Z=>Q (.cont Z)
 | .exc C Z=>Q (.exc C Z)
def WB(c:BF)(Z:DS)(Q:Bool->DS->Prop):Prop:=∃b Z1,c Z=some (b,Z1)/\Q b Z1
def WS.mono (h:WS s Z Q)(k:∀o,Q o->i o):WS s Z i:=⟨h.choose,h.choose_spec.1,k _ h.choose_spec.2⟩
theorem ag{g:SF}(h:WS s Z (AQ g Q)):WS (lS s g) Z Q:=by
 obtain⟨o,e,q⟩:=h;cases o with
 | next Z1 =>
  obtain⟨o2,i,j⟩:=q;exact⟨o2,by rw[v_after,e];exact i,j⟩
 | ret r Z1=>exact⟨_,by rw[v_after,e];rfl,q⟩
 | brk Z1=>exact⟨_,by rw[v_after,e];rfl,q⟩
 | cont Z1=>exact⟨_,by rw[v_after,e];rfl,q⟩
 | exc C Z1=>exact⟨_,by rw[v_after,e];rfl,q⟩
def aB(q:Q (.next Z)):WS uF Z Q:=⟨_,rfl,q⟩
def ak{g:SF}(h:WS g Z Q):AQ g Q (.next Z):=h
def cG{g:SF}(h:Q (.ret r Z)):AQ g Q (.ret r Z):=h
def aI (h:e Z=some (r,Z1))(h':j4 i r Z1=some Z2)(q:Q (.next Z2)):WS (iI i e) Z Q:=⟨_,qD h h',q⟩
def D6{g:GF}(h:f Z=some (d,Z1))(h':g d Z1=some Z2)(q:Q (.next Z2)):WS (nQ g f) Z Q:=⟨_,E8 h h',q⟩
def bc(h:e Z=some (r,Z1))(q:Q (.ret r Z1)):WS (nK e) Z Q:=⟨_,uR h,q⟩
def gb(h:f Z=some (d,Z1))(q:Q (.next Z1)):WS (nT f) Z Q:=⟨_,sY h,q⟩
def uN(h:WB c Z λb Z1=>(b=true->WS s Z1 Q)/\(b=false->WS s' Z1 Q)):WS (j5 c s s') Z Q:=by
 obtain⟨b,Z1,e,j,k⟩:=h;cases b
 ·obtain⟨o,i,q⟩:=k rfl;exact⟨o,xJ e i,q⟩
 ·obtain⟨o,i,q⟩:=j rfl;exact⟨o,xJ e i,q⟩
def ck(h:c Z=some (b,Z1))(t:b=true->WS s Z1 Q)(n:b=false->WS s' Z1 Q):WS (j5 c s s') Z Q:=uN ⟨b,Z1,h,t,n⟩
def ud{Q:Bool->DS->Prop}(h:c Z=some (b,Z1))(q:Q b Z1):WB c Z Q:=⟨b,Z1,h,q⟩
def AB{Q:Bool->DS->Prop}(h:WB c Z λb Z1=>(b=true->WB c' Z1 Q)/\(b=false->Q false Z1)):WB (lX c c') Z Q:=by
 obtain⟨b,Z1,e,i,j⟩:=h;cases b
 ·exact⟨false,Z1,v_and e rfl,j rfl⟩
 ·obtain⟨b',Z2,k,q⟩:=i rfl;exact⟨b',Z2,v_and e k,q⟩
def vL(N:DS->Prop)(Q:Out->Prop):Out->Prop
 | .next Z=>N Z
 | .cont Z=>N Z
 | .brk Z=>Q (.next Z)
 | .ret r Z=>Q (.ret r Z)
 | .exc _ _=>False
theorem CZ{g:GF}{fb:SF}{Q:Out->Prop}(I:Nat->DS->Prop):∀(xs:List Dat) (n:Nat) (Z:DS),I n Z->(∀(k:Nat) (x:Dat),xs[k]?=some x->∀Z,I (n+k) Z->∃Z1,g x Z=some Z1/\WS fb Z1 (vL (I (n+k+1)) Q)) ->
  (∀Z,I (n+xs.length) Z->Q (.next Z))->WS (forLoop g fb xs) Z Q
 | [],n,Z,h,_,i=>⟨_,rfl,i Z h⟩
 | x::xs,n,Z,h,k,i=>by
  obtain⟨Z1,l,o,m,q⟩:=k 0 x rfl Z h;have go:∀Z2,I (n+0+1) Z2->WS (forLoop g fb xs) Z2 Q:=λZ2 p=>CZ I xs (n+1) Z2 p (λj y t Z u=>by
   have:=k (j+1) y t Z (by rw[show n+(j+1)=n+1+j from by lia];exact u)
   rw[show n+(j+1)+1=n+1+j+1 from by lia] at this
   exact this) (λZ hd=>i Z (by simp only[fv,show n+(xs.length+1)=n+1+xs.length from by lia];exact hd))
  have hh:∀oo,fb Z1=some oo->forLoop g fb (x::xs) Z=match oo with
   | .next Z2=>forLoop g fb xs Z2
   | .cont Z2=>forLoop g fb xs Z2
   | .brk Z2=>some (.next Z2)
   | .ret r Z2=>some (.ret r Z2)
   | .exc _ _=>none:=λoo v=>by
   show (g x Z).bind _=_;rw[l];show (fb Z1).bind _=_;rw[v];cases oo<;>rfl
  have hh:=hh o m;delta WS;cases o with
  | next Z2=>rw[hh];exact go Z2 q
  | cont Z2=>rw[hh];exact go Z2 q
  | brk Z2=>rw[hh];exact⟨_,rfl,q⟩
  | ret r Z2=>rw[hh];exact⟨_,rfl,q⟩
  | exc C Z2=>exact q.elim
def dO{fi:IF}{g:GF}{fb:SF}(I:Nat->DS->Prop)(h:fi Z=some (ds,Z1))(l:I 0 Z1)(st:∀(k:Nat) (x:Dat),ds[k]?=some x->∀Z,I k Z->∃Z1,g x Z=some Z1/\WS fb Z1 (vL (I (k+1)) Q))
 (i:∀Z,I ds.length Z->Q (.next Z)):WS (nU fi g fb) Z Q:=by
 have:=CZ I ds 0 Z1 l (λk x m Z j=>by
  obtain⟨Z1,n,w⟩:=st k x m Z (by rw[SS] at j;exact j)
  exact⟨Z1,n,by rw[SS];exact w⟩) (λZ hd=>i Z (by rw[SS] at hd;exact hd))
 obtain⟨o,e,q⟩:=this;exact⟨o,JI h e,q⟩
def Ga {P:Res->Prop}(h:WS s (iF n ds) λo=>∃r Z,o=.ret r Z/\P r):∃r,iO n s ds=some r/\P r:=by
 obtain⟨o,e,r,Z,rfl,p⟩:=h;exact⟨r,Aj e,p⟩
def GA {P:Res->Dat->Prop}(h:WS s (jk n j c0 ds) λo=>∃r Z i,o=.ret r Z/\Z[j]?=some (.io i)/\P r i):∃r i,lV n j s c0 ds=some (r,i)/\P r i:=by
 obtain⟨o,e,r,Z,i,rfl,h,p⟩:=h;exact⟨r,i,uG e h,p⟩
def A4{caps:List (Option Nat)}{fi:IF}{g:GF}{fc:BF}{fe:DF}{out:List Dat}{i:DS}(h:fi Z=some (ds,Z1))(j:bu none caps Z1=Z2)(hl:compLoop g fc fe ds [] (cv caps Z2)=some (out,i)):eN caps none fi g fc fe Z=some (.own (.lst out),Z2):=by
 dsimp only[eN];simp_all
def Hy{caps:List (Option Nat)}{k j:Nat}{fi:IF}{g:GF}{fc:BF}{fe:DF}{out:List Dat}{i:DS}{c0 l:Dat}(h:fi Z=some (ds,Z1))(m:bu (some (k,j)) caps Z1=Z2)(n:caps[k]?=some (some j))(p:Z2[j]?=some (.io c0))
 (hl:compLoop g fc fe ds [] ((cv caps Z2).set k (.io c0))=some (out,i))(q:i[k]?=some (.io l))(t:Z2.set j (.io l)=Z3):eN caps (some (k,j)) fi g fc fe Z=some (.own (.lst out),Z3):=by
 dsimp only[eN];simp_all
theorem CW{g:GF}{fc:BF}{fe:DF}{n:DS}(put:Dat->DS)(keep:Dat->Bool)(val:Dat->Dat):∀(xs:List Dat) (h:List Dat) (Z:DS),h.length+xs.length<=dk ->
  (∀x∈xs,∀Z,(Z=n\/∃y,Z=put y)->g x Z=some (put x))->(∀x∈xs,fc (put x)=some (keep x,put x))->(∀x∈xs,keep x=true->fe (put x)=some (val x,put x))->(∀x∈xs,noOwn (put x)=true)->(Z=n\/∃y,Z=put y) ->
  ∃j,compLoop g fc fe xs h Z=some (h++(xs.filter keep).map val,j)
 | [],h,Z,_,_,_,_,_,_=>⟨Z,by simp[compLoop]⟩
 | x::xs,h,Z,C,p,q,t,u,hd=>by
  simp at C;have v:=p x (fm ..) Z hd;have z:=q x (fm ..);have A:=u x (fm ..);have k:=λl (B:l.length+xs.length<=dk)=>CW put keep val xs l (put x) B (λy i=>p y (gf _ i)) (λy i=>q y (gf _ i)) (λy i=>t y (gf _ i)) (λy i=>u y (gf _ i)) (.inr ⟨x,rfl⟩)
  cases m:keep x with
  | false =>
   obtain⟨j,e⟩:=k h (by omega)
   refine⟨j,?_⟩;show (g x Z).bind _=_;rw[v];show (fc (put x)).bind _=_;rw[z,m];show (if noOwn (put x)=true then compLoop g fc fe xs h (put x) else none)=_
   rw[if_pos A,e,z7,m];simp
  | true =>
   obtain⟨j,e⟩:=k (h++[val x]) (by rw[eH];simp;omega)
   refine⟨j,?_⟩;show (g x Z).bind _=_;rw[v];show (fc (put x)).bind _=_;rw[z,m];show (fe (put x)).bind _=_;rw[t x (fm ..) m];show (if h.length<dk/\noOwn (put x)=true then _ else none)=_
   rw[if_pos ⟨by omega,A⟩,e,z7,m]
   simp
def WE(e:EF)(Z:DS)(Q:Res->DS->Prop):Prop:=∃r Z1,e Z=some (r,Z1)/\Q r Z1
def WD(f:DF)(Z:DS)(Q:Dat->DS->Prop):Prop:=∃d Z1,f Z=some (d,Z1)/\Q d Z1
def WA(a:AF)(Z:DS)(Q:List Dat->DS->Prop):Prop:=∃ds Z1,a Z=some (ds,Z1)/\Q ds Z1
def OH{Q:Res->DS->Prop}(h:e Z=some (r,Z1))(q:Q r Z1):WE e Z Q:=⟨r,Z1,h,q⟩
def qN{Q:Dat->DS->Prop}(h:f Z=some (d,Z1))(q:Q d Z1):WD f Z Q:=⟨d,Z1,h,q⟩
def Dc{Q:Res->DS->Prop}(h:WD f Z λd Z1=>Q (.dat d) Z1):WE (pT f) Z Q:=by
 obtain⟨d,Z1,i,q⟩:=h;exact⟨_,Z1,v_res i,q⟩
def Nk{Q:Dat->DS->Prop}(h:WE e Z λr Z1=>Q r.val Z1):WD (jf e) Z Q:=by
 obtain⟨r,Z1,i,q⟩:=h;exact⟨_,Z1,af i rfl,q⟩
def Qg{Q:List Dat->DS->Prop}(q:Q [] Z):WA mC Z Q:=⟨_,_,rfl,q⟩
def Ll{Q:List Dat->DS->Prop}(h:WD f Z λd Z1=>WA a Z1 λds Z2=>Q (d::ds) Z2):WA (iY f a) Z Q:=by
 obtain⟨d,Z1,i,ds,Z2,j,q⟩:=h;exact⟨_,Z2,aa i j,q⟩
def Qv {Q:Res->DS->Prop}(h:WA a Z λds Z1=>∃r,fn ds=some r/\Q r Z1):WE (cg fn a) Z Q:=by
 obtain⟨ds,Z1,i,r,j,q⟩:=h;exact⟨r,Z1,aF i j,q⟩
def F2 (h:f Z=some (.lst ds,Z1))(i:dB ds=some ys)(j:sep.length<=16/\(ys.map (·.length)).sum+ys.length<=1048576):qC sep f Z=some (.str (XC sep ys),Z1):=by
 delta qC;simp[h];simp only[i];exact if_pos j
def DU (h:WE e Z λr Z1=>∃Z2,j4 i r Z1=some Z2/\Q (.next Z2)):WS (iI i e) Z Q:=by
 obtain⟨r,Z1,j,Z2,k,q⟩:=h;exact⟨_,qD j k,q⟩
def B8 (h:WE e Z λr Z1=>Q (.ret r Z1)):WS (nK e) Z Q:=by
 obtain⟨r,Z1,i,q⟩:=h;exact⟨_,uR i,q⟩
def N5{caps:List (Option Nat)}{kb j:Nat}{fi:IF}{g:GF}{fc:BF}{fe:DF}{xs:List Dat}{c0:Dat}{Q:Res->DS->Prop}(I:Nat->List Dat->DS->Prop)(t:fi Z=some (xs,Z1))(u:bu (some (kb,j)) caps Z1=Z2)(v:caps[kb]?=some (some j))(y:Z2[j]?=some (.io c0))(z:I 0 [] ((cv caps Z2).set kb (.io c0)))(A:xs.length<=dk)
 (st:∀(k:Nat) (x:Dat),xs[k]?=some x->∀h Z,I k h Z->∃Z1,g x Z=some Z1/\WB fc Z1 λb Z2=>(b=false->noOwn Z2=true/\I (k+1) h Z2)/\(b=true->WD fe Z2 λd Z3=>noOwn Z3=true/\I (k+1) (h++[d]) Z3))
 (m:∀h Z,I xs.length h Z->∃l,Z[kb]?=some (.io l)/\Q (.own (.lst h)) (Z2.set j (.io l))):WE (eN caps (some (kb,j)) fi g fc fe) Z Q:=by
 obtain⟨h,B,n,C⟩:=vc I xs 0 [] _ z (by simpa using A) (λk x D h Z i=>by
  rw[SS] at i ⊢;obtain⟨Z1,E,b,Z2,F,p,G⟩:=st k x D h Z i;refine⟨Z1,b,Z2,E,F,?_⟩;cases b
  ·exact .inl ⟨rfl,(p rfl).1,(p rfl).2⟩
  ·obtain⟨d,Z3,H,J,L⟩:=G rfl;exact .inr ⟨d,Z3,rfl,H,J,L⟩)
 rw[SS] at n;obtain⟨l,i,q⟩:=m h B n;exact⟨_,_,Hy t u v y C i rfl,q⟩
noncomputable def iL (n:Nat)(f:List h->Option i):List h->Option i:=λds=>if ds.length=n then f ds else none
def BH{i j:Type}{n:Nat}{f:List i->Option j}{ds:List i}(h:ds.length=n):iL n f ds=f ds:=if_pos h
def cx{x i:fk}{st:Wt}{f:eu}{p:lq}{N l:List fk}{k n:Nat}{fb:SF}{Spec:aS->Prop}(F:bw K x i st f p)(S:bH N l (aV st))(q:l.length=n)
 (t:∀(j:cA) (A:r0) (outer:List Zl) (s:ee) (H:Hp) (E:XK),cZ k (A.deeper (Xx i (aV st) s.heap.objs.size f j))->gQ (jI a8 P w K mg base N i (aV st) f j A outer s H E).k9 (jg st) fb)
 (m:Spec (iL n (iO N.length fb))):∃fn,bb P w K mg base a8 (k+1) f p l (aN K fn)/\Spec fn:=by
 refine⟨_,Mc F S ?_ t ?_,m⟩
 ·intro ds r h;unfold iL at h;split at h
  ·rename_i e;simp only[e,q]
  ·exact nO h
 ·intro ds r h;unfold iL at h;split at h
  ·exact h
  ·exact nO h
def p7{x i:fk}{st:Wt}{f:eu}{q:lq}{N m:List fk}{k n j:Nat}{fb:SF}{Spec:fN->Prop}(F:bw K x i st f q)(S:bH N m (aV st))(t:m.length=n+1)
 (u:∀(l:cA) (A:r0) (outer:List Zl) (s:ee) (H:Hp) (E:XK),cZ k (A.deeper (Xx i (aV st) s.heap.objs.size f l))->gQ (jI a8 P w K mg base N i (aV st) f l A outer s H E).k9 (jg st) fb)
 (p:Spec (λc=>iL n (lV N.length j fb c))):∃fn,bb P w K mg base a8 (k+1) f q m (dM K j fn)/\Spec fn:=by
 refine⟨_,Er F S ?_ u ?_,p⟩
 ·intro c ds r h;unfold iL at h;split at h
  ·rename_i e;rw[e,t]
  ·exact nO h
 ·intro c ds r h;unfold iL at h;split at h
  ·exact h
  ·exact nO h
def pz {P:Res->Prop}(i:ds.length=m)(h:WS s (iF n ds) λo=>∃r Z,o=.ret r Z/\P r):∃r,iL m (iO n s) ds=some r/\P r:=by
 rw[BH i];exact Ga h
def pR {P:Res->Dat->Prop}(k:ds.length=m)(h:WS s (jk n j c0 ds) λo=>∃r Z i,o=.ret r Z/\Z[j]?=some (.io i)/\P r i):∃r i,iL m (lV n j s c0) ds=some (r,i)/\P r i:=by
 rw[BH k];exact GA h
def dg (j:ds.length=m)(h:WS s (iF n ds) λo=>∃Z,o=.ret r Z):iL m (iO n s) ds=some r:=by
 obtain⟨i,e,z⟩:=pz j (h.mono λo ⟨Z,e⟩=>⟨r,Z,e,rfl⟩)
 rw[e,z]
def Pq{caps:List (Option Nat)}{fi:IF}{g:GF}{fc:BF}{fe:DF}{xs:List Dat}(put:Dat->DS)(keep:Dat->Bool)(val:Dat->Dat)(h:fi Z=some (xs,Z1))(i:bu none caps Z1=Z2)(j:xs.length<=dk)
 (k:∀x∈xs,∀Z,(Z=cv caps Z2\/∃y,Z=put y)->g x Z=some (put x))(l:∀x∈xs,fc (put x)=some (keep x,put x))(m:∀x∈xs,keep x=true->fe (put x)=some (val x,put x))(n:∀x∈xs,noOwn (put x)=true) :
  eN caps none fi g fc fe Z=some (.own (.lst ((xs.filter keep).map val)),Z2):=by
 obtain⟨Z',e⟩:=CW put keep val xs [] (cv caps Z2) (by simpa using j) k l m n (.inl rfl)
 exact A4 h i e
def OY (h:f Z=some (.str x,Z1))(i:x.cps.all (·<128)=true):kn f Z=some (x.cps.toList.map λc=>.str ⟨#[c]⟩,Z1):=by
 delta kn;rw[h];exact if_pos i
def LY (h:f Z=some (.str x,Z1))(i:x.cps.all (·<128)=true):alt (jJ f) (kn f) Z=some (x.cps.toList.map λc=>.str ⟨#[c]⟩,Z1):=by
 refine tz ?_ (OY h i);delta jJ;rw[h];rfl
def cS(h:f Z=some (.lst ds,Z1)):alt (jJ f) (kn f) Z=some (ds,Z1):=by
 refine gg ?_;delta jJ;rw[h];rfl
theorem rQ (f):∀cs:List h,jM (cs.map λc=>.bl (f c))=some (cs.map f)
 | []=>rfl
 | c::cs=>by
  simp only[ka,jM,rQ f cs];rfl
end
def kz (h:b=a):∃c,Out.ret (.dat (.bl b)) Z=.ret (.dat (.bl a)) c:=⟨Z,by rw[h]⟩
def CO (h:WD f Z λd Z1=>∃b,d=.bl b/\(b=true->WD g Z1 Q)/\(b=false->Q (.bl false) Z1)):WD (j6 f g) Z Q:=by
 obtain⟨d,Z1,e,b,rfl,a,c⟩:=h;cases b
 ·exact⟨_,Z1,by unfold j6;rw[e];rfl,c rfl⟩
 ·obtain⟨d',Z2,i,q⟩:=a rfl;exact⟨d',Z2,by unfold j6;rw[e];exact i,q⟩
def IX(a):cJ (.bl a) (.bl a)=true:=by
 show zb (.bool a) (.bool a)=true;simp only[zb];simp
def lH (h:a Z=some ([.int n],Z1))(b:-(2 ^ 62)<=n/\n<2 ^ 62):qK a Z=some (dH 0 n,Z1):=by
 delta qK;rw[h];exact if_pos b
structure Ob where
 l:Int
 b:Int
 r:Int
 t:Int
deriving DecidableEq
def Ob.ok(x:Ob):Prop:=x.l<x.r/\x.b<x.t
def Ob.fK(x:Ob):Int:=(x.r-x.l)*(x.t-x.b)
def Apart(x y:Ob):Prop:=x.r<=y.l\/y.r<=x.l\/x.t<=y.b\/y.t<=x.b
noncomputable def mZ(i j:Int):Int:=if j<i then j else i
noncomputable def imax(i j:Int):Int:=if j>i then j else i
def Apart.symm (h:Apart x y):Apart y x:=by unfold Apart at *;lia
section
variable{α:Type}[DecidableEq α]
noncomputable abbrev KW(α):=List (α×Ob)
end
noncomputable def sm:Nat->(Nat->Nat)->Nat
 | 0,_=>0
 | n+1,f=>sm n f+f n
theorem xX(f g):∀n,sm n (λi=>f i+g i)=sm n f+sm n g
 | 0=>rfl
 | n+1=>by
  show sm n (λi=>f i+g i)+(f n+g n)=_
  rw[xX f g n];show _=(sm n f+f n)+(sm n g+g n)
  lia
theorem xF:∀{n},(∀i,i<n->f i<=g i)->sm n f<=sm n g
 | 0,_=>eT _
 | n+1,h=>Nat.add_le_add (xF λi hi=>h i (by lia)) (h n (by lia))
theorem uP:∀{n},(∀i,i<n->f i<=g i)->∀k,k<n->f k<g k->sm n f<sm n g
 | 0,_,k,a,_=>by lia
 | n+1,h,k,a,hl=>by
  show sm n f+f n<sm n g+g n
  by_cases e:k=n
  ·subst e;have:=xF (n:=k) λi b=>h i (by lia)
   lia
  ·have:=uP (n:=n) (λi b=>h i (by lia)) k (by lia) hl
   have:=h n (by lia)
   lia
theorem tY(c):∀n,sm n (λ_=>c)=n*c
 | 0=>by simp[sm]
 | n+1=>by
  show sm n _+c=_;simp only[tY c n,abM]
def Fn:∀n,sm n (λ_=>0)=0:=λn=>by rw[tY];simp
theorem Cs(a b c)(h:a<=b):∀n,b<=n->sm n (λi=>if a<=i/\i<b then c else 0)=(b-a)*c:=by
 have g:∀n,n<=a->sm n (λi=>if a<=i/\i<b then c else 0)=0:=λn=>by
  induction n with
  | zero=>intro _;rfl
  | succ n d =>
   intro j;show sm n _+(if a<=n/\n<b then c else 0)=0
   rw[d (by omega),if_neg (by omega)]
 have f:∀n,a<=n->n<=b->sm n (λi=>if a<=i/\i<b then c else 0)=(n-a)*c:=λn=>by
  induction n with
  | zero =>
   intro k _;have:a=0:=by lia
   simp[sm]
  | succ n d =>
   intro k h2;show sm n _+(if a<=n/\n<b then c else 0)=_
   by_cases e:a=n+1
   ·rw[g n (by omega),if_neg (by omega),e];simp
   ·rw[d (by lia) (by lia),if_pos (by lia),show n+1-a=(n-a)+1 by lia,abM]
 intro n;induction n with
 | zero =>
  intro j;rw[f 0 (by lia) (by lia)]
  have:b=0:=by lia
  rw[this]
 | succ n d =>
  intro j
  by_cases e:b=n+1
  ·rw[f (n+1) (by lia) (by lia),e]
  ·show sm n _+(if a<=n/\n<b then c else 0)=_
   rw[d (by lia),if_neg (by lia),Nat.add_zero]
def jt(o:Ob)(x y:Nat):Bool:=decide (o.l<=(x:Int))&&decide ((x:Int)<o.r)&&decide (o.b<=(y:Int))&&decide ((y:Int)<o.t)
def nV:jt o x y=true ↔ o.l<=(x:Int)/\(x:Int)<o.r/\o.b<=(y:Int)/\(y:Int)<o.t:=by
 delta jt;grind
def iK(os:List Ob)(x y:Nat):Nat:=os.countP λo=>jt o x y
def gw(W H:Nat)(f:Nat->Nat->Nat):Nat:=sm W λx=>sm H λy=>f x y
def RP(W H)(f g):gw W H (λx y=>f x y+g x y)=gw W H f+gw W H g:=by
 delta gw;rw[<-xX];congr 1;funext x;exact xX _ _ H
def QE{W H:Nat}{o:Ob}(h1:0<=o.l)(h2:o.l<o.r)(h3:o.r<=W)(h4:0<=o.b)(h5:o.b<o.t)(h6:o.t<=H):(gw W H (λx y=>if jt o x y=true then 1 else 0):Int)=o.fK:=by
 have e:∀x:Nat,sm H (λy=>if jt o x y=true then 1 else 0)=if o.l.toNat<=x/\x<o.r.toNat then o.t.toNat-o.b.toNat else 0:=λx=>by
  by_cases a:o.l.toNat<=x/\x<o.r.toNat
  ·rw[if_pos a];have c:(λy=>if jt o x y=true then 1 else 0)=λy=>if o.b.toNat<=y/\y<o.t.toNat then 1 else 0:=by
    funext y
    by_cases d:o.b.toNat<=y/\y<o.t.toNat
    ·rw[if_pos d,if_pos (nV.mpr (by lia))]
    ·rw[if_neg d,if_neg (λz=>d (by have:=nV.mp z;omega))]
   rw[c,Cs _ _ _ (by lia) H (by lia),aab]
  ·rw[if_neg a];have c:(λy=>if jt o x y=true then 1 else 0)=λ_=>0:=by
    funext y;rw[if_neg (λz=>a (by have:=nV.mp z;omega))]
   rw[c,Fn]
 dsimp only[gw];rw[show (λx=>sm H (λy=>if jt o x y=true then 1 else 0))=λx=>if o.l.toNat<=x/\x<o.r.toNat then o.t.toNat-o.b.toNat else 0 from funext e,Cs _ _ _ (by lia) W (by lia)]
 simp;congr 1<;>lia
structure Within (W H:Nat) (o:Ob):Prop where
 l:0<=o.l
 w:o.l<o.r
 r:o.r<=W
 b:0<=o.b
 h:o.b<o.t
 t:o.t<=H
theorem AR:∀{os:List Ob},(∀o∈os,Within W H o)->(gw W H (iK os):Int)=(os.map Ob.fK).sum
 | [],_=>by
  have:iK []=λ_ _=>0:=rfl
  delta gw;rw[this];simp[Fn]
 | o::os,h=>by
  have e:iK (o::os)=λx y=>(if jt o x y=true then 1 else 0)+iK os x y:=by
   funext x y;delta iK;simp[nL]
   lia
  have a:=h o (by simp)
  rw[e,RP,Int.natCast_add,QE a.l a.w a.r a.b a.h a.t,AR λp c=>h p (by simp[c])]
  simp
theorem BV{os:List Ob}(ap:os.Pairwise Apart)(x y:Nat):iK os x y<=1:=by
 delta iK;induction os with
 | nil=>simp
 | cons o os b =>
  rw[Wl] at ap;rw[nL]
  by_cases h:jt o x y=true
  ·rw[if_pos h];have:os.countP (λo=>jt o x y)=0:=by
    rw[v3];intro p c d;have a:=ap.1 p c;have:=nV.mp h;have:=nV.mp d;unfold Apart at a;omega
   lia
  ·rw[if_neg h];exact b ap.2
def filled{W H:Nat}{os:List Ob}(a:∀o∈os,Within W H o)(ap:os.Pairwise Apart)(ar:(os.map Ob.fK).sum=(W:Int)*H){x y:Int}(hx:0<=x)(hx':x<W)(hy:0<=y)(hy':y<H) :
  ∃o∈os,o.l<=x/\x<o.r/\o.b<=y/\y<o.t:=by
 refine ua λno=>?_
 have c:iK os x.toNat y.toNat=0:=by
  delta iK;rw[v3];intro p d e;have:=nV.mp e;exact no ⟨p,d,by omega⟩
 have g:=AR a;have lt:gw W H (iK os)<gw W H (λ_ _=>1):=by
  refine uP (λi _=>xF λj _=>BV ap i j) x.toNat (by omega) (uP (λj _=>BV ap _ j) y.toNat (by omega) ?_)
  rw[c];exact Nat.one_pos
 have one:gw W H (λ_ _=>1)=W*H:=by
  delta gw;rw[show (λ_:Nat=>sm H λ_=>1)=λ_=>H from funext λ_=>by rw[tY,aab],tY]
 omega
def cX(o:Ob):List (Int×Int):=[(o.l,o.b),(o.l,o.t),(o.r,o.b),(o.r,o.t)]
def dm(os:List Ob):List (Int×Int):=os.flatMap cX
structure Cuts (o:Ob) (os:List Ob):Prop where
 aK:∀x∈os,o.l<=x.l/\x.l<x.r/\x.r<=o.r/\o.b<=x.b/\x.b<x.t/\x.t<=o.t
 ap:os.Pairwise Apart
 ar:(os.map Ob.fK).sum=o.fK
def Cuts.one (h:o.ok):Cuts o [o]:=⟨λx a=>by
 cases kq.mp a;unfold Ob.ok at h
 lia,Xy _ _,by simp⟩
def wD{a:Type}{os:List a}{j:Nat}{x:a}(e:os[j]?=some x):os=os.take j++x::os.drop (j+1):=by
 obtain⟨h,e⟩:=cn.mp e;simp[<-e]
def Cuts.Hx{o x:Ob}{os d:List Ob}{j:Nat}(h:Cuts o os)(e:os[j]?=some x)(h':Cuts x d):Cuts o (os.take j++d++os.drop (j+1)):=by
 have m:=wD e;generalize os.take j=A at *;generalize os.drop (j+1)=B at *;subst m;obtain⟨g,k,n⟩:=h;obtain⟨i,p,q⟩:=h';rw[VV,Wl] at k;obtain⟨r,⟨l,s⟩,f⟩:=k;refine⟨λy b=>?_,?_,?_⟩
 ·rcases eK.mp b with b|b
  ·rcases eK.mp b with b|b
   ·exact g y (by simp[b])
   ·have:=g x (by simp)
    have:=i y b;omega
  ·exact g y (by simp[b])
 ·rw[VV,VV];refine⟨⟨r,p,λy b z c=>?_⟩,s,λy b z c=>?_⟩
  ·have a:=f y b x (by simp)
   have:=i z c;unfold Apart at *;omega
  ·rcases eK.mp b with b|b
   ·exact f y b z (by simp[c])
   ·have a:=l z c;have:=i y b;unfold Apart at *;omega
 ·simp only[eW,eW,YO,YO,q,<-n,eW,ka,YO,VJ]
  lia
def Cuts.up (h:o.ok)(h1:o.b<a)(h2:a<o.t):Cuts o [⟨o.l,o.b,o.r,a⟩,⟨o.l,a,o.r,o.t⟩]:=by
 delta Ob.ok at h;refine⟨λx c=>?_,?_,?_⟩
 ·simp at c
  rcases c with rfl|rfl<;>dsimp only<;>lia
 ·simp[Apart]
 ·simp[Ob.fK]
  grind
def Cuts.on (h:o.ok)(h1:o.l<a)(h2:a<o.r):Cuts o [⟨o.l,o.b,a,o.t⟩,⟨a,o.b,o.r,o.t⟩]:=by
 delta Ob.ok at h;refine⟨λx c=>?_,?_,?_⟩
 ·simp at c
  rcases c with rfl|rfl<;>dsimp only<;>lia
 ·simp[Apart]
 ·simp[Ob.fK]
  grind
def Cuts.Lh (h1:l<x)(h2:x<far)(h3:far<r)(h4:b<y)(h5:y<high)(h6:high<t):Cuts ⟨l,b,r,t⟩ [⟨l,b,far,y⟩,⟨far,b,r,high⟩,⟨x,high,r,t⟩,⟨l,y,x,t⟩,⟨x,y,far,high⟩]:=by
 refine⟨λx a=>?_,?_,?_⟩
 ·simp at a
  rcases a with rfl|rfl|rfl|rfl|rfl<;>dsimp only<;>lia
 ·simp only[Wl,f',hO,or_false,forall_eq_or_imp,forall_eq,Apart,Wc,and_true];refine⟨⟨?_,?_,?_,?_⟩,⟨?_,?_,?_⟩,⟨?_,?_⟩,?_,?_⟩<;>first|omega|simp
 ·simp[Ob.fK]
  grind
theorem LW{l a:List Int}(p:l.Perm a):l.sum=a.sum:=by
 induction p with
 | nil=>rfl
 | cons x _ b=>simp only[VJ,VJ,b]
 | swap x y l=>simp only[VJ];lia
 | trans _ _ c d=>simp only[c,d]
theorem Cuts.perm{o:Ob}{os b:List Ob}(h:Cuts o os)(p:b.Perm os):Cuts o b :=
 ⟨λx c=>h.aK x (p.mem_iff.mp c),p.symm.pairwise h.ap λ{x y} a=>by unfold Apart at *;lia,by rw[LW (p.map Ob.fK)];exact h.ar⟩
def ah(o:Ob):Ob:=⟨-o.t,o.l,-o.b,o.r⟩
noncomputable def ae:Nat->Ob->Ob
 | 0,o=>o
 | k+1,o=>ah (ae k o)
structure aA (bx:Ob) (os:List Ob):Prop where
 aK:∀o∈os,bx.l<=o.l/\o.l<o.r/\o.r<=bx.r/\bx.b<=o.b/\o.b<o.t/\o.t<=bx.t
 ap:∀x∈os,∀y∈os,x=y\/Apart x y
 hit:∀p q,bx.l<=p->p<bx.r->bx.b<=q->q<bx.t->∃o∈os,o.l<=p/\p<o.r/\o.b<=q/\q<o.t
 four:∀x∈os,∀n∈os,∀m∈os,∀z∈os,¬(n.r=x.r/\n.b=x.t/\m.l=x.r/\m.t=x.t/\z.l=x.r/\z.b=x.t)
def wN(a:Ob):Ob:=⟨a.l,a.t,a.r,a.t+1⟩
def wE(a:Ob):Ob:=⟨a.r,a.b,a.r+1,a.t⟩
def wS(a:Ob):Ob:=⟨a.l,a.b-1,a.r,a.b⟩
def wW(a:Ob):Ob:=⟨a.l-1,a.b,a.l,a.t⟩
noncomputable def walls(a:Ob):List Ob:=[wN a,wE a,wS a,wW a]
def KJ (h:ah x=ah y):x=y:=by
 cases x;cases y;simp only[ah,Ob.mk.injEq] at h ⊢
 lia
theorem iB:∀(k:Nat) {x y:Ob},ae k x=ae k y->x=y
 | 0,_,_,h=>h
 | k+1,_,_,h=>iB k (KJ h)
def aA.turn{k:Ob}{os:List Ob}(T:aA k os):aA (ah k) (os.map ah) where
 aK:=λo g=>by
  obtain⟨x,f,rfl⟩:=bg.mp g;have:=T.aK x f;simp[ah];omega
 ap:=λa i b j=>by
  obtain⟨x,f,rfl⟩:=bg.mp i;obtain⟨y,s,rfl⟩:=bg.mp j
  rcases T.ap x f y s with e|e
  ·exact .inl (by rw[e])
  ·right;delta Apart at *;simp only[ah]
   lia
 hit:=λp q t u l r=>by
  simp[ah] at t u l r;obtain⟨o,g,k1,k2,k3,k4⟩:=T.hit q (-p-1) l r (by lia) (by lia)
  refine⟨ah o,bg.mpr ⟨o,g,rfl⟩,?_⟩;simp[ah]
  lia
 four:=λa i b j c v d hd h=>by
  obtain⟨x,f,rfl⟩:=bg.mp i;obtain⟨n,w,rfl⟩:=bg.mp j;obtain⟨m,A,rfl⟩:=bg.mp v;obtain⟨z,B,rfl⟩:=bg.mp hd;simp[ah] at h;exact T.four m A x f z B n w (by lia)
def Up(x y:Ob):Prop:=y.b=x.t/\x.l<y.r/\y.l<x.r
instance {x y:Ob}:Decidable (Up x y):=by unfold Up;infer_instance
section
variable{bx:Ob}{os:List Ob}{x y z n m m':Ob}{α:Type}
def km(a:m∈walls bx)(i:bx.l<=x.l/\x.l<x.r/\x.r<=bx.r/\bx.b<=x.b/\x.b<x.t/\x.t<=bx.t)(u:Up x m):m=wN bx/\x.t=bx.t:=by
 obtain⟨d,i2,e,i4,i5,i6⟩:=i;obtain⟨c,f,g⟩:=u;simp[walls] at a
 rcases a with rfl|rfl|rfl|rfl
 ·exact⟨rfl,c.symm⟩
 ·exact absurd g (XZ.mpr e)
 ·exact absurd (show bx.b-1=x.t from c) (by lia)
 ·exact absurd f (XZ.mpr d)
def mq(a:m∈walls bx)(i:bx.l<=x.l/\x.l<x.r/\x.r<=bx.r/\bx.b<=x.b/\x.b<x.t/\x.t<=bx.t)(u:Up (ah x) (ah m)):m=wE bx/\x.r=bx.r:=by
 obtain⟨i1,i2,i3,d,i5,e⟩:=i;obtain⟨c,f,g⟩:=u;simp[walls] at a
 rcases a with rfl|rfl|rfl|rfl
 ·exact absurd (Xi.mp (f)) (XZ.mpr e)
 ·exact⟨rfl,c.symm⟩
 ·exact absurd (Xi.mp (g)) (XZ.mpr d)
 ·exact absurd (show bx.l-1=x.r from c) (by lia)
def aA.cover(T:aA bx os)(c:x∈os)(d:x.t<bx.t)(h1:x.l<=p)(h2:p<x.r):∃y∈os,Up x y/\y.l<=p/\p<y.r:=by
 have ix:=T.aK x c;obtain⟨y,b,e,f,k3,k4⟩:=T.hit p x.t (by omega) (by omega) (by lia) d
 refine⟨y,b,?_,e,f⟩;delta Up
 rcases T.ap x c y b with rfl|a
 ·lia
 ·delta Apart at a
  lia
def aA.next(T:aA bx os)(e:x∈os)(f:x.t<bx.t)(c:y∈os)(u:Up x y)(h:y.r<x.r):∃z∈os,Up x z/\z.l=y.r:=by
 delta Up at u;obtain⟨z,b,d,k1,k2⟩:=T.cover e f (by lia) h
 refine⟨z,b,d,?_⟩;have iy:=T.aK y c;have iz:=T.aK z b;delta Up at d
 rcases T.ap y c z b with rfl|a
 ·lia
 ·delta Apart at a;omega
def aA.prev(T:aA bx os)(e:x∈os)(f:x.t<bx.t)(c:y∈os)(u:Up x y)(h:x.l<y.l):∃z∈os,Up x z/\z.r=y.l:=by
 delta Up at u;obtain⟨z,b,d,k1,k2⟩:=T.cover e f (p:=y.l-1) (by lia) (by lia)
 refine⟨z,b,d,?_⟩;have iy:=T.aK y c;have iz:=T.aK z b;delta Up at d
 rcases T.ap y c z b with rfl|a
 ·lia
 ·delta Apart at a;omega
def aA.tee(T:aA bx os)(e:x∈os)(b:n∈os)(c:m∈os)(un:Up x n)(en:x.r<=n.r)(f:Up (ah x) (ah m))(em:x.t<=m.t):(x.r<n.r/\m.t=x.t)\/(n.r=x.r/\x.t<m.t):=by
 have jn:=T.aK n b;have jm:=T.aK m c;delta Up at un f;simp only[ah] at f;have g:Apart n m:=by
  rcases T.ap n b m c with rfl|a
  ·omega
  ·exact a
 delta Apart at g
 by_cases h:n.r=x.r
 ·by_cases i:m.t=x.t
  ·exfalso;obtain⟨z,d,k1,k2,k3,k4⟩:=T.hit x.r x.t (by omega) (by lia) (by lia) (by lia)
   have j:Apart n z:=by
    rcases T.ap n b z d with rfl|a
    ·lia
    ·exact a
   have k:Apart m z:=by
    rcases T.ap m c z d with rfl|a
    ·lia
    ·exact a
   delta Apart at j k;exact T.four x e n b m c z d ⟨h,un.1,by lia,i,by lia,by lia⟩
  ·lia
 ·lia
def mh(x n m:Ob):Prop:=(Up x n/\Up x m/\n.r=m.l)\/(Up x n/\x.r<=n.r/\Up (ah x) (ah m)/\x.t<=m.t)
def cF(x n m:Ob):Prop:=∃k,k<4/\mh (ae k x) (ae k n) (ae k m)
def nz(o):ah (ah (ah (ah o)))=o:=by
 cases o;simp[ah]
theorem cF.up (h:cF (ah x) (ah n) (ah m)):cF x n m:=by
 obtain⟨k,hk,h⟩:=h;have e:∀(k:Nat) (o:Ob),ae k (ah o)=ae (k+1) o:=λk o=>by
  induction k with
  | zero=>rfl
  | succ k b=>show ah (ae k (ah o))=_;rw[b];rfl
 simp[e] at h
 by_cases c:k=3
 ·subst c;refine⟨0,by decide,?_⟩
  have a:∀o,ae (3+1) o=ae 0 o:=λo=>nz o
  simp[a] at h;exact h
 ·exact⟨k+1,by lia,h⟩
def aA.P6(T:aA bx os)(p:x∈os)(h:mh x n m)(c:n∈os\/n∈walls bx)(hm:m∈os\/m∈walls bx):(n∈os->cF n m x)/\(m∈os->cF m x n):=by
 have i:=T.aK x p;have no:∀{o:Ob},o∈os->o∈walls bx->False:=λ{o} h h'=>by
  have:=T.aK o h;simp[walls] at h'
  rcases h' with rfl|rfl|rfl|rfl<;>dsimp only[wN,wE,wS,wW] at this<;>omega
 rcases h with⟨un,d,e⟩|⟨un,q,d,em⟩
 ·have f:n∈os:=c.resolve_right λh=>by
   obtain⟨rfl,_⟩:=km h i un;have:=d.2.2;dsimp only[wN] at e;omega
  have g:m∈os:=hm.resolve_right λh=>by
   obtain⟨rfl,_⟩:=km h i d;have:=un.2.1;dsimp only[wN] at e;omega
  have r:=T.aK n f;have s:=T.aK m g;obtain⟨u,v,w⟩:=un;obtain⟨j,k,l⟩:=d;refine⟨λ_=>⟨1,by decide,.inr ?_⟩,λ_=>⟨2,by decide,.inr ?_⟩⟩
  ·dsimp only[ae,ah,Up]
   and_intros<;>first|assumption|exact Vy ‹_›|omega
  ·dsimp only[ae,ah,Up]
   and_intros<;>first|assumption|exact Vy ‹_›|omega
 ·rcases c with c|c<;>rcases hm with hm|hm
  ·have r:=T.aK n c;have s:=T.aK m hm;have t:=T.tee p c hm un q d em;obtain⟨u,v,w⟩:=un;obtain⟨j,k,l⟩:=d;dsimp only[ah] at j k l
   rcases t with⟨a,b⟩|⟨a,b⟩
   ·refine⟨λ_=>⟨2,by decide,.inl ?_⟩,λ_=>⟨3,by decide,.inr ?_⟩⟩
    ·dsimp only[ae,ah,Up]
     and_intros<;>first|assumption|exact Vy ‹_›|omega
    ·dsimp only[ae,ah,Up]
     and_intros<;>first|assumption|exact Vy ‹_›|omega
   ·refine⟨λ_=>⟨1,by decide,.inr ?_⟩,λ_=>⟨3,by decide,.inl ?_⟩⟩
    ·dsimp only[ae,ah,Up]
     and_intros<;>first|assumption|exact Vy ‹_›|omega
    ·dsimp only[ae,ah,Up]
     and_intros<;>first|assumption|exact Vy ‹_›|omega
  ·have r:=T.aK n c;obtain⟨rfl,A⟩:=mq hm i d;obtain⟨u,v,w⟩:=un;refine⟨λ_=>⟨1,by decide,.inr ?_⟩,λg=>(no g hm).elim⟩
   dsimp only[ae,ah,Up,wE] at em ⊢
   and_intros<;>first|assumption|exact Vy ‹_›|omega
  ·have s:=T.aK m hm;obtain⟨rfl,A⟩:=km c i un;obtain⟨j,k,l⟩:=d;refine⟨λf=>(no f c).elim,λ_=>⟨3,by decide,.inr ?_⟩⟩
   dsimp only[ae,ah,Up,wN] at q j k l ⊢
   and_intros<;>first|assumption|exact Vy ‹_›|omega
  ·exact⟨λf=>(no f c).elim,λg=>(no g hm).elim⟩
def jh (a:x.l=y.l)(c:x.b=y.b)(d:x.r=y.r)(e:x.t=y.t):x=y:=by
 cases x;simp_all
def GY (h:o∈walls bx):ah o∈walls (ah bx):=by
 have h:o=wN bx\/o=wE bx\/o=wS bx\/o=wW bx:=by simpa[walls] using h
 rcases h with rfl|rfl|rfl|rfl
 ·rw[show ah (wN bx)=wW (ah bx) from jh (by simp only[ah,wN,wW]<;>lia) (by simp only[ah,wN,wW]<;>omega) (by simp only[ah,wN,wW]<;>omega) (by simp only[ah,wN,wW]<;>omega)];simp[walls]
 ·rw[show ah (wE bx)=wN (ah bx) from jh (by simp only[ah,wE,wN]<;>omega) (by simp only[ah,wE,wN]<;>omega) (by simp only[ah,wE,wN]<;>omega) (by simp only[ah,wE,wN]<;>omega)];simp[walls]
 ·rw[show ah (wS bx)=wE (ah bx) from jh (by simp only[ah,wS,wE]<;>omega) (by simp only[ah,wS,wE]<;>omega) (by simp only[ah,wS,wE]<;>lia) (by simp only[ah,wS,wE]<;>omega)];simp[walls]
 ·rw[show ah (wW bx)=wS (ah bx) from jh (by simp only[ah,wW,wS]<;>omega) (by simp only[ah,wW,wS]<;>omega) (by simp only[ah,wW,wS]<;>omega) (by simp only[ah,wW,wS]<;>omega)];simp[walls]
theorem aA.turns (T:aA bx os):∀k,aA (ae k bx) (os.map (ae k))
 | 0=>by
  show aA bx (os.map λo=>o)
  rw[Wv];exact T
 | k+1=>by
  have:=(T.turns k).turn;rw[gd] at this;exact this
theorem sG (h:o∈walls bx):∀k,ae k o∈walls (ae k bx)
 | 0=>h
 | k+1=>GY (sG h k)
theorem cF.ups:∀(k:Nat) {x n m:Ob},cF (ae k x) (ae k n) (ae k m)->cF x n m
 | 0,_,_,_,h=>h
 | k+1,_,_,_,h=>cF.ups k (cF.up h)
def aA.close(T:aA bx os)(d:x∈os)(h:cF x n m)(e:n∈os\/n∈walls bx)(f:m∈os\/m∈walls bx):(n∈os->cF n m x)/\(m∈os->cF m x n):=by
 obtain⟨k,hk,h⟩:=h;have c:∀{o:Ob},o∈os->ae k o∈os.map (ae k):=λ{o} h=>bg.mpr ⟨o,h,rfl⟩
 have up:∀{o:Ob},(o∈os\/o∈walls bx)->(ae k o∈os.map (ae k)\/ae k o∈walls (ae k bx)):=λ{o} h=>h.imp c (λh=>sG h k)
 obtain⟨a,b⟩:=(T.turns k).P6 (c d) h (up e) (up f);exact⟨λz=>cF.ups k (a (c z)),λz=>cF.ups k (b (c z))⟩
def Nb(bx:Ob)(os:List Ob)(o:Ob):Prop:=o∈os\/o∈walls bx
def Nb.ok(T:aA bx os)(a:bx.ok)(h:Nb bx os n):n.l<n.r/\n.b<n.t:=by
 delta Ob.ok at a
 rcases h with h|h
 ·have:=T.aK n h;lia
 ·have h:n=wN bx\/n=wE bx\/n=wS bx\/n=wW bx:=by simpa[walls] using h
  rcases h with rfl|rfl|rfl|rfl<;>simp only[wN,wE,wS,wW]<;>lia
def Nb.ap(T:aA bx os)(a:bx.ok)(h:Nb bx os n)(h':Nb bx os m):n=m\/Apart n m:=by
 have wl:∀{o:Ob},o∈walls bx->o=wN bx\/o=wE bx\/o=wS bx\/o=wW bx:=λ{o} h=>by simpa[walls] using h
 delta Apart;delta Ob.ok at a
 rcases h with h|h<;>rcases h' with h'|h'
 ·exact T.ap n h m h'
 ·have i:=T.aK n h;right
  rcases wl h' with rfl|rfl|rfl|rfl<;>simp only[wN,wE,wS,wW]<;>omega
 ·have i:=T.aK m h';right
  rcases wl h with rfl|rfl|rfl|rfl<;>simp only[wN,wE,wS,wW]<;>omega
 ·rcases wl h with rfl|rfl|rfl|rfl<;>rcases wl h' with rfl|rfl|rfl|rfl<;>first|exact .inl rfl|(right;simp only[wN,wE,wS,wW];omega)
def KP(hx:x.l<x.r/\x.b<x.t)(om:m.l<m.r/\m.b<m.t)(om':m'.l<m'.r/\m'.b<m'.t)(ap:m=m'\/Apart m m')(h:mh x n m)(h':mh x n m'):m=m':=by
 rcases ap with e|a
 ·exact e
 ·delta mh Up Apart at *;simp[ah] at *;omega
def Dm (hk:k<4)(hj:j<4)(ox:x.l<x.r/\x.b<x.t)(on:n.l<n.r/\n.b<n.t)(h:Up (ae k x) (ae k n))(h':Up (ae j x) (ae j n)):k=j:=by
 have a:k=0\/k=1\/k=2\/k=3:=by lia
 have c:j=0\/j=1\/j=2\/j=3:=by lia
 delta Up at *
 rcases a with rfl|rfl|rfl|rfl<;>rcases c with rfl|rfl|rfl|rfl<;>first|rfl|(exfalso;simp only[ae,ah] at *;lia)
theorem D9(k)(h:n=m\/Apart n m):ae k n=ae k m\/Apart (ae k n) (ae k m):=by
 rcases h with h|h
 ·exact .inl (by rw[h])
 ·right;induction k with
  | zero=>exact h
  | succ k ih =>
   show Apart (ah (ae k n)) (ah (ae k m));unfold Apart at *;simp only[ah]
   lia
theorem lZ(k)(h:n.l<n.r/\n.b<n.t):(ae k n).l<(ae k n).r/\(ae k n).b<(ae k n).t:=by
 induction k with
 | zero=>exact h
 | succ k ih =>
  simp only[ae,ah]
  lia
def mh.up (h:mh x n m):Up x n:=by
 rcases h with⟨h,_⟩|⟨h,_⟩<;>exact h
def aA.JG(T:aA bx os)(a:bx.ok)(f:x∈os)(g:Nb bx os n)(d:Nb bx os m)(c:Nb bx os m')(h:cF x n m)(h':cF x n m'):m=m':=by
 obtain⟨k,i,h⟩:=h;obtain⟨j,o,h'⟩:=h';have e:=Nb.ok T a (.inl f);have:=Dm i o e (Nb.ok T a g) h.up h'.up;subst this;exact iB k (KP (lZ k e) (lZ k (Nb.ok T a d)) (lZ k (Nb.ok T a c)) (D9 k (Nb.ap T a d c)) h h')
def bM(N:List Ob)(x:Ob)(k:Nat):List Ob:=(N.filter λy=>decide (Up (ae k x) (ae k y))).mergeSort λa b=>decide ((ae k a).l<=(ae k b).l)
def br(N:List Ob)(x:Ob):List Ob:=bM N x 0++bM N x 1++bM N x 2++bM N x 3
def gv:y∈bM N x k ↔ y∈N/\Up (ae k x) (ae k y):=by
 delta bM;simp
def Ik{N:List Ob}{x:Ob}{k:Nat}{i j:Nat}{a b:Ob}(hij:i<=j)(h:(bM N x k)[i]?=some a)(d:(bM N x k)[j]?=some b):(ae k a).l<=(ae k b).l:=by
 by_cases e:i=j
 ·subst e;rw[h] at d;obtain rfl:=sO d;exact Wr _
 ·have:=wm (le:=λa b=>decide ((ae k a).l<=(ae k b).l)) (λa b c o p=>by
   simp at *
   lia) (λa b=>by
   lia) (N.filter λy=>decide (Up (ae k x) (ae k y)))
  obtain⟨o,f⟩:=cn.mp h;obtain⟨p,g⟩:=cn.mp d;have:=qe.mp this i j o p (by lia)
  rw[decide_eq_true_eq] at this;rw[<-f,<-g];exact this
def aA.PV(T:aA bx os)(K:bx.ok)(w:x∈os)(A:∀y,y∈l ↔ Nb bx os y/\Up x y)(nd:l.Nodup)(hs:∀(i j:Nat) a b,i<=j->l[i]?=some a->l[j]?=some b->a.l<=b.l) :
  l≠[]/\(∀(i:Nat) a b,l[i]?=some a->l[i+1]?=some b->a.r=b.l)/\(∀a,l[0]?=some a->a.l<=x.l)/\(∀a,l[l.length-1]?=some a->x.r<=a.r):=by
 have ix:=T.aK x w;have wl:∀{o:Ob},o∈walls bx->o=wN bx\/o=wE bx\/o=wS bx\/o=wW bx:=λ{o} h=>by simpa[walls] using h
 by_cases C:x.t<bx.t
 ·have room:∀y∈l,y∈os/\Up x y:=λy B=>by
   obtain⟨f,d⟩:=(A y).mp B;refine⟨?_,d⟩
   rcases f with h|h
   ·exact h
   ·exfalso;delta Up at d
    rcases wl h with rfl|rfl|rfl|rfl<;>simp only[wN,wE,wS,wW] at d<;>omega
  have at_:∀{z:Ob},z∈os->Up x z->∃j,l[j]?=some z:=λ{z} k s=>by
   obtain⟨j,g,e⟩:=nR ((A z).mpr ⟨.inl k,s⟩);exact⟨j,by rw[cm g,e]⟩
  refine⟨?_,?_,?_,?_⟩
  ·obtain⟨y,B,L,_⟩:=T.cover w C (p:=x.l) (by lia) (by omega)
   exact λz=>by
    have:=(A y).mpr ⟨.inl B,L⟩;rw[z] at this;cases this
  ·intro i a b c u;obtain⟨q,v⟩:=room a (eS c);obtain⟨F,G⟩:=room b (eS u);have M:=T.aK a q;have jb:=T.aK b F;have H:a≠b:=λe=>by
    subst e;have f:=(cn.mp c);have d:=(cn.mp u);obtain⟨f,D⟩:=f;obtain⟨d,E⟩:=d;have:=qe.mp nd i (i+1) f d (by lia)
    simp only[D,E] at this;exact this rfl
   have sab:=hs i (i+1) a b (by lia) c u
   have ap:=(T.ap a q b F).resolve_left H;have hle:a.r<=b.l:=by
    unfold Apart at ap;delta Up at v G;omega
   obtain⟨z,k,s,I⟩:=T.next w C q v (by unfold Up at G;omega)
   obtain⟨j,g⟩:=at_ k s
   by_cases J:j<=i
   ·have:=hs j i z a J g c;omega
   ·have:=hs (i+1) j b z (by lia) u g
    lia
  ·intro a c;obtain⟨q,v⟩:=room a (eS c);refine ua λh=>?_
   obtain⟨z,k,s,I⟩:=T.prev w C q v (by lia)
   obtain⟨j,g⟩:=at_ k s;have:=hs 0 j a z (by lia) c g
   have jz:=T.aK z k;omega
  ·intro a c;obtain⟨q,v⟩:=room a (eS c);refine ua λh=>?_
   obtain⟨z,k,s,I⟩:=T.next w C q v (by lia)
   obtain⟨j,g⟩:=at_ k s;have hjl:=(cn.mp g).1;have:=hs j (l.length-1) z a (by omega) g c
   have M:=T.aK a q;omega
 ·have only:∀y∈l,y=wN bx:=λy B=>by
   obtain⟨f,d⟩:=(A y).mp B;delta Up at d
   rcases f with h|h
   ·have:=T.aK y h;omega
   ·rcases wl h with rfl|rfl|rfl|rfl
    ·rfl
    all_goals exfalso;simp only[wE,wS,wW] at d;lia
  have there:wN bx∈l:=(A _).mpr ⟨.inr (by simp[walls]),by delta Up wN;dsimp only;omega⟩
  refine⟨λz=>(by rw[z] at there;cases there),?_,?_,?_⟩
  ·intro i a b c u;exfalso;have N:=only a (eS c);have O:=only b (eS u);obtain⟨f,D⟩:=cn.mp c;obtain⟨d,E⟩:=cn.mp u;have:=qe.mp nd i (i+1) f d (by lia)
   simp only[D,E,N,O] at this;exact this rfl
  ·intro a c;rw[only a (eS c)];simp only[wN];omega
  ·intro a c;rw[only a (eS c)];simp only[wN];omega
theorem qA(k):Nb (ae k bx) (os.map (ae k)) (ae k y) ↔ Nb bx os y:=by
 have wl:∀k y,ae k y∈walls (ae k bx)->y∈walls bx:=λk=>by
  induction k with
  | zero=>exact λy h=>h
  | succ k j =>
   intro y h;refine j y ?_;have h:ah (ae k y)∈walls (ah (ae k bx)):=h;generalize ae k y=a at h;generalize ae k bx=c at h;have h:ah a=wN (ah c)\/ah a=wE (ah c)\/ah a=wS (ah c)\/ah a=wW (ah c):=by simpa[walls] using h
   have:a=wE c\/a=wS c\/a=wW c\/a=wN c:=by
    rcases h with h|h|h|h
    ·left;have d:=congrArg Ob.l h;have f:=congrArg Ob.b h;have g:=congrArg Ob.r h;have i:=congrArg Ob.t h;simp only[ah,wN] at d f g i;exact jh (by simp only[wE];omega) (by simp only[wE];omega) (by simp only[wE];omega) (by simp only[wE];omega)
    ·right;left;have d:=congrArg Ob.l h;have f:=congrArg Ob.b h;have g:=congrArg Ob.r h;have i:=congrArg Ob.t h;simp only[ah,wE] at d f g i;exact jh (by simp only[wS];omega) (by simp only[wS];lia) (by simp only[wS];omega) (by simp only[wS];lia)
    ·right;right;left;have d:=congrArg Ob.l h;have f:=congrArg Ob.b h;have g:=congrArg Ob.r h;have i:=congrArg Ob.t h;simp only[ah,wS] at d f g i;exact jh (by simp only[wW];omega) (by simp only[wW];omega) (by simp only[wW];omega) (by simp only[wW];omega)
    ·right;right;right;have d:=congrArg Ob.l h;have f:=congrArg Ob.b h;have g:=congrArg Ob.r h;have i:=congrArg Ob.t h;simp only[ah,wW] at d f g i;exact jh (by simp only[wN];omega) (by simp only[wN];lia) (by simp only[wN];omega) (by simp only[wN];lia)
   rcases this with rfl|rfl|rfl|rfl<;>simp[walls]
 constructor
 ·rintro (h|h)
  ·obtain⟨z,o,e⟩:=bg.mp h;rw[<-iB k e];exact .inl o
  ·exact .inr (wl k y h)
 ·rintro (h|h)
  ·exact .inl (bg.mpr ⟨y,h,rfl⟩)
  ·exact .inr (sG h k)
def kB(k:Nat)(h:bx.ok):(ae k bx).ok:=lZ k h
def xQ(k)(hk:k<4)(o):∃y,ae k y=o:=by
 have a:=nz;have b:k=0\/k=1\/k=2\/k=3:=by lia
 rcases b with rfl|rfl|rfl|rfl
 ·exact⟨o,rfl⟩
 ·exact⟨ah (ah (ah o)),a o⟩
 ·exact⟨ah (ah o),a o⟩
 ·exact⟨ah o,a o⟩
def aA.chain(T:aA bx os)(s:bx.ok)(t:x∈os)(nd:(os++walls bx).Nodup)(u:k<4):bM (os++walls bx) x k≠[]/\(∀(i:Nat) a b,(bM (os++walls bx) x k)[i]?=some a->(bM (os++walls bx) x k)[i+1]?=some b->(ae k a).r=(ae k b).l) /\
  (∀a,(bM (os++walls bx) x k)[0]?=some a->(ae k a).l<=(ae k x).l)/\(∀a,(bM (os++walls bx) x k)[(bM (os++walls bx) x k).length-1]?=some a->(ae k x).r<=(ae k a).r):=by
 have v:(bM (os++walls bx) x k).Nodup:=(ib _ _).nodup_iff.mpr (oi rp nd);have key:=(T.turns k).PV (kB k s) (bg.mpr ⟨x,t,rfl⟩) (λy=>by
  obtain⟨z,rfl⟩:=xQ k u y;rw[qA,bg];constructor
  ·rintro⟨w,hw,e⟩;rw[iB k e] at hw;obtain⟨f,g⟩:=gv.mp hw;exact⟨eK.mp f,g⟩
  ·rintro⟨f,g⟩;exact⟨z,gv.mpr ⟨eK.mpr f,g⟩,rfl⟩) (gs.mpr (v.imp λh e=>h (iB k e))) (λi j a b o c d=>by
  rw[cR] at c d;obtain⟨a',p,rfl⟩:=hH.mp c;obtain⟨b',q,rfl⟩:=hH.mp d;exact Ik o p q)
 obtain⟨A,B,C,D⟩:=key;refine⟨λz=>A (by rw[z];rfl),λi a b c d=>B i _ _ (by rw[cR,c];rfl) (by rw[cR,d];rfl),λa c=>C _ (by rw[cR,c];rfl),λa c=>D _ (by rw[ab,cR,c];rfl)⟩
def qS (R:α->α->Prop)(l:List α):Prop:=∀(i:Nat) a b,l[i]?=some a->l[i+1]?=some b->R a b
def vh (hA:qS R A)(f:qS R B)(h:∀a b,A[A.length-1]?=some a->B[0]?=some b->R a b):qS R (A++B):=by
 intro i a b c d
 by_cases g:i+1<A.length
 ·rw[l4 (by omega)] at c
  rw[l4 g] at d;exact hA i a b c d
 ·by_cases j:i<A.length
  ·have e:i=A.length-1:=by omega
   rw[l4 j,e] at c;rw[lz (by omega),show i+1-A.length=0 from by omega] at d
   exact h a b c d
  ·rw[lz (by omega)] at c d
   exact f (i-A.length) a b c (by rw[show i-A.length+1=i+1-A.length from by omega];exact d)
def xm (a:B≠[]):(A++B)[(A++B).length-1]?=B[B.length-1]?:=by
 have:=qo.mpr a;rw[lz (by rw[eH];omega),eH]
 congr 1
 lia
def Rl (hA:A≠[]):(A++B)[0]?=A[0]?:=by
 have:=qo.mpr hA;rw[l4 this]
def aA.rN(T:aA bx os)(f:bx.ok)(g:x∈os)(nd:(os++walls bx).Nodup)(c:k<4):qS (cF x) (bM (os++walls bx) x k):=by
 intro i a b d e;refine⟨k,c,.inl ⟨(gv.mp (eS d)).2,(gv.mp (eS e)).2,(T.chain f g nd c).2.1 i a b d e⟩⟩
def aA.uh(T:aA bx os)(d:bx.ok)(e:x∈os)(nd:(os++walls bx).Nodup)(f:k<4)(i:j<4)(c:∀o,ae j o=ah (ae k o))(g:(bM (os++walls bx) x k)[(bM (os++walls bx) x k).length-1]?=some a)(h:(bM (os++walls bx) x j)[0]?=some b):cF x a b:=by
 refine⟨k,f,.inr ⟨(gv.mp (eS g)).2,(T.chain d e nd f).2.2.2 a g,?_,?_⟩⟩
 ·simp[<-c];exact (gv.mp (eS h)).2
 ·have:=(T.chain d e nd i).2.2.1 b h;rw[c,c] at this;simp[ah] at this
  lia
def aA.wK(T:aA bx os)(c:bx.ok)(d:x∈os)(nd:(os++walls bx).Nodup)(f:(br (os++walls bx) x)[i]?=some a)(g:(br (os++walls bx) x)[(i+1)%(br (os++walls bx) x).length]?=some b):cF x a b:=by
 have t:=(T.chain c d nd (k:=0) (by decide)).1
 have u:=(T.chain c d nd (k:=1) (by decide)).1
 have v:=(T.chain c d nd (k:=2) (by decide)).1
 have w:=(T.chain c d nd (k:=3) (by decide)).1
 have l:∀a b,(bM (os++walls bx) x 0)[(bM (os++walls bx) x 0).length-1]?=some a->(bM (os++walls bx) x 1)[0]?=some b->cF x a b:=λa b=>T.uh c d nd (by decide) (by decide) λo=>rfl
 have p:∀a b,(bM (os++walls bx) x 1)[(bM (os++walls bx) x 1).length-1]?=some a->(bM (os++walls bx) x 2)[0]?=some b->cF x a b:=λa b=>T.uh c d nd (by decide) (by decide) λo=>rfl
 have q:∀a b,(bM (os++walls bx) x 2)[(bM (os++walls bx) x 2).length-1]?=some a->(bM (os++walls bx) x 3)[0]?=some b->cF x a b:=λa b=>T.uh c d nd (by decide) (by decide) λo=>rfl
 have r:∀a b,(bM (os++walls bx) x 3)[(bM (os++walls bx) x 3).length-1]?=some a->(bM (os++walls bx) x 0)[0]?=some b->cF x a b:=λa b=>T.uh c d nd (k:=3) (j:=0) (by decide) (by decide) λo=>(nz o).symm
 have s:qS (cF x) (br (os++walls bx) x):=by
  refine vh (vh (vh (T.rN c d nd (by decide)) (T.rN c d nd (by decide)) l) (T.rN c d nd (by decide)) λa b f g=>?_) (T.rN c d nd (by decide)) λa b f g=>?_
  ·rw[xm u] at f;exact p a b f g
  ·rw[xm v] at f;exact q a b f g
 have hi:=(cn.mp f).1
 by_cases h:i+1<(br (os++walls bx) x).length
 ·rw[Vx h] at g;exact s i a b f g
 ·have e:i+1=(br (os++walls bx) x).length:=by lia
  rw[e,XU] at g;have B:i=(br (os++walls bx) x).length-1:=by lia
  rw[B] at f;refine r a b ?_ ?_
  ·have:=xm (A:=bM (os++walls bx) x 0++bM (os++walls bx) x 1++bM (os++walls bx) x 2) w;rw[<-this];exact f
  ·have C:(br (os++walls bx) x)[0]?=(bM (os++walls bx) x 0)[0]?:=by
    delta br;rw[pe,pe,Rl t]
   rw[<-C];exact g
def iq:y∈br N x ↔ y∈N/\∃k,k<4/\Up (ae k x) (ae k y):=by
 delta br;simp only[eK,gv,gv,gv,gv];constructor
 ·rintro (((h|h)|h)|h)
  ·exact⟨h.1,0,by decide,h.2⟩
  ·exact⟨h.1,1,by decide,h.2⟩
  ·exact⟨h.1,2,by decide,h.2⟩
  ·exact⟨h.1,3,by decide,h.2⟩
 ·rintro⟨h,k,hk,u⟩;have a:k=0\/k=1\/k=2\/k=3:=by lia
  rcases a with rfl|rfl|rfl|rfl
  ·exact .inl (.inl (.inl ⟨h,u⟩))
  ·exact .inl (.inl (.inr ⟨h,u⟩))
  ·exact .inl (.inr ⟨h,u⟩)
  ·exact .inr ⟨h,u⟩
def aA.GZ(T:aA bx os)(g:bx.ok)(i:x∈os)(nd:(os++walls bx).Nodup):(br (os++walls bx) x).Nodup:=by
 have f:∀k,(bM (os++walls bx) x k).Nodup:=λk=>(ib _ _).nodup_iff.mpr (oi rp nd)
 have o:=Nb.ok T g (.inl i);have eM:∀{j k:Nat},j<4->k<4->j≠k->∀a∈bM (os++walls bx) x j,∀b∈bM (os++walls bx) x k,a≠b:=λ{j k} p q h a c b d e=>by
  subst e;obtain⟨s,u⟩:=gv.mp c;obtain⟨h2,v⟩:=gv.mp d;exact h (Dm p q o (Nb.ok T g (eK.mp s)) u v)
 delta br;rw[nk,nk,nk];refine⟨⟨⟨f 0,f 1,eM (by decide) (by decide) (by decide)⟩,f 2,λa c b d=>?_⟩,f 3,λa c b d=>?_⟩
 ·rcases eK.mp c with c|c
  ·exact eM (by decide) (by decide) (by decide) a c b d
  ·exact eM (by decide) (by decide) (by decide) a c b d
 ·rcases eK.mp c with c|c
  ·rcases eK.mp c with c|c
   ·exact eM (by decide) (by decide) (by decide) a c b d
   ·exact eM (by decide) (by decide) (by decide) a c b d
  ·exact eM (by decide) (by decide) (by decide) a c b d
def bL (l:List α)(n m:α):Prop:=∃i,l[i]?=some n/\l[(i+1)%l.length]?=some m
def aA.dY(T:aA bx os)(b:bx.ok)(c:x∈os)(nd:(os++walls bx).Nodup)(d:Nb bx os n)(l:Nb bx os m):bL (br (os++walls bx) x) n m ↔ cF x n m:=by
 constructor
 ·rintro⟨i,o,p⟩;exact T.wK b c nd o p
 ·intro h;have q:n∈br (os++walls bx) x:=by
   obtain⟨k,r,f⟩:=h;exact iq.mpr ⟨eK.mpr d,k,r,f.up⟩
  obtain⟨i,s,e⟩:=nR q;have e:(br (os++walls bx) x)[i]?=some n:=by rw[cm s,e]
  have g:(i+1)%(br (os++walls bx) x).length<(br (os++walls bx) x).length:=Vd _ (by lia)
  have a:=cm g;generalize (br (os++walls bx) x)[(i+1)%(br (os++walls bx) x).length]=m' at a;have t:=T.wK b c nd e a;have j:=eK.mp (iq.mp (eS a)).1;have:=T.JG b c d l j h t;subst this;exact⟨i,e,a⟩
def aA.cornrZ(T:aA bx os)(d:bx.ok)(c:x∈os)(nd:(os++walls bx).Nodup)(h:bL (br (os++walls bx) x) n m):(n∈os->bL (br (os++walls bx) n) m x)/\(m∈os->bL (br (os++walls bx) m) x n):=by
 have e:Nb bx os n:=by
  obtain⟨i,f,_⟩:=h;exact eK.mp (iq.mp (eS f)).1
 have g:Nb bx os m:=by
  obtain⟨i,_,f⟩:=h;exact eK.mp (iq.mp (eS f)).1
 obtain⟨a,b⟩:=T.close c ((T.dY d c nd e g).mp h) e g;exact⟨λz=>(T.dY d z nd g (.inl c)).mpr (a z),λz=>(T.dY d z nd (.inl c) e).mpr (b z)⟩
noncomputable def ay (f:α->Nat):List α->Nat
 | []=>0
 | a::l=>f a+ay f l
theorem p6 (f):∀l b:List α,ay f (l++b)=ay f l+ay f b
 | [],b=>by simp[ay]
 | a::l,b=>by
  show f a+ay f (l++b)=f a+ay f l+ay f b;rw[p6 f l b]
  lia
theorem b8:∀{l:List α},(∀a∈l,f a=g a)->ay f l=ay g l
 | [],_=>rfl
 | a::l,h=>by
  show f a+ay f l=g a+ay g l;rw[h a (by simp),b8 λb c=>h b (by simp[c])]
theorem fX (f g):∀l:List α,ay (λa=>f a+g a) l=ay f l+ay g l
 | []=>rfl
 | a::l=>by
  show f a+g a+ay (λa=>f a+g a) l=f a+ay f l+(g a+ay g l)
  rw[fX f g l]
  lia
theorem qr (c):∀l:List α,ay (λ_=>c) l=c*l.length
 | []=>rfl
 | a::l=>by
  show c+ay (λ_=>c) l=c*(l.length+1)
  simp only[qr c l,Nat.mul_add]
  lia
theorem yL (p):∀l:List α,ay (λa=>if p a=true then 1 else 0) l=l.countP p
 | []=>rfl
 | a::l=>by
  show (if p a=true then 1 else 0)+ay (λa=>if p a=true then 1 else 0) l=_
  simp only[yL p l,nL]
  lia
theorem qI (p:α->d->Bool)(l:List α)(c:List d):ay (λa=>c.countP (p a)) l=ay (λb=>l.countP λa=>p a b) c:=by
 induction l with
 | nil =>
  show 0=_;simp[show ay (λb=>ZU (λa=>p a b) []) c=ay (λ_=>0) c from rfl,qr,Nat.zero_mul]
 | cons a l e =>
  show c.countP (p a)+ay (λa=>c.countP (p a)) l=_
  rw[e,<-yL,<-fX];refine b8 λb _=>?_
  simp[nL]
  lia
theorem ig (p q:α->Bool)(l:List α):l.countP p=(l.countP λa=>p a&&q a)+l.countP λa=>p a&&!q a:=by
 induction l with
 | nil=>rfl
 | cons a l b =>
  simp only[nL,b];cases p a<;>cases q a<;>simp<;>lia
theorem mM{α:Type}{p:α->Bool}{l:List α}(nd:l.Nodup)(ex:∃a∈l,p a=true)(un:∀a∈l,∀b∈l,p a=true->p b=true->a=b):l.countP p=1:=by
 induction l with
 | nil=>obtain⟨a,h,_⟩:=ex;cases h
 | cons c l j =>
  rw[pA] at nd;rw[nL]
  by_cases e:p c=true
  ·rw[if_pos e];have:l.countP p=0:=by
    rw[v3];intro b f i;have:=un c (by simp) b (by simp[f]) e i
    subst this;exact nd.1 f
   lia
  ·rw[if_neg e];obtain⟨a,d,g⟩:=ex
   rcases f'.mp d with rfl|d
   ·exact absurd g e
   ·rw[j nd.2 ⟨a,d,g⟩ λa d b f=>un a (by simp[d]) b (by simp[f])]
def aA.xP(T:aA bx os)(f:bx.ok)(c:Nb bx os z)(g:x∈os)(u:Up z x)(h1:z.l<=p)(h2:p<z.r):∃y∈os,Up z y/\y.l<=p/\p<y.r:=by
 have ix:=T.aK x g;have oz:=Nb.ok T f c;have wl:∀{o:Ob},o∈walls bx->o=wN bx\/o=wE bx\/o=wS bx\/o=wW bx:=λ{o} h=>by simpa[walls] using h
 have hb:bx.l<=z.l/\z.r<=bx.r/\bx.b<=z.t/\z.t<bx.t:=by
  delta Up at u
  rcases c with h|h
  ·have:=T.aK z h;omega
  ·rcases wl h with rfl|rfl|rfl|rfl<;>simp only[wN,wE,wS,wW] at u ⊢<;>omega
 obtain⟨y,d,i,j,k3,k4⟩:=T.hit p z.t (by omega) (by omega) (by omega) (by omega)
 refine⟨y,d,?_,i,j⟩;delta Up
 rcases Nb.ap T f c (.inl d) with e|a
 ·subst e
  lia
 ·delta Apart at a
  lia
def aA.firsts(T:aA bx os)(i:bx.ok)(nd:os.Nodup)(j:Nb bx os z):(os.countP λx=>decide (Up z x)&&decide (z.l<x.l))=os.countP λx=>decide (Up z x)&&decide (x.r<z.r):=by
 by_cases h:∃x∈os,Up z x
 ·obtain⟨x,g,u⟩:=h;have v:=Nb.ok T i j;have w:=ig (λx=>decide (Up z x)) (λx=>decide (z.l<x.l)) os
  have A:=ig (λx=>decide (Up z x)) (λx=>decide (x.r<z.r)) os
  have B:(os.countP λa=>decide (Up z a)&&!decide (z.l<a.l))=1:=by
   refine mM nd ?_ ?_
   ·obtain⟨y,k,o,C,D⟩:=T.xP i j g u (by lia) v.1
    exact⟨y,k,by simp[o];omega⟩
   ·intro a c b d e f;simp at e f;have E:=T.aK a c;have F:=T.aK b d;refine (T.ap a c b d).resolve_right λq=>?_
    unfold Apart at q;delta Up at e f;omega
  have G:(os.countP λa=>decide (Up z a)&&!decide (a.r<z.r))=1:=by
   refine mM nd ?_ ?_
   ·obtain⟨y,k,o,C,D⟩:=T.xP i j g u (p:=z.r-1) (by lia) (by lia)
    exact⟨y,k,by simp[o];lia⟩
   ·intro a c b d e f;simp at e f;have E:=T.aK a c;have F:=T.aK b d;refine (T.ap a c b d).resolve_right λq=>?_
    unfold Apart at q;delta Up at e f;omega
  simp[B] at w;rw[G] at A
  lia
 ·have s:∀q:Ob->Bool,(os.countP λx=>decide (Up z x)&&q x)=0:=λq=>by
   rw[v3];intro x g t;rw[ey,decide_eq_true_eq] at t;exact h ⟨x,g,t.1⟩
  simp[s]
def aA.Qr(T:aA bx os)(f:bx.ok)(A:x∈os){N:List Ob}(c:∀y,y∈N ↔ Nb bx os y)(nd:N.Nodup) :
  (N.countP λz=>decide (Up x z)&&decide (x.r<z.r))+(N.countP λz=>decide (Up (ah x) (ah z))&&decide ((ah z).l<(ah x).l))+(if x.t=bx.t/\x.r=bx.r then 1 else 0)=1:=by
 have i:=T.aK x A;have wl:∀{o:Ob},o∈walls bx->o=wN bx\/o=wE bx\/o=wS bx\/o=wW bx:=λ{o} h=>by simpa[walls] using h
 have O:wN bx∈N:=(c _).mpr (.inr (by simp[walls]))
 have P:wE bx∈N:=(c _).mpr (.inr (by simp[walls]))
 have R:∀a∈N,∀b∈N,(decide (Up x a)&&decide (x.r<a.r))=true->(decide (Up x b)&&decide (x.r<b.r))=true->a=b:=λa e b k d j=>by
  simp at d j;have F:=Nb.ok T f ((c a).mp e);have G:=Nb.ok T f ((c b).mp k);refine (Nb.ap T f ((c a).mp e) ((c b).mp k)).resolve_right λq=>?_
  unfold Apart at q;delta Up at d j;omega
 have S:∀a∈N,∀b∈N,(decide (Up (ah x) (ah a))&&decide ((ah a).l<(ah x).l))=true->(decide (Up (ah x) (ah b))&&decide ((ah b).l<(ah x).l))=true->a=b:=λa e b k d j=>by
  simp at d j;have F:=Nb.ok T f ((c a).mp e);have G:=Nb.ok T f ((c b).mp k);refine (Nb.ap T f ((c a).mp e) ((c b).mp k)).resolve_right λq=>?_
  unfold Apart at q;delta Up at d j;simp only[ah] at d j;omega
 obtain⟨n,B,un,Z⟩:∃n∈N,Up x n/\x.r<=n.r:=by
  by_cases U:x.t<bx.t
  ·obtain⟨y,H,I,V,k2⟩:=T.cover A U (p:=x.r-1) (by omega) (by lia)
   exact⟨y,(c y).mpr (.inl H),I,by lia⟩
  ·exact⟨wN bx,O,by delta Up wN;dsimp only;omega,by simp only[wN];omega⟩
 obtain⟨m,C,g,em⟩:∃m∈N,Up (ah x) (ah m)/\x.t<=m.t:=by
  by_cases U:x.r<bx.r
  ·obtain⟨y',W,I,V,k2⟩:=T.turn.cover (bg.mpr ⟨x,A,rfl⟩) (by simp only[ah];omega) (p:=(ah x).l) (by lia) (by simp only[ah];omega)
   obtain⟨y,H,rfl⟩:=bg.mp W;exact⟨y,(c y).mpr (.inl H),I,by simp only[ah] at V;lia⟩
  ·exact⟨wE bx,P,by unfold Up;simp only[ah,wE];omega,by simp only[wE];omega⟩
 have X:∀{q:Ob->Bool},(∃a∈N,q a=true)->(∀a∈N,∀b∈N,q a=true->q b=true->a=b)->N.countP q=1:=λex un=>mM nd ex un
 have c0:∀{q:Ob->Bool},(∀a∈N,q a≠true)->N.countP q=0:=λh=>v3.mpr h
 have D:∀a∈N,(decide (Up x a)&&decide (x.r<a.r))=true->a=n:=λa e d=>by
  simp at d;have F:=Nb.ok T f ((c a).mp e);have G:=Nb.ok T f ((c n).mp B);refine (Nb.ap T f ((c a).mp e) ((c n).mp B)).resolve_right λq=>?_
  unfold Apart at q;delta Up at d un;omega
 have E:∀a∈N,(decide (Up (ah x) (ah a))&&decide ((ah a).l<(ah x).l))=true->a=m:=λa e d=>by
  simp at d;have F:=Nb.ok T f ((c a).mp e);have G:=Nb.ok T f ((c m).mp C);refine (Nb.ap T f ((c a).mp e) ((c m).mp C)).resolve_right λq=>?_
  unfold Apart at q;delta Up at d g;simp only[ah] at d g;omega
 have s:x.r<n.r->(N.countP λz=>decide (Up x z)&&decide (x.r<z.r))=1:=λh=>X ⟨n,B,by simp[un,h]⟩ R
 have u:¬x.r<n.r->(N.countP λz=>decide (Up x z)&&decide (x.r<z.r))=0:=λh=>c0 λa e d=>by
  have:=D a e d;subst this;simp only[ey,decide_eq_true_eq] at d;exact h d.2
 have v:x.t<m.t->(N.countP λz=>decide (Up (ah x) (ah z))&&decide ((ah z).l<(ah x).l))=1:=λh=>X ⟨m,C,by simp only[ey,decide_eq_true_eq];exact⟨g,by simp only[ah];omega⟩⟩ S
 have w:¬x.t<m.t->(N.countP λz=>decide (Up (ah x) (ah z))&&decide ((ah z).l<(ah x).l))=0:=λh=>c0 λa e d=>by
  have:=E a e d;subst this;simp only[ey,decide_eq_true_eq] at d;have:=d.2;simp only[ah] at this
  lia
 rcases (c n).mp B with J|wn<;>rcases (c m).mp C with K|Y
 ·have jn:=T.aK n J;have jm:=T.aK m K;rw[if_neg (by unfold Up at un;omega)]
  rcases T.tee A J K un Z g em with⟨a,b⟩|⟨a,b⟩
  ·rw[s a,w (by lia)]
  ·rw[u (by lia),v b]
 ·have jn:=T.aK n J;obtain⟨rfl,L⟩:=mq Y i g;have M:=un.1;rw[u (by omega),v (by have:=g.2.1;dsimp only[ah,wE] at this ⊢;omega),if_neg (by omega)]
 ·have jm:=T.aK m K;obtain⟨rfl,L⟩:=km wn i un;have M:m.l=x.r:=g.1;rw[s (by have:=un.2.2;dsimp only[wN] at this ⊢;omega),w (by omega),if_neg (by omega)]
 ·obtain⟨rfl,M⟩:=km wn i un;obtain⟨rfl,L⟩:=mq Y i g;rw[u (by dsimp only[wN];omega),w (by dsimp only[wE];omega),if_pos ⟨M,L⟩]
def nf(k:Nat)(z x:Ob):Bool:=decide (Up (ae k z) (ae k x))&&decide ((ae k z).l<(ae k x).l)
def nl(k:Nat)(z x:Ob):Bool:=decide (Up (ae k z) (ae k x))&&decide ((ae k x).r<(ae k z).r)
def on(k:Nat)(z x:Ob):Bool:=decide (Up (ae k z) (ae k x))
def vQ(z x):Up z x ↔ Up (ah (ah x)) (ah (ah z)):=by
 delta Up;simp[ah]
 lia
noncomputable def ex(k:Nat)(x z:Ob):Bool:=decide (Up (ae k x) (ae k z))&&decide ((ae k x).r<(ae k z).r)
def st(k:Nat)(x z:Ob):Bool:=decide (Up (ae k x) (ae k z))&&decide ((ae k z).l<(ae k x).l)
def Hl(z x):nf 0 z x=ex 2 x z:=by
 delta nf ex;simp[show decide (Up (ae 0 z) (ae 0 x))=decide (Up (ae 2 x) (ae 2 z)) from decide_eq_decide.mpr (vQ z x)]
 congr 1;refine decide_eq_decide.mpr ?_;dsimp only[ae,ah]
 lia
def KD(z x):nl 0 z x=st 2 x z:=by
 delta nl st;simp[show decide (Up (ae 0 z) (ae 0 x))=decide (Up (ae 2 x) (ae 2 z)) from decide_eq_decide.mpr (vQ z x)]
 congr 1;refine decide_eq_decide.mpr ?_;dsimp only[ae,ah]
 lia
def mR(k)(o):ae (k+4) o=ae k o:=nz (ae k o)
theorem mf(j):∀(k:Nat) (o:Ob),ae (j+k) o=ae k (ae j o)
 | 0,_=>rfl
 | k+1,o=>by
  show ah (ae (j+k) o)=ah (ae k (ae j o));rw[mf j k o]
def Pb(k)(z x):nf k z x=ex (k+2) x z:=by
 have:=Hl (ae k z) (ae k x);assumption
def OS(k)(z x):nl k z x=st (k+2) x z:=by
 have:=KD (ae k z) (ae k x);assumption
def JR(k)(x z):ex (k+4) x z=ex k x z:=by unfold ex;rw[mR,mR]
def pd(k)(x z):st (k+4) x z=st k x z:=by unfold st;rw[mR,mR]
def uj(k:Nat){l:List Ob}(h:l.Nodup):(l.map (ae k)).Nodup:=gs.mpr (h.imp λa e=>a (iB k e))
def aA.Hf(T:aA bx os)(a:bx.ok)(nd:os.Nodup)(b:Nb bx os z)(k:Nat):os.countP (nf k z)=os.countP (nl k z):=by
 have:=(T.turns k).firsts (kB k a) (uj k nd) ((qA k).mpr b);simp at this;exact this
def aA.corner(T:aA bx os)(a:bx.ok)(b:x∈os)(nd:(os++walls bx).Nodup)(c:k<4) :
  (os++walls bx).countP (λz=>decide (Up (ae k x) (ae k z))&&decide ((ae k x).r<(ae k z).r))+(os++walls bx).countP (λz=>decide (Up (ae (k+1) x) (ae (k+1) z))&&decide ((ae (k+1) z).l<(ae (k+1) x).l))+(if (ae k x).t=(ae k bx).t/\(ae k x).r=(ae k bx).r then 1 else 0)=1:=by
 have:=(T.turns k).Qr (kB k a) (bg.mpr ⟨x,b,rfl⟩) (λy=>by
  obtain⟨z,rfl⟩:=xQ k c y;rw[qA,bg];constructor
  ·rintro⟨w,hw,e⟩;simp only[iB k e] at hw;exact eK.mp hw
  ·exact λh=>⟨z,eK.mpr h,rfl⟩) (uj k nd)
 simp only[t9] at this;exact this
def aA.outer(T:aA bx os)(i:bx.ok)(nd:os.Nodup)(k:Nat):ay (λx=>if (ae k x).t=(ae k bx).t/\(ae k x).r=(ae k bx).r then 1 else 0) os=1:=by
 have c:=T.turns k;have f:=kB k i;have e:ay (λx=>if (ae k x).t=(ae k bx).t/\(ae k x).r=(ae k bx).r then 1 else 0) os=os.countP λx=>decide ((ae k x).t=(ae k bx).t/\(ae k x).r=(ae k bx).r):=by
  rw[<-yL];exact b8 λa _=>by simp
 rw[e];unfold Ob.ok at f;refine mM nd ?_ ?_
 ·obtain⟨o,g,k1,k2,k3,k4⟩:=c.hit ((ae k bx).r-1) ((ae k bx).t-1) (by lia) (by lia) (by lia) (by lia)
  obtain⟨a,d,rfl⟩:=bg.mp g;have:=c.aK _ g;exact⟨a,d,by rw[decide_eq_true_eq];lia⟩
 ·intro a d b h j l;have ja:=c.aK _ (bg.mpr ⟨a,d,rfl⟩);have jb:=c.aK _ (bg.mpr ⟨b,h,rfl⟩);refine iB k ((c.ap _ (bg.mpr ⟨a,d,rfl⟩) _ (bg.mpr ⟨b,h,rfl⟩)).resolve_right λq=>?_)
  unfold Apart at q;lia
noncomputable def bY(f:Nat->Nat):Nat:=f 0+f 1+f 2+f 3
def yF (f:Nat->α->Nat)(l:List α):ay (λa=>bY λk=>f k a) l=bY λk=>ay (f k) l:=by
 delta bY;simp[fX]
def aA.pairs(T:aA bx os)(i:bx.ok)(nd:(os++walls bx).Nodup):2*ay (λz=>bY λk=>os.countP (nf k z)) (os++walls bx)+4=4*os.length:=by
 have e:=(nk.mp nd).1;have b:∀k,ay (λz=>os.countP (nf k z)) (os++walls bx)=ay (λx=>(os++walls bx).countP (ex (k+2) x)) os:=λk=>by
  rw[qI];refine b8 λx _=>?_
  congr 1;funext z;exact Pb k z x
 have d:∀k,ay (λz=>os.countP (nf k z)) (os++walls bx)=ay (λx=>(os++walls bx).countP (st (k+2) x)) os:=λk=>by
  rw[b8 (g:=λz=>os.countP (nl k z)) λz p=>T.Hf i e (eK.mp p) k,qI]
  refine b8 λx _=>?_
  congr 1;funext z;exact OS k z x
 have o:∀k x,(os++walls bx).countP (ex (k+4) x)=(os++walls bx).countP (ex k x):=λk x=>by
  congr 1;funext z;exact JR k x z
 have j:∀k x,(os++walls bx).countP (st (k+4) x)=(os++walls bx).countP (st k x):=λk x=>by
  congr 1;funext z;exact pd k x z
 have c:∀k,k<4->ay (λx=>(os++walls bx).countP (ex k x)) os+ay (λx=>(os++walls bx).countP (st (k+1) x)) os+1=os.length:=λk s=>by
  have a:=b8 (l:=os) (f:=λx=>(os++walls bx).countP (ex k x)+(os++walls bx).countP (st (k+1) x)+(if (ae k x).t=(ae k bx).t/\(ae k x).r=(ae k bx).r then 1 else 0)) (g:=λ_=>1) λx u=>T.corner i u nd s
  simp only[fX,qr,T.outer i e k,Nat.one_mul] at a;exact a
 have c1:=c 1 (by decide)
 have v:=c 3 (by decide)
 have a1:=b 1;have w:=b 2;have A:=b 3;have b0:=d 0;have B:=d 2;rw[b8 λx _=>o 0 x] at w
 rw[b8 (g:=λx=>(os++walls bx).countP (ex 1 x)) λx _=>o 1 x] at A
 rw[b8 (g:=λx=>(os++walls bx).countP (st 0 x)) λx _=>j 0 x] at B
 rw[b8 (g:=λx=>(os++walls bx).countP (st 0 x)) λx _=>j 0 x] at v
 rw[yF];dsimp only[bY];have z1:∀q,ay (λx=>(os++walls bx).countP (st (1+2) x)) os=q->ay (λx=>(os++walls bx).countP (st 3 x)) os=q:=λq h=>h
 lia
def aA.MX(T:aA bx os)(c:bx.ok)(nd:os.Nodup)(d:Nb bx os z)(h:∃x∈os,Up z x):(os.countP λx=>decide (Up z x))=(os.countP λx=>decide (Up z x)&&decide (z.l<x.l))+1:=by
 obtain⟨x,j,u⟩:=h;have k:=Nb.ok T c d;rw[ig (λx=>decide (Up z x)) (λx=>decide (z.l<x.l)) os]
 congr 1;refine mM nd ?_ ?_
 ·obtain⟨y,o,r,k1,k2⟩:=T.xP c d j u (by lia) k.1
  exact⟨y,o,by simp[r];omega⟩
 ·intro a e b f g i;simp at g i;have ja:=T.aK a e;have jb:=T.aK b f;refine (T.ap a e b f).resolve_right λq=>?_
  unfold Apart at q;delta Up at g i;omega
def aA.FL(T:aA bx os)(a:bx.ok)(nd:os.Nodup)(b:Nb bx os z)(k:Nat)(h:∃x∈os,on k z x=true):os.countP (on k z)=os.countP (nf k z)+1:=by
 have:=(T.turns k).MX (kB k a) (uj k nd) ((qA k).mpr b) (by
  obtain⟨x,c,u⟩:=h;exact⟨ae k x,bg.mpr ⟨x,c,rfl⟩,of_decide_eq_true u⟩)
 simp at this;exact this
def GL (h:∀x∈os,on k z x=false):os.countP (on k z)=0/\os.countP (nf k z)=0:=by
 constructor
 ·rw[v3];intro x a e;rw[h x a] at e;contradiction
 ·rw[v3];intro x a e;have:nf k z x=(on k z x&&decide ((ae k z).l<(ae k x).l)):=rfl;rw[this,h x a] at e;contradiction
def aA.Qo(T:aA bx os)(q:bx.ok)(nd:os.Nodup)(s:z∈walls bx):bY (λk=>os.countP (on k z))=bY (λk=>os.countP (nf k z))+1:=by
 have wl:z=wN bx\/z=wE bx\/z=wS bx\/z=wW bx:=by simpa[walls] using s
 have v:=q;unfold Ob.ok at v;obtain⟨a,d,a1,a2,a3,a4⟩:=T.hit bx.l bx.b (by lia) (by lia) (by lia) (by lia)
 obtain⟨b,e,b1,b2,b3,b4⟩:=T.hit (bx.r-1) (bx.t-1) (by lia) (by lia) (by lia) (by lia)
 have ja:=T.aK a d;have jb:=T.aK b e;have no:∀k,(∀x,(bx.l<=x.l/\x.l<x.r/\x.r<=bx.r/\bx.b<=x.b/\x.b<x.t/\x.t<=bx.t)->¬Up (ae k z) (ae k x))->os.countP (on k z)=0/\os.countP (nf k z)=0:=λk h=>GL λx f=>decide_eq_false (h x (T.aK x f))
 have c:∀k,(∃x∈os,Up (ae k z) (ae k x))->os.countP (on k z)=os.countP (nf k z)+1:=λk ⟨x,f,u⟩=>T.FL q nd (.inr s) k ⟨x,f,decide_eq_true u⟩
 delta bY;dsimp only
 rcases wl with rfl|rfl|rfl|rfl
 ·have g:=no 0 (λx i u=>by simp only[ae,ah,Up,wN] at u;omega)
  have j:=no 1 (λx i u=>by simp only[ae,ah,Up,wN] at u;omega)
  have o:=no 3 (λx i u=>by simp only[ae,ah,Up,wN] at u;omega)
  have p:=c 2 ⟨b,e,by simp only[ae,ah,Up,wN];omega⟩
  lia
 ·have g:=no 0 (λx i u=>by simp only[ae,ah,Up,wE] at u;omega)
  have j:=no 1 (λx i u=>by simp only[ae,ah,Up,wE] at u;omega)
  have p:=no 2 (λx i u=>by simp only[ae,ah,Up,wE] at u;omega)
  have o:=c 3 ⟨b,e,by simp only[ae,ah,Up,wE];omega⟩
  lia
 ·have j:=no 1 (λx i u=>by simp only[ae,ah,Up,wS] at u;omega)
  have p:=no 2 (λx i u=>by simp only[ae,ah,Up,wS] at u;omega)
  have o:=no 3 (λx i u=>by simp only[ae,ah,Up,wS] at u;omega)
  have g:=c 0 ⟨a,d,by simp only[ae,ah,Up,wS];omega⟩
  lia
 ·have g:=no 0 (λx i u=>by simp only[ae,ah,Up,wW] at u;omega)
  have p:=no 2 (λx i u=>by simp only[ae,ah,Up,wW] at u;omega)
  have o:=no 3 (λx i u=>by simp only[ae,ah,Up,wW] at u;omega)
  have j:=c 1 ⟨a,d,by simp only[ae,ah,Up,wW];omega⟩
  lia
def aA.sA(T:aA bx os)(c:bx.ok)(f:x∈os)(nd:(os++walls bx).Nodup)(u:k<4):(os++walls bx).countP (on k x)=os.countP (nf k x)+1:=by
 obtain⟨ne,_,v,_⟩:=T.chain c f nd u;have sp:=ig (on k x) (λz=>decide ((ae k x).l<(ae k z).l)) (os++walls bx)
 have A:((os++walls bx).countP λa=>on k x a&&!decide ((ae k x).l<(ae k a).l))=1:=by
  refine mM nd ?_ ?_
  ·obtain⟨a,d⟩:∃a,(bM (os++walls bx) x k)[0]?=some a:=⟨_,cm (qo.mpr ne)⟩;have o:=gv.mp (eS d);have:=v a d;refine⟨a,o.1,?_⟩;delta on;simp;exact⟨o.2,by lia⟩
  ·intro a d b p g h;unfold on at g h;simp at g h;have oa:=lZ k (Nb.ok T c (eK.mp d));have ob:=lZ k (Nb.ok T c (eK.mp p));refine iB k ((D9 k (Nb.ap T c (eK.mp d) (eK.mp p))).resolve_right λq=>?_)
   unfold Apart at q;delta Up at g h;omega
 have B:((os++walls bx).countP λa=>on k x a&&decide ((ae k x).l<(ae k a).l))=os.countP (nf k x):=by
  rw[n7];have:((walls bx).countP λa=>on k x a&&decide ((ae k x).l<(ae k a).l))=0:=by
   rw[v3];intro w hw e;delta on at e;simp at e;have i:=(T.turns k).aK _ (bg.mpr ⟨x,f,rfl⟩);have j:=sG hw k;have j:ae k w=wN (ae k bx)\/ae k w=wE (ae k bx)\/ae k w=wS (ae k bx)\/ae k w=wW (ae k bx):=by simpa[walls] using j
   delta Up at e
   rcases j with q|q|q|q<;>rw[q] at e<;>simp only[wN,wE,wS,wW] at e<;>omega
  rw[this];rfl
 simp only[sp,A,B]
def Dq(z x)(k):on k z x=on (k+2) x z:=by
 exact decide_eq_decide.mpr (vQ _ _)
def EI(k)(z x):on (k+4) z x=on k z x:=by unfold on;rw[mR,mR]
def O3(l:List Ob)(x:Ob):bY (λk=>l.countP λz=>on k z x)=bY λk=>l.countP (on k x):=by
 have e:∀k,(l.countP λz=>on k z x)=l.countP (on (k+2) x):=λk=>by
  congr 1;funext z;exact Dq z x k
 have f:∀k,l.countP (on (k+4) x)=l.countP (on k x):=λk=>by
  congr 1;funext z;exact EI k x z
 delta bY;grind
def aA.ties(T:aA bx os)(a:bx.ok)(nd:(os++walls bx).Nodup):ay (λx=>bY λk=>os.countP (on k x)) os+2*ay (λx=>bY λk=>(walls bx).countP (on k x)) os=6*os.length+2:=by
 have c:=(nk.mp nd).1;have p:=T.pairs a nd;rw[p6] at p;have w1:ay (λz=>bY λk=>os.countP (on k z)) (walls bx)=ay (λz=>bY λk=>os.countP (nf k z)) (walls bx)+4:=by
  simp only[b8 (g:=λz=>(bY λk=>os.countP (nf k z))+1) λz d=>T.Qo a c d,fX]
  rfl
 have w2:ay (λz=>bY λk=>os.countP (on k z)) (walls bx)=ay (λx=>bY λk=>(walls bx).countP (on k x)) os:=by
  rw[yF];have:∀k,ay (λz=>os.countP (on k z)) (walls bx)=ay (λx=>(walls bx).countP λz=>on k z x) os:=λk=>qI _ _ _
  rw[show (bY λk=>ay (λz=>os.countP (on k z)) (walls bx))=bY λk=>ay (λx=>(walls bx).countP λz=>on k z x) os from congrArg bY (funext this),<-yF]
  exact b8 λx _=>O3 _ x
 have r1:ay (λx=>bY λk=>(os++walls bx).countP (on k x)) os=ay (λx=>bY λk=>os.countP (nf k x)) os+4*os.length:=by
  rw[b8 (g:=λx=>(bY λk=>os.countP (nf k x))+4) λx b=>by
   delta bY;simp only[T.sA a b nd (k:=0) (by decide),T.sA a b nd (k:=1) (by decide),T.sA a b nd (k:=2) (by decide),T.sA a b nd (k:=3) (by decide)]
   lia,fX,qr]
 have r2:ay (λx=>bY λk=>(os++walls bx).countP (on k x)) os=ay (λx=>bY λk=>os.countP (on k x)) os+ay (λx=>bY λk=>(walls bx).countP (on k x)) os:=by
  rw[<-fX];refine b8 λx _=>?_
  delta bY;simp
  lia
 lia
noncomputable def eQ (l:List α):List (α×α):=l.zip (l.drop 1++l.take 1)
def zA(l:List α)(h:i<l.length):(l.drop 1++l.take 1)[i]?=l[(i+1)%l.length]?:=by
 by_cases a:i+1<l.length
 ·rw[l4 (by rw[se];omega),Yi,Vx a,Yy]
 ·have e:i+1=l.length:=by omega
  rw[lz (by rw[se];omega),e,XU,se,show i-(l.length-1)=0 from by omega]
  simp
def uM(l:List α):(l.drop 1++l.take 1).length=l.length:=by
 simp
 lia
theorem Ef{l:List α}{n m:α}:(n,m)∈eQ l ↔ bL l n m:=by
 delta eQ bL;constructor
 ·intro h;obtain⟨i,a,e⟩:=nR h;have hl:i<l.length:=by
   rw[YP,uM] at a
   lia
  have e:(l.zip (l.drop 1++l.take 1))[i]?=some (n,m):=by rw[cm a,e]
  rw[Wb] at e;exact⟨i,e.1,by rw[<-zA l hl];exact e.2⟩
 ·rintro⟨i,b,c⟩;have hl:=(cn.mp b).1;refine eS (i:=i) ?_;rw[Wb];exact⟨b,by rw[zA l hl];exact c⟩
def ve(l:List α):(eQ l).map (·.1)=l:=by
 exact List.map_fst_zip (by rw[uM];exact eT _)
def Iy(l:List α):(eQ l).map (·.2)=l.drop 1++l.take 1:=by
 exact aaL (by rw[uM];exact eT _)
def EW(l:List α):(eQ l).length=l.length:=by
 have:=congrArg List.length (ve l);simp_all
def GW(l:List α):(l.drop 1++l.take 1).Perm l:=List.perm_append_comm.trans (by rw[Vf])
end
structure fW {α:Type}(rooms walls:List α) (ring:α->List α):Prop where
 eX:rooms.Nodup
 eM:∀x∈rooms,x∉walls
 nd:∀x∈rooms,(ring x).Nodup
 len:∀x∈rooms,3<=(ring x).length
 mem:∀x∈rooms,∀y∈ring x,y∈rooms\/y∈walls
 fB:∀x∈rooms,x∉ring x
 sym:∀x∈rooms,∀y∈rooms,y∈ring x->x∈ring y
 j2:∀x∈rooms,∀n m,bL (ring x) n m->n∈rooms->bL (ring n) m x
 j7:∀x∈rooms,∀n m,bL (ring x) n m->m∈rooms->bL (ring m) x n
structure Order {α:Type}(lt:α->α->Bool):Prop where
 fB:∀a,lt a a=false
 tr:∀a b c,lt a b=true->lt b c=true->lt a c=true
 cV:∀a b,a≠b->lt a b=true\/lt b a=true
section
variable{α:Type}{rooms walls:List α}{ring:α->List α}
def bL.mem (h:bL l n m):n∈l/\m∈l:=by
 obtain⟨i,a,b⟩:=h;exact⟨eS a,eS b⟩
def oQ{l:List α}(nd:l.Nodup){i j:Nat}{a:α}(f:l[i]?=some a)(g:l[j]?=some a):i=j:=by
 obtain⟨b,c⟩:=cn.mp f;obtain⟨d,e⟩:=cn.mp g
 rcases Xp i j with h|h|h
 ·have:=qe.mp nd i j b d h;rw[c,e] at this;exact absurd rfl this
 ·exact h
 ·have:=qe.mp nd j i d b h;simp only[c,e] at this;exact absurd rfl this
def bL.ne (nd:l.Nodup)(hl:3<=l.length)(h:bL l n m):n≠m:=by
 rintro rfl;obtain⟨i,a,b⟩:=h;have hi:=(cn.mp a).1;have:=oQ nd a b
 by_cases c:i+1<l.length
 ·rw[Vx c] at this
  lia
 ·rw[show i+1=l.length from by lia,XU] at this
  lia
def bL.asymm (nd:l.Nodup)(hl:3<=l.length)(h:bL l n m)(h':bL l m n):False:=by
 obtain⟨i,b,g⟩:=h;obtain⟨j,c,k⟩:=h';have o:=(cn.mp b).1;have p:=(cn.mp c).1;have d:=oQ nd c g;have e:=oQ nd b k;have f:∀a,a<l.length->(a+1)%l.length=if a+1=l.length then 0 else a+1:=λa ha=>by
  split
  ·rename_i h;rw[h,XU]
  ·exact Vx (by lia)
 rw[f i o] at d;rw[f j p] at e;split at d<;>split at e<;>lia
def corners(rooms:List α)(ring:α->List α):List (α×α×α):=rooms.flatMap λx=>(eQ (ring x)).map λp=>(x,p.1,p.2)
theorem fL{x n m:α}:(x,n,m)∈corners rooms ring ↔ x∈rooms/\bL (ring x) n m:=by
 delta corners;rw[V5];constructor
 ·rintro⟨y,a,h⟩;obtain⟨p,b,e⟩:=bg.mp h;cases e;exact⟨a,Ef.mp b⟩
 ·rintro⟨c,h⟩;exact⟨x,c,bg.mpr ⟨(n,m),Ef.mpr h,rfl⟩⟩
theorem uB (f:a->List c)(p:c->Bool):∀l:List a,(l.flatMap f).countP p=ay (λb=>(f b).countP p) l
 | []=>rfl
 | b::l=>by
  simp[uB f p l];rfl
theorem kN(C:fW rooms walls ring):(corners rooms ring).Nodup:=by
 have key:∀l:List α,l.Nodup->(∀x∈l,(ring x).Nodup)->(corners l ring).Nodup:=by
  intro l;induction l with
  | nil=>intro _ _;exact VW
  | cons a l g =>
   intro c d;rw[pA] at c;have e:corners (a::l) ring=((eQ (ring a)).map λp=>(a,p.1,p.2))++corners l ring:=by unfold corners;simp
   rw[e,nk];refine⟨?_,g c.2 λx h=>d x (by simp[h]),?_⟩
   ·have i:(eQ (ring a)).Nodup:=by
     have:=d a (by simp)
     rw[<-ve (ring a)] at this;exact (gs.mp this).imp λb e=>b (by rw[e])
    refine gs.mpr (i.imp λb e=>b ?_)
    simp at e;exact aa7 e.1 e.2
   ·rintro⟨x,n,m⟩ j ⟨x',n',m'⟩ f e;cases e;obtain⟨p,_,e⟩:=bg.mp j;cases e;exact c.1 (fL.mp f).1
 exact key rooms C.eX C.nd
def count_map{c:Type}{l d:List c}(nd:l.Nodup)(f:d.Nodup){g:c->c}(inj:∀a∈l,∀b∈l,g a=g b->a=b)(h:∀b,b∈d ↔ ∃a∈l,g a=b)(p:c->Bool):d.countP p=l.countP λa=>p (g a):=by
 have pm:d.Perm (l.map g):=(ri f (gs.mpr (nd.imp_of_mem λj k i e=>i (inj _ j _ k e)))).mpr λb=>by
  rw[h b,bg]
 rw[pm.countP_eq,t9];rfl
end
section
variable{α:Type}[DecidableEq α]{rooms walls:List α}{ring:α->List α}{lt:α->α->Bool}
noncomputable def aq(rooms:List α)(a:α):Bool:=decide (a∈rooms)
def canon(rooms:List α)(lt:α->α->Bool)(c:α×α×α):Bool:=(!aq rooms c.2.1||lt c.1 c.2.1)&&(!aq rooms c.2.2||lt c.1 c.2.2)
noncomputable def g3(c:α×α×α):α×α×α:=(c.2.1,c.2.2,c.1)
def xO (h:g3 a=g3 b):a=b:=by
 obtain⟨x,n,m⟩:=a;obtain⟨x',n',m'⟩:=b;simp[g3] at h;simp_all
theorem Bm:∀{l:List f},(∀a∈l,(p a=true/\q a=false/\s a=false)\/(p a=false/\q a=true/\s a=false)\/(p a=false/\q a=false/\s a=true))->l.countP p+l.countP q+l.countP s=l.length
 | [],_=>rfl
 | a::l,h=>by
  have:=Bm (l:=l) λb g=>h b (by simp[g])
  simp[nL]
  rcases h a (by simp) with⟨c,d,e⟩|⟨c,d,e⟩|⟨c,d,e⟩<;>rw[c,d,e]<;>simp<;>lia
theorem C4:∀{l:List c},(∀a∈l,(p a=true/\q a=false)\/(p a=false/\q a=true))->l.countP p+l.countP q=l.length
 | [],_=>rfl
 | a::l,h=>by
  have:=C4 (l:=l) λb f=>h b (by simp[f])
  simp[nL]
  rcases h a (by simp) with⟨d,e⟩|⟨d,e⟩<;>rw[d,e]<;>simp<;>lia
theorem Order.ij(O:Order lt)(h:lt a b=true):lt b a=false:=by
 cases e:lt b a with
 | false=>rfl
 | true =>
  have:=O.tr a b a h e;rw[O.fB] at this;cases this
def fW.apart(C:fW rooms walls ring)(a:x∈rooms)(h:bL (ring x) n m):x≠n/\x≠m/\n≠m:=by
 have:=h.mem;exact⟨λe=>C.fB x a (e ▸ this.1),λe=>C.fB x a (e ▸ this.2),h.ne (C.nd x a) (C.len x a)⟩
def og (p q:b->Bool)(l:List b):(l.filter p).countP q=l.countP λa=>p a&&q a:=by
 rw[List.countP_filter];congr 1;funext a;rw[Yd]
def fW.least(C:fW rooms walls ring)(O:Order lt):3*(corners rooms ring).countP (canon rooms lt)=ay (λx=>(ring x).countP (aq rooms)) rooms+2*ay (λx=>(ring x).countP λy=>!aq rooms y) rooms+(corners rooms ring).countP λc=>!aq rooms c.2.1&&!aq rooms c.2.2:=by
 have o:=kN C;generalize r:corners rooms ring=cs at *;have mem:∀{x n m:α},(x,n,m)∈cs ↔ x∈rooms/\bL (ring x) n m:=λ{x n m}=>by rw[<-r];exact fL
 have J:∀p:α->Bool,(cs.countP λc=>p c.2.1)=ay (λx=>(ring x).countP p) rooms:=λp=>by
  rw[<-r];delta corners;rw[uB];refine b8 λx _=>?_
  rw[t9];have:=congrArg (ZU p) (ve (ring x));rw[t9] at this;exact this
 have E:∀p:α->Bool,(cs.countP λc=>p c.2.2)=ay (λx=>(ring x).countP p) rooms:=λp=>by
  rw[<-r];delta corners;rw[uB];refine b8 λx _=>?_
  rw[t9];have:=congrArg (ZU p) (Iy (ring x));simp only[t9,(GW (ring x)).countP_eq] at this;exact this
 have K:=ig (λc:α×α×α=>aq rooms c.2.1) (λc=>aq rooms c.2.2) cs
 have G:=ig (λc:α×α×α=>!aq rooms c.2.2) (λc=>aq rooms c.2.1) cs
 rw[J (aq rooms)] at K;rw[E (λy=>!aq rooms y)] at G
 have L:(cs.countP λc=>aq rooms c.2.2&&aq rooms c.2.1)=cs.countP λc=>aq rooms c.2.1&&aq rooms c.2.2:=by congr 1;funext c;exact Yd _ _
 have M:(cs.countP λc=>!aq rooms c.2.2&&aq rooms c.2.1)=cs.countP λc=>aq rooms c.2.1&&!aq rooms c.2.2:=by congr 1;funext c;exact Yd _ _
 have N:(cs.countP λc=>!aq rooms c.2.2&&!aq rooms c.2.1)=cs.countP λc=>!aq rooms c.2.1&&!aq rooms c.2.2:=by congr 1;funext c;exact Yd _ _
 simp only[M,N] at G;have k1:=ig (canon rooms lt) (λc=>aq rooms c.2.1) cs
 have P:=ig (λc=>canon rooms lt c&&aq rooms c.2.1) (λc=>aq rooms c.2.2) cs
 have Q:=ig (λc=>canon rooms lt c&&!aq rooms c.2.1) (λc=>aq rooms c.2.2) cs
 have R:(cs.countP λa=>canon rooms lt a&&aq rooms a.2.1&&aq rooms a.2.2)=cs.countP λa=>(aq rooms a.2.1&&aq rooms a.2.2)&&(lt a.1 a.2.1&&lt a.1 a.2.2):=by
  congr 1;funext c;delta canon;cases aq rooms c.2.1<;>cases aq rooms c.2.2<;>simp
 have S:(cs.countP λa=>canon rooms lt a&&aq rooms a.2.1&&!aq rooms a.2.2)=cs.countP λa=>(aq rooms a.2.1&&!aq rooms a.2.2)&&lt a.1 a.2.1:=by
  congr 1;funext c;delta canon;cases aq rooms c.2.1<;>cases aq rooms c.2.2<;>simp
 have T:(cs.countP λa=>canon rooms lt a&&!aq rooms a.2.1&&aq rooms a.2.2)=cs.countP λa=>(!aq rooms a.2.1&&aq rooms a.2.2)&&lt a.1 a.2.2:=by
  congr 1;funext c;delta canon;cases aq rooms c.2.1<;>cases aq rooms c.2.2<;>simp
 have U:(cs.countP λa=>canon rooms lt a&&!aq rooms a.2.1&&!aq rooms a.2.2)=cs.countP λa=>!aq rooms a.2.1&&!aq rooms a.2.2:=by
  congr 1;funext c;delta canon;cases aq rooms c.2.1<;>cases aq rooms c.2.2<;>simp
 simp only[R,S] at P;simp only[T,U] at Q;have S3:3*(cs.countP λa=>(aq rooms a.2.1&&aq rooms a.2.2)&&(lt a.1 a.2.1&&lt a.1 a.2.2))=cs.countP λc=>aq rooms c.2.1&&aq rooms c.2.2:=by
  have j:(cs.filter λc=>aq rooms c.2.1&&aq rooms c.2.2).Nodup:=oi rp o
  have k:∀{x n m:α},(x,n,m)∈cs.filter (λc=>aq rooms c.2.1&&aq rooms c.2.2) ↔ (x∈rooms/\bL (ring x) n m)/\n∈rooms/\m∈rooms:=λ{x n m}=>by
   rw[hF,mem];dsimp only[aq];simp
  have t:∀b,b∈cs.filter (λc=>aq rooms c.2.1&&aq rooms c.2.2) ↔ ∃a∈cs.filter (λc=>aq rooms c.2.1&&aq rooms c.2.2),g3 a=b:=by
   rintro⟨x,n,m⟩;constructor
   ·intro h;obtain⟨⟨d,s⟩,f,g⟩:=k.mp h;exact⟨(m,x,n),k.mpr ⟨⟨g,C.j7 x d n m s g⟩,d,f⟩,rfl⟩
   ·rintro⟨⟨V,W,X⟩,h,e⟩;cases e;obtain⟨⟨d,s⟩,f,g⟩:=k.mp h;exact k.mpr ⟨⟨f,C.j2 _ d _ _ s f⟩,g,d⟩
  have u:=count_map j j (λa _ b _ h=>xO h) t λa=>lt a.1 a.2.1&&lt a.1 a.2.2
  have Y:=count_map j j (λa _ b _ h=>xO h) t λa=>lt (g3 a).1 (g3 a).2.1&&lt (g3 a).1 (g3 a).2.2
  have A:=Bm (p:=λa=>lt a.1 a.2.1&&lt a.1 a.2.2) (q:=λa=>lt (g3 a).1 (g3 a).2.1&&lt (g3 a).1 (g3 a).2.2) (s:=λa=>lt (g3 (g3 a)).1 (g3 (g3 a)).2.1&&lt (g3 (g3 a)).1 (g3 (g3 a)).2.2) (by
   rintro⟨x,n,m⟩ h;obtain⟨⟨d,s⟩,f,g⟩:=k.mp h;obtain⟨B,Z,d3⟩:=C.apart d s;show ((lt x n&&lt x m)=true/\(lt n m&&lt n x)=false/\(lt m x&&lt m n)=false)\/((lt x n&&lt x m)=false/\(lt n m&&lt n x)=true/\(lt m x&&lt m n)=false)\/((lt x n&&lt x m)=false/\(lt n m&&lt n x)=false/\(lt m x&&lt m n)=true)
   rcases O.cV x n B with i|i<;>rcases O.cV x m Z with v|v<;>rcases O.cV n m d3 with w|w<;>have q1:=O.ij i<;>have H:=O.ij v<;>have I:=O.ij w<;>simp[i,v,w,q1,H,I]
   ·have:=O.tr x n m i w;rw[H] at this;cases this
   ·have:=O.tr n x m i v;rw[I] at this;cases this)
  simp only[<-Y,<-u] at A;rw[<-n6] at A;rw[og] at A
  lia
 have S2:(cs.countP λa=>(aq rooms a.2.1&&!aq rooms a.2.2)&&lt a.1 a.2.1)+(cs.countP λa=>(!aq rooms a.2.1&&aq rooms a.2.2)&&lt a.1 a.2.2)=cs.countP λc=>aq rooms c.2.1&&!aq rooms c.2.2:=by
  have j:(cs.filter λc=>aq rooms c.2.1&&!aq rooms c.2.2).Nodup:=oi rp o
  have D:(cs.filter λc=>!aq rooms c.2.1&&aq rooms c.2.2).Nodup:=oi rp o
  have k:∀{x n m:α},(x,n,m)∈cs.filter (λc=>aq rooms c.2.1&&!aq rooms c.2.2) ↔ (x∈rooms/\bL (ring x) n m)/\n∈rooms/\m∉rooms:=λ{x n m}=>by
   rw[hF,mem];dsimp only[aq];simp
  have z:∀{x n m:α},(x,n,m)∈cs.filter (λc=>!aq rooms c.2.1&&aq rooms c.2.2) ↔ (x∈rooms/\bL (ring x) n m)/\n∉rooms/\m∈rooms:=λ{x n m}=>by
   rw[hF,mem];dsimp only[aq];simp
  have t:∀b,b∈cs.filter (λc=>!aq rooms c.2.1&&aq rooms c.2.2) ↔ ∃a∈cs.filter (λc=>aq rooms c.2.1&&!aq rooms c.2.2),g3 a=b:=by
   rintro⟨x,n,m⟩;constructor
   ·intro h;obtain⟨⟨d,s⟩,f,g⟩:=z.mp h;exact⟨(m,x,n),k.mpr ⟨⟨g,C.j7 x d n m s g⟩,d,f⟩,rfl⟩
   ·rintro⟨⟨V,W,X⟩,h,e⟩;cases e;obtain⟨⟨d,s⟩,f,g⟩:=k.mp h;exact z.mpr ⟨⟨f,C.j2 _ d _ _ s f⟩,g,d⟩
  have u:=count_map j D (λa _ b _ h=>xO h) t λa=>lt a.1 a.2.2
  simp[og] at u;rw[u,<-og,<-og,n6 (l:=cs)];refine C4 ?_;rintro⟨x,n,m⟩ h;obtain⟨⟨d,s⟩,f,g⟩:=k.mp h;obtain⟨B,_,_⟩:=C.apart d s;show (lt x n=true/\lt n x=false)\/(lt x n=false/\lt n x=true)
  rcases O.cV x n B with i|i
  ·exact .inl ⟨i,O.ij i⟩
  ·exact .inr ⟨O.ij i,i⟩
 lia
def iX:canon rooms lt (x,n,m)=true ↔ (n∈rooms->lt x n=true)/\(m∈rooms->lt x m=true):=by
 dsimp only[canon,aq]
 by_cases a:n∈rooms<;>by_cases b:m∈rooms<;>simp[a,b]
def LS (h:[a,b].Perm [c,d]):(a=c/\b=d)\/(a=d/\b=c):=by
 have e:a=c\/a=d:=by simpa using h.mem_iff.mp (show a∈[a,b] by simp)
 rcases e with rfl|rfl
 ·simp_all
 ·have h':=h.trans (List.Perm.swap _ _ _);exact .inr ⟨rfl,by simpa using h'.cons_inv⟩
def fW.threes(C:fW rooms walls ring)(O:Order lt){E:Type}{key:α×α×α->E}(F:∀c∈corners rooms ring,∀b∈corners rooms ring,key c=key b ↔ [c.1,c.2.1,c.2.2].Perm [b.1,b.2.1,b.2.2]){D:List E}(nd:D.Nodup)(S:∀k,k∈D ↔ ∃c∈corners rooms ring,key c=k) :
  D.length=(corners rooms ring).countP (canon rooms lt):=by
 have G:=kN C;have inj:∀c∈(corners rooms ring).filter (canon rooms lt),∀b∈(corners rooms ring).filter (canon rooms lt),key c=key b->c=b:=by
  rintro⟨x,n,m⟩ h ⟨j,A,B⟩ h' e;obtain⟨d,hl⟩:=hF.mp h;obtain⟨w,H⟩:=hF.mp h';have p:=(F _ d _ w).mp e;obtain⟨g,s⟩:=fL.mp d;obtain⟨l,s'⟩:=fL.mp w;obtain⟨I,J⟩:=iX.mp hl;obtain⟨K,L⟩:=iX.mp H;have ex:x=j:=by
   have T:x=j\/x=A\/x=B:=by simpa using p.mem_iff.mp (show x∈[x,n,m] by simp)
   have M:j=x\/j=n\/j=m:=by simpa using p.mem_iff.mpr (show j∈[j,A,B] by simp)
   rcases T with h|h|h
   ·exact h
   ·have q:=K (h ▸ g);rw[<-h] at q
    rcases M with k|k|k
    ·exact k.symm
    ·have:=I (k ▸ l);rw[<-k,O.ij q] at this;contradiction
    ·have:=J (k ▸ l);rw[<-k,O.ij q] at this;contradiction
   ·have q:=L (h ▸ g);rw[<-h] at q
    rcases M with k|k|k
    ·exact k.symm
    ·have:=I (k ▸ l);rw[<-k,O.ij q] at this;contradiction
    ·have:=J (k ▸ l);rw[<-k,O.ij q] at this;contradiction
  subst ex
  rcases LS (show [n,m].Perm [A,B] from p.cons_inv) with⟨rfl,rfl⟩|⟨rfl,rfl⟩
  ·rfl
  ·exact (s.asymm (C.nd x g) (C.len x g) s').elim
 have pm:D.Perm (((corners rooms ring).filter (canon rooms lt)).map key):=(ri nd (gs.mpr ((oi rp G).imp_of_mem λU V N e=>N (inj _ U _ V e)))).mpr λk=>by
  rw[S k,bg];constructor
  ·rintro⟨⟨x,n,m⟩,d,rfl⟩;obtain⟨g,s⟩:=fL.mp d;obtain⟨P,Q,W⟩:=C.apart g s;have put:∀b,b∈corners rooms ring->canon rooms lt b=true->[b.1,b.2.1,b.2.2].Perm [x,n,m]->∃a∈(corners rooms ring).filter (canon rooms lt),key a=key (x,n,m):=λb R X Y=>⟨b,hF.mpr ⟨R,X⟩,(F _ R _ d).mpr Y⟩
   have pn:=WH (l₁:=[n,m]) (l₂:=[x]);have r:=WH (l₁:=[m]) (l₂:=[x,n]);have y:n∈rooms->(n,m,x)∈corners rooms ring:=λh=>fL.mpr ⟨h,C.j2 x g n m s h⟩
   have t:m∈rooms->(m,x,n)∈corners rooms ring:=λh=>fL.mpr ⟨h,C.j7 x g n m s h⟩
   by_cases u:n∈rooms<;>by_cases o:m∈rooms
   ·rcases O.cV x n P with f|f
    ·rcases O.cV x m Q with i|i
     ·exact put _ d (iX.mpr ⟨λ_=>f,λ_=>i⟩) (List.Perm.refl _)
     ·exact put _ (t o) (iX.mpr ⟨λ_=>i,λ_=>O.tr m x n i f⟩) r
    ·rcases O.cV n m W with v|v
     ·exact put _ (y u) (iX.mpr ⟨λ_=>v,λ_=>f⟩) pn
     ·exact put _ (t o) (iX.mpr ⟨λ_=>O.tr m n x v f,λ_=>v⟩) r
   ·rcases O.cV x n P with f|f
    ·exact put _ d (iX.mpr ⟨λ_=>f,λz=>absurd z o⟩) (List.Perm.refl _)
    ·exact put _ (y u) (iX.mpr ⟨λz=>absurd z o,λ_=>f⟩) pn
   ·rcases O.cV x m Q with i|i
    ·exact put _ d (iX.mpr ⟨λz=>absurd z u,λ_=>i⟩) (List.Perm.refl _)
    ·exact put _ (t o) (iX.mpr ⟨λ_=>i,λz=>absurd z u⟩) r
   ·exact put _ d (iX.mpr ⟨λz=>absurd z u,λz=>absurd z o⟩) (List.Perm.refl _)
  ·rintro⟨c,d,rfl⟩;exact⟨c,(hF.mp d).1,rfl⟩
 rw[pm.length_eq,ab,n6]
end
section
variable{bx:Ob}{os:List Ob}{x n m:Ob}
def aA.closed(T:aA bx os)(b:bx.ok)(nd:(os++walls bx).Nodup):fW os (walls bx) (br (os++walls bx)) where
 eX:=(nk.mp nd).1
 eM:=λx a hw=>(nk.mp nd).2.2 x a x hw rfl
 nd:=λx a=>T.GZ b a nd
 len:=λx a=>by
  have n1:=qo.mpr (T.chain b a nd (k:=1) (by decide)).1
  have n2:=qo.mpr (T.chain b a nd (k:=2) (by decide)).1
  have n3:=qo.mpr (T.chain b a nd (k:=3) (by decide)).1
  delta br;simp only[eH,eH]
  lia
 mem:=λx a y d=>eK.mp (iq.mp d).1
 fB:=λx a h=>by
  obtain⟨_,k,f,u⟩:=iq.mp h;have ox:=lZ k (Nb.ok T b (.inl a));delta Up at u
  lia
 sym:=λx a y d h=>by
  obtain⟨_,k,f,u⟩:=iq.mp h;have e:=Dq x y k;have c:on (k+2) y x=true:=by rw[<-e];exact decide_eq_true u
  refine iq.mpr ⟨eK.mpr (.inl a),?_⟩
  by_cases g:k+2<4
  ·exact⟨k+2,g,of_decide_eq_true c⟩
  ·have i:on (k+2) y x=on (k-2) y x:=by
    rw[show k+2=(k-2)+4 from by omega]
    exact EI _ _ _
   rw[i] at c;exact⟨k-2,by omega,of_decide_eq_true c⟩
 j2:=λx a n m s j=>(T.cornrZ b a nd s).1 j
 j7:=λx a n m s l=>(T.cornrZ b a nd s).2 l
def Dn(N)(x)(p):(br N x).countP p=bY λk=>N.countP λz=>on k x z&&p z:=by
 have e:∀k,(bM N x k).countP p=N.countP λz=>on k x z&&p z:=λk=>by
  delta bM;simp only[(ib _ _).countP_eq,og];rfl
 dsimp only[br,bY];simp only[n7,e,e,e,e]
def aA.Fp(T:aA bx os)(hp:bx.ok)(nd:(os++walls bx).Nodup)(x:Ob):(br (os++walls bx) x).countP (aq os)=bY (λk=>os.countP (on k x))/\((br (os++walls bx) x).countP λy=>!aq os y)=bY λk=>(walls bx).countP (on k x):=by
 have eM:∀w∈walls bx,w∉os:=λw hw d=>(nk.mp nd).2.2 w d w hw rfl
 have a:∀k,((os++walls bx).countP λz=>on k x z&&aq os z)=os.countP (on k x):=λk=>by
  rw[n7];have f:(os.countP λz=>on k x z&&aq os z)=os.countP (on k x):=ub λz c=>by
   have:aq os z=true:=decide_eq_true c;simp only[this,WT]
  have g:((walls bx).countP λz=>on k x z&&aq os z)=0:=by
   rw[v3];intro w hw e;rw[ey] at e;exact eM w hw (of_decide_eq_true e.2)
  lia
 have b:∀k,((os++walls bx).countP λz=>on k x z&&!aq os z)=(walls bx).countP (on k x):=λk=>by
  rw[n7];have f:((walls bx).countP λz=>on k x z&&!aq os z)=(walls bx).countP (on k x):=ub λz c=>by
   have:aq os z=false:=decide_eq_false (eM z c);rw[this];simp
  have g:(os.countP λz=>on k x z&&!aq os z)=0:=by
   rw[v3];intro w hw e;have:aq os w=true:=decide_eq_true hw;rw[this] at e;simp at e
  lia
 simp only[Dn];exact⟨congrArg bY (funext a),congrArg bY (funext b)⟩
def aA.sums(T:aA bx os)(a:bx.ok)(nd:(os++walls bx).Nodup):ay (λx=>(br (os++walls bx) x).countP (aq os)) os+2*ay (λx=>(br (os++walls bx) x).countP λy=>!aq os y) os=6*os.length+2:=by
 rw[b8 (g:=λx=>bY λk=>os.countP (on k x)) λx _=>(T.Fp a nd x).1,b8 (g:=λx=>bY λk=>(walls bx).countP (on k x)) λx _=>(T.Fp a nd x).2]
 exact T.ties a nd
def tV(a:m∈walls bx)(i:bx.l<=x.l/\x.l<x.r/\x.r<=bx.r/\bx.b<=x.b/\x.b<x.t/\x.t<=bx.t)(u:Up (ah (ah x)) (ah (ah m))):m=wS bx/\x.b=bx.b:=by
 obtain⟨d,i2,e,i4,i5,i6⟩:=i;obtain⟨c,f,g⟩:=u;simp[walls] at a
 rcases a with rfl|rfl|rfl|rfl
 ·exact absurd (YS.mp (show -(bx.t+1)=-x.b from c)) (by lia)
 ·exact absurd (Xi.mp (f)) (XZ.mpr e)
 ·exact⟨rfl,(YS.mp (c)).symm⟩
 ·exact absurd (Xi.mp (g)) (XZ.mpr d)
def rT(a:m∈walls bx)(i:bx.l<=x.l/\x.l<x.r/\x.r<=bx.r/\bx.b<=x.b/\x.b<x.t/\x.t<=bx.t)(u:Up (ah (ah (ah x))) (ah (ah (ah m)))):m=wW bx/\x.l=bx.l:=by
 obtain⟨i1,i2,i3,i4,i5,i6⟩:=i;obtain⟨c,d,e⟩:=u;dsimp only[ah] at c d e;simp[walls] at a
 rcases a with rfl|rfl|rfl|rfl<;>dsimp only[wN,wE,wS,wW] at c d e
 ·omega
 ·omega
 ·omega
 ·grind
def aA.jT(T:aA bx os)(u:bx.ok)(v:x∈os)(i:n∈walls bx)(j:m∈walls bx):cF x n m ↔ (n=wN bx/\m=wE bx/\x.t=bx.t/\x.r=bx.r)\/(n=wE bx/\m=wS bx/\x.r=bx.r/\x.b=bx.b)\/(n=wS bx/\m=wW bx/\x.b=bx.b/\x.l=bx.l)\/(n=wW bx/\m=wN bx/\x.l=bx.l/\x.t=bx.t):=by
 have h:=T.aK x v;have ⟨s,w⟩:=u;constructor
 ·rintro⟨k,hk,f⟩;have y:k=0\/k=1\/k=2\/k=3:=by omega
  rcases y with rfl|rfl|rfl|rfl
  ·rcases f with⟨un,g,e⟩|⟨un,o,g,em⟩
   ·rw[(km i h un).1,(km j h g).1] at e;exact absurd (e) (Int.ne_of_gt s)
   ·obtain⟨a,b⟩:=km i h un;obtain⟨c,d⟩:=mq j h g;exact .inl ⟨a,c,b,d⟩
  ·rcases f with⟨un,g,e⟩|⟨un,o,g,em⟩
   ·rw[(mq i h un).1,(mq j h g).1] at e;exact absurd (YS.mp (e)) (abQ w)
   ·obtain⟨a,b⟩:=mq i h un;obtain⟨c,d⟩:=tV j h g;exact .inr (.inl ⟨a,c,b,d⟩)
  ·rcases f with⟨un,g,e⟩|⟨un,o,g,em⟩
   ·rw[(tV i h un).1,(tV j h g).1] at e;exact absurd (YS.mp (e)) (abQ s)
   ·obtain⟨a,b⟩:=tV i h un;obtain⟨c,d⟩:=rT j h g;exact .inr (.inr (.inl ⟨a,c,b,d⟩))
  ·rcases f with⟨un,g,e⟩|⟨un,o,g,em⟩
   ·rw[(rT i h un).1,(rT j h g).1] at e;dsimp only[ae,ah,wW] at e;lia
   ·obtain⟨a,b⟩:=rT i h un;have g:Up (ah (ah (ah (ah x)))) (ah (ah (ah (ah m)))):=g;rw[nz,nz] at g;obtain⟨c,d⟩:=km j h g;exact .inr (.inr (.inr ⟨a,c,b,d⟩))
 ·rintro (⟨rfl,rfl,p,q⟩|⟨rfl,rfl,p,q⟩|⟨rfl,rfl,p,q⟩|⟨rfl,rfl,p,q⟩)
  ·exact⟨0,by decide,.inr (by dsimp only[Up,ae,ah,wN,wE];omega)⟩
  ·exact⟨1,by decide,.inr (by dsimp only[Up,ae,ah,wS,wE];omega)⟩
  ·exact⟨2,by decide,.inr (by dsimp only[Up,ae,ah,wS,wW];omega)⟩
  ·exact⟨3,by decide,.inr (by dsimp only[Up,ae,ah,wN,wW];omega)⟩
end
section
variable{α:Type}[DecidableEq α]{rooms walls:List α}{ring:α->List α}{lt:α->α->Bool}
def qU{l d:List α}(nd:l.Nodup)(e:d.Nodup)(p:α->Bool):(l.countP λy=>decide (y∈d)&&p y)=d.countP λy=>decide (y∈l)&&p y:=by
 simp[n6];refine List.Perm.length_eq ((ri (oi rp nd) (oi rp e)).mpr λy=>?_)
 simp;constructor
 ·rintro⟨a,b,c⟩;exact⟨b,a,c⟩
 ·simp_all
def fW.half(C:fW rooms walls ring)(O:Order lt):2*ay (λx=>(ring x).countP λy=>aq rooms y&&lt x y) rooms=ay (λx=>(ring x).countP (aq rooms)) rooms:=by
 have a:∀x∈rooms,((ring x).countP λy=>aq rooms y&&lt x y)=rooms.countP λy=>decide (y∈ring x)&&lt x y:=λx c=>qU (C.nd x c) C.eX (lt x)
 have b:∀x∈rooms,(ring x).countP (aq rooms)=rooms.countP λy=>decide (y∈ring x):=λx c=>by
  have:=qU (C.nd x c) C.eX λ_=>true
  simp at this;exact this
 rw[b8 a,b8 b];have s:ay (λx=>rooms.countP λy=>decide (y∈ring x)&&lt x y) rooms=ay (λy=>rooms.countP λx=>decide (x∈ring y)&&lt x y) rooms:=by
  rw[qI λx y=>decide (y∈ring x)&&lt x y]
  refine b8 λy f=>ub λx c=>?_
  have:(y∈ring x) ↔ (x∈ring y):=⟨λh=>C.sym x c y f h,λh=>C.sym y f x c h⟩
  simp only[ey,decide_eq_true_eq];rw[this]
 have t:ay (λx=>rooms.countP λy=>decide (y∈ring x)) rooms=ay (λx=>rooms.countP λy=>decide (y∈ring x)&&lt x y) rooms+ay (λx=>rooms.countP λy=>decide (y∈ring x)&&lt y x) rooms:=by
  rw[<-fX];refine b8 λx c=>?_
  simp only[ig (λy=>decide (y∈ring x)) (λy=>lt x y)]
  congr 1;refine ub λy f=>?_
  simp only[ey,decide_eq_true_eq,um];constructor
  ·rintro⟨d,g⟩;refine⟨d,?_⟩;have ne:x≠y:=λe=>C.fB x c (e ▸ d)
   rcases O.cV x y ne with h|h
   ·rw[g] at h;contradiction
   ·exact h
  ·rintro⟨d,g⟩;exact⟨d,O.ij g⟩
 lia
end
section
variable{bx:Ob}{os:List Ob}{lt:Ob->Ob->Bool}{x y n m p w:Ob}
def aA.lJ(T:aA bx os){p q:Int}(e:bx.l<=p)(f:p<bx.r)(g:bx.b<=q)(i:q<bx.t){P:Ob->Prop}(j:∀o,(bx.l<=o.l/\o.l<o.r/\o.r<=bx.r/\bx.b<=o.b/\o.b<o.t/\o.t<=bx.t)->(P o ↔ o.l<=p/\p<o.r/\o.b<=q/\q<o.t)):∃x∈os,∀y∈os,P y ↔ y=x:=by
 obtain⟨x,c,k⟩:=T.hit p q e f g i;refine⟨x,c,λy d=>?_⟩
 rw[j y (T.aK y d)];constructor
 ·intro h;refine (T.ap y d x c).resolve_right λa=>?_
  unfold Apart at a;omega
 ·rintro rfl;exact k
theorem aA.KI(T:aA bx os)(d:bx.ok)(nd:(os++walls bx).Nodup):((corners os (br (os++walls bx))).countP fun c=>!aq os c.2.1&&!aq os c.2.2)=4:=by
 have C:=T.closed d nd;have H:=d;unfold Ob.ok at H;obtain⟨M,A,I⟩:=T.lJ (p:=bx.r-1) (q:=bx.t-1) (P:=fun x=>x.t=bx.t/\x.r=bx.r) (by lia) (by lia) (by lia) (by lia) (fun o i=>by omega)
 obtain⟨N,B,J⟩:=T.lJ (p:=bx.r-1) (q:=bx.b) (P:=fun x=>x.r=bx.r/\x.b=bx.b) (by lia) (by lia) (by lia) (by omega) (fun o i=>by omega)
 obtain⟨O,D,K⟩:=T.lJ (p:=bx.l) (q:=bx.b) (P:=fun x=>x.b=bx.b/\x.l=bx.l) (by lia) (by omega) (by lia) (by omega) (fun o i=>by omega)
 obtain⟨Q,E,L⟩:=T.lJ (p:=bx.l) (q:=bx.t-1) (P:=fun x=>x.l=bx.l/\x.t=bx.t) (by lia) (by omega) (by lia) (by lia) (fun o i=>by omega)
 rw[n6];have R:wN bx≠wE bx:=fun e=>by have:=congrArg Ob.t e;simp only[wN,wE] at this;omega
 have S:wN bx≠wS bx:=fun e=>by have:=congrArg Ob.b e;simp only[wN,wS] at this;omega
 have U:wN bx≠wW bx:=fun e=>by have:=congrArg Ob.t e;simp only[wN,wW] at this;omega
 have V:wE bx≠wS bx:=fun e=>by have:=congrArg Ob.b e;simp only[wE,wS] at this;omega
 have W:wE bx≠wW bx:=fun e=>by have:=congrArg Ob.l e;simp only[wE,wW] at this;omega
 have X:wS bx≠wW bx:=fun e=>by have:=congrArg Ob.b e;simp only[wS,wW] at this;omega
 have pm:((corners os (br (os++walls bx))).filter fun c=>!aq os c.2.1&&!aq os c.2.2).Perm [(M,wN bx,wE bx),(N,wE bx,wS bx),(O,wS bx,wW bx),(Q,wW bx,wN bx)]:=by
  refine (ri (oi rp (kN C)) ?_).mpr ?_
  ·simp only[pA,f',hO,or_false,V8,not_or,not_and];refine⟨⟨fun _ h=>absurd h R,fun _ h=>absurd h S,fun _ h=>absurd h U⟩,⟨fun _ h=>absurd h V,fun _ h=>absurd h W⟩,fun _ h=>absurd h X,not_false,VW⟩
  ·rintro⟨x,n,m⟩;have g:∀{o:Ob},o∈walls bx->o∉os:=fun {o} hw Y=>(nk.mp nd).2.2 o Y o hw rfl
   rw[hF,fL];simp only[aq,ey,um,decide_eq_false_iff_not,f',hO,or_false,V8];constructor
   ·rintro⟨⟨j,s⟩,Z,hm⟩;have F:n∈walls bx:=(C.mem x j n s.mem.1).resolve_left Z;have G:m∈walls bx:=(C.mem x j m s.mem.2).resolve_left hm;have f:=(T.jT d j F G).mp ((T.dY d j nd (.inr F) (.inr G)).mp s)
    rcases f with⟨a,b,c⟩|⟨a,b,c⟩|⟨a,b,c⟩|⟨a,b,c⟩
    ·exact .inl ⟨(I x j).mp c,a,b⟩
    ·exact .inr (.inl ⟨(J x j).mp c,a,b⟩)
    ·exact .inr (.inr (.inl ⟨(K x j).mp c,a,b⟩))
    ·exact .inr (.inr (.inr ⟨(L x j).mp c,a,b⟩))
   ·have k:wN bx∈walls bx:=by simp[walls]
    have u:wE bx∈walls bx:=by simp[walls]
    have v:wS bx∈walls bx:=by simp[walls]
    have z:wW bx∈walls bx:=by simp[walls]
    rintro (⟨rfl,rfl,rfl⟩|⟨rfl,rfl,rfl⟩|⟨rfl,rfl,rfl⟩|⟨rfl,rfl,rfl⟩)
    ·exact⟨⟨A,(T.dY d A nd (.inr k) (.inr u)).mpr ((T.jT d A k u).mpr (.inl ⟨rfl,rfl,(I _ A).mpr rfl⟩))⟩,g k,g u⟩
    ·exact⟨⟨B,(T.dY d B nd (.inr u) (.inr v)).mpr ((T.jT d B u v).mpr (.inr (.inl ⟨rfl,rfl,(J _ B).mpr rfl⟩)))⟩,g u,g v⟩
    ·exact⟨⟨D,(T.dY d D nd (.inr v) (.inr z)).mpr ((T.jT d D v z).mpr (.inr (.inr (.inl ⟨rfl,rfl,(K _ D).mpr rfl⟩))))⟩,g v,g z⟩
    ·exact⟨⟨E,(T.dY d E nd (.inr z) (.inr k)).mpr ((T.jT d E z k).mpr (.inr (.inr (.inr ⟨rfl,rfl,(L _ E).mpr rfl⟩))))⟩,g z,g k⟩
 rw[pm.length_eq];rfl
inductive Row {α:Type}(rooms:List α) (ring:α->List α) (wall:α):α->List α->Prop
 | stop {a:α}:a∉rooms->Row rooms ring wall a []
 | go {a p:α}{l:List α}:a∈rooms->bL (ring a) p wall->Row rooms ring wall p l->Row rooms ring wall a (a::l)
def aA.before(T:aA bx os)(f:bx.ok)(c:x∈os)(nd:(os++walls bx).Nodup)(ht:x.t=bx.t):∃p,Nb bx os p/\cF x p (wN bx)/\((p∈os/\p.t=bx.t/\p.r=x.l)\/(p=wW bx/\x.l=bx.l)):=by
 have ix:=T.aK x c;have d:=f;unfold Ob.ok at d
 by_cases h:x.l=bx.l
 ·refine⟨wW bx,.inr (by simp[walls]),⟨3,by decide,.inr ?_⟩,.inr ⟨rfl,h⟩⟩
  dsimp only[Up,ae,ah,wN,wW];omega
 ·-- the room to the left,at the top
  obtain⟨o,b,k1,k2,k3,k4⟩:=T.hit (x.l-1) (x.t-1) (by lia) (by omega) (by omega) (by lia)
  have io:=T.aK o b;have ap:Apart o x:=by
   rcases T.ap o b x c with e|a
   ·lia
   ·exact a
  delta Apart at ap;refine⟨o,.inl b,⟨3,by decide,.inr ?_⟩,.inl ⟨b,by omega,by omega⟩⟩
  dsimp only[Up,ae,ah,wN];omega
theorem aA.F9(T:aA bx os)(u:bx.ok)(nd:(os++walls bx).Nodup):∀(k:Nat) (x:Ob),x∈os->x.t=bx.t->(x.l-bx.l).toNat<=k->∃l,Row os (br (os++walls bx)) (wN bx) x l/\l.Nodup/\∀y,y∈l ↔ y∈os/\y.t=bx.t/\y.r<=x.r:=by
 intro k;induction k with
 | zero =>
  intro x d i D;have E:=T.aK x d;obtain⟨p,j,f,h⟩:=T.before u d nd i;have A:Nb bx os (wN bx):=.inr (by simp[walls])
  have s:=(T.dY u d nd j A).mpr f
  rcases h with⟨g,v,B⟩|⟨g,v⟩
  ·have:=T.aK p g;omega
  ·subst g;refine⟨[x],.go d s (.stop λz=>(nk.mp nd).2.2 _ z _ (by simp[walls]) rfl),Xy _ _,λy=>?_⟩
   rw[kq];constructor
   ·rintro rfl;exact⟨d,i,Wr _⟩
   ·rintro⟨o,B,F⟩;have C:=T.aK y o;refine (T.ap y o x d).resolve_right λa=>?_
    unfold Apart at a;omega
 | succ k G =>
  intro x d i D;have E:=T.aK x d;obtain⟨p,j,f,h⟩:=T.before u d nd i;have A:Nb bx os (wN bx):=.inr (by simp[walls])
  have s:=(T.dY u d nd j A).mpr f
  rcases h with⟨g,v,B⟩|⟨g,v⟩
  ·have ip:=T.aK p g;obtain⟨l,r,n,e⟩:=G p g v (by omega)
   refine⟨x::l,.go d s r,pA.mpr ⟨λz=>?_,n⟩,λy=>?_⟩
   ·have:=((e x).mp z).2.2;omega
   ·rw[f',e y];constructor
    ·rintro (rfl|⟨a,b,c⟩)
     ·exact⟨d,i,Wr _⟩
     ·exact⟨a,b,by omega⟩
    ·rintro⟨a,b,c⟩;have C:=T.aK y a
     rcases T.ap y a x d with e|q
     ·exact .inl e
     ·right;delta Apart at q;exact⟨a,b,by omega⟩
  ·simp_all
noncomputable def reach [DecidableEq a](rooms walls:List a)(ring:a->List a):Nat->List a
 | 0=>walls
 | k+1=>walls++rooms.filter λx=>(ring x).any λy=>decide (y∈reach rooms walls ring k)
theorem aA.reached(T:aA bx os)(d:bx.ok)(nd:(os++walls bx).Nodup):∀(k:Nat) (x:Ob),x∈os->(os.countP λy=>decide (x.t<y.t))<k->x∈reach os (walls bx) (br (os++walls bx)) k:=by
 intro k;induction k with
 | zero=>intro x _ h;omega
 | succ k e =>
  intro x b h;obtain⟨ne,_⟩:=T.chain d b nd (k:=0) (by decide)
  obtain⟨y,f⟩:=Zi _ ne;obtain⟨c,u⟩:=gv.mp f;have g:=iq.mpr ⟨c,0,by decide,u⟩
  refine eK.mpr (.inr (hF.mpr ⟨b,u2.mpr ⟨y,g,decide_eq_true ?_⟩⟩))
  rcases eK.mp c with a|hw
  ·refine e y a (l5 ?_ (uy h));have iy:=T.aK y a;have hxy:x.t<y.t:=by
    have u:Up x y:=u;delta Up at u;omega
   have sp:=ig (λz:Ob=>decide (x.t<z.t)) (λz=>decide (y.t<z.t)) os
   have e1:(os.countP λz=>decide (x.t<z.t)&&decide (y.t<z.t))=os.countP λz=>decide (y.t<z.t):=ub λz _=>by
    simp;lia
   have e2:0<os.countP λz=>decide (x.t<z.t)&&!decide (y.t<z.t):=List.countP_pos_iff.mpr ⟨y,a,by simp;omega⟩
   omega
  ·cases k with
   | zero=>exact hw
   | succ k=>exact eK.mpr (.inl hw)
def aA.all_reached(T:aA bx os)(b:bx.ok)(nd:(os++walls bx).Nodup)(a:x∈os):x∈reach os (walls bx) (br (os++walls bx)) os.length:=by
 refine T.reached b nd os.length x a ?_;have c:=X3 (p:=λy:Ob=>decide (x.t<y.t)) (l:=os)
 refine Nat.lt_of_le_of_ne c λe=>?_
 have:=List.countP_eq_length.mp e x a;simp at this
inductive jQ (bx:Ob) (os:List Ob) (w:Ob):Ob->List Ob->Prop
 | stop {a:Ob}:a∉os->jQ bx os w a []
 | go {a p:Ob}{l:List Ob}:a∈os->Nb bx os p->cF a p w->jQ bx os w p l->jQ bx os w a (a::l)
theorem Row.toF(T:aA bx os)(b:bx.ok)(nd:(os++walls bx).Nodup)(h:Row os (br (os++walls bx)) w a l):jQ bx os w a l:=by
 induction h with
 | stop h=>exact .stop h
 | @go a p l h s _ c =>
  refine .go h (eK.mp (iq.mp s.mem.1).1) ?_ c;obtain⟨i,d,e⟩:=s;exact T.wK b h nd d e
theorem jQ.KA(T:aA bx os)(b:bx.ok)(nd:(os++walls bx).Nodup)(hw:Nb bx os w)(h:jQ bx os w a l):Row os (br (os++walls bx)) w a l:=by
 induction h with
 | stop h=>exact .stop h
 | @go a p l h c f _ d=>exact .go h ((T.dY b h nd c hw).mpr f) d
theorem jQ.back(k)(i:k<4)(h:jQ (ae k bx) (os.map (ae k)) (ae k w) (ae k a) l):∃c,l=c.map (ae k)/\jQ bx os w a c:=by
 generalize d:ae k a=j at h;induction h generalizing a with
 | stop h =>
  subst d;exact⟨[],rfl,.stop λz=>h (bg.mpr ⟨a,z,rfl⟩)⟩
 | @go j o l h q f _ s =>
  subst d;obtain⟨p,rfl⟩:=xQ k i o;obtain⟨c,e,r⟩:=s rfl;obtain⟨b,g,t⟩:=bg.mp h;rw[iB k t] at g;refine⟨a::c,by rw[e];rfl,.go g ((qA k).mp q) (cF.ups k f) r⟩
def wall(bx:Ob)(k:Nat):Ob:=if k=0 then wN bx else if k=1 then wE bx else if k=2 then wS bx else wW bx
def gK(bx)(k):wall bx k∈walls bx:=by
 delta wall;split
 ·simp[walls]
 ·split
  ·simp[walls]
  ·split<;>simp[walls]
def zP (hk:k<4):ae k (wall bx k)=wN (ae k bx):=by
 have a:k=0\/k=1\/k=2\/k=3:=by lia
 rcases a with rfl|rfl|rfl|rfl
 ·rfl
 ·rfl
 ·have e:wall bx 2=wS bx:=rfl;rw[e];exact jh (by simp only[ae,ah,wN,wS]) (by simp only[ae,ah,wN,wS]) (by simp only[ae,ah,wN,wS]) (by simp only[ae,ah,wN,wS];lia)
 ·have e:wall bx 3=wW bx:=rfl;rw[e];exact jh (by simp only[ae,ah,wN,wW]<;>omega) (by simp only[ae,ah,wN,wW]<;>omega) (by simp only[ae,ah,wN,wW]<;>omega) (by simp only[ae,ah,wN,wW]<;>lia)
def n9(bx:Ob)(k:Nat)(x:Ob):Prop:=(ae k x).t=(ae k bx).t
def aA.Ij(nd:(os++walls bx).Nodup)(T:aA bx os)(g:bx.ok)(k:Nat):(os.map (ae k)++walls (ae k bx)).Nodup:=by
 rw[nk] at nd ⊢;refine⟨uj k nd.1,?_,?_⟩
 ·have d:=kB k g;unfold Ob.ok at d;generalize ae k bx=c at d;simp only[walls,pA,f',hO,or_false,not_or];refine⟨⟨λe=>?_,λe=>?_,λe=>?_⟩,⟨λe=>?_,λe=>?_⟩,λe=>?_,not_false,VW⟩
  ·have:=congrArg Ob.t e;simp only[wN,wE] at this;omega
  ·have:=congrArg Ob.b e;simp only[wN,wS] at this;omega
  ·have:=congrArg Ob.t e;simp only[wN,wW] at this;omega
  ·have:=congrArg Ob.b e;simp only[wE,wS] at this;omega
  ·have:=congrArg Ob.l e;simp only[wE,wW] at this;omega
  ·have:=congrArg Ob.b e;simp only[wS,wW] at this;lia
 ·intro a h b f e;subst e;have i:=(T.turns k).aK a h;have f:a=wN (ae k bx)\/a=wE (ae k bx)\/a=wS (ae k bx)\/a=wW (ae k bx):=by simpa[walls] using f
  rcases f with rfl|rfl|rfl|rfl<;>simp only[wN,wE,wS,wW] at i<;>omega
def aA.row(T:aA bx os)(o:bx.ok)(nd:(os++walls bx).Nodup)(t:k<4)(v:x∈os)(A:n9 bx k x)(h2:(ae k x).r=(ae k bx).r):∃l,Row os (br (os++walls bx)) (wall bx k) x l/\l.Nodup/\∀y,y∈l ↔ y∈os/\n9 bx k y:=by
 have q:=T.turns k;have h:=kB k o;have j:=aA.Ij nd T o k;obtain⟨l,r,n,e⟩:=q.F9 h j _ (ae k x) (bg.mpr ⟨x,v,rfl⟩) A (eT _);have f:=Row.toF q h j r;rw[<-zP t] at f;obtain⟨B,rfl,C⟩:=jQ.back k t f;refine⟨B,C.KA T o nd (.inr (gK bx k)),(gs.mp n).imp λu e=>u (by rw[e]),λy=>?_⟩
 constructor
 ·intro g;obtain⟨a,b,c⟩:=(e (ae k y)).mp (bg.mpr ⟨y,g,rfl⟩);obtain⟨z,d,s⟩:=bg.mp a;rw[iB k s] at d;exact⟨d,b⟩
 ·rintro⟨g,hw⟩;have i:=q.aK _ (bg.mpr ⟨y,g,rfl⟩);obtain⟨z,d,s⟩:=bg.mp ((e (ae k y)).mpr ⟨bg.mpr ⟨y,g,rfl⟩,hw,by omega⟩)
  rw[iB k s] at d;exact d
def aA.tied(T:aA bx os)(f:bx.ok)(b:y∈os)(c:k<4):wall bx k∈br (os++walls bx) y ↔ n9 bx k y:=by
 have i:=T.aK y b;rw[iq];delta n9;have g:k=0\/k=1\/k=2\/k=3:=by lia
 constructor
 ·rintro⟨_,j,hj,u⟩;have a:j=0\/j=1\/j=2\/j=3:=by lia
  delta Up at u
  rcases g with rfl|rfl|rfl|rfl
  ·have e:wall bx 0=wN bx:=rfl;rw[e] at u
   rcases a with rfl|rfl|rfl|rfl<;>simp only[ae,ah,wN] at u ⊢<;>omega
  ·have e:wall bx 1=wE bx:=rfl;rw[e] at u
   rcases a with rfl|rfl|rfl|rfl<;>simp only[ae,ah,wE] at u ⊢<;>omega
  ·have e:wall bx 2=wS bx:=rfl;rw[e] at u
   rcases a with rfl|rfl|rfl|rfl<;>simp only[ae,ah,wS] at u ⊢<;>omega
  ·have e:wall bx 3=wW bx:=rfl;rw[e] at u
   rcases a with rfl|rfl|rfl|rfl<;>simp only[ae,ah,wW] at u ⊢<;>omega
 ·intro h;refine⟨eK.mpr (.inr (gK bx k)),k,c,?_⟩;rw[zP c];have i':=(T.turns k).aK _ (bg.mpr ⟨y,b,rfl⟩);dsimp only[Up,wN]
  lia
def aA.first(T:aA bx os)(c:bx.ok)(nd:(os++walls bx).Nodup)(hk:k<4):∃x∈os,n9 bx k x/\(ae k x).r=(ae k bx).r/\∀y∈os,bL (br (os++walls bx) y) (wall bx k) (wall bx ((k+1)%4)) ↔ y=x:=by
 have s:=c;unfold Ob.ok at s;have key:∀y∈os,∀P:Prop,(cF y (wall bx k) (wall bx ((k+1)%4)) ↔ P)->(bL (br (os++walls bx) y) (wall bx k) (wall bx ((k+1)%4)) ↔ P):=λy a P h=>by
  rw[T.dY c a nd (.inr (gK bx k)) (.inr (gK bx _))];exact h
 have u:wN bx≠wE bx:=λe=>by have:=congrArg Ob.t e;simp only[wN,wE] at this;omega
 have v:wN bx≠wS bx:=λe=>by have:=congrArg Ob.b e;simp only[wN,wS] at this;omega
 have z:wN bx≠wW bx:=λe=>by have:=congrArg Ob.t e;simp only[wN,wW] at this;omega
 have A:wE bx≠wS bx:=λe=>by have:=congrArg Ob.b e;simp only[wE,wS] at this;lia
 have B:wE bx≠wW bx:=λe=>by have:=congrArg Ob.l e;simp only[wE,wW] at this;omega
 have C:wS bx≠wW bx:=λe=>by have:=congrArg Ob.b e;simp only[wS,wW] at this;lia
 have D:wN bx∈walls bx:=by simp[walls]
 have E:wE bx∈walls bx:=by simp[walls]
 have F:wS bx∈walls bx:=by simp[walls]
 have G:wW bx∈walls bx:=by simp[walls]
 delta n9;have Q:k=0\/k=1\/k=2\/k=3:=by lia
 rcases Q with rfl|rfl|rfl|rfl
 ·obtain⟨H,I,d⟩:=T.lJ (p:=bx.r-1) (q:=bx.t-1) (P:=λx=>x.t=bx.t/\x.r=bx.r) (by lia) (by lia) (by lia) (by lia) (λo i=>by omega)
  have q:=(d H I).mpr rfl;refine⟨H,I,by simp only[ae];lia,by simp only[ae];lia,λy a=>key y a _ ((T.jT c a D E).trans ⟨λh=>?_,λh=>.inl ⟨rfl,rfl,(d y a).mpr h⟩⟩)⟩
  rcases h with⟨_,_,h⟩|⟨h,_⟩|⟨h,_⟩|⟨h,_⟩
  ·exact (d y a).mp h
  ·exact absurd h u
  ·exact absurd h v
  ·exact absurd h z
 ·obtain⟨J,K,f⟩:=T.lJ (p:=bx.r-1) (q:=bx.b) (P:=λx=>x.r=bx.r/\x.b=bx.b) (by omega) (by omega) (by omega) (by omega) (λo i=>by omega)
  have q:=(f J K).mpr rfl;refine⟨J,K,by simp only[ae,ah];lia,by simp only[ae,ah];lia,λy a=>key y a _ ((T.jT c a E F).trans ⟨λh=>?_,λh=>.inr (.inl ⟨rfl,rfl,(f y a).mpr h⟩)⟩)⟩
  rcases h with⟨h,_⟩|⟨_,_,h⟩|⟨h,_⟩|⟨h,_⟩
  ·exact absurd h.symm u
  ·exact (f y a).mp h
  ·exact absurd h A
  ·exact absurd h B
 ·obtain⟨L,M,g⟩:=T.lJ (p:=bx.l) (q:=bx.b) (P:=λx=>x.b=bx.b/\x.l=bx.l) (by omega) (by omega) (by omega) (by omega) (λo i=>by omega)
  have q:=(g L M).mpr rfl;refine⟨L,M,by simp only[ae,ah];lia,by simp only[ae,ah];lia,λy a=>key y a _ ((T.jT c a F G).trans ⟨λh=>?_,λh=>.inr (.inr (.inl ⟨rfl,rfl,(g y a).mpr h⟩))⟩)⟩
  rcases h with⟨h,_⟩|⟨h,_⟩|⟨_,_,h⟩|⟨h,_⟩
  ·exact absurd h.symm v
  ·exact absurd h.symm A
  ·exact (g y a).mp h
  ·exact absurd h C
 ·obtain⟨N,O,j⟩:=T.lJ (p:=bx.l) (q:=bx.t-1) (P:=λx=>x.l=bx.l/\x.t=bx.t) (by omega) (by omega) (by omega) (by omega) (λo i=>by omega)
  have q:=(j N O).mpr rfl;refine⟨N,O,by simp only[ae,ah];lia,by simp only[ae,ah];lia,λy a=>key y a _ ((T.jT c a G D).trans ⟨λh=>?_,λh=>.inr (.inr (.inr ⟨rfl,rfl,(j y a).mpr h⟩))⟩)⟩
  rcases h with⟨h,_⟩|⟨h,_⟩|⟨h,_⟩|⟨_,_,h⟩
  ·exact absurd h.symm z
  ·exact absurd h.symm B
  ·exact absurd h.symm C
  ·exact (j y a).mp h
end
structure mV {α:Type} [DecidableEq α] (rooms:List α) (w:Nat->α) (ring:α->List α) (lt:α->α->Bool):Prop where
 C:fW rooms [w 0,w 1,w 2,w 3] ring
 JM:[w 0,w 1,w 2,w 3].Nodup
 ww:∀x∈rooms,∀j k,j<4->k<4->bL (ring x) (w j) (w k)->k=(j+1)%4
 row:∀k,k<4->∃x∈rooms,(∀y∈rooms,bL (ring y) (w k) (w ((k+1)%4)) ↔ y=x)/\∃l,Row rooms ring (w k) x l/\l.Nodup/\∀y,y∈l ↔ y∈rooms/\w k∈ring y
 all:∀x∈rooms,x∈reach rooms [w 0,w 1,w 2,w 3] ring rooms.length
 Bq:(corners rooms ring).countP (canon rooms lt)+rooms.length=ay (λx=>(ring x).countP λy=>!aq rooms y) rooms+ay (λx=>(ring x).countP λy=>aq rooms y&&lt x y) rooms+1
section
variable{α:Type}[DecidableEq α]{rooms rooms' walls:List α}{w:Nat->α}{ring ring':α->List α}{lt:α->α->Bool}
def gN(l a:List α):Prop:=∃A B,l=A++B/\a=B++A
theorem gN.perm{l a:List α}(h:gN l a):a.Perm l:=by
 obtain⟨A,B,rfl,rfl⟩:=h;exact WH
def gN.symm (h:gN l a):gN a l:=by
 obtain⟨A,B,rfl,rfl⟩:=h;exact⟨B,A,rfl,rfl⟩
def gN.succ (h:gN l b)(s:bL l n m):bL b n m:=by
 obtain⟨A,B,rfl,rfl⟩:=h;obtain⟨i,c,a⟩:=s;have d:=(cn.mp c).1;rw[eH] at d a;delta bL;have get:∀j,j<A.length+B.length->(B++A)[(j+B.length)%(B.length+A.length)]?=(A++B)[j]?:=λj f=>by
  by_cases hA:j<A.length
  ·rw[Vx (by omega),lz (by lia),l4 hA]
   congr 1;omega
  ·have e:(j+B.length)%(B.length+A.length)=j-A.length:=by
    rw[show j+B.length=(j-A.length)+(B.length+A.length) from by omega,Nat.add_mod_right,Vx (by omega)]
   rw[e,l4 (by omega),lz (by omega)]
 refine⟨(i+B.length)%(B.length+A.length),by rw[get i d];exact c,?_⟩
 have f:(i+1)%(A.length+B.length)<A.length+B.length:=Vd _ (by omega)
 rw[<-get _ f] at a;simp[<-a];congr 1;have g:((i+B.length)%(B.length+A.length)+1)%(B.length+A.length)=(i+B.length+1)%(B.length+A.length):=by
  rw[YN,ab3,<-YN]
 have k:((i+1)%(A.length+B.length)+B.length)%(B.length+A.length)=(i+1+B.length)%(B.length+A.length):=by
  rw[Yy A.length B.length,YN,ab3,<-YN]
 simp[k];congr 1
 lia
def gN.dY (h:gN l a):bL a n m ↔ bL l n m:=⟨h.symm.succ,h.succ⟩
theorem C3 (p:l.Perm b):ay f l=ay f b:=by
 induction p with
 | nil=>rfl
 | cons x _ c=>show f x+_=f x+_;rw[c]
 | swap x y l=>show f y+(f x+ay f l)=f x+(f y+ay f l);lia
 | trans _ _ d e=>rw[d,e]
def Ii(p:rooms'.Perm rooms)(a:α):aq rooms' a=aq rooms a:=by
 exact decide_eq_decide.mpr p.mem_iff
theorem mV.turn(h:mV rooms w ring lt)(p:rooms'.Perm rooms)(t:∀x∈rooms,gN (ring x) (ring' x)):mV rooms' w ring' lt:=by
 have mem:∀{x:α},x∈rooms' ↔ x∈rooms:=λ{x}=>p.mem_iff
 have v:fW rooms' [w 0,w 1,w 2,w 3] ring':={
  eX:=p.nodup_iff.mpr h.C.eX
  eM:=λx d=>h.C.eM x (mem.mp d)
  nd:=λx d=>(t x (mem.mp d)).perm.nodup_iff.mpr (h.C.nd x (mem.mp d))
  len:=λx d=>by rw[(t x (mem.mp d)).perm.length_eq];exact h.C.len x (mem.mp d)
  mem:=λx d y f=>(h.C.mem x (mem.mp d) y ((t x (mem.mp d)).perm.mem_iff.mp f)).imp mem.mpr id
  fB:=λx d f=>h.C.fB x (mem.mp d) ((t x (mem.mp d)).perm.mem_iff.mp f)
  sym:=λx d y f A=>(t y (mem.mp f)).perm.mem_iff.mpr (h.C.sym x (mem.mp d) y (mem.mp f) ((t x (mem.mp d)).perm.mem_iff.mp A))
  j2:=λx d n m s g=>(t n (mem.mp g)).succ (h.C.j2 x (mem.mp d) n m ((t x (mem.mp d)).dY.mp s) (mem.mp g))
  j7:=λx d n m s B=>(t m (mem.mp B)).succ (h.C.j7 x (mem.mp d) n m ((t x (mem.mp d)).dY.mp s) (mem.mp B))}
 have row:∀{wl a:α}{l:List α},Row rooms ring wl a l->Row rooms' ring' wl a l:=λ{wl a l} r=>by
  induction r with
  | stop g=>exact .stop λz=>g (mem.mp z)
  | go D s _ o=>exact .go (mem.mpr D) ((t _ D).succ s) o
 have E:∀k x,x∈reach rooms [w 0,w 1,w 2,w 3] ring k->x∈reach rooms' [w 0,w 1,w 2,w 3] ring' k:=by
  intro k;induction k with
  | zero=>exact λx d=>d
  | succ k o =>
   intro x d
   rcases eK.mp d with d|d
   ·exact eK.mpr (.inl d)
   ·obtain⟨i,F⟩:=hF.mp d;obtain⟨y,f,e⟩:=u2.mp F;refine eK.mpr (.inr (hF.mpr ⟨mem.mpr i,u2.mpr ⟨y,(t x i).perm.mem_iff.mpr f,?_⟩⟩));exact decide_eq_true (o y (of_decide_eq_true e))
 refine⟨v,h.JM,λx d j k G q s=>h.ww x (mem.mp d) j k G q ((t x (mem.mp d)).dY.mp s),λk q=>?_,λx d=>?_,?_⟩
 ·obtain⟨x,d,i,l,r,n,e⟩:=h.row k q;refine⟨x,mem.mpr d,λy f=>?_,l,row r,n,λy=>?_⟩
  ·rw[(t y (mem.mp f)).dY];exact i y (mem.mp f)
  ·rw[e y];constructor
   ·rintro⟨a,b⟩;exact⟨mem.mpr a,(t y a).perm.mem_iff.mpr b⟩
   ·rintro⟨a,b⟩;exact⟨mem.mp a,(t y (mem.mp a)).perm.mem_iff.mp b⟩
 ·rw[p.length_eq];exact E _ x (h.all x (mem.mp d))
 ·have u:aq rooms'=aq rooms:=funext (Ii p);have H:canon rooms' lt=canon rooms lt:=by unfold canon;rw[u]
  have c:(corners rooms' ring').countP (canon rooms' lt)=(corners rooms ring).countP (canon rooms lt):=by
   rw[H];refine List.Perm.countP_eq _ ((ri (kN v) (kN h.C)).mpr ?_);rintro⟨x,n,m⟩;rw[fL,fL,mem];constructor
   ·rintro⟨a,b⟩;exact⟨a,(t x a).dY.mp b⟩
   ·rintro⟨a,b⟩;exact⟨a,(t x a).dY.mpr b⟩
  have I:ay (λx=>(ring' x).countP λy=>!aq rooms' y) rooms'=ay (λx=>(ring x).countP λy=>!aq rooms y) rooms:=by
   rw[C3 p,u];exact b8 λx d=>(t x d).perm.countP_eq _
  have J:ay (λx=>(ring' x).countP λy=>aq rooms' y&&lt x y) rooms'=ay (λx=>(ring x).countP λy=>aq rooms y&&lt x y) rooms:=by
   rw[C3 p,u];exact b8 λx d=>(t x d).perm.countP_eq _
  simp only[c,I,J,p.length_eq];exact h.Bq
end
section
variable{α β:Type}[DecidableEq α][DecidableEq β]
def bL.map (ν:α->β)(h:bL l n m):bL (l.map ν) (ν n) (ν m):=by
 obtain⟨i,a,b⟩:=h;exact⟨i,by rw[cR,a];rfl,by simp only[ab,cR,b];rfl⟩
def bL.of_map (h:bL (l.map ν) a b):∃n m,a=ν n/\b=ν m/\bL l n m:=by
 obtain⟨i,d,c⟩:=h;rw[cR] at d c;rw[ab] at c;obtain⟨n,e,rfl⟩:=hH.mp d;obtain⟨m,f,rfl⟩:=hH.mp c;exact⟨n,m,rfl,rfl,i,e,f⟩
end
section
variable{bx:Ob}{os:List Ob}{β:Type}[DecidableEq β]{ν:Ob->β}{ring':β->List β}{lt:β->β->Bool}
def kc(a:bx.ok)(hj:j<4)(hk:k<4)(h:wall bx j=wall bx k):j=k:=by
 delta Ob.ok at a;have c:j=0\/j=1\/j=2\/j=3:=by lia
 have d:k=0\/k=1\/k=2\/k=3:=by lia
 have e:wall bx 0=wN bx:=rfl;have f:wall bx 1=wE bx:=rfl;have g:wall bx 2=wS bx:=rfl;have i:wall bx 3=wW bx:=rfl;have m:=congrArg Ob.l h;have n:=congrArg Ob.b h;have o:=congrArg Ob.r h;have p:=congrArg Ob.t h
 rcases c with rfl|rfl|rfl|rfl<;>rcases d with rfl|rfl|rfl|rfl<;>first|rfl|(exfalso;simp only[e,f,g,i,wN,wE,wS,wW] at m n o p;lia)
theorem aA.xK(T:aA bx os)(v:bx.ok)(nd:(os++walls bx).Nodup)(inj:∀a∈os++walls bx,∀b∈os++walls bx,ν a=ν b->a=b)(B:∀x∈os,ring' (ν x)=(br (os++walls bx) x).map ν)(O:Order lt):mV (os.map ν) (fun k=>ν (wall bx k)) ring' lt:=by
 have C:=T.closed v nd;have A:∀{a:Ob},a∈os->a∈os++walls bx:=fun h=>eK.mpr (.inl h)
 have F:∀{a:Ob},a∈walls bx->a∈os++walls bx:=fun h=>eK.mpr (.inr h)
 have t:∀{x y:Ob},y∈br (os++walls bx) x->y∈os++walls bx:=fun h=>(iq.mp h).1
 have inR:∀{y:Ob},y∈os++walls bx->ν y∈os.map ν->y∈os:=fun {y} i h=>by
  obtain⟨z,I,e⟩:=bg.mp h;rw[<-inj z (A I) y i e];exact I
 have E:∀{x n m:Ob},x∈os->n∈os++walls bx->m∈os++walls bx->(bL (ring' (ν x)) (ν n) (ν m) ↔ bL (br (os++walls bx) x) n m):=fun {x n m} d J N=>by
  rw[B x d];constructor
  ·intro h;obtain⟨U,V,W,X,s⟩:=h.of_map;simp only[inj n J U (t s.mem.1) W,inj m N V (t s.mem.2) X];exact s
  ·exact fun s=>s.map ν
 have P:fW (os.map ν) ((walls bx).map ν) ring':={
  eX:=gs.mpr (C.eX.imp_of_mem fun o u D e=>D (inj _ (A o) _ (A u) e))
  eM:=fun a o hw=>by
   obtain⟨x,d,rfl⟩:=bg.mp o;obtain⟨y,i,e⟩:=bg.mp hw;have:=inj y (F i) x (A d) e;subst this;exact C.eM y d i
  nd:=fun a o=>by
   obtain⟨x,d,rfl⟩:=bg.mp o;rw[B x d];exact gs.mpr ((C.nd x d).imp_of_mem fun o u D e=>D (inj _ (t o) _ (t u) e))
  len:=fun a o=>by
   obtain⟨x,d,rfl⟩:=bg.mp o;rw[B x d,ab];exact C.len x d
  mem:=fun a o b u=>by
   obtain⟨x,d,rfl⟩:=bg.mp o;rw[B x d] at u;obtain⟨y,i,rfl⟩:=bg.mp u;exact (C.mem x d y i).imp (fun h=>bg.mpr ⟨y,h,rfl⟩) (fun h=>bg.mpr ⟨y,h,rfl⟩)
  fB:=fun a o u=>by
   obtain⟨x,d,rfl⟩:=bg.mp o;rw[B x d] at u;obtain⟨y,i,e⟩:=bg.mp u;have:=inj y (t i) x (A d) e;subst this;exact C.fB y d i
  sym:=fun a o b u h=>by
   obtain⟨x,d,rfl⟩:=bg.mp o;obtain⟨y,i,rfl⟩:=bg.mp u;rw[B x d] at h;obtain⟨z,I,e⟩:=bg.mp h;have:=inj z (t I) y (A i) e;subst this;rw[B z i];exact bg.mpr ⟨x,C.sym x d z i I,rfl⟩
  j2:=fun a o b c s u=>by
   obtain⟨x,d,rfl⟩:=bg.mp o;have s':=s;rw[B x d] at s';obtain⟨n,m,rfl,rfl,G⟩:=s'.of_map;have J:=inR (t G.mem.1) u;exact (E J (t G.mem.2) (A d)).mpr (C.j2 x d n m G J)
  j7:=fun a o b c s hc=>by
   obtain⟨x,d,rfl⟩:=bg.mp o;have s':=s;rw[B x d] at s';obtain⟨n,m,rfl,rfl,G⟩:=s'.of_map;have N:=inR (t G.mem.2) hc;exact (E N (A d) (t G.mem.1)).mpr (C.j7 x d n m G N)}
 have row:∀{w a:Ob}{l:List Ob},w∈walls bx->a∈os++walls bx->Row os (br (os++walls bx)) w a l->Row (os.map ν) ring' (ν w) (ν a) (l.map ν):=fun {w a l} hw o r=>by
  induction r with
  | stop J=>exact .stop fun z=>J (inR o z)
  | @go a p l h s _ K=>exact .go (bg.mpr ⟨a,h,rfl⟩) ((E h (t s.mem.1) (F hw)).mpr s) (K (t s.mem.1))
 have Y:∀k x,x∈os++walls bx->x∈reach os (walls bx) (br (os++walls bx)) k->ν x∈reach (os.map ν) ((walls bx).map ν) ring' k:=by
  intro k;induction k with
  | zero=>exact fun x _ d=>bg.mpr ⟨x,d,rfl⟩
  | succ k K =>
   intro x hN d
   rcases eK.mp d with d|d
   ·exact eK.mpr (.inl (bg.mpr ⟨x,d,rfl⟩))
   ·obtain⟨Q,L⟩:=hF.mp d;obtain⟨y,i,e⟩:=u2.mp L;refine eK.mpr (.inr (hF.mpr ⟨bg.mpr ⟨x,Q,rfl⟩,u2.mpr ⟨ν y,?_,?_⟩⟩))
    ·rw[B x Q];exact bg.mpr ⟨y,i,rfl⟩
    ·exact decide_eq_true (K y (t i) (of_decide_eq_true e))
 have R:∀{y:Ob},y∈os++walls bx->aq (os.map ν) (ν y)=aq os y:=fun {y} i=>by
  refine decide_eq_decide.mpr ⟨inR i,fun h=>bg.mpr ⟨y,h,rfl⟩⟩
 have M:∀(f:β->Nat) (g:Ob->Nat),(∀x∈os,f (ν x)=g x)->ay f (os.map ν)=ay g os:=fun f g h=>by
  have:∀l:List Ob,(∀x∈l,f (ν x)=g x)->ay f (l.map ν)=ay g l:=by
   intro l;induction l with
   | nil=>intro _;rfl
   | cons a l K =>
    intro h;show f (ν a)+ay f (l.map ν)=g a+ay g l;simp only[h a (by simp),K fun x d=>h x (by simp[d])]
  exact this os h
 have Z:ay (fun x=>(ring' x).countP (aq (os.map ν))) (os.map ν)=ay (fun x=>(br (os++walls bx) x).countP (aq os)) os:=M _ _ fun x d=>by
  rw[B x d,t9];exact ub fun y i=>by show aq (os.map ν) (ν y)=true ↔ _;rw[R (t i)]
 have a2:ay (fun x=>(ring' x).countP fun y=>!aq (os.map ν) y) (os.map ν)=ay (fun x=>(br (os++walls bx) x).countP fun y=>!aq os y) os:=M _ _ fun x d=>by
  rw[B x d,t9];exact ub fun y i=>by show (!aq (os.map ν) (ν y))=true ↔ _;rw[R (t i)]
 have a3:((corners (os.map ν) ring').countP fun c=>!aq (os.map ν) c.2.1&&!aq (os.map ν) c.2.2)=4:=by
  rw[<-T.KI v nd];have pm:(corners (os.map ν) ring').Perm ((corners os (br (os++walls bx))).map fun c=>(ν c.1,ν c.2.1,ν c.2.2)):=by
   refine (ri (kN P) (gs.mpr ((kN C).imp_of_mem ?_))).mpr ?_
   ·rintro⟨x,n,m⟩ ⟨x',U,V⟩ h h' D e;obtain⟨d,s⟩:=fL.mp h;obtain⟨Sh,s'⟩:=fL.mp h';simp at e;exact D (by simp only[inj x (A d) x' (A Sh) e.1,inj n (t s.mem.1) U (t s'.mem.1) e.2.1,inj m (t s.mem.2) V (t s'.mem.2) e.2.2])
   ·rintro⟨a,b,c⟩;rw[fL];constructor
    ·rintro⟨o,s⟩;obtain⟨x,d,rfl⟩:=bg.mp o;rw[B x d] at s;obtain⟨n,m,rfl,rfl,G⟩:=s.of_map;exact bg.mpr ⟨(x,n,m),fL.mpr ⟨d,G⟩,rfl⟩
    ·intro h;obtain⟨⟨x,n,m⟩,L,e⟩:=bg.mp h;cases e;obtain⟨d,s⟩:=fL.mp L;exact⟨bg.mpr ⟨x,d,rfl⟩,(E d (t s.mem.1) (t s.mem.2)).mpr s⟩
  rw[pm.countP_eq,t9];refine ub ?_;rintro⟨x,n,m⟩ h;obtain⟨d,s⟩:=fL.mp h;show (!aq (os.map ν) (ν n)&&!aq (os.map ν) (ν m))=true ↔ _;rw[R (t s.mem.1),R (t s.mem.2)]
 have b1:=P.least O;have b2:=P.half O;have b3:=T.sums v nd;refine⟨P,?_,?_,?_,?_,?_⟩
 ·exact gs.mpr ((nk.mp nd).2.1.imp_of_mem fun o u D e=>D (inj _ (F o) _ (F u) e))
 ·intro a o j k S H s;obtain⟨x,d,rfl⟩:=bg.mp o;have s:=(E d (F (gK bx j)) (F (gK bx k))).mp s;have f:=(T.jT v d (gK bx j) (gK bx k)).mp ((T.dY v d nd (.inr (gK bx j)) (.inr (gK bx k))).mp s);have e0:wN bx=wall bx 0:=rfl;have W:wE bx=wall bx 1:=rfl;have X:wS bx=wall bx 2:=rfl;have e3:wW bx=wall bx 3:=rfl;rw[e0,W,X,e3] at f
  rcases f with⟨p,q,_⟩|⟨p,q,_⟩|⟨p,q,_⟩|⟨p,q,_⟩
  ·rw[kc v S (by decide) p,kc v H (by decide) q]
  ·rw[kc v S (by decide) p,kc v H (by decide) q]
  ·rw[kc v S (by decide) p,kc v H (by decide) q]
  ·rw[kc v S (by decide) p,kc v H (by decide) q]
 ·intro k H;obtain⟨x,d,Q,L,h3⟩:=T.first v nd H
  obtain⟨l,r,n,e⟩:=T.row v nd H d Q L;refine⟨ν x,bg.mpr ⟨x,d,rfl⟩,fun b u=>?_,l.map ν,row (gK bx k) (A d) r,gs.mpr (n.imp_of_mem fun o u D e'=>D (inj _ (A ((e _).mp o).1) _ (A ((e _).mp u).1) e')),fun b=>?_⟩
  ·obtain⟨y,i,rfl⟩:=bg.mp u;rw[E i (F (gK bx k)) (F (gK bx _)),h3 y i];exact⟨fun h=>by rw[h],fun h=>inj y (A i) x (A d) h⟩
  ·rw[bg];constructor
   ·rintro⟨y,i,rfl⟩;obtain⟨p,q⟩:=(e y).mp i;refine⟨bg.mpr ⟨y,p,rfl⟩,?_⟩;rw[B y p];exact bg.mpr ⟨_,(T.tied v p H).mpr q,rfl⟩
   ·rintro⟨p,q⟩;obtain⟨y,i,rfl⟩:=bg.mp p;rw[B y i] at q;obtain⟨z,I,ez⟩:=bg.mp q;have:=inj z (t I) _ (F (gK bx k)) ez;subst this;exact⟨y,(e y).mpr ⟨i,(T.tied v i H).mp I⟩,rfl⟩
 ·intro a o;obtain⟨x,d,rfl⟩:=bg.mp o;rw[ab];exact Y _ x (A d) (T.all_reached v nd d)
 ·rw[Z,a2,a3] at b1;rw[Z] at b2;rw[a2,ab]
  lia
end
def dS(os:List Ob):Prop:=∀p,(dm os).count p<=3
def Jw(a b):dm (a++b)=dm a++dm b:=by
 exact W2
theorem dS.perm{a b:List Ob}(h:dS a)(p:b.Perm a):dS b:=λq=>by
 have:(dm b).Perm (dm a):=p.flatMap_right _;rw[this.count_eq];exact h q
def dS.one(o)(h:o.ok):dS [o]:=λq=>by
 have e:dm [o]=cX o:=yv _;rw[e];delta Ob.ok at h;simp only[cX,Wk,VY,beq_iff_eq];split<;>split<;>split<;>split<;>lia
def dS.cut (h:dS (A++o::B))(k:∀p,(cX x).count p+(cX y).count p=(cX o).count p\/((dm (A++o::B)).count p=0/\(cX x).count p+(cX y).count p<=3)):dS (A++[x]++B++[y]):=λp=>by
 have h:=h p;have k:=k p;have e:∀l:List Ob,∀o,dm (o::l)=cX o++dm l:=λl o=>rfl
 simp only[Jw,Ww,e,show dm []=[] from rfl,VY] at *
 lia
def dS.Gr (h:dS (A++o::B))(ok:o.ok)(f:∀z∈A++o::B,z.l≠c/\z.r≠c):dS (A++[⟨o.l,o.b,c,o.t⟩]++B++[⟨c,o.b,o.r,o.t⟩]):=by
 refine h.cut λp=>?_
 by_cases e:p.1=c
 ·right;refine⟨Yk.mpr λa=>?_,?_⟩
  ·obtain⟨z,d,a⟩:=V5.mp a;have:=f z d;simp only[cX,f',V4] at a
   grind
  ·have:=f o (by simp)
   delta Ob.ok at ok;simp only[cX,Wk,VY,beq_iff_eq,V4]
   grind
 ·left;simp only[cX,Wk,VY,beq_iff_eq]
  grind
def dS.Qt (h:dS (A++o::B))(ok:o.ok)(f:∀z∈A++o::B,z.b≠c/\z.t≠c):dS (A++[⟨o.l,o.b,o.r,c⟩]++B++[⟨o.l,c,o.r,o.t⟩]):=by
 refine h.cut λp=>?_
 by_cases e:p.2=c
 ·right;refine⟨Yk.mpr λa=>?_,?_⟩
  ·obtain⟨z,d,a⟩:=V5.mp a;have:=f z d;simp only[cX,f',V4] at a
   grind
  ·have:=f o (by simp)
   delta Ob.ok at ok;simp only[cX,Wk,VY,beq_iff_eq]
   grind
 ·left;simp only[cX,Wk,VY,beq_iff_eq]
  grind
theorem dS.uL{os:List Ob}(W:Int)(h:dS os):dS (os.map λo=>⟨W-o.r,o.b,W-o.l,o.t⟩):=λp=>by
 have e:(dm (os.map λo=>⟨W-o.r,o.b,W-o.l,o.t⟩)).count p=(dm os).count (W-p.1,p.2):=by
  induction os with
  | nil=>rfl
  | cons o os a =>
   have h':dS os:=λq=>by
    have:=h q;rw[show dm (o::os)=cX o++dm os from rfl,Ww] at this
    lia
   simp only[ka,show ∀l:List Ob,∀o,dm (o::l)=cX o++dm l from λ_ _=>rfl,show ∀l:List Ob,∀o,dm (o::l)=cX o++dm l from λ_ _=>rfl,Ww,Ww,a h']
   congr 1;simp only[cX,Wk,VY,V4]
   grind
 rw[e];exact h _
section
variable{α:Type}[DecidableEq α]
noncomputable def fI(u o x n:α)(k:Nat):α×α×α:=if k=0 then (u,x,n) else if k=1 then (o,x,n) else if k=2 then (u,n,x) else (o,n,x)
def AG{u o x n d f:α}{k j:Nat}(h:fI u o x n k=fI u o d f j):(x=d/\n=f)\/(x=f/\n=d):=by
 delta fI at h;have q:∀{a b c l g i:α},(a,b,c)=(l,g,i)->b=g/\c=i:=λe=>⟨(Prod.mk.inj (Prod.mk.inj e).2).1,(Prod.mk.inj (Prod.mk.inj e).2).2⟩
 repeat' split at h
 all_goals (have:=q h;first|exact .inl this|exact .inr this|exact .inr ⟨this.2,this.1⟩|exact .inl ⟨this.2,this.1⟩)
def CK (a:u≠o)(b:x≠n)(c:k<4)(d:j<4)(h:fI u o x n k=fI u o x n j):k=j:=by
 have c:k=0\/k=1\/k=2\/k=3:=by lia
 have d:j=0\/j=1\/j=2\/j=3:=by lia
 have f:n≠x:=λe=>b e.symm
 have g:o≠u:=λe=>a e.symm
 rcases c with rfl|rfl|rfl|rfl<;>rcases d with rfl|rfl|rfl|rfl<;>first|rfl|(simp[fI,b,f,a,g] at h)
def Ak (a:k<4):fI u o n x ((k+2)%4)=fI u o x n k:=by
 have a:k=0\/k=1\/k=2\/k=3:=by lia
 rcases a with rfl|rfl|rfl|rfl<;>rfl
def Ri:(fI u o x n k).1=u\/(fI u o x n k).1=o:=by
 delta fI;split
 ·exact .inl rfl
 ·split
  ·exact .inr rfl
  ·split
   ·exact .inl rfl
   ·exact .inr rfl
theorem Dh [DecidableEq c]:∀{l m:List c},l.Nodup->(∀x∈l,x∈m)->m.length<=l.length->l.Perm m
 | [],m,_,_,h=>by rw[Wo.mp (Nat.le_zero.mp h)]
 | a::l,m,nd,hs,h=>by
  have d:=hs a fm;have b:=pA.mp nd;have g:=Dh b.2 (λx f=>(ZS λ(e:x=a)=>b.1 (e ▸ f)).mpr (hs x (gf _ f))) (by rw[Zn d];simp only[fv] at h;omega)
  exact (g.cons a).trans (List.perm_cons_erase d).symm
variable{rooms walls:List α}{ring:α->List α}{t:α->α->Bool}
noncomputable def j0(rooms:List α)(ring:α->List α)(t:α->α->Bool):List (α×α):=rooms.flatMap λx=>((ring x).filter (t x)).map λn=>(x,n)
def uI:(x,n)∈j0 rooms ring t ↔ x∈rooms/\n∈ring x/\t x n=true:=by
 delta j0;simp only[V5,bg,hF,V8];constructor
 ·rintro⟨a,c,b,⟨d,e⟩,rfl,rfl⟩;exact⟨c,d,e⟩
 ·rintro⟨c,d,e⟩;exact⟨x,c,n,⟨d,e⟩,rfl,rfl⟩
theorem Hj:(j0 rooms ring t).length=ay (λx=>(ring x).countP (t x)) rooms:=by
 delta j0;induction rooms with
 | nil=>rfl
 | cons a l b =>
  simp only[VQ,eH,b,ab,<-n6];rfl
theorem NX(eX:rooms.Nodup)(nd:∀x∈rooms,(ring x).Nodup):(j0 rooms ring t).Nodup:=by
 delta j0;induction rooms with
 | nil=>exact Wc
 | cons a l d =>
  have h:=pA.mp eX;refine nk.mpr ⟨?_,d h.2 λx b=>nd x (gf _ b),?_⟩
  ·exact gs.mpr ((oi rp (nd a fm)).imp λc e=>c (Prod.mk.inj e).2)
  ·intro p f q g e;subst e;obtain⟨n,_,rfl⟩:=bg.mp f;obtain⟨x,b,i⟩:=V5.mp g;obtain⟨m,_,e⟩:=bg.mp i;cases e;exact h.1 b
def Dp (eX:rooms.Nodup)(nd:∀x∈rooms,(ring x).Nodup)(side:α->α->Nat)(c:∀x∈rooms,∀n∈rooms,n∈ring x->t x n=true->t n x=true->False):((j0 rooms ring t).map λp=>fI u o p.1 p.2 (side p.1 p.2)).Nodup:=by
 refine gs.mpr ((NX eX nd).imp_of_mem λ{p q} f g d e=>?_)
 obtain⟨x,n⟩:=p;obtain⟨x',n'⟩:=q;obtain⟨h,i,j⟩:=uI.mp f;obtain⟨k,h5,l⟩:=uI.mp g
 rcases AG e with⟨a,b⟩|⟨a,b⟩
 ·exact d (aa7 a b)
 ·simp_all
def KR{u o:α}(C:fW rooms walls ring)(side:α->α->Nat){rows:List (α×α×α)}(a:∀x∈rooms,∀n∈rooms,n∈ring x->t x n=true->t n x=true->False)
 (c:∀x∈rooms,∀n∈ring x,fI u o x n (side x n)∈rows)(hl:rows.length=ay (λx=>(ring x).countP (t x)) rooms) :
  rows.Nodup/\∀r∈rows,r.1=u\/r.1=o:=by
 have nd:=Dp (u:=u) (o:=o) C.eX C.nd side a;have pm:=Dh nd (λr b=>by
  obtain⟨⟨x,n⟩,d,rfl⟩:=bg.mp b;obtain⟨e,f,_⟩:=uI.mp d;exact c x e n f) (by simp only[ab,Hj,hl];exact eT _)
 refine⟨pm.nodup_iff.mp nd,λr b=>?_⟩
 obtain⟨p,_,rfl⟩:=bg.mp (pm.mem_iff.mpr b);exact Ri
theorem fW.both(C:fW rooms walls ring){lt:α->α->Bool}(g:∀x∈rooms,∀n∈rooms,n∈ring x->lt x n=!lt n x) :
  2*ay (λx=>(ring x).countP λy=>!aq rooms y||lt x y) rooms=ay (λx=>(ring x).length+(ring x).countP λy=>!aq rooms y) rooms:=by
 have a:∀x∈rooms,((ring x).countP λy=>aq rooms y&&lt x y)=rooms.countP λy=>decide (y∈ring x)&&lt x y:=λx c=>qU (C.nd x c) C.eX (lt x)
 have b:∀x∈rooms,(ring x).countP (aq rooms)=rooms.countP λy=>decide (y∈ring x):=λx c=>by
  have:=qU (C.nd x c) C.eX λ_=>true
  simp at this;exact this
 have half:2*ay (λx=>(ring x).countP λy=>aq rooms y&&lt x y) rooms=ay (λx=>(ring x).countP (aq rooms)) rooms:=by
  simp only[b8 a,b8 b];have s:ay (λx=>rooms.countP λy=>decide (y∈ring x)&&lt x y) rooms=ay (λy=>rooms.countP λx=>decide (x∈ring y)&&lt x y) rooms:=by
   rw[qI λx y=>decide (y∈ring x)&&lt x y]
   refine b8 λy d=>ub λx c=>?_
   have:(y∈ring x) ↔ (x∈ring y):=⟨λh=>C.sym x c y d h,λh=>C.sym y d x c h⟩
   simp only[ey,decide_eq_true_eq];rw[this]
  have t:ay (λx=>rooms.countP λy=>decide (y∈ring x)) rooms=ay (λx=>rooms.countP λy=>decide (y∈ring x)&&lt x y) rooms+ay (λx=>rooms.countP λy=>decide (y∈ring x)&&lt y x) rooms:=by
   rw[<-fX];refine b8 λx c=>?_
   simp only[ig (λy=>decide (y∈ring x)) (λy=>lt x y)]
   congr 1;refine ub λy d=>?_
   simp only[ey,decide_eq_true_eq,um];constructor
   ·rintro⟨e,f⟩;have:=g x c y d e;rw[f] at this;exact⟨e,by simpa using this.symm⟩
   ·rintro⟨e,f⟩;have:=g x c y d e;rw[f] at this;exact⟨e,by simpa using this⟩
  lia
 have j:∀x∈rooms,((ring x).countP λy=>!aq rooms y||lt x y)=((ring x).countP λy=>!aq rooms y)+(ring x).countP λy=>aq rooms y&&lt x y:=λx _=>by
  generalize ring x=l;induction l with
  | nil=>rfl
  | cons y l i =>
   simp only[nL,nL,i];cases aq rooms y<;>cases lt x y<;>simp<;>lia
 have k:∀x∈rooms,((ring x).length+(ring x).countP λy=>!aq rooms y)=((ring x).countP λy=>!aq rooms y)+((ring x).countP λy=>!aq rooms y)+(ring x).countP (aq rooms):=λx _=>by
  generalize ring x=l;induction l with
  | nil=>rfl
  | cons y l i =>
   simp only[nL,fv];cases aq rooms y<;>simp<;>lia
 simp only[b8 j,b8 k,fX,fX]
 lia
end
noncomputable def gB(l:List Nat):List (Nat×Nat):=l.zip (l.drop 1++l.take 1)
def dJ(l:List Nat):List Nat:=(gB l).map λp=>(p.2+4-p.1)%4
def fO(l:List Nat):Bool:=(dJ l).all (λs=>decide (s<=1))&&decide ((dJ l).countP (λs=>decide (s=1))=4)
noncomputable def ic(A:List Nat)(y:Nat):List (Nat×Nat):=A.zip (A.drop 1++[y])
def yC:gB ((a::A)++(b::B))=ic (a::A) b++ic (b::B) a:=by
 show ((a::A)++(b::B)).zip ((A++(b::B))++[a])=_;rw[show (A++(b::B))++[a]=(A++[b])++(B++[a]) by simp]
 exact aa0 (by simp)
theorem Pd:(dJ (B++A)).Perm (dJ (A++B)):=by
 cases A with
 | nil=>simp
 | cons a A =>
  cases B with
  | nil=>simp
  | cons b B =>
   delta dJ;rw[yC,yC];exact List.Perm.map _ WH
def QF (h:(dJ l).Perm (dJ m)):fO l=fO m:=by
 delta fO;rw[h.countP_eq];congr 1;rw[pB,hG,hG];exact⟨λk x a=>k x (h.mem_iff.mpr a),λk x a=>k x (h.mem_iff.mp a)⟩
def EV:fO (B++A)=fO (A++B):=QF Pd
theorem sJ(m i y):ic (ia (m+1) i) y=ia m (i,i)++[(i,y)]:=by
 delta ic;induction m with
 | zero=>rfl
 | succ m a =>
  rw[L0 (n:=m+1),L0 (n:=m)] at *;simp only[List.drop_succ_cons,aa9] at *;rw[aaQ,Xc,a];rfl
def B5:ic ((a::A)++(b::B)) y=ic (a::A) b++ic (b::B) y:=by
 show ((a::A)++(b::B)).zip ((A++(b::B))++[y])=_;rw[show (A++(b::B))++[y]=(A++[b])++(B++[y]) by simp]
 exact aa0 (by simp)
def G7(a b c d):fO (ia (a+1) 0++(ia (b+1) 1++(ia (c+1) 2++ia (d+1) 3)))=true:=by
 have e:dJ (ia (a+1) 0++(ia (b+1) 1++(ia (c+1) 2++ia (d+1) 3)))=(ia a 0++[1])++((ia b 0++[1])++((ia c 0++[1])++(ia d 0++[1]))):=by
  have p:gB (ia (a+1) 0++(ia (b+1) 1++(ia (c+1) 2++ia (d+1) 3)))=ic (ia (a+1) 0) 1++(ic (ia (b+1) 1) 2++(ic (ia (c+1) 2) 3++ic (ia (d+1) 3) 0)):=by
   refine (yC).trans ?_;congr 1;refine (B5).trans ?_;congr 1;exact B5
  delta dJ;simp only[p,sJ,sJ,sJ];simp
 delta fO;rw[e];simp[List.countP_replicate]
section
noncomputable def top(i:Nat):Stmt:=PySem.Challenge.pw_roomtouch_k11_tintings_looked_at.main.body.getD i (.Pass ⟨0,0,0,0⟩)
local macro_rules | `(tactic| walk_at "sc")=>`(tactic| exact⟨rfl,rfl,rfl,by decide +kernel,rfl,by decide +kernel,by decide +kernel⟩)
abbrev uX:Stmt:=top 8
def EY:bH ["wall"] ["wall"] (aV uX):=by walk_at "sc"
abbrev xS:Stmt:=top 9
def Ca:bH ["thing"] ["thing"] (aV xS):=by walk_at "sc"
abbrev uD:Stmt:=top 10
def Et:bH ["thing"] ["thing"] (aV uD):=by walk_at "sc"
abbrev xE:Stmt:=top 11
def Aw:bH ["room","ring","names"] ["room","ring","names"] (aV xE):=by walk_at "sc"
abbrev vn:Stmt:=top 12
def DZ:bH ["web","rooms","names"] ["web"] (aV vn):=by walk_at "sc"
abbrev vG:Stmt:=top 13
def Fb:bH ["rings","room","name"] ["rings"] (aV vG):=by walk_at "sc"
abbrev v7:Stmt:=top 14
def Eb:bH ["rings","corners","room","ring","name","behind"] ["rings"] (aV v7):=by walk_at "sc"
abbrev vE:Stmt:=top 15
def CB:bH ["corner","corners","room","name","behind"] ["corner","corners"] (aV vE):=by walk_at "sc"
abbrev xq:Stmt:=top 16
def DB:bH ["rings","corners"] ["rings"] (aV xq):=by walk_at "sc"
abbrev uV:Stmt:=top 17
def Cg:bH ["rings","wall","first","row","name","ring"] ["rings","wall","first"] (aV uV):=by walk_at "sc"
abbrev vw:Stmt:=top 18
def zN:bH ["rings","wall","corners","firsts","tied"] ["rings","wall"] (aV vw):=by walk_at "sc"
abbrev vf:Stmt:=top 19
def Bl:bH ["ring","names"] ["ring","names"] (aV vf):=by walk_at "sc"
abbrev xf:Stmt:=top 20
def DM:bH ["rings","reached","turn"] ["rings"] (aV xf):=by walk_at "sc"
abbrev vI:Stmt:=top 21
def CU:bH ["rings","ties","room","name"] ["rings"] (aV vI):=by walk_at "sc"
abbrev yE:Stmt:=top 22
def y0:bH ["rings","threes","corner"] ["rings"] (aV yE):=by walk_at "sc"
abbrev xG:Stmt:=top 23
def CN:bH ["web","rings"] ["web"] (aV xG):=by walk_at "sc"
abbrev wj:Stmt:=top 25
def C1:bH ["room","name","side"] ["room","name","side"] (aV wj):=by walk_at "sc"
abbrev uO:Stmt:=top 26
def Az:bH ["sides","turns","side","behind"] ["sides"] (aV uO):=by walk_at "sc"
abbrev xY:Stmt:=top 27
def CF:bH ["room","ring","rows","sides","name","told"] ["room","ring","rows"] (aV xY):=by walk_at "sc"
abbrev wH:Stmt:=top 28
def zl:bH ["web","rows","rings"] ["web","rows"] (aV wH):=by walk_at "sc"
abbrev xt:Stmt:=top 30
def AE:bH ["_law_cell","_law_k","_law_number"] ["_law_cell","_law_k"] (aV xt):=by walk_at "sc"
abbrev wc:Stmt:=top 31
def zU:bH ["_law_script","_law_cells","_law_number","_law_k"] ["_law_script"] (aV wc):=by walk_at "sc"
abbrev vD:Stmt:=top 32
def zM:bH ["_law_purse_here","_law_out_of","_law_drawn"] ["_law_purse_here","_law_out_of"] (aV vD):=by walk_at "sc"
abbrev vA:Stmt:=top 33
def D5:bH ["_law_purse_here","_law_many","_law_letters","_law_long","_law_stem","_law_at","_law_found","_law_k","_law_spots","_law_name"] ["_law_purse_here","_law_many"] (aV vA):=by walk_at "sc"
abbrev xn:Stmt:=top 34
def ze:bH ["_law_purse_here","_law_rows","_law_name","_law_at","_law_low","_law_room","_law_lines","_law_line","_law_lower","_law_upper"] ["_law_purse_here","_law_rows","_law_name"] (aV xn):=by walk_at "sc"
abbrev xi:Stmt:=top 35
def AK:bH ["_law_purse_here","_law_most","_law_names_here","_law_rows","_law_count","_law_k","_law_wide"] ["_law_purse_here","_law_most"] (aV xi):=by walk_at "sc"
abbrev vR:Stmt:=top 36
def Dx:bH ["_law_one","_law_other","_law_low"] ["_law_one","_law_other","_law_low"] (aV vR):=by walk_at "sc"
abbrev xM:Stmt:=top 37
def zr:bH ["_law_rows","_law_one","_law_low","_law_way_here","_law_found","_law_other","_law_near"] ["_law_rows","_law_one","_law_low","_law_way_here"] (aV xM):=by walk_at "sc"
abbrev vX:Stmt:=top 38
def Aq:bH ["_law_rows","_law_one","_law_above","_law_right_here","_law_beneath","_law_left"] ["_law_rows","_law_one"] (aV vX):=by walk_at "sc"
abbrev uU:Stmt:=top 39
def Cr:bH ["_law_rows"] ["_law_rows"] (aV uU):=by walk_at "sc"
abbrev wQ:Stmt:=top 40
def BX:bH ["_law_purse_here","_law_web_here","_law_at","_law_found","_law_room","_law_row","_law_far"] ["_law_purse_here","_law_web_here"] (aV wQ):=by walk_at "sc"
abbrev wO:Stmt:=top 41
def DC:bH ["_law_web_here","_law_floor_here","_law_rows","_law_found","_law_room","_law_row","_law_name"] ["_law_web_here","_law_floor_here"] (aV wO):=by walk_at "sc"
abbrev vY:Stmt:=top 42
def yQ:bH ["_law_rows","_law_room","_law_name","_law_some"] ["_law_rows","_law_room","_law_name"] (aV vY):=by walk_at "sc"
abbrev xy:Stmt:=top 43
def zf:bH ["_law_sides","_law_ways","_law_steps"] ["_law_sides"] (aV xy):=by walk_at "sc"
abbrev vm:Stmt:=top 44
def AH:bH ["_law_web_here","_law_rows","_law_shuts","_law_many","_law_room","_law_row","_law_sides","_law_name","_law_side_here"] ["_law_web_here","_law_rows"] (aV vm):=by walk_at "sc"
abbrev wV:Stmt:=top 45
def Dr:bH ["_law_rows","_law_room","_law_shuts","_law_found","_law_word","_law_one","_law_other"] ["_law_rows","_law_room","_law_shuts"] (aV wV):=by walk_at "sc"
abbrev vP:Stmt:=top 46
def BZ:bH ["_law_purse_here","_law_rows","_law_at","_law_word","_law_one","_law_other","_law_kind"] ["_law_purse_here","_law_rows"] (aV vP):=by walk_at "sc"
abbrev yN:Stmt:=top 47
def zL:bH ["_law_web_here","_law_rows","_law_handed","_law_kept","_law_found","_law_due"] ["_law_web_here","_law_rows"] (aV yN):=by walk_at "sc"
abbrev yx:Stmt:=top 48
def Fj:bH ["_law_script","_law_purse_here","_law_floor_here","_law_web_here","_law_rows","_law_k","_law_far"] ["_law_script"] (aV yx):=by walk_at "sc"
structure Txt (mg:fk->Option cA):Prop where
 len:mg "len"=none
 int:mg "int"=none
 Se:mg "isinstance"=none
 oR:mg "range"=none
 min:mg "min"=none
 max:mg "max"=none
 all:mg "all"=none
 dict:mg "dict"=none
 sorted:mg "sorted"=none
 tuple:mg "tuple"=none
 list:mg "list"=none
 str:mg "str"=none
 bool:mg "bool"=none
end
section
variable{P:lT}{w:px}{A:r0}{E:cA->ee->Prop}{s:ee}{X:Cx}{pos:z8}{e:hY}
theorem E3 {Q:cA->ee->Prop}{Fin:qt->Prop}(hl:s.heap.IsList l items)(T:∀(led:Bool) (R:ZF->ee->Prop) (I:eu) (f:qt),f=((s.heap.push {cls:=.type "set",dict:=none,data:=.set #[] 0 (.fresh 0 0 led)}).push {cls:=.type "list_iterator",data:=.fields #[.ref l,.int 0 0]})->l≠I->s.heap.objs.size∉[I,l]->f.get? s.heap.objs.size=some {cls:=.type "set",dict:=none,data:=.set #[] 0 (.fresh 0 0 led)}->f.IsList l items->(∃o,f.get? I=some o/\o.cls=.type "list_iterator"/\o.data=.fields #[.ref l,.int 0 0]) ->
   (∀s',Moved [s.heap.objs.size,I] (λa b=>b=a) {s with heap:=f} s'->Fin s'.heap->R (.ok (.ret .none)) s')->XH (ma P w) A.in1.in1 (.builtin "set.update.loop" ⟨[.ref s.heap.objs.size,.ref I],[]⟩) R {s with heap:=f})(h:∀(h':qt) (tk:Nat),Fin h'->(∀b o,b<s.heap.objs.size->s.heap.get? b=some o->h'.get? b=some o)->Q (.ref s.heap.objs.size) {s with heap:=h',toks:=tk}) :
  iN (ma P w) A (call (.type "set") [.ref l]) Q E s:=by
 obtain⟨c,tl,hmro⟩:=Rr.mro;have hmade:=PySem.F.called_set.made;have hsub:=Rr.sub;refine wpAny_call (codeAny_of_tree ?_);show iN _ _ (callAny (.type "set") _) _ _ _;refine eR ⟨Code.quiet_builtin _ (by decide +kernel),VU PySem.F.entry_type_call ?_⟩
 rw[Around.under_plain (weight_type_call_type "set" [.ref l] []) rfl];have f:=Rr.notType;have h2:=Rr.canCreate;have hct:=PySem.F.typeCall_set_1 (.ref l)
 repeat (any_goals (first|assumption|wp_step))
 refine X7 (code_set_new_1 (.ref l) (E:=E) (Q₁:=λobj g=>∃led:Bool,obj=.ref s.heap.objs.size/\g={s with heap:=s.heap.push {cls:=.type "set",dict:=none,data:=.set #[] 0 (.fresh 0 0 led)} }) λled=>⟨led,rfl,rfl⟩) λr g y=>?_
 cases r with
 | error e=>exact y
 | ok fl =>
  cases fl with
  | ret obj =>
   obtain⟨led,rfl,rfl⟩:=y;have G:(s.heap.push {cls:=.type "set",dict:=none,data:=.set #[] 0 (.fresh 0 0 led)}).get? s.heap.objs.size=some {cls:=.type "set",dict:=none,data:=.set #[] 0 (.fresh 0 0 led)}:=k5 _ rfl;have U:Shared.TypeIs {s with heap:=s.heap.push {cls:=.type "set",dict:=none,data:=.set #[] 0 (.fresh 0 0 led)} } (.ref s.heap.objs.size) "set":=⟨_,G,rfl⟩
   have hli:=Rr.init.lookup;have hbi:=Rr.init.bind (.ref s.heap.objs.size)
   repeat (any_goals (first|assumption|wp_step))
   refine X7 (codeAny_call_builtin (R:=wants (λr i=>r=.none/\∃h' tk,i={s with heap:=h',toks:=tk} /\
     Fin h' /\
     (∀b o,b<s.heap.objs.size->s.heap.get? b=some o->h'.get? b=some o)) E) Rr.init.plain PySem.F.entry_set_init (check_set_init_1 U ?_)) λz i d=>?_
   ·obtain⟨V,q,t,nl,u⟩:=hl;obtain⟨ocls,m,odata,j⟩:=V;simp only at t u;subst t;subst u;have B:(s.heap.push {cls:=.type "set",dict:=none,data:=.set #[] 0 (.fresh 0 0 led)}).get? l=some {cls:=.type "list",dict:=m,data:=.seq items nl,slots:=j}:=fj _ q;have hsls:=PySem.F.sub_list_set;have hslf:=PySem.F.sub_list_frozenset;have hne:(Z6 "list" == Z6 "dict")=false:=by decide
    have v:(s.heap.push {cls:=.type "set",dict:=none,data:=.set #[] 0 (.fresh 0 0 led)}).IsList l items:=⟨_,B,rfl,nl,rfl⟩;unfold W6.«set.__init__» noKeywords aaX
    generalize H:abd=PI
    wp_walk
    subst H;refine V0 v (bt (wpAny_runValue ?_));have x:l<s.heap.objs.size:=gi q;have C:l≠(s.heap.push {cls:=.type "set",dict:=none,data:=.set #[] 0 (.fresh 0 0 led)}).objs.size:=by
     rw[Xb];exact iW (Xq x)
    have J:s.heap.objs.size∉[(s.heap.push {cls:=.type "set",dict:=none,data:=.set #[] 0 (.fresh 0 0 led)}).objs.size,l]:=by
     rw[Xb];simp only[f',kq,hO,or_false,not_or];exact⟨iW (V' _),Yw x⟩
    have D:((s.heap.push {cls:=.type "set",dict:=none,data:=.set #[] 0 (.fresh 0 0 led)}).push {cls:=.type "list_iterator",data:=.fields #[.ref l,.int 0 0]}).get? s.heap.objs.size=some {cls:=.type "set",dict:=none,data:=.set #[] 0 (.fresh 0 0 led)}:=fj _ G;refine T led _ _ _ rfl C J D (v.push _) ⟨_,k5 _ rfl,rfl,rfl⟩ ?W
    case W =>
     intro s' n k;obtain⟨h',g',d',K,L⟩:=s';have Y:g'=s.gens:=n.gens;have Z:d'=s.drawn:=n.drawn;have eo:L=s.os:=n.os;subst Y;subst Z;subst eo;show iN _ _ _ _ _ _;refine eR ?_;show iN _ _ (ret u3) _ _ _;refine eR ⟨rfl,h',K,rfl,k,λb o M e=>?_⟩
     have N:b≠s.heap.objs.size:=iW M;have O:b≠(s.heap.push {cls:=.type "set",dict:=none,data:=.set #[] 0 (.fresh 0 0 led)}).objs.size:=by
      rw[Xb];exact iW (Xq M)
     refine n.heap b o ?_ (fj _ (fj _ e));simp only[f',kq,hO,or_false,not_or];exact⟨N,O⟩
   ·cases z with
    | error e=>exact d
    | ok p =>
     cases p with
     | ret r =>
      obtain⟨rfl,h',tk,rfl,k,S⟩:=d
      repeat (any_goals (first|assumption|wp_step))
      exact h _ _ k S
     | _=>exact d.elim
  | _=>exact y.elim
theorem KU(bs:List Bool):((hI bs.length).any λi=>(bs[i]?).getD false)=bs.any id:=by
 induction bs with
 | nil=>rfl
 | cons b r a =>
  simp only[fv,Zx,XO,VL,<-a];rfl
def IL(g:X.calm=true):bN X (.builtin "any") (λxs H Q=>∃(p:eu) (bs:List Bool),xs=[.ref p]/\Rd H p (.lst (bs.map V.bl))/\Q (.bl (bs.any id)) H):=by
 intro pins s σ H xs us Q I r h;obtain⟨p,bs,rfl,j,q⟩:=h;obtain⟨u,rfl,k⟩:=r.one;subst k;obtain⟨z,its,n,l,e⟩:=j.ok I.aw;have c:=xN l;subst c;have d:s.heap.IsList p (bs.map Hz).toArray:=⟨_,e,rfl,n,rfl⟩;have m:p<s.heap.objs.size:=gi e;refine call_any_walk (V0 d ⟨s.heap.objs.size,[s.heap.objs.size,p],[s.heap.objs.size],(bs.map Hz).toArray.size,_,_,λi=>(bs[i]?).getD false,rfl,
  Walks.list (A:=X.A.in1) (I.ok.hd g) _ p (iW m) (bs.map Hz).toArray,⟨⟨_,k5 _ rfl,rfl,rfl⟩,d.push _⟩,λi v s' Q' E' a f=>?_,λh' tk o=>?_⟩)
 ·have a:(bs.map Hz)[i]?=some v:=by simpa using a
  rw[cR] at a;obtain⟨b,c,a⟩:=oM a;obtain rfl:=sO a;simp[c] at f;exact Vr f
 ·have t:(hI (bs.map Hz).toArray.size).any (λi=>(bs[i]?).getD false)=bs.any id:=by
   rw[ft,ab];exact KU bs
  rw[t];refine⟨.bl _,H,?_,rfl,q⟩;exact I.kept λb x ex=>o b x (λy=>by rw[kq.mp y] at ex;exact za _ (gi ex)) (fj _ ex)
theorem ints_get:∀{ns:List Int}{its:List cA}{i:Nat}{v:cA},aH (ns.map V.int) its->its[i]?=some v->∃t,v=.int ((ns[i]?).getD 0) t
 | [],_,i,v,h,e=>by cases h;simp at e
 | n::ns,_,0,v,h,e=>by
  cases h with
  | cons r t =>
   obtain⟨tk,rfl⟩:=r;simp at e;exact⟨tk,e.symm⟩
 | n::ns,_,i+1,v,h,e=>by
  cases h with
  | cons r t =>
   have:=ints_get (i:=i) (v:=v) t (by simpa using e)
   simpa using this
theorem Ax:∀{ns:List fk}{its:List cA}{i:Nat}{v:cA},aH (ns.map V.str) its->its[i]?=some v->∃t,v=.str ((ns[i]?).getD VN) t
 | [],_,i,v,h,e=>by cases h;simp at e
 | n::ns,_,0,v,h,e=>by
  cases h with
  | cons r t =>
   obtain⟨tk,rfl⟩:=r;simp at e;exact⟨tk,e.symm⟩
 | n::ns,_,i+1,v,h,e=>by
  cases h with
  | cons r t =>
   have:=Ax (i:=i) (v:=v) t (by simpa using e)
   simpa using this
noncomputable def h9(ns:List Int):Int:=(ns[argBest (λi j=>decide ((ns[i]?).getD 0>(ns[j]?).getD 0)) (ns.length-1)]?).getD 0
noncomputable def MB(ns:List fk):Str:=(ns[argBest (λi j=>decide (((ns[i]?).getD VN).cps.toList<((ns[j]?).getD VN).cps.toList)) (ns.length-1)]?).getD VN
theorem FR{its:List cA}{s:ee}{p:eu}(c:p<s.heap.objs.size){o:KX}:∀b∈[s.heap.objs.size,p],b<(s.heap.push o).objs.size:=fun b a=>by
 rw[Xb];simp at a
 rcases a with rfl|rfl
 ·exact V' _
 ·exact Xq c
theorem M2(k:X.calm=true):bN X (.builtin "max") (fun xs H Q=>∃(p:eu) (ns:List Int),xs=[.ref p]/\Rd H p (.lst (ns.map V.int))/\ns≠[]/\Q (.int (h9 ns)) H):=by
 intro pins s σ H xs us Q I r h;obtain⟨p,ns,rfl,l,d,q⟩:=h;obtain⟨u,rfl,m⟩:=r.one;subst m;obtain⟨z,its,n,a,e⟩:=l.ok I.aw;have f:s.heap.IsList p its.toArray:=⟨_,e,rfl,n,rfl⟩;have g:=gi e;have j:its.length=ns.length:=by have:=a.length;simpa using this.symm
 have h0:0<ns.length:=qo.mpr d;refine call_max_walk (V0 f ⟨s.heap.objs.size,[s.heap.objs.size,p],[s.heap.objs.size],its.toArray.size,_,_,_,rfl,
  Walks.list (A:=X.A.in1) (I.ok.hd k) _ p (iW g) its.toArray,⟨⟨_,k5 _ rfl,rfl,rfl⟩,f.push _⟩,FR (its:=its) g,by rw[ft];lia,CmpOf.ints_gt (fun i=>(ns[i]?).getD 0) (fun i v c=>ints_get a (by simpa using c)),fun v h' tk c o=>?_⟩)
 obtain⟨t,rfl⟩:=ints_get a (show its[_]?=some v by simpa using c)
 refine⟨.int (h9 ns),H,?_,⟨t,?_⟩,q⟩
 ·exact I.kept fun b x ex=>o b x (fun y=>by rw[kq.mp y] at ex;exact za _ (gi ex)) (fj _ ex)
 ·rw[j];rfl
noncomputable def jZ:List Dat->Option (List Int)
 | []=>some []
 | .int x::r=>(jZ r).map (x::·)
 | _::_=>none
theorem vi{K:gj}{H:Hp}:∀{ds:List Dat}{vs:List V}{ys:List Int},jZ ds=some ys->az K H ds vs->vs=ys.map V.int
 | [],_,_,e,r=>by obtain rfl:=sO e;exact r
 | d::ds,_,_,e,⟨v,vr,a,b,rs⟩=>by
  cases d with
  | int x =>
   obtain⟨ys',c,e⟩:=oM e;obtain rfl:=sO e;simp only[a,vi c rs];subst b;rfl
  | _=>exact nO e
def tj:List Dat->Option Res
 | [.lst ds]=>(jM ds).map λbs=>.dat (.bl (bs.any id))
 | _=>none
def O8:CD X (λxs H Q=>∃(p:eu) (bs:List Bool),xs=[.ref p]/\Rd H p (.lst (bs.map V.bl))/\Q (.bl (bs.any id)) H) tj:=by
 intro H0 ps Z σ H c vs ds o Q e S r k;delta tj at e;split at e
 ·obtain⟨bs,d,e⟩:=oM e;obtain rfl:=sO e;obtain⟨v,vr,rfl,⟨a,ws,rfl,b,rs⟩,f⟩:=r;subst f;rw[yh d rs] at b;exact⟨a,bs,rfl,Rd.mono S.sub b,k _ H c S (aj.refl _) rfl⟩
 ·exact nO e
def sZ:List Dat->Option Res
 | [.lst ds]=>(jZ ds).bind λns=>if ns=[] then none else some (.dat (.int (h9 ns)))
 | _=>none
def FG:CD X (λxs H Q=>∃(p:eu) (ns:List Int),xs=[.ref p]/\Rd H p (.lst (ns.map V.int))/\ns≠[]/\Q (.int (h9 ns)) H) sZ:=by
 intro H0 ps Z σ H d vs ds o Q e S r k;delta sZ at e;split at e
 ·obtain⟨ns,f,e⟩:=oA e;have e:=e
  split at e
  ·exact nO e
  ·rename_i b;obtain rfl:=sO e;obtain⟨v,vr,rfl,⟨a,ws,rfl,c,rs⟩,g⟩:=r;subst g;rw[vi f rs] at c;exact⟨a,ns,rfl,Rd.mono S.sub c,b,k _ H d S (aj.refl _) rfl⟩
 ·exact nO e
def KY (a:X.calm=true)(b:Gl X "any")(c:X.mg "any"=none)(d:bK X e [])(f:DA X [e] fa):DE X (.Call (.Name "any" p) [e] [] pos) (cg tj fa):=iT (IL a) O8 b c (by decide +kernel) f (by decide) rfl d rfl
def Ru (a:X.calm=true)(b:Gl X "max")(c:X.mg "max"=none)(d:bK X e [])(f:DA X [e] fa):DE X (.Call (.Name "max" p) [e] [] pos) (cg sZ fa):=iT (M2 a) FG b c (by decide +kernel) f (by decide) rfl d rfl
noncomputable def ltI(fs:List Int)(i j:Nat):Bool:=decide (fs.getD i 0<fs.getD j 0)
def QI (nd:fs.Nodup):Ord (ltI fs) fs.length where
 trans:=λi j k c a=>decide_eq_true (Int.lt_trans (of_decide_eq_true c) (of_decide_eq_true a))
 total:=λi j d f b=>by
  delta ltI;rw[dN d,dN f]
  by_cases h:fs[i]<fs[j]
  ·exact .inl (decide_eq_true h)
  ·refine .inr (decide_eq_true ?_)
   by_cases a:fs[j]<fs[i]
   ·exact a
   ·have e:fs[i]=fs[j]:=by lia
    exact absurd ((Vb nd).mp e) b
 fB:=λi=>decide_eq_false (Int.lt_irrefl _)
def nZ(K:gj)(H:Hp)(vs:List V)(fs:List Int):Prop:=vs.length=fs.length/\∀(i:Nat) (f:Int),fs[i]?=some f->∃a b,vs[i]?=some (.ref a)/\aX K H a b/\b[0]?=some (.int f)
def O6(fs:List Int)(vs out:List V):Prop:=∃q:Array Nat,cY q vs.length/\eE (ltI fs) q vs.length/\out=q.toList.map λi=>vs.getD i .bj
def BD(K:gj):List V->Hp->VK->Prop:=λxs H Q=>∃p vs fs,xs=[.ref p]/\Rd H p (.lst vs)/\nZ K H vs fs/\fs.Nodup/\vs.length<64/\∀out,O6 fs vs out->∀l,H l=none->Q (.ref l) (upd H l (.lst out))
theorem xb (I:Inv X j q H s):∀{fs:List Int}{vs:List V}{its:List cA},nZ X.K H vs fs->aH vs its ->
  ∃c:List cA,Y0 s.heap its c/\c.length=fs.length/\(∀v∈c,∃x t,v=W5 x t)/\∀(i:Nat) (f:Int),fs[i]?=some f->∃a o xs n t,its[i]?=some (.ref a)/\s.heap.get? a=some o/\o.data=.seq xs n/\xs[0]?=some (W5 f t)
 | [],[],_,h,r=>by
  cases r;exact⟨[],.nil,rfl,λv k=>by simp at k,λi f e=>by simp at e⟩
 | [],_::_,_,h,_=>by simp[nZ] at h
 | _::_,[],_,h,_=>by simp[nZ] at h
 | f::fs,v::vs,_,h,r=>by
  cases r with
  | cons y rs =>
   obtain⟨a,ws,B,C,D⟩:=h.2 0 f rfl;obtain rfl:=sO B;subst y;have h':nZ X.K H vs fs:=⟨by simpa using h.1,λi g e=>by
    obtain⟨b,us,l,m,F⟩:=h.2 (i+1) g (by simpa using e)
    exact⟨b,us,by simpa using l,m,F⟩⟩
   obtain⟨c,G,J,L,M⟩:=xb I h' rs;obtain⟨its,N,⟨o,p,O,n,hd⟩,_⟩:=I.tuple C;obtain⟨u,Q,R⟩:=N.get D;obtain⟨t,rfl⟩:=R;have d:its.toArray[0]?=some (W5 f t):=by simpa using Q
   refine⟨W5 f t::c,.cons p O hd d G,by simp[J],λv k=>?_,λi g e=>?_⟩
   ·rcases f'.mp k with z|z
    ·exact⟨f,t,z⟩
    ·exact L v z
   ·cases i with
    | zero =>
     simp at e;subst e;exact⟨a,o,_,n,t,rfl,p,hd,d⟩
    | succ i =>
     obtain⟨b,S,xs,T,t',l,m⟩:=M i g (by simpa using e)
     exact⟨b,S,xs,T,t',by simpa using l,m⟩
theorem Nu(G:X.ex=[]):bN X (.builtin "sorted") (BD X.K):=by
 intro pins s σ H xs us Q I r h;obtain⟨p,vs,fs,rfl,S,c,nd,J,q⟩:=h;obtain⟨u,rfl,U⟩:=r.one;subst U;refine u4 G (T:=.type "int") I S J (by rw[c.1];exact QI nd) (by decide) (λits B=>?_) (λits B i j D F L h' n C V=>?_) q
 ·obtain⟨Y,Z,kl,ks,_⟩:=xb I c B;refine⟨Y,Z,by rw[kl];exact c.1.symm,λv hv h=>?_⟩
  obtain⟨x,t,rfl⟩:=ks v hv;exact Yu rfl
 ·obtain⟨_,_,_,_,y⟩:=xb I c B;rw[c.1] at D F;obtain⟨a,o,xs,n1,t1,a1,a2,M,d⟩:=y i _ (cm D);obtain⟨b,o',ys,n2,t2,b1,b2,N,f⟩:=y j _ (cm F);have ea:its.getD i u3=.ref a:=by rw[n4,a1];rfl
  have eb:its.getD j u3=.ref b:=by rw[n4,b1];rfl
  show iN _ _ (keyLt' _ (its.getD i u3) (its.getD j u3)) C _ _;rw[ea,eb];refine abG (n _ _ _ _ M a2) M (n _ _ _ _ N b2) N ?_;obtain⟨g,k,ex⟩:∃g k,xs.toList=g::k:=by
   cases hx:xs.toList with
   | nil =>
    rw[<-gW,hx] at d;exact nO d
   | cons g k=>exact⟨g,k,rfl⟩
  obtain⟨l,m,O⟩:∃l m,ys.toList=l::m:=by
   cases hy:ys.toList with
   | nil =>
    rw[<-gW,hy] at f;exact nO f
   | cons l m=>exact⟨l,m,rfl⟩
  rw[<-gW,ex] at d;rw[<-gW,O] at f;obtain rfl:=sO d;obtain rfl:=sO f;simp only[ex,O,Xc];have R:fs[i]≠fs[j]:=λz=>L ((Vb nd).mp z)
  refine aaW (abA ?_);simp only[beq_eq_false_iff_ne.mpr R];refine abF (oneLt_int ?_);have:ltI fs i j=decide (fs[i]<fs[j]):=by unfold ltI;rw[dN D,dN F]
  simp only[<-this];exact V
noncomputable def oP:Dat->Option Int
 | .tup (.int x::_)=>some x
 | _=>none
noncomputable def firstsI:List Dat->Option (List Int)
 | []=>some []
 | d::r=>(oP d).bind λx=>(firstsI r).map (x::·)
def iu(d:Dat):Int:=(oP d).getD 0
def fM(a b:Dat):Bool:=decide (iu a<=iu b)
def tF(ds:List Dat):List Dat:=ds.mergeSort fM
theorem Cz:∀{ds:List Dat}{fs:List Int},firstsI ds=some fs->fs=ds.map iu/\∀d∈ds,∃x,oP d=some x
 | [],_,e=>by obtain rfl:=sO e;exact⟨rfl,λd h=>by simp at h⟩
 | d::r,_,e=>by
  obtain⟨x,a,e⟩:=oA e;obtain⟨ys,b,e⟩:=oM e;obtain rfl:=sO e;obtain⟨c,f⟩:=Cz b;refine⟨by simp[iu,a,c],λd' hd=>?_⟩
  rcases f'.mp hd with z|z
  ·exact⟨x,by simp only[z,a]⟩
  ·exact f d' z
theorem zO{K:gj}{H h:Hp}(s:aj h H):∀{ds:List Dat}{vs:List V}{fs:List Int},firstsI ds=some fs->az K h ds vs->nZ K H vs fs
 | [],_,_,e,r=>by
  obtain rfl:=sO e;rw[show _=[] from r]
  exact⟨rfl,λi f e=>by simp at e⟩
 | d::ds,_,_,e,⟨v,vr,k,l,rs⟩=>by
  obtain⟨x,b,e⟩:=oA e;obtain⟨ys,m,e⟩:=oM e;obtain rfl:=sO e;obtain⟨n,o⟩:=zO s m rs;simp[k];refine⟨by simp[n],λi f c=>?_⟩
  cases i with
  | zero =>
   simp at c;subst c;delta oP at b;split at b
   ·obtain rfl:=sO b;obtain⟨p,g,rfl,q,w1,wr,t,j,_⟩:=l;subst j;exact⟨p,g,rfl,aX.mono s q,by rw[t];rfl⟩
   ·exact nO b
  | succ i =>
   obtain⟨a,g,u,y⟩:=o i f (c)
   exact⟨a,g,by simpa using u,y⟩
def Jm(a b c)(h1:fM a b=true)(h2:fM b c=true):fM a c=true:=by
 delta fM at *;simp at *
 lia
def ON(a b):(fM a b||fM b a)=true:=by
 delta fM;simp
 lia
def Gu (nd:(ds.map iu).Nodup)(P:cY q ds.length)(U:eE (ltI (ds.map iu)) q ds.length):(q.toList.map λi=>ds.getD i .bj)=tF ds:=by
 have pm:(q.toList.map λi=>ds.getD i .bj).Perm ds:=by
  have:=P.pm.map (λi=>ds.getD i .bj)
  rw[wa] at this;exact this
 have m:∀i,i<ds.length->iu (ds.getD i .bj)=(ds.map iu).getD i 0:=λi c=>by
  rw[dN c,dN (by simpa using c)]
  simp
 have g:(q.toList.map λi=>ds.getD i .bj).Pairwise (λa b=>fM a b=true/\a∈ds/\b∈ds):=by
  rw[qe];intro i j c d n;have o:i<ds.length:=by rw[<-P.size];simpa using c
  have f:j<ds.length:=by rw[<-P.size];simpa using d
  refine⟨?_,pm.mem_iff.mp (V6 _),pm.mem_iff.mp (V6 _)⟩;have u:=U i j n f;have v:q.toList[i]'(by simpa using c)=q.getD i 0:=by
   simp only[me,iR (by simpa using c)]
   simp
  have x:q.toList[j]'(by simpa using d)=q.getD j 0:=by
   simp only[me,iR (by simpa using d)]
   simp
  simp only[T',v,x];delta fM;simp only[m _ (P.lt i o),m _ (P.lt j f)];have u:=of_decide_eq_true u;exact decide_eq_true (Int.le_of_lt u)
 have k:(tF ds).Pairwise (λa b=>fM a b=true/\a∈ds/\b∈ds):=by
  have h:=wm (le:=fM) Jm ON ds;refine VS (λy z p=>⟨p,?_,?_⟩) h
  ·exact (ib ds fM).mem_iff.mp y
  ·exact (ib ds fM).mem_iff.mp z
 refine mK (λa b l B=>?_) (pm.trans (ib ds fM).symm) g k
 have e:=X4 (of_decide_eq_true l.1) (of_decide_eq_true B.1);obtain⟨i,c,r⟩:=nR l.2.1;obtain⟨j,d,t⟩:=nR l.2.2;have C:(ds.map iu)[i]'(by simpa using c)=(ds.map iu)[j]'(by simpa using d):=by simp[r,t,e]
 have D:=(Vb nd).mp C;subst D;simp only[<-r,t]
def qd:List Dat->Option Res
 | [.lst ds]=>(firstsI ds).bind λfs=>if fs.Nodup/\ds.length<64 then some (.own (.lst (tF ds))) else none
 | _=>none
def N3:CD X (λxs H Q=>BD X.K xs H Q) qd:=by
 intro H0 ps Z σ H h vs ds o Q a S r k;delta qd at a;split at a
 ·obtain⟨fs,d,a⟩:=oA a;split at a
  ·rename_i c;obtain rfl:=sO a;obtain⟨v,vr,rfl,⟨p,j,rfl,m,rs⟩,n⟩:=r;subst n;have b:=rs.length;refine⟨p,j,fs,rfl,Rd.mono S.sub m,zO S.sub d rs,c.1,by rw[b];exact c.2,λout ⟨q,P,U,t⟩ l hl=>?_⟩
   obtain⟨f,_⟩:=Cz d;subst f;simp[b] at P U;have u:=Gu c.1 P U;subst t;have g:=az.pick rs q.toList (λi x=>by rw[b];exact pY P i x)
   rw[u] at g;exact k (.ref l) _ h (S.made hl) (aj.refl _) ⟨l,rfl,⟨_,ba,g,S.dw hl⟩,(S.bJ hl).2,(S.bJ hl).1,S.dP hl⟩
  ·exact nO a
 ·exact nO a
def C5 (a:X.ex=[])(b:Gl X "sorted")(c:X.mg "sorted"=none)(d:bK X e [])(f:DA X [e] fa):DE X (.Call (.Name "sorted" p) [e] [] pos) (cg qd fa) :=
 iT (Nu a) N3 b c (by decide +kernel) f (by decide) rfl d rfl
end
section
variable{X:Cx}
def JN (g:X.A.units+65<y3)(b:W4 o "index" X.env (eval o X.env)=eval o X.env)(d:pj X pos e)(c:(a.endLine==pos.line)=true)(hs:bK X e [])(h:DD X o f)(i:DA X [e] fa):DD X (.Call (.Attribute o "index" a) [e] [] pos) (qE f fa) :=
 HK h i (λj k=>tK Y7 ZR PySem.F.type_list_index (K0 g) j k b d c hs rfl)
def AN(d:eu)(o:KX)(kvs:List (Key×V)):It:=⟨λi H=>H d=some (.bu o (.dK kvs))/\i<kvs.length,λi H v a=>a=H/\∃k x,kvs[i]?=some (k,x)/\v=kV k,λi H=>H d=some (.bu o (.dK kvs))/\kvs.length<=i⟩
def M7 (h:jB k u=true):RelV (kV k) u:=by
 rcases jl h with⟨i,t,rfl,rfl⟩|⟨x,t,rfl,rfl⟩
 ·exact⟨t,rfl⟩
 ·exact⟨t,rfl⟩
def JB{P:lT}{w:px}{K:gj}{J:hY}{d it:eu}{o:KX}{kvs:List (Key×V)}{vs:List (Key×cA)}{ep:Nat}(p:KV kvs vs)(hne:d≠it)(hA:∀h:qt,h.get? d=some o->h.DictAt (cP P w) d vs ep) :
  Turn P w K J (AN d o kvs) [it] it (λi h=>h.IsKeyIter it d i vs.length ep) where
 mem:=by simp
 obj:=λi h st b a=>by
  have e:b=it:=by simpa using a
  subst e;obtain⟨o,e,c,d⟩:=st;exact⟨o,e,λv z=>by rw[d] at z;contradiction⟩
 keep:=λi h h' st k=>by
  obtain⟨o,e,c,d⟩:=st;exact⟨o,k it (by simp) o e,c,d⟩
 item:=by
  intro X q hw r F i f s G H E I j st t;subst q hw r;obtain⟨u,x,L,y,A,B⟩:=j it (by simp)
  obtain⟨hd,g⟩:=t;have C:=hA s.heap (I.aw d _ hd).1;have m:i<vs.length:=by rw[<-p.length];exact g
  have M:=cm m;refine wpAny_pyNext_dict_item st C M λkey h' D n N=>?_
  have O:Inv X f G H {s with heap:=h',toks:=s.toks}:=I.turned (λb o a e=>(N.2 b a).trans e) u x y A B
  obtain⟨o',e,c,dd⟩:=id n;have Q:kvs[i].1=vs[i].1:=by
   have:=congrArg (λl=>l[i]?) p.keys
   simp only[cR,cm g,cm m] at this;exact Option.some.inj this
  exact⟨_,rfl,nj e c dd rfl ⟨kV kvs[i].1,H,O,by rw[Q];exact M7 D,⟨rfl,kvs[i].1,kvs[i].2,cm g,rfl⟩,n,λb a=>(j b a).1⟩⟩
 done:=by
  intro X q hw r F i f s G H E I j st t;subst q hw r;obtain⟨u,x,L,y,A,B⟩:=j it (by simp)
  obtain⟨hd,g⟩:=t;have C:=hA s.heap (I.aw d _ hd).1;exact wpAny_pyNext_dict_end (I.ok.hd F) st C (VO (by rw[<-p.length];exact g)) λh' R=>⟨rfl,I.turned (λb o a e=>R b o a e) u x y A B⟩
 self:=λ_ _ _ _ _ st h=>aaR st h
def Inv.bu (I:Inv X f h H s)(e:H d=some (.dK kvs))(j:s.heap.get? d=some o):Inv X f h (upd H d (.bu o (.dK kvs))) s:=by
  have g:∀b u,H b=some u->u≠.dK kvs->b≠d:=λb u q z y=>by rw[y,e] at q;obtain rfl:=sO q;exact z rfl
  have un:Un X.fs [] H (upd H d (.bu o (.dK kvs))) s.heap s.heap :=
    ⟨λb a q _ _ _=>q,λb a q _ _ _=>⟨a.slots,q⟩,λb a q n _=>by rw[aC (λz=>by rw[z,e] at n;contradiction)];exact n,λb a q _=>⟨a,q⟩,
     λb xs q=>by rw[aC (g b _ q (by intro z;contradiction))];exact q,λb a u q=>by rw[aC (g b _ q (by intro z;contradiction))];exact q,λb ps q=>⟨#[],by rw[aC (g b _ q (by intro z;contradiction)),q];simp⟩⟩
  have st:∀b u,cO X.prog X.w H s.heap b u->cO X.prog X.w (upd H d (.bu o (.dK kvs))) s.heap b u:=λb u x =>
    x.gO (λc v _ q=>q) (λc q=>by rw[aC (g c _ q (by intro z;contradiction))];exact q) λc xs q=>by rw[aC (g c _ q (by intro z;contradiction))];exact q
  have aw:cc X.prog X.w (upd H d (.bu o (.dK kvs))) s.heap:=λb u q=>by
    by_cases i:b=d
    · subst i
      rw[ba] at q;obtain rfl:=sO q;exact⟨j,st _ _ (I.aw _ _ e)⟩
    · rw[aC i] at q
      exact st _ _ (I.aw b u q)
  exact I.un (t':=s.toks) un aw
end
structure j8 (x:fk):Prop where
 ok:True
noncomputable def R9(i:Nat):IF:=λZ=>match Z[i]? with
 | some (.own (.bP a))=>some (a.map λk=>.str k.1,Z.set i (.dat (.dR a)))
 | _=>none
section
variable{X:Cx}{pos:z8}{P:lT}{w:px}{A:r0}{R:ZF->ee->Prop}{I:eu}{fp wr:List eu}{G:Array Yn->Array Yn->Prop}{n:Nat}{Pr:Nat->cA->Prop}{St:Nat->ee->Prop}{E:cA->ee->Prop}{s:ee}{apos:z8}
def si(i:Nat)(g:DF):DF:=λZ=>match Z[i]? with
 | some (.dat (.dR a))=>(g Z).bind λp=>match p.1 with
  | .str k=>(dq a k).map λd=>(d,p.2)
  | _=>none
 | _=>none
def Rb (hx:j8 x)(m:X.N.findIdx? (·==x)=some i)(q:cC X.env.scope x)(r:X.A.units+1<y3)(hd:bO x)(c:dh x)(hs:nh b)(t:DD X b g):DD X (.Subscript (.Name x l) b pos) (si i g):=by
 obtain⟨tb,u,z⟩:=t;refine⟨_,yA r (fT (fg m) q hd c) u hs,λB C Z D H F d Z' Q e S k=>?_⟩
 unfold si at e;split at e
 ·rename_i ks J;obtain⟨n,Z1,K,e⟩:=oB e;dsimp only at e;split at e
  ·rename_i f;obtain⟨d',L,e⟩:=oM e;cases e;obtain⟨v0,M,p,o,kvs,rfl,O,T⟩:=S.dat i _ J;refine⟨_,M,z B C Z D H F _ _ _ K S λy U h j a V=>?_⟩
   subst V;obtain⟨v,W,Y⟩:=((T.mono a).find f).1 d L;refine⟨p,v,rfl,?_,k v U h j a Y⟩;rw[<-W];exact .inl ⟨kvs,ro f,.inr ⟨o,j.sub _ _ (a _ _ O)⟩,rfl,rfl⟩
  ·exact nO e
 ·exact nO e
def Rd.Bk (h:Rd H a (.lst xs))(h':Rd H a (.lst ys)):xs=ys:=by
 rcases h with h|⟨o,h⟩<;>rcases h' with h'|⟨o',h'⟩<;>rw[h] at h'<;>cases h'<;>rfl
noncomputable def gV(a:List Key)(v:Key):List Key:=if a.any (λx=>decide (x=v)) then a else a++[v]
def dG(val:Nat->Key)(i:Nat):List Key:=((hI i).map val).foldl gV []
def Bg(val)(i):dG val (i+1)=gV (dG val i) (val i):=by unfold dG;rw[XW,eW,Ys];rfl
theorem wY(val):∀i,(dG val i).length<=i
 | 0=>eT _
 | i+1=>by
  have ih:=wY val i;rw[Bg];delta gV;split
  ·lia
  ·simp;omega
def Iq(a)(v k):(gV a v).any (λx=>decide (x=k))=(a.any (λx=>decide (x=k))||decide (k=v)):=by
 delta gV
 by_cases h:a.any (λx=>decide (x=v))=true
 ·rw[if_pos h]
  by_cases e:k=v
  ·subst e;rw[h];simp
  ·simp[e]
 ·rw[if_neg h,List.any_append]
  by_cases e:k=v
  ·subst e;simp
  ·have:¬v=k:=λz=>e z.symm
   simp[e,this]
def BG(a)(v):(gV a v).length=if a.any (λx=>decide (x=v)) then a.length else a.length+1:=by
 delta gV;split<;>simp
theorem QY(W:WalksS P w A.in1 I fp wr G n Pr St)(S:eu)(y:S∉fp)(val:Nat->Key)(M:∀i v,Pr i v->jB (val i) v=true/\v.scannable=true)(hb:n+1<abB) :
  ∀(k i:Nat) (s:ee),n-i=k->i<=n->St i s->s.heap.SetOf (cP P w) S (λa=>(dG val i).any λx=>decide (x=a)) (dG val i).length ->
   (∀s',Moved (S::wr) G s s'->s'.heap.SetOf (cP P w) S (λa=>(dG val n).any λx=>decide (x=a)) (dG val n).length->R (.ok (.ret .none)) s') ->
   XH (ma P w) A (.builtin "set.update.loop" ⟨[.ref S,.ref I],[]⟩) R s:=by
 have hw:S∉wr:=λh=>y (W.sub _ h)
 have B:∀b∈wr,b∈S::wr:=λb z=>gf _ z
 intro k;induction k with
 | zero =>
  intro i s N O st hs j;obtain rfl:i=n:=by lia
  refine VU z6 ?_;refine bt (W.done s _ _ st λs' c=>?_)
  refine eR (j s' (c.mono B) ?_);obtain⟨o,l,ep,t,p,r⟩:=hs;exact⟨o,l,ep,t,c.heap S _ hw p,r⟩
 | succ k Q =>
  intro i s N O st hs j;have d:i<n:=by omega
  refine VU z6 ?_;refine bt (W.item i s _ _ d st λv s' T C c=>?_)
  obtain⟨f,D⟩:=M i v T;have H:s'.heap.SetOf (cP P w) S (λa=>(dG val i).any λx=>decide (x=a)) (dG val i).length:=by
   obtain⟨o,l,ep,U,p,r⟩:=hs;exact⟨o,l,ep,U,c.heap S _ hw p,r⟩
  refine bt (q0 ?_);refine q0 (bt ((cP P w).pyHash f ?_));have room:(dG val i).length+1<scanBound:=by have:=wY val i;lia
  refine wpAny_setAddHashed_of f D H room λh' g J=>?_
  have K:h'.SetOf (cP P w) S (λa=>(dG val (i+1)).any λx=>decide (x=a)) (dG val (i+1)).length:=by
   rw[Bg,BG];have e:(λa=>(dG val i).any (λx=>decide (x=a))||decide (a=val i))=λa=>(gV (dG val i) (val i)).any λx=>decide (x=a):=funext λa=>(Iq _ _ _).symm
   simp[<-e];exact J
  refine eR ⟨YA sW _,Q (i+1) _ (by omega) d (W.frame _ s' _ _ C (WX _) λb z o e=>?_) K λL q u=>?_⟩
  ·rw[g.2 b (λh:b=S=>y (h ▸ z))];exact e
  ·refine j L (Moved.trans W.gtrans ((c.mono B).then_heap (WX _) λb o z e=>?_) q) u
   rw[g.2 b (λh:b=S=>z (h ▸ fm))];exact e
def Mp (hh:A.handled=none)(hl:s.heap.IsList l items)(m:∀i v,items[i]?=some v->jB (val i) v=true/\v.scannable=true)(p:items.size+1<abB)(h:∀(h':qt) (tk:Nat),h'.SetOf (cP P w) s.heap.objs.size (λa=>(dG val items.size).any λx=>decide (x=a)) (dG val items.size).length->(∀b o,b<s.heap.objs.size->s.heap.get? b=some o->h'.get? b=some o)->Q (.ref s.heap.objs.size) {s with heap:=h',toks:=tk}) :
  iN (ma P w) A (call (.type "set") [.ref l]) Q E s:=by
 refine E3 hl (λled R I h1 eh c f d g hit k=>?_) h
 have j:A.in1.in1.in1.handled=none:=by simp[hh]
 exact QY ((Walks.list j _ l c items).toS) s.heap.objs.size f val m p (items.size-0) 0 _ (by lia) (qh _) ⟨hit,g⟩ ⟨_,#[],0,_,d,⟨rfl,rfl,rfl⟩,rfl,λe q=>by simp at q,λk=>by simp[dG],by decide,by rfl,rfl⟩ k
def ye(P:lT)(w:px)(a:eu)(n:Nat):HO:=.ext λh=>n<4096/\∃S,h.SetOf (cP P w) a S n
def lB(ys:List fk):Nat:=(dG (λi=>ro ((ys[i]?).getD VN)) ys.length).length
def Qc(m:X.calm=true):bN X (.type "set") (λxs H Q=>∃(p:eu) (ys:List fk),xs=[.ref p]/\Rd H p (.lst (ys.map V.str))/\ys.length<1000/\∀a,H a=none->Q (.ref a) (upd H a (ye X.prog X.w a (lB ys)))):=by
 intro pins s σ H xs us Q I r h;obtain⟨p,ys,rfl,x,hz,q⟩:=h;obtain⟨u,rfl,y⟩:=r.one;subst y;obtain⟨z,its,n,f,e⟩:=x.ok I.aw;have B:s.heap.IsList p its.toArray:=⟨_,e,rfl,n,rfl⟩;have g:its.length=ys.length:=by have:=f.length;simpa using this.symm
 refine Mp (val:=λi=>ro ((ys[i]?).getD VN)) (I.ok.hd m) B (λi v C=>?_) (by rw[ft];unfold abB;omega) λh' tk c D=>?_
 ·obtain⟨t,rfl⟩:=Ax f (show its[i]?=some v by simpa using C)
  exact⟨E1 _ t,rfl⟩
 ·have hsz:its.toArray.size=ys.length:=by rw[ft];exact g
  rw[hsz] at c;have F:=I.aw.fresh (a:=s.heap.objs.size) (eT _);refine⟨.ref s.heap.objs.size,upd H s.heap.objs.size (ye X.prog X.w s.heap.objs.size (lB ys)),?_,rfl,q _ F⟩;have hle:lB ys<=ys.length:=wY _ _;refine I.laid (λb o j=>D b o (gi j) j) (eT _) ⟨⟨by lia,_,c⟩,?_,λh1 h2 ⟨J,S,o,l,ep,t,d,r⟩ k=>⟨J,S,o,l,ep,t,k o d,r⟩⟩
  obtain⟨o,l,ep,t,d,_⟩:=c;exact⟨o,d⟩
def Rj:bN X (.builtin "len") (λxs H Q=>∃(a:eu) (n:Nat),xs=[.ref a]/\H a=some (ye X.prog X.w a n)/\Q (.int n) H):=by
 intro pins s σ H xs us Q I r h;obtain⟨a,n,rfl,c,q⟩:=h;obtain⟨u,rfl,d⟩:=r.one;subst d;obtain⟨⟨hn,S,o,e,ep,t,f,b,hd,hel,hmem,hb,g,hsz⟩,_,_⟩:=I.aw a _ c;subst hsz;exact call_len_set f b hd g (by lia) ⟨.int e.size,H,I.tok _,⟨_,rfl⟩,q⟩
def rq(f:DF):DF:=λZ=>(f Z).bind λp=>match p.1 with
 | .lst ds=>(dB ds).bind λys=>if ys.length<1000 then some (.int (lB ys:Nat),p.2) else none
 | _=>none
def JK (y:X.calm=true)(z:Gl X "len")(B:X.mg "len"=none)(m:Gl X "set")(o:X.mg "set"=none)(j:bK X e [])(q:ph [.Call (.Name "set" l) [e] [] i] X.env=(false,eval (.Call (.Name "set" l) [e] [] i) X.env)::ph [] X.env)(h:DD X e f):DD X (.Call (.Name "len" p) [.Call (.Name "set" l) [e] [] i] [] pos) (rq f):=by
 obtain⟨t,pt,C⟩:=h;refine⟨_,oW Rj z B X5 (jD (tf (Qc y) m o (by decide +kernel) (jD pt lj j) (by decide) rfl j rfl) lj q) (by decide) rfl q rfl,λD F Z J H K d Z' Q g S k=>?_⟩
 obtain⟨c,Z1,L,g⟩:=oB g;dsimp only at g;split at g
 ·obtain⟨ys,M,g⟩:=oA g;split at g
  ·rename_i N;obtain⟨rfl,rfl⟩:=sP g;refine C D F Z J H K _ _ _ L S λv H1 r u O T=>?_
   obtain⟨a,ws,rfl,x,rs⟩:=T;rw[k8 M rs] at x;refine⟨a,ys,rfl,Rd.mono u.sub x,N,λb U=>⟨b,lB ys,rfl,ba,?_⟩⟩
   exact k _ _ r (u.made U) O rfl
  ·exact nO g
 ·exact nO g
theorem BO (put:c->DS)(keep:c->Bool)(val:c->Dat):∀(xs:List c) (a:List Dat) (Z:DS),a.length+xs.length<=dk ->
  (∀x∈xs,∀Z,(Z=j\/∃y,Z=put y)->g (enc x) Z=some (put x))->(∀x∈xs,fc (put x)=some (keep x,put x))->(∀x∈xs,keep x=true->fe (put x)=some (val x,put x))->(∀x∈xs,noOwn (put x)=true)->(Z=j\/∃y,Z=put y) ->
  ∃d,compLoop g fc fe (xs.map enc) a Z=some (a++(xs.filter keep).map val,d)
 | [],a,Z,_,_,_,_,_,_=>⟨Z,by simp[compLoop]⟩
 | x::xs,a,Z,u,k,l,m,o,hd=>by
  simp at u;have p:=k x (fm ..) Z hd;have q:=l x (fm ..);have r:=o x (fm ..);have f:=λh (t:h.length+xs.length<=dk)=>BO put keep val xs h (put x) t (λy b=>k y (gf _ b)) (λy b=>l y (gf _ b)) (λy b=>m y (gf _ b)) (λy b=>o y (gf _ b)) (.inr ⟨x,rfl⟩)
  cases i:keep x with
  | false =>
   obtain⟨d,e⟩:=f a (by omega)
   refine⟨d,?_⟩;show (g (enc x) Z).bind _=_;rw[p];show (fc (put x)).bind _=_;rw[q,i];show (if noOwn (put x)=true then compLoop g fc fe (xs.map enc) a (put x) else none)=_
   rw[if_pos r,e,z7,i];simp
  | true =>
   obtain⟨d,e⟩:=f (a++[val x]) (by rw[eH];simp;omega)
   refine⟨d,?_⟩;show (g (enc x) Z).bind _=_;rw[p];show (fc (put x)).bind _=_;rw[q,i];show (fe (put x)).bind _=_;rw[m x (fm ..) i];show (if a.length<dk/\noOwn (put x)=true then _ else none)=_
   rw[if_pos ⟨by omega,r⟩,e,z7,i]
   simp
def kh{a:Type}{enc:a->Dat}{caps:List (Option Nat)}{fi:IF}{g:GF}{fc:BF}{fe:DF}{xs:List a}{Z Z1 Z2:DS}(put:a->DS)(keep:a->Bool)(val:a->Dat)(b:fi Z=some (xs.map enc,Z1))(c:bu none caps Z1=Z2)(d:xs.length<=dk)
 (f:∀x∈xs,∀Z,(Z=cv caps Z2\/∃y,Z=put y)->g (enc x) Z=some (put x))(h:∀x∈xs,fc (put x)=some (keep x,put x))(i:∀x∈xs,keep x=true->fe (put x)=some (val x,put x))(j:∀x∈xs,noOwn (put x)=true) :
  eN caps none fi g fc fe Z=some (.own (.lst ((xs.filter keep).map val)),Z2):=by
 obtain⟨Z',e⟩:=BO put keep val xs [] (cv caps Z2) (by simpa using d) f h i j (.inl rfl)
 exact A4 b c e
def fw{a:Type}{enc:a->Dat}{caps:List (Option Nat)}{fi:IF}{g:GF}{fe:DF}{xs:List a}{Z Z1 Z2:DS}(put:a->DS)(val:a->Dat)(b:fi Z=some (xs.map enc,Z1))(c:bu none caps Z1=Z2)(d:xs.length<=dk)
 (e:∀x∈xs,∀Z,(Z=cv caps Z2\/∃y,Z=put y)->g (enc x) Z=some (put x))(f:∀x∈xs,fe (put x)=some (val x,put x))(h:∀x∈xs,noOwn (put x)=true) :
  eN caps none fi g (λZ=>some (true,Z)) fe Z=some (.own (.lst (xs.map val)),Z2):=by
 have:=kh (enc:=enc) (caps:=caps) (fi:=fi) (g:=g) (fc:=λZ=>some (true,Z)) (fe:=fe) (xs:=xs) (Z:=Z) put (λ_=>true) val b c d e (λ_ _=>rfl) (λx i _=>f x i) h
 rw[aac.mpr (by intros;rfl)] at this
 exact this
theorem wu (f):∀cs:List a,jZ (cs.map λc=>.int (f c))=some (cs.map f)
 | []=>rfl
 | c::cs=>by
  show (jZ (cs.map λc=>.int (f c))).map (f c::·)=_
  rw[wu f cs];rfl
theorem pN (f):∀cs:List a,dB (cs.map λc=>.str (f c))=some (cs.map f)
 | []=>rfl
 | c::cs=>by
  show (dB (cs.map λc=>.str (f c))).map (f c::·)=_
  rw[pN f cs];rfl
def Dd{a:Type}(f:a->Bool)(cs:List a):oJ [.lst (cs.map λc=>.bl (f c))]=some (.dat (.bl (cs.all f))):=by
 show (jM _).map _=_;rw[rQ f];simp
def Gm{a:Type}(f:a->Bool)(cs:List a):tj [.lst (cs.map λc=>.bl (f c))]=some (.dat (.bl (cs.any f))):=by
 show (jM _).map _=_;rw[rQ f];simp
def Qh (f)(h:cs≠[]):sZ [.lst (cs.map λc=>.int (f c))]=some (.dat (.int (h9 (cs.map f)))):=by
 show (jZ _).bind _=_;rw[wu f];simp_all
def Em{a:Type}{f:DF}{Z Z1:DS}{cs:List a}(g:a->fk)(h:f Z=some (.lst (cs.map λc=>.str (g c)),Z1))(b:cs.length<1000):rq f Z=some (.int (lB (cs.map g):Nat),Z1):=by
 delta rq;rw[h];show (dB _).bind _=_;rw[pN g];simp_all
theorem AU:∀(more a:List (Key×V)),((a++more).map (·.1)).Nodup->lC a more=a++more
 | [],a,_=>by show a=_;rw[yv]
 | p::r,a,h=>by
  have e:putK a p.1 p.2=a++[p]:=by
   delta putK;rw[if_neg];intro z;obtain⟨q,b,e⟩:=u2.mp z;have e:q.1=p.1:=by simpa using e
   rw[eW,nk] at h;exact h.2.2 q.1 (bg.mpr ⟨q,b,rfl⟩) p.1 (by simp) e
  show lC (putK a p.1 p.2) r=_;simp only[e,AU r (a++[p]) (by rw[pe];exact h),pe]
  rfl
noncomputable def oZ:List Dat->Option Res
 | [.lst ds]=>some (.dat (.tup ds))
 | _=>none
def Oh:CD X (λxs H Q=>∃p ys,xs=[.ref p]/\((cw X.K H p ys/\∀l,H l=none->Q (.ref l) (upd H l (.tup ys)))\/(aX X.K H p ys/\Q (.ref p) H))) oZ:=by
 intro H0 ps Z σ H Hi vs ds o Q e S r k;delta oZ at e;split at e
 ·obtain rfl:=sO e;obtain⟨v,vr,rfl,⟨a,b,rfl,d,rs⟩,f⟩:=r;subst f;refine⟨a,b,rfl,.inl ⟨.inl (Rd.mono S.sub d),λl hl=>?_⟩⟩
  obtain⟨g,c⟩:=S.laid hl;exact k (.ref l) _ _ g c ⟨l,_,rfl,aX.of ba,az.mono c rs⟩
 ·exact nO e
def Ks (a:Gl X "tuple")(b:X.mg "tuple"=none)(c:bK X e [])(d:DA X [e] fa):DE X (.Call (.Name "tuple" p) [e] [] pos) (cg oZ fa):=tI zq Oh a b (by decide +kernel) d (by decide) rfl c rfl
end
section
open Sem (wp)
def Gy:ZD (.type "list") "keys"=pure none:=by rw[typeLookup_type,builtinLookup_eq_fast];kernel_rfl
def y9:entryFor table "dict.update.loop"=some W6.«dict.update.loop»:=entryFor_of_tree (by kernel_rfl)
def sR:plainId "dict.update.loop"=true:=by decide +kernel
def R4 (f:s.heap.IsList a xs)(hd:∀o,s.heap.get? a=some o->o.dict=none)(j:ZD (.type "list") name=pure none)(l:(["__module__","__name__","__qualname__","__doc__","__annotations__"]:List fk).contains name=false)(hA:A.handled=none)(h:∀h' tk,(∀b o,s.heap.get? b=some o->h'.get? b=some o)->Q none {s with heap:=h',toks:=tk})(hsz:name.length+100<=sizeLine:=by size_fits) :
  iN (ma prog w) A (getAttr? (.ref a) name) Q E s:=by
 obtain⟨o,f,p,k,i⟩:=f;have hd:=hd o f;obtain⟨c,bP,dat,r⟩:=o;subst p i hd;obtain⟨t,g,d,tk,os⟩:=s;have q:∀m,(⟨t,g,d,m,os⟩:ee).TypeIs (.ref a) "list":=λ_=>⟨_,f,rfl⟩
 have f1:=sub_AttributeError;have f3:=ZH.lookup;have f4:=F.slot_list_getattribute.bind (.ref a);have f5:=am_list_getattr_none;unfold getAttr? getAttrBy? getAttrBy
 repeat (any_goals (first|assumption|exact q _|((with_reducible show iN _ _ (call (Value.builtin "list.__getattribute__") _ _) _ _ _);refine YH ZH (q _) am_entry_list_getattribute (F.args_list_getattribute_2 _ _) (meets_getattribute_miss_list a xs k r name _ j l hsz) ⟨f,hA,λh' m e n=>?_⟩)|wp_step))
 obtain⟨t',u',he⟩:=n.there;show iN _ _ (abe _ _ _ _ _ _ _) _ _ _;unfold abe
 repeat (any_goals (first|assumption|wp_step))
 exact h _ _ n.of.keeps
section
variable{prog:lT}{w:px}{K:Type}[DecidableEq K]{knd:KeyKind prog w K}{A:r0}{E:cA->ee->Prop}{s:ee}
def F3 (h:WQ s.heap a #[k,v])(q:Q [k,v] s):iN (ma prog w) A (YD (.ref a)) Q E s:=by
 obtain⟨o,b,c,n,hd⟩:=h;refine bt (YT (⟨o,b,c⟩) ?_)
 refine bt (ZC b hd ?_);exact eR q
structure xR (knd:KeyKind prog w K) (h:qt) (u:cA) (kv:K×cA) (a:eu) (k:cA):Prop where
 at_:u=.ref a
 tup:WQ h a #[k,kv.2]
 key:knd.is kv.1 k=true
theorem Ht (hh:A.handled=none)(z:l≠I)(q:d≠I)(O:d≠l)(hl:more.length=items.size)(hz:more.length<=dk) :
  ∀(m i:Nat) (s:ee),items.size-i=m->i<=items.size->s.heap.IsListIter I l i->s.heap.IsList l items->s.heap.DictOf knd d (aao [] (more.take i)) ->
   (∀(j:Nat) (u:cA) (y:K×cA),items[j]?=some u->more[j]?=some y->∃a k,xR knd s.heap u y a k/\a≠I/\a≠d) ->
   (∀h' tk,h'.DictOf knd d (aao [] more)->(∀b o,b≠I->b≠d->s.heap.get? b=some o->h'.get? b=some o)->R (.ok (.ret .none)) {s with heap:=h',toks:=tk}) ->
   ∀(n:Int) (t:Tok),XH (ma prog w) A (.builtin "dict.update.loop" ⟨[.ref d,.ref I,.int n t,.none],[]⟩) R s:=by
 intro m;induction m with
 | zero =>
  intro i s hm hi st F hd G H n t;have P:i=items.size:=by omega
  subst P;refine VU y9 ?_;delta W6.«dict.update.loop»
  have W:=Walks.list (prog:=prog) (w:=w) (A:=A.in1) (by simp[hh]) I l z items
  refine bt (W.done s _ _ ⟨st,F⟩ λh' tk k=>?_)
  refine bt (eR ?_);rw[XM (by lia)] at hd
  refine eR (H h' tk ?_ λb o g J e=>k b o (by simpa using g) e)
  obtain⟨o,L,ep,c,r⟩:=hd;exact⟨o,L,ep,k d o (by simpa using q) c,r⟩
 | succ m ih =>
  intro i s hm hi st F hd G H n t;have B:i<items.size:=by omega
  refine VU y9 ?_;delta W6.«dict.update.loop»
  have W:=Walks.list (prog:=prog) (w:=w) (A:=A.in1) (by simp[hh]) I l z items
  refine bt (W.item i s _ _ B ⟨st,F⟩ λv g tk hv C k1=>?_)
  have D:more[i]?=some more[i]:=cm (by omega)
  obtain⟨a,k,M,na,nd⟩:=G i v _ hv D;have ev:=M.at_;subst ev;have x:∀b o,b≠I->s.heap.get? b=some o->g.get? b=some o:=λb o h e=>k1 b o (by simpa using h) e
  have Q:g.DictOf knd d (aao [] (more.take i)):=by
   obtain⟨o,L,ep,c,r⟩:=hd;exact⟨o,L,ep,x d o q c,r⟩
  have S:WQ g a #[k,more[i].2]:=by
   obtain⟨o,c,r⟩:=M.tup;exact⟨o,x a o na c,r⟩
  have hsz:(aao [] (more.take i)).length<=sizeLine:=by
   have:=merged_length_le ([]:List (K×cA)) (more.take i);simp at this
   lia
  refine bt (q0 (bt (wpAny_tryCatch (F3 S ?_))));refine q0 (wpAny_dictSet_pairs M.key Q λJ T N=>?_)
  have U:∀b o,b≠I->b≠d->s.heap.get? b=some o->J.get? b=some o:=λb o h f e=>(N.2 b f).trans (x b o h e)
  refine eR ⟨YA sR _,ih (i+1) {s with heap:=J,toks:=tk+1} (by omega) B ?_ ?_ ?_ ?_ ?_ _ _⟩
  ·obtain⟨o,c,r⟩:=C.1;exact⟨o,(N.2 I (Ne.symm q)).trans c,r⟩
  ·obtain⟨o,c,r⟩:=C.2;exact⟨o,(N.2 l (Ne.symm O)).trans c,r⟩
  ·rw[merged_take_succ _ _ _ _ D];exact T
  ·intro j u y hu V;obtain⟨a,k,p,X,Y⟩:=G j u y hu V;refine⟨a,k,⟨p.at_,?_,p.key⟩,X,Y⟩;obtain⟨o,c,r⟩:=p.tup;exact⟨o,U a o X Y c,r⟩
  ·intro h' Z be k';exact H h' Z be λb o h f e=>k' b o h f (U b o h f e)
def Rc (hh:A.handled=none)(x:s.heap.IsList l items)(hd:∀o,s.heap.get? l=some o->o.dict=none)(hl:more.length=items.size)(J:more.length<=dk)(L:∀(j:Nat) (u:cA) (n:K×cA),items[j]?=some u->more[j]?=some n->∃a k,xR knd s.heap u n a k)(h:∀h' tk,h'.DictOf knd s.heap.objs.size (aao [] more)->(∀b o,s.heap.get? b=some o->h'.get? b=some o)->Q (.ref s.heap.objs.size) {s with heap:=h',toks:=tk}) :
  iN (ma prog w) A (call (.type "dict") [.ref l]) Q E s:=by
 refine callType_codes (Q₁:=λobj g=>obj=.ref s.heap.objs.size/\g={s with heap:=s.heap.push {cls:=.type "dict",data:=.dict #[]} }) F.kt_called_dict (F.kt_typeCall_dict_1 _) F.entry_dict_init (kt_code_dict_new _ ⟨rfl,rfl⟩) ?_
 rintro obj g ⟨rfl,rfl⟩;have d:(s.heap.push {cls:=.type "dict",data:=.dict #[]}).DictOf knd s.heap.objs.size []:=acg s.heap;have i:=x.push {cls:=.type "dict",data:=.dict #[]};have q:=let ⟨_,c,_⟩:=x;gi c
 have z:∀o,(s.heap.push {cls:=.type "dict",data:=.dict #[]}).get? l=some o->o.dict=none:=λo e=>by
  obtain⟨o',c,r⟩:=x;rw[fj _ c] at e;obtain rfl:=sO e;exact hd _ c
 refine⟨d.typeIs,F.args_dict_init_2 _ _,?_⟩;delta W6.«dict.__init__»
 refine bt ?_;refine bt (aaE d.typeIs ?_);refine eR ?_;refine bt (YT i.typeIs ?_)
 refine bt (R4 i z Gy (by decide +kernel) (by simp[hh]) (λm tk y=>?_) (by decide +kernel))
 refine bt (wpAny_rule ?_);have t:m.IsList l items:=by
  obtain⟨o,c,r⟩:=i;exact⟨o,y _ _ c,r⟩
 refine bt (V0 (s:={s with heap:=m,toks:=tk}) t ?_)
 have v:m.DictOf knd s.heap.objs.size []:=by
  obtain⟨o,B,ep,c,r⟩:=d;exact⟨o,B,ep,y _ _ c,r⟩
 have f:s.heap.objs.size<m.objs.size:=by
  obtain⟨o,B,ep,c,r⟩:=v;exact gi c
 have C:∀b o,s.heap.get? b=some o->m.get? b=some o:=λb o e=>y b o (fj _ e)
 refine eR ⟨YA sR _,?_⟩;refine Ht (knd:=knd) (by simp[hh]) (iW (V9 q f)) (iW f) (Yw q) hl J items.size 0 _ (by lia) (qh _) ⟨_,k5 _ rfl,rfl,rfl⟩ (t.push _) ?_ ?_ ?_ _ _
 ·exact v.push _
 ·intro j u n M D;obtain⟨a,k,p⟩:=L j u n M D;have G:=let ⟨_,c,_⟩:=p.tup;gi c
  refine⟨a,k,⟨p.at_,?_,p.key⟩,iW (V9 G f),iW G⟩;obtain⟨o,c,r⟩:=p.tup;exact⟨o,fj _ (C _ _ c),r⟩
 ·intro h' H I N;refine⟨rfl,h h' H I λb o e=>N b o ?_ ?_ (fj _ (C _ _ e))⟩
  ·exact iW (V9 (gi e) f)
  ·exact iW (gi e)
end
end
section
variable{X:Cx}{pins:List (eu×KX)}{σ:St}{H:Hp}{s:ee}{pos:z8}
def my(K:gj)(H:Hp)(r:V)(b:Key×V):Prop:=∃a,r=.ref a/\aX K H a [kV b.1,b.2]
theorem D4(I:Inv X pins σ H s):∀{rows:List V}{its:List cA}{kvs:List (Key×V)},aH rows its->WL (my X.K H) rows kvs->∃more:List (Key×cA),KV kvs more/\WL (λu c=>∃a k,xR (cP X.prog X.w) s.heap u c a k) its more
 | _,_,_,.nil,.nil=>⟨[],.nil,.nil⟩
 | _,_,_,.cons d e,.cons (b:=c) f g=>by
  obtain⟨more,h,i⟩:=D4 I e g;obtain⟨a,rfl,j⟩:=f;subst d;obtain⟨its',l,tup,_⟩:=I.tuple j;cases l with
  | cons m n =>
   cases n with
   | cons o p =>
    cases p;rename_i k v;exact⟨(c.1,v)::more,.cons ⟨rfl,o⟩ h,.cons ⟨a,k,rfl,by simpa using tup,mS m⟩ i⟩
theorem yI:∀{l₁:List c}{l₂:List d},WL F l₁ l₂->∀(j:Nat) a b,l₁[j]?=some a->l₂[j]?=some b->F a b
 | _,_,.nil,j,a,b,h,_=>by simp at h
 | _,_,.cons e t,0,a,b,h,h'=>by
  simp at h h';subst h h';exact e
 | _,_,.cons e t,j+1,a,b,h,h'=>yI t j a b (h) (h')
theorem pX:∀{l₁:List a}{l₂:List b},WL F l₁ l₂->l₁.length=l₂.length
 | _,_,.nil=>rfl
 | _,_,.cons _ t=>by simp only[fv,fv,pX t]
def Dt(K:gj):List V->Hp->VK->Prop:=λxs H Q=>∃p rows kvs,xs=[.ref p]/\Rd H p (.lst rows)/\WL (my K H) rows kvs/\∀q,H q=none->Q (.ref q) (upd H q (.dK (lC [] kvs)))
def QS(f:X.calm=true):bN X (.type "dict") (Dt X.K):=by
 intro pins s σ H xs us Q I r h;obtain⟨p,rows,kvs,rfl,g,c,q⟩:=h;obtain⟨u,rfl,i⟩:=r.one;subst i;obtain⟨z,its,n,k,d⟩:=g.ok I.aw;obtain⟨more,b,pm⟩:=D4 I k c;have l:=pX pm;have e2:=pX b;have e3:=pX c;have m:(lC [] kvs).length<=sizeLine:=by
  have:=Ao kvs [];simp at this;omega
 refine Rc (I.ok.hd f) ⟨_,d,rfl,n,rfl⟩ (λo e=>by rw[d] at e;obtain rfl:=sO e;rfl) (by simp[l]) (by omega) (λj u b t v=>yI pm j u b (by simpa using t) v) λh' tk dd kp=>?_
 exact⟨.ref s.heap.objs.size,_,I.laid kp (eT _) (xA m (beq_eq_false_iff_ne.mpr (Ne.symm (iW I.vv))) (b.merge .nil) dd),rfl,q _ (I.aw.fresh (eT _))⟩
def Lz(te:TE):TI:=fun σ H R=>te σ H λv a=>∃d o kvs,v=.ref d/\a d=some (.bu o (.dK kvs))/\R (AN d o kvs) a
def Hv (m:PE X e te):PI X l e (Lz te):=by
 intro pins s σ H R I h;refine aG (m pins s σ H _ I h) λv a ⟨y,H1,c,n,p⟩=>?_
 obtain⟨d,o,kvs,rfl,hd,q⟩:=p;subst n;obtain⟨i,z,lo,vs,r,j⟩:=c.aw d _ hd;obtain⟨ep,dat⟩:=j.dictAt;obtain⟨o',t,f,g⟩:=id dat;rw[i] at f;obtain rfl:=sO f;have hA:∀h:qt,h.get? d=some o->h.DictAt (cP X.prog X.w) d vs ep:=λh e=>⟨o,t,e,g⟩
 have k:=gi i;refine wpAny_pyIter_dict lo dat ⟨a.heap.objs.size,[a.heap.objs.size],_,_,_,rfl,c.kept λb o e=>fj _ e,JB r (iW k) hA,⟨_,k5 _ rfl,rfl,rfl⟩,λb u=>?_,q⟩
 rw[show b=a.heap.objs.size by simpa using u]
 exact c.kG (eT _) (c.aw.fresh (eT _))
noncomputable def jP:List Dat->Option (List (fk×Dat))
 | []=>some []
 | .tup [.str k,d]::r=>(jP r).map λa=>(k,d)::a
 | _=>none
def o6:List Dat->Option Res
 | [.bP a]=>some (.own (.bP a))
 | [.lst ds]=>(jP ds).bind λa=>if (a.map (·.1)).Nodup then some (.own (.bP a)) else none
 | _=>none
theorem Eg{K:gj}{H:Hp}:∀{ds:List Dat}{vs:List V}{b:List (fk×Dat)},jP ds=some b->az K H ds vs->∃kvs,bI K H b kvs/\WL (my K H) vs kvs
 | [],_,_,e,r=>by
  obtain rfl:=sO e;cases (r)
  exact⟨[],rfl,.nil⟩
 | d::ds,_,_,e,r=>by
  unfold jP at e;split at e
  ·contradiction
  ·rename_i k d' r' h;cases h;obtain⟨b,f,e⟩:=oM e;obtain rfl:=sO e;obtain⟨v,vr,rfl,⟨a,ws,rfl,g,rs⟩,i⟩:=r;obtain⟨kvs,j,l⟩:=Eg f i;obtain⟨v1,r1,rfl,m,c,r2,rfl,n,o⟩:=rs;subst m;cases (o)
   exact⟨(ro k,c)::kvs,⟨c,kvs,rfl,n,j⟩,.cons ⟨a,rfl,g⟩ l⟩
  ·exact nO e
def my.mono{K:gj}{H b:Hp}(s:aj H b){vs:List V}{kvs:List (Key×V)}(h:WL (my K H) vs kvs):WL (my K b) vs kvs:=Paired.nB h λ_ _ ⟨a,e,q⟩=>⟨a,e,aX.mono s q⟩
def RT:CD X (λxs H Q=>(λxs H Q=>∃a kvs,xs=[.ref a]/\Rd H a (.dK kvs)/\∀p,H p=none->Q (.ref p) (upd H p (.dK kvs))) xs H Q\/Dt X.K xs H Q) o6:=by
 intro g i Z σ H c vs ds o Q e S r k;delta o6 at e;split at e
 ·rename_i d;exact .inl (MF g i Z σ H c vs [.bP d] o Q e S r k)
 ·obtain⟨d,j,e⟩:=oA e;split at e
  ·rename_i nd;obtain rfl:=sO e;obtain⟨v,vr,rfl,⟨p,l,rfl,m,rs⟩,n⟩:=r;subst n;obtain⟨kvs,f,t⟩:=Eg j rs;have u:(kvs.map (·.1)).Nodup:=by
    rw[tq f];exact gs.mpr (nd.imp λh z=>h (Sum.inr.inj z))
   refine .inr ⟨p,l,kvs,rfl,Rd.mono S.sub m,my.mono S.sub t,λq b=>?_⟩
   simp[AU kvs [] (by simpa using u),aa1]
   exact k (.ref q) _ c (S.made b) (aj.refl _) ⟨q,rfl,⟨kvs,ba,f,S.dw b⟩,(S.bJ b).2,(S.bJ b).1,S.dP b⟩
  ·exact nO e
 ·exact nO e
def GJ (a:X.calm=true)(b:Gl X "dict")(c:X.mg "dict"=none)(d:bK X e [])(f:DA X [e] fa):DE X (.Call (.Name "dict" p) [e] [] pos) (cg o6 fa):=tI (bN.or Pw (QS a)) RT b c (by decide +kernel) f (by decide) rfl d rfl
noncomputable def A9(i:Nat):IF:=λZ=>match Z[i]? with
 | some (.dat (.dR a))=>some (a.map λk=>.str k.1,Z)
 | _=>none
theorem JJ (hx:j8 x)(u:X.N.findIdx? (·==x)=some i)(w:cC X.env.scope x)(hd:bO x)(h:dh x):dv X r (.Name x t) (A9 i):=by
 refine⟨_,Hv (fT (fg u) w hd h),λH0 ps Z σ H Hi items Z' R b S k=>?_⟩
 unfold A9 at b;split at b
 ·rename_i l e;obtain⟨rfl,rfl⟩:=sP b;obtain⟨v,z,p,o,kvs,rfl,f,g⟩:=S.dat i _ e;refine⟨_,z,p,o,kvs,rfl,S.sub _ _ f,k _ _ _ S (aj.refl _) λj H2 m=>⟨λd c=>?_,λhl=>⟨m _ _ f,?_⟩⟩⟩
  ·have A:j<l.length:=by have:=(cn.mp c).1;simpa using this
   have hl:=bI.length g;refine⟨⟨m _ _ f,by rw[hl];exact A⟩,λv H3 B=>.inl ?_⟩
   obtain⟨rfl,C,xx,D,rfl⟩:=B;refine⟨rfl,?_⟩;have a:(kvs.map (·.1))[j]?=some C:=by rw[cR,D];rfl
   simp only[tq g,cR] at a;rw[cR] at c;cases n:l[j]? with
   | none=>rw[n] at a;exact nO a
   | some y =>
    rw[n] at a c;obtain rfl:=sO a;obtain rfl:=sO c;rfl
  ·have q:=bI.length g;rw[ab] at hl;rw[q];exact hl
 ·exact nO b
end
section
open Sem (wp)
structure nC (h:qt) (d:eu) (es:Array W1) (ep:Nat):Prop where
 ok:∃o,h.get? d=some o/\o.ExactDict/\o.data=.dict es ep
section
variable{prog:lT}{w:px}{A:r0}{E:cA->ee->Prop}{s:ee}
def nC.ty (h:nC s.heap d c ep):s.TypeIs (.ref d) "dict":=let ⟨o,a,b,_⟩:=h.ok;⟨o,a,b.1⟩
def IK (hd:(d==Vv)=false)(r:nC s.heap d a ep)(q:Q (.ref s.heap.objs.size) {s with heap:=s.heap.push {cls:=.type "dict_keyiterator",data:=.fields #[.ref d,.int 0 0,.int a.size 0,.int ep 0]} }):iN (ma prog w) A (abd (.ref d)) Q E s:=by
 have ty:=r.ty;obtain⟨o,b,e2,c⟩:=r.ok;refine wpAny_pyIter_slot ty abh (z9 abh ty F.entry_dict_iter ?z (F.args_dict_iter_1 _));delta W6.«dict.__iter__» abY
 refine bt (bt (aaE ty ?B));refine (eR ?C)
 refine (show iN _ _ (YK d >>= _) _ _ s from ?D)
 delta YK;rw[if_neg (λz=>by rw[hd] at z;contradiction)]
 refine bt (eR (bt (XG b c (bt (Zq b c (bt (O1 (eR ⟨_,rfl,"dict_keyiterator",_,⟨_,k5 _ rfl,rfl⟩,N'.lookup,?G⟩))))))));simpa[aan] using q
def Ib (hit:s.heap.IsKeyIter it d i a.size ep)(r:nC s.heap d a ep)(f:i<a.size)(q:∀h',h'.IsKeyIter it d (i+1) a.size ep->V3 it s.heap h'->Q (some a[i].key) {s with heap:=h'}):iN (ma prog w) A (Xv (.ref it)) Q E s:=by
 have ty:=hit.typeIs;obtain⟨x,e,j,b⟩:=id hit;obtain⟨o,g,e2,h⟩:=r.ok;have own:XI "dict_keyiterator"=false:=rfl
 refine bt (acn (WG ty N' (z9 N' ty Y9 ?z (Y4 _))));refine bt (eR (bt (bt ?D)))
 first|refine bt (VM ty (eR ?B))|refine bt (Ws ty (eR ?B))
 refine bt (ab8 e b ?G);refine (?H)
 refine bt (eR (bt (XG g h ?I)));rw[if_neg (by simp)]
 refine bt (eR (bt (Zq g h ?J)));rw[if_neg (by simp)]
 refine eR ?K;simp[iR f]
 refine bt ?L
 first|refine bt (VM ty (eR ?C))|refine bt (Ws ty (eR ?C))
 refine bt (aaG ty ?M);refine (show iN _ _ (setField (.ref it) 1 (aan ((i:Int)+1)) >>= _) _ _ s from bt (ab7 e b (by simp) ?N))
 have c:(s.heap.update it (abp (·.setIfInBounds 1 (aan ((i:Int)+1))))).IsKeyIter it d (i+1) a.size ep:=⟨_,X0 _ e (Obj.isFreed_of_fields (aau b _)),(Obj.cls_mapFields ..).trans j,by rw[aau b];simp[aan]⟩
 refine bt (q0 (bt (aaG c.typeIs ?O)))
 exact (eR (eR ⟨_,rfl,eR (q _ c (Wz ..))⟩))
def Ha (hh:A.handled=none)(hit:s.heap.IsKeyIter it d i c.size ep)(r:nC s.heap d c ep)(e:c.size<=i)(q:∀h',Heap.ExtBut it s.heap h'->Q none {s with heap:=h'}):iN (ma prog w) A (Xv (.ref it)) Q E s:=by
 have ty:=hit.typeIs;obtain⟨x,f,x2,g⟩:=id hit;obtain⟨o,h,e2,j⟩:=r.ok;have own:XI "dict_keyiterator"=false:=rfl
 refine bt (acn (WG ty N' (z9 N' ty Y9 ?z (Y4 _))));refine bt (eR (bt (bt ?D)))
 first|refine bt (VM ty (eR ?B))|refine bt (Ws ty (eR ?B))
 refine bt (ab8 f g ?G);refine (?H)
 refine bt (eR (bt (XG h j ?I)));rw[if_neg (by simp)]
 refine bt (eR (bt (Zq h j ?J)));rw[if_neg (by simp)]
 refine eR ?K;simp[XF e]
 refine bt ?L
 first|refine bt (VM ty (eR ?C))|refine bt (Ws ty (eR ?C))
 refine (show iN _ _ (setField (.ref it) 0 .none >>= _) _ _ s from bt (ab7 f g (by simp) ?M))
 refine (bt ?N)
 refine bt (O1 (bt (wpAny_of_eq (a:=u3) (by first|rfl|(simp only[acb];rfl)) (O1 ?O (by size_fits)))) (by size_fits))
 refine bt (wpAny_handled ?P);rw[show A.in1.handled=none from hh]
 refine bt (eR (wpAny_throw ?R));exact bt (wpAny_isInstance ⟨_,k5 _ rfl,rfl⟩ isSubtype_stop (eR (q _ (((Wz ..).extBut.push _).push _))))
def Lx (hd:(d==Vv)=false)(r:nC s.heap d a ep)(hz:(a.size:Int)<2 ^ 63)(q:∀t t',Q (.int a.size t) {s with toks:=t'}):iN (ma prog w) A (call (.builtin "len") [.ref d]) Q E s:=by
 have ty:=r.ty;obtain⟨o,b,e2,c⟩:=r.ok;refine Xg kind_len plain_len entry_len (args_len1 _) ?z;delta W6.«len»
 refine bt (eR (bt (WG ty abt (z9 abt ty F.entry_dict_len ?B (F.args_dict_len_1 _)))));refine (show iN _ _ (dictSize d >>= _) _ _ s from ?C)
 refine bt (bt (XG b c (eR ?D)));refine (bt (wpAny_pendingCount_other hd (wpAny_ret_mkInt ?G)))
 refine bt (q0 (eR (bt (wpAny_letGo ?H))));refine (?I)
 refine (show iN _ _ (if ((a.size:Nat):Int) ≥ 2 ^ 63 then _ else _) _ _ _ from ?J)
 rw[if_neg (by lia)]
 exact bt (wpAny_mkInt (eR ⟨_,rfl,q _ _⟩))
end
end
noncomputable def wt(d:eu)(o:KX)(kvs:List (List Key×V))(bs:List eu):It:=⟨λi H=>H d=some (.bu o (.dT kvs))/\i<kvs.length,λi H v a=>a=H/\∃b,bs[i]?=some b/\v=.ref b,λi H=>H d=some (.bu o (.dT kvs))/\kvs.length<=i⟩
def lU(H:Hp)(kvs:List (List Key×V))(bs:List eu):Prop:=WL (λa b=>H b=some (.tup (a.1.map kV))) kvs bs
def KeysIn(a:Array W1)(bs:List eu):Prop:=∀(i:Nat) (hi:i<a.size),∃b,bs[i]?=some b/\a[i].key=.ref b
section
variable{P:lT}{w:px}{H:Hp}{h:qt}{d:eu}{X:Cx}{K:gj}{pos:z8}{H0:Hp×Hp}{Hi:Hp}{ps:Nat->Option eu}{Z:DS}{σ:St}
theorem sX (x:cO P w H h d (.dT kvs)):∃a ep o bs,h.get? d=some o/\o.ExactDict/\o.data=.dict a ep/\a.size=kvs.length/\lU H kvs bs/\KeysIn a bs:=by
 obtain⟨_,_,xs,b,o,a,ep,g,j,k,c,h5⟩:=x;have l:a.size=xs.length:=by
  have:=congrArg List.length c;simpa using this
 have m:∀{kvs:List (List Key×V)}{xs:List (List Key×eu×cA)},WL (λ(p:List Key×V) (q:List Key×eu×cA)=>p.1=q.1/\H q.2.1=some (.tup (p.1.map kV))/\RelV p.2 q.2.2) kvs xs->lU H kvs (xs.map λx=>x.2.1):=λb=>by
  induction b with
  | nil=>exact .nil
  | cons h _ n=>exact .cons h.2.1 n
 refine⟨a,ep,o,xs.map λx=>x.2.1,g,j,k,by simp only[l,pX b],m b,λi r=>?_⟩
 have e:xs[i]?=some xs[i]:=cm (by omega)
 have f:a.toList[i]?=some a[i]:=by simp[r]
 simp only[c,cR,e] at f;refine⟨xs[i].2.1,by rw[cR,e];rfl,?_⟩
 rw[<-Option.some.inj f];rfl
def QZ (J:l.size=n)(hne:d≠it)(m:o.data=.dict l ep)(a:KeysIn l bs) :
  Turn P w K Q (wt d o kvs bs) [it] it (λi h=>h.IsKeyIter it d i n ep) where
 mem:=by simp
 obj:=λi h st b a=>by
  have e:b=it:=by simpa using a
  subst e;obtain⟨o,e,c,d⟩:=st;exact⟨o,e,λv z=>by rw[d] at z;contradiction⟩
 keep:=λi h h' st k=>by
  obtain⟨o,e,c,d⟩:=st;exact⟨o,k it (by simp) o e,c,d⟩
 item:=by
  intro X t hw u L i f s σ H E I p st x;subst t hw u J;obtain⟨y,A,R,B,C,D⟩:=p it (by simp)
  obtain⟨hd,S⟩:=x;obtain⟨g,ok⟩:=I.aw d _ hd;obtain⟨es',M,N,O,j,F,g3,T,_,_⟩:=sX ok;rw[g] at j;cases j;rw[m] at g3;cases g3;have q:i<l.size:=by omega
  refine Ib st ⟨o,g,F,m⟩ q λh' r U=>?_
  have Y:Inv X f σ H {s with heap:=h',toks:=s.toks}:=I.turned (λb o a e=>(U.2 b a).trans e) y A B C D
  obtain⟨b,tb,G⟩:=a i q;obtain⟨N,e,c,dd⟩:=id r;exact⟨_,rfl,nj e c dd rfl ⟨.ref b,H,Y,by rw[G];rfl,⟨rfl,b,tb,rfl⟩,r,λb a=>(p b a).1⟩⟩
 done:=by
  intro X t hw u L i f s σ H E I p st x;subst t hw u J;obtain⟨y,A,R,B,C,D⟩:=p it (by simp)
  obtain⟨hd,S⟩:=x;obtain⟨g,ok⟩:=I.aw d _ hd;obtain⟨es',M,N,O,j,F,g3,T,_,_⟩:=sX ok;rw[g] at j;cases j;rw[m] at g3;cases g3;exact Ha (I.ok.hd L) st ⟨o,g,F,m⟩ (by lia) λh' G=>⟨rfl,I.turned (λb o a e=>G b o a e) y A B C D⟩
 self:=λ_ _ _ _ _ st h=>aaR st h
def Inv.NR (I:Inv X f σ H s)(e:H d=some (.dT kvs))(j:s.heap.get? d=some o):Inv X f σ (upd H d (.bu o (.dT kvs))) s:=by
  have g:∀b u,H b=some u->u≠.dT kvs->b≠d:=λb u q z y=>by rw[y,e] at q;obtain rfl:=sO q;exact z rfl
  have un:Un X.fs [] H (upd H d (.bu o (.dT kvs))) s.heap s.heap :=
    ⟨λb a q _ _ _=>q,λb a q _ _ _=>⟨a.slots,q⟩,λb a q n _=>by rw[aC (λz=>by rw[z,e] at n;contradiction)];exact n,λb a q _=>⟨a,q⟩,
     λb xs q=>by rw[aC (g b _ q (by intro z;contradiction))];exact q,λb a u q=>by rw[aC (g b _ q (by intro z;contradiction))];exact q,λb ps q=>⟨#[],by rw[aC (g b _ q (by intro z;contradiction)),q];simp⟩⟩
  have st:∀b u,cO X.prog X.w H s.heap b u->cO X.prog X.w (upd H d (.bu o (.dT kvs))) s.heap b u:=λb u x =>
    x.gO (λc v _ q=>q) (λc q=>by rw[aC (g c _ q (by intro z;contradiction))];exact q) λc xs q=>by rw[aC (g c _ q (by intro z;contradiction))];exact q
  have aw:cc X.prog X.w (upd H d (.bu o (.dT kvs))) s.heap:=λb u q=>by
    by_cases i:b=d
    · subst i
      rw[ba] at q;obtain rfl:=sO q;exact⟨j,st _ _ (I.aw _ _ e)⟩
    · rw[aC i] at q
      exact st _ _ (I.aw b u q)
  exact I.un un aw
def Pk(te:TE):TI:=fun σ H R=>te σ H λv a=>∃d kvs,v=.ref d/\a d=some (.dT kvs)/\∀o bs,lU a kvs bs->R (wt d o kvs bs) (upd a d (.bu o (.dT kvs)))
def CA (l:PE X e te):PI X k e (Pk te):=by
 intro c s σ H R I h;refine aG (l c s σ H _ I h) λv a ⟨y,H1,i,m,n⟩=>?_
 obtain⟨d,kvs,rfl,hd,q⟩:=n;subst m;have ok:=i.aw d _ hd;have lo:=ok.2.1;obtain⟨es,ep,o,bs,f,p,g3,g4,r,t⟩:=sX ok;have j:=gi f;have g:=i.NR hd f;refine IK lo ⟨o,f,p,g3⟩ ⟨a.heap.objs.size,[a.heap.objs.size],_,_,_,rfl,g.kept λb o e=>fj _ e,QZ rfl (iW j) g3 t,⟨_,k5 _ rfl,rfl,rfl⟩,λb u=>?_,q o bs r⟩
 simp[show b=a.heap.objs.size by simpa using u]
 exact g.kG (eT _) (g.aw.fresh (eT _))
def Me:bN X (.builtin "len") (λxs H Q=>∃a kvs,xs=[V.ref a]/\Rd H a (.dT kvs)/\Q (.int kvs.length) H):=by
 intro pins s σ H xs us Q I r h;obtain⟨a,kvs,rfl,c,q⟩:=h;obtain⟨u,rfl,e⟩:=vals1 r;subst e;have ok:=xD I.aw c;have lo:=ok.2.1;have z:=ok.1;obtain⟨es,ep,o,bs,f,g,g3,b,g5,g6⟩:=sX ok;refine Lx lo ⟨o,f,g,g3⟩ (by rw[b];simp only[z4] at z;lia) λt t'=>?_
 rw[b];exact⟨.int kvs.length,H,I.tok _,⟨t,rfl⟩,q⟩
abbrev gP:=List (List fk×Dat)
noncomputable def fD(a:gP)(k:List fk):Option Dat:=(a.find? λp=>decide (p.1=k)).map (·.2)
def oU(a:gP)(k:List fk)(d:Dat):gP:=if (fD a k).isSome=true then a.map (λp=>if p.1=k then (p.1,d) else p) else a++[(k,d)]
noncomputable def kT(k:List fk):List Key:=k.map ro
theorem E4:kT a=kT b ↔ a=b:=by
 delta kT;constructor
 ·intro h;induction a generalizing b with
  | nil=>cases b with
   | nil=>rfl
   | cons _ _=>contradiction
  | cons x a c=>cases b with
   | nil=>contradiction
   | cons y b =>
    obtain⟨e,f⟩:=List.cons.inj h;rw[Sum.inr.inj e,c f]
 ·intro h;rw[h]
def wb(k):(kT k).map kV=k.map V.str:=by
 delta kT;rw[gd];rfl
theorem bX.length:∀{a:gP}{kvs:List (List Key×V)},bX K H a kvs->kvs.length=a.length
 | [],_,h=>by rw[show _=[] from h];rfl
 | (_,_)::_,_,⟨v,r,e,q,t⟩=>by simp only[e,fv,fv,bX.length t]
theorem bX.find:∀{c:gP}{kvs:List (List Key×V)}(k:List fk),bX K H c kvs->(∀d,fD c k=some d->∃v,fJ kvs (kT k)=some v/\Rep K H d v)/\(fD c k=none->fJ kvs (kT k)=none)
 | [],_,k,h=>by
  rw[show _=[] from h]
  exact⟨λd z=>by simp[fD] at z,λ_=>rfl⟩
 | (f,d')::c,_,k,⟨v,r,e,q,t⟩=>by
  rw[show _=(kT f,v)::r from e]
  obtain⟨a,b⟩:=bX.find k t
  by_cases g:f=k
  ·subst g;have i:fD ((f,d')::c) f=some d':=by simp[fD]
   rw[i,oY rfl];exact⟨λd z=>⟨v,rfl,by obtain rfl:=sO z;exact q⟩,λz=>by contradiction⟩
  ·have i:fD ((f,d')::c) k=fD c k:=by simp[fD,g]
   rw[i,qw (λz=>g (E4.mp z))]
   exact⟨a,b⟩
theorem bX.has (k:List fk)(h:bX K H c kvs):(fJ kvs (kT k)).isSome=(fD c k).isSome:=by
 obtain⟨a,b⟩:=h.find k;cases e:fD c k with
 | none=>rw[b e];rfl
 | some d=>obtain⟨v,f,_⟩:=a d e;rw[f];rfl
theorem bX.jj:∀{a:gP}{kvs:List (List Key×V)}(k:List fk) {d:Dat}{v:V},bX K H a kvs->Rep K H d v->bX K H (a.map λp=>if p.1=k then (p.1,d) else p) (kvs.map λp=>if p.1=kT k then (p.1,v) else p)
 | [],_,k,_,_,h,_=>by simp only[show _=[] from h];exact rfl
 | (b,d')::a,_,k,d,v,⟨w,r,e,q,t⟩,c=>by
  rw[show _=(kT b,w)::r from e,ka,ka]
  by_cases f:b=k
  ·subst f;rw[if_pos rfl,if_pos rfl];exact⟨v,_,rfl,c,bX.jj b t c⟩
  ·rw[if_neg f,if_neg (λz=>f (E4.mp z))]
   exact⟨w,_,rfl,q,bX.jj k t c⟩
theorem bX.snoc:∀{b:gP}{kvs:List (List Key×V)}(k:List fk) {d:Dat}{v:V},bX K H b kvs->Rep K H d v->bX K H (b++[(k,d)]) (kvs++[(kT k,v)])
 | [],_,k,_,v,h,a=>by rw[show _=[] from h];exact⟨v,[],rfl,a,rfl⟩
 | (_,_)::_,_,k,_,_,⟨w,r,e,q,t⟩,a=>⟨w,r++_,by rw[e];rfl,q,bX.snoc k t a⟩
def bX.put{a:gP}{kvs:List (List Key×V)}(k:List fk){d:Dat}{v:V}(h:bX K H a kvs)(b:Rep K H d v):bX K H (oU a k d) (putK kvs (kT k) v):=by
 delta oU putK;rw[tT,h.has k];split
 ·exact h.jj k b
 ·exact h.snoc k b
theorem Du:∀{a:gP}{kvs:List (List Key×V)},bX K H a kvs->kvs.map (·.1)=a.map λk=>kT k.1
 | [],_,h=>by rw[show _=[] from h];rfl
 | (_,_)::_,_,⟨v,r,e,q,t⟩=>by simp only[e,ka,ka,Du t];rfl
abbrev UF:=DS->Option (List fk×DS)
def mD(X:Cx)(e:hY)(f:UF):Prop:=∃t,PE X e t/\∀(H0:Hp×Hp) (ps:Nat->Option eu) (Z:DS) (σ:St) (H Hi:Hp) (l:List fk) (b:DS) (Q:VK),f Z=some (l,b)->SR X.K H0 ps Z σ H Hi ->
 (∀p c a,SR X.K H0 ps b σ c a->aj Hi a->a p=some (.tup ((kT l).map kV))->Q (.ref p) c)->t σ H Q
def xj(f:AF):UF:=λZ=>(f Z).bind λp=>if p.1.length<=dk then (dB p.1).map λl=>(l,p.2) else none
def yH(f:AF):UF:=λZ=>(f Z).bind λp=>match p.1 with
 | [.lst ds]=>(dB ds).map λl=>(l,p.2)
 | _=>none
def HF {c}(h:DA X a f):mD X (.Tuple a c pos) (xj f):=by
 obtain⟨t,p,q⟩:=h;refine⟨_,BL p,λH0 ps Z σ H Hi l Z' Q e S k=>?_⟩
 obtain⟨ds,Z1,g,e⟩:=oB e;split at e
 ·rename_i i;obtain⟨l',j,e⟩:=oM e;obtain⟨rfl,rfl⟩:=sP e;refine q H0 ps Z σ H Hi ds _ _ g S λvs H1 Hi1 m n b=>⟨by rw[b.length];exact i,λp r=>?_⟩
  obtain⟨s,u⟩:=m.laid r;refine k p _ _ s (n.trans u) ?_;rw[ba,k8 j b,wb]
 ·exact nO e
def RM (g:Gl X "tuple")(i:X.mg "tuple"=none)(j:bK X e [])(m:DA X [e] fa):mD X (.Call (.Name "tuple" p) [e] [] pos) (yH fa):=by
 obtain⟨t,n,q⟩:=m;refine⟨_,tf zq g i (by decide +kernel) n (by decide) rfl j rfl,λH0 ps Z σ H Hi l Z' Q b S k=>?_⟩
 obtain⟨ds,Z1,r,b⟩:=oB b;dsimp only at b;split at b
 ·obtain⟨l',s,b⟩:=oM b;obtain⟨rfl,rfl⟩:=sP b;refine q H0 ps Z σ H Hi _ _ _ r S λvs H1 Hi1 c u x=>?_
  obtain⟨v,vr,rfl,⟨a,f,rfl,y,rs⟩,z⟩:=x;subst z;refine⟨a,f,rfl,.inl ⟨.inl (Rd.mono c.sub y),λp A=>?_⟩⟩
  obtain⟨B,C⟩:=c.laid A;refine k p _ _ B (u.trans C) ?_;rw[ba,k8 s rs,wb]
 ·exact nO b
noncomputable def B3:EF:=λZ=>some (.own (.bf false []),Z)
def FA:DE X (.Dict [] [] pos) B3:=by
 refine⟨_,IE,λH0 ps Z σ H Hi r Z' Q a S k=>?_⟩
 obtain⟨rfl,rfl⟩:=sP a;intro l hl;exact k (.ref l) _ Hi (S.made hl) (aj.refl _) ⟨l,rfl,⟨rfl,_,ba,rfl,S.dw hl⟩,(S.bJ hl).2,(S.bJ hl).1,S.dP hl⟩
def qy(i:Nat)(b:UF)(f:DF):SF:=λZ=>(f Z).bind λp=>((p.2[i]?).bind ownOf).bind λ_=>(b p.2).bind λq=>((q.2[i]?).bind ownOf).bind λs=>match s.2 with
 | .bf _ a=>if a.length<dk then some (.next (q.2.set i (kindAt s.1 (.bf false (oU a q.1 p.1))))) else none
 | _=>none
def Qn (i:Nat)(J:X.A.units+1<y3)(L:X.N[i]?=some x)(M:cC X.env.scope x)(h:DD X e f)(O:mD X g r)(hd:bO x:=by decide)(s:dh x:=by decide)(hs:P2 e (some (.Subscript (.Name x m) g pt)) pos.line X.env=pure false:=by rfl):cM X (.Assign [.Subscript (.Name x m) g pt] e pos) (qy i r f):=by
 obtain⟨t,p,q⟩:=h;obtain⟨tk,Q,R⟩:=O;refine⟨_,CM J (fT L M hd s) Q p hs,λH0 ps Z σ H Hi o D e S k=>?_⟩
 obtain⟨d,Z1,T,e⟩:=oB e;obtain⟨b0,c0,U,e⟩:=oB e;obtain⟨n,Z2,V,e⟩:=oB e;obtain⟨io,c,u,e⟩:=oB e;dsimp only at e;split at e
 ·split at e
  ·rename_i W;obtain rfl:=sO e;refine q H0 ps Z σ H Hi d Z1 _ T S λv Y B C s1 r1=>?_
   obtain⟨a,j,_⟩:=C.at (kd U);refine⟨.ref a,j,R H0 ps Z1 σ Y B _ Z2 _ V C λy H2 E l F r2=>?_⟩
   obtain⟨b,G,ob⟩:=l.at (kd u);rw[j] at G;cases G;obtain⟨z,kvs,h1,I,h3⟩:=ob;refine⟨a,_,rfl,kC.t h1 (l.sub _ _ r2) (by rw[bX.length I];exact W),?_⟩
   exact k σ _ E (l.write (kd u) j ⟨rfl,_,ba,bX.put n I (Rep.mono F r1),h3⟩) (s1.trans F)
  ·exact nO e
 ·exact nO e
theorem SR.share(S:SR K H0 ps Z σ H Hi)(e:H b=some (.tup vs)):∃f,SR K H0 ps Z σ H f/\aj Hi f/\f b=some (.tup vs)/\∀q u,f q=some u->Hi q=some u\/∃vs,u=.tup vs:=by
 cases z:Hi b with
 | some u =>
  have:=S.sub _ _ z;rw[e] at this;obtain rfl:=sO this;exact⟨Hi,S,aj.refl _,z,λ_ _ h=>.inl h⟩
 | none =>
  have sm:aj Hi (upd Hi b (.tup vs)):=j9 z;have ne:∀{q:eu}{c:Dat},cB K H Hi q c->q≠b:=λh y=>by subst y;exact h.nt e
  refine⟨_,⟨Cv S.sub e,S.keep,S.fx,λi d h=>?_,λi c h=>?_,λi c h=>?_,S.ne,S.len,λq u h=>?_⟩,sm,ba,λq u h=>?_⟩
  ·obtain⟨v,a,r⟩:=S.dat i d h;exact⟨v,a,Rep.mono sm r⟩
  ·obtain⟨q,a,o,j,k⟩:=S.own i c h;exact⟨q,a,o.keeps rfl sm (by rw[aC (ne o)];exact o.some.2),j,k⟩
  ·obtain⟨q,a,o,j⟩:=S.io i c h;exact⟨q,a,o.keeps rfl sm (by rw[aC (ne o)];exact o.some.2),j⟩
  ·by_cases g:q=b
   ·subst g;rw[ba] at h;cases h;exact .inr (.inr ⟨vs,rfl⟩)
   ·rw[aC g] at h;exact S.nw q u h
  ·by_cases g:q=b
   ·subst g;rw[ba] at h;obtain rfl:=sO h;exact .inr ⟨vs,rfl⟩
   ·rw[aC g] at h;exact .inl h
theorem SR.AS (k:lU H kvs bs):∀{Hi:Hp},SR K H0 ps Z σ H Hi->∃a,SR K H0 ps Z σ H a/\aj Hi a/\lU a kvs bs/\∀q u,a q=some u->Hi q=some u\/∃vs,u=.tup vs:=by
 induction k with
 | nil=>exact λS=>⟨_,S,aj.refl _,.nil,λ_ _ h=>.inl h⟩
 | cons h _ c =>
  intro Hi S;obtain⟨H1,f,g,i,j⟩:=S.share h;obtain⟨l,m,b,n,o⟩:=c f;exact⟨l,m,g.trans b,.cons (b _ _ i) n,λq u e=>(o q u e).elim (j q u) .inr⟩
def SR.hold (S:SR K H0 ps Z σ H Hi)(e:Z[i]?=some (.own c))(l:σ[i]?=some (some (.ref p)))(r:Rep K (upd Hi p o) d' (.ref p)):SR K H0 ps (Z.set i (.dat d')) σ (upd H p o) (upd Hi p o)/\aj Hi (upd Hi p o):=by
 obtain⟨p',m,E,nl,A⟩:=S.own i _ e;rw[l] at m;cases m;have n:=(cn.mp e).1;have sm:aj Hi (upd Hi p o):=j9 E.some.2;have back:∀{j:Nat}{s:Slot},(Z.set i (.dat d'))[j]?=some s->(∀d,s≠.dat d)->j≠i/\Z[j]?=some s:=λ{j s} h F=>by
  by_cases f:j=i
  ·subst f;rw[o3 n] at h;obtain rfl:=sO h;exact absurd rfl (F _)
  ·rw[oy (Ne.symm f)] at h;exact⟨f,h⟩
 refine⟨⟨wA S.sub,λb u t G=>?_,λq B=>?_,λj d h=>?_,λj c h=>?_,λj c h=>?_,λj k c I q J L=>?_,by rw[H9];exact S.len,λq u eq=>?_⟩,sm⟩
 ·rw[aC (λz=>by rw[z,A] at t;exact nO t)]
  exact S.keep b u t G
 ·have C:q≠p:=λz=>nl (z ▸ B)
  rw[aC C];exact S.fx q B
 ·by_cases f:j=i
  ·subst f;rw[o3 n] at h;cases h;exact⟨_,l,r⟩
  ·rw[oy (Ne.symm f)] at h;obtain⟨v,a,b⟩:=S.dat j d h;exact⟨v,a,b.mono sm⟩
 ·obtain⟨f,h⟩:=back h (by intro d z;contradiction)
  obtain⟨q,a,b,x,M⟩:=S.own j c h;have g:q≠p:=λz=>f (S.ne j i _ _ p (.inl h) (.inl e) (z ▸ a) l)
  exact⟨q,a,b.keeps (aC g) sm (by rw[aC g];exact b.some.2),x,M⟩
 ·obtain⟨f,h⟩:=back h (by intro d z;contradiction)
  obtain⟨q,a,b,x⟩:=S.io j c h;have g:q≠p:=λz=>f (S.ne j i _ _ p (.inr h) (.inl e) (z ▸ a) l)
  exact⟨q,a,b.keeps (aC g) sm (by rw[aC g];exact b.some.2),x⟩
 ·have N:=J.imp (λz=>(back z (by intro d y;cases y)).2) λz=>(back z (by intro d y;cases y)).2
  have O:=L.imp (λz=>(back z (by intro d y;cases y)).2) λz=>(back z (by intro d y;cases y)).2
  exact S.ne j k c I q N O
 ·by_cases D:q=p
  ·subst D;exact .inr (.inl A)
  ·rw[aC D] at eq;exact S.nw q u eq
def SR.held (S:SR K H0 ps Z σ H Hi)(s:cB K H Hi p c)(nl:¬gE ps p)(k:H0.1 p=none)(nd:∀(i:Nat) (l:Dat),(Z[i]?=some (.own l)\/Z[i]?=some (.io l))->σ[i]?≠some (some (.ref p))):SR K H0 ps Z σ (upd H p o) (upd Hi p o)/\aj Hi (upd Hi p o):=by
 have sm:aj Hi (upd Hi p o):=j9 s.some.2;refine⟨⟨wA S.sub,λb u f t=>?_,λq m=>?_,λj d h=>?_,λj c h=>?_,λj c h=>?_,S.ne,S.len,λq u eq=>?_⟩,sm⟩
 ·rw[aC (λz=>by rw[z,k] at f;exact nO f)]
  exact S.keep b u f t
 ·have n:q≠p:=λz=>nl (z ▸ m)
  rw[aC n];exact S.fx q m
 ·obtain⟨v,a,b⟩:=S.dat j d h;exact⟨v,a,b.mono sm⟩
 ·obtain⟨q,a,b,g,x⟩:=S.own j c h;have e:q≠p:=λz=>nd j c (.inl h) (z ▸ a)
  exact⟨q,a,b.keeps (aC e) sm (by rw[aC e];exact b.some.2),g,x⟩
 ·obtain⟨q,a,b,g⟩:=S.io j c h;have e:q≠p:=λz=>nd j c (.inr h) (z ▸ a)
  exact⟨q,a,b.keeps (aC e) sm (by rw[aC e];exact b.some.2),g⟩
 ·by_cases r:q=p
  ·subst r;exact .inr (.inl k)
  ·rw[aC r] at eq;exact S.nw q u eq
noncomputable def jV(a:gP):List Dat:=a.map λk=>.tup (k.1.map .str)
theorem yX:∀l:List fk,az K H (l.map .str) (l.map V.str)
 | []=>rfl
 | x::l=>⟨_,_,rfl,rfl,yX l⟩
def Cq (f:Hi p=some (.bu o (.dT kvs)))(g:bX K Hi a kvs)(kb:lU Hi kvs bs):JW K (wt p o kvs bs) (jV a) Hi:=by
 intro j H2 i;have hl:=bX.length g;have lk:(jV a).length=a.length:=by unfold jV;rw[ab]
 refine⟨λd c=>⟨⟨i _ _ f,?_⟩,λv H3 n=>.inl ?_⟩,λh=>⟨i _ _ f,?_⟩⟩
 ·have:=(cn.mp c).1;omega
 ·obtain⟨rfl,b,q,rfl⟩:=n;refine⟨rfl,?_⟩;have k:j<a.length:=by
   have:=(cn.mp c).1;omega
  have l:kvs[j]?=some kvs[j]:=cm (by omega)
  have m:=yI kb j _ _ l q;have e:(kvs.map (·.1))[j]?=some kvs[j].1:=by rw[cR,l];rfl
  simp only[Du g,cR,cm k] at e;have e:=Option.some.inj e;unfold jV at c;simp only[cR,cm k] at c;obtain rfl:=sO c;rw[<-e,wb] at m;exact⟨b,_,rfl,aX.of m,yX _⟩
 ·omega
def vK(i:Nat):IF:=λZ=>match Z[i]? with
 | some (.own (.bf _ a))=>some (jV a,Z.set i (.dat (.bf true a)))
 | _=>none
def N0 (r:X.N.findIdx? (·==x)=some i)(s:cC X.env.scope x)(hd:bO x)(g:dh x):dv X n (.Name x q) (vK i):=by
 refine⟨_,CA (fT (fg r) s hd g),λH0 ps Z σ H Hi items Z' R a S k=>?_⟩
 unfold vK at a;split at a
 ·rename_i fz t e;obtain⟨rfl,rfl⟩:=sP a;obtain⟨p,c,⟨_,kvs,u,j,np⟩,nl,n0⟩:=S.own i _ e;refine⟨_,c,p,kvs,rfl,u,λo bs kb=>?_⟩
  obtain⟨H1,l,f,v,_⟩:=S.AS kb;obtain⟨p',b,⟨_,kvs',hp',rk',m⟩,_⟩:=l.own i _ e;rw[c] at b;cases b;have sm:=j9 (o:=.bu o (.dT kvs)) m;obtain⟨y,A⟩:=l.hold (d':=.bf true t) e c ⟨p,o,kvs,rfl,ba,(j.mono f).mono sm⟩;exact k _ _ _ y (f.trans A) (Cq ba ((j.mono f).mono sm) (Paired.nB v λ_ _ z=>sm _ _ z))
 ·exact nO a
def tW(f:EF):IF:=λZ=>(f Z).bind λp=>match p.1 with
 | .own (.bf _ a)=>some (jV a,p.2)
 | _=>none
theorem QL (h:DE X e f):dv X n e (tW f):=by
 obtain⟨t,s,q⟩:=h;refine⟨_,CA s,λH0 ps Z σ H Hi items Z' R a S k=>?_⟩
 obtain⟨r,Z1,x,a⟩:=oB a;dsimp only at a;split at a
 ·rename_i A B;obtain⟨rfl,rfl⟩:=sP a;refine q H0 ps Z σ H Hi _ _ _ x S λv C Hi1 D E F=>?_
  obtain⟨p,rfl,i,nl,G,nd⟩:=F;obtain⟨_,kvs,j,I,J⟩:=id i;refine⟨p,kvs,rfl,j,λo bs kb=>?_⟩
  obtain⟨c,l,g,L,M⟩:=D.AS kb;have b:c p=none:=by
   cases z:c p with
   | none=>rfl
   | some u =>
    rcases M p u z with y|⟨ts,y⟩
    ·rw[J] at y;exact nO y
    ·subst y;have t:=l.sub _ _ z;rw[j] at t;cases t
  have m:=i.keeps rfl g b;have sm:=j9 (o:=.bu o (.dT kvs)) b;obtain⟨N,O⟩:=l.held m nl G nd;exact k _ _ _ N ((E.trans g).trans O) (Cq ba ((I.mono g).mono sm) (Paired.nB L λ_ _ z=>sm _ _ z))
 ·exact nO a
def lR(neg:Bool)(i:Nat)(b:UF):EF:=λZ=>(b Z).bind λq=>((q.2[i]?).bind iU).bind λc=>match c with
 | .bf _ a=>some (.dat (.bl (if neg then !(fD a q.1).isSome else (fD a q.1).isSome)),q.2)
 | _=>none
theorem Bw (t:Top K H Hi v (.bf a b)):∃p kvs,v=.ref p/\Rd H p (.dT kvs)/\bX K Hi b kvs:=by
 obtain⟨p,o,kvs,e,c,f⟩:=t;refine⟨p,kvs,e,?_,f⟩;cases a with
 | false=>exact .inl c
 | true=>exact .inr ⟨o,c⟩
def wZ (q:∀(H0:Hp×Hp) (ps:Nat->Option eu) (Z:DS) (σ:St) (H Hi:Hp) (l:List fk) (f:DS) (Q:VK),m Z=some (l,f)->SR X.K H0 ps Z σ H Hi->(∀p g a,SR X.K H0 ps f σ g a->aj Hi a->a p=some (.tup ((kT l).map kV))->Q (.ref p) g)->tk σ H Q)(H0)(ps)(Z)(σ)(H Hi)(o)(f)(Q)(e:lR neg i m Z=some (o,f))(S:SR X.K H0 ps Z σ H Hi)(k:∀v g a,SR X.K H0 ps f σ g a->aj Hi a->RR X.K H0 ps f σ g a v o->Q v g):nM (oO neg) tk (yK i) σ H Q:=by
 obtain⟨l,Z1,r,e⟩:=oB e;dsimp only at e;obtain⟨c,s,e⟩:=oA e;split at e
 ·obtain⟨rfl,rfl⟩:=sP e;refine q H0 ps Z σ H Hi _ _ _ r S λb u n j x y=>?_
  obtain⟨v,z,t⟩:=j.peek s;obtain⟨p,kvs,rfl,A,B⟩:=Bw t;refine⟨_,z,p,_,rfl,.inr ⟨kvs,kT l,b,A,rfl,j.sub _ _ y,rfl⟩,?_⟩;rw[B.has l];exact k _ u n j x rfl
 ·exact nO e
def OE (f:X.A.units+1<y3)(g:X.N.findIdx? (·==x)=some i)(j:cC X.env.scope x)(hd:bO x)(e:dh x)(k:zI .In (.Name x b)=false)(l:mD X a c):DE X (.Compare a [.In] [.Name x b] pos) (lR false i c):=by
 obtain⟨t,p,q⟩:=l;exact⟨_,Co (yJ f) p (fT (fg g) j hd e) k,wZ q⟩
def By (q:∀(H0:Hp×Hp) (ps:Nat->Option eu) (Z:DS) (σ:St) (H Hi:Hp) (o:Res) (e:DS) (Q:VK),f Z=some (o,e)->SR X.K H0 ps Z σ H Hi->(∀v g a,SR X.K H0 ps e σ g a->aj Hi a->RR X.K H0 ps e σ g a v o->Q v g)->t σ H Q)(H0)(ps)(Z)(σ)(H Hi)(c)(e)(Q)(b:fE f Z=some (c,e))(S:SR X.K H0 ps Z σ H Hi)(k:∀g a,SR X.K H0 ps e σ g a->aj Hi a->Q c g):xu t σ H Q:=by
 obtain⟨r,Z1,j,b⟩:=oB b;dsimp only at b;split at b
 ·obtain⟨rfl,rfl⟩:=sP b;refine q H0 ps Z σ H Hi _ _ _ j S λv l i m n p=>?_
  exact⟨_,p,k l i m n⟩
 ·exact nO b
def Ld (f:X.A.units+1<y3)(g:X.N.findIdx? (·==x)=some i)(j:cC X.env.scope x)(hd:bO x)(e:dh x)(k:zI .In (.Name x b)=false)(l:mD X a c):DT X (.Compare a [.In] [.Name x b] pos) (fE (lR false i c)):=by
 obtain⟨t,p,q⟩:=l;exact⟨_,yG (yJ f) p (fT (fg g) j hd e) k,By (wZ q)⟩
def R6 (f:X.A.units+1<y3)(g:X.N.findIdx? (·==x)=some i)(j:cC X.env.scope x)(hd:bO x)(e:dh x)(k:zI .NotIn (.Name x b)=false)(l:mD X a c):DT X (.Compare a [.NotIn] [.Name x b] pos) (fE (lR true i c)):=by
 obtain⟨t,p,q⟩:=l;exact⟨_,yG (Af f) p (fT (fg g) j hd e) k,By (wZ q)⟩
def yt:List Dat->Option Res
 | [.bf _ a]=>some (.dat (.int (a.length:Int)))
 | ds=>yw ds
def NI:CD X (λxs H Q=>yc X.K xs H Q\/(λxs H Q=>∃a kvs,xs=[V.ref a]/\Rd H a (.dT kvs)/\Q (.int kvs.length) H) xs H Q) yt:=by
 intro H0 ps Z σ H Hi vs ds o Q e S r k;delta yt at e;split at e
 ·obtain rfl:=sO e;obtain⟨v,vr,rfl,b,c⟩:=r;subst c;obtain⟨p,kvs,rfl,f,g⟩:=Bw (b.top S.sub);refine .inr ⟨p,kvs,rfl,f,?_⟩;refine k _ H Hi S (aj.refl _) ?_;show V.int _=V.int _;rw[bX.length g]
 ·exact .inl (N9 H0 ps Z σ H Hi vs ds o Q e S r k)
def KN (a:Gl X "len")(b:X.mg "len"=none)(c:bK X e [])(f:DA X [e] fa):DE X (.Call (.Name "len" p) [e] [] pos) (cg yt fa):=iT (bN.or Ec Me) NI a b X5 f (by decide) rfl c rfl
def Qi (j:X.N.findIdx? (·==x)=some i)(k:cC X.env.scope x)(l:X.A.units+1<y3)(hd:bO x)(g:dh x)(hs:P2 e (some (.Subscript (.Name x b) a pt)) pos.line X.env=pure false)(h:DD X e f)(m:mD X a c):cM X (.Assign [.Subscript (.Name x b) a pt] e pos) (qy i c f):=Qn i l (fg j) k h m hd g hs
structure mI (x:fk):Prop where
 ok:True
def Mm (ht:mI x)(b:X.N.Nodup)(c:X.N.findIdx? (·==x)=some i)(e:Loc X.env.scope x)(f:X.fn x=true\/X.env.scope.names.lookup x=some .local)(hs:P2 (.Dict [] [] p) (some (.Name x a)) pos.line X.env=pure false):cM X (.Assign [.Name x a] (.Dict [] [] p) pos) (iI i B3):=wB b c e f hs FA
end
def ER(a b:eu):It:=⟨λi H=>∃xs ys x y,Rd H a (.lst xs)/\Rd H b (.lst ys)/\xs[i]?=some x/\ys[i]?=some y,λi H v c=>∃p x y,H p=none/\v=.ref p/\c=upd H p (.tup [x,y])/\(∀xs,Rd H a (.lst xs)->xs[i]?=some x)/\∀ys,Rd H b (.lst ys)->ys[i]?=some y,λi H=>∃xs ys,Rd H a (.lst xs)/\Rd H b (.lst ys)/\(xs.length<=i\/ys.length<=i)⟩
def QW{P:lT}{w:px}{K:gj}{elts:List hY}{x1:Nat}{Z:z8}{a b z TI TO g j:eu}(D:ZipApart z TI TO g j a b) :
  Turn P w K (.Tuple elts x1 Z) (ER a b) [z,TI,TO,g,j] z (λi h=>IsZip h z TI TO .none/\IsPair h TI (.ref g) (.ref j)/\(∃u v,IsPair h TO u v)/\h.IsListIter g a i/\h.IsListIter j b i) where
 mem:=by simp
 obj:=λi h st c l=>by
  obtain⟨C,F,⟨u,v,J⟩,⟨o1,e1,c1,d1⟩,⟨o2,e2,c2,d2⟩⟩:=st;simp at l
  rcases l with rfl|rfl|rfl|rfl|rfl
  ·exact⟨_,C,λv z=>by contradiction⟩
  ·exact⟨_,F,λv z=>by contradiction⟩
  ·exact⟨_,J,λv z=>by contradiction⟩
  ·exact⟨o1,e1,λv z=>by rw[d1] at z;contradiction⟩
  ·exact⟨o2,e2,λv z=>by rw[d2] at z;contradiction⟩
 keep:=λi h h' st k=>⟨k z (by simp) _ st.1,k TI (by simp) _ st.2.1,st.2.2.1.imp λu e=>e.imp λv q=>k TO (by simp) _ q,st.2.2.2.1.at λo q=>k g (by simp) o q,st.2.2.2.2.at λo q=>k j (by simp) o q⟩
 item:=by
  intro X hP hw hK d i L s σ H E I G st hg;obtain⟨C,F,⟨u0,v0,J⟩,T,U⟩:=st;obtain⟨xs,ys,x,y,V,N,hx,hy⟩:=hg;obtain⟨_,its,n,rv,ea⟩:=V.ok I.aw;obtain⟨_,its',n',O,Q⟩:=N.ok I.aw;obtain⟨u,hu,ru⟩:=rv.get hx;obtain⟨Y,Sw,Sx⟩:=O.get hy;have p:=G z (by simp)
  have t:=G TO (by simp)
  have A:=G g (by simp)
  have B:=G j (by simp)
  have lt:∀{c:eu}{o:KX},s.heap.get? c=some o->c≠s.heap.objs.size:=λe=>iW (gi e)
  refine wpAny_pyNext_zip_item D C F J T U ⟨_,ea,rfl,n,rfl⟩ ⟨_,Q,rfl,n',rfl⟩ (by simpa using hu) (by simpa using Sw) λh3 g1 g2 g3 g4 g5 g6 g7=>?_
  refine⟨_,rfl,wpAny_letOwnedTupleGo_zip g1 λR f1 M=>?_⟩
  have M:V3 z h3 R:=M;have fr:=I.aw.fresh (eT _);have cV:∀c o,c≠z->c≠TO->c≠g->c≠j->s.heap.get? c=some o->R.get? c=some o:=λc o k1 k2 k3 k4 q=>(M.2 c k1).trans (g7 c o k1 k2 k3 k4 q)
  have ht:=(M.2 _ (Ne.symm (lt C))).trans g5;have f:∀{c:eu},c∉[z,TO,g,j]->c≠z/\c≠TO/\c≠g/\c≠j:=λ{c} h=>⟨λe=>h (by simp[e]),λe=>h (by simp[e]),λe=>h (by simp[e]),λe=>h (by simp[e])⟩
  have fU:∀c w,H c=some w->c≠z/\c≠TO/\c≠g/\c≠j:=λc w q=>⟨dC q p.1,dC q t.1,dC q A.1,dC q B.1⟩
  have S:∀c w,H c=some w->c≠s.heap.objs.size:=λc w q=>dC q fr
  refine⟨.ref s.heap.objs.size,upd H s.heap.objs.size (.tup [x,y]),?_,rfl,⟨_,x,y,fr,rfl,rfl,λzs C=>by rw[C.Bk V];exact hx,λzs C=>by rw[C.Bk N];exact hy⟩,⟨f1,?_,⟨u,Y,(M.2 _ D.TOz).trans g2⟩,?_,?_⟩,λc l=>?_⟩
  ·show Inv X L σ (upd H s.heap.objs.size (.tup [x,y])) {s with heap:=R,gens:=s.gens,drawn:=s.drawn,toks:=s.toks}
   refine Inv.step I (λb l=>?_) (λb o _ _ d q _=>cV b o (f d).1 (f d).2.1 (f d).2.2.1 (f d).2.2.2 q) (λb o _ _ d q _=>⟨o.slots,cV b o (f d).1 (f d).2.1 (f d).2.2.1 (f d).2.2.2 q⟩)
    (λb o d q n=>by rw[aC (iW (gi q))];exact n) (λb o d q=>⟨o,cV b o (f d).1 (f d).2.1 (f d).2.2.1 (f d).2.2.2 q⟩) (λb ys q=>by rw[aC (S b _ q)];exact q) (λb ob w q=>by rw[aC (S b _ q)];exact q)
    (λb ps q=>⟨#[],by rw[aC (S b _ q),q];simp⟩) (λm hm=>?_) (λb w q=>?_) I.bare
   ·simp at l
    rcases l with rfl|rfl|rfl|rfl
    ·exact⟨p.2.2.2.1,p.2.1,p.2.2.2.2.1,p.2.2.2.2.2⟩
    ·exact⟨t.2.2.2.1,t.2.1,t.2.2.2.2.1,t.2.2.2.2.2⟩
    ·exact⟨A.2.2.2.1,A.2.1,A.2.2.2.2.1,A.2.2.2.2.2⟩
    ·exact⟨B.2.2.2.1,B.2.1,B.2.2.2.2.1,B.2.2.2.2.2⟩
   ·obtain⟨o,es,ep,ho,r⟩:=hm;exact⟨o,es,ep,cV _ o (Ne.symm p.2.1) (Ne.symm t.2.1) (Ne.symm A.2.1) (Ne.symm B.2.1) ho,r⟩
   ·by_cases l:b=s.heap.objs.size
    ·subst l;rw[ba] at q;obtain rfl:=sO q;exact⟨by show 2<=dk;unfold dk;decide,[u,Y],.cons ru (.cons Sx .nil),_,ht,rfl,_,rfl⟩
    ·rw[aC l] at q;refine (I.aw b w q).gO (λc v d r=>?_) (λc r=>by rw[aC (S c _ r)];exact r) λc ys r=>by rw[aC (S c _ r)];exact r
     rcases d with rfl|d
     ·exact cV c v (fU _ _ q).1 (fU _ _ q).2.1 (fU _ _ q).2.2.1 (fU _ _ q).2.2.2 r
     ·exact cV c v (fU _ _ d).1 (fU _ _ d).2.1 (fU _ _ d).2.2.1 (fU _ _ d).2.2.2 r
  ·exact cV TI _ D.TIz D.TITO D.TIi1 D.TIi2 F
  ·exact g3.at λo q=>(M.2 _ D.i1z).trans q
  ·exact g4.at λo q=>(M.2 _ D.i2z).trans q
  ·have SA:c≠s.heap.objs.size:=by
    obtain⟨o1,e1,_⟩:=T;obtain⟨o2,e2,_⟩:=U;simp at l
    rcases l with rfl|rfl|rfl|rfl|rfl
    ·exact lt C
    ·exact lt F
    ·exact lt J
    ·exact lt e1
    ·exact lt e2
   rw[aC SA];exact (G c l).1
 done:=by
  intro X hP hw hK d i L s σ H E I G st hg;obtain⟨C,F,⟨u0,v0,J⟩,T,U⟩:=st;obtain⟨xs,ys,V,N,hl⟩:=hg;obtain⟨_,its,n,rv,ea⟩:=V.ok I.aw;obtain⟨_,its',n',O,Q⟩:=N.ok I.aw;have l1:=rv.length;have l2:=O.length;refine wpAny_pyNext_zip_end (I.ok.hd d) D C F J T U ⟨_,ea,rfl,n,rfl⟩ ⟨_,Q,rfl,n',rfl⟩ (hl.imp (λz=>by simp;lia) λz=>by simp;lia) λh' k=>?_
  have p:=G z (by simp)
  have t:=G TO (by simp)
  have A:=G g (by simp)
  have B:=G j (by simp)
  have cV:∀c o,c≠z/\c≠TO/\c≠g/\c≠j->s.heap.get? c=some o->h'.get? c=some o:=λc o q e=>k c o q.1 q.2.1 q.2.2.1 q.2.2.2 e
  have f:∀{c:eu},c∉[z,TO,g,j]->c≠z/\c≠TO/\c≠g/\c≠j:=λ{c} h=>⟨λe=>h (by simp[e]),λe=>h (by simp[e]),λe=>h (by simp[e]),λe=>h (by simp[e])⟩
  have fU:∀c w,H c=some w->c≠z/\c≠TO/\c≠g/\c≠j:=λc w q=>⟨dC q p.1,dC q t.1,dC q A.1,dC q B.1⟩
  refine⟨rfl,?_⟩;show Inv X L σ H {s with heap:=h',gens:=s.gens,drawn:=s.drawn,toks:=s.toks}
  refine Inv.step I (λb l=>?_) (λb o _ _ d q _=>cV b o (f d) q) (λb o _ _ d q _=>⟨o.slots,cV b o (f d) q⟩)
   (λ_ _ _ _ n=>n) (λb o d q=>⟨o,cV b o (f d) q⟩) (λ_ _ q=>q) (λ_ _ _ q=>q) (λb ps q=>⟨#[],by rw[q];simp⟩) (λm hm=>?_) (λb w q=>?_) I.bare
  ·simp at l
   rcases l with rfl|rfl|rfl|rfl
   ·exact⟨p.2.2.2.1,p.2.1,p.2.2.2.2.1,p.2.2.2.2.2⟩
   ·exact⟨t.2.2.2.1,t.2.1,t.2.2.2.2.1,t.2.2.2.2.2⟩
   ·exact⟨A.2.2.2.1,A.2.1,A.2.2.2.2.1,A.2.2.2.2.2⟩
   ·exact⟨B.2.2.2.1,B.2.1,B.2.2.2.2.1,B.2.2.2.2.2⟩
  ·obtain⟨o,es,ep,ho,r⟩:=hm;exact⟨o,es,ep,cV _ o ⟨Ne.symm p.2.1,Ne.symm t.2.1,Ne.symm A.2.1,Ne.symm B.2.1⟩ ho,r⟩
  ·refine (I.aw b w q).gO (λc v d r=>?_) (λc r=>r) λc ys r=>r
   rcases d with rfl|d
   ·exact cV c v (fU _ _ q) r
   ·exact cV c v (fU _ _ d) r
 self:=λ_ _ _ _ _ st h=>abz st.1 h
section
variable{X:Cx}
def Po:C' "zip"=some (.type "zip"):=by decide +kernel
def F5(d:TA):TI:=λe H R=>d e H λvs c=>∃a b xs ys,vs=[.ref a,.ref b]/\Rd c a (.lst xs)/\Rd c b (.lst ys)/\R (ER a b) c
def GR (x:Gl X "zip")(y:X.mg "zip"=none)(z:PA X [a,b] k)(hs:bK X a [b])(l:(Wf pos (ph [b] X.env)).any (·.1)=false):PI X (.Tuple elts w i) (.Call (.Name "zip" p) [a,b] [] pos) (F5 k):=by
 intro j s A H R I h;refine Call_ (oh I x y Po (Vw (aG (z pos j s A H _ I h) λus d ⟨vs,B,f,C,D⟩=>?_) hs l))
 obtain⟨a,b,xs,ys,rfl,E,m,q⟩:=D;obtain⟨u,u',rfl,F,o⟩:=C.two;subst F;subst o;obtain⟨_,its,n,rv,e⟩:=E.ok f.aw;obtain⟨_,its',G,rv',r⟩:=m.ok f.aw;refine call_zip_2 ⟨_,e,rfl,n,rfl⟩ ⟨_,r,rfl,G,rfl⟩ λh' t J K L M k6 N=>abz t ?_
 refine⟨_,[d.heap.objs.size+4,d.heap.objs.size+2,d.heap.objs.size+3,d.heap.objs.size,d.heap.objs.size+1],_,_,B,rfl,f.kept N,QW (zipApart_new (gi e) (gi r)),⟨t,J,⟨_,_,K⟩,L,M⟩,λc v=>?_,q⟩
 have g:d.heap.objs.size<=c:=by
  simp at v
  rcases v with rfl|rfl|rfl|rfl|rfl
  ·exact Wa _ _
  ·exact Wa _ _
  ·exact Wa _ _
  ·exact eT _
  ·exact Wa _ _
 exact f.kG g (f.aw.fresh g)
end
noncomputable def kP(a bs:List Dat):List Dat:=(a.zip bs).map λp=>.tup [p.1,p.2]
def sk(fa:AF):IF:=λZ=>(fa Z).bind λp=>match p.1 with
 | [.lst a,.lst bs]=>some (kP a bs,p.2)
 | _=>none
section
variable{X:Cx}{pos:z8}{prog:lT}{w:px}{A:r0}{E:cA->ee->Prop}{s:ee}
def Ou (P:Gl X "zip")(Q:X.mg "zip"=none)(hs:bK X a [b])(D:(Wf pos (ph [b] X.env)).any (·.1)=false)(T:DA X [a,b] fa):dv X (.Tuple elts O B) (.Call (.Name "zip" p) [a,b] [] pos) (sk fa):=by
 obtain⟨t,U,q⟩:=T;refine⟨_,GR P Q U hs D,λV W Z Y H Hi items Z' R c S k=>?_⟩
 obtain⟨e,Z1,e1,c⟩:=oB c;dsimp only at c;split at c
 ·rename_i e bs;obtain⟨rfl,rfl⟩:=sP c;refine q V W Z Y H Hi _ _ _ e1 S λvs H1 F C s1 r1=>?_
  obtain⟨v,vr,rfl,⟨a',j,rfl,l,rs⟩,v',vr',rfl,⟨b',f,rfl,g,u⟩,rn⟩:=r1;subst rn;have hl:=rs.length;have hl':=u.length;have G:(kP e bs).length=min e.length bs.length:=by unfold kP;rw[ab,YP]
  refine⟨a',b',j,f,rfl,Rd.mono C.sub l,Rd.mono C.sub g,k _ H1 F C s1 λi H2 h=>⟨λd m=>?_,λI=>⟨j,f,Rd.mono h l,Rd.mono h g,?_⟩⟩⟩
  ·have hi:i<min e.length bs.length:=by rw[<-G];exact (cn.mp m).1
   have J:i<e.length:=by omega
   have K:i<bs.length:=by omega
   have L:d=.tup [e[i],bs[i]]:=by
    unfold kP at m;rw[cR,(Wb (z:=(e[i],bs[i]))).mpr ⟨cm J,cm K⟩] at m;exact (Option.some.inj m).symm
   subst L;obtain⟨x,ex,rx⟩:=rs.get (cm J);obtain⟨y,M,ry⟩:=u.get (cm K);refine⟨⟨j,f,x,y,Rd.mono h l,Rd.mono h g,ex,M⟩,λv H3 yl=>.inr ?_⟩
   obtain⟨p,x',y',hp,rfl,rfl,o,r⟩:=yl;have o:=o j (Rd.mono h l);have r:=r f (Rd.mono h g);rw[ex] at o;rw[M] at r;obtain rfl:=sO o;obtain rfl:=sO r;exact⟨p,_,hp,rfl,λHi' N n=>⟨p,_,rfl,aX.of ba,_,_,rfl,(rx.mono N).mono (j9 n),_,_,rfl,(ry.mono N).mono (j9 n),rfl⟩⟩
  ·rw[G] at I
   lia
 ·exact nO c
theorem rH:∀{a:List fk}{us:List cA},aH (a.map V.str) us->XJ us a
 | [],_,h=>by cases h;exact .nil
 | x::a,_,h=>by
  cases h with
  | cons r t =>
   obtain⟨k,e⟩:=(r)
   subst e;exact .cons x k (rH t)
def uv:List V->Hp->VK->Prop:=λxs H Q=>∃p a,xs=[.ref p]/\Rd H p (.lst (a.map V.str))/\a.length<64/\∀l,H l=none->Q (.ref l) (upd H l (.lst ((bW a).map V.str)))
def MQ:bN X (.builtin "sorted") uv:=by
 intro pins s σ H xs us Q I r h;obtain⟨p,b,rfl,j,h64,q⟩:=h;obtain⟨u,rfl,k⟩:=r.one;subst k;obtain⟨z,its,n,f,e⟩:=j.ok I.aw;have d:=rH f;have hl:its.length<64:=by
  have:=f.length;rw[ab] at this;omega
 refine sortedK Z9 ⟨_,e,rfl,n,rfl⟩ d.keysOf (λv₁ v₂ rest e=>aaz (by rw[<-e];exact d)) hl λg m hs=>?_
 obtain⟨ss',i,t,v⟩:=uJ d m hs;obtain⟨c,x⟩:=sortedAll_at s.heap its ((aaY g).map (·.2));rw[tN t v] at i;have y:((bW b).map V.str).length<=sizeLine:=by
  have B:(bW b).length=b.length:=(ib b df).length_eq;simp[z4];omega
 exact⟨.ref (s.heap.objs.size+1),_,I.laid (o:=.lst ((bW b).map V.str)) (λ_ _=>acx) (WX _) ⟨y,_,c,sv i,by simp only[WU];exact x⟩,rfl,q _ (I.aw.fresh (WX _))⟩
def yq:List Dat->Option Res
 | [.lst ds]=>match dB ds with
  | some a=>if a.length<64 then some (.own (.lst ((bW a).map .str))) else none
  | none=>m9 [.lst ds]
 | ds=>m9 ds
def Fx:CD X (λxs H Q=>(λxs H Q=>sQ X.K xs H Q\/rZ xs H Q) xs H Q\/uv xs H Q) yq:=by
 intro c d Z e H b vs ds o Q a S r k;delta yq at a;split at a
 ·split at a
  ·rename_i f g;split at a
   ·rename_i h;obtain rfl:=sO a;obtain⟨v,vr,rfl,⟨p,ws,rfl,i,rs⟩,j⟩:=r;subst j;have m:=k8 g rs;subst m;refine .inr ⟨p,f,rfl,Rd.mono S.sub i,h,λl hl=>?_⟩
    exact k (.ref l) _ b (S.made hl) (aj.refl _) ⟨l,rfl,⟨_,ba,qq _,S.dw hl⟩,(S.bJ hl).2,(S.bJ hl).1,S.dP hl⟩
   ·exact nO a
  ·exact .inl (y8 c d Z e H b vs _ o Q a S r k)
 ·exact .inl (y8 c d Z e H b vs _ o Q a S r k)
noncomputable def x8:List Dat->Option Res
 | [.lst ds]=>some (.own (.lst ds))
 | [.tup ds]=>some (.own (.lst ds))
 | _=>none
def Hk:CD X (λxs H Q=>∃p vs,xs=[.ref p]/\(cw X.K H p vs\/aX X.K H p vs)/\∀l,H l=none->Q (.ref l) (upd H l (.lst vs))) x8:=by
 intro H0 ps Z σ H f vs ds o Q e S r k;delta x8 at e;split at e
 ·cases e;obtain⟨v,g,rfl,⟨a,b,rfl,c,rs⟩,d⟩:=r;cases d;refine⟨a,b,rfl,.inl (.inl (Rd.mono S.sub c)),λl hl=>?_⟩
  exact k (.ref l) _ f (S.made hl) (aj.refl _) ⟨l,rfl,⟨_,ba,rs,S.dw hl⟩,(S.bJ hl).2,(S.bJ hl).1,S.dP hl⟩
 ·cases e;obtain⟨v,g,rfl,⟨a,b,rfl,c,rs⟩,d⟩:=r;cases d;refine⟨a,b,rfl,.inr (aX.mono S.sub c),λl hl=>?_⟩
  exact k (.ref l) _ f (S.made hl) (aj.refl _) ⟨l,rfl,⟨_,ba,rs,S.dw hl⟩,(S.bJ hl).2,(S.bJ hl).1,S.dP hl⟩
 ·exact nO e
def I0 (a:Gl X "list")(b:X.mg "list"=none)(c:bK X e [])(d:DA X [e] fa):DE X (.Call (.Name "list" p) [e] [] pos) (cg x8 fa):=tI Pm Hk a b (by decide +kernel) d (by decide) rfl c rfl
def PC (u:s.heap.get? a=some o)(v:o.cls=.type "tuple")(x:o.data=.seq vs.toArray n)(h:XJ vs k)(l:vs.length<64)(q:∀(d i:qt) (c:Nat) (g:List cA),(∀b f,s.heap.get? b=some f->d.get? b=some f)->(∀b f,d.get? b=some f->i.get? b=some f)->i.get? d.objs.size=some (WO "list" g.toArray c)->XJ g (bW k)->Q (.ref d.objs.size) {s with heap:=i}):iN (ma prog w) A (call (.builtin "sorted") [.ref a]) Q E s:=by
 refine Xg kind_sorted plain_sorted entry_sorted (args_sorted1 _) ?z;delta W6.«sorted»
 refine bt (eR (bt (wpAny_collect_seq a (.inr rfl) u v x (λd y=>?I) (by simp;rw[z4];omega))))
 refine bt (ZX ?J);have j:(d.push (WO "list" vs.toArray 0)).get? d.objs.size=some (WO "list" vs.toArray 0):=k5 _ rfl;refine bt (q0 (z9 ZK ⟨_,j,rfl⟩ Zs (ab0 Z9 j h.keysOf (λv₁ v₂ rest e=>aaz (by rw[<-e];exact h)) l λp B C=>⟨_,rfl,?K⟩) (ZL _)))
 obtain⟨ss',r,D,F⟩:=uJ h B C;obtain⟨c,G⟩:=acw j;rw[tN D F] at r;refine eR ⟨_,rfl,q d _ c _ y (λb f e=>?L) (by simp only[WU];exact G) r⟩
 have H:=iW (gi e);have t:(d.push (WO "list" vs.toArray 0)).get? b=some f:=fj _ e;exact (aci H (gi t)).trans t
def BY(K:gj):List V->Hp->VK->Prop:=λxs H Q=>∃p a,xs=[.ref p]/\aX K H p (a.map V.str)/\a.length<64/\∀l,H l=none->Q (.ref l) (upd H l (.lst ((bW a).map V.str)))
def QT:bN X (.builtin "sorted") (BY X.K):=by
 intro pins s σ H xs us Q I r h;obtain⟨p,b,rfl,i,h64,q⟩:=h;obtain⟨u,rfl,j⟩:=r.one;subst j;obtain⟨its,e,⟨o,d,k,n,l⟩,_⟩:=I.tuple i;have m:=rH e;have hl:its.length<64:=by
  have:=e.length;rw[ab] at this;lia
 refine PC d k l m hl λf g2 c vs' t v x y=>?_
 have g:=I.kept (t':=s.toks) t;have z:((bW b).map V.str).length<=sizeLine:=by
  have d:(bW b).length=b.length:=(ib b df).length_eq;simp[z4]
  lia
 exact⟨.ref f.objs.size,_,g.laid (o:=.lst ((bW b).map V.str)) v (eT _) ⟨z,_,c,sv y,x⟩,rfl,q _ (g.aw.fresh (eT _))⟩
def mz:List Dat->Option Res
 | [.tup ds]=>(dB ds).bind λa=>if a.length<64 then some (.own (.lst ((bW a).map .str))) else none
 | ds=>yq ds
def KL:CD X (λxs H Q=>((λxs H Q=>sQ X.K xs H Q\/rZ xs H Q) xs H Q\/uv xs H Q)\/BY X.K xs H Q) mz:=by
 intro c d Z e H b vs ds o Q a S r k;delta mz at a;split at a
 ·obtain⟨f,g,a⟩:=oA a;split at a
  ·rename_i h;obtain rfl:=sO a;obtain⟨v,vr,rfl,⟨p,ws,rfl,i,rs⟩,j⟩:=r;subst j;have m:=k8 g rs;subst m;refine .inr ⟨p,f,rfl,aX.mono S.sub i,h,λl hl=>?_⟩
   exact k (.ref l) _ b (S.made hl) (aj.refl _) ⟨l,rfl,⟨_,ba,qq _,S.dw hl⟩,(S.bJ hl).2,(S.bJ hl).1,S.dP hl⟩
  ·exact nO a
 ·exact .inl (Fx c d Z e H b vs _ o Q a S r k)
def zH (a:X.ex=[])(b:X.calm=true)(c:Gl X "sorted")(d:X.mg "sorted"=none)(f:bK X e [])(g:DA X [e] fa):DE X (.Call (.Name "sorted" p) [e] [] pos) (cg mz fa) :=
 iT (bN.or (bN.or (bN.or (Jp a) (FP a b)) MQ) QT) KL c d (by decide +kernel) g (by decide) rfl f rfl
def O7(te:TE):TE:=λb H Q=>te b H λv a=>∃d kvs,v=.ref d/\a d=some (.dK kvs)/\∀o,Q v (upd a d (.bu o (.dK kvs)))
def FK (c:PE X e te):PE X e (O7 te):=by
 intro a s f H Q I h;refine aG (c a s f H _ I h) λv s1 ⟨y,H1,b,g,i⟩=>?_
 obtain⟨d,kvs,rfl,hd,q⟩:=i;obtain⟨z,lo,vs,kv,o,es,ep,j,rest⟩:=b.aw d _ hd;exact⟨.ref d,_,b.bu hd j,g,q o⟩
structure wG (x:fk):Prop where
 ok:True
noncomputable def qP(f:EF):EF:=λZ=>(f Z).bind λp=>match p.1 with
 | .own (.bP a)=>some (.dat (.dR a),p.2)
 | _=>none
def J8 (h:DE X e f):DE X e (qP f):=by
 obtain⟨t,p,q⟩:=h;refine⟨_,FK p,λd g Z i H j r Z' Q a S k=>?_⟩
 obtain⟨r1,Z1,l,a⟩:=oB a;dsimp only at a;split at a
 ·obtain⟨rfl,rfl⟩:=sP a;refine q d g Z i H j _ _ _ l S λv H1 Hi1 m n u=>?_
  obtain⟨p,rfl,b,nl,x,nd⟩:=u;obtain⟨kvs,y,z,np⟩:=id b;refine⟨p,kvs,rfl,y,λo=>?_⟩
  obtain⟨B,c⟩:=m.held b nl x nd;exact k _ _ _ B (n.trans c) ⟨p,o,kvs,rfl,ba,z.mono c⟩
 ·exact nO a
def Kv (ht:wG x)(b:X.N.Nodup)(c:X.N.findIdx? (·==x)=some i)(d:Loc X.env.scope x)(g:X.fn x=true\/X.env.scope.names.lookup x=some .local)(hs:P2 e (some (.Name x a)) pos.line X.env=pure false)(h:DE X e f):cM X (.Assign [.Name x a] e pos) (iI i (qP f)):=wB b c d g hs (J8 h)
noncomputable def qu:Dat->Dat->Option Res
 | .int i,.int j=>some (.dat (.bl (decide (i<j))))
 | .str x,.str y=>some (.dat (.bl (decide (x.cps.toList<y.cps.toList))))
 | _,_=>none
def Ds:eF X (λx y H Q=>(iD λi j=>.bl (decide (i<j))) x y H Q\/(λx y H Q=>∃i j,x=.str i/\y=.str j/\Q (.bl (decide (i.cps.toList<j.cps.toList))) H) x y H Q) qu:=by
 intro H0 ps Z σ H a x y d d' o Q e S b c k;delta qu at e;split at e
 ·cases e;subst b;subst c;exact .inl ⟨_,_,rfl,rfl,k _ H a S (aj.refl _) rfl⟩
 ·obtain rfl:=sO e;subst b;subst c;exact .inr ⟨_,_,rfl,rfl,k _ H a S (aj.refl _) rfl⟩
 ·exact nO e
def Na (c:DD X a f)(d:DD X b g):DE X (.Compare a [.Lt] [b] pos) (cK qu f g):=pv (aO.or DJ yW) Ds c d (jR _)
def Iz (c:DD X a f)(d:DD X b g):DT X (.Compare a [.Lt] [b] pos) (fE (cK qu f g)):=lL (aO.or DJ yW) Ds c d (jR _)
end
section
open Sem (wp)
section
variable{prog:lT}{w:px}{A:r0}{E:cA->ee->Prop}{β:Type}
theorem Fq:∀(m k j:Nat),j<m->(∀i,k<=i->i<k+j->∀R:ForInStep β->ee->Prop,R (.yield b) s->iN (ma prog w) A (f i b) R E s)->(∀R:ForInStep β->ee->Prop,R (.done r) s'->iN (ma prog w) A (f (k+j) b) R E s)->Q r s' ->
  iN (ma prog w) A (forIn (List.range' k m) b f) Q E s
 | 0,_,_,h,_,_,_=>absurd h (zR _)
 | m+1,k,0,h,_,hd,q=>by
  exact bt (hd _ (eR q))
 | m+1,k,j+1,h,a,hd,q=>by
  rw[aaK,XY];refine bt (a k (eT _) (by lia) _ ?_)
  exact Fq m (k+1) j (by lia) (λi h1 h2=>a i (by lia) (by lia)) (by rw[show k+1+j=k+(j+1) from by lia];exact hd) q
end
section
variable{prog:lT}{w:px}{A:r0}{E:cA->ee->Prop}{h:qt}{g:Array Yn}{d:Drawn}{t:Nat}{os:OsState}
def Kk{l:eu}{its:Array cA}{n j:Nat}{x:fk}{tx:Tok}{a:List fk}{Q:Fin->ee->Prop}{o:KX}(hl:h.get? l=some o)(f:o.cls=.type "tuple")(hd:o.data=.seq its n)(k:XJ its.toList a)(p:a[j]?=some x)(s:∀i,i<j->a[i]?≠some x)
 (q:Q (.done (.ret (.int (j:Int) t))) ⟨h,g,d,t+1,os⟩) :
  iN (ma prog w) A (W6.«tuple.index» ⟨[.ref l,.str x tx],[]⟩) Q E ⟨h,g,d,t,os⟩:=by
 obtain⟨cl,bP,dat,sl⟩:=o;subst f hd;have len:a.length=its.size:=by rw[<-k.strs];simp
 have v:j<its.size:=by
  have:=(cn.mp p).1;omega
 have at_:∀i (b:i<its.size),∃y u,its[i]?=some (Vs y u)/\a[i]?=some y:=λi b=>by
  obtain⟨y,u,e⟩:=k.all its[i] (by simp)
  refine⟨y,u,by rw[iR b,e],?_⟩
  simp only[<-k.strs,cR,gW,iR b,e];rfl
 unfold W6.«tuple.index»
 simp only[aa4]
 repeat (any_goals (first|assumption|(with_reducible refine Fq (r:=(some (.done (.ret (.int (j:Int) t))),())) (s':=⟨h,g,d,t+1,os⟩) _ _ j ?B ?C ?D ?F)|wp_step))
 case B =>
  simp[aa3];omega
 case C =>
  intro i _ b R r;obtain⟨y,u,m,c⟩:=at_ i (by lia)
  rw[m];refine bt (WZ ?_);rw[decide_eq_false (λz=>s i (by lia) (by simp only[c,z])),if_neg aaj]
  exact eR r
 case D =>
  intro R r;rw[SS];obtain⟨y,u,m,c⟩:=at_ j v;rw[p] at c;obtain rfl:=sO c;rw[m];refine bt (WZ ?_);rw[decide_eq_true rfl,if_pos rfl];refine bt ?_;unfold retInt;exact bt (wpAny_mkInt (eR (eR r)))
end
end
section
variable{X:Cx}
def FJ(K:gj):V->List V->Hp->VK->Prop:=λx vs H Q=>∃(p:eu) (a:List fk) (y:fk) (j:Nat),x=.ref p/\vs=[.str y]/\aX K H p (a.map V.str)/\a[j]?=some y/\(∀i,i<j->a[i]?≠some y)/\Q (.int (j:Int)) H
def OC:rG X "tuple.index" (FJ X.K):=by
 intro pins s σ H x vs v us Q I d e h;obtain⟨p,ss,y,j,rfl,rfl,f,g,i,q⟩:=h;subst d;obtain⟨u,rfl,k⟩:=e.one;obtain⟨t,rfl⟩:=(k)
 obtain⟨its,a,⟨o,b,c,n,l⟩,_⟩:=I.tuple f;have m:=rH a;refine z9 ZG ⟨_,b,c⟩ F.entry_tuple_index ?_ (F.args_tuple_index_2 _ _);exact Kk b c l (m) g i ⟨_,rfl,.int (j:Int),H,I.tok _,⟨_,rfl⟩,q⟩
structure u5 (K:gj) (mg:fk->Option cA) (x:fk) (ss:List fk):Prop where
 is:∃(p:eu) (o:KX) (its:Array cA) (n:Nat),mg x=some (.ref p)/\K.lookup p=some o/\o.cls=.type "tuple"/\o.dict=none/\o.data=.seq its n/\its.size<=dk/\aH (ss.map V.str) its.toList
noncomputable def Ei(a:List fk)(fa:AF):DF:=λZ=>(fa Z).bind λq=>match q.1 with
 | [.str y]=>if y∈a then some (.int ((a.idxOf y:Nat):Int),q.2) else none
 | _=>none
theorem Fh{b:List fk}{y:fk}(h:y∈b):b[b.idxOf y]?=some y/\∀i,i<b.idxOf y->b[i]?≠some y:=by
 induction b with
 | nil=>contradiction
 | cons a r d =>
  by_cases e:a=y
  ·subst e;rw[List.idxOf_cons_self];exact⟨rfl,λi f=>absurd f (zR _)⟩
  ·have h:y∈r:=by
    rcases f'.mp h with rfl|h
    ·exact absurd rfl e
    ·exact h
   have g:(a::r).idxOf y=r.idxOf y+1:=by
    have c:(a==y)=false:=by
     cases c:a==y with
     | false=>rfl
     | true=>exact absurd (eq_of_beq c) e
    rw[List.idxOf_cons,c];rfl
   rw[g];refine⟨by simpa using (d h).1,λi f=>?_⟩
   cases i with
   | zero=>simpa using e
   | succ i =>
    simpa using (d h).2 i (by lia)
def PB (g:u5 X.K X.mg x f)(A:Gl X x)(hd:bO x)(i:W4 (.Name x h) "index" X.env (eval (.Name x h) X.env)=eval (.Name x h) X.env)(l:pj X pos e)(j:(c.endLine==pos.line)=true)(hs:bK X e [])(B:DA X [e] fa):DD X (.Call (.Attribute (.Name x h) "index" c) [e] [] pos) (Ei f fa):=by
 obtain⟨t,p,q⟩:=B;obtain⟨a,o,its,n,m,r,s,C,D,E,G⟩:=g.is;refine⟨_,tK PySem.F.plainAttrs_tuple ZG PySem.F.type_tuple_index OC (zX (v:=.ref a) A m rfl hd) p i l j hs rfl,λI J Z L H M d Z' Q b S k=>?_⟩
 obtain⟨as,Z2,m,b⟩:=oB b;dsimp only at b;split at b
 ·split at b
  ·rename_i y u;obtain⟨rfl,rfl⟩:=sP b;refine⟨.inr (.inl ⟨rfl,o,r,s,C⟩),q I J Z L H M _ _ _ m S λvs N w O P R=>?_⟩
   obtain⟨z,yr,rfl,T,U⟩:=R;subst U;subst T;exact⟨a,f,y,f.idxOf y,rfl,rfl,.inr ⟨o,its,n,r,s,D,E,G⟩,(Fh u).1,(Fh u).2,k _ N w O P rfl⟩
  ·exact nO b
 ·exact nO b
noncomputable def pO:Nat:=1000
def N2 (a:Yq (ma X.prog X.w) X.A X.env X.xe)(b:DT X c fc)(d:gQ X body fb):cM X (.While c body [] pos) (gy fc fb pO):=FE pO a b d
def P7:cM X (.Raise e c p) (λ_=>none):=⟨λ_ _ _=>False,λ_ _ _ _ _ _ h=>VB h,λ_ _ _ _ _ _ _ _ e=>by cases e⟩
def Mr (ht:mI x)(d:X.N.findIdx? (·==x)=some i)(e:cC X.env.scope x)(hd:bO x)(a:dh x):dv X b (.Name x c) (vK i):=N0 d e hd a
def FC (ht:mI g)(h:DE X (.Call (.Name g p) a [] pos) f):dv X b (.Call (.Name g p) a [] pos) (tW f):=QL h
end
section
variable{X:Cx}{e k:hY}{te tk:TE}{p2 pos:z8}
def Nh(K:gj):V->Hp->VK->Prop:=λx H Q=>∃a xs,x=.ref a/\cw K H a xs/\∀p,H p=none->Q (.ref p) (upd H p (.lst xs.reverse))
def Rp(K:gj)(te tk:TE):TE:=λa H Q=>te a H λx b=>tk a b λi c=>i=.int (-1)/\Nh K x c Q
theorem aH.rev (h:aH xs vs):aH xs.reverse vs.reverse:=by
 induction h with
 | nil=>exact .nil
 | cons a b c=>simp only[Xm,Xm];exact c.append (.cons a .nil)
def M0(m:PE X e te)(n:PE X k tk):PE X (.Subscript e (.Slice none none (some k) p2) pos) (Rp X.K te tk):=by
 intro c s f H Q I h;refine ZM (aG (m c s f H _ I h) λv p ⟨x,t,u,w,y⟩=>?_)
 refine wpAny_Slice ?_;refine eR (eR ?_);refine aG (n c p f t _ u y) λvk d ⟨i,z,A,B,C⟩=>?_
 obtain⟨rfl,a,xs,rfl,D,q⟩:=C;subst w;obtain⟨tk,rfl⟩:=B;have g:Inv X c f z {d with heap:=d.heap.push {cls:=.type "slice",data:=.fields #[.none,.none,.int (-1) tk]} }:=A.kept (t':=d.toks) λb E q=>fj _ q
 obtain⟨its,r,j,l⟩:=g.list D;refine ach j.isList.typeIs YV.lookup ?_ (by with_unfolding_all rfl)
 refine ZY j.isList (YL ..) .none .none (.int (-1) tk) (by simp) ?_ (by rw[ft,<-r.length];exact l)
 rw[W.krv_pick];refine⟨.ref _,_,g.laid (λb E q=>fj _ q) (eT _) ?_,rfl,q _ (g.aw.fresh (eT _))⟩
 exact⟨by rw[L'];exact l,_,0,aH.rev r,k5 _ rfl⟩
noncomputable def Hs:Dat->Option Res
 | .lst ds=>some (.own (.lst ds.reverse))
 | _=>none
def mW(f g:DF):EF:=λZ=>(f Z).bind λp=>(g p.2).bind λq=>match q.1 with|.int i=>if i=-1 then (Hs p.1).map λo=>(o,q.2) else none|_=>none
theorem az.rev{K:gj}{H:Hp}:∀{ds:List Dat}{vs:List V},az K H ds vs->az K H ds.reverse vs.reverse
 | [],_,h=>by rw[show _=[] from h];exact rfl
 | _::_,_,⟨v,r,e,q,t⟩=>by simp only[e,Xm,Xm];exact az.append (az.rev t) ⟨v,[],rfl,q,rfl⟩
theorem LA (w:DD X e f)(x:DD X k g):DE X (.Subscript e (.Slice none none (some k) p2) pos) (mW f g):=by
 obtain⟨t,p,q⟩:=w;obtain⟨th,y,A⟩:=x;refine⟨_,M0 p y,λj l Z m H B o Z' Q b S C=>?_⟩
 obtain⟨d,Z1,D,b⟩:=oB b;dsimp only at b;obtain⟨a,Z2,E,b⟩:=oB b;dsimp only at b;split at b
 ·rename_i i
  by_cases n:i=-1
  case neg=>rw[if_neg n] at b;exact nO b
  subst n;refine q j l Z m H B d Z1 _ D S λv F r G I J=>?_
  refine A j l Z1 m F r _ Z2 _ E G λv2 H3 s c u K=>?_
  subst K;have L:=Rep.mono u J;cases d with
  | lst ds =>
   obtain⟨rfl,rfl⟩:=sP b;obtain⟨p,vs,rfl,M,rs⟩:=L;refine⟨rfl,p,vs,rfl,.inl (Rd.mono c.sub M),λz h=>?_⟩
   exact C (.ref z) _ s (c.made h) (I.trans u) ⟨z,rfl,⟨_,ba,az.rev rs,c.dw h⟩,(c.bJ h).2,(c.bJ h).1,c.dP h⟩
  | _=>exact nO b
 ·exact nO b
def Km:bN X (.builtin "abs") (λxs H Q=>∃i,xs=[.int i]/\Q (.int (if i<0 then -i else i)) H):=by
 intro pins s σ H xs us Q I r h;obtain⟨i,rfl,q⟩:=h;obtain⟨u,rfl,t,rfl⟩:=vals1 r;exact call_abs_int λu tk=>⟨.int _,H,I.tok _,⟨_,rfl⟩,q⟩
def RV (a:Gl X "abs")(b:X.mg "abs"=none)(c:bK X e [])(d:DA X [e] fa):DE X (.Call (.Name "abs" p) [e] [] pos) (cg qX fa):=iT Km K2 a b (by decide +kernel) d (by decide) rfl c rfl
def Kx (g:Gl X "range")(i:X.mg "range"=none)(hs:ph [a,b] X.env=[(false,eval a X.env),(false,eval b X.env)])(c:ph [b] X.env=[(false,eval b X.env)])(h:DA X [a,b] f):dv X d (.Call (.Name "range" p) [a,b] [] pos) (qB f):=Fy g i h hs c
def Jn:aO X (n5 .Is) (λx y H Q=>∃a b,x=.bl a/\y=.bl b/\Q (.bl (a==b)) H):=by
 intro pins s σ H x y v u Q I c d h;obtain⟨a,b,rfl,rfl,q⟩:=h;subst c;subst d;exact wpAny_is_plain (by cases a<;>cases b<;>rfl) (tO I q (by cases a<;>cases b<;>rfl))
def Ra:aO X (n5 .IsNot) (λx y H Q=>∃a b,x=.bl a/\y=.bl b/\Q (.bl (!(a==b))) H):=by
 intro pins s σ H x y v u Q I c d h;obtain⟨a,b,rfl,rfl,q⟩:=h;subst c;subst d;exact wpAny_isNot_plain (by cases a<;>cases b<;>rfl) (tO I q (by cases a<;>cases b<;>rfl))
noncomputable def nr(neg:Bool):Dat->Dat->Option Res
 | .bl a,.bl b=>some (.dat (.bl (if neg then !(a==b) else a==b)))
 | _,_=>none
def Gs:eF X (λx y H Q=>∃a b,x=.bl a/\y=.bl b/\Q (.bl (a==b)) H) (nr false):=by
 intro H0 ps Z σ H c x y d d' o Q e S f g k;delta nr at e;split at e
 ·obtain rfl:=sO e;subst f;subst g;exact⟨_,_,rfl,rfl,k _ H c S (aj.refl _) rfl⟩
 ·exact nO e
def QH:eF X (λx y H Q=>∃a b,x=.bl a/\y=.bl b/\Q (.bl (!(a==b))) H) (nr true):=by
 intro H0 ps Z σ H c x y d d' o Q e S f g k;delta nr at e;split at e
 ·obtain rfl:=sO e;subst f;subst g;exact⟨_,_,rfl,rfl,k _ H c S (aj.refl _) rfl⟩
 ·exact nO e
def O9 (c:DD X a f)(d:DD X b g):DE X (.Compare a [.Is] [b] pos) (cK (nr false) f g):=pv Jn Gs c d (jR _)
def Rx (c:DD X a f)(d:DD X b g):DT X (.Compare a [.IsNot] [b] pos) (fE (cK (nr true) f g)):=lL Ra QH c d (jR _)
end
section
variable{X:Cx}{e:hY}{pos:z8}
noncomputable def codes(x:List fk):List (List Nat):=x.map λa=>a.cps.toList
theorem Ce:∀{a b:List fk},codes a=codes b->a=b
 | [],[],_=>rfl
 | [],_::_,h=>by contradiction
 | _::_,[],h=>by contradiction
 | x::a,y::b,h=>by
  have h:=List.cons.inj h;rw[lK h.1,Ce h.2]
def nH(fs:List (List fk))(i j:Nat):Bool:=decide (codes (fs.getD i [])<codes (fs.getD j []))
def vS (h:¬codes a<codes b)(h':¬codes b<codes a):a=b:=Ce (WJ (Vn.mp h') (Vn.mp h))
def QJ (nd:fs.Nodup):Ord (nH fs) fs.length where
 trans:=λi j k c a=>decide_eq_true (Wh (of_decide_eq_true c) (of_decide_eq_true a))
 total:=λi j d f b=>by
  delta nH;rw[dN d,dN f]
  by_cases h:codes fs[i]<codes fs[j]
  ·exact .inl (decide_eq_true h)
  ·refine .inr (decide_eq_true ?_)
   by_cases a:codes fs[j]<codes fs[i]
   ·exact a
   ·exact absurd ((Vb nd).mp (vS h a)) b
 fB:=λi=>decide_eq_false (Vu _)
theorem yY:∀(xs ys:List fk) (us a:List cA) (i:Nat),aH (xs.map V.str) us->aH (ys.map V.str) a->Q (decide (codes xs<codes ys)) s->W.KatLex prog w A b (decide (us.length<a.length)) Q (us.zip a) i s
 | [],ys,us,a,i,d,c,q=>by
  cases d;have:decide (codes []<codes ys)=decide (([]:List cA).length<a.length):=by
   rw[<-c.length,ab];cases ys with
   | nil=>rfl
   | cons y ys=>exact (decide_eq_true (List.nil_lt_cons _ _)).trans (decide_eq_true (WC _)).symm
  rw[this] at q;exact W.kat_nil q
 | x::xs,[],us,a,i,d,c,q=>by
  cases c;rw[show decide (codes (x::xs)<codes [])=decide (us.length<([]:List cA).length) from (decide_eq_false (List.not_lt_nil _)).trans (decide_eq_false (zR _)).symm] at q
  rw[List.zip_nil_right];exact W.kat_nil q
 | x::xs,y::ys,_,_,i,.cons f g,.cons j k,q=>by
  obtain⟨l,rfl⟩:=f;obtain⟨m,rfl⟩:=j;refine aaW (WZ ?_)
  by_cases e:x=y
  ·subst e;rw[decide_eq_true rfl];refine W.kat_yes ?_;rw[show decide ((Vs x l::_).length<(Vs x m::_).length)=decide (_<_) from decide_eq_decide.mpr Nat.succ_lt_succ_iff]
   refine yY xs ys _ _ (i+1) g k ?_;have:decide (codes (x::xs)<codes (x::ys))=decide (codes xs<codes ys):=decide_eq_decide.mpr ⟨λh=>(Vh.mp h).elim (λz=>absurd z (Vu _)) λz=>z.2,λh=>Vh.mpr (.inr ⟨rfl,h⟩)⟩
   rw[this] at q;exact q
  ·rw[decide_eq_false e];have:decide (codes (x::xs)<codes (y::ys))=decide (x.cps.toList<y.cps.toList):=decide_eq_decide.mpr ⟨λh=>(Vh.mp h).elim id λz=>absurd (lK z.1) e,λh=>Vh.mpr (.inl h)⟩
   rw[this] at q;refine abF ?_;cases b&&i==0 with
   | true=>exact oneLt_str q
   | false=>exact W.kat_one _ _ (lt_str q)
def vH(K:gj)(H:Hp)(vs:List V)(fs:List (List fk)):Prop:=vs.length=fs.length/\∀(i:Nat) (f:List fk),fs[i]?=some f->f≠[]/\∃a,vs[i]?=some (.ref a)/\aX K H a (f.map V.str)
def BM(K:gj):List V->Hp->VK->Prop:=λxs H Q=>∃p vs fs,xs=[.ref p]/\Rd H p (.lst vs)/\vH K H vs fs/\fs.Nodup/\vs.length<64/\∀out,uZ (nH fs) vs out->∀l,H l=none->Q (.ref l) (upd H l (.lst out))
theorem LR(z:X.ex=[]):bN X (.builtin "sorted") (BM X.K):=by
 intro pins s σ H xs us Q I r h;obtain⟨p,vs,fs,rfl,D,tx,nd,A,q⟩:=h;obtain⟨u,rfl,E⟩:=r.one;subst E;refine u4 z (T:=.type "str") I D A (by rw[tx.1];exact QJ nd) rfl (λits c=>?_) (λits c i j F G hij h' d C J=>?_) q
 ·have L:lO X.K H vs (fs.map λf=>f.headD VN):=⟨by rw[ab];exact tx.1,λi f e=>by
   rw[cR] at e;obtain⟨g,M,rfl⟩:=hH.mp e;obtain⟨N,a,w,O⟩:=tx.2 i g M;refine⟨a,_,w,O,?_⟩;cases g with
   | nil=>exact absurd rfl N
   | cons y g=>rfl⟩
  obtain⟨P,R,S,U,_⟩:=kat_tups I L c;refine⟨P,R,by rw[S,ab];exact tx.1.symm,λv V h=>?_⟩
  obtain⟨x,t,rfl⟩:=U v V;exact Yu rfl
 ·have k:i<fs.length:=by rw[<-tx.1];exact F
  have l:j<fs.length:=by rw[<-tx.1];exact G
  obtain⟨_,a,w,Y⟩:=tx.2 i _ (cm k);obtain⟨_,b,Z,sb⟩:=tx.2 j _ (cm l);obtain⟨_,e1,r1⟩:=c.get w;obtain⟨_,e2,r2⟩:=c.get Z;subst r1;subst r2;obtain⟨us,v1,⟨o,ho,hc,n,hd⟩,_⟩:=I.tuple Y;obtain⟨ws,v2,⟨o',B,hc',n',m⟩,_⟩:=I.tuple sb;simp only[n4,e1,e2];refine abG (d _ _ _ _ hd ho) hd (d _ _ _ _ m B) m ?_;refine yY fs[i] fs[j] us ws 0 v1 v2 ?_;have:nH fs i j=decide (codes fs[i]<codes fs[j]):=by delta nH;rw[dN k,dN l]
  rw[<-this];exact J
noncomputable def tupS(f:List fk):Dat:=.tup (f.map .str)
noncomputable def kA:List Dat->Option (List (List fk))
 | []=>some []
 | .tup ds::l=>(dB ds).bind λx=>if x.isEmpty then none else (kA l).map (x::·)
 | _=>none
def mw(a b:List fk):Bool:=!decide (codes b<codes a)
def jH(fs:List (List fk)):List (List fk):=fs.mergeSort mw
def mX:mw a b=true ↔ ¬codes b<codes a:=by
 delta mw;rw[um,decide_eq_false_iff_not]
def mO:List Dat->Option Res
 | [.lst ds]=>(kA ds).bind λfs=>if fs.Nodup/\fs.length<64 then some (.own (.lst ((jH fs).map tupS))) else none
 | _=>none
theorem vq{K:gj}{H b:Hp}(s:aj b H):∀{ds:List Dat}{vs:List V}{fs:List (List fk)},kA ds=some fs->az K b ds vs->vH K H vs fs/\az K b (fs.map tupS) vs
 | [],_,_,e,r=>by
  obtain rfl:=sO e;rw[show _=[] from r]
  exact⟨⟨rfl,λi f e=>by simp at e⟩,rfl⟩
 | d::ds,_,_,e,⟨v,h,j,k,rs⟩=>by
  cases d with
  | tup us =>
   obtain⟨x,l,e⟩:=oA e;split at e
   ·exact nO e
   ·rename_i m;obtain⟨ys,n,e⟩:=oM e;obtain rfl:=sO e;obtain⟨⟨o,p⟩,q⟩:=vq s n rs;obtain⟨a,ws,rfl,c,g⟩:=k;have t:=k8 l g;subst t;rw[j];refine⟨⟨by simp only[fv,fv,o],λi f e=>?_⟩,⟨.ref a,h,rfl,⟨a,_,rfl,c,qq _⟩,q⟩⟩
    cases i with
    | zero =>
     cases (Option.some.inj e);exact⟨λz=>m (by rw[z];rfl),a,rfl,aX.mono s c⟩
    | succ i=>exact p i f e
  | _=>exact nO e
def QV (P:cY q fs.length)(U:eE (nH fs) q fs.length):(q.toList.map λi=>fs.getD i [])=jH fs:=by
 have pm:(q.toList.map λi=>fs.getD i []).Perm fs:=by
  have:=P.pm.map (λi=>fs.getD i [])
  rw[wa] at this;exact this
 refine mK (λa b f d=>vS (mX.mp d) (mX.mp f)) (pm.trans (ib fs mw).symm) ?_ ?_
 ·rw[qe];intro i j hi p l;have m:j<fs.length:=by rw[<-P.size];simpa using p
  have u:=U i j l m;have g:∀k (n:k<q.toList.length),q.toList[k]=q.getD k 0:=λk n=>by
   rw[me,iR (by simpa using n)]
   simp
  simp only[T',g,g];exact mX.mpr λz=>Vu _ (Wh (of_decide_eq_true u) z)
 ·refine wm (λa b c f d=>?_) (λa b=>?_) fs
  ·rw[mX] at *;exact λz=>by
    by_cases h:codes b<codes a
    ·exact f h
    ·by_cases h':codes c<codes b
     ·exact d h'
     ·by_cases o:codes a<codes b
      ·exact d (Wh z o)
      ·rw[vS o h] at z;exact d z
  ·by_cases h:codes b<codes a
   ·rw[show mw b a=true from mX.mpr λz=>Vu _ (Wh h z),Bool.or_true]
   ·rw[show mw a b=true from mX.mpr h]
    rfl
def OI:CD X (BM X.K) mO:=by
 intro H0 ps Z σ H h vs ds o Q a S r k;delta mO at a;split at a
 ·obtain⟨fs,j,a⟩:=oA a;split at a
  ·rename_i d;obtain rfl:=sO a;obtain⟨v,vr,rfl,⟨p,f,rfl,m,rs⟩,n⟩:=r;subst n;obtain⟨tx,rt⟩:=vq S.sub j rs;have c:=tx.1;refine⟨p,f,fs,rfl,Rd.mono S.sub m,tx,d.1,by rw[c];exact d.2,λout ⟨q,P,U,s⟩ l hl=>?_⟩
   rw[c] at P U;have t:=QV P U;subst s;have g:=az.pick rt q.toList (λi b=>by rw[c];exact pY P i b)
   have em:(q.toList.map λi=>(fs.map tupS).getD i .bj)=(jH fs).map tupS:=by
    rw[<-t,gd];refine ql λi b=>?_
    have b:=pY P i b;show _=tupS (fs.getD i []);rw[dN (by rw[ab];exact b),dN b,T']
   rw[em] at g;exact k (.ref l) _ h (S.made hl) (aj.refl _) ⟨l,rfl,⟨_,ba,g,S.dw hl⟩,(S.bJ hl).2,(S.bJ hl).1,S.dP hl⟩
  ·exact nO a
 ·exact nO a
def Bi (a:X.ex=[])(b:Gl X "sorted")(c:X.mg "sorted"=none)(d:bK X e [])(f:DA X [e] fa):DE X (.Call (.Name "sorted" p) [e] [] pos) (cg mO fa) :=
 iT (LR a) OI b c (by decide +kernel) f (by decide) rfl d rfl
end
section
open PySem.SetTable
noncomputable def eZ(a:Nat)(p:Xj):Probe:=if p.more>0 then {p with j:=p.j+1,more:=p.more-1} else {p with j:=(Y2 a p.i p.perturb).1,more:=Vq a (Y2 a p.i p.perturb).1-(Y2 a p.i p.perturb).1,i:=(Y2 a p.i p.perturb).1,perturb:=(Y2 a p.i p.perturb).2}
def CP(t:zc)(p:Xj):t.advance p=eZ t.mask p:=by
 delta advance eZ;split<;>rfl
noncomputable def aD(a:Nat)(p:Xj):Nat->Xj
 | 0=>p
 | n+1=>eZ a (aD a p n)
theorem gU(a)(p)(n):∀m,aD a p (n+m)=aD a (aD a p n) m
 | 0=>rfl
 | m+1=>by
  show eZ a (aD a p (n+m))=eZ a (aD a (aD a p n) m);rw[gU a p n m]
theorem rD(a):∀(k:Nat) (p:Xj),k<=p.more->aD a p k={p with j:=p.j+k,more:=p.more-k}
 | 0,p,_=>rfl
 | k+1,p,h=>by
  show eZ a (aD a p k)=_;rw[rD a k p (by lia)]
  dsimp only[eZ];rw[if_pos (by show p.more-k>0;lia)]
  rw[abx,Nat.sub_sub]
def B9(a)(p):∃more,aD a p (p.more+1)={p with j:=(Y2 a p.i p.perturb).1,more:=more,i:=(Y2 a p.i p.perturb).1,perturb:=p.perturb/32}/\more<=9:=by
 refine⟨Vq a (Y2 a p.i p.perturb).1-(Y2 a p.i p.perturb).1,?_,?_⟩
 ·show eZ a (aD a p p.more)=_;rw[rD a p.more p (eT _)];dsimp only[eZ];rw[if_neg (by show ¬p.more-p.more>0;lia)]
  rfl
 ·delta Vq;split<;>lia
theorem Bt(a)(p)(h:p.more<=9):∀c,∃n,n<=10*c/\(aD a p n).more<=9/\(aD a p n).perturb=p.perturb/32 ^ c/\(c>0->(aD a p n).j=(aD a p n).i/\(aD a p n).i<=a)
 | 0=>⟨0,eT _,h,by simp only[abN,ab5];rfl,λz=>absurd z (za _)⟩
 | c+1=>by
  obtain⟨n,h1,h2,b,_⟩:=Bt a p h c;obtain⟨more,e,d⟩:=B9 a (aD a p n);refine⟨n+((aD a p n).more+1),by lia,?_,?_,λ_=>?_⟩
  ·rw[gU,e];exact d
  ·rw[gU,e];simp only[b,ZN,abO]
  ·rw[gU,e];exact⟨rfl,uy (Vd _ (WC _))⟩
noncomputable def d9(a:Nat)(i:Nat):Nat->Nat
 | 0=>i
 | c+1=>(d9 a i c*5+1)%(a+1)
theorem Bo(a)(p)(h:p.more<=9)(b:p.perturb=0)(d:p.j=p.i):∀c,∃n,n<=10*c/\(aD a p n).more<=9/\(aD a p n).perturb=0/\(aD a p n).j=d9 a p.i c/\(aD a p n).i=d9 a p.i c
 | 0=>⟨0,eT _,h,b,d,rfl⟩
 | c+1=>by
  obtain⟨n,h1,h2,f,_,k⟩:=Bo a p h b d c;obtain⟨more,e,l⟩:=B9 a (aD a p n);have g:(Y2 a (aD a p n).i (aD a p n).perturb).1=d9 a p.i (c+1):=by
   rw[f,k];rfl
  refine⟨n+((aD a p n).more+1),by lia,?_,?_,?_,?_⟩
  ·rw[gU,e];exact l
  ·rw[gU,e];rw[f]
  ·rw[gU,e];exact g
  ·rw[gU,e];exact g
def hV(a:Nat):Prop:=a=7\/a=31\/a=127
noncomputable def pC(a:Nat):Nat->Nat->List Nat
 | 0,_=>[]
 | c+1,i=>i::pC a c ((i*5+1)%(a+1))
theorem Bs(a):∀(c i k:Nat),k<c->(pC a c i)[k]?=some (d9 a i k)
 | 0,_,_,h=>absurd h (zR _)
 | c+1,i,0,_=>rfl
 | c+1,i,k+1,h=>by
  show (pC a c ((i*5+1)%(a+1)))[k]?=_;rw[Bs a c _ k (by lia)]
  congr 1;have:∀k,d9 a ((i*5+1)%(a+1)) k=d9 a i (k+1):=λk=>by
   induction k with
   | zero=>rfl
   | succ k b=>show (d9 a _ k*5+1)%(a+1)=_;rw[b];rfl
  exact this k
theorem sh(b i a):∀c,d9 b i (a+c)=d9 b (d9 b i a) c
 | 0=>rfl
 | c+1=>by
  show (d9 b i (a+c)*5+1)%(b+1)=(d9 b (d9 b i a) c*5+1)%(b+1);rw[sh b i a c]
theorem zT (d:hV a)(he:e<=a):∃c,c<=a/\d9 a 0 c=e:=by
 have key:∀m∈[7,31,127],∀e:Fin (m+1),(pC m (m+1) 0).contains e.val=true:=by decide +kernel
 have f:a∈[7,31,127]:=by
  rcases d with rfl|rfl|rfl<;>simp
 have:=key a f ⟨e,by lia⟩
 obtain⟨c,b,g⟩:=nR (List.contains_iff_mem.mp this);have hl:∀c i,(pC a c i).length=c:=λc=>by
  induction c with
  | zero=>exact λ_=>rfl
  | succ c h=>exact λi=>congrArg (·+1) (h _)
 rw[hl] at b;refine⟨c,by lia,?_⟩
 have:=Bs a (a+1) 0 c b;rw[cm (by rw[hl];exact b),g] at this
 exact (Option.some.inj this).symm
def CQ (f:hV d)(l:i<=d)(m:e<=d):∃c,c<=d/\d9 d i c=e:=by
 obtain⟨a,ha,g⟩:=zT f l;obtain⟨b,hb,j⟩:=zT f m;have k:d9 d 0 (d+1)=0:=by rcases f with rfl|rfl|rfl<;>decide +kernel
 by_cases h:a<=b
 ·refine⟨b-a,by omega,?_⟩
  rw[<-g,<-sh,W7 h];exact j
 ·refine⟨d+1-a+b,by omega,?_⟩
  rw[<-g,<-sh,<-abx,W7 (by lia),sh,k]
  exact j
def cover (d:hV a)(h:p.more<=9)(f:p.perturb<2 ^ 64)(g:e<=a):∃n,n<10*turns a/\(aD a p n).j=e:=by
 obtain⟨n,h1,i,l,m⟩:=Bt a p h 13;have o:(aD a p n).perturb=0:=by
  rw[l];exact aaZ (l5 f (by decide))
 obtain⟨b,q⟩:=m (by decide)
 obtain⟨c,hc,r⟩:=CQ d q g;obtain⟨k,k1,_,_,s,_⟩:=Bo a (aD a p n) i o b c;refine⟨n+k,by delta turns;lia,?_⟩
 rw[gU,s,r]
def ik(xs:Array Nat):Prop:=xs.toList.Pairwise (·<·)
def ik.lt{xs:Array Nat}(h:ik xs){a b x y:Nat}(c:a<b)(d:xs[a]?=some x)(e:xs[b]?=some y):x<y:=by
 rw[<-gW] at d e;obtain⟨f,rfl⟩:=cn.mp d;obtain⟨g,rfl⟩:=cn.mp e;exact qe.mp h a b f g c
theorem uE (h:ik xs)(j:Nat):∀(fuel lo a:Nat),a-lo<=fuel->lo<=a->a<=xs.size->(∀i x,i<lo->xs[i]?=some x->x<j)->(∀i x,a<=i->xs[i]?=some x->j<=x)->below.go xs j fuel lo a<=xs.size/\(∀i x,i<below.go xs j fuel lo a->xs[i]?=some x->x<j)/\∀i x,below.go xs j fuel lo a<=i->xs[i]?=some x->j<=x
 | 0,lo,a,g,k,b,c,d=>by
  have:lo=a:=by lia
  subst this;exact⟨b,c,d⟩
 | fuel+1,lo,a,g,k,b,c,d=>by
  unfold below.go;split
  ·dsimp only;have l:(lo+a)/2<xs.size:=by omega
   have e:=iR l;have m:xs.getD ((lo+a)/2) j=xs[(lo+a)/2]:=by rw[me,e];rfl
   rw[m];split
   ·rename_i hl;refine uE h j fuel _ a (by omega) (by omega) b (λi x f ex=>?_) d
    by_cases z:i=(lo+a)/2
    ·subst z;rw[e] at ex;cases ex;exact hl
    ·exact V9 (h.lt (by omega) ex e) hl
   ·refine uE h j fuel lo _ (by omega) (by omega) (by lia) c λi x f ex=>?_
    by_cases z:i=(lo+a)/2
    ·subst z;rw[e] at ex;cases ex;lia
    ·have:=h.lt (by omega) e ex
     lia
  ·have:lo=a:=by lia
   subst this;exact⟨b,c,d⟩
def wL (h:ik xs)(j:Nat):below xs j<=xs.size/\(∀i x,i<below xs j->xs[i]?=some x->x<j)/\∀i x,below xs j<=i->xs[i]?=some x->j<=x :=
 uE h j xs.size 0 xs.size (by lia) (qh _) (eT _) (λi x a=>absurd a (zR _)) λi x a e=>by
  have:=(xr.mp e).1
  lia
def below_at (h:ik xs)(e:xs[i]?=some j):below xs j=i:=by
 obtain⟨b1,b,c⟩:=wL h j
 rcases Xp (below xs j) i with z|z|z
 ·have d:=V9 z (xr.mp e).1;have a:=iR d;have:=h.lt z a e;have:=c _ _ (eT _) a
  lia
 ·exact z
 ·exact absurd (b i j z e) (za _)
def wR{t:zc}(h:ik t.place){i j:Nat}(e:t.place[i]?=some j):t.slot j=.live i:=by
 delta slot;dsimp only;rw[below_at h e,e];simp
def vo{t:zc}(hd:t.dummies=#[]){j:Nat}:(∃i,t.slot j=.live i/\t.place[i]?=some j)\/(t.slot j=.empty/\∀i,below t.place j=i->t.place[i]?≠some j):=by
 delta slot;dsimp only;split
 ·rename_i h;exact .inl ⟨_,rfl,by simpa using h⟩
 ·rename_i h;right;have:has t.dummies j=false:=by rw[hd];simp[has]
  rw[this];exact⟨rfl,λi e z=>h (by rw[e,z];simp)⟩
def ue{t:zc}(h:ik t.place)(hd:t.dummies=#[]){j:Nat}:t.slot j=.empty ↔ j∉t.place.toList:=by
 constructor
 ·intro e a;obtain⟨i,b,c⟩:=nR a;have:=wR h (by rw[<-gW,cm b,c])
  rw[this] at e;contradiction
 ·intro a
  rcases vo hd with⟨i,_,e⟩|⟨e,_⟩
  ·rw[<-gW] at e;exact absurd (eS e) a
  ·exact e
def G'(xs:Array Nat)(p:Nat)(x:Nat):(Vl xs p x).toList=xs.toList.take p++x::xs.toList.drop p:=by
 rw[V2]
def ik.insert (h:ik xs)(l:j∉xs.toList):ik (Vl xs (below xs j) j):=by
 obtain⟨b1,m,n⟩:=wL h j;delta ik;rw[G',VV,Wl];have hA:∀x∈xs.toList.take (below xs j),x<j:=λx c=>by
  obtain⟨i,d,e⟩:=nR c;rw[mv] at d;rw[List.getElem_take] at e;exact m i x (by omega) (by rw[<-gW,cm (by omega),e])
 have g:∀x∈xs.toList.drop (below xs j),j<x:=λx c=>by
  obtain⟨i,d,e⟩:=nR c;rw[se] at d;rw[List.getElem_drop] at e;have:=n (below xs j+i) x (by lia) (by rw[<-gW,cm (by omega),e])
  have:x≠j:=λz=>l (z ▸ WW c)
  lia
 refine⟨h.sublist (Wu _ _),⟨g,h.sublist (List.drop_sublist _ _)⟩,λa k b f=>?_⟩
 rcases f'.mp f with rfl|f
 ·exact hA a k
 ·exact V9 (hA a k) (g b f)
structure Good (t:zc) (hs:Array Int):Prop where
 m:hV t.mask
 d:t.dummies=#[]
 sz:t.place.size=hs.size
 rise:ik t.place
 le:∀j∈t.place.toList,j<=t.mask
 nf:t.place.size<=t.mask
 path:∀(i:Nat) (h:Int) (j:Nat),hs[i]?=some h->t.place[i]?=some j->∃n,(aD t.mask (t.probeStart h) n).j=j/\∀m,m<n->(aD t.mask (t.probeStart h) m).j∈t.place.toList
def zm(a)(p):(eZ a p).dummy=p.dummy:=by
 delta eZ;split<;>rfl
theorem Cc(a)(p):∀n,(aD a p n).dummy=p.dummy
 | 0=>rfl
 | n+1=>(zm a _).trans (Cc a p n)
def r9(a)(p)(n):aD a (eZ a p) n=aD a p (n+1):=by
 rw[Yy,gU];rfl
theorem BI (nd:∀j,t.slot j≠.dummy):∀(fuel:Nat) (p:Xj) (k:Nat),p.dummy=none->k<fuel->(t.slot (aD t.mask p k).j=.empty\/∃i,t.slot (aD t.mask p k).j=.live i/\hashAt i=h)->(∀m,m<k->∃i,t.slot (aD t.mask p m).j=.live i) ->
  ∃m,m<=k/\((m=k/\t.slot (aD t.mask p m).j=.empty/\probe.go t hashAt h fuel p=some (.empty (aD t.mask p m).j none))\/∃i,t.slot (aD t.mask p m).j=.live i/\hashAt i=h/\probe.go t hashAt h fuel p=some (.candidate (aD t.mask p m).j i (aD t.mask p (m+1))))
 | 0,_,_,_,d,_,_=>absurd d (zR _)
 | fuel+1,p,k,hd,d,c,hl=>by
  dsimp only[probe.go];cases e:t.slot p.j with
  | dummy=>exact absurd e (nd _)
  | empty =>
   cases k with
   | zero=>exact⟨0,eT _,.inl ⟨rfl,e,by dsimp only;rw[hd];rfl⟩⟩
   | succ k =>
    obtain⟨i,z⟩:=hl 0 (WC _);rw[show (aD t.mask p 0)=p from rfl,e] at z
    contradiction
  | live i =>
   dsimp only
   by_cases hh:hashAt i=h
   ·refine⟨0,qh _,.inr ⟨i,e,hh,?_⟩⟩;rw[if_pos (by simpa using hh),CP]
    rfl
   ·rw[if_neg (by simpa using hh),CP]
    cases k with
    | zero =>
     rcases c with c|⟨i',c,f⟩
     ·rw[show (aD t.mask p 0)=p from rfl,e] at c
      contradiction
     ·rw[show (aD t.mask p 0)=p from rfl,e] at c
      cases c;exact absurd f hh
    | succ k =>
     obtain⟨m,g,r⟩:=BI nd fuel (eZ t.mask p) k (by rw[zm];exact hd) (by lia) (by rw[r9];exact c) (λm g=>by rw[r9];exact hl (m+1) (by omega))
     refine⟨m+1,by omega,?_⟩
     rw[r9,r9] at r
     rcases r with⟨a,b⟩|r
     ·exact .inl ⟨by lia,b⟩
     ·exact .inr r
def Good.CC (g:Good t hs)(j:Nat):t.slot j≠.dummy:=λe=>by
 rcases vo g.d with⟨i,a,_⟩|⟨a,_⟩<;>rw[a] at e<;>contradiction
def Bu(t:zc)(h:Int):(t.probeStart h).more<=9/\(t.probeStart h).perturb<2 ^ 64/\(t.probeStart h).dummy=none:=by
 refine⟨?_,?_,rfl⟩
 ·show Vq t.mask _-_<=9;delta Vq;split<;>lia
 ·show X' h<2 ^ 64;delta X';have h1:=Wn h (show (2 ^ 64:Int)≠0 by decide)
  lia
def Good.ends (g:Good t hs)(h:Int):∃n,n<10*turns t.mask/\t.slot (aD t.mask (t.probeStart h) n).j=.empty:=by
 have ex:∃e,e<=t.mask/\e∉t.place.toList:=by
  refine ua λno=>?_
  have sub:∀e∈hI (t.mask+1),e∈t.place.toList:=λe a=>ua λz=>no ⟨e,uy (mA.mp a),z⟩
  have:=Wq Xz sub;rw[kH,hQ] at this;have:=g.nf
  lia
 obtain⟨e,a,b⟩:=ex;obtain⟨c,f,_⟩:=Bu t h;obtain⟨n,i,k⟩:=cover g.m c f a;exact⟨n,i,by rw[k];exact (ue g.rise g.d).mpr b⟩
theorem Good.stop{t:zc}{hs:Array Int}(g:Good t hs)(h:Int)(is:Nat->Prop)(u:∀i,is i->hs[i]?=some h) :
  ∃N,N<10*turns t.mask/\(∀m,m<N->∃i,t.slot (aD t.mask (t.probeStart h) m).j=.live i/\¬is i)/\((t.slot (aD t.mask (t.probeStart h) N).j=.empty/\∀i,¬is i)\/∃i,t.slot (aD t.mask (t.probeStart h) N).j=.live i/\is i):=by
 obtain⟨n,hn,v⟩:=g.ends h;have key:∀k,k<=n->(∀m,m<k->∃i,t.slot (aD t.mask (t.probeStart h) m).j=.live i/\¬is i)\/∃N,N<k/\(∀m,m<N->∃i,t.slot (aD t.mask (t.probeStart h) m).j=.live i/\¬is i)/\(t.slot (aD t.mask (t.probeStart h) N).j=.empty\/∃i,t.slot (aD t.mask (t.probeStart h) N).j=.live i/\is i):=λk=>by
  induction k with
  | zero=>exact λ_=>.inl λm f=>absurd f (zR _)
  | succ k w =>
   intro hk
   rcases w (by lia) with a|⟨N,a,b⟩
   ·cases e:t.slot (aD t.mask (t.probeStart h) k).j with
    | dummy=>exact absurd e (g.CC _)
    | empty=>exact .inr ⟨k,V' _,a,.inl e⟩
    | live i =>
     by_cases z:is i
     ·exact .inr ⟨k,V' _,a,.inr ⟨i,e,z⟩⟩
     ·refine .inl λm f=>?_
      by_cases q:m=k
      ·subst q;exact⟨i,e,z⟩
      ·exact a m (by lia)
   ·exact .inr ⟨N,by lia,b⟩
 have l:∃N,N<=n/\(∀m,m<N->∃i,t.slot (aD t.mask (t.probeStart h) m).j=.live i/\¬is i)/\(t.slot (aD t.mask (t.probeStart h) N).j=.empty\/∃i,t.slot (aD t.mask (t.probeStart h) N).j=.live i/\is i):=by
  rcases key n (eT _) with a|⟨N,a,b⟩
  ·exact⟨n,eT _,a,.inl v⟩
  ·exact⟨N,by lia,b⟩
 obtain⟨N,hN,a,b⟩:=l;refine⟨N,by lia,a,?_⟩
 rcases b with b|b
 ·refine .inl ⟨b,λi z=>?_⟩
  have hh:=u i z;have o:i<t.place.size:=by rw[g.sz];exact (xr.mp hh).1
  have c:=iR o;obtain⟨p,r,x⟩:=g.path i h _ hh c
  rcases Xp p N with q|q|q
  ·obtain⟨i',s,ne⟩:=a p q;rw[r,wR g.rise c] at s;cases s;exact ne z
  ·subst q;rw[r,wR g.rise c] at b;contradiction
  ·exact (ue g.rise g.d).mp b (x N q)
 ·exact .inr b
def B4 (h:i<=a):i+(Vq a i-i)<=a:=by
 delta Vq;split<;>lia
def Hc (h:p.j+p.more<=a):(eZ a p).j+(eZ a p).more<=a:=by
 delta eZ;split
 ·show p.j+1+(p.more-1)<=a
  lia
 ·exact B4 (uy (Vd _ (WC _)))
theorem B' (h:p.j+p.more<=a):∀n,(aD a p n).j+(aD a p n).more<=a
 | 0=>h
 | n+1=>Hc (B' h n)
def Di(t:zc)(h:Int)(n:Nat):(aD t.mask (t.probeStart h) n).j<=t.mask:=by
 have:(t.probeStart h).j+(t.probeStart h).more<=t.mask:=B4 (uy (Vd _ (WC _)));have:=B' this n
 lia
def Fk (hp:p<=xs.size)(e:(Vl xs p x)[i]?=some y):(i=p/\y=x)\/(i<p/\xs[i]?=some y)\/(p<i/\xs[i-1]?=some y):=by
 rw[<-gW,V2] at e;have hl:(xs.toList.take p).length=p:=by simp only[mv,hQ];lia
 rcases Xp i p with h|h|h
 ·rw[l4 (by omega),aag,if_pos h] at e
  exact .inr (.inl ⟨h,by rw[<-gW];exact e⟩)
 ·rw[lz (by omega),hl,h,XT] at e
  exact .inl ⟨h,(Option.some.inj e).symm⟩
 ·rw[lz (by omega),hl,show i-p=(i-p-1)+1 by lia,Zt,Yi] at e
  exact .inr (.inr ⟨h,by rw[<-gW,show i-1=p+(i-p-1) by lia];exact e⟩)
def vB:y∈(Vl xs p x).toList ↔ y=x\/y∈xs.toList:=by
 rw[(Xo xs p x).mem_iff,aak,eK,kq,or_comm]
def rL (xs:Array a)(p:Nat)(x:a):(Vl xs p x).size=xs.size+1:=by
 have:=(Xo xs p x).length_eq;simp at this;exact this
def xl{t:zc}(hd:t.dummies=#[])(j:Nat):t.put j=({t with place:=Vl t.place (below t.place j) j},below t.place j):=by
 dsimp only[SetTable.put];have:has t.dummies j=false:=by rw[hd];simp[has]
 rw[this];rfl
def Good.put (g:Good t hs)(A:t.slot (aD t.mask (t.probeStart h) N).j=.empty)(hl:∀m,m<N->∃i,t.slot (aD t.mask (t.probeStart h) m).j=.live i)(room:t.place.size+1<=t.mask) :
  Good (t.put (aD t.mask (t.probeStart h) N).j).1 (Vl hs (t.put (aD t.mask (t.probeStart h) N).j).2 h):=by
 have B:=(ue g.rise g.d).mp A;have p:=Di t h N;have s:∀m,m<N->(aD t.mask (t.probeStart h) m).j∈t.place.toList:=λm f=>by
  obtain⟨i,e⟩:=hl m f;exact ua λz=>by rw[(ue g.rise g.d).mpr z] at e;contradiction
 simp[xl g.d];obtain⟨u,_,_⟩:=wL g.rise (aD t.mask (t.probeStart h) N).j;generalize v:(aD t.mask (t.probeStart h) N).j=j at *;refine⟨g.m,g.d,?_,g.rise.insert B,λy C=>?_,?_,λi h' o D E=>?_⟩
 ·rw[rL,rL,g.sz]
 ·rcases vB.mp C with rfl|z
  ·exact p
  ·exact g.le y z
 ·rw[rL];exact room
 ·have w:below t.place j<=hs.size:=by rw[<-g.sz];exact u
  have l:∀i,hs[i]?=some h'->t.place[i]?=some o->∃n,(aD t.mask (t.probeStart h') n).j=o/\∀m,m<n->(aD t.mask (t.probeStart h') m).j∈(Vl t.place (below t.place j) j).toList:=λi a b=>by
   obtain⟨n,c,d⟩:=g.path i h' o a b;exact⟨n,c,λm f=>vB.mpr (.inr (d m f))⟩
  rcases Fk w D with⟨q,r⟩|⟨q,r⟩|⟨q,r⟩<;>rcases Fk u E with⟨x,k⟩|⟨x,k⟩|⟨x,k⟩<;>try lia
  ·rw[r,k];exact⟨N,v,λm f=>vB.mpr (.inr (s m f))⟩
  ·exact l i r k
  ·exact l (i-1) r k
def Good.fresh(fingerV movesV)(led):Good (SetTable.fresh fingerV movesV led) #[]:=⟨.inl rfl,rfl,rfl,Wc,λj h=>(by cases h),qh _,λi h j e=>(by simp at e)⟩
noncomputable def lp(a:Nat)(s:Nat×Nat):Nat->Nat×Nat
 | 0=>s
 | c+1=>lp a (Y2 a s.1 s.2) c
noncomputable def iV(a:Nat)(s:Nat×Nat):Probe:={j:=s.1,more:=Vq a s.1-s.1,i:=s.1,perturb:=s.2,dummy:=none}
def Cn(a)(s):aD a (iV a s) (Vq a s.1-s.1+1)=iV a (Y2 a s.1 s.2):=by
 show eZ a (aD a (iV a s) (Vq a s.1-s.1))=_;rw[rD a (Vq a s.1-s.1) (iV a s) (eT _)];delta eZ;rw[if_neg (by show ¬Vq a s.1-s.1-(Vq a s.1-s.1)>0;lia)]
 rfl
def Cb(a i):i<=Vq a i:=by delta Vq;split<;>lia
theorem zW:∀(fuel:Nat) (s:Nat×Nat) (j:Nat),Vi a b fuel s.1 s.2=some j->∃n,(aD a (iV a s) n).j=j/\(b.getD j (some 0)).isNone=true/\∀m,m<n->(b.getD (aD a (iV a s) m).j (some 0)).isSome=true
 | 0,_,_,h=>by exact nO h
 | fuel+1,s,j,h=>by
  unfold Vi at h;have re:=Cb a s.1;have d:∀k,k<=Vq a s.1-s.1->(aD a (iV a s) k).j=s.1+k:=λk o=>by rw[rD a k (iV a s) o];rfl
  cases e:(hI (Vq a s.1+1-s.1)).find? λk=>(b.getD (s.1+k) (some 0)).isNone with
  | some k =>
   rw[e] at h;have h:=Option.some.inj h;have o:=mA.mp (z0 e);refine⟨k,by rw[d k (by omega)];exact h,by rw[<-h];have:=Wi e;exact this,λm t=>?_⟩
   rw[d m (by omega)]
   obtain⟨c,bs,f,u⟩:=(List.find?_eq_some_iff_append.mp e).2;have p:m∈c:=by
    have l1:c.length=k:=by
     have:=congrArg (λl=>l[c.length]?) f
     simp only[lz (eT c.length),XT] at this;have r:c.length<Vq a s.1+1-s.1:=by
      have:=congrArg List.length f;simp at this;omega
     rw[zd r] at this;exact Option.some.inj this
    have g:(hI (Vq a s.1+1-s.1))[m]?=some m:=zd (by omega)
    rw[f,l4 (by omega)] at g
    exact eS g
   have:=u m p;cases i:b.getD (s.1+m) (some 0) with
   | none=>rw[i] at this;simp at this
   | some v=>rfl
  | none =>
   rw[e] at h;obtain⟨n,w,x,y⟩:=zW fuel (Y2 a s.1 s.2) j h;refine⟨Vq a s.1-s.1+1+n,by rw[gU,Cn];exact w,x,λm t=>?_⟩
   by_cases q:m<Vq a s.1-s.1+1
   ·rw[d m (by omega)]
    have:=Vc.mp e m (mA.mpr (by omega))
    cases i:b.getD (s.1+m) (some 0) with
    | none=>rw[i] at this;simp at this
    | some v=>rfl
   ·have z:m=Vq a s.1-s.1+1+(m-(Vq a s.1-s.1+1)):=by omega
    rw[z,gU,Cn];exact y _ (by omega)
theorem sD(a):∀(c:Nat) (s:Nat×Nat),lp a s (c+1)=Y2 a (lp a s c).1 (lp a s c).2
 | 0,_=>rfl
 | c+1,s=>by
  show lp a (Y2 a s.1 s.2) (c+1)=_;rw[sD a c];rfl
theorem BK(a)(s):∀c,(lp a s c).2=s.2/32 ^ c
 | 0=>by simp only[abN,ab5];rfl
 | c+1=>by
  rw[sD];show (lp a s c).2/32=_;simp only[BK a s c,ZN,abO]
theorem J7 (h:s.1<=a):∀c,(lp a s c).1<=a
 | 0=>h
 | c+1=>by
  rw[sD];exact uy (Vd _ (WC _))
theorem Ed (h:s.2<2 ^ 64):∀c,(lp a s (13+c)).1=d9 a (lp a s 13).1 c
 | 0=>rfl
 | c+1=>by
  show (lp a s (13+c+1)).1=_;rw[sD];show ((lp a s (13+c)).1*5+1+(lp a s (13+c)).2/32)%(a+1)=(d9 a (lp a s 13).1 c*5+1)%(a+1);have z:(lp a s (13+c)).2=0:=by
   rw[BK];refine aaZ (l5 h (wd (show 2 ^ 64<=32 ^ 13 by decide) (aaa (by decide) (by lia))))
  rw[z,Ed h c]
def LP (b:hV a)(d:s.1<=a)(f:s.2<2 ^ 64)(g:e<=a):∃c,c<turns a/\(lp a s c).1=e:=by
 obtain⟨c,hc,h⟩:=CQ b (J7 d 13) g;exact⟨13+c,by delta turns;lia,by rw[Ed f];exact h⟩
theorem BE:∀(fuel:Nat) (s:Nat×Nat),Vi a b fuel s.1 s.2=none->∀c,c<fuel->(b.getD (lp a s c).1 (some 0)).isNone=false
 | 0,_,_,_,d=>absurd d (zR _)
 | fuel+1,s,h,c,d=>by
  unfold Vi at h;have re:=Cb a s.1;cases e:(hI (Vq a s.1+1-s.1)).find? λk=>(b.getD (s.1+k) (some 0)).isNone with
  | some k=>rw[e] at h;contradiction
  | none =>
   rw[e] at h;cases c with
   | zero =>
    have:=Vc.mp e 0 (mA.mpr (by omega))
    exact HT.mpr this
   | succ c=>exact BE fuel (Y2 a s.1 s.2) h c (by lia)
theorem KO{a:Nat}(d:hV a){b:Array (Option Nat)}{s:Nat×Nat}(f:s.1<=a)(g:s.2<2 ^ 64){e:Nat}(h:e<=a)(i:(b.getD e (some 0)).isNone=true):∃j,Vi a b (turns a) s.1 s.2=some j:=by
 cases q:Vi a b (turns a) s.1 s.2 with
 | some j=>exact⟨j,rfl⟩
 | none =>
  obtain⟨c,k,l⟩:=LP d f g h;have:=BE _ s q c k;rw[l,i] at this;contradiction
structure Laid (maskV:Nat) (hs:List Int) (owner:Array (Option Nat)) (k:Nat):Prop where
 sz:owner.size=maskV+1
 own:∀i,i<k->∃j:Nat,owner[j]?=some (some i)
 inj:∀j j' i:Nat,owner[j]?=some (some i)->owner[j']?=some (some i)->j=j'
 lt:∀j i:Nat,owner[j]?=some (some i)->i<k
 path:∀(i:Nat) (h:Int) (j:Nat),hs[i]?=some h->owner[j]?=some (some i)->∃n,(aD maskV (iV maskV (X' h%(maskV+1),X' h)) n).j=j/\∀m,m<n->∃v,owner[(aD maskV (iV maskV (X' h%(maskV+1),X' h)) m).j]?=some (some v)
def Hw(h):X' h<2 ^ 64:=(Bu (SetTable.fresh 0 0 true) h).2.1
def Ab(a)(h)(n):(aD a (iV a (X' h%(a+1),X' h)) n).j<=a:=Di {SetTable.fresh 0 0 true with mask:=a} h n
def getD_none{a:Array (Option Nat)}{j:Nat}(b:j<a.size):(a.getD j (some 0)).isNone=true ↔ a[j]?=some none:=by
 simp_all
def getD_some{a:Array (Option Nat)}{j:Nat}(b:j<a.size):(a.getD j (some 0)).isSome=true ↔ ∃v,a[j]?=some (some v):=by
 rw[me,iR b];cases h:a[j]<;>simp
theorem Laid.step (t:hV c)(L:Laid c hs d k)(G:hs[k]?=some h)(room:k<=c):∃j,Vi c d (turns c) (X' h%(c+1)) (X' h)=some j/\Laid c hs (d.setIfInBounds j (some k)) (k+1):=by
 have ex:∃e,e<=c/\(d.getD e (some 0)).isNone=true:=by
  refine ua λno=>?_
  have all:∀e,e<=c->∃v,d[e]?=some (some v):=λe o=>(getD_some (by rw[L.sz];omega)).mp (by
   cases q:d.getD e (some 0) with
   | none=>exact absurd ⟨e,o,by rw[q];rfl⟩ no
   | some v=>rfl)
  let g:Nat->Nat:=λe=>((d[e]?).bind id).getD 0
  have A:∀e,e<=c->d[e]?=some (some (g e)):=λe o=>by
   obtain⟨v,p⟩:=all e o;show d[e]?=some (some (((d[e]?).bind id).getD 0));rw[p];rfl
  have nd:((hI (c+1)).map g).Nodup:=gs.mpr (Xz.imp_of_mem λ{a b} r H C e=>C (L.inj a b (g a) (A a (uy (mA.mp r))) (by rw[e];exact A b (uy (mA.mp H)))))
  have sub:∀v∈(hI (c+1)).map g,v∈hI k:=λv p=>by
   obtain⟨e,o,rfl⟩:=bg.mp p;exact mA.mpr (L.lt e _ (A e (uy (mA.mp o))))
  have:=Wq nd sub;rw[ab,kH,kH] at this;lia
 obtain⟨e,o,I⟩:=ex;have D:X' h%(c+1)<=c:=uy (Vd _ (WC _));obtain⟨j,E⟩:=KO t (s:=(X' h%(c+1),X' h)) D (Hw h) o I;obtain⟨n,F,J,K⟩:=zW _ (X' h%(c+1),X' h) j E;have hj:j<=c:=by rw[<-F];exact Ab c h n
 have y:j<d.size:=by rw[L.sz];lia
 have M:=(getD_none y).mp J;have u:∀a:Nat,(d.setIfInBounds j (some k))[a]?=if a=j then some (some k) else d[a]?:=λa=>by
  rw[Array.getElem?_setIfInBounds]
  by_cases q:j=a
  ·subst q;rw[if_pos rfl,if_pos rfl,if_pos y]
  ·rw[if_neg q,if_neg (λz=>q z.symm)]
 have keep:∀a v,d[a]?=some (some v)->(d.setIfInBounds j (some k))[a]?=some (some v):=λa v r=>by
  rw[u,if_neg (λz=>by rw[z,M] at r;cases r)]
  exact r
 refine⟨j,E,⟨by rw[Array.size_setIfInBounds];exact L.sz,λi D=>?_,λa b i l w=>?_,λa i l=>?_,λi h' a B x=>?_⟩⟩
 ·by_cases q:i=k
  ·subst q;exact⟨j,by rw[u,if_pos rfl]⟩
  ·obtain⟨a,r⟩:=L.own i (by lia)
   exact⟨a,keep a i r⟩
 ·rw[u] at l w;split at l<;>split at w
  ·lia
  ·cases l;have:=L.lt b k w;omega
  ·cases w;have:=L.lt a k l;omega
  ·exact L.inj a b i l w
 ·rw[u] at l;split at l
  ·cases l;lia
  ·have:=L.lt a i l
   lia
 ·rw[u] at x;split at x
  ·cases x;rw[G] at B;obtain rfl:=sO B;rename_i q;subst q;refine⟨n,F,λm t=>?_⟩
   obtain⟨v,p⟩:=(getD_some (by rw[L.sz];have:=Ab c h m;lia)).mp (K m t)
   exact⟨v,keep _ v p⟩
  ·obtain⟨N,O,P⟩:=L.path i h' a B x;refine⟨N,O,λm t=>?_⟩
   obtain⟨v,p⟩:=P m t;exact⟨v,keep _ v p⟩
noncomputable def pQ(a:Nat)(c:Option (Array (Option Nat)×Nat))(h:Int):Option (Array (Option Nat)×Nat):=do
 let (b,k) <-c
 let j <-Vi a b (turns a) (X' h%(a+1)) (X' h)
 pure (b.setIfInBounds j (some k),k+1)
theorem Bj (d:hV a)(g:hs.length<=a):∀(l pre:List Int) (b:Array (Option Nat)),hs=pre++l->Laid a hs b pre.length->∃c,l.foldl (pQ a) (some (b,pre.length))=some (c,hs.length)/\Laid a hs c hs.length
 | [],pre,b,e,L=>by
  rw[yv] at e;subst e;exact⟨b,rfl,L⟩
 | h::l,pre,b,e,L=>by
  have i:hs[pre.length]?=some h:=by rw[e,lz (eT _),XT];rfl
  have hl:pre.length<hs.length:=by simp only[e,eH,fv];lia
  obtain⟨j,k,m⟩:=L.step d i (by lia)
  obtain⟨c,n,f⟩:=Bj d g l (pre++[h]) (b.setIfInBounds j (some pre.length)) (by rw[e,pe];rfl) (by rw[eH];exact m)
  refine⟨c,?_,f⟩;simp;have:pQ a (some (b,pre.length)) h=some (b.setIfInBounds j (some pre.length),(pre++[h]).length):=by
   show (Vi a b (turns a) (X' h%(a+1)) (X' h)).bind _=_;rw[k,eH];rfl
  rw[this];exact n
def Pg (c:hV a)(hs:Array Int)(d:hs.size<=a):∃b,layClean a hs=some b/\Laid a hs.toList b hs.size:=by
 have f:Laid a hs.toList (XP (a+1) none) 0:=by
  have no:∀j i:Nat,(XP (a+1) (none:Option Nat))[j]?≠some (some i):=λj i e=>by
   rw[Array.getElem?_replicate] at e;split at e<;>cases e
  exact⟨Array.size_replicate,λi g=>absurd g (zR _),λj j' i e=>absurd e (no j i),λj i e=>absurd e (no j i),λi h j _ e=>absurd e (no j i)⟩
 obtain⟨b,e,L⟩:=Bj c (hs:=hs.toList) (by simp only[hQ];exact d) hs.toList [] _ rfl f
 refine⟨b,?_,L⟩;show (hs.foldl (pQ a) (some (XP (a+1) none,0))).map (·.1)=_;rw[<-Array.foldl_toList];have e:hs.toList.foldl (pQ a) (some (XP (a+1) none,0))=some (b,hs.size):=e;rw[e];rfl
noncomputable def fR(a:Nat)(b:Array (Option Nat)):List (Nat×Nat):=(hI (a+1)).filterMap λj=>(b.getD j none).map (j,·)
theorem lN (L:Laid c hs b n):(j,i)∈fR c b ↔ b[j]?=some (some i):=by
 delta fR;rw[Wm];have d:∀a,b.getD a none=(b[a]?).getD none:=λa=>me ..
 constructor
 ·rintro⟨a,ha,e⟩;rw[d] at e;cases q:b[a]? with
  | none=>rw[q] at e;exact nO e
  | some o =>
   rw[q] at e;cases o with
   | none=>exact nO e
   | some v=>obtain⟨rfl,rfl⟩:=sP e;exact q
 ·intro e;have f:=(xr.mp e).1;exact⟨j,mA.mpr (by rw[<-L.sz];exact f),by rw[d,e];rfl⟩
def BB(c)(d):((fR c d).map (·.1)).Pairwise (·<·):=by
 delta fR;rw[gs,List.pairwise_filterMap];refine List.pairwise_lt_range.imp λ{a b} e x f y g=>?_
 obtain⟨u,_,rfl⟩:=hH.mp f;obtain⟨v,_,rfl⟩:=hH.mp g;exact e
def R8 (L:Laid c hs d n):((fR c d).map (·.2)).Perm (hI n):=by
 refine (ri ?_ Xz).mpr λi=>?_
 ·have r:=gs.mp (BB c d);refine gs.mpr (r.imp_of_mem λ{a b} l m f e=>?_)
  obtain⟨g,h⟩:=a;obtain⟨k,o⟩:=b;subst e;have:=L.inj g k h ((lN L).mp l) ((lN L).mp m);have f:=f
  lia
 ·rw[bg,mA];constructor
  ·rintro⟨⟨j,v⟩,p,rfl⟩;exact L.lt j v ((lN L).mp p)
  ·intro q;obtain⟨j,s⟩:=L.own i q;exact⟨(j,i),(lN L).mpr s,rfl⟩
theorem rf (xs:Array d):∀(l:List Nat),(∀i∈l,i<xs.size)->(l.filterMap λi=>xs[i]?).length=l.length/\∀k i:Nat,l[k]?=some i->(l.filterMap λi=>xs[i]?)[k]?=xs[i]?
 | [],_=>⟨rfl,λk i e=>by exact nO e⟩
 | a::l,h=>by
  obtain⟨f,g⟩:=rf xs l λi j=>h i (gf _ j)
  obtain⟨y,b⟩:∃y,xs[a]?=some y:=⟨_,iR (h a fm)⟩;have e:((a::l).filterMap λi=>xs[i]?)=y::l.filterMap λi=>xs[i]?:=by simp only[W3,b]
  rw[e];refine⟨by simp only[fv,fv,f],λk i c=>?_⟩
  cases k with
  | zero=>cases (Option.some.inj c);exact b.symm
  | succ k=>exact g k i c
def Good.laid{b fingerV movesV:Nat}{led plain:Bool}(d:hV b){hs:Array Int}(k:hs.size<=b):∃t order,SetTable.laid b fingerV movesV led plain hs=some (t,order)/\t.mask=b/\t.led=led/\t.moves=movesV/\t.plain=plain/\order.toList.Perm (hI hs.size)/\Good t (order.filterMap λi=>hs[i]?):=by
 obtain⟨c,e,L⟩:=Pg d hs k;have pm:=R8 L;have rs:=BB b c;refine⟨{mask:=b,place:=((fR b c).map (·.1)).toArray,dummies:=#[],finger:=fingerV,led:=led,moves:=movesV,plain:=plain},((fR b c).map (·.2)).toArray,?_,rfl,rfl,rfl,rfl,pm,?_⟩
 ·delta SetTable.laid;rw[e];rfl
 have all:∀i∈(fR b c).map (·.2),i<hs.size:=λi r=>mA.mp (pm.mem_iff.mp r)
 obtain⟨s,w⟩:=rf hs _ all;have l:(((fR b c).map (·.2)).toArray.filterMap λi=>hs[i]?).toList=((fR b c).map (·.2)).filterMap λi=>hs[i]?:=by
  rw[XD]
 have x:(fR b c).length=hs.size:=by
  have:=pm.length_eq;rw[ab,kH] at this;exact this
 have o:∀j v,c[j]?=some (some v)->j∈(fR b c).map (·.1):=λj v h=>bg.mpr ⟨(j,v),(lN L).mpr h,rfl⟩
 refine⟨d,rfl,?_,rs,λj g=>?_,?_,λi h j p f=>?_⟩
 ·show ((fR b c).map (·.1)).toArray.size=_
  rw[<-hQ (xs:=Array.filterMap _ _),l,s,ft,ab,ab]
 ·have g:=g
  obtain⟨⟨a,v⟩,y,rfl⟩:=bg.mp g;have:=(xr.mp ((lN L).mp y)).1;rw[L.sz] at this;exact uy this
 ·show ((fR b c).map (·.1)).toArray.size<=b
  rw[ft,ab,x];exact k
 ·have f:=f
  rw[List.getElem?_toArray,cR] at f;obtain⟨⟨a,v⟩,q,rfl⟩:=hH.mp f;have z:=(lN L).mp (eS q);rw[<-gW,l,w i v (by rw[cR,q];rfl),<-gW] at p
  obtain⟨n,A,B⟩:=L.path v h a p z;refine⟨n,A,λm d=>?_⟩
  obtain⟨u,C⟩:=B m d;exact o _ u C
section
variable{prog:lT}{w:px}{K:Type}[DecidableEq K]{knd:KeyKind prog w K}{A:r0}{E:cA->ee->Prop}{s:ee}
def Ow(n)(h:WK v=true):YX n v=pure false:=by
 cases v<;>first|(cases n<;>rfl)|contradiction
def zg (e:qp knd s.heap g a)(h:Q false s):iN (ma prog w) A (YX 8 (.ref a)) Q E s:=by
 have i:=e.typeIs;obtain⟨o,items,n,j,_,hd,k⟩:=e;unfold YX;refine bt (YT i ?_);refine bt (eR ?_);refine bt (ZC j hd ?_);refine bt ?_;rw[<-aad];refine Zd _ (λb r s'=>r.1=none/\s'=s/\∀v∈b,WK v=true) _ ?_ ?_ _ _ ⟨rfl,rfl,k.byValue⟩
 ·rintro v b r s' ⟨d,rfl,c⟩;rw[Ow _ (c v fm)];refine bt (eR ?_);exact eR ⟨rfl,rfl,λu f=>c u (gf _ f)⟩
 ·rintro⟨r1,r2⟩ s' ⟨d,rfl,_⟩;subst d;exact eR h
def Nd (j:qp knd s.heap k x)(m:∀y∈ys,∃a d,y=.ref a/\qp knd s.heap d a)(h:Q false s):iN (ma prog w) A (abn (.ref x) ys) Q E s:=by
 refine bt ?_;refine Zd _ (λb r s'=>r.1=none/\s'=s/\∀y∈b,∃a d,y=.ref a/\qp knd s.heap d a) _ ?_ ?_ _ _ ⟨rfl,rfl,m⟩
 ·rintro v b r s' ⟨i,rfl,f⟩;obtain⟨a,d,rfl,g⟩:=f v fm;have c:∀y∈b,∃a d,y=.ref a/\qp knd s'.heap d a:=λu l=>f u (gf _ l)
  by_cases e:(x==a||(WK (.ref x)&&WK (.ref a)))=true
  ·rw[if_pos e];exact eR ⟨rfl,rfl,c⟩
  ·rw[if_neg e];refine bt (aaH j ?_);refine bt (aaH g ?_);refine bt (zg j ?_);refine bt (zg g ?_);exact eR ⟨rfl,rfl,c⟩
 ·rintro⟨r1,r2⟩ s' ⟨i,rfl,_⟩;subst i;exact eR h
end
end
section
open PySem.SetTable
section
variable{prog:lT}{w:px}{K:Type}[DecidableEq K]{knd:KeyKind prog w K}{A:r0}{E:cA->ee->Prop}{s:ee}
noncomputable def hA(a:Array (Int×cA))(i:Nat):Int:=(a[i]?.map (·.1)).getD 0
def qv(knd:KeyKind prog w K)(h:qt)(b:Array (Int×cA)):Prop:=∀(i:Nat) (e:Int×cA),b[i]?=some e->∃a k,e=(mu knd k,t8 a)/\qp knd h k a
def At(knd:KeyKind prog w K)(h:qt)(b:Array (Int×cA))(k:List K)(i:Nat):Prop:=∃a,b[i]?=some (mu knd k,t8 a)/\qp knd h k a
def Good.fits{t:zc}{a:Array (Int×cA)}(g:Good t (a.map (·.1))):t.fits a.size=true:=by
 delta SetTable.fits aat;simp only[g.sz,g.d,Vt];have:=g.nf;rw[g.sz,Vt] at this;simpa using this
def odd (h:hV m):(m%2==0)=false:=by rcases h with rfl|rfl|rfl<;>rfl
theorem GQ (M:s.heap.get? S=some o)(hd:o.data=.set p ep t)(g:Good t (p.map (·.1)))(H:qv knd s.heap p)(O:qp knd s.heap k x)(R:A.units<y3)(hN:N<10*turns t.mask)(hl:∀m,m<N->∃i,t.slot (aD t.mask (t.probeStart (mu knd k)) m).j=.live i/\¬At knd s.heap p k i)(D:(t.slot (aD t.mask (t.probeStart (mu knd k)) N).j=.empty/\Q (.free (aD t.mask (t.probeStart (mu knd k)) N).j false) s)\/((∃i,t.slot (aD t.mask (t.probeStart (mu knd k)) N).j=.live i/\At knd s.heap p k i)/\Q (.there none) s)) :
  ∀(d n:Nat) (stand:Option Xj) (b:Nat),N-n=d->n<=N->d<b->stand.getD (t.probeStart (mu knd k))=aD t.mask (t.probeStart (mu knd k)) n->iN (ma prog w) A (aco S (.ref x) (mu knd k) true b stand) Q E s:=by
 intro d;induction d using Nat.strongRecOn with
 | ind d T =>
  intro n stand b hdn I U hs;obtain⟨b,rfl⟩:∃f,b=f+1:=⟨b-1,by lia⟩
  refine bt (VZ M hd g.fits ?_);dsimp only;rw[show t.gaveWay=false from odd g.m,hs]
  simp only[lD,if_false];have F:∀m,aD t.mask (aD t.mask (t.probeStart (mu knd k)) n) m=aD t.mask (t.probeStart (mu knd k)) (n+m):=λm=>(gU ..).symm
  have V:∀i,At knd s.heap p k i->hA p i=mu knd k:=λi ⟨a,e,_⟩=>by delta hA;rw[e];rfl
  have gm:=BI g.CC (10*turns t.mask) (aD t.mask (t.probeStart (mu knd k)) n) (N-n) (by rw[Cc];rfl) (by lia) (by
   rw[F,W7 I]
   rcases D with⟨h,_⟩|⟨⟨i,h,ha⟩,_⟩
   ·exact .inl h
   ·exact .inr ⟨i,h,V i ha⟩) (λm hm=>by
   rw[F];obtain⟨i,h,_⟩:=hl (n+m) (by lia)
   exact⟨i,h⟩)
  obtain⟨m,hm,r⟩:=gm;rw[F,F] at r;have pr:∀f,f=hA p->t.probe f (mu knd k) (aD t.mask (t.probeStart (mu knd k)) n)=probe.go t (hA p) (mu knd k) (10*turns t.mask) (aD t.mask (t.probeStart (mu knd k)) n):=λf e=>by rw[e];rfl
  rw[pr _ ?U]
  case U=>rfl
  rcases r with⟨rfl,l,B⟩|⟨i,l,hh,B⟩
  ·simp[B];rw[W7 I] at l ⊢
   rcases D with⟨_,q⟩|⟨⟨i,h,_⟩,_⟩
   ·exact eR q
   ·rw[h] at l;contradiction
  ·rw[B];dsimp only;have W:∃J,t.place[i]?=some J:=by
    rcases vo g.d with⟨X,C,P⟩|⟨C,_⟩
    ·rw[C] at l;cases l;exact⟨_,P⟩
    ·rw[C] at l;contradiction
   obtain⟨J,hJ⟩:=W;have hi:i<p.size:=by
    have:=(xr.mp hJ).1;rw[g.sz,Vt] at this;exact this
   obtain⟨e,u⟩:∃e,p[i]?=some e:=⟨_,iR hi⟩;obtain⟨a,G,rfl,v⟩:=H i e u;have L:G=k->Q (.there none) s:=λc=>by
    subst c
    rcases D with⟨h,_⟩|⟨_,q⟩
    ·exfalso
     by_cases z:n+m=N
     ·rw[z,h] at l;contradiction
     ·obtain⟨X,h',na⟩:=hl (n+m) (by lia)
      rw[h'] at l;cases l;exact na ⟨a,u,v⟩
    ·exact q
   have no:G≠k->n+m<N:=λc=>by
    refine ua λz=>?_
    have z:n+m=N:=by lia
    rw[z] at l
    rcases D with⟨h,_⟩|⟨⟨X,h,a',Y,Z⟩,_⟩
    ·rw[h] at l;cases l
    ·rw[h] at l;cases l;rw[u] at Y;have ea:a=a':=by
      have:=congrArg aa6 (Option.some.inj Y);injection this
     subst ea;exact c (v.inj Z)
   split
   ·refine bt (Nd O (λy hy=>?_) ?_)
    ·obtain⟨C,h1,rfl⟩:=bg.mp hy;obtain⟨j1,h2,h3⟩:=nR (WV.mp h1 |> Array.mem_filter.mp |>.1 |> WV.mpr)
     obtain⟨a1,k1,P,be⟩:=H j1 C (by rw[<-gW,cm h2,h3])
     exact⟨a1,k1,by rw[P],be⟩
    simp only[lD,if_false];rw[u];dsimp only;refine bt (q0 (aba R v O ?_));refine bt (VZ M hd g.fits ?_)
    by_cases c:G=k
    ·rw[decide_eq_true c];exact eR (L c)
    ·rw[decide_eq_false c];simp only[Zc,lD,if_false];rw[show t.sameMemory t.moves t.mask=some true by unfold Zr;simp]
     dsimp only;rw[if_pos rfl,l];dsimp only;rw[u];dsimp only;refine bt (aaF ?_);exact T (N-(n+(m+1))) (by have:=no c;omega) (n+(m+1)) _ b rfl (by have:=no c;omega) (by have:=no c;omega) rfl
   ·rw[u];dsimp only;refine bt (q0 (aba R v O ?_));refine bt (VZ M hd g.fits ?_)
    by_cases c:G=k
    ·rw[decide_eq_true c];exact eR (L c)
    ·rw[decide_eq_false c];simp only[Zc,lD,if_false];rw[show t.sameMemory t.moves t.mask=some true by unfold Zr;simp]
     dsimp only;rw[if_pos rfl,l];dsimp only;rw[u];dsimp only;refine bt (aaF ?_);exact T (N-(n+(m+1))) (by have:=no c;omega) (n+(m+1)) _ b rfl (by have:=no c;omega) (by have:=no c;omega) rfl
end
end
section
open PySem.SetTable
section
variable{prog:lT}{w:px}{K:Type}[DecidableEq K]{knd:KeyKind prog w K}{A:r0}{E:cA->ee->Prop}{s:ee}
def Jr(n)(h:WK v=true):∃b,aaU n v=pure b:=by
 cases v<;>first|(cases n<;>exact⟨_,rfl⟩)|contradiction
theorem Q8 (f:qp knd s.heap i a)(h:∀b,Q b s):iN (ma prog w) A (aaU 8 (.ref a)) Q E s:=by
 have j:=f.typeIs;obtain⟨o,items,n,k,_,hd,l⟩:=f;refine bt (abR j F.slot_tuple_hash.lookup ?_);refine bt (ZC k hd ?_);refine bt ?_;rw[<-aad];refine P' (Zd _ (λc r s'=>s'=s/\∀v∈c,WK v=true) (λr s'=>s'=s) ?_ ?_ _ _ ⟨rfl,l.byValue⟩) (λr s' e=>?_) λ_ _ x=>x
 ·rintro v c r s' ⟨rfl,d⟩;obtain⟨b,m⟩:=Jr 7 (d v fm);rw[m];refine bt (eR ?_);cases b with
  | true=>exact eR ⟨rfl,λu g=>d u (gf _ g)⟩
  | false=>exact eR rfl
 ·rintro r s' ⟨rfl,_⟩;rfl
 ·subst e;obtain⟨p,r2⟩:=r;cases p with
  | none=>exact eR (h _)
  | some b=>exact eR (h _)
end
end
section
open PySem.SetTable
section
variable{prog:lT}{w:px}{K:Type}[DecidableEq K]{knd:KeyKind prog w K}{A:r0}{E:cA->ee->Prop}{s:ee}
def mF (x:qp knd h k a)(g:h.get? S=some o)(hd:o.data=.set f ep t)(hs:V3 S h h'):qp knd h' k a:=by
 obtain⟨d,items,n,c,i,b,j⟩:=x;have e:a≠S:=by
  rintro rfl;obtain rfl:d=o:=Option.some.inj (c.symm.trans g);rw[hd] at b;exact nomatch b
 exact⟨d,items,n,(hs.2 a e).trans c,i,b,j⟩
def gz(knd:KeyKind prog w K)(h:qt)(S:eu)(b:List (List K)):Prop:=∃o a ep t,h.get? S=some o/\o.ExactSet/\o.data=.set a ep t/\Good t (a.map (·.1))/\qv knd h a/\(∀k,(∃i,At knd h a k i) ↔ k∈b)/\a.size=b.length/\t.place.size*5<t.mask*3
def Ku (d:s.heap.get? S=some o)(hd:o.data=.set b ep t)(g:Good t (b.map (·.1)))(f:hV (Xn n-1))(j:b.size<=Xn n-1)(k:Xn n<=dk)(h:∀(es':Array (Int×cA)) (t':zc),es'.toList.Perm b.toList->Good t' (es'.map (·.1))->t'.mask=Xn n-1->Q () {s with heap:=s.heap.update S (Xf es' t')}):iN (ma prog w) A (ab' S n) Q E s:=by
 refine bt (VZ d hd g.fits ?_);dsimp only;rw[if_neg (acm.mpr k)];obtain⟨t',order,e,l,e2,e3,e4,pm,g'⟩:=Good.laid f (hs:=b.map (·.1)) (by rw[Vt];exact j)
 rw[Vt] at pm;have all:∀i∈order.toList,i<b.size:=λi c=>mA.mp (pm.mem_iff.mp c)
 obtain⟨m,m2⟩:=rf b order.toList all;have p:t.relaid (b.map (·.1)) n=some (t',order):=e;have hsz:(order.filterMap λi=>b[i]?).size=b.size:=by
  rw[<-hQ,XD,m,pm.length_eq,kH]
 rw[p];refine bt (wpAny_of_eq (a:=(order.filterMap λi=>b[i]?,t')) ?_ ?_)
 ·refine if_neg ?_;rw[hsz];simp
 ·refine abl d hd (h _ t' ?_ ?_ l) (by rw[hsz];lia)
  ·rw[XD];have r:=pm.filterMap λi=>b[i]?
   refine r.trans (ZV ?_);apply aaC;intro q;obtain⟨u,v⟩:=rf b (hI b.size) λi c=>mA.mp c
   by_cases x:q<b.size
   ·rw[v q q (zd x),gW]
   ·rw[VO (by rw[u,kH];omega),VO (by rw[hQ];omega)]
  ·have:(order.filterMap λi=>b[i]?).map (·.1)=order.filterMap λi=>(b.map (·.1))[i]?:=by
    rw[Array.map_filterMap];congr 1;funext i;rw[Ye]
   rw[this];exact g'
end
end
section
open PySem.SetTable
section
variable{prog:lT}{w:px}{K:Type}[DecidableEq K]{knd:KeyKind prog w K}{A:r0}{E:cA->ee->Prop}{s:ee}
theorem Good.plain (g:Good t hs)(p:Bool):Good {t with plain:=p} hs:=⟨g.m,g.d,g.sz,g.rise,g.le,g.nf,g.path⟩
def EC{h:qt}{S:eu}{o:KX}{a es':Array (Int×cA)}{ep:Nat}{t t':zc}(b:h.get? S=some o)(hd:o.data=.set a ep t):(h.update S (Xf es' t')).get? S=some {o with data:=.set es' (ep+1) t'}:=by
 have:=X0 (Xf es' t') b (by rw[putSet_of es' t' hd];rfl)
 rw[putSet_of es' t' hd] at this;exact this
def AX (g:qv knd h b):(∃i,At knd h b k i) ↔ ∃e∈b.toList,∃a,e.2=.ref a/\qp knd h k a:=by
 constructor
 ·rintro⟨i,a,e,d⟩;rw[<-gW] at e;exact⟨_,eS e,a,rfl,d⟩
 ·rintro⟨e,m,a,f,d⟩;obtain⟨i,n,o⟩:=nR m;have j:b[i]?=some e:=by rw[<-gW,cm n,o]
  obtain⟨l,k',p,c⟩:=g i e j;subst p;have f:l=a:=by injection f
  subst f;obtain rfl:=d.inj c;exact⟨i,l,j,c⟩
def gz.of (g:h.get? S=some o)(D:o.ExactSet)(hd:o.data=.set f ep t)(l:qv knd h f)(u:∀k,(∃i,At knd h f k i) ↔ k∈r)(v:qp knd h k x)(G:f.size=r.length)(F:h'.get? S=some {o with data:=.set es' q t'})(hs:V3 S h h')(pm:es'.toList.Perm ((mu knd k,t8 x)::f.toList))(g':Good t' (es'.map (·.1)))(nf:t'.place.size*5<t'.mask*3):gz knd h' S (r++[k]):=by
 have m:qv knd h' es':=λi e d=>by
  rw[<-gW] at d
  rcases f'.mp (pm.mem_iff.mp (eS d)) with rfl|z
  ·exact⟨x,k,rfl,mF v g hd hs⟩
  ·obtain⟨j,y,B⟩:=nR z;obtain⟨a,n,C,p⟩:=l j e (by rw[<-gW,cm y,B])
   exact⟨a,n,C,mF p g hd hs⟩
 refine⟨_,es',q,t',F,D,rfl,g',m,λn=>?_,?_,nf⟩
 ·rw[AX m,eK,kq,<-u n,AX l];have back:∀{e:Int×cA}{a:eu},e∈f.toList->e.2=.ref a->qp knd h' n a->qp knd h n a:=λ{e a} d b c=>by
   obtain⟨j,y,B⟩:=nR d;obtain⟨H,k1,C,p⟩:=l j e (by rw[<-gW,cm y,B])
   subst C;have b:H=a:=by injection b
   subst b;rw[c.inj (mF p g hd hs)];exact p
  constructor
  ·rintro⟨e,d,a,b,c⟩
   rcases f'.mp (pm.mem_iff.mp d) with rfl|z
   ·right;have b:x=a:=by injection b
    subst b;exact c.inj (mF v g hd hs)
   ·exact .inl ⟨e,z,a,b,back z b c⟩
  ·rintro (⟨e,d,a,b,c⟩|rfl)
   ·exact⟨e,pm.mem_iff.mpr (gf _ d),a,b,mF c g hd hs⟩
   ·exact⟨_,pm.mem_iff.mpr fm,x,rfl,mF v g hd hs⟩
 ·have:=pm.length_eq;simp at this;simp only[this,eH,G];rfl
end
end
section
open PySem.SetTable
section
variable{prog:lT}{w:px}{K:Type}[DecidableEq K]{knd:KeyKind prog w K}{A:r0}{E:cA->ee->Prop}{s:ee}
theorem M9 (X:gz knd s.heap S c)(M:qp knd s.heap k x)(hu:A.units<y3)(room:c.length<70)(h:∀b h',V3 S s.heap h'->gz knd h' S (if k∈c then c else c++[k])->Q b {s with heap:=h'}):iN (ma prog w) A (setAddHashed S (.ref x) (mu knd k)) Q E s:=by
 have Y:=X;obtain⟨o,f,ep,t,v,T,hd,g,H,n,y,nf⟩:=X;refine q0 (bt (VZ v hd g.fits ?_));dsimp only;rw[show byScan (.ref x) f=false from rfl]
 obtain⟨N,hN,hl,hq⟩:=g.stop (mu knd k) (At knd s.heap f k) (λi ⟨a,e,_⟩=>by rw[Ye,e];rfl)
 have hN2:N<100000:=by
  have:turns t.mask<=142:=by delta turns;rcases g.m with e|e|e<;>rw[e]<;>decide
  lia
 refine bt (GQ v hd g H M hu hN hl ?_ (N-0) 0 none 100000 rfl (qh _) (by omega) rfl)
 rcases hq with⟨O,no⟩|⟨i,O,Z⟩
 ·refine .inl ⟨O,?_⟩;have W:k∉c:=λz=>by
   obtain⟨i,hi⟩:=(n k).mpr z;exact no i hi
  rw[if_neg W] at h;refine bt (VZ v hd g.fits ?_);have be:t.place.size+1<=t.mask:=by
   rcases g.m with e|e|e<;>rw[e] at nf ⊢<;>lia
  have F:=g.put O (λm I=>by obtain⟨i,e,_⟩:=hl m I;exact⟨i,e⟩) be
  have Sh:t.place.size=c.length:=by rw[g.sz,Vt,y]
  generalize (aD t.mask (t.probeStart (mu knd k)) N).j=j at *;rw[xl g.d] at F;rw[xl g.d];have em:∀p,(Vl f p (mu knd k,t8 x)).map (·.1)=Vl (f.map (·.1)) p (mu knd k):=λp=>by
   apply Array.toList_inj.mp;simp only[aaD,V2,V2,eW,ka,aaD,Vo,Vp]
  rw[<-em] at F;have r:=Xo f (below t.place j) (mu knd k,t8 x);rw[aak] at r;have r:=r.trans (Xd _ _);have C:=rL f (below t.place j) (mu knd k,t8 x);have B:∀l:zc,Good l ((Vl f (below t.place j) (mu knd k,t8 x)).map (·.1))->l.mask=t.mask->iN (ma prog w) A (do
    storeSet S (Vl f (below t.place j) (mu knd k,t8 x)) l
    if (!false&&l.tooFull)=true then do
     ab' S (grown (f.size+1))
     pure true
    else pure true) Q E s:=λl P Si=>by
   have p2:l.place.size=c.length+1:=by rw[P.sz,Vt,C,y]
   have sl:(Vl f (below t.place j) (mu knd k,t8 x)).size<=sizeLine:=by rw[C,y];delta dk;lia
   generalize Vl f (below t.place j) (mu knd k,t8 x)=D at *;have J:=EC (es':=D) (t':=l) v hd;have R:=Wz s.heap S (Xf D l);refine bt (abl v hd ?_ sl);have L:l.tooFull=decide ((c.length+1)*5 ≥ l.mask*3):=by
    delta SetTable.tooFull aat;rw[P.d,p2];rfl
   split
   ·rename_i u;have u:(c.length+1)*5 ≥ t.mask*3:=by
     rw[L,Si] at u;simpa using u
    rw[Sh] at nf;obtain⟨I,hz⟩:(hV (Xn (grown (f.size+1))-1)/\(c.length+1)*5<(Xn (grown (f.size+1))-1)*3)/\Xn (grown (f.size+1))<=sizeLine:=by
     rw[y]
     rcases g.m with e|e|e<;>rw[e] at nf u
     ·have:c.length=4:=by lia
      rw[this];exact⟨⟨.inr (.inl rfl),by decide⟩,by delta dk;decide⟩
     ·have:c.length=18:=by lia
      rw[this];exact⟨⟨.inr (.inr rfl),by decide⟩,by delta dk;decide⟩
     ·lia
    refine bt (Ku J rfl P I.1 (by have q:=I.2;rw[C];generalize grown (f.size+1)=G at q ⊢;lia) hz λes' t' U g' Sk=>eR ?_)
    have Sl:=EC (es':=es') (t':=t') J rfl;have V:=Wz (s.heap.update S (Xf D l)) S (Xf es' t');refine h true _ (R.trans V) (gz.of v T hd H n M y Sl (R.trans V) (U.trans r) g' ?_);have:t'.place.size=c.length+1:=by
     rw[g'.sz,Vt];have:=U.length_eq;simp at this;rw[this,C,y]
    rw[this,Sk];exact I.2
   ·rename_i u;refine eR (h true _ R (gz.of v T hd H n M y J R r P ?_));rw[L] at u;have u:¬(c.length+1)*5 ≥ l.mask*3:=by simpa using u
    rw[p2]
    lia
  split
  ·refine bt (Q8 M λb=>?_)
   cases b with
   | true=>exact B _ F rfl
   | false=>exact B _ (F.plain false) rfl
  ·exact bt (eR (B _ F rfl))
 ·refine .inr ⟨⟨i,O,Z⟩,?_⟩;have W:k∈c:=(n k).mp ⟨i,Z⟩;rw[if_pos W] at h;exact eR (h false s.heap (Heap.SameBut.refl S s.heap) Y)
end
end
section
open PySem.SetTable
section
variable{prog:lT}{w:px}{K:Type}[DecidableEq K]{knd:KeyKind prog w K}{A:r0}{R:ZF->ee->Prop}{I:eu}{fp wr:List eu}{G:Array Yn->Array Yn->Prop}{n:Nat}{Pr:Nat->cA->Prop}{St:Nat->ee->Prop}
def gz.moved (x:gz knd h S l)(hs:∀o,h.get? S=some o->h'.get? S=some o)(d:∀k a,qp knd h k a->qp knd h' k a):gz knd h' S l:=by
 obtain⟨o,p,ep,t,s,m,hd,g,c,f,r⟩:=x;refine⟨o,p,ep,t,hs o s,m,hd,g,λi e u=>?_,λk=>?_,r⟩
 ·obtain⟨a,k,j,b⟩:=c i e u;exact⟨a,k,j,d _ _ b⟩
 ·rw[<-f k];constructor
  ·rintro⟨i,a,e,z⟩;obtain⟨v,k',j,b⟩:=c i _ e;have y:a=v:=by injection j with _ q;injection q
   subst y;obtain rfl:=z.inj (d _ _ b);exact⟨i,a,e,b⟩
  ·rintro⟨i,a,e,z⟩;exact⟨i,a,e,d _ _ z⟩
noncomputable def tB(a:List (List K))(v:List K):List (List K):=if v∈a then a else a++[v]
def gC(val:Nat->List K)(i:Nat):List (List K):=((hI i).map val).foldl tB []
def vZ(val:Nat->List K)(i:Nat):gC val (i+1)=tB (gC val i) (val i):=by delta gC;simp only[XW,eW,Ys];rfl
theorem w8(val:Nat->List K):∀i,(gC val i).length<=i
 | 0=>eT 0
 | i+1=>by
  have:=w8 val i;rw[vZ];delta tB;split
  ·omega
  ·simp;omega
theorem RI(W:WalksS prog w A.in1 I fp wr G n Pr St)(S:eu)(y:S∉fp)(val:Nat->List K)(B:qt)(T:∀i v,Pr i v->∃a,v=.ref a/\qp knd B (val i) a)(C:A.units+1<y3)(hb:n<=70)
 (U:∀i s,St i s->∀k a,qp knd s.heap k a->a∉wr) :
  ∀(k i:Nat) (s:ee),n-i=k->i<=n->St i s->(∀k a,qp knd B k a->qp knd s.heap k a)->gz knd s.heap S (gC val i) ->
   (∀s',Moved (S::wr) G s s'->gz knd s'.heap S (gC val n)->R (.ok (.ret .none)) s') ->
   XH (ma prog w) A (.builtin "set.update.loop" ⟨[.ref S,.ref I],[]⟩) R s:=by
 have hw:S∉wr:=λh=>y (W.sub _ h)
 have D:∀b∈wr,b∈S::wr:=λb z=>gf _ z
 have E:∀i s s',St i s->Moved wr G s s'->∀k a,qp knd s.heap k a->qp knd s'.heap k a:=λi s s' st c k a x=>by
  have:=U i s st k a x;obtain⟨o,items,m,V,r⟩:=x;exact⟨o,items,m,c.heap _ _ this V,r⟩
 intro k;induction k with
 | zero =>
  intro i s X Y st d hs l;obtain rfl:i=n:=by lia
  refine VU z6 ?_;refine bt (W.done s _ _ st λs' c=>?_)
  exact eR (l s' (c.mono D) (hs.moved (λo e=>c.heap S _ hw e) (E _ _ _ st c)))
 | succ k Z =>
  intro i s X Y st d hs l;have g:i<n:=by omega
  refine VU z6 ?_;rw[Vk sW _];refine bt (W.item i s _ _ g st λv s' hP H c=>?_)
  obtain⟨x,rfl,J⟩:=T i v hP;have p:=E _ _ _ st c;have L:=p _ _ (d _ _ J);have j:=hs.moved (λo e=>c.heap S _ hw e) p
  refine bt (q0 ?_);refine q0 (bt (wpAny_pyHash_tuple (C) L ?_))
  have room:(gC val i).length<70:=by have:=w8 val i;lia
  refine M9 j L (C) room λb h' f M=>?_
  obtain⟨oS,es,ep,t,N,_,O,_⟩:=j;have P:gz knd h' S (gC val (i+1)):=by rw[vZ];exact M
  refine eR ⟨YA sW _,Z (i+1) _ (by lia) g (W.frame _ s' _ _ H (Wa _ _) λb z o e=>?_) (λk a z=>mF (p _ _ (d _ _ z)) N O f) P λQ q u=>?_⟩
  ·rw[f.2 b (λh:b=S=>y (h ▸ z))];exact e
  ·refine l Q (Moved.trans W.gtrans ((c.mono D).then_heap (Wa _ _) λb o z e=>?_) q) u
   rw[f.2 b (λh:b=S=>z (h ▸ fm))];exact e
end
end
section
open PySem.SetTable
section
variable{P:lT}{w:px}{K:Type}[DecidableEq K]{knd:KeyKind P w K}{A:r0}{E:cA->ee->Prop}{s:ee}
def LU (hh:A.handled=none)(hu:A.units+4<y3)(hl:s.heap.IsList l items)(u:∀i v,items[i]?=some v->∃a,v=.ref a/\qp knd s.heap (val i) a)(y:items.size<=70)(h:∀(h':qt) (tk:Nat),gz knd h' s.heap.objs.size (gC val items.size)->(∀b o,b<s.heap.objs.size->s.heap.get? b=some o->h'.get? b=some o)->Q (.ref s.heap.objs.size) {s with heap:=h',toks:=tk}) :
  iN (ma P w) A (call (.type "set") [.ref l]) Q E s:=by
 refine E3 hl (λled R I B C f j g n hit k=>?_) h
 have p:A.in1.in1.in1.handled=none:=by simp[hh]
 have up:∀k a,qp knd s.heap k a->qp knd B k a:=λk a ⟨o,it,m,e,r⟩=>⟨o,it,m,by rw[C];exact fj _ (fj _ e),r⟩
 refine RI ((Walks.list p _ l f items).toS) s.heap.objs.size j val s.heap u (by simp;lia) y (λi s1 st k a x=>?D) (items.size-0) 0 _ (by lia) (qh _) ⟨hit,n⟩ up ?F k
 case D =>
  obtain⟨G,q,t⟩:=st.1;obtain⟨o,it,m,e,c,d,_⟩:=x;intro z;obtain rfl:=kq.mp z;obtain rfl:G=o:=Option.some.inj (q.symm.trans e);rw[c] at t;exact absurd t.1 (by decide)
 case F=>exact⟨_,#[],0,_,g,⟨rfl,rfl,rfl⟩,rfl,(by rw[Array.map_empty];exact Good.fresh 0 0 led),λi e H=>by simp at H,λk=>⟨λ⟨i,a,e,_⟩=>by simp at e,λz=>by simp[gC] at z⟩,rfl,(by show 0*5<7*3;decide)⟩
end
end
section
variable{X:Cx}{pos:z8}{e:hY}
noncomputable def x9(a:eu)(n:Nat):HO:=.ext λh=>n<4096/\∃o b ep t,h.get? a=some o/\o.ExactSet/\o.data=.set b ep t/\t.fits b.size=true/\b.size=n
def kJ(fs:List (List fk)):Nat:=(gC (λi=>(((fs[i]?).getD []).map ro:List Key)) fs.length).length
def NO(l:X.calm=true)(hu:X.A.units+64<y3):bN X (.type "set") (λxs H Q=>∃(p:eu) (vs:List V) (fs:List (List fk)),xs=[.ref p]/\Rd H p (.lst vs)/\vH X.K H vs fs/\fs.length<=70/\∀a,H a=none->Q (.ref a) (upd H a (x9 a (kJ fs)))):=by
 intro pins s σ H xs us Q I r h;obtain⟨p,vs,fs,rfl,G,tx,J,q⟩:=h;obtain⟨u,rfl,L⟩:=r.one;subst L;obtain⟨z,its,n,y,e⟩:=G.ok I.aw;have M:s.heap.IsList p its.toArray:=⟨_,e,rfl,n,rfl⟩;have d:its.length=fs.length:=by rw[<-tx.1];exact y.length.symm
 refine LU (knd:=cP X.prog X.w) (val:=λi=>((fs[i]?).getD []).map ro) (I.ok.hd l) (by lia) M (λi v f=>?_) (by rw[ft,d];exact J) λh' tk B N=>?_
 ·have f:its[i]?=some v:=by simpa using f
  have j:i<fs.length:=by rw[<-d];exact (cn.mp f).1
  obtain⟨_,a,O,R⟩:=tx.2 i _ (cm j);obtain⟨_,C,S⟩:=y.get O;subst S;rw[f] at C;obtain rfl:=sO C;obtain⟨us,D,⟨o,c,l,n,hd⟩,_⟩:=I.tuple R;refine⟨a,rfl,o,us.toArray,n,c,l,hd,?_⟩;have T:(fs[i].map V.str)=((fs[i].map ro:List Key)).map kV:=by rw[gd];rfl
  rw[T] at D;simpa[cm j] using xa D
 ·have hsz:its.toArray.size=fs.length:=by rw[ft];exact d
  rw[hsz] at B;have U:=I.aw.fresh (a:=s.heap.objs.size) (eT _);refine⟨.ref s.heap.objs.size,upd H s.heap.objs.size (x9 s.heap.objs.size (kJ fs)),?_,rfl,q _ U⟩;have hle:kJ fs<=fs.length:=w8 _ _;obtain⟨o,m,ep,t,c,E,hd,g,_,_,x,_⟩:=B;exact I.laid (λb o F=>N b o (gi F) F) (eT _) ⟨⟨by lia,o,m,ep,t,c,E,hd,g.fits,x⟩,⟨o,c⟩,λh1 h2 ⟨x,o,m,ep,t,c,r⟩ k=>⟨x,o,m,ep,t,k o c,r⟩⟩
def Mu:bN X (.builtin "len") (λxs H Q=>∃(a:eu) (n:Nat),xs=[.ref a]/\H a=some (x9 a n)/\Q (.int n) H):=by
 intro pins s σ H xs us Q I r h;obtain⟨a,n,rfl,c,q⟩:=h;obtain⟨u,rfl,d⟩:=r.one;subst d;obtain⟨⟨hn,o,f,ep,t,g,b,hd,i,hsz⟩,_,_⟩:=I.aw a _ c;subst hsz;exact call_len_set g b hd i (by lia) ⟨.int f.size,H,I.tok _,⟨_,rfl⟩,q⟩
def rS(f:DF):DF:=λZ=>(f Z).bind λp=>match p.1 with
 | .lst ds=>(kA ds).bind λfs=>if fs.length<=70 then some (.int (kJ fs:Nat),p.2) else none
 | _=>none
def OG (s:X.calm=true)(u:X.A.units+64<y3)(w:Gl X "len")(x:X.mg "len"=none)(n:Gl X "set")(o:X.mg "set"=none)(j:bK X e [])(q:ph [.Call (.Name "set" l) [e] [] i] X.env=(false,eval (.Call (.Name "set" l) [e] [] i) X.env)::ph [] X.env)(h:DD X e f):DD X (.Call (.Name "len" p) [.Call (.Name "set" l) [e] [] i] [] pos) (rS f):=by
 obtain⟨t,pt,y⟩:=h;refine⟨_,oW Mu w x X5 (jD (tf (NO s u) n o (by decide +kernel) (jD pt lj j) (by decide) rfl j rfl) lj q) (by decide) rfl q rfl,λz B Z C H D d Z' Q g S k=>?_⟩
 obtain⟨c,Z1,E,g⟩:=oB g;dsimp only at g;split at g
 ·obtain⟨fs,F,g⟩:=oA g;split at g
  ·rename_i G;obtain⟨rfl,rfl⟩:=sP g;refine y z B Z C H D _ _ _ E S λv H1 r m I J=>?_
   obtain⟨a,K,rfl,L,rs⟩:=J;refine⟨a,K,fs,rfl,Rd.mono m.sub L,(vq m.sub F rs).1,G,λb M=>⟨b,kJ fs,rfl,ba,?_⟩⟩
   exact k _ _ r (m.made M) I rfl
  ·exact nO g
 ·exact nO g
theorem Ad:∀{ns:List Int}{us:List cA},aH (ns.map V.int) us->Zv us ns
 | [],_,h=>by cases h;exact .nil
 | x::ns,_,h=>by
  cases h with
  | cons r t =>
   obtain⟨k,e⟩:=(r)
   subst e;exact .cons x k (Ad t)
theorem AL:∀{us:List cA}{ns:List Int},Zv us ns->aH (ns.map V.int) us
 | _,_,.nil=>.nil
 | _,_,.cons x k t=>.cons ⟨k,rfl⟩ (AL t)
theorem Fc{K:gj}{H:Hp}:∀(ns:List Int),az K H (ns.map .int) (ns.map V.int)
 | []=>rfl
 | x::ns=>⟨_,_,rfl,rfl,Fc ns⟩
noncomputable def gR(ns:List Int):List Int:=ns.mergeSort λa b=>decide (a<=b)
def C7 (p:d.Perm ns)(h:d.Pairwise (· <= ·)):d=gR ns:=by
 refine mK (λa b f g=>X4 f g) (p.trans (ib ns _).symm) h ?_
 exact (wm (λa b c f g=>by simp at *;lia) (λa b=>by simp;lia) ns).imp λh=>of_decide_eq_true h
def Ap:List V->Hp->VK->Prop:=λxs H Q=>∃p ns,xs=[.ref p]/\Rd H p (.lst (ns.map V.int))/\ns.length<64/\∀l,H l=none->Q (.ref l) (upd H l (.lst ((gR ns).map V.int)))
def QN:bN X (.builtin "sorted") Ap:=by
 intro pins s σ H xs us Q I r h;obtain⟨p,b,rfl,g,h64,q⟩:=h;obtain⟨u,rfl,i⟩:=r.one;subst i;obtain⟨z,its,n,d,e⟩:=g.ok I.aw;have j:=Ad d;have hl:its.length<64:=by
  have:=d.length;rw[ab] at this;lia
 refine sorted_ints ⟨_,e,rfl,n,rfl⟩ j hl λout ns' f k m=>?_
 obtain⟨c,t⟩:=sortedAll_at s.heap its out;rw[C7 k m] at f;have v:((gR b).map V.int).length<=sizeLine:=by
  have w:(gR b).length=b.length:=(ib b _).length_eq;simp[z4]
  lia
 exact⟨.ref (s.heap.objs.size+1),_,I.laid (o:=.lst ((gR b).map V.int)) (λ_ _=>acx) (WX _) ⟨v,_,c,AL f,by simp only[WU];exact t⟩,rfl,q _ (I.aw.fresh (WX _))⟩
def qf:List Dat->Option Res
 | [.lst ds]=>(jZ ds).bind λns=>if ns.length<64 then some (.own (.lst ((gR ns).map .int))) else none
 | _=>none
def MU:CD X Ap qf:=by
 intro H0 ps Z σ H c vs ds o Q a S r k;delta qf at a;split at a
 ·obtain⟨ns,d,a⟩:=oA a;split at a
  ·rename_i f;obtain rfl:=sO a;obtain⟨v,vr,rfl,⟨p,ws,rfl,b,rs⟩,g⟩:=r;subst g;rw[vi d rs] at b;refine⟨p,ns,rfl,Rd.mono S.sub b,f,λl hl=>?_⟩
   exact k (.ref l) _ c (S.made hl) (aj.refl _) ⟨l,rfl,⟨_,ba,Fc _,S.dw hl⟩,(S.bJ hl).2,(S.bJ hl).1,S.dP hl⟩
  ·exact nO a
 ·exact nO a
def NU (a:Gl X "sorted")(b:X.mg "sorted"=none)(c:bK X e [])(d:DA X [e] fa):DE X (.Call (.Name "sorted" p) [e] [] pos) (cg qf fa) :=
 iT QN MU a b (by decide +kernel) d (by decide) rfl c rfl
end
section
namespace Mq
open Lean
def wk(k:String):MacroM (TSyntax `tactic):=`(tactic|walk_at $(Syntax.mkStrLit k):str)
def tc(c:Char):MacroM (TSyntax `tactic):=match c with
|'='=>`(tactic|with_reducible assumption)
|'r'=>`(tactic|rfl)
|'a'=>`(tactic|assumption)
|'d'=>`(tactic|decide)
|'e'=>`(tactic|exact rfl)
|'f'=>`(tactic|exact λ_=>rfl)
|'g'=>`(tactic|exact λ_ _=>rfl)
|'h'=>`(tactic|exact kU (by assumption))
|'i'=>`(tactic|exact pE (by assumption))
|'j'=>`(tactic|exact tU (by assumption))
|'n'=>`(tactic|exact qG (by rfl))
|'p'=>`(tactic|(intro _ _ _ _ _;walk_at "G"))
|'t'=>`(tactic|(intro _ _ _ _ _;walk_at "J"))
|'u'=>`(tactic|(intro _ _ _ _ _;walk_at "D"))
|'w'=>`(tactic|exact ZQ)
|'x'=>`(tactic|(simp[fh, *];done))
|'s'=>`(tactic|(simp[iZ,fh, *];done))
|'q'=>`(tactic|(first | rfl | assumption | (simp[*];done)))
|'2'=>`(tactic|first | assumption | rfl | decide +kernel)
|'3'=>`(tactic|(first | assumption | (simp[dk];done)))
|'4'=>`(tactic|exact yP)
|c=>wk c.toString
def ru(s:String):MacroM (TSyntax `tactic):=do
 if s.front=='>' then return (← wk (s.drop 1).toString)
 if s.front=='.' then return (← tc s.back)
 let b:=s.front=='!'
 let p:=(if b then (s.drop 1).toString else s).splitOn " "
 let f:=mkIdent p.head!.toName
 let mut h:=#[]
 let mut t:=#[]
 for c in (p.getD 1 "").toList do
  if c=='_' then h:=h.push (← `(?_))
  else
   let n:=mkIdent (← Macro.addMacroScope (.mkSimple s!"x{h.size}"))
   h:=h.push (← `(?$n:ident))
   t:=t.push (← `(tactic|case $n:ident=>$(← tc c):tactic))
 let r← if b then `(tactic|with_reducible refine' $f $h*) else `(tactic|refine' $f $h*)
 t.foldlM (λr x=>`(tactic|($r:tactic;$x:tactic))) r
def ra(s:String):MacroM (TSyntax `tactic):=do
 match s.splitOn "&" with
 |f::l=>
  let l←l.mapM ru
  match l.reverse with
  |[]=>ru s
  |x::l=>l.foldlM (λy x=>`(tactic|(refine' $(mkIdent f.toName) ?m ?n;(case m=>$x:tactic);(case n=>$y:tactic)))) x
 |[]=>ru s
def fs(s:String):MacroM Syntax:=do
 let l←(s.splitOn "|").mapM ra
 return (← l.reverse.foldlM (λy x=>`(tactic|first|$x:tactic|$y:tactic)) (← `(tactic|fail)))
end Mq
local macro_rules
| `(tactic| walk_at "r0")=>`(tactic| exact abv rfl)
| `(tactic| walk_at "r1")=>`(tactic| exact aaJ (abv rfl))
| `(tactic| walk_at "r2")=>`(tactic| exact aaJ (aaJ rfl))
| `(tactic| walk_at "V")=>Mq.fs ">r0|>r1|>r2"
| `(tactic| walk_at "r3")=>`(tactic| exact aaJ rfl)
| `(tactic| walk_at "L")=>Mq.fs ">r0|>r3"
| `(tactic| walk_at "F")=>Mq.fs ">r0|>r3"
| `(tactic| walk_at "r4")=>`(tactic| exact u6 (by rfl))
| `(tactic| walk_at "N")=>Mq.fs ".a|>r4"
| `(tactic| walk_at "r5")=>`(tactic| exact cZ.mono (by assumption) (by decide))
| `(tactic| walk_at "R")=>Mq.fs ".a|>r5"
| `(tactic| walk_at "A")=>Mq.fs "OD|Ly rDA"
| `(tactic| walk_at "B")=>Mq.fs "G4 rVrddA"
| `(tactic| walk_at "O")=>Mq.fs "JC|Oz D"
| `(tactic| walk_at "G")=>Mq.fs "G1 NrLF|MV rrrH"
| `(tactic| walk_at "H")=>Mq.fs "OL|Q7 rGH"
| `(tactic| walk_at "I")=>Mq.fs "HG rarA|dv.alt&RE D&J6 D"
| `(tactic| walk_at "J")=>Mq.fs "Lj|Mn T"
| `(tactic| walk_at "1")=>Mq.fs "Oq|Q4|yP|Iv rVdd|Ir ard|Mg rVhddgD|IG hgDD|Im A|MC D|GP DD|Nz DD|FV D|JV rDDD|Iw rVradd|Qe rararD|Jb rararD|HQ rararD|RY rararD|RD rrrrD"
| `(tactic| walk_at "D")=>Mq.fs ">1|DE.dd 0"
| `(tactic| walk_at "0")=>Mq.fs "Ju DD|FQ DD|DE.alt&ML DD&HW DD|Oy DD|PZ DD|QD DD|FI iDD|Lw iDD|Rg jrDD|HL A|Gz DOO|Dg aarrrrnrfIptu|yT arrnrfIptu|OQ arRdrrA|Mk arRdrrB|Jq rarA|Kt rrarA|Lg rrarrA|K6 rrarrA"
| `(tactic| walk_at "E")=>Mq.fs ">0|DD.de 1"
| `(tactic| walk_at "W")=>Mq.fs "IT T|Lv T|R3 TW|IU TW"
| `(tactic| walk_at "T")=>Mq.fs "MK iDD|HD iDD|J4 DD|Kg DD|QK jrDD|FY jrDD|JF rDDD|Ov T|DW.dt W|JL fD"
| `(tactic| walk_at "M")=>Mq.fs "Kh rVdd|>E"
| `(tactic| walk_at "Z")=>Mq.fs "OZ M|wB NrLFrE|PN arrLFrrnrfIptu|cM.alt&HN rVddfrrrDD&O0 rVhddrDD|HV rrrDG|IV rVddrrrrrA|LX wrfIGS|AM TSS"
| `(tactic| walk_at "S")=>Mq.fs "EZ|C9 ZS"
| `(tactic| walk_at "P")=>Mq.fs ".a|.r"
| `(tactic| walk_at "c")=>Mq.fs "kF|iP P|D' x|jA s|yo s"
| `(tactic| walk_at "r6")=>`(tactic| (simp[kI,gY,uc,l9,gx,nJ, *];done))
| `(tactic| walk_at "r7")=>`(tactic| (simp[kI,gY,uc,l9,gx];omega))
| `(tactic| walk_at "r8")=>`(tactic| decide +kernel)
| `(tactic| walk_at "y")=>Mq.fs ".r|.a|>r6|>r7|>r8"
| `(tactic| walk_at "o")=>Mq.fs ".=|vN q|oC|oX 22|v_eq cc|rR cc|Dy 3|nP 3|.e"
| `(tactic| walk_at "z")=>Mq.fs ".=|.e"
| `(tactic| walk_at "k")=>Mq.fs "xC yv|sS yv"
| `(tactic| walk_at "Q")=>Mq.fs "!GS ee|!Sd|!tP v"
| `(tactic| walk_at "m")=>Mq.fs "!L8|!Sa|.e"
| `(tactic| walk_at "v")=>Mq.fs ".=|!ai|!aa vv|!tH vQ|!xJ vk|!uR v|!qD vz|!E8 vz|!sY v|!v_and vk|!oG vv|!v_or vk|!vJ vv|!kS v|!iE vz|!aP v|!uW vv|!D7 vv|!v_res v|!af vm|!ao vvo|!rj vz|!aF vz|!dI eveze|!bA v3|!cu v3|!iG vvz|!a9 evez|!eJ ez|!O2 v|!zV vvovo|!tX veveze|!gg v|!tz ev|.e"
| `(tactic| walk_at "Y")=>Mq.fs "cM.calm Z|AM TXX"
| `(tactic| walk_at "X")=>Mq.fs "EZ|C9 YX"
| `(tactic| walk_at "r9")=>`(tactic| repeat (first|(with_reducible refine' ag ?_)|(with_reducible refine' ak ?_)|(with_reducible refine' cG ?_)|((with_reducible refine' aI ?p ?q ?_);(case p=>walk_at "v");(case q=>exact rfl))|((with_reducible refine' D6 ?p ?q ?_);(case p=>walk_at "v");(case q=>exact rfl))|((with_reducible refine' gb ?p ?_);(case p=>walk_at "v"))|((with_reducible refine' bc ?p ?_);(case p=>walk_at "v"))|(with_reducible refine' aB ?_)|fail))
| `(tactic| walk_at "w")=>`(tactic| repeat (first|(with_reducible refine' ag ?_)|(with_reducible refine' ak ?_)|(with_reducible refine' cG ?_)|((with_reducible refine' aI ?p ?q ?_);(case p=>walk_at "v");(case q=>exact rfl))|((with_reducible refine' D6 ?p ?q ?_);(case p=>walk_at "v");(case q=>exact rfl))|((with_reducible refine' gb ?p ?_);(case p=>walk_at "v"))|((with_reducible refine' bc ?p ?_);(case p=>walk_at "v"))|(with_reducible refine' aB ?_)|fail))
| `(tactic| walk_at "r10")=>`(tactic| ((with_reducible refine' AB ?_);walk_at "wb"))
| `(tactic| walk_at "wb")=>`(tactic| first|((with_reducible refine' ud ?p ?_);(case p=>walk_at "v"))|((with_reducible refine' AB ?_);walk_at "wb")|fail)
| `(tactic| walk_at "r11")=>`(tactic| ((with_reducible refine' uN ?_);walk_at "wb"))
| `(tactic| walk_at "wif")=>`(tactic| ((with_reducible refine' uN ?_);walk_at "wb"))
local macro_rules
| `(tactic| walk_at "1")=>Mq.fs "Sb aarD"
| `(tactic| walk_at "0")=>Mq.fs "Sf aaRrD"
section
variable{P:lT}{w:px}{K:gj}{mg:fk->Option cA}{base:qt}
def intBits_le (h:i.natAbs<2 ^ n):ti i<=n:=by
 delta ti;split
 ·lia
 ·rename_i z;have:=(ab4 (by intro e;exact z (by simpa using e))).mpr h
  lia
def tG (h:j.natAbs<2 ^ 64):fA i j=true:=by
 have:=intBits_le h;delta fA X8;rw[show decide (ti j>64)=false from decide_eq_false (by lia)]
 simp
def sy (h:i.natAbs<2 ^ 64):fA i j=true:=by
 have:=intBits_le h;delta fA X8;rw[show decide (ti i>64)=false from decide_eq_false (by lia)]
 simp
end
structure aZ (x:fk):Prop where
 rF:x.cps.all (·<128)=true
 len:x.length<=99
def As (h:x.cps.all (·<128)=true):y1 x=true:=by
 delta y1;rw[Yf] at h ⊢;intro c a;have:=h c a;lia
def aZ.ok (h:aZ x):y1 x=true:=As h.rF
noncomputable def pD(p:Int×Int):Dat:=.lst [.int p.1,.int p.2]
def Lc{m:Int}(h:m.natAbs<2 ^ 9000):m.natAbs.log2<9000:=by
 by_cases z:m.natAbs=0
 ·rw[z];decide
 ·exact (ab4 z).mpr h
def lh(ds)(i):cf (.lst ds) (.int i)=dU ds i:=rfl
noncomputable def hZ(c:Nat):Bool:=decide (97<=c)&&decide (c<=122)
noncomputable def aY(x:fk):Bool:=decide (x="north")||decide (x="east")||decide (x="south")||decide (x="west")
def dW(x:fk):Bool:=decide (0<x.length)&&decide (x.length<9)&&x.cps.toList.all hZ&&!aY x
def LI(c):((!decide (([c]:List Nat)<[97]))&&!decide (([122]:List Nat)<[c]))=hZ c:=by
 delta hZ;have a:decide (([c]:List Nat)<[97])=decide (c<97):=by
  apply pB.mpr;simp[Vh]
 have b:decide (([122]:List Nat)<[c])=decide (122<c):=by
  apply pB.mpr;simp[Vh]
 rw[a,b]
 by_cases d:97<=c<;>by_cases e:c<=122<;>simp[d,e]<;>omega
def CT (h:aZ x):x.length<=sizeLine:=wd h.len (by unfold dk;decide)
def AI{x:fk}(b:y1 x=true){ys:List fk}(c:∀y∈ys,y1 y=true)(neg:Bool):fu neg (.str x) (.lst (ys.map .str))=some (.dat (.bl (if neg then !(ys.any λy=>decide (y=x)) else ys.any λy=>decide (y=x)))):=by
 have f:bD (.lst (ys.map .str))=true:=jA (by
  show (ys.map Dat.str).all fh=true;rw[hG];intro d hd;obtain⟨y,a,rfl⟩:=bg.mp hd;exact c y a)
 show (if (bD (.str x)&&bD (.lst (ys.map .str)))=true then some (Res.dat (.bl (if neg then !inD (.str x) (ys.map .str) else inD (.str x) (ys.map .str)))) else none)=_
 rw[iP b,f];have e:inD (.str x) (ys.map .str)=ys.any λy=>decide (y=x):=by
  rw[nJ,XO];apply congrArg;funext y;exact gY y x
 rw[e];rfl
def RG{x:fk}(b:y1 x=true){ys:List fk}(c:∀y∈ys,y1 y=true)(neg:Bool):fu neg (.str x) (.tup (ys.map .str))=some (.dat (.bl (if neg then !(ys.any λy=>decide (y=x)) else ys.any λy=>decide (y=x)))):=by
 have f:bD (.tup (ys.map .str))=true:=jA (by
  show (ys.map Dat.str).all fh=true;rw[hG];intro d hd;obtain⟨y,a,rfl⟩:=bg.mp hd;exact c y a)
 show (if (bD (.str x)&&bD (.tup (ys.map .str)))=true then some (Res.dat (.bl (if neg then !inD (.str x) (ys.map .str) else inD (.str x) (ys.map .str)))) else none)=_
 rw[iP b,f];have e:inD (.str x) (ys.map .str)=ys.any λy=>decide (y=x):=by
  rw[nJ,XO];apply congrArg;funext y;exact gY y x
 rw[e];rfl
noncomputable def qL:List Str:=["north","east","south","west"]
def AW:∀y∈qL,y1 y=true:=by decide +kernel
def vO(x):(qL.any λy=>decide (y=x))=aY x:=by
 delta qL aY;simp only[VL,List.any_nil,abj,eq_comm (a:=x),Bool.or_assoc]
def D1 (a:y1 x=true)(neg):fu neg (.str x) (.lst [.str "north",.str "east",.str "south",.str "west"])=some (.dat (.bl (if neg then !aY x else aY x))):=by
 have:=AI a AW neg;rw[vO] at this;exact this
def l6 (a:y1 x=true)(neg):fu neg (.str x) (.tup [.str "north",.str "east",.str "south",.str "west"])=some (.dat (.bl (if neg then !aY x else aY x))):=by
 have:=RG a AW neg;rw[vO] at this;exact this
section
variable{P:lT}{w:px}{K:gj}{mg:fk->Option cA}{base:qt}
def Be(fn:aS):Prop:=∀x,aZ x->fn [.str x]=some (.dat (.bl (dW x)))
theorem KS(T:Txt mg)(m:fG K mg "WALLS" (.tup [.str "north",.str "east",.str "south",.str "west"]))(o:fG K mg "LONGEST_NAME" (.int 8)){f:eu}{j:lq}(F:bw K "is_name" "is_name" xS f j):∃fn,bb P w K mg base a8 1 f j ["thing"] (aN K fn)/\Be fn:=by
 refine' cx F Ca rfl ?C ?B
 case C =>
  intro cdv A outer s H E hr;have nd:=Ca.nd;cases T
  walk_at "S"
 case B =>
  intro x tx;have iw:=l6 tx.ok false;have hl:cH (.str x)=some x.length:=if_pos (CT tx);refine' dg rfl ?w
  case w =>
   walk_at "w"
   walk_at "wif"
   refine⟨fun hw=>?_,fun hw=>?_⟩
   ·have hw:aY x=true:=hw
    walk_at "w"
    refine kz ?_;delta dW;rw[hw];simp
   ·have hw:aY x=false:=hw
    walk_at "w"
    walk_at "wif"
    refine⟨fun b=>?_,fun b=>?_⟩
    ·walk_at "w"
     refine kz ?_;unfold dW;simp at b;simp;intro k l;omega
    ·walk_at "w"
     refine' B8 (Qv (Ll (Nk (OH (Pq (fun x=>[.no,.dat x]) (fun _=>true) (fun d=>match d with|.str y=>.bl (y.cps.toList.all hZ)|_=>.bj) (LY ?i tx.rF) rfl ?z ?g ?c ?e ?n) (Qg ?q)))))
     case i=>walk_at "v"
     case z=>rw[ab,hQ];exact CT tx
     case g =>
      intro y a Z hd
      rcases hd with rfl|⟨z,rfl⟩<;>rfl
     case c=>intro y a;rfl
     case e =>
      intro y a _;obtain⟨c,p,rfl⟩:=bg.mp a;show kr iH iH (fC (.str "a")) (eC 1) (fC (.str "z")) [.no,.dat (.str ⟨#[c]⟩)]=some (.bl (([c]:List Nat).all hZ),[.no,.dat (.str ⟨#[c]⟩)]);have r:iH (.str "a") (.str ⟨#[c]⟩)=some (.dat (.bl (!decide (([c]:List Nat)<[97])))):=rfl;have t:iH (.str ⟨#[c]⟩) (.str "z")=some (.dat (.bl (!decide (([122]:List Nat)<[c])))):=rfl;have:=zV (o1:=iH) (o2:=iH) (f:=fC (.str "a")) (g:=eC 1) (h:=fC (.str "z")) (Z:=[.no,.dat (.str ⟨#[c]⟩)]) rfl rfl r rfl t;rw[this,LI];simp
     case n=>intro y a;rfl
     case q =>
      have e:((x.cps.toList.map fun c=>Dat.str ⟨#[c]⟩).filter fun _=>true).map (fun d=>match d with|.str y=>Dat.bl (y.cps.toList.all hZ)|_=>Dat.bj)=x.cps.toList.map fun c=>Dat.bl (hZ c):=by
       rw[aac.mpr (by intros;rfl),gd]
       apply ql;intro c p;simp
      refine⟨.dat (.bl (dW x)),?_,_,rfl⟩;show oJ [.lst _]=_;rw[e];show (jM _).map _=_;rw[rQ];simp at b;have k:decide (0<x.length)=true:=by simp;omega
      have l:decide (x.length<9)=true:=by simp;omega
      simp[dW,hw,k,l,ZA,Function.comp]
end
abbrev Fl:=KW fk
def aE(x:fk×Ob):Dat:=.tup [.str x.1,.int x.2.l,.int x.2.b,.int x.2.r,.int x.2.t]
def aJ(rs:Fl):Dat:=.lst (rs.map aE)
section
variable{P:lT}{w:px}{K:gj}{mg:fk->Option cA}{base:qt}
def FT (h:0<=i)(h':i<26):cf (.str "abcdefghijklmnopqrstuvwxyz") (.int i)=some (.str ⟨#[97+i.toNat]⟩):=by
 have key:∀j:Fin 26,(k0 "abcdefghijklmnopqrstuvwxyz").cps.toList[j.val]?=some (97+j.val):=by decide +kernel
 have e:=key ⟨i.toNat,by lia⟩
 have a:=kj e;rw[Wg h] at a;show (if (k0 "abcdefghijklmnopqrstuvwxyz").length<=dk then (dU (k0 "abcdefghijklmnopqrstuvwxyz").cps.toList i).map (λc=>Dat.str ⟨#[c]⟩) else none)=_
 rw[if_pos (by rw[show (k0 "abcdefghijklmnopqrstuvwxyz").length=26 from by decide +kernel];unfold dk;decide),a]
 rfl
def rb{n:Int}{k:Nat}{x:Dat}(h:(dH 0 n)[k]?=some x):(k:Int)<n/\x=.int k:=by
 have a:=(cn.mp h).1;unfold dH at a h;rw[cR] at h;simp only[ab,kH] at a;rw[zd a] at h;simp at h;exact⟨by lia,h.symm⟩
def gr (h:(Z[i]?).bind ownOf=some (false,.lst xs))(a:fa Z=some ([d],Z))(hl:xs.length<dk):mi i o8 fa Z=some (.bj,Z.set i (.own (.lst (xs++[d])))):=by
 delta mi;rw[h];rw[a];show ((Z[i]?).bind ownOf).bind _=_;rw[h];show (if xs.length<dk then some (Dat.bj,Dat.lst (xs++[d])) else none).map _=_
 rw[if_pos hl];rfl
theorem join_one:∀cs:List Nat,(Z7 (k0 "") (cs.map λc=>(⟨#[c]⟩:fk))).cps.toList=cs
 | []=>rfl
 | [c]=>rfl
 | c::d::r=>by
  have e:(k0 "").cps=#[]:=by decide +kernel
  show ((⟨#[c]⟩:fk)++k0 "" ++ Z7 (k0 "") ((d::r).map λc=>(⟨#[c]⟩:fk))).cps.toList=_
  simp only[Wy,e,Wd,join_one (d::r)];simp
def LB(cs):(XC (k0 "") (cs.map λc=>(⟨#[c]⟩:fk))).cps.toList=cs:=by
 delta XC;rw[StrLaws.glued_eq_join];exact join_one cs
theorem D3 (f):∀cs:List a,dB (cs.map λc=>.str (f c))=some (cs.map f)
 | []=>rfl
 | c::cs=>by
  simp only[ka,dB,D3 f cs];rfl
structure sE (c:Nat) (x:fk):Prop where
 fst:x.cps.toList[0]?=some c
 rF:∀a∈x.cps.toList,hZ a=true
 len:x.cps.toList.length<=8
def Oi{i:Int}(h:0<=i)(h':i<26):hZ (97+i.toNat)=true:=by
 delta hZ;simp
 lia
def sE.nm (h:sE c x)(hw:aY x=false):dW x=true:=by
 have b:=h.len;have a:=(cn.mp h.fst).1;have b:x.length<=8:=b;have a:0<x.length:=a;delta dW;simp only[hw,decide_eq_true a,decide_eq_true (by lia:x.length<9),hG.mpr h.rF]
 rfl
theorem IC(x):aY (x++k0 "x")=false:=by
 cases e:aY (x++k0 "x") with
 | false=>rfl
 | true =>
  have key:∀y∈qL,y.cps.toList.getLast?≠some 120:=by decide +kernel
  have:(qL.any λy=>decide (y=x++k0 "x"))=true:=by rw[vO];exact e
  obtain⟨y,a,e⟩:=u2.mp this;have e:y=x++k0 "x":=by simpa using e
  refine absurd ?_ (key y a);simp only[e,Wy,Wd,show (k0 "x").cps.toList=[120] from by decide +kernel]
  simp
end
local macro_rules
| `(tactic| walk_at "0")=>Mq.fs "KY rrarA|Ru rrarA|DE.alt&Sg rrrarA&C5 rrarA"
| `(tactic| walk_at "1")=>Mq.fs "JK rrararrD|JN jrrrrDA|Rb arVhddgD"
section
variable{P:lT}{w:px}{K:gj}{mg:fk->Option cA}{base:qt}
def BP (h:f Z=some (.tup ds,Z1)):alt (jJ f) (kn f) Z=some (ds,Z1):=by
 refine gg ?_;delta jJ;rw[h];rfl
def nG(x y:Ob):Int:=mZ x.r y.r-imax x.l y.l
def kX(x y:Ob):Int:=mZ x.t y.t-imax x.b y.b
def Lp (h:ns≠[]):h9 ns∈ns:=by
 have h0:=qo.mpr h;obtain⟨h1,_⟩:=argBest_gt (λi=>(ns[i]?).getD 0) (ns.length-1)
 delta h9;rw[cm (by omega)]
 exact V6 _
def yf (h:a∈ns):a<=h9 ns:=by
 obtain⟨h1,b⟩:=argBest_gt (λi=>(ns[i]?).getD 0) (ns.length-1)
 obtain⟨j,c,e⟩:=nR h;have:=b j (by lia)
 simp only[cm c,e] at this;exact this
def ne_int(i j):dX true (.int i) (.int j)=some (.dat (.bl (!decide (i=j)))):=by rw[rR kF kF,kI]
def eq_int(i j):dX false (.int i) (.int j)=some (.dat (.bl (decide (i=j)))):=by rw[v_eq kF kF,kI]
def mP (xs:List a)(k:Nat):cutD xs (some (k:Int)) none=xs.drop k:=by
 delta cutD;rw[BQ,Ai]
 by_cases h:k<=xs.length
 ·rw[Nat.min_eq_left h,XM (by rw[se];lia)]
 ·rw[Nat.min_eq_right (by omega),XN (eT _),XN (by omega),Zm]
def mJ (xs:List a)(k:Nat):cutD xs none (some (k:Int))=xs.take k:=by
 delta cutD;simp only[BQ,Ai,aa9,List.take_eq_take_iff]
 lia
def jX (h:f Z=some (d,Z1))(a:g Z1=some (.int i,Z2))(b:eI d (some i) none=some r):kf f (lx g) nN Z=some (r,Z2):=by
 delta kf;rw[h];simp;delta lx;rw[a];show (eI d (some i) none).map _=_;rw[b];rfl
def jv (h:f Z=some (d,Z1))(a:g Z1=some (.int i,Z2))(b:eI d none (some i)=some r):kf f nN (lx g) Z=some (r,Z2):=by
 delta kf;rw[h];delta nN lx;dsimp only[k7];rw[a];show (eI d none (some i)).map _=_;rw[b];rfl
structure R7 (rs:Fl):Prop where
 tx:∀x∈rs,aZ x.1
 nu:∀x∈rs,(-(2 ^ 95)<x.2.l/\x.2.l<2 ^ 95)/\(-(2 ^ 95)<x.2.b/\x.2.b<2 ^ 95)/\(-(2 ^ 95)<x.2.r/\x.2.r<2 ^ 95)/\(-(2 ^ 95)<x.2.t/\x.2.t<2 ^ 95)
 cb:rs.length<=50
def di(rs:Fl):Int:=h9 (rs.map λx=>x.2.r)
def dc(rs:Fl):Int:=h9 (rs.map λx=>x.2.t)
def x6(rs:Fl):Int:=(rs.map λx=>x.2.fK).sum
noncomputable def ax(k:Nat):Str:=if k=0 then "north" else if k=1 then "east" else if k=2 then "south" else "west"
def mL(x y:Ob):Option Nat:=if 0<nG x y/\kX x y=0 then (if y.b=x.t then some 0 else some 2) else if nG x y=0/\0<kX x y then (if y.l=x.r then some 1 else some 3) else none
def cz(k:Nat)(y:Ob):Int:=if k=0 then y.l else if k=1 then -y.b else if k=2 then -y.l else y.b
def mm(ns:List fk):List Str:=match ns.findIdx? (λx=>decide (x=MB ns)) with
 | some i=>ns.drop i++ns.take i
 | none=>ns
theorem Cm{ns:List fk}(a:∀x∈ns,aZ x){m:fk}(hm:aZ m):nD (.str m) (ns.map .str)=ns.findIdx? (λx=>decide (x=m)):=by
 delta nD;induction ns with
 | nil=>rfl
 | cons x ns b =>
  show ((toPy (.str x))::cD (ns.map .str)).findIdx? _=_;have ex:zb (toPy (.str x)) (toPy (.str m))=decide (x=m):=gY x m;simp only[aah,ex,b λy c=>a y (gf _ c)]
def vb{ns:List fk}(a:∀x∈ns,aZ x):bD (.lst (ns.map .str))=true:=jA (by
 show (ns.map Dat.str).all fh=true;rw[hG];intro d hd;obtain⟨x,b,rfl⟩:=bg.mp hd;exact (a x b).ok)
def zZ (h:f Z=some (.lst ds,Z1))(a:fa Z1=some ([d],Z2))(b:bD (.lst ds)=true)(c:bD d=true)(e:nD d ds=some j):qE f fa Z=some (.int (j:Int),Z2):=by
 delta qE;rw[h];dsimp only[k7];rw[a];show (if bD (.lst ds)&&bD d then _ else none)=_
 simp only[b,c,e];rfl
noncomputable def pairD(x:fk×List fk):Dat:=.tup [.str x.1,.lst (x.2.map .str)]
def ki(rs:Fl):Fl:=[("north",⟨0,dc rs,di rs,dc rs+1⟩),("east",⟨di rs,0,di rs+1,dc rs⟩),("south",⟨0,-1,di rs,0⟩),("west",⟨-1,0,0,dc rs⟩)]
def Fr(s:Slot):Prop:=s=.no\/∃d,s=.dat d
def js(x:Ob)(rs:Fl)(k:Nat):List (Int×fk):=(rs.filter λy=>decide (mL x y.2=some k)).map λy=>(cz k y.2,y.1)
noncomputable def da(l:List (Int×fk)):List (Int×fk):=l.mergeSort λa b=>decide (a.1<=b.1)
noncomputable def eV(p:Int×fk):Dat:=.tup [.int p.1,.str p.2]
theorem PX(l:List (Int×fk)):firstsI (l.map eV)=some (l.map (·.1)):=by
 induction l with
 | nil=>rfl
 | cons x l a =>
  rw[ka,firstsI,a];rfl
def K3 (c:(l.map (·.1)).Nodup)(d:l.length<64):qd [.lst (l.map eV)]=some (.own (.lst ((da l).map eV))):=by
 show (firstsI _).bind _=_;rw[PX];show (if _/\_ then _ else none)=_
 rw[if_pos ⟨c,by rw[ab];exact d⟩]
 delta da tF;rw[<-VD (r:=λa b:Int×fk=>decide (a.1<=b.1)) (λa _ b _=>rfl)]
def uo(l):(da l).length=l.length:=(ib _ _).length_eq
def qT(rs:Fl):List (Int×Int):=dm (rs.map (·.2))
def kD (b:Z[i]?=some (.dat (.dR a)))(h:g Z=some (.str k,Z1))(h':dq a k=some d):si i g Z=some (d,Z1):=by
 delta si;rw[b];rw[h];show (dq a k).map _=_;rw[h'];rfl
def dz(a:Nat)(x y:Ob):Bool:=if a=1 then decide (x.l<y.r)&&decide (y.l<x.r) else decide (x.b<y.t)&&decide (y.b<x.t)
def bC(k:Nat)(x y:Ob):Bool:=if k=0 then decide (y.b=x.t)&&dz 1 x y else if k=1 then decide (y.l=x.r)&&dz 2 x y else if k=2 then decide (y.t=x.b)&&dz 1 x y else decide (y.r=x.l)&&dz 2 x y
def gp(rs:Fl)(x:Ob)(k:Nat):List (Int×fk):=(rs.filter λy=>bC k x y.2).map λy=>(cz k y.2,y.1)
def eO(rs:Fl)(x:Ob)(k:Nat):List Str:=if gp rs x k=[] then [ax k] else (da (gp rs x k)).map (·.2)
def rX (h:c Z=some (b,Z1))(a:b=true)(t:WS s Z1 Q):WS (j5 c s s') Z Q:=ck h (λ_=>t) (λz=>absurd (a.symm.trans z) (by decide))
def r6 (h:c Z=some (b,Z1))(a:b=false)(t:WS s' Z1 Q):WS (j5 c s s') Z Q:=ck h (λz=>absurd (a.symm.trans z) (by decide)) (λ_=>t)
def fy(rs:Fl)(x:Ob)(n:Nat):List Str:=(hI n).flatMap λk=>eO rs x k
def rK(rs)(x)(n):fy rs x (n+1)=fy rs x n++eO rs x n:=by
 delta fy;simp only[XW];simp
def MR(rs)(x)(k):eO rs x k≠[]:=by
 delta eO;split
 ·simp
 ·rename_i h;intro z;have z:=congrArg List.length z;rw[ab,uo] at z;exact h (Wo.mp z)
def sN(rs:Fl)(x:Ob):Prop:=∀k,k<4->((gp rs x k).map (·.1)).Nodup
theorem NN(l:Fl):firstsD (l.map aE)=some (l.map (·.1)):=by
 induction l with
 | nil=>rfl
 | cons x l a =>
  rw[ka,firstsD,a];rfl
def qM(rs:Fl):Fl:=rs.mergeSort λa b=>dZ (aE a) (aE b)
def Jj(rs)(f)(h:∀a∈rs,∀b∈rs,dZ (f a) (f b)=dZ (aE a) (aE b)):pF (rs.map f)=(qM rs).map f:=by
 delta pF qM;rw[<-VD (λa c b d=>(h a c b d).symm)]
def p9(rs:Fl):Bool:=decide (∃p∈qT rs,3<(qT rs).count p)
end
theorem C2:∀(l d:List Key),d.Nodup->((l.foldl gV d).length=d.length+l.length ↔ l.Nodup/\∀x∈l,x∉d)
 | [],d,_=>by simp
 | v::l,d,h=>by
  have le:∀(l d:List Key),(l.foldl gV d).length<=d.length+l.length:=by
   intro l;induction l with
   | nil=>intro d;simp
   | cons a l i =>
    intro d;simp;have:=i (gV d a);have e:=BG d a;split at e<;>lia
  simp only[YQ,fv]
  by_cases g:v∈d
  ·have e:gV d v=d:=if_pos (u2.mpr ⟨v,g,by simp⟩)
   constructor
   ·intro z;have:=le l d
    lia
   ·rintro⟨_,z⟩;exact absurd g (z v (fm ..))
  ·have e:gV d v=d++[v]:=if_neg (λz=>by
    obtain⟨a,j,e⟩:=u2.mp z;cases of_decide_eq_true e;exact g j)
   have h':(d++[v]).Nodup:=by
    rw[nk];refine⟨h,by simp,?_⟩
    intro a j b k;cases kq.mp k;exact λz=>g (z ▸ j)
   have i:=C2 l (d++[v]) h';simp only[eH,Vg] at i;rw[e,show d.length+(l.length+1)=d.length+1+l.length from by lia,i,pA]
   constructor
   ·rintro⟨a,b⟩;refine⟨⟨λz=>b v z (by simp),a⟩,?_⟩
    intro x f
    rcases f'.mp f with rfl|f
    ·exact g
    ·exact λz=>b x f (by simp[z])
   ·rintro⟨⟨a,b⟩,c⟩;refine⟨b,λx f z=>?_⟩
    rcases eK.mp z with z|z
    ·exact c x (gf _ f) z
    ·cases kq.mp z;exact a f
def AO(ys):lB ys=ys.length ↔ ys.Nodup:=by
 dsimp only[lB,dG];have e:(hI ys.length).map (λi=>(ro ((ys[i]?).getD VN):Key))=ys.map ro:=by
  apply aaO
  ·simp
  ·intro i h1 b;have:i<ys.length:=by simpa using b
   simp[this]
 rw[e];have:=C2 (ys.map ro) [] VW;simp only[ab,Vm,SS] at this;rw[this];constructor
 ·rintro⟨a,_⟩;exact (gs.mp a).imp λh z=>h (by rw[z])
 ·intro a;exact⟨gs.mpr (a.imp λh z=>h (Sum.inr.inj z)),λx _ z=>by cases z⟩
structure aQ (rs:Fl):Prop where
 ne:rs≠[]
 cb:rs.length<=8
 nm:∀x∈rs,dW x.1=true
 row:∀x∈rs,0<=x.2.l/\x.2.l<x.2.r/\0<=x.2.b/\x.2.b<x.2.t
 nd:(rs.map (·.1)).Nodup
 ap:rs.Pairwise λx y=>Apart x.2 y.2
 ar:x6 rs=di rs*dc rs
def xc (c:x.ok)(d:y.ok)(a:k<4):(mL x y=some k) ↔ bC k x y=true:=by
 delta Ob.ok at c d;have a1:0<nG x y ↔ x.l<y.r/\y.l<x.r:=by
  dsimp only[nG,mZ,imax];split<;>split<;>omega
 have a2:0<kX x y ↔ x.b<y.t/\y.b<x.t:=by
  dsimp only[kX,mZ,imax];split<;>split<;>omega
 have a3:nG x y=0 ↔ y.l=x.r\/y.r=x.l:=by
  dsimp only[nG,mZ,imax];split<;>split<;>omega
 have a4:kX x y=0 ↔ y.b=x.t\/y.t=x.b:=by
  dsimp only[kX,mZ,imax];split<;>split<;>omega
 have a:k=0\/k=1\/k=2\/k=3:=by lia
 delta mL
 rcases a with rfl|rfl|rfl|rfl
 ·rw[show bC 0 x y=(decide (y.b=x.t)&&(decide (x.l<y.r)&&decide (y.l<x.r))) from rfl]
  simp;constructor
  ·intro h;split at h
   ·split at h
    ·lia
    ·cases h
   ·split at h
    ·split at h<;>cases h
    ·cases h
  ·intro h;rw[if_pos (by lia),if_pos h.1]
 ·rw[show bC 1 x y=(decide (y.l=x.r)&&(decide (x.b<y.t)&&decide (y.b<x.t))) from rfl]
  simp;constructor
  ·intro h;split at h
   ·split at h<;>cases h
   ·split at h
    ·split at h
     ·lia
     ·cases h
    ·cases h
  ·intro h;rw[if_neg (by omega),if_pos (by lia),if_pos h.1]
 ·rw[show bC 2 x y=(decide (y.t=x.b)&&(decide (x.l<y.r)&&decide (y.l<x.r))) from rfl]
  simp;constructor
  ·intro h;split at h
   ·split at h
    ·cases h
    ·lia
   ·split at h
    ·split at h<;>cases h
    ·cases h
  ·intro h;rw[if_pos (by lia),if_neg (by omega)]
 ·rw[show bC 3 x y=(decide (y.r=x.l)&&(decide (x.b<y.t)&&decide (y.b<x.t))) from rfl]
  simp;constructor
  ·intro h;split at h
   ·split at h<;>cases h
   ·split at h
    ·split at h
     ·cases h
     ·lia
    ·cases h
  ·intro h;rw[if_neg (by omega),if_pos (by lia),if_neg (by omega)]
def aQ.kZ (F:aQ rs)(a:x∈rs):x.2.r<=di rs/\x.2.t<=dc rs:=⟨yf (bg.mpr ⟨x,a,rfl⟩),yf (bg.mpr ⟨x,a,rfl⟩)⟩
def aQ.ok (F:aQ rs)(a:x∈rs):x.2.ok:=⟨(F.row x a).2.1,(F.row x a).2.2.2⟩
def aQ.hit (F:aQ rs)(f:0<=p)(h2:p<di rs)(g:0<=q)(h4:q<dc rs):∃y∈rs,y.2.l<=p/\p<y.2.r/\y.2.b<=q/\q<y.2.t:=by
 obtain⟨o,d,e⟩:=filled (W:=(di rs).toNat) (H:=(dc rs).toNat) (λo d=>by
  obtain⟨x,c,rfl⟩:=bg.mp d;have a:=F.row x c;have b:=F.kZ c;exact⟨a.1,a.2.1,by omega,a.2.2.1,a.2.2.2,by omega⟩) (gs.mpr F.ap) (by
  rw[gd];have:=F.ar;unfold x6 at this;rw[show (Ob.fK ∘ λx:fk×Ob=>x.2)=λx=>x.2.fK from rfl,this,Wg (by lia),Wg (by lia)]) f (by lia) g (by lia)
 obtain⟨x,c,rfl⟩:=bg.mp d;exact⟨x,c,e⟩
theorem jG{b:Type}{R:b->b->Prop}{l:List b}(h:l.Pairwise R){x y:b}(d:x∈l)(a:y∈l):x=y\/R x y\/R y x:=by
 induction h with
 | nil=>cases d
 | cons e _ f =>
  rcases f'.mp d with rfl|c
  ·rcases f'.mp a with rfl|a
   ·exact .inl rfl
   ·exact .inr (.inl (e y a))
  ·rcases f'.mp a with rfl|a
   ·exact .inr (.inr (e x c))
   ·exact f c a
def iM(rs:Fl)(x:Ob)(k:Nat):Prop:=if k=0 then x.t=dc rs else if k=1 then x.r=di rs else if k=2 then x.b=0 else x.l=0
instance (rs:Fl) (x:Ob) (k:Nat):Decidable (iM rs x k):=by unfold iM;infer_instance
def aQ.inner (F:aQ rs)(f:x∈rs)(g:k<4)(h:¬iM rs x.2 k):gp rs x.2 k≠[]:=by
 have a:=F.row x f;have b:=F.kZ f;have key:∃y∈rs,bC k x.2 y.2=true:=by
  have g:k=0\/k=1\/k=2\/k=3:=by lia
  rcases g with rfl|rfl|rfl|rfl
  ·have h:¬x.2.t=dc rs:=h;obtain⟨y,d,e⟩:=F.hit (p:=x.2.l) (q:=x.2.t) (by omega) (by omega) (by lia) (by lia)
   refine⟨y,d,?_⟩;have c:y.2.b=x.2.t:=by
    rcases jG F.ap f d with rfl|z|z
    ·omega
    ·delta Apart at z;omega
    ·delta Apart at z;omega
   show (decide (y.2.b=x.2.t)&&(decide (x.2.l<y.2.r)&&decide (y.2.l<x.2.r)))=true;simp;omega
  ·have h:¬x.2.r=di rs:=h;obtain⟨y,d,e⟩:=F.hit (p:=x.2.r) (q:=x.2.b) (by lia) (by lia) (by omega) (by omega)
   refine⟨y,d,?_⟩;have c:y.2.l=x.2.r:=by
    rcases jG F.ap f d with rfl|z|z
    ·omega
    ·delta Apart at z;omega
    ·delta Apart at z;omega
   show (decide (y.2.l=x.2.r)&&(decide (x.2.b<y.2.t)&&decide (y.2.b<x.2.t)))=true;simp;omega
  ·have h:¬x.2.b=0:=h;obtain⟨y,d,e⟩:=F.hit (p:=x.2.l) (q:=x.2.b-1) (by omega) (by omega) (by lia) (by omega)
   refine⟨y,d,?_⟩;have c:y.2.t=x.2.b:=by
    rcases jG F.ap f d with rfl|z|z
    ·omega
    ·delta Apart at z;omega
    ·delta Apart at z;omega
   show (decide (y.2.t=x.2.b)&&(decide (x.2.l<y.2.r)&&decide (y.2.l<x.2.r)))=true;simp;omega
  ·have h:¬x.2.l=0:=h;obtain⟨y,d,e⟩:=F.hit (p:=x.2.l-1) (q:=x.2.b) (by lia) (by omega) (by omega) (by omega)
   refine⟨y,d,?_⟩;have c:y.2.r=x.2.l:=by
    rcases jG F.ap f d with rfl|z|z
    ·omega
    ·delta Apart at z;omega
    ·delta Apart at z;omega
   show (decide (y.2.r=x.2.l)&&(decide (x.2.b<y.2.t)&&decide (y.2.b<x.2.t)))=true;simp;omega
 obtain⟨y,d,e⟩:=key;intro z;delta gp at z;rw[We] at z;have:y∈rs.filter λy=>bC k x.2 y.2:=hF.mpr ⟨d,e⟩
 rw[z] at this;cases this
def aQ.outer (F:aQ rs)(hx:x∈rs)(c:k<4)(h:iM rs x.2 k):gp rs x.2 k=[]:=by
 delta gp;rw[We,Zz];intro y d z;have a:=F.row y d;have b:=F.kZ d;have c:k=0\/k=1\/k=2\/k=3:=by lia
 rcases c with rfl|rfl|rfl|rfl
 ·have h:x.2.t=dc rs:=h;have z:(decide (y.2.b=x.2.t)&&_)=true:=z;rw[ey,decide_eq_true_eq] at z;omega
 ·have h:x.2.r=di rs:=h;have z:(decide (y.2.l=x.2.r)&&_)=true:=z;rw[ey,decide_eq_true_eq] at z;omega
 ·have h:x.2.b=0:=h;have z:(decide (y.2.t=x.2.b)&&_)=true:=z;rw[ey,decide_eq_true_eq] at z;omega
 ·have h:x.2.l=0:=h;have z:(decide (y.2.r=x.2.l)&&_)=true:=z;rw[ey,decide_eq_true_eq] at z;omega
def aQ.nodup (F:aQ rs)(x:Ob)(i:k<4):((gp rs x k).map (·.1)).Nodup:=by
 delta gp;rw[gd];refine gs.mpr ?_;have h:rs.Pairwise λy z=>bC k x y.2=true->bC k x z.2=true->cz k y.2≠cz k z.2:=by
  refine VS (λ{y z} f g ap d c e=>?_) F.ap
  have a:=F.row y f;have b:=F.row z g;unfold Apart at ap;have i:k=0\/k=1\/k=2\/k=3:=by lia
  rcases i with rfl|rfl|rfl|rfl
  ·have d:(decide (y.2.b=x.t)&&_)=true:=d;have c:(decide (z.2.b=x.t)&&_)=true:=c;have e:y.2.l=z.2.l:=e;rw[ey,decide_eq_true_eq] at d c;omega
  ·have d:(decide (y.2.l=x.r)&&_)=true:=d;have c:(decide (z.2.l=x.r)&&_)=true:=c;have e:- y.2.b=- z.2.b:=e;rw[ey,decide_eq_true_eq] at d c;omega
  ·have d:(decide (y.2.t=x.b)&&_)=true:=d;have c:(decide (z.2.t=x.b)&&_)=true:=c;have e:- y.2.l=- z.2.l:=e;rw[ey,decide_eq_true_eq] at d c;omega
  ·have d:(decide (y.2.r=x.l)&&_)=true:=d;have c:(decide (z.2.r=x.l)&&_)=true:=c;have e:y.2.b=z.2.b:=e;rw[ey,decide_eq_true_eq] at d c;omega
 have c:=h.filter (λy=>bC k x y.2)
 refine VS (λ{y z} f g q=>?_) c
 exact q (hF.mp f).2 (hF.mp g).2
def aQ.pos (F:aQ rs):0<di rs/\0<dc rs:=by
 obtain⟨x,c⟩:=Zi rs F.ne;have a:=F.row x c;have b:=F.kZ c
 lia
def jU(rs:Fl)(k:Nat):Ob:=if k=0 then ⟨0,dc rs,di rs,dc rs+1⟩ else if k=1 then ⟨di rs,0,di rs+1,dc rs⟩ else if k=2 then ⟨0,-1,di rs,0⟩ else ⟨-1,0,0,dc rs⟩
def HS (F:aQ rs)(g:x∈rs)(c:k<4):js x.2 (ki rs) k=if iM rs x.2 k then [(cz k (jU rs k),ax k)] else []:=by
 have a:=F.row x g;have b:=F.kZ g;have p:=F.pos;have key:∀j,j<4->(decide (mL x.2 (jU rs j)=some k)=(decide (j=k)&&decide (iM rs x.2 k))):=by
  intro j d;rw[pB,ey,decide_eq_true_eq,decide_eq_true_eq,decide_eq_true_eq];have ok:(jU rs j).ok:=by
   have d:j=0\/j=1\/j=2\/j=3:=by lia
   rcases d with rfl|rfl|rfl|rfl
   ·exact⟨show (0:Int)<di rs by omega,show dc rs<dc rs+1 by lia⟩
   ·exact⟨show di rs<di rs+1 by lia,show (0:Int)<dc rs by omega⟩
   ·exact⟨show (0:Int)<di rs by omega,show (-1:Int)<0 by omega⟩
   ·exact⟨show (-1:Int)<0 by omega,show (0:Int)<dc rs by omega⟩
  rw[xc (F.ok g) ok c];have d:j=0\/j=1\/j=2\/j=3:=by lia
  have c:k=0\/k=1\/k=2\/k=3:=by lia
  rcases d with rfl|rfl|rfl|rfl<;>rcases c with rfl|rfl|rfl|rfl<;>simp[bC,dz,jU,iM]<;>omega
 have h:(ki rs).filter (λy=>decide (mL x.2 y.2=some k))=if iM rs x.2 k then [(ax k,jU rs k)] else []:=by
  have e:ki rs=[(ax 0,jU rs 0),(ax 1,jU rs 1),(ax 2,jU rs 2),(ax 3,jU rs 3)]:=rfl;rw[e];simp only[z7,List.filter_nil,key 0 (by decide),key 1 (by decide),key 2 (by decide),key 3 (by decide)]
  have c:k=0\/k=1\/k=2\/k=3:=by lia
  by_cases f:iM rs x.2 k
  ·simp only[decide_eq_true f,if_pos f]
   rcases c with rfl|rfl|rfl|rfl<;>rfl
  ·simp only[decide_eq_false f,if_neg f,Zc];rfl
 delta js;rw[h];split<;>rfl
def L7 (F:aQ rs)(a:x∈rs)(b:k<4):js x.2 (rs++ki rs) k=if iM rs x.2 k then [(cz k (jU rs k),ax k)] else gp rs x.2 k:=by
 have c:js x.2 (rs++ki rs) k=js x.2 rs k++js x.2 (ki rs) k:=by
  delta js;rw[Yj,eW]
 have d:js x.2 rs k=gp rs x.2 k:=by
  delta js gp;congr 1;refine VR λy e=>?_
  rw[pB,decide_eq_true_eq];exact xc (F.ok a) (F.ok e) b
 simp only[c,d,HS F a b]
 by_cases h:iM rs x.2 k
 ·rw[if_pos h,if_pos h,F.outer a b h];rfl
 ·rw[if_neg h,if_neg h,yv]
def IZ (F:aQ rs)(a:x∈rs)(b:k<4):(da (js x.2 (rs++ki rs) k)).map (·.2)=eO rs x.2 k:=by
 rw[L7 F a b];delta eO
 by_cases h:iM rs x.2 k
 ·rw[if_pos h,if_pos (F.outer a b h)];delta da;simp
 ·rw[if_neg h,if_neg (F.inner a b h)]
def aQ.some (F:aQ rs)(x:Ob):sN rs x:=λ_ a=>F.nodup x a
section
variable{P:lT}{w:px}{K:gj}{mg:fk->Option cA}{base:qt}
def p8 (h:dW x=true):aZ x:=by
 delta dW at h;simp only[ey] at h;obtain⟨⟨⟨h0,h1⟩,b⟩,_⟩:=h;refine⟨?_,by lia⟩
 rw[Yf];intro a c;have:=hG.mp b a (WV.mpr c);unfold hZ at this;simp
 lia
def EK (h:∀x∈rs,x<=W)(hw:W∈rs):h9 rs=W:=by
 have h1:=yf hw;have h2:=h _ (Lp (λz=>by rw[z] at hw;cases hw))
 lia
def K1 (c:df a b=true)(d:df b a=true):a=b:=lK (WJ (Vn.mp (lA.mp c)) (Vn.mp (lA.mp d)))
def Gx(a):df a a=true:=lA.mpr (Vu _)
def L1(l):∃A B,l=A++B/\mm l=B++A:=by
 delta mm;split
 ·rename_i i _;exact⟨l.take i,l.drop i,(Vf i l).symm,rfl⟩
 ·exact⟨[],l,rfl,by simp⟩
def lG(k:Nat)(a b:fk×Ob):Bool:=decide (cz k a.2<=cz k b.2)
def ou(rs:Fl)(x:Ob)(k:Nat):Fl:=rs.filter λy=>bC k x y.2
def M3(rs)(x)(k):eO rs x k=if ou rs x k=[] then [ax k] else ((ou rs x k).mergeSort (lG k)).map (·.1):=by
 have e:((ou rs x k).map λy=>(cz k y.2,y.1)).mergeSort (λa b=>decide (a.1<=b.1))=((ou rs x k).mergeSort (lG k)).map λy=>(cz k y.2,y.1)  :=(VD (r:=lG k) (s:=λa b:Int×fk=>decide (a.1<=b.1)) (f:=λy:fk×Ob=>(cz k y.2,y.1)) λa _ b _=>rfl).symm
 show (if (ou rs x k).map (λy=>(cz k y.2,y.1))=[] then _ else (((ou rs x k).map λy=>(cz k y.2,y.1)).mergeSort (λa b=>decide (a.1<=b.1))).map (·.2))=_
 rw[e,gd];simp;rfl
def qV(rs)(x):fy rs x 4=eO rs x 0++eO rs x 1++eO rs x 2++eO rs x 3:=by
 simp only[rK,rK,rK];rfl
def u7 (h:n∈eO rs x k):n=ax k\/∃y∈rs,bC k x y.2=true/\n=y.1:=by
 rw[M3] at h;split at h
 ·exact .inl (kq.mp h)
 ·obtain⟨y,a,rfl⟩:=bg.mp h;have:=hF.mp (Yh.mp a);exact .inr ⟨y,this.1,this.2,rfl⟩
def aQ.vd (F:aQ rs)(c:y∈rs)(d:z∈rs)(e:y.1=z.1):y=z:=by
 have:rs.Pairwise λa b=>a.1≠b.1:=gs.mp F.nd
 rcases jG this c d with h|h|h
 ·exact h
 ·exact absurd e h
 ·exact absurd e.symm h
def E2(k):dW (ax k)=false:=by
 delta ax;split
 ·decide +kernel
 ·split
  ·decide +kernel
  ·split<;>decide +kernel
def RN (c:j<4)(d:k<4)(h:ax j=ax k):j=k:=by
 have key:∀a b:Fin 4,ax a.val=ax b.val->a=b:=by decide +kernel
 exact congrArg Fin.val (key ⟨j,c⟩ ⟨k,d⟩ h)
def xp(x y):bC 0 x y=true ↔ y.b=x.t/\x.l<y.r/\y.l<x.r:=by unfold bC dz;simp
def xZ(x y):bC 1 x y=true ↔ y.l=x.r/\x.b<y.t/\y.b<x.t:=by unfold bC dz;simp
def vj(x y):bC 2 x y=true ↔ y.t=x.b/\x.l<y.r/\y.l<x.r:=by unfold bC dz;simp
def wM(x y):bC 3 x y=true ↔ y.r=x.l/\x.b<y.t/\y.b<x.t:=by unfold bC dz;simp
variable{rs:Fl}
end
def cT(rs:Fl):Ob:=⟨0,0,di rs,dc rs⟩
def allR(rs:Fl):Fl:=rs++ki rs
def EN(rs):ki rs=[(ax 0,wall (cT rs) 0),(ax 1,wall (cT rs) 1),(ax 2,wall (cT rs) 2),(ax 3,wall (cT rs) 3)]:=rfl
def ur(rs):(allR rs).map (·.2)=rs.map (·.2)++walls (cT rs):=by
 delta allR;rw[eW,EN];rfl
def zu (F:aQ rs):(cT rs).ok:=⟨F.pos.1,F.pos.2⟩
def BN (a:k<4):Up (ae k x) (ae k y) ↔ bC k x y=true:=by
 have a:k=0\/k=1\/k=2\/k=3:=by lia
 rcases a with rfl|rfl|rfl|rfl<;>simp[Up,ae,ah,bC,dz]<;>lia
theorem zo(p):∀(rs:Fl),(rs.filter λy=>decide (p∈cX y.2)).length<=(qT rs).count p
 | []=>eT _
 | y::rs=>by
  have ih:=zo p rs;have e:qT (y::rs)=cX y.2++qT rs:=rfl;simp[e]
  by_cases h:p∈cX y.2
  ·rw[List.filter_cons_of_pos (by simpa using h),fv]
   have:=aai.mpr h
   lia
  ·rw[List.filter_cons_of_neg (by simpa using h)]
   lia
def aQ.LG (F:aQ rs)(k:p9 rs=false):aA (cT rs) (rs.map (·.2)) where
 aK:=λo s=>by
  obtain⟨x,c,rfl⟩:=bg.mp s;have a:=F.row x c;have b:=F.kZ c;exact⟨a.1,a.2.1,b.1,a.2.2.1,a.2.2.2,b.2⟩
 ap:=λa u b v=>by
  obtain⟨x,c,rfl⟩:=bg.mp u;obtain⟨y,d,rfl⟩:=bg.mp v
  rcases jG F.ap c d with e|e|e
  ·exact .inl (by rw[e])
  ·exact .inr e
  ·exact .inr e.symm
 hit:=λp q w A B C=>by
  obtain⟨y,d,h⟩:=F.hit w A B C;exact⟨y.2,bg.mpr ⟨y,d,rfl⟩,h⟩
 four:=λx c n D m l z E h=>by
  obtain⟨x,f,rfl⟩:=bg.mp c;obtain⟨n,g,rfl⟩:=bg.mp D;obtain⟨m,i,rfl⟩:=bg.mp l;obtain⟨z,j,rfl⟩:=bg.mp E;have rn:=F.row n g;have rm:=F.row m i;have rz:=F.row z j;delta p9 at k;rw[decide_eq_false_iff_not] at k;obtain⟨G,H,I,J,K,L⟩:=h;have key:=zo (x.2.r,x.2.t) rs;have M:[x,n,m,z].length<=(rs.filter λy=>decide ((x.2.r,x.2.t)∈cX y.2)).length:=by
   refine Wq ?_ ?_
   ·have N:x≠n:=λe=>by subst e;lia
    have O:x≠m:=λe=>by subst e;omega
    have P:x≠z:=λe=>by subst e;omega
    have Q:n≠m:=λe=>by subst e;omega
    have R:n≠z:=λe=>by subst e;omega
    have S:m≠z:=λe=>by subst e;lia
    simp[N,O,P,Q,R,S]
   ·intro y d;rw[hF,decide_eq_true_eq];simp at d
    rcases d with rfl|rfl|rfl|rfl
    ·exact⟨f,by simp[cX]⟩
    ·exact⟨g,by simp[cX,G,H]⟩
    ·exact⟨i,by simp[cX,I,J]⟩
    ·exact⟨j,by simp[cX,K,L]⟩
  simp only[fv,Vm] at M;exact k ⟨(x.2.r,x.2.t),aai.mp (by omega),by omega⟩
def aQ.Fd (F:aQ rs):((allR rs).map (·.2)).Nodup:=by
 rw[ur,nk];refine⟨?_,?_,?_⟩
 ·refine gs.mpr (F.ap.imp_of_mem λ{x y} c hy h e=>?_)
  have a:=F.row x c;unfold Apart at h;rw[<-e] at h;omega
 ·have i:∀{j k:Nat},j<4->k<4->j≠k->wall (cT rs) j≠wall (cT rs) k:=λg m d e=>d (kc (zu F) g m e)
  have e:walls (cT rs)=[wall (cT rs) 0,wall (cT rs) 1,wall (cT rs) 2,wall (cT rs) 3]:=rfl;rw[e];simp[i (show 0<4 by decide) (show 1<4 by decide) (by decide),i (show 0<4 by decide) (show 2<4 by decide) (by decide),i (show 0<4 by decide) (show 3<4 by decide) (by decide),i (show 1<4 by decide) (show 2<4 by decide) (by decide),i (show 1<4 by decide) (show 3<4 by decide) (by decide),i (show 2<4 by decide) (show 3<4 by decide) (by decide)]
 ·intro a n b f e;subst e;obtain⟨x,c,rfl⟩:=bg.mp n;have r:=F.row x c;have b:=F.kZ c;simp[walls] at f
  rcases f with h|h|h|h<;>(have o:=congrArg Ob.l h;have p:=congrArg Ob.b h;have q:=congrArg Ob.r h;have s:=congrArg Ob.t h;dsimp only[wN,wE,wS,wW,cT] at o p q s;omega)
def kM:y∈allR rs ↔ y∈rs\/∃k,k<4/\y=(ax k,wall (cT rs) k):=by
 delta allR;rw[eK,EN];refine or_congr Iff.rfl ?_;constructor
 ·intro h;simp at h
  rcases h with h|h|h|h
  ·exact⟨0,by decide,h⟩
  ·exact⟨1,by decide,h⟩
  ·exact⟨2,by decide,h⟩
  ·exact⟨3,by decide,h⟩
 ·rintro⟨k,a,rfl⟩;have a:k=0\/k=1\/k=2\/k=3:=by lia
  rcases a with rfl|rfl|rfl|rfl<;>simp
def aQ.NQ (F:aQ rs)(a:y∈allR rs)(b:z∈allR rs)(e:y.1=z.1):y=z:=by
 rcases kM.mp a with a|⟨j,c,rfl⟩<;>rcases kM.mp b with b|⟨k,d,rfl⟩
 ·exact F.vd a b e
 ·have:=F.nm y a;rw[e,E2] at this;contradiction
 ·have:=F.nm z b;rw[<-e,E2] at this;contradiction
 ·have:=RN c d e;subst this;rfl
def lP(rs:Fl)(o:Ob):Str:=(((allR rs).find? λy=>decide (y.2=o)).map (·.1)).getD ""
theorem aQ.mr (F:aQ rs)(b:y∈allR rs):lP rs y.2=y.1:=by
 delta lP;cases e:(allR rs).find? λz=>decide (z.2=y.2) with
 | none =>
  have:=Vc.mp e y b;simp at this
 | some z =>
  have c:=z0 e;have a:=Wi e;have a:z.2=y.2:=by simpa using a
  have nd:=F.Fd;have:z=y:=by
   rcases jG (gs.mp nd) c b with q|q|q
   ·exact q
   ·exact absurd a q
   ·exact absurd a.symm q
  rw[this];rfl
def aQ.vz (F:aQ rs)(b:y∈allR rs):y.2.ok:=by
 have hp:=F.pos
 rcases kM.mp b with h|⟨j,a,rfl⟩
 ·exact F.ok h
 ·have a:j=0\/j=1\/j=2\/j=3:=by lia
  rcases a with rfl|rfl|rfl|rfl
  ·exact⟨show (0:Int)<di rs by omega,show dc rs<dc rs+1 by lia⟩
  ·exact⟨show di rs<di rs+1 by lia,show (0:Int)<dc rs by omega⟩
  ·exact⟨show (0:Int)<di rs by omega,show (-1:Int)<0 by omega⟩
  ·exact⟨show (-1:Int)<0 by omega,show (0:Int)<dc rs by omega⟩
def aQ.Ct (F:aQ rs)(a:y∈rs)(c:k<4):Apart y.2 (wall (cT rs) k):=by
 have r:=F.row y a;have b:=F.kZ a;have c:k=0\/k=1\/k=2\/k=3:=by lia
 rcases c with rfl|rfl|rfl|rfl<;>simp[Apart,wall,wN,wE,wS,wW,cT]<;>omega
def aQ.Kq (F:aQ rs)(c:y∈allR rs)(d:z∈allR rs):y=z\/Apart y.2 z.2:=by
 have hp:=F.pos
 rcases kM.mp c with h|⟨j,a,rfl⟩<;>rcases kM.mp d with h'|⟨k,b,rfl⟩
 ·rcases jG F.ap h h' with e|e|e
  ·exact .inl e
  ·exact .inr e
  ·exact .inr e.symm
 ·exact .inr (F.Ct h b)
 ·exact .inr (F.Ct h' a).symm
 ·have b:k=0\/k=1\/k=2\/k=3:=by lia
  have a:j=0\/j=1\/j=2\/j=3:=by lia
  rcases a with rfl|rfl|rfl|rfl<;>rcases b with rfl|rfl|rfl|rfl<;>first|exact .inl rfl|(right;simp[Apart,wall,wN,wE,wS,wW,cT];done)|(right;simp[Apart,wall,wN,wE,wS,wW,cT];omega)
def aQ.rJ (F:aQ rs)(m:x∈rs)(d:k<4):eO rs x.2 k=(bM ((allR rs).map (·.2)) x.2 k).map (lP rs):=by
 have j:=IZ F m d;have o:(allR rs).filter (λy=>decide (mL x.2 y.2=Option.some k))=(allR rs).filter λy=>decide (Up (ae k x.2) (ae k y.2)):=VR λy c=>decide_eq_decide.mpr ((xc (F.ok m) (F.vz c) d).trans (BN d).symm)
 have g:∀y∈(allR rs).filter (λy=>decide (Up (ae k x.2) (ae k y.2))),y∈allR rs/\bC k x.2 y.2=true:=λy c=>by
  obtain⟨p,q⟩:=hF.mp c;exact⟨p,(BN d).mp (of_decide_eq_true q)⟩
 change ((((allR rs).filter λy=>decide (mL x.2 y.2=Option.some k)).map λy=>(cz k y.2,y.1)).mergeSort λa b=>decide (a.1<=b.1)).map (·.2)=_ at j
 rw[o] at j;rw[<-j];delta bM;have t:((allR rs).map (·.2)).filter (λy=>decide (Up (ae k x.2) (ae k y)))=((allR rs).filter λy=>decide (Up (ae k x.2) (ae k y.2))).map (·.2):=aa2
 rw[t];generalize hL:(allR rs).filter (λy=>decide (Up (ae k x.2) (ae k y.2)))=L at g
 have n:∀a∈allR rs,∀b∈allR rs,bC k x.2 a.2=true->bC k x.2 b.2=true->(cz k a.2<=cz k b.2 ↔ (ae k a.2).l<=(ae k b.2).l):=λa h b i qa qb=>by
  rcases F.Kq h i with e|e
  ·subst e;exact⟨λ_=>Wr _,λ_=>Wr _⟩
  ·have o1:=F.vz h;have o2:=F.vz i;delta Apart at e;unfold Ob.ok at o1 o2;have d:k=0\/k=1\/k=2\/k=3:=by lia
   rcases d with rfl|rfl|rfl|rfl<;>simp[cz,bC,dz,ae,ah] at *<;>omega
 have u:(L.map λy=>(cz k y.2,y.1)).mergeSort (λa b=>decide (a.1<=b.1))=(L.mergeSort (lG k)).map λy=>(cz k y.2,y.1):=(VD (r:=lG k) (s:=λa b:Int×fk=>decide (a.1<=b.1)) (f:=λy:fk×Ob=>(cz k y.2,y.1)) λa _ b _=>rfl).symm
 have v:(L.map (·.2)).mergeSort (λa b=>decide ((ae k a).l<=(ae k b).l))=(L.mergeSort (lG k)).map (·.2):=(VD λa h b i=>by
  unfold lG;exact decide_eq_decide.mpr (n a (g a h).1 b (g b i).1 (g a h).2 (g b i).2)).symm
 simp only[u,v,gd];refine ql λy c=>?_
 have c:=(g y (Yh.mp c)).1;exact (F.mr c).symm
def aQ.PY (F:aQ rs)(a:x∈rs):fy rs x.2 4=(br (rs.map (·.2)++walls (cT rs)) x.2).map (lP rs):=by
 rw[qV,F.rJ a (by decide),F.rJ a (by decide),F.rJ a (by decide),F.rJ a (by decide),ur]
 delta br;simp only[eW]
noncomputable def fY(web:List (fk×List fk))(n:fk):List Str:=((web.find? λp=>decide (p.1=n)).map (·.2)).getD []
noncomputable def ie(a b:fk):Bool:=!df b a
theorem ny:Order ie where
 fB:=λa=>by unfold ie;rw[Gx];rfl
 tr:=λa b c d e=>by
  delta ie at *;simp only[um] at *;cases h:df c a with
  | false=>rfl
  | true =>
   have t:=xV b a;rw[d,WR] at t;rw[vt _ _ _ h t] at e;contradiction
 cV:=λa b h=>by
  delta ie;cases d:df b a with
  | false=>exact .inl rfl
  | true =>
   cases e:df a b with
   | false=>exact .inr rfl
   | true=>exact absurd (K1 e d) h
theorem dD (nd:(web.map (·.1)).Nodup)(a:p∈web):fY web p.1=p.2:=by
 delta fY;cases e:web.find? λz=>decide (z.1=p.1) with
 | none =>
  have:=Vc.mp e p a;simp at this
 | some z =>
  have c:=z0 e;have b:z.1=p.1:=by simpa using Wi e
  have:z=p:=by
   rcases jG (gs.mp nd) c a with q|q|q
   ·exact q
   ·exact absurd b q
   ·exact absurd b.symm q
  rw[this];rfl
def DL(l):gN l (mm l):=by
 obtain⟨A,B,a,b⟩:=L1 l;exact⟨A,B,a,b⟩
def cQ(web:List (fk×List fk)):Prop:=mV (web.map (·.1)) ax (fY web) ie
def aQ.xK (F:aQ rs)(o:p9 rs=false)(g:web.Perm (rs.map λy=>(y.1,mm (fy rs y.2 4)))):cQ web:=by
 have T:=F.LG o;have nd:=F.Fd;rw[ur] at nd;have d:∀{x:fk×Ob},x∈rs->x∈allR rs:=λh=>kM.mpr (.inl h)
 have q:(rs.map (·.2)).map (lP rs)=rs.map (·.1):=by
  rw[gd];exact ql λx c=>F.mr (d c)
 have r:(λk=>lP rs (wall (cT rs) k))=ax:=by
  funext k
  by_cases s:k<4
  ·exact F.mr (kM.mpr (.inr ⟨k,s,rfl⟩))
  ·have t:wall (cT rs) k=wall (cT rs) 3:=by
    delta wall;rw[if_neg (by omega),if_neg (by omega),if_neg (by omega)]
    rfl
   have u:ax k=ax 3:=by
    delta ax;rw[if_neg (by omega),if_neg (by omega),if_neg (by omega)]
    rfl
   simp only[t,u];exact F.mr (kM.mpr (.inr ⟨3,by decide,rfl⟩))
 have i:∀{a:Ob},a∈rs.map (·.2)++walls (cT rs)->∃y∈allR rs,y.2=a:=λ{a} h=>by
  rw[<-ur] at h;exact bg.mp h
 have j:=T.xK (ν:=lP rs) (zu F) nd (λa f b v e=>by
  obtain⟨y,l,rfl⟩:=i f;obtain⟨z,m,rfl⟩:=i v;simp only[F.mr l,F.mr m] at e;rw[F.NQ l m e]) (λa f=>by
  obtain⟨x,c,rfl⟩:=bg.mp f;simp only[F.mr (d c),<-F.PY c];exact dD (p:=(x.1,fy rs x.2 4)) (by rw[gd];exact F.nd) (bg.mpr ⟨x,c,rfl⟩)) ny
 rw[q,r] at j;have pn:(web.map (·.1)).Perm (rs.map (·.1)):=by
  have:=g.map (·.1);rw[gd] at this;exact this
 refine j.turn pn λn w=>?_
 obtain⟨x,c,rfl⟩:=bg.mp w;simp only[dD (web:=rs.map λy=>(y.1,fy rs y.2 4)) (p:=(x.1,fy rs x.2 4)) (by rw[gd];exact F.nd) (bg.mpr ⟨x,c,rfl⟩),dD (p:=(x.1,mm (fy rs x.2 4))) (pn.nodup_iff.mpr F.nd) (g.mem_iff.mpr (bg.mpr ⟨x,c,rfl⟩))]
 exact DL _
local macro_rules
| `(tactic| walk_at "U")=>Mq.fs "HF A|RM rarA"
| `(tactic| walk_at "1")=>Mq.fs "PB ardrrrrA"
| `(tactic| walk_at "0")=>Mq.fs "OE hrVddrU|GJ rrarA|KN rarA|zH rrrarA|I0 rarA|Na DD"
| `(tactic| walk_at "T")=>Mq.fs "Ld hrVddrU|R6 hrVddrU|Iz DD"
| `(tactic| walk_at "I")=>Mq.fs "Ou rarrA|JJ arVdd|Mr arVdd|FC a0"
| `(tactic| walk_at "Z")=>Mq.fs "Kv aNrLFrE|Mm aNrLFr|Qi rVhddrDU|N2 wTS|P7"
section
variable{P:lT}{w:px}{K:gj}{mg:fk->Option cA}{base:qt}
noncomputable abbrev DX:List Str:=["north","east","south","west"]
noncomputable abbrev lF:Dat:=.tup [.str "north",.str "east",.str "south",.str "west"]
def uf(fn:aS):Prop:=∀k,k<4->fn [.str (ax k)]=some (.dat (.str (ax ((k+1)%4))))
def JO(T:Txt mg)(w1:fG K mg "WALLS" lF)(w2:u5 K mg "WALLS" DX)(F:bw K "follower" "follower" uX f a):∃fn,bb P w K mg base a8 1 f a ["wall"] (aN K fn)/\uf fn:=by
 refine' cx F EY rfl ?C ?B
 case C =>
  intro cdv A outer s H E hr;cases T
  walk_at "S"
 case B =>
  intro k hk;have:k=0\/k=1\/k=2\/k=3:=by lia
  rcases this with rfl|rfl|rfl|rfl<;>rfl
def MP(ns:List fk)(k:Nat):eI (.lst (ns.map .str)) (some (k:Int)) none=some (.own (.lst ((ns.drop k).map .str))):=by
 show some (Res.own (.lst (cutD (ns.map Dat.str) (some (k:Int)) none)))=_;rw[mP,Vp]
def Oa(ns:List fk)(k:Nat):eI (.lst (ns.map .str)) none (some (k:Int))=some (.own (.lst ((ns.take k).map .str))):=by
 show some (Res.own (.lst (cutD (ns.map Dat.str) none (some (k:Int)))))=_;rw[mJ,Vo]
def eY (h:c Z=some (b,Z1))(a:b=false)(n:WS g Z1 Q):WS (lS (j5 c s uF) g) Z Q :=
 ag (ck h (λz=>by rw[a] at z;cases z) λ_=>aB (ak n))
def DK(fn:aS):Prop:=∀p:fk×List fk,dW p.1=true->aZ p.1->fn [pairD p]=some (.dat (.bl true))
def NF(T:Txt mg)(g:bq P w K mg base "is_name" 1 (aN K c))(i:Be c)(F:bw K "is_pair" "is_pair" uD f d):∃fn,bb P w K mg base a8 2 f d ["thing"] (aN K fn)/\DK fn:=by
 refine' cx F Et rfl ?C ?B
 case C =>
  intro cdv A outer s H E hr;cases T
  walk_at "S"
 case B =>
  intro p h j;have e:=i p.1 j;rw[h] at e;refine' dg rfl ?w
  case w =>
   refine' eY ?a rfl ?b
   case a=>walk_at "v"
   case b=>exact ag (bc (v_res (uW (af (aF (aa (a9 rfl rfl rfl rfl) ai) e) rfl) (rj (a9 rfl rfl rfl rfl) rfl))) ⟨_,rfl⟩)
def M6(room:fk)(ring names:List fk):Prop:=3<=ring.length/\ring.length<100/\(∀n∈ring,n∈names/\n≠room)/\ring.Nodup/\aZ room/\(∀n∈ring,aZ n)/\∀n∈names,aZ n
def Bz(fn:aS):Prop:=∀(room:fk) (ring names:List fk),M6 room ring names->fn [.str room,.lst (ring.map .str),.lst (names.map .str)]=some (.dat (.bl true))
def jF{ns:List fk}(a:∀x∈ns,aZ x){m:fk}(b:aZ m)(neg:Bool):fu neg (.str m) (.lst (ns.map .str))=some (.dat (.bl (if neg then !decide (m∈ns) else decide (m∈ns)))):=by
 rw[AI b.ok (λy c=>(a y c).ok)]
 have:(ns.any λy=>decide (y=m))=decide (m∈ns):=by
  rw[pB];simp
 rw[this]
def Fm (a:aZ x)(b:aZ y):dX true (.str x) (.str y)=some (.dat (.bl (!decide (x=y)))):=by rw[rR (iP a.ok) (iP b.ok),gY]
def nc{a:Type}{enc:a->Dat}{caps:List (Option Nat)}{fi:IF}{g:GF}{fe:DF}{xs:List a}{Z Z1 Z2:DS}(put:a->DS)(b:fi Z=some (xs.map enc,Z1))(c:bu none caps Z1=Z2)(d:xs.length<=dk)
 (e:∀x∈xs,∀Z,(Z=cv caps Z2\/∃y,Z=put y)->g (enc x) Z=some (put x))(f:∀x∈xs,fe (put x)=some (.bl true,put x))(h:∀x∈xs,noOwn (put x)=true) :
  cg oJ (iY (jf (eN caps none fi g (λZ=>some (true,Z)) fe)) mC) Z=some (.dat (.bl true),Z2):=by
 refine aF (aa (af (fw put (λ_=>.bl true) b c d e f h) rfl) ai) ?_
 have:=Dd (λ_:a=>true) xs
 rw[show xs.all (λ_=>true)=true from by simp] at this
 exact this
theorem K7(T:Txt mg)(w3:fG K mg "FEWEST_NEIGHBOURS" (.int 3))(hs:mg "set"=none){f:eu}{d:lq}(F:bw K "is_ring" "is_ring" xE f d):∃fn,bb P w K mg base a8 1 f d ["room","ring","names"] (aN K fn)/\Bz fn:=by
 refine' cx F Aw rfl ?C ?B
 case C =>
  intro cdv A outer s H E hr;have nd:=Aw.nd;cases T
  walk_at "S"
 case B =>
  rintro room ring names ⟨h1,h2,e,j,k,g,l⟩;refine' dg rfl ?w
  case w =>
   have sz:ring.length<=sizeLine:=by unfold dk;lia
   refine' eY ?a ?D ?L
   case a=>walk_at "v"
   case D=>simp;omega
   refine' eY (kS (iE (af (nc (fun n=>[.no,.dat (.str n),.dat (.lst (names.map .str)),.dat (.str room)]) (cS rfl) rfl sz ?G ?I ?J) rfl) rfl)) rfl ?b
   case G=>intro y hy Z hd;rcases hd with rfl|⟨z,rfl⟩<;>rfl
   case I =>
    intro n c;have h:=jF l (g n c) false;have i:=Fm (g n c) k;rw[decide_eq_true (e n c).1] at h;rw[decide_eq_false (e n c).2] at i;exact uW (af (ao rfl rfl h) rfl) (af (ao rfl rfl i) rfl)
   case J=>intro n c;rfl
   case b =>
    refine ag (bc (ao (Em (fun x=>x) rfl (by omega)) (eJ rfl rfl) oC) (kz ?_))
    rw[Wv,(AO ring).mpr j,ab];exact decide_eq_true rfl
def bV:List Str:=[ax 0,ax 1,ax 2,ax 3]
structure bU (web:List (fk×List fk)):Prop where
 cb:1<=web.length/\web.length<=8
 nm:∀p∈web,dW p.1=true
 nd:(web.map (·.1)).Nodup
 rg:∀p∈web,3<=p.2.length/\p.2.Nodup/\∀n∈p.2,(n∈web.map (·.1)\/n∈bV)/\n≠p.1
def DR(fn:aS):Prop:=∀web:List (fk×List fk),bU web->fn [.lst (web.map pairD)]=some (.dat (.bl true))
def fP:∀n∈bV,aZ n:=by
 intro n a;simp[bV] at a
 rcases a with rfl|rfl|rfl|rfl<;>exact⟨by decide +kernel,by decide +kernel⟩
def bU.txt (h:bU web)(a:n∈web.map (·.1)\/n∈bV):aZ n:=by
 rcases a with a|a
 ·obtain⟨p,b,rfl⟩:=bg.mp a;exact p8 (h.nm p b)
 ·exact fP n a
theorem o5 [DecidableEq b]:∀{l m:List b},l.Nodup->(∀x∈l,x∈m)->l.length<=m.length
 | [],_,_,_=>qh _
 | a::l,m,c,h=>by
  have e:=o5 (l:=l) (m:=m.erase a) (pA.mp c).2 λx d=>(ZS λz=>(pA.mp c).1 (by rw[<-z];exact d)).mpr (h x (gf _ d))
  rw[Zn (h a fm)] at e;have:=Zy (h a fm);simp
  lia
def bU.len (h:bU web)(b:p∈web):p.2.length<=12:=by
 have a:=(h.rg p b);have:p.2.length<=(web.map (·.1)++bV).length:=by
  exact o5 a.2.1 λn c=>eK.mpr (a.2.2 n c).1
 rw[eH,ab] at this;have:=h.cb;have:bV.length=4:=rfl
 lia
theorem IW(T:Txt mg)(w1:fG K mg "WALLS" lF)(w3:fG K mg "MOST_ROOMS" (.int 8))(hs:mg "set"=none){e g:aS}(k:bq P w K mg base "is_pair" 2 (aN K e))(l:DK e)(m:bq P w K mg base "is_ring" 1 (aN K g))(o:Bz g){f:eu}{i:lq}(F:bw K "has_form" "has_form" vn f i):∃fn,bb P w K mg base a8 3 f i ["web"] (aN K fn)/\DR fn:=by
 refine' cx F DZ rfl ?C ?B
 case C =>
  intro cdv A outer s H E hr;have nd:=DZ.nd;cases T
  walk_at "S"
 case B =>
  intro web h;refine' dg rfl ?w
  case w =>
   have hl:=h.cb;have sz:web.length<=sizeLine:=by unfold dk;lia
   refine' eY ?a ?D ?a3
   case a=>walk_at "v"
   case D=>simp;lia
   refine' eY (kS (iE (af (nc (enc:=pairD) (xs:=web) (fun p=>[.no,.dat (pairD p)]) (cS rfl) rfl sz ?G ?I ?J) rfl) rfl)) rfl ?b
   case G=>intro y j Z hd;rcases hd with rfl|⟨z,rfl⟩<;>rfl
   case I =>
    intro p c;have:=l p (h.nm p c) (p8 (h.nm p c))
    walk_at "v"
   case J=>intro n d;rfl
   case b =>
    show WS _ [.dat (.lst (web.map pairD)),.no,.no] _;refine' ag (aI (Z2:=[.dat (.lst (web.map pairD)),.own (.lst ((web.map (·.1)).map .str)),.no]) (fw (enc:=pairD) (xs:=web) (fun p=>[.no,.dat (.str p.1),.dat (.lst (p.2.map .str))]) (fun p=>.str p.1) (cS rfl) rfl sz ?L ?M ?N) ?O (ak ?Q))
    case L=>intro y j Z hd;rcases hd with rfl|⟨z,rfl⟩<;>rfl
    case M=>intro p c;rfl
    case N=>intro p c;rfl
    case O=>rw[gd];rfl
    case Q =>
     refine' eY (aP (ao (Em (cs:=web.map (·.1)) (fun x=>x) rfl ?R) (eJ rfl rfl) (ne_int _ _))) ?S ?U
     case R=>rw[ab];omega
     case S =>
      simp only[Wv,(AO _).mpr h.nd,ab];simp
     case U =>
      refine' ag (aI (Z2:=[.dat (.lst (web.map pairD)),.dat (.lst ((web.map (·.1)).map .str)),.own (.lst ((web.map (·.1)++bV).map .str))]) (ao rfl (af (aF (aa rfl ai) rfl) rfl) (nP ?V)) ?W (ak ?X))
      case V=>simp[dk];lia
      case W=>rw[eW];rfl
      case X =>
       refine' ag (bc (nc (enc:=pairD) (xs:=web) (fun p=>[.no,.dat (.str p.1),.dat (.lst (p.2.map .str)),.dat (.lst ((web.map (·.1)++bV).map .str))]) (cS rfl) rfl sz ?Y ?f5 ?f6) ⟨_,rfl⟩)
       case Y=>intro y j Z hd;rcases hd with rfl|⟨z,rfl⟩<;>rfl
       case f6=>intro p c;rfl
       case f5 =>
        intro p c;have r:=h.rg p c;have:=o p.1 p.2 (web.map (·.1)++bV) ⟨r.1,by have:=h.len c;lia,fun n d=>⟨eK.mpr (r.2.2 n d).1,(r.2.2 n d).2⟩,r.2.1,p8 (h.nm p c),fun n d=>h.txt (r.2.2 n d).1,fun n d=>h.txt (eK.mp d)⟩
        walk_at "v"
abbrev aT:=List (fk×List fk)
noncomputable def dj(web:aT):List (fk×Dat):=web.map fun p=>(p.1,.lst (p.2.map .str))
def bh(web:aT):Dat:=.dR (dj web)
theorem rB{c:Type}{l:List (fk×c)}(nd:(l.map (·.1)).Nodup){p q:fk×c}(f:p∈l)(g:q∈l)(e:p.1=q.1):p=q:=by
 obtain⟨i,d⟩:=ZO.mp f;obtain⟨j,b⟩:=ZO.mp g;cases oQ nd (a:=p.1) (by rw[cR,d];rfl) (by rw[cR,b,e];rfl)
 rw[d] at b;exact Option.some.inj b
theorem ly{web:aT}(nd:(web.map (·.1)).Nodup){p:fk×List fk}(a:p∈web):dq (dj web) p.1=some (.lst (p.2.map .str)):=by
 have e:(web.find? fun q=>decide (q.1=p.1))=some p:=by
  cases e:web.find? fun q=>decide (q.1=p.1) with
  | none=>exact absurd (Vc.mp e p a) (by simp)
  | some q =>
   have b:=z0 e;have c:=Wi e;rw[rB nd b a (by simpa using c)]
 delta dq dj;rw[aa8];show ((web.find? fun q=>decide (q.1=p.1)).map _).map _=_
 rw[e];rfl
theorem Lo(web:aT)(n:fk):(dq (dj web) n).isSome=decide (n∈web.map (·.1)):=by
 delta dq dj;rw[pB];simp
theorem uk(web:aT)(n:fk)(neg:Bool):fu neg (.str n) (bh web)=some (.dat (.bl (if neg then !decide (n∈web.map (·.1)) else decide (n∈web.map (·.1))))):=by
 rw[<-Lo];rfl
theorem fH{a:Type}{l:List a}{k:Nat}{x:a}(h:l[k]?=some x):l.take (k+1)=l.take k++[x]:=by rw[List.take_succ,h];rfl
def A0(fn:aS):Prop:=∀web:aT,bU web->(∀p∈web,∀q∈web,q.1∈p.2->p.1∈q.2)->fn [bh web]=some (.dat (.bl true))
theorem RB(T:Txt mg){f:eu}{o:lq}(F:bw K "ties_are_shared" "ties_are_shared" vG f o):∃fn,bb P w K mg base a8 1 f o ["rings"] (aN K fn)/\A0 fn:=by
 refine' cx F Fb rfl ?D ?B
 case D =>
  intro cdv A outer s H E hr;cases T;have fz:j8 "rings":=⟨trivial⟩
  walk_at "S"
 case B =>
  intro web h hs;refine' dg rfl ?w
  case w =>
   refine' ag (dO (fun _ Z=>∃g a,Fr g/\Fr a/\Z=[.dat (bh web),g,a]) rfl ⟨_,_,.inl rfl,.inl rfl,rfl⟩ ?st ?C)
   case C=>rintro _ ⟨g,a,r,b,rfl⟩;exact ak (ag (bc rfl ⟨_,rfl⟩))
   case st =>
    rintro k x c _ ⟨g,a,r,b,rfl⟩;unfold dj at c;rw[gd,cR] at c;obtain⟨p,ep,rfl⟩:=hH.mp c;have i:=eS ep;refine⟨[.dat (bh web),.dat (.str p.1),a],by rcases r with rfl|⟨d,rfl⟩<;>rfl,?_⟩
    refine ag (dO (fun _ Z=>∃a,Fr a/\Z=[.dat (bh web),.dat (.str p.1),a]) (cS (kD rfl rfl (ly h.nd i))) ⟨_,b,rfl⟩ ?_ ?_)
    ·rintro j y t _ ⟨a,b,rfl⟩;rw[cR] at t;obtain⟨n,v,rfl⟩:=hH.mp t;have z:=eS v;refine⟨[.dat (bh web),.dat (.str p.1),.dat (.str n)],by rcases b with rfl|⟨d,rfl⟩<;>rfl,?_⟩
     by_cases l:n∈web.map (·.1)
     ·obtain⟨q,m,rfl⟩:=bg.mp l;have e:=uk web q.1 false;rw[decide_eq_true l] at e;have u:=jF (fun x c=>h.txt ((h.rg q m).2.2 x c).1) (h.txt (.inl (bg.mpr ⟨p,i,rfl⟩))) true
      rw[decide_eq_true (hs p i q m z)] at u;exact eY (v_and (aP (ao rfl rfl e)) (xC rfl (aP (ao rfl (kD rfl rfl (ly h.nd m)) u)))) rfl (aB ⟨_,.inr ⟨_,rfl⟩,rfl⟩)
     ·have e:=uk web n false;rw[decide_eq_false l] at e;exact eY (v_and (aP (ao rfl rfl e)) (sS rfl rfl)) rfl (aB ⟨_,.inr ⟨_,rfl⟩,rfl⟩)
    ·rintro _ ⟨a,b,rfl⟩;exact ak (aB ⟨_,_,.inr ⟨_,rfl⟩,b,rfl⟩)
noncomputable def dA(l:List (List fk))(k:List fk):List (List fk):=if k∈l then l else l++[k]
def dy(a:List (List fk)):List (List fk):=a.foldl dA []
noncomputable def bQ(l:List (List fk)):gP:=l.map (·,.bl true)
def J'(l)(k):oU (bQ l) k (.bl true)=bQ (dA l k):=by
 have e:(fD (bQ l) k).isSome=decide (k∈l):=by
  dsimp only[fD,bQ];rw[pB];simp
 delta oU dA;rw[e]
 by_cases h:k∈l
 ·rw[if_pos (by simpa using h),if_pos h]
  delta bQ;rw[gd];refine ql λx _=>?_
  show (if x=k then (x,Dat.bl true) else (x,Dat.bl true))=_
  split<;>rfl
 ·rw[if_neg (by simpa using h),if_neg h]
  delta bQ;simp only[eW];rfl
def Ep(l)(k):dy (l++[k])=dA (dy l) k:=by
 delta dy;rw[Ys];rfl
theorem CV(l):(dy l).length<=l.length:=by
 have:∀(l a:List (List fk)),(l.foldl dA a).length<=a.length+l.length:=by
  intro l;induction l with
  | nil=>intro a;exact eT _
  | cons k l b =>
   intro a;have h:=b (dA a k);have:(dA a k).length<=a.length+1:=by unfold dA;split<;>simp
   simp;show (l.foldl dA (dA a k)).length<=_
   lia
 have:=this l [];simp at this;exact this
theorem Qs(l):(∀k,k∈dy l ↔ k∈l)/\(dy l).Nodup:=by
 have:∀(l b:List (List fk)),b.Nodup->(∀k,k∈l.foldl dA b ↔ k∈b\/k∈l)/\(l.foldl dA b).Nodup:=by
  intro l;induction l with
  | nil=>intro b h;exact⟨λk=>by simp,h⟩
  | cons a l g =>
   intro b h;have i:(dA b a).Nodup:=by
    delta dA;split
    ·exact h
    ·rename_i f;rw[nk];exact⟨h,by simp,λx j y m e=>f (by rw[kq.mp m] at e;rw[<-e];exact j)⟩
   obtain⟨c,d⟩:=g _ i;refine⟨λk=>?_,d⟩
   show k∈l.foldl dA (dA b a) ↔ _;rw[c k];delta dA;split
   ·rename_i f
    grind
   ·grind
 obtain⟨c,d⟩:=this l [] VW;exact⟨λk=>by rw[show dy l=l.foldl dA [] from rfl,c k];simp,d⟩
theorem K8:∀{l:List (List fk)},l.Nodup->dy l=l:=by
 have:∀(l b:List (List fk)),(b++l).Nodup->l.foldl dA b=b++l:=by
  intro l;induction l with
  | nil=>intro b h;simp
  | cons a l c =>
   intro b h;have d:a∉b:=λz=>(nk.mp h).2.2 a z a fm rfl
   show l.foldl dA (dA b a)=_;rw[show dA b a=b++[a] from if_neg d,c _ (by rw[pe];exact h),pe]
   rfl
 intro l h;exact this l [] h
def Cj (h:f Z=some (.bl true,Z))(d:a Z=some (k,Z))(b:(Z[i]?).bind ownOf=some (false,.bf c (bQ l)))(h3:l.length<1000):qy i a f Z=some (.next (Z.set i (.own (.bf false (bQ (dA l k)))))):=by
 delta qy;simp[h];simp[b];rw[d];show ((Z[i]?).bind ownOf).bind _=_;rw[b];show (if (bQ l).length<dk then _ else none)=_
 rw[if_pos (by unfold bQ dk;rw[ab];lia),J']
 rfl
def bZ(web:aT):List (List fk):=web.flatMap λp=>(eQ p.2).map λq=>[p.1,q.1,q.2]
def qZ(fn:aS):Prop:=∀web:aT,bU web->cQ web->fn [bh web]=some (.own (.bf false (bQ (bZ web))))
theorem v9 (h:∀p∈web,p.2.length<=12):(bZ web).length<=12*web.length:=by
 delta bZ;induction web with
 | nil=>simp
 | cons p web a =>
  have h1:=a λq b=>h q (gf _ b)
  have h2:=h p fm;simp only[VQ,eH,ab,EW,fv]
  lia
def pL (nd:(web.map (·.1)).Nodup):bZ web=(corners (web.map (·.1)) (fY web)).map λc=>[c.1,c.2.1,c.2.2]:=by
 delta bZ corners;rw[aaM,aaN];refine congrArg _ (ql λp a=>?_)
 simp only[dD nd a,gd];rfl
def FU (h:bU web)(hw:cQ web):(bZ web).Nodup:=by
 rw[pL h.nd];refine gs.mpr (List.Pairwise.imp (λ{a b} n e=>n ?_) (kN hw.C))
 obtain⟨a1,a2,a3⟩:=a;obtain⟨b1,b2,b3⟩:=b;simp at e;simp only[e.1,e.2.1,e.2.2]
def A5 (h:Z[i]?=some (.dat (.lst (ns.map .str))))(hz:ns.length<=100):sk (iY (eC i) (iY (jf (cK g8 (jf (kf (eC i) (lx (fC (.int 1))) nN)) (jf (kf (eC i) nN (lx (fC (.int 1))))))) mC)) Z=some ((eQ ns).map λq=>.tup [.str q.1,.str q.2],Z):=by
 have a:eC i Z=some (.lst (ns.map .str),Z):=by unfold eC;rw[h]
 have b:=MP ns 1;have c:=Oa ns 1;delta sk;rw[aa a (aa (af (ao (af (jX a rfl b) rfl) (af (jv a rfl c) rfl) (nP (by unfold dk;simp;omega))) rfl) ai)]
 show some (kP (ns.map .str) ((ns.drop 1).map .str++(ns.take 1).map .str),Z)=_;delta kP eQ;rw[<-eW,aby,gd];rfl
def QX(T:Txt mg)(r:mg "zip"=none)(F:bw K "corners_of" "corners_of" v7 f u):∃fn,bb P w K mg base a8 1 f u ["rings"] (aN K fn)/\qZ fn:=by
 refine' cx F Eb rfl ?J ?B
 case J =>
  intro cdv A outer s H E hr;cases T;have fz:j8 "rings":=⟨trivial⟩;have tp:mI "corners":=⟨trivial⟩
  walk_at "S"
 case B =>
  intro web h hw;have hl:∀p∈web,p.2.length<=12:=λp m=>h.len m
  have cb:=h.cb;refine' dg rfl ?w
  case w =>
   refine' ag (aI rfl rfl (ak ?_));refine' ag (dO (λk Z=>∃o l c e,Fr o/\Fr l/\Fr c/\Fr e/\Z=[.dat (bh web),.own (.bf false (bQ (dy (bZ (web.take k))))),o,l,c,e]) rfl ⟨_,_,_,_,.inl rfl,.inl rfl,.inl rfl,.inl rfl,rfl⟩ ?st ?C)
   case C =>
    rintro _ ⟨o,l,c,e,v,z,g,i,rfl⟩;simp only[ab,show (dj web).length=web.length from ab ..,r4,K8 (FU h hw)]
    exact ak (ag (bc rfl ⟨_,rfl⟩))
   case st =>
    rintro k x t _ ⟨o,l,c,e,v,z,g,i,rfl⟩;unfold dj at t;rw[gd,cR] at t;obtain⟨p,ep,rfl⟩:=hH.mp t;have m:=eS ep;have hlp:=hl p m;have hk:=(cn.mp ep).1;have r:=v9 (web:=web.take k) λq M=>hl q (VX M)
    rw[mv] at r;refine⟨[.dat (bh web),.own (.bf false (bQ (dy (bZ (web.take k))))),.dat (.str p.1),l,c,e],by rcases v with rfl|⟨d,rfl⟩<;>rfl,?_⟩
    refine' ag (aI (Z2:=[.dat (bh web),.own (.bf false (bQ (dy (bZ (web.take k))))),.dat (.str p.1),.dat (.lst (p.2.map .str)),c,e]) (v_res (kD rfl rfl (ly h.nd m))) ?a (ak ?b))
    case a=>rcases z with rfl|⟨d,rfl⟩<;>rfl
    case b =>
     refine ag (dO (λj Z=>∃c e,Fr c/\Fr e/\Z=[.dat (bh web),.own (.bf false (bQ (dy (bZ (web.take k)++((eQ p.2).take j).map λq=>[p.1,q.1,q.2])))),.dat (.str p.1),.dat (.lst (p.2.map .str)),c,e]) (A5 rfl (by lia)) ⟨_,_,g,i,by simp only[Y',W9,yv]⟩ ?_ ?_)
     ·rintro j y D _ ⟨c,e,g,i,rfl⟩;rw[cR] at D;obtain⟨q,eq,rfl⟩:=hH.mp D;generalize G:dy (bZ (web.take k)++((eQ p.2).take j).map λq=>[p.1,q.1,q.2])=L
      have I:L.length<1000:=by
       rw[<-G];refine VG (CV _) ?_;simp only[eH,ab,mv,EW]
       lia
      refine⟨[.dat (bh web),.own (.bf false (bQ L)),.dat (.str p.1),.dat (.lst (p.2.map .str)),.dat (.str q.1),.dat (.str q.2)],by rcases g with rfl|⟨d,rfl⟩<;>rcases i with rfl|⟨d,rfl⟩<;>rfl,?_⟩
      refine ag ⟨_,Cj (k:=[p.1,q.1,q.2]) rfl rfl rfl I,ak (aB ⟨.dat (.str q.1),.dat (.str q.2),.inr ⟨_,rfl⟩,.inr ⟨_,rfl⟩,?_⟩)⟩;rw[fH eq,eW,<-pe];show _=[_,Slot.own (.bf false (bQ (dy (_++[_])))),_,_,_,_];rw[Ep,G];rfl
     ·rintro _ ⟨c,e,g,i,rfl⟩;refine ak (aB ⟨.dat (.str p.1),.dat (.lst (p.2.map .str)),c,e,.inr ⟨_,rfl⟩,.inr ⟨_,rfl⟩,g,i,?_⟩);rw[fH ep,show bZ (web.take k++[p])=bZ (web.take k)++(eQ p.2).map λq=>[p.1,q.1,q.2] from by unfold bZ;simp,ab,r4]
def HU(l)(k):(fD (bQ l) k).isSome=decide (k∈l):=by
 delta fD bQ;rw[pB];simp
def vx (h:a Z=some (k,Z))(c:(Z[i]?).bind iU=some (.bf b (bQ l))):lR neg i a Z=some (.dat (.bl (if neg then !decide (k∈l) else decide (k∈l))),Z):=by
 delta lR;rw[h];show ((Z[i]?).bind iU).bind _=_;rw[c,<-HU];rfl
def fq(n):aY n=true ↔ n∈bV:=by
 simp[aY,bV,ax,or_assoc]
def fQ (h:k<4):ax k∈bV:=by
 have:k=0\/k=1\/k=2\/k=3:=by lia
 rcases this with rfl|rfl|rfl|rfl<;>simp[bV]
def oj (h:n∈bV):∃k,k<4/\n=ax k:=by
 simp[bV] at h
 rcases h with rfl|rfl|rfl|rfl
 ·exact⟨0,by decide,rfl⟩
 ·exact⟨1,by decide,rfl⟩
 ·exact⟨2,by decide,rfl⟩
 ·exact⟨3,by decide,rfl⟩
def Cf(fn:aS):Prop:=∀(cs:List (List fk)) (x n m:fk),aZ x->aZ n->aZ m->(∀k,k<4->n=ax k->m∈bV->m=ax ((k+1)%4))->(n∉bV->[n,m,x]∈cs)->(m∉bV->[m,x,n]∈cs)->fn [.tup [.str x,.str n,.str m],.bf true (bQ cs)]=some (.dat (.bl true))
def RX(T:Txt mg)(w1:fG K mg "WALLS" lF)(p:bq P w K mg base "follower" 1 (aN K c))(q:uf c)(F:bw K "corner_closes" "corner_closes" vE f g):∃fn,bb P w K mg base a8 2 f g ["corner","corners"] (aN K fn)/\Cf fn:=by
 refine' cx F CB rfl ?C ?B
 case C =>
  intro cdv A outer s H E hr;cases T
  walk_at "S"
 case B =>
  intro cs x n m tx i d r t u;refine' dg rfl ?w
  case w =>
   refine' ag (aI rfl rfl (ak (ag (aI rfl rfl (ak (ag (aI rfl rfl (ak ?_))))))));refine ag (ck (oG (aP (ao rfl rfl (l6 i.ok false))) (aP (ao rfl rfl (l6 d.ok false)))) (λh=>?_) λh=>aB (ak ?_))
   ·simp[fq] at h;obtain⟨k,j,rfl⟩:=oj h.1;have e:=q k j;refine ag (bc (ao rfl (af (aF (aa rfl ai) e) rfl) (oX d.ok (fP _ (fQ (Vd _ (by decide)))).ok)) (kz ?_))
    exact decide_eq_true (r k j rfl h.2)
   ·refine' eY (oG (aP (ao rfl rfl (l6 i.ok true))) (aP (vx rfl rfl))) ?a ?b
    case a =>
     by_cases l:n∈bV
     ·rw[(fq n).mpr l];rfl
     ·rw[decide_eq_true (t l)];simp
    case b =>
     refine ag (bc (v_res (D7 (af (ao rfl rfl (l6 d.ok false)) rfl) (af (vx rfl rfl) rfl))) (kz ?_))
     by_cases o:m∈bV
     ·rw[(fq m).mpr o];rfl
     ·rw[decide_eq_true (u o)];simp
def Ac(fn:aS):Prop:=∀web:aT,bU web->cQ web->fn [bh web]=some (.dat (.bl true))
def o4 (h:bU web):[x,n,m]∈bZ web ↔ x∈web.map (·.1)/\bL (fY web x) n m:=by
 rw[pL h.nd,<-fL,bg];constructor
 ·rintro⟨⟨a,b,c⟩,d,e⟩;simp at e;simp only[<-e.1,<-e.2.1,<-e.2.2];exact d
 ·exact λd=>⟨_,d,rfl⟩
def G0(T:Txt mg)(D:bq P w K mg base "corners_of" 1 (aN K r))(G:qZ r)(I:bq P w K mg base "corner_closes" 2 (aN K t))(J:Cf t)(F:bw K "corners_close" "corners_close" xq f v):∃fn,bb P w K mg base a8 3 f v ["rings"] (aN K fn)/\Ac fn:=by
 refine' cx F DB rfl ?L ?B
 case L =>
  intro cdv A outer s H E hr;have nd:=DB.nd;cases T;have tp:mI "corners":=⟨trivial⟩
  walk_at "S"
 case B =>
  intro web h hw;have M:=G web h hw;have hl:=v9 λp N=>h.len N
  have cb:=h.cb;refine' dg rfl ?w
  case w =>
   refine' ag (aI (aF (aa rfl ai) M) rfl (ak ?_));refine' ag (bc (nc (xs:=bZ web) (λk=>[.no,.dat (.tup (k.map .str)),.dat (.bf true (bQ (bZ web)))]) (Z1:=[.dat (bh web),.dat (.bf true (bQ (bZ web)))]) ?a rfl ?b ?c ?d ?e) ⟨_,rfl⟩)
   case a =>
    show some (jV (bQ (bZ web)),_)=_;dsimp only[jV,bQ];rw[gd];rfl
   case b=>unfold dk;lia
   case c=>intro y o Z hd;rcases hd with rfl|⟨z,rfl⟩<;>rfl
   case e=>intro y o;rfl
   case d =>
    intro y o;have u:=o;rw[pL h.nd] at u;obtain⟨⟨x,n,m⟩,_,rfl⟩:=bg.mp u;obtain⟨g,i⟩:=(o4 h).mp o;have tx:∀z∈fY web x,aZ z:=λz O=>h.txt (hw.C.mem x g z O)
    have:=J (bZ web) x n m (h.txt (.inl g)) (tx n i.mem.1) (tx m i.mem.2) (λk Q R l=>by
     obtain⟨j,S,rfl⟩:=oj l;rw[hw.ww x g k j Q S (by rw[<-R];exact i)]) (λq=>by
     have q:=(hw.C.mem x g n i.mem.1).resolve_right q;exact (o4 h).mpr ⟨q,hw.C.j2 x g n m i q⟩) (λl=>by
     have l:=(hw.C.mem x g m i.mem.2).resolve_right l;exact (o4 h).mpr ⟨l,hw.C.j7 x g n m i l⟩)
    exact af (aF (aa rfl (aa rfl ai)) this) rfl
def Hm (nd:ns.Nodup)(s:bL ns p wl):∃j,ns.findIdx? (λx=>decide (x=wl))=some j/\cf (.lst (ns.map .str)) (.int ((j:Int)-1))=some (.str p):=by
 obtain⟨i,a,b⟩:=s;have hi:=(cn.mp a).1;obtain⟨c,d⟩:=cn.mp b;refine⟨(i+1)%ns.length,Wp.mpr ⟨c,by simpa using d,λk hk=>?_⟩,?_⟩
 ·intro z;have:=oQ nd (i:=k) (cn.mpr ⟨by lia,by simpa using z⟩) b
  lia
 ·simp only[lh];delta dU;have:ff (ns.map Dat.str).length (((i+1)%ns.length:Nat)-1:Int)=some i:=by
   rw[ab];delta ff
   by_cases hl:i+1<ns.length
   ·rw[Vx hl,if_pos (by lia),if_pos (by lia)]
    congr 1
    lia
   ·have:i+1=ns.length:=by lia
    rw[this,XU,if_neg (by omega),if_pos (by omega)]
    congr 1;omega
  simp only[this,k7,cR,a];rfl
def yU (h:c Z=some (false,Z1))(q:Q (.next Z1)):WS (gy c fb (n+1)) Z Q:=by
 refine⟨_,?_,q⟩;show (c Z).bind _=_;rw[h];rfl
def Am (h:c Z=some (true,Z1))(a:fb Z1=some (.next Z2))(q:WS (gy c fb n) Z2 Q):WS (gy c fb (n+1)) Z Q:=by
 obtain⟨o,e,q⟩:=q;refine⟨o,?_,q⟩;show (c Z).bind _=_;rw[h];show (fb Z1).bind _=_;rw[a];exact e
theorem PH (D:List fk->fk->Slot->DS)(stop:∀d a t,a∉rooms->c (D d a t)=some (false,D d a t))(go:∀d a p t,Fr t->a∈rooms->bL (ring a) p wl->d.length<500->c (D d a t)=some (true,D d a t)/\∃t',Fr t'/\fb (D d a t)=some (.next (D (d++[a]) p t')))(r:Row rooms ring wl a l) :
  ∀(d:List fk) (t:Slot) (n:Nat),Fr t->l.length<n->d.length+l.length<500->(∀e t',Q (.next (D (d++l) e t')))->WS (gy c fb n) (D d a t) Q:=by
 induction r with
 | @stop b h =>
  intro d t n g f _ q;obtain⟨n,rfl⟩:∃m,n=m+1:=⟨n-1,by simp at f;omega⟩
  refine yU (stop d _ t h) ?_;have:=q b t;rw[yv] at this;exact this
 | @go a p l h s _ j =>
  intro d t n g f hl q;simp at f hl;obtain⟨n,rfl⟩:∃m,n=m+1:=⟨n-1,by omega⟩
  obtain⟨k,t',o,u⟩:=go d a p t g h s (by omega)
  refine Am k u (j _ _ _ o (by lia) (by simp only[eH,Vg];omega) λe i=>?_)
  rw[pe];exact q e i
def Ez(fn:aS):Prop:=∀(web:aT) (wl a:fk) (l:List fk),bU web->aZ wl->Row (web.map (·.1)) (fY web) wl a l->l.length<100->fn [bh web,.str wl,.str a]=some (.own (.lst (l.map .str)))
def J9(T:Txt mg)(F:bw K "row_along" "row_along" uV f i):∃fn,bb P w K mg base a8 1 f i ["rings","wall","first"] (aN K fn)/\Ez fn:=by
 refine' cx F Cg rfl ?B ?C
 case B =>
  intro cdv A outer s H E hr;cases T;have fz:j8 "rings":=⟨trivial⟩
  walk_at "S"
 case C =>
  intro web wl a l h k r hl;refine' dg rfl ?w
  case w =>
   refine' ag (aI (bA ai (qh _)) rfl (ak (ag (aI rfl rfl (ak ?_)))));refine' ag (PH (λc b t=>[.dat (bh web),.dat (.str wl),.dat (.str a),.own (.lst (c.map .str)),.dat (.str b),t]) ?stop ?go r [] .no pO (.inl rfl) ?n ?m ?q)
   case n=>unfold pO;omega
   case m=>simp only[Vm];omega
   case q=>exact λa' t'=>ak (ag (bc rfl ⟨_,rfl⟩))
   case stop =>
    intro c b t B;have e:=uk web b false;rw[decide_eq_false B] at e;exact aP (ao rfl rfl e)
   case go =>
    intro c b p t u B o ha;have e:=uk web b false;rw[decide_eq_true B] at e;obtain⟨x,g,rfl⟩:=bg.mp B;rw[dD h.nd g] at o;have tr:∀z∈x.2,aZ z:=λz v=>h.txt ((h.rg x g).2.2 z v).1
    obtain⟨j,y,D⟩:=Hm (h.rg x g).2.1 o;refine⟨aP (ao rfl rfl e),.dat (.lst (x.2.map .str)),.inr ⟨_,rfl⟩,?_⟩;refine tH (sY (gr rfl rfl (by unfold dk;rw[ab];omega))) (tP (tH (qD (Z2:=[.dat (bh web),.dat (.str wl),.dat (.str a),.own (.lst ((c++[x.1]).map .str)),.dat (.str x.1),.dat (.lst (x.2.map .str))]) (v_res (kD rfl rfl (ly h.nd g))) ?_) (tP (tH (qD (v_res (a9 rfl (af (ao (zZ rfl (aa rfl ai) (vb tr) (iP k.ok) ((Cm tr k).trans y)) rfl (vN rfl)) rfl) rfl D)) rfl) (tP rfl)))))
    rw[eW]
    rcases u with rfl|⟨d,rfl⟩<;>rfl
def y6{web:aT}(nd:(web.map (·.1)).Nodup)(keep:fk×List fk->Bool):((web.filter keep).map (·.1)).Nodup:=oi (List.Sublist.map _ rp) nd
def uQ (p:l.Perm a):bW l=bW a:=tN ((ib _ _).trans p) (ET l)
theorem xB (h:l.length<64):mz [.lst (l.map .str)]=some (.own (.lst ((bW l).map .str))):=by
 show (match dB (l.map .str) with
  | some a=>if a.length<64 then some (Res.own (.lst ((bW a).map .str))) else none
  | none=>m9 [.lst (l.map .str)])=_
 have:=pN (λx:fk=>x) l
 rw[Wv] at this;rw[this];exact if_pos h
theorem wU:∀l:List fk,gx (l.map Dat.str) (l.map Dat.str)=true
 | []=>rfl
 | x::l=>by
  show (cJ (.str x) (.str x)&&gx (l.map Dat.str) (l.map Dat.str))=true;rw[wU l,gY];simp
def Aa(fn:aS):Prop:=∀(web:aT) (k:Nat),k<4->bU web->cQ web->fn [bh web,.str (ax k)]=some (.dat (.bl true))
def HC(T:Txt mg)(I:bq P w K mg base "corners_of" 1 (aN K d))(J:qZ d)(L:bq P w K mg base "follower" 1 (aN K e))(M:uf e)(N:bq P w K mg base "row_along" 1 (aN K g))(O:Ez g)(F:bw K "wall_has_row" "wall_has_row" vw f r):∃fn,bb P w K mg base a8 2 f r ["rings","wall"] (aN K fn)/\Aa fn:=by
 refine' cx F zN rfl ?B ?C
 case B =>
  intro cdv A outer s H E hr;have nd:=zN.nd;cases T;have fz:j8 "rings":=⟨trivial⟩
  walk_at "S"
 case C =>
  intro web k i h hw;obtain⟨x,j,t,l,Q,u,m⟩:=hw.row k i;have cb:=h.cb;have sz:web.length<=sizeLine:=by unfold dk;lia
  have v:=fP _ (fQ i);have R:=M k i;have hll:l.length<=8:=wd (o5 u λy o=>((m y).mp o).1) (by rw[ab];lia)
  have D:(dj web).map (λk=>Dat.str k.1)=web.map λp=>Dat.str p.1:=by unfold dj;rw[gd];rfl
  have S:(web.filter λp=>decide ([p.1,ax k,ax ((k+1)%4)]∈bZ web)).map (·.1)=[x]:=by
   refine List.perm_singleton.mp ((ri (y6 h.nd _) (by simp)).mpr λa=>?_)
   rw[bg,kq];constructor
   ·rintro⟨p,b,rfl⟩;rw[hF,decide_eq_true_eq,o4 h] at b;exact (t p.1 b.2.1).mp b.2.2
   ·rintro rfl;obtain⟨p,b,rfl⟩:=bg.mp j;exact⟨p,hF.mpr ⟨b,decide_eq_true ((o4 h).mpr ⟨j,(t _ j).mpr rfl⟩)⟩,rfl⟩
  have c:l.Perm ((web.filter λp=>decide (ax k∈p.2)).map (·.1)):=by
   refine (ri u (y6 h.nd _)).mpr λa=>?_
   rw[m];constructor
   ·rintro⟨U,B⟩;rw[bg];obtain⟨p,b,rfl⟩:=bg.mp U;rw[dD h.nd b] at B;exact⟨p,hF.mpr ⟨b,decide_eq_true B⟩,rfl⟩
   ·intro B;obtain⟨p,b,rfl⟩:=bg.mp B;rw[hF,decide_eq_true_eq] at b;exact⟨bg.mpr ⟨p,b.1,rfl⟩,by rw[dD h.nd b.1];exact b.2⟩
  refine' dg rfl ?w
  case w =>
   show WS _ [.dat (bh web),.dat (.str (ax k)),.no,.no,.no] _;refine' ag (aI (aF (aa rfl ai) (J web h hw)) rfl (ak ?_));show WS _ [.dat (bh web),.dat (.str (ax k)),.own (.bf false (bQ (bZ web))),.no,.no] _;refine' ag (aI (Z2:=[.dat (bh web),.dat (.str (ax k)),.dat (.bf false (bQ (bZ web))),.own (.lst ([x].map .str)),.no]) (kh (enc:=λp:fk×List fk=>.str p.1) (xs:=web) (λp=>[.no,.dat (.str p.1),.dat (.bf false (bQ (bZ web))),.dat (.str (ax k))]) (λp=>decide ([p.1,ax k,ax ((k+1)%4)]∈bZ web)) (λp=>.str p.1) ?V rfl sz ?W ?X ?Y ?a5) ?a6 (ak ?a7))
   case V=>show some ((dj web).map λk=>Dat.str k.1,_)=_;rw[D]
   case W=>intro y o Z hd;rcases hd with rfl|⟨z,rfl⟩<;>rfl
   case X =>
    intro p b;refine aP (vx (k:=[p.1,ax k,ax ((k+1)%4)]) ?_ rfl);unfold xj;rw[aa rfl (aa rfl (aa (af (aF (aa rfl ai) R) rfl) ai))];rfl
   case Y=>intro p b _;rfl
   case a5=>intro p b;rfl
   case a6=>rw[<-S,gd];rfl
   case a7 =>
    refine' eY (aP (ao (eJ rfl rfl) rfl (ne_int _ _))) rfl ?zz
    case zz =>
     have tr:∀p∈web,∀z∈p.2,aZ z:=λp b z q=>h.txt ((h.rg p b).2.2 z q).1
     generalize hT:(web.filter λp=>decide (ax k∈p.2)).map (·.1)=td at c
     have htl:=c.length_eq;refine' ag (aI (Z2:=[.dat (bh web),.dat (.str (ax k)),.dat (.bf false (bQ (bZ web))),.own (.lst ([x].map .str)),.own (.lst (td.map .str))]) (kh (enc:=λp:fk×List fk=>.str p.1) (xs:=web) (λp=>[.no,.dat (.str p.1),.dat (bh web),.dat (.str (ax k))]) (λp=>decide (ax k∈p.2)) (λp=>.str p.1) ?b1 rfl sz ?b2 ?b3 ?b4 ?b5) ?b6 (ak ?b7))
     case b1=>show some ((dj web).map λk=>Dat.str k.1,_)=_;rw[D]
     case b2=>intro y o Z hd;rcases hd with rfl|⟨z,rfl⟩<;>rfl
     case b3=>intro p b;exact aP (ao rfl (kD rfl rfl (ly h.nd b)) (jF (tr p b) v false))
     case b4=>intro p b _;rfl
     case b5=>intro p b;rfl
     case b6=>rw[<-hT,gd];rfl
     case b7 =>
      have tl:∀z∈bW l,aZ z:=λz q=>h.txt (.inl ((m z).mp ((ib _ _).mem_iff.mp q)).1)
      have G:=vb tl;refine ag (bc (ao (af (aF (aa (af (aF (aa rfl (aa rfl (aa (a9 rfl rfl rfl rfl) ai))) (O web (ax k) x l h v Q (by omega))) rfl) ai) (xB (by omega))) rfl) (af (aF (aa rfl ai) (xB (by omega))) rfl) (v_eq G (by rw[<-uQ c];exact G))) (kz ?_))
      rw[<-uQ c];show cJ (.lst _) (.lst _)=true;rw[l9,wU]
def Ba(fn:aS):Prop:=∀ring names:List fk,(∀n∈ring,aZ n)->(∀n∈names,aZ n)->ring.length<=100->fn [.lst (ring.map .str),.lst (names.map .str)]=some (.dat (.bl (ring.any λy=>decide (y∈names))))
def LQ(T:Txt mg)(h:mg "any"=none)(F:bw K "has_one_of" "has_one_of" vf f e):∃fn,bb P w K mg base a8 1 f e ["ring","names"] (aN K fn)/\Ba fn:=by
 refine' cx F Bl rfl ?C ?B
 case C =>
  intro cdv A outer s H E hr;have nd:=Bl.nd;cases T
  walk_at "S"
 case B =>
  intro ring names i j hl;refine' dg rfl ?w
  case w =>
   refine' ag (bc (aF (aa (af (fw (λn=>[.no,.dat (.str n),.dat (.lst (names.map .str))]) (λn=>.bl (decide (n∈names))) (cS rfl) rfl ?a ?b ?c ?d) rfl) ai) (Gm (λn=>decide (n∈names)) ring)) ⟨_,rfl⟩)
   case a=>unfold dk;lia
   case b=>intro y hy Z hd;rcases hd with rfl|⟨z,rfl⟩<;>rfl
   case c=>intro n g;exact af (ao rfl rfl (jF j (i n g) false)) rfl
   case d=>intro n g;rfl
def M8(n:Nat):(dH 0 (n:Int)).length=n:=by simp[dH]
abbrev lE(web:aT):Nat->List Str:=reach (web.map (·.1)) bV (fY web)
def Q5 (nd:(web.map (·.1)).Nodup)(k:Nat):lE web (k+1)=bV++(web.filter λp=>p.2.any λy=>decide (y∈lE web k)).map (·.1):=by
 show bV++(web.map (·.1)).filter _=_;rw[aa2];congr 2;refine VR λp a=>?_
 show (fY web p.1).any _=_;rw[dD nd a]
theorem Od (h:n∈lE web k):n∈web.map (·.1)\/n∈bV:=by
 cases k with
 | zero=>exact .inr h
 | succ k =>
  rcases eK.mp h with h|h
  ·exact .inr h
  ·exact .inl (hF.mp h).1
def Fs(fn:aS):Prop:=∀web:aT,bU web->cQ web->fn [bh web]=some (.dat (.bl true))
def Pe(T:Txt mg)(w1:fG K mg "WALLS" lF)(o:bq P w K mg base "has_one_of" 1 (aN K g))(q:Ba g)(F:bw K "all_reached" "all_reached" xf f j):∃fn,bb P w K mg base a8 2 f j ["rings"] (aN K fn)/\Fs fn:=by
 refine' cx F DM rfl ?D ?B
 case D =>
  intro cdv A outer s H E hr;have nd:=DM.nd;cases T;have fz:j8 "rings":=⟨trivial⟩
  walk_at "S"
 case B =>
  intro web h hw;have cb:=h.cb;have sz:web.length<=sizeLine:=by unfold dk;lia
  have l:(dj web).map (λk=>Dat.str k.1)=web.map λp=>Dat.str p.1:=by unfold dj;rw[gd];rfl
  have t:(dj web).length=web.length:=ab ..;have tr:∀p∈web,∀z∈p.2,aZ z:=λp a z i=>h.txt ((h.rg p a).2.2 z i).1
  have b:∀k,∀z∈lE web k,aZ z:=λk z i=>h.txt (Od i)
  refine' dg rfl ?w
  case w =>
   refine' ag (aI rfl rfl (ak ?_));refine' ag (dO (λk Z=>∃c,Fr c/\Z=[.dat (bh web),.own (.lst ((lE web k).map .str)),c]) (lH (aa (eJ rfl (congrArg some t)) ai) ?r) ⟨_,.inl rfl,rfl⟩ ?st ?C)
   case r=>lia
   case st =>
    rintro k x u _ ⟨c,m,rfl⟩;have b:=b k;rw[Q5 h.nd];generalize lE web k=R at *;obtain⟨_,rfl⟩:=rb u;refine⟨[.dat (bh web),.own (.lst (R.map .str)),.dat (.int k)],by rcases m with rfl|⟨d,rfl⟩<;>rfl,?_⟩
    refine' ag (aI (ao (af (aF (aa rfl ai) rfl) rfl) (af (kh (λp=>[.no,.dat (.str p.1),.dat (.lst (R.map .str)),.dat (bh web)]) (λp=>p.2.any λy=>decide (y∈R)) (λp=>.str p.1) ?G rfl sz ?I ?J ?L ?M) rfl) (nP ?N)) ?O (ak (aB ⟨_,.inr ⟨_,rfl⟩,rfl⟩)))
    case G=>show some ((dj web).map λk=>Dat.str k.1,_)=_;rw[l]
    case I=>intro y v Z hd;rcases hd with rfl|⟨z,rfl⟩<;>rfl
    case J =>
     intro p a;have:=h.len a;exact iE (af (aF (aa (kD rfl rfl (ly h.nd a)) (aa rfl ai)) (q p.2 R (tr p a) b (by lia))) rfl) rfl
    case L=>intro p a _;rfl
    case M=>intro p a;rfl
    case N =>
     have:=z3 (λp:fk×List fk=>p.2.any λy=>decide (y∈R)) web
     rw[ab];show 4+_<=dk;delta dk
     lia
    case O=>rw[eW,gd];rfl
   case C =>
    rintro _ ⟨c,m,rfl⟩;rw[M8];refine' ak (ag (bc (nc (λp=>[.no,.dat (.str p.1),.dat (.lst ((lE web web.length).map .str))]) ?Q rfl sz ?S ?U ?V) ⟨_,rfl⟩))
    case Q=>show some ((dj web).map λk=>Dat.str k.1,_)=_;rw[l]
    case S=>intro y v Z hd;rcases hd with rfl|⟨z,rfl⟩<;>rfl
    case V=>intro p a;rfl
    case U =>
     intro p a;have:p.1∈lE web web.length:=by
      have:=hw.all p.1 (bg.mpr ⟨p,a,rfl⟩);rw[ab] at this;exact this
     have e:=jF (b web.length) (h.txt (.inl (bg.mpr ⟨p,a,rfl⟩))) false;rw[decide_eq_true this] at e;exact af (ao rfl rfl e) rfl
def hX(x n:fk):Bool:=aY n||ie x n
def dE(web:aT):Nat:=ay (λp=>p.2.countP (hX p.1)) web
def Mv(a b):qu (.str a) (.str b)=some (.dat (.bl (ie a b))):=by
 show some (Res.dat (.bl (decide (a.cps.toList<b.cps.toList))))=_;delta ie df;simp
def yp(fn:aS):Prop:=∀web:aT,bU web->∃r,fn [bh web]=some r/\∃ds,r=.own (.lst ds)/\ds.length=dE web
theorem Il(T:Txt mg)(w1:fG K mg "WALLS" lF)(F:bw K "ties_of" "ties_of" vI f q):∃fn,bb P w K mg base a8 1 f q ["rings"] (aN K fn)/\yp fn:=by
 refine' cx F CU rfl ?C ?B
 case C =>
  intro cdv A outer s H E hr;cases T;have fz:j8 "rings":=⟨trivial⟩
  walk_at "S"
 case B =>
  intro web h;have cb:=h.cb;have tr:∀p∈web,∀z∈p.2,aZ z:=λp e z u=>h.txt ((h.rg p e).2.2 z u).1
  have v:∀k,k<=web.length->dE (web.take k)<=12*k:=by
   intro k;induction k with
   | zero=>intro _;exact eT _
   | succ k G =>
    intro I;obtain⟨p,ep⟩:∃p,web[k]?=some p:=⟨web[k],cm (by lia)⟩
    have h2:=h.len (eS ep);have h3:=X3 (p:=hX p.1) (l:=p.2);unfold dE at *;simp only[fH ep,p6];show _+(p.2.countP (hX p.1)+0)<=_
    lia
  refine' pz rfl ?w
  case w =>
   refine' ag (aI (bA ai (qh _)) rfl (ak ?_));refine' ag (dO (λk Z=>∃ds i a,Fr i/\Fr a/\ds.length=dE (web.take k)/\Z=[.dat (bh web),.own (.lst ds),i,a]) rfl ⟨[],_,_,.inl rfl,.inl rfl,rfl,rfl⟩ ?st ?D)
   case D =>
    rintro _ ⟨ds,i,a,r,c,hd,rfl⟩;rw[ab,show (dj web).length=web.length from ab ..,r4] at hd
    exact ak (ag (bc rfl ⟨_,_,rfl,ds,rfl,hd⟩))
   case st =>
    rintro k x m _ ⟨ds,i,a,r,c,hd,rfl⟩;unfold dj at m;rw[gd,cR] at m;obtain⟨p,ep,rfl⟩:=hH.mp m;have e:=eS ep;have I:=(cn.mp ep).1;have hlp:=h.len e;have C:=v k (by lia)
    refine⟨[.dat (bh web),.own (.lst ds),.dat (.str p.1),a],by rcases r with rfl|⟨d,rfl⟩<;>rfl,?_⟩
    refine ag (dO (λj Z=>∃b a,Fr a/\b.length=dE (web.take k)+(p.2.take j).countP (hX p.1)/\Z=[.dat (bh web),.own (.lst b),.dat (.str p.1),a]) (cS (kD rfl rfl (ly h.nd e))) ⟨ds,a,c,by rw[hd];simp,rfl⟩ ?_ ?_)
    ·rintro j y t _ ⟨b,a,c,g,rfl⟩;rw[cR] at t;obtain⟨n,o,rfl⟩:=hH.mp t;have J:=eS o;have L:=X3 (p:=hX p.1) (l:=p.2.take j);simp at L;refine⟨[.dat (bh web),.own (.lst b),.dat (.str p.1),.dat (.str n)],by rcases c with rfl|⟨d,rfl⟩<;>rfl,?_⟩
     refine ag (ck (vJ (aP (ao rfl rfl (l6 (tr p e n J).ok false))) (aP (ao rfl rfl (Mv _ _)))) (λz=>?_) λz=>aB (ak (aB ⟨b,_,.inr ⟨_,rfl⟩,?_,rfl⟩)))
     ·refine ag ⟨_,sY (gr rfl (aa (cu (aa rfl (aa rfl ai)) (by simp[dk])) ai) (by unfold dk;lia)),ak (aB (ak (aB ⟨b++[.tup [.str p.1,.str n]],.dat (.str n),.inr ⟨_,rfl⟩,?_,rfl⟩)))⟩
      rw[fH o,n7,eH,g,X2,if_pos (show hX p.1 n=true from z)]
      simp
      lia
     ·rw[fH o,n7,X2,if_neg (by rw[show hX p.1 n=false from z];simp)]
      exact g
    ·rintro _ ⟨b,a,c,g,rfl⟩;rw[ab,r4] at g;refine ak (aB ⟨b,.dat (.str p.1),a,.inr ⟨_,rfl⟩,c,?_,rfl⟩);simp only[g,fH ep];delta dE;simp[p6];rfl
def zi(fn:aS):Prop:=∀web:aT,bU web->cQ web->fn [bh web]=some (.own (.bf false (bQ (dy ((bZ web).map bW)))))
def Jg(T:Txt mg)(o:bq P w K mg base "corners_of" 1 (aN K e))(q:qZ e)(F:bw K "threes_of" "threes_of" yE f g):∃fn,bb P w K mg base a8 2 f g ["rings"] (aN K fn)/\zi fn:=by
 refine' cx F y0 rfl ?D ?B
 case D =>
  intro cdv A outer s H E hr;cases T;have tp:mI "threes":=⟨trivial⟩;have tp2:mI "corners_of":=⟨trivial⟩
  walk_at "S"
 case B =>
  intro web h hw;have cb:=h.cb;have hl:=v9 λp r=>h.len r
  refine' dg rfl ?w
  case w =>
   refine' ag (aI rfl rfl (ak ?_));refine' ag (dO (λk Z=>∃b,Fr b/\Z=[.dat (bh web),.own (.bf false (bQ (dy (((bZ web).take k).map bW)))),b]) ?a ⟨_,.inl rfl,rfl⟩ ?st ?C)
   case a =>
    delta tW;rw[aF (aa rfl ai) (q web h hw)];show some (jV (bQ (bZ web)),_)=_;dsimp only[jV,bQ];rw[gd];rfl
   case C =>
    rintro _ ⟨b,i,rfl⟩;rw[ab,r4];exact ak (ag (bc rfl ⟨_,rfl⟩))
   case st =>
    rintro k x j _ ⟨b,i,rfl⟩;rw[cR] at j;obtain⟨c,l,rfl⟩:=hH.mp j;rw[fH l,eW];show ∃Z1,_/\WS _ Z1 (vL (λZ=>∃b,Fr b/\Z=[.dat (bh web),.own (.bf false (bQ (dy (((bZ web).take k).map bW++[bW c])))),b]) _)
    rw[Ep];have hc3:c.length=3:=by
     have:=eS l;rw[pL h.nd] at this;obtain⟨z,_,rfl⟩:=bg.mp this;rfl
    generalize t:dy (((bZ web).take k).map bW)=L;have m:L.length<1000:=by
     rw[<-t];refine VG (CV _) ?_;rw[ab,mv]
     lia
    refine⟨[.dat (bh web),.own (.bf false (bQ L)),.dat (.tup (c.map .str))],by rcases i with rfl|⟨d,rfl⟩<;>rfl,?_⟩
    refine ag ⟨_,Cj rfl ?_ rfl m,ak (aB ⟨.dat (.tup (c.map .str)),.inr ⟨_,rfl⟩,rfl⟩)⟩;have u:mz [.tup (c.map .str)]=some (.own (.lst ((bW c).map .str))):=by
     show (dB (c.map .str)).bind _=_;have:=pN (λx:fk=>x) c
     rw[Wv] at this;rw[this];exact if_pos (by lia)
    delta yH;rw[aa (af (aF (aa rfl ai) u) rfl) ai];show (dB ((bW c).map .str)).map _=_;have:=pN (λx:fk=>x) (bW c)
    rw[Wv] at this;rw[this];rfl
def JU (a:ds.length=m)(h:WS s (iF n ds) λo=>∃Z,o=.next Z):iL m (iO n s) ds=some (.dat .bj):=by
 obtain⟨o,e,Z,rfl⟩:=h;delta iL;rw[if_pos a];exact FN e
theorem n8 (g:b->c)(f:c->Nat):∀l:List b,ay f (l.map g)=ay (λa=>f (g a)) l
 | []=>rfl
 | a::l=>by
  show f (g a)+ay f (l.map g)=f (g a)+_;rw[n8 g f l]
def Qd:bW l=bW a ↔ l.Perm a:=by
 constructor
 ·intro e;have b:=ib l df;have c:=ib a df;rw[show l.mergeSort df=a.mergeSort df from e] at b
  exact b.symm.trans c
 ·exact uQ
theorem Ry (h:bU web)(hw:cQ web):(dy ((bZ web).map bW)).length+web.length=dE web+1:=by
 obtain⟨f,g⟩:=Qs ((bZ web).map bW);have j:=hw.C.threes ny (λc _ c' _=>Qd) g (λk=>by
  rw[f,pL h.nd,gd,bg];rfl)
 have m:=hw.Bq;simp only[<-j,ab,n8] at m;have e3:ay (λp:fk×List fk=>(fY web p.1).countP λy=>!aq (web.map (·.1)) y) web+ay (λp:fk×List fk=>(fY web p.1).countP λy=>aq (web.map (·.1)) y&&ie p.1 y) web=dE web:=by
  rw[<-fX];refine b8 λp n=>?_
  rw[dD h.nd n];have o:∀y∈p.2,(y∈web.map (·.1)\/y∈bV):=λy a=>((h.rg p n).2.2 y a).1
  have hd:=λy a=>hw.C.eM y a
  generalize p.2=l at *;induction l with
  | nil=>rfl
  | cons y l q =>
   have i:=q (λz r=>o z (gf _ r))
   simp only[nL];have a:=o y fm
   by_cases b:y∈web.map (·.1)
   ·have d:aq (web.map (·.1)) y=true:=decide_eq_true b
    have e:aY y=false:=by
     rw[<-XB,fq];exact hd y b
    rw[show hX p.1 y=ie p.1 y from by unfold hX;rw[e];rfl,d,<-i]
    simp
    lia
   ·have d:aq (web.map (·.1)) y=false:=decide_eq_false b
    have e:=(fq y).mpr (a.resolve_left b);rw[show hX p.1 y=true from by unfold hX;rw[e];rfl,d,<-i]
    lia
 lia
theorem A6 (nd:(web.map (·.1)).Nodup):o6 [.lst (web.map pairD)]=some (.own (.bP (dj web))):=by
 have:∀l:aT,jP (l.map pairD)=some (dj l):=by
  intro l;induction l with
  | nil=>rfl
  | cons p l a =>
   show (jP (l.map pairD)).map _=_;rw[a];rfl
 show (jP (web.map pairD)).bind _=_;rw[this];refine if_pos ?_;delta dj;rw[gd];exact nd
def Ci(fn:aS):Prop:=∀web:aT,bU web->cQ web->fn [.lst (web.map pairD)]=some (.dat .bj)
def tE (h:a Z=some (ds,Z1))(e:fn ds=some (.dat (.bl true))):pM (mU (jf (cg fn a))) Z=some (false,Z1):=kS (iE (af (aF h e) rfl) rfl)
def Ka(T:Txt mg)(w1:fG K mg "WALLS" lF)(x:bq P w K mg base "has_form" 3 (aN K c))(D:DR c)(G:bq P w K mg base "ties_are_shared" 1 (aN K d))(I:A0 d)(J:bq P w K mg base "corners_close" 3 (aN K e))(L:Ac e)(M:bq P w K mg base "wall_has_row" 2 (aN K g))(N:Aa g)(O:bq P w K mg base "all_reached" 2 (aN K i))(Q:Fs i)(R:bq P w K mg base "threes_of" 2 (aN K j))(S:zi j)(U:bq P w K mg base "ties_of" 1 (aN K l))(V:yp l)(F:bw K "must_web" "must_web" xG f m):∃fn,bb P w K mg base a8 4 f m ["web"] (aN K fn)/\Ci fn:=by
 refine' cx F CN rfl ?W ?B
 case W =>
  intro cdv A outer s H E hr;have nd:=CN.nd;cases T;have hl:wG "rings":=⟨trivial⟩
  walk_at "S"
 case B =>
  intro web h hw;have X:(dj web).length=web.length:=ab ..;obtain⟨_,Y,ds,rfl,hd⟩:=V web h;refine' JU rfl ?w
  case w =>
   refine eY (tE (aa rfl ai) (D web h)) rfl ?_;refine' ag (aI (Z1:=[.dat (.lst (web.map pairD)),.no]) ?a rfl (ak ?b))
   case a =>
    delta qP;rw[aF (aa rfl ai) (A6 h.nd)];rfl
   case b =>
    refine eY (tE (aa rfl ai) (I web h λp o q t z=>?_)) rfl ?_
    ·have u:=hw.C.sym p.1 (bg.mpr ⟨p,o,rfl⟩) q.1 (bg.mpr ⟨q,t,rfl⟩);rw[dD h.nd o,dD h.nd t] at u;exact u z
    refine eY (tE (aa rfl ai) (L web h hw)) rfl ?_;refine' eY (kS (iE (af (nc (xs:=bV) (λn=>[.no,.dat (.str n),.dat (bh web)]) (BP rfl) rfl ?c1 ?c2 ?c3 ?c4) rfl) rfl)) rfl ?c5
    case c1=>show 4<=dk;unfold dk;lia
    case c2=>intro y hy Z hd;rcases hd with rfl|⟨z,rfl⟩<;>rfl
    case c3 =>
     intro n v;obtain⟨k,hk,rfl⟩:=oj v;exact af (aF (aa rfl (aa rfl ai)) (N web k hk h hw)) rfl
    case c4=>intro n v;rfl
    case c5 =>
     refine eY (tE (aa rfl ai) (Q web h hw)) rfl ?_;refine' eY (aP (ao (af (aF (aa (af (aF (aa rfl ai) (S web h hw)) rfl) ai) rfl) rfl) (af (ao (af (ao (af (aF (aa (af (aF (aa rfl ai) Y) rfl) ai) rfl) rfl) (eJ rfl (congrArg some X)) (vN rfl)) rfl) rfl rfl) rfl) (ne_int _ _))) ?d2 (aB ⟨_,rfl⟩)
     case d2 =>
      have:=Ry h hw;have:(bQ (dy ((bZ web).map bW))).length=(dy ((bZ web).map bW)).length:=ab ..;rw[decide_eq_true (by lia)]
      rfl
end
local macro_rules
| `(tactic| walk_at "1")=>Mq.fs "R' C"
| `(tactic| walk_at "r12")=>`(tactic| (refine' yT ?n ?x ?a ?b ?c ?d ?e ?f ?g ?h;(case x=>rfl);(case n=>exact u6 (by rfl));(case a=>rfl);(case b=>exact qG (by rfl));(case c=>rfl);(case d=>exact λ_=>rfl);(case e=>walk_at "I");(case f=>(intro _ _ _ _ _;walk_at "G"));(case g=>(intro _ _ _ _ _;walk_at "J"));(case h=>(intro _ _ _ _ _;walk_at "D"))))
| `(tactic| walk_at "0")=>Mq.fs ">r12"
| `(tactic| walk_at "Z")=>Mq.fs "Bx Dr"
local macro_rules
| `(tactic| walk_at "0")=>Mq.fs "Dg aarrrrnrfIptu|DE.alt&zH rrrarA&C5 rrarA&Bi rrarA|LA DD|O9 D4|RV rarA|Ks rarA"
| `(tactic| walk_at "I")=>Mq.fs "Kx rarrA"
| `(tactic| walk_at "T")=>Mq.fs "Rx D4"
section
variable{P:lT}{w:px}{K:gj}{mg:fk->Option cA}{base:qt}
noncomputable def iQ:fN
 | .lst [.int a,.int b],[.int m]=>if 0<m/\m.natAbs.log2<9000 then some (if a=0 then (.dat (.int (b%m)),.lst [.int (b/m),.int b]) else (.dat (.int (a%m)),.lst [.int (a/m),.int b])) else none
 | _,_=>none
theorem Gc(T:Txt mg){f:eu}{g:lq}(F:bw K "_law_draw" "_law_draw" vD f g):bb P w K mg base a8 1 f g ["_law_purse_here","_law_out_of"] (dM K 0 iQ):=by
 refine' Er F zM ?B ?C ?D
 case B =>
  intro c ds r h;unfold iQ at h;split at h
  ·rfl
  ·cases h
 case C =>
  intro cdv A outer s H E hr;cases T;have lk:lI "_law_purse_here":=⟨trivial⟩
  walk_at "S"
 case D =>
  intro c ds r h;unfold iQ at h;split at h
  ·split at h
   ·rename_i a b m d;cases h;have hd:jS a m=true:=by unfold jS;simpa using d
    have hd':jS b m=true:=by unfold jS;simpa using d
    by_cases i:a=0
    ·subst i;refine' uG ?e ?k
     case e=>walk_at "v"
     case k=>rfl
    ·rw[if_neg i];refine' uG ?e ?k
     case e=>walk_at "v"
     case k=>rfl
   ·cases h
  ·cases h
def fS(p)(h:0<m)(h':m<10000):∃v q,iQ (pD p) [.int m]=some (.dat (.int v),pD q)/\0<=v/\v<m:=by
 have a:0<m/\m.natAbs.log2<9000:=⟨h,Lc (l5 (show m.natAbs<2 ^ 14 by omega) (aaa (by decide) (by decide)))⟩
 delta iQ pD;dsimp only;rw[if_pos a]
 by_cases z:p.1=0
 ·rw[if_pos z];exact⟨p.2%m,(p.2/m,p.2),rfl,Wn _ (by lia),VH _ h⟩
 ·rw[if_neg z];exact⟨p.1%m,(p.1/m,p.2),rfl,Wn _ (by lia),VH _ h⟩
def jy(c:Int):Prop:=ti c<=1048576
def OO (a:jy i)(b:jy j):fA i j=true:=by
 delta jy at a b;delta fA YM;rw[show decide ((ti i:Int)+(ti j:Int)>bitsLine)=false from decide_eq_false (by unfold bitsLine;omega)]
 simp
def E9(fn:aS):Prop:=∀(c:Int) (k:Nat),jy c->k<64->∃v:Int,fn [.int c,.int k]=some (.dat (.int v))
theorem Mx(T:Txt mg){f:eu}{a:lq}(F:bw K "_law_mixed" "_law_mixed" xt f a):∃fn,bb P w K mg base a8 1 f a ["_law_cell","_law_k"] (aN K fn)/\E9 fn:=by
 refine' cx F AE rfl ?C ?B
 case C =>
  intro cdv A outer s H E hr;cases T
  walk_at "S"
 case B =>
  intro c k b hk;have d1:∀i,jS i 2147483629=true:=fun i=>show jS 0 2147483629=true by decide +kernel
  have m1:=OO b b;have m2:∀i,fA 3 i=true:=fun i=>sy (by decide)
  have m4:∀i,fA i 48271=true:=fun i=>tG (by decide)
  have m5:fA ((c*c+3*c+7919*k+1)*48271%2147483629) ((c*c+3*c+7919*k+1)*48271%2147483629)=true:=tG (by omega)
  refine'⟨_,Aj ?e⟩
  case e=>walk_at "v"
def Cd(fn:aS):Prop:=∀ns:List Int,ns.length<=63->(∀n∈ns,jy n)->∃p,fn [.cj ns]=some (.own (pD p))
theorem GX(T:Txt mg)(B:mg "abs"=none){b:aS}(t:bq P w K mg base "_law_mixed" 1 (aN K b))(u:E9 b){f:eu}{g:lq}(F:bw K "_law_purse" "_law_purse" wc f g):∃fn,bb P w K mg base a8 2 f g ["_law_script"] (aN K fn)/\Cd fn:=by
 refine' cx F zU rfl ?B ?C
 case B =>
  intro cdv A outer s H E hr;cases T
  walk_at "S"
 case C =>
  intro ns y B;refine' (pz (P:=fun r=>∃p,r=.own (pD p)) rfl ?w).elim fun r ⟨e,p,z⟩=>⟨p,z ▸ e⟩
  case w =>
   have I:eI (.cj ns) none (some 63)=some (.own (.lst (ns.map .int))):=by
    show some (Res.own (.lst ((cutD ns none (some ((63:Nat):Int))).map Dat.int)))=_;rw[mJ,XM y]
   have J:g8 (.lst (ns.map .int)) (.lst [.int 0])=some (.own (.lst ((ns++[0]).map .int))):=by
    rw[eW];exact if_pos (by rw[ab,Vg];unfold dk;omega)
   have L:cH (.lst ((ns++[0]).map .int))=some (ns.length+1):=by simp[cH]
   refine' ag (aI (ao (af (jv rfl rfl I) rfl) (af (bA (aa rfl ai) (by unfold dk;decide)) rfl) J) rfl (ak ?_))
   refine' ag (aI (v_res rfl) rfl (ak ?_));have M:∀c∈ns++[0],jy c:=fun c N=>by
    rcases eK.mp N with h|h
    ·exact B c h
    ·rw[kq.mp h];delta jy;decide +kernel
   refine' ag (dO (fun k Z=>∃(n:Int) (a:Slot),Fr a/\Z=[.dat (.cj ns),.own (.lst ((ns++[0]).map .int)),.dat (.int n),a]) (lH (aa rfl ai) ⟨by decide,by decide⟩) ⟨1,.no,.inl rfl,rfl⟩ ?st ?D)
   case st =>
    rintro k x O _ ⟨n,a,i,rfl⟩;obtain⟨hk,rfl⟩:=rb O;refine⟨[.dat (.cj ns),.own (.lst ((ns++[0]).map .int)),.dat (.int n),.dat (.int k)],by rcases i with rfl|⟨d,rfl⟩<;>rfl,?_⟩
    have l:k%(ns.length+1)<(ns++[0]).length:=by rw[eH];exact Vd _ (by simp)
    obtain⟨v,Q⟩:=u (ns++[0])[k%(ns.length+1)] k (M _ (V6 l)) (by lia)
    have m:cf (.lst ((ns++[0]).map .int)) (.int ((k%(ns.length+1):Nat):Int))=some (.int (ns++[0])[k%(ns.length+1)]):=by
     exact kj (by rw[cR,cm l];rfl)
    have em:(k:Int)%((ns.length+1:Nat):Int)=((k%(ns.length+1):Nat):Int):=(Int.natCast_emod ..).symm;rw[<-em] at m;have R:decide (0<((ns.length+1:Nat):Int))=true:=decide_eq_true (by omega)
    have mk:fA n 2147483587=true:=tG (by decide)
    refine' ag (aI (Z2:=[.dat (.cj ns),.own (.lst ((ns++[0]).map .int)),.dat (.int (n*2147483587+v)),.dat (.int k)]) (ao (af (gg (ao rfl rfl (if_pos mk))) rfl) (af (aF (aa (a9 rfl (af (ao rfl (eJ rfl L) (if_pos R)) rfl) rfl m) (aa rfl ai)) Q) rfl) rfl) rfl (ak (aB ⟨_,_,.inr ⟨_,rfl⟩,rfl⟩)))
   case D =>
    rintro _ ⟨n,a,i,rfl⟩;have S:0<(ns++[0]).length:=by simp
    have o:cf (.lst ((ns++[0]).map .int)) (.int 0)=some (.int (ns++[0])[0]):=by
     rw[lh];exact kj (j:=0) (by rw[cR,cm S];rfl)
    generalize (ns++[0])[0]=c0 at o;have q:cg qX (iY (mo 1 (fun Z=>some (.int 0,Z))) mC) [.dat (.cj ns),.own (.lst ((ns++[0]).map .int)),.dat (.int n),a]=some (.dat (.int (if c0<0 then -c0 else c0)),[.dat (.cj ns),.own (.lst ((ns++[0]).map .int)),.dat (.int n),a]):=aF (aa (a9 rfl rfl rfl o) ai) rfl
    refine' ak (ag (ck (aP (ao (r:=.dat (.bl (decide ((10:Int) ^ (18:Int).toNat<=if c0<0 then -c0 else c0)))) (af q rfl) (af (ao rfl rfl rfl) rfl) rfl)) ?G ?no))
    case G =>
     intro _;exact ag (bc (bA (aa (af q rfl) (aa rfl ai)) (show 2<=dk by unfold dk;decide)) (cG ⟨_,_,rfl,(_,_),rfl⟩))
    case no =>
     intro _;exact aB (ak (ag (bc (bA (aa rfl (aa rfl ai)) (show 2<=dk by unfold dk;decide)) (cG ⟨_,_,rfl,(_,_),rfl⟩))))
noncomputable def jo(st:List Int)(a k j:Nat):Nat:=97+((st.getD j 0+5*(k:Int)*(if j=a then 1 else 0))%26).toNat
def cy(st:List Int)(a k:Nat):Str:=⟨((hI st.length).map (jo st a k)).toArray⟩
def jK(x:fk):Str:=if aY x then x++k0 "x" else x
def g9(st:List Int)(a m:Nat):List Str:=(hI m).map fun k=>jK (cy st a k)
theorem tD(st:List Int)(a k:Nat):(cy st a k).length=st.length:=by
 show ((hI st.length).map (jo st a k)).toArray.size=_;rw[ft,ab,kH]
theorem B1(st:List Int)(a k:Nat):∀c∈(cy st a k).cps.toList,hZ c=true:=fun c h=>by
 obtain⟨j,_,rfl⟩:=bg.mp h;exact Oi (Wn _ (by decide)) (VH _ (by decide))
theorem KG{st:List Int}(h0:0<st.length)(h7:st.length<=7)(a k:Nat):dW (jK (cy st a k))=true:=by
 have hl:=tD st a k;have hw:=B1 st a k;have fst:∀x:fk,0<x.length->∃c,x.cps.toList[0]?=some c:=fun x g=>⟨_,cm (show 0<x.cps.toList.length by simp only[hQ];exact g)⟩
 delta jK;split
 ·have ex:(k0 "x").cps.toList=[120]:=by decide +kernel
  have e:(cy st a k++k0 "x").cps.toList=(cy st a k).cps.toList++[120]:=by simp only[Wy,Wd,ex]
  have el:(cy st a k++k0 "x").length=st.length+1:=by
   rw[<-hl];show (cy st a k++k0 "x").cps.size=(cy st a k).cps.size+1;rw[<-hQ,e,eH,hQ];rfl
  obtain⟨c,d⟩:=fst (cy st a k++k0 "x") (by omega)
  refine sE.nm ⟨d,fun b f=>?_,?_⟩ (IC _)
  ·rw[e] at f
   rcases eK.mp f with z|z
   ·exact hw b z
   ·rw[kq.mp z];rfl
  ·show (cy st a k++k0 "x").length<=8;omega
 ·rename_i h;obtain⟨c,d⟩:=fst (cy st a k) (by omega)
  exact sE.nm ⟨d,hw,by rw[hQ];show (cy st a k).length<=8;omega⟩ (by simpa using h)
theorem EM{st:List Int}{a i j:Nat}(b:a<st.length)(hi:i<8)(hj:j<8)(h:cy st a i=cy st a j):i=j:=by
 have h:=congrArg (fun x:fk=>x.cps.toList[a]?) h
 have e:∀k,(cy st a k).cps.toList[a]?=some (jo st a k a):=fun k=>by
  show ((hI st.length).map (jo st a k))[a]?=_;rw[cR,zd b];rfl
 simp only[e] at h;have h:=Option.some.inj h;unfold jo at h;rw[if_pos rfl] at h;omega
theorem vd{st:List Int}{a i j:Nat}(b:a<st.length)(c:i<8)(d:j<8)(h:jK (cy st a i)=jK (cy st a j)):i=j:=by
 have l1:=tD st a i;have l2:=tD st a j;have eq:∀x y:fk,(x++k0 "x").cps.toList=y.cps.toList->y.length=x.length+1:=fun x y h=>by
  have:=congrArg List.length h;simp[Wy] at this;exact this.symm
 delta jK at h;split at h<;>split at h
 ·have h:=congrArg (fun x:fk=>x.cps.toList) h
  simp only[Wy,Wd] at h;exact EM b c d (lK (List.append_cancel_right h))
 ·have:=eq _ _ (congrArg (fun x:fk=>x.cps.toList) h)
  omega
 ·have:=eq _ _ (congrArg (fun x:fk=>x.cps.toList) h.symm)
  omega
 ·exact EM b c d h
theorem LL{st:List Int}{a m:Nat}(c:a<st.length)(d:st.length<=7)(hm:m<=8):(g9 st a m).length=m/\(∀x∈g9 st a m,dW x=true)/\(g9 st a m).Nodup:=by
 refine⟨by delta g9;rw[ab,kH],fun x f=>?_,?_⟩
 ·obtain⟨k,_,rfl⟩:=bg.mp f;exact KG (by lia) d a k
 ·refine gs.mpr (Xz.imp_of_mem fun {i j} g h b e=>?_)
  have:=mA.mp g;have:=mA.mp h;exact b (vd c (by omega) (by omega) e)
def wo (h:fA i j=true):fZ fA (λi j=>.int (i*j)) (.int i) (.int j)=some (.dat (.int (i*j))):=if_pos h
def B2(n:Nat):dH 0 (n:Int)=(hI n).map λj:Nat=>.int (j:Int):=by
 delta dH;exact ql λj _=>by rw[Int.zero_add]
noncomputable def l7(st:List Int)(a k j:Nat):Int:=st.getD j 0+5*(k:Int)*(if j=a then 1 else 0)
def Qz(st)(a k):XC (k0 "") ((hI st.length).map λj=>(⟨#[jo st a k j]⟩:fk))=cy st a k:=by
 refine lK ?_;have:=LB ((hI st.length).map (jo st a k));rw[gd] at this;exact this
def Hd(t:Slot)(d:Dat):Prop:=t=.own d\/t=.dat d
def C0(fn:fN):Prop:=∀p (m:Nat),m<=8->∃r b,fn (pD p) [.int m]=some (r,b)/\∃(a:List fk) (c:Int×Int),r=.own (.lst (a.map .str))/\b=pD c/\a.length=m/\(∀x∈a,dW x=true)/\a.Nodup
theorem K5(T:Txt mg)(p1:bq P w K mg base "_law_draw" 1 (dM K 0 iQ))(F:bw K "_law_names" "_law_names" vA f Q):∃fn,bb P w K mg base a8 2 f Q ["_law_purse_here","_law_many"] (dM K 0 fn)/\C0 fn:=by
 refine' p7 F D5 rfl ?B ?N
 case B =>
  intro cdv A outer s H E hr;have nd:=D5.nd;cases T;have lk:lI "_law_purse_here":=⟨trivial⟩
  walk_at "S"
 case N =>
  intro p m hm;refine' pR rfl ?w
  case w =>
   obtain⟨z,R,t0,a0,b0⟩:=fS p (m:=7) (by decide) (by decide)
   refine' ag (aI (v_res rfl) rfl (ak ?_));refine' ag (aI (ao rfl (af (dI rfl (aa rfl ai) rfl t0 rfl) rfl) rfl) rfl (ak ?_));refine' ag (DU ?_);refine' N5 (λk C Z=>∃(J:Int×Int) (L:Slot) (cs:List Int),Z=[.no,L,.io (pD J)]/\Fr L/\C=cs.map .int/\cs.length=k) (lH rfl (by omega)) rfl rfl rfl ⟨_,_,[],rfl,.inl rfl,rfl,rfl⟩ ?c7 ?c8 ?c9
   case c7=>unfold dH dk;rw[ab,kH];omega
   case c8 =>
    rintro k1 x U C Z ⟨J,L,cs,rfl,V,rfl,W⟩;refine⟨[.no,.dat x,.io (pD J)],by rcases V with rfl|⟨d,rfl⟩<;>rfl,?_⟩
    obtain⟨v1,D,t1,_,_⟩:=fS J (m:=26) (by decide) (by decide)
    refine' ud rfl ⟨λh=>(by cases h),λ_=>qN (af (dI rfl (aa rfl ai) rfl t1 rfl) rfl) ⟨rfl,D,_,cs++[v1],rfl,.inr ⟨_,rfl⟩,by rw[eW];rfl,by rw[eH,W];rfl⟩⟩
   rintro C Z ⟨D,L,st,rfl,-,rfl,M⟩;have M:st.length=(1+z).toNat:=by rw[M];delta dH;rw[ab,kH];lia
   obtain⟨v2,q,X,a2,b2⟩:=fS D (m:=1+z) (by omega) (by omega)
   obtain⟨a,rfl⟩:=I1 a2;have ha:a<st.length:=by omega
   have h7:st.length<=7:=by omega
   have hL:(1+z)=(st.length:Int):=by omega
   rw[hL] at X ⊢;refine⟨pD D,rfl,[.io (pD D),.dat (.int m),.dat (.str "abcdefghijklmnopqrstuvwxyz"),.dat (.int st.length),.own (.lst (st.map .int)),.no,.no,.no,.no,.no],rfl,?_⟩;refine' ak (ag (aI (Z2:=[.io (pD q),.dat (.int m),.dat (.str "abcdefghijklmnopqrstuvwxyz"),.dat (.int st.length),.own (.lst (st.map .int)),.dat (.int a),.no,.no,.no,.no]) (dI rfl (aa rfl ai) rfl X rfl) rfl (ak ?_)));refine' ag (aI (Z2:=[.io (pD q),.dat (.int m),.dat (.str "abcdefghijklmnopqrstuvwxyz"),.dat (.int st.length),.own (.lst (st.map .int)),.dat (.int a),.own (.lst []),.no,.no,.no]) (bA ai (qh _)) rfl (ak ?_));refine' ag (dO (λk Z=>∃(u v r t:Slot),Z=[.io (pD q),.dat (.int m),.dat (.str "abcdefghijklmnopqrstuvwxyz"),.dat (.int st.length),u,.dat (.int a),.own (.lst ((g9 st a k).map .str)),v,r,t]/\Hd u (.lst (st.map .int))/\Fr v/\(Fr r\/∃d,r=.own d)/\Fr t) (lH rfl (by omega)) ⟨_,_,_,_,rfl,.inl rfl,.inl rfl,.inl (.inl rfl),.inl rfl⟩ ?st ?Y)
   case Y =>
    rintro _ ⟨u,v,r,t,rfl,-⟩;have e:(dH 0 (m:Int)).length=m:=by unfold dH;rw[ab,kH];omega
    rw[e];exact ak (ag (bc rfl (cG ⟨_,_,_,rfl,rfl,g9 st a m,q,rfl,rfl,LL ha h7 hm⟩)))
   case st =>
    rintro k x U _ ⟨u,v,r,t,rfl,h4,f7,f8,f9⟩;obtain⟨hk,rfl⟩:=rb U;refine⟨[.io (pD q),.dat (.int m),.dat (.str "abcdefghijklmnopqrstuvwxyz"),.dat (.int st.length),u,.dat (.int a),.own (.lst ((g9 st a k).map .str)),.dat (.int k),r,t],by rcases f7 with rfl|⟨d,rfl⟩<;>rfl,?_⟩
    have ln:((g9 st a k).map Dat.str).length<sizeLine:=by
     unfold g9 dk;rw[ab,ab,kH];omega
    have es:g9 st a (k+1)=g9 st a k++[jK (cy st a k)]:=by
     unfold g9;rw[XW,eW];rfl
    rw[es,eW];generalize (g9 st a k).map Dat.str=o at *;refine' ag (aI (Z2:=[.io (pD q),.dat (.int m),.dat (.str "abcdefghijklmnopqrstuvwxyz"),.dat (.int st.length),.dat (.lst (st.map .int)),.dat (.int a),.own (.lst o),.dat (.int k),.own (.lst ((hI st.length).map λj=>.int (l7 st a k j))),t]) (fw (enc:=λj:Nat=>.int (j:Int)) (xs:=hI st.length) (λj=>[.no,.dat (.int j),.dat (.int a),.dat (.int k),.dat (.lst (st.map .int))]) (λj=>.int (l7 st a k j)) ?d1 ?d2 ?d3 ?d4 ?d5 ?d6) ?d7 (ak ?d8))
    case d1=>rw[<-B2];exact lH rfl (by omega)
    case d2=>rcases h4 with rfl|rfl<;>rfl
    case d3=>rw[kH];unfold dk;omega
    case d4=>rintro j _ Z (rfl|⟨y,rfl⟩)<;>rfl
    case d5 =>
     intro j G;have G:=mA.mp G;have ix:cf (.lst (st.map .int)) (.int (j:Int))=some (.int (st.getD j 0)):=by
      rw[lh];exact kj (by rw[cR,cm G,n4,cm G];rfl)
     have ei:l8 [.bl (decide ((j:Int)=(a:Int)))]=some (.dat (.int (if j=a then 1 else 0))):=by
      by_cases e:j=a
      ·rw[if_pos e,decide_eq_true (by omega)];rfl
      ·rw[if_neg e,decide_eq_false (by omega)];rfl
     have m5:fA 5 (k:Int)=true:=sy (by decide)
     have m6:fA (5*(k:Int)) (if j=a then 1 else 0)=true:=tG (by split<;>decide)
     exact af (ao (a9 rfl rfl rfl ix) (af (gg (ao (af (gg (ao rfl rfl (wo m5))) rfl) (af (aF (aa (af (ao rfl rfl (eq_int _ _)) rfl) ai) ei) rfl) (wo m6))) rfl) rfl) rfl
    case d6=>exact λ_ _=>rfl
    case d7=>rcases f8 with (rfl|⟨d,rfl⟩)|⟨d,rfl⟩<;>rfl
    case d8 =>
     have O:∀l:List Nat,(l.map λj=>(⟨#[jo st a k j]⟩:fk).length).sum=l.length:=λl=>by
      induction l with
      | nil=>rfl
      | cons c l ih=>rw[ka,VJ,ih,fv];exact Yy _ _
     have ej:=F2 (sep:=k0 "") (af (fw (enc:=λj:Nat=>Dat.int (l7 st a k j)) (xs:=hI st.length) (λj=>[.no,.dat (.int (l7 st a k j)),.dat (.str "abcdefghijklmnopqrstuvwxyz")]) (λj=>.str ⟨#[jo st a k j]⟩) (fi:=alt (jJ (eC 8)) (kn (eC 8))) (caps:=[none,none,some 2]) (g:=ya 1) (fe:=mo 2 (jf (cK (fZ (λ_ j=>decide (0<j)) λi j=>Dat.int (i%j)) (eC 1) (fC (.int 26))))) (Z:=[.io (pD q),.dat (.int m),.dat (.str "abcdefghijklmnopqrstuvwxyz"),.dat (.int st.length),.dat (.lst (st.map .int)),.dat (.int a),.own (.lst o),.dat (.int k),.own (.lst ((hI st.length).map λj=>.int (l7 st a k j))),t]) (cS rfl) rfl (by rw[kH];unfold dk;omega) (by rintro j _ Z (rfl|⟨y,rfl⟩)<;>rfl) (λj G=>a9 rfl (af (ao rfl rfl rfl) rfl) rfl (FT (Wn _ (by decide)) (VH _ (by decide)))) (λ_ _=>rfl)) rfl) (D3 (λj=>(⟨#[jo st a k j]⟩:fk)) (hI st.length)) ⟨by decide +kernel,by rw[gd,ab,kH];have:=O (hI st.length);rw[kH] at this;show ((hI st.length).map λj=>(⟨#[jo st a k j]⟩:fk).length).sum+_<=_;omega⟩
     rw[Qz] at ej;refine' ag (aI (Z2:=[.io (pD q),.dat (.int m),.dat (.str "abcdefghijklmnopqrstuvwxyz"),.dat (.int st.length),.dat (.lst (st.map .int)),.dat (.int a),.own (.lst o),.dat (.int k),.dat (.lst ((hI st.length).map λj=>.int (l7 st a k j))),.dat (.str (cy st a k))]) (v_res ej) ?g1 (ak ?g2))
     case g1=>rcases f9 with rfl|⟨d,rfl⟩<;>rfl
     case g2 =>
      have wl:=tD st a k;have tx:y1 (cy st a k)=true:=As (by
       rw[Yf];intro c hc;have:=B1 st a k c (WV.mpr hc);unfold hZ at this;rw[ey,decide_eq_true_eq,decide_eq_true_eq] at this;simp;omega)
      have iw:fu false (.str (cy st a k)) (.lst [.str "north",.str "east",.str "south",.str "west"])=some (.dat (.bl (aY (cy st a k)))):=D1 tx false;have Si:g8 (.str (cy st a k)) (.str (k0 "x"))=some (.dat (.str (cy st a k++k0 "x"))):=Dy (by rw[wl,show (k0 "x").length=1 from by decide +kernel];unfold dk;omega)
      generalize (hI st.length).map (λj=>Dat.int (l7 st a k j))=S
      have I:∀y,y=jK (cy st a k)->∃u v r t,[.io (pD q),.dat (.int m),.dat (.str "abcdefghijklmnopqrstuvwxyz"),.dat (.int st.length),.dat (.lst (st.map .int)),.dat (.int a),.own (.lst (o++[.str y])),.dat (.int k),.dat (.lst S),.dat (.str y)]=[.io (pD q),.dat (.int m),.dat (.str "abcdefghijklmnopqrstuvwxyz"),.dat (.int st.length),u,.dat (.int a),.own (.lst (o++[jK (cy st a k)].map .str)),v,r,t]/\Hd u (.lst (st.map .int))/\Fr v/\(Fr r\/∃d,r=.own d)/\Fr t:=λy e=>e ▸ ⟨_,_,_,_,rfl,.inr rfl,.inr ⟨_,rfl⟩,.inl (.inr ⟨_,rfl⟩),.inr ⟨_,rfl⟩⟩
      have nx:jK (cy st a k)=if aY (cy st a k) then cy st a k++k0 "x" else cy st a k:=rfl
      generalize cy st a k=x at *;refine' ag (ck (b:=aY x) (aP (ao rfl (af (bA (aa rfl (aa rfl (aa rfl (aa rfl ai)))) (show 4<=dk by unfold dk;decide)) rfl) iw)) ?yes ?no)
      case yes =>
       intro B;rw[B] at nx;exact ag (aI (ao rfl rfl Si) rfl (ak (aB (ak (ag (gb (gr rfl rfl ln) (ak (aB (I _ nx.symm)))))))))
      case no =>
       intro B;rw[B] at nx;exact aB (ak (ag (gb (gr rfl rfl ln) (ak (aB (I _ nx.symm))))))
structure Gd (o:Ob) (rs:Fl):Prop where
 c:Cuts o (rs.map (·.2))
 f:dS (rs.map (·.2))
def Bd(o:Ob):Prop:=o.l=0/\o.b=0/\0<o.r/\o.r<=999/\0<o.t/\o.t<=999
def LZ(v:Int)(ys:List Int):fu false (.int v) (.lst (ys.map .int))=some (.dat (.bl (decide (v∈ys)))):=by
 have a:bD (.lst (ys.map .int))=true:=jA (by
  show (ys.map Dat.int).all fh=true;rw[hG];intro d hd;obtain⟨y,_,rfl⟩:=bg.mp hd;rfl)
 show (if (bD (.int v)&&bD (.lst (ys.map .int)))=true then some (Res.dat (.bl (inD (.int v) (ys.map .int)))) else none)=_
 rw[kF,a];have e:inD (.int v) (ys.map .int)=decide (v∈ys):=by
  rw[nJ,XO,pB,u2,decide_eq_true_eq];constructor
  ·rintro⟨y,b,e⟩;have e:cJ (.int y) (.int v)=true:=e;rw[kI,decide_eq_true_eq] at e;exact e ▸ b
  ·exact λh=>⟨v,h,(kI v v).trans (decide_eq_true rfl)⟩
 rw[e];rfl
theorem Bn{Q:Out->Prop}{Ls:List Int}{f:Bool->Int->DS}{c:BF}{fb:SF}(g:∀b v,c (f b v)=some (decide (v∈Ls),f false v))(i:∀v,fb (f false v)=some (.next (f false (v+1)))):∀(n:Nat) (b:Bool) (v:Int),(Ls.filter (λx=>decide (v<=x))).length<n->(∀a,v<=a->a∉Ls->Q (.next (f false a)))->WS (gy c fb n) (f b v) Q
 | 0,_,_,h,_=>absurd h (zR _)
 | n+1,b,v,h,q=>by
  have e:=g b v
  by_cases d:v∈Ls
  ·rw[decide_eq_true d] at e;refine Am e (i v) (Bn g i n false (v+1) ?_ λa h1 j=>q a (by omega) j)
   have k:Ls.filter (λx=>decide (v+1<=x))=(Ls.filter λx=>decide (v<=x)).filter λx=>decide (v+1<=x):=by
    rw[List.filter_filter];refine VR λx _=>?_
    by_cases h:v+1<=x
    ·rw[decide_eq_true h,decide_eq_true (by omega:v<=x)];rfl
    ·rw[decide_eq_false h];rfl
   have:=List.length_filter_lt_length_iff_exists (l:=Ls.filter λx=>decide (v<=x)) (p:=λx=>decide (v+1<=x)) |>.mpr ⟨v,hF.mpr ⟨d,decide_eq_true (Wr v)⟩,by simp;lia⟩
   rw[k];omega
  ·rw[decide_eq_false d] at e;exact yU e (q v (Wr v) d)
def co(k:Nat)(o:Ob):Int:=if k=1 then o.l else if k=2 then o.b else if k=3 then o.r else o.t
def kE(k:Nat)(c:Int)(o:Ob):Ob:=if k=1 then ⟨o.l,o.b,c,o.t⟩ else ⟨o.l,o.b,o.r,c⟩
def oF(k:Nat)(c:Int)(o:Ob):Ob:=if k=1 then ⟨c,o.b,o.r,o.t⟩ else ⟨o.l,c,o.r,o.t⟩
def mn(x:fk×Ob){k:Nat}(a:k=1\/k=2\/k=3\/k=4):cf (aE x) (.int (k:Int))=some (.int (co k x.2)):=by
 rcases a with rfl|rfl|rfl|rfl<;>rfl
def Gd.cut{o:Ob}{A B:Fl}{x:fk×Ob}(g:Gd o (A++x::B)){k:Nat}(j:k=1\/k=2){c:Int}(l:co k x.2<c)(m:c<co (k+2) x.2)(e:∀y∈A++x::B,co k y.2≠c/\co (k+2) y.2≠c)(nm:fk):Gd o (A++[(x.1,kE k c x.2)]++B++[(nm,oF k c x.2)]):=by
 obtain⟨f,i⟩:=g;rw[eW,ka] at f i;have ok:x.2.ok:=by
  have:=f.aK x.2 (by simp)
  exact⟨this.2.1,this.2.2.2.2.1⟩
 have ex:(A.map (·.2)++x.2::B.map (·.2))[A.length]?=some x.2:=by
  rw[lz (by rw[ab];exact eT _),ab,XT]
  rfl
 have sp:∀d,Cuts x.2 d->Cuts o (A.map (·.2)++d++B.map (·.2)):=λd h=>by
  have:=f.Hx ex h;rw[List.take_left' (by rw[ab]),List.drop_append,ab,XN (by rw[ab];lia),Nat.add_sub_cancel_left,aa1] at this
  exact this
 have pm:∀a b:Ob,(A.map (·.2)++[a]++B.map (·.2)++[b]).Perm (A.map (·.2)++[a,b]++B.map (·.2)):=λa b=>by
  rw[pe,pe,pe];refine List.Perm.append_left _ ?_;show (a::(B.map (·.2)++[b])).Perm (a::b::B.map (·.2))
  exact (Xd b _).cons a
 constructor
 ·rw[eW,eW,eW];refine (sp [kE k c x.2,oF k c x.2] ?_).perm (pm _ _)
  rcases j with rfl|rfl
  ·exact Cuts.on ok l m
  ·exact Cuts.up ok l m
 ·rw[eW,eW,eW];have e:∀z∈A.map (·.2)++x.2::B.map (·.2),co k z≠c/\co (k+2) z≠c:=λz n=>by
   rw[<-ka,<-eW] at n;obtain⟨y,p,rfl⟩:=bg.mp n;exact e y p
  rcases j with rfl|rfl
  ·exact i.Gr ok e
  ·exact i.Qt ok e
def Fg(fn:fN):Prop:=∀(p:Int×Int) (rs:Fl) (nm:fk) (o:Ob),Bd o->Gd o rs->0<rs.length->rs.length<8->∃r b,fn (pD p) [aJ rs,.str nm]=some (r,b)/\∃(a:Fl) (c:Int×Int),r.val=aJ a/\b=pD c/\Gd o a/\(a=rs\/(a.map (·.1)).Perm (nm::rs.map (·.1)))
def RH(T:Txt mg)(p1:bq P w K mg base "_law_draw" 1 (dM K 0 iQ))(F:bw K "_law_cut" "_law_cut" xn f R):∃fn,bb P w K mg base a8 2 f R ["_law_purse_here","_law_rows","_law_name"] (dM K 0 fn)/\Fg fn:=by
 refine' p7 F ze rfl ?L ?M
 case L =>
  intro cdv A outer s H E hr;cases T;have lk:lI "_law_purse_here":=⟨trivial⟩
  walk_at "S"
 case M =>
  intro p rs nm o L g h0 h8;refine' pR rfl ?w
  case w =>
   have ln:cH (aJ rs)=some rs.length:=by simp[aJ,cH]
   obtain⟨v0,S,t0,a0,b0⟩:=fS p (m:=(rs.length:Int)) (by omega) (by omega)
   obtain⟨at_,rfl⟩:=I1 a0;have U:at_<rs.length:=by omega
   refine' ag (aI (dI rfl (aa (eJ rfl ln) ai) rfl t0 rfl) rfl (ak ?_));obtain⟨N,u,V,W,b1⟩:=fS S (m:=2) (by decide) (by decide)
   obtain⟨k,i,ek⟩:∃k:Nat,(k=1\/k=2)/\1+N=(k:Int):=⟨(1+N).toNat,by omega,by omega⟩
   refine' ag (aI (ao rfl (af (dI rfl (aa rfl ai) rfl V rfl) rfl) (by show some (Res.dat (.int (1+N)))=_;rw[ek])) rfl (ak ?_))
   obtain⟨x,ex⟩:∃x,rs[at_]?=some x:=⟨_,cm U⟩;have hx:=eS ex;have ir:cf (aJ rs) (.int (at_:Int))=some (aE x):=by
    show dU (rs.map aE) at_=_;exact kj (by rw[cR,ex];rfl)
   refine' ag (aI (Z2:=[.io (pD u),.dat (aJ rs),.dat (.str nm),.dat (.int at_),.dat (.int k),.dat (aE x),.no,.no,.no,.no]) (v_res (a9 rfl rfl rfl ir)) rfl (ak ?_));have G:∀y,cf (aE y) (.int (k:Int))=some (.int (co k y.2)):=λy=>mn y (by omega)
   have I:∀y,cf (aE y) (.int ((k:Int)+2))=some (.int (co (k+2) y.2)):=λy=>mn y (k:=k+2) (by omega)
   have bx:∀y∈rs,0<=co k y.2/\co k y.2<co (k+2) y.2/\co (k+2) y.2<=999:=λy B=>by
    have:=g.c.aK y.2 (bg.mpr ⟨y,B,rfl⟩);unfold Bd at L
    rcases i with rfl|rfl
    ·show 0<=y.2.l/\y.2.l<y.2.r/\y.2.r<=999;omega
    ·show 0<=y.2.b/\y.2.b<y.2.t/\y.2.t<=999;omega
   have hxb:=bx x hx;have gO:∀(q:Int×Int),∃(h:Fl) (p':Int×Int),(Res.dat (aJ rs)).val=aJ h/\pD q=pD p'/\Gd o h/\(h=rs\/(h.map (·.1)).Perm (nm::rs.map (·.1))):=λq=>⟨rs,q,rfl,rfl,g,.inl rfl⟩
   refine' ag (ck (aP (ao (r:=.dat (.bl (decide (co (k+2) x.2-co k x.2<2)))) (af (ao (a9 rfl (af (ao rfl rfl rfl) rfl) rfl (I x)) (a9 rfl rfl rfl (G x)) rfl) rfl) rfl rfl)) ?X ?no)
   case X=>exact λ_=>ag (bc rfl (cG ⟨_,_,_,rfl,rfl,gO u⟩))
   case no =>
    intro Y;have Y:¬co (k+2) x.2-co k x.2<2:=by simpa using Y
    refine' aB (ak ?_);have sz:rs.length<=sizeLine:=by unfold dk;omega
    refine' ag (aI (Z2:=[.io (pD u),.dat (aJ rs),.dat (.str nm),.dat (.int at_),.dat (.int k),.dat (aE x),.own (.lst ((rs.map (λy=>co k y.2)++rs.map (λy=>co (k+2) y.2)).map .int)),.no,.no,.no]) (ao (r:=.own (.lst ((rs.map (λy=>co k y.2)++rs.map (λy=>co (k+2) y.2)).map .int))) (af (fw (enc:=aE) (xs:=rs) (λy=>[.no,.dat (aE y),.dat (.int k)]) (λy=>.int (co k y.2)) (cS rfl) rfl sz (by rintro y _ Z (rfl|⟨z,rfl⟩)<;>rfl) (λy _=>a9 rfl rfl rfl (G y)) (λ_ _=>rfl)) rfl) (af (fw (enc:=aE) (xs:=rs) (λy=>[.no,.dat (aE y),.dat (.int k)]) (λy=>.int (co (k+2) y.2)) (cS rfl) rfl sz (by rintro y _ Z (rfl|⟨z,rfl⟩)<;>rfl) (λy _=>a9 rfl (af (ao rfl rfl rfl) rfl) rfl (I y)) (λ_ _=>rfl)) rfl) ?add) rfl (ak ?_))
    case add =>
     rw[eW,gd,gd];exact if_pos (by rw[ab,ab];unfold dk;omega)
    generalize hL:rs.map (λy=>co k y.2)++rs.map (λy=>co (k+2) y.2)=Ls
    have Sh:Ls.length<1000:=by rw[<-hL,eH,ab,ab];omega
    obtain⟨v2,d,t2,a2,b2⟩:=fS u (m:=co (k+2) x.2-co k x.2-1) (by omega) (by omega)
    refine' ag (aI (Z2:=[.io (pD d),.dat (aJ rs),.dat (.str nm),.dat (.int at_),.dat (.int k),.dat (aE x),.own (.lst (Ls.map .int)),.dat (.int (co k x.2+1+v2)),.no,.no]) (ao (af (ao (a9 rfl rfl rfl (G x)) rfl rfl) rfl) (af (dI rfl (aa (af (ao (af (ao (a9 rfl (af (ao rfl rfl rfl) rfl) rfl (I x)) (a9 rfl rfl rfl (G x)) rfl) rfl) rfl rfl) rfl) ai) rfl t2 rfl) rfl) rfl) rfl (ak ?_));refine' ag (Bn (Ls:=Ls) (f:=λb v=>[.io (pD d),.dat (aJ rs),.dat (.str nm),.dat (.int at_),.dat (.int k),.dat (aE x),(if b then .own (.lst (Ls.map .int)) else .dat (.lst (Ls.map .int))),.dat (.int v),.no,.no]) ?w1 ?w2 pO true _ ?w3 ?w4)
    case w1=>exact λb v=>by cases b<;>exact aP (ao rfl rfl (LZ v Ls))
    case w2=>exact λv=>rfl
    case w3=>exact VG (z3 _ _) Sh
    case w4 =>
     intro c hc C;show AQ _ _ (.next [.io (pD d),.dat (aJ rs),.dat (.str nm),.dat (.int at_),.dat (.int k),.dat (aE x),.dat (.lst (Ls.map .int)),.dat (.int c),.no,.no]);refine' ak (ag (ck (aP (ao (r:=.dat (.bl (decide (co (k+2) x.2<=c)))) rfl (a9 rfl (af (ao rfl rfl rfl) rfl) rfl (I x)) rfl)) ?y2 ?O))
     case y2=>exact λ_=>ag (bc rfl (cG ⟨_,_,_,rfl,rfl,gO d⟩))
     case O =>
      intro J;have J:¬co (k+2) x.2<=c:=by simpa using J
      refine' aB (ak ?_);have n1:∀l:List Dat,l.length=5->ff l.length ((k:Int)+2)=some (k+2):=λl hl=>by
       rw[hl]
       rcases i with rfl|rfl<;>rfl
      have O:∀l:List Dat,l.length=5->ff l.length (k:Int)=some k:=λl hl=>by
       rw[hl]
       rcases i with rfl|rfl<;>rfl
      have n0:∀l:List Dat,l.length=5->ff l.length 0=some 0:=λl hl=>by
       rw[hl];rfl
      obtain⟨ds,D⟩:∃ds,ds=[Dat.str x.1,.int x.2.l,.int x.2.b,.int x.2.r,.int x.2.t]:=⟨_,rfl⟩;have er:aE x=.tup ds:=by rw[D];rfl
      have Q:ds.length=5:=by rw[D];rfl
      have eL:Dat.tup (ds.set (k+2) (.int c))=aE (x.1,kE k c x.2):=by
       rw[D]
       rcases i with rfl|rfl<;>rfl
      have eU:Dat.tup ((ds.set 0 (.str nm)).set k (.int c))=aE (nm,oF k c x.2):=by
       rw[D]
       rcases i with rfl|rfl<;>rfl
      clear D;rw[er];refine' ag (aI (Z2:=[.io (pD d),.dat (aJ rs),.dat (.str nm),.dat (.int at_),.dat (.int k),.dat (.tup ds),.dat (.lst (Ls.map .int)),.dat (.int c),.own (.lst ds),.no]) (aF (aa rfl ai) rfl) rfl (ak ?_));refine' ag ⟨_,gg (tX (Z3:=[.io (pD d),.dat (aJ rs),.dat (.str nm),.dat (.int at_),.dat (.int k),.dat (.tup ds),.dat (.lst (Ls.map .int)),.dat (.int c),.own (.lst (ds.set (k+2) (.int c))),.no]) rfl rfl (af (ao rfl rfl rfl) rfl) rfl (n1 ds Q) rfl),ak ?_⟩;refine' ag (aI (Z2:=[.io (pD d),.dat (aJ rs),.dat (.str nm),.dat (.int at_),.dat (.int k),.dat (.tup ds),.dat (.lst (Ls.map .int)),.dat (.int c),.own (.lst (ds.set (k+2) (.int c))),.own (.lst ds)]) (aF (aa rfl ai) rfl) rfl (ak ?_));refine' ag ⟨_,gg (tX (Z3:=[.io (pD d),.dat (aJ rs),.dat (.str nm),.dat (.int at_),.dat (.int k),.dat (.tup ds),.dat (.lst (Ls.map .int)),.dat (.int c),.own (.lst (ds.set (k+2) (.int c))),.own (.lst (ds.set 0 (.str nm)))]) rfl rfl rfl rfl (n0 ds Q) rfl),ak ?_⟩;refine' ag ⟨_,gg (tX (Z3:=[.io (pD d),.dat (aJ rs),.dat (.str nm),.dat (.int at_),.dat (.int k),.dat (.tup ds),.dat (.lst (Ls.map .int)),.dat (.int c),.own (.lst (ds.set (k+2) (.int c))),.own (.lst ((ds.set 0 (.str nm)).set k (.int c)))]) rfl rfl rfl rfl (O _ (by rw[H9];exact Q)) rfl),ak ?_⟩
      have Sk:eI (aJ rs) none (some (at_:Int))=some (.own (.lst ((rs.take at_).map aE))):=by
       show some (Res.own (.lst (cutD (rs.map aE) none (some (at_:Int)))))=_;rw[mJ,Vo]
      have Sl:eI (aJ rs) (some ((at_:Int)+1)) none=some (.own (.lst ((rs.drop (at_+1)).map aE))):=by
       show some (Res.own (.lst (cutD (rs.map aE) (some ((at_+1:Nat):Int)) none)))=_;rw[mP,Vp]
      have ad:∀(a b:Fl),a.length<=20->b.length<=20->g8 (.lst (a.map aE)) (.lst (b.map aE))=some (.own (.lst ((a++b).map aE))):=λa b h1 h2=>by
       rw[eW];exact if_pos (by rw[ab,ab];unfold dk;omega)
      have V:(rs.take at_).length<=8:=by rw[mv];omega
      have t2:(rs.drop (at_+1)).length<=8:=by rw[se];omega
      have s1:1<=sizeLine:=by unfold dk;decide
      have cL:oZ [.lst (ds.set (k+2) (.int c))]=some (.dat (aE (x.1,kE k c x.2))):=by rw[<-eL];rfl
      have cU:oZ [.lst ((ds.set 0 (.str nm)).set k (.int c))]=some (.dat (aE (nm,oF k c x.2))):=by rw[<-eU];rfl
      have W:=ad (rs.take at_) [(x.1,kE k c x.2)] (by omega) (by simp)
      have a2:=ad (rs.take at_++[(x.1,kE k c x.2)]) (rs.drop (at_+1)) (by rw[eH];simp;omega) (by omega)
      have a3:=ad (rs.take at_++[(x.1,kE k c x.2)]++rs.drop (at_+1)) [(nm,oF k c x.2)] (by rw[eH,eH];simp;omega) (by simp)
      generalize ds.set (k+2) (.int c)=dl at *;generalize (ds.set 0 (.str nm)).set k (.int c)=du at *;refine' ag (bc (ao (af (ao (af (ao (af (jv rfl rfl Sk) rfl) (af (bA (aa (af (aF (aa rfl ai) cL) rfl) ai) s1) rfl) W) rfl) (af (jX rfl (af (ao rfl rfl rfl) rfl) Sl) rfl) a2) rfl) (af (bA (aa (af (aF (aa rfl ai) cU) rfl) ai) s1) rfl) a3) (cG ⟨_,_,_,rfl,rfl,rs.take at_++[(x.1,kE k c x.2)]++rs.drop (at_+1)++[(nm,oF k c x.2)],d,rfl,rfl,?_,.inr ?_⟩))
      ·have e:=wD ex;have g':=g;rw[e] at g';refine g'.cut i (by omega) (by omega) (λy B=>?_) nm
       rw[<-e] at B;rw[<-hL] at C;exact⟨λz=>C (eK.mpr (.inl (bg.mpr ⟨y,B,z⟩))),λz=>C (eK.mpr (.inr (bg.mpr ⟨y,B,z⟩)))⟩
      ·have e:=wD ex;rw[eW];refine (Xd nm _).trans (List.Perm.cons nm (ZV ?_))
       conv=>rhs;rw[e]
       simp
def Gd.top (b:Bd o)(g:Gd o rs):∃z∈rs,z.2.r=o.r/\z.2.t=o.t:=by
 unfold Bd at b;obtain⟨y,a,k1,k2,k3,k4⟩:=filled (W:=o.r.toNat) (H:=o.t.toNat) (x:=o.r-1) (y:=o.t-1) (λp d=>by
  have:=g.c.aK p d;exact⟨by omega,by omega,by omega,by omega,by omega,by omega⟩) g.c.ap (by
  rw[g.c.ar];delta Ob.fK;rw[b.1,b.2.1,Xa,Xa,Wg (by omega),Wg (by omega)]) (by omega) (by omega) (by omega) (by omega)
 have:=g.c.aK y a;obtain⟨z,e,rfl⟩:=bg.mp a;exact⟨z,e,by omega,by omega⟩
def Gd.BA (b:Bd o)(g:Gd o rs):di rs=o.r/\dc rs=o.t:=by
 obtain⟨z,e,f,h⟩:=g.top b;have i:=λx a=>g.c.aK x a
 constructor
 ·refine EK (λx a=>?_) (bg.mpr ⟨z,e,f⟩)
  obtain⟨y,d,rfl⟩:=bg.mp a;exact (i _ (bg.mpr ⟨y,d,rfl⟩)).2.2.1
 ·refine EK (λx a=>?_) (bg.mpr ⟨z,e,h⟩)
  obtain⟨y,d,rfl⟩:=bg.mp a;exact (i _ (bg.mpr ⟨y,d,rfl⟩)).2.2.2.2.2
structure Drawn (rs:Fl):Prop where
 fl:aQ rs
 mt:p9 rs=false
 ok:R7 rs
def Gd.drawn (b:Bd o)(g:Gd o rs)(k:rs.length<=8)(d:∀x∈rs,dW x.1=true)(nd:(rs.map (·.1)).Nodup):Drawn rs:=by
 obtain⟨m,n⟩:=g.BA b;obtain⟨z,j,_⟩:=g.top b;have i:∀x∈rs,o.l<=x.2.l/\x.2.l<x.2.r/\x.2.r<=o.r/\o.b<=x.2.b/\x.2.b<x.2.t/\x.2.t<=o.t:=λx a=>g.c.aK x.2 (bg.mpr ⟨x,a,rfl⟩)
 have q:=b;unfold Bd at q;refine⟨⟨λe=>(by rw[e] at j;cases j),k,d,λx a=>?_,nd,gs.mp g.c.ap,?_⟩,?_,⟨λx a=>p8 (d x a),λx a=>?_,by lia⟩⟩
 ·have:=i x a;omega
 ·have:=g.c.ar;rw[gd] at this;delta x6;simp only[m,n,show (λx:fk×Ob=>x.2.fK)=(Ob.fK ∘ λx:fk×Ob=>x.2) from rfl,this]
  delta Ob.fK;simp only[b.1,b.2.1,Xa]
 ·delta p9;rw[decide_eq_false_iff_not];rintro⟨p,_,h⟩;exact absurd (g.f p) (Nat.not_le.mpr h)
 ·have:=i x a;omega
def mH(W:Int)(o:Ob):Ob:=⟨W-o.r,o.b,W-o.l,o.t⟩
def Gd.uL (b:Bd o)(g:Gd o rs):Gd o (rs.map λy=>(y.1,mH o.r y.2)):=by
 have e:(rs.map λy=>(y.1,mH o.r y.2)).map (·.2)=(rs.map (·.2)).map (mH o.r):=by rw[gd,gd];rfl
 delta Bd at b;constructor
 ·rw[e];refine⟨λx a=>?_,?_,?_⟩
  ·obtain⟨y,d,rfl⟩:=bg.mp a;have:=g.c.aK y d;dsimp only[mH];omega
  ·refine gs.mpr (g.c.ap.imp λ{x y} h=>?_)
   unfold Apart at h ⊢;dsimp only[mH]
   lia
  ·rw[gd,<-g.c.ar];congr 1;refine ql λx _=>?_
   show (o.r-x.l-(o.r-x.r))*(x.t-x.b)=(x.r-x.l)*(x.t-x.b);congr 1
   lia
 ·rw[e];exact g.f.uL o.r
def Gd.one (x:fk)(h:o.ok):Gd o [(x,o)]:=⟨Cuts.one h,dS.one o h⟩
theorem Gd.perm{o:Ob}{rs a:Fl}(g:Gd o rs)(p:a.Perm rs):Gd o a:=⟨g.c.perm (p.map _),g.f.perm (p.map _)⟩
def Gd.GG(a b c d e):Gd ⟨0,0,300,300⟩ [(a,⟨0,0,200,100⟩),(b,⟨200,0,300,200⟩),(c,⟨100,200,300,300⟩),(d,⟨0,100,100,300⟩),(e,⟨100,100,200,200⟩)]:=by
 refine⟨Cuts.Lh (by decide) (by decide) (by decide) (by decide) (by decide) (by decide),λp=>?_⟩
 have key:∀q∈dm [⟨0,0,200,100⟩,⟨200,0,300,200⟩,⟨100,200,300,300⟩,⟨0,100,100,300⟩,⟨100,100,200,200⟩],(dm [⟨0,0,200,100⟩,⟨200,0,300,200⟩,⟨100,200,300,300⟩,⟨0,100,100,300⟩,⟨100,100,200,200⟩]).count q<=3:=by decide +kernel
 by_cases h:p∈dm [⟨0,0,200,100⟩,⟨200,0,300,200⟩,⟨100,200,300,300⟩,⟨0,100,100,300⟩,⟨100,100,200,200⟩]
 ·exact key p h
 ·show (dm [⟨0,0,200,100⟩,⟨200,0,300,200⟩,⟨100,200,300,300⟩,⟨0,100,100,300⟩,⟨100,100,200,200⟩]).count p<=3;rw[Yk.mpr h]
  lia
def Mb{a:AF}{Z Z1:DS}{lo n:Int}(h:a Z=some ([.int lo,.int n],Z1))(b:-(2 ^ 62)<=lo/\lo<2 ^ 62/\-(2 ^ 62)<=n/\n<2 ^ 62):qB a Z=some (dH lo n,Z1):=by
 delta qB;rw[h];exact if_pos b
def Ln{lo n:Int}{k:Nat}{x:Dat}(h:(dH lo n)[k]?=some x):lo+(k:Int)<n/\x=.int (lo+k):=by
 have a:=(cn.mp h).1;unfold dH at a h;rw[cR] at h;rw[ab,kH] at a;rw[zd a] at h;simp at h;exact⟨by omega,h.symm⟩
theorem Ol (d:rs≠[])(nd:(rs.map (·.1)).Nodup)(h:rs.length<64):mz [aJ rs]=some (.own (aJ (qM rs))):=by
 have e:dB (rs.map aE)=none:=by
  cases rs with
  | nil=>exact absurd rfl d
  | cons x l=>rfl
 show (match dB (rs.map aE) with
  | some c=>if c.length<64 then some (Res.own (.lst ((bW c).map .str))) else none
  | none=>m9 [.lst (rs.map aE)])=_
 rw[e];show (firstsD (rs.map aE)).bind _=_;rw[NN];show (if _ then _ else _)=_
 rw[if_pos ⟨nd,by rw[ab];exact h⟩,Jj rs aE λa _ b _=>rfl]
 rfl
def O4(rs):(qM rs).Perm rs:=ib _ _
def zj(fn:fN):Prop:=∀p (m:Nat),1<=m->m<=8->∃r a,fn (pD p) [.int m]=some (r,a)/\∃(rs:Fl) (b:Int×Int),r=.own (aJ rs)/\a=pD b/\Drawn rs
theorem N7(T:Txt mg)(p1:bq P w K mg base "_law_draw" 1 (dM K 0 iQ))(p2:bq P w K mg base "_law_names" 2 (dM K 0 Sm))(s2:C0 Sm)(p3:bq P w K mg base "_law_cut" 2 (dM K 0 Sn))(s3:Fg Sn)(F:bw K "_law_floor" "_law_floor" xi f fd):∃fn,bb P w K mg base a8 3 f fd ["_law_purse_here","_law_most"] (dM K 0 fn)/\zj fn:=by
 refine' p7 F AK rfl ?hb ?post
 case hb =>
  intro cdv A outer s H E hr;have nd:=AK.nd;cases T;have lk:lI "_law_purse_here":=⟨trivial⟩
  walk_at "S"
 case post =>
  intro p m m1 m8;refine' pR rfl ?w
  case w =>
   obtain⟨r,c1,e1,a,q1,rfl,rfl,hl,SH,So⟩:=s2 p m m8;have U:∀j:Nat,j<m->∃x,a[j]?=some x/\cf (.lst (a.map .str)) (.int (j:Int))=some (.str x):=λj hj=>by
    have Sq:j<a.length:=by omega
    refine⟨a[j],cm Sq,?_⟩;exact kj (by rw[cR,cm Sq];rfl)
   refine' ag (aI (dI rfl (aa rfl ai) rfl e1 rfl) rfl (ak ?_));obtain⟨D,w0,i0⟩:=U 0 (by lia)
   obtain⟨G,q2,t2,a2,b2⟩:=fS q1 (m:=400) (by decide) (by decide)
   obtain⟨I,q3,B,a3,b3⟩:=fS q2 (m:=400) (by decide) (by decide)
   have s1:1<=sizeLine:=by unfold dk;decide
   have J:5<=sizeLine:=by unfold dk;decide
   refine' ag (aI (bA (aa (cu (aa (a9 rfl rfl rfl i0) (aa rfl (aa rfl (aa (af (ao rfl (af (dI rfl (aa rfl ai) rfl t2 rfl) rfl) rfl) rfl) (aa (af (ao rfl (af (dI rfl (aa rfl ai) rfl B rfl) rfl) rfl) rfl) ai))))) J) ai) s1) rfl (ak ?_));obtain⟨c,q4,t4,a4,b4⟩:=fS q3 (m:=(m:Int)) (by omega) (by omega)
   refine' ag (aI (ao rfl (af (dI rfl (aa rfl ai) rfl t4 rfl) rfl) rfl) rfl (ak ?_));have tk:∀{j:Nat}{x:fk},a[j]?=some x->a.take (j+1)=a.take j++[x]:=λ{j x} e=>fH e
   refine' ag (WS.mono (Q:=λu=>∃(q:Int×Int) (rs:Fl) (o:Ob),u=.next [.io (pD q),.dat (.int m),.own (.lst (a.map .str)),.own (aJ rs),.dat (.int (1+c)),.no,.no]/\Bd o/\Gd o rs/\rs.map (·.1)=a.take rs.length/\1<=rs.length/\rs.length<=m) ?first ?L)
   case first =>
    have dflt:∀q,∃(V:Int×Int) (rs:Fl) (o:Ob),Out.next [.io (pD q),.dat (.int m),.own (.lst (a.map .str)),.own (aJ [(D,⟨0,0,600+G,600+I⟩)]),.dat (.int (1+c)),.no,.no]=.next [.io (pD V),.dat (.int m),.own (.lst (a.map .str)),.own (aJ rs),.dat (.int (1+c)),.no,.no]/\Bd o/\Gd o rs/\rs.map (·.1)=a.take rs.length/\1<=rs.length/\rs.length<=m:=λq=>⟨q,_,⟨0,0,600+G,600+I⟩,rfl,⟨rfl,rfl,show 0<600+G by omega,show 600+G<=999 by omega,show 0<600+I by omega,show 600+I<=999 by omega⟩,Gd.one D ⟨show 0<600+G by omega,show 0<600+I by omega⟩,by
     have:=tk w0;rw[Y'] at this;exact this.symm,eT _,m1⟩
    obtain⟨v5,q5,v,a5,b5⟩:=fS q4 (m:=2) (by decide) (by decide)
    have g4:fE (cK (fZ (λ_ _=>true) λi j=>Dat.bl (decide (j<i))) (eC 4) (fC (.int 4))) [.io (pD q4),.dat (.int m),.own (.lst (a.map .str)),.own (aJ [(D,⟨0,0,600+G,600+I⟩)]),.dat (.int (1+c)),.no,.no]=some (decide (4<1+c),_):=aP (ao rfl rfl rfl)
    refine' uN (AB (ud g4 ⟨λh=>?_,λ_=>⟨nofun,λ_=>aB (dflt q4)⟩⟩))
    have h:4<1+c:=of_decide_eq_true h;refine' ud (aP (ao (af (dI rfl (aa rfl ai) rfl v rfl) rfl) rfl (eq_int _ _))) ⟨λ_=>?_,λ_=>aB (dflt q5)⟩
    obtain⟨x1,w1,i1⟩:=U 1 (by omega)
    obtain⟨x2,w2,i2⟩:=U 2 (by omega)
    obtain⟨x3,w3,i3⟩:=U 3 (by omega)
    obtain⟨x4,w4,i4⟩:=U 4 (by omega)
    have s3:3<=sizeLine:=by unfold dk;decide
    have s2:2<=sizeLine:=by unfold dk;decide
    refine' ag (aI (Z2:=[.io (pD q5),.dat (.int m),.own (.lst (a.map .str)),.own (aJ [(D,⟨0,0,200,100⟩),(x1,⟨200,0,300,200⟩),(x2,⟨100,200,300,300⟩)]),.dat (.int (1+c)),.no,.no]) (bA (aa (cu (aa (a9 rfl rfl rfl i0) rfl) J) (aa (cu (aa (a9 rfl rfl rfl i1) rfl) J) (aa (cu (aa (a9 rfl rfl rfl i2) rfl) J) ai))) s3) rfl (ak ?_));refine' ag (aI (Z2:=[.io (pD q5),.dat (.int m),.own (.lst (a.map .str)),.own (aJ [(D,⟨0,0,200,100⟩),(x1,⟨200,0,300,200⟩),(x2,⟨100,200,300,300⟩),(x3,⟨0,100,100,300⟩),(x4,⟨100,100,200,200⟩)]),.dat (.int (1+c)),.no,.no]) (ao rfl (af (bA (aa (cu (aa (a9 rfl rfl rfl i3) rfl) J) (aa (cu (aa (a9 rfl rfl rfl i4) rfl) J) ai)) s2) rfl) rfl) rfl (ak (aB ?_)));refine⟨q5,_,⟨0,0,300,300⟩,rfl,⟨rfl,rfl,by decide,by decide,by decide,by decide⟩,Gd.GG D x1 x2 x3 x4,?_,by simp,by simp;omega⟩
    show [D,x1,x2,x3,x4]=a.take 5;rw[tk w4,tk w3,tk w2,tk w1,tk w0];rfl
   case L =>
    rintro _ ⟨q,b,o,rfl,bo,g0,en,l1,lm⟩;refine' ak ?_;have ln:cH (aJ b)=some b.length:=by simp[aJ,cH]
    refine' ag (dO (λk Z=>∃(q:Int×Int) (rs:Fl) (B v:Slot),Z=[.io (pD q),.dat (.int m),.own (.lst (a.map .str)),B,.dat (.int (1+c)),v,.no]/\Hd B (aJ rs)/\Fr v/\Gd o rs/\1<=rs.length/\rs.length<=b.length+k/\(rs.map (·.1)).Nodup/\∀y∈rs.map (·.1),y∈a.take (b.length+k)) (Mb (aa (eJ rfl ln) (aa rfl ai)) ⟨by omega,by omega,by omega,by omega⟩) ⟨q,b,_,_,rfl,.inl rfl,.inl rfl,g0,l1,eT _,by rw[en];exact oi (Wu _ _) So,λy M=>by rw[en] at M;exact M⟩ ?st ?fin)
    case st =>
     rintro k x hx _ ⟨q,rs,B,v,rfl,h3,f5,g,W,Sr,X,C⟩;obtain⟨hk,rfl⟩:=Ln hx;obtain⟨x,wx,ix⟩:=U (b.length+k) (by omega)
     have ix:cf (.lst (a.map .str)) (.int ((b.length:Int)+k))=some (.str x):=ix;refine⟨[.io (pD q),.dat (.int m),.own (.lst (a.map .str)),B,.dat (.int (1+c)),.dat (.int ((b.length:Int)+k)),.no],by rcases f5 with rfl|⟨d,rfl⟩<;>rfl,?_⟩
     obtain⟨r,c1,ec,l,V,er,rfl,g',R⟩:=s3 q rs x o bo g W (by omega)
     have f3:eC 3 [.io (pD q),.dat (.int m),.own (.lst (a.map .str)),B,.dat (.int (1+c)),.dat (.int ((b.length:Int)+k)),.no]=some (aJ rs,[.io (pD q),.dat (.int m),.own (.lst (a.map .str)),.dat (aJ rs),.dat (.int (1+c)),.dat (.int ((b.length:Int)+k)),.no]):=by rcases h3 with rfl|rfl<;>rfl
     have tw:=tk wx;have nx:x∉a.take (b.length+k):=λz=>by
      have:=oi (Wu (b.length+k+1) a) So;rw[tw,VV] at this;exact this.2.2 x z x (by simp) rfl
     have key:∃t,j4 3 r [.io (pD V),.dat (.int m),.own (.lst (a.map .str)),.dat (aJ rs),.dat (.int (1+c)),.dat (.int ((b.length:Int)+k)),.no]=some [.io (pD V),.dat (.int m),.own (.lst (a.map .str)),t,.dat (.int (1+c)),.dat (.int ((b.length:Int)+k)),.no]/\Hd t (aJ l):=by
      cases r with
      | dat d=>exact⟨_,rfl,.inr (by rw[<-er];rfl)⟩
      | own d=>exact⟨_,rfl,.inl (by rw[<-er];rfl)⟩
     obtain⟨t,e3,Y⟩:=key;refine' ag (aI (dI rfl (aa f3 (aa (a9 rfl rfl rfl ix) ai)) rfl ec rfl) e3 (ak (aB ⟨V,l,t,_,rfl,Y,.inr ⟨_,rfl⟩,g',?_,?_,?_,?_⟩)))
     ·rcases R with rfl|N
      ·exact W
      ·have:=N.length_eq;rw[ab,fv] at this;omega
     ·rcases R with rfl|N
      ·omega
      ·have:=N.length_eq;rw[ab,fv,ab] at this;omega
     ·rcases R with rfl|N
      ·exact X
      ·exact N.nodup_iff.mpr (pA.mpr ⟨λz=>nx (C x z),X⟩)
     ·intro y M;show y∈a.take (b.length+k+1);rw[tw,eK]
      rcases R with rfl|N
      ·exact .inl (C y M)
      ·rcases f'.mp (N.mem_iff.mp M) with rfl|z
       ·exact .inr (by simp)
       ·exact .inl (C y z)
    case fin =>
     rintro _ ⟨q,rs,B,v,rfl,h3,f5,g,W,Sr,X,C⟩;have hlen:(dH (b.length:Int) (1+c)).length<=8-b.length:=by unfold dH;rw[ab,kH];omega
     have h8:rs.length<=8:=by omega
     have SU:∀y∈rs.map (·.1),dW y=true:=λy M=>SH y (VX (C y M))
     clear C Sr;obtain⟨v6,O,t6,a6,b6⟩:=fS q (m:=2) (by decide) (by decide)
     refine' ak (ag (WS.mono (Q:=λu=>∃(l:Fl) (t t6:Slot),u=.next [.io (pD O),.dat (.int m),.own (.lst (a.map .str)),t,.dat (.int (1+c)),v,t6]/\Hd t (aJ l)/\Gd o l/\l.map (·.1)=rs.map (·.1)) (ck (aP (ao (af (dI rfl (aa rfl ai) rfl t6 rfl) rfl) rfl (eq_int _ _))) ?yes ?no) ?L))
     case no=>exact λ_=>aB ⟨rs,B,_,rfl,h3,g,rfl⟩
     case yes =>
      intro _;have sz:rs.length<=sizeLine:=by unfold dk;omega
      have f3:alt (jJ (eC 3)) (kn (eC 3)) [.io (pD O),.dat (.int m),.own (.lst (a.map .str)),B,.dat (.int (1+c)),v,.no]=some (rs.map aE,[.io (pD O),.dat (.int m),.own (.lst (a.map .str)),.dat (aJ rs),.dat (.int (1+c)),v,.no]):=cS (by rcases h3 with rfl|rfl<;>rfl)
      have mx:h9 (rs.map λy=>y.2.r)=o.r:=(g.BA bo).1
      have bm:=Qh (λy:fk×Ob=>y.2.r) (cs:=rs) (λe=>by rw[e] at W;simp at W)
      rw[mx] at bm;refine' ag (aI (Z2:=[.io (pD O),.dat (.int m),.own (.lst (a.map .str)),.dat (aJ rs),.dat (.int (1+c)),v,.dat (.int o.r)]) (aF (aa (af (fw (enc:=aE) (xs:=rs) (λy=>[.no,.dat (aE y)]) (λy=>.int y.2.r) f3 rfl sz ?a1 (λy _=>a9 rfl rfl rfl rfl) (λ_ _=>rfl)) rfl) ai) bm) rfl (ak ?_))
      case a1=>rintro y _ Z (rfl|⟨z,rfl⟩)<;>rfl
      refine' ag (aI (Z2:=[.io (pD O),.dat (.int m),.own (.lst (a.map .str)),.own (aJ (rs.map λy=>(y.1,mH o.r y.2))),.dat (.int (1+c)),v,.dat (.int o.r)]) (fw (enc:=aE) (xs:=rs) (λy=>[.no,.dat (aE y),.dat (.int o.r)]) (λy=>aE (y.1,mH o.r y.2)) (cS rfl) rfl sz ?a2 (λy _=>cu (aa (a9 rfl rfl rfl rfl) (aa (af (ao rfl (a9 rfl rfl rfl rfl) rfl) rfl) (aa (a9 rfl rfl rfl rfl) (aa (af (ao rfl (a9 rfl rfl rfl rfl) rfl) rfl) (aa (a9 rfl rfl rfl rfl) ai))))) J) (λ_ _=>rfl)) ?a3 (ak (aB ⟨_,_,_,rfl,.inl rfl,g.uL bo,?a4⟩)))
      case a2=>rintro y _ Z (rfl|⟨z,rfl⟩)<;>rfl
      case a3=>unfold aJ;rw[gd];rfl
      case a4=>rw[gd];rfl
     case L =>
      rintro _ ⟨l,t,SW,rfl,Y,g',S⟩;have Ss:l.length=rs.length:=by have:=congrArg List.length S;rw[ab,ab] at this;exact this
      have pm:=O4 l;refine' ak (ag (bc (gg (aF (aa (Z1:=[.io (pD O),.dat (.int m),.own (.lst (a.map .str)),.dat (aJ l),.dat (.int (1+c)),v,SW]) ?b1 ai) (Ol (λe=>by rw[e] at Ss;simp at Ss;omega) (by rw[S];exact X) (by omega)))) (cG ⟨_,_,_,rfl,rfl,qM l,O,rfl,rfl,(g'.perm pm).drawn bo (by rw[pm.length_eq];omega) (λx hx=>SU _ (by rw[<-S];exact bg.mpr ⟨x,pm.mem_iff.mp hx,rfl⟩)) ((pm.map _).nodup_iff.mpr (by rw[S];exact X))⟩)))
      case b1=>rcases Y with rfl|rfl<;>rfl
def BW(fn:aS):Prop:=∀(x y:fk×Ob) (k:Nat),k=1\/k=2->x.2.ok->y.2.ok->fn [aE x,aE y,.int (k:Int)]=some (.dat (.bl (dz k x.2 y.2)))
def NC (a:k=1\/k=2)(c:x.ok)(d:y.ok):decide ((if co k y>co k x then co k y else co k x)<(if co (k+2) y<co (k+2) x then co (k+2) y else co (k+2) x))=dz k x y:=by
 delta Ob.ok at c d;rw[pB,decide_eq_true_eq]
 rcases a with rfl|rfl
 ·show (if y.l>x.l then y.l else x.l)<(if y.r<x.r then y.r else x.r) ↔ (decide (x.l<y.r)&&decide (y.l<x.r))=true
  simp;split<;>split<;>omega
 ·show (if y.b>x.b then y.b else x.b)<(if y.t<x.t then y.t else x.t) ↔ (decide (x.b<y.t)&&decide (y.b<x.t))=true
  simp;split<;>split<;>omega
def MY(T:Txt mg)(F:bw K "_law_meets" "_law_meets" vR f a):∃fn,bb P w K mg base a8 1 f a ["_law_one","_law_other","_law_low"] (aN K fn)/\BW fn:=by
 refine' cx F Dx rfl ?C ?B
 case C =>
  intro cdv A outer s H E hr;cases T
  walk_at "S"
 case B =>
  intro x y k d e g;have b:∀y,cf (aE y) (.int (k:Int))=some (.int (co k y.2)):=λy=>mn y (by lia)
  have c:∀y,cf (aE y) (.int ((k:Int)+2))=some (.int (co (k+2) y.2)):=λy=>mn y (k:=k+2) (by omega)
  refine' dg rfl ?w
  case w =>
   refine' ag (bc (ao (af (aF (aa (a9 rfl rfl rfl (b x)) (aa (a9 rfl rfl rfl (b y)) ai)) rfl) rfl) (af (aF (aa (a9 rfl (af (ao rfl rfl rfl) rfl) rfl (c x)) (aa (a9 rfl (af (ao rfl rfl rfl) rfl) rfl (c y)) ai)) rfl) rfl) ?_) (cG ⟨_,rfl⟩));rw[<-NC d e g];rfl
noncomputable def bR(k:Nat):Nat:=if k=0\/k=2 then 2 else 1
noncomputable def jc(k:Nat):Int:=if k<2 then 1 else -1
def gq(rs:Fl)(x:Ob)(k:Nat):List (Int×fk):=(rs.filter λy=>bC k x y.2).map λy=>(co (3-bR k) y.2,y.1)
def qO(k:Nat)(x y:Ob):Bool:=if k<2 then decide (co (bR k+2) x=co (bR k) y) else decide (co (bR k) x=co (bR k+2) y)
def Ie (c:k<4)(x y):bC k x y=(qO k x y&&dz (3-bR k) x y):=by
 have c:k=0\/k=1\/k=2\/k=3:=by omega
 rcases c with rfl|rfl|rfl|rfl
 ·show (decide (y.b=x.t)&&dz 1 x y)=(decide (x.t=y.b)&&dz 1 x y);rw[decide_eq_decide.mpr (eq_comm)]
 ·show (decide (y.l=x.r)&&dz 2 x y)=(decide (x.r=y.l)&&dz 2 x y);rw[decide_eq_decide.mpr (eq_comm)]
 ·show (decide (y.t=x.b)&&dz 1 x y)=(decide (x.b=y.t)&&dz 1 x y);rw[decide_eq_decide.mpr (eq_comm)]
 ·show (decide (y.r=x.l)&&dz 2 x y)=(decide (x.l=y.r)&&dz 2 x y);rw[decide_eq_decide.mpr (eq_comm)]
def Ek(fn:aS):Prop:=∀(rs:Fl) (x:fk×Ob) (k:Nat),k<4->rs.length<64->x.2.ok->(∀y∈rs,y.2.ok)->((gq rs x.2 k).map (·.1)).Nodup->fn [aJ rs,aE x,.int (bR k:Int),.int (jc k)]=some (.own (.lst (((da (gq rs x.2 k)).map (·.2)).map .str)))
theorem Mw (b:(l.map (·.1)).Nodup)(c:l.length<64)(a:fa Z=some ([.lst (l.map eV)],Z1)):alt (cg mz fa) (alt (cg qd fa) (cg mO fa)) Z=some (.own (.lst ((da l).map eV)),Z1):=by
 cases l with
 | nil =>
  refine gg (aF a ?_);have:da []=[]:=by unfold da;simp
  rw[this];refine (xB (l:=[]) (by decide)).trans ?_
  rw[show bW []=[] by unfold bW;simp]
  rfl
 | cons p l =>
  refine tz ?_ (gg (aF a (K3 b c)));delta cg;rw[a];rfl
def F7(T:Txt mg)(N:bq P w K mg base "_law_meets" 1 (aN K l))(O:BW l)(F:bw K "_law_side" "_law_side" xM f r):∃fn,bb P w K mg base a8 2 f r ["_law_rows","_law_one","_law_low","_law_way_here"] (aN K fn)/\Ek fn:=by
 refine' cx F zr rfl ?Q ?B
 case Q =>
  intro cdv A outer s H E hr;cases T
  walk_at "S"
 case B =>
  intro rs x k R S U V W;refine' dg rfl ?w
  case w =>
   have hl:bR k=1\/bR k=2:=by unfold bR;split<;>simp
   have t:∀y,cf (aE y) (.int (bR k:Int))=some (.int (co (bR k) y.2)):=λy=>mn y (by omega)
   have u:∀y,cf (aE y) (.int ((bR k:Int)+2))=some (.int (co (bR k+2) y.2)):=λy=>mn y (k:=bR k+2) (by omega)
   have v:(3:Int)-(bR k:Int)=((3-bR k:Nat):Int):=by omega
   have X:∀y,cf (aE y) (.int ((3:Int)-(bR k:Int)))=some (.int (co (3-bR k) y.2)):=λy=>by rw[v];exact mn y (by lia)
   have Y:l8 [.bl (decide (jc k=1))]=some (.dat (.int (if k<2 then 1 else 0))):=by
    delta jc
    by_cases h:k<2
    ·rw[if_pos h,if_pos h];rfl
    ·rw[if_neg h,if_neg h];rfl
   refine' ag (aI (bA ai (qh _)) rfl (ak ?_));have fs:∀j y,rs[j]?=some y->(((rs.take (j+1)).filter λy=>bC k x.2 y.2).map λy:fk×Ob=>eV (co (3-bR k) y.2,y.1))=(((rs.take j).filter λy=>bC k x.2 y.2).map λy:fk×Ob=>eV (co (3-bR k) y.2,y.1))++(if bC k x.2 y.2 then [eV (co (3-bR k) y.2,y.1)] else []):=λj y e=>by
    rw[fH e,Yj,eW];congr 1
    by_cases h:bC k x.2 y.2=true
    ·rw[if_pos h,z7,if_pos h];rfl
    ·rw[if_neg h,z7,if_neg h];rfl
   refine' ag (dO (λj Z=>∃c a,Fr c/\Fr a/\Z=[.dat (aJ rs),.dat (aE x),.dat (.int (bR k)),.dat (.int (jc k)),.own (.lst (((rs.take j).filter λy=>bC k x.2 y.2).map λy:fk×Ob=>eV (co (3-bR k) y.2,y.1))),c,a]) (cS rfl) ⟨_,_,.inl rfl,.inl rfl,rfl⟩ ?st ?C)
   case st =>
    rintro j d hd _ ⟨c,a,D,G,rfl⟩;rw[cR] at hd;obtain⟨y,I,rfl⟩:=hH.mp hd;have hy:=eS I;rw[fs j y I];have m:(((rs.take j).filter λy=>bC k x.2 y.2).map λy:fk×Ob=>eV (co (3-bR k) y.2,y.1)).length<sizeLine:=by
     rw[ab];refine VG (z3 _ _) ?_;rw[mv];delta dk;omega
    generalize (((rs.take j).filter λy=>bC k x.2 y.2).map λy:fk×Ob=>eV (co (3-bR k) y.2,y.1))=g at *
    refine⟨[.dat (aJ rs),.dat (aE x),.dat (.int (bR k)),.dat (.int (jc k)),.own (.lst g),.dat (aE y),a],by rcases D with rfl|⟨d,rfl⟩<;>rfl,?_⟩
    have pick:cf (.lst [.bl (decide (co (bR k) x.2=co (bR k+2) y.2)),.bl (decide (co (bR k+2) x.2=co (bR k) y.2))]) (.int (if k<2 then 1 else 0))=some (.bl (qO k x.2 y.2)):=by
     delta qO
     by_cases h:k<2
     ·rw[if_pos h,if_pos h];rfl
     ·rw[if_neg h,if_neg h];rfl
    have o:=Ie R x.2 y.2;have J:=O x y (3-bR k) (by omega) U (V y hy)
    rw[<-v] at J;have L:2<=sizeLine:=by unfold dk;decide
    refine' ag (aI (Z2:=[.dat (aJ rs),.dat (aE x),.dat (.int (bR k)),.dat (.int (jc k)),.own (.lst g),.dat (aE y),.dat (.bl (qO k x.2 y.2))]) (v_res (iG (af (bA (aa (af (ao (a9 rfl rfl rfl (t x)) (a9 rfl (af (ao rfl rfl rfl) rfl) rfl (u y)) (eq_int _ _)) rfl) (aa (af (ao (a9 rfl (af (ao rfl rfl rfl) rfl) rfl (u x)) (a9 rfl rfl rfl (t y)) (eq_int _ _)) rfl) ai)) L) rfl) (af (aF (aa (af (ao rfl rfl (eq_int _ _)) rfl) ai) Y) rfl) pick)) ?b1 (ak ?b2))
    case b1=>rcases G with rfl|⟨d,rfl⟩<;>rfl
    case b2 =>
     generalize qO k x.2 y.2=i at *;have no:bC k x.2 y.2=false->∃c a,Fr c/\Fr a/\[.dat (aJ rs),.dat (aE x),.dat (.int (bR k)),.dat (.int (jc k)),.own (.lst g),.dat (aE y),.dat (.bl i)]=[.dat (aJ rs),.dat (aE x),.dat (.int (bR k)),.dat (.int (jc k)),.own (.lst (g++if bC k x.2 y.2=true then [eV (co (3-bR k) y.2,y.1)] else [])),c,a]:=λh=>⟨_,_,.inr ⟨_,rfl⟩,.inr ⟨_,rfl⟩,by rw[h,if_neg (by simp),yv]⟩
     refine' ag (ck (b:=i) (iE rfl rfl) (λh=>?_) (λh=>aB (ak (aB (no (by rw[o,h];rfl))))))
     refine' ag (ck (b:=dz (3-bR k) x.2 y.2) (iE (af (aF (aa rfl (aa rfl (aa (af (ao rfl rfl rfl) rfl) ai))) J) rfl) rfl) (λq=>?_) (λq=>aB (ak (aB (ak (aB (no (by rw[o,h,q];rfl))))))))
     have e:bC k x.2 y.2=true:=by rw[o,h,q];rfl
     refine' ag (gb (gr (d:=eV (co (3-bR k) y.2,y.1)) rfl (aa (cu (aa (a9 rfl (af (ao rfl rfl rfl) rfl) rfl (X y)) (aa (a9 rfl rfl rfl rfl) ai)) L) ai) m) (ak (aB (ak (aB (ak (aB ⟨.dat (aE y),.dat (.bl i),.inr ⟨aE y,rfl⟩,.inr ⟨.bl i,rfl⟩,?_⟩)))))));rw[if_pos e];rfl
   case C =>
    rintro _ ⟨c,a,D,G,rfl⟩;rw[ab,r4];have ep:((rs.filter λy=>bC k x.2 y.2).map λy:fk×Ob=>eV (co (3-bR k) y.2,y.1))=(gq rs x.2 k).map eV:=by unfold gq;rw[gd];rfl
    have M:(gq rs x.2 k).length<64:=by
     unfold gq;rw[ab];exact VG (z3 _ _) S
    rw[ep];have e2:=Mw (fa:=iY (eC 4) mC) (Z:=[.dat (aJ rs),.dat (aE x),.dat (.int (bR k)),.dat (.int (jc k)),.own (.lst ((gq rs x.2 k).map eV)),c,a]) W M (aa rfl ai);refine' ak (ag (bc (fw (enc:=eV) (xs:=da (gq rs x.2 k)) (λp=>[.no,.dat (.int p.1),.dat (.str p.2)]) (λp=>.str p.2) (cS (af e2 rfl)) rfl ?b3 ?b4 (λ_ _=>rfl) (λ_ _=>rfl)) (cG ?b9)))
    case b3=>rw[uo];unfold dk;omega
    case b4=>rintro y _ Z (rfl|⟨z,rfl⟩)<;>rfl
    case b9 =>
     rw[gd];exact⟨_,rfl⟩
def bT(rs:Fl)(x:Ob)(k:Nat):List Str:=if (da (gq rs x k)).map (·.2)=[] then [ax k] else (da (gq rs x k)).map (·.2)
theorem sC (h:f Z=some (.lst (l.map .str),Z1))(b:g Z1=some (.lst [.str x],Z1)):nF f g Z=some (.lst ((if l=[] then [x] else l).map .str),Z1):=by
 delta nF;rw[h];cases l with
 | nil=>exact b
 | cons a l=>rfl
def EB (h:f Z=some (.lst ds,Z1))(a:g Z1=some (.int (-1),Z2)):mW f g Z=some (.own (.lst ds.reverse),Z2):=by
 delta mW;rw[h];show (g Z1).bind _=_;rw[a];rfl
def r8(a b:List fk)(h1:a.length<=1000)(h2:b.length<=1000):g8 (.lst (a.map .str)) (.lst (b.map .str))=some (.own (.lst ((a++b).map .str))):=by
 rw[eW];exact if_pos (by rw[ab,ab];unfold dk;omega)
def Nr (x)(k)(h:rs.length<64):(bT rs x k).length<=100:=by
 delta bT;split
 ·simp
 ·rw[ab,uo];delta gq;rw[ab];exact wd (z3 _ _) (by lia)
def A1(fn:aS):Prop:=∀(rs:Fl) (x:fk×Ob),rs.length<64->x.2.ok->(∀y∈rs,y.2.ok)->(∀k,k<4->((gq rs x.2 k).map (·.1)).Nodup)->fn [aJ rs,aE x]=some (.own (.lst ((bT rs x.2 0++(bT rs x.2 1).reverse++(bT rs x.2 2).reverse++bT rs x.2 3).map .str)))
def NH(T:Txt mg)(j:bq P w K mg base "_law_side" 2 (aN K b))(m:Ek b)(F:bw K "_law_neighbours" "_law_neighbours" vX f c):∃fn,bb P w K mg base a8 3 f c ["_law_rows","_law_one"] (aN K fn)/\A1 fn:=by
 refine' cx F Aq rfl ?I ?G
 case I =>
  intro cdv A outer s H E hr;cases T
  walk_at "S"
 case G =>
  intro rs x d o p q;refine' dg rfl ?w
  case w =>
   have e:=λk g=>m rs x k g d o p (q k g)
   have l:=λk=>Nr (rs:=rs) x.2 k d
   have a:1<=sizeLine:=by unfold dk;decide
   refine' ag (aI (v_res (sC (af (aF (aa rfl (aa rfl (aa rfl (aa rfl ai)))) (e 0 (by decide))) rfl) (af (bA (aa rfl ai) a) rfl))) rfl (ak ?_))
   refine' ag (aI (v_res (sC (af (aF (aa rfl (aa rfl (aa rfl (aa rfl ai)))) (e 1 (by decide))) rfl) (af (bA (aa rfl ai) a) rfl))) rfl (ak ?_))
   refine' ag (aI (v_res (sC (af (aF (aa rfl (aa rfl (aa rfl (aa rfl ai)))) (e 2 (by decide))) rfl) (af (bA (aa rfl ai) a) rfl))) rfl (ak ?_))
   refine' ag (aI (Z2:=[.dat (aJ rs),.dat (aE x),.dat (.lst ((bT rs x.2 0).map .str)),.dat (.lst ((bT rs x.2 1).map .str)),.dat (.lst ((bT rs x.2 2).map .str)),.dat (.lst ((bT rs x.2 3).map .str))]) (v_res (sC (af (aF (aa rfl (aa rfl (aa rfl (aa rfl ai)))) (e 3 (by decide))) rfl) (af (bA (aa rfl ai) a) rfl))) rfl (ak ?_))
   have l0:=l 0;have l1:=l 1;have l2:=l 2;have l3:=l 3;generalize bT rs x.2 0=A at *;generalize bT rs x.2 1=B at *;generalize bT rs x.2 2=C at *;generalize bT rs x.2 3=D at *;have h:=r8 A B.reverse (by lia) (by rw[L'];omega)
   have i:=r8 (A++B.reverse) C.reverse (by rw[eH,L'];omega) (by rw[L'];omega)
   have r:=r8 (A++B.reverse++C.reverse) D (by rw[eH,eH,L',L'];omega) (by omega)
   rw[YE] at h i;exact ag (bc (ao (af (ao (af (ao rfl (af (EB rfl rfl) rfl) h) rfl) (af (EB rfl rfl) rfl) i) rfl) rfl r) (cG ⟨_,rfl⟩))
def zk(fn:aS):Prop:=∀(rs:Fl),rs.length<64->(∀y∈rs,y.2.ok)->(∀x∈rs,∀k,k<4->((gq rs x.2 k).map (·.1)).Nodup)->fn [aJ rs]=some (.own (.lst ((rs.map λx=>(x.1,bT rs x.2 0++(bT rs x.2 1).reverse++(bT rs x.2 2).reverse++bT rs x.2 3)).map pairD)))
def QR(T:Txt mg)(e:bq P w K mg base "_law_neighbours" 3 (aN K a))(g:A1 a)(F:bw K "_law_web" "_law_web" uU f b):∃fn,bb P w K mg base a8 4 f b ["_law_rows"] (aN K fn)/\zk fn:=by
 refine' cx F Cr rfl ?C ?B
 case C =>
  intro cdv A outer s H E hr;cases T
  walk_at "S"
 case B =>
  intro rs h c i;refine' dg rfl ?w
  case w =>
   have sz:rs.length<=sizeLine:=by unfold dk;lia
   have j:2<=sizeLine:=by unfold dk;decide
   refine' ag (bc (fw (λy=>[.no,.dat (aE y),.dat (aJ rs)]) (λx=>pairD (x.1,bT rs x.2 0++(bT rs x.2 1).reverse++(bT rs x.2 2).reverse++bT rs x.2 3)) (cS rfl) rfl sz ?D (λy d=>cu (aa (a9 rfl rfl rfl rfl) (aa (af (aF (aa rfl (aa rfl ai)) (g rs y h (c y d) c (i y d))) rfl) ai)) j) (λ_ _=>rfl)) (cG ?G))
   case D=>rintro y _ Z (rfl|⟨z,rfl⟩)<;>rfl
   case G =>
    rw[gd];exact⟨_,rfl⟩
def EG (hw:cQ web)(cb:1<=web.length/\web.length<=8)(nm:∀p∈web,dW p.1=true):bU web:=by
 refine⟨cb,nm,hw.C.eX,λp b=>?_⟩
 have a:p.1∈web.map (·.1):=bg.mpr ⟨p,b,rfl⟩;have e:=dD hw.C.eX b;have c:=hw.C.len p.1 a;have d:=hw.C.nd p.1 a;have f:=hw.C.mem p.1 a;have g:=hw.C.fB p.1 a;rw[e] at c d f g;exact⟨c,d,λn h=>⟨f n h,λz=>g (z ▸ h)⟩⟩
def fV(web a:aT):Prop:=(a.map (·.1)).Perm (web.map (·.1))/\∀z∈a,∃p∈web,p.1=z.1/\gN p.2 z.2
def fV.ok (t:fV web a)(h:bU web)(hw:cQ web):bU a/\cQ a:=by
 have nd:=t.1.nodup_iff.mpr h.nd;have d:cQ a:=mV.turn hw t.1 λx f=>by
  obtain⟨z,b,rfl⟩:=bg.mp (t.1.mem_iff.mpr f);obtain⟨p,c,e,g⟩:=t.2 z b;rw[dD nd b,<-e,dD h.nd c];exact g
 have hl:=t.1.length_eq;rw[ab,ab] at hl;have cb:=h.cb;refine⟨EG d (by lia) λz b=>?_,d⟩
 obtain⟨p,c,e,_⟩:=t.2 z b;rw[<-e];exact h.nm p c
def Cw(L:Fl)(g:Ob->Int):(da (L.map λy=>(g y.2,y.1))).map (·.2)=(L.mergeSort λa b=>decide (g a.2<=g b.2)).map (·.1):=by
 delta da;rw[<-VD (f:=λy:fk×Ob=>(g y.2,y.1)) (λa _ b _=>rfl),gd]
 rfl
def PL{L:Fl}{g:Ob->Int}(nd:(L.map λy=>g y.2).Nodup):(L.mergeSort λa b=>decide (-g a.2 <= -g b.2))=(L.mergeSort λa b=>decide (g a.2<=g b.2)).reverse:=by
 have i:=ib L λa b=>decide (-g a.2 <= -g b.2)
 have j:=ib L λa b=>decide (g a.2<=g b.2)
 have m:=wm (le:=λa b:fk×Ob=>decide (-g a.2 <= -g b.2)) (λa b c d f=>by simp at *;omega) (λa b=>by simp;omega) L
 have n:=wm (le:=λa b:fk×Ob=>decide (g a.2<=g b.2)) (λa b c d f=>by simp at *;omega) (λa b=>by simp;omega) L
 refine mK (R:=λa b=>g b.2<=g a.2/\a∈L/\b∈L) (λa b d f=>?_) (i.trans (j.symm.trans (aaB _).symm)) ?_ ?_
 ·rcases jG (gs.mp nd) d.2.1 d.2.2 with e|e|e
  ·exact e
  ·exact absurd (X4 f.1 d.1) e
  ·exact absurd (X4 d.1 f.1) e
 ·refine m.imp_of_mem λ{a b} k l h=>⟨?_,i.mem_iff.mp k,i.mem_iff.mp l⟩
  lia
 ·rw[List.pairwise_reverse];exact n.imp_of_mem λ{a b} k l h=>⟨of_decide_eq_true h,j.mem_iff.mp l,j.mem_iff.mp k⟩
def zS (d:k<4)(f:sN rs x):((gq rs x k).map (·.1)).Nodup/\(if k=0\/k=3 then bT rs x k else (bT rs x k).reverse)=eO rs x k:=by
 have nd:=f k d;unfold gp at nd;rw[gd] at nd;delta bT eO gq gp;generalize (rs.filter λy=>bC k x y.2)=L at *
 have em:∀g:Ob->Int,(da (L.map λy=>(g y.2,y.1))).map (·.2)=[] ↔ (L.map λy:fk×Ob=>(cz k y.2,y.1))=[]:=λg=>by
  rw[We,We,<-Wo,uo,ab,Wo]
 have d:k=0\/k=3\/k=1\/k=2:=by omega
 have Y1:∀{g:Ob->Int},(∀y,cz k y=g y)->((L.map λy=>(g y.2,y.1)).map (·.1)).Nodup/\(if (da (L.map λy=>(g y.2,y.1))).map (·.2)=[] then [ax k] else (da (L.map λy=>(g y.2,y.1))).map (·.2))=(if (L.map λy:fk×Ob=>(cz k y.2,y.1))=[] then [ax k] else (da (L.map λy:fk×Ob=>(cz k y.2,y.1))).map (·.2)):=λ{g} e=>by
  have e:cz k=g:=funext e;subst e;refine⟨by rw[gd];exact nd,?_⟩
  by_cases h:L=[]
  ·subst h;rw[if_pos (by simp[da]),if_pos (show List.map _ []=[] from rfl)]
  ·rw[if_neg (λz=>h (by simpa using (em _).mp z)),if_neg (by simpa using h)]
 have back:∀{g:Ob->Int},(∀y,cz k y=-g y)->((L.map λy=>(g y.2,y.1)).map (·.1)).Nodup/\(if (da (L.map λy=>(g y.2,y.1))).map (·.2)=[] then [ax k] else (da (L.map λy=>(g y.2,y.1))).map (·.2)).reverse=(if (L.map λy:fk×Ob=>(cz k y.2,y.1))=[] then [ax k] else (da (L.map λy:fk×Ob=>(cz k y.2,y.1))).map (·.2)):=λ{g} e=>by
  have e:cz k=λy=>-g y:=funext e
  have c:(L.map λy=>g y.2).Nodup:=gs.mpr ((gs.mp nd).imp λ{a b} h z=>h (by show cz k a.2=cz k b.2;rw[e];show -g a.2=-g b.2;rw[z]))
  refine⟨by rw[gd];exact c,?_⟩
  by_cases h:L=[]
  ·subst h;rw[if_pos (by simp[da]),if_pos (show List.map _ []=[] from rfl)];rfl
  ·rw[if_neg (λz=>h (by simpa using (em _).mp z)),if_neg (by simpa using h),Cw,Cw,e,PL c,YE]
 rcases d with rfl|rfl|rfl|rfl
 ·exact Y1 λy=>rfl
 ·exact Y1 λy=>rfl
 ·exact back λy=>rfl
 ·exact back λy=>rfl
def K4 (a:sN rs x):bT rs x 0++(bT rs x 1).reverse++(bT rs x 2).reverse++bT rs x 3=fy rs x 4:=by
 have h:=λk b=>(zS (k:=k) b a).2
 rw[qV,<-h 0 (by decide),<-h 1 (by decide),<-h 2 (by decide),<-h 3 (by decide)]
 rfl
def fF(rs:Fl):aT:=rs.map λy=>(y.1,fy rs y.2 4)
def Drawn.web (d:Drawn rs):bU (fF rs)/\cQ (fF rs):=by
 have hw:=d.fl.xK d.mt (List.Perm.refl _);have c:bU (rs.map λy=>(y.1,mm (fy rs y.2 4))):=EG hw ⟨by rw[ab];exact qo.mpr d.fl.ne,by rw[ab];exact d.fl.cb⟩ λz a=>by
  obtain⟨y,b,rfl⟩:=bg.mp a;exact d.fl.nm y b
 refine fV.ok ⟨by unfold fF;rw[gd,gd];exact List.Perm.refl _,λz a=>?_⟩ c hw
 obtain⟨y,b,rfl⟩:=bg.mp a;exact⟨_,bg.mpr ⟨y,b,rfl⟩,rfl,(DL _).symm⟩
def zQ(fn:fN):Prop:=∀p (web:aT),1<=web.length->web.length<=8->(∀z∈web,0<z.2.length/\z.2.length<=1000)->∃r a,fn (pD p) [.lst (web.map pairD)]=some (r,a)/\∃(b:aT) (c:Int×Int),r=.own (.lst (b.map pairD))/\a=pD c/\fV web b
def OX(T:Txt mg)(N:bq P w K mg base "_law_draw" 1 (dM K 0 iQ))(F:bw K "_law_turned_web" "_law_turned_web" wQ f x):∃fn,bb P w K mg base a8 2 f x ["_law_purse_here","_law_web_here"] (dM K 0 fn)/\zQ fn:=by
 refine' p7 F BX rfl ?O ?B
 case O =>
  intro cdv A outer s H E C;cases T;have lk:lI "_law_purse_here":=⟨trivial⟩
  walk_at "S"
 case B =>
  intro p web h1 h8 C;refine' pR rfl ?w
  case w =>
   have Q:cH (.lst (web.map pairD))=some web.length:=by simp[cH]
   obtain⟨v0,t,R,S,b0⟩:=fS p (m:=(web.length:Int)) (by omega) (by omega)
   obtain⟨a,rfl⟩:=I1 S;refine' ag (aI (dI rfl (aa (eJ rfl Q) ai) rfl R rfl) rfl (ak ?_));refine' ag (aI (bA ai (qh _)) rfl (ak ?_));have D:eI (.lst (web.map pairD)) (some (a:Int)) none=some (.own (.lst ((web.drop a).map pairD))):=by
    show some (Res.own (.lst (cutD (web.map pairD) (some (a:Int)) none)))=_;rw[mP,Vp]
   have G:eI (.lst (web.map pairD)) none (some (a:Int))=some (.own (.lst ((web.take a).map pairD))):=by
    show some (Res.own (.lst (cutD (web.map pairD) none (some (a:Int)))))=_;rw[mJ,Vo]
   have ad:g8 (.lst ((web.drop a).map pairD)) (.lst ((web.take a).map pairD))=some (.own (.lst ((web.drop a++web.take a).map pairD))):=by
    rw[eW];exact if_pos (by rw[ab,ab,se,mv];unfold dk;omega)
   have pm:(web.drop a++web.take a).Perm web:=by
    refine List.perm_append_comm.trans ?_;rw[Vf]
   generalize hL:web.drop a++web.take a=L at *;have ll:=pm.length_eq;refine' ag (dO (λk Z=>∃(q:Int×Int) (b:aT) (l o e:Slot),Z=[.io (pD q),.dat (.lst (web.map pairD)),.dat (.int a),.own (.lst (b.map pairD)),l,o,e]/\Fr l/\Fr o/\Fr e/\b.map (·.1)=(L.take k).map (·.1)/\∀z∈b,∃p∈web,p.1=z.1/\gN p.2 z.2) (cS (af (ao (af (jX rfl rfl D) rfl) (af (jv rfl rfl G) rfl) ad) rfl)) ⟨t,[],_,_,_,rfl,.inl rfl,.inl rfl,.inl rfl,rfl,λz g=>by cases g⟩ ?st ?I)
   case I =>
    rintro _ ⟨q,b,l,o,e,rfl,_,_,_,h,g⟩;rw[ab,r4] at h;exact ak (ag (bc rfl (cG ⟨_,_,_,rfl,rfl,b,q,rfl,rfl,by rw[h];exact pm.map _,g⟩)))
   case st =>
    rintro k d hd _ ⟨q,b,l,o,e,rfl,U,V,W,h,g⟩;rw[cR] at hd;obtain⟨z,u,rfl⟩:=hH.mp hd;have r:=pm.mem_iff.mp (eS u);have hk:=(cn.mp u).1;obtain⟨z1,z2⟩:=C z r;refine⟨[.io (pD q),.dat (.lst (web.map pairD)),.dat (.int a),.own (.lst (b.map pairD)),.dat (.str z.1),.dat (.lst (z.2.map .str)),e],by rcases U with rfl|⟨d,rfl⟩<;>rcases V with rfl|⟨d,rfl⟩<;>rfl,?_⟩
    have X:cH (.lst (z.2.map .str))=some z.2.length:=by simp[cH]
    obtain⟨v1,J,Y,a1,M⟩:=fS q (m:=(z.2.length:Int)) (by omega) (by omega)
    obtain⟨c,rfl⟩:=I1 a1;refine' ag (aI (dI rfl (aa (eJ rfl X) ai) rfl Y rfl) ?M (ak ?b2))
    case M=>rcases W with rfl|⟨d,rfl⟩<;>rfl
    case b2 =>
     have r1:eI (.lst (z.2.map .str)) (some (c:Int)) none=some (.own (.lst ((z.2.drop c).map .str))):=by
      show some (Res.own (.lst (cutD (z.2.map Dat.str) (some (c:Int)) none)))=_;rw[mP,Vp]
     have r2:eI (.lst (z.2.map .str)) none (some (c:Int))=some (.own (.lst ((z.2.take c).map .str))):=by
      show some (Res.own (.lst (cutD (z.2.map Dat.str) none (some (c:Int)))))=_;rw[mJ,Vo]
     have r3:=r8 (z.2.drop c) (z.2.take c) (by rw[se];omega) (by rw[mv];omega)
     have lw:b.length=k:=by
      have:=congrArg List.length h;rw[ab,ab,mv] at this;lia
     have v:(b.map pairD).length<sizeLine:=by rw[ab];delta dk;lia
     have s2:2<=sizeLine:=by unfold dk;decide
     refine' ag (gb (gr (d:=pairD (z.1,z.2.drop c++z.2.take c)) rfl (aa (cu (aa rfl (aa (af (ao (af (jX rfl rfl r1) rfl) (af (jv rfl rfl r2) rfl) r3) rfl) ai)) s2) ai) v) (ak (aB ⟨J,b++[(z.1,z.2.drop c++z.2.take c)],.dat (.str z.1),.dat (.lst (z.2.map .str)),.dat (.int c),?_,.inr ⟨.str z.1,rfl⟩,.inr ⟨.lst (z.2.map .str),rfl⟩,.inr ⟨.int c,rfl⟩,?_,?_⟩)))
     ·rw[eW];rfl
     ·rw[eW,fH u,eW,h];rfl
     ·intro y i
      rcases eK.mp i with i|i
      ·exact g y i
      ·rw[kq.mp i];exact⟨z,r,rfl,z.2.take c,z.2.drop c,(Vf c z.2).symm,rfl⟩
end
local macro_rules
| `(tactic| walk_at "1")=>Mq.fs "OG rirararrD"
| `(tactic| walk_at "0")=>Mq.fs "DE.alt&Bi rrarA&NU rarA"
section
variable{P:lT}{w:px}{K:gj}{mg:fk->Option cA}{base:qt}
abbrev bz:=fk×fk×fk
noncomputable def au(t:bz):Dat:=.tup [.str t.1,.str t.2.1,.str t.2.2]
def bS(x n:fk)(k:Nat):bz:=fI "up" "on" x n k
def Ah:("up":fk)≠"on":=by decide +kernel
def gI(t:bz):Prop:=aZ t.1/\aZ t.2.1/\aZ t.2.2
def iC:aZ "up"/\aZ "on":=⟨⟨by decide +kernel,by decide +kernel⟩,⟨by decide +kernel,by decide +kernel⟩⟩
def uY (a:aZ x)(b:aZ n)(k:Nat):gI (bS x n k):=by
 delta bS fI;split
 ·exact⟨iC.1,a,b⟩
 ·split
  ·exact⟨iC.2,a,b⟩
  ·split
   ·exact⟨iC.1,b,a⟩
   ·exact⟨iC.2,b,a⟩
def Lr (h:gI t):bD (au t)=true:=D' (by simp[fh,h.1.ok,h.2.1.ok,h.2.2.ok])
def E6{ts:List bz}(h:∀t∈ts,gI t):bD (.lst (ts.map au))=true:=yo (by
 rw[hG];intro d hd;obtain⟨t,a,rfl⟩:=bg.mp hd;have:=h t a;show [Dat.str t.1,.str t.2.1,.str t.2.2].all fh=true;simp[fh,this.1.ok,this.2.1.ok,this.2.2.ok])
def we(t u):cJ (au t) (au u)=decide (t=u):=by
 obtain⟨a,b,c⟩:=t;obtain⟨d,e,f⟩:=u;show (cJ (.str a) (.str d)&&(cJ (.str b) (.str e)&&(cJ (.str c) (.str f)&&true)))=_;rw[gY,gY,gY,WT,pB];simp
def C8{ts:List bz}(h:∀t∈ts,gI t){t:bz}(a:gI t):fu false (au t) (.lst (ts.map au))=some (.dat (.bl (decide (t∈ts)))):=by
 have e:inD (au t) (ts.map au)=decide (t∈ts):=by
  rw[nJ,XO,pB,u2,decide_eq_true_eq];constructor
  ·rintro⟨y,b,e⟩;have e:cJ (au y) (au t)=true:=e;rw[we,decide_eq_true_eq] at e;exact e ▸ b
  ·exact λc=>⟨t,c,by show cJ (au t) (au t)=true;rw[we];exact decide_eq_true rfl⟩
 show (if bD (au t)&&bD (.lst (ts.map au)) then some (Res.dat (.bl (inD (au t) (ts.map au)))) else none)=_
 rw[Lr a,E6 h,e];rfl
def o7 (a:j<4)(b:k<4)(h:ax j=ax k):j=k:=by
 have a:j=0\/j=1\/j=2\/j=3:=by omega
 have b:k=0\/k=1\/k=2\/k=3:=by omega
 rcases a with rfl|rfl|rfl|rfl<;>rcases b with rfl|rfl|rfl|rfl<;>first|rfl|exact absurd h (by decide +kernel)
def nI (a:j<4)(b:k<4):dX false (.str (ax j)) (.str (ax k))=some (.dat (.bl (decide (j=k)))):=by
 rw[oX (fP _ (fQ a)).ok (fP _ (fQ b)).ok];have:decide (ax j=ax k)=decide (j=k):=decide_eq_decide.mpr ⟨o7 a b,λe=>by rw[e]⟩
 rw[this]
def AZ(fn:aS):Prop:=∀(x n:fk) (k:Nat),k<4->fn [.str x,.str n,.str (ax k)]=some (.dat (au (bS x n k)))
def Kn(T:Txt mg)(F:bw K "row_of" "row_of" wj f c):∃fn,bb P w K mg base a8 1 f c ["room","name","side"] (aN K fn)/\AZ fn:=by
 refine' cx F C1 rfl ?C ?B
 case C =>
  intro cdv A outer s H E hr;cases T
  walk_at "S"
 case B =>
  intro x n k b;have i:=nI b (show 0<4 by decide)
  have j:=nI b (show 1<4 by decide)
  have l:=nI b (show 2<4 by decide)
  have a:3<=sizeLine:=by unfold dk;decide
  refine' dg rfl ?w
  case w =>
   refine ag (ck (aP (ao rfl rfl i)) (λh=>?_) λd=>aB (ak (ag (ck (aP (ao rfl rfl j)) (λh=>?_) λe=>aB (ak (ag (ck (aP (ao rfl rfl l)) (λh=>?_) λg=>aB (ak ?_))))))))
   ·cases of_decide_eq_true h;exact ag (bc (v_res (cu (aa rfl (aa rfl (aa rfl ai))) a)) ⟨_,rfl⟩)
   ·cases of_decide_eq_true h;exact ag (bc (v_res (cu (aa rfl (aa rfl (aa rfl ai))) a)) ⟨_,rfl⟩)
   ·cases of_decide_eq_true h;exact ag (bc (v_res (cu (aa rfl (aa rfl (aa rfl ai))) a)) ⟨_,rfl⟩)
   ·have d:=of_decide_eq_false d;have e:=of_decide_eq_false e;have g:=of_decide_eq_false g;obtain rfl:k=3:=by omega
    exact ag (bc (v_res (cu (aa rfl (aa rfl (aa rfl ai))) a)) ⟨_,rfl⟩)
def Cp(fn:aS):Prop:=∀a:List Nat,(∀k∈a,k<4)->a.length<=100->fn [.lst ((a.map ax).map .str)]=some (.dat (.bl (fO a)))
def Ny(a):eQ (a.map ax)=(gB a).map λp=>(ax p.1,ax p.2):=by
 delta eQ gB;rw[<-Vp,<-Vo,<-eW,aby];rfl
def yi (h:p∈gB a):p.1∈a/\p.2∈a:=by
 have b:=XX h;refine⟨b.1,?_⟩
 rcases eK.mp b.2 with z|z
 ·exact WW z
 ·exact VX z
def Q3(T:Txt mg)(w1:fG K mg "WALLS" lF)(v:mg "zip"=none)(R:bq P w K mg base "follower" 1 (aN K u))(S:uf u)(F:bw K "goes_round" "goes_round" uO f C):∃fn,bb P w K mg base a8 2 f C ["sides"] (aN K fn)/\Cp fn:=by
 refine' cx F Az rfl ?U ?B
 case U =>
  intro cdv A outer s H E hr;cases T
  walk_at "S"
 case B =>
  intro a G v;refine' dg rfl ?w
  case w =>
   have I:=A5 (i:=0) (Z:=[.dat (.lst ((a.map ax).map .str)),.dat (.int 0),.no,.no]) rfl (by rw[ab];exact v)
   have em:((gB a).map λp=>(ax p.1,ax p.2)).map (λq:fk×fk=>Dat.tup [.str q.1,.str q.2])=(gB a).map λp=>Dat.tup [.str (ax p.1),.str (ax p.2)]:=gd ..
   rw[Ny,em] at I;generalize hD:Dat.lst ((a.map ax).map .str)=D at *;generalize J:gB a=b at *;have pm:∀p∈b,p.1<4/\p.2<4:=λp k=>by
    subst J;exact⟨G _ (yi k).1,G _ (yi k).2⟩
   have l:fO a=((b.map λp=>(p.2+4-p.1)%4).all (λs=>decide (s<=1))&&decide ((b.map λp=>(p.2+4-p.1)%4).countP (λs=>decide (s=1))=4)):=by subst J;rfl
   refine' ag (aI (v_res rfl) rfl (ak ?_));refine' ag (dO (λj Z=>∃m o,Fr m/\Fr o/\(((b.take j).map λp=>(p.2+4-p.1)%4).all λs=>decide (s<=1))=true/\Z=[.dat D,.dat (.int (((b.take j).map λp=>(p.2+4-p.1)%4).countP (λs=>decide (s=1)):Nat)),m,o]) I ⟨_,_,.inl rfl,.inl rfl,rfl,rfl⟩ ?st ?L)
   case st =>
    rintro j d hd _ ⟨m,o,M,O,r,rfl⟩;rw[cR] at hd;obtain⟨p,ep,rfl⟩:=hH.mp hd;have k:=eS ep;obtain⟨x,y⟩:=pm p k;have V:(p.1+1)%4<4:=Vd _ (by decide)
    generalize Q:(((b.take j).map λp=>(p.2+4-p.1)%4).countP (λs=>decide (s=1)))=N at *
    refine⟨[.dat D,.dat (.int N),.dat (.str (ax p.1)),.dat (.str (ax p.2))],by rcases M with rfl|⟨d,rfl⟩<;>rcases O with rfl|⟨d,rfl⟩<;>rfl,?_⟩
    have t:=fH ep;refine ag (ck (aP (ao rfl (af (aF (aa rfl ai) (S p.1 x)) rfl) (nI y V))) (λh=>?_) (λh=>?_))
    ·have h:=of_decide_eq_true h;have g:(p.2+4-p.1)%4=1:=by omega
     refine ag (aI (Z2:=[.dat D,.dat (.int (N+1:Nat)),.dat (.str (ax p.1)),.dat (.str (ax p.2))]) (ao rfl rfl rfl) rfl (ak (aB (ak (aB ⟨.dat (.str (ax p.1)),.dat (.str (ax p.2)),.inr ⟨_,rfl⟩,.inr ⟨_,rfl⟩,?_,?_⟩)))))
     ·rw[t,eW,YR,r];simp[g]
     ·rw[t,eW,n7,Q];simp[g]
    ·have h:=of_decide_eq_false h;have ne:dX true (.str (ax p.2)) (.str (ax p.1))=some (.dat (.bl (!decide (p.2=p.1)))):=by
      rw[rR (iP (fP _ (fQ y)).ok) (iP (fP _ (fQ x)).ok),gY];have:decide (ax p.2=ax p.1)=decide (p.2=p.1):=decide_eq_decide.mpr ⟨o7 y x,λe=>by rw[e]⟩
      rw[this]
     refine ag (ck (aP (ao rfl rfl ne)) (λc=>?_) (λc=>aB (ak (aB (ak (aB ⟨.dat (.str (ax p.1)),.dat (.str (ax p.2)),.inr ⟨_,rfl⟩,.inr ⟨_,rfl⟩,?_,?_⟩))))))
     ·have c:¬p.2=p.1:=by simpa using c
      refine ag (bc rfl (cG ?_));have:fO a=false:=by
       rw[l];have:¬((b.map λp=>(p.2+4-p.1)%4).all (λs=>decide (s<=1)))=true:=λz=>by
        rw[hG] at z;have:=of_decide_eq_true (z _ (bg.mpr ⟨p,k,rfl⟩));omega
       rw[HT.mpr this];rfl
      rw[this];exact⟨_,rfl⟩
     ·have c:p.2=p.1:=by simpa using c
      have g:(p.2+4-p.1)%4=0:=by omega
      rw[t,eW,YR,r];simp[g]
     ·have c:p.2=p.1:=by simpa using c
      have g:(p.2+4-p.1)%4=0:=by omega
      rw[t,eW,n7,Q];simp[g]
   case L =>
    rintro _ ⟨m,o,M,O,r,rfl⟩;rw[ab,r4] at *;rw[r,Yb] at l;refine ak (ag (bc (ao rfl rfl oC) (kz ?_)));rw[l];refine decide_eq_decide.mpr ?_;simp only[fv,Vm];lia
def bB(rows:List bz)(x n:fk):List Nat:=(hI 4).filter λk=>decide (bS x n k∈rows)
noncomputable def cE(l:List Nat):Dat:=.lst (l.map λk:Nat=>.int (k:Int))
def oV (h:k∈bB rows x n):k<4:=mA.mp (hF.mp h).1
theorem P9:(bB rows x n).headD 0<4:=by
 cases e:bB rows x n with
 | nil=>exact (by decide:0<4)
 | cons a l=>exact oV (by rw[e];exact fm)
def AA:(bB rows x n).length<=4:=wd (z3 _ _) (by simp)
def Eo(fn:aS):Prop:=∀(rows:List bz) (x n:fk),(∀t∈rows,gI t)->aZ x->aZ n->fn [.lst (rows.map au),.str x,.str n]=some (.own (cE (bB rows x n)))
def Hn(T:Txt mg)(F:bw K "_law_way" "_law_way" vY f c):∃fn,bb P w K mg base a8 1 f c ["_law_rows","_law_room","_law_name"] (aN K fn)/\Eo fn:=by
 refine' cx F yQ rfl ?C ?B
 case C =>
  intro cdv A outer s H E d;cases T
  walk_at "S"
 case B =>
  intro rows x n d g h;have a:3<=sizeLine:=by unfold dk;decide
  have e:4<=sizeLine:=by unfold dk;decide
  refine' dg rfl ?w
  case w =>
   have i:∀k:Nat,k<4->cf (.lst [au (bS x n 0),au (bS x n 1),au (bS x n 2),au (bS x n 3)]) (.int (k:Int))=some (au (bS x n k)):=λk b=>by
    have b:k=0\/k=1\/k=2\/k=3:=by omega
    rcases b with rfl|rfl|rfl|rfl<;>rfl
   refine' ag (aI (Z2:=[.dat (.lst (rows.map au)),.dat (.str x),.dat (.str n),.own (.lst [au (bS x n 0),au (bS x n 1),au (bS x n 2),au (bS x n 3)])]) (bA (aa (cu (aa rfl (aa rfl (aa rfl ai))) a) (aa (cu (aa rfl (aa rfl (aa rfl ai))) a) (aa (cu (aa rfl (aa rfl (aa rfl ai))) a) (aa (cu (aa rfl (aa rfl (aa rfl ai))) a) ai)))) e) rfl (ak ?_));generalize Dat.lst [au (bS x n 0),au (bS x n 1),au (bS x n 2),au (bS x n 3)]=S at *;refine' ag (bc (kh (enc:=λk:Nat=>.int (k:Int)) (xs:=hI 4) (λk=>[.no,.dat (.int k),.dat (.lst (rows.map au)),.dat S]) (λk=>decide (bS x n k∈rows)) (λk:Nat=>.int (k:Int)) ?D rfl (by rw[kH];exact e) ?G ?I (λ_ _ _=>rfl) (λ_ _=>rfl)) (cG ⟨_,rfl⟩))
   case D=>exact lH (n:=4) (aa rfl ai) ⟨by decide,by decide⟩
   case G=>rintro j _ Z (rfl|⟨y,rfl⟩)<;>rfl
   case I =>
    intro k b;exact aP (ao (a9 rfl rfl rfl (i k (mA.mp b))) rfl (C8 d (uY g h k)))
theorem CJ:∀l m:List Int,gx (l.map .int) (m.map .int)=decide (l=m)
 | [],[]=>rfl
 | [],_::_=>rfl
 | _::_,[]=>rfl
 | x::l,y::m=>by
  show (cJ (.int x) (.int y)&&gx (l.map .int) (m.map .int))=_;rw[CJ l m,kI,pB];simp
theorem Lb (b:ns.length<64)(a:fa Z=some ([.lst (ns.map .int)],Z1)):alt (cg mO fa) (cg qf fa) Z=some (.own (.lst ((gR ns).map .int)),Z1):=by
 have c:qf [.lst (ns.map .int)]=some (.own (.lst ((gR ns).map .int))):=by
  show (jZ (ns.map .int)).bind _=_;rw[wu (λx=>x)]
  rw[Wv];exact if_pos b
 cases ns with
 | nil =>
  refine gg (aF a ?_);rw[show gR []=[] by unfold gR;simp]
  show (if ([]:List (List fk)).Nodup/\0<64 then some (Res.own (.lst ((jH []).map tupS))) else none)=_
  rw[if_pos ⟨Wc,by decide⟩,show jH []=[] by unfold jH;simp]
  rfl
 | cons p l =>
  refine tz ?_ (aF a c);delta cg;rw[a];rfl
def RU{l:List Nat}(hl:∀s∈l,s<4):decide (gR ((l.filter λs=>decide (0<s)).map λs:Nat=>(s:Int))=[1,1,1,1])=(l.all (λs=>decide (s<=1))&&decide (l.countP (λs=>decide (s=1))=4)):=by
 rw[pB,decide_eq_true_eq,ey,hG,decide_eq_true_eq];have pm:(gR ((l.filter λs=>decide (0<s)).map λs:Nat=>(s:Int))).Perm ((l.filter λs=>decide (0<s)).map λs:Nat=>(s:Int)):=ib _ _
 have cnt:(∀s∈l,s<=1)->(l.filter λs=>decide (0<s))=l.filter λs=>decide (s=1):=λh=>VR λs hs=>decide_eq_decide.mpr (by have:=h s hs;omega)
 constructor
 ·intro e;rw[e] at pm;have a:∀s∈l,s<=1:=λs hs=>by
   by_cases b:0<s
   ·have:=pm.mem_iff.mpr (bg.mpr ⟨s,hF.mpr ⟨hs,decide_eq_true b⟩,rfl⟩);simp at this;omega
   ·omega
  refine⟨λs hs=>decide_eq_true (a s hs),?_⟩
  rw[n6,<-cnt a];have:=pm.length_eq;rw[ab] at this;exact this.symm
 ·rintro⟨a,c⟩;have a:∀s∈l,s<=1:=λs hs=>of_decide_eq_true (a s hs)
  rw[cnt a];have e:(l.filter λs=>decide (s=1))=ia 4 1:=ZP.mpr ⟨by rw[<-n6];exact c,λs hs=>of_decide_eq_true (hF.mp hs).2⟩
  rw[e];exact (C7 (List.Perm.refl _) (by decide)).symm
def EO(fn:aS):Prop:=∀L:List (List Nat),(∀l∈L,l.length<=4/\∀k∈l,k<4)->0<L.length->L.length<=60->fn [.lst (L.map cE)]=some (.dat (.bl (L.all (λl=>decide (l.length=1))&&fO (L.map λl=>l.headD 0))))
theorem Of(T:Txt mg)(F:bw K "_law_round" "_law_round" xy f O):∃fn,bb P w K mg base a8 1 f O ["_law_sides"] (aN K fn)/\EO fn:=by
 refine' cx F zf rfl ?hb ?I
 case hb =>
  intro cdv A outer s H E hr;have nd:=zf.nd;cases T
  walk_at "S"
 case I =>
  intro L Q R S;have sz:L.length<=sizeLine:=by unfold dk;lia
  have U:∀l∈L,cH (cE l)=some l.length:=λl _=>by simp[cH,cE]
  refine' dg rfl ?w
  case w =>
   refine' ag (ck (b:=decide (0<(L.filter λl=>!decide (l.length=1)).length)) (aP (ao (af (aF (aa (af (kh (λl=>[.no,.dat (cE l)]) (λl=>!decide (l.length=1)) cE (cS rfl) rfl sz ?a1 ?a2 (λ_ _ _=>rfl) (λ_ _=>rfl)) rfl) ai) rfl) rfl) rfl ?a3)) ?V ?no)
   case a1=>rintro j _ Z (rfl|⟨y,rfl⟩)<;>rfl
   case a2 =>
    intro l hl;refine aP (ao (eJ rfl (U l hl)) rfl ?_);rw[ne_int];have:decide ((l.length:Int)=1)=decide (l.length=1):=decide_eq_decide.mpr (by lia)
    rw[this]
   case a3 =>
    show some (Res.dat (.bl (decide ((0:Int)<(((L.filter λl=>!decide (l.length=1)).map cE).length:Nat)))))=_
    rw[ab];have:decide ((0:Int)<((L.filter λl=>!decide (l.length=1)).length:Nat))=decide (0<(L.filter λl=>!decide (l.length=1)).length):=decide_eq_decide.mpr (by omega)
    rw[this]
   case V =>
    intro h;have h:=of_decide_eq_true h;obtain⟨l,hl⟩:=List.exists_mem_of_length_pos h;obtain⟨h1,W⟩:=hF.mp hl;have:L.all (λl=>decide (l.length=1))=false:=by
     rw[HT];intro z;rw[hG] at z;have:=z l h1;rw[this] at W;cases W
    rw[this];exact ag (bc rfl ⟨_,rfl⟩)
   case no =>
    intro h;have h:=of_decide_eq_false h;have all1:∀l∈L,l.length=1:=λl hl=>by
     by_cases e:l.length=1
     ·exact e
     ·exact absurd (Zy (hF.mpr ⟨hl,by simpa using e⟩)) h
    have:L.all (λl=>decide (l.length=1))=true:=hG.mpr λl hl=>decide_eq_true (all1 l hl)
    rw[this,Yb];refine' aB (ak (ag (aI (Z2:=[.dat (.lst (L.map cE)),.own (.lst ((L.map λl=>l.headD 0).map λk:Nat=>.int (k:Int))),.no]) (fw (λl=>[.no,.dat (cE l)]) (λl=>.int (l.headD 0:Nat)) (cS rfl) rfl sz ?b1 ?b2 (λ_ _=>rfl)) ?b3 (ak ?b4))))
    case b1=>rintro j _ Z (rfl|⟨y,rfl⟩)<;>rfl
    case b2 =>
     intro l hl;refine a9 rfl rfl rfl ?_;have:=all1 l hl
     match l,this with
     | [a],_=>rfl
    case b3=>rw[gd];rfl
    case b4 =>
     have X:∀k∈L.map λl=>l.headD 0,k<4:=λk o=>by
      obtain⟨l,hl,rfl⟩:=bg.mp o;have:=all1 l hl;have h4:=(Q l hl).2
      match l,this with
      | [a],_=>exact h4 a fm
     have q:(L.map λl=>l.headD 0).length=L.length:=ab ..
     generalize (L.map λl=>l.headD 0)=m at *
     clear Q U this all1 h;rw[<-q] at R S;clear q sz;obtain⟨c,z,rfl⟩:∃c z,m=c++[z]:=⟨m.dropLast,m.getLast (qo.mp R),(List.dropLast_concat_getLast _).symm⟩;rw[<-EV (A:=c) (B:=[z])];have Y:(c++[z]).length=c.length+1:=by simp
     have J:gB ([z]++c)=(z::c).zip (c++[z]):=rfl;generalize u:c++[z]=m at *;have sz:m.length<=sizeLine:=by unfold dk;omega
     have step:∀k,k<m.length->∃a b:Nat,cf (.lst (m.map λk:Nat=>.int (k:Int))) (.int (k:Int))=some (.int (b:Int))/\cf (.lst (m.map λk:Nat=>.int (k:Int))) (.int ((k:Int)-1))=some (.int (a:Int))/\(gB ([z]++c))[k]?=some (a,b):=λk o=>by
      have g:∀j,(hj:j<m.length)->(m.map λk:Nat=>Dat.int (k:Int))[j]?=some (.int (m[j]:Int)):=λj hj=>by rw[cR,cm hj];rfl
      have hz:k<(z::c).length:=by rw[fv,<-Y];exact o
      refine⟨(z::c)[k],m[k],?_,?_,?_⟩
      ·rw[lh];exact kj (g k o)
      ·rw[lh];cases k with
       | zero =>
        subst u;show dU ((c++[z]).map λk:Nat=>Dat.int (k:Int)) (-1)=_
        rw[eW];exact MO _ _
       | succ k =>
        rw[show ((k+1:Nat):Int)-1=(k:Int) by omega]
        rw[kj (g k (by omega))]
        subst u;rw[fv] at hz;simp only[List.getElem_cons_succ];rw[List.getElem_append_left (by omega)]
      ·rw[J,Wb];exact⟨cm hz,cm o⟩
     have v:(gB ([z]++c)).length=m.length:=by rw[J,YP,fv,<-Y];simp
     have D:(dJ ([z]++c)).length=m.length:=by unfold dJ;rw[ab];exact v
     have s4:∀s∈dJ ([z]++c),s<4:=λs hs=>by
      obtain⟨p,_,rfl⟩:=bg.mp hs;exact Vd _ (by decide)
     have p4:∀p∈gB ([z]++c),p.1<4:=λp hp=>X _ (by
      have:=(yi hp).1;subst u;simp only[eK,kq] at this ⊢;exact this.symm)
     have G:fO ([z]++c)=_:=(RU s4).symm;refine' ag (aI (Z2:=[.dat (.lst (L.map cE)),.dat (.lst (m.map λk:Nat=>.int (k:Int))),.own (.lst ((hI m.length).map λk=>.int ((dJ ([z]++c)).getD k 0:Nat)))]) (fw (enc:=λk:Nat=>.int (k:Int)) (xs:=hI m.length) (λk=>[.no,.dat (.int k),.dat (.lst (m.map λk:Nat=>.int (k:Int)))]) (λk=>.int ((dJ ([z]++c)).getD k 0:Nat)) ?c1 ?c6 ?c2 ?c3 ?c4 (λ_ _=>rfl)) ?c7 (ak ?c5))
     case c1 =>
      rw[<-B2];exact lH (aa (eJ rfl (by simp[cH])) ai) (by omega)
     case c6=>rfl
     case c7=>rfl
     case c2=>rw[kH];exact sz
     case c3=>rintro j _ Z (rfl|⟨y,rfl⟩)<;>rfl
     case c4 =>
      intro k o;obtain⟨a,b,M,N,C⟩:=step k (mA.mp o);have ha:=p4 _ (eS C);refine af (ao (r:=.dat (.int ((dJ ([z]++c)).getD k 0:Nat))) (af (ao (a9 rfl rfl rfl M) (a9 rfl (af (ao rfl rfl rfl) rfl) rfl N) rfl) rfl) rfl ?_) rfl;have:(dJ ([z]++c)).getD k 0=(b+4-a)%4:=by
       unfold dJ;rw[n4,cR,C];rfl
      rw[this];have e:(((b+4-a)%4:Nat):Int)=((b:Int)-(a:Int))%4:=by omega
      rw[e];rfl
     case c5 =>
      have el:((hI m.length).map λk=>Dat.int ((dJ ([z]++c)).getD k 0:Nat))=(dJ ([z]++c)).map λs:Nat=>.int (s:Int):=by
       refine aaC λi=>?_
       rw[cR,cR]
       by_cases hi:i<m.length
       ·rw[zd hi];show some (Dat.int ((dJ ([z]++c)).getD i 0:Nat))=_;rw[n4,cm (by rw[D];exact hi)]
        rfl
       ·rw[VO (by rw[kH];omega),VO (by rw[D];omega)]
        rfl
      rw[el,G];clear G el step p4 v J;generalize dJ ([z]++c)=st at *;have fl:((st.filter λs=>decide (0<s)).map λs:Nat=>(s:Int)).length<64:=by
       rw[ab];exact VG (z3 _ _) (by omega)
      refine' ag (bc (ao (af (Lb fl (aa (af (kh (enc:=λs:Nat=>.int (s:Int)) (xs:=st) (λs=>[.no,.dat (.int (s:Nat))]) (λs=>decide (0<s)) (λs:Nat=>.int (s:Int)) (cS rfl) rfl ?M ?N ?C (λ_ _ _=>rfl) (λ_ _=>rfl)) ?e4) ai)) rfl) (af (bA (aa rfl (aa rfl (aa rfl (aa rfl ai)))) (show 4<=dk by unfold dk;decide)) rfl) ?e5) (cG ⟨_,rfl⟩))
      case M=>unfold dk;omega
      case N=>rintro j _ Z (rfl|⟨y,rfl⟩)<;>rfl
      case C =>
       intro s hs;refine aP (ao rfl rfl ?_);show some (Res.dat (.bl (decide ((0:Int)<(s:Int)))))=_;have:decide ((0:Int)<(s:Int))=decide (0<s):=decide_eq_decide.mpr (by omega)
       rw[this]
      case e4=>rw[gd];rfl
      case e5 =>
       have cI:∀l:List Int,bD (.lst (l.map .int))=true:=λl=>yo (by
        rw[hG];intro d hd;obtain⟨t,ht,rfl⟩:=bg.mp hd;rfl)
       refine (v_eq (x:=.lst ((gR _).map .int)) (y:=.lst (([1,1,1,1]:List Int).map .int)) (cI _) (cI _)).trans ?_;rw[l9,CJ]
def gS(rows:List bz)(x n:fk):Bool:=decide ((bB rows x n).length=1)&&(!aY n||decide (ax ((bB rows x n).headD 0)=n))
def gu(rows:List bz)(x:fk)(ring:List fk):Bool:=ring.all (gS rows x)&&fO (ring.map λn=>(bB rows x n).headD 0)
def CH(fn:aS):Prop:=∀(rows:List bz) (x:fk) (ring:List fk),(∀t∈rows,gI t)->aZ x->(∀n∈ring,aZ n)->ring.length<=100->fn [.str x,.lst (ring.map .str),.lst (rows.map au)]=some (.dat (.bl (gu rows x ring)))
theorem Nn(T:Txt mg)(w1:fG K mg "WALLS" lF)(O:bq P w K mg base "row_of" 1 (aN K o))(Q:AZ o)(R:bq P w K mg base "goes_round" 2 (aN K p))(S:Cp p)(F:bw K "stands_round" "stands_round" xY f C):∃fn,bb P w K mg base a8 3 f C ["room","ring","rows"] (aN K fn)/\CH fn:=by
 refine' cx F CF rfl ?U ?B
 case U =>
  intro cdv A outer s H E D;have nd:=CF.nd;cases T
  walk_at "S"
 case B =>
  intro rows x ring D V W X;have Y:4<=sizeLine:=by unfold dk;decide
  have s1':1<=sizeLine:=by unfold dk;decide
  refine' dg rfl ?w
  case w =>
   refine' ag (aI (bA ai (qh _)) rfl (ak ?_));refine' ag (dO (λj Z=>∃m i,Fr m/\(Fr i\/∃d,i=.own d)/\((ring.take j).all (gS rows x))=true/\Z=[.dat (.str x),.dat (.lst (ring.map .str)),.dat (.lst (rows.map au)),.own (.lst ((((ring.take j).map λn=>(bB rows x n).headD 0).map ax).map .str)),m,i]) (cS rfl) ⟨_,_,.inl rfl,.inl (.inl rfl),rfl,rfl⟩ ?st ?G)
   case G =>
    rintro _ ⟨m,i,I,J,t,rfl⟩;rw[ab,r4] at *;have e:=S (ring.map λn=>(bB rows x n).headD 0) (λk g=>by
     obtain⟨n,_,rfl⟩:=bg.mp g;exact P9) (by rw[ab];exact X)
    refine ak (ag (bc (aF (aa rfl ai) e) (kz ?_)));delta gu;rw[t];rfl
   case st =>
    rintro j d hd _ ⟨m,i,I,J,t,rfl⟩;rw[cR] at hd;obtain⟨n,u,rfl⟩:=hH.mp hd;have L:=eS u;have v:=W n L;have M:=fH u;have ln:((((ring.take j).map λn=>(bB rows x n).headD 0).map ax).map Dat.str).length<sizeLine:=by
     simp only[ab,mv];delta dk;lia
    have q:gS rows x n=false->gu rows x ring=false:=λe=>by
     delta gu;have:ring.all (gS rows x)=false:=by
      rw[HT];intro z;rw[hG] at z;rw[z n L] at e;cases e
     rw[this];rfl
    have ap:(((ring.take (j+1)).map λn=>(bB rows x n).headD 0).map ax).map Dat.str=((((ring.take j).map λn=>(bB rows x n).headD 0).map ax).map Dat.str)++[.str (ax ((bB rows x n).headD 0))]:=by
     rw[M,eW,eW,eW];rfl
    rw[ap];generalize ((((ring.take j).map λn=>(bB rows x n).headD 0).map ax).map Dat.str)=r at *
    refine⟨[.dat (.str x),.dat (.lst (ring.map .str)),.dat (.lst (rows.map au)),.own (.lst r),.dat (.str n),i],by rcases I with rfl|⟨d,rfl⟩<;>rfl,?_⟩
    refine' ag (aI (kh (enc:=λk:Nat=>.str (ax k)) (λk=>[.no,.dat (.str (ax k)),.dat (.str n),.dat (.str x),.dat (.lst (rows.map au))]) (λk=>decide (bS x n k∈rows)) (λk:Nat=>.str (ax k)) ?c1 ?c2 (by rw[kH];exact Y) ?c3 ?c4 (λ_ _ _=>rfl) (λ_ _=>rfl)) ?c5 (ak ?c6))
    case c1=>exact BP rfl
    case c2=>rfl
    case c3=>rintro j _ Z (rfl|⟨y,rfl⟩)<;>rfl
    case c4 =>
     intro k g;exact aP (ao (af (aF (aa rfl (aa rfl (aa rfl ai))) (Q x n k (mA.mp g))) rfl) rfl (C8 D (uY V v k)))
    case c5 =>
     rw[show (((hI 4).filter λk=>decide (bS x n k∈rows)).map λk:Nat=>Dat.str (ax k))=((bB rows x n).map ax).map .str by rw[gd];rfl]
     rcases J with (rfl|⟨d,rfl⟩)|⟨d,rfl⟩<;>rfl
    case c6 =>
     have N:∀k∈bB rows x n,k<4:=λk g=>oV g
     have hl:=AA (rows:=rows) (x:=x) (n:=n);have l:gS rows x n=(decide ((bB rows x n).length=1)&&(!aY n||decide (ax ((bB rows x n).headD 0)=n))):=rfl
     generalize bB rows x n=a at *;have el:cH (.lst ((a.map ax).map .str))=some a.length:=by simp[cH]
     refine' ag (ck (b:=!decide (a.length=1)) (aP (ao (eJ rfl el) rfl ?d1)) ?d2 ?d3)
     case d1 =>
      rw[ne_int];have:decide ((a.length:Int)=1)=decide (a.length=1):=decide_eq_decide.mpr (by omega)
      rw[this]
     case d2 =>
      intro h;have e1:decide (a.length=1)=false:=by simpa using h
      rw[q (by rw[l,e1];rfl)]
      exact ag (bc rfl (cG ⟨_,rfl⟩))
     case d3 =>
      intro h;have h1:a.length=1:=by simpa using h
      match a,h1 with
      | [k],_ =>
       have g:=N k fm;have tk:aZ (ax k):=fP _ (fQ g);have l:gS rows x n=(!aY n||decide (ax k=n)):=l
       have ne:=Fm tk v;refine' aB (ak (ag (ck (oG (aP (ao rfl rfl (l6 v.ok false))) (aP (ao (a9 (d:=.str (ax k)) rfl rfl rfl rfl) rfl ne))) ?g1 ?g2)))
       case g1 =>
        intro z;rw[q (by rw[l];generalize decide (ax k=n)=b at *;generalize aY n=c at *;cases b<;>cases c<;>first|rfl|cases z)]
        exact ag (bc rfl (cG ⟨_,rfl⟩))
       case g2 =>
        intro z;have ok:gS rows x n=true:=by rw[l];generalize decide (ax k=n)=b at *;generalize aY n=c at *;cases b<;>cases c<;>first|rfl|cases z
        refine' aB (ak (ag (gb (gr (d:=.str (ax k)) rfl (aa (a9 rfl rfl rfl rfl) ai) ln) (ak (aB ⟨.dat (.str n),.own (.lst [.str (ax k)]),.inr ⟨_,rfl⟩,.inr ⟨_,rfl⟩,?_,rfl⟩)))));rw[M,YR,t];show (gS rows x n&&true)=true;rw[ok];rfl
def eG(web:aT)(rows:List bz):Bool:=decide (rows.length=dE web)&&web.all λp=>gu rows p.1 p.2
def yk(fn:aS):Prop:=∀(web:aT) (rows:List bz),bU web->cQ web->(∀t∈rows,gI t)->rows.length<=1000->fn [.lst (web.map pairD),.lst (rows.map au)]=some (.dat (.bl (eG web rows)))
def Mh(T:Txt mg)(l:bq P w K mg base "must_web" 4 (aN K e))(m:Ci e)(o:bq P w K mg base "ties_of" 1 (aN K g))(q:yp g)(t:bq P w K mg base "stands_round" 3 (aN K i))(u:CH i)(F:bw K "is_tinting" "is_tinting" wH f j):∃fn,bb P w K mg base a8 5 f j ["web","rows"] (aN K fn)/\yk fn:=by
 refine' cx F zl rfl ?D ?B
 case D =>
  intro cdv A outer s H E k;cases T;have hl:wG "rings":=⟨trivial⟩;have fz:j8 "rings":=⟨trivial⟩
  walk_at "S"
 case B =>
  intro web rows h hw k hz;have cb:=h.cb;obtain⟨_,v,ds,rfl,hd⟩:=q web h;have x:cH (.lst (rows.map au))=some rows.length:=by simp[cH]
  refine' dg rfl ?w
  case w =>
   refine' ag (gb (af (aF (aa rfl ai) (m web h hw)) rfl) (ak ?_));refine' ag (aI (Z1:=[.dat (.lst (web.map pairD)),.dat (.lst (rows.map au)),.no]) ?a rfl (ak ?b))
   case a =>
    delta qP;rw[aF (aa rfl ai) (A6 h.nd)];rfl
   case b =>
    refine' ag (ck (aP (ao (eJ rfl x) (af (aF (aa (af (aF (aa rfl ai) v) rfl) ai) rfl) rfl) ?c)) ?C ?no)
    case c =>
     refine (ne_int _ _).trans ?_;have:decide ((rows.length:Int)=(ds.length:Int))=decide (rows.length=dE web):=decide_eq_decide.mpr (by lia)
     rw[this]
    case C =>
     intro z;have z:decide (rows.length=dE web)=false:=by simpa using z
     delta eG;rw[z];exact ag (bc rfl ⟨_,rfl⟩)
    case no =>
     intro z;have z:decide (rows.length=dE web)=true:=by simpa using z
     delta eG;rw[z];refine' aB (ak (ag (bc (aF (aa (af (fw (enc:=λp:fk×List fk=>.str p.1) (λp=>[.no,.dat (.str p.1),.dat (bh web),.dat (.lst (rows.map au))]) (λp=>.bl (gu rows p.1 p.2)) ?G ?I ?J ?L ?M (λ_ _=>rfl)) rfl) ai) (Dd (λp:fk×List fk=>gu rows p.1 p.2) web)) ⟨_,rfl⟩)))
     case G=>show some ((dj web).map _,_)=_;unfold dj;rw[gd];rfl
     case I=>rfl
     case J=>unfold dk;omega
     case L=>rintro p _ Z (rfl|⟨y,rfl⟩)<;>rfl
     case M =>
      intro p d;exact af (aF (aa rfl (aa (kD rfl rfl (ly h.nd d)) (aa rfl ai))) (u rows p.1 p.2 k (h.txt (.inl (bg.mpr ⟨p,d,rfl⟩))) (λn N=>h.txt ((h.rg p d).2.2 n N).1) (by have:=h.len d;omega))) rfl
def Bv (h:bU web)(hw:cQ web)(b:p∈web)(c:n∈p.2):aY n=!aq (web.map (·.1)) n:=by
 have d:=((h.rg p b).2.2 n c).1
 by_cases a:n∈web.map (·.1)
 ·rw[show aq (web.map (·.1)) n=true from decide_eq_true a]
  have:¬aY n=true:=λz=>hw.C.eM n a ((fq n).mp z)
  simpa using this
 ·rw[show aq (web.map (·.1)) n=false from decide_eq_false a]
  exact (fq n).mpr (d.resolve_left a)
def ji(web:aT):Nat:=ay (λp=>p.2.length+p.2.countP aY) web
def twice (h:bU web)(hw:cQ web){lt:fk->fk->Bool}(O:∀x∈web.map (·.1),∀n∈web.map (·.1),n∈fY web x->lt x n=!lt n x):2*ay (λp:fk×List fk=>p.2.countP λn=>aY n||lt p.1 n) web=ji web:=by
 have e:=hw.C.both O;simp[n8] at e;refine Eq.trans ?_ (e.trans ?_)
 ·refine congrArg (2*·) (b8 λp a=>?_)
  rw[dD h.nd a];exact ub λn b=>by rw[Bv h hw a b]
 ·refine b8 λp a=>?_
  rw[dD h.nd a];refine congrArg (p.2.length+·) (ub λn b=>by rw[Bv h hw a b])
def Gi (h:a≠b):ie a b=!ie b a:=by
 rcases ny.cV a b h with e|e
 ·rw[e,ny.ij e];rfl
 ·rw[e,ny.ij e];rfl
def tJ (h:bU web)(hw:cQ web):2*dE web=ji web:=twice h hw λx a n hn b=>Gi λe=>hw.C.fB x a (e ▸ b)
theorem xU (h:bU web)(hw:cQ web):dE web<=60:=by
 have e:=tJ h hw;have b:∀p∈web,p.2.length+p.2.countP aY<=15:=λp d=>by
  have a:=h.rg p d;have g:(p.1::p.2).length<=(web.map (·.1)++bV).length:=o5 (pA.mpr ⟨λz=>(a.2.2 _ z).2 rfl,a.2.1⟩) λn c=>by
   rcases f'.mp c with rfl|c
   ·exact eK.mpr (.inl (bg.mpr ⟨p,d,rfl⟩))
   ·exact eK.mpr (a.2.2 n c).1
  have a2:=o5 (oi rp a.2.1) λn c=>(fq n).mp (hF.mp c).2
  simp at g;have:=h.cb;have:bV.length=4:=rfl;rw[n6];lia
 have s:∀l:aT,(∀p∈l,p.2.length+p.2.countP aY<=15)->ji l<=15*l.length:=λl=>by
  induction l with
  | nil=>exact λ_=>eT _
  | cons p l i =>
   intro f;have a:=f p fm;have h2:=i λq j=>f q (gf _ j)
   show (p.2.length+p.2.countP aY)+ji l<=_;simp;lia
 have:=s web b;have:=h.cb;lia
theorem Nq (h:bU web)(hw:cQ web):0<dE web:=by
 have e:=tJ h hw;have cb:=h.cb
 match web,h with
 | p::l,h =>
  have:=(h.rg p fm).1;have:ji (p::l)=(p.2.length+p.2.countP aY)+ji l:=rfl;lia
theorem OU (h:gS rows x n=true):∃k,k<4/\bB rows x n=[k]/\bS x n k∈rows:=by
 delta gS at h;rw[ey,decide_eq_true_eq] at h
 match e:bB rows x n,h.1 with
 | [k],_ =>
  have a:k∈bB rows x n:=by rw[e];exact fm
  exact⟨k,oV a,rfl,of_decide_eq_true (hF.mp a).2⟩
def zh (h:bU web)(hw:cQ web)(t:eG web rows=true):rows.Nodup/\∀r∈rows,r.1="up"\/r.1="on":=by
 delta eG at t;rw[ey,decide_eq_true_eq,hG] at t;refine (KR (t:=hX) hw.C (λx n=>(bB rows x n).headD 0) (λx d n a _ f b=>?_) (λx d n a=>?_) ?_)
 ·have g:∀z∈web.map (·.1),aY z=false:=λz i=>by
   rw[<-XB,fq];exact hw.C.eM z i
  unfold hX at f b;rw[g n a,WR] at f;rw[g x d,WR] at b;rw[ny.ij f] at b;cases b
 ·obtain⟨p,c,rfl⟩:=bg.mp d;rw[dD h.nd c] at a;have st:=t.2 p c;unfold gu at st;rw[ey,hG] at st;obtain⟨k,_,e,j⟩:=OU (st.1 n a);rw[e];exact j
 ·rw[t.1,n8];exact b8 λp c=>by rw[dD h.nd c]
theorem Qk [DecidableEq b](l:List (List b))(nd:l.Nodup):(gC (λi=>(l[i]?).getD []) l.length)=l:=by
 have:∀i,i<=l.length->gC (λi=>(l[i]?).getD []) i=l.take i:=λi=>by
  induction i with
  | zero=>intro _;rfl
  | succ i c =>
   intro hi;rw[vZ,c (by omega)]
   have e:l[i]?=some l[i]:=cm (by omega)
   rw[fH e,e];delta tB;rw[if_neg]
   ·rfl
   ·intro d;obtain⟨j,hj,f⟩:=List.mem_take_iff_getElem.mp d;have:=oQ nd e (by rw[cm (show j<l.length by omega)];exact congrArg some f)
    omega
 rw[this _ (eT _),r4]
noncomputable def gn(t:bz):List Str:=[t.1,t.2.1,t.2.2]
theorem wI:∀rows:List bz,kA (rows.map au)=some (rows.map gn)
 | []=>rfl
 | t::l=>by
  show (if ([t.1,t.2.1,t.2.2]:List fk).isEmpty then none else (kA (l.map au)).map _)=_
  rw[if_neg (by simp),wI l]
  rfl
def Q0 (h:gn t=gn u):t=u:=by
 obtain⟨a,b,c⟩:=t;obtain⟨a',b',c'⟩:=u;simp[gn] at h;rw[h.1,h.2.1,h.2.2]
def B7{rows:List bz}(nd:rows.Nodup):(rows.map gn).Nodup:=gs.mpr (nd.imp λh e=>h (Q0 e))
theorem Pp (nd:fs.Nodup):kJ fs=fs.length:=by
 unfold kJ;have c:(fs.map λf=>(f.map ro:List Key)).Nodup:=gs.mpr (nd.imp λh e=>h (by
  have:∀a b:List fk,(a.map ro:List Key)=b.map ro->a=b:=λa=>by
   induction a with
   | nil=>intro b e;cases b with
    | nil=>rfl
    | cons _ _=>cases e
   | cons x a d =>
    intro b e;cases b with
    | nil=>cases e
    | cons y b =>
     simp at e;rw[e.1,d b e.2]
  exact this _ _ e))
 have e:=Qk _ c;rw[ab] at e;have:(λi=>(((fs[i]?).getD []).map ro:List Key))=λi=>((fs.map λf=>(f.map ro:List Key))[i]?).getD []:=funext λi=>by
  rw[cR];cases fs[i]?<;>rfl
 rw[this,e,ab]
def KQ{f:DF}{Z Z1:DS}{rows:List bz}(h:f Z=some (.lst (rows.map au),Z1))(nd:rows.Nodup)(a:rows.length<=70):rS f Z=some (.int (rows.length:Nat),Z1):=by
 delta rS;rw[h];show (kA (rows.map au)).bind _=_;rw[wI];show (if (rows.map gn).length<=70 then some (Dat.int (kJ (rows.map gn):Nat),Z1) else none)=_
 rw[Pp (B7 nd),ab,if_pos a]
def CS(fn:aS):Prop:=∀(web:aT) (rows:List bz),bU web->cQ web->(∀t∈rows,gI t)->rows.length<=1000->fn [.lst (web.map pairD),.lst (rows.map au)]=some (.dat (.bl (eG web rows)))
theorem JE(T:Txt mg)(hz:mg "zip"=none)(hs:mg "set"=none)(q1:bq P w K mg base "_law_way" 1 (aN K be))(s1:Eo be)(q2:bq P w K mg base "_law_round" 1 (aN K N))(s2:EO N)(F:bw K "_law_good" "_law_good" vm f fd):∃fn,bb P w K mg base a8 2 f fd ["_law_web_here","_law_rows"] (aN K fn)/\CS fn:=by
 refine' cx F AH rfl ?O ?post
 case O =>
  intro cdv A outer s H E hr;have nd:=AH.nd;cases T
  walk_at "S"
 case post =>
  intro web rows h hw hr hz;have s4:4<=sizeLine:=by unfold dk;decide
  have tw:=xU h hw;have te:=tJ h hw;have Sr:∀p∈web,gu rows p.1 p.2=false->eG web rows=false:=λp u e=>by
   delta eG;rw[HT];intro z;rw[ey,hG] at z;rw[z.2 p u] at e;cases e
  refine' dg rfl ?w
  case w =>
   have lr:cH (.lst (rows.map au))=some rows.length:=by simp[cH]
   refine' ag (aI (bA (aa rfl (aa rfl (aa rfl (aa rfl ai)))) s4) rfl (ak ?_));refine' ag (aI (Z2:=[.dat (.lst (web.map pairD)),.dat (.lst (rows.map au)),.own (.lst (bV.map .str)),.dat (.int 0),.no,.no,.no,.no,.no]) (v_res rfl) rfl (ak ?_));have iw:∀n,aZ n->fu false (.str n) (.lst (bV.map .str))=some (.dat (.bl (aY n))):=λn Q=>D1 Q.ok false
   have cW:=vb fP;have Su:∀k,k<4->nD (.str (ax k)) (bV.map .str)=some k:=λk D=>by
    refine (Cm fP (fP _ (fQ D))).trans ?_;have D:k=0\/k=1\/k=2\/k=3:=by omega
    rcases D with rfl|rfl|rfl|rfl<;>decide +kernel
   generalize hW:Dat.lst (bV.map .str)=W at iw ⊢;refine' ag (dO (λk Z=>∃o S U G r t,Hd o W/\Fr S/\Fr U/\(Fr G\/∃d,G=.own d)/\Fr r/\Fr t/\(∀p∈web.take k,gu rows p.1 p.2=true)/\Z=[.dat (.lst (web.map pairD)),.dat (.lst (rows.map au)),o,.dat (.int (ji (web.take k):Nat)),S,U,G,r,t]) (cS rfl) ⟨_,_,_,_,_,_,.inl rfl,.inl rfl,.inl rfl,.inl (.inl rfl),.inl rfl,.inl rfl,λp u=>(by cases u),rfl⟩ ?st ?fin)
   case fin =>
    rintro _ ⟨o,S,U,G,r,t,I,f4,f5,f6,J,L,ha,rfl⟩;rw[ab,r4] at *;have all:=hG.mpr λp u=>ha p u
    refine' ak (ag (B8 (Dc (CO (qN (af (ao rfl (af (gg (ao rfl (eJ rfl lr) (wo (sy (by decide))))) rfl) oC) rfl) ⟨_,rfl,?y,?n⟩)))))
    case y =>
     intro z;have z:=of_decide_eq_true z;have hl:rows.length=dE web:=by omega
     have V:eG web rows=true:=by
      delta eG;rw[decide_eq_true hl,all];rfl
     obtain⟨nd,_⟩:=zh h hw V;refine qN (af (ao (KQ rfl nd (by lia)) (eJ rfl lr) oC) rfl) ?_
     rw[V];exact kz (decide_eq_true rfl)
    case n =>
     intro z;have z:=of_decide_eq_false z;have hl:¬rows.length=dE web:=by omega
     have V:eG web rows=false:=by
      unfold eG;rw[decide_eq_false hl];rfl
     rw[V];exact⟨_,rfl⟩
   case st =>
    rintro k d hd _ ⟨o,S,U,G,r,t,I,f4,f5,f6,J,L,ha,rfl⟩;rw[cR] at hd;obtain⟨p,ep,rfl⟩:=hH.mp hd;have u:=eS ep;have D:=(cn.mp ep).1;have tx:aZ p.1:=h.txt (.inl (bg.mpr ⟨p,u,rfl⟩));have tr:∀n∈p.2,aZ n:=λn g=>h.txt ((h.rg p u).2.2 n g).1
    have hlp:=h.len u;have h3:=(h.rg p u).1;have et:=fH ep;have bp:=Sr p u;generalize hA:ji (web.take k)=A;have eA:ji (web.take (k+1))=A+(p.2.length+p.2.countP aY):=by
     rw[et,<-hA];unfold ji;rw[p6];rfl
    refine⟨[.dat (.lst (web.map pairD)),.dat (.lst (rows.map au)),o,.dat (.int A),.dat (.str p.1),.dat (.lst (p.2.map .str)),G,r,t],by rcases f4 with rfl|⟨d,rfl⟩<;>rcases f5 with rfl|⟨d,rfl⟩<;>rfl,?_⟩
    refine' ag (aI (Z2:=[.dat (.lst (web.map pairD)),.dat (.lst (rows.map au)),o,.dat (.int A),.dat (.str p.1),.dat (.lst (p.2.map .str)),.own (.lst (p.2.map λn=>cE (bB rows p.1 n))),r,t]) (fw (enc:=Dat.str) (xs:=p.2) (λn=>[.no,.dat (.str n),.dat (.str p.1),.dat (.lst (rows.map au))]) (λn=>cE (bB rows p.1 n)) (cS rfl) rfl ?c2 ?c3 ?c4 (λ_ _=>rfl)) ?c5 (ak ?c6))
    case c2=>unfold dk;omega
    case c3=>rintro n _ Z (rfl|⟨y,rfl⟩)<;>rfl
    case c4 =>
     intro n g;exact af (aF (aa rfl (aa rfl (aa rfl ai))) (s1 rows p.1 n hr tx (tr n g))) rfl
    case c5=>rcases f6 with (rfl|⟨d,rfl⟩)|⟨d,rfl⟩<;>rfl
    case c6 =>
     have X:=s2 (p.2.map (bB rows p.1)) (λl hl=>by
      obtain⟨n,_,rfl⟩:=bg.mp hl;exact⟨AA,λk D=>oV D⟩) (by rw[ab];omega) (by rw[ab];omega)
     rw[gd,gd,ZA] at X;have X:N [.lst (p.2.map λn=>cE (bB rows p.1 n))]=some (.dat (.bl ((p.2.all λn=>decide ((bB rows p.1 n).length=1))&&fO (p.2.map λn=>(bB rows p.1 n).headD 0)))):=X
     refine' ag (ck (kS (iE (af (aF (aa rfl ai) X) rfl) rfl)) ?no ?yes)
     case no =>
      intro z;rw[bp (by
       unfold gu;rw[HT];intro q;rw[ey,hG] at q;have:(p.2.all λn=>decide ((bB rows p.1 n).length=1))=true:=hG.mpr λn g=>by
        have:=q.1 n g;unfold gS at this;rw[ey] at this;exact this.1
       rw[this,q.2] at z;cases z)]
      exact ag (bc rfl (cG ⟨_,rfl⟩))
     case yes =>
      intro z;have z:((p.2.all λn=>decide ((bB rows p.1 n).length=1))&&fO (p.2.map λn=>(bB rows p.1 n).headD 0))=true:=by simpa using z
      rw[ey,hG] at z;obtain⟨Y,z2⟩:=z;have Y:∀n∈p.2,∃k,k<4/\bB rows p.1 n=[k]:=λn g=>by
       have:=of_decide_eq_true (Y n g)
       match e:bB rows p.1 n,this with
       | [k],_=>exact⟨k,oV (rows:=rows) (x:=p.1) (n:=n) (by rw[e];exact fm),rfl⟩
      have st:gu rows p.1 p.2=p.2.all λn=>!aY n||decide (ax ((bB rows p.1 n).headD 0)=n):=by
       unfold gu;rw[z2,WT];rw[pB,hG,hG];refine forall_congr' λn=>forall_congr' λg=>?_
       obtain⟨k,_,e⟩:=Y n g;unfold gS;rw[e];rfl
      have zz:kP (p.2.map .str) (p.2.map λn=>cE (bB rows p.1 n))=p.2.map λn=>.tup [.str n,cE (bB rows p.1 n)]:=by
       unfold kP;rw[List.zip_map',gd];rfl
      refine' aB (ak (ag (dO (λj Z=>∃o r t,Hd o W/\Fr r/\Fr t/\(∀n∈p.2.take j,(!aY n||decide (ax ((bB rows p.1 n).headD 0)=n))=true)/\Z=[.dat (.lst (web.map pairD)),.dat (.lst (rows.map au)),o,.dat (.int (A+(j+(p.2.take j).countP aY):Nat)),.dat (.str p.1),.dat (.lst (p.2.map .str)),.dat (.lst (p.2.map λn=>cE (bB rows p.1 n))),r,t]) (ds:=p.2.map λn=>.tup [.str n,cE (bB rows p.1 n)]) ?e1 ⟨_,_,_,I,J,L,λn g=>(by cases g),rfl⟩ ?e2 ?e3)))
      case e1 =>
       rw[<-zz];rfl
      case e3 =>
       rintro _ ⟨o,r,t,I,J,L,O,rfl⟩;rw[ab,r4] at *;refine ak (aB ⟨o,.dat (.str p.1),.dat (.lst (p.2.map .str)),.dat (.lst (p.2.map λn=>cE (bB rows p.1 n))),r,t,I,.inr ⟨_,rfl⟩,.inr ⟨_,rfl⟩,.inl (.inr ⟨_,rfl⟩),J,L,λq M=>?_,by rw[eA]⟩)
       rw[et] at M
       rcases eK.mp M with M|M
       ·exact ha q M
       ·rw[kq.mp M,st];exact hG.mpr O
      case e2 =>
       rintro j d hd _ ⟨o,r,t,I,J,L,O,rfl⟩;rw[cR] at hd;obtain⟨n,en,rfl⟩:=hH.mp hd;have g:=eS en;have Q:=tr n g;obtain⟨a,SD,ew⟩:=Y n g;have Sh:=fH en;generalize hB:A+(j+(p.2.take j).countP aY)=B;have eB:A+(j+1+(p.2.take (j+1)).countP aY)=B+1+(if aY n=true then 1 else 0):=by
        rw[Sh,n7,X2,<-hB];omega
       rw[eB];have Si:(!aY n||decide (ax a=n))=true->∀m∈p.2.take (j+1),(!aY m||decide (ax ((bB rows p.1 m).headD 0)=m))=true:=λq m hm=>by
        rw[Sh] at hm
        rcases eK.mp hm with hm|hm
        ·exact O m hm
        ·rw[kq.mp hm,ew];exact q
       have bn:¬(!aY n||decide (ax a=n))=true->eG web rows=false:=λq=>bp (by
        rw[st,HT];intro z;rw[hG] at z;have:=z n g;rw[ew] at this;exact q this)
       rw[ew];refine⟨[.dat (.lst (web.map pairD)),.dat (.lst (rows.map au)),o,.dat (.int B),.dat (.str p.1),.dat (.lst (p.2.map .str)),.dat (.lst (p.2.map λn=>cE (bB rows p.1 n))),.dat (.str n),.dat (cE [a])],by rcases J with rfl|⟨d,rfl⟩<;>rcases L with rfl|⟨d,rfl⟩<;>rfl,?_⟩
       generalize (Dat.lst (p.2.map λn=>cE (bB rows p.1 n)))=R
       have rW:eC 2 [.dat (.lst (web.map pairD)),.dat (.lst (rows.map au)),o,.dat (.int B),.dat (.str p.1),.dat (.lst (p.2.map .str)),.dat R,.dat (.str n),.dat (cE [a])]=some (W,[.dat (.lst (web.map pairD)),.dat (.lst (rows.map au)),.dat W,.dat (.int B),.dat (.str p.1),.dat (.lst (p.2.map .str)),.dat R,.dat (.str n),.dat (cE [a])]):=by rcases I with rfl|rfl<;>rfl
       by_cases c:aY n=true
       ·obtain⟨v,Sj,rfl⟩:=oj ((fq n).mp c);rw[if_pos c];have C:=iw _ Q;rw[c] at C;refine' ag (ck (b:=!decide (v=a)) (v_and (aP (ao rfl rW C)) (xC rfl (aP (ao (zZ (ds:=bV.map .str) (Z1:=[.dat (.lst (web.map pairD)),.dat (.lst (rows.map au)),.dat W,.dat (.int B),.dat (.str p.1),.dat (.lst (p.2.map .str)),.dat R,.dat (.str (ax v)),.dat (cE [a])]) (by rw[hW];rfl) (aa rfl ai) cW (iP Q.ok) (Su v Sj)) (a9 (d:=.int a) rfl rfl rfl rfl) ?r1)))) ?r2 ?r3)
        case r1 =>
         rw[ne_int];have:decide ((v:Int)=(a:Int))=decide (v=a):=decide_eq_decide.mpr (by omega)
         rw[this]
        case r2 =>
         intro z;have z:¬v=a:=by simpa using z
         rw[bn (by
          rw[c];show ¬decide _=true;rw[decide_eq_true_eq];exact λe=>z (o7 SD Sj e).symm)]
         exact ag (bc rfl (cG ⟨_,rfl⟩))
        case r3 =>
         intro z;have z:v=a:=by simpa using z
         refine' aB (ak (ag (aI (Z2:=[.dat (.lst (web.map pairD)),.dat (.lst (rows.map au)),.dat W,.dat (.int (B+1+1:Nat)),.dat (.str p.1),.dat (.lst (p.2.map .str)),.dat R,.dat (.str (ax v)),.dat (cE [a])]) (ao (af (ao rfl rfl rfl) rfl) (af (aF (aa (af (ao rfl rfl C) rfl) ai) rfl) rfl) rfl) rfl (ak (aB ⟨.dat W,.dat (.str (ax v)),.dat (cE [a]),.inr rfl,.inr ⟨_,rfl⟩,.inr ⟨_,rfl⟩,Si ?_,rfl⟩)))));rw[c,z];simp
       ·have c:aY n=false:=by simpa using c
        rw[if_neg (by rw[c];simp)]
        have C:=iw _ Q;rw[c] at C;refine' ag (ck (b:=false) (v_and (aP (ao rfl rW C)) (sS rfl rfl)) (λz=>by cases z) λ_=>aB (ak (ag (aI (Z2:=[.dat (.lst (web.map pairD)),.dat (.lst (rows.map au)),.dat W,.dat (.int (B+1+0:Nat)),.dat (.str p.1),.dat (.lst (p.2.map .str)),.dat R,.dat (.str n),.dat (cE [a])]) (ao (af (ao rfl rfl rfl) rfl) (af (aF (aa (af (ao rfl rfl C) rfl) ai) rfl) rfl) rfl) rfl (ak (aB ⟨.dat W,.dat (.str n),.dat (cE [a]),.inr rfl,.inr ⟨_,rfl⟩,.inr ⟨_,rfl⟩,Si ?_,rfl⟩))))))
        rw[c];rfl
theorem AY:∀l:List (fk×List fk),gx (l.map pairD) (l.map pairD)=true
 | []=>rfl
 | p::l=>by
  show (cJ (pairD p) (pairD p)&&gx (l.map pairD) (l.map pairD))=true;simp[AY l];show (cJ (.str p.1) (.str p.1)&&(cJ (.lst (p.2.map .str)) (.lst (p.2.map .str))&&true))=true;simp only[l9,wU,gY];simp
def xI:Dat->Bool
 | .tup ds=>ds.all iZ
 | _=>false
theorem Mz (h:xI d=true):gA d=true/\(toPy d).canLay0=true/\(toPy d).depth<=2:=by
 cases d with
 | tup ds =>
  obtain⟨a,b,c⟩:=@pf 1 iZ (λd h=>wz h) ds h
  exact⟨by simp only[gA];exact a,by simp only[toPy,Ts];exact b,by simp only[toPy,PyData.depth];lia⟩
 | _=>cases h
def Gq{l:List (fk×List fk)}(h:∀p∈l,aZ p.1/\∀n∈p.2,aZ n):bD (.lst (l.map pairD))=true:=by
 have key:(l.map pairD).all xI=true:=by
  rw[hG];intro d hd;obtain⟨p,e,rfl⟩:=bg.mp hd;obtain⟨f,g⟩:=h p e;show [Dat.str p.1,.lst (p.2.map .str)].all iZ=true;have i:iZ (.str p.1)=true:=f.ok;have j:iZ (.lst (p.2.map .str))=true:=by
   show (p.2.map Dat.str).all fh=true;rw[hG];intro d hd;obtain⟨n,k,rfl⟩:=bg.mp hd;exact (g n k).ok
  simp only[Xs,i,j];rfl
 obtain⟨a,b,c⟩:=@pf 2 xI (λd h=>Mz h) _ key
 dsimp only[bD,Yl];simp only[gA,toPy,Ts,PyData.depth,a,b];simp
 lia
def ot (h:f Z=some (.bl true,Z1))(h':g Z1=some (.bl b,Z2)):j6 f g Z=some (.bl b,Z2):=by
 delta j6;rw[h];exact h'
theorem Cy:∀l:List bz,gx (l.map au) (l.map au)=true
 | []=>rfl
 | p::l=>by
  show (cJ (au p) (au p)&&gx (l.map au) (l.map au))=true;rw[Cy l,we,decide_eq_true rfl];rfl
theorem PD{x:fk}(h:aZ x)(neg:Bool):fu neg (.str x) (.lst [.str "up",.str "on"])=some (.dat (.bl (if neg then !decide (x∈(["up","on"]:List fk)) else decide (x∈(["up","on"]:List fk))))):=jF (ns:=["up","on"]) (fun y a=>by
 simp at a
 rcases a with rfl|rfl
 ·exact iC.1
 ·exact iC.2) h neg
def A8(fn:aS):Prop:=∀(web:aT) (rows:List bz),bU web->cQ web->(∀t∈rows,gI t)->rows.length<=1000->fn [.lst (web.map pairD),.lst (rows.map au)]=some (.dat (.bl true))
theorem HJ(T:Txt mg)(x:bq P w K mg base "is_tinting" 5 (aN K c))(C:yk c)(D:bq P w K mg base "_law_good" 2 (aN K d))(G:CS d)(F:bw K "_law_right" "_law_right" yN f j):∃fn,bb P w K mg base a8 6 f j ["_law_web_here","_law_rows"] (aN K fn)/\A8 fn:=by
 refine' cx F zL rfl ?I ?B
 case I =>
  intro cdv A outer s H E a;have nd:=zL.nd;cases T
  walk_at "S"
 case B =>
  intro web rows h hw a k;have cb:=h.cb;have sz:web.length<=sizeLine:=by unfold dk;lia
  have J:rows.length<=sizeLine:=by unfold dk;lia
  have e:2<=sizeLine:=by unfold dk;decide
  have m:=Gq (l:=web) λp g=>⟨p8 (h.nm p g),λn L=>h.txt ((h.rg p g).2.2 n L).1⟩
  have o:dX false (.lst (web.map pairD)) (.lst (web.map pairD))=some (.dat (.bl true)):=by rw[v_eq m m,l9,AY]
  have q:=E6 a;have r:dX false (.lst (rows.map au)) (.lst (rows.map au))=some (.dat (.bl true)):=by rw[v_eq q q,l9,Cy]
  have u:∀b:Bool,dX false (.bl b) (.bl b)=some (.dat (.bl true)):=λb=>by rw[v_eq (jA rfl) (jA rfl),IX]
  have M:=C web rows h hw a k;have N:=G web rows h hw a k;refine' dg rfl ?w
  case w =>
   refine' ag (aI (aF (aa rfl ai) rfl) rfl (ak ?_));refine' ag (aI (fw (λp=>[.no,.dat (.str p.1),.dat (.lst (p.2.map .str))]) (λp=>pairD p) (cS rfl) rfl sz ?O ?Q (λ_ _=>rfl)) rfl (ak ?R))
   case O=>intro y hy Z hd;rcases hd with rfl|⟨z,rfl⟩<;>rfl
   case Q=>intro p g;exact cu (aa rfl (aa (af (aF (aa rfl ai) rfl) rfl) ai)) e
   case R =>
    refine' ag (aI (aF (aa rfl (aa rfl ai)) M) rfl (ak ?_));have v:=zh (rows:=rows) h hw;generalize hE:Dat.lst (web.map pairD)=E at *;generalize eG web rows=b at *;refine' ag (DU (Dc (CO (qN (af (ao (af (aF (aa (af (kh (λt=>[.no,.dat (au t)]) (λt=>!decide (t.1∈(["up","on"]:List fk))) au ?S ?U J ?V ?W (λ_ _ _=>rfl) (λ_ _=>rfl)) rfl) ai) rfl) rfl) rfl oC) rfl) ⟨_,rfl,?X,?Y⟩))))
    case S=>exact cS rfl
    case U=>rfl
    case V=>rintro t _ Z (rfl|⟨y,rfl⟩)<;>rfl
    case W =>
     intro t i;exact aP (ao (a9 rfl rfl rfl rfl) (af (bA (aa rfl (aa rfl ai)) e) rfl) (PD (a t i).1 true))
    case X =>
     intro z;refine qN (af (aF (aa rfl (aa rfl ai)) N) rfl) ⟨_,rfl,ak (ag (bc (v_res (ot (rj rfl rfl) (ot (af (ao rfl rfl (u _)) rfl) (ot (af (ao rfl rfl r) rfl) (af (ao rfl rfl o) rfl))))) ⟨_,rfl⟩))⟩
    case Y =>
     intro z;have z:=of_decide_eq_false z;have:b=false:=by
      cases b with
      | false=>rfl
      | true =>
       refine absurd ?_ z;rw[Zz.mpr]
       ·rfl
       ·intro t i;have:=(v rfl).2 t i;simp only[XB,Bool.not_eq_false',decide_eq_true_eq,f',hO,or_false];exact this
     subst this;exact⟨_,rfl,ak (ag (bc (v_res (ot (rj (b:=true) rfl rfl) (ot (af (ao rfl rfl (u _)) rfl) (ot (af (ao rfl rfl r) rfl) (af (ao rfl rfl o) rfl))))) ⟨_,rfl⟩))⟩
noncomputable def iJ(a:fk):Str:=if a="on" then "up" else "on"
def gh(ts:List bz):Prop:=∀t∈ts,gI t
def DN(fn:aS):Prop:=∀(rows:List bz) (x:fk) (b:Bool),gh rows->aZ x->rows.length<=1000->∃r,fn [.lst (rows.map au),.str x,.bl b]=some r/\∃ts:List bz,r=.own (.lst (ts.map au))/\gh ts/\ts.length=rows.length
def II(T:Txt mg)(F:bw K "_law_turned_on" "_law_turned_on" wV f D):∃fn,bb P w K mg base a8 1 f D ["_law_rows","_law_room","_law_shuts"] (aN K fn)/\DN fn:=by
 refine' cx F Dr rfl ?N ?B
 case N =>
  intro cdv A outer s H E G;cases T
  walk_at "S"
 case B =>
  intro rows x b G O l;have I:3<=sizeLine:=by delta dk;decide
  have m:2<=sizeLine:=by delta dk;decide
  refine' pz rfl ?w
  case w =>
   refine' ag (aI (bA ai (qh _)) rfl (ak ?_));refine' ag (dO (λk Z=>∃(ts:List bz) (o p q:Slot),Fr o/\Fr p/\Fr q/\gh ts/\ts.length=k/\Z=[.dat (.lst (rows.map au)),.dat (.str x),.dat (.bl b),.own (.lst (ts.map au)),o,p,q]) (cS rfl) ⟨[],_,_,_,.inl rfl,.inl rfl,.inl rfl,λt C=>(by cases C),rfl,rfl⟩ ?st ?J)
   case J =>
    rintro _ ⟨ts,o,p,q,_,_,_,ok,hl,rfl⟩;rw[ab] at hl;exact ak (ag (bc rfl ⟨_,_,rfl,ts,rfl,ok,hl⟩))
   case st =>
    rintro k d hd _ ⟨ts,o,p,q,Q,R,S,ok,hl,rfl⟩;rw[cR] at hd;obtain⟨t,L,rfl⟩:=hH.mp hd;have C:=G t (eS L);have hk:=(cn.mp L).1;obtain⟨g,a,c⟩:=t;obtain⟨o1,o2,r⟩:=C;have M:(ts.map au).length<sizeLine:=by rw[ab];delta dk;lia
    refine⟨[.dat (.lst (rows.map au)),.dat (.str x),.dat (.bl b),.own (.lst (ts.map au)),.dat (.str g),.dat (.str a),.dat (.str c)],by rcases Q with rfl|⟨d,rfl⟩<;>rcases R with rfl|⟨d,rfl⟩<;>rcases S with rfl|⟨d,rfl⟩<;>rfl,?_⟩
    have U:=jF (ns:=[a,c]) (λy h=>by
     simp at h
     rcases h with rfl|rfl
     ·exact o2
     ·exact r) O false
    have V:=jF (ns:=["south","west"]) (λy h=>by
     simp only[f',hO,or_false] at h
     rcases h with rfl|rfl
     ·exact fP _ (fQ (k:=2) (by decide))
     ·exact fP _ (fQ (k:=3) (by decide))) o2 true
    have W:=jF (ns:=["north","east"]) (λy h=>by
     simp only[f',hO,or_false] at h
     rcases h with rfl|rfl
     ·exact fP _ (fQ (k:=0) (by decide))
     ·exact fP _ (fQ (k:=1) (by decide))) r true
    have X:=oX (i:=g) (j:="on") o1.ok iC.2.ok;have Y:l8 [.bl (decide (g="on"))]=some (.dat (.int (if g="on" then 1 else 0))):=by
     by_cases e:g="on"
     ·rw[if_pos e,decide_eq_true e];rfl
     ·rw[if_neg e,decide_eq_false e];rfl
    have ix:cf (.lst [.str "on",.str "up"]) (.int (if g="on" then 1 else 0))=some (.str (iJ g)):=by
     delta iJ
     by_cases e:g="on"
     ·rw[if_pos e,if_pos e];rfl
     ·rw[if_neg e,if_neg e];rfl
    have ow:aZ (iJ g):=by
     delta iJ;split
     ·exact iC.1
     ·exact iC.2
    have v:∀u:bz,gI u->gh (ts++[u]):=λu hu z l=>by
     rcases eK.mp l with l|l
     ·exact ok z l
     ·rw[kq.mp l];exact hu
    refine ag (ck (oG (aP (ao rfl (af (bA (aa rfl (aa rfl ai)) m) rfl) U)) (vJ (iE rfl rfl) (oG (aP (ao rfl (af (bA (aa rfl (aa rfl ai)) m) rfl) V)) (aP (ao rfl (af (bA (aa rfl (aa rfl ai)) m) rfl) W))))) (λ_=>?_) (λ_=>?_))
    ·refine ag (gb (gr (d:=au ((iJ g),a,c)) rfl (aa (cu (aa (iG (af (bA (aa rfl (aa rfl ai)) m) rfl) (af (aF (aa (af (ao rfl rfl X) rfl) ai) Y) rfl) ix) (aa rfl (aa rfl ai))) I) ai) M) (ak (aB (ak (aB ⟨ts++[((iJ g),a,c)],.dat (.str g),.dat (.str a),.dat (.str c),.inr ⟨_,rfl⟩,.inr ⟨_,rfl⟩,.inr ⟨_,rfl⟩,v _ ⟨ow,o2,r⟩,by rw[eH,hl];rfl,by rw[eW];rfl⟩)))))
    ·refine ag (gb (gr (d:=au (g,a,c)) rfl (aa (cu (aa rfl (aa rfl (aa rfl ai))) I) ai) M) (ak (aB (ak (aB ⟨ts++[(g,a,c)],.dat (.str g),.dat (.str a),.dat (.str c),.inr ⟨_,rfl⟩,.inr ⟨_,rfl⟩,.inr ⟨_,rfl⟩,v _ ⟨o1,o2,r⟩,by rw[eH,hl];rfl,by rw[eW];rfl⟩)))))
def EU(fn:fN):Prop:=∀p (rows:List bz),gh rows->0<rows.length->rows.length<=100->∃r a,fn (pD p) [.lst (rows.map au)]=some (r,a)/\∃(ts:List bz) (b:Int×Int),r=.own (.lst (ts.map au))/\a=pD b/\gh ts/\ts.length<=200
def PK(T:Txt mg)(p1:bq P w K mg base "_law_draw" 1 (dM K 0 iQ)){L:aS}(q2:bq P w K mg base "_law_turned_on" 1 (aN K L))(R:DN L){f:eu}{V:lq}(F:bw K "_law_bent" "_law_bent" vP f V):∃fn,bb P w K mg base a8 2 f V ["_law_purse_here","_law_rows"] (dM K 0 fn)/\EU fn:=by
 refine' p7 F BZ rfl ?hb ?S
 case hb =>
  intro cdv A outer s H E o;cases T;have lk:lI "_law_purse_here":=⟨trivial⟩
  walk_at "S"
 case S =>
  intro p rows o h0 hz;have I:3<=sizeLine:=by unfold dk;decide
  have g:1<=sizeLine:=by unfold dk;decide
  have lr:cH (.lst (rows.map au))=some rows.length:=by simp[cH]
  refine' pR rfl ?w
  case w =>
   obtain⟨v0,U,t0,a0,b0⟩:=fS p (m:=(rows.length:Int)) (by omega) (by omega)
   obtain⟨a,rfl⟩:=I1 a0;have ha:a<rows.length:=by omega
   obtain⟨⟨b,x,n⟩,W⟩:∃t,rows[a]?=some t:=⟨_,cm ha⟩;obtain⟨o1,o2,C⟩:=o _ (eS W);have X:cf (.lst (rows.map au)) (.int (a:Int))=some (au (b,x,n)):=by
    exact kj (by rw[cR,W];rfl)
   obtain⟨v1,c,t1,a1,b1⟩:=fS U (m:=9) (by decide) (by decide)
   refine' ag (aI (dI rfl (aa (eJ rfl lr) ai) rfl t0 rfl) rfl (ak ?_));refine' ag (D6 (a9 rfl rfl rfl X) rfl (ak ?_));refine' ag (aI (Z2:=[.io (pD c),.dat (.lst (rows.map au)),.dat (.int a),.dat (.str b),.dat (.str x),.dat (.str n),.dat (.int v1)]) (dI rfl (aa rfl ai) rfl t1 rfl) rfl (ak ?_));have sF:∀k:Nat,eI (.lst (rows.map au)) (some (k:Int)) none=some (.own (.lst ((rows.drop k).map au))):=λk=>by
    show some (Res.own (.lst (cutD (rows.map au) (some (k:Int)) none)))=_;rw[mP,Vp]
   have D:∀k:Nat,eI (.lst (rows.map au)) none (some (k:Int))=some (.own (.lst ((rows.take k).map au))):=λk=>by
    show some (Res.own (.lst (cutD (rows.map au) none (some (k:Int)))))=_;rw[mJ,Vo]
   have ad:∀xs ys:List bz,xs.length+ys.length<=1000->g8 (.lst (xs.map au)) (.lst (ys.map au))=some (.own (.lst ((xs++ys).map au))):=λxs ys h=>by
    rw[eW];exact nP (by rw[ab,ab];unfold dk;omega)
   have M:gh (rows.take a):=λt d=>o t (VX d)
   have N:gh (rows.drop (a+1)):=λt d=>o t (WW d)
   have G:(rows.take a).length=a:=by rw[mv];omega
   have J:(rows.drop (a+1)).length=rows.length-(a+1):=se;have y:∀{xs ys:List bz},gh xs->gh ys->gh (xs++ys):=λh1 h2 t d=>by
    rcases eK.mp d with z|z
    ·exact h1 t z
    ·exact h2 t z
   have O:∀{t:bz},gI t->gh [t]:=λh t d=>by rw[kq.mp d];exact h
   have Y:((a:Int)+1)=((a+1:Nat):Int):=by omega
   have l:eI (.lst (rows.map au)) (some ((a:Int)+1)) none=some (.own (.lst ((rows.drop (a+1)).map au))):=by rw[Y];exact sF (a+1)
   have B:∀t:bz,gI t->((rows.take a++[t]).length+(rows.drop (a+1)).length<=1000/\(rows.take a).length+[t].length<=1000/\gh ((rows.take a++[t])++rows.drop (a+1))/\((rows.take a++[t])++rows.drop (a+1)).length<=200):=λt d=>⟨by rw[eH,G,J];show a+1+_<=_;omega,by rw[G];show a+1<=_;omega,y (y M (O d)) N,by rw[eH,eH,G,J];show a+1+_<=_;omega⟩
   have nobody:aZ "nobody":=⟨by decide +kernel,by decide +kernel⟩
   have down:aZ "down":=⟨by decide +kernel,by decide +kernel⟩
   have eo:=oX (i:=b) (j:="on") o1.ok iC.2.ok;have ei:l8 [.bl (decide (b="on"))]=some (.dat (.int (if b="on" then 1 else 0))):=by
    by_cases e:b="on"
    ·rw[if_pos e,decide_eq_true e];rfl
    ·rw[if_neg e,decide_eq_false e];rfl
   have iw:cf (.lst [.str "on",.str "up"]) (.int (if b="on" then 1 else 0))=some (.str (iJ b)):=by
    unfold iJ
    by_cases e:b="on"
    ·rw[if_pos e,if_pos e];rfl
    ·rw[if_neg e,if_neg e];rfl
   have ow:aZ (iJ b):=by
    unfold iJ;split
    ·exact iC.1
    ·exact iC.2
   refine ag (ck (aP (ao rfl rfl (eq_int _ _))) (λ_=>?_) (λ_=>aB (ak ?_)))
   ·refine ag (bc (ao (af (jv rfl rfl (D a)) rfl) (af (jX rfl (af (ao rfl rfl rfl) rfl) l) rfl) (ad _ _ (by rw[G,J];omega))) (cG ⟨_,_,_,rfl,rfl,rows.take a++rows.drop (a+1),c,rfl,rfl,y M N,by rw[eH,G,J];omega⟩))
   refine ag (ck (aP (ao rfl rfl (eq_int _ _))) (λ_=>?_) (λ_=>aB (ak ?_)))
   ·refine ag (bc (ao rfl (af (bA (aa (a9 rfl rfl rfl X) ai) g) rfl) (ad rows [(b,x,n)] (by show _+1<=_;omega))) (cG ⟨_,_,_,rfl,rfl,rows++[(b,x,n)],c,rfl,rfl,y o (O ⟨o1,o2,C⟩),by rw[eH];show _+1<=_;omega⟩))
   refine ag (ck (aP (ao rfl rfl (eq_int _ _))) (λ_=>?_) (λ_=>aB (ak ?_)))
   ·obtain⟨q,r,u,v⟩:=B (b,n,x) ⟨o1,C,o2⟩;exact ag (bc (ao (af (ao (af (jv rfl rfl (D a)) rfl) (af (bA (aa (cu (aa rfl (aa rfl (aa rfl ai))) I) ai) g) rfl) (ad _ [(b,n,x)] r)) rfl) (af (jX rfl (af (ao rfl rfl rfl) rfl) l) rfl) (ad _ _ q)) (cG ⟨_,_,_,rfl,rfl,_,c,rfl,rfl,u,v⟩))
   refine ag (ck (aP (ao rfl rfl (eq_int _ _))) (λ_=>?_) (λ_=>aB (ak ?_)))
   ·obtain⟨q,r,u,v⟩:=B ((iJ b),x,n) ⟨ow,o2,C⟩;exact ag (bc (ao (af (ao (af (jv rfl rfl (D a)) rfl) (af (bA (aa (cu (aa (iG (af (bA (aa rfl (aa rfl ai)) (show 2<=dk by unfold dk;decide)) rfl) (af (aF (aa (af (ao rfl rfl eo) rfl) ai) ei) rfl) iw) (aa rfl (aa rfl ai))) I) ai) g) rfl) (ad _ [((iJ b),x,n)] r)) rfl) (af (jX rfl (af (ao rfl rfl rfl) rfl) l) rfl) (ad _ _ q)) (cG ⟨_,_,_,rfl,rfl,_,c,rfl,rfl,u,v⟩))
   refine ag (ck (aP (ao rfl rfl (eq_int _ _))) (λ_=>?_) (λ_=>aB (ak ?_)))
   ·obtain⟨q,r,u,v⟩:=B (b,x,"nobody") ⟨o1,o2,nobody⟩;exact ag (bc (ao (af (ao (af (jv rfl rfl (D a)) rfl) (af (bA (aa (cu (aa rfl (aa rfl (aa rfl ai))) I) ai) g) rfl) (ad _ [(b,x,"nobody")] r)) rfl) (af (jX rfl (af (ao rfl rfl rfl) rfl) l) rfl) (ad _ _ q)) (cG ⟨_,_,_,rfl,rfl,_,c,rfl,rfl,u,v⟩))
   refine ag (ck (aP (ao rfl rfl (eq_int _ _))) (λ_=>?_) (λ_=>aB (ak ?_)))
   ·obtain⟨q,r,u,v⟩:=B ("down",x,n) ⟨down,o2,C⟩;exact ag (bc (ao (af (ao (af (jv rfl rfl (D a)) rfl) (af (bA (aa (cu (aa rfl (aa rfl (aa rfl ai))) I) ai) g) rfl) (ad _ [("down",x,n)] r)) rfl) (af (jX rfl (af (ao rfl rfl rfl) rfl) l) rfl) (ad _ _ q)) (cG ⟨_,_,_,rfl,rfl,_,c,rfl,rfl,u,v⟩))
   obtain⟨_,Z,Q,rfl,k1,l1⟩:=R rows x false o o2 (by omega)
   obtain⟨_,e2,Sh,rfl,k2,l2⟩:=R Q n false k1 C (by omega)
   obtain⟨_,e3,Si,rfl,k3,l3⟩:=R rows n true o C (by omega)
   refine ag (ck (aP (ao rfl rfl (eq_int _ _))) (λ_=>?_) (λ_=>aB (ak ?_)))
   ·exact ag (bc (aF (aa rfl (aa rfl (aa rfl ai))) Z) (cG ⟨_,_,_,rfl,rfl,Q,c,rfl,rfl,k1,by omega⟩))
   refine ag (ck (aP (ao rfl rfl (eq_int _ _))) (λ_=>?_) (λ_=>aB (ak ?_)))
   ·exact ag (bc (aF (aa (af (aF (aa rfl (aa rfl (aa rfl ai))) Z) rfl) (aa rfl (aa rfl ai))) e2) (cG ⟨_,_,_,rfl,rfl,Sh,c,rfl,rfl,k2,by omega⟩))
   exact ag (bc (aF (aa rfl (aa rfl (aa rfl ai))) e3) (cG ⟨_,_,_,rfl,rfl,Si,c,rfl,rfl,k3,by omega⟩))
noncomputable def rl(rs:Fl)(n:fk):Ob:=((rs.find? λy=>decide (y.1=n)).map (·.2)).getD ⟨0,0,0,0⟩
def mY(x y:Ob):Nat:=if x.t=y.b then 0 else if x.r=y.l then 1 else if x.b=y.t then 2 else 3
def DH(n:fk):Nat:=if n=ax 0 then 0 else if n=ax 1 then 1 else if n=ax 2 then 2 else 3
def sU(rs:Fl)(x n:fk):Nat:=if aY n then DH n else mY (rl rs x) (rl rs n)
theorem nX (nd:(rs.map (·.1)).Nodup)(a:y∈rs):rl rs y.1=y.2:=by
 delta rl;cases e:rs.find? λq=>decide (q.1=y.1) with
 | none=>exact absurd (Vc.mp e y a) (by simp)
 | some q =>
  have b:=z0 e;have c:=Wi e;rw[rB nd b a (by simpa using c)]
  rfl
def yj (a:k<4):DH (ax k)=k:=by
 have a:k=0\/k=1\/k=2\/k=3:=by omega
 rcases a with rfl|rfl|rfl|rfl<;>decide +kernel
def B0 (b:x.ok)(c:y.ok)(a:k<4)(h:bC k x y=true):mY x y=k:=by
 have a:k=0\/k=1\/k=2\/k=3:=by omega
 delta Ob.ok at b c;delta mY
 rcases a with rfl|rfl|rfl|rfl
 ·rw[xp] at h;rw[if_pos (by lia)]
 ·rw[xZ] at h;rw[if_neg (by omega),if_pos (by lia)]
 ·rw[vj] at h;rw[if_neg (by omega),if_neg (by omega),if_pos (by lia)]
 ·rw[wM] at h;rw[if_neg (by omega),if_neg (by omega),if_neg (by omega)]
def Rk (a:k<4)(h:bC k x y=true):bC ((k+2)%4) y x=true:=by
 have a:k=0\/k=1\/k=2\/k=3:=by omega
 rcases a with rfl|rfl|rfl|rfl
 ·rw[xp] at h;rw[vj];omega
 ·rw[xZ] at h;rw[wM];omega
 ·rw[vj] at h;rw[xp];omega
 ·rw[wM] at h;rw[xZ];omega
def aQ.pK (F:aQ rs)(a:x∈rs):x.2.ok:=by
 have:=F.row x a;delta Ob.ok;omega
def aQ.room (F:aQ rs)(a:x∈rs):aY x.1=false:=by
 have:=F.nm x a;unfold dW at this;simp only[ey,um] at this
 first|exact this.1.1.1|exact this.1.1.2|exact this.1.2|exact this.2|exact this.1
def aQ.uK (F:aQ rs)(c:x∈rs)(a:k<4)(h:n∈eO rs x.2 k):sU rs x.1 n=k:=by
 delta sU
 rcases u7 h with rfl|⟨y,b,q,rfl⟩
 ·rw[if_pos ((fq _).mpr (fQ a)),yj a]
 ·rw[if_neg (by rw[F.room b];simp),nX F.nd c,nX F.nd b]
  exact B0 (F.pK c) (F.pK b) a q
def aQ.near (F:aQ rs)(b:fV (fF rs) a)(c:p∈a):∃x∈rs,p.1=x.1/\gN (fy rs x.2 4) p.2:=by
 obtain⟨q,d,e,f⟩:=b.2 p c;obtain⟨x,g,rfl⟩:=bg.mp d;exact⟨x,g,e.symm,f⟩
def wF (h:n∈fy rs x 4):∃k,k<4/\n∈eO rs x k:=by
 rw[qV] at h;simp only[eK] at h
 rcases h with ((h|h)|h)|h
 ·exact⟨0,by decide,h⟩
 ·exact⟨1,by decide,h⟩
 ·exact⟨2,by decide,h⟩
 ·exact⟨3,by decide,h⟩
def map_const (ne:l≠[])(h:∀n∈l,f n=k):∃m,l.map f=ia (m+1) k:=by
 refine⟨l.length-1,ZP.mpr ⟨?_,λb a=>?_⟩⟩
 ·rw[ab];have:=qo.mpr ne;lia
 ·obtain⟨n,c,rfl⟩:=bg.mp a;exact h n c
def aQ.Ig (F:aQ rs)(g:fV (fF rs) f)(h:p∈f):fO (p.2.map (sU rs p.1))=true:=by
 obtain⟨x,i,e,A,B,j,l⟩:=F.near g h;rw[l,e,eW,EV,<-eW,<-j,qV];have c:=λk m=>map_const (MR rs x.2 k) λn o=>F.uK i m o
 obtain⟨a,q⟩:=c 0 (by decide)
 obtain⟨b,r⟩:=c 1 (by decide)
 obtain⟨s,t⟩:=c 2 (by decide)
 obtain⟨d,u⟩:=c 3 (by decide)
 simp only[eW,eW,eW,q,r,t,u,pe,pe];exact G7 a b s d
def aQ.pw (F:aQ rs)(c:fV (fF rs) a)(d:p∈a)(f:n∈p.2):sU rs p.1 n<4:=by
 obtain⟨x,g,e,h⟩:=F.near c d;obtain⟨k,b,hs⟩:=wF (h.perm.mem_iff.mp f);rw[e,F.uK g b hs];exact b
def aQ.Ng (F:aQ rs)(tw:fV (fF rs) a)(hp:p∈a)(hn:n∈p.2)(hw:aY n=true):ax (sU rs p.1 n)=n:=by
 obtain⟨k,b,rfl⟩:=oj ((fq n).mp hw);delta sU;rw[if_pos hw,yj b]
def aQ.vT (F:aQ rs)(g:fV (fF rs) d)(i:p∈d)(j:q∈d)(l:q.1∈p.2):sU rs q.1 p.1=(sU rs p.1 q.1+2)%4:=by
 obtain⟨x,a,e,m⟩:=F.near g i;obtain⟨y,b,c,_⟩:=F.near g j;obtain⟨k,f,hs⟩:=wF (m.perm.mem_iff.mp l);rw[e,c,F.uK a f (c ▸ hs)]
 rcases u7 hs with z|⟨n,h,o,z⟩
 ·have:=F.room b;rw[<-c,z,(fq _).mpr (fQ f)] at this;cases this
 ·obtain rfl:n=y:=rB F.nd h b (z.symm.trans c);delta sU;rw[if_neg (by rw[F.room a];simp),nX F.nd a,nX F.nd b]
  exact B0 (F.pK b) (F.pK a) (Vd _ (by decide)) (Rk f o)
def dF(rs:Fl)(x n:fk):Bool:=aY n||decide (sU rs x n<2)
def cN(rs:Fl)(a:aT):List bz:=a.flatMap λp=>(p.2.filter (dF rs p.1)).map λn=>bS p.1 n (sU rs p.1 n)
def Bc:r∈cN rs d ↔ ∃p∈d,∃n∈p.2,dF rs p.1 n=true/\r=bS p.1 n (sU rs p.1 n):=by
 delta cN;simp only[V5,bg,hF];constructor
 ·rintro⟨p,a,n,⟨b,c⟩,rfl⟩;exact⟨p,a,n,b,c,rfl⟩
 ·rintro⟨p,a,n,b,c,rfl⟩;exact⟨p,a,n,⟨b,c⟩,rfl⟩
def D2 (F:aQ rs)(b:fV (fF rs) a)(c:p∈a)(e:q∈a)(d:q.1∈p.2):decide (sU rs p.1 q.1<2)=!decide (sU rs q.1 p.1<2):=by
 have h1:=F.pw b c d;have h2:=F.vT b c e d;rw[pB,um,decide_eq_true_eq,decide_eq_false_iff_not];omega
theorem yD (F:aQ rs)(b:fV (fF rs) a)(h:bU a)(hw:cQ a):(cN rs a).length=dE a:=by
 have e:=twice h hw (lt:=λx n=>decide (sU rs x n<2)) λx f n g c=>by
  obtain⟨p,d,rfl⟩:=bg.mp f;obtain⟨q,i,rfl⟩:=bg.mp g;rw[dD h.nd d] at c;exact D2 F b d i c
 have j:=tJ h hw;have e3:(cN rs a).length=ay (λp:fk×List fk=>p.2.countP λn=>aY n||decide (sU rs p.1 n<2)) a:=by
  delta cN;clear e j b h hw;induction a with
  | nil=>rfl
  | cons p l k =>
   simp only[VQ,eH,k,ab,<-n6];rfl
 lia
def LK (h:bU a):cN rs a=(j0 (a.map (·.1)) (fY a) (dF rs)).map λp=>bS p.1 p.2 (sU rs p.1 p.2):=by
 delta cN j0;simp only[aaM,aaN];refine congrArg _ (ql λp b=>?_)
 simp only[dD h.nd b,gd];rfl
def Js (F:aQ rs)(j:fV (fF rs) a)(h:bU a)(hw:cQ a):(cN rs a).Nodup:=by
 rw[LK h];refine Dp hw.C.eX hw.C.nd _ λx d n e f b c=>?_
 obtain⟨p,g,rfl⟩:=bg.mp d;obtain⟨q,k,rfl⟩:=bg.mp e;rw[dD h.nd g] at f;have i:∀z∈a.map (·.1),aY z=false:=λz l=>by
  rw[<-XB,fq];exact hw.C.eM z l
 delta dF at b c;rw[i _ e,WR] at b;rw[i _ d,WR] at c;rw[D2 F j g k f,c] at b;cases b
def Py (F:aQ rs)(f:fV (fF rs) c)(h:bU c)(hw:cQ c)(a:p∈c)(d:n∈p.2)(s:j<4):bS p.1 n j∈cN rs c ↔ j=sU rs p.1 n:=by
 have hs:=F.pw f a d;have l:p.1≠n:=λe=>((h.rg p a).2.2 n d).2 e.symm
 rw[Bc];constructor
 ·rintro⟨q,b,m,g,i,e⟩
  rcases AG e with⟨k,r⟩|⟨k,r⟩
  ·subst r;rw[<-k] at e;have:=CK Ah l s (by rw[k];exact F.pw f b g) e
   rw[this]
  ·subst k;subst r;have t:=F.pw f b g;have o:=F.vT f b a g;have sw:=Ak (u:=("up":fk)) (o:="on") (x:=p.1) (n:=q.1) s;have e:fI ("up":fk) "on" p.1 q.1 j=fI ("up":fk) "on" q.1 p.1 (sU rs q.1 p.1):=e;rw[<-sw] at e;have:=CK Ah (λz=>l z.symm) (Vd _ (by decide)) t e
   lia
 ·rintro rfl
  by_cases i:dF rs p.1 n=true
  ·exact⟨p,a,n,d,i,rfl⟩
  ·unfold dF at i;simp only[WY,not_or] at i;have g:=((h.rg p a).2.2 n d).1;have v:=g.resolve_right λz=>i.1 ((fq n).mpr z)
   obtain⟨q,b,rfl⟩:=bg.mp v;have A:p.1∈q.2:=by
    have y:=hw.C.sym p.1 (bg.mpr ⟨p,a,rfl⟩) q.1 v;rw[dD h.nd a,dD h.nd b] at y;exact y d
   have o:=F.vT f a b d;refine⟨q,b,p.1,A,?_,?_⟩
   ·delta dF;rw[WY,decide_eq_true_eq];right;lia
   ·rw[o];exact (Ak hs).symm
def GB (F:aQ rs)(b:fV (fF rs) a)(h:bU a)(hw:cQ a)(pm:∀t,t∈ts ↔ t∈cN rs a)(c:p∈a)(d:n∈p.2):bB ts p.1 n=[sU rs p.1 n]:=by
 have hs:=F.pw b c d;have e:bB ts p.1 n=(hI 4).filter λk=>decide (k=sU rs p.1 n):=by
  refine VR λk f=>decide_eq_decide.mpr ?_
  rw[pm];exact Py F b h hw c d (mA.mp f)
 rw[e];generalize sU rs p.1 n=s at hs;have hs:s=0\/s=1\/s=2\/s=3:=by omega
 rcases hs with rfl|rfl|rfl|rfl<;>decide
theorem R0 (F:aQ rs)(c:fV (fF rs) b)(h:bU b)(hw:cQ b)(pm:ts.Perm (cN rs b)):eG b ts=true:=by
 delta eG;rw[pm.length_eq,yD F c h hw,decide_eq_true rfl,Yb,hG];intro p d;have e:=λn a=>GB F c h hw (λt=>pm.mem_iff) d (n:=n) a
 delta gu;rw[ey,hG];refine⟨λn a=>?_,?_⟩
 ·delta gS;rw[e n a];cases f:aY n with
  | false=>rfl
  | true=>exact decide_eq_true (F.Ng c d a f)
 ·rw[<-F.Ig c d];refine congrArg fO (ql λn a=>?_)
  rw[e n a];rfl
def lg(rs:Fl):List (fk×Dat):=rs.map λy=>(y.1,aE y)
theorem Kp (nd:(rs.map (·.1)).Nodup):o6 [.lst (rs.map λy=>.tup [.str y.1,aE y])]=some (.own (.bP (lg rs))):=by
 have:∀l:Fl,jP (l.map λy=>.tup [.str y.1,aE y])=some (lg l):=by
  intro l;induction l with
  | nil=>rfl
  | cons p l a =>
   show (jP (l.map λy=>.tup [.str y.1,aE y])).map _=_
   rw[a];rfl
 show (jP (rs.map λy=>.tup [.str y.1,aE y])).bind _=_
 rw[this];refine if_pos ?_;delta lg;rw[gd];exact nd
theorem Rv (nd:(rs.map (·.1)).Nodup)(a:y∈rs):cf (.bP (lg rs)) (.str y.1)=some (aE y):=by
 have e:(rs.find? λq=>decide (q.1=y.1))=some y:=by
  cases e:rs.find? λq=>decide (q.1=y.1) with
  | none=>exact absurd (Vc.mp e y a) (by simp)
  | some q =>
   have b:=z0 e;have c:=Wi e;rw[rB nd b a (by simpa using c)]
 show dq (lg rs) y.1=_;delta dq lg;rw[aa8];show ((rs.find? λq=>decide (q.1=y.1)).map _).map _=_
 rw[e];rfl
noncomputable def va:List fk->bz
 | [a,b,c]=>(a,b,c)
 | _=>("up","up","up")
def Q6(F):∃ts:List bz,(jH (F.map gn)).map tupS=ts.map au/\ts.Perm F:=by
 have pm:(jH (F.map gn)).Perm (F.map gn):=ib _ _;refine⟨(jH (F.map gn)).map va,?_,?_⟩
 ·rw[gd];refine ql λl hl=>?_
  obtain⟨t,_,rfl⟩:=bg.mp (pm.mem_iff.mp hl);rfl
 ·have:=pm.map va;rw[gd] at this;have e:F.map (va ∘ gn)=F:=by
   refine (ql λt _=>?_).trans (List.map_id F)
   rfl
  rw[e] at this;exact this
def yV (b:aZ n)(c:i<4)(d:j<4):fu false (.str n) (.lst [.str (ax i),.str (ax j)])=some (.dat (.bl (decide (n=ax i\/n=ax j)))):=by
 refine (jF (ns:=[ax i,ax j]) (λy a=>by
  simp at a
  rcases a with rfl|rfl
  ·exact fP _ (fQ c)
  ·exact fP _ (fQ d)) b false).trans ?_
 have:decide (n∈[ax i,ax j])=decide (n=ax i\/n=ax j):=decide_eq_decide.mpr (by simp)
 rw[<-this];rfl
def Fo(fn:aS):Prop:=∀(rs:Fl) (a:aT),Drawn rs->fV (fF rs) a->bU a->cQ a->∃r,fn [.lst (a.map pairD),aJ rs]=some r/\∃ts:List bz,r=.own (.lst (ts.map au))/\ts.Perm (cN rs a)
def GV(T:Txt mg)(F:bw K "_law_tinting" "_law_tinting" wO f fd):∃fn,bb P w K mg base a8 1 f fd ["_law_web_here","_law_floor_here"] (aN K fn)/\Fo fn:=by
 refine' cx F DC rfl ?hb ?X
 case hb =>
  intro cdv A outer s H E hr;cases T
  walk_at "S"
 case X =>
  intro rs a dr Y h hw;have F:=dr.fl;have f8:=F.cb;have c:2<=sizeLine:=by delta dk;decide
  have I:3<=sizeLine:=by delta dk;decide
  have sr:rs.length<=sizeLine:=by delta dk;lia
  have be:=yD F Y h hw;have Sk:=xU h hw;refine' pz rfl ?w
  case w =>
   show WS _ [.dat (.lst (a.map pairD)),.dat (aJ rs),.no,.no,.no,.no,.no] _;refine' ag (aI (Z2:=[.dat (.lst (a.map pairD)),.dat (aJ rs),.own (.bP (lg rs)),.no,.no,.no,.no]) (aF (aa (af (fw (enc:=aE) (xs:=rs) (λy=>[.no,.dat (aE y)]) (λy=>.tup [.str y.1,aE y]) (cS rfl) rfl sr ?a1 ?M (λ_ _=>rfl)) rfl) ai) (Kp F.nd)) rfl (ak ?a3))
   case a1=>rintro y _ Z (rfl|⟨z,rfl⟩)<;>rfl
   case M=>intro y N;exact cu (aa (a9 rfl rfl rfl rfl) (aa rfl ai)) c
   case a3 =>
    have kg:=λy N=>Rv F.nd (y:=y) N
    generalize Dat.bP (lg rs)=D at *;generalize hW:Dat.lst (a.map pairD)=W;generalize hR:aJ rs=R;refine' ag (aI (Z2:=[.dat W,.dat R,.own D,.own (.lst []),.no,.no,.no]) (bA ai (qh _)) rfl (ak ?_));refine' ag (dO (ds:=a.map pairD) (λk Z=>∃Q S g,Fr Q/\Fr S/\Fr g/\Z=[.dat W,.dat R,.own D,.own (.lst ((cN rs (a.take k)).map au)),Q,S,g]) (by rw[<-hW];exact cS rfl) ⟨_,_,_,.inl rfl,.inl rfl,.inl rfl,rfl⟩ ?st ?fin)
    case fin =>
     rintro _ ⟨Q,S,g,f4,f5,J,rfl⟩;rw[ab,r4];obtain⟨ts,e,pm⟩:=Q6 (cN rs a);have e2:mO [.lst ((cN rs a).map au)]=some (.own (.lst (ts.map au))):=by
      show (kA ((cN rs a).map au)).bind _=_;rw[wI];show (if ((cN rs a).map gn).Nodup/\((cN rs a).map gn).length<64 then some (Res.own (.lst ((jH ((cN rs a).map gn)).map tupS))) else none)=_
      rw[if_pos ⟨B7 (Js F Y h hw),by rw[ab];lia⟩,e]
     exact ak (ag (bc (gg (aF (aa rfl ai) e2)) (cG ⟨_,_,rfl,ts,rfl,pm⟩)))
    case st =>
     rintro k d hd _ ⟨Q,S,g,f4,f5,J,rfl⟩;rw[cR] at hd;obtain⟨p,ep,rfl⟩:=hH.mp hd;have hp:=eS ep;obtain⟨x,hx,e1,tu⟩:=F.near Y hp;have kx:=kg x hx;have tr:∀n∈p.2,aZ n:=λn U=>h.txt ((h.rg p hp).2.2 n U).1
     have et:cN rs (a.take (k+1))=cN rs (a.take k)++(p.2.filter (dF rs p.1)).map λn=>bS p.1 n (sU rs p.1 n):=by
      rw[fH ep];delta cN;rw[W2];simp
     have pre:(cN rs (a.take (k+1))).length<=60:=by
      refine wd ?_ (be ▸ Sk);have:cN rs a=cN rs (a.take (k+1))++cN rs (a.drop (k+1)):=by
       delta cN;rw[<-W2,Vf]
      simp only[this,eH]
      lia
     rw[et,eH] at pre;rw[et];generalize cN rs (a.take k)=v at *;refine⟨[.dat W,.dat R,.own D,.own (.lst (v.map au)),.dat (.str p.1),.dat (.lst (p.2.map .str)),g],by rcases f4 with rfl|⟨d,rfl⟩<;>rcases f5 with rfl|⟨d,rfl⟩<;>rfl,?_⟩
     refine' ag (dO (λj Z=>∃g,Fr g/\Z=[.dat W,.dat R,.own D,.own (.lst ((v++((p.2.take j).filter (dF rs p.1)).map λn=>bS p.1 n (sU rs p.1 n)).map au)),.dat (.str p.1),.dat (.lst (p.2.map .str)),g]) (cS rfl) ⟨_,J,by simp⟩ ?st2 ?fin2)
     case fin2 =>
      rintro _ ⟨g,J,rfl⟩;rw[ab,r4];exact ak (aB ⟨_,_,_,.inr ⟨.str p.1,rfl⟩,.inr ⟨.lst (p.2.map .str),rfl⟩,J,rfl⟩)
     case st2 =>
      rintro j d hd _ ⟨g,J,rfl⟩;rw[cR] at hd;obtain⟨n,en,rfl⟩:=hH.mp hd;have U:=eS en;have tn:=tr n U;have L:((v++((p.2.take j).filter (dF rs p.1)).map λn=>bS p.1 n (sU rs p.1 n)).map au).length<sizeLine:=by
       simp only[ab,eH];have:((p.2.take j).filter (dF rs p.1)).length<=(p.2.filter (dF rs p.1)).length:=(ab6 _ (Wu _ _)).length_le;rw[ab] at *;delta dk
       lia
      have step:(v++((p.2.take (j+1)).filter (dF rs p.1)).map λn=>bS p.1 n (sU rs p.1 n))=(v++((p.2.take j).filter (dF rs p.1)).map λn=>bS p.1 n (sU rs p.1 n))++(if dF rs p.1 n=true then [bS p.1 n (sU rs p.1 n)] else []):=by
       simp only[fH en,Yj,eW,pe];congr 2
       by_cases B:dF rs p.1 n=true
       ·rw[if_pos B,z7,if_pos B];rfl
       ·rw[if_neg B,z7,if_neg B];rfl
      rw[step];generalize (v++((p.2.take j).filter (dF rs p.1)).map λn=>bS p.1 n (sU rs p.1 n))=M at *
      refine⟨[.dat W,.dat R,.own D,.own (.lst (M.map au)),.dat (.str p.1),.dat (.lst (p.2.map .str)),.dat (.str n)],by rcases J with rfl|⟨d,rfl⟩<;>rfl,?_⟩
      have done:∀u:bz,dF rs p.1 n=true->u=bS p.1 n (sU rs p.1 n)->∃g,Fr g/\[.dat W,.dat R,.own D,.own (.lst (M.map au++[au u])),.dat (.str p.1),.dat (.lst (p.2.map .str)),.dat (.str n)]=[.dat W,.dat R,.own D,.own (.lst ((M++(if dF rs p.1 n=true then [bS p.1 n (sU rs p.1 n)] else [])).map au)),.dat (.str p.1),.dat (.lst (p.2.map .str)),g]:=λu B e=>⟨_,.inr ⟨.str n,rfl⟩,by rw[if_pos B,eW,e];rfl⟩
      have C:=yV tn (show 0<4 by decide) (show 1<4 by decide)
      have O:=yV tn (show 2<4 by decide) (show 3<4 by decide)
      by_cases o:aY n=true
      ·obtain⟨m,q,rfl⟩:=oj ((fq n).mp o);have kp:dF rs p.1 (ax m)=true:=by unfold dF;rw[o];rfl
       have V:sU rs p.1 (ax m)=m:=by unfold sU;rw[if_pos o,yj q]
       rw[V] at done;have q1:=nI q (show 1<4 by decide)
       have q3:=nI q (show 3<4 by decide)
       have B:m=0\/m=1\/m=2\/m=3:=by omega
       have dn:∀{i j:Nat},i<4->j<4->(decide (ax m=ax i\/ax m=ax j))=decide (m=i\/m=j):=λhi hj=>decide_eq_decide.mpr ⟨λz=>z.imp (o7 q hi) (o7 q hj),λz=>z.imp (λe=>by rw[e]) (λe=>by rw[e])⟩
       rw[dn (by decide) (by decide)] at C O
       clear dn
       rcases B with rfl|rfl|rfl|rfl
       ·refine ag (rX (aP (ao rfl (af (bA (aa rfl (aa rfl ai)) c) rfl) C)) rfl (ag (gb (gr (d:=au (bS p.1 (ax 0) 0)) rfl (aa (cu (aa (iG (af (bA (aa rfl (aa rfl ai)) c) rfl) (af (aF (aa (af (ao rfl rfl q1) rfl) ai) rfl) rfl) rfl) (aa rfl (aa rfl ai))) I) ai) L) (ak (aB (ak (aB (done _ kp rfl))))))))
       ·refine ag (rX (aP (ao rfl (af (bA (aa rfl (aa rfl ai)) c) rfl) C)) rfl (ag (gb (gr (d:=au (bS p.1 (ax 1) 1)) rfl (aa (cu (aa (iG (af (bA (aa rfl (aa rfl ai)) c) rfl) (af (aF (aa (af (ao rfl rfl q1) rfl) ai) rfl) rfl) rfl) (aa rfl (aa rfl ai))) I) ai) L) (ak (aB (ak (aB (done _ kp rfl))))))))
       ·refine ag (r6 (aP (ao rfl (af (bA (aa rfl (aa rfl ai)) c) rfl) C)) rfl (ag (rX (aP (ao rfl (af (bA (aa rfl (aa rfl ai)) c) rfl) O)) rfl (ag (gb (gr (d:=au (bS p.1 (ax 2) 2)) rfl (aa (cu (aa (iG (af (bA (aa rfl (aa rfl ai)) c) rfl) (af (aF (aa (af (ao rfl rfl q3) rfl) ai) rfl) rfl) rfl) (aa rfl (aa rfl ai))) I) ai) L) (ak (aB (ak (aB (ak (aB (done _ kp rfl))))))))))))
       ·refine ag (r6 (aP (ao rfl (af (bA (aa rfl (aa rfl ai)) c) rfl) C)) rfl (ag (rX (aP (ao rfl (af (bA (aa rfl (aa rfl ai)) c) rfl) O)) rfl (ag (gb (gr (d:=au (bS p.1 (ax 3) 3)) rfl (aa (cu (aa (iG (af (bA (aa rfl (aa rfl ai)) c) rfl) (af (aF (aa (af (ao rfl rfl q3) rfl) ai) rfl) rfl) rfl) (aa rfl (aa rfl ai))) I) ai) L) (ak (aB (ak (aB (ak (aB (done _ kp rfl))))))))))))
      ·have nw:∀i,i<4->n≠ax i:=λi hi e=>o ((fq n).mpr (e ▸ fQ hi))
       have o:aY n=false:=by simpa using o
       rw[decide_eq_false (λz=>z.elim (nw 0 (by decide)) (nw 1 (by decide)))] at C
       rw[decide_eq_false (λz=>z.elim (nw 2 (by decide)) (nw 3 (by decide)))] at O
       obtain⟨m,q,hs⟩:=wF (tu.perm.mem_iff.mp U)
       rcases u7 hs with z|⟨y,N,sq,rfl⟩
       ·exact absurd z (nw m q)
       ·have V:sU rs p.1 y.1=mY x.2 y.2:=by
         unfold sU;rw[o,e1,nX F.nd hx,nX F.nd N];rfl
        have ke:dF rs p.1 y.1=decide (mY x.2 y.2<2):=by unfold dF;rw[o,V];rfl
        rw[V,ke] at done ⊢;have ky:=kg y N;rw[<-e1] at kx;unfold mY at done ⊢;refine ag (r6 (aP (ao rfl (af (bA (aa rfl (aa rfl ai)) c) rfl) C)) rfl (ag (r6 (aP (ao rfl (af (bA (aa rfl (aa rfl ai)) c) rfl) O)) rfl (ag (ck (b:=decide (x.2.t=y.2.b)) (aP (ao (iG (a9 rfl rfl rfl kx) rfl rfl) (iG (a9 rfl rfl rfl ky) rfl rfl) (eq_int _ _))) (λz=>?_) (λz=>?_))))))
        ·have z:=of_decide_eq_true z;rw[if_pos z] at done ⊢;exact ag (gb (gr (d:=au (bS p.1 y.1 0)) rfl (aa (cu (aa rfl (aa rfl (aa rfl ai))) I) ai) L) (ak (aB (ak (aB (ak (aB (ak (aB (done _ rfl rfl))))))))))
        ·have z:=of_decide_eq_false z;rw[if_neg z] at done ⊢;refine ag (ck (b:=decide (x.2.r=y.2.l)) (aP (ao (iG (a9 rfl rfl rfl kx) rfl rfl) (iG (a9 rfl rfl rfl ky) rfl rfl) (eq_int _ _))) (λG=>?_) (λG=>?_))
         ·have G:=of_decide_eq_true G;rw[if_pos G] at done ⊢;exact ag (gb (gr (d:=au (bS p.1 y.1 1)) rfl (aa (cu (aa rfl (aa rfl (aa rfl ai))) I) ai) L) (ak (aB (ak (aB (ak (aB (ak (aB (ak (aB (done _ rfl rfl))))))))))))
         ·have G:=of_decide_eq_false G;rw[if_neg G];have ng:¬decide ((if x.2.b=y.2.t then 2 else 3)<2)=true:=by split<;>simp
          rw[if_neg ng,yv];exact aB (ak (aB (ak (aB (ak (aB (ak (aB ⟨_,.inr ⟨.str y.1,rfl⟩,rfl⟩))))))))
def zJ(fn:aS):Prop:=∀ns:List Int,ns.length<=63->(∀n∈ns,jy n)->fn [.cj ns]=some (.dat (.bl true))
def OK (h:bU a):gh (cN rs a):=λt c=>by
 obtain⟨p,b,n,d,_,rfl⟩:=Bc.mp c;exact uY (h.txt (.inl (bg.mpr ⟨p,b,rfl⟩))) (h.txt ((h.rg p b).2.2 n d).1) _
def M4{f g:DF}{Z Z1 Z2:DS}{ts:List bz}(h:f Z=some (.lst (ts.map au),Z1))(a:g Z1=some (.int (-1),Z2)):mW f g Z=some (.own (.lst (ts.reverse.map au)),Z2):=by
 delta mW;rw[h];show (g Z1).bind _=_;rw[a];show some (Res.own (.lst (ts.map au).reverse),Z2)=_;rw[YE]
def Qm(T:Txt mg)(o:bq P w K mg base "_law_purse" 2 (aN K D))(s1:Cd D)(p:bq P w K mg base "_law_floor" 3 (dM K 0 M))(s2:zj M)(q3:bq P w K mg base "_law_web" 4 (aN K G))(s3:zk G)(q4:bq P w K mg base "_law_turned_web" 2 (dM K 0 N))(s4:zQ N)(q5:bq P w K mg base "_law_tinting" 1 (aN K I))(s5:Fo I)(q6:bq P w K mg base "is_tinting" 5 (aN K J))(U:yk J)(q7:bq P w K mg base "_law_right" 6 (aN K L))(V:A8 L)(q8:bq P w K mg base "_law_draw" 1 (dM K 0 iQ))(q9:bq P w K mg base "_law_bent" 2 (dM K 0 O))(s9:EU O)(F:bw K "law" "law" yx f W):∃fn,bb P w K mg base a8 7 f W ["_law_script"] (aN K fn)/\zJ fn:=by
 refine' cx F Fj rfl ?R ?S
 case R =>
  intro cdv A outer s H E hr;cases T;have lk:lI "_law_purse_here":=⟨trivial⟩
  walk_at "S"
 case S =>
  intro ns X R;obtain⟨Y,e1⟩:=s1 ns X R;obtain⟨_,_,e2,rs,p2,rfl,rfl,e⟩:=s2 Y 8 (by decide) (by decide)
  have so:∀x∈rs,sN rs x.2:=λx _=>e.fl.some x.2
  have f8:=e.fl.cb;have e3:=s3 rs (by lia) (λy hy=>e.fl.pK hy) λx i k hk=>(zS hk (so x i)).1
  have ew:(rs.map λx=>(x.1,bT rs x.2 0++(bT rs x.2 1).reverse++(bT rs x.2 2).reverse++bT rs x.2 3))=fF rs:=ql λx i=>by rw[K4 (so x i)]
  rw[ew] at e3;obtain⟨r,Sk⟩:=e.web;have j:=r.cb;obtain⟨_,_,e4,c,u,rfl,rfl,v⟩:=s4 p2 (fF rs) j.1 j.2 λz hz=>by
   have a:=(r.rg z hz).1;have b:=r.len hz;lia
  obtain⟨h,hw⟩:=v.ok r Sk;obtain⟨_,e5,ts,rfl,pm⟩:=s5 rs c e v h hw;have B:gh ts:=λt g=>OK h t (pm.mem_iff.mp g)
  have hl:=pm.length_eq.trans (yD e.fl v h hw);have h60:=xU h hw;have hpos:=Nq h hw;have t1:=R0 e.fl v h hw (ts:=ts.reverse) ((aaB ts).trans pm);have e6:=U c ts.reverse h hw (λt g=>B t (List.mem_reverse.mp g)) (by rw[L'];omega)
  rw[t1] at e6;have Q:=U c [] h hw (λt g=>by cases g) (by decide)
  have t2:eG c []=false:=by
   delta eG;rw[decide_eq_false (show ¬([]:List bz).length=dE c by show ¬0=_;omega)]
   rfl
  rw[t2] at Q;have e7:=V c ts h hw B (by omega)
  have lr:cH (.lst (ts.map au))=some ts.length:=by simp[cH]
  refine' dg rfl ?w
  case w =>
   show WS _ [.dat (.cj ns),.no,.no,.no,.no,.no,.no] _;refine' ag (aI (Z2:=[.dat (.cj ns),.own (pD Y),.no,.no,.no,.no,.no]) (aF (aa rfl ai) e1) rfl (ak ?_));refine' ag (aI (Z2:=[.dat (.cj ns),.own (pD p2),.own (aJ rs),.no,.no,.no,.no]) (dI rfl (aa rfl ai) rfl e2 rfl) rfl (ak ?_));refine' ag (aI (Z2:=[.dat (.cj ns),.own (pD u),.dat (aJ rs),.own (.lst (c.map pairD)),.no,.no,.no]) (dI rfl (aa (af (aF (aa rfl ai) e3) rfl) ai) rfl e4 rfl) rfl (ak ?_));refine' ag (aI (Z2:=[.dat (.cj ns),.own (pD u),.dat (aJ rs),.dat (.lst (c.map pairD)),.own (.lst (ts.map au)),.no,.no]) (aF (aa rfl (aa rfl ai)) e5) rfl (ak ?_));refine' eY (Z1:=[.dat (.cj ns),.own (pD u),.dat (aJ rs),.dat (.lst (c.map pairD)),.dat (.lst (ts.map au)),.no,.no]) (v_or (aP (ao (af (aF (aa rfl (aa (af (M4 rfl rfl) rfl) ai)) e6) rfl) rfl rfl)) (sS rfl (kS (iE (af (aF (aa rfl (aa rfl ai)) e7) rfl) rfl)))) rfl ?_;refine' ag (dO (λk Z=>∃(q:Int×Int) (C l:Slot),Fr C/\Fr l/\Z=[.dat (.cj ns),.own (pD q),.dat (aJ rs),.dat (.lst (c.map pairD)),.dat (.lst (ts.map au)),C,l]) (lH (aa rfl ai) ⟨by decide,by decide⟩) ⟨u,.no,.no,.inl rfl,.inl rfl,rfl⟩ ?st ?fin)
   case fin =>
    rintro _ ⟨q,C,l,_,_,rfl⟩;exact ak (ag (bc (ao (af (aF (aa rfl (aa (af (bA ai (qh _)) rfl) ai)) Q) rfl) rfl rfl) (cG ⟨_,rfl⟩)))
   case st =>
    rintro k x i _ ⟨q,C,l,f5,f6,rfl⟩;obtain⟨hk,rfl⟩:=rb (n:=10) i;refine⟨[.dat (.cj ns),.own (pD q),.dat (aJ rs),.dat (.lst (c.map pairD)),.dat (.lst (ts.map au)),.dat (.int k),l],by rcases f5 with rfl|⟨d,rfl⟩<;>rfl,?_⟩
    obtain⟨v1,o,d1,a1,b1⟩:=fS q (m:=(ts.length:Int)) (by omega) (by omega)
    obtain⟨a,rfl⟩:=I1 a1;refine' ag (aI (Z2:=[.dat (.cj ns),.own (pD o),.dat (aJ rs),.dat (.lst (c.map pairD)),.dat (.lst (ts.map au)),.dat (.int k),.dat (.int a)]) (dI rfl (aa (eJ rfl lr) ai) rfl d1 rfl) (by rcases f6 with rfl|⟨d,rfl⟩<;>rfl) (ak ?_))
    have sF:eI (.lst (ts.map au)) (some (a:Int)) none=some (.own (.lst ((ts.drop a).map au))):=by
     show some (Res.own (.lst (cutD (ts.map au) (some (a:Int)) none)))=_;rw[mP,Vp]
    have sT:eI (.lst (ts.map au)) none (some (a:Int))=some (.own (.lst ((ts.take a).map au))):=by
     show some (Res.own (.lst (cutD (ts.map au) none (some (a:Int)))))=_;rw[mJ,Vo]
    have pl:(ts.drop a++ts.take a).length=ts.length:=by
     rw[eH,se,mv];omega
    have ad:g8 (.lst ((ts.drop a).map au)) (.lst ((ts.take a).map au))=some (.own (.lst ((ts.drop a++ts.take a).map au))):=by
     rw[eW];rw[eH] at pl;exact nP (by rw[ab,ab];unfold dk;omega)
    obtain⟨_,_,e9,us,p,rfl,rfl,hU,hu⟩:=s9 o (ts.drop a++ts.take a) (λt g=>by
     rcases eK.mp g with z|z
     ·exact B t (WW z)
     ·exact B t (VX z)) (by omega) (by omega)
    have e8:=V c us h hw hU (by omega)
    refine' eY (Z1:=[.dat (.cj ns),.own (pD p),.dat (aJ rs),.dat (.lst (c.map pairD)),.dat (.lst (ts.map au)),.dat (.int k),.dat (.int a)]) (kS (iE (af (aF (aa rfl (aa (af (dI rfl (aa (af (ao (af (jX rfl rfl sF) rfl) (af (jv rfl rfl sT) rfl) ad) rfl) ai) rfl e9 rfl) rfl) ai)) e8) rfl) rfl)) rfl ?_;exact aB ⟨p,.dat (.int k),.dat (.int a),.inr ⟨_,rfl⟩,.inr ⟨_,rfl⟩,rfl⟩
end
section
open W
section
variable{P:lT}{w:px}{K:gj}{mg:fk->Option cA}{base:qt}
structure DI (K:gj) (x:fk) (s:Wt) (f:eu):Prop where
 a:VA K nE x=some (some (.ref f))
 l:∃fd,bw K x x s f fd
 k:YJ K (.ref f)=true
def DI.ok{x:fk}{s:Wt}{f:eu}{e:lq}{c:List fk}{k:Nat}{sp:Sp}{h:qt}(d:DI K x s f)(X:K.In h)(G:h.Ns nE mg)(F:bw K x x s f e)(o:bb P w K mg base a8 k f e c sp)(b:∀(kV g pm:cA) (j:Option eu) (i ct:cA) (us:List cA),us.length=c.length->aaV (YZ x x (oH s) (jg s) (aV s) .none kV g pm j i ct) ⟨us,[]⟩=pure (c.zip us)):bq P w K mg base x k sp:=⟨f,e,c,o,YI X G d.a,d.k,F.binds b⟩
def DI.go{h:qt}{x:fk}{s:Wt}{f:eu}{a:List fk}{k:Nat}{e:Type}{Sp:e->Sp}{S:e->Prop}(X:K.In h)(G:h.Ns nE mg)(d:DI K x s f)(o:∀{c:lq},bw K x x s f c->∃fn,bb P w K mg base a8 k f c a (Sp fn)/\S fn)(b:∀(kV g pm:cA) (j:Option eu) (i ct:cA) (us:List cA),us.length=a.length->aaV (YZ x x (oH s) (jg s) (aV s) .none kV g pm j i ct) ⟨us,[]⟩=pure (a.zip us)):∃fn,bq P w K mg base x k (Sp fn)/\S fn:=by
 obtain⟨c,F⟩:=d.l;obtain⟨fn,q,r⟩:=o F;exact⟨fn,d.ok X G F q b,r⟩
def Bb:∀{us:List b},us.length=1->∃a,us=[a]:=List.length_eq_one_iff.mp
theorem Ag (h:us.length=2):∃a b,us=[a,b]:=by
 cases us with
 | nil=>cases h
 | cons a r=>obtain⟨b,rfl⟩:=Bb (Nat.succ.inj h);exact⟨a,b,rfl⟩
theorem BJ (h:us.length=3):∃a b c,us=[a,b,c]:=by
 cases us with
 | nil=>cases h
 | cons a r=>obtain⟨b,c,rfl⟩:=Ag (Nat.succ.inj h);exact⟨a,b,c,rfl⟩
theorem Fw (h:us.length=4):∃a b c d,us=[a,b,c,d]:=by
 cases us with
 | nil=>cases h
 | cons a r=>obtain⟨b,c,d,rfl⟩:=BJ (Nat.succ.inj h);exact⟨a,b,c,d,rfl⟩
noncomputable def tQ(K:gj):Sp:=λvs H Q _=>∃(a:eu) (ns:List Int),vs=[.ref a]/\cw K H a (ns.map V.int)/\ns.length<=63/\(∀n∈ns,jy n)/\∀b,Q (.bl true) b
def NG (s:zJ fn)(vs:List V)(H:Hp)(Q:VK)(E:XK)(h:tQ K vs H Q E):aN K fn vs H Q E:=by
 obtain⟨a,ns,rfl,b,hl,c,k⟩:=h;refine⟨H,[.cj ns],_,aj.refl H,⟨.ref a,[],rfl,⟨a,rfl,b⟩,rfl⟩,s ns hl c,?_⟩;rintro v d Hi2 _ _ _ _ e;cases (e)
 exact k d
end
local macro_rules | `(tactic| walk_at "bn")=>`(tactic| (intro _ _ _ _ _ _ us hl;first | (obtain⟨_,e⟩:=Bb hl;subst e;rfl) | (obtain⟨_,_,e⟩:=Ag hl;subst e;rfl) | (obtain⟨_,_,_,e⟩:=BJ hl;subst e;rfl) | (obtain⟨_,_,_,_,e⟩:=Fw hl;subst e;rfl)))
def all_mk{l:aaI}{w:px}{K:gj}{h:qt}{mg:fk->Option cA}{fa Y Z be Sh Si Sj Sk Sl Sm Sn So Sq Sr Ss Su Sv Sw Sx Sy Sz SA SD SE SG SH SI SJ SK SM SN SO SQ SU SV SW SX SY S6 S7:eu}{i:eu}{t1 t2 t3 t4 t5 t6 t7:Tok}{nW:Nat}{U':Array (Option cA)}(X:K.In h)(G:h.Ns nE mg)(Va:mg "law"=some (.ref fa))
 (S8:DI K "follower" uX Y)
 (S9:DI K "is_name" xS Z)
 (Ta:DI K "is_pair" uD be)
 (Tb:DI K "is_ring" xE Sh)
 (Tc:DI K "has_form" vn Si)
 (Td:DI K "ties_are_shared" vG Sj)
 (Te:DI K "corners_of" v7 Sk)
 (Tf:DI K "corner_closes" vE Sl)
 (Tg:DI K "corners_close" xq Sm)
 (Th:DI K "row_along" uV Sn)
 (Ti:DI K "wall_has_row" vw So)
 (Tj:DI K "has_one_of" vf Sq)
 (Tn:DI K "all_reached" xf Sr)
 (To:DI K "ties_of" vI Ss)
 (Tp:DI K "threes_of" yE Su)
 (Tq:DI K "must_web" xG Sv)
 (Tr:DI K "row_of" wj Sw)
 (Tt:DI K "goes_round" uO Sx)
 (Tu:DI K "stands_round" xY Sy)
 (Tv:DI K "is_tinting" wH Sz)
 (Tw:DI K "_law_mixed" xt SA)
 (Tx:DI K "_law_purse" wc SD)
 (Tz:DI K "_law_draw" vD SE)
 (TB:DI K "_law_names" vA SG)
 (TC:DI K "_law_cut" xn SH)
 (TF:DI K "_law_floor" xi SI)
 (TH:DI K "_law_meets" vR SJ)
 (TJ:DI K "_law_side" xM SK)
 (TK:DI K "_law_neighbours" vX SM)
 (TL:DI K "_law_web" uU SN)
 (TM:DI K "_law_turned_web" wQ SO)
 (TN:DI K "_law_tinting" wO SQ)
 (TQ:DI K "_law_way" vY SU)
 (TR:DI K "_law_round" xy SV)
 (TU:DI K "_law_good" vm SW)
 (TV:DI K "_law_turned_on" wV SX)
 (TX:DI K "_law_bent" vP SY)
 (TY:DI K "_law_right" yN S6)
 (r:DI K "law" yx S7)
 (D:VA K nE "len"=some none)
 (E:VA K nE "int"=some none)
 (c:VA K nE "isinstance"=some none)
 (p:VA K nE "range"=some none)
 (I:VA K nE "min"=some none)
 (J:VA K nE "max"=some none)
 (L:VA K nE "all"=some none)
 (t:VA K nE "dict"=some none)
 (j:VA K nE "sorted"=some none)
 (q:VA K nE "tuple"=some none)
 (u:VA K nE "list"=some none)
 (M:VA K nE "str"=some none)
 (x:VA K nE "bool"=some none)
 (N:VA K nE "any"=some none)
 (O:VA K nE "set"=some none)
 (Q:VA K nE "abs"=some none)
 (R:VA K nE "zip"=some none)
 (aW:VA K nE "WALLS"=some (some (.ref i)))
 (lW:K.lookup i=some ⟨.type "tuple",none,.seq #[.str "north" t1,.str "east" t2,.str "south" t3,.str "west" t4] nW,U'⟩)
 (aM:VA K nE "MOST_ROOMS"=some (some (.int 8 t5)))
 (aL:VA K nE "LONGEST_NAME"=some (some (.int 8 t6)))
 (aR:VA K nE "FEWEST_NEIGHBOURS"=some (some (.int 3 t7))) :
  ∃fd:lq,(∀(s:ee) (v:cA),aax s fd ⟨[v],[]⟩ [("_law_script",v)])/\∀base:qt,K.In base->base.Ns nE mg->bb l.prog w K mg base a8 7 fa fd ["_law_script"] (tQ K):=by
 have e:=Va.symm.trans (YI X G r.a);cases e;have T:Txt mg:=⟨uz X G D,uz X G E,uz X G c,uz X G p,uz X G I,uz X G J,uz X G L,uz X G t,uz X G j,uz X G q,uz X G u,uz X G M,uz X G x⟩;obtain⟨S,y⟩:=r.l;obtain⟨_,_,_,_,_,_,_,_,_,Ve,_,_⟩:=id y.ex;refine⟨S,λs v=>by rw[Ve];exact .of_eq rfl,λbase _ _=>?_⟩
 have go:=@DI.go l.prog w K mg base h;obtain⟨_,b,rfl⟩:=go X G Tz (λF=>⟨_,Gc T F,rfl⟩) (by walk_at "bn")
 have d:fG K mg "WALLS" (.tup [.str "north",.str "east",.str "south",.str "west"]):=⟨.ref i,_,YI X G aW,rfl,λH=>⟨i,[.str "north",.str "east",.str "south",.str "west"],rfl,.inr ⟨_,_,_,lW,rfl,rfl,(by show 4<=dk;unfold dk;decide),.cons ⟨_,rfl⟩ (.cons ⟨_,rfl⟩ (.cons ⟨_,rfl⟩ (.cons ⟨_,rfl⟩ .nil)))⟩,⟨_,_,rfl,rfl,_,_,rfl,rfl,_,_,rfl,rfl,_,_,rfl,rfl,rfl⟩⟩⟩
 have gM:fG K mg "MOST_ROOMS" (.int 8):=⟨.int 8,_,YI X G aM,⟨_,rfl⟩,λH=>rfl⟩
 have gL:fG K mg "LONGEST_NAME" (.int 8):=⟨.int 8,_,YI X G aL,⟨_,rfl⟩,λH=>rfl⟩
 have gT:u5 K mg "WALLS" DX:=⟨i,_,_,_,YI X G aW,lW,rfl,rfl,rfl,(by show 4<=dk;unfold dk;decide),.cons ⟨_,rfl⟩ (.cons ⟨_,rfl⟩ (.cons ⟨_,rfl⟩ (.cons ⟨_,rfl⟩ .nil)))⟩
 have gF:fG K mg "FEWEST_NEIGHBOURS" (.int 3):=⟨.int 3,_,YI X G aR,⟨_,rfl⟩,λH=>rfl⟩
 have U:=uz X G N;have f:=uz X G O;have g:=uz X G R;have V:=uz X G Q;obtain⟨_,TZ,T1⟩:=go X G S9 (KS T d gL) (by walk_at "bn")
 obtain⟨_,k,m⟩:=go X G S8 (JO T d gT) (by walk_at "bn")
 obtain⟨_,T3,T4⟩:=go X G Ta (NF T TZ T1) (by walk_at "bn")
 obtain⟨_,T5,T6⟩:=go X G Tb (K7 T gF f) (by walk_at "bn")
 obtain⟨_,T7,T8⟩:=go X G Tc (IW T d gM f T3 T4 T5 T6) (by walk_at "bn")
 obtain⟨_,T9,Ua⟩:=go X G Td (RB T) (by walk_at "bn")
 obtain⟨_,n,o⟩:=go X G Te (QX T g) (by walk_at "bn")
 obtain⟨_,Ub,Uc⟩:=go X G Tf (RX T d k m) (by walk_at "bn")
 obtain⟨_,Ud,Ue⟩:=go X G Tg (G0 T n o Ub Uc) (by walk_at "bn")
 obtain⟨_,Ug,Uh⟩:=go X G Th (J9 T) (by walk_at "bn")
 obtain⟨_,Ui,Uj⟩:=go X G Ti (HC T n o k m Ug Uh) (by walk_at "bn")
 obtain⟨_,Uk,Ul⟩:=go X G Tj (LQ T U) (by walk_at "bn")
 obtain⟨_,Um,Uo⟩:=go X G Tn (Pe T d Uk Ul) (by walk_at "bn")
 obtain⟨_,z,A⟩:=go X G To (Il T d) (by walk_at "bn")
 obtain⟨_,Uq,Ur⟩:=go X G Tp (Jg T n o) (by walk_at "bn")
 obtain⟨_,Us,Ut⟩:=go X G Tq (Ka T d T7 T8 T9 Ua Ud Ue Ui Uj Um Uo Uq Ur z A) (by walk_at "bn")
 obtain⟨_,Uu,Uv⟩:=go X G Tr (Kn T) (by walk_at "bn")
 obtain⟨_,Uw,Ux⟩:=go X G Tt (Q3 T d g k m) (by walk_at "bn")
 obtain⟨_,Uy,Uz⟩:=go X G Tu (Nn T d Uu Uv Uw Ux) (by walk_at "bn")
 obtain⟨_,B,C⟩:=go X G Tv (Mh T Us Ut z A Uy Uz) (by walk_at "bn")
 obtain⟨_,UA,UB⟩:=go X G Tw (Mx T) (by walk_at "bn")
 obtain⟨_,UC,UD⟩:=go X G Tx (GX T V UA UB) (by walk_at "bn")
 obtain⟨_,UE,UG⟩:=go X G TB (K5 T b) (by walk_at "bn")
 obtain⟨_,UH,UI⟩:=go X G TC (RH T b) (by walk_at "bn")
 obtain⟨_,UJ,UK⟩:=go X G TF (N7 T b UE UG UH UI) (by walk_at "bn")
 obtain⟨_,UL,UM⟩:=go X G TH (MY T) (by walk_at "bn")
 obtain⟨_,UN,UO⟩:=go X G TJ (F7 T UL UM) (by walk_at "bn")
 obtain⟨_,UP,UQ⟩:=go X G TK (NH T UN UO) (by walk_at "bn")
 obtain⟨_,UR,US⟩:=go X G TL (QR T UP UQ) (by walk_at "bn")
 obtain⟨_,UT,UU⟩:=go X G TM (OX T b) (by walk_at "bn")
 obtain⟨_,UW,UX⟩:=go X G TN (GV T) (by walk_at "bn")
 obtain⟨_,UY,UZ⟩:=go X G TQ (Hn T) (by walk_at "bn")
 obtain⟨_,U0,U1⟩:=go X G TR (Of T) (by walk_at "bn")
 obtain⟨_,U2,U3⟩:=go X G TU (JE T g f UY UZ U0 U1) (by walk_at "bn")
 obtain⟨_,U4,U5⟩:=go X G TV (II T) (by walk_at "bn")
 obtain⟨_,U6,U7⟩:=go X G TX (PK T b U4 U5) (by walk_at "bn")
 obtain⟨_,U8,U9⟩:=go X G TY (HJ T B C U2 U3) (by walk_at "bn")
 obtain⟨fnL,oL,sL⟩:=Qm (P:=l.prog) (w:=w) (base:=base) T UC UD UJ UK UR US UT UU UW UX B C U8 U9 b U6 U7 y;exact oL.imp (NG sL)
def walk{l:aaI}{q:lT}{c:List fk}{y:(fk->Option cA)->qt->Prop}{j:px->qt->Prop}{d:DefRec}{K:Params->gj}(A:l.most=some 63)(m:d.params.defaults=[])
 (B:∀(w:px) (h:qt),j w h->(K w.params).In h)
 (F:∀(w:px) (mg:fk->Option cA) (fa:eu) (h:qt),(K w.params).In h->h.Ns nE mg->mg d.name=some (.ref fa) ->
   ∃e:lq,(∀(s:ee) (u:cA),aax s e ⟨[u],[]⟩ [("_law_script",u)])/\∀base:qt,(K w.params).In base->base.Ns nE mg->bb l.prog w (K w.params) mg base a8 7 fa e ["_law_script"] (tQ (K w.params))) :
  W.WalkO q c y j l.row.toRowW d [] (λf vs=>PySem.call f vs) :=
 by
 intro w s0 s1 mg mb G Y fa o pm cd doc dV kV ho hd hcd p t C args vals as D E hr I hx;cases Dflts.none p m;cases Dflts.noKw p;obtain⟨a,vs,ns,rfl,rfl,J,L,v⟩:=Ja A D I;have x:=B w _ Y;obtain⟨e,M,N⟩:=F w mg fa _ x G.T.g t;have O:∀n∈ns,jy n:=λn i=>PyData.bits_of_layable (layableW_item (layW_cons E).1 (.int n) (bg.mpr ⟨n,i,rfl⟩))
 refine enter_call (X7 (Kz x G.T.g G.T.b G.T.builtins G.T.nolimit C J L (wd v (by decide)) ⟨rfl,by decide,by decide⟩ N M (λH _ P=>⟨a,ns,rfl,P,v,O,λ_=>rfl⟩) λ_ _ _ z=>z) λr s' Q=>?_)
 obtain⟨rfl,R,S,U⟩:=Q;exact⟨.inl ⟨.bool true,.bool true,[],rfl,λ_=>rfl,.bool true,Pa l _,λ_=>⟨Wc,λ_ i=>nomatch i⟩⟩,R,S,U⟩
end
end
end L2
open PySem PySem.W PyProof.Rows
local macro_rules | `(tactic| walk_at "df") => `(tactic| (refine' ⟨_, L2.Qa ?l ?c ?k⟩; (case l => k_is); (case c => k_is); (case k => k_is)))
local macro_rules | `(tactic| walk_at "di") => `(tactic| (refine' L2.DI.mk ?a ?b ?c; (case a => k_is); (case b => walk_at "df"); (case c => first | k_is | kit_is)))
namespace PySem.W.Fast
def tw582084222984649912:=()
def tw3452013546217797141:=()
def tw10644973512850683037:=()
def tw599335779035003552:=()
def tw13642142048895956033:=()
def tw6655860954722494257:=()
def tw6415086700775319877:=()
def tw6540337411577622540:=()
def tw14654163012148720405:=()
def tw721386641175800285:=()
def tw5397802785099242712:=()
def tw11854929338416438600:=()
def tw707323091816601718:=()
def tw3597507693617602600:=()
def tw12688137851569125735:=()
def tw3706785700338334784:=()
def tw10710585440274428397:=()
def tw8993895719049116589:=()
def tw10223301009892912110:=()
def tw4557391108502461870:=()
def tw2005129382234388872:=()
def tw5266254992965885316:=()
def tw12582739964178636627:=()
def tw7682007069540846929:=()
def tw6235262167241783356:=()
def tw10702602535947289179:=()
def tw11499774639200192639:=()
def tw9035018594742899206:=()
def tw13326230653407572544:=()
def tw18094141252388674006:=()
def tw16285063522473080807:=()
def tw12710697908678989699:=()
def tw12160394087596309325:=()
def tw13770769319610844269:=()
def tw10788268358998532404:=()
def tw9905189336704514024:=()
def tw5444474540176091100:=()
def tw10460319926313404786:=()
def tw7165291583503465162:=()
def tw3679588717744288532:=()
def tw4493011746081117651:=()
def tw8048564769451355041:=()
def tw2385212230244642480:=()
def tw2352152070457607275:=()
def tw10082211506158057947:=()
def tw74369281486787430:=()
def tw3321187437319541837:=()
def tw4807332613762443707:=()
def tw10461132115766860076:=()
def tw14819730372730138071:=()
def tw18035209456702941941:=()
def tw12047314056488766299:=()
def tw1433045904375286241:=()
def tw13533094212227202133:=()
def tw9657786839342899155:=()
def tw3432116524182000804:=()
def tw18298422489540542994:=()
def tw9828486099235156259:=()
def tw12332724908539036463:=()
def tw6453168971753237070:=()
def tw14852083068323373051:=()
def tw13442625090583765220:=()
def tw15319175543000018550:=()
def tw15725976775714895978:=()
def tw1994214678013073398:=()
def tw10128844540868231201:=()
def tw6660235838467971847:=()
def tw9096589118473518421:=()
def tw9868926721681531883:=()
def tw7834845220875824810:=()
def tw6734388232112948519:=()
def tw1191831959893810349:=()
def tw2232581641986669362:=()
def tw11371340324748626485:=()
def tw13424392804631647596:=()
def tw683416301239091268:=()
def tw15343549459164842533:=()
def tw4076885653540544654:=()
def tw8200516509847832102:=()
def tw17303842130739790201:=()
def tw3123740587659224805:=()
def tw7304493255039847996:=()
def tw15212928940387662594:=()
def tw12831397408555230188:=()
def tw11289200551640302380:=()
def tw6108899203924751109:=()
def tw10397021989534023306:=()
def tw9104491635648180381:=()
def tw13244467587970445166:=()
def tw1326407498450536045:=()
def tw6685063819999163724:=()
def tw667146526958902661:=()
def tw8577085772196910851:=()
def tw4052106598412222344:=()
def tw15121063757567412663:=()
def tw10282578003260384080:=()
def tw3982006035531822821:=()
def tw11205139088399365516:=()
def tw13084872525440211454:=()
def tw15182816842646675885:=()
def tw6635266090859628366:=()
def tw9251443617305376072:=()
def tw3347110207483830775:=()
def tw14191002524520706107:=()
def tw3437492675553388720:=()
def tw3885364768319806717:=()
def tw684992112811904907:=()
def tw10317547815311308881:=()
def tw10361432565855460004:=()
def tw5628913590311407770:=()
def tw11759053489082262433:=()
def tw17170439850663852901:=()
def tw2210902663037901935:=()
def tw4187142892122173505:=()
def tw5539341576890185812:=()
def tw8538928859400823647:=()
def tw8394505681612931447:=()
def tw4600454422478320941:=()
def tw6375264017282014370:=()
def tw6178955664454871595:=()
def tw16344121518260977995:=()
def tw9678085900872344098:=()
def tw2980857269073044796:=()
def tw10661874913140797704:=()
def tw14354182977516875814:=()
def tw4281397101495481681:=()
def tw18348030506002121952:=()
def tw7896864637715419282:=()
def tw17964910578983973433:=()
def tw17494448998799372560:=()
def tw15982756391933426688:=()
def tw17764024198702199759:=()
def tw6115696045850329300:=()
def tw3146184751819592441:=()
def tw5835660352734209856:=()
def tw1254771419849164877:=()
def tw7426959136363060543:=()
def tw11427525151022385972:=()
def tw3212646906029226287:=()
def tw11551791080569747405:=()
def tw11400338654916550933:=()
def tw5351154428081087966:=()
def tw17014690256785971945:=()
def tw537152189588604913:=()
def tw7779452291142691201:=()
def tw1031395076478764817:=()
def tw11404598834654534302:=()
def tw13378405202776708580:=()
def tw10009922422094626436:=()
def tw5734043245842681080:=()
def tw7443614477091371935:=()
def tw2339699997310681185:=()
def tw17493310847826007911:=()
def tw17647318468550829983:=()
def tw5953998682504277311:=()
def tw1775525363638865128:=()
def tw3381144689602436516:=()
def tw2071457878552807855:=()
def tw16532247799311781691:=()
def tw10364092794018344654:=()
def tw9814154868898449343:=()
def tw13346551272931525289:=()
def tw1144023489278584076:=()
def tw589706546460753610:=()
def tw16954691147381371776:=()
def tw12054101424879765:=()
def tw597737608985493754:=()
def tw9679400250943577080:=()
end PySem.W.Fast
set_option maxRecDepth 100000 in
set_option maxHeartbeats 0 in
theorem PySem.Challenge.cw_roomtouch_k11_tintings_looked_at_holds : PySem.Challenge.rw_roomtouch_k11_tintings_looked_at.Holds := by
  w_on; o_law; k_head; (case hw => w_witness2)
  k_fill
  refine L2.walk (l := PySem.Challenge.rw_roomtouch_k11_tintings_looked_at) rfl rfl (fun w h Y => W.kIn_of Y) ?F
  case F =>
    intro w mg fa h b G a
    refine' L2.all_mk b G a ?_ ?_ ?_ ?_ ?_ ?_ ?_ ?_ ?_ ?_ ?_ ?_ ?_ ?_ ?_ ?_ ?_ ?_ ?_ ?_ ?_ ?_ ?_ ?_ ?_ ?_ ?_ ?_ ?_ ?_ ?_ ?_ ?_ ?_ ?_ ?_ ?_ ?_ ?_ ?_ ?_ ?_ ?_ ?_ ?_ ?_ ?_ ?_ ?_ ?_ ?_ ?_ ?_ ?_ ?_ ?_ ?_ ?_ ?_ ?_ ?_
    all_goals try first | k_is | kit_is | k_exc | kts_exm | walk_at "df" | walk_at "di"
